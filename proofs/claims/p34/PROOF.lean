import PyProof.Rows.All
import Wide.All
import OpenK.AllK
import Wide.FinOn
import Lean
import PyProof.EqAt
import PyProof.EqKinds
import PyProof.TupleCall
import PyProof.Rows.TopTwo
import KE.KIsAll
import PyProof.ExcAttrAll.ValueError
import KE.KTryMore
import KE.KRevIter
import PyProof.SetRoads
import PySem.Challenge.RW_firstpowers_k34_papers_for_never_by_anyb
set_option Elab.async false
set_option linter.all false
set_option maxRecDepth 100000
set_option maxHeartbeats 8000000
open _root_ renaming List->G0,Nat->G9,Option->P2,Int->D1,decide_eq_false->D9,decide_eq_true->R4,if_neg->S7,if_pos->S8,Array->T9,Bool->M6,decide_eq_true_iff->B7,of_decide_eq_true->J0,String->J9,exists_eq_left'->K7,StateT->U0,decide_eq_true_eq->U4,if_true->cK,ForInStep->dY,if_false->gZ,of_decide_eq_false->kY,bne_self_eq_false->lU,beq_self_eq_true->mM,dif_pos->pY,not_or->sQ
open PySem renaming Value->G1,Shared->G3,Addr->G7,wpAny_pure->P1,starEach->D2,wpAny->R1,Program->R5,model->R6,FuncData->S0,Expr->S5,wpAny_mono->S6,Around->T0,foldedSetIterable->T7,compareOp->M7,World->N0,Heap->N2,PyData->C8,Stmt->F9,Scope->O0,eval->O4,mem_of_lookup->O6,wpAny_truthy_bool->O9,wpAny_holding->A1,wpAny_newObj_type->A9,wpAny_callSpecial?_slot->E1,bootBuiltins->E4,backTo->E6,cellsFrom->E7,wpAny_call_entry->E8,binaryOp->J5,behindInMarks->Q3,wpAny_execs_cons->V0,wpAny_Call_Name_kw->V2,wpAny_pyIter_tuple->V4,IsPair->V6,letOwnedTupleGo->W5,codeAny->X9,swapsWith->Y0,wpAny_pyIter_list->aA,wpAny_newFunctionEnv_cells->aD,rawInt->aM,wpAny_standAt->aR,swapsWithSole->aS,swappedStores->aT,attributeBase->aV,holding->bF,wpAny_execs_nil->bG,wpAny_passesOwn->bH,assignEach->bO,wpAny_call->bQ,wpAny_field->cC,sliceBounds->cE,codeAny_mono->cH,Keyword->cL,codeAny_call_function->cU,wpAny_rule->cX,TriplesOk->cY,Comprehension->dA,keywordEach->dF,codeAny_call_builtin->dG,assign->dL,Fin->dZ,builtinsNs->eJ,call_meets->fB,closureFor->fC,wpAny_binaryOp_repeat_ref->fW,Model->gA,CmpOp->gB,getItem->gE,wpAny_sequenceKey->gF,wpAny_attempt->gO,lastMarks->gV,noFill_tuple_add->gY,codeAmong->g6,standAt->hU,IsPart->iA,wpAny_typeOf->iB,typeIs_int->iF,codeAny_of_tree->iM,wpAny_loadName_local->iT,wpAny_bindName->iU,backToKw->iW,lookup_relabel_local->i0,wpAny_updateSeq_pair->i5,BindsTo->j0,Arguments->j5,callerA->j6,assignInOrder->kH,seq_tuple_add->kI,evalPart_none->kK,wpAny_onRaise->kO,wpAny_Name->kQ,wpAny_Assign_Name->lB,leaving->lF,name_of_addr->lG,codeAny_func->lH,concat_meets->lI,seqIndex_neg->lJ,compTurn->lM,wpAny_isNot_plain->lQ,wpAny_pyIter_enum->lS,seqSlot_of->mK,wpAny_isInstance->mL,checkBuiltinCall->mN,sizeLine_eq->mT,bindL->mU,bindC->mV,seqIndex_of->mX,pushCells_keeps->nA,codeAny_builtin->nD,listText_mem_le->nH,wpAny_Expr_any->nN,bindName->nO,pyNext->nP,pyIter->nQ,Result->nV,bindArgs->nW,newFunctionEnv->n9,compEnvC->oA,wpAny_is_plain->oC,wpAny_setField->oE,wpAny_newTuple->oG,boundAndCalled->oJ,intBits_le_64->oQ,evalPart_some->oU,call_list_seq->oW,comprehension->oX,eval_ListComp->oY,wpAny_newList->pE,PassesOwn->pI,Within->pO,setItem->pQ,callSpecial?->pT,callFunction->pW,interactive->qG,IsRangeIter->qH,Operator->qI,wpAny_Slice->qJ,subscripted->qL,wpAny_of_eq->qM,wpAny_load->qX,typeIs_str->rA,typeOf->rC,call->rD,reduceHash->rE,seqRepeat?->rF,IsEnum->rG,TypeCalled->rH,isInstance->rK,release->rO,truthy->sH,again->sJ,data2->sL,Params->sM,stored->sN,cellOf->sO
open PySem.W renaming Frag->G2,keepIn->A6,kia_one->E2,fnOf->Q5,hideAll_none->W6,hideAll_get->X8,cellsFrom_some->Y7,hideAll->aZ,codeIn->cI,of_hideAll->eI,kitOne->eQ,callWith_K->eU,codeRec_of->e8,methodObj->f8,tabIn->gM,instObj->iJ,kat_nil->iP,lookIn->iV,tabObj->i4,kitx_list->lD,kitx_dict->lE,nsIn->mE,plainGet->mG,OpenLaw->nB,kat_one->nM,findIn->nU,CodeHd->oB,Looks->pF,mg_of->pH,hideAll_size->qF,kas_first_eq->qU,kitx_float->qZ,kitx_tuple->q0,ki_setBack->rB,hasDictIn->rP,plainOver->rQ,specialIn->rR,kitx_none->rS,kitx_bool->rT,krv_range->rW,eq_bytes->rX,ne_bytes->rY,kitx_int->rZ,kitx_str->r9,kitx_own->sA,ki_setAt->sB,kat_cons->sC,codeHdIn->sD,takesIn->sE,krv_all->sF,kat_yes->sG,InstAt->sK,tab_of->sP,KatLex->sS,kat_go->sT,kat_no->sU,kat_lt->sW,mroIn->sZ,WalkO->tD
open PySem.Heap renaming get?_push_of_some->G5,lt_size->D4,get?_push_size->S3,SameBut->Y5,get?_update_self->Z6,size_push->cN,get?_update_ne->dS,get?_update_other->iD,ExtBut->mY,IsTuple->pS
open List renaming length_map->G6,getElem?_eq_getElem->G8,mem_singleton->P0,length_append->P4,mem_of_getElem?->P5,mem_cons->P6,append_assoc->P7,length_cons->P8,getElem?_eq_some_iff->D0,mem_append->D3,mem_cons_self->D5,mem_append_right->D6,size_toArray->D7,mem_cons_of_mem->D8,getElem?_map->R9,length_nil->S2,replicate->S4,not_mem_nil->S9,length_take->T1,all_eq_true->T3,take_append_drop->T4,take_of_length_le->T8,length_reverse->M1,getElem?_append_right->M5,pairwise_append->M8,range->N4,map_cons->N5,getD_eq_getElem?_getD->N6,length_drop->N7,mem_map->N8,nil_append->B3,mem_of_mem_drop->B9,getElem?_append_left->C4,mem_append_left->C5,mem_of_mem_take->C7,pairwise_singleton->F4,getElem?_cons_zero->F7,lookup_cons->L0,cons_append->L5,getElem_mem->L6,mem_range->L7,drop_eq_nil_of_le->L8,map_map->O7,take_add_one->A2,getElem?_set_ne->A3,mem_reverse->A7,append_nil->E3,drop_sublist->K1,reverse_perm->K3,replicate_succ->K4,map_append->K6,extract_eq_drop_take->Q0,getElem?_take_of_lt->Q4,map_nil->Q6,all_map->Q7,drop_append_of_le_length->U1,take_append_of_le_length->U2,take_sublist->U3,getElem?_cons_succ->U5,filterMap_cons->U6,getElem_of_mem->U7,getElem?_set_self->U8,pairwise_cons->V8,drop_drop->V9,length_singleton->W3,length_filter_le->W4,flatten_cons->W7,length_range->X1,pairwise_map->X4,length_eq_zero_iff->Y1,mem_filterMap->Y6,length_replicate->Z5,getElem?_eq_none->Z7,perm_append_comm->Z8,getElem?_reverse->Z9,pairwise_iff_getElem->aL,mem_filter->bE,nodup_cons->bI,of_mem_zip->bJ,forIn_cons->bK,zip_cons_cons->bR,filter_append->bT,getElem?_drop->bW,getElem?_replicate->cA,getElem?_set->cO,reverse_cons->cQ,pairwise_reverse->cW,any_cons->c9,eq_nil_of_length_eq_zero->dI,getElem?_range->dQ,length_pos_iff->dR,map_congr_left->dU,take_zero->fM,set_cons_succ->fQ,set_cons_zero->fT,getElem?_eq_none_iff->fY,mem_or_eq_of_mem_set->f6,zip_nil_left->gD,mapM_toArray->gK,flatMap_cons->gL,map->g7,any_eq_true->g8,all_toArray->hJ,range_succ_eq_map->iG,getElem_of_append->iI,length_set->iK,range_succ->iN,getElem?_toArray->iQ,set_append_right->iR,drop_take->i6,take_take->i7,getLast?_concat->i8,map_id->i9,mem_map_of_mem->j8,take_succ_cons->j9,flatMap_append->kG,zip_nil_right->kT,filterMap_map->kU,any_eq_false->lC,any_map->lN,getElem_take->l8,getElem_drop->l9,ext_getElem?->mB,map_id'->mC,append_cons->mO,take_length->mP,perm_middle->mS,length->mW,foldl_cons->m8,length_zip->nG,foldl->n5,forIn_nil->oF,drop_zero->oK,all_cons->oZ,map_drop->o7,map_set->qB
open Nat renaming le_refl->P3,lt_of_lt_of_le->R3,le_of_lt->R8,le_trans->S1,ne_of_lt->T5,zero_le->M0,lt_irrefl->C3,lt_of_le_of_ne->A5,lt_of_le_of_lt->J7,lt_of_succ_lt->K2,ne_of_gt->Q1,pow_le_pow_right->Q9,le_of_eq->U9,lt_succ_self->V1,le_add_right->Y2,le_add_left->Z0,min_eq_left->Z4,one_pos->aG,min_le_right->aI,zero_add->aJ,succ_le_succ->aK,add_le_add_left->aP,add_sub_cancel'->aQ,not_lt->bS,sub_lt->bU,pos_of_ne_zero->bV,add_sub_cancel_left->cG,lt_trans->cM,lt_of_succ_le->cP,succ_le_of_lt->cT,add_assoc->dD,add_right_comm->fO,lt_succ_of_lt->gG,le_of_not_lt->g4,add_zero->iH,mul_comm->lL,sub_pos_of_lt->lV,sub_self->lW,lt_or_ge->mD,log2_lt->mZ,max_eq_left->nI,succ_pos->pX,pow_succ->p0,le_succ->qN,sub_le->rL,succ->sR
open PyProof.Rows renaming Keyed->P9,arrOf->R7,pendingOf->M9,SortSt->N3,boot_all->C9,slot_tuple_getitem->O3,envOfC->A8,callWith_type1->J8,IntsAre->W1,failedOf->X2,boot_isinstance->Y9,entry_tuple_getitem->dP,AllBare->dW,assignInOrder_cons->eM,slicePart_none->e9,args_tuple_getitem->fA,seqObj->fP,subscriptTail_builtinR->iC,lt_int->j7,tupleItemsOf_->kJ,subscriptTail->kM,IsTup->k5,assignInOrder_nil->lA,callWith_builtin1->mH,get?_update_seq->nJ,oneTypeOnly'_eq->nK,Subscript_->nY,keyKind'->oM,slicePart_int->oS,reverseSlice'->pA,listUpdate_at->pB,listItems_at->pZ,tail_any->qK,mergeAt'->qR,binarySort'->qS,seqEpoch_at->qT,recsOf->qV,isTrue_and->qW,boot_range->qY,setPending->rM,Call_->sI,oneLt'->sV
open Bool renaming false_ne_true->R0,and_eq_true->B1,eq_iff_iff->H0,false_and->Q8,true_and->X7,eq_false_iff->aC,or_eq_true->bL,and_eq_true_iff->dJ,or_eq_false_iff->i3,false_eq_true->kW,and_false->oN,or_false->oV
open PySem.PyData renaming depthAll->T6,eqv->N9,canLayAll0->C0,shownAll->K5,showableAll->V7,depth->W9,eqvAll->aY,canLay0->cR,shown->cS,int->cZ,showable->dO,str->fU,hasDictAll->gI,bool->m5,hasDict->oH,list->qO
open Array renaming length_toList->B0,toList_append->B2,getElem?_toList->O5,toList_extract->X3,toList_push->aB,toList_reverse->dH,isEmpty_eq_false_iff->fG,getElem?_eq_none_iff->fI,getElem?_eq_some_iff->fJ,toList_setIfInBounds->fN,size_setIfInBounds->gP,toList->k9,isEmpty_iff->lO
open PySem.Str renaming ofString->B6,empty->pJ
open Option.some renaming inj->B8,injEq->J4
open PySem.NameKind renaming free->C6,cell->X6
open PySem.Builtin.Slice renaming slicePlaces->F8,sliceAdjust->K9,sliceApplied->V3,sliceFields->fV,slicePartIndex->m7
open PySem.Builtin.Tuple renaming tupleExact->L9,tupleItemsOf->aE,tupleIsExact->fE,tupleTooMany->fF,tupleHashOf->fX,tupleCompareSizes->mF
open PySem.PassesOwn renaming never->O8
open Option renaming map_eq_some_iff->A4,isSome_iff_exists->J6,getD_none->mI
open Ne renaming symm->E5
open PySem.SeqAt renaming shaped->E9,readsAll_map->pV,items_eqAt->rJ
open PySem.Builtin.SmallTypes renaming nextOf->I0,stopIteration->X0,ownedTupleIsFree->kN
open PySem.Value renaming type->K0,bool->Y4,ref->aH,int->bZ,str->gQ,none->hO,isStrOf->oP,isInt->qD,float->qE
open Or renaming inl->K8,inr->aF
open PySem.F renaming slot_tuple_iterator_next->V5,args_tuple_add_2->aU,entry_tuple_add->cB,plainAttrs_list->cF,slot_tuple_add->cJ,slot_tuple_lt->cV,slot_int_rmul->dM,args_tuple_iterator_next_1->dN,entry_tuple_iterator_next->dX,args_tuple_lt_2->gW,slot_list_count->g9,entry_tuple_lt->hZ,args_int_rmul_2->lK,entry_int_rmul->mJ,fills_int_mul->m9,slot_zip_next->nC,slot_zip_iter->nF,excBase_ValueError->oI,args_list_count_2->oO,slot_list_append->o0,type_list_append->o6,entry_list_count->o9,slot_list_index->pK,type_list_index->pM,type_list_count->pN,called_zip->pU,entry_bexc_ga->qC,args_bexc_ga->qQ
open Sum renaming inr->W0,inl->f7
open PyProof.Rows.LCg renaming lst->W8
open PySem.Obj renaming mapSeq->X5,mapFields->dB
open Classical renaming propDecidable->Y3
open ForInStep renaming yield->Y8
open PySem.Heap.SameBut renaming update->aN,refl->rV
open Function renaming comp_apply->aO,comp_def->gJ
open PySem.Builtin.List renaming listTooLong->aW,listFitsIndex->n8
open PySem.AutoSeq1 renaming wpAny_loadPart'->aX,sub_tuple_tuple->oR
open Int renaming emod_nonneg->bM,emod_lt_of_pos->bY,toNat->eG,fdiv_eq_ediv_of_nonneg->eN,fmod_eq_emod_of_nonneg->eO,lt_of_le_of_lt->fH,toNat_natCast->gH,ediv_one->pR,ne_of_gt->qA
open True renaming intro->bP
open PySem.SetTable renaming sizeAbove->bX
open PySem.Around renaming frames_deeper->dE
open PySem.Calls renaming spliced_cons->eT,spliced_nil->gC,evalArgs_plain->iY,Constant_str->o8
open PySem.W.Looks renaming here->fK,of_pure->kP,here->kZ,ld->mR,ld->qP
open Decidable renaming byContradiction->fZ
open List.Perm renaming trans->iO,append->mQ,eq_of_pairwise->pG,cons_inv->rN
namespace L2
open PySem PySem.Spec PyProof.Rows
abbrev Key:=Sum D1 Str
def VJ:Key->G1->M6
 | .inl k,v=>qD k v
 | .inr x,v=>oP x v
def Ef (w:N0):Key->D1
 | .inl k=>hashInt k
 | .inr x=>hashStr w x
theorem jD: ∀ {k:Key} {v:G1},VJ k v=true->(∃i t,k=f7 i/\v=bZ i t)\/(∃x t,k=W0 x/\v=gQ x t)
 | .inl i,v,h=>by
  obtain⟨t,e⟩:=Value.isInt_shape (k:=i) (v:=v) h;exact .inl ⟨i,t,rfl,e⟩
 | .inr x,v,h=>by
  obtain⟨t,e⟩:=Value.isStrOf_shape (x:=x) (v:=v) h;exact .inr ⟨x,t,rfl,e⟩
theorem Qh (i:D1)(t:Tok):VJ (.inl i) (.int i t)=true:=by simp [VJ,qD]
theorem Qi (x:Str)(t:Tok):VJ (.inr x) (.str x t)=true:=by simp [VJ,oP]
theorem BF (a b:D1):decide ((f7 a:Key)=f7 b)=(a==b):=by
 by_cases e:a=b
 ·subst e;simp
 ·have h: ¬ (f7 a:Key)=f7 b:=λq=>e (Sum.inl.inj q)
  rw [D9 h];exact(beq_eq_false_iff_ne.mpr e).symm
theorem BG (a b:Str):decide ((W0 a:Key)=W0 b)=decide (a=b):=by
 by_cases e:a=b
 ·subst e;simp
 ·have h: ¬ (W0 a:Key)=W0 b:=λq=>e (Sum.inr.inj q)
  rw [D9 h,D9 e]
theorem BH (a:D1)(b:Str):decide ((f7 a:Key)=W0 b)=false:=D9 (λq=>nomatch q)
theorem BI (a:Str)(b:D1):decide ((W0 a:Key)=f7 b)=false:=D9 (λq=>nomatch q)
def wm (prog:R5)(w:N0):PySem.KeyKind prog w Key where
 is:=VJ
 hash:=Ef w
 inj:=λv a b ha hb=>by
  rcases jD ha with ⟨i,t,rfl,rfl⟩|⟨x,t,rfl,rfl⟩
  ·rcases jD hb with ⟨j,u,rfl,e⟩|⟨y,u,rfl,e⟩
   ·injection e with e1 _;rw [e1]
   ·exact nomatch e
  ·rcases jD hb with ⟨j,u,rfl,e⟩|⟨y,u,rfl,e⟩
   ·exact nomatch e
   ·injection e with e1 _;rw [e1]
 byValue:=λk v h=>by
  rcases jD h with ⟨i,t,rfl,rfl⟩|⟨x,t,rfl,rfl⟩<;>rfl
 pyHash:=λhv h=>by
  rcases jD hv with ⟨i,t,rfl,rfl⟩|⟨x,t,rfl,rfl⟩
  ·exact wpAny_pyHash_int h
  ·exact wpAny_pyHash_str h
 eqBool:=λhu hv h=>by
  rcases jD hu with ⟨i,t,rfl,rfl⟩|⟨x,t,rfl,rfl⟩
  ·rcases jD hv with ⟨j,u,rfl,rfl⟩|⟨y,u,rfl,rfl⟩
   ·rw [BF] at h;exact wpAny_eqBool_int h
   ·rw [BH] at h;exact SeqAt.EqAt.int_str i t y u _ _ _ _ h
  ·rcases jD hv with ⟨j,u,rfl,rfl⟩|⟨y,u,rfl,rfl⟩
   ·rw [BI] at h;exact SeqAt.EqAt.str_int x t j u _ _ _ _ h
   ·rw [BG] at h;exact wpAny_eqBool_str h
 «strs» :=λk x t v h=>by
  rcases jD h with ⟨i,u,rfl,e⟩|⟨y,u,rfl,e⟩
  ·exact nomatch e
  ·injection e with e1 _
   subst e1;cases v<;>rfl
theorem VL (prog:R5)(w:N0)(i:D1)(t:Tok):(wm prog w).is (.inl i) (.int i t)=true:=Qh i t
theorem VM (prog:R5)(w:N0)(x:Str)(t:Tok):(wm prog w).is (.inr x) (.str x t)=true:=Qi x t
inductive V where
 |non|bl (b:M6)|int (i:D1)|str (x:Str)|byt (b:T9 UInt8)|flt (b:UInt64)|ref (a:G7)|ty (n:J9)
 deriving DecidableEq
def RelV:V->G1->Prop
 | .non,u=>u=hO
 | .bl b,u=>u=Y4 b
 | .int i,u=> ∃t,u=bZ i t
 | .str x,u=> ∃t,u=gQ x t
 | .byt b,u=> ∃t,u=Value.bytes b t
 | .flt b,u=> ∃t,u=qE b t
 | .ref a,u=>u=aH a
 | .ty n,u=>u=K0 n
abbrev Vals:G0 V->G0 G1->Prop:=Paired RelV
theorem Vals.length {xs:G0 V}{us:G0 G1}(r:Vals xs us):xs.length=us.length:=Paired.length r
theorem Vals.get: ∀ {xs:G0 V} {us:G0 G1} {i:G9} {x:V},Vals xs us->xs[i]? =some x-> ∃u,us[i]? =some u/\RelV x u
 |_,_,_,_,.nil,e=>by simp at e
 |_,_,0,_,.cons r _,e=>by simp at e;subst e;exact⟨_,rfl,r⟩
 |_,_,i+1,x,.cons _ t,e=>by
  obtain⟨u,h1,h2⟩:=Vals.get (i:=i) (x:=x) t (by simpa using e);exact⟨u,by simpa using h1,h2⟩
variable {u:G1}
theorem Vals.set {x:V}(r:RelV x u): ∀ {xs:G0 V} {us:G0 G1} (i:G9),Vals xs us->Vals (xs.set i x) (us.set i u)
 |_,_,_,.nil=> .nil
 |_,_,0,.cons _ t=> .cons r t
 |_,_,i+1,.cons q t=> .cons q (Vals.set r i t)
theorem Vals.append: ∀ {xs ys:G0 V} {us ws:G0 G1},Vals xs us->Vals ys ws->Vals (xs++ys) (us++ws)
 |_,_,_,_,.nil,s=>s
 |_,_,_,_,.cons r t,s=> .cons r (Vals.append t s)
theorem Vals.take: ∀ {xs:G0 V} {us:G0 G1} (n:G9),Vals xs us->Vals (xs.take n) (us.take n)
 |_,_,0,_=> .nil
 |_,_,_+1,.nil=> .nil
 |_,_,n+1,.cons r t=> .cons r (Vals.take n t)
theorem Vals.drop: ∀ {xs:G0 V} {us:G0 G1} (n:G9),Vals xs us->Vals (xs.drop n) (us.drop n)
 |_,_,0,r=>r
 |_,_,_+1,.nil=> .nil
 |_,_,n+1,.cons _ t=>Vals.drop n t
def LK:P2 V->P2 G1->Prop
 |some v,some u=>RelV v u
 |none,none=>True
 |_,_=>False
def KV {κ:Type}:G0 (κ×V)->G0 (κ×G1)->Prop:=Paired λ(p:κ×V) (q:κ×G1)=>p.1=q.1/\RelV p.2 q.2
def kV:Key->V
 | .inl i=> .int i
 | .inr x=> .str x
inductive HO where
 /-- a list -/
 |lst (xs:G0 V)
 /-- a tuple (never changes) -/
 |tup (xs:G0 V)
 /-- a dict whose keys are ints and texts;one whose keys are tuples of ints and texts (the empty one is both) -/
 |dK (kvs:G0 (Key×V))|dT (kvs:G0 (G0 Key×V))
 /-- a set of ints: its members,its size -/
 |set (S:D1->M6) (n:G9)
 /-- an instance of the class at C,its dict at dx,its attributes -/
 |ins (C dx:G7) (fs:G0 (Str×V))
 /-- the dict of the instance at x -/
 |own (x:G7)
 /-- the dict of an exception -/
 |xd (fs:G0 (Str×V))
 /-- a bound method,f of x -/
 |met (f x:G7)
 /-- a range object lo,lo+1,.. below hi -/
 |rng (lo hi:D1)
 /-- a thing that is known to the object (the script;a dict while a loop walks it):read,never written while it is so -/
 |frz (o:Obj) (u:HO)
 /-- a code object's table -/
 |tbl (ps:T9 G1)
 /-- any other thing,by what is true of its one object (a def of one's own: SetO a S n:=HO.ext λh=> ..) -/
 |ext (φ:N2->Prop)
abbrev Hp:=G7->P2 HO
def upd (H:Hp)(a:G7)(o:HO):Hp:=λb=>if b=a then some o else H b
variable {H:Hp}{a:G7}{o:HO}
theorem ji:upd H a o a=some o:=by unfold upd;rw [S8 rfl]
variable {b:G7}
theorem jg (h:b≠a):upd H a o b=H b:=by unfold upd;rw [S7 h]
theorem Xr {u:HO}(h:H a=some o)(h':H b=some u)(d:o≠u):a≠b:=by
 intro e;subst e;rw [h] at h';exact d (B8 h')
theorem jj (h:H a=some o)(h':H b=none):a≠b:=by
 intro e;subst e;rw [h] at h';cases h'
def IsTupN (h:N2)(a:G7)(items:T9 G1):Prop:= ∃o,h.get? a=some o/\o.cls= .type "tuple" /\o.dict=none/\ ∃n,o.data= .seq items n
theorem IsTupN.tup {h:N2}{a:G7}{items:T9 G1}(x:IsTupN h a items):k5 h a items:=let ⟨o,e,c,_,n,d⟩:=x;⟨o,e,c,n,d⟩
theorem IsTupN.new (h:N2)(items:T9 G1):IsTupN (h.push {cls:= .type "tuple",data:= .seq items}) h.objs.size items:=⟨_,S3 _ rfl,rfl,rfl,_,rfl⟩
section
variable (P:R5)(w:N0)
def ObjOk (H:Hp)(h:N2)(a:G7):HO->Prop
 | .lst xs=>xs.length<=sizeLine/\ ∃ (its:G0 G1) (n:G9),Vals xs its/\h.get? a=some {cls:= .type "list",data:= .seq its.toArray n}
 | .tup xs=>xs.length<=sizeLine/\ ∃its:G0 G1,Vals xs its/\IsTupN h a its.toArray
 | .dK kvs=>kvs.length<=sizeLine/\(a==sysModules)=false/\ ∃vs,KV kvs vs/\h.DictOf (wm P w) a vs
 | .dT kvs=>kvs.length<=sizeLine/\(a==sysModules)=false/\ ∃xs:G0 (G0 Key×G7×G1),
  Paired (λ(p:G0 Key×V) (q:G0 Key×G7×G1)=>p.1=q.1/\H q.2.1=some (.tup (p.1.map kV))/\RelV p.2 q.2.2) kvs xs/\
  ∃o es ep,h.get? a=some o/\o.ExactDict/\o.data= .dict es ep/\es.toList=xs.map (entryOfKey (tupleKind (wm P w)))/\(xs.map (·.1)).Nodup
 | .set S n=>h.SetOf (intKind P w) a S n
 | .ins C dx fs=>H dx=some (.own a)/\fs.length<=1000/\dx≠a/\h.get? a=some (iJ C dx)/\
  ∃mA,h.Ns1 dx mA/\(∀f,LK (fs.lookup f) (mA f))/\pO mA (fs.map (·.1))
 | .own _=> ∃o,h.get? a=some o
 | .xd fs=> ∃mA,h.Ns1 a mA/\ ∀f,LK (fs.lookup f) (mA f)
 | .rng lo hi=> ∃t u v,h.get? a=some {cls:= .type "range",data:= .fields #[.int lo t,.int hi u,.int 1 v]}
 | .frz o u=>h.get? a=some o/\ObjOk H h a u
 | .tbl ps=>h.get? a=some {cls:= .none,data:= .fields ps}
 | .met f x=>h.get? a=some (f8 (.ref f) (.ref x))
 | .ext φ=>φ h/\(∃o,h.get? a=some o)/\ ∀h1 h2:N2,φ h1->(∀o,h1.get? a=some o->h2.get? a=some o)->φ h2
def HOk (H:Hp)(h:N2):Prop:= ∀a o,H a=some o->ObjOk P w H h a o
end
section
variable {P:R5}{w:N0}{H H':Hp}{h h':N2}{a:G7}{o:HO}
theorem ObjOk.lt (x:ObjOk P w H h a o):a<h.objs.size:=by
 cases o with
 |lst xs=>obtain⟨_,_,_,_,e⟩:=x;exact D4 e
 |tup xs=>obtain⟨_,_,_,p⟩:=x;exact p.tup.lt
 |dK kvs=>obtain⟨_,_,_,_,o,_,_,e,_⟩:=x;exact D4 e
 |dT kvs=>obtain⟨_,_,_,_,o,_,_,e,_⟩:=x;exact D4 e
 |set S n=>obtain⟨o,_,_,_,e,_⟩:=x;exact D4 e
 |ins C dx fs=>obtain⟨_,_,_,e,_⟩:=x;exact D4 e
 |own y=>obtain⟨_,e⟩:=x;exact D4 e
 |xd fs=>obtain⟨_,⟨_,_,_,e,_⟩,_⟩:=x;exact D4 e
 |rng lo hi=>obtain⟨_,_,_,e⟩:=x;exact D4 e
 |frz ob u=>obtain⟨e,_⟩:=x;exact D4 e
 |tbl ps=>exact D4 (show h.get? a=some _ from x)
 |met f y=>exact D4 (show h.get? a=some _ from x)
 |ext φ=>obtain⟨_,⟨_,e⟩,_⟩:=x;exact D4 e
theorem Paired.mapP {α β:Type}{F G:α->β->Prop}: ∀ {l₁:G0 α} {l₂:G0 β},Paired F l₁ l₂->(∀a b,F a b->G a b)->Paired G l₁ l₂
 |_,_,.nil,_=> .nil
 |_,_,.cons r t,f=> .cons (f _ _ r) (Paired.mapP t f)
theorem ObjOk.stay (x:ObjOk P w H h a o)(k: ∀b u,(b=a\/H b=some (.own a))->h.get? b=some u->h'.get? b=some u)
 (ho: ∀b,H b=some (.own a)->H' b=some (.own a))(ht: ∀b xs,H b=some (.tup xs)->H' b=some (.tup xs)):ObjOk P w H' h' a o:=by
 induction o with
 |lst xs=>obtain⟨z,its,n,r,e⟩:=x;exact⟨z,its,n,r,k _ _ (.inl rfl) e⟩
 |tup xs=>obtain⟨z,its,r,ob,e,c⟩:=x;exact⟨z,its,r,ob,k _ _ (.inl rfl) e,c⟩
 |dK kvs=>obtain⟨z,y,vs,r,ob,es,ep,e,c⟩:=x;exact⟨z,y,vs,r,ob,es,ep,k _ _ (.inl rfl) e,c⟩
 |dT kvs=>
  obtain⟨z,y,xs,r,ob,es,ep,e,c⟩:=x;exact⟨z,y,xs,Paired.mapP r λp q z=>⟨z.1,ht _ _ z.2.1,z.2.2⟩,ob,es,ep,k _ _ (.inl rfl) e,c⟩
 |set S n=>obtain⟨ob,es,ep,t,e,c⟩:=x;exact⟨ob,es,ep,t,k _ _ (.inl rfl) e,c⟩
 |ins C dx fs=>
  obtain⟨d,z,ne,e,mA,⟨od,es,ep,e2,c⟩,r⟩:=x;exact⟨ho _ d,z,ne,k _ _ (.inl rfl) e,mA,⟨od,es,ep,k _ _ (.inr d) e2,c⟩,r⟩
 |own y=>obtain⟨ob,e⟩:=x;exact⟨ob,k _ _ (.inl rfl) e⟩
 |xd fs=>obtain⟨mA,⟨od,es,ep,e,c⟩,r⟩:=x;exact⟨mA,⟨od,es,ep,k _ _ (.inl rfl) e,c⟩,r⟩
 |rng lo hi=>obtain⟨t,u,v,e⟩:=x;exact⟨t,u,v,k _ _ (.inl rfl) e⟩
 |frz ob u ih=>obtain⟨e,q⟩:=x;exact⟨k _ _ (.inl rfl) e,ih q⟩
 |tbl ps=>
  have e:h.get? a=some {cls:= .none,data:= .fields ps}:=x;show h'.get? a=some {cls:= .none,data:= .fields ps};exact k a _ (.inl rfl) e
 |met f y=>
  have e:h.get? a=some (f8 (.ref f) (.ref y)):=x;show h'.get? a=some (f8 (.ref f) (.ref y));exact k a _ (.inl rfl) e
 |ext φ=>obtain⟨p,⟨o,e⟩,st⟩:=x;exact⟨st _ _ p λo q=>k _ _ (.inl rfl) q,⟨o,k _ _ (.inl rfl) e⟩,st⟩
theorem HOk.lt (x:HOk P w H h)(e:H a=some o):a<h.objs.size:=(x a o e).lt
theorem HOk.fresh (x:HOk P w H h)(e:h.objs.size<=a):H a=none:=by
 cases q:H a with
 |none=>rfl
 |some u=>exact absurd (R3 (x.lt q) e) (C3 _)
theorem HOk.kept (x:HOk P w H h)(k: ∀b u,h.get? b=some u->h'.get? b=some u):HOk P w H h':=λa o e=>
 (x a o e).stay (λb u _ q=>k b u q) (λ_ q=>q) λ_ _ q=>q
theorem HOk.laid (x:HOk P w H h)(k: ∀b u,h.get? b=some u->h'.get? b=some u)(hp:h.objs.size<=a)(new:ObjOk P w (upd H a o) h' a o):HOk P w (upd H a o) h':=λb u e=>by
 have hn:=x.fresh hp
 by_cases hb:b=a
 ·subst hb;rw [ji] at e;cases e;exact new
 ·rw [jg hb] at e;exact(x b u e).stay (λc v _ q=>k c v q) (λc q=>by rw [jg (jj q hn)];exact q) λc xs q=>by rw [jg (jj q hn)];exact q
end
def Rd (H:Hp)(a:G7)(u:HO):Prop:=H a=some u\/ ∃o,H a=some (.frz o u)
variable {P:R5}{w:N0}{h:N2}
theorem Rd.ok {u:HO}(r:Rd H a u)(x:HOk P w H h):ObjOk P w H h a u:=by
 rcases r with r|⟨o,r⟩
 ·exact x a u r
 ·obtain⟨_,q⟩:=x a _ r;exact q
def Mut:P2 HO->Prop
 |some (.lst _)=>True
 |some (.dK _)=>True
 |some (.dT _)=>True
 |some (.set _ _)=>True
 |some (.ins _ _ _)=>True
 |some (.ext _)=>True
 |_=>False
section
variable {P:R5}{w:N0}{H:Hp}{h h':N2}{x e:G7}{o':HO}
theorem HOk.write (ok:HOk P w H h)(mu:Mut (H x))(he:e=x\/H e=some (.own x))(k: ∀b u,b≠e->h.get? b=some u->h'.get? b=some u)(heo: ∃u,h'.get? e=some u)
 (new:ObjOk P w (upd H x o') h' x o'):HOk P w (upd H x o') h':=λb u q=>by
 have nown: ∀c y,H c=some (.own y)->c≠x:=λc y r z=>by subst z;rw [r] at mu;exact mu
 have ntup: ∀c xs,H c=some (.tup xs)->c≠x:=λc xs r z=>by subst z;rw [r] at mu;exact mu
 by_cases hb:b=x
 ·subst hb;rw [ji] at q;cases q;exact new
 ·rw [jg hb] at q
  by_cases hbe:b=e
  ·have q':H b=some (.own x):=by
    rcases he with z|z
    ·exact absurd (hbe.trans z) hb
    ·rw [hbe];exact z
   rw [q] at q';cases q';obtain⟨v,hv⟩:=heo;exact⟨v,by rw [hbe];exact hv⟩
  ·refine(ok b u q).stay (λc v hc r=>k c v ?_ r) (λc r=>by rw [jg (nown c b r)];exact r) λc xs r=>by rw [jg (ntup c xs r)];exact r
   rcases hc with rfl|hc
   ·exact hbe
   ·rintro rfl;rcases he with z|z
    ·exact nown c b hc z
    ·rw [hc] at z;cases z;exact hb rfl
end
structure Un (fs ex:G0 G7)(H H':Hp)(h h':N2):Prop where
 keep: ∀b o,h.get? b=some o->H b=none->b ∉ fs->b ∉ ex->h'.get? b=some o
 slot: ∀b o,h.get? b=some o->H b=none->b∈fs->b ∉ ex-> ∃sl,h'.get? b=some {o with slots:=sl}
 free: ∀b o,h.get? b=some o->H b=none->b ∉ ex->H' b=none
 there: ∀b o,h.get? b=some o->b ∉ ex-> ∃o',h'.get? b=some o'
 tups: ∀b xs,H b=some (.tup xs)->H' b=some (.tup xs)
 frzs: ∀b o u,H b=some (.frz o u)->H' b=some (.frz o u)
 tbls: ∀b ps,H b=some (.tbl ps)-> ∃more,H' b=some (.tbl (ps++more))
section
variable {fs fs' ex ex':G0 G7}{H H1 H2:Hp}{h h1 h2 h':N2}{a x e:G7}{o:HO}
theorem Un.any (u:Un fs ex H H1 h h1){b:G7}{ob:Obj}(q:h.get? b=some ob)(n:H b=none)(hx:b ∉ ex): ∃sl,h1.get? b=some {ob with slots:=sl}:=by
 by_cases hb:b∈fs
 ·exact u.slot b ob q n hb hx
 ·exact⟨ob.slots,u.keep b ob q n hb hx⟩
theorem Un.kept (k: ∀b u,h.get? b=some u->h'.get? b=some u):Un fs ex H H h h':=
 ⟨λb ob q _ _ _=>k b ob q,λb ob q _ _ _=>⟨ob.slots,k b ob q⟩,λ_ _ _ n _=>n,λb ob q _=>⟨ob,k b ob q⟩,λ_ _ q=>q,λ_ _ _ q=>q,λ_ ps q=>⟨#[],by rw [q];simp⟩⟩
theorem Un.refl:Un fs ex H H h h:=Un.kept λ_ _ q=>q
theorem Un.laid (k: ∀b u,h.get? b=some u->h'.get? b=some u)(hp:h.objs.size<=a)(hn:H a=none):Un fs ex H (upd H a o) h h' where
 keep:=λb u q _ _ _=>k b u q
 slot:=λb u q _ _ _=>⟨u.slots,k b u q⟩
 free:=λb u q n _=>by rw [jg (T5 (R3 (D4 q) hp))];exact n
 there:=λb u q _=>⟨u,k b u q⟩
 tups:=λb xs q=>by rw [jg (jj q hn)];exact q
 frzs:=λb u xs q=>by rw [jg (jj q hn)];exact q
 tbls:=λb ps q=>⟨#[],by rw [jg (jj q hn),q];simp⟩
theorem Un.write (mu:Mut (H x))(he:e=x\/H e=some (.own x))(k: ∀b u,b≠e->h.get? b=some u->h'.get? b=some u)(heo: ∃u,h'.get? e=some u):Un fs ex H (upd H x o) h h':=by
 have hx: ∀b,H b=none->b≠x:=λb n z=>by subst z;rw [n] at mu;exact mu
 have hb: ∀b,H b=none->b≠e:=λb n z=>by
  subst z;rcases he with r|r
  ·exact hx b n r
  ·rw [n] at r;cases r
 have hm: ∀b u,H b=some u-> ¬Mut (some u)->b≠x:=λb u q nm z=>by subst z;rw [q] at mu;exact nm mu
 refine⟨λb u q n _ _=>k b u (hb b n) q,λb u q n _ _=>⟨u.slots,k b u (hb b n) q⟩,λb u q n _=>by rw [jg (hx b n)];exact n,λb u q _=> ?_,
  λb xs q=>by rw [jg (hm b _ q λz=>z)];exact q,λb u xs q=>by rw [jg (hm b _ q λz=>z)];exact q,λb ps q=>⟨#[],by rw [jg (hm b _ q λz=>z),q];simp⟩⟩
 by_cases hbe:b=e
 ·subst hbe;exact heo
 ·exact⟨u,k b u hbe q⟩
end
def trk (h:N2)(H:Hp):G0 G7:=(N4 h.objs.size).filter λa=>(H a).isSome
def Da (h:N2)(H:Hp):N2:=aZ h (trk h H)
theorem Qj (h:N2)(H:Hp):(Da h H).objs.size=h.objs.size:=qF _ _
theorem WG {o:Obj}(e:h.get? b=some o)(n:H b=none):(Da h H).get? b=some o:=
 X8 _ e λhm=>by
  have q:(H b).isSome=true:=(bE.mp hm).2;rw [n] at q;simp at q
theorem Mi {o:Obj}(e:(Da h H).get? b=some o):h.get? b=some o/\H b=none:=by
 have e':h.get? b=some o:=eI (trk h H) e;refine⟨e',?_⟩;cases q:H b with
 |none=>rfl
 |some x=>
  have hm:b∈trk h H:=bE.mpr ⟨L7.mpr (D4 e'),by simp [q]⟩;have z:(Da h H).get? b=none:=W6 (trk h H) hm;rw [z] at e;cases e
def Mj (g h:N2)(L:G7):G0 (G7×Obj):=(N4 h.objs.size).filterMap λa=>if a=L\/(g.get? a).isSome=true then none else (h.get? a).map λo=>(a,o)
def rest (g h:N2)(L d:G7):G0 (G7×Obj):=(Mj g h L).filter λp=>decide (p.1≠d)
structure Mod (K:G2)(mg:Str->P2 G1)(base:N2):Prop where
 kin:K.In base
 glob:base.Ns mainGlobals mg
 blt: ∃mb,base.Ns eJ mb/\ ∀x:Str,x≠ "__name__" ->mb x=E4 x
 nolimit:base.NoLimit
structure Cx where
 prog:R5
 w:N0
 K:G2
 mg:Str->P2 G1
 base:N2
 A:T0
 N:G0 Str
 s₀:G3
 H₀:Hp
 env:Env
 outer:G0 Env
 stack:G0 Env
 ex:G0 G7
 fn:Str->M6
 calm:M6
 pn:G0 (G7×Obj)
 xe:G1->G3->Prop
def frs (l:G0 Env):G0 G7:=l.filterMap (·.frame)
abbrev Cx.fs (X:Cx):G0 G7:=frs X.outer
def Vis (sc:O0)(x:Str):Prop:=sc.names.lookup x=some .local\/sc.names.lookup x=some .cell\/sc.names.lookup x=some .free
def Loc (sc:O0)(x:Str):Prop:=sc.names.lookup x=some .local\/sc.names.lookup x=some .cell
def Eg (env:Env)(h:N2)(m:Str->P2 G1)(x:Str)(u:G1):Prop:=
 (env.kindOf x=some .local/\m x=some u)\/((env.kindOf x=some .cell\/env.kindOf x=some .free)/\ ∃c,env.cells.lookup x=some c/\h.IsCell c (some u))
structure Cx.Ok (X:Cx):Prop where
 mod:Mod X.K X.mg X.base
 kind:X.env.scope.kind= .function
 glob:X.env.globals=mainGlobals
 blt:X.env.builtins=eJ
 above:X.s₀.heap.objs.size<=X.env.locals
 inj: ∀x y c,X.env.cells.lookup x=some c->X.env.cells.lookup y=some c->x=y
 has: ∀x,(X.env.kindOf x=some .cell\/X.env.kindOf x=some .free)-> ∃c,X.env.cells.lookup x=some c
 cab: ∀x c,X.fn x=true->X.env.cells.lookup x=some c->X.s₀.heap.objs.size<=c
 hd:X.calm=true->X.A.handled=none
 frames:X.A.frames=some X.stack
 stk:X.stack=X.outer\/(X.stack=X.env::X.outer/\X.env.frame=some X.env.locals)
 exf: ∀b∈X.ex,b≠X.env.locals/\ ∀x c,X.env.cells.lookup x=some c->c≠b
 bs: ∀b o,X.base.get? b=some o->X.s₀.heap.get? b=some o/\X.H₀ b=none
 bsz:X.base.objs.size<=X.s₀.heap.objs.size
 noex: ∀b o,X.base.get? b=some o->b ∉ X.ex
 exfs: ∀b∈X.ex,b ∉ X.fs
 funs:X.s₀.heap.FunFrames X.base X.outer
 frf: ∀b∈X.fs,X.H₀ b=none
structure Inv (X:Cx)(pins:G0 (G7×Obj))(σ:G0 (P2 V))(H:Hp)(s:G3):Prop where
 ok:X.Ok
 os:s.os=X.s₀.os
 bare:dW s.gens
 base:Un X.fs X.ex X.H₀ H X.s₀.heap s.heap
 loc: ∃m,s.heap.Ns X.env.locals m/\ ∀ (i:G9) (x:Str) (v:V),X.N[i]? =some x->σ[i]? =some (some v)->Vis X.env.scope x-> ∃u,RelV v u/\Eg X.env s.heap m x u
 cell: ∀x c,X.env.cells.lookup x=some c-> ∃v,s.heap.IsCell c v
 free:H X.env.locals=none
 freeC: ∀x c,X.env.cells.lookup x=some c->H c=none
 pin: ∀p∈X.pn++pins,s.heap.get? p.1=some p.2/\H p.1=none/\p.1≠X.env.locals/\p.1 ∉ X.fs/\ ∀v,p.2.data≠ .cell v
 hok:HOk X.prog X.w H s.heap
 len:σ.length=X.N.length
section
variable {X:Cx}{pins:G0 (G7×Obj)}{σ:G0 (P2 V)}{H H':Hp}{s:G3}{h':N2}
theorem Cx.Ok.nofr (ok:X.Ok){b:G7}{o:Obj}(e:X.base.get? b=some o):b ∉ X.fs:=λhb=>by
 have:=(ok.funs.mem hb).1;rw [e] at this;cases this
theorem Inv.bs (I:Inv X pins σ H s): ∀b o,X.base.get? b=some o->s.heap.get? b=some o/\H b=none:=λb o e=>
 ⟨I.base.keep b o (I.ok.bs b o e).1 (I.ok.bs b o e).2 (I.ok.nofr e) (I.ok.noex b o e),I.base.free b o (I.ok.bs b o e).1 (I.ok.bs b o e).2 (I.ok.noex b o e)⟩
theorem Inv.bk (I:Inv X pins σ H s): ∀b o,X.base.get? b=some o->s.heap.get? b=some o:=λb o e=>(I.bs b o e).1
theorem Inv.mod (I:Inv X pins σ H s):Mod X.K X.mg X.base:=I.ok.mod
theorem Inv.kIn (I:Inv X pins σ H s):X.K.In s.heap:=I.ok.mod.kin.keeps I.bk
theorem Inv.lt (I:Inv X pins σ H s):X.env.locals<s.heap.objs.size:=let ⟨_,hn,_⟩:=I.loc;hn.lt
theorem Inv.sz (I:Inv X pins σ H s):X.s₀.heap.objs.size<=s.heap.objs.size:=S1 I.ok.above (R8 I.lt)
theorem Inv.nofs (I:Inv X pins σ H s){a:G7}(h:s.heap.objs.size<=a):a ∉ X.fs:=λhb=>by
 obtain⟨_,o,ho,_⟩:=I.ok.funs.mem hb;exact absurd (R3 (D4 ho) (S1 I.sz h)) (C3 _)
theorem Inv.cne (I:Inv X pins σ H s): ∀x c,X.env.cells.lookup x=some c->c≠X.env.locals:=λx c e z=>by
 obtain⟨v,o,ho,hd⟩:=I.cell x c e;obtain⟨m,⟨o',es,ep,ho',hd',_⟩,_⟩:=I.loc;rw [z,ho'] at ho;cases ho;rw [hd'] at hd;cases hd
theorem Inv.funs (I:Inv X pins σ H s):s.heap.FunFrames X.base X.outer:=by
 have all: ∀ (l:G0 Env),(∀b∈frs l,b∈X.fs)->X.s₀.heap.FunFrames X.base l->s.heap.FunFrames X.base l:=by
  intro l
  induction l with
  |nil=>intro _ _;trivial
  |cons env r ih=>
   intro hs hl;obtain⟨hk,⟨L,o,hf,hn,ho,hd⟩,hr⟩:=hl;have hL:L∈X.fs:=hs L (by unfold frs;rw [U6,hf];exact D5);obtain⟨sl,e⟩:=I.base.slot L o ho (I.ok.frf L hL) hL λz=>I.ok.exfs L z hL
   exact⟨hk,⟨L,_,hf,hn,e,hd⟩,ih (λb hb=>hs b (by unfold frs;rw [U6,hf];exact D8 _ hb)) hr⟩
 exact all X.outer (λ_ hb=>hb) I.ok.funs
theorem Inv.stack (I:Inv X pins σ H s):s.heap.FunFrames X.base X.stack:=by
 rcases I.ok.stk with e|⟨e,hf⟩
 ·rw [e];exact I.funs
 ·rw [e];obtain⟨m,hn,_⟩:=I.loc;refine .cons (by rw [I.ok.kind];decide) hf hn ?_ I.funs;exact Heap.get?_none_of_le (S1 I.ok.bsz I.ok.above)
theorem Inv.stkSub (I:Inv X pins σ H s): ∀b∈frs X.stack,b∈X.env.locals::X.fs:=λb hb=>by
 rcases I.ok.stk with e|⟨e,hf⟩
 ·rw [e] at hb;exact D8 _ hb
 ·rw [e] at hb;unfold frs at hb;rw [U6,hf] at hb;exact hb
theorem Inv.stkFree (I:Inv X pins σ H s): ∀b∈frs X.stack,H b=none:=λb hb=>by
 rcases P6.mp (I.stkSub b hb) with e|hb
 ·rw [e];exact I.free
 ·obtain⟨_,o,ho,_⟩:=I.ok.funs.mem hb;exact I.base.free b o ho (I.ok.frf b hb) λz=>I.ok.exfs b z hb
variable {t':G9}
theorem Inv.step {g':T9 GenState}{d':Drawn}{ch:G0 G7}(I:Inv X pins σ H s)
 (hch: ∀b∈ch,(b∈X.ex\/X.s₀.heap.objs.size<=b)/\b≠X.env.locals/\(∀x c,X.env.cells.lookup x=some c->c≠b)/\ ∀p∈X.pn++pins,p.1≠b)
 (keep: ∀b o,b≠X.env.locals->b ∉ X.fs->b ∉ ch->s.heap.get? b=some o->H b=none->h'.get? b=some o)
 (slot: ∀b o,b≠X.env.locals->b∈X.fs->b ∉ ch->s.heap.get? b=some o->H b=none-> ∃sl,h'.get? b=some {o with slots:=sl})(free: ∀b o,b ∉ ch->s.heap.get? b=some o->H b=none->H' b=none)
 (there: ∀b o,b ∉ ch->s.heap.get? b=some o-> ∃o',h'.get? b=some o')
 (tups: ∀b xs,H b=some (.tup xs)->H' b=some (.tup xs))(frzs: ∀b o u,H b=some (.frz o u)->H' b=some (.frz o u))(tbls: ∀b ps,H b=some (.tbl ps)-> ∃more,H' b=some (.tbl (ps++more)))
 (ns: ∀m,s.heap.Ns X.env.locals m->h'.Ns X.env.locals m)(hok:HOk X.prog X.w H' h')(hg:dW g'):
 Inv X pins σ H' {s with heap:=h',gens:=g',drawn:=d',toks:=t'}:=by
 have neL: ∀b o,X.s₀.heap.get? b=some o->b≠X.env.locals:=λb o e=>T5 (R3 (D4 e) I.ok.above)
 have neC: ∀b o,X.s₀.heap.get? b=some o->b ∉ X.ex->b ∉ ch:=λb o e hx hb=>by
  rcases (hch b hb).1 with z|z
  ·exact hx z
  ·exact absurd (R3 (D4 e) z) (C3 _)
 have cellK: ∀x c,X.env.cells.lookup x=some c-> ∀v,s.heap.IsCell c v->h'.IsCell c v:=λx c e v ⟨o,ho,hd⟩=>by
  have nch:c ∉ ch:=λz=>(hch c z).2.2.1 x c e rfl
  by_cases hc:c∈X.fs
  ·obtain⟨sl,q⟩:=slot c o (I.cne x c e) hc nch ho (I.freeC x c e);exact⟨_,q,hd⟩
  ·exact⟨o,keep c o (I.cne x c e) hc nch ho (I.freeC x c e),hd⟩
 refine⟨I.ok,I.os,hg,⟨λb o e n hb hx=> ?_,λb o e n hb hx=> ?_,λb o e n hx=> ?_,λb o e hx=> ?_,λb xs e=>tups b xs (I.base.tups b xs e),λb o xs e=>frzs b o xs (I.base.frzs b o xs e),λb ps e=> ?_⟩,?_,λx c e=> ?_,?_,λx c e=> ?_,λp hp=> ?_,hok,I.len⟩
 ·exact keep b o (neL b o e) hb (neC b o e hx) (I.base.keep b o e n hb hx) (I.base.free b o e n hx)
 ·obtain⟨sl,e1⟩:=I.base.slot b o e n hb hx;obtain⟨sl',e2⟩:=slot b _ (neL b o e) hb (neC b o e hx) e1 (I.base.free b o e n hx);exact⟨sl',e2⟩
 ·obtain⟨o',e1⟩:=I.base.there b o e hx;exact free b o' (neC b o e hx) e1 (I.base.free b o e n hx)
 ·obtain⟨o',e1⟩:=I.base.there b o e hx;exact there b o' (neC b o e hx) e1
 ·obtain⟨m1,e1⟩:=I.base.tbls b ps e;obtain⟨m2,e2⟩:=tbls b _ e1;exact⟨m1++m2,by rw [e2,Array.append_assoc]⟩
 ·obtain⟨m,hn,hl⟩:=I.loc;refine⟨m,ns m hn,λi x v e1 e2 e3=> ?_⟩;obtain⟨u,r,l⟩:=hl i x v e1 e2 e3;refine⟨u,r,?_⟩;rcases l with l|⟨k,c,e,z⟩
  ·exact .inl l
  ·exact .inr ⟨k,c,e,cellK x c e _ z⟩
 ·obtain⟨v,z⟩:=I.cell x c e;exact⟨v,cellK x c e v z⟩
 ·obtain⟨m,⟨o,_,_,ho,_⟩,_⟩:=I.loc;exact free _ o (λz=>(hch _ z).2.1 rfl) ho I.free
 ·obtain⟨v,o,ho,hd⟩:=I.cell x c e;exact free c o (λz=>(hch c z).2.2.1 x c e rfl) ho (I.freeC x c e)
 ·obtain⟨e,n,ne,nf,d⟩:=I.pin p hp;have nch:p.1 ∉ ch:=λz=>(hch p.1 z).2.2.2 p hp rfl
  exact⟨keep p.1 p.2 ne nf nch e n,free p.1 p.2 nch e n,ne,nf,d⟩
theorem Inv.un (I:Inv X pins σ H s)(u:Un X.fs [] H H' s.heap h')(hok:HOk X.prog X.w H' h'):Inv X pins σ H' {s with heap:=h',toks:=t'}:=by
 obtain⟨m,⟨o,es,ep,ho,r⟩,_⟩:=id I.loc;obtain⟨sl,hL⟩:=u.any ho I.free (by simp);exact I.step (g':=s.gens) (d':=s.drawn) (ch:= []) (λ_ z=>nomatch z) (λb o _ hb _ e n=>u.keep b o e n hb (by simp)) (λb o _ hb _ e n=>u.slot b o e n hb (by simp)) (λb o _ e n=>u.free b o e n (by simp)) (λb o _ e=>u.there b o e (by simp)) u.tups u.frzs u.tbls (λm' hm=>by
  obtain⟨o',es',ep',ho',r'⟩:=hm;rw [ho] at ho';cases ho';exact⟨_,es',ep',hL,r'⟩) hok I.bare
theorem Inv.call {g':T9 GenState}{d':Drawn}{ch:G0 G7}(I:Inv X pins σ H s)(u:Un (frs X.stack) ch H H' s.heap h')(hok:HOk X.prog X.w H' h')(hg:dW g')
 (hch: ∀b∈ch,(b∈X.ex\/X.s₀.heap.objs.size<=b)/\b≠X.env.locals/\(∀x c,X.env.cells.lookup x=some c->c≠b)/\ ∀p∈X.pn++pins,p.1≠b):
 Inv X pins σ H' {s with heap:=h',gens:=g',drawn:=d',toks:=t'}:=by
 obtain⟨m,⟨o,es,ep,ho,r⟩,_⟩:=id I.loc;obtain⟨sl,hL⟩:=u.any ho I.free λz=>(hch _ z).2.1 rfl
 exact I.step (ch:=ch) hch (λb o hL hb hc e n=>u.keep b o e n (λz=>(P6.mp (I.stkSub b z)).elim hL hb) hc) (λb o _ _ hc e n=>u.any e n hc) (λb o hc e n=>u.free b o e n hc) (λb o hc e=>u.there b o e hc) u.tups u.frzs u.tbls (λm' hm=>by
  obtain⟨o',es',ep',ho',r'⟩:=hm;rw [ho] at ho';cases ho';exact⟨_,es',ep',hL,r'⟩) hok hg
theorem Inv.turned {it:G7}(I:Inv X pins σ H s)(k: ∀b o,b≠it->s.heap.get? b=some o->h'.get? b=some o)(hn:H it=none)(hL:it≠X.env.locals)
 (h1:it∈X.ex\/X.s₀.heap.objs.size<=it)(h2: ∀x c,X.env.cells.lookup x=some c->c≠it)(h3: ∀p∈X.pn++pins,p.1≠it):Inv X pins σ H {s with heap:=h',toks:=t'}:=by
 have nit: ∀b u,H b=some u->b≠it:=λb u e z=>by rw [z,hn] at e;cases e
 refine I.step (g':=s.gens) (d':=s.drawn) (ch:= [it]) (λb hb=> ?_) (λb o _ _ hc e _=>k b o (λz=>hc (by simp [z])) e) (λb o _ _ hc e _=>⟨o.slots,k b o (λz=>hc (by simp [z])) e⟩) (λ_ _ _ _ n=>n)
  (λb o hc e=>⟨o,k b o (λz=>hc (by simp [z])) e⟩) (λ_ _ e=>e) (λ_ _ _ e=>e) (λb ps e=>⟨#[],by rw [e];simp⟩) (λm hm=> ?_) (λb u e=> ?_) I.bare
 ·have e:b=it:=by simpa using hb
  subst e;exact⟨h1,hL,h2,h3⟩
 ·obtain⟨o,es,ep,ho,r⟩:=hm;exact⟨o,es,ep,k _ o (E5 hL) ho,r⟩
 ·refine(I.hok b u e).stay (λc v hc q=>k c v ?_ q) (λ_ q=>q) λ_ _ q=>q
  rcases hc with z|z
  ·rw [z];exact nit b u e
  ·exact nit c _ z
theorem Inv.tok (I:Inv X pins σ H s)(t:G9):Inv X pins σ H {s with toks:=t}:=I.un (h':=s.heap) (t':=t) Un.refl I.hok
theorem Inv.kept (I:Inv X pins σ H s)(k: ∀b u,s.heap.get? b=some u->h'.get? b=some u):Inv X pins σ H {s with heap:=h',toks:=t'}:=I.un (Un.kept k) (I.hok.kept k)
theorem Inv.laid {a:G7}{o:HO}(I:Inv X pins σ H s)(k: ∀b u,s.heap.get? b=some u->h'.get? b=some u)(hp:s.heap.objs.size<=a)(new:ObjOk X.prog X.w (upd H a o) h' a o):
 Inv X pins σ (upd H a o) {s with heap:=h',toks:=t'}:=I.un (Un.laid k hp (I.hok.fresh hp)) (I.hok.laid k hp new)
theorem Inv.write {x e:G7}{o:HO}(I:Inv X pins σ H s)(mu:Mut (H x))(he:e=x\/H e=some (.own x))(k: ∀b u,b≠e->s.heap.get? b=some u->h'.get? b=some u)(heo: ∃u,h'.get? e=some u)
 (new:ObjOk X.prog X.w (upd H x o) h' x o):Inv X pins σ (upd H x o) {s with heap:=h',toks:=t'}:=I.un (Un.write mu he k heo) (I.hok.write mu he k heo new)
theorem Inv.weak {tE:G0 (P2 V)}(I:Inv X pins σ H s)(hl:tE.length=σ.length)(w: ∀ (i:G9) v,tE[i]? =some (some v)->σ[i]? =some (some v)):Inv X pins tE H s:=
 ⟨I.ok,I.os,I.bare,I.base,let ⟨m,hn,hl'⟩:=I.loc;⟨m,hn,λi x v e1 e2 e3=>hl' i x v e1 (w i v e2) e3⟩,I.cell,I.free,I.freeC,I.pin,I.hok,hl.trans I.len⟩
theorem Inv.pins_of {pins':G0 (G7×Obj)}(I:Inv X pins σ H s)(h: ∀p∈pins',s.heap.get? p.1=some p.2/\H p.1=none/\p.1≠X.env.locals/\p.1 ∉ X.fs/\ ∀v,p.2.data≠ .cell v):Inv X pins' σ H s:=
 ⟨I.ok,I.os,I.bare,I.base,I.loc,I.cell,I.free,I.freeC,λp hp=>(D3.mp hp).elim (λz=>I.pin p (C5 _ z)) (h p),I.hok,I.len⟩
theorem WH {N:G0 Str}(hN:N.Nodup){i j:G9}{x:Str}(a:N[i]? =some x)(b:N[j]? =some x):i=j:=by
 obtain⟨h1,e1⟩:=D0.mp a;obtain⟨h2,e2⟩:=D0.mp b;exact(List.getElem_inj hN).mp (e1.trans e2.symm)
theorem Qk {M:gA}{A:T0}{E:G1->G3->Prop}{i:G9}{x:Str}{v:V}{u:G1}{Q:Unit->G3->Prop}(I:Inv X pins σ H s)(hN:X.N.Nodup)(hi:X.N[i]? =some x)(hx:Loc X.env.scope x)(r:RelV v u)
 (h: ∀s',Inv X pins (σ.set i (some v)) H s'->(∃a,Y5 a s.heap s'.heap/\(a=X.env.locals\/X.env.cells.lookup x=some a))->Q () s')(hf:X.fn x=true\/X.env.scope.names.lookup x=some .local:=by first|exact .inl rfl|exact .inr rfl|assumption):R1 M A (storeName X.env x u) Q E s:=by
 obtain⟨m,hn,hl⟩:=id I.loc;have hcls:(X.env.scope.kind== .class||(X.env.scope.kind== .module&&X.env.locals !=X.env.globals))=false:=by rw [I.ok.kind];rfl
 have uE:i<σ.length:=by rw [I.len];exact(D0.mp hi).1
 have cne:=I.cne;have tracked: ∀ {a:G7} {h':N2},(∃o,s.heap.get? a=some o/\H a=none)->Y5 a s.heap h'->HOk X.prog X.w H h':=λ{a h'} ha hs b ob e=>by
  obtain⟨_,_,hfree⟩:=ha;refine(I.hok b ob e).stay (λc w' hc q=>(hs.2 c ?_).trans q) (λ_ q=>q) λ_ _ q=>q
  rintro rfl;rcases hc with rfl|hc
  ·rw [hfree] at e;cases e
  ·rw [hfree] at hc;cases hc
 rcases hx with hk|hk
 ·refine wpAny_storeName_local hk hn (λh' hn' hs=> ?_) hcls;obtain⟨oL,_,_,hoL,_⟩:=id hn;refine h _ ⟨I.ok,I.os,I.bare,⟨λb o e n hb hx=> ?_,λb o e n hb hx=> ?_,I.base.free,λb o e hx=> ?_,I.base.tups,I.base.frzs,I.base.tbls⟩,⟨_,hn',λj y v' e1 e2 e3=> ?_⟩,λy c e=> ?_,I.free,I.freeC,λp hp=> ?_,tracked ⟨oL,hoL,I.free⟩ hs,by simpa using I.len⟩ ⟨_,hs,.inl rfl⟩
  ·exact(hs.2 b (T5 (R3 (D4 e) I.ok.above))).trans (I.base.keep b o e n hb hx)
  ·obtain⟨sl,e1⟩:=I.base.slot b o e n hb hx;exact⟨sl,(hs.2 b (T5 (R3 (D4 e) I.ok.above))).trans e1⟩
  ·obtain⟨o',e1⟩:=I.base.there b o e hx;exact⟨o',(hs.2 b (T5 (R3 (D4 e) I.ok.above))).trans e1⟩
  ·by_cases hj:j=i
   ·subst hj;rw [hi] at e1;cases e1;rw [U8 uE] at e2;cases e2;exact⟨u,r,.inl ⟨hk,by simp⟩⟩
   ·rw [A3 (E5 hj)] at e2;obtain⟨u',r',q⟩:=hl j y v' e1 e2 e3;refine⟨u',r',?_⟩;rcases q with ⟨k,e⟩|⟨k,c,e,z⟩
    ·refine .inl ⟨k,?_⟩;have:y≠x:=λe=>hj (WH hN e1 (e ▸ hi))
     simp [this,e]
    ·exact .inr ⟨k,c,e,z.sameBut hs (cne y c e)⟩
  ·obtain⟨w',z⟩:=I.cell y c e;exact⟨w',z.sameBut hs (cne y c e)⟩
  ·obtain⟨e,n,ne,nf,d⟩:=I.pin p hp;exact⟨(hs.2 p.1 ne).trans e,n,ne,nf,d⟩
 ·have hfn:X.fn x=true:=by
   rcases hf with z|z
   ·exact z
   ·rw [z] at hk;cases hk
  obtain⟨c,hc⟩:=I.ok.has x (.inl hk);obtain⟨w',z⟩:=I.cell x c hc;refine wpAny_storeName_cell I.ok.kind hk hc z (λh' hc' hs=> ?_);obtain⟨oc,hoc,hocd⟩:=id z;refine h {s with heap:=h'} ⟨I.ok,I.os,I.bare,⟨λb o e n hb hx=> ?_,λb o e n hb hx=> ?_,I.base.free,λb o e hx=> ?_,I.base.tups,I.base.frzs,I.base.tbls⟩,⟨m,hn.sameBut hs (E5 (cne x c hc)),λj y v' e1 e2 e3=> ?_⟩,λy c' e=> ?_,I.free,I.freeC,λp hp=> ?_,tracked ⟨oc,hoc,I.freeC x c hc⟩ hs,by simpa using I.len⟩ ⟨c,hs,.inr hc⟩
  ·exact(hs.2 b (T5 (R3 (D4 e) (I.ok.cab x c hfn hc)))).trans (I.base.keep b o e n hb hx)
  ·obtain⟨sl,e1⟩:=I.base.slot b o e n hb hx;exact⟨sl,(hs.2 b (T5 (R3 (D4 e) (I.ok.cab x c hfn hc)))).trans e1⟩
  ·obtain⟨o',e1⟩:=I.base.there b o e hx;exact⟨o',(hs.2 b (T5 (R3 (D4 e) (I.ok.cab x c hfn hc)))).trans e1⟩
  ·by_cases hj:j=i
   ·subst hj;rw [hi] at e1;cases e1;rw [U8 uE] at e2;cases e2;exact⟨u,r,.inr ⟨.inl hk,c,hc,hc'⟩⟩
   ·rw [A3 (E5 hj)] at e2;obtain⟨u',r',q⟩:=hl j y v' e1 e2 e3;refine⟨u',r',?_⟩;rcases q with q|⟨k,c',e,z'⟩
    ·exact .inl q
    ·refine .inr ⟨k,c',e,z'.sameBut hs ?_⟩;rintro rfl;exact hj (WH hN e1 (I.ok.inj _ _ _ e hc ▸ hi))
  ·by_cases hcc:c'=c
   ·subst hcc;exact⟨_,hc'⟩
   ·obtain⟨w2,z2⟩:=I.cell y c' e;exact⟨w2,z2.sameBut hs hcc⟩
  ·obtain⟨e,n,ne,nf,d⟩:=I.pin p hp;refine⟨(hs.2 p.1 ?_).trans e,n,ne,nf,d⟩;intro q;rw [q,hoc] at e;have q':oc=p.2:=B8 e;exact d w' (by rw [<-q'];exact hocd)
theorem wG {M:gA}{A:T0}{E:G1->G3->Prop}{i:G9}{x:Str}{v:V}{u:G1}{Q:Unit->G3->Prop}(I:Inv X pins σ H s)(hN:X.N.Nodup)(hi:X.N[i]? =some x)(hx:Loc X.env.scope x)(r:RelV v u)
 (h: ∀s',Inv X pins (σ.set i (some v)) H s'->Q () s')(hf:X.fn x=true\/X.env.scope.names.lookup x=some .local:=by first|exact .inl rfl|exact .inr rfl|assumption):R1 M A (storeName X.env x u) Q E s:=
 Qk I hN hi hx r (λs' I' _=>h s' I') hf
theorem Inv.call' {s':G3}{ch:G0 G7}(I:Inv X pins σ H s)(ho:s'.os=s.os)(u:Un (frs X.stack) ch H H' s.heap s'.heap)(hok:HOk X.prog X.w H' s'.heap)(hg:dW s'.gens)
 (hch: ∀b∈ch,(b∈X.ex\/X.s₀.heap.objs.size<=b)/\b≠X.env.locals/\(∀x c,X.env.cells.lookup x=some c->c≠b)/\ ∀p∈X.pn++pins,p.1≠b):Inv X pins σ H' s':=by
 obtain⟨h',g',d',t',o'⟩:=s';have e:o'=s.os:=ho;subst e;exact I.call (g':=g') (t':=t') (d':=d') u hok hg hch
end
abbrev XK:=G1->P2 G7->Hp->Prop
abbrev St:=G0 (P2 V)
abbrev VK:=V->Hp->Prop
abbrev TE:=St->Hp->VK->Prop
abbrev TT:=St->Hp->(M6->Hp->Prop)->Prop
abbrev TA:=St->Hp->(G0 V->Hp->Prop)->Prop
structure Ends where
 nx:St->Hp->Prop
 rt:VK
 bk:St->Hp->Prop:=λ_ _=>False
 ct:St->Hp->Prop:=λ_ _=>False
abbrev TS:=Ends->St->Hp->Prop
def EP (X:Cx)(pins:G0 (G7×Obj))(σ:St)(Q:VK)(u:G1)(s':G3):Prop:= ∃v H',Inv X pins σ H' s'/\RelV v u/\Q v H'
def TP (X:Cx)(pins:G0 (G7×Obj))(σ:St)(Q:M6->Hp->Prop)(b:M6)(s':G3):Prop:= ∃H',Inv X pins σ H' s'/\Q b H'
def AP (X:Cx)(pins:G0 (G7×Obj))(σ:St)(Q:G0 V->Hp->Prop)(us:G0 G1)(s':G3):Prop:= ∃vs H',Inv X pins σ H' s'/\Vals vs us/\Q vs H'
def SP (X:Cx)(pins:G0 (G7×Obj))(D:Ends)(f:Flow)(s':G3):Prop:=
 match f with
 | .next=> ∃tE H',Inv X pins tE H' s'/\D.nx tE H'
 | .brk=> ∃tE H',Inv X pins tE H' s'/\D.bk tE H'
 | .cont=> ∃tE H',Inv X pins tE H' s'/\D.ct tE H'
 | .ret u=> ∃v tE H',Inv X pins tE H' s'/\RelV v u/\D.rt v H'
def PE (X:Cx)(e:S5)(t:TE):Prop:=
 ∀ (pins:G0 (G7×Obj)) (s:G3) (σ:St) (H:Hp) (Q:VK),Inv X pins σ H s->t σ H Q->R1 (R6 X.prog X.w) X.A (O4 e X.env) (EP X pins σ Q) X.xe s
def PT (X:Cx)(e:S5)(t:TT):Prop:=
 ∀ (pins:G0 (G7×Obj)) (s:G3) (σ:St) (H:Hp) (Q:M6->Hp->Prop),Inv X pins σ H s->t σ H Q->R1 (R6 X.prog X.w) X.A (isTrue e X.env (O4 e X.env)) (TP X pins σ Q) X.xe s
def PW (X:Cx)(e:S5)(t:TT):Prop:=
 ∀ (whole:Sem G1) (pins:G0 (G7×Obj)) (s:G3) (σ:St) (H:Hp) (Q:M6->Hp->Prop),Inv X pins σ H s->t σ H Q->R1 (R6 X.prog X.w) X.A (isTrue e X.env whole) (TP X pins σ Q) X.xe s
variable {X:Cx}
theorem PW.pt {e:S5}{t:TT}(h:PW X e t):PT X e t:=h _
def PA (X:Cx)(es:G0 S5)(t:TA):Prop:=
 ∀ (pos:Pos) (pins:G0 (G7×Obj)) (s:G3) (σ:St) (H:Hp) (Q:G0 V->Hp->Prop),Inv X pins σ H s->t σ H Q->R1 (R6 X.prog X.w) X.A (spliced (E6 pos (D2 es X.env))) (AP X pins σ Q) X.xe s
def PS (X:Cx)(st:F9)(t:TS):Prop:=
 ∀ (pins:G0 (G7×Obj)) (s:G3) (σ:St) (H:Hp) (D:Ends),Inv X pins σ H s->t D σ H->R1 (R6 X.prog X.w) X.A (exec st X.env) (SP X pins D) X.xe s
def PSs (X:Cx)(st:G0 F9)(t:TS):Prop:=
 ∀ (pins:G0 (G7×Obj)) (s:G3) (σ:St) (H:Hp) (D:Ends),Inv X pins σ H s->t D σ H->R1 (R6 X.prog X.w) X.A (execs st X.env) (SP X pins D) X.xe s
variable {A:T0}{s:G3}
theorem thn {α:Type}{t:Sem α}{Q Q':α->G3->Prop}{M:gA}{E:G1->G3->Prop}(h:R1 M A t Q E s)(hQ: ∀a s,Q a s->Q' a s):R1 M A t Q' E s:=S6 h hQ λ_ _ x=>x
section
variable {X:Cx}
def As (i:G9):TE:=λσ H Q=> ∃v,σ[i]? =some (some v)/\Q v H
def tC (v:V):TE:=λ_ H Q=>Q v H
variable {x:Str}
theorem BJ {i:G9}{pos:Pos}(hN:X.N[i]? =some x)(hv:Vis X.env.scope x)(hd:(x==("__debug__" :Str))=false:=by decide)(hcd:(x==("__classdict__" :Str))=false:=by decide):PE X (.Name x pos) (As i):=by
 intro pins s σ H Q I h;obtain⟨v,e,h⟩:=h;obtain⟨m,hn,hl⟩:=I.loc;obtain⟨u,r,l⟩:=hl i x v hN e hv;have fin:EP X pins σ Q u s:=⟨v,H,I,r,h⟩;rcases l with ⟨hk,hm⟩|⟨hk,c,hc,hcell⟩
 ·exact kQ (iT I.ok.kind hk hn hm fin) hd
 ·rcases hk with hk|hk
  ·exact kQ (wpAny_loadName_cell I.ok.kind hk hc hcell fin) hd
  ·exact kQ (wpAny_loadName_free I.ok.kind hk hc hcell fin hcd) hd
theorem pe_int {i j pos}:PE X (.Constant (.int i) j pos) (tC (.int i)):=λ_ _ _ H _ I h=>wpAny_Constant_int ⟨.int i,H,I.tok _,⟨_,rfl⟩,h⟩
theorem pe_bl {b j pos}:PE X (.Constant (.bool b) j pos) (tC (.bl b)):=λ_ _ _ H _ I h=>Constant_bool ⟨.bl b,H,I,rfl,h⟩
theorem pe_non {j pos}:PE X (.Constant .none j pos) (tC .non):=λ_ _ _ H _ I h=>Constant_none ⟨.non,H,I,rfl,h⟩
theorem pe_str {x j pos}:PE X (.Constant (.str x) j pos) (tC (.str x)):=λ_ _ _ H _ I h=>Calls.Constant_str ⟨.str x,H,I.tok _,⟨_,rfl⟩,h⟩
def Gl (X:Cx)(x:Str):Prop:=X.env.kindOf x=some .globalImplicit
variable {u:G1}
theorem vS {E:G1->G3->Prop}{pins:G0 (G7×Obj)}{s:G3}{σ:St}{H:Hp}{pos:Pos}{Q:G1->G3->Prop}(I:Inv X pins σ H s)(hg:Gl X x)(hm:X.mg x=some u)(h:Q u s)
 (hd:(x==("__debug__" :Str))=false:=by decide):R1 (R6 X.prog X.w) X.A (O4 (.Name x pos) X.env) Q E s:=
 Calls.Name_function_global I.ok.kind hg (Calls.loadGlobal_global (by rw [I.ok.glob];exact I.mod.glob.keeps I.bk) hm h) hd
theorem JY {E:G1->G3->Prop}{pins:G0 (G7×Obj)}{s:G3}{σ:St}{H:Hp}{pos:Pos}{Q:G1->G3->Prop}(I:Inv X pins σ H s)(hg:Gl X x)(hm:X.mg x=none)(hv:E4 x=some u)(h:Q u s)
 (hn:x≠ "__name__" :=by decide)(hd:(x==("__debug__" :Str))=false:=by decide):R1 (R6 X.prog X.w) X.A (O4 (.Name x pos) X.env) Q E s:=by
 obtain⟨mb,h1,h2⟩:=I.mod.blt;exact Calls.Name_function_global I.ok.kind hg (Calls.loadGlobal_builtin (by rw [I.ok.glob];exact I.mod.glob.keeps I.bk) hm (by rw [I.ok.blt];exact h1.keeps I.bk) ((h2 x hn).trans hv) h) hd
theorem Ql {v:V}{pos:Pos}(hg:Gl X x)(hm:X.mg x=some u)(r:RelV v u)(hd:(x==("__debug__" :Str))=false:=by decide):PE X (.Name x pos) (tC v):=
 λ_ _ _ H _ I h=>vS I hg hm ⟨v,H,I,r,h⟩ hd
theorem Qm {v:V}{pos:Pos}(hg:Gl X x)(hm:X.mg x=none)(hv:E4 x=some u)(r:RelV v u)(hn:x≠ "__name__" :=by decide)(hd:(x==("__debug__" :Str))=false:=by decide):PE X (.Name x pos) (tC v):=
 λ_ _ _ H _ I h=>JY I hg hm hv ⟨v,H,I,r,h⟩ hn hd
variable {a b:S5}{ta tb:TE}{pos:Pos}
def tB (t:TE):TT:=λσ H Q=>t σ H λx H1=> ∃c,x= .bl c/\Q c H1
theorem BK {e:S5}{t:TE}(h:PE X e t)(he: ∀whole,isTrue e X.env whole=(do let v <-whole;hU e.pos;bF [v] (sH v)):=by intro _;rfl):PT X e (tB t):=by
 intro pins s σ H Q I hw;refine isTrue_plain (thn (h pins s σ H _ I hw) λv s1 ⟨x,H1,I1,r1,q1⟩=> ?_) (he _);obtain⟨d,rfl,q⟩:=q1;cases r1;exact O9 ⟨H1,I1,q⟩
variable {tA tB':TT}{rest:G0 S5}
def At (t u:TT):TT:=λσ H Q=>t σ H λc H1=>if c=true then u σ H1 Q else Q false H1
def tOr (t u:TT):TT:=λσ H Q=>t σ H λc H1=>if c=true then Q true H1 else u σ H1 Q
def Au (t:TT):TT:=λσ H Q=>t σ H λc H1=>Q (!c) H1
theorem Mk (ha:PT X a tA):PW X (.BoolOp .And [a] pos) tA:=by
 intro wh pins s σ H Q I h;refine qW (thn (ha pins s σ H Q I h) λc s1 e=> ?_);cases c with
 |true=>exact isTrue_and_nil e
 |false=>exact e
theorem BL (ha:PT X a tA):PW X (.BoolOp .Or [a] pos) tA:=by
 intro wh pins s σ H Q I h;refine isTrue_or (thn (ha pins s σ H Q I h) λc s1 e=> ?_);cases c with
 |false=>exact isTrue_or_nil e
 |true=>exact e
theorem BM (ha:PT X a tA)(hb:PW X (.BoolOp .And (b::rest) pos) tB'):PW X (.BoolOp .And (a::b::rest) pos) (At tA tB'):=by
 intro wh pins s σ H Q I h;refine qW (thn (ha pins s σ H _ I h) λc s1 ⟨H1,I1,q1⟩=> ?_);cases c with
 |true=>exact hb wh pins s1 σ H1 Q I1 q1
 |false=>exact⟨H1,I1,q1⟩
theorem LL (ha:PT X a tA)(hb:PW X (.BoolOp .Or (b::rest) pos) tB'):PW X (.BoolOp .Or (a::b::rest) pos) (tOr tA tB'):=by
 intro wh pins s σ H Q I h;refine isTrue_or (thn (ha pins s σ H _ I h) λc s1 ⟨H1,I1,q1⟩=> ?_);cases c with
 |true=>exact⟨H1,I1,q1⟩
 |false=>exact hb wh pins s1 σ H1 Q I1 q1
theorem BN (ha:PT X a tA):PT X (.UnaryOp .Not a pos) (Au tA):=by
 intro pins s σ H Q I h;exact isTrue_not (ha pins s σ H (λc H1=>Q (!c) H1) I h)
def BO (ta tb:TE):TE:=λσ H Q=>ta σ H λx H1=> ∃c,x= .bl c/\if c=true then tb σ H1 Q else Q (.bl false) H1
def Av (ta tb:TE):TE:=λσ H Q=>ta σ H λx H1=> ∃c,x= .bl c/\if c=true then Q (.bl true) H1 else tb σ H1 Q
def BP (ta:TE):TE:=λσ H Q=>ta σ H λx H1=> ∃c,x= .bl c/\Q (.bl (!c)) H1
theorem BQ {op}{t:TE}(h:PE X a t):PE X (.BoolOp op [a] pos) t:=λpins s σ H Q I hw=>BoolOp_one (h pins s σ H Q I hw)
theorem BR (ha:PE X a ta)(hb:PE X (.BoolOp .And (b::rest) pos) tb):PE X (.BoolOp .And (a::b::rest) pos) (BO ta tb):=by
 intro pins s σ H Q I h;refine BoolOp_and (thn (ha pins s σ H _ I h) λv s1 ⟨x,H1,I1,r1,q1⟩=> ?_);obtain⟨c,rfl,q1⟩:=q1;cases r1;refine O9 ?_;cases c with
 |true=>exact hb pins s1 σ H1 Q I1 q1
 |false=>exact⟨.bl false,H1,I1,rfl,q1⟩
theorem LM (ha:PE X a ta)(hb:PE X (.BoolOp .Or (b::rest) pos) tb):PE X (.BoolOp .Or (a::b::rest) pos) (Av ta tb):=by
 intro pins s σ H Q I h;refine BoolOp_or (thn (ha pins s σ H _ I h) λv s1 ⟨x,H1,I1,r1,q1⟩=> ?_);obtain⟨c,rfl,q1⟩:=q1;cases r1;refine O9 ?_;cases c with
 |false=>exact hb pins s1 σ H1 Q I1 q1
 |true=>exact⟨.bl true,H1,I1,rfl,q1⟩
theorem BS (ha:PE X a ta):PE X (.UnaryOp .Not a pos) (BP ta):=by
 intro pins s σ H Q I h;refine UnaryOp_ (thn (ha pins s σ H _ I h) λv s1 ⟨x,H1,I1,r1,q1⟩=> ?_);obtain⟨c,rfl,q1⟩:=q1;cases r1;exact not_of (O9 ⟨.bl (!c),H1,I1,rfl,q1⟩)
def tIf (t:TT)(ta tb:TE):TE:=λσ H Q=>t σ H λc H1=>if c=true then ta σ H1 Q else tb σ H1 Q
theorem Db {c:S5}(hc:PT X c tA)(ha:PE X a ta)(hb:PE X b tb):PE X (.IfExp c a b pos) (tIf tA ta tb):=by
 intro pins s σ H Q I h;refine wpAny_IfExp (thn (hc pins s σ H _ I h) λd s1 ⟨H1,I1,q1⟩=> ?_);cases d with
 |true=>exact ha pins s1 σ H1 Q I1 q1
 |false=>exact hb pins s1 σ H1 Q I1 q1
end
def SqL (K:G2)(H:Hp)(a:G7)(xs:G0 V):Prop:=
 Rd H a (.lst xs)\/
  ∃ (o:Obj) (its:T9 G1) (n:G9),K.lookup a=some o/\o.cls= .type "list" /\o.dict=none/\o.data= .seq its n/\its.size<=sizeLine/\Vals xs its.toList
def SqT (K:G2)(H:Hp)(a:G7)(xs:G0 V):Prop:=
 Rd H a (.tup xs)\/
  ∃ (o:Obj) (its:T9 G1) (n:G9),K.lookup a=some o/\o.cls= .type "tuple" /\o.data= .seq its n/\its.size<=sizeLine/\Vals xs its.toList
def Eh:G1->P2 V
 | .none=>some .non
 | .bool b=>some (.bl b)
 | .int i _=>some (.int i)
 | .str x _=>some (.str x)
 | .bytes b _=>some (.byt b)
 | .float b _=>some (.flt b)
 | .ref a=>some (.ref a)
 | .type n=>some (.ty n)
 |_=>none
theorem RelV.abs {x:V}(r:RelV x u):Eh u=some x:=by
 cases x with
 |non=>cases r;rfl
 |bl _=>cases r;rfl
 |int _=>obtain⟨t,rfl⟩:=r;rfl
 |str _=>obtain⟨t,rfl⟩:=r;rfl
 |byt _=>obtain⟨t,rfl⟩:=r;rfl
 |flt _=>obtain⟨t,rfl⟩:=r;rfl
 |ref _=>cases r;rfl
 |ty _=>cases r;rfl
theorem RelV.inj {x y:V}(r:RelV x u)(q:RelV y u):x=y:=B8 (r.abs.symm.trans q.abs)
theorem Vals.inj: ∀ {xs ys:G0 V} {us:G0 G1},Vals xs us->Vals ys us->xs=ys
 |_,_,_,.nil,.nil=>rfl
 |_,_,_,.cons r t,.cons r' t'=>by rw [r.inj r',Vals.inj t t']
section
variable {X:Cx}{pins:G0 (G7×Obj)}{σ:St}{H:Hp}{s:G3}{a:G7}{xs ys:G0 V}
theorem SqL.of {K:G2}(h:H a=some (.lst xs)):SqL K H a xs:= .inl (.inl h)
theorem SqT.of {K:G2}(h:H a=some (.tup xs)):SqT K H a xs:= .inl (.inl h)
theorem Inv.list (I:Inv X pins σ H s)(h:SqL X.K H a xs): ∃its:G0 G1,Vals xs its/\PlainL s.heap a its.toArray/\xs.length<=sizeLine:=by
 rcases h with h|⟨o,its,n,hk,hc,hd,hs,hz,r⟩
 ·obtain⟨z,its,n,r,e⟩:=h.ok I.hok;exact⟨its,r,⟨_,n,e,rfl,rfl,rfl⟩,z⟩
 ·refine⟨its.toList,r,⟨o,n,I.kIn a o hk,hc,hd,by simpa using hs⟩,?_⟩;have e:=r.length;simp only [B0] at e;omega
theorem Inv.tuple (I:Inv X pins σ H s)(h:SqT X.K H a xs): ∃its:G0 G1,Vals xs its/\k5 s.heap a its.toArray/\xs.length<=sizeLine:=by
 rcases h with h|⟨o,its,n,hk,hc,hs,hz,r⟩
 ·obtain⟨z,its,r,p⟩:=h.ok I.hok;exact⟨its,r,p.tup,z⟩
 ·refine⟨its.toList,r,⟨o,I.kIn a o hk,hc,n,by simpa using hs⟩,?_⟩;have e:=r.length;simp only [B0] at e;omega
theorem Inv.list_inj (I:Inv X pins σ H s)(h:SqL X.K H a xs)(h':SqL X.K H a ys):xs=ys:=by
 obtain⟨its,r,⟨o,n,e,_,_,d⟩,_⟩:=I.list h;obtain⟨its',r',⟨o',n',e',_,_,d'⟩,_⟩:=I.list h';rw [e] at e';cases e';rw [d] at d';injection d' with d1 _
 have:its=its':=by simpa using congrArg k9 d1
 subst this;exact r.inj r'
theorem Inv.tuple_inj (I:Inv X pins σ H s)(h:SqT X.K H a xs)(h':SqT X.K H a ys):xs=ys:=by
 obtain⟨its,r,⟨o,e,_,n,d⟩,_⟩:=I.tuple h;obtain⟨its',r',⟨o',e',_,n',d'⟩,_⟩:=I.tuple h';rw [e] at e';cases e';rw [d] at d';injection d' with d1 _
 have:its=its':=by simpa using congrArg k9 d1
 subst this;exact r.inj r'
end
abbrev Cx.wish (X:Cx)(E:G1->G3->Prop):Cx:= {X with xe:=E}
abbrev Cx.nox (X:Cx):Cx:=X.wish λ_ _=>False
theorem Cx.Ok.wish (ok:X.Ok)(E:G1->G3->Prop):(X.wish E).Ok:=
 ⟨ok.mod,ok.kind,ok.glob,ok.blt,ok.above,ok.inj,ok.has,ok.cab,ok.hd,ok.frames,ok.stk,ok.exf,ok.bs,ok.bsz,ok.noex,ok.exfs,ok.funs,ok.frf⟩
theorem Cx.Ok.unwish {E:G1->G3->Prop}(ok:(X.wish E).Ok):X.Ok:=
 ⟨ok.mod,ok.kind,ok.glob,ok.blt,ok.above,ok.inj,ok.has,ok.cab,ok.hd,ok.frames,ok.stk,ok.exf,ok.bs,ok.bsz,ok.noex,ok.exfs,ok.funs,ok.frf⟩
section
variable {X:Cx}{pins:G0 (G7×Obj)}{σ:St}{H:Hp}{s:G3}{E:G1->G3->Prop}
theorem Inv.wish (I:Inv X pins σ H s)(E:G1->G3->Prop):Inv (X.wish E) pins σ H s:=⟨I.ok.wish E,I.os,I.bare,I.base,I.loc,I.cell,I.free,I.freeC,I.pin,I.hok,I.len⟩
theorem Inv.unwish (I:Inv (X.wish E) pins σ H s):Inv X pins σ H s:=⟨I.ok.unwish,I.os,I.bare,I.base,I.loc,I.cell,I.free,I.freeC,I.pin,I.hok,I.len⟩
theorem SP.unwish {D:Ends}{f:Flow}{s':G3}(h:SP (X.wish E) pins D f s'):SP X pins D f s':=by
 cases f with
 |next=>obtain⟨tE,H',I,q⟩:=h;exact⟨tE,H',I.unwish,q⟩
 |brk=>obtain⟨tE,H',I,q⟩:=h;exact⟨tE,H',I.unwish,q⟩
 |cont=>obtain⟨tE,H',I,q⟩:=h;exact⟨tE,H',I.unwish,q⟩
 |ret u=>obtain⟨v,tE,H',I,r,q⟩:=h;exact⟨v,tE,H',I.unwish,r,q⟩
theorem PSs.nox {st:G0 F9}{t:TS}(h:PSs X.nox st t):PSs X st t:=λpins s σ H D I hw=>
 S6 (h pins s σ H D (I.wish _) hw) (λ_ _ q=>q.unwish) λ_ _ z=>False.elim z
end
section
variable {X:Cx}{st:F9}{rest:G0 F9}{t u:TS}{e:S5}{te:TE}{pos:Pos}
def BT:TS:=λD σ H=>D.nx σ H
def Aw (t u:TS):TS:=λD σ H=>t {D with nx:=u D} σ H
theorem pss_nil:PSs X [] BT:=λ_ _ σ H _ I h=>bG ⟨σ,H,I,h⟩
theorem Dc (h1:PS X st t)(h2:PSs X rest u):PSs X (st::rest) (Aw t u):=by
 intro pins s σ H D I h;refine V0 (thn (h1 pins s σ H {D with nx:=u D} I h) λf s1 q=> ?_);cases f with
 |next=>
  obtain⟨tE,H',I',q⟩:=q;exact h2 pins s1 tE H' D I' q
 |ret v=>exact q
 |brk=>exact q
 |cont=>exact q
theorem Ml (h1:PS X st t):PSs X [st] t:=by
 intro pins s σ H D I h;refine V0 (thn (h1 pins s σ H D I h) λf s1 q=> ?_);cases f with
 |next=>exact bG q
 |ret v=>exact q
 |brk=>exact q
 |cont=>exact q
theorem Inv.quiet {pins:G0 (G7×Obj)}{σ:St}{H:Hp}{s:G3}(I:Inv X pins σ H s):qG X.env=false:=by simp [qG,I.ok.kind]
def BU (te:TE):TS:=λD σ H=>te σ H λ_ H1=>D.nx σ H1
theorem Mm (he:PE X e te)(hs:Y0 e none pos.line X.env=pure false:=by rfl):PS X (.Expr e pos) (BU te):=by
 intro pins s σ H D I h;exact nN (thn (he pins s σ H _ I h) λv s1 ⟨x,H1,I1,r1,q1⟩=>⟨σ,H1,I1,q1⟩) I.quiet hs
def Ax (te:TE):TS:=λD σ H=>te σ H D.rt
theorem BV (he:PE X e te):PS X (.Return (some e) pos) (Ax te):=by
 intro pins s σ H D I h;exact wpAny_Return_some (thn (he pins s σ H _ I h) λv s1 ⟨x,H1,I1,r1,q1⟩=>⟨x,σ,H1,I1,r1,q1⟩)
def Ay (c:TT)(t u:TS):TS:=λD σ H=>c σ H λb H1=>if b=true then t D σ H1 else u D σ H1
theorem LP {c:S5}{a b:G0 F9}{tc:TT}(hc:PT X c tc)(ha:PSs X a t)(hb:PSs X b u):PS X (.If c a b pos) (Ay tc t u):=by
 intro pins s σ H D I h;refine wpAny_If (thn (hc pins s σ H _ I h) λd s1 ⟨H1,I1,q1⟩=> ?_);cases d with
 |true=>exact ha pins s1 σ H1 D I1 q1
 |false=>exact hb pins s1 σ H1 D I1 q1
end
abbrev TG:=V->St->Hp->(St->Hp->Prop)->Prop
abbrev TGs:=G0 V->St->Hp->(St->Hp->Prop)->Prop
def PG (X:Cx)(target:S5)(t:TG):Prop:=
 ∀ (pins:G0 (G7×Obj)) (s:G3) (σ:St) (H:Hp) (v:V) (u:G1) (Q:St->Hp->Prop),Inv X pins σ H s->RelV v u->t v σ H Q->
  R1 (R6 X.prog X.w) X.A (dL target X.env u) (λ_ s'=> ∃tE H',Inv X pins tE H' s'/\Q tE H') X.xe s
def PGs (X:Cx)(ts:G0 S5)(t:TGs):Prop:=
 ∀ (pins:G0 (G7×Obj)) (s:G3) (σ:St) (H:Hp) (vs:G0 V) (us:G0 G1) (Q:St->Hp->Prop),Inv X pins σ H s->Vals vs us->t vs σ H Q->
  R1 (R6 X.prog X.w) X.A (kH ((bO ts X.env).map (·.2)) us) (λ_ s'=> ∃tE H',Inv X pins tE H' s'/\Q tE H') X.xe s
abbrev LQ:=V->V->V->Hp->(Hp->Prop)->Prop
def Az (X:Cx)(t:LQ):Prop:=
 ∀ (pins:G0 (G7×Obj)) (s:G3) (σ:St) (H:Hp) (o i v:V) (ov iv u:G1) (Q:Hp->Prop),Inv X pins σ H s->RelV o ov->RelV i iv->RelV v u->t o i v H Q->
  R1 (R6 X.prog X.w) X.A (pQ ov iv u) (λ_ s'=> ∃H',Inv X pins σ H' s'/\Q H') X.xe s
section
variable {X:Cx}{pos:Pos}
def yH (i:G9):TG:=λv σ H Q=>Q (σ.set i (some v)) H
theorem vT {i:G9}{x:Str}(hN:X.N.Nodup)(hi:X.N[i]? =some x)(hx:Loc X.env.scope x)(hf:X.fn x=true\/X.env.scope.names.lookup x=some .local:=by first|exact .inl rfl|exact .inr rfl|assumption):PG X (.Name x pos) (yH i):=by
 intro pins s σ H v u Q I r h;exact wpAny_assign_Name (wG I hN hi hx r (λs' I'=>⟨_,H,I',h⟩) hf)
def LU:TGs:=λvs σ H Q=>vs= []/\Q σ H
def Qn (t:TG)(u:TGs):TGs:=λvs σ H Q=> ∃v r,vs=v::r/\t v σ H λtE H'=>u r tE H' Q
theorem Qo:PGs X [] LU:=by
 intro pins s σ H vs us Q I r h;obtain⟨e,h⟩:=h;subst e;cases r;exact lA ⟨σ,H,I,h⟩
theorem JN {e:S5}{es:G0 S5}{t:TG}{u:TGs}(h1:PG X e t)(h2:PGs X es u)
 (hs:(bO (e::es) X.env).map (·.2)=dL e X.env::(bO es X.env).map (·.2):=by rfl):PGs X (e::es) (Qn t u):=by
 intro pins s σ H vs us Q I r h;obtain⟨v,vr,e1,h⟩:=h;subst e1;cases r with
 |cons r rr=>
  rw [hs];refine eM (thn (h1 pins s σ H _ _ _ I r h) λ_ s1 ⟨uF,H1,I1,q1⟩=> ?_);exact h2 pins s1 uF H1 _ _ Q I1 rr q1
def LV (K:G2)(n:G9)(t:TGs):TG:=λv σ H Q=> ∃a xs,v= .ref a/\SqT K H a xs/\xs.length=n/\t xs σ H Q
theorem RK {es:G0 S5}{k:G9}{t:TGs}{n:G9}(hc:X.calm=true)(h:PGs X es t)
 (hn:(bO es X.env).length=n:=by rfl)(hst:(bO es X.env).findIdx? (·.1)=none:=by rfl):PG X (.Tuple es k pos) (LV X.K n t):=by
 intro pins s σ H v u Q I r hw;obtain⟨a,xs,e1,hq,hl,hw⟩:=hw;subst e1;cases r;obtain⟨its,rv,ht,hz⟩:=I.tuple hq;refine assign_Tuple_tuple (I.ok.hd hc) ht (by simp [hn,<-hl,rv.length]) hst λh' hx=> ?_
 have I1:Inv X pins σ H {s with heap:=h'}:=I.kept (t':=s.toks) λb o e=>hx b o (T5 (D4 e)) e
 exact h pins _ σ H xs _ Q I1 (by simpa using rv) hw
def Ei (to ti:TE)(t:LQ):TG:=λv σ H Q=>to σ H λo H1=>ti σ H1 λi H2=>t o i v H2 λH3=>Q σ H3
theorem BW {o i:S5}{to ti:TE}{t:LQ}(ho:PE X o to)(hi:PE X i ti)(hs:Az X t)
 (ha: ∀v,dL (.Subscript o i pos) X.env v=(do
  let ov <-bF [v] (O4 o X.env)
  let iv <-bF [v,ov] (O4 i X.env)
  hU pos
  bF [v,ov,iv] (pQ ov iv v)
  rO [v,ov,iv] []):=by intro _;rfl):PG X (.Subscript o i pos) (Ei to ti t):=by
 intro pins s σ H v u Q I r h;rw [ha];refine wpAny_bind (A1 (thn (ho pins s σ H _ I h) λov s1 ⟨x,H1,I1,r1,q1⟩=> ?_));refine wpAny_bind (A1 (thn (hi pins s1 σ H1 _ I1 q1) λiv s2 ⟨y,H2,I2,r2,q2⟩=> ?_));refine wpAny_bind (aR (wpAny_bind (A1 (thn (hs pins s2 σ H2 x y v ov iv u _ I2 r1 r2 r q2) λ_ s3 ⟨H3,I3,q3⟩=> ?_))));exact wpAny_release ⟨σ,H3,I3,q3⟩
def Mn (te:TE)(g:TG):TS:=λD σ H=>te σ H λx H1=>g x σ H1 D.nx
theorem BX {tg e:S5}{te:TE}{g:TG}(he:PE X e te)(hg:PG X tg g)(hs:aS [tg] e pos.line X.env=pure false:=by rfl)(hw:aT [tg] e X.env=pure none:=by rfl)
 (h1:(bO [tg] X.env).map (·.2)= [dL tg X.env]:=by rfl):PS X (.Assign [tg] e pos) (Mn te g):=by
 intro pins s σ H D I h;refine wpAny_Assign_stores (thn (he pins s σ H _ I h) λv s1 ⟨x,H1,I1,r1,q1⟩=> ?_) hs hw;rw [h1];exact thn (hg pins s1 σ H1 x v _ I1 r1 q1) λ_ s2 q=>q
theorem BY {i:G9}{x:Str}{e:S5}{te:TE}{pos':Pos}(hN:X.N.Nodup)(hi:X.N[i]? =some x)(hx:Loc X.env.scope x)(he:PE X e te)(hs:Y0 e (some (.Name x pos')) pos.line X.env=pure false:=by rfl)(hf:X.fn x=true\/X.env.scope.names.lookup x=some .local:=by first|exact .inl rfl|exact .inr rfl|assumption):
 PS X (.Assign [.Name x pos'] e pos) (Mn te (yH i)):=by
 intro pins s σ H D I h;refine lB (thn (he pins s σ H _ I h) λv s1 ⟨y,H1,I1,r1,q1⟩=> ?_) hs;exact wG I1 hN hi hx r1 (λs2 I2=>⟨_,H1,I2,q1⟩) hf
def AA (i j:G9)(ta:TA):TS:=λD σ H=>ta σ H λvs H1=> ∃v w,vs= [v,w]/\D.nx ((σ.set i (some v)).set j (some w)) H1
theorem BZ {i j:G9}{x y:Str}{a b:S5}{ta:TA}{px py pt:Pos}{kt k2 pt2}(hc:X.calm=true)(hN:X.N.Nodup)(hi:X.N[i]? =some x)(hj:X.N[j]? =some y)(hij:i≠j)
 (hx:X.env.scope.names.lookup x=some .local)(hy:X.env.scope.names.lookup y=some .local)(ha:PA X [a,b] ta)
 (hw:aT [.Tuple [.Name x px,.Name y py] kt pt] (.Tuple [a,b] k2 pt2) X.env=pure (some [x,y]))
 (hs:aS [.Tuple [.Name x px,.Name y py] kt pt] (.Tuple [a,b] k2 pt2) pos.line X.env=pure false:=by rfl):
 PS X (.Assign [.Tuple [.Name x px,.Name y py] kt pt] (.Tuple [a,b] k2 pt2) pos) (AA i j ta):=by
 intro pins s σ H D I h;rw [exec_Assign_arm];refine wpAny_bind (aR ?_);rw [hs];refine wpAny_bind (P1 ?_);rw [S7 (by decide)];refine wpAny_bind (Tuple_ (thn (ha _ pins s σ H _ I h) λus s1 ⟨vs,H1,I1,r1,q1⟩=> ?_));obtain⟨v,w,e1,q1⟩:=q1;subst e1;obtain⟨u1,u2,rfl,rv,rw'⟩: ∃u1 u2,us= [u1,u2]/\RelV v u1/\RelV w u2:=by
  cases r1 with
  |cons p q=>
   cases q with
   |cons p' q'=>
    cases q';exact⟨_,_,rfl,p,p'⟩
 refine A9 ?_ (by show 2<=sizeLine;decide);have I2:Inv X pins σ H1 {s1 with heap:=s1.heap.push {cls:= .type "tuple",data:= .seq [u1,u2].toArray}}:=I1.kept (t':=s1.toks) λb o e=>G5 _ e
 rw [hw];refine wpAny_bind (P1 ?_);show R1 (R6 X.prog X.w) X.A (do rule "assign.swapped-stores";let items <-unpackItems (.ref s1.heap.objs.size) 2 none;kH [λv=>nO X.env y v,λv=>nO X.env x v] items.reverse;pure Flow.next) _ _ _;refine wpAny_bind (cX (wpAny_bind (unpackItems_tuple (items:= #[u1,u2]) (I.ok.hd hc) (IsTup.new s1.heap _) λh' hx'=> ?_)));have I3:=I2.kept (h':=h') (t':=s1.toks) λb o e=>hx' b o (T5 (D4 e)) e
 show R1 _ _ (kH [λv=>nO X.env y v,λv=>nO X.env x v] [u2,u1] >>= λ_=>pure Flow.next) _ _ _;refine wpAny_bind (eM (iU (wG I3 hN hj (.inl hy) rw' (λs2 I4=> ?_) (.inr hy))));refine eM (iU (wG I4 hN hi (.inl hx) rv (λs3 I5=>lA (P1 ?_)) (.inr hx)));rw [List.set_comm _ _ (E5 hij)] at I5;exact⟨_,H1,I5,q1⟩
end
structure It where
 go:G9->Hp->Prop
 yld:G9->Hp->V->Hp->Prop
 stop:G9->Hp->Prop
def Qf (X:Cx)(pins:G0 (G7×Obj))(H:Hp)(b:G7):Prop:=
 H b=none/\b≠X.env.locals/\b ∉ X.fs/\(b∈X.ex\/X.s₀.heap.objs.size<=b)/\(∀x c,X.env.cells.lookup x=some c->c≠b)/\ ∀p∈X.pn++pins,p.1≠b
theorem Inv.fpOk {pins:G0 (G7×Obj)}{σ:St}{H':Hp}(I:Inv X pins σ H s)(hb:s.heap.objs.size<=b)(hn:H' b=none):Qf X pins H' b:=by
 refine⟨hn,Q1 (R3 I.lt hb),I.nofs hb,.inr (S1 I.sz hb),λx c e z=> ?_,λp hp z=> ?_⟩
 ·obtain⟨v,q⟩:=I.cell x c e;exact absurd (R3 q.lt (by rw [z];exact hb)) (C3 _)
 ·exact absurd (R3 (D4 (I.pin p hp).1) (by rw [z];exact hb)) (C3 _)
structure Turn (P:R5)(w:N0)(K:G2)(tg:S5)(J:It)(fp:G0 G7)(it:G7)(tn:G9->N2->Prop):Prop where
 mem:it∈fp
 obj: ∀i h,tn i h-> ∀b∈fp,∃o,h.get? b=some o/\ ∀v,o.data≠ .cell v
 keep: ∀i h h',tn i h->(∀b∈fp,∀o,h.get? b=some o->h'.get? b=some o)->tn i h'
 item: ∀ (X:Cx),X.prog=P->X.w=w->X.K=K->X.calm=true-> ∀ (i:G9) (pins:G0 (G7×Obj)) (s:G3) (σ:St) (H:Hp) (E:G1->G3->Prop),Inv X pins σ H s->(∀b∈fp,Qf X pins H b)->tn i s.heap->J.go i H->
  R1 (R6 P w) X.A (nP (.ref it)) (λr s1=> ∃u,r=some u/\
   R1 (R6 P w) X.A (W5 tg (.ref it) u) (λ_ s2=> ∃x H',Inv X pins σ H' s2/\RelV x u/\J.yld i H x H'/\tn (i+1) s2.heap/\ ∀b∈fp,H' b=none) E s1) E s
 done: ∀ (X:Cx),X.prog=P->X.w=w->X.K=K->X.calm=true-> ∀ (i:G9) (pins:G0 (G7×Obj)) (s:G3) (σ:St) (H:Hp) (E:G1->G3->Prop),Inv X pins σ H s->(∀b∈fp,Qf X pins H b)->tn i s.heap->J.stop i H->
  R1 (R6 P w) X.A (nP (.ref it)) (λr s1=>r=none/\Inv X pins σ H s1) E s
 self: ∀ (A:T0) (i:G9) (s:G3) (Q:G1->G3->Prop) (E:G1->G3->Prop),tn i s.heap->Q (.ref it) s->R1 (R6 P w) A (nQ (.ref it)) Q E s
abbrev TI:=St->Hp->(It->Hp->Prop)->Prop
def PIE (X:Cx)(pins:G0 (G7×Obj))(σ:St)(tg:S5)(R:It->Hp->Prop)(itv:G1)(s2:G3):Prop:=
 ∃ (it:G7) (fp:G0 G7) (tn:G9->N2->Prop) (J:It) (H':Hp),itv= .ref it/\Inv X pins σ H' s2/\Turn X.prog X.w X.K tg J fp it tn/\tn 0 s2.heap/\(∀b∈fp,Qf X pins H' b)/\R J H'
def PI (X:Cx)(tg iter:S5)(wi:TI):Prop:=
 ∀ (pins:G0 (G7×Obj)) (s:G3) (σ:St) (H:Hp) (R:It->Hp->Prop),Inv X pins σ H s->wi σ H R->
  R1 (R6 X.prog X.w) X.A (O4 iter X.env) (λv s1=>R1 (R6 X.prog X.w) X.A (nQ v) (PIE X pins σ tg R) X.xe s1) X.xe s
variable {tg:S5}
theorem Mo {M : gA} {E : G1 → G3 → Prop} {it : G7} {o : Obj} {n : J9} {vs : T9 G1} {Q : Unit → G3 → Prop} (ho : s.heap.get? it = some o) (hc : o.cls = .type n) (hd : o.data = .fields vs)
    (hn : ["enumerate", "zip", "dict_itemiterator", "dict_reverseitemiterator", "odict_iterator", "itertools.zip_longest", "itertools.pairwise"].contains n = false) (hQ : Q () s) : R1 M A (W5 tg (.ref it) u) Q E s := by
  unfold W5
  cases tg <;> first
    | exact P1 hQ
    | (cases u <;> first
        | exact P1 hQ
        | (refine wpAny_bind (qX ho ?_)
           rw [hc, hd]
           show R1 M A (if (["enumerate", "zip", "dict_itemiterator", "dict_reverseitemiterator", "odict_iterator", "itertools.zip_longest", "itertools.pairwise"].contains n && vs[0]? == some (aM _)) = true then _ else _) Q E s
           rw [S7 (by intro h; rw [hn, Q8] at h; cases h)]
           exact P1 hQ))
def Itl (K:G2)(a:G7):It:=
 ⟨λi H=> ∃xs x,SqL K H a xs/\xs[i]? =some x,λi H x H'=>H'=H/\ ∀xs,SqL K H a xs->xs[i]? =some x,λi H=> ∃xs,SqL K H a xs/\xs.length<=i⟩
def Itt (K:G2)(a:G7):It:=
 ⟨λi H=> ∃xs x,SqT K H a xs/\xs[i]? =some x,λi H x H'=>H'=H/\ ∀xs,SqT K H a xs->xs[i]? =some x,λi H=> ∃xs,SqT K H a xs/\xs.length<=i⟩
def Itr (lo:D1)(n:G9):It:=⟨λi _=>i<n,λi H x H'=>H'=H/\x= .int (lo+i),λi _=>n<=i⟩
variable {K:G2}
theorem Yu (a it:G7):Turn P w K tg (Itl K a) [it] it (λi h=>h.IsListIter it a i) where
 mem:=by simp
 obj:=λi h st b hb=>by
  have e:b=it:=by simpa using hb
  subst e;obtain⟨o,e,c,d⟩:=st;exact⟨o,e,λv z=>by rw [d] at z;cases z⟩
 keep:=λi h h' st k=>st.at λo e=>k it (by simp) o e
 item:=by
  intro X hP hw hK hc i pins s σ H E I hf st hg;subst hP hw hK;obtain⟨xs,x,hq,hx⟩:=hg;obtain⟨its,rv,p,hz⟩:=I.list hq;obtain⟨u,hu,ru⟩:=rv.get hx;obtain⟨f0,f1,f2,f3,f4,f5⟩:=hf it (by simp);refine wpAny_pyNext_list_item st p.isList (x:=u) (by simpa using hu) λh' st' sb=> ?_
  have I1:Inv X pins σ H {s with heap:=h'}:=I.turned (t':=s.toks) (λb o hb e=>(sb.2 b hb).trans e) f0 f1 f3 f4 f5;obtain⟨o,e,c,d⟩:=id st';exact⟨u,rfl,Mo (s:= {s with heap:=h'}) e c d (by decide) ⟨x,H,I1,ru,⟨rfl,λys hy=>by rw [I.list_inj hy hq];exact hx⟩,st',λb hb=>(hf b hb).1⟩⟩
 done:=by
  intro X hP hw hK hc i pins s σ H E I hf st hg;subst hP hw hK;obtain⟨xs,hq,hx⟩:=hg;obtain⟨its,rv,p,hz⟩:=I.list hq;obtain⟨f0,f1,f2,f3,f4,f5⟩:=hf it (by simp);have hl:=rv.length;exact wpAny_pyNext_list_end (I.ok.hd hc) st p.isList (by simp;omega) λh' eb=>⟨rfl,I.turned (t':=s.toks) (λb o hb e=>eb b o hb e) f0 f1 f3 f4 f5⟩
 self:=λ_ _ _ _ _ st h=>wpAny_pyIter_listiter st h
theorem Xs (a it:G7):Turn P w K tg (Itt K a) [it] it (λi h=>h.IsTupleIter it a i) where
 mem:=by simp
 obj:=λi h st b hb=>by
  have e:b=it:=by simpa using hb
  subst e;obtain⟨o,e,c,d⟩:=st;exact⟨o,e,λv z=>by rw [d] at z;cases z⟩
 keep:=λi h h' st k=>st.at λo e=>k it (by simp) o e
 item:=by
  intro X hP hw hK hc i pins s σ H E I hf st hg;subst hP hw hK;obtain⟨xs,x,hq,hx⟩:=hg;obtain⟨its,rv,p,hz⟩:=I.tuple hq;obtain⟨u,hu,ru⟩:=rv.get hx;obtain⟨f0,f1,f2,f3,f4,f5⟩:=hf it (by simp);refine wpAny_pyNext_tuple_item st (show s.heap.IsTuple a its.toArray from p) (x:=u) (by simpa using hu) λh' st' sb=> ?_
  have I1:Inv X pins σ H {s with heap:=h'}:=I.turned (t':=s.toks) (λb o hb e=>(sb.2 b hb).trans e) f0 f1 f3 f4 f5;obtain⟨o,e,c,d⟩:=id st';exact⟨u,rfl,Mo (s:= {s with heap:=h'}) e c d (by decide) ⟨x,H,I1,ru,⟨rfl,λys hy=>by rw [I.tuple_inj hy hq];exact hx⟩,st',λb hb=>(hf b hb).1⟩⟩
 done:=by
  intro X hP hw hK hc i pins s σ H E I hf st hg;subst hP hw hK;obtain⟨xs,hq,hx⟩:=hg;obtain⟨its,rv,p,hz⟩:=I.tuple hq;obtain⟨f0,f1,f2,f3,f4,f5⟩:=hf it (by simp);have hl:=rv.length;exact wpAny_pyNext_tuple_end (I.ok.hd hc) st (show s.heap.IsTuple a its.toArray from p) (by simp;omega) λh' eb=>⟨rfl,I.turned (t':=s.toks) (λb o hb e=>eb b o hb e) f0 f1 f3 f4 f5⟩
 self:=λ_ _ _ _ _ st h=>wpAny_pyIter_tupleiter st h
theorem Xt (it:G7)(lo:D1)(n:G9):Turn P w K tg (Itr lo n) [it] it (λi h=>qH h it (lo+(i:G9)*1) ((n:D1)-(i:G9)) 1) where
 mem:=by simp
 obj:=λi h st b hb=>by
  have e:b=it:=by simpa using hb
  subst e;exact⟨_,st,λv z=>by
   have z':Data.fields _=Data.cell v:=z;cases z'⟩
 keep:=λi h h' st k=>k it (by simp) _ st
 item:=by
  intro X hP hw hK hc i pins s σ H E I hf st hg;subst hP hw hK;obtain⟨f0,f1,f2,f3,f4,f5⟩:=hf it (by simp);have W:=Walks.range (prog:=X.prog) (w:=X.w) (I.ok.hd hc) it lo 1 n;refine W.item i s _ _ hg st λv h' tk hv st' kk=> ?_
  obtain⟨t,rfl⟩:=hv;have I1:Inv X pins σ H {s with heap:=h',toks:=tk}:=I.turned (λb o hb e=>kk b o (by simpa using hb) e) f0 f1 f3 f4 f5;refine⟨_,rfl,Mo (s:= {s with heap:=h',toks:=tk}) (n:= "range_iterator") st' rfl rfl (by decide) ⟨.int (lo+i),H,I1,⟨t,?_⟩,⟨rfl,rfl⟩,st',λb hb=>(hf b hb).1⟩⟩;rw [Int.mul_one]
 done:=by
  intro X hP hw hK hc i pins s σ H E I hf st hg;subst hP hw hK;obtain⟨f0,f1,f2,f3,f4,f5⟩:=hf it (by simp);exact wpAny_pyNext_range_end (I.ok.hd hc) st (by have:n<=i:=hg;omega) λh' eb=>⟨rfl,I.turned (t':=s.toks) (λb o hb e=>eb b o hb e) f0 f1 f3 f4 f5⟩
 self:=λ_ _ _ _ _ st h=>wpAny_pyIter_rangeiter st h
section
variable {X:Cx}{tg:S5}
def Ca (K:G2)(tl:TE):TI:=λσ H R=>tl σ H λx H1=> ∃a,x= .ref a/\(∃xs,SqL K H1 a xs)/\R (Itl K a) H1
theorem Mp {l:S5}{tl:TE}(hl:PE X l tl):PI X tg l (Ca X.K tl):=by
 intro pins s σ H R I h;refine thn (hl pins s σ H _ I h) λv s1 ⟨x,H1,I1,r1,q1⟩=> ?_
 obtain⟨a,e,⟨xs,hq⟩,q⟩:=q1;subst e;cases r1;obtain⟨its,rv,p,hz⟩:=I1.list hq;refine aA p.isList ?_;refine⟨s1.heap.objs.size,[s1.heap.objs.size],_,_,H1,rfl,I1.kept (t':=s1.toks) λb o e=>G5 _ e,Yu a _,⟨_,S3 _ rfl,rfl,rfl⟩,λb hb=> ?_,q⟩;have e:b=s1.heap.objs.size:=by simpa using hb
 subst e;exact I1.fpOk (P3 _) (I1.hok.fresh (P3 _))
variable {pins:G0 (G7×Obj)}
theorem UE {σ:St}{H:Hp}{s:G3}{R:It->Hp->Prop}{E:G1->G3->Prop}{lo hi:D1}{t u v:Tok}{tk:G9}(I:Inv X pins σ H s)(h1: -(2^62)<=lo)(h2:lo<2^62)(h3: -(2^62)<=hi)(h4:hi<2^62)
 (q:R (Itr lo (hi-lo).toNat) H):R1 (R6 X.prog X.w) X.A (nQ (.ref s.heap.objs.size)) (PIE X pins σ tg R) E {s with heap:=s.heap.push {cls:= .type "range",data:= .fields #[.int lo t,.int hi u,.int 1 v]},toks:=tk}:=by
 refine wpAny_pyIter_range (IsRange.new ..) (small_one h1 h2 h3 h4) ?_;have I1:Inv X pins σ H {s with heap:=s.heap.push {cls:= .type "range",data:= .fields #[.int lo t,.int hi u,.int 1 v]},toks:=tk}:=I.kept λb o e=>G5 _ e
 refine⟨(s.heap.push {cls:= .type "range",data:= .fields #[.int lo t,.int hi u,.int 1 v]}).objs.size,[(s.heap.push {cls:= .type "range",data:= .fields #[.int lo t,.int hi u,.int 1 v]}).objs.size],_,_,H,rfl,
  I1.kept (t':=tk) λb o e=>G5 _ e,Xt _ lo (hi-lo).toNat,?_,λb hb=> ?_,q⟩
 ·have e1:lo+((0:G9):D1)*1=lo:=by simp
  have e2:(((hi-lo).toNat:G9):D1)-((0:G9):D1)=Builtin.Range.rangeSize lo hi 1:=by rw [rangeSize_one];split<;>omega
  show qH _ _ (lo+((0:G9):D1)*1) ((((hi-lo).toNat:G9):D1)-((0:G9):D1)) 1;rw [e1,e2];exact S3 _ rfl
 ·have e:b=(s.heap.push {cls:= .type "range",data:= .fields #[.int lo t,.int hi u,.int 1 v]}).objs.size:=by simpa using hb
  subst e;exact I1.fpOk (P3 _) (I1.hok.fresh (P3 _))
def Cb (ta:TA):TI:=λσ H R=>ta σ H λvs H1=> ∃j:D1,vs= [.int j]/\ -(2^62)<=j/\j<2^62/\R (Itr 0 j.toNat) H1
def Cc (ta:TA):TI:=λσ H R=>ta σ H λvs H1=> ∃i j:D1,vs= [.int i,.int j]/\(-(2^62)<=i/\i<2^62/\ -(2^62)<=j/\j<2^62)/\R (Itr i (j-i).toNat) H1
theorem Qp {a:S5}{ta:TA}{p pos:Pos}(hg:Gl X "range")(hm:X.mg "range" =none)(ha:PA X [a] ta)(hs:D2 [a] X.env= [(false,O4 a X.env)]:=by rfl):PI X tg (.Call (.Name "range" p) [a] [] pos) (Cb ta):=by
 intro pins s σ H R I h;refine sI (JY I hg hm qY (J8 (thn (ha pos pins s σ H _ I h) λus s1 ⟨vs,H1,I1,r1,q1⟩=> ?_) hs rfl));obtain⟨j,e,q1,q2,q⟩:=q1;subst e;cases r1 with
 |cons r rr=>
  cases rr;obtain⟨t,rfl⟩:=r;exact call_range_1 (UE I1 (by omega) (by omega) q1 q2 (by simpa using q))
theorem Qq {a b:S5}{ta:TA}{p pos:Pos}(hg:Gl X "range")(hm:X.mg "range" =none)(ha:PA X [a,b] ta)(hs:D2 [a,b] X.env= [(false,O4 a X.env),(false,O4 b X.env)]:=by rfl)(hs2:D2 [b] X.env= [(false,O4 b X.env)]:=by rfl):
 PI X tg (.Call (.Name "range" p) [a,b] [] pos) (Cc ta):=by
 intro pins s σ H R I h;refine sI (JY I hg hm qY (J8 (thn (ha pos pins s σ H _ I h) λus s1 ⟨vs,H1,I1,r1,q1⟩=> ?_) (by rw [hs,hs2]) (by rw [hs2];rfl)));obtain⟨i,j,e,⟨q1,q2,q3,q4⟩,q⟩:=q1;subst e;cases r1 with
 |cons r rr=>
  cases rr with
  |cons r' rr=>
   cases rr;obtain⟨t,rfl⟩:=r;obtain⟨t',rfl⟩:=r';exact call_range_2 (UE I1 q1 q2 q3 q4 q)
def AB (wi:TI)(g:TG)(tb:TS):TS:=λD σ H=>wi σ H λJ H1=> ∃W:G9->G9->St->Hp->Prop,(∃m,W 0 m σ H1)/\ ∀i m σ H,W i m σ H->
 (J.stop i H/\D.nx σ H)\/(J.go i H/\ ∃N:St->Hp->Prop,(∀tE H',N tE H'-> ∃m',m'<m/\W (i+1) m' tE H')/\ ∀x H',J.yld i H x H'->g x σ H' λtJ H2=>tb {D with nx:=N,ct:=N,bk:=D.nx} tJ H2)
def yK (fp:G0 G7)(h:N2):G0 (G7×Obj):=fp.filterMap λb=>(h.get? b).map λo=>(b,o)
theorem zS {fp:G0 G7}{h:N2}{b:G7}{o:Obj}(hb:b∈fp)(e:h.get? b=some o):(b,o)∈yK fp h:=Y6.mpr ⟨b,hb,by rw [e];rfl⟩
theorem JZ {fp:G0 G7}{h:N2}{p:G7×Obj}(hp:p∈yK fp h):p.1∈fp/\h.get? p.1=some p.2:=by
 obtain⟨b,hb,e⟩:=Y6.mp hp;cases q:h.get? b with
 |none=>rw [q] at e;cases e
 |some o=>
  rw [q] at e;have e':(b,o)=p:=B8 e;subst e';exact⟨hb,q⟩
theorem Inv.pinned {σ:St}{H:Hp}{s:G3}{fp:G0 G7}(I:Inv X pins σ H s)(hf: ∀b∈fp,Qf X pins H b)(ho: ∀b∈fp,∃o,s.heap.get? b=some o/\ ∀v,o.data≠ .cell v):Inv X (pins++yK fp s.heap) σ H s:=
 I.pins_of λp hp=>(D3.mp hp).elim (λz=>I.pin p (D6 _ z)) λz=>by
  obtain⟨hb,e⟩:=JZ z;obtain⟨f0,f1,f2,_⟩:=hf p.1 hb;obtain⟨o,e',d⟩:=ho p.1 hb;rw [e] at e';cases e';exact⟨e,f0,f1,f2,d⟩
theorem Inv.unpinned {pl:G0 (G7×Obj)}{σ:St}{H:Hp}{s:G3}(I:Inv X (pins++pl) σ H s):Inv X pins σ H s:=I.pins_of λp hp=>I.pin p (D6 _ (C5 _ hp))
theorem Cd {iter:S5}{body:G0 F9}{wi:TI}{g:TG}{tb:TS}{pos:Pos}(hp:pI (R6 X.prog X.w) X.A X.env X.xe)(hc:X.calm=true)(hi:PI X tg iter wi)(hg:PG X tg g)(hb:PSs X body tb)
 (hs: ∀x,T7 iter X.env x=pure x:=by intro _;rfl):PS X (.For tg iter body [] pos) (AB wi g tb):=by
 intro pins s σ H D I h;refine wpAny_For (thn (hi pins s σ H _ I h) λv s1 h1=>thn h1 λitv s2 h2=> ?_) hs;obtain⟨it,fp,tn,J,H2,e,I2,T,st2,f2,W,⟨m0,w0⟩,turn⟩:=h2;subst e
 -- what stays true of the iterator's objects through the loop
 have stat: ∀ {H':Hp},(∀b∈fp,H' b=none)-> ∀b∈fp,Qf X pins H' b:=λhn b hb=>⟨hn b hb,(f2 b hb).2⟩
 refine codeAny_forLoop_any (λn s'=> ∃i tE H',Inv X pins tE H' s'/\tn i s'.heap/\(∀b∈fp,H' b=none)/\W i n tE H') ?_ m0 ⟨0,σ,H2,I2,st2,λb hb=>(f2 b hb).1,w0⟩;rintro n s3 ⟨i,tM,H3,I3,st3,fr3,w3⟩;rcases turn i n tM H3 w3 with ⟨stop,qn⟩|⟨go,N,hN,step⟩
 ·refine bH hp (thn (T.done X rfl rfl rfl hc i pins s3 tM H3 X.xe I3 (stat fr3) st3 stop) λr s4 ⟨hr,I4⟩=> ?_);subst hr;exact bG ⟨tM,H3,I4,qn⟩
 ·refine bH hp (thn (T.item X rfl rfl rfl hc i pins s3 tM H3 X.xe I3 (stat fr3) st3 go) λr s4 ⟨u,hr,h4⟩=> ?_);subst hr;refine bH hp (thn h4 λ_ s5 ⟨x,H5,I5,r5,y5,st5,fr5⟩=> ?_);have I5':=I5.pinned (stat fr5) (T.obj _ _ st5);refine bH hp (thn (hg _ s5 tM H5 x u _ I5' r5 (step x H5 y5)) λ_ s6 ⟨u4,H6,I6,q6⟩=> ?_);refine bH hp (thn (hb _ s6 u4 H6 _ I6 q6) λf s7 q7=> ?_);have sJ: ∀ {tU:St} {H7:Hp},Inv X (pins++yK fp s5.heap) tU H7 s7->N tU H7-> ∃m,m<n/\ ∃i tE H',Inv X pins tE H' s7/\tn i s7.heap/\(∀b∈fp,H' b=none)/\W i m tE H':=λ{tU H7} I7 n7=>by
   obtain⟨m',hm,w7⟩:=hN tU H7 n7;refine⟨m',hm,i+1,tU,H7,I7.unpinned,T.keep _ _ _ st5 λb hb o e=>(I7.pin (b,o) (D6 _ (D6 _ (zS hb e)))).1,λb hb=> ?_,w7⟩;obtain⟨o,e,d⟩:=T.obj _ _ st5 b hb;exact(I7.pin (b,o) (D6 _ (D6 _ (zS hb e)))).2.1
  cases f with
  |next=>obtain⟨tU,H7,I7,n7⟩:=q7;exact sJ I7 n7
  |cont=>obtain⟨tU,H7,I7,n7⟩:=q7;exact sJ I7 n7
  |brk=>obtain⟨tU,H7,I7,q7⟩:=q7;exact⟨tU,H7,I7.unpinned,q7⟩
  |ret v=>obtain⟨x7,tU,H7,I7,r7,q7⟩:=q7;exact⟨x7,tU,H7,I7.unpinned,r7,q7⟩
end
abbrev R2:=V->V->Hp->VK->Prop
def OpR (X:Cx)(f:G1->G1->Sem G1)(r:R2):Prop:=
 ∀ (pins:G0 (G7×Obj)) (s:G3) (σ:St) (H:Hp) (x y:V) (v u:G1) (Q:VK),Inv X pins σ H s->RelV x v->RelV y u->r x y H Q->
  R1 (R6 X.prog X.w) X.A (f v u) (EP X pins σ Q) X.xe s
def UnR (X:Cx)(f:G1->Sem G1)(r:V->Hp->VK->Prop):Prop:=
 ∀ (pins:G0 (G7×Obj)) (s:G3) (σ:St) (H:Hp) (x:V) (v:G1) (Q:VK),Inv X pins σ H s->RelV x v->r x H Q->
  R1 (R6 X.prog X.w) X.A (f v) (EP X pins σ Q) X.xe s
def CallR (X:Cx)(f:G1)(r:G0 V->Hp->VK->Prop):Prop:=
 ∀ (pins:G0 (G7×Obj)) (s:G3) (σ:St) (H:Hp) (xs:G0 V) (us:G0 G1) (Q:VK),Inv X pins σ H s->Vals xs us->r xs H Q->
  R1 (R6 X.prog X.w) X.A (call f us) (EP X pins σ Q) X.xe s
def tOp (r:R2)(ta tb:TE):TE:=λσ H Q=>ta σ H λx H1=>tb σ H1 λy H2=>r x y H2 Q
def tUn (r:V->Hp->VK->Prop)(ta:TE):TE:=λσ H Q=>ta σ H λx H1=>r x H1 Q
def rI (C:D1->D1->Prop)(g:D1->D1->V):R2:=λx y H Q=> ∃i j,x= .int i/\y= .int j/\C i j/\Q (g i j) H
def rI0 (g:D1->D1->V):R2:=λx y H Q=> ∃i j,x= .int i/\y= .int j/\Q (g i j) H
def rU (g:D1->V):V->Hp->VK->Prop:=λx H Q=> ∃i,x= .int i/\Q (g i) H
section
variable {X:Cx}{a b c:S5}{ta tb tc:TE}{pos:Pos}
theorem LW (ha:PE X a ta)(hb:PE X b tb){pins:G0 (G7×Obj)}{s:G3}{σ:St}{H:Hp}{R:V->V->Hp->Prop}(I:Inv X pins σ H s)
 (h:ta σ H λx H1=>tb σ H1 λy H2=>R x y H2){Q:G1->G3->Prop}{f:G1->G1->Sem G1}
 (hf: ∀v u s2 x y H2,Inv X pins σ H2 s2->RelV x v->RelV y u->R x y H2->R1 (R6 X.prog X.w) X.A (f v u) Q X.xe s2):
 R1 (R6 X.prog X.w) X.A (O4 a X.env) (λv tG=>R1 (R6 X.prog X.w) X.A (O4 b X.env) (λu tN=>R1 (R6 X.prog X.w) X.A (f v u) Q X.xe tN) X.xe tG) X.xe s:=by
 refine thn (ha pins s σ H _ I h) λv s1 ⟨x,H1,I1,r1,q1⟩=> ?_
 refine thn (hb pins s1 σ H1 _ I1 q1) λu s2 ⟨y,H2,I2,r2,q2⟩=> ?_
 exact hf v u s2 x y H2 I2 r1 r2 q2
theorem LX {op:qI}{r:R2}(ho:OpR X (J5 op) r)(ha:PE X a ta)(hb:PE X b tb):PE X (.BinOp a op b pos) (tOp r ta tb):=by
 intro pins s σ H Q I h;exact wpAny_BinOp (LW ha hb I h λv u s2 x y H2 I2 rx ry q=>ho pins s2 σ H2 x y v u Q I2 rx ry q)
theorem LY {op:UnaryOp}{r:V->Hp->VK->Prop}(ho:UnR X (unaryOp op) r)(ha:PE X a ta):PE X (.UnaryOp op a pos) (tUn r ta):=by
 intro pins s σ H Q I h;exact UnaryOp_ (thn (ha pins s σ H _ I h) λv s1 ⟨x,H1,I1,r1,q1⟩=>ho pins s1 σ H1 x v Q I1 r1 q1)
theorem opI {f:G1->G1->Sem G1}{C:D1->D1->Prop}{g:D1->D1->D1}
 (rule: ∀ (i j:D1) (t u:Tok) (s:G3) (Q:G1->G3->Prop) (E:G1->G3->Prop),C i j->Q (.int (g i j) s.toks) {s with toks:=s.toks+1}->R1 (R6 X.prog X.w) X.A (f (.int i t) (.int j u)) Q E s):
 OpR X f (rI C λi j=> .int (g i j)):=by
 intro pins s σ H x y v u Q I rx ry h;obtain⟨i,j,rfl,rfl,hc,q⟩:=h;obtain⟨t,rfl⟩:=rx;obtain⟨t',rfl⟩:=ry;exact rule i j t t' s _ _ hc ⟨.int (g i j),H,I.tok _,⟨_,rfl⟩,q⟩
theorem AC {f:G1->G1->Sem G1}{g:D1->D1->D1}
 (rule: ∀ (i j:D1) (t u:Tok) (s:G3) (Q:G1->G3->Prop) (E:G1->G3->Prop),Q (.int (g i j) s.toks) {s with toks:=s.toks+1}->R1 (R6 X.prog X.w) X.A (f (.int i t) (.int j u)) Q E s):
 OpR X f (rI0 λi j=> .int (g i j)):=by
 intro pins s σ H x y v u Q I rx ry h;obtain⟨i,j,rfl,rfl,q⟩:=h;obtain⟨t,rfl⟩:=rx;obtain⟨t',rfl⟩:=ry;exact rule i j t t' s _ _ ⟨.int (g i j),H,I.tok _,⟨_,rfl⟩,q⟩
theorem Lx {f:G1->G1->Sem G1}{g:D1->D1->M6}
 (rule: ∀ (i j:D1) (t u:Tok) (s:G3) (Q:G1->G3->Prop) (E:G1->G3->Prop),Q (.bool (g i j)) s->R1 (R6 X.prog X.w) X.A (f (.int i t) (.int j u)) Q E s):
 OpR X f (rI0 λi j=> .bl (g i j)):=by
 intro pins s σ H x y v u Q I rx ry h;obtain⟨i,j,rfl,rfl,q⟩:=h;obtain⟨t,rfl⟩:=rx;obtain⟨t',rfl⟩:=ry;exact rule i j t t' s _ _ ⟨.bl (g i j),H,I,rfl,q⟩
def AD (i j:D1):Prop:=0<j/\j<1073741824
def AE (i j:D1):Prop:=0<=j/\j<=1000000/\i.natAbs<2^64
def CMul (i j:D1):Prop:=(-(2^64)<i/\i<2^64)\/(-(2^64)<j/\j<2^64)
theorem CMul.ok {i j:D1}(h:CMul i j):IntMulOk i j:=by
 rcases h with ⟨h1,h2⟩|⟨h1,h2⟩
 ·exact .of_left (oQ h1 h2)
 ·exact .of_right (oQ h1 h2)
theorem op_add:OpR X (J5 .Add) (rI0 λi j=> .int (i+j)):=AC λ_ _ _ _ _ _ _ q=>add_int q
theorem Ce:OpR X (J5 .Sub) (rI0 λi j=> .int (i-j)):=AC λ_ _ _ _ _ _ _ q=>sub_int q
theorem op_mul:OpR X (J5 .Mult) (rI CMul λi j=> .int (i*j)):=opI λ_ _ _ _ _ _ _ hc q=>mul_int q hc.ok
theorem Mq:OpR X (J5 .FloorDiv) (rI AD λi j=> .int (i / j)):=opI λi j _ _ _ _ _ hc q=>by
 have h1:(0:D1)<j:=hc.1;have h2:j<1073741824:=hc.2;exact floordiv_int (by omega) (by rw [eN i (by omega)];exact q) (.inl (PyProof.noPylong_small (by omega)))
theorem Cf:OpR X (J5 .Mod) (rI (λ_ j=>0<j) λi j=> .int (i%j)):=opI λi j _ _ _ _ _ hc q=>by
 have h1:(0:D1)<j:=hc;exact mod_int' (by omega) (by rw [eO i (by omega)];exact q)
theorem Cg:OpR X (J5 .Pow) (rI AE λi j=> .int (i^j.toNat)):=opI λ_ _ _ _ _ _ _ hc q=>pow_int_small hc.1 hc.2.1 hc.2.2 q
theorem unI {f:G1->Sem G1}{g:D1->D1}
 (rule: ∀ (i:D1) (t:Tok) (s:G3) (Q:G1->G3->Prop) (E:G1->G3->Prop),Q (.int (g i) s.toks) {s with toks:=s.toks+1}->R1 (R6 X.prog X.w) X.A (f (.int i t)) Q E s):
 UnR X f (rU λi=> .int (g i)):=by
 intro pins s σ H x v Q I rx h;obtain⟨i,rfl,q⟩:=h;obtain⟨t,rfl⟩:=rx;exact rule i t s _ _ ⟨.int (g i),H,I.tok _,⟨_,rfl⟩,q⟩
theorem Ch:UnR X (unaryOp .USub) (rU λi=> .int (-i)):=unI λ_ _ _ _ _ q=>neg_int q
end
def AF:V->V->M6
 | .non,.non=>true| .non,.int _=>true| .int _,.non=>true| .non,.bl _=>true| .bl _,.non=>true| .non,.str _=>true| .str _,.non=>true
 | .int _,.int _=>true| .bl _,.bl _=>true| .str _,.str _=>true| .byt _,.byt _=>true
 | .int _,.str _=>true| .str _,.int _=>true| .bl _,.str _=>true| .str _,.bl _=>true
 |_,_=>false
def rEq:R2:=λx y H Q=>AF x y=true/\Q (.bl (decide (x=y))) H
def rNe:R2:=λx y H Q=>AF x y=true/\Q (.bl (!decide (x=y))) H
theorem Qr {i j:D1}:decide (V.int i=V.int j)=(i==j):=by
 rw [H0];simp
theorem RL {i j:M6}:decide (V.bl i=V.bl j)=(i==j):=by
 rw [H0];simp
theorem Qs {i j:Str}:decide (V.str i=V.str j)=(i==j):=by
 rw [H0];simp
theorem Qt {i j:T9 UInt8}:decide (V.byt i=V.byt j)=(i.toList==j.toList):=by
 rw [H0];cases i;cases j;simp
section
variable {X:Cx}{a b c:S5}{ta tb tc:TE}{pos:Pos}
theorem jA {pins:G0 (G7×Obj)}{σ:St}{H:Hp}{s:G3}{Q:VK}{k k':M6}(I:Inv X pins σ H s)(q:Q (.bl k) H)(e:k=k'):EP X pins σ Q (.bool k') s:=by
 subst e;exact⟨.bl k,H,I,rfl,q⟩
theorem op_eq:OpR X (M7 .Eq) rEq:=by
 intro pins s σ H x y v u Q I rx ry h;obtain⟨hs,q⟩:=h;cases x with
 |non=>
  cases rx;cases y with
  |non=>cases ry;exact PySem.EqNone.eq_none_none (jA I q (by simp))
  |bl j=>cases ry;exact PySem.EqNone.eq_none_bool (jA I q (by simp))
  |int j=>obtain⟨t',rfl⟩:=ry;exact PySem.EqNone.eq_none_int (jA I q (by simp))
  |str j=>obtain⟨t',rfl⟩:=ry;exact PySem.EqNone.eq_none_str (jA I q (by simp))
  |_=>exact absurd (show false=true from hs) R0
 |bl i=>
  cases rx;cases y with
  |non=>cases ry;exact PySem.EqNone.eq_bool_none (jA I q (by simp))
  |bl j=>cases ry;exact eq_bool (jA I q RL)
  |str j=>obtain⟨t',rfl⟩:=ry;exact PySem.EqMixed.eq_bool_str (jA I q (by simp))
  |_=>exact absurd (show false=true from hs) R0
 |int i=>
  obtain⟨t,rfl⟩:=rx;cases y with
  |non=>cases ry;exact PySem.EqNone.eq_int_none (jA I q (by simp))
  |int j=>obtain⟨t',rfl⟩:=ry;exact eq_int (jA I q Qr)
  |str j=>obtain⟨t',rfl⟩:=ry;exact PySem.EqMixed.eq_int_str (jA I q (by simp))
  |_=>exact absurd (show false=true from hs) R0
 |str i=>
  obtain⟨t,rfl⟩:=rx;cases y with
  |non=>cases ry;exact PySem.EqNone.eq_str_none (jA I q (by simp))
  |bl j=>cases ry;exact PySem.EqMixed.eq_str_bool (jA I q (by simp))
  |int j=>obtain⟨t',rfl⟩:=ry;exact PySem.EqMixed.eq_str_int (jA I q (by simp))
  |str j=>obtain⟨t',rfl⟩:=ry;exact eq_str (jA I q Qs)
  |_=>exact absurd (show false=true from hs) R0
 |byt i=>
  obtain⟨t,rfl⟩:=rx;cases y with
  |byt j=>obtain⟨t',rfl⟩:=ry;exact rX (jA I q Qt)
  |_=>exact absurd (show false=true from hs) R0
 |_=>cases y<;>exact absurd (show false=true from hs) R0
theorem op_ne:OpR X (M7 .NotEq) rNe:=by
 intro pins s σ H x y v u Q I rx ry h;obtain⟨hs,q⟩:=h;cases x with
 |non=>
  cases rx;cases y with
  |non=>cases ry;exact PySem.EqNone.ne_none_none (jA I q (by simp))
  |bl j=>cases ry;exact PySem.EqNone.ne_none_bool (jA I q (by simp))
  |int j=>obtain⟨t',rfl⟩:=ry;exact PySem.EqNone.ne_none_int (jA I q (by simp))
  |str j=>obtain⟨t',rfl⟩:=ry;exact PySem.EqNone.ne_none_str (jA I q (by simp))
  |_=>exact absurd (show false=true from hs) R0
 |bl i=>
  cases rx;cases y with
  |non=>cases ry;exact PySem.EqNone.ne_bool_none (jA I q (by simp))
  |bl j=>cases ry;exact ne_bool (jA I q (congrArg not RL))
  |str j=>obtain⟨t',rfl⟩:=ry;exact PySem.EqMixed.ne_bool_str (jA I q (by simp))
  |_=>exact absurd (show false=true from hs) R0
 |int i=>
  obtain⟨t,rfl⟩:=rx;cases y with
  |non=>cases ry;exact PySem.EqNone.ne_int_none (jA I q (by simp))
  |int j=>obtain⟨t',rfl⟩:=ry;exact ne_int (jA I q (congrArg not Qr))
  |str j=>obtain⟨t',rfl⟩:=ry;exact PySem.EqMixed.ne_int_str (jA I q (by simp))
  |_=>exact absurd (show false=true from hs) R0
 |str i=>
  obtain⟨t,rfl⟩:=rx;cases y with
  |non=>cases ry;exact PySem.EqNone.ne_str_none (jA I q (by simp))
  |bl j=>cases ry;exact PySem.EqMixed.ne_str_bool (jA I q (by simp))
  |int j=>obtain⟨t',rfl⟩:=ry;exact PySem.EqMixed.ne_str_int (jA I q (by simp))
  |str j=>obtain⟨t',rfl⟩:=ry;exact ne_str (jA I q (congrArg not Qs))
  |_=>exact absurd (show false=true from hs) R0
 |byt i=>
  obtain⟨t,rfl⟩:=rx;cases y with
  |byt j=>obtain⟨t',rfl⟩:=ry;exact rY (jA I q (congrArg not Qt))
  |_=>exact absurd (show false=true from hs) R0
 |_=>cases y<;>exact absurd (show false=true from hs) R0
theorem LZ:OpR X (M7 .Lt) (rI0 λi j=> .bl (decide (i<j))):=Lx λ_ _ _ _ _ _ _ q=>lt_int q
theorem Oa:OpR X (M7 .LtE) (rI0 λi j=> .bl (decide (i<=j))):=Lx λ_ _ _ _ _ _ _ q=>le_int q
theorem Ob:OpR X (M7 .Gt) (rI0 λi j=> .bl (decide (j<i))):=Lx λ_ _ _ _ _ _ _ q=>gt_int q
theorem Oc:OpR X (M7 .GtE) (rI0 λi j=> .bl (decide (j<=i))):=Lx λ_ _ _ _ _ _ _ q=>ge_int q
theorem Ci:OpR X (M7 .Is) (λx y H Q=>y= .non/\Q (.bl (decide (x= .non))) H):=by
 intro pins s σ H x y v u Q I rx ry h;obtain⟨rfl,q⟩:=h;cases ry;refine is_none_gen (jA I q ?_);cases x<;>first
  |(cases rx;rfl)
  |(obtain⟨t,rfl⟩:=rx;rfl)
theorem Mr:OpR X (M7 .IsNot) (λx y H Q=>y= .non/\Q (.bl (!decide (x= .non))) H):=by
 intro pins s σ H x y v u Q I rx ry h;obtain⟨rfl,q⟩:=h;cases ry;refine isnot_none_gen (jA I q ?_);cases x<;>first
  |(cases rx;rfl)
  |(obtain⟨t,rfl⟩:=rx;rfl)
variable {r:R2}
theorem OpR.or {f:G1->G1->Sem G1}{r':R2}(h:OpR X f r)(h':OpR X f r'):OpR X f (λx y H Q=>r x y H Q\/r' x y H Q):=by
 intro pins s σ H x y v u Q I rx ry q;rcases q with q|q
 ·exact h pins s σ H x y v u Q I rx ry q
 ·exact h' pins s σ H x y v u Q I rx ry q
theorem Qu (b:S5){op:gB}(h:op≠ .In:=by decide)(h2:op≠ .NotIn:=by decide):Q3 op b=false:=by
 have e1:(op==CmpOp.In)=false:=by cases op<;>first|rfl|exact absurd rfl h
 have e2:(op==CmpOp.NotIn)=false:=by cases op<;>first|rfl|exact absurd rfl h2
 cases b<;>simp [Q3,e1,e2]
theorem Ms {op:gB}(ho:OpR X (M7 op) r)(ha:PE X a ta)(hb:PE X b tb)(hm:Q3 op b=false):PE X (.Compare a [op] [b] pos) (tOp r ta tb):=by
 intro pins s σ H Q I h;exact wpAny_Compare1 (LW ha hb I h λv u s2 x y H2 I2 rx ry q=>ho pins s2 σ H2 x y v u Q I2 rx ry q) hm
def Mt (t:TE):TT:=λσ H Q=>t σ H λx H'=> ∃k,x= .bl k/\Q k H'
theorem Mu {op:gB}(ho:OpR X (M7 op) r)(ha:PE X a ta)(hb:PE X b tb)(hm:Q3 op b=false):PT X (.Compare a [op] [b] pos) (Mt (tOp r ta tb)):=by
 intro pins s σ H Q I h;refine wpAny_isTrue_Compare1 (thn (ha pins s σ H _ I h) λv s1 ⟨x,H1,I1,r1,q1⟩=>thn (hb pins s1 σ H1 _ I1 q1) λu s2 ⟨y,H2,I2,r2,q2⟩=>
  thn (ho pins s2 σ H2 x y v u _ I2 r1 r2 q2) λc s3 ⟨z,H3,I3,r3,k,e,q3⟩=> ?_) hm
 subst e;cases r3;exact O9 ⟨H3,I3,q3⟩
def Qw (r r':R2)(ta tb tc:TE):TE:=λσ H Q=>ta σ H λx H1=>tb σ H1 λy H2=>r x y H2 λz H3=> ∃k,z= .bl k/\
 (if k=true then tc σ H3 λw' H4=>r' y w' H4 Q else Q (.bl false) H3)
theorem De {op op':gB}{r':R2}(ho:OpR X (M7 op) r)(ho':OpR X (M7 op') r')(ha:PE X a ta)(hb:PE X b tb)(hc:PE X c tc)
 (hm:gV [op,op'] [b,c]=false:=by with_unfolding_all rfl):PE X (.Compare a [op,op'] [b,c] pos) (Qw r r' ta tb tc):=by
 intro pins s σ H Q I h;refine Compare_chain (thn (ha pins s σ H _ I h) λv s1 ⟨x,H1,I1,r1,q1⟩=>chain_link (thn (hb pins s1 σ H1 _ I1 q1) λu s2 ⟨y,H2,I2,r2,q2⟩=>
  thn (ho pins s2 σ H2 x y v u _ I2 r1 r2 q2) λd s3 ⟨z,H3,I3,r3,k,e,q3⟩=> ?_)) hm
 subst e;cases r3;refine O9 ?_;cases k with
 |false=>exact ite_ff ⟨.bl false,H3,I3,rfl,q3⟩
 |true=>exact ite_tt (chain_last (thn (hc pins s3 σ H3 _ I3 q3) λw' s4 ⟨z',H4,I4,r4,q4⟩=>ho' pins s4 σ H4 y z' u w' Q I4 r2 r4 q4))
theorem Df {op op':gB}{r':R2}(ho:OpR X (M7 op) r)(ho':OpR X (M7 op') r')(ha:PE X a ta)(hb:PE X b tb)(hc:PE X c tc)
 (hm:gV [op,op'] [b,c]=false:=by with_unfolding_all rfl):PT X (.Compare a [op,op'] [b,c] pos) (Mt (Qw r r' ta tb tc)):=by
 intro pins s σ H Q I h;refine isTrue_chain (thn (ha pins s σ H _ I h) λv s1 ⟨x,H1,I1,r1,q1⟩=>test_link (thn (hb pins s1 σ H1 _ I1 q1) λu s2 ⟨y,H2,I2,r2,q2⟩=>
  thn (ho pins s2 σ H2 x y v u _ I2 r1 r2 q2) λd s3 ⟨z,H3,I3,r3,k,e,q3⟩=> ?_)) hm
 subst e;cases r3;refine O9 ?_;cases k with
 |false=>
  obtain⟨k',e',q'⟩:=q3;cases e';exact ite_ff ⟨H3,I3,q'⟩
 |true=>
  refine ite_tt (test_last (thn (hc pins s3 σ H3 _ I3 q3) λw' s4 ⟨z',H4,I4,r4,q4⟩=>thn (ho' pins s4 σ H4 y z' u w' _ I4 r2 r4 q4) λd' s5 ⟨z2,H5,I5,r5,k2,e2,q5⟩=> ?_));subst e2;cases r5;exact O9 ⟨H5,I5,q5⟩
theorem Yv:(sizeLine:G9)<2^63:=by rw [mT];decide
theorem vU {x:V}{us:G0 G1}(r:Vals [x] us): ∃u,us= [u]/\RelV x u:=by
 cases r with
 |cons r1 r2=>cases r2;exact⟨_,rfl,r1⟩
theorem Dg {x y:V}{us:G0 G1}(r:Vals [x,y] us): ∃u w',us= [u,w']/\RelV x u/\RelV y w':=by
 cases r with
 |cons r1 r2=>
  cases r2 with
  |cons r3 r4=>cases r4;exact⟨_,_,rfl,r1,r3⟩
theorem Qx (hc:X.calm=true):CallR X (.builtin "max") (λxs H Q=> ∃i j,xs= [.int i,.int j]/\Q (.int (if j>i then j else i)) H):=by
 intro pins s σ H xs us Q I r h;obtain⟨i,j,rfl,q⟩:=h;obtain⟨u,w',rfl,⟨t,rfl⟩,⟨t',rfl⟩⟩:=Dg r;refine max_two_ints (I.ok.hd hc) λh' tk k=>⟨_,H,I.kept k,?_,q⟩
 by_cases hj:j>i
 ·rw [S8 hj,S8 hj];exact⟨_,rfl⟩
 ·rw [S7 hj,S7 hj];exact⟨_,rfl⟩
theorem call_int1:CallR X (.type "int") (λxs H Q=>(∃i,xs= [.int i]/\Q (.int i) H)\/ ∃k,xs= [.bl k]/\Q (.int (if k then 1 else 0)) H):=by
 intro pins s σ H xs us Q I r h;rcases h with ⟨i,rfl,q⟩|⟨k,rfl,q⟩
 ·obtain⟨u,rfl,t,rfl⟩:=vU r;exact call_int_int ⟨.int i,H,I,⟨_,rfl⟩,q⟩
 ·obtain⟨u,rfl,r1⟩:=vU r;cases r1;exact call_int_bool ⟨.int (if k then 1 else 0),H,I.tok _,⟨_,rfl⟩,q⟩
end
structure ObjM (h:N2)(x dx C:G7)(mA:Str->P2 G1):Prop where
 obj:h.get? x=some (iJ C dx)
 ns:h.Ns1 dx mA
 ne:dx≠x
theorem Qy {dx:G7}{mA:Str->P2 G1}(n:h.Ns1 dx mA): ∃od,h.get? dx=some od/\ ∀name,iV name od=some (mA name):=by
 obtain⟨o,es,ep,ho,hd,hk,_,hm⟩:=n;refine⟨o,ho,λname=> ?_⟩;have e:=hm name;unfold nsFind findBy at e;rw [<-Array.find?_toList] at e;unfold iV;rw [hd];dsimp only;split
 ·rename_i y q;rw [q] at e;exact congrArg some e
 ·rename_i q;rw [q] at e;have a:es.toList.any (·.refKey)=false:=by
   rw [lC];intro y hy;obtain⟨z,t,hkey⟩:=hk y (Array.mem_toList_iff.mp hy);simp [DictEntry.refKey,hkey]
  have a': ¬es.toList.any (·.refKey)=true:=by rw [a];exact R0
  rw [S7 a'];exact congrArg some e
theorem ObjM.look {x dx C:G7}{mA:Str->P2 G1}(I:ObjM h x dx C mA): ∃od,sK h x (iJ C dx) C (some od)/\ ∀name,iV name od=some (mA name):=
 let ⟨od,ho,hl⟩:=Qy I.ns
 ⟨od,⟨I.obj,rfl,rfl,ho⟩,hl⟩
section
variable {P:R5}{w:N0}{H H':Hp}{h h':N2}{a C dx:G7}{fs fs':G0 (Str×V)}
theorem Mv (hok:HOk P w H h)(e:H a=some (.ins C dx fs)): ∃mA,ObjM h a dx C mA/\(∀f,LK (fs.lookup f) (mA f))/\pO mA (fs.map (·.1))/\fs.length<=1000/\H dx=some (.own a):=by
 obtain⟨d,z,ne,ob,mA,n,r,q⟩:=(show ObjOk P w H h a (.ins C dx fs) from hok a _ e);exact⟨mA,⟨ob,n,ne⟩,r,q,z,d⟩
end
structure Cls (K:G2)(C:G7):Prop where
 pg:mG K C pJ=true
 hd:rP K C=true
 po:rQ K C=true
 sa:nU K (.ref C) "__setattr__" =some (some (.builtin "object.__setattr__"))
theorem Cls.get {C:G7}(c:Cls K C)(f:Str):mG K C f=true:=c.pg
section
variable {X:Cx}{pins:G0 (G7×Obj)}{σ:St}{H:Hp}{s:G3}{A:T0}{E:G1->G3->Prop}{Q:G1->G3->Prop}{c:G1}{b:M6}
inductive TyOf (K:G2)(H:Hp):V->G1->Prop where
 |non:TyOf K H .non (.type "NoneType")
 |bl (x:M6):TyOf K H (.bl x) (.type "bool")
 |int (i:D1):TyOf K H (.int i) (.type "int")
 |str (x:Str):TyOf K H (.str x) (.type "str")
 |flt (x:UInt64):TyOf K H (.flt x) (.type "float")
 |lst {a:G7} {xs:G0 V} (e:H a=some (.lst xs)):TyOf K H (.ref a) (.type "list")
 |frz {a:G7} {o:Obj} {xs:G0 V} (e:H a=some (.frz o (.lst xs))):TyOf K H (.ref a) (.type "list")
 |tup {a:G7} {xs:G0 V} (e:H a=some (.tup xs)):TyOf K H (.ref a) (.type "tuple")
 |dK {a:G7} {kvs:G0 (Key×V)} (e:H a=some (.dK kvs)):TyOf K H (.ref a) (.type "dict")
 |dT {a:G7} {kvs:G0 (G0 Key×V)} (e:H a=some (.dT kvs)):TyOf K H (.ref a) (.type "dict")
 |ins {a C dx:G7} {fs:G0 (Str×V)} (e:H a=some (.ins C dx fs)) (cl:Cls K C) (ha:nU K (.ref C) "__class__" =some (some (.builtin "object.__class__")))
  (hn:rR K (.builtin "object.__class__") "__get__" =some (some (.builtin "getset_descriptor.__get__"))) (htk:sE K (.builtin "object.__class__")=some true)
  (hm:sZ K C (.type "object")=some true):TyOf K H (.ref a) (.ref C)
theorem Qz {x:V}{u t:G1}(I:Inv X pins σ H s)(rx:RelV x u)(ty:TyOf X.K H x t)(e:eQ X.K t c=some b)(h: ∀tk,Q (.bool b) {s with toks:=tk}):
 R1 (R6 X.prog X.w) A (call (.builtin "isinstance") [u,c]) Q E s:=by
 cases ty with
 |non=>cases (show u=hO from rx);exact E2 rS I.kIn bP e (λz=>nomatch z) h
 |bl y=>cases (show u=Y4 y from rx);exact E2 rT I.kIn bP e (λz=>nomatch z) h
 |int i=>obtain⟨t,q⟩:=(show ∃t,u=bZ i t from rx);cases q;exact E2 rZ I.kIn bP e (λz=>nomatch z) h
 |str y=>obtain⟨t,q⟩:=(show ∃t,u=gQ y t from rx);cases q;exact E2 r9 I.kIn bP e (λz=>nomatch z) h
 |flt y=>obtain⟨t,q⟩:=(show ∃t,u=qE y t from rx);cases q;exact E2 qZ I.kIn bP e (λz=>nomatch z) h
 | @lst a xs ea=>
  cases (show u=aH a from rx);obtain⟨_,_,n,_,h1⟩:=(show ObjOk X.prog X.w H s.heap a (.lst xs) from I.hok a _ ea);exact E2 lD I.kIn ⟨_,h1,rfl⟩ e (λz=>nomatch z) h
 | @frz a ob xs ea=>
  cases (show u=aH a from rx);obtain⟨_,_,_,n,_,h1⟩:=(show ObjOk X.prog X.w H s.heap a (.frz ob (.lst xs)) from I.hok a _ ea);exact E2 lD I.kIn ⟨_,h1,rfl⟩ e (λz=>nomatch z) h
 | @tup a xs ea=>
  cases (show u=aH a from rx);obtain⟨_,_,_,p⟩:=(show ObjOk X.prog X.w H s.heap a (.tup xs) from I.hok a _ ea);obtain⟨o,h1,h2,_⟩:=p;exact E2 q0 I.kIn ⟨o,h1,h2⟩ e (λz=>nomatch z) h
 | @dK a kvs ea=>
  cases (show u=aH a from rx);obtain⟨_,_,vs,_,p⟩:=(show ObjOk X.prog X.w H s.heap a (.dK kvs) from I.hok a _ ea);obtain⟨o,es,ep,h1,h2,_⟩:=p;exact E2 lE I.kIn ⟨o,h1,h2.1⟩ e (λz=>nomatch z) h
 | @dT a kvs ea=>
  cases (show u=aH a from rx);obtain⟨_,_,xs,_,o,es,ep,h1,h2,_⟩:=(show ObjOk X.prog X.w H s.heap a (.dT kvs) from I.hok a _ ea);exact E2 lE I.kIn ⟨o,h1,h2.1⟩ e (λz=>nomatch z) h
 | @ins a C dx fs ea cl ha hn htk hm=>
  cases (show u=aH a from rx);obtain⟨mA,O,_⟩:=Mv I.hok ea;obtain⟨od,J,_⟩:=O.look;exact E2 (sA (cl.get _) cl.hd ha hn htk hm) I.kIn J e (λz=>nomatch z) h
end
structure Room (k:G9)(A:T0):Prop where
 hd:A.handled=none
 dp:A.depth+3*k+5<recursionLimit
 un:A.units+16*k+200<cLine
 gd:A.guards=some []
variable {k:G9}
theorem Room.mono {j:G9}(r:Room k A)(h:j<=k):Room j A:=⟨r.hd,by have:=r.dp;omega,by have:=r.un;omega,r.gd⟩
theorem Room.deeper (r:Room (k+1) A)(env:Env):Room k (A.deeper env):=
 ⟨r.hd,by have:=r.dp;show A.depth+1+3*k+5<_;omega,by have:=r.un;show A.units+3+16*k+200<_;omega,r.gd⟩
theorem Room.depth (r:Room k A):A.depth<recursionLimit:=by have:=r.dp;omega
theorem Room.units (r:Room k A):A.units+64<cLine:=by have:=r.un;omega
def Od:TA:=λ_ H Q=>Q [] H
def Dh (ta:TE)(tr:TA):TA:=λσ H Q=>ta σ H λx H1=>tr σ H1 λxs H2=>Q (x::xs) H2
section
variable {X:Cx}{e:S5}{es:G0 S5}{te:TE}{t:TA}{pos:Pos}
theorem pa_nil:PA X [] Od:=λ_ _ _ _ H Q I h=>gC ⟨[],H,I,.nil,h⟩
theorem wn (ha:PE X e te)(hr:PA X es t)(hs:D2 (e::es) X.env=(false,O4 e X.env)::D2 es X.env:=by rfl):PA X (e::es) (Dh te t):=by
 intro pos pins s σ H Q I h;rw [hs];show R1 _ _ (spliced ((false,O4 e X.env)::E6 pos (D2 es X.env))) _ _ s;refine eT (thn (ha pins s σ H _ I h) λu s1 ⟨x,H1,I1,r1,q1⟩=> ?_);exact thn (hr pos pins s1 σ H1 _ I1 q1) λus s2 ⟨xs,H2,I2,r2,q2⟩=>⟨x::xs,H2,I2,.cons r1 r2,q2⟩
def AG (t:TA):TE:=λσ H Q=>t σ H λxs H1=>xs.length<=sizeLine/\ ∀p,H1 p=none->Q (.ref p) (upd H1 p (.tup xs))
def AH (t:TA):TE:=λσ H Q=>t σ H λxs H1=>xs.length<=sizeLine/\ ∀p,H1 p=none->Q (.ref p) (upd H1 p (.lst xs))
theorem Cj {x1}(h:PA X es t):PE X (.Tuple es x1 pos) (AG t):=by
 intro pins s σ H Q I hq;refine wpAny_Tuple_spliced (thn (h pos pins s σ H _ I hq) λus s1 ⟨xs,H1,I1,r,z,q⟩=>⟨by rw [<-r.length];exact z,?_⟩);have hf:H1 s1.heap.objs.size=none:=I1.hok.fresh (P3 _);refine⟨.ref s1.heap.objs.size,upd H1 s1.heap.objs.size (.tup xs),I1.laid (t':=s1.toks) (λb u e=>G5 _ e) (P3 _) ?_,rfl,q _ hf⟩;exact⟨z,us,r,IsTupN.new _ _⟩
theorem Ck (h:PA X es t):PE X (.List es pos) (AH t):=by
 intro pins s σ H Q I hq;refine wpAny_List_spliced (thn (h pos pins s σ H _ I hq) λus s1 ⟨xs,H1,I1,r,z,q⟩=>⟨by rw [<-r.length];exact z,?_⟩);have hf:H1 s1.heap.objs.size=none:=I1.hok.fresh (P3 _);refine⟨.ref s1.heap.objs.size,upd H1 s1.heap.objs.size (.lst xs),I1.laid (t':=s1.toks) (λb u e=>G5 _ e) (P3 _) ?_,rfl,q _ hf⟩;exact⟨z,us,0,r,S3 _ rfl⟩
end
abbrev Sp:=G0 V->Hp->VK->XK->Prop
abbrev CXT:=G0 Env->Hp->G3->XK->G1->G3->Prop
structure Env0 (P:R5)(w:N0)(K:G2)(mg:Str->P2 G1)(base:N2)(A:T0)(outer:G0 Env)(s:G3)(H:Hp):Prop where
 frames:A.frames=some outer
 mod:Mod K mg base
 bs: ∀b o,base.get? b=some o->s.heap.get? b=some o/\H b=none
 bsz:base.objs.size<=s.heap.objs.size
 funs:s.heap.FunFrames base outer
 frf: ∀b∈frs outer,H b=none
 hok:HOk P w H s.heap
 bare:dW s.gens
def CE (outer:G0 Env)(P:R5)(w:N0)(H:Hp)(s:G3)(Q:VK)(u:G1)(s':G3):Prop:=
 ∃v H',s'.os=s.os/\dW s'.gens/\Un (frs outer) [] H H' s.heap s'.heap/\HOk P w H' s'.heap/\RelV v u/\Q v H'
def CR (CX:CXT)(outer:G0 Env)(P:R5)(w:N0)(H:Hp)(s:G3)(Q:VK)(E:XK)(r:nV)(s':G3):Prop:=
 match r with
 | .ok (.ret u)=>CE outer P w H s Q u s'
 | .ok _=>False
 | .error e=>CX outer H s E e s'
structure FnOk (P:R5)(w:N0)(K:G2)(mg:Str->P2 G1)(base:N2)(CX:CXT)(k:G9)(f:G7)(fd:S0)(ps:G0 Str)(sp:Sp):Prop where
 len: ∀vs H Q E,sp vs H Q E->vs.length=ps.length
 run: ∀ (A:T0) (outer:G0 Env) (s:G3) (H:Hp) (args:Args) (us:G0 G1) (vs:G0 V) (Q:VK) (E:XK),Room k A->Env0 P w K mg base A outer s H->j0 s fd args (ps.zip us)->Vals vs us->sp vs H Q E->
  X9 (R6 P w) A (.call (.ref f) args) (CR CX outer P w H s Q E) s
section
variable {X:Cx}{pins:G0 (G7×Obj)}{σ:St}{H:Hp}{s s':G3}
theorem Inv.env0 (I:Inv X pins σ H s):Env0 X.prog X.w X.K X.mg X.base X.A X.stack s H:=
 ⟨I.ok.frames,I.ok.mod,I.bs,S1 I.ok.bsz I.sz,I.stack,I.stkFree,I.hok,I.bare⟩
theorem Inv.after {Q:VK}{u:G1}(I:Inv X pins σ H s)(h:CE X.stack X.prog X.w H s Q u s'):EP X pins σ Q u s':=by
 obtain⟨v,H',os,bare,un,hok,r,q⟩:=h;obtain⟨hh,g,d,t,os'⟩:=s';obtain rfl:os'=s.os:=os;exact⟨v,H',I.call (h':=hh) (g':=g) (d':=d) (t':=t) (ch:= []) un hok bare (λb z=>absurd z (by simp)),r,q⟩
end
def Mw (sp:Sp)(dvs:G0 V)(E:XK)(t:TA):TE:=λσ H Q=>t σ H λvs H1=>sp (vs++dvs) H1 Q E
def Binds (K:G2)(fd:S0)(ps:G0 Str)(ds:G0 G1):Prop:=
 ∀ (s:G3) (us:G0 G1),K.In s.heap->(us++ds).length=ps.length->j0 s fd ⟨us,[]⟩ (ps.zip (us++ds))
theorem Binds.all {fd:S0}{ps:G0 Str}(h: ∀us:G0 G1,us.length=ps.length->nW fd ⟨us,[]⟩=pure (ps.zip us)):Binds K fd ps []:=λs us _ hl=>by
 rw [E3] at hl ⊢;exact .of_eq (h us hl)
def Za (CX:CXT)(X:Cx)(E:XK):Prop:= ∀ (pins:G0 (G7×Obj)) (σ:St) (H:Hp) (s:G3) (e:G1) (s':G3),Inv X pins σ H s->CX X.stack H s E e s'->X.xe e s'
section
variable {X:Cx}{CX:CXT}{k:G9}{f C:G7}{fd:S0}{ps:G0 Str}{sp:Sp}{dvs:G0 V}{ds:G0 G1}{E:XK}{x m:Str}{p pos apos:Pos}{e o:S5}{es:G0 S5}{ta:TE}{t:TA}
theorem Cl {pins:G0 (G7×Obj)}{σ:St}{H:Hp}{s:G3}{Q:VK}{us:G0 G1}{vs:G0 V}(F:FnOk X.prog X.w X.K X.mg X.base CX k f fd ps sp)(hr:Room k X.A)(hb:Binds X.K fd ps ds)(hd:Vals dvs ds)(hx:Za CX X E)
 (I:Inv X pins σ H s)(r:Vals vs us)(h:sp (vs++dvs) H Q E):R1 (R6 X.prog X.w) X.A (call (.ref f) us) (EP X pins σ Q) X.xe s:=by
 have r2:Vals (vs++dvs) (us++ds):=r.append hd;have hl:(us++ds).length=ps.length:=by rw [<-r2.length];exact F.len _ _ _ _ h
 refine bQ (cH (F.run X.A X.stack s H ⟨us,[]⟩ (us++ds) (vs++dvs) Q E hr I.env0 (hb s us I.kIn hl) r2 h) λr s' hq=> ?_);cases r with
 |error e=>exact hx pins σ H s e s' I hq
 |ok fl=>
  cases fl with
  |ret u=>exact I.after hq
  |next=>exact False.elim hq
  |brk=>exact False.elim hq
  |cont=>exact False.elim hq
theorem QB (F:FnOk X.prog X.w X.K X.mg X.base CX k f fd ps sp)(hr:Room k X.A)(hg:Gl X x)(hm:X.mg x=some (.ref f))(hk:A6 X.K (.ref f)=true)(hb:Binds X.K fd ps ds)(hd:Vals dvs ds)(hx:Za CX X E)
 (ha:PA X (e::es) t)(hdb:(x==("__debug__" :Str))=false:=by decide)(he:D2 (e::es) X.env=(false,O4 e X.env)::D2 es X.env:=by rfl)(hpl:(E6 pos (D2 es X.env)).any (·.1)=false:=by rfl):
 PE X (.Call (.Name x p) (e::es) [] pos) (Mw sp dvs E t):=by
 intro pins s σ H Q I h;refine V2 (vS I hg hm ?_ hdb);refine eU (h₀:=X.base) I.ok.mod.kin hk (thn (ha pos pins s σ H _ I h) λus s1 ⟨vs,H1,I1,r,q⟩=>⟨I1.kIn,?_⟩) he hpl;exact Cl F hr hb hd hx I1 r q
end
structure FnScope (N P:G0 Str)(sc:O0):Prop where
 kind:sc.kind= .function
 co:sc.isCoroutine=false
 gen:sc.isGenerator=false
 nd:N.Nodup
 pre:N.take P.length=P
 par: ∀x∈P,sc.names.lookup x=some .local\/sc.names.lookup x=some .cell
 nofree: ∀y∈sc.names,y.2≠ .free
variable {kindOf:Str->P2 NameKind}{x:Str}
theorem Yw: ∀ {binds:G0 (Str×G1)} {m:Str->P2 G1},(∀v,(x,v) ∉ binds)->mU kindOf binds m x=m x
 | [],_,_=>rfl
 |(n,v)::r,m,h=>by
  unfold mU;rw [Yw λw hw=>h w (D8 _ hw)];split
  ·have:x≠n:=by rintro rfl;exact h v D5
   simp [this]
  ·rfl
theorem Yx: ∀ {binds:G0 (Str×G1)} {m:Str->P2 G1},(∀v,(x,v) ∉ binds)->mV kindOf binds m x=m x
 | [],_,_=>rfl
 |(n,v)::r,m,h=>by
  unfold mV;rw [Yx λw hw=>h w (D8 _ hw)];split
  ·rfl
  ·have:x≠n:=by rintro rfl;exact h v D5
   simp [this]
theorem Zb {v:G1}: ∀ {P:G0 Str} {vs:G0 G1} {i:G9} {m:Str->P2 G1},P.Nodup->P[i]? =some x->vs[i]? =some v->kindOf x=some .local->
 mU kindOf (P.zip vs) m x=some v
 | [],_,_,_,_,h,_,_=>by simp at h
 |_::_,[],_,_,_,_,h,_=>by simp at h
 |p::P,w::vs,0,m,nd,h1,h2,hk=>by
  simp at h1 h2;subst h1;subst h2;show mU kindOf ((p,w)::P.zip vs) m p=_;unfold mU;rw [Yw λv hv=>(bI.mp nd).1 (bJ hv).1,S8 hk];simp
 |p::P,w::vs,i+1,m,nd,h1,h2,hk=>by
  show mU kindOf ((p,w)::P.zip vs) m x=_;unfold mU;exact Zb (i:=i) (bI.mp nd).2 (by simpa using h1) (by simpa using h2) hk
theorem Zc {v:G1}: ∀ {P:G0 Str} {vs:G0 G1} {i:G9} {m:Str->P2 G1},P.Nodup->P[i]? =some x->vs[i]? =some v->kindOf x≠some .local->
 mV kindOf (P.zip vs) m x=some v
 | [],_,_,_,_,h,_,_=>by simp at h
 |_::_,[],_,_,_,_,h,_=>by simp at h
 |p::P,w::vs,0,m,nd,h1,h2,hk=>by
  simp at h1 h2;subst h1;subst h2;show mV kindOf ((p,w)::P.zip vs) m p=_;unfold mV;rw [Yx λv hv=>(bI.mp nd).1 (bJ hv).1,S7 hk];simp
 |p::P,w::vs,i+1,m,nd,h1,h2,hk=>by
  show mV kindOf ((p,w)::P.zip vs) m x=_;unfold mV;exact Zc (i:=i) (bI.mp nd).2 (by simpa using h1) (by simpa using h2) hk
def start (N:G0 Str)(vs:G0 V):St:=vs.map some++S4 (N.length-vs.length) none
def ZY (CX:CXT)(P:R5)(w:N0)(K:G2)(mg:Str->P2 G1)(base:N2)(N:G0 Str)(qual:Str)(scope:O0)(f:G7)(cd:G1)(A:T0)(outer:G0 Env)(s:G3)(H:Hp)(E:XK):Cx where
 prog:=P
 w:=w
 K:=K
 mg:=mg
 base:=base
 A:=A.deeper (A8 qual scope s.heap.objs.size f cd)
 N:=N
 s₀:=s
 H₀:=H
 env:=A8 qual scope s.heap.objs.size f cd
 outer:=outer
 stack:=A8 qual scope s.heap.objs.size f cd::outer
 ex:= []
 calm:=true
 fn:=λ_=>true
 pn:= []
 xe:=λe s'=>R1 (R6 P w) (A.deeper (A8 qual scope s.heap.objs.size f cd)) (lF (A8 qual scope s.heap.objs.size f cd) e) (λ_ s''=>CX outer H s E e s'') (λe' s''=>CX outer H s E e' s'') s'
theorem yA {sc:O0}{n:G9}(h:sc.names.lookup x=some .cell): ∃c,(E7 n sc.names []).lookup x=some c:=by
 have q:=Y7 sc.names n [] (.inl h);exact J6.mp q
theorem Yy {CX:CXT}{mg:Str->P2 G1}{base:N2}{N ps:G0 Str}{qual:Str}{scope:O0}{f:G7}{cd:G1}{outer:G0 Env}{s1:G3}{E:XK}{us:G0 G1}{vs:G0 V}
 (S:FnScope N ps scope)(hd:A.handled=none)(e0:Env0 P w K mg base A outer s H)(hl:vs.length=ps.length)(r:Vals vs us)
 (x:InCallC s s.heap.objs.size (mU (A8 qual scope s.heap.objs.size f cd).kindOf (ps.zip us) λ_=>none) (E7 (s.heap.objs.size+1) scope.names []) (mV (A8 qual scope s.heap.objs.size f cd).kindOf (ps.zip us) λ_=>none) s1):
 Inv (ZY CX P w K mg base N qual scope f cd A outer s H E) [] (start N vs) H s1:=by
 have hpl:ps.length<=N.length:=by have:=congrArg mW S.pre;rw [T1] at this;omega
 obtain⟨h1,tk,rfl,hk⟩:=x.done;have noA: ∀b:G7,b ∉ (ZY CX P w K mg base N qual scope f cd A outer s H E).ex:=λb z=>absurd (show b∈([]:G0 G7) from z) (by simp)
 refine⟨⟨e0.mod,S.kind,rfl,rfl,P3 _,λy z c h1 h2=> ?_,λy hy=> ?_,λy c _ h=> ?_,λ_=>hd,dE e0.frames,.inr ⟨rfl,rfl⟩,λb z=>absurd z (noA b),e0.bs,e0.bsz,λb _ _=>noA b,λb z=>absurd z (noA b),e0.funs,e0.frf⟩,
  rfl,e0.bare,Un.kept hk,⟨_,x.toInCall.ns,λi y v h1 h2 h3=> ?_⟩,λy c h=>⟨_,x.cell y c h⟩,e0.hok.fresh (P3 _),λy c h=> ?_,λp hp=>absurd (show p∈([]:G0 (G7×Obj)) from hp) (by simp),e0.hok.kept hk,?_⟩
 ·exact lG x.apart (O6 h1) (O6 h2)
 ·have hy:scope.names.lookup y=some .cell\/scope.names.lookup y=some .free:=hy;rcases hy with hy|hy
  ·exact yA hy
  ·exact absurd rfl (S.nofree _ (O6 hy))
 ·exact R8 (x.above y c (O6 h))
 ·have hi:i<vs.length:=by
   unfold start at h2
   by_cases hi:i<vs.length
   ·exact hi
   ·rw [M5 (by simpa using hi)] at h2;rw [cA] at h2;split at h2<;>cases h2
  have ha:vs[i]? =some v:=by
   unfold start at h2;rw [C4 (by simpa using hi),R9] at h2;cases e:vs[i]? with
   |none=>rw [e] at h2;cases h2
   |some a=>rw [e] at h2;cases h2;rfl
  obtain⟨u,hu,rv⟩:=r.get ha;have hp:ps[i]? =some y:=by
   rw [<-S.pre,Q4 (by omega)];exact h1
  have ndP:ps.Nodup:=by rw [<-S.pre];exact S.nd.sublist (U3 _ _)
  refine⟨u,rv,?_⟩;rcases S.par y (P5 hp) with k|k
  ·exact .inl ⟨k,Zb ndP hp hu k⟩
  ·obtain⟨c,e⟩:=yA (n:=s.heap.objs.size+1) k;refine .inr ⟨.inl k,c,e,?_⟩;have q:=x.cell y c e;rw [Zc ndP hp hu (by show scope.names.lookup y≠_;rw [k];decide)] at q;exact q
 ·exact e0.hok.fresh (R8 (x.above y c (O6 h)))
 ·unfold start;show _=N.length;rw [P4,G6,Z5];omega
theorem Mx {CX:CXT}{mg:Str->P2 G1}{base:N2}{f:G7}{name qual:Str}{params:j5}{body:G0 F9}{scope:O0}{dV kV doc pm cdv ct oc:G1}{an od:P2 G7}{osl:T9 (P2 G1)}{N ps:G0 Str}{sp:Sp}(lk:K.lookup f=some ⟨oc,od,.func (Q5 name qual params body scope dV kV doc pm an cdv ct),osl⟩)(hcd:cI K cdv qual=true)(S:FnScope N ps scope)
 (len: ∀vs H Q E,sp vs H Q E->vs.length=ps.length)
 (hbody: ∀ (A:T0) (outer:G0 Env) (s:G3) (H:Hp) (vs:G0 V) (Q:VK) (E:XK),Room k (A.deeper (A8 qual scope s.heap.objs.size f cdv))->sp vs H Q E->
  ∃t,PSs (ZY CX P w K mg base N qual scope f cdv A outer s H E) body t/\t {nx:=λ_ H'=>Q .non H',rt:=Q} (start N vs) H):
 FnOk P w K mg base CX (k+1) f (Q5 name qual params body scope dV kV doc pm an cdv ct) ps sp:=by
 refine⟨len,λA outer s H args us vs Q E hr e0 hb r hsp=> ?_⟩;have hl:=len _ _ _ _ hsp;have KX:K.In s.heap:=e0.mod.kin.keeps λb o e=>(e0.bs b o e).1
 have lim:s.heap.NoLimit:=e0.mod.nolimit.keeps λb o e=>(e0.bs b o e).1
 have hkind: ∀y∈ps.zip us,scope.names.lookup y.1=some .local\/(scope.names.lookup y.1=some .cell/\((E7 (s.heap.objs.size+1) scope.names []).lookup y.1).isSome=true):=λ⟨n,v⟩ hy=>by
  rcases S.par n (bJ hy).1 with q|q
  ·exact .inl q
  ·exact .inr ⟨q,Y7 _ _ _ (.inl q)⟩
 refine cU hr.depth (KX _ _ lk) rfl S.co S.gen rfl (e8 KX hcd) (hb _ _ _ _ ?_);refine aD S.kind hkind λenv he s1 x=> ?_
 subst he;refine⟨lim.keeps x.toInCall.keep,lH ?_⟩;obtain⟨t,ht,hq⟩:=hbody A outer s H vs Q E (hr.deeper _) hsp;have I:Inv (ZY CX P w K mg base N qual scope f cdv A outer s H E) [] (start N vs) H s1:=Yy S hr.hd e0 hl r x;refine S6 (ht [] s1 (start N vs) H _ I hq) (λfl s' hs=> ?_) λe s' hs=>hs
 have fin: ∀ {tE:St} {H':Hp} {v:V} {u:G1},Inv (ZY CX P w K mg base N qual scope f cdv A outer s H E) [] tE H' s'->RelV v u->Q v H'->CE outer P w H s Q u s':=
  λ{tE H' v u} J rv q=>⟨v,H',J.os,J.bare,J.base,J.hok,rv,q⟩
 cases fl with
 |ret u=>
  obtain⟨v,tE,H',J,rv,q⟩:=hs;exact fin J rv q
 |next=>
  obtain⟨tE,H',J,q⟩:=hs;exact fin (v:=V.non) (u:=hO) J rfl q
 |brk=>
  obtain⟨_,_,_,q⟩:=hs;exact False.elim q
 |cont=>
  obtain⟨_,_,_,q⟩:=hs;exact False.elim q
section
variable {X:Cx}{x:Str}{p pos:Pos}{e:S5}{es:G0 S5}{t:TA}{id T:J9}{r:G0 V->Hp->VK->Prop}
def tCB (r:G0 V->Hp->VK->Prop)(t:TA):TE:=λσ H Q=>t σ H λvs H1=>r vs H1 Q
theorem JP (hc:CallR X (.builtin id) r)(hg:Gl X x)(hm:X.mg x=none)(hv:E4 x=some (.builtin id))(ha:PA X (e::es) t)(hn:x≠ "__name__" :=by decide)(hdb:(x==("__debug__" :Str))=false:=by decide)
 (he:D2 (e::es) X.env=(false,O4 e X.env)::D2 es X.env:=by rfl)(hpl:(E6 pos (D2 es X.env)).any (·.1)=false:=by rfl):PE X (.Call (.Name x p) (e::es) [] pos) (tCB r t):=by
 intro pins s σ H Q I h;refine V2 (JY I hg hm hv ?_ hn hdb);exact mH (thn (ha pos pins s σ H _ I h) λus s1 ⟨vs,H1,I1,r1,q1⟩=>hc pins s1 σ H1 vs us Q I1 r1 q1) he hpl
theorem QC (hc:CallR X (.type T) r)(hg:Gl X x)(hm:X.mg x=none)(hv:E4 x=some (.type T))(ha:PA X (e::es) t)(hn:x≠ "__name__" :=by decide)(hdb:(x==("__debug__" :Str))=false:=by decide)
 (he:D2 (e::es) X.env=(false,O4 e X.env)::D2 es X.env:=by rfl)(hpl:(E6 pos (D2 es X.env)).any (·.1)=false:=by rfl):PE X (.Call (.Name x p) (e::es) [] pos) (tCB r t):=by
 intro pins s σ H Q I h;refine V2 (JY I hg hm hv ?_ hn hdb);exact J8 (thn (ha pos pins s σ H _ I h) λus s1 ⟨vs,H1,I1,r1,q1⟩=>hc pins s1 σ H1 vs us Q I1 r1 q1) he hpl
end
end L2
namespace HT
open PySem PyProof.Rows
def jI:G0 D1->G0 D1->M6
 | [],[]=>false
 | [],_::_=>true
 |_::_,[]=>false
 |x::xs,y::ys=>if x=y then jI xs ys else decide (x<y)
theorem Wj (x y:D1)(xs ys:G0 D1):jI (x::xs) (y::ys)=if x=y then jI xs ys else decide (x<y):=rfl
theorem WI:jI [] []=false:=rfl
theorem ZZ (y:D1)(ys:G0 D1):jI [] (y::ys)=true:=rfl
theorem Wa (x:D1)(xs:G0 D1):jI (x::xs) []=false:=rfl
theorem UF (A:T0)(s:G3)(a:D1)(t:Tok)(c:D1)(u:Tok): ∃e,SeqAt.EqAt A s (.int a t) (.int c u) e/\(e=true↔a=c):=
 ⟨(a==c),SeqAt.EqAt.int_int a t c u,by simp⟩
theorem Di (A:T0)(s:G3)(a:D1)(t:Tok)(c:D1)(u:Tok)(prog:R5)(w:N0)(E:G1->G3->Prop)(Q:G1->G3->Prop)(h:Q (.bool (decide (a<c))) s):
 R1 (R6 prog w) A (richCompare .Lt (.int a t) (.int c u)) Q E s:=
 (j7 h:R1 (R6 prog w) A (M7 .Lt (.int a t) (.int c u)) Q E s)
section
open PySem.SeqAt
open PySem.AutoSeq1 (wpAny_loadPart')
open PySem.MeetsSeq PySem.MeetsSeq2 PySem.MeetsSeq3
theorem vp (l b:G7)(items items2:T9 G1)(n n2:G9)(dd dd2:P2 G7)(sl sl2:T9 (P2 G1))(ns ms:G0 D1)(hi:W1 items.toList ns)(hj:W1 items2.toList ms):
 Meets (Builtin.«tuple.__lt__» ⟨[.ref l,.ref b],[]⟩)
  (λ_ R s=>s.heap.get? l=some {cls:= .type "tuple",dict:=dd,data:= .seq items n,slots:=sl}/\s.heap.get? b=some {cls:= .type "tuple",dict:=dd2,data:= .seq items2 n2,slots:=sl2}/\
   R (.ok (.ret (.bool (jI ns ms)))) s):=
 .of_wp λprog w A R s h=>by
  obtain⟨hp,g,d,tk,os⟩:=s;obtain⟨hl,hb,h⟩:=h;have f2:=oR;have z1:items.size=ns.length:=by rw [<-hi.length];simp
  have z2:items2.size=ms.length:=by rw [<-hj.length];simp
  wp_walk using wpAny_loadPart' hl,wpAny_loadPart' hb,wpAny_forIn_list _ (λrest b s'=>b.1=none/\s'=⟨hp,g,d,tk,os⟩/\ ∃ (vs ws:G0 G1) (ns' ms':G0 D1),rest=vs.zip ws/\
   W1 vs ns'/\W1 ws ms'/\ns'.length+items2.size=ms'.length+items.size/\R (.ok (.ret (.bool (jI ns' ms')))) ⟨hp,g,d,tk,os⟩) _
  case turn=>
   rintro ⟨y,x⟩ rest b s' ⟨hb',rfl,vs,ws,ns',ms',hz,hvi,hwi,hlen,hR⟩;cases hvi with
   |nil=>rw [gD] at hz;cases hz
   |cons a t hvi'=>
    cases hwi with
    |nil=>rw [kT] at hz;cases hz
    |cons c u hwi'=>
     rw [bR] at hz;injection hz with hyx hrest
     injection hyx with hy hx
     subst hy hx;rw [Wj] at hR;simp only [P8] at hlen;obtain⟨e,he,hiff⟩:=UF A.in1 ⟨hp,g,d,tk,os⟩ a t c u;refine wpAny_bind (he prog w _ _ ?_);cases e with
     |true=>
      rw [S8 (hiff.mp rfl)] at hR
      wp_walk
      exact⟨rfl,rfl,_,_,_,_,hrest,hvi',hwi',by omega,hR⟩
     |false=>
      rw [S7 (λq=>absurd (hiff.mpr q) R0)] at hR;have hri:=Di A.in1 ⟨hp,g,d,tk,os⟩ a t c u prog w
      wp_walk using hri
      exact⟨_,rfl,by simpa using hR⟩
  case fin=>
   rintro ⟨b1,b2⟩ s' ⟨hb',rfl,vs,ws,ns',ms',hz,hvi,hwi,hlen,hR⟩;simp only at hb';subst hb';have hv:jI ns' ms'=decide (items.size<items2.size):=by
    cases hvi with
    |nil=>
     cases hwi with
     |nil=>
      simp only [S2] at hlen;rw [WI];exact(D9 (by omega)).symm
     |cons c u hw=>
      simp only [S2,P8] at hlen;rw [ZZ];exact(R4 (by omega)).symm
    |cons a t hv=>
     cases hwi with
     |nil=>
      simp only [S2,P8] at hlen;rw [Wa];exact(D9 (by omega)).symm
     |cons c u hw=>
      rw [bR] at hz;cases hz
   rw [hv] at hR
   wp_walk
   exact⟨_,rfl,by simpa [mF] using hR⟩
  case h=>
   exact⟨rfl,rfl,items.toList,items2.toList,ns,ms,rfl,hi,hj,by omega,h⟩
end
section
variable {prog:R5}{w:N0}{A:T0}{E:G1->G3->Prop}{s:G3}
theorem Xu {l b:G7}{items items2:T9 G1}{ns ms:G0 D1}{Q:G1->G3->Prop}(hl:k5 s.heap l items)(hb:k5 s.heap b items2)(hi:W1 items.toList ns)(hj:W1 items2.toList ms)
 (hu:A.units<cLine)(h:Q (.bool (jI ns ms)) s):R1 (R6 prog w) A (M7 .Lt (.ref l) (.ref b)) Q E s:=by
 obtain⟨⟨cls,dd,data,sl⟩,ho,hc,n,hd⟩:=id hl;obtain⟨⟨cls2,dd2,sL,sl2⟩,ho2,hc2,n2,hd2⟩:=id hb;simp only at hc hd hc2 hd2;subst hc hd hc2 hd2;exact richCompare_meets_room (op:= .Lt) ⟨_,ho,rfl⟩ ⟨_,ho2,rfl⟩ cV hZ (gW _ _) (vp l b items items2 n n2 dd dd2 sl sl2 ns ms hi hj)
  ⟨ho,ho2,show Y4 (jI ns ms)≠Value.notImplemented/\Q (.bool (jI ns ms)) s from ⟨(λx=>nomatch x),h⟩⟩ hu
theorem Mz {t b:G7}{vs ws:G0 G1}{Q:G1->G3->Prop}(ht:k5 s.heap t vs.toArray)(hb:k5 s.heap b ws.toArray)(hv:vs≠ [])
 (h1:ws= []->Q (.ref t) s)(h2:ws≠ []->Q (.ref s.heap.objs.size) {s with heap:=s.heap.push {cls:= .type "tuple",data:= .seq (vs++ws).toArray}})
 (hsz:vs.length+ws.length<=sizeLine):R1 (R6 prog w) A (J5 .Add (.ref t) (.ref b)) Q E s:=by
 obtain⟨⟨cls,dd,data,sl⟩,ho,hc,n,hd⟩:=id ht;obtain⟨⟨cls2,dd2,sL,sl2⟩,ho2,hc2,n2,hd2⟩:=id hb;simp only at hc hd hc2 hd2;subst hc hd hc2 hd2;have e:vs.toArray++ws.toArray=(vs++ws).toArray:=by simp
 by_cases hw:ws= []
 ·exact lI ⟨_,ho,rfl⟩ ⟨_,ho2,rfl⟩ gY kI cJ cB (aU _ _)
   (tuple_addW1 t b vs.toArray ws.toArray n n2 dd dd2 sl sl2 (by simpa using hv) (by simp [hw])) ⟨ho,ho2,h1 hw⟩
 ·refine lI ⟨_,ho,rfl⟩ ⟨_,ho2,rfl⟩ gY kI cJ cB (aU _ _)
   (tuple_addW2 t b vs.toArray ws.toArray n n2 dd dd2 sl sl2 (by simpa using hv) (by simpa using hw) (by rw [D7,D7];exact hsz)) ⟨ho,ho2,?_⟩
  rw [e];exact h2 hw
def sIx (n d:G9):P2 D1->G9
 |none=>d
 |some v=>if v<0 then (v+(n:D1)).toNat else min v.toNat n
theorem Cm (n d:G9)(hd:d<=n)(o:P2 D1):sIx n d o<=n:=by
 cases o with
 |none=>exact hd
 |some v=>
  show (if v<0 then (v+(n:D1)).toNat else min v.toNat n)<=n
  by_cases hv:v<0
  ·rw [S8 hv];omega
  ·rw [S7 hv];exact aI _ _
theorem QD (v:D1)(n d:G9):(if v<0 then max (v+(n:D1)) 0 else min v (n:D1))=((sIx n d (some v):G9):D1):=by
 show (if v<0 then max (v+(n:D1)) 0 else min v (n:D1))=(((if v<0 then (v+(n:D1)).toNat else min v.toNat n):G9):D1)
 by_cases hv:v<0
 ·simp only [S8 hv];omega
 ·simp only [S7 hv];omega
theorem Xv (lo hi:P2 D1)(n:G9):K9 lo hi 1 (n:D1)=(((sIx n 0 lo:G9):D1),((sIx n n hi:G9):D1)):=by
 have h1: ¬ ((1:D1)<0):=by omega
 unfold K9;simp only [h1,gZ];refine Prod.ext ?_ ?_
 ·cases lo with
  |none=>rfl
  |some v=>exact QD v n 0
 ·cases hi with
  |none=>rfl
  |some v=>exact QD v n n
theorem Xw (i j:G9):F8 (i:D1) (j:D1) 1=j-i:=by
 unfold F8;have h1:(1:D1)>0:=by omega
 simp only [h1,cK,pR];split<;>omega
theorem Wk {v:G1}{o:P2 D1}{Q:P2 D1->G3->Prop}(p:iA v o)(h:Q o s):R1 (R6 prog w) A (m7 v) Q E s:=by
 cases p with
 |none=>exact e9 h
 |int i t=>exact oS h
theorem wO {sl:G7}{vl vu:G1}{lo hi:P2 D1}{n:G9}{Q:D1×D1×G9->G3->Prop}(hs:s.heap.IsSliceOf sl vl vu .none)(pl:iA vl lo)(pu:iA vu hi)
 (h:Q (((sIx n 0 lo:G9):D1),1,sIx n n hi-sIx n 0 lo) s):R1 (R6 prog w) A (V3 (.ref sl) (pure (n:D1))) Q E s:=by
 obtain⟨os,hos,hcs,hds⟩:=id hs;unfold V3 fV;refine wpAny_bind (wpAny_bind (cC hos hds (x:=vl) rfl (wpAny_bind (cC hos hds (x:=vu) rfl (wpAny_bind (cC hos hds (x:= .none) rfl (P1 ?_)))))));refine wpAny_bind (e9 ?_);show R1 _ _ (if ((1:D1)==0)=true then _ else _) _ _ s;rw [S7 (by decide)];refine wpAny_bind (Wk pl (wpAny_bind (Wk pu (wpAny_bind (P1 ?_)))));show R1 _ _ (match K9 lo hi 1 (n:D1) with|(lo,hi)=>pure (lo,(1:D1),F8 lo hi 1)) _ _ s;rw [Xv lo hi n];show R1 _ _ (pure (((sIx n 0 lo:G9):D1),(1:D1),F8 ((sIx n 0 lo:G9):D1) ((sIx n n hi:G9):D1) 1)) _ _ s;rw [Xw];exact P1 h
theorem Dj (xs:T9 G1)(i k:G9):((N4 k).filterMap λ(m:G9)=>xs[((i:D1)+(m:D1)*1).toNat]?).toArray=((xs.toList.drop i).take k).toArray:=by
 have e:(λ(m:G9)=>xs[((i:D1)+(m:D1)*1).toNat]?)=λm=>xs[i+m]? :=by
  funext m
  have:((i:D1)+(m:D1)*1).toNat=i+m:=by omega
  rw [this]
 rw [e];have:=pick_run xs i k;rw [kU] at this;have e2:((λx=>xs[x]?)∘λx=>i+x)=λm=>xs[i+m]? :=rfl
 rw [e2] at this;rw [this]
theorem vV {t sl:G7}{items:T9 G1}{vl vu:G1}{lo hi:P2 D1}{Q:G1->G3->Prop}(ht:k5 s.heap t items)(hs:s.heap.IsSliceOf sl vl vu .none)(pl:iA vl lo)(pu:iA vu hi)
 (hw: ¬ (sIx items.size 0 lo=0/\sIx items.size items.size hi=items.size))
 (h:Q (.ref s.heap.objs.size) {s with heap:=s.heap.push {cls:= .type "tuple",data:= .seq ((items.toList.drop (sIx items.size 0 lo)).take (sIx items.size items.size hi-sIx items.size 0 lo)).toArray}})
 (hsz:items.size<=sizeLine):R1 (R6 prog w) A (gE (.ref t) (.ref sl)) Q E s:=by
 have htake:sizeOk (.seq ((items.toList.drop (sIx items.size 0 lo)).take (sIx items.size items.size hi-sIx items.size 0 lo)).toArray):=by
  show ((items.toList.drop (sIx items.size 0 lo)).take (sIx items.size items.size hi-sIx items.size 0 lo)).toArray.size<=sizeLine;rw [D7,T1,N7,B0];omega
 have hj:sIx items.size items.size hi<=items.size:=Cm _ _ (P3 _) hi;obtain⟨os,hos,hcs,hds⟩:=id hs;have hTs:s.TypeIs (.ref sl) "slice" :=⟨os,hos,hcs⟩;unfold gE
 try with_reducible refine A1 ?_
 first|refine wpAny_bind (P1 ?_)|skip
 refine wpAny_bind (gF ht.typeIs (by decide) ?_);refine wpAny_bind (E1 (name:=B6 "__getitem__") ht.typeIs O3
  (E8 O3 ht.typeIs dP ?_ (fA _ _)))
 show R1 _ _ (aE (.ref t) >>= _) _ _ s;refine wpAny_bind (kJ ht ?_);refine wpAny_bind (iB hTs ?_);rw [S8 (by decide)];refine wpAny_bind (wO hs pl pu ?_);have hno: ¬ ((((sIx items.size 0 lo:G9):D1)==0&&(1:D1)==1&&(sIx items.size items.size hi-sIx items.size 0 lo)==items.size)=true):=by
  intro q;rw [B1,B1] at q;have q1:((sIx items.size 0 lo:G9):D1)=0:=eq_of_beq q.1.1;have q2:sIx items.size items.size hi-sIx items.size 0 lo=items.size:=eq_of_beq q.2;exact hw ⟨by omega,by omega⟩
 show R1 _ _ (if (((sIx items.size 0 lo:G9):D1)==0&&(1:D1)==1&&(sIx items.size items.size hi-sIx items.size 0 lo)==items.size)=true then _ else _) _ _ s;rw [S7 hno,Dj]
 first
  |exact wpAny_bind (m:=L9 _) (A9 (P1 ⟨_,rfl,P1 h⟩) htake)
  |exact wpAny_bind (m:=L9 _) (A9 (wpAny_bind (P1 (P1 ⟨_,rfl,P1 h⟩))) htake)
  |exact wpAny_bind (wpAny_bind (m:=L9 _) (A9 (P1 (P1 ⟨_,rfl,P1 h⟩)) htake))
  |exact wpAny_bind (wpAny_bind (m:=L9 _) (A9 (P1 ⟨_,rfl,P1 h⟩) htake))
end
end HT
namespace L2
open PySem PySem.Spec PyProof.Rows
abbrev TO:=St->Hp->(P2 D1->Hp->Prop)->Prop
def PO (X:Cx)(e:P2 S5)(t:TO):Prop:=
 ∀ (pins:G0 (G7×Obj)) (s:G3) (σ:St) (H:Hp) (Q:P2 D1->Hp->Prop),Inv X pins σ H s->t σ H Q->
  R1 (R6 X.prog X.w) X.A (evalPart e X.env) (λu s'=> ∃o H',Inv X pins σ H' s'/\iA u o/\Q o H') X.xe s
def MB:TO:=λ_ H Q=>Q none H
def Oe (t:TE):TO:=λσ H Q=>t σ H λx H1=> ∃i,x= .int i/\Q (some i) H1
section
variable {X:Cx}{e:S5}{te:TE}{lo hi:P2 S5}{tl th:TO}{pos p2:Pos}
theorem po_none:PO X none MB:=by
 intro pins s σ H Q I h;rw [kK];exact P1 ⟨none,H,I,.none,h⟩
theorem MC (h:PE X e te):PO X (some e) (Oe te):=by
 intro pins s σ H Q I hw;rw [oU];refine thn (h pins s σ H _ I hw) λu s1 ⟨x,H1,I1,r1,q1⟩=> ?_
 obtain⟨i,rfl,q⟩:=q1;obtain⟨t,rfl⟩:=r1;exact⟨some i,H1,I1,.int i t,q⟩
def SlR (X:Cx)(r:V->P2 D1->P2 D1->Hp->VK->Prop):Prop:=
 ∀ (pins:G0 (G7×Obj)) (s:G3) (σ:St) (H:Hp) (x:V) (v vl vu:G1) (lo hi:P2 D1) (sl:G7) (Q:VK),Inv X pins σ H s->RelV x v->s.heap.IsSliceOf sl vl vu .none->iA vl lo->iA vu hi->r x lo hi H Q->
  ∃T id,typeLookup (.type T) "__getitem__" =pure (some (.builtin id))/\s.TypeIs v T/\R1 (R6 X.prog X.w) X.A (gE v (.ref sl)) (EP X pins σ Q) X.xe s
theorem SlR.or {r r':V->P2 D1->P2 D1->Hp->VK->Prop}(h:SlR X r)(h':SlR X r'):SlR X (λx lo hi H Q=>r x lo hi H Q\/r' x lo hi H Q):=by
 intro pins s σ H x v vl vu lo hi sl Q I rx hs pl pu q;rcases q with q|q
 ·exact h pins s σ H x v vl vu lo hi sl Q I rx hs pl pu q
 ·exact h' pins s σ H x v vl vu lo hi sl Q I rx hs pl pu q
def tSl (r:V->P2 D1->P2 D1->Hp->VK->Prop)(te:TE)(tl th:TO):TE:=λσ H Q=>te σ H λx H1=>tl σ H1 λl H2=>th σ H2 λu H3=>r x l u H3 Q
theorem Dk {r:V->P2 D1->P2 D1->Hp->VK->Prop}(hr:SlR X r)(he:PE X e te)(hl:PO X lo tl)(hu:PO X hi th):PE X (.Subscript e (.Slice lo hi none p2) pos) (tSl r te tl th):=by
 intro pins s σ H Q I h;refine nY (thn (he pins s σ H _ I h) λv s1 ⟨x,H1,I1,r1,q1⟩=> ?_);refine qJ (thn (hl pins s1 σ H1 _ I1 q1) λvl s2 ⟨l,H2,I2,pl,q2⟩=>thn (hu pins s2 σ H2 _ I2 q2) λvu s3 ⟨u,H3,I3,pu,q3⟩=> ?_);rw [kK];refine P1 ?_;have I4:Inv X pins σ H3 {s3 with heap:=s3.heap.push {cls:= .type "slice",data:= .fields #[vl,vu,.none]}}:=I3.kept (t':=s3.toks) λb ob q=>G5 _ q
 obtain⟨T,id,hT,ht,hg⟩:=hr pins {s3 with heap:=s3.heap.push {cls:= .type "slice",data:= .fields #[vl,vu,.none]}} σ H3 x v vl vu l u s3.heap.objs.size Q I4 r1 (Heap.IsSliceOf.new ..) pl pu q3;show R1 (R6 X.prog X.w) X.A (kM e (.Slice lo hi none p2) v (.ref s3.heap.objs.size)) (EP X pins σ Q) X.xe {s3 with heap:=s3.heap.push {cls:= .type "slice",data:= .fields #[vl,vu,.none]}};exact qK (ops:= [.ref s3.heap.objs.size,v]) ht hT hg (by with_unfolding_all rfl)
def PV (xs:G0 V)(lo hi:P2 D1):G0 V:=(xs.drop (HT.sIx xs.length 0 lo)).take (HT.sIx xs.length xs.length hi-HT.sIx xs.length 0 lo)
theorem Zd (xs:G0 V)(lo hi:P2 D1):(PV xs lo hi).length<=xs.length:=by
 unfold PV;rw [T1,N7];omega
def Ej (K:G2):V->P2 D1->P2 D1->Hp->VK->Prop:=λx lo hi H Q=> ∃a xs,x= .ref a/\SqT K H a xs/\
 ¬ (HT.sIx xs.length 0 lo=0/\HT.sIx xs.length xs.length hi=xs.length)/\ ∀p,H p=none->Q (.ref p) (upd H p (.tup (PV xs lo hi)))
theorem sl_tup:SlR X (Ej X.K):=by
 intro pins s σ H x v vl vu lo hi sl Q I rx hs pl pu h;obtain⟨a,xs,rfl,hx,hw,q⟩:=h;cases rx;obtain⟨its,r,ht,hz⟩:=I.tuple hx;have hlen:its.toArray.size=xs.length:=by rw [D7];exact r.length.symm
 refine⟨"tuple",_,PyProof.Rows.slot_tuple_getitem.lookup,ht.typeIs,?_⟩;refine HT.vV ht hs pl pu (by rw [hlen];exact hw) ?_ (by rw [hlen];exact hz);rw [hlen];refine⟨.ref s.heap.objs.size,_,I.laid (t':=s.toks) (o:= .tup (PV xs lo hi)) (λb ob q=>G5 _ q) (P3 _) ?_,rfl,q _ (I.hok.fresh (P3 _))⟩;exact⟨S1 (Zd xs lo hi) hz,_,(r.drop (HT.sIx xs.length 0 lo)).take (HT.sIx xs.length xs.length hi-HT.sIx xs.length 0 lo),IsTupN.new _ _⟩
def Of (K:G2):R2:=λx y H Q=> ∃a b xs ys,x= .ref a/\y= .ref b/\SqT K H a xs/\SqT K H b ys/\xs≠ []/\xs.length+ys.length<=sizeLine/\
 (ys= []->Q (.ref a) H)/\(ys≠ []-> ∀p,H p=none->Q (.ref p) (upd H p (.tup (xs++ys))))
theorem Vals.nil_iff {xs:G0 V}{us:G0 G1}(r:Vals xs us):us= []↔xs= []:=by
 cases r with
 |nil=>simp
 |cons _ _=>simp
theorem op_catT:OpR X (J5 .Add) (Of X.K):=by
 intro pins s σ H x y v u Q I rx ry h;obtain⟨a,b,xs,ys,rfl,rfl,ha,hb,hx,hz,q1,q2⟩:=h;cases rx;cases ry;obtain⟨its,r1,p1,_⟩:=I.tuple ha;obtain⟨its2,r2,p2,_⟩:=I.tuple hb;refine HT.Mz p1 p2 (λz=>hx (r1.nil_iff.mp z)) (λz=>⟨.ref a,H,I,rfl,q1 (r2.nil_iff.mp z)⟩) (λz=> ?_) (by rw [<-r1.length,<-r2.length];exact hz);refine⟨.ref s.heap.objs.size,_,I.laid (t':=s.toks) (o:= .tup (xs++ys)) (λb ob q=>G5 _ q) (P3 _) ?_,rfl,q2 (λw=>z (r2.nil_iff.mpr w)) _ (I.hok.fresh (P3 _))⟩;exact⟨by rw [P4];exact hz,_,r1.append r2,IsTupN.new _ _⟩
end
def ixN (n:G9)(i:D1):P2 G9:=if 0<=i then (if i<n then some i.toNat else none) else if-(n:D1)<=i then some (i+n).toNat else none
def atI {α:Type}(xs:G0 α)(i:D1):P2 α:=(ixN xs.length i).bind λj=>xs[j]?
theorem QF {n:G9}{i:D1}{j:G9}(h:ixN n i=some j):seqIndex? i n=some j/\j<n/\ -(n:D1)<=i/\i<n:=by
 unfold ixN at h
 by_cases h0:0<=i
 ·rw [S8 h0] at h
  by_cases h1:i<n
  ·rw [S8 h1] at h;have e:i.toNat=j:=B8 h;exact⟨by rw [mX h0 h1,e],by omega,by omega,h1⟩
  ·rw [S7 h1] at h;cases h
 ·rw [S7 h0] at h
  by_cases h1: -(n:D1)<=i
  ·rw [S8 h1] at h;have e:(i+n).toNat=j:=B8 h;exact⟨by rw [lJ (by omega) h1,e],by omega,h1,by omega⟩
  ·rw [S7 h1] at h;cases h
theorem VN {α:Type}{xs:G0 α}{i:D1}{v:α}(h:atI xs i=some v): ∃j,seqIndex? i xs.length=some j/\xs[j]? =some v/\j<xs.length/\ -(xs.length:D1)<=i/\i<xs.length:=by
 unfold atI at h;cases e:ixN xs.length i with
 |none=>rw [e] at h;cases h
 |some j=>
  rw [e] at h;obtain⟨h1,h2,h3,h4⟩:=QF e;exact⟨j,h1,h,h2,h3,h4⟩
theorem yQ {α:Type}{xs:G0 α}{j:G9}{v:α}(h:xs[j]? =some v):atI xs (j:D1)=some v:=by
 have hj:j<xs.length:=(D0.mp h).1;have e:ixN xs.length (j:D1)=some j:=by
  unfold ixN;rw [S8 (by omega),S8 (by omega)];simp
 unfold atI;rw [e];exact h
def WJ (b:S5):Prop:= ∀o i,qL b false o i=operate [o,i] (gE o i)
def IxR (X:Cx)(r:R2):Prop:=
 ∀ (value slice:S5) (pins:G0 (G7×Obj)) (s:G3) (σ:St) (H:Hp) (x y:V) (v u:G1) (Q:VK),Inv X pins σ H s->RelV x v->RelV y u->r x y H Q->
  qL slice false v u=operate [v,u] (gE v u)->R1 (R6 X.prog X.w) X.A (kM value slice v u) (EP X pins σ Q) X.xe s
def MtR (X:Cx)(id:J9)(r:V->G0 V->Hp->VK->Prop):Prop:=
 ∀ (pins:G0 (G7×Obj)) (s:G3) (σ:St) (H:Hp) (x:V) (xs:G0 V) (v:G1) (us:G0 G1) (Q:VK),Inv X pins σ H s->RelV x v->Vals xs us->r x xs H Q->
  R1 (R6 X.prog X.w) X.A (call (.builtin id) (v::us)) (EP X pins σ Q) X.xe s
section
variable {X:Cx}{a b:S5}{ta tb:TE}{pos:Pos}
theorem IxR.or {r r':R2}(h:IxR X r)(h':IxR X r'):IxR X (λx y H Q=>r x y H Q\/r' x y H Q):=by
 intro value slice pins s σ H x y v u Q I rx ry q hs;rcases q with q|q
 ·exact h value slice pins s σ H x y v u Q I rx ry q hs
 ·exact h' value slice pins s σ H x y v u Q I rx ry q hs
theorem Og {r:R2}(hr:IxR X r)(ha:PE X a ta)(hb:PE X b tb)(hs:WJ b):PE X (.Subscript a b pos) (tOp r ta tb):=by
 intro pins s σ H Q I h;exact nY (LW ha hb I h λv u s2 x y H2 I2 rx ry q=>hr a b pins s2 σ H2 x y v u Q I2 rx ry q (hs _ _))
def AI (K:G2):R2:=λx y H Q=> ∃p xs i v,x= .ref p/\y= .int i/\SqL K H p xs/\atI xs i=some v/\Q v H
def AJ (K:G2):R2:=λx y H Q=> ∃p xs i v,x= .ref p/\y= .int i/\SqT K H p xs/\atI xs i=some v/\Q v H
def AK:R2:=λx y H Q=> ∃z i c,x= .str z/\y= .int i/\z.length<=sizeLine/\atI z.cps.toList i=some c/\Q (.str ⟨#[c]⟩) H
theorem ix_list:IxR X (AI X.K):=by
 intro value slice pins s σ H x y v u Q I rx ry h hs;obtain⟨p,xs,i,z,rfl,rfl,hq,he,q⟩:=h;cases rx;obtain⟨t,rfl⟩:=ry;obtain⟨its,r,pl,hz⟩:=I.list hq;obtain⟨j,h1,h2,h3,h4,h5⟩:=VN he;obtain⟨w,ew,rw'⟩:=r.get h2;have hl:=r.length;have hn:=Yv;have fin:EP X pins σ Q w s:=⟨z,H,I,rw',q⟩
 by_cases h0:0<=i
 ·have hj:i.toNat=j:=by
   rw [mX h0 h5] at h1;exact B8 h1
  exact item_listR pl.isList h0 (by omega) (by rw [hj];simpa using ew) fin hs
 ·have hj:(i+(its.toArray.size:D1)).toNat=j:=by
   rw [lJ (by omega) h4] at h1;rw [D7,<-hl];exact B8 h1
  exact iC (x:=w) pl.isList.typeIs slot_list_getitem.lookup
   (wpAny_getItem_list_neg (Q:=λr s'=>r=w/\EP X pins σ Q r s') pl.isList (by omega) (by rw [D7]<;>omega) (by omega) (by rw [hj];simpa using ew) ⟨rfl,fin⟩) hs
theorem ix_tup:IxR X (AJ X.K):=by
 intro value slice pins s σ H x y v u Q I rx ry h hs;obtain⟨p,xs,i,z,rfl,rfl,hq,he,q⟩:=h;cases rx;obtain⟨t,rfl⟩:=ry;obtain⟨its,r,pl,hz⟩:=I.tuple hq;obtain⟨j,h1,h2,h3,h4,h5⟩:=VN he;obtain⟨w,ew,rw'⟩:=r.get h2;have hl:=r.length;have hn:=Yv;have fin:EP X pins σ Q w s:=⟨z,H,I,rw',q⟩;exact iC (x:=w) pl.typeIs slot_tuple_getitem.lookup
  (getItem_tuple (j:=j) (Q:=λr s'=>r=w/\EP X pins σ Q r s') pl (by omega) (by omega) (by rw [D7,<-hl];exact h1) (by simpa using ew) ⟨rfl,fin⟩) hs
theorem Cn:IxR X AK:=by
 intro value slice pins s σ H x y v u Q I rx ry h hs;obtain⟨z,i,c,rfl,rfl,hz,he,q⟩:=h;obtain⟨t,rfl⟩:=rx;obtain⟨t',rfl⟩:=ry;obtain⟨j,h1,h2,h3,h4,h5⟩:=VN he;have hl:z.cps.toList.length=z.length:=by simp [Str.length]
 rw [hl] at h1 h4 h5;have hn:=Yv;exact qK (rA s z t) slot_str_getitem.lookup (getItem_str (c:=c) (by
  have e1:decide (i< -(2^63:D1))=false:=D9 (by omega);have e2:decide (i>=2^63)=false:=D9 (by omega);rw [e1,e2,oV]) (by rw [h1];simpa using h2) ⟨.str ⟨#[c]⟩,H,I.tok _,⟨_,rfl⟩,q⟩) hs
def rIx (K:G2):R2:=λx y H Q=>AI K x y H Q\/AJ K x y H Q\/AK x y H Q
theorem Co:IxR X (rIx X.K):=ix_list.or (ix_tup.or Cn)
theorem Xx (its:G0 G1)(n j:G9)(u:G1):X5 (·.setIfInBounds j u) {cls:= .type "list",data:= .seq its.toArray n}= {cls:= .type "list",data:= .seq (its.set j u).toArray n}:=by
 simp [X5]
theorem Inv.lst {pins:G0 (G7×Obj)}{σ:St}{H:Hp}{s:G3}{p:G7}{xs:G0 V}(I:Inv X pins σ H s)(h:H p=some (.lst xs)):
 ∃ (its:G0 G1) (n:G9),Vals xs its/\s.heap.get? p=some {cls:= .type "list",data:= .seq its.toArray n}/\xs.length<=sizeLine:=by
 obtain⟨z,its,n,r,e⟩:=I.hok p _ h;exact⟨its,n,r,e,z⟩
theorem Inv.lstUpd {pins:G0 (G7×Obj)}{σ:St}{H:Hp}{s:G3}{p:G7}{xs ys:G0 V}{its its':G0 G1}{n n':G9}{f:Obj->Obj}(I:Inv X pins σ H s)(h:H p=some (.lst xs))
 (ho:s.heap.get? p=some {cls:= .type "list",data:= .seq its.toArray n})(hf:f {cls:= .type "list",data:= .seq its.toArray n}= {cls:= .type "list",data:= .seq its'.toArray n'})(r:Vals ys its')(hz:ys.length<=sizeLine)(t:G9):
 Inv X pins σ (upd H p (.lst ys)) {s with heap:=s.heap.update p f,toks:=t}:=by
 have e:(s.heap.update p f).get? p=some {cls:= .type "list",data:= .seq its'.toArray n'}:=by
  rw [Z6 f ho (by rw [hf]<;>rfl),hf]
 refine I.write (x:=p) (e:=p) (by rw [h];trivial) (.inl rfl) (λb u hb q=>(iD _ _ (E5 hb)).trans q) ⟨_,e⟩ ?_;exact⟨hz,its',n',r,e⟩
def Oh:V->V->V->Hp->(Hp->Prop)->Prop:=λo i v H Q=> ∃p xs k j,o= .ref p/\i= .int k/\H p=some (.lst xs)/\ixN xs.length k=some j/\Q (upd H p (.lst (xs.set j v)))
theorem Dl:Az X Oh:=by
 intro pins s σ H o i v ov iv u Q I ro ri rv h;obtain⟨p,xs,k,j,rfl,rfl,hp,hj,q⟩:=h;cases ro;obtain⟨t,rfl⟩:=ri;obtain⟨its,n,r,ho,hz⟩:=I.lst hp;obtain⟨h1,h2,h3,h4⟩:=QF hj;have hl:=r.length;have hn:=Yv;have I':Inv X pins σ (upd H p (.lst (xs.set j v))) {s with heap:=s.heap.update p (X5 (·.setIfInBounds j u))}:=
  I.lstUpd hp ho (Xx its n j u) (r.set rv j) (by rw [iK];exact hz) s.toks
 by_cases h0:0<=k
 ·have hk:k.toNat=j:=by
   rw [mX h0 h4] at h1;exact B8 h1
  exact sB ho h0 (by omega) (by rw [D7,<-hl];exact h4) (by rw [hk];exact⟨_,I',q⟩)
 ·have hk:(k+(its.toArray.size:D1)).toNat=j:=by
   rw [lJ (by omega) h3] at h1;rw [D7,<-hl];exact B8 h1
  exact rB ho (by omega) (by rw [D7,<-hl];exact h3) (by omega) (by rw [hk];exact⟨_,I',q⟩)
theorem Yz (lo hi:P2 D1)(n:G9):(cE lo hi none n).1=((HT.sIx n 0 lo:G9):D1)/\(cE lo hi none n).2.1=((HT.sIx n n hi:G9):D1)/\(cE lo hi none n).2.2=1:=by
 refine⟨?_,?_,rfl⟩
 ·cases lo with
  |none=>simp [cE,HT.sIx]
  |some i=>
   simp only [cE,HT.sIx,mI,show (1:D1)>0 by decide,cK]
   by_cases h:i<0
   ·simp only [h,cK]<;>omega
   ·simp only [h,gZ]<;>omega
 ·cases hi with
  |none=>simp [cE,HT.sIx]
  |some i=>
   simp only [cE,HT.sIx,mI,show (1:D1)>0 by decide,cK]
   by_cases h:i<0
   ·simp only [h,cK]<;>omega
   ·simp only [h,gZ]<;>omega
theorem WK (its:G0 G1)(lo hi:P2 D1):slicePick its.toArray lo hi none=((its.drop (HT.sIx its.length 0 lo)).take (HT.sIx its.length its.length hi-HT.sIx its.length 0 lo)).toArray:=by
 obtain⟨h1,h2,h3⟩:=Yz lo hi its.toArray.size;unfold slicePick;rw [h1,h2,h3];simp only [sliceRange_one,pick_run,D7]<;>rfl
def Ek (K:G2):V->P2 D1->P2 D1->Hp->VK->Prop:=λx lo hi H Q=> ∃a xs,x= .ref a/\SqL K H a xs/\ ∀p,H p=none->Q (.ref p) (upd H p (.lst (PV xs lo hi)))
theorem MD:SlR X (Ek X.K):=by
 intro pins s σ H x v vl vu lo hi sl Q I rx hs pl pu h;obtain⟨a,xs,rfl,hx,q⟩:=h;cases rx;obtain⟨its,r,ht,hz⟩:=I.list hx;have hlen:=r.length;refine⟨"list",_,slot_list_getitem.lookup,ht.isList.typeIs,?_⟩;refine wpAny_getItem_list_slice ht.isList hs pl pu .none (by simp) ?_ (by rw [D7]<;>omega);rw [WK,<-hlen];refine⟨.ref s.heap.objs.size,_,I.laid (t':=s.toks) (o:= .lst (PV xs lo hi)) (λb ob q=>G5 _ q) (P3 _) ?_,rfl,q _ (I.hok.fresh (P3 _))⟩;exact⟨S1 (Zd xs lo hi) hz,_,0,(r.drop (HT.sIx xs.length 0 lo)).take (HT.sIx xs.length xs.length hi-HT.sIx xs.length 0 lo),S3 _ rfl⟩
theorem call_len_seq:CallR X (.builtin "len") (λxs H Q=> ∃p ys,xs= [.ref p]/\(SqL X.K H p ys\/SqT X.K H p ys)/\Q (.int ys.length) H):=by
 intro pins s σ H xs us Q I r h;obtain⟨p,ys,rfl,hq,q⟩:=h;obtain⟨u,rfl,rx⟩:=vU r;cases rx;have hn:=Yv;rcases hq with hq|hq
 ·obtain⟨its,r',pl,hz⟩:=I.list hq;have hlen:=r'.length;exact Calls.call_len_list pl.isList (by simp only [D7]<;>omega) ⟨.int ys.length,H,I.tok _,⟨s.toks+1,by rw [D7,hlen]⟩,q⟩
 ·obtain⟨its,r',pl,hz⟩:=I.tuple hq;have hlen:=r'.length;exact len_tuple pl (by simp only [D7]<;>omega) ⟨.int ys.length,H,I.tok _,⟨s.toks+1,by rw [D7,hlen]⟩,q⟩
theorem call_list_of:CallR X (.type "list") (λxs H Q=> ∃p ys,xs= [.ref p]/\(SqL X.K H p ys\/SqT X.K H p ys)/\ ∀l,H l=none->Q (.ref l) (upd H l (.lst ys))):=by
 intro pins s σ H xs us Q I r h;obtain⟨p,ys,rfl,hq,q⟩:=h;obtain⟨u,rfl,rx⟩:=vU r;cases rx;have fin: ∀ (its:G0 G1),Vals ys its->ys.length<=sizeLine-> ∀ (h':N2) (c':G9),(∀b o',s.heap.get? b=some o'->h'.get? b=some o')->
  h'.get? s.heap.objs.size=some {cls:= .type "list",dict:=none,data:= .seq its.toArray c',slots:= #[]}->EP X pins σ Q (.ref s.heap.objs.size) {s with heap:=h'}:=λits r' hz h' c' kp e=>
  ⟨.ref s.heap.objs.size,_,I.laid (t':=s.toks) kp (P3 _) (show ObjOk X.prog X.w _ h' _ (.lst ys) from ⟨hz,its,c',r',e⟩),rfl,q _ (I.hok.fresh (P3 _))⟩
 rcases hq with hq|hq
 ·obtain⟨its,r',pl,hz⟩:=I.list hq;have hlen:=r'.length;obtain⟨o,ho,hc,n,hd⟩:=pl.isList;exact oW p (.inl rfl) ho hc hd (λh' c' kp e=>fin its r' hz h' c' kp e) (by simp only [D7]<;>omega)
 ·obtain⟨its,r',pl,hz⟩:=I.tuple hq;have hlen:=r'.length;obtain⟨o,ho,hc,n,hd⟩:=pl;exact oW p (.inr rfl) ho hc hd (λh' c' kp e=>fin its r' hz h' c' kp e) (by simp only [D7]<;>omega)
theorem call_tuple_of:CallR X (.type "tuple") (λxs H Q=> ∃p ys,xs= [.ref p]/\((SqL X.K H p ys/\ ∀l,H l=none->Q (.ref l) (upd H l (.tup ys)))\/(SqT X.K H p ys/\Q (.ref p) H))):=by
 intro pins s σ H xs us Q I r h;obtain⟨p,ys,rfl,h⟩:=h;obtain⟨u,rfl,rx⟩:=vU r;cases rx;rcases h with ⟨hq,q⟩|⟨hq,q⟩
 ·obtain⟨its,r',pl,hz⟩:=I.list hq;have hlen:=r'.length;refine call_tuple_list pl.isList (λh' kp=> ?_) (by simp only [D7]<;>omega);have I1:Inv X pins σ H {s with heap:=h'}:=I.kept (t':=s.toks) kp;have I2:Inv X pins σ (upd H h'.objs.size (.tup ys)) {s with heap:=h'.push {cls:= .type "tuple",data:= .seq its.toArray}}:=
   I1.laid (t':=s.toks) (λb o e=>G5 _ e) (P3 _) (show ObjOk X.prog X.w _ _ _ (.tup ys) from ⟨hz,its,r',IsTupN.new _ _⟩)
  exact⟨.ref h'.objs.size,_,I2,rfl,q _ (I1.hok.fresh (P3 _))⟩
 ·obtain⟨its,r',pl,hz⟩:=I.tuple hq;exact call_tuple_same pl ⟨.ref p,H,I,rfl,q⟩
def tyV (K:G2)(T:J9)(x:V)(H:Hp):Prop:=match x with
 | .str _=>T= "str"
 | .int _=>T= "int"
 | .ref p=>(T= "list" /\ ∃xs,SqL K H p xs)\/(T= "tuple" /\ ∃o,K.lookup p=some o/\o.cls= .type "tuple" /\o.dict=none)\/
  (T= "dict" /\((∃kvs,H p=some (.dK kvs))\/ ∃kvs,H p=some (.dT kvs)))\/(T= "set" /\ ∃S n,H p=some (.set S n))
 |_=>False
theorem Cp {pins:G0 (G7×Obj)}{σ:St}{H:Hp}{s:G3}{T:J9}{x:V}{v:G1}(I:Inv X pins σ H s)(r:RelV x v)(ty:tyV X.K T x H):
 s.TypeIs v T/\ ∀a,v= .ref a-> ∃ob,s.heap.get? a=some ob/\ob.dict=none:=by
 cases x with
 |str z=>
  obtain⟨t,rfl⟩:=r;cases (show T= "str" from ty);exact⟨rA s z t,λ_ e=>nomatch e⟩
 |int i=>
  obtain⟨t,rfl⟩:=r;cases (show T= "int" from ty);exact⟨iF s i t,λ_ e=>nomatch e⟩
 |ref p=>
  cases r;rcases ty with ⟨rfl,xs,hq⟩|⟨rfl,o,hk,hc,hd⟩|⟨rfl,hk⟩|⟨rfl,S,n,hk⟩
  ·obtain⟨its,_,pl,_⟩:=I.list hq;refine⟨pl.isList.typeIs,λa e=> ?_⟩;cases e;obtain⟨o,n,e,c,hd,_⟩:=pl;exact⟨o,e,hd⟩
  ·refine⟨⟨o,I.kIn p o hk,hc⟩,λa e=> ?_⟩;cases e;exact⟨o,I.kIn _ o hk,hd⟩
  ·have z: ∃o,s.heap.get? p=some o/\o.ExactDict:=by
    rcases hk with ⟨kvs,hk⟩|⟨kvs,hk⟩
    ·obtain⟨_,_,_,_,o,_,_,e,ex,_⟩:=I.hok p _ hk;exact⟨o,e,ex⟩
    ·obtain⟨_,_,_,_,o,_,_,e,ex,_⟩:=I.hok p _ hk;exact⟨o,e,ex⟩
   obtain⟨o,e,ex⟩:=z;refine⟨⟨o,e,ex.1⟩,λa e2=> ?_⟩;cases e2;exact⟨o,e,ex.2.1⟩
  ·obtain⟨o,_,_,_,e,ex,_⟩:=I.hok p _ hk;refine⟨⟨o,e,ex.1⟩,λa e2=> ?_⟩;cases e2;exact⟨o,e,ex.2.1⟩
 |_=>exact False.elim ty
def tBM (K:G2)(T:J9)(r:V->G0 V->Hp->VK->Prop)(to:TE)(t:TA):TE:=λσ H Q=>to σ H λx H1=>tyV K T x H1/\t σ H1 λxs H2=>r x xs H2 Q
variable {o e:S5}{es:G0 S5}{to:TE}{t:TA}{name:Str}{apos cpos:Pos}{T id:J9}{r:V->G0 V->Hp->VK->Prop}
theorem ME (pa:PlainAttrs T)(slot:Slot T name id)(hty:rC (.builtin id)=pure (.type "method_descriptor"))(hm:MtR X id r)(ho:PE X o to)(ha:PA X (e::es) t)
 (hbase:aV o name X.env (O4 o X.env)=O4 o X.env:=by rfl)
 (hfew:((E6 cpos (D2 (e::es) X.env)).all (λx=> !x.1)&&(iW cpos (dF [] X.env)).all (λx=>x.1.isSome)
  &&decide ((e::es).length+([]:G0 cL).length+(if ([]:G0 cL).isEmpty then 0 else 1)<30))=true:=by rfl)
 (hline:(apos.endLine==cpos.line)=true:=by rfl)(hs:D2 (e::es) X.env=(false,O4 e X.env)::D2 es X.env:=by rfl)(hplain:(E6 cpos (D2 es X.env)).any (·.1)=false:=by rfl):
 PE X (.Call (.Attribute o name apos) (e::es) [] cpos) (tBM X.K T r to t):=by
 intro pins s σ H Q I h;refine wpAny_Call_method_late hbase hfew hline rfl (thn (ho pins s σ H _ I h) λv s1 ⟨x,H1,I1,r1,ty,q1⟩=> ?_);obtain⟨h1,h2⟩:=Cp I1 r1 ty;refine⟨T,id,pa,slot,hty,h1,h2,?_⟩;have hA:=ha cpos pins s1 σ H1 _ I1 q1;rw [hs] at hA ⊢;refine Calls.callWith_builtin (by show (false||(E6 cpos (D2 es X.env)).any (·.1))=false;rw [hplain]<;>rfl) (iY ?_);exact thn hA λus s2 ⟨vs,H2,I2,r2,q2⟩=>hm pins s2 σ H2 x vs v us Q I2 r1 r2 q2
end
def MtM (X:Cx)(id:J9)(r:V->G0 V->Hp->VK->Prop):Prop:=
 ∀ (pins:G0 (G7×Obj)) (s:G3) (σ:St) (H:Hp) (x:V) (xs:G0 V) (v:G1) (us:G0 G1) (Q:VK),Inv X pins σ H s->RelV x v->Vals xs us->r x xs H Q->
  R1 (R6 X.prog X.w) X.A (call (.builtin id) (v::us)) (EP X pins σ Q) X.xe s
theorem Vals.one: ∀ {x:V} {us:G0 G1},Vals [x] us-> ∃u,us= [u]/\RelV x u
 |_,_,.cons r .nil=>⟨_,rfl,r⟩
theorem Vals.rep {xs:G0 V}{us:G0 G1}(h:Vals xs us): ∀k:G9,Vals (S4 k xs).flatten (S4 k us).flatten
 |0=> .nil
 |k+1=>by
  rw [K4,K4,W7,W7];exact Vals.append h (Vals.rep h k)
theorem Ze (its:G0 G1): ∀ (k:G9) (acc:G0 G1),
 n5 (λx1 x2=>x1++x2) acc.toArray (S4 k its.toArray)=(acc++(S4 k its).flatten).toArray
 |0,acc=>by simp
 |k+1,acc=>by
  have e:acc.toArray++its.toArray=(acc++its).toArray:=by simp
  have e2:(acc++its)++(S4 k its).flatten=acc++(S4 (k+1) its).flatten:=by
   rw [K4,W7,P7]
  rw [<-e2,<-Ze its k (acc++its),<-e,K4,m8]
section
variable {X:Cx}{pins:G0 (G7×Obj)}{σ:St}{H:Hp}{s:G3}{l b:G7}{xs ys zs:G0 V}
theorem Inv.lset {its its':G0 G1}{n:G9}{f:T9 G1->T9 G1}{t':G9}(I:Inv X pins σ H s)(hH:H l=some (.lst xs))
 (e:s.heap.get? l=some {cls:= .type "list",data:= .seq its.toArray n})(hf:f its.toArray=its'.toArray)(hv:Vals ys its')(hz:ys.length<=sizeLine):
 Inv X pins σ (upd H l (.lst ys)) {s with heap:=s.heap.update l (X5 f),toks:=t'}:=by
 have q:=PySem.IsL.update e f;rw [hf] at q;refine I.write (x:=l) (e:=l) (by rw [hH];exact trivial) (.inl rfl) (λb' u hb hu=>(iD s.heap (X5 f) (E5 hb)).trans hu) ⟨_,q⟩ ?_;exact⟨hz,its',_,hv,q⟩
theorem Inv.lnew {its:G0 G1}{t':G9}(I:Inv X pins σ H s)(hv:Vals ys its)(hz:ys.length<=sizeLine):
 Inv X pins σ (upd H s.heap.objs.size (.lst ys)) {s with heap:=s.heap.push {cls:= .type "list",data:= .seq its.toArray},toks:=t'}:=
 I.laid (λ_ _ q=>G5 _ q) (P3 _) ⟨hz,its,0,hv,S3 _ rfl⟩
theorem Inv.fresh (I:Inv X pins σ H s):H s.heap.objs.size=none:=I.hok.fresh (P3 _)
theorem Inv.lstM (I:Inv X pins σ H s)(hH:H l=some (.lst xs)):xs.length<=sizeLine/\ ∃ (its:G0 G1) (n:G9),Vals xs its/\xs.length=its.length/\s.heap.get? l=some {cls:= .type "list",data:= .seq its.toArray n}:=by
 obtain⟨z,its,n,r,e⟩:=I.hok l _ hH;exact⟨z,its,n,r,r.length,e⟩
theorem Dm {n:G9}(h:n<=sizeLine):aW n=false:=by
 unfold aW;exact D9 (by omega)
end
section
variable {X:Cx}
def MF:V->G0 V->Hp->VK->Prop:=λx vs H Q=> ∃l xs y,x= .ref l/\vs= [y]/\H l=some (.lst xs)/\xs.length<sizeLine/\Q .non (upd H l (.lst (xs++ [y])))
theorem QH:MtM X "list.append" MF:=by
 intro pins s σ H x vs v us Q I rx rv h;obtain⟨l,xs,y,rfl,rfl,hH,hz,q⟩:=h;cases rx;obtain⟨u,rfl,ru⟩:=rv.one;obtain⟨z,its,n,r,hl,e⟩:=I.lstM hH;refine fB F.slot_list_append ⟨_,e,rfl⟩ F.entry_list_append (F.args_list_append_2 _ _) (PySem.list_append l its.toArray n u (by rw [D7];omega)) ⟨e,?_⟩;refine⟨.non,_,I.lset (its':=its++ [u]) hH e (by simp) (r.append (.cons ru .nil)) ?_,rfl,q⟩;rw [P4,W3];omega
def El:R2:=λx y H Q=> ∃l b xs zs,x= .ref l/\y= .ref b/\H l=some (.lst xs)/\H b=some (.lst zs)/\xs.length+zs.length<=sizeLine/\ ∀p,H p=none->Q (.ref p) (upd H p (.lst (xs++zs)))
theorem Cq:OpR X (J5 .Add) El:=by
 intro pins s σ H x y v u Q I rx ry h;obtain⟨l,b,xs,zs,rfl,rfl,hH,hB,hz,q⟩:=h;cases rx;cases ry;obtain⟨z,its,n,r,hl,e⟩:=I.lstM hH;obtain⟨z2,its2,n2,r2,hl2,e2⟩:=I.lstM hB;refine PySem.P.add_list e e2 ?_ (by rw [D7,D7];omega);have ea:its.toArray++its2.toArray=(its++its2).toArray:=by simp
 rw [ea];exact⟨.ref _,_,I.lnew (t':=s.toks) (r.append r2) (by rw [P4];omega),rfl,q _ I.fresh⟩
def Em:R2:=λx y H Q=> ∃l k xs,x= .ref l/\y= .int k/\H l=some (.lst xs)/\ -(2^63)<=k/\k<2^63/\xs.length*k.toNat<=sizeLine/\
 ∀p,H p=none->Q (.ref p) (upd H p (.lst (S4 k.toNat xs).flatten))
theorem VO {α:Type}(xs:G0 α)(k:G9):(S4 k xs).flatten.length=k*xs.length:=by
 induction k with
 |zero=>simp
 |succ k ih=>rw [K4,W7,P4,ih,Nat.succ_mul,Nat.add_comm]
theorem Cr:OpR X (J5 .Mult) Em:=by
 intro pins s σ H x y v u Q I rx ry h;obtain⟨l,k,xs,rfl,rfl,hH,h1,h2,hz,q⟩:=h;cases rx;obtain⟨t,rfl⟩:=ry;obtain⟨z,its,n,r,hl,e⟩:=I.lstM hH;have hlen:its.toArray.size*k.toNat<=sizeLine:=by rw [D7,<-hl];exact hz
 have hcap: ¬its.toArray.size*k.toNat>(2^63-1) / 8:=by
  have:(sizeLine:G9)<=(2^63-1) / 8:=by decide
  omega
 have hfit: ¬ (!n8 k)=true:=by
  rw [fitsIndex_both h1 h2];exact R0
 have hlong: ¬aW (its.toArray.size*k.toNat)=true:=by
  rw [Dm hlen];exact R0
 have hnew:n5 (λx1 x2=>x1++x2) #[] (S4 (if its.toArray.isEmpty=true then 0 else k.toNat) its.toArray)=(S4 k.toNat its).flatten.toArray:=by
  have f0: ∀m:G9,n5 (λx1 x2=>x1++x2) #[] (S4 m its.toArray)=(S4 m its).flatten.toArray:=λm=>by
   have:=Ze its m [];rw [B3] at this;exact this
  rw [f0];cases its with
  |nil=>simp
  |cons a r'=>rw [S7 (by simp)]
 refine fW (T:= "list") (U:= "int") (by decide) ⟨_,e,rfl⟩ (λs'=>iF s' k t) noFill_list_mul m9 dM repeat_list F.slot_int_index.lookup
  (fB dM (iF s k t) mJ (lK _ _) (int___rmul___int_list k t l its.toArray n)
   ⟨e,rfl,⟨_,e,rfl⟩,fB F.slot_list_mul ⟨_,e,rfl⟩ F.entry_list_mul (F.args_list_mul_2 _ _) (AutoListH.list___mul___list_int_3 l its.toArray n k t hfit hcap hlong) ⟨e,?_⟩⟩)
 rw [hnew];exact⟨.ref _,_,I.lnew (t':=s.toks) (r.rep k.toNat) (by rw [VO,lL];exact hz),rfl,q _ I.fresh⟩
end
end L2
namespace Att
open PySem PySem.W PySem.Calls PyProof.Rows
theorem Zf {P:sM}{h:N2}: ∀ (ns:G0 D1) (vs:G0 G1),WellAll P h vs (ns.map WData.int)->W1 vs ns:=by
 intro ns
 induction ns with
 |nil=>
  intro vs w;rw [Q6] at w;cases w;exact .nil
 |cons n ns ih=>
  intro vs w;rw [N5] at w;cases w with
  |cons a b=>
   cases a;exact .cons _ _ (ih _ b)
theorem QJ {l:OpenLaw}{n:G9}(hn:l.most=some n){P:sM}{h:N2}{args:G0 WData}{vals:G0 G1}
 (hpre:l.row.toRowW.claim.pre args=true)(hwl:WellAll P h vals args):
 ∃a vs ns,vals= [aH a]/\args= [WData.list (ns.map WData.int)]/\h.get? a=some {cls:= .type "list",data:= .seq vs.toArray}/\W1 vs ns/\ns.length<=n:=by
 have hsh:WShape.hasAll [] args [.list .int]=true:=(pre_splitW hpre).1;have hc:l.pre.holds [] {args:=args}=true:=(pre_splitW hpre).2;obtain⟨d,r,rfl,h1,h2⟩:=hasAllW_cons hsh;obtain rfl:=hasAllW_nil h2;obtain⟨xs,rfl,h3⟩:=hasW_list h1;obtain⟨ns,rfl⟩:=items_int h3;have hlen:ns.length<=n:=by
  unfold OpenLaw.pre at hc;have h4:(WTm.not (.lt (.lit (.int (n:D1))) (.len (.arg 0)))).holds [] {args:= [.list (ns.map .int)]}=true:=by
   have h4:=(holds_andW hc).1;rw [hn] at h4;exact h4
  have h5:=condW_of h4 (w_not (w_lt w_lit (w_len_list (w_arg rfl))));rw [G6] at h5;refine g4 λq=> ?_
  have q':(n:D1)<((ns.length:G9):D1):=by omega
  first
   |(rw [R4 q'] at h5;exact absurd h5 (by decide))
   |(simp at h5;omega)
 cases hwl with
 |cons w1 w2=>
  cases w2;cases w1 with
  |list ho hall=>exact⟨_,_,ns,rfl,rfl,ho,Zf ns _ hall,hlen⟩
theorem QK (l:OpenLaw)(args:G0 WData):l.row.toRowW.claim.post args (.bool true) args=true:=
 postW_of (r:=l.row.toRowW) (X:=(true==true))
  (show WShape.has [] (.bool true) .bool=true by first|rfl|decide|simp [WShape.has,WShape.arms,WShape.armsAll])
  (show (WTm.eq .res (.lit (.bool true))).value [] {args:=args,res:=some (.bool true),after:=args}=some (.bool (true==true)) from w_eq_bool (w_res rfl) w_lit) rfl
theorem attach_call {l:OpenLaw}{n:G9}{q:R5}{loose:G0 Str}{XP:(Str->P2 G1)->N2->Prop}{YP:N0->N2->Prop}{d:DefRec}
 (hn:l.most=some n)(hdf:d.params.defaults= [])
 (call: ∀ (w:N0) (s₀ tG:G3) (mg mb:Str->P2 G1) (fa:G7) (o:Obj) (pm cd doc:G1) (a:G7) (vs:G0 G1) (ns:G0 D1),
  Ground q loose [] XP w s₀ mg mb tG.heap->YP w tG.heap->
  tG.heap.get? fa=some o->o.data= .func (docDef d.name d.params d.body d.scope pm cd doc)->tG.heap.CodeRec cd d.name->mg d.name=some (.ref fa)->
  tG.heap.get? a=some {cls:= .type "list",data:= .seq vs.toArray}->W1 vs ns->ns.length<=n->tG.gens= #[]->
  X9 (R6 l.prog w) j6 (.call (.ref fa) ⟨[.ref a],[]⟩) (λr s'=>r= .ok (.ret (.bool true))/\OldK tG.heap s'.heap/\s'.os=tG.os/\dW s'.gens) tG):
 WalkO q loose XP YP l.row.toRowW d [] (λf vs=>rD f vs):=by
 intro w s₀ tG mg mb G Y fa o pm cd doc dV kV ho hd hcd hD hmg hg args vals as hpre hlay hrd hwl hlo;obtain rfl:dV= .none:=Dflts.none hD hdf;obtain rfl:kV= .none:=Dflts.noKw hD;obtain⟨a,vs,ns,rfl,rfl,hobj,hints,hlen⟩:=QJ hn hpre hwl;refine enter_call (cH (call w s₀ tG mg mb fa o pm cd doc a vs ns G Y ho (fd_plain hd) hcd hmg hobj hints hlen hg) λr s' hq=> ?_);obtain⟨rfl,h2,h3,h4⟩:=hq;exact⟨.inl ⟨.bool true,.bool true,[],rfl,λ_=>rfl,.bool true,QK l _,λ_=>⟨List.Pairwise.nil,λ_ hm=>(nomatch hm)⟩⟩,h2,h3,h4⟩
end Att
namespace L2
open PySem PySem.Spec PyProof.Rows
theorem YA: ∀ {vs:G0 G1} {ns:G0 D1},W1 vs ns->Vals (ns.map V.int) vs
 |_,_,.nil=> .nil
 |_,_,.cons n t h=> .cons ⟨t,rfl⟩ (YA h)
def Only (H:Hp):Prop:= ∀b,H b=none\/ ∃o xs,H b=some (.frz o (.lst xs))
def wY (s:F9):j5:=match s with
 | .FunctionDef _ a _ _ _ _ _ _ _ _=>a
 |_=> {posonlyargs:= [],args:= [],vararg:=none,kwonlyargs:= [],kw_defaults:= [],kwarg:=none,defaults:= []}
def jJ (s:F9):G0 F9:=match s with
 | .FunctionDef _ _ b _ _ _ _ _ _ _=>b
 |_=> []
def jd (s:F9):O0:=match s with
 | .FunctionDef _ _ _ _ _ _ sc _ _ _=>sc
 |_=> {kind:= .function,names:= [],isGenerator:=false,isCoroutine:=false}
abbrev CX0:CXT:=λ_ _ _ _ _ _=>False
abbrev E0:XK:=λ_ _ _=>False
variable {X:Cx}
theorem MG:Za CX0 X E0:=λ_ _ _ _ _ _ _ h=>h.elim
structure Fun (K:G2)(x qual:Str)(st:F9)(f:G7)(fd:S0):Prop where
 ex: ∃ (oc:G1) (od:P2 G7) (kV doc pm:G1) (an:P2 G7) (cdv ct:G1) (osl:T9 (P2 G1)),
  fd=Q5 x qual (wY st) (jJ st) (jd st) .none kV doc pm an cdv ct/\K.lookup f=some ⟨oc,od,.func fd,osl⟩/\cI K cdv qual=true
 kp:A6 K (.ref f)=true
section
variable {P:R5}{w:N0}{K:G2}{mg:Str->P2 G1}{base:N2}
variable {qual:Str}
theorem Fun.ok {x:Str}{st:F9}{f:G7}{fd:S0}{N ps:G0 Str}{k:G9}{sp:Sp}(F:Fun K x qual st f fd)(S:FnScope N ps (jd st))(len: ∀vs H Q E,sp vs H Q E->vs.length=ps.length)
 (hbody: ∀ (cdv:G1) (A:T0) (outer:G0 Env) (s:G3) (H:Hp) (vs:G0 V) (Q:VK) (E:XK),Room k (A.deeper (A8 qual (jd st) s.heap.objs.size f cdv))->sp vs H Q E->
  ∃t,PSs (ZY CX0 P w K mg base N qual (jd st) f cdv A outer s H E).nox (jJ st) t/\t {nx:=λ_ H'=>Q .non H',rt:=Q} (start N vs) H):FnOk P w K mg base CX0 (k+1) f fd ps sp:=by
 obtain⟨oc,od,kV,doc,pm,an,cdv,ct,osl,rfl,lk,hcd⟩:=F.ex;refine Mx lk hcd S len λA outer s H vs Q E hr hsp=> ?_
 obtain⟨t,h,q⟩:=hbody cdv A outer s H vs Q E hr hsp;exact⟨t,h.nox,q⟩
theorem Fun.binds {x:Str}{st:F9}{f:G7}{fd:S0}{ps:G0 Str}(F:Fun K x qual st f fd)
 (h: ∀ (kV doc pm:G1) (an:P2 G7) (cdv ct:G1) (us:G0 G1),us.length=ps.length->nW (Q5 x qual (wY st) (jJ st) (jd st) .none kV doc pm an cdv ct) ⟨us,[]⟩=pure (ps.zip us)):Binds K fd ps []:=by
 obtain⟨oc,od,kV,doc,pm,an,cdv,ct,osl,rfl,lk,hcd⟩:=F.ex;exact .all (h kV doc pm an cdv ct)
theorem Cs {x:Str}{st:F9}{f:G7}{oc:G1}{od an:P2 G7}{osl:T9 (P2 G1)}{kV doc pm cdv ct:G1}(l:K.lookup f=some ⟨oc,od,.func (Q5 x qual (wY st) (jJ st) (jd st) .none kV doc pm an cdv ct),osl⟩)
 (c:cI K cdv qual=true)(k:A6 K (.ref f)=true):Fun K x qual st f (Q5 x qual (wY st) (jJ st) (jd st) .none kV doc pm an cdv ct):=⟨⟨oc,od,kV,doc,pm,an,cdv,ct,osl,rfl,l,c⟩,k⟩
end
theorem jz {n:G9}(h:n<=1000):n<sizeLine:=J7 h (by decide)
theorem jG {A B:Prop}(h:B):if false=true then A else B:=by
 rw [S7 R0];exact h
theorem zk {A B:Prop}(h:A):if true=true then A else B:=by
 rw [S8 rfl];exact h
theorem QL {c A B:Prop}[Decidable c](h1:c->A)(h2: ¬c->B):if c then A else B:=by
 by_cases h:c
 ·rw [S8 h];exact h1 h
 ·rw [S7 h];exact h2 h
section
variable {κ:Type}[DecidableEq κ]
def RM (kvs:G0 (κ×V))(k:κ)(v:V):G0 (κ×V):=
 if (kvs.any λkv=>decide (kv.1=k))=true then kvs.map (λkv=>if kv.1=k then (kv.1,v) else kv) else kvs++ [(k,v)]
theorem VP (kvs:G0 (κ×V))(k:κ)(v:V):(RM kvs k v).length<=kvs.length+1:=by
 unfold RM;split
 ·rw [G6];omega
 ·rw [P4,P8,S2];omega
theorem KV.any {kvs:G0 (κ×V)}{vs:G0 (κ×G1)}(r:KV kvs vs)(k:κ):(kvs.any λkv=>decide (kv.1=k))=vs.any λkv=>decide (kv.1=k):=by
 unfold KV at r
 induction r with
 |nil=>rfl
 |cons h t ih=>rw [c9,c9,ih,h.1]
theorem KV.repl {kvs:G0 (κ×V)}{vs:G0 (κ×G1)}(r:KV kvs vs)(k:κ){y:V}{u:G1}(ry:RelV y u):
 KV (kvs.map λkv=>if kv.1=k then (kv.1,y) else kv) (vs.map λkv=>if kv.1=k then (kv.1,u) else kv):=by
 unfold KV at r ⊢
 induction r with
 |nil=>exact .nil
 | @cons p q ps qs h t ih=>
  rw [N5,N5];refine .cons ?_ ih;obtain⟨h1,h2⟩:=h
  by_cases e:p.1=k
  ·rw [S8 e,S8 (h1.symm.trans e)];exact⟨h1,ry⟩
  ·rw [S7 e,S7 (λz=>e (h1.trans z))];exact⟨h1,h2⟩
theorem KV.put {kvs:G0 (κ×V)}{vs:G0 (κ×G1)}(r:KV kvs vs)(k:κ){y:V}{u:G1}(ry:RelV y u):KV (RM kvs k y) (sN vs k u):=by
 unfold RM sN;rw [r.any k]
 by_cases e:(vs.any λkv=>decide (kv.1=k))=true
 ·rw [S8 e,S8 e];exact r.repl k ry
 ·rw [S7 e,S7 e];exact Paired.snoc r ⟨rfl,ry⟩
end
variable {P:R5}{w:N0}
theorem Oi {k:Key}{u:G1}(r:RelV (kV k) u):(wm P w).is k u=true:=by
 cases k with
 |inl i=>obtain⟨t,e⟩:=(show ∃t,u=bZ i t from r);subst e;exact VL P w i t
 |inr x=>obtain⟨t,e⟩:=(show ∃t,u=gQ x t from r);subst e;exact VM P w x t
section
variable {P:R5}{w:N0}{H:Hp}{h:N2}{a:G7}
theorem Oj {u:HO}(ok:HOk P w H h)(e:Rd H a u):ObjOk P w H h a u:=e.ok ok
theorem Ol {kvs:G0 (Key×V)}(ok:HOk P w H h)(e:Rd H a (.dK kvs)):kvs.length<=sizeLine/\(a==sysModules)=false/\ ∃vs,KV kvs vs/\h.DictOf (wm P w) a vs:=
 show ObjOk P w H h a (.dK kvs) from Oj ok e
theorem Om {kvs:G0 (Key×V)}(ok:HOk P w H h)(e:H a=some (.dK kvs)):kvs.length<=sizeLine/\(a==sysModules)=false/\ ∃vs,KV kvs vs/\h.DictOf (wm P w) a vs:=Ol ok (.inl e)
end
section
variable {X:Cx}{pins:G0 (G7×Obj)}{σ:St}{H:Hp}{s:G3}{a:G7}{y v:V}{u r:G1}{o:P2 V}{A:T0}{E:G1->G3->Prop}
theorem Inv.big (I:Inv X pins σ H s):sysModules<s.heap.objs.size:=by
 have h:mainGlobals<s.heap.objs.size:=(I.mod.glob.keeps I.bk).lt;exact cM (by decide) h
theorem MJ {h':N2}{t':G9}{ob:HO}(I:Inv X pins σ H s)(mu:Mut (H a))(hs:Y5 a s.heap h')(he: ∃q,h'.get? a=some q)(new:ObjOk X.prog X.w (upd H a ob) h' a ob):
 Inv X pins σ (upd H a ob) {s with heap:=h',toks:=t'}:=
 I.write (x:=a) (e:=a) mu (.inl rfl) (λb q hb z=>(hs.2 b hb).trans z) he new
theorem Ct {P:R5}{w:N0}{H':Hp}{h':N2}{kvs:G0 (Key×V)}{vs:G0 (Key×G1)}(z:kvs.length<=sizeLine)(hd:(a==sysModules)=false)(rel:KV kvs vs)(dd:h'.DictOf (wm P w) a vs):
 ObjOk P w H' h' a (.dK kvs):=⟨z,hd,vs,rel,dd⟩
end
theorem Do {H:Hp}(h:N2)(hb:sysModules<h.objs.size):ObjOk P w H (h.push {cls:= .type "dict",data:= .dict #[]}) h.objs.size (.dK []):=
 ⟨M0 _,beq_eq_false_iff_ne.mpr (E5 (T5 hb)),[],.nil,Heap.DictOf.new h⟩
def QM:G0 (TE×TE)->St->Hp->(G0 (V×V)->Hp->Prop)->Prop
 | [],_,H,Q=>Q [] H
 |(tk,tv)::r,σ,H,Q=>tk σ H λx H1=>tv σ H1 λy H2=>QM r σ H2 λps H3=>Q ((x,y)::ps) H3
abbrev VV:G0 (V×V)->G0 (G1×G1)->Prop:=Paired λp q=>RelV p.1 q.1/\RelV p.2 q.2
def PPs (X:Cx)(pos:Pos)(keys:G0 (P2 S5))(values:G0 S5)(trs:G0 (TE×TE)):Prop:=
 ∀ (pins:G0 (G7×Obj)) (s:G3) (σ:St) (H:Hp) (Q:G0 (V×V)->Hp->Prop),Inv X pins σ H s->QM trs σ H Q->
  R1 (R6 X.prog X.w) X.A (evalPairs (pairTrees keys values X.env pos)) (λvs s'=> ∃ps H',Inv X pins σ H' s'/\VV ps vs/\Q ps H') X.xe s
variable {pos:Pos}
theorem MK:PPs X pos [] [] []:=λpins s σ H Q I h=>pairTrees_nil_walk ⟨[],H,I,.nil,h⟩
theorem Dp {k v:S5}{ks:G0 (P2 S5)}{vs:G0 S5}{tk tv:TE}{trs:G0 (TE×TE)}(hk:PE X k tk)(hv:PE X v tv)(hr:PPs X pos ks vs trs):
 PPs X pos (some k::ks) (v::vs) ((tk,tv)::trs):=λpins s σ H Q I h=>
 pairTrees_cons_walk (thn (hk pins s σ H _ I h) λu s1 ⟨x,H1,I1,rx,q1⟩=>thn (hv pins s1 σ H1 _ I1 q1) λw2 s2 ⟨y,H2,I2,ry,q2⟩=>
  thn (hr pins s2 σ H2 _ I2 q2) λws s3 ⟨ps,H3,I3,rel,q3⟩=>⟨(x,y)::ps,H3,I3,.cons ⟨rx,ry⟩ rel,q3⟩)
def YB (kvs more:G0 (Key×V)):G0 (Key×V):=more.foldl (λacc kv=>RM acc kv.1 kv.2) kvs
theorem KV.merge: ∀ {more:G0 (Key×V)} {rs:G0 (Key×G1)} {kvs:G0 (Key×V)} {vs:G0 (Key×G1)},KV more rs->KV kvs vs->KV (YB kvs more) (merged vs rs):=by
 intro more rs kvs vs r;unfold KV at r
 induction r generalizing kvs vs with
 |nil=>intro q;exact q
 | @cons p q ps qs h t ih=>
  intro r0;have e:KV (RM kvs p.1 p.2) (sN vs q.1 q.2):=by
   have:=r0.put p.1 h.2;rw [<-h.1];exact this
  exact ih e
theorem vq: ∀ (more kvs:G0 (Key×V)),(YB kvs more).length<=kvs.length+more.length
 | [],kvs=>by show kvs.length<=kvs.length+0;omega
 |p::r,kvs=>by
  have h1:=vq r (RM kvs p.1 p.2);have h2:=VP kvs p.1 p.2;show (YB (RM kvs p.1 p.2) r).length<=_;rw [P8];omega
theorem Wl {P:R5}{w:N0}: ∀ {kvs:G0 (Key×V)} {ws:G0 (G1×G1)},VV (kvs.map λkv=>(kV kv.1,kv.2)) ws-> ∃rs,Carries (wm P w) ws rs/\KV kvs rs
 | [],_,r=>by rw [Q6] at r;cases r;exact⟨[],bP,.nil⟩
 |p::kvs,_,r=>by
  rw [N5] at r;cases r with
  | @cons a b as bs h t=>
   obtain⟨rs,c,q⟩:=Wl (P:=P) (w:=w) t;obtain⟨b1,b2⟩:=b;exact⟨(p.1,b2)::rs,⟨Oi h.1,rfl,c⟩,.cons ⟨rfl,h.2⟩ q⟩
def On (trs:G0 (TE×TE)):TE:=λσ H Q=> ∀p,H p=none->QM trs σ (upd H p (.dK [])) λps H2=>H2 p=some (.dK [])/\ ∃kvs:G0 (Key×V),ps=kvs.map (λkv=>(kV kv.1,kv.2))/\kvs.length<=15/\Q (.ref p) (upd H2 p (.dK (YB [] kvs)))
theorem ML {keys:G0 (P2 S5)}{values:G0 S5}{trs:G0 (TE×TE)}(h:PPs X pos keys values trs)(hall:keys.all (·.isSome)=true)(hl:keys.length=values.length)(h0:keys≠ [])
 (h15:keys.length<=15):PE X (.Dict keys values pos) (On trs):=by
 intro pins s σ H Q I q;have hn:=I.hok.fresh (P3 s.heap.objs.size);have I1:=I.laid (a:=s.heap.objs.size) (o:= .dK []) (h':=s.heap.push {cls:= .type "dict",data:= .dict #[]}) (t':=s.toks) (λ_ _ q=>G5 _ q) (P3 _) (Do s.heap I.big);refine wpAny_Dict_walk (knd:=wm X.prog X.w) hall hl h0 h15 (thn (h pins _ σ _ _ I1 (q _ hn)) λws s2 ⟨ps,H2,I2,rel,e,kvs,ep,lk,q2⟩=> ?_);subst ep;obtain⟨rs,c,rk⟩:=Wl (P:=X.prog) (w:=X.w) rel;obtain⟨z,hd,vs0,r0,dd⟩:=Om I2.hok e;cases r0;refine⟨rs,c,dd,λh' dd' hs=>⟨.ref s.heap.objs.size,_,?_,rfl,q2⟩⟩;have hz:(YB [] kvs).length<=sizeLine:=by
  have h1:=vq kvs [];rw [S2] at h1;rw [mT];omega
 have he: ∃q,h'.get? s.heap.objs.size=some q:=let ⟨q,_,_,hq,_⟩:=dd';⟨q,hq⟩;exact MJ I2 (by rw [e];exact bP) hs he (Ct hz hd (rk.merge .nil) dd')
structure M2 (X:Cx)(o:S5)(m:Str)(apos:Pos)(e f:S5)(cpos:Pos):Prop where
 base:aV o m X.env (O4 o X.env)=O4 o X.env
 few:((E6 cpos (D2 [e,f] X.env)).all (λx=> !x.1)&&(iW cpos (dF [] X.env)).all (λx=>x.1.isSome)
  &&decide (([e,f]:G0 S5).length+([]:G0 cL).length+(if ([]:G0 cL).isEmpty then 0 else 1)<30))=true
 line:(apos.endLine==cpos.line)=true
 trees:E6 cpos (D2 [e,f] X.env)= [(false,O4 e X.env),(false,O4 f X.env)]
def wo (names:G0 (Str×NameKind))(env:Env)(cs:G0 (Str×G7)):G0 (Str×G7):=
 names.foldl (λcs p=>if p.2= .free then (match env.cells.lookup p.1 with|some c=>(p.1,c)::cs|none=>cs) else cs) cs
theorem zA (p:Str×NameKind)(l:G0 (Str×NameKind))(env:Env)(cs:G0 (Str×G7)):
 wo (p::l) env cs=wo l env (if p.2= .free then (match env.cells.lookup p.1 with|some c=>(p.1,c)::cs|none=>cs) else cs):=rfl
variable {env:Env}
theorem Zg {f:Str×NameKind->G0 (Str×G7)->Sem (dY (G0 (Str×G7)))}
 (h1: ∀p cs,p.2≠ .free->f p cs=pure (.yield cs))(h2: ∀p cs c,p.2= .free->env.cells.lookup p.1=some c->f p cs=pure (.yield ((p.1,c)::cs))):
 ∀ (l:G0 (Str×NameKind)) (cs:G0 (Str×G7)),(∀p∈l,p.2= .free-> ∃c,env.cells.lookup p.1=some c)->forIn l cs f=pure (wo l env cs)
 | [],cs,_=>rfl
 |p::l,cs,h=>by
  have ih:=Zg h1 h2 l
  by_cases hp:p.2= .free
  ·obtain⟨c,hc⟩:=h p D5 hp;rw [bK,h2 p cs c hp hc,pure_bind];show forIn l ((p.1,c)::cs) f=_;rw [ih _ λq hq=>h q (D8 _ hq),zA,S8 hp,hc]
  ·rw [bK,h1 p cs hp,pure_bind];show forIn l cs f=_;rw [ih _ λq hq=>h q (D8 _ hq),zA,S7 hp]
variable {scope:O0}
theorem WL (h: ∀p∈scope.names,p.2= .free-> ∃c,env.cells.lookup p.1=some c):fC scope env=pure (wo scope.names env []):=by
 simp only [fC];rw [Zg (env:=env) (λp cs hp=> ?_) (λp cs c hp hc=> ?_) _ _ h]
 ·rfl
 ·obtain⟨n,k⟩:=p;have hb:(k==C6)=false:=by simpa using hp
  simp only [hb,kW,gZ]
 ·obtain⟨n,k⟩:=p;have hb:(k==C6)=true:=by simpa using hp
  have hc':env.cells.lookup n=some c:=hc;simp only [hb,cK,sO,hc',pure_bind]
theorem Zh: ∀ (l:G0 (Str×NameKind)) (cs:G0 (Str×G7)),(∀p∈cs,env.cells.lookup p.1=some p.2)-> ∀p∈wo l env cs,env.cells.lookup p.1=some p.2
 | [],cs,h,p,hp=>h p hp
 |q::l,cs,h,p,hp=>by
  rw [zA] at hp;refine Zh l _ (λr hr=> ?_) p hp
  by_cases hq:q.2= .free
  ·rw [S8 hq] at hr;cases e:env.cells.lookup q.1 with
   |none=>rw [e] at hr;exact h r hr
   |some c=>
    rw [e] at hr;rcases P6.mp hr with rfl|hr
    ·exact e
    ·exact h r hr
  ·rw [S7 hq] at hr;exact h r hr
theorem Zi: ∀ (l:G0 (Str×NameKind)) (cs:G0 (Str×G7)),∀p∈cs,p∈wo l env cs
 | [],cs,p,hp=>hp
 |q::l,cs,p,hp=>by
  rw [zA];refine Zi l _ p ?_
  by_cases hq:q.2= .free
  ·rw [S8 hq];cases e:env.cells.lookup q.1 with
   |none=>exact hp
   |some c=>exact D8 _ hp
  ·rw [S7 hq];exact hp
variable {x:Str}
theorem Zj {c:G7}(hc:env.cells.lookup x=some c): ∀ (l:G0 (Str×NameKind)) (cs:G0 (Str×G7)),(x,C6)∈l->(x,c)∈wo l env cs
 |q::l,cs,h=>by
  rw [zA];rcases P6.mp h with e|h
  ·subst e;rw [S8 rfl,hc];exact Zi l _ _ D5
  ·exact Zj hc l _ h
theorem zT {α:Type}: ∀ {l:G0 (Str×α)} {x:Str} {c:α},l.lookup x=some c->(x,c)∈l
 | [],_,_,h=>by simp at h
 |(n,k)::r,x,c,h=>by
  rw [L0] at h;cases hx:x==n with
  |true=>
   rw [hx] at h;have e:x=n:=eq_of_beq hx;cases h;subst e;exact D5
  |false=>rw [hx] at h;exact D8 _ (zT h)
theorem Wm {α:Type}: ∀ {l:G0 (Str×α)} {x:Str} {c:α},(x,c)∈l-> ∃c',l.lookup x=some c'
 |(n,k)::r,x,c,h=>by
  rw [L0];cases hx:x==n with
  |true=>exact⟨_,rfl⟩
  |false=>
   rcases P6.mp h with e|h
   ·cases e;simp at hx
   ·exact Wm h
theorem Wn {l:G0 (Str×NameKind)}{c:G7}(h:(wo l env []).lookup x=some c):env.cells.lookup x=some c:=
 Zh l [] (λ_ z=>nomatch z) (x,c) (zT h)
theorem QN {l:G0 (Str×NameKind)}{c:G7}(hc:env.cells.lookup x=some c)(h:(x,C6)∈l):(wo l env []).lookup x=some c:=by
 obtain⟨c',e⟩:=Wm (Zj hc l [] h);have:=Wn e;rw [hc] at this;cases this;exact e
theorem wH {κ:Type}{f:Str×κ->Str×κ}{g:Str->κ->κ}(hf: ∀n k,f (n,k)=(n,g n k))(x:Str): ∀l:G0 (Str×κ),(l.map f).lookup x=(l.lookup x).map (g x)
 | []=>rfl
 |(n,k)::r=>by
  rw [N5,hf,L0,L0,wH hf x r];cases same:x==n with
  |false=>rfl
  |true=>rw [eq_of_beq same];rfl
theorem jL {names:G0 (Str×NameKind)}{k:NameKind}(found:
 (names.map λ(n,k)=>if (k==C6&&env.scope.kind== .function&&env.kindOf n==some .cell) then (n,X6) else (n,k)).lookup x=some k):
  names.lookup x=some k\/names.lookup x=some .free:=by
 rw [wH (g:=λn k=>if (k==C6&&env.scope.kind== .function&&env.kindOf n==some .cell) then .cell else k) (λn k=>by dsimp only;split<;>rfl)] at found;obtain⟨k0,was,now⟩:=A4.mp found;split at now
 ·rename_i c;simp only [B1,beq_iff_eq] at c;exact .inr (by rw [was,c.1.1])
 ·exact .inl (by rw [was,now])
theorem zL: ∀ (names:G0 (Str×NameKind)) (n:G9) (acc:G0 (Str×G7)) (p:Str×G7),p∈E7 n names acc->p∈acc\/(n<=p.2/\(p.1,X6)∈names)
 | [],_,_,_,h=> .inl h
 |(x,k)::r,n,acc,p,h=>by
  unfold E7 at h;split at h
  ·rename_i hk;rcases zL r (n+1) _ p h with z|⟨z1,z2⟩
   ·rcases P6.mp z with e|z
    ·subst e;have:k= .cell:=by simpa using hk
     subst this;exact .inr ⟨P3 _,D5⟩
    ·exact .inl z
   ·exact .inr ⟨by omega,D8 _ z2⟩
  ·rcases zL r n acc p h with z|⟨z1,z2⟩
   ·exact .inl z
   ·exact .inr ⟨z1,D8 _ z2⟩
theorem jF: ∀ (names:G0 (Str×NameKind)) (n:G9) (acc:G0 (Str×G7)),E7 n names acc=E7 n names []++acc
 | [],_,_=>rfl
 |(x,k)::r,n,acc=>by
  unfold E7;split
  ·rw [jF r (n+1) ((x,n)::acc),jF r (n+1) [(x,n)],P7];rfl
  ·exact jF r n acc
theorem vW {α:Type}(l l':G0 (Str×α))(x:Str):(l++l').lookup x=(match l.lookup x with|some c=>some c|none=>l'.lookup x):=by
 induction l with
 |nil=>rfl
 |cons p l ih=>
  obtain⟨n,c⟩:=p;rw [L5,L0,L0];cases x==n with
  |true=>rfl
  |false=>exact ih
theorem yR {names:G0 (Str×NameKind)}(here:names.lookup x=some .cell):
 (names.map λ(n,k)=>if (k==C6&&env.scope.kind== .function&&env.kindOf n==some .cell) then (n,X6) else (n,k)).lookup x=some .cell:=by
 rw [wH (g:=λn k=>if (k==C6&&env.scope.kind== .function&&env.kindOf n==some .cell) then .cell else k) (λn k=>by dsimp only;split<;>rfl),here];simp
section
variable {M:gA}{A:T0}{E:G1->G3->Prop}{s:G3}
theorem Xy (h:N2)(names:G0 (Str×NameKind)):(∀n c,(n,c)∈E7 h.objs.size names []->(pushCells h names).IsCell c none/\h.objs.size<=c)/\(E7 h.objs.size names []).Pairwise λx y=>x.2≠y.2:=
 have laid:=cellsFrom_ok names h h.objs.size [] ⟨by simp,.nil⟩ (P3 _)
 ⟨laid.empty,laid.apart⟩
theorem YC {scope:O0}{globals:G7}{closure:G0 (Str×G7)}{qual:Str}{func:P2 G7}{code:G1}{outer:Env}{builtins:G7}{Q:Env->G3->Prop}
 (hQ: ∀h',h'.Ns s.heap.objs.size (λ_=>none)->(∀b o,s.heap.get? b=some o->h'.get? b=some o)->(∀n c,(n,c)∈E7 (s.heap.objs.size+1) scope.names []->h'.IsCell c none/\s.heap.objs.size+1<=c)->
  ((E7 (s.heap.objs.size+1) scope.names []).Pairwise λx y=>x.2≠y.2)->
  Q (newEnv scope s.heap.objs.size globals (E7 (s.heap.objs.size+1) scope.names closure) qual func code (some outer) builtins) {s with heap:=h'}):
 R1 M A (n9 scope globals closure [] qual func code (some outer) builtins) Q E s:=by
 have names:=Xy (s.heap.push {cls:= .type "dict",data:= .dict #[]}) scope.names;have first:(s.heap.push {cls:= .type "dict",data:= .dict #[]}).objs.size=s.heap.objs.size+1:=cN ..
 rw [first] at names;unfold n9;refine wpAny_bind (wpAny_alloc (wpAny_bind (wpAny_layCells _ (λn k cs=>rfl) _ _ _ _ ?_)));simp only [Option.isSome_some,cK];rw [first];exact wpAny_bind (P1 (P1 (hQ _ ((Heap.Ns.new _ _).keeps (nA _ _)) (λb o here=>nA _ _ b o (G5 _ here)) names.1 names.2)))
end
def jC (X:Cx)(scope:O0)(C:G7):G0 (Str×G7):=E7 (C+1) scope.names (wo scope.names X.env [])
def yS (X:Cx)(scope:O0)(C:G7)(s₀:G3)(H₀:Hp)(ex:G0 G7):Cx:=
 {X with s₀:=s₀,H₀:=H₀,env:=oA scope (jC X scope C) C X.env,outer:=X.stack,ex:=ex,fn:=λx=>scope.names.lookup x==some .cell,pn:= [],xe:=λ_ _=>False}
def jn (X:Cx)(scope:O0)(X':Cx):Prop:= ∃C s₀ H₀ ex,X'=yS X scope C s₀ H₀ ex
structure BlockOk (X:Cx)(scope:O0)(js:G0 G9):Prop where
 kind:scope.kind= .function
 locs: ∀p∈scope.names,p.2= .local->scope.names.lookup p.1=some .local
 cels: ∀p∈scope.names,p.2= .cell->scope.names.lookup p.1=some .cell
 free: ∀p∈scope.names,p.2= .free->X.env.scope.names.lookup p.1=some .cell\/X.env.scope.names.lookup p.1=some .free
 js: ∀ (i:G9) (x:Str),X.N[i]? =some x->(scope.names.lookup x=some .local\/scope.names.lookup x=some .cell)->i∈js
variable {js:G0 G9}
theorem ww (S:BlockOk X scope js){C:G7}{x:Str}{c:G7}(h:(jC X scope C).lookup x=some c):
 (scope.names.lookup x≠some .cell/\X.env.cells.lookup x=some c)\/(scope.names.lookup x=some .cell/\(x,c)∈E7 (C+1) scope.names []):=by
 unfold jC at h;rw [jF,vW] at h;cases e:(E7 (C+1) scope.names []).lookup x with
 |some d=>
  rw [e] at h;cases h;have m:=zT e;rcases zL _ _ _ _ m with z|⟨_,z⟩
  ·exact absurd z (by simp)
  ·exact .inr ⟨S.cels _ z rfl,m⟩
 |none=>
  rw [e] at h;refine .inl ⟨λz=> ?_,Wn h⟩;obtain⟨d,hd⟩:=yA (sc:=scope) (n:=C+1) z;rw [e] at hd;cases hd
theorem Jm (S:BlockOk X scope js){C:G7}{x:Str}{c:G7}(hc:X.env.cells.lookup x=some c)(h:(x,C6)∈scope.names)(hn:scope.names.lookup x≠some .cell):(jC X scope C).lookup x=some c:=by
 unfold jC;rw [jF,vW];cases e:(E7 (C+1) scope.names []).lookup x with
 |some d=>
  rcases zL _ _ _ _ (zT e) with z|⟨_,z⟩
  ·exact absurd z (by simp)
  ·exact absurd (S.cels _ z rfl) hn
 |none=>exact QN hc h
def zK:G0 G9->St->St
 | [],σ=>σ
 |j::js,σ=>zK js (σ.set j none)
theorem Wo: ∀ (js:G0 G9) (σ:St),(zK js σ).length=σ.length
 | [],_=>rfl
 |j::js,σ=>by rw [zK,Wo js];simp
theorem Zk: ∀ (js:G0 G9) (σ:St) (i:G9) (v:V),(zK js σ)[i]? =some (some v)->σ[i]? =some (some v)
 | [],_,_,_,h=>h
 |j::js,σ,i,v,h=>by
  have h1:=Zk js _ i v h
  by_cases e:i=j
  ·subst e;rw [cO] at h1;simp at h1
  ·rwa [A3 (E5 e)] at h1
theorem zh: ∀ (js:G0 G9) (σ:St) (i:G9) (v:V),i∈js-> ¬ (zK js σ)[i]? =some (some v)
 |j::js,σ,i,v,hm,h=>by
  rcases P6.mp hm with rfl|hm
  ·have h1:=Zk js _ i v h;rw [cO] at h1;simp at h1
  ·exact zh js _ i v hm h
theorem HOk.track {H:Hp}{h:N2}{a:G7}{o:HO}(x:HOk P w H h)(hn:H a=none)(new:ObjOk P w (upd H a o) h a o):HOk P w (upd H a o) h:=λb u e=>by
 by_cases hb:b=a
 ·subst hb;rw [ji] at e;cases e;exact new
 ·rw [jg hb] at e;exact(x b u e).stay (λc v _ q=>q) (λc q=>by rw [jg (jj q hn)];exact q) λc xs q=>by rw [jg (jj q hn)];exact q
def Agree (σ tE:St):Prop:=tE.length=σ.length/\ ∀ (i:G9) (v:V),σ[i]? =some (some v)->tE[i]? =some (some v)
theorem Agree.set {σ:St}{j:G9}(v:V)(h: ∀u,¬σ[j]? =some (some u)):Agree σ (σ.set j (some v)):=⟨by simp,λi u q=>by
 by_cases e:j=i
 ·subst e;exact absurd q (h u)
 ·rw [A3 e];exact q⟩
theorem Agree.trans {a b c:St}(x:Agree a b)(y:Agree b c):Agree a c:=⟨y.1.trans x.1,λi v h=>y.2 i v (x.2 i v h)⟩
def PTs (X:Cx)(ifs:G0 S5)(t:TT):Prop:=
 ∀ (pins:G0 (G7×Obj)) (s:G3) (σ:St) (H:Hp) (Q:M6->Hp->Prop),Inv X pins σ H s->t σ H Q->
  R1 (R6 X.prog X.w) X.A (forIn ifs true λc r=>if r=true then do let ok <-isTrue c X.env (O4 c X.env);pure (Y8 ok) else pure (Y8 r)) (TP X pins σ Q) X.xe s
def AL:TT:=λ_ H Q=>Q true H
theorem MM:PTs X [] AL:=λ_ _ _ H _ I h=>wpAny_tests_nil ⟨H,I,h⟩
theorem MN {c:S5}{t:TT}(hc:PT X c t):PTs X [c] t:=λpins s σ H Q I h=>wpAny_tests_one (hc pins s σ H Q I h)
def Wp (iter target:S5)(ifs:G0 S5)(it:G1)(env:Env)(act:Sem Unit)(nxt:Code):Sem dZ:=do
 hU iter.pos
 match <-nP it with
 |none=>pure (.done .next)
 |some v=>
  W5 target it v
  dL target env v
  let mut ok:=true
  for c in ifs do
   if ok then ok <-isTrue c env (O4 c env)
  if ok then act
  sJ nxt
variable {elt iter:S5}{ifs:G0 S5}
theorem UG {prog:R5}{A:T0}{R:nV->G3->Prop}{s:G3}{target:S5}{gens:G0 dA}{depth:G9}{it acc:G1}{act:Sem Unit}(I:G9->G3->Prop)
 (heq:lM (.ListComp elt gens scope pos) depth it acc env=Wp iter target ifs it env act (.compLoop (.ListComp elt gens scope pos) depth it acc env))
 (turn: ∀n s,I n s->R1 (R6 prog w) A (nP it) (λr tG=>match r with
  |none=>R (.ok .next) tG
  |some v=>R1 (R6 prog w) A (W5 target it v) (λ_ tG=>R1 (R6 prog w) A (dL target env v) (λ_ tN=>
   R1 (R6 prog w) A (forIn ifs true λc r=>if r=true then do let ok <-PySem.isTrue c env (O4 c env);pure (Y8 ok) else pure (Y8 r)) (λok tX=>
    if ok=true then R1 (R6 prog w) A act (λ_ uQ=> ∃m,m<n/\I m uQ) (λ_ _=>False) tX
    else ∃m,m<n/\I m tX) (λ_ _=>False) tN) (λ_ _=>False) tG) (λ_ _=>False) tG) (λ_ _=>False) s)
 (n:G9)(h:I n s):
 X9 (R6 prog w) A (.compLoop (.ListComp elt gens scope pos) depth it acc env) R s:=by
 refine codeAny_loop rfl I (λn s hI=> ?_) n h;show R1 _ A ((lM (.ListComp elt gens scope pos) depth it acc env).onRaise (λx=>do noteFrame x env;theTreesLotGoes x)) _ _ s;refine wpAny_noted ?_;rw [heq];unfold Wp;refine wpAny_bind (aR (wpAny_bind (S6 (turn n s hI) (λr tG tK=> ?_) λ_ _ h'=>h'.elim)));cases r with
 |none=>exact P1 tK
 |some v=>
  refine wpAny_bind (S6 tK (λ_ tG tK=> ?_) λ_ _ h'=>h'.elim);refine wpAny_bind (S6 tK (λ_ tN tO=>wpAny_bind (S6 tO (λok tX tV=> ?_) λ_ _ h'=>h'.elim)) λ_ _ h'=>h'.elim);cases ok with
  |false=>exact P1 ⟨rfl,tV⟩
  |true=>exact wpAny_bind (S6 tV (λ_ uQ uG=>P1 ⟨rfl,uG⟩) λ_ _ h'=>h'.elim)
abbrev TM:=St->Hp->G0 V->(G0 V->Hp->Prop)->Prop
def Ly (X:Cx)(D:G7)(act:Sem Unit)(t:TM):Prop:=
 ∀ (pins:G0 (G7×Obj)) (s:G3) (σ:St) (H:Hp) (ys:G0 V) (us:G0 G1) (Q:G0 V->Hp->Prop),Inv X ([(D,W8 us)]++pins) σ H s->Vals ys us->ys.length<=sizeLine->D∈X.ex->(∀x c,X.env.cells.lookup x=some c->c≠D)->(∀p∈X.pn++pins,p.1≠D)->t σ H ys Q->
  R1 (R6 X.prog X.w) X.A act (λ_ s'=> ∃ys' us' H',Vals ys' us'/\Inv X ([(D,W8 us')]++pins) σ H' s'/\Q ys' H') (λ_ _=>False) s
def Cu (te:TE):TM:=λσ H ys Q=>te σ H λy H1=>Q (ys++ [y]) H1
def Wq (elt:S5)(env:Env)(acc:G1):Sem Unit:=do let _ <-call (.builtin "list.append") [acc,<-O4 elt env]
variable {te:TE}
theorem WM {D:G7}(hx:X.xe=λ_ _=>False)(he:PE X elt te):Ly X D (Wq elt X.env (.ref D)) (Cu te):=by
 intro pins s σ H ys us Q I hv hz DX cD pD h;have q:=he _ s σ H _ I h;rw [hx] at q;unfold Wq;refine wpAny_bind (S6 q (λy s1 ⟨yv,H1,I1,r1,q1⟩=> ?_) λ_ _ z=>z);have zD:=I1.pin (D,W8 us) (D6 _ (C5 _ D5));refine wpAny_bind (append_at (its:=us.toArray) (n:=us.length) zD.1 (λh11 hs11 hD11=>P1 ?_) (by rw [D7,<-hv.length];exact hz));have I10u:Inv X pins σ H1 s1:=I1.pins_of λp hp=>I1.pin p (D6 _ (D6 _ hp))
 have I11:Inv X pins σ H1 {s1 with heap:=h11}:=I10u.turned (t':=s1.toks) (it:=D) (λb o hb e=>hs11.extBut b o hb e) zD.2.1 zD.2.2.1 (.inl DX) cD pD;have eD:h11.get? D=some (W8 (us++ [y])):=by rw [hD11];exact congrArg some (LCg.lst_snoc us y)
 refine⟨ys++ [yv],us++ [y],H1,hv.append (.cons r1 .nil),I11.pins_of λp hp=> ?_,q1⟩;rcases D3.mp hp with z|z
 ·rcases P0.mp z with rfl
  exact⟨eD,zD.2.1,zD.2.2.1,zD.2.2.2.1,λv z=>by cases z⟩
 ·exact I11.pin p (D6 _ z)
def Lz (js : G0 G9) (wi : TI) (g : TG) (tt : TT) (tm : TM) : TE := fun σ H Q => wi σ H fun J H1 =>
  ∃ W : G9 → G9 → G0 V → Hp → Prop, (∃ m, W 0 m [] H1) ∧ ∀ i m ys H, W i m ys H → ys.length ≤ sizeLine ∧
    ((J.stop i H ∧ ∀ p, H p = none → Q (.ref p) (upd H p (.lst ys))) ∨
     (J.go i H ∧ ∀ x H', J.yld i H x H' → g x (zK js σ) H' fun tJ H2 => Agree (zK js σ) tJ ∧ tt tJ H2 fun b H3 =>
        if b = true then tm tJ H3 ys fun ys' H4 => ∃ m', m' < m ∧ W (i + 1) m' ys' H4 else ∃ m', m' < m ∧ W (i + 1) m' ys H3))
def tLC (js:G0 G9)(wi:TI)(g:TG)(tt:TT)(te:TE):TE:=Lz js wi g tt (Cu te)
variable {tg:S5}{wi:TI}{g:TG}{tt:TT}
theorem QP {e:S5}{rest:G0 dA}{pos0:Pos}{tm:TM}{use:P2 (G1->Sem Unit)}{Qv:G1->G3->Prop}(hc:X.calm=true)(S:BlockOk X scope js)(hi:PI X tg iter wi)
 (he0:e= .ListComp elt (⟨tg,iter,ifs,0⟩::rest) scope pos)
 (hg: ∀X',jn X scope X'->PG X' tg g)(ht: ∀X',jn X scope X'->PTs X' ifs tt)
 (act:Env->G1->Sem Unit)(hturn: ∀it acc env,lM e 0 it acc env=Wp iter tg ifs it env (act env acc) (.compLoop e 0 it acc env))(he: ∀X',jn X scope X'-> ∀D,Ly X' D (act X'.env (.ref D)) tm)
 (hs: ∀x,T7 iter X.env x=pure x){pins:G0 (G7×Obj)}{s:G3}{σ:St}{H:Hp}{Q:VK}(I:Inv X pins σ H s)(h:Lz js wi g tt tm σ H Q)
 (fin: ∀ (D C:G7) (H':Hp) (s':G3) (m:Str->P2 G1),s'.heap.Ns C m->(∀h',Y5 C s'.heap h'->Inv X pins σ H' {s' with heap:=h'})->H' C=none->C≠X.env.locals->C ∉ X.fs->X.s₀.heap.objs.size<=C->(∀x c,X.env.cells.lookup x=some c->c≠C)->(∀p∈X.pn++pins,p.1≠C)->
  Q (.ref D) H'->compPost (R6 X.prog X.w) X.A X.xe use Qv (.ref D) C (.ok .next) s'):
 R1 (R6 X.prog X.w) X.A (oX e scope X.env pos0 (newList []) false (O4 iter X.env) use) Qv X.xe s:=by
 have hclos:=WL (scope:=scope) (env:=X.env) (λp hp e=>I.ok.has p.1 (S.free p hp e));subst he0;refine wpAny_comprehension_free (use:=use) rfl hs hclos S.kind S.locs (thn (hi pins s σ H _ I h) λv s1 h1=>thn h1 λitv s2 h2=> ?_);obtain⟨it,fp,tn,J,H2,e,I2,T,st2,f2,W,⟨m0,w0⟩,turn⟩:=h2;subst e;refine A9 (YC (λtK uH uL tZ uI=> ?_));dsimp only at uH uL tZ uI ⊢;generalize hD:s2.heap.objs.size=D;generalize hH3:s2.heap.push {cls:= .type "list",dict:=none,data:= .seq ([]:G0 G1).toArray}=h3 at uH uL tZ uI ⊢;have sz3:h3.objs.size=D+1:=by rw [<-hH3,cN,hD]
 have up3: ∀b o,s2.heap.get? b=some o->h3.get? b=some o:=λb o e=>hH3 ▸ G5 _ e
 have I3:Inv X pins σ H2 {s2 with heap:=h3}:=I2.kept (t':=s2.toks) up3;have hD3:h3.get? D=some (W8 []):=by rw [<-hH3,<-hD];exact S3 _ rfl
 have fD:Qf X pins H2 D:=I2.fpOk (by rw [hD];exact P3 _) (I2.hok.fresh (by rw [hD];exact P3 _));have obf: ∀b∈fp,∃o,s2.heap.get? b=some o/\ ∀v,o.data≠ .cell v:=T.obj _ _ st2;have ltf: ∀b∈fp,b<D:=λb hb=>by obtain⟨o,e,_⟩:=obf b hb;rw [<-hD];exact D4 e
 generalize hC:h3.objs.size=C at uH tZ uI ⊢;have CD:C=D+1:=hC.symm.trans sz3;have upC: ∀b o,h3.get? b=some o->tK.get? b=some o:=uL;generalize hX:yS X scope C {s2 with heap:=h3} H2 (fp++ [D])=X';have iX:jn X scope X':=⟨C,_,_,_,hX.symm⟩;have hf: ∀b∈fp++ [D],Qf X pins H2 b:=λb hb=>(D3.mp hb).elim (f2 b) λz=>by rw [P0.mp z];exact fD
 have cl: ∀x c,(jC X scope C).lookup x=some c->X.env.cells.lookup x=some c\/C<c:=λx c e=>by
  rcases ww S e with ⟨_,z⟩|⟨_,z⟩
  ·exact .inl z
  ·exact .inr (cP (tZ x c z).2)
 have olt: ∀x c,X.env.cells.lookup x=some c->c<C:=λx c e=>by obtain⟨v,q⟩:=I3.cell x c e;rw [<-hC];exact q.lt
 have ltb: ∀b∈fp++ [D],b<C:=λb hb=>(D3.mp hb).elim (λz=>by have:=ltf b z;rw [CD];exact gG this) λz=>by rw [P0.mp z,CD];exact V1 _
 have okX:X'.Ok:=by
  subst hX;refine⟨I.ok.mod,S.kind,I.ok.glob,I.ok.blt,U9 hC,λx y c e1 e2=> ?_,λx hx=> ?_,λx c z e=> ?_,I.ok.hd,I.ok.frames,.inl rfl,λb hb=>⟨T5 (ltb b hb),λx c e=>(cl x c e).elim (λz=>(hf b hb).2.2.2.2.1 x c z) λz=>Q1 (cM (ltb b hb) z)⟩,
   I3.bs,S1 I.ok.bsz I3.sz,λb o e hb=> ?_,λb hb z=> ?_,I3.stack,I3.stkFree⟩
  ·rcases ww S e1 with ⟨_,z1⟩|⟨_,z1⟩<;>rcases ww S e2 with ⟨_,z2⟩|⟨_,z2⟩
   ·exact I.ok.inj x y c z1 z2
   ·exact absurd (cM (olt x c z1) (cP (tZ y c z2).2)) (C3 _)
   ·exact absurd (cM (olt y c z2) (cP (tZ x c z1).2)) (C3 _)
   ·exact lG uI z1 z2
  ·have own:scope.names.lookup x=some .cell-> ∃c,(jC X scope C).lookup x=some c:=λz=>by
    obtain⟨c,hc⟩:=yA (sc:=scope) (n:=C+1) z;exact⟨c,by unfold jC;rw [jF,vW,hc]⟩
   have shr:scope.names.lookup x=some .free-> ∃c,(jC X scope C).lookup x=some c:=λz=>by
    have fm:=zT z;obtain⟨c,hc⟩:=I.ok.has x (S.free _ fm rfl);exact⟨c,Jm S hc fm (by rw [z];decide)⟩
   rcases hx with hx|hx
   ·rcases jL (env:=X.env) hx with z|z
    ·exact own z
    ·exact shr z
   ·rcases jL (env:=X.env) hx with z|z<;>exact shr z
  ·have z':scope.names.lookup x=some .cell:=by
    have z2:(scope.names.lookup x==some X6)=true:=z;simpa using z2
   rcases ww S e with ⟨n,_⟩|⟨_,m⟩
   ·exact absurd z' n
   ·show h3.objs.size<=c;rw [hC];exact R8 (cP (tZ x c m).2)
  ·rcases (hf b hb).2.2.2.1 with z|z
   ·exact I.ok.noex b o e z
   ·exact absurd (R3 (D4 e) (S1 I.ok.bsz z)) (C3 _)
  ·rcases P6.mp (I.stkSub b z) with q|q
   ·exact(hf b hb).2.1 q
   ·exact(hf b hb).2.2.1 q
 -- the block's first state
 have I4:Inv X' [(D,W8 [])] (zK js σ) H2 {s2 with heap:=tK}:=by
  subst hX;have hDC:D≠C:=by rw [CD];exact T5 (V1 _)
  refine⟨okX,rfl,I2.bare,Un.kept (λb u e=>upC b u e),⟨_,uH,λi x v e1 e2 e3=> ?_⟩,λx c e=> ?_,I3.hok.fresh (U9 hC),λx c e=>(cl x c e).elim (λz=>I2.freeC x c z) (λz=>I3.hok.fresh (by rw [<-hC] at z;exact R8 z)),λp hp=> ?_,I3.hok.kept upC,(Wo js σ).trans I2.len⟩
  ·have fr:scope.names.lookup x=some .free:=by
    rcases e3 with e3|e3|e3
    ·rcases jL (env:=X.env) e3 with z|z
     ·exact absurd e2 (zh js σ i v (S.js i x e1 (.inl z)))
     ·exact z
    ·rcases jL (env:=X.env) e3 with z|z
     ·exact absurd e2 (zh js σ i v (S.js i x e1 (.inr z)))
     ·exact z
    ·rcases jL (env:=X.env) e3 with z|z<;>exact z
   have fm:=zT fr;obtain⟨m,hm,hl⟩:=I2.loc;have vis:=S.free _ fm rfl;obtain⟨u,r,lk⟩:=hl i x v e1 (Zk js σ i v e2) (.inr vis);have kd:(relabel scope X.env).names.lookup x=some .cell\/(relabel scope X.env).names.lookup x=some .free:=by
    rcases e3 with e3|e3|e3
    ·rcases jL (env:=X.env) e3 with z|z
     ·rw [fr] at z;cases z
     ·exfalso;have z2:=e3
      -- a local's kind stays
      exact absurd e2 (zh js σ i v (S.js i x e1 (.inl (by
       have q: ∀ (l:G0 (Str×NameKind)),(l.map λ(n,k)=>if (k==C6&&X.env.scope.kind== .function&&X.env.kindOf n==some .cell) then (n,X6) else (n,k)).lookup x=some .local->l.lookup x=some .local:=by
        intro l
        induction l with
        |nil=>intro h;simp at h
        |cons p l ih=>
         obtain⟨n,k'⟩:=p;intro h;have h':List.lookup x ((if (k'==C6&&X.env.scope.kind== .function&&X.env.kindOf n==some .cell)=true then (n,X6) else (n,k'))::(l.map λ(n,k)=>if (k==C6&&X.env.scope.kind== .function&&X.env.kindOf n==some .cell) then (n,X6) else (n,k)))=some .local:=h;rw [L0]
         by_cases hc:(k'==C6&&X.env.scope.kind== .function&&X.env.kindOf n==some .cell)=true
         ·rw [S8 hc,L0] at h';cases hx:x==n with
          |true=>rw [hx] at h';cases h'
          |false=>rw [hx] at h';exact ih h'
         ·rw [S7 hc,L0] at h';cases hx:x==n with
          |true=>rw [hx] at h';exact h'
          |false=>rw [hx] at h';exact ih h'
       exact q _ z2))))
    ·exact .inl e3
    ·exact .inr e3
   rcases lk with ⟨k,_⟩|⟨_,c,hc,hcell⟩
   ·have k':X.env.scope.names.lookup x=some .local:=k;rcases vis with z|z<;>(rw [k'] at z;cases z)
   ·refine⟨u,r,.inr ⟨kd,c,Jm S hc fm (by rw [fr];decide),?_⟩⟩;obtain⟨o,ho,hd⟩:=hcell;exact⟨o,upC _ _ (up3 _ _ ho),hd⟩
  ·rcases ww S e with ⟨_,z⟩|⟨_,z⟩
   ·obtain⟨v,o,ho,hd⟩:=I2.cell x c z;exact⟨v,o,upC _ _ (up3 _ _ ho),hd⟩
   ·exact⟨none,(tZ x c z).1⟩
  ·have hp':p∈ [(D,W8 [])]:=hp;rcases P0.mp hp' with rfl
   refine⟨upC _ _ hD3,fD.1,hDC,λz=> ?_,λv z=>by cases z⟩;rcases P6.mp (I.stkSub D z) with q|q
   ·exact fD.2.1 q
   ·exact fD.2.2.1 q
 have st4:tn 0 tK:=T.keep _ _ _ st2 λb _ o e=>upC _ _ (up3 _ _ e)
 have eA:X'.A=X.A:=by rw [<-hX];rfl
 have eP:X'.prog=X.prog:=by rw [<-hX];rfl
 have eW:X'.w=X.w:=by rw [<-hX];rfl
 have eK:X'.K=X.K:=by rw [<-hX];rfl
 have eC:X'.calm=true:=by rw [<-hX];exact hc
 have eV:X'.env=oA scope (jC X scope C) C X.env:=by rw [<-hX];rfl
 have eE:X'.xe=λ_ _=>False:=by rw [<-hX];rfl
 -- what stays true of the iterator's objects
 have stat: ∀ {us:G0 G1} {H':Hp},(∀b∈fp,H' b=none)-> ∀b∈fp,Qf X' [(D,W8 us)] H' b:=λ{us H'} hn b hb=>by
  have q:=hf b (C5 _ hb);subst hX;refine⟨hn b hb,T5 (ltb b (C5 _ hb)),λz=> ?_,.inl (C5 _ hb),λx c e=>(cl x c e).elim (λz=>q.2.2.2.2.1 x c z) (λz=>Q1 (cM (ltb b (C5 _ hb)) z)),λp hp=> ?_⟩
  ·rcases P6.mp (I.stkSub b z) with r|r
   ·exact q.2.1 r
   ·exact q.2.2.1 r
  ·have hp':p∈ [(D,W8 us)]:=hp;rcases P0.mp hp' with rfl
   exact Q1 (ltf b hb)
 have loop: ∀tX:G3,tX= {s2 with heap:=tK}->
  X9 (R6 X.prog X.w) X.A (.compLoop (.ListComp elt (⟨tg,iter,ifs,0⟩::rest) scope pos) 0 (.ref it) (.ref D) (oA scope (jC X scope C) C X.env))
   (compPost (R6 X.prog X.w) X.A X.xe use Qv (.ref D) C) tX:=by
  rintro tX rfl;refine UG (act:=act (oA scope (jC X scope C) C X.env) (.ref D)) (λn s'=> ∃i ys us H',Vals ys us/\Inv X' [(D,W8 us)] (zK js σ) H' s'/\tn i s'.heap/\(∀b∈fp,H' b=none)/\W i n ys H') (hturn _ _ _) ?_ m0
   ⟨0,[],[],H2,.nil,I4,st4,λb hb=>(f2 b hb).1,w0⟩
  rintro n s5 ⟨i,ys,us,H5,hv5,I5,st5,fr5,w5⟩;obtain⟨hz,tr⟩:=turn i n ys H5 w5;rcases tr with ⟨stop,qn⟩|⟨go,step⟩
  ·have q:=T.done X' eP eW eK eC i _ s5 _ H5 (λ_ _=>False) I5 (stat fr5) st5 stop;rw [eA] at q;refine S6 q (λr s6 ⟨hr,I6⟩=> ?_) λ_ _ z=>z
   subst hr;obtain⟨m6,hm6,_⟩:=I6.loc;rw [eV] at hm6;have zD:=I6.pin (D,W8 us) (D6 _ D5);have HD:H5 D=none:=zD.2.1;have oD:s6.heap.get? D=some (W8 us):=zD.1;have hDC:D≠C:=by rw [CD];exact T5 (V1 _)
   have HC:H5 C=none:=by have z:=I6.free;rw [eV] at z;exact z
   have B:=I6.base;have os6:s6.os=s2.os:=by have z:=I6.os;rw [<-hX] at z;exact z
   have Bu:Un (frs X.stack) (fp++ [D]) H2 H5 h3 s6.heap:=by rw [<-hX] at B;exact B
   have neC: ∀b o,h3.get? b=some o->b≠C:=λb o e=>by rw [<-hC];exact T5 (D4 e)
   refine fin D C (upd H5 D (.lst ys)) s6 m6 hm6 (λh' hs'=> ?_) (by rw [jg (E5 hDC)];exact HC) ?_ ?_ ?_ (λx c e=>T5 (olt x c e)) ?_ (qn D HD)
   ·have hk5:HOk X.prog X.w H5 h':=λb u e=>by
     have z:=I6.hok b u e;rw [eP,eW] at z;refine z.stay (λc v hc q=>hs'.extBut c v ?_ q) (λ_ q=>q) λ_ _ q=>q
     rcases hc with rfl|hc
     ·exact jj e HC
     ·exact jj hc HC
    refine I3.call' (ch:=fp++ [D]) os6 ⟨λb o e n hb hx=> ?_,λb o e n hb hx=> ?_,λb o e n hx=> ?_,λb o e hx=> ?_,λb xs e=> ?_,λb o u e=> ?_,λb ps e=> ?_⟩ (hk5.track HD ?_) I6.bare λb hb=> ?_
    ·exact hs'.extBut b o (neC b o e) (Bu.keep b o e n hb hx)
    ·obtain⟨sl,q⟩:=Bu.slot b o e n hb hx;exact⟨sl,hs'.extBut b _ (neC b o e) q⟩
    ·rw [jg λz=>hx (by rw [z];exact D6 _ D5)];exact Bu.free b o e n hx
    ·obtain⟨o',q⟩:=Bu.there b o e hx;exact⟨o',hs'.extBut b _ (neC b o e) q⟩
    ·have z:=Bu.tups b xs e;rw [jg (jj z HD)];exact z
    ·have z:=Bu.frzs b o u e;rw [jg (jj z HD)];exact z
    ·obtain⟨more,z⟩:=Bu.tbls b ps e;exact⟨more,by rw [jg (jj z HD)];exact z⟩
    ·exact⟨hz,us,us.length,hv5,hs'.extBut D _ hDC oD⟩
    ·have q:=hf b hb;exact⟨q.2.2.2.1,q.2.1,q.2.2.2.2.1,q.2.2.2.2.2⟩
   ·rw [<-hC];exact Q1 I3.lt
   ·exact I3.nofs (U9 hC)
   ·rw [<-hC];exact I3.sz
   ·intro p hp;have:=(I3.pin p hp).1;rw [<-hC];exact T5 (D4 this)
  ·have q:=T.item X' eP eW eK eC i _ s5 _ H5 (λ_ _=>False) I5 (stat fr5) st5 go;rw [eA] at q;refine S6 q (λr s6 ⟨u,hr,h6⟩=> ?_) λ_ _ z=>z
   subst hr;refine S6 h6 (λ_ s7 ⟨x,H7,I7,r7,y7,st7,fr7⟩=> ?_) λ_ _ z=>z
   have I7':=I7.pinned (stat fr7) (T.obj _ _ st7);have q7:=hg X' iX _ s7 _ H7 x u _ I7' r7 (step x H7 y7);rw [eP,eW,eA,eV,eE] at q7;refine S6 q7 (λ_ s8 ⟨uC,H8,I8,ag8,q8⟩=> ?_) λ_ _ z=>z
   have q9:=ht X' iX _ s8 uC H8 _ I8 q8;rw [eP,eW,eA,eV,eE] at q9;refine S6 q9 (λok s9 ⟨H9,I9,q9⟩=> ?_) λ_ _ z=>z
   have keepT: ∀ {tE:St} {H':Hp} {s':G3} {us:G0 G1},Inv X' ([(D,W8 us)]++yK fp s7.heap) tE H' s'->tn (i+1) s'.heap/\ ∀b∈fp,H' b=none:=λ{tE H' s' us} I'=>
    ⟨T.keep _ _ _ st7 λb hb o e=>(I'.pin (b,o) (D6 _ (D6 _ (zS hb e)))).1,λb hb=>by
     obtain⟨o,e,_⟩:=T.obj _ _ st7 b hb;exact(I'.pin (b,o) (D6 _ (D6 _ (zS hb e)))).2.1⟩
   cases ok with
   |false=>
    have q9: ∃m',m'<n/\W (i+1) m' ys H9:=q9;obtain⟨m',hm,w9⟩:=q9;obtain⟨t9,f9⟩:=keepT I9;exact⟨m',hm,i+1,ys,us,H9,hv5,(I9.unpinned).weak ag8.1.symm ag8.2,t9,f9,w9⟩
   |true=>
    have q9:tm uC H9 ys λys' H4=> ∃m',m'<n/\W (i+1) m' ys' H4:=q9
    have DX:D∈X'.ex:=by rw [<-hX];exact D6 _ D5
    have pD: ∀p∈X'.pn++yK fp s7.heap,p.1≠D:=λp hp=>by
     have hp':p∈yK fp s7.heap:=by rw [<-hX] at hp;simpa [yS] using hp
     exact T5 (ltf _ (JZ hp').1)
    have cD: ∀x c,X'.env.cells.lookup x=some c->c≠D:=λx c e=>by
     rw [eV] at e;exact(cl x c e).elim (λz=>fD.2.2.2.2.1 x c z) λz=>Q1 (cM (by rw [CD];exact V1 _) z)
    have q10:=he X' iX D _ s9 uC H9 ys us _ I9 hv5 hz DX cD pD q9;rw [eP,eW,eA,eV] at q10;show R1 _ _ (act _ _) _ _ s9;refine S6 q10 (λ_ s10 ⟨ys',us',H10,hv10,I10,m',hm,w10⟩=> ?_) λ_ _ z=>z
    obtain⟨t10,f10⟩:=keepT I10;exact⟨m',hm,i+1,ys',us',H10,hv10,(I10.unpinned).weak ag8.1.symm ag8.2,t10,f10,w10⟩
 exact codeAny_compStart_list (loop _ rfl) (T.self X.A 0 _ _ _ st4 (loop _ rfl))
theorem Cv (hc:X.calm=true)(S:BlockOk X scope js)(hi:PI X tg iter wi)
 (hg: ∀X',jn X scope X'->PG X' tg g)(ht: ∀X',jn X scope X'->PTs X' ifs tt)(he: ∀X',jn X scope X'->PE X' elt te)
 (hs: ∀x,T7 iter X.env x=pure x:=by intro _;rfl):PE X (.ListComp elt [⟨tg,iter,ifs,0⟩] scope pos) (tLC js wi g tt te):=by
 intro pins s σ H Q I h;rw [oY];exact QP (use:=none) hc S hi rfl hg ht (Wq elt) (λ_ _ _=>rfl) (λX' hX D=>WM (by obtain⟨_,_,_,_,rfl⟩:=hX;rfl) (he X' hX)) hs I h
  λD C H' s' m hn hk _ _ _ _ _ _ q=>⟨m,hn,λh' hs'=>⟨.ref D,H',hk h' hs',rfl,q⟩⟩
theorem MO {e:S5}{rest:G0 dA}{pos' spos:Pos}{g':TG}{tm:TM}(hc:X.calm=true)(S:BlockOk X scope js)(hi:PI X tg iter wi)
 (he0:e= .ListComp elt (⟨tg,iter,ifs,0⟩::rest) scope pos)(hg: ∀X',jn X scope X'->PG X' tg g)(ht: ∀X',jn X scope X'->PTs X' ifs tt)
 (act:Env->G1->Sem Unit)(hturn: ∀it acc env,lM e 0 it acc env=Wp iter tg ifs it env (act env acc) (.compLoop e 0 it acc env))(he: ∀X',jn X scope X'-> ∀D,Ly X' D (act X'.env (.ref D)) tm)
 (hg':PG X (.Name x pos') g')(hsw:Y0 e (some (.Name x pos')) spos.line X.env=pure true)
 (hs: ∀x,T7 iter X.env x=pure x):PS X (.Assign [.Name x pos'] e spos) (Mn (Lz js wi g tt tm) g'):=by
 intro pins s σ H Dn I h;rw [exec_Assign_Name_used _ _ _ _ hsw];refine wpAny_bind (aR (wpAny_bind ?_));subst he0;rw [arm_evalThenUse_ListComp];show R1 _ X.A (do let _ <-oX (.ListComp elt (⟨tg,iter,ifs,0⟩::rest) scope pos) scope X.env _ (newList []) false (O4 iter X.env) (some (dL (.Name x pos') X.env))) _ _ s;refine wpAny_bind (S6 (QP (use:=some (dL (.Name x pos') X.env)) (Qv:=λ_ s'=>SP X pins Dn .next s') hc S hi rfl hg ht act hturn he hs I h ?_) (λ_ s' hq=>P1 (P1 hq)) λ_ _ e=>e);intro D C H' s' m hn hk HC nL nf sz ncell npin q;show R1 _ X.A (dL (.Name x pos') X.env (.ref D)) _ _ s';obtain⟨o,es,ep,ho,hd,hr⟩:=id hn;have I1:Inv X pins σ H' s':=hk s'.heap (rV ..);have I2:Inv X (pins++ [(C,o)]) σ H' s':=I1.pins_of λp hp=>by
  rcases D3.mp hp with z|z
  ·exact I1.pin p (D6 _ z)
  ·rcases P0.mp z with rfl
   exact⟨ho,HC,nL,nf,λv z=>by rw [hd] at z;cases z⟩
 refine S6 (hg' _ s' σ H' (.ref D) (.ref D) _ I2 rfl q) (λ_ s3 ⟨tM,H3,I3,q3⟩=> ?_) λ_ _ z=>z
 have pC:=I3.pin (C,o) (D6 _ (D6 _ D5));refine⟨m,hn.at' λo' e'=> ?_,λh' hs'=> ?_⟩
 ·rw [ho] at e';cases e';exact pC.1
 ·exact⟨tM,H3,(I3.unpinned).turned (t':=s3.toks) (it:=C) (λb o hb e=>hs'.extBut b o hb e) pC.2.1 nL (.inr sz) ncell npin,q3⟩
theorem Dq {pos' spos:Pos}{g':TG}(hc:X.calm=true)(S:BlockOk X scope js)(hi:PI X tg iter wi)
 (hg: ∀X',jn X scope X'->PG X' tg g)(ht: ∀X',jn X scope X'->PTs X' ifs tt)(he: ∀X',jn X scope X'->PE X' elt te)
 (hg':PG X (.Name x pos') g')(hsw:Y0 (.ListComp elt [⟨tg,iter,ifs,0⟩] scope pos) (some (.Name x pos')) spos.line X.env=pure true)
 (hs: ∀x,T7 iter X.env x=pure x:=by intro _;rfl):PS X (.Assign [.Name x pos'] (.ListComp elt [⟨tg,iter,ifs,0⟩] scope pos) spos) (Mn (tLC js wi g tt te) g'):=
 MO hc S hi rfl hg ht (Wq elt) (λ_ _ _=>rfl) (λX' hX D=>WM (by obtain⟨_,_,_,_,rfl⟩:=hX;rfl) (he X' hX)) hg' hsw hs
def QQ (e iter:S5)(env:Env)(acc:G1):Sem Unit:=do
 let x <-O4 iter env
 hU iter.pos
 let x <-T7 iter env x
 let _ <-runOwn (.compStart e 1 (<-bF [x] (nQ x)) acc env) env
def mIn (wi : TI) (g : TG) (tt : TT) (tm : TM) : TM := fun σ H ys Q => wi σ H fun J H1 =>
  ∃ W : G9 → G9 → G0 V → Hp → Prop, (∃ m, W 0 m ys H1) ∧ ∀ i m ys H, W i m ys H → ys.length ≤ sizeLine ∧
    ((J.stop i H ∧ Q ys H) ∨
     (J.go i H ∧ ∀ x H', J.yld i H x H' → g x σ H' fun tJ H2 => Agree σ tJ ∧ tt tJ H2 fun b H3 =>
        if b = true then tm tJ H3 ys fun ys' H4 => ∃ m', m' < m ∧ W (i + 1) m' ys' H4 else ∃ m', m' < m ∧ W (i + 1) m' ys H3))
theorem vt {prog:R5}{A:T0}{R:nV->G3->Prop}{s:G3}{g0 g1:dA}{it acc:G1}(ha:g1.is_async=0)
 (h0:X9 (R6 prog w) A (.compLoop (.ListComp elt [g0,g1] scope pos) 1 it acc env) R s)
 (h:R1 (R6 prog w) A (nQ it) (λit' s'=>X9 (R6 prog w) A (.compLoop (.ListComp elt [g0,g1] scope pos) 1 it' acc env) R s')
  (notedBy (R6 prog w) A env λx s'=>R (.error x) s') s):
 X9 (R6 prog w) A (.compStart (.ListComp elt [g0,g1] scope pos) 1 it acc env) R s:=by
 obtain⟨tg,iter,ifs,as⟩:=g1;cases (show as=0 from ha);refine iM (wpAny_notedAt ?_);obtain⟨hp,g,d,tk,os⟩:=s;unfold compStart
 wp_walk
 refine wpAny_askSetting ?_;split
 ·exact P1 ⟨rfl,h0⟩
 ·exact wpAny_bind (cX (wpAny_bind (aR (wpAny_bind (S6 h (λ_ _ on=>P1 ⟨rfl,on⟩) λ_ _ x=>x)))))
theorem MP {D:G7}{g0:dA}(hc:X.calm=true)(hx:X.xe=λ_ _=>False)
 (hi:PI X tg iter wi)(hg:PG X tg g)(ht:PTs X ifs tt)(he:PE X elt te)(hs: ∀x,T7 iter X.env x=pure x):
 Ly X D (QQ (.ListComp elt [g0,⟨tg,iter,ifs,0⟩] scope pos) iter X.env (.ref D)) (mIn wi g tt (Cu te)):=by
 intro pins s σ H ys us Q I hv hz DX cD pD h;have q:=hi _ s σ H _ I h;rw [hx] at q;unfold QQ;refine wpAny_bind (S6 q (λv s1 h1=>wpAny_bind (aR (wpAny_bind (qM (hs v) (wpAny_bind (A1 (S6 h1 (λitv s2 h2=> ?_) λ_ _ z=>z))))))) λ_ _ z=>z);obtain⟨it,fp,tn,J,H2,e,I2,T,st2,f2,W,⟨m0,w0⟩,turn⟩:=h2;subst e;refine wpAny_bind (wpAny_runOwn ?_);have neD: ∀b∈fp,b≠D:=λb hb=>by
  have z:=(f2 b hb).2.2.2.2.2 (D,W8 us) (D6 _ (C5 _ D5));exact E5 z
 have stat: ∀ {us':G0 G1} {H':Hp},(∀b∈fp,H' b=none)-> ∀b∈fp,Qf X ([(D,W8 us')]++pins) H' b:=λ{us' H'} hn b hb=>by
  have q:=f2 b hb;refine⟨hn b hb,q.2.1,q.2.2.1,q.2.2.2.1,q.2.2.2.2.1,λp hp=> ?_⟩;rcases D3.mp hp with z|z
  ·exact q.2.2.2.2.2 p (C5 _ z)
  ·rcases D3.mp z with z|z
   ·rcases P0.mp z with rfl
    exact E5 (neD b hb)
   ·exact q.2.2.2.2.2 p (D6 _ (D6 _ z))
 have loop:X9 (R6 X.prog X.w) X.A (.compLoop (.ListComp elt [g0,⟨tg,iter,ifs,0⟩] scope pos) 1 (.ref it) (.ref D) X.env)
  (λr s'=>match r with| .ok f=>R1 (R6 X.prog X.w) X.A (pure ()) (λ_ s'=> ∃ys' us' H',Vals ys' us'/\Inv X ([(D,W8 us')]++pins) σ H' s'/\Q ys' H') (λ_ _=>False) s'| .error e=>cameBackBy (R6 X.prog X.w) X.A X.env (λ_ _=>False) e s') s2:=by
  refine UG (act:=Wq elt X.env (.ref D)) (λn s'=> ∃i ys us H',Vals ys us/\Inv X ([(D,W8 us)]++pins) σ H' s'/\tn i s'.heap/\(∀b∈fp,H' b=none)/\W i n ys H') rfl ?_ m0
   ⟨0,ys,us,H2,hv,I2,st2,λb hb=>(f2 b hb).1,w0⟩
  rintro n s5 ⟨i,ys,us,H5,hv5,I5,st5,fr5,w5⟩;obtain⟨hz,tr⟩:=turn i n ys H5 w5;rcases tr with ⟨stop,qn⟩|⟨go,step⟩
  ·refine S6 (T.done X rfl rfl rfl hc i _ s5 _ H5 (λ_ _=>False) I5 (stat fr5) st5 stop) (λr s6 ⟨hr,I6⟩=> ?_) λ_ _ z=>z
   subst hr;exact P1 ⟨ys,us,H5,hv5,I6,qn⟩
  ·refine S6 (T.item X rfl rfl rfl hc i _ s5 _ H5 (λ_ _=>False) I5 (stat fr5) st5 go) (λr s6 ⟨u,hr,h6⟩=> ?_) λ_ _ z=>z
   subst hr;refine S6 h6 (λ_ s7 ⟨x,H7,I7,r7,y7,st7,fr7⟩=> ?_) λ_ _ z=>z
   have I7':=I7.pinned (stat fr7) (T.obj _ _ st7);have q7:=hg _ s7 _ H7 x u _ I7' r7 (step x H7 y7);rw [hx] at q7;refine S6 q7 (λ_ s8 ⟨uC,H8,I8,ag8,q8⟩=> ?_) λ_ _ z=>z
   have q9:=ht _ s8 uC H8 _ I8 q8;rw [hx] at q9;refine S6 q9 (λok s9 ⟨H9,I9,q9⟩=> ?_) λ_ _ z=>z
   have keepT: ∀ {tE:St} {H':Hp} {s':G3} {us:G0 G1},Inv X (([(D,W8 us)]++pins)++yK fp s7.heap) tE H' s'->tn (i+1) s'.heap/\ ∀b∈fp,H' b=none:=λ{tE H' s' us} I'=>
    ⟨T.keep _ _ _ st7 λb hb o e=>(I'.pin (b,o) (D6 _ (D6 _ (zS hb e)))).1,λb hb=>by
     obtain⟨o,e,_⟩:=T.obj _ _ st7 b hb;exact(I'.pin (b,o) (D6 _ (D6 _ (zS hb e)))).2.1⟩
   cases ok with
   |false=>
    have q9: ∃m',m'<n/\W (i+1) m' ys H9:=q9;obtain⟨m',hm,w9⟩:=q9;obtain⟨t9,f9⟩:=keepT I9;exact⟨m',hm,i+1,ys,us,H9,hv5,(I9.unpinned).weak ag8.1.symm ag8.2,t9,f9,w9⟩
   |true=>
    have q9:Cu te uC H9 ys λys' H4=> ∃m',m'<n/\W (i+1) m' ys' H4:=q9
    have pD': ∀p∈X.pn++(pins++yK fp s7.heap),p.1≠D:=λp hp=>by
     rcases D3.mp hp with z|z
     ·exact pD p (C5 _ z)
     ·rcases D3.mp z with z|z
      ·exact pD p (D6 _ z)
      ·exact neD _ (JZ z).1
    rw [P7] at I9;have q10:=WM (D:=D) hx he (pins++yK fp s7.heap) s9 uC H9 ys us _ I9 hv5 hz DX cD pD' q9;show R1 _ _ (Wq _ _ _) _ _ s9;refine S6 q10 (λ_ s10 ⟨ys',us',H10,hv10,I10,m',hm,w10⟩=> ?_) λ_ _ z=>z
    rw [<-P7] at I10;obtain⟨t10,f10⟩:=keepT I10;exact⟨m',hm,i+1,ys',us',H10,hv10,(I10.unpinned).weak ag8.1.symm ag8.2,t10,f10,w10⟩
 exact vt rfl loop (T.self X.A 0 _ _ _ st2 loop)
theorem MQ (elt iter tg iter' tg':S5)(ifs ifs':G0 S5)(scope:O0)(pos:Pos)(it acc:G1)(env:Env):
 lM (.ListComp elt [⟨tg,iter,ifs,0⟩,⟨tg',iter',ifs',0⟩] scope pos) 0 it acc env=
  Wp iter tg ifs it env (QQ (.ListComp elt [⟨tg,iter,ifs,0⟩,⟨tg',iter',ifs',0⟩] scope pos) iter' env acc) (.compLoop (.ListComp elt [⟨tg,iter,ifs,0⟩,⟨tg',iter',ifs',0⟩] scope pos) 0 it acc env):=by
 unfold Wp QQ;simp only [bind_assoc,pure_bind];rfl
def Oo (js:G0 G9)(wi:TI)(g:TG)(tt:TT)(wi':TI)(g':TG)(tt':TT)(te:TE):TE:=Lz js wi g tt (mIn wi' g' tt' (Cu te))
theorem Cw {iter' tg':S5}{ifs':G0 S5}{wi':TI}{g':TG}{tt':TT}(hc:X.calm=true)(S:BlockOk X scope js)(hi:PI X tg iter wi)
 (hg: ∀X',jn X scope X'->PG X' tg g)(ht: ∀X',jn X scope X'->PTs X' ifs tt)(hi': ∀X',jn X scope X'->PI X' tg' iter' wi')
 (hg': ∀X',jn X scope X'->PG X' tg' g')(ht': ∀X',jn X scope X'->PTs X' ifs' tt')(he: ∀X',jn X scope X'->PE X' elt te)
 (hs: ∀x,T7 iter X.env x=pure x:=by intro _;rfl)(hs': ∀env x,T7 iter' env x=pure x:=by intro _ _;rfl):
 PE X (.ListComp elt [⟨tg,iter,ifs,0⟩,⟨tg',iter',ifs',0⟩] scope pos) (Oo js wi g tt wi' g' tt' te):=by
 intro pins s σ H Q I h;rw [oY];exact QP (use:=none) hc S hi rfl hg ht (λenv acc=>QQ (.ListComp elt [⟨tg,iter,ifs,0⟩,⟨tg',iter',ifs',0⟩] scope pos) iter' env acc) (λ_ _ _=>MQ ..)
  (λX' hX D=>MP (by obtain⟨_,_,_,_,rfl⟩:=hX;exact hc) (by obtain⟨_,_,_,_,rfl⟩:=hX;rfl) (hi' X' hX) (hg' X' hX) (ht' X' hX) (he X' hX) (hs' _)) hs I h
  λD C H' s' m hn hk _ _ _ _ _ _ q=>⟨m,hn,λh' hs'=>⟨.ref D,H',hk h' hs',rfl,q⟩⟩
inductive D where
 |non|bl (b:M6)|int (i:D1)|str (x:Str)|tup (ds:G0 D)|lst (a:G7)|dic (x:Str) (i:D1)|dct (a:G7)|scr (ns:G0 D1)|exc (C:G7)|fn (a:G7)
def Scr (K:G2)(H:Hp)(a:G7)(ns:G0 D1):Prop:=
 (∃o,H a=some (.frz o (.lst (ns.map V.int))))\/
  ∃ (o:Obj) (its:T9 G1) (n:G9),K.lookup a=some o/\o.cls= .type "list" /\o.dict=none/\o.data= .seq its n/\its.size<=sizeLine/\Vals (ns.map V.int) its.toList
theorem Scr.sq {K:G2}{H:Hp}{a:G7}{ns:G0 D1}(h:Scr K H a ns):SqL K H a (ns.map V.int):=h.elim (λz=> .inl (.inr z)) .inr
mutual
def RelD (K:G2)(H:Hp):D->V->Prop
 | .non,v=>v= .non
 | .bl b,v=>v= .bl b
 | .int i,v=>v= .int i
 | .str x,v=>v= .str x
 | .tup ds,v=> ∃a vs,v= .ref a/\H a=some (.tup vs)/\RelDs K H ds vs
 | .lst a,v=>v= .ref a/\ ∃vs,H a=some (.lst vs)
 | .dic x i,v=> ∃a,v= .ref a/\H a=some (.dK [(W0 x,V.int i)])
 | .dct a,v=>v= .ref a
 | .scr ns,v=> ∃a,v= .ref a/\Scr K H a ns
 | .exc C,v=> ∃x o vs,v= .ref x/\H x=some (.frz o (.own 0))/\o.cls= .ref C/\o.data= .fields vs
 | .fn a,v=>v= .ref a/\A6 K (.ref a)=true
def RelDs (K:G2)(H:Hp):G0 D->G0 V->Prop
 | [],vs=>vs= []
 |d::ds,vs=> ∃v r,vs=v::r/\RelD K H d v/\RelDs K H ds r
end
structure Kept (H H':Hp):Prop where
 tup: ∀a xs,H a=some (.tup xs)->H' a=some (.tup xs)
 lst: ∀a xs,H a=some (.lst xs)-> ∃ys,H' a=some (.lst ys)
 dic: ∀a x i,H a=some (.dK [(W0 x,V.int i)])->H' a=some (.dK [(W0 x,V.int i)])
 frz: ∀a o u,H a=some (.frz o u)->H' a=some (.frz o u)
theorem Kept.refl (H:Hp):Kept H H:=⟨λ_ _ h=>h,λ_ xs h=>⟨xs,h⟩,λ_ _ _ h=>h,λ_ _ _ h=>h⟩
theorem Kept.trans {A B C:Hp}(x:Kept A B)(y:Kept B C):Kept A C:=
 ⟨λa xs h=>y.tup a xs (x.tup a xs h),λa xs h=>let ⟨_,e⟩:=x.lst a xs h;y.lst a _ e,λa k i h=>y.dic a k i (x.dic a k i h),λa o u h=>y.frz a o u (x.frz a o u h)⟩
theorem Kept.new {H:Hp}{p:G7}{o:HO}(h:H p=none):Kept H (upd H p o):=
 ⟨λa xs e=>by rw [jg (jj e h)];exact e,λa xs e=>⟨xs,by rw [jg (jj e h)];exact e⟩,λa k i e=>by rw [jg (jj e h)];exact e,λa o u e=>by rw [jg (jj e h)];exact e⟩
theorem Kept.put {H:Hp}{p:G7}{xs ys:G0 V}(h:H p=some (.lst xs)):Kept H (upd H p (.lst ys)):=
 ⟨λa zs e=>by rw [jg (Xr e h (by intro z;cases z))];exact e,λa zs e=>by
  by_cases q:a=p
  ·subst q;exact⟨ys,ji⟩
  ·exact⟨zs,by rw [jg q];exact e⟩,
  λa k i e=>by rw [jg (Xr e h (by intro z;cases z))];exact e,λa o u e=>by rw [jg (Xr e h (by intro z;cases z))];exact e⟩
def DObj (o:HO):Prop:=(∃kvs:G0 (D1×V),o= .dK (kvs.map λp=>((f7 p.1:Key),p.2)))\/ ∃φ,o= .ext φ
theorem DObj.no {o:HO}(d:DObj o):(∀xs,o≠ .tup xs)/\(∀xs,o≠ .lst xs)/\(∀x i,o≠ .dK [(W0 x,V.int i)])/\(∀p u,o≠ .frz p u)/\ ∀ps,o≠ .tbl ps:=by
 rcases d with ⟨kvs,rfl⟩|⟨φ,rfl⟩
 ·refine⟨λ_ z=>(nomatch z),λ_ z=>(nomatch z),λx i z=> ?_,λ_ _ z=>(nomatch z),λ_ z=>(nomatch z)⟩;injection z with z
  cases kvs with
  |nil=>cases z
  |cons p r=>injection z with z _;injection z with z _;cases z
 ·exact⟨λ_ z=>(nomatch z),λ_ z=>(nomatch z),λ_ _ z=>(nomatch z),λ_ _ z=>(nomatch z),λ_ z=>(nomatch z)⟩
mutual
theorem RelD.mono {K:G2}{H H':Hp}(k:Kept H H'): ∀ {d:D} {v:V},RelD K H d v->RelD K H' d v
 | .non,_,h=>h
 | .bl _,_,h=>h
 | .int _,_,h=>h
 | .str _,_,h=>h
 | .tup ds,v,h=>by
  obtain⟨a,vs,e,h1,h2⟩:=(show ∃a vs,v= .ref a/\H a=some (.tup vs)/\RelDs K H ds vs from h);exact⟨a,vs,e,k.tup _ _ h1,RelDs.mono k h2⟩
 | .lst a,v,h=>by
  obtain⟨e,vs,h1⟩:=(show v= .ref a/\ ∃vs,H a=some (.lst vs) from h);exact⟨e,k.lst _ _ h1⟩
 | .dic x i,v,h=>by
  obtain⟨a,e,h1⟩:=(show ∃a,v= .ref a/\H a=some (.dK [(W0 x,V.int i)]) from h);exact⟨a,e,k.dic _ _ _ h1⟩
 | .dct a,v,h=>h
 | .scr ns,v,h=>by
  obtain⟨a,e,h1⟩:=(show ∃a,v= .ref a/\Scr K H a ns from h);exact⟨a,e,h1.elim (λ⟨o,z⟩=> .inl ⟨o,k.frz _ _ _ z⟩) .inr⟩
 | .exc C,v,h=>by
  obtain⟨x,o,vs,e,h1,r⟩:=(show ∃x o vs,v= .ref x/\H x=some (.frz o (.own 0))/\o.cls= .ref C/\o.data= .fields vs from h);exact⟨x,o,vs,e,k.frz _ _ _ h1,r⟩
 | .fn a,v,h=>h
theorem RelDs.mono {K:G2}{H H':Hp}(k:Kept H H'): ∀ {ds:G0 D} {vs:G0 V},RelDs K H ds vs->RelDs K H' ds vs
 | [],_,h=>h
 |d::ds,vs,h=>by
  obtain⟨v,r,e,h1,h2⟩:=(show ∃v r,vs=v::r/\RelD K H d v/\RelDs K H ds r from h);exact⟨v,r,e,RelD.mono k h1,RelDs.mono k h2⟩
end
section
variable {K:G2}{H:Hp}
theorem RelDs.nil:RelDs K H [] []:=rfl
theorem RelDs.cons {d:D}{v:V}{ds:G0 D}{vs:G0 V}(h:RelD K H d v)(t:RelDs K H ds vs):RelDs K H (d::ds) (v::vs):=⟨v,vs,rfl,h,t⟩
theorem RelDs.length: ∀ {ds:G0 D} {vs:G0 V},RelDs K H ds vs->ds.length=vs.length
 | [],_,h=>by cases (show _= [] from h);rfl
 |d::ds,vs,h=>by
  obtain⟨v,r,e,_,h2⟩:=(show ∃v r,vs=v::r/\RelD K H d v/\RelDs K H ds r from h);subst e;simp [RelDs.length h2]
theorem RelDs.append: ∀ {ds es:G0 D} {vs us:G0 V},RelDs K H ds vs->RelDs K H es us->RelDs K H (ds++es) (vs++us)
 | [],_,_,_,h,g=>by cases (show _= [] from h);exact g
 |d::ds,es,vs,us,h,g=>by
  obtain⟨v,r,e,h1,h2⟩:=(show ∃v r,vs=v::r/\RelD K H d v/\RelDs K H ds r from h);subst e;exact .cons h1 (RelDs.append h2 g)
theorem RelDs.get: ∀ {ds:G0 D} {vs:G0 V} {i:G9} {d:D},RelDs K H ds vs->ds[i]? =some d-> ∃v,vs[i]? =some v/\RelD K H d v
 |d'::ds,vs,i,d,h,e=>by
  obtain⟨v,r,q,h1,h2⟩:=(show ∃v r,vs=v::r/\RelD K H d' v/\RelDs K H ds r from h);subst q;cases i with
  |zero=>simp at e;subst e;exact⟨v,rfl,h1⟩
  |succ i=>
   obtain⟨u,q1,q2⟩:=RelDs.get h2 (i:=i) (d:=d) (by simpa using e);exact⟨u,by simpa using q1,q2⟩
theorem RelDs.take (n:G9): ∀ {ds:G0 D} {vs:G0 V},RelDs K H ds vs->RelDs K H (ds.take n) (vs.take n):=by
 induction n with
 |zero=>intro ds vs _;exact(rfl:RelDs K H [] [])
 |succ n ih=>
  intro ds vs h;cases ds with
  |nil=>cases (show vs= [] from h);exact .nil
  |cons d ds=>
   obtain⟨v,r,e,h1,h2⟩:=(show ∃v r,vs=v::r/\RelD K H d v/\RelDs K H ds r from h);subst e;exact .cons h1 (ih h2)
theorem RelDs.drop (n:G9): ∀ {ds:G0 D} {vs:G0 V},RelDs K H ds vs->RelDs K H (ds.drop n) (vs.drop n):=by
 induction n with
 |zero=>intro ds vs h;exact h
 |succ n ih=>
  intro ds vs h;cases ds with
  |nil=>cases (show vs= [] from h);exact .nil
  |cons d ds=>
   obtain⟨v,r,e,h1,h2⟩:=(show ∃v r,vs=v::r/\RelD K H d v/\RelDs K H ds r from h);subst e;exact ih h2
theorem RelDs.set {d:D}{v:V}(q:RelD K H d v): ∀ {ds:G0 D} {vs:G0 V} (i:G9),RelDs K H ds vs->RelDs K H (ds.set i d) (vs.set i v)
 | [],_,_,h=>by cases (show _= [] from h);exact .nil
 |e::ds,vs,i,h=>by
  obtain⟨u,r,z,h1,h2⟩:=(show ∃u r,vs=u::r/\RelD K H e u/\RelDs K H ds r from h);subst z;cases i with
  |zero=>exact .cons q h2
  |succ i=>exact .cons h1 (RelDs.set q i h2)
theorem yB: ∀ns:G0 D1,RelDs K H (ns.map D.int) (ns.map V.int)
 | []=> .nil
 |n::ns=> .cons rfl (yB ns)
end
inductive DC where
 |ik (kv:G0 (D1×D))
 |tk (ep:G9) (kv:G0 (G0 (G0 D1)×D))
structure HD where
 ls:G7->P2 (G0 D)
 dc:G7->P2 DC
instance:CoeFun HD λ_=>G7->P2 (G0 D):=⟨HD.ls⟩
def zB (h:HD)(a:G7)(ds:G0 D):HD:=⟨λb=>if b=a then some ds else h b,h.dc⟩
def jK (h:HD)(a:G7):HD:=⟨λb=>if b=a then none else h b,h.dc⟩
theorem jc {h:HD}{a:G7}{ds:G0 D}:zB h a ds a=some ds:=S8 rfl
theorem zV {h:HD}{a b:G7}{ds:G0 D}(e:b≠a):zB h a ds b=h b:=S7 e
theorem zC {h:HD}{a:G7}{ds:G0 D}(e:h a=none):jK (zB h a ds) a=h:=by
 obtain⟨l,d⟩:=h;refine congrArg (HD.mk · d) ?_
 funext b
 show (if b=a then none else if b=a then some ds else l b)=l b
 by_cases q:b=a
 ·subst q;rw [S8 rfl];exact e.symm
 ·rw [S7 q,S7 q]
def LN:G0 Str:= ["law","_law_right","_law_words","_law_other_words","_law_many_right","_law_all","_law_told_row","_law_all_right","_law_desk_right","_law_signs_right","_law_lists_right","_law_text_right"]
def TabK (K:G2)(P:G7):Prop:= ∃x∈LN,∃c,gM K x=some (c,P)
def CodesOk (H:Hp)(ps:T9 G1):Prop:=cY ps.toList/\ ∀pos cv,g6 pos ps.toList=some cv-> ∃ (c:G7) (o:Obj) (vs:T9 G1) (q:Str) (t:Tok),cv= .ref c/\H c=some (.frz o (.own 0))/\o.data= .fields vs/\vs[1]? =some (.str q t)
def CTabs (K:G2)(H:Hp):Prop:= ∀P,TabK K P-> ∃ps,H P=some (.tbl ps)/\CodesOk H ps
theorem CodesOk.mono {H H':Hp}{ps:T9 G1}(k: ∀a o u,H a=some (.frz o u)->H' a=some (.frz o u))(c:CodesOk H ps):CodesOk H' ps:=
 ⟨c.1,λpos cv e=>let ⟨c',o,vs,q,t,e1,e2,r⟩:=c.2 pos cv e;⟨c',o,vs,q,t,e1,k _ _ _ e2,r⟩⟩
theorem CTabs.mono {K:G2}{H H':Hp}(x:CTabs K H)(k: ∀a o u,H a=some (.frz o u)->H' a=some (.frz o u))(kt: ∀a ps,H a=some (.tbl ps)->H' a=some (.tbl ps)):CTabs K H':=λP hP=>
 let ⟨ps,e,c⟩:=x P hP;⟨ps,kt _ _ e,c.mono k⟩
theorem CTabs.new {K:G2}{H:Hp}{p:G7}{o:HO}(x:CTabs K H)(e:H p=none):CTabs K (upd H p o):=
 x.mono (λa o' u h=>by rw [jg (jj h e)];exact h) λa ps h=>by rw [jg (jj h e)];exact h
theorem CTabs.put {K:G2}{H:Hp}{p:G7}{o:HO}{xs:G0 V}(x:CTabs K H)(e:H p=some (.lst xs)):CTabs K (upd H p o):=
 x.mono (λa o' u h=>by rw [jg (Xr h e (by intro z;cases z))];exact h) λa ps h=>by rw [jg (Xr h e (by intro z;cases z))];exact h
def MR (T:G0 (G0 D1)):D1:=rE (fX (T.map λr=>rE (fX (r.map hashInt))))
def En (a:G7)(ep:G9)(xs:G0 (G0 (G0 D1)×G7×V)):HO:= .ext λh=>(a==sysModules)=false/\xs.length<=sizeLine/\ ∃ys:G0 (G0 (G0 D1)×G7×G1),Paired (λp q=>p.1=q.1/\p.2.1=q.2.1/\RelV p.2.2 q.2.2) xs ys/\
 ∃o es,h.get? a=some o/\o.ExactDict/\o.data= .dict es ep/\es.toList=ys.map λx=>⟨MR x.1,.ref x.2.1,x.2.2⟩
def DRel (K:G2)(H:Hp)(a:G7):DC->Prop
 | .ik kv=> ∃kvs:G0 (D1×V),H a=some (.dK (kvs.map λp=>((f7 p.1:Key),p.2)))/\kv.map (·.1)=kvs.map (·.1)/\RelDs K H (kv.map (·.2)) (kvs.map (·.2))
 | .tk ep kv=> ∃xs:G0 (G0 (G0 D1)×G7×V),H a=some (En a ep xs)/\(kv.map (·.1)).Nodup/\kv.map (·.1)=xs.map (·.1)/\(∀x∈xs,RelD K H (.tup (x.1.map λr=> .tup (r.map D.int))) (.ref x.2.1))/\RelDs K H (kv.map (·.2)) (xs.map (·.2.2))
theorem DRel.obj {K:G2}{H:Hp}{a:G7}: ∀ {c:DC},DRel K H a c-> ∃o,H a=some o/\DObj o
 | .ik _,⟨kvs,e,_⟩=>⟨_,e,.inl ⟨kvs,rfl⟩⟩
 | .tk _ _,⟨xs,e,_⟩=>⟨_,e,.inr ⟨_,rfl⟩⟩
theorem DRel.mono {K:G2}{H H':Hp}{a:G7}(k:Kept H H')(z: ∀o,H a=some o->H' a=some o): ∀ {c:DC},DRel K H a c->DRel K H' a c
 | .ik _,⟨kvs,e,q,r⟩=>⟨kvs,z _ e,q,r.mono k⟩
 | .tk _ _,⟨xs,e,n,q,t,r⟩=>⟨xs,z _ e,n,q,λx hx=>(t x hx).mono k,r.mono k⟩
structure RelH (K:G2)(h:HD)(H:Hp):Prop where
 ls: ∀a ds,h a=some ds-> ∃vs,H a=some (.lst vs)/\RelDs K H ds vs
 tb:CTabs K H
 dc: ∀a c,h.dc a=some c->DRel K H a c
instance {K:G2}{h:HD}{H:Hp}:CoeFun (RelH K h H) λ_=> ∀a ds,h a=some ds-> ∃vs,H a=some (.lst vs)/\RelDs K H ds vs:=⟨RelH.ls⟩
structure Sub (h h':HD):Prop where
 ls: ∀a ds,h a=some ds->h' a=some ds
 dc: ∀a c,h.dc a=some c->h'.dc a=some c
instance {h h':HD}:CoeFun (Sub h h') λ_=> ∀a ds,h a=some ds->h' a=some ds:=⟨Sub.ls⟩
theorem Sub.refl (h:HD):Sub h h:=⟨λ_ _ e=>e,λ_ _ e=>e⟩
theorem Sub.trans {a b c:HD}(x:Sub a b)(y:Sub b c):Sub a c:=⟨λd ds e=>y d ds (x d ds e),λd ds e=>y.dc d ds (x.dc d ds e)⟩
theorem Sub.drop (h:HD)(a:G7):Sub (jK h a) h:=⟨λb ds e=>by
 have e:(if b=a then none else h b)=some ds:=e;split at e
 ·cases e
 ·exact e,λ_ _ e=>e⟩
theorem Sub.new {h:HD}{p:G7}{ds:G0 D}(e:h p=none):Sub h (zB h p ds):=⟨λa es q=>(by
 rw [zV];exact q;intro z;subst z;rw [e] at q;cases q),λ_ _ e=>e⟩
section
variable {K:G2}{h h':HD}{H:Hp}
theorem RelH.sub (r:RelH K h H)(s:Sub h' h):RelH K h' H:=⟨λa ds e=>r a ds (s a ds e),r.tb,λa c e=>r.dc a c (s.dc a c e)⟩
theorem RelH.free (r:RelH K h H){p:G7}(e:H p=none):h p=none:=by
 cases q:h p with
 |none=>rfl
 |some ds=>obtain⟨vs,z,_⟩:=r p ds q;rw [e] at z;cases z
theorem RelH.dcN (r:RelH K h H){p:G7}{o:HO}(e:H p=none): ∀a c,h.dc a=some c->DRel K (upd H p o) a c:=λa c q=>
 (r.dc a c q).mono (.new e) λu z=>by rw [jg (jj z e)];exact z
theorem RelH.new (r:RelH K h H){p:G7}{o:HO}(e:H p=none):RelH K h (upd H p o):=⟨λa ds q=>by
 obtain⟨vs,z,w⟩:=r a ds q;exact⟨vs,by rw [jg (jj z e)];exact z,w.mono (.new e)⟩,r.tb.new e,r.dcN e⟩
theorem RelH.newL (r:RelH K h H){p:G7}{ds:G0 D}{vs:G0 V}(e:H p=none)(q:RelDs K H ds vs):RelH K (zB h p ds) (upd H p (.lst vs)):=⟨λa es z=>by
 by_cases w:a=p
 ·subst w;rw [jc] at z;cases z;exact⟨vs,ji,q.mono (.new e)⟩
 ·rw [zV w] at z;obtain⟨us,z1,z2⟩:=r a es z;exact⟨us,by rw [jg w];exact z1,z2.mono (.new e)⟩,r.tb.new e,r.dcN e⟩
theorem RelH.put (r:RelH K h H){p:G7}{ds:G0 D}{vs us:G0 V}(e:H p=some (.lst us))(q:RelDs K H ds vs):RelH K (zB h p ds) (upd H p (.lst vs)):=⟨λa es z=>by
 by_cases w:a=p
 ·subst w;rw [jc] at z;cases z;exact⟨vs,ji,q.mono (.put e)⟩
 ·rw [zV w] at z;obtain⟨us,z1,z2⟩:=r a es z;exact⟨us,by rw [jg w];exact z1,z2.mono (.put e)⟩,r.tb.put e,λa c z=>(r.dc a c z).mono (.put e) λo w=>by
   obtain⟨u,w',d⟩:=(r.dc a c z).obj;rw [jg (Xr w' e (d.no.2.1 _))];exact w⟩
end
abbrev SD:=G0 (P2 D)
def RelS (K:G2)(H:Hp)(tF:SD)(σ:St):Prop:=tF.length=σ.length/\ ∀ (i:G9) (d:D),tF[i]? =some (some d)-> ∃v,σ[i]? =some (some v)/\RelD K H d v
theorem RelS.mono {K:G2}{H H':Hp}{tF:SD}{σ:St}(r:RelS K H tF σ)(k:Kept H H'):RelS K H' tF σ:=⟨r.1,λi d e=>let ⟨v,a,b⟩:=r.2 i d e;⟨v,a,b.mono k⟩⟩
theorem RelS.set {K:G2}{H:Hp}{tF:SD}{σ:St}{d:D}{v:V}(r:RelS K H tF σ)(q:RelD K H d v)(i:G9):RelS K H (tF.set i (some d)) (σ.set i (some v)):=⟨by simp [r.1],λj e h=>by
 by_cases z:i=j
 ·subst z;rw [cO] at h ⊢
  by_cases hl:i<tF.length
  ·rw [S8 rfl,S8 hl] at h;rw [S8 rfl,S8 (by rw [<-r.1];exact hl)];cases h;exact⟨v,rfl,q⟩
  ·rw [S8 rfl,S7 hl] at h;cases h
 ·rw [A3 z] at h ⊢;exact r.2 j e h⟩
theorem RelS.clear1 {K:G2}{H:Hp}{tF:SD}{σ:St}(r:RelS K H tF σ)(i:G9):RelS K H (tF.set i none) (σ.set i none):=⟨by simp [r.1],λj e h=>by
 by_cases z:i=j
 ·subst z;rw [cO] at h;split at h
  ·split at h<;>cases h
  ·contradiction
 ·rw [A3 z] at h ⊢;exact r.2 j e h⟩
def jM:G0 G9->SD->SD
 | [],σ=>σ
 |j::js,σ=>jM js (σ.set j none)
theorem RelS.clear {K:G2}{H:Hp}: ∀ (js:G0 G9) {tF:SD} {σ:St},RelS K H tF σ->RelS K H (jM js tF) (zK js σ)
 | [],_,_,r=>r
 |j::js,_,_,r=>RelS.clear js (r.clear1 j)
abbrev KD:=D->HD->Prop
abbrev TED:=SD->HD->KD->Prop
abbrev TTD:=SD->HD->(M6->HD->Prop)->Prop
abbrev TAD:=SD->HD->(G0 D->HD->Prop)->Prop
abbrev RD2:=D->D->HD->KD->Prop
abbrev RDn:=G0 D->HD->KD->Prop
structure EndsD where
 nx:SD->HD->Prop
 rt:KD
 bk:SD->HD->Prop:=λ_ _=>False
 ct:SD->HD->Prop:=λ_ _=>False
abbrev TSD:=EndsD->SD->HD->Prop
abbrev TGD:=D->SD->HD->(SD->HD->Prop)->Prop
def RN (K:G2)(H:Hp)(Qd:KD)(Q:VK):Prop:= ∀d v h' H',Kept H H'->RelH K h' H'->RelD K H' d v->Qd d h'->Q v H'
def LE (K:G2)(t:TED):TE:=λσ H Q=> ∃tF h Qd,RelS K H tF σ/\RelH K h H/\t tF h Qd/\RN K H Qd Q
def LT (K:G2)(t:TTD):TT:=λσ H Q=> ∃tF h Qd,RelS K H tF σ/\RelH K h H/\t tF h Qd/\ ∀b h' H',Kept H H'->RelH K h' H'->Qd b h'->Q b H'
def LA (K:G2)(t:TAD):TA:=λσ H Q=> ∃tF h Qd,RelS K H tF σ/\RelH K h H/\t tF h Qd/\ ∀ds vs h' H',Kept H H'->RelH K h' H'->RelDs K H' ds vs->Qd ds h'->Q vs H'
def LR (K:G2)(f:RD2):R2:=λx y H Q=> ∃dx dy h Qd,RelD K H dx x/\RelD K H dy y/\RelH K h H/\f dx dy h Qd/\RN K H Qd Q
def LC (K:G2)(f:RDn):G0 V->Hp->VK->Prop:=λxs H Q=> ∃ds h Qd,RelDs K H ds xs/\RelH K h H/\f ds h Qd/\RN K H Qd Q
def LG (K:G2)(g:TGD):TG:=λv σ H Q=> ∃d tF h Qd,RelD K H d v/\RelS K H tF σ/\RelH K h H/\g d tF h Qd/\ ∀tL h' tE H',Kept H H'->RelS K H' tL tE->RelH K h' H'->Qd tL h'->Q tE H'
def LS (K:G2)(t:TSD):TS:=λtW σ H=> ∃tF h Dd,RelS K H tF σ/\RelH K h H/\t Dd tF h/\
 (∀tL h' tE H',Kept H H'->RelS K H' tL tE->RelH K h' H'->Dd.nx tL h'->tW.nx tE H')/\RN K H Dd.rt tW.rt/\
 (∀tL h' tE H',Kept H H'->RelS K H' tL tE->RelH K h' H'->Dd.bk tL h'->tW.bk tE H')/\(∀tL h' tE H',Kept H H'->RelS K H' tL tE->RelH K h' H'->Dd.ct tL h'->tW.ct tE H')
theorem PE.imp {X:Cx}{e:S5}{t t':TE}(h:PE X e t)(i: ∀σ H Q,t' σ H Q->t σ H Q):PE X e t':=λpins s σ H Q I q=>h pins s σ H Q I (i σ H Q q)
theorem PT.imp {X:Cx}{e:S5}{t t':TT}(h:PT X e t)(i: ∀σ H Q,t' σ H Q->t σ H Q):PT X e t':=λpins s σ H Q I q=>h pins s σ H Q I (i σ H Q q)
theorem PW.imp {X:Cx}{e:S5}{t t':TT}(h:PW X e t)(i: ∀σ H Q,t' σ H Q->t σ H Q):PW X e t':=λwh pins s σ H Q I q=>h wh pins s σ H Q I (i σ H Q q)
theorem PA.imp {X:Cx}{e:G0 S5}{t t':TA}(h:PA X e t)(i: ∀σ H Q,t' σ H Q->t σ H Q):PA X e t':=λpos pins s σ H Q I q=>h pos pins s σ H Q I (i σ H Q q)
theorem PS.imp {X:Cx}{e:F9}{t t':TS}(h:PS X e t)(i: ∀D σ H,t' D σ H->t D σ H):PS X e t':=λpins s σ H D I q=>h pins s σ H D I (i D σ H q)
theorem PSs.imp {X:Cx}{e:G0 F9}{t t':TS}(h:PSs X e t)(i: ∀D σ H,t' D σ H->t D σ H):PSs X e t':=λpins s σ H D I q=>h pins s σ H D I (i D σ H q)
theorem PG.imp {X:Cx}{e:S5}{t t':TG}(h:PG X e t)(i: ∀v σ H Q,t' v σ H Q->t v σ H Q):PG X e t':=λpins s σ H v u Q I r q=>h pins s σ H v u Q I r (i v σ H Q q)
theorem OpR.imp {X:Cx}{f:G1->G1->Sem G1}{r r':R2}(h:OpR X f r)(i: ∀x y H Q,r' x y H Q->r x y H Q):OpR X f r':=λpins s σ H x y v u Q I a b q=>h pins s σ H x y v u Q I a b (i x y H Q q)
theorem CallR.imp {X:Cx}{f:G1}{r r':G0 V->Hp->VK->Prop}(h:CallR X f r)(i: ∀xs H Q,r' xs H Q->r xs H Q):CallR X f r':=λpins s σ H xs us Q I a q=>h pins s σ H xs us Q I a (i xs H Q q)
def Xz (i:G9):TED:=λσ h Q=> ∃d,σ[i]? =some (some d)/\Q d h
def dC (d:D):TED:=λ_ h Q=>Q d h
def dOp (f:RD2)(ta tb:TED):TED:=λσ h Q=>ta σ h λx h1=>tb σ h1 λy h2=>f x y h2 Q
def Zl:TAD:=λ_ h Q=>Q [] h
def jZ (ta:TED)(tr:TAD):TAD:=λσ h Q=>ta σ h λx h1=>tr σ h1 λxs h2=>Q (x::xs) h2
def By (t:TAD):TED:=λσ h Q=>t σ h λds h1=>ds.length<=sizeLine/\Q (.tup ds) h1
def MS (t:TAD):TED:=λσ h Q=>t σ h λds h1=>ds.length<=sizeLine/\ ∀p,h1 p=none->Q (.lst p) (zB h1 p ds)
def dCB (r:RDn)(t:TAD):TED:=λσ h Q=>t σ h λds h1=>r ds h1 Q
def Jz (t:TED):TTD:=λσ h Q=>t σ h λx h1=> ∃k,x= .bl k/\Q k h1
def Zm (r r':RD2)(ta tb tc:TED):TED:=λσ h Q=>ta σ h λx h1=>tb σ h1 λy h2=>r x y h2 λz h3=> ∃k,z= .bl k/\
 (if k=true then tc σ h3 λw h4=>r' y w h4 Q else Q (.bl false) h3)
def MT (t u:TTD):TTD:=λσ h Q=>t σ h λc h1=>if c=true then u σ h1 Q else Q false h1
def Cy (t u:TTD):TTD:=λσ h Q=>t σ h λc h1=>if c=true then Q true h1 else u σ h1 Q
def QR (t:TTD):TTD:=λσ h Q=>t σ h λc h1=>Q (!c) h1
def QU (ta tb:TED):TED:=λσ h Q=>ta σ h λx h1=> ∃c,x= .bl c/\if c=true then tb σ h1 Q else Q (.bl false) h1
def Op (ta tb:TED):TED:=λσ h Q=>ta σ h λx h1=> ∃c,x= .bl c/\if c=true then Q (.bl true) h1 else tb σ h1 Q
def QV (ta:TED):TED:=λσ h Q=>ta σ h λx h1=> ∃c,x= .bl c/\Q (.bl (!c)) h1
def dIf (t:TTD)(ta tb:TED):TED:=λσ h Q=>t σ h λc h1=>if c=true then ta σ h1 Q else tb σ h1 Q
section
variable {K:G2}
theorem Cz (i:G9): ∀σ H Q,LE K (Xz i) σ H Q->As i σ H Q:=λσ H Q ⟨tF,h,Qd,rs,rh,⟨d,e,q⟩,p⟩=>let ⟨v,e1,e2⟩:=rs.2 i d e;⟨v,e1,p d v h H (.refl H) rh e2 q⟩
theorem CA {d:D}{v:V}(r: ∀H,RelD K H d v): ∀σ H Q,LE K (dC d) σ H Q->tC v σ H Q:=λσ H Q ⟨tF,h,Qd,rs,rh,q,p⟩=>p d v h H (.refl H) rh (r H) q
variable {H:Hp}
theorem jy {H1:Hp}{Qd:KD}{Q:VK}(p:RN K H Qd Q)(k:Kept H H1):RN K H1 Qd Q:=λd v h' H' k'=>p d v h' H' (k.trans k')
variable {ta:TED}
theorem LE.bind {σ:St}{tF:SD}{h:HD}{kd:KD}{k:VK}(rs:RelS K H tF σ)(rh:RelH K h H)(t:ta tF h kd)(f: ∀d v h' H',Kept H H'->RelS K H' tF σ->RelH K h' H'->RelD K H' d v->kd d h'->k v H'):LE K ta σ H k:=
 ⟨tF,h,kd,rs,rh,t,λd v h' H' kp r1 r2 q=>f d v h' H' kp (rs.mono kp) r1 r2 q⟩
theorem LT.bind {ta:TTD}{σ:St}{tF:SD}{h:HD}{kd:M6->HD->Prop}{k:M6->Hp->Prop}(rs:RelS K H tF σ)(rh:RelH K h H)(t:ta tF h kd)(f: ∀b h' H',Kept H H'->RelS K H' tF σ->RelH K h' H'->kd b h'->k b H'):LT K ta σ H k:=
 ⟨tF,h,kd,rs,rh,t,λb h' H' kp r1 q=>f b h' H' kp (rs.mono kp) r1 q⟩
theorem LA.bind {ta:TAD}{σ:St}{tF:SD}{h:HD}{kd:G0 D->HD->Prop}{k:G0 V->Hp->Prop}(rs:RelS K H tF σ)(rh:RelH K h H)(t:ta tF h kd)(f: ∀ds vs h' H',Kept H H'->RelS K H' tF σ->RelH K h' H'->RelDs K H' ds vs->kd ds h'->k vs H'):LA K ta σ H k:=
 ⟨tF,h,kd,rs,rh,t,λd v h' H' kp r1 r2 q=>f d v h' H' kp (rs.mono kp) r1 r2 q⟩
variable {tb:TED}
theorem MU {f:RD2}: ∀σ H Q,LE K (dOp f ta tb) σ H Q->tOp (LR K f) (LE K ta) (LE K tb) σ H Q:=λσ H Q ⟨tF,h,Qd,rs,rh,t,p⟩=>
 LE.bind rs rh t λd v h1 H1 k1 rs1 rh1 r1 t1=>LE.bind rs1 rh1 t1 λd2 v2 h2 H2 k2 rs2 rh2 r2 t2=>⟨d,d2,h2,Qd,r1.mono k2,r2,rh2,t2,jy p (k1.trans k2)⟩
theorem CB: ∀σ H Q,LA K Zl σ H Q->Od σ H Q:=λσ H Q ⟨tF,h,Qd,rs,rh,t,p⟩=>p [] [] h H (.refl H) rh rfl t
theorem MV {tr:TAD}: ∀σ H Q,LA K (jZ ta tr) σ H Q->Dh (LE K ta) (LA K tr) σ H Q:=λσ H Q ⟨tF,h,Qd,rs,rh,t,p⟩=>
 LE.bind rs rh t λd v h1 H1 k1 rs1 rh1 r1 t1=>LA.bind rs1 rh1 t1 λds vs h2 H2 k2 rs2 rh2 r2 t2=>p _ _ h2 H2 (k1.trans k2) rh2 (.cons (r1.mono k2) r2) t2
theorem CC {t:TAD}: ∀σ H Q,LE K (By t) σ H Q->AG (LA K t) σ H Q:=λσ H Q ⟨tF,h,Qd,rs,rh,t,p⟩=>
 LA.bind rs rh t λds vs h1 H1 k1 rs1 rh1 r1 ⟨z,q⟩=>⟨by rw [<-r1.length];exact z,λa ha=>p (.tup ds) (.ref a) h1 _ (k1.trans (.new ha)) (rh1.new ha) ⟨a,vs,rfl,ji,r1.mono (.new ha)⟩ q⟩
theorem CF {t:TAD}: ∀σ H Q,LE K (MS t) σ H Q->AH (LA K t) σ H Q:=λσ H Q ⟨tF,h,Qd,rs,rh,t,p⟩=>
 LA.bind rs rh t λds vs h1 H1 k1 rs1 rh1 r1 ⟨z,q⟩=>⟨by rw [<-r1.length];exact z,λa ha=>p (.lst a) (.ref a) _ _ (k1.trans (.new ha)) (rh1.newL ha r1) ⟨rfl,vs,ji⟩ (q a (rh1.free ha))⟩
theorem CG {r:RDn}{t:TAD}: ∀σ H Q,LE K (dCB r t) σ H Q->tCB (LC K r) (LA K t) σ H Q:=λσ H Q ⟨tF,h,Qd,rs,rh,t,p⟩=>
 LA.bind rs rh t λds vs h1 H1 k1 rs1 rh1 r1 q=>⟨ds,h1,Qd,r1,rh1,q,jy p k1⟩
theorem QX {t:TED}: ∀σ H Q,LT K (Jz t) σ H Q->Mt (LE K t) σ H Q:=λσ H Q ⟨tF,h,Qd,rs,rh,t,p⟩=>
 LE.bind rs rh t λd v h1 H1 k1 rs1 rh1 r1 ⟨k,e,q⟩=>by subst e;exact⟨k,r1,p k h1 H1 k1 rh1 q⟩
theorem Dr {t:TED}: ∀σ H Q,LT K (Jz t) σ H Q->tB (LE K t) σ H Q:=λσ H Q ⟨tF,h,Qd,rs,rh,t,p⟩=>
 LE.bind rs rh t λd v h1 H1 k1 rs1 rh1 r1 ⟨k,e,q⟩=>by subst e;exact⟨k,r1,p k h1 H1 k1 rh1 q⟩
theorem UH {r r':RD2}{tc:TED}: ∀σ H Q,LE K (Zm r r' ta tb tc) σ H Q->Qw (LR K r) (LR K r') (LE K ta) (LE K tb) (LE K tc) σ H Q:=λσ H Q ⟨tF,h,Qd,rs,rh,t,p⟩=>
 LE.bind rs rh t λd v h1 H1 k1 rs1 rh1 r1 t1=>LE.bind rs1 rh1 t1 λd2 v2 h2 H2 k2 rs2 rh2 r2 t2=>⟨d,d2,h2,_,r1.mono k2,r2,rh2,t2,λd3 v3 h3 H3 k3 rh3 r3 ⟨k,e,q⟩=>by
  subst e;refine⟨k,r3,?_⟩;cases k with
  |true=>
   rw [S8 rfl] at q ⊢;exact LE.bind (rs2.mono k3) rh3 q λd4 v4 h4 H4 k4 rs4 rh4 r4 t4=>⟨d2,d4,h4,Qd,(r2.mono k3).mono k4,r4,rh4,t4,jy p (k1.trans (k2.trans (k3.trans k4)))⟩
  |false=>
   rw [S7 R0] at q ⊢;exact p (.bl false) _ h3 H3 (k1.trans (k2.trans k3)) rh3 rfl q⟩
variable {t:TTD}
theorem CH {u:TTD}: ∀σ H Q,LT K (MT t u) σ H Q->At (LT K t) (LT K u) σ H Q:=λσ H Q ⟨tF,h,Qd,rs,rh,t,p⟩=>
 LT.bind rs rh t λb h1 H1 k1 rs1 rh1 q=>by
  cases b with
  |true=>rw [S8 rfl] at q ⊢;exact⟨tF,h1,Qd,rs1,rh1,q,λb h' H' k=>p b h' H' (k1.trans k)⟩
  |false=>rw [S7 R0] at q ⊢;exact p _ _ _ k1 rh1 q
theorem Oq {u:TTD}: ∀σ H Q,LT K (Cy t u) σ H Q->tOr (LT K t) (LT K u) σ H Q:=λσ H Q ⟨tF,h,Qd,rs,rh,t,p⟩=>
 LT.bind rs rh t λb h1 H1 k1 rs1 rh1 q=>by
  cases b with
  |true=>rw [S8 rfl] at q ⊢;exact p _ _ _ k1 rh1 q
  |false=>rw [S7 R0] at q ⊢;exact⟨tF,h1,Qd,rs1,rh1,q,λb h' H' k=>p b h' H' (k1.trans k)⟩
theorem CI: ∀σ H Q,LT K (QR t) σ H Q->Au (LT K t) σ H Q:=λσ H Q ⟨tF,h,Qd,rs,rh,t,p⟩=>
 LT.bind rs rh t λb h1 H1 k1 rs1 rh1 q=>p _ _ _ k1 rh1 q
theorem CJ: ∀σ H Q,LE K (QU ta tb) σ H Q->BO (LE K ta) (LE K tb) σ H Q:=λσ H Q ⟨tF,h,Qd,rs,rh,t,p⟩=>
 LE.bind rs rh t λd v h1 H1 k1 rs1 rh1 r1 ⟨c,e,q⟩=>by
  subst e;refine⟨c,r1,?_⟩;cases c with
  |true=>rw [S8 rfl] at q ⊢;exact⟨tF,h1,Qd,rs1,rh1,q,jy p k1⟩
  |false=>rw [S7 R0] at q ⊢;exact p (.bl false) _ _ _ k1 rh1 rfl q
theorem Os: ∀σ H Q,LE K (Op ta tb) σ H Q->Av (LE K ta) (LE K tb) σ H Q:=λσ H Q ⟨tF,h,Qd,rs,rh,t,p⟩=>
 LE.bind rs rh t λd v h1 H1 k1 rs1 rh1 r1 ⟨c,e,q⟩=>by
  subst e;refine⟨c,r1,?_⟩;cases c with
  |true=>rw [S8 rfl] at q ⊢;exact p (.bl true) _ _ _ k1 rh1 rfl q
  |false=>rw [S7 R0] at q ⊢;exact⟨tF,h1,Qd,rs1,rh1,q,jy p k1⟩
theorem CK: ∀σ H Q,LE K (QV ta) σ H Q->BP (LE K ta) σ H Q:=λσ H Q ⟨tF,h,Qd,rs,rh,t,p⟩=>
 LE.bind rs rh t λd v h1 H1 k1 rs1 rh1 r1 ⟨c,e,q⟩=>by subst e;exact⟨c,r1,p (.bl (!c)) _ _ _ k1 rh1 rfl q⟩
theorem Ot: ∀σ H Q,LE K (dIf t ta tb) σ H Q->tIf (LT K t) (LE K ta) (LE K tb) σ H Q:=λσ H Q ⟨tF,h,Qd,rs,rh,t,p⟩=>
 LT.bind rs rh t λb h1 H1 k1 rs1 rh1 q=>by
  cases b with
  |true=>rw [S8 rfl] at q ⊢;exact⟨tF,h1,Qd,rs1,rh1,q,jy p k1⟩
  |false=>rw [S7 R0] at q ⊢;exact⟨tF,h1,Qd,rs1,rh1,q,jy p k1⟩
end
abbrev QE (X:Cx)(e:S5)(t:TED):Prop:=PE X e (LE X.K t)
abbrev QT (X:Cx)(e:S5)(t:TTD):Prop:=PT X e (LT X.K t)
abbrev QW (X:Cx)(e:S5)(t:TTD):Prop:=PW X e (LT X.K t)
abbrev QA (X:Cx)(es:G0 S5)(t:TAD):Prop:=PA X es (LA X.K t)
abbrev QS (X:Cx)(s:F9)(t:TSD):Prop:=PS X s (LS X.K t)
abbrev QSs (X:Cx)(s:G0 F9)(t:TSD):Prop:=PSs X s (LS X.K t)
abbrev QG (X:Cx)(e:S5)(t:TGD):Prop:=PG X e (LG X.K t)
abbrev OpQ (X:Cx)(f:G1->G1->Sem G1)(r:RD2):Prop:=OpR X f (LR X.K r)
abbrev wX (X:Cx)(f:G1)(r:RDn):Prop:=CallR X f (LC X.K r)
section
variable {X:Cx}{a b c e:S5}{es rest:G0 S5}{ta tb tc te:TED}{t u:TAD}{tt tu:TTD}{pos:Pos}{f r r':RD2}
theorem qv (i:G9){x:Str}(hN:X.N[i]? =some x:=by rfl)(hv:Vis X.env.scope x:=by first|exact K8 rfl|exact aF (K8 rfl)|exact aF (aF rfl))(hd:(x==("__debug__" :Str))=false:=by decide)
 (hcd:(x==("__classdict__" :Str))=false:=by decide):QE X (.Name x pos) (Xz i):=(BJ hN hv hd hcd).imp (Cz i)
variable {j:G9}
theorem AM {i:D1}:QE X (.Constant (.int i) j pos) (dC (.int i)):=pe_int.imp (CA λ_=>rfl)
theorem qbl {i:M6}:QE X (.Constant (.bool i) j pos) (dC (.bl i)):=pe_bl.imp (CA λ_=>rfl)
theorem Eo:QE X (.Constant .none j pos) (dC .non):=pe_non.imp (CA λ_=>rfl)
theorem Ep {x:Str}:QE X (.Constant (.str x) j pos) (dC (.str x)):=pe_str.imp (CA λ_=>rfl)
theorem Ou {x:Str}{i:D1}{tk:Tok}(hg:Gl X x)(hm:X.mg x=some (.int i tk))(hd:(x==("__debug__" :Str))=false:=by decide):QE X (.Name x pos) (dC (.int i)):=
 (Ql (v:= .int i) hg hm ⟨tk,rfl⟩ hd).imp (CA λ_=>rfl)
theorem qop {op:qI}(ho:OpQ X (J5 op) f)(ha:QE X a ta)(hb:QE X b tb):QE X (.BinOp a op b pos) (dOp f ta tb):=(LX ho ha hb).imp MU
theorem Eq {op:gB}(ho:OpQ X (M7 op) f)(ha:QE X a ta)(hb:QE X b tb)(hm:Q3 op b=false):QE X (.Compare a [op] [b] pos) (dOp f ta tb):=(Ms ho ha hb hm).imp MU
theorem Ov {op:gB}(ho:OpQ X (M7 op) f)(ha:QE X a ta)(hb:QE X b tb)(hm:Q3 op b=false):QT X (.Compare a [op] [b] pos) (Jz (dOp f ta tb)):=
 (Mu ho ha hb hm).imp λσ H Q h=>by
  obtain⟨tF,h,Qd,rs,rh,t,p⟩:=QX (t:=dOp f ta tb) σ H Q h;exact MU σ H _ ⟨tF,h,Qd,rs,rh,t,p⟩
theorem CL {op op':gB}(ho:OpQ X (M7 op) r)(ho':OpQ X (M7 op') r')(ha:QE X a ta)(hb:QE X b tb)(hc:QE X c tc)(hm:gV [op,op'] [b,c]=false:=by with_unfolding_all rfl):
 QE X (.Compare a [op,op'] [b,c] pos) (Zm r r' ta tb tc):=(De ho ho' ha hb hc hm).imp UH
theorem MW {op op':gB}(ho:OpQ X (M7 op) r)(ho':OpQ X (M7 op') r')(ha:QE X a ta)(hb:QE X b tb)(hc:QE X c tc)(hm:gV [op,op'] [b,c]=false:=by with_unfolding_all rfl):
 QT X (.Compare a [op,op'] [b,c] pos) (Jz (Zm r r' ta tb tc)):=(Df ho ho' ha hb hc hm).imp λσ H Q h=>by
 obtain⟨tF,h,Qd,rs,rh,t,p⟩:=QX (t:=Zm r r' ta tb tc) σ H Q h;exact UH σ H _ ⟨tF,h,Qd,rs,rh,t,p⟩
theorem Ow (ha:QE X a ta)(he: ∀whole,isTrue a X.env whole=(do let v <-whole;hU a.pos;bF [v] (sH v)):=by intro _;rfl):QT X a (Jz ta):=(BK ha he).imp Dr
theorem Ox (ha:QT X a tt):QW X (.BoolOp .And [a] pos) tt:=Mk ha
theorem Er (ha:QT X a tt):QW X (.BoolOp .Or [a] pos) tt:=BL ha
theorem Oy (ha:QT X a tt)(hb:QW X (.BoolOp .And (b::rest) pos) tu):QW X (.BoolOp .And (a::b::rest) pos) (MT tt tu):=(BM ha hb).imp CH
theorem Es (ha:QT X a tt)(hb:QW X (.BoolOp .Or (b::rest) pos) tu):QW X (.BoolOp .Or (a::b::rest) pos) (Cy tt tu):=(LL ha hb).imp Oq
theorem Oz (ha:QT X a tt):QT X (.UnaryOp .Not a pos) (QR tt):=(BN ha).imp CI
theorem Et {op:BoolOp}(ha:QE X a ta):QE X (.BoolOp op [a] pos) ta:=BQ ha
theorem Eu (ha:QE X a ta)(hb:QE X (.BoolOp .And (b::rest) pos) tb):QE X (.BoolOp .And (a::b::rest) pos) (QU ta tb):=(BR ha hb).imp CJ
theorem qor (ha:QE X a ta)(hb:QE X (.BoolOp .Or (b::rest) pos) tb):QE X (.BoolOp .Or (a::b::rest) pos) (Op ta tb):=(LM ha hb).imp Os
theorem Ev (ha:QE X a ta):QE X (.UnaryOp .Not a pos) (QV ta):=(BS ha).imp CK
theorem qif {c:S5}(hc:QT X c tt)(ha:QE X a ta)(hb:QE X b tb):QE X (.IfExp c a b pos) (dIf tt ta tb):=(Db hc ha hb).imp Ot
theorem CM:QA X [] Zl:=pa_nil.imp CB
theorem MX (ha:QE X e te)(hr:QA X es t)(hs:D2 (e::es) X.env=(false,O4 e X.env)::D2 es X.env:=by rfl):QA X (e::es) (jZ te t):=(wn ha hr hs).imp MV
theorem Ew {k:G9}(h:QA X es t):QE X (.Tuple es k pos) (By t):=(Cj h).imp CC
theorem Ey (h:QA X es t):QE X (.List es pos) (MS t):=(Ck h).imp CF
end
def VQ:TSD:=λD σ h=>D.nx σ h
def wE (t u:TSD):TSD:=λD σ h=>t {D with nx:=u D} σ h
def MY (te:TED):TSD:=λD σ h=>te σ h λ_ h1=>D.nx σ h1
def UI (te:TED):TSD:=λD σ h=>te σ h D.rt
def MZ (c:TTD)(t u:TSD):TSD:=λD σ h=>c σ h λb h1=>if b=true then t D σ h1 else u D σ h1
def QY (i:G9)(te:TED):TSD:=λD σ h=>te σ h λd h1=>D.nx (σ.set i (some d)) h1
def OA (te:TED)(g:TGD):TSD:=λD σ h=>te σ h λx h1=>g x σ h1 D.nx
def OB (i j:G9)(ta:TAD):TSD:=λD σ h=>ta σ h λds h1=> ∃v w,ds= [v,w]/\D.nx ((σ.set i (some v)).set j (some w)) h1
def gN (i:G9):TGD:=λd σ h Q=>Q (σ.set i (some d)) h
def gT2 (i j:G9):TGD:=λd σ h Q=> ∃x y,d= .tup [x,y]/\Q ((σ.set i (some x)).set j (some y)) h
section
variable {K:G2}
theorem LS.of {t:TSD}{tW:Ends}{σ:St}{H:Hp}{tF:SD}{h:HD}{Dd:EndsD}(rs:RelS K H tF σ)(rh:RelH K h H)(q:t Dd tF h)
 (nx: ∀tL h' tE H',Kept H H'->RelS K H' tL tE->RelH K h' H'->Dd.nx tL h'->tW.nx tE H')(rt:RN K H Dd.rt tW.rt)
 (bk: ∀tL h' tE H',Kept H H'->RelS K H' tL tE->RelH K h' H'->Dd.bk tL h'->tW.bk tE H')(ct: ∀tL h' tE H',Kept H H'->RelS K H' tL tE->RelH K h' H'->Dd.ct tL h'->tW.ct tE H'):LS K t tW σ H:=⟨tF,h,Dd,rs,rh,q,nx,rt,bk,ct⟩
theorem Na: ∀D σ H,LS K VQ D σ H->BT D σ H:=λD σ H ⟨tF,h,Dd,rs,rh,q,nx,_⟩=>nx tF h σ H (.refl H) rs rh q
theorem CO {t u:TSD}: ∀D σ H,LS K (wE t u) D σ H->Aw (LS K t) (LS K u) D σ H:=λD σ H ⟨tF,h,Dd,rs,rh,q,nx,rt,bk,ct⟩=>
 LS.of rs rh q (λtL h' tE H' k rs' rh' q'=>⟨tL,h',Dd,rs',rh',q',λa b c d k'=>nx a b c d (k.trans k'),jy rt k,λa b c d k'=>bk a b c d (k.trans k'),λa b c d k'=>ct a b c d (k.trans k')⟩) rt bk ct
variable {te:TED}
theorem Nb: ∀D σ H,LS K (MY te) D σ H->BU (LE K te) D σ H:=λD σ H ⟨tF,h,Dd,rs,rh,q,nx,rt,bk,ct⟩=>
 LE.bind rs rh q λd v h1 H1 k1 rs1 rh1 r1 q1=>nx _ _ _ _ k1 rs1 rh1 q1
theorem CP: ∀D σ H,LS K (UI te) D σ H->Ax (LE K te) D σ H:=λD σ H ⟨tF,h,Dd,rs,rh,q,nx,rt,bk,ct⟩=>⟨tF,h,Dd.rt,rs,rh,q,rt⟩
theorem OC {c:TTD}{t u:TSD}: ∀D σ H,LS K (MZ c t u) D σ H->Ay (LT K c) (LS K t) (LS K u) D σ H:=λD σ H ⟨tF,h,Dd,rs,rh,q,nx,rt,bk,ct⟩=>
 LT.bind rs rh q λb h1 H1 k rs1 rh1 q1=>by
  cases b with
  |true=>rw [S8 rfl] at q1 ⊢;exact⟨tF,h1,Dd,rs1,rh1,q1,λa b c d k'=>nx a b c d (k.trans k'),jy rt k,λa b c d k'=>bk a b c d (k.trans k'),λa b c d k'=>ct a b c d (k.trans k')⟩
  |false=>rw [S7 R0] at q1 ⊢;exact⟨tF,h1,Dd,rs1,rh1,q1,λa b c d k'=>nx a b c d (k.trans k'),jy rt k,λa b c d k'=>bk a b c d (k.trans k'),λa b c d k'=>ct a b c d (k.trans k')⟩
theorem RO {i:G9}: ∀D σ H,LS K (QY i te) D σ H->Mn (LE K te) (yH i) D σ H:=λD σ H ⟨tF,h,Dd,rs,rh,q,nx,rt,bk,ct⟩=>
 LE.bind rs rh q λd v h1 H1 k1 rs1 rh1 r1 q1=>nx _ _ _ _ k1 (rs1.set r1 i) rh1 q1
theorem CQ {g:TGD}: ∀D σ H,LS K (OA te g) D σ H->Mn (LE K te) (LG K g) D σ H:=λD σ H ⟨tF,h,Dd,rs,rh,q,nx,rt,bk,ct⟩=>
 LE.bind rs rh q λd v h1 H1 k1 rs1 rh1 r1 q1=>⟨d,tF,h1,_,r1,rs1,rh1,q1,λa b c e k'=>nx a b c e (k1.trans k')⟩
theorem CT {i j:G9}{ta:TAD}: ∀D σ H,LS K (OB i j ta) D σ H->AA i j (LA K ta) D σ H:=λD σ H ⟨tF,h,Dd,rs,rh,q,nx,rt,bk,ct⟩=>
 LA.bind rs rh q λds vs h1 H1 k1 rs1 rh1 r1 ⟨x,y,e,q1⟩=>by
  subst e;obtain⟨v,r,e,r2,r3⟩:=(show ∃v r,vs=v::r/\RelD K H1 x v/\RelDs K H1 [y] r from r1);obtain⟨w,r',e',r4,r5⟩:=(show ∃v r',r=v::r'/\RelD K H1 y v/\RelDs K H1 [] r' from r3);cases (show r'= [] from r5);subst e' e;exact⟨v,w,rfl,nx _ _ _ _ k1 ((rs1.set r2 i).set r4 j) rh1 q1⟩
theorem Nc (i:G9): ∀v σ H Q,LG K (gN i) v σ H Q->yH i v σ H Q:=λv σ H Q ⟨d,tF,h,Qd,r,rs,rh,q,p⟩=>p _ _ _ _ (.refl H) (rs.set r i) rh q
theorem wx {H:Hp}{x y:D}{vs:G0 V}(r:RelDs K H [x,y] vs): ∃v w,vs= [v,w]/\RelD K H x v/\RelD K H y w:=by
 obtain⟨v,r1,e,r2,r3⟩:=(show ∃v r,vs=v::r/\RelD K H x v/\RelDs K H [y] r from r);obtain⟨w,z,e',r4,r5⟩:=(show ∃v z,r1=v::z/\RelD K H y v/\RelDs K H [] z from r3);cases (show z= [] from r5);subst e' e;exact⟨v,w,rfl,r2,r4⟩
theorem ju {H:Hp}{x:D}{vs:G0 V}(r:RelDs K H [x] vs): ∃v,vs= [v]/\RelD K H x v:=by
 obtain⟨v,r1,e,r2,r3⟩:=(show ∃v r,vs=v::r/\RelD K H x v/\RelDs K H [] r from r);cases (show r1= [] from r3);exact⟨v,e,r2⟩
theorem CV (i j:G9): ∀v σ H Q,LG K (gT2 i j) v σ H Q->LV K 2 (Qn (yH i) (Qn (yH j) LU)) v σ H Q:=λv σ H Q ⟨d,tF,h,Qd,r,rs,rh,⟨x,y,e,q⟩,p⟩=>by
 subst e;obtain⟨a,vs,e,hH,r1⟩:=(show ∃a vs,v= .ref a/\H a=some (.tup vs)/\RelDs K H [x,y] vs from r);obtain⟨v1,v2,e1,r2,r3⟩:=wx r1;subst e e1;exact⟨a,[v1,v2],rfl,SqT.of hH,rfl,v1,[v2],rfl,v2,[],rfl,rfl,p _ _ _ _ (.refl H) ((rs.set r2 i).set r3 j) rh q⟩
end
section
variable {X:Cx}{st:F9}{sts:G0 F9}{t u:TSD}{e:S5}{te:TED}{pos:Pos}
theorem CY:QSs X [] VQ:=pss_nil.imp Na
theorem Nd (h1:QS X st t)(h2:QSs X sts u):QSs X (st::sts) (wE t u):=(Dc h1 h2).imp CO
theorem CZ (h1:QS X st t):QSs X [st] t:=Ml h1
theorem OD (he:QE X e te)(hs:Y0 e none pos.line X.env=pure false:=by rfl):QS X (.Expr e pos) (MY te):=(Mm he hs).imp Nb
theorem Ez (he:QE X e te):QS X (.Return (some e) pos) (UI te):=(BV he).imp CP
theorem EA {c:S5}{a b:G0 F9}{tc:TTD}(hc:QT X c tc)(ha:QSs X a t)(hb:QSs X b u):QS X (.If c a b pos) (MZ tc t u):=(LP hc ha hb).imp OC
variable {i:G9}{x:Str}
theorem EB {pos':Pos}(hN:X.N.Nodup)(hi:X.N[i]? =some x)(hx:Loc X.env.scope x)(he:QE X e te)(hs:Y0 e (some (.Name x pos')) pos.line X.env=pure false:=by rfl)
 (hf:X.fn x=true\/X.env.scope.names.lookup x=some .local:=by first|exact .inl rfl|exact .inr rfl|assumption):QS X (.Assign [.Name x pos'] e pos) (QY i te):=(BY hN hi hx he hs hf).imp RO
theorem Nf (hN:X.N.Nodup)(hi:X.N[i]? =some x)(hx:Loc X.env.scope x)(hf:X.fn x=true\/X.env.scope.names.lookup x=some .local:=by first|exact .inl rfl|exact .inr rfl|assumption):QG X (.Name x pos) (gN i):=
 (vT hN hi hx hf).imp (Nc i)
theorem Fa {j:G9}{y:Str}{p1 p2:Pos}{k:G9}(hc:X.calm=true)(hN:X.N.Nodup)(hi:X.N[i]? =some x)(hj:X.N[j]? =some y)(hx:Loc X.env.scope x)(hy:Loc X.env.scope y)
 (hf:X.fn x=true\/X.env.scope.names.lookup x=some .local:=by first|exact .inl rfl|exact .inr rfl|assumption)(hf2:X.fn y=true\/X.env.scope.names.lookup y=some .local:=by first|exact .inl rfl|exact .inr rfl|assumption):
 QG X (.Tuple [.Name x p1,.Name y p2] k pos) (gT2 i j):=(RK hc (JN (vT hN hi hx hf) (JN (vT hN hj hy hf2) Qo))).imp (CV i j)
theorem EC {tg:S5}{g:TGD}(he:QE X e te)(hg:QG X tg g)(hs:aS [tg] e pos.line X.env=pure false:=by rfl)(hsw:aT [tg] e X.env=pure none:=by rfl)
 (h1:(bO [tg] X.env).map (·.2)= [dL tg X.env]:=by rfl):QS X (.Assign [tg] e pos) (OA te g):=(BX he hg hs hsw h1).imp CQ
theorem ED {j:G9}{y:Str}{a b:S5}{ta:TAD}{px py pt:Pos}{kt k2 pt2}(hc:X.calm=true)(hN:X.N.Nodup)(hi:X.N[i]? =some x)(hj:X.N[j]? =some y)(hij:i≠j)
 (hx:X.env.scope.names.lookup x=some .local)(hy:X.env.scope.names.lookup y=some .local)(ha:QA X [a,b] ta)
 (hw:aT [.Tuple [.Name x px,.Name y py] kt pt] (.Tuple [a,b] k2 pt2) X.env=pure (some [x,y]))
 (hs:aS [.Tuple [.Name x px,.Name y py] kt pt] (.Tuple [a,b] k2 pt2) pos.line X.env=pure false:=by rfl):
 QS X (.Assign [.Tuple [.Name x px,.Name y py] kt pt] (.Tuple [a,b] k2 pt2) pos) (OB i j ta):=(BZ hc hN hi hj hij hx hy ha hw hs).imp CT
end
abbrev ItD:=HD->P2 (G0 D)
def Ng (K:G2)(H:Hp)(j:ItD)(J:It):Prop:= ∀H' h',Kept H H'->RelH K h' H'-> ∀ds,j h'=some ds-> ∀i:G9,
 (∀d,ds[i]? =some d->J.go i H'/\ ∀x H'',J.yld i H' x H''->Kept H' H''/\RelH K h' H''/\RelD K H'' d x)/\(ds.length<=i->J.stop i H')
abbrev TID:=SD->HD->(ItD->HD->Prop)->Prop
def LI (K:G2)(t:TID):TI:=λσ H R=> ∃tF h Rd,RelS K H tF σ/\RelH K h H/\t tF h Rd/\ ∀j J h' H',Kept H H'->RelH K h' H'->Ng K H' j J->Rd j h'->R J H'
abbrev QI (X:Cx)(tg iter:S5)(t:TID):Prop:=PI X tg iter (LI X.K t)
theorem PI.imp {X:Cx}{tg e:S5}{t t':TI}(h:PI X tg e t)(i: ∀σ H R,t' σ H R->t σ H R):PI X tg e t':=λpins s σ H R I q=>h pins s σ H R I (i σ H R q)
def iL (te:TED):TID:=λσ h R=>te σ h λx h1=> ∃a,x= .lst a/\R (λh=>h a) h1
def iR1 (ta:TAD):TID:=λσ h R=>ta σ h λds h1=> ∃n:D1,ds= [.int n]/\ -(2^62)<=n/\n<2^62/\R (λ_=>some ((N4 n.toNat).map λ(k:G9)=>D.int (k:D1))) h1
def iR2 (ta:TAD):TID:=λσ h R=>ta σ h λds h1=> ∃m n:D1,ds= [.int m,.int n]/\(-(2^62)<=m/\m<2^62/\ -(2^62)<=n/\n<2^62)/\R (λ_=>some ((N4 (n-m).toNat).map λ(k:G9)=>D.int (m+(k:D1)))) h1
section
variable {K:G2}
theorem YD (H:Hp)(a:G7):Ng K H (λh=>h a) (Itl K a):=λH' h' k rh ds e i=>by
 obtain⟨vs,hv,r⟩:=rh a ds e;refine⟨λd hd=> ?_,λhl=>⟨vs,SqL.of hv,by rw [<-r.length];exact hl⟩⟩;obtain⟨v,e1,e2⟩:=r.get hd;refine⟨⟨vs,v,SqL.of hv,e1⟩,λx H'' ⟨eH,hx⟩=> ?_⟩;subst eH;have:=hx vs (SqL.of hv);rw [e1] at this;cases this;exact⟨.refl _,rh,e2⟩
theorem Ds {H:Hp}{a:G7}{vs:G0 V}{ds:G0 D}(hv:H a=some (.tup vs))(r:RelDs K H ds vs):Ng K H (λ_=>some ds) (Itt K a):=λH' h' k rh ds' e i=>by
 cases e;have hv':=k.tup _ _ hv;have r':=r.mono k;refine⟨λd hd=> ?_,λhl=>⟨vs,SqT.of hv',by rw [<-r.length];exact hl⟩⟩;obtain⟨v,e1,e2⟩:=r'.get hd;refine⟨⟨vs,v,SqT.of hv',e1⟩,λx H'' ⟨eH,hx⟩=> ?_⟩;subst eH;have:=hx vs (SqT.of hv');rw [e1] at this;cases this;exact⟨.refl _,rh,e2⟩
theorem Wr (H:Hp)(lo:D1)(n:G9)(ds:G0 D)(hd:ds=(N4 n).map λ(k:G9)=>D.int (lo+(k:D1))):Ng K H (λ_=>some ds) (Itr lo n):=λH' h' k rh ds' e i=>by
 cases e;subst hd;refine⟨λd hd=> ?_,λhl=>(show n<=i by simpa using hl)⟩;rw [R9] at hd;have hi:i<n:=by
  by_cases z:i<n
  ·exact z
  ·rw [Z7 (by simpa using z)] at hd;cases hd
 rw [dQ hi] at hd;cases hd;refine⟨hi,λx H'' ⟨eH,hx⟩=> ?_⟩;subst eH hx;exact⟨.refl _,rh,rfl⟩
theorem Nh {te:TED}: ∀σ H R,LI K (iL te) σ H R->Ca K (LE K te) σ H R:=λσ H R ⟨tF,h,Rd,rs,rh,q,p⟩=>
 LE.bind rs rh q λd v h1 H1 k1 rs1 rh1 r1 ⟨a,e,q1⟩=>by
  subst e;obtain⟨e,vs,hv⟩:=(show v= .ref a/\ ∃vs,H1 a=some (.lst vs) from r1);exact⟨a,e,⟨vs,SqL.of hv⟩,p _ _ _ _ k1 rh1 (YD H1 a) q1⟩
theorem OE {ta:TAD}: ∀σ H R,LI K (iR1 ta) σ H R->Cb (LA K ta) σ H R:=λσ H R ⟨tF,h,Rd,rs,rh,q,p⟩=>
 LA.bind rs rh q λds vs h1 H1 k1 rs1 rh1 r1 ⟨n,e,b1,b2,q1⟩=>by
  subst e;obtain⟨v,e,r2⟩:=ju r1;cases (show v= .int n from r2);exact⟨n,e,b1,b2,p _ _ _ _ k1 rh1 (Wr H1 0 n.toNat _ (by simp)) q1⟩
theorem OF {ta:TAD}: ∀σ H R,LI K (iR2 ta) σ H R->Cc (LA K ta) σ H R:=λσ H R ⟨tF,h,Rd,rs,rh,q,p⟩=>
 LA.bind rs rh q λds vs h1 H1 k1 rs1 rh1 r1 ⟨m,n,e,b,q1⟩=>by
  subst e;obtain⟨v,w,e,r2,r3⟩:=wx r1;cases (show v= .int m from r2);cases (show w= .int n from r3);exact⟨m,n,e,b,p _ _ _ _ k1 rh1 (Wr H1 m (n-m).toNat _ rfl) q1⟩
end
def Bz (ti:TID)(g:TGD)(tb:TSD):TSD:=λD σ h=>ti σ h λj h1=> ∃ (n:G9) (W:G9->SD->HD->Prop),W 0 σ h1/\ ∀i tE h',W i tE h'-> ∃ds,j h'=some ds/\ds.length<=n/\(ds.length<=i->D.nx tE h')/\
 ∀d,ds[i]? =some d->g d tE h' λtJ h2=>tb {D with nx:=λtM h3=> ∃h4,Sub h4 h3/\W (i+1) tM h4,ct:=λtM h3=> ∃h4,Sub h4 h3/\W (i+1) tM h4,bk:=D.nx} tJ h2
theorem Fb {K:G2}{ti:TID}{g:TGD}{tb:TSD}: ∀D σ H,LS K (Bz ti g tb) D σ H->AB (LI K ti) (LG K g) (LS K tb) D σ H:=λD σ H ⟨tF,h,Dd,rs,rh,q,nx,rt,bk,ct⟩=>by
 refine⟨tF,h,_,rs,rh,q,λj J h1 H1 k1 rh1 jo ⟨n,W,w0,turn⟩=> ?_⟩;refine⟨λi m tE H'=>m=n-i/\Kept H1 H'/\ ∃tL h',RelS K H' tL tE/\RelH K h' H'/\W i tL h',⟨n-0,rfl,.refl _,tF,h1,rs.mono k1,rh1,w0⟩,?_⟩;rintro i m tE H' ⟨rfl,kp,tL,h',rs',rh',w⟩;obtain⟨ds,ej,hn,stop,go⟩:=turn i tL h' w;have jo':=jo H' h' kp rh' ds ej i
 by_cases hi:i<ds.length
 ·obtain⟨g1,y1⟩:=jo'.1 ds[i] (G8 hi);refine .inr ⟨g1,λtJ H2=>Kept H1 H2/\ ∃tQ h2,RelS K H2 tQ tJ/\RelH K h2 H2/\W (i+1) tQ h2,λtJ H2 ⟨k2,a,b,c,d,e⟩=>⟨n-(i+1),by omega,rfl,k2,a,b,c,d,e⟩,λx H'' y=> ?_⟩;obtain⟨k2,rh2,r2⟩:=y1 x H'' y;refine⟨ds[i],tL,h',_,r2,rs'.mono k2,rh2,go ds[i] (G8 hi),λu5 h3 tM H3 k3 rs3 rh3 q3=> ?_⟩;have kk:Kept H H3:=k1.trans (kp.trans (k2.trans k3));have kk1:Kept H1 H3:=kp.trans (k2.trans k3);exact⟨u5,h3,_,rs3,rh3,q3,λa b c d k4 rs4 rh4 ⟨h4,sb,w4⟩=>⟨kk1.trans k4,a,h4,rs4,rh4.sub sb,w4⟩,jy rt kk,λa b c d k4 rs4 rh4 q4=>nx a b c d (kk.trans k4) rs4 rh4 q4,λa b c d k4 rs4 rh4 ⟨h4,sb,w4⟩=>⟨kk1.trans k4,a,h4,rs4,rh4.sub sb,w4⟩⟩
 ·exact .inl ⟨jo'.2 (bS.mp hi),nx _ _ _ _ (k1.trans kp) rs' rh' (stop (bS.mp hi))⟩
def Ws:TTD:=λ_ h Q=>Q true h
def vX (bind:D->SD->SD->Prop)(js:G0 G9)(ti:TID)(tt:TTD)(te:TED):TED:=λσ h Q=>ti σ h λj h1=> ∃ (n:G9) (W:G9->G0 D->HD->Prop),W 0 [] h1/\ ∀i ys h',W i ys h'->ys.length<=sizeLine/\
 ∃ds,j h'=some ds/\ds.length<=n/\(ds.length<=i-> ∀p,h' p=none->Q (.lst p) (zB h' p ys))/\
  ∀d,ds[i]? =some d-> ∃tJ,bind d (jM js σ) tJ/\tt tJ h' λb h3=>if b=true then te tJ h3 λy h4=> ∃h5,Sub h5 h4/\W (i+1) (ys++ [y]) h5 else ∃h5,Sub h5 h3/\W (i+1) ys h5
def bN (i:G9):D->SD->SD->Prop:=λd σ tJ=>tJ=σ.set i (some d)
def b2 (i j:G9):D->SD->SD->Prop:=λd σ tJ=> ∃x y,d= .tup [x,y]/\tJ=(σ.set i (some x)).set j (some y)
theorem Fc {K:G2}: ∀σ H Q,LT K Ws σ H Q->AL σ H Q:=λσ H Q ⟨tF,h,Qd,rs,rh,q,p⟩=>p true h H (.refl H) rh q
def QZ (K:G2)(js:G0 G9)(bind:D->SD->SD->Prop)(g:TG):Prop:= ∀ (σ:St) (tF tQ:SD) (H:Hp) (d:D) (v:V) (Q:St->Hp->Prop),RelS K H (jM js tF) (zK js σ)->RelD K H d v->bind d (jM js tF) tQ->
 (∀tJ,Agree (zK js σ) tJ->RelS K H tQ tJ->Q tJ H)->g v (zK js σ) H Q
theorem Fd {K:G2}{js:G0 G9}{i:G9}(hi:i∈js):QZ K js (bN i) (yH i):=λσ tF tQ H d v Q rs r b q=>by
 cases (show tQ=_ from b);exact q _ (.set v λu=>zh js σ i u hi) (rs.set r i)
theorem OG {K:G2}{js:G0 G9}{i j:G9}(hi:i∈js)(hj:j∈js)(hij:i≠j):QZ K js (b2 i j) (LV K 2 (Qn (yH i) (Qn (yH j) LU))):=λσ tF tQ H d v Q rs r b q=>by
 obtain⟨x,y,e,e2⟩:=b;subst e e2;obtain⟨a,vs,e,hH,r1⟩:=(show ∃a vs,v= .ref a/\H a=some (.tup vs)/\RelDs K H [x,y] vs from r);obtain⟨v1,v2,e1,r2,r3⟩:=wx r1;subst e e1;refine⟨a,[v1,v2],rfl,SqT.of hH,rfl,v1,[v2],rfl,v2,[],rfl,rfl,q _ (.trans (.set v1 λu=>zh js σ i u hi) (.set v2 λu z=> ?_)) ((rs.set r2 i).set r3 j)⟩;rw [A3 hij] at z;exact zh js σ j u hj z
theorem Ni {K:G2}{bind:D->SD->SD->Prop}{js:G0 G9}{ti:TID}{tt:TTD}{te:TED}{g:TG}(hb:QZ K js bind g): ∀σ H Q,LE K (vX bind js ti tt te) σ H Q->tLC js (LI K ti) g (LT K tt) (LE K te) σ H Q:=
 λσ H Q ⟨tF,h,Qd,rs,rh,q,p⟩=>by
  refine⟨tF,h,_,rs,rh,q,λj J h1 H1 k1 rh1 jo ⟨n,W,w0,turn⟩=> ?_⟩;refine⟨λi m ys H'=>m=n-i/\Kept H1 H'/\ ∃ds h',RelDs K H' ds ys/\RelH K h' H'/\W i ds h',⟨n-0,rfl,.refl _,[],h1,rfl,rh1,w0⟩,?_⟩;rintro i m ys H' ⟨rfl,kp,yd,h',ry,rh',w⟩;obtain⟨hz,ds,ej,hn,stop,go⟩:=turn i yd h' w;refine⟨by rw [<-ry.length];exact hz,?_⟩;have jo':=jo H' h' kp rh' ds ej i;have kk:Kept H H':=k1.trans kp
  by_cases hi:i<ds.length
  ·obtain⟨g1,y1⟩:=jo'.1 ds[i] (G8 hi);refine .inr ⟨g1,λx H'' y=> ?_⟩;obtain⟨k2,rh2,r2⟩:=y1 x H'' y;obtain⟨tQ,bd,q2⟩:=go ds[i] (G8 hi);refine hb σ tF tQ H'' ds[i] x _ (((rs.mono (kk.trans k2))).clear js) r2 bd λtJ ag rs2=>⟨ag,?_⟩
   refine LT.bind rs2 rh2 q2 λb h3 H3 k3 rs3 rh3 q3=> ?_
   cases b with
   |true=>
    rw [S8 rfl] at q3 ⊢;refine LE.bind rs3 rh3 q3 λd4 v4 h4 H4 k4 rs4 rh4 r4 ⟨h5,sb,w5⟩=>⟨n-(i+1),by omega,rfl,kp.trans (k2.trans (k3.trans k4)),yd++ [d4],h5,(ry.mono (k2.trans (k3.trans k4))).append (.cons r4 .nil),rh4.sub sb,w5⟩
   |false=>
    rw [S7 R0] at q3 ⊢;obtain⟨h5,sb,w5⟩:=q3;exact⟨n-(i+1),by omega,rfl,kp.trans (k2.trans k3),yd,h5,ry.mono (k2.trans k3),rh3.sub sb,w5⟩
  ·refine .inl ⟨jo'.2 (bS.mp hi),λa ha=>p (.lst a) (.ref a) _ _ (kk.trans (.new ha)) (rh'.newL ha ry) ⟨rfl,ys,ji⟩ (stop (bS.mp hi) a (rh'.free ha))⟩
theorem yC {X:Cx}{scope:O0}{C:G7}{s₀:G3}{H₀:Hp}{ex:G0 G7}{i:G9}{x:Str}{p:Pos}(hN:X.N.Nodup)(hx:X.N[i]? =some x)(hl:scope.names.lookup x=some .local\/scope.names.lookup x=some .cell):
 PG (yS X scope C s₀ H₀ ex) (.Name x p) (yH i):=by
 rcases hl with z|z
 ·exact vT hN hx (.inl (i0 z)) (.inr (i0 z))
 ·exact vT hN hx (.inr (yR z)) (.inl (by show (scope.names.lookup x==some X6)=true;rw [z];rfl))
section
variable {X:Cx}{tg e iter elt:S5}{te:TED}{ti:TID}{g:TGD}{tb:TSD}{tt:TTD}{pos:Pos}{ta:TAD}{scope:O0}{js:G0 G9}{ifs:G0 S5}
theorem Nj (he:QE X e te):QI X tg e (iL te):=(Mp he).imp Nh
theorem OH {p:Pos}{a:S5}(hg:Gl X "range")(hm:X.mg "range" =none)(ha:QA X [a] ta)(hs:D2 [a] X.env= [(false,O4 a X.env)]:=by rfl):QI X tg (.Call (.Name "range" p) [a] [] pos) (iR1 ta):=(Qp hg hm ha hs).imp OE
theorem EF {body:G0 F9}(hp:pI (R6 X.prog X.w) X.A X.env X.xe)(hc:X.calm=true)(hi:QI X tg iter ti)(hg:QG X tg g)(hb:QSs X body tb)(hs: ∀x,T7 iter X.env x=pure x:=by intro _;rfl):
 QS X (.For tg iter body [] pos) (Bz ti g tb):=(Cd hp hc hi hg hb hs).imp Fb
theorem Nk:PTs X [] (LT X.K Ws):=λpins s σ H Q I h=>MM pins s σ H Q I (Fc σ H Q h)
theorem Nl {c:S5}(hc:QT X c tt):PTs X [c] (LT X.K tt):=MN hc
theorem qlc {i:G9}{x:Str}{p:Pos}(hc:X.calm=true)(S:BlockOk X scope js)(hi:QI X (.Name x p) iter ti)(hj:i∈js)(hN:X.N.Nodup)(hx:X.N[i]? =some x)(hl:scope.names.lookup x=some .local\/scope.names.lookup x=some .cell)
 (ht: ∀X',jn X scope X'->PTs X' ifs (LT X'.K tt))(he: ∀X',jn X scope X'->QE X' elt te)(hs: ∀x,T7 iter X.env x=pure x:=by intro _;rfl):
 QE X (.ListComp elt [⟨.Name x p,iter,ifs,0⟩] scope pos) (vX (bN i) js ti tt te):=
 (Cv hc S hi (λX' hX=>by obtain⟨C,s₀,H₀,ex,rfl⟩:=hX;exact yC hN hx hl) (λX' hX=>by have:=ht X' hX;obtain⟨C,s₀,H₀,ex,rfl⟩:=hX;exact this)
  (λX' hX=>by have:=he X' hX;obtain⟨C,s₀,H₀,ex,rfl⟩:=hX;exact this) hs).imp (Ni (Fd hj))
theorem EG {i j:G9}{x y:Str}{p1 p2 p3:Pos}{k:G9}(hc:X.calm=true)(S:BlockOk X scope js)(hi:QI X (.Tuple [.Name x p1,.Name y p2] k p3) iter ti)(hj:i∈js)(hj2:j∈js)(hij:i≠j)(hN:X.N.Nodup)(hx:X.N[i]? =some x)(hy:X.N[j]? =some y)
 (hl:scope.names.lookup x=some .local\/scope.names.lookup x=some .cell)(hl2:scope.names.lookup y=some .local\/scope.names.lookup y=some .cell)
 (ht: ∀X',jn X scope X'->PTs X' ifs (LT X'.K tt))(he: ∀X',jn X scope X'->QE X' elt te)(hs: ∀x,T7 iter X.env x=pure x:=by intro _;rfl):
 QE X (.ListComp elt [⟨.Tuple [.Name x p1,.Name y p2] k p3,iter,ifs,0⟩] scope pos) (vX (b2 i j) js ti tt te):=
 (Cv hc S hi (λX' hX=>by
  obtain⟨C,s₀,H₀,ex,rfl⟩:=hX;exact RK hc (JN (yC hN hx hl) (JN (yC hN hy hl2) Qo))) (λX' hX=>by have:=ht X' hX;obtain⟨C,s₀,H₀,ex,rfl⟩:=hX;exact this)
  (λX' hX=>by have:=he X' hX;obtain⟨C,s₀,H₀,ex,rfl⟩:=hX;exact this) hs).imp (Ni (OG hj hj2 hij))
end
def LSp (K:G2)(spd:RDn):Sp:=λvs H Q _=>LC K spd vs H Q
theorem Ga {K:G2}{spd:RDn}{t:TAD}{E:XK}: ∀σ H Q,LE K (dCB spd t) σ H Q->Mw (LSp K spd) [] E (LA K t) σ H Q:=λσ H Q ⟨tF,h,Qd,rs,rh,t,p⟩=>
 LA.bind rs rh t λds vs h1 H1 k1 rs1 rh1 r1 q=>by rw [E3];exact⟨ds,h1,Qd,r1,rh1,q,jy p k1⟩
section
variable {X:Cx}{k:G9}{f:G7}{fd:S0}{ps:G0 Str}{spd:RDn}{x:Str}{p pos:Pos}{e:S5}{es:G0 S5}{t:TAD}
theorem OJ (F:FnOk X.prog X.w X.K X.mg X.base CX0 k f fd ps (LSp X.K spd))(hr:Room k X.A)(hg:Gl X x)(hm:X.mg x=some (.ref f))(hk:A6 X.K (.ref f)=true)(hb:Binds X.K fd ps [])
 (ha:QA X (e::es) t)(hdb:(x==("__debug__" :Str))=false:=by decide)(he:D2 (e::es) X.env=(false,O4 e X.env)::D2 es X.env:=by rfl)(hpl:(E6 pos (D2 es X.env)).any (·.1)=false:=by rfl):
 QE X (.Call (.Name x p) (e::es) [] pos) (dCB spd t):=(QB F hr hg hm hk hb .nil MG ha hdb he hpl).imp Ga
theorem Fe {id:J9}{r:RDn}(hc:wX X (.builtin id) r)(hg:Gl X x)(hm:X.mg x=none)(hv:E4 x=some (.builtin id))(ha:QA X (e::es) t)(hn:x≠ "__name__" :=by decide)(hdb:(x==("__debug__" :Str))=false:=by decide)
 (he:D2 (e::es) X.env=(false,O4 e X.env)::D2 es X.env:=by rfl)(hpl:(E6 pos (D2 es X.env)).any (·.1)=false:=by rfl):QE X (.Call (.Name x p) (e::es) [] pos) (dCB r t):=(JP hc hg hm hv ha hn hdb he hpl).imp CG
theorem Nm {T:J9}{r:RDn}(hc:wX X (.type T) r)(hg:Gl X x)(hm:X.mg x=none)(hv:E4 x=some (.type T))(ha:QA X (e::es) t)(hn:x≠ "__name__" :=by decide)(hdb:(x==("__debug__" :Str))=false:=by decide)
 (he:D2 (e::es) X.env=(false,O4 e X.env)::D2 es X.env:=by rfl)(hpl:(E6 pos (D2 es X.env)).any (·.1)=false:=by rfl):QE X (.Call (.Name x p) (e::es) [] pos) (dCB r t):=(QC hc hg hm hv ha hn hdb he hpl).imp CG
end
def jN (N:G0 Str)(ds:G0 D):SD:=ds.map some++S4 (N.length-ds.length) none
theorem yD {K:G2}{H:Hp}{N:G0 Str}{ds:G0 D}{vs:G0 V}(r:RelDs K H ds vs):RelS K H (jN N ds) (start N vs):=by
 have hl:=r.length;refine⟨by unfold jN start;simp [hl],λi d e=> ?_⟩;unfold jN at e;unfold start
 by_cases hi:i<ds.length
 ·rw [C4 (by simpa using hi),R9] at e;cases q:ds[i]? with
  |none=>rw [q] at e;cases e
  |some d'=>
   rw [q] at e;cases e;obtain⟨v,e1,e2⟩:=r.get q;exact⟨v,by rw [C4 (by simpa [<-hl] using hi),R9,e1];rfl,e2⟩
 ·rw [M5 (by simpa using hi),cA] at e;split at e<;>cases e
def Yt (Q:KD):EndsD:= {nx:=λ_ h=> ∃h',Sub h' h/\Q .non h',rt:=λd h=> ∃h',Sub h' h/\Q d h'}
section
variable {P:R5}{w:N0}{K:G2}{mg:Str->P2 G1}{base:N2}
theorem Fun.okD {x qual:Str}{st:F9}{f:G7}{fd:S0}{N ps:G0 Str}{k:G9}{spd:RDn}(F:Fun K x qual st f fd)(S:FnScope N ps (jd st))(len: ∀ds h Q,spd ds h Q->ds.length=ps.length)
 (tb:TSD)(hbody: ∀ (cdv:G1) (A:T0) (outer:G0 Env) (s:G3) (H:Hp) (E:XK),Room k (A.deeper (A8 qual (jd st) s.heap.objs.size f cdv))->QSs (ZY CX0 P w K mg base N qual (jd st) f cdv A outer s H E).nox (jJ st) tb)
 (read: ∀ds h Q,spd ds h Q->tb (Yt Q) (jN N ds) h):FnOk P w K mg base CX0 (k+1) f fd ps (LSp K spd):=by
 refine F.ok S (λvs H Q E h=> ?_) (λcdv A outer s H vs Q E hr h=> ?_)
 ·obtain⟨ds,h,Qd,r,rh,q,p⟩:=h;rw [<-r.length];exact len _ _ _ q
 ·obtain⟨ds,h,Qd,r,rh,q,p⟩:=h;refine⟨_,hbody cdv A outer s H E hr,jN N ds,h,Yt Qd,yD r,rh,read ds h Qd q,λtL h' tE H' k rs' rh' ⟨h2,sb,q'⟩=>p .non .non h2 H' k (rh'.sub sb) rfl q',λd v h' H' k rh' r' ⟨h2,sb,q'⟩=>p d v h2 H' k (rh'.sub sb) r' q',λ_ _ _ _ _ _ _ z=>z.elim,λ_ _ _ _ _ _ _ z=>z.elim⟩
end
section
variable {X:Cx}{iter elt:S5}{te:TED}{ti:TID}{tt:TTD}{pos spos:Pos}{scope:O0}{js:G0 G9}{ifs:G0 S5}
theorem Ff {i k:G9}{x y:Str}{p py:Pos}(hc:X.calm=true)(hN:X.N.Nodup)(hk:X.N[k]? =some y)(hy:Loc X.env.scope y)(S:BlockOk X scope js)(hi:QI X (.Name x p) iter ti)(hj:i∈js)(hx:X.N[i]? =some x)(hl:scope.names.lookup x=some .local\/scope.names.lookup x=some .cell)
 (ht: ∀X',jn X scope X'->PTs X' ifs (LT X'.K tt))(he: ∀X',jn X scope X'->QE X' elt te)
 (hsw:Y0 (.ListComp elt [⟨.Name x p,iter,ifs,0⟩] scope pos) (some (.Name y py)) spos.line X.env=pure true:=by rfl)
 (hf:X.fn y=true\/X.env.scope.names.lookup y=some .local:=by first|exact .inl rfl|exact .inr rfl|assumption)(hs: ∀x,T7 iter X.env x=pure x:=by intro _;rfl):
 QS X (.Assign [.Name y py] (.ListComp elt [⟨.Name x p,iter,ifs,0⟩] scope pos) spos) (QY k (vX (bN i) js ti tt te)):=by
 have base:PS X (.Assign [.Name y py] (.ListComp elt [⟨.Name x p,iter,ifs,0⟩] scope pos) spos) (Mn (tLC js (LI X.K ti) (yH i) (LT X.K tt) (LE X.K te)) (yH k)):=
  Dq hc S hi (λX' hX=>by obtain⟨C,s₀,H₀,ex,rfl⟩:=hX;exact yC hN hx hl) (λX' hX=>by have:=ht X' hX;obtain⟨C,s₀,H₀,ex,rfl⟩:=hX;exact this)
   (λX' hX=>by have:=he X' hX;obtain⟨C,s₀,H₀,ex,rfl⟩:=hX;exact this) (vT hN hk hy hf) hsw hs
 exact base.imp λD σ H h=>by
  obtain⟨tF,hd,Qd,rs,rh,t,p⟩:=RO (K:=X.K) D σ H h;exact Ni (Fd hj) σ H _ ⟨tF,hd,Qd,rs,rh,t,p⟩
end
def dIn (i':G9)(ti:TID)(tt:TTD)(te:TED)(V:G0 D->HD->Prop)(ys:G0 D):SD->HD->Prop:=λσ h=>ti σ h λj h1=> ∃ (n:G9) (W:G9->G0 D->HD->Prop),W 0 ys h1/\ ∀i ys h',W i ys h'->ys.length<=sizeLine/\
 ∃ds,j h'=some ds/\ds.length<=n/\(ds.length<=i->V ys h')/\
  ∀d,ds[i]? =some d->tt (σ.set i' (some d)) h' λb h3=>if b=true then te (σ.set i' (some d)) h3 λy h4=> ∃h5,Sub h5 h4/\W (i+1) (ys++ [y]) h5 else ∃h5,Sub h5 h3/\W (i+1) ys h5
def BB (bind:D->SD->SD->Prop)(js:G0 G9)(ti:TID)(tt:TTD)(i':G9)(ti':TID)(tt':TTD)(te:TED):TED:=λσ h Q=>ti σ h λj h1=> ∃ (n:G9) (W:G9->G0 D->HD->Prop),W 0 [] h1/\ ∀i ys h',W i ys h'->ys.length<=sizeLine/\
 ∃ds,j h'=some ds/\ds.length<=n/\(ds.length<=i-> ∀p,h' p=none->Q (.lst p) (zB h' p ys))/\
  ∀d,ds[i]? =some d-> ∃tJ,bind d (jM js σ) tJ/\tt tJ h' λb h3=>if b=true then dIn i' ti' tt' te (λys' h6=> ∃h5,Sub h5 h6/\W (i+1) ys' h5) ys tJ h3 else ∃h5,Sub h5 h3/\W (i+1) ys h5
def Gb (K:G2)(js:G0 G9)(i':G9)(bind:D->SD->SD->Prop)(g:TG):Prop:= ∀ (σ:St) (tF tQ:SD) (H:Hp) (d:D) (v:V) (Q:St->Hp->Prop),RelS K H (jM js tF) (zK js σ)->RelD K H d v->bind d (jM js tF) tQ->
 (∀tJ,Agree (zK js σ) tJ->(∀u,¬tJ[i']? =some (some u))->RelS K H tQ tJ->Q tJ H)->g v (zK js σ) H Q
theorem Fg {K:G2}{js:G0 G9}{i i':G9}(hi:i∈js)(hi':i'∈js)(hne:i≠i'):Gb K js i' (bN i) (yH i):=λσ tF tQ H d v Q rs r b q=>by
 cases (show tQ=_ from b);refine q _ (.set v λu=>zh js σ i u hi) (λu z=> ?_) (rs.set r i);rw [A3 hne] at z;exact zh js σ i' u hi' z
theorem Fh {K:G2}{bind:D->SD->SD->Prop}{js:G0 G9}{i':G9}{ti ti':TID}{tt tt':TTD}{te:TED}{g:TG}(hb:Gb K js i' bind g): ∀σ H Q,LE K (BB bind js ti tt i' ti' tt' te) σ H Q->Oo js (LI K ti) g (LT K tt) (LI K ti') (yH i') (LT K tt') (LE K te) σ H Q:=
 λσ H Q ⟨tF,h,Qd,rs,rh,q,p⟩=>by
  refine⟨tF,h,_,rs,rh,q,λj J h1 H1 k1 rh1 jo ⟨n,W,w0,turn⟩=> ?_⟩;refine⟨λi m ys H'=>m=n-i/\Kept H1 H'/\ ∃ds h',RelDs K H' ds ys/\RelH K h' H'/\W i ds h',⟨n-0,rfl,.refl _,[],h1,rfl,rh1,w0⟩,?_⟩;rintro i m ys H' ⟨rfl,kp,yd,h',ry,rh',w⟩;obtain⟨hz,ds,ej,hn,stop,go⟩:=turn i yd h' w;refine⟨by rw [<-ry.length];exact hz,?_⟩;have jo':=jo H' h' kp rh' ds ej i;have kk:Kept H H':=k1.trans kp
  by_cases hi:i<ds.length
  ·obtain⟨g1,y1⟩:=jo'.1 ds[i] (G8 hi);refine .inr ⟨g1,λx H'' y=> ?_⟩;obtain⟨k2,rh2,r2⟩:=y1 x H'' y;obtain⟨tQ,bd,q2⟩:=go ds[i] (G8 hi);refine hb σ tF tQ H'' ds[i] x _ (((rs.mono (kk.trans k2))).clear js) r2 bd λtJ ag un rs2=>⟨ag,?_⟩
   refine LT.bind rs2 rh2 q2 λb h3 H3 k3 rs3 rh3 q3=> ?_
   cases b with
   |true=>
    rw [S8 rfl] at q3 ⊢
    -- the second clause
    refine⟨tQ,h3,_,rs3,rh3,q3,λj2 J2 h4 H4 k4 rh4 jo2 ⟨n2,W2,w20,turn2⟩=> ?_⟩;refine⟨λi2 m2 ys2 H5=>m2=n2-i2/\Kept H4 H5/\ ∃ds h5,RelDs K H5 ds ys2/\RelH K h5 H5/\W2 i2 ds h5,⟨n2-0,rfl,.refl _,yd,h4,ry.mono (k2.trans (k3.trans k4)),rh4,w20⟩,?_⟩;rintro i2 m2 ys2 H5 ⟨rfl,kp5,yd5,h5,ry5,rh5,w5⟩;obtain⟨hz5,ds5,ej5,hn5,stop5,go5⟩:=turn2 i2 yd5 h5 w5;refine⟨by rw [<-ry5.length];exact hz5,?_⟩;have jo5:=jo2 H5 h5 kp5 rh5 ds5 ej5 i2;have kk5:Kept H1 H5:=kp.trans (k2.trans (k3.trans (k4.trans kp5)))
    by_cases hi5:i2<ds5.length
    ·obtain⟨g5,y5⟩:=jo5.1 ds5[i2] (G8 hi5);refine .inr ⟨g5,λx6 H6 yy6=> ?_⟩;obtain⟨k6,rh6,r6⟩:=y5 x6 H6 yy6;refine⟨.set x6 un,?_⟩;have rs6:=(rs3.mono (k4.trans (kp5.trans k6))).set r6 i';refine LT.bind rs6 rh6 (go5 ds5[i2] (G8 hi5)) λb h7 H7 k7 rs7 rh7 q7=> ?_
     cases b with
     |true=>
      rw [S8 rfl] at q7 ⊢;exact LE.bind rs7 rh7 q7 λd8 v8 h8 H8 k8 rs8 rh8 r8 ⟨h9,sb,w9⟩=>⟨n2-(i2+1),by omega,rfl,kp5.trans (k6.trans (k7.trans k8)),yd5++ [d8],h9,(ry5.mono (k6.trans (k7.trans k8))).append (.cons r8 .nil),rh8.sub sb,w9⟩
     |false=>
      rw [S7 R0] at q7 ⊢;obtain⟨h9,sb,w9⟩:=q7;exact⟨n2-(i2+1),by omega,rfl,kp5.trans (k6.trans k7),yd5,h9,ry5.mono (k6.trans k7),rh7.sub sb,w9⟩
    ·obtain⟨h9,sb,w9⟩:=stop5 (bS.mp hi5);exact .inl ⟨jo5.2 (bS.mp hi5),n-(i+1),by omega,rfl,kk5,yd5,h9,ry5,rh5.sub sb,w9⟩
   |false=>
    rw [S7 R0] at q3 ⊢;obtain⟨h5,sb,w5⟩:=q3;exact⟨n-(i+1),by omega,rfl,kp.trans (k2.trans k3),yd,h5,ry.mono (k2.trans k3),rh3.sub sb,w5⟩
  ·refine .inl ⟨jo'.2 (bS.mp hi),λa ha=>p (.lst a) (.ref a) _ _ (kk.trans (.new ha)) (rh'.newL ha ry) ⟨rfl,ys,ji⟩ (stop (bS.mp hi) a (rh'.free ha))⟩
section
variable {X:Cx}{iter iter' elt:S5}{te:TED}{ti ti':TID}{tt tt':TTD}{pos:Pos}{scope:O0}{js:G0 G9}{ifs ifs':G0 S5}
theorem EH {i i':G9}{x y:Str}{p py:Pos}(hc:X.calm=true)(S:BlockOk X scope js)(hi:QI X (.Name x p) iter ti)(hj:i∈js)(hj':i'∈js)(hne:i≠i')(hN:X.N.Nodup)(hx:X.N[i]? =some x)(hy:X.N[i']? =some y)
 (hl:scope.names.lookup x=some .local\/scope.names.lookup x=some .cell)(hl':scope.names.lookup y=some .local\/scope.names.lookup y=some .cell)
 (ht: ∀X',jn X scope X'->PTs X' ifs (LT X'.K tt))(hi': ∀X',jn X scope X'->QI X' (.Name y py) iter' ti')(ht': ∀X',jn X scope X'->PTs X' ifs' (LT X'.K tt'))(he: ∀X',jn X scope X'->QE X' elt te)
 (hs: ∀x,T7 iter X.env x=pure x:=by intro _;rfl)(hs': ∀env x,T7 iter' env x=pure x:=by intro _ _;rfl):
 QE X (.ListComp elt [⟨.Name x p,iter,ifs,0⟩,⟨.Name y py,iter',ifs',0⟩] scope pos) (BB (bN i) js ti tt i' ti' tt' te):=
 (show PE X _ (Oo js (LI X.K ti) (yH i) (LT X.K tt) (LI X.K ti') (yH i') (LT X.K tt') (LE X.K te)) from Cw hc S hi (λX' hX=>by obtain⟨C,s₀,H₀,ex,rfl⟩:=hX;exact yC hN hx hl) (λX' hX=>by have:=ht X' hX;obtain⟨C,s₀,H₀,ex,rfl⟩:=hX;exact this) (λX' hX=>by have:=hi' X' hX;obtain⟨C,s₀,H₀,ex,rfl⟩:=hX;exact this)
  (λX' hX=>by obtain⟨C,s₀,H₀,ex,rfl⟩:=hX;exact yC hN hy hl') (λX' hX=>by have:=ht' X' hX;obtain⟨C,s₀,H₀,ex,rfl⟩:=hX;exact this)
  (λX' hX=>by have:=he X' hX;obtain⟨C,s₀,H₀,ex,rfl⟩:=hX;exact this) hs hs').imp (Fh (Fg hj hj' hne))
end
def OK:RD2:=λx y h Q=>match x,y with
 | .int i,.int j=>Q (.int (i+j)) h
 | .tup a,.tup b=>a.length+b.length<=sizeLine/\Q (.tup (a++b)) h
 | .lst a,.lst b=> ∃xs ys,h a=some xs/\h b=some ys/\xs.length+ys.length<=sizeLine/\ ∀p,h p=none->Q (.lst p) (zB h p (xs++ys))
 |_,_=>False
def AN:RD2:=λx y h Q=>match x,y with
 | .int i,.int j=>Q (.int (i-j)) h
 |_,_=>False
def AO:RD2:=λx y h Q=>match x,y with
 | .int i,.int j=>CMul i j/\Q (.int (i*j)) h
 | .lst a,.int k=> ∃xs,h a=some xs/\ -(2^63)<=k/\k<2^63/\xs.length*k.toNat<=sizeLine/\ ∀p,h p=none->Q (.lst p) (zB h p (S4 k.toNat xs).flatten)
 |_,_=>False
def EI:RD2:=λx y h Q=>match x,y with
 | .int i,.int j=>0<j/\Q (.int (i%j)) h
 |_,_=>False
def OL:RD2:=λx y h Q=>match x,y with
 | .int i,.int j=>AD i j/\Q (.int (i / j)) h
 |_,_=>False
def OM:RD2:=λx y h Q=>match x,y with
 | .int i,.int j=>AE i j/\Q (.int (i^j.toNat)) h
 |_,_=>False
def RQ (p:D1->D1->M6):RD2:=λx y h Q=>match x,y with
 | .int i,.int j=>Q (.bl (p i j)) h
 |_,_=>False
def eqD:RD2:=λx y h Q=>match x,y with
 | .int i,.int j=>Q (.bl (decide (i=j))) h
 | .bl i,.bl j=>Q (.bl (decide (i=j))) h
 | .str i,.str j=>Q (.bl (decide (i=j))) h
 |_,_=>False
def neD:RD2:=λx y h Q=>match x,y with
 | .int i,.int j=>Q (.bl (!decide (i=j))) h
 | .bl i,.bl j=>Q (.bl (!decide (i=j))) h
 | .str i,.str j=>Q (.bl (!decide (i=j))) h
 |_,_=>False
section
variable {X:Cx}
theorem VR {f:G1->G1->Sem G1}{C:D1->D1->Prop}{g:D1->D1->V}{gd:D1->D1->D}{r:RD2}(ho:OpR X f (rI C g))(hg: ∀i j H,RelD X.K H (gd i j) (g i j))
 (hr: ∀x y h Q,r x y h Q-> ∃i j,x= .int i/\y= .int j/\C i j/\Q (gd i j) h):OpQ X f r:=ho.imp λx y H Q ⟨dx,dy,h,Qd,rx,ry,rh,q,p⟩=>by
 obtain⟨i,j,e1,e2,c,q'⟩:=hr dx dy h Qd q;subst e1 e2;exact⟨i,j,rx,ry,c,p _ _ _ _ (.refl H) rh (hg i j H) q'⟩
theorem vw {f:G1->G1->Sem G1}{g:D1->D1->V}{gd:D1->D1->D}{r:RD2}(ho:OpR X f (rI0 g))(hg: ∀i j H,RelD X.K H (gd i j) (g i j))
 (hr: ∀x y h Q,r x y h Q-> ∃i j,x= .int i/\y= .int j/\Q (gd i j) h):OpQ X f r:=ho.imp λx y H Q ⟨dx,dy,h,Qd,rx,ry,rh,q,p⟩=>by
 obtain⟨i,j,e1,e2,q'⟩:=hr dx dy h Qd q;subst e1 e2;exact⟨i,j,rx,ry,p _ _ _ _ (.refl H) rh (hg i j H) q'⟩
theorem Wt:OpQ X (J5 .Sub) AN:=vw (gd:=λi j=> .int (i-j)) Ce (λ_ _ _=>rfl) λx y h Q q=>by
 cases x<;>first|exact False.elim q|(cases y<;>first|exact False.elim q|exact⟨_,_,rfl,rfl,q⟩)
theorem wZ:OpQ X (J5 .Mod) EI:=VR (gd:=λi j=> .int (i%j)) Cf (λ_ _ _=>rfl) λx y h Q q=>by
 cases x<;>first|exact False.elim q|(cases y<;>first|exact False.elim q|exact⟨_,_,rfl,rfl,q.1,q.2⟩)
theorem Nn:OpQ X (J5 .FloorDiv) OL:=VR (gd:=λi j=> .int (i / j)) Mq (λ_ _ _=>rfl) λx y h Q q=>by
 cases x<;>first|exact False.elim q|(cases y<;>first|exact False.elim q|exact⟨_,_,rfl,rfl,q.1,q.2⟩)
theorem Gc:OpQ X (J5 .Pow) OM:=VR (gd:=λi j=> .int (i^j.toNat)) Cg (λ_ _ _=>rfl) λx y h Q q=>by
 cases x<;>first|exact False.elim q|(cases y<;>first|exact False.elim q|exact⟨_,_,rfl,rfl,q.1,q.2⟩)
theorem WN {p:D1->D1->M6}: ∀x y h Q,RQ p x y h Q-> ∃i j,x= .int i/\y= .int j/\Q (.bl (p i j)) h:=λx y h Q q=>by
 cases x<;>first|exact False.elim q|(cases y<;>first|exact False.elim q|exact⟨_,_,rfl,rfl,q⟩)
theorem VS:OpQ X (M7 .Lt) (RQ λi j=>decide (i<j)):=vw (gd:=λi j=> .bl (decide (i<j))) LZ (λ_ _ _=>rfl) WN
theorem VT:OpQ X (M7 .LtE) (RQ λi j=>decide (i<=j)):=vw (gd:=λi j=> .bl (decide (i<=j))) Oa (λ_ _ _=>rfl) WN
theorem Dt:OpQ X (M7 .Gt) (RQ λi j=>decide (j<i)):=vw (gd:=λi j=> .bl (decide (j<i))) Ob (λ_ _ _=>rfl) WN
theorem Du:OpQ X (M7 .GtE) (RQ λi j=>decide (j<=i)):=vw (gd:=λi j=> .bl (decide (j<=i))) Oc (λ_ _ _=>rfl) WN
theorem BC {α:Type}[DecidableEq α]{f:α->V}(hf: ∀a b,f a=f b->a=b)(a b:α):decide (f a=f b)=decide (a=b):=by
 by_cases h:a=b
 ·subst h;simp
 ·rw [D9 h,D9 (λe=>h (hf a b e))]
theorem oq_eq:OpQ X (M7 .Eq) eqD:=op_eq.imp λx y H Q ⟨dx,dy,h,Qd,rx,ry,rh,q,p⟩=>by
 cases dx<;>first|exact False.elim q|(cases dy<;>first|exact False.elim q|skip)
 all_goals first
  |(cases (show x= .int _ from rx);cases (show y= .int _ from ry);refine⟨rfl,p _ _ _ _ (.refl H) rh ?_ q⟩;rw [BC (f:=V.int) (λa b e=>by cases e;rfl)];rfl)
  |(cases (show x= .bl _ from rx);cases (show y= .bl _ from ry);refine⟨rfl,p _ _ _ _ (.refl H) rh ?_ q⟩;rw [BC (f:=V.bl) (λa b e=>by cases e;rfl)];rfl)
  |(cases (show x= .str _ from rx);cases (show y= .str _ from ry);refine⟨rfl,p _ _ _ _ (.refl H) rh ?_ q⟩;rw [BC (f:=V.str) (λa b e=>by cases e;rfl)];rfl)
theorem oq_ne:OpQ X (M7 .NotEq) neD:=op_ne.imp λx y H Q ⟨dx,dy,h,Qd,rx,ry,rh,q,p⟩=>by
 cases dx<;>first|exact False.elim q|(cases dy<;>first|exact False.elim q|skip)
 all_goals first
  |(cases (show x= .int _ from rx);cases (show y= .int _ from ry);refine⟨rfl,p _ _ _ _ (.refl H) rh ?_ q⟩;rw [BC (f:=V.int) (λa b e=>by cases e;rfl)];rfl)
  |(cases (show x= .bl _ from rx);cases (show y= .bl _ from ry);refine⟨rfl,p _ _ _ _ (.refl H) rh ?_ q⟩;rw [BC (f:=V.bl) (λa b e=>by cases e;rfl)];rfl)
  |(cases (show x= .str _ from rx);cases (show y= .str _ from ry);refine⟨rfl,p _ _ _ _ (.refl H) rh ?_ q⟩;rw [BC (f:=V.str) (λa b e=>by cases e;rfl)];rfl)
def Fi (K:G2):R2:=λx y H Q=> ∃a b xs ys,x= .ref a/\y= .ref b/\SqT K H a xs/\SqT K H b ys/\xs= []/\Q (.ref b) H
theorem op_catT0:OpR X (J5 .Add) (Fi X.K):=by
 intro pins s σ H x y v u Q I rx ry h;obtain⟨a,b,xs,ys,rfl,rfl,ha,hb,hx,q⟩:=h;cases rx;cases ry;obtain⟨its,r1,p1,_⟩:=I.tuple ha;obtain⟨its2,r2,p2,_⟩:=I.tuple hb;have hv:its= []:=r1.nil_iff.mpr hx;obtain⟨⟨cls,dd,data,sl⟩,ho,hc,n,hd⟩:=id p1;obtain⟨⟨cls2,dd2,sL,sl2⟩,ho2,hc2,n2,hd2⟩:=id p2;simp only at hc hd hc2 hd2;subst hc hd hc2 hd2;exact lI ⟨_,ho,rfl⟩ ⟨_,ho2,rfl⟩ gY kI cJ cB (aU _ _)
  (tuple_addW0 a b its.toArray its2.toArray n n2 dd dd2 sl sl2 (by simp [hv])) ⟨ho,ho2,.ref b,H,I,rfl,q⟩
theorem jH:OpQ X (J5 .Add) OK:=(op_add.or (op_catT.or (op_catT0.or Cq))).imp λx y H Q ⟨dx,dy,h,Qd,rx,ry,rh,q,p⟩=>by
 cases dx<;>first|exact False.elim q|(cases dy<;>first|exact False.elim q|skip)
 ·exact .inl ⟨_,_,rx,ry,p (.int _) _ _ _ (.refl H) rh rfl q⟩
 ·rename_i ds es;obtain⟨a,vs,e1,h1,r1⟩:=(show ∃a vs,x= .ref a/\H a=some (.tup vs)/\RelDs X.K H ds vs from rx);obtain⟨b,us,e2,h2,r2⟩:=(show ∃a vs,y= .ref a/\H a=some (.tup vs)/\RelDs X.K H es vs from ry);subst e1 e2;obtain⟨hz,q⟩:=q
  by_cases hv:vs= []
  ·subst hv;have e:ds= []:=Y1.mp r1.length;subst e;exact .inr (.inr (.inl ⟨a,b,[],us,rfl,rfl,SqT.of h1,SqT.of h2,rfl,p (.tup es) _ _ _ (.refl H) rh ⟨b,us,rfl,h2,r2⟩ q⟩))
  ·refine .inr (.inl ⟨a,b,vs,us,rfl,rfl,SqT.of h1,SqT.of h2,hv,by rw [<-r1.length,<-r2.length];exact hz,λe=> ?_,λ_ c hc=> ?_⟩)
   ·subst e;have e:es= []:=Y1.mp r2.length;subst e;rw [E3] at q;exact p (.tup ds) _ _ _ (.refl H) rh ⟨a,vs,rfl,h1,r1⟩ q
   ·exact p (.tup (ds++es)) _ _ _ (.new hc) (rh.new hc) ⟨c,vs++us,rfl,ji,(r1.append r2).mono (.new hc)⟩ q
 ·rename_i a b;obtain⟨xs,ys,h1,h2,hz,q⟩:=q;obtain⟨vs,e1,r1⟩:=rh a xs h1;obtain⟨us,e2,r2⟩:=rh b ys h2;refine .inr (.inr (.inr ⟨a,b,vs,us,rx.1,ry.1,e1,e2,by rw [<-r1.length,<-r2.length];exact hz,λc hc=> ?_⟩));exact p (.lst c) _ _ _ (.new hc) (rh.newL hc (r1.append r2)) ⟨rfl,_,ji⟩ (q c (rh.free hc))
theorem RelDs.flat {K:G2}{H:Hp}{ds:G0 D}{vs:G0 V}(r:RelDs K H ds vs): ∀k:G9,RelDs K H (S4 k ds).flatten (S4 k vs).flatten
 |0=>by simp;exact .nil
 |k+1=>by rw [K4,K4,W7,W7];exact r.append (RelDs.flat r k)
theorem oq_mul:OpQ X (J5 .Mult) AO:=(op_mul.or Cr).imp λx y H Q ⟨dx,dy,h,Qd,rx,ry,rh,q,p⟩=>by
 cases dx<;>first|exact False.elim q|(cases dy<;>first|exact False.elim q|skip)
 ·exact .inl ⟨_,_,rx,ry,q.1,p (.int _) _ _ _ (.refl H) rh rfl q.2⟩
 ·obtain⟨xs,h1,b1,b2,hz,q⟩:=q;obtain⟨vs,e1,r1⟩:=rh _ xs h1;refine .inr ⟨_,_,vs,rx.1,ry,e1,b1,b2,by rw [<-r1.length];exact hz,λc hc=> ?_⟩;exact p (.lst c) _ _ _ (.new hc) (rh.newL hc (r1.flat _)) ⟨rfl,_,ji⟩ (q c (rh.free hc))
end
def ixD:RD2:=λx y h Q=>match x,y with
 | .tup ds,.int i=> ∃d,atI ds i=some d/\Q d h
 | .lst a,.int i=> ∃ds d,h a=some ds/\atI ds i=some d/\Q d h
 | .scr ns,.int i=> ∃n,atI ns i=some n/\Q (.int n) h
 |_,_=>False
theorem Gd {K:G2}{H:Hp}{ds:G0 D}{vs:G0 V}(r:RelDs K H ds vs){i:D1}{d:D}(e:atI ds i=some d): ∃v,atI vs i=some v/\RelD K H d v:=by
 unfold atI at e ⊢;rw [<-r.length];cases q:ixN ds.length i with
 |none=>rw [q] at e;cases e
 |some j=>rw [q] at e;exact r.get e
theorem No {α β:Type}(f:α->β){xs:G0 α}{i:D1}{x:α}(e:atI xs i=some x):atI (xs.map f) i=some (f x):=by
 unfold atI at e ⊢;rw [G6];cases q:ixN xs.length i with
 |none=>rw [q] at e;cases e
 |some j=>
  rw [q] at e;show (xs.map f)[j]? =_;rw [R9,(show xs[j]? =some x from e)];rfl
section
variable {X:Cx}{a b e:S5}{ta tb te:TED}{pos p2:Pos}
theorem ON: ∀σ H Q,LE X.K (dOp ixD ta tb) σ H Q->tOp (rIx X.K) (LE X.K ta) (LE X.K tb) σ H Q:=λσ H Q ⟨tF,h,Qd,rs,rh,t,p⟩=>
 LE.bind rs rh t λdx x h1 H1 k1 rs1 rh1 r1 t1=>LE.bind rs1 rh1 t1 λdy y h2 H2 k2 rs2 rh2 ry q=>by
  have rx:=r1.mono k2;have kk:=k1.trans k2;cases dx<;>first|exact False.elim q|(cases dy<;>first|exact False.elim q|skip)
  ·rename_i ds i;obtain⟨d,e,q⟩:=q;obtain⟨a,vs,e1,hH,r⟩:=(show ∃a vs,x= .ref a/\H2 a=some (.tup vs)/\RelDs X.K H2 ds vs from rx);obtain⟨v,e2,rv⟩:=Gd r e;exact .inr (.inl ⟨a,vs,i,v,e1,ry,SqT.of hH,e2,p _ _ _ _ kk rh2 rv q⟩)
  ·rename_i a i;obtain⟨ds,d,hd,e,q⟩:=q;obtain⟨vs,hH,r⟩:=rh2 a ds hd;obtain⟨v,e2,rv⟩:=Gd r e;exact .inl ⟨a,vs,i,v,rx.1,ry,SqL.of hH,e2,p _ _ _ _ kk rh2 rv q⟩
  ·rename_i ns i;obtain⟨n,e,q⟩:=q;obtain⟨a,e1,hS⟩:=(show ∃a,x= .ref a/\Scr X.K H2 a ns from rx);exact .inl ⟨a,_,i,.int n,e1,ry,hS.sq,No V.int e,p (.int n) _ _ _ kk rh2 rfl q⟩
theorem qix (ha:QE X a ta)(hb:QE X b tb)(hs:WJ b):QE X (.Subscript a b pos) (dOp ixD ta tb):=(Og Co ha hb hs).imp ON
end
def BD:RDn:=λds h Q=>match ds with
 | [.tup xs]=>Q (.int xs.length) h
 | [.lst a]=> ∃xs,h a=some xs/\Q (.int xs.length) h
 | [.scr ns]=>Q (.int ns.length) h
 |_=>False
def OO:RDn:=λds h Q=>match ds with
 | [.int i]=>Q (.int i) h
 | [.bl k]=>Q (.int (if k then 1 else 0)) h
 |_=>False
def OP:RDn:=λds h Q=>match ds with
 | [.int i,.int j]=>Q (.int (if j>i then j else i)) h
 |_=>False
def RR:RDn:=λds h Q=>match ds with
 | [.tup xs]=>Q (.tup xs) h
 | [.lst a]=> ∃xs,h a=some xs/\Q (.tup xs) h
 |_=>False
def Wu:RDn:=λds h Q=>match ds with
 | [.lst a]=> ∃xs,h a=some xs/\Q (.tup xs) (jK h a)
 |_=>False
def Fj:RDn:=λds h Q=>match ds with
 | [.tup xs]=> ∀p,h p=none->Q (.lst p) (zB h p xs)
 | [.lst a]=> ∃xs,h a=some xs/\ ∀p,h p=none->Q (.lst p) (zB h p xs)
 |_=>False
section
variable {X:Cx}
theorem Fk:wX X (.builtin "len") BD:=call_len_seq.imp λxs H Q ⟨ds,h,Qd,r,rh,q,p⟩=>by
 unfold BD at q;split at q
 ·rename_i es;obtain⟨v,e,r1⟩:=ju r;obtain⟨a,vs,e1,hH,r2⟩:=(show ∃a vs,v= .ref a/\H a=some (.tup vs)/\RelDs X.K H es vs from r1);subst e e1;exact⟨a,vs,rfl,.inr (SqT.of hH),by rw [<-r2.length];exact p (.int _) _ _ _ (.refl H) rh rfl q⟩
 ·rename_i a;obtain⟨es,hd,q⟩:=q;obtain⟨v,e,r1⟩:=ju r;obtain⟨vs,hH,r2⟩:=rh a es hd;have e1:v= .ref a:=r1.1;subst e e1;exact⟨a,vs,rfl,.inl (SqL.of hH),by rw [<-r2.length];exact p (.int _) _ _ _ (.refl H) rh rfl q⟩
 ·rename_i ns;obtain⟨v,e,r1⟩:=ju r;obtain⟨a,e1,hS⟩:=(show ∃a,v= .ref a/\Scr X.K H a ns from r1);subst e e1;exact⟨a,_,rfl,.inl hS.sq,by rw [G6];exact p (.int _) _ _ _ (.refl H) rh rfl q⟩
 ·exact q.elim
theorem RS:wX X (.type "int") OO:=call_int1.imp λxs H Q ⟨ds,h,Qd,r,rh,q,p⟩=>by
 unfold OO at q;split at q
 ·rename_i i;obtain⟨v,e,r1⟩:=ju r;cases (show v= .int i from r1);exact .inl ⟨i,e,p (.int i) _ _ _ (.refl H) rh rfl q⟩
 ·rename_i k;obtain⟨v,e,r1⟩:=ju r;cases (show v= .bl k from r1);exact .inr ⟨k,e,p (.int _) _ _ _ (.refl H) rh rfl q⟩
 ·exact q.elim
theorem Fl (hc:X.calm=true):wX X (.builtin "max") OP:=(Qx hc).imp λxs H Q ⟨ds,h,Qd,r,rh,q,p⟩=>by
 unfold OP at q;split at q
 ·rename_i i j;obtain⟨v,w,e,r1,r2⟩:=wx r;cases (show v= .int i from r1);cases (show w= .int j from r2);exact⟨i,j,e,p (.int _) _ _ _ (.refl H) rh rfl q⟩
 ·exact q.elim
theorem cq_tuple:wX X (.type "tuple") RR:=call_tuple_of.imp λxs H Q ⟨ds,h,Qd,r,rh,q,p⟩=>by
 unfold RR at q;split at q
 ·rename_i es;obtain⟨v,e,r1⟩:=ju r;obtain⟨a,vs,e1,hH,r2⟩:=(show ∃a vs,v= .ref a/\H a=some (.tup vs)/\RelDs X.K H es vs from r1);subst e e1;exact⟨a,vs,rfl,.inr ⟨SqT.of hH,p (.tup es) _ _ _ (.refl H) rh ⟨a,vs,rfl,hH,r2⟩ q⟩⟩
 ·rename_i a;obtain⟨es,hd,q⟩:=q;obtain⟨v,e,r1⟩:=ju r;obtain⟨vs,hH,r2⟩:=rh a es hd;have e1:v= .ref a:=r1.1;subst e e1;exact⟨a,vs,rfl,.inl ⟨SqL.of hH,λc hc=>p (.tup es) _ _ _ (.new hc) (rh.new hc) ⟨c,vs,rfl,ji,r2.mono (.new hc)⟩ q⟩⟩
 ·exact q.elim
theorem Zn:wX X (.type "tuple") Wu:=cq_tuple.imp λxs H Q ⟨ds,h,Qd,r,rh,q,p⟩=>by
 unfold Wu at q;split at q
 ·rename_i a;obtain⟨es,hd,q⟩:=q;exact⟨[.lst a],h,λd h'=>Qd d (jK h' a),r,rh,⟨es,hd,q⟩,λd v h' H' k rh' rd q'=>p d v _ H' k (rh'.sub (Sub.drop h' a)) rd q'⟩
 ·exact q.elim
theorem Np:wX X (.type "list") Fj:=call_list_of.imp λxs H Q ⟨ds,h,Qd,r,rh,q,p⟩=>by
 unfold Fj at q;split at q
 ·rename_i es;obtain⟨v,e,r1⟩:=ju r;obtain⟨a,vs,e1,hH,r2⟩:=(show ∃a vs,v= .ref a/\H a=some (.tup vs)/\RelDs X.K H es vs from r1);subst e e1;exact⟨a,vs,rfl,.inr (SqT.of hH),λc hc=>p (.lst c) _ _ _ (.new hc) (rh.newL hc r2) ⟨rfl,_,ji⟩ (q c (rh.free hc))⟩
 ·rename_i a;obtain⟨es,hd,q⟩:=q;obtain⟨v,e,r1⟩:=ju r;obtain⟨vs,hH,r2⟩:=rh a es hd;have e1:v= .ref a:=r1.1;subst e e1;exact⟨a,vs,rfl,.inl (SqL.of hH),λc hc=>p (.lst c) _ _ _ (.new hc) (rh.newL hc r2) ⟨rfl,_,ji⟩ (q c (rh.free hc))⟩
 ·exact q.elim
end
def YE:D->P2 J9
 | .non=>some "NoneType" | .bl _=>some "bool" | .int _=>some "int" | .str _=>some "str" | .tup _=>some "tuple" | .lst _=>some "list" | .dic _ _=>some "dict" | .dct _=>none| .scr _=>none| .exc _=>none| .fn _=>none
def Fm (T:J9)(n:J9):M6:=n==T||(T== "int" &&n== "bool")
theorem Dv {K:G2}{H:Hp}{d:D}{v:V}{n:J9}(r:RelD K H d v)(e:YE d=some n):TyOf K H v (.type n):=by
 cases d with
 |non=>cases (show v= .non from r);cases e;exact .non
 |bl b=>cases (show v= .bl b from r);cases e;exact .bl b
 |int i=>cases (show v= .int i from r);cases e;exact .int i
 |str x=>cases (show v= .str x from r);cases e;exact .str x
 |tup ds=>
  obtain⟨a,vs,e1,hH,_⟩:=(show ∃a vs,v= .ref a/\H a=some (.tup vs)/\RelDs K H ds vs from r);subst e1;cases e;exact .tup hH
 |lst a=>
  obtain⟨e1,vs,hH⟩:=(show v= .ref a/\ ∃vs,H a=some (.lst vs) from r);subst e1;cases e;exact .lst hH
 |dic x i=>
  obtain⟨a,e1,hH⟩:=(show ∃a,v= .ref a/\H a=some (.dK [(W0 x,V.int i)]) from r);subst e1;cases e;exact .dK hH
 |dct a=>cases e
 |scr ns=>cases e
 |exc C=>cases e
 |fn a=>cases e
def Nq:G0 J9:= ["NoneType","bool","int","str","tuple","list","dict"]
theorem XA {d:D}{n:J9}(e:YE d=some n):n∈Nq:=by
 cases d<;>cases e<;>decide
def OQ (K:G2):Prop:= ∀n∈Nq,∀T∈ ["tuple","int","bool","list","str"],eQ K (.type n) (.type T)=some (Fm T n)
theorem Nr (K:G2):OQ K:=by
 intro n hn T hT;simp only [Nq,P6,S9,or_false] at hn hT;rcases hn with rfl|rfl|rfl|rfl|rfl|rfl|rfl<;>rcases hT with rfl|rfl|rfl|rfl|rfl<;>with_unfolding_all rfl
theorem Ge {X:Cx}(T:J9):CallR X (.builtin "isinstance") (λxs H Q=> ∃x t b,xs= [x,.ty T]/\TyOf X.K H x t/\eQ X.K t (.type T)=some b/\Q (.bl b) H):=by
 intro pins s σ H xs us Q I r h;obtain⟨x,t,b,rfl,ty,e,q⟩:=h;obtain⟨u,w',rfl,rx,rt⟩:=Dg r;cases (show w'=K0 T from rt);exact Qz I rx ty e λtk=>⟨.bl b,H,I.tok tk,rfl,q⟩
def dIs (T:J9)(ta:TED):TED:=λσ h Q=>ta σ h λx h1=> ∃n,YE x=some n/\Q (.bl (Fm T n)) h1
theorem OR {X:Cx}{a:S5}{ta:TED}{T:J9}{t:Str}{p p2 pos:Pos}(hT:T∈ ["tuple","int","bool","list","str"])(hg:Gl X "isinstance")(hm:X.mg "isinstance" =none)(hg2:Gl X t)(hm2:X.mg t=none)(hv:E4 t=some (.type T))(ha:QE X a ta)
 (hn:t≠ "__name__" :=by decide)(hd:(t==("__debug__" :Str))=false:=by decide)
 (h1:D2 [a,.Name t p2] X.env=(false,O4 a X.env)::D2 [.Name t p2] X.env:=by rfl)(h2:(E6 pos (D2 [.Name t p2] X.env)).any (·.1)=false:=by rfl):
 QE X (.Call (.Name "isinstance" p) [a,.Name t p2] [] pos) (dIs T ta):=
 (JP (Ge T) hg hm Y9 (wn ha (wn (Qm (v:= .ty T) hg2 hm2 hv rfl hn hd) pa_nil (by rfl)) h1) (by decide) (by decide) h1 h2).imp
  λσ H Q ⟨tF,h,Qd,rs,rh,t,p⟩=>LE.bind rs rh t λd v h1 H1 k1 rs1 rh1 r1 ⟨n,e,q⟩=>⟨v,.type n,Fm T n,rfl,Dv r1 e,Nr _ n (XA e) T hT,p (.bl _) _ _ _ k1 rh1 rfl q⟩
theorem Gf (bs:G0 M6):(N4 bs.length).all (λi=>bs.getD i false)=bs.all id:=by
 induction bs with
 |nil=>rfl
 |cons b bs ih=>
  rw [P8,iG,oZ,Q7,oZ];show (b&&_)=(b&&bs.all id);rw [<-ih];rfl
theorem Gg (bs:G0 M6):(N4 bs.length).any (λi=>bs.getD i false)=bs.any id:=by
 induction bs with
 |nil=>rfl
 |cons b bs ih=>
  rw [P8,iG,c9,lN,c9];show (b||_)=(b||bs.any id);rw [<-ih];rfl
theorem YF {bs:G0 M6}{its:G0 G1}(r:Vals (bs.map V.bl) its){i:G9}{v:G1}(e:its[i]? =some v):v= .bool (bs.getD i false):=by
 have hl:=r.length;rw [G6] at hl;have hi:i<its.length:=(D0.mp e).1;have hb:(bs.map V.bl)[i]? =some (.bl bs[i]):=by rw [R9,G8 (by omega)];rfl
 obtain⟨u,e1,r1⟩:=r.get hb;rw [e] at e1;cases e1;rw [N6,G8 (by omega)];exact r1
section
variable {X:Cx}
theorem WO (hc:X.calm=true):CallR X (.builtin "all") (λxs H Q=> ∃ (a:G7) (bs:G0 M6),xs= [.ref a]/\SqL X.K H a (bs.map V.bl)/\Q (.bl (bs.all id)) H):=by
 intro pins s σ H xs us Q I r h;obtain⟨a,bs,rfl,hS,q⟩:=h;obtain⟨u,rfl,ru⟩:=vU r;cases ru;obtain⟨its,rv,pl,hz⟩:=I.list hS;have hl:=pl.isList;have hlt:a<s.heap.objs.size:=by obtain⟨_,e,_⟩:=hl;exact D4 e
 refine call_all_walk (aA hl ?_);refine⟨s.heap.objs.size,_,_,_,_,_,λi=>bs.getD i false,rfl,Walks.list (A:=X.A.in1) (show X.A.in1.handled=none from I.ok.hd hc) s.heap.objs.size a (T5 hlt) its.toArray,⟨⟨_,S3 _ rfl,rfl,rfl⟩,hl.push _⟩,?_,λh' tk hk=> ?_⟩
 ·intro i v s' Q' E' hP hQ;have e:its[i]? =some v:=by simpa using hP
  rw [YF rv e];exact O9 hQ
 ·have hn:its.toArray.size=bs.length:=by rw [D7,<-rv.length,G6]
  rw [hn,Gf];exact⟨.bl _,H,I.kept (t':=tk) (λb o e=>hk b o (λz=>by rw [P0.mp z] at e;exact absurd (D4 e) (C3 _)) (G5 _ e)),rfl,q⟩
theorem WP (hc:X.calm=true):CallR X (.builtin "any") (λxs H Q=> ∃ (a:G7) (bs:G0 M6),xs= [.ref a]/\SqL X.K H a (bs.map V.bl)/\Q (.bl (bs.any id)) H):=by
 intro pins s σ H xs us Q I r h;obtain⟨a,bs,rfl,hS,q⟩:=h;obtain⟨u,rfl,ru⟩:=vU r;cases ru;obtain⟨its,rv,pl,hz⟩:=I.list hS;have hl:=pl.isList;have hlt:a<s.heap.objs.size:=by obtain⟨_,e,_⟩:=hl;exact D4 e
 refine call_any_walk (aA hl ?_);refine⟨s.heap.objs.size,_,_,_,_,_,λi=>bs.getD i false,rfl,Walks.list (A:=X.A.in1) (show X.A.in1.handled=none from I.ok.hd hc) s.heap.objs.size a (T5 hlt) its.toArray,⟨⟨_,S3 _ rfl,rfl,rfl⟩,hl.push _⟩,?_,λh' tk hk=> ?_⟩
 ·intro i v s' Q' E' hP hQ;have e:its[i]? =some v:=by simpa using hP
  rw [YF rv e];exact O9 hQ
 ·have hn:its.toArray.size=bs.length:=by rw [D7,<-rv.length,G6]
  rw [hn,Gg];exact⟨.bl _,H,I.kept (t':=tk) (λb o e=>hk b o (λz=>by rw [P0.mp z] at e;exact absurd (D4 e) (C3 _)) (G5 _ e)),rfl,q⟩
theorem yT {K:G2}{H:Hp}: ∀ {bs:G0 M6} {vs:G0 V},RelDs K H (bs.map D.bl) vs->vs=bs.map V.bl
 | [],_,h=>h
 |b::bs,vs,h=>by
  obtain⟨v,r,e,h1,h2⟩:=(show ∃v r,vs=v::r/\RelD K H (.bl b) v/\RelDs K H (bs.map D.bl) r from h);rw [e,yT h2,(show v= .bl b from h1)];rfl
def Nt:RDn:=λds h Q=> ∃ (a:G7) (bs:G0 M6),ds= [.lst a]/\h a=some (bs.map D.bl)/\Q (.bl (bs.all id)) (jK h a)
def OS:RDn:=λds h Q=> ∃ (a:G7) (bs:G0 M6),ds= [.lst a]/\h a=some (bs.map D.bl)/\Q (.bl (bs.any id)) (jK h a)
theorem yL (hc:X.calm=true):wX X (.builtin "all") Nt:=(WO hc).imp λxs H Q ⟨ds,h,Qd,r,rh,⟨a,bs,e,hd,q⟩,p⟩=>by
 subst e;obtain⟨v,e,r1⟩:=ju r;obtain⟨vs,hH,r2⟩:=rh a _ hd;have e1:v= .ref a:=r1.1;rw [yT r2] at hH;subst e e1;exact⟨a,bs,rfl,SqL.of hH,p (.bl _) _ _ _ (.refl H) (rh.sub (Sub.drop h a)) rfl q⟩
theorem Fn (hc:X.calm=true):wX X (.builtin "any") OS:=(WP hc).imp λxs H Q ⟨ds,h,Qd,r,rh,⟨a,bs,e,hd,q⟩,p⟩=>by
 subst e;obtain⟨v,e,r1⟩:=ju r;obtain⟨vs,hH,r2⟩:=rh a _ hd;have e1:v= .ref a:=r1.1;rw [yT r2] at hH;subst e e1;exact⟨a,bs,rfl,SqL.of hH,p (.bl _) _ _ _ (.refl H) (rh.sub (Sub.drop h a)) rfl q⟩
end
def AQ (to:TED)(te:TED):TED:=λσ h Q=>to σ h λx h1=> ∃a,x= .lst a/\te σ h1 λy h2=> ∃xs,h2 a=some xs/\xs.length<sizeLine/\Q .non (zB h2 a (xs++ [y]))
section
variable {X:Cx}{o e i:S5}{to te ti:TED}{apos cpos pos:Pos}
theorem EJ (ho:QE X o to)(he:QE X e te)(hbase:aV o "append" X.env (O4 o X.env)=O4 o X.env:=by rfl)
 (hfew:((E6 cpos (D2 [e] X.env)).all (λx=> !x.1)&&(iW cpos (dF [] X.env)).all (λx=>x.1.isSome)&&decide ([e].length+([]:G0 cL).length+(if ([]:G0 cL).isEmpty then 0 else 1)<30))=true:=by rfl)
 (hline:(apos.endLine==cpos.line)=true:=by rfl)(hs:D2 [e] X.env=(false,O4 e X.env)::D2 [] X.env:=by rfl)(hplain:(E6 cpos (D2 [] X.env)).any (·.1)=false:=by rfl):
 QE X (.Call (.Attribute o "append" apos) [e] [] cpos) (AQ to te):=
 (ME cF o0 o6 QH ho (wn he pa_nil hs) hbase hfew hline hs hplain).imp
  λσ H Q ⟨tF,h,Qd,rs,rh,t,p⟩=>LE.bind rs rh t λd v h1 H1 k1 rs1 rh1 r1 ⟨a,e,q⟩=>by
   subst e;obtain⟨e1,vs,hH⟩:=(show v= .ref a/\ ∃vs,H1 a=some (.lst vs) from r1);subst e1;refine⟨.inl ⟨rfl,vs,SqL.of hH⟩,?_⟩;refine LE.bind rs1 rh1 q λy u h2 H2 k2 rs2 rh2 r2 ⟨xs,hx,hz,q2⟩=> ?_
   obtain⟨ws,hW,r3⟩:=rh2 a xs hx;refine⟨a,ws,u,rfl,rfl,hW,by rw [<-r3.length];exact hz,p .non _ _ _ (k1.trans (k2.trans (.put hW))) (rh2.put hW (r3.append (.cons r2 .nil))) rfl q2⟩
def Fo (to ti:TED):TGD:=λd σ h Q=>to σ h λo h1=>ti σ h1 λi h2=> ∃a k xs j,o= .lst a/\i= .int k/\h2 a=some xs/\ixN xs.length k=some j/\Q σ (zB h2 a (xs.set j d))
theorem Fp (ho:QE X o to)(hi:QE X i ti)
 (ha: ∀v,dL (.Subscript o i pos) X.env v=(do
  let ov <-bF [v] (O4 o X.env)
  let iv <-bF [v,ov] (O4 i X.env)
  hU pos
  bF [v,ov,iv] (pQ ov iv v)
  rO [v,ov,iv] []):=by intro _;rfl):QG X (.Subscript o i pos) (Fo to ti):=
 (BW ho hi Dl ha).imp λv σ H Q ⟨d,tF,h,Qd,r,rs,rh,q,p⟩=>
  LE.bind rs rh q λd1 v1 h1 H1 k1 rs1 rh1 r1 q1=>LE.bind rs1 rh1 q1 λd2 v2 h2 H2 k2 rs2 rh2 r2 ⟨a,k,xs,j,e1,e2,hx,hj,q2⟩=>by
   subst e1 e2;have e3:v1= .ref a:=(r1.mono k2).1;obtain⟨ws,hW,r3⟩:=rh2 a xs hx;refine⟨a,ws,k,j,e3,r2,hW,by rw [<-r3.length];exact hj,p _ _ _ _ (k1.trans (k2.trans (.put hW))) (rs2.mono (.put hW)) (rh2.put hW (RelDs.set ((r.mono k1).mono k2) j r3)) q2⟩
end
def UJ (N:G0 Str)(sc:G0 (Str×NameKind))(scope:O0)(js:G0 G9):M6:=
 scope.kind== .function&&scope.names.all (λp=>p.2 != .cell||scope.names.lookup p.1==some .cell)&&scope.names.all (λp=>p.2 != .local||scope.names.lookup p.1==some .local)&&
 scope.names.all (λp=>p.2 != .free||sc.lookup p.1==some .cell||sc.lookup p.1==some .free)&&
 (N4 N.length).all λi=>(scope.names.lookup (N.getD i pJ) !=some .local&&scope.names.lookup (N.getD i pJ) !=some .cell)||js.contains i
theorem zU {X:Cx}{scope:O0}{js:G0 G9}(h:UJ X.N X.env.scope.names scope js=true):BlockOk X scope js:=by
 unfold UJ at h;simp only [B1] at h;obtain⟨⟨⟨⟨h1,h2⟩,h3⟩,h4⟩,h5⟩:=h;refine⟨eq_of_beq h1,λp hp e=> ?_,λp hp e=> ?_,λp hp e=> ?_,λi x e1 e2=> ?_⟩
 ·have:=T3.mp h3 p hp;rw [e] at this;simpa using this
 ·have:=T3.mp h2 p hp;rw [e] at this;simpa using this
 ·have:=T3.mp h4 p hp;rw [e] at this;simpa using this
 ·have hi:i<X.N.length:=(D0.mp e1).1;have:=T3.mp h5 i (L7.mpr hi);rw [N6,e1,Option.getD_some] at this;rcases e2 with e2|e2<;>(rw [e2] at this;simpa using this)
theorem qpt {X:Cx}{e:S5}{t:TTD}(h:QW X e t):QT X e t:=h.pt
theorem Gh {i:G9}{js:G0 G9}{ti:TID}{te:TED}{σ:SD}{h h1:HD}{Q:KD}{ds:G0 D}{j:ItD}(f:D->D)(hz:ds.length<=sizeLine)(hj:j h1=some ds)
 (ht: ∀R:ItD->HD->Prop,R j h1->ti σ h R)(he: ∀d∈ds,∀Q':KD,Q' (f d) h1->te ((jM js σ).set i (some d)) h1 Q')(hq: ∀p,h1 p=none->Q (.lst p) (zB h1 p (ds.map f))):vX (bN i) js ti Ws te σ h Q:=by
 refine ht _ ⟨ds.length,λk ys h'=>h'=h1/\ys=(ds.take k).map f,⟨rfl,by simp⟩,?_⟩;rintro k ys h' ⟨rfl,rfl⟩;refine⟨by simp only [G6,T1];omega,ds,hj,P3 _,λhl p hp=> ?_,λd hd=>⟨_,rfl,?_⟩⟩
 ·rw [T8 hl];exact hq p hp
 ·unfold Ws;dsimp only;rw [S8 rfl];refine he d (P5 hd) _ ⟨h',Sub.refl _,rfl,?_⟩;rw [A2,hd];simp
end L2
namespace HT
open PySem PySem.Spec PyProof.Rows
section
variable {prog:R5}{w:N0}{A:T0}{E:G1->G3->Prop}{s:G3}
theorem yU {t sl:G7}{items:T9 G1}{vl vu:G1}{lo hi:P2 D1}{Q:G1->G3->Prop}(ht:k5 s.heap t items)(hs:s.heap.IsSliceOf sl vl vu .none)(pl:iA vl lo)(pu:iA vu hi)
 (hw:sIx items.size 0 lo=0/\sIx items.size items.size hi=items.size)(h:Q (.ref t) s):R1 (R6 prog w) A (gE (.ref t) (.ref sl)) Q E s:=by
 obtain⟨os,hos,hcs,hds⟩:=id hs;have hTs:s.TypeIs (.ref sl) "slice" :=⟨os,hos,hcs⟩;unfold gE
 try with_reducible refine A1 ?_
 first|refine wpAny_bind (P1 ?_)|skip
 refine wpAny_bind (gF ht.typeIs (by decide) ?_);refine wpAny_bind (E1 (name:=B6 "__getitem__") ht.typeIs O3
  (E8 O3 ht.typeIs dP ?_ (fA _ _)))
 show R1 _ _ (aE (.ref t) >>= _) _ _ s;refine wpAny_bind (kJ ht ?_);refine wpAny_bind (iB hTs ?_);rw [S8 (by decide)];refine wpAny_bind (wO hs pl pu ?_);have hyes:((((sIx items.size 0 lo:G9):D1)==0&&(1:D1)==1&&(sIx items.size items.size hi-sIx items.size 0 lo)==items.size)=true):=by
  rw [hw.1,hw.2];simp
 show R1 _ _ (if (((sIx items.size 0 lo:G9):D1)==0&&(1:D1)==1&&(sIx items.size items.size hi-sIx items.size 0 lo)==items.size)=true then _ else _) _ _ s;rw [S8 hyes];refine wpAny_bind (m:=fE (.ref t)) ?_;unfold fE;refine wpAny_bind (iB ht.typeIs (P1 ?_));rw [S8 (by decide)];exact wpAny_bind (cX (P1 ⟨_,rfl,P1 h⟩))
end
end HT
namespace L2
open PySem PySem.Spec PyProof.Rows
def EK (K:G2):V->P2 D1->P2 D1->Hp->VK->Prop:=λx lo hi H Q=> ∃a xs,x= .ref a/\SqT K H a xs/\(HT.sIx xs.length 0 lo=0/\HT.sIx xs.length xs.length hi=xs.length)/\Q (.ref a) H
variable {X:Cx}
theorem sl_whole:SlR X (EK X.K):=by
 intro pins s σ H x v vl vu lo hi sl Q I rx hs pl pu h;obtain⟨a,xs,rfl,hx,hw,q⟩:=h;cases rx;obtain⟨its,r,ht,hz⟩:=I.tuple hx;have hlen:its.toArray.size=xs.length:=by rw [D7];exact r.length.symm
 refine⟨"tuple",_,PyProof.Rows.slot_tuple_getitem.lookup,ht.typeIs,?_⟩;exact HT.yU ht hs pl pu (by rw [hlen];exact hw) ⟨.ref a,H,I,rfl,q⟩
def yV {α:Type}(xs:G0 α)(lo hi:P2 D1):G0 α:=(xs.drop (HT.sIx xs.length 0 lo)).take (HT.sIx xs.length xs.length hi-HT.sIx xs.length 0 lo)
abbrev TOD:=SD->HD->(P2 D1->HD->Prop)->Prop
def Gi:TOD:=λ_ h Q=>Q none h
def Fq (t:TED):TOD:=λσ h Q=>t σ h λx h1=> ∃i,x= .int i/\Q (some i) h1
def LO (K:G2)(t:TOD):TO:=λσ H Q=> ∃tF h Qd,RelS K H tF σ/\RelH K h H/\t tF h Qd/\ ∀o h' H',Kept H H'->RelH K h' H'->Qd o h'->Q o H'
theorem LO.bind {K:G2}{ta:TOD}{σ:St}{H:Hp}{tF:SD}{h:HD}{kd:P2 D1->HD->Prop}{k:P2 D1->Hp->Prop}(rs:RelS K H tF σ)(rh:RelH K h H)(t:ta tF h kd)(f: ∀o h' H',Kept H H'->RelS K H' tF σ->RelH K h' H'->kd o h'->k o H'):LO K ta σ H k:=
 ⟨tF,h,kd,rs,rh,t,λo h' H' kp r1 q=>f o h' H' kp (rs.mono kp) r1 q⟩
theorem PO.imp {e:P2 S5}{t t':TO}(h:PO X e t)(i: ∀σ H Q,t' σ H Q->t σ H Q):PO X e t':=λpins s σ H Q I q=>h pins s σ H Q I (i σ H Q q)
abbrev QO (X:Cx)(e:P2 S5)(t:TOD):Prop:=PO X e (LO X.K t)
theorem Nu:QO X none Gi:=po_none.imp λσ H Q ⟨tF,h,Qd,rs,rh,q,p⟩=>p none h H (.refl H) rh q
theorem Nv {e:S5}{te:TED}(he:QE X e te):QO X (some e) (Fq te):=(MC he).imp λσ H Q ⟨tF,h,Qd,rs,rh,q,p⟩=>
 LE.bind rs rh q λd v h1 H1 k1 rs1 rh1 r1 ⟨i,e,q1⟩=>by subst e;exact⟨i,r1,p _ _ _ k1 rh1 q1⟩
def slD:D->P2 D1->P2 D1->HD->KD->Prop:=λx lo hi h Q=>match x with
 | .tup ds=>Q (.tup (yV ds lo hi)) h
 | .scr ns=> ∀p,h p=none->Q (.lst p) (zB h p ((yV ns lo hi).map D.int))
 | .lst a=> ∃ds,h a=some ds/\ ∀p,h p=none->Q (.lst p) (zB h p (yV ds lo hi))
 |_=>False
def dSl (te:TED)(tl th:TOD):TED:=λσ h Q=>te σ h λx h1=>tl σ h1 λl h2=>th σ h2 λu h3=>slD x l u h3 Q
theorem WQ {K:G2}{H:Hp}{ds:G0 D}{vs:G0 V}(r:RelDs K H ds vs)(lo hi:P2 D1):RelDs K H (yV ds lo hi) (PV vs lo hi):=by
 unfold yV PV;rw [r.length];exact(r.drop _).take _
theorem WR {α β:Type}(f:α->β)(xs:G0 α)(lo hi:P2 D1):yV (xs.map f) lo hi=(yV xs lo hi).map f:=by
 unfold yV;rw [G6,List.map_take,o7]
theorem Fr {e:S5}{te:TED}{lo hi:P2 S5}{tl th:TOD}{pos p2:Pos}(he:QE X e te)(hl:QO X lo tl)(hu:QO X hi th):QE X (.Subscript e (.Slice lo hi none p2) pos) (dSl te tl th):=
 (Dk (sl_tup.or (sl_whole.or MD)) he hl hu).imp λσ H Q ⟨tF,h,Qd,rs,rh,q,p⟩=>
  LE.bind rs rh q λd v h1 H1 k1 rs1 rh1 r1 q1=>LO.bind rs1 rh1 q1 λl h2 H2 k2 rs2 rh2 q2=>LO.bind rs2 rh2 q2 λu h3 H3 k3 rs3 rh3 q3=>by
   have rv:=(r1.mono k2).mono k3;have kk:=k1.trans (k2.trans k3);cases d<;>first
    |exact False.elim q3
    |skip
   ·rename_i ds;obtain⟨a,vs,e1,hH,r⟩:=(show ∃a vs,v= .ref a/\H3 a=some (.tup vs)/\RelDs X.K H3 ds vs from rv)
    by_cases hw:HT.sIx vs.length 0 l=0/\HT.sIx vs.length vs.length u=vs.length
    ·refine .inr (.inl ⟨a,vs,e1,SqT.of hH,hw,p (.tup (yV ds l u)) _ _ _ kk rh3 ⟨a,vs,rfl,hH,?_⟩ q3⟩);have z:=WQ r l u;have e:PV vs l u=vs:=by unfold PV;rw [hw.1,hw.2];simp
     rwa [e] at z
    ·exact .inl ⟨a,vs,e1,SqT.of hH,hw,λc hc=>p (.tup (yV ds l u)) _ _ _ (kk.trans (.new hc)) (rh3.new hc) ⟨c,_,rfl,ji,(WQ r l u).mono (.new hc)⟩ q3⟩
   ·rename_i a;obtain⟨ds,hd,q3⟩:=q3;obtain⟨vs,hH,r⟩:=rh3 a ds hd;exact .inr (.inr ⟨a,vs,rv.1,SqL.of hH,λc hc=>p (.lst c) _ _ _ (kk.trans (.new hc)) (rh3.newL hc (WQ r l u)) ⟨rfl,_,ji⟩ (q3 c (rh3.free hc))⟩)
   ·rename_i ns;obtain⟨a,e1,hS⟩:=(show ∃a,v= .ref a/\Scr X.K H3 a ns from rv);refine .inr (.inr ⟨a,_,e1,hS.sq,λc hc=>p (.lst c) _ _ _ (kk.trans (.new hc)) (rh3.newL hc ?_) ⟨rfl,_,ji⟩ (q3 c (rh3.free hc))⟩);have z:=WQ (yB (K:=X.K) (H:=H3) ns) l u
    rwa [WR] at z
end L2
namespace HT
open PySem PySem.Spec PyProof.Rows
open Sem (wp)
open Builtin
theorem JB:fillsNumberSlot (.type "tuple") "mul" =pure false:=
 PySem.fillsNumberSlot_seq (id:= "tuple.__mul__") (r:=some (.builtin "tuple.__rmul__")) F.slot_tuple_mul.lookup (by decide +kernel) F.slot_tuple_rmul.lookup (by decide +kernel)
theorem YG:rF (.type "tuple")=pure (some (.builtin "tuple.__mul__")):=by
 unfold rF;rw [mK (T:= "tuple") (name:= "__mul__") (id:= "tuple.__mul__") F.slot_tuple_mul.lookup (by decide +kernel),mK (T:= "tuple") (name:= "__rmul__") (id:= "tuple.__rmul__") F.slot_tuple_rmul.lookup (by decide +kernel)];rfl
section
variable {prog:R5}{w:N0}{A:T0}{E:G1->G3->Prop}{s:G3}
theorem WS {k:D1}{t:Tok}{l:G7}{o:Obj}{its:T9 G1}{n:G9}{P:dZ->G3->Prop}(at_:s.heap.get? l=some o)(tup:o.cls= .type "tuple")(dat:o.data= .seq its n)(h:P (.done (.ret .notImplemented)) s):R1 (R6 prog w) A (Builtin.«int.__rmul__» ⟨[.int k t,.ref l],[]⟩) P E s:=by
 obtain⟨c,dd,dt,sl⟩:=o;cases tup;cases dat;obtain⟨hp,g,d,tk,os⟩:=s
 wp_walk
 exact h
theorem VU {l:G7}{its:T9 G1}{n:G9}{x:D1}{u:Tok}{dd:P2 G7}{sl:T9 (P2 G1)}{P:dZ->G3->Prop}(at_:s.heap.get? l=some {cls:= .type "tuple",dict:=dd,data:= .seq its n,slots:=sl})(fits: -(2^63)<=x/\x<2^63)
 (same:(its.isEmpty||x==1)=true->P (.done (.ret (.ref l))) s)
 (gone:(its.isEmpty||x==1)=false->(decide (x<=0)||its.isEmpty)=true->P (.done (.ret (.ref s.heap.objs.size))) {s with heap:=s.heap.push {cls:= .type "tuple",data:= .seq #[]}})
 (more:(its.isEmpty||x==1)=false->(decide (x<=0)||its.isEmpty)=false-> ¬ (its.size:D1)*x>(2^63-1) / 8/\fF ((its.size:D1)*x)=false/\((S4 x.toNat its).foldl (· ++ ·) #[]).size<=sizeLine/\
  P (.done (.ret (.ref s.heap.objs.size))) {s with heap:=s.heap.push {cls:= .type "tuple",data:= .seq ((S4 x.toNat its).foldl (· ++ ·) #[])}}):
 R1 (R6 prog w) A (Builtin.«tuple.__mul__» ⟨[.ref l,.int x u],[]⟩) P E s:=by
 obtain⟨hp,g,d,tk,os⟩:=s
 wp_walk
 rw [S7 (by simp only [bL,U4];omega)]
 wp_walk
 cases c1:(its.isEmpty||x==1) with
 |true=>
  rw [S8 rfl]
  wp_walk
  exact same c1
 |false=>
  rw [S7 R0];cases c2:(decide (x<=0)||its.isEmpty) with
  |true=>
   rw [S8 rfl]
   wp_walk
   exact gone c1 c2
  |false=>
   obtain⟨m1,m2,m3,m4⟩:=more c1 c2;rw [S7 R0];dsimp only;rw [S7 m1,m2,S7 R0]
   wp_walk
   exact m4
end
end HT
namespace L2
open PySem PySem.Spec PyProof.Rows
def OT (K:G2):R2:=λx y H Q=> ∃ (a:G7) (k:D1) (xs:G0 V),x= .ref a/\y= .int k/\SqT K H a xs/\ -(2^63)<=k/\k<2^63/\xs.length*k.toNat<=sizeLine/\
 ((xs= []\/k=1)->Q (.ref a) H)/\(¬ (xs= []\/k=1)-> ∀p,H p=none->Q (.ref p) (upd H p (.tup (S4 k.toNat xs).flatten)))
theorem JQ {l:G0 G1}:l.toArray= #[]↔l= []:=by cases l<;>simp
theorem Nw {X:Cx}:OpR X (J5 .Mult) (OT X.K):=by
 intro pins s σ H x y v u Q I rx ry h;obtain⟨a,k,xs,rfl,rfl,hH,h1,h2,hz,q1,q2⟩:=h;cases rx;obtain⟨t,rfl⟩:=ry;obtain⟨its,r,ht,_⟩:=I.tuple hH;obtain⟨⟨cls,dd,data,sl⟩,ho,hc,n,hd⟩:=id ht;simp only at hc hd;subst hc hd;have hl:=r.length;have hnew:(S4 k.toNat its.toArray).foldl (· ++ ·) #[]=(S4 k.toNat its).flatten.toArray:=by
  have:=Ze its k.toNat [];rw [B3] at this;exact this
 have few:its.length*k.toNat<=sizeLine:=by rw [<-hl];exact hz
 have free:=I.hok.fresh (P3 _);refine fW (T:= "tuple") (U:= "int") (by decide) ⟨_,ho,rfl⟩ (λs'=>iF s' k t) HT.JB m9 dM HT.YG F.slot_int_index.lookup
  (E8 dM (iF s k t) mJ (HT.WS ho rfl rfl ⟨_,rfl,rfl,⟨_,ho,rfl⟩,E8 F.slot_tuple_mul ⟨_,ho,rfl⟩ F.entry_tuple_mul (HT.VU ho ⟨h1,h2⟩ (λc=> ?_) (λc c0=> ?_) (λc c0=> ?_)) (F.args_tuple_mul_2 _ _)⟩) (lK _ _))
 ·refine⟨_,rfl,.ref a,H,I,rfl,q1 ?_⟩;simp only [bL,beq_iff_eq,lO,JQ] at c;exact c.imp (λe=>r.nil_iff.mp e) id
 ·simp only [i3,beq_eq_false_iff_ne,fG,ne_eq,JQ] at c;have k0:k.toNat=0:=by
   simp only [bL,U4,lO,JQ] at c0;have:=c0.resolve_right c.1;omega
  have last:=q2 (λz=>z.elim (λe=>c.1 (r.nil_iff.mpr e)) c.2) _ free;rw [k0] at last;exact⟨_,rfl,.ref s.heap.objs.size,_,I.laid (t':=s.toks) (o:= .tup []) (λb ob q=>G5 _ q) (P3 _) ⟨by decide,[],.nil,IsTupN.new _ _⟩,rfl,last⟩
 ·simp only [i3,beq_eq_false_iff_ne,fG,ne_eq,JQ,decide_eq_false_iff_not] at c c0;have em:((its.toArray.size:G9):D1)*k=((its.length*k.toNat:G9):D1):=by rw [Int.natCast_mul,D7,show ((k.toNat:G9):D1)=k by omega]
  have cap:(sizeLine:G9)<=(2^63-1) / 8:=by decide
  rw [em,hnew];refine⟨by omega,by unfold fF;exact D9 (by omega),by rw [D7,VO,lL];exact few,_,rfl,.ref s.heap.objs.size,_,I.laid (t':=s.toks) (o:= .tup (S4 k.toNat xs).flatten) (λb ob q=>G5 _ q) (P3 _) ⟨by rw [VO,lL];exact hz,_,r.rep k.toNat,IsTupN.new _ _⟩,rfl,q2 (λz=>z.elim (λe=>c.1 (r.nil_iff.mpr e)) c.2) _ free⟩
def OU:RD2:=λx y h Q=>match x,y with
 | .tup ds,.int k=> -(2^63)<=k/\k<2^63/\ds.length*k.toNat<=sizeLine/\Q (.tup (S4 k.toNat ds).flatten) h
 |x,y=>AO x y h Q
theorem yW {X:Cx}:OpQ X (J5 .Mult) OU:=(oq_mul.or Nw).imp λx y H Q ⟨dx,dy,h,Qd,rx,ry,rh,q,p⟩=>by
 by_cases ht: ∃ds k,dx= .tup ds/\dy= .int k
 ·obtain⟨ds,k,e1,e2⟩:=ht;subst e1 e2;obtain⟨b1,b2,hz,q⟩:=q;obtain⟨a,vs,e,hH,r⟩:=(show ∃a vs,x= .ref a/\H a=some (.tup vs)/\RelDs X.K H ds vs from rx);refine .inr ⟨a,k,vs,e,ry,SqT.of hH,b1,b2,by rw [<-r.length];exact hz,λhs=> ?_,λ_ c hc=>p (.tup _) _ _ _ (.new hc) (rh.new hc) ⟨c,_,rfl,ji,(r.flat _).mono (.new hc)⟩ q⟩;refine p (.tup _) _ _ _ (.refl H) rh ⟨a,vs,rfl,hH,?_⟩ q;rcases hs with e0|e1
  ·subst e0;have:ds= []:=Y1.mp r.length;subst this;simpa using r
  ·subst e1;simpa using r
 ·refine .inl ⟨dx,dy,h,Qd,rx,ry,rh,?_,p⟩;unfold OU at q;split at q
  ·exact absurd ⟨_,_,rfl,rfl⟩ ht
  ·exact q
def Fs:D->HD->KD->Prop:=λx h Q=>match x with
 | .int i=>Q (.int (-i)) h
 |_=>False
def dUn (f:D->HD->KD->Prop)(ta:TED):TED:=λσ h Q=>ta σ h λx h1=>f x h1 Q
theorem AR {X:Cx}{a:S5}{ta:TED}{pos:Pos}(ha:QE X a ta):QE X (.UnaryOp .USub a pos) (dUn Fs ta):=
 (LY Ch ha).imp λσ H Q ⟨tF,h,Qd,rs,rh,t,p⟩=>LE.bind rs rh t λd v h1 H1 k1 rs1 rh1 r1 q=>by
  cases d<;>first
   |exact False.elim q
   |exact⟨_,r1,p (.int _) _ _ _ k1 rh1 rfl q⟩
end L2
namespace HT
open PySem PySem.Spec PyProof.Rows
section
variable {prog:R5}{w:N0}{A:T0}{E:G1->G3->Prop}{s:G3}
theorem XB (n:G9):K9 none none (-1) (n:D1)=((n:D1)-1,-1):=rfl
theorem XC (n:G9):F8 ((n:D1)-1) (-1) (-1)=n:=by
 unfold F8;have h1: ¬ ((-1:D1)>0):=by omega
 simp only [h1,gZ,show (- -1:D1)=1 by decide,pR];split<;>omega
theorem Dw (xs:T9 G1):((N4 xs.size).filterMap λ(k:G9)=>xs[((xs.size:D1)-1+(k:D1)*(-1)).toNat]?).toArray=xs.toList.reverse.toArray:=by
 have e:(λ(k:G9)=>xs[((xs.size:D1)-1+(k:D1)*(-1)).toNat]?)=(λk=>xs[xs.size-1-k]?):=by
  funext k
  have:((xs.size:D1)-1+(k:D1)*(-1)).toNat=xs.size-1-k:=by omega
  rw [this]
 rw [e];have h2:(N4 xs.size).filterMap (λk=>xs[xs.size-1-k]?)=((N4 xs.size).map (λk=>xs.size-1-k)).filterMap (xs[·]?):=by rw [kU];rfl
 rw [h2,rW,List.filterMap_reverse,sF]
theorem vY {t sl:G7}{items:T9 G1}{u:Tok}{Q:G1->G3->Prop}(ht:k5 s.heap t items)(hs:s.heap.IsSliceOf sl .none .none (.int (-1) u))
 (h:Q (.ref s.heap.objs.size) {s with heap:=s.heap.push {cls:= .type "tuple",data:= .seq items.toList.reverse.toArray}})
 (hsz:items.size<=sizeLine):R1 (R6 prog w) A (gE (.ref t) (.ref sl)) Q E s:=by
 have htake:sizeOk (.seq items.toList.reverse.toArray):=by
  show items.toList.reverse.toArray.size<=sizeLine;rw [D7,M1,B0];exact hsz
 obtain⟨os,hos,hcs,hds⟩:=id hs;have hTs:s.TypeIs (.ref sl) "slice" :=⟨os,hos,hcs⟩;unfold gE
 try with_reducible refine A1 ?_
 first|refine wpAny_bind (P1 ?_)|skip
 refine wpAny_bind (gF ht.typeIs (by decide) ?_);refine wpAny_bind (E1 (name:=B6 "__getitem__") ht.typeIs O3
  (E8 O3 ht.typeIs dP ?_ (fA _ _)))
 show R1 _ _ (aE (.ref t) >>= _) _ _ s;refine wpAny_bind (kJ ht ?_);refine wpAny_bind (iB hTs ?_);rw [S8 (by decide)];have ap:R1 (R6 prog w) A.in1 (V3 (.ref sl) (pure (items.size:D1))) (λr s'=>r=((items.size:D1)-1,-1,items.size)/\s'=s) (λ_ _=>False) s:=by
  unfold V3 fV;refine wpAny_bind (wpAny_bind (cC hos hds (x:= .none) rfl (wpAny_bind (cC hos hds (x:= .none) rfl (wpAny_bind (cC hos hds (x:= .int (-1) u) rfl (P1 ?_)))))));refine wpAny_bind (oS ?_);show R1 _ _ (if ((-1:D1)==0)=true then _ else _) _ _ s;rw [S7 (by decide)];refine wpAny_bind (e9 (wpAny_bind (e9 (wpAny_bind (P1 ?_)))));show R1 _ _ (match K9 none none (-1) (items.size:D1) with|(lo,hi)=>pure (lo,(-1:D1),F8 lo hi (-1))) _ _ s;rw [XB];show R1 _ _ (pure ((items.size:D1)-1,(-1:D1),F8 ((items.size:D1)-1) (-1) (-1))) _ _ s;rw [XC];exact P1 ⟨rfl,rfl⟩
 refine wpAny_bind (S6 ap (λr s' e=> ?_) λ_ _ z=>z.elim);obtain⟨rfl,rfl⟩:=e;have hno: ¬ ((((items.size:D1)-1)==0&&(-1:D1)==1&&items.size==items.size)=true):=by
  rw [show ((-1:D1)==1)=false by decide];simp
 show R1 _ _ (if ((((items.size:D1)-1)==0&&(-1:D1)==1&&items.size==items.size)=true) then _ else _) _ _ s';rw [S7 hno,Dw]
 first
  |exact wpAny_bind (m:=L9 _) (A9 (P1 ⟨_,rfl,P1 h⟩) htake)
  |exact wpAny_bind (m:=L9 _) (A9 (wpAny_bind (P1 (P1 ⟨_,rfl,P1 h⟩))) htake)
  |exact wpAny_bind (wpAny_bind (m:=L9 _) (A9 (P1 (P1 ⟨_,rfl,P1 h⟩)) htake))
  |exact wpAny_bind (wpAny_bind (m:=L9 _) (A9 (P1 ⟨_,rfl,P1 h⟩) htake))
end
end HT
namespace L2
open PySem PySem.Spec PyProof.Rows
def AS (te:TED):TED:=λσ h Q=>te σ h λx h1=> ∃ds,x= .tup ds/\Q (.tup ds.reverse) h1
theorem Vals.rev: ∀ {xs:G0 V} {us:G0 G1},Vals xs us->Vals xs.reverse us.reverse
 |_,_,.nil=> .nil
 |_,_,.cons r t=>by rw [cQ,cQ];exact(Vals.rev t).append (.cons r .nil)
variable {K:G2}
theorem RelDs.rev {H:Hp}: ∀ {ds:G0 D} {vs:G0 V},RelDs K H ds vs->RelDs K H ds.reverse vs.reverse
 | [],_,h=>by cases (show _= [] from h);exact .nil
 |d::ds,vs,h=>by
  obtain⟨v,r,e,h1,h2⟩:=(show ∃v r,vs=v::r/\RelD K H d v/\RelDs K H ds r from h);subst e;rw [cQ,cQ];exact(RelDs.rev h2).append (.cons h1 .nil)
variable {X:Cx}{e:S5}{te:TED}
theorem EL {pos p2 p3 p4:Pos}{j:G9}(he:QE X e te):QE X (.Subscript e (.Slice none none (some (.UnaryOp .USub (.Constant (.int 1) j p4) p3)) p2) pos) (AS te):=by
 intro pins s σ H Q I h;obtain⟨tF,h,Qd,rs,rh,t,p⟩:=h;refine nY (thn (he pins s σ H _ I (LE.bind rs rh t λd v h1 H1 k1 rs1 rh1 r1 q1=>(show ∃tF h1 d,RelS X.K H1 tF σ/\RelH X.K h1 H1/\RelD X.K H1 d v/\Kept H H1/\ ∃ds,d= .tup ds/\Qd (.tup ds.reverse) h1 from ⟨tF,h1,d,rs1,rh1,r1,k1,q1⟩))) λv s1 ⟨x,H1,I1,r1,q1⟩=> ?_);obtain⟨u6,h1,d,rs1,rh1,rd,k1,ds,e1,q1⟩:=q1;subst e1;obtain⟨a,vs,e2,hH,r2⟩:=(show ∃a vs,x= .ref a/\H1 a=some (.tup vs)/\RelDs X.K H1 ds vs from rd);subst e2;cases r1;refine qJ ?_;rw [kK];refine P1 ?_;refine P1 ?_;rw [oU];have hneg:LE X.K (dUn Fs (dC (.int 1))) σ H1 (λv H'=>v=V.int (-1)/\RelH X.K h1 H'/\Kept H1 H'):=
  ⟨u6,h1,λd h'=>d= .int (-1)/\h'=h1,rs1,rh1,⟨rfl,rfl⟩,λd v h' H' k rh' r' e=>by
   obtain⟨e1,e2⟩:=e;subst e1 e2;exact⟨r',rh',k⟩⟩
 refine thn ((AR (AM (X:=X) (i:=1) (j:=j) (pos:=p4)) (pos:=p3)) pins s1 σ H1 _ I1 hneg) λu s2 ⟨y,H2,I2,ry,ey,rh2,k2⟩=> ?_
 subst ey;obtain⟨tk,rfl⟩:=ry;have hH2:=k2.tup _ _ hH;have I4:Inv X pins σ H2 {s2 with heap:=s2.heap.push {cls:= .type "slice",data:= .fields #[.none,.none,.int (-1) tk]}}:=I2.kept (t':=s2.toks) λb ob q=>G5 _ q
 obtain⟨its,r,ht,hz⟩:=I4.tuple (SqT.of hH2);have hlen:its.toArray.size=vs.length:=by rw [D7];exact r.length.symm
 show R1 (R6 X.prog X.w) X.A (kM e (.Slice none none (some (.UnaryOp .USub (.Constant (.int 1) j p4) p3)) p2) (.ref a) (.ref s2.heap.objs.size)) (EP X pins σ Q) X.xe {s2 with heap:=s2.heap.push {cls:= .type "slice",data:= .fields #[.none,.none,.int (-1) tk]}};refine qK (ops:= [.ref a,.ref s2.heap.objs.size]) ht.typeIs PyProof.Rows.slot_tuple_getitem.lookup ?_ (by with_unfolding_all rfl);refine HT.vY ht (Heap.IsSliceOf.new ..) ?_ (by rw [hlen];exact hz);have hf:=I4.hok.fresh (P3 _);refine⟨.ref _,_,I4.laid (t':=s2.toks) (o:= .tup vs.reverse) (λb ob q=>G5 _ q) (P3 _) ⟨by rw [M1];exact hz,_,Vals.rev r,IsTupN.new _ _⟩,rfl,?_⟩;exact p (.tup ds.reverse) _ _ _ (k1.trans (k2.trans (.new hf))) (rh2.new hf) ⟨_,_,rfl,ji,((r2.mono k2).rev).mono (.new hf)⟩ q1
def YH (x:Str)(i:D1):TED:=λ_ h Q=>Q (.dic x i) h
variable {p:G7}
theorem Dx {H:Hp}{a b:HO}:upd (upd H p a) p b=upd H p b:=by
 funext q;unfold upd;split<;>rfl
variable {x:Str}
theorem Ft {i:D1}{j k:G9}{pos p1 p2:Pos}:QE X (.Dict [some (.Constant (.str x) j p1)] [.Constant (.int i) k p2] pos) (YH x i):=by
 have h0:PPs X pos [some (.Constant (.str x) j p1)] [.Constant (.int i) k p2] [(tC (.str x),tC (.int i))]:=Dp pe_str pe_int MK;refine PE.imp (ML h0 rfl rfl (by simp) (by simp)) ?_;rintro σ H Q ⟨tF,h,Qd,rs,rh,t,p⟩ q hq;show upd H q (.dK []) q=some (.dK [])/\_;refine⟨ji,[((W0 x:Key),V.int i)],rfl,by simp,?_⟩;rw [Dx];exact p (.dic x i) (.ref q) h _ (.new hq) (rh.new hq) ⟨q,rfl,ji⟩ t
def VW:G0 (P2 S5)->G0 S5->P2 (Str×D1)
 | [some (.Constant (.str x) _ _)],[.Constant (.int i) _ _]=>some (x,i)
 |_,_=>none
theorem Fu {ks:G0 (P2 S5)}{vs:G0 S5}{pos:Pos}{i:D1}(h:VW ks vs=some (x,i):=by rfl):QE X (.Dict ks vs pos) (YH x i):=by
 unfold VW at h;split at h
 ·cases h;exact Ft
 ·cases h
def Fv (K:G2)(tl:TE):TI:=λσ H R=>tl σ H λx H1=> ∃a,x= .ref a/\((∃xs,SqL K H1 a xs/\R (Itl K a) H1)\/ ∃xs,SqT K H1 a xs/\R (Itt K a) H1)
theorem Fw {tg l:S5}{tl:TE}(hl:PE X l tl):PI X tg l (Fv X.K tl):=by
 intro pins s σ H R I h;refine thn (hl pins s σ H _ I h) λv s1 ⟨x,H1,I1,r1,q1⟩=> ?_
 obtain⟨a,e,q⟩:=q1;subst e;cases r1;rcases q with ⟨xs,hq,q⟩|⟨xs,hq,q⟩
 ·obtain⟨its,rv,p,hz⟩:=I1.list hq;refine aA p.isList ?_;refine⟨s1.heap.objs.size,[s1.heap.objs.size],_,_,H1,rfl,I1.kept (t':=s1.toks) λb o e=>G5 _ e,Yu a _,⟨_,S3 _ rfl,rfl,rfl⟩,λb hb=> ?_,q⟩;have e:b=s1.heap.objs.size:=by simpa using hb
  subst e;exact I1.fpOk (P3 _) (I1.hok.fresh (P3 _))
 ·obtain⟨its,rv,p,hz⟩:=I1.tuple hq;refine V4 (show s1.heap.IsTuple a its.toArray from p) ?_;refine⟨s1.heap.objs.size,[s1.heap.objs.size],_,_,H1,rfl,I1.kept (t':=s1.toks) λb o e=>G5 _ e,Xs a _,⟨_,S3 _ rfl,rfl,rfl⟩,λb hb=> ?_,q⟩;have e:b=s1.heap.objs.size:=by simpa using hb
  subst e;exact I1.fpOk (P3 _) (I1.hok.fresh (P3 _))
def iS (te:TED):TID:=λσ h R=>te σ h λx h1=>match x with
 | .lst a=>R (λh=>h a) h1
 | .tup ds=>R (λ_=>some ds) h1
 | .scr ns=>R (λ_=>some (ns.map D.int)) h1
 |_=>False
variable {a:G7}
theorem Dy {H:Hp}{ns:G0 D1}(hs:Scr K H a ns):Ng K H (λ_=>some (ns.map D.int)) (Itl K a):=λH' h' k rh ds' e i=>by
 cases e;have hs':Scr K H' a ns:=hs.elim (λ⟨o,z⟩=> .inl ⟨o,k.frz _ _ _ z⟩) .inr;refine⟨λd hd=> ?_,λhl=>⟨_,hs'.sq,by simpa using hl⟩⟩;obtain⟨v,e1,e2⟩:=(yB (K:=K) (H:=H') ns).get hd;refine⟨⟨_,v,hs'.sq,e1⟩,λx H'' ⟨eH,hx⟩=> ?_⟩;subst eH;have:=hx _ hs'.sq;rw [e1] at this;cases this;exact⟨.refl _,rh,e2⟩
theorem Fx: ∀σ H R,LI K (iS te) σ H R->Fv K (LE K te) σ H R:=λσ H R ⟨tF,h,Rd,rs,rh,q,p⟩=>
 LE.bind rs rh q λd v h1 H1 k1 rs1 rh1 r1 q1=>by
  cases d<;>first
   |exact False.elim q1
   |skip
  ·rename_i ds;obtain⟨a,vs,e,hv,r⟩:=(show ∃a vs,v= .ref a/\H1 a=some (.tup vs)/\RelDs K H1 ds vs from r1);exact⟨a,e,.inr ⟨vs,SqT.of hv,p _ _ _ _ k1 rh1 (Ds hv r) q1⟩⟩
  ·rename_i a;obtain⟨e,vs,hv⟩:=(show v= .ref a/\ ∃vs,H1 a=some (.lst vs) from r1);exact⟨a,e,.inl ⟨vs,SqL.of hv,p _ _ _ _ k1 rh1 (YD H1 a) q1⟩⟩
  ·rename_i ns;obtain⟨a,e,hS⟩:=(show ∃a,v= .ref a/\Scr K H1 a ns from r1);exact⟨a,e,.inl ⟨_,hS.sq,p _ _ _ _ k1 rh1 (Dy hS) q1⟩⟩
theorem Fy {tg:S5}(he:QE X e te):QI X tg e (iS te):=(Fw he).imp Fx
def RU:TSD:=λ_ _ _=>False
theorem Fz {st:F9}:QS X st RU:=λ_ _ _ _ _ _ ⟨_,_,_,_,_,z,_⟩=>z.elim
structure Zs (mg:Str->P2 G1):Prop where
 len:mg "len" =none
 max:mg "max" =none
 min:mg "min" =none
 divmod:mg "divmod" =none
 all:mg "all" =none
 any:mg "any" =none
 repr:mg "repr" =none
 sum:mg "sum" =none
 sorted:mg "sorted" =none
 int:mg "int" =none
 tuple:mg "tuple" =none
 list:mg "list" =none
 set:mg "set" =none
 bool:mg "bool" =none
 isinstance:mg "isinstance" =none
 range:mg "range" =none
 zip:mg "zip" =none
 enumerate:mg "enumerate" =none
 reversed:mg "reversed" =none
def jq (P:R5)(w:N0)(K:G2)(mg:Str->P2 G1)(base:N2)(n:G9)(x:Str)(ps:G0 Str)(sp:RDn):Prop:=
 ∃ (g:G7) (gd:S0),FnOk P w K mg base CX0 n g gd ps (LSp K sp)/\Binds K gd ps []/\A6 K (.ref g)=true/\mg x=some (.ref g)
def Gj:RDn:=λds h Q=> ∃ns,ds= [.scr ns]/\(∀a,h a=none)/\ns.length<=63/\ ∀h',Q (.bl true) h'
def Bm (mg:Str->P2 G1)(base:N2):Prop:= ∃bm ob,mg "__builtins__" =some (.ref bm)/\bm≠eJ/\base.get? bm=some ob/\ob.cls= .type "module" /\ob.dict=some eJ/\ob.data= .plain
def wc (K:G2):G0 (G7×G7):=LN.filterMap (gM K)
theorem TabK.mem {P:G7}(h:TabK K P): ∃c,(c,P)∈wc K:=let ⟨x,hx,c,e⟩:=h;⟨c,Y6.mpr ⟨x,hx,e⟩⟩
theorem Gk {P:R5}{w:N0}{mg mb:Str->P2 G1}{k:G9}{fa:G7}{fd:S0}{tG:G3}{vs:G0 G1}{ns:G0 D1}
 (KX:K.In tG.heap)(hns:tG.heap.Ns mainGlobals mg)(hb:tG.heap.Ns eJ mb)(hbb: ∀x:Str,x≠ "__name__" ->mb x=E4 x)(hlim:tG.heap.NoLimit)(hg:tG.gens= #[])
 (ha:tG.heap.get? a=some {cls:= .type "list",data:= .seq vs.toArray})(hi:W1 vs ns)(hl:ns.length<=63)(hr:Room k j6)
 (hbm:Bm mg tG.heap)(F: ∀base:N2,K.In base->base.Ns mainGlobals mg->Bm mg base->FnOk P w K mg base CX0 k fa fd [x] (LSp K Gj))(hbind: ∀ (s:G3) (u:G1),j0 s fd ⟨[u],[]⟩ [(x,u)])
 (hT: ∀p∈wc K,oB tG.heap p.1 p.2/\tG.heap.get? p.2=some (i4 #[])/\K.lookup p.2=none):
 X9 (R6 P w) j6 (.call (.ref fa) ⟨[.ref a],[]⟩) (λr s'=>r= .ok (.ret (.bool true))/\OldK tG.heap s'.heap/\s'.os=tG.os/\dW s'.gens) tG:=by
 have rv:=YA hi;have lenV:=hi.length;have hz:ns.length<=sizeLine:=S1 hl (by decide);have hT': ∀b,b∈(wc K).map (·.2)-> ∃c,oB tG.heap c b/\tG.heap.get? b=some (i4 #[])/\K.lookup b=none:=λb hb=>by
  obtain⟨p,hp,rfl⟩:=N8.mp hb;exact⟨p.1,hT p hp⟩
 have core: ∀H:Hp,Scr K H a ns->HOk P w H tG.heap->(∀b u,H b=some u->(b=a/\K.lookup a=none/\ ∃o xs,u= .frz o (.lst xs))\/(b∈(wc K).map (·.2)/\u= .tbl #[]))->(∀b,b∈(wc K).map (·.2)->H b=some (.tbl #[]))->
  X9 (R6 P w) j6 (.call (.ref fa) ⟨[.ref a],[]⟩) (λr s'=>r= .ok (.ret (.bool true))/\OldK tG.heap s'.heap/\s'.os=tG.os/\dW s'.gens) tG:=by
  intro H hS hok hA hTt;have noA: ∀ {b:G7} {o:Obj} {es:T9 DictEntry} {ep:G9},tG.heap.get? b=some o->o.data= .dict es ep->H b=none:=λ{b o es ep} e d=>by
   cases q:H b with
   |none=>rfl
   |some u=>
    rcases hA b u q with ⟨rfl,_,_⟩|⟨z,_⟩
    ·rw [ha] at e;cases e;have d':Data.seq vs.toArray _=Data.dict es ep:=d;cases d'
    ·obtain⟨c,_,e2,_⟩:=hT' b z;rw [e2] at e;cases e;have d':Data.fields _=Data.dict es ep:=d;cases d'
  have nsK: ∀ {b:G7} {m:Str->P2 G1},tG.heap.Ns b m->(Da tG.heap H).Ns b m:=λ{b m} ⟨o,es,ep,e,d,r⟩=>⟨o,es,ep,WG e (noA e d),d,r⟩
  have hKb:K.In (Da tG.heap H):=λb o e=>WG (KX b o e) (by
   cases q:H b with
   |none=>rfl
   |some u=>
    rcases hA b u q with ⟨rfl,z,_⟩|⟨z,_⟩
    ·rw [z] at e;cases e
    ·obtain⟨c,_,_,z2⟩:=hT' b z;rw [z2] at e;cases e)
  have hM:Mod K mg (Da tG.heap H):=⟨hKb,nsK hns,⟨mb,nsK hb,hbb⟩,let ⟨mc,h1,h2⟩:=hlim;⟨mc,nsK h1,h2⟩⟩;have e0:Env0 P w K mg (Da tG.heap H) j6 [] tG H:=⟨rfl,hM,λb o e=>Mi e,U9 (Qj _ _),trivial,λb hb=>absurd (show b∈([]:G0 G7) from hb) (by simp),hok,.of_eq hg⟩;have hsp:LSp K Gj [.ref a] H (λv _=>v= .bl true) (λ_ _ _=>False):=by
   refine⟨[.scr ns],⟨λ_=>none,λ_=>none⟩,λd _=>d= .bl true,⟨.ref a,[],rfl,⟨a,rfl,hS⟩,rfl⟩,⟨λb ds e=>(by cases e),λp hp=> ?_,λb c e=>(by cases e)⟩,⟨ns,rfl,λ_=>rfl,hl,λ_=>rfl⟩,?_⟩
   ·obtain⟨c,hc⟩:=hp.mem;exact⟨#[],hTt p (j8 (f:=(·.2)) hc),trivial,λpos cv e=>(by cases e)⟩
   ·intro d v h' H' _ _ r e;subst e;exact r
  have hBm:Bm mg (Da tG.heap H):=by
   obtain⟨bm,ob,b1,b2,b3,b4,r⟩:=hbm;refine⟨bm,ob,b1,b2,WG b3 ?_,b4,r⟩;cases q:H bm with
   |none=>rfl
   |some u=>
    rcases hA bm u q with ⟨rfl,_,_⟩|⟨z,_⟩
    ·rw [ha] at b3;cases b3;exact absurd (Value.type.inj b4) (by decide)
    ·obtain⟨c,_,e2,_⟩:=hT' bm z;rw [e2] at b3;cases b3;cases b4
  refine cH ((F _ hKb (nsK hns) hBm).run j6 [] tG H ⟨[.ref a],[]⟩ [.ref a] [.ref a] _ _ hr e0 (hbind tG (.ref a)) (.cons rfl .nil) hsp) λr s' h=> ?_
  cases r with
  |error e=>exact False.elim h
  |ok fl=>
   cases fl with
   |next=>exact False.elim h
   |brk=>exact False.elim h
   |cont=>exact False.elim h
   |ret u=>
    obtain⟨v,H',os,bare,un,hok',r',q⟩:=h;have q':v= .bl true:=q;subst q';obtain rfl:u=Y4 true:=r';have one: ∀b o,tG.heap.get? b=some o->s'.heap.get? b=some o\/(b∈(wc K).map (·.2)/\ ∃more,s'.heap.get? b=some (i4 more)):=λb o e=>by
     cases q:H b with
     |none=>exact .inl (un.keep b o e q (by intro z;exact absurd (show b∈([]:G0 G7) from z) (by simp)) (by simp))
     |some u=>
      rcases hA b u q with ⟨rfl,_,ob,xs,rfl⟩|⟨z,rfl⟩
      ·have z2:=un.frzs _ ob _ q;obtain⟨e1,_⟩:=hok _ _ q;obtain⟨e2,_⟩:=hok' _ _ z2;rw [e] at e1;cases e1;exact .inl e2
      ·obtain⟨more,z2⟩:=un.tbls b _ q;exact .inr ⟨z,_,(show s'.heap.get? b=some _ from hok' b _ z2)⟩
    refine⟨rfl,⟨λb o e=> ?_,λb o e=> ?_⟩,os,bare⟩
    ·rcases one b o e with z|⟨z,more,z2⟩
     ·exact .inl z
     ·obtain⟨c,hc,e2,_⟩:=hT' b z;rw [e] at e2;cases e2;refine .inr (.inl ⟨(hc.tab e).isCodeTable,rfl,#[],more,rfl,?_⟩);rw [z2];simp
    ·rcases one b o e with z|⟨z,more,z2⟩
     ·exact⟨_,z⟩
     ·exact⟨_,z2⟩
 have nT:a ∉ (wc K).map (·.2):=λz=>by
  obtain⟨c,_,e2,_⟩:=hT' a z;rw [ha] at e2;cases e2
 have okT: ∀ {H:Hp} (b:G7),b∈(wc K).map (·.2)->ObjOk P w H tG.heap b (.tbl #[]):=λb hb=>let ⟨_,_,e,_⟩:=hT' b hb;e
 cases hk:K.lookup a with
 |some o=>
  have e:=KX a o hk;rw [ha] at e;cases e;refine core (λb=>if b∈(wc K).map (·.2) then some (.tbl #[]) else none) (.inr ⟨_,vs.toArray,_,hk,rfl,rfl,rfl,by rw [D7,lenV];exact hz,by simpa using rv⟩) (λb u z=> ?_) (λb u z=> ?_) λb hb=>S8 hb
  ·by_cases hb:b∈(wc K).map (·.2)
   ·have z':=(S8 hb).symm.trans z;cases z';exact okT b hb
   ·have z':=(S7 hb).symm.trans z;cases z'
  ·by_cases hb:b∈(wc K).map (·.2)
   ·have z':=(S8 hb).symm.trans z;cases z';exact .inr ⟨hb,rfl⟩
   ·have z':=(S7 hb).symm.trans z;cases z'
 |none=>
  refine core (λb=>if b=a then some (.frz {cls:= .type "list",data:= .seq vs.toArray} (.lst (ns.map V.int))) else if b∈(wc K).map (·.2) then some (.tbl #[]) else none) (.inl ⟨{cls:= .type "list",data:= .seq vs.toArray},S8 rfl⟩) (λb u z=> ?_) (λb u z=> ?_) λb hb=> ?_
  ·by_cases hb:b=a
   ·have z':=(S8 hb).symm.trans z;cases z';subst hb;exact⟨ha,by rw [G6];exact hz,vs,_,rv,ha⟩
   ·have z':=(S7 hb).symm.trans z
    by_cases hb2:b∈(wc K).map (·.2)
    ·have z2:=(S8 hb2).symm.trans z';cases z2;exact okT b hb2
    ·have z2:=(S7 hb2).symm.trans z';cases z2
  ·by_cases hb:b=a
   ·have z':=(S8 hb).symm.trans z;cases z';exact .inl ⟨hb,hk,_,_,rfl⟩
   ·have z':=(S7 hb).symm.trans z
    by_cases hb2:b∈(wc K).map (·.2)
    ·have z2:=(S8 hb2).symm.trans z';cases z2;exact .inr ⟨hb2,rfl⟩
    ·have z2:=(S7 hb2).symm.trans z';cases z2
  ·have:b≠a:=λz=>nT (z ▸ hb)
   show (if b=a then _ else _)=_;rw [S7 this,S8 hb]
def OV (q:R5)(K:G2):M6:=LN.all λx=>match gM K x with
 |some p=>(K.lookup p.2).isNone&&((qV q).find? (λe=>e.name==x)).isSome
 |none=>true
theorem Dz {l:nB}{k:G9}{q:R5}{loose:G0 Str}{XP:(Str->P2 G1)->N2->Prop}{YP:N0->N2->Prop}{d:DefRec}{K:sM->G2}(hn:l.most=some 63)(hdf:d.params.defaults= [])(hr:Room k j6)
 (hY: ∀ (w:N0) (h:N2),YP w h->(K w.params).In h)(hB: ∀w:N0,OV q (K w.params)=true)
 (F: ∀ (w:N0) (mg:Str->P2 G1) (fa:G7) (h:N2),(K w.params).In h->h.Ns mainGlobals mg->mg d.name=some (.ref fa)->
  ∃fd:S0,(∀ (s:G3) (u:G1),j0 s fd ⟨[u],[]⟩ [(x,u)])/\ ∀base:N2,(K w.params).In base->base.Ns mainGlobals mg->Bm mg base->FnOk l.prog w (K w.params) mg base CX0 k fa fd [x] (LSp (K w.params) Gj)):
 tD q loose XP YP l.row.toRowW d [] (λf vs=>rD f vs):=by
 refine Att.attach_call hn hdf λw s₀ tG mg mb fa o pm cd doc a vs ns G Y ho hd hcd hmg hobj hints hlen hg=> ?_
 have KX:=hY w _ Y;obtain⟨fd,hb,hF⟩:=F w mg fa _ KX G.T.g hmg;refine Gk KX G.T.g G.T.b G.T.builtins G.T.nolimit hg hobj hints hlen hr G.T.bmain hF hb λp hp=> ?_
 obtain⟨x,hx,e⟩:=Y6.mp hp;have z:=T3.mp (hB w) x hx;rw [e] at z;simp only [B1,Option.isNone_iff_eq_none] at z;obtain⟨dd,hdd⟩:=J6.mp z.2;have t:=sP (c:=p.1) (P:=p.2) G.T KX hdd e;exact⟨t.1,t.2,z.1⟩
def za:S5->M6
 | .Starred .. =>false
 |_=>true
theorem VX {es:G0 S5}{env:Env}(h:za e=true):D2 (e::es) env=(false,O4 e env)::D2 es env:=by
 cases e<;>first|rfl|cases h
theorem qac {es:G0 S5}{t:TAD}(ha:QE X e te)(hr:QA X es t)(h:za e=true:=by rfl):QA X (e::es) (jZ te t):=MX ha hr (VX h)
theorem yX {α:Type}{xs:G0 α}{i:D1}(h0:0<=i)(h1:i<xs.length): ∃x∈xs,atI xs i=some x:=by
 have hk:i.toNat<xs.length:=by omega
 have ek:i=((i.toNat:G9):D1):=by omega
 have z:=yQ (G8 hk);rw [<-ek] at z;exact⟨xs[i.toNat],L6 hk,z⟩
variable {h h':HD}{L:G0 D}
theorem Sub.both (s:Sub h h'):Sub (zB h p L) (zB h' p L):=⟨λa ds e=>(by
 by_cases q:a=p
 ·subst q;rw [jc] at e ⊢;exact e
 ·rw [zV q] at e ⊢;exact s a ds e),s.dc⟩
theorem Sub.newAt (s:Sub h h')(e:h' p=none):Sub h (zB h' p L):=s.trans (.new e)
structure But (p:G7)(h h':HD):Prop where
 ls: ∀a ds,a≠p->h a=some ds->h' a=some ds
 dc: ∀a c,h.dc a=some c->h'.dc a=some c
instance {p:G7}{h h':HD}:CoeFun (But p h h') λ_=> ∀a ds,a≠p->h a=some ds->h' a=some ds:=⟨But.ls⟩
theorem But.refl (p:G7)(h:HD):But p h h:=⟨λ_ _ _ e=>e,λ_ _ e=>e⟩
variable {q:G7}
theorem But.new (s:But p h h')(e:h' q=none):But p h (zB h' q L):=⟨λa ds n z=>(by
 have:=s a ds n z;rw [zV (λw=>by subst w;rw [e] at this;cases this)];exact this),s.dc⟩
theorem But.put (s:But p h h'):But p h (zB h' p L):=⟨λa ds n z=>(by rw [zV n];exact s a ds n z),s.dc⟩
theorem But.putNew (s:But p h h')(e:h q=none):But p h (zB h' q L):=⟨λa ds n z=>(by
 rw [zV (λw=>by subst w;rw [e] at z;cases z)];exact s a ds n z),s.dc⟩
theorem But.sub (s:But p h h')(e:h' p=some L):Sub (zB h p L) h':=⟨λa ds z=>(by
 by_cases q:a=p
 ·subst q;rw [jc] at z;cases z;exact e
 ·rw [zV q] at z;exact s a ds q z),s.dc⟩
theorem But.upd:But p h (zB h p L):=⟨λa ds n z=>(by rw [zV n];exact z),λ_ _ e=>e⟩
theorem jl (e:h p=some L)(f:h q=none):q≠p:=λz=>by subst z;rw [e] at f;cases f
theorem je {M:G0 D}(e:h p=some L)(f:h q=none):zB h q M p=some L:=by rw [zV (λz=>by subst z;rw [e] at f;cases f)];exact e
theorem Nx {b:G7}(e:zB h a L b=none):b≠a:=λz=>by subst z;rw [jc] at e;cases e
theorem jf {b:G7}{M:G0 D}(n:b≠a)(e:h b=some M):zB h a L b=some M:=by rw [zV n];exact e
theorem Gm {n:G9}{i:G9}{d:D}(h:((N4 n).map λ(k:G9)=>D.int (k:D1))[i]? =some d):i<n/\d= .int i:=by
 rw [R9] at h
 by_cases hi:i<n
 ·rw [dQ hi] at h;cases h;exact⟨hi,rfl⟩
 ·rw [Z7 (by simpa using hi)] at h;cases h
variable {E:EndsD}{σ:SD}
theorem jh {t u:TSD}(V:SD->HD->Prop)(first: ∀K:SD->HD->Prop,(∀tE h',V tE h'->K tE h')->t {E with nx:=K} σ h)(rest: ∀tE h',V tE h'->u E tE h'):wE t u E σ h:=first (u E) rest
theorem Gn (b:But p h h')(e:h' q=none)(n:q≠p):h q=none:=by
 cases z:h q with
 |none=>rfl
 |some ds=>rw [b q ds n z] at e;cases e
def Nxt (E:EndsD)(V:SD->HD->Prop):EndsD:= {E with nx:=λtM h3=> ∃h4,Sub h4 h3/\V tM h4,ct:=λtM h3=> ∃h4,Sub h4 h3/\V tM h4,bk:=E.nx}
theorem Zo {ta:TAD}{g:TGD}{tb:TSD}{h1:HD}(n:G9)(W:G9->SD->HD->Prop)(hn:n<1000000)
 (ht: ∀R:G0 D->HD->Prop,R [.int (n:D1)] h1->ta σ h R)(w0:W 0 σ h1)(done: ∀tE h',W n tE h'->E.nx tE h')
 (turn: ∀i tE h',i<n->W i tE h'->g (.int (i:D1)) tE h' λtJ h2=>tb (Nxt E λtM h4=>i+1<=n/\W (i+1) tM h4) tJ h2):Bz (iR1 ta) g tb E σ h:=by
 refine ht _ ⟨(n:D1),rfl,by omega,by omega,n,λi tE h'=>i<=n/\W i tE h',⟨M0 _,w0⟩,?_⟩;rintro i tE h' ⟨hi,w⟩;refine⟨_,rfl,by simp,λhl=> ?_,λd hd=> ?_⟩
 ·have:i=n:=by simp at hl;omega
  subst this;exact done _ _ w
 ·obtain⟨hi',e⟩:=Gm hd;have hi2:i<n:=by omega
  subst e;exact turn i tE h' hi2 w
theorem vx {ti:TID}{g:TGD}{tb:TSD}{h1:HD}{j:ItD}(ds:G0 D)(W:G9->SD->HD->Prop)
 (ht: ∀R:ItD->HD->Prop,R j h1->ti σ h R)(hj: ∀i tE h',W i tE h'->j h'=some ds)(w0:W 0 σ h1)(done: ∀tE h',W ds.length tE h'->E.nx tE h')
 (turn: ∀i d tE h',ds[i]? =some d->W i tE h'->g d tE h' λtJ h2=>tb (Nxt E λtM h4=>i+1<=ds.length/\W (i+1) tM h4) tJ h2):Bz ti g tb E σ h:=by
 refine ht _ ⟨ds.length,λi tE h'=>i<=ds.length/\W i tE h',⟨M0 _,w0⟩,?_⟩;rintro i tE h' ⟨hi,w⟩;refine⟨ds,hj i tE h' w,P3 _,λhl=> ?_,λd hd=>turn i d tE h' hd w⟩;have:i=ds.length:=by omega
 subst this;exact done _ _ w
theorem YI {g:TGD}{tb:TSD}{h1:HD}{j:ItD}(ds:G0 D)(W:G9->SD->HD->Prop)
 (hj: ∀i tE h',W i tE h'->j h'=some ds)(w0:W 0 σ h1)(done: ∀tE h',W ds.length tE h'->E.nx tE h')
 (turn: ∀i d tE h',ds[i]? =some d->W i tE h'->g d tE h' λtJ h2=>tb (Nxt E λtM h4=>i+1<=ds.length/\W (i+1) tM h4) tJ h2):
 ∃ (n:G9) (W:G9->SD->HD->Prop),W 0 σ h1/\ ∀i tE h',W i tE h'-> ∃ds,j h'=some ds/\ds.length<=n/\(ds.length<=i->E.nx tE h')/\
  ∀d,ds[i]? =some d->g d tE h' λtJ h2=>tb {E with nx:=λtM h3=> ∃h4,Sub h4 h3/\W (i+1) tM h4,ct:=λtM h3=> ∃h4,Sub h4 h3/\W (i+1) tM h4,bk:=E.nx} tJ h2:=by
 refine⟨ds.length,λi tE h'=>i<=ds.length/\W i tE h',⟨M0 _,w0⟩,?_⟩;rintro i tE h' ⟨hi,w⟩;refine⟨ds,hj i tE h' w,P3 _,λhl=> ?_,λd hd=>turn i d tE h' hd w⟩;have:i=ds.length:=by omega
 subst this;exact done _ _ w
end L2
namespace L2
open PySem PySem.Spec PyProof.Rows PySem.SeqAt
mutual
def ToP (h:HD):D->C8->Prop
 |d,.none=>d= .non
 |d,.bool b=>d= .bl b
 |d,.int i=>d= .int i
 |d,.str x=>d= .str x
 |d,.tuple ps=> ∃ds,d= .tup ds/\ToPs h ds ps
 |d,.list ps=> ∃a ds,d= .lst a/\h a=some ds/\ToPs h ds ps
 |_,.dict _=>False
def ToPs (h:HD):G0 D->G0 C8->Prop
 |ds,[]=>ds= []
 |ds,p::ps=> ∃d r,ds=d::r/\ToP h d p/\ToPs h r ps
end
section
variable {X:Cx}{pins:G0 (G7×Obj)}{σ:St}{H:Hp}{s:G3}{h:HD}
mutual
theorem jO (I:Inv X pins σ H s)(rh:RelH X.K h H): ∀ {p:C8} {d:D} {v:V} {u:G1},ToP h d p->RelD X.K H d v->RelV v u-> ∃as,Reads s.heap u p as
 | .none,d,v,u,t,r,ru=>by cases (show d= .non from t);cases (show v= .non from r);cases (show u= .none from ru);exact⟨[],.none⟩
 | .bool b,d,v,u,t,r,ru=>by cases (show d= .bl b from t);cases (show v= .bl b from r);cases (show u= .bool b from ru);exact⟨[],.bool b⟩
 | .int i,d,v,u,t,r,ru=>by cases (show d= .int i from t);cases (show v= .int i from r);obtain⟨k,rfl⟩:=(show ∃t,u=bZ i t from ru);exact⟨[],.int i k⟩
 | .str x,d,v,u,t,r,ru=>by cases (show d= .str x from t);cases (show v= .str x from r);obtain⟨k,rfl⟩:=(show ∃t,u=gQ x t from ru);exact⟨[],.str x k⟩
 | .tuple ps,d,v,u,t,r,ru=>by
  obtain⟨ds,e,ts⟩:=(show ∃ds,d= .tup ds/\ToPs h ds ps from t);subst e;obtain⟨a,vs,e,hH,rs⟩:=(show ∃a vs,v= .ref a/\H a=some (.tup vs)/\RelDs X.K H ds vs from r);subst e;cases (show u= .ref a from ru);obtain⟨its,rv,ht,_⟩:=I.tuple (SqT.of hH);obtain⟨o,ho,hc,n,hd⟩:=ht;obtain⟨as,q⟩:=reads_Ds I rh ts rs rv;exact⟨as,.tuple ho hc hd q⟩
 | .list ps,d,v,u,t,r,ru=>by
  obtain⟨a,ds,e,ha,ts⟩:=(show ∃a ds,d= .lst a/\h a=some ds/\ToPs h ds ps from t);subst e;obtain⟨vs,hH,rs⟩:=rh a ds ha;have e:v= .ref a:=r.1;subst e;cases (show u= .ref a from ru);obtain⟨its,rv,pl,_⟩:=I.list (SqL.of hH);obtain⟨o,ho,hc,n,hd⟩:=pl.isList;obtain⟨as,q⟩:=reads_Ds I rh ts rs rv;exact⟨a::as,.list ho hc hd q⟩
 | .dict _,_,_,_,t,_,_=>(show False from t).elim
theorem reads_Ds (I:Inv X pins σ H s)(rh:RelH X.K h H): ∀ {ps:G0 C8} {ds:G0 D} {vs:G0 V} {us:G0 G1},ToPs h ds ps->RelDs X.K H ds vs->Vals vs us-> ∃as,ReadsAll s.heap us ps as
 | [],ds,vs,us,t,r,rv=>by
  cases (show ds= [] from t);cases (show vs= [] from r);cases rv;exact⟨[],.nil⟩
 |p::ps,ds,vs,us,t,r,rv=>by
  obtain⟨d,dr,e,t1,t2⟩:=(show ∃d r,ds=d::r/\ToP h d p/\ToPs h r ps from t);subst e;obtain⟨v,vr,e,r1,r2⟩:=(show ∃v r,vs=v::r/\RelD X.K H d v/\RelDs X.K H dr r from r);subst e;cases rv with
  |cons ru rt=>
   obtain⟨as,q1⟩:=jO I rh t1 r1 ru;obtain⟨bs,q2⟩:=reads_Ds I rh t2 r2 rt;exact⟨as++bs,.cons q1 q2⟩
end
end
def eqE:RD2:=λx y h Q=>match x,y with
 | .int i,.int j=>Q (.bl (decide (i=j))) h
 | .bl i,.bl j=>Q (.bl (decide (i=j))) h
 | .str i,.str j=>Q (.bl (decide (i=j))) h
 |x,y=> ∃p q,ToP h x p/\ToP h y q/\shaped p=true/\shaped q=true/\Q (.bl (N9 p q)) h
def neE:RD2:=λx y h Q=>match x,y with
 | .int i,.int j=>Q (.bl (!decide (i=j))) h
 | .bl i,.bl j=>Q (.bl (!decide (i=j))) h
 | .str i,.str j=>Q (.bl (!decide (i=j))) h
 |x,y=> ∃p q,ToP h x p/\ToP h y q/\shaped p=true/\shaped q=true/\Q (.bl (!N9 p q)) h
section
variable {X:Cx}
def eqG:RD2:=λx y h Q=> ∃p q,ToP h x p/\ToP h y q/\shaped p=true/\shaped q=true/\Q (.bl (N9 p q)) h
def neG:RD2:=λx y h Q=> ∃p q,ToP h x p/\ToP h y q/\shaped p=true/\shaped q=true/\Q (.bl (!N9 p q)) h
theorem FA (hu:X.A.units+64<cLine):OpQ X (M7 .Eq) eqG:=by
 intro pins s σ H x y v u Q I rx ry h;obtain⟨dx,dy,h,Qd,r1,r2,rh,⟨p,q,t1,t2,s1,s2,qq⟩,post⟩:=h;obtain⟨as,a1⟩:=jO I rh t1 r1 rx;obtain⟨bs,b1⟩:=jO I rh t2 r2 ry;exact compareEq_shaped a1 b1 s1 s2 hu ⟨.bl _,H,I,rfl,post (.bl _) _ _ _ (.refl H) rh rfl qq⟩
theorem FB (hu:X.A.units+64<cLine):OpQ X (M7 .NotEq) neG:=by
 intro pins s σ H x y v u Q I rx ry h;obtain⟨dx,dy,h,Qd,r1,r2,rh,⟨p,q,t1,t2,s1,s2,qq⟩,post⟩:=h;obtain⟨as,a1⟩:=jO I rh t1 r1 rx;obtain⟨bs,b1⟩:=jO I rh t2 r2 ry;exact compareNe_shaped a1 b1 s1 s2 hu ⟨.bl _,H,I,rfl,post (.bl _) _ _ _ (.refl H) rh rfl qq⟩
theorem OpQ.or' {f:G1->G1->Sem G1}{r r' r2:RD2}(h:OpQ X f r)(h':OpQ X f r')(i: ∀x y hh Q,r2 x y hh Q->r x y hh Q\/r' x y hh Q):OpQ X f r2:=λpins s σ H x y v u Q I rx ry ⟨dx,dy,hd,Qd,r1,r2',rh,q,p⟩=>
 (i dx dy hd Qd q).elim (λz=>h pins s σ H x y v u Q I rx ry ⟨dx,dy,hd,Qd,r1,r2',rh,z,p⟩) λz=>h' pins s σ H x y v u Q I rx ry ⟨dx,dy,hd,Qd,r1,r2',rh,z,p⟩
theorem Wv (hu:X.A.units+64<cLine):OpQ X (M7 .Eq) eqE:=oq_eq.or' (FA hu) λx y h Q q=>by
 unfold eqE at q;split at q
 ·exact .inl q
 ·exact .inl q
 ·exact .inl q
 ·exact .inr q
theorem FC (hu:X.A.units+64<cLine):OpQ X (M7 .NotEq) neE:=oq_ne.or' (FB hu) λx y h Q q=>by
 unfold neE at q;split at q
 ·exact .inl q
 ·exact .inl q
 ·exact .inl q
 ·exact .inr q
def isN:D->M6
 | .non=>true
 |_=>false
def isV (neg:M6):RD2:=λx y h Q=>match y with
 | .non=>Q (.bl (neg !=isN x)) h
 | .bl c=>match x with
  | .bl b=>Q (.bl (neg !=(b==c))) h
  | .non=>Q (.bl neg) h
  |_=>False
 |_=>False
theorem Go {K:G2}{H:Hp}{d:D}{v:V}(r:RelD K H d v):decide (v=V.non)=isN d:=by
 cases d with
 |non=>cases (show v= .non from r);rfl
 |bl b=>cases (show v= .bl b from r);rfl
 |int b=>cases (show v= .int b from r);rfl
 |str b=>cases (show v= .str b from r);rfl
 |tup ds=>obtain⟨a,vs,e,_⟩:=(show ∃a vs,v= .ref a/\H a=some (.tup vs)/\RelDs K H ds vs from r);subst e;rfl
 |lst a=>cases (show v= .ref a from r.1);rfl
 |dic x i=>obtain⟨a,e,_⟩:=(show ∃a,v= .ref a/\H a=some (.dK [(W0 x,V.int i)]) from r);subst e;rfl
 |dct a=>cases (show v= .ref a from r);rfl
 |scr ns=>obtain⟨a,e,_⟩:=(show ∃a,v= .ref a/\Scr K H a ns from r);subst e;rfl
 |exc C=>obtain⟨x,o,vs,e,_⟩:=(show ∃x o vs,v= .ref x/\H x=some (.frz o (.own 0))/\o.cls= .ref C/\o.data= .fields vs from r);subst e;rfl
 |fn a=>cases (show v= .ref a from r.1);rfl
theorem FD:OpQ X (M7 .Is) (isV false):=by
 intro pins s σ H x y v u Q I rx ry h;obtain⟨dx,dy,h,Qd,r1,r2,rh,q,post⟩:=h;cases dy with
 |non=>
  have e:y= .non:=r2;subst e;refine Ci pins s σ H x .non v u Q I rx ry ⟨rfl,?_⟩;rw [Go r1];have q':Qd (.bl (isN dx)) h:=by simpa [isV] using q
  exact post (.bl _) _ _ _ (.refl H) rh rfl q'
 |bl c=>
  have e:y= .bl c:=r2;subst e;cases (show u= .bool c from ry);cases dx<;>first
   |exact False.elim q
   |skip
  ·have e:x= .non:=r1;subst e;cases (show v= .none from rx);exact oC (by rfl) ⟨.bl false,H,I,rfl,post (.bl false) _ _ _ (.refl H) rh rfl q⟩
  ·rename_i b;have e:x= .bl b:=r1;subst e;cases (show v= .bool b from rx);have eb:(Y4 b==Y4 c)=(b==c):=by cases b<;>cases c<;>rfl
   refine oC (by rfl) ⟨.bl (b==c),H,I,by rw [eb];rfl,post (.bl (b==c)) _ _ _ (.refl H) rh rfl ?_⟩;simpa [isV] using q
 |_=>exact False.elim q
theorem DA:OpQ X (M7 .IsNot) (isV true):=by
 intro pins s σ H x y v u Q I rx ry h;obtain⟨dx,dy,h,Qd,r1,r2,rh,q,post⟩:=h;cases dy with
 |non=>
  have e:y= .non:=r2;subst e;refine Mr pins s σ H x .non v u Q I rx ry ⟨rfl,?_⟩;rw [Go r1];have q':Qd (.bl (!isN dx)) h:=by simpa [isV] using q
  exact post (.bl _) _ _ _ (.refl H) rh rfl q'
 |bl c=>
  have e:y= .bl c:=r2;subst e;cases (show u= .bool c from ry);cases dx<;>first
   |exact False.elim q
   |skip
  ·have e:x= .non:=r1;subst e;cases (show v= .none from rx);exact lQ (by rfl) ⟨.bl true,H,I,rfl,post (.bl true) _ _ _ (.refl H) rh rfl q⟩
  ·rename_i b;have e:x= .bl b:=r1;subst e;cases (show v= .bool b from rx);have eb:(!(Y4 b==Y4 c))= !(b==c):=by cases b<;>cases c<;>rfl
   refine lQ (by rfl) ⟨.bl (!(b==c)),H,I,by rw [eb];rfl,post (.bl (!(b==c))) _ _ _ (.refl H) rh rfl ?_⟩;simpa [isV] using q
 |_=>exact False.elim q
end
end L2
namespace L2
open PySem PySem.Spec PyProof.Rows
theorem UK: ∀ {ns:G0 D1} {us:G0 G1},Vals (ns.map V.int) us->W1 us ns
 | [],_,r=>by cases r;exact .nil
 |n::ns,_,r=>by
  cases r with
  |cons r t=>obtain⟨k,rfl⟩:=r;exact .cons n k (UK t)
theorem zM {K:G2}{H:Hp}: ∀ {ns:G0 D1} {vs:G0 V},RelDs K H (ns.map D.int) vs->vs=ns.map V.int
 | [],_,h=>h
 |n::ns,vs,h=>by
  obtain⟨v,r,e,h1,h2⟩:=(show ∃v r,vs=v::r/\RelD K H (.int n) v/\RelDs K H (ns.map D.int) r from h);rw [e,zM h2,(show v= .int n from h1)];rfl
structure JE (X:Cx)(e:S5)(t:TED):Prop where
 to:QE X e t
structure JT (X:Cx)(e:S5)(t:TTD):Prop where
 to:QT X e t
structure JW (X:Cx)(e:S5)(t:TTD):Prop where
 to:QW X e t
structure JA (X:Cx)(e:G0 S5)(t:TAD):Prop where
 to:QA X e t
structure JS (X:Cx)(e:F9)(t:TSD):Prop where
 to:QS X e t
structure JSs (X:Cx)(e:G0 F9)(t:TSD):Prop where
 to:QSs X e t
structure JG (X:Cx)(e:S5)(t:TGD):Prop where
 to:QG X e t
structure JI (X:Cx)(tg e:S5)(t:TID):Prop where
 to:QI X tg e t
structure JO (X:Cx)(e:P2 S5)(t:TOD):Prop where
 to:QO X e t
section
variable {X:Cx}{a b c e:S5}{es rest:G0 S5}{ta tb tc te:TED}{t u:TAD}{tt tu:TTD}{pos:Pos}{f r r':RD2}
theorem jv (i:G9){x:Str}(hN:X.N[i]? =some x:=by rfl)(hv:Vis X.env.scope x:=by first|exact K8 rfl|exact aF (K8 rfl)|exact aF (aF rfl))(hd:(x==("__debug__" :Str))=false:=by decide)(hcd:(x==("__classdict__" :Str))=false:=by decide):JE X (.Name x pos) (Xz i):=⟨qv (i:=i) (hN:=hN) (hv:=hv) (hd:=hd) (hcd:=hcd)⟩
variable {j:G9}
theorem jm {i:D1}:JE X (.Constant (.int i) j pos) (dC (.int i)):=⟨AM⟩
theorem jbl {i:M6}:JE X (.Constant (.bool i) j pos) (dC (.bl i)):=⟨qbl⟩
theorem DB:JE X (.Constant .none j pos) (dC .non):=⟨Eo⟩
theorem wF {x:Str}:JE X (.Constant (.str x) j pos) (dC (.str x)):=⟨Ep⟩
theorem FE {x:Str}{i:D1}{tk:Tok}(hg:Gl X x)(hm:X.mg x=some (.int i tk))(hd:(x==("__debug__" :Str))=false:=by decide):JE X (.Name x pos) (dC (.int i)):=⟨Ou (hg:=hg) (hm:=hm) (hd:=hd)⟩
theorem jop {op:qI}(ho:OpQ X (J5 op) f)(ha:JE X a ta)(hb:JE X b tb):JE X (.BinOp a op b pos) (dOp f ta tb):=⟨qop (ho:=ho) (ha:=ha.to) (hb:=hb.to)⟩
theorem OW {op:gB}(ho:OpQ X (M7 op) f)(ha:JE X a ta)(hb:JE X b tb)(hm:Q3 op b=false):JE X (.Compare a [op] [b] pos) (dOp f ta tb):=⟨Eq (ho:=ho) (ha:=ha.to) (hb:=hb.to) (hm:=hm)⟩
theorem Gp {op:gB}(ho:OpQ X (M7 op) f)(ha:JE X a ta)(hb:JE X b tb)(hm:Q3 op b=false):JT X (.Compare a [op] [b] pos) (Jz (dOp f ta tb)):=⟨Ov (ho:=ho) (ha:=ha.to) (hb:=hb.to) (hm:=hm)⟩
theorem Gq {op op':gB}(ho:OpQ X (M7 op) r)(ho':OpQ X (M7 op') r')(ha:JE X a ta)(hb:JE X b tb)(hc:JE X c tc)(hm:gV [op,op'] [b,c]=false:=by with_unfolding_all rfl):JE X (.Compare a [op,op'] [b,c] pos) (Zm r r' ta tb tc):=⟨CL (ho:=ho) (ho':=ho') (ha:=ha.to) (hb:=hb.to) (hc:=hc.to) (hm:=hm)⟩
theorem Gr {op op':gB}(ho:OpQ X (M7 op) r)(ho':OpQ X (M7 op') r')(ha:JE X a ta)(hb:JE X b tb)(hc:JE X c tc)(hm:gV [op,op'] [b,c]=false:=by with_unfolding_all rfl):JT X (.Compare a [op,op'] [b,c] pos) (Jz (Zm r r' ta tb tc)):=⟨MW (ho:=ho) (ho':=ho') (ha:=ha.to) (hb:=hb.to) (hc:=hc.to) (hm:=hm)⟩
theorem wI (ha:JE X a ta)(he: ∀whole,isTrue a X.env whole=(do let v <-whole;hU a.pos;bF [v] (sH v)):=by intro _;rfl):JT X a (Jz ta):=⟨Ow (ha:=ha.to) (he:=he)⟩
theorem DD (ha:JT X a tt):JW X (.BoolOp .And [a] pos) tt:=⟨Ox (ha:=ha.to)⟩
theorem PX (ha:JT X a tt):JW X (.BoolOp .Or [a] pos) tt:=⟨Er (ha:=ha.to)⟩
theorem Gs (ha:JT X a tt)(hb:JW X (.BoolOp .And (b::rest) pos) tu):JW X (.BoolOp .And (a::b::rest) pos) (MT tt tu):=⟨Oy (ha:=ha.to) (hb:=hb.to)⟩
theorem UL (ha:JT X a tt)(hb:JW X (.BoolOp .Or (b::rest) pos) tu):JW X (.BoolOp .Or (a::b::rest) pos) (Cy tt tu):=⟨Es (ha:=ha.to) (hb:=hb.to)⟩
theorem wy (ha:JT X a tt):JT X (.UnaryOp .Not a pos) (QR tt):=⟨Oz (ha:=ha.to)⟩
theorem VG {op:BoolOp}(ha:JE X a ta):JE X (.BoolOp op [a] pos) ta:=⟨Et (ha:=ha.to)⟩
theorem VH (ha:JE X a ta)(hb:JE X (.BoolOp .And (b::rest) pos) tb):JE X (.BoolOp .And (a::b::rest) pos) (QU ta tb):=⟨Eu (ha:=ha.to) (hb:=hb.to)⟩
theorem jor (ha:JE X a ta)(hb:JE X (.BoolOp .Or (b::rest) pos) tb):JE X (.BoolOp .Or (a::b::rest) pos) (Op ta tb):=⟨qor (ha:=ha.to) (hb:=hb.to)⟩
theorem AT (ha:JE X a ta):JE X (.UnaryOp .Not a pos) (QV ta):=⟨Ev (ha:=ha.to)⟩
theorem jif {c:S5}(hc:JT X c tt)(ha:JE X a ta)(hb:JE X b tb):JE X (.IfExp c a b pos) (dIf tt ta tb):=⟨qif (hc:=hc.to) (ha:=ha.to) (hb:=hb.to)⟩
theorem zc:JA X [] Zl:=⟨CM⟩
theorem jR {k:G9}(h:JA X es t):JE X (.Tuple es k pos) (By t):=⟨Ew (h:=h.to)⟩
theorem yI (h:JA X es t):JE X (.List es pos) (MS t):=⟨Ey (h:=h.to)⟩
end
section
variable {X:Cx}{st:F9}{sts:G0 F9}{t u:TSD}{e:S5}{te:TED}{pos:Pos}
theorem YJ:JSs X [] VQ:=⟨CY⟩
theorem jt (h1:JS X st t)(h2:JSs X sts u):JSs X (st::sts) (wE t u):=⟨Nd (h1:=h1.to) (h2:=h2.to)⟩
theorem jx (h1:JS X st t):JSs X [st] t:=⟨CZ (h1:=h1.to)⟩
theorem Gt (he:JE X e te)(hs:Y0 e none pos.line X.env=pure false:=by rfl):JS X (.Expr e pos) (MY te):=⟨OD (he:=he.to) (hs:=hs)⟩
theorem zl (he:JE X e te):JS X (.Return (some e) pos) (UI te):=⟨Ez (he:=he.to)⟩
theorem FF {c:S5}{a b:G0 F9}{tc:TTD}(hc:JT X c tc)(ha:JSs X a t)(hb:JSs X b u):JS X (.If c a b pos) (MZ tc t u):=⟨EA (hc:=hc.to) (ha:=ha.to) (hb:=hb.to)⟩
variable {i:G9}{x:Str}
theorem AU {pos':Pos}(hN:X.N.Nodup)(hi:X.N[i]? =some x)(hx:Loc X.env.scope x)(he:JE X e te)(hs:Y0 e (some (.Name x pos')) pos.line X.env=pure false:=by rfl)(hf:X.fn x=true\/X.env.scope.names.lookup x=some .local:=by first|exact .inl rfl|exact .inr rfl|assumption):JS X (.Assign [.Name x pos'] e pos) (QY i te):=⟨EB (hN:=hN) (hi:=hi) (hx:=hx) (he:=he.to) (hs:=hs) (hf:=hf)⟩
theorem Ny (hN:X.N.Nodup)(hi:X.N[i]? =some x)(hx:Loc X.env.scope x)(hf:X.fn x=true\/X.env.scope.names.lookup x=some .local:=by first|exact .inl rfl|exact .inr rfl|assumption):JG X (.Name x pos) (gN i):=⟨Nf (hN:=hN) (hi:=hi) (hx:=hx) (hf:=hf)⟩
theorem Ww {j:G9}{y:Str}{p1 p2:Pos}{k:G9}(hc:X.calm=true)(hN:X.N.Nodup)(hi:X.N[i]? =some x)(hj:X.N[j]? =some y)(hx:Loc X.env.scope x)(hy:Loc X.env.scope y)(hf:X.fn x=true\/X.env.scope.names.lookup x=some .local:=by first|exact .inl rfl|exact .inr rfl|assumption)(hf2:X.fn y=true\/X.env.scope.names.lookup y=some .local:=by first|exact .inl rfl|exact .inr rfl|assumption):JG X (.Tuple [.Name x p1,.Name y p2] k pos) (gT2 i j):=⟨Fa (hc:=hc) (hN:=hN) (hi:=hi) (hj:=hj) (hx:=hx) (hy:=hy) (hf:=hf) (hf2:=hf2)⟩
theorem BE {tg:S5}{g:TGD}(he:JE X e te)(hg:JG X tg g)(hs:aS [tg] e pos.line X.env=pure false:=by rfl)(hsw:aT [tg] e X.env=pure none:=by rfl)(h1:(bO [tg] X.env).map (·.2)= [dL tg X.env]:=by rfl):JS X (.Assign [tg] e pos) (OA te g):=⟨EC (he:=he.to) (hg:=hg.to) (hs:=hs) (hsw:=hsw) (h1:=h1)⟩
theorem EM {j:G9}{y:Str}{a b:S5}{ta:TAD}{px py pt:Pos}{kt k2 pt2}(hc:X.calm=true)(hN:X.N.Nodup)(hi:X.N[i]? =some x)(hj:X.N[j]? =some y)(hij:i≠j)(hx:X.env.scope.names.lookup x=some .local)(hy:X.env.scope.names.lookup y=some .local)(ha:JA X [a,b] ta)(hw:aT [.Tuple [.Name x px,.Name y py] kt pt] (.Tuple [a,b] k2 pt2) X.env=pure (some [x,y]))(hs:aS [.Tuple [.Name x px,.Name y py] kt pt] (.Tuple [a,b] k2 pt2) pos.line X.env=pure false:=by rfl):JS X (.Assign [.Tuple [.Name x px,.Name y py] kt pt] (.Tuple [a,b] k2 pt2) pos) (OB i j ta):=⟨ED (hc:=hc) (hN:=hN) (hi:=hi) (hj:=hj) (hij:=hij) (hx:=hx) (hy:=hy) (ha:=ha.to) (hw:=hw) (hs:=hs)⟩
end
section
variable {X:Cx}{tg e iter elt:S5}{te:TED}{ti:TID}{g:TGD}{tb:TSD}{tt:TTD}{pos:Pos}{ta:TAD}{scope:O0}{js:G0 G9}{ifs:G0 S5}
theorem Gu (he:JE X e te):JI X tg e (iL te):=⟨Nj (he:=he.to)⟩
theorem OX {p:Pos}{a:S5}(hg:Gl X "range")(hm:X.mg "range" =none)(ha:JA X [a] ta)(hs:D2 [a] X.env= [(false,O4 a X.env)]:=by rfl):JI X tg (.Call (.Name "range" p) [a] [] pos) (iR1 ta):=⟨OH (hg:=hg) (hm:=hm) (ha:=ha.to) (hs:=hs)⟩
theorem XD {body:G0 F9}(hp:pI (R6 X.prog X.w) X.A X.env X.xe)(hc:X.calm=true)(hi:JI X tg iter ti)(hg:JG X tg g)(hb:JSs X body tb)(hs: ∀x,T7 iter X.env x=pure x:=by intro _;rfl):JS X (.For tg iter body [] pos) (Bz ti g tb):=⟨EF (hp:=hp) (hc:=hc) (hi:=hi.to) (hg:=hg.to) (hb:=hb.to) (hs:=hs)⟩
theorem Zp:PTs X [] (LT X.K Ws):=Nk
theorem Gv {c:S5}(hc:JT X c tt):PTs X [c] (LT X.K tt):=Nl (hc:=hc.to)
theorem jlc {i:G9}{x:Str}{p:Pos}(hc:X.calm=true)(S:BlockOk X scope js)(hi:JI X (.Name x p) iter ti)(hj:i∈js)(hN:X.N.Nodup)(hx:X.N[i]? =some x)(hl:scope.names.lookup x=some .local\/scope.names.lookup x=some .cell)(ht: ∀X',jn X scope X'->PTs X' ifs (LT X'.K tt))(he: ∀X',jn X scope X'->JE X' elt te)(hs: ∀x,T7 iter X.env x=pure x:=by intro _;rfl):JE X (.ListComp elt [⟨.Name x p,iter,ifs,0⟩] scope pos) (vX (bN i) js ti tt te):=⟨qlc (hc:=hc) (S:=S) (hi:=hi.to) (hj:=hj) (hN:=hN) (hx:=hx) (hl:=hl) (ht:=ht) (he:=λX' hX=>(he X' hX).to) (hs:=hs)⟩
theorem AV {i j:G9}{x y:Str}{p1 p2 p3:Pos}{k:G9}(hc:X.calm=true)(S:BlockOk X scope js)(hi:JI X (.Tuple [.Name x p1,.Name y p2] k p3) iter ti)(hj:i∈js)(hj2:j∈js)(hij:i≠j)(hN:X.N.Nodup)(hx:X.N[i]? =some x)(hy:X.N[j]? =some y)(hl:scope.names.lookup x=some .local\/scope.names.lookup x=some .cell)(hl2:scope.names.lookup y=some .local\/scope.names.lookup y=some .cell)(ht: ∀X',jn X scope X'->PTs X' ifs (LT X'.K tt))(he: ∀X',jn X scope X'->JE X' elt te)(hs: ∀x,T7 iter X.env x=pure x:=by intro _;rfl):JE X (.ListComp elt [⟨.Tuple [.Name x p1,.Name y p2] k p3,iter,ifs,0⟩] scope pos) (vX (b2 i j) js ti tt te):=⟨EG (hc:=hc) (S:=S) (hi:=hi.to) (hj:=hj) (hj2:=hj2) (hij:=hij) (hN:=hN) (hx:=hx) (hy:=hy) (hl:=hl) (hl2:=hl2) (ht:=ht) (he:=λX' hX=>(he X' hX).to) (hs:=hs)⟩
end
section
variable {X:Cx}{k:G9}{f:G7}{fd:S0}{ps:G0 Str}{spd:RDn}{x:Str}{p pos:Pos}{e:S5}{es:G0 S5}{t:TAD}
theorem OY (F:FnOk X.prog X.w X.K X.mg X.base CX0 k f fd ps (LSp X.K spd))(hr:Room k X.A)(hg:Gl X x)(hm:X.mg x=some (.ref f))(hk:A6 X.K (.ref f)=true)(hb:Binds X.K fd ps [])(ha:JA X (e::es) t)(hdb:(x==("__debug__" :Str))=false:=by decide)(he:D2 (e::es) X.env=(false,O4 e X.env)::D2 es X.env:=by rfl)(hpl:(E6 pos (D2 es X.env)).any (·.1)=false:=by rfl):JE X (.Call (.Name x p) (e::es) [] pos) (dCB spd t):=⟨OJ (F:=F) (hr:=hr) (hg:=hg) (hm:=hm) (hk:=hk) (hb:=hb) (ha:=ha.to) (hdb:=hdb) (he:=he) (hpl:=hpl)⟩
theorem zm {id:J9}{r:RDn}(hc:wX X (.builtin id) r)(hg:Gl X x)(hm:X.mg x=none)(hv:E4 x=some (.builtin id))(ha:JA X (e::es) t)(hn:x≠ "__name__" :=by decide)(hdb:(x==("__debug__" :Str))=false:=by decide)(he:D2 (e::es) X.env=(false,O4 e X.env)::D2 es X.env:=by rfl)(hpl:(E6 pos (D2 es X.env)).any (·.1)=false:=by rfl):JE X (.Call (.Name x p) (e::es) [] pos) (dCB r t):=⟨Fe (hc:=hc) (hg:=hg) (hm:=hm) (hv:=hv) (ha:=ha.to) (hn:=hn) (hdb:=hdb) (he:=he) (hpl:=hpl)⟩
theorem ya {T:J9}{r:RDn}(hc:wX X (.type T) r)(hg:Gl X x)(hm:X.mg x=none)(hv:E4 x=some (.type T))(ha:JA X (e::es) t)(hn:x≠ "__name__" :=by decide)(hdb:(x==("__debug__" :Str))=false:=by decide)(he:D2 (e::es) X.env=(false,O4 e X.env)::D2 es X.env:=by rfl)(hpl:(E6 pos (D2 es X.env)).any (·.1)=false:=by rfl):JE X (.Call (.Name x p) (e::es) [] pos) (dCB r t):=⟨Nm (hc:=hc) (hg:=hg) (hm:=hm) (hv:=hv) (ha:=ha.to) (hn:=hn) (hdb:=hdb) (he:=he) (hpl:=hpl)⟩
end
section
variable {X:Cx}{iter elt:S5}{te:TED}{ti:TID}{tt:TTD}{pos spos:Pos}{scope:O0}{js:G0 G9}{ifs:G0 S5}
theorem FG {i k:G9}{x y:Str}{p py:Pos}(hc:X.calm=true)(hN:X.N.Nodup)(hk:X.N[k]? =some y)(hy:Loc X.env.scope y)(S:BlockOk X scope js)(hi:JI X (.Name x p) iter ti)(hj:i∈js)(hx:X.N[i]? =some x)(hl:scope.names.lookup x=some .local\/scope.names.lookup x=some .cell)(ht: ∀X',jn X scope X'->PTs X' ifs (LT X'.K tt))(he: ∀X',jn X scope X'->JE X' elt te)(hsw:Y0 (.ListComp elt [⟨.Name x p,iter,ifs,0⟩] scope pos) (some (.Name y py)) spos.line X.env=pure true:=by rfl)(hf:X.fn y=true\/X.env.scope.names.lookup y=some .local:=by first|exact .inl rfl|exact .inr rfl|assumption)(hs: ∀x,T7 iter X.env x=pure x:=by intro _;rfl):JS X (.Assign [.Name y py] (.ListComp elt [⟨.Name x p,iter,ifs,0⟩] scope pos) spos) (QY k (vX (bN i) js ti tt te)):=⟨Ff (hc:=hc) (hN:=hN) (hk:=hk) (hy:=hy) (S:=S) (hi:=hi.to) (hj:=hj) (hx:=hx) (hl:=hl) (ht:=ht) (he:=λX' hX=>(he X' hX).to) (hsw:=hsw) (hf:=hf) (hs:=hs)⟩
end
section
variable {X:Cx}{iter iter' elt:S5}{te:TED}{ti ti':TID}{tt tt':TTD}{pos:Pos}{scope:O0}{js:G0 G9}{ifs ifs':G0 S5}
theorem EN {i i':G9}{x y:Str}{p py:Pos}(hc:X.calm=true)(S:BlockOk X scope js)(hi:JI X (.Name x p) iter ti)(hj:i∈js)(hj':i'∈js)(hne:i≠i')(hN:X.N.Nodup)(hx:X.N[i]? =some x)(hy:X.N[i']? =some y)(hl:scope.names.lookup x=some .local\/scope.names.lookup x=some .cell)(hl':scope.names.lookup y=some .local\/scope.names.lookup y=some .cell)(ht: ∀X',jn X scope X'->PTs X' ifs (LT X'.K tt))(hi': ∀X',jn X scope X'->JI X' (.Name y py) iter' ti')(ht': ∀X',jn X scope X'->PTs X' ifs' (LT X'.K tt'))(he: ∀X',jn X scope X'->JE X' elt te)(hs: ∀x,T7 iter X.env x=pure x:=by intro _;rfl)(hs': ∀env x,T7 iter' env x=pure x:=by intro _ _;rfl):JE X (.ListComp elt [⟨.Name x p,iter,ifs,0⟩,⟨.Name y py,iter',ifs',0⟩] scope pos) (BB (bN i) js ti tt i' ti' tt' te):=⟨EH (hc:=hc) (S:=S) (hi:=hi.to) (hj:=hj) (hj':=hj') (hne:=hne) (hN:=hN) (hx:=hx) (hy:=hy) (hl:=hl) (hl':=hl') (ht:=ht) (hi':=λX' hX=>(hi' X' hX).to) (ht':=ht') (he:=λX' hX=>(he X' hX).to) (hs:=hs) (hs':=hs')⟩
end
section
variable {X:Cx}{a b e:S5}{ta tb te:TED}{pos p2:Pos}
theorem jix (ha:JE X a ta)(hb:JE X b tb)(hs:WJ b):JE X (.Subscript a b pos) (dOp ixD ta tb):=⟨qix (ha:=ha.to) (hb:=hb.to) (hs:=hs)⟩
end
variable {X:Cx}{pos:Pos}
theorem JC {a:S5}{ta:TED}{T:J9}{t:Str}{p p2:Pos}(hT:T∈ ["tuple","int","bool","list","str"])(hg:Gl X "isinstance")(hm:X.mg "isinstance" =none)(hg2:Gl X t)(hm2:X.mg t=none)(hv:E4 t=some (.type T))(ha:JE X a ta)(hn:t≠ "__name__" :=by decide)(hd:(t==("__debug__" :Str))=false:=by decide)(h1:D2 [a,.Name t p2] X.env=(false,O4 a X.env)::D2 [.Name t p2] X.env:=by rfl)(h2:(E6 pos (D2 [.Name t p2] X.env)).any (·.1)=false:=by rfl):JE X (.Call (.Name "isinstance" p) [a,.Name t p2] [] pos) (dIs T ta):=⟨OR (hT:=hT) (hg:=hg) (hm:=hm) (hg2:=hg2) (hm2:=hm2) (hv:=hv) (ha:=ha.to) (hn:=hn) (hd:=hd) (h1:=h1) (h2:=h2)⟩
section
variable {X:Cx}{o e i:S5}{to te ti:TED}{apos cpos pos:Pos}
theorem LB (ho:JE X o to)(he:JE X e te)(hbase:aV o "append" X.env (O4 o X.env)=O4 o X.env:=by rfl)(hfew:((E6 cpos (D2 [e] X.env)).all (λx=> !x.1)&&(iW cpos (dF [] X.env)).all (λx=>x.1.isSome)&&decide ([e].length+([]:G0 cL).length+(if ([]:G0 cL).isEmpty then 0 else 1)<30))=true:=by rfl)(hline:(apos.endLine==cpos.line)=true:=by rfl)(hs:D2 [e] X.env=(false,O4 e X.env)::D2 [] X.env:=by rfl)(hplain:(E6 cpos (D2 [] X.env)).any (·.1)=false:=by rfl):JE X (.Call (.Attribute o "append" apos) [e] [] cpos) (AQ to te):=⟨EJ (ho:=ho.to) (he:=he.to) (hbase:=hbase) (hfew:=hfew) (hline:=hline) (hs:=hs) (hplain:=hplain)⟩
theorem UM (ho:JE X o to)(hi:JE X i ti)(ha: ∀v,dL (.Subscript o i pos) X.env v=(do
 let ov <-bF [v] (O4 o X.env)
 let iv <-bF [v,ov] (O4 i X.env)
 hU pos
 bF [v,ov,iv] (pQ ov iv v)
 rO [v,ov,iv] []):=by intro _;rfl):JG X (.Subscript o i pos) (Fo to ti):=⟨Fp (ho:=ho.to) (hi:=hi.to) (ha:=ha)⟩
end
variable {e:S5}
theorem jpt {t:TTD}(h:JW X e t):JT X e t:=⟨qpt (h:=h.to)⟩
theorem yb:JO X none Gi:=⟨Nu⟩
variable {te:TED}
theorem wq (he:JE X e te):JO X (some e) (Fq te):=⟨Nv (he:=he.to)⟩
theorem vy {lo hi:P2 S5}{tl th:TOD}{p2:Pos}(he:JE X e te)(hl:JO X lo tl)(hu:JO X hi th):JE X (.Subscript e (.Slice lo hi none p2) pos) (dSl te tl th):=⟨Fr (he:=he.to) (hl:=hl.to) (hu:=hu.to)⟩
theorem FH {a:S5}{ta:TED}(ha:JE X a ta):JE X (.UnaryOp .USub a pos) (dUn Fs ta):=⟨AR (ha:=ha.to)⟩
theorem EO {p2 p3 p4:Pos}{j:G9}(he:JE X e te):JE X (.Subscript e (.Slice none none (some (.UnaryOp .USub (.Constant (.int 1) j p4) p3)) p2) pos) (AS te):=⟨EL (he:=he.to)⟩
theorem RV {ks:G0 (P2 S5)}{vs:G0 S5}{x:Str}{i:D1}(h:VW ks vs=some (x,i):=by rfl):JE X (.Dict ks vs pos) (YH x i):=⟨Fu (h:=h)⟩
theorem zW {tg:S5}(he:JE X e te):JI X tg e (iS te):=⟨Fy (he:=he.to)⟩
theorem Gw {st:F9}:JS X st RU:=⟨Fz⟩
theorem jac {es:G0 S5}{t:TAD}(ha:JE X e te)(hr:JA X es t)(h:za e=true:=by rfl):JA X (e::es) (jZ te t):=⟨qac (ha:=ha.to) (hr:=hr.to) (h:=h)⟩
section
variable {P:R5}{w:N0}{K:G2}{mg:Str->P2 G1}{base:N2}
theorem Fun.okJ {x qual:Str}{st:F9}{f:G7}{fd:S0}{N ps:G0 Str}{k:G9}{spd:RDn}(F:Fun K x qual st f fd)(S:FnScope N ps (jd st))(len: ∀ds h Q,spd ds h Q->ds.length=ps.length)
 (tb:TSD)(hbody: ∀ (cdv:G1) (A:T0) (outer:G0 Env) (s:G3) (H:Hp) (E:XK),Room k (A.deeper (A8 qual (jd st) s.heap.objs.size f cdv))->JSs (ZY CX0 P w K mg base N qual (jd st) f cdv A outer s H E).nox (jJ st) tb)
 (read: ∀ds h Q,spd ds h Q->tb (Yt Q) (jN N ds) h):FnOk P w K mg base CX0 (k+1) f fd ps (LSp K spd):=F.okD S len tb (λcdv A outer s H E hr=>(hbody cdv A outer s H E hr).to) read
end
def zN (r:G0 D1):D:= .tup (r.map D.int)
def zd (T:G0 (G0 D1)):D:= .tup (T.map zN)
def VY (n:G9)(r:G0 D1):Prop:=r.length=n/\ ∀x∈r,0<=x/\x<=1000000
def GoodTab (n:G9)(T:G0 (G0 D1)):Prop:=T.length=n/\ ∀r∈T,VY n r
structure Sq (n e:G9)(T:G0 (G0 D1)):Prop where
 len:T.length=n
 row: ∀r∈T,r.length=n
 nn: ∀r∈T,∀x∈r,0<=x
 bit: ∀r∈T,∀x∈r,x<2^e
theorem GoodTab.sq {n:G9}{T:G0 (G0 D1)}(g:GoodTab n T):Sq n 20 T:=⟨g.1,λr hr=>(g.2 r hr).1,λr hr x hx=>((g.2 r hr).2 x hx).1,λr hr x hx=>fH ((g.2 r hr).2 x hx).2 (by decide)⟩
def ent (T:G0 (G0 D1))(i j:G9):D1:=(T.getD i []).getD j 0
def mkT (n:G9)(f:G9->G9->D1):G0 (G0 D1):=(N4 n).map λi=>(N4 n).map λj=>f i j
theorem Sq.ent_nn {n e:G9}{T:G0 (G0 D1)}(h:Sq n e T){i j:G9}(hi:i<n)(hj:j<n):0<=ent T i j/\ent T i j<2^e:=by
 have hi':i<T.length:=by rw [h.len];exact hi
 have hr:T.getD i []=T[i]:=by rw [N6,G8 hi'];rfl
 have hm:T[i]∈T:=L6 hi';have hj':j<T[i].length:=by rw [h.row _ hm];exact hj
 have he:ent T i j=T[i][j]:=by unfold ent;rw [hr,N6,G8 hj'];rfl
 rw [he];exact⟨h.nn _ hm _ (L6 hj'),h.bit _ hm _ (L6 hj')⟩
def OZ (n:G9)(f:G9->D1):D1:=((N4 n).map f).sum
def EQ (n:G9)(T U:G0 (G0 D1)):G0 (G0 D1):=mkT n λi j=>OZ n λk=>ent T i k*ent U k j
def ER (n:G9):G0 (G0 D1):=mkT n λi j=>if i=j then 1 else 0
def Aa (n:G9)(T:G0 (G0 D1)):G9->G0 (G0 D1)
 |0=>ER n
 |k+1=>EQ n (Aa n T k) T
theorem Gx {x:D1}{e:G9}(h0:0<=x)(h1:x<2^e):x.natAbs<2^e:=by
 have:((2^e:G9):D1)=2^e:=by simp
 omega
section
variable {α β:Type}{i i':G9}{js:G0 G9}{ti ti':TID}{te:TED}{σ:SD}{h:HD}{Q:KD}{j:ItD}
theorem lcA (xs:G0 α)(c g:α->D)(hz:xs.length<=1000)(hj:j h=some (xs.map c))(ht: ∀R:ItD->HD->Prop,R j h->ti σ h R)
 (he: ∀x∈xs,∀Q':KD,Q' (g x) h->te ((jM js σ).set i (some (c x))) h Q')(hq: ∀p,h p=none->Q (.lst p) (zB h p (xs.map g))):vX (bN i) js ti Ws te σ h Q:=by
 refine ht _ ⟨xs.length,λk ys h'=>h'=h/\ys=(xs.take k).map g,⟨rfl,by simp⟩,?_⟩;rintro k ys h' ⟨rfl,rfl⟩;refine⟨by simp only [G6,T1];exact R8 (jz (by omega)),xs.map c,hj,by simp,λhl p hp=> ?_,λd hd=>⟨_,rfl,?_⟩⟩
 ·rw [T8 (by simpa using hl)];exact hq p hp
 ·unfold Ws;dsimp only;rw [S8 rfl];rw [R9] at hd;cases hx:xs[k]? with
  |none=>rw [hx] at hd;cases hd
  |some x=>
   rw [hx] at hd;cases hd;refine he x (P5 hx) _ ⟨h',Sub.refl _,rfl,?_⟩;rw [A2,hx];simp
theorem lcF (xs:G0 α)(c g:α->D)(p:α->M6){tt:TTD}(hz:xs.length<=1000)(hj:j h=some (xs.map c))(ht: ∀R:ItD->HD->Prop,R j h->ti σ h R)
 (hp: ∀x∈xs,∀Q':M6->HD->Prop,Q' (p x) h->tt ((jM js σ).set i (some (c x))) h Q')(he: ∀x∈xs,p x=true-> ∀Q':KD,Q' (g x) h->te ((jM js σ).set i (some (c x))) h Q')(hq: ∀a,h a=none->Q (.lst a) (zB h a ((xs.filter p).map g))):vX (bN i) js ti tt te σ h Q:=by
 refine ht _ ⟨xs.length,λk ys h'=>h'=h/\ys=((xs.take k).filter p).map g,⟨rfl,by simp⟩,?_⟩;rintro k ys h' ⟨rfl,rfl⟩;refine⟨?_,xs.map c,hj,by simp,λhl a ha=> ?_,λd hd=>⟨_,rfl,?_⟩⟩
 ·have:=W4 p (xs.take k);simp only [G6,T1] at this ⊢;exact R8 (jz (by omega))
 ·rw [T8 (by simpa using hl)];exact hq a ha
 ·rw [R9] at hd;cases hx:xs[k]? with
  |none=>rw [hx] at hd;cases hd
  |some x=>
   rw [hx] at hd;cases hd;refine hp x (P5 hx) _ ?_;cases hb:p x with
   |true=>
    rw [S8 rfl];refine he x (P5 hx) hb _ ⟨h',Sub.refl _,rfl,?_⟩;rw [A2,hx];simp [hb]
   |false=>
    rw [S7 R0];refine⟨h',Sub.refl _,rfl,?_⟩;rw [A2,hx];simp [hb]
theorem FI (xs:G0 α)(c g:α->D)(p:α->M6){tt:TTD}(hz:xs.length<=1000)(hj:j h=some (xs.map c))(ht: ∀R:ItD->HD->Prop,R j h->ti σ h R)
 (hp: ∀x∈xs,∀Q':M6->HD->Prop,Q' (p x) h->tt ((jM js σ).set i (some (c x))) h Q')(he: ∀x∈xs,p x=true-> ∀Q':KD,Q' (g x) h->te ((jM js σ).set i (some (c x))) h Q')(hq:Q (.tup ((xs.filter p).map g)) h):dCB Wu (jZ (vX (bN i) js ti tt te) Zl) σ h Q:=by
 show vX (bN i) js ti tt te σ h (λx h1=>Wu [x] h1 Q);exact lcF xs c g p hz hj ht hp he λa ha=>(show ∃ys,zB h a ((xs.filter p).map g) a=some ys/\Q (.tup ys) (jK (zB h a ((xs.filter p).map g)) a) from ⟨_,jc,by rw [zC ha];exact hq⟩)
theorem Nz (xs:G0 α)(c:α->D)(g:α->M6)(hz:xs.length<=1000)(hj:j h=some (xs.map c))(ht: ∀R:ItD->HD->Prop,R j h->ti σ h R)
 (he: ∀x∈xs,∀Q':KD,Q' (.bl (g x)) h->te ((jM js σ).set i (some (c x))) h Q')(hq:Q (.bl (xs.all g)) h):dCB Nt (jZ (vX (bN i) js ti Ws te) Zl) σ h Q:=by
 show vX (bN i) js ti Ws te σ h (λx h1=>Nt [x] h1 Q);exact lcA xs c (λx=> .bl (g x)) hz hj ht he λp hp=>⟨p,xs.map g,rfl,by rw [jc,O7];rfl,by rw [zC hp,Q7];exact hq⟩
theorem ES (xs:G0 α)(c:α->D)(g:α->M6)(hz:xs.length<=1000)(hj:j h=some (xs.map c))(ht: ∀R:ItD->HD->Prop,R j h->ti σ h R)
 (he: ∀x∈xs,∀Q':KD,Q' (.bl (g x)) h->te ((jM js σ).set i (some (c x))) h Q')(hq:Q (.bl (xs.any g)) h):dCB OS (jZ (vX (bN i) js ti Ws te) Zl) σ h Q:=by
 show vX (bN i) js ti Ws te σ h (λx h1=>OS [x] h1 Q);exact lcA xs c (λx=> .bl (g x)) hz hj ht he λp hp=>⟨p,xs.map g,rfl,by rw [jc,O7];rfl,by rw [zC hp,lN];exact hq⟩
end
end L2
namespace L2
open PySem PySem.Spec PyProof.Rows PySem.SeqAt
def zg (o:G0 G9):D:= .tup (o.map λ(k:G9)=>D.int (k:D1))
def VZ (o:G0 G9):G0 D1:=o.map λ(k:G9)=>(k:D1)
theorem NA (o:G0 G9):zg o= .tup ((VZ o).map D.int):=by unfold zg VZ;rw [O7];rfl
theorem YK (h:HD): ∀ns:G0 D1,ToPs h (ns.map D.int) (ns.map cZ)
 | []=>rfl
 |n::ns=>⟨_,_,rfl,rfl,YK h ns⟩
theorem Zq: ∀ns:G0 D1,C0 (ns.map cZ)=true
 | []=>rfl
 |n::ns=>by show (cR (.int n)&&_)=true;rw [Zq ns];rfl
theorem Wx: ∀ns:G0 D1,T6 (ns.map cZ)<=1
 | []=>by simp [T6]
 |n::ns=>by
  have:=Wx ns;simp only [N5,T6,W9];omega
def RW (r:G0 D1):C8:= .tuple (r.map .int)
def AW (T:G0 (G0 D1)):C8:= .tuple (T.map RW)
variable {n:G9}
theorem Ua {e:G9}{T:G0 (G0 D1)}(h:Sq n e T){i:G9}(hi:i<n):atI (T.map zN) (i:D1)=some (zN (T.getD i [])):=by
 have hi':i<T.length:=by rw [h.len];exact hi
 exact yQ (by rw [R9,N6,G8 hi'];rfl)
theorem Sq.getRow {e:G9}{T:G0 (G0 D1)}(h:Sq n e T){i:G9}(hi:i<n):T.getD i []∈T:=by
 have hi':i<T.length:=by rw [h.len];exact hi
 rw [N6,G8 hi'];exact L6 hi'
theorem Gy {r:G0 D1}(h:r.length=n){j:G9}(hj:j<n):atI (r.map D.int) (j:D1)=some (.int (r.getD j 0)):=by
 have hj':j<r.length:=by rw [h];exact hj
 exact yQ (by rw [R9,N6,G8 hj'];rfl)
section
variable {prog:R5}{w:N0}{A:T0}{E:G1->G3->Prop}{s:G3}
variable {items:T9 G1}
theorem Gz {it t:G7}{i n:G9}{d1 d2:P2 G7}{s1 s2:T9 (P2 G1)}{P:dZ->G3->Prop}(a1:s.heap.get? it=some {cls:= .type "tuple_iterator",dict:=d1,data:= .fields #[.ref t,.int i 0],slots:=s1})(a2:s.heap.get? t=some {cls:= .type "tuple",dict:=d2,data:= .seq items n,slots:=s2})
 (more: ∀x h',items[i]? =some x->h'.IsTupleIter it t (i+1)->Y5 it s.heap h'->P (.done (.ret x)) {s with heap:=h'})
 (none_:items[i]? =none->R1 (R6 prog w) A (do setField (.ref it) 0 .none;X0) P E s):R1 (R6 prog w) A (Builtin.«tuple_iterator.__next__» ⟨[.ref it],[]⟩) P E s:=by
 obtain⟨hp,g,d,tk,os⟩:=s
 wp_walk
 rw [gH];cases hx:items[i]? with
 |none=>exact wpAny_bind (cX (none_ hx))
 |some x=>
  refine wpAny_bind (oE a1 rfl (by simp) (P1 (more x _ hx ⟨_,Z6 _ a1 ?_,rfl,?_⟩ (aN ..))))
  ·rfl
  ·simp [dB,aM]
theorem Ub {Q:dZ->G3->Prop}(hh:A.handled=none)(hE: ∀h' e,(∀b o,s.heap.get? b=some o->h'.get? b=some o)->(∃o,h'.get? e=some o/\o.cls= .type "StopIteration")->E (.ref e) {s with heap:=h'}):R1 (R6 prog w) A X0 Q E s:=by
 obtain⟨hp,g,d,tk,os⟩:=s;unfold X0
 wp_walk
 unfold raiseNew;refine wpAny_bind (wpAny_handled ?_);rw [hh];exact wpAny_bind (P1 (wpAny_throw (hE _ _ (λb o q=>G5 _ (G5 _ q)) ⟨_,S3 _ rfl,rfl⟩)))
theorem vZ {it t:G7}{i:G9}{x:G1}{Q:G1->G3->Prop}(hit:s.heap.IsTupleIter it t i)(ht:s.heap.IsTuple t items)(hx:items[i]? =some x)
 (hQ: ∀h',h'.IsTupleIter it t (i+1)->Y5 it s.heap h'->Q x {s with heap:=h'}):R1 (R6 prog w) A (I0 (.ref it)) Q E s:=by
 obtain⟨⟨c,d1,dt,s1⟩,ho,rfl,rfl⟩:=id hit;obtain⟨⟨c2,d2,dt2,s2⟩,hol,rfl,nl,rfl⟩:=ht;exact wpAny_bind (E1 hit.typeIs V5 (E8 V5 hit.typeIs dX (Gz ho hol (λy h' e b1 b2=>⟨y,rfl,P1 (by rw [hx] at e;cases e;exact hQ h' b1 b2)⟩) λe=>by rw [hx] at e;cases e) (dN _)))
theorem zw {it t:G7}{i:G9}{Q:G1->G3->Prop}(hh:A.handled=none)(hit:s.heap.IsTupleIter it t i)(ht:s.heap.IsTuple t items)(hx:items[i]? =none)
 (hE: ∀h' e,mY it s.heap h'->(∃o,h'.get? e=some o/\o.cls= .type "StopIteration")->E (.ref e) {s with heap:=h'}):R1 (R6 prog w) A (I0 (.ref it)) Q E s:=by
 obtain⟨⟨c,d1,dt,s1⟩,ho,rfl,rfl⟩:=id hit;obtain⟨⟨c2,d2,dt2,s2⟩,hol,rfl,nl,rfl⟩:=ht;refine wpAny_bind (E1 hit.typeIs V5 (E8 V5 hit.typeIs dX (Gz ho hol (λy h' e b1 b2=>by rw [hx] at e;cases e) λ_=>wpAny_bind (oE ho rfl (by simp) ?_)) (dN _)));exact Ub (s:= {s with heap:=_}) hh λh' e grown stop=>hE h' e (λb o ne q=>grown b o ((aN ..).extBut b o ne q)) stop
end
variable {prog:R5}{w:N0}{A:T0}
theorem GA (hh:A.handled=none)(it t:G7)(hne:t≠it)(items:T9 G1):
 Draws prog w A it [it,t] items.size (λi v=>items[i]? =some v) (λi h=>h.IsTupleIter it t i/\h.IsTuple t items) where
 live:=λ_ _ st=>let ⟨o,ho,_⟩:=st.1;⟨o,ho⟩
 frame:=λ_ _ _ st hk=>⟨st.1.at λo e=>hk it (by simp) o e,st.2.at λo e=>hk t (by simp) o e⟩
 item:=λi s Q E hi st hQ=>vZ st.1 st.2 (x:=items[i]) (by simp [hi]) λh' hit' hs'=>hQ _ h' s.toks (by simp [hi]) ⟨hit',st.2.extBut hs'.extBut hne⟩ hs'
 done:=λs Q E st hE=>zw hh st.1 st.2 (by simp) hE
theorem GB (hh:A.handled=none)(it t:G7)(items:T9 G1)(n:G9)(hn:items.size<=n):
 Draws prog w A it [it,t] n (λ_ _=>False) (λi h=>i=n/\h.IsTupleIter it t n/\h.IsTuple t items) where
 live:=λ_ _ st=>let ⟨o,ho,_⟩:=st.2.1;⟨o,ho⟩
 frame:=λ_ _ _ st hk=>⟨st.1,st.2.1.at λo e=>hk it (by simp) o e,st.2.2.at λo e=>hk t (by simp) o e⟩
 item:=λi s Q E hi st hQ=>absurd st.1 (T5 hi)
 done:=λs Q E st hE=>zw hh st.2.1 st.2.2 (Array.getElem?_eq_none hn) hE
section
variable {prog:R5}{w:N0}{A:T0}{E:G1->G3->Prop}{s:G3}
theorem GC {l:G7}{its:T9 G1}{P:dZ->G3->Prop}(at_:s.heap.IsTuple l its)
 (h: ∀h',rG h' (s.heap.objs.size+1) s.heap.objs.size 0 .none->h'.IsTupleIter s.heap.objs.size l 0->(∀b o,s.heap.get? b=some o->h'.get? b=some o)->P (.done (.ret (.ref (s.heap.objs.size+1)))) {s with heap:=h'}):
 R1 (R6 prog w) A (Builtin.«enumerate.__new__» ⟨[.type "enumerate",.ref l],[]⟩) P E s:=by
 have fine:=sub_enumerate;obtain⟨⟨c,dd,dt,sl⟩,there,rfl,n,rfl⟩:=id at_;obtain⟨hp,g,d,tk,os⟩:=s;have size: ∀o,(hp.push o).objs.size=hp.objs.size+1:=λo=>cN ..
 have made:=S3 (hp.push {cls:= .type "tuple_iterator",data:= .fields #[.ref l,.int 0 0]}) (o:= {cls:= .type "enumerate",data:= .fields #[.none,.bool false,.ref hp.objs.size,aM 0,.none,.none]}) rfl;have fin:=h _ (by rw [<-size];exact made) ⟨_,G5 _ (S3 _ rfl),rfl,rfl⟩ λb o old=>G5 _ (G5 _ old)
 rw [<-size {cls:= .type "tuple_iterator",data:= .fields #[.ref l,.int 0 0]}] at fin
 wp_walk using aX there
 refine wpAny_stack_any λcalls=>P1 ?_
 split
 case h_1 c _ _ _ _ _=>cases c==K0 "enumerate" <;>(wp_walk using aX there,V4 at_;exact fin)
 case h_2=>wp_walk using aX there,V4 at_;exact fin
theorem WT {l:G7}{items:T9 G1}{Q:G1->G3->Prop}(hL:s.heap.IsTuple l items)
 (h: ∀h',rG h' (s.heap.objs.size+1) s.heap.objs.size 0 .none->h'.IsTupleIter s.heap.objs.size l 0->(∀b o,s.heap.get? b=some o->h'.get? b=some o)->Q (.ref (s.heap.objs.size+1)) {s with heap:=h'}):
 R1 (R6 prog w) A (call (.type "enumerate") [.ref l]) Q E s:=
 callType_new F.called_enumerate (by decide) (F.typeCall_enumerate_1 _) (F.newCall_enumerate_1 _) (λ_=>F.args_object_init_2 _ _) F.entry_enumerate_new
  (S:=λ_ R s=>s.heap.IsTuple l items/\ ∀h',rG h' (s.heap.objs.size+1) s.heap.objs.size 0 .none->h'.IsTupleIter s.heap.objs.size l 0->(∀b o,s.heap.get? b=some o->h'.get? b=some o)->R (.ok (.ret (.ref (s.heap.objs.size+1)))) {s with heap:=h'})
  (.of_wp λ_ _ _ _ _ ⟨tup,k⟩=>GC tup λh' e i old=>⟨_,rfl,k h' e i old⟩) ⟨hL,λh' e i old=>⟨⟨_,e,rfl⟩,h h' e i old⟩⟩
end
section
variable {X:Cx}{pins:G0 (G7×Obj)}{σ:G0 (P2 V)}{H:Hp}{s:G3}{h':N2}
theorem Inv.turnL {t':G9}{ch:G0 G7}(I:Inv X pins σ H s)(k: ∀b o,b ∉ ch->s.heap.get? b=some o->h'.get? b=some o)(hc: ∀b∈ch,Qf X pins H b):Inv X pins σ H {s with heap:=h',toks:=t'}:=by
 refine I.step (g':=s.gens) (d':=s.drawn) (ch:=ch) (λb hb=>let ⟨_,f1,_,f3,f4,f5⟩:=hc b hb;⟨f3,f1,f4,f5⟩) (λb o _ _ nb e _=>k b o nb e) (λb o _ _ nb e _=>⟨o.slots,k b o nb e⟩) (λ_ _ _ _ n=>n)
  (λb o nb e=>⟨o,k b o nb e⟩) (λ_ _ e=>e) (λ_ _ _ e=>e) (λb ps e=>⟨#[],by rw [e];simp⟩) (λm hm=> ?_) (λb u e=> ?_) I.bare
 ·obtain⟨o,es,ep,ho,r⟩:=hm;exact⟨o,es,ep,k _ o (λz=>(hc _ z).2.1 rfl) ho,r⟩
 ·refine(I.hok b u e).stay (λc v hb q=>k c v (λz=> ?_) q) (λ_ q=>q) λ_ _ q=>q
  have f:=(hc c z).1;rcases hb with w|w
  ·rw [w,e] at f;cases f
  ·rw [w] at f;cases f
theorem Inv.turnLaid {t':G9}{ch:G0 G7}{a:G7}{o:HO}(I:Inv X pins σ H s)(k: ∀b u,b ∉ ch->s.heap.get? b=some u->h'.get? b=some u)(hc: ∀b∈ch,Qf X pins H b)(hp:s.heap.objs.size<=a)
 (new:ObjOk X.prog X.w (upd H a o) h' a o):Inv X pins σ (upd H a o) {s with heap:=h',toks:=t'}:=by
 have hn:=I.hok.fresh hp;refine I.step (g':=s.gens) (d':=s.drawn) (ch:=ch) (λb hb=>let ⟨_,f1,_,f3,f4,f5⟩:=hc b hb;⟨f3,f1,f4,f5⟩) (λb u _ _ nb e _=>k b u nb e) (λb u _ _ nb e _=>⟨u.slots,k b u nb e⟩)
  (λb u _ e n=>by rw [jg (T5 (R3 (D4 e) hp))];exact n) (λb u nb e=>⟨u,k b u nb e⟩) (λb xs q=>by rw [jg (jj q hn)];exact q) (λb u xs q=>by rw [jg (jj q hn)];exact q)
  (λb ps q=>⟨#[],by rw [jg (jj q hn),q];simp⟩) (λm hm=> ?_) (λb u e=> ?_) I.bare
 ·obtain⟨u,es,ep,ho,r⟩:=hm;exact⟨u,es,ep,k _ u (λz=>(hc _ z).2.1 rfl) ho,r⟩
 ·by_cases hb:b=a
  ·subst hb;rw [ji] at e;cases e;exact new
  ·rw [jg hb] at e;refine(I.hok b u e).stay (λc v hb q=>k c v (λz=> ?_) q) (λc q=>by rw [jg (jj q hn)];exact q) λc xs q=>by rw [jg (jj q hn)];exact q
   have f:=(hc c z).1;rcases hb with w|w
   ·rw [w,e] at f;cases f
   ·rw [w] at f;cases f
end
def Ite (K:G2)(a:G7):It:=
 ⟨λi H=> ∃xs x,SqT K H a xs/\xs[i]? =some x,λi H x H'=> ∃p v,H p=none/\(∀xs,SqT K H a xs->xs[i]? =some v)/\x= .ref p/\H'=upd H p (.tup [.int i,v]),λi H=> ∃xs,SqT K H a xs/\xs.length<=i⟩
theorem GD {P:R5}{K:G2}{es:G0 S5}{k:G9}{pos:Pos}(a it e:G7)(hei:e≠it)(hae:a≠e)(hai:a≠it):Turn P w K (.Tuple es k pos) (Ite K a) [e,it] e (λi h=>(∃old,rG h e it i old)/\h.IsTupleIter it a i) where
 mem:=by simp
 obj:=λi h st b hb=>by
  rcases P6.mp hb with z|z
  ·subst z;obtain⟨old,q⟩:=st.1;exact⟨_,q,λv z=>by cases z⟩
  ·have z:=P0.mp z;subst z;obtain⟨o,q,c,d⟩:=st.2;exact⟨o,q,λv z=>by rw [d] at z;cases z⟩
 keep:=λi h h' st k=>⟨let ⟨old,q⟩:=st.1;⟨old,k e (by simp) _ q⟩,st.2.at λo q=>k it (by simp) o q⟩
 item:=by
  intro X hP hw hK hc i pins s σ H E I hf st hg;subst hP hw hK;obtain⟨xs,x,hq,hx⟩:=hg;obtain⟨its,rv,p,hz⟩:=I.tuple hq;obtain⟨u,hu,ru⟩:=rv.get hx;have hi:i<its.toArray.size:=by have:=(D0.mp hu).1;simpa using this
  obtain⟨old,he⟩:=st.1;have helt:e<s.heap.objs.size:=D4 he;refine wpAny_pyNext_enum_itemD (GA (prog:=X.prog) (w:=X.w) (A:=X.A.in1) (I.ok.hd hc) it a hai its.toArray) he ⟨st.2,p⟩ hi hei (by simp [hei,E5 hae]) λx' h' tk hx' ho hs' hT hsz hk=> ?_
  have ex:x'=u:=B8 (hx'.symm.trans (show its.toArray[i]? =some u by simpa using hu));subst ex;refine⟨_,rfl,wpAny_letOwnedTupleGo_enum ho λh2 he2 hs2=> ?_⟩;have hn:H s.heap.objs.size=none:=I.hok.fresh (P3 _);have hT2:h2.get? s.heap.objs.size=some {cls:= .type "tuple",data:= .seq #[.int i tk,x']}:=(hs2.2 _ (Q1 helt)).trans hT;refine⟨.ref s.heap.objs.size,upd H s.heap.objs.size (.tup [.int i,x]),?_,rfl,⟨_,x,hn,λys hy=>by rw [I.tuple_inj hy hq];exact hx,rfl,rfl⟩,⟨⟨x',by simpa using he2⟩,hs'.1.at λo y=>(hs2.2 it (E5 hei)).trans y⟩,λb hb=> ?_⟩
  ·refine I.turnLaid (h':=h2) (t':=tk+1) (ch:= [e,it]) (λb u hb q=> ?_) hf (P3 _) ⟨by show 2<=sizeLine;decide,[.int i tk,x'],.cons ⟨tk,rfl⟩ (.cons ru .nil),⟨_,hT2,rfl,rfl,_,rfl⟩⟩;have b1:b≠e:=λz=>hb (by simp [z])
   have b2:b≠it:=λz=>hb (by simp [z])
   exact(hs2.2 b b1).trans (hk b u b1 b2 q)
  ·have f:=(hf b hb).1;have:b≠s.heap.objs.size:=λz=>by
    rcases P6.mp hb with w|w
    ·rw [<-w,z] at helt;exact absurd helt (C3 _)
    ·have w:=P0.mp w;obtain⟨o,ho',_⟩:=st.2;have:=D4 ho';rw [<-w,z] at this;exact absurd this (C3 _)
   rw [jg this];exact f
 done:=by
  intro X hP hw hK hc i pins s σ H E I hf st hg;subst hP hw hK;obtain⟨xs,hq,hx⟩:=hg;obtain⟨its,rv,p,hz⟩:=I.tuple hq;obtain⟨old,he⟩:=st.1;have hl:=rv.length;refine wpAny_pyNext_enum_endD (GB (prog:=X.prog) (w:=X.w) (A:=X.A.in1) (I.ok.hd hc) it a its.toArray i (by simp;omega)) he ⟨rfl,st.2,p⟩ λh' hx'=>⟨rfl,I.turnL (t':=s.toks) (ch:= [it]) (λb o hb q=>hx' b o (λz=>hb (by simp [z])) q) λb hb=>hf b (D8 _ hb)⟩
 self:=λ_ _ _ _ _ st h=>let ⟨_,q⟩:=st.1;lS q h
section
variable {X:Cx}
def AX (K:G2)(ta:TA):TI:=λσ H R=>ta σ H λvs H1=> ∃a,vs= [.ref a]/\(∃xs,SqT K H1 a xs)/\R (Ite K a) H1
theorem NB {es:G0 S5}{k:G9}{tp:Pos}{a:S5}{ta:TA}{p pos:Pos}(hg:Gl X "enumerate")(hm:X.mg "enumerate" =none)(ha:PA X [a] ta)(hs:D2 [a] X.env= [(false,O4 a X.env)]:=by rfl):
 PI X (.Tuple es k tp) (.Call (.Name "enumerate" p) [a] [] pos) (AX X.K ta):=by
 intro pins s σ H R I h;refine sI (JY I hg hm (show E4 "enumerate" =some (.type "enumerate") by decide +kernel) (J8 (thn (ha pos pins s σ H _ I h) λus s1 ⟨vs,H1,I1,r1,q1⟩=> ?_) hs rfl));obtain⟨a,e,⟨xs,hq⟩,q⟩:=q1;subst e;cases r1 with
 |cons r rr=>
  cases rr;cases r;obtain⟨its,rv,p,hz⟩:=I1.tuple hq;have hlt:a<s1.heap.objs.size:=by obtain⟨o,ho,_⟩:=p;exact D4 ho
  refine WT (show s1.heap.IsTuple a its.toArray from p) λh' he hit hk=> ?_
  refine lS he ?_;refine⟨s1.heap.objs.size+1,[s1.heap.objs.size+1,s1.heap.objs.size],_,_,H1,rfl,I1.kept (t':=s1.toks) hk,GD a s1.heap.objs.size (s1.heap.objs.size+1) (Q1 (V1 _)) (T5 (gG hlt)) (T5 hlt),⟨⟨_,he⟩,hit⟩,λb hb=> ?_,q⟩;have hb':s1.heap.objs.size<=b:=by
   rcases P6.mp hb with w|w
   ·rw [w];exact qN _
   ·rw [P0.mp w];exact P3 _
  exact I1.fpOk hb' (I1.hok.fresh hb')
end
def YL (ds:G0 D):G0 D:=ds.zipIdx.map λp=> .tup [.int (p.2:D1),p.1]
def iE (ta:TAD):TID:=λσ h R=>ta σ h λxs h1=> ∃ds,xs= [.tup ds]/\R (λ_=>some (YL ds)) h1
theorem yE {ds:G0 D}{i:G9}{d:D}(h:(YL ds)[i]? =some d): ∃x,ds[i]? =some x/\d= .tup [.int (i:D1),x]:=by
 unfold YL at h;rw [R9,List.getElem?_zipIdx] at h;cases q:ds[i]? with
 |none=>rw [q] at h;cases h
 |some x=>
  rw [q] at h;refine⟨x,rfl,?_⟩;have h':some (D.tup [.int ((0+i:G9):D1),x])=some d:=h;rw [aJ] at h';exact(B8 h').symm
theorem jE (ds:G0 D):(YL ds).length=ds.length:=by simp [YL]
section
variable {K:G2}
theorem GE {H:Hp}{a:G7}{vs:G0 V}{ds:G0 D}(hv:H a=some (.tup vs))(r:RelDs K H ds vs):Ng K H (λ_=>some (YL ds)) (Ite K a):=λH' h' k rh ds' e i=>by
 cases e;have hv':=k.tup _ _ hv;have r':=r.mono k;refine⟨λd hd=> ?_,λhl=>⟨vs,SqT.of hv',by rw [<-r.length,<-jE];exact hl⟩⟩;obtain⟨x,hx,ed⟩:=yE hd;subst ed;obtain⟨v,e1,e2⟩:=r'.get hx;refine⟨⟨vs,v,SqT.of hv',e1⟩,λx' H'' ⟨p,v',hp,hx',ex,eH⟩=> ?_⟩;subst ex eH;have ev:v'=v:=by have:=hx' vs (SqT.of hv');rw [e1] at this;exact(B8 this).symm
 subst ev;have k2:Kept H' (upd H' p (.tup [.int i,v'])):= .new hp;exact⟨k2,RelH.new rh hp,p,[.int i,v'],rfl,ji,_,_,rfl,rfl,_,_,rfl,e2.mono k2,rfl⟩
theorem NC {ta:TAD}: ∀σ H R,LI K (iE ta) σ H R->AX K (LA K ta) σ H R:=λσ H R ⟨tF,h,Rd,rs,rh,q,p⟩=>
 LA.bind rs rh q λds vs h1 H1 k1 rs1 rh1 r1 ⟨es,e,q1⟩=>by
  subst e;obtain⟨v,e,r2⟩:=ju r1;obtain⟨a,ws,e',hv,r⟩:=(show ∃a vs,v= .ref a/\H1 a=some (.tup vs)/\RelDs K H1 es vs from r2);subst e';exact⟨a,e,⟨ws,SqT.of hv⟩,p _ _ _ _ k1 rh1 (GE hv r) q1⟩
end
section
variable {X:Cx}
theorem Zr {es:G0 S5}{k:G9}{tp:Pos}{a:S5}{ta:TAD}{p pos:Pos}(hg:Gl X "enumerate")(hm:X.mg "enumerate" =none)(ha:JA X [a] ta)(hs:D2 [a] X.env= [(false,O4 a X.env)]:=by rfl):
 JI X (.Tuple es k tp) (.Call (.Name "enumerate" p) [a] [] pos) (iE ta):=⟨(NB hg hm ha.to hs).imp NC⟩
end
def Off (W:G0 G7)(h h':N2):Prop:=h'.objs.size=h.objs.size/\ ∀b o,b ∉ W->h.get? b=some o->h'.get? b=some o
theorem Off.refl (W:G0 G7)(h:N2):Off W h h:=⟨rfl,λ_ _ _ e=>e⟩
theorem Off.of {c:G7}{W:G0 G7}{h h':N2}(x:Y5 c h h')(m:c∈W):Off W h h':=⟨x.1,λb o n e=>x.extBut b o (λq=>n (q ▸ m)) e⟩
theorem Off.trans {W:G0 G7}{h h' h'':N2}(x:Off W h h')(y:Off W h' h''):Off W h h'':=⟨y.1.trans x.1,λb o n e=>y.2 b o n (x.2 b o n e)⟩
abbrev GF (f0:G1)(b1:M6)(TI TO:G7):Obj:= {cls:= .type "zip",dict:=none,data:= .fields #[f0,.bool b1,.bool false,.ref TI,.ref TO],slots:= #[]}
def ZipAt (h:N2)(z TI TO:G7):Prop:= ∃f0 b1,h.get? z=some (GF f0 b1 TI TO)/\(f0= .none\/ ∃a t,f0= .int a t)
theorem ZipAt.off {h h':N2}{z TI TO:G7}{W:G0 G7}(Z:ZipAt h z TI TO)(o:Off W h h')(n:z ∉ W):ZipAt h' z TI TO:=let ⟨f,b,e,q⟩:=Z;⟨f,b,o.2 _ _ n e,q⟩
section
variable {prog:R5}{w:N0}{A:T0}{E:G1->G3->Prop}{s:G3}{z TI TO i1 i2:G7}
theorem DE {Q:M6->G3->Prop}(Z:ZipAt s.heap z TI TO)(k: ∀b h',ZipAt h' z TI TO->Off [z] s.heap h'->Q b {s with heap:=h'}):R1 (R6 prog w) A (kN (.ref z)) Q E s:=by
 obtain⟨f0,b1,hz,hf⟩:=id Z;have stay:=λb=>k b s.heap Z (Off.refl _ _)
 rcases hf with rfl|⟨a,t,rfl⟩
 ·wp_walk
  exact stay true
 ·have read: ∀ {P:P2 Obj->G3->Prop} {E':G1->G3->Prop},P (s.heap.get? a.toNat) s->R1 (R6 prog w) A (loadIfAlive a.toNat) P E' s:=λp _ _ _=>p
  wp_walk using read
  cases s.heap.get? a.toNat with
  |none=>exact P1 (stay true)
  |some o=>
   wp_walk
   cases b1 with
   |true=>exact P1 (stay false)
   |false=>exact wpAny_bind <| wpAny_setField_rec hz (by simp) λh' z' same=>P1 (k false h' ⟨_,_,z',.inr ⟨a,t,rfl⟩⟩ (.of same (by simp)))
structure ZApart (z TI TO i1 i2:G7):Prop where
 z1:z≠i1
 z2:z≠i2
 zO:z≠TO
 zI:z≠TI
 O1:TO≠i1
 O2:TO≠i2
 OI:TO≠TI
 I1:TI≠i1
 I2:TI≠i2
abbrev FJ (z:G7)(h:N2)(E:G1->G3->Prop):G1->G3->Prop:=λe s'=>(∀o,h.get? z=some o->s'.heap.get? z=some o)/\ ∀h',mY z s'.heap h'->E e {s' with heap:=h'}
theorem GG {Q:G1->G3->Prop}(ap:ZApart z TI TO i1 i2)(Z:ZipAt s.heap z TI TO)(hTI:V6 s.heap TI (.ref i1) (.ref i2))(hTO: ∃a b,V6 s.heap TO a b)
 (go: ∀tK,Off [z] s.heap tK->(∃o,tK.get? z=some o/\o.cls= .type "zip")->R1 (R6 prog w) A (I0 (.ref i1)) (λx tG=>Off [i1] tK tG.heap/\ ∀tO,Off [TO] tG.heap tO->
  R1 (R6 prog w) A (I0 (.ref i2)) (λy tN=>Off [i2] tO tN.heap/\ ∀tV,(∀b o,b ∉ [z,TO]->tN.heap.get? b=some o->tV.get? b=some o)->V6 tV tN.heap.objs.size x y->
   ZipAt tV z TI TO->V6 tV TI (.ref i1) (.ref i2)->(∃a b,V6 tV TO a b)->Q (.ref tN.heap.objs.size) {tN with heap:=tV}) (FJ z tO E) {tG with heap:=tO}) (FJ z tK E) {s with heap:=tK}):
 R1 (R6 prog w) A (Builtin.«zip.__next__» ⟨[.ref z],[]⟩) (λfin s'=> ∃v,fin= .done (.ret v)/\Q v s') E s:=by
 obtain⟨f0,b1,hz,hf⟩:=id Z;have ask:=λ{P:M6->G3->Prop} {E':G1->G3->Prop} (k: ∀b h',ZipAt h' z TI TO->Off [z] s.heap h'->P b {s with heap:=h'})=>DE (prog:=prog) (w:=w) (A:=A) (E:=E') Z k
 wp_walk using ask
 intro b h₀ uM uJ;have uR:=uJ.2 _ _ (by simp [ap.zI.symm]) hTI;obtain⟨a',b',uS⟩: ∃a b,V6 h₀ TO a b:=let ⟨a,b,e⟩:=hTO;⟨a,b,uJ.2 _ _ (by simp [ap.zO.symm]) e⟩;cases b with
 |false=>
  have d1:=go h₀ uJ (let ⟨_,_,e,_⟩:=uM;⟨_,e,rfl⟩);rw [S7 (by decide)];refine wpAny_bind ?_;rw [<-Array.forIn_toList];simp only [bK,oF];refine wpAny_bind (wpAny_bind (A1 ?_));refine wpAny_bind (m:=I0 (.ref i1)) (S6 d1 (λx tG d=>P1 (P1 ?_)) λe s' f=>f.2 s'.heap λ_ _ _ e=>e);obtain⟨o1,d2⟩:=d;refine wpAny_bind (wpAny_bind (A1 ?_));refine wpAny_bind (m:=I0 (.ref i2)) (S6 (d2 tG.heap (.refl _ _)) (λy tN d=>P1 (P1 (P1 ?_))) λe s' f=>f.2 s'.heap λ_ _ _ e=>e);obtain⟨o2,fin⟩:=d;show R1 _ _ (newTuple [x,y] >>= _) _ _ _;have n1: ∀ {b},b≠i1->b ∉ [i1]:=λh=>by simpa using h
  have n2: ∀ {b},b≠i2->b ∉ [i2]:=λh=>by simpa using h
  have u7:=(uM.off o1 (n1 ap.z1)).off o2 (n2 ap.z2);have keep: ∀ {b o},b≠i1->b≠i2->h₀.get? b=some o->(tN.heap.push {cls:= .type "tuple",data:= .seq #[x,y]}).get? b=some o:=λq1 q2 e=>G5 _ (o2.2 _ _ (n2 q2) (o1.2 _ _ (n1 q1) e))
  refine wpAny_bind (oG (P1 ⟨_,rfl,fin _ (λb o _ e=>G5 _ e) (S3 _ rfl) ?_ (keep ap.I1 ap.I2 uR) ⟨_,_,keep ap.O1 ap.O2 uS⟩⟩));exact let ⟨f,b,e,q⟩:=u7;⟨f,b,G5 _ e,q⟩
 |true=>
  obtain⟨f0',b1',u8,_⟩:=uM;have note:=λ{P:Unit->G3->Prop} {E':G1->G3->Prop} (k: ∀h',h'.get? z=some (GF .ellipsis b1' TI TO)->Y5 z h₀ h'->P () {s with heap:=h'})=>
   wpAny_setField_rec (prog:=prog) (w:=w) (A:=A) (E:=E') (s:= {s with heap:=h₀}) (k:=0) (x:= .ellipsis) u8 (by simp) k
  wp_walk using note
  intro tK uN tY;have t8:Off [z] s.heap tK:=uJ.trans (.of tY (by simp));have u9:=tY.extBut _ _ ap.zO.symm uS;have v5:=tY.extBut _ _ ap.zI.symm uR;have fell: ∀ {h:N2} {e:G1} {s':G3},h.get? z=some (GF .ellipsis b1' TI TO)->FJ z h E e s'->R1 (R6 prog w) A (setField (.ref z) 0 .none) (λ_ s''=>E e s'') E s':=λhz' f=>
   wpAny_setField_rec (f.1 _ hz') (by simp) λh' _ same=>f.2 h' same.extBut
  have draw:=λ{P:G1->G3->Prop} {E':G1->G3->Prop} (k: ∀x tG,_->P x tG) (f: ∀e s',FJ z tK E e s'->E' e s')=>S6 (go tK t8 ⟨_,uN,rfl⟩) k f
  wp_walk using kO,draw
  case f=>exact λe s' f=>fell uN f
  intro x tG ⟨o1,go2⟩;have v6:=o1.2 _ _ (by simp [ap.z1]) uN;have v7:V6 tG.heap TO a' b':=o1.2 _ _ (by simp [ap.O1]) u9;have v9:=o1.2 _ _ (by simp [ap.I1]) v5;have lay:=λ{P:Unit->G3->Prop} {E':G1->G3->Prop}=>i5 (prog:=prog) (w:=w) (A:=A) (E:=E') (s:=tG) (k:=0) (x:=x) (Q:=P) v7
  wp_walk using lay
  intro tO uO uA
  replace uO:V6 tO TO x b':=uO
  have uU:=uA.extBut _ _ ap.zO v6;have w8:=uA.extBut _ _ ap.OI.symm v9;have draw2:=λ{P:G1->G3->Prop} {E':G1->G3->Prop} (k: ∀y tN,_->P y tN) (f: ∀e s',FJ z tO E e s'->E' e s')=>S6 (go2 tO (.of uA (by simp))) k f
  wp_walk using kO,draw2
  case f=>exact λe s' f=>fell uU f
  intro y tN ⟨o2,fin⟩;have xA:=o2.2 _ _ (by simp [ap.z2]) uU;have xB:V6 tN.heap TO x b':=o2.2 _ _ (by simp [ap.O2]) uO;have xC:=o2.2 _ _ (by simp [ap.I2]) w8;have lay2:=λ{P:Unit->G3->Prop} {E':G1->G3->Prop}=>i5 (prog:=prog) (w:=w) (A:=A) (E:=E') (s:=tN) (k:=1) (x:=y) (Q:=P) xB
  wp_walk using lay2
  intro uB uP uK
  replace uP:V6 uB TO x y:=uP
  have uV:=uK.extBut _ _ ap.zO xA;have xD:=uK.extBut _ _ ap.OI.symm xC
  wp_walk
  have size:uB.objs.size=tN.heap.objs.size:=uK.1;have zp:=G5 {cls:= .type "tuple",data:= .seq #[x,y]} uV;have zu:=Z6 (dB λv=>v.setIfInBounds 0 (aM uB.objs.size)) zp rfl;have zu':=Z6 (dB λv=>v.setIfInBounds 1 (Y4 false)) zu rfl;have away: ∀ {b o},b≠z->(uB.push {cls:= .type "tuple",data:= .seq #[x,y]}).get? b=some o->
   (((uB.push {cls:= .type "tuple",data:= .seq #[x,y]}).update z (dB λv=>v.setIfInBounds 0 (aM uB.objs.size))).update z (dB λv=>v.setIfInBounds 1 (Y4 false))).get? b=some o:=λn e=>
   (aN ..).extBut _ _ n ((aN ..).extBut _ _ n e)
  have new:=away (b:=uB.objs.size) (λq=>C3 _ (q ▸ D4 uV)) (S3 _ rfl);refine⟨_,rfl,?_⟩;have done:=fin _ (λb o n e=>away (λq=>n (by simp [q])) (G5 _ (uK.extBut _ _ (λq=>n (by simp [q])) e))) (size ▸ new) ⟨_,_,zu',.inr ⟨_,_,rfl⟩⟩ (away ap.zI.symm (G5 _ xD)) ⟨_,_,away ap.zO.symm (G5 _ uP)⟩;rw [<-size] at done;exact done
theorem ND {tg : S5} {v : G1} {Q : Unit → G3 → Prop} (Z : ZipAt s.heap z TI TO) (k : ∀ h', ZipAt h' z TI TO → Off [z] s.heap h' → Q () { s with heap := h' }) : R1 (R6 prog w) A (W5 tg (.ref z) v) Q E s := by
  obtain ⟨f0, b1, hz, hf⟩ := id Z
  have stay := k s.heap Z (.refl _ _)
  have gone : R1 (R6 prog w) A (updateField z 0 .none) Q E s := wpAny_setField_rec (k := 0) (x := .none) hz (by simp) fun h' z' same => k h' ⟨_, _, z', .inl rfl⟩ (.of same (by simp))
  unfold W5
  cases tg <;> first
    | exact P1 stay
    | (cases v <;> wp_walk <;> first
        | exact stay
        | (split
           · exact wpAny_bind (cX gone)
           · exact P1 stay))
theorem DF {Q:P2 G1->G3->Prop}(Z:ZipAt s.heap z TI TO)
 (h:R1 (R6 prog w) A.in1 (Builtin.«zip.__next__» ⟨[.ref z],[]⟩) (λfin s'=> ∃v,fin= .done (.ret v)/\Q (some v) s') (λe s'=>s'.TypeIs e "StopIteration" /\Q none s') s):R1 (R6 prog w) A (nP (.ref z)) Q E s:=by
 obtain⟨_,_,hz,_⟩:=Z;have ty:s.TypeIs (.ref z) "zip" :=⟨_,hz,rfl⟩;have asked:=E8 nC ty F.entry_zip_next h (F.args_zip_next_1 _);exact wpAny_bind (gO (E1 (name:= "__next__") ty nC (S6 asked (λ_ _ q=>P1 q) λe s' q=>wpAny_bind (mL (b:=true) q.1 isSubtype_stop (P1 q.2)))))
theorem DG {l1 l2:G7}{xs ys:T9 G1}{P:dZ->G3->Prop}(t1:s.heap.IsTuple l1 xs)(t2:s.heap.IsTuple l2 ys)
 (h: ∀h' n,n=s.heap.objs.size->ZipAt h' (n+4) (n+2) (n+3)->V6 h' (n+2) (.ref n) (.ref (n+1))->(∃a b,V6 h' (n+3) a b)->h'.IsTupleIter n l1 0->h'.IsTupleIter (n+1) l2 0->
  (∀b o,s.heap.get? b=some o->h'.get? b=some o)->P (.done (.ret (.ref (n+4)))) {s with heap:=h'}):
 R1 (R6 prog w) A (Builtin.«zip.__new__» ⟨[.type "zip",.ref l1,.ref l2],[]⟩) P E s:=by
 have fine:=sub_zip;obtain⟨hp,g,d,tk,os⟩:=s;have first:pS (Shared.heap ⟨hp,g,d,tk,os⟩) l1 xs:=t1
 have second: ∀o,pS (Shared.heap ⟨hp.push o,g,d,tk,os⟩) l2 ys:=λo=>Heap.IsTuple.push t2 o
 wp_walk using V4 first,V4 (second _)
 have size: ∀ (q:N2) o,(q.push o).objs.size=q.objs.size+1:=λq o=>cN ..
 have n2: ∀o1 o2,((hp.push o1).push o2).objs.size=hp.objs.size+2:=λ_ _=>by rw [size,size]
 have n3: ∀o1 o2 o3,(((hp.push o1).push o2).push o3).objs.size=hp.objs.size+3:=λ_ _ _=>by rw [size,n2]
 have n4: ∀o1 o2 o3 o4,((((hp.push o1).push o2).push o3).push o4).objs.size=hp.objs.size+4:=λ_ _ _ _=>by rw [size,n3]
 have up: ∀ {q:N2} {b o} o',q.get? b=some o->(q.push o').get? b=some o:=λo' e=>G5 o' e
 show P (.done (.ret (.ref (Heap.objs (((((hp.push _).push _).push _).push _))).size))) _;rw [n4];have at1:=S3 (hp.push {cls:= .type "tuple_iterator",data:= .fields #[.ref l1,.int 0 0]}) (o:= {cls:= .type "tuple_iterator",data:= .fields #[.ref l2,.int 0 0]}) rfl;rw [size] at at1;have top: ∀ (q:N2) (o:Obj) (m:G9),q.objs.size=m->o.isFreed=false->(q.push o).get? m=some o:=λq o m e f=>e ▸ S3 q f
 refine h _ hp.objs.size rfl ⟨.none,false,(top _ _ _ (n4 ..) rfl).trans ?_,.inl rfl⟩ ((up _ (up _ (top _ _ _ (n2 ..) rfl))).trans ?_) ⟨.none,.none,up _ (top _ _ _ (n3 ..) rfl)⟩ ⟨_,up _ (up _ (up _ (up _ (S3 _ rfl)))),rfl,rfl⟩ ⟨_,up _ (up _ (up _ at1)),rfl,rfl⟩ λb o e=>up _ (up _ (up _ (up _ (up _ e))))
 ·simp only [size,dD];rfl
 ·simp only [size];rfl
theorem Uc {T newId initId:J9}{pos:G0 G1}{kw:G0 (Str×G1)}{Made:G1->G3->Prop}{Q:G1->G3->Prop}(ft:rH T newId initId)(fits:checkTypeCall T ⟨pos,kw⟩=pure ())
 (made:R1 (R6 prog w) A.in1 (call (.builtin newId) (.type T::pos) kw) Made E s)
 (begun: ∀o tG,Made o tG->tG.TypeIs o T/\R1 (R6 prog w) A.in1 (pT o "__init__" pos kw) (λr tN=>r=some .none/\Q o tN) E tG):
 R1 (R6 prog w) A (call (.type T) pos kw) Q E s:=by
 have f1:=ft.notType;have f2:=ft.canCreate;have f3:=ft.made;have f4:=ft.sub;obtain⟨_,_,f5⟩:=ft.mro;have first:=λ{Q':G1->G3->Prop} (k: ∀o tG,Made o tG->Q' o tG)=>S6 (E':=E) made k λ_ _ z=>z
 refine bQ (iM (P1 ⟨Code.quiet_builtin _ (by decide +kernel),nD F.entry_type_call ?_⟩));rw [Around.under_plain (weight_type_call_type T pos kw) (units_type_call_type T pos kw)]
 wp_walk using first
 intro o tG m;obtain⟨ty,then_⟩:=begun o tG m;refine wpAny_bind (mL (b:=true) ty f4 (wpAny_bind (A1 (S6 then_ (λr tN q=> ?_) λ_ _ z=>z))));obtain⟨rfl,q⟩:=q;exact P1 q
theorem YM {T newId:J9}{o:G1}{pos:G0 G1}{kw:G0 (Str×G1)}{Q:P2 G1->G3->Prop}(ft:rH T newId "object.__init__")(other:(some newId !=some "object.__new__")=true)(ty:s.TypeIs o T)
 (fits:argsOk "object.__init__" ⟨o::pos,kw⟩)(q:Q (some .none) s):R1 (R6 prog w) A (pT o "__init__" pos kw) Q E s:=by
 have f1:=ft.init.lookup;have f2:=ft.made;refine E1 ty ft.init (wpAny_call_entry_kw ft.init ty F.entry_object_init ?_ fits);cases e:(!pos.isEmpty|| !kw.isEmpty)<;>(wp_walk;exact⟨_,rfl,q⟩)
theorem YN {l1 l2:G7}{xs ys:T9 G1}{Q:G1->G3->Prop}(t1:s.heap.IsTuple l1 xs)(t2:s.heap.IsTuple l2 ys)
 (h: ∀h' n,n=s.heap.objs.size->ZipAt h' (n+4) (n+2) (n+3)->V6 h' (n+2) (.ref n) (.ref (n+1))->(∃a b,V6 h' (n+3) a b)->h'.IsTupleIter n l1 0->h'.IsTupleIter (n+1) l2 0->
  (∀b o,s.heap.get? b=some o->h'.get? b=some o)->Q (.ref (n+4)) {s with heap:=h'}):R1 (R6 prog w) A (call (.type "zip") [.ref l1,.ref l2]) Q E s:=
 Uc (Made:=λo tG=>tG.TypeIs o "zip" /\Q o tG) pU (F.typeCall_zip_2 _ _)
  (bQ (dG F.called_zip.plain F.entry_zip_new (qM (F.newCall_zip_2 _ _) (DG t1 t2 λh' n en zp i o a b k=>⟨let ⟨_,_,e,_⟩:=zp;⟨_,e,rfl⟩,h h' n en zp i o a b k⟩))))
  λ_ _ ⟨ty,q⟩=>⟨ty,YM pU (by decide) ty (F.args_object_init_3 _ _ _) ⟨rfl,q⟩⟩
end
def Itz (K : G2) (a b : G7) : It :=
  ⟨fun i H => ∃ xs ys x y, SqT K H a xs ∧ SqT K H b ys ∧ xs[i]? = some x ∧ ys[i]? = some y,
   fun i H x H' => ∃ p v u, H p = none ∧ (∀ xs, SqT K H a xs → xs[i]? = some v) ∧ (∀ ys, SqT K H b ys → ys[i]? = some u) ∧ x = .ref p ∧ H' = upd H p (.tup [v, u]),
   fun i H => ∃ xs ys, SqT K H a xs ∧ SqT K H b ys ∧ (xs.length ≤ i ∨ ys.length ≤ i)⟩
theorem YO {Q:P2 G1->G3->Prop}{E:G1->G3->Prop}{s:G3}{z TI TO i1 i2 l1 l2:G7}{i:G9}{xs ys:T9 G1}(calm:A.handled=none)(ap:ZApart z TI TO i1 i2)(n1:l1 ∉ [z,TO,i1,i2])(n2:l2 ∉ [z,TO,i1,i2])(i12:i1≠i2)
 (Z:ZipAt s.heap z TI TO)(hTI:V6 s.heap TI (.ref i1) (.ref i2))(hTO: ∃a b,V6 s.heap TO a b)(t1:s.heap.IsTuple l1 xs)(t2:s.heap.IsTuple l2 ys)(at1:s.heap.IsTupleIter i1 l1 i)(at2:s.heap.IsTupleIter i2 l2 i)
 (pair: ∀x y h' tk,xs[i]? =some x->ys[i]? =some y->(∀b o,b ∉ [z,TO,i1,i2]->s.heap.get? b=some o->h'.get? b=some o)->V6 h' s.heap.objs.size x y->ZipAt h' z TI TO->V6 h' TI (.ref i1) (.ref i2)->(∃a b,V6 h' TO a b)->
  h'.IsTupleIter i1 l1 (i+1)->h'.IsTupleIter i2 l2 (i+1)->Q (some (.ref s.heap.objs.size)) {s with heap:=h',toks:=tk})
 (ended:(xs.size<=i\/ys.size<=i)-> ∀h' tk,(∀b o,b ∉ [z,TO,i1,i2]->s.heap.get? b=some o->h'.get? b=some o)->Q none {s with heap:=h',toks:=tk}):R1 (R6 prog w) A (nP (.ref z)) Q E s:=by
 have sub: ∀ {b:G7} {W:G0 G7},b ∉ [z,TO,i1,i2]->(∀c∈W,c∈ [z,TO,i1,i2])->b ∉ W:=λn m q=>n (m _ q)
 have z': ∀c∈ [z],c∈ [z,TO,i1,i2]:=by simp
 have o': ∀c∈ [TO],c∈ [z,TO,i1,i2]:=by simp
 have a': ∀c∈ [i1],c∈ [z,TO,i1,i2]:=by simp
 have b': ∀c∈ [i2],c∈ [z,TO,i1,i2]:=by simp
 have zo: ∀c∈ [z,TO],c∈ [z,TO,i1,i2]:=by simp
 refine DF Z (GG ap Z hTI hTO λtK t8 isz=> ?_);have u1:tK.IsTuple l1 xs:=t1.at λo e=>t8.2 _ _ (sub n1 z') e
 have v1:tK.IsTupleIter i1 l1 i:=at1.at λo e=>t8.2 _ _ (by simp [ap.z1.symm]) e
 have stop: ∀ {h h':N2} {it e:G7},z≠it->mY it h h'->(∃o,h.get? z=some o/\o.cls= .type "zip")->(∃o,h'.get? e=some o/\o.cls= .type "StopIteration")->e≠z:=λnz x ⟨o,e1,c1⟩ ⟨o2,e2,c2⟩ q=>by
  subst q;rw [x _ _ nz e1] at e2;cases e2;rw [c1] at c2;simp at c2
 cases hx:xs[i]? with
 |none=>
  refine zw (s:= {s with heap:=tK}) calm v1 u1 hx λh' e grown st=>⟨λo q=>grown _ _ ap.z1 q,λh2 k=>⟨?_,ended (.inl (fI.mp hx)) _ _ λb o n q=>k _ _ (λy=>sub n z' (by simp [y])) (grown _ _ (λy=>sub n a' (by simp [y])) (t8.2 _ _ (sub n z') q))⟩⟩
  have ne:=stop ap.z1 grown isz st;obtain⟨o,q,c⟩:=st;exact⟨o,k _ _ ne q,c⟩
 |some x=>
  refine vZ (s:= {s with heap:=tK}) v1 u1 hx λh1' w1 tY=>⟨.of tY (by simp),λtO uD=> ?_⟩
  have all: ∀ {b o},b ∉ [z,TO,i1,i2]->s.heap.get? b=some o->tO.get? b=some o:=λn e=>uD.2 _ _ (sub n o') (tY.extBut _ _ (λy=>sub n a' (by simp [y])) (t8.2 _ _ (sub n z') e))
  have u2:tO.IsTuple l2 ys:=t2.at λo e=>all n2 e
  have v2:tO.IsTupleIter i2 l2 i:=at2.at λo e=>uD.2 _ _ (by simp [ap.O2.symm]) (tY.extBut _ _ i12.symm (t8.2 _ _ (by simp [ap.z2.symm]) e))
  have w2:tO.IsTupleIter i1 l1 (i+1):=w1.at λo e=>uD.2 _ _ (by simp [ap.O1.symm]) e
  have isz2: ∃o,tO.get? z=some o/\o.cls= .type "zip" :=let ⟨o,e,c⟩:=isz;⟨o,uD.2 _ _ (by simp [ap.zO]) (tY.extBut _ _ ap.z1 e),c⟩;cases hy:ys[i]? with
  |none=>
   refine zw (s:= {s with heap:=tO}) calm v2 u2 hy λh' e grown st=>⟨λo q=>grown _ _ ap.z2 q,λh3 k=>⟨?_,ended (.inr (fI.mp hy)) _ _ λb o n q=>k _ _ (λy=>sub n z' (by simp [y])) (grown _ _ (λy=>sub n b' (by simp [y])) (all n q))⟩⟩
   have ne:=stop ap.z2 grown isz2 st;obtain⟨o,q,c⟩:=st;exact⟨o,k _ _ ne q,c⟩
  |some y=>
   refine vZ (s:= {s with heap:=tO}) v2 u2 hy λh2' w3 uA=>⟨.of uA (by simp),λtV kept new zip its out=> ?_⟩
   have size:h2'.objs.size=s.heap.objs.size:=by rw [uA.1,uD.1,tY.1,t8.1]
   have done:=pair x y tV s.toks hx hy (λb o n e=>kept _ _ (sub n zo) (uA.extBut _ _ (λy=>sub n b' (by simp [y])) (all n e))) (size ▸ new) zip its out
    (w2.at λo e=>kept _ _ (by simp [ap.z1.symm,ap.O1.symm]) (uA.extBut _ _ i12 e)) (w3.at λo e=>kept _ _ (by simp [ap.z2.symm,ap.O2.symm]) e)
   rw [<-size] at done;exact done
theorem XE (n:G9):ZApart (n+4) (n+2) (n+3) n (n+1):=by
 have d: ∀ {i j:G9},i≠j->n+i≠n+j:=λh q=>h (Nat.add_left_cancel q)
 exact⟨d (j:=0) (by decide),d (by decide),d (by decide),d (by decide),d (j:=0) (by decide),d (by decide),d (by decide),d (j:=0) (by decide),d (by decide)⟩
theorem YQ {c:G9}(h:c<n):c ∉ [n+4,n+3,n,n+1]:=by
 simp only [P6,S9,or_false,sQ];omega
theorem DH {c:G9}(h:c∈ [n+4,n+2,n+3,n,n+1]):n<=c:=by
 simp only [P6,S9,or_false] at h;omega
theorem UN {E:G1->G3->Prop}{s:G3}{z TI TO:G7}{Q:G1->G3->Prop}(Z:ZipAt s.heap z TI TO)(h:Q (.ref z) s):R1 (R6 prog w) A (nQ (.ref z)) Q E s:=by
 obtain⟨_,_,hz,_⟩:=Z;have ty:s.TypeIs (.ref z) "zip" :=⟨_,hz,rfl⟩;exact wpAny_pyIter_slot ty nF (E8 nF ty F.entry_zip_iter (P1 ⟨_,rfl,_,_,ty,F.slot_zip_next.lookup,h⟩) (F.args_zip_iter_1 _))
theorem DI {P:R5}{K:G2}(tg:S5)(l1 l2 z TI TO i1 i2:G7)(ap:ZApart z TI TO i1 i2)(n1:l1 ∉ [z,TO,i1,i2])(n2:l2 ∉ [z,TO,i1,i2])(i12:i1≠i2):
 Turn P w K tg (Itz K l1 l2) [z,TI,TO,i1,i2] z (λi h=>ZipAt h z TI TO/\V6 h TI (.ref i1) (.ref i2)/\(∃a b,V6 h TO a b)/\h.IsTupleIter i1 l1 i/\h.IsTupleIter i2 l2 i):=by
 have inW: ∀ {b:G7},b ∉ [z,TI,TO,i1,i2]->b ∉ [z,TO,i1,i2]:=λn q=>n (by simp only [P6] at q ⊢;rcases q with q|q|q|q|q<;>simp [q] at*)
 have there: ∀ {i:G9} {h:N2},(ZipAt h z TI TO/\V6 h TI (.ref i1) (.ref i2)/\(∃a b,V6 h TO a b)/\h.IsTupleIter i1 l1 i/\h.IsTupleIter i2 l2 i)-> ∀b∈ [z,TI,TO,i1,i2],∃o,h.get? b=some o/\ ∀v,o.data≠ .cell v:=λ⟨⟨_,_,a1,_⟩,a2,⟨_,_,a3⟩,⟨o4,a4,_,d4⟩,⟨o5,a5,_,d5⟩⟩ b hb=>by
  simp only [P6,S9,or_false] at hb;rcases hb with e|e|e|e|e<;>subst e
  ·exact⟨_,a1,λv z=>by cases z⟩
  ·exact⟨_,a2,λv z=>by cases z⟩
  ·exact⟨_,a3,λv z=>by cases z⟩
  ·exact⟨o4,a4,λv z=>by rw [d4] at z;cases z⟩
  ·exact⟨o5,a5,λv z=>by rw [d5] at z;cases z⟩
 refine⟨by simp,λi h st=>there st,λi h h' ⟨⟨f,b,a1,qf⟩,a2,⟨x,y,a3⟩,a4,a5⟩ q=>⟨⟨f,b,q z (by simp) _ a1,qf⟩,q TI (by simp) _ a2,⟨x,y,q TO (by simp) _ a3⟩,a4.at λo e=>q i1 (by simp) o e,a5.at λo e=>q i2 (by simp) o e⟩,?_,?_,λ_ _ _ _ _ st h=>UN st.1 h⟩
 ·intro X hP hw hK hc i pins s σ H E I hf st hg;subst hP hw hK;obtain⟨xs,ys,x,y,hq,hq2,hx,hy⟩:=hg;obtain⟨its,rv,p,_⟩:=I.tuple hq;obtain⟨jts,rw',p2,_⟩:=I.tuple hq2;obtain⟨u,hu,ru⟩:=rv.get hx;obtain⟨v,hv,rv'⟩:=rw'.get hy;obtain⟨a1,a2,a3,a4,a5⟩:=id st;have lt: ∀b∈ [z,TI,TO,i1,i2],b≠s.heap.objs.size:=λb hb=>let ⟨_,e,_⟩:=there st b hb;T5 (D4 e)
  have l1':i<its.toArray.size:=by have:=(D0.mp hu).1;simpa using this
  have l2':i<jts.toArray.size:=by have:=(D0.mp hv).1;simpa using this
  refine YO (I.ok.hd hc) ap n1 n2 i12 a1 a2 a3 p p2 a4 a5 (λx' y' h' tk hx' hy' kept new zip it out w1 w2=>⟨_,rfl,?_⟩) λends=>absurd ends (by omega)
  have ex:x'=u:=by simp only [iQ] at hx';rw [hu] at hx';cases hx';rfl
  have ey:y'=v:=by simp only [iQ] at hy';rw [hv] at hy';cases hy';rfl
  subst ex ey;refine ND (s:= {s with heap:=h',toks:=tk}) zip λh2 zip2 off=> ?_
  have hn:H s.heap.objs.size=none:=I.hok.fresh (P3 _);have nz: ∀ {b},b≠z->b ∉ [z]:=λh=>by simpa using h
  have T2:V6 h2 s.heap.objs.size x' y':=off.2 _ _ (nz (lt z (by simp)).symm) new;refine⟨.ref s.heap.objs.size,upd H s.heap.objs.size (.tup [x,y]),?_,rfl,⟨_,x,y,hn,λws hw=>by rw [I.tuple_inj hw hq];exact hx,λws hw=>by rw [I.tuple_inj hw hq2];exact hy,rfl,rfl⟩,
   ⟨zip2,off.2 _ _ (nz ap.zI.symm) it,let ⟨a,b,e⟩:=out;⟨a,b,off.2 _ _ (nz ap.zO.symm) e⟩,w1.at λo e=>off.2 _ _ (nz ap.z1.symm) e,w2.at λo e=>off.2 _ _ (nz ap.z2.symm) e⟩,λb hb=> ?_⟩
  ·refine I.turnLaid (h':=h2) (t':=tk) (ch:= [z,TI,TO,i1,i2]) (λb u hb q=>off.2 _ _ (λy=>inW hb (by simp only [P0] at y;simp [y])) (kept b u (inW hb) q)) hf (P3 _) ⟨by show 2<=sizeLine;decide,[x',y'],.cons ru (.cons rv' .nil),⟨_,T2,rfl,rfl,_,rfl⟩⟩
  ·rw [jg (lt b hb)];exact(hf b hb).1
 ·intro X hP hw hK hc i pins s σ H E I hf st hg;subst hP hw hK;obtain⟨xs,ys,hq,hq2,hl⟩:=hg;obtain⟨its,rv,p,_⟩:=I.tuple hq;obtain⟨jts,rw',p2,_⟩:=I.tuple hq2;have e1:=rv.length;have e2:=rw'.length;obtain⟨a1,a2,a3,a4,a5⟩:=id st;refine YO (I.ok.hd hc) ap n1 n2 i12 a1 a2 a3 p p2 a4 a5 (λx' y' h' tk hx' hy' _ _ _ _ _ _ _=> ?_) λ_ h' tk kept=>⟨rfl,I.turnL (ch:= [z,TI,TO,i1,i2]) (λb o hb q=>kept b o (inW hb) q) hf⟩
  have b1:=(fJ.mp hx').1;have b2:=(fJ.mp hy').1;simp only [D7] at b1 b2;omega
section
variable {X:Cx}
def AY (K:G2)(ta:TA):TI:=λσ H R=>ta σ H λvs H1=> ∃a b,vs= [.ref a,.ref b]/\(∃xs,SqT K H1 a xs)/\(∃ys,SqT K H1 b ys)/\R (Itz K a b) H1
theorem FK {tg:S5}{a b:S5}{ta:TA}{p pos:Pos}(hg:Gl X "zip")(hm:X.mg "zip" =none)(ha:PA X [a,b] ta)(hs:D2 [a,b] X.env= [(false,O4 a X.env),(false,O4 b X.env)]:=by rfl)(hs2:D2 [b] X.env= [(false,O4 b X.env)]:=by rfl):
 PI X tg (.Call (.Name "zip" p) [a,b] [] pos) (AY X.K ta):=by
 intro pins s σ H R I h;refine sI (JY I hg hm boot_zip (J8 (thn (ha pos pins s σ H _ I h) λus s1 ⟨vs,H1,I1,r1,q1⟩=> ?_) (by rw [hs,hs2]) (by rw [hs2];rfl)));obtain⟨a,b,e,⟨xs,hq⟩,⟨ys,hq2⟩,q⟩:=q1;subst e;cases r1 with
 |cons r rr=>
  cases rr with
  |cons r' rr=>
   cases rr;cases r;cases r';obtain⟨its,rv,p,_⟩:=I1.tuple hq;obtain⟨jts,rw',p2,_⟩:=I1.tuple hq2;have la:a<s1.heap.objs.size:=by obtain⟨o,ho,_⟩:=p;exact D4 ho
   have lb:b<s1.heap.objs.size:=by obtain⟨o,ho,_⟩:=p2;exact D4 ho
   refine YN (show s1.heap.IsTuple a its.toArray from p) (show s1.heap.IsTuple b jts.toArray from p2) λh' n en z1 z2 z3 z4 z5 hk=> ?_
   subst en;refine UN z1 ⟨s1.heap.objs.size+4,[s1.heap.objs.size+4,s1.heap.objs.size+2,s1.heap.objs.size+3,s1.heap.objs.size,s1.heap.objs.size+1],_,_,H1,rfl,I1.kept (t':=s1.toks) hk,
    DI _ a b _ _ _ _ _ (XE _) (YQ la) (YQ lb) (T5 (V1 _)),⟨z1,z2,z3,z4,z5⟩,λc hc=> ?_,q⟩
   have hb':s1.heap.objs.size<=c:=DH hc;exact I1.fpOk hb' (I1.hok.fresh hb')
end
def RX (ds es:G0 D):G0 D:=(ds.zip es).map λp=> .tup [p.1,p.2]
def iZ (ta:TAD):TID:=λσ h R=>ta σ h λxs h1=> ∃ds es,xs= [.tup ds,.tup es]/\R (λ_=>some (RX ds es)) h1
theorem DJ {ds es:G0 D}{i:G9}{d:D}(h:(RX ds es)[i]? =some d): ∃x y,ds[i]? =some x/\es[i]? =some y/\d= .tup [x,y]:=by
 unfold RX at h;rw [R9] at h;cases q:(ds.zip es)[i]? with
 |none=>rw [q] at h;cases h
 |some p=>
  rw [q] at h;obtain⟨x,y⟩:=p;rw [List.getElem?_zip_eq_some] at q;exact⟨x,y,q.1,q.2,(B8 h).symm⟩
section
variable {K:G2}
theorem DK {H:Hp}{a b:G7}{vs us:G0 V}{ds es:G0 D}(hv:H a=some (.tup vs))(r:RelDs K H ds vs)(hu:H b=some (.tup us))(ru:RelDs K H es us):Ng K H (λ_=>some (RX ds es)) (Itz K a b):=λH' h' k rh ds' e i=>by
 cases e;have hv':=k.tup _ _ hv;have hu':=k.tup _ _ hu;have r':=r.mono k;have ru':=ru.mono k;refine⟨λd hd=> ?_,λhl=>⟨vs,us,SqT.of hv',SqT.of hu',?_⟩⟩
 ·obtain⟨x,y,hx,hy,ed⟩:=DJ hd;subst ed;obtain⟨v,e1,e2⟩:=r'.get hx;obtain⟨u,e3,e4⟩:=ru'.get hy;refine⟨⟨vs,us,v,u,SqT.of hv',SqT.of hu',e1,e3⟩,λx' H'' ⟨p,v',u',hp,hx',hy',ex,eH⟩=> ?_⟩;subst ex eH;have ev:v'=v:=by have:=hx' vs (SqT.of hv');rw [e1] at this;exact(B8 this).symm
  have eu:u'=u:=by have:=hy' us (SqT.of hu');rw [e3] at this;exact(B8 this).symm
  subst ev eu;have k2:Kept H' (upd H' p (.tup [v',u'])):= .new hp;exact⟨k2,RelH.new rh hp,p,[v',u'],rfl,ji,_,_,rfl,e2.mono k2,_,_,rfl,e4.mono k2,rfl⟩
 ·have l1:=r.length;have l2:=ru.length;unfold RX at hl;rw [G6,nG] at hl;omega
theorem FL {ta:TAD}: ∀σ H R,LI K (iZ ta) σ H R->AY K (LA K ta) σ H R:=λσ H R ⟨tF,h,Rd,rs,rh,q,p⟩=>
 LA.bind rs rh q λds vs h1 H1 k1 rs1 rh1 r1 ⟨es,fs,e,q1⟩=>by
  subst e;obtain⟨v,w,e,r2,r3⟩:=wx r1;obtain⟨a,ws,e',hv,r⟩:=(show ∃a vs,v= .ref a/\H1 a=some (.tup vs)/\RelDs K H1 es vs from r2);obtain⟨b,us,e'',hu,r'⟩:=(show ∃a vs,w= .ref a/\H1 a=some (.tup vs)/\RelDs K H1 fs vs from r3);subst e' e'';exact⟨a,b,e,⟨ws,SqT.of hv⟩,⟨us,SqT.of hu⟩,p _ _ _ _ k1 rh1 (DK hv r hu r') q1⟩
end
section
variable {X:Cx}
theorem FM {tg:S5}{a b:S5}{ta:TAD}{p pos:Pos}(hg:Gl X "zip")(hm:X.mg "zip" =none)(ha:JA X [a,b] ta)(hs:D2 [a,b] X.env= [(false,O4 a X.env),(false,O4 b X.env)]:=by rfl)(hs2:D2 [b] X.env= [(false,O4 b X.env)]:=by rfl):
 JI X tg (.Call (.Name "zip" p) [a,b] [] pos) (iZ ta):=⟨(FK hg hm ha.to hs hs2).imp FL⟩
end
def inE (neg:M6):RD2:=λx y h Q=> ∃ (p:C8) (ps:G0 C8),ToP h x p/\(ToP h y (.list ps)\/ToP h y (.tuple ps))/\p.canLay0=true/\C0 ps=true/\p.depth<=60/\Q (.bl (neg !=ps.any λz=>N9 z p)) h
section
variable {X:Cx}
theorem NE (hu:X.A.units+64<cLine):OpQ X (M7 .In) (inE false):=by
 intro pins s σ H x y v u Q I rx ry h;obtain⟨dx,dy,h,Qd,r1,r2,rh,⟨p,ps,t1,t2,c1,c2,c3,qq⟩,post⟩:=h;obtain⟨as,a1⟩:=jO I rh t1 r1 rx;have hu':X.A.units+1+min (T6 ps) p.depth<cLine:=by have:=aI (T6 ps) p.depth;omega
 have q':Qd (.bl (ps.any λz=>N9 z p)) h:=by simpa using qq
 rcases t2 with t2|t2
 ·obtain⟨bs,b1⟩:=jO I rh t2 r2 ry;exact in_list_reads b1 a1 c2 c1 hu' ⟨.bl _,H,I,rfl,post (.bl _) _ _ _ (.refl H) rh rfl q'⟩
 ·obtain⟨bs,b1⟩:=jO I rh t2 r2 ry;exact in_tuple_reads b1 a1 c2 c1 hu' ⟨.bl _,H,I,rfl,post (.bl _) _ _ _ (.refl H) rh rfl q'⟩
theorem UO (hu:X.A.units+64<cLine):OpQ X (M7 .NotIn) (inE true):=by
 intro pins s σ H x y v u Q I rx ry h;obtain⟨dx,dy,h,Qd,r1,r2,rh,⟨p,ps,t1,t2,c1,c2,c3,qq⟩,post⟩:=h;obtain⟨as,a1⟩:=jO I rh t1 r1 rx;have hu':X.A.units+1+min (T6 ps) p.depth<cLine:=by have:=aI (T6 ps) p.depth;omega
 have q':Qd (.bl (!ps.any λz=>N9 z p)) h:=by simpa using qq
 rcases t2 with t2|t2
 ·obtain⟨bs,b1⟩:=jO I rh t2 r2 ry;exact notIn_list_reads b1 a1 c2 c1 hu' ⟨.bl _,H,I,rfl,post (.bl _) _ _ _ (.refl H) rh rfl q'⟩
 ·obtain⟨bs,b1⟩:=jO I rh t2 r2 ry;exact notIn_tuple_reads b1 a1 c2 c1 hu' ⟨.bl _,H,I,rfl,post (.bl _) _ _ _ (.refl H) rh rfl q'⟩
theorem Ab {tg:S5}{p pos:Pos}{a b:S5}{ta:TAD}(hg:Gl X "range")(hm:X.mg "range" =none)(ha:JA X [a,b] ta)(hs:D2 [a,b] X.env= [(false,O4 a X.env),(false,O4 b X.env)]:=by rfl)(hs2:D2 [b] X.env= [(false,O4 b X.env)]:=by rfl):JI X tg (.Call (.Name "range" p) [a,b] [] pos) (iR2 ta):=⟨(Qq hg hm ha.to hs hs2).imp OF⟩
end
end L2
namespace L2
open PySem PySem.Spec PyProof.Rows
section
variable {prog:R5}{w:N0}{A:T0}{E:G1->G3->Prop}{s:G3}
theorem vz: ∀ {vs:G0 G1} {ns:G0 D1},W1 vs ns-> ∀ {i:G9} {v:G1},vs[i]? =some v-> ∃t,v= .int (ns.getD i 0) t/\i<ns.length
 |_,_,.nil,_,_,hv=>by simp at hv
 |_,_,.cons _ t _,0,_,hv=>⟨t,by simpa using hv.symm,by simp⟩
 |_,_,.cons _ _ r,i+1,_,hv=>by
  obtain⟨t,e,lt⟩:=vz r (i:=i) (by simpa using hv);exact⟨t,by simpa using e,by simpa using lt⟩
theorem YR {l:G7}{o:Obj}(here:l<s.heap.objs.size): ∀b∈ [s.heap.objs.size,l],b<(s.heap.push o).objs.size:=λb hb=>by
 rw [cN];simp only [P6,S9,or_false] at hb;rcases hb with e|e<;>subst e
 ·exact V1 _
 ·exact gG here
theorem YS {o:Obj}{h':N2}(k: ∀b u,b ∉ [s.heap.objs.size]->(s.heap.push o).get? b=some u->h'.get? b=some u): ∀b u,s.heap.get? b=some u->h'.get? b=some u:=λb u e=>
 k b u (λm=>absurd (D4 e) (by rw [P0.mp m];exact C3 _)) (G5 _ e)
end
section
variable {X:Cx}
theorem GH (hc:X.calm=true):CallR X (.builtin "max") (λxs H Q=> ∃ (a:G7) (ns:G0 D1),xs= [.ref a]/\ns≠ []/\(SqL X.K H a (ns.map V.int)\/SqT X.K H a (ns.map V.int))/\ ∀m∈ns,(∀x∈ns,x<=m)->Q (.int m) H):=by
 intro pins s σ H xs us Q I r h;obtain⟨a,ns,rfl,hne,hS,q⟩:=h;obtain⟨u,rfl,ru⟩:=vU r;cases ru;have fin: ∀ {its:G0 G1} (hi:W1 its ns) (v:G1) (h':N2) (tk:G9),its.toArray[argBest (λi j=>decide (ns.getD i 0>ns.getD j 0)) (its.toArray.size-1)]? =some v->(∀b o,s.heap.get? b=some o->h'.get? b=some o)->EP X pins σ Q v {s with heap:=h',toks:=tk}:=λ{its} hi v h' tk hv kept=>by
  obtain⟨t,rfl,lt⟩:=vz hi (show its[_]? =some v by simpa using hv);refine⟨.int _,H,I.kept kept,⟨t,rfl⟩,q _ (getD_mem lt) λx hx=> ?_⟩;obtain⟨j,hj,rfl⟩:=mem_getD hx;exact(argBest_gt (λi=>ns.getD i 0) (its.toArray.size-1)).2 j (by rw [D7,hi.length];omega)
 refine call_max_walk ?_;rcases hS with hS|hS
 ·obtain⟨its,rv,pl,_⟩:=I.list hS;have hi:=UK rv;obtain⟨o,e,r⟩:=id pl.isList;have W:=Walks.list (prog:=X.prog) (w:=X.w) (A:=X.A.in1) (I.ok.hd hc) s.heap.objs.size a (T5 (D4 e)) its.toArray;exact aA pl.isList ⟨_,_,_,_,_,_,_,rfl,W,⟨⟨_,S3 _ rfl,rfl,rfl⟩,⟨o,G5 _ e,r⟩⟩,YR (D4 e),by rw [D7,hi.length];exact dR.mpr hne,CmpOf.ints_gt (λi=>ns.getD i 0) (λi v hv=>(vz hi (by simpa using hv)).imp λ_ z=>z.1),λv h' tk hv k=>fin hi v h' tk hv (YS k)⟩
 ·obtain⟨its,rv,pl,_⟩:=I.tuple hS;have hi:=UK rv;obtain⟨o,e,r⟩:=id pl;have W:=Walks.tuple (prog:=X.prog) (w:=X.w) (A:=X.A.in1) (I.ok.hd hc) s.heap.objs.size a (T5 (D4 e)) its.toArray;exact V4 (show s.heap.IsTuple a its.toArray from pl) ⟨_,_,_,_,_,_,_,rfl,W,⟨⟨_,S3 _ rfl,rfl,rfl⟩,⟨o,G5 _ e,r⟩⟩,YR (D4 e),by rw [D7,hi.length];exact dR.mpr hne,CmpOf.ints_gt (λi=>ns.getD i 0) (λi v hv=>(vz hi (by simpa using hv)).imp λ_ z=>z.1),λv h' tk hv k=>fin hi v h' tk hv (YS k)⟩
def FN (B:G0 D1->D1->Prop):RDn:=λds h Q=> ∃ (ns:G0 D1) (h':HD),ns≠ []/\Sub h' h/\(ds= [.tup (ns.map D.int)]\/ ∃a,ds= [.lst a]/\h a=some (ns.map D.int))/\ ∀m∈ns,B ns m->Q (.int m) h'
abbrev ET:RDn:=FN λns m=> ∀x∈ns,x<=m
theorem DL {B:G0 D1->D1->Prop}{f:G1}(c:CallR X f (λxs H Q=> ∃ (a:G7) (ns:G0 D1),xs= [.ref a]/\ns≠ []/\(SqL X.K H a (ns.map V.int)\/SqT X.K H a (ns.map V.int))/\ ∀m∈ns,B ns m->Q (.int m) H)):wX X f (FN B):=
 c.imp λxs H Q ⟨ds,h,Qd,r,rh,⟨ns,h',hne,hs,e,q⟩,p⟩=>by
  rcases e with e|⟨a,e,ha⟩
  ·subst e;obtain⟨v,e,r1⟩:=ju r;obtain⟨a,vs,e1,hH,r2⟩:=(show ∃a vs,v= .ref a/\H a=some (.tup vs)/\RelDs X.K H (ns.map D.int) vs from r1);rw [zM r2] at hH;subst e e1;exact⟨a,ns,rfl,hne,.inr (SqT.of hH),λm m1 m2=>p (.int m) _ _ _ (.refl H) (rh.sub hs) rfl (q m m1 m2)⟩
  ·subst e;obtain⟨v,e,r1⟩:=ju r;obtain⟨vs,hH,r2⟩:=rh a _ ha;have e1:v= .ref a:=r1.1;rw [zM r2] at hH;subst e e1;exact⟨a,ns,rfl,hne,.inl (SqL.of hH),λm m1 m2=>p (.int m) _ _ _ (.refl H) (rh.sub hs) rfl (q m m1 m2)⟩
theorem NF (hc:X.calm=true):wX X (.builtin "max") ET:=DL (GH hc)
end
structure ShowOk (p:C8):Prop where
 sh:p.showable=true
 dp:p.depth<=60
 ln:p.shown.length<=sizeLine
mutual
theorem Ja {h:HD}: ∀ {p:C8} {d:D},ToP h d p->p.hasDict=false
 | .none,_,_=>rfl
 | .bool _,_,_=>rfl
 | .int _,_,_=>rfl
 | .str _,_,_=>rfl
 | .tuple ps,d,t=>by
  obtain⟨ds,_,ts⟩:=(show ∃ds,d= .tup ds/\ToPs h ds ps from t);simpa only [oH] using noDict_ToPs ts
 | .list ps,d,t=>by
  obtain⟨a,ds,_,_,ts⟩:=(show ∃a ds,d= .lst a/\h a=some ds/\ToPs h ds ps from t);simpa only [oH] using noDict_ToPs ts
 | .dict _,_,t=>(show False from t).elim
theorem noDict_ToPs {h:HD}: ∀ {ps:G0 C8} {ds:G0 D},ToPs h ds ps->gI ps=false
 | [],_,_=>rfl
 |p::ps,ds,t=>by
  obtain⟨d,r,_,t1,t2⟩:=(show ∃d r,ds=d::r/\ToP h d p/\ToPs h r ps from t);simp only [gI,Ja t1,noDict_ToPs t2,Bool.or_self]
end
def FO:RDn:=λds h Q=> ∃d p,ds= [d]/\ToP h d p/\ShowOk p/\Q (.str p.shown) h
theorem DM {X:Cx}{k:G9}(hr:Room k X.A):wX X (.builtin "repr") FO:=by
 intro pins s σ H xs us Q I r h;obtain⟨ds,h,Qd,rs,rh,⟨d,p,e,t,so,q⟩,post⟩:=h;subst e;obtain⟨v,e,r1⟩:=ju rs;subst e;obtain⟨u,rfl,ru⟩:=vU r;have fin: ∀t',EP X pins σ Q (.str p.shown t') {s with toks:=s.toks+1}:=λt'=>⟨.str p.shown,H,I.tok _,⟨_,rfl⟩,post (.str _) _ _ _ (.refl H) rh rfl q⟩
 have fin0: ∀t',EP X pins σ Q (.str p.shown t') s:=λt'=>⟨.str p.shown,H,I,⟨_,rfl⟩,post (.str _) _ _ _ (.refl H) rh rfl q⟩
 have big: ∀a,u= .ref a->R1 (R6 X.prog X.w) X.A (call (.builtin "repr") [.ref a]) (EP X pins σ Q) X.xe s:=λa e=>by
  obtain⟨as,rd⟩:=jO I rh t r1 ru;subst e;exact repr_of_reads' rd so.sh (PyData.noDict_hsm (Ja t)) hr.gd (by have:=hr.units;have:=so.dp;omega) (λ_ _ e=>e)
   (λh' u' tk hk=>⟨.str p.shown,H,I.kept hk,⟨_,rfl⟩,post (.str _) _ _ _ (.refl H) rh rfl q⟩) so.ln
 cases p with
 |none=>
  cases (show d= .non from t);cases (show v= .non from r1);cases (show u= .none from ru);exact PySem.P.repr_of_none (fin _)
 |bool b=>
  cases (show d= .bl b from t);cases (show v= .bl b from r1);cases (show u= .bool b from ru);exact PySem.P.repr_of_bool (fin _)
 |int i=>
  cases (show d= .int i from t);cases (show v= .int i from r1);obtain⟨k,rfl⟩:=(show ∃t,u=bZ i t from ru);exact PySem.P.repr_of_int (by simpa [dO] using so.sh) (fin _)
 |str x=>
  cases (show d= .str x from t);cases (show v= .str x from r1);obtain⟨k,rfl⟩:=(show ∃t,u=gQ x t from ru);exact PySem.P.repr_of_str (fin _) so.ln
 |tuple ps=>
  obtain⟨ds,e,ts⟩:=(show ∃ds,d= .tup ds/\ToPs h ds ps from t);subst e;obtain⟨a,vs,e,hH,rs⟩:=(show ∃a vs,v= .ref a/\H a=some (.tup vs)/\RelDs X.K H ds vs from r1);subst e;cases (show u= .ref a from ru);exact big a rfl
 |list ps=>
  obtain⟨a,ds,e,ha,ts⟩:=(show ∃a ds,d= .lst a/\h a=some ds/\ToPs h ds ps from t);subst e;have e:v= .ref a:=r1.1;subst e;cases (show u= .ref a from ru);exact big a rfl
 |dict _=>exact(show False from t).elim
theorem DN {ta:TAD}{g:TGD}{tb:TSD}{E:EndsD}{σ:SD}{h h1:HD}(m:D1)(n:G9)(W:G9->SD->HD->Prop)(hm:0<=m)(hm2:m<1000000)(hn:n<1000000)
 (ht: ∀R:G0 D->HD->Prop,R [.int m,.int (m+(n:D1))] h1->ta σ h R)(w0:W 0 σ h1)(done: ∀tE h',W n tE h'->E.nx tE h')
 (turn: ∀i tE h',i<n->W i tE h'->g (.int (m+(i:D1))) tE h' λtJ h2=>tb (Nxt E λtM h4=>i+1<=n/\W (i+1) tM h4) tJ h2):Bz (iR2 ta) g tb E σ h:=by
 refine ht _ ⟨m,m+(n:D1),rfl,⟨by omega,by omega,by omega,by omega⟩,n,λi tE h'=>i<=n/\W i tE h',⟨M0 _,w0⟩,?_⟩;rintro i tE h' ⟨hi,w⟩;have en:(m+(n:D1)-m).toNat=n:=by omega
 refine⟨_,rfl,by simp [en],λhl=> ?_,λd hd=> ?_⟩
 ·have:i=n:=by simp [en] at hl;omega
  subst this;exact done _ _ w
 ·rw [en,R9] at hd;cases hx:(N4 n)[i]? with
  |none=>rw [hx] at hd;cases hd
  |some y=>
   rw [hx] at hd;cases hd;obtain⟨hi2,e⟩:=D0.mp hx;simp at hi2 e;subst e;exact turn i tE h' hi2 w
theorem yM: ∀ {ps:G0 C8},(∀p∈ps,p.showable=true)->V7 ps=true
 | [],_=>rfl
 |p::ps,h=>by
  simp only [V7,h p D5,yM λx hx=>h x (D8 _ hx),Bool.and_self]
theorem yc: ∀ps:G0 C8,K5 ps=ps.map cS
 | []=>rfl
 |p::ps=>by simp only [K5,N5,yc ps]
theorem Zt {k:G9}: ∀ {ps:G0 C8},(∀p∈ps,p.depth<=k)->T6 ps<=k
 | [],_=>by simp [T6]
 |p::ps,h=>by
  simp only [T6];have:=h p D5;have:=Zt λx hx=>h x (D8 _ hx)
  omega
theorem RY {b:G9}: ∀ {l:G0 G9},(∀x∈l,x<=b)->l.sum<=b*l.length
 | [],_=>by simp
 |x::l,h=>by
  have h1:=h x D5;have h2:=RY λy hy=>h y (D8 _ hy)
  simp only [List.sum_cons,P8,Nat.mul_succ];omega
structure ShowB (p:C8)(k b:G9):Prop where
 sh:p.showable=true
 dp:p.depth<=k
 ln:p.shown.length<=b
theorem ShowB.mono {p:C8}{k b k' b':G9}(h:ShowB p k b)(hk:k<=k')(hb:b<=b'):ShowB p k' b':=⟨h.sh,S1 h.dp hk,S1 h.ln hb⟩
theorem ShowB.tup {ps:G0 C8}{k b:G9}(h: ∀p∈ps,ShowB p k b):ShowB (.tuple ps) (k+1) ((b+2)*ps.length+3):=by
 refine⟨?_,?_,?_⟩
 ·simpa only [dO] using yM λp hp=>(h p hp).sh
 ·simp only [W9];have:=Zt λp hp=>(h p hp).dp;omega
 ·simp only [cS];have h1:=tupleText_len_le (K5 ps);rw [yc,G6,O7] at h1;have h2:((ps.map ((λx=>x.length)∘cS))).sum<=b*ps.length:=by
   have:=RY (b:=b) (l:=ps.map ((λx:Str=>x.length)∘cS)) (λx hx=>by obtain⟨p,hp,e⟩:=N8.mp hx;rw [<-e];exact(h p hp).ln);rw [G6] at this;exact this
  rw [yc,Nat.add_mul];omega
def RZ:RDn:=λds h Q=> ∃x y p,ds= [x,y]/\ToP h x p/\ToP h y p/\ShowOk p/\Q (.bl true) h
theorem Ud (b:M6):ShowOk (.bool b):=by cases b<;>exact⟨by decide,by decide,by decide⟩
end L2
namespace L2
open PySem PySem.Spec PyProof.Rows PySem.SeqAt
variable {X:Cx}
theorem DO (hu:X.A.units+64<cLine):MtM X "list.index" (λx vs H Q=> ∃ (a:G7) (y:V) (dy:D) (h:HD) (p:C8) (ps:G0 C8) (j:G9) (z:C8),x= .ref a/\vs= [y]/\RelD X.K H dy y/\RelH X.K h H/\ToP h (.lst a) (.list ps)/\ToP h dy p/\p.canLay0=true/\C0 ps=true/\p.depth<=60/\j<1000000/\ps[j]? =some z/\N9 z p=true/\(∀m y,m<j->ps[m]? =some y->N9 y p=false)/\Q (.int (j:D1)) H):=by
 intro pins s σ H x vs v us Q I rx rv h;obtain⟨a,y,dy,h,p,ps,j,z,rfl,rfl,rd,rh,t1,t2,c1,c2,c3,hj,hz,hit,hno,q⟩:=h;cases rx;obtain⟨u,rfl,ru⟩:=vU rv;obtain⟨a',ds,ea,ha,ts⟩:=(show ∃a' ds,D.lst a= .lst a'/\h a'=some ds/\ToPs h ds ps from t1);cases ea;obtain⟨ws,hH,_⟩:=rh a ds ha;obtain⟨as,r1⟩:=jO I rh t1 (show RelD X.K H (.lst a) (.ref a) from ⟨rfl,ws,hH⟩) (show RelV (.ref a) (.ref a) from rfl);obtain⟨bs,r2⟩:=jO I rh t2 rd ru;cases r1 with
 |list h1 h2 h3 h4=>
  rename_i o its n cs;have em:=pV ps _ _ c2 h4;have gm: ∀m (hm:m<its.size),ps[m]? =some (readOf s.heap its[m]):=λm hm=>by
   rw [<-em,R9,O5,Array.getElem?_eq_getElem hm];rfl
  have hlen:its.size=ps.length:=by rw [<-em,G6,B0]
  have hjs:j<its.size:=by rw [hlen];exact(D0.mp hz).1
  have hu':X.A.units+1+min (T6 ps) p.depth<cLine:=by have:=aI (T6 ps) p.depth;omega
  obtain⟨oc,od,odt,osl⟩:=o;simp only at h2 h3;subst h2 h3;refine fB F.slot_list_index ⟨_,h1,rfl⟩ F.entry_list_index (F.args_list_index_2 _ _) (list_indexAt a its n od osl u (λy=>N9 (readOf s.heap y) p) j hjs (by omega) ?_ ?_) ⟨h1,rJ h4 r2 c2 c1 hu',?_⟩
  ·have:=gm j hjs;rw [hz] at this;injection this with this
   rw [<-this];exact hit
  ·intro m hm hmj;exact hno m _ hmj (gm m hm)
  ·exact⟨.int (j:D1),H,I.tok _,⟨_,rfl⟩,q⟩
def EU (to te:TED):TED:=λσ h Q=>to σ h λx h1=> ∃a,x= .lst a/\te σ h1 λy h2=> ∃ (p:C8) (ps:G0 C8) (j:G9) (z:C8),ToP h2 (.lst a) (.list ps)/\ToP h2 y p/\p.canLay0=true/\C0 ps=true/\p.depth<=60/\j<1000000/\ps[j]? =some z/\N9 z p=true/\(∀m y,m<j->ps[m]? =some y->N9 y p=false)/\Q (.int (j:D1)) h2
section
variable {X:Cx}{o e i:S5}{to te ti:TED}{apos cpos:Pos}
theorem EV (hu : X.A.units + 64 < cLine) (ho : JE X o to) (he : JE X e te) (hbase : aV o "index" X.env (O4 o X.env) = O4 o X.env := by rfl)
    (hfew : ((E6 cpos (D2 [e] X.env)).all (fun x => !x.1) && (iW cpos (dF [] X.env)).all (fun x => x.1.isSome) && decide ([e].length + ([] : G0 cL).length + (if ([] : G0 cL).isEmpty then 0 else 1) < 30)) = true := by rfl)
    (hline : (apos.endLine == cpos.line) = true := by rfl) (hs : D2 [e] X.env = (false, O4 e X.env) :: D2 [] X.env := by rfl) (hplain : (E6 cpos (D2 [] X.env)).any (·.1) = false := by rfl) :
    JE X (.Call (.Attribute o "index" apos) [e] [] cpos) (EU to te) :=
  ⟨(ME cF pK pM (DO hu) ho.to (wn he.to pa_nil hs) hbase hfew hline hs hplain).imp
    fun σ H Q ⟨tF, h, Qd, rs, rh, t, p⟩ => LE.bind rs rh t fun d v h1 H1 k1 rs1 rh1 r1 ⟨a, e, q⟩ => by
      subst e
      obtain ⟨e1, vs, hH⟩ := (show v = .ref a ∧ ∃ vs, H1 a = some (.lst vs) from r1)
      subst e1
      refine ⟨.inl ⟨rfl, vs, SqL.of hH⟩, ?_⟩
      refine LE.bind rs1 rh1 q fun y u h2 H2 k2 rs2 rh2 r2 ⟨pd, ps, j, z, t1, t2, c1, c2, c3, hj, hz, hit, hno, q2⟩ => ?_
      exact ⟨a, u, y, h2, pd, ps, j, z, rfl, rfl, r2, rh2, t1, t2, c1, c2, c3, hj, hz, hit, hno, p (.int _) _ _ _ (k1.trans k2) rh2 rfl q2⟩⟩
end
section
variable {α:Type}{i i':G9}{js:G0 G9}{ti:TID}{te:TED}{σ:SD}{h:HD}{Q:KD}{j:ItD}
theorem EW (xs:G0 α)(c c' g:α->D)(hz:xs.length<=1000)(hj:j h=some (xs.map λx=> .tup [c x,c' x]))(ht: ∀R:ItD->HD->Prop,R j h->ti σ h R)
 (he: ∀x∈xs,∀Q':KD,Q' (g x) h->te (((jM js σ).set i (some (c x))).set i' (some (c' x))) h Q')(hq: ∀p,h p=none->Q (.lst p) (zB h p (xs.map g))):vX (b2 i i') js ti Ws te σ h Q:=by
 refine ht _ ⟨xs.length,λk ys h'=>h'=h/\ys=(xs.take k).map g,⟨rfl,by simp⟩,?_⟩;rintro k ys h' ⟨rfl,rfl⟩;refine⟨by simp only [G6,T1];exact R8 (jz (by omega)),_,hj,by simp,λhl p hp=> ?_,λd hd=> ?_⟩
 ·rw [T8 (by simpa using hl)];exact hq p hp
 ·rw [R9] at hd;cases hx:xs[k]? with
  |none=>rw [hx] at hd;cases hd
  |some x=>
   rw [hx] at hd;cases hd;refine⟨_,⟨_,_,rfl,rfl⟩,?_⟩;unfold Ws;dsimp only;rw [S8 rfl];refine he x (P5 hx) _ ⟨h',Sub.refl _,rfl,?_⟩;rw [A2,hx];simp
theorem Ac (xs:G0 α)(c c':α->D)(g:α->M6)(hz:xs.length<=1000)(hj:j h=some (xs.map λx=> .tup [c x,c' x]))(ht: ∀R:ItD->HD->Prop,R j h->ti σ h R)
 (he: ∀x∈xs,∀Q':KD,Q' (.bl (g x)) h->te (((jM js σ).set i (some (c x))).set i' (some (c' x))) h Q')(hq:Q (.bl (xs.all g)) h):dCB Nt (jZ (vX (b2 i i') js ti Ws te) Zl) σ h Q:=by
 show vX (b2 i i') js ti Ws te σ h (λx h1=>Nt [x] h1 Q);exact EW xs c c' (λx=> .bl (g x)) hz hj ht he λp hp=>⟨p,xs.map g,rfl,by rw [jc,O7];rfl,by rw [zC hp,Q7];exact hq⟩
end
def IsS (n:G9)(S:G0 G9):Prop:= ∃p:G9->M6,S=(N4 n).filter p
variable {n:G9}{S:G0 G9}
theorem IsS.lt (h:IsS n S){i:G9}(hi:i∈S):i<n:=by
 obtain⟨p,rfl⟩:=h;exact L7.mp (bE.mp hi).1
theorem IsS.len (h:IsS n S):S.length<=n:=by
 obtain⟨p,rfl⟩:=h;have:=W4 p (N4 n)
 rwa [X1] at this
theorem IsS.rise (h:IsS n S):S.Pairwise (· < ·):=by
 obtain⟨p,rfl⟩:=h;exact G0.pairwise_lt_range.filter p
def WU (n:G9)(T:G0 (G0 D1))(S:G0 G9):G0 G9:=(N4 n).filter λj=>S.any λi=>decide (ent T i j≠0)
theorem IsS.step (T:G0 (G0 D1))(S:G0 G9):IsS n (WU n T S):=⟨_,rfl⟩
def PY (S:G0 G9):C8:=RW (VZ S)
theorem Ue (h:HD)(S:G0 G9):ToP h (zg S) (PY S):=by rw [NA];exact⟨_,rfl,YK h _⟩
theorem YT (h:HD): ∀Ss:G0 (G0 G9),ToPs h (Ss.map zg) (Ss.map PY)
 | []=>rfl
 |S::Ss=>⟨_,_,rfl,Ue h S,YT h Ss⟩
theorem XF (r:G0 D1):(RW r).canLay0=true:=by unfold RW;simp only [cR];exact Zq r
theorem GI (r:G0 D1):(RW r).depth<=2:=by unfold RW;simp only [W9];have:=Wx r;omega
theorem Wy: ∀a b:G0 D1,aY (a.map cZ) (b.map cZ)=decide (a=b)
 | [],[]=>by simp [aY]
 | [],_::_=>by simp [aY]
 |_::_,[]=>by simp [aY]
 |x::a,y::b=>by
  show ((x==y)&&aY (a.map .int) (b.map .int))=_;rw [Wy a b,H0];simp
theorem NG (a b:G0 D1):N9 (RW a) (RW b)=decide (a=b):=Wy a b
theorem GJ {a b:G0 G9}(h:VZ a=VZ b):a=b:=by
 have:=congrArg (g7 eG) h;unfold VZ at this;simpa [O7,gJ] using this
theorem NH (a b:G0 G9):N9 (PY a) (PY b)=decide (a=b):=by
 unfold PY;rw [NG,H0,U4,U4];exact⟨GJ,λe=>by rw [e]⟩
theorem WV {α:Type}(xs:G0 α):yV xs (some 1) none=xs.drop 1:=by
 unfold yV;cases xs with
 |nil=>simp
 |cons x xs=>simp [HT.sIx]
theorem NI (S:G0 G9):RX (S.map λ(k:G9)=>D.int (k:D1)) (yV (S.map λ(k:G9)=>D.int (k:D1)) (some 1) none)=(S.zip (S.drop 1)).map λp=>D.tup [.int (p.1:D1),.int (p.2:D1)]:=by
 rw [WV];unfold RX;rw [<-o7,List.zip_map,O7];rfl
theorem UP: ∀ {S:G0 G9},S.Pairwise (· < ·)-> ∀p∈S.zip (S.drop 1),p.1<p.2
 | [],_,p,hp=>by simp at hp
 | [a],_,p,hp=>by simp at hp
 |a::b::l,h,p,hp=>by
  have h':=V8.mp h;rcases P6.mp (show p∈(a,b)::(b::l).zip ((b::l).drop 1) from hp) with e|e
  ·subst e;exact h'.1 b D5
  ·exact UP h'.2 p e
theorem XG {e:G9}{T:G0 (G0 D1)}(hT:Sq n e T)(hS:IsS n S){j:G9}(hj:j<n){m:D1}(m1:m∈0::S.map λi=>ent T i j)(m2: ∀x∈0::S.map λi=>ent T i j,x<=m):decide (m>0)=S.any λi=>decide (ent T i j≠0):=by
 rw [H0,U4,g8];constructor
 ·intro z;rcases P6.mp m1 with e|e
  ·omega
  ·obtain⟨i,hi,rfl⟩:=N8.mp e;exact⟨i,hi,R4 (by omega)⟩
 ·rintro ⟨i,hi,z⟩;have z':=J0 z;have a:=(hT.ent_nn (hS.lt hi) hj).1;have b:=m2 _ (D8 _ (N8.mpr ⟨i,hi,rfl⟩));omega
theorem IsS.more {k:G9}(h:IsS k S)(b:M6):IsS (k+1) (if b=true then S++ [k] else S):=by
 obtain⟨p,rfl⟩:=h;refine⟨λi=>if i=k then b else p i,?_⟩;rw [iN,bT];have e:(N4 k).filter (λi=>if i=k then b else p i)=(N4 k).filter p:=List.filter_congr λi hi=>by
  rw [S7 (by have:=L7.mp hi;omega)]
 rw [e];cases b<;>simp
theorem IsS.nil (n:G9):IsS n []:=⟨λ_=>false,by simp⟩
structure Enc {α:Type}[DecidableEq α](e:α->D)(p:α->C8):Prop where
 to: ∀ (h:HD) a,ToP h (e a) (p a)
 lay: ∀a,(p a).canLay0=true
 dp: ∀a,(p a).depth<=60
 eq: ∀a b,N9 (p a) (p b)=decide (a=b)
section
variable {α:Type}[DecidableEq α]{e:α->D}{p:α->C8}
theorem Enc.tos (E:Enc e p)(h:HD): ∀as:G0 α,ToPs h (as.map e) (as.map p)
 | []=>rfl
 |a::as=>⟨_,_,rfl,E.to h a,E.tos h as⟩
theorem Enc.lays (E:Enc e p): ∀as:G0 α,C0 (as.map p)=true
 | []=>rfl
 |a::as=>by show (cR (p a)&&_)=true;rw [E.lays as,E.lay a];rfl
theorem Ma (E:Enc e p){neg:M6}{x:α}{as:G0 α}{a:G7}{h:HD}{Q:KD}(ha:h a=some (as.map e))(q: ∀b:M6,(b=true↔x∈as)->Q (.bl (neg !=b)) h):inE neg (e x) (.lst a) h Q:=by
 refine⟨p x,as.map p,E.to h x,.inl ⟨a,_,rfl,ha,E.tos h as⟩,E.lay x,E.lays as,E.dp x,q _ ?_⟩;rw [lN,g8];constructor
 ·rintro ⟨y,hy,z⟩;have:y=x:=by simpa [aO,E.eq] using z
  rw [<-this];exact hy
 ·intro hi;exact⟨x,hi,by simp [aO,E.eq]⟩
end
def RP (n:G9)(T:G0 (G0 D1))(k i j:G9):Prop:=ent (Aa n T k) i j≠0
theorem GK {i:G9}(h:i<n):ixN n (i:D1)=some i:=by
 unfold ixN;simp;omega
theorem call_divmodB:CallR X (.builtin "divmod") (λxs H Q=> ∃i j,xs= [.int i,.int j]/\(0<j/\j<2^200)/\ ∀p,H p=none->Q (.ref p) (upd H p (.tup [.int (i / j),.int (i%j)]))):=by
 intro pins s σ H xs us Q I r h;obtain⟨i,j,rfl,⟨h1,h2⟩,q⟩:=h;obtain⟨u,w',rfl,⟨t,rfl⟩,⟨t',rfl⟩⟩:=Dg r;refine divmod_int (by omega) ?_ (.inl (PyProof.noPylong_of_log2 ?_))
 ·rw [eN i (by omega),eO i (by omega)];have hn:H s.heap.objs.size=none:=I.hok.fresh (P3 _);refine⟨.ref s.heap.objs.size,_,?_,rfl,q _ hn⟩;refine I.laid (λb o e=>G5 _ e) (P3 _) ⟨by simp only [P8,S2];rw [mT];decide,[.int (i / j) s.toks,.int (i%j) (s.toks+1)],.cons ⟨_,rfl⟩ (.cons ⟨_,rfl⟩ .nil),?_⟩;exact⟨_,S3 s.heap rfl,rfl,rfl,0,rfl⟩
 ·have h3:j.natAbs<2^200:=Gx (by omega) h2;have h4:=(mZ (by omega:j.natAbs≠0)).mpr h3;omega
def NJ:RDn:=λds h Q=> ∃i j:D1,ds= [.int i,.int j]/\(0<j/\j<2^200)/\Q (.tup [.int (i / j),.int (i%j)]) h
theorem XH:wX X (.builtin "divmod") NJ:=call_divmodB.imp λxs H Q ⟨ds,h,Qd,r,rh,⟨i,j,e,c,q⟩,p⟩=>by
 subst e;obtain⟨v,w,e,r1,r2⟩:=wx r;cases (show v= .int i from r1);cases (show w= .int j from r2);exact⟨i,j,e,c,λa ha=>p (.tup [.int (i / j),.int (i%j)]) _ _ _ (.new ha) (rh.new ha) ⟨a,_,rfl,ji,.cons rfl (.cons rfl .nil)⟩ q⟩
def jB (d:D)(a b:D1):M6:=match d with
 | .int x=>decide (a<=x)&&decide (x<=b)
 |_=>false
def Uf (d:D)(m:D1):M6:=match d with
 | .tup es=>es.all λx=>jB x 0 (m-1)
 |_=>false
theorem FP (x m:D1):decide (x<m)=decide (x<=m-1):=by
 by_cases h:x<m
 ·rw [R4 h,R4 (by omega)]
 ·rw [D9 h,D9 (by omega)]
def VI (x:Str)(i:D1):C8:= .dict [(.str x,.int i)]
theorem GL {pins:G0 (G7×Obj)}{σ:St}{H:Hp}{s:G3}{x:Str}{i:D1}{v:V}{u:G1}(I:Inv X pins σ H s)(r:RelD X.K H (.dic x i) v)(ru:RelV v u): ∃a,Reads s.heap u (VI x i) [a]/\a≠sysModules:=by
 obtain⟨a,e,hH⟩:=(show ∃a,v= .ref a/\H a=some (.dK [(W0 x,V.int i)]) from r);subst e;cases (show u= .ref a from ru);obtain⟨-,hy,vs,kv,o,es,ep,hg,ex,hd,-,pr,-⟩:=(show ObjOk X.prog X.w H s.heap a (.dK [(W0 x,V.int i)]) from I.hok a _ hH);cases kv with
 |cons q t=>
  cases t;generalize hes:es.toList=es' at pr;cases pr with
  |cons k1 k2 k3=>
   cases k3;rename_i b e;obtain⟨q1,q2⟩:=q;obtain⟨t,ht⟩:=(show ∃t,b.2=bZ i t from q2);have k1':VJ (W0 x) e.key=true:=by
    rw [show (W0 x:Key)=b.1 from q1];exact k1
   rcases jD k1' with ⟨_,_,z,_⟩|⟨y,t2,z,hk⟩
   ·cases z
   ·cases z;refine⟨a,?_,beq_eq_false_iff_ne.mp hy⟩;refine Reads.dict (as:= []) (bs:= []) hg ex.1 hd ?_ ?_
    ·rw [hes];show ReadsAll s.heap [e.key] [.str x] [];rw [hk];exact .cons (.str x t2) .nil
    ·rw [hes];show ReadsAll s.heap [e.val] [.int i] [];rw [k2,ht];exact .cons (.int i t) .nil
def Ad:RDn:=λds h Q=>FO ds h Q\/ ∃a d x i p,ds= [.lst a]/\h a=some [d,.dic x i]/\ToP h d p/\ShowOk (.list [p,VI x i])/\Q (.str (qO [p,VI x i]).shown) h
theorem UQ {k:G9}(hr:Room k X.A):wX X (.builtin "repr") Ad:=by
 intro pins s σ H xs us Q I r h;obtain⟨ds,h,Qd,rs,rh,q,post⟩:=h;rcases q with q|⟨a,d,x,i,p,e,ha,t,so,q⟩
 ·exact DM hr pins s σ H xs us Q I r ⟨ds,h,Qd,rs,rh,q,post⟩
 subst e;obtain⟨v,e,r1⟩:=ju rs;subst e;obtain⟨u,rfl,ru⟩:=vU r;obtain⟨vs,hH,rd⟩:=rh a _ ha;have e:v= .ref a:=r1.1;subst e;cases (show u= .ref a from ru);obtain⟨its,rv,pl,_⟩:=I.list (SqL.of hH);obtain⟨o,ho,hc,n,hd⟩:=pl.isList;obtain⟨v1,vr,e,rd1,rd'⟩:=(show ∃v r,vs=v::r/\RelD X.K H d v/\RelDs X.K H [.dic x i] r from rd);subst e;obtain⟨v2,e,rd2⟩:=ju rd';subst e;cases rv with
 |cons ru1 rt=>
  cases rt with
  |cons ru2 rt2=>
   cases rt2;rename_i u1 u2;obtain⟨as1,q1⟩:=jO I rh t rd1 ru1;obtain⟨a2,q2,n2⟩:=GL I rd2 ru2;have hall:ReadsAll s.heap [u1,u2] [p,VI x i] (as1++([a2]++ [])):= .cons q1 (.cons q2 .nil);have hs:=so.sh;have hz':(listText (K5 [p,VI x i])).length<=sizeLine:=by simpa only [cS] using so.ln
   have hsa:V7 [p,VI x i]=true:=by simpa [dO] using hs
   have hs1:V7 [p]=true/\V7 [VI x i]=true:=by
    simp only [V7,Bool.and_true,B1] at hsa ⊢;exact hsa
   obtain⟨b1,hb1,k1⟩:=ReprAllK.of_readsAll (prog:=X.prog) (w:=X.w) (.cons q1 .nil) hs1.1 (λhx=>by simp [gI,Ja t] at hx) (λt ht=>S1 (nH (ts:=K5 [p,VI x i]) (by simp only [K5,P0] at ht ⊢;rw [ht];exact D5)) hz');obtain⟨b2,hb2,k2⟩:=ReprAllK.of_readsAll (prog:=X.prog) (w:=X.w) (.cons q2 .nil) hs1.2 (λ_ hm=>by simp at hm;exact n2 hm.symm) (λt ht=>S1 (nH (ts:=K5 [p,VI x i]) (by simp only [K5,P0] at ht ⊢;rw [ht];exact D8 _ D5)) hz');have d1:T6 [p]<=T6 [p,VI x i]:=by simp only [T6];omega
   have d2:T6 [VI x i]<=T6 [p,VI x i]:=by simp only [T6];omega
   have hb:ReadAtMost s.heap (T6 [p,VI x i]) (b1++b2):=(hb1.mono d1).append (hb2.mono d2);have hk:ReprAllK X.prog X.w (b1++b2) s.heap (T6 [p,VI x i]) [u1,u2] (K5 [p,VI x i]):=by
    cases k1.more_le (λb hb=>C5 b2 hb) d1 with
    |cons a1 _=>
     cases k2.more_le (λb hb=>D6 b1 hb) d2 with
     |cons a2 _=>exact .cons a1 (.cons a2 .nil)
   have hna:a ∉ b1++b2:=not_mem_of_deeper (.list ho hc hd hall) (by simp only [W9];omega) hb;have hdp:=so.dp;have hun:=hr.units;simp only [W9] at hdp;refine call_repr_slot (by omega) ⟨o,ho,hc⟩ F.slot_list_repr.toG ?_;exact call_list_reprK ho hc hd hna (by simpa using hk.length_eq) (λi y e=>hk.item i y (by simpa using e)) hr.gd (λb _=>Clear.nil b) (by show X.A.units+1+_<cLine;omega) (λ_ _ e=>e)
    (λh' u' tk hk=>⟨_,_,rfl,⟨.str (qO [p,VI x i]).shown,H,I.kept hk,⟨u',by simp only [cS]⟩,post (.str _) _ _ _ (.refl H) rh rfl q⟩⟩) hz'
end L2
set_option maxRecDepth 35000
namespace L2
open PySem PySem.Spec PyProof.Rows PySem.SeqAt
def Sm (k b:G9)(d:D):Prop:= ∃p:C8,(∀h,ToP h d p)/\ShowB p k b/\p.canLay0=true
theorem Sm.mono {k b k' b':G9}{d:D}(h:Sm k b d)(hk:k<=k')(hb:b<=b'):Sm k' b' d:=let ⟨p,t,s,c⟩:=h;⟨p,t,s.mono hk hb,c⟩
theorem FQ:Sm 0 200 .non:=⟨.none,λ_=>rfl,⟨rfl,by decide,by decide⟩,rfl⟩
theorem Ae (b:M6):Sm 0 200 (.bl b):=⟨.bool b,λ_=>rfl,by cases b<;>exact⟨rfl,by decide,by decide⟩,rfl⟩
theorem FR {i:D1}(h:i.natAbs<2^100):Sm 0 200 (.int i):=by
 refine⟨.int i,λ_=>rfl,⟨?_,by simp [W9],?_⟩,rfl⟩
 ·have:i.natAbs.log2<1920:=by
   by_cases z:i.natAbs=0
   ·rw [z];decide
   ·exact(mZ z).mpr (R3 h (Q9 (by decide) (by decide)))
  simpa [dO] using this
 ·show (B6 (toString i)).length<=200;rw [PySem.ofString_length];refine int_text_length_le (by decide) ?_
  by_cases z:i.natAbs=0
  ·rw [z];decide
  ·exact(mZ z).mpr (R3 h (Q9 (by decide) (by decide)))
theorem sms {k b:G9}: ∀ {ds:G0 D},(∀d∈ds,Sm k b d)-> ∃ps:G0 C8,ps.length=ds.length/\(∀h,ToPs h ds ps)/\(∀p∈ps,ShowB p k b)/\C0 ps=true
 | [],_=>⟨[],rfl,λ_=>rfl,by simp,rfl⟩
 |d::ds,h=>by
  obtain⟨p,t,s,c⟩:=h d D5;obtain⟨ps,l,ts,ss,cs⟩:=sms λx hx=>h x (D8 _ hx)
  refine⟨p::ps,by simp [l],λh=>⟨d,ds,rfl,t h,ts h⟩,λq hq=> ?_,by simp [C0,c,cs]⟩;rcases P6.mp hq with e|e
  ·rw [e];exact s
  ·exact ss q e
theorem Sm.tup {k b m:G9}{ds:G0 D}(h: ∀d∈ds,Sm k b d)(hm:ds.length<=m):Sm (k+1) ((b+2)*m+3) (.tup ds):=by
 obtain⟨ps,l,ts,ss,cs⟩:=sms h;refine⟨.tuple ps,λh=>⟨ds,rfl,ts h⟩,(ShowB.tup ss).mono (P3 _) ?_,by simpa only [cR] using cs⟩;have:=Nat.mul_le_mul_left (b+2) (show ps.length<=m by omega);omega
def Th (h:HD)(d:D):Prop:=Sm 2 5000000 d\/(∃a ds,d= .lst a/\h a=some ds/\ds.length<=155/\ ∀x∈ds,Sm 1 35000 x)\/d= .dic (B6 "a") 1
theorem FS {x:Str}(h:x=B6 "1" \/x=B6 "" \/x=B6 "0"):Sm 0 200 (.str x):=by
 rcases h with e|e|e<;>subst e<;>exact⟨.str _,λ_=>rfl,⟨by decide +kernel,by decide +kernel,by decide +kernel⟩,by decide +kernel⟩
def bnd:G9->G9
 |0=>200
 |k+1=>(bnd k+2)*155+3
theorem Mb: ∀k,200<=bnd k
 |0=>P3 _
 |k+1=>by have:=Mb k;show 200<=(bnd k+2)*155+3;omega
mutual
def smB:G9->D->M6
 |_,.non=>true
 |_,.bl _=>true
 |_,.int i=>decide (i.natAbs<2^100)
 |_,.str x=>decide (x=B6 "1")||decide (x=B6 "")||decide (x=B6 "0")
 |k+1,.tup ds=>decide (ds.length<=155)&&smBs k ds
 |_,_=>false
def smBs:G9->G0 D->M6
 |_,[]=>true
 |k,d::ds=>smB k d&&smBs k ds
end
theorem UR {k:G9}: ∀ {ds:G0 D},smBs k ds=true-> ∀d∈ds,smB k d=true
 |d::ds,h,x,hx=>by
  have h':(smB k d&&smBs k ds)=true:=h;rw [B1] at h';rcases P6.mp hx with e|e
  ·rw [e];exact h'.1
  ·exact UR h'.2 x e
def SmK (k:G9)(d:D):Prop:=Sm k (bnd k) d
theorem SmK.of0 {d:D}(h:Sm 0 200 d)(k:G9):SmK k d:=Sm.mono h (by omega) (Mb k)
theorem SmK.tup {k:G9}{ds:G0 D}(h: ∀d∈ds,SmK k d)(hm:ds.length<=155):SmK (k+1) (.tup ds):=Sm.tup h hm
theorem GM: ∀ (k:G9) (d:D),smB k d=true->SmK k d
 |k,.non,_=>SmK.of0 FQ k
 |k,.bl b,_=>SmK.of0 (Ae b) k
 |k,.int i,h=>SmK.of0 (FR (by cases k<;>exact J0 h)) k
 |k,.str x,h=>SmK.of0 (FS (by
  have h':(decide (x=B6 "1")||decide (x=B6 "")||decide (x=B6 "0"))=true:=by cases k<;>exact h
  simp only [bL,U4] at h';rcases h' with (a|b)|c
  ·exact .inl a
  ·exact .inr (.inl b)
  ·exact .inr (.inr c))) k
 |0,.tup ds,h=>by cases h
 |k+1,.tup ds,h=>by
  have h':(decide (ds.length<=155)&&smBs k ds)=true:=h;rw [B1,U4] at h';exact SmK.tup (λd hd=>GM k d (UR h'.2 d hd)) h'.1
 |0,.lst _,h=>by cases h
 |_+1,.lst _,h=>by cases h
 |0,.dic _ _,h=>by cases h
 |_+1,.dic _ _,h=>by cases h
 |0,.dct _,h=>by cases h
 |_+1,.dct _,h=>by cases h
 |0,.scr _,h=>by cases h
 |_+1,.scr _,h=>by cases h
theorem SmK.th {h:HD}{d:D}(s:SmK 2 d):Th h d:= .inl (Sm.mono s (P3 _) (by decide))
theorem Th.lst {h:HD}{a:G7}{ds:G0 D}(ha:h a=some ds)(hl:ds.length<=155)(hs: ∀x∈ds,SmK 1 x):Th h (.lst a):= .inr (.inl ⟨a,ds,rfl,ha,hl,λx hx=>Sm.mono (hs x hx) (P3 _) (by decide)⟩)
theorem jS {h:HD}{p a:G7}{ds:G0 D}(n:a≠p)(e:h a=some ds):jK h p a=some ds:=(S7 n).trans e
theorem sub_drop {h:HD}{p:G7}:Sub (jK h p) h:= .drop h p
theorem ye {h:HD}{p a:G7}{ds:G0 D}(e:jK h p a=some ds):a≠p:=λz=>by
 subst z;have e:(if a=a then none else h a)=some ds:=e;rw [S8 rfl] at e;cases e
section
variable {α:Type}{i i':G9}{js:G0 G9}{ti:TID}{te:TED}{σ:SD}{h:HD}{Q:KD}{j:ItD}
theorem EX (xs:G0 α)(c c' g:α->D)(p:α->M6){tt:TTD}(hz:xs.length<=1000)(hj:j h=some (xs.map λx=> .tup [c x,c' x]))(ht: ∀R:ItD->HD->Prop,R j h->ti σ h R)
 (hp: ∀x∈xs,∀Q':M6->HD->Prop,Q' (p x) h->tt (((jM js σ).set i (some (c x))).set i' (some (c' x))) h Q')(he: ∀x∈xs,p x=true-> ∀Q':KD,Q' (g x) h->te (((jM js σ).set i (some (c x))).set i' (some (c' x))) h Q')(hq: ∀a,h a=none->Q (.lst a) (zB h a ((xs.filter p).map g))):vX (b2 i i') js ti tt te σ h Q:=by
 refine ht _ ⟨xs.length,λk ys h'=>h'=h/\ys=((xs.take k).filter p).map g,⟨rfl,by simp⟩,?_⟩;rintro k ys h' ⟨rfl,rfl⟩;refine⟨?_,_,hj,by simp,λhl a ha=> ?_,λd hd=> ?_⟩
 ·have:=W4 p (xs.take k);simp only [G6,T1] at this ⊢;exact R8 (jz (by omega))
 ·rw [T8 (by simpa using hl)];exact hq a ha
 ·rw [R9] at hd;cases hx:xs[k]? with
  |none=>rw [hx] at hd;cases hd
  |some x=>
   rw [hx] at hd;cases hd;refine⟨_,⟨_,_,rfl,rfl⟩,?_⟩;refine hp x (P5 hx) _ ?_;cases hb:p x with
   |true=>
    rw [S8 rfl];refine he x (P5 hx) hb _ ⟨_,Sub.refl _,rfl,?_⟩;rw [A2,hx];simp [hb]
   |false=>
    rw [S7 (by decide)];refine⟨_,Sub.refl _,rfl,?_⟩;rw [A2,hx];simp [hb]
end
def Qg (T:G0 (G0 D1))(n p:G9):G0 G9:=(N4 n).filter λj=>decide (ent T p j>0)
def cnt (T:G0 (G0 D1))(n o:G9):G9->G9->D1
 |0,p=>if p=o then 1 else 0
 |t+1,p=>((Qg T n p).map (cnt T n o t)).sum
section
variable {T:G0 (G0 D1)}{n o:G9}
theorem FT {p j:G9}(h:j∈Qg T n p):j<n:=L7.mp (bE.mp h).1
theorem NK (p:G9):(Qg T n p).length<=n:=by
 have:=W4 (λj=>decide (ent T p j>0)) (N4 n)
 rwa [X1] at this
def EY (T:G0 (G0 D1))(n o t p:G9):G9:=(Qg T n p).findIdx λj=>decide (cnt T n o t j>0)
def nxt (T:G0 (G0 D1))(n o t p:G9):G9:=(Qg T n p).getD (EY T n o t p) 0
end
theorem DP {α:Type}{xs:G0 α}{x:α}(h1:1<=xs.length)(h:xs[xs.length-1]? =some x):atI xs (-1)=some x:=by
 unfold atI ixN;rw [S7 (by decide),S8 (by omega)];show xs[(-1+(xs.length:D1)).toNat]? =_;rw [show (-1+(xs.length:D1)).toNat=xs.length-1 by omega];exact h
end L2
namespace L2
open PySem PySem.Spec PyProof.Rows
theorem ObjOk.there {P:R5}{w:N0}{H:Hp}{h:N2}{a:G7}{o:HO}(x:ObjOk P w H h a o): ∃u,h.get? a=some u:=by
 cases o with
 |lst xs=>obtain⟨_,_,_,_,e⟩:=x;exact⟨_,e⟩
 |tup xs=>obtain⟨_,_,_,p⟩:=x;obtain⟨o,e,_⟩:=p;exact⟨_,e⟩
 |dK kvs=>obtain⟨_,_,_,_,o,_,_,e,_⟩:=x;exact⟨_,e⟩
 |dT kvs=>obtain⟨_,_,_,_,o,_,_,e,_⟩:=x;exact⟨_,e⟩
 |set S n=>obtain⟨o,_,_,_,e,_⟩:=x;exact⟨_,e⟩
 |ins C dx fs=>obtain⟨_,_,_,e,_⟩:=x;exact⟨_,e⟩
 |own y=>obtain⟨_,e⟩:=x;exact⟨_,e⟩
 |xd fs=>obtain⟨_,⟨_,_,_,e,_⟩,_⟩:=x;exact⟨_,e⟩
 |rng lo hi=>obtain⟨_,_,_,e⟩:=x;exact⟨_,e⟩
 |frz ob u=>obtain⟨e,_⟩:=x;exact⟨_,e⟩
 |tbl ps=>exact⟨_,(show h.get? a=some _ from x)⟩
 |met f y=>exact⟨_,(show h.get? a=some _ from x)⟩
 |ext φ=>obtain⟨_,⟨_,e⟩,_⟩:=x;exact⟨_,e⟩
theorem jW {h b b':N2}: ∀ {l:G0 Env},h.FunFrames b l->(∀a∈frs l,b'.get? a=none)->h.FunFrames b' l
 | [],_,_=>trivial
 |env::r,⟨hk,⟨L,o,hf,_,ho,hd⟩,hr⟩,n=>by
  refine⟨hk,⟨L,o,hf,n L ?_,ho,hd⟩,jW hr λa ha=>n a ?_⟩
  ·unfold frs;rw [U6,hf];exact .head _
  ·unfold frs;rw [U6,hf];exact .tail _ ha
structure Fly (h0:N2)(H:Hp)(h:N2)(x C:G7):Prop where
 ex: ∃ (oe:Obj) (vs:T9 G1) (a0:G1) (T:G7) (oT:Obj) (ts:T9 G1),h.get? x=some oe/\oe.cls= .ref C/\oe.data= .fields vs/\vs[0]? =some a0/\vs[1]? =some (.ref T)/\T≠x/\
  h.get? T=some oT/\oT.data= .fields ts/\ts[3]? =some .none/\H T=none/\h0.get? T=none
 nx:H x=none
 n0:h0.get? x=none
def CXR (P:R5)(w:N0):CXT:=λouter H s E e s'=> ∃x C H',e= .ref x/\s'.os=s.os/\dW s'.gens/\Un (frs outer) [] H H' s.heap s'.heap/\HOk P w H' s'.heap/\Fly s.heap H' s'.heap x C/\E (.ref C) none H'
structure Rz0 (X:Cx):Prop where
 stk:X.stack=X.env::X.outer
 fr:X.env.frame=some X.env.locals
 ex:X.ex= []
structure Rz (X:Cx)(E:XK):Prop extends Rz0 X where
 xe: ∀e s',R1 (R6 X.prog X.w) X.A (lF X.env e) (λ_ s''=>CXR X.prog X.w X.outer X.H₀ X.s₀ E e s'') (λe' s''=>CXR X.prog X.w X.outer X.H₀ X.s₀ E e' s'') s'->X.xe e s'
section
variable {X:Cx}{pins:G0 (G7×Obj)}{σ:St}{H:Hp}{s:G3}{E:XK}{x C:G7}
theorem GN (I:Inv X pins σ H s)(Z:Rz0 X){ys:G0 G7}(hy: ∀y∈ys,H y=none/\X.s₀.heap.get? y=none){h':N2}
 (kb: ∀b o,s.heap.get? b=some o->b ∉ ys->b ∉ frs (X.env::X.outer)->h'.get? b=some o)
 (up: ∀b o,s.heap.get? b=some o->b∈frs (X.env::X.outer)-> ∃sl,h'.get? b=some {o with slots:=sl}):
 Un X.fs [] X.H₀ H X.s₀.heap h'/\HOk X.prog X.w H h'/\
  ∀T oT ts,h'.get? T=some oT->oT.data= .fields ts->(∀o,s.heap.get? T=some o->T∈ys\/T∈frs (X.env::X.outer))->H T=none/\X.s₀.heap.get? T=none:=by
 have nex: ∀b,b ∉ X.ex:=λb=>by rw [Z.ex];simp
 have neL: ∀b o,X.s₀.heap.get? b=some o->b≠X.env.locals:=λb o e=>T5 (R3 (D4 e) I.ok.above)
 have mem: ∀b,b∈frs (X.env::X.outer)↔b=X.env.locals\/b∈X.fs:=λb=>by
  show b∈List.filterMap _ _↔_;rw [U6,Z.fr];exact P6
 have nys: ∀b o,X.s₀.heap.get? b=some o->b ∉ ys:=λb o e z=>by rw [(hy b z).2] at e;cases e
 have trf: ∀b u,H b=some u->b ∉ ys/\b ∉ frs (X.env::X.outer):=λb u e=>by
  refine⟨λz=> ?_,λz=> ?_⟩
  ·rw [(hy b z).1] at e;cases e
  ·have:=I.stkFree b (by rw [Z.stk];exact z);rw [this] at e;cases e
 refine⟨⟨λb o e n hb hx=> ?_,λb o e n hb hx=> ?_,λb o e n hx=>I.base.free b o e n (nex b),λb o e hx=> ?_,I.base.tups,I.base.frzs,I.base.tbls⟩,λa o e=> ?_,λT oT ts hT hd hn=>⟨?_,?_⟩⟩
 ·exact kb b o (I.base.keep b o e n hb (nex b)) (nys b o e) λz=>((mem b).mp z).elim (neL b o e) hb
 ·obtain⟨sl,e1⟩:=I.base.slot b o e n hb (nex b);obtain⟨sl',e2⟩:=up b _ e1 ((mem b).mpr (.inr hb));exact⟨sl',e2⟩
 ·obtain⟨o',e1⟩:=I.base.there b o e (nex b)
  by_cases hb:b∈frs (X.env::X.outer)
  ·obtain⟨sl,e2⟩:=up b o' e1 hb;exact⟨_,e2⟩
  ·exact⟨_,kb b o' e1 (nys b o e) hb⟩
 ·refine(I.hok a o e).stay (λb u hb q=> ?_) (λ_ q=>q) λ_ _ q=>q
  rcases hb with rfl|hb
  ·exact kb b u q (trf b _ e).1 (trf b _ e).2
  ·exact kb b u q (trf b _ hb).1 (trf b _ hb).2
 ·cases q:H T with
  |none=>rfl
  |some u=>
   obtain⟨o,e⟩:=(I.hok T u q).there;exact absurd (hn o e) λz=>z.elim (trf T u q).1 (trf T u q).2
 ·cases q:X.s₀.heap.get? T with
  |none=>rfl
  |some o=>
   exfalso;obtain⟨o',e1⟩:=I.base.there T o q (nex T);rcases hn o' e1 with z|z
   ·exact nys T o q z
   ·rcases (mem T).mp z with z'|z'
    ·exact neL T o q z'
    ·obtain⟨_,o2,e2,nd⟩:=(show s.heap.FunFrames X.base (X.env::X.outer) from Z.stk ▸ I.stack).mem z;obtain⟨sl,e3⟩:=up T o2 e2 z;rw [hT] at e3;cases e3;exact nd ts hd
theorem GO {Q:Unit->G3->Prop}{M:gA}{EE:G1->G3->Prop}(I:Inv X pins σ H s)(Z:Rz X E)(fl:Fly X.s₀.heap H s.heap x C)
 (k: ∀h',Un X.fs [] X.H₀ H X.s₀.heap h'->HOk X.prog X.w H h'->Fly X.s₀.heap H h' x C->Q () {s with heap:=h'}):R1 M X.A (lF X.env (.ref x)) Q EE s:=by
 obtain⟨oe,vs,a0,T,oT,ts,he,hc,hd,h0,h1,hTx,hT,hTd,h3,hHT,h0T⟩:=fl.ex;have hfr:X.A.frames=some (X.env::X.outer):=by rw [I.ok.frames,Z.stk]
 have stk:s.heap.FunFrames X.base (X.env::X.outer):=Z.stk ▸ I.stack;have ff:s.heap.FunFrames (aZ s.heap (x::T::frs (X.env::X.outer))) (X.env::X.outer):=jW stk λa ha=>W6 _ (.tail _ (.tail _ ha))
 refine wpAny_leaves_onW (base:=aZ s.heap (x::T::frs (X.env::X.outer))) (cls:= .ref C) (a0:=a0) hfr Z.fr
  ⟨λb o e=>eI _ e,W6 _ (.head _),ff,oe,vs,T,oT,ts,he,⟨hc,h0⟩,hd,h1,W6 _ (.tail _ (.head _)),hTx,hT,hTd,h3⟩ λh' hfl' hup=> ?_
 obtain⟨st,_,_,oe',vs',T',oT',ts',he',⟨hc',h0'⟩,hd',h1',hTB,hTx',hT',hTd',h3'⟩:=hfl';obtain⟨r1,r2,r3⟩:=GN (ys:= [x,T]) (h':=h') I Z.toRz0 (λy hy=>by
  rcases P6.mp hy with rfl|hy
  ·exact⟨fl.nx,fl.n0⟩
  ·rcases P6.mp hy with rfl|hy
   ·exact⟨hHT,h0T⟩
   ·cases hy) (λb o e n1 n2=>st b o (X8 _ e λz=>by
    rcases P6.mp z with rfl|z
    ·exact n1 (.head _)
    ·rcases P6.mp z with rfl|z
     ·exact n1 (.tail _ (.head _))
     ·exact n2 z)) λb o e hb=>by
  obtain⟨_,o2,e2,nd⟩:=stk.mem hb;rw [e] at e2;cases e2;exact hup b o e nd
 obtain⟨q1,q2⟩:=r3 T' oT' ts' hT' hTd' λo e=>by
  by_cases z:T'∈frs (X.env::X.outer)
  ·exact .inr z
  ·refine .inl ?_
   by_cases z1:T'=x
   ·rw [z1];exact .head _
   ·by_cases z2:T'=T
    ·rw [z2];exact .tail _ (.head _)
    ·rw [X8 _ e (by simp only [P6,sQ];exact⟨z1,z2,z⟩)] at hTB;cases hTB
 exact k h' r1 r2 ⟨⟨oe',vs',a0,T',oT',ts',he',hc',hd',h0',h1',hTx',hT',hTd',h3',q1,q2⟩,fl.nx,fl.n0⟩
theorem XI {Q:Unit->G3->Prop}{M:gA}{EE:G1->G3->Prop}{h1:N2}{args:G0 G1}(I:Inv X pins σ H s)(Z:Rz X E)(hm:Heap.MadeExcOf s.heap h1 x (.ref C) args)
 (k: ∀h',Un X.fs [] X.H₀ H X.s₀.heap h'->HOk X.prog X.w H h'->Fly X.s₀.heap H h' x C->Q () {s with heap:=h'}):R1 M X.A (lF X.env (.ref x)) Q EE {s with heap:=h1}:=by
 have hfr:X.A.frames=some (X.env::X.outer):=by rw [I.ok.frames,Z.stk]
 have stk:s.heap.FunFrames X.base (X.env::X.outer):=Z.stk ▸ I.stack;have ff:s.heap.FunFrames (aZ s.heap (frs (X.env::X.outer))) (X.env::X.outer):=jW stk λa ha=>W6 _ ha
 refine wpAny_leaves_madeW (base:=aZ s.heap (frs (X.env::X.outer))) (h:=s.heap) (s:= {s with heap:=h1}) hfr Z.fr (λb o e=>eI _ e) ff hm λh' t hfl' _ _ hup=> ?_
 obtain⟨st,_,_,oe',vs',T',oT',ts',he',⟨hc',h0'⟩,hd',h1',hTB,hTx',hT',hTd',h3'⟩:=hfl';obtain⟨r1,r2,r3⟩:=GN (ys:= []) (h':=h') I Z.toRz0 (λy hy=>nomatch hy) (λb o e _ n2=>st b o (X8 _ e n2)) λb o e hb=>by
  obtain⟨_,o2,e2,nd⟩:=stk.mem hb;rw [e] at e2;cases e2;exact hup b o (hm.keeps b o e) nd
 obtain⟨q1,q2⟩:=r3 T' oT' ts' hT' hTd' λo e=>by
  by_cases z:T'∈frs (X.env::X.outer)
  ·exact .inr z
  ·rw [X8 _ e z] at hTB;cases hTB
 obtain⟨p1,p2⟩:=r3 x oe' vs' he' hd' λo e=>by rw [hm.new] at e;cases e
 exact k h' r1 r2 ⟨⟨oe',vs',_,T',oT',ts',he',hc',hd',h0',h1',hTx',hT',hTd',h3',q1,q2⟩,p1,p2⟩
theorem Af (Z:Rz X E):Za (CXR X.prog X.w) X E:=by
 intro pins σ H s e s' I ⟨x,C,H',he,os,bare,un,hok,fl,q⟩;subst he;obtain⟨hh,g,d,t,os'⟩:=s';obtain rfl:os'=s.os:=os;have I':=I.call (h':=hh) (g':=g) (d':=d) (t':=t) (ch:= []) un hok bare (λb z=>absurd z (by simp));have nex: ∀b,b ∉ X.ex:=λb=>by rw [Z.ex];simp
 have f0: ∀b,s.heap.get? b=none->X.s₀.heap.get? b=none:=λb n=>by
  cases q:X.s₀.heap.get? b with
  |none=>rfl
  |some o=>obtain⟨o',e⟩:=I.base.there b o q (nex b);rw [n] at e;cases e
 have fl':Fly X.s₀.heap H' hh x C:=by
  obtain⟨⟨oe,vs,a0,T,oT,ts,a1,a2,a3,a4,a5,a6,a7,a8,a9,a10,a11⟩,nx,n0⟩:=fl;exact⟨⟨oe,vs,a0,T,oT,ts,a1,a2,a3,a4,a5,a6,a7,a8,a9,a10,f0 _ a11⟩,nx,f0 _ n0⟩
 exact Z.xe _ _ (GO I' Z fl' λh' u hk f=>⟨x,C,H',rfl,I'.os,I'.bare,u,hk,f,q⟩)
end
end L2
namespace L2
open PySem PySem.Spec PyProof.Rows PySem.W
def JD (cells:G0 (Str×G7)):G0 (Str×NameKind)->G0 (Str×G7)->G0 (Str×G7)
 | [],cs=>cs
 |(n,k)::r,cs=>JD cells r (if k== .free then (match cells.lookup n with|some c=>(n,c)::cs|none=>cs) else cs)
theorem wJ {env:Env}: ∀ (names:G0 (Str×NameKind)) (cs:G0 (Str×G7)),(∀n,(n,C6)∈names-> ∃c,env.cells.lookup n=some c)->
 (forIn names cs (λ(x:Str×NameKind) (r:G0 (Str×G7))=>do
  let (name,kind):=x
  if kind== .free then
   let c <-sO env name
   pure (Y8 ((name,c)::r))
  else pure (Y8 r)):Sem (G0 (Str×G7)))=pure (JD env.cells names cs)
 | [],cs,_=>rfl
 |(n,k)::r,cs,h=>by
  rw [bK]
  by_cases hk:(k==C6)=true
  ·have hk':k= .free:=eq_of_beq hk;subst hk';obtain⟨c,hc⟩:=h n (.head _);unfold JD;simp only [mM,cK,sO,hc,pure_bind];exact wJ r _ λn hn=>h n (.tail _ hn)
  ·unfold JD;simp only [hk,gZ,pure_bind];exact wJ r _ λn hn=>h n (.tail _ hn)
variable {scope:O0}
theorem Zu {env:Env}(h: ∀n,(n,C6)∈scope.names-> ∃c,env.cells.lookup n=some c):fC scope env=pure (JD env.cells scope.names []):=by
 have:=wJ (env:=env) scope.names [] h;unfold fC
 first
  |exact this
  |simpa using this
theorem wz {cells:G0 (Str×G7)}: ∀ (names:G0 (Str×NameKind)) (cs:G0 (Str×G7)),(∀x c,cs.lookup x=some c->cells.lookup x=some c)-> ∀x c,(JD cells names cs).lookup x=some c->cells.lookup x=some c
 | [],_,h,x,c,e=>h x c e
 |(n,k)::r,cs,h,x,c,e=>by
  unfold JD at e;refine wz r _ (λy d hy=> ?_) x c e;split at hy
  ·split at hy
   ·rename_i c' hc';rw [L0] at hy
    by_cases q:(y==n)=true
    ·rw [q] at hy;cases hy;rw [eq_of_beq q];exact hc'
    ·simp only [q] at hy;exact h y d hy
   ·exact h y d hy
  ·exact h y d hy
theorem Zv {cells:G0 (Str×G7)}: ∀ (names:G0 (Str×NameKind)) (cs:G0 (Str×G7)) (x:Str),((x,C6)∈names/\(∃c,cells.lookup x=some c)\/ ∃c,cs.lookup x=some c)-> ∃c,(JD cells names cs).lookup x=some c
 | [],_,x,h=>h.elim (λz=>nomatch z.1) id
 |(n,k)::r,cs,x,h=>by
  unfold JD;refine Zv r _ x ?_;rcases h with ⟨hm,c,hc⟩|⟨c,hc⟩
  ·rcases P6.mp hm with q|q
   ·cases q;right;simp only [mM,cK,hc];exact⟨c,by simp⟩
   ·exact .inl ⟨q,c,hc⟩
  ·right;split
   ·split
    ·rename_i c' hc'
     by_cases q:(x==n)=true
     ·exact⟨c',by rw [L0,q]⟩
     ·exact⟨c,by rw [L0];simp only [q];exact hc⟩
    ·exact⟨c,hc⟩
   ·exact⟨c,hc⟩
structure LamOk (sc:O0):Prop where
 kind:sc.kind= .function
 co:sc.isCoroutine=false
 gen:sc.isGenerator=false
 nocell: ∀y∈sc.names,y.2≠ .cell/\y.2≠ .local
def Wb:j5:= {posonlyargs:= [],args:= [],vararg:=none,kwonlyargs:= [],kw_defaults:= [],kwarg:=none,defaults:= []}
theorem YU {a0 b0:G9}{c:G1}: ∀l:G0 G1,cY l->cY (l++ [aM a0,aM b0,c]):=by
 intro l h
 fun_induction cY l with
 |case1=>simp [cY,aM]
 |case2 a t b u x rest ih=>simp only [L5,cY];exact ih h
 |case3 l h1 h2=>exact h.elim
theorem XJ {p:Pos}{a0 b0:G9}{c cv:G1}: ∀l:G0 G1,cY l->g6 p (l++ [aM a0,aM b0,c])=some cv->g6 p l=some cv\/cv=c:=by
 intro l h e
 fun_induction cY l with
 |case1=>
  right;simp only [B3,g6,aM] at e;split at e
  ·exact(B8 e).symm
  ·cases e
 |case2 a t b u x rest ih=>
  simp only [L5,g6] at e ⊢;split at e
  ·rename_i hc;left;rw [S8 hc];exact e
  ·rename_i hc;rw [S7 hc];exact ih h e
 |case3 l h1 h2=>exact h.elim
def CodeF (H:Hp)(cv:G1)(q:Str):Prop:= ∃ (c:G7) (o:Obj) (vs:T9 G1) (t:Tok),cv= .ref c/\H c=some (.frz o (.own 0))/\o.data= .fields vs/\vs[1]? =some (.str q t)
variable {w:N0}{H:Hp}{q:Str}
theorem CodeF.rec {P:R5}{h:N2}{cv:G1}(x:CodeF H cv q)(ok:HOk P w H h):h.CodeRec cv q:=let ⟨c,o,vs,t,e,e2,r⟩:=x;⟨c,o,vs,t,e,(ok c _ e2).1,r⟩
section
variable {X:Cx}{pins:G0 (G7×Obj)}{σ:St}{H:Hp}{s:G3}
theorem DQ {M:gA}{A:T0}{E:G1->G3->Prop}{Q:G1->G3->Prop}{body:S5}{scope:O0}{pos:Pos}{c P:G7}{ps:T9 G1}{clos:G0 (Str×G7)}(I:Inv X pins σ H s)(B:Bm X.mg X.base)
 (hcode:X.env.code= .ref c)(hc:codeHdIn X.K c P=true)(hP:H P=some (.tbl ps))(hps:CodesOk H ps)(hcl:fC scope X.env=pure clos)
 (k: ∀ (f:G7) (q qual:Str) (pm cv ctv:G1) (H':Hp) (h':N2) (tk:Tok),Inv X pins σ H' {s with heap:=h',toks:=tk}->Kept H H'->(∀a o,H a=some o->(∀ps',o≠ .tbl ps')->H' a=some o)->
  (∀a ps',H a=some (.tbl ps')->a≠P->H' a=some (.tbl ps'))->(∃ps',H' P=some (.tbl ps')/\CodesOk H' ps')->
  h'.get? f=some {cls:= .type "function",data:= .func (kla_fn "<lambda>" qual Wb body scope clos pm cv ctv)}->CodeF H' cv q->H' f=none->(∀x d,X.env.cells.lookup x=some d->d≠f)->f≠X.env.locals->f ∉ X.fs->Q (.ref f) {s with heap:=h',toks:=tk}):
 R1 M A (O4 (.Lambda Wb body scope pos) X.env) Q E s:=by
 have hPg:s.heap.get? P=some (tabObj ps):=I.hok P _ hP;have C:CodeHd s.heap c P:=codeHd_of_K I.kIn hc;have hgs:s.heap.Ns mainGlobals X.mg:=I.mod.glob.keeps I.bk;obtain⟨bm,ob,b1,b2,b3,b4,b5,b6⟩:=B;have bb:=I.bs _ _ b3;have hgP:mainGlobals≠P:=λq=>by
  obtain⟨o,es,ep,e,hd,_⟩:=hgs;rw [q,hPg] at e;cases e;cases hd
 have hbP:bm≠P:=λq=>by rw [q,hP] at bb;cases bb.2
 have hbG:bm≠mainGlobals:=λq=>by
  obtain⟨o,es,ep,e,hd,_⟩:=hgs;rw [q,e] at bb;cases bb.1;rw [hd] at b6;cases b6
 have BA:s.heap.BuiltinsAt X.mg P:=⟨bm,ob,b1,b2,hbG,hbP,bb.1,b4,b5,b6⟩;have away: ∀f,s.heap.objs.size<=f->(∀x d,X.env.cells.lookup x=some d->d≠f)/\f≠X.env.locals/\f ∉ X.fs:=λf hf=>⟨λx d e z=>by
  obtain⟨v,o,ho,_⟩:=I.cell x d e;exact absurd (R3 (D4 ho) (z ▸ hf)) (C3 _),λz=>absurd (R3 I.lt (z ▸ hf)) (C3 _),I.nofs hf⟩
 refine kla_eval rfl ?_;cases hf:g6 pos ps.toList with
 |none=>
  refine kla_makeFunction (mg:=X.mg) hcl I.ok.glob hgs hcode C hPg hps.1 hf hgP BA λc' ctv h' tk hx hge hlt hrec htb=> ?_
  have hP':P<s.heap.objs.size:=D4 hPg;have hcP:c'≠P:=Q1 (R3 hP' hge);have hcn:H c'=none:=I.hok.fresh hge;obtain⟨c₂,oc,vs,t,e2,hoc,hd,hv⟩:=hrec;cases e2;have szle:s.heap.objs.size<=h'.objs.size:=R8 (J7 hge hlt);have kp: ∀ (o2:Obj) b o,b≠P->s.heap.get? b=some o->(h'.push o2).get? b=some o:=λo2 b o nb e=>G5 _ (hx b o nb e)
  have hnP: ∀b u,H b=some u->(∀ps',u≠ .tbl ps')->b≠P:=λb u e n z=>by rw [z,hP] at e;cases e;exact n _ rfl
  have look: ∀b,b≠P->b≠c'->upd (upd H c' (.frz oc (.own 0))) P (.tbl (ps++ #[aM pos.line,aM pos.col,.ref c'])) b=H b:=λb n1 n2=>by rw [jg n1,jg n2]
  have ncs: ∀b u,H b=some u->b≠c':=λb u e z=>by rw [z,hcn] at e;cases e
  have frzs: ∀b o u,H b=some (.frz o u)->upd (upd H c' (.frz oc (.own 0))) P (.tbl (ps++ #[aM pos.line,aM pos.col,.ref c'])) b=some (.frz o u):=λb o u e=>by
   rw [look b (hnP b _ e (by intro _ z;cases z)) (ncs b _ e)];exact e
  refine k h'.objs.size (X.env.qual++ "<lambda>") (X.env.qual++ "<lambda>") _ (.ref c') ctv (upd (upd H c' (.frz oc (.own 0))) P (.tbl (ps++ #[aM pos.line,aM pos.col,.ref c']))) _ tk ?_ ?_ ?_ ?_ ?_ (S3 _ rfl) ⟨c',oc,vs,t,rfl,by rw [jg hcP,ji],hd,hv⟩ ?_ (away _ szle).1 (away _ szle).2.1 (away _ szle).2.2
  ·refine I.un (t':=tk) ⟨λb o e n hb hx'=>kp _ b o (λz=>by rw [z,hP] at n;cases n) e,λb o e n hb hx'=>⟨o.slots,kp _ b o (λz=>by rw [z,hP] at n;cases n) e⟩,λb o e n hx'=> ?_,λb o e hx'=> ?_,λb xs e=> ?_,frzs,λb ps' e=> ?_⟩ λa o e=> ?_
   ·rw [look b (λz=>by rw [z,hP] at n;cases n) (T5 (R3 (D4 e) hge))];exact n
   ·by_cases z:b=P
    ·rw [z];exact⟨_,G5 _ htb⟩
    ·exact⟨_,kp _ b o z e⟩
   ·rw [look b (hnP b _ e (by intro _ z;cases z)) (ncs b _ e)];exact e
   ·by_cases z:b=P
    ·subst z;rw [hP] at e;cases e;exact⟨_,ji⟩
    ·exact⟨#[],by rw [look b z (ncs b _ e),e];simp⟩
   ·by_cases z:a=P
    ·subst z;rw [ji] at e;cases e;exact G5 _ htb
    ·rw [jg z] at e
     by_cases z2:a=c'
     ·subst z2;rw [ji] at e;cases e;exact⟨G5 _ hoc,⟨oc,G5 _ hoc⟩⟩
     ·rw [jg z2] at e;refine(I.hok a o e).stay (λb u hb q=> ?_) (λb q=> ?_) λb xs q=> ?_
      ·rcases hb with rfl|hb
       ·exact kp _ b u z q
       ·exact kp _ b u (hnP b _ hb (by intro _ z;cases z)) q
      ·rw [look b (hnP b _ q (by intro _ z;cases z)) (ncs b _ q)];exact q
      ·rw [look b (hnP b _ q (by intro _ z;cases z)) (ncs b _ q)];exact q
  ·refine⟨λa xs e=> ?_,λa xs e=>⟨xs,?_⟩,λa kk i e=> ?_,frzs⟩<;>(rw [look a (hnP a _ e (by intro _ z;cases z)) (ncs a _ e)];exact e)
  ·intro a o e n;rw [look a (hnP a _ e n) (ncs a _ e)];exact e
  ·intro a ps' e n;rw [look a n (ncs a _ e)];exact e
  ·refine⟨_,ji,?_,λp cv e=> ?_⟩
   ·simp only [B2];exact YU _ hps.1
   ·simp only [B2] at e;rcases XJ ps.toList hps.1 e with e|e
    ·obtain⟨c1,o,vs',q',t',e1,e2,r⟩:=hps.2 p cv e;exact⟨c1,o,vs',q',t',e1,frzs _ _ _ e2,r⟩
    ·exact⟨c',oc,vs,_,t,e,by rw [jg hcP,ji],hd,hv⟩
  ·have:H h'.objs.size=none:=I.hok.fresh szle;rw [look _ (Q1 (R3 hP' szle)) (Q1 hlt)];exact this
 |some cv=>
  obtain⟨c1,o,vs,q,t,rfl,e2,hd,hv⟩:=hps.2 pos cv hf;obtain⟨ho,_⟩:=I.hok c1 _ e2;refine kla_makeFunctionHit (mg:=X.mg) hcl I.ok.glob hgs hcode C hPg hps.1 hf BA λctv h' tk hk hsz=> ?_
  exact k h'.objs.size q (X.env.qual++ "<lambda>") _ (.ref c1) ctv H _ tk (I.kept (t':=tk) λb u e=>G5 _ (hk b u e)) (.refl H) (λ_ _ e _=>e) (λ_ _ e _=>e) ⟨ps,hP,hps⟩ (S3 _ rfl) ⟨c1,o,vs,t,rfl,e2,hd,hv⟩
   (I.hok.fresh hsz) (away _ hsz).1 (away _ hsz).2.1 (away _ hsz).2.2
end
structure Cap (N:G0 Str)(σ:St)(sc:O0)(cl:G0 (Str×G7))(h:N2)(H:Hp):Prop where
 len:σ.length=N.length
 inj: ∀x y c,cl.lookup x=some c->cl.lookup y=some c->x=y
 has: ∀x,sc.names.lookup x=some .free-> ∃c,cl.lookup x=some c
 cell: ∀x c,cl.lookup x=some c->(∃v,h.IsCell c v)/\H c=none
 loc: ∀ (i:G9) (x:Str) (v:V),N[i]? =some x->σ[i]? =some (some v)->sc.names.lookup x=some .free-> ∃u c,RelV v u/\cl.lookup x=some c/\h.IsCell c (some u)
theorem zX {α β:Type}[BEq α][LawfulBEq α]: ∀ {l:G0 (α×β)} {x:α} {y:β},l.lookup x=some y->(x,y)∈l
 | [],_,_,h=>by cases h
 |(a,b)::r,x,y,h=>by
  rw [L0] at h
  by_cases q:(x==a)=true
  ·rw [q] at h;cases h;rw [eq_of_beq q];exact .head _
  ·simp only [q] at h;exact .tail _ (zX h)
def GP (sc:O0)(env:Env):Prop:= ∀n,(n,C6)∈sc.names->env.kindOf n=some .cell\/env.kindOf n=some .free
variable {σ:St}{s:G3}
theorem Cap.of {X:Cx}{pins:G0 (G7×Obj)}{sc:O0}(I:Inv X pins σ H s)(hf:GP sc X.env):Cap X.N σ sc (JD X.env.cells sc.names []) s.heap H where
 len:=I.len
 inj:=λx y c h1 h2=>I.ok.inj x y c (wz _ _ (λ_ _ z=>by cases z) _ _ h1) (wz _ _ (λ_ _ z=>by cases z) _ _ h2)
 has:=λx h=>Zv _ _ _ (.inl ⟨zX h,I.ok.has x (hf x (zX h))⟩)
 cell:=λx c h=>⟨I.cell x c (wz _ _ (λ_ _ z=>by cases z) _ _ h),I.freeC x c (wz _ _ (λ_ _ z=>by cases z) _ _ h)⟩
 loc:=λi x v h1 h2 h3=>by
  obtain⟨m,hn,hl⟩:=I.loc;have hk:=hf x (zX h3);obtain⟨u,r,l⟩:=hl i x v h1 h2 (.inr hk);obtain⟨c,hc⟩:=Zv (cells:=X.env.cells) sc.names [] x (.inl ⟨zX h3,I.ok.has x hk⟩);refine⟨u,c,r,hc,?_⟩;have hc':=wz _ _ (λ_ _ z=>by cases z) _ _ hc;rcases l with ⟨k,_⟩|⟨_,c2,e,z⟩
  ·rcases hk with k2|k2<;>(rw [k] at k2;cases k2)
  ·rw [hc'] at e;cases e;exact z
variable {cl:G0 (Str×G7)}
theorem Cap.step {N:G0 Str}{sc:O0}{h h':N2}{H':Hp}{fs:G0 G7}(C:Cap N σ sc cl h H)(u:Un fs [] H H' h h'):Cap N σ sc cl h' H':=by
 have k: ∀x c v,cl.lookup x=some c->h.IsCell c v->h'.IsCell c v:=λx c v e ⟨o,ho,hd⟩=>by
  obtain⟨sl,q⟩:=u.any ho (C.cell x c e).2 (by simp);exact⟨_,q,hd⟩
 exact⟨C.len,C.inj,C.has,λx c e=>by
  obtain⟨⟨v,z⟩,n⟩:=C.cell x c e;obtain⟨o,ho,_⟩:=id z;exact⟨⟨v,k x c v e z⟩,u.free c o ho n (by simp)⟩,λi x v h1 h2 h3=>let ⟨uu,c,r,e,z⟩:=C.loc i x v h1 h2 h3;⟨uu,c,r,e,k x c _ e z⟩⟩
def cxL (CX:CXT)(P:R5)(w:N0)(K:G2)(mg:Str->P2 G1)(base:N2)(N:G0 Str)(q:Str)(scope:O0)(f:G7)(cd:G1)(cl:G0 (Str×G7))(A:T0)(outer:G0 Env)(s:G3)(H:Hp)(E:XK):Cx where
 prog:=P
 w:=w
 K:=K
 mg:=mg
 base:=base
 A:=A.deeper (envX q scope s.heap.objs.size f cd cl)
 N:=N
 s₀:=s
 H₀:=H
 env:=envX q scope s.heap.objs.size f cd cl
 outer:=outer
 stack:=envX q scope s.heap.objs.size f cd cl::outer
 ex:= []
 calm:=true
 fn:=λ_=>false
 pn:= []
 xe:=λe s'=>R1 (R6 P w) (A.deeper (envX q scope s.heap.objs.size f cd cl)) (lF (envX q scope s.heap.objs.size f cd cl) e) (λ_ s''=>CX outer H s E e s'') (λe' s''=>CX outer H s E e' s'') s'
variable {mg:Str->P2 G1}{base:N2}
theorem NL {CX:CXT}{P:R5}{K:G2}{N:G0 Str}{f:G7}{cd:G1}{A:T0}{outer:G0 Env}{E:XK}{tK:N2}{tk:Tok}
 (L:LamOk scope)(hd:A.handled=none)(e0:Env0 P w K mg base A outer s H)(C:Cap N σ scope cl s.heap H)(hns:tK.Ns s.heap.objs.size (λ_=>none))(hk: ∀b o,s.heap.get? b=some o->tK.get? b=some o):
 Inv (cxL CX P w K mg base N q scope f cd cl A outer s H E) [] σ H {s with heap:=tK,toks:=tk}:=by
 have noA: ∀b:G7,b ∉ (cxL CX P w K mg base N q scope f cd cl A outer s H E).ex:=λb z=>absurd (show b∈([]:G0 G7) from z) (by simp)
 have nofr: ∀y,scope.names.lookup y=some .cell\/scope.names.lookup y=some .free->scope.names.lookup y=some .free:=λy hy=>hy.elim (λz=>absurd rfl (L.nocell _ (zX z)).1) id
 refine⟨⟨e0.mod,L.kind,rfl,rfl,P3 _,λy z c h1 h2=>C.inj y z c h1 h2,λy hy=>C.has y (nofr y hy),λy c z=>(by cases z),λ_=>hd,dE e0.frames,.inr ⟨rfl,rfl⟩,λb z=>absurd z (noA b),e0.bs,e0.bsz,λb _ _=>noA b,λb z=>absurd z (noA b),e0.funs,e0.frf⟩,
  rfl,e0.bare,Un.kept hk,⟨_,hns,λi y v h1 h2 h3=> ?_⟩,λy c h=> ?_,e0.hok.fresh (P3 _),λy c h=>(C.cell y c h).2,λp hp=>absurd (show p∈([]:G0 (G7×Obj)) from hp) (by simp),e0.hok.kept hk,C.len⟩
 ·have h3':scope.names.lookup y=some .free:=by
   rcases h3 with z|z
   ·exact absurd rfl (L.nocell _ (zX z)).2
   ·exact nofr y z
  obtain⟨u,c,r,e,o,ho,hd'⟩:=C.loc i y v h1 h2 h3';exact⟨u,r,.inr ⟨.inr h3',c,e,o,hk _ _ ho,hd'⟩⟩
 ·obtain⟨⟨v,o,ho,hd'⟩,_⟩:=C.cell y c h;exact⟨v,o,hk _ _ ho,hd'⟩
theorem GQ {prog:R5}{A:T0}{R:nV->G3->Prop}{f:G7}{o:Obj}{qual:Str}{body:S5}{pm cd ctv:G1}(L:LamOk scope)(deep:A.depth<recursionLimit)
 (there:s.heap.get? f=some o)(lam:o.data= .func (kla_fn "<lambda>" qual Wb body scope cl pm cd ctv))(named:s.heap.CodeRec cd q)(lim:s.heap.NoLimit)
 (go: ∀tK,tK.Ns s.heap.objs.size (λ_=>none)->(∀b o,s.heap.get? b=some o->tK.get? b=some o)->
  X9 (R6 prog w) A (.expr body (envX q scope s.heap.objs.size f cd cl)) R {s with heap:=tK,toks:=s.toks+0}):
 X9 (R6 prog w) A (.call (.ref f) ⟨[],[]⟩) R s:=by
 obtain⟨c,oc,vs,t,rfl,hoc,hdc,hq⟩:=named;obtain⟨h,g,d,tk,os⟩:=s;have frame:=λ{A':T0} {Q:Env->G3->Prop} {E:G1->G3->Prop} (k: ∀tK,_->_->Q _ _)=>wpAny_newFunctionEnv (M:=R6 prog w) (A:=A') (s:=⟨h,g,d,tk,os⟩) (E:=E) (scope:=scope) (globals:=mainGlobals) (closure:=cl) (binds:= []) (qual:=q++ ".<locals>.") (func:=some f) (code:= .ref c) (around:=none) (builtins:=eJ) (Q:=Q) (λx hx=>(L.nocell x hx).1) (λx hx=>nomatch hx) k L.kind
 refine iM ?_;show R1 _ A.in1 (callAny (.ref f) ⟨[],[]⟩) _ _ _
 wp_walk using qX there
 rw [lam];have nothing:nW (kla_fn "<lambda>" qual Wb body scope cl pm (.ref c) ctv) ⟨[],[]⟩=pure []:=rfl;show R1 _ _ (pW f (kla_fn "<lambda>" qual Wb body scope cl pm (.ref c) ctv) ⟨[],[]⟩) _ _ _;unfold pW;rw [nothing];show R1 _ _ (field (.ref c) 1 >>= _) _ _ _;refine wpAny_bind (cC hoc hdc hq ?_)
 repeat refine wpAny_bind (P1 ?_)
 refine wpAny_bind (frame λtK empty same=>wpAny_bind (wpAny_enterFrame (lim.fresh _ same) deep ?_));simp only [kla_fn,L.co,L.gen];exact P1 ⟨rfl,go tK empty λb o old=>same.extBut _ _ (λz=>absurd (D4 old) (by rw [z];exact C3 _)) (G5 _ old)⟩
theorem NM {CX:CXT}{P:R5}{K:G2}{N:G0 Str}{qual:Str}{f:G7}{cd pm ctv:G1}{A:T0}{outer:G0 Env}{E:XK}{o:Obj}{body:S5}{t:TE}{Q:VK}{k:G9}
 (L:LamOk scope)(hr:Room (k+1) A)(e0:Env0 P w K mg base A outer s H)(C:Cap N σ scope cl s.heap H)(ho:s.heap.get? f=some o)(hd:o.data= .func (kla_fn "<lambda>" qual Wb body scope cl pm cd ctv))(hc:CodeF H cd q)
 (hb:PE (cxL CX P w K mg base N q scope f cd cl A outer s H E) body t)(ht:t σ H Q):X9 (R6 P w) A (.call (.ref f) ⟨[],[]⟩) (CR CX outer P w H s Q E) s:=by
 have lim:s.heap.NoLimit:=e0.mod.nolimit.keeps λb o e=>(e0.bs b o e).1
 refine GQ L hr.depth ho hd (hc.rec e0.hok) lim λtK hns xE=> ?_
 have I:=NL (CX:=CX) (q:=q) (f:=f) (cd:=cd) (E:=E) (tk:=s.toks+0) L hr.hd e0 C hns xE;refine kla_codeExpr (S6 (hb [] _ σ H Q I ht) (λv s' hs=> ?_) λ_ _ y=>y);obtain⟨v',H',J,rv,q'⟩:=hs;exact⟨v',H',J.os,J.bare,J.base,J.hok,rv,q'⟩
abbrev TXD:=SD->HD->(Str->HD->Prop)->Prop
def WX (X:Cx)(E:XK)(H:Hp)(R:Str->HD->Prop):Prop:= ∀c C h' H',Kept H H'->RelH X.K h' H'->X.mg c=some (.ref C)->R c h'->E (.ref C) none H'
theorem WX.mono {X:Cx}{E:XK}{H':Hp}{R:Str->HD->Prop}(w:WX X E H R)(k:Kept H H'):WX X E H' R:=λc C h2 H2 k2=>w c C h2 H2 (k.trans k2)
structure JX (X:Cx)(sts:G0 F9)(t:TXD):Prop where
 to: ∀ (E:XK),Rz X E-> ∀ (pins:G0 (G7×Obj)) (s:G3) (σ:St) (H:Hp) (tF:SD) (h:HD) (R:Str->HD->Prop),Inv X pins σ H s->RelS X.K H tF σ->RelH X.K h H->t tF h R->WX X E H R->
  R1 (R6 X.prog X.w) X.A (execs sts X.env) (λ_ _=>False) X.xe s
structure JXE (X:Cx)(e:S5)(t:TXD):Prop where
 to: ∀ (E:XK),Rz X E-> ∀ (pins:G0 (G7×Obj)) (s:G3) (σ:St) (H:Hp) (tF:SD) (h:HD) (R:Str->HD->Prop),Inv X pins σ H s->RelS X.K H tF σ->RelH X.K h H->t tF h R->WX X E H R->
  R1 (R6 X.prog X.w) X.A (O4 e X.env) (λ_ _=>False) X.xe s
def xIf (t:TTD)(u:TXD):TXD:=λσ h R=>t σ h λk h'=>k=true/\u σ h' R
def xRz (c:Str):TXD:=λ_ h R=>R c h
abbrev RDx:=G0 D->HD->(Str->HD->Prop)->Prop
def FU (spr:RDx)(t:TAD):TXD:=λσ h R=>t σ h λds h1=>spr ds h1 R
def Mc (mg:Str->P2 G1)(K:G2)(spr:RDx):Sp:=λvs H _ E=> ∃ds h R,RelDs K H ds vs/\RelH K h H/\spr ds h R/\ ∀c C h' H',Kept H H'->RelH K h' H'->mg c=some (.ref C)->R c h'->E (.ref C) none H'
def bmV:G0 G1:= [.type "ValueError",.type "Exception",.type "BaseException",.type "object"]
theorem DR {K:Frag}(P:R5)(M:Mod K mg base): ∃loose mb,TopRead P loose mg mb base:=by
 obtain⟨mb,laid,boot⟩:=M.blt;obtain⟨o,es,ep,at_,isd,texts,finds⟩:=id M.glob;refine⟨es.toList.filterMap λe=>match e.key with| .str n _=>some n|_=>none,mb,M.glob,laid,M.nolimit,boot,λx _ out _ _ _=> ?_⟩;rw [<-finds x];cases hit:nsFind es x with
 |none=>rfl
 |some v=>
  refine absurd ?_ out;unfold nsFind findBy at hit;obtain⟨e,hf,_⟩:=A4.mp hit;have isx:e.key.isStr x=true:=Array.find?_some (p:=λ(e:DictEntry)=>e.key.isStr x) hf;have mem:=Array.mem_of_find?_eq_some hf;obtain⟨n,t,ek⟩:=texts e mem;rw [ek] at isx;have nx:n=x:=by simpa [Value.isStr] using isx
  exact Y6.mpr ⟨e,by simpa using mem,by rw [ek,nx]⟩
def OwnX (K:G2)(mg:Str->P2 G1)(c:Str):Prop:= ∃C,mg c=some (.ref C)/\nsIn K mainGlobals c=some (some (.ref C))/\excIn K C bmV "ValueError.__new__" =true
theorem OwnX.at {K:Frag}{h:N2}{c:Str}(P:R5)(O:OwnX K mg c)(M:Mod K mg base)(kept: ∀b o,base.get? b=some o->h.get? b=some o): ∃C,mg c=some (.ref C)/\OwnCls c C bmV "ValueError.__new__" mg h:=
 let ⟨C,hm,hn,hx⟩:=O
 let ⟨_,_,T⟩:=DR P M
 ⟨C,hm,(own_of_in M.kin T hn hx).keeps kept⟩
section
variable {X:Cx}{c:S5}{e:S5}{es:G0 S5}{st:F9}{a b rest:G0 F9}{t:TSD}{tt:TTD}{u:TXD}{ta:TAD}{pos p:Pos}
theorem Ag (hc:JT X c tt)(ha:JX X a u):JX X (.If c a b pos::rest) (xIf tt u):=⟨λE Z pins s σ H tF h R I rs rh ht w=>by
 refine V0 (S6 (wpAny_If (Q:=λ_ _=>False) (thn (hc.to pins s σ H (λk H'=>k=true/\ ∃h',Kept H H'/\RelS X.K H' tF σ/\RelH X.K h' H'/\u tF h' R) I
  ⟨tF,h,_,rs,rh,ht,λk h' H' kp rh' q=>⟨q.1,h',kp,rs.mono kp,rh',q.2⟩⟩) λd s1 q=> ?_)) (λ_ _ z=>z.elim) λ_ _ z=>z)
 obtain⟨H',I',rfl,h',kp,rs',rh',q⟩:=q;exact ha.to E Z pins s1 σ H' tF h' R I' rs' rh' q (w.mono kp)⟩
theorem NN (he:JXE X e u)(hs:Y0 e none pos.line X.env=pure false:=by rfl):JX X (.Expr e pos::rest) u:=⟨λE Z pins s σ H tF h R I rs rh ht w=>
 V0 (nN (S6 (he.to E Z pins s σ H tF h R I rs rh ht w) (λ_ _ z=>z.elim) λ_ _ z=>z) I.quiet hs)⟩
theorem DS {x:Str}{np cpos p2:Pos}{m:Str}{j:G9}(hg:Gl X x)(O:OwnX X.K X.mg x)(hcalm:X.calm=true)(hd:(x==("__debug__" :Str))=false:=by decide)
 (he:D2 [Expr.Constant (.str m) j p2] X.env=(false,O4 (.Constant (.str m) j p2) X.env)::D2 [] X.env:=by rfl):
 JX X (.Raise (some (.Call (.Name x np) [.Constant (.str m) j p2] [] cpos)) none pos::rest) (xRz x):=⟨λE Z pins s σ H tF h R I rs rh ht w=>by
 obtain⟨C,hm,own⟩:=O.at X.prog I.mod I.bk;refine V0 (S6 (?_:R1 _ _ _ (λ_ _=>False) _ _) (λ_ _ z=>z.elim) λ_ _ z=>z);obtain⟨_,_,_,_,_,_,_,_,_,_,_,_,_,_,_,_,_,isC,laid,noInit,tail⟩:=own.obj;refine' wpAny_Raise_call_subT oI (tail.hasType PySem.F.excBase_ValueError.hasBase) (I.ok.hd hcalm) (by rw [he];rfl) noInit (vS I hg hm ⟨rfl,?_⟩ hd)
 rotate_right 1
 rw [he];refine iY (eT (o8 (k:=j) (pos:=p2) (gC ⟨rfl,(by show 1<=sizeLine;decide),isC,laid,tail,λh' e hme=> ?_⟩)));refine Z.xe _ _ (XI (s:= {s with toks:=s.toks+1}) (I.tok _) Z hme λh2 un hok fl=> ?_);exact⟨e,C,H,rfl,I.os,I.bare,un,hok,fl,w x C h H (.refl H) rh hm ht⟩⟩
theorem NO {k:G9}{f:G7}{fd:S0}{ps:G0 Str}{spr:RDx}{x:Str}(F:FnOk X.prog X.w X.K X.mg X.base (CXR X.prog X.w) k f fd ps (Mc X.mg X.K spr))(hr:Room k X.A)(hg:Gl X x)(hm:X.mg x=some (.ref f))(hk:A6 X.K (.ref f)=true)(hb:Binds X.K fd ps [])
 (ha:JA X (e::es) ta)(hdb:(x==("__debug__" :Str))=false:=by decide)(he:D2 (e::es) X.env=(false,O4 e X.env)::D2 es X.env:=by rfl)(hpl:(E6 pos (D2 es X.env)).any (·.1)=false:=by rfl):
 JXE X (.Call (.Name x p) (e::es) [] pos) (FU spr ta):=⟨λE Z pins s σ H tF h R I rs rh ht w=>by
 refine thn (QB F hr hg hm hk hb .nil (Af Z) ha.to hdb he hpl pins s σ H (λ_ _=>False) I
  ⟨tF,h,_,rs,rh,ht,λds vs h' H' kp rh' r q=>by show Mc X.mg X.K spr (vs++ []) H' (λ_ _=>False) E;rw [E3];exact⟨ds,h',R,r,rh',q,λc C h2 H2 k2=>w c C h2 H2 (kp.trans k2)⟩⟩) λ_ _ ⟨_,_,_,_,z⟩=>z⟩
end
section
variable {P:R5}{w:N0}{K:G2}{mg:Str->P2 G1}{base:N2}
theorem NP {N:G0 Str}{qual:Str}{scope:O0}{f:G7}{cd:G1}{A:T0}{outer:G0 Env}{s:G3}{H:Hp}{E:XK}:Rz (ZY (CXR P w) P w K mg base N qual scope f cd A outer s H E) E:=⟨⟨rfl,rfl,rfl⟩,λ_ _ h=>h⟩
theorem FV {N:G0 Str}{q:Str}{scope:O0}{f:G7}{cd:G1}{cl:G0 (Str×G7)}{A:T0}{outer:G0 Env}{s:G3}{H:Hp}{E:XK}:Rz (cxL (CXR P w) P w K mg base N q scope f cd cl A outer s H E) E:=⟨⟨rfl,rfl,rfl⟩,λ_ _ h=>h⟩
theorem Fun.okX {x qual:Str}{st:F9}{f:G7}{fd:S0}{N ps:G0 Str}{k:G9}{spr:RDx}(F:Fun K x qual st f fd)(S:FnScope N ps (jd st))(len: ∀ds h R,spr ds h R->ds.length=ps.length)
 (tb:TXD)(hbody: ∀ (cdv:G1) (A:T0) (outer:G0 Env) (s:G3) (H:Hp) (E:XK),Room k (A.deeper (A8 qual (jd st) s.heap.objs.size f cdv))->JX (ZY (CXR P w) P w K mg base N qual (jd st) f cdv A outer s H E) (jJ st) tb)
 (read: ∀ds h R,spr ds h R->tb (jN N ds) h R):FnOk P w K mg base (CXR P w) (k+1) f fd ps (Mc mg K spr):=by
 obtain⟨oc,od,kV,doc,pm,an,cdv,ct,osl,rfl,lk,hcd⟩:=F.ex;refine Mx lk hcd S (λvs H Q E h=> ?_) λA outer s H vs Q E hr hsp=> ?_
 ·obtain⟨ds,h,R,r,rh,q,p⟩:=h;rw [<-r.length];exact len _ _ _ q
 ·obtain⟨ds,h,R,r,rh,q,p⟩:=hsp;refine⟨λ_ σ H'=>σ=start N vs/\H'=H,λpins s' σ H' D I ⟨e1,e2⟩=> ?_,rfl,rfl⟩;subst e1;subst e2;exact S6 ((hbody cdv A outer s H' E hr).to E NP pins s' _ H' (jN N ds) h R I (yD r) rh (read ds h R q) p) (λ_ _ z=>z.elim) λ_ _ z=>z
end
def WW (P:R5)(w:N0)(K:G2)(mg:Str->P2 G1)(base:N2)(n:G9)(x:Str)(ps:G0 Str)(spr:RDx):Prop:=
 ∃ (g:G7) (gd:S0),FnOk P w K mg base (CXR P w) n g gd ps (Mc mg K spr)/\Binds K gd ps []/\A6 K (.ref g)=true/\mg x=some (.ref g)
end L2
namespace L2
open PySem PySem.Spec PyProof.Rows
structure RoomU (k:G9)(A:T0):Prop where
 dp:A.depth+3*k+5<recursionLimit
 un:A.units+16*k+200<cLine
 gd:A.guards=some []
variable {k:G9}{A:T0}
theorem Room.u (r:Room k A):RoomU k A:=⟨r.dp,r.un,r.gd⟩
theorem RoomU.deeper (r:RoomU (k+1) A)(env:Env):RoomU k (A.deeper env):=
 ⟨by have:=r.dp;show A.depth+1+3*k+5<_;omega,by have:=r.un;show A.units+3+16*k+200<_;omega,r.gd⟩
theorem RoomU.depth (r:RoomU k A):A.depth<recursionLimit:=by have:=r.dp;omega
theorem RoomU.units (r:RoomU k A):A.units+64<cLine:=by have:=r.un;omega
structure FnOkU (P:R5)(w:N0)(K:G2)(mg:Str->P2 G1)(base:N2)(CX:CXT)(k:G9)(f:G7)(fd:S0)(ps:G0 Str)(sp:Sp):Prop where
 len: ∀vs H Q E,sp vs H Q E->vs.length=ps.length
 run: ∀ (A:T0) (outer:G0 Env) (s:G3) (H:Hp) (args:Args) (us:G0 G1) (vs:G0 V) (Q:VK) (E:XK),RoomU k A->Env0 P w K mg base A outer s H->j0 s fd args (ps.zip us)->Vals vs us->sp vs H Q E->
  X9 (R6 P w) A (.call (.ref f) args) (CR CX outer P w H s Q E) s
section
variable {X:Cx}{CX:CXT}{k:G9}{f C:G7}{fd:S0}{ps:G0 Str}{sp:Sp}{dvs:G0 V}{ds:G0 G1}{E:XK}{x m:Str}{p pos apos:Pos}{e o:S5}{es:G0 S5}{ta:TE}{t:TA}
theorem NQ {pins:G0 (G7×Obj)}{σ:St}{H:Hp}{s:G3}{Q:VK}{us:G0 G1}{vs:G0 V}(F:FnOkU X.prog X.w X.K X.mg X.base CX k f fd ps sp)(hr:RoomU k X.A)(hb:Binds X.K fd ps ds)(hd:Vals dvs ds)(hx:Za CX X E)
 (I:Inv X pins σ H s)(r:Vals vs us)(h:sp (vs++dvs) H Q E):R1 (R6 X.prog X.w) X.A (call (.ref f) us) (EP X pins σ Q) X.xe s:=by
 have r2:Vals (vs++dvs) (us++ds):=r.append hd;have hl:(us++ds).length=ps.length:=by rw [<-r2.length];exact F.len _ _ _ _ h
 refine bQ (cH (F.run X.A X.stack s H ⟨us,[]⟩ (us++ds) (vs++dvs) Q E hr I.env0 (hb s us I.kIn hl) r2 h) λr s' hq=> ?_);cases r with
 |error e=>exact hx pins σ H s e s' I hq
 |ok fl=>
  cases fl with
  |ret u=>exact I.after hq
  |next=>exact False.elim hq
  |brk=>exact False.elim hq
  |cont=>exact False.elim hq
theorem DT (F:FnOkU X.prog X.w X.K X.mg X.base CX k f fd ps sp)(hr:RoomU k X.A)(hg:Gl X x)(hm:X.mg x=some (.ref f))(hk:A6 X.K (.ref f)=true)(hb:Binds X.K fd ps ds)(hd:Vals dvs ds)(hx:Za CX X E)
 (ha:PA X (e::es) t)(hdb:(x==("__debug__" :Str))=false:=by decide)(he:D2 (e::es) X.env=(false,O4 e X.env)::D2 es X.env:=by rfl)(hpl:(E6 pos (D2 es X.env)).any (·.1)=false:=by rfl):
 PE X (.Call (.Name x p) (e::es) [] pos) (Mw sp dvs E t):=by
 intro pins s σ H Q I h;refine V2 (vS I hg hm ?_ hdb);refine eU (h₀:=X.base) I.ok.mod.kin hk (thn (ha pos pins s σ H _ I h) λus s1 ⟨vs,H1,I1,r,q⟩=>⟨I1.kIn,?_⟩) he hpl;exact NQ F hr hb hd hx I1 r q
end
def YV (CX:CXT)(P:R5)(w:N0)(K:G2)(mg:Str->P2 G1)(base:N2)(N:G0 Str)(qual:Str)(scope:O0)(f:G7)(cd:G1)(A:T0)(outer:G0 Env)(s:G3)(H:Hp)(E:XK):Cx where
 prog:=P
 w:=w
 K:=K
 mg:=mg
 base:=base
 A:=A.deeper (A8 qual scope s.heap.objs.size f cd)
 N:=N
 s₀:=s
 H₀:=H
 env:=A8 qual scope s.heap.objs.size f cd
 outer:=outer
 stack:=A8 qual scope s.heap.objs.size f cd::outer
 ex:= []
 calm:=false
 fn:=λ_=>true
 pn:= []
 xe:=λe s'=>R1 (R6 P w) (A.deeper (A8 qual scope s.heap.objs.size f cd)) (lF (A8 qual scope s.heap.objs.size f cd) e) (λ_ s''=>CX outer H s E e s'') (λe' s''=>CX outer H s E e' s'') s'
variable {base:N2}{qual:Str}{scope:O0}
theorem XL {CX:CXT}{P:R5}{w:N0}{K:G2}{mg:Str->P2 G1}{N ps:G0 Str}{f:G7}{cd:G1}{outer:G0 Env}{s s1:G3}{H:Hp}{E:XK}{us:G0 G1}{vs:G0 V}
 (S:FnScope N ps scope)(e0:Env0 P w K mg base A outer s H)(hl:vs.length=ps.length)(r:Vals vs us)
 (x:InCallC s s.heap.objs.size (mU (A8 qual scope s.heap.objs.size f cd).kindOf (ps.zip us) λ_=>none) (E7 (s.heap.objs.size+1) scope.names []) (mV (A8 qual scope s.heap.objs.size f cd).kindOf (ps.zip us) λ_=>none) s1):
 Inv (YV CX P w K mg base N qual scope f cd A outer s H E) [] (start N vs) H s1:=by
 have hpl:ps.length<=N.length:=by have:=congrArg mW S.pre;rw [T1] at this;omega
 obtain⟨h1,tk,rfl,hk⟩:=x.done;have noA: ∀b:G7,b ∉ (YV CX P w K mg base N qual scope f cd A outer s H E).ex:=λb z=>absurd (show b∈([]:G0 G7) from z) (by simp)
 refine⟨⟨e0.mod,S.kind,rfl,rfl,P3 _,λy z c h1 h2=> ?_,λy hy=> ?_,λy c _ h=> ?_,λz=>(by cases z),dE e0.frames,.inr ⟨rfl,rfl⟩,λb z=>absurd z (noA b),e0.bs,e0.bsz,λb _ _=>noA b,λb z=>absurd z (noA b),e0.funs,e0.frf⟩,
  rfl,e0.bare,Un.kept hk,⟨_,x.toInCall.ns,λi y v h1 h2 h3=> ?_⟩,λy c h=>⟨_,x.cell y c h⟩,e0.hok.fresh (P3 _),λy c h=> ?_,λp hp=>absurd (show p∈([]:G0 (G7×Obj)) from hp) (by simp),e0.hok.kept hk,?_⟩
 ·exact lG x.apart (O6 h1) (O6 h2)
 ·have hy:scope.names.lookup y=some .cell\/scope.names.lookup y=some .free:=hy;rcases hy with hy|hy
  ·exact yA hy
  ·exact absurd rfl (S.nofree _ (O6 hy))
 ·exact R8 (x.above y c (O6 h))
 ·have hi:i<vs.length:=by
   unfold start at h2
   by_cases hi:i<vs.length
   ·exact hi
   ·rw [M5 (by simpa using hi)] at h2;rw [cA] at h2;split at h2<;>cases h2
  have ha:vs[i]? =some v:=by
   unfold start at h2;rw [C4 (by simpa using hi),R9] at h2;cases e:vs[i]? with
   |none=>rw [e] at h2;cases h2
   |some a=>rw [e] at h2;cases h2;rfl
  obtain⟨u,hu,rv⟩:=r.get ha;have hp:ps[i]? =some y:=by
   rw [<-S.pre,Q4 (by omega)];exact h1
  have ndP:ps.Nodup:=by rw [<-S.pre];exact S.nd.sublist (U3 _ _)
  refine⟨u,rv,?_⟩;rcases S.par y (P5 hp) with k|k
  ·exact .inl ⟨k,Zb ndP hp hu k⟩
  ·obtain⟨c,e⟩:=yA (n:=s.heap.objs.size+1) k;refine .inr ⟨.inl k,c,e,?_⟩;have q:=x.cell y c e;rw [Zc ndP hp hu (by show scope.names.lookup y≠_;rw [k];decide)] at q;exact q
 ·exact e0.hok.fresh (R8 (x.above y c (O6 h)))
 ·unfold start;show _=N.length;rw [P4,G6,Z5];omega
theorem FW {CX:CXT}{P:R5}{w:N0}{K:G2}{mg:Str->P2 G1}{f:G7}{name:Str}{params:j5}{body:G0 F9}{dV kV doc pm cdv ct oc:G1}{an od:P2 G7}{osl:T9 (P2 G1)}{N ps:G0 Str}{sp:Sp}(lk:K.lookup f=some ⟨oc,od,.func (Q5 name qual params body scope dV kV doc pm an cdv ct),osl⟩)(hcd:cI K cdv qual=true)(S:FnScope N ps scope)
 (len: ∀vs H Q E,sp vs H Q E->vs.length=ps.length)
 (hbody: ∀ (A:T0) (outer:G0 Env) (s:G3) (H:Hp) (vs:G0 V) (Q:VK) (E:XK),RoomU k (A.deeper (A8 qual scope s.heap.objs.size f cdv))->sp vs H Q E->
  ∃t,PSs (YV CX P w K mg base N qual scope f cdv A outer s H E) body t/\t {nx:=λ_ H'=>Q .non H',rt:=Q} (start N vs) H):
 FnOkU P w K mg base CX (k+1) f (Q5 name qual params body scope dV kV doc pm an cdv ct) ps sp:=by
 refine⟨len,λA outer s H args us vs Q E hr e0 hb r hsp=> ?_⟩;have hl:=len _ _ _ _ hsp;have KX:K.In s.heap:=e0.mod.kin.keeps λb o e=>(e0.bs b o e).1
 have lim:s.heap.NoLimit:=e0.mod.nolimit.keeps λb o e=>(e0.bs b o e).1
 have hkind: ∀y∈ps.zip us,scope.names.lookup y.1=some .local\/(scope.names.lookup y.1=some .cell/\((E7 (s.heap.objs.size+1) scope.names []).lookup y.1).isSome=true):=λ⟨n,v⟩ hy=>by
  rcases S.par n (bJ hy).1 with q|q
  ·exact .inl q
  ·exact .inr ⟨q,Y7 _ _ _ (.inl q)⟩
 refine cU hr.depth (KX _ _ lk) rfl S.co S.gen rfl (e8 KX hcd) (hb _ _ _ _ ?_);refine aD S.kind hkind λenv he s1 x=> ?_
 subst he;refine⟨lim.keeps x.toInCall.keep,lH ?_⟩;obtain⟨t,ht,hq⟩:=hbody A outer s H vs Q E (hr.deeper _) hsp;have I:Inv (YV CX P w K mg base N qual scope f cdv A outer s H E) [] (start N vs) H s1:=XL S e0 hl r x;refine S6 (ht [] s1 (start N vs) H _ I hq) (λfl s' hs=> ?_) λe s' hs=>hs
 have fin: ∀ {tE:St} {H':Hp} {v:V} {u:G1},Inv (YV CX P w K mg base N qual scope f cdv A outer s H E) [] tE H' s'->RelV v u->Q v H'->CE outer P w H s Q u s':=
  λ{tE H' v u} J rv q=>⟨v,H',J.os,J.bare,J.base,J.hok,rv,q⟩
 cases fl with
 |ret u=>
  obtain⟨v,tE,H',J,rv,q⟩:=hs;exact fin J rv q
 |next=>
  obtain⟨tE,H',J,q⟩:=hs;exact fin (v:=V.non) (u:=hO) J rfl q
 |brk=>
  obtain⟨_,_,_,q⟩:=hs;exact False.elim q
 |cont=>
  obtain⟨_,_,_,q⟩:=hs;exact False.elim q
section
variable {P:R5}{w:N0}{K:G2}{mg:Str->P2 G1}{base:N2}
variable {qual:Str}
theorem Fun.okU {x:Str}{st:F9}{f:G7}{fd:S0}{N ps:G0 Str}{k:G9}{sp:Sp}(F:Fun K x qual st f fd)(S:FnScope N ps (jd st))(len: ∀vs H Q E,sp vs H Q E->vs.length=ps.length)
 (hbody: ∀ (cdv:G1) (A:T0) (outer:G0 Env) (s:G3) (H:Hp) (vs:G0 V) (Q:VK) (E:XK),RoomU k (A.deeper (A8 qual (jd st) s.heap.objs.size f cdv))->sp vs H Q E->
  ∃t,PSs (YV CX0 P w K mg base N qual (jd st) f cdv A outer s H E).nox (jJ st) t/\t {nx:=λ_ H'=>Q .non H',rt:=Q} (start N vs) H):FnOkU P w K mg base CX0 (k+1) f fd ps sp:=by
 obtain⟨oc,od,kV,doc,pm,an,cdv,ct,osl,rfl,lk,hcd⟩:=F.ex;refine FW lk hcd S len λA outer s H vs Q E hr hsp=> ?_
 obtain⟨t,h,q⟩:=hbody cdv A outer s H vs Q E hr hsp;exact⟨t,h.nox,q⟩
theorem Fun.okDU {x:Str}{st:F9}{f:G7}{fd:S0}{N ps:G0 Str}{k:G9}{spd:RDn}(F:Fun K x qual st f fd)(S:FnScope N ps (jd st))(len: ∀ds h Q,spd ds h Q->ds.length=ps.length)
 (tb:TSD)(hbody: ∀ (cdv:G1) (A:T0) (outer:G0 Env) (s:G3) (H:Hp) (E:XK),RoomU k (A.deeper (A8 qual (jd st) s.heap.objs.size f cdv))->QSs (YV CX0 P w K mg base N qual (jd st) f cdv A outer s H E).nox (jJ st) tb)
 (read: ∀ds h Q,spd ds h Q->tb (Yt Q) (jN N ds) h):FnOkU P w K mg base CX0 (k+1) f fd ps (LSp K spd):=by
 refine F.okU S (λvs H Q E h=> ?_) (λcdv A outer s H vs Q E hr h=> ?_)
 ·obtain⟨ds,h,Qd,r,rh,q,p⟩:=h;rw [<-r.length];exact len _ _ _ q
 ·obtain⟨ds,h,Qd,r,rh,q,p⟩:=h;refine⟨_,hbody cdv A outer s H E hr,jN N ds,h,Yt Qd,yD r,rh,read ds h Qd q,λtL h' tE H' k rs' rh' ⟨h2,sb,q'⟩=>p .non .non h2 H' k (rh'.sub sb) rfl q',λd v h' H' k rh' r' ⟨h2,sb,q'⟩=>p d v h2 H' k (rh'.sub sb) r' q',λ_ _ _ _ _ _ _ z=>z.elim,λ_ _ _ _ _ _ _ z=>z.elim⟩
theorem Fun.okJU {x:Str}{st:F9}{f:G7}{fd:S0}{N ps:G0 Str}{k:G9}{spd:RDn}(F:Fun K x qual st f fd)(S:FnScope N ps (jd st))(len: ∀ds h Q,spd ds h Q->ds.length=ps.length)
 (tb:TSD)(hbody: ∀ (cdv:G1) (A:T0) (outer:G0 Env) (s:G3) (H:Hp) (E:XK),RoomU k (A.deeper (A8 qual (jd st) s.heap.objs.size f cdv))->JSs (YV CX0 P w K mg base N qual (jd st) f cdv A outer s H E).nox (jJ st) tb)
 (read: ∀ds h Q,spd ds h Q->tb (Yt Q) (jN N ds) h):FnOkU P w K mg base CX0 (k+1) f fd ps (LSp K spd):=F.okDU S len tb (λcdv A outer s H E hr=>(hbody cdv A outer s H E hr).to) read
end
structure FnOkS (P:R5)(w:N0)(K:G2)(mg:Str->P2 G1)(base:N2)(CX:CXT)(k:G9)(f:G7)(fd:S0)(ps:G0 Str)(sp:G3->Sp):Prop where
 len: ∀s vs H Q E,sp s vs H Q E->vs.length=ps.length
 run: ∀ (A:T0) (outer:G0 Env) (s:G3) (H:Hp) (args:Args) (us:G0 G1) (vs:G0 V) (Q:VK) (E:XK),Room k A->Env0 P w K mg base A outer s H->j0 s fd args (ps.zip us)->Vals vs us->sp s vs H Q E->
  X9 (R6 P w) A (.call (.ref f) args) (CR CX outer P w H s Q E) s
section
variable {X:Cx}{CX:CXT}{k:G9}{f C:G7}{fd:S0}{ps:G0 Str}{sp:Sp}{dvs:G0 V}{ds:G0 G1}{E:XK}{x m:Str}{p pos apos:Pos}{e o:S5}{es:G0 S5}{ta:TE}{t:TA}
theorem NR {pins:G0 (G7×Obj)}{σ:St}{H:Hp}{s:G3}{Q:VK}{us:G0 G1}{vs:G0 V}{sp:G3->Sp}(F:FnOkS X.prog X.w X.K X.mg X.base CX k f fd ps sp)(hr:Room k X.A)(hb:Binds X.K fd ps ds)(hd:Vals dvs ds)(hx:Za CX X E)
 (I:Inv X pins σ H s)(r:Vals vs us)(h:sp s (vs++dvs) H Q E):R1 (R6 X.prog X.w) X.A (call (.ref f) us) (EP X pins σ Q) X.xe s:=by
 have r2:Vals (vs++dvs) (us++ds):=r.append hd;have hl:(us++ds).length=ps.length:=by rw [<-r2.length];exact F.len _ _ _ _ _ h
 refine bQ (cH (F.run X.A X.stack s H ⟨us,[]⟩ (us++ds) (vs++dvs) Q E hr I.env0 (hb s us I.kIn hl) r2 h) λr s' hq=> ?_);cases r with
 |error e=>exact hx pins σ H s e s' I hq
 |ok fl=>
  cases fl with
  |ret u=>exact I.after hq
  |next=>exact False.elim hq
  |brk=>exact False.elim hq
  |cont=>exact False.elim hq
end
theorem FX {CX:CXT}{P:R5}{w:N0}{K:G2}{mg:Str->P2 G1}{f:G7}{name:Str}{params:j5}{body:G0 F9}{dV kV doc pm cdv ct oc:G1}{an od:P2 G7}{osl:T9 (P2 G1)}{N ps:G0 Str}{sp:G3->Sp}(lk:K.lookup f=some ⟨oc,od,.func (Q5 name qual params body scope dV kV doc pm an cdv ct),osl⟩)(hcd:cI K cdv qual=true)(S:FnScope N ps scope)
 (len: ∀s vs H Q E,sp s vs H Q E->vs.length=ps.length)
 (hbody: ∀ (A:T0) (outer:G0 Env) (s:G3) (H:Hp) (vs:G0 V) (Q:VK) (E:XK),Room k (A.deeper (A8 qual scope s.heap.objs.size f cdv))->sp s vs H Q E->
  ∀s1,Inv (ZY CX P w K mg base N qual scope f cdv A outer s H E) [] (start N vs) H s1->R1 (R6 P w) (A.deeper (A8 qual scope s.heap.objs.size f cdv)) (execs body (A8 qual scope s.heap.objs.size f cdv)) (SP (ZY CX P w K mg base N qual scope f cdv A outer s H E) [] {nx:=λ_ H'=>Q .non H',rt:=Q}) (ZY CX P w K mg base N qual scope f cdv A outer s H E).xe s1):
 FnOkS P w K mg base CX (k+1) f (Q5 name qual params body scope dV kV doc pm an cdv ct) ps sp:=by
 refine⟨len,λA outer s H args us vs Q E hr e0 hb r hsp=> ?_⟩;have hl:=len _ _ _ _ _ hsp;have KX:K.In s.heap:=e0.mod.kin.keeps λb o e=>(e0.bs b o e).1
 have lim:s.heap.NoLimit:=e0.mod.nolimit.keeps λb o e=>(e0.bs b o e).1
 have hkind: ∀y∈ps.zip us,scope.names.lookup y.1=some .local\/(scope.names.lookup y.1=some .cell/\((E7 (s.heap.objs.size+1) scope.names []).lookup y.1).isSome=true):=λ⟨n,v⟩ hy=>by
  rcases S.par n (bJ hy).1 with q|q
  ·exact .inl q
  ·exact .inr ⟨q,Y7 _ _ _ (.inl q)⟩
 refine cU hr.depth (KX _ _ lk) rfl S.co S.gen rfl (e8 KX hcd) (hb _ _ _ _ ?_);refine aD S.kind hkind λenv he s1 x=> ?_
 subst he;refine⟨lim.keeps x.toInCall.keep,lH ?_⟩;have ht:=hbody A outer s H vs Q E (hr.deeper _) hsp;have I:Inv (ZY CX P w K mg base N qual scope f cdv A outer s H E) [] (start N vs) H s1:=Yy S hr.hd e0 hl r x;refine S6 (ht s1 I) (λfl s' hs=> ?_) λe s' hs=>hs
 have fin: ∀ {tE:St} {H':Hp} {v:V} {u:G1},Inv (ZY CX P w K mg base N qual scope f cdv A outer s H E) [] tE H' s'->RelV v u->Q v H'->CE outer P w H s Q u s':=
  λ{tE H' v u} J rv q=>⟨v,H',J.os,J.bare,J.base,J.hok,rv,q⟩
 cases fl with
 |ret u=>
  obtain⟨v,tE,H',J,rv,q⟩:=hs;exact fin J rv q
 |next=>
  obtain⟨tE,H',J,q⟩:=hs;exact fin (v:=V.non) (u:=hO) J rfl q
 |brk=>
  obtain⟨_,_,_,q⟩:=hs;exact False.elim q
 |cont=>
  obtain⟨_,_,_,q⟩:=hs;exact False.elim q
section
variable {X:Cx}{k:G9}{f:G7}{fd:S0}{ps:G0 Str}{spd:RDn}{x:Str}{p pos:Pos}{e:S5}{es:G0 S5}{t:TAD}
theorem FY (F:FnOkU X.prog X.w X.K X.mg X.base CX0 k f fd ps (LSp X.K spd))(hr:RoomU k X.A)(hg:Gl X x)(hm:X.mg x=some (.ref f))(hk:A6 X.K (.ref f)=true)(hb:Binds X.K fd ps [])
 (ha:JA X (e::es) t)(hdb:(x==("__debug__" :Str))=false:=by decide)(he:D2 (e::es) X.env=(false,O4 e X.env)::D2 es X.env:=by rfl)(hpl:(E6 pos (D2 es X.env)).any (·.1)=false:=by rfl):
 JE X (.Call (.Name x p) (e::es) [] pos) (dCB spd t):=⟨(DT F hr hg hm hk hb .nil MG ha.to hdb he hpl).imp Ga⟩
end
def GR (P:R5)(w:N0)(K:G2)(mg:Str->P2 G1)(base:N2)(n:G9)(x:Str)(ps:G0 Str)(sp:RDn):Prop:=
 ∃ (g:G7) (gd:S0),FnOkU P w K mg base CX0 n g gd ps (LSp K sp)/\Binds K gd ps []/\A6 K (.ref g)=true/\mg x=some (.ref g)
end L2
namespace L2
open PySem PySem.Spec PyProof.Rows PySem.W PySem.Calls PySem.Builtin PySem.Builtin.ObjectAttr PySem.Builtin.Getset_descriptor
section
variable {prog:R5}{w:N0}{A:T0}{E:G1->G3->Prop}{s:G3}{K:Frag}{x D:G7}
structure ExcK (K:Frag)(D:G7):Prop where
 cls:(clsIn K D).isSome=true
 ga:findIn K (.ref D) "__getattribute__" =some (some (.builtin "BaseException.__getattribute__"))
 hk:findIn K (.ref D) "__getattr__" =some none
 ca:findIn K (.ref D) "__class__" =some (some (.builtin "object.__class__"))
 gt:specialIn K (.builtin "object.__class__") "__get__" =some (some (.builtin "getset_descriptor.__get__"))
 tk:takesIn K (.builtin "object.__class__")=some true
 ob:mroIn K D (.type "object")=some true
 be:mroIn K D (.type "BaseException")=some true
def ExcAt (x D:G7)(h:N2):Prop:= ∃o,h.get? x=some o/\o.cls= .ref D
theorem ExcAt.type {M:gA}{h:N2}(I:ExcAt x D h):Looks M h (rC (.ref x)) (.ref D):=let ⟨o,h1,h2⟩:=I;h2 ▸ (qP h1).andThen .now
theorem XM {tp:G1}{R:nV->G3->Prop}(X:K.In s.heap)(I:ExcAt x D s.heap)(ob:mroIn K D (.type "object")=some true)
 (h:R (.ok (.ret (.ref D))) s):X9 (R6 prog w) A (.call (.builtin "getset_descriptor.__get__") ⟨[.builtin "object.__class__",.ref x,tp],[]⟩) R s:=by
 obtain⟨hp,g,dr,t,os⟩:=s;have known:Looks (R6 prog w) hp (rK (.ref x) (.type "object")) true:=I.type.andThen (looks_mroIn X ob);have passed:Looks (R6 prog w) hp (descrCheckInstance (.builtin "object.__class__") (.ref x)) ():=
  Looks.andThen (a:=(("__class__" :Str),K0 "object")) (kP (congrArg (λp:J9×J9=>(pure (B6 p.2,K0 p.1):Sem (Str×G1))) KF.owner_class)) (known.andThen .now)
 have shown:Looks (R6 prog w) hp (shownTypeOf (.ref x)) (.ref D):=I.type.andThen .now;have asked:=KF.slot_gs.check (R6 prog w) A.in1 (λe s'=>R (.error e) s') ⟨hp,g,dr,t,os⟩ (.builtin "object.__class__") [.ref x,tp] [];refine dG KF.slot_gs.plain KF.entry_gs (asked _ KF.type_class (KF.args_gs _ _ _) ?_);show R1 _ _ (descrGetArgs _ >>= _) _ _ _;rw [dga_obj];refine wpAny_bind (P1 (wpAny_bind (passed.at (P1 ⟨Code.quiet_builtin _ (by decide +kernel),nD KF.entry_class ?_⟩))));exact wpAny_bind (shown.at (P1 h))
theorem DU {M:gA}{h:N2}(X:K.In h)(Z:ExcK K D):Looks M h (find (.ref x) (.ref D) "__class__") (.bind (.builtin "getset_descriptor.__get__") (.builtin "object.__class__")):=by
 have L1:=looks_findIn (M:=M) X Z.ca;have L2:Looks M h (getOf (some (.builtin "object.__class__"))) (some (.builtin "getset_descriptor.__get__")):=looks_specialIn X Z.gt;have L3:=looks_takesIn (M:=M) X Z.tk;exact L1.andThen (L2.andThen ((show Looks M h (dataDescriptor? (some (.builtin "object.__class__")) (some (.builtin "getset_descriptor.__get__"))) (some (.builtin "getset_descriptor.__get__",.builtin "object.__class__")) from L3.andThen .now).andThen (Looks.tag .now)))
theorem NS {M:gA}{h:N2}(X:K.In h)(I:ExcAt x D h)(Z:ExcK K D)(n:G1):Looks M h (mN "BaseException.__getattribute__" ⟨[.ref x,n],[]⟩) ():=by
 have known:Looks M h (rK (.ref x) (.type "BaseException")) true:=I.type.andThen (looks_mroIn X Z.be);have fits:=qQ (.ref x) n;unfold mN;rw [show builtinKind "BaseException.__getattribute__" =some .slot by decide +kernel,show splitId "BaseException.__getattribute__" =some ("BaseException","__getattribute__") by decide +kernel];exact known.andThen (kP fits)
theorem Wc {tk:Tok}{R:nV->G3->Prop}(X:K.In s.heap)(I:ExcAt x D s.heap)(Z:ExcK K D)(h:R (.ok (.ret (.ref D))) s):
 X9 (R6 prog w) A (.call (.builtin "BaseException.__getattribute__") ⟨[.ref x,.str "__class__" tk],[]⟩) R s:=
 dG PySem.F.attr_ValueError.ga.plain qC (fK (NS X I Z _) (wpAny_bind (P1 (wpAny_bind (P1 (wpAny_bind (fK I.type (wpAny_bind (fK (DU X Z) (wpAny_bind (A1 (bQ (XM X I Z.ob (P1 h))))))))))))))
theorem XN {Q:P2 G1->G3->Prop}(X:K.In s.heap)(I:ExcAt x D s.heap)(Z:ExcK K D)(h:Q (some (.ref D)) {s with toks:=s.toks+1}):R1 (R6 prog w) A (getAttr? (.ref x) "__class__") Q E s:=by
 have byReader:=PySem.F.attr_ValueError.ga.bind (.ref x);have asked: ∀ {A':T0} {P:G1->G3->Prop} {E':G1->G3->Prop},P (.ref D) {s with toks:=s.toks+1}->R1 (R6 prog w) A' (oJ (.builtin "BaseException.__getattribute__") (.ref x) (.str "__class__" s.toks)) P E' {s with toks:=s.toks+1}:=λp=>by
  unfold oJ;rw [byReader];exact wpAny_bind (P1 (bQ (Wc (s:= {s with toks:=s.toks+1}) X I Z p)))
 have own: ∀ {A':T0} {P:G1->G3->Prop} {E':G1->G3->Prop},P (.ref D) {s with toks:=s.toks+1}->R1 (R6 prog w) A' (getAttrByItsOwn (.ref x) (.str "__class__" s.toks) (.ref D) (.builtin "BaseException.__getattribute__") false false) P E' {s with toks:=s.toks+1}:=λp=>
  wpAny_bind (fK (s:= {s with toks:=s.toks+1}) (looks_findIn X Z.hk) (wpAny_bind (gO (A1 (asked (P1 p))))))
 exact wpAny_bind (wpAny_mkText (wpAny_bind (gO (A1 (wpAny_bind (fK (s:= {s with toks:=s.toks+1}) I.type (wpAny_bind (fK (s:= {s with toks:=s.toks+1}) (looks_findIn X Z.ga) (own (P1 h))))))))))
theorem DV (Z:ExcK K D):KitX K (.ref x) (.ref D) (ExcAt x D):=by
 have isClass: ∀ {h:N2},K.In h-> ∃o c,h.get? D=some o/\o.data= .cls c:=λX=>by
  obtain⟨c,hc⟩:=J6.mp Z.cls;revert hc;unfold clsIn;split
  ·rename_i ho;exact λ_=>⟨_,_,X _ _ ho,rfl⟩
  ·exact λz=>nomatch z
 refine⟨λ_ _ _ I=>I.type,λM h X _=> ?_,λh tp dd its n sl X htp=> ?_,λX I k=>XN X I Z k⟩
 ·obtain⟨o,c,ho,hd⟩:=isClass X;exact(qP ho).andThen (kP (by rw [hd]))
 ·obtain⟨o,c,ho,hd⟩:=isClass X;cases hq:(aH D==aH tp) with
  |false=>rfl
  |true=>
   cases (beq_iff_eq.mp hq);rw [htp] at ho;cases ho;cases hd
end
end L2
namespace L2
open PySem PySem.Spec PyProof.Rows PySem.SeqAt PySem.W
theorem DW {X:Cx}(hu:X.A.units+64<cLine):MtM X "list.count" (λx vs H Q=> ∃ (a:G7) (y:V) (dy:D) (h:HD) (p:C8) (ps:G0 C8),x= .ref a/\vs= [y]/\RelD X.K H dy y/\RelH X.K h H/\ToP h (.lst a) (.list ps)/\ToP h dy p/\p.canLay0=true/\C0 ps=true/\p.depth<=60/\Q (.int ((ps.countP λz=>N9 z p:G9):D1)) H):=by
 intro pins s σ H x vs v us Q I rx rv h;obtain⟨a,y,dy,h,p,ps,rfl,rfl,rd,rh,t1,t2,c1,c2,c3,q⟩:=h;cases rx;obtain⟨u,rfl,ru⟩:=vU rv;obtain⟨a',ds,ea,ha,ts⟩:=(show ∃a' ds,D.lst a= .lst a'/\h a'=some ds/\ToPs h ds ps from t1);cases ea;obtain⟨ws,hH,_⟩:=rh a ds ha;obtain⟨as,r1⟩:=jO I rh t1 (show RelD X.K H (.lst a) (.ref a) from ⟨rfl,ws,hH⟩) (show RelV (.ref a) (.ref a) from rfl);obtain⟨bs,r2⟩:=jO I rh t2 rd ru;cases r1 with
 |list h1 h2 h3 h4=>
  rename_i o its n cs;have em:=pV ps _ _ c2 h4;have hu':X.A.units+1+min (T6 ps) p.depth<cLine:=by have:=aI (T6 ps) p.depth;omega
  obtain⟨oc,od,odt,osl⟩:=o;simp only at h2 h3;subst h2 h3;refine fB g9 ⟨_,h1,rfl⟩ o9 (oO _ _) (list_countAt a its n od osl u (λy=>N9 (readOf s.heap y) p)) ⟨h1,rJ h4 r2 c2 c1 hu',?_⟩;have e:its.toList.countP (λy=>N9 (readOf s.heap y) p)=ps.countP λz=>N9 z p:=by
   rw [<-em,List.countP_map];rfl
  exact⟨.int _,H,I.tok _,⟨_,by rw [e]⟩,q⟩
def EZ (to te:TED):TED:=λσ h Q=>to σ h λx h1=> ∃a,x= .lst a/\te σ h1 λy h2=> ∃ (p:C8) (ps:G0 C8),ToP h2 (.lst a) (.list ps)/\ToP h2 y p/\p.canLay0=true/\C0 ps=true/\p.depth<=60/\Q (.int ((ps.countP λz=>N9 z p:G9):D1)) h2
section
variable {X:Cx}{o e i:S5}{to te ti:TED}{apos cpos:Pos}
theorem Sa (hu : X.A.units + 64 < cLine) (ho : JE X o to) (he : JE X e te) (hbase : aV o "count" X.env (O4 o X.env) = O4 o X.env := by rfl)
    (hfew : ((E6 cpos (D2 [e] X.env)).all (fun x => !x.1) && (iW cpos (dF [] X.env)).all (fun x => x.1.isSome) && decide ([e].length + ([] : G0 cL).length + (if ([] : G0 cL).isEmpty then 0 else 1) < 30)) = true := by rfl)
    (hline : (apos.endLine == cpos.line) = true := by rfl) (hs : D2 [e] X.env = (false, O4 e X.env) :: D2 [] X.env := by rfl) (hplain : (E6 cpos (D2 [] X.env)).any (·.1) = false := by rfl) :
    JE X (.Call (.Attribute o "count" apos) [e] [] cpos) (EZ to te) :=
  ⟨(ME cF g9 pN (DW hu) ho.to (wn he.to pa_nil hs) hbase hfew hline hs hplain).imp
    fun σ H Q ⟨tF, h, Qd, rs, rh, t, p⟩ => LE.bind rs rh t fun d v h1 H1 k1 rs1 rh1 r1 ⟨a, e, q⟩ => by
      subst e
      obtain ⟨e1, vs, hH⟩ := (show v = .ref a ∧ ∃ vs, H1 a = some (.lst vs) from r1)
      subst e1
      refine ⟨.inl ⟨rfl, vs, SqL.of hH⟩, ?_⟩
      refine LE.bind rs1 rh1 q fun y u h2 H2 k2 rs2 rh2 r2 ⟨pd, ps, t1, t2, c1, c2, c3, q2⟩ => ?_
      exact ⟨a, u, y, h2, pd, ps, rfl, rfl, r2, rh2, t1, t2, c1, c2, c3, p (.int _) _ _ _ (k1.trans k2) rh2 rfl q2⟩⟩
end
def Ah (K:Frag)(c:G1)(ta:TED):TED:=λσ h Q=>ta σ h λx h1=> ∃C b,x= .exc C/\ExcK K C/\kitOne K (.ref C) c=some b/\Q (.bl b) h1
theorem Wz {X:Cx}{v:V}{c:G1}(rc: ∀u,RelV v u->u=c):CallR X (.builtin "isinstance") (λxs H Q=> ∃x C o b,xs= [.ref x,v]/\H x=some (.frz o (.own 0))/\o.cls= .ref C/\ExcK X.K C/\kitOne X.K (.ref C) c=some b/\Q (.bl b) H):=by
 intro pins s σ H xs us Q I r h;obtain⟨x,C,o,b,rfl,hx,hc,Z,e,q⟩:=h;obtain⟨u,w',rfl,rx,rt⟩:=Dg r;cases rx;cases rc _ rt;exact kia_one (DV Z) I.kIn ⟨o,(I.hok x _ hx).1,hc⟩ e (λz=>nomatch z) λtk=>⟨.bl b,H,I.tok tk,rfl,q⟩
section
variable {X:Cx}{a:S5}{ta:TED}{t:Str}{p p2 pos:Pos}
theorem GT {v:V}{c:G1}: ∀σ H Q,LE X.K (Ah X.K c ta) σ H Q->tCB (λxs H Q=> ∃x C o b,xs= [.ref x,v]/\H x=some (.frz o (.own 0))/\o.cls= .ref C/\ExcK X.K C/\kitOne X.K (.ref C) c=some b/\Q (.bl b) H) (Dh (LE X.K ta) (Dh (tC v) Od)) σ H Q:=
 λσ H Q ⟨tF,h,Qd,rs,rh,t,p⟩=>LE.bind rs rh t λd u h1 H1 k1 rs1 rh1 r1 ⟨C,b,e,Z,k,q⟩=>by
  subst e;obtain⟨x,o,vs,e1,hx,hc,_⟩:=(show ∃x o vs,u= .ref x/\H1 x=some (.frz o (.own 0))/\o.cls= .ref C/\o.data= .fields vs from r1);subst e1;exact⟨x,C,o,b,rfl,hx,hc,Z,k,p (.bl b) _ _ _ k1 rh1 rfl q⟩
theorem XO {KK:Frag}{D:G7}(hg:Gl X "isinstance")(hm:X.mg "isinstance" =none)(hg2:Gl X t)(hm2:X.mg t=some (.ref D))(ha:JE X a ta)(hd:(t==("__debug__" :Str))=false:=by decide)
 (h1:D2 [a,.Name t p2] X.env=(false,O4 a X.env)::D2 [.Name t p2] X.env:=by rfl)(h2:(E6 pos (D2 [.Name t p2] X.env)).any (·.1)=false:=by rfl)(hK:X.K=KK:=by rfl):
 JE X (.Call (.Name "isinstance" p) [a,.Name t p2] [] pos) (Ah KK (.ref D) ta):=
 hK ▸ ⟨(JP (Wz (v:= .ref D) λu r=>r) hg hm Y9 (wn ha.to (wn (Ql (v:= .ref D) hg2 hm2 rfl hd) pa_nil (by rfl)) h1) (by decide) (by decide) h1 h2).imp GT⟩
theorem Sb {KK:Frag}{T:J9}(hg:Gl X "isinstance")(hm:X.mg "isinstance" =none)(hg2:Gl X t)(hm2:X.mg t=none)(hv:E4 t=some (.type T))(ha:JE X a ta)(hn:t≠ "__name__" :=by decide)(hd:(t==("__debug__" :Str))=false:=by decide)
 (h1:D2 [a,.Name t p2] X.env=(false,O4 a X.env)::D2 [.Name t p2] X.env:=by rfl)(h2:(E6 pos (D2 [.Name t p2] X.env)).any (·.1)=false:=by rfl)(hK:X.K=KK:=by rfl):
 JE X (.Call (.Name "isinstance" p) [a,.Name t p2] [] pos) (Ah KK (.type T) ta):=
 hK ▸ ⟨(JP (Wz (v:= .ty T) λu r=>r) hg hm Y9 (wn ha.to (wn (Qm (v:= .ty T) hg2 hm2 hv rfl hn hd) pa_nil (by rfl)) h1) (by decide) (by decide) h1 h2).imp GT⟩
end
end L2
namespace L2
open PySem PySem.Spec PyProof.Rows PySem.W
section
variable {X:Cx}{σ:St}{H:Hp}{s:G3}{x C:G7}
theorem Inv.relaid {B h':N2}{T:G7}{a0:G1}(I:Inv X [] σ H s)(Z:Rz0 X)(hpn:X.pn= [])(hx:H x=none/\X.s₀.heap.get? x=none)(hT:H T=none/\X.s₀.heap.get? T=none)
 (hB:B=hideAll s.heap (x::T::frs (X.env::X.outer)))(fl:Heap.FlyingW B (X.env::X.outer) x (.ref C) a0 h')(up:s.heap.UpToSlots h'):Inv X [] σ H {s with heap:=h'}/\Fly X.s₀.heap H h' x C:=by
 subst hB;have stk:s.heap.FunFrames X.base (X.env::X.outer):=Z.stk ▸ I.stack;obtain⟨st,_,_,oe',vs',T',oT',ts',he',⟨hc',h0'⟩,hd',h1',hTB,hTx',hT',hTd',h3'⟩:=fl;obtain⟨r1,r2,r3⟩:=GN (ys:= [x,T]) (h':=h') I Z (λy hy=>by
  rcases P6.mp hy with rfl|hy
  ·exact hx
  ·rcases P6.mp hy with rfl|hy
   ·exact hT
   ·cases hy) (λb o e n1 n2=>st b o (hideAll_get _ e λz=>by
    rcases P6.mp z with rfl|z
    ·exact n1 (.head _)
    ·rcases P6.mp z with rfl|z
     ·exact n1 (.tail _ (.head _))
     ·exact n2 z)) λb o e hb=>by
  obtain⟨_,o2,e2,nd⟩:=stk.mem hb;rw [e] at e2;cases e2;exact up b o e nd
 obtain⟨q1,q2⟩:=r3 T' oT' ts' hT' hTd' λo e=>by
  by_cases z:T'∈frs (X.env::X.outer)
  ·exact .inr z
  ·refine .inl ?_
   by_cases z1:T'=x
   ·rw [z1];exact .head _
   ·by_cases z2:T'=T
    ·rw [z2];exact .tail _ (.head _)
    ·rw [hideAll_get _ e (by simp only [P6,sQ];exact⟨z1,z2,z⟩)] at hTB;cases hTB
 have cellK: ∀c v,s.heap.IsCell c v->h'.IsCell c v:=λc v ⟨o,ho,hd⟩=>by
  obtain⟨sl,e⟩:=up c o ho λws q=>by rw [hd] at q;cases q
  exact⟨_,e,hd⟩
 refine⟨⟨I.ok,I.os,I.bare,by rw [Z.ex];exact r1,?_,λy c e=> ?_,I.free,I.freeC,λp hp=> ?_,r2,I.len⟩,⟨⟨oe',vs',a0,T',oT',ts',he',hc',hd',h0',h1',hTx',hT',hTd',h3',q1,q2⟩,hx.1,hx.2⟩⟩
 ·obtain⟨m,hn,hl⟩:=I.loc;refine⟨m,up.ns hn,λi y v e1 e2 e3=> ?_⟩;obtain⟨u,r,l⟩:=hl i y v e1 e2 e3;exact⟨u,r,l.imp id λ⟨k,c,e,z⟩=>⟨k,c,e,cellK c _ z⟩⟩
 ·obtain⟨v,z⟩:=I.cell y c e;exact⟨v,cellK c v z⟩
 ·rw [hpn] at hp;cases hp
theorem Inv.track {oe:Obj}{vs:T9 G1}(I:Inv X [] σ H s)(hpn:X.pn= [])(hn:H x=none)(h0:X.s₀.heap.get? x=none)(hx:s.heap.get? x=some oe)(hd:oe.data= .fields vs):Inv X [] σ (upd H x (.frz oe (.own 0))) s:=by
 have ne: ∀b u,H b=some u->b≠x:=λb u e z=>by rw [z,hn] at e;cases e
 have ne0: ∀b o,X.s₀.heap.get? b=some o->b≠x:=λb o e z=>by rw [z,h0] at e;cases e
 have cn: ∀y c,X.env.cells.lookup y=some c->c≠x:=λy c e z=>by
  obtain⟨v,o,ho,hc⟩:=I.cell y c e;rw [z,hx] at ho;cases ho;rw [hd] at hc;cases hc
 refine⟨I.ok,I.os,I.bare,⟨I.base.keep,I.base.slot,λb o e n hx=> ?_,I.base.there,λb xs e=> ?_,λb o u e=> ?_,λb ps e=> ?_⟩,I.loc,I.cell,?_,λy c e=> ?_,λp hp=> ?_,λa o e=> ?_,I.len⟩
 ·rw [jg (ne0 b o e)];exact I.base.free b o e n hx
 ·have:=I.base.tups b xs e;rw [jg (ne b _ this)];exact this
 ·have:=I.base.frzs b o u e;rw [jg (ne b _ this)];exact this
 ·obtain⟨more,this⟩:=I.base.tbls b ps e;exact⟨more,by rw [jg (ne b _ this)];exact this⟩
 ·rw [jg (λz=> ?_)]
  ·exact I.free
  ·obtain⟨m,⟨o,es,ep,e,d,_⟩,_⟩:=I.loc;rw [z,hx] at e;cases e;rw [hd] at d;cases d
 ·rw [jg (cn y c e)];exact I.freeC y c e
 ·rw [hpn] at hp;cases hp
 ·by_cases z:a=x
  ·subst z;rw [ji] at e;cases e;exact⟨hx,⟨oe,hx⟩⟩
  ·rw [jg z] at e;exact(I.hok a o e).stay (λ_ _ _ q=>q) (λb q=>by rw [jg (ne b _ q)];exact q) λb xs q=>by rw [jg (ne b _ q)];exact q
theorem GV {M:gA}{A:T0}{E:G1->G3->Prop}{i:G9}{y:Str}{v:V}{Q:Unit->G3->Prop}(I:Inv X [] σ H s)(hpn:X.pn= [])(hN:X.N.Nodup)(hi:X.N[i]? =some y)(hk:X.env.scope.names.lookup y=some .local)(hv:σ[i]? =some (some v))
 (h: ∀s',Inv X [] (σ.set i none) H s'->Q () s'):R1 M A (unbindName X.env y) Q E s:=by
 obtain⟨m,hn,hl⟩:=id I.loc;have hcls:(X.env.scope.kind== .class||(X.env.scope.kind== .module&&X.env.locals !=X.env.globals))=false:=by rw [I.ok.kind];rfl
 have uE:i<σ.length:=by rw [I.len];exact(D0.mp hi).1
 obtain⟨u,r,l⟩:=hl i y v hi hv (.inl hk);have hm:m y=some u:=by
  rcases l with ⟨_,e⟩|⟨k,_⟩
  ·exact e
  ·rcases k with k|k<;>(have k':X.env.scope.names.lookup y=_:=k;rw [hk] at k';cases k')
 refine wpAny_unbindName_local hk hn hm hcls λh' u' hn' hs=> ?_
 obtain⟨oL,_,_,hoL,_⟩:=id hn;have cne:=I.cne;refine h _ ⟨I.ok,I.os,I.bare,⟨λb o e n hb hx=> ?_,λb o e n hb hx=> ?_,I.base.free,λb o e hx=> ?_,I.base.tups,I.base.frzs,I.base.tbls⟩,⟨_,hn',λj z v' e1 e2 e3=> ?_⟩,λz c e=> ?_,I.free,I.freeC,λp hp=> ?_,λb ob e=> ?_,by simpa using I.len⟩
 ·exact(hs.2 b (T5 (R3 (D4 e) I.ok.above))).trans (I.base.keep b o e n hb hx)
 ·obtain⟨sl,e1⟩:=I.base.slot b o e n hb hx;exact⟨sl,(hs.2 b (T5 (R3 (D4 e) I.ok.above))).trans e1⟩
 ·obtain⟨o',e1⟩:=I.base.there b o e hx;exact⟨o',(hs.2 b (T5 (R3 (D4 e) I.ok.above))).trans e1⟩
 ·by_cases hj:j=i
  ·subst hj;rw [U8 uE] at e2;cases e2
  ·rw [A3 (E5 hj)] at e2;obtain⟨u2,r',q⟩:=hl j z v' e1 e2 e3;refine⟨u2,r',?_⟩;rcases q with ⟨k,e⟩|⟨k,c,e,q⟩
   ·refine .inl ⟨k,?_⟩;have:z≠y:=λe=>hj (WH hN e1 (e ▸ hi))
    simp [this,e]
   ·exact .inr ⟨k,c,e,q.sameBut hs (cne z c e)⟩
 ·obtain⟨w',q⟩:=I.cell z c e;exact⟨w',q.sameBut hs (cne z c e)⟩
 ·rw [hpn] at hp;cases hp
 ·refine(I.hok b ob e).stay (λc w' hc q=>(hs.2 c ?_).trans q) (λ_ q=>q) λ_ _ q=>q
  rintro rfl;rcases hc with rfl|hc
  ·rw [I.free] at e;cases e
  ·rw [I.free] at hc;cases hc
end
def cxH (X:Cx)(x:G7):Cx:= {X with A:=X.A.mark (some (.ref x)),calm:=false,xe:=λ_ _=>False}
section
variable {X:Cx}{pins:G0 (G7×Obj)}{σ:St}{H:Hp}{s:G3}{x C:G7}
theorem Inv.suite (I:Inv X pins σ H s)(x:G7):Inv (cxH X x) pins σ H s:=
 ⟨⟨I.ok.mod,I.ok.kind,I.ok.glob,I.ok.blt,I.ok.above,I.ok.inj,I.ok.has,I.ok.cab,λz=>(by cases z),I.ok.frames,I.ok.stk,I.ok.exf,I.ok.bs,I.ok.bsz,I.ok.noex,I.ok.exfs,I.ok.funs,I.ok.frf⟩,I.os,I.bare,I.base,I.loc,I.cell,I.free,I.freeC,I.pin,I.hok,I.len⟩
theorem Inv.unsuite (I:Inv (cxH X x) pins σ H s)(ok:X.Ok):Inv X pins σ H s:=⟨ok,I.os,I.bare,I.base,I.loc,I.cell,I.free,I.freeC,I.pin,I.hok,I.len⟩
theorem DY {E:G1->G3->Prop}{n:Str}{i:G9}{PE:G7}{b0:F9}{suite:G0 F9}{t:TS}{D:Ends}{np pos:Pos}(Z:Rz0 X)(hpn:X.pn= [])(hN:X.N.Nodup)(hi:X.N[i]? =some n)(hl:X.env.scope.names.lookup n=some .local)
 (hg:Gl X "PowerError")(hm:X.mg "PowerError" =some (.ref PE))(hex:exmOne X.K (.ref C) (.ref PE)=some true)(I:Inv X [] σ H s)(fl:Fly X.s₀.heap H s.heap x C)(hs:PSs (cxH X x) (b0::suite) t)
 (ht: ∀oe vs,oe.cls= .ref C->oe.data= .fields vs->t {nx:=λ_ _=>False,rt:=D.rt} (σ.set i (some (.ref x))) (upd H x (.frz oe (.own 0)))):
 R1 (R6 X.prog X.w) X.A (noteFrame (.ref x) X.env) (λ_ tN=>R1 (R6 X.prog X.w) X.A (setFlight (.ref x) none) (λ_ tX=>R1 (R6 X.prog X.w) X.A (handleBy (.ref x) X.env [.ExceptHandler (some (.Name "PowerError" np)) (some n) (b0::suite) pos]) (SP X [] D) E tX) E tN) E s:=by
 obtain⟨oe0,vs0,a0,T,oT,ts,he,hc,hd,h0,h1,hTx,hT,hTd,h3,hHT,h0T⟩:=fl.ex;have hfr:X.A.frames=some (X.env::X.outer):=by rw [I.ok.frames,Z.stk]
 have stk:s.heap.FunFrames X.base (X.env::X.outer):=Z.stk ▸ I.stack;have ff:s.heap.FunFrames (hideAll s.heap (x::T::frs (X.env::X.outer))) (X.env::X.outer):=jW stk λa ha=>hideAll_none _ (.tail _ (.tail _ ha))
 refine wpAny_looks_onW (base:=hideAll s.heap (x::T::frs (X.env::X.outer))) (cls:= .ref C) (a0:=a0) hfr Z.fr
  ⟨λb o e=>of_hideAll _ e,hideAll_none _ (.head _),ff,oe0,vs0,T,oT,ts,he,⟨hc,h0⟩,hd,h1,hideAll_none _ (.tail _ (.head _)),hTx,hT,hTd,h3⟩ λuB xF uW=> ?_
 refine wpAny_landsW xF λuG u0 u3=> ?_
 obtain⟨I5,F5⟩:=I.relaid Z hpn ⟨fl.nx,fl.n0⟩ ⟨hHT,h0T⟩ rfl u0 (uW.trans u3);refine wpAny_handleBy_cons (codeAny_handlers_test (vS (X:=cxH X x) (I5.suite x) hg hm ?_)) (by intro q;cases q);have at5:ExcAt x C uG:=let ⟨oe,_,_,_,_,_,e,c,_⟩:=F5.ex;⟨oe,e,c⟩;refine(exm_one (M:=R6 X.prog X.w) (h:=uG) I5.kIn at5.type hex).here ?_;refine codeAny_handlers_suite_as ?_;refine lands_againW u0 λh₆ xG xH=> ?_
 obtain⟨I6,F6⟩:=I.relaid Z hpn ⟨fl.nx,fl.n0⟩ ⟨hHT,h0T⟩ rfl xG (uW.trans (u3.trans xH));obtain⟨oe,vs,_,_,_,_,e6,c6,d6,_⟩:=F6.ex;have I7:=I6.track hpn F6.nx F6.n0 e6 d6;refine wG I7 hN hi (.inl hl) (v:= .ref x) rfl (λs8 I8=> ?_) (.inr hl);refine S6 (hs [] s8 _ _ _ (I8.suite x) (ht oe vs c6 d6)) (λf s9 q=> ?_) λ_ _ z=>z.elim
 cases f with
 |next=>obtain⟨_,_,_,z⟩:=q;exact z.elim
 |brk=>obtain⟨_,_,_,z⟩:=q;exact z.elim
 |cont=>obtain⟨_,_,_,z⟩:=q;exact z.elim
 |ret u=>
  obtain⟨v,tE,H3,J,rv,qq⟩:=q;have J1:Inv X [] tE H3 s9:=J.unsuite I.ok;refine wpAny_bind (iU (wG J1 hN hi (.inl hl) (v:= .non) rfl (λs10 J2=> ?_) (.inr hl)));unfold unbindBehindTheSuite;have hlt:i<tE.length:=by rw [J1.len];exact(D0.mp hi).1
  exact kO (GV J2 hpn hN hi hl (v:= .non) (by rw [U8 hlt]) λs11 J3=>⟨v,_,H3,J3,rv,qq⟩)
end
def CW:G0 (Str×Str):= [("NoTable","table"),("NoPlace","place"),("NoNumber","number"),("NoOrder","order"),("NoSet","set"),("NoWalk","walk"),("NoLengths","lengths"),("NoWay","way"),("Apart","apart"),("NoRow","row")]
def CN:G0 Str:= ["NoTable","NoPlace","NoNumber","NoOrder","NoSet","NoWalk","NoLengths","NoWay","Apart","NoRow"]
def vA (c:Str):Str:=(CW.lookup c).getD "other"
def US (P:R5)(w:N0)(K:G2)(mg:Str->P2 G1)(base:N2)(n:G9):G3->Sp:=λs vs H Q _=>
 ∃ (f:G7) (o:Obj) (qual:Str) (pm cv ctv:G1) (cl:G0 (Str×G7)) (q:Str) (N:G0 Str) (σ:St) (scope:O0) (body:S5) (h:HD) (Qd:KD),vs= [.ref f]/\s.heap.get? f=some o/\o.data= .func (kla_fn "<lambda>" qual Wb body scope cl pm cv ctv)/\CodeF H cv q/\H f=none/\LamOk scope/\Cap N σ scope cl s.heap H/\RelH K h H/\RN K H Qd Q/\
 ((∃QT:VK,(∀ (A':T0) (outer':G0 Env) (s':G3) (E':XK),Room n (A'.deeper (envX q scope s'.heap.objs.size f cv cl))-> ∃t,PE (cxL CX0 P w K mg base N q scope f cv cl A' outer' s' H E') body t/\t σ H QT)/\
  ∀v H',QT v H'-> ∃d h',Kept H H'/\RelH K h' H'/\RelD K H' d v/\Qd (.tup [.str "told",d]) h')\/
  (∃RT:G7->Hp->Prop,(∀ (A':T0) (outer':G0 Env) (s':G3),Room n (A'.deeper (envX q scope s'.heap.objs.size f cv cl))-> ∀pins s2,Inv (cxL (CXR P w) P w K mg base N q scope f cv cl A' outer' s' H (λc _ H'=> ∃C,c= .ref C/\RT C H')) pins σ H s2->
   R1 (R6 P w) (A'.deeper (envX q scope s'.heap.objs.size f cv cl)) (O4 body (envX q scope s'.heap.objs.size f cv cl)) (λ_ _=>False) (cxL (CXR P w) P w K mg base N q scope f cv cl A' outer' s' H (λc _ H'=> ∃C,c= .ref C/\RT C H')).xe s2)/\
   ∀C H',RT C H'-> ∃c h',mg c=some (.ref C)/\c∈CN/\Kept H H'/\RelH K h' H'/\Qd (.tup [.str (vA c)]) h'))
abbrev N1:G0 Str:= ["_law_call","_law_found","_law_e","_law_word"]
theorem RoomU.mark {k:G9}{A:T0}{v:P2 G1}(r:RoomU k A):RoomU k (A.mark v):=⟨r.dp,r.un,r.gd⟩
theorem GW {M:gA}{f:G7}(h:N2)(X: ∃o fd,h.get? f=some o/\o.data= .func fd): ∃k,(k=Keeper.frame\/k=Keeper.machine\/k=Keeper.boundFrame)/\Looks M h (keeperOf (.ref f)) k:=by
 obtain⟨o,fd,e,d⟩:=X;refine⟨.frame,.inl rfl,(qP (part:=none) e).andThen ?_⟩;rw [d];exact .now
theorem NT {P:R5}{w:N0}{K:G2}{mg:Str->P2 G1}{base:N2}{st:F9}{fs:G7}{fds:S0}{n:G9}{pe:G7}{p1 p2 p3 p4 p5 p6 p7 p8 p9 p10 p11:Pos}{j k:G9}{b0:F9}{suite:G0 F9}
 (F:Fun K "_law_said" "_law_said" st fs fds)(S:FnScope N1 ["_law_call"] (jd st))
 (hb:jJ st= [.Try [.Assign [.Name "_law_found" p1] (.Call (.Name "_law_call" p2) [] [] p3) p4] [.ExceptHandler (some (.Name "PowerError" p5)) (some "_law_e") (b0::suite) p6] [] [] p7,.Return (some (.Tuple [.Constant (.str "told") j p8,.Name "_law_found" p9] k p10)) p11])
 (l0:(jd st).names.lookup ("_law_call" :Str)=some .local)(l1:(jd st).names.lookup ("_law_found" :Str)=some .local)(l2:(jd st).names.lookup ("_law_e" :Str)=some .local)(lp:(jd st).names.lookup ("PowerError" :Str)=some .globalImplicit)
 (hm:mg "PowerError" =some (.ref pe))(hex: ∀c∈CN,∀C,mg c=some (.ref C)->exmOne K (.ref C) (.ref pe)=some true)(tS:TSD)
 (hsuite: ∀ (cdv:G1) (A:T0) (outer:G0 Env) (s:G3) (H:Hp) (E:XK) (x:G7),RoomU n ((A.deeper (A8 "_law_said" (jd st) s.heap.objs.size fs cdv)).mark (some (.ref x)))->JSs (cxH (ZY CX0 P w K mg base N1 "_law_said" (jd st) fs cdv A outer s H E) x) (b0::suite) tS)
 (hread: ∀c∈CN,∀ (C:G7) (h:HD) (Qd:KD),mg c=some (.ref C)->Qd (.tup [.str (vA c)]) h->tS {nx:=λ_ _=>False,rt:=λd h'=> ∃h2,Sub h2 h'/\Qd d h2} [none,none,some (.exc C),none] h):
 FnOkS P w K mg base CX0 (n+2) fs fds ["_law_call"] (US P w K mg base n):=by
 obtain⟨oc,od,kV,doc,pm,an,cdv,ct,osl,rfl,lk,hcd⟩:=F.ex;refine FX lk hcd S (λs vs H Q E h=> ?_) λA outer s H vs Q E hr hsp s1 I=> ?_
 ·obtain⟨f,_,_,_,_,_,_,_,_,_,_,_,_,_,rfl,_⟩:=h;rfl
 obtain⟨f,o,qual,pmv,cv,ctv,cl,q,N,σ,scope,body,h,Qd,rfl,ho,hod,hcf,hHf,L,C,rh,post,alt⟩:=hsp;have un:=I.base;obtain⟨sl,ho1⟩:=un.any ho hHf (by intro z;cases z);have C1:Cap N σ scope cl s1.heap H:=C.step un;have hr0:Room (n+1) (A.deeper (A8 "_law_said" (jd st) s.heap.objs.size fs cdv)):=hr;rw [hb];have callee: ∀ {CX:CXT} {E':XK} {QT:VK} {t:TE} {Q2:G1->G3->Prop} {EE:G1->G3->Prop},PE (cxL CX P w K mg base N q scope f cv cl (A.deeper (A8 "_law_said" (jd st) s.heap.objs.size fs cdv)) (A8 "_law_said" (jd st) s.heap.objs.size fs cdv::outer) s1 H E') body t->t σ H QT->
  (∀r s2,CR CX (A8 "_law_said" (jd st) s.heap.objs.size fs cdv::outer) P w H s1 QT E' r s2->match r with| .ok (.ret v)=>Q2 v s2| .ok _=>False| .error e=>EE e s2)->
  R1 (R6 P w) (A.deeper (A8 "_law_said" (jd st) s.heap.objs.size fs cdv)) (O4 (.Call (.Name "_law_call" p2) [] [] p3) (A8 "_law_said" (jd st) s.heap.objs.size fs cdv)) Q2 EE s1:=by
  intro CX E' QT t Q2 EE hbt ht hk;refine V2 ?_;obtain⟨m,hn,hl⟩:=I.loc;obtain⟨u,ru,l⟩:=hl 0 "_law_call" (.ref f) rfl rfl (.inl l0);cases ru;have hmm:m "_law_call" =some (.ref f):=by
   rcases l with ⟨_,e⟩|⟨kk,_⟩
   ·exact e
   ·rcases kk with kk|kk<;>(have k':(jd st).names.lookup ("_law_call" :Str)=_:=kk;rw [l0] at k';cases k')
  refine kQ (iT S.kind l0 hn hmm ?_) (by decide);refine callWith_of (P:=λh=> ∃o fd,h.get? f=some o/\o.data= .func fd) rfl GW (evalArgs_nil3 ⟨⟨_,_,ho1,hod⟩,?_⟩);exact bQ (cH (NM (CX:=CX) (k:=n) L hr0 I.env0 C1 ho1 hod hcf hbt ht) hk)
 refine V0 (wpAny_Try_except ?_);refine V0 (lB ?_ rfl);rcases alt with ⟨QT,hT,hQ⟩|⟨RT,hR,hQ⟩
 ·obtain⟨t,hbt,ht⟩:=hT (A.deeper (A8 "_law_said" (jd st) s.heap.objs.size fs cdv)) (A8 "_law_said" (jd st) s.heap.objs.size fs cdv::outer) s1 E0 (hr0.deeper _);refine callee hbt ht λr s2 hq=> ?_
  cases r with
  |error e=>exact False.elim hq
  |ok fl=>
   cases fl with
   |next=>exact False.elim hq
   |brk=>exact False.elim hq
   |cont=>exact False.elim hq
   |ret u=>
    obtain⟨v,H',I2,rv,qt⟩:=I.after hq;obtain⟨d,h',kp,rh',rd,qd⟩:=hQ v H' qt;refine wG I2 (i:=1) (x:= "_law_found") S.nd rfl (.inl l1) rv (λs3 I3=> ?_) (.inr l1);refine bG (bG ?_);have hret:JSs (ZY CX0 P w K mg base N1 "_law_said" (jd st) fs cdv A outer s H E) [.Return (some (.Tuple [.Constant (.str "told") j p8,.Name "_law_found" p9] k p10)) p11] (UI (By (jZ (dC (.str "told")) (jZ (Xz 1) Zl)))):=
     jx (zl (jR (jac wF (jac (jv 1 rfl (.inl l1)) zc))))
    exact hret.to [] s3 _ H' _ I3 ⟨[none,some d,none,none],h',{nx:=λ_ _=>False,rt:=Qd},⟨rfl,λi d' e=>by
     match i,e with
     |0,e=>cases e
     |1,e=>cases e;exact⟨v,rfl,rd⟩
     |2,e=>cases e
     |3,e=>cases e
     |i+4,e=>simp at e⟩,rh',⟨_,rfl,(by show 2<=sizeLine;decide),qd⟩,λ_ _ _ _ _ _ _ z=>z.elim,jy post kp,λ_ _ _ _ _ _ _ z=>z.elim,λ_ _ _ _ _ _ _ z=>z.elim⟩
 ·refine callee (CX:=CXR P w) (E':=λc _ H'=> ∃C,c= .ref C/\RT C H') (QT:=λ_ _=>False) (t:=λtE H' _=>tE=σ/\H'=H)
   (λpins s2 tE H' Q' I' ⟨e1,e2⟩=> ?_) ⟨rfl,rfl⟩ λr s2 hq=> ?_
  ·subst e1;subst e2;exact S6 (hR _ _ s1 (hr0.deeper _) pins s2 I') (λ_ _ z=>z.elim) λ_ _ z=>z
  cases r with
  |ok fl=>
   cases fl with
   |next=>exact False.elim hq
   |brk=>exact False.elim hq
   |cont=>exact False.elim hq
   |ret u=>obtain⟨_,_,_,_,_,_,_,z⟩:=hq;exact z.elim
  |error e=>
   obtain⟨x,C',H',rfl,os,bare,un2,hok,fl,C2,eC,rt⟩:=hq;cases eC;obtain⟨c,h',hmc,hcn,kp,rh',qd⟩:=hQ C' H' rt;have I2:=I.call' (ch:= []) os un2 hok bare (λb z=>absurd z (by simp));have f0: ∀b,s1.heap.get? b=none->s.heap.get? b=none:=λb nb=>by
    cases qq:s.heap.get? b with
    |none=>rfl
    |some o=>obtain⟨o',e⟩:=I.base.there b o qq (by intro z;cases z);rw [nb] at e;cases e
   have fl':Fly s.heap H' s2.heap x C':=by
    obtain⟨⟨oe,vs,a0,T,oT,ts,a1,a2,a3,a4,a5,a6,a7,a8,a9,a10,a11⟩,nx,n0⟩:=fl;exact⟨⟨oe,vs,a0,T,oT,ts,a1,a2,a3,a4,a5,a6,a7,a8,a9,a10,f0 _ a11⟩,nx,f0 _ n0⟩
   have hsu:=hsuite cdv A outer s H E x (RoomU.mark ((hr0.mono (qN n)).u));refine S6 (DY (X:=ZY CX0 P w K mg base N1 "_law_said" (jd st) fs cdv A outer s H E) (σ:=start N1 [V.ref f]) (i:=2) (n:= "_law_e") (C:=C') (t:=LS K tS) (D:= {nx:=λ_ _=>False,rt:=Q}) ⟨rfl,rfl,rfl⟩ rfl S.nd rfl l2 lp hm (hex c hcn C' hmc) I2 fl' hsu.to λoe vs hc hd=> ?_) (λ_ s3 h3=>S6 h3 (λ_ s4 h4=>S6 h4 (λfl s5 h5=> ?_) λ_ _ z=>z) λ_ _ z=>z) λ_ _ z=>z
   ·refine⟨[none,none,some (.exc C'),none],h',_,⟨rfl,λi d' e=> ?_⟩,rh'.new fl'.nx,hread c hcn C' h' Qd hmc qd,λ_ _ _ _ _ _ _ z=>z.elim,λd v h2 H2 k2 rh2 rd ⟨h3,sb,q3⟩=>post d v h3 H2 ((kp.trans (.new fl'.nx)).trans k2) (rh2.sub sb) rd q3,λ_ _ _ _ _ _ _ z=>z.elim,λ_ _ _ _ _ _ _ z=>z.elim⟩
    match i,e with
    |0,e=>cases e
    |1,e=>cases e
    |3,e=>cases e
    |i+4,e=>simp at e
    |2,e=>cases e;exact⟨.ref x,rfl,x,oe,vs,rfl,ji,hc,hd⟩
   ·cases fl with
    |next=>obtain⟨_,_,_,z⟩:=h5;exact z.elim
    |brk=>obtain⟨_,_,_,z⟩:=h5;exact z.elim
    |cont=>obtain⟨_,_,_,z⟩:=h5;exact z.elim
    |ret u=>exact h5
def Ai (tT:TED)(tR:TXD):TED:=λσ h Q=>tT σ h (λd h'=>Q (.tup [.str "told",d]) h')\/tR σ h (λc h'=>c∈CN/\Q (.tup [.str (vA c)]) h')
def dNo:TED:=λ_ _ _=>False
theorem jno {X:Cx}{e:S5}:JE X e dNo:=⟨λ_ _ _ _ _ _ ⟨_,_,_,_,_,z,_⟩=>z.elim⟩
def AZ (sc:O0):M6:=sc.kind== .function&& !sc.isCoroutine&& !sc.isGenerator&&sc.names.all λy=>y.2 != .cell&&y.2 != .local
theorem FZ {sc:O0}(hk:sc.kind= .function)(h:AZ sc=true):LamOk sc:=by
 unfold AZ at h;simp only [B1,Bool.not_eq_true',T3,bne_iff_ne,ne_eq] at h;exact⟨hk,h.1.1.2,h.1.2,λy hy=>h.2 y hy⟩
def La (sc sc':O0):M6:=sc.names.all λy=>y.2 != .free||(sc'.names.lookup y.1==some .cell||sc'.names.lookup y.1==some .free)
theorem NU {sc:O0}{env:Env}(h:La sc env.scope=true):GP sc env:=λn hn=>by
 have:=T3.mp h _ hn;simp only [lU,Bool.false_or,bL,beq_iff_eq] at this;exact this
theorem Aj {X:Cx}{n:G9}{fs:G7}{fds:S0}{scope:O0}{body:S5}{lpos p pos:Pos}{tT:TED}{tR:TXD}{c P:G7}
 (F:FnOkS X.prog X.w X.K X.mg X.base CX0 (n+2) fs fds ["_law_call"] (US X.prog X.w X.K X.mg X.base n))(hr:Room (n+2) X.A)(hg:Gl X "_law_said")(hm:X.mg "_law_said" =some (.ref fs))(hk:keepIn X.K (.ref fs)=true)(hb:Binds X.K fds ["_law_call"] [])
 (B:Bm X.mg X.base)(hcode:X.env.code= .ref c)(hc:codeHdIn X.K c P=true)(hTK:TabK X.K P)(L:LamOk scope)(hfr:GP scope X.env)
 (hT: ∀ (q:Str) (cv:G1) (cl:G0 (Str×G7)) (f:G7) (A:T0) (outer:G0 Env) (s:G3) (H:Hp) (E:XK),Room n (A.deeper (envX q scope s.heap.objs.size f cv cl))->JE (cxL CX0 X.prog X.w X.K X.mg X.base X.N q scope f cv cl A outer s H E) body tT)
 (hR: ∀ (q:Str) (cv:G1) (cl:G0 (Str×G7)) (f:G7) (A:T0) (outer:G0 Env) (s:G3) (H:Hp) (E:XK),Room n (A.deeper (envX q scope s.heap.objs.size f cv cl))->JXE (cxL (CXR X.prog X.w) X.prog X.w X.K X.mg X.base X.N q scope f cv cl A outer s H E) body tR)
 (he:D2 [Expr.Lambda Wb body scope lpos] X.env=(false,O4 (.Lambda Wb body scope lpos) X.env)::D2 [] X.env:=by rfl)(hpl:(E6 pos (D2 [] X.env)).any (·.1)=false:=by rfl):
 JE X (.Call (.Name "_law_said" p) [.Lambda Wb body scope lpos] [] pos) (Ai tT tR):=⟨λpins s σ H Q I ⟨tF,h,Qd,rs,rh,alt,post⟩=>by
 refine V2 (vS I hg hm ?_ (by decide));refine eU (h₀:=X.base) I.ok.mod.kin hk ?_ he hpl;rw [he];obtain⟨ps,hP,hps⟩:=rh.tb P hTK;have hcl:fC scope X.env=pure (JD X.env.cells scope.names []):=Zu λn hn=>I.ok.has n (hfr n hn)
 refine eT (DQ I B hcode hc hP hps hcl λf q qual pm cv ctv H1 h1 tk I1 kp lsts tbls AW hf hcf hHf _ _ _=>gC ⟨I1.kIn,?_⟩);have rh1:RelH X.K h H1:=⟨λa ds e=>by
  obtain⟨vs,e1,e2⟩:=rh a ds e;exact⟨vs,lsts _ _ e1 (by intro _ z;cases z),e2.mono kp⟩,λP' hP'=>by
  by_cases z:P'=P
  ·subst z;exact AW
  ·obtain⟨ps',e1,e2⟩:=rh.tb P' hP';exact⟨ps',tbls _ _ e1 z,e2.mono kp.frz⟩,λa c e=>(rh.dc a c e).mono kp λo w=>by
  obtain⟨u,w',d⟩:=(rh.dc a c e).obj;rw [w] at w';cases w';exact lsts _ _ w d.no.2.2.2.2⟩
 have rs1:RelS X.K H1 tF σ:=rs.mono kp;refine NR (us:= [.ref f]) (vs:= [.ref f]) (dvs:= []) (ds:= []) (E:=E0) F hr hb .nil MG I1 (.cons rfl .nil) ?_;refine⟨f,_,qual,pm,cv,ctv,JD X.env.cells scope.names [],q,X.N,σ,scope,body,h,Qd,rfl,hf,rfl,hcf,hHf,L,Cap.of I1 hfr,rh1,jy post kp,?_⟩;rcases alt with t|t
 ·refine .inl ⟨λv H'=> ∃d h',Kept H1 H'/\RelH X.K h' H'/\RelD X.K H' d v/\Qd (.tup [.str "told",d]) h',λA' outer' s' E' hr'=>⟨_,(hT q cv _ f A' outer' s' H1 E' hr').to,tF,h,_,rs1,rh1,t,λd v h' H' k r1 r2 q=>⟨d,h',k,r1,r2,q⟩⟩,λv H' q=>q⟩
 ·refine .inr ⟨λC H'=> ∃c h',X.mg c=some (.ref C)/\c∈CN/\Kept H1 H'/\RelH X.K h' H'/\Qd (.tup [.str (vA c)]) h',λA' outer' s' hr' pins2 s2 I2=> ?_,λC H' q=>q⟩;exact(hR q cv _ f A' outer' s' H1 _ hr').to _ FV pins2 s2 σ H1 tF h _ I2 rs1 rh1 t λc C h' H' k rh' hmc ⟨hcn,qq⟩=>⟨C,rfl,c,h',hmc,hcn,k,rh',qq⟩⟩
variable {K:Frag}{x:Str}
theorem DZ {f c P:G7}{oc:G1}{od:P2 G7}{fd:S0}{osl:T9 (P2 G1)}(a:nsIn K mainGlobals x=some (some (.ref f)))(l:K.lookup f=some ⟨oc,od,.func fd,osl⟩)(t:tabIn K x=some (c,P)):fd.code= .ref c:=by
 unfold tabIn at t;rw [a] at t;simp only [l] at t;split at t
 ·rename_i c' hc';split at t
  ·split at t
   ·cases t;exact hc'
   ·cases t
  ·cases t
 ·cases t
def CN13:G0 Str:= ["NoTable","NoPlace","NoNumber","NoOrder","NoSet","NoWalk","NoLengths","NoWay","Apart","NoRow","NoTables","NoText","TooGreat"]
def adr (K:Frag)(x:Str):P2 G7:=match nsIn K mainGlobals x with
 |some (some (.ref a))=>some a
 |_=>none
def Ra (K:Frag)(C:G7):M6:=(clsIn K C).isSome&&findIn K (.ref C) "__getattribute__" ==some (some (.builtin "BaseException.__getattribute__"))&&findIn K (.ref C) "__getattr__" ==some none
 &&findIn K (.ref C) "__class__" ==some (some (.builtin "object.__class__"))&&specialIn K (.builtin "object.__class__") "__get__" ==some (some (.builtin "getset_descriptor.__get__"))
 &&takesIn K (.builtin "object.__class__")==some true&&mroIn K C (.type "object")==some true&&mroIn K C (.type "BaseException")==some true
theorem NV {C:G7}(h:Ra K C=true):ExcK K C:=by
 unfold Ra at h;simp only [B1,beq_iff_eq] at h;obtain⟨⟨⟨⟨⟨⟨⟨a,b⟩,c⟩,d⟩,e⟩,f⟩,g⟩,i⟩:=h;exact⟨a,b,c,d,e,f,g,i⟩
def Md (K:Frag)(c:Str):M6:=match adr K c,adr K "PowerError" with
 |some C,some pe=>excIn K C bmV "ValueError.__new__" &&Ra K C&&kitOne K (.ref C) (.type "ValueError")==some true&&exmOne K (.ref C) (.ref pe)==some true&&CN13.all λd=>match adr K d with
  |some D=>kitOne K (.ref C) (.ref D)==some (c==d)
  |none=>false
 |_,_=>false
def Ak (K:Frag):M6:=CN.all (Md K)&&CN13.all (λd=>(adr K d).isSome)&&(adr K "PowerError").isSome&&nsIn K mainGlobals "ValueError" ==some none
structure Exc (K:Frag)(mg:Str->P2 G1):Prop where
 own: ∀c∈CN,OwnX K mg c
 ek: ∀c∈CN,∀C,mg c=some (.ref C)->ExcK K C
 kit: ∀c∈CN,∀d∈CN13,∀C D,mg c=some (.ref C)->mg d=some (.ref D)->kitOne K (.ref C) (.ref D)=some (c==d)
 val: ∀c∈CN,∀C,mg c=some (.ref C)->kitOne K (.ref C) (.type "ValueError")=some true
 pe: ∃pe,mg "PowerError" =some (.ref pe)/\ ∀c∈CN,∀C,mg c=some (.ref C)->exmOne K (.ref C) (.ref pe)=some true
 cls: ∀d∈CN13,∃D,mg d=some (.ref D)
 ve:mg "ValueError" =none
theorem UT {h:N2}{mg:Str->P2 G1}{a:G7}(X:K.In h)(G:h.Ns mainGlobals mg)(e:adr K x=some a):mg x=some (.ref a):=by
 unfold adr at e;split at e
 ·rename_i q;cases e;exact mg_of X G q
 ·cases e
theorem Lb {a:G7}(e:adr K x=some a):nsIn K mainGlobals x=some (some (.ref a)):=by
 unfold adr at e;split at e
 ·rename_i q;cases e;exact q
 ·cases e
theorem Lc {h:N2}{mg:Str->P2 G1}(X:K.In h)(G:h.Ns mainGlobals mg)(e:Ak K=true):Exc K mg:=by
 unfold Ak at e;simp only [B1,T3,beq_iff_eq] at e;obtain⟨⟨⟨e1,e2⟩,e3⟩,e4⟩:=e;obtain⟨pe,hpe⟩:=J6.mp e3;have A: ∀c∈CN,∃C,adr K c=some C/\mg c=some (.ref C)/\excIn K C bmV "ValueError.__new__" =true/\Ra K C=true/\kitOne K (.ref C) (.type "ValueError")=some true/\exmOne K (.ref C) (.ref pe)=some true/\ ∀d∈CN13,∀D,adr K d=some D->kitOne K (.ref C) (.ref D)=some (c==d):=λc hc=>by
  have q:=e1 c hc;unfold Md at q;rw [hpe] at q;split at q
  ·rename_i C pe' h1 h2;cases h2;simp only [B1,T3,beq_iff_eq] at q;obtain⟨⟨⟨⟨q1,q2⟩,q3⟩,q4⟩,q5⟩:=q;refine⟨C,h1,UT X G h1,q1,q2,q3,q4,λd hd D hD=> ?_⟩;have:=q5 d hd;rw [hD] at this;simpa using this
  ·cases q
 have same: ∀ {c:Str} {C C':G7},mg c=some (.ref C)->mg c=some (.ref C')->C=C':=λa b=>by rw [a] at b;cases b;rfl
 refine⟨λc hc=> ?_,λc hc C h=> ?_,λc hc d hd C D h1 h2=> ?_,λc hc C h=> ?_,⟨pe,UT X G hpe,λc hc C h=> ?_⟩,λd hd=> ?_,mg_none_of X G e4⟩
 ·obtain⟨C,a,m,q,_⟩:=A c hc;exact⟨C,m,Lb a,q⟩
 ·obtain⟨C',_,m,_,q,_⟩:=A c hc;cases same h m;exact NV q
 ·obtain⟨C',_,m,_,_,_,_,q⟩:=A c hc;cases same h1 m;obtain⟨D',hD⟩:=J6.mp (e2 d hd);cases same h2 (UT X G hD);exact q d hd D hD
 ·obtain⟨C',_,m,_,_,q,_⟩:=A c hc;cases same h m;exact q
 ·obtain⟨C',_,m,_,_,_,q,_⟩:=A c hc;cases same h m;exact q
 ·obtain⟨D',hD⟩:=J6.mp (e2 d hd);exact⟨D',UT X G hD⟩
section
variable {P:R5}{w:N0}{K:G2}{mg:Str->P2 G1}{base:N2}
theorem Fun.okJL {x qual:Str}{st:F9}{f c Pt:G7}{fd:S0}{N ps:G0 Str}{k:G9}{spd:RDn}(F:Fun K x qual st f fd)(a:nsIn K mainGlobals x=some (some (.ref f)))(T:tabIn K x=some (c,Pt))(S:FnScope N ps (jd st))(len: ∀ds h Q,spd ds h Q->ds.length=ps.length)
 (tb:TSD)(hbody: ∀ (A:T0) (outer:G0 Env) (s:G3) (H:Hp) (E:XK),Room k (A.deeper (A8 qual (jd st) s.heap.objs.size f (.ref c)))->JSs (ZY CX0 P w K mg base N qual (jd st) f (.ref c) A outer s H E).nox (jJ st) tb)
 (read: ∀ds h Q,spd ds h Q->tb (Yt Q) (jN N ds) h):FnOk P w K mg base CX0 (k+1) f fd ps (LSp K spd):=by
 obtain⟨oc,od,kV,doc,pm,an,cdv,ct,osl,rfl,lk,hcd⟩:=F.ex;have e:cdv= .ref c:=DZ a lk T;subst e;refine Mx lk hcd S (λvs H Q E h=> ?_) λA outer s H vs Q E hr h=> ?_
 ·obtain⟨ds,h,Qd,r,rh,q,p⟩:=h;rw [<-r.length];exact len _ _ _ q
 ·obtain⟨ds,h,Qd,r,rh,q,p⟩:=h;refine⟨_,((hbody A outer s H E hr).to).nox,jN N ds,h,Yt Qd,yD r,rh,read ds h Qd q,λtL h' tE H' k rs' rh' ⟨h2,sb,q'⟩=>p .non .non h2 H' k (rh'.sub sb) rfl q',λd v h' H' k rh' r' ⟨h2,sb,q'⟩=>p d v h2 H' k (rh'.sub sb) r' q',λ_ _ _ _ _ _ _ z=>z.elim,λ_ _ _ _ _ _ _ z=>z.elim⟩
end
def Ld (P:R5)(w:N0)(K:G2)(mg:Str->P2 G1)(base:N2)(n:G9):Prop:=
 ∃ (g:G7) (gd:S0),FnOkS P w K mg base CX0 (n+2) g gd ["_law_call"] (US P w K mg base n)/\Binds K gd ["_law_call"] []/\A6 K (.ref g)=true/\mg "_law_said" =some (.ref g)
def NW (K:Frag)(x:Str):M6:=match tabIn K x with
 |some p=>codeHdIn K p.1 p.2
 |none=>false
theorem NX (h:NW K x=true): ∃c P,tabIn K x=some (c,P)/\codeHdIn K c P=true:=by
 unfold NW at h;split at h
 ·rename_i p e;exact⟨p.1,p.2,e,h⟩
 ·cases h
def GX (mg:Str->P2 G1):RDn:=λds h Q=> ∃c C,ds= [.exc C]/\c∈CN/\mg c=some (.ref C)/\ ∀h',Sub h h'->Q (.str (vA c)) h'
end L2
namespace L2
open PySem PySem.Spec PyProof.Rows PySem.SeqAt
section
variable {n e:G9}{T:G0 (G0 D1)}
instance (k i j:G9):Decidable (RP n T k i j):=inferInstanceAs (Decidable (ent (Aa n T k) i j≠0))
end
end L2
namespace L2
inductive Made (L:G0 G9):G9->Prop
 |z:Made L 0
 |s {n l:G9}:Made L n->l∈L->Made L (n+l)
end L2
namespace HT
open PySem PyProof.Rows
section
variable {prog:R5}{w:N0}{A:T0}{E:G1->G3->Prop}{σ α β:Type}{J:G3->Prop}
def Tm (prog:R5)(w:N0)(A:T0)(E:G1->G3->Prop)(J:G3->Prop){σ α:Type}(m:U0 σ Sem α)(Q:α->σ->Prop)(st:σ):Prop:=
 ∀s,J s->R1 (R6 prog w) A (m.run st) (λr s'=>Q r.1 r.2/\J s') E s
theorem Tm.pure {a:α}{Q:α->σ->Prop}{st:σ}(h:Q a st):Tm prog w A E J (Pure.pure a:U0 σ Sem α) Q st:=λs j=>by
 rw [StateT.run_pure];exact P1 ⟨h,j⟩
theorem Tm.bind {m:U0 σ Sem α}{f:α->U0 σ Sem β}{Q:β->σ->Prop}{st:σ}(h:Tm prog w A E J m (λa st'=>Tm prog w A E J (f a) Q st') st):Tm prog w A E J (m >>= f) Q st:=λs j=>by
 rw [StateT.run_bind];exact wpAny_bind (S6 (h s j) (λr s' x=>x.1 s' x.2) λ_ _ e=>e)
theorem Tm.get {Q:σ->σ->Prop}{st:σ}(h:Q st st):Tm prog w A E J (MonadState.get:U0 σ Sem σ) Q st:=λs j=>by
 show R1 _ _ ((StateT.get:U0 σ Sem σ).run st) _ _ _;exact P1 ⟨h,j⟩
theorem Tm.mono {m:U0 σ Sem α}{Q Q':α->σ->Prop}{st:σ}(h:Tm prog w A E J m Q st)(q: ∀a st',Q a st'->Q' a st'):Tm prog w A E J m Q' st:=λs j=>
 S6 (h s j) (λr s' x=>⟨q _ _ x.1,x.2⟩) λ_ _ e=>e
theorem Tm.range' {f:G9->β->U0 σ Sem (dY β)}(I:G9->β->σ->Prop){Q:β->σ->Prop}{b:G9}(step: ∀i c st,i<b->I i c st->Tm prog w A E J (f i c) (λr st'=>match r with| .done c'=>Q c' st'| .yield c'=>I (i+1) c' st') st)(fin: ∀c st,I b c st->Q c st):
 ∀ (k i:G9) (c:β) (st:σ),i+k=b->I i c st->Tm prog w A E J (forIn (List.range' i k) c f) Q st
 |0,i,c,st,e,h=>by
  rw [List.range'_zero,oF];exact .pure (fin c st (by rw [<-e];exact h))
 |k+1,i,c,st,e,h=>by
  rw [List.range'_succ,bK];refine .bind ((step i c st (by omega) h).mono λr st' x=> ?_);cases r with
  |done c'=>exact .pure x
  |yield c'=>exact Tm.range' I step fin k (i+1) c' st' (by omega) x
theorem Tm.range {f:G9->β->U0 σ Sem (dY β)}(I:G9->β->σ->Prop){Q:β->σ->Prop}{a b:G9}{c:β}{st:σ}(hab:a<=b)(h:I a c st)(step: ∀i c st,i<b->I i c st->Tm prog w A E J (f i c) (λr st'=>match r with| .done c'=>Q c' st'| .yield c'=>I (i+1) c' st') st)(fin: ∀c st,I b c st->Q c st):
 Tm prog w A E J (forIn [a:b] c f) Q st:=λs j=>by
 rw [Std.Legacy.Range.forIn_eq_forIn_range'];have e:([a:b]:Std.Legacy.Range).size=b-a:=by simp [Std.Legacy.Range.size]
 rw [e];exact Tm.range' I step fin (b-a) a c st (by omega) h s j
end
section
variable {prog:R5}{w:N0}{A:T0}{E:G1->G3->Prop}{J:G3->Prop}{κ:SortKind}{U:P9->Prop}{R:P9->P9->M6}
def WY (prog:R5)(w:N0)(A:T0)(J:G3->Prop)(κ:SortKind)(U:P9->Prop)(R:P9->P9->M6):Prop:=
 ∀x y,U x->U y-> ∀s,J s->R1 (R6 prog w) A (keyLt' κ x.1 y.1) (λb s'=>b=R x y/\J s') (λ_ _=>False) s
theorem Tm.lt {x y:P9}{st:N3}{Q:P2 M6->N3->Prop}(a:WY prog w A J κ U R)(k:kindOf st=κ)(hx:U x)(hy:U y)(q:Q (some (R x y)) st):Tm prog w A E J (lt' x y) Q st:=by
 rw [lt'_eq];refine .bind (.get ?_);rw [k];intro s j;rw [StateT.run_bind];refine wpAny_bind ?_;show R1 _ _ ((StateT.lift _:U0 N3 Sem _).run st) _ _ _;rw [StateT.run_lift];refine wpAny_bind (gO (S6 (a x y hx hy s j) (λb s' x=> ?_) λ_ _ e=>e.elim));obtain⟨rfl,j'⟩:=x;exact P1 (Tm.pure (prog:=prog) (w:=w) (A:=A) (E:=E) (J:=J) q s' j')
theorem Tm.elem {arr:T9 P9}{i:G9}{x:P9}{st:N3}{Q:P9->N3->Prop}(e:arr[i]? =some x)(q:Q x st):Tm prog w A E J (elem' arr i) Q st:=by
 rw [elem'_eq,e];exact .pure q
theorem Le {n lo hi:G9}{g:G9->M6}{st:N3}{f:G9->P2 (P2 G9)×G9×G9->U0 N3 Sem (dY (P2 (P2 G9)×G9×G9))}(anti: ∀i j,i<=j->j<n->g j=true->g i=true)
 (h1:lo<=hi)(h2:hi<=n)(a1: ∀i,i<lo->g i=true)(a2: ∀i,hi<=i->i<n->g i=false)
 (stop: ∀i l,Tm prog w A E J (f i (none,l,l)) (λr st'=>st'=st/\r= .done (none,l,l)) st)
 (step: ∀i l u,l<u->u<=n->Tm prog w A E J (f i (none,l,u)) (λr st'=>st'=st/\r=if g (l+(u-l) / 2)=true then .yield (none,l+(u-l) / 2+1,u) else .yield (none,l,l+(u-l) / 2)) st):
 Tm prog w A E J (forIn [0:n] (none,lo,hi) f) (λc st'=>st'=st/\c.1=none/\c.2.2<=n/\(∀i,i<c.2.2->g i=true)/\ ∀i,c.2.2<=i->i<n->g i=false) st:=by
 have no: ∀i j,i<=j->j<n->g i=false->g j=false:=λi j hij hj z=>by
  cases hb:g j with
  |false=>rfl
  |true=>rw [anti i j hij hj hb] at z;cases z
 refine Tm.range (λi c st'=>st'=st/\c.1=none/\c.2.1<=c.2.2/\c.2.2<=n/\(∀i,i<c.2.1->g i=true)/\(∀i,c.2.2<=i->i<n->g i=false)/\c.2.2-c.2.1+i<=n) (M0 _) ⟨rfl,rfl,h1,h2,a1,a2,by dsimp only;omega⟩ ?_ ?_
 ·rintro i ⟨r,l,u⟩ _ hi ⟨rfl,hr,b1,b2,b3,b4,b5⟩;dsimp only at hr b1 b2 b3 b4 b5;subst hr
  by_cases z:l=u
  ·subst z;refine(stop i l).mono ?_;rintro _ _ ⟨rfl,rfl⟩;exact⟨rfl,rfl,b2,b3,b4⟩
  ·refine(step i l u (by omega) b2).mono ?_;rintro _ _ ⟨rfl,rfl⟩;cases hg:g (l+(u-l) / 2) with
   |true=>
    rw [S8 rfl];exact⟨rfl,rfl,by dsimp only;omega,b2,λj hj=>anti j _ (by dsimp only at hj;omega) (by omega) hg,b4,by dsimp only;omega⟩
   |false=>
    rw [S7 (by decide)];exact⟨rfl,rfl,by dsimp only;omega,by dsimp only;omega,b3,λj hj hn=>no _ j hj hn hg,by dsimp only;omega⟩
 ·rintro ⟨r,l,u⟩ _ ⟨rfl,hr,b1,b2,b3,b4,b5⟩;dsimp only at hr b1 b2 b3 b4 b5 ⊢;exact⟨rfl,hr,b2,λj hj=>b3 j (by omega),b4⟩
def gal:M6->P9->T9 P9->G9->G9->G9->U0 N3 Sem (P2 G9):=sortPriv% PySem.Builtin.gallop
def byd (R:P9->P9->M6)(left:M6)(key:P9)(arr:T9 P9)(base i:G9):M6:=
 match arr[base+i]? with
 |some x=>if left=true then R x key else !R key x
 |none=>false
theorem GY {left:M6}{key:P9}{arr:T9 P9}{base n hint:G9}{st:N3}{Q:P2 G9->N3->Prop}(a:WY prog w A J κ U R)(k:kindOf st=κ)(uk:U key)(ua: ∀i,i<n-> ∃x,arr[base+i]? =some x/\U x)
 (anti: ∀i j,i<=j->j<n->byd R left key arr base j=true->byd R left key arr base i=true)(hh:hint<n)
 (q: ∀m,m<=n->(∀i,i<m->byd R left key arr base i=true)->(∀i,m<=i->i<n->byd R left key arr base i=false)->Q (some m) st):Tm prog w A E J (gal left key arr base n hint) Q st:=by
 have ask: ∀i (Q':P2 M6->N3->Prop),i<n->Q' (some (byd R left key arr base i)) st->Tm prog w A E J (do let x <-elem' arr (base+i);if left=true then lt' x key else do let b <-lt' key x;Pure.pure (b.map λz=> !z)) Q' st:=λi Q' hi q'=>by
  obtain⟨x,ex,ux⟩:=ua i hi;refine .bind (.elem ex ?_);unfold byd at q';rw [ex] at q';cases left with
  |true=>exact .lt a k ux uk q'
  |false=>exact .bind (.lt a k uk ux (.pure q'))
 have no: ∀i j,i<=j->j<n->byd R left key arr base i=false->byd R left key arr base j=false:=λi j hij hj z=>by
  cases hb:byd R left key arr base j with
  |false=>rfl
  |true=>rw [anti i j hij hj hb] at z;cases z
 unfold gal;refine .bind (ask hint _ hh ?_);dsimp only;cases hb:byd R left key arr base hint with
 |true=>
  rw [S8 rfl];refine .bind (Tm.mono (Tm.range (λi c st'=>st'=st/\c.1=none/\c.2.1<c.2.2/\hint+c.2.1<n/\byd R left key arr base (hint+c.2.1)=true/\i+1<=c.2.2)
   (Q:=λc st'=>st'=st/\c.1=none/\c.2.1<c.2.2/\hint+c.2.1<n/\byd R left key arr base (hint+c.2.1)=true/\(n-hint<=c.2.2\/byd R left key arr base (hint+c.2.2)=false)) (M0 _) ⟨rfl,rfl,by decide,by omega,by simpa using hb,by decide⟩ ?_ ?_) ?_)
  ·rintro i ⟨r,lo,of⟩ _ hi ⟨rfl,hr,h1,h2,h3,h4⟩;dsimp only at hr h1 h2 h3 h4 ⊢;subst hr
   by_cases z:of>=n-hint
   ·rw [S8 z];exact .pure ⟨rfl,rfl,h1,h2,h3,.inl z⟩
   ·rw [S7 z];refine .bind (ask (hint+of) _ (by omega) ?_);dsimp only;cases hc:byd R left key arr base (hint+of) with
    |true=>exact .pure ⟨rfl,rfl,by dsimp only;omega,by dsimp only;omega,hc,by dsimp only;omega⟩
    |false=>exact .pure ⟨rfl,rfl,h1,h2,h3,.inr hc⟩
  ·rintro ⟨r,lo,of⟩ _ ⟨rfl,hr,h1,h2,h3,h4⟩;exact⟨rfl,hr,h1,h2,h3,.inl (by dsimp only at h4 ⊢;omega)⟩
  ·rintro ⟨r,lo,of⟩ _ ⟨rfl,hr,h1,h2,h3,h4⟩;dsimp only at hr h1 h2 h3 h4 ⊢;subst hr;dsimp only;refine .bind (Tm.mono (Le (g:=byd R left key arr base) anti (by omega) (by omega) (λi hi=>anti i _ (by omega) h2 h3) (λi hi hn=> ?_) (λi l=> ?_) (λi l u hl hu=> ?_)) ?_)
   ·rcases h4 with z|z
    ·omega
    ·exact no (hint+of) i (by omega) hn z
   ·rw [S8 (P3 l)];exact .pure ⟨rfl,rfl⟩
   ·rw [S7 (show ¬l>=u by omega)];refine .bind (ask (l+(u-l) / 2) _ (by omega) ?_);dsimp only;cases byd R left key arr base (l+(u-l) / 2)<;>exact .pure ⟨rfl,rfl⟩
   ·rintro ⟨r,l,u⟩ _ ⟨rfl,hr,b2,b3,b4⟩;dsimp only at hr b2 b3 b4 ⊢;subst hr;exact .pure (q u b2 b3 b4)
 |false=>
  rw [S7 (by decide)];refine .bind (Tm.mono (Tm.range (λi c st'=>st'=st/\c.1=none/\c.2.1<c.2.2/\c.2.1<=hint/\byd R left key arr base (hint-c.2.1)=false/\i+1<=c.2.2)
   (Q:=λc st'=>st'=st/\c.1=none/\c.2.1<c.2.2/\c.2.1<=hint/\byd R left key arr base (hint-c.2.1)=false/\(hint+1<=c.2.2\/byd R left key arr base (hint-c.2.2)=true)) (M0 _) ⟨rfl,rfl,by decide,by dsimp only;omega,by simpa using hb,by decide⟩ ?_ ?_) ?_)
  ·rintro i ⟨r,lo,of⟩ _ hi ⟨rfl,hr,h1,h2,h3,h4⟩;dsimp only at hr h1 h2 h3 h4 ⊢;subst hr
   by_cases z:of>=hint+1
   ·rw [S8 z];exact .pure ⟨rfl,rfl,h1,h2,h3,.inl z⟩
   ·rw [S7 z];refine .bind (ask (hint-of) _ (by omega) ?_);dsimp only;cases hc:byd R left key arr base (hint-of) with
    |false=>exact .pure ⟨rfl,rfl,by dsimp only;omega,by dsimp only;omega,hc,by dsimp only;omega⟩
    |true=>exact .pure ⟨rfl,rfl,h1,h2,h3,.inr hc⟩
  ·rintro ⟨r,lo,of⟩ _ ⟨rfl,hr,h1,h2,h3,h4⟩;exact⟨rfl,hr,h1,h2,h3,.inl (by dsimp only at h4 ⊢;omega)⟩
  ·rintro ⟨r,lo,of⟩ _ ⟨rfl,hr,h1,h2,h3,h4⟩;dsimp only at hr h1 h2 h3 h4 ⊢;subst hr;dsimp only;refine .bind (Tm.mono (Le (g:=byd R left key arr base) anti (by omega) (by omega) (λi hi=> ?_) (λi hi hn=>no _ i hi hn h3) (λi l=> ?_) (λi l u hl hu=> ?_)) ?_)
   ·rcases h4 with z|z
    ·omega
    ·exact anti i (hint-of) (by omega) (by omega) z
   ·rw [S8 (P3 l)];exact .pure ⟨rfl,rfl⟩
   ·rw [S7 (show ¬l>=u by omega)];refine .bind (ask (l+(u-l) / 2) _ (by omega) ?_);dsimp only;cases byd R left key arr base (l+(u-l) / 2)<;>exact .pure ⟨rfl,rfl⟩
   ·rintro ⟨r,l,u⟩ _ ⟨rfl,hr,b2,b3,b4⟩;dsimp only at hr b2 b3 b4 ⊢;subst hr;exact .pure (q u b2 b3 b4)
end
section
variable {κ:Type}{U:κ->Prop}{R:κ->κ->M6}{al bl:G0 κ}
structure Ordd (U:κ->Prop)(R:κ->κ->M6):Prop where
 asym: ∀x y,U x->U y->R x y=true->R y x=false
 neg: ∀x y z,U x->U y->U z->R x z=true->R x y=true\/R y z=true
theorem Ordd.refl (o:Ordd U R){x:κ}(u:U x):R x x=false:=by
 cases h:R x x with
 |false=>rfl
 |true=>have:=o.asym x x u u h;rw [h] at this;exact this
theorem Ordd.trans (o:Ordd U R){x y z:κ}(ux:U x)(uy:U y)(uz:U z)(a:R y x=false)(b:R z y=false):R z x=false:=by
 cases h:R z x with
 |false=>rfl
 |true=>
  rcases o.neg z y x uz uy ux h with z|z
  ·rw [b] at z;cases z
  ·rw [a] at z;cases z
abbrev Srt (R:κ->κ->M6)(l:G0 κ):Prop:=l.Pairwise λx y=>R y x=false
structure MI (R:κ->κ->M6)(al bl:G0 κ)(ia ib:G9)(out:G0 κ):Prop where
 perm:out.Perm (al.take ia++bl.take ib)
 srt:Srt R out
 ra: ∀x∈out,∀y∈al.drop ia,R y x=false
 rb: ∀x∈out,∀y∈bl.drop ib,R y x=false
theorem jT {l:G0 κ}{i:G9}{y:κ}(h:l[i]? =some y):l.drop i=y::l.drop (i+1):=by
 obtain⟨hi,e⟩:=D0.mp h;rw [List.drop_eq_getElem_cons hi,e]
theorem Zw {l:G0 κ}{i:G9}{y:κ}(h:l[i]? =some y):l.take (i+1)=l.take i++ [y]:=by
 rw [A2,h];rfl
theorem MI.start (al bl:G0 κ):MI R al bl 0 0 []:=⟨.refl _,.nil,λx hx=>(S9 hx).elim,λx hx=>(S9 hx).elim⟩
variable {ia ib:G9}
theorem MI.pushB {out:G0 κ}{y:κ}(m:MI R al bl ia ib out)(o:Ordd U R)(ua: ∀x∈al,U x)(ub: ∀x∈bl,U x)(sa:Srt R al)(sb:Srt R bl)(hy:bl[ib]? =some y)(lt: ∀z,al[ia]? =some z->R y z=true):MI R al bl ia (ib+1) (out++ [y]):=by
 have dy:=jT hy;have uy:=ub y (P5 hy);have sdb:Srt R (bl.drop ib):=sb.sublist (K1 _ _);rw [dy] at sdb;refine⟨?_,?_,λx hx z hz=> ?_,λx hx z hz=> ?_⟩
 ·rw [Zw hy,<-P7];exact m.perm.append_right _
 ·refine M8.mpr ⟨m.srt,F4 _ _,λx hx z hz=> ?_⟩;rw [P0.mp hz];exact m.rb x hx y (by rw [dy];exact D5 ..)
 ·rcases D3.mp hx with w|w
  ·exact m.ra x w z hz
  ·rw [P0.mp w];cases e:al[ia]? with
   |none=>rw [L8 (fY.mp e)] at hz;cases hz
   |some a0=>
    have da:=jT e;have ua0:=ua a0 (P5 e);have sda:Srt R (al.drop ia):=sa.sublist (K1 _ _);rw [da] at sda hz;have l0:=o.asym y a0 uy ua0 (lt a0 e);rcases P6.mp hz with v|v
    ·rw [v];exact l0
    ·exact o.trans uy ua0 (ua z (B9 v)) l0 ((V8.mp sda).1 z v)
 ·rcases D3.mp hx with w|w
  ·exact m.rb x w z (by rw [dy];exact D8 _ hz)
  ·rw [P0.mp w];exact(V8.mp sdb).1 z hz
theorem MI.pushA {out:G0 κ}{y:κ}(m:MI R al bl ia ib out)(o:Ordd U R)(ua: ∀x∈al,U x)(ub: ∀x∈bl,U x)(sa:Srt R al)(sb:Srt R bl)(hy:al[ia]? =some y)(ge: ∀z,bl[ib]? =some z->R z y=false):MI R al bl (ia+1) ib (out++ [y]):=by
 have dy:=jT hy;have uy:=ua y (P5 hy);have sda:Srt R (al.drop ia):=sa.sublist (K1 _ _);rw [dy] at sda;refine⟨?_,?_,λx hx z hz=> ?_,λx hx z hz=> ?_⟩
 ·rw [Zw hy];refine(m.perm.append_right [y]).trans ?_;rw [P7,P7];exact(Z8).append_left _
 ·refine M8.mpr ⟨m.srt,F4 _ _,λx hx z hz=> ?_⟩;rw [P0.mp hz];exact m.ra x hx y (by rw [dy];exact D5 ..)
 ·rcases D3.mp hx with w|w
  ·exact m.ra x w z (by rw [dy];exact D8 _ hz)
  ·rw [P0.mp w];exact(V8.mp sda).1 z hz
 ·rcases D3.mp hx with w|w
  ·exact m.rb x w z hz
  ·rw [P0.mp w];cases e:bl[ib]? with
   |none=>rw [L8 (fY.mp e)] at hz;cases hz
   |some b0=>
    have db:=jT e;have ub0:=ub b0 (P5 e);have sdb:Srt R (bl.drop ib):=sb.sublist (K1 _ _);rw [db] at sdb hz;have l0:=ge b0 e;rcases P6.mp hz with v|v
    ·rw [v];exact l0
    ·exact o.trans uy ub0 (ub z (B9 v)) l0 ((V8.mp sdb).1 z v)
theorem MI.manyA (o:Ordd U R)(ua: ∀x∈al,U x)(ub: ∀x∈bl,U x)(sa:Srt R al)(sb:Srt R bl): ∀ (k:G9) {ia:G9} {out:G0 κ},MI R al bl ia ib out->ia+k<=al.length->(∀i,i<k-> ∀y,al[ia+i]? =some y-> ∀z,bl[ib]? =some z->R z y=false)->MI R al bl (ia+k) ib (out++(al.drop ia).take k)
 |0,ia,out,m,_,_=>by rw [fM,E3];exact m
 |k+1,ia,out,m,hk,h=>by
  obtain⟨y,hy⟩: ∃y,al[ia]? =some y:=⟨_,G8 (by omega)⟩;have m1:=m.pushA o ua ub sa sb hy (h 0 (by omega) y hy);have:=MI.manyA o ua ub sa sb k m1 (by omega) (λi hi y hy=>h (i+1) (by omega) y (by rw [show ia+(i+1)=ia+1+i by omega];exact hy));rw [show ia+(k+1)=ia+1+k by omega,jT hy,j9,mO];exact this
theorem MI.manyB (o:Ordd U R)(ua: ∀x∈al,U x)(ub: ∀x∈bl,U x)(sa:Srt R al)(sb:Srt R bl): ∀ (k:G9) {ib:G9} {out:G0 κ},MI R al bl ia ib out->ib+k<=bl.length->(∀i,i<k-> ∀y,bl[ib+i]? =some y-> ∀z,al[ia]? =some z->R y z=true)->MI R al bl ia (ib+k) (out++(bl.drop ib).take k)
 |0,ib,out,m,_,_=>by rw [fM,E3];exact m
 |k+1,ib,out,m,hk,h=>by
  obtain⟨y,hy⟩: ∃y,bl[ib]? =some y:=⟨_,G8 (by omega)⟩;have m1:=m.pushB o ua ub sa sb hy (h 0 (by omega) y hy);have:=MI.manyB o ua ub sa sb k m1 (by omega) (λi hi y hy=>h (i+1) (by omega) y (by rw [show ib+(i+1)=ib+1+i by omega];exact hy));rw [show ib+(k+1)=ib+1+k by omega,jT hy,j9,mO];exact this
theorem MI.all {out:G0 κ}(m:MI R al bl al.length bl.length out):out.Perm (al++bl)/\Srt R out:=by
 have:=m.perm;rw [mP,mP] at this;exact⟨this,m.srt⟩
theorem MI.done {out:G0 κ}(m:MI R al bl ia ib out)(o:Ordd U R)(ua: ∀x∈al,U x)(ub: ∀x∈bl,U x)(sa:Srt R al)(sb:Srt R bl)(ha:ia<=al.length)(hb:ib<=bl.length)(h:ia=al.length\/ib=bl.length):(out++al.drop ia++bl.drop ib).Perm (al++bl)/\Srt R (out++al.drop ia++bl.drop ib):=by
 have m1:=MI.manyA o ua ub sa sb (al.length-ia) m (by omega) (λi hi y hy z hz=>by
  have:=(D0.mp hz).1;omega)
 rw [show ia+(al.length-ia)=al.length by omega,T8 (by rw [N7];exact P3 _)] at m1;have m2:=MI.manyB o ua ub sa sb (bl.length-ib) m1 (by omega) (λi hi y hy z hz=>by
  have:=(D0.mp hz).1;omega)
 rw [show ib+(bl.length-ib)=bl.length by omega,T8 (l:=bl.drop ib) (by rw [N7];exact P3 _)] at m2;exact m2.all
theorem MI.lastA {out:G0 κ}(m:MI R al bl ia ib out)(o:Ordd U R)(ua: ∀x∈al,U x)(ub: ∀x∈bl,U x)(sa:Srt R al)(sb:Srt R bl)(ha:ia+1=al.length)(hb:ib<=bl.length)(h: ∀y∈bl,∀z,al[al.length-1]? =some z->R y z=true):(out++bl.drop ib++al.drop ia).Perm (al++bl)/\Srt R (out++bl.drop ib++al.drop ia):=by
 have m2:=MI.manyB o ua ub sa sb (bl.length-ib) m (by omega) (λi hi y hy z hz=>h y (P5 hy) z (by rw [<-ha];exact hz));rw [show ib+(bl.length-ib)=bl.length by omega,T8 (by rw [N7];exact P3 _)] at m2;have m1:=MI.manyA o ua ub sa sb (al.length-ia) m2 (by omega) (λi hi y hy z hz=>by
  have:=(D0.mp hz).1;omega)
 rw [show ia+(al.length-ia)=al.length by omega,T8 (l:=al.drop ia) (by rw [N7];exact P3 _)] at m1;exact m1.all
end
section
variable {prog:R5}{w:N0}{A:T0}{E:G1->G3->Prop}{J:G3->Prop}{κ:SortKind}{U:P9->Prop}{R:P9->P9->M6}
theorem Tm.rule {σ:Type}{x:J9}{Q:Unit->σ->Prop}{st:σ}(q:Q () st):Tm prog w A E J (liftM (PySem.rule x):U0 σ Sem Unit) Q st:=λs j=>by
 show R1 _ _ ((StateT.lift _:U0 σ Sem _).run st) _ _ _;rw [StateT.run_lift];exact wpAny_bind (cX (P1 ⟨q,j⟩))
theorem Tm.modify {σ:Type}{f:σ->σ}{Q:Unit->σ->Prop}{st:σ}(q:Q () (f st)):Tm prog w A E J (_root_.modify f:U0 σ Sem PUnit) Q st:=λs j=>by
 rw [StateT.run_modify];exact P1 ⟨q,j⟩
def mLo:T9 P9->T9 P9->U0 N3 Sem (T9 P9):=sortPriv% PySem.Builtin.mergeLo
def Gal (st st':N3):Prop:=kindOf st'=kindOf st/\R7 st'=R7 st/\M9 st'=M9 st/\X2 st'=X2 st
theorem Gal.refl (st:N3):Gal st st:=⟨rfl,rfl,rfl,rfl⟩
theorem JR (a:T9 P9)(i:G9):(a.extract i).toList=a.toList.drop i:=by
 rw [X3,Q0];exact T8 (by simp)
theorem UU (a:T9 P9)(i k:G9):(a.extract i (i+k)).toList=(a.toList.drop i).take k:=by
 rw [X3,Q0,cG]
def yJ (R:P9->P9->M6)(a b c:T9 P9):Prop:=c.toList.Perm (a.toList++b.toList)/\Srt R c.toList
structure Two (U:P9->Prop)(R:P9->P9->M6)(a b:T9 P9):Prop where
 o:Ordd U R
 ua: ∀x∈a.toList,U x
 ub: ∀x∈b.toList,U x
 sa:Srt R a.toList
 sb:Srt R b.toList
 last: ∀y∈b.toList,∀z,a.toList[a.toList.length-1]? =some z->R y z=true
abbrev MA (R:P9->P9->M6)(a b:T9 P9)(ia ib:G9)(out:T9 P9):Prop:=MI R a.toList b.toList ia ib out.toList
section
variable {a b out:T9 P9}{ia ib:G9}
theorem MA.done (t:Two U R a b)(m:MA R a b ia ib out)(ha:ia<=a.size)(hb:ib<=b.size)(h:ia=a.size\/ib=b.size):yJ R a b (out++a.extract ia++b.extract ib):=by
 have:=MI.done m t.o t.ua t.ub t.sa t.sb (by simpa using ha) (by simpa using hb) (by simpa using h);unfold yJ;rw [B2,B2,JR,JR];exact this
theorem MA.lastA (t:Two U R a b)(m:MA R a b ia ib out)(ha:ia+1=a.size)(hb:ib<=b.size):yJ R a b (out++b.extract ib++a.extract ia):=by
 have:=MI.lastA m t.o t.ua t.ub t.sa t.sb (by simpa using ha) (by simpa using hb) t.last;unfold yJ;rw [B2,B2,JR,JR];exact this
theorem MA.pushB (t:Two U R a b){y:P9}(m:MA R a b ia ib out)(hy:b.toList[ib]? =some y)(lt: ∀z,a.toList[ia]? =some z->R y z=true):MA R a b ia (ib+1) (out.push y):=by
 have:=MI.pushB m t.o t.ua t.ub t.sa t.sb hy lt;show MI R _ _ _ _ (out.push y).toList;rw [aB];exact this
theorem MA.pushA (t:Two U R a b){y:P9}(m:MA R a b ia ib out)(hy:a.toList[ia]? =some y)(ge: ∀z,b.toList[ib]? =some z->R z y=false):MA R a b (ia+1) ib (out.push y):=by
 have:=MI.pushA m t.o t.ua t.ub t.sa t.sb hy ge;show MI R _ _ _ _ (out.push y).toList;rw [aB];exact this
theorem MA.manyA (t:Two U R a b)(m:MA R a b ia ib out)(k:G9)(hk:ia+k<=a.size)(h: ∀i,i<k-> ∀y,a.toList[ia+i]? =some y-> ∀z,b.toList[ib]? =some z->R z y=false):MA R a b (ia+k) ib (out++a.extract ia (ia+k)):=by
 have:=MI.manyA t.o t.ua t.ub t.sa t.sb k m (by simpa using hk) h;show MI R _ _ _ _ (out++a.extract ia (ia+k)).toList;rw [B2,UU];exact this
theorem MA.manyB (t:Two U R a b)(m:MA R a b ia ib out)(k:G9)(hk:ib+k<=b.size)(h: ∀i,i<k-> ∀y,b.toList[ib+i]? =some y-> ∀z,a.toList[ia]? =some z->R y z=true):MA R a b ia (ib+k) (out++b.extract ib (ib+k)):=by
 have:=MI.manyB t.o t.ua t.ub t.sa t.sb k m (by simpa using hk) h;show MI R _ _ _ _ (out++b.extract ib (ib+k)).toList;rw [B2,UU];exact this
end
variable {arr:T9 P9}{base:G9}
theorem wP {left:M6}{key x:P9}{i:G9}(h:arr.toList[base+i]? =some x):byd R left key arr base i=if left=true then R x key else !R key x:=by
 unfold byd;rw [<-O5,h]
theorem Zx {l:G0 P9}(s:Srt R l)(o:Ordd U R)(u: ∀x∈l,U x){i j:G9}{x y:P9}(hij:i<=j)(hx:l[i]? =some x)(hy:l[j]? =some y):R y x=false:=by
 by_cases z:i=j
 ·subst z;rw [hx] at hy;injection hy with hy;subst hy
  exact o.refl (u x (P5 hx))
 ·obtain⟨h1,e1⟩:=D0.mp hx;obtain⟨h2,e2⟩:=D0.mp hy;have:=aL.mp s i j h1 h2 (by omega);rw [e1,e2] at this;exact this
theorem Zy {i:G9}(h:i<arr.size): ∃x,arr.toList[i]? =some x/\arr[i]? =some x:=⟨arr[i],by simp [h],by simp [h]⟩
theorem Ea {y:P9}{n hint:G9}{st:N3}{Q:P2 G9->N3->Prop}(ak:WY prog w A J κ U R)(kd:kindOf st=κ)(o:Ordd U R)(u: ∀x∈arr.toList,U x)(s:Srt R arr.toList)(uy:U y)(hn:base+n<=arr.size)(hh:hint<n)
 (q: ∀k,k<=n->(∀i,i<k-> ∀x,arr.toList[base+i]? =some x->R y x=false)->(∀i,k<=i->i<n-> ∀x,arr.toList[base+i]? =some x->R y x=true)->Q (some k) st):Tm prog w A E J (gal false y arr base n hint) Q st:=by
 refine GY ak kd uy (λi hi=> ?_) (λi j hij hj h=> ?_) hh (λk k1 k2 k3=>q k k1 (λi hi x hx=> ?_) (λi h1 h2 x hx=> ?_))
 ·obtain⟨x,lx,ex⟩:=Zy (show base+i<arr.size by omega);exact⟨x,ex,u x (P5 lx)⟩
 ·obtain⟨x,lx,_⟩:=Zy (show base+i<arr.size by omega);obtain⟨z,lz,_⟩:=Zy (show base+j<arr.size by omega);rw [wP lz] at h;rw [wP lx];have hz:R y z=false:=by simpa using h
  have:=o.trans (u x (P5 lx)) (u z (P5 lz)) uy (Zx s o u (by omega) lx lz) hz;simp [this]
 ·have:=k2 i hi;rw [wP hx] at this;simpa using this
 ·have:=k3 i h1 h2;rw [wP hx] at this;simpa using this
theorem Eb {y:P9}{n hint:G9}{st:N3}{Q:P2 G9->N3->Prop}(ak:WY prog w A J κ U R)(kd:kindOf st=κ)(o:Ordd U R)(u: ∀x∈arr.toList,U x)(s:Srt R arr.toList)(uy:U y)(hn:base+n<=arr.size)(hh:hint<n)
 (q: ∀k,k<=n->(∀i,i<k-> ∀x,arr.toList[base+i]? =some x->R x y=true)->(∀i,k<=i->i<n-> ∀x,arr.toList[base+i]? =some x->R x y=false)->Q (some k) st):Tm prog w A E J (gal true y arr base n hint) Q st:=by
 refine GY ak kd uy (λi hi=> ?_) (λi j hij hj h=> ?_) hh (λk k1 k2 k3=>q k k1 (λi hi x hx=> ?_) (λi h1 h2 x hx=> ?_))
 ·obtain⟨x,lx,ex⟩:=Zy (show base+i<arr.size by omega);exact⟨x,ex,u x (P5 lx)⟩
 ·obtain⟨x,lx,_⟩:=Zy (show base+i<arr.size by omega);obtain⟨z,lz,_⟩:=Zy (show base+j<arr.size by omega);rw [wP lz] at h;rw [wP lx];have hz:R z y=true:=by simpa using h
  rcases o.neg z x y (u z (P5 lz)) (u x (P5 lx)) uy hz with v|v
  ·rw [Zx s o u (by omega) lx lz] at v;cases v
  ·simp [v]
 ·have:=k2 i hi;rw [wP hx] at this;simpa using this
 ·have:=k3 i h1 h2;rw [wP hx] at this;simpa using this
section
variable {σ α β γ:Type}{c:Prop}[Decidable c]{t e:U0 σ Sem α}{Q:α->σ->Prop}{st:σ}{x y:β}{z:γ}
theorem Tm.if2 (T:c->Tm prog w A E J t Q st)(F: ¬c->Tm prog w A E J e Q st):Tm prog w A E J (if c then t else e) Q st:=by
 split
 ·exact T ‹_›
 ·exact F ‹_›
theorem Tm.eq2 {x y:G9}(T:x=y->Tm prog w A E J t Q st)(F: ¬x=y->Tm prog w A E J e Q st):Tm prog w A E J (if (x==y)=true then t else e) Q st:=
 .if2 (λh=>T (eq_of_beq h)) λh=>F λg=>h (beq_iff_eq.mpr g)
theorem Tm.both {f:β->U0 σ Sem α}(he:e=f y)(ht:t=f x)(H: ∀m,Tm prog w A E J (f m) Q st):Tm prog w A E J (if c then t else e) Q st:=by
 subst he ht;exact .if2 (λ_=>H _) λ_=>H _
theorem Tm.join {f:β->γ->U0 σ Sem α}{I:β->γ->Prop}(he:e=f x z)(G: ∀m o,I m o->Tm prog w A E J (f m o) Q st)(T:c->(∀m o,I m o->Tm prog w A E J (f m o) Q st)->Tm prog w A E J t Q st)(F: ¬c->I x z):Tm prog w A E J (if c then t else e) Q st:=by
 subst he;exact .if2 (λh=>T h G) λh=>G _ _ (F h)
end
theorem LD {A B C D F:Type}{P:A×B×C×D×F->Prop}(h: ∀a b c d f,P (a,b,c,d,f)): ∀c,P c:=λc=>h c.1 c.2.1 c.2.2.1 c.2.2.2.1 c.2.2.2.2
theorem LF {A B C D F G:Type}{P:A×B×C×D×F×G->Prop}(h: ∀a b c d f g,P (a,b,c,d,f,g)): ∀c,P c:=λc=>h c.1 c.2.1 c.2.2.1 c.2.2.2.1 c.2.2.2.2.1 c.2.2.2.2.2
theorem LH {A B C D F G H:Type}{P:A×B×C×D×F×G×H->Prop}(h: ∀a b c d f g k,P (a,b,c,d,f,g,k)): ∀c,P c:=λc=>h c.1 c.2.1 c.2.2.1 c.2.2.2.1 c.2.2.2.2.1 c.2.2.2.2.2.1 c.2.2.2.2.2.2
theorem wr {a:T9 P9}(u: ∀x∈a.toList,U x){i:G9}(h:i<a.size){P:Prop}(q: ∀y,a[i]? =some y->a.toList[i]? =some y->U y->P):P:=q a[i] (by simp [h]) (by simp [h]) (u _ (by simp))
structure LoI (R:P9->P9->M6)(a b:T9 P9)(st st':N3)(n:G9)(out:T9 P9)(ia ib:G9):Prop where
 g:Gal st st'
 m:MA R a b ia ib out
 a:ia+1<a.size
 b:ib<b.size
 n:n<=ia+ib
def LoO (R:P9->P9->M6)(a b:T9 P9)(st st':N3)(n:G9)(r:P2 (T9 P9))(out:T9 P9)(ia ib:G9):Prop:=Gal st st'/\match r with|some c=>yJ R a b c|none=>LoI R a b st st' n out ia ib
section
variable {a b out:T9 P9}{st st':N3}{n k ia ib:G9}
theorem LoI.more (h:LoI R a b st st' n out ia ib)(l:k<=n):LoI R a b st st' k out ia ib:=⟨h.g,h.m,h.a,h.b,S1 l h.n⟩
theorem LoI.here (h:LoI R a b st st' n out ia ib):LoI R a b st st' (ia+ib) out ia ib:=⟨h.g,h.m,h.a,h.b,P3 _⟩
theorem LoI.at {s:N3}(h:LoI R a b st st' n out ia ib)(g:Gal st s)(l:k<=n):LoI R a b st s k out ia ib:=⟨g,h.m,h.a,h.b,S1 l h.n⟩
theorem LoI.never {P:Prop}(h:LoI R a b st st' n out ia ib)(l:a.size+b.size<=n):P:=absurd (S1 l h.n) (Nat.not_le_of_lt (Nat.add_lt_add (K2 h.a) h.b))
end
theorem Lf {a b:T9 P9}{st:N3}{Q:T9 P9->N3->Prop}(ak:WY prog w A J κ U R)(kd:kindOf st=κ)(t:Two U R a b)
 (na:1<=a.size)(nb:1<=b.size)(first: ∀y z,b.toList[0]? =some y->a.toList[0]? =some z->R y z=true)
 (q: ∀c st',Gal st st'->yJ R a b c->Q c st'):Tm prog w A E J (mLo a b) Q st:=by
 refine .bind (.rule (.bind (wr t.ub nb λb0 eb0 lb0 ub0=> .elem eb0 ?_)));have m0:MA R a b 0 1 #[b0]:=MA.pushB t (out:= #[]) (MI.start _ _) lb0 (λz hz=>first _ z lb0 hz);refine .eq2 (x:=1) (y:=b.size) (λz1=> .pure (q _ _ (Gal.refl st) (MA.done t m0 (M0 _) nb (.inr z1)))) λz1=> .eq2 (x:=0+1) (y:=a.size) (λz2=> .pure (q _ _ (Gal.refl st) (MA.lastA t m0 z2 nb))) λz2=> .bind (.get ?_)
 refine .bind (Tm.mono (Tm.range (λi c st'=>LoI R a b st st' (i+1) c.2.1 c.2.2.1 c.2.2.2.1)
  (Q:=λc st'=> ∃r,c.1=some r/\Gal st st'/\yJ R a b r) (M0 _) ⟨Gal.refl st,m0,A5 na z2,A5 nb z1,P3 _⟩ ?_ ?_) ?_)
 ·intro i c st1 hi;revert c;refine LD λr out ia ib mg h=> ?_
  refine .bind (Tm.mono (Tm.range (λj c st'=>LoI R a b st st' (ia+ib+j) c.2.1 c.2.2.1 c.2.2.2.1)
   (Q:=λc st'=>LoO R a b st st' (ia+ib+1) c.1 c.2.1 c.2.2.1 c.2.2.2.1) (M0 _) h.here ?_ ?_) ?_)
  ·intro j c st2 hj;revert c;refine LF λr out ja jb ac bc h=> ?_
   refine .bind (wr t.ub h.b λy ey ly uy=> .elem ey (.bind (wr t.ua (K2 h.a) λx ex lx ux=> .elem ex (.bind (.lt ak (h.g.1.trans kd) uy ux (.if2 (c:=R y x=true) (λhb=> .bind (.elem ey ?_)) λhb=> .bind (.elem ex ?_)))))))
   ·have m1:=MA.pushB t h.m ly (λz hz=>by rw [lx] at hz;injection hz with hz;rw [<-hz];exact hb);refine .eq2 (x:=jb+1) (y:=b.size) (λc1=> .pure ⟨h.g,MA.done t m1 (R8 (K2 h.a)) h.b (.inr c1)⟩) λc1=> ?_
    have d:LoI R a b st st2 (ia+ib+(j+1)) (out.push y) ja (jb+1):=⟨h.g,m1,h.a,A5 (cT h.b) c1,aK h.n⟩;exact .if2 (λ_=> .pure ⟨h.g,d.more (aP (Z0 _ _) _)⟩) λ_=> .pure d
   ·have m1:=MA.pushA t h.m lx (λz hz=>by rw [ly] at hz;injection hz with hz;rw [<-hz];exact aC.mpr hb);refine .eq2 (x:=ja+1+1) (y:=a.size) (λc1=> .pure ⟨h.g,MA.lastA t m1 c1 (R8 h.b)⟩) λc1=> ?_
    have d:LoI R a b st st2 (ia+ib+(j+1)) (out.push x) (ja+1) jb:=⟨h.g,m1,A5 (cT h.a) c1,h.b,S1 (aK h.n) (U9 (Nat.succ_add _ _).symm)⟩;exact .if2 (λ_=> .pure ⟨h.g,d.more (aP (Z0 _ _) _)⟩) λ_=> .pure d
  ·exact λc st2 h=>h.never (Z0 _ _)
  ·intro c st2;revert c;refine LF λr out ja jb ac bc h'=> ?_
   cases r with
   |some r=>exact .pure ⟨r,rfl,h'⟩
   |none=>
   replace h':=h'.2
   refine .bind (.rule (.bind (Tm.mono (Tm.range (λj c st'=>LoI R a b st st' (ja+jb+j) c.2.1 c.2.2.1 c.2.2.2.1)
    (Q:=λc st'=>LoO R a b st st' (ja+jb) c.1 c.2.1 c.2.2.1 c.2.2.2.1) (M0 _) h'.here ?_ ?_) ?_)))
   ·clear h;intro j c st2 hj;revert c;refine LH λr out pa pb mg ac bc h=> ?_
    refine wr t.ub h.b λy ey ly uy=> ?_
    have g2:0<a.size-pa:=lV (K2 h.a);have g1:pa+(a.size-pa)<=a.size:=U9 (aQ (R8 (K2 h.a)));refine Tm.both (y:=mg) (x:=mg-1) (by rfl) (by rfl) λmg=> ?_
    refine .bind (Tm.modify (.bind (.elem ey (.bind (Ea (base:=pa) (n:=a.size-pa) ak (h.g.1.trans kd) t.o t.ua t.sa uy g1 g2 λk k1 k2 k3=> ?_)))));refine Tm.join (I:=λo ia=>MA R a b ia pb o/\ia+1<a.size/\pa<=ia/\ ∀x,a.toList[ia]? =some x->R y x=true) (x:=out) (z:=pa) (by rfl) ?_ ?_ ?_
    ·refine λo qa i1=> ?_
     have M2:=MA.pushB t i1.1 ly i1.2.2.2;have p1:=K2 i1.2.1;refine .bind (.elem ey (.eq2 (x:=pb+1) (y:=b.size) (λc3=> .pure ⟨h.g,MA.done t M2 (R8 p1) (U9 c3) (.inr c3)⟩) λc3=> ?_));have c8:pb+1<b.size:=A5 (cT h.b) c3;have g2:=lV c8;refine .bind (wr t.ua p1 λx ex lx ux=> .elem ex (.bind (Eb (base:=pb+1) (n:=b.size-(pb+1)) ak (h.g.1.trans kd) t.o t.ub t.sb ux (U9 (aQ (R8 c8))) g2 λk' q1 q2 q3=> ?_)));dsimp only;generalize ep:pb+1=p2 at M2 q1 q2 q3 c8 g2 ⊢;generalize eo:o.push y=o2 at M2 ⊢;refine Tm.join (I:=λo ib=>MA R a b qa ib o/\ib<b.size/\p2<=ib/\ ∀x',b.toList[ib]? =some x'->R x' x=false) (x:=o2) (z:=p2) (by rfl) ?_ ?_ ?_
     ·refine λo qb i2=> ?_
      have M4:=MA.pushA t i2.1 lx i2.2.2.2;refine .bind (.elem ex (.eq2 (x:=qa+1+1) (y:=a.size) (λc5=> .pure ⟨h.g,MA.lastA t M4 c5 (R8 i2.2.1)⟩) λc5=> ?_));have n1:ja+jb+j<=pa+pb:=h.n;have n2:ja+jb+(j+1)<=qa+1+qb:=by have:=i1.2.2.1;have:=i2.2.2.1;omega
      have d:LoI R a b st st2 (ja+jb+(j+1)) (o.push x) (qa+1) qb:=⟨h.g,M4,A5 (cT i1.2.1) c5,i2.2.1,n2⟩;exact .if2 (λ_=> .pure ⟨h.g,d.at h.g (Y2 _ _)⟩) λ_=> .pure (d.at h.g (P3 _))
     ·intro kz' H;have g3:p2+k'<=b.size:=S1 (aP q1 _) (U9 (aQ (R8 c8)));have M3:=MA.manyB t M2 k' g3 (λi hi y' hy z hz=>by rw [lx] at hz;injection hz with hz;rw [<-hz];exact q2 i hi y' hy);exact .eq2 (x:=p2+k') (y:=b.size) (λc4=> .pure ⟨h.g,MA.done t M3 (R8 p1) g3 (.inr c4)⟩) λc4=>H _ _ ⟨M3,A5 g3 c4,Y2 _ _,λz hz=>q3 k' (P3 _) (by omega) z hz⟩
     ·exact λkz'=>⟨M2,c8,P3 _,λz hz=>q3 0 (g4 kz') g2 z hz⟩
    ·intro kz H;have g3:pa+k<=a.size:=S1 (aP k1 _) g1;have m1:=MA.manyA t h.m k g3 (λi hi x hx z hz=>by rw [ly] at hz;injection hz with hz;rw [<-hz];exact k2 i hi x hx);exact .eq2 (x:=pa+k+1) (y:=a.size) (λc1=> .pure ⟨h.g,MA.lastA t m1 c1 (R8 h.b)⟩) λc1=> .eq2 (x:=pa+k) (y:=a.size) (λc2=> .pure ⟨h.g,MA.done t m1 g3 (R8 h.b) (.inl c2)⟩) λc2=>H _ _ ⟨m1,A5 (A5 g3 c2) c1,Y2 _ _,λx hx=>k3 k (P3 _) (by omega) x hx⟩
    ·exact λkz=>⟨h.m,h.a,P3 _,λx hx=>k3 0 (g4 kz) g2 x hx⟩
   ·exact λc st3 h=>h.never (Z0 _ _)
   ·intro c st3;revert c;refine LH λr out pa pb mg ac bc h3=> ?_
    cases r with
    |some r=>exact .pure ⟨r,rfl,h3⟩
    |none=>exact .bind (Tm.modify (.pure (h3.2.at h3.1 (S1 (aK h.n) h'.n))))
 ·exact λc st1 h=>h.never (Y2 _ _)
 ·intro c st1;revert c;refine LD λr out ia ib mg h=> ?_
  obtain⟨c,rfl,gl,wh⟩:=h;exact .pure (q c st1 gl wh)
end
section
variable {prog:R5}{w:N0}{A:T0}{E:G1->G3->Prop}{J:G3->Prop}{κ:SortKind}{U:P9->Prop}{R:P9->P9->M6}
abbrev Flp (R:P9->P9->M6):P9->P9->M6:=λx y=>R y x
theorem Ordd.flip (o:Ordd U R):Ordd U (Flp R):=⟨λx y ux uy h=>o.asym y x uy ux h,λx y z ux uy uz h=>(o.neg z y x uz uy ux h).symm⟩
variable {l:G0 P9}
theorem jX (s:Srt R l):Srt (Flp R) l.reverse:=cW.mpr s
theorem UV (s:Srt (Flp R) l):Srt R l.reverse:=cW.mpr s
variable {n:G9}
theorem GZ (h1:1<=n)(hn:n<=l.length):l.reverse[l.length-n]? =l[n-1]? :=by
 rw [Z9 (by omega)]
 congr 1;omega
theorem zP {z:P9}(hn:n<=l.length)(h:l.reverse[l.length-n]? =some z):1<=n/\l[n-1]? =some z:=by
 have:=(D0.mp h).1;rw [M1] at this;have n1:1<=n:=by omega
 exact⟨n1,by rw [<-GZ n1 hn];exact h⟩
theorem vB (l:G0 P9){n:G9}(hn:n<=l.length):l.reverse.drop (l.length-n)=(l.take n).reverse:=by
 rw [List.drop_reverse]
 congr 2;omega
def MH (R:P9->P9->M6)(a b:T9 P9)(na nb:G9)(out:T9 P9):Prop:=MI (Flp R) b.toList.reverse a.toList.reverse (b.toList.length-nb) (a.toList.length-na) out.toList
structure TwoH (U:P9->Prop)(R:P9->P9->M6)(a b:T9 P9):Prop where
 o:Ordd U R
 ua: ∀x∈a.toList,U x
 ub: ∀x∈b.toList,U x
 sa:Srt R a.toList
 sb:Srt R b.toList
 first: ∀z∈a.toList,∀y,b.toList[0]? =some y->R y z=true
section
variable {a b out:T9 P9}{na nb:G9}
theorem TwoH.fa (t:TwoH U R a b): ∀x∈a.toList.reverse,U x:=λx hx=>t.ua x (A7.mp hx)
theorem TwoH.fb (t:TwoH U R a b): ∀x∈b.toList.reverse,U x:=λx hx=>t.ub x (A7.mp hx)
theorem MH.start (a b:T9 P9):MH R a b a.toList.length b.toList.length #[]:=by
 unfold MH;rw [lW,lW];exact MI.start _ _
theorem MH.pushA (t:TwoH U R a b){y:P9}(m:MH R a b na nb out)(h1:1<=na)(hn:na<=a.toList.length)(hb:nb<=b.toList.length)(hy:a.toList[na-1]? =some y)(lt: ∀z,1<=nb->b.toList[nb-1]? =some z->R z y=true):MH R a b (na-1) nb (out.push y):=by
 have:=MI.pushB m t.o.flip t.fb t.fa (jX t.sb) (jX t.sa) (by rw [GZ h1 hn];exact hy) (λz hz=>lt z (zP hb hz).1 (zP hb hz).2);unfold MH;rw [aB,show a.toList.length-(na-1)=a.toList.length-na+1 by omega];exact this
theorem MH.pushB (t:TwoH U R a b){y:P9}(m:MH R a b na nb out)(h1:1<=nb)(hn:nb<=b.toList.length)(ha:na<=a.toList.length)(hy:b.toList[nb-1]? =some y)(ge: ∀z,1<=na->a.toList[na-1]? =some z->R y z=false):MH R a b na (nb-1) (out.push y):=by
 have:=MI.pushA m t.o.flip t.fb t.fa (jX t.sb) (jX t.sa) (by rw [GZ h1 hn];exact hy) (λz hz=>ge z (zP ha hz).1 (zP ha hz).2);unfold MH;rw [aB,show b.toList.length-(nb-1)=b.toList.length-nb+1 by omega];exact this
theorem vC (a:T9 P9)(n:G9):(a.extract 0 n).toList=a.toList.take n:=by
 rw [X3,Q0,oK,Nat.sub_zero]
theorem MH.done (t:TwoH U R a b)(m:MH R a b na nb out)(ha:na<=a.toList.length)(hb:nb<=b.toList.length)(h:na=0\/nb=0):yJ R a b (a.extract 0 na++b.extract 0 nb++out.reverse):=by
 have:=MI.done m t.o.flip t.fb t.fa (jX t.sb) (jX t.sa) (by rw [M1];omega) (by rw [M1];omega) (by rw [M1,M1];omega);rw [vB _ ha,vB _ hb] at this;have e:(a.extract 0 na++b.extract 0 nb++out.reverse).toList=(out.toList++(b.toList.take nb).reverse++(a.toList.take na).reverse).reverse:=by
  rw [B2,B2,vC,vC,dH];simp [P7]
 unfold yJ;rw [e];refine⟨(K3 _).trans (this.1.trans ?_),UV this.2⟩;exact(mQ (K3 _) (K3 _)).trans Z8
theorem MH.firstB (t:TwoH U R a b)(m:MH R a b na nb out)(ha:na<=a.toList.length)(hb:nb=1)(hb':1<=b.toList.length):yJ R a b (b.extract 0 nb++a.extract 0 na++out.reverse):=by
 subst hb;have:=MI.lastA m t.o.flip t.fb t.fa (jX t.sb) (jX t.sa) (by rw [M1];omega) (by rw [M1];omega) (λz hz y hy=>by
  rw [M1] at hy;have:=(zP hb' hy).2;exact t.first z (A7.mp hz) y (by simpa using this))
 rw [vB _ ha,vB _ hb'] at this;have e:(b.extract 0 1++a.extract 0 na++out.reverse).toList=(out.toList++(a.toList.take na).reverse++(b.toList.take 1).reverse).reverse:=by
  rw [B2,B2,vC,vC,dH];simp [P7]
 unfold yJ;rw [e];refine⟨(K3 _).trans (this.1.trans ?_),UV this.2⟩;exact(mQ (K3 _) (K3 _)).trans Z8
theorem UW (l:G0 P9){p n:G9}(h1:p<=n)(hn:n<=l.length):(l.reverse.drop (l.length-n)).take (n-p)=((l.drop p).take (n-p)).reverse:=by
 rw [vB l hn,List.take_reverse,T1,i6,Z4 hn,show n-(n-p)=p by omega]
theorem Pa (a:T9 P9){p n:G9}(h:p<=n):(a.extract p n).reverse.toList=((a.toList.drop p).take (n-p)).reverse:=by
 rw [dH,X3,Q0]
theorem MH.manyA (t:TwoH U R a b)(m:MH R a b na nb out)(p:G9)(hp:p<=na)(hn:na<=a.toList.length)(hb:nb<=b.toList.length)(h: ∀i,p<=i->i<na-> ∀y,a.toList[i]? =some y-> ∀z,1<=nb->b.toList[nb-1]? =some z->R z y=true):MH R a b p nb (out++(a.extract p na).reverse):=by
 have:=MI.manyB t.o.flip t.fb t.fa (jX t.sb) (jX t.sa) (na-p) m (by rw [M1];omega) (λi hi y hy z hz=>by
  rw [Z9 (by omega)] at hy;exact h _ (by omega) (by omega) y hy z (zP hb hz).1 (zP hb hz).2)
 rw [UW _ hp hn] at this;unfold MH;rw [B2,Pa _ hp,show a.toList.length-p=a.toList.length-na+(na-p) by omega];exact this
theorem MH.manyB (t:TwoH U R a b)(m:MH R a b na nb out)(p:G9)(hp:p<=nb)(hn:nb<=b.toList.length)(ha:na<=a.toList.length)(h: ∀i,p<=i->i<nb-> ∀y,b.toList[i]? =some y-> ∀z,1<=na->a.toList[na-1]? =some z->R y z=false):MH R a b na p (out++(b.extract p nb).reverse):=by
 have:=MI.manyA t.o.flip t.fb t.fa (jX t.sb) (jX t.sa) (nb-p) m (by rw [M1];omega) (λi hi y hy z hz=>by
  rw [Z9 (by omega)] at hy;exact h _ (by omega) (by omega) y hy z (zP ha hz).1 (zP ha hz).2)
 rw [UW _ hp hn] at this;unfold MH;rw [B2,Pa _ hp,show b.toList.length-p=b.toList.length-nb+(nb-p) by omega];exact this
end
def mHi:T9 P9->T9 P9->U0 N3 Sem (T9 P9):=sortPriv% PySem.Builtin.mergeHi
section
variable {arr:T9 P9}{y:P9}{n hint:G9}{st:N3}{Q:P2 G9->N3->Prop}
theorem Al (ak:WY prog w A J κ U R)(kd:kindOf st=κ)(o:Ordd U R)(u: ∀x∈arr.toList,U x)(s:Srt R arr.toList)(uy:U y)(hn:n<=arr.size)(hh:hint<n)
 (q: ∀k,k<=n->(∀i,i<k-> ∀x,arr.toList[i]? =some x->R y x=false)->(∀i,k<=i->i<n-> ∀x,arr.toList[i]? =some x->R y x=true)->Q (some k) st):Tm prog w A E J (gal false y arr 0 n hint) Q st:=
 Ea ak kd o u s uy (by rw [aJ];exact hn) hh λk h k2 k3=>q k h (λi hi x hx=>k2 i hi x (by rw [aJ];exact hx)) λi hi hj x hx=>k3 i hi hj x (by rw [aJ];exact hx)
theorem Am (ak:WY prog w A J κ U R)(kd:kindOf st=κ)(o:Ordd U R)(u: ∀x∈arr.toList,U x)(s:Srt R arr.toList)(uy:U y)(hn:n<=arr.size)(hh:hint<n)
 (q: ∀k,k<=n->(∀i,i<k-> ∀x,arr.toList[i]? =some x->R x y=true)->(∀i,k<=i->i<n-> ∀x,arr.toList[i]? =some x->R x y=false)->Q (some k) st):Tm prog w A E J (gal true y arr 0 n hint) Q st:=
 Eb ak kd o u s uy (by rw [aJ];exact hn) hh λk h k2 k3=>q k h (λi hi x hx=>k2 i hi x (by rw [aJ];exact hx)) λi hi hj x hx=>k3 i hi hj x (by rw [aJ];exact hx)
end
structure HiI (R:P9->P9->M6)(a b:T9 P9)(st st':N3)(n N na nb:G9)(out:T9 P9):Prop where
 g:Gal st st'
 m:MH R a b na nb out
 a':na<=a.size
 b':nb<=b.size
 a:1<=na
 b:2<=nb
 n:n+na+nb<=N
def HiO (R:P9->P9->M6)(a b:T9 P9)(st st':N3)(n N:G9)(r:P2 (T9 P9))(na nb:G9)(out:T9 P9):Prop:=Gal st st'/\match r with|some c=>yJ R a b c|none=>HiI R a b st st' n N na nb out
section
variable {a b out:T9 P9}{st st' s:N3}{n N k M na nb:G9}
theorem HiI.at (h:HiI R a b st st' n N na nb out)(g:Gal st s)(l:n+na+nb<=N->k+na+nb<=M):HiI R a b st s k M na nb out:=⟨g,h.m,h.a',h.b',h.a,h.b,l h.n⟩
theorem HiI.here (h:HiI R a b st st' n N na nb out):HiI R a b st st' 0 (na+nb) na nb out:=h.at h.g λ_=>by omega
theorem HiI.never {P:Prop}(h:HiI R a b st st' n N na nb out)(l:N<=n):P:=by have:=h.n;have:=h.a;omega
theorem HiI.le (h:HiI R a b st st' n N na nb out):na+nb<=a.size+b.size:=Nat.add_le_add h.a' h.b'
theorem HiI.a1 (h:HiI R a b st st' n N na nb out):na-1<a.size:=R3 (bU h.a aG) h.a'
theorem HiI.b1 (h:HiI R a b st st' n N na nb out):nb-1<b.size:=R3 (bU (K2 h.b) aG) h.b'
end
theorem Me (h:2<=n)(c: ¬n-1=1):2<=n-1:=by omega
theorem Pb (c: ¬n-1=0):1<=n-1:=bV c
theorem Lg {a b:T9 P9}{st:N3}{Q:T9 P9->N3->Prop}(ak:WY prog w A J κ U R)(kd:kindOf st=κ)(t:TwoH U R a b)
 (na:1<=a.size)(nb:1<=b.size)(last: ∀y z,b.toList[b.size-1]? =some y->a.toList[a.size-1]? =some z->R y z=true)
 (q: ∀c st',Gal st st'->yJ R a b c->Q c st'):Tm prog w A E J (mHi a b) Q st:=by
 refine .bind (.rule (.bind (wr t.ua (bU na aG) λa0 ea0 la0 ua0=> .elem ea0 ?_)));have m0:MH R a b (a.size-1) b.size #[a0]:=MH.pushA t (MH.start (R:=R) a b) na (P3 _) (P3 _) la0 (λz _ hz=>last z a0 hz la0);have n1:a.size-1<=a.size:=rL _ _;refine .eq2 (x:=a.size-1) (y:=0) (λz1=> .pure (q _ _ (Gal.refl st) (MH.done t m0 n1 (P3 _) (.inl z1)))) λz1=> .eq2 (x:=b.size) (y:=1) (λz2=> .pure (q _ _ (Gal.refl st) (MH.firstB t m0 n1 z2 nb))) λz2=> .bind (.get ?_)
 refine .bind (Tm.mono (Tm.range (λi c st'=>HiI R a b st st' (i+1) (a.size+b.size) c.2.1 c.2.2.1 c.2.2.2.1)
  (Q:=λc st'=> ∃r,c.1=some r/\Gal st st'/\yJ R a b r) (M0 _) ⟨Gal.refl st,m0,n1,P3 _,Pb z1,by dsimp only;omega,by dsimp only;omega⟩ ?_ ?_) ?_)
 ·intro i c st1 hi;revert c;refine LD λr ia ib out mg h=> ?_
  refine .bind (Tm.mono (Tm.range (λj c st'=>HiI R a b st st' j (ia+ib) c.2.1 c.2.2.1 c.2.2.2.1)
   (Q:=λc st'=>HiO R a b st st' 1 (ia+ib) c.1 c.2.1 c.2.2.1 c.2.2.2.1) (M0 _) h.here ?_ ?_) ?_)
  ·intro j c st2 hj;revert c;refine LF λr ja jb out ac bc h=> ?_
   refine .bind (wr t.ub h.b1 λy ey ly uy=> .elem ey (.bind (wr t.ua h.a1 λx ex lx ux=> .elem ex (.bind (.lt ak (h.g.1.trans kd) uy ux (.if2 (c:=R y x=true) (λhb=> .bind (.elem ex ?_)) λhb=> .bind (.elem ey ?_)))))))
   ·have m1:=MH.pushA t h.m h.a h.a' h.b' lx (λz _ hz=>by rw [ly] at hz;injection hz with hz;rw [<-hz];exact hb);refine .eq2 (x:=ja-1) (y:=0) (λc1=> .pure ⟨h.g,MH.done t m1 (R8 h.a1) h.b' (.inl c1)⟩) λc1=> ?_
    have d:HiI R a b st st2 (j+1) (ia+ib) (ja-1) jb (out.push x):=⟨h.g,m1,R8 h.a1,h.b',Pb c1,h.b,by have:j+ja+jb<=ia+ib:=h.n;have:1<=ja:=h.a;have:2<=jb:=h.b;omega⟩;exact .if2 (λ_=> .pure ⟨h.g,d.at h.g λ_=>by omega⟩) λ_=> .pure d
   ·have m1:=MH.pushB t h.m (R8 h.b) h.b' h.a' ly (λz _ hz=>by rw [lx] at hz;injection hz with hz;rw [<-hz];exact aC.mpr hb);refine .eq2 (x:=jb-1) (y:=1) (λc1=> .pure ⟨h.g,MH.firstB t m1 h.a' c1 nb⟩) λc1=> ?_
    have d:HiI R a b st st2 (j+1) (ia+ib) ja (jb-1) (out.push y):=⟨h.g,m1,h.a',R8 h.b1,h.a,Me h.b c1,by have:j+ja+jb<=ia+ib:=h.n;have:1<=ja:=h.a;have:2<=jb:=h.b;omega⟩;exact .if2 (λ_=> .pure ⟨h.g,d.at h.g λ_=>by omega⟩) λ_=> .pure d
  ·exact λc st2 h'=>h'.never h.le
  ·intro c st2;revert c;refine LF λr ja jb out ac bc h'=> ?_
   cases r with
   |some r=>exact .pure ⟨r,rfl,h'⟩
   |none=>
   replace h':=h'.2
   refine .bind (.rule (.bind (Tm.mono (Tm.range (λj c st'=>HiI R a b st st' j (ja+jb) c.2.1 c.2.2.1 c.2.2.2.1)
    (Q:=λc st'=>HiO R a b st st' 0 (ja+jb) c.1 c.2.1 c.2.2.1 c.2.2.2.1) (M0 _) h'.here ?_ ?_) ?_)))
   ·clear h;intro j c st2 hj;revert c;refine LH λr pa pb out mg ac bc h=> ?_
    refine wr t.ub h.b1 λy ey ly uy=> ?_
    refine Tm.both (y:=mg) (x:=mg-1) (by rfl) (by rfl) λmg=> ?_
    refine .bind (Tm.modify (.bind (.elem ey (.bind (Al (n:=pa) ak (h.g.1.trans kd) t.o t.ua t.sa uy h.a' (bU h.a aG) λk k1 k2 k3=> ?_)))));dsimp only;generalize eac:pa-k=ac;refine Tm.join (I:=λna o=>MH R a b na pb o/\1<=na/\na<=pa/\ ∀z,a.toList[na-1]? =some z->R y z=false) (x:=pa) (z:=out) (by rfl) ?_ ?_ ?_
    ·refine λqa o i1=> ?_
     have la:=S1 i1.2.2.1 h.a';have M2:=MH.pushB t i1.1 (R8 h.b) h.b' la ly (λz _ hz=>i1.2.2.2 z hz);refine .bind (.elem ey (.eq2 (x:=pb-1) (y:=1) (λc3=> .pure ⟨h.g,MH.firstB t M2 la c3 nb⟩) λc3=> ?_));have c8:=Me h.b c3;have lb:=R8 h.b1;have n1:j+pa+pb<=ja+jb:=h.n;have n2:pb=pb-1+1:=(Nat.sub_add_cancel (R8 h.b)).symm;refine .bind (wr t.ua (R3 (bU i1.2.1 aG) la) λx ex lx ux=> .elem ex (.bind (Am (n:=pb-1) ak (h.g.1.trans kd) t.o t.ub t.sb ux lb (bU (K2 c8) aG) λk' q1 q2 q3=> ?_)));dsimp only;dsimp only at c8 lb;generalize ep:pb-1=p2 at M2 q1 q2 q3 c8 lb n2 ⊢;generalize eo:o.push y=o2 at M2 ⊢;generalize ebc:p2-k'=bc;refine Tm.join (I:=λnb o=>MH R a b qa nb o/\2<=nb/\nb<=p2/\ ∀z,b.toList[nb-1]? =some z->R z x=true) (x:=p2) (z:=o2) (by rfl) ?_ ?_ ?_
     ·refine λqb o i2=> ?_
      have lb':=S1 i2.2.2.1 lb;have M4:=MH.pushA t i2.1 i1.2.1 la lb' lx (λz _ hz=>i2.2.2.2 z hz);have la':=S1 (rL qa 1) la;refine .bind (.elem ex (.eq2 (x:=qa-1) (y:=0) (λc5=> .pure ⟨h.g,MH.done t M4 la' lb' (.inl c5)⟩) λc5=> ?_));have n3:j+1+(qa-1)+qb<=ja+jb:=by have:=i1.2.1;have:=i1.2.2.1;have:=i2.2.2.1;omega
      have d:HiI R a b st st2 (j+1) (ja+jb) (qa-1) qb (o.push x):=⟨h.g,M4,la',lb',Pb c5,i2.2.1,n3⟩;exact .if2 (λ_=> .pure ⟨h.g,d.at h.g λ_=>by omega⟩) λ_=> .pure (d.at h.g id)
     ·intro kz' H;have M3:=MH.manyB t M2 k' q1 lb la (λi hi1 hi2 y' hy z hz1 hz=>by rw [lx] at hz;injection hz with hz;rw [<-hz];exact q3 i hi1 hi2 y' hy);exact .eq2 (x:=k') (y:=1) (λc4=> .pure ⟨h.g,MH.firstB t M3 la c4 nb⟩) λc4=> .eq2 (x:=k') (y:=0) (λc7=> .pure ⟨h.g,MH.done t M3 la (S1 q1 lb) (.inr c7)⟩) λc7=>H _ _ ⟨M3,by omega,q1,λz hz=>q2 (k'-1) (bU (bV c7) aG) z hz⟩
     ·exact λkz'=>⟨M2,c8,P3 _,λz hz=>q2 (p2-1) (by omega) z hz⟩
    ·intro kz H;have m1:=MH.manyA t h.m k k1 h.a' h.b' (λi hi1 hi2 x hx z hz1 hz=>by rw [ly] at hz;injection hz with hz;rw [<-hz];exact k3 i hi1 hi2 x hx);exact .eq2 (x:=k) (y:=0) (λc1=> .pure ⟨h.g,MH.done t m1 (S1 k1 h.a') h.b' (.inl c1)⟩) λc1=>H _ _ ⟨m1,bV c1,k1,λz hz=>k2 (k-1) (bU (bV c1) aG) z hz⟩
    ·exact λkz=>⟨h.m,h.a,P3 _,λz hz=>k2 (pa-1) (by have:1<=pa:=h.a;omega) z hz⟩
   ·exact λc st3 h=>h.never h'.le
   ·intro c st3;revert c;refine LH λr pa pb out mg ac bc h3=> ?_
    cases r with
    |some r=>exact .pure ⟨r,rfl,h3⟩
    |none=>exact .bind (Tm.modify (.pure (h3.2.at h3.1 λl=>by have n1:i+1+ia+ib<=a.size+b.size:=h.n;have n2:1+ja+jb<=ia+ib:=h'.n;dsimp only at l ⊢;omega)))
 ·exact λc st1 h=>h.never (Y2 _ _)
 ·intro c st1;revert c;refine LD λr ia ib out mg h=> ?_
  obtain⟨c,rfl,gl,wh⟩:=h;exact .pure (q c st1 gl wh)
end
section
variable {prog:R5}{w:N0}{A:T0}{E:G1->G3->Prop}{J:G3->Prop}{κ:SortKind}{U:P9->Prop}{R:P9->P9->M6}
def seg (l:G0 P9)(p n:G9):G0 P9:=(l.drop p).take n
variable {n:G9}
theorem WA {l:G0 P9}{p i:G9}(hi:i<n):(seg l p n)[i]? =l[p+i]? :=by
 unfold seg;rw [Q4 hi,bW]
theorem Zz {l:G0 P9}{p:G9}(h:p+n<=l.length):(seg l p n).length=n:=by
 unfold seg;rw [T1,N7];omega
theorem Ug {l:G0 P9}{p:G9}{x:P9}(h:x∈seg l p n):x∈l:=B9 (C7 h)
theorem Ec {left:M6}{arr:T9 P9}{y:P9}{base hint:G9}{st:N3}{Q:P2 G9->N3->Prop}(ak:WY prog w A J κ U R)(kd:kindOf st=κ)(o:Ordd U R)(u: ∀x∈arr.toList,U x)(s:Srt R (seg arr.toList base n))(uy:U y)(hn:base+n<=arr.size)(hh:hint<n)
 (q: ∀k,k<=n->(∀x∈(seg arr.toList base n).take k,(if left=true then R x y else !R y x)=true)->(∀x∈(seg arr.toList base n).drop k,(if left=true then R x y else !R y x)=false)->Q (some k) st):Tm prog w A E J (gal left y arr base n hint) Q st:=by
 have ln:arr.toList.length=arr.size:=by simp
 have sl:(seg arr.toList base n).length=n:=Zz (by omega);have us: ∀x∈seg arr.toList base n,U x:=λx hx=>u x (Ug hx)
 refine GY ak kd uy (λi hi=> ?_) (λi j hij hj h=> ?_) hh (λk k1 k2 k3=>q k k1 (λx hx=> ?_) (λx hx=> ?_))
 ·obtain⟨x,lx,ex⟩:=Zy (show base+i<arr.size by omega);exact⟨x,ex,u x (P5 lx)⟩
 ·obtain⟨x,lx,_⟩:=Zy (show base+i<arr.size by omega);obtain⟨z,lz,_⟩:=Zy (show base+j<arr.size by omega);have ux:=u x (P5 lx);have uz:=u z (P5 lz);have le:=Zx s o us hij (by rw [WA (by omega)];exact lx) (by rw [WA hj];exact lz);rw [wP lz] at h;rw [wP lx];cases left with
  |true=>
   have hz:R z y=true:=by simpa using h
   rcases o.neg z x y uz ux uy hz with v|v
   ·rw [le] at v;cases v
   ·simp [v]
  |false=>
   have hz:R y z=false:=by simpa using h
   have:=o.trans ux uz uy le hz;simp [this]
 ·obtain⟨i,hi,e⟩:=U7 hx;rw [T1,sl] at hi;have lx:arr.toList[base+i]? =some x:=by
   rw [<-WA (n:=n) (by omega),G8 (by omega),<-e,l8]
  have:=k2 i (by omega);rw [wP lx] at this;exact this
 ·obtain⟨i,hi,e⟩:=U7 hx;rw [N7,sl] at hi;have lx:arr.toList[base+(k+i)]? =some x:=by
   rw [<-WA (n:=n) (by omega),G8 (by omega),<-e,l9]
  have:=k3 (k+i) (by omega) (by omega);rw [wP lx] at this;exact this
theorem UX: ∀ (m:G0 P9) (arr:T9 P9) (p d:G9),p+d+m.length<=arr.size->((m.zipIdx d).foldl (λ(c:T9 P9) (x:P9×G9)=>c.setIfInBounds (p+x.2) x.1) arr).toList=arr.toList.take (p+d)++m++arr.toList.drop (p+d+m.length)
 | [],arr,p,d,_=>by simp
 |x::m,arr,p,d,h=>by
  rw [P8] at h;rw [List.zipIdx_cons,m8];rw [UX m _ p (d+1) (by rw [gP];omega)];have hl:arr.toList.length=arr.size:=by simp
  rw [fN];have e1:(arr.toList.set (p+d) x).take (p+(d+1))=arr.toList.take (p+d)++ [x]:=by
   rw [show p+(d+1)=p+d+1 by omega,A2,U8 (by omega)];rw [List.take_set_of_le (P3 _)];rfl
  have e2:(arr.toList.set (p+d) x).drop (p+(d+1)+m.length)=arr.toList.drop (p+d+(m.length+1)):=by
   rw [List.drop_set_of_lt (by omega),show p+(d+1)+m.length=p+d+(m.length+1) by omega]
  rw [e1,e2,P8];simp [P7]
end
section
variable {prog:R5}{w:N0}{A:T0}{E:G1->G3->Prop}{J:G3->Prop}{κ:SortKind}{U:P9->Prop}{R:P9->P9->M6}
theorem Tm.set {σ:Type}{st st':σ}{Q:PUnit->σ->Prop}(q:Q ⟨⟩ st'):Tm prog w A E J (MonadStateOf.set st':U0 σ Sem PUnit) Q st:=λs j=>by
 show R1 _ _ ((StateT.set st':U0 σ Sem PUnit).run st) _ _ _;exact P1 ⟨q,j⟩
theorem Pc (a:T9 P9){p n:G9}(h:p<=n):(a.extract p n).toList=seg a.toList p (n-p):=by
 rw [X3,Q0];rfl
theorem Pd (o:Ordd U R){l:G0 P9}(u: ∀x∈l,U x)(s:Srt R l){z:P9}(hz:l[l.length-1]? =some z){x:P9}(hx:x∈l):R z x=false:=by
 obtain⟨i,hi,e⟩:=U7 hx;exact Zx s o u (show i<=l.length-1 by omega) (by rw [G8 hi,e]) hz
theorem UY (o:Ordd U R){l:G0 P9}(u: ∀x∈l,U x)(s:Srt R l){z:P9}(hz:l[0]? =some z){x:P9}(hx:x∈l):R x z=false:=by
 obtain⟨i,hi,e⟩:=U7 hx;exact Zx s o u (M0 _) hz (by rw [G8 hi,e])
theorem ZA (o:Ordd U R){X Y c:G0 P9}{k k2:G9}{y0 x9:P9}(uX: ∀x∈X,U x)(uY: ∀x∈Y,U x)(sX:Srt R X)(sY:Srt R Y)(hy:Y[0]? =some y0)(hx:X[X.length-1]? =some x9)
 (f1: ∀x∈X.take k,R y0 x=false)(g2: ∀y∈Y.drop k2,R y x9=false)(hp:c.Perm (X.drop k++Y.take k2))(sc:Srt R c):(X.take k++c++Y.drop k2).Perm (X++Y)/\Srt R (X.take k++c++Y.drop k2):=by
 have uy0:=uY y0 (P5 hy);have ux9:=uX x9 (P5 hx);constructor
 ·have e:X++Y=X.take k++(X.drop k++Y.take k2)++Y.drop k2:=by
   rw [<-P7,T4,P7,T4]
  rw [e];exact(hp.append_left _).append_right _
 ·have inX: ∀x∈X.take k,∀z∈X.drop k,R z x=false:=λx hx z hz=>by
   have:Srt R (X.take k++X.drop k):=by rw [T4];exact sX
   exact(M8.mp this).2.2 x hx z hz
  have inY: ∀x∈Y.take k2,∀z∈Y.drop k2,R z x=false:=λx hx z hz=>by
   have:Srt R (Y.take k2++Y.drop k2):=by rw [T4];exact sY
   exact(M8.mp this).2.2 x hx z hz
  have xy: ∀x∈X.take k,∀y∈Y,R y x=false:=λx hx y hy'=>o.trans (uX x (C7 hx)) uy0 (uY y hy') (f1 x hx) (UY o uY sY hy hy')
  have yx: ∀x∈X,∀y∈Y.drop k2,R y x=false:=λx hx' y hy'=>o.trans (uX x hx') ux9 (uY y (B9 hy')) (Pd o uX sX hx hx') (g2 y hy')
  have xc: ∀x∈X.take k,∀z∈c,R z x=false:=λx hx z hz=>by
   rcases D3.mp (hp.mem_iff.mp hz) with v|v
   ·exact inX x hx z v
   ·exact xy x hx z (C7 v)
  refine M8.mpr ⟨M8.mpr ⟨sX.sublist (U3 _ _),sc,xc⟩,sY.sublist (K1 _ _),λx hx y hy=> ?_⟩;rcases D3.mp hx with v|v
  ·exact xy x v y (B9 hy)
  ·rcases D3.mp (hp.mem_iff.mp v) with v|v
   ·exact yx x (B9 v) y hy
   ·exact inY x v y hy
theorem YW (l:G0 P9){p n m:G9}:l=l.take p++(seg l p n++seg l (p+n) m)++l.drop (p+n+m):=by
 unfold seg;have e1:(l.drop (p+n)).take m++l.drop (p+n+m)=l.drop (p+n):=by
  rw [show l.drop (p+n+m)=(l.drop (p+n)).drop m by rw [V9],T4]
 have e2:(l.drop p).take n++l.drop (p+n)=l.drop p:=by
  rw [show l.drop (p+n)=(l.drop p).drop n by rw [V9],T4]
 rw [P7,P7,e1,e2,T4]
theorem Lh {st:N3}{Q:M6->N3->Prop}{i sa na pw sb nb pw2:G9}(ak:WY prog w A J κ U R)(kd:kindOf st=κ)(o:Ordd U R)(u: ∀x∈(R7 st).toList,U x)(p1:(M9 st)[i]? =some (sa,na,pw))(p2:(M9 st)[i+1]? =some (sb,nb,pw2))
 (hs:sa+na=sb)(n1:1<=na)(n2:1<=nb)(hz:sb+nb<=(R7 st).size)(s1:Srt R (seg (R7 st).toList sa na))(s2:Srt R (seg (R7 st).toList sb nb))(hf:X2 st=none)
 (q: ∀st' Z,kindOf st'=κ->X2 st'=none->M9 st'=((M9 st).setIfInBounds i (sa,na+nb,pw)).eraseIdxIfInBounds (i+1)->(R7 st').toList=(R7 st).toList.take sa++Z++(R7 st).toList.drop (sb+nb)->Z.Perm (seg (R7 st).toList sa na++seg (R7 st).toList sb nb)->Srt R Z->Q true st'):
 Tm prog w A E J (qR i) Q st:=by
 have ln:(R7 st).toList.length=(R7 st).size:=by simp
 unfold qR;refine .bind (.get ?_);dsimp only;rw [p1,p2];dsimp only;refine .bind (Tm.set ?_);subst hs;have lX:(seg (R7 st).toList sa na).length=na:=Zz (by omega);have lY:(seg (R7 st).toList (sa+na) nb).length=nb:=Zz (by omega);have uX: ∀x∈seg (R7 st).toList sa na,U x:=λx hx=>u x (Ug hx)
 have uY: ∀x∈seg (R7 st).toList (sa+na) nb,U x:=λx hx=>u x (Ug hx)
 obtain⟨y0,ly0,ey0⟩:=Zy (arr:=R7 st) (show sa+na<(R7 st).size by omega);obtain⟨x9,lx9,ex9⟩:=Zy (arr:=R7 st) (show sa+(na-1)<(R7 st).size by omega);have hy:(seg (R7 st).toList (sa+na) nb)[0]? =some y0:=by rw [WA (by omega)];exact ly0
 have hx:(seg (R7 st).toList sa na)[(seg (R7 st).toList sa na).length-1]? =some x9:=by rw [lX,WA (by omega)];exact lx9
 have uy0:=u y0 (P5 ly0);have ux9:=u x9 (P5 lx9);have c3:=YW (R7 st).toList (p:=sa) (n:=na) (m:=nb);have same: ∀ (st':N3),R7 st'=R7 st-> ∀k k2,(∀x∈(seg (R7 st).toList sa na).take k,R y0 x=false)->(∀y∈(seg (R7 st).toList (sa+na) nb).drop k2,R y x9=false)->(na<=k\/k2=0)->Srt R (seg (R7 st).toList sa na++seg (R7 st).toList (sa+na) nb):=λst' e k k2 f1 g2 h=>by
  have pl:(((seg (R7 st).toList sa na).drop k++(seg (R7 st).toList (sa+na) nb).take k2)).Perm ((seg (R7 st).toList sa na).drop k++(seg (R7 st).toList (sa+na) nb).take k2):= .refl _;have sc:Srt R ((seg (R7 st).toList sa na).drop k++(seg (R7 st).toList (sa+na) nb).take k2):=by
   rcases h with h|h
   ·rw [L8 (by omega),B3];exact s2.sublist (U3 _ _)
   ·rw [h,fM,E3];exact s1.sublist (K1 _ _)
  have:=(ZA o uX uY s1 s2 hy hx f1 g2 pl sc).2;rw [<-P7,T4,P7,T4] at this;exact this
 refine .bind (.elem ey0 (.bind (Ec (left:=false) ak kd o u s1 uy0 (show sa+na<=(R7 st).size by omega) (by omega) λk k1 f1 f2=> ?_)));have f1: ∀x∈(seg (R7 st).toList sa na).take k,R y0 x=false:=λx hx=>by simpa using f1 x hx
 have f2: ∀x∈(seg (R7 st).toList sa na).drop k,R y0 x=true:=λx hx=>by simpa using f2 x hx
 dsimp only
 by_cases z1:na-k=0
 ·rw [S8 (by simpa using z1)];refine .pure (q _ (seg (R7 st).toList sa na++seg (R7 st).toList (sa+na) nb) kd hf rfl c3 (.refl _) (same st rfl k nb f1 (λy hy=> ?_) (.inl (by omega))));rw [L8 (by omega)] at hy;cases hy
 rw [S7 (by simpa using z1)];refine .bind (.elem (show _=some x9 by rw [show sa+k+(na-k)-1=sa+(na-1) by omega];exact ex9) (.bind (Ec (left:=true) ak kd o u s2 ux9 (show sa+na+nb<=(R7 st).size by omega) (by omega) λk2 j1 g1 g2=> ?_)));have g1: ∀y∈(seg (R7 st).toList (sa+na) nb).take k2,R y x9=true:=λx hx=>by simpa using g1 x hx
 have g2: ∀y∈(seg (R7 st).toList (sa+na) nb).drop k2,R y x9=false:=λx hx=>by simpa using g2 x hx
 dsimp only
 by_cases z2:k2=0
 ·rw [S8 (by simpa using z2)];exact .pure (q _ _ kd hf rfl c3 (.refl _) (same st rfl k k2 f1 g2 (.inr z2)))
 rw [S7 (by simpa using z2)];have eX:((R7 st).extract (sa+k) (sa+na)).toList=(seg (R7 st).toList sa na).drop k:=by
  rw [Pc _ (by omega)];unfold seg;rw [i6,V9,show sa+na-(sa+k)=na-k by omega]
 have eY:((R7 st).extract (sa+na) (sa+na+k2)).toList=(seg (R7 st).toList (sa+na) nb).take k2:=by
  rw [Pc _ (by omega)];unfold seg;rw [i7,show sa+na+k2-(sa+na)=min k2 nb by omega]
 have sx:((R7 st).extract (sa+k) (sa+na)).size=na-k:=by rw [<-B0,eX,N7,lX]
 have sy:((R7 st).extract (sa+na) (sa+na+k2)).size=k2:=by rw [<-B0,eY,T1,lY];omega
 have hx2: ∀z,((seg (R7 st).toList sa na).drop k)[((seg (R7 st).toList sa na).drop k).length-1]? =some z->z=x9:=λz hz'=>by
  rw [N7,bW,lX,show k+(na-k-1)=na-1 by omega] at hz';rw [lX] at hx;rw [hx] at hz';injection hz' with hz';exact hz'.symm
 have hy2: ∀z,((seg (R7 st).toList (sa+na) nb).take k2)[0]? =some z->z=y0:=λz hz'=>by
  rw [Q4 (by omega),hy] at hz';injection hz' with hz';exact hz'.symm
 have put: ∀c:T9 P9,yJ R ((R7 st).extract (sa+k) (sa+na)) ((R7 st).extract (sa+na) (sa+na+k2)) c->(c.toList.zipIdx.foldl (λ(d:T9 P9) (x:P9×G9)=>d.setIfInBounds (sa+k+x.2) x.1) (R7 st)).toList=(R7 st).toList.take sa++((seg (R7 st).toList sa na).take k++c.toList++(seg (R7 st).toList (sa+na) nb).drop k2)++(R7 st).toList.drop (sa+na+nb):=λc wh=>by
  have lc:c.toList.length=na-k+k2:=by
   rw [wh.1.length_eq,P4,B0,B0,sx,sy]
  have:=UX c.toList (R7 st) (sa+k) 0 (by omega);rw [this,lc,iH,show sa+k+(na-k+k2)=sa+na+k2 by omega];have e1:(R7 st).toList.take (sa+k)=(R7 st).toList.take sa++(seg (R7 st).toList sa na).take k:=by
   unfold seg;rw [i7,Z4 k1,List.take_add]
  have e2:(R7 st).toList.drop (sa+na+k2)=(seg (R7 st).toList (sa+na) nb).drop k2++(R7 st).toList.drop (sa+na+nb):=by
   unfold seg;have h1:((R7 st).toList.drop (sa+na)).drop k2=(((R7 st).toList.drop (sa+na)).take nb++((R7 st).toList.drop (sa+na)).drop nb).drop k2:=by rw [T4]
   rw [U1 (by rw [T1,N7];omega),V9,V9] at h1;exact h1
  rw [e1,e2];simp [P7]
 have jr: ∀c:T9 P9,yJ R ((R7 st).extract (sa+k) (sa+na)) ((R7 st).extract (sa+na) (sa+na+k2)) c->_:=λc wh=>ZA o (c:=c.toList) uX uY s1 s2 hy hx f1 g2 (by have:=wh.1;rw [eX,eY] at this;exact this) wh.2
 by_cases z3:na-k<=k2
 ·rw [S8 z3];refine .bind (Lf ak kd ⟨o,λx hx=> ?_,λx hx=> ?_,?_,?_,λy hy z hz'=> ?_⟩ (by rw [sx];omega) (by rw [sy];omega) (λy z hy' hz'=> ?_) λc st' gl wh=> .bind (Tm.modify (.bind (.get (.pure ?_)))))
  ·rw [eX] at hx;exact uX x (B9 hx)
  ·rw [eY] at hx;exact uY x (C7 hx)
  ·rw [eX];exact s1.sublist (K1 _ _)
  ·rw [eY];exact s2.sublist (U3 _ _)
  ·rw [eY] at hy;rw [eX] at hz';rw [hx2 z hz'];exact g1 y hy
  ·rw [eY] at hy';rw [eX] at hz';rw [hy2 y hy'];exact f2 z (P5 hz')
  ·have e:X2 st'=none:=gl.2.2.2.trans hf;show Q (X2 st').isNone _;rw [e];refine q _ _ (gl.1.trans kd) e gl.2.2.1 ?_ (jr c wh).1 (jr c wh).2;have ea:R7 st'=R7 st:=gl.2.1;show (c.toList.zipIdx.foldl _ (R7 st')).toList=_;rw [ea];exact put c wh
 ·rw [S7 z3];refine .bind (Lg ak kd ⟨o,λx hx=> ?_,λx hx=> ?_,?_,?_,λz hz' y hy'=> ?_⟩ (by rw [sx];omega) (by rw [sy];omega) (λy z hy' hz'=> ?_) λc st' gl wh=> .bind (Tm.modify (.bind (.get (.pure ?_)))))
  ·rw [eX] at hx;exact uX x (B9 hx)
  ·rw [eY] at hx;exact uY x (C7 hx)
  ·rw [eX];exact s1.sublist (K1 _ _)
  ·rw [eY];exact s2.sublist (U3 _ _)
  ·rw [eY] at hy';rw [eX] at hz';rw [hy2 y hy'];exact f2 z hz'
  ·rw [eY] at hy';rw [eX,sx] at hz';have:=hx2 z (by rw [N7,lX];exact hz');rw [this];exact g1 y (P5 hy')
  ·have e:X2 st'=none:=gl.2.2.2.trans hf;show Q (X2 st').isNone _;rw [e];refine q _ _ (gl.1.trans kd) e gl.2.2.1 ?_ (jr c wh).1 (jr c wh).2;have ea:R7 st'=R7 st:=gl.2.1;show (c.toList.zipIdx.foldl _ (R7 st')).toList=_;rw [ea];exact put c wh
end
section
variable {prog:R5}{w:N0}{A:T0}{E:G1->G3->Prop}{J:G3->Prop}{κ:SortKind}{U:P9->Prop}{R:P9->P9->M6}
def Lies (st:N3)(P Z S:G0 P9):Prop:=(R7 st).toList=P++Z++S
def Arr (st st':N3):Prop:=kindOf st'=kindOf st/\M9 st'=M9 st/\X2 st'=X2 st/\gallopOf st'=gallopOf st
theorem Arr.refl (st:N3):Arr st st:=⟨rfl,rfl,rfl,rfl⟩
theorem Rb (xs:T9 P9)(P Z S:G0 P9)(h:xs.toList=P++Z++S):(mirror xs P.length (P.length+Z.length) ((P.length+Z.length-P.length) / 2)).toList=P++Z.reverse++S:=by
 have hl:xs.size=P.length+Z.length+S.length:=by rw [<-B0,h];simp [dD]
 refine mB λk=> ?_
 rw [O5,getElem?_mirror_all (by omega)]
 by_cases c:P.length<=k/\k<P.length+Z.length
 ·rw [S8 c,<-O5,h,P7,P7];have e1:(P++(Z++S))[P.length+(P.length+Z.length)-1-k]? =Z[P.length+Z.length-1-k]? :=by
   rw [M5 (by omega),C4 (by omega)]
   congr 1;omega
  have e2:(P++(Z.reverse++S))[k]? =Z[P.length+Z.length-1-k]? :=by
   rw [M5 (by omega),C4 (by rw [M1];omega),Z9 (by omega)]
   congr 1;omega
  rw [e1,e2]
 ·rw [S7 c,<-O5,h,P7,P7]
  by_cases d:k<P.length
  ·rw [C4 d,C4 d]
  ·have e1:(P++(Z++S))[k]? =S[k-P.length-Z.length]? :=by
    rw [M5 (by omega),M5 (by omega)]
   have e2:(P++(Z.reverse++S))[k]? =S[k-P.length-Z.length]? :=by
    rw [M5 (by omega),M5 (by rw [M1];omega),M1]
   rw [e1,e2]
theorem Tm.rev {st:N3}{P Z S:G0 P9}{i j:G9}{Q:Unit->N3->Prop}(h:Lies st P Z S)(hi:i=P.length)(hj:j=P.length+Z.length)(q: ∀st',Arr st st'->Lies st' P Z.reverse S->Q () st'):Tm prog w A E J (pA i j) Q st:=by
 rw [reverseSlice'_eq];subst hi hj;exact .modify (q _ ⟨rfl,rfl,rfl,rfl⟩ (Rb _ P Z S h))
theorem Tm.ltAt {st:N3}{x y:P9}{i j:G9}{Q:P2 M6->N3->Prop}(ak:WY prog w A J κ U R)(kd:kindOf st=κ)(hx:(R7 st).toList[i]? =some x)(hy:(R7 st).toList[j]? =some y)(ux:U x)(uy:U y)(q:Q (some (R x y)) st):Tm prog w A E J (ltAt' i j) Q st:=by
 rw [ltAt'_eq];exact .bind (.get (.bind (.elem (by rw [<-O5];exact hx) (.bind (.elem (by rw [<-O5];exact hy) (.lt ak kd ux uy q))))))
abbrev Dsc (R:P9->P9->M6)(l:G0 P9):Prop:=l.Pairwise λx y=>R x y=false
theorem NY {l:G0 P9}(d:Dsc R l):Srt R l.reverse:=cW.mpr d
theorem Rc (o:Ordd U R){l:G0 P9}{x y:P9}(u: ∀z∈l++ [x],U z)(uy:U y)(s:Srt R (l++ [x]))(h:R y x=false):Srt R (l++ [x]++ [y]):=by
 refine M8.mpr ⟨s,F4 _ _,λz hz v hv=> ?_⟩;rw [P0.mp hv];have ux:=u x (by simp);rcases D3.mp hz with w|w
 ·exact o.trans (u z hz) ux uy ((M8.mp s).2.2 z w x (by simp)) h
 ·rw [P0.mp w];exact h
theorem Re {l m:G0 P9}(s:Dsc R (l++m))(alike: ∀x∈m,∀y∈m,R x y=false):Dsc R (l++m.reverse):=by
 obtain⟨a,b,c⟩:=M8.mp s;refine M8.mpr ⟨a,?_,λx hx y hy=>c x hx y (A7.mp hy)⟩;rw [aL];intro i j hi hj _;exact alike _ (A7.mp (L6 hi)) _ (A7.mp (L6 hj))
end
section
variable {prog:R5}{w:N0}{A:T0}{E:G1->G3->Prop}{J:G3->Prop}{κ:SortKind}{U:P9->Prop}{R:P9->P9->M6}
theorem Arr.trans {a b c:N3}(x:Arr a b)(y:Arr b c):Arr a c:=⟨y.1.trans x.1,y.2.1.trans x.2.1,y.2.2.1.trans x.2.2.1,y.2.2.2.trans x.2.2.2⟩
variable {P Z:G0 P9}
theorem Lies.rest {st:N3}{S:G0 P9}(h:Lies st P Z S){i:G9}:(R7 st).toList[P.length+Z.length+i]? =S[i]? :=by
 rw [h,M5 (by rw [P4];omega),P4]
 congr 1;omega
theorem Lies.end {st:N3}{W S:G0 P9}{x:P9}(h:Lies st P (W++ [x]) S):(R7 st).toList[P.length+W.length]? =some x:=by
 rw [h,P7,M5 (by omega),P7,M5 (by omega)];simp
theorem WB {l:G0 P9}(h:1<=l.length): ∃W x,l=W++ [x]:=by
 rcases List.eq_nil_or_concat l with e|⟨W,x,e⟩
 ·subst e;simp at h
 ·exact⟨W,x,by rw [e,List.concat_eq_append]⟩
structure Fall (R:P9->P9->M6)(T Z1 Z2:G0 P9)(n:G9):Prop where
 len:(Z1++Z2).length=n
 perm:(Z1++Z2).Perm (T.take n)
 dsc:Dsc R (Z1++Z2)
 alike: ∀x∈Z2,∀y∈Z2,R x y=false
 ne:1<=Z2.length
variable {T:G0 P9}{n:G9}
theorem Fall.turn {Z1 Z2:G0 P9}(f:Fall R T Z1 Z2 n):Fall R T Z1 Z2.reverse n:=
 ⟨by have:=f.len;simp only [P4,M1] at this ⊢;exact this,((K3 Z2).append_left Z1).trans f.perm,Re f.dsc f.alike,λx hx y hy=>f.alike x (A7.mp hx) y (A7.mp hy),by rw [M1];exact f.ne⟩
theorem Fall.mem {Z1 Z2:G0 P9}(f:Fall R T Z1 Z2 n){x:P9}(h:x∈Z1++Z2):x∈T:=C7 (f.perm.mem_iff.mp h)
theorem vD {y:P9}(h:Z.Perm (T.take n))(hy:T[n]? =some y):(Z++ [y]).Perm (T.take (n+1)):=by
 rw [Zw hy];exact h.append_right _
theorem Fall.below (o:Ordd U R){T Z1 Z2:G0 P9}{n:G9}{x y:P9}(u: ∀x∈T,U x)(f:Fall R T Z1 Z2 n)(hx:x∈Z2)(hy:T[n]? =some y)(h:R y x=true):Fall R T (Z1++Z2) [y] (n+1):=by
 have uy:=u y (P5 hy);have ux:=u x (f.mem (D3.mpr (.inr hx)));have xy:=o.asym y x uy ux h;refine⟨by rw [P4,f.len];rfl,vD f.perm hy,?_,λa ha b hb=> ?_,by simp⟩
 ·refine M8.mpr ⟨f.dsc,F4 _ _,λz hz v hv=> ?_⟩;rw [P0.mp hv];have uz:=u z (f.mem hz);have zx:R z x=false:=by
   rcases D3.mp hz with w|w
   ·exact(M8.mp f.dsc).2.2 z w x hx
   ·exact f.alike z w x hx
  exact o.trans uy ux uz xy zx
 ·rw [P0.mp ha,P0.mp hb];exact o.refl uy
theorem Fall.like (o:Ordd U R){T Z1 Z2:G0 P9}{n:G9}{x y:P9}(u: ∀x∈T,U x)(f:Fall R T Z1 Z2 n)(hx:x∈Z2)(hy:T[n]? =some y)(h:R y x=false)(h':R x y=false):Fall R T Z1 (Z2++ [y]) (n+1):=by
 have uy:=u y (P5 hy);have ux:=u x (f.mem (D3.mpr (.inr hx)));have zy: ∀z∈Z1++Z2,R z y=false:=λz hz=>by
  have uz:=u z (f.mem hz);have zx:R z x=false:=by
   rcases D3.mp hz with w|w
   ·exact(M8.mp f.dsc).2.2 z w x hx
   ·exact f.alike z w x hx
  exact o.trans uy ux uz h' zx
 have yz: ∀z∈Z2,R y z=false:=λz hz=>o.trans (u z (f.mem (D3.mpr (.inr hz)))) ux uy (f.alike x hx z hz) h
 refine⟨by rw [<-P7,P4,f.len];rfl,by rw [<-P7];exact vD f.perm hy,?_,λa ha b hb=> ?_,by simp⟩
 ·rw [<-P7];refine M8.mpr ⟨f.dsc,F4 _ _,λz hz v hv=> ?_⟩;rw [P0.mp hv];exact zy z hz
 ·rcases D3.mp ha with p|p<;>rcases D3.mp hb with r|r
  ·exact f.alike a p b r
  ·rw [P0.mp r];exact zy a (D3.mpr (.inr p))
  ·rw [P0.mp p];exact yz b r
  ·rw [P0.mp p,P0.mp r];exact o.refl uy
theorem Lies.more {st:N3}{m:G9}{y:P9}(L:Lies st P Z (T.drop m))(hy:T[m]? =some y):Lies st P (Z++ [y]) (T.drop (m+1)):=by
 unfold Lies at L ⊢;rw [L,jT hy];simp
theorem Lies.part {st:N3}{Z1 Z2 S:G0 P9}:Lies st P (Z1++Z2) S↔Lies st (P++Z1) Z2 S:=by
 unfold Lies;simp only [P7]
theorem Lies.two {st:N3}{m:G9}{y:P9}(L:Lies st P Z (T.drop m))(lz:Z.length=m)(m1:1<=m)(hy:T[m]? =some y):(R7 st).toList[P.length+m]? =some y/\ ∃W x,Z=W++ [x]/\(R7 st).toList[P.length+m-1]? =some x:=by
 have a:=L.rest (i:=0);rw [bW,lz,iH,iH,hy] at a;obtain⟨W,x,e⟩:=WB (l:=Z) (by omega);subst e;refine⟨a,W,x,rfl,?_⟩;rw [<-L.end]
 congr 1
 rw [P4,W3] at lz;omega
section
variable {σ ρ τ α:Type}{st:σ}
theorem Tm.rangeN {f:G9->P2 ρ×τ->U0 σ Sem (dY (P2 ρ×τ))}(I:G9->τ->σ->Prop){Q:τ->σ->Prop}{Q':P2 ρ×τ->σ->Prop}{a b:G9}{c:τ}(hab:a<=b)(h:I a c st)(step: ∀i c st,i<b->I i c st->Tm prog w A E J (f i (none,c)) (λr st'=>match r with| .done c'=>c'.1=none/\Q c'.2 st'| .yield c'=>c'.1=none/\I (i+1) c'.2 st') st)(fin: ∀c st,I b c st->Q c st)(q: ∀c st,Q c st->Q' (none,c) st):Tm prog w A E J (forIn [a:b] ((none:P2 ρ),c) f) Q' st:=by
 refine Tm.mono (Tm.range (λi c st=>c.1=none/\I i c.2 st) (Q:=λc st=>c.1=none/\Q c.2 st) hab ⟨rfl,h⟩ ?_ λc st h=>⟨h.1,fin _ _ h.2⟩) ?_
 ·rintro i ⟨_,c⟩ st hi ⟨rfl,h⟩;exact(step i c st hi h).mono λr st' x=>by cases r<;>exact x
 ·rintro ⟨_,c⟩ st ⟨rfl,h⟩;exact q c st h
theorem Tm.fork {c:Prop}[Decidable c]{t e:U0 σ Sem α}{Q:α->σ->Prop}(I:σ->Prop)(G: ∀s,I s->Tm prog w A E J e Q s)(T:c->(∀s,I s->Tm prog w A E J e Q s)->Tm prog w A E J t Q st)(F: ¬c->I st):Tm prog w A E J (if c then t else e) Q st:=
 .if2 (λh=>T h G) λh=>G _ (F h)
end
section
variable {st:N3}{P T Z:G0 P9}{m:G9}
theorem Pe {f:G9->P2 (P2 G9)×G9->U0 N3 Sem (dY (P2 (P2 G9)×G9))}{G:G9->P2 M6->U0 N3 Sem (dY (P2 (P2 G9)×G9))}{Q:P2 (P2 G9)×G9->N3->Prop}(ak:WY prog w A J κ U R)(kd:kindOf st=κ)(o:Ordd U R)(u: ∀x∈T,U x)
 (hf: ∀i n,f i (none,n)=ltAt' (P.length+n) (P.length+n-1) >>= G n)(hG: ∀n,G n (some true)=Pure.pure (.done (none,n))/\G n (some false)=Pure.pure (.yield (none,n+1)))
 (m1:1<=m)(m2:m<=T.length)(L:Lies st P Z (T.drop m))(p:Z.Perm (T.take m))(s:Srt R Z)
 (q: ∀n Z',1<=n->n<=T.length->Lies st P Z' (T.drop n)->Z'.Perm (T.take n)->Srt R Z'->(∀y,T[n]? =some y-> ∃W x,Z'=W++ [x]/\R y x=true)->Q (none,n) st):Tm prog w A E J (forIn [m:T.length] ((none:P2 (P2 G9)),m) f) Q st:=by
 refine Tm.rangeN (λi c s=>s=st/\c=i/\1<=i/\ ∃Z,Lies st P Z (T.drop i)/\Z.Perm (T.take i)/\Srt R Z) (Q:=λn s=>s=st/\Q (none,n) st) m2 ⟨rfl,rfl,m1,Z,L,p,s⟩ ?_ ?_ λc s h=>h.1 ▸ h.2
 ·rintro _ i _ hi ⟨rfl,rfl,i1,Z,L,p,s⟩;have hy:=G8 hi;obtain⟨ay,W,x,rfl,ax⟩:=L.two (by rw [p.length_eq,T1,Z4 (R8 hi)]) i1 hy;have uy:=u _ (L6 hi);have uZ: ∀z∈W++ [x],U z:=λz hz=>u z (C7 (p.mem_iff.mp hz))
  rw [hf];refine .bind (.ltAt ak kd ay ax uy (uZ x (by simp)) ?_);cases hb:R T[i] x with
  |true=>
   rw [(hG _).1];exact .pure ⟨rfl,rfl,q i _ i1 (R8 hi) L p s λy h=>⟨W,x,rfl,by rw [hy] at h;injection h with h;rw [<-h];exact hb⟩⟩
  |false=>
   rw [(hG _).2];exact .pure ⟨rfl,rfl,rfl,aK (M0 _),_,L.more hy,vD p hy,Rc o uZ uy s hb⟩
 ·rintro _ _ ⟨rfl,rfl,i1,Z,L,p,s⟩;exact⟨rfl,q _ Z i1 (P3 _) L p s λy h=>absurd (D0.mp h).1 (C3 _)⟩
end
def Fell (R:P9->P9->M6)(P T:G0 P9)(st st':N3)(n k:G9):Prop:=Arr st st'/\ ∃Z1 Z2,Lies st' P (Z1++Z2) (T.drop n)/\Fall R T Z1 Z2 n/\Z2.length=k+1
theorem Fell.rev {st s2:N3}{k:G9}{Q:Unit->N3->Prop}(h:Fell R P T st s2 n k)(q: ∀s3,Fell R P T st s3 n k->Q () s3):Tm prog w A E J (pA (P.length+n-(k+1)) (P.length+n)) Q s2:=by
 obtain⟨ar,Z1,Z2,L,F,l⟩:=h;have l12:=F.len;rw [P4] at l12;exact .rev (Lies.part.mp L) (by rw [P4];omega) (by rw [P4];omega) λs3 ar3 L3=>q s3 ⟨ar.trans ar3,Z1,_,Lies.part.mpr L3,F.turn,by rw [M1];exact l⟩
theorem Rf {st:N3}{Q:P2 G9->N3->Prop}(ak:WY prog w A J κ U R)(kd:kindOf st=κ)(o:Ordd U R)(u: ∀x∈T,U x)(h:Lies st P [] T)(h1:1<=T.length)
 (q: ∀n st' Z,1<=n->n<=T.length->Arr st st'->Lies st' P Z (T.drop n)->Z.Perm (T.take n)->Srt R Z->Q (some n) st'):Tm prog w A E J (countRun' P.length T.length) Q st:=by
 refine .bind (Pe (m:=1) (Z:=T.take 1) ak kd o u (by exact λi n=>rfl) (by exact λn=>⟨rfl,rfl⟩) (P3 _) h1 ?_ (.refl _) ?_ λn Z n1 n2 L p sr br=> ?_)
 ·unfold Lies at h ⊢;rw [h,E3,P7,T4]
 ·match T,h1 with
  |x::r,_=>exact F4 _ _
 refine .eq2 (x:=n) (y:=T.length) (λz1=> .pure (q n _ _ n1 n2 (Arr.refl _) L p sr)) λz1=> ?_
 have n3:n<T.length:=A5 n2 z1;have hy:=G8 n3;have uZ: ∀z∈Z,U z:=λz hz=>u z (C7 (p.mem_iff.mp hz))
 obtain⟨W,x,e,yx⟩:=br _ hy;have lz:Z.length=n:=by rw [p.length_eq,T1,Z4 n2]
 have xin:x∈Z:=by rw [e];simp
 have xl:Z[Z.length-1]? =some x:=by rw [e];simp
 have F0:(∀p∈Z,∀r∈Z,R p r=false)->Fall R T [] Z n:=λal=>⟨lz,p,aL.mpr λi j hi hj _=>al _ (L6 hi) _ (L6 hj),al,by rw [lz];exact n1⟩
 refine Tm.fork (λs=>Fell R P T st s (n+1) 0) ?_ ?_ ?_
 ·intro s1 F1;refine .bind (.rule (.bind (Tm.rangeN (λi c s=>c.1=i/\Fell R P T st s c.1 c.2) (Q:=λc s=>c.1<=T.length/\Fell R P T st s c.1 c.2) n3 ⟨rfl,F1⟩ ?_ (λc s h=>⟨U9 h.1,h.2⟩) ?_)))
  ·intro i c s2 hi h2;have hc:c.1<T.length:=by rw [h2.1];exact hi
   have hy:=G8 hc;have uy:=u _ (L6 hc);obtain⟨e1,ar2,Z1,Z2,L2,F2,l2⟩:=h2;have l12:=F2.len;obtain⟨ay,W,x,eW,ax⟩:=L2.two l12 (by rw [<-l12,P4,l2];exact Z0 _ _) hy;have xin:x∈Z2:=by
    obtain⟨V,v,e⟩:=WB F2.ne;have e':=congrArg List.getLast? eW;rw [e,<-P7,i8,i8] at e';injection e' with e'
    rw [e,<-e'];simp
   have ux:=u x (F2.mem (D3.mpr (.inr xin)));refine .bind (.ltAt ak (ar2.1.trans kd) ay ax uy ux (.if2 (c:=R _ x=true) (λhb=> ?_) λhb=> .bind (.ltAt ak (ar2.1.trans kd) ax ay ux uy (.if2 (c:=R x _=true) (λhc'=> .pure ⟨rfl,R8 hc,ar2,Z1,Z2,L2,F2,l2⟩) λhc'=> ?_))))
   ·refine Tm.fork (λs=>Fell R P T st s (c.1+1) 0) (λs h=> .pure ⟨rfl,congrArg sR e1,h⟩) (λzq H=> .bind ?_) λzq=>⟨ar2,Z1++Z2,[T[c.1]],L2.more hy,F2.below o u xin hy hb,rfl⟩
    have l12':=l12;rw [P4] at l12';exact .rev (Lies.part.mp L2) (by rw [P4];dsimp only;omega) (by rw [P4];dsimp only;omega) λs3 ar3 L3=>H s3 ⟨ar2.trans ar3,Z1++Z2.reverse,[T[c.1]],(Lies.part.mpr L3).more hy,F2.turn.below o u (A7.mpr xin) hy hb,rfl⟩
   ·refine .pure ⟨rfl,congrArg sR e1,ar2,Z1,Z2++ [T[c.1]],?_,F2.like o u xin hy (aC.mpr hb) (aC.mpr hc'),by rw [P4,l2];rfl⟩;rw [<-P7];exact L2.more hy
  ·intro c s2 h2;refine Tm.fork (λs=> ∃k,Fell R P T st s c.1 k) ?_ (λzq H=> .bind (h2.2.rev λs h=>H s ⟨_,h⟩)) λzq=>⟨_,h2.2⟩
   intro s3 h3;obtain⟨k,ar3,Z1,Z2,L3,F3,l3⟩:=h3;have m1:1<=c.1:=by rw [<-F3.len,P4,l3];exact Z0 _ _
   exact .bind (.rev L3 rfl (by rw [F3.len]) λs4 ar4 L4=> .bind (Pe ak ((ar3.trans ar4).1.trans kd) o u (by exact λi n=>rfl) (by exact λn=>⟨rfl,rfl⟩) m1 h2.1 L4 ((K3 _).trans F3.perm) (NY F3.dsc) λn Z n1 n2 L p sr _=> .pure (q n s4 Z n1 n2 (ar3.trans ar4) L p sr)))
 ·intro z2 H;obtain⟨x0,V,eV⟩: ∃x0 V,Z=x0::V:=by
   match Z,xin with
   |a::r,_=>exact⟨a,r,rfl⟩
  have ux:=uZ x xin;have ux0:=uZ x0 (by rw [eV];simp);have a0:(R7 st).toList[P.length]? =some x0:=by rw [L,eV];simp
  have a1:(R7 st).toList[P.length+n-1]? =some x:=by
   obtain⟨_,W',x',e',ax⟩:=L.two lz n1 hy;rw [e] at e';rw [ax,(List.append_inj' e' rfl).2 |> λh=>(List.cons.inj h).1]
  exact .bind (.ltAt ak kd a0 a1 ux0 ux (.if2 (c:=R x0 x=true) (λ_=> .pure (q n _ _ n1 n2 (Arr.refl _) L p sr)) λhr0=> .bind (.rev L rfl (by rw [lz]) λs1 ar1 L1=>H s1 ⟨ar1,_,_,L1.more hy,Fall.below o u (Z1:= []) (Fall.turn (F0 λp hp r hr=>o.trans (uZ r hr) ux (uZ p hp) (Pd o uZ sr xl hr) (aC.mpr λv=>(o.neg p x0 x (uZ p hp) ux0 ux v).elim (λv=>by rw [UY o uZ sr (z:=x0) (by rw [eV];rfl) hp] at v;cases v) hr0))) (A7.mpr xin) hy yx,rfl⟩)))
 ·intro z2;have w0:W= []:=dI (by rw [e,P4,W3] at lz;omega);have f: ∀z∈Z,z=x:=λz hz=>by rw [e,w0] at hz;exact P0.mp hz
  exact⟨Arr.refl st,_,_,L.more hy,Fall.below o u (Z1:= []) (F0 λp hp r hr=>by rw [f p hp,f r hr];exact o.refl (uZ x xin)) xin hy yx,rfl⟩
end
section
variable {prog:R5}{w:N0}{A:T0}{E:G1->G3->Prop}{J:G3->Prop}{κ:SortKind}{U:P9->Prop}{R:P9->P9->M6}
theorem Rg {B:T9 P9}{A R:G0 P9}{z y:P9}(h:B.toList=A++z::y::R):(B.swapIfInBounds (A.length+1) A.length).toList=A++y::z::R:=by
 obtain⟨l⟩:=B;cases h;have n:A.length<(A++z::y::R).length:=by rw [P4];exact Nat.lt_add_of_pos_right (pX _)
 have n1:A.length+1<(A++z::y::R).length:=by rw [P4];exact Nat.add_lt_add_left (Nat.succ_lt_succ (pX _)) _
 have a0:(A++z::y::R)[A.length]=z:=iI rfl rfl;have a1:(A++z::y::R)[A.length+1]=y:=iI (l₁:=A++ [z]) (l₂:=R) (by rw [P7];rfl) (by rw [P4];rfl);unfold Array.swapIfInBounds;refine(congrArg k9 ((pY n1).trans (pY n))).trans ?_;rw [Array.toList_swap];show ((A++z::y::R).set (A.length+1) (A++z::y::R)[A.length]).set A.length (A++z::y::R)[A.length+1]=_;rw [a0,a1,iR _ _ (Y2 A.length 1),iR _ _ (P3 _),lW,cG];rfl
theorem Pf {xs:T9 P9}{y:P9}{S:G0 P9}: ∀ (Z A:G0 P9),xs.toList=A++(Z++y::S)->(bubble xs (A.length+Z.length) Z.length).toList=A++y::(Z++S)
 | [],A,h=>h
 |z::Z,A,h=>by
  have ih:=Pf Z (A++ [z]) (by rw [h,P7];rfl);rw [P4,fO] at ih;rw [P8,bubble_succ,show A.length+(Z.length+1)-Z.length=A.length+1 from Nat.add_sub_cancel (n:=A.length+1) (m:=Z.length) ▸ by rw [fO];rfl];exact Rg (ih.trans (by rw [P7];rfl))
theorem Rh (xs:T9 P9)(P Z S:G0 P9)(y:P9)(l:G9)(hl:l<=Z.length)(h:xs.toList=P++Z++y::S):(bubble xs (P.length+Z.length) (Z.length-l)).toList=P++(Z.take l++ [y]++Z.drop l)++S:=by
 have e:=Pf (xs:=xs) (y:=y) (S:=S) (Z.drop l) (P++Z.take l) (by rw [h,P7 P (Z.take l),<-P7 (Z.take l),T4,P7]);rw [P4,T1,N7,Z4 hl,dD,aQ hl] at e;rw [e];simp only [P7,L5,B3]
theorem NZ (o:Ordd U R){Z:G0 P9}{y:P9}{l:G9}(u: ∀z∈Z,U z)(uy:U y)(s:Srt R Z)(a: ∀z∈Z.take l,R y z=false)(b: ∀z∈Z.drop l,R y z=true):Srt R (Z.take l++ [y]++Z.drop l):=by
 have s':Srt R (Z.take l++Z.drop l):=by rw [T4];exact s
 obtain⟨s1,s2,s3⟩:=M8.mp s';refine M8.mpr ⟨M8.mpr ⟨s1,F4 _ _,λx hx z hz=> ?_⟩,s2,λx hx z hz=> ?_⟩
 ·rw [P0.mp hz];exact a x hx
 ·rcases D3.mp hx with v|v
  ·exact s3 x v z hz
  ·rw [P0.mp v];exact o.asym y z uy (u z (B9 hz)) (b z hz)
theorem Li {st:N3}{Q:M6->N3->Prop}{P T Z:G0 P9}{n k:G9}(ak:WY prog w A J κ U R)(kd:kindOf st=κ)(o:Ordd U R)(u: ∀x∈T,U x)(h:Lies st P Z (T.drop k))(hp:Z.Perm (T.take k))(hs:Srt R Z)(k1:1<=k)(kn:k<=n)(hn:n<=T.length)
 (q: ∀st' Z',Arr st st'->Lies st' P Z' (T.drop n)->Z'.Perm (T.take n)->Srt R Z'->Q true st'):Tm prog w A E J (qS P.length n k) Q st:=by
 unfold qS;refine .bind (Tm.mono (Tm.range (λi c s1=>Arr st s1/\c.1=none/\1<=i/\ ∃Z,Lies s1 P Z (T.drop i)/\Z.Perm (T.take i)/\Srt R Z) (Q:=λc s1=>Arr st s1/\c.1=none/\ ∃Z,Lies s1 P Z (T.drop n)/\Z.Perm (T.take n)/\Srt R Z) (by omega) ⟨Arr.refl st,rfl,by omega,Z,by rw [nI k1];exact h,by rw [nI k1];exact hp,hs⟩ ?_ ?_) ?_)
 ·rintro i ⟨r,c2⟩ s1 hi ⟨ar,hr,i1,Z,L,p,s⟩;dsimp only at hr ⊢;subst hr;obtain⟨y,hy⟩: ∃y,T[i]? =some y:=⟨_,G8 (by omega)⟩;have uy:=u y (P5 hy);have lz:Z.length=i:=by rw [p.length_eq,T1];omega
  have uZ: ∀z∈Z,U z:=λz hz=>u z (C7 (p.mem_iff.mp hz))
  have ay:(R7 s1).toList[P.length+i]? =some y:=by
   have:=L.rest (i:=0);rw [bW,lz] at this;rw [iH] at this;rw [this];exact hy
  have az: ∀m,m<i-> ∃z,Z[m]? =some z/\(R7 s1).toList[P.length+m]? =some z:=λm hm=>by
   refine⟨Z[m],G8 (by omega),?_⟩;rw [L,P7,M5 (by omega),C4 (by omega),cG,G8 (by omega)]
  refine .bind (Tm.mono (Tm.range (λj c s2=>s2=s1/\c.1=none/\c.2.1<=c.2.2/\c.2.2<=i/\(∀z∈Z.take c.2.1,R y z=false)/\(∀z∈Z.drop c.2.2,R y z=true)/\c.2.2-c.2.1+j<=i) (Q:=λc s2=>s2=s1/\c.1=none/\c.2.1<=i/\(∀z∈Z.take c.2.1,R y z=false)/\(∀z∈Z.drop c.2.1,R y z=true)) (M0 _) ⟨rfl,rfl,M0 _,P3 _,λz hz=> ?_,λz hz=> ?_,by dsimp only;omega⟩ ?_ ?_) ?_)
  ·dsimp only at hz;rw [fM] at hz;cases hz
  ·dsimp only at hz;rw [L8 (by omega)] at hz;cases hz
  ·rintro j ⟨r,l,v⟩ _ hj ⟨rfl,hr,b1,b2,b3,b4,b5⟩;dsimp only at hr b1 b2 b3 b4 b5 ⊢;subst hr
   by_cases c1:l>=v
   ·rw [S8 c1];have:l=v:=by omega
    subst this;exact .pure ⟨rfl,rfl,b2,b3,b4⟩
   rw [S7 c1];obtain⟨z,hz,ez⟩:=az ((l+v) / 2) (by omega);have uz:=uZ z (P5 hz);refine .bind (.ltAt ak (ar.1.trans kd) ay ez uy uz ?_);dsimp only;cases hb:R y z with
   |true=>
    rw [S8 rfl];refine .pure ⟨rfl,rfl,by dsimp only;omega,by dsimp only;omega,b3,λx hx=> ?_,by dsimp only;omega⟩;dsimp only at hx;have zx:R x z=false:=by
     obtain⟨t,ht,e⟩:=U7 hx;rw [N7] at ht;exact Zx s o uZ (show (l+v) / 2<=(l+v) / 2+t by omega) hz (by rw [G8 (by omega),<-e,l9])
    rcases o.neg y x z uy (uZ x (B9 hx)) uz hb with w|w
    ·exact w
    ·rw [zx] at w;cases w
   |false=>
    rw [S7 (by decide)];refine .pure ⟨rfl,rfl,by dsimp only;omega,b2,λx hx=> ?_,b4,by dsimp only;omega⟩;dsimp only at hx;have xz:R z x=false:=by
     obtain⟨t,ht,e⟩:=U7 hx;rw [T1] at ht;exact Zx s o uZ (show t<=(l+v) / 2 by omega) (by rw [G8 (by omega),<-e,l8]) hz
    exact o.trans (uZ x (C7 hx)) uz uy xz hb
  ·rintro ⟨r,l,v⟩ _ ⟨rfl,hr,b1,b2,b3,b4,b5⟩;dsimp only at hr b1 b2 b3 b4 b5 ⊢;have:l=v:=by omega
   subst this;exact⟨rfl,hr,b2,b3,b4⟩
  ·rintro ⟨r,l,v⟩ s2 ⟨rfl,hr,b2,b3,b4⟩;dsimp only at hr b2 b3 b4 ⊢;subst hr;dsimp only;refine .bind ?_;show Tm prog w A E J (moveDown' (P.length+i) (P.length+l)) _ _;rw [moveDown'_eq];refine .modify (.pure ⟨ar.trans ⟨rfl,rfl,rfl,rfl⟩,rfl,by omega,Z.take l++ [y]++Z.drop l,?_,?_,NZ o uZ uy s b3 b4⟩)
   ·have:=Rh (R7 s2) P Z (T.drop (i+1)) y l (by omega) (by rw [<-jT hy];exact L);rw [lz] at this;rw [show P.length+i-(P.length+l)=i-l by omega];exact this
   ·refine iO ?_ (vD p hy);rw [P7];have e:Z++ [y]=Z.take l++(Z.drop l++ [y]):=by rw [<-P7,T4]
    rw [e];exact(Z8).append_left _
 ·rintro ⟨r,c2⟩ s1 ⟨ar,hr,i1,Z,L,p,s⟩;exact⟨ar,hr,Z,L,p,s⟩
 ·rintro ⟨r,c2⟩ s1 ⟨ar,hr,Z,L,p,s⟩;dsimp only at hr ⊢;subst hr;exact .pure (q s1 Z ar L p s)
end
section
variable {prog:R5}{w:N0}{A:T0}{E:G1->G3->Prop}{J:G3->Prop}{κ:SortKind}{U:P9->Prop}{R:P9->P9->M6}
def Stk (R:P9->P9->M6)(l:G0 P9):G0 (G9×G9×G9)->G9->G9->Prop
 | [],s,e=>s=e
 |(p,n,_)::rest,s,e=>p=s/\1<=n/\Srt R (seg l p n)/\Stk R l rest (s+n) e
variable {l:G0 P9}
theorem Stk.le: ∀ {pl:G0 (G9×G9×G9)} {s e:G9},Stk R l pl s e->s+pl.length<=e
 | [],s,e,h=>by cases h;simp
 |(p,n,_)::rest,s,e,⟨_,n1,_,h⟩=>by have:=Stk.le h;simp only [P8];omega
theorem Ri {l':G0 P9}{p n e:G9}(h:l.take e=l'.take e)(he:p+n<=e):seg l p n=seg l' p n:=by
 have cut: ∀k:G0 P9,seg k p n=seg (k.take e) p n:=λk=>by
  unfold seg;rw [i6,i7,Z4 (by omega)]
 rw [cut l,cut l',h]
theorem Stk.same {l':G0 P9}: ∀ {pl:G0 (G9×G9×G9)} {s e:G9},Stk R l pl s e->l.take e=l'.take e->Stk R l' pl s e
 | [],s,e,h,_=>h
 |(p,n,_)::rest,s,e,⟨a,b,c,d⟩,h=>by
  have:=d.le;exact⟨a,b,by rw [<-Ri h (by omega)];exact c,d.same h⟩
theorem Stk.shift {l':G0 P9}: ∀ {pl:G0 (G9×G9×G9)} {s e:G9},Stk R l pl s e->l.drop s=l'.drop s->Stk R l' pl s e
 | [],s,e,h,_=>h
 |(p,n,_)::rest,s,e,⟨a,b,c,d⟩,h=>by
  subst a;refine⟨rfl,b,by unfold seg at c ⊢;rw [<-h];exact c,d.shift ?_⟩;rw [<-V9,<-V9,h]
theorem Stk.append: ∀ {a b:G0 (G9×G9×G9)} {s e:G9},Stk R l (a++b) s e↔ ∃m,Stk R l a s m/\Stk R l b m e
 | [],b,s,e=>⟨λh=>⟨s,rfl,h⟩,λ⟨m,h,h'⟩=>by cases h;exact h'⟩
 |(p,n,w)::a,b,s,e=>by
  constructor
  ·rintro ⟨x,y,z,h⟩;obtain⟨m,h1,h2⟩:=Stk.append.mp h;exact⟨m,⟨x,y,z,h1⟩,h2⟩
  ·rintro ⟨m,⟨x,y,z,h1⟩,h2⟩;exact⟨x,y,z,Stk.append.mpr ⟨m,h1,h2⟩⟩
structure Bt (R:P9->P9->M6)(κ:SortKind)(l0:G0 P9)(lo:G9)(st:N3):Prop where
 kind:kindOf st=κ
 failed:X2 st=none
 perm:(R7 st).toList.Perm l0
 stk:Stk R (R7 st).toList (M9 st).toList 0 lo
variable {l0:G0 P9}{lo:G9}
theorem Bt.size {st:N3}(b:Bt R κ l0 lo st):(R7 st).size=l0.length:=by rw [<-B0,b.perm.length_eq]
theorem Bt.merge {st:N3}{Q:M6->N3->Prop}{i:G9}(ak:WY prog w A J κ U R)(o:Ordd U R)(u: ∀x∈l0,U x)(b:Bt R κ l0 lo st)(hlo:lo<=l0.length)(hi:i+1<(M9 st).size)
 (q: ∀st',Bt R κ l0 lo st'->(M9 st').size+1=(M9 st).size->(R7 st').toList.drop lo=(R7 st).toList.drop lo->Q true st'):Tm prog w A E J (qR i) Q st:=by
 have lp:(M9 st).toList.length=(M9 st).size:=by simp
 obtain⟨⟨sa,na,pw⟩,hx⟩: ∃x,(M9 st).toList[i]? =some x:=⟨_,G8 (by omega)⟩;obtain⟨⟨sb,nb,pw2⟩,hy⟩: ∃y,(M9 st).toList[i+1]? =some y:=⟨_,G8 (by omega)⟩;have e:(M9 st).toList=(M9 st).toList.take i++(sa,na,pw)::(sb,nb,pw2)::(M9 st).toList.drop (i+2):=by
  rw [<-jT hy,<-jT hx,T4]
 have stk:=b.stk;rw [e] at stk;obtain⟨m,k1,em,n1,s1,eb,n2,s2,k2⟩:=Stk.append.mp stk;subst em;subst eb;have le:=k2.le;have sz:=b.size;have hz:sa+na+nb<=(R7 st).size:=by omega
 have ln:(R7 st).toList.length=(R7 st).size:=by simp
 refine Lh ak b.kind o (λx hx=>u x (b.perm.mem_iff.mp hx)) (by rw [<-O5];exact hx) (by rw [<-O5];exact hy) rfl n1 n2 hz s1 s2 b.failed λst' Z kd hf hp ha pz sz'=> ?_
 have hpl:(M9 st').toList=(M9 st).toList.take i++(sa,na+nb,pw)::(M9 st).toList.drop (i+2):=by
  rw [hp,Array.eraseIdxIfInBounds_eq,pY (by rw [gP];exact hi),Array.toList_eraseIdx,fN];generalize (M9 st).toList.drop (i+2)=B at e ⊢;have li:((M9 st).toList.take i).length=i:=by rw [T1];omega
  generalize (M9 st).toList.take i=A at e li ⊢;rw [e];subst li;simp [List.set_append,List.eraseIdx_append];intro z;omega
 have lZ:Z.length=na+nb:=by rw [pz.length_eq,P4,Zz (by omega),Zz (by omega)]
 have lt:((R7 st).toList.take sa).length=sa:=by rw [T1];omega
 refine q st' ⟨kd,hf,?_,?_⟩ ?_ ?_
 ·rw [ha];refine iO ?_ b.perm;have c3:=YW (R7 st).toList (p:=sa) (n:=na) (m:=nb);have pp:=(pz.append_left ((R7 st).toList.take sa)).append_right ((R7 st).toList.drop (sa+na+nb));rw [<-c3] at pp;exact pp
 ·rw [hpl,ha];refine Stk.append.mpr ⟨sa,k1.same ?_,rfl,by omega,?_,?_⟩
  ·rw [P7,U2 (by omega),T8 (l:=(R7 st).toList.take sa) (by omega)]
  ·unfold seg;rw [P7,U1 (by omega),L8 (by omega),B3,U2 (by omega),T8 (by omega)];exact sz'
  ·rw [<-dD];refine k2.shift ?_;have:((R7 st).toList.take sa++Z).length=sa+na+nb:=by rw [P4,lt,lZ];omega
   rw [U1 (by omega),L8 (as:=(R7 st).toList.take sa++Z) (by omega),B3]
 ·rw [<-B0,<-B0,hpl];have:(M9 st).toList.length=((M9 st).toList.take i++(sa,na,pw)::(sa+na,nb,pw2)::(M9 st).toList.drop (i+2)).length:=congrArg mW e;rw [this];simp only [P4,P8];omega
 ·rw [ha];have c1:((R7 st).toList.take sa++Z).length=sa+na+nb:=by rw [P4,lt,lZ];omega
  have c2:sa+na+nb<=lo:=by omega
  rw [List.drop_append,L8 (as:=(R7 st).toList.take sa++Z) (by omega),B3,V9,c1]
  congr 1;omega
theorem Bt.run {Z:G0 P9}{n:G9}{s1 s2:N3}(b:Bt R κ l0 lo s1)(hlo:lo<=l0.length)(ar:Arr s1 s2)(L:Lies s2 ((R7 s1).toList.take lo) Z (((R7 s1).toList.drop lo).drop n))(p:Z.Perm (((R7 s1).toList.drop lo).take n))(sr:Srt R Z)(hn:n<=l0.length-lo):Bt R κ l0 lo s2/\Srt R (seg (R7 s2).toList lo n):=by
 have ln:(R7 s1).toList.length=l0.length:=b.perm.length_eq;have lP:((R7 s1).toList.take lo).length=lo:=by rw [T1];omega
 have lZ:Z.length=n:=by rw [p.length_eq,T1,N7];omega
 have e:(R7 s2).toList=(R7 s1).toList.take lo++Z++((R7 s1).toList.drop lo).drop n:=L;refine⟨⟨ar.1.trans b.kind,ar.2.2.1.trans b.failed,?_,?_⟩,?_⟩
 ·rw [e];refine iO ?_ b.perm;have pp:=(p.append_left ((R7 s1).toList.take lo)).append_right (((R7 s1).toList.drop lo).drop n);rw [P7 _ (((R7 s1).toList.drop lo).take n),T4,T4] at pp;exact pp
 ·rw [ar.2.1];refine b.stk.same ?_;rw [e,P7,U2 (by omega),T8 (l:=(R7 s1).toList.take lo) (by omega)]
 ·rw [e];unfold seg;rw [P7,U1 (by omega),L8 (by omega),B3,U2 (by omega),T8 (by omega)];exact sr
theorem Bt.push {n:G9}{s:N3}(b:Bt R κ l0 lo s)(n1:1<=n)(g:Srt R (seg (R7 s).toList lo n)):Bt R κ l0 (lo+n) (rM s ((M9 s).push (lo,n,0))):=by
 refine⟨b.kind,b.failed,b.perm,?_⟩;show Stk R (R7 s).toList ((M9 s).push (lo,n,0)).toList 0 (lo+n);rw [aB];exact Stk.append.mpr ⟨lo,b.stk,rfl,n1,g,rfl⟩
theorem Stk.mod {f:G9×G9×G9->G9×G9×G9}(hf: ∀x,(f x).1=x.1/\(f x).2.1=x.2.1): ∀ {pl:G0 (G9×G9×G9)} {k s e:G9},Stk R l pl s e->Stk R l (pl.modify k f) s e
 | [],k,s,e,h=>by rw [List.modify_nil];exact h
 |(p,n,w)::rest,0,s,e,⟨a,b,c,d⟩=>by
  rw [List.modify_zero_cons];have e1:=(hf (p,n,w)).1;have e2:=(hf (p,n,w)).2;generalize f (p,n,w)=x at e1 e2;obtain⟨p',n',w'⟩:=x;dsimp only at e1 e2;subst e1 e2;exact⟨a,b,c,d⟩
 |(p,n,w)::rest,k+1,s,e,⟨a,b,c,d⟩=>by
  rw [List.modify_succ_cons];exact⟨a,b,c,d.mod hf⟩
theorem Bt.mod {k:G9}{s:N3}{f:G9×G9×G9->G9×G9×G9}(b:Bt R κ l0 lo s)(hf: ∀x,(f x).1=x.1/\(f x).2.1=x.2.1):Bt R κ l0 lo (rM s ((M9 s).modify k f)):=by
 refine⟨b.kind,b.failed,b.perm,?_⟩;show Stk R (R7 s).toList ((M9 s).modify k f).toList 0 lo;rw [Array.toList_modify];exact b.stk.mod hf
theorem Rj (c:M6)(x:G9):(if c=true then x-1 else x)<=x:=by cases c<;>simp
theorem Ba {st:N3}{Q:Unit->N3->Prop}(ak:WY prog w A J κ U R)(o:Ordd U R)(u: ∀x∈l0,U x)(kd:kindOf st=κ)(hf:X2 st=none)(hp:M9 st= #[])(hl:(R7 st).toList=l0)
 (q: ∀st',X2 st'=none->(R7 st').toList.Perm l0->Srt R (R7 st').toList->Q () st'):Tm prog w A E J sortRuns' Q st:=by
 have b0:Bt R κ l0 0 st:=⟨kd,hf,by rw [hl],by rw [hp];rfl⟩;rw [sortRuns'_eq];refine .bind (.get ?_);dsimp only;rw [b0.size];generalize minRun' l0.length l0.length 0=mr;refine .bind (Tm.mono (Tm.range (λi c s1=>c.1=none/\c.2<=l0.length/\i<=c.2/\Bt R κ l0 c.2 s1) (Q:=λc s1=>c.1=none/\Bt R κ l0 l0.length s1) (M0 _) ⟨rfl,M0 _,M0 _,b0⟩ ?_ ?_) ?_)
 ·rintro i ⟨r,lo⟩ s1 hi ⟨hr,h1,h2,b⟩;dsimp only at hr h1 h2 b ⊢;subst hr
  by_cases z1:lo>=l0.length
  ·rw [S8 z1];have:lo=l0.length:=by omega
   subst this;exact .pure ⟨rfl,b⟩
  rw [S7 z1];have ln:(R7 s1).toList.length=l0.length:=b.perm.length_eq;have lP:((R7 s1).toList.take lo).length=lo:=by rw [T1];omega
  have lT:((R7 s1).toList.drop lo).length=l0.length-lo:=by rw [N7,ln]
  have uT: ∀x∈(R7 s1).toList.drop lo,U x:=λx hx=>u x (b.perm.mem_iff.mp (B9 hx))
  have ct:=λ{Q}=>Rf (prog:=prog) (w:=w) (A:=A) (E:=E) (J:=J) (Q:=Q) (st:=s1) (P:=(R7 s1).toList.take lo) (T:=(R7 s1).toList.drop lo) ak b.kind o uT (by unfold Lies;rw [E3,T4]) (by omega)
  rw [lP,lT] at ct;refine .bind (ct λn s2 Z n1 n2 ar L p sr=> ?_);dsimp only
  by_cases z2:n<mr
  ·rw [S8 z2];have bn:=λ{Q}=>Li (prog:=prog) (w:=w) (A:=A) (E:=E) (J:=J) (Q:=Q) (st:=s2) (P:=(R7 s1).toList.take lo) (T:=(R7 s1).toList.drop lo) (n:=min (l0.length-lo) mr) ak (ar.1.trans b.kind) o uT L p sr n1 (by omega) (by omega)
   rw [lP] at bn;refine .bind (.rule (.bind (bn λs3 Z3 ar3 L3 p3 sr3=> ?_)));obtain⟨B,G⟩:=b.run h1 (ar.trans ar3) L3 p3 sr3 (by omega);have N1:1<=min (l0.length-lo) mr:=by omega
   rw [S7 (by decide)];refine .bind (.get ?_);split
   ·refine .bind (Tm.mono (Tm.range (λj c s4=>c.1=none/\Bt R κ l0 lo s4/\Srt R (seg (R7 s4).toList lo (min (l0.length-lo) mr))) (Q:=λc s4=>c.1=none/\Bt R κ l0 lo s4/\Srt R (seg (R7 s4).toList lo (min (l0.length-lo) mr))) (M0 _) ⟨rfl,B,G⟩ ?_ (λ_ _ h=>h)) ?_)
    ·rintro j ⟨r,c⟩ s4 hj ⟨hr,B4,G4⟩;dsimp only at hr ⊢;subst hr;refine .bind (.get ?_);split
     ·rename_i older heq;split
      ·exact .pure ⟨rfl,B4,G4⟩
      ·have two:(M9 s4).size>1:=fZ λz=>by rw [S7 z] at heq;cases heq
       refine .bind (Bt.merge ak o u B4 h1 (by omega) λs5 B5 _ dr=> ?_);refine .pure ⟨rfl,B5,?_⟩;unfold seg at G4 ⊢;rw [dr];exact G4
     ·exact .pure ⟨rfl,B4,G4⟩
    ·rintro ⟨r,c⟩ s4 ⟨hr,B4,G4⟩;dsimp only at hr ⊢;subst hr;dsimp only;refine .bind (.modify (.bind (.modify (.pure ⟨rfl,?_,?_,Bt.push (Bt.mod B4 λx=>⟨rfl,rfl⟩) N1 G4⟩))))
     ·dsimp only;omega
     ·dsimp only;omega
   ·refine .bind (.modify (.pure ⟨rfl,?_,?_,Bt.push B N1 G⟩))
    ·dsimp only;omega
    ·dsimp only;omega
  ·rw [S7 z2];obtain⟨B,G⟩:=b.run h1 ar L p sr n2;have N1:=n1;refine .bind (.get ?_);split
   ·refine .bind (Tm.mono (Tm.range (λj c s4=>c.1=none/\Bt R κ l0 lo s4/\Srt R (seg (R7 s4).toList lo (n))) (Q:=λc s4=>c.1=none/\Bt R κ l0 lo s4/\Srt R (seg (R7 s4).toList lo (n))) (M0 _) ⟨rfl,B,G⟩ ?_ (λ_ _ h=>h)) ?_)
    ·rintro j ⟨r,c⟩ s4 hj ⟨hr,B4,G4⟩;dsimp only at hr ⊢;subst hr;refine .bind (.get ?_);split
     ·rename_i older heq;split
      ·exact .pure ⟨rfl,B4,G4⟩
      ·have two:(M9 s4).size>1:=fZ λz=>by rw [S7 z] at heq;cases heq
       refine .bind (Bt.merge ak o u B4 h1 (by omega) λs5 B5 _ dr=> ?_);refine .pure ⟨rfl,B5,?_⟩;unfold seg at G4 ⊢;rw [dr];exact G4
     ·exact .pure ⟨rfl,B4,G4⟩
    ·rintro ⟨r,c⟩ s4 ⟨hr,B4,G4⟩;dsimp only at hr ⊢;subst hr;dsimp only;refine .bind (.modify (.bind (.modify (.pure ⟨rfl,?_,?_,Bt.push (Bt.mod B4 λx=>⟨rfl,rfl⟩) N1 G4⟩))))
     ·dsimp only;omega
     ·dsimp only;omega
   ·refine .bind (.modify (.pure ⟨rfl,?_,?_,Bt.push B N1 G⟩))
    ·dsimp only;omega
    ·dsimp only;omega
 ·rintro ⟨r,lo⟩ s1 ⟨hr,h1,h2,b⟩;dsimp only at hr h1 h2 b;have:lo=l0.length:=by omega
  subst this;exact⟨hr,b⟩
 ·rintro ⟨r,lo⟩ s1 ⟨hr,b⟩;dsimp only at hr ⊢;subst hr;dsimp only;have le0:=b.stk.le;have lp0:(M9 s1).toList.length=(M9 s1).size:=by simp
  refine .bind (Tm.mono (Tm.range (λj c s4=>c.1=none/\Bt R κ l0 l0.length s4/\(M9 s4).size+j<=l0.length) (Q:=λc s4=>c.1=none/\Bt R κ l0 l0.length s4/\(M9 s4).size<=1) (M0 _) ⟨rfl,b,by omega⟩ ?_ (λc s4 ⟨x,y,z⟩=>⟨x,y,by omega⟩)) ?_)
  ·rintro j ⟨r,c⟩ s4 hj ⟨hr,B4,z4⟩;dsimp only at hr ⊢;subst hr;refine .bind (.get ?_)
   by_cases c1:(M9 s4).size<=1
   ·rw [S8 c1];exact .pure ⟨rfl,B4,c1⟩
   rw [S7 c1];refine .bind (Bt.merge ak o u B4 (P3 _) (J7 (Nat.add_le_add_right (Rj _ _) 1) (by omega)) λs5 B5 z5 _=> ?_);exact .pure ⟨rfl,B5,by omega⟩
  ·rintro ⟨r,c⟩ s4 ⟨hr,B4,z4⟩;dsimp only at hr ⊢;subst hr;refine .pure (q s4 B4.failed B4.perm ?_);have stk:=B4.stk;have ln:(R7 s4).toList.length=l0.length:=B4.perm.length_eq;have lp:(M9 s4).toList.length=(M9 s4).size:=by simp
   generalize (M9 s4).toList=pl at stk lp
   match pl,stk,lp with
   | [],e,_=>
    have:l0.length=0:=e.symm;have:(R7 s4).toList= []:=Y1.mp (by omega);rw [this];exact .nil
   | [(p,n,_)],⟨e1,_,sr,e2⟩,_=>
    subst e1;have en:n=l0.length:=by have:0+n=l0.length:=e2;omega
    unfold seg at sr;rw [oK,T8 (by omega)] at sr;exact sr
   |_::_::_,_,h=>simp only [P8] at h;omega
end
section
variable {prog:R5}{w:N0}{A:T0}{E:G1->G3->Prop}{s:G3}{κ:SortKind}{U:P9->Prop}{R:P9->P9->M6}
def Lj (s:G3)(a:G7)(h':N2):Prop:= ∀b o,b≠a->s.heap.get? b=some o->h'.get? b=some o
def Only (s:G3)(h':N2):G3->Prop:=λs'=> ∃tk,s'= {s with heap:=h',toks:=tk}
theorem Rk {M:gA}{α β:Type}{c:Prop}[Decidable c]{m m':Sem α}{F:α->Sem β}{Q:β->G3->Prop}(h:R1 M A ((if c then m else m') >>= F) Q E s):R1 M A (if c then m >>= F else m' >>= F) Q E s:=by
 by_cases z:c
 ·rw [S8 z] at h ⊢;exact h
 ·rw [S7 z] at h ⊢;exact h
theorem Jb (vs:G0 G1):(vs.toArray.zip vs.toArray).toList=vs.map λv=>(v,v):=by
 rw [Array.toList_zip];show vs.zip vs=_
 induction vs with
 |nil=>rfl
 |cons v vs ih=>rw [bR,ih,N5]
theorem Bb {R:G1×G1->G1×G1->M6}: ∀l:G0 G1,l.length<2->Srt R (l.map λv=>(v,v))
 | [],_=>List.Pairwise.nil
 | [_],_=>F4 _ _
theorem Rl {a:G7}{vs:G0 G1}{n:G9}{P:Fin->G3->Prop}(ho:s.heap.get? a=some (fP "list" vs.toArray n))(hz:vs.length<=sizeLine)
 (hk:2<=vs.length-> ∀h',Lj s a h'->R1 (R6 prog w) A (oM vs.toArray) (λk s'=>k=κ/\Only s h' s') (λ_ _=>False) {s with heap:=h'})(ak: ∀h',Lj s a h'->WY prog w A (Only s h') κ U R)(o:Ordd U R)(u: ∀v∈vs,U (v,v))
 (q: ∀ (out:G0 G1) (c tk:G9) (h':N2),Lj s a h'->h'.get? a=some (fP "list" out.toArray c)->out.Perm vs->(out.map λv=>(v,v)).Pairwise (λx y=>R y x=false)->P (.done (.ret .none)) {s with heap:=h',toks:=tk}):
 R1 (R6 prog w) A (Builtin.«list.sort» ⟨[.ref a],[]⟩) P E s:=by
 have alt:=D4 ho;have sv:vs.toArray.size=vs.length:=D7 ..;rw [list_sort_plain];refine wpAny_bind (pZ ho rfl ?_);obtain⟨c1,ho1⟩: ∃c,(s.heap.update a (X5 λ_=>(#[]:T9 G1))).get? a=some (fP "list" #[] c):=⟨_,nJ ho λ_=> #[]⟩;refine wpAny_bind (pB ho rfl ?_ (by rw [sv];exact hz) (M0 _));refine wpAny_bind (qT ho1 rfl ?_);refine wpAny_bind (oG ?_ hz);refine wpAny_bind (pE ?_ (M0 _));refine A1 ?_;have past:Lj s a (((s.heap.update a (X5 λ_=>(#[]:T9 G1))).push {cls:= .type "tuple",data:= .seq vs.toArray.toList.toArray}).push {cls:= .type "list",data:= .seq ([]:G0 G1).toArray}):=λb x ne e=>by
  refine G5 _ (G5 _ ?_);rw [dS _ _ _ _ ne];exact e
 have ho3:=G5 ({cls:= .type "list",data:= .seq ([]:G0 G1).toArray}:Obj) (G5 ({cls:= .type "tuple",data:= .seq vs.toArray.toList.toArray}:Obj) ho1);revert past ho3;generalize ((s.heap.update a (X5 λ_=>(#[]:T9 G1))).push ({cls:= .type "tuple",data:= .seq vs.toArray.toList.toArray}:Obj)).push ({cls:= .type "list",data:= .seq ([]:G0 G1).toArray}:Obj)=H3;intro past ho3;have kd:R1 (R6 prog w) A (if vs.toArray.size<2 then pure general' else oM vs.toArray) (λk s0=>(2<=vs.length->k=κ)/\Only s H3 s0) (λ_ _=>False) {s with heap:=H3}:=by
  by_cases c:vs.toArray.size<2
  ·rw [S8 c];exact P1 ⟨λz=>by omega,s.toks,rfl⟩
  ·rw [S7 c];exact S6 (hk (by omega) H3 past) (λk s0 x=>⟨λ_=>x.1,x.2⟩) λ_ _ e=>e
 have rn: ∀k s0,(2<=vs.length->k=κ)->Only s H3 s0->R1 (R6 prog w) A ((if vs.toArray.size<2 then pure () else sortRuns':U0 N3 Sem Unit).run (SortSt.mk' k (vs.toArray.zip vs.toArray) #[] 7 none)) (λr s'=>(X2 r.2=none/\(R7 r.2).toList.Perm (vs.map λv=>(v,v))/\Srt R (R7 r.2).toList)/\Only s H3 s') E s0:=by
  intro k s0 ek j
  by_cases c:vs.toArray.size<2
  ·rw [S8 c,StateT.run_pure];refine P1 ⟨⟨rfl,?_,?_⟩,j⟩
   ·show (vs.toArray.zip vs.toArray).toList.Perm _;rw [Jb]
   ·show Srt R (vs.toArray.zip vs.toArray).toList;rw [Jb];rw [sv] at c;exact Bb vs c
  ·rw [S7 c];have ek:=ek (by omega);subst ek;refine Ba (E:=E) (ak H3 past) o (l0:=vs.map λv=>(v,v)) (st:=SortSt.mk' k (vs.toArray.zip vs.toArray) #[] 7 none) (λx hx=> ?_) rfl rfl rfl (Jb vs) (Q:=λ_ st'=>X2 st'=none/\(R7 st').toList.Perm (vs.map λv=>(v,v))/\Srt R (R7 st').toList) (λst' a1 a2 a3=>⟨a1,a2,a3⟩) s0 j;obtain⟨v,hv,rfl⟩:=N8.mp hx;exact u v hv
 dsimp only;refine Rk (wpAny_bind (S6 kd (λk s0 x=> ?_) λ_ _ e=>e.elim));refine wpAny_bind (S6 (rn k s0 x.1 x.2) ?_ λ_ _ e=>e);rintro ⟨⟨⟩,st'⟩ s1 ⟨⟨hf,hp,hs⟩,tk,rfl⟩;dsimp only;have eo:((R7 st').map λx=>x.2)=((R7 st').toList.map λx=>x.2).toArray:=by
  rw [<-Array.toList_map,Array.toArray_toList]
 have two:(R7 st').toList=((R7 st').toList.map λx=>x.2).map λv=>(v,v):=by
  rw [O7];refine(i9 _).symm.trans (dU λx hx=> ?_);obtain⟨v,_,rfl⟩:=N8.mp (hp.mem_iff.mp hx);rfl
 have po:((R7 st').toList.map λx=>x.2).Perm vs:=by
  have:=hp.map λx=>x.2
  rw [O7] at this;refine this.trans ?_;rw [show ((λx:P9=>x.2)∘λv:G1=>(v,v))=id from rfl,i9]
 rw [two] at hs;rw [eo];generalize (R7 st').toList.map (λx=>x.2)=out at hs po;obtain⟨c2,ho4⟩: ∃c,(H3.update a (X5 λ_=>out.toArray)).get? a=some (fP "list" out.toArray c):=⟨_,nJ ho3 λ_=>out.toArray⟩;refine wpAny_bind (qT (s:= {s with heap:=H3,toks:=tk}) ho3 rfl ?_);refine wpAny_bind (pB (s:= {s with heap:=H3,toks:=tk}) ho3 rfl ?_ (M0 _) (by rw [D7,po.length_eq];exact Nat.le_succ_of_le hz));rw [hf];simp only [lU,kW,gZ];refine P1 (q out c2 tk _ (λb x ne e=> ?_) ho4 po hs);rw [dS _ _ _ _ ne];exact past b x ne e
abbrev ZB (h h':N2):Prop:= ∀b o,h.get? b=some o->h'.get? b=some o
theorem XQ {l:G7}{vs:G0 G1}{Q:G1->G3->Prop}(hl:s.heap.IsList l vs.toArray)(hz:vs.length<sizeLine)
 (hk:2<=vs.length-> ∀h',ZB s.heap h'->R1 (R6 prog w) A.in1.in1 (oM vs.toArray) (λk s'=>k=κ/\Only s h' s') (λ_ _=>False) {s with heap:=h'})(ak: ∀h',ZB s.heap h'->WY prog w A.in1.in1 (Only s h') κ U R)(o:Ordd U R)(u: ∀v∈vs,U (v,v))
 (q: ∀ (h1 h':N2) (tk c:G9) (out:G0 G1),ZB s.heap h1->ZB h1 h'->h'.get? h1.objs.size=some (fP "list" out.toArray c)->out.Perm vs->(out.map λv=>(v,v)).Pairwise (λx y=>R y x=false)->Q (.ref h1.objs.size) {s with heap:=h',toks:=tk}):
 R1 (R6 prog w) A (call (.builtin "sorted") [.ref l]) Q E s:=by
 refine Calls.call_function_entry kind_sorted plain_sorted entry_sorted (args_sorted1 _) (wpAny_bind (P1 (wpAny_bind (collect_list hl ?_ (by omega)))));have k1:ZB s.heap ((s.heap.push (fP "list" #[] 0)).update s.heap.objs.size (X5 (· ++vs.toArray))):=λb x e=>by
  rw [dS _ _ _ _ (T5 (D4 e))];exact G5 _ e
 revert k1;generalize (s.heap.push (fP "list" #[] 0)).update s.heap.objs.size (X5 (· ++vs.toArray))=H1;intro k1;have fresh:(H1.push (fP "list" vs.toArray 0)).get? H1.objs.size=some (fP "list" vs.toArray 0):=S3 _ rfl;have kp: ∀h',Lj {s with heap:=H1.push (fP "list" vs.toArray 0)} H1.objs.size h'->ZB H1 h':=λh' p b x e=>p b x (T5 (D4 e)) (G5 _ e)
 refine wpAny_bind (pE (wpAny_bind (A1 (E8 slot_list_sort ⟨_,fresh,rfl⟩ entry_list_sort (Rl (s:= {s with heap:=H1.push (fP "list" vs.toArray 0)}) (κ:=κ) (U:=U) (R:=R) fresh (R8 hz) (λh2 h' p=>hk h2 h' λb x e=>kp h' p b x (k1 b x e)) (λh' p=>ak h' λb x e=>kp h' p b x (k1 b x e)) o u λout c tk h' p e1 e2 e3=>⟨_,rfl,?_⟩) (args_list_sort _)))) (R8 hz));exact P1 ⟨_,rfl,q H1 h' tk c out k1 (kp h' p) e1 e2 e3⟩
end
theorem Jc: ∀a b:G0 D1,jI a b=true->jI b a=false
 | [],[],h=>rfl
 | [],_::_,_=>rfl
 |_::_,[],h=>by cases h
 |x::xs,y::ys,h=>by
  unfold jI at h ⊢
  by_cases e:x=y
  ·subst e;rw [S8 rfl] at h ⊢;exact Jc xs ys h
  ·rw [S7 e] at h;rw [S7 (E5 e)];have:=J0 h;exact D9 (by omega)
theorem ZC: ∀a b c:G0 D1,jI a c=true->jI a b=true\/jI b c=true
 | [],[],c,h=> .inr h
 | [],_::_,_,_=> .inl rfl
 |_::_,_,[],h=>by cases h
 |x::xs,[],z::zs,h=> .inr rfl
 |x::xs,y::ys,z::zs,h=>by
  unfold jI at h ⊢
  by_cases e:x=z
  ·subst e;rw [S8 rfl] at h
   by_cases f:x=y
   ·subst f;rw [S8 rfl,S8 rfl];exact ZC xs ys zs h
   ·rw [S7 f,S7 (E5 f)]
    by_cases g:x<y
    ·exact .inl (R4 g)
    ·exact .inr (R4 (by omega))
  ·rw [S7 e] at h;have lt:=J0 h
   by_cases f:x=y
   ·subst f;rw [S7 e];exact .inr h
   ·rw [S7 f]
    by_cases g:x<y
    ·exact .inl (R4 g)
    ·refine .inr ?_;rw [S7 (by omega)];exact R4 (by omega)
theorem ZD: ∀a b:G0 D1,jI a b=false->jI b a=false->a=b
 | [],[],_,_=>rfl
 | [],_::_,h,_=>by cases h
 |_::_,[],_,h=>by cases h
 |x::xs,y::ys,h,h'=>by
  unfold jI at h h'
  by_cases e:x=y
  ·subst e;rw [S8 rfl] at h h';rw [ZD xs ys h h']
  ·rw [S7 e] at h;rw [S7 (E5 e)] at h';have:=kY h;have:=kY h';omega
theorem Pg {U:P9->Prop}(key:G1->G0 D1):Ordd U (λx y=>jI (key x.1) (key y.1)):=⟨λx y _ _ h=>Jc _ _ h,λx y z _ _ _ h=>ZC _ _ _ h⟩
def IT (h:N2)(v:G1)(ns:G0 D1):Prop:= ∃a its,v= .ref a/\k5 h a its/\W1 its.toList ns
theorem IT.keeps {h h':N2}{v:G1}{ns:G0 D1}(x:IT h v ns)(k:ZB h h'):IT h' v ns:=let ⟨a,its,e,t,i⟩:=x;⟨a,its,e,t.keeps k,i⟩
theorem UZ: ∀ {vs:G0 G1} {ns ms:G0 D1},W1 vs ns->W1 vs ms->ns=ms
 |_,_,_,.nil,.nil=>rfl
 |_,_,_,.cons n t a,.cons _ _ b=>by rw [UZ a b]
theorem IT.one {h:N2}{v:G1}{ns ms:G0 D1}(x:IT h v ns)(y:IT h v ms):ns=ms:=by
 obtain⟨a,its,rfl,⟨o,e,c,n,d⟩,i⟩:=x;obtain⟨a',its',e2,⟨o',e',c',n',d'⟩,i'⟩:=y;cases e2;rw [e] at e';cases e';rw [d] at d';cases d';exact UZ i i'
open Classical in
noncomputable def jU (h:N2)(v:G1):G0 D1:=if e: ∃ns,IT h v ns then e.choose else []
theorem IT.nums {h:N2}{v:G1}{ns:G0 D1}(x:IT h v ns):jU h v=ns:=by
 have e: ∃ns,IT h v ns:=⟨ns,x⟩;unfold jU;rw [pY e];exact e.choose_spec.one x
section
variable {prog:R5}{w:N0}{A:T0}{E:G1->G3->Prop}{s:G3}
theorem vE {α β:Type}{M:gA}{f:α->Sem β}(r:α->β): ∀ (l:G0 α) {Q:G0 β->G3->Prop},(∀v∈l,∀Q':β->G3->Prop,Q' (r v) s->R1 M A (f v) Q' E s)->Q (l.map r) s->R1 M A (l.mapM f) Q E s
 | [],_,_,q=>by
  rw [List.mapM_nil];exact P1 q
 |v::l,Q,hf,q=>by
  rw [List.mapM_cons];refine wpAny_bind (hf v D5 _ (wpAny_bind ?_));exact vE r l (λu hu=>hf u (D8 _ hu)) (P1 q)
def zb (h:N2):G1->P2 G1
 | .ref a=>match h.get? a with
  |some o=>match o.data with
   | .seq xs _=>xs[0]?
   |_=>none
  |none=>none
 |_=>none
variable {v:G1}{ns:G0 D1}
theorem Rm {Q:P2 G1->G3->Prop}(x:IT s.heap v ns)(q:Q (zb s.heap v) s):R1 (R6 prog w) A (firstOfTuple' v) Q E s:=by
 obtain⟨a,its,rfl,⟨o,e,c,n,d⟩,i⟩:=x;have fe:zb s.heap (.ref a)=its[0]? :=by
  unfold zb;dsimp only;rw [e];dsimp only;rw [d]
 rw [qU];refine wpAny_bind (kZ (show pF (R6 prog w) s.heap (rC (.ref a)) o.cls from (mR e).andThen .now) ?_);rw [c,S7 (by decide)];refine wpAny_bind (pZ e d (P1 ?_));rw [<-fe];exact q
variable {h:N2}
theorem XR (x:IT h v []):zb h v=none:=by
 obtain⟨a,its,rfl,⟨o,e,c,n,d⟩,i⟩:=x;unfold zb;dsimp only;rw [e];dsimp only;rw [d];dsimp only;obtain⟨l⟩:=its;cases i;rfl
theorem WC {n:D1}(x:IT h v (n::ns)): ∃t,zb h v=some (.int n t):=by
 obtain⟨a,its,rfl,⟨o,e,c,k,d⟩,i⟩:=x;obtain⟨l⟩:=its;cases i with
 |cons _ t i=>exact⟨t,by unfold zb;dsimp only;rw [e];dsimp only;rw [d];rfl⟩
theorem Rn (x:IT h v ns):(zb h v).isSome= !ns.isEmpty:=by
 cases ns with
 |nil=>rw [XR x];rfl
 |cons n ns=>obtain⟨t,e⟩:=WC x;rw [e];rfl
noncomputable def Ph (h:N2)(vs:G0 G1):SortKind:=
 if (vs.all λv=> !(jU h v).isEmpty)=true then tuples' true else if ((vs[0]?.map λv=> !(jU h v).isEmpty)=some true) then general' else oneType'
theorem Pi {vs:G0 G1}(h2:2<=vs.length)(x: ∀v∈vs,∃ns,IT h v ns){Q:SortKind->G3->Prop}(e:ZB h s.heap)(q:Q (Ph h vs) s):R1 (R6 prog w) A (oM vs.toArray) Q E s:=by
 have fr: ∀v∈vs,(zb s.heap v).isSome= !(jU h v).isEmpty:=λv hv=>by
  obtain⟨ns,t⟩:=x v hv;rw [t.nums,Rn (t.keeps e)]
 rw [keyKind'_eq,gK,map_eq_pure_bind];refine wpAny_bind (wpAny_bind (vE (zb s.heap) vs (λv hv Q' q'=> ?_) (P1 ?_)))
 ·obtain⟨ns,t⟩:=x v hv;exact Rm (t.keeps e) q'
 have all_:((vs.map (zb s.heap)).toArray.all λo=>o.isSome)=vs.all λv=> !(jU h v).isEmpty:=by
  rw [hJ,Q7];rw [H0,T3,T3];exact⟨λz v hv=>by rw [<-fr v hv];exact z v hv,λz v hv=>by show (zb s.heap v).isSome=true;rw [fr v hv];exact z v hv⟩
 rw [all_];unfold Ph at q
 by_cases a1:(vs.all λv=> !(jU h v).isEmpty)=true
 ·rw [S8 a1] at q;rw [S8 a1];refine wpAny_bind (cX ?_);obtain⟨fs,efs,nums,ne⟩: ∃fs:G0 G1,vs.map (zb s.heap)=fs.map some/\(∀f∈fs,∃n t,f=bZ n t)/\fs.length=vs.length:=by
   have go: ∀l:G0 G1,(∀v∈l,v∈vs)-> ∃fs:G0 G1,l.map (zb s.heap)=fs.map some/\(∀f∈fs,∃n t,f=bZ n t)/\fs.length=l.length:=by
    intro l
    induction l with
    |nil=>exact λ_=>⟨[],rfl,λf hf=>absurd hf S9,rfl⟩
    |cons v l ih=>
     intro sub;obtain⟨fs,e1,e2,e3⟩:=ih λu hu=>sub u (D8 _ hu)
     have hv:=sub v D5;obtain⟨ns,t⟩:=x v hv;have ne:=T3.mp a1 v hv;rw [t.nums] at ne;cases ns with
     |nil=>cases ne
     |cons n ns=>
      obtain⟨tk,ef⟩:=WC (t.keeps e);refine⟨.int n tk::fs,by rw [N5,N5,ef,e1],λf hf=> ?_,by rw [P8,P8,e3]⟩;rcases P6.mp hf with rfl|hf
      ·exact⟨n,tk,rfl⟩
      ·exact e2 f hf
   exact go vs λ_ hv=>hv
  rw [efs];have fm:((fs.map some).toArray.filterMap id)=fs.toArray:=by simp
  rw [fm,nK,gK,map_eq_pure_bind];refine wpAny_bind (wpAny_bind (wpAny_bind (vE (λ_=>K0 "int") fs (λf hf Q' q'=> ?_) (P1 ?_))))
  ·obtain⟨n,t,rfl⟩:=nums f hf;exact P1 q'
  ·match fs,ne with
   | [],ne=>rw [S2] at ne;omega
   |f::fs,_=>
    have h0:(g7 (λ_=>K0 "int") (f::fs)).toArray[0]? =some (K0 "int"):=by simp
    have h1:((g7 (λ_=>K0 "int") (f::fs)).toArray.all λy=>y==K0 "int")=true:=by
     rw [hJ,Q7,T3];exact λ_ _=>rfl
    rw [h0];simp only [h1,cK];exact P1 (P1 q)
 rw [S7 a1] at q;rw [S7 a1]
 match vs,h2,x,fr,q with
 |v::vs,h2,x,fr,q=>
  have h0:((g7 (zb s.heap) (v::vs)).toArray[0]?.bind id).isSome= !(jU h v).isEmpty:=by
   rw [<-fr v D5];simp
  rw [h0];have h0':(((v::vs)[0]?.map λv=> !(jU h v).isEmpty)=some true)↔(!(jU h v).isEmpty)=true:=by simp
  by_cases a2:(!(jU h v).isEmpty)=true
  ·rw [S8 (h0'.mpr a2)] at q;rw [S8 a2];exact P1 q
  rw [S7 λz=>a2 (h0'.mp z)] at q;rw [S7 a2];rw [nK,gK,map_eq_pure_bind];refine wpAny_bind (wpAny_bind (wpAny_bind (vE (λ_=>K0 "tuple") (v::vs) (λf hf Q' q'=> ?_) (P1 ?_))))
  ·obtain⟨ns,t⟩:=x f hf;obtain⟨a,its,rfl,⟨o,e1,c,n,d⟩,i⟩:=t.keeps e;refine kZ (show pF (R6 prog w) s.heap (rC (.ref a)) o.cls from (mR e1).andThen .now) ?_;rw [c];exact q'
  ·have h3:(g7 (λ_=>K0 "tuple") (v::vs)).toArray[0]? =some (K0 "tuple"):=by simp
   have h1:((g7 (λ_=>K0 "tuple") (v::vs)).toArray.all λy=>y==K0 "tuple")=true:=by
    rw [hJ,Q7,T3];exact λ_ _=>rfl
   rw [h3];simp only [h1,cK];exact P1 (P1 q)
theorem Xa {fin:M6}{Q:M6->G3->Prop}{m n:G9}(ef:fin=decide (m<n)): ∀ {vs us:G0 G1} {ns ms:G0 D1} (i:G9),W1 vs ns->W1 us ms->ns.length+n=ms.length+m->Q (jI ns ms) s->sS prog w A true fin Q (vs.zip us) i s
 |_,_,_,_,i,.nil,.nil,l,q=>by
  subst ef;rw [gD];refine iP ?_;rw [D9 (by rw [S2] at l;omega)];exact q
 |_,_,_,_,i,.nil,.cons c u y,l,q=>by
  subst ef;rw [gD];refine iP ?_;rw [R4 (by rw [S2,P8] at l;omega)];exact q
 |_,_,_,_,i,.cons a t x,.nil,l,q=>by
  subst ef;rw [kT];refine iP ?_;rw [D9 (by rw [S2,P8] at l;omega)];exact q
 |_,_,_,_,i,.cons a t x,.cons c u y,l,q=>by
  rw [bR];rw [Wj] at q;obtain⟨e,he,hiff⟩:=UF A s a t c u;refine sC (he prog w _ _ ?_);refine sT (λz=>sG ?_) λz=>sU ?_
  ·rw [S8 (hiff.mp z)] at q;exact Xa ef (i+1) x y (by rw [P8,P8] at l;omega) q
  ·rw [S7 λz'=>by rw [hiff.mpr z'] at z;cases z] at q;cases (true&&i==0) with
   |true=>exact oneLt_int q
   |false=>exact nM _ _ (j7 q)
theorem Lk {u:G1}{ms:G0 D1}{Q:M6->G3->Prop}(hu:A.units<cLine)(x:IT s.heap v ns)(y:IT s.heap u ms)(q:Q (jI ns ms) s):R1 (R6 prog w) A (sV true v u) Q E s:=by
 obtain⟨a,its,rfl,⟨⟨cls,dd,data,sl⟩,e1,c,n,d⟩,i⟩:=x;obtain⟨b,its2,rfl,⟨⟨cls2,dd2,sL,sl2⟩,e2,c2,n2,d2⟩,i2⟩:=y;simp only at c d c2 d2;subst c d c2 d2;rw [oneLt'_eq];simp only [cK];refine wpAny_bind (wpAny_cRoomFor hu (wpAny_bind (wpAny_callSpecialIfBound?_slot ⟨_,e1,rfl⟩ cV (fB cV ⟨_,e1,rfl⟩ hZ (gW _ _) (vp a b its its2 n n2 dd dd2 sl sl2 ns ms i i2) ⟨e1,e2,?_⟩))));exact O9 q
theorem Ll {u:G1}{ms:G0 D1}{Q:M6->G3->Prop}(hu:A.units<cLine)(x:IT s.heap v ns)(y:IT s.heap u ms)(q:Q (jI ns ms) s):R1 (R6 prog w) A (sV false v u) Q E s:=by
 obtain⟨a,its,rfl,t,i⟩:=x;obtain⟨b,its2,rfl,t2,i2⟩:=y;exact nM _ _ (Xu t t2 i i2 hu q)
theorem Pj {vs:G0 G1}(hu:A.units<cLine){h':N2}(k:ZB s.heap h'):WY prog w A (Only s h') (Ph s.heap vs) (λx=> ∃ns,IT s.heap x.1 ns) (λx y=>jI (jU s.heap x.1) (jU s.heap y.1)):=by
 rintro ⟨x,x'⟩ ⟨y,y'⟩ ⟨ns,tx⟩ ⟨ms,ty⟩ s1 ⟨tk,rfl⟩;dsimp only at tx ty ⊢;have q:(jI ns ms=jI (jU s.heap x) (jU s.heap y)/\Only s h' {s with heap:=h',toks:=tk}):=⟨by rw [tx.nums,ty.nums],tk,rfl⟩;have kx:=tx.keeps k;have ky:=ty.keeps k;unfold Ph
 by_cases a1:(vs.all λv=> !(jU s.heap v).isEmpty)=true
 ·rw [S8 a1];obtain⟨a,its,rfl,⟨o,e1,c,n,d⟩,i⟩:=kx;obtain⟨b,its2,rfl,⟨o2,e2,c2,n2,d2⟩,i2⟩:=ky;refine sW e1 d e2 d2 (Xa rfl 0 i i2 ?_ q);have z1:=i.length;have z2:=i2.length;rw [B0] at z1 z2;omega
 rw [S7 a1]
 by_cases a2:(vs[0]?.map λv=> !(jU s.heap v).isEmpty)=some true
 ·rw [S8 a2];show R1 _ _ (sV false x y) _ _ _;exact Ll hu kx ky q
 ·rw [S7 a2,keyLt'_oneType];exact Lk hu kx ky q
theorem Uh {l:G7}{vs:G0 G1}{Q:G1->G3->Prop}(hu:A.in1.in1.units<cLine)(hl:s.heap.IsList l vs.toArray)(hz:vs.length<sizeLine)(x: ∀v∈vs,∃ns,IT s.heap v ns)
 (q: ∀ (h1 h':N2) (tk c:G9) (out:G0 G1),ZB s.heap h1->ZB h1 h'->h'.get? h1.objs.size=some (fP "list" out.toArray c)->out.Perm vs->out.Pairwise (λx y=>jI (jU s.heap y) (jU s.heap x)=false)->Q (.ref h1.objs.size) {s with heap:=h',toks:=tk}):
 R1 (R6 prog w) A (call (.builtin "sorted") [.ref l]) Q E s:=by
 refine XQ (κ:=Ph s.heap vs) (U:=λx=> ∃ns,IT s.heap x.1 ns) (R:=λx y=>jI (jU s.heap x.1) (jU s.heap y.1)) hl hz (λh2 h' k=> ?_) (λh' k=>Pj hu k) (Pg _) x λh1 h' tk c out k1 k2 e1 e2 e3=>q h1 h' tk c out k1 k2 e1 e2 ?_
 ·exact Pi (s:= {s with heap:=h'}) h2 x k ⟨rfl,s.toks,rfl⟩
 ·rw [X4] at e3;exact e3
end
end HT
namespace L2
open PySem PySem.Spec PyProof.Rows PySem.SeqAt HT
theorem ZE {α β:Type}{f:α->β}: ∀ {out:G0 β} {l:G0 α},out.Perm (l.map f)-> ∃l':G0 α,l'.Perm l/\l'.map f=out
 | [],l,p=>by
  have e:=p.length_eq;rw [G6,S2] at e;exact⟨[],by rw [dI e.symm],rfl⟩
 |x::out,l,p=>by
  obtain⟨y,hy,rfl⟩:=N8.mp (p.mem_iff.mp D5);obtain⟨l1,l2,rfl⟩:=List.append_of_mem hy;have p2:out.Perm ((l1++l2).map f):=by
   refine rN (a:=f y) (p.trans ?_);rw [K6,K6,N5];exact mS
  obtain⟨l',a,b⟩:=ZE p2;exact⟨y::l',(a.cons y).trans mS.symm,by rw [N5,b]⟩
def An (H:Hp)(v:V)(ns:G0 D1):Prop:= ∃a,v= .ref a/\H a=some (.tup (ns.map V.int))
theorem YX {X:Cx}{k:G9}(hr:Room k X.A):CallR X (.builtin "sorted") (λxs H Q=> ∃ (a:G7) (ps:G0 (V×G0 D1)),xs= [.ref a]/\SqL X.K H a (ps.map (·.1))/\ps.length<sizeLine/\(∀p∈ps,An H p.1 p.2)/\ ∀ (q:G7) (ps':G0 (V×G0 D1)),H q=none->ps'.Perm ps->(ps'.map (·.2)).Pairwise (λx y=>HT.jI y x=false)->Q (.ref q) (upd H q (.lst (ps'.map (·.1))))):=by
 intro pins s σ H xs us Q I r h;obtain⟨a,ps,rfl,hS,hz,ht,q⟩:=h;obtain⟨u,rfl,ru⟩:=vU r;cases ru;obtain⟨its,rv,pl,hz'⟩:=I.list hS;obtain⟨zs,e1,e2,e3⟩: ∃zs:G0 (G1×V×G0 D1),its=zs.map (·.1)/\ps=zs.map (·.2)/\ ∀z∈zs,RelV z.2.1 z.1:=by
  clear hS q hz ht hz' pl
  induction ps generalizing its with
  |nil=>cases rv;exact⟨[],rfl,rfl,λz hz=>by cases hz⟩
  |cons p ps ih=>
   rw [N5] at rv;cases rv with
   |cons r1 r2=>
    obtain⟨zs,e1,e2,e3⟩:=ih _ r2;exact⟨(_,p)::zs,by rw [N5,<-e1],by rw [N5,<-e2],λz hz=>by
     rcases P6.mp hz with rfl|hz
     ·exact r1
     ·exact e3 z hz⟩
 subst e1 e2;have it: ∀z∈zs,IT s.heap z.1 z.2.2:=λz hm=>by
  obtain⟨b,eb,hb⟩:=ht z.2 (j8 hm);have rz:=e3 z hm;rw [eb] at rz;have rz:z.1= .ref b:=rz;obtain⟨_,us,r2,p⟩:=I.hok b _ hb;exact⟨b,us.toArray,rz,p.tup,UK r2⟩
 have hu:X.A.in1.in1.units<cLine:=by
  have:=hr.un;show X.A.units+1+1<cLine;omega
 rw [G6] at hz;refine HT.Uh hu pl.isList (by rw [G6];exact hz) (λv hv=> ?_) λh1 h' tk c out k1 k2 e4 pm srt=> ?_
 ·obtain⟨z,hm,rfl⟩:=N8.mp hv;exact⟨_,it z hm⟩
 obtain⟨zs',pz,rfl⟩:=ZE pm;have I1:=I.kept (t':=s.toks) k1;have vv: ∀l:G0 (G1×V×G0 D1),(∀z∈l,z∈zs)->Vals ((l.map (·.2)).map (·.1)) (l.map (·.1)):=λl=>by
  induction l with
  |nil=>exact λ_=> .nil
  |cons z l ih=>exact λsub=> .cons (e3 z (sub z D5)) (ih λy hy=>sub y (D8 _ hy))
 refine⟨.ref _,_,I1.laid (t':=tk) (o:= .lst ((zs'.map (·.2)).map (·.1))) k2 (P3 _) ⟨?_,_,c,vv zs' λz hm=>pz.mem_iff.mp hm,e4⟩,rfl,q _ (zs'.map (·.2)) (I1.hok.fresh (P3 _)) (pz.map _) ?_⟩
 ·rw [G6,G6,pz.length_eq];exact R8 hz
 ·rw [X4,X4];rw [X4] at srt;refine srt.imp_of_mem λ{y z} hy hz e=> ?_
  rw [<- (it y (pz.mem_iff.mp hy)).nums,<- (it z (pz.mem_iff.mp hz)).nums];exact e
abbrev tI (ns:G0 D1):D:= .tup (ns.map D.int)
def Bc:RDn:=λds h Q=> ∃ (a:G7) (nss:G0 (G0 D1)),ds= [.lst a]/\h a=some (nss.map tI)/\nss.length<sizeLine/\ ∀ (p:G7) (mss:G0 (G0 D1)),h p=none->mss.Perm nss->mss.Pairwise (λx y=>HT.jI y x=false)->Q (.lst p) (zB h p (mss.map tI))
theorem Pk {K:G2}{H:Hp}: ∀ {nss:G0 (G0 D1)} {vs:G0 V},RelDs K H (nss.map tI) vs-> ∃ps:G0 (V×G0 D1),vs=ps.map (·.1)/\nss=ps.map (·.2)/\ ∀p∈ps,An H p.1 p.2
 | [],vs,r=>⟨[],r,rfl,λp hp=>by cases hp⟩
 |ns::nss,vs,r=>by
  obtain⟨v,us,e,r1,r2⟩:=(show ∃v r,vs=v::r/\RelD K H (tI ns) v/\RelDs K H (nss.map tI) r from r);obtain⟨ps,e1,e2,e3⟩:=Pk r2;obtain⟨a,ws,e4,hH,r4⟩:=(show ∃a vs,v= .ref a/\H a=some (.tup vs)/\RelDs K H (ns.map D.int) vs from r1);rw [zM r4] at hH;exact⟨(v,ns)::ps,by rw [e,e1];rfl,by rw [e2];rfl,λp hp=>by
   rcases P6.mp hp with rfl|hp
   ·exact⟨a,e4,hH⟩
   ·exact e3 p hp⟩
theorem Pl {K:G2}{H:Hp}: ∀ {ps:G0 (V×G0 D1)},(∀p∈ps,An H p.1 p.2)->RelDs K H ((ps.map (·.2)).map tI) (ps.map (·.1))
 | [],_=> .nil
 |p::ps,h=> .cons (by
  obtain⟨a,e,hH⟩:=h p D5;exact⟨a,_,e,hH,yB _⟩) (Pl λq hq=>h q (D8 _ hq))
theorem XS {X:Cx}{k:G9}(hr:Room k X.A):wX X (.builtin "sorted") Bc:=(YX hr).imp λxs H Q ⟨ds,h,Qd,r,rh,⟨a,nss,e,hd,hz,q⟩,p⟩=>by
 subst e;obtain⟨v,e,r1⟩:=ju r;obtain⟨vs,hH,r2⟩:=rh a _ hd;have e1:v= .ref a:=r1.1;subst e e1;obtain⟨ps,rfl,rfl,ht⟩:=Pk r2;refine⟨a,ps,rfl,SqL.of hH,by rw [G6] at hz;exact hz,ht,λc ps' hc pm srt=> ?_⟩;exact p (.lst c) _ _ _ (.new hc) (rh.newL hc (Pl λx hx=>ht x (pm.mem_iff.mp hx))) ⟨rfl,_,ji⟩ (q c _ (rh.free hc) (pm.map _) srt)
def zn:G9->G0 (G0 G9)
 |0=> [[]]
 |k+1=>zn k++(zn k).map λS=>S++ [k]
theorem vF: ∀n,(zn n).length=2^n
 |0=>rfl
 |k+1=>by
  show (zn k++(zn k).map λS=>S++ [k]).length=_;rw [P4,G6,vF k,p0];omega
theorem vG: ∀ {n:G9} {S:G0 G9},S∈zn n->IsS n S
 |0,S,h=>by
  rw [show zn 0= [[]] from rfl,P0] at h;subst h;exact IsS.nil 0
 |k+1,S,h=>by
  rcases D3.mp (show S∈zn k++(zn k).map λS=>S++ [k] from h) with h|h
  ·exact(vG h).more false
  ·obtain⟨S',h',rfl⟩:=N8.mp h;exact(vG h').more true
theorem ZF: ∀ {n:G9} (p:G9->M6),(N4 n).filter p∈zn n
 |0,p=>P0.mpr rfl
 |k+1,p=>by
  show _∈zn k++(zn k).map λS=>S++ [k]
  rw [iN,bT,D3];cases e:p k with
  |false=>
   left;rw [show [k].filter p= [] by simp [e],E3];exact ZF p
  |true=>
   right;rw [show [k].filter p= [k] by simp [e]];exact N8.mpr ⟨_,ZF p,rfl⟩
theorem Pm {n:G9}{S:G0 G9}:S∈zn n↔IsS n S:=⟨vG,λ⟨p,e⟩=>by rw [e];exact ZF p⟩
theorem yY: ∀n,(zn n).Nodup
 |0=>F4 _ _
 |k+1=>by
  show (zn k++(zn k).map λS=>S++ [k]).Nodup;refine List.nodup_append.mpr ⟨yY k,?_,λx hx y hy e=> ?_⟩
  ·have nd:=yY k;unfold List.Nodup at nd ⊢;rw [X4];exact nd.imp λne e=>ne (List.append_cancel_right e)
  ·obtain⟨S,hS,rfl⟩:=N8.mp hy;subst e;exact C3 k ((vG hx).lt (D6 _ (P0.mpr rfl)))
abbrev toI (S:G0 G9):G0 D1:=S.map λ(k:G9)=>(k:D1)
theorem Bd {S S':G0 G9}(h:toI S=toI S'):S=S':=by
 have:=congrArg (g7 eG) h;rw [O7,O7] at this;have e:(eG∘λ(k:G9)=>(k:D1))=id:=by funext k;exact gH k
 rw [e,i9,i9] at this;exact this
theorem Mf (S:G0 G9):tI (toI S)=zg S:=by
 show D.tup _=D.tup _;rw [O7];rfl
def leS (a b:G0 G9):M6:= !HT.jI (toI b) (toI a)
theorem Po (a b c:G0 G9)(h:leS a b=true)(h':leS b c=true):leS a c=true:=by
 unfold leS at*
 cases e:HT.jI (toI c) (toI a) with
 |false=>rfl
 |true=>
  rcases ZC _ (toI b) _ e with z|z
  ·rw [z] at h';cases h'
  ·rw [z] at h;cases h
theorem Pp (a b:G0 G9):(leS a b||leS b a)=true:=by
 unfold leS;cases e:HT.jI (toI b) (toI a) with
 |false=>rfl
 |true=>rw [Jc _ _ e];rfl
theorem Ro {a b:G0 G9}(h:leS a b=true)(h':leS b a=true):a=b:=by
 unfold leS at*
 refine Bd (ZD _ _ ?_ ?_)
 ·cases e:HT.jI (toI a) (toI b) with
  |false=>rfl
  |true=>rw [e] at h';cases h'
 ·cases e:HT.jI (toI b) (toI a) with
  |false=>rfl
  |true=>rw [e] at h;cases h
def XT (l:G0 (G0 G9)):G0 (G0 G9):=l.mergeSort leS
theorem yF (l:G0 (G0 G9)):(XT l).Perm l:=List.mergeSort_perm _ _
theorem WD (l:G0 (G0 G9)):(XT l).Pairwise λa b=>leS a b=true:=List.pairwise_mergeSort Po Pp l
theorem Pq {l P:G0 (G0 G9)}(p:P.Perm l)(r:P.Pairwise λa b=>leS a b=true):P=XT l:=
 pG (λa b _ _ x y=>Ro x y) r (WD l) (p.trans (yF l).symm)
theorem Pr {l:G0 (G0 G9)}{mss:G0 (G0 D1)}(p:mss.Perm (l.map toI))(r:mss.Pairwise λx y=>HT.jI y x=false):mss.map tI=(XT l).map zg:=by
 obtain⟨P,pP,rfl⟩:=ZE p;rw [X4] at r;rw [<-Pq pP (r.imp λe=>by unfold leS;rw [e];rfl),O7];exact dU λS _=>Mf S
def wA (n:G9):G0 (G0 G9):=XT (zn n)
theorem setsS_mem {n:G9}{S:G0 G9}:S∈wA n↔IsS n S:=(yF _).mem_iff.trans Pm
theorem YY (n:G9):(wA n).length=2^n:=(yF _).length_eq.trans (vF n)
theorem Xb {n:G9}(h:n<=6):(wA n).length<=64:=by
 rw [YY];exact Q9 (by decide) h
theorem Ui (n:G9):(wA n).Nodup:=(yF _).nodup_iff.mpr (yY n)
theorem Jd (n:G9): ∃r,wA n= []::r/\ ∀S∈r,S≠ []:=by
 have hm:([]:G0 G9)∈wA n:=setsS_mem.mpr (IsS.nil n);have ri:=WD (zn n);have nd:=Ui n
 match e:wA n,hm with
 |x::r,hm=>
  rw [e] at nd;rw [show XT (zn n)=x::r from e] at ri;have nd:=bI.mp nd;have x0:x= []:=by
   rcases P6.mp hm with z|z
   ·exact z.symm
   ·have:=(V8.mp ri).1 [] z;cases x with
    |nil=>rfl
    |cons a x=>cases this
  subst x0;exact⟨r,rfl,λS hS z=>nd.1 (z ▸ hS)⟩
end L2
namespace L2
open PySem PySem.Spec PyProof.Rows PySem.SeqAt
theorem Xc: ∀l:G0 D1,C0 (l.map cZ)=true
 | []=>rfl
 |x::l=>by show (cR (.int x)&&_)=true;rw [Xc l];rfl
theorem Be {neg:M6}{x:G9}{S:G0 G9}{h:HD}{Q:KD}(q: ∀b:M6,(b=true↔x∈S)->Q (.bl (neg !=b)) h):inE neg (.int (x:D1)) (zg S) h Q:=by
 refine⟨.int x,(VZ S).map cZ,rfl,.inr (Ue h S),rfl,Xc _,(by show (0:G9)<=60;decide),q _ ?_⟩;rw [g8];constructor
 ·rintro ⟨z,hz,e⟩;obtain⟨m,hm,rfl⟩:=N8.mp hz;obtain⟨y,hy,rfl⟩:=N8.mp (show m∈S.map λ(k:G9)=>(k:D1) from hm);have:(y:D1)=x:=by simpa [N9] using e
  have:y=x:=by omega
  exact this ▸ hy
 ·intro z;exact⟨.int x,N8.mpr ⟨_,N8.mpr ⟨x,z,rfl⟩,rfl⟩,by simp [N9]⟩
theorem Ps {x:G9}{S:G0 G9}{h:HD}{Q:KD}(q:Q (.bl (decide (x∈S))) h):inE false (.int (x:D1)) (zg S) h Q:=Be λbo hb=>by
 have:(false !=bo)=decide (x∈S):=by
  cases bo with
  |true=>rw [R4 (hb.mp rfl)];rfl
  |false=>rw [D9 λz=>by have:=hb.mpr z;cases this];rfl
 rw [this];exact q
def Rp (n:G9)(T:G0 (G0 D1))(S:G0 G9):M6:=(WU n T S).all λj=>decide (j∈S)
theorem YZ {n:G9}{T:G0 (G0 D1)}{S:G0 G9}:(WU n T S).length<=n:=(IsS.step T S).len
theorem Rq {h h':HD}{a:G7}(sb:Sub h h')(e:h' a=none):h a=none:=by
 cases z:h a with
 |none=>rfl
 |some ds=>rw [sb a ds z] at e;cases e
theorem Pu {α β:Type}(f:α->G0 β){xs:G0 α}{k:G9}{x:α}(h:xs[k]? =some x):(xs.take (k+1)).flatMap f=(xs.take k).flatMap f++f x:=by
 rw [A2,h,kG];simp
theorem Pv {α β:Type}(p:α->M6)(g:α->β){xs:G0 α}{k:G9}{x:α}(h:xs[k]? =some x):((xs.take (k+1)).filter p).map g=((xs.take k).filter p).map g++if p x=true then [g x] else []:=by
 rw [A2,h,bT,K6]
 congr 1
 by_cases c:p x=true
 ·rw [S8 c];simp [c]
 ·rw [S7 c];simp [c]
theorem Jn {α β:Type}(f:α->G0 β)(xs:G0 α)(k:G9):((xs.take k).flatMap f).length<=(xs.flatMap f).length:=by
 conv=>rhs;rw [<-T4 k xs,kG,P4]
 omega
section
variable {α β:Type}{i i':G9}{js:G0 G9}{ti ti':TID}{tt':TTD}{te:TED}{σ:SD}{h:HD}{Q:KD}{j:ItD}
theorem Lm (xs:G0 α)(c:α->D)(ys:α->G0 β)(c':β->D)(p:α->β->M6)(g:α->β->D)(hz:(xs.flatMap λx=>((ys x).filter (p x)).map (g x)).length<=sizeLine)(hj: ∀h',Sub h h'->j h'=some (xs.map c))(ht: ∀R:ItD->HD->Prop,R j h->ti σ h R)
 (hin: ∀x∈xs,∀h',Sub h h'-> ∀R:ItD->HD->Prop,(∀j' h2,Sub h' h2->(∀h3,Sub h2 h3->j' h3=some ((ys x).map c'))->R j' h2)->ti' ((jM js σ).set i (some (c x))) h' R)
 (hp: ∀x∈xs,∀y∈ys x,∀h',Sub h h'-> ∀Q':M6->HD->Prop,Q' (p x y) h'->tt' (((jM js σ).set i (some (c x))).set i' (some (c' y))) h' Q')
 (he: ∀x∈xs,∀y∈ys x,p x y=true-> ∀h',Sub h h'-> ∀Q':KD,Q' (g x y) h'->te (((jM js σ).set i (some (c x))).set i' (some (c' y))) h' Q')
 (hq: ∀a h',Sub h h'->h' a=none->Q (.lst a) (zB h' a (xs.flatMap λx=>((ys x).filter (p x)).map (g x)))):BB (bN i) js ti Ws i' ti' tt' te σ h Q:=by
 refine ht _ ⟨xs.length,λk zs h'=>Sub h h'/\zs=(xs.take k).flatMap λx=>((ys x).filter (p x)).map (g x),⟨Sub.refl h,rfl⟩,?_⟩;rintro k zs h1 ⟨s1,rfl⟩;refine⟨S1 (Jn _ xs k) hz,xs.map c,hj h1 s1,by rw [G6];exact P3 _,λhl a ha=> ?_,λd hd=> ?_⟩
 ·rw [G6] at hl;rw [T8 hl];exact hq a h1 s1 ha
 rw [R9] at hd;cases ex:xs[k]? with
 |none=>rw [ex] at hd;cases hd
 |some x=>
  rw [ex] at hd;injection hd with hd
  subst hd;have mx:=P5 ex;refine⟨_,rfl,?_⟩;unfold Ws;refine zk ?_;refine hin x mx h1 s1 _ λj' h2 s2 hj'=>⟨(ys x).length,λm zs h'=>Sub h2 h'/\zs=((xs.take k).flatMap λx=>((ys x).filter (p x)).map (g x))++(((ys x).take m).filter (p x)).map (g x),⟨Sub.refl h2,by simp⟩,?_⟩
  rintro m zs h3 ⟨s3,rfl⟩;have s03:Sub h h3:=(s1.trans s2).trans s3;have tk:=Pu (λx=>((ys x).filter (p x)).map (g x)) ex;refine⟨?_,(ys x).map c',hj' h3 s3,by rw [G6];exact P3 _,λhl=> ?_,λd hd=> ?_⟩
  ·refine S1 ?_ (S1 (Jn (λx=>((ys x).filter (p x)).map (g x)) xs (k+1)) hz);rw [tk,P4,P4,G6,G6];have:=(U3 m (ys x)).filter (p x) |>.length_le;omega
  ·rw [G6] at hl;refine⟨h3,Sub.refl _,s03,?_⟩;rw [tk,T8 hl]
  ·rw [R9] at hd;cases ey:(ys x)[m]? with
   |none=>rw [ey] at hd;cases hd
   |some y=>
    rw [ey] at hd;injection hd with hd
    subst hd;have my:=P5 ey;have tf:=Pv (p x) (g x) ey;refine hp x mx y my h3 s03 _ ?_
    by_cases cp:p x y=true
    ·rw [S8 cp] at tf ⊢;refine he x mx y my cp h3 s03 _ ⟨h3,Sub.refl _,s3,?_⟩;rw [tf,P7]
    ·rw [S7 cp] at tf ⊢;refine⟨h3,Sub.refl _,s3,?_⟩;rw [tf,E3]
end
theorem encO:Enc zg PY:=⟨Ue,λS=>XF _,λS=>S1 (GI _) (by decide),NH⟩
end L2
namespace L2
open PySem PySem.Spec PyProof.Rows PySem.SeqAt HT
open Classical in
noncomputable def readOf (h:N2)(v:G1):C8:=if e: ∃p as,p.canLay0=true/\Reads h v p as then e.choose else .none
end L2
namespace L2
open PySem PySem.Spec PyProof.Rows PySem.SeqAt
section
variable {α:Type}{i:G9}{js:G0 G9}{ti:TID}{te:TED}{σ:SD}{h:HD}{Q:KD}
theorem Bf {h1:HD}{j:ItD}(ds:G0 D)(W:G9->G0 D->HD->Prop)(hn:ds.length<=1000)(ht: ∀R:ItD->HD->Prop,R j h1->ti σ h R)(hj: ∀k ys h',W k ys h'->j h'=some ds)
 (w0:W 0 [] h1)(wl: ∀k ys h',W k ys h'->ys.length<=k)(turn: ∀k d ys h',ds[k]? =some d->W k ys h'->te ((jM js σ).set i (some d)) h' λy h4=> ∃h5,Sub h5 h4/\(k+1<=ds.length/\W (k+1) (ys++ [y]) h5))
 (done: ∀ys h',W ds.length ys h'-> ∀p,h' p=none->Q (.lst p) (zB h' p ys)):vX (bN i) js ti Ws te σ h Q:=by
 refine ht _ ⟨ds.length,λk ys h'=>k<=ds.length/\W k ys h',⟨M0 _,w0⟩,?_⟩;rintro k ys h' ⟨hk,w⟩;refine⟨S1 (wl k ys h' w) (R8 (jz (by omega))),ds,hj k ys h' w,P3 _,λhl p hp=> ?_,λd hd=>⟨_,rfl,?_⟩⟩
 ·have:k=ds.length:=by omega
  subst this;exact done ys h' w p hp
 ·unfold Ws;dsimp only;rw [S8 rfl];exact turn k d ys h' hd w
end
end L2
namespace L2
open PySem PySem.Spec PyProof.Rows
def s5:G9->G9
 |0=>0
 |d+1=>5*s5 d+1
def f5 (N:G9):G9->G9->G9
 |0,a=>a
 |d+1,a=>(f5 N d a*5+1)%N
theorem Xd: ∀ (fuel k n:G9),3<=k-> ∃m,3<=m/\SetTable.sizeAbove.go n fuel (2^k)=2^m/\(n<2^(k+fuel)->n<2^m)
 |0,k,n,h=>⟨k,h,rfl,λz=>z⟩
 |fuel+1,k,n,h=>by
  unfold SetTable.sizeAbove.go
  by_cases c:2^k<=n
  ·rw [S8 c,<-p0];obtain⟨m,a,b,d⟩:=Xd fuel (k+1) n (by omega);exact⟨m,a,b,λz=>d (by rw [fO,dD];exact z)⟩
  ·rw [S7 c];exact⟨k,h,rfl,λ_=>by omega⟩
theorem above {n:G9}(h:n<2^67): ∃m,bX n=2^m/\n<bX n/\8<=bX n:=by
 obtain⟨m,a,b,c⟩:=Xd 64 3 n (by decide);have b:bX n=2^m:=b;refine⟨m,b,by rw [b];exact c h,?_⟩;rw [b];exact Q9 (show 0<2 by decide) a
end L2
namespace L2
open PySem PySem.Spec PyProof.Rows HT
def Bg (h h':N2):Prop:= ∀ (b:G7) (o:Obj),o.cls= .type "tuple" ->h.get? b=some o->h'.get? b=some o
structure MemK (prog:R5)(w:N0)(K:Type)[DecidableEq K] where
 is:N2->K->G7->Prop
 hash:K->D1
 inj: ∀ {h:N2} {x y:K} {a:G7},is h x a->is h y a->x=y
 keep: ∀ {h h':N2} {x:K} {a:G7},Bg h h'->is h x a->is h' x a
 hashed: ∀ {A:T0} {E:G1->G3->Prop} {s:G3} {x:K} {a:G7} {Q:D1->G3->Prop},A.units+8<cLine->is s.heap x a->(∀tk,Q (hash x) {s with toks:=tk})->R1 (R6 prog w) A (pyHash (.ref a)) Q E s
 same: ∀ {A:T0} {E:G1->G3->Prop} {s:G3} {x y:K} {a b:G7} {Q:M6->G3->Prop},A.units+8<cLine->is s.heap x a->is s.heap y b->Q (decide (x=y)) s->R1 (R6 prog w) A (eqBool (.ref a) (.ref b)) Q E s
 quiet: ∀ {A:T0} {E:G1->G3->Prop} {s:G3} {x:K} {a:G7} {Q:M6->G3->Prop},is s.heap x a->Q true s->R1 (R6 prog w) A (eqIsQuiet 8 (.ref a)) Q E s
 cls: ∀ {A:T0} {E:G1->G3->Prop} {s:G3} {x:K} {a:G7} {Q:M6->G3->Prop},is s.heap x a->Q false s->R1 (R6 prog w) A (ofAClassStatement 8 (.ref a)) Q E s
 byv: ∀ {A:T0} {E:G1->G3->Prop} {s:G3} {x:K} {a:G7} {Q:M6->G3->Prop},is s.heap x a->Q true s->R1 (R6 prog w) A (hashByValue 8 (.ref a)) Q E s
end L2
namespace L2
open PySem PySem.Spec PyProof.Rows PySem.W
structure DefIn (K:Frag)(x:Str)(st:F9)(f:G7)(fd:S0):Prop where
 at_:nsIn K mainGlobals x=some (some (.ref f))
 fn:Fun K x x st f fd
variable {K:Frag}{h base:N2}{mg:Str->P2 G1}{x:Str}{st:F9}{f:G7}{fd:S0}{P:R5}{w:N0}{n:G9}{ps:G0 Str}
theorem Ln {oc:G1}{od an:P2 G7}{osl:T9 (P2 G1)}{kV doc pm cdv ct:G1}(a:nsIn K mainGlobals x=some (some (.ref f)))(l:K.lookup f=some ⟨oc,od,.func (fnOf x x (wY st) (jJ st) (jd st) .none kV doc pm an cdv ct),osl⟩)
 (c:codeIn K cdv x=true)(k:keepIn K (.ref f)=true):DefIn K x st f (fnOf x x (wY st) (jJ st) (jd st) .none kV doc pm an cdv ct):=⟨a,Cs l c k⟩
abbrev Lo (x:Str)(st:F9)(ps:G0 Str):Prop:= ∀ (kV doc pm:G1) (an:P2 G7) (cdv ct:G1) (us:G0 G1),us.length=ps.length->nW (fnOf x x (wY st) (jJ st) (jd st) .none kV doc pm an cdv ct) ⟨us,[]⟩=pure (ps.zip us)
theorem DefIn.nm (d:DefIn K x st f fd)(X:K.In h)(G:h.Ns mainGlobals mg):mg x=some (.ref f):=mg_of X G d.at_
variable {C:G0 G1->Prop}
theorem ln1 (g: ∀a,C [a]): ∀us:G0 G1,us.length=1->C us
 | [_],_=>g _
theorem ln2 (g: ∀a b,C [a,b]): ∀us:G0 G1,us.length=2->C us
 | [_,_],_=>g _ _
theorem ln3 (g: ∀a b c,C [a,b,c]): ∀us:G0 G1,us.length=3->C us
 | [_,_,_],_=>g _ _ _
theorem ln4 (g: ∀a b c d,C [a,b,c,d]): ∀us:G0 G1,us.length=4->C us
 | [_,_,_,_],_=>g _ _ _ _
theorem ln5 (g: ∀a b c d e,C [a,b,c,d,e]): ∀us:G0 G1,us.length=5->C us
 | [_,_,_,_,_],_=>g _ _ _ _ _
theorem DefIn.cal {sp:RDn}(d:DefIn K x st f fd)(l:OpenLaw)(w:N0)(base:N2)(X:K.In h)(G:h.Ns mainGlobals mg)(ok:FnOk l.prog w K mg base CX0 n f fd ps (LSp K sp))(b:Lo x st ps:=by first|exact λ_ _ _ _ _ _=>ln1 λ_=>rfl|exact λ_ _ _ _ _ _=>ln2 λ_ _=>rfl|exact λ_ _ _ _ _ _=>ln3 λ_ _ _=>rfl|exact λ_ _ _ _ _ _=>ln4 λ_ _ _ _=>rfl|exact λ_ _ _ _ _ _=>ln5 λ_ _ _ _ _=>rfl):jq l.prog w K mg base n x ps sp:=⟨_,_,ok,d.fn.binds b,d.fn.kp,d.nm X G⟩
theorem DefIn.rai {sp:RDx}(d:DefIn K x st f fd)(l:OpenLaw)(w:N0)(base:N2)(X:K.In h)(G:h.Ns mainGlobals mg)(ok:FnOk l.prog w K mg base (CXR l.prog w) n f fd ps (Mc mg K sp))(b:Lo x st ps:=by first|exact λ_ _ _ _ _ _=>ln1 λ_=>rfl|exact λ_ _ _ _ _ _=>ln2 λ_ _=>rfl|exact λ_ _ _ _ _ _=>ln3 λ_ _ _=>rfl|exact λ_ _ _ _ _ _=>ln4 λ_ _ _ _=>rfl|exact λ_ _ _ _ _ _=>ln5 λ_ _ _ _ _=>rfl):WW l.prog w K mg base n x ps sp:=⟨_,_,ok,d.fn.binds b,d.fn.kp,d.nm X G⟩
def zsB (K:Frag):M6:= ["len","max","min","divmod","all","any","repr","sum","sorted","int","tuple","list","set","bool","isinstance","range","zip","enumerate","reversed"].all λx=>nsIn K mainGlobals (B6 x)==some none
theorem Ao (X:K.In h)(G:h.Ns mainGlobals mg)(e:zsB K=true):Zs mg:=by
 unfold zsB at e;rw [T3] at e;have m:=λ(x:J9) hx=>mg_none_of X G (beq_iff_eq.mp (e x hx))
 exact⟨m "len" (by decide),m "max" (by decide),m "min" (by decide),m "divmod" (by decide),m "all" (by decide),m "any" (by decide),m "repr" (by decide),m "sum" (by decide),m "sorted" (by decide),m "int" (by decide),m "tuple" (by decide),m "list" (by decide),m "set" (by decide),m "bool" (by decide),m "isinstance" (by decide),m "range" (by decide),m "zip" (by decide),m "enumerate" (by decide),m "reversed" (by decide)⟩
end L2
namespace L2
open PySem PySem.Spec PyProof.Rows
theorem Pw {n i:G9}(hi:i<n):IsS n [i]:=by
 refine⟨λj=>decide (j=i),?_⟩
 induction n with
 |zero=>omega
 |succ n ih=>
  rw [iN,bT]
  by_cases z:i<n
  ·rw [<-ih z];have: ¬n=i:=by omega
   simp [this]
  ·have e:i=n:=by omega
   subst e;have:(N4 i).filter (λj=>decide (j=i))= []:=List.filter_eq_nil_iff.mpr λj hj=>by have:=L7.mp hj;simp;omega
   rw [this];simp
end L2
set_option maxRecDepth 35000
namespace L2
open PySem PySem.Spec PyProof.Rows PySem.SeqAt
mutual
theorem ToP.sub {h h':HD}(s:Sub h h'): ∀ {p:C8} {d:D},ToP h d p->ToP h' d p
 | .none,_,t=>t
 | .bool _,_,t=>t
 | .int _,_,t=>t
 | .str _,_,t=>t
 | .tuple ps,d,t=>by
  obtain⟨ds,e,ts⟩:=(show ∃ds,d= .tup ds/\ToPs h ds ps from t);exact⟨ds,e,ToPs.sub s ts⟩
 | .list ps,d,t=>by
  obtain⟨a,ds,e,k,ts⟩:=(show ∃a ds,d= .lst a/\h a=some ds/\ToPs h ds ps from t);exact⟨a,ds,e,s a ds k,ToPs.sub s ts⟩
 | .dict _,_,t=>t
theorem ToPs.sub {h h':HD}(s:Sub h h'): ∀ {ps:G0 C8} {ds:G0 D},ToPs h ds ps->ToPs h' ds ps
 | [],_,t=>t
 |p::ps,ds,t=>by
  obtain⟨d,r,e,t1,t2⟩:=(show ∃d r,ds=d::r/\ToP h d p/\ToPs h r ps from t);exact⟨d,r,e,ToP.sub s t1,ToPs.sub s t2⟩
end
end L2
namespace L2
open PySem PySem.Spec PyProof.Rows
section
variable {X:Cx}{k i:G9}{ps N Pn:G0 Str}{spd:RDn}{x:Str}{p pos pos':Pos}{e e2 e3 e4 iter elt:S5}{es ifs:G0 S5}{t:TAD}{te te2 te3 te4:TED}{ti:TID}{tt:TTD}{scope sc:O0}{c:S5}
theorem jk (C:jq X.prog X.w X.K X.mg X.base k x ps spd)(hr:Room k X.A)(ha:JA X (e::es) t)(hg:Gl X x:=by rfl)(hdb:(x==("__debug__" :Str))=false:=by decide)(he:D2 (e::es) X.env=(false,O4 e X.env)::D2 es X.env:=by rfl)(hpl:(E6 pos (D2 es X.env)).any (·.1)=false:=by rfl):JE X (.Call (.Name x p) (e::es) [] pos) (dCB spd t):=by
 obtain⟨g,gd,F,hb,hk,hm⟩:=C;exact OY F hr hg hm hk hb ha hdb he hpl
theorem jxk {spr:RDx}(C:WW X.prog X.w X.K X.mg X.base k x ps spr)(hr:Room k X.A)(ha:JA X (e::es) t)(hg:Gl X x:=by rfl)(hdb:(x==("__debug__" :Str))=false:=by decide)(he:D2 (e::es) X.env=(false,O4 e X.env)::D2 es X.env:=by rfl)(hpl:(E6 pos (D2 es X.env)).any (·.1)=false:=by rfl):JXE X (.Call (.Name x p) (e::es) [] pos) (FU spr t):=by
 obtain⟨g,gd,F,hb,hk,hm⟩:=C;exact NO F hr hg hm hk hb ha hdb he hpl
theorem j1 (a:JE X e te)(h:za e=true:=by rfl):JA X [e] (jZ te Zl):=jac a zc h
theorem j2 (a:JE X e te)(b:JE X e2 te2)(h:za e=true:=by rfl)(h2:za e2=true:=by rfl):JA X [e,e2] (jZ te (jZ te2 Zl)):=jac a (j1 b h2) h
theorem j3 (a:JE X e te)(b:JE X e2 te2)(c:JE X e3 te3)(h:za e=true:=by rfl)(h2:za e2=true:=by rfl)(h3:za e3=true:=by rfl):JA X [e,e2,e3] (jZ te (jZ te2 (jZ te3 Zl))):=jac a (j2 b c h2 h3) h
theorem j4 (a:JE X e te)(b:JE X e2 te2)(c:JE X e3 te3)(d:JE X e4 te4)(h:za e=true:=by rfl)(h2:za e2=true:=by rfl)(h3:za e3=true:=by rfl)(h4:za e4=true:=by rfl):JA X [e,e2,e3,e4] (jZ te (jZ te2 (jZ te3 (jZ te4 Zl)))):=jac a (j3 b c d h2 h3 h4) h
theorem JU (Z:Zs X.mg)(a:JE X e te)(hg:Gl X "len" :=by rfl)(h:za e=true:=by rfl)(he:D2 [e] X.env=(false,O4 e X.env)::D2 [] X.env:=by rfl)(hpl:(E6 pos (D2 [] X.env)).any (·.1)=false:=by rfl):JE X (.Call (.Name "len" p) [e] [] pos) (dCB BD (jZ te Zl)):=zm Fk hg Z.len PySem.boot_len (j1 a h) (by decide) (by decide) he hpl
theorem jse (i:G9)(S:FnScope X.N Pn sc)(he:JE X e te)(hi:X.N[i]? =some x:=by rfl)(hx:Loc X.env.scope x:=by first|exact K8 rfl|exact aF rfl)(hs:Y0 e (some (.Name x pos')) pos.line X.env=pure false:=by rfl)(hf:X.fn x=true\/X.env.scope.names.lookup x=some .local:=by first|exact .inl rfl|exact .inr rfl|assumption):JS X (.Assign [.Name x pos'] e pos) (QY i te):=AU S.nd hi hx he hs hf
theorem jgn (i:G9)(S:FnScope X.N Pn sc)(hi:X.N[i]? =some x:=by rfl)(hx:Loc X.env.scope x:=by first|exact K8 rfl|exact aF rfl)(hf:X.fn x=true\/X.env.scope.names.lookup x=some .local:=by first|exact .inl rfl|exact .inr rfl|assumption):JG X (.Name x pos) (gN i):=Ny S.nd hi hx hf
theorem jl1 (i:G9)(S:FnScope X.N Pn sc)(hi:JI X (.Name x p) iter ti)(ht: ∀C s₀ H₀ ex,JT (yS X scope C s₀ H₀ ex) c tt)(he: ∀C s₀ H₀ ex,JE (yS X scope C s₀ H₀ ex) elt te)(hc:X.calm=true:=by rfl)(hB:UJ X.N X.env.scope.names scope [i]=true:=by rfl)(hx:X.N[i]? =some x:=by rfl)(hl:scope.names.lookup x=some .local\/scope.names.lookup x=some .cell:=by first|exact K8 rfl|exact aF rfl)(hs: ∀x,T7 iter X.env x=pure x:=by intro _;rfl):JE X (.ListComp elt [⟨.Name x p,iter,[c],0⟩] scope pos) (vX (bN i) [i] ti tt te):=
 jlc hc (zU hB) hi (P0.mpr rfl) S.nd hx hl (λX' hX=>by obtain⟨C,s₀,H₀,ex,rfl⟩:=hX;exact Gv (ht C s₀ H₀ ex)) (λX' hX=>by obtain⟨C,s₀,H₀,ex,rfl⟩:=hX;exact he C s₀ H₀ ex) hs
theorem jl0 (i:G9)(S:FnScope X.N Pn sc)(hi:JI X (.Name x p) iter ti)(he: ∀C s₀ H₀ ex,JE (yS X scope C s₀ H₀ ex) elt te)(hc:X.calm=true:=by rfl)(hB:UJ X.N X.env.scope.names scope [i]=true:=by rfl)(hx:X.N[i]? =some x:=by rfl)(hl:scope.names.lookup x=some .local\/scope.names.lookup x=some .cell:=by first|exact K8 rfl|exact aF rfl)(hs: ∀x,T7 iter X.env x=pure x:=by intro _;rfl):JE X (.ListComp elt [⟨.Name x p,iter,[],0⟩] scope pos) (vX (bN i) [i] ti Ws te):=
 jlc hc (zU hB) hi (P0.mpr rfl) S.nd hx hl (λX' hX=>Zp) (λX' hX=>by obtain⟨C,s₀,H₀,ex,rfl⟩:=hX;exact he C s₀ H₀ ex) hs
theorem fsc {N P:G0 Str}(a:sc.kind= .function:=by rfl)(b:sc.isCoroutine=false:=by rfl)(c:sc.isGenerator=false:=by rfl)(d:N.Nodup:=by decide +kernel)(e:N.take P.length=P:=by rfl)(f: ∀x∈P,sc.names.lookup x=some .local\/sc.names.lookup x=some .cell:=by decide +kernel)(g: ∀y∈sc.names,y.2≠ .free:=by decide +kernel):FnScope N P sc:=⟨a,b,c,d,e,f,g⟩
theorem jc1 {op:gB}{f:RD2}(ho:OpQ X (M7 op) f)(ha:JE X e te)(hb:JE X e2 te2)(hm:Q3 op e2=false:=by exact Qu _):JE X (.Compare e [op] [e2] pos) (dOp f te te2):=OW ho ha hb hm
theorem jt1 {op:gB}{f:RD2}(ho:OpQ X (M7 op) f)(ha:JE X e te)(hb:JE X e2 te2)(hm:Q3 op e2=false:=by exact Qu _):JT X (.Compare e [op] [e2] pos) (Jz (dOp f te te2)):=Gp ho ha hb hm
theorem ji1 (ha:JE X e te)(hb:JE X e2 te2)(hs:WJ e2:=by exact λ_ _=>rfl):JE X (.Subscript e e2 pos) (dOp ixD te te2):=jix ha hb hs
theorem jrg {tg:S5}(Z:Zs X.mg)(ha:JE X e te)(hg:Gl X "range" :=by rfl)(h:za e=true:=by rfl)(hs:D2 [e] X.env= [(false,O4 e X.env)]:=by rfl):JI X tg (.Call (.Name "range" p) [e] [] pos) (iR1 (jZ te Zl)):=OX hg Z.range (j1 ha h) hs
end
section
variable {P:R5}{w:N0}{K:G2}{mg:Str->P2 G1}{base:N2}{x qual:Str}{st:F9}{f:G7}{fd:S0}{N ps:G0 Str}{k:G9}
theorem Fun.okM {spd:RDn}(F:Fun K x qual st f fd)(S:FnScope N ps (jd st)){tb:TSD}(hbody: ∀ {cdv:G1} {A:T0} {outer:G0 Env} {s:G3} {H:Hp} {E:XK},Room k (A.deeper (A8 qual (jd st) s.heap.objs.size f cdv))->JSs (ZY CX0 P w K mg base N qual (jd st) f cdv A outer s H E).nox (jJ st) tb)
 (read: ∀ds h Q,spd ds h Q->ds.length=ps.length/\tb (Yt Q) (jN N ds) h):FnOk P w K mg base CX0 (k+1) f fd ps (LSp K spd):=F.okJ S (λds h Q q=>(read ds h Q q).1) tb (λ_ _ _ _ _ _ hr=>hbody hr) λds h Q q=>(read ds h Q q).2
theorem Fun.okMX {spr:RDx}(F:Fun K x qual st f fd)(S:FnScope N ps (jd st)){tb:TXD}(hbody: ∀ {cdv:G1} {A:T0} {outer:G0 Env} {s:G3} {H:Hp} {E:XK},Room k (A.deeper (A8 qual (jd st) s.heap.objs.size f cdv))->JX (ZY (CXR P w) P w K mg base N qual (jd st) f cdv A outer s H E) (jJ st) tb)
 (read: ∀ds h R,spr ds h R->ds.length=ps.length/\tb (jN N ds) h R):FnOk P w K mg base (CXR P w) (k+1) f fd ps (Mc mg K spr):=F.okX S (λds h Q q=>(read ds h Q q).1) tb (λ_ _ _ _ _ _ hr=>hbody hr) λds h Q q=>(read ds h Q q).2
end
theorem zi {t u:TSD}{E:EndsD}{σ:SD}{h:HD}(uF:SD)(first: ∀K:SD->HD->Prop,K uF h->t {E with nx:=K} σ h)(rest:u E uF h):wE t u E σ h:=first (u E) rest
theorem sz0:0<=sizeLine:=by decide
theorem sz1:1<=sizeLine:=by decide
theorem sz2:2<=sizeLine:=by decide
theorem sz3:3<=sizeLine:=by decide
theorem sz4:4<=sizeLine:=by decide
theorem sz6:6<=sizeLine:=by decide
section
variable {X:Cx}{s0 s1 s2 s3 s4 s5 s6 s7:F9}{t0 t1 t2 t3 t4 t5 t6 t7:TSD}{c:S5}{tc:TTD}{pos:Pos}
theorem js2 (a:JS X s0 t0)(b:JS X s1 t1):JSs X [s0,s1] (wE t0 t1):=(jt a (jx b))
theorem js3 (a:JS X s0 t0)(b:JS X s1 t1)(c:JS X s2 t2):JSs X [s0,s1,s2] (wE t0 (wE t1 t2)):=(jt a (jt b (jx c)))
theorem js4 (a:JS X s0 t0)(b:JS X s1 t1)(c:JS X s2 t2)(d:JS X s3 t3):JSs X [s0,s1,s2,s3] (wE t0 (wE t1 (wE t2 t3))):=(jt a (jt b (jt c (jx d))))
theorem js5 (a:JS X s0 t0)(b:JS X s1 t1)(c:JS X s2 t2)(d:JS X s3 t3)(e:JS X s4 t4):JSs X [s0,s1,s2,s3,s4] (wE t0 (wE t1 (wE t2 (wE t3 t4)))):=(jt a (jt b (jt c (jt d (jx e)))))
theorem js6 (a:JS X s0 t0)(b:JS X s1 t1)(c:JS X s2 t2)(d:JS X s3 t3)(e:JS X s4 t4)(f:JS X s5 t5):JSs X [s0,s1,s2,s3,s4,s5] (wE t0 (wE t1 (wE t2 (wE t3 (wE t4 t5))))):=(jt a (jt b (jt c (jt d (jt e (jx f))))))
theorem js7 (a:JS X s0 t0)(b:JS X s1 t1)(c:JS X s2 t2)(d:JS X s3 t3)(e:JS X s4 t4)(f:JS X s5 t5)(g:JS X s6 t6):JSs X [s0,s1,s2,s3,s4,s5,s6] (wE t0 (wE t1 (wE t2 (wE t3 (wE t4 (wE t5 t6)))))):=(jt a (jt b (jt c (jt d (jt e (jt f (jx g)))))))
theorem js8 (a:JS X s0 t0)(b:JS X s1 t1)(c:JS X s2 t2)(d:JS X s3 t3)(e:JS X s4 t4)(f:JS X s5 t5)(g:JS X s6 t6)(h:JS X s7 t7):JSs X [s0,s1,s2,s3,s4,s5,s6,s7] (wE t0 (wE t1 (wE t2 (wE t3 (wE t4 (wE t5 (wE t6 t7))))))):=(jt a (jt b (jt c (jt d (jt e (jt f (jt g (jx h))))))))
theorem ZG (hc:JT X c tc)(h:JS X s0 t0):JS X (.If c [s0] [] pos) (MZ tc t0 VQ):=FF hc (jx h) YJ
end
end L2
namespace My
open PySem L2
def top (i:G9):F9:=PySem.Challenge.pw_firstpowers_k34_papers_for_never_by_anyb.main.body.getD i (.Pass ⟨0,0,0,0⟩)
abbrev Je:F9:=top 17
theorem Uj:FnScope ["thing"] ["thing"] (jd Je):=fsc
abbrev yZ:F9:=top 18
theorem Va:FnScope ["thing","least","most"] ["thing","least","most"] (jd yZ):=fsc
abbrev Jf:F9:=top 19
theorem Uk:FnScope ["thing","size"] ["thing","size"] (jd Jf):=fsc
abbrev yf:F9:=top 20
theorem vH:FnScope ["thing","size","each"] ["thing","size"] (jd yf):=fsc
abbrev Ul:F9:=top 21
theorem Xq:FnScope ["row","one","other"] ["row"] (jd Ul):=fsc
abbrev WZ:F9:=top 22
theorem Px:FnScope ["thing","size"] ["thing","size"] (jd WZ):=fsc
abbrev wt:F9:=top 23
theorem yg:FnScope ["thing","size","number"] ["thing","size"] (jd wt):=fsc
abbrev zG:F9:=top 24
theorem wB:FnScope ["thing","row"] ["thing"] (jd zG):=fsc
abbrev wd:F9:=top 25
theorem vI:FnScope ["thing"] ["thing"] (jd wd):=fsc
abbrev Um:F9:=top 27
theorem Xp:FnScope ["table","place","head","number"] ["table","place"] (jd Um):=fsc
abbrev yh:F9:=top 29
theorem wK:FnScope ["table","some","head","place"] ["table","some"] (jd yh):=fsc
abbrev wu:F9:=top 31
theorem yi:FnScope ["table","some","head"] ["table","some"] (jd wu):=fsc
abbrev va:F9:=top 34
theorem Jo:FnScope ["thing","size","d","rest"] ["thing","size","d"] (jd va):=fsc
abbrev vb:F9:=top 35
theorem Jy:FnScope ["table","d","rests","place","head"] ["table","d","rests"] (jd vb):=fsc
abbrev zY:F9:=top 37
theorem JF:FnScope ["table","some"] ["table","some"] (jd zY):=fsc
abbrev zH:F9:=top 38
theorem Jg:FnScope ["table","d","rests"] ["table","d","rests"] (jd zH):=fsc
abbrev zQ:F9:=top 39
theorem yN:FnScope ["table","thing"] ["table","thing"] (jd zQ):=fsc
abbrev vc:F9:=top 41
theorem Vb:FnScope ["_law_script","_law_k"] ["_law_script","_law_k"] (jd vc):=fsc
abbrev Jh:F9:=top 42
theorem ZH:FnScope ["_law_cell_here","_law_left"] ["_law_cell_here"] (jd Jh):=fsc
abbrev vd:F9:=top 43
theorem wj:FnScope ["_law_pen_here","_law_many","_law_left","_law_found","_law_stir"] ["_law_pen_here","_law_many"] (jd vd):=fsc
abbrev yj:F9:=top 44
theorem Ya:FnScope ["_law_thing"] ["_law_thing"] (jd yj):=fsc
abbrev Ji:F9:=top 45
theorem ZI:FnScope ["_law_pen_here","_law_some"] ["_law_pen_here"] (jd Ji):=fsc
abbrev vf:F9:=top 46
theorem ze:FnScope ["_law_e","_law_seen","_law_words"] ["_law_e"] (jd vf):=fsc
abbrev vg:F9:=top 47
theorem Jx:FnScope ["_law_call","_law_found","_law_e","_law_word"] ["_law_call"] (jd vg):=fsc
abbrev vh:F9:=top 48
theorem Vc:FnScope ["_law_found","_law_due"] ["_law_found","_law_due"] (jd vh):=fsc
abbrev vi:F9:=top 49
theorem Vd:FnScope ["_law_pen_here"] ["_law_pen_here"] (jd vi):=fsc
abbrev yk:F9:=top 50
theorem jw:FnScope ["_law_pen_here","_law_size_here","_law_way","_law_often","_law_most","_law_rows","_law_one","_law_row","_law_other","_law_goes"] ["_law_pen_here","_law_size_here"] (jd yk):=fsc
abbrev yl:F9:=top 51
theorem zR:FnScope ["_law_table_here","_law_some","_law_size_here","_law_place","_law_one"] ["_law_table_here","_law_some"] (jd yl):=fsc
abbrev vj:F9:=top 52
theorem zE:FnScope ["_law_many","_law_found","_law_place","_law_some"] ["_law_many"] (jd vj):=fsc
abbrev zZ:F9:=top 53
theorem wQ:FnScope ["_law_pen_here","_law_some"] ["_law_pen_here"] (jd zZ):=fsc
abbrev ym:F9:=top 54
theorem zj:FnScope ["_law_table_here","_law_thing","_law_d","_law_rests_here","_law_one","_law_row","_law_other","_law_number","_law_rest"] ["_law_table_here","_law_thing"] (jd ym):=fsc
abbrev wa:F9:=top 55
theorem wR:FnScope ["_law_thing","_law_one"] ["_law_thing"] (jd wa):=fsc
abbrev yn:F9:=top 56
theorem wL:FnScope ["_law_table_here","_law_thing","_law_size_here","_law_place"] ["_law_table_here","_law_thing"] (jd yn):=fsc
abbrev yo:F9:=top 57
theorem jQ:FnScope ["_law_pen_here","_law_table_here","_law_d","_law_rests_here","_law_turn","_law_one","_law_row","_law_other","_law_number","_law_rest"] ["_law_pen_here","_law_table_here","_law_d"] (jd yo):=fsc
abbrev vk:F9:=top 58
theorem we:FnScope ["_law_pen_here","_law_thing","_law_at","_law_off","_law_rows"] ["_law_pen_here","_law_thing"] (jd vk):=fsc
abbrev Uo:F9:=top 59
theorem wk:FnScope ["_law_script","_law_thing","_law_cell_here","_law_pen_here","_law_size_here","_law_table_here","_law_things","_law_d","_law_turn","_law_due","_law_none","_law_some"] ["_law_script"] (jd Uo):=fsc
section
variable {P:R5}{w:N0}{K:G2}{mg:Str->P2 G1}{base:N2}
/-- no def is asked of the script's list: a thing -/
def Xe:D->M6
 | .int _=>true
 |_=>false
/-- a row of so many numbers from 0 on -/
def LJ:D->M6
 | .int i=>decide (0<=i)
 |_=>false
def Mg (d:D)(k:D1):M6:=match d with
 | .tup ds=>decide ((ds.length:D1)=k)&&ds.all LJ
 |_=>false
/-! every part has a kind that is told,and no tuple is long -/
mutual
def okD:D->M6
 | .scr _=>false| .exc _=>false| .fn _=>false| .dct _=>false
 | .tup ds=>decide (ds.length<=1000)&&okDs ds
 |_=>true
def okDs:G0 D->M6
 | []=>true
 |d::ds=>okD d&&okDs ds
end
theorem JV: ∀ {ds:G0 D},okDs ds=true-> ∀d∈ds,okD d=true
 |d::ds,h,x,hx=>by
  have h':(okD d&&okDs ds)=true:=h;rw [B1] at h';rcases P6.mp hx with e|e
  ·subst e;exact h'.1
  ·exact JV h'.2 x e
theorem Py: ∀ {ds:G0 D},(∀d∈ds,okD d=true)->okDs ds=true
 | [],_=>rfl
 |d::ds,h=>by
  show (okD d&&okDs ds)=true;rw [h d D5,Py λx hx=>h x (D8 _ hx)];rfl
theorem yq {ds:G0 D}(h:okD (.tup ds)=true):ds.length<=1000/\ ∀d∈ds,okD d=true:=by
 have h':(decide (ds.length<=1000)&&okDs ds)=true:=h;rw [B1] at h';exact⟨J0 h'.1,JV h'.2⟩
theorem WE {ds:G0 D}(h:ds.length<=1000)(h2: ∀d∈ds,okD d=true):okD (.tup ds)=true:=by
 show (decide (ds.length<=1000)&&okDs ds)=true;rw [R4 h,Py h2];rfl
variable {d:D}
theorem jY (h:okD d=true): ∃n,YE d=some n:=by
 cases d<;>first|exact⟨_,rfl⟩|cases h
/-- a table -/
def PZ:D->M6
 | .tup rs=>decide (1<=rs.length)&&decide (rs.length<=6)&&rs.all λr=>Mg r rs.length
 |_=>false
def zr:RDn:=λds h Q=> ∃d n,ds= [d]/\YE d=some n/\Q (.bl (Xe d)) h
variable {n:G9}{f:G7}{fd:S0}
theorem Up (Z:Zs mg)(F:Fun K "is_whole" "is_whole" Je f fd):FnOk P w K mg base CX0 (n+1) f fd ["thing"] (LSp K zr):=by
 refine F.okM Uj (λhr=>(jx (zl (VH (JC (T:= "int") (by decide) rfl Z.isinstance rfl Z.int (by decide +kernel) (jv 0)) (VG (AT (JC (T:= "bool") (by decide) rfl Z.isinstance rfl Z.bool (by decide +kernel) (jv 0)))))))) ?_;rintro ds h Q ⟨d,nm,rfl,hn,q⟩;refine⟨rfl,?_⟩;simp only [UI,QU,dIs,Xz,jN,N5,Q6,P8,S2,L5,B3,F7,J4,D.bl.injEq,QV,Yt,K7,hn];cases d<;>cases hn<;>exact⟨h,Sub.refl h,q⟩
def wf:RDn:=λds h Q=> ∃d,∃a b:D1,ds= [d,.int a,.int b]/\okD d=true/\Q (.bl (jB d a b)) h
theorem Ve (Z:Zs mg)(F:Fun K "is_within" "is_within" yZ f fd)(Jl:jq P w K mg base n "is_whole" ["thing"] zr):FnOk P w K mg base CX0 (n+1) f fd ["thing","least","most"] (LSp K wf):=by
 refine F.okM Va (λhr=>(jx (zl (VH (jk Jl hr (j1 (jv 0))) (VG (Gq VT VT (jv 1) (jv 0) (jv 2))))))) ?_;rintro ds h Q ⟨d,a,b,rfl,ok,q⟩;refine⟨rfl,?_⟩;obtain⟨nm,hn⟩:=jY ok;refine⟨_,rfl,d,nm,rfl,hn,Xe d,rfl,?_⟩;cases d with
 |int x=>
  refine zk ⟨_,rfl,_,rfl,_,rfl,?_⟩;show if decide (a<=x)=true then _ else _
  by_cases h1:a<=x
  ·rw [R4 h1];simp only [jB,R4 h1,X7] at q;exact zk ⟨_,rfl,h,Sub.refl h,q⟩
  ·rw [D9 h1];simp only [jB,D9 h1,Q8] at q;exact jG ⟨h,Sub.refl h,q⟩
 |_=>exact jG ⟨h,Sub.refl h,q⟩
def ZJ:RDn:=λds h Q=> ∃d,∃n:D1,ds= [d,.int n]/\okD d=true/\Q (.bl (jB d 0 (n-1))) h
theorem Uq (Z:Zs mg)(F:Fun K "is_place" "is_place" Jf f fd)(wb:jq P w K mg base n "is_within" ["thing","least","most"] wf):FnOk P w K mg base CX0 (n+1) f fd ["thing","size"] (LSp K ZJ):=by
 refine F.okM Uk (λhr=>(jx (zl (jk wb hr (j3 (jv 0) jm (jop Wt (jv 1) jm)))))) ?_;rintro ds h Q ⟨d,k,rfl,ok,q⟩;refine⟨rfl,?_⟩;exact⟨_,rfl,_,rfl,d,0,k-1,rfl,ok,h,Sub.refl h,q⟩
def vJ:RDn:=λds h Q=> ∃d,∃n:D1,ds= [d,.int n]/\okD d=true/\Q (.bl (Uf d n)) h
theorem Yb (Z:Zs mg)(F:Fun K "are_places" "are_places" yf f fd)(Qa:jq P w K mg base n "is_place" ["thing","size"] ZJ):FnOk P w K mg base CX0 (n+1) f fd ["thing","size"] (LSp K vJ):=by
 refine F.okM vH (λhr=>(jx (zl (VH (JC (T:= "tuple") (by decide) rfl Z.isinstance rfl Z.tuple (by decide +kernel) (jv 0)) (VG (zm (yL rfl) rfl Z.all C9 (j1 (jl0 2 vH (zW (jv 0)) (λ_ _ _ _=>(jk Qa hr (j2 (jv 2) (jv 1)))))))))))) ?_;rintro ds h Q ⟨d,k,rfl,ok,q⟩;refine⟨rfl,?_⟩;obtain⟨nm,hn⟩:=jY ok;refine⟨_,rfl,nm,hn,?_⟩;cases d with
 |tup es=>
  cases hn;obtain⟨hl,ht⟩:=yq ok;refine⟨_,rfl,zk ?_⟩;exact Nz es (λx=>x) (λx=>jB x 0 (k-1)) hl (by rw [mC]) (λR r=>⟨_,rfl,r⟩) (λx hx Q' q'=>⟨_,rfl,_,rfl,x,k,rfl,ht x hx,q'⟩) ⟨h,Sub.refl h,q⟩
 |_=>cases hn<;>exact⟨_,rfl,jG ⟨h,Sub.refl h,q⟩⟩
def Xf:RDn:=λds h Q=> ∃S:G0 G9,ds= [zg S]/\S.length<=1000/\Q (.bl ((S.zip (S.drop 1)).all λp=>decide ((p.1:D1)<(p.2:D1)))) h
theorem Rr (Z:Zs mg)(F:Fun K "rises" "rises" Ul f fd):FnOk P w K mg base CX0 (n+1) f fd ["row"] (LSp K Xf):=by
 refine F.okM Xq (λhr=>(jx (zl (zm (yL rfl) rfl Z.all C9 (j1 (AV (i:=1) (j:=2) (js:= [1,2]) rfl (zU (by rfl)) (FM rfl Z.zip (j2 (jv 0) (vy (jv 0) (wq jm) yb))) (by decide) (by decide) (by decide) Xq.nd rfl rfl (by first|exact K8 rfl|exact aF rfl) (by first|exact K8 rfl|exact aF rfl) (λX' hX=>Zp) (λX' hX=>by obtain⟨C,s₀,H₀,ex,rfl⟩:=hX;exact(jc1 VS (jv 1) (jv 2))))))))) ?_;rintro ds h Q ⟨S,rfl,hl,q⟩;refine⟨rfl,?_⟩;refine Ac (j:=λ_=>some (RX (S.map λ(k:G9)=>D.int (k:D1)) (yV (S.map λ(k:G9)=>D.int (k:D1)) (some 1) none))) (S.zip (S.drop 1)) (λp=> .int (p.1:D1)) (λp=> .int (p.2:D1)) (λp=>decide ((p.1:D1)<(p.2:D1))) (by rw [nG];omega) (congrArg some (NI S)) (λR r=>⟨_,rfl,_,rfl,_,rfl,_,_,rfl,r⟩) (λp hp Q' q'=>⟨_,rfl,_,rfl,q'⟩) ⟨h,Sub.refl h,q⟩
variable {S:G0 G9}
theorem Rs (h:S.Pairwise (· < ·)):((S.zip (S.drop 1)).all λp=>decide ((p.1:D1)<(p.2:D1)))=true:=by
 rw [T3];intro p hp;have:=UP h p hp;exact R4 (by omega)
def Ap (n:G9)(d:D):Prop:=(okD d=true/\Uf d (n:D1)=false)\/ ∃S:G0 G9,d=zg S/\(∀i∈S,i<n)/\S.length<=1000/\((S.zip (S.drop 1)).all λp=>decide ((p.1:D1)<(p.2:D1)))=false
def Vf:RDn:=λds h Q=> ∃d,∃n:G9,ds= [d,.int (n:D1)]/\n<=6/\((∃S,d=zg S/\IsS n S/\Q (.bl true) h)\/(Ap n d/\Q (.bl false) h))
theorem Pz (Z:Zs mg)(F:Fun K "is_set" "is_set" WZ f fd)(Bv:jq P w K mg base n "rises" ["row"] Xf)(Vu:jq P w K mg base n "are_places" ["thing","size"] vJ):FnOk P w K mg base CX0 (n+1) f fd ["thing","size"] (LSp K Vf):=by
 refine F.okM Px (λhr=>(jx (zl (VH (jk Vu hr (j2 (jv 0) (jv 1))) (VG (jk Bv hr (j1 (jv 0)))))))) ?_;rintro ds h Q ⟨d,n,rfl,hn,q⟩;refine⟨rfl,?_⟩;have okO: ∀S:G0 G9,S.length<=1000->okD (zg S)=true:=λS hS=>WE (by rw [G6];exact hS) λd hd=>by obtain⟨x,_,rfl⟩:=N8.mp hd;rfl
 have plO: ∀S:G0 G9,(∀i∈S,i<n)->Uf (zg S) (n:D1)=true:=λS hS=>by
  show (S.map _).all _=true;rw [T3];intro x hx;obtain⟨i,hi,rfl⟩:=N8.mp hx;have:=hS i hi;show (decide ((0:D1)<=(i:D1))&&decide ((i:D1)<=(n:D1)-1))=true;rw [R4 (show (0:D1)<=(i:D1) by omega),R4 (show (i:D1)<=(n:D1)-1 by omega)];rfl
 rcases q with ⟨S,rfl,hS,q⟩|⟨⟨ok,bad⟩|⟨S,rfl,hS,hl,hr⟩,q⟩
 ·have hlen:=hS.len;refine⟨_,rfl,_,rfl,zg S,(n:D1),rfl,okO S (by omega),?_⟩;rw [plO S λi hi=>hS.lt hi];refine⟨_,rfl,zk ⟨_,rfl,S,rfl,by omega,?_⟩⟩;rw [Rs hS.rise];exact⟨h,Sub.refl h,q⟩
 ·refine⟨_,rfl,_,rfl,d,(n:D1),rfl,ok,?_⟩;rw [bad];exact⟨_,rfl,jG ⟨h,Sub.refl h,q⟩⟩
 ·refine⟨_,rfl,_,rfl,zg S,(n:D1),rfl,okO S hl,?_⟩;rw [plO S hS];refine⟨_,rfl,zk ⟨_,rfl,S,rfl,hl,?_⟩⟩;rw [hr];exact⟨h,Sub.refl h,q⟩
def yr:RDn:=λds h Q=> ∃d k,ds= [d,.int k]/\okD d=true/\Q (.bl (Mg d k)) h
theorem ZK (Z:Zs mg)(F:Fun K "is_table_row" "is_table_row" wt f fd)(Jl:jq P w K mg base n "is_whole" ["thing"] zr):FnOk P w K mg base CX0 (n+1) f fd ["thing","size"] (LSp K yr):=by
 refine F.okM yg (λhr=>(js2 (ZG (jpt (UL (wy (wI (JC (T:= "tuple") (by decide) rfl Z.isinstance rfl Z.tuple (by decide +kernel) (jv 0)))) (PX (jt1 oq_ne (JU Z (jv 0)) (jv 1))))) (zl jbl)) (zl (zm (yL rfl) rfl Z.all C9 (j1 (jl0 2 yg (zW (jv 0)) (λ_ _ _ _=>(VH (jk Jl hr (j1 (jv 2))) (VG (jc1 Du (jv 2) jm)))))))))) ?_;rintro ds h Q ⟨d,k,rfl,ok,q⟩;refine⟨rfl,?_⟩;obtain⟨nm,hn⟩:=jY ok;simp only [wE,MZ,Cy,QR,Jz,dIs,Xz,jN,N5,Q6,P8,S2,S4,L5,B3,F7,J4,D.bl.injEq,UI,dC,Yt,VQ,dCB,jZ,Zl,dOp,BD,U5,neD,K7,hn];cases d with
 |tup es=>
  cases hn;obtain⟨hl,ht⟩:=yq ok;simp only [Fm]
  by_cases hk:(es.length:D1)=k
  ·simp only [hk];simp;refine Gh (ds:=es) (h1:=h) (j:=λ_=>some es) (λx=> .bl (LJ x)) (R8 (jz hl)) rfl (λR r=>⟨.tup es,rfl,r⟩) (λd hd Q' q'=> ?_) (λp hp=> ?_)
   ·obtain⟨nn,hnn⟩:=jY (ht d hd);refine⟨d,rfl,d,nn,rfl,hnn,Xe d,rfl,?_⟩;cases d with
    |int i=>exact zk ⟨.int i,rfl,q'⟩
    |_=>exact jG q'
   ·refine⟨p,es.map LJ,rfl,by rw [jc];simp,h,?_,?_⟩
    ·rw [zC hp];exact Sub.refl h
    ·simpa [Mg,hk,Q7,gJ] using q
  ·simp [hk];exact⟨h,Sub.refl h,by simpa [Mg,hk] using q⟩
 |_=>cases hn<;>exact⟨h,Sub.refl h,q⟩
def zt:RDn:=λds h Q=> ∃d,ds= [d]/\okD d=true/\Q (.bl (PZ d)) h
theorem Jj (Z:Zs mg)(F:Fun K "has_table_form" "has_table_form" zG f fd)(Wf:jq P w K mg base n "is_table_row" ["thing","size"] yr)(vn: ∃tk,mg "MOST_ROWS" =some (.int 6 tk)):FnOk P w K mg base CX0 (n+1) f fd ["thing"] (LSp K zt):=by
 obtain⟨tk_MOST_ROWS,m_MOST_ROWS⟩:=vn;refine F.okM wB (λhr=>(js2 (ZG (jpt (UL (wy (wI (JC (T:= "tuple") (by decide) rfl Z.isinstance rfl Z.tuple (by decide +kernel) (jv 0)))) (PX (wy (Gr VT VT jm (JU Z (jv 0)) (FE rfl m_MOST_ROWS)))))) (zl jbl)) (zl (zm (yL rfl) rfl Z.all C9 (j1 (jl0 1 wB (zW (jv 0)) (λ_ _ _ _=>(jk Wf hr (j2 (jv 1) (JU Z (jv 0))))))))))) ?_;rintro ds h Q ⟨d,rfl,ok,q⟩;refine⟨rfl,?_⟩;obtain⟨nm,hn⟩:=jY ok;simp only [wE,MZ,Cy,QR,Jz,dIs,Xz,jN,N5,Q6,P8,S2,S4,L5,B3,F7,J4,D.bl.injEq,UI,dC,Yt,VQ,dCB,jZ,Zl,Zm,BD,RQ,K7,hn];cases d with
 |tup es=>
  cases hn;obtain⟨hl,ht⟩:=yq ok;simp only [Fm]
  by_cases h1:1<=es.length
  ·by_cases h6:es.length<=6
   ·have h1':(1:D1)<=es.length:=by omega
    have h6':(es.length:D1)<=6:=by omega
    simp [h1',h6'];refine Gh (ds:=es) (h1:=h) (j:=λ_=>some es) (λx=> .bl (Mg x es.length)) (R8 (jz hl)) rfl (λR r=>⟨.tup es,rfl,r⟩) (λd hd Q' q'=> ?_) (λp hp=> ?_)
    ·exact⟨d,rfl,.tup es,rfl,d,es.length,rfl,ht d hd,q'⟩
    ·refine⟨p,es.map λx=>Mg x es.length,rfl,by rw [jc];simp,h,?_,?_⟩
     ·rw [zC hp];exact Sub.refl h
     ·simpa [PZ,h1,h6,Q7,gJ] using q
   ·have h1':(1:D1)<=es.length:=by omega
    have h6': ¬ (es.length:D1)<=6:=by omega
    simp [h1',h6'];exact⟨h,Sub.refl h,by simpa [PZ,h1,h6] using q⟩
  ·have h1': ¬ (1:D1)<=es.length:=by omega
   simp [h1'];exact⟨h,Sub.refl h,by simpa [PZ,h1] using q⟩
 |_=>cases hn<;>exact⟨h,Sub.refl h,q⟩
theorem Bh {x:D1}(h:0<=x):LJ (.int x)=true:=R4 h
variable {T:G0 (G0 D1)}
theorem Bi {e:G9}(h:Sq n e T){r:G0 D1}(hr:r∈T):Mg (zN r) n=true:=by
 simp only [Mg,zN,G6,h.row r hr,decide_true,X7,Q7,T3,aO];intro x hx;exact Bh (h.nn r hr x hx)
theorem Bj {e:G9}(h:Sq n e T)(h1:1<=n)(h6:n<=6):PZ (zd T)=true:=by
 simp only [PZ,zd,G6,h.len,R4 h1,R4 h6,X7,Q7,T3,aO];intro r hr;exact Bi h hr
theorem Lp {e:G9}(h:Sq n e T)(h6:n<=6):okD (zd T)=true:=
 WE (by rw [G6,h.len];omega) λd hd=>by
  obtain⟨r,hr,rfl⟩:=N8.mp hd;exact WE (by rw [G6,h.row r hr];omega) λd hd=>by obtain⟨x,_,rfl⟩:=N8.mp hd;rfl
def vK:RDn:=λds h Q=> ∃T,∃n e:G9,ds= [zd T]/\Sq n e T/\1<=n/\n<=6/\Q .non h
theorem Yc (Z:Zs mg)(F:Fun K "want_table" "want_table" wd f fd)(zJ:jq P w K mg base n "has_table_form" ["thing"] zt):FnOk P w K mg base CX0 (n+1) f fd ["thing"] (LSp K vK):=by
 refine F.okM vI (λhr=>(jx (ZG (wy (wI (jk zJ hr (j1 (jv 0))))) Gw))) ?_;rintro ds h Q ⟨T,k,b,rfl,hT,h1,h6,q⟩;refine⟨rfl,?_⟩;refine⟨_,rfl,zd T,rfl,Lp hT h6,_,rfl,?_⟩;rw [Bj hT h1 h6];exact jG ⟨h,Sub.refl h,q⟩
def yO:RDx:=λds h R=> ∃d,ds= [d]/\okD d=true/\PZ d=false/\R "NoTable" h
theorem Wd (Z:Zs mg)(Ex:Exc K mg)(F:Fun K "want_table" "want_table" wd f fd)(zJ:jq P w K mg base n "has_table_form" ["thing"] zt):FnOk P w K mg base (CXR P w) (n+1) f fd ["thing"] (Mc mg K yO):=by
 refine F.okMX vI (λhr=>(Ag (wy (wI (jk zJ hr (j1 (jv 0))))) (DS rfl (Ex.own "NoTable" (by decide)) rfl))) ?_;rintro ds h R ⟨d,rfl,ok,bad,q⟩;refine⟨rfl,?_⟩;refine⟨_,rfl,d,rfl,ok,_,rfl,?_⟩;rw [bad];exact⟨rfl,q⟩
theorem Bk {r:G0 D1}(h:r.length=n):YL (r.map D.int)=(N4 n).map λ(j:G9)=>D.tup [.int (j:D1),.int (r.getD j 0)]:=by
 apply mB;intro i
 by_cases hi:i<n
 ·have hi':i<(YL (r.map D.int)).length:=by rw [jE,G6,h];exact hi
  obtain⟨x,hx,ed⟩:=yE (G8 hi');rw [G8 hi',ed];rw [R9,dQ hi];rw [R9,G8 (by omega)] at hx;injection hx with hx
  rw [<-hx];show some (D.tup [D.int (i:D1),D.int r[i]])=some (D.tup [D.int (i:D1),D.int (r.getD i 0)]);rw [N6,G8 (show i<r.length by omega)];rfl
 ·rw [Z7 (by rw [jE,G6];omega),Z7 (by simp;omega)]
def Xg:RDn:=λds h Q=> ∃T,∃n e p:G9,ds= [zd T,.int (p:D1)]/\Sq n e T/\n<=6/\p<n/\ ∀F,h F=none->Q (.lst F) (zB h F ((Qg T n p).map λ(k:G9)=>D.int (k:D1)))
theorem Rt (Z:Zs mg)(F:Fun K "heads" "heads" Um f fd):FnOk P w K mg base CX0 (n+1) f fd ["table","place"] (LSp K Xg):=by
 refine F.okM Xp (λhr=>(jx (zl (AV (i:=2) (j:=3) (js:= [2,3]) rfl (zU (by rfl)) (Zr rfl Z.enumerate (j1 (ji1 (jv 0) (jv 1)))) (by decide) (by decide) (by decide) Xp.nd rfl rfl (by first|exact K8 rfl|exact aF rfl) (by first|exact K8 rfl|exact aF rfl) (λX' hX=>by obtain⟨C,s₀,H₀,ex,rfl⟩:=hX;exact Gv (jt1 oq_ne (jv 3) jm)) (λX' hX=>by obtain⟨C,s₀,H₀,ex,rfl⟩:=hX;exact(jv 2)))))) ?_;rintro ds h Q ⟨T,n,bb,p,rfl,hT,n6,hp,q⟩;refine⟨rfl,?_⟩;refine EX (j:=λ_=>some (YL ((T.getD p []).map D.int))) (N4 n) (λj=> .int (j:D1)) (λj=> .int ((T.getD p []).getD j 0)) (λj=> .int (j:D1)) (λj=>decide (ent T p j>0)) (by rw [X1];omega) (congrArg some (Bk (hT.row _ (Sq.getRow hT hp)))) (λR r=>⟨_,rfl,_,rfl,_,Ua hT hp,_,rfl,r⟩) (λx hx Q' q'=>⟨_,rfl,_,rfl,?_⟩) (λx hx _ Q' q'=>⟨_,rfl,q'⟩) (λF eF=>⟨_,Sub.refl _,q F eF⟩);have hnn:=(hT.ent_nn hp (L7.mp hx)).1;have e4:(!decide (((T.getD p []).getD x 0)=0))=decide (ent T p x>0):=by
  show (!decide (ent T p x=0))=_
  by_cases z:ent T p x=0
  ·rw [z];rfl
  ·rw [D9 z,R4 (by omega)];rfl
 rw [<-e4] at q';exact q'
def vL:RDn:=λds h Q=> ∃T S,∃n e:G9,ds= [zd T,zg S]/\Sq n e T/\IsS n S/\n<=6/\Q (zg (WU n T S)) h
theorem Yd (Z:Zs mg)(F:Fun K "step_after" "step_after" yh f fd):FnOk P w K mg base CX0 (n+1) f fd ["table","some"] (LSp K vL):=by
 refine F.okM wK (λhr=>(jx (zl (ya Zn rfl Z.tuple (by decide +kernel) (j1 (jl1 2 wK (jrg Z (JU Z (jv 0))) (λ_ _ _ _=>(wI (zm (Fn rfl) rfl Z.any (by decide +kernel) (j1 (jl0 3 wK (zW (jv 1)) (λ_ _ _ _=>(jc1 oq_ne (ji1 (ji1 (jv 0) (jv 3)) (jv 2)) jm))))))) (λ_ _ _ _=>(jv 2)))))))) ?_;rintro ds h Q ⟨T,S,k,b,rfl,hT,hS,h6,q⟩;refine⟨rfl,?_⟩;have hlen:=hS.len;refine FI (N4 k) (λj=> .int (j:D1)) (λj=> .int (j:D1)) (λj=>S.any λi=>decide (ent T i j≠0)) (by rw [X1];omega) rfl (λR r=>⟨_,rfl,(k:D1),by rw [G6,hT.len],by omega,by omega,r⟩) (λj hj Q' q'=> ?_) (λj hj hp Q' q'=>⟨_,rfl,q'⟩) ⟨h,Sub.refl h,q⟩;refine ES S (λi=> .int (i:D1)) (λi=>decide (ent T i j≠0)) (by omega) rfl (λR r=>⟨_,rfl,r⟩) (λi hi Q'' q''=> ?_) ⟨_,rfl,q'⟩;have hi':=hS.lt hi;refine⟨_,rfl,_,rfl,_,Ua hT hi',_,rfl,_,Gy (hT.row _ (Sq.getRow hT hi')) (L7.mp hj),?_⟩;have e:(!decide (((T.getD i []).getD j 0)=0))=decide (ent T i j≠0):=by simp [ent]
 rw [<-e] at q'';exact q''
def yt:RDn:=λds h Q=> ∃T S,∃n e:G9,ds= [zd T,zg S]/\Sq n e T/\IsS n S/\n<=6/\Q (.bl (Rp n T S)) h
theorem ZL (Z:Zs mg)(F:Fun K "keeps_arrows" "keeps_arrows" wu f fd)(Vv:jq P w K mg base n "step_after" ["table","some"] vL):FnOk P w K mg base CX0 (n+1) f fd ["table","some"] (LSp K yt):=by
 refine F.okM yi (λhr=>(jx (zl (zm (yL rfl) rfl Z.all C9 (j1 (jl0 2 yi (zW (jk Vv hr (j2 (jv 0) (jv 1)))) (λ_ _ _ _=>(OW (NE hr.units) (jv 2) (jv 1) (by with_unfolding_all rfl))))))))) ?_;rintro ds h Q ⟨T,S,n,b,rfl,hT,hS,h6,q⟩;refine⟨rfl,?_⟩;have l:=YZ (n:=n) (T:=T) (S:=S);exact Nz (j:=λ_=>some ((WU n T S).map λ(k:G9)=>D.int (k:D1))) (WU n T S) (λ(k:G9)=> .int (k:D1)) (λj=>decide (j∈S)) (by omega) rfl (λR r=>⟨_,rfl,_,rfl,T,S,n,b,rfl,hT,hS,h6,r⟩) (λj hj Q' q'=>⟨_,rfl,_,rfl,Ps q'⟩) ⟨h,Sub.refl h,q⟩
def wS (d:D)(n k:D1):M6:=match d with
 | .tup es=>decide ((es.length:D1)=n)&&es.all (λx=>jB x 0 (k-1))
 |_=>false
def Jp:RDn:=λds h Q=> ∃d,∃n k:D1,ds= [d,.int n,.int k]/\okD d=true/\Q (.bl (wS d n k)) h
theorem Vg (Z:Zs mg)(F:Fun K "are_rests" "are_rests" va f fd)(wb:jq P w K mg base n "is_within" ["thing","least","most"] wf):FnOk P w K mg base CX0 (n+1) f fd ["thing","size","d"] (LSp K Jp):=by
 refine F.okM Jo (λhr=>(js2 (ZG (jpt (UL (wy (wI (JC (T:= "tuple") (by decide) rfl Z.isinstance rfl Z.tuple (by decide +kernel) (jv 0)))) (PX (jt1 oq_ne (JU Z (jv 0)) (jv 1))))) (zl jbl)) (zl (zm (yL rfl) rfl Z.all C9 (j1 (jl0 3 Jo (zW (jv 0)) (λ_ _ _ _=>(jk wb hr (j3 (jv 3) jm (jop Wt (jv 2) jm)))))))))) ?_;rintro ds h Q ⟨d,n,k,rfl,ok,q⟩;refine⟨rfl,?_⟩;obtain⟨nm,hn⟩:=jY ok;cases d with
 |tup es=>
  obtain⟨hl,ht⟩:=yq ok;refine jh (λtE h'=>(es.length:D1)=n/\tE= [some (.tup es),some (.int n),some (.int k),none]/\h=h') (λC hC=>⟨_,rfl,_,rfl,_,rfl,jG ⟨_,rfl,_,rfl,?_⟩⟩) ?_
  ·show ∃b,D.bl (!decide ((es.length:D1)=n))= .bl b/\_
   by_cases z:(es.length:D1)=n
   ·rw [R4 z];exact⟨_,rfl,jG (hC _ _ ⟨z,rfl,rfl⟩)⟩
   ·have e:wS (.tup es) n k=false:=by show (decide _&&_)=false;rw [D9 z];rfl
    rw [e] at q;rw [D9 z];exact⟨_,rfl,zk ⟨h,Sub.refl h,q⟩⟩
  rintro _ _ ⟨z,rfl,rfl⟩;have e:wS (.tup es) n k=es.all (λx=>jB x 0 (k-1)):=by show (decide _&&_)=_;rw [R4 z];rfl
  rw [e] at q;exact Nz es (λx=>x) (λx=>jB x 0 (k-1)) hl (by rw [mC]) (λR r=>⟨_,rfl,r⟩) (λx hx Q' q'=>⟨_,rfl,_,rfl,x,0,k-1,rfl,ht x hx,q'⟩) ⟨h,Sub.refl h,q⟩
 |_=>cases hn<;>exact jh (λ_ _=>False) (λC hC=>⟨_,rfl,_,rfl,_,rfl,zk (zk ⟨h,Sub.refl h,q⟩)⟩) (λ_ _ z=>z.elim)
variable {h:HD}
theorem Ru {b:D->SD->SD->Prop}{js:G0 G9}{ti ti':TID}{tt tt':TTD}{i':G9}{te:TED}{E:EndsD}{σ:SD}(x:BB b js ti tt i' ti' tt' te σ h λv h1=>Nt [v] h1 λd h2=>E.rt d h2):UI (dCB Nt (jZ (BB b js ti tt i' ti' tt' te) Zl)) E σ h:=x
theorem Xh {α:Type}{f:G9->G0 α}: ∀ {xs:G0 G9},(∀x∈xs,(f x).length<=6)->(xs.flatMap f).length<=6*xs.length
 | [],_=>M0 _
 |x::xs,h=>by
  have a:=h x D5;have b:=Xh (xs:=xs) λy hy=>h y (D8 _ hy)
  rw [gL,P4,P8];omega
def zf (d:D)(j:G9):D1:=match d with
 | .tup es=>(match es.getD j .non with| .int x=>x|_=>0)
 |_=>0
def Rv (T:G0 (G0 D1))(n:G9)(x:D)(k:D1):M6:=(N4 n).all λp=>(Qg T n p).all λj=>decide (zf x j=(zf x p+1)%k)
/-- turns of a table,whatever both are -/
def wC (T:G0 (G0 D1))(n:G9)(d x:D):M6:=match d with
 | .int k=>jB (.int k) 1 6&&(wS x n k&&Rv T n x k)
 |_=>false
variable {es:G0 D}{k:D1}
theorem Xi {n:D1}(h:wS (.tup es) n k=true):(es.length:D1)=n/\ ∀j:G9,j<es.length-> ∃r:D1,atI es (j:D1)=some (.int r)/\zf (.tup es) j=r/\0<=r/\r<=k-1:=by
 have h':(decide ((es.length:D1)=n)&&es.all (λx=>jB x 0 (k-1)))=true:=h;rw [B1,B7,T3] at h';refine⟨h'.1,λj hj=> ?_⟩;have w:=h'.2 es[j] (L6 hj);cases e:es[j] with
 |int r=>
  rw [e] at w;have w':(decide ((0:D1)<=r)&&decide (r<=k-1))=true:=w;rw [B1,B7,B7] at w';refine⟨r,yQ (by rw [G8 hj,e]),?_,w'.1,w'.2⟩;unfold zf;dsimp only;rw [N6,G8 hj,e];rfl
 |_=>rw [e] at w;cases w
theorem PB {α β:Type}{f g:α->G0 β}: ∀ {xs:G0 α},(∀x∈xs,f x=g x)->xs.flatMap f=xs.flatMap g
 | [],_=>rfl
 |x::xs,h=>by rw [gL,gL,h x D5,PB λy hy=>h y (D8 _ hy)]
def Jq:RDn:=λds h Q=> ∃T d x,∃n e:G9,ds= [zd T,d,x]/\Sq n e T/\1<=n/\n<=6/\okD d=true/\okD x=true/\Q (.bl (wC T n d x)) h
theorem Vh (Z:Zs mg)(F:Fun K "are_turns" "are_turns" vb f fd)(Uw:jq P w K mg base n "are_rests" ["thing","size","d"] Jp)(wb:jq P w K mg base n "is_within" ["thing","least","most"] wf)(Bs:jq P w K mg base n "heads" ["table","place"] Xg)(yy: ∃tk,mg "MOST_TURNS" =some (.int 6 tk)):FnOk P w K mg base CX0 (n+1) f fd ["table","d","rests"] (LSp K Jq):=by
 obtain⟨tk_MOST_TURNS,m_MOST_TURNS⟩:=yy;refine F.okM Jy (λhr=>(js2 (ZG (jpt (UL (wy (wI (jk wb hr (j3 (jv 1) jm (FE rfl m_MOST_TURNS))))) (PX (wy (wI (jk Uw hr (j3 (jv 2) (JU Z (jv 0)) (jv 1)))))))) (zl jbl)) (zl (zm (yL rfl) rfl Z.all C9 (j1 (EN (i:=3) (i':=4) (js:= [3,4]) rfl (zU (by rfl)) (jrg Z (JU Z (jv 0))) (by decide) (by decide) (by decide) Jy.nd rfl rfl (by first|exact K8 rfl|exact aF rfl) (by first|exact K8 rfl|exact aF rfl) (λX' hX=>Zp) (λX' hX=>by obtain⟨C,s₀,H₀,ex,rfl⟩:=hX;exact(zW (jk Bs hr (j2 (jv 0) (jv 3))))) (λX' hX=>Zp) (λX' hX=>by obtain⟨C,s₀,H₀,ex,rfl⟩:=hX;exact(jc1 oq_eq (ji1 (jv 2) (jv 4)) (jop wZ (jop jH (ji1 (jv 2) (jv 3)) jm) (jv 1)))))))))) ?_;rintro ds h Q ⟨T,d,x,n,b,rfl,hT,h1,h6,okd,okx,q⟩;refine⟨rfl,?_⟩;have hlen:(((T.map zN).length:G9):D1)=(n:D1):=by rw [G6,hT.len]
 refine jh (λtE h'=> ∃k es,d= .int k/\x= .tup es/\jB (.int k) 1 6=true/\wS (.tup es) n k=true/\tE= [some (zd T),some (.int k),some (.tup es),none,none]/\h=h') (λC hC=>⟨_,rfl,d,1,6,rfl,okd,_,rfl,?_⟩) ?_
 ·cases hw:jB d 1 6 with
  |false=>
   have e:wC T n d x=false:=by
    cases d with
    |int k=>show (jB (.int k) 1 6&&_)=false;rw [hw];rfl
    |_=>rfl
   rw [e] at q;exact zk (zk ⟨h,Sub.refl h,q⟩)
  |true=>
   cases d with
   |int k=>
    refine jG ⟨_,rfl,_,rfl,_,rfl,x,_,k,rfl,okx,_,rfl,?_⟩;rw [hlen];cases hr:wS x n k with
    |false=>
     have e:wC T n (.int k) x=false:=by show (_&&(wS x n k&&_))=false;rw [hr,Q8,oN]
     rw [e] at q;exact zk ⟨h,Sub.refl h,q⟩
    |true=>
     cases x with
     |tup es=>exact jG (hC _ _ ⟨k,es,rfl,rfl,hw,hr,rfl,rfl⟩)
     |_=>cases hr
   |_=>cases hw
 rintro _ _ ⟨k,es,rfl,rfl,hw,hr,rfl,rfl⟩;have e:wC T n (.int k) (.tup es)=Rv T n (.tup es) k:=by show (_&&(wS _ n k&&_))=_;rw [hw,hr];rfl
 rw [e] at q;obtain⟨el,at_⟩:=Xi hr;have kp:0<k:=by
  have w':(decide ((1:D1)<=k)&&decide (k<=6))=true:=hw;rw [B1,B7] at w';omega
 refine Ru (Lm (N4 n) (λ(i:G9)=> .int (i:D1)) (λp=>Qg T n p) (λ(j:G9)=> .int (j:D1)) (λ_ _=>true) (λp j=> .bl (decide (zf (.tup es) j=(zf (.tup es) p+1)%k))) ?_ (λh' _=>rfl) (λR r=>⟨_,rfl,(n:D1),by rw [G6,hT.len],by omega,by omega,r⟩) (λp hp h' s R r=>⟨_,rfl,_,rfl,T,n,b,p,rfl,hT,h6,L7.mp hp,λF eF=>r (λh=>h F) _ (Sub.newAt (Sub.refl _) eF) λh3 s3=>s3 _ _ jc⟩) (λp hp j hj h' s Q' q'=>q') (λp hp j hj _ h' s Q' q'=> ?_) λa h' s ha=> ?_)
 ·exact S1 (Xh λp _=>by rw [G6];exact S1 (W4 _ _) (S1 (NK p) h6)) (R8 (jz (by rw [X1];omega)))
 ·have hp:=L7.mp hp;have hj:=FT hj;obtain⟨r,a1,a2,_⟩:=at_ j (by omega);obtain⟨r',b1,b2,_⟩:=at_ p (by omega);rw [a2,b2] at q';exact⟨_,rfl,_,rfl,_,a1,_,rfl,_,rfl,_,b1,_,rfl,kp,q'⟩
 ·refine⟨a,(N4 n).flatMap λp=>(Qg T n p).map λj=>decide (zf (.tup es) j=(zf (.tup es) p+1)%k),rfl,?_,?_⟩
  ·rw [jc,List.map_flatMap];refine congrArg some (PB λp _=> ?_);rw [List.filter_eq_self.mpr (λ_ _=>rfl),O7];rfl
  ·rw [zC ha,List.all_flatMap];refine⟨h,s,?_⟩;rw [show ((N4 n).all λp=>((Qg T n p).map λj=>decide (zf (.tup es) j=(zf (.tup es) p+1)%k)).all id)=Rv T n (.tup es) k from congrArg (List.all (N4 n)) (funext λp=>by rw [Q7];rfl)];exact q
def wT:RDn:=λds h Q=> ∃T d,∃n e:G9,ds= [zd T,d]/\Sq n e T/\1<=n/\n<=6/\((∃S,d=zg S/\IsS n S/\Q (.bl (decide (0<S.length)&&(decide (S.length<n)&&Rp n T S))) h)\/(Ap n d/\Q (.bl false) h))
theorem JH (Z:Zs mg)(F:Fun K "shows_by_shut" "shows_by_shut" zY f fd)(Wg:jq P w K mg base n "keeps_arrows" ["table","some"] yt)(RI:jq P w K mg base n "is_set" ["thing","size"] Vf):FnOk P w K mg base CX0 (n+1) f fd ["table","some"] (LSp K wT):=by
 refine F.okM JF (λhr=>(jx (zl (VH (jk RI hr (j2 (jv 1) (JU Z (jv 0)))) (VH (Gq VS VS jm (JU Z (jv 1)) (JU Z (jv 0))) (VG (jk Wg hr (j2 (jv 0) (jv 1))))))))) ?_;rintro ds h Q ⟨T,d,n,b,rfl,hT,h1,h6,q⟩;refine⟨rfl,?_⟩;have hlen:(((T.map zN).length:G9):D1)=(n:D1):=by rw [G6,hT.len]
 refine⟨_,rfl,_,rfl,d,n,by show [d,D.int (((T.map zN).length:G9):D1)]=_;rw [hlen],h6,?_⟩;rcases q with ⟨S,rfl,hS,q⟩|⟨bad,q⟩
 ·refine .inl ⟨S,rfl,hS,_,rfl,zk ⟨_,rfl,?_⟩⟩;show ∃k,D.bl (decide ((0:D1)<(((S.map λ(k:G9)=>D.int (k:D1)).length:G9):D1)))= .bl k/\_;rw [G6,show decide ((0:D1)<((S.length:G9):D1))=decide (0<S.length) from by rw [H0,B7,B7];omega];cases c1:decide (0<S.length) with
  |false=>
   rw [c1] at q;exact⟨_,rfl,jG ⟨_,rfl,jG ⟨h,Sub.refl h,q⟩⟩⟩
  |true=>
   rw [c1] at q;refine⟨_,rfl,zk ⟨_,rfl,?_⟩⟩;show ∃k,D.bl (decide (((S.length:G9):D1)<(((T.map zN).length:G9):D1)))= .bl k/\_;rw [hlen,show decide (((S.length:G9):D1)<(n:D1))=decide (S.length<n) from by rw [H0,B7,B7];omega];cases c2:decide (S.length<n) with
   |false=>rw [c2] at q;exact⟨_,rfl,jG ⟨h,Sub.refl h,q⟩⟩
   |true=>rw [c2] at q;exact⟨_,rfl,zk ⟨_,rfl,_,rfl,T,S,n,b,rfl,hT,hS,h6,h,Sub.refl h,q⟩⟩
 ·exact .inr ⟨bad,_,rfl,jG ⟨h,Sub.refl h,q⟩⟩
def Vi (d:D):M6:=match d with
 | .int k=>decide (2<=k)
 |_=>false
def wD:RDn:=λds h Q=> ∃T d x,∃n e:G9,ds= [zd T,d,x]/\Sq n e T/\1<=n/\n<=6/\okD d=true/\okD x=true/\Q (.bl (wC T n d x&&Vi d)) h
theorem Jk (Z:Zs mg)(F:Fun K "shows_by_turns" "shows_by_turns" zH f fd)(Ux:jq P w K mg base n "are_turns" ["table","d","rests"] Jq):FnOk P w K mg base CX0 (n+1) f fd ["table","d","rests"] (LSp K wD):=by
 refine F.okM Jg (λhr=>(jx (zl (VH (jk Ux hr (j3 (jv 0) (jv 1) (jv 2))) (VG (jc1 Du (jv 1) jm)))))) ?_;rintro ds h Q ⟨T,d,x,n,b,rfl,hT,h1,h6,okd,okx,q⟩;refine⟨rfl,?_⟩;refine⟨_,rfl,_,rfl,_,rfl,T,d,x,n,b,rfl,hT,h1,h6,okd,okx,_,rfl,?_⟩;cases z:wC T n d x with
 |false=>rw [z] at q;exact jG ⟨h,Sub.refl h,q⟩
 |true=>
  rw [z] at q;cases d with
  |int k=>exact zk ⟨_,rfl,h,Sub.refl h,q⟩
  |_=>cases z
def zF (d:D)(s:Str):M6:=match d with
 | .str x=>decide (x=s)
 |_=>false
variable {s:Str}
theorem Ye (h:zF d s=true):d= .str s:=by
 cases d with
 |str x=>exact congrArg D.str (J0 h)
 |_=>cases h
variable {x:D}{p:C8}{Q:KD}
theorem eq_str (t:ToP h x p)(sh:E9 p=true)(hs:E9 (.str s)=true)(q:Q (.bl (zF x s)) h):eqE x (.str s) h Q:=by
 cases p with
 |str y=>cases (show x= .str y from t);exact q
 |none=>cases (show x= .non from t);exact⟨_,.str s,t,rfl,sh,hs,q⟩
 |bool b=>cases (show x= .bl b from t);exact⟨_,.str s,t,rfl,sh,hs,q⟩
 |int i=>cases (show x= .int i from t);exact⟨_,.str s,t,rfl,sh,hs,q⟩
 |tuple ps=>obtain⟨ds,e,_⟩:=(show ∃ds,x= .tup ds/\ToPs h ds ps from t);subst e;exact⟨_,.str s,t,rfl,sh,hs,q⟩
 |list ps=>obtain⟨a,ds,e,_⟩:=(show ∃a ds,x= .lst a/\h a=some ds/\ToPs h ds ps from t);subst e;exact⟨_,.str s,t,rfl,sh,hs,q⟩
 |dict kvs=>exact(show False from t).elim
/-- what may be shown: whatever it is,its parts can be compared -/
def Pap (h:HD)(d:D):Prop:=okD d=true/\ ∀ds,d= .tup ds-> ∃ps,ToPs h ds ps/\E9 (.tuple ps)=true/\ ∀p∈ps,E9 p=true/\p.depth<=60
variable {r:G0 D}
theorem Pap.head (a:Pap h (.tup (x::r))): ∃p,ToP h x p/\E9 p=true/\p.depth<=60:=by
 obtain⟨ps,t,_,g⟩:=a.2 _ rfl;cases ps with
 |nil=>cases (show x::r= [] from t)
 |cons p ps=>
  obtain⟨d,r',e,t1,_⟩:=(show ∃d r',x::r=d::r'/\ToP h d p/\ToPs h r' ps from t);injection e with e1 e2
  subst e1;exact⟨p,t1,g p D5⟩
/-- some places that a set is not -/
def Lq (x:D):Prop:=(∀es,x≠ .tup es)\/x= .tup [.bl true]
noncomputable def XU (n:G9)(T:G0 (G0 D1))(x:D):M6:= @decide (∃S,x=zg S/\IsS n S/\(decide (0<S.length)&&(decide (S.length<n)&&Rp n T S))=true) (Y3 _)
theorem Rw {S':G0 G9}(e:zg S=zg S'):S=S':=by
 have e:(S.map λ(k:G9)=>D.int (k:D1))=S'.map λ(k:G9)=>D.int (k:D1):=by injection e
 exact(List.map_inj_right λa b h=>by injection h with h;omega).mp e
theorem Vj (hS:IsS n S):XU n T (zg S)=(decide (0<S.length)&&(decide (S.length<n)&&Rp n T S)):=by
 unfold XU;rw [H0];constructor
 ·intro h;obtain⟨S',e,_,h⟩:= @J0 _ (Y3 _) h;rw [Rw e];exact h
 ·intro h;exact @R4 _ (Y3 _) ⟨S,rfl,hS,h⟩
theorem Vk (b:Lq x):XU n T x=false:=by
 refine @D9 _ (Y3 _) ?_;rintro ⟨S,rfl,hS,h⟩;rcases b with b|b
 ·exact b _ rfl
 ·cases S with
  |nil=>injection b with b;cases b
  |cons i S=>injection b with b;injection b with b;cases b
theorem Bl (ok:okD x=true)(b:Lq x):Ap n x:=by
 refine .inl ⟨ok,?_⟩;rcases b with b|rfl
 ·cases x with
  |tup es=>exact absurd rfl (b es)
  |_=>rfl
 ·rfl
/-- whether it shows it -/
noncomputable def nvB (T:G0 (G0 D1))(n:G9)(d:D):M6:=match d with
 | .tup [x,y]=>zF x "shut" &&XU n T y
 | .tup [x,a,y]=>zF x "turns" &&(wC T n a y&&Vi a)
 |_=>false
def yP:RDn:=λds h Q=> ∃T d,∃n e:G9,ds= [zd T,d]/\Sq n e T/\1<=n/\n<=6/\Pap h d/\(∀x,d= .tup [.str "shut",x]->(∃S,x=zg S/\IsS n S)\/Lq x)/\Q (.bl (nvB T n d)) h
theorem We (Z:Zs mg)(F:Fun K "never_holds" "never_holds" zQ f fd)(Vw:jq P w K mg base n "want_table" ["thing"] vK)(ZT:jq P w K mg base n "shows_by_shut" ["table","some"] wT)(JL:jq P w K mg base n "shows_by_turns" ["table","d","rests"] wD):FnOk P w K mg base CX0 (n+1) f fd ["table","thing"] (LSp K yP):=by
 refine F.okM yN (λhr=>(js5 (Gt (jk Vw hr (j1 (jv 0)))) (ZG (wy (wI (JC (T:= "tuple") (by decide) rfl Z.isinstance rfl Z.tuple (by decide +kernel) (jv 1)))) (zl jbl)) (ZG (jpt (Gs (jt1 oq_eq (JU Z (jv 1)) jm) (DD (jt1 (Wv hr.units) (ji1 (jv 1) jm) wF)))) (zl (jk ZT hr (j2 (jv 0) (ji1 (jv 1) jm))))) (ZG (jpt (Gs (jt1 oq_eq (JU Z (jv 1)) jm) (DD (jt1 (Wv hr.units) (ji1 (jv 1) jm) wF)))) (zl (jk JL hr (j3 (jv 0) (ji1 (jv 1) jm) (ji1 (jv 1) jm))))) (zl jbl))) ?_;rintro ds h Q ⟨T,d,n,b,rfl,hT,h1,h6,pa,sx,q⟩;refine⟨rfl,?_⟩;refine zi [some (zd T),some d] (λC hC=>⟨_,rfl,T,n,b,rfl,hT,h1,h6,hC⟩) ?_;obtain⟨nm,hn⟩:=jY pa.1;have hsS:E9 (.str "shut")=true:=by decide +kernel
 have hsT:E9 (.str "turns")=true:=by decide +kernel
 cases d with
 |tup ds=>
  cases hn;obtain⟨_,oks⟩:=yq pa.1;refine zi [some (zd T),some (.tup ds)] (λC hC=>⟨_,rfl,"tuple",rfl,_,rfl,jG (hC)⟩) ?_;rcases ds with _|⟨x,_|⟨y,_|⟨z,_|⟨w,r⟩⟩⟩⟩
  ·refine zi [some (zd T),some (.tup [])] (λC hC=>⟨_,rfl,_,rfl,jG (jG (hC))⟩) ?_;refine zi [some (zd T),some (.tup [])] (λC hC=>⟨_,rfl,_,rfl,jG (jG (hC))⟩) ?_;exact⟨h,Sub.refl h,q⟩
  ·refine zi [some (zd T),some (.tup [x])] (λC hC=>⟨_,rfl,_,rfl,jG (jG (hC))⟩) ?_;refine zi [some (zd T),some (.tup [x])] (λC hC=>⟨_,rfl,_,rfl,jG (jG (hC))⟩) ?_;exact⟨h,Sub.refl h,q⟩
  ·obtain⟨p,tx,sh,_⟩:=pa.head;have q:Q (.bl (zF x "shut" &&XU n T y)) h:=q;cases hx:zF x "shut" with
   |true=>
    have ex:=Ye hx;subst ex;rw [hx,X7] at q;refine jh (λ_ _=>False) (λC hC=>⟨_,rfl,_,rfl,zk ⟨_,rfl,_,rfl,_,rfl,zk ⟨_,rfl,_,rfl,_,rfl,T,y,n,b,rfl,hT,h1,h6,?_⟩⟩⟩) (λ_ _ z=>z.elim);rcases sx y rfl with ⟨S,rfl,hS⟩|bx
    ·exact .inl ⟨S,rfl,hS,h,Sub.refl h,by rw [<-Vj hS];exact q⟩
    ·exact .inr ⟨Bl (oks y (by simp)) bx,h,Sub.refl h,by rw [<-Vk bx (n:=n) (T:=T)];exact q⟩
   |false=>
    rw [hx,Q8] at q;refine zi [some (zd T),some (.tup [x,y])] (λC hC=>⟨_,rfl,_,rfl,zk ⟨_,rfl,_,rfl,(by dsimp only [dC];exact eq_str tx sh hsS ⟨_,rfl,by rw [hx];exact jG (hC)⟩)⟩⟩) ?_;refine zi [some (zd T),some (.tup [x,y])] (λC hC=>⟨_,rfl,_,rfl,jG (jG (hC))⟩) ?_;exact⟨h,Sub.refl h,q⟩
  ·obtain⟨p,tx,sh,_⟩:=pa.head;have q:Q (.bl (zF x "turns" &&(wC T n y z&&Vi y))) h:=q;refine zi [some (zd T),some (.tup [x,y,z])] (λC hC=>⟨_,rfl,_,rfl,jG (jG (hC))⟩) ?_;cases hx:zF x "turns" with
   |true=>
    have ex:=Ye hx;subst ex;rw [hx,X7] at q;exact jh (λ_ _=>False) (λC hC=>⟨_,rfl,_,rfl,zk ⟨_,rfl,_,rfl,_,rfl,zk ⟨_,rfl,_,rfl,_,rfl,_,rfl,_,rfl,T,y,z,n,b,rfl,hT,h1,h6,oks y (by simp),oks z (by simp),h,Sub.refl h,q⟩⟩⟩) (λ_ _ z=>z.elim)
   |false=>
    rw [hx,Q8] at q;refine zi [some (zd T),some (.tup [x,y,z])] (λC hC=>⟨_,rfl,_,rfl,zk ⟨_,rfl,_,rfl,(by dsimp only [dC];exact eq_str tx sh hsT ⟨_,rfl,by rw [hx];exact jG (hC)⟩)⟩⟩) ?_;exact⟨h,Sub.refl h,q⟩
  ·have n2:decide ((((x::y::z::w::r).length:G9):D1)=2)=false:=D9 (by simp only [P8];omega);have n3:decide ((((x::y::z::w::r).length:G9):D1)=3)=false:=D9 (by simp only [P8];omega);refine zi [some (zd T),some (.tup (x::y::z::w::r))] (λC hC=>⟨_,rfl,_,rfl,?_⟩) ?_
   ·show if decide ((((x::y::z::w::r).length:G9):D1)=2)=true then _ else _
    rw [n2];exact jG (jG (hC))
   refine zi [some (zd T),some (.tup (x::y::z::w::r))] (λC hC=>⟨_,rfl,_,rfl,?_⟩) ?_
   ·show if decide ((((x::y::z::w::r).length:G9):D1)=3)=true then _ else _
    rw [n3];exact jG (jG (hC))
   exact⟨h,Sub.refl h,q⟩
 |_=>cases hn<;>exact jh (λ_ _=>False) (λC hC=>⟨_,rfl,_,rfl,_,rfl,zk ⟨h,Sub.refl h,q⟩⟩) (λ_ _ z=>z.elim)
def yu:RDx:=λds h R=> ∃d x,ds= [d,x]/\okD d=true/\PZ d=false/\R "NoTable" h
theorem ZM (Z:Zs mg)(Ex:Exc K mg)(F:Fun K "never_holds" "never_holds" zQ f fd)(CR_want_table:WW P w K mg base n "want_table" ["thing"] yO):FnOk P w K mg base (CXR P w) (n+1) f fd ["table","thing"] (Mc mg K yu):=by
 refine F.okMX yN (λhr=>(NN (jxk CR_want_table hr (j1 (jv 0))))) ?_;rintro ds h R ⟨d,x,rfl,ok,bad,q⟩;refine⟨rfl,?_⟩;exact⟨_,rfl,d,rfl,ok,bad,q⟩
def Jr:RDn:=λds h Q=> ∃ns k,ds= [.scr ns,.int k]/\0<=k/\ ∀n,Q (.int n) h
theorem Vl (Z:Zs mg)(F:Fun K "_law_cell" "_law_cell" vc f fd):FnOk P w K mg base CX0 (n+1) f fd ["_law_script","_law_k"] (LSp K Jr):=by
 refine F.okM Vb (λhr=>(js2 (ZG (jt1 VS (jv 1) (JU Z (jv 0))) (zl (ji1 (jv 0) (jv 1)))) (zl jm))) ?_;rintro ds h Q ⟨ns,k,rfl,h0,q⟩;refine⟨rfl,?_⟩;simp only [wE,MZ,Jz,dOp,Xz,jN,N5,Q6,P8,S2,L5,B3,U5,F7,J4,dCB,jZ,Zl,BD,RQ,D.bl.injEq,UI,ixD,Yt,K7,VQ,dC];refine QL (λc=> ?_) (λ_=>⟨h,Sub.refl h,q 0⟩);have c':k<(ns.length:D1):=J0 c;have hk:k.toNat<ns.length:=by omega
 have ek:k=((k.toNat:G9):D1):=by omega
 have z:=yQ (G8 hk);rw [<-ek] at z;exact⟨ns[k.toNat],z,h,Sub.refl h,q _⟩
def ZN:RDn:=λds h Q=> ∃c,ds= [.int c]/\ ∀p l fl,h p=none->0<=l->(fl=0\/fl=1)->Q (.lst p) (zB h p [.int l,.int fl])
theorem Ur (Z:Zs mg)(F:Fun K "_law_pen" "_law_pen" Jh f fd):FnOk P w K mg base CX0 (n+1) f fd ["_law_cell_here"] (LSp K ZN):=by
 refine F.okM ZH (λhr=>(js2 (jse 1 ZH (zm (Fl rfl) rfl Z.max (by decide +kernel) (j2 (jv 0) (jop Wt jm (jv 0))))) (zl (yI (j2 (jv 1) (ya RS rfl Z.int (by decide +kernel) (j1 (jc1 Du (jv 1) (jop Gc jm jm))))))))) ?_;rintro ds h Q ⟨c,rfl,q⟩;refine⟨rfl,?_⟩;simp only [wE,QY,dCB,jZ,Xz,jN,N5,Q6,P8,S2,S4,L5,B3,F7,J4,dOp,dC,AN,Zl,OP,UI,MS,fQ,fT,U5,OM,RQ,OO,Yt,K7];refine⟨⟨by decide,by decide,by decide⟩,by decide,λp hp=>⟨_,Sub.refl _,q p _ _ hp ?_ ?_⟩⟩
 ·split<;>omega
 ·split<;>simp<;>omega
def jP:RDn:=λds h Q=> ∃p l fl m,ds= [.lst p,.int m]/\h p=some [.int l,.int fl]/\0<=l/\0<m/\m<2^200/\ ∀r l',0<=r->r<m->0<=l'->Q (.int r) (zB h p [.int l',.int fl])
theorem Vm (Z:Zs mg)(F:Fun K "_law_draw" "_law_draw" vd f fd):FnOk P w K mg base CX0 (n+1) f fd ["_law_pen_here","_law_many"] (LSp K jP):=by
 refine F.okM wj (λhr=>(js5 (FF (jt1 oq_eq (ji1 (jv 0) jm) jm) (js3 (BE (zm XH rfl Z.divmod (by decide +kernel) (j2 (ji1 (jv 0) jm) (jv 1))) (Ww (i:=2) (j:=3) rfl wj.nd rfl rfl (K8 rfl) (K8 rfl))) (BE (jv 2) (UM (jv 0) jm)) (zl (jv 3))) YJ) (jse 4 wj (jop wZ (jop yW (jop jH (jop wZ (ji1 (jv 0) jm) jm) jm) jm) jm)) (jse 4 wj (jop wZ (jop jH (jop yW (jv 4) (jv 4)) jm) jm)) (BE (jop wZ (jop jH (jop yW (jv 4) jm) jm) jm) (UM (jv 0) jm)) (zl (jop wZ (jop Nn (ji1 (jv 0) jm) jm) (jv 1))))) ?_;rintro ds h Q ⟨p,l,fl,m,rfl,hp,h0,hm,hm2,q⟩;refine⟨rfl,?_⟩;refine zi [some (.lst p),some (.int m),none,none,none] (λC hC=>⟨_,rfl,_,_,hp,rfl,?_⟩) ?_
 ·show ∃k,D.bl (decide (fl=1))= .bl k/\_;refine⟨_,rfl,QL (λ_=> ?_) λ_=>hC⟩;exact⟨_,rfl,_,_,hp,rfl,_,rfl,_,_,rfl,⟨hm,hm2⟩,_,_,rfl,_,rfl,_,rfl,p,0,_,0,rfl,rfl,hp,rfl,_,rfl,_,Sub.refl _,q (l%m) (l / m) (bM _ (qA hm)) (bY _ hm) (Int.ediv_nonneg h0 (Int.le_of_lt hm))⟩
 refine jh (λtE h'=> ∃z:D1,tE= [some (.lst p),some (.int m),none,none,some (.int z)]/\(0<=z/\z<2147483629)/\h=h') (λC hC=>⟨_,rfl,_,_,hp,rfl,by decide,.inr ⟨by decide,by decide⟩,by decide,hC _ _ ⟨_,rfl,⟨bM _ (by decide),bY _ (by decide)⟩,rfl⟩⟩) ?_;rintro _ _ ⟨z,rfl,⟨z0,z1⟩,rfl⟩;refine jh (λtE h'=> ∃y:D1,tE= [some (.lst p),some (.int m),none,none,some (.int y)]/\h=h') (λC hC=>⟨_,rfl,_,rfl,.inl ⟨Int.lt_of_lt_of_le (by decide) z0,Int.lt_trans z1 (by decide)⟩,by decide,hC _ _ ⟨_,rfl,rfl⟩⟩) ?_;rintro _ _ ⟨y,rfl,rfl⟩;refine jh (λtE h'=> ∃x:D1,tE= [some (.lst p),some (.int m),none,none,some (.int y)]/\0<=x/\h'=zB h p [.int x,.int fl]) (λC hC=>⟨_,rfl,.inr ⟨by decide,by decide⟩,by decide,_,rfl,p,0,_,0,rfl,rfl,hp,rfl,hC _ _ ⟨_,rfl,bM _ (by decide),rfl⟩⟩) ?_;rintro _ _ ⟨x,rfl,x0,rfl⟩;exact⟨_,rfl,_,_,jc,rfl,⟨by decide,by decide⟩,_,rfl,hm,_,Sub.refl _,q (x / 32%m) x (bM _ (qA hm)) (bY _ hm) x0⟩
theorem Yf (Z:Zs mg)(F:Fun K "_law_whole" "_law_whole" yj f fd):FnOk P w K mg base CX0 (n+1) f fd ["_law_thing"] (LSp K zr):=by
 refine F.okM Ya (λhr=>(jx (zl (VH (JC (T:= "int") (by decide) rfl Z.isinstance rfl Z.int (by decide +kernel) (jv 0)) (VG (AT (JC (T:= "bool") (by decide) rfl Z.isinstance rfl Z.bool (by decide +kernel) (jv 0)))))))) ?_;rintro ds h Q ⟨d,nm,rfl,hn,q⟩;refine⟨rfl,?_⟩;simp only [UI,QU,dIs,Xz,jN,N5,Q6,P8,S2,L5,B3,F7,J4,D.bl.injEq,QV,Yt,K7,hn];cases d<;>cases hn<;>exact⟨h,Sub.refl h,q⟩
def ZO:RDn:=λds h Q=> ∃p l fl,ds= [.lst p]/\h p=some [.int l,.int fl]/\0<=l/\ ∀d l' h',okD d=true->Th (jK h' p) d->(∀x,d≠ .tup [.str "shut",x])->But p h h'->h' p=some [.int l',.int fl]->0<=l'->Q d h'
theorem Us (Z:Zs mg)(F:Fun K "_law_odd" "_law_odd" Ji f fd)(jp:jq P w K mg base n "_law_draw" ["_law_pen_here","_law_many"] jP):FnOk P w K mg base CX0 (n+1) f fd ["_law_pen_here"] (LSp K ZO):=by
 refine F.okM ZI (λhr=>(js2 (jse 1 ZI (yI (jac DB (by exact(jac jbl (by exact(jac jbl (by exact(jac (FH jm) (by exact(jac wF (by exact(jac wF (by exact(jac (jR zc) (by exact(jac (yI zc) (by exact(jac (jR (j1 jm)) (by exact(jac (yI (j1 jm)) (by exact(jac RV (by exact(j4 (jR (j2 jm jm)) (jop Gc jm jm) (jR (j2 jm (jR zc))) (jR (j1 (jR zc)))))))))))))))))))))))))))) (zl (ji1 (jop jH (jv 1) (yI (j1 (jR (j1 (jR (j1 jm))))))) (jk jp hr (j2 (jv 0) jm)))))) ?_;rintro ds h Q ⟨p,l,fl,rfl,hp,h0,q⟩;refine⟨rfl,?_⟩;simp only [wE,QY,MS,jZ,dC,dUn,Fs,By,Zl,S2,P8,YH,dOp,OM,UI,Xz,jN,N5,Q6,S4,L5,B3,fQ,fT,U5,F7,J4,OK,dCB,ixD,K7,Yt]
 repeat (first|intro _|refine⟨by decide,?_⟩|refine⟨⟨by decide,by decide,by decide⟩,?_⟩)
 rename_i p1 e1 p2 e2 p4 e4 p5 e5;have k1:=je (M:= []) hp e1;have k2:=je (M:= [.int 0]) k1 e2;have n1:p1≠p:=jl hp e1;have n2:p2≠p:=jl k1 e2;refine⟨_,_,jf (E5 (Nx e5)) jc,jc,by simp only [P8,S2];decide,λp6 e6=> ?_⟩;refine⟨p,l,fl,16,rfl,je (je (je k2 e4) e5) e6,h0,by decide,by decide,λr l' r0 r1 l0=> ?_⟩;obtain⟨d,hd,ed⟩:=yX (xs:= [D.non,D.bl true,D.bl false,D.int (-1),D.str (B6 "1"),D.str (B6 ""),D.tup [],D.lst p1,D.tup [D.int 0],D.lst p2,D.dic (B6 "a") 1,D.tup [D.int 0,D.int 1],D.int (10^eG 30),D.tup [D.int 0,D.tup []],D.tup [D.tup []]]++ [D.tup [D.tup [D.int 0]]]) r0 r1;refine⟨_,d,jf (jl (je (je k2 e4) e5) e6) jc,ed,_,Sub.refl _,q d l' _ (JV ?_ d hd) ?_ ?_ ((((((But.refl p h).new e1).new e2).new e4).new e5).new e6).put jc l0⟩
 ·rfl
 ·simp only [D3,P6,S9,or_false] at hd;rcases hd with (e|e|e|e|e|e|e|e|e|e|e|e|e|e|e)|e<;>subst e
  all_goals first
   |exact SmK.th (GM 2 _ (by decide +kernel))
   |exact .inr (.inr rfl)
   |exact Th.lst (jS n1 (jf n1 (je (je (je (je jc e2) e4) e5) e6))) (by decide) (by simp)
   |exact Th.lst (jS n2 (jf n2 (je (je (je jc e4) e5) e6))) (by decide) (λx hx=>by rw [P0.mp hx];exact GM 1 _ (by decide +kernel))
 ·simp only [D3,P6,S9,or_false] at hd;rcases hd with (e|e|e|e|e|e|e|e|e|e|e|e|e|e|e)|e<;>subst e<;>exact λx z=>by cases z
def XV (c:Str)(n:G9):G0 D:=((CN13.map λd=>c==d).take n).map D.bl
def Rx (c:Str):G0 C8:=(CN13.map λd=>c==d).map m5
def wordsD:G0 D:=(["table","place","number","order","set","walk","lengths","way","apart","row","tables","text","great"]:G0 Str).map D.str
theorem PC: ∀bs:G0 M6,ToPs h (bs.map D.bl) (bs.map m5)
 | []=>rfl
 |b::bs=>⟨_,_,rfl,rfl,PC bs⟩
variable {j:G9}
theorem jV {l:G0 M6}(h:(l.take j).all (!·)=true){m:G9}{y:C8}(hm:m<j)(e:(l.map m5)[m]? =some y):N9 y (.bool true)=false:=by
 rw [R9] at e;obtain⟨b,e1,rfl⟩:=A4.mp e;have:=T3.mp h b (P5 (i:=m) (by rw [Q4 hm];exact e1));cases b with
 |true=>cases this
 |false=>rfl
theorem Aq {c:Str}(hc:c∈CN): ∃j:G9,j<10/\(Rx c)[j]? =some (.bool true)/\(∀m y,m<j->(Rx c)[m]? =some y->N9 y (.bool true)=false)/\atI wordsD (j:D1)=some (D.str (vA c))/\((Rx c).countP λz=>N9 z (.bool true))=1:=by
 simp only [CN,P6,S9,or_false] at hc;rcases hc with rfl|rfl|rfl|rfl|rfl|rfl|rfl|rfl|rfl|rfl
 ·exact⟨0,by decide,rfl,λm y=>jV rfl,rfl,rfl⟩
 ·exact⟨1,by decide,rfl,λm y=>jV rfl,rfl,rfl⟩
 ·exact⟨2,by decide,rfl,λm y=>jV rfl,rfl,rfl⟩
 ·exact⟨3,by decide,rfl,λm y=>jV rfl,rfl,rfl⟩
 ·exact⟨4,by decide,rfl,λm y=>jV rfl,rfl,rfl⟩
 ·exact⟨5,by decide,rfl,λm y=>jV rfl,rfl,rfl⟩
 ·exact⟨6,by decide,rfl,λm y=>jV rfl,rfl,rfl⟩
 ·exact⟨7,by decide,rfl,λm y=>jV rfl,rfl,rfl⟩
 ·exact⟨8,by decide,rfl,λm y=>jV rfl,rfl,rfl⟩
 ·exact⟨9,by decide,rfl,λm y=>jV rfl,rfl,rfl⟩
theorem Yg (Z:Zs mg)(Ex:Exc K mg)(F:Fun K "_law_kind" "_law_kind" vf f fd):FnOkU P w K mg base CX0 (n+1) f fd ["_law_e"] (LSp K (GX mg)):=by
 obtain⟨D_NoOrder,m_NoOrder⟩:=Ex.cls "NoOrder" (by decide);obtain⟨D_NoNumber,m_NoNumber⟩:=Ex.cls "NoNumber" (by decide);obtain⟨D_NoPlace,m_NoPlace⟩:=Ex.cls "NoPlace" (by decide);obtain⟨D_NoTable,m_NoTable⟩:=Ex.cls "NoTable" (by decide);obtain⟨D_NoLengths,m_NoLengths⟩:=Ex.cls "NoLengths" (by decide);obtain⟨D_NoWalk,m_NoWalk⟩:=Ex.cls "NoWalk" (by decide);obtain⟨D_NoSet,m_NoSet⟩:=Ex.cls "NoSet" (by decide);obtain⟨D_NoRow,m_NoRow⟩:=Ex.cls "NoRow" (by decide);obtain⟨D_Apart,m_Apart⟩:=Ex.cls "Apart" (by decide);obtain⟨D_NoWay,m_NoWay⟩:=Ex.cls "NoWay" (by decide);obtain⟨D_TooGreat,m_TooGreat⟩:=Ex.cls "TooGreat" (by decide);obtain⟨D_NoText,m_NoText⟩:=Ex.cls "NoText" (by decide);obtain⟨D_NoTables,m_NoTables⟩:=Ex.cls "NoTables" (by decide);refine F.okJU ze (λds h Q q=>by obtain⟨c,C,e,hc,hm,q⟩:=q;subst e;rfl) _ (λcdv A outer s H E hr=>(js7 (jse 1 ze (yI (j4 (XO rfl Z.isinstance rfl m_NoTable (jv 0)) (XO rfl Z.isinstance rfl m_NoPlace (jv 0)) (XO rfl Z.isinstance rfl m_NoNumber (jv 0)) (XO rfl Z.isinstance rfl m_NoOrder (jv 0))))) (jse 1 ze (jop jH (jv 1) (yI (j3 (XO rfl Z.isinstance rfl m_NoSet (jv 0)) (XO rfl Z.isinstance rfl m_NoWalk (jv 0)) (XO rfl Z.isinstance rfl m_NoLengths (jv 0)))))) (jse 1 ze (jop jH (jv 1) (yI (j3 (XO rfl Z.isinstance rfl m_NoWay (jv 0)) (XO rfl Z.isinstance rfl m_Apart (jv 0)) (XO rfl Z.isinstance rfl m_NoRow (jv 0)))))) (jse 1 ze (jop jH (jv 1) (yI (j3 (XO rfl Z.isinstance rfl m_NoTables (jv 0)) (XO rfl Z.isinstance rfl m_NoText (jv 0)) (XO rfl Z.isinstance rfl m_TooGreat (jv 0)))))) (ZG (jpt (UL (wy (wI (Sb (T:= "ValueError") rfl Z.isinstance rfl Ex.ve (by decide +kernel) (jv 0)))) (PX (jt1 oq_ne (Sa hr.units (jv 1) jbl) jm)))) (zl wF)) (jse 2 ze (yI (jac wF (by exact(jac wF (by exact(jac wF (by exact(jac wF (by exact(jac wF (by exact(jac wF (by exact(j4 wF wF wF wF))))))))))))))) (zl (ji1 (jop jH (jv 2) (yI (j3 wF wF wF))) (EV hr.units (jv 1) jbl))))) ?_;intro ds h Q q;obtain⟨c,C,e,hc,hm,q⟩:=q;subst e;have kit: ∀d∈CN13,∀D,mg d=some (.ref D)->eQ K (.ref C) (.ref D)=some (c==d):=λd hd D hD=>Ex.kit c hc d hd C D hm hD
 have ek:=Ex.ek c hc C hm;have kv:=Ex.val c hc C hm;refine jh (λtE h'=> ∃p,tE= [some (.exc C),some (.lst p),none]/\Sub h h'/\h' p=some (XV c 4)) (λC2 hC=>⟨_,rfl,C,_,rfl,ek,kit _ (by decide) _ m_NoTable,_,rfl,C,_,rfl,ek,kit _ (by decide) _ m_NoPlace,_,rfl,C,_,rfl,ek,kit _ (by decide) _ m_NoNumber,_,rfl,C,_,rfl,ek,kit _ (by decide) _ m_NoOrder,sz4,λp e=>hC _ _ ⟨p,rfl,Sub.newAt (Sub.refl h) e,jc⟩⟩) ?_;rintro _ h1 ⟨p,rfl,sb,k1⟩;refine jh (λtE h'=> ∃p,tE= [some (.exc C),some (.lst p),none]/\Sub h h'/\h' p=some (XV c 7)) (λC2 hC=>⟨_,rfl,_,rfl,C,_,rfl,ek,kit _ (by decide) _ m_NoSet,_,rfl,C,_,rfl,ek,kit _ (by decide) _ m_NoWalk,_,rfl,C,_,rfl,ek,kit _ (by decide) _ m_NoLengths,sz3,λp2 e2=>⟨_,_,je k1 e2,jc,(by show 7<=sizeLine;decide),λp3 e3=>hC _ _ ⟨p3,rfl,Sub.newAt (Sub.newAt sb e2) e3,jc⟩⟩⟩) ?_;rintro _ h1 ⟨p,rfl,sb,k1⟩;refine jh (λtE h'=> ∃p,tE= [some (.exc C),some (.lst p),none]/\Sub h h'/\h' p=some (XV c 10)) (λC2 hC=>⟨_,rfl,_,rfl,C,_,rfl,ek,kit _ (by decide) _ m_NoWay,_,rfl,C,_,rfl,ek,kit _ (by decide) _ m_Apart,_,rfl,C,_,rfl,ek,kit _ (by decide) _ m_NoRow,sz3,λp2 e2=>⟨_,_,je k1 e2,jc,(by show 10<=sizeLine;decide),λp3 e3=>hC _ _ ⟨p3,rfl,Sub.newAt (Sub.newAt sb e2) e3,jc⟩⟩⟩) ?_;rintro _ h1 ⟨p,rfl,sb,k1⟩;refine jh (λtE h'=> ∃p,tE= [some (.exc C),some (.lst p),none]/\Sub h h'/\h' p=some (XV c 13)) (λC2 hC=>⟨_,rfl,_,rfl,C,_,rfl,ek,kit _ (by decide) _ m_NoTables,_,rfl,C,_,rfl,ek,kit _ (by decide) _ m_NoText,_,rfl,C,_,rfl,ek,kit _ (by decide) _ m_TooGreat,sz3,λp2 e2=>⟨_,_,je k1 e2,jc,(by show 13<=sizeLine;decide),λp3 e3=>hC _ _ ⟨p3,rfl,Sub.newAt (Sub.newAt sb e2) e3,jc⟩⟩⟩) ?_;rintro _ h1 ⟨p,rfl,sb,k1⟩;have hpG: ∀h':HD,h' p=some (XV c 13)->ToP h' (.lst p) (.list (Rx c)):=λh' k=>⟨p,_,rfl,k,PC _⟩
 obtain⟨j,hj,hz,hno,hw,hcnt⟩:=Aq hc;refine zi [some (.exc C),some (.lst p),none] (λC2 hC=>⟨_,rfl,C,_,rfl,ek,kv,_,rfl,jG ⟨_,rfl,p,rfl,.bool true,_,hpG h1 k1,rfl,rfl,rfl,by simp [W9],_,rfl,?_⟩⟩) ?_
 ·rw [hcnt];exact jG (hC)
 refine jh (λtE h'=> ∃w,tE= [some (.exc C),some (.lst p),some (.lst w)]/\Sub h1 h'/\h' p=some (XV c 13)/\h' w=some (wordsD.take 10)) (λC2 hC=>⟨(by show 10<=sizeLine;decide),λw e=>hC _ _ ⟨w,rfl,Sub.newAt (Sub.refl h1) e,je k1 e,jc⟩⟩) ?_;rintro _ h2 ⟨w,rfl,sb2,kp2,kw⟩;exact⟨_,rfl,sz3,λp4 e4=>⟨_,_,je kw e4,jc,(by show 13<=sizeLine;decide),λp5 e5=>⟨_,rfl,p,rfl,.bool true,_,j,_,hpG _ (je (je kp2 e4) e5),rfl,rfl,rfl,by simp [W9],by omega,hz,rfl,hno,_,_,jc,hw,_,Sub.refl _,q _ (Sub.newAt (Sub.newAt (sb.trans sb2) e4) e5)⟩⟩⟩
theorem Bn (Z:Zs mg)(Ex:Exc K mg)(F:Fun K "_law_said" "_law_said" vg f fd)(CU:GR P w K mg base n "_law_kind" ["_law_e"] (GX mg)):FnOkS P w K mg base CX0 (n+2) f fd ["_law_call"] (US P w K mg base n):=by
 obtain⟨gU,gdU,GU,bGU,kGU,mGU⟩:=CU;obtain⟨pe,hpe,hex⟩:=Ex.pe;refine NT F Jx rfl rfl rfl rfl rfl hpe hex _ (λcdv A outer s H E x hr=>jt (AU (i:=3) Jx.nd rfl (K8 rfl) (FY GU hr rfl mGU kGU bGU (jac (jv 2) zc))) (jt (FF (Gp (NE hr.units) (jv 3) (jR (jac wF (jac wF zc))) (by with_unfolding_all rfl)) (jx Gw) YJ) (jt (FF (Gp oq_eq (jv 3) wF (Qu _)) (jx Gw) YJ) (jx (zl (jR (jac (jv 3) zc))))))) ?_;intro c hc C h Qd hm q;refine⟨_,rfl,c,C,rfl,hc,hm,λh' sb=> ?_⟩;refine⟨_,rfl,(by show 2<=sizeLine;decide),.str (vA c),[.str "tables",.str "text"],rfl,.inr ⟨_,rfl,⟨_,_,rfl,rfl,_,_,rfl,rfl,rfl⟩⟩,?_,by decide +kernel,by simp [W9],_,rfl,?_⟩
 ·simp only [CN,P6,S9,or_false] at hc;rcases hc with rfl|rfl|rfl|rfl|rfl|rfl|rfl|rfl|rfl|rfl<;>decide +kernel
 have e1:((false !=List.any [fU "tables",fU "text"] λz=>N9 z (.str (vA c))))=false:=by
  simp only [CN,P6,S9,or_false] at hc;rcases hc with rfl|rfl|rfl|rfl|rfl|rfl|rfl|rfl|rfl|rfl<;>rfl
 rw [e1];refine jG ⟨_,rfl,_,rfl,?_⟩;have e2:decide (vA c= "great")=false:=by
  simp only [CN,P6,S9,or_false] at hc;rcases hc with rfl|rfl|rfl|rfl|rfl|rfl|rfl|rfl|rfl|rfl<;>rfl
 rw [e2];exact jG ⟨_,rfl,(by show 1<=sizeLine;decide),h,sb,q⟩
theorem Vn (Z:Zs mg)(F:Fun K "_law_same" "_law_same" vh f fd):FnOk P w K mg base CX0 (n+1) f fd ["_law_found","_law_due"] (LSp K RZ):=by
 refine F.okM Vc (λhr=>(jx (zl (jc1 oq_eq (zm (UQ hr) rfl Z.repr (by decide +kernel) (j1 (jv 0))) (zm (UQ hr) rfl Z.repr (by decide +kernel) (j1 (jv 1))))))) ?_;rintro ds h Q ⟨x,y,pd,rfl,t1,t2,so,q⟩;refine⟨rfl,?_⟩;refine⟨_,rfl,.inl ⟨x,pd,rfl,t1,so,_,rfl,.inl ⟨y,pd,rfl,t2,so,h,Sub.refl h,?_⟩⟩⟩;rw [R4 rfl];exact q
def Js:RDn:=λds h Q=> ∃p l fl,ds= [.lst p]/\h p=some [.int l,.int fl]/\0<=l/\ ∀ (k:G9) l',1<=k->k<=6->0<=l'->Q (.int (k:D1)) (zB h p [.int l',.int fl])
theorem Vo (Z:Zs mg)(F:Fun K "_law_size" "_law_size" vi f fd)(jp:jq P w K mg base n "_law_draw" ["_law_pen_here","_law_many"] jP):FnOk P w K mg base CX0 (n+1) f fd ["_law_pen_here"] (LSp K Js):=by
 refine F.okM Vd (λhr=>(jx (zl (ji1 (yI (jac jm (by exact(jac jm (by exact(jac jm (by exact(jac jm (by exact(jac jm (by exact(jac jm (by exact(jac jm (by exact(jac jm (by exact(j4 jm jm jm jm)))))))))))))))))) (jk jp hr (j2 (jv 0) jm)))))) ?_;rintro ds h Q ⟨p,l,fl,rfl,hp,h0,q⟩;refine⟨rfl,?_⟩;simp only [UI,dOp,MS,jZ,dC,Zl,P8,S2,dCB,Xz,jN,N5,Q6,L5,B3,F7,J4,ixD,Yt,K7];refine⟨by decide,λp1 e1=>⟨p,l,fl,12,rfl,je hp e1,h0,by decide,by decide,λr l' r0 r1 l0=> ?_⟩⟩;obtain⟨d,hd,ed⟩:=yX (xs:= [D.int 1,D.int 2,D.int 3,D.int 4,D.int 5,D.int 3,D.int 4,D.int 2,D.int 6,D.int 5,D.int 4,D.int 3]) r0 r1;refine⟨_,d,jf (jl hp e1) jc,ed,_,Sub.both (Sub.newAt (Sub.refl h) e1),?_⟩;have q': ∀k:G9,1<=k->k<=6->Q (.int (k:D1)) (zB h p [.int l',.int fl]):=λk a b=>q k l' a b l0
 simp only [P6,S9,or_false] at hd;rcases hd with e|e|e|e|e|e|e|e|e|e|e|e<;>subst e
 ·exact q' 1 (by decide) (by decide)
 ·exact q' 2 (by decide) (by decide)
 ·exact q' 3 (by decide) (by decide)
 ·exact q' 4 (by decide) (by decide)
 ·exact q' 5 (by decide) (by decide)
 ·exact q' 3 (by decide) (by decide)
 ·exact q' 4 (by decide) (by decide)
 ·exact q' 2 (by decide) (by decide)
 ·exact q' 6 (by decide) (by decide)
 ·exact q' 5 (by decide) (by decide)
 ·exact q' 4 (by decide) (by decide)
 ·exact q' 3 (by decide) (by decide)
def vM:RDn:=λds h Q=> ∃p l fl,∃k:G9,ds= [.lst p,.int (k:D1)]/\h p=some [.int l,.int fl]/\0<=l/\1<=k/\k<=6/\ ∀T l',GoodTab k T->0<=l'->Q (zd T) (zB h p [.int l',.int fl])
theorem Yh (Z:Zs mg)(F:Fun K "_law_table" "_law_table" yk f fd)(jp:jq P w K mg base n "_law_draw" ["_law_pen_here","_law_many"] jP):FnOk P w K mg base CX0 (n+1) f fd ["_law_pen_here","_law_size_here"] (LSp K vM):=by
 refine F.okM jw (λhr=>(js5 (EM (i:=2) (j:=3) rfl jw.nd rfl rfl (by decide) rfl rfl (j2 (jk jp hr (j2 (jv 0) jm)) (ji1 (yI (j3 jm jm jm)) (jk jp hr (j2 (jv 0) jm)))) rfl) (jse 4 jw (ji1 (yI (j4 jm jm jm (jop Gc jm jm))) (jk jp hr (j2 (jv 0) jm)))) (jse 5 jw (yI zc)) (XD O8 rfl (jrg Z (jv 1)) (jgn 6 jw) (js3 (jse 7 jw (yI zc)) (XD O8 rfl (jrg Z (jv 1)) (jgn 8 jw) (js5 (jse 9 jw (jc1 oq_eq (jk jp hr (j2 (jv 0) (jv 3))) jm)) (ZG (jt1 VS (jv 2) jm) (jse 9 jw (jor (jc1 oq_eq (jv 8) (jop wZ (jop jH (jv 6) jm) (jv 1))) (VG (VH (jv 9) (VG (jc1 (Wv hr.units) (jk jp hr (j2 (jv 0) jm)) (jv 2)))))))) (ZG (jt1 oq_eq (jv 2) jm) (jse 9 jw (jor (VH (jv 9) (VG (jc1 oq_eq (jop wZ (jop Wt (jv 8) (jv 6)) jm) jm))) (VG (jc1 (Wv hr.units) (jv 8) (jop jH (jv 6) jm)))))) (ZG (jt1 oq_eq (jv 2) jm) (jse 9 jw (VH (jv 9) (VG (jc1 Du (jv 8) (jv 6)))))) (Gt (LB (jv 7) (jop yW (ya RS rfl Z.int (by decide +kernel) (j1 (jv 9))) (jop jH jm (jk jp hr (j2 (jv 0) (jv 4))))))))) (Gt (LB (jv 5) (ya cq_tuple rfl Z.tuple (by decide +kernel) (j1 (jv 7))))))) (zl (ya cq_tuple rfl Z.tuple (by decide +kernel) (j1 (jv 5)))))) ?_;rintro ds h Q ⟨p,l,fl,k,rfl,hp,h0,hk1,hk6,q⟩;refine⟨rfl,?_⟩;refine jh (λtE h'=> ∃way o l2,tE= [some (.lst p),some (.int (k:D1)),some (.int way),some (.int o),none,none,none,none,none,none]/\0<o/\o<1000/\0<=l2/\h' p=some [.int l2,.int fl]/\But p h h') (λC hC=>⟨_,rfl,p,l,fl,6,rfl,hp,h0,by decide,by decide,λway l1 w0 w1 l10=>⟨sz3,λp1 e1=>⟨_,rfl,p,l1,fl,3,rfl,je jc e1,l10,by decide,by decide,λr l2 r0 r1 l20=> ?_⟩⟩⟩) ?_
 ·obtain⟨oft,ho,eo⟩:=yX (xs:= [D.int 2,D.int 3,D.int 5]) r0 r1;obtain⟨o,e,o1,o2⟩: ∃o:D1,oft= .int o/\0<o/\o<1000:=by
   simp only [P6,S9,or_false] at ho;rcases ho with e|e|e<;>exact⟨_,e,by decide,by decide⟩
  subst e;exact⟨_,_,jf (jl jc e1) jc,eo,_,_,rfl,hC _ _ ⟨way,o,l2,rfl,o1,o2,l20,jc,((But.upd).new e1).put⟩⟩
 rintro _ h1 ⟨way,o,l2,rfl,o1,o2,l20,kA,bA⟩;refine jh (λtE h'=> ∃m l3,tE= [some (.lst p),some (.int (k:D1)),some (.int way),some (.int o),some (.int m),none,none,none,none,none]/\0<m/\m<=1000000/\0<=l3/\h' p=some [.int l3,.int fl]/\But p h h') (λC hC=>⟨⟨by decide,by decide,by decide⟩,sz4,λp1 e1=>⟨_,rfl,p,l2,fl,4,rfl,je kA e1,l20,by decide,by decide,λr l3 r0 r1 l30=> ?_⟩⟩) ?_
 ·obtain⟨most,ho,eo⟩:=yX (xs:= [D.int 1,D.int 1,D.int 3,D.int (10^eG 6)]) r0 r1;obtain⟨m,e,m1,m2⟩: ∃o:D1,most= .int o/\0<o/\o<=1000000:=by
   simp only [P6,S9,or_false] at ho;rcases ho with e|e|e|e<;>exact⟨_,e,by decide,by decide⟩
  subst e;exact⟨_,_,jf (jl kA e1) jc,eo,hC _ _ ⟨m,l3,rfl,m1,m2,l30,jc,(bA.new e1).put⟩⟩
 clear kA bA;rintro _ h2 ⟨m,l3,rfl,m1,m2,l30,kB,bB⟩;refine jh (λtE h'=> ∃R,tE= [some (.lst p),some (.int (k:D1)),some (.int way),some (.int o),some (.int m),some (.lst R),none,none,none,none]/\R≠p/\h R=none/\h' R=some []/\h' p=some [.int l3,.int fl]/\But p h h') (λC hC=>⟨sz0,λR eR=>hC _ _ ⟨R,rfl,jl kB eR,Gn bB eR (jl kB eR),jc,je kB eR,bB.new eR⟩⟩) ?_;clear kB bB;rintro _ h3 ⟨R,rfl,nR,fR,kR,kC,bC⟩;refine jh (λtE h'=> ∃a b c d l4 rows,tE= [some (.lst p),some (.int (k:D1)),some (.int way),some (.int o),some (.int m),some (.lst R),a,b,c,d]/\0<=l4/\h' p=some [.int l4,.int fl]/\h' R=some (rows.map zN)/\But p h h'/\GoodTab k rows) (λC hC=> ?_) (λtE h' ⟨a,b,c,d,l4,rows,e,l40,kD,kE,bD,g⟩=>by subst e;exact⟨_,rfl,_,kE,_,bD.sub kD,q rows l4 g l40⟩);refine Zo k (λi tE h'=> ∃a b c d l4 rows,tE= [some (.lst p),some (.int (k:D1)),some (.int way),some (.int o),some (.int m),some (.lst R),a,b,c,d]/\0<=l4/\h' p=some [.int l4,.int fl]/\h' R=some (rows.map zN)/\But p h h'/\rows.length=i/\ ∀r∈rows,VY k r) (by omega) (λR' r=>⟨_,rfl,r⟩)
  ⟨none,none,none,none,l3,[],rfl,l30,kC,kR,bC,rfl,λr hr=>nomatch hr⟩ (λtE h' z=>hC _ _ z) ?_
 clear kC kR bC;rintro i _ h4 hi ⟨a,b,c,d,l4,rows,rfl,l40,kD,kE,bD,g1,g2⟩;refine jh (λtE h'=> ∃S,tE= [some (.lst p),some (.int (k:D1)),some (.int way),some (.int o),some (.int m),some (.lst R),some (.int (i:D1)),some (.lst S),c,d]/\S≠p/\S≠R/\h S=none/\h' S=some []/\h' p=some [.int l4,.int fl]/\h' R=some (rows.map zN)/\But p h h') (λC hC=>⟨sz0,λS eS=>hC _ _ ⟨S,rfl,jl kD eS,jl kE eS,Gn bD eS (jl kD eS),jc,je kD eS,je kE eS,bD.new eS⟩⟩) ?_;clear kD kE bD;rintro _ h5 ⟨S,rfl,nS,nSR,fS,kS,kD,kE,bD⟩;refine jh (λtE h'=> ∃c d l5 row,tE= [some (.lst p),some (.int (k:D1)),some (.int way),some (.int o),some (.int m),some (.lst R),some (.int (i:D1)),some (.lst S),c,d]/\0<=l5/\h' p=some [.int l5,.int fl]/\h' R=some (rows.map zN)/\h' S=some (row.map D.int)/\But p h h'/\VY k row) (λC hC=> ?_) ?_
 rotate_left
 ·rintro _ h6 ⟨c,d,l5,row,rfl,l50,kD,kE,kF,bD,g⟩;refine⟨_,rfl,R,rfl,_,rfl,_,kF,_,kE,?_,_,Sub.refl _,by omega,_,_,_,_,l5,rows++ [row],rfl,l50,jf (E5 nR) kD,?_,bD.putNew fR,by rw [P4,g1];rfl,?_⟩
  ·rw [G6];exact J7 (show rows.length<=1000 by omega) (by decide)
  ·rw [jc,K6];rfl
  ·intro r hr;rcases D3.mp hr with z|z
   ·exact g2 r z
   ·rw [P0.mp z];exact g
 refine Zo k (λj tE h'=> ∃c d l5 row,tE= [some (.lst p),some (.int (k:D1)),some (.int way),some (.int o),some (.int m),some (.lst R),some (.int (i:D1)),some (.lst S),c,d]/\0<=l5/\h' p=some [.int l5,.int fl]/\h' R=some (rows.map zN)/\h' S=some (row.map D.int)/\But p h h'/\row.length=j/\ ∀x∈row,0<=x/\x<=1000000) (by omega) (λR' r=>⟨_,rfl,r⟩)
  ⟨_,_,l4,[],rfl,l40,kD,kE,kS,bD,rfl,λr hr=>nomatch hr⟩ (λtE h' z=>hC _ _ z) ?_
 clear kD kE kS bD;rintro j _ h6 hj ⟨c,d,l5,row,rfl,l50,kD,kE,kF,bD,g1',g2'⟩;refine jh (λtE h'=> ∃ (g:M6) (l6:D1),tE= [some (.lst p),some (.int (k:D1)),some (.int way),some (.int o),some (.int m),some (.lst R),some (.int (i:D1)),some (.lst S),some (.int (j:D1)),some (.bl g)]/\0<=l6/\h' p=some [.int l6,.int fl]/\h' R=some (rows.map zN)/\h' S=some (row.map D.int)/\But p h h') (λC hC=>⟨_,rfl,_,rfl,p,l5,fl,o,rfl,kD,l50,o1,by omega,λr l6 r0 r1 l60=>hC _ _ ⟨_,l6,rfl,l60,jc,jf nR kE,jf nS kF,bD.put⟩⟩) ?_;clear kD kE kF bD;rintro _ _ ⟨g,l6,rfl,l60,kD,kE,kF,bD⟩;refine jh (λtE h'=> ∃ (g:M6) (l6:D1),tE= [some (.lst p),some (.int (k:D1)),some (.int way),some (.int o),some (.int m),some (.lst R),some (.int (i:D1)),some (.lst S),some (.int (j:D1)),some (.bl g)]/\0<=l6/\h' p=some [.int l6,.int fl]/\h' R=some (rows.map zN)/\h' S=some (row.map D.int)/\But p h h') (λC hC=>⟨_,rfl,_,rfl,QL (λ_=>⟨_,rfl,_,rfl,_,rfl,by omega,_,rfl,QL (λ_=>hC _ _ ⟨_,l6,rfl,l60,kD,kE,kF,bD⟩) λ_=>⟨_,rfl,_,rfl,QL (λ_=>⟨_,rfl,p,l6,fl,2,rfl,kD,l60,by decide,by decide,λr l7 r0 r1 l70=>⟨_,rfl,hC _ _ ⟨_,l7,rfl,l70,jc,jf nR kE,jf nS kF,bD.put⟩⟩⟩) λ_=>hC _ _ ⟨_,l6,rfl,l60,kD,kE,kF,bD⟩⟩⟩) λ_=>hC _ _ ⟨_,l6,rfl,l60,kD,kE,kF,bD⟩⟩) ?_;clear kD kE kF bD;rintro _ _ ⟨g,l6,rfl,l60,kD,kE,kF,bD⟩;refine jh (λtE h'=> ∃ (g:M6) (l6:D1),tE= [some (.lst p),some (.int (k:D1)),some (.int way),some (.int o),some (.int m),some (.lst R),some (.int (i:D1)),some (.lst S),some (.int (j:D1)),some (.bl g)]/\0<=l6/\h' p=some [.int l6,.int fl]/\h' R=some (rows.map zN)/\h' S=some (row.map D.int)/\But p h h') (λC hC=>⟨_,rfl,_,rfl,QL (λ_=>⟨_,rfl,_,rfl,QL (λ_=>⟨_,rfl,_,rfl,by decide,_,rfl,QL (λ_=>hC _ _ ⟨_,l6,rfl,l60,kD,kE,kF,bD⟩) λ_=>⟨_,rfl,_,rfl,hC _ _ ⟨_,l6,rfl,l60,kD,kE,kF,bD⟩⟩⟩) λ_=>⟨_,rfl,QL (λ_=>hC _ _ ⟨_,l6,rfl,l60,kD,kE,kF,bD⟩) λ_=>⟨_,rfl,_,rfl,hC _ _ ⟨_,l6,rfl,l60,kD,kE,kF,bD⟩⟩⟩⟩) λ_=>hC _ _ ⟨_,l6,rfl,l60,kD,kE,kF,bD⟩⟩) ?_;clear kD kE kF bD;rintro _ _ ⟨g,l6,rfl,l60,kD,kE,kF,bD⟩;refine jh (λtE h'=> ∃ (g:M6) (l6:D1),tE= [some (.lst p),some (.int (k:D1)),some (.int way),some (.int o),some (.int m),some (.lst R),some (.int (i:D1)),some (.lst S),some (.int (j:D1)),some (.bl g)]/\0<=l6/\h' p=some [.int l6,.int fl]/\h' R=some (rows.map zN)/\h' S=some (row.map D.int)/\But p h h') (λC hC=>⟨_,rfl,_,rfl,QL (λ_=>⟨_,rfl,_,rfl,QL (λ_=>⟨_,rfl,_,rfl,hC _ _ ⟨_,l6,rfl,l60,kD,kE,kF,bD⟩⟩) λ_=>hC _ _ ⟨_,l6,rfl,l60,kD,kE,kF,bD⟩⟩) λ_=>hC _ _ ⟨_,l6,rfl,l60,kD,kE,kF,bD⟩⟩) ?_;clear kD kE kF bD;rintro _ _ ⟨g,l6,rfl,l60,kD,kE,kF,bD⟩;have gi: ∀x r:D1,0<=r->r<m->x=0\/x=1->CMul x (1+r)/\0<=x*(1+r)/\x*(1+r)<=1000000:=λx r r0 r1 hx=>by
  rcases hx with e|e<;>subst e
  ·exact⟨.inl ⟨by decide,by decide⟩,by omega,by omega⟩
  ·exact⟨.inl ⟨by decide,by decide⟩,by omega,by omega⟩
 refine⟨_,rfl,S,rfl,_,rfl,_,rfl,_,rfl,p,l6,fl,m,rfl,kD,l60,m1,by omega,λr l7 r0 r1 l70=> ?_⟩;have gg:=gi (if g=true then 1 else 0) r r0 r1 (by cases g<;>decide);refine⟨gg.1,_,jf nS kF,?_,_,Sub.refl _,by omega,_,_,l7,row++ [(if g=true then 1 else 0)*(1+r)],rfl,l70,jf (E5 nS) jc,jf (E5 nSR) (jf nR kE),?_,(bD.put).putNew fS,by rw [P4,g1'];rfl,?_⟩
 ·rw [G6];exact J7 (show row.length<=1000 by omega) (by decide)
 ·rw [jc,K6];rfl
 ·intro x hx;rcases D3.mp hx with z|z
  ·exact g2' x z
  ·rw [P0.mp z];exact gg.2
def vN:RDn:=λds h Q=> ∃T S,∃n e:G9,ds= [zd T,zg S]/\Sq n e T/\IsS n S/\n<=6/\Q (zg (WU n T S)) h
theorem Yi (Z:Zs mg)(F:Fun K "_law_after" "_law_after" yl f fd):FnOk P w K mg base CX0 (n+1) f fd ["_law_table_here","_law_some"] (LSp K vN):=by
 refine F.okM zR (λhr=>(js2 (jse 2 zR (JU Z (jv 0))) (zl (ya Zn rfl Z.tuple (by decide +kernel) (j1 (jl1 3 zR (jrg Z (jv 2)) (λ_ _ _ _=>(jt1 Dt (zm (NF rfl) rfl Z.max (by decide +kernel) (j1 (jop jH (yI (j1 jm)) (jl0 4 zR (zW (jv 1)) (λ_ _ _ _=>(ji1 (ji1 (jv 0) (jv 4)) (jv 3))))))) jm)) (λ_ _ _ _=>(jv 3)))))))) ?_;rintro ds h Q ⟨T,S,k,b,rfl,hT,hS,h6,q⟩;refine⟨rfl,?_⟩;have hlen:=hS.len;refine jh (λtE h'=>tE= [some (zd T),some (zg S),some (.int (k:D1)),none,none]/\h=h') (λC hC=>⟨_,rfl,hC _ _ ⟨by rw [G6,hT.len];rfl,rfl⟩⟩) ?_;rintro _ _ ⟨rfl,rfl⟩;refine FI (N4 k) (λj=> .int (j:D1)) (λj=> .int (j:D1)) (λj=>S.any λi=>decide (ent T i j≠0)) (by rw [X1];omega) rfl (λR r=>⟨_,rfl,(k:D1),rfl,by omega,by omega,r⟩) (λj hj Q' q'=> ?_) (λj hj hp Q' q'=>⟨_,rfl,q'⟩) ⟨h,Sub.refl h,q⟩;refine⟨sz1,λp1 e1=> ?_⟩;refine lcA S (λi=> .int (i:D1)) (λi=> .int (ent T i j)) (by omega) rfl (λR r=>⟨_,rfl,r⟩) (λi hi Q'' q''=> ?_) (λp2 e2=> ?_)
 ·have hi':=hS.lt hi;exact⟨_,rfl,_,rfl,_,Ua hT hi',_,rfl,_,Gy (hT.row _ (Sq.getRow hT hi')) (L7.mp hj),q''⟩
 ·refine⟨_,_,je jc e2,jc,?_,λp3 e3=> ?_⟩
  ·simp only [G6,P8,S2];exact R8 (jz (by omega))
  refine⟨0::S.map (λi=>ent T i j),h,by simp,Sub.newAt (Sub.newAt (Sub.newAt (Sub.refl h) e1) e2) e3,.inr ⟨p3,rfl,?_⟩,λm m1 m2=>⟨_,rfl,?_⟩⟩
  ·rw [jc,N5,O7];rfl
  ·show Q' (decide (m>0)) h;rw [XG hT hS (L7.mp hj) m1 m2];exact q'
def yw:RDn:=λds h Q=> ∃n:G9,ds= [.int (n:D1)]/\n<=6/\ ∀A h',h' A=some ((wA n).map zg)->Sub h h'->Q (.lst A) h'
theorem Vp (Z:Zs mg)(F:Fun K "_law_sets" "_law_sets" vj f fd):FnOk P w K mg base CX0 (n+1) f fd ["_law_many"] (LSp K yw):=by
 refine F.okM zE (λhr=>(js3 (jse 1 zE (yI (j1 (jR zc)))) (XD O8 rfl (jrg Z (jv 0)) (jgn 2 zE) (jx (jse 1 zE (jop jH (jv 1) (jl0 3 zE (zW (jv 1)) (λ_ _ _ _=>(jop jH (jv 3) (jR (j1 (jv 2)))))))))) (zl (zm (XS hr) rfl Z.sorted (by decide +kernel) (j1 (jv 1)))))) ?_;rintro ds h Q ⟨n,rfl,h6,q⟩;refine⟨rfl,?_⟩;refine jh (λtE h'=> ∃A,tE= [some (.int (n:D1)),some (.lst A),none,none]/\h' A=some ((zn 0).map zg)/\Sub h h') (λC hC=>⟨sz0,sz1,λA eA=>hC _ _ ⟨A,rfl,jc,Sub.newAt (Sub.refl h) eA⟩⟩) ?_;rintro _ h2 ⟨A0,rfl,kA0,sb0⟩;refine jh (λtE h'=> ∃A a b,tE= [some (.int (n:D1)),some (.lst A),a,b]/\h' A=some ((zn n).map zg)/\Sub h h') (λC hC=> ?_) ?_
 ·refine Zo n (λt tE h'=> ∃A a b,tE= [some (.int (n:D1)),some (.lst A),a,b]/\h' A=some ((zn t).map zg)/\Sub h h') (by omega) (λR r=>⟨_,rfl,r⟩) ⟨A0,none,none,rfl,kA0,sb0⟩ (λtE h' z=>hC _ _ z) ?_;clear kA0 sb0;rintro t _ h3 ht ⟨A,a,b,rfl,kA,sb⟩;have l64:(zn t).length<=64:=by rw [vF];exact Q9 (by decide) (show t<=6 by omega)
  refine⟨_,rfl,?_⟩;refine lcA (j:=λh=>h A) (zn t) zg (λS=>zg (S++ [t])) (by omega) kA (λR r=>⟨_,rfl,r⟩) (λS hS Q' q'=>⟨_,rfl,_,rfl,sz1,?_,?_⟩) (λF eF=> ?_)
  ·have:=(vG hS).len;rw [G6];exact R8 (jz (by simp only [P8,S2];omega))
  ·have:zg (S++ [t])= .tup ((S.map λ(k:G9)=>D.int (k:D1))++ [.int (t:D1)]):=by unfold zg;rw [K6];rfl
   rw [this] at q';exact q'
  ·refine⟨_,_,je kA eF,jc,?_,λp3 e3=>⟨_,Sub.refl _,by omega,p3,_,_,rfl,?_,(((sb).newAt eF).newAt e3)⟩⟩
   ·rw [G6,G6];exact R8 (jz (by omega))
   ·rw [jc];show _=some ((zn t++(zn t).map λS=>S++ [t]).map zg);rw [K6,O7];rfl
 rintro _ h3 ⟨A,a,b,rfl,kA,sb⟩;refine⟨_,rfl,A,(zn n).map toI,rfl,?_,?_,λp mss hp pm sr=>⟨_,Sub.refl _,q p _ (by rw [jc,Pr pm sr];rfl) (Sub.newAt sb hp)⟩⟩
 ·rw [kA,O7];exact congrArg some (dU λS _=>(Mf S).symm)
 ·rw [G6,vF];exact J7 (Q9 (by decide) h6) (by decide)
def wU:RDn:=λds h Q=> ∃p l fl,ds= [.lst p]/\h p=some [.int l,.int fl]/\0<=l/\ ∀d l' h',okD d=true->PZ d=false->But p h h'->h' p=some [.int l',.int fl]->0<=l'->Q d h'
theorem JJ (Z:Zs mg)(F:Fun K "_law_no_table" "_law_no_table" zZ f fd)(jp:jq P w K mg base n "_law_draw" ["_law_pen_here","_law_many"] jP):FnOk P w K mg base CX0 (n+1) f fd ["_law_pen_here"] (LSp K wU):=by
 refine F.okM wQ (λhr=>(js2 (jse 1 wQ (yI (jac DB (by exact(jac jm (by exact(jac (jR zc) (by exact(jac (yI zc) (by exact(jac (jR (j1 jm)) (by exact(jac (jR (j1 (jR zc))) (by exact(jac (jR (j2 (jR (j1 jm)) (jR (j1 jm)))) (by exact(jac (jR (j1 (jR (j2 jm jm)))) (by exact(jac (jR (j1 (jR (j1 (FH jm))))) (by exact(j4 (jR (j1 (jR (j1 jbl)))) (yI (j1 (yI (j1 jm)))) (jR (j1 (jR (j1 DB)))) wF))))))))))))))))))))) (zl (ji1 (jop jH (jv 1) (yI (jac (jR (j1 (jR (j1 jbl)))) (by exact(j4 (jop yW (jR (j1 (jop yW (jR (j1 jm)) jm))) jm) (jR (j1 (yI (j1 jm)))) (jR (j1 (jR (j1 (jR (j1 jm)))))) RV))))) (jk jp hr (j2 (jv 0) jm)))))) ?_;rintro ds h Q ⟨p,l,fl,rfl,hp,h0,q⟩;refine⟨rfl,?_⟩;simp only [wE,QY,MS,jZ,dC,By,Zl,S2,P8,dUn,Fs,UI,dOp,Xz,jN,N5,Q6,S4,L5,B3,fQ,fT,U5,F7,J4,OU,YH,OK,dCB,ixD,K7,Yt]
 repeat (first|intro _|refine⟨by decide,?_⟩|refine⟨⟨by decide,by decide,by decide⟩,?_⟩)
 rename_i p1 e1 p2 e2 p3 e3 p4 e4 p5 e5 p6 e6;have k1:=je (M:= []) hp e1;have k2:=je (M:= [.int 1]) k1 e2;have k3:=je (M:= [.lst p2]) k2 e3;refine⟨_,_,je (je jc e5) e6,jc,by simp only [P8,S2];decide,λp7 e7=> ?_⟩;refine⟨p,l,fl,18,rfl,je (je (je (je k3 e4) e5) e6) e7,h0,by decide,by decide,λr l' r0 r1 l0=> ?_⟩;obtain⟨d,hd,ed⟩:=yX (xs:= [D.non,D.int 0,D.tup [],D.lst p1,D.tup [D.int 0],D.tup [D.tup []],D.tup [D.tup [D.int 1],D.tup [D.int 1]],D.tup [D.tup [D.int 0,D.int 1]],D.tup [D.tup [D.int (-1)]],D.tup [D.tup [D.bl true]],D.lst p3,D.tup [D.tup [D.non]],D.str (B6 "1")]++ [D.tup [D.tup [D.bl false]],D.tup (S4 (eG 7) [D.tup (S4 (eG 7) [D.int 0]).flatten]).flatten,D.tup [D.lst p5],D.tup [D.tup [D.tup [D.int 0]]],D.dic (B6 "a") 1]) r0 r1;refine⟨_,d,jf (jl (je (je (je k3 e4) e5) e6) e7) jc,ed,_,Sub.refl _,q d l' _ (JV ?_ d hd) ?_ (((((((But.refl p h).new e1).new e2).new e3).new e4).new e5).new e6 |>.new e7).put jc l0⟩
 ·rfl
 ·simp only [D3,P6,S9,or_false] at hd;rcases hd with (e|e|e|e|e|e|e|e|e|e|e|e|e)|e|e|e|e|e<;>subst e<;>rfl
/-- a number of turns and a rest for each place -/
def XW (T:G0 (G0 D1))(n:G9)(d:D):M6:=match d with
 | .tup [a,x]=>wC T n a x
 |_=>false
theorem Lr (h:((es.length:G9):D1)=2): ∃a x,es= [a,x]:=by
 cases es with
 |nil=>cases h
 |cons a r=>cases r with
  |nil=>cases h
  |cons x r=>cases r with
   |nil=>exact⟨a,x,rfl⟩
   |cons y r=>simp only [P8] at h;omega
theorem Ry (h: ¬ ((es.length:G9):D1)=2):XW T n (.tup es)=false:=by
 unfold XW;split
 ·rename_i e;injection e with e;rw [e] at h;exact absurd rfl h
 ·rfl
theorem Xj {a b:D1}(k0:0<k)(b0:0<=b)(b1:b<=k-1):((b-a-1)%k=0)↔b=(a+1)%k:=by
 have eb:b%k=b:=Int.emod_eq_of_lt b0 (by omega);rw [show b-a-1=b-(a+1) by omega,<-Int.emod_eq_emod_iff_emod_sub_eq_zero,eb]
theorem hds_in {p:G9}:j∈Qg T n p↔j<n/\ent T p j>0:=by unfold Qg;rw [bE,L7,B7]
theorem Bo {p:G9}(hp:p<n)(hj:j<n)(ha:ent T p j>0)(h: ¬zf x j=(zf x p+1)%k):Rv T n x k=false:=by
 cases c:Rv T n x k with
 |false=>rfl
 |true=>exact absurd (J0 (T3.mp (T3.mp c p (L7.mpr hp)) j (hds_in.mpr ⟨hj,ha⟩))) h
theorem RA (h: ∀p j,p<n->j<n->ent T p j>0->zf x j=(zf x p+1)%k):Rv T n x k=true:=
 T3.mpr λp hp=>T3.mpr λj hj=>R4 (h p j (L7.mp hp) (hds_in.mp hj).1 (hds_in.mp hj).2)
def vO:RDn:=λds h Q=> ∃T d,∃n e:G9,ds= [zd T,d]/\Sq n e T/\1<=n/\n<=6/\okD d=true/\Q (.bl (XW T n d)) h
theorem Yj (Z:Zs mg)(F:Fun K "_law_turns" "_law_turns" ym f fd)(wg:jq P w K mg base n "_law_whole" ["_law_thing"] zr):FnOk P w K mg base CX0 (n+1) f fd ["_law_table_here","_law_thing"] (LSp K vO):=by
 refine F.okM zj (λhr=>(js6 (ZG (jpt (UL (wy (wI (JC (T:= "tuple") (by decide) rfl Z.isinstance rfl Z.tuple (by decide +kernel) (jv 1)))) (UL (jt1 oq_ne (JU Z (jv 1)) jm) (UL (wy (wI (jk wg hr (j1 (ji1 (jv 1) jm))))) (PX (wy (Gr VT VT jm (ji1 (jv 1) jm) jm))))))) (zl jbl)) (BE (jv 1) (Ww (i:=2) (j:=3) rfl zj.nd rfl rfl (by first|exact aF rfl|exact K8 rfl) (K8 rfl))) (ZG (jpt (UL (wy (wI (JC (T:= "tuple") (by decide) rfl Z.isinstance rfl Z.tuple (by decide +kernel) (jv 3)))) (PX (jt1 oq_ne (JU Z (jv 3)) (JU Z (jv 0)))))) (zl jbl)) (ZG (wy (wI (zm (yL rfl) rfl Z.all C9 (j1 (jl0 8 zj (zW (jv 3)) (λ_ _ _ _=>(VH (jk wg hr (j1 (jv 8))) (VG (Gq VT VS jm (jv 8) (jv 2)))))))))) (zl jbl)) (XD O8 rfl (Zr rfl Z.enumerate (j1 (jv 0))) (Ww (i:=4) (j:=5) rfl zj.nd rfl rfl (K8 rfl) (K8 rfl)) (jx (XD O8 rfl (Zr rfl Z.enumerate (j1 (jv 5))) (Ww (i:=6) (j:=7) rfl zj.nd rfl rfl (K8 rfl) (K8 rfl)) (jx (ZG (jpt (Gs (jt1 Dt (jv 7) jm) (DD (jt1 oq_ne (jop wZ (jop Wt (jop Wt (ji1 (jv 3) (jv 6)) (ji1 (jv 3) (jv 4))) jm) (jv 2)) jm)))) (zl jbl)))))) (zl jbl))) ?_;rintro ds h Q ⟨T,d,n,b,rfl,hT,h1,h6,ok,q⟩;refine⟨rfl,?_⟩;have hlen:(((T.map zN).length:G9):D1)=(n:D1):=by rw [G6,hT.len]
 obtain⟨nm,hn⟩:=jY ok;cases d with
 |tup es=>
  cases hn;obtain⟨hl,ht⟩:=yq ok;refine jh (λtE h'=>(∃k x,es= [.int k,x]/\1<=k/\k<=6)/\tE= [some (zd T),some (.tup es),none,none,none,none,none,none,none]/\h=h') (λC hC=>⟨_,rfl,"tuple",rfl,_,rfl,jG ⟨_,rfl,_,rfl,?_⟩⟩) ?_
  ·show if (!decide (((es.length:G9):D1)=2))=true then _ else _
   by_cases z:((es.length:G9):D1)=2
   ·rw [R4 z];obtain⟨a,x,rfl⟩:=Lr z;obtain⟨na,hna⟩:=jY (ht a (by simp));refine jG ⟨_,rfl,_,rfl,a,na,rfl,hna,_,rfl,?_⟩;cases a with
    |int k=>
     refine jG ⟨_,rfl,_,rfl,_,rfl,?_⟩;show if decide ((1:D1)<=k)=true then _ else _
     by_cases c1:(1:D1)<=k
     ·rw [R4 c1];refine zk ⟨_,rfl,?_⟩;show if (!decide (k<=6))=true then _ else _
      by_cases c2:k<=6
      ·rw [R4 c2];exact jG (hC _ _ ⟨⟨k,x,rfl,c1,c2⟩,rfl,rfl⟩)
      ·rw [D9 c2];have e:XW T n (.tup [.int k,x])=false:=by
        show ((decide ((1:D1)<=k)&&decide (k<=6))&&_)=false;rw [D9 c2,oN,Q8]
       rw [e] at q;exact zk ⟨h,Sub.refl h,q⟩
     ·rw [D9 c1];have e:XW T n (.tup [.int k,x])=false:=by
       show ((decide ((1:D1)<=k)&&decide (k<=6))&&_)=false;rw [D9 c1,Q8,Q8]
      rw [e] at q;exact jG ⟨_,rfl,zk ⟨h,Sub.refl h,q⟩⟩
    |_=>exact zk ⟨h,Sub.refl h,q⟩
   ·rw [D9 z];rw [Ry z] at q;exact zk ⟨h,Sub.refl h,q⟩
  rintro _ _ ⟨⟨k,x,rfl,k1,k6⟩,rfl,rfl⟩;have w6:jB (.int k) 1 6=true:=by show (decide ((1:D1)<=k)&&decide (k<=6))=true;rw [R4 k1,R4 k6];rfl
  have e0:XW T n (.tup [.int k,x])=(wS x n k&&Rv T n x k):=by show (jB (.int k) 1 6&&_)=_;rw [w6];rfl
  rw [e0] at q;refine zi [some (zd T),some (.tup [.int k,x]),some (.int k),some x,none,none,none,none,none] (λC hC=>⟨_,rfl,_,_,rfl,hC⟩) ?_;have okx:=ht x (by simp);obtain⟨nx,hnx⟩:=jY okx;cases x with
  |tup rs=>
   cases hnx;obtain⟨hrl,hrt⟩:=yq okx;refine jh (λtE h'=>((rs.length:G9):D1)=n/\tE= [some (zd T),some (.tup [.int k,.tup rs]),some (.int k),some (.tup rs),none,none,none,none,none]/\h=h') (λC hC=>⟨_,rfl,"tuple",rfl,_,rfl,jG ⟨_,rfl,_,rfl,_,rfl,?_⟩⟩) ?_
   ·show if (!decide (((rs.length:G9):D1)=(((T.map zN).length:G9):D1)))=true then _ else _
    rw [hlen]
    by_cases z:((rs.length:G9):D1)=n
    ·rw [R4 z];exact jG (hC _ _ ⟨z,rfl,rfl⟩)
    ·rw [D9 z];have e:wS (.tup rs) n k=false:=by show (decide _&&_)=false;rw [D9 z];rfl
     rw [e] at q;exact zk ⟨h,Sub.refl h,q⟩
   rintro _ _ ⟨z,rfl,rfl⟩;have e1:wS (.tup rs) n k=rs.all λx=>jB x 0 (k-1):=by show (decide _&&_)=_;rw [R4 z];rfl
   refine jh (λtE h'=>(rs.all λx=>jB x 0 (k-1))=true/\tE= [some (zd T),some (.tup [.int k,.tup rs]),some (.int k),some (.tup rs),none,none,none,none,none]/\h=h') (λC hC=> ?_) ?_
   ·refine Nz rs (λx=>x) (λx=>jB x 0 (k-1)) hrl (by rw [mC]) (λR r=>⟨_,rfl,r⟩) (λx hx Q' q'=> ?_) ⟨_,rfl,?_⟩
    ·obtain⟨ny,hny⟩:=jY (hrt x hx);refine⟨_,rfl,x,ny,rfl,hny,Xe x,rfl,?_⟩;cases x with
     |int y=>
      refine zk ⟨_,rfl,_,rfl,?_⟩;show if decide (0<=y)=true then _ else _
      by_cases y0:0<=y
      ·rw [R4 y0];simp only [jB,R4 y0,X7] at q';rw [<-FP] at q';exact zk ⟨_,rfl,q'⟩
      ·rw [D9 y0];simp only [jB,D9 y0,Q8] at q';exact jG q'
     |_=>exact jG q'
    ·show if (!(rs.all λx=>jB x 0 (k-1)))=true then _ else _
     cases hp:rs.all λx=>jB x 0 (k-1) with
     |false=>
      rw [e1,hp] at q;exact zk ⟨h,Sub.refl h,q⟩
     |true=>exact jG (hC _ _ ⟨hp,rfl,rfl⟩)
   rintro _ _ ⟨hall,rfl,rfl⟩;rw [hall] at e1;rw [e1] at q;have q:Q (.bl (Rv T n (.tup rs) k)) h:=q;obtain⟨el,at_⟩:=Xi e1;refine jh (λtE h'=>(∀p j,p<n->j<n->ent T p j>0->zf (.tup rs) j=(zf (.tup rs) p+1)%k)/\h=h') (λC hC=> ?_) (λ_ _ ⟨g,e⟩=>by subst e;rw [RA g] at q;exact⟨h,Sub.refl h,q⟩);refine vx (h1:=h) (j:=λ_=>some (YL (T.map zN))) (YL (T.map zN)) (λi tE h'=> ∃a b c d e,tE= [some (zd T),some (.tup [.int k,.tup rs]),some (.int k),some (.tup rs),a,b,c,d,e]/\(∀p j,p<i->j<n->ent T p j>0->zf (.tup rs) j=(zf (.tup rs) p+1)%k)/\h=h') (λR r=>⟨_,rfl,_,rfl,r⟩) (λ_ _ _ _=>rfl) ⟨_,_,_,_,_,rfl,λp j z=>by omega,rfl⟩ (λtE h' ⟨_,_,_,_,_,_,g,e⟩=>hC _ _ ⟨by rw [jE,G6,hT.len] at g;exact g,e⟩) ?_;rintro i dd _ _ hdd ⟨a,b',c,d,e,rfl,g,rfl⟩;obtain⟨rw_,hrw,rfl⟩:=yE hdd;rw [R9] at hrw;obtain⟨r,hr,rfl⟩:=A4.mp hrw;have hi:i<n:=by rw [<-hT.len];exact(D0.mp hr).1
   have er:T.getD i []=r:=by rw [N6,hr];rfl
   have gr:=hT.row r (P5 hr);refine⟨_,_,rfl,?_⟩;refine vx (h1:=h) (j:=λ_=>some (YL (r.map D.int))) (YL (r.map D.int)) (λi2 tE h'=> ∃c d,tE= [some (zd T),some (.tup [.int k,.tup rs]),some (.int k),some (.tup rs),some (.int (i:D1)),some (zN r),c,d,e]/\(∀j,j<i2->ent T i j>0->zf (.tup rs) j=(zf (.tup rs) i+1)%k)/\h=h') (λR r=>⟨_,rfl,_,rfl,r⟩) (λ_ _ _ _=>rfl) ⟨_,_,rfl,λj z=>by omega,rfl⟩ ?_ ?_
   ·rintro _ _ ⟨c,d,rfl,g2,rfl⟩;refine⟨_,Sub.refl _,by rw [jE,G6,hT.len];omega,_,_,_,_,_,rfl,λp j hp hj ha=> ?_,rfl⟩;rcases mD p i with zz|zz
    ·exact g p j zz hj ha
    ·have:p=i:=by omega
     subst this;exact g2 j (by rw [jE,G6,gr];exact hj) ha
   rintro i2 dd _ _ hdd ⟨c,d,rfl,g2,rfl⟩;obtain⟨x,hx,rfl⟩:=yE hdd;rw [R9] at hx;obtain⟨y,hy,rfl⟩:=A4.mp hx;have hi2:i2<n:=by rw [<-gr];exact(D0.mp hy).1
   have ey:ent T i i2=y:=by unfold ent;rw [er,N6,hy];rfl
   refine⟨_,_,rfl,⟨_,rfl,_,rfl,?_⟩⟩;obtain⟨ra,a1,a2,a3,a4⟩:=at_ i2 (by omega);obtain⟨rb,b1,b2,b3,b4⟩:=at_ i (by omega);show if decide (y>0)=true then _ else _
   by_cases yp:y>0
   ·rw [R4 yp];refine zk ⟨_,rfl,_,rfl,_,a1,_,rfl,_,rfl,_,b1,_,rfl,by omega,_,rfl,?_⟩;show if (!decide ((ra-rb-1)%k=0))=true then _ else _
    by_cases yz:(ra-rb-1)%k=0
    ·rw [R4 yz];refine jG ⟨_,Sub.refl _,by rw [jE,G6,gr];omega,_,_,rfl,λj hj ha=> ?_,rfl⟩;rcases mD j i2 with zz|zz
     ·exact g2 j zz ha
     ·have:j=i2:=by omega
      subst this;rw [a2,b2];exact(Xj (by omega) a3 a4).mp yz
    ·rw [D9 yz];have e5:Rv T n (.tup rs) k=false:=Bo hi hi2 (by omega) (by rw [a2,b2];exact λw=>yz ((Xj (by omega) a3 a4).mpr w));rw [e5] at q;exact zk ⟨h,Sub.refl h,q⟩
   ·rw [D9 yp];refine jG (jG ⟨_,Sub.refl _,by rw [jE,G6,gr];omega,_,_,rfl,λj hj ha=> ?_,rfl⟩);rcases mD j i2 with zz|zz
    ·exact g2 j zz ha
    ·have:j=i2:=by omega
     subst this;omega
  |_=>cases hnx<;>exact jh (λ_ _=>False) (λC hC=>⟨_,rfl,_,rfl,_,rfl,zk ⟨h,Sub.refl h,q⟩⟩) (λ_ _ z=>z.elim)
 |_=>cases hn<;>exact jh (λ_ _=>False) (λC hC=>⟨_,rfl,_,rfl,_,rfl,zk ⟨h,Sub.refl h,q⟩⟩) (λ_ _ z=>z.elim)
def wV:RDn:=λds h Q=> ∃d,ds= [d]/\((∃S:G0 G9,d=zg S/\S.length<=6/\Q (.bl true) h)\/(d= .tup [.bl true]/\Q (.bl false) h))
theorem JK (Z:Zs mg)(F:Fun K "_law_true_set" "_law_true_set" wa f fd)(wg:jq P w K mg base n "_law_whole" ["_law_thing"] zr):FnOk P w K mg base CX0 (n+1) f fd ["_law_thing"] (LSp K wV):=by
 refine F.okM wR (λhr=>(jx (zl (zm (yL rfl) rfl Z.all C9 (j1 (jl0 1 wR (zW (jv 0)) (λ_ _ _ _=>(jk wg hr (j1 (jv 1)))))))))) ?_;rintro ds h Q ⟨d,rfl,q⟩;refine⟨rfl,?_⟩;rcases q with ⟨S,rfl,hl,q⟩|⟨rfl,q⟩
 ·refine Nz S (λ(k:G9)=> .int (k:D1)) (λ_=>true) (by omega) rfl (λR r=>⟨_,rfl,r⟩) (λx hx Q' q'=>⟨_,rfl,.int (x:D1),"int",rfl,rfl,q'⟩) ⟨h,Sub.refl h,?_⟩;rw [show (S.all λ_=>true)=true from by rw [T3];exact λ_ _=>rfl];exact q
 ·exact Nz [D.bl true] (λx=>x) (λ_=>false) (by decide) rfl (λR r=>⟨_,rfl,r⟩) (λx hx Q' q'=>by rw [P0.mp hx];exact⟨_,rfl,.bl true,"bool",rfl,rfl,q'⟩) ⟨h,Sub.refl h,q⟩
theorem RB (t:ToP h x p):N9 (.str s) p=zF x s:=by
 cases p with
 |str y=>cases (show x= .str y from t);show (s==y)=decide (y=s);rw [H0,beq_iff_eq,B7];exact eq_comm
 |none=>cases (show x= .non from t);rfl
 |bool b=>cases (show x= .bl b from t);rfl
 |int i=>cases (show x= .int i from t);rfl
 |tuple ps=>obtain⟨ds,e,_⟩:=(show ∃ds,x= .tup ds/\ToPs h ds ps from t);subst e;rfl
 |list ps=>obtain⟨a,ds,e,_⟩:=(show ∃a ds,x= .lst a/\h a=some ds/\ToPs h ds ps from t);subst e;rfl
 |dict kvs=>exact(show False from t).elim
theorem Mh (h:E9 p=true):p.canLay0=true:=(dJ.mp h).1
theorem Yk (t:ToP h x p)(sh:E9 p=true)(dp:p.depth<=60)(q:Q (.bl (!(zF x "shut" ||zF x "turns"))) h):inE true x (.tup [.str "shut",.str "turns"]) h Q:=by
 refine⟨p,[.str "shut",.str "turns"],t,.inr ⟨_,rfl,⟨_,_,rfl,rfl,_,_,rfl,rfl,rfl⟩⟩,Mh sh,by decide +kernel,dp,?_⟩;simp only [c9,List.any_nil,RB t,oV];rw [show (true !=(zF x "shut" ||zF x "turns"))= !(zF x "shut" ||zF x "turns") from by cases (zF x "shut" ||zF x "turns")<;>rfl];exact q
theorem PD (a:Pap h (.tup (x::r)))(q:Q (.bl false) h):eqE (.tup (x::r)) (.tup []) h Q:=by
 obtain⟨ps,t,sh,_⟩:=a.2 _ rfl;cases ps with
 |nil=>cases (show x::r= [] from t)
 |cons p ps=>exact⟨.tuple (p::ps),.tuple [],⟨_,rfl,t⟩,⟨_,rfl,rfl⟩,sh,by decide +kernel,q⟩
variable {y:D}
theorem Pap.second (a:Pap h (.tup (x::y::r))): ∃p,ToP h y p/\E9 p=true/\p.depth<=60:=by
 obtain⟨ps,t,_,g⟩:=a.2 _ rfl;cases ps with
 |nil=>cases (show x::y::r= [] from t)
 |cons p ps=>
  obtain⟨d,r',e,_,t2⟩:=(show ∃d r',x::y::r=d::r'/\ToP h d p/\ToPs h r' ps from t);injection e with e1 e2
  subst e2;cases ps with
  |nil=>cases (show y::r= [] from t2)
  |cons p' ps=>
   obtain⟨d,r',e,t1,_⟩:=(show ∃d r',y::r=d::r'/\ToP h d p'/\ToPs h r' ps from t2);injection e with e1 e2
   subst e1;exact⟨p',t1,g p' (D8 _ D5)⟩
theorem Ls (a:zF x "shut" =false)(b:zF x "turns" =false):nvB T n (.tup (x::r))=false:=by
 rcases r with _|⟨y,_|⟨z,_|⟨w,r⟩⟩⟩
 ·rfl
 ·show (zF x "shut" &&_)=false;rw [a];rfl
 ·show (zF x "turns" &&_)=false;rw [b];rfl
 ·rfl
theorem Bp {w:D}: ∀ {r:G0 D},nvB T n (.tup (.str "shut" ::y::w::r))=false
 | []=>by show (zF (.str "shut") "turns" &&(wC T n y w&&Vi y))=false;rw [show zF (.str "shut") "turns" =false from by decide +kernel];rfl
 |_::_=>rfl
theorem Xk: ∀P:G0 (G0 G9),C0 (P.map PY)=true
 | []=>rfl
 |S::P=>by show ((PY S).canLay0&&_)=true;rw [encO.lay S];exact Xk P
theorem at0:atI (x::r) 0=some x:=yQ (j:=0) rfl
theorem Lt {B:G7}{P:G0 (G0 G9)}(k:h B=some (P.map zg))(t:ToP h y p)(sh:E9 p=true)(dp:p.depth<=60)(q: ∀c,((∀es,y≠ .tup es)->c=true)->Q (.bl c) h):inE true y (.lst B) h Q:=by
 refine⟨p,P.map PY,t,.inl ⟨B,_,rfl,k,YT h P⟩,Mh sh,?_,dp,q _ λnt=> ?_⟩
 ·exact Xk P
 ·have e:((P.map PY).any λz=>N9 z p)=false:=by
   rw [lC];intro z hz;obtain⟨S,_,rfl⟩:=N8.mp hz;cases p with
   |tuple ps=>obtain⟨ds,e,_⟩:=(show ∃ds,y= .tup ds/\ToPs h ds ps from t);exact absurd e (nt ds)
   |_=>exact R0
  rw [e];rfl
def vP:RDn:=λds h Q=> ∃T d,∃n e:G9,ds= [zd T,d]/\Sq n e T/\1<=n/\n<=6/\Pap h d/\(∀x,d= .tup [.str "shut",x]->(∃S,x=zg S/\IsS n S)\/Lq x)/\Q (.bl (nvB T n d)) h
theorem Yl (Z:Zs mg)(F:Fun K "_law_never" "_law_never" yn f fd)(ZS:jq P w K mg base n "_law_true_set" ["_law_thing"] wV)(wM:jq P w K mg base n "_law_sets" ["_law_many"] yw)(Vr:jq P w K mg base n "_law_after" ["_law_table_here","_law_some"] vN)(Vt:jq P w K mg base n "_law_turns" ["_law_table_here","_law_thing"] vO):FnOk P w K mg base CX0 (n+1) f fd ["_law_table_here","_law_thing"] (LSp K vP):=by
 refine F.okM wL (λhr=>(js4 (jse 2 wL (JU Z (jv 0))) (ZG (jpt (UL (wy (wI (JC (T:= "tuple") (by decide) rfl Z.isinstance rfl Z.tuple (by decide +kernel) (jv 1)))) (UL (jt1 (Wv hr.units) (jv 1) (jR zc)) (PX (Gp (UO hr.units) (ji1 (jv 1) jm) (jR (j2 wF wF)) (by with_unfolding_all rfl)))))) (zl jbl)) (FF (jt1 (Wv hr.units) (ji1 (jv 1) jm) wF) (js2 (ZG (jpt (UL (jt1 oq_ne (JU Z (jv 1)) jm) (UL (Gp (UO hr.units) (ji1 (jv 1) jm) (vy (jk wM hr (j1 (jv 2))) (wq jm) yb) (by with_unfolding_all rfl)) (PX (wy (wI (jk ZS hr (j1 (ji1 (jv 1) jm))))))))) (zl jbl)) (zl (VH (jc1 VS (JU Z (ji1 (jv 1) jm)) (jv 2)) (VG (zm (yL rfl) rfl Z.all C9 (j1 (jl0 3 wL (zW (jk Vr hr (j2 (jv 0) (ji1 (jv 1) jm)))) (λ_ _ _ _=>(OW (NE hr.units) (jv 3) (ji1 (jv 1) jm) (by with_unfolding_all rfl)))))))))) YJ) (zl (VH (jc1 oq_eq (JU Z (jv 1)) jm) (VH (jk Vt hr (j2 (jv 0) (vy (jv 1) (wq jm) yb))) (VG (jc1 Dt (ji1 (jv 1) jm) jm))))))) ?_;rintro ds h Q ⟨T,d,n,b,rfl,hT,h1,h6,pa,sx,q⟩;refine⟨rfl,?_⟩;have hlen:(((T.map zN).length:G9):D1)=(n:D1):=by rw [G6,hT.len]
 have hsS:E9 (.str "shut")=true:=by decide +kernel
 refine jh (λtE h'=>tE= [some (zd T),some (d),some (.int (n:D1)),none]/\h=h') (λC hC=>⟨_,rfl,hC _ _ ⟨by show _= [some (zd T),some (d),some (.int (n:D1)),none];rw [G6,hT.len];rfl,rfl⟩⟩) ?_;rintro _ _ ⟨rfl,rfl⟩;obtain⟨nm,hn⟩:=jY pa.1;cases d with
 |tup ds=>
  cases hn;obtain⟨_,oks⟩:=yq pa.1;cases ds with
  |nil=>exact jh (λ_ _=>False) (λC hC=>⟨_,rfl,"tuple",rfl,_,rfl,jG ⟨_,rfl,sz0,⟨.tuple [],.tuple [],⟨_,rfl,rfl⟩,⟨_,rfl,rfl⟩,by decide +kernel,by decide +kernel,_,rfl,zk ⟨h,Sub.refl h,q⟩⟩⟩⟩) (λ_ _ z=>z.elim)
  |cons x r=>
  obtain⟨p,tx,sh,dp⟩:=pa.head;cases hx:zF x "shut" with
  |true=>
   have ex:=Ye hx;subst ex;refine zi [some (zd T),some (.tup (.str "shut" ::r)),some (.int (n:D1)),none] (λC hC=>⟨_,rfl,"tuple",rfl,_,rfl,jG ⟨_,rfl,sz0,PD pa ⟨_,rfl,jG ⟨_,rfl,_,at0,sz2,Yk tx sh dp ⟨_,rfl,by rw [hx];exact jG (hC)⟩⟩⟩⟩⟩) ?_;refine jh (λ_ _=>False) (λC hC=>⟨_,rfl,_,at0,_,rfl,zk ?_⟩) (λ_ _ z=>z.elim);rcases r with _|⟨y,_|⟨w,r⟩⟩
   ·exact jh (λ_ _=>False) (λC hC=>⟨_,rfl,_,rfl,zk ⟨h,Sub.refl h,q⟩⟩) (λ_ _ z=>z.elim)
   ·replace q:Q (.bl (zF (.str "shut") "shut" &&XU n T y)) h:=q
    rw [hx,X7] at q;rcases sx y rfl with ⟨S,rfl,hS⟩|bx
    ·rw [Vj hS] at q;obtain⟨r,er,rn⟩:=Jd n;have ms:=setsS_mem.mpr hS;have drp:(wA n).drop 1=r:=by rw [er];rfl
     rw [er] at ms;rcases P6.mp ms with z|ms
     ·subst z;have nm: ¬ ([]:G0 G9)∈(wA n).drop 1:=λz=>by rw [drp] at z;exact rn _ z rfl
      exact jh (λ_ _=>False) (λC hC=>⟨_,rfl,_,rfl,jG ⟨_,rfl,_,rfl,_,rfl,n,rfl,h6,λA h' kA sb=>⟨_,rfl,_,kA,λB eB=>Ma encO (as:=(wA n).drop 1) (by rw [jc,WR,WV]) λc hc=>by
       cases c with
       |true=>exact absurd (hc.mp rfl) nm
       |false=>exact⟨_,rfl,zk ⟨h,sb.newAt eB,q⟩⟩⟩⟩⟩) (λ_ _ z=>z.elim)
     ·have ne:S≠ []:=rn S ms;rw [<-drp] at ms;have p1:0<S.length:=dR.mpr ne;rw [R4 p1,X7] at q;refine jh (λtE h'=>tE= [some (zd T),some (.tup [.str "shut",zg S]),some (.int (n:D1)),none]/\Sub h h') (λC hC=>⟨_,rfl,_,rfl,jG ⟨_,rfl,_,rfl,_,rfl,n,rfl,h6,λA h' kA sb=> ?_⟩⟩) ?_
      ·exact⟨_,rfl,_,kA,λB eB=>Ma encO (as:=(wA n).drop 1) (by rw [jc,WR,WV]) λc hc=>by rw [hc.mpr ms];exact⟨_,rfl,jG ⟨_,rfl,_,rfl,_,rfl,.inl ⟨S,rfl,by have:=hS.len;omega,_,rfl,jG (hC _ _ ⟨rfl,sb.newAt eB⟩)⟩⟩⟩⟩
      rintro _ g ⟨rfl,sg⟩;refine⟨_,rfl,_,rfl,_,rfl,?_⟩;show ∃c,D.bl (decide ((((S.map λ(k:G9)=>D.int (k:D1)).length:G9):D1)<(n:D1)))= .bl c/\_;rw [G6,show decide (((S.length:G9):D1)<(n:D1))=decide (S.length<n) from by rw [H0,B7,B7];omega];cases c2:decide (S.length<n) with
      |false=>rw [c2] at q;exact⟨_,rfl,jG ⟨h,sg,q⟩⟩
      |true=>
       rw [c2] at q;refine⟨_,rfl,zk ?_⟩;exact Nz (j:=λ_=>some ((WU n T S).map λ(k:G9)=>D.int (k:D1))) (WU n T S) (λ(k:G9)=> .int (k:D1)) (λj=>decide (j∈S)) (by have:=YZ (n:=n) (T:=T) (S:=S);omega) rfl (λR r=>⟨_,rfl,_,rfl,_,rfl,T,S,n,b,rfl,hT,hS,h6,r⟩) (λj hj Q' q'=>⟨_,rfl,_,rfl,_,rfl,Ps q'⟩) ⟨h,sg,q⟩
    ·rw [Vk bx] at q;obtain⟨p2,ty,sh2,dp2⟩:=pa.second;exact jh (λ_ _=>False) (λC hC=>⟨_,rfl,_,rfl,jG ⟨_,rfl,_,rfl,_,rfl,n,rfl,h6,λA h' kA sb=>⟨_,rfl,_,kA,λB eB=>Lt (P:=(wA n).drop 1) (by rw [jc,WR,WV]) (ToP.sub (sb.newAt eB) ty) sh2 dp2 λc hc=>⟨_,rfl,by
      cases c with
      |true=>exact zk ⟨h,sb.newAt eB,q⟩
      |false=>
       rcases bx with bx|rfl
       ·cases hc bx
       ·exact jG ⟨_,rfl,_,rfl,_,rfl,.inr ⟨rfl,_,rfl,zk ⟨h,sb.newAt eB,q⟩⟩⟩⟩⟩⟩⟩) (λ_ _ z=>z.elim)
   ·rw [Bp] at q;refine jh (λ_ _=>False) (λC hC=>⟨_,rfl,_,rfl,?_⟩) (λ_ _ z=>z.elim);show if (!decide ((((D.str "shut" ::y::w::r).length:G9):D1)=2))=true then _ else _
    rw [D9 (by simp only [P8];omega)];exact zk ⟨h,Sub.refl h,q⟩
  |false=>
   cases hy:zF x "turns" with
   |false=>
    rw [Ls hx hy] at q;exact jh (λ_ _=>False) (λC hC=>⟨_,rfl,"tuple",rfl,_,rfl,jG ⟨_,rfl,sz0,PD pa ⟨_,rfl,jG ⟨_,rfl,_,at0,sz2,Yk tx sh dp ⟨_,rfl,by rw [hx,hy];exact zk ⟨h,Sub.refl h,q⟩⟩⟩⟩⟩⟩) (λ_ _ z=>z.elim)
   |true=>
    have ex:=Ye hy;subst ex;refine zi [some (zd T),some (.tup (.str "turns" ::r)),some (.int (n:D1)),none] (λC hC=>⟨_,rfl,"tuple",rfl,_,rfl,jG ⟨_,rfl,sz0,PD pa ⟨_,rfl,jG ⟨_,rfl,_,at0,sz2,Yk tx sh dp ⟨_,rfl,by rw [hx,hy];exact jG (hC)⟩⟩⟩⟩⟩) ?_;refine zi [some (zd T),some (.tup (.str "turns" ::r)),some (.int (n:D1)),none] (λC hC=>⟨_,rfl,_,at0,_,rfl,jG (hC)⟩) ?_;rcases r with _|⟨a,_|⟨y,_|⟨w,r⟩⟩⟩
    ·exact⟨_,rfl,_,rfl,jG ⟨h,Sub.refl h,q⟩⟩
    ·exact⟨_,rfl,_,rfl,jG ⟨h,Sub.refl h,q⟩⟩
    ·have q:Q (.bl (true&&(wC T n a y&&Vi a))) h:=q;refine⟨_,rfl,_,rfl,zk ⟨_,rfl,_,rfl,_,rfl,T,.tup [a,y],n,b,rfl,hT,h1,h6,WE (by show 2<=1000;decide) (λx hx=>oks x (D8 _ hx)),_,rfl,?_⟩⟩;show if wC T n a y=true then _ else _
     cases c:wC T n a y with
     |false=>rw [c] at q;exact jG ⟨h,Sub.refl h,q⟩
     |true=>
      rw [c] at q;cases a with
      |int k=>
       refine zk ⟨_,rfl,_,rfl,h,Sub.refl h,?_⟩;show Q (.bl (decide ((1:D1)<k))) h;rw [show decide ((1:D1)<k)=decide (2<=k) from by rw [H0,B7,B7];omega];exact q
      |_=>cases c
    ·refine⟨_,rfl,_,rfl,?_⟩;show if decide ((((D.str "turns" ::a::y::w::r).length:G9):D1)=3)=true then _ else _
     rw [D9 (by simp only [P8];omega)];exact jG ⟨h,Sub.refl h,q⟩
 |_=>cases hn<;>exact jh (λ_ _=>False) (λC hC=>⟨_,rfl,_,rfl,_,rfl,zk ⟨h,Sub.refl h,q⟩⟩) (λ_ _ z=>z.elim)
def oD:P2 D1->D
 |none=> .non
 |some i=> .int i
theorem Bq {b:D->SD->SD->Prop}{js:G0 G9}{ti:TID}{tt:TTD}{te:TED}{σ:SD}(x:vX b js ti tt te σ h λv h1=>Wu [v] h1 Q):dCB Wu (jZ (vX b js ti tt te) Zl) σ h Q:=x
def vQ:RDn:=λds h Q=> ∃p l fl,∃T,∃n e:G9,∃k:D1,ds= [.lst p,zd T,.int k]/\h p=some [.int l,.int fl]/\0<=l/\Sq n e T/\1<=n/\n<=6/\1<=k/\k<=7/\ ∀rs:G0 D1,∀l' h',rs.length=n->(∀r∈rs,0<=r/\r<k)->But p h h'->h' p=some [.int l',.int fl]->0<=l'->Q (zN rs) h'
theorem Ym (Z:Zs mg)(F:Fun K "_law_rests" "_law_rests" yo f fd)(jp:jq P w K mg base n "_law_draw" ["_law_pen_here","_law_many"] jP):FnOk P w K mg base CX0 (n+1) f fd ["_law_pen_here","_law_table_here","_law_d"] (LSp K vQ):=by
 refine F.okM jQ (λhr=>(js4 (jse 3 jQ (jop yW (yI (j1 DB)) (JU Z (jv 1)))) (BE (jk jp hr (j2 (jv 0) (jv 2))) (UM (jv 3) jm)) (XD O8 rfl (jrg Z (JU Z (jv 1))) (jgn 4 jQ) (jx (XD O8 rfl (Zr rfl Z.enumerate (j1 (jv 1))) (Ww (i:=5) (j:=6) rfl jQ.nd rfl rfl (K8 rfl) (K8 rfl)) (jx (XD O8 rfl (Zr rfl Z.enumerate (j1 (jv 6))) (Ww (i:=7) (j:=8) rfl jQ.nd rfl rfl (K8 rfl) (K8 rfl)) (jx (ZG (jpt (Gs (jt1 Dt (jv 8) jm) (Gs (jt1 DA (ji1 (jv 3) (jv 5)) DB) (DD (jt1 FD (ji1 (jv 3) (jv 7)) DB))))) (BE (jop wZ (jop jH (ji1 (jv 3) (jv 5)) jm) (jv 2)) (UM (jv 3) (jv 7)))))))))) (zl (ya Zn rfl Z.tuple (by decide +kernel) (j1 (jl0 9 jQ (zW (jv 3)) (λ_ _ _ _=>(jif (jt1 FD (jv 9) DB) (jk jp hr (j2 (jv 0) (jv 2))) (jv 9))))))))) ?_;rintro ds h Q ⟨p,l,fl,T,n,b,k,rfl,hp,h0,hT,h1,h6,k1,k7,q⟩;refine⟨rfl,?_⟩;have hlen:(((T.map zN).length:G9):D1)=(n:D1):=by rw [G6,hT.len]
 have kb:k<2^200:=fH k7 (by decide);refine jh (λtE h'=> ∃R,tE= [some (.lst p),some (zd T),some (.int k),some (.lst R),none,none,none,none,none,none]/\R≠p/\h R=none/\h' R=some ((S4 n (none:P2 D1)).map oD)/\h' p=some [.int l,.int fl]/\But p h h') (λC hC=>⟨sz1,λa ea=>⟨_,rfl,?_⟩⟩) ?_
 ·have lz:(((T.map zN).length:G9):D1).toNat=n:=by rw [hlen];exact gH n
  refine⟨_,jc,(show-(2^63)<=(((T.map zN).length:G9):D1) by omega),(show (((T.map zN).length:G9):D1)<2^63 by omega),?_,λR eR=>hC _ _ ⟨R,rfl,jl (je hp ea) eR,Rq (Sub.new ea) eR,?_,je (je hp ea) eR,((But.refl p h).new ea).new eR⟩⟩
  ·show 1*(((T.map zN).length:G9):D1).toNat<=sizeLine;rw [lz];exact S1 (show 1*n<=6 by omega) (by decide)
  ·show zB _ R (S4 (((T.map zN).length:G9):D1).toNat [D.non]).flatten R=_;rw [jc,lz,List.flatten_replicate_singleton,List.map_replicate];rfl
 rintro _ h2 ⟨R,rfl,nR,fR,kR,kp,bt⟩;refine jh (λtE h'=> ∃os:G0 (P2 D1),∃l1,0<=l1/\tE= [some (.lst p),some (zd T),some (.int k),some (.lst R),none,none,none,none,none,none]/\os.length=n/\(∀v,some v∈os->0<=v/\v<k)/\h' R=some (os.map oD)/\h' p=some [.int l1,.int fl]/\But p h h') (λC hC=>⟨_,rfl,_,rfl,p,l,fl,k,rfl,kp,h0,by omega,kb,λr l1 r0 r1 l10=>⟨_,rfl,R,0,_,0,rfl,rfl,jf nR kR,GK (show 0<((S4 n (none:P2 D1)).map oD).length by rw [G6,Z5];omega),hC _ _ ⟨(S4 n none).set 0 (some r),l1,l10,rfl,by rw [iK,Z5],λv hv=> ?_,by rw [jc,qB];rfl,jf (E5 nR) jc,(bt.put).putNew fR⟩⟩⟩) ?_
 ·rcases f6 hv with z|z
  ·cases (List.eq_of_mem_replicate z)
  ·injection z with z;rw [z];exact⟨r0,r1⟩
 clear kR kp bt;rintro _ h3 ⟨os,l1,l10,rfl,ol,og,kR,kp,bt⟩;refine jh (λtE h'=> ∃os:G0 (P2 D1),∃b4 b5 b6 b7 b8,tE= [some (.lst p),some (zd T),some (.int k),some (.lst R),b4,b5,b6,b7,b8,none]/\os.length=n/\(∀v,some v∈os->0<=v/\v<k)/\h' R=some (os.map oD)/\h' p=some [.int l1,.int fl]/\But p h h') (λC hC=> ?_) ?_
 ·refine Zo n (λi tE h'=> ∃os:G0 (P2 D1),∃b4 b5 b6 b7 b8,tE= [some (.lst p),some (zd T),some (.int k),some (.lst R),b4,b5,b6,b7,b8,none]/\os.length=n/\(∀v,some v∈os->0<=v/\v<k)/\h' R=some (os.map oD)/\h' p=some [.int l1,.int fl]/\But p h h') (by omega) (λR' r=>⟨_,rfl,by show R' [.int (((T.map zN).length:G9):D1)] _;rw [hlen];exact r⟩) ⟨os,_,_,_,_,_,rfl,ol,og,kR,kp,bt⟩ (λtE h' z=>hC _ _ z) ?_;clear ol og kR kp bt;rintro t _ h4 ht ⟨os,b4,b5,b6,b7,b8,rfl,ol,og,kR,kp,bt⟩;refine vx (h1:=h4) (j:=λ_=>some (YL (T.map zN))) (YL (T.map zN)) (λi tE h'=> ∃os:G0 (P2 D1),∃b5 b6 b7 b8,tE= [some (.lst p),some (zd T),some (.int k),some (.lst R),some (.int (t:D1)),b5,b6,b7,b8,none]/\os.length=n/\(∀v,some v∈os->0<=v/\v<k)/\h' R=some (os.map oD)/\h' p=some [.int l1,.int fl]/\But p h h') (λR' r=>⟨_,rfl,_,rfl,r⟩) (λ_ _ _ _=>rfl) ⟨os,_,_,_,_,rfl,ol,og,kR,kp,bt⟩ (λtE h' ⟨os,b5,b6,b7,b8,e,z⟩=>⟨_,Sub.refl _,by omega,os,_,b5,b6,b7,b8,e,z⟩) ?_;clear ol og kR kp bt;rintro i d _ h5 hd ⟨os,b5,b6,b7,b8,rfl,ol,og,kR,kp,bt⟩;have hil:=(D0.mp hd).1;obtain⟨x,hx,rfl⟩:=yE hd;rw [R9] at hx;obtain⟨r,er,rfl⟩:=A4.mp hx;have hr:=P5 er;have hi:i<n:=by rw [jE,G6,hT.len] at hil;exact hil
  refine⟨_,_,rfl,?_⟩;refine vx (h1:=h5) (j:=λ_=>some (YL (r.map D.int))) (YL (r.map D.int)) (λj tE h'=> ∃os:G0 (P2 D1),∃b7 b8,tE= [some (.lst p),some (zd T),some (.int k),some (.lst R),some (.int (t:D1)),some (.int (i:D1)),some (zN r),b7,b8,none]/\os.length=n/\(∀v,some v∈os->0<=v/\v<k)/\h' R=some (os.map oD)/\h' p=some [.int l1,.int fl]/\But p h h') (λR' r=>⟨_,rfl,_,rfl,r⟩) (λ_ _ _ _=>rfl) ⟨os,_,_,rfl,ol,og,kR,kp,bt⟩ (λtE h' ⟨os,b7,b8,e,z⟩=>⟨_,Sub.refl _,hil,os,_,_,b7,b8,e,z⟩) ?_;clear ol og kR kp bt;rintro j d _ h6' hd' ⟨os,b7,b8,rfl,ol,og,kR,kp,bt⟩;have hjl:=(D0.mp hd').1;obtain⟨x,hx',rfl⟩:=yE hd';rw [R9] at hx';obtain⟨m,em,rfl⟩:=A4.mp hx';have hj:j<n:=by rw [jE,G6,hT.row r hr] at hjl;exact hjl
  refine⟨_,_,rfl,?_⟩;have at_: ∀c (hc:c<n),atI (os.map oD) (c:D1)=some (oD (os[c]'(by omega))):=λc hc=>yQ (by rw [R9,G8 (by omega)];rfl)
  refine⟨_,rfl,_,rfl,?_⟩;show if decide ((0:D1)<m)=true then _ else _
  cases c1:decide ((0:D1)<m) with
  |false=>exact jG (jG ⟨_,Sub.refl _,hjl,os,_,_,rfl,ol,og,kR,kp,bt⟩)
  |true=>
   cases ei:os[i]'(by omega) with
   |none=>
    have ai:atI (os.map oD) (i:D1)=some (oD none):=by rw [at_ i hi,ei]
    exact zk ⟨_,rfl,_,rfl,_,_,kR,ai,_,rfl,jG (jG ⟨_,Sub.refl _,hjl,os,_,_,rfl,ol,og,kR,kp,bt⟩)⟩
   |some v=>
    have ai:atI (os.map oD) (i:D1)=some (oD (some v)):=by rw [at_ i hi,ei]
    cases ej:os[j]'(by omega) with
    |some w=>
     have aj:atI (os.map oD) (j:D1)=some (oD (some w)):=by rw [at_ j hj,ej]
     exact zk ⟨_,rfl,_,rfl,_,_,kR,ai,_,rfl,zk ⟨_,rfl,_,rfl,_,_,kR,aj,_,rfl,jG ⟨_,Sub.refl _,hjl,os,_,_,rfl,ol,og,kR,kp,bt⟩⟩⟩
    |none=>
     have aj:atI (os.map oD) (j:D1)=some (oD none):=by rw [at_ j hj,ej]
     refine zk ⟨_,rfl,_,rfl,_,_,kR,ai,_,rfl,zk ⟨_,rfl,_,rfl,_,_,kR,aj,_,rfl,zk ⟨_,rfl,_,rfl,_,_,kR,ai,_,rfl,by omega,_,rfl,_,rfl,R,(j:D1),_,j,rfl,rfl,kR,GK (by rw [G6];omega),⟨_,Sub.refl _,hjl,os.set j (some ((v+1)%k)),_,_,rfl,by rw [iK,ol],λu hu=> ?_,by rw [jc,qB];rfl,jf (E5 nR) kp,bt.putNew fR⟩⟩⟩⟩;rcases f6 hu with z|z
     ·exact og u z
     ·injection z with z;rw [z];exact⟨bM _ (by omega),bY _ (by omega)⟩
 clear ol og kR kp bt;rintro _ h4 ⟨os,b4,b5,b6,b7,b8,rfl,ol,og,kR,kp,bt⟩;refine Bq (Bf (h1:=h4) (j:=λh=>h R) (os.map oD) (λi ys h'=> ∃ (rs:G0 D1) (l1:D1),ys=rs.map D.int/\rs.length=i/\(∀r∈rs,0<=r/\r<k)/\h' R=some (os.map oD)/\h' p=some [.int l1,.int fl]/\0<=l1/\But p h h') (by rw [G6];omega) (λR' r=>⟨_,rfl,r⟩) (λ_ _ _ ⟨_,_,_,_,_,z,_⟩=>z) ⟨[],l1,rfl,rfl,(λr hr=>nomatch hr),kR,kp,l10,bt⟩ (λi ys h' ⟨rs,_,e,el,_⟩=>by rw [e,G6,el];exact P3 _) ?_ ?_)
 ·rintro i d _ h5 hd ⟨rs,l2,rfl,rl,rg,kR,kp,l20,bt⟩;have hil:=(D0.mp hd).1;rw [R9] at hd;obtain⟨o,eo,rfl⟩:=A4.mp hd;cases o with
  |none=>exact⟨_,rfl,_,rfl,zk ⟨_,rfl,_,rfl,p,l2,fl,k,rfl,kp,l20,by omega,kb,λr l3 r0 r1 l30=>⟨_,Sub.refl _,hil,rs++ [r],l3,by rw [K6];rfl,by rw [P4,rl];rfl,λx hx=>(D3.mp hx).elim (rg x) λz=>by rw [P0.mp z];exact⟨r0,r1⟩,jf nR kR,jc,l30,bt.put⟩⟩⟩
  |some v=>exact⟨_,rfl,_,rfl,jG ⟨_,rfl,_,Sub.refl _,hil,rs++ [v],l2,by rw [K6];rfl,by rw [P4,rl];rfl,λx hx=>(D3.mp hx).elim (rg x) λz=>by rw [P0.mp z];exact og v (P5 eo),kR,kp,l20,bt⟩⟩
 ·rintro _ h5 ⟨rs,l2,rfl,rl,rg,kR,kp,l20,bt⟩ X eX;rw [G6,ol] at rl;exact⟨_,jc,by rw [zC eX];exact⟨_,Sub.refl _,q rs l2 _ rl rg bt kp l20⟩⟩
theorem PF {xs:G0 D}{lo hi:P2 D1}(h:x∈yV xs lo hi):x∈xs:=B9 (C7 h)
theorem PH {xs:G0 D}{lo hi:P2 D1}:(yV xs lo hi).length<=xs.length:=by unfold yV;rw [T1,N7];omega
def okN (n:G9)(ds:G0 D):Prop:=ds.length<=n/\ ∀d∈ds,okD d=true
theorem okN.app {m:G9}{a b:G0 D}(x:okN m a)(y:okN n b):okN (m+n) (a++b):=⟨by rw [P4];have:=x.1;have:=y.1;omega,λd hd=>(D3.mp hd).elim (x.2 d) (y.2 d)⟩
theorem okN.cut {a:G0 D}(x:okN n a)(lo hi:P2 D1):okN n (yV a lo hi):=⟨S1 PH x.1,λd hd=>x.2 d (PF hd)⟩
theorem okN.one (h:okD d=true):okN 1 [d]:=⟨P3 _,λx hx=>by rw [P0.mp hx];exact h⟩
theorem okN.sz {m:G9}{a b:G0 D}(x:okN m a)(y:okN n b)(h:m+n<=1000:=by decide):a.length+b.length<=sizeLine:=R8 (jz (by have:=x.1;have:=y.1;omega))
/-- a part that can be compared -/
def Prt (k:G9)(h:HD)(y:D):Prop:=okD y=true/\ ∃p,ToP h y p/\p.canLay0=true/\p.depth<=k
theorem Ar {k:G9}: ∀ {ds:G0 D},(∀y∈ds,Prt k h y)-> ∃ps,ToPs h ds ps/\C0 ps=true/\(∀p∈ps,p.canLay0=true/\p.depth<=k)/\T6 ps<=k
 | [],_=>⟨[],rfl,rfl,(λ_ h=>nomatch h),M0 _⟩
 |y::ds,g=>by
  obtain⟨_,p,t,c,d⟩:=g y D5;obtain⟨ps,ts,cs,gs,dd⟩:=Ar λz hz=>g z (D8 _ hz)
  exact⟨p::ps,⟨y,ds,rfl,t,ts⟩,by show (p.canLay0&&C0 ps)=true;rw [c,cs];rfl,λq hq=>(P6.mp hq).elim (λe=>e ▸ ⟨c,d⟩) (gs q),Nat.max_le.mpr ⟨d,dd⟩⟩
theorem Prt.mono {k m:G9}(a:Prt k h y)(l:k<=m):Prt m h y:=let ⟨o,p,t,c,d⟩:=a;⟨o,p,t,c,S1 d l⟩
theorem Prt.tup {k:G9}{h:HD}{ds:G0 D}(l:ds.length<=1000)(g: ∀y∈ds,Prt k h y):Prt (k+1) h (.tup ds):=
 let ⟨ps,ts,cs,_,dd⟩:=Ar g
 ⟨WE l λd hd=>(g d hd).1,.tuple ps,⟨ds,rfl,ts⟩,cs,aK dd⟩
theorem Xl (c:p.canLay0=true)(d:p.depth<=64):E9 p=true:=dJ.mpr ⟨c,R4 d⟩
theorem vR {ds:G0 D}(l:ds.length<=1000)(g: ∀y∈ds,Prt 5 h y):Pap h (.tup ds):=
 ⟨WE l λd hd=>(g d hd).1,λds' e=>by
  cases e;obtain⟨ps,ts,cs,gs,dd⟩:=Ar g;exact⟨ps,ts,Xl cs (by show T6 ps+1<=64;omega),λp hp=>⟨Xl (gs p hp).1 (S1 (gs p hp).2 (by decide)),S1 (gs p hp).2 (by decide)⟩⟩⟩
theorem Pap.sub {h':HD}(a:Pap h d)(s:Sub h h'):Pap h' d:=⟨a.1,λds e=>let ⟨ps,t,r⟩:=a.2 ds e;⟨ps,by
 have:=ToP.sub s (show ToP h (.tup ds) (.tuple ps) from ⟨ds,rfl,t⟩);obtain⟨ds',e',t'⟩:=(show ∃ds',D.tup ds= .tup ds'/\ToPs h' ds' ps from this);injection e' with e'
 rw [e'];exact t',r⟩⟩
theorem wv (h:HD)(i:D1):Prt 0 h (.int i):=⟨rfl,.int i,rfl,rfl,P3 _⟩
theorem Yn (h:HD){ns:G0 D1}(l:ns.length<=1000):Prt 1 h (zN ns):= .tup (by rw [G6];exact l) λy hy=>by obtain⟨x,_,rfl⟩:=N8.mp hy;exact wv h x
theorem Yo (h:HD){S:G0 G9}(l:S.length<=1000):Prt 1 h (zg S):= .tup (by rw [G6];exact l) λy hy=>by obtain⟨x,_,rfl⟩:=N8.mp hy;exact wv h x
/-- what may stand behind 'shut' -/
def Yp (n:G9)(y:D):Prop:=(∃S,y=zg S/\IsS n S)\/Lq y
def PapX (h:HD)(n:G9)(d:D):Prop:=Pap h d/\ ∀x,d= .tup [.str "shut",x]->Yp n x
theorem PapX.sub {h':HD}(a:PapX h n d)(s:Sub h h'):PapX h' n d:=⟨a.1.sub s,a.2⟩
def Bes (n:G9)(es:G0 D):Prop:=(∃rs:G0 D1,es= [.str "turns",.int 2,zN rs]/\rs.length<=6)\/ ∃S,es= [.str "shut",zg S]/\IsS n S
theorem Xm:(B6 "turns")≠(B6 "shut"):=by decide +kernel
theorem RC {a:G9}{off:D}(al:a<es.length)(hes:Bes n es)(og: ∀S,es= [.str "shut",zg S]->IsS n S->Yp n off)(x:D)(e:D.tup (yV es none (some (a:D1))++ [off]++yV es (some ((a:D1)+1)) none)= .tup [.str "shut",x]):Yp n x:=by
 rcases hes with ⟨rs,rfl,_⟩|⟨S,rfl,iS⟩
 ·rcases a with _|_|_|a
  ·have e: [off,D.int 2,zN rs]= [.str "shut",x]:=by injection e
   injection e with _ e;injection e with _ e;cases e
  ·have e: [D.str "turns",off,zN rs]= [.str "shut",x]:=by injection e
   injection e with _ e;injection e with _ e;cases e
  ·have e: [D.str "turns",D.int 2,off]= [.str "shut",x]:=by injection e
   injection e with _ e;injection e with _ e;cases e
  ·exact absurd al (by simp only [P8,S2];omega)
 ·rcases a with _|_|a
  ·have e: [off,zg S]= [.str "shut",x]:=by injection e
   injection e with _ e;injection e with e _;exact .inl ⟨S,e.symm,iS⟩
  ·have e: [D.str "shut",off]= [.str "shut",x]:=by injection e
   injection e with _ e;injection e with e _;exact e ▸ og S rfl iS
  ·exact absurd al (by simp only [P8,S2];omega)
theorem RD {a:G9}(al:a<es.length)(hes:Bes n es)(x:D)(e:D.tup (yV es none (some (a:D1))++yV es (some ((a:D1)+1)) none)= .tup [.str "shut",x]):Yp n x:=by
 rcases hes with ⟨rs,rfl,_⟩|⟨S,rfl,iS⟩
 ·rcases a with _|_|_|a
  ·have e: [D.int 2,zN rs]= [.str "shut",x]:=by injection e
   injection e with e _;cases e
  ·have e: [D.str "turns",zN rs]= [.str "shut",x]:=by injection e
   injection e with e _;injection e with e;exact absurd e Xm
  ·have e: [D.str "turns",D.int 2]= [.str "shut",x]:=by injection e
   injection e with e _;injection e with e;exact absurd e Xm
  ·exact absurd al (by simp only [P8,S2];omega)
 ·rcases a with _|_|a
  ·have e: [zg S]= [.str "shut",x]:=by injection e
   injection e with _ e;cases e
  ·have e: [D.str "shut"]= [.str "shut",x]:=by injection e
   injection e with _ e;cases e
  ·exact absurd al (by simp only [P8,S2];omega)
theorem PJ (hes:Bes n es)(x:D)(e:D.tup (es++ [.int 0])= .tup [.str "shut",x]):Yp n x:=by
 rcases hes with ⟨rs,rfl,_⟩|⟨S,rfl,iS⟩
 ·injection e with e;injection e with _ e;injection e with _ e;cases e
 ·injection e with e;injection e with _ e;injection e with _ e;cases e
theorem PK (hes:Bes n es)(x:D)(e:D.tup (yV es (some 1) none)= .tup [.str "shut",x]):Yp n x:=by
 rcases hes with ⟨rs,rfl,_⟩|⟨S,rfl,iS⟩
 ·have e: [D.int 2,zN rs]= [.str "shut",x]:=by injection e
  injection e with e _;cases e
 ·have e: [zg S]= [.str "shut",x]:=by injection e
  injection e with _ e;cases e
theorem RE (hes:Bes n es)(x:D)(e:D.tup es.reverse= .tup [.str "shut",x]):Yp n x:=by
 rcases hes with ⟨rs,rfl,_⟩|⟨S,rfl,iS⟩
 ·have e: [zN rs,D.int 2,D.str "turns"]= [.str "shut",x]:=by injection e
  injection e with _ e;injection e with _ e;cases e
 ·have e: [zg S,D.str "shut"]= [.str "shut",x]:=by injection e
  injection e with e _;cases e
def Jt:RDn:=λds h Q=> ∃p l fl,∃es:G0 D,∃n:G9,ds= [.lst p,.tup es]/\h p=some [.int l,.int fl]/\0<=l/\1<=n/\n<=6/\((∃rs:G0 D1,es= [.str "turns",.int 2,zN rs]/\rs.length<=6)\/ ∃S,es= [.str "shut",zg S]/\IsS n S)/\ ∀x l' h',(∀X ds,X≠p->h X=some ds->PapX (jK (jK h' p) X) n x)->But p h h'->h' p=some [.int l',.int fl]->0<=l'->Q x h'
theorem Vq (Z:Zs mg)(F:Fun K "_law_bent" "_law_bent" vk f fd)(jp:jq P w K mg base n "_law_draw" ["_law_pen_here","_law_many"] jP):FnOk P w K mg base CX0 (n+1) f fd ["_law_pen_here","_law_thing"] (LSp K Jt):=by
 refine F.okM we (λhr=>(js4 (jse 2 we (jk jp hr (j2 (jv 0) (JU Z (jv 1))))) (jse 3 we (ji1 (yI (jac DB (by exact(jac jbl (by exact(jac jm (by exact(jac jm (by exact(jac (FH jm) (by exact(jac wF (by exact(jac (jR zc) (by exact(jac (yI zc) (by exact(j4 jm (jR (j1 jm)) (ji1 (jv 1) (FH jm)) wF)))))))))))))))))) (jk jp hr (j2 (jv 0) jm)))) (jse 4 we (yI (j4 (jop jH (jop jH (vy (jv 1) yb (wq (jv 2))) (jR (j1 (jv 3)))) (vy (jv 1) (wq (jop jH (jv 2) jm)) yb)) (jop jH (vy (jv 1) yb (wq (jv 2))) (vy (jv 1) (wq (jop jH (jv 2) jm)) yb)) (jop jH (jv 1) (jR (j1 jm))) (ya Np rfl Z.list (by decide +kernel) (j1 (jv 1)))))) (zl (ji1 (jop jH (jv 4) (yI (j3 (vy (jv 1) (wq jm) yb) (EO (jv 1)) (jR (j1 (jv 1)))))) (jk jp hr (j2 (jv 0) jm)))))) ?_;rintro ds h Q ⟨p,l,fl,es,n,rfl,hp,h0,n1,n6,hes,q⟩;refine⟨rfl,?_⟩;have el:2<=es.length/\es.length<=3:=by
  rcases hes with ⟨rs,rfl,_⟩|⟨S,rfl,_⟩
  ·exact⟨(show 2<=3 by decide),(show 3<=3 by decide)⟩
  ·exact⟨(show 2<=2 by decide),(show 2<=3 by decide)⟩
 have pe: ∀y∈es,∀g,Prt 1 g y:=by
  rcases hes with ⟨rs,rfl,rl⟩|⟨S,rfl,iS⟩
  ·intro y hy g;simp only [P6,S9,or_false] at hy;rcases hy with e|e|e<;>subst e
   ·exact⟨rfl,.str "turns",rfl,by decide +kernel,M0 _⟩
   ·exact(wv g 2).mono (by decide)
   ·exact Yn g (by omega)
  ·intro y hy g;simp only [P6,S9,or_false] at hy;rcases hy with e|e<;>subst e
   ·exact⟨rfl,.str "shut",rfl,by decide +kernel,M0 _⟩
   ·exact Yo g (by have:=iS.len;omega)
 refine jh (λtE h'=> ∃ (a:G9) (l1:D1),tE= [some (.lst p),some (.tup es),some (.int (a:D1)),none,none]/\a<es.length/\0<=l1/\h' p=some [.int l1,.int fl]/\But p h h') (λC hC=>⟨_,rfl,_,rfl,p,l,fl,_,rfl,hp,h0,(show 0<((es.length:G9):D1) by omega),fH (show ((es.length:G9):D1)<=3 by omega) (by decide),λa l1 a0 a1 l10=> ?_⟩) ?_
 ·obtain⟨a',rfl⟩:=Int.eq_ofNat_of_zero_le a0;exact hC _ _ ⟨a',l1,rfl,by omega,l10,jc,But.upd⟩
 rintro _ h2 ⟨a,l1,rfl,al,l10,kp,bt⟩;obtain⟨la,hla,ela⟩: ∃la,la∈es/\atI es (-1)=some la:=by
  rcases hes with ⟨rs,rfl,rl⟩|⟨S,rfl,iS⟩
  ·exact⟨zN rs,by simp,rfl⟩
  ·exact⟨zg S,by simp,rfl⟩
 refine jh (λtE h'=> ∃ (off:D) (pL:G7) (l1:D1),tE= [some (.lst p),some (.tup es),some (.int (a:D1)),some off,none]/\(∀g:HD,g pL=some []->Prt 1 g off)/\(∀S,es= [.str "shut",zg S]->IsS n S->Yp n off)/\h' pL=some []/\pL≠p/\(∀X ds,X≠p->h X=some ds->pL≠X)/\0<=l1/\h' p=some [.int l1,.int fl]/\But p h h') (λC hC=>⟨sz0,sz0,λpL eL=>⟨sz1,_,rfl,la,ela,(by show 12<=sizeLine;decide),λp1 e1=>⟨_,rfl,p,l1,fl,12,rfl,je (je kp eL) e1,l10,by decide,by decide,λr l2 r0 r1 l20=> ?_⟩⟩⟩) ?_
 ·obtain⟨d,hd,ed⟩:=yX (xs:= [D.non,D.bl true,D.int 0,D.int 1,D.int (-1),D.str "shut",D.tup [],D.lst pL,D.int 7,D.tup [D.int 0],la,D.str "turns"]) r0 r1;refine⟨_,d,jf (jl (je kp eL) e1) jc,ed,hC _ _ ⟨d,pL,l2,rfl,λg eg=> ?_,λS eS iS=> ?_,jf (jl kp eL) (je jc e1),jl kp eL,λX ds nX hX=>jl (bt.ls X ds nX hX) eL,l20,jc,((bt.new eL).new e1).put⟩⟩
  ·simp only [P6,S9,or_false] at hd;rcases hd with e|e|e|e|e|e|e|e|e|e|e|e<;>subst e
   ·exact⟨rfl,.none,rfl,rfl,M0 _⟩
   ·exact⟨rfl,.bool true,rfl,rfl,M0 _⟩
   ·exact(wv g _).mono (by decide)
   ·exact(wv g _).mono (by decide)
   ·exact(wv g _).mono (by decide)
   ·exact⟨rfl,.str "shut",rfl,by decide +kernel,M0 _⟩
   ·exact Yo g (S:= []) (by decide)
   ·exact⟨rfl,.list [],⟨pL,[],rfl,eg,rfl⟩,rfl,by decide⟩
   ·exact(wv g _).mono (by decide)
   ·exact Yo g (S:= [0]) (by decide)
   ·exact pe _ hla g
   ·exact⟨rfl,.str "turns",rfl,by decide +kernel,M0 _⟩
  ·simp only [P6,S9,or_false] at hd;rcases hd with e|e|e|e|e|e|e|e|e|e|e|e
   ·subst e;exact .inr (.inl λes z=>by cases z)
   ·subst e;exact .inr (.inl λes z=>by cases z)
   ·subst e;exact .inr (.inl λes z=>by cases z)
   ·subst e;exact .inr (.inl λes z=>by cases z)
   ·subst e;exact .inr (.inl λes z=>by cases z)
   ·subst e;exact .inr (.inl λes z=>by cases z)
   ·subst e;exact .inl ⟨[],rfl,setsS_mem.mp (by obtain⟨r,er,_⟩:=Jd n;rw [er];exact D5)⟩
   ·subst e;exact .inr (.inl λes z=>by cases z)
   ·subst e;exact .inr (.inl λes z=>by cases z)
   ·subst e;exact .inl ⟨[0],rfl,Pw (by omega)⟩
   ·subst e;rw [eS] at ela;injection ela with ela
    exact .inl ⟨S,ela.symm,iS⟩
   ·subst e;exact .inr (.inl λes z=>by cases z)
 clear kp bt l10;rintro _ h3 ⟨off,pL,l2,rfl,po,og,kL,nL,fL,l20,kp,bt⟩;have nE:okN 3 es:=⟨el.2,λd hd=>(pe d hd h).1⟩;have okO:okN 1 [off]:=okN.one (po _ (@jc h pL [])).1;have nZ:okN 1 [D.int 0]:=okN.one rfl;have mc: ∀ (lo hi:P2 D1) (g:HD),∀x∈yV es lo hi,Prt 5 g x:=λlo hi g x hx=>(pe x (PF hx) g).mono (by decide)
 have lc: ∀ (lo hi:P2 D1),(yV es lo hi).length<=3:=λlo hi=>S1 PH el.2
 refine jh (λtE h'=> ∃R xs,tE= [some (.lst p),some (.tup es),some (.int (a:D1)),some off,some (.lst R)]/\h' R=some xs/\xs.length=4/\(∀d∈xs,∀g:HD,g pL=some []->PapX g n d)/\h' pL=some []/\h' p=some [.int l2,.int fl]/\But p h h') (λC hC=> ?_) ?_
 ·refine⟨_,rfl,_,rfl,_,rfl,_,rfl,sz1,(nE.cut _ _).sz okO,_,rfl,_,rfl,_,rfl,((nE.cut _ _).app okO).sz (nE.cut _ _),_,rfl,_,rfl,_,rfl,_,rfl,_,rfl,_,rfl,(nE.cut _ _).sz (nE.cut _ _),_,rfl,sz1,nE.sz nZ,_,rfl,λp1 e1=>⟨sz4,λR eR=>hC _ _ ⟨R,_,rfl,jc,rfl,?_,je (je kL e1) eR,je (je kp e1) eR,(bt.new e1).new eR⟩⟩⟩;intro d hd g hg;have po':=po g hg;simp only [P6,S9,or_false] at hd;rcases hd with e|e|e|e<;>subst e
  ·refine⟨vR ?_ λx hx=> ?_,RC al hes og⟩
   ·have:=lc none (some (a:D1));have:=lc (some ((a:D1)+1)) none;rw [P4,P4,W3];omega
   ·rcases D3.mp hx with z|z
    ·rcases D3.mp z with z|z
     ·exact mc _ _ _ x z
     ·rw [P0.mp z];exact po'.mono (by decide)
    ·exact mc _ _ _ x z
  ·refine⟨vR ?_ λx hx=> ?_,RD al hes⟩
   ·have:=lc none (some (a:D1));have:=lc (some ((a:D1)+1)) none;rw [P4];omega
   ·exact(D3.mp hx).elim (mc _ _ _ x) (mc _ _ _ x)
  ·refine⟨vR ?_ λx hx=> ?_,PJ hes⟩
   ·rw [P4,W3];omega
   ·exact(D3.mp hx).elim (λz=>(pe x z _).mono (by decide)) λz=>by rw [P0.mp z];exact(wv _ 0).mono (by decide)
  ·exact⟨⟨rfl,λds z=>by cases z⟩,λx z=>by cases z⟩
 clear kp bt kL;rintro _ h4 ⟨R,xs,rfl,kR,lR,gR,kL,kp,bt⟩;have nR:R≠p:=λz=>by subst z;rw [kp] at kR;injection kR with kR;rw [<-kR] at lR;cases lR
 refine⟨_,rfl,_,rfl,_,rfl,_,rfl,_,rfl,_,rfl,sz1,sz3,λZ eZ=>⟨_,_,je kR eZ,jc,?_,λY eY=>⟨_,rfl,p,l2,fl,7,rfl,je (je kp eZ) eY,l20,by decide,by decide,λr l3 r0 r1 l30=> ?_⟩⟩⟩
 ·rw [lR];show 4+3<=sizeLine;decide
 obtain⟨d,hd,ed⟩:=yX (xs:=xs++ [D.tup (yV es (some 1) none),D.tup es.reverse,D.tup [D.tup es]]) r0 (by rw [P4,lR];exact r1);refine⟨_,d,jf (jl (je kp eZ) eY) jc,ed,_,Sub.refl _,q d l3 _ (λX ds nX hX=> ?_) ((bt.new eZ).new eY).put jc l30⟩;have kL':jK (jK (zB (zB (zB h4 Z [D.tup (yV es (some 1) none),D.tup es.reverse,D.tup [D.tup es]]) Y (xs++ [D.tup (yV es (some 1) none),D.tup es.reverse,D.tup [D.tup es]])) p [.int l3,.int fl]) p) X pL=some []:=jS (fL X ds nX hX) (jS nL (jf nL (je (je kL eZ) eY)));rcases D3.mp hd with z|z
 ·exact gR d z _ kL'
 ·simp only [P6,S9,or_false] at z;rcases z with e|e|e<;>subst e
  ·exact⟨vR (S1 (lc _ _) (by decide)) λx hx=>mc _ _ _ x hx,PK hes⟩
  ·exact⟨vR (by rw [M1];omega) λx hx=>(pe x (A7.mp hx) _).mono (by decide),RE hes⟩
  ·exact⟨vR (by show 1<=1000;decide) λx hx=>by rw [P0.mp hx];exact(Prt.tup (by omega) λy hy=>pe y hy _).mono (by decide),λx z=>by injection z with z;injection z with _ z;cases z⟩
theorem ZP {g:HD}{p X:G7}{v:G0 D}(b:But p g h):Sub (jK (jK g p) X) (jK (jK (zB h X v) p) X):=⟨λa ds e=>by
 have n1:=ye e;have e1:=sub_drop.ls a ds e;exact jS n1 (jS (ye e1) (jf n1 (b.ls a ds (ye e1) (sub_drop.ls a ds e1)))),b.dc⟩
theorem XX {g:HD}{p X:G7}(b:But p g h):Sub (jK (jK g p) X) (jK (jK h p) X):=⟨λa ds e=>by
 have e1:=sub_drop.ls a ds e;exact jS (ye e) (jS (ye e1) (b.ls a ds (ye e1) (sub_drop.ls a ds e1))),b.dc⟩
theorem PL {g:HD}{p Y:G7}{v:G0 D}(b:But p g h)(e:h Y=none):Sub (jK g p) (jK (jK (zB h Y v) p) Y):=⟨λa ds z=>by
 have z1:=b.ls a ds (ye z) (sub_drop.ls a ds z);have n1:a≠Y:=λw=>by rw [w,e] at z1;cases z1
 exact jS n1 (jS (ye z) (jf n1 z1)),b.dc⟩
theorem RF {p:G7}{a b c:HD}(x:But p a b)(y:Sub b c):But p a c:=⟨λd ds n e=>y.ls d ds (x.ls d ds n e),λd ds e=>y.dc d ds (x.dc d ds e)⟩
theorem Br {k:G9}{b:D->SD->SD->Prop}{js:G0 G9}{ti:TID}{tt:TTD}{te:TED}{E:EndsD}{σ:SD}(x:ti σ h λj h1=>QY k (vX b js (λ_ _ R=>R j h1) tt te) E σ h1):QY k (vX b js ti tt te) E σ h:=x
theorem Yq (c:(fU s).canLay0=true):Prt 0 h (.str s):=⟨rfl,.str s,rfl,c,P3 _⟩
theorem Xn:(fU "shut").canLay0=true:=by decide +kernel
theorem PM:(fU "turns").canLay0=true:=by decide +kernel
theorem RG:(fU "turn").canLay0=true:=by decide +kernel
theorem Ed {k:G9}(a:Prt j h x)(b:Prt k h y)(hj:j<=5)(hk:k<=5):Pap h (.tup [x,y]):=vR (by show 2<=1000;decide) λz hz=>by
 simp only [P6,S9,or_false] at hz;rcases hz with e|e<;>subst e
 ·exact a.mono hj
 ·exact b.mono hk
theorem Ee {w:D}{i k:G9}(a:Prt i h x)(b:Prt j h y)(c:Prt k h w)(hi:i<=5)(hj:j<=5)(hk:k<=5):Pap h (.tup [x,y,w]):=vR (by show 3<=1000;decide) λz hz=>by
 simp only [P6,S9,or_false] at hz;rcases hz with e|e|e<;>subst e
 ·exact a.mono hi
 ·exact b.mono hj
 ·exact c.mono hk
theorem Xo {w:D}(z:D)(e:D.tup [x,y,w]= .tup [.str "shut",z]):Yp n z:=by
 injection e with e;injection e with _ e;injection e with _ e;cases e
theorem ZQ (iS:IsS n S)(n6:n<=6):PapX h n (.tup [.str "shut",zg S]):=⟨Ed (Yq Xn) (Yo h (by have:=iS.len;omega)) (by decide) (by decide),λx e=>by
 injection e with e;injection e with _ e;injection e with e _;exact .inl ⟨S,e.symm,iS⟩⟩
theorem yG {rs:G0 D1}(l:rs.length<=1000):PapX h n (.tup [.str "turns",.int k,zN rs]):=⟨Ee (Yq PM) (wv h k) (Yn h l) (by decide) (by decide) (by decide),Xo⟩
theorem PN:PapX h n (.tup [.str "shut",.tup [.bl true]]):=⟨Ed (Yq Xn) (Prt.tup (k:=0) (by show 1<=1000;decide) λy hy=>by rw [P0.mp hy];exact⟨rfl,.bool true,rfl,rfl,P3 _⟩) (by decide) (by decide),λx e=>by
 injection e with e;injection e with _ e;injection e with e _;exact .inr (.inr e.symm)⟩
theorem PP:PapX h n (.tup [.str "turn",.int 2,.tup [.int 0]]):=⟨Ee (Yq RG) (wv h 2) (Yn h (ns:= [0]) (by decide)) (by decide) (by decide) (by decide),Xo⟩
theorem PQ: ∀ {ps:G0 C8},p∈ps->p.depth<=T6 ps
 |q::ps,h=>by
  rcases P6.mp h with e|e
  ·rw [e];exact Nat.le_max_left _ _
  ·exact S1 (PQ e) (Nat.le_max_right _ _)
theorem PR: ∀ {ps:G0 C8},C0 ps=true->p∈ps->p.canLay0=true
 |q::ps,c,h=>by
  have c:=dJ.mp c;rcases P6.mp h with e|e
  ·rw [e];exact c.1
  ·exact PR c.2 e
theorem RH (ok:okD d=true)(t:Th h d)(ns: ∀x,d≠ .tup [.str "shut",x]):PapX h n d:=⟨⟨ok,λds e=>by
 subst e;rcases t with ⟨p,tp,sb,cl⟩|⟨a,ds',e,_⟩|e
 ·cases p with
  |tuple ps=>
   obtain⟨ds',e',ts⟩:=(show ∃ds',D.tup ds= .tup ds'/\ToPs h ds' ps from tp h);injection e' with e'
   subst e';have dp:T6 ps+1<=2:=sb.dp;exact⟨ps,ts,Xl cl (by show T6 ps+1<=64;omega),λp hp=>have:=PQ hp;⟨Xl (PR cl hp) (by omega),by omega⟩⟩
  |none=>cases (show D.tup ds= .non from tp h)
  |bool b=>cases (show D.tup ds= .bl b from tp h)
  |int i=>cases (show D.tup ds= .int i from tp h)
  |str y=>cases (show D.tup ds= .str y from tp h)
  |list ps=>obtain⟨a,ds',e,_⟩:=(show ∃a ds',D.tup ds= .lst a/\h a=some ds'/\ToPs h ds' ps from tp h);cases e
  |dict kvs=>exact(show False from tp h).elim
 ·cases e
 ·cases e⟩,λx e=>absurd e (ns x)⟩
theorem PU: ∃S,IsS n S/\atI ((wA n).map zg) (-1)=some (zg S):=by
 have l1:1<=(wA n).length:=by rw [YY];exact Nat.one_le_two_pow
 have hl:(wA n).length-1<(wA n).length:=by omega
 refine⟨(wA n)[(wA n).length-1],setsS_mem.mp (L6 hl),DP (by rw [G6];exact l1) ?_⟩;rw [G6,R9,G8 hl];rfl
theorem Sc {w:Str}(q:Q (.bl false) h)(hs:E9 (.tuple [.str w])=true:=by decide +kernel):neE (.tup [.str w]) (.tup [.str w]) h Q:=by
 refine⟨.tuple [.str w],.tuple [.str w],⟨_,rfl,_,_,rfl,rfl,rfl⟩,⟨_,rfl,_,_,rfl,rfl,rfl⟩,hs,hs,?_⟩;have e:N9 (.tuple [.str w]) (.tuple [.str w])=true:=by simp [N9,aY]
 rw [e];exact q
theorem Lu (Z:Zs mg)(B:Bm mg base)(a:mE K mainGlobals "law" =some (some (.ref f)))(TX: ∃c P,gM K "law" =some (c,P)/\sD K c P=true)(F:Fun K "law" "law" Uo f fd)(vm:jq P w K mg base (n+2) "_law_same" ["_law_found","_law_due"] RZ)(Ju:jq P w K mg base (n+2) "_law_never" ["_law_table_here","_law_thing"] vP)(wN:jq P w K mg base (n+2) "never_holds" ["table","thing"] yP)(Uu:jq P w K mg base (n+2) "_law_cell" ["_law_script","_law_k"] Jr)(XZ:jq P w K mg base (n+2) "_law_pen" ["_law_cell_here"] ZN)(Uv:jq P w K mg base (n+2) "_law_size" ["_law_pen_here"] Js)(Vs:jq P w K mg base (n+2) "_law_table" ["_law_pen_here","_law_size_here"] vM)(wM:jq P w K mg base (n+2) "_law_sets" ["_law_many"] yw)(XY:jq P w K mg base (n+2) "_law_odd" ["_law_pen_here"] ZO)(Jv:jq P w K mg base (n+2) "_law_rests" ["_law_pen_here","_law_table_here","_law_d"] vQ)(Ut:jq P w K mg base (n+2) "_law_bent" ["_law_pen_here","_law_thing"] Jt)(ZR:jq P w K mg base (n+2) "_law_no_table" ["_law_pen_here"] wU)(CR_never_holds:WW P w K mg base n "never_holds" ["table","thing"] yu)(CS:Ld P w K mg base n):FnOk P w K mg base CX0 ((n+2)+1) f fd ["_law_script"] (LSp K Gj):=by
 obtain⟨gS,gdS,GS,bGS,kGS,mGS⟩:=CS;obtain⟨tc,tP,T,tH⟩:=TX;have hTK:TabK K tP:=⟨"law",by decide,tc,T⟩;refine F.okJL a T wk (λds h Q q=>by obtain⟨ns,e,hh,hns,q⟩:=q;subst e;rfl) _ (λA outer s H E hr=>(js3 (XD O8 rfl (Gu (yI (jac (jR (j2 wF (jR (j1 jm)))) (by exact(jac (jR (j2 wF (jR zc))) (by exact(j4 (jR (j3 wF jm (jR (j1 jm)))) (jR (j3 wF jm (jR (j1 jm)))) (jR (j3 wF jm (jR (j1 jm)))) (jR zc)))))))) (jgn 1 wk) (jx (ZG (wy (wI (jk vm hr (j2 (jk wN hr (j2 (jR (j1 (jR (j1 jm)))) (jv 1))) (jk Ju hr (j2 (jR (j1 (jR (j1 jm)))) (jv 1))))))) (zl jbl)))) (XD O8 rfl (Gu (jop jH (yI (j1 (jk Uu hr (j2 (jv 0) jm)))) (vy (jv 0) (wq jm) (wq jm)))) (jgn 2 wk) (jt (jse 3 wk (jk XZ hr (j1 (jv 2)))) (by exact(jt (jse 4 wk (jk Uv hr (j1 (jv 3)))) (by exact(js8 (jse 5 wk (jk Vs hr (j2 (jv 3) (jv 4)))) (FG (i:=11) (k:=6) (js:= [11]) rfl wk.nd rfl (K8 rfl) (zU (by rfl)) (zW (jk wM hr (j1 (jv 4)))) (by decide) rfl (by first|exact K8 rfl|exact aF rfl) (λX' hX=>Zp) (λX' hX=>by obtain⟨C,s₀,H₀,ex,rfl⟩:=hX;exact(jR (j2 wF (jv 11))))) (jse 6 wk (jop jH (jv 6) (yI (j3 (jk XY hr (j1 (jv 3))) (jR (j2 wF (jR (j1 jbl)))) (jR (j3 wF jm (jR (j1 jm)))))))) (XD O8 rfl (Ab rfl Z.range (j2 jm jm)) (jgn 7 wk) (jx (Gt (LB (jv 6) (jR (j3 wF (jv 7) (jk Jv hr (j3 (jv 3) (jv 5) (jv 7))))))))) (XD O8 rfl (jrg Z jm) (jgn 8 wk) (js2 (jse 1 wk (ji1 (yI (j2 (jR (j3 wF jm (jk Jv hr (j3 (jv 3) (jv 5) jm)))) (jR (j2 wF (ji1 (jk wM hr (j1 (jv 4))) (FH jm)))))) (jop wZ (jv 8) jm))) (Gt (LB (jv 6) (jk Ut hr (j2 (jv 3) (jv 1))))))) (XD O8 rfl (zW (jv 6)) (jgn 1 wk) (js2 (jse 9 wk (jk Ju hr (j2 (jv 5) (jv 1)))) (ZG (jpt (UL (wy (wI (jk vm hr (j2 (jk wN hr (j2 (jv 5) (jv 1))) (jv 9))))) (PX (wy (wI (jk vm hr (j2 (jk wN hr (j2 (jv 5) (jv 1))) (jv 9)))))))) (zl jbl)))) (jse 10 wk (jk ZR hr (j1 (jv 3)))) (ZG (jt1 (FC hr.units) (Aj GS hr rfl mGS kGS bGS B rfl tH hTK (FZ rfl (by decide +kernel)) (NU (by show La _ (jd Uo)=true;decide +kernel)) (λ_ _ _ _ _ _ _ _ _ hr=>jno) (λ_ _ _ _ _ _ _ _ _ hr=>(jxk CR_never_holds hr (j2 (jv 10) DB)))) (jR (j1 wF))) (zl jbl)))))))) (zl jbl))) ?_;intro ds h Q q;obtain⟨ns,e,hh,hns,q⟩:=q;subst e;have hA:Sq 1 3 [[(0:D1)]]:=⟨by decide,by decide,by decide,by decide⟩;refine jh (λtE h'=> ∃a,tE= [some (.scr ns),a,none,none,none,none,none,none,none,none,none,none]) (λC hC=> ?_) ?_
 ·refine⟨sz1,sz2,sz0,sz2,sz1,sz3,sz1,sz3,sz1,sz3,sz0,sz6,λp2 e2=>⟨p2,rfl,?_⟩⟩;generalize hts: [D.tup [D.str "shut",D.tup [D.int 0]],D.tup [D.str "shut",D.tup []],D.tup [D.str "turns",D.int 2,D.tup [D.int 0]],D.tup [D.str "turns",D.int 2,D.tup [D.int 1]],D.tup [D.str "turns",D.int 1,D.tup [D.int 0]],D.tup []]=ts;have good: ∀d∈ts,∀g:HD,PapX g 1 d:=λd hd g=>by
   rw [<-hts] at hd;simp only [P6,S9,or_false] at hd;rcases hd with e|e|e|e|e|e<;>subst e
   ·exact ZQ (S:= [0]) (Pw (by decide)) (by decide)
   ·exact ZQ (S:= []) (setsS_mem.mp (by obtain⟨r,er,_⟩:=Jd 1;rw [er];exact D5)) (by decide)
   ·exact yG (rs:= [0]) (by decide)
   ·exact yG (rs:= [1]) (by decide)
   ·exact yG (rs:= [0]) (by decide)
   ·exact⟨vR (by show 0<=1000;decide) (λx hx=>nomatch hx),λx z=>by cases z⟩
  refine YI ts (λi tE h'=>(∃a,tE= [some (.scr ns),a,none,none,none,none,none,none,none,none,none,none])/\h' p2=some ts) (λi tE h' z=>z.2) ⟨⟨_,rfl⟩,by rw [<-hts];exact jc⟩ (λtE h' z=>hC _ _ z.1) ?_;rintro i d _ h1 hi ⟨⟨a,rfl⟩,k2⟩;have pd:=good d (P5 hi) h1;have hil:i<ts.length:=(D0.mp hi).1;exact⟨sz1,sz1,_,rfl,[[0]],d,1,3,rfl,hA,by decide,by decide,pd.1,pd.2,sz1,sz1,_,rfl,[[0]],d,1,3,rfl,hA,by decide,by decide,pd.1,pd.2,_,_,.bool (nvB [[0]] 1 d),rfl,rfl,rfl,Ud _,_,rfl,jG ⟨_,Sub.refl _,hil,⟨_,rfl⟩,k2⟩⟩
 rintro _ h ⟨a0,rfl⟩;refine jh (λtE h'=>True) (λC hC=> ?_) (λtE h3 hV=>⟨h3,Sub.refl _,q h3⟩);refine⟨_,rfl,ns,0,rfl,(by decide),λn0=>⟨sz1,λp1 e1=>⟨_,rfl,_,rfl,_,rfl,λp2 e2=>⟨_,_,je jc e2,jc,?_,λp3 e3=>⟨p3,rfl,?_⟩⟩⟩⟩⟩
 ·have:(yV ns (some 1) (some 5)).length<=ns.length:=by unfold yV;rw [T1,N7];omega
  rw [G6];exact R8 (jz (by simp only [P8,S2];omega))
 generalize hcs:([D.int n0]++(yV ns (some 1) (some 5)).map D.int)=cs;have hint: ∀d∈cs,∃c,d= .int c:=λd hd=>by
  rw [<-hcs] at hd;rcases D3.mp hd with z|z
  ·exact⟨n0,P0.mp z⟩
  ·obtain⟨x,_,e⟩:=N8.mp z;exact⟨x,e.symm⟩
 refine YI cs (λi tE h'=> ∃a1 a2 a3 a4 a5 a6 a7 a8 a9 a10 a11,tE= [some (.scr ns),a1,a2,a3,a4,a5,a6,a7,a8,a9,a10,a11]/\h' p3=some cs) (λi tE h' ⟨_,_,_,_,_,_,_,_,_,_,_,_,k⟩=>k) ⟨_,_,_,_,_,_,_,_,_,_,_,rfl,jc⟩ (λtE h' _=>hC _ _ bP) ?_;rintro i d _ h4 hi ⟨b1,b2,b3,b4,b5,b6,b7,b8,b9,b10,b11,rfl,k3⟩;obtain⟨c,rfl⟩:=hint d (P5 hi);have hil:i<cs.length:=(D0.mp hi).1;show wE _ _ _ [some (.scr ns),b1,some (.int c),b3,b4,b5,b6,b7,b8,b9,b10,b11] h4;refine jh (λtE h'=> ∃p l fl,tE= [some (.scr ns),b1,some (.int c),some (.lst p),b4,b5,b6,b7,b8,b9,b10,b11]/\h' p=some [.int l,.int fl]/\0<=l/\h' p3=some cs/\p3≠p) (λC hC=> ?_) ?_
 ·refine⟨_,rfl,c,rfl,λp l fl ep l0 _=>hC _ _ ⟨p,l,fl,rfl,jc,l0,je k3 ep,E5 (jl k3 ep)⟩⟩
 rintro _ h5 ⟨p,l,fl,rfl,kp,l0,k3,n3⟩;refine jh (λtE h'=> ∃ (n:G9) (l2:D1),tE= [some (.scr ns),b1,some (.int c),some (.lst p),some (.int (n:D1)),b5,b6,b7,b8,b9,b10,b11]/\1<=n/\n<=6/\h' p=some [.int l2,.int fl]/\0<=l2/\h' p3=some cs) (λC hC=>⟨_,rfl,p,l,fl,rfl,kp,l0,λn l2 n1 n6 l20=>hC _ _ ⟨n,l2,rfl,n1,n6,jc,l20,jf n3 k3⟩⟩) ?_;clear kp l0 k3;rintro _ h6 ⟨n,l2,rfl,n1,n6,kp,l20,k3⟩;refine jh (λtE h'=> ∃T l2,tE= [some (.scr ns),b1,some (.int c),some (.lst p),some (.int (n:D1)),some (zd T),b6,b7,b8,b9,b10,b11]/\Sq n 20 T/\h' p=some [.int l2,.int fl]/\0<=l2/\h' p3=some cs) (λC hC=>⟨_,rfl,_,rfl,p,l2,fl,n,rfl,kp,l20,n1,n6,λT l3 gT l30=>hC _ _ ⟨T,l3,rfl,gT.sq,jc,l30,jf n3 k3⟩⟩) ?_;clear kp l20 k3;rintro _ h7 ⟨T,l2,rfl,hT,kp,l20,k3⟩;refine jh (λtE h'=> ∃X xs,tE= [some (.scr ns),b1,some (.int c),some (.lst p),some (.int (n:D1)),some (zd T),some (.lst X),b7,b8,b9,b10,b11]/\h' X=some xs/\xs.length<=64/\X≠p/\(∀d∈xs,∀g:HD,PapX g n d)/\h' p=some [.int l2,.int fl]/\0<=l2/\h' p3=some cs) (λC hC=>Br ⟨_,rfl,n,rfl,n6,λA g kA sb=>lcA (j:=λh=>h A) (wA n) zg (λS=> .tup [.str "shut",zg S]) (S1 (Xb n6) (by decide)) kA (λR r=>r) (λS hS Q' q'=>⟨_,rfl,sz2,q'⟩) λX eX=>hC _ _ ⟨X,_,rfl,jc,by rw [G6];exact Xb n6,jl (sb.ls _ _ kp) eX,λd hd g=> ?_,je (sb.ls _ _ kp) eX,l20,je (sb.ls _ _ k3) eX⟩⟩) ?_
 ·obtain⟨S,hS,rfl⟩:=N8.mp hd;exact ZQ (setsS_mem.mp hS) n6
 clear kp l20 k3;rintro _ h8 ⟨X,xs,rfl,kX,lX,nX,gX,kp,l20,k3⟩;refine jh (λtE h'=> ∃X xs l2,tE= [some (.scr ns),b1,some (.int c),some (.lst p),some (.int (n:D1)),some (zd T),some (.lst X),b7,b8,b9,b10,b11]/\h' X=some xs/\xs.length<=67/\X≠p/\p3≠X/\(∀d∈xs,PapX (jK (jK h' p) X) n d)/\h' p=some [.int l2,.int fl]/\0<=l2/\h' p3=some cs) (λC hC=>⟨_,rfl,_,rfl,p,l2,fl,rfl,kp,l20,λd1 l3 g1 o1 t1 ns1 bt1 kp1 l30=>⟨sz1,sz2,sz1,sz3,sz3,λZ eZ=>⟨_,_,je (bt1.ls _ _ nX kX) eZ,jc,?_,λY eY=>hC _ _ ⟨Y,_,l3,rfl,jc,?_,jl (je kp1 eZ) eY,E5 (jl (je (bt1.ls _ _ n3 k3) eZ) eY),λd hd=> ?_,je (je kp1 eZ) eY,l30,je (je (bt1.ls _ _ n3 k3) eZ) eY⟩⟩⟩⟩) ?_
 ·exact R8 (jz (by simp only [P8,S2];omega))
 ·rw [P4];simp only [P8,S2];omega
 ·rcases D3.mp hd with z|z
  ·exact gX d z _
  ·simp only [P6,S9,or_false] at z;rcases z with e|e|e<;>subst e
   ·exact(RH o1 t1 ns1).sub (PL ((But.refl p g1).new eZ) eY)
   ·exact PN
   ·exact PP
 clear kp l20 k3 kX lX nX gX;rintro _ h9 ⟨X,xs,l2,rfl,kX,lX,nX,nX3,gX,kp,l20,k3⟩;refine jh (λtE h'=> ∃xs b7 l2,tE= [some (.scr ns),b1,some (.int c),some (.lst p),some (.int (n:D1)),some (zd T),some (.lst X),b7,b8,b9,b10,b11]/\h' X=some xs/\xs.length<=74/\(∀d∈xs,PapX (jK (jK h' p) X) n d)/\h' p=some [.int l2,.int fl]/\0<=l2/\h' p3=some cs) (λC hC=> ?_) ?_
 ·refine DN 1 7 (λt tE h'=> ∃xs b7 l2,tE= [some (.scr ns),b1,some (.int c),some (.lst p),some (.int (n:D1)),some (zd T),some (.lst X),b7,b8,b9,b10,b11]/\h' X=some xs/\xs.length<=67+t/\(∀d∈xs,PapX (jK (jK h' p) X) n d)/\h' p=some [.int l2,.int fl]/\0<=l2/\h' p3=some cs) (by decide) (by decide) (by decide) (λR r=>r) ⟨xs,_,l2,rfl,kX,lX,gX,kp,l20,k3⟩ (λtE h' z=>hC _ _ z) ?_;clear kX lX gX kp l20 k3;rintro t _ h10 ht ⟨xs,c7,l2,rfl,kX,lX,gX,kp,l20,k3⟩;exact⟨_,rfl,X,rfl,_,rfl,_,rfl,_,rfl,_,rfl,p,l2,fl,T,n,20,1+(t:D1),rfl,kp,l20,hT,n1,n6,by omega,by omega,λrs l3 g rl rb bt kp3 l30=>⟨sz3,_,bt.ls _ _ nX kX,J7 lX (jz (by omega)),_,Sub.refl _,by omega,xs++ [_],_,l3,rfl,jc,by rw [P4];simp only [P8,S2];omega,λd hd=>(D3.mp hd).elim (λz=>(gX d z).sub (ZP bt)) λz=>by rw [P0.mp z];exact yG (by omega),jf (E5 nX) kp3,l30,jf nX3 (bt.ls _ _ n3 k3)⟩⟩
 clear kX lX gX kp l20 k3;rintro _ h10 ⟨xs,c7,l2,rfl,kX,lX,gX,kp,l20,k3⟩;refine jh (λtE h'=> ∃xs b1 b8 l2,tE= [some (.scr ns),b1,some (.int c),some (.lst p),some (.int (n:D1)),some (zd T),some (.lst X),c7,b8,b9,b10,b11]/\h' X=some xs/\xs.length<=80/\(∀d∈xs,PapX (jK (jK h' p) X) n d)/\h' p=some [.int l2,.int fl]/\0<=l2/\h' p3=some cs) (λC hC=> ?_) ?_
 ·refine Zo 6 (λt tE h'=> ∃xs b1 b8 l2,tE= [some (.scr ns),b1,some (.int c),some (.lst p),some (.int (n:D1)),some (zd T),some (.lst X),c7,b8,b9,b10,b11]/\h' X=some xs/\xs.length<=74+t/\(∀d∈xs,PapX (jK (jK h' p) X) n d)/\h' p=some [.int l2,.int fl]/\0<=l2/\h' p3=some cs) (by decide) (λR r=>r) ⟨xs,_,_,l2,rfl,kX,lX,gX,kp,l20,k3⟩ (λtE h' z=>hC _ _ z) ?_;clear kX lX gX kp l20 k3;rintro t _ h11 ht ⟨xs,c1,c8,l2,rfl,kX,lX,gX,kp,l20,k3⟩;refine jh (λtE h'=> ∃es l2,tE= [some (.scr ns),some (.tup es),some (.int c),some (.lst p),some (.int (n:D1)),some (zd T),some (.lst X),c7,some (.int (t:D1)),b9,b10,b11]/\Bes n es/\h' X=some xs/\(∀d∈xs,PapX (jK (jK h' p) X) n d)/\h' p=some [.int l2,.int fl]/\0<=l2/\h' p3=some cs) (λC hC=>⟨_,rfl,_,rfl,p,l2,fl,T,n,20,2,rfl,kp,l20,hT,n1,n6,by decide,by decide,λrs l3 g rl rb bt kp3 l30=>⟨sz3,_,rfl,n,rfl,n6,λA g2 kA sb=> ?_⟩⟩) ?_
  ·obtain⟨S,iS,eS⟩:=PU (n:=n);refine⟨_,_,kA,eS,sz2,sz2,λZ eZ=>⟨_,rfl,by decide,?_⟩⟩;have bt2:But p h11 (zB g2 Z [D.tup [.str "turns",.int 2,zN rs],D.tup [.str "shut",zg S]]):=But.new (RF bt sb) eZ;have keep: ∀es,Bes n es->C [some (.scr ns),some (.tup es),some (.int c),some (.lst p),some (.int (n:D1)),some (zd T),some (.lst X),c7,some (.int (t:D1)),b9,b10,b11] (zB g2 Z [D.tup [.str "turns",.int 2,zN rs],D.tup [.str "shut",zg S]]):=λes he=>hC _ _ ⟨es,l3,rfl,he,bt2.ls _ _ nX kX,λd hd=>(gX d hd).sub (XX bt2),je (sb.ls _ _ kp3) eZ,l30,bt2.ls _ _ n3 k3⟩
   rcases (show (t:D1)%2=0\/(t:D1)%2=1 by omega) with z|z
   ·exact⟨_,.tup [.str "turns",.int 2,zN rs],jc,by show atI _ ((t:D1)%2)=_;rw [z];rfl,keep _ (.inl ⟨rs,rfl,by omega⟩)⟩
   ·exact⟨_,.tup [.str "shut",zg S],jc,by show atI _ ((t:D1)%2)=_;rw [z];rfl,keep _ (.inr ⟨S,rfl,iS⟩)⟩
  clear kX gX kp l20 k3;rintro _ h12 ⟨es,l2,rfl,he,kX,gX,kp,l20,k3⟩;exact⟨_,rfl,X,rfl,_,rfl,_,rfl,p,l2,fl,es,n,rfl,kp,l20,n1,n6,he,λd1 l3 g px bt kp3 l30=>⟨_,bt.ls _ _ nX kX,J7 lX (jz (by omega)),_,Sub.refl _,by omega,xs++ [d1],_,_,l3,rfl,jc,by rw [P4];simp only [P8,S2];omega,λd hd=>(D3.mp hd).elim (λz=>(gX d z).sub (ZP bt)) λz=>by rw [P0.mp z];exact(px X xs nX kX).sub (ZP (But.refl p g)),jf (E5 nX) kp3,l30,jf nX3 (bt.ls _ _ n3 k3)⟩⟩
 clear kX lX gX kp l20 k3;rintro _ h11 ⟨xs,c1,c8,l2,rfl,kX,lX,gX,kp,l20,k3⟩;refine jh (λtE h'=> ∃b1 b9,tE= [some (.scr ns),b1,some (.int c),some (.lst p),some (.int (n:D1)),some (zd T),some (.lst X),c7,c8,b9,b10,b11]/\h11=h') (λC hC=> ?_) ?_
 ·refine vx (h1:=h11) (j:=λh=>h X) xs (λi tE h'=> ∃b1 b9,tE= [some (.scr ns),b1,some (.int c),some (.lst p),some (.int (n:D1)),some (zd T),some (.lst X),c7,c8,b9,b10,b11]/\h11=h') (λR r=>⟨_,rfl,r⟩) (λi tE h' ⟨_,_,_,e⟩=>e ▸ kX) ⟨_,_,rfl,rfl⟩ (λtE h' z=>hC _ _ z) ?_;rintro i d _ _ hd ⟨d1,d9,rfl,rfl⟩;have hil:=(D0.mp hd).1;have pd:=(gX d (P5 hd)).sub (sub_drop.trans sub_drop);refine zi [some (.scr ns),some d,some (.int c),some (.lst p),some (.int (n:D1)),some (zd T),some (.lst X),c7,c8,some (.bl (nvB T n d)),b10,b11] (λC hC=>⟨_,rfl,_,rfl,T,d,n,20,rfl,hT,n1,n6,pd.1,pd.2,hC⟩) ?_;exact⟨_,rfl,_,rfl,T,d,n,20,rfl,hT,n1,n6,pd.1,pd.2,_,rfl,_,_,.bool (nvB T n d),rfl,rfl,rfl,Ud _,_,rfl,jG ⟨_,rfl,_,rfl,T,d,n,20,rfl,hT,n1,n6,pd.1,pd.2,_,rfl,_,_,.bool (nvB T n d),rfl,rfl,rfl,Ud _,_,rfl,jG ⟨_,Sub.refl _,hil,_,_,rfl,rfl⟩⟩⟩
 rintro _ _ ⟨d1,d9,rfl,rfl⟩;refine jh (λtE h'=> ∃dd,tE= [some (.scr ns),d1,some (.int c),some (.lst p),some (.int (n:D1)),some (zd T),some (.lst X),c7,c8,d9,some dd,b11]/\okD dd=true/\PZ dd=false/\h' p3=some cs) (λC hC=>⟨_,rfl,p,l2,fl,rfl,kp,l20,λd l3 h' ok bad bt kp2 l30=>hC _ _ ⟨d,rfl,ok,bad,bt.ls p3 cs n3 k3⟩⟩) ?_;clear k3;rintro _ h12 ⟨dd,rfl,okd,badd,k3⟩;exact .inr ⟨_,rfl,dd,.non,rfl,okd,badd,by decide,sz1,Sc ⟨_,rfl,jG ⟨_,Sub.refl _,hil,_,_,_,_,_,_,_,_,_,_,_,rfl,k3⟩⟩⟩
end
theorem Lv {l:nB}{w:N0}{K:G2}{h:N2}{mg:Str->P2 G1}{fa:G7}(X:K.In h)(G:h.Ns mainGlobals mg)(hfa:mg "law" =some (.ref fa))
 (d0:DefIn K "is_whole" Je fu0 eu0)
 (d1:DefIn K "is_within" yZ fu1 eu1)
 (d2:DefIn K "is_place" Jf fu2 eu2)
 (d3:DefIn K "are_places" yf fu3 eu3)
 (d4:DefIn K "rises" Ul fu4 eu4)
 (d5:DefIn K "is_set" WZ fu5 eu5)
 (d6:DefIn K "is_table_row" wt fu6 eu6)
 (d7:DefIn K "has_table_form" zG fu7 eu7)
 (d8:DefIn K "want_table" wd fu8 eu8)
 (d9:DefIn K "heads" Um fu9 eu9)
 (d10:DefIn K "step_after" yh fu10 eu10)
 (d11:DefIn K "keeps_arrows" wu fu11 eu11)
 (d12:DefIn K "are_rests" va fu12 eu12)
 (d13:DefIn K "are_turns" vb fu13 eu13)
 (d14:DefIn K "shows_by_shut" zY fu14 eu14)
 (d15:DefIn K "shows_by_turns" zH fu15 eu15)
 (d16:DefIn K "never_holds" zQ fu16 eu16)
 (d17:DefIn K "_law_cell" vc fu17 eu17)
 (d18:DefIn K "_law_pen" Jh fu18 eu18)
 (d19:DefIn K "_law_draw" vd fu19 eu19)
 (d20:DefIn K "_law_whole" yj fu20 eu20)
 (d21:DefIn K "_law_odd" Ji fu21 eu21)
 (d22:DefIn K "_law_kind" vf fu22 eu22)
 (d23:DefIn K "_law_said" vg fu23 eu23)
 (d24:DefIn K "_law_same" vh fu24 eu24)
 (d25:DefIn K "_law_size" vi fu25 eu25)
 (d26:DefIn K "_law_table" yk fu26 eu26)
 (d27:DefIn K "_law_after" yl fu27 eu27)
 (d28:DefIn K "_law_sets" vj fu28 eu28)
 (d29:DefIn K "_law_no_table" zZ fu29 eu29)
 (d30:DefIn K "_law_turns" ym fu30 eu30)
 (d31:DefIn K "_law_true_set" wa fu31 eu31)
 (d32:DefIn K "_law_never" yn fu32 eu32)
 (d33:DefIn K "_law_rests" yo fu33 eu33)
 (d34:DefIn K "_law_bent" vk fu34 eu34)
 (d35:DefIn K "law" Uo fu35 eu35)
 {tk0:Tok}(v0:mE K mainGlobals "MOST_ROWS" =some (some (.int 6 tk0)))
 {tk1:Tok}(v1:mE K mainGlobals "MOST_TURNS" =some (some (.int 6 tk1)))
 (z:zsB K=true)
 (ex:Ak K=true)
 (tb0:NW K "law" =true)
 : ∃fd:S0,(∀ (s:G3) (v:G1),j0 s fd ⟨[v],[]⟩ [("_law_script",v)])/\ ∀base:N2,K.In base->base.Ns mainGlobals mg->Bm mg base->FnOk l.prog w K mg base CX0 8 fa fd ["_law_script"] (LSp K Gj):=by
 have e:=hfa.symm.trans (d35.nm X G);cases e;have vn: ∃tk,mg "MOST_ROWS" =some (.int 6 tk):=⟨_,pH X G v0⟩;have yy: ∃tk,mg "MOST_TURNS" =some (.int 6 tk):=⟨_,pH X G v1⟩;have Z:=Ao X G z;have Ex:Exc K mg:=Lc X G ex;have Lw:=NX tb0;obtain⟨_,_,kV,dc,pm,an,cd,ct,_,rfl,_⟩:=d35.fn.ex;refine⟨Q5 "law" "law" (wY Uo) (jJ Uo) (jd Uo) .none kV dc pm an cd ct,λs v=> .of_eq rfl,λbase _ _ B=> ?_⟩;have WF:=λn=>d0.cal l w base X G (Up (n:=n+0) Z d0.fn)
 have vo:=λn=>d1.cal l w base X G (Ve (n:=n+1) Z d1.fn (WF (n+0)))
 have Qe:=λn=>d2.cal l w base X G (Uq (n:=n+2) Z d2.fn (vo (n+0)))
 have VC:=λn=>d3.cal l w base X G (Yb (n:=n+3) Z d3.fn (Qe (n+0)))
 have Bx:=λn=>d4.cal l w base X G (Rr (n:=n+0) Z d4.fn)
 have RJ:=λn=>d5.cal l w base X G (Pz (n:=n+4) Z d5.fn (Bx (n+3)) (VC (n+0)))
 have Wh:=λn=>d6.cal l w base X G (ZK (n:=n+1) Z d6.fn (WF (n+0)))
 have wW:=λn=>d7.cal l w base X G (Jj (n:=n+2) Z d7.fn (Wh (n+0)) vn)
 have VE:=λn=>d8.cal l w base X G (Yc (n:=n+3) Z d8.fn (wW (n+0)))
 have VF:=λn=>d8.rai l w base X G (Wd (n:=n+3) Z Ex d8.fn (wW (n+0)))
 have Bw:=λn=>d9.cal l w base X G (Rt (n:=n+0) Z d9.fn)
 have VD:=λn=>d10.cal l w base X G (Yd (n:=n+0) Z d10.fn)
 have Wi:=λn=>d11.cal l w base X G (ZL (n:=n+1) Z d11.fn (VD (n+0)))
 have UC:=λn=>d12.cal l w base X G (Vg (n:=n+2) Z d12.fn (vo (n+0)))
 have UD:=λn=>d13.cal l w base X G (Vh (n:=n+3) Z d13.fn (UC (n+0)) (vo (n+1)) (Bw (n+2)) yy)
 have ZX:=λn=>d14.cal l w base X G (JH (n:=n+5) Z d14.fn (Wi (n+3)) (RJ (n+0)))
 have JM:=λn=>d15.cal l w base X G (Jk (n:=n+4) Z d15.fn (UD (n+0)))
 have Yr:=λn=>d16.cal l w base X G (We (n:=n+6) Z d16.fn (VE (n+2)) (ZX (n+0)) (JM (n+1)))
 have Ys:=λn=>d16.rai l w base X G (ZM (n:=n+4) Z Ex d16.fn (VF (n+0)))
 have Uz:=λn=>d17.cal l w base X G (Vl (n:=n+0) Z d17.fn)
 have Qc:=λn=>d18.cal l w base X G (Ur (n:=n+0) Z d18.fn)
 have zv:=λn=>d19.cal l w base X G (Vm (n:=n+0) Z d19.fn)
 have Jw:=λn=>d20.cal l w base X G (Yf (n:=n+0) Z d20.fn)
 have Qb:=λn=>d21.cal l w base X G (Us (n:=n+1) Z d21.fn (zv (n+0)))
 have u_kind: ∀n,GR l.prog w K mg base (n+1) "_law_kind" ["_law_e"] (GX mg):=λn=>⟨_,_,Yg (n:=n) Z Ex d22.fn,d22.fn.binds (ps:= ["_law_e"]) λ_ _ _ _ _ _ us hl=>match us,hl with| [_],_=>rfl,d22.fn.kp,d22.nm X G⟩
 have s_said: ∀n,Ld l.prog w K mg base (n+1):=λn=>⟨_,_,Bn (n:=n+1) Z Ex d23.fn (u_kind n),d23.fn.binds (ps:= ["_law_call"]) λ_ _ _ _ _ _ us hl=>match us,hl with| [_],_=>rfl,d23.fn.kp,d23.nm X G⟩
 have UA:=λn=>d24.cal l w base X G (Vn (n:=n+0) Z d24.fn)
 have UB:=λn=>d25.cal l w base X G (Vo (n:=n+1) Z d25.fn (zv (n+0)))
 have VA:=λn=>d26.cal l w base X G (Yh (n:=n+1) Z d26.fn (zv (n+0)))
 have Vx:=λn=>d27.cal l w base X G (Yi (n:=n+0) Z d27.fn)
 have ZV:=λn=>d28.cal l w base X G (Vp (n:=n+0) Z d28.fn)
 have ZU:=λn=>d29.cal l w base X G (JJ (n:=n+1) Z d29.fn (zv (n+0)))
 have VB:=λn=>d30.cal l w base X G (Yj (n:=n+1) Z d30.fn (Jw (n+0)))
 have ZW:=λn=>d31.cal l w base X G (JK (n:=n+1) Z d31.fn (Jw (n+0)))
 have Vy:=λn=>d32.cal l w base X G (Yl (n:=n+2) Z d32.fn (ZW (n+0)) (ZV (n+1)) (Vx (n+1)) (VB (n+0)))
 have Vz:=λn=>d33.cal l w base X G (Ym (n:=n+1) Z d33.fn (zv (n+0)))
 have Uy:=λn=>d34.cal l w base X G (Vq (n:=n+1) Z d34.fn (zv (n+0)))
 exact Lu (n:=5) Z B d35.at_ Lw d35.fn (UA 6) (Vy 4) (Yr 0) (Uz 6) (Qc 6) (UB 5) (VA 5) (ZV 6) (Qb 5) (Vz 5) (Uy 5) (ZU 5) (Ys 0) (s_said 4)
end My
namespace PySem.W.Fast
def tw12008646248734258309:=()
def tw8052563070889426201:=()
def tw996448520504673913:=()
def tw583719967067439438:=()
def tw14367553248432001299:=()
def tw10958264136255325395:=()
def tw11508619378318406919:=()
def tw3303266641833166699:=()
def tw11340903085167247509:=()
def tw8316553809263059688:=()
def tw11575788634341323163:=()
def tw10737952559368206914:=()
def tw18047860059460591821:=()
def tw2292914969397818644:=()
def tw3725849700495696591:=()
def tw11593113907871264704:=()
def tw18322964804753950813:=()
def tw966172175110893180:=()
def tw8297405000764564686:=()
def tw15908946368087749920:=()
def tw7657343423524737352:=()
def tw13890906829200335079:=()
def tw595581913208006856:=()
def tw14673908757965816717:=()
def tw17469581749159896839:=()
def tw3031269081407644345:=()
def tw13277086573099902434:=()
def tw13105806205744798652:=()
def tw11644814975242645397:=()
def tw11129457270623234791:=()
def tw9663531981930926278:=()
def tw15709817063920553461:=()
def tw9805685670551878257:=()
def tw17989666638014504544:=()
def tw11419186227059706507:=()
def tw1694701308872089651:=()
def tw10891067766066134610:=()
def tw5162963698113200700:=()
def tw13110958928319401913:=()
def tw5117093241440132642:=()
def tw2869956755283507725:=()
def tw6670050461429791262:=()
def tw6924289818132889195:=()
def tw17753414883836766145:=()
def tw9647379588859806693:=()
def tw18293628374609370867:=()
def tw7787439704000748881:=()
def tw14431579749820818435:=()
def tw12804938768300692942:=()
def tw6955517629696114901:=()
def tw984910785881144635:=()
def tw8031114923271985648:=()
def tw14042783933344303994:=()
def tw9201758449119656942:=()
def tw1021271191298783999:=()
def tw18220553939074872026:=()
def tw116518842047702643:=()
def tw13305966697017604867:=()
def tw8045031944608802239:=()
def tw8901198058230301283:=()
def tw11731038246165937436:=()
def tw14028851330206350817:=()
def tw10455442089756063346:=()
def tw2059957207416139845:=()
def tw15709837615095149139:=()
def tw18142985800321102701:=()
def tw12877687417539318673:=()
def tw12154594860852744979:=()
def tw5909437848570115918:=()
def tw17387181688172817861:=()
def tw18296777015716623758:=()
def tw6918944981221160014:=()
def tw5843052480626773797:=()
def tw11416923073608735920:=()
def tw11626539795764045935:=()
def tw1254446047206566150:=()
def tw9660138562422208377:=()
def tw8735351513567812784:=()
def tw6764916272572739499:=()
def tw3400591082874420121:=()
def tw5479977234324939176:=()
def tw12761877938387974547:=()
def tw6931538618346698033:=()
def tw10246206460742838712:=()
def tw10359233342992255293:=()
def tw6161985885863483945:=()
def tw14543609335204080480:=()
def tw5975480233095882648:=()
def tw1435883401199668473:=()
def tw8761690723590047063:=()
def tw3903609322249722552:=()
def tw4499300811557047732:=()
def tw15811821037551003973:=()
def tw7550349442649739409:=()
def tw15852797015610140869:=()
def tw3054826241796658350:=()
def tw16584667215631043953:=()
def tw3992649016212417087:=()
def tw7172794804078279277:=()
def tw16810602326635942120:=()
def tw9595515266939567374:=()
def tw5520295793039633374:=()
def tw3396397309881106266:=()
def tw2281532848414574540:=()
def tw15569923805573900478:=()
def tw17998431396810900277:=()
def tw6234854818028126605:=()
def tw14859941020782331807:=()
def tw16116570164789708386:=()
def tw9553609356467735119:=()
def tw12448782278498077831:=()
def tw12352843988765450452:=()
def tw16796561693079426691:=()
def tw17866850761138986816:=()
def tw11050217746759985744:=()
def tw8188789163156686657:=()
def tw696775226133973306:=()
def tw7406145706138323806:=()
def tw14213535940950321414:=()
def tw15069660282914661362:=()
def tw7712019025115027263:=()
def tw1960414702380564403:=()
def tw8933963912166248094:=()
def tw1280709303113389442:=()
def tw12524483867781800156:=()
def tw12468676813255291848:=()
def tw2223193117871894371:=()
def tw18386144304678048078:=()
def tw7630763400283450032:=()
def tw13387250314128186770:=()
def tw15235036106136761909:=()
def tw4002117319939052683:=()
def tw15256158856136676101:=()
def tw10998099334885990401:=()
def tw18288902771207718603:=()
def tw8850860878251162724:=()
def tw14851955349093273164:=()
def tw889597089069270721:=()
def tw2317672320947424193:=()
def tw17691220088049071254:=()
def tw5648990157274409015:=()
def tw1882829635347289073:=()
def tw6688947895700708218:=()
def tw18110401760272790542:=()
def tw2865529864498763547:=()
def tw18096552905345595327:=()
def tw7945009631831096:=()
def tw7561652616385239981:=()
def tw13683517676924899247:=()
def tw437001380847955896:=()
def tw14299023819066523398:=()
def tw3098657229433636440:=()
def tw17058078673820769938:=()
def tw11470378721157769933:=()
def tw13193352825726537061:=()
def tw4488187531515259710:=()
def tw3030726708271079914:=()
def tw12141992295957997267:=()
def tw5352655971890562634:=()
def tw16503655522184388368:=()
def tw15921632589147594169:=()
def tw9217991954669790144:=()
def tw6857558364085438125:=()
def tw852464937930698421:=()
def tw7386748155794254289:=()
def tw2631479420413708222:=()
def tw12373075440031829073:=()
def tw4851616056830403961:=()
def tw15369252373543444872:=()
def tw18050007368762109585:=()
def tw1228783016635379017:=()
def tw15049201071976884403:=()
def tw3260004966926405266:=()
def tw14476299039499049258:=()
def tw8024762912779224915:=()
def tw766538551890124311:=()
def tw14696519519094447295:=()
def tw9787119341596761828:=()
def tw2792639447134772214:=()
def tw8579916596147711415:=()
def tw2319298765738152702:=()
def tw17312680831819571370:=()
def tw15360234154577518421:=()
def tw6404776519836511731:=()
def tw13141281848683705623:=()
def tw4613769051424170238:=()
def tw4703161565308624311:=()
def tw6969865518894487252:=()
def tw16537667306631610699:=()
def tw14122861908123926112:=()
def tw9013117328436864157:=()
def tw5954640806646430370:=()
def tw12318905208600598006:=()
def tw8652770750528780089:=()
def tw10575968507115157680:=()
def tw10004286892146178896:=()
def tw17803637591231317939:=()
def tw17531952041506712510:=()
def tw15187732539303613984:=()
def tw2378107036345891534:=()
def tw5059070046158823375:=()
def tw5674462287669064004:=()
def tw13429129968660346177:=()
def tw8326862618340200340:=()
end PySem.W.Fast
open PySem PySem.W PyProof.Rows
set_option maxRecDepth 100000 in
set_option maxHeartbeats 0 in
theorem PySem.Challenge.cw_firstpowers_k34_papers_for_never_by_anyb_holds : PySem.Challenge.rw_firstpowers_k34_papers_for_never_by_anyb.Holds := by
  w_on; o_law; k_head; (case hw => w_witness2)
  k_fill
  refine L2.Dz (l := PySem.Challenge.rw_firstpowers_k34_papers_for_never_by_anyb) (k := 8) (x := "_law_script") rfl rfl ⟨rfl, by decide, by decide, rfl⟩ (fun w h Y => PySem.W.km_in_of Y) ?B ?F
  case B => intro w; kernel_rfl
  case F =>
    intro w mg fa h KX G hmg
    refine' My.Lv KX G hmg ?d0 ?d1 ?d2 ?d3 ?d4 ?d5 ?d6 ?d7 ?d8 ?d9 ?d10 ?d11 ?d12 ?d13 ?d14 ?d15 ?d16 ?d17 ?d18 ?d19 ?d20 ?d21 ?d22 ?d23 ?d24 ?d25 ?d26 ?d27 ?d28 ?d29 ?d30 ?d31 ?d32 ?d33 ?d34 ?d35 ?v0 ?v1 ?z ?ex ?tb0
    case d0 | d1 | d2 | d3 | d4 | d5 | d6 | d7 | d8 | d9 | d10 | d11 | d12 | d13 | d14 | d15 | d16 | d17 | d18 | d19 | d20 | d21 | d22 | d23 | d24 | d25 | d26 | d27 | d28 | d29 | d30 | d31 | d32 | d33 | d34 | d35 => refine' L2.Ln ?a ?l ?c ?k; (case a => k_is); (case l => k_is); (case c => k_is); (case k => k_is)
    case v0 | v1 => k_is
    case z | ex | tb0 => kernel_rfl
