import PyProof.Rows.All
import Wide.All
import OpenK.AllK
import Wide.FinOn
import Lean
import PyProof.EqAt
import PyProof.EqKinds
import PyProof.TupleCall
import PyProof.Rows.TopTwo
import KE.KIsAll
import PyProof.ExcAttrAll.ValueError
import KE.KTryMore
import KE.KRevIter
import PyProof.SetRoads
import PySem.Challenge.RW_firstpowers_k62_all_slowest_tables
set_option Elab.async false
set_option linter.all false
set_option maxRecDepth 100000
set_option maxHeartbeats 8000000
open _root_ renaming List->G0,Nat->G7,Int->P3,Option->D0,decide_eq_true->D7,if_pos->R0,if_neg->R7,decide_eq_false->T1,Array->M2,Bool->M6,of_decide_eq_true->N0,decide_eq_true_eq->A1,String->J6,beq_self_eq_true->Q7,decide_eq_true_iff->U2,exists_eq_left'->aP,of_decide_eq_false->cR,decide_eq_false_iff_not->dR,if_true->gH,if_false->iK,ForInStep->nW,decide_true->pG
open PySem renaming Value->G1,Shared->G2,wpAny_pure->G8,Addr->P1,starEach->D2,wpAny->R4,model->R5,foldedSetIterable->S1,SetTable->S6,Expr->S8,Program->S9,wpAny_mono->T3,FuncData->T7,Around->T9,wpAny_loadPart'->M5,compareOp->N1,World->N2,Heap->B3,wpAny_holding->B8,PyData->C7,wpAny_setState_of->C8,wpAny_call_entry->F6,eval->L4,Stmt->L6,mainGlobals->L8,wpAny_truthy_bool->O1,binaryOp->O4,rawInt->O8,backTo->O9,bootBuiltins->A5,codeAny_builtin->A8,Scope->E3,wpAny_pyIter_list->E5,cellsFrom->I0,wpAny_askSetting->J9,behindInMarks->K2,wpAny_seqItems->K4,ofAClassStatement->K6,Comprehension->Q4,plainId_quiet->Q5,codeAny->U3,wpAny_passesOwn->U9,holding->V0,wpAny_newObj_type->V1,wpAny_standAt->V7,mem_of_lookup->W0,swapsWith->W3,wpAny_callSpecial?_slot->W6,isSubtype_type->W9,letOwnedTupleGo->X8,wpAny_specialOf->Y0,searchCouldBeSeen->Y6,tupleKeyHash->aB,attributeBase->aK,assignEach->aQ,wpAny_pyIter_tuple->aS,sliceBounds->aW,Fin->aX,hashByValue->a4,Keyword->a6,assign->bI,wpAny_isInstance->bM,keywordEach->bT,compTurn->bU,richCompare->bW,wpAny_execs_nil->bY,codeAny_mono->cA,wpAny_typeOf->cB,wpAny_Call_Name_kw->cH,wpAny_tryCatch->cS,IsTupleKey->cT,wpAny_binaryOp_repeat_ref->cV,standAt->c8,CmpOp->c9,comprehension->dF,wpAny_comprehension_free->dG,lastMarks->dM,noFill_tuple_add->dO,compEnvC->dP,checkBuiltinCall->dU,builtinsNs->dZ,IsPart->eL,typeIs_int->eS,wpAny_Call_method_late->eT,richCompare_meets_room->e5,theTreesLotGoes->fC,codeAny_of_tree->fE,wpAny_updateSeq->fH,builtinLookup_eq_fast->fN,isSubtype_tuple_tuple->fP,backToKw->fW,lookup_relabel_local->fX,intBits_le_iff->f8,wpAny_letGo->gA,setAddHashedIn->gD,codeAny_call_builtin->gE,PassesOwn->gG,getItem->gI,callerA->gJ,isSubtype->gK,eqIsQuiet->gL,swapsWithSole->gR,swappedStores->gS,seq_tuple_add->gT,wpAny_newList->gW,Result->g8,wpAny_call->g9,call_meets->hJ,wpAny_rule->hO,reduceHash->hR,wpAny_pyHash_tuple->iE,name_of_addr->iH,concat_meets->iJ,wpAny_sequenceKey->iM,seqIndex_neg->iN,wpAny_pyIter_enum->iT,entryFor->iV,Setting->iW,setField->iY,wpAny_pyIter_slot->iZ,wpAny_storeSet_of->i9,wpAny_eqBool_int->j8,wpAny_execs_cons->j9,pyIter->kC,seqSlot_of->kK,wpAny_forIn_list->kL,entryFor_of_fast->kT,Model->k5,wpAny_field->k9,seqIndex_of->lA,wpAny_of_eq->lB,pushCells_keeps->lK,typeLookup_type->lQ,BindsTo->lV,sysModules->l4,wpAny_Name->l5,pyNext->l6,bindL->mB,bindC->mC,newFunctionEnv->mG,compPost->mH,entryFor_alias->mO,wpAny_newTuple->mP,carriedByValue->mT,rangeSize_one->mZ,intBits_le_64->m5,eval_ListComp->m9,wpAny_notedAt->nA,checkTypeCall->nM,setSearchFrom->nU,noteFrame->nX,Within->n6,setItem->n9,call_range_1->oA,isTrue->oB,codeAny_loop->oC,relabel->oE,callSpecial?->oJ,interactive->oW,IsRangeIter->oX,Operator->oY,sizeLine_eq->oZ,bindArgs->o3,subscripted->o4,wpAny_noted->o5,setRelay->pF,truthy->pO,wpAny_load->pP,rule->pQ,typeIs_str->pW,call->pY,closureFor->pZ,seqRepeat?->p7,preSum->p8,argsOk->p9,stored->qB,hashInt->qC,release->qD,data2->qV,Params->qW,newSet->q0
open List renaming length_map->G3,range->G6,mem_singleton->G9,getElem?_eq_getElem->P2,getElem?_map->P4,mem_append_right->P5,mem_range->P6,mem_cons_self->P8,getElem?_eq_some_iff->D3,length_append->D4,getD_eq_getElem?_getD->D5,length_range->D6,size_toArray->D8,mem_map->R1,mem_cons_of_mem->R6,mem_of_getElem?->S0,length_cons->S4,mem_cons->S5,take_add_one->T2,mem_append_left->T4,mem_append->T5,map_map->T6,replicate->T8,take_of_length_le->M1,map_congr_left->M9,length_take->N3,flatMap_cons->N6,all_eq_true->N7,mem_map_of_mem->N8,flatMap_append->B1,map_append->B6,pairwise_iff_getElem->C1,getElem_mem->C5,getElem?_range->F1,lookup_cons->F7,map_cons->F9,getElem?_append_left->H0,mem_filter->L5,nodup_cons->L7,getElem?_eq_none->L9,getElem?_set_ne->O3,getElem_range->O5,pairwise_map->A2,length_nil->A9,replicate_succ->J0,append_nil->J3,append_assoc->K5,getElem?_cons_zero->K7,nil_append->K8,not_mem_nil->Q6,getElem?_append_right->U0,length_filter_le->U4,flatten_cons->V2,length_erase_of_mem->V9,length_pos_iff->W1,cons_append->W7,getElem?_cons_succ->X0,mem_filterMap->X1,all_map->X3,length_pos_of_mem->X6,take_append_drop->Y1,mem_erase_of_ne->Y8,getElem?_of_mem->Z0,length_drop->Z4,any_eq_true->Z8,getLastD_eq_getLast?->aD,getLast?_eq_getElem?->aE,filterMap_cons->aF,map_eq_nil_iff->aG,idxOf_lt_length_iff->aM,getElem_idxOf->aT,zip_cons_cons->aU,length_eq_zero_iff->aY,map_nil->a7,getElem?_set->a8,nodup_range->bL,mem_flatMap->bO,map_flatMap->bQ,eq_nil_of_length_eq_zero->bV,drop_eq_nil_iff->bX,forIn_cons->b5,range_succ->b7,Nodup->cO,getElem?_drop->cP,length_eraseIdx_of_lt->cQ,length->dA,nodup_append->dD,getElem?_replicate->dN,take_length->dS,getElem?_set_self->eI,range_succ_eq_map->eX,length_eq_one_iff->e7,of_mem_zip->e9,length_singleton->fJ,min?_eq_some_iff->fK,countP_le_length->fL,countP_eq_length->fM,getElem?_toArray->fO,countP_pos_iff->gO,reverse_append->gP,getElem?_take->iA,find?_eq_none->iD,take_sublist->iI,ext_getElem?->i0,range'_succ->kM,ext_getElem->kN,getElem_map->kO,countP_cons->kQ,mem_reverse->kX,flatMap_nil->kY,foldl_cons->lI,sum_append->lO,idxOf_cons->lP,foldl->mE,map->mU,all_cons->nC,map_take->nG,map_drop->nH,flatMap->oQ,lookup->o6
open PySem.W renaming Frag->G4,kia_one->O7,keepIn->W4,fnOf->Z3,methodObj->cY,cellsFrom_some->eJ,instObj->e8,lookIn->fS,kitOne->fU,codeIn->fV,tabObj->fZ,tabIn->gV,mg_of->g6,kitx_list->iF,kitx_dict->iG,nsIn->j6,plainGet->kD,OpenLaw->lM,findIn->l9,CodeHd->mI,hideAll_size->oU,hideAll_none->oV,hideAll_get->pI,of_hideAll->pN,kitx_float->pR,kitx_tuple->pS,callWith_K->pT,codeRec_of->pU,ki_setBack->pX,hasDictIn->qE,plainOver->qF,specialIn->qG,kitx_none->qH,kitx_bool->qI,eq_bytes->qJ,ne_bytes->qK,kitx_int->qL,kitx_str->qM,kitx_own->qN,ki_setAt->qO,hideAll->qR,takesIn->qS,InstAt->qU,tab_of->qX,mroIn->rA,WalkO->rB
open PySem.Heap renaming get?_push_of_some->G5,lt_size->P7,get?_push_size->D9,get?_update_self->N4,SameBut->O0,size_push->W8,get?_update_ne->aH,get?_update_other->eQ
open Nat renaming le_refl->P0,ne_of_lt->R8,le_trans->S7,lt_of_lt_of_le->M0,le_of_lt->M3,lt_irrefl->M4,zero_le->B4,lt_succ_self->C4,lt_or_ge->L0,pow_succ->L1,lt_trans->O2,ne_of_gt->A6,lt_of_succ_le->E7,not_lt_zero->J5,not_lt->K0,pow_le_pow_right->K3,mod_lt->K9,add_sub_cancel'->Q0,mul_comm->Q1,lt_succ_of_lt->V4,zero_add->V5,min_le_right->W5,mul_succ->X5,div_div_eq_div_mul->X7,lt_trichotomy->Y4,succ_mul->Z5,le_of_eq->Z6,succ_pos->Z9,add_zero->aA,lt_of_le_of_lt->aR,mul_add->aZ,dvd_of_mod_eq_zero->bB,le_mul_of_pos_left->bC,pow_zero->bG,mod_eq_of_lt->bP,div_add_mod->b8,mul_le_mul->cN,add_assoc->dI,succ_le_succ->dX,add_comm->eU,mod_eq_zero_of_dvd->e6,add_mod->gB,div_one->gC,mul_le_mul_left->gQ,mul_assoc->gX,eq_zero_or_pos->iB,add_right_comm->iC,dvd_add_right->iU,le_of_succ_le->i5,sub_self->i6,le_succ_of_le->j5,le_of_not_lt->kJ,le_add_right->kS,le_succ->lC,add_mul->lF,pow_pos->lG,min_le_left->lS,mod_add_div->lT,gcd->lX,le_of_dvd->nN,mul_zero->oK,zero_mul->oO,mod_mod->pB,mul_mod->pE
open Bool renaming false_ne_true->P9,false_eq_true->M8,and_eq_true->C3,eq_iff_iff->J1,or_eq_true->X9,and_false->bE,not_true->bS,false_and->fQ,or_eq_false_iff->fY,and_true->gY,true_and->gZ,eq_false_iff->i7,not_false->mR,or_false->m8
open Array renaming length_toList->D1,getElem?_toList->N5,getElem?_eq_some_iff->F8,getElem?_eq_getElem->J8,forIn_toList->K1,getD_eq_getD_getElem?->Y5,getElem_toList->Y9,getElem?_eq_none_iff->Z1,isEmpty_eq_false_iff->cM,toList_push->dB,getElem?_eq_none->eY,replicate->fI,mem_toList_iff->fT,isEmpty_iff->iP,toList_map->kW,getD->mN,size_map->mS,toList->n8
open PySem.SetTable renaming bits->R3,below->R9,runEnd->C6,turns->C9,sizeAbove->L3,Probe->A4,insertAt->E8,advance->Q9,grown->Z2,toList_insertAt->aN,insertAt_perm->bH,slot->dJ,has->eZ,layClean->i8,fresh->mQ,fits->nO,leap->nP,laid->nQ,fill->nR,probeStart->pL,sameMemory->pM,gaveWay->qP,tooFull->qQ
open PySem.PyData renaming canLayAll0->M7,canLay0->B2,eqvAll->B5,depthAll->B7,eqv->C0,depth->A7,int->X4,hasDictAll->iR,hasDict->mM
open Option renaming map_eq_some_iff->N9,getD_some->Z7,map_eq_none_iff->bF,isSome_iff_exists->dE,getD_none->kH
open Classical renaming byContradiction->B0,em->rC
open PySem.NameKind renaming free->B9,cell->A3
open PySem.SetTable.layClean renaming free->F0
open PySem.Heap.SameBut renaming update->F3,refl->Y3,trans->qA
open Option.some renaming inj->F4,injEq->Y7
open PySem.PassesOwn renaming never->F5
open PySem.Around renaming under_plainId->O6
open Function renaming comp_apply->A0,comp_def->a9
open Or renaming inl->E1,inr->Q2
open PyProof.Rows renaming callWith_type1->E2,slot_tuple_getitem->J7,IntsAre->X2,boot_all->Y2,seqObj->b6,envOfC->cI,AllBare->cZ,subscriptTail_builtinR->eO,entry_tuple_getitem->gM,tupleItemsOf_->gU,args_tuple_getitem->hG,callWith_builtin1->kE,boot_isinstance->lL,entry_list_sort->lN,get?_update_seq->lU,IsTup->lZ,boot_range->l7,slicePart_none->mD,slot_list_sort->mK,args_list_sort->mL,printed_name->mX,printed_star->mY,subscriptTail->m7,listUpdate_at->nV,plain_sorted->oF,entry_sorted->oG,args_sorted1->oH,kind_sorted->o7,seqEpoch_at->pH,recsOf->pJ,lt_int->pK,Subscript_->pV,Call_->qT,seen->qZ
open Ne renaming symm->E4
open PySem.Obj renaming mapSeq->E6,mapFields->bR
open PySem.SetTable.probe renaming go->E9
open ForInStep renaming yield->J4,done->qY
open PySem.F renaming plain_min_loop->Q8,args_tuple_add_2->aJ,entry_tuple_add->aV,slot_tuple_add->a5,slot_int_rmul->bZ,slot_tuple_index->dH,plainAttrs_list->dQ,entry_min_loop->dW,args_int_rmul_2->iO,plain_list_iadd->i4,slot_tuple_hash->j0,entry_int_rmul->kI,fills_int_mul->lJ,slot_set_iter->lR,args_tuple_index_2->mJ,entry_tuple_index->mW,slot_list_append->nD,type_list_append->nE,plainAttrs_tuple->nJ,type_tuple_index->nK,slot_list_index->nY,type_list_index->nZ,args_tuple_lt_2->n5,entry_tuple_lt->oM,args_list_lt_2->oN,slot_tuple_lt->oR,entry_list_lt->oS,slot_list_lt->pA
open PySem.Builtin.Tuple renaming tupleItemsOf->U1,tupleHashOf->U7,tupleExact->V8,tupleIsExact->cK,tupleTooMany->cL,tupleCompareSizes->j7
open PySem.SetTable.sizeAbove renaming go->U5
open PySem.Builtin.Slice renaming slicePlaces->U6,sliceAdjust->aC,sliceApplied->cJ,slicePartIndex->lH,sliceFields->mV
open PySem.Value renaming ref->U8,int->cE,none->dY,str->gF,type->g7,isInt->kZ,bool->lY,float->oT
open PyProof.Rows.LCg renaming lst->V3
open Int renaming toNat_natCast->V6,emod_nonneg->b9,fdiv_eq_ediv_of_nonneg->cF,fmod_eq_emod_of_nonneg->cG,emod_lt_of_pos->cU,le_refl->f6,mul_nonneg->f7,lt_of_lt_of_le->hZ,mul_comm->iQ,pow_pos->lD,toNat->n4,le_of_lt->oI,ne_of_gt->oP,mul_pos->o8,pow_add->o9
open PySem.Builtin.List renaming listTooLong->aL,listLengthHint->cC,listSameRef->dL,listExtendWith->lW,listFitsIndex->mF
open Sum renaming inr->aO,inl->cX
open PySem.Builtin.SmallTypes renaming stopIteration->bA
open PySem.SetTable.below renaming go->bD
open True renaming intro->bJ
open PySem.Walks renaming list->bK,tuple->lE
open Decidable renaming byContradiction->cW
namespace L2
open PySem PySem.Spec PyProof.Rows
abbrev Key:=Sum P3 Str
def BR:Key->G1->M6
 | .inl k,v=>kZ k v
 | .inr x,v=>Value.isStrOf x v
def AI (w:N2):Key->P3
 | .inl k=>qC k
 | .inr x=>hashStr w x
theorem jJ: ∀ {k:Key} {v:G1},BR k v=true->(∃i t,k=cX i/\v=cE i t)\/(∃x t,k=aO x/\v=gF x t)
 | .inl i,v,h=>by
  obtain⟨t,e⟩:=Value.isInt_shape (k:=i) (v:=v) h;exact .inl ⟨i,t,rfl,e⟩
 | .inr x,v,h=>by
  obtain⟨t,e⟩:=Value.isStrOf_shape (x:=x) (v:=v) h;exact .inr ⟨x,t,rfl,e⟩
theorem BS (a b:P3):decide ((cX a:Key)=cX b)=(a==b):=by
 by_cases e:a=b
 ·subst e;simp
 ·have h: ¬ (cX a:Key)=cX b:=λq=>e (Sum.inl.inj q)
  rw [T1 h];exact(beq_eq_false_iff_ne.mpr e).symm
theorem BT (a b:Str):decide ((aO a:Key)=aO b)=decide (a=b):=by
 by_cases e:a=b
 ·subst e;simp
 ·have h: ¬ (aO a:Key)=aO b:=λq=>e (Sum.inr.inj q)
  rw [T1 h,T1 e]
theorem BU (a:P3)(b:Str):decide ((cX a:Key)=aO b)=false:=T1 (λq=>nomatch q)
theorem BV (a:Str)(b:P3):decide ((aO a:Key)=cX b)=false:=T1 (λq=>nomatch q)
def QN (prog:S9)(w:N2):PySem.KeyKind prog w Key where
 is:=BR
 hash:=AI w
 inj:=λv a b ha hb=>by
  rcases jJ ha with ⟨i,t,rfl,rfl⟩|⟨x,t,rfl,rfl⟩
  ·rcases jJ hb with ⟨j,u,rfl,e⟩|⟨y,u,rfl,e⟩
   ·injection e with e1 _;rw [e1]
   ·exact nomatch e
  ·rcases jJ hb with ⟨j,u,rfl,e⟩|⟨y,u,rfl,e⟩
   ·exact nomatch e
   ·injection e with e1 _;rw [e1]
 byValue:=λk v h=>by
  rcases jJ h with ⟨i,t,rfl,rfl⟩|⟨x,t,rfl,rfl⟩<;>rfl
 pyHash:=λhv h=>by
  rcases jJ hv with ⟨i,t,rfl,rfl⟩|⟨x,t,rfl,rfl⟩
  ·exact wpAny_pyHash_int h
  ·exact wpAny_pyHash_str h
 eqBool:=λhu hv h=>by
  rcases jJ hu with ⟨i,t,rfl,rfl⟩|⟨x,t,rfl,rfl⟩
  ·rcases jJ hv with ⟨j,u,rfl,rfl⟩|⟨y,u,rfl,rfl⟩
   ·rw [BS] at h;exact j8 h
   ·rw [BU] at h;exact SeqAt.EqAt.int_str i t y u _ _ _ _ h
  ·rcases jJ hv with ⟨j,u,rfl,rfl⟩|⟨y,u,rfl,rfl⟩
   ·rw [BV] at h;exact SeqAt.EqAt.str_int x t j u _ _ _ _ h
   ·rw [BT] at h;exact wpAny_eqBool_str h
 «strs» :=λk x t v h=>by
  rcases jJ h with ⟨i,u,rfl,e⟩|⟨y,u,rfl,e⟩
  ·exact nomatch e
  ·injection e with e1 _
   subst e1;cases v<;>rfl
inductive V where
 |non|bl (b:M6)|int (i:P3)|str (x:Str)|byt (b:M2 UInt8)|flt (b:UInt64)|ref (a:P1)|ty (n:J6)
 deriving DecidableEq
def RelV:V->G1->Prop
 | .non,u=>u=dY
 | .bl b,u=>u=lY b
 | .int i,u=> ∃t,u=cE i t
 | .str x,u=> ∃t,u=gF x t
 | .byt b,u=> ∃t,u=Value.bytes b t
 | .flt b,u=> ∃t,u=oT b t
 | .ref a,u=>u=U8 a
 | .ty n,u=>u=g7 n
abbrev Vals:G0 V->G0 G1->Prop:=Paired RelV
theorem Vals.length {xs:G0 V}{us:G0 G1}(r:Vals xs us):xs.length=us.length:=Paired.length r
theorem Vals.get: ∀ {xs:G0 V} {us:G0 G1} {i:G7} {x:V},Vals xs us->xs[i]? =some x-> ∃u,us[i]? =some u/\RelV x u
 |_,_,_,_,.nil,e=>by simp at e
 |_,_,0,_,.cons r _,e=>by simp at e;subst e;exact⟨_,rfl,r⟩
 |_,_,i+1,x,.cons _ t,e=>by
  obtain⟨u,h1,h2⟩:=Vals.get (i:=i) (x:=x) t (by simpa using e);exact⟨u,by simpa using h1,h2⟩
variable {u:G1}
theorem Vals.set {x:V}(r:RelV x u): ∀ {xs:G0 V} {us:G0 G1} (i:G7),Vals xs us->Vals (xs.set i x) (us.set i u)
 |_,_,_,.nil=> .nil
 |_,_,0,.cons _ t=> .cons r t
 |_,_,i+1,.cons q t=> .cons q (Vals.set r i t)
theorem Vals.append: ∀ {xs ys:G0 V} {us ws:G0 G1},Vals xs us->Vals ys ws->Vals (xs++ys) (us++ws)
 |_,_,_,_,.nil,s=>s
 |_,_,_,_,.cons r t,s=> .cons r (Vals.append t s)
theorem Vals.take: ∀ {xs:G0 V} {us:G0 G1} (n:G7),Vals xs us->Vals (xs.take n) (us.take n)
 |_,_,0,_=> .nil
 |_,_,_+1,.nil=> .nil
 |_,_,n+1,.cons r t=> .cons r (Vals.take n t)
theorem Vals.drop: ∀ {xs:G0 V} {us:G0 G1} (n:G7),Vals xs us->Vals (xs.drop n) (us.drop n)
 |_,_,0,r=>r
 |_,_,_+1,.nil=> .nil
 |_,_,n+1,.cons _ t=>Vals.drop n t
def Lr:D0 V->D0 G1->Prop
 |some v,some u=>RelV v u
 |none,none=>True
 |_,_=>False
def KV {κ:Type}:G0 (κ×V)->G0 (κ×G1)->Prop:=Paired λ(p:κ×V) (q:κ×G1)=>p.1=q.1/\RelV p.2 q.2
def kV:Key->V
 | .inl i=> .int i
 | .inr x=> .str x
inductive HO where
 /-- a list -/
 |lst (xs:G0 V)
 /-- a tuple (never changes) -/
 |tup (xs:G0 V)
 /-- a dict whose keys are ints and texts;one whose keys are tuples of ints and texts (the empty one is both) -/
 |dK (kvs:G0 (Key×V))|dT (kvs:G0 (G0 Key×V))
 /-- a set of ints: its members,its size -/
 |set (S:P3->M6) (n:G7)
 /-- an instance of the class at C,its dict at dx,its attributes -/
 |ins (C dx:P1) (fs:G0 (Str×V))
 /-- the dict of the instance at x -/
 |own (x:P1)
 /-- the dict of an exception -/
 |xd (fs:G0 (Str×V))
 /-- a bound method,f of x -/
 |met (f x:P1)
 /-- a range object lo,lo+1,.. below hi -/
 |rng (lo hi:P3)
 /-- a thing that is known to the object (the script;a dict while a loop walks it):read,never written while it is so -/
 |frz (o:Obj) (u:HO)
 /-- a code object's table -/
 |tbl (ps:M2 G1)
 /-- any other thing,by what is true of its one object (a def of one's own: SetO a S n:=HO.ext λh=> ..) -/
 |ext (φ:B3->Prop)
abbrev Hp:=P1->D0 HO
def upd (H:Hp)(a:P1)(o:HO):Hp:=λb=>if b=a then some o else H b
variable {H:Hp}{a:P1}{o:HO}
theorem jh:upd H a o a=some o:=by unfold upd;rw [R0 rfl]
variable {b:P1}
theorem jg (h:b≠a):upd H a o b=H b:=by unfold upd;rw [R7 h]
theorem XJ {u:HO}(h:H a=some o)(h':H b=some u)(d:o≠u):a≠b:=by
 intro e;subst e;rw [h] at h';exact d (F4 h')
theorem jc (h:H a=some o)(h':H b=none):a≠b:=by
 intro e;subst e;rw [h] at h';cases h'
def IsTupN (h:B3)(a:P1)(items:M2 G1):Prop:= ∃o,h.get? a=some o/\o.cls= .type "tuple" /\o.dict=none/\ ∃n,o.data= .seq items n
theorem IsTupN.tup {h:B3}{a:P1}{items:M2 G1}(x:IsTupN h a items):lZ h a items:=let ⟨o,e,c,_,n,d⟩:=x;⟨o,e,c,n,d⟩
theorem IsTupN.new (h:B3)(items:M2 G1):IsTupN (h.push {cls:= .type "tuple",data:= .seq items}) h.objs.size items:=⟨_,D9 _ rfl,rfl,rfl,_,rfl⟩
section
variable (P:S9)(w:N2)
def ObjOk (H:Hp)(h:B3)(a:P1):HO->Prop
 | .lst xs=>xs.length<=sizeLine/\ ∃ (its:G0 G1) (n:G7),Vals xs its/\h.get? a=some {cls:= .type "list",data:= .seq its.toArray n}
 | .tup xs=>xs.length<=sizeLine/\ ∃its:G0 G1,Vals xs its/\IsTupN h a its.toArray
 | .dK kvs=>kvs.length<=sizeLine/\(a==l4)=false/\ ∃vs,KV kvs vs/\h.DictOf (QN P w) a vs
 | .dT kvs=>kvs.length<=sizeLine/\(a==l4)=false/\ ∃xs:G0 (G0 Key×P1×G1),
  Paired (λ(p:G0 Key×V) (q:G0 Key×P1×G1)=>p.1=q.1/\H q.2.1=some (.tup (p.1.map kV))/\RelV p.2 q.2.2) kvs xs/\
  ∃o es ep,h.get? a=some o/\o.ExactDict/\o.data= .dict es ep/\es.toList=xs.map (entryOfKey (tupleKind (QN P w)))/\(xs.map (·.1)).Nodup
 | .set S n=>h.SetOf (intKind P w) a S n
 | .ins C dx fs=>H dx=some (.own a)/\fs.length<=1000/\dx≠a/\h.get? a=some (e8 C dx)/\
  ∃mA,h.Ns1 dx mA/\(∀f,Lr (fs.lookup f) (mA f))/\n6 mA (fs.map (·.1))
 | .own _=> ∃o,h.get? a=some o
 | .xd fs=> ∃mA,h.Ns1 a mA/\ ∀f,Lr (fs.lookup f) (mA f)
 | .rng lo hi=> ∃t u v,h.get? a=some {cls:= .type "range",data:= .fields #[.int lo t,.int hi u,.int 1 v]}
 | .frz o u=>h.get? a=some o/\ObjOk H h a u
 | .tbl ps=>h.get? a=some {cls:= .none,data:= .fields ps}
 | .met f x=>h.get? a=some (cY (.ref f) (.ref x))
 | .ext φ=>φ h/\(∃o,h.get? a=some o)/\ ∀h1 h2:B3,φ h1->(∀o,h1.get? a=some o->h2.get? a=some o)->φ h2
def HOk (H:Hp)(h:B3):Prop:= ∀a o,H a=some o->ObjOk P w H h a o
end
section
variable {P:S9}{w:N2}{H H':Hp}{h h':B3}{a:P1}{o:HO}
theorem ObjOk.lt (x:ObjOk P w H h a o):a<h.objs.size:=by
 cases o with
 |lst xs=>obtain⟨_,_,_,_,e⟩:=x;exact P7 e
 |tup xs=>obtain⟨_,_,_,p⟩:=x;exact p.tup.lt
 |dK kvs=>obtain⟨_,_,_,_,o,_,_,e,_⟩:=x;exact P7 e
 |dT kvs=>obtain⟨_,_,_,_,o,_,_,e,_⟩:=x;exact P7 e
 |set S n=>obtain⟨o,_,_,_,e,_⟩:=x;exact P7 e
 |ins C dx fs=>obtain⟨_,_,_,e,_⟩:=x;exact P7 e
 |own y=>obtain⟨_,e⟩:=x;exact P7 e
 |xd fs=>obtain⟨_,⟨_,_,_,e,_⟩,_⟩:=x;exact P7 e
 |rng lo hi=>obtain⟨_,_,_,e⟩:=x;exact P7 e
 |frz ob u=>obtain⟨e,_⟩:=x;exact P7 e
 |tbl ps=>exact P7 (show h.get? a=some _ from x)
 |met f y=>exact P7 (show h.get? a=some _ from x)
 |ext φ=>obtain⟨_,⟨_,e⟩,_⟩:=x;exact P7 e
theorem Paired.mapP {α β:Type}{F G:α->β->Prop}: ∀ {sA:G0 α} {sB:G0 β},Paired F sA sB->(∀a b,F a b->G a b)->Paired G sA sB
 |_,_,.nil,_=> .nil
 |_,_,.cons r t,f=> .cons (f _ _ r) (Paired.mapP t f)
theorem ObjOk.stay (x:ObjOk P w H h a o)(k: ∀b u,(b=a\/H b=some (.own a))->h.get? b=some u->h'.get? b=some u)
 (ho: ∀b,H b=some (.own a)->H' b=some (.own a))(ht: ∀b xs,H b=some (.tup xs)->H' b=some (.tup xs)):ObjOk P w H' h' a o:=by
 induction o with
 |lst xs=>obtain⟨z,its,n,r,e⟩:=x;exact⟨z,its,n,r,k _ _ (.inl rfl) e⟩
 |tup xs=>obtain⟨z,its,r,ob,e,c⟩:=x;exact⟨z,its,r,ob,k _ _ (.inl rfl) e,c⟩
 |dK kvs=>obtain⟨z,y,vs,r,ob,es,ep,e,c⟩:=x;exact⟨z,y,vs,r,ob,es,ep,k _ _ (.inl rfl) e,c⟩
 |dT kvs=>
  obtain⟨z,y,xs,r,ob,es,ep,e,c⟩:=x;exact⟨z,y,xs,Paired.mapP r λp q z=>⟨z.1,ht _ _ z.2.1,z.2.2⟩,ob,es,ep,k _ _ (.inl rfl) e,c⟩
 |set S n=>obtain⟨ob,es,ep,t,e,c⟩:=x;exact⟨ob,es,ep,t,k _ _ (.inl rfl) e,c⟩
 |ins C dx fs=>
  obtain⟨d,z,ne,e,mA,⟨od,es,ep,e2,c⟩,r⟩:=x;exact⟨ho _ d,z,ne,k _ _ (.inl rfl) e,mA,⟨od,es,ep,k _ _ (.inr d) e2,c⟩,r⟩
 |own y=>obtain⟨ob,e⟩:=x;exact⟨ob,k _ _ (.inl rfl) e⟩
 |xd fs=>obtain⟨mA,⟨od,es,ep,e,c⟩,r⟩:=x;exact⟨mA,⟨od,es,ep,k _ _ (.inl rfl) e,c⟩,r⟩
 |rng lo hi=>obtain⟨t,u,v,e⟩:=x;exact⟨t,u,v,k _ _ (.inl rfl) e⟩
 |frz ob u ih=>obtain⟨e,q⟩:=x;exact⟨k _ _ (.inl rfl) e,ih q⟩
 |tbl ps=>
  have e:h.get? a=some {cls:= .none,data:= .fields ps}:=x;show h'.get? a=some {cls:= .none,data:= .fields ps};exact k a _ (.inl rfl) e
 |met f y=>
  have e:h.get? a=some (cY (.ref f) (.ref y)):=x;show h'.get? a=some (cY (.ref f) (.ref y));exact k a _ (.inl rfl) e
 |ext φ=>obtain⟨p,⟨o,e⟩,st⟩:=x;exact⟨st _ _ p λo q=>k _ _ (.inl rfl) q,⟨o,k _ _ (.inl rfl) e⟩,st⟩
theorem HOk.lt (x:HOk P w H h)(e:H a=some o):a<h.objs.size:=(x a o e).lt
theorem HOk.fresh (x:HOk P w H h)(e:h.objs.size<=a):H a=none:=by
 cases q:H a with
 |none=>rfl
 |some u=>exact absurd (M0 (x.lt q) e) (M4 _)
theorem HOk.kept (x:HOk P w H h)(k: ∀b u,h.get? b=some u->h'.get? b=some u):HOk P w H h':=λa o e=>
 (x a o e).stay (λb u _ q=>k b u q) (λ_ q=>q) λ_ _ q=>q
theorem HOk.laid (x:HOk P w H h)(k: ∀b u,h.get? b=some u->h'.get? b=some u)(hp:h.objs.size<=a)(new:ObjOk P w (upd H a o) h' a o):HOk P w (upd H a o) h':=λb u e=>by
 have hn:=x.fresh hp
 by_cases hb:b=a
 ·subst hb;rw [jh] at e;cases e;exact new
 ·rw [jg hb] at e;exact(x b u e).stay (λc v _ q=>k c v q) (λc q=>by rw [jg (jc q hn)];exact q) λc xs q=>by rw [jg (jc q hn)];exact q
end
def Rd (H:Hp)(a:P1)(u:HO):Prop:=H a=some u\/ ∃o,H a=some (.frz o u)
variable {P:S9}{w:N2}{h:B3}
theorem Rd.ok {u:HO}(r:Rd H a u)(x:HOk P w H h):ObjOk P w H h a u:=by
 rcases r with r|⟨o,r⟩
 ·exact x a u r
 ·obtain⟨_,q⟩:=x a _ r;exact q
def Mut:D0 HO->Prop
 |some (.lst _)=>True
 |some (.dK _)=>True
 |some (.dT _)=>True
 |some (.set _ _)=>True
 |some (.ins _ _ _)=>True
 |some (.ext _)=>True
 |_=>False
section
variable {P:S9}{w:N2}{H:Hp}{h h':B3}{x e:P1}{o':HO}
theorem HOk.write (ok:HOk P w H h)(mu:Mut (H x))(he:e=x\/H e=some (.own x))(k: ∀b u,b≠e->h.get? b=some u->h'.get? b=some u)(heo: ∃u,h'.get? e=some u)
 (new:ObjOk P w (upd H x o') h' x o'):HOk P w (upd H x o') h':=λb u q=>by
 have nown: ∀c y,H c=some (.own y)->c≠x:=λc y r z=>by subst z;rw [r] at mu;exact mu
 have ntup: ∀c xs,H c=some (.tup xs)->c≠x:=λc xs r z=>by subst z;rw [r] at mu;exact mu
 by_cases hb:b=x
 ·subst hb;rw [jh] at q;cases q;exact new
 ·rw [jg hb] at q
  by_cases hbe:b=e
  ·have q':H b=some (.own x):=by
    rcases he with z|z
    ·exact absurd (hbe.trans z) hb
    ·rw [hbe];exact z
   rw [q] at q';cases q';obtain⟨v,hv⟩:=heo;exact⟨v,by rw [hbe];exact hv⟩
  ·refine(ok b u q).stay (λc v hc r=>k c v ?_ r) (λc r=>by rw [jg (nown c b r)];exact r) λc xs r=>by rw [jg (ntup c xs r)];exact r
   rcases hc with rfl|hc
   ·exact hbe
   ·rintro rfl;rcases he with z|z
    ·exact nown c b hc z
    ·rw [hc] at z;cases z;exact hb rfl
end
structure Un (fs ex:G0 P1)(H H':Hp)(h h':B3):Prop where
 keep: ∀b o,h.get? b=some o->H b=none->b ∉ fs->b ∉ ex->h'.get? b=some o
 slot: ∀b o,h.get? b=some o->H b=none->b∈fs->b ∉ ex-> ∃sl,h'.get? b=some {o with slots:=sl}
 free: ∀b o,h.get? b=some o->H b=none->b ∉ ex->H' b=none
 there: ∀b o,h.get? b=some o->b ∉ ex-> ∃o',h'.get? b=some o'
 tups: ∀b xs,H b=some (.tup xs)->H' b=some (.tup xs)
 frzs: ∀b o u,H b=some (.frz o u)->H' b=some (.frz o u)
 tbls: ∀b ps,H b=some (.tbl ps)-> ∃more,H' b=some (.tbl (ps++more))
section
variable {fs fs' ex ex':G0 P1}{H H1 H2:Hp}{h h1 h2 h':B3}{a x e:P1}{o:HO}
theorem Un.any (u:Un fs ex H H1 h h1){b:P1}{ob:Obj}(q:h.get? b=some ob)(n:H b=none)(hx:b ∉ ex): ∃sl,h1.get? b=some {ob with slots:=sl}:=by
 by_cases hb:b∈fs
 ·exact u.slot b ob q n hb hx
 ·exact⟨ob.slots,u.keep b ob q n hb hx⟩
theorem Un.kept (k: ∀b u,h.get? b=some u->h'.get? b=some u):Un fs ex H H h h':=
 ⟨λb ob q _ _ _=>k b ob q,λb ob q _ _ _=>⟨ob.slots,k b ob q⟩,λ_ _ _ n _=>n,λb ob q _=>⟨ob,k b ob q⟩,λ_ _ q=>q,λ_ _ _ q=>q,λ_ ps q=>⟨#[],by rw [q];simp⟩⟩
theorem Un.refl:Un fs ex H H h h:=Un.kept λ_ _ q=>q
theorem Un.laid (k: ∀b u,h.get? b=some u->h'.get? b=some u)(hp:h.objs.size<=a)(hn:H a=none):Un fs ex H (upd H a o) h h' where
 keep:=λb u q _ _ _=>k b u q
 slot:=λb u q _ _ _=>⟨u.slots,k b u q⟩
 free:=λb u q n _=>by rw [jg (R8 (M0 (P7 q) hp))];exact n
 there:=λb u q _=>⟨u,k b u q⟩
 tups:=λb xs q=>by rw [jg (jc q hn)];exact q
 frzs:=λb u xs q=>by rw [jg (jc q hn)];exact q
 tbls:=λb ps q=>⟨#[],by rw [jg (jc q hn),q];simp⟩
theorem Un.write (mu:Mut (H x))(he:e=x\/H e=some (.own x))(k: ∀b u,b≠e->h.get? b=some u->h'.get? b=some u)(heo: ∃u,h'.get? e=some u):Un fs ex H (upd H x o) h h':=by
 have hx: ∀b,H b=none->b≠x:=λb n z=>by subst z;rw [n] at mu;exact mu
 have hb: ∀b,H b=none->b≠e:=λb n z=>by
  subst z;rcases he with r|r
  ·exact hx b n r
  ·rw [n] at r;cases r
 have hm: ∀b u,H b=some u-> ¬Mut (some u)->b≠x:=λb u q nm z=>by subst z;rw [q] at mu;exact nm mu
 refine⟨λb u q n _ _=>k b u (hb b n) q,λb u q n _ _=>⟨u.slots,k b u (hb b n) q⟩,λb u q n _=>by rw [jg (hx b n)];exact n,λb u q _=> ?_,
  λb xs q=>by rw [jg (hm b _ q λz=>z)];exact q,λb u xs q=>by rw [jg (hm b _ q λz=>z)];exact q,λb ps q=>⟨#[],by rw [jg (hm b _ q λz=>z),q];simp⟩⟩
 by_cases hbe:b=e
 ·subst hbe;exact heo
 ·exact⟨u,k b u hbe q⟩
end
def trk (h:B3)(H:Hp):G0 P1:=(G6 h.objs.size).filter λa=>(H a).isSome
def DA (h:B3)(H:Hp):B3:=qR h (trk h H)
theorem QP (h:B3)(H:Hp):(DA h H).objs.size=h.objs.size:=oU _ _
theorem Wt {o:Obj}(e:h.get? b=some o)(n:H b=none):(DA h H).get? b=some o:=
 pI _ e λhm=>by
  have q:(H b).isSome=true:=(L5.mp hm).2;rw [n] at q;simp at q
theorem MI {o:Obj}(e:(DA h H).get? b=some o):h.get? b=some o/\H b=none:=by
 have e':h.get? b=some o:=pN (trk h H) e;refine⟨e',?_⟩;cases q:H b with
 |none=>rfl
 |some x=>
  have hm:b∈trk h H:=L5.mpr ⟨P6.mpr (P7 e'),by simp [q]⟩;have z:(DA h H).get? b=none:=oV (trk h H) hm;rw [z] at e;cases e
def MJ (g h:B3)(L:P1):G0 (P1×Obj):=(G6 h.objs.size).filterMap λa=>if a=L\/(g.get? a).isSome=true then none else (h.get? a).map λo=>(a,o)
def rest (g h:B3)(L d:P1):G0 (P1×Obj):=(MJ g h L).filter λp=>decide (p.1≠d)
structure Mod (K:G4)(mg:Str->D0 G1)(base:B3):Prop where
 kin:K.In base
 glob:base.Ns L8 mg
 blt: ∃mb,base.Ns dZ mb/\ ∀x:Str,x≠ "__name__" ->mb x=A5 x
 nolimit:base.NoLimit
structure Cx where
 prog:S9
 w:N2
 K:G4
 mg:Str->D0 G1
 base:B3
 A:T9
 N:G0 Str
 s₀:G2
 H₀:Hp
 env:Env
 outer:G0 Env
 stack:G0 Env
 ex:G0 P1
 fn:Str->M6
 calm:M6
 pn:G0 (P1×Obj)
 xe:G1->G2->Prop
def frs (l:G0 Env):G0 P1:=l.filterMap (·.frame)
abbrev Cx.fs (X:Cx):G0 P1:=frs X.outer
def Vis (sc:E3)(x:Str):Prop:=sc.names.lookup x=some .local\/sc.names.lookup x=some .cell\/sc.names.lookup x=some .free
def Loc (sc:E3)(x:Str):Prop:=sc.names.lookup x=some .local\/sc.names.lookup x=some .cell
def AJ (env:Env)(h:B3)(m:Str->D0 G1)(x:Str)(u:G1):Prop:=
 (env.kindOf x=some .local/\m x=some u)\/((env.kindOf x=some .cell\/env.kindOf x=some .free)/\ ∃c,env.cells.lookup x=some c/\h.IsCell c (some u))
structure Cx.Ok (X:Cx):Prop where
 mod:Mod X.K X.mg X.base
 kind:X.env.scope.kind= .function
 glob:X.env.globals=L8
 blt:X.env.builtins=dZ
 above:X.s₀.heap.objs.size<=X.env.locals
 inj: ∀x y c,X.env.cells.lookup x=some c->X.env.cells.lookup y=some c->x=y
 has: ∀x,(X.env.kindOf x=some .cell\/X.env.kindOf x=some .free)-> ∃c,X.env.cells.lookup x=some c
 cab: ∀x c,X.fn x=true->X.env.cells.lookup x=some c->X.s₀.heap.objs.size<=c
 hd:X.calm=true->X.A.handled=none
 frames:X.A.frames=some X.stack
 stk:X.stack=X.outer\/(X.stack=X.env::X.outer/\X.env.frame=some X.env.locals)
 exf: ∀b∈X.ex,b≠X.env.locals/\ ∀x c,X.env.cells.lookup x=some c->c≠b
 bs: ∀b o,X.base.get? b=some o->X.s₀.heap.get? b=some o/\X.H₀ b=none
 bsz:X.base.objs.size<=X.s₀.heap.objs.size
 noex: ∀b o,X.base.get? b=some o->b ∉ X.ex
 exfs: ∀b∈X.ex,b ∉ X.fs
 funs:X.s₀.heap.FunFrames X.base X.outer
 frf: ∀b∈X.fs,X.H₀ b=none
structure Inv (X:Cx)(pins:G0 (P1×Obj))(σ:G0 (D0 V))(H:Hp)(s:G2):Prop where
 ok:X.Ok
 os:s.os=X.s₀.os
 bare:cZ s.gens
 base:Un X.fs X.ex X.H₀ H X.s₀.heap s.heap
 loc: ∃m,s.heap.Ns X.env.locals m/\ ∀ (i:G7) (x:Str) (v:V),X.N[i]? =some x->σ[i]? =some (some v)->Vis X.env.scope x-> ∃u,RelV v u/\AJ X.env s.heap m x u
 cell: ∀x c,X.env.cells.lookup x=some c-> ∃v,s.heap.IsCell c v
 free:H X.env.locals=none
 freeC: ∀x c,X.env.cells.lookup x=some c->H c=none
 pin: ∀p∈X.pn++pins,s.heap.get? p.1=some p.2/\H p.1=none/\p.1≠X.env.locals/\p.1 ∉ X.fs/\ ∀v,p.2.data≠ .cell v
 hok:HOk X.prog X.w H s.heap
 len:σ.length=X.N.length
section
variable {X:Cx}{pins:G0 (P1×Obj)}{σ:G0 (D0 V)}{H H':Hp}{s:G2}{h':B3}
theorem Cx.Ok.nofr (ok:X.Ok){b:P1}{o:Obj}(e:X.base.get? b=some o):b ∉ X.fs:=λhb=>by
 have:=(ok.funs.mem hb).1;rw [e] at this;cases this
theorem Inv.bs (I:Inv X pins σ H s): ∀b o,X.base.get? b=some o->s.heap.get? b=some o/\H b=none:=λb o e=>
 ⟨I.base.keep b o (I.ok.bs b o e).1 (I.ok.bs b o e).2 (I.ok.nofr e) (I.ok.noex b o e),I.base.free b o (I.ok.bs b o e).1 (I.ok.bs b o e).2 (I.ok.noex b o e)⟩
theorem Inv.bk (I:Inv X pins σ H s): ∀b o,X.base.get? b=some o->s.heap.get? b=some o:=λb o e=>(I.bs b o e).1
theorem Inv.mod (I:Inv X pins σ H s):Mod X.K X.mg X.base:=I.ok.mod
theorem Inv.kIn (I:Inv X pins σ H s):X.K.In s.heap:=I.ok.mod.kin.keeps I.bk
theorem Inv.lt (I:Inv X pins σ H s):X.env.locals<s.heap.objs.size:=let ⟨_,hn,_⟩:=I.loc;hn.lt
theorem Inv.sz (I:Inv X pins σ H s):X.s₀.heap.objs.size<=s.heap.objs.size:=S7 I.ok.above (M3 I.lt)
theorem Inv.nofs (I:Inv X pins σ H s){a:P1}(h:s.heap.objs.size<=a):a ∉ X.fs:=λhb=>by
 obtain⟨_,o,ho,_⟩:=I.ok.funs.mem hb;exact absurd (M0 (P7 ho) (S7 I.sz h)) (M4 _)
theorem Inv.cne (I:Inv X pins σ H s): ∀x c,X.env.cells.lookup x=some c->c≠X.env.locals:=λx c e z=>by
 obtain⟨v,o,ho,hd⟩:=I.cell x c e;obtain⟨m,⟨o',es,ep,ho',hd',_⟩,_⟩:=I.loc;rw [z,ho'] at ho;cases ho;rw [hd'] at hd;cases hd
theorem Inv.funs (I:Inv X pins σ H s):s.heap.FunFrames X.base X.outer:=by
 have all: ∀ (l:G0 Env),(∀b∈frs l,b∈X.fs)->X.s₀.heap.FunFrames X.base l->s.heap.FunFrames X.base l:=by
  intro l
  induction l with
  |nil=>intro _ _;trivial
  |cons env r ih=>
   intro hs hl;obtain⟨hk,⟨L,o,hf,hn,ho,hd⟩,hr⟩:=hl;have hL:L∈X.fs:=hs L (by unfold frs;rw [aF,hf];exact P8);obtain⟨sl,e⟩:=I.base.slot L o ho (I.ok.frf L hL) hL λz=>I.ok.exfs L z hL
   exact⟨hk,⟨L,_,hf,hn,e,hd⟩,ih (λb hb=>hs b (by unfold frs;rw [aF,hf];exact R6 _ hb)) hr⟩
 exact all X.outer (λ_ hb=>hb) I.ok.funs
theorem Inv.stack (I:Inv X pins σ H s):s.heap.FunFrames X.base X.stack:=by
 rcases I.ok.stk with e|⟨e,hf⟩
 ·rw [e];exact I.funs
 ·rw [e];obtain⟨m,hn,_⟩:=I.loc;refine .cons (by rw [I.ok.kind];decide) hf hn ?_ I.funs;exact Heap.get?_none_of_le (S7 I.ok.bsz I.ok.above)
theorem Inv.stkSub (I:Inv X pins σ H s): ∀b∈frs X.stack,b∈X.env.locals::X.fs:=λb hb=>by
 rcases I.ok.stk with e|⟨e,hf⟩
 ·rw [e] at hb;exact R6 _ hb
 ·rw [e] at hb;unfold frs at hb;rw [aF,hf] at hb;exact hb
theorem Inv.stkFree (I:Inv X pins σ H s): ∀b∈frs X.stack,H b=none:=λb hb=>by
 rcases S5.mp (I.stkSub b hb) with e|hb
 ·rw [e];exact I.free
 ·obtain⟨_,o,ho,_⟩:=I.ok.funs.mem hb;exact I.base.free b o ho (I.ok.frf b hb) λz=>I.ok.exfs b z hb
variable {t':G7}
theorem Inv.step {g':M2 GenState}{d':Drawn}{ch:G0 P1}(I:Inv X pins σ H s)
 (hch: ∀b∈ch,(b∈X.ex\/X.s₀.heap.objs.size<=b)/\b≠X.env.locals/\(∀x c,X.env.cells.lookup x=some c->c≠b)/\ ∀p∈X.pn++pins,p.1≠b)
 (keep: ∀b o,b≠X.env.locals->b ∉ X.fs->b ∉ ch->s.heap.get? b=some o->H b=none->h'.get? b=some o)
 (slot: ∀b o,b≠X.env.locals->b∈X.fs->b ∉ ch->s.heap.get? b=some o->H b=none-> ∃sl,h'.get? b=some {o with slots:=sl})(free: ∀b o,b ∉ ch->s.heap.get? b=some o->H b=none->H' b=none)
 (there: ∀b o,b ∉ ch->s.heap.get? b=some o-> ∃o',h'.get? b=some o')
 (tups: ∀b xs,H b=some (.tup xs)->H' b=some (.tup xs))(frzs: ∀b o u,H b=some (.frz o u)->H' b=some (.frz o u))(tbls: ∀b ps,H b=some (.tbl ps)-> ∃more,H' b=some (.tbl (ps++more)))
 (ns: ∀m,s.heap.Ns X.env.locals m->h'.Ns X.env.locals m)(hok:HOk X.prog X.w H' h')(hg:cZ g'):
 Inv X pins σ H' {s with heap:=h',gens:=g',drawn:=d',toks:=t'}:=by
 have neL: ∀b o,X.s₀.heap.get? b=some o->b≠X.env.locals:=λb o e=>R8 (M0 (P7 e) I.ok.above)
 have neC: ∀b o,X.s₀.heap.get? b=some o->b ∉ X.ex->b ∉ ch:=λb o e hx hb=>by
  rcases (hch b hb).1 with z|z
  ·exact hx z
  ·exact absurd (M0 (P7 e) z) (M4 _)
 have cellK: ∀x c,X.env.cells.lookup x=some c-> ∀v,s.heap.IsCell c v->h'.IsCell c v:=λx c e v ⟨o,ho,hd⟩=>by
  have nch:c ∉ ch:=λz=>(hch c z).2.2.1 x c e rfl
  by_cases hc:c∈X.fs
  ·obtain⟨sl,q⟩:=slot c o (I.cne x c e) hc nch ho (I.freeC x c e);exact⟨_,q,hd⟩
  ·exact⟨o,keep c o (I.cne x c e) hc nch ho (I.freeC x c e),hd⟩
 refine⟨I.ok,I.os,hg,⟨λb o e n hb hx=> ?_,λb o e n hb hx=> ?_,λb o e n hx=> ?_,λb o e hx=> ?_,λb xs e=>tups b xs (I.base.tups b xs e),λb o xs e=>frzs b o xs (I.base.frzs b o xs e),λb ps e=> ?_⟩,?_,λx c e=> ?_,?_,λx c e=> ?_,λp hp=> ?_,hok,I.len⟩
 ·exact keep b o (neL b o e) hb (neC b o e hx) (I.base.keep b o e n hb hx) (I.base.free b o e n hx)
 ·obtain⟨sl,e1⟩:=I.base.slot b o e n hb hx;obtain⟨sl',e2⟩:=slot b _ (neL b o e) hb (neC b o e hx) e1 (I.base.free b o e n hx);exact⟨sl',e2⟩
 ·obtain⟨o',e1⟩:=I.base.there b o e hx;exact free b o' (neC b o e hx) e1 (I.base.free b o e n hx)
 ·obtain⟨o',e1⟩:=I.base.there b o e hx;exact there b o' (neC b o e hx) e1
 ·obtain⟨m1,e1⟩:=I.base.tbls b ps e;obtain⟨m2,e2⟩:=tbls b _ e1;exact⟨m1++m2,by rw [e2,Array.append_assoc]⟩
 ·obtain⟨m,hn,hl⟩:=I.loc;refine⟨m,ns m hn,λi x v e1 e2 e3=> ?_⟩;obtain⟨u,r,l⟩:=hl i x v e1 e2 e3;refine⟨u,r,?_⟩;rcases l with l|⟨k,c,e,z⟩
  ·exact .inl l
  ·exact .inr ⟨k,c,e,cellK x c e _ z⟩
 ·obtain⟨v,z⟩:=I.cell x c e;exact⟨v,cellK x c e v z⟩
 ·obtain⟨m,⟨o,_,_,ho,_⟩,_⟩:=I.loc;exact free _ o (λz=>(hch _ z).2.1 rfl) ho I.free
 ·obtain⟨v,o,ho,hd⟩:=I.cell x c e;exact free c o (λz=>(hch c z).2.2.1 x c e rfl) ho (I.freeC x c e)
 ·obtain⟨e,n,ne,nf,d⟩:=I.pin p hp;have nch:p.1 ∉ ch:=λz=>(hch p.1 z).2.2.2 p hp rfl
  exact⟨keep p.1 p.2 ne nf nch e n,free p.1 p.2 nch e n,ne,nf,d⟩
theorem Inv.un (I:Inv X pins σ H s)(u:Un X.fs [] H H' s.heap h')(hok:HOk X.prog X.w H' h'):Inv X pins σ H' {s with heap:=h',toks:=t'}:=by
 obtain⟨m,⟨o,es,ep,ho,r⟩,_⟩:=id I.loc;obtain⟨sl,hL⟩:=u.any ho I.free (by simp);exact I.step (g':=s.gens) (d':=s.drawn) (ch:= []) (λ_ z=>nomatch z) (λb o _ hb _ e n=>u.keep b o e n hb (by simp)) (λb o _ hb _ e n=>u.slot b o e n hb (by simp)) (λb o _ e n=>u.free b o e n (by simp)) (λb o _ e=>u.there b o e (by simp)) u.tups u.frzs u.tbls (λm' hm=>by
  obtain⟨o',es',ep',ho',r'⟩:=hm;rw [ho] at ho';cases ho';exact⟨_,es',ep',hL,r'⟩) hok I.bare
theorem Inv.call {g':M2 GenState}{d':Drawn}{ch:G0 P1}(I:Inv X pins σ H s)(u:Un (frs X.stack) ch H H' s.heap h')(hok:HOk X.prog X.w H' h')(hg:cZ g')
 (hch: ∀b∈ch,(b∈X.ex\/X.s₀.heap.objs.size<=b)/\b≠X.env.locals/\(∀x c,X.env.cells.lookup x=some c->c≠b)/\ ∀p∈X.pn++pins,p.1≠b):
 Inv X pins σ H' {s with heap:=h',gens:=g',drawn:=d',toks:=t'}:=by
 obtain⟨m,⟨o,es,ep,ho,r⟩,_⟩:=id I.loc;obtain⟨sl,hL⟩:=u.any ho I.free λz=>(hch _ z).2.1 rfl
 exact I.step (ch:=ch) hch (λb o hL hb hc e n=>u.keep b o e n (λz=>(S5.mp (I.stkSub b z)).elim hL hb) hc) (λb o _ _ hc e n=>u.any e n hc) (λb o hc e n=>u.free b o e n hc) (λb o hc e=>u.there b o e hc) u.tups u.frzs u.tbls (λm' hm=>by
  obtain⟨o',es',ep',ho',r'⟩:=hm;rw [ho] at ho';cases ho';exact⟨_,es',ep',hL,r'⟩) hok hg
theorem Inv.turned {it:P1}(I:Inv X pins σ H s)(k: ∀b o,b≠it->s.heap.get? b=some o->h'.get? b=some o)(hn:H it=none)(hL:it≠X.env.locals)
 (h1:it∈X.ex\/X.s₀.heap.objs.size<=it)(h2: ∀x c,X.env.cells.lookup x=some c->c≠it)(h3: ∀p∈X.pn++pins,p.1≠it):Inv X pins σ H {s with heap:=h',toks:=t'}:=by
 have nit: ∀b u,H b=some u->b≠it:=λb u e z=>by rw [z,hn] at e;cases e
 refine I.step (g':=s.gens) (d':=s.drawn) (ch:= [it]) (λb hb=> ?_) (λb o _ _ hc e _=>k b o (λz=>hc (by simp [z])) e) (λb o _ _ hc e _=>⟨o.slots,k b o (λz=>hc (by simp [z])) e⟩) (λ_ _ _ _ n=>n)
  (λb o hc e=>⟨o,k b o (λz=>hc (by simp [z])) e⟩) (λ_ _ e=>e) (λ_ _ _ e=>e) (λb ps e=>⟨#[],by rw [e];simp⟩) (λm hm=> ?_) (λb u e=> ?_) I.bare
 ·have e:b=it:=by simpa using hb
  subst e;exact⟨h1,hL,h2,h3⟩
 ·obtain⟨o,es,ep,ho,r⟩:=hm;exact⟨o,es,ep,k _ o (E4 hL) ho,r⟩
 ·refine(I.hok b u e).stay (λc v hc q=>k c v ?_ q) (λ_ q=>q) λ_ _ q=>q
  rcases hc with z|z
  ·rw [z];exact nit b u e
  ·exact nit c _ z
theorem Inv.tok (I:Inv X pins σ H s)(t:G7):Inv X pins σ H {s with toks:=t}:=I.un (h':=s.heap) (t':=t) Un.refl I.hok
theorem Inv.kept (I:Inv X pins σ H s)(k: ∀b u,s.heap.get? b=some u->h'.get? b=some u):Inv X pins σ H {s with heap:=h',toks:=t'}:=I.un (Un.kept k) (I.hok.kept k)
theorem Inv.laid {a:P1}{o:HO}(I:Inv X pins σ H s)(k: ∀b u,s.heap.get? b=some u->h'.get? b=some u)(hp:s.heap.objs.size<=a)(new:ObjOk X.prog X.w (upd H a o) h' a o):
 Inv X pins σ (upd H a o) {s with heap:=h',toks:=t'}:=I.un (Un.laid k hp (I.hok.fresh hp)) (I.hok.laid k hp new)
theorem Inv.write {x e:P1}{o:HO}(I:Inv X pins σ H s)(mu:Mut (H x))(he:e=x\/H e=some (.own x))(k: ∀b u,b≠e->s.heap.get? b=some u->h'.get? b=some u)(heo: ∃u,h'.get? e=some u)
 (new:ObjOk X.prog X.w (upd H x o) h' x o):Inv X pins σ (upd H x o) {s with heap:=h',toks:=t'}:=I.un (Un.write mu he k heo) (I.hok.write mu he k heo new)
theorem Inv.weak {rD:G0 (D0 V)}(I:Inv X pins σ H s)(hl:rD.length=σ.length)(w: ∀ (i:G7) v,rD[i]? =some (some v)->σ[i]? =some (some v)):Inv X pins rD H s:=
 ⟨I.ok,I.os,I.bare,I.base,let ⟨m,hn,hl'⟩:=I.loc;⟨m,hn,λi x v e1 e2 e3=>hl' i x v e1 (w i v e2) e3⟩,I.cell,I.free,I.freeC,I.pin,I.hok,hl.trans I.len⟩
theorem Inv.pins_of {pins':G0 (P1×Obj)}(I:Inv X pins σ H s)(h: ∀p∈pins',s.heap.get? p.1=some p.2/\H p.1=none/\p.1≠X.env.locals/\p.1 ∉ X.fs/\ ∀v,p.2.data≠ .cell v):Inv X pins' σ H s:=
 ⟨I.ok,I.os,I.bare,I.base,I.loc,I.cell,I.free,I.freeC,λp hp=>(T5.mp hp).elim (λz=>I.pin p (T4 _ z)) (h p),I.hok,I.len⟩
theorem UV {N:G0 Str}(hN:N.Nodup){i j:G7}{x:Str}(a:N[i]? =some x)(b:N[j]? =some x):i=j:=by
 obtain⟨h1,e1⟩:=D3.mp a;obtain⟨h2,e2⟩:=D3.mp b;exact(List.getElem_inj hN).mp (e1.trans e2.symm)
theorem QQ {M:k5}{A:T9}{E:G1->G2->Prop}{i:G7}{x:Str}{v:V}{u:G1}{Q:Unit->G2->Prop}(I:Inv X pins σ H s)(hN:X.N.Nodup)(hi:X.N[i]? =some x)(hx:Loc X.env.scope x)(r:RelV v u)
 (h: ∀s',Inv X pins (σ.set i (some v)) H s'->(∃a,O0 a s.heap s'.heap/\(a=X.env.locals\/X.env.cells.lookup x=some a))->Q () s')(hf:X.fn x=true\/X.env.scope.names.lookup x=some .local:=by first|exact .inl rfl|exact .inr rfl|assumption):R4 M A (storeName X.env x u) Q E s:=by
 obtain⟨m,hn,hl⟩:=id I.loc;have hcls:(X.env.scope.kind== .class||(X.env.scope.kind== .module&&X.env.locals !=X.env.globals))=false:=by rw [I.ok.kind];rfl
 have sC:i<σ.length:=by rw [I.len];exact(D3.mp hi).1
 have cne:=I.cne;have tracked: ∀ {a:P1} {h':B3},(∃o,s.heap.get? a=some o/\H a=none)->O0 a s.heap h'->HOk X.prog X.w H h':=λ{a h'} ha hs b ob e=>by
  obtain⟨_,_,hfree⟩:=ha;refine(I.hok b ob e).stay (λc w' hc q=>(hs.2 c ?_).trans q) (λ_ q=>q) λ_ _ q=>q
  rintro rfl;rcases hc with rfl|hc
  ·rw [hfree] at e;cases e
  ·rw [hfree] at hc;cases hc
 rcases hx with hk|hk
 ·refine wpAny_storeName_local hk hn (λh' hn' hs=> ?_) hcls;obtain⟨oL,_,_,hoL,_⟩:=id hn;refine h _ ⟨I.ok,I.os,I.bare,⟨λb o e n hb hx=> ?_,λb o e n hb hx=> ?_,I.base.free,λb o e hx=> ?_,I.base.tups,I.base.frzs,I.base.tbls⟩,⟨_,hn',λj y v' e1 e2 e3=> ?_⟩,λy c e=> ?_,I.free,I.freeC,λp hp=> ?_,tracked ⟨oL,hoL,I.free⟩ hs,by simpa using I.len⟩ ⟨_,hs,.inl rfl⟩
  ·exact(hs.2 b (R8 (M0 (P7 e) I.ok.above))).trans (I.base.keep b o e n hb hx)
  ·obtain⟨sl,e1⟩:=I.base.slot b o e n hb hx;exact⟨sl,(hs.2 b (R8 (M0 (P7 e) I.ok.above))).trans e1⟩
  ·obtain⟨o',e1⟩:=I.base.there b o e hx;exact⟨o',(hs.2 b (R8 (M0 (P7 e) I.ok.above))).trans e1⟩
  ·by_cases hj:j=i
   ·subst hj;rw [hi] at e1;cases e1;rw [eI sC] at e2;cases e2;exact⟨u,r,.inl ⟨hk,by simp⟩⟩
   ·rw [O3 (E4 hj)] at e2;obtain⟨u',r',q⟩:=hl j y v' e1 e2 e3;refine⟨u',r',?_⟩;rcases q with ⟨k,e⟩|⟨k,c,e,z⟩
    ·refine .inl ⟨k,?_⟩;have:y≠x:=λe=>hj (UV hN e1 (e ▸ hi))
     simp [this,e]
    ·exact .inr ⟨k,c,e,z.sameBut hs (cne y c e)⟩
  ·obtain⟨w',z⟩:=I.cell y c e;exact⟨w',z.sameBut hs (cne y c e)⟩
  ·obtain⟨e,n,ne,nf,d⟩:=I.pin p hp;exact⟨(hs.2 p.1 ne).trans e,n,ne,nf,d⟩
 ·have hfn:X.fn x=true:=by
   rcases hf with z|z
   ·exact z
   ·rw [z] at hk;cases hk
  obtain⟨c,hc⟩:=I.ok.has x (.inl hk);obtain⟨w',z⟩:=I.cell x c hc;refine wpAny_storeName_cell I.ok.kind hk hc z (λh' hc' hs=> ?_);obtain⟨oc,hoc,hocd⟩:=id z;refine h {s with heap:=h'} ⟨I.ok,I.os,I.bare,⟨λb o e n hb hx=> ?_,λb o e n hb hx=> ?_,I.base.free,λb o e hx=> ?_,I.base.tups,I.base.frzs,I.base.tbls⟩,⟨m,hn.sameBut hs (E4 (cne x c hc)),λj y v' e1 e2 e3=> ?_⟩,λy c' e=> ?_,I.free,I.freeC,λp hp=> ?_,tracked ⟨oc,hoc,I.freeC x c hc⟩ hs,by simpa using I.len⟩ ⟨c,hs,.inr hc⟩
  ·exact(hs.2 b (R8 (M0 (P7 e) (I.ok.cab x c hfn hc)))).trans (I.base.keep b o e n hb hx)
  ·obtain⟨sl,e1⟩:=I.base.slot b o e n hb hx;exact⟨sl,(hs.2 b (R8 (M0 (P7 e) (I.ok.cab x c hfn hc)))).trans e1⟩
  ·obtain⟨o',e1⟩:=I.base.there b o e hx;exact⟨o',(hs.2 b (R8 (M0 (P7 e) (I.ok.cab x c hfn hc)))).trans e1⟩
  ·by_cases hj:j=i
   ·subst hj;rw [hi] at e1;cases e1;rw [eI sC] at e2;cases e2;exact⟨u,r,.inr ⟨.inl hk,c,hc,hc'⟩⟩
   ·rw [O3 (E4 hj)] at e2;obtain⟨u',r',q⟩:=hl j y v' e1 e2 e3;refine⟨u',r',?_⟩;rcases q with q|⟨k,c',e,z'⟩
    ·exact .inl q
    ·refine .inr ⟨k,c',e,z'.sameBut hs ?_⟩;rintro rfl;exact hj (UV hN e1 (I.ok.inj _ _ _ e hc ▸ hi))
  ·by_cases hcc:c'=c
   ·subst hcc;exact⟨_,hc'⟩
   ·obtain⟨w2,z2⟩:=I.cell y c' e;exact⟨w2,z2.sameBut hs hcc⟩
  ·obtain⟨e,n,ne,nf,d⟩:=I.pin p hp;refine⟨(hs.2 p.1 ?_).trans e,n,ne,nf,d⟩;intro q;rw [q,hoc] at e;have q':oc=p.2:=F4 e;exact d w' (by rw [<-q'];exact hocd)
theorem UW {M:k5}{A:T9}{E:G1->G2->Prop}{i:G7}{x:Str}{v:V}{u:G1}{Q:Unit->G2->Prop}(I:Inv X pins σ H s)(hN:X.N.Nodup)(hi:X.N[i]? =some x)(hx:Loc X.env.scope x)(r:RelV v u)
 (h: ∀s',Inv X pins (σ.set i (some v)) H s'->Q () s')(hf:X.fn x=true\/X.env.scope.names.lookup x=some .local:=by first|exact .inl rfl|exact .inr rfl|assumption):R4 M A (storeName X.env x u) Q E s:=
 QQ I hN hi hx r (λs' I' _=>h s' I') hf
theorem Inv.call' {s':G2}{ch:G0 P1}(I:Inv X pins σ H s)(ho:s'.os=s.os)(u:Un (frs X.stack) ch H H' s.heap s'.heap)(hok:HOk X.prog X.w H' s'.heap)(hg:cZ s'.gens)
 (hch: ∀b∈ch,(b∈X.ex\/X.s₀.heap.objs.size<=b)/\b≠X.env.locals/\(∀x c,X.env.cells.lookup x=some c->c≠b)/\ ∀p∈X.pn++pins,p.1≠b):Inv X pins σ H' s':=by
 obtain⟨h',g',d',t',o'⟩:=s';have e:o'=s.os:=ho;subst e;exact I.call (g':=g') (t':=t') (d':=d') u hok hg hch
end
abbrev XK:=G1->D0 P1->Hp->Prop
abbrev St:=G0 (D0 V)
abbrev VK:=V->Hp->Prop
abbrev TE:=St->Hp->VK->Prop
abbrev TT:=St->Hp->(M6->Hp->Prop)->Prop
abbrev TA:=St->Hp->(G0 V->Hp->Prop)->Prop
structure Ends where
 nx:St->Hp->Prop
 rt:VK
 bk:St->Hp->Prop:=λ_ _=>False
 ct:St->Hp->Prop:=λ_ _=>False
abbrev TS:=Ends->St->Hp->Prop
def EP (X:Cx)(pins:G0 (P1×Obj))(σ:St)(Q:VK)(u:G1)(s':G2):Prop:= ∃v H',Inv X pins σ H' s'/\RelV v u/\Q v H'
def TP (X:Cx)(pins:G0 (P1×Obj))(σ:St)(Q:M6->Hp->Prop)(b:M6)(s':G2):Prop:= ∃H',Inv X pins σ H' s'/\Q b H'
def AP (X:Cx)(pins:G0 (P1×Obj))(σ:St)(Q:G0 V->Hp->Prop)(us:G0 G1)(s':G2):Prop:= ∃vs H',Inv X pins σ H' s'/\Vals vs us/\Q vs H'
def SP (X:Cx)(pins:G0 (P1×Obj))(D:Ends)(f:Flow)(s':G2):Prop:=
 match f with
 | .next=> ∃rD H',Inv X pins rD H' s'/\D.nx rD H'
 | .brk=> ∃rD H',Inv X pins rD H' s'/\D.bk rD H'
 | .cont=> ∃rD H',Inv X pins rD H' s'/\D.ct rD H'
 | .ret u=> ∃v rD H',Inv X pins rD H' s'/\RelV v u/\D.rt v H'
def PE (X:Cx)(e:S8)(t:TE):Prop:=
 ∀ (pins:G0 (P1×Obj)) (s:G2) (σ:St) (H:Hp) (Q:VK),Inv X pins σ H s->t σ H Q->R4 (R5 X.prog X.w) X.A (L4 e X.env) (EP X pins σ Q) X.xe s
def PT (X:Cx)(e:S8)(t:TT):Prop:=
 ∀ (pins:G0 (P1×Obj)) (s:G2) (σ:St) (H:Hp) (Q:M6->Hp->Prop),Inv X pins σ H s->t σ H Q->R4 (R5 X.prog X.w) X.A (isTrue e X.env (L4 e X.env)) (TP X pins σ Q) X.xe s
def PW (X:Cx)(e:S8)(t:TT):Prop:=
 ∀ (whole:Sem G1) (pins:G0 (P1×Obj)) (s:G2) (σ:St) (H:Hp) (Q:M6->Hp->Prop),Inv X pins σ H s->t σ H Q->R4 (R5 X.prog X.w) X.A (isTrue e X.env whole) (TP X pins σ Q) X.xe s
variable {X:Cx}
theorem PW.pt {e:S8}{t:TT}(h:PW X e t):PT X e t:=h _
def PA (X:Cx)(es:G0 S8)(t:TA):Prop:=
 ∀ (pos:Pos) (pins:G0 (P1×Obj)) (s:G2) (σ:St) (H:Hp) (Q:G0 V->Hp->Prop),Inv X pins σ H s->t σ H Q->R4 (R5 X.prog X.w) X.A (spliced (O9 pos (D2 es X.env))) (AP X pins σ Q) X.xe s
def PS (X:Cx)(st:L6)(t:TS):Prop:=
 ∀ (pins:G0 (P1×Obj)) (s:G2) (σ:St) (H:Hp) (D:Ends),Inv X pins σ H s->t D σ H->R4 (R5 X.prog X.w) X.A (exec st X.env) (SP X pins D) X.xe s
def PSs (X:Cx)(st:G0 L6)(t:TS):Prop:=
 ∀ (pins:G0 (P1×Obj)) (s:G2) (σ:St) (H:Hp) (D:Ends),Inv X pins σ H s->t D σ H->R4 (R5 X.prog X.w) X.A (execs st X.env) (SP X pins D) X.xe s
variable {A:T9}{s:G2}
theorem thn {α:Type}{t:Sem α}{Q Q':α->G2->Prop}{M:k5}{E:G1->G2->Prop}(h:R4 M A t Q E s)(hQ: ∀a s,Q a s->Q' a s):R4 M A t Q' E s:=T3 h hQ λ_ _ x=>x
section
variable {X:Cx}
def Ls (i:G7):TE:=λσ H Q=> ∃v,σ[i]? =some (some v)/\Q v H
def tC (v:V):TE:=λ_ H Q=>Q v H
variable {x:Str}
theorem RW {i:G7}{pos:Pos}(hN:X.N[i]? =some x)(hv:Vis X.env.scope x)(hd:(x==("__debug__" :Str))=false:=by decide)(hcd:(x==("__classdict__" :Str))=false:=by decide):PE X (.Name x pos) (Ls i):=by
 intro pins s σ H Q I h;obtain⟨v,e,h⟩:=h;obtain⟨m,hn,hl⟩:=I.loc;obtain⟨u,r,l⟩:=hl i x v hN e hv;have fin:EP X pins σ Q u s:=⟨v,H,I,r,h⟩;rcases l with ⟨hk,hm⟩|⟨hk,c,hc,hcell⟩
 ·exact l5 (wpAny_loadName_local I.ok.kind hk hn hm fin) hd
 ·rcases hk with hk|hk
  ·exact l5 (wpAny_loadName_cell I.ok.kind hk hc hcell fin) hd
  ·exact l5 (wpAny_loadName_free I.ok.kind hk hc hcell fin hcd) hd
theorem pe_int {i j pos}:PE X (.Constant (.int i) j pos) (tC (.int i)):=λ_ _ _ H _ I h=>wpAny_Constant_int ⟨.int i,H,I.tok _,⟨_,rfl⟩,h⟩
theorem pe_bl {b j pos}:PE X (.Constant (.bool b) j pos) (tC (.bl b)):=λ_ _ _ H _ I h=>Constant_bool ⟨.bl b,H,I,rfl,h⟩
theorem pe_non {j pos}:PE X (.Constant .none j pos) (tC .non):=λ_ _ _ H _ I h=>Constant_none ⟨.non,H,I,rfl,h⟩
def Gl (X:Cx)(x:Str):Prop:=X.env.kindOf x=some .globalImplicit
variable {u:G1}
theorem QR {E:G1->G2->Prop}{pins:G0 (P1×Obj)}{s:G2}{σ:St}{H:Hp}{pos:Pos}{Q:G1->G2->Prop}(I:Inv X pins σ H s)(hg:Gl X x)(hm:X.mg x=some u)(h:Q u s)
 (hd:(x==("__debug__" :Str))=false:=by decide):R4 (R5 X.prog X.w) X.A (L4 (.Name x pos) X.env) Q E s:=
 Calls.Name_function_global I.ok.kind hg (Calls.loadGlobal_global (by rw [I.ok.glob];exact I.mod.glob.keeps I.bk) hm h) hd
theorem Za {E:G1->G2->Prop}{pins:G0 (P1×Obj)}{s:G2}{σ:St}{H:Hp}{pos:Pos}{Q:G1->G2->Prop}(I:Inv X pins σ H s)(hg:Gl X x)(hm:X.mg x=none)(hv:A5 x=some u)(h:Q u s)
 (hn:x≠ "__name__" :=by decide)(hd:(x==("__debug__" :Str))=false:=by decide):R4 (R5 X.prog X.w) X.A (L4 (.Name x pos) X.env) Q E s:=by
 obtain⟨mb,h1,h2⟩:=I.mod.blt;exact Calls.Name_function_global I.ok.kind hg (Calls.loadGlobal_builtin (by rw [I.ok.glob];exact I.mod.glob.keeps I.bk) hm (by rw [I.ok.blt];exact h1.keeps I.bk) ((h2 x hn).trans hv) h) hd
theorem MK {v:V}{pos:Pos}(hg:Gl X x)(hm:X.mg x=some u)(r:RelV v u)(hd:(x==("__debug__" :Str))=false:=by decide):PE X (.Name x pos) (tC v):=
 λ_ _ _ H _ I h=>QR I hg hm ⟨v,H,I,r,h⟩ hd
theorem ML {v:V}{pos:Pos}(hg:Gl X x)(hm:X.mg x=none)(hv:A5 x=some u)(r:RelV v u)(hn:x≠ "__name__" :=by decide)(hd:(x==("__debug__" :Str))=false:=by decide):PE X (.Name x pos) (tC v):=
 λ_ _ _ H _ I h=>Za I hg hm hv ⟨v,H,I,r,h⟩ hn hd
variable {a b:S8}{ta tb:TE}{pos:Pos}
def tB (t:TE):TT:=λσ H Q=>t σ H λx H1=> ∃c,x= .bl c/\Q c H1
theorem BW {e:S8}{t:TE}(h:PE X e t)(he: ∀whole,isTrue e X.env whole=(do let v <-whole;c8 e.pos;V0 [v] (pO v)):=by intro _;rfl):PT X e (tB t):=by
 intro pins s σ H Q I hw;refine isTrue_plain (thn (h pins s σ H _ I hw) λv s1 ⟨x,H1,I1,r1,q1⟩=> ?_) (he _);obtain⟨d,rfl,q⟩:=q1;cases r1;exact O1 ⟨H1,I1,q⟩
variable {tA tB':TT}{rest:G0 S8}
def tOr (t u:TT):TT:=λσ H Q=>t σ H λc H1=>if c=true then Q true H1 else u σ H1 Q
def OU (t:TT):TT:=λσ H Q=>t σ H λc H1=>Q (!c) H1
theorem BX (ha:PT X a tA):PW X (.BoolOp .Or [a] pos) tA:=by
 intro wh pins s σ H Q I h;refine isTrue_or (thn (ha pins s σ H Q I h) λc s1 e=> ?_);cases c with
 |false=>exact isTrue_or_nil e
 |true=>exact e
theorem Lt (ha:PT X a tA)(hb:PW X (.BoolOp .Or (b::rest) pos) tB'):PW X (.BoolOp .Or (a::b::rest) pos) (tOr tA tB'):=by
 intro wh pins s σ H Q I h;refine isTrue_or (thn (ha pins s σ H _ I h) λc s1 ⟨H1,I1,q1⟩=> ?_);cases c with
 |true=>exact⟨H1,I1,q1⟩
 |false=>exact hb wh pins s1 σ H1 Q I1 q1
theorem BY (ha:PT X a tA):PT X (.UnaryOp .Not a pos) (OU tA):=by
 intro pins s σ H Q I h;exact isTrue_not (ha pins s σ H (λc H1=>Q (!c) H1) I h)
def BZ (ta tb:TE):TE:=λσ H Q=>ta σ H λx H1=> ∃c,x= .bl c/\if c=true then tb σ H1 Q else Q (.bl false) H1
def OV (ta tb:TE):TE:=λσ H Q=>ta σ H λx H1=> ∃c,x= .bl c/\if c=true then Q (.bl true) H1 else tb σ H1 Q
def Ca (ta:TE):TE:=λσ H Q=>ta σ H λx H1=> ∃c,x= .bl c/\Q (.bl (!c)) H1
theorem Cb {op}{t:TE}(h:PE X a t):PE X (.BoolOp op [a] pos) t:=λpins s σ H Q I hw=>BoolOp_one (h pins s σ H Q I hw)
theorem Cc (ha:PE X a ta)(hb:PE X (.BoolOp .And (b::rest) pos) tb):PE X (.BoolOp .And (a::b::rest) pos) (BZ ta tb):=by
 intro pins s σ H Q I h;refine BoolOp_and (thn (ha pins s σ H _ I h) λv s1 ⟨x,H1,I1,r1,q1⟩=> ?_);obtain⟨c,rfl,q1⟩:=q1;cases r1;refine O1 ?_;cases c with
 |true=>exact hb pins s1 σ H1 Q I1 q1
 |false=>exact⟨.bl false,H1,I1,rfl,q1⟩
theorem Lu (ha:PE X a ta)(hb:PE X (.BoolOp .Or (b::rest) pos) tb):PE X (.BoolOp .Or (a::b::rest) pos) (OV ta tb):=by
 intro pins s σ H Q I h;refine BoolOp_or (thn (ha pins s σ H _ I h) λv s1 ⟨x,H1,I1,r1,q1⟩=> ?_);obtain⟨c,rfl,q1⟩:=q1;cases r1;refine O1 ?_;cases c with
 |false=>exact hb pins s1 σ H1 Q I1 q1
 |true=>exact⟨.bl true,H1,I1,rfl,q1⟩
theorem Cd (ha:PE X a ta):PE X (.UnaryOp .Not a pos) (Ca ta):=by
 intro pins s σ H Q I h;refine UnaryOp_ (thn (ha pins s σ H _ I h) λv s1 ⟨x,H1,I1,r1,q1⟩=> ?_);obtain⟨c,rfl,q1⟩:=q1;cases r1;exact not_of (O1 ⟨.bl (!c),H1,I1,rfl,q1⟩)
def tIf (t:TT)(ta tb:TE):TE:=λσ H Q=>t σ H λc H1=>if c=true then ta σ H1 Q else tb σ H1 Q
theorem DB {c:S8}(hc:PT X c tA)(ha:PE X a ta)(hb:PE X b tb):PE X (.IfExp c a b pos) (tIf tA ta tb):=by
 intro pins s σ H Q I h;refine wpAny_IfExp (thn (hc pins s σ H _ I h) λd s1 ⟨H1,I1,q1⟩=> ?_);cases d with
 |true=>exact ha pins s1 σ H1 Q I1 q1
 |false=>exact hb pins s1 σ H1 Q I1 q1
end
def SqL (K:G4)(H:Hp)(a:P1)(xs:G0 V):Prop:=
 Rd H a (.lst xs)\/
  ∃ (o:Obj) (its:M2 G1) (n:G7),K.lookup a=some o/\o.cls= .type "list" /\o.dict=none/\o.data= .seq its n/\its.size<=sizeLine/\Vals xs its.toList
def SqT (K:G4)(H:Hp)(a:P1)(xs:G0 V):Prop:=
 Rd H a (.tup xs)\/
  ∃ (o:Obj) (its:M2 G1) (n:G7),K.lookup a=some o/\o.cls= .type "tuple" /\o.data= .seq its n/\its.size<=sizeLine/\Vals xs its.toList
def AK:G1->D0 V
 | .none=>some .non
 | .bool b=>some (.bl b)
 | .int i _=>some (.int i)
 | .str x _=>some (.str x)
 | .bytes b _=>some (.byt b)
 | .float b _=>some (.flt b)
 | .ref a=>some (.ref a)
 | .type n=>some (.ty n)
 |_=>none
theorem RelV.abs {x:V}(r:RelV x u):AK u=some x:=by
 cases x with
 |non=>cases r;rfl
 |bl _=>cases r;rfl
 |int _=>obtain⟨t,rfl⟩:=r;rfl
 |str _=>obtain⟨t,rfl⟩:=r;rfl
 |byt _=>obtain⟨t,rfl⟩:=r;rfl
 |flt _=>obtain⟨t,rfl⟩:=r;rfl
 |ref _=>cases r;rfl
 |ty _=>cases r;rfl
theorem RelV.inj {x y:V}(r:RelV x u)(q:RelV y u):x=y:=F4 (r.abs.symm.trans q.abs)
theorem Vals.inj: ∀ {xs ys:G0 V} {us:G0 G1},Vals xs us->Vals ys us->xs=ys
 |_,_,_,.nil,.nil=>rfl
 |_,_,_,.cons r t,.cons r' t'=>by rw [r.inj r',Vals.inj t t']
section
variable {X:Cx}{pins:G0 (P1×Obj)}{σ:St}{H:Hp}{s:G2}{a:P1}{xs ys:G0 V}
theorem SqL.of {K:G4}(h:H a=some (.lst xs)):SqL K H a xs:= .inl (.inl h)
theorem SqT.of {K:G4}(h:H a=some (.tup xs)):SqT K H a xs:= .inl (.inl h)
theorem Inv.list (I:Inv X pins σ H s)(h:SqL X.K H a xs): ∃its:G0 G1,Vals xs its/\PlainL s.heap a its.toArray/\xs.length<=sizeLine:=by
 rcases h with h|⟨o,its,n,hk,hc,hd,hs,hz,r⟩
 ·obtain⟨z,its,n,r,e⟩:=h.ok I.hok;exact⟨its,r,⟨_,n,e,rfl,rfl,rfl⟩,z⟩
 ·refine⟨its.toList,r,⟨o,n,I.kIn a o hk,hc,hd,by simpa using hs⟩,?_⟩;have e:=r.length;simp only [D1] at e;omega
theorem Inv.tuple (I:Inv X pins σ H s)(h:SqT X.K H a xs): ∃its:G0 G1,Vals xs its/\lZ s.heap a its.toArray/\xs.length<=sizeLine:=by
 rcases h with h|⟨o,its,n,hk,hc,hs,hz,r⟩
 ·obtain⟨z,its,r,p⟩:=h.ok I.hok;exact⟨its,r,p.tup,z⟩
 ·refine⟨its.toList,r,⟨o,I.kIn a o hk,hc,n,by simpa using hs⟩,?_⟩;have e:=r.length;simp only [D1] at e;omega
theorem Inv.list_inj (I:Inv X pins σ H s)(h:SqL X.K H a xs)(h':SqL X.K H a ys):xs=ys:=by
 obtain⟨its,r,⟨o,n,e,_,_,d⟩,_⟩:=I.list h;obtain⟨its',r',⟨o',n',e',_,_,d'⟩,_⟩:=I.list h';rw [e] at e';cases e';rw [d] at d';injection d' with d1 _
 have:its=its':=by simpa using congrArg n8 d1
 subst this;exact r.inj r'
theorem Inv.tuple_inj (I:Inv X pins σ H s)(h:SqT X.K H a xs)(h':SqT X.K H a ys):xs=ys:=by
 obtain⟨its,r,⟨o,e,_,n,d⟩,_⟩:=I.tuple h;obtain⟨its',r',⟨o',e',_,n',d'⟩,_⟩:=I.tuple h';rw [e] at e';cases e';rw [d] at d';injection d' with d1 _
 have:its=its':=by simpa using congrArg n8 d1
 subst this;exact r.inj r'
end
abbrev Cx.wish (X:Cx)(E:G1->G2->Prop):Cx:= {X with xe:=E}
abbrev Cx.nox (X:Cx):Cx:=X.wish λ_ _=>False
theorem Cx.Ok.wish (ok:X.Ok)(E:G1->G2->Prop):(X.wish E).Ok:=
 ⟨ok.mod,ok.kind,ok.glob,ok.blt,ok.above,ok.inj,ok.has,ok.cab,ok.hd,ok.frames,ok.stk,ok.exf,ok.bs,ok.bsz,ok.noex,ok.exfs,ok.funs,ok.frf⟩
theorem Cx.Ok.unwish {E:G1->G2->Prop}(ok:(X.wish E).Ok):X.Ok:=
 ⟨ok.mod,ok.kind,ok.glob,ok.blt,ok.above,ok.inj,ok.has,ok.cab,ok.hd,ok.frames,ok.stk,ok.exf,ok.bs,ok.bsz,ok.noex,ok.exfs,ok.funs,ok.frf⟩
section
variable {X:Cx}{pins:G0 (P1×Obj)}{σ:St}{H:Hp}{s:G2}{E:G1->G2->Prop}
theorem Inv.wish (I:Inv X pins σ H s)(E:G1->G2->Prop):Inv (X.wish E) pins σ H s:=⟨I.ok.wish E,I.os,I.bare,I.base,I.loc,I.cell,I.free,I.freeC,I.pin,I.hok,I.len⟩
theorem Inv.unwish (I:Inv (X.wish E) pins σ H s):Inv X pins σ H s:=⟨I.ok.unwish,I.os,I.bare,I.base,I.loc,I.cell,I.free,I.freeC,I.pin,I.hok,I.len⟩
theorem SP.unwish {D:Ends}{f:Flow}{s':G2}(h:SP (X.wish E) pins D f s'):SP X pins D f s':=by
 cases f with
 |next=>obtain⟨rD,H',I,q⟩:=h;exact⟨rD,H',I.unwish,q⟩
 |brk=>obtain⟨rD,H',I,q⟩:=h;exact⟨rD,H',I.unwish,q⟩
 |cont=>obtain⟨rD,H',I,q⟩:=h;exact⟨rD,H',I.unwish,q⟩
 |ret u=>obtain⟨v,rD,H',I,r,q⟩:=h;exact⟨v,rD,H',I.unwish,r,q⟩
theorem PSs.nox {st:G0 L6}{t:TS}(h:PSs X.nox st t):PSs X st t:=λpins s σ H D I hw=>
 T3 (h pins s σ H D (I.wish _) hw) (λ_ _ q=>q.unwish) λ_ _ z=>False.elim z
end
section
variable {X:Cx}{st:L6}{rest:G0 L6}{t u:TS}{e:S8}{te:TE}{pos:Pos}
def Ce:TS:=λD σ H=>D.nx σ H
def OW (t u:TS):TS:=λD σ H=>t {D with nx:=u D} σ H
theorem pss_nil:PSs X [] Ce:=λ_ _ σ H _ I h=>bY ⟨σ,H,I,h⟩
theorem DD (h1:PS X st t)(h2:PSs X rest u):PSs X (st::rest) (OW t u):=by
 intro pins s σ H D I h;refine j9 (thn (h1 pins s σ H {D with nx:=u D} I h) λf s1 q=> ?_);cases f with
 |next=>
  obtain⟨rD,H',I',q⟩:=q;exact h2 pins s1 rD H' D I' q
 |ret v=>exact q
 |brk=>exact q
 |cont=>exact q
theorem MM (h1:PS X st t):PSs X [st] t:=by
 intro pins s σ H D I h;refine j9 (thn (h1 pins s σ H D I h) λf s1 q=> ?_);cases f with
 |next=>exact bY q
 |ret v=>exact q
 |brk=>exact q
 |cont=>exact q
theorem Inv.quiet {pins:G0 (P1×Obj)}{σ:St}{H:Hp}{s:G2}(I:Inv X pins σ H s):oW X.env=false:=by simp [oW,I.ok.kind]
def Cf (te:TE):TS:=λD σ H=>te σ H λ_ H1=>D.nx σ H1
theorem MN (he:PE X e te)(hs:W3 e none pos.line X.env=pure false:=by rfl):PS X (.Expr e pos) (Cf te):=by
 intro pins s σ H D I h;exact wpAny_Expr_any (thn (he pins s σ H _ I h) λv s1 ⟨x,H1,I1,r1,q1⟩=>⟨σ,H1,I1,q1⟩) I.quiet hs
def OX (te:TE):TS:=λD σ H=>te σ H D.rt
theorem Cg (he:PE X e te):PS X (.Return (some e) pos) (OX te):=by
 intro pins s σ H D I h;exact wpAny_Return_some (thn (he pins s σ H _ I h) λv s1 ⟨x,H1,I1,r1,q1⟩=>⟨x,σ,H1,I1,r1,q1⟩)
def OY (c:TT)(t u:TS):TS:=λD σ H=>c σ H λb H1=>if b=true then t D σ H1 else u D σ H1
theorem Lv {c:S8}{a b:G0 L6}{tc:TT}(hc:PT X c tc)(ha:PSs X a t)(hb:PSs X b u):PS X (.If c a b pos) (OY tc t u):=by
 intro pins s σ H D I h;refine wpAny_If (thn (hc pins s σ H _ I h) λd s1 ⟨H1,I1,q1⟩=> ?_);cases d with
 |true=>exact ha pins s1 σ H1 D I1 q1
 |false=>exact hb pins s1 σ H1 D I1 q1
end
abbrev TG:=V->St->Hp->(St->Hp->Prop)->Prop
abbrev TGs:=G0 V->St->Hp->(St->Hp->Prop)->Prop
def PG (X:Cx)(target:S8)(t:TG):Prop:=
 ∀ (pins:G0 (P1×Obj)) (s:G2) (σ:St) (H:Hp) (v:V) (u:G1) (Q:St->Hp->Prop),Inv X pins σ H s->RelV v u->t v σ H Q->
  R4 (R5 X.prog X.w) X.A (bI target X.env u) (λ_ s'=> ∃rD H',Inv X pins rD H' s'/\Q rD H') X.xe s
def PGs (X:Cx)(ts:G0 S8)(t:TGs):Prop:=
 ∀ (pins:G0 (P1×Obj)) (s:G2) (σ:St) (H:Hp) (vs:G0 V) (us:G0 G1) (Q:St->Hp->Prop),Inv X pins σ H s->Vals vs us->t vs σ H Q->
  R4 (R5 X.prog X.w) X.A (assignInOrder ((aQ ts X.env).map (·.2)) us) (λ_ s'=> ∃rD H',Inv X pins rD H' s'/\Q rD H') X.xe s
abbrev Lw:=V->V->V->Hp->(Hp->Prop)->Prop
def OZ (X:Cx)(t:Lw):Prop:=
 ∀ (pins:G0 (P1×Obj)) (s:G2) (σ:St) (H:Hp) (o i v:V) (ov iv u:G1) (Q:Hp->Prop),Inv X pins σ H s->RelV o ov->RelV i iv->RelV v u->t o i v H Q->
  R4 (R5 X.prog X.w) X.A (n9 ov iv u) (λ_ s'=> ∃H',Inv X pins σ H' s'/\Q H') X.xe s
section
variable {X:Cx}{pos:Pos}
def zX (i:G7):TG:=λv σ H Q=>Q (σ.set i (some v)) H
theorem yN {i:G7}{x:Str}(hN:X.N.Nodup)(hi:X.N[i]? =some x)(hx:Loc X.env.scope x)(hf:X.fn x=true\/X.env.scope.names.lookup x=some .local:=by first|exact .inl rfl|exact .inr rfl|assumption):PG X (.Name x pos) (zX i):=by
 intro pins s σ H v u Q I r h;exact wpAny_assign_Name (UW I hN hi hx r (λs' I'=>⟨_,H,I',h⟩) hf)
def Ly:TGs:=λvs σ H Q=>vs= []/\Q σ H
def QU (t:TG)(u:TGs):TGs:=λvs σ H Q=> ∃v r,vs=v::r/\t v σ H λrD H'=>u r rD H' Q
theorem QV:PGs X [] Ly:=by
 intro pins s σ H vs us Q I r h;obtain⟨e,h⟩:=h;subst e;cases r;exact assignInOrder_nil ⟨σ,H,I,h⟩
theorem JN {e:S8}{es:G0 S8}{t:TG}{u:TGs}(h1:PG X e t)(h2:PGs X es u)
 (hs:(aQ (e::es) X.env).map (·.2)=bI e X.env::(aQ es X.env).map (·.2):=by rfl):PGs X (e::es) (QU t u):=by
 intro pins s σ H vs us Q I r h;obtain⟨v,vr,e1,h⟩:=h;subst e1;cases r with
 |cons r rr=>
  rw [hs];refine assignInOrder_cons (thn (h1 pins s σ H _ _ _ I r h) λ_ s1 ⟨rS,H1,I1,q1⟩=> ?_);exact h2 pins s1 rS H1 _ _ Q I1 rr q1
def Lz (K:G4)(n:G7)(t:TGs):TG:=λv σ H Q=> ∃a xs,v= .ref a/\SqT K H a xs/\xs.length=n/\t xs σ H Q
theorem RX {es:G0 S8}{k:G7}{t:TGs}{n:G7}(hc:X.calm=true)(h:PGs X es t)
 (hn:(aQ es X.env).length=n:=by rfl)(hst:(aQ es X.env).findIdx? (·.1)=none:=by rfl):PG X (.Tuple es k pos) (Lz X.K n t):=by
 intro pins s σ H v u Q I r hw;obtain⟨a,xs,e1,hq,hl,hw⟩:=hw;subst e1;cases r;obtain⟨its,rv,ht,hz⟩:=I.tuple hq;refine assign_Tuple_tuple (I.ok.hd hc) ht (by simp [hn,<-hl,rv.length]) hst λh' hx=> ?_
 have I1:Inv X pins σ H {s with heap:=h'}:=I.kept (t':=s.toks) λb o e=>hx b o (R8 (P7 e)) e
 exact h pins _ σ H xs _ Q I1 (by simpa using rv) hw
def AL (to ti:TE)(t:Lw):TG:=λv σ H Q=>to σ H λo H1=>ti σ H1 λi H2=>t o i v H2 λH3=>Q σ H3
theorem Ch {o i:S8}{to ti:TE}{t:Lw}(ho:PE X o to)(hi:PE X i ti)(hs:OZ X t)
 (ha: ∀v,bI (.Subscript o i pos) X.env v=(do
  let ov <-V0 [v] (L4 o X.env)
  let iv <-V0 [v,ov] (L4 i X.env)
  c8 pos
  V0 [v,ov,iv] (n9 ov iv v)
  qD [v,ov,iv] []):=by intro _;rfl):PG X (.Subscript o i pos) (AL to ti t):=by
 intro pins s σ H v u Q I r h;rw [ha];refine wpAny_bind (B8 (thn (ho pins s σ H _ I h) λov s1 ⟨x,H1,I1,r1,q1⟩=> ?_));refine wpAny_bind (B8 (thn (hi pins s1 σ H1 _ I1 q1) λiv s2 ⟨y,H2,I2,r2,q2⟩=> ?_));refine wpAny_bind (V7 (wpAny_bind (B8 (thn (hs pins s2 σ H2 x y v ov iv u _ I2 r1 r2 r q2) λ_ s3 ⟨H3,I3,q3⟩=> ?_))));exact wpAny_release ⟨σ,H3,I3,q3⟩
def RY (te:TE)(g:TG):TS:=λD σ H=>te σ H λx H1=>g x σ H1 D.nx
theorem Ci {tg e:S8}{te:TE}{g:TG}(he:PE X e te)(hg:PG X tg g)(hs:gR [tg] e pos.line X.env=pure false:=by rfl)(hw:gS [tg] e X.env=pure none:=by rfl)
 (h1:(aQ [tg] X.env).map (·.2)= [bI tg X.env]:=by rfl):PS X (.Assign [tg] e pos) (RY te g):=by
 intro pins s σ H D I h;refine wpAny_Assign_stores (thn (he pins s σ H _ I h) λv s1 ⟨x,H1,I1,r1,q1⟩=> ?_) hs hw;rw [h1];exact thn (hg pins s1 σ H1 x v _ I1 r1 q1) λ_ s2 q=>q
theorem Cj {i:G7}{x:Str}{e:S8}{te:TE}{pos':Pos}(hN:X.N.Nodup)(hi:X.N[i]? =some x)(hx:Loc X.env.scope x)(he:PE X e te)(hs:W3 e (some (.Name x pos')) pos.line X.env=pure false:=by rfl)(hf:X.fn x=true\/X.env.scope.names.lookup x=some .local:=by first|exact .inl rfl|exact .inr rfl|assumption):
 PS X (.Assign [.Name x pos'] e pos) (RY te (zX i)):=by
 intro pins s σ H D I h;refine wpAny_Assign_Name (thn (he pins s σ H _ I h) λv s1 ⟨y,H1,I1,r1,q1⟩=> ?_) hs;exact UW I1 hN hi hx r1 (λs2 I2=>⟨_,H1,I2,q1⟩) hf
def RZ (c:TT)(tb:TS):TS:=λD σ H=> ∃W:G7->St->Hp->Prop,(∃m,W m σ H)/\ ∀m σ H,W m σ H->
 c σ H λb H1=>if b=true then ∃N:St->Hp->Prop,(∀rD H',N rD H'-> ∃m',m'<m/\W m' rD H')/\tb {D with nx:=N,ct:=N,bk:=D.nx} σ H1 else D.nx σ H1
theorem DE {c:S8}{body:G0 L6}{tc:TT}{tb:TS}(hp:gG (R5 X.prog X.w) X.A X.env X.xe)(hc:PT X c tc)(hb:PSs X body tb):PS X (.While c body [] pos) (RZ tc tb):=by
 intro pins s σ H D I h;obtain⟨W,⟨m0,w0⟩,turn⟩:=h;refine wpAny_While (codeAny_whileLoop (λn s'=> ∃rD H',Inv X pins rD H' s'/\W n rD H') ?_ m0 ⟨σ,H,I,w0⟩);rintro n s1 ⟨rS,H1,I1,w1⟩;refine U9 hp (thn (hc pins s1 rS H1 _ I1 (turn n rS H1 w1)) λb s2 ⟨H2,I2,q2⟩=> ?_);cases b with
 |true=>
  obtain⟨N,hN,q2⟩:=q2;rw [R0 rfl];refine U9 hp (thn (hb pins s2 rS H2 _ I2 q2) λf s3 q3=> ?_);cases f with
  |next=>
   obtain⟨rJ,H3,I3,n3⟩:=q3;obtain⟨m',hm,w3⟩:=hN rJ H3 n3;exact⟨m',hm,rJ,H3,I3,w3⟩
  |cont=>
   obtain⟨rJ,H3,I3,n3⟩:=q3;obtain⟨m',hm,w3⟩:=hN rJ H3 n3;exact⟨m',hm,rJ,H3,I3,w3⟩
  |brk=>exact q3
  |ret v=>exact q3
 |false=>
  rw [R7 P9];exact bY ⟨rS,H2,I2,q2⟩
end
structure It where
 go:G7->Hp->Prop
 yld:G7->Hp->V->Hp->Prop
 stop:G7->Hp->Prop
def VR (X:Cx)(pins:G0 (P1×Obj))(H:Hp)(b:P1):Prop:=
 H b=none/\b≠X.env.locals/\b ∉ X.fs/\(b∈X.ex\/X.s₀.heap.objs.size<=b)/\(∀x c,X.env.cells.lookup x=some c->c≠b)/\ ∀p∈X.pn++pins,p.1≠b
theorem Inv.fpOk {pins:G0 (P1×Obj)}{σ:St}{H':Hp}(I:Inv X pins σ H s)(hb:s.heap.objs.size<=b)(hn:H' b=none):VR X pins H' b:=by
 refine⟨hn,A6 (M0 I.lt hb),I.nofs hb,.inr (S7 I.sz hb),λx c e z=> ?_,λp hp z=> ?_⟩
 ·obtain⟨v,q⟩:=I.cell x c e;exact absurd (M0 q.lt (by rw [z];exact hb)) (M4 _)
 ·exact absurd (M0 (P7 (I.pin p hp).1) (by rw [z];exact hb)) (M4 _)
structure Turn (P:S9)(w:N2)(K:G4)(tg:S8)(J:It)(fp:G0 P1)(it:P1)(tn:G7->B3->Prop):Prop where
 mem:it∈fp
 obj: ∀i h,tn i h-> ∀b∈fp,∃o,h.get? b=some o/\ ∀v,o.data≠ .cell v
 keep: ∀i h h',tn i h->(∀b∈fp,∀o,h.get? b=some o->h'.get? b=some o)->tn i h'
 item: ∀ (X:Cx),X.prog=P->X.w=w->X.K=K->X.calm=true-> ∀ (i:G7) (pins:G0 (P1×Obj)) (s:G2) (σ:St) (H:Hp) (E:G1->G2->Prop),Inv X pins σ H s->(∀b∈fp,VR X pins H b)->tn i s.heap->J.go i H->
  R4 (R5 P w) X.A (l6 (.ref it)) (λr s1=> ∃u,r=some u/\
   R4 (R5 P w) X.A (X8 tg (.ref it) u) (λ_ s2=> ∃x H',Inv X pins σ H' s2/\RelV x u/\J.yld i H x H'/\tn (i+1) s2.heap/\ ∀b∈fp,H' b=none) E s1) E s
 done: ∀ (X:Cx),X.prog=P->X.w=w->X.K=K->X.calm=true-> ∀ (i:G7) (pins:G0 (P1×Obj)) (s:G2) (σ:St) (H:Hp) (E:G1->G2->Prop),Inv X pins σ H s->(∀b∈fp,VR X pins H b)->tn i s.heap->J.stop i H->
  R4 (R5 P w) X.A (l6 (.ref it)) (λr s1=>r=none/\Inv X pins σ H s1) E s
 self: ∀ (A:T9) (i:G7) (s:G2) (Q:G1->G2->Prop) (E:G1->G2->Prop),tn i s.heap->Q (.ref it) s->R4 (R5 P w) A (kC (.ref it)) Q E s
abbrev TI:=St->Hp->(It->Hp->Prop)->Prop
def PIE (X:Cx)(pins:G0 (P1×Obj))(σ:St)(tg:S8)(R:It->Hp->Prop)(itv:G1)(s2:G2):Prop:=
 ∃ (it:P1) (fp:G0 P1) (tn:G7->B3->Prop) (J:It) (H':Hp),itv= .ref it/\Inv X pins σ H' s2/\Turn X.prog X.w X.K tg J fp it tn/\tn 0 s2.heap/\(∀b∈fp,VR X pins H' b)/\R J H'
def PI (X:Cx)(tg iter:S8)(wi:TI):Prop:=
 ∀ (pins:G0 (P1×Obj)) (s:G2) (σ:St) (H:Hp) (R:It->Hp->Prop),Inv X pins σ H s->wi σ H R->
  R4 (R5 X.prog X.w) X.A (L4 iter X.env) (λv s1=>R4 (R5 X.prog X.w) X.A (kC v) (PIE X pins σ tg R) X.xe s1) X.xe s
variable {tg:S8}
theorem MO {M : k5} {E : G1 → G2 → Prop} {it : P1} {o : Obj} {n : J6} {vs : M2 G1} {Q : Unit → G2 → Prop} (ho : s.heap.get? it = some o) (hc : o.cls = .type n) (hd : o.data = .fields vs)
    (hn : ["enumerate", "zip", "dict_itemiterator", "dict_reverseitemiterator", "odict_iterator", "itertools.zip_longest", "itertools.pairwise"].contains n = false) (hQ : Q () s) : R4 M A (X8 tg (.ref it) u) Q E s := by
  unfold X8
  cases tg <;> first
    | exact G8 hQ
    | (cases u <;> first
        | exact G8 hQ
        | (refine wpAny_bind (pP ho ?_)
           rw [hc, hd]
           show R4 M A (if (["enumerate", "zip", "dict_itemiterator", "dict_reverseitemiterator", "odict_iterator", "itertools.zip_longest", "itertools.pairwise"].contains n && vs[0]? == some (O8 _)) = true then _ else _) Q E s
           rw [R7 (by intro h; rw [hn, fQ] at h; cases h)]
           exact G8 hQ))
def Itl (K:G4)(a:P1):It:=
 ⟨λi H=> ∃xs x,SqL K H a xs/\xs[i]? =some x,λi H x H'=>H'=H/\ ∀xs,SqL K H a xs->xs[i]? =some x,λi H=> ∃xs,SqL K H a xs/\xs.length<=i⟩
def Itt (K:G4)(a:P1):It:=
 ⟨λi H=> ∃xs x,SqT K H a xs/\xs[i]? =some x,λi H x H'=>H'=H/\ ∀xs,SqT K H a xs->xs[i]? =some x,λi H=> ∃xs,SqT K H a xs/\xs.length<=i⟩
def Itr (lo:P3)(n:G7):It:=⟨λi _=>i<n,λi H x H'=>H'=H/\x= .int (lo+i),λi _=>n<=i⟩
variable {K:G4}
theorem Yx (a it:P1):Turn P w K tg (Itl K a) [it] it (λi h=>h.IsListIter it a i) where
 mem:=by simp
 obj:=λi h st b hb=>by
  have e:b=it:=by simpa using hb
  subst e;obtain⟨o,e,c,d⟩:=st;exact⟨o,e,λv z=>by rw [d] at z;cases z⟩
 keep:=λi h h' st k=>st.at λo e=>k it (by simp) o e
 item:=by
  intro X hP hw hK hc i pins s σ H E I hf st hg;subst hP hw hK;obtain⟨xs,x,hq,hx⟩:=hg;obtain⟨its,rv,p,hz⟩:=I.list hq;obtain⟨u,hu,ru⟩:=rv.get hx;obtain⟨f0,f1,f2,f3,f4,f5⟩:=hf it (by simp);refine wpAny_pyNext_list_item st p.isList (x:=u) (by simpa using hu) λh' st' sb=> ?_
  have I1:Inv X pins σ H {s with heap:=h'}:=I.turned (t':=s.toks) (λb o hb e=>(sb.2 b hb).trans e) f0 f1 f3 f4 f5;obtain⟨o,e,c,d⟩:=id st';exact⟨u,rfl,MO (s:= {s with heap:=h'}) e c d (by decide) ⟨x,H,I1,ru,⟨rfl,λys hy=>by rw [I.list_inj hy hq];exact hx⟩,st',λb hb=>(hf b hb).1⟩⟩
 done:=by
  intro X hP hw hK hc i pins s σ H E I hf st hg;subst hP hw hK;obtain⟨xs,hq,hx⟩:=hg;obtain⟨its,rv,p,hz⟩:=I.list hq;obtain⟨f0,f1,f2,f3,f4,f5⟩:=hf it (by simp);have hl:=rv.length;exact wpAny_pyNext_list_end (I.ok.hd hc) st p.isList (by simp;omega) λh' eb=>⟨rfl,I.turned (t':=s.toks) (λb o hb e=>eb b o hb e) f0 f1 f3 f4 f5⟩
 self:=λ_ _ _ _ _ st h=>wpAny_pyIter_listiter st h
theorem XL (a it:P1):Turn P w K tg (Itt K a) [it] it (λi h=>h.IsTupleIter it a i) where
 mem:=by simp
 obj:=λi h st b hb=>by
  have e:b=it:=by simpa using hb
  subst e;obtain⟨o,e,c,d⟩:=st;exact⟨o,e,λv z=>by rw [d] at z;cases z⟩
 keep:=λi h h' st k=>st.at λo e=>k it (by simp) o e
 item:=by
  intro X hP hw hK hc i pins s σ H E I hf st hg;subst hP hw hK;obtain⟨xs,x,hq,hx⟩:=hg;obtain⟨its,rv,p,hz⟩:=I.tuple hq;obtain⟨u,hu,ru⟩:=rv.get hx;obtain⟨f0,f1,f2,f3,f4,f5⟩:=hf it (by simp);refine wpAny_pyNext_tuple_item st (show s.heap.IsTuple a its.toArray from p) (x:=u) (by simpa using hu) λh' st' sb=> ?_
  have I1:Inv X pins σ H {s with heap:=h'}:=I.turned (t':=s.toks) (λb o hb e=>(sb.2 b hb).trans e) f0 f1 f3 f4 f5;obtain⟨o,e,c,d⟩:=id st';exact⟨u,rfl,MO (s:= {s with heap:=h'}) e c d (by decide) ⟨x,H,I1,ru,⟨rfl,λys hy=>by rw [I.tuple_inj hy hq];exact hx⟩,st',λb hb=>(hf b hb).1⟩⟩
 done:=by
  intro X hP hw hK hc i pins s σ H E I hf st hg;subst hP hw hK;obtain⟨xs,hq,hx⟩:=hg;obtain⟨its,rv,p,hz⟩:=I.tuple hq;obtain⟨f0,f1,f2,f3,f4,f5⟩:=hf it (by simp);have hl:=rv.length;exact wpAny_pyNext_tuple_end (I.ok.hd hc) st (show s.heap.IsTuple a its.toArray from p) (by simp;omega) λh' eb=>⟨rfl,I.turned (t':=s.toks) (λb o hb e=>eb b o hb e) f0 f1 f3 f4 f5⟩
 self:=λ_ _ _ _ _ st h=>wpAny_pyIter_tupleiter st h
theorem XM (it:P1)(lo:P3)(n:G7):Turn P w K tg (Itr lo n) [it] it (λi h=>oX h it (lo+(i:G7)*1) ((n:P3)-(i:G7)) 1) where
 mem:=by simp
 obj:=λi h st b hb=>by
  have e:b=it:=by simpa using hb
  subst e;exact⟨_,st,λv z=>by
   have z':Data.fields _=Data.cell v:=z;cases z'⟩
 keep:=λi h h' st k=>k it (by simp) _ st
 item:=by
  intro X hP hw hK hc i pins s σ H E I hf st hg;subst hP hw hK;obtain⟨f0,f1,f2,f3,f4,f5⟩:=hf it (by simp);have W:=Walks.range (prog:=X.prog) (w:=X.w) (I.ok.hd hc) it lo 1 n;refine W.item i s _ _ hg st λv h' tk hv st' kk=> ?_
  obtain⟨t,rfl⟩:=hv;have I1:Inv X pins σ H {s with heap:=h',toks:=tk}:=I.turned (λb o hb e=>kk b o (by simpa using hb) e) f0 f1 f3 f4 f5;refine⟨_,rfl,MO (s:= {s with heap:=h',toks:=tk}) (n:= "range_iterator") st' rfl rfl (by decide) ⟨.int (lo+i),H,I1,⟨t,?_⟩,⟨rfl,rfl⟩,st',λb hb=>(hf b hb).1⟩⟩;rw [Int.mul_one]
 done:=by
  intro X hP hw hK hc i pins s σ H E I hf st hg;subst hP hw hK;obtain⟨f0,f1,f2,f3,f4,f5⟩:=hf it (by simp);exact wpAny_pyNext_range_end (I.ok.hd hc) st (by have:n<=i:=hg;omega) λh' eb=>⟨rfl,I.turned (t':=s.toks) (λb o hb e=>eb b o hb e) f0 f1 f3 f4 f5⟩
 self:=λ_ _ _ _ _ st h=>wpAny_pyIter_rangeiter st h
section
variable {X:Cx}{tg:S8}
def Ck (K:G4)(tl:TE):TI:=λσ H R=>tl σ H λx H1=> ∃a,x= .ref a/\(∃xs,SqL K H1 a xs)/\R (Itl K a) H1
theorem MP {l:S8}{tl:TE}(hl:PE X l tl):PI X tg l (Ck X.K tl):=by
 intro pins s σ H R I h;refine thn (hl pins s σ H _ I h) λv s1 ⟨x,H1,I1,r1,q1⟩=> ?_
 obtain⟨a,e,⟨xs,hq⟩,q⟩:=q1;subst e;cases r1;obtain⟨its,rv,p,hz⟩:=I1.list hq;refine E5 p.isList ?_;refine⟨s1.heap.objs.size,[s1.heap.objs.size],_,_,H1,rfl,I1.kept (t':=s1.toks) λb o e=>G5 _ e,Yx a _,⟨_,D9 _ rfl,rfl,rfl⟩,λb hb=> ?_,q⟩;have e:b=s1.heap.objs.size:=by simpa using hb
 subst e;exact I1.fpOk (P0 _) (I1.hok.fresh (P0 _))
variable {pins:G0 (P1×Obj)}
theorem UX {σ:St}{H:Hp}{s:G2}{R:It->Hp->Prop}{E:G1->G2->Prop}{lo hi:P3}{t u v:Tok}{tk:G7}(I:Inv X pins σ H s)(h1: -(2^62)<=lo)(h2:lo<2^62)(h3: -(2^62)<=hi)(h4:hi<2^62)
 (q:R (Itr lo (hi-lo).toNat) H):R4 (R5 X.prog X.w) X.A (kC (.ref s.heap.objs.size)) (PIE X pins σ tg R) E {s with heap:=s.heap.push {cls:= .type "range",data:= .fields #[.int lo t,.int hi u,.int 1 v]},toks:=tk}:=by
 refine wpAny_pyIter_range (IsRange.new ..) (small_one h1 h2 h3 h4) ?_;have I1:Inv X pins σ H {s with heap:=s.heap.push {cls:= .type "range",data:= .fields #[.int lo t,.int hi u,.int 1 v]},toks:=tk}:=I.kept λb o e=>G5 _ e
 refine⟨(s.heap.push {cls:= .type "range",data:= .fields #[.int lo t,.int hi u,.int 1 v]}).objs.size,[(s.heap.push {cls:= .type "range",data:= .fields #[.int lo t,.int hi u,.int 1 v]}).objs.size],_,_,H,rfl,
  I1.kept (t':=tk) λb o e=>G5 _ e,XM _ lo (hi-lo).toNat,?_,λb hb=> ?_,q⟩
 ·have e1:lo+((0:G7):P3)*1=lo:=by simp
  have e2:(((hi-lo).toNat:G7):P3)-((0:G7):P3)=Builtin.Range.rangeSize lo hi 1:=by rw [mZ];split<;>omega
  show oX _ _ (lo+((0:G7):P3)*1) ((((hi-lo).toNat:G7):P3)-((0:G7):P3)) 1;rw [e1,e2];exact D9 _ rfl
 ·have e:b=(s.heap.push {cls:= .type "range",data:= .fields #[.int lo t,.int hi u,.int 1 v]}).objs.size:=by simpa using hb
  subst e;exact I1.fpOk (P0 _) (I1.hok.fresh (P0 _))
def Cl (ta:TA):TI:=λσ H R=>ta σ H λvs H1=> ∃j:P3,vs= [.int j]/\ -(2^62)<=j/\j<2^62/\R (Itr 0 j.toNat) H1
def Cm (ta:TA):TI:=λσ H R=>ta σ H λvs H1=> ∃i j:P3,vs= [.int i,.int j]/\(-(2^62)<=i/\i<2^62/\ -(2^62)<=j/\j<2^62)/\R (Itr i (j-i).toNat) H1
theorem QX {a:S8}{ta:TA}{p pos:Pos}(hg:Gl X "range")(hm:X.mg "range" =none)(ha:PA X [a] ta)(hs:D2 [a] X.env= [(false,L4 a X.env)]:=by rfl):PI X tg (.Call (.Name "range" p) [a] [] pos) (Cl ta):=by
 intro pins s σ H R I h;refine qT (Za I hg hm l7 (E2 (thn (ha pos pins s σ H _ I h) λus s1 ⟨vs,H1,I1,r1,q1⟩=> ?_) hs rfl));obtain⟨j,e,q1,q2,q⟩:=q1;subst e;cases r1 with
 |cons r rr=>
  cases rr;obtain⟨t,rfl⟩:=r;exact oA (UX I1 (by omega) (by omega) q1 q2 (by simpa using q))
theorem QY {a b:S8}{ta:TA}{p pos:Pos}(hg:Gl X "range")(hm:X.mg "range" =none)(ha:PA X [a,b] ta)(hs:D2 [a,b] X.env= [(false,L4 a X.env),(false,L4 b X.env)]:=by rfl)(hs2:D2 [b] X.env= [(false,L4 b X.env)]:=by rfl):
 PI X tg (.Call (.Name "range" p) [a,b] [] pos) (Cm ta):=by
 intro pins s σ H R I h;refine qT (Za I hg hm l7 (E2 (thn (ha pos pins s σ H _ I h) λus s1 ⟨vs,H1,I1,r1,q1⟩=> ?_) (by rw [hs,hs2]) (by rw [hs2];rfl)));obtain⟨i,j,e,⟨q1,q2,q3,q4⟩,q⟩:=q1;subst e;cases r1 with
 |cons r rr=>
  cases rr with
  |cons r' rr=>
   cases rr;obtain⟨t,rfl⟩:=r;obtain⟨t',rfl⟩:=r';exact call_range_2 (UX I1 q1 q2 q3 q4 q)
def Aa (wi:TI)(g:TG)(tb:TS):TS:=λD σ H=>wi σ H λJ H1=> ∃W:G7->G7->St->Hp->Prop,(∃m,W 0 m σ H1)/\ ∀i m σ H,W i m σ H->
 (J.stop i H/\D.nx σ H)\/(J.go i H/\ ∃N:St->Hp->Prop,(∀rD H',N rD H'-> ∃m',m'<m/\W (i+1) m' rD H')/\ ∀x H',J.yld i H x H'->g x σ H' λrF H2=>tb {D with nx:=N,ct:=N,bk:=D.nx} rF H2)
def wn (fp:G0 P1)(h:B3):G0 (P1×Obj):=fp.filterMap λb=>(h.get? b).map λo=>(b,o)
theorem jW {fp:G0 P1}{h:B3}{b:P1}{o:Obj}(hb:b∈fp)(e:h.get? b=some o):(b,o)∈wn fp h:=X1.mpr ⟨b,hb,by rw [e];rfl⟩
theorem vn {fp:G0 P1}{h:B3}{p:P1×Obj}(hp:p∈wn fp h):p.1∈fp/\h.get? p.1=some p.2:=by
 obtain⟨b,hb,e⟩:=X1.mp hp;cases q:h.get? b with
 |none=>rw [q] at e;cases e
 |some o=>
  rw [q] at e;have e':(b,o)=p:=F4 e;subst e';exact⟨hb,q⟩
theorem Inv.pinned {σ:St}{H:Hp}{s:G2}{fp:G0 P1}(I:Inv X pins σ H s)(hf: ∀b∈fp,VR X pins H b)(ho: ∀b∈fp,∃o,s.heap.get? b=some o/\ ∀v,o.data≠ .cell v):Inv X (pins++wn fp s.heap) σ H s:=
 I.pins_of λp hp=>(T5.mp hp).elim (λz=>I.pin p (P5 _ z)) λz=>by
  obtain⟨hb,e⟩:=vn z;obtain⟨f0,f1,f2,_⟩:=hf p.1 hb;obtain⟨o,e',d⟩:=ho p.1 hb;rw [e] at e';cases e';exact⟨e,f0,f1,f2,d⟩
theorem Inv.unpinned {pl:G0 (P1×Obj)}{σ:St}{H:Hp}{s:G2}(I:Inv X (pins++pl) σ H s):Inv X pins σ H s:=I.pins_of λp hp=>I.pin p (P5 _ (T4 _ hp))
theorem Cn {iter:S8}{body:G0 L6}{wi:TI}{g:TG}{tb:TS}{pos:Pos}(hp:gG (R5 X.prog X.w) X.A X.env X.xe)(hc:X.calm=true)(hi:PI X tg iter wi)(hg:PG X tg g)(hb:PSs X body tb)
 (hs: ∀x,S1 iter X.env x=pure x:=by intro _;rfl):PS X (.For tg iter body [] pos) (Aa wi g tb):=by
 intro pins s σ H D I h;refine wpAny_For (thn (hi pins s σ H _ I h) λv s1 h1=>thn h1 λitv s2 h2=> ?_) hs;obtain⟨it,fp,tn,J,H2,e,I2,T,st2,f2,W,⟨m0,w0⟩,turn⟩:=h2;subst e
 -- what stays true of the iterator's objects through the loop
 have stat: ∀ {H':Hp},(∀b∈fp,H' b=none)-> ∀b∈fp,VR X pins H' b:=λhn b hb=>⟨hn b hb,(f2 b hb).2⟩
 refine codeAny_forLoop_any (λn s'=> ∃i rD H',Inv X pins rD H' s'/\tn i s'.heap/\(∀b∈fp,H' b=none)/\W i n rD H') ?_ m0 ⟨0,σ,H2,I2,st2,λb hb=>(f2 b hb).1,w0⟩;rintro n s3 ⟨i,rJ,H3,I3,st3,fr3,w3⟩;rcases turn i n rJ H3 w3 with ⟨stop,qn⟩|⟨go,N,hN,step⟩
 ·refine U9 hp (thn (T.done X rfl rfl rfl hc i pins s3 rJ H3 X.xe I3 (stat fr3) st3 stop) λr s4 ⟨hr,I4⟩=> ?_);subst hr;exact bY ⟨rJ,H3,I4,qn⟩
 ·refine U9 hp (thn (T.item X rfl rfl rfl hc i pins s3 rJ H3 X.xe I3 (stat fr3) st3 go) λr s4 ⟨u,hr,h4⟩=> ?_);subst hr;refine U9 hp (thn h4 λ_ s5 ⟨x,H5,I5,r5,y5,st5,fr5⟩=> ?_);have I5':=I5.pinned (stat fr5) (T.obj _ _ st5);refine U9 hp (thn (hg _ s5 rJ H5 x u _ I5' r5 (step x H5 y5)) λ_ s6 ⟨sF,H6,I6,q6⟩=> ?_);refine U9 hp (thn (hb _ s6 sF H6 _ I6 q6) λf s7 q7=> ?_);have again: ∀ {rO:St} {H7:Hp},Inv X (pins++wn fp s5.heap) rO H7 s7->N rO H7-> ∃m,m<n/\ ∃i rD H',Inv X pins rD H' s7/\tn i s7.heap/\(∀b∈fp,H' b=none)/\W i m rD H':=λ{rO H7} I7 n7=>by
   obtain⟨m',hm,w7⟩:=hN rO H7 n7;refine⟨m',hm,i+1,rO,H7,I7.unpinned,T.keep _ _ _ st5 λb hb o e=>(I7.pin (b,o) (P5 _ (P5 _ (jW hb e)))).1,λb hb=> ?_,w7⟩;obtain⟨o,e,d⟩:=T.obj _ _ st5 b hb;exact(I7.pin (b,o) (P5 _ (P5 _ (jW hb e)))).2.1
  cases f with
  |next=>obtain⟨rO,H7,I7,n7⟩:=q7;exact again I7 n7
  |cont=>obtain⟨rO,H7,I7,n7⟩:=q7;exact again I7 n7
  |brk=>obtain⟨rO,H7,I7,q7⟩:=q7;exact⟨rO,H7,I7.unpinned,q7⟩
  |ret v=>obtain⟨x7,rO,H7,I7,r7,q7⟩:=q7;exact⟨x7,rO,H7,I7.unpinned,r7,q7⟩
end
abbrev R2:=V->V->Hp->VK->Prop
def OpR (X:Cx)(f:G1->G1->Sem G1)(r:R2):Prop:=
 ∀ (pins:G0 (P1×Obj)) (s:G2) (σ:St) (H:Hp) (x y:V) (v u:G1) (Q:VK),Inv X pins σ H s->RelV x v->RelV y u->r x y H Q->
  R4 (R5 X.prog X.w) X.A (f v u) (EP X pins σ Q) X.xe s
def UnR (X:Cx)(f:G1->Sem G1)(r:V->Hp->VK->Prop):Prop:=
 ∀ (pins:G0 (P1×Obj)) (s:G2) (σ:St) (H:Hp) (x:V) (v:G1) (Q:VK),Inv X pins σ H s->RelV x v->r x H Q->
  R4 (R5 X.prog X.w) X.A (f v) (EP X pins σ Q) X.xe s
def CallR (X:Cx)(f:G1)(r:G0 V->Hp->VK->Prop):Prop:=
 ∀ (pins:G0 (P1×Obj)) (s:G2) (σ:St) (H:Hp) (xs:G0 V) (us:G0 G1) (Q:VK),Inv X pins σ H s->Vals xs us->r xs H Q->
  R4 (R5 X.prog X.w) X.A (call f us) (EP X pins σ Q) X.xe s
def tOp (r:R2)(ta tb:TE):TE:=λσ H Q=>ta σ H λx H1=>tb σ H1 λy H2=>r x y H2 Q
def tUn (r:V->Hp->VK->Prop)(ta:TE):TE:=λσ H Q=>ta σ H λx H1=>r x H1 Q
def rI (C:P3->P3->Prop)(g:P3->P3->V):R2:=λx y H Q=> ∃i j,x= .int i/\y= .int j/\C i j/\Q (g i j) H
def rI0 (g:P3->P3->V):R2:=λx y H Q=> ∃i j,x= .int i/\y= .int j/\Q (g i j) H
def rU (g:P3->V):V->Hp->VK->Prop:=λx H Q=> ∃i,x= .int i/\Q (g i) H
section
variable {X:Cx}{a b c:S8}{ta tb tc:TE}{pos:Pos}
theorem LB (ha:PE X a ta)(hb:PE X b tb){pins:G0 (P1×Obj)}{s:G2}{σ:St}{H:Hp}{R:V->V->Hp->Prop}(I:Inv X pins σ H s)
 (h:ta σ H λx H1=>tb σ H1 λy H2=>R x y H2){Q:G1->G2->Prop}{f:G1->G1->Sem G1}
 (hf: ∀v u s2 x y H2,Inv X pins σ H2 s2->RelV x v->RelV y u->R x y H2->R4 (R5 X.prog X.w) X.A (f v u) Q X.xe s2):
 R4 (R5 X.prog X.w) X.A (L4 a X.env) (λv rG=>R4 (R5 X.prog X.w) X.A (L4 b X.env) (λu rQ=>R4 (R5 X.prog X.w) X.A (f v u) Q X.xe rQ) X.xe rG) X.xe s:=by
 refine thn (ha pins s σ H _ I h) λv s1 ⟨x,H1,I1,r1,q1⟩=> ?_
 refine thn (hb pins s1 σ H1 _ I1 q1) λu s2 ⟨y,H2,I2,r2,q2⟩=> ?_
 exact hf v u s2 x y H2 I2 r1 r2 q2
theorem LD {op:oY}{r:R2}(ho:OpR X (O4 op) r)(ha:PE X a ta)(hb:PE X b tb):PE X (.BinOp a op b pos) (tOp r ta tb):=by
 intro pins s σ H Q I h;exact wpAny_BinOp (LB ha hb I h λv u s2 x y H2 I2 rx ry q=>ho pins s2 σ H2 x y v u Q I2 rx ry q)
theorem LF {op:UnaryOp}{r:V->Hp->VK->Prop}(ho:UnR X (unaryOp op) r)(ha:PE X a ta):PE X (.UnaryOp op a pos) (tUn r ta):=by
 intro pins s σ H Q I h;exact UnaryOp_ (thn (ha pins s σ H _ I h) λv s1 ⟨x,H1,I1,r1,q1⟩=>ho pins s1 σ H1 x v Q I1 r1 q1)
theorem opI {f:G1->G1->Sem G1}{C:P3->P3->Prop}{g:P3->P3->P3}
 (pQ: ∀ (i j:P3) (t u:Tok) (s:G2) (Q:G1->G2->Prop) (E:G1->G2->Prop),C i j->Q (.int (g i j) s.toks) {s with toks:=s.toks+1}->R4 (R5 X.prog X.w) X.A (f (.int i t) (.int j u)) Q E s):
 OpR X f (rI C λi j=> .int (g i j)):=by
 intro pins s σ H x y v u Q I rx ry h;obtain⟨i,j,rfl,rfl,hc,q⟩:=h;obtain⟨t,rfl⟩:=rx;obtain⟨t',rfl⟩:=ry;exact pQ i j t t' s _ _ hc ⟨.int (g i j),H,I.tok _,⟨_,rfl⟩,q⟩
theorem Ab {f:G1->G1->Sem G1}{g:P3->P3->P3}
 (pQ: ∀ (i j:P3) (t u:Tok) (s:G2) (Q:G1->G2->Prop) (E:G1->G2->Prop),Q (.int (g i j) s.toks) {s with toks:=s.toks+1}->R4 (R5 X.prog X.w) X.A (f (.int i t) (.int j u)) Q E s):
 OpR X f (rI0 λi j=> .int (g i j)):=by
 intro pins s σ H x y v u Q I rx ry h;obtain⟨i,j,rfl,rfl,q⟩:=h;obtain⟨t,rfl⟩:=rx;obtain⟨t',rfl⟩:=ry;exact pQ i j t t' s _ _ ⟨.int (g i j),H,I.tok _,⟨_,rfl⟩,q⟩
theorem Lg {f:G1->G1->Sem G1}{g:P3->P3->M6}
 (pQ: ∀ (i j:P3) (t u:Tok) (s:G2) (Q:G1->G2->Prop) (E:G1->G2->Prop),Q (.bool (g i j)) s->R4 (R5 X.prog X.w) X.A (f (.int i t) (.int j u)) Q E s):
 OpR X f (rI0 λi j=> .bl (g i j)):=by
 intro pins s σ H x y v u Q I rx ry h;obtain⟨i,j,rfl,rfl,q⟩:=h;obtain⟨t,rfl⟩:=rx;obtain⟨t',rfl⟩:=ry;exact pQ i j t t' s _ _ ⟨.bl (g i j),H,I,rfl,q⟩
def Ac (i j:P3):Prop:=0<j/\j<1073741824
def Ad (i j:P3):Prop:=0<=j/\j<=1000000/\i.natAbs<2^64
def CMul (i j:P3):Prop:=(-(2^64)<i/\i<2^64)\/(-(2^64)<j/\j<2^64)
theorem CMul.ok {i j:P3}(h:CMul i j):IntMulOk i j:=by
 rcases h with ⟨h1,h2⟩|⟨h1,h2⟩
 ·exact .of_left (m5 h1 h2)
 ·exact .of_right (m5 h1 h2)
theorem op_add:OpR X (O4 .Add) (rI0 λi j=> .int (i+j)):=Ab λ_ _ _ _ _ _ _ q=>add_int q
theorem Co:OpR X (O4 .Sub) (rI0 λi j=> .int (i-j)):=Ab λ_ _ _ _ _ _ _ q=>sub_int q
theorem op_mul:OpR X (O4 .Mult) (rI CMul λi j=> .int (i*j)):=opI λ_ _ _ _ _ _ _ hc q=>mul_int q hc.ok
theorem MQ:OpR X (O4 .FloorDiv) (rI Ac λi j=> .int (i / j)):=opI λi j _ _ _ _ _ hc q=>by
 have h1:(0:P3)<j:=hc.1;have h2:j<1073741824:=hc.2;exact floordiv_int (by omega) (by rw [cF i (by omega)];exact q) (.inl (PyProof.noPylong_small (by omega)))
theorem Cp:OpR X (O4 .Mod) (rI (λ_ j=>0<j) λi j=> .int (i%j)):=opI λi j _ _ _ _ _ hc q=>by
 have h1:(0:P3)<j:=hc;exact mod_int' (by omega) (by rw [cG i (by omega)];exact q)
theorem Cq:OpR X (O4 .Pow) (rI Ad λi j=> .int (i^j.toNat)):=opI λ_ _ _ _ _ _ _ hc q=>pow_int_small hc.1 hc.2.1 hc.2.2 q
theorem unI {f:G1->Sem G1}{g:P3->P3}
 (pQ: ∀ (i:P3) (t:Tok) (s:G2) (Q:G1->G2->Prop) (E:G1->G2->Prop),Q (.int (g i) s.toks) {s with toks:=s.toks+1}->R4 (R5 X.prog X.w) X.A (f (.int i t)) Q E s):
 UnR X f (rU λi=> .int (g i)):=by
 intro pins s σ H x v Q I rx h;obtain⟨i,rfl,q⟩:=h;obtain⟨t,rfl⟩:=rx;exact pQ i t s _ _ ⟨.int (g i),H,I.tok _,⟨_,rfl⟩,q⟩
theorem Cr:UnR X (unaryOp .USub) (rU λi=> .int (-i)):=unI λ_ _ _ _ _ q=>neg_int q
end
def Ae:V->V->M6
 | .non,.non=>true| .non,.int _=>true| .int _,.non=>true| .non,.bl _=>true| .bl _,.non=>true| .non,.str _=>true| .str _,.non=>true
 | .int _,.int _=>true| .bl _,.bl _=>true| .str _,.str _=>true| .byt _,.byt _=>true
 | .int _,.str _=>true| .str _,.int _=>true| .bl _,.str _=>true| .str _,.bl _=>true
 |_,_=>false
def rEq:R2:=λx y H Q=>Ae x y=true/\Q (.bl (decide (x=y))) H
def rNe:R2:=λx y H Q=>Ae x y=true/\Q (.bl (!decide (x=y))) H
theorem QZ {i j:P3}:decide (V.int i=V.int j)=(i==j):=by
 rw [J1];simp
theorem Ma {i j:M6}:decide (V.bl i=V.bl j)=(i==j):=by
 rw [J1];simp
theorem Ga {i j:Str}:decide (V.str i=V.str j)=(i==j):=by
 rw [J1];simp
theorem Gb {i j:M2 UInt8}:decide (V.byt i=V.byt j)=(i.toList==j.toList):=by
 rw [J1];cases i;cases j;simp
section
variable {X:Cx}{a b c:S8}{ta tb tc:TE}{pos:Pos}
theorem jA {pins:G0 (P1×Obj)}{σ:St}{H:Hp}{s:G2}{Q:VK}{k k':M6}(I:Inv X pins σ H s)(q:Q (.bl k) H)(e:k=k'):EP X pins σ Q (.bool k') s:=by
 subst e;exact⟨.bl k,H,I,rfl,q⟩
theorem op_eq:OpR X (N1 .Eq) rEq:=by
 intro pins s σ H x y v u Q I rx ry h;obtain⟨hs,q⟩:=h;cases x with
 |non=>
  cases rx;cases y with
  |non=>cases ry;exact PySem.EqNone.eq_none_none (jA I q (by simp))
  |bl j=>cases ry;exact PySem.EqNone.eq_none_bool (jA I q (by simp))
  |int j=>obtain⟨t',rfl⟩:=ry;exact PySem.EqNone.eq_none_int (jA I q (by simp))
  |str j=>obtain⟨t',rfl⟩:=ry;exact PySem.EqNone.eq_none_str (jA I q (by simp))
  |_=>exact absurd (show false=true from hs) P9
 |bl i=>
  cases rx;cases y with
  |non=>cases ry;exact PySem.EqNone.eq_bool_none (jA I q (by simp))
  |bl j=>cases ry;exact eq_bool (jA I q Ma)
  |str j=>obtain⟨t',rfl⟩:=ry;exact PySem.EqMixed.eq_bool_str (jA I q (by simp))
  |_=>exact absurd (show false=true from hs) P9
 |int i=>
  obtain⟨t,rfl⟩:=rx;cases y with
  |non=>cases ry;exact PySem.EqNone.eq_int_none (jA I q (by simp))
  |int j=>obtain⟨t',rfl⟩:=ry;exact eq_int (jA I q QZ)
  |str j=>obtain⟨t',rfl⟩:=ry;exact PySem.EqMixed.eq_int_str (jA I q (by simp))
  |_=>exact absurd (show false=true from hs) P9
 |str i=>
  obtain⟨t,rfl⟩:=rx;cases y with
  |non=>cases ry;exact PySem.EqNone.eq_str_none (jA I q (by simp))
  |bl j=>cases ry;exact PySem.EqMixed.eq_str_bool (jA I q (by simp))
  |int j=>obtain⟨t',rfl⟩:=ry;exact PySem.EqMixed.eq_str_int (jA I q (by simp))
  |str j=>obtain⟨t',rfl⟩:=ry;exact eq_str (jA I q Ga)
  |_=>exact absurd (show false=true from hs) P9
 |byt i=>
  obtain⟨t,rfl⟩:=rx;cases y with
  |byt j=>obtain⟨t',rfl⟩:=ry;exact qJ (jA I q Gb)
  |_=>exact absurd (show false=true from hs) P9
 |_=>cases y<;>exact absurd (show false=true from hs) P9
theorem op_ne:OpR X (N1 .NotEq) rNe:=by
 intro pins s σ H x y v u Q I rx ry h;obtain⟨hs,q⟩:=h;cases x with
 |non=>
  cases rx;cases y with
  |non=>cases ry;exact PySem.EqNone.ne_none_none (jA I q (by simp))
  |bl j=>cases ry;exact PySem.EqNone.ne_none_bool (jA I q (by simp))
  |int j=>obtain⟨t',rfl⟩:=ry;exact PySem.EqNone.ne_none_int (jA I q (by simp))
  |str j=>obtain⟨t',rfl⟩:=ry;exact PySem.EqNone.ne_none_str (jA I q (by simp))
  |_=>exact absurd (show false=true from hs) P9
 |bl i=>
  cases rx;cases y with
  |non=>cases ry;exact PySem.EqNone.ne_bool_none (jA I q (by simp))
  |bl j=>cases ry;exact ne_bool (jA I q (congrArg not Ma))
  |str j=>obtain⟨t',rfl⟩:=ry;exact PySem.EqMixed.ne_bool_str (jA I q (by simp))
  |_=>exact absurd (show false=true from hs) P9
 |int i=>
  obtain⟨t,rfl⟩:=rx;cases y with
  |non=>cases ry;exact PySem.EqNone.ne_int_none (jA I q (by simp))
  |int j=>obtain⟨t',rfl⟩:=ry;exact ne_int (jA I q (congrArg not QZ))
  |str j=>obtain⟨t',rfl⟩:=ry;exact PySem.EqMixed.ne_int_str (jA I q (by simp))
  |_=>exact absurd (show false=true from hs) P9
 |str i=>
  obtain⟨t,rfl⟩:=rx;cases y with
  |non=>cases ry;exact PySem.EqNone.ne_str_none (jA I q (by simp))
  |bl j=>cases ry;exact PySem.EqMixed.ne_str_bool (jA I q (by simp))
  |int j=>obtain⟨t',rfl⟩:=ry;exact PySem.EqMixed.ne_str_int (jA I q (by simp))
  |str j=>obtain⟨t',rfl⟩:=ry;exact ne_str (jA I q (congrArg not Ga))
  |_=>exact absurd (show false=true from hs) P9
 |byt i=>
  obtain⟨t,rfl⟩:=rx;cases y with
  |byt j=>obtain⟨t',rfl⟩:=ry;exact qK (jA I q (congrArg not Gb))
  |_=>exact absurd (show false=true from hs) P9
 |_=>cases y<;>exact absurd (show false=true from hs) P9
theorem LH:OpR X (N1 .Lt) (rI0 λi j=> .bl (decide (i<j))):=Lg λ_ _ _ _ _ _ _ q=>lt_int q
theorem LJ:OpR X (N1 .LtE) (rI0 λi j=> .bl (decide (i<=j))):=Lg λ_ _ _ _ _ _ _ q=>le_int q
theorem LK:OpR X (N1 .Gt) (rI0 λi j=> .bl (decide (j<i))):=Lg λ_ _ _ _ _ _ _ q=>gt_int q
theorem LL:OpR X (N1 .GtE) (rI0 λi j=> .bl (decide (j<=i))):=Lg λ_ _ _ _ _ _ _ q=>ge_int q
variable {r:R2}
theorem OpR.or {f:G1->G1->Sem G1}{r':R2}(h:OpR X f r)(h':OpR X f r'):OpR X f (λx y H Q=>r x y H Q\/r' x y H Q):=by
 intro pins s σ H x y v u Q I rx ry q;rcases q with q|q
 ·exact h pins s σ H x y v u Q I rx ry q
 ·exact h' pins s σ H x y v u Q I rx ry q
theorem Mb (b:S8){op:c9}(h:op≠ .In:=by decide)(h2:op≠ .NotIn:=by decide):K2 op b=false:=by
 have e1:(op==CmpOp.In)=false:=by cases op<;>first|rfl|exact absurd rfl h
 have e2:(op==CmpOp.NotIn)=false:=by cases op<;>first|rfl|exact absurd rfl h2
 cases b<;>simp [K2,e1,e2]
theorem MR {op:c9}(ho:OpR X (N1 op) r)(ha:PE X a ta)(hb:PE X b tb)(hm:K2 op b=false):PE X (.Compare a [op] [b] pos) (tOp r ta tb):=by
 intro pins s σ H Q I h;exact wpAny_Compare1 (LB ha hb I h λv u s2 x y H2 I2 rx ry q=>ho pins s2 σ H2 x y v u Q I2 rx ry q) hm
def MS (t:TE):TT:=λσ H Q=>t σ H λx H'=> ∃k,x= .bl k/\Q k H'
theorem MT {op:c9}(ho:OpR X (N1 op) r)(ha:PE X a ta)(hb:PE X b tb)(hm:K2 op b=false):PT X (.Compare a [op] [b] pos) (MS (tOp r ta tb)):=by
 intro pins s σ H Q I h;refine wpAny_isTrue_Compare1 (thn (ha pins s σ H _ I h) λv s1 ⟨x,H1,I1,r1,q1⟩=>thn (hb pins s1 σ H1 _ I1 q1) λu s2 ⟨y,H2,I2,r2,q2⟩=>
  thn (ho pins s2 σ H2 x y v u _ I2 r1 r2 q2) λc s3 ⟨z,H3,I3,r3,k,e,q3⟩=> ?_) hm
 subst e;cases r3;exact O1 ⟨H3,I3,q3⟩
def Gc (r r':R2)(ta tb tc:TE):TE:=λσ H Q=>ta σ H λx H1=>tb σ H1 λy H2=>r x y H2 λz H3=> ∃k,z= .bl k/\
 (if k=true then tc σ H3 λw' H4=>r' y w' H4 Q else Q (.bl false) H3)
theorem DF {op op':c9}{r':R2}(ho:OpR X (N1 op) r)(ho':OpR X (N1 op') r')(ha:PE X a ta)(hb:PE X b tb)(hc:PE X c tc)
 (hm:dM [op,op'] [b,c]=false:=by with_unfolding_all rfl):PE X (.Compare a [op,op'] [b,c] pos) (Gc r r' ta tb tc):=by
 intro pins s σ H Q I h;refine Compare_chain (thn (ha pins s σ H _ I h) λv s1 ⟨x,H1,I1,r1,q1⟩=>chain_link (thn (hb pins s1 σ H1 _ I1 q1) λu s2 ⟨y,H2,I2,r2,q2⟩=>
  thn (ho pins s2 σ H2 x y v u _ I2 r1 r2 q2) λd s3 ⟨z,H3,I3,r3,k,e,q3⟩=> ?_)) hm
 subst e;cases r3;refine O1 ?_;cases k with
 |false=>exact ite_ff ⟨.bl false,H3,I3,rfl,q3⟩
 |true=>exact ite_tt (chain_last (thn (hc pins s3 σ H3 _ I3 q3) λw' s4 ⟨z',H4,I4,r4,q4⟩=>ho' pins s4 σ H4 y z' u w' Q I4 r2 r4 q4))
theorem DG {op op':c9}{r':R2}(ho:OpR X (N1 op) r)(ho':OpR X (N1 op') r')(ha:PE X a ta)(hb:PE X b tb)(hc:PE X c tc)
 (hm:dM [op,op'] [b,c]=false:=by with_unfolding_all rfl):PT X (.Compare a [op,op'] [b,c] pos) (MS (Gc r r' ta tb tc)):=by
 intro pins s σ H Q I h;refine isTrue_chain (thn (ha pins s σ H _ I h) λv s1 ⟨x,H1,I1,r1,q1⟩=>test_link (thn (hb pins s1 σ H1 _ I1 q1) λu s2 ⟨y,H2,I2,r2,q2⟩=>
  thn (ho pins s2 σ H2 x y v u _ I2 r1 r2 q2) λd s3 ⟨z,H3,I3,r3,k,e,q3⟩=> ?_)) hm
 subst e;cases r3;refine O1 ?_;cases k with
 |false=>
  obtain⟨k',e',q'⟩:=q3;cases e';exact ite_ff ⟨H3,I3,q'⟩
 |true=>
  refine ite_tt (test_last (thn (hc pins s3 σ H3 _ I3 q3) λw' s4 ⟨z',H4,I4,r4,q4⟩=>thn (ho' pins s4 σ H4 y z' u w' _ I4 r2 r4 q4) λd' s5 ⟨z2,H5,I5,r5,k2,e2,q5⟩=> ?_));subst e2;cases r5;exact O1 ⟨H5,I5,q5⟩
theorem Yy:(sizeLine:G7)<2^63:=by rw [oZ];decide
theorem wX {x:V}{us:G0 G1}(r:Vals [x] us): ∃u,us= [u]/\RelV x u:=by
 cases r with
 |cons r1 r2=>cases r2;exact⟨_,rfl,r1⟩
theorem DH {x y:V}{us:G0 G1}(r:Vals [x,y] us): ∃u w',us= [u,w']/\RelV x u/\RelV y w':=by
 cases r with
 |cons r1 r2=>
  cases r2 with
  |cons r3 r4=>cases r4;exact⟨_,_,rfl,r1,r3⟩
theorem Gd (hc:X.calm=true):CallR X (.builtin "max") (λxs H Q=> ∃i j,xs= [.int i,.int j]/\Q (.int (if j>i then j else i)) H):=by
 intro pins s σ H xs us Q I r h;obtain⟨i,j,rfl,q⟩:=h;obtain⟨u,w',rfl,⟨t,rfl⟩,⟨t',rfl⟩⟩:=DH r;refine max_two_ints (I.ok.hd hc) λh' tk k=>⟨_,H,I.kept k,?_,q⟩
 by_cases hj:j>i
 ·rw [R0 hj,R0 hj];exact⟨_,rfl⟩
 ·rw [R7 hj,R7 hj];exact⟨_,rfl⟩
theorem Ge (hc:X.calm=true):CallR X (.builtin "min") (λxs H Q=> ∃i j,xs= [.int i,.int j]/\Q (.int (if j<i then j else i)) H):=by
 intro pins s σ H xs us Q I r h;obtain⟨i,j,rfl,q⟩:=h;obtain⟨u,w',rfl,⟨t,rfl⟩,⟨t',rfl⟩⟩:=DH r;refine min_two_ints (I.ok.hd hc) λh' tk k=>⟨_,H,I.kept k,?_,q⟩
 by_cases hj:j<i
 ·rw [R0 hj,R0 hj];exact⟨_,rfl⟩
 ·rw [R7 hj,R7 hj];exact⟨_,rfl⟩
theorem call_int1:CallR X (.type "int") (λxs H Q=>(∃i,xs= [.int i]/\Q (.int i) H)\/ ∃k,xs= [.bl k]/\Q (.int (if k then 1 else 0)) H):=by
 intro pins s σ H xs us Q I r h;rcases h with ⟨i,rfl,q⟩|⟨k,rfl,q⟩
 ·obtain⟨u,rfl,t,rfl⟩:=wX r;exact call_int_int ⟨.int i,H,I,⟨_,rfl⟩,q⟩
 ·obtain⟨u,rfl,r1⟩:=wX r;cases r1;exact call_int_bool ⟨.int (if k then 1 else 0),H,I.tok _,⟨_,rfl⟩,q⟩
end
structure ObjM (h:B3)(x dx C:P1)(mA:Str->D0 G1):Prop where
 obj:h.get? x=some (e8 C dx)
 ns:h.Ns1 dx mA
 ne:dx≠x
theorem Gf {dx:P1}{mA:Str->D0 G1}(n:h.Ns1 dx mA): ∃od,h.get? dx=some od/\ ∀name,fS name od=some (mA name):=by
 obtain⟨o,es,ep,ho,hd,hk,_,hm⟩:=n;refine⟨o,ho,λname=> ?_⟩;have e:=hm name;unfold nsFind findBy at e;rw [<-Array.find?_toList] at e;unfold fS;rw [hd];dsimp only;split
 ·rename_i y q;rw [q] at e;exact congrArg some e
 ·rename_i q;rw [q] at e;have a:es.toList.any (·.refKey)=false:=by
   rw [List.any_eq_false];intro y hy;obtain⟨z,t,hkey⟩:=hk y (fT.mp hy);simp [DictEntry.refKey,hkey]
  have a': ¬es.toList.any (·.refKey)=true:=by rw [a];exact P9
  rw [R7 a'];exact congrArg some e
theorem ObjM.look {x dx C:P1}{mA:Str->D0 G1}(I:ObjM h x dx C mA): ∃od,qU h x (e8 C dx) C (some od)/\ ∀name,fS name od=some (mA name):=
 let ⟨od,ho,hl⟩:=Gf I.ns
 ⟨od,⟨I.obj,rfl,rfl,ho⟩,hl⟩
section
variable {P:S9}{w:N2}{H H':Hp}{h h':B3}{a C dx:P1}{fs fs':G0 (Str×V)}
theorem MU (hok:HOk P w H h)(e:H a=some (.ins C dx fs)): ∃mA,ObjM h a dx C mA/\(∀f,Lr (fs.lookup f) (mA f))/\n6 mA (fs.map (·.1))/\fs.length<=1000/\H dx=some (.own a):=by
 obtain⟨d,z,ne,ob,mA,n,r,q⟩:=(show ObjOk P w H h a (.ins C dx fs) from hok a _ e);exact⟨mA,⟨ob,n,ne⟩,r,q,z,d⟩
end
structure Cls (K:G4)(C:P1):Prop where
 pg:kD K C Str.empty=true
 hd:qE K C=true
 po:qF K C=true
 sa:l9 K (.ref C) "__setattr__" =some (some (.builtin "object.__setattr__"))
theorem Cls.get {C:P1}(c:Cls K C)(f:Str):kD K C f=true:=c.pg
section
variable {X:Cx}{pins:G0 (P1×Obj)}{σ:St}{H:Hp}{s:G2}{A:T9}{E:G1->G2->Prop}{Q:G1->G2->Prop}{c:G1}{b:M6}
inductive TyOf (K:G4)(H:Hp):V->G1->Prop where
 |non:TyOf K H .non (.type "NoneType")
 |bl (x:M6):TyOf K H (.bl x) (.type "bool")
 |int (i:P3):TyOf K H (.int i) (.type "int")
 |str (x:Str):TyOf K H (.str x) (.type "str")
 |flt (x:UInt64):TyOf K H (.flt x) (.type "float")
 |lst {a:P1} {xs:G0 V} (e:H a=some (.lst xs)):TyOf K H (.ref a) (.type "list")
 |frz {a:P1} {o:Obj} {xs:G0 V} (e:H a=some (.frz o (.lst xs))):TyOf K H (.ref a) (.type "list")
 |tup {a:P1} {xs:G0 V} (e:H a=some (.tup xs)):TyOf K H (.ref a) (.type "tuple")
 |dK {a:P1} {kvs:G0 (Key×V)} (e:H a=some (.dK kvs)):TyOf K H (.ref a) (.type "dict")
 |dT {a:P1} {kvs:G0 (G0 Key×V)} (e:H a=some (.dT kvs)):TyOf K H (.ref a) (.type "dict")
 |ins {a C dx:P1} {fs:G0 (Str×V)} (e:H a=some (.ins C dx fs)) (cl:Cls K C) (ha:l9 K (.ref C) "__class__" =some (some (.builtin "object.__class__")))
  (hn:qG K (.builtin "object.__class__") "__get__" =some (some (.builtin "getset_descriptor.__get__"))) (htk:qS K (.builtin "object.__class__")=some true)
  (hm:rA K C (.type "object")=some true):TyOf K H (.ref a) (.ref C)
theorem Gg {x:V}{u t:G1}(I:Inv X pins σ H s)(rx:RelV x u)(ty:TyOf X.K H x t)(e:fU X.K t c=some b)(h: ∀tk,Q (.bool b) {s with toks:=tk}):
 R4 (R5 X.prog X.w) A (call (.builtin "isinstance") [u,c]) Q E s:=by
 cases ty with
 |non=>cases (show u=dY from rx);exact O7 qH I.kIn bJ e (λz=>nomatch z) h
 |bl y=>cases (show u=lY y from rx);exact O7 qI I.kIn bJ e (λz=>nomatch z) h
 |int i=>obtain⟨t,q⟩:=(show ∃t,u=cE i t from rx);cases q;exact O7 qL I.kIn bJ e (λz=>nomatch z) h
 |str y=>obtain⟨t,q⟩:=(show ∃t,u=gF y t from rx);cases q;exact O7 qM I.kIn bJ e (λz=>nomatch z) h
 |flt y=>obtain⟨t,q⟩:=(show ∃t,u=oT y t from rx);cases q;exact O7 pR I.kIn bJ e (λz=>nomatch z) h
 | @lst a xs ea=>
  cases (show u=U8 a from rx);obtain⟨_,_,n,_,h1⟩:=(show ObjOk X.prog X.w H s.heap a (.lst xs) from I.hok a _ ea);exact O7 iF I.kIn ⟨_,h1,rfl⟩ e (λz=>nomatch z) h
 | @frz a ob xs ea=>
  cases (show u=U8 a from rx);obtain⟨_,_,_,n,_,h1⟩:=(show ObjOk X.prog X.w H s.heap a (.frz ob (.lst xs)) from I.hok a _ ea);exact O7 iF I.kIn ⟨_,h1,rfl⟩ e (λz=>nomatch z) h
 | @tup a xs ea=>
  cases (show u=U8 a from rx);obtain⟨_,_,_,p⟩:=(show ObjOk X.prog X.w H s.heap a (.tup xs) from I.hok a _ ea);obtain⟨o,h1,h2,_⟩:=p;exact O7 pS I.kIn ⟨o,h1,h2⟩ e (λz=>nomatch z) h
 | @dK a kvs ea=>
  cases (show u=U8 a from rx);obtain⟨_,_,vs,_,p⟩:=(show ObjOk X.prog X.w H s.heap a (.dK kvs) from I.hok a _ ea);obtain⟨o,es,ep,h1,h2,_⟩:=p;exact O7 iG I.kIn ⟨o,h1,h2.1⟩ e (λz=>nomatch z) h
 | @dT a kvs ea=>
  cases (show u=U8 a from rx);obtain⟨_,_,xs,_,o,es,ep,h1,h2,_⟩:=(show ObjOk X.prog X.w H s.heap a (.dT kvs) from I.hok a _ ea);exact O7 iG I.kIn ⟨o,h1,h2.1⟩ e (λz=>nomatch z) h
 | @ins a C dx fs ea cl ha hn htk hm=>
  cases (show u=U8 a from rx);obtain⟨mA,O,_⟩:=MU I.hok ea;obtain⟨od,J,_⟩:=O.look;exact O7 (qN (cl.get _) cl.hd ha hn htk hm) I.kIn J e (λz=>nomatch z) h
end
structure Room (k:G7)(A:T9):Prop where
 hd:A.handled=none
 dp:A.depth+3*k+5<recursionLimit
 un:A.units+16*k+200<cLine
 gd:A.guards=some []
variable {k:G7}
theorem Room.deeper (r:Room (k+1) A)(env:Env):Room k (A.deeper env):=
 ⟨r.hd,by have:=r.dp;show A.depth+1+3*k+5<_;omega,by have:=r.un;show A.units+3+16*k+200<_;omega,r.gd⟩
theorem Room.depth (r:Room k A):A.depth<recursionLimit:=by have:=r.dp;omega
theorem Room.units (r:Room k A):A.units+64<cLine:=by have:=r.un;omega
def Af:TA:=λ_ H Q=>Q [] H
def Cs (ta:TE)(tr:TA):TA:=λσ H Q=>ta σ H λx H1=>tr σ H1 λxs H2=>Q (x::xs) H2
section
variable {X:Cx}{e:S8}{es:G0 S8}{te:TE}{t:TA}{pos:Pos}
theorem pa_nil:PA X [] Af:=λ_ _ _ _ H Q I h=>Calls.spliced_nil ⟨[],H,I,.nil,h⟩
theorem wY (ha:PE X e te)(hr:PA X es t)(hs:D2 (e::es) X.env=(false,L4 e X.env)::D2 es X.env:=by rfl):PA X (e::es) (Cs te t):=by
 intro pos pins s σ H Q I h;rw [hs];show R4 _ _ (spliced ((false,L4 e X.env)::O9 pos (D2 es X.env))) _ _ s;refine Calls.spliced_cons (thn (ha pins s σ H _ I h) λu s1 ⟨x,H1,I1,r1,q1⟩=> ?_);exact thn (hr pos pins s1 σ H1 _ I1 q1) λus s2 ⟨xs,H2,I2,r2,q2⟩=>⟨x::xs,H2,I2,.cons r1 r2,q2⟩
def Ag (t:TA):TE:=λσ H Q=>t σ H λxs H1=>xs.length<=sizeLine/\ ∀p,H1 p=none->Q (.ref p) (upd H1 p (.tup xs))
def Ah (t:TA):TE:=λσ H Q=>t σ H λxs H1=>xs.length<=sizeLine/\ ∀p,H1 p=none->Q (.ref p) (upd H1 p (.lst xs))
theorem Ct {x1}(h:PA X es t):PE X (.Tuple es x1 pos) (Ag t):=by
 intro pins s σ H Q I hq;refine wpAny_Tuple_spliced (thn (h pos pins s σ H _ I hq) λus s1 ⟨xs,H1,I1,r,z,q⟩=>⟨by rw [<-r.length];exact z,?_⟩);have hf:H1 s1.heap.objs.size=none:=I1.hok.fresh (P0 _);refine⟨.ref s1.heap.objs.size,upd H1 s1.heap.objs.size (.tup xs),I1.laid (t':=s1.toks) (λb u e=>G5 _ e) (P0 _) ?_,rfl,q _ hf⟩;exact⟨z,us,r,IsTupN.new _ _⟩
theorem Cu (h:PA X es t):PE X (.List es pos) (Ah t):=by
 intro pins s σ H Q I hq;refine wpAny_List_spliced (thn (h pos pins s σ H _ I hq) λus s1 ⟨xs,H1,I1,r,z,q⟩=>⟨by rw [<-r.length];exact z,?_⟩);have hf:H1 s1.heap.objs.size=none:=I1.hok.fresh (P0 _);refine⟨.ref s1.heap.objs.size,upd H1 s1.heap.objs.size (.lst xs),I1.laid (t':=s1.toks) (λb u e=>G5 _ e) (P0 _) ?_,rfl,q _ hf⟩;exact⟨z,us,0,r,D9 _ rfl⟩
end
abbrev Sp:=G0 V->Hp->VK->XK->Prop
abbrev CXT:=G0 Env->Hp->G2->XK->G1->G2->Prop
structure Env0 (P:S9)(w:N2)(K:G4)(mg:Str->D0 G1)(base:B3)(A:T9)(outer:G0 Env)(s:G2)(H:Hp):Prop where
 frames:A.frames=some outer
 mod:Mod K mg base
 bs: ∀b o,base.get? b=some o->s.heap.get? b=some o/\H b=none
 bsz:base.objs.size<=s.heap.objs.size
 funs:s.heap.FunFrames base outer
 frf: ∀b∈frs outer,H b=none
 hok:HOk P w H s.heap
 bare:cZ s.gens
def CE (outer:G0 Env)(P:S9)(w:N2)(H:Hp)(s:G2)(Q:VK)(u:G1)(s':G2):Prop:=
 ∃v H',s'.os=s.os/\cZ s'.gens/\Un (frs outer) [] H H' s.heap s'.heap/\HOk P w H' s'.heap/\RelV v u/\Q v H'
def CR (CX:CXT)(outer:G0 Env)(P:S9)(w:N2)(H:Hp)(s:G2)(Q:VK)(E:XK)(r:g8)(s':G2):Prop:=
 match r with
 | .ok (.ret u)=>CE outer P w H s Q u s'
 | .ok _=>False
 | .error e=>CX outer H s E e s'
structure FnOk (P:S9)(w:N2)(K:G4)(mg:Str->D0 G1)(base:B3)(CX:CXT)(k:G7)(f:P1)(fd:T7)(ps:G0 Str)(sp:Sp):Prop where
 len: ∀vs H Q E,sp vs H Q E->vs.length=ps.length
 run: ∀ (A:T9) (outer:G0 Env) (s:G2) (H:Hp) (args:Args) (us:G0 G1) (vs:G0 V) (Q:VK) (E:XK),Room k A->Env0 P w K mg base A outer s H->lV s fd args (ps.zip us)->Vals vs us->sp vs H Q E->
  U3 (R5 P w) A (.call (.ref f) args) (CR CX outer P w H s Q E) s
section
variable {X:Cx}{pins:G0 (P1×Obj)}{σ:St}{H:Hp}{s s':G2}
theorem Inv.env0 (I:Inv X pins σ H s):Env0 X.prog X.w X.K X.mg X.base X.A X.stack s H:=
 ⟨I.ok.frames,I.ok.mod,I.bs,S7 I.ok.bsz I.sz,I.stack,I.stkFree,I.hok,I.bare⟩
theorem Inv.after {Q:VK}{u:G1}(I:Inv X pins σ H s)(h:CE X.stack X.prog X.w H s Q u s'):EP X pins σ Q u s':=by
 obtain⟨v,H',os,bare,un,hok,r,q⟩:=h;obtain⟨hh,g,d,t,os'⟩:=s';obtain rfl:os'=s.os:=os;exact⟨v,H',I.call (h':=hh) (g':=g) (d':=d) (t':=t) (ch:= []) un hok bare (λb z=>absurd z (by simp)),r,q⟩
end
def Cv (sp:Sp)(dvs:G0 V)(E:XK)(t:TA):TE:=λσ H Q=>t σ H λvs H1=>sp (vs++dvs) H1 Q E
def Binds (K:G4)(fd:T7)(ps:G0 Str)(ds:G0 G1):Prop:=
 ∀ (s:G2) (us:G0 G1),K.In s.heap->(us++ds).length=ps.length->lV s fd ⟨us,[]⟩ (ps.zip (us++ds))
theorem Binds.all {fd:T7}{ps:G0 Str}(h: ∀us:G0 G1,us.length=ps.length->o3 fd ⟨us,[]⟩=pure (ps.zip us)):Binds K fd ps []:=λs us _ hl=>by
 rw [J3] at hl ⊢;exact .of_eq (h us hl)
def Gh (CX:CXT)(X:Cx)(E:XK):Prop:= ∀ (pins:G0 (P1×Obj)) (σ:St) (H:Hp) (s:G2) (e:G1) (s':G2),Inv X pins σ H s->CX X.stack H s E e s'->X.xe e s'
section
variable {X:Cx}{CX:CXT}{k:G7}{f C:P1}{fd:T7}{ps:G0 Str}{sp:Sp}{dvs:G0 V}{ds:G0 G1}{E:XK}{x m:Str}{p pos apos:Pos}{e o:S8}{es:G0 S8}{ta:TE}{t:TA}
theorem Cw {pins:G0 (P1×Obj)}{σ:St}{H:Hp}{s:G2}{Q:VK}{us:G0 G1}{vs:G0 V}(F:FnOk X.prog X.w X.K X.mg X.base CX k f fd ps sp)(hr:Room k X.A)(hb:Binds X.K fd ps ds)(hd:Vals dvs ds)(hx:Gh CX X E)
 (I:Inv X pins σ H s)(r:Vals vs us)(h:sp (vs++dvs) H Q E):R4 (R5 X.prog X.w) X.A (call (.ref f) us) (EP X pins σ Q) X.xe s:=by
 have r2:Vals (vs++dvs) (us++ds):=r.append hd;have hl:(us++ds).length=ps.length:=by rw [<-r2.length];exact F.len _ _ _ _ h
 refine g9 (cA (F.run X.A X.stack s H ⟨us,[]⟩ (us++ds) (vs++dvs) Q E hr I.env0 (hb s us I.kIn hl) r2 h) λr s' hq=> ?_);cases r with
 |error e=>exact hx pins σ H s e s' I hq
 |ok fl=>
  cases fl with
  |ret u=>exact I.after hq
  |next=>exact False.elim hq
  |brk=>exact False.elim hq
  |cont=>exact False.elim hq
theorem MV (F:FnOk X.prog X.w X.K X.mg X.base CX k f fd ps sp)(hr:Room k X.A)(hg:Gl X x)(hm:X.mg x=some (.ref f))(hk:W4 X.K (.ref f)=true)(hb:Binds X.K fd ps ds)(hd:Vals dvs ds)(hx:Gh CX X E)
 (ha:PA X (e::es) t)(hdb:(x==("__debug__" :Str))=false:=by decide)(he:D2 (e::es) X.env=(false,L4 e X.env)::D2 es X.env:=by rfl)(hpl:(O9 pos (D2 es X.env)).any (·.1)=false:=by rfl):
 PE X (.Call (.Name x p) (e::es) [] pos) (Cv sp dvs E t):=by
 intro pins s σ H Q I h;refine cH (QR I hg hm ?_ hdb);refine pT (h₀:=X.base) I.ok.mod.kin hk (thn (ha pos pins s σ H _ I h) λus s1 ⟨vs,H1,I1,r,q⟩=>⟨I1.kIn,?_⟩) he hpl;exact Cw F hr hb hd hx I1 r q
end
structure FnScope (N P:G0 Str)(sc:E3):Prop where
 kind:sc.kind= .function
 co:sc.isCoroutine=false
 gen:sc.isGenerator=false
 nd:N.Nodup
 pre:N.take P.length=P
 par: ∀x∈P,sc.names.lookup x=some .local\/sc.names.lookup x=some .cell
 nofree: ∀y∈sc.names,y.2≠ .free
variable {kindOf:Str->D0 NameKind}{x:Str}
theorem Yz: ∀ {binds:G0 (Str×G1)} {m:Str->D0 G1},(∀v,(x,v) ∉ binds)->mB kindOf binds m x=m x
 | [],_,_=>rfl
 |(n,v)::r,m,h=>by
  unfold mB;rw [Yz λw hw=>h w (R6 _ hw)];split
  ·have:x≠n:=by rintro rfl;exact h v P8
   simp [this]
  ·rfl
theorem YA: ∀ {binds:G0 (Str×G1)} {m:Str->D0 G1},(∀v,(x,v) ∉ binds)->mC kindOf binds m x=m x
 | [],_,_=>rfl
 |(n,v)::r,m,h=>by
  unfold mC;rw [YA λw hw=>h w (R6 _ hw)];split
  ·rfl
  ·have:x≠n:=by rintro rfl;exact h v P8
   simp [this]
theorem YB {v:G1}: ∀ {P:G0 Str} {vs:G0 G1} {i:G7} {m:Str->D0 G1},P.Nodup->P[i]? =some x->vs[i]? =some v->kindOf x=some .local->
 mB kindOf (P.zip vs) m x=some v
 | [],_,_,_,_,h,_,_=>by simp at h
 |_::_,[],_,_,_,_,h,_=>by simp at h
 |p::P,w::vs,0,m,nd,h1,h2,hk=>by
  simp at h1 h2;subst h1;subst h2;show mB kindOf ((p,w)::P.zip vs) m p=_;unfold mB;rw [Yz λv hv=>(L7.mp nd).1 (e9 hv).1,R0 hk];simp
 |p::P,w::vs,i+1,m,nd,h1,h2,hk=>by
  show mB kindOf ((p,w)::P.zip vs) m x=_;unfold mB;exact YB (i:=i) (L7.mp nd).2 (by simpa using h1) (by simpa using h2) hk
theorem YC {v:G1}: ∀ {P:G0 Str} {vs:G0 G1} {i:G7} {m:Str->D0 G1},P.Nodup->P[i]? =some x->vs[i]? =some v->kindOf x≠some .local->
 mC kindOf (P.zip vs) m x=some v
 | [],_,_,_,_,h,_,_=>by simp at h
 |_::_,[],_,_,_,_,h,_=>by simp at h
 |p::P,w::vs,0,m,nd,h1,h2,hk=>by
  simp at h1 h2;subst h1;subst h2;show mC kindOf ((p,w)::P.zip vs) m p=_;unfold mC;rw [YA λv hv=>(L7.mp nd).1 (e9 hv).1,R7 hk];simp
 |p::P,w::vs,i+1,m,nd,h1,h2,hk=>by
  show mC kindOf ((p,w)::P.zip vs) m x=_;unfold mC;exact YC (i:=i) (L7.mp nd).2 (by simpa using h1) (by simpa using h2) hk
def start (N:G0 Str)(vs:G0 V):St:=vs.map some++T8 (N.length-vs.length) none
def DI (CX:CXT)(P:S9)(w:N2)(K:G4)(mg:Str->D0 G1)(base:B3)(N:G0 Str)(qual:Str)(scope:E3)(f:P1)(cd:G1)(A:T9)(outer:G0 Env)(s:G2)(H:Hp)(E:XK):Cx where
 prog:=P
 w:=w
 K:=K
 mg:=mg
 base:=base
 A:=A.deeper (cI qual scope s.heap.objs.size f cd)
 N:=N
 s₀:=s
 H₀:=H
 env:=cI qual scope s.heap.objs.size f cd
 outer:=outer
 stack:=cI qual scope s.heap.objs.size f cd::outer
 ex:= []
 calm:=true
 fn:=λ_=>true
 pn:= []
 xe:=λe s'=>R4 (R5 P w) (A.deeper (cI qual scope s.heap.objs.size f cd)) (leaving (cI qual scope s.heap.objs.size f cd) e) (λ_ s''=>CX outer H s E e s'') (λe' s''=>CX outer H s E e' s'') s'
theorem vo {sc:E3}{n:G7}(h:sc.names.lookup x=some .cell): ∃c,(I0 n sc.names []).lookup x=some c:=by
 have q:=eJ sc.names n [] (.inl h);exact dE.mp q
theorem Gi {CX:CXT}{mg:Str->D0 G1}{base:B3}{N ps:G0 Str}{qual:Str}{scope:E3}{f:P1}{cd:G1}{outer:G0 Env}{s1:G2}{E:XK}{us:G0 G1}{vs:G0 V}
 (S:FnScope N ps scope)(hd:A.handled=none)(e0:Env0 P w K mg base A outer s H)(hl:vs.length=ps.length)(r:Vals vs us)
 (x:InCallC s s.heap.objs.size (mB (cI qual scope s.heap.objs.size f cd).kindOf (ps.zip us) λ_=>none) (I0 (s.heap.objs.size+1) scope.names []) (mC (cI qual scope s.heap.objs.size f cd).kindOf (ps.zip us) λ_=>none) s1):
 Inv (DI CX P w K mg base N qual scope f cd A outer s H E) [] (start N vs) H s1:=by
 have hpl:ps.length<=N.length:=by have:=congrArg dA S.pre;rw [N3] at this;omega
 obtain⟨h1,tk,rfl,hk⟩:=x.done;have noA: ∀b:P1,b ∉ (DI CX P w K mg base N qual scope f cd A outer s H E).ex:=λb z=>absurd (show b∈([]:G0 P1) from z) (by simp)
 refine⟨⟨e0.mod,S.kind,rfl,rfl,P0 _,λy z c h1 h2=> ?_,λy hy=> ?_,λy c _ h=> ?_,λ_=>hd,Around.frames_deeper e0.frames,.inr ⟨rfl,rfl⟩,λb z=>absurd z (noA b),e0.bs,e0.bsz,λb _ _=>noA b,λb z=>absurd z (noA b),e0.funs,e0.frf⟩,
  rfl,e0.bare,Un.kept hk,⟨_,x.toInCall.ns,λi y v h1 h2 h3=> ?_⟩,λy c h=>⟨_,x.cell y c h⟩,e0.hok.fresh (P0 _),λy c h=> ?_,λp hp=>absurd (show p∈([]:G0 (P1×Obj)) from hp) (by simp),e0.hok.kept hk,?_⟩
 ·exact iH x.apart (W0 h1) (W0 h2)
 ·have hy:scope.names.lookup y=some .cell\/scope.names.lookup y=some .free:=hy;rcases hy with hy|hy
  ·exact vo hy
  ·exact absurd rfl (S.nofree _ (W0 hy))
 ·exact M3 (x.above y c (W0 h))
 ·have hi:i<vs.length:=by
   unfold start at h2
   by_cases hi:i<vs.length
   ·exact hi
   ·rw [U0 (by simpa using hi)] at h2;rw [dN] at h2;split at h2<;>cases h2
  have ha:vs[i]? =some v:=by
   unfold start at h2;rw [H0 (by simpa using hi),P4] at h2;cases e:vs[i]? with
   |none=>rw [e] at h2;cases h2
   |some a=>rw [e] at h2;cases h2;rfl
  obtain⟨u,hu,rv⟩:=r.get ha;have hp:ps[i]? =some y:=by
   rw [<-S.pre,List.getElem?_take_of_lt (by omega)];exact h1
  have ndP:ps.Nodup:=by rw [<-S.pre];exact S.nd.sublist (iI _ _)
  refine⟨u,rv,?_⟩;rcases S.par y (S0 hp) with k|k
  ·exact .inl ⟨k,YB ndP hp hu k⟩
  ·obtain⟨c,e⟩:=vo (n:=s.heap.objs.size+1) k;refine .inr ⟨.inl k,c,e,?_⟩;have q:=x.cell y c e;rw [YC ndP hp hu (by show scope.names.lookup y≠_;rw [k];decide)] at q;exact q
 ·exact e0.hok.fresh (M3 (x.above y c (W0 h)))
 ·unfold start;show _=N.length;rw [D4,G3,List.length_replicate];omega
theorem LM {CX:CXT}{mg:Str->D0 G1}{base:B3}{f:P1}{name qual:Str}{params:Arguments}{body:G0 L6}{scope:E3}{dV kV doc pm cdv ct oc:G1}{an od:D0 P1}{osl:M2 (D0 G1)}{N ps:G0 Str}{sp:Sp}(lk:K.lookup f=some ⟨oc,od,.func (Z3 name qual params body scope dV kV doc pm an cdv ct),osl⟩)(hcd:fV K cdv qual=true)(S:FnScope N ps scope)
 (len: ∀vs H Q E,sp vs H Q E->vs.length=ps.length)
 (hbody: ∀ (A:T9) (outer:G0 Env) (s:G2) (H:Hp) (vs:G0 V) (Q:VK) (E:XK),Room k (A.deeper (cI qual scope s.heap.objs.size f cdv))->sp vs H Q E->
  ∃t,PSs (DI CX P w K mg base N qual scope f cdv A outer s H E) body t/\t {nx:=λ_ H'=>Q .non H',rt:=Q} (start N vs) H):
 FnOk P w K mg base CX (k+1) f (Z3 name qual params body scope dV kV doc pm an cdv ct) ps sp:=by
 refine⟨len,λA outer s H args us vs Q E hr e0 hb r hsp=> ?_⟩;have hl:=len _ _ _ _ hsp;have KX:K.In s.heap:=e0.mod.kin.keeps λb o e=>(e0.bs b o e).1
 have lim:s.heap.NoLimit:=e0.mod.nolimit.keeps λb o e=>(e0.bs b o e).1
 have hkind: ∀y∈ps.zip us,scope.names.lookup y.1=some .local\/(scope.names.lookup y.1=some .cell/\((I0 (s.heap.objs.size+1) scope.names []).lookup y.1).isSome=true):=λ⟨n,v⟩ hy=>by
  rcases S.par n (e9 hy).1 with q|q
  ·exact .inl q
  ·exact .inr ⟨q,eJ _ _ _ (.inl q)⟩
 refine codeAny_call_function hr.depth (KX _ _ lk) rfl S.co S.gen rfl (pU KX hcd) (hb _ _ _ _ ?_);refine wpAny_newFunctionEnv_cells S.kind hkind λenv he s1 x=> ?_
 subst he;refine⟨lim.keeps x.toInCall.keep,codeAny_func ?_⟩;obtain⟨t,ht,hq⟩:=hbody A outer s H vs Q E (hr.deeper _) hsp;have I:Inv (DI CX P w K mg base N qual scope f cdv A outer s H E) [] (start N vs) H s1:=Gi S hr.hd e0 hl r x;refine T3 (ht [] s1 (start N vs) H _ I hq) (λfl s' hs=> ?_) λe s' hs=>hs
 have fin: ∀ {rD:St} {H':Hp} {v:V} {u:G1},Inv (DI CX P w K mg base N qual scope f cdv A outer s H E) [] rD H' s'->RelV v u->Q v H'->CE outer P w H s Q u s':=
  λ{rD H' v u} J rv q=>⟨v,H',J.os,J.bare,J.base,J.hok,rv,q⟩
 cases fl with
 |ret u=>
  obtain⟨v,rD,H',J,rv,q⟩:=hs;exact fin J rv q
 |next=>
  obtain⟨rD,H',J,q⟩:=hs;exact fin (v:=V.non) (u:=dY) J rfl q
 |brk=>
  obtain⟨_,_,_,q⟩:=hs;exact False.elim q
 |cont=>
  obtain⟨_,_,_,q⟩:=hs;exact False.elim q
section
variable {X:Cx}{x:Str}{p pos:Pos}{e:S8}{es:G0 S8}{t:TA}{id T:J6}{r:G0 V->Hp->VK->Prop}
def tCB (r:G0 V->Hp->VK->Prop)(t:TA):TE:=λσ H Q=>t σ H λvs H1=>r vs H1 Q
theorem JP (hc:CallR X (.builtin id) r)(hg:Gl X x)(hm:X.mg x=none)(hv:A5 x=some (.builtin id))(ha:PA X (e::es) t)(hn:x≠ "__name__" :=by decide)(hdb:(x==("__debug__" :Str))=false:=by decide)
 (he:D2 (e::es) X.env=(false,L4 e X.env)::D2 es X.env:=by rfl)(hpl:(O9 pos (D2 es X.env)).any (·.1)=false:=by rfl):PE X (.Call (.Name x p) (e::es) [] pos) (tCB r t):=by
 intro pins s σ H Q I h;refine cH (Za I hg hm hv ?_ hn hdb);exact kE (thn (ha pos pins s σ H _ I h) λus s1 ⟨vs,H1,I1,r1,q1⟩=>hc pins s1 σ H1 vs us Q I1 r1 q1) he hpl
theorem Zb (hc:CallR X (.type T) r)(hg:Gl X x)(hm:X.mg x=none)(hv:A5 x=some (.type T))(ha:PA X (e::es) t)(hn:x≠ "__name__" :=by decide)(hdb:(x==("__debug__" :Str))=false:=by decide)
 (he:D2 (e::es) X.env=(false,L4 e X.env)::D2 es X.env:=by rfl)(hpl:(O9 pos (D2 es X.env)).any (·.1)=false:=by rfl):PE X (.Call (.Name x p) (e::es) [] pos) (tCB r t):=by
 intro pins s σ H Q I h;refine cH (Za I hg hm hv ?_ hn hdb);exact E2 (thn (ha pos pins s σ H _ I h) λus s1 ⟨vs,H1,I1,r1,q1⟩=>hc pins s1 σ H1 vs us Q I1 r1 q1) he hpl
end
end L2
namespace HT
open PySem PyProof.Rows
def zo:G0 P3->G0 P3->M6
 | [],[]=>false
 | [],_::_=>true
 |_::_,[]=>false
 |x::xs,y::ys=>if x=y then zo xs ys else decide (x<y)
section
variable {prog:S9}{w:N2}{A:T9}{E:G1->G2->Prop}{s:G2}
theorem MW {t b:P1}{vs ws:G0 G1}{Q:G1->G2->Prop}(ht:lZ s.heap t vs.toArray)(hb:lZ s.heap b ws.toArray)(hv:vs≠ [])
 (h1:ws= []->Q (.ref t) s)(h2:ws≠ []->Q (.ref s.heap.objs.size) {s with heap:=s.heap.push {cls:= .type "tuple",data:= .seq (vs++ws).toArray}})
 (hsz:vs.length+ws.length<=sizeLine):R4 (R5 prog w) A (O4 .Add (.ref t) (.ref b)) Q E s:=by
 obtain⟨⟨cls,dd,data,sl⟩,ho,hc,n,hd⟩:=id ht;obtain⟨⟨cls2,dd2,qV,sl2⟩,ho2,hc2,n2,hd2⟩:=id hb;simp only at hc hd hc2 hd2;subst hc hd hc2 hd2;have e:vs.toArray++ws.toArray=(vs++ws).toArray:=by simp
 by_cases hw:ws= []
 ·exact iJ ⟨_,ho,rfl⟩ ⟨_,ho2,rfl⟩ dO gT a5 aV (aJ _ _)
   (tuple_addW1 t b vs.toArray ws.toArray n n2 dd dd2 sl sl2 (by simpa using hv) (by simp [hw])) ⟨ho,ho2,h1 hw⟩
 ·refine iJ ⟨_,ho,rfl⟩ ⟨_,ho2,rfl⟩ dO gT a5 aV (aJ _ _)
   (tuple_addW2 t b vs.toArray ws.toArray n n2 dd dd2 sl sl2 (by simpa using hv) (by simpa using hw) (by rw [D8,D8];exact hsz)) ⟨ho,ho2,?_⟩
  rw [e];exact h2 hw
def sIx (n d:G7):D0 P3->G7
 |none=>d
 |some v=>if v<0 then (v+(n:P3)).toNat else min v.toNat n
theorem Cy (n d:G7)(hd:d<=n)(o:D0 P3):sIx n d o<=n:=by
 cases o with
 |none=>exact hd
 |some v=>
  show (if v<0 then (v+(n:P3)).toNat else min v.toNat n)<=n
  by_cases hv:v<0
  ·rw [R0 hv];omega
  ·rw [R7 hv];exact W5 _ _
theorem Gj (v:P3)(n d:G7):(if v<0 then max (v+(n:P3)) 0 else min v (n:P3))=((sIx n d (some v):G7):P3):=by
 show (if v<0 then max (v+(n:P3)) 0 else min v (n:P3))=(((if v<0 then (v+(n:P3)).toNat else min v.toNat n):G7):P3)
 by_cases hv:v<0
 ·simp only [R0 hv];omega
 ·simp only [R7 hv];omega
theorem XN (lo hi:D0 P3)(n:G7):aC lo hi 1 (n:P3)=(((sIx n 0 lo:G7):P3),((sIx n n hi:G7):P3)):=by
 have h1: ¬ ((1:P3)<0):=by omega
 unfold aC;simp only [h1,iK];refine Prod.ext ?_ ?_
 ·cases lo with
  |none=>rfl
  |some v=>exact Gj v n 0
 ·cases hi with
  |none=>rfl
  |some v=>exact Gj v n n
theorem XO (i j:G7):U6 (i:P3) (j:P3) 1=j-i:=by
 unfold U6;have h1:(1:P3)>0:=by omega
 simp only [h1,gH,Int.ediv_one];split<;>omega
theorem Wb {v:G1}{o:D0 P3}{Q:D0 P3->G2->Prop}(p:eL v o)(h:Q o s):R4 (R5 prog w) A (lH v) Q E s:=by
 cases p with
 |none=>exact mD h
 |int i t=>exact slicePart_int h
theorem wR {sl:P1}{vl vu:G1}{lo hi:D0 P3}{n:G7}{Q:P3×P3×G7->G2->Prop}(hs:s.heap.IsSliceOf sl vl vu .none)(pl:eL vl lo)(pu:eL vu hi)
 (h:Q (((sIx n 0 lo:G7):P3),1,sIx n n hi-sIx n 0 lo) s):R4 (R5 prog w) A (cJ (.ref sl) (pure (n:P3))) Q E s:=by
 obtain⟨os,hos,hcs,hds⟩:=id hs;unfold cJ mV;refine wpAny_bind (wpAny_bind (k9 hos hds (x:=vl) rfl (wpAny_bind (k9 hos hds (x:=vu) rfl (wpAny_bind (k9 hos hds (x:= .none) rfl (G8 ?_)))))));refine wpAny_bind (mD ?_);show R4 _ _ (if ((1:P3)==0)=true then _ else _) _ _ s;rw [R7 (by decide)];refine wpAny_bind (Wb pl (wpAny_bind (Wb pu (wpAny_bind (G8 ?_)))));show R4 _ _ (match aC lo hi 1 (n:P3) with|(lo,hi)=>pure (lo,(1:P3),U6 lo hi 1)) _ _ s;rw [XN lo hi n];show R4 _ _ (pure (((sIx n 0 lo:G7):P3),(1:P3),U6 ((sIx n 0 lo:G7):P3) ((sIx n n hi:G7):P3) 1)) _ _ s;rw [XO];exact G8 h
theorem DJ (xs:M2 G1)(i k:G7):((G6 k).filterMap λ(m:G7)=>xs[((i:P3)+(m:P3)*1).toNat]?).toArray=((xs.toList.drop i).take k).toArray:=by
 have e:(λ(m:G7)=>xs[((i:P3)+(m:P3)*1).toNat]?)=λm=>xs[i+m]? :=by
  funext m
  have:((i:P3)+(m:P3)*1).toNat=i+m:=by omega
  rw [this]
 rw [e];have:=pick_run xs i k;rw [List.filterMap_map] at this;have e2:((λx=>xs[x]?)∘λx=>i+x)=λm=>xs[i+m]? :=rfl
 rw [e2] at this;rw [this]
theorem vZ {t sl:P1}{items:M2 G1}{vl vu:G1}{lo hi:D0 P3}{Q:G1->G2->Prop}(ht:lZ s.heap t items)(hs:s.heap.IsSliceOf sl vl vu .none)(pl:eL vl lo)(pu:eL vu hi)
 (hw: ¬ (sIx items.size 0 lo=0/\sIx items.size items.size hi=items.size))
 (h:Q (.ref s.heap.objs.size) {s with heap:=s.heap.push {cls:= .type "tuple",data:= .seq ((items.toList.drop (sIx items.size 0 lo)).take (sIx items.size items.size hi-sIx items.size 0 lo)).toArray}})
 (hsz:items.size<=sizeLine):R4 (R5 prog w) A (gI (.ref t) (.ref sl)) Q E s:=by
 have htake:sizeOk (.seq ((items.toList.drop (sIx items.size 0 lo)).take (sIx items.size items.size hi-sIx items.size 0 lo)).toArray):=by
  show ((items.toList.drop (sIx items.size 0 lo)).take (sIx items.size items.size hi-sIx items.size 0 lo)).toArray.size<=sizeLine;rw [D8,N3,Z4,D1];omega
 have hj:sIx items.size items.size hi<=items.size:=Cy _ _ (P0 _) hi;obtain⟨os,hos,hcs,hds⟩:=id hs;have hTs:s.TypeIs (.ref sl) "slice" :=⟨os,hos,hcs⟩;unfold gI
 try with_reducible refine B8 ?_
 first|refine wpAny_bind (G8 ?_)|skip
 refine wpAny_bind (iM ht.typeIs (by decide) ?_);refine wpAny_bind (W6 (name:=Str.ofString "__getitem__") ht.typeIs J7
  (F6 J7 ht.typeIs gM ?_ (hG _ _)))
 show R4 _ _ (U1 (.ref t) >>= _) _ _ s;refine wpAny_bind (gU ht ?_);refine wpAny_bind (cB hTs ?_);rw [R0 (by decide)];refine wpAny_bind (wR hs pl pu ?_);have hno: ¬ ((((sIx items.size 0 lo:G7):P3)==0&&(1:P3)==1&&(sIx items.size items.size hi-sIx items.size 0 lo)==items.size)=true):=by
  intro q;rw [C3,C3] at q;have q1:((sIx items.size 0 lo:G7):P3)=0:=eq_of_beq q.1.1;have q2:sIx items.size items.size hi-sIx items.size 0 lo=items.size:=eq_of_beq q.2;exact hw ⟨by omega,by omega⟩
 show R4 _ _ (if (((sIx items.size 0 lo:G7):P3)==0&&(1:P3)==1&&(sIx items.size items.size hi-sIx items.size 0 lo)==items.size)=true then _ else _) _ _ s;rw [R7 hno,DJ]
 first
  |exact wpAny_bind (m:=V8 _) (V1 (G8 ⟨_,rfl,G8 h⟩) htake)
  |exact wpAny_bind (m:=V8 _) (V1 (wpAny_bind (G8 (G8 ⟨_,rfl,G8 h⟩))) htake)
  |exact wpAny_bind (wpAny_bind (m:=V8 _) (V1 (G8 (G8 ⟨_,rfl,G8 h⟩)) htake))
  |exact wpAny_bind (wpAny_bind (m:=V8 _) (V1 (G8 ⟨_,rfl,G8 h⟩) htake))
end
end HT
namespace L2
open PySem PySem.Spec PyProof.Rows
abbrev TO:=St->Hp->(D0 P3->Hp->Prop)->Prop
def PO (X:Cx)(e:D0 S8)(t:TO):Prop:=
 ∀ (pins:G0 (P1×Obj)) (s:G2) (σ:St) (H:Hp) (Q:D0 P3->Hp->Prop),Inv X pins σ H s->t σ H Q->
  R4 (R5 X.prog X.w) X.A (evalPart e X.env) (λu s'=> ∃o H',Inv X pins σ H' s'/\eL u o/\Q o H') X.xe s
def LP (t:TE):TO:=λσ H Q=>t σ H λx H1=> ∃i,x= .int i/\Q (some i) H1
section
variable {X:Cx}{e:S8}{te:TE}{lo hi:D0 S8}{tl th:TO}{pos p2:Pos}
theorem MX (h:PE X e te):PO X (some e) (LP te):=by
 intro pins s σ H Q I hw;rw [evalPart_some];refine thn (h pins s σ H _ I hw) λu s1 ⟨x,H1,I1,r1,q1⟩=> ?_
 obtain⟨i,rfl,q⟩:=q1;obtain⟨t,rfl⟩:=r1;exact⟨some i,H1,I1,.int i t,q⟩
def SlR (X:Cx)(r:V->D0 P3->D0 P3->Hp->VK->Prop):Prop:=
 ∀ (pins:G0 (P1×Obj)) (s:G2) (σ:St) (H:Hp) (x:V) (v vl vu:G1) (lo hi:D0 P3) (sl:P1) (Q:VK),Inv X pins σ H s->RelV x v->s.heap.IsSliceOf sl vl vu .none->eL vl lo->eL vu hi->r x lo hi H Q->
  ∃T id,typeLookup (.type T) "__getitem__" =pure (some (.builtin id))/\s.TypeIs v T/\R4 (R5 X.prog X.w) X.A (gI v (.ref sl)) (EP X pins σ Q) X.xe s
theorem SlR.or {r r':V->D0 P3->D0 P3->Hp->VK->Prop}(h:SlR X r)(h':SlR X r'):SlR X (λx lo hi H Q=>r x lo hi H Q\/r' x lo hi H Q):=by
 intro pins s σ H x v vl vu lo hi sl Q I rx hs pl pu q;rcases q with q|q
 ·exact h pins s σ H x v vl vu lo hi sl Q I rx hs pl pu q
 ·exact h' pins s σ H x v vl vu lo hi sl Q I rx hs pl pu q
def tSl (r:V->D0 P3->D0 P3->Hp->VK->Prop)(te:TE)(tl th:TO):TE:=λσ H Q=>te σ H λx H1=>tl σ H1 λl H2=>th σ H2 λu H3=>r x l u H3 Q
theorem DK {r:V->D0 P3->D0 P3->Hp->VK->Prop}(hr:SlR X r)(he:PE X e te)(hl:PO X lo tl)(hu:PO X hi th):PE X (.Subscript e (.Slice lo hi none p2) pos) (tSl r te tl th):=by
 intro pins s σ H Q I h;refine pV (thn (he pins s σ H _ I h) λv s1 ⟨x,H1,I1,r1,q1⟩=> ?_);refine wpAny_Slice (thn (hl pins s1 σ H1 _ I1 q1) λvl s2 ⟨l,H2,I2,pl,q2⟩=>thn (hu pins s2 σ H2 _ I2 q2) λvu s3 ⟨u,H3,I3,pu,q3⟩=> ?_);rw [evalPart_none];refine G8 ?_;have I4:Inv X pins σ H3 {s3 with heap:=s3.heap.push {cls:= .type "slice",data:= .fields #[vl,vu,.none]}}:=I3.kept (t':=s3.toks) λb ob q=>G5 _ q
 obtain⟨T,id,hT,ht,hg⟩:=hr pins {s3 with heap:=s3.heap.push {cls:= .type "slice",data:= .fields #[vl,vu,.none]}} σ H3 x v vl vu l u s3.heap.objs.size Q I4 r1 (Heap.IsSliceOf.new ..) pl pu q3;show R4 (R5 X.prog X.w) X.A (m7 e (.Slice lo hi none p2) v (.ref s3.heap.objs.size)) (EP X pins σ Q) X.xe {s3 with heap:=s3.heap.push {cls:= .type "slice",data:= .fields #[vl,vu,.none]}};exact tail_any (ops:= [.ref s3.heap.objs.size,v]) ht hT hg (by with_unfolding_all rfl)
def Dz (xs:G0 V)(lo hi:D0 P3):G0 V:=(xs.drop (HT.sIx xs.length 0 lo)).take (HT.sIx xs.length xs.length hi-HT.sIx xs.length 0 lo)
theorem Zc (xs:G0 V)(lo hi:D0 P3):(Dz xs lo hi).length<=xs.length:=by
 unfold Dz;rw [N3,Z4];omega
def AM (K:G4):V->D0 P3->D0 P3->Hp->VK->Prop:=λx lo hi H Q=> ∃a xs,x= .ref a/\SqT K H a xs/\
 ¬ (HT.sIx xs.length 0 lo=0/\HT.sIx xs.length xs.length hi=xs.length)/\ ∀p,H p=none->Q (.ref p) (upd H p (.tup (Dz xs lo hi)))
theorem sl_tup:SlR X (AM X.K):=by
 intro pins s σ H x v vl vu lo hi sl Q I rx hs pl pu h;obtain⟨a,xs,rfl,hx,hw,q⟩:=h;cases rx;obtain⟨its,r,ht,hz⟩:=I.tuple hx;have hlen:its.toArray.size=xs.length:=by rw [D8];exact r.length.symm
 refine⟨"tuple",_,PyProof.Rows.slot_tuple_getitem.lookup,ht.typeIs,?_⟩;refine HT.vZ ht hs pl pu (by rw [hlen];exact hw) ?_ (by rw [hlen];exact hz);rw [hlen];refine⟨.ref s.heap.objs.size,_,I.laid (t':=s.toks) (o:= .tup (Dz xs lo hi)) (λb ob q=>G5 _ q) (P0 _) ?_,rfl,q _ (I.hok.fresh (P0 _))⟩;exact⟨S7 (Zc xs lo hi) hz,_,(r.drop (HT.sIx xs.length 0 lo)).take (HT.sIx xs.length xs.length hi-HT.sIx xs.length 0 lo),IsTupN.new _ _⟩
def LQ (K:G4):R2:=λx y H Q=> ∃a b xs ys,x= .ref a/\y= .ref b/\SqT K H a xs/\SqT K H b ys/\xs≠ []/\xs.length+ys.length<=sizeLine/\
 (ys= []->Q (.ref a) H)/\(ys≠ []-> ∀p,H p=none->Q (.ref p) (upd H p (.tup (xs++ys))))
theorem Vals.nil_iff {xs:G0 V}{us:G0 G1}(r:Vals xs us):us= []↔xs= []:=by
 cases r with
 |nil=>simp
 |cons _ _=>simp
theorem op_catT:OpR X (O4 .Add) (LQ X.K):=by
 intro pins s σ H x y v u Q I rx ry h;obtain⟨a,b,xs,ys,rfl,rfl,ha,hb,hx,hz,q1,q2⟩:=h;cases rx;cases ry;obtain⟨its,r1,p1,_⟩:=I.tuple ha;obtain⟨its2,r2,p2,_⟩:=I.tuple hb;refine HT.MW p1 p2 (λz=>hx (r1.nil_iff.mp z)) (λz=>⟨.ref a,H,I,rfl,q1 (r2.nil_iff.mp z)⟩) (λz=> ?_) (by rw [<-r1.length,<-r2.length];exact hz);refine⟨.ref s.heap.objs.size,_,I.laid (t':=s.toks) (o:= .tup (xs++ys)) (λb ob q=>G5 _ q) (P0 _) ?_,rfl,q2 (λw=>z (r2.nil_iff.mpr w)) _ (I.hok.fresh (P0 _))⟩;exact⟨by rw [D4];exact hz,_,r1.append r2,IsTupN.new _ _⟩
end
def ixN (n:G7)(i:P3):D0 G7:=if 0<=i then (if i<n then some i.toNat else none) else if-(n:P3)<=i then some (i+n).toNat else none
def atI {α:Type}(xs:G0 α)(i:P3):D0 α:=(ixN xs.length i).bind λj=>xs[j]?
theorem Gk {n:G7}{i:P3}{j:G7}(h:ixN n i=some j):seqIndex? i n=some j/\j<n/\ -(n:P3)<=i/\i<n:=by
 unfold ixN at h
 by_cases h0:0<=i
 ·rw [R0 h0] at h
  by_cases h1:i<n
  ·rw [R0 h1] at h;have e:i.toNat=j:=F4 h;exact⟨by rw [lA h0 h1,e],by omega,by omega,h1⟩
  ·rw [R7 h1] at h;cases h
 ·rw [R7 h0] at h
  by_cases h1: -(n:P3)<=i
  ·rw [R0 h1] at h;have e:(i+n).toNat=j:=F4 h;exact⟨by rw [iN (by omega) h1,e],by omega,h1,by omega⟩
  ·rw [R7 h1] at h;cases h
theorem VS {α:Type}{xs:G0 α}{i:P3}{v:α}(h:atI xs i=some v): ∃j,seqIndex? i xs.length=some j/\xs[j]? =some v/\j<xs.length/\ -(xs.length:P3)<=i/\i<xs.length:=by
 unfold atI at h;cases e:ixN xs.length i with
 |none=>rw [e] at h;cases h
 |some j=>
  rw [e] at h;obtain⟨h1,h2,h3,h4⟩:=Gk e;exact⟨j,h1,h,h2,h3,h4⟩
theorem VT {α:Type}{xs:G0 α}{j:G7}{v:α}(h:xs[j]? =some v):atI xs (j:P3)=some v:=by
 have hj:j<xs.length:=(D3.mp h).1;have e:ixN xs.length (j:P3)=some j:=by
  unfold ixN;rw [R0 (by omega),R0 (by omega)];simp
 unfold atI;rw [e];exact h
def Wu (b:S8):Prop:= ∀o i,o4 b false o i=operate [o,i] (gI o i)
def IxR (X:Cx)(r:R2):Prop:=
 ∀ (value slice:S8) (pins:G0 (P1×Obj)) (s:G2) (σ:St) (H:Hp) (x y:V) (v u:G1) (Q:VK),Inv X pins σ H s->RelV x v->RelV y u->r x y H Q->
  o4 slice false v u=operate [v,u] (gI v u)->R4 (R5 X.prog X.w) X.A (m7 value slice v u) (EP X pins σ Q) X.xe s
def MtR (X:Cx)(id:J6)(r:V->G0 V->Hp->VK->Prop):Prop:=
 ∀ (pins:G0 (P1×Obj)) (s:G2) (σ:St) (H:Hp) (x:V) (xs:G0 V) (v:G1) (us:G0 G1) (Q:VK),Inv X pins σ H s->RelV x v->Vals xs us->r x xs H Q->
  R4 (R5 X.prog X.w) X.A (call (.builtin id) (v::us)) (EP X pins σ Q) X.xe s
section
variable {X:Cx}{a b:S8}{ta tb:TE}{pos:Pos}
theorem IxR.or {r r':R2}(h:IxR X r)(h':IxR X r'):IxR X (λx y H Q=>r x y H Q\/r' x y H Q):=by
 intro value slice pins s σ H x y v u Q I rx ry q hs;rcases q with q|q
 ·exact h value slice pins s σ H x y v u Q I rx ry q hs
 ·exact h' value slice pins s σ H x y v u Q I rx ry q hs
theorem LU {r:R2}(hr:IxR X r)(ha:PE X a ta)(hb:PE X b tb)(hs:Wu b):PE X (.Subscript a b pos) (tOp r ta tb):=by
 intro pins s σ H Q I h;exact pV (LB ha hb I h λv u s2 x y H2 I2 rx ry q=>hr a b pins s2 σ H2 x y v u Q I2 rx ry q (hs _ _))
def Ai (K:G4):R2:=λx y H Q=> ∃p xs i v,x= .ref p/\y= .int i/\SqL K H p xs/\atI xs i=some v/\Q v H
def Aj (K:G4):R2:=λx y H Q=> ∃p xs i v,x= .ref p/\y= .int i/\SqT K H p xs/\atI xs i=some v/\Q v H
def Ak:R2:=λx y H Q=> ∃z i c,x= .str z/\y= .int i/\z.length<=sizeLine/\atI z.cps.toList i=some c/\Q (.str ⟨#[c]⟩) H
theorem ix_list:IxR X (Ai X.K):=by
 intro value slice pins s σ H x y v u Q I rx ry h hs;obtain⟨p,xs,i,z,rfl,rfl,hq,he,q⟩:=h;cases rx;obtain⟨t,rfl⟩:=ry;obtain⟨its,r,pl,hz⟩:=I.list hq;obtain⟨j,h1,h2,h3,h4,h5⟩:=VS he;obtain⟨w,ew,rw'⟩:=r.get h2;have hl:=r.length;have hn:=Yy;have fin:EP X pins σ Q w s:=⟨z,H,I,rw',q⟩
 by_cases h0:0<=i
 ·have hj:i.toNat=j:=by
   rw [lA h0 h5] at h1;exact F4 h1
  exact item_listR pl.isList h0 (by omega) (by rw [hj];simpa using ew) fin hs
 ·have hj:(i+(its.toArray.size:P3)).toNat=j:=by
   rw [iN (by omega) h4] at h1;rw [D8,<-hl];exact F4 h1
  exact eO (x:=w) pl.isList.typeIs slot_list_getitem.lookup
   (wpAny_getItem_list_neg (Q:=λr s'=>r=w/\EP X pins σ Q r s') pl.isList (by omega) (by rw [D8]<;>omega) (by omega) (by rw [hj];simpa using ew) ⟨rfl,fin⟩) hs
theorem ix_tup:IxR X (Aj X.K):=by
 intro value slice pins s σ H x y v u Q I rx ry h hs;obtain⟨p,xs,i,z,rfl,rfl,hq,he,q⟩:=h;cases rx;obtain⟨t,rfl⟩:=ry;obtain⟨its,r,pl,hz⟩:=I.tuple hq;obtain⟨j,h1,h2,h3,h4,h5⟩:=VS he;obtain⟨w,ew,rw'⟩:=r.get h2;have hl:=r.length;have hn:=Yy;have fin:EP X pins σ Q w s:=⟨z,H,I,rw',q⟩;exact eO (x:=w) pl.typeIs slot_tuple_getitem.lookup
  (getItem_tuple (j:=j) (Q:=λr s'=>r=w/\EP X pins σ Q r s') pl (by omega) (by omega) (by rw [D8,<-hl];exact h1) (by simpa using ew) ⟨rfl,fin⟩) hs
theorem Cz:IxR X Ak:=by
 intro value slice pins s σ H x y v u Q I rx ry h hs;obtain⟨z,i,c,rfl,rfl,hz,he,q⟩:=h;obtain⟨t,rfl⟩:=rx;obtain⟨t',rfl⟩:=ry;obtain⟨j,h1,h2,h3,h4,h5⟩:=VS he;have hl:z.cps.toList.length=z.length:=by simp [Str.length]
 rw [hl] at h1 h4 h5;have hn:=Yy;exact tail_any (pW s z t) slot_str_getitem.lookup (getItem_str (c:=c) (by
  have e1:decide (i< -(2^63:P3))=false:=T1 (by omega);have e2:decide (i>=2^63)=false:=T1 (by omega);rw [e1,e2,m8]) (by rw [h1];simpa using h2) ⟨.str ⟨#[c]⟩,H,I.tok _,⟨_,rfl⟩,q⟩) hs
def rIx (K:G4):R2:=λx y H Q=>Ai K x y H Q\/Aj K x y H Q\/Ak x y H Q
theorem CA:IxR X (rIx X.K):=ix_list.or (ix_tup.or Cz)
theorem XQ (its:G0 G1)(n j:G7)(u:G1):E6 (·.setIfInBounds j u) {cls:= .type "list",data:= .seq its.toArray n}= {cls:= .type "list",data:= .seq (its.set j u).toArray n}:=by
 simp [E6]
theorem Inv.lst {pins:G0 (P1×Obj)}{σ:St}{H:Hp}{s:G2}{p:P1}{xs:G0 V}(I:Inv X pins σ H s)(h:H p=some (.lst xs)):
 ∃ (its:G0 G1) (n:G7),Vals xs its/\s.heap.get? p=some {cls:= .type "list",data:= .seq its.toArray n}/\xs.length<=sizeLine:=by
 obtain⟨z,its,n,r,e⟩:=I.hok p _ h;exact⟨its,n,r,e,z⟩
theorem Inv.lstUpd {pins:G0 (P1×Obj)}{σ:St}{H:Hp}{s:G2}{p:P1}{xs ys:G0 V}{its its':G0 G1}{n n':G7}{f:Obj->Obj}(I:Inv X pins σ H s)(h:H p=some (.lst xs))
 (ho:s.heap.get? p=some {cls:= .type "list",data:= .seq its.toArray n})(hf:f {cls:= .type "list",data:= .seq its.toArray n}= {cls:= .type "list",data:= .seq its'.toArray n'})(r:Vals ys its')(hz:ys.length<=sizeLine)(t:G7):
 Inv X pins σ (upd H p (.lst ys)) {s with heap:=s.heap.update p f,toks:=t}:=by
 have e:(s.heap.update p f).get? p=some {cls:= .type "list",data:= .seq its'.toArray n'}:=by
  rw [N4 f ho (by rw [hf]<;>rfl),hf]
 refine I.write (x:=p) (e:=p) (by rw [h];trivial) (.inl rfl) (λb u hb q=>(eQ _ _ (E4 hb)).trans q) ⟨_,e⟩ ?_;exact⟨hz,its',n',r,e⟩
def LV:V->V->V->Hp->(Hp->Prop)->Prop:=λo i v H Q=> ∃p xs k j,o= .ref p/\i= .int k/\H p=some (.lst xs)/\ixN xs.length k=some j/\Q (upd H p (.lst (xs.set j v)))
theorem DL:OZ X LV:=by
 intro pins s σ H o i v ov iv u Q I ro ri rv h;obtain⟨p,xs,k,j,rfl,rfl,hp,hj,q⟩:=h;cases ro;obtain⟨t,rfl⟩:=ri;obtain⟨its,n,r,ho,hz⟩:=I.lst hp;obtain⟨h1,h2,h3,h4⟩:=Gk hj;have hl:=r.length;have hn:=Yy;have I':Inv X pins σ (upd H p (.lst (xs.set j v))) {s with heap:=s.heap.update p (E6 (·.setIfInBounds j u))}:=
  I.lstUpd hp ho (XQ its n j u) (r.set rv j) (by rw [List.length_set];exact hz) s.toks
 by_cases h0:0<=k
 ·have hk:k.toNat=j:=by
   rw [lA h0 h4] at h1;exact F4 h1
  exact qO ho h0 (by omega) (by rw [D8,<-hl];exact h4) (by rw [hk];exact⟨_,I',q⟩)
 ·have hk:(k+(its.toArray.size:P3)).toNat=j:=by
   rw [iN (by omega) h3] at h1;rw [D8,<-hl];exact F4 h1
  exact pX ho (by omega) (by rw [D8,<-hl];exact h3) (by omega) (by rw [hk];exact⟨_,I',q⟩)
theorem YD (lo hi:D0 P3)(n:G7):(aW lo hi none n).1=((HT.sIx n 0 lo:G7):P3)/\(aW lo hi none n).2.1=((HT.sIx n n hi:G7):P3)/\(aW lo hi none n).2.2=1:=by
 refine⟨?_,?_,rfl⟩
 ·cases lo with
  |none=>simp [aW,HT.sIx]
  |some i=>
   simp only [aW,HT.sIx,kH,show (1:P3)>0 by decide,gH]
   by_cases h:i<0
   ·simp only [h,gH]<;>omega
   ·simp only [h,iK]<;>omega
 ·cases hi with
  |none=>simp [aW,HT.sIx]
  |some i=>
   simp only [aW,HT.sIx,kH,show (1:P3)>0 by decide,gH]
   by_cases h:i<0
   ·simp only [h,gH]<;>omega
   ·simp only [h,iK]<;>omega
theorem Wv (its:G0 G1)(lo hi:D0 P3):slicePick its.toArray lo hi none=((its.drop (HT.sIx its.length 0 lo)).take (HT.sIx its.length its.length hi-HT.sIx its.length 0 lo)).toArray:=by
 obtain⟨h1,h2,h3⟩:=YD lo hi its.toArray.size;unfold slicePick;rw [h1,h2,h3];simp only [sliceRange_one,pick_run,D8]<;>rfl
def AN (K:G4):V->D0 P3->D0 P3->Hp->VK->Prop:=λx lo hi H Q=> ∃a xs,x= .ref a/\SqL K H a xs/\ ∀p,H p=none->Q (.ref p) (upd H p (.lst (Dz xs lo hi)))
theorem MY:SlR X (AN X.K):=by
 intro pins s σ H x v vl vu lo hi sl Q I rx hs pl pu h;obtain⟨a,xs,rfl,hx,q⟩:=h;cases rx;obtain⟨its,r,ht,hz⟩:=I.list hx;have hlen:=r.length;refine⟨"list",_,slot_list_getitem.lookup,ht.isList.typeIs,?_⟩;refine wpAny_getItem_list_slice ht.isList hs pl pu .none (by simp) ?_ (by rw [D8]<;>omega);rw [Wv,<-hlen];refine⟨.ref s.heap.objs.size,_,I.laid (t':=s.toks) (o:= .lst (Dz xs lo hi)) (λb ob q=>G5 _ q) (P0 _) ?_,rfl,q _ (I.hok.fresh (P0 _))⟩;exact⟨S7 (Zc xs lo hi) hz,_,0,(r.drop (HT.sIx xs.length 0 lo)).take (HT.sIx xs.length xs.length hi-HT.sIx xs.length 0 lo),D9 _ rfl⟩
theorem call_len_seq:CallR X (.builtin "len") (λxs H Q=> ∃p ys,xs= [.ref p]/\(SqL X.K H p ys\/SqT X.K H p ys)/\Q (.int ys.length) H):=by
 intro pins s σ H xs us Q I r h;obtain⟨p,ys,rfl,hq,q⟩:=h;obtain⟨u,rfl,rx⟩:=wX r;cases rx;have hn:=Yy;rcases hq with hq|hq
 ·obtain⟨its,r',pl,hz⟩:=I.list hq;have hlen:=r'.length;exact Calls.call_len_list pl.isList (by simp only [D8]<;>omega) ⟨.int ys.length,H,I.tok _,⟨s.toks+1,by rw [D8,hlen]⟩,q⟩
 ·obtain⟨its,r',pl,hz⟩:=I.tuple hq;have hlen:=r'.length;exact len_tuple pl (by simp only [D8]<;>omega) ⟨.int ys.length,H,I.tok _,⟨s.toks+1,by rw [D8,hlen]⟩,q⟩
theorem call_tuple_of:CallR X (.type "tuple") (λxs H Q=> ∃p ys,xs= [.ref p]/\((SqL X.K H p ys/\ ∀l,H l=none->Q (.ref l) (upd H l (.tup ys)))\/(SqT X.K H p ys/\Q (.ref p) H))):=by
 intro pins s σ H xs us Q I r h;obtain⟨p,ys,rfl,h⟩:=h;obtain⟨u,rfl,rx⟩:=wX r;cases rx;rcases h with ⟨hq,q⟩|⟨hq,q⟩
 ·obtain⟨its,r',pl,hz⟩:=I.list hq;have hlen:=r'.length;refine call_tuple_list pl.isList (λh' kp=> ?_) (by simp only [D8]<;>omega);have I1:Inv X pins σ H {s with heap:=h'}:=I.kept (t':=s.toks) kp;have I2:Inv X pins σ (upd H h'.objs.size (.tup ys)) {s with heap:=h'.push {cls:= .type "tuple",data:= .seq its.toArray}}:=
   I1.laid (t':=s.toks) (λb o e=>G5 _ e) (P0 _) (show ObjOk X.prog X.w _ _ _ (.tup ys) from ⟨hz,its,r',IsTupN.new _ _⟩)
  exact⟨.ref h'.objs.size,_,I2,rfl,q _ (I1.hok.fresh (P0 _))⟩
 ·obtain⟨its,r',pl,hz⟩:=I.tuple hq;exact call_tuple_same pl ⟨.ref p,H,I,rfl,q⟩
def tyV (K:G4)(T:J6)(x:V)(H:Hp):Prop:=match x with
 | .str _=>T= "str"
 | .int _=>T= "int"
 | .ref p=>(T= "list" /\ ∃xs,SqL K H p xs)\/(T= "tuple" /\ ∃o,K.lookup p=some o/\o.cls= .type "tuple" /\o.dict=none)\/
  (T= "dict" /\((∃kvs,H p=some (.dK kvs))\/ ∃kvs,H p=some (.dT kvs)))\/(T= "set" /\ ∃S n,H p=some (.set S n))
 |_=>False
theorem CB {pins:G0 (P1×Obj)}{σ:St}{H:Hp}{s:G2}{T:J6}{x:V}{v:G1}(I:Inv X pins σ H s)(r:RelV x v)(ty:tyV X.K T x H):
 s.TypeIs v T/\ ∀a,v= .ref a-> ∃ob,s.heap.get? a=some ob/\ob.dict=none:=by
 cases x with
 |str z=>
  obtain⟨t,rfl⟩:=r;cases (show T= "str" from ty);exact⟨pW s z t,λ_ e=>nomatch e⟩
 |int i=>
  obtain⟨t,rfl⟩:=r;cases (show T= "int" from ty);exact⟨eS s i t,λ_ e=>nomatch e⟩
 |ref p=>
  cases r;rcases ty with ⟨rfl,xs,hq⟩|⟨rfl,o,hk,hc,hd⟩|⟨rfl,hk⟩|⟨rfl,S,n,hk⟩
  ·obtain⟨its,_,pl,_⟩:=I.list hq;refine⟨pl.isList.typeIs,λa e=> ?_⟩;cases e;obtain⟨o,n,e,c,hd,_⟩:=pl;exact⟨o,e,hd⟩
  ·refine⟨⟨o,I.kIn p o hk,hc⟩,λa e=> ?_⟩;cases e;exact⟨o,I.kIn _ o hk,hd⟩
  ·have z: ∃o,s.heap.get? p=some o/\o.ExactDict:=by
    rcases hk with ⟨kvs,hk⟩|⟨kvs,hk⟩
    ·obtain⟨_,_,_,_,o,_,_,e,ex,_⟩:=I.hok p _ hk;exact⟨o,e,ex⟩
    ·obtain⟨_,_,_,_,o,_,_,e,ex,_⟩:=I.hok p _ hk;exact⟨o,e,ex⟩
   obtain⟨o,e,ex⟩:=z;refine⟨⟨o,e,ex.1⟩,λa e2=> ?_⟩;cases e2;exact⟨o,e,ex.2.1⟩
  ·obtain⟨o,_,_,_,e,ex,_⟩:=I.hok p _ hk;refine⟨⟨o,e,ex.1⟩,λa e2=> ?_⟩;cases e2;exact⟨o,e,ex.2.1⟩
 |_=>exact False.elim ty
def tBM (K:G4)(T:J6)(r:V->G0 V->Hp->VK->Prop)(to:TE)(t:TA):TE:=λσ H Q=>to σ H λx H1=>tyV K T x H1/\t σ H1 λxs H2=>r x xs H2 Q
variable {o e:S8}{es:G0 S8}{to:TE}{t:TA}{name:Str}{apos cpos:Pos}{T id:J6}{r:V->G0 V->Hp->VK->Prop}
theorem CC (pa:PlainAttrs T)(slot:Slot T name id)(hty:typeOf (.builtin id)=pure (.type "method_descriptor"))(hm:MtR X id r)(ho:PE X o to)(ha:PA X (e::es) t)
 (hbase:aK o name X.env (L4 o X.env)=L4 o X.env:=by rfl)
 (hfew:((O9 cpos (D2 (e::es) X.env)).all (λx=> !x.1)&&(fW cpos (bT [] X.env)).all (λx=>x.1.isSome)
  &&decide ((e::es).length+([]:G0 a6).length+(if ([]:G0 a6).isEmpty then 0 else 1)<30))=true:=by rfl)
 (hline:(apos.endLine==cpos.line)=true:=by rfl)(hs:D2 (e::es) X.env=(false,L4 e X.env)::D2 es X.env:=by rfl)(hplain:(O9 cpos (D2 es X.env)).any (·.1)=false:=by rfl):
 PE X (.Call (.Attribute o name apos) (e::es) [] cpos) (tBM X.K T r to t):=by
 intro pins s σ H Q I h;refine eT hbase hfew hline rfl (thn (ho pins s σ H _ I h) λv s1 ⟨x,H1,I1,r1,ty,q1⟩=> ?_);obtain⟨h1,h2⟩:=CB I1 r1 ty;refine⟨T,id,pa,slot,hty,h1,h2,?_⟩;have hA:=ha cpos pins s1 σ H1 _ I1 q1;rw [hs] at hA ⊢;refine Calls.callWith_builtin (by show (false||(O9 cpos (D2 es X.env)).any (·.1))=false;rw [hplain]<;>rfl) (Calls.evalArgs_plain ?_);exact thn hA λus s2 ⟨vs,H2,I2,r2,q2⟩=>hm pins s2 σ H2 x vs v us Q I2 r1 r2 q2
end
def MtM (X:Cx)(id:J6)(r:V->G0 V->Hp->VK->Prop):Prop:=
 ∀ (pins:G0 (P1×Obj)) (s:G2) (σ:St) (H:Hp) (x:V) (xs:G0 V) (v:G1) (us:G0 G1) (Q:VK),Inv X pins σ H s->RelV x v->Vals xs us->r x xs H Q->
  R4 (R5 X.prog X.w) X.A (call (.builtin id) (v::us)) (EP X pins σ Q) X.xe s
theorem Vals.one: ∀ {x:V} {us:G0 G1},Vals [x] us-> ∃u,us= [u]/\RelV x u
 |_,_,.cons r .nil=>⟨_,rfl,r⟩
theorem Vals.rep {xs:G0 V}{us:G0 G1}(h:Vals xs us): ∀k:G7,Vals (T8 k xs).flatten (T8 k us).flatten
 |0=> .nil
 |k+1=>by
  rw [J0,J0,V2,V2];exact Vals.append h (Vals.rep h k)
theorem Zd (its:G0 G1): ∀ (k:G7) (acc:G0 G1),
 mE (λx1 x2=>x1++x2) acc.toArray (T8 k its.toArray)=(acc++(T8 k its).flatten).toArray
 |0,acc=>by simp
 |k+1,acc=>by
  have e:acc.toArray++its.toArray=(acc++its).toArray:=by simp
  have e2:(acc++its)++(T8 k its).flatten=acc++(T8 (k+1) its).flatten:=by
   rw [J0,V2,K5]
  rw [<-e2,<-Zd its k (acc++its),<-e,J0,lI]
section
variable {X:Cx}{pins:G0 (P1×Obj)}{σ:St}{H:Hp}{s:G2}{l b:P1}{xs ys zs:G0 V}
theorem Inv.lset {its its':G0 G1}{n:G7}{f:M2 G1->M2 G1}{t':G7}(I:Inv X pins σ H s)(hH:H l=some (.lst xs))
 (e:s.heap.get? l=some {cls:= .type "list",data:= .seq its.toArray n})(hf:f its.toArray=its'.toArray)(hv:Vals ys its')(hz:ys.length<=sizeLine):
 Inv X pins σ (upd H l (.lst ys)) {s with heap:=s.heap.update l (E6 f),toks:=t'}:=by
 have q:=PySem.IsL.update e f;rw [hf] at q;refine I.write (x:=l) (e:=l) (by rw [hH];exact trivial) (.inl rfl) (λb' u hb hu=>(eQ s.heap (E6 f) (E4 hb)).trans hu) ⟨_,q⟩ ?_;exact⟨hz,its',_,hv,q⟩
theorem Inv.lnew {its:G0 G1}{t':G7}(I:Inv X pins σ H s)(hv:Vals ys its)(hz:ys.length<=sizeLine):
 Inv X pins σ (upd H s.heap.objs.size (.lst ys)) {s with heap:=s.heap.push {cls:= .type "list",data:= .seq its.toArray},toks:=t'}:=
 I.laid (λ_ _ q=>G5 _ q) (P0 _) ⟨hz,its,0,hv,D9 _ rfl⟩
theorem Inv.fresh (I:Inv X pins σ H s):H s.heap.objs.size=none:=I.hok.fresh (P0 _)
theorem Inv.lstM (I:Inv X pins σ H s)(hH:H l=some (.lst xs)):xs.length<=sizeLine/\ ∃ (its:G0 G1) (n:G7),Vals xs its/\xs.length=its.length/\s.heap.get? l=some {cls:= .type "list",data:= .seq its.toArray n}:=by
 obtain⟨z,its,n,r,e⟩:=I.hok l _ hH;exact⟨z,its,n,r,r.length,e⟩
theorem DM {n:G7}(h:n<=sizeLine):aL n=false:=by
 unfold aL;exact T1 (by omega)
end
section
variable {X:Cx}
def MZ:V->G0 V->Hp->VK->Prop:=λx vs H Q=> ∃l xs y,x= .ref l/\vs= [y]/\H l=some (.lst xs)/\xs.length<sizeLine/\Q .non (upd H l (.lst (xs++ [y])))
theorem Gm:MtM X "list.append" MZ:=by
 intro pins s σ H x vs v us Q I rx rv h;obtain⟨l,xs,y,rfl,rfl,hH,hz,q⟩:=h;cases rx;obtain⟨u,rfl,ru⟩:=rv.one;obtain⟨z,its,n,r,hl,e⟩:=I.lstM hH;refine hJ F.slot_list_append ⟨_,e,rfl⟩ F.entry_list_append (F.args_list_append_2 _ _) (PySem.list_append l its.toArray n u (by rw [D8];omega)) ⟨e,?_⟩;refine⟨.non,_,I.lset (its':=its++ [u]) hH e (by simp) (r.append (.cons ru .nil)) ?_,rfl,q⟩;rw [D4,fJ];omega
def AO:R2:=λx y H Q=> ∃l b xs zs,x= .ref l/\y= .ref b/\H l=some (.lst xs)/\H b=some (.lst zs)/\xs.length+zs.length<=sizeLine/\ ∀p,H p=none->Q (.ref p) (upd H p (.lst (xs++zs)))
theorem CF:OpR X (O4 .Add) AO:=by
 intro pins s σ H x y v u Q I rx ry h;obtain⟨l,b,xs,zs,rfl,rfl,hH,hB,hz,q⟩:=h;cases rx;cases ry;obtain⟨z,its,n,r,hl,e⟩:=I.lstM hH;obtain⟨z2,its2,n2,r2,hl2,e2⟩:=I.lstM hB;refine PySem.P.add_list e e2 ?_ (by rw [D8,D8];omega);have ea:its.toArray++its2.toArray=(its++its2).toArray:=by simp
 rw [ea];exact⟨.ref _,_,I.lnew (t':=s.toks) (r.append r2) (by rw [D4];omega),rfl,q _ I.fresh⟩
def AQ:R2:=λx y H Q=> ∃l k xs,x= .ref l/\y= .int k/\H l=some (.lst xs)/\ -(2^63)<=k/\k<2^63/\xs.length*k.toNat<=sizeLine/\
 ∀p,H p=none->Q (.ref p) (upd H p (.lst (T8 k.toNat xs).flatten))
theorem VU {α:Type}(xs:G0 α)(k:G7):(T8 k xs).flatten.length=k*xs.length:=by
 induction k with
 |zero=>simp
 |succ k ih=>rw [J0,V2,D4,ih,Z5,eU]
theorem CG:OpR X (O4 .Mult) AQ:=by
 intro pins s σ H x y v u Q I rx ry h;obtain⟨l,k,xs,rfl,rfl,hH,h1,h2,hz,q⟩:=h;cases rx;obtain⟨t,rfl⟩:=ry;obtain⟨z,its,n,r,hl,e⟩:=I.lstM hH;have hlen:its.toArray.size*k.toNat<=sizeLine:=by rw [D8,<-hl];exact hz
 have hcap: ¬its.toArray.size*k.toNat>(2^63-1) / 8:=by
  have:(sizeLine:G7)<=(2^63-1) / 8:=by decide
  omega
 have hfit: ¬ (!mF k)=true:=by
  rw [fitsIndex_both h1 h2];exact P9
 have hlong: ¬aL (its.toArray.size*k.toNat)=true:=by
  rw [DM hlen];exact P9
 have hnew:mE (λx1 x2=>x1++x2) #[] (T8 (if its.toArray.isEmpty=true then 0 else k.toNat) its.toArray)=(T8 k.toNat its).flatten.toArray:=by
  have f0: ∀m:G7,mE (λx1 x2=>x1++x2) #[] (T8 m its.toArray)=(T8 m its).flatten.toArray:=λm=>by
   have:=Zd its m [];rw [K8] at this;exact this
  rw [f0];cases its with
  |nil=>simp
  |cons a r'=>rw [R7 (by simp)]
 refine cV (T:= "list") (U:= "int") (by decide) ⟨_,e,rfl⟩ (λs'=>eS s' k t) noFill_list_mul lJ bZ repeat_list F.slot_int_index.lookup
  (hJ bZ (eS s k t) kI (iO _ _) (int___rmul___int_list k t l its.toArray n)
   ⟨e,rfl,⟨_,e,rfl⟩,hJ F.slot_list_mul ⟨_,e,rfl⟩ F.entry_list_mul (F.args_list_mul_2 _ _) (AutoListH.list___mul___list_int_3 l its.toArray n k t hfit hcap hlong) ⟨e,?_⟩⟩)
 rw [hnew];exact⟨.ref _,_,I.lnew (t':=s.toks) (r.rep k.toNat) (by rw [VU,Q1];exact hz),rfl,q _ I.fresh⟩
end
end L2
namespace Att
open PySem PySem.W PySem.Calls PyProof.Rows
theorem Ze {P:qW}{h:B3}: ∀ (ns:G0 P3) (vs:G0 G1),WellAll P h vs (ns.map WData.int)->X2 vs ns:=by
 intro ns
 induction ns with
 |nil=>
  intro vs w;rw [a7] at w;cases w;exact .nil
 |cons n ns ih=>
  intro vs w;rw [F9] at w;cases w with
  |cons a b=>
   cases a;exact .cons _ _ (ih _ b)
theorem Gn {l:OpenLaw}{n:G7}(hn:l.most=some n){P:qW}{h:B3}{args:G0 WData}{vals:G0 G1}
 (hpre:l.row.toRowW.claim.pre args=true)(hwl:WellAll P h vals args):
 ∃a vs ns,vals= [U8 a]/\args= [WData.list (ns.map WData.int)]/\h.get? a=some {cls:= .type "list",data:= .seq vs.toArray}/\X2 vs ns/\ns.length<=n:=by
 have hsh:WShape.hasAll [] args [.list .int]=true:=(pre_splitW hpre).1;have hc:l.pre.holds [] {args:=args}=true:=(pre_splitW hpre).2;obtain⟨d,r,rfl,h1,h2⟩:=hasAllW_cons hsh;obtain rfl:=hasAllW_nil h2;obtain⟨xs,rfl,h3⟩:=hasW_list h1;obtain⟨ns,rfl⟩:=items_int h3;have hlen:ns.length<=n:=by
  unfold OpenLaw.pre at hc;have h4:(WTm.not (.lt (.lit (.int (n:P3))) (.len (.arg 0)))).holds [] {args:= [.list (ns.map .int)]}=true:=by
   have h4:=(holds_andW hc).1;rw [hn] at h4;exact h4
  have h5:=condW_of h4 (w_not (w_lt w_lit (w_len_list (w_arg rfl))));rw [G3] at h5;refine kJ λq=> ?_
  have q':(n:P3)<((ns.length:G7):P3):=by omega
  first
   |(rw [D7 q'] at h5;exact absurd h5 (by decide))
   |(simp at h5;omega)
 cases hwl with
 |cons w1 w2=>
  cases w2;cases w1 with
  |list ho hall=>exact⟨_,_,ns,rfl,rfl,ho,Ze ns _ hall,hlen⟩
theorem Go (l:OpenLaw)(args:G0 WData):l.row.toRowW.claim.post args (.bool true) args=true:=
 postW_of (r:=l.row.toRowW) (X:=(true==true))
  (show WShape.has [] (.bool true) .bool=true by first|rfl|decide|simp [WShape.has,WShape.arms,WShape.armsAll])
  (show (WTm.eq .res (.lit (.bool true))).value [] {args:=args,res:=some (.bool true),after:=args}=some (.bool (true==true)) from w_eq_bool (w_res rfl) w_lit) rfl
theorem attach_call {l:OpenLaw}{n:G7}{q:S9}{loose:G0 Str}{XP:(Str->D0 G1)->B3->Prop}{YP:N2->B3->Prop}{d:DefRec}
 (hn:l.most=some n)(hdf:d.params.defaults= [])
 (call: ∀ (w:N2) (s₀ rG:G2) (mg mb:Str->D0 G1) (fa:P1) (o:Obj) (pm cd doc:G1) (a:P1) (vs:G0 G1) (ns:G0 P3),
  Ground q loose [] XP w s₀ mg mb rG.heap->YP w rG.heap->
  rG.heap.get? fa=some o->o.data= .func (docDef d.name d.params d.body d.scope pm cd doc)->rG.heap.CodeRec cd d.name->mg d.name=some (.ref fa)->
  rG.heap.get? a=some {cls:= .type "list",data:= .seq vs.toArray}->X2 vs ns->ns.length<=n->rG.gens= #[]->
  U3 (R5 l.prog w) gJ (.call (.ref fa) ⟨[.ref a],[]⟩) (λr s'=>r= .ok (.ret (.bool true))/\OldK rG.heap s'.heap/\s'.os=rG.os/\cZ s'.gens) rG):
 WalkO q loose XP YP l.row.toRowW d [] (λf vs=>pY f vs):=by
 intro w s₀ rG mg mb G Y fa o pm cd doc dV kV ho hd hcd hD hmg hg args vals as hpre hlay hrd hwl hlo;obtain rfl:dV= .none:=Dflts.none hD hdf;obtain rfl:kV= .none:=Dflts.noKw hD;obtain⟨a,vs,ns,rfl,rfl,hobj,hints,hlen⟩:=Gn hn hpre hwl;refine enter_call (cA (call w s₀ rG mg mb fa o pm cd doc a vs ns G Y ho (fd_plain hd) hcd hmg hobj hints hlen hg) λr s' hq=> ?_);obtain⟨rfl,h2,h3,h4⟩:=hq;exact⟨.inl ⟨.bool true,.bool true,[],rfl,λ_=>rfl,.bool true,Go l _,λ_=>⟨List.Pairwise.nil,λ_ hm=>(nomatch hm)⟩⟩,h2,h3,h4⟩
end Att
namespace L2
open PySem PySem.Spec PyProof.Rows
theorem YE: ∀ {vs:G0 G1} {ns:G0 P3},X2 vs ns->Vals (ns.map V.int) vs
 |_,_,.nil=> .nil
 |_,_,.cons n t h=> .cons ⟨t,rfl⟩ (YE h)
def wZ (s:L6):Arguments:=match s with
 | .FunctionDef _ a _ _ _ _ _ _ _ _=>a
 |_=> {posonlyargs:= [],args:= [],vararg:=none,kwonlyargs:= [],kw_defaults:= [],kwarg:=none,defaults:= []}
def zv (s:L6):G0 L6:=match s with
 | .FunctionDef _ _ b _ _ _ _ _ _ _=>b
 |_=> []
def jb (s:L6):E3:=match s with
 | .FunctionDef _ _ _ _ _ _ sc _ _ _=>sc
 |_=> {kind:= .function,names:= [],isGenerator:=false,isCoroutine:=false}
abbrev CX0:CXT:=λ_ _ _ _ _ _=>False
abbrev E0:XK:=λ_ _ _=>False
variable {X:Cx}
theorem LW:Gh CX0 X E0:=λ_ _ _ _ _ _ _ h=>h.elim
structure Fun (K:G4)(x qual:Str)(st:L6)(f:P1)(fd:T7):Prop where
 ex: ∃ (oc:G1) (od:D0 P1) (kV doc pm:G1) (an:D0 P1) (cdv ct:G1) (osl:M2 (D0 G1)),
  fd=Z3 x qual (wZ st) (zv st) (jb st) .none kV doc pm an cdv ct/\K.lookup f=some ⟨oc,od,.func fd,osl⟩/\fV K cdv qual=true
 kp:W4 K (.ref f)=true
section
variable {P:S9}{w:N2}{K:G4}{mg:Str->D0 G1}{base:B3}
variable {qual:Str}
theorem Fun.ok {x:Str}{st:L6}{f:P1}{fd:T7}{N ps:G0 Str}{k:G7}{sp:Sp}(F:Fun K x qual st f fd)(S:FnScope N ps (jb st))(len: ∀vs H Q E,sp vs H Q E->vs.length=ps.length)
 (hbody: ∀ (cdv:G1) (A:T9) (outer:G0 Env) (s:G2) (H:Hp) (vs:G0 V) (Q:VK) (E:XK),Room k (A.deeper (cI qual (jb st) s.heap.objs.size f cdv))->sp vs H Q E->
  ∃t,PSs (DI CX0 P w K mg base N qual (jb st) f cdv A outer s H E).nox (zv st) t/\t {nx:=λ_ H'=>Q .non H',rt:=Q} (start N vs) H):FnOk P w K mg base CX0 (k+1) f fd ps sp:=by
 obtain⟨oc,od,kV,doc,pm,an,cdv,ct,osl,rfl,lk,hcd⟩:=F.ex;refine LM lk hcd S len λA outer s H vs Q E hr hsp=> ?_
 obtain⟨t,h,q⟩:=hbody cdv A outer s H vs Q E hr hsp;exact⟨t,h.nox,q⟩
theorem Fun.binds {x:Str}{st:L6}{f:P1}{fd:T7}{ps:G0 Str}(F:Fun K x qual st f fd)
 (h: ∀ (kV doc pm:G1) (an:D0 P1) (cdv ct:G1) (us:G0 G1),us.length=ps.length->o3 (Z3 x qual (wZ st) (zv st) (jb st) .none kV doc pm an cdv ct) ⟨us,[]⟩=pure (ps.zip us)):Binds K fd ps []:=by
 obtain⟨oc,od,kV,doc,pm,an,cdv,ct,osl,rfl,lk,hcd⟩:=F.ex;exact .all (h kV doc pm an cdv ct)
theorem CH {x:Str}{st:L6}{f:P1}{oc:G1}{od an:D0 P1}{osl:M2 (D0 G1)}{kV doc pm cdv ct:G1}(l:K.lookup f=some ⟨oc,od,.func (Z3 x qual (wZ st) (zv st) (jb st) .none kV doc pm an cdv ct),osl⟩)
 (c:fV K cdv qual=true)(k:W4 K (.ref f)=true):Fun K x qual st f (Z3 x qual (wZ st) (zv st) (jb st) .none kV doc pm an cdv ct):=⟨⟨oc,od,kV,doc,pm,an,cdv,ct,osl,rfl,l,c⟩,k⟩
end
theorem jC {n:G7}(h:n<=1000):n<sizeLine:=aR h (by decide)
section
variable {X:Cx}
theorem pv (i:G7){x:Str}{pos:Pos}(hN:X.N[i]? =some x:=by rfl)(hv:Vis X.env.scope x:=by first|exact E1 rfl|exact Q2 (E1 rfl)|exact Q2 (Q2 rfl))(hd:(x==("__debug__" :Str))=false:=by decide)
 (hcd:(x==("__classdict__" :Str))=false:=by decide):PE X (.Name x pos) (Ls i):=RW hN hv hd hcd
end
theorem VQ {A B:Prop}(h:B):if false=true then A else B:=by
 rw [R7 P9];exact h
theorem QJ {A B:Prop}(h:A):if true=true then A else B:=by
 rw [R0 rfl];exact h
theorem BJ {c A B:Prop}[Decidable c](h1:c->A)(h2: ¬c->B):if c then A else B:=by
 by_cases h:c
 ·rw [R0 h];exact h1 h
 ·rw [R7 h];exact h2 h
def zY (names:G0 (Str×NameKind))(env:Env)(cs:G0 (Str×P1)):G0 (Str×P1):=
 names.foldl (λcs p=>if p.2= .free then (match env.cells.lookup p.1 with|some c=>(p.1,c)::cs|none=>cs) else cs) cs
theorem zp (p:Str×NameKind)(l:G0 (Str×NameKind))(env:Env)(cs:G0 (Str×P1)):
 zY (p::l) env cs=zY l env (if p.2= .free then (match env.cells.lookup p.1 with|some c=>(p.1,c)::cs|none=>cs) else cs):=rfl
variable {env:Env}
theorem Zf {f:Str×NameKind->G0 (Str×P1)->Sem (nW (G0 (Str×P1)))}
 (h1: ∀p cs,p.2≠ .free->f p cs=pure (.yield cs))(h2: ∀p cs c,p.2= .free->env.cells.lookup p.1=some c->f p cs=pure (.yield ((p.1,c)::cs))):
 ∀ (l:G0 (Str×NameKind)) (cs:G0 (Str×P1)),(∀p∈l,p.2= .free-> ∃c,env.cells.lookup p.1=some c)->forIn l cs f=pure (zY l env cs)
 | [],cs,_=>rfl
 |p::l,cs,h=>by
  have ih:=Zf h1 h2 l
  by_cases hp:p.2= .free
  ·obtain⟨c,hc⟩:=h p P8 hp;rw [b5,h2 p cs c hp hc,pure_bind];show forIn l ((p.1,c)::cs) f=_;rw [ih _ λq hq=>h q (R6 _ hq),zp,R0 hp,hc]
  ·rw [b5,h1 p cs hp,pure_bind];show forIn l cs f=_;rw [ih _ λq hq=>h q (R6 _ hq),zp,R7 hp]
variable {scope:E3}
theorem vp (h: ∀p∈scope.names,p.2= .free-> ∃c,env.cells.lookup p.1=some c):pZ scope env=pure (zY scope.names env []):=by
 simp only [pZ];rw [Zf (env:=env) (λp cs hp=> ?_) (λp cs c hp hc=> ?_) _ _ h]
 ·rfl
 ·obtain⟨n,k⟩:=p;have hb:(k==B9)=false:=by simpa using hp
  simp only [hb,M8,iK]
 ·obtain⟨n,k⟩:=p;have hb:(k==B9)=true:=by simpa using hp
  have hc':env.cells.lookup n=some c:=hc;simp only [hb,gH,cellOf,hc',pure_bind]
theorem Zg: ∀ (l:G0 (Str×NameKind)) (cs:G0 (Str×P1)),(∀p∈cs,env.cells.lookup p.1=some p.2)-> ∀p∈zY l env cs,env.cells.lookup p.1=some p.2
 | [],cs,h,p,hp=>h p hp
 |q::l,cs,h,p,hp=>by
  rw [zp] at hp;refine Zg l _ (λr hr=> ?_) p hp
  by_cases hq:q.2= .free
  ·rw [R0 hq] at hr;cases e:env.cells.lookup q.1 with
   |none=>rw [e] at hr;exact h r hr
   |some c=>
    rw [e] at hr;rcases S5.mp hr with rfl|hr
    ·exact e
    ·exact h r hr
  ·rw [R7 hq] at hr;exact h r hr
theorem Zh: ∀ (l:G0 (Str×NameKind)) (cs:G0 (Str×P1)),∀p∈cs,p∈zY l env cs
 | [],cs,p,hp=>hp
 |q::l,cs,p,hp=>by
  rw [zp];refine Zh l _ p ?_
  by_cases hq:q.2= .free
  ·rw [R0 hq];cases e:env.cells.lookup q.1 with
   |none=>exact hp
   |some c=>exact R6 _ hp
  ·rw [R7 hq];exact hp
variable {x:Str}
theorem Zi {c:P1}(hc:env.cells.lookup x=some c): ∀ (l:G0 (Str×NameKind)) (cs:G0 (Str×P1)),(x,B9)∈l->(x,c)∈zY l env cs
 |q::l,cs,h=>by
  rw [zp];rcases S5.mp h with e|h
  ·subst e;rw [R0 rfl,hc];exact Zh l _ _ P8
  ·exact Zi hc l _ h
theorem jX {α:Type}: ∀ {l:G0 (Str×α)} {x:Str} {c:α},l.lookup x=some c->(x,c)∈l
 | [],_,_,h=>by simp at h
 |(n,k)::r,x,c,h=>by
  rw [F7] at h;cases hx:x==n with
  |true=>
   rw [hx] at h;have e:x=n:=eq_of_beq hx;cases h;subst e;exact P8
  |false=>rw [hx] at h;exact R6 _ (jX h)
theorem Wc {α:Type}: ∀ {l:G0 (Str×α)} {x:Str} {c:α},(x,c)∈l-> ∃c',l.lookup x=some c'
 |(n,k)::r,x,c,h=>by
  rw [F7];cases hx:x==n with
  |true=>exact⟨_,rfl⟩
  |false=>
   rcases S5.mp h with e|h
   ·cases e;simp at hx
   ·exact Wc h
theorem Wd {l:G0 (Str×NameKind)}{c:P1}(h:(zY l env []).lookup x=some c):env.cells.lookup x=some c:=
 Zg l [] (λ_ z=>nomatch z) (x,c) (jX h)
theorem Gp {l:G0 (Str×NameKind)}{c:P1}(hc:env.cells.lookup x=some c)(h:(x,B9)∈l):(zY l env []).lookup x=some c:=by
 obtain⟨c',e⟩:=Wc (Zi hc l [] h);have:=Wd e;rw [hc] at this;cases this;exact e
theorem wB {κ:Type}{f:Str×κ->Str×κ}{g:Str->κ->κ}(hf: ∀n k,f (n,k)=(n,g n k))(x:Str): ∀l:G0 (Str×κ),(l.map f).lookup x=(l.lookup x).map (g x)
 | []=>rfl
 |(n,k)::r=>by
  rw [F9,hf,F7,F7,wB hf x r];cases same:x==n with
  |false=>rfl
  |true=>rw [eq_of_beq same];rfl
theorem ji {names:G0 (Str×NameKind)}{k:NameKind}(found:
 (names.map λ(n,k)=>if (k==B9&&env.scope.kind== .function&&env.kindOf n==some .cell) then (n,A3) else (n,k)).lookup x=some k):
  names.lookup x=some k\/names.lookup x=some .free:=by
 rw [wB (g:=λn k=>if (k==B9&&env.scope.kind== .function&&env.kindOf n==some .cell) then .cell else k) (λn k=>by dsimp only;split<;>rfl)] at found;obtain⟨k0,was,now⟩:=N9.mp found;split at now
 ·rename_i c;simp only [C3,beq_iff_eq] at c;exact .inr (by rw [was,c.1.1])
 ·exact .inl (by rw [was,now])
theorem zE: ∀ (names:G0 (Str×NameKind)) (n:G7) (acc:G0 (Str×P1)) (p:Str×P1),p∈I0 n names acc->p∈acc\/(n<=p.2/\(p.1,A3)∈names)
 | [],_,_,_,h=> .inl h
 |(x,k)::r,n,acc,p,h=>by
  unfold I0 at h;split at h
  ·rename_i hk;rcases zE r (n+1) _ p h with z|⟨z1,z2⟩
   ·rcases S5.mp z with e|z
    ·subst e;have:k= .cell:=by simpa using hk
     subst this;exact .inr ⟨P0 _,P8⟩
    ·exact .inl z
   ·exact .inr ⟨by omega,R6 _ z2⟩
  ·rcases zE r n acc p h with z|⟨z1,z2⟩
   ·exact .inl z
   ·exact .inr ⟨z1,R6 _ z2⟩
theorem jy: ∀ (names:G0 (Str×NameKind)) (n:G7) (acc:G0 (Str×P1)),I0 n names acc=I0 n names []++acc
 | [],_,_=>rfl
 |(x,k)::r,n,acc=>by
  unfold I0;split
  ·rw [jy r (n+1) ((x,n)::acc),jy r (n+1) [(x,n)],K5];rfl
  ·exact jy r n acc
theorem yz {α:Type}(l l':G0 (Str×α))(x:Str):(l++l').lookup x=(match l.lookup x with|some c=>some c|none=>l'.lookup x):=by
 induction l with
 |nil=>rfl
 |cons p l ih=>
  obtain⟨n,c⟩:=p;rw [W7,F7,F7];cases x==n with
  |true=>rfl
  |false=>exact ih
theorem yO {names:G0 (Str×NameKind)}(here:names.lookup x=some .cell):
 (names.map λ(n,k)=>if (k==B9&&env.scope.kind== .function&&env.kindOf n==some .cell) then (n,A3) else (n,k)).lookup x=some .cell:=by
 rw [wB (g:=λn k=>if (k==B9&&env.scope.kind== .function&&env.kindOf n==some .cell) then .cell else k) (λn k=>by dsimp only;split<;>rfl),here];simp
section
variable {M:k5}{A:T9}{E:G1->G2->Prop}{s:G2}
theorem XR (h:B3)(names:G0 (Str×NameKind)):(∀n c,(n,c)∈I0 h.objs.size names []->(pushCells h names).IsCell c none/\h.objs.size<=c)/\(I0 h.objs.size names []).Pairwise λx y=>x.2≠y.2:=
 have laid:=cellsFrom_ok names h h.objs.size [] ⟨by simp,.nil⟩ (P0 _)
 ⟨laid.empty,laid.apart⟩
theorem Jt {scope:E3}{globals:P1}{closure:G0 (Str×P1)}{qual:Str}{func:D0 P1}{code:G1}{outer:Env}{builtins:P1}{Q:Env->G2->Prop}
 (hQ: ∀h',h'.Ns s.heap.objs.size (λ_=>none)->(∀b o,s.heap.get? b=some o->h'.get? b=some o)->(∀n c,(n,c)∈I0 (s.heap.objs.size+1) scope.names []->h'.IsCell c none/\s.heap.objs.size+1<=c)->
  ((I0 (s.heap.objs.size+1) scope.names []).Pairwise λx y=>x.2≠y.2)->
  Q (newEnv scope s.heap.objs.size globals (I0 (s.heap.objs.size+1) scope.names closure) qual func code (some outer) builtins) {s with heap:=h'}):
 R4 M A (mG scope globals closure [] qual func code (some outer) builtins) Q E s:=by
 have names:=XR (s.heap.push {cls:= .type "dict",data:= .dict #[]}) scope.names;have first:(s.heap.push {cls:= .type "dict",data:= .dict #[]}).objs.size=s.heap.objs.size+1:=W8 ..
 rw [first] at names;unfold mG;refine wpAny_bind (wpAny_alloc (wpAny_bind (wpAny_layCells _ (λn k cs=>rfl) _ _ _ _ ?_)));simp only [Option.isSome_some,gH];rw [first];exact wpAny_bind (G8 (G8 (hQ _ ((Heap.Ns.new _ _).keeps (lK _ _)) (λb o here=>lK _ _ b o (G5 _ here)) names.1 names.2)))
end
def jl (X:Cx)(scope:E3)(C:P1):G0 (Str×P1):=I0 (C+1) scope.names (zY scope.names X.env [])
def zZ (X:Cx)(scope:E3)(C:P1)(s₀:G2)(H₀:Hp)(ex:G0 P1):Cx:=
 {X with s₀:=s₀,H₀:=H₀,env:=dP scope (jl X scope C) C X.env,outer:=X.stack,ex:=ex,fn:=λx=>scope.names.lookup x==some .cell,pn:= [],xe:=λ_ _=>False}
def jd (X:Cx)(scope:E3)(X':Cx):Prop:= ∃C s₀ H₀ ex,X'=zZ X scope C s₀ H₀ ex
structure BlockOk (X:Cx)(scope:E3)(js:G0 G7):Prop where
 kind:scope.kind= .function
 locs: ∀p∈scope.names,p.2= .local->scope.names.lookup p.1=some .local
 cels: ∀p∈scope.names,p.2= .cell->scope.names.lookup p.1=some .cell
 free: ∀p∈scope.names,p.2= .free->X.env.scope.names.lookup p.1=some .cell\/X.env.scope.names.lookup p.1=some .free
 js: ∀ (i:G7) (x:Str),X.N[i]? =some x->(scope.names.lookup x=some .local\/scope.names.lookup x=some .cell)->i∈js
variable {js:G0 G7}
theorem jO (S:BlockOk X scope js){C:P1}{x:Str}{c:P1}(h:(jl X scope C).lookup x=some c):
 (scope.names.lookup x≠some .cell/\X.env.cells.lookup x=some c)\/(scope.names.lookup x=some .cell/\(x,c)∈I0 (C+1) scope.names []):=by
 unfold jl at h;rw [jy,yz] at h;cases e:(I0 (C+1) scope.names []).lookup x with
 |some d=>
  rw [e] at h;cases h;have m:=jX e;rcases zE _ _ _ _ m with z|⟨_,z⟩
  ·exact absurd z (by simp)
  ·exact .inr ⟨S.cels _ z rfl,m⟩
 |none=>
  rw [e] at h;refine .inl ⟨λz=> ?_,Wd h⟩;obtain⟨d,hd⟩:=vo (sc:=scope) (n:=C+1) z;rw [e] at hd;cases hd
theorem zS (S:BlockOk X scope js){C:P1}{x:Str}{c:P1}(hc:X.env.cells.lookup x=some c)(h:(x,B9)∈scope.names)(hn:scope.names.lookup x≠some .cell):(jl X scope C).lookup x=some c:=by
 unfold jl;rw [jy,yz];cases e:(I0 (C+1) scope.names []).lookup x with
 |some d=>
  rcases zE _ _ _ _ (jX e) with z|⟨_,z⟩
  ·exact absurd z (by simp)
  ·exact absurd (S.cels _ z rfl) hn
 |none=>exact Gp hc h
def jY:G0 G7->St->St
 | [],σ=>σ
 |j::js,σ=>jY js (σ.set j none)
theorem Ja: ∀ (js:G0 G7) (σ:St),(jY js σ).length=σ.length
 | [],_=>rfl
 |j::js,σ=>by rw [jY,Ja js];simp
theorem vq: ∀ (js:G0 G7) (σ:St) (i:G7) (v:V),(jY js σ)[i]? =some (some v)->σ[i]? =some (some v)
 | [],_,_,_,h=>h
 |j::js,σ,i,v,h=>by
  have h1:=vq js _ i v h
  by_cases e:i=j
  ·subst e;rw [a8] at h1;simp at h1
  ·rwa [O3 (E4 e)] at h1
theorem jM: ∀ (js:G0 G7) (σ:St) (i:G7) (v:V),i∈js-> ¬ (jY js σ)[i]? =some (some v)
 |j::js,σ,i,v,hm,h=>by
  rcases S5.mp hm with rfl|hm
  ·have h1:=vq js _ i v h;rw [a8] at h1;simp at h1
  ·exact jM js _ i v hm h
theorem HOk.track {P:S9}{w:N2}{H:Hp}{h:B3}{a:P1}{o:HO}(x:HOk P w H h)(hn:H a=none)(new:ObjOk P w (upd H a o) h a o):HOk P w (upd H a o) h:=λb u e=>by
 by_cases hb:b=a
 ·subst hb;rw [jh] at e;cases e;exact new
 ·rw [jg hb] at e;exact(x b u e).stay (λc v _ q=>q) (λc q=>by rw [jg (jc q hn)];exact q) λc xs q=>by rw [jg (jc q hn)];exact q
def Agree (σ rD:St):Prop:=rD.length=σ.length/\ ∀ (i:G7) (v:V),σ[i]? =some (some v)->rD[i]? =some (some v)
theorem Agree.set {σ:St}{j:G7}(v:V)(h: ∀u,¬σ[j]? =some (some u)):Agree σ (σ.set j (some v)):=⟨by simp,λi u q=>by
 by_cases e:j=i
 ·subst e;exact absurd q (h u)
 ·rw [O3 e];exact q⟩
theorem Agree.trans {a b c:St}(x:Agree a b)(y:Agree b c):Agree a c:=⟨y.1.trans x.1,λi v h=>y.2 i v (x.2 i v h)⟩
def PTs (X:Cx)(ifs:G0 S8)(t:TT):Prop:=
 ∀ (pins:G0 (P1×Obj)) (s:G2) (σ:St) (H:Hp) (Q:M6->Hp->Prop),Inv X pins σ H s->t σ H Q->
  R4 (R5 X.prog X.w) X.A (forIn ifs true λc r=>if r=true then do let ok <-isTrue c X.env (L4 c X.env);pure (J4 ok) else pure (J4 r)) (TP X pins σ Q) X.xe s
def Al:TT:=λ_ H Q=>Q true H
theorem Na:PTs X [] Al:=λ_ _ _ H _ I h=>wpAny_tests_nil ⟨H,I,h⟩
theorem Nb {c:S8}{t:TT}(hc:PT X c t):PTs X [c] t:=λpins s σ H Q I h=>wpAny_tests_one (hc pins s σ H Q I h)
def vt (iter target:S8)(ifs:G0 S8)(it:G1)(env:Env)(act:Sem Unit)(nxt:Code):Sem aX:=do
 c8 iter.pos
 match <-l6 it with
 |none=>pure (.done .next)
 |some v=>
  X8 target it v
  bI target env v
  let mut ok:=true
  for c in ifs do
   if ok then ok <-isTrue c env (L4 c env)
  if ok then act
  again nxt
variable {elt iter:S8}{pos:Pos}{ifs:G0 S8}
theorem UY {prog:S9}{w:N2}{A:T9}{R:g8->G2->Prop}{s:G2}{target:S8}{gens:G0 Q4}{depth:G7}{it acc:G1}{act:Sem Unit}(I:G7->G2->Prop)
 (heq:bU (.ListComp elt gens scope pos) depth it acc env=vt iter target ifs it env act (.compLoop (.ListComp elt gens scope pos) depth it acc env))
 (turn: ∀n s,I n s->R4 (R5 prog w) A (l6 it) (λr rG=>match r with
  |none=>R (.ok .next) rG
  |some v=>R4 (R5 prog w) A (X8 target it v) (λ_ rG=>R4 (R5 prog w) A (bI target env v) (λ_ rQ=>
   R4 (R5 prog w) A (forIn ifs true λc r=>if r=true then do let ok <-oB c env (L4 c env);pure (J4 ok) else pure (J4 r)) (λok rN=>
    if ok=true then R4 (R5 prog w) A act (λ_ rX=> ∃m,m<n/\I m rX) (λ_ _=>False) rN
    else ∃m,m<n/\I m rN) (λ_ _=>False) rQ) (λ_ _=>False) rG) (λ_ _=>False) rG) (λ_ _=>False) s)
 (n:G7)(h:I n s):
 U3 (R5 prog w) A (.compLoop (.ListComp elt gens scope pos) depth it acc env) R s:=by
 refine oC rfl I (λn s hI=> ?_) n h;show R4 _ A ((bU (.ListComp elt gens scope pos) depth it acc env).onRaise (λx=>do nX x env;fC x)) _ _ s;refine o5 ?_;rw [heq];unfold vt;refine wpAny_bind (V7 (wpAny_bind (T3 (turn n s hI) (λr rG rL=> ?_) λ_ _ h'=>h'.elim)));cases r with
 |none=>exact G8 rL
 |some v=>
  refine wpAny_bind (T3 rL (λ_ rG rL=> ?_) λ_ _ h'=>h'.elim);refine wpAny_bind (T3 rL (λ_ rQ rZ=>wpAny_bind (T3 rZ (λok rN rY=> ?_) λ_ _ h'=>h'.elim)) λ_ _ h'=>h'.elim);cases ok with
  |false=>exact G8 ⟨rfl,rY⟩
  |true=>exact wpAny_bind (T3 rY (λ_ rX r9=>G8 ⟨rfl,r9⟩) λ_ _ h'=>h'.elim)
abbrev TM:=St->Hp->G0 V->(G0 V->Hp->Prop)->Prop
def Lh (X:Cx)(D:P1)(act:Sem Unit)(t:TM):Prop:=
 ∀ (pins:G0 (P1×Obj)) (s:G2) (σ:St) (H:Hp) (ys:G0 V) (us:G0 G1) (Q:G0 V->Hp->Prop),Inv X ([(D,V3 us)]++pins) σ H s->Vals ys us->ys.length<=sizeLine->D∈X.ex->(∀x c,X.env.cells.lookup x=some c->c≠D)->(∀p∈X.pn++pins,p.1≠D)->t σ H ys Q->
  R4 (R5 X.prog X.w) X.A act (λ_ s'=> ∃ys' us' H',Vals ys' us'/\Inv X ([(D,V3 us')]++pins) σ H' s'/\Q ys' H') (λ_ _=>False) s
def CI (te:TE):TM:=λσ H ys Q=>te σ H λy H1=>Q (ys++ [y]) H1
def We (elt:S8)(env:Env)(acc:G1):Sem Unit:=do let _ <-call (.builtin "list.append") [acc,<-L4 elt env]
variable {te:TE}
theorem Ww {D:P1}(hx:X.xe=λ_ _=>False)(he:PE X elt te):Lh X D (We elt X.env (.ref D)) (CI te):=by
 intro pins s σ H ys us Q I hv hz DX cD pD h;have q:=he _ s σ H _ I h;rw [hx] at q;unfold We;refine wpAny_bind (T3 q (λy s1 ⟨yv,H1,I1,r1,q1⟩=> ?_) λ_ _ z=>z);have zD:=I1.pin (D,V3 us) (P5 _ (T4 _ P8));refine wpAny_bind (append_at (its:=us.toArray) (n:=us.length) zD.1 (λh11 hs11 hD11=>G8 ?_) (by rw [D8,<-hv.length];exact hz));have I10u:Inv X pins σ H1 s1:=I1.pins_of λp hp=>I1.pin p (P5 _ (P5 _ hp))
 have I11:Inv X pins σ H1 {s1 with heap:=h11}:=I10u.turned (t':=s1.toks) (it:=D) (λb o hb e=>hs11.extBut b o hb e) zD.2.1 zD.2.2.1 (.inl DX) cD pD;have eD:h11.get? D=some (V3 (us++ [y])):=by rw [hD11];exact congrArg some (LCg.lst_snoc us y)
 refine⟨ys++ [yv],us++ [y],H1,hv.append (.cons r1 .nil),I11.pins_of λp hp=> ?_,q1⟩;rcases T5.mp hp with z|z
 ·rcases G9.mp z with rfl
  exact⟨eD,zD.2.1,zD.2.2.1,zD.2.2.2.1,λv z=>by cases z⟩
 ·exact I11.pin p (P5 _ z)
def Li (js : G0 G7) (wi : TI) (g : TG) (tt : TT) (tm : TM) : TE := fun σ H Q => wi σ H fun J H1 =>
  ∃ W : G7 → G7 → G0 V → Hp → Prop, (∃ m, W 0 m [] H1) ∧ ∀ i m ys H, W i m ys H → ys.length ≤ sizeLine ∧
    ((J.stop i H ∧ ∀ p, H p = none → Q (.ref p) (upd H p (.lst ys))) ∨
     (J.go i H ∧ ∀ x H', J.yld i H x H' → g x (jY js σ) H' fun rF H2 => Agree (jY js σ) rF ∧ tt rF H2 fun b H3 =>
        if b = true then tm rF H3 ys fun ys' H4 => ∃ m', m' < m ∧ W (i + 1) m' ys' H4 else ∃ m', m' < m ∧ W (i + 1) m' ys H3))
def tLC (js:G0 G7)(wi:TI)(g:TG)(tt:TT)(te:TE):TE:=Li js wi g tt (CI te)
variable {tg:S8}{wi:TI}{g:TG}{tt:TT}
theorem Gq {e:S8}{rest:G0 Q4}{pos0:Pos}{tm:TM}{use:D0 (G1->Sem Unit)}{Qv:G1->G2->Prop}(hc:X.calm=true)(S:BlockOk X scope js)(hi:PI X tg iter wi)
 (he0:e= .ListComp elt (⟨tg,iter,ifs,0⟩::rest) scope pos)
 (hg: ∀X',jd X scope X'->PG X' tg g)(ht: ∀X',jd X scope X'->PTs X' ifs tt)
 (act:Env->G1->Sem Unit)(hturn: ∀it acc env,bU e 0 it acc env=vt iter tg ifs it env (act env acc) (.compLoop e 0 it acc env))(he: ∀X',jd X scope X'-> ∀D,Lh X' D (act X'.env (.ref D)) tm)
 (hs: ∀x,S1 iter X.env x=pure x){pins:G0 (P1×Obj)}{s:G2}{σ:St}{H:Hp}{Q:VK}(I:Inv X pins σ H s)(h:Li js wi g tt tm σ H Q)
 (fin: ∀ (D C:P1) (H':Hp) (s':G2) (m:Str->D0 G1),s'.heap.Ns C m->(∀h',O0 C s'.heap h'->Inv X pins σ H' {s' with heap:=h'})->H' C=none->C≠X.env.locals->C ∉ X.fs->X.s₀.heap.objs.size<=C->(∀x c,X.env.cells.lookup x=some c->c≠C)->(∀p∈X.pn++pins,p.1≠C)->
  Q (.ref D) H'->mH (R5 X.prog X.w) X.A X.xe use Qv (.ref D) C (.ok .next) s'):
 R4 (R5 X.prog X.w) X.A (dF e scope X.env pos0 (newList []) false (L4 iter X.env) use) Qv X.xe s:=by
 have hclos:=vp (scope:=scope) (env:=X.env) (λp hp e=>I.ok.has p.1 (S.free p hp e));subst he0;refine dG (use:=use) rfl hs hclos S.kind S.locs (thn (hi pins s σ H _ I h) λv s1 h1=>thn h1 λitv s2 h2=> ?_);obtain⟨it,fp,tn,J,H2,e,I2,T,st2,f2,W,⟨m0,w0⟩,turn⟩:=h2;subst e;refine V1 (Jt (λrL rT rW rM rV=> ?_));dsimp only at rT rW rM rV ⊢;generalize hD:s2.heap.objs.size=D;generalize hH3:s2.heap.push {cls:= .type "list",dict:=none,data:= .seq ([]:G0 G1).toArray}=h3 at rT rW rM rV ⊢;have sz3:h3.objs.size=D+1:=by rw [<-hH3,W8,hD]
 have up3: ∀b o,s2.heap.get? b=some o->h3.get? b=some o:=λb o e=>hH3 ▸ G5 _ e
 have I3:Inv X pins σ H2 {s2 with heap:=h3}:=I2.kept (t':=s2.toks) up3;have hD3:h3.get? D=some (V3 []):=by rw [<-hH3,<-hD];exact D9 _ rfl
 have fD:VR X pins H2 D:=I2.fpOk (by rw [hD];exact P0 _) (I2.hok.fresh (by rw [hD];exact P0 _));have obf: ∀b∈fp,∃o,s2.heap.get? b=some o/\ ∀v,o.data≠ .cell v:=T.obj _ _ st2;have ltf: ∀b∈fp,b<D:=λb hb=>by obtain⟨o,e,_⟩:=obf b hb;rw [<-hD];exact P7 e
 generalize hC:h3.objs.size=C at rT rM rV ⊢;have CD:C=D+1:=hC.symm.trans sz3;have upC: ∀b o,h3.get? b=some o->rL.get? b=some o:=rW;generalize hX:zZ X scope C {s2 with heap:=h3} H2 (fp++ [D])=X';have iX:jd X scope X':=⟨C,_,_,_,hX.symm⟩;have hf: ∀b∈fp++ [D],VR X pins H2 b:=λb hb=>(T5.mp hb).elim (f2 b) λz=>by rw [G9.mp z];exact fD
 have cl: ∀x c,(jl X scope C).lookup x=some c->X.env.cells.lookup x=some c\/C<c:=λx c e=>by
  rcases jO S e with ⟨_,z⟩|⟨_,z⟩
  ·exact .inl z
  ·exact .inr (E7 (rM x c z).2)
 have olt: ∀x c,X.env.cells.lookup x=some c->c<C:=λx c e=>by obtain⟨v,q⟩:=I3.cell x c e;rw [<-hC];exact q.lt
 have ltb: ∀b∈fp++ [D],b<C:=λb hb=>(T5.mp hb).elim (λz=>by have:=ltf b z;rw [CD];exact V4 this) λz=>by rw [G9.mp z,CD];exact C4 _
 have okX:X'.Ok:=by
  subst hX;refine⟨I.ok.mod,S.kind,I.ok.glob,I.ok.blt,Z6 hC,λx y c e1 e2=> ?_,λx hx=> ?_,λx c z e=> ?_,I.ok.hd,I.ok.frames,.inl rfl,λb hb=>⟨R8 (ltb b hb),λx c e=>(cl x c e).elim (λz=>(hf b hb).2.2.2.2.1 x c z) λz=>A6 (O2 (ltb b hb) z)⟩,
   I3.bs,S7 I.ok.bsz I3.sz,λb o e hb=> ?_,λb hb z=> ?_,I3.stack,I3.stkFree⟩
  ·rcases jO S e1 with ⟨_,z1⟩|⟨_,z1⟩<;>rcases jO S e2 with ⟨_,z2⟩|⟨_,z2⟩
   ·exact I.ok.inj x y c z1 z2
   ·exact absurd (O2 (olt x c z1) (E7 (rM y c z2).2)) (M4 _)
   ·exact absurd (O2 (olt y c z2) (E7 (rM x c z1).2)) (M4 _)
   ·exact iH rV z1 z2
  ·have own:scope.names.lookup x=some .cell-> ∃c,(jl X scope C).lookup x=some c:=λz=>by
    obtain⟨c,hc⟩:=vo (sc:=scope) (n:=C+1) z;exact⟨c,by unfold jl;rw [jy,yz,hc]⟩
   have shr:scope.names.lookup x=some .free-> ∃c,(jl X scope C).lookup x=some c:=λz=>by
    have fm:=jX z;obtain⟨c,hc⟩:=I.ok.has x (S.free _ fm rfl);exact⟨c,zS S hc fm (by rw [z];decide)⟩
   rcases hx with hx|hx
   ·rcases ji (env:=X.env) hx with z|z
    ·exact own z
    ·exact shr z
   ·rcases ji (env:=X.env) hx with z|z<;>exact shr z
  ·have z':scope.names.lookup x=some .cell:=by
    have z2:(scope.names.lookup x==some A3)=true:=z;simpa using z2
   rcases jO S e with ⟨n,_⟩|⟨_,m⟩
   ·exact absurd z' n
   ·show h3.objs.size<=c;rw [hC];exact M3 (E7 (rM x c m).2)
  ·rcases (hf b hb).2.2.2.1 with z|z
   ·exact I.ok.noex b o e z
   ·exact absurd (M0 (P7 e) (S7 I.ok.bsz z)) (M4 _)
  ·rcases S5.mp (I.stkSub b z) with q|q
   ·exact(hf b hb).2.1 q
   ·exact(hf b hb).2.2.1 q
 -- the block's first state
 have I4:Inv X' [(D,V3 [])] (jY js σ) H2 {s2 with heap:=rL}:=by
  subst hX;have hDC:D≠C:=by rw [CD];exact R8 (C4 _)
  refine⟨okX,rfl,I2.bare,Un.kept (λb u e=>upC b u e),⟨_,rT,λi x v e1 e2 e3=> ?_⟩,λx c e=> ?_,I3.hok.fresh (Z6 hC),λx c e=>(cl x c e).elim (λz=>I2.freeC x c z) (λz=>I3.hok.fresh (by rw [<-hC] at z;exact M3 z)),λp hp=> ?_,I3.hok.kept upC,(Ja js σ).trans I2.len⟩
  ·have fr:scope.names.lookup x=some .free:=by
    rcases e3 with e3|e3|e3
    ·rcases ji (env:=X.env) e3 with z|z
     ·exact absurd e2 (jM js σ i v (S.js i x e1 (.inl z)))
     ·exact z
    ·rcases ji (env:=X.env) e3 with z|z
     ·exact absurd e2 (jM js σ i v (S.js i x e1 (.inr z)))
     ·exact z
    ·rcases ji (env:=X.env) e3 with z|z<;>exact z
   have fm:=jX fr;obtain⟨m,hm,hl⟩:=I2.loc;have vis:=S.free _ fm rfl;obtain⟨u,r,lk⟩:=hl i x v e1 (vq js σ i v e2) (.inr vis);have kd:(oE scope X.env).names.lookup x=some .cell\/(oE scope X.env).names.lookup x=some .free:=by
    rcases e3 with e3|e3|e3
    ·rcases ji (env:=X.env) e3 with z|z
     ·rw [fr] at z;cases z
     ·exfalso;have z2:=e3
      -- a local's kind stays
      exact absurd e2 (jM js σ i v (S.js i x e1 (.inl (by
       have q: ∀ (l:G0 (Str×NameKind)),(l.map λ(n,k)=>if (k==B9&&X.env.scope.kind== .function&&X.env.kindOf n==some .cell) then (n,A3) else (n,k)).lookup x=some .local->l.lookup x=some .local:=by
        intro l
        induction l with
        |nil=>intro h;simp at h
        |cons p l ih=>
         obtain⟨n,k'⟩:=p;intro h;have h':o6 x ((if (k'==B9&&X.env.scope.kind== .function&&X.env.kindOf n==some .cell)=true then (n,A3) else (n,k'))::(l.map λ(n,k)=>if (k==B9&&X.env.scope.kind== .function&&X.env.kindOf n==some .cell) then (n,A3) else (n,k)))=some .local:=h;rw [F7]
         by_cases hc:(k'==B9&&X.env.scope.kind== .function&&X.env.kindOf n==some .cell)=true
         ·rw [R0 hc,F7] at h';cases hx:x==n with
          |true=>rw [hx] at h';cases h'
          |false=>rw [hx] at h';exact ih h'
         ·rw [R7 hc,F7] at h';cases hx:x==n with
          |true=>rw [hx] at h';exact h'
          |false=>rw [hx] at h';exact ih h'
       exact q _ z2))))
    ·exact .inl e3
    ·exact .inr e3
   rcases lk with ⟨k,_⟩|⟨_,c,hc,hcell⟩
   ·have k':X.env.scope.names.lookup x=some .local:=k;rcases vis with z|z<;>(rw [k'] at z;cases z)
   ·refine⟨u,r,.inr ⟨kd,c,zS S hc fm (by rw [fr];decide),?_⟩⟩;obtain⟨o,ho,hd⟩:=hcell;exact⟨o,upC _ _ (up3 _ _ ho),hd⟩
  ·rcases jO S e with ⟨_,z⟩|⟨_,z⟩
   ·obtain⟨v,o,ho,hd⟩:=I2.cell x c z;exact⟨v,o,upC _ _ (up3 _ _ ho),hd⟩
   ·exact⟨none,(rM x c z).1⟩
  ·have hp':p∈ [(D,V3 [])]:=hp;rcases G9.mp hp' with rfl
   refine⟨upC _ _ hD3,fD.1,hDC,λz=> ?_,λv z=>by cases z⟩;rcases S5.mp (I.stkSub D z) with q|q
   ·exact fD.2.1 q
   ·exact fD.2.2.1 q
 have st4:tn 0 rL:=T.keep _ _ _ st2 λb _ o e=>upC _ _ (up3 _ _ e)
 have eA:X'.A=X.A:=by rw [<-hX];rfl
 have eP:X'.prog=X.prog:=by rw [<-hX];rfl
 have eW:X'.w=X.w:=by rw [<-hX];rfl
 have eK:X'.K=X.K:=by rw [<-hX];rfl
 have eC:X'.calm=true:=by rw [<-hX];exact hc
 have eV:X'.env=dP scope (jl X scope C) C X.env:=by rw [<-hX];rfl
 have eE:X'.xe=λ_ _=>False:=by rw [<-hX];rfl
 -- what stays true of the iterator's objects
 have stat: ∀ {us:G0 G1} {H':Hp},(∀b∈fp,H' b=none)-> ∀b∈fp,VR X' [(D,V3 us)] H' b:=λ{us H'} hn b hb=>by
  have q:=hf b (T4 _ hb);subst hX;refine⟨hn b hb,R8 (ltb b (T4 _ hb)),λz=> ?_,.inl (T4 _ hb),λx c e=>(cl x c e).elim (λz=>q.2.2.2.2.1 x c z) (λz=>A6 (O2 (ltb b (T4 _ hb)) z)),λp hp=> ?_⟩
  ·rcases S5.mp (I.stkSub b z) with r|r
   ·exact q.2.1 r
   ·exact q.2.2.1 r
  ·have hp':p∈ [(D,V3 us)]:=hp;rcases G9.mp hp' with rfl
   exact A6 (ltf b hb)
 have loop: ∀rN:G2,rN= {s2 with heap:=rL}->
  U3 (R5 X.prog X.w) X.A (.compLoop (.ListComp elt (⟨tg,iter,ifs,0⟩::rest) scope pos) 0 (.ref it) (.ref D) (dP scope (jl X scope C) C X.env))
   (mH (R5 X.prog X.w) X.A X.xe use Qv (.ref D) C) rN:=by
  rintro rN rfl;refine UY (act:=act (dP scope (jl X scope C) C X.env) (.ref D)) (λn s'=> ∃i ys us H',Vals ys us/\Inv X' [(D,V3 us)] (jY js σ) H' s'/\tn i s'.heap/\(∀b∈fp,H' b=none)/\W i n ys H') (hturn _ _ _) ?_ m0
   ⟨0,[],[],H2,.nil,I4,st4,λb hb=>(f2 b hb).1,w0⟩
  rintro n s5 ⟨i,ys,us,H5,hv5,I5,st5,fr5,w5⟩;obtain⟨hz,tr⟩:=turn i n ys H5 w5;rcases tr with ⟨stop,qn⟩|⟨go,step⟩
  ·have q:=T.done X' eP eW eK eC i _ s5 _ H5 (λ_ _=>False) I5 (stat fr5) st5 stop;rw [eA] at q;refine T3 q (λr s6 ⟨hr,I6⟩=> ?_) λ_ _ z=>z
   subst hr;obtain⟨m6,hm6,_⟩:=I6.loc;rw [eV] at hm6;have zD:=I6.pin (D,V3 us) (P5 _ P8);have HD:H5 D=none:=zD.2.1;have oD:s6.heap.get? D=some (V3 us):=zD.1;have hDC:D≠C:=by rw [CD];exact R8 (C4 _)
   have HC:H5 C=none:=by have z:=I6.free;rw [eV] at z;exact z
   have B:=I6.base;have os6:s6.os=s2.os:=by have z:=I6.os;rw [<-hX] at z;exact z
   have Bu:Un (frs X.stack) (fp++ [D]) H2 H5 h3 s6.heap:=by rw [<-hX] at B;exact B
   have neC: ∀b o,h3.get? b=some o->b≠C:=λb o e=>by rw [<-hC];exact R8 (P7 e)
   refine fin D C (upd H5 D (.lst ys)) s6 m6 hm6 (λh' hs'=> ?_) (by rw [jg (E4 hDC)];exact HC) ?_ ?_ ?_ (λx c e=>R8 (olt x c e)) ?_ (qn D HD)
   ·have hk5:HOk X.prog X.w H5 h':=λb u e=>by
     have z:=I6.hok b u e;rw [eP,eW] at z;refine z.stay (λc v hc q=>hs'.extBut c v ?_ q) (λ_ q=>q) λ_ _ q=>q
     rcases hc with rfl|hc
     ·exact jc e HC
     ·exact jc hc HC
    refine I3.call' (ch:=fp++ [D]) os6 ⟨λb o e n hb hx=> ?_,λb o e n hb hx=> ?_,λb o e n hx=> ?_,λb o e hx=> ?_,λb xs e=> ?_,λb o u e=> ?_,λb ps e=> ?_⟩ (hk5.track HD ?_) I6.bare λb hb=> ?_
    ·exact hs'.extBut b o (neC b o e) (Bu.keep b o e n hb hx)
    ·obtain⟨sl,q⟩:=Bu.slot b o e n hb hx;exact⟨sl,hs'.extBut b _ (neC b o e) q⟩
    ·rw [jg λz=>hx (by rw [z];exact P5 _ P8)];exact Bu.free b o e n hx
    ·obtain⟨o',q⟩:=Bu.there b o e hx;exact⟨o',hs'.extBut b _ (neC b o e) q⟩
    ·have z:=Bu.tups b xs e;rw [jg (jc z HD)];exact z
    ·have z:=Bu.frzs b o u e;rw [jg (jc z HD)];exact z
    ·obtain⟨more,z⟩:=Bu.tbls b ps e;exact⟨more,by rw [jg (jc z HD)];exact z⟩
    ·exact⟨hz,us,us.length,hv5,hs'.extBut D _ hDC oD⟩
    ·have q:=hf b hb;exact⟨q.2.2.2.1,q.2.1,q.2.2.2.2.1,q.2.2.2.2.2⟩
   ·rw [<-hC];exact A6 I3.lt
   ·exact I3.nofs (Z6 hC)
   ·rw [<-hC];exact I3.sz
   ·intro p hp;have:=(I3.pin p hp).1;rw [<-hC];exact R8 (P7 this)
  ·have q:=T.item X' eP eW eK eC i _ s5 _ H5 (λ_ _=>False) I5 (stat fr5) st5 go;rw [eA] at q;refine T3 q (λr s6 ⟨u,hr,h6⟩=> ?_) λ_ _ z=>z
   subst hr;refine T3 h6 (λ_ s7 ⟨x,H7,I7,r7,y7,st7,fr7⟩=> ?_) λ_ _ z=>z
   have I7':=I7.pinned (stat fr7) (T.obj _ _ st7);have q7:=hg X' iX _ s7 _ H7 x u _ I7' r7 (step x H7 y7);rw [eP,eW,eA,eV,eE] at q7;refine T3 q7 (λ_ s8 ⟨rP,H8,I8,ag8,q8⟩=> ?_) λ_ _ z=>z
   have q9:=ht X' iX _ s8 rP H8 _ I8 q8;rw [eP,eW,eA,eV,eE] at q9;refine T3 q9 (λok s9 ⟨H9,I9,q9⟩=> ?_) λ_ _ z=>z
   have keepT: ∀ {rD:St} {H':Hp} {s':G2} {us:G0 G1},Inv X' ([(D,V3 us)]++wn fp s7.heap) rD H' s'->tn (i+1) s'.heap/\ ∀b∈fp,H' b=none:=λ{rD H' s' us} I'=>
    ⟨T.keep _ _ _ st7 λb hb o e=>(I'.pin (b,o) (P5 _ (P5 _ (jW hb e)))).1,λb hb=>by
     obtain⟨o,e,_⟩:=T.obj _ _ st7 b hb;exact(I'.pin (b,o) (P5 _ (P5 _ (jW hb e)))).2.1⟩
   cases ok with
   |false=>
    have q9: ∃m',m'<n/\W (i+1) m' ys H9:=q9;obtain⟨m',hm,w9⟩:=q9;obtain⟨t9,f9⟩:=keepT I9;exact⟨m',hm,i+1,ys,us,H9,hv5,(I9.unpinned).weak ag8.1.symm ag8.2,t9,f9,w9⟩
   |true=>
    have q9:tm rP H9 ys λys' H4=> ∃m',m'<n/\W (i+1) m' ys' H4:=q9
    have DX:D∈X'.ex:=by rw [<-hX];exact P5 _ P8
    have pD: ∀p∈X'.pn++wn fp s7.heap,p.1≠D:=λp hp=>by
     have hp':p∈wn fp s7.heap:=by rw [<-hX] at hp;simpa [zZ] using hp
     exact R8 (ltf _ (vn hp').1)
    have cD: ∀x c,X'.env.cells.lookup x=some c->c≠D:=λx c e=>by
     rw [eV] at e;exact(cl x c e).elim (λz=>fD.2.2.2.2.1 x c z) λz=>A6 (O2 (by rw [CD];exact C4 _) z)
    have q10:=he X' iX D _ s9 rP H9 ys us _ I9 hv5 hz DX cD pD q9;rw [eP,eW,eA,eV] at q10;show R4 _ _ (act _ _) _ _ s9;refine T3 q10 (λ_ s10 ⟨ys',us',H10,hv10,I10,m',hm,w10⟩=> ?_) λ_ _ z=>z
    obtain⟨t10,f10⟩:=keepT I10;exact⟨m',hm,i+1,ys',us',H10,hv10,(I10.unpinned).weak ag8.1.symm ag8.2,t10,f10,w10⟩
 exact codeAny_compStart_list (loop _ rfl) (T.self X.A 0 _ _ _ st4 (loop _ rfl))
theorem CJ (hc:X.calm=true)(S:BlockOk X scope js)(hi:PI X tg iter wi)
 (hg: ∀X',jd X scope X'->PG X' tg g)(ht: ∀X',jd X scope X'->PTs X' ifs tt)(he: ∀X',jd X scope X'->PE X' elt te)
 (hs: ∀x,S1 iter X.env x=pure x:=by intro _;rfl):PE X (.ListComp elt [⟨tg,iter,ifs,0⟩] scope pos) (tLC js wi g tt te):=by
 intro pins s σ H Q I h;rw [m9];exact Gq (use:=none) hc S hi rfl hg ht (We elt) (λ_ _ _=>rfl) (λX' hX D=>Ww (by obtain⟨_,_,_,_,rfl⟩:=hX;rfl) (he X' hX)) hs I h
  λD C H' s' m hn hk _ _ _ _ _ _ q=>⟨m,hn,λh' hs'=>⟨.ref D,H',hk h' hs',rfl,q⟩⟩
theorem Gr {e:S8}{rest:G0 Q4}{pos' spos:Pos}{g':TG}{tm:TM}(hc:X.calm=true)(S:BlockOk X scope js)(hi:PI X tg iter wi)
 (he0:e= .ListComp elt (⟨tg,iter,ifs,0⟩::rest) scope pos)(hg: ∀X',jd X scope X'->PG X' tg g)(ht: ∀X',jd X scope X'->PTs X' ifs tt)
 (act:Env->G1->Sem Unit)(hturn: ∀it acc env,bU e 0 it acc env=vt iter tg ifs it env (act env acc) (.compLoop e 0 it acc env))(he: ∀X',jd X scope X'-> ∀D,Lh X' D (act X'.env (.ref D)) tm)
 (hg':PG X (.Name x pos') g')(hsw:W3 e (some (.Name x pos')) spos.line X.env=pure true)
 (hs: ∀x,S1 iter X.env x=pure x):PS X (.Assign [.Name x pos'] e spos) (RY (Li js wi g tt tm) g'):=by
 intro pins s σ H Dn I h;rw [exec_Assign_Name_used _ _ _ _ hsw];refine wpAny_bind (V7 (wpAny_bind ?_));subst he0;rw [arm_evalThenUse_ListComp];show R4 _ X.A (do let _ <-dF (.ListComp elt (⟨tg,iter,ifs,0⟩::rest) scope pos) scope X.env _ (newList []) false (L4 iter X.env) (some (bI (.Name x pos') X.env))) _ _ s;refine wpAny_bind (T3 (Gq (use:=some (bI (.Name x pos') X.env)) (Qv:=λ_ s'=>SP X pins Dn .next s') hc S hi rfl hg ht act hturn he hs I h ?_) (λ_ s' hq=>G8 (G8 hq)) λ_ _ e=>e);intro D C H' s' m hn hk HC nL nf sz ncell npin q;show R4 _ X.A (bI (.Name x pos') X.env (.ref D)) _ _ s';obtain⟨o,es,ep,ho,hd,hr⟩:=id hn;have I1:Inv X pins σ H' s':=hk s'.heap (Y3 ..);have I2:Inv X (pins++ [(C,o)]) σ H' s':=I1.pins_of λp hp=>by
  rcases T5.mp hp with z|z
  ·exact I1.pin p (P5 _ z)
  ·rcases G9.mp z with rfl
   exact⟨ho,HC,nL,nf,λv z=>by rw [hd] at z;cases z⟩
 refine T3 (hg' _ s' σ H' (.ref D) (.ref D) _ I2 rfl q) (λ_ s3 ⟨rJ,H3,I3,q3⟩=> ?_) λ_ _ z=>z
 have pC:=I3.pin (C,o) (P5 _ (P5 _ P8));refine⟨m,hn.at' λo' e'=> ?_,λh' hs'=> ?_⟩
 ·rw [ho] at e';cases e';exact pC.1
 ·exact⟨rJ,H3,(I3.unpinned).turned (t':=s3.toks) (it:=C) (λb o hb e=>hs'.extBut b o hb e) pC.2.1 nL (.inr sz) ncell npin,q3⟩
theorem DN {pos' spos:Pos}{g':TG}(hc:X.calm=true)(S:BlockOk X scope js)(hi:PI X tg iter wi)
 (hg: ∀X',jd X scope X'->PG X' tg g)(ht: ∀X',jd X scope X'->PTs X' ifs tt)(he: ∀X',jd X scope X'->PE X' elt te)
 (hg':PG X (.Name x pos') g')(hsw:W3 (.ListComp elt [⟨tg,iter,ifs,0⟩] scope pos) (some (.Name x pos')) spos.line X.env=pure true)
 (hs: ∀x,S1 iter X.env x=pure x:=by intro _;rfl):PS X (.Assign [.Name x pos'] (.ListComp elt [⟨tg,iter,ifs,0⟩] scope pos) spos) (RY (tLC js wi g tt te) g'):=
 Gr hc S hi rfl hg ht (We elt) (λ_ _ _=>rfl) (λX' hX D=>Ww (by obtain⟨_,_,_,_,rfl⟩:=hX;rfl) (he X' hX)) hg' hsw hs
def XS (e iter:S8)(env:Env)(acc:G1):Sem Unit:=do
 let x <-L4 iter env
 c8 iter.pos
 let x <-S1 iter env x
 let _ <-runOwn (.compStart e 1 (<-V0 [x] (kC x)) acc env) env
def mIn (wi : TI) (g : TG) (tt : TT) (tm : TM) : TM := fun σ H ys Q => wi σ H fun J H1 =>
  ∃ W : G7 → G7 → G0 V → Hp → Prop, (∃ m, W 0 m ys H1) ∧ ∀ i m ys H, W i m ys H → ys.length ≤ sizeLine ∧
    ((J.stop i H ∧ Q ys H) ∨
     (J.go i H ∧ ∀ x H', J.yld i H x H' → g x σ H' fun rF H2 => Agree σ rF ∧ tt rF H2 fun b H3 =>
        if b = true then tm rF H3 ys fun ys' H4 => ∃ m', m' < m ∧ W (i + 1) m' ys' H4 else ∃ m', m' < m ∧ W (i + 1) m' ys H3))
theorem vv {prog:S9}{w:N2}{A:T9}{R:g8->G2->Prop}{s:G2}{g0 g1:Q4}{it acc:G1}(ha:g1.is_async=0)
 (h0:U3 (R5 prog w) A (.compLoop (.ListComp elt [g0,g1] scope pos) 1 it acc env) R s)
 (h:R4 (R5 prog w) A (kC it) (λit' s'=>U3 (R5 prog w) A (.compLoop (.ListComp elt [g0,g1] scope pos) 1 it' acc env) R s')
  (notedBy (R5 prog w) A env λx s'=>R (.error x) s') s):
 U3 (R5 prog w) A (.compStart (.ListComp elt [g0,g1] scope pos) 1 it acc env) R s:=by
 obtain⟨tg,iter,ifs,as⟩:=g1;cases (show as=0 from ha);refine fE (nA ?_);obtain⟨hp,g,d,tk,os⟩:=s;unfold compStart
 wp_walk
 refine J9 ?_;split
 ·exact G8 ⟨rfl,h0⟩
 ·exact wpAny_bind (hO (wpAny_bind (V7 (wpAny_bind (T3 h (λ_ _ on=>G8 ⟨rfl,on⟩) λ_ _ x=>x)))))
theorem Gs {D:P1}{g0:Q4}(hc:X.calm=true)(hx:X.xe=λ_ _=>False)
 (hi:PI X tg iter wi)(hg:PG X tg g)(ht:PTs X ifs tt)(he:PE X elt te)(hs: ∀x,S1 iter X.env x=pure x):
 Lh X D (XS (.ListComp elt [g0,⟨tg,iter,ifs,0⟩] scope pos) iter X.env (.ref D)) (mIn wi g tt (CI te)):=by
 intro pins s σ H ys us Q I hv hz DX cD pD h;have q:=hi _ s σ H _ I h;rw [hx] at q;unfold XS;refine wpAny_bind (T3 q (λv s1 h1=>wpAny_bind (V7 (wpAny_bind (lB (hs v) (wpAny_bind (B8 (T3 h1 (λitv s2 h2=> ?_) λ_ _ z=>z))))))) λ_ _ z=>z);obtain⟨it,fp,tn,J,H2,e,I2,T,st2,f2,W,⟨m0,w0⟩,turn⟩:=h2;subst e;refine wpAny_bind (wpAny_runOwn ?_);have neD: ∀b∈fp,b≠D:=λb hb=>by
  have z:=(f2 b hb).2.2.2.2.2 (D,V3 us) (P5 _ (T4 _ P8));exact E4 z
 have stat: ∀ {us':G0 G1} {H':Hp},(∀b∈fp,H' b=none)-> ∀b∈fp,VR X ([(D,V3 us')]++pins) H' b:=λ{us' H'} hn b hb=>by
  have q:=f2 b hb;refine⟨hn b hb,q.2.1,q.2.2.1,q.2.2.2.1,q.2.2.2.2.1,λp hp=> ?_⟩;rcases T5.mp hp with z|z
  ·exact q.2.2.2.2.2 p (T4 _ z)
  ·rcases T5.mp z with z|z
   ·rcases G9.mp z with rfl
    exact E4 (neD b hb)
   ·exact q.2.2.2.2.2 p (P5 _ (P5 _ z))
 have loop:U3 (R5 X.prog X.w) X.A (.compLoop (.ListComp elt [g0,⟨tg,iter,ifs,0⟩] scope pos) 1 (.ref it) (.ref D) X.env)
  (λr s'=>match r with| .ok f=>R4 (R5 X.prog X.w) X.A (pure ()) (λ_ s'=> ∃ys' us' H',Vals ys' us'/\Inv X ([(D,V3 us')]++pins) σ H' s'/\Q ys' H') (λ_ _=>False) s'| .error e=>cameBackBy (R5 X.prog X.w) X.A X.env (λ_ _=>False) e s') s2:=by
  refine UY (act:=We elt X.env (.ref D)) (λn s'=> ∃i ys us H',Vals ys us/\Inv X ([(D,V3 us)]++pins) σ H' s'/\tn i s'.heap/\(∀b∈fp,H' b=none)/\W i n ys H') rfl ?_ m0
   ⟨0,ys,us,H2,hv,I2,st2,λb hb=>(f2 b hb).1,w0⟩
  rintro n s5 ⟨i,ys,us,H5,hv5,I5,st5,fr5,w5⟩;obtain⟨hz,tr⟩:=turn i n ys H5 w5;rcases tr with ⟨stop,qn⟩|⟨go,step⟩
  ·refine T3 (T.done X rfl rfl rfl hc i _ s5 _ H5 (λ_ _=>False) I5 (stat fr5) st5 stop) (λr s6 ⟨hr,I6⟩=> ?_) λ_ _ z=>z
   subst hr;exact G8 ⟨ys,us,H5,hv5,I6,qn⟩
  ·refine T3 (T.item X rfl rfl rfl hc i _ s5 _ H5 (λ_ _=>False) I5 (stat fr5) st5 go) (λr s6 ⟨u,hr,h6⟩=> ?_) λ_ _ z=>z
   subst hr;refine T3 h6 (λ_ s7 ⟨x,H7,I7,r7,y7,st7,fr7⟩=> ?_) λ_ _ z=>z
   have I7':=I7.pinned (stat fr7) (T.obj _ _ st7);have q7:=hg _ s7 _ H7 x u _ I7' r7 (step x H7 y7);rw [hx] at q7;refine T3 q7 (λ_ s8 ⟨rP,H8,I8,ag8,q8⟩=> ?_) λ_ _ z=>z
   have q9:=ht _ s8 rP H8 _ I8 q8;rw [hx] at q9;refine T3 q9 (λok s9 ⟨H9,I9,q9⟩=> ?_) λ_ _ z=>z
   have keepT: ∀ {rD:St} {H':Hp} {s':G2} {us:G0 G1},Inv X (([(D,V3 us)]++pins)++wn fp s7.heap) rD H' s'->tn (i+1) s'.heap/\ ∀b∈fp,H' b=none:=λ{rD H' s' us} I'=>
    ⟨T.keep _ _ _ st7 λb hb o e=>(I'.pin (b,o) (P5 _ (P5 _ (jW hb e)))).1,λb hb=>by
     obtain⟨o,e,_⟩:=T.obj _ _ st7 b hb;exact(I'.pin (b,o) (P5 _ (P5 _ (jW hb e)))).2.1⟩
   cases ok with
   |false=>
    have q9: ∃m',m'<n/\W (i+1) m' ys H9:=q9;obtain⟨m',hm,w9⟩:=q9;obtain⟨t9,f9⟩:=keepT I9;exact⟨m',hm,i+1,ys,us,H9,hv5,(I9.unpinned).weak ag8.1.symm ag8.2,t9,f9,w9⟩
   |true=>
    have q9:CI te rP H9 ys λys' H4=> ∃m',m'<n/\W (i+1) m' ys' H4:=q9
    have pD': ∀p∈X.pn++(pins++wn fp s7.heap),p.1≠D:=λp hp=>by
     rcases T5.mp hp with z|z
     ·exact pD p (T4 _ z)
     ·rcases T5.mp z with z|z
      ·exact pD p (P5 _ z)
      ·exact neD _ (vn z).1
    rw [K5] at I9;have q10:=Ww (D:=D) hx he (pins++wn fp s7.heap) s9 rP H9 ys us _ I9 hv5 hz DX cD pD' q9;show R4 _ _ (We _ _ _) _ _ s9;refine T3 q10 (λ_ s10 ⟨ys',us',H10,hv10,I10,m',hm,w10⟩=> ?_) λ_ _ z=>z
    rw [<-K5] at I10;obtain⟨t10,f10⟩:=keepT I10;exact⟨m',hm,i+1,ys',us',H10,hv10,(I10.unpinned).weak ag8.1.symm ag8.2,t10,f10,w10⟩
 exact vv rfl loop (T.self X.A 0 _ _ _ st2 loop)
theorem Gt (elt iter tg iter' tg':S8)(ifs ifs':G0 S8)(scope:E3)(pos:Pos)(it acc:G1)(env:Env):
 bU (.ListComp elt [⟨tg,iter,ifs,0⟩,⟨tg',iter',ifs',0⟩] scope pos) 0 it acc env=
  vt iter tg ifs it env (XS (.ListComp elt [⟨tg,iter,ifs,0⟩,⟨tg',iter',ifs',0⟩] scope pos) iter' env acc) (.compLoop (.ListComp elt [⟨tg,iter,ifs,0⟩,⟨tg',iter',ifs',0⟩] scope pos) 0 it acc env):=by
 unfold vt XS;simp only [bind_assoc,pure_bind];rfl
def Lj (js:G0 G7)(wi:TI)(g:TG)(tt:TT)(wi':TI)(g':TG)(tt':TT)(te:TE):TE:=Li js wi g tt (mIn wi' g' tt' (CI te))
theorem CK {iter' tg':S8}{ifs':G0 S8}{wi':TI}{g':TG}{tt':TT}(hc:X.calm=true)(S:BlockOk X scope js)(hi:PI X tg iter wi)
 (hg: ∀X',jd X scope X'->PG X' tg g)(ht: ∀X',jd X scope X'->PTs X' ifs tt)(hi': ∀X',jd X scope X'->PI X' tg' iter' wi')
 (hg': ∀X',jd X scope X'->PG X' tg' g')(ht': ∀X',jd X scope X'->PTs X' ifs' tt')(he: ∀X',jd X scope X'->PE X' elt te)
 (hs: ∀x,S1 iter X.env x=pure x:=by intro _;rfl)(hs': ∀env x,S1 iter' env x=pure x:=by intro _ _;rfl):
 PE X (.ListComp elt [⟨tg,iter,ifs,0⟩,⟨tg',iter',ifs',0⟩] scope pos) (Lj js wi g tt wi' g' tt' te):=by
 intro pins s σ H Q I h;rw [m9];exact Gq (use:=none) hc S hi rfl hg ht (λenv acc=>XS (.ListComp elt [⟨tg,iter,ifs,0⟩,⟨tg',iter',ifs',0⟩] scope pos) iter' env acc) (λ_ _ _=>Gt ..)
  (λX' hX D=>Gs (by obtain⟨_,_,_,_,rfl⟩:=hX;exact hc) (by obtain⟨_,_,_,_,rfl⟩:=hX;rfl) (hi' X' hX) (hg' X' hX) (ht' X' hX) (he X' hX) (hs' _)) hs I h
  λD C H' s' m hn hk _ _ _ _ _ _ q=>⟨m,hn,λh' hs'=>⟨.ref D,H',hk h' hs',rfl,q⟩⟩
inductive D where
 |non|bl (b:M6)|int (i:P3)|str (x:Str)|tup (ds:G0 D)|lst (a:P1)|dic (x:Str) (i:P3)|dct (a:P1)|scr (ns:G0 P3)|exc (C:P1)|fn (a:P1)
def Scr (K:G4)(H:Hp)(a:P1)(ns:G0 P3):Prop:=
 (∃o,H a=some (.frz o (.lst (ns.map V.int))))\/
  ∃ (o:Obj) (its:M2 G1) (n:G7),K.lookup a=some o/\o.cls= .type "list" /\o.dict=none/\o.data= .seq its n/\its.size<=sizeLine/\Vals (ns.map V.int) its.toList
theorem Scr.sq {K:G4}{H:Hp}{a:P1}{ns:G0 P3}(h:Scr K H a ns):SqL K H a (ns.map V.int):=h.elim (λz=> .inl (.inr z)) .inr
mutual
def RelD (K:G4)(H:Hp):D->V->Prop
 | .non,v=>v= .non
 | .bl b,v=>v= .bl b
 | .int i,v=>v= .int i
 | .str x,v=>v= .str x
 | .tup ds,v=> ∃a vs,v= .ref a/\H a=some (.tup vs)/\RelDs K H ds vs
 | .lst a,v=>v= .ref a/\ ∃vs,H a=some (.lst vs)
 | .dic x i,v=> ∃a,v= .ref a/\H a=some (.dK [(aO x,V.int i)])
 | .dct a,v=>v= .ref a
 | .scr ns,v=> ∃a,v= .ref a/\Scr K H a ns
 | .exc C,v=> ∃x o vs,v= .ref x/\H x=some (.frz o (.own 0))/\o.cls= .ref C/\o.data= .fields vs
 | .fn a,v=>v= .ref a/\W4 K (.ref a)=true
def RelDs (K:G4)(H:Hp):G0 D->G0 V->Prop
 | [],vs=>vs= []
 |d::ds,vs=> ∃v r,vs=v::r/\RelD K H d v/\RelDs K H ds r
end
structure Kept (H H':Hp):Prop where
 tup: ∀a xs,H a=some (.tup xs)->H' a=some (.tup xs)
 lst: ∀a xs,H a=some (.lst xs)-> ∃ys,H' a=some (.lst ys)
 dic: ∀a x i,H a=some (.dK [(aO x,V.int i)])->H' a=some (.dK [(aO x,V.int i)])
 frz: ∀a o u,H a=some (.frz o u)->H' a=some (.frz o u)
theorem Kept.refl (H:Hp):Kept H H:=⟨λ_ _ h=>h,λ_ xs h=>⟨xs,h⟩,λ_ _ _ h=>h,λ_ _ _ h=>h⟩
theorem Kept.trans {A B C:Hp}(x:Kept A B)(y:Kept B C):Kept A C:=
 ⟨λa xs h=>y.tup a xs (x.tup a xs h),λa xs h=>let ⟨_,e⟩:=x.lst a xs h;y.lst a _ e,λa k i h=>y.dic a k i (x.dic a k i h),λa o u h=>y.frz a o u (x.frz a o u h)⟩
theorem Kept.new {H:Hp}{p:P1}{o:HO}(h:H p=none):Kept H (upd H p o):=
 ⟨λa xs e=>by rw [jg (jc e h)];exact e,λa xs e=>⟨xs,by rw [jg (jc e h)];exact e⟩,λa k i e=>by rw [jg (jc e h)];exact e,λa o u e=>by rw [jg (jc e h)];exact e⟩
theorem Kept.put {H:Hp}{p:P1}{xs ys:G0 V}(h:H p=some (.lst xs)):Kept H (upd H p (.lst ys)):=
 ⟨λa zs e=>by rw [jg (XJ e h (by intro z;cases z))];exact e,λa zs e=>by
  by_cases q:a=p
  ·subst q;exact⟨ys,jh⟩
  ·exact⟨zs,by rw [jg q];exact e⟩,
  λa k i e=>by rw [jg (XJ e h (by intro z;cases z))];exact e,λa o u e=>by rw [jg (XJ e h (by intro z;cases z))];exact e⟩
def DObj (o:HO):Prop:=(∃kvs:G0 (P3×V),o= .dK (kvs.map λp=>((cX p.1:Key),p.2)))\/ ∃φ,o= .ext φ
theorem DObj.no {o:HO}(d:DObj o):(∀xs,o≠ .tup xs)/\(∀xs,o≠ .lst xs)/\(∀x i,o≠ .dK [(aO x,V.int i)])/\(∀p u,o≠ .frz p u)/\ ∀ps,o≠ .tbl ps:=by
 rcases d with ⟨kvs,rfl⟩|⟨φ,rfl⟩
 ·refine⟨λ_ z=>(nomatch z),λ_ z=>(nomatch z),λx i z=> ?_,λ_ _ z=>(nomatch z),λ_ z=>(nomatch z)⟩;injection z with z
  cases kvs with
  |nil=>cases z
  |cons p r=>injection z with z _;injection z with z _;cases z
 ·exact⟨λ_ z=>(nomatch z),λ_ z=>(nomatch z),λ_ _ z=>(nomatch z),λ_ _ z=>(nomatch z),λ_ z=>(nomatch z)⟩
mutual
theorem RelD.mono {K:G4}{H H':Hp}(k:Kept H H'): ∀ {d:D} {v:V},RelD K H d v->RelD K H' d v
 | .non,_,h=>h
 | .bl _,_,h=>h
 | .int _,_,h=>h
 | .str _,_,h=>h
 | .tup ds,v,h=>by
  obtain⟨a,vs,e,h1,h2⟩:=(show ∃a vs,v= .ref a/\H a=some (.tup vs)/\RelDs K H ds vs from h);exact⟨a,vs,e,k.tup _ _ h1,RelDs.mono k h2⟩
 | .lst a,v,h=>by
  obtain⟨e,vs,h1⟩:=(show v= .ref a/\ ∃vs,H a=some (.lst vs) from h);exact⟨e,k.lst _ _ h1⟩
 | .dic x i,v,h=>by
  obtain⟨a,e,h1⟩:=(show ∃a,v= .ref a/\H a=some (.dK [(aO x,V.int i)]) from h);exact⟨a,e,k.dic _ _ _ h1⟩
 | .dct a,v,h=>h
 | .scr ns,v,h=>by
  obtain⟨a,e,h1⟩:=(show ∃a,v= .ref a/\Scr K H a ns from h);exact⟨a,e,h1.elim (λ⟨o,z⟩=> .inl ⟨o,k.frz _ _ _ z⟩) .inr⟩
 | .exc C,v,h=>by
  obtain⟨x,o,vs,e,h1,r⟩:=(show ∃x o vs,v= .ref x/\H x=some (.frz o (.own 0))/\o.cls= .ref C/\o.data= .fields vs from h);exact⟨x,o,vs,e,k.frz _ _ _ h1,r⟩
 | .fn a,v,h=>h
theorem RelDs.mono {K:G4}{H H':Hp}(k:Kept H H'): ∀ {ds:G0 D} {vs:G0 V},RelDs K H ds vs->RelDs K H' ds vs
 | [],_,h=>h
 |d::ds,vs,h=>by
  obtain⟨v,r,e,h1,h2⟩:=(show ∃v r,vs=v::r/\RelD K H d v/\RelDs K H ds r from h);exact⟨v,r,e,RelD.mono k h1,RelDs.mono k h2⟩
end
section
variable {K:G4}{H:Hp}
theorem RelDs.nil:RelDs K H [] []:=rfl
theorem RelDs.cons {d:D}{v:V}{ds:G0 D}{vs:G0 V}(h:RelD K H d v)(t:RelDs K H ds vs):RelDs K H (d::ds) (v::vs):=⟨v,vs,rfl,h,t⟩
theorem RelDs.length: ∀ {ds:G0 D} {vs:G0 V},RelDs K H ds vs->ds.length=vs.length
 | [],_,h=>by cases (show _= [] from h);rfl
 |d::ds,vs,h=>by
  obtain⟨v,r,e,_,h2⟩:=(show ∃v r,vs=v::r/\RelD K H d v/\RelDs K H ds r from h);subst e;simp [RelDs.length h2]
theorem RelDs.append: ∀ {ds es:G0 D} {vs us:G0 V},RelDs K H ds vs->RelDs K H es us->RelDs K H (ds++es) (vs++us)
 | [],_,_,_,h,g=>by cases (show _= [] from h);exact g
 |d::ds,es,vs,us,h,g=>by
  obtain⟨v,r,e,h1,h2⟩:=(show ∃v r,vs=v::r/\RelD K H d v/\RelDs K H ds r from h);subst e;exact .cons h1 (RelDs.append h2 g)
theorem RelDs.get: ∀ {ds:G0 D} {vs:G0 V} {i:G7} {d:D},RelDs K H ds vs->ds[i]? =some d-> ∃v,vs[i]? =some v/\RelD K H d v
 |d'::ds,vs,i,d,h,e=>by
  obtain⟨v,r,q,h1,h2⟩:=(show ∃v r,vs=v::r/\RelD K H d' v/\RelDs K H ds r from h);subst q;cases i with
  |zero=>simp at e;subst e;exact⟨v,rfl,h1⟩
  |succ i=>
   obtain⟨u,q1,q2⟩:=RelDs.get h2 (i:=i) (d:=d) (by simpa using e);exact⟨u,by simpa using q1,q2⟩
theorem RelDs.take (n:G7): ∀ {ds:G0 D} {vs:G0 V},RelDs K H ds vs->RelDs K H (ds.take n) (vs.take n):=by
 induction n with
 |zero=>intro ds vs _;exact(rfl:RelDs K H [] [])
 |succ n ih=>
  intro ds vs h;cases ds with
  |nil=>cases (show vs= [] from h);exact .nil
  |cons d ds=>
   obtain⟨v,r,e,h1,h2⟩:=(show ∃v r,vs=v::r/\RelD K H d v/\RelDs K H ds r from h);subst e;exact .cons h1 (ih h2)
theorem RelDs.drop (n:G7): ∀ {ds:G0 D} {vs:G0 V},RelDs K H ds vs->RelDs K H (ds.drop n) (vs.drop n):=by
 induction n with
 |zero=>intro ds vs h;exact h
 |succ n ih=>
  intro ds vs h;cases ds with
  |nil=>cases (show vs= [] from h);exact .nil
  |cons d ds=>
   obtain⟨v,r,e,h1,h2⟩:=(show ∃v r,vs=v::r/\RelD K H d v/\RelDs K H ds r from h);subst e;exact ih h2
theorem RelDs.set {d:D}{v:V}(q:RelD K H d v): ∀ {ds:G0 D} {vs:G0 V} (i:G7),RelDs K H ds vs->RelDs K H (ds.set i d) (vs.set i v)
 | [],_,_,h=>by cases (show _= [] from h);exact .nil
 |e::ds,vs,i,h=>by
  obtain⟨u,r,z,h1,h2⟩:=(show ∃u r,vs=u::r/\RelD K H e u/\RelDs K H ds r from h);subst z;cases i with
  |zero=>exact .cons q h2
  |succ i=>exact .cons h1 (RelDs.set q i h2)
theorem yA: ∀ns:G0 P3,RelDs K H (ns.map D.int) (ns.map V.int)
 | []=> .nil
 |n::ns=> .cons rfl (yA ns)
end
inductive DC where
 |ik (kv:G0 (P3×D))
 |tk (ep:G7) (kv:G0 (G0 (G0 P3)×D))
structure HD where
 ls:P1->D0 (G0 D)
 dc:P1->D0 DC
instance:CoeFun HD λ_=>P1->D0 (G0 D):=⟨HD.ls⟩
def wC (h:HD)(a:P1)(ds:G0 D):HD:=⟨λb=>if b=a then some ds else h b,h.dc⟩
def VV (h:HD)(a:P1):HD:=⟨λb=>if b=a then none else h b,h.dc⟩
theorem ja {h:HD}{a:P1}{ds:G0 D}:wC h a ds a=some ds:=R0 rfl
theorem Zj {h:HD}{a b:P1}{ds:G0 D}(e:b≠a):wC h a ds b=h b:=R7 e
theorem wo {h:HD}{a:P1}{ds:G0 D}(e:h a=none):VV (wC h a ds) a=h:=by
 obtain⟨l,d⟩:=h;refine congrArg (HD.mk · d) ?_
 funext b
 show (if b=a then none else if b=a then some ds else l b)=l b
 by_cases q:b=a
 ·subst q;rw [R0 rfl];exact e.symm
 ·rw [R7 q,R7 q]
def LN:G0 Str:= ["law","_law_right","_law_words","_law_other_words","_law_many_right","_law_all","_law_told_row","_law_all_right","_law_desk_right","_law_signs_right","_law_lists_right","_law_text_right"]
def TabK (K:G4)(P:P1):Prop:= ∃x∈LN,∃c,gV K x=some (c,P)
def CodesOk (H:Hp)(ps:M2 G1):Prop:=TriplesOk ps.toList/\ ∀pos cv,codeAmong pos ps.toList=some cv-> ∃ (c:P1) (o:Obj) (vs:M2 G1) (q:Str) (t:Tok),cv= .ref c/\H c=some (.frz o (.own 0))/\o.data= .fields vs/\vs[1]? =some (.str q t)
def CTabs (K:G4)(H:Hp):Prop:= ∀P,TabK K P-> ∃ps,H P=some (.tbl ps)/\CodesOk H ps
theorem CodesOk.mono {H H':Hp}{ps:M2 G1}(k: ∀a o u,H a=some (.frz o u)->H' a=some (.frz o u))(c:CodesOk H ps):CodesOk H' ps:=
 ⟨c.1,λpos cv e=>let ⟨c',o,vs,q,t,e1,e2,r⟩:=c.2 pos cv e;⟨c',o,vs,q,t,e1,k _ _ _ e2,r⟩⟩
theorem CTabs.mono {K:G4}{H H':Hp}(x:CTabs K H)(k: ∀a o u,H a=some (.frz o u)->H' a=some (.frz o u))(kt: ∀a ps,H a=some (.tbl ps)->H' a=some (.tbl ps)):CTabs K H':=λP hP=>
 let ⟨ps,e,c⟩:=x P hP;⟨ps,kt _ _ e,c.mono k⟩
theorem CTabs.new {K:G4}{H:Hp}{p:P1}{o:HO}(x:CTabs K H)(e:H p=none):CTabs K (upd H p o):=
 x.mono (λa o' u h=>by rw [jg (jc h e)];exact h) λa ps h=>by rw [jg (jc h e)];exact h
theorem CTabs.put {K:G4}{H:Hp}{p:P1}{o:HO}{xs:G0 V}(x:CTabs K H)(e:H p=some (.lst xs)):CTabs K (upd H p o):=
 x.mono (λa o' u h=>by rw [jg (XJ h e (by intro z;cases z))];exact h) λa ps h=>by rw [jg (XJ h e (by intro z;cases z))];exact h
def Nc (T:G0 (G0 P3)):P3:=hR (U7 (T.map λr=>hR (U7 (r.map qC))))
def AR (a:P1)(ep:G7)(xs:G0 (G0 (G0 P3)×P1×V)):HO:= .ext λh=>(a==l4)=false/\xs.length<=sizeLine/\ ∃ys:G0 (G0 (G0 P3)×P1×G1),Paired (λp q=>p.1=q.1/\p.2.1=q.2.1/\RelV p.2.2 q.2.2) xs ys/\
 ∃o es,h.get? a=some o/\o.ExactDict/\o.data= .dict es ep/\es.toList=ys.map λx=>⟨Nc x.1,.ref x.2.1,x.2.2⟩
def DRel (K:G4)(H:Hp)(a:P1):DC->Prop
 | .ik kv=> ∃kvs:G0 (P3×V),H a=some (.dK (kvs.map λp=>((cX p.1:Key),p.2)))/\kv.map (·.1)=kvs.map (·.1)/\RelDs K H (kv.map (·.2)) (kvs.map (·.2))
 | .tk ep kv=> ∃xs:G0 (G0 (G0 P3)×P1×V),H a=some (AR a ep xs)/\(kv.map (·.1)).Nodup/\kv.map (·.1)=xs.map (·.1)/\(∀x∈xs,RelD K H (.tup (x.1.map λr=> .tup (r.map D.int))) (.ref x.2.1))/\RelDs K H (kv.map (·.2)) (xs.map (·.2.2))
theorem DRel.obj {K:G4}{H:Hp}{a:P1}: ∀ {c:DC},DRel K H a c-> ∃o,H a=some o/\DObj o
 | .ik _,⟨kvs,e,_⟩=>⟨_,e,.inl ⟨kvs,rfl⟩⟩
 | .tk _ _,⟨xs,e,_⟩=>⟨_,e,.inr ⟨_,rfl⟩⟩
theorem DRel.mono {K:G4}{H H':Hp}{a:P1}(k:Kept H H')(z: ∀o,H a=some o->H' a=some o): ∀ {c:DC},DRel K H a c->DRel K H' a c
 | .ik _,⟨kvs,e,q,r⟩=>⟨kvs,z _ e,q,r.mono k⟩
 | .tk _ _,⟨xs,e,n,q,t,r⟩=>⟨xs,z _ e,n,q,λx hx=>(t x hx).mono k,r.mono k⟩
structure RelH (K:G4)(h:HD)(H:Hp):Prop where
 ls: ∀a ds,h a=some ds-> ∃vs,H a=some (.lst vs)/\RelDs K H ds vs
 tb:CTabs K H
 dc: ∀a c,h.dc a=some c->DRel K H a c
instance {K:G4}{h:HD}{H:Hp}:CoeFun (RelH K h H) λ_=> ∀a ds,h a=some ds-> ∃vs,H a=some (.lst vs)/\RelDs K H ds vs:=⟨RelH.ls⟩
structure Sub (h h':HD):Prop where
 ls: ∀a ds,h a=some ds->h' a=some ds
 dc: ∀a c,h.dc a=some c->h'.dc a=some c
instance {h h':HD}:CoeFun (Sub h h') λ_=> ∀a ds,h a=some ds->h' a=some ds:=⟨Sub.ls⟩
theorem Sub.refl (h:HD):Sub h h:=⟨λ_ _ e=>e,λ_ _ e=>e⟩
theorem Sub.trans {a b c:HD}(x:Sub a b)(y:Sub b c):Sub a c:=⟨λd ds e=>y d ds (x d ds e),λd ds e=>y.dc d ds (x.dc d ds e)⟩
theorem Sub.drop (h:HD)(a:P1):Sub (VV h a) h:=⟨λb ds e=>by
 have e:(if b=a then none else h b)=some ds:=e;split at e
 ·cases e
 ·exact e,λ_ _ e=>e⟩
theorem Sub.new {h:HD}{p:P1}{ds:G0 D}(e:h p=none):Sub h (wC h p ds):=⟨λa es q=>(by
 rw [Zj];exact q;intro z;subst z;rw [e] at q;cases q),λ_ _ e=>e⟩
section
variable {K:G4}{h h':HD}{H:Hp}
theorem RelH.sub (r:RelH K h H)(s:Sub h' h):RelH K h' H:=⟨λa ds e=>r a ds (s a ds e),r.tb,λa c e=>r.dc a c (s.dc a c e)⟩
theorem RelH.free (r:RelH K h H){p:P1}(e:H p=none):h p=none:=by
 cases q:h p with
 |none=>rfl
 |some ds=>obtain⟨vs,z,_⟩:=r p ds q;rw [e] at z;cases z
theorem RelH.dcN (r:RelH K h H){p:P1}{o:HO}(e:H p=none): ∀a c,h.dc a=some c->DRel K (upd H p o) a c:=λa c q=>
 (r.dc a c q).mono (.new e) λu z=>by rw [jg (jc z e)];exact z
theorem RelH.new (r:RelH K h H){p:P1}{o:HO}(e:H p=none):RelH K h (upd H p o):=⟨λa ds q=>by
 obtain⟨vs,z,w⟩:=r a ds q;exact⟨vs,by rw [jg (jc z e)];exact z,w.mono (.new e)⟩,r.tb.new e,r.dcN e⟩
theorem RelH.newL (r:RelH K h H){p:P1}{ds:G0 D}{vs:G0 V}(e:H p=none)(q:RelDs K H ds vs):RelH K (wC h p ds) (upd H p (.lst vs)):=⟨λa es z=>by
 by_cases w:a=p
 ·subst w;rw [ja] at z;cases z;exact⟨vs,jh,q.mono (.new e)⟩
 ·rw [Zj w] at z;obtain⟨us,z1,z2⟩:=r a es z;exact⟨us,by rw [jg w];exact z1,z2.mono (.new e)⟩,r.tb.new e,r.dcN e⟩
theorem RelH.put (r:RelH K h H){p:P1}{ds:G0 D}{vs us:G0 V}(e:H p=some (.lst us))(q:RelDs K H ds vs):RelH K (wC h p ds) (upd H p (.lst vs)):=⟨λa es z=>by
 by_cases w:a=p
 ·subst w;rw [ja] at z;cases z;exact⟨vs,jh,q.mono (.put e)⟩
 ·rw [Zj w] at z;obtain⟨us,z1,z2⟩:=r a es z;exact⟨us,by rw [jg w];exact z1,z2.mono (.put e)⟩,r.tb.put e,λa c z=>(r.dc a c z).mono (.put e) λo w=>by
   obtain⟨u,w',d⟩:=(r.dc a c z).obj;rw [jg (XJ w' e (d.no.2.1 _))];exact w⟩
end
abbrev SD:=G0 (D0 D)
def RelS (K:G4)(H:Hp)(rE:SD)(σ:St):Prop:=rE.length=σ.length/\ ∀ (i:G7) (d:D),rE[i]? =some (some d)-> ∃v,σ[i]? =some (some v)/\RelD K H d v
theorem RelS.mono {K:G4}{H H':Hp}{rE:SD}{σ:St}(r:RelS K H rE σ)(k:Kept H H'):RelS K H' rE σ:=⟨r.1,λi d e=>let ⟨v,a,b⟩:=r.2 i d e;⟨v,a,b.mono k⟩⟩
theorem RelS.set {K:G4}{H:Hp}{rE:SD}{σ:St}{d:D}{v:V}(r:RelS K H rE σ)(q:RelD K H d v)(i:G7):RelS K H (rE.set i (some d)) (σ.set i (some v)):=⟨by simp [r.1],λj e h=>by
 by_cases z:i=j
 ·subst z;rw [a8] at h ⊢
  by_cases hl:i<rE.length
  ·rw [R0 rfl,R0 hl] at h;rw [R0 rfl,R0 (by rw [<-r.1];exact hl)];cases h;exact⟨v,rfl,q⟩
  ·rw [R0 rfl,R7 hl] at h;cases h
 ·rw [O3 z] at h ⊢;exact r.2 j e h⟩
theorem RelS.clear1 {K:G4}{H:Hp}{rE:SD}{σ:St}(r:RelS K H rE σ)(i:G7):RelS K H (rE.set i none) (σ.set i none):=⟨by simp [r.1],λj e h=>by
 by_cases z:i=j
 ·subst z;rw [a8] at h;split at h
  ·split at h<;>cases h
  ·contradiction
 ·rw [O3 z] at h ⊢;exact r.2 j e h⟩
def jI:G0 G7->SD->SD
 | [],σ=>σ
 |j::js,σ=>jI js (σ.set j none)
theorem RelS.clear {K:G4}{H:Hp}: ∀ (js:G0 G7) {rE:SD} {σ:St},RelS K H rE σ->RelS K H (jI js rE) (jY js σ)
 | [],_,_,r=>r
 |j::js,_,_,r=>RelS.clear js (r.clear1 j)
abbrev KD:=D->HD->Prop
abbrev TED:=SD->HD->KD->Prop
abbrev TTD:=SD->HD->(M6->HD->Prop)->Prop
abbrev TAD:=SD->HD->(G0 D->HD->Prop)->Prop
abbrev RD2:=D->D->HD->KD->Prop
abbrev RDn:=G0 D->HD->KD->Prop
structure EndsD where
 nx:SD->HD->Prop
 rt:KD
 bk:SD->HD->Prop:=λ_ _=>False
 ct:SD->HD->Prop:=λ_ _=>False
abbrev TSD:=EndsD->SD->HD->Prop
abbrev TGD:=D->SD->HD->(SD->HD->Prop)->Prop
def Nd (K:G4)(H:Hp)(Qd:KD)(Q:VK):Prop:= ∀d v h' H',Kept H H'->RelH K h' H'->RelD K H' d v->Qd d h'->Q v H'
def LE (K:G4)(t:TED):TE:=λσ H Q=> ∃rE h Qd,RelS K H rE σ/\RelH K h H/\t rE h Qd/\Nd K H Qd Q
def LT (K:G4)(t:TTD):TT:=λσ H Q=> ∃rE h Qd,RelS K H rE σ/\RelH K h H/\t rE h Qd/\ ∀b h' H',Kept H H'->RelH K h' H'->Qd b h'->Q b H'
def LA (K:G4)(t:TAD):TA:=λσ H Q=> ∃rE h Qd,RelS K H rE σ/\RelH K h H/\t rE h Qd/\ ∀ds vs h' H',Kept H H'->RelH K h' H'->RelDs K H' ds vs->Qd ds h'->Q vs H'
def LR (K:G4)(f:RD2):R2:=λx y H Q=> ∃dx dy h Qd,RelD K H dx x/\RelD K H dy y/\RelH K h H/\f dx dy h Qd/\Nd K H Qd Q
def LC (K:G4)(f:RDn):G0 V->Hp->VK->Prop:=λxs H Q=> ∃ds h Qd,RelDs K H ds xs/\RelH K h H/\f ds h Qd/\Nd K H Qd Q
def LG (K:G4)(g:TGD):TG:=λv σ H Q=> ∃d rE h Qd,RelD K H d v/\RelS K H rE σ/\RelH K h H/\g d rE h Qd/\ ∀rH h' rD H',Kept H H'->RelS K H' rH rD->RelH K h' H'->Qd rH h'->Q rD H'
def LS (K:G4)(t:TSD):TS:=λrR σ H=> ∃rE h Dd,RelS K H rE σ/\RelH K h H/\t Dd rE h/\
 (∀rH h' rD H',Kept H H'->RelS K H' rH rD->RelH K h' H'->Dd.nx rH h'->rR.nx rD H')/\Nd K H Dd.rt rR.rt/\
 (∀rH h' rD H',Kept H H'->RelS K H' rH rD->RelH K h' H'->Dd.bk rH h'->rR.bk rD H')/\(∀rH h' rD H',Kept H H'->RelS K H' rH rD->RelH K h' H'->Dd.ct rH h'->rR.ct rD H')
theorem PE.imp {X:Cx}{e:S8}{t t':TE}(h:PE X e t)(i: ∀σ H Q,t' σ H Q->t σ H Q):PE X e t':=λpins s σ H Q I q=>h pins s σ H Q I (i σ H Q q)
theorem PT.imp {X:Cx}{e:S8}{t t':TT}(h:PT X e t)(i: ∀σ H Q,t' σ H Q->t σ H Q):PT X e t':=λpins s σ H Q I q=>h pins s σ H Q I (i σ H Q q)
theorem PW.imp {X:Cx}{e:S8}{t t':TT}(h:PW X e t)(i: ∀σ H Q,t' σ H Q->t σ H Q):PW X e t':=λwh pins s σ H Q I q=>h wh pins s σ H Q I (i σ H Q q)
theorem PA.imp {X:Cx}{e:G0 S8}{t t':TA}(h:PA X e t)(i: ∀σ H Q,t' σ H Q->t σ H Q):PA X e t':=λpos pins s σ H Q I q=>h pos pins s σ H Q I (i σ H Q q)
theorem PS.imp {X:Cx}{e:L6}{t t':TS}(h:PS X e t)(i: ∀D σ H,t' D σ H->t D σ H):PS X e t':=λpins s σ H D I q=>h pins s σ H D I (i D σ H q)
theorem PSs.imp {X:Cx}{e:G0 L6}{t t':TS}(h:PSs X e t)(i: ∀D σ H,t' D σ H->t D σ H):PSs X e t':=λpins s σ H D I q=>h pins s σ H D I (i D σ H q)
theorem PG.imp {X:Cx}{e:S8}{t t':TG}(h:PG X e t)(i: ∀v σ H Q,t' v σ H Q->t v σ H Q):PG X e t':=λpins s σ H v u Q I r q=>h pins s σ H v u Q I r (i v σ H Q q)
theorem OpR.imp {X:Cx}{f:G1->G1->Sem G1}{r r':R2}(h:OpR X f r)(i: ∀x y H Q,r' x y H Q->r x y H Q):OpR X f r':=λpins s σ H x y v u Q I a b q=>h pins s σ H x y v u Q I a b (i x y H Q q)
theorem CallR.imp {X:Cx}{f:G1}{r r':G0 V->Hp->VK->Prop}(h:CallR X f r)(i: ∀xs H Q,r' xs H Q->r xs H Q):CallR X f r':=λpins s σ H xs us Q I a q=>h pins s σ H xs us Q I a (i xs H Q q)
def Mc (i:G7):TED:=λσ h Q=> ∃d,σ[i]? =some (some d)/\Q d h
def dC (d:D):TED:=λ_ h Q=>Q d h
def dOp (f:RD2)(ta tb:TED):TED:=λσ h Q=>ta σ h λx h1=>tb σ h1 λy h2=>f x y h2 Q
def Zk:TAD:=λ_ h Q=>Q [] h
def jZ (ta:TED)(tr:TAD):TAD:=λσ h Q=>ta σ h λx h1=>tr σ h1 λxs h2=>Q (x::xs) h2
def LX (t:TAD):TED:=λσ h Q=>t σ h λds h1=>ds.length<=sizeLine/\Q (.tup ds) h1
def Lk (t:TAD):TED:=λσ h Q=>t σ h λds h1=>ds.length<=sizeLine/\ ∀p,h1 p=none->Q (.lst p) (wC h1 p ds)
def dCB (r:RDn)(t:TAD):TED:=λσ h Q=>t σ h λds h1=>r ds h1 Q
def JD (t:TED):TTD:=λσ h Q=>t σ h λx h1=> ∃k,x= .bl k/\Q k h1
def Zl (r r':RD2)(ta tb tc:TED):TED:=λσ h Q=>ta σ h λx h1=>tb σ h1 λy h2=>r x y h2 λz h3=> ∃k,z= .bl k/\
 (if k=true then tc σ h3 λw h4=>r' y w h4 Q else Q (.bl false) h3)
def CL (t u:TTD):TTD:=λσ h Q=>t σ h λc h1=>if c=true then Q true h1 else u σ h1 Q
def Gu (t:TTD):TTD:=λσ h Q=>t σ h λc h1=>Q (!c) h1
def DO (ta tb:TED):TED:=λσ h Q=>ta σ h λx h1=> ∃c,x= .bl c/\if c=true then tb σ h1 Q else Q (.bl false) h1
def LY (ta tb:TED):TED:=λσ h Q=>ta σ h λx h1=> ∃c,x= .bl c/\if c=true then Q (.bl true) h1 else tb σ h1 Q
def DP (ta:TED):TED:=λσ h Q=>ta σ h λx h1=> ∃c,x= .bl c/\Q (.bl (!c)) h1
def dIf (t:TTD)(ta tb:TED):TED:=λσ h Q=>t σ h λc h1=>if c=true then ta σ h1 Q else tb σ h1 Q
section
variable {K:G4}
theorem CM (i:G7): ∀σ H Q,LE K (Mc i) σ H Q->Ls i σ H Q:=λσ H Q ⟨rE,h,Qd,rs,rh,⟨d,e,q⟩,p⟩=>let ⟨v,e1,e2⟩:=rs.2 i d e;⟨v,e1,p d v h H (.refl H) rh e2 q⟩
theorem Ll {d:D}{v:V}(r: ∀H,RelD K H d v): ∀σ H Q,LE K (dC d) σ H Q->tC v σ H Q:=λσ H Q ⟨rE,h,Qd,rs,rh,q,p⟩=>p d v h H (.refl H) rh (r H) q
variable {H:Hp}
theorem jx {H1:Hp}{Qd:KD}{Q:VK}(p:Nd K H Qd Q)(k:Kept H H1):Nd K H1 Qd Q:=λd v h' H' k'=>p d v h' H' (k.trans k')
variable {ta:TED}
theorem LE.bind {σ:St}{rE:SD}{h:HD}{kd:KD}{k:VK}(rs:RelS K H rE σ)(rh:RelH K h H)(t:ta rE h kd)(f: ∀d v h' H',Kept H H'->RelS K H' rE σ->RelH K h' H'->RelD K H' d v->kd d h'->k v H'):LE K ta σ H k:=
 ⟨rE,h,kd,rs,rh,t,λd v h' H' kp r1 r2 q=>f d v h' H' kp (rs.mono kp) r1 r2 q⟩
theorem LT.bind {ta:TTD}{σ:St}{rE:SD}{h:HD}{kd:M6->HD->Prop}{k:M6->Hp->Prop}(rs:RelS K H rE σ)(rh:RelH K h H)(t:ta rE h kd)(f: ∀b h' H',Kept H H'->RelS K H' rE σ->RelH K h' H'->kd b h'->k b H'):LT K ta σ H k:=
 ⟨rE,h,kd,rs,rh,t,λb h' H' kp r1 q=>f b h' H' kp (rs.mono kp) r1 q⟩
theorem LA.bind {ta:TAD}{σ:St}{rE:SD}{h:HD}{kd:G0 D->HD->Prop}{k:G0 V->Hp->Prop}(rs:RelS K H rE σ)(rh:RelH K h H)(t:ta rE h kd)(f: ∀ds vs h' H',Kept H H'->RelS K H' rE σ->RelH K h' H'->RelDs K H' ds vs->kd ds h'->k vs H'):LA K ta σ H k:=
 ⟨rE,h,kd,rs,rh,t,λd v h' H' kp r1 r2 q=>f d v h' H' kp (rs.mono kp) r1 r2 q⟩
variable {tb:TED}
theorem Nf {f:RD2}: ∀σ H Q,LE K (dOp f ta tb) σ H Q->tOp (LR K f) (LE K ta) (LE K tb) σ H Q:=λσ H Q ⟨rE,h,Qd,rs,rh,t,p⟩=>
 LE.bind rs rh t λd v h1 H1 k1 rs1 rh1 r1 t1=>LE.bind rs1 rh1 t1 λd2 v2 h2 H2 k2 rs2 rh2 r2 t2=>⟨d,d2,h2,Qd,r1.mono k2,r2,rh2,t2,jx p (k1.trans k2)⟩
theorem CN: ∀σ H Q,LA K Zk σ H Q->Af σ H Q:=λσ H Q ⟨rE,h,Qd,rs,rh,t,p⟩=>p [] [] h H (.refl H) rh rfl t
theorem Ng {tr:TAD}: ∀σ H Q,LA K (jZ ta tr) σ H Q->Cs (LE K ta) (LA K tr) σ H Q:=λσ H Q ⟨rE,h,Qd,rs,rh,t,p⟩=>
 LE.bind rs rh t λd v h1 H1 k1 rs1 rh1 r1 t1=>LA.bind rs1 rh1 t1 λds vs h2 H2 k2 rs2 rh2 r2 t2=>p _ _ h2 H2 (k1.trans k2) rh2 (.cons (r1.mono k2) r2) t2
theorem CO {t:TAD}: ∀σ H Q,LE K (LX t) σ H Q->Ag (LA K t) σ H Q:=λσ H Q ⟨rE,h,Qd,rs,rh,t,p⟩=>
 LA.bind rs rh t λds vs h1 H1 k1 rs1 rh1 r1 ⟨z,q⟩=>⟨by rw [<-r1.length];exact z,λa ha=>p (.tup ds) (.ref a) h1 _ (k1.trans (.new ha)) (rh1.new ha) ⟨a,vs,rfl,jh,r1.mono (.new ha)⟩ q⟩
theorem CP {t:TAD}: ∀σ H Q,LE K (Lk t) σ H Q->Ah (LA K t) σ H Q:=λσ H Q ⟨rE,h,Qd,rs,rh,t,p⟩=>
 LA.bind rs rh t λds vs h1 H1 k1 rs1 rh1 r1 ⟨z,q⟩=>⟨by rw [<-r1.length];exact z,λa ha=>p (.lst a) (.ref a) _ _ (k1.trans (.new ha)) (rh1.newL ha r1) ⟨rfl,vs,jh⟩ (q a (rh1.free ha))⟩
theorem CQ {r:RDn}{t:TAD}: ∀σ H Q,LE K (dCB r t) σ H Q->tCB (LC K r) (LA K t) σ H Q:=λσ H Q ⟨rE,h,Qd,rs,rh,t,p⟩=>
 LA.bind rs rh t λds vs h1 H1 k1 rs1 rh1 r1 q=>⟨ds,h1,Qd,r1,rh1,q,jx p k1⟩
theorem Gv {t:TED}: ∀σ H Q,LT K (JD t) σ H Q->MS (LE K t) σ H Q:=λσ H Q ⟨rE,h,Qd,rs,rh,t,p⟩=>
 LE.bind rs rh t λd v h1 H1 k1 rs1 rh1 r1 ⟨k,e,q⟩=>by subst e;exact⟨k,r1,p k h1 H1 k1 rh1 q⟩
theorem DQ {t:TED}: ∀σ H Q,LT K (JD t) σ H Q->tB (LE K t) σ H Q:=λσ H Q ⟨rE,h,Qd,rs,rh,t,p⟩=>
 LE.bind rs rh t λd v h1 H1 k1 rs1 rh1 r1 ⟨k,e,q⟩=>by subst e;exact⟨k,r1,p k h1 H1 k1 rh1 q⟩
theorem UZ {r r':RD2}{tc:TED}: ∀σ H Q,LE K (Zl r r' ta tb tc) σ H Q->Gc (LR K r) (LR K r') (LE K ta) (LE K tb) (LE K tc) σ H Q:=λσ H Q ⟨rE,h,Qd,rs,rh,t,p⟩=>
 LE.bind rs rh t λd v h1 H1 k1 rs1 rh1 r1 t1=>LE.bind rs1 rh1 t1 λd2 v2 h2 H2 k2 rs2 rh2 r2 t2=>⟨d,d2,h2,_,r1.mono k2,r2,rh2,t2,λd3 v3 h3 H3 k3 rh3 r3 ⟨k,e,q⟩=>by
  subst e;refine⟨k,r3,?_⟩;cases k with
  |true=>
   rw [R0 rfl] at q ⊢;exact LE.bind (rs2.mono k3) rh3 q λd4 v4 h4 H4 k4 rs4 rh4 r4 t4=>⟨d2,d4,h4,Qd,(r2.mono k3).mono k4,r4,rh4,t4,jx p (k1.trans (k2.trans (k3.trans k4)))⟩
  |false=>
   rw [R7 P9] at q ⊢;exact p (.bl false) _ h3 H3 (k1.trans (k2.trans k3)) rh3 rfl q⟩
theorem LZ {t u:TTD}: ∀σ H Q,LT K (CL t u) σ H Q->tOr (LT K t) (LT K u) σ H Q:=λσ H Q ⟨rE,h,Qd,rs,rh,t,p⟩=>
 LT.bind rs rh t λb h1 H1 k1 rs1 rh1 q=>by
  cases b with
  |true=>rw [R0 rfl] at q ⊢;exact p _ _ _ k1 rh1 q
  |false=>rw [R7 P9] at q ⊢;exact⟨rE,h1,Qd,rs1,rh1,q,λb h' H' k=>p b h' H' (k1.trans k)⟩
theorem CS {t:TTD}: ∀σ H Q,LT K (Gu t) σ H Q->OU (LT K t) σ H Q:=λσ H Q ⟨rE,h,Qd,rs,rh,t,p⟩=>
 LT.bind rs rh t λb h1 H1 k1 rs1 rh1 q=>p _ _ _ k1 rh1 q
theorem CT: ∀σ H Q,LE K (DO ta tb) σ H Q->BZ (LE K ta) (LE K tb) σ H Q:=λσ H Q ⟨rE,h,Qd,rs,rh,t,p⟩=>
 LE.bind rs rh t λd v h1 H1 k1 rs1 rh1 r1 ⟨c,e,q⟩=>by
  subst e;refine⟨c,r1,?_⟩;cases c with
  |true=>rw [R0 rfl] at q ⊢;exact⟨rE,h1,Qd,rs1,rh1,q,jx p k1⟩
  |false=>rw [R7 P9] at q ⊢;exact p (.bl false) _ _ _ k1 rh1 rfl q
theorem Oa: ∀σ H Q,LE K (LY ta tb) σ H Q->OV (LE K ta) (LE K tb) σ H Q:=λσ H Q ⟨rE,h,Qd,rs,rh,t,p⟩=>
 LE.bind rs rh t λd v h1 H1 k1 rs1 rh1 r1 ⟨c,e,q⟩=>by
  subst e;refine⟨c,r1,?_⟩;cases c with
  |true=>rw [R0 rfl] at q ⊢;exact p (.bl true) _ _ _ k1 rh1 rfl q
  |false=>rw [R7 P9] at q ⊢;exact⟨rE,h1,Qd,rs1,rh1,q,jx p k1⟩
theorem CU: ∀σ H Q,LE K (DP ta) σ H Q->Ca (LE K ta) σ H Q:=λσ H Q ⟨rE,h,Qd,rs,rh,t,p⟩=>
 LE.bind rs rh t λd v h1 H1 k1 rs1 rh1 r1 ⟨c,e,q⟩=>by subst e;exact⟨c,r1,p (.bl (!c)) _ _ _ k1 rh1 rfl q⟩
theorem Ob {t:TTD}: ∀σ H Q,LE K (dIf t ta tb) σ H Q->tIf (LT K t) (LE K ta) (LE K tb) σ H Q:=λσ H Q ⟨rE,h,Qd,rs,rh,t,p⟩=>
 LT.bind rs rh t λb h1 H1 k1 rs1 rh1 q=>by
  cases b with
  |true=>rw [R0 rfl] at q ⊢;exact⟨rE,h1,Qd,rs1,rh1,q,jx p k1⟩
  |false=>rw [R7 P9] at q ⊢;exact⟨rE,h1,Qd,rs1,rh1,q,jx p k1⟩
end
abbrev QE (X:Cx)(e:S8)(t:TED):Prop:=PE X e (LE X.K t)
abbrev QT (X:Cx)(e:S8)(t:TTD):Prop:=PT X e (LT X.K t)
abbrev QW (X:Cx)(e:S8)(t:TTD):Prop:=PW X e (LT X.K t)
abbrev QA (X:Cx)(es:G0 S8)(t:TAD):Prop:=PA X es (LA X.K t)
abbrev QS (X:Cx)(s:L6)(t:TSD):Prop:=PS X s (LS X.K t)
abbrev QSs (X:Cx)(s:G0 L6)(t:TSD):Prop:=PSs X s (LS X.K t)
abbrev QG (X:Cx)(e:S8)(t:TGD):Prop:=PG X e (LG X.K t)
abbrev OpQ (X:Cx)(f:G1->G1->Sem G1)(r:RD2):Prop:=OpR X f (LR X.K r)
abbrev wD (X:Cx)(f:G1)(r:RDn):Prop:=CallR X f (LC X.K r)
section
variable {X:Cx}{a b c e:S8}{es rest:G0 S8}{ta tb tc te:TED}{t u:TAD}{tt tu:TTD}{pos:Pos}{f r r':RD2}
theorem qv (i:G7){x:Str}(hN:X.N[i]? =some x:=by rfl)(hv:Vis X.env.scope x:=by first|exact E1 rfl|exact Q2 (E1 rfl)|exact Q2 (Q2 rfl))(hd:(x==("__debug__" :Str))=false:=by decide)
 (hcd:(x==("__classdict__" :Str))=false:=by decide):QE X (.Name x pos) (Mc i):=(RW hN hv hd hcd).imp (CM i)
theorem AS {i:P3}{j:G7}:QE X (.Constant (.int i) j pos) (dC (.int i)):=pe_int.imp (Ll λ_=>rfl)
theorem qbl {i:M6}{j:G7}:QE X (.Constant (.bool i) j pos) (dC (.bl i)):=pe_bl.imp (Ll λ_=>rfl)
theorem AT {j:G7}:QE X (.Constant .none j pos) (dC .non):=pe_non.imp (Ll λ_=>rfl)
theorem Oc {x:Str}{i:P3}{tk:Tok}(hg:Gl X x)(hm:X.mg x=some (.int i tk))(hd:(x==("__debug__" :Str))=false:=by decide):QE X (.Name x pos) (dC (.int i)):=
 (MK (v:= .int i) hg hm ⟨tk,rfl⟩ hd).imp (Ll λ_=>rfl)
theorem qop {op:oY}(ho:OpQ X (O4 op) f)(ha:QE X a ta)(hb:QE X b tb):QE X (.BinOp a op b pos) (dOp f ta tb):=(LD ho ha hb).imp Nf
theorem AU {op:c9}(ho:OpQ X (N1 op) f)(ha:QE X a ta)(hb:QE X b tb)(hm:K2 op b=false):QE X (.Compare a [op] [b] pos) (dOp f ta tb):=(MR ho ha hb hm).imp Nf
theorem Od {op:c9}(ho:OpQ X (N1 op) f)(ha:QE X a ta)(hb:QE X b tb)(hm:K2 op b=false):QT X (.Compare a [op] [b] pos) (JD (dOp f ta tb)):=
 (MT ho ha hb hm).imp λσ H Q h=>by
  obtain⟨rE,h,Qd,rs,rh,t,p⟩:=Gv (t:=dOp f ta tb) σ H Q h;exact Nf σ H _ ⟨rE,h,Qd,rs,rh,t,p⟩
theorem CV {op op':c9}(ho:OpQ X (N1 op) r)(ho':OpQ X (N1 op') r')(ha:QE X a ta)(hb:QE X b tb)(hc:QE X c tc)(hm:dM [op,op'] [b,c]=false:=by with_unfolding_all rfl):
 QE X (.Compare a [op,op'] [b,c] pos) (Zl r r' ta tb tc):=(DF ho ho' ha hb hc hm).imp UZ
theorem Nh {op op':c9}(ho:OpQ X (N1 op) r)(ho':OpQ X (N1 op') r')(ha:QE X a ta)(hb:QE X b tb)(hc:QE X c tc)(hm:dM [op,op'] [b,c]=false:=by with_unfolding_all rfl):
 QT X (.Compare a [op,op'] [b,c] pos) (JD (Zl r r' ta tb tc)):=(DG ho ho' ha hb hc hm).imp λσ H Q h=>by
 obtain⟨rE,h,Qd,rs,rh,t,p⟩:=Gv (t:=Zl r r' ta tb tc) σ H Q h;exact UZ σ H _ ⟨rE,h,Qd,rs,rh,t,p⟩
theorem Oe (ha:QE X a ta)(he: ∀whole,isTrue a X.env whole=(do let v <-whole;c8 a.pos;V0 [v] (pO v)):=by intro _;rfl):QT X a (JD ta):=(BW ha he).imp DQ
theorem AV (ha:QT X a tt):QW X (.BoolOp .Or [a] pos) tt:=BX ha
theorem AW (ha:QT X a tt)(hb:QW X (.BoolOp .Or (b::rest) pos) tu):QW X (.BoolOp .Or (a::b::rest) pos) (CL tt tu):=(Lt ha hb).imp LZ
theorem Of (ha:QT X a tt):QT X (.UnaryOp .Not a pos) (Gu tt):=(BY ha).imp CS
theorem AX {op:BoolOp}(ha:QE X a ta):QE X (.BoolOp op [a] pos) ta:=Cb ha
theorem AY (ha:QE X a ta)(hb:QE X (.BoolOp .And (b::rest) pos) tb):QE X (.BoolOp .And (a::b::rest) pos) (DO ta tb):=(Cc ha hb).imp CT
theorem qor (ha:QE X a ta)(hb:QE X (.BoolOp .Or (b::rest) pos) tb):QE X (.BoolOp .Or (a::b::rest) pos) (LY ta tb):=(Lu ha hb).imp Oa
theorem AZ (ha:QE X a ta):QE X (.UnaryOp .Not a pos) (DP ta):=(Cd ha).imp CU
theorem qif {c:S8}(hc:QT X c tt)(ha:QE X a ta)(hb:QE X b tb):QE X (.IfExp c a b pos) (dIf tt ta tb):=(DB hc ha hb).imp Ob
theorem Md:QA X [] Zk:=pa_nil.imp CN
theorem Gw (ha:QE X e te)(hr:QA X es t)(hs:D2 (e::es) X.env=(false,L4 e X.env)::D2 es X.env:=by rfl):QA X (e::es) (jZ te t):=(wY ha hr hs).imp Ng
theorem Ea {k:G7}(h:QA X es t):QE X (.Tuple es k pos) (LX t):=(Ct h).imp CO
theorem Eb (h:QA X es t):QE X (.List es pos) (Lk t):=(Cu h).imp CP
end
def VW:TSD:=λD σ h=>D.nx σ h
def yP (t u:TSD):TSD:=λD σ h=>t {D with nx:=u D} σ h
def Ni (te:TED):TSD:=λD σ h=>te σ h λ_ h1=>D.nx σ h1
def DR (te:TED):TSD:=λD σ h=>te σ h D.rt
def Nj (c:TTD)(t u:TSD):TSD:=λD σ h=>c σ h λb h1=>if b=true then t D σ h1 else u D σ h1
def QK (i:G7)(te:TED):TSD:=λD σ h=>te σ h λd h1=>D.nx (σ.set i (some d)) h1
def Og (te:TED)(g:TGD):TSD:=λD σ h=>te σ h λx h1=>g x σ h1 D.nx
def gN (i:G7):TGD:=λd σ h Q=>Q (σ.set i (some d)) h
def gT2 (i j:G7):TGD:=λd σ h Q=> ∃x y,d= .tup [x,y]/\Q ((σ.set i (some x)).set j (some y)) h
section
variable {K:G4}
theorem LS.of {t:TSD}{rR:Ends}{σ:St}{H:Hp}{rE:SD}{h:HD}{Dd:EndsD}(rs:RelS K H rE σ)(rh:RelH K h H)(q:t Dd rE h)
 (nx: ∀rH h' rD H',Kept H H'->RelS K H' rH rD->RelH K h' H'->Dd.nx rH h'->rR.nx rD H')(rt:Nd K H Dd.rt rR.rt)
 (bk: ∀rH h' rD H',Kept H H'->RelS K H' rH rD->RelH K h' H'->Dd.bk rH h'->rR.bk rD H')(ct: ∀rH h' rD H',Kept H H'->RelS K H' rH rD->RelH K h' H'->Dd.ct rH h'->rR.ct rD H'):LS K t rR σ H:=⟨rE,h,Dd,rs,rh,q,nx,rt,bk,ct⟩
theorem Nk: ∀D σ H,LS K VW D σ H->Ce D σ H:=λD σ H ⟨rE,h,Dd,rs,rh,q,nx,_⟩=>nx rE h σ H (.refl H) rs rh q
theorem CW {t u:TSD}: ∀D σ H,LS K (yP t u) D σ H->OW (LS K t) (LS K u) D σ H:=λD σ H ⟨rE,h,Dd,rs,rh,q,nx,rt,bk,ct⟩=>
 LS.of rs rh q (λrH h' rD H' k rs' rh' q'=>⟨rH,h',Dd,rs',rh',q',λa b c d k'=>nx a b c d (k.trans k'),jx rt k,λa b c d k'=>bk a b c d (k.trans k'),λa b c d k'=>ct a b c d (k.trans k')⟩) rt bk ct
variable {te:TED}
theorem Nl: ∀D σ H,LS K (Ni te) D σ H->Cf (LE K te) D σ H:=λD σ H ⟨rE,h,Dd,rs,rh,q,nx,rt,bk,ct⟩=>
 LE.bind rs rh q λd v h1 H1 k1 rs1 rh1 r1 q1=>nx _ _ _ _ k1 rs1 rh1 q1
theorem CY: ∀D σ H,LS K (DR te) D σ H->OX (LE K te) D σ H:=λD σ H ⟨rE,h,Dd,rs,rh,q,nx,rt,bk,ct⟩=>⟨rE,h,Dd.rt,rs,rh,q,rt⟩
theorem Oh {c:TTD}{t u:TSD}: ∀D σ H,LS K (Nj c t u) D σ H->OY (LT K c) (LS K t) (LS K u) D σ H:=λD σ H ⟨rE,h,Dd,rs,rh,q,nx,rt,bk,ct⟩=>
 LT.bind rs rh q λb h1 H1 k rs1 rh1 q1=>by
  cases b with
  |true=>rw [R0 rfl] at q1 ⊢;exact⟨rE,h1,Dd,rs1,rh1,q1,λa b c d k'=>nx a b c d (k.trans k'),jx rt k,λa b c d k'=>bk a b c d (k.trans k'),λa b c d k'=>ct a b c d (k.trans k')⟩
  |false=>rw [R7 P9] at q1 ⊢;exact⟨rE,h1,Dd,rs1,rh1,q1,λa b c d k'=>nx a b c d (k.trans k'),jx rt k,λa b c d k'=>bk a b c d (k.trans k'),λa b c d k'=>ct a b c d (k.trans k')⟩
theorem Gx {i:G7}: ∀D σ H,LS K (QK i te) D σ H->RY (LE K te) (zX i) D σ H:=λD σ H ⟨rE,h,Dd,rs,rh,q,nx,rt,bk,ct⟩=>
 LE.bind rs rh q λd v h1 H1 k1 rs1 rh1 r1 q1=>nx _ _ _ _ k1 (rs1.set r1 i) rh1 q1
theorem CZ {g:TGD}: ∀D σ H,LS K (Og te g) D σ H->RY (LE K te) (LG K g) D σ H:=λD σ H ⟨rE,h,Dd,rs,rh,q,nx,rt,bk,ct⟩=>
 LE.bind rs rh q λd v h1 H1 k1 rs1 rh1 r1 q1=>⟨d,rE,h1,_,r1,rs1,rh1,q1,λa b c e k'=>nx a b c e (k1.trans k')⟩
theorem Nm (i:G7): ∀v σ H Q,LG K (gN i) v σ H Q->zX i v σ H Q:=λv σ H Q ⟨d,rE,h,Qd,r,rs,rh,q,p⟩=>p _ _ _ _ (.refl H) (rs.set r i) rh q
theorem ya {H:Hp}{x y:D}{vs:G0 V}(r:RelDs K H [x,y] vs): ∃v w,vs= [v,w]/\RelD K H x v/\RelD K H y w:=by
 obtain⟨v,r1,e,r2,r3⟩:=(show ∃v r,vs=v::r/\RelD K H x v/\RelDs K H [y] r from r);obtain⟨w,z,e',r4,r5⟩:=(show ∃v z,r1=v::z/\RelD K H y v/\RelDs K H [] z from r3);cases (show z= [] from r5);subst e' e;exact⟨v,w,rfl,r2,r4⟩
theorem jq {H:Hp}{x:D}{vs:G0 V}(r:RelDs K H [x] vs): ∃v,vs= [v]/\RelD K H x v:=by
 obtain⟨v,r1,e,r2,r3⟩:=(show ∃v r,vs=v::r/\RelD K H x v/\RelDs K H [] r from r);cases (show r1= [] from r3);exact⟨v,e,r2⟩
theorem Fa (i j:G7): ∀v σ H Q,LG K (gT2 i j) v σ H Q->Lz K 2 (QU (zX i) (QU (zX j) Ly)) v σ H Q:=λv σ H Q ⟨d,rE,h,Qd,r,rs,rh,⟨x,y,e,q⟩,p⟩=>by
 subst e;obtain⟨a,vs,e,hH,r1⟩:=(show ∃a vs,v= .ref a/\H a=some (.tup vs)/\RelDs K H [x,y] vs from r);obtain⟨v1,v2,e1,r2,r3⟩:=ya r1;subst e e1;exact⟨a,[v1,v2],rfl,SqT.of hH,rfl,v1,[v2],rfl,v2,[],rfl,rfl,p _ _ _ _ (.refl H) ((rs.set r2 i).set r3 j) rh q⟩
end
section
variable {X:Cx}{st:L6}{sts:G0 L6}{t u:TSD}{e:S8}{te:TED}{pos:Pos}
theorem Fb:QSs X [] VW:=pss_nil.imp Nk
theorem Nn (h1:QS X st t)(h2:QSs X sts u):QSs X (st::sts) (yP t u):=(DD h1 h2).imp CW
theorem Fc (h1:QS X st t):QSs X [st] t:=MM h1
theorem Oi (he:QE X e te)(hs:W3 e none pos.line X.env=pure false:=by rfl):QS X (.Expr e pos) (Ni te):=(MN he hs).imp Nl
theorem Ec (he:QE X e te):QS X (.Return (some e) pos) (DR te):=(Cg he).imp CY
theorem Ed {c:S8}{a b:G0 L6}{tc:TTD}(hc:QT X c tc)(ha:QSs X a t)(hb:QSs X b u):QS X (.If c a b pos) (Nj tc t u):=(Lv hc ha hb).imp Oh
theorem Ee {i:G7}{x:Str}{pos':Pos}(hN:X.N.Nodup)(hi:X.N[i]? =some x)(hx:Loc X.env.scope x)(he:QE X e te)(hs:W3 e (some (.Name x pos')) pos.line X.env=pure false:=by rfl)
 (hf:X.fn x=true\/X.env.scope.names.lookup x=some .local:=by first|exact .inl rfl|exact .inr rfl|assumption):QS X (.Assign [.Name x pos'] e pos) (QK i te):=(Cj hN hi hx he hs hf).imp Gx
theorem No {i:G7}{x:Str}(hN:X.N.Nodup)(hi:X.N[i]? =some x)(hx:Loc X.env.scope x)(hf:X.fn x=true\/X.env.scope.names.lookup x=some .local:=by first|exact .inl rfl|exact .inr rfl|assumption):QG X (.Name x pos) (gN i):=
 (yN hN hi hx hf).imp (Nm i)
theorem Fd {i j:G7}{x y:Str}{p1 p2:Pos}{k:G7}(hc:X.calm=true)(hN:X.N.Nodup)(hi:X.N[i]? =some x)(hj:X.N[j]? =some y)(hx:Loc X.env.scope x)(hy:Loc X.env.scope y)
 (hf:X.fn x=true\/X.env.scope.names.lookup x=some .local:=by first|exact .inl rfl|exact .inr rfl|assumption)(hf2:X.fn y=true\/X.env.scope.names.lookup y=some .local:=by first|exact .inl rfl|exact .inr rfl|assumption):
 QG X (.Tuple [.Name x p1,.Name y p2] k pos) (gT2 i j):=(RX hc (JN (yN hN hi hx hf) (JN (yN hN hj hy hf2) QV))).imp (Fa i j)
theorem Ef {tg:S8}{g:TGD}(he:QE X e te)(hg:QG X tg g)(hs:gR [tg] e pos.line X.env=pure false:=by rfl)(hsw:gS [tg] e X.env=pure none:=by rfl)
 (h1:(aQ [tg] X.env).map (·.2)= [bI tg X.env]:=by rfl):QS X (.Assign [tg] e pos) (Og te g):=(Ci he hg hs hsw h1).imp CZ
end
abbrev ItD:=HD->D0 (G0 D)
def BK (K:G4)(H:Hp)(j:ItD)(J:It):Prop:= ∀H' h',Kept H H'->RelH K h' H'-> ∀ds,j h'=some ds-> ∀i:G7,
 (∀d,ds[i]? =some d->J.go i H'/\ ∀x H'',J.yld i H' x H''->Kept H' H''/\RelH K h' H''/\RelD K H'' d x)/\(ds.length<=i->J.stop i H')
abbrev TID:=SD->HD->(ItD->HD->Prop)->Prop
def LI (K:G4)(t:TID):TI:=λσ H R=> ∃rE h Rd,RelS K H rE σ/\RelH K h H/\t rE h Rd/\ ∀j J h' H',Kept H H'->RelH K h' H'->BK K H' j J->Rd j h'->R J H'
abbrev QI (X:Cx)(tg iter:S8)(t:TID):Prop:=PI X tg iter (LI X.K t)
theorem PI.imp {X:Cx}{tg e:S8}{t t':TI}(h:PI X tg e t)(i: ∀σ H R,t' σ H R->t σ H R):PI X tg e t':=λpins s σ H R I q=>h pins s σ H R I (i σ H R q)
def iL (te:TED):TID:=λσ h R=>te σ h λx h1=> ∃a,x= .lst a/\R (λh=>h a) h1
def iR1 (ta:TAD):TID:=λσ h R=>ta σ h λds h1=> ∃n:P3,ds= [.int n]/\ -(2^62)<=n/\n<2^62/\R (λ_=>some ((G6 n.toNat).map λ(k:G7)=>D.int (k:P3))) h1
def iR2 (ta:TAD):TID:=λσ h R=>ta σ h λds h1=> ∃m n:P3,ds= [.int m,.int n]/\(-(2^62)<=m/\m<2^62/\ -(2^62)<=n/\n<2^62)/\R (λ_=>some ((G6 (n-m).toNat).map λ(k:G7)=>D.int (m+(k:P3)))) h1
section
variable {K:G4}
theorem YF (H:Hp)(a:P1):BK K H (λh=>h a) (Itl K a):=λH' h' k rh ds e i=>by
 obtain⟨vs,hv,r⟩:=rh a ds e;refine⟨λd hd=> ?_,λhl=>⟨vs,SqL.of hv,by rw [<-r.length];exact hl⟩⟩;obtain⟨v,e1,e2⟩:=r.get hd;refine⟨⟨vs,v,SqL.of hv,e1⟩,λx H'' ⟨eH,hx⟩=> ?_⟩;subst eH;have:=hx vs (SqL.of hv);rw [e1] at this;cases this;exact⟨.refl _,rh,e2⟩
theorem DS {H:Hp}{a:P1}{vs:G0 V}{ds:G0 D}(hv:H a=some (.tup vs))(r:RelDs K H ds vs):BK K H (λ_=>some ds) (Itt K a):=λH' h' k rh ds' e i=>by
 cases e;have hv':=k.tup _ _ hv;have r':=r.mono k;refine⟨λd hd=> ?_,λhl=>⟨vs,SqT.of hv',by rw [<-r.length];exact hl⟩⟩;obtain⟨v,e1,e2⟩:=r'.get hd;refine⟨⟨vs,v,SqT.of hv',e1⟩,λx H'' ⟨eH,hx⟩=> ?_⟩;subst eH;have:=hx vs (SqT.of hv');rw [e1] at this;cases this;exact⟨.refl _,rh,e2⟩
theorem Wf (H:Hp)(lo:P3)(n:G7)(ds:G0 D)(hd:ds=(G6 n).map λ(k:G7)=>D.int (lo+(k:P3))):BK K H (λ_=>some ds) (Itr lo n):=λH' h' k rh ds' e i=>by
 cases e;subst hd;refine⟨λd hd=> ?_,λhl=>(show n<=i by simpa using hl)⟩;rw [P4] at hd;have hi:i<n:=by
  by_cases z:i<n
  ·exact z
  ·rw [L9 (by simpa using z)] at hd;cases hd
 rw [F1 hi] at hd;cases hd;refine⟨hi,λx H'' ⟨eH,hx⟩=> ?_⟩;subst eH hx;exact⟨.refl _,rh,rfl⟩
theorem Np {te:TED}: ∀σ H R,LI K (iL te) σ H R->Ck K (LE K te) σ H R:=λσ H R ⟨rE,h,Rd,rs,rh,q,p⟩=>
 LE.bind rs rh q λd v h1 H1 k1 rs1 rh1 r1 ⟨a,e,q1⟩=>by
  subst e;obtain⟨e,vs,hv⟩:=(show v= .ref a/\ ∃vs,H1 a=some (.lst vs) from r1);exact⟨a,e,⟨vs,SqL.of hv⟩,p _ _ _ _ k1 rh1 (YF H1 a) q1⟩
theorem Oj {ta:TAD}: ∀σ H R,LI K (iR1 ta) σ H R->Cl (LA K ta) σ H R:=λσ H R ⟨rE,h,Rd,rs,rh,q,p⟩=>
 LA.bind rs rh q λds vs h1 H1 k1 rs1 rh1 r1 ⟨n,e,b1,b2,q1⟩=>by
  subst e;obtain⟨v,e,r2⟩:=jq r1;cases (show v= .int n from r2);exact⟨n,e,b1,b2,p _ _ _ _ k1 rh1 (Wf H1 0 n.toNat _ (by simp)) q1⟩
theorem Ol {ta:TAD}: ∀σ H R,LI K (iR2 ta) σ H R->Cm (LA K ta) σ H R:=λσ H R ⟨rE,h,Rd,rs,rh,q,p⟩=>
 LA.bind rs rh q λds vs h1 H1 k1 rs1 rh1 r1 ⟨m,n,e,b,q1⟩=>by
  subst e;obtain⟨v,w,e,r2,r3⟩:=ya r1;cases (show v= .int m from r2);cases (show w= .int n from r3);exact⟨m,n,e,b,p _ _ _ _ k1 rh1 (Wf H1 m (n-m).toNat _ rfl) q1⟩
end
def BL (ti:TID)(g:TGD)(tb:TSD):TSD:=λD σ h=>ti σ h λj h1=> ∃ (n:G7) (W:G7->SD->HD->Prop),W 0 σ h1/\ ∀i rD h',W i rD h'-> ∃ds,j h'=some ds/\ds.length<=n/\(ds.length<=i->D.nx rD h')/\
 ∀d,ds[i]? =some d->g d rD h' λrF h2=>tb {D with nx:=λrJ h3=> ∃h4,Sub h4 h3/\W (i+1) rJ h4,ct:=λrJ h3=> ∃h4,Sub h4 h3/\W (i+1) rJ h4,bk:=D.nx} rF h2
theorem Fe {K:G4}{ti:TID}{g:TGD}{tb:TSD}: ∀D σ H,LS K (BL ti g tb) D σ H->Aa (LI K ti) (LG K g) (LS K tb) D σ H:=λD σ H ⟨rE,h,Dd,rs,rh,q,nx,rt,bk,ct⟩=>by
 refine⟨rE,h,_,rs,rh,q,λj J h1 H1 k1 rh1 jo ⟨n,W,w0,turn⟩=> ?_⟩;refine⟨λi m rD H'=>m=n-i/\Kept H1 H'/\ ∃rH h',RelS K H' rH rD/\RelH K h' H'/\W i rH h',⟨n-0,rfl,.refl _,rE,h1,rs.mono k1,rh1,w0⟩,?_⟩;rintro i m rD H' ⟨rfl,kp,rH,h',rs',rh',w⟩;obtain⟨ds,ej,hn,stop,go⟩:=turn i rH h' w;have jo':=jo H' h' kp rh' ds ej i
 by_cases hi:i<ds.length
 ·obtain⟨g1,y1⟩:=jo'.1 ds[i] (P2 hi);refine .inr ⟨g1,λrF H2=>Kept H1 H2/\ ∃rK h2,RelS K H2 rK rF/\RelH K h2 H2/\W (i+1) rK h2,λrF H2 ⟨k2,a,b,c,d,e⟩=>⟨n-(i+1),by omega,rfl,k2,a,b,c,d,e⟩,λx H'' y=> ?_⟩;obtain⟨k2,rh2,r2⟩:=y1 x H'' y;refine⟨ds[i],rH,h',_,r2,rs'.mono k2,rh2,go ds[i] (P2 hi),λsG h3 rJ H3 k3 rs3 rh3 q3=> ?_⟩;have kk:Kept H H3:=k1.trans (kp.trans (k2.trans k3));have kk1:Kept H1 H3:=kp.trans (k2.trans k3);exact⟨sG,h3,_,rs3,rh3,q3,λa b c d k4 rs4 rh4 ⟨h4,sb,w4⟩=>⟨kk1.trans k4,a,h4,rs4,rh4.sub sb,w4⟩,jx rt kk,λa b c d k4 rs4 rh4 q4=>nx a b c d (kk.trans k4) rs4 rh4 q4,λa b c d k4 rs4 rh4 ⟨h4,sb,w4⟩=>⟨kk1.trans k4,a,h4,rs4,rh4.sub sb,w4⟩⟩
 ·exact .inl ⟨jo'.2 (K0.mp hi),nx _ _ _ _ (k1.trans kp) rs' rh' (stop (K0.mp hi))⟩
def yF:TTD:=λ_ h Q=>Q true h
def Zm (bind:D->SD->SD->Prop)(js:G0 G7)(ti:TID)(tt:TTD)(te:TED):TED:=λσ h Q=>ti σ h λj h1=> ∃ (n:G7) (W:G7->G0 D->HD->Prop),W 0 [] h1/\ ∀i ys h',W i ys h'->ys.length<=sizeLine/\
 ∃ds,j h'=some ds/\ds.length<=n/\(ds.length<=i-> ∀p,h' p=none->Q (.lst p) (wC h' p ys))/\
  ∀d,ds[i]? =some d-> ∃rF,bind d (jI js σ) rF/\tt rF h' λb h3=>if b=true then te rF h3 λy h4=> ∃h5,Sub h5 h4/\W (i+1) (ys++ [y]) h5 else ∃h5,Sub h5 h3/\W (i+1) ys h5
def bN (i:G7):D->SD->SD->Prop:=λd σ rF=>rF=σ.set i (some d)
def b2 (i j:G7):D->SD->SD->Prop:=λd σ rF=> ∃x y,d= .tup [x,y]/\rF=(σ.set i (some x)).set j (some y)
theorem Ff {K:G4}: ∀σ H Q,LT K yF σ H Q->Al σ H Q:=λσ H Q ⟨rE,h,Qd,rs,rh,q,p⟩=>p true h H (.refl H) rh q
def Gy (K:G4)(js:G0 G7)(bind:D->SD->SD->Prop)(g:TG):Prop:= ∀ (σ:St) (rE rK:SD) (H:Hp) (d:D) (v:V) (Q:St->Hp->Prop),RelS K H (jI js rE) (jY js σ)->RelD K H d v->bind d (jI js rE) rK->
 (∀rF,Agree (jY js σ) rF->RelS K H rK rF->Q rF H)->g v (jY js σ) H Q
theorem Nq {K:G4}{js:G0 G7}{i:G7}(hi:i∈js):Gy K js (bN i) (zX i):=λσ rE rK H d v Q rs r b q=>by
 cases (show rK=_ from b);exact q _ (.set v λu=>jM js σ i u hi) (rs.set r i)
theorem Om {K:G4}{js:G0 G7}{i j:G7}(hi:i∈js)(hj:j∈js)(hij:i≠j):Gy K js (b2 i j) (Lz K 2 (QU (zX i) (QU (zX j) Ly))):=λσ rE rK H d v Q rs r b q=>by
 obtain⟨x,y,e,e2⟩:=b;subst e e2;obtain⟨a,vs,e,hH,r1⟩:=(show ∃a vs,v= .ref a/\H a=some (.tup vs)/\RelDs K H [x,y] vs from r);obtain⟨v1,v2,e1,r2,r3⟩:=ya r1;subst e e1;refine⟨a,[v1,v2],rfl,SqT.of hH,rfl,v1,[v2],rfl,v2,[],rfl,rfl,q _ (.trans (.set v1 λu=>jM js σ i u hi) (.set v2 λu z=> ?_)) ((rs.set r2 i).set r3 j)⟩;rw [O3 hij] at z;exact jM js σ j u hj z
theorem Nr {K:G4}{bind:D->SD->SD->Prop}{js:G0 G7}{ti:TID}{tt:TTD}{te:TED}{g:TG}(hb:Gy K js bind g): ∀σ H Q,LE K (Zm bind js ti tt te) σ H Q->tLC js (LI K ti) g (LT K tt) (LE K te) σ H Q:=
 λσ H Q ⟨rE,h,Qd,rs,rh,q,p⟩=>by
  refine⟨rE,h,_,rs,rh,q,λj J h1 H1 k1 rh1 jo ⟨n,W,w0,turn⟩=> ?_⟩;refine⟨λi m ys H'=>m=n-i/\Kept H1 H'/\ ∃ds h',RelDs K H' ds ys/\RelH K h' H'/\W i ds h',⟨n-0,rfl,.refl _,[],h1,rfl,rh1,w0⟩,?_⟩;rintro i m ys H' ⟨rfl,kp,yd,h',ry,rh',w⟩;obtain⟨hz,ds,ej,hn,stop,go⟩:=turn i yd h' w;refine⟨by rw [<-ry.length];exact hz,?_⟩;have jo':=jo H' h' kp rh' ds ej i;have kk:Kept H H':=k1.trans kp
  by_cases hi:i<ds.length
  ·obtain⟨g1,y1⟩:=jo'.1 ds[i] (P2 hi);refine .inr ⟨g1,λx H'' y=> ?_⟩;obtain⟨k2,rh2,r2⟩:=y1 x H'' y;obtain⟨rK,bd,q2⟩:=go ds[i] (P2 hi);refine hb σ rE rK H'' ds[i] x _ (((rs.mono (kk.trans k2))).clear js) r2 bd λrF ag rs2=>⟨ag,?_⟩
   refine LT.bind rs2 rh2 q2 λb h3 H3 k3 rs3 rh3 q3=> ?_
   cases b with
   |true=>
    rw [R0 rfl] at q3 ⊢;refine LE.bind rs3 rh3 q3 λd4 v4 h4 H4 k4 rs4 rh4 r4 ⟨h5,sb,w5⟩=>⟨n-(i+1),by omega,rfl,kp.trans (k2.trans (k3.trans k4)),yd++ [d4],h5,(ry.mono (k2.trans (k3.trans k4))).append (.cons r4 .nil),rh4.sub sb,w5⟩
   |false=>
    rw [R7 P9] at q3 ⊢;obtain⟨h5,sb,w5⟩:=q3;exact⟨n-(i+1),by omega,rfl,kp.trans (k2.trans k3),yd,h5,ry.mono (k2.trans k3),rh3.sub sb,w5⟩
  ·refine .inl ⟨jo'.2 (K0.mp hi),λa ha=>p (.lst a) (.ref a) _ _ (kk.trans (.new ha)) (rh'.newL ha ry) ⟨rfl,ys,jh⟩ (stop (K0.mp hi) a (rh'.free ha))⟩
theorem zF {X:Cx}{scope:E3}{C:P1}{s₀:G2}{H₀:Hp}{ex:G0 P1}{i:G7}{x:Str}{p:Pos}(hN:X.N.Nodup)(hx:X.N[i]? =some x)(hl:scope.names.lookup x=some .local\/scope.names.lookup x=some .cell):
 PG (zZ X scope C s₀ H₀ ex) (.Name x p) (zX i):=by
 rcases hl with z|z
 ·exact yN hN hx (.inl (fX z)) (.inr (fX z))
 ·exact yN hN hx (.inr (yO z)) (.inl (by show (scope.names.lookup x==some A3)=true;rw [z];rfl))
section
variable {X:Cx}{tg e iter elt:S8}{te:TED}{ti:TID}{g:TGD}{tb:TSD}{tt:TTD}{pos:Pos}{ta:TAD}{scope:E3}{js:G0 G7}{ifs:G0 S8}
theorem Nt (he:QE X e te):QI X tg e (iL te):=(MP he).imp Np
theorem On {p:Pos}{a:S8}(hg:Gl X "range")(hm:X.mg "range" =none)(ha:QA X [a] ta)(hs:D2 [a] X.env= [(false,L4 a X.env)]:=by rfl):QI X tg (.Call (.Name "range" p) [a] [] pos) (iR1 ta):=(QX hg hm ha hs).imp Oj
theorem Eg {body:G0 L6}(hp:gG (R5 X.prog X.w) X.A X.env X.xe)(hc:X.calm=true)(hi:QI X tg iter ti)(hg:QG X tg g)(hb:QSs X body tb)(hs: ∀x,S1 iter X.env x=pure x:=by intro _;rfl):
 QS X (.For tg iter body [] pos) (BL ti g tb):=(Cn hp hc hi hg hb hs).imp Fe
theorem Nu:PTs X [] (LT X.K yF):=λpins s σ H Q I h=>Na pins s σ H Q I (Ff σ H Q h)
theorem Nv {c:S8}(hc:QT X c tt):PTs X [c] (LT X.K tt):=Nb hc
theorem qlc {i:G7}{x:Str}{p:Pos}(hc:X.calm=true)(S:BlockOk X scope js)(hi:QI X (.Name x p) iter ti)(hj:i∈js)(hN:X.N.Nodup)(hx:X.N[i]? =some x)(hl:scope.names.lookup x=some .local\/scope.names.lookup x=some .cell)
 (ht: ∀X',jd X scope X'->PTs X' ifs (LT X'.K tt))(he: ∀X',jd X scope X'->QE X' elt te)(hs: ∀x,S1 iter X.env x=pure x:=by intro _;rfl):
 QE X (.ListComp elt [⟨.Name x p,iter,ifs,0⟩] scope pos) (Zm (bN i) js ti tt te):=
 (CJ hc S hi (λX' hX=>by obtain⟨C,s₀,H₀,ex,rfl⟩:=hX;exact zF hN hx hl) (λX' hX=>by have:=ht X' hX;obtain⟨C,s₀,H₀,ex,rfl⟩:=hX;exact this)
  (λX' hX=>by have:=he X' hX;obtain⟨C,s₀,H₀,ex,rfl⟩:=hX;exact this) hs).imp (Nr (Nq hj))
theorem Eh {i j:G7}{x y:Str}{p1 p2 p3:Pos}{k:G7}(hc:X.calm=true)(S:BlockOk X scope js)(hi:QI X (.Tuple [.Name x p1,.Name y p2] k p3) iter ti)(hj:i∈js)(hj2:j∈js)(hij:i≠j)(hN:X.N.Nodup)(hx:X.N[i]? =some x)(hy:X.N[j]? =some y)
 (hl:scope.names.lookup x=some .local\/scope.names.lookup x=some .cell)(hl2:scope.names.lookup y=some .local\/scope.names.lookup y=some .cell)
 (ht: ∀X',jd X scope X'->PTs X' ifs (LT X'.K tt))(he: ∀X',jd X scope X'->QE X' elt te)(hs: ∀x,S1 iter X.env x=pure x:=by intro _;rfl):
 QE X (.ListComp elt [⟨.Tuple [.Name x p1,.Name y p2] k p3,iter,ifs,0⟩] scope pos) (Zm (b2 i j) js ti tt te):=
 (CJ hc S hi (λX' hX=>by
  obtain⟨C,s₀,H₀,ex,rfl⟩:=hX;exact RX hc (JN (zF hN hx hl) (JN (zF hN hy hl2) QV))) (λX' hX=>by have:=ht X' hX;obtain⟨C,s₀,H₀,ex,rfl⟩:=hX;exact this)
  (λX' hX=>by have:=he X' hX;obtain⟨C,s₀,H₀,ex,rfl⟩:=hX;exact this) hs).imp (Nr (Om hj hj2 hij))
end
def LSp (K:G4)(spd:RDn):Sp:=λvs H Q _=>LC K spd vs H Q
theorem Nw {K:G4}{spd:RDn}{t:TAD}{E:XK}: ∀σ H Q,LE K (dCB spd t) σ H Q->Cv (LSp K spd) [] E (LA K t) σ H Q:=λσ H Q ⟨rE,h,Qd,rs,rh,t,p⟩=>
 LA.bind rs rh t λds vs h1 H1 k1 rs1 rh1 r1 q=>by rw [J3];exact⟨ds,h1,Qd,r1,rh1,q,jx p k1⟩
section
variable {X:Cx}{k:G7}{f:P1}{fd:T7}{ps:G0 Str}{spd:RDn}{x:Str}{p pos:Pos}{e:S8}{es:G0 S8}{t:TAD}
theorem Oo (F:FnOk X.prog X.w X.K X.mg X.base CX0 k f fd ps (LSp X.K spd))(hr:Room k X.A)(hg:Gl X x)(hm:X.mg x=some (.ref f))(hk:W4 X.K (.ref f)=true)(hb:Binds X.K fd ps [])
 (ha:QA X (e::es) t)(hdb:(x==("__debug__" :Str))=false:=by decide)(he:D2 (e::es) X.env=(false,L4 e X.env)::D2 es X.env:=by rfl)(hpl:(O9 pos (D2 es X.env)).any (·.1)=false:=by rfl):
 QE X (.Call (.Name x p) (e::es) [] pos) (dCB spd t):=(MV F hr hg hm hk hb .nil LW ha hdb he hpl).imp Nw
theorem Fg {id:J6}{r:RDn}(hc:wD X (.builtin id) r)(hg:Gl X x)(hm:X.mg x=none)(hv:A5 x=some (.builtin id))(ha:QA X (e::es) t)(hn:x≠ "__name__" :=by decide)(hdb:(x==("__debug__" :Str))=false:=by decide)
 (he:D2 (e::es) X.env=(false,L4 e X.env)::D2 es X.env:=by rfl)(hpl:(O9 pos (D2 es X.env)).any (·.1)=false:=by rfl):QE X (.Call (.Name x p) (e::es) [] pos) (dCB r t):=(JP hc hg hm hv ha hn hdb he hpl).imp CQ
theorem Nx {T:J6}{r:RDn}(hc:wD X (.type T) r)(hg:Gl X x)(hm:X.mg x=none)(hv:A5 x=some (.type T))(ha:QA X (e::es) t)(hn:x≠ "__name__" :=by decide)(hdb:(x==("__debug__" :Str))=false:=by decide)
 (he:D2 (e::es) X.env=(false,L4 e X.env)::D2 es X.env:=by rfl)(hpl:(O9 pos (D2 es X.env)).any (·.1)=false:=by rfl):QE X (.Call (.Name x p) (e::es) [] pos) (dCB r t):=(Zb hc hg hm hv ha hn hdb he hpl).imp CQ
end
def wS (N:G0 Str)(ds:G0 D):SD:=ds.map some++T8 (N.length-ds.length) none
theorem XT {K:G4}{H:Hp}{N:G0 Str}{ds:G0 D}{vs:G0 V}(r:RelDs K H ds vs):RelS K H (wS N ds) (start N vs):=by
 have hl:=r.length;refine⟨by unfold wS start;simp [hl],λi d e=> ?_⟩;unfold wS at e;unfold start
 by_cases hi:i<ds.length
 ·rw [H0 (by simpa using hi),P4] at e;cases q:ds[i]? with
  |none=>rw [q] at e;cases e
  |some d'=>
   rw [q] at e;cases e;obtain⟨v,e1,e2⟩:=r.get q;exact⟨v,by rw [H0 (by simpa [<-hl] using hi),P4,e1];rfl,e2⟩
 ·rw [U0 (by simpa using hi),dN] at e;split at e<;>cases e
def DT (Q:KD):EndsD:= {nx:=λ_ h=> ∃h',Sub h' h/\Q .non h',rt:=λd h=> ∃h',Sub h' h/\Q d h'}
section
variable {P:S9}{w:N2}{K:G4}{mg:Str->D0 G1}{base:B3}
theorem Fun.okD {x qual:Str}{st:L6}{f:P1}{fd:T7}{N ps:G0 Str}{k:G7}{spd:RDn}(F:Fun K x qual st f fd)(S:FnScope N ps (jb st))(len: ∀ds h Q,spd ds h Q->ds.length=ps.length)
 (tb:TSD)(hbody: ∀ (cdv:G1) (A:T9) (outer:G0 Env) (s:G2) (H:Hp) (E:XK),Room k (A.deeper (cI qual (jb st) s.heap.objs.size f cdv))->QSs (DI CX0 P w K mg base N qual (jb st) f cdv A outer s H E).nox (zv st) tb)
 (read: ∀ds h Q,spd ds h Q->tb (DT Q) (wS N ds) h):FnOk P w K mg base CX0 (k+1) f fd ps (LSp K spd):=by
 refine F.ok S (λvs H Q E h=> ?_) (λcdv A outer s H vs Q E hr h=> ?_)
 ·obtain⟨ds,h,Qd,r,rh,q,p⟩:=h;rw [<-r.length];exact len _ _ _ q
 ·obtain⟨ds,h,Qd,r,rh,q,p⟩:=h;refine⟨_,hbody cdv A outer s H E hr,wS N ds,h,DT Qd,XT r,rh,read ds h Qd q,λrH h' rD H' k rs' rh' ⟨h2,sb,q'⟩=>p .non .non h2 H' k (rh'.sub sb) rfl q',λd v h' H' k rh' r' ⟨h2,sb,q'⟩=>p d v h2 H' k (rh'.sub sb) r' q',λ_ _ _ _ _ _ _ z=>z.elim,λ_ _ _ _ _ _ _ z=>z.elim⟩
end
section
variable {X:Cx}{iter elt:S8}{te:TED}{ti:TID}{tt:TTD}{pos spos:Pos}{scope:E3}{js:G0 G7}{ifs:G0 S8}
theorem Fh {i k:G7}{x y:Str}{p py:Pos}(hc:X.calm=true)(hN:X.N.Nodup)(hk:X.N[k]? =some y)(hy:Loc X.env.scope y)(S:BlockOk X scope js)(hi:QI X (.Name x p) iter ti)(hj:i∈js)(hx:X.N[i]? =some x)(hl:scope.names.lookup x=some .local\/scope.names.lookup x=some .cell)
 (ht: ∀X',jd X scope X'->PTs X' ifs (LT X'.K tt))(he: ∀X',jd X scope X'->QE X' elt te)
 (hsw:W3 (.ListComp elt [⟨.Name x p,iter,ifs,0⟩] scope pos) (some (.Name y py)) spos.line X.env=pure true:=by rfl)
 (hf:X.fn y=true\/X.env.scope.names.lookup y=some .local:=by first|exact .inl rfl|exact .inr rfl|assumption)(hs: ∀x,S1 iter X.env x=pure x:=by intro _;rfl):
 QS X (.Assign [.Name y py] (.ListComp elt [⟨.Name x p,iter,ifs,0⟩] scope pos) spos) (QK k (Zm (bN i) js ti tt te)):=by
 have base:PS X (.Assign [.Name y py] (.ListComp elt [⟨.Name x p,iter,ifs,0⟩] scope pos) spos) (RY (tLC js (LI X.K ti) (zX i) (LT X.K tt) (LE X.K te)) (zX k)):=
  DN hc S hi (λX' hX=>by obtain⟨C,s₀,H₀,ex,rfl⟩:=hX;exact zF hN hx hl) (λX' hX=>by have:=ht X' hX;obtain⟨C,s₀,H₀,ex,rfl⟩:=hX;exact this)
   (λX' hX=>by have:=he X' hX;obtain⟨C,s₀,H₀,ex,rfl⟩:=hX;exact this) (yN hN hk hy hf) hsw hs
 exact base.imp λD σ H h=>by
  obtain⟨rE,hd,Qd,rs,rh,t,p⟩:=Gx (K:=X.K) D σ H h;exact Nr (Nq hj) σ H _ ⟨rE,hd,Qd,rs,rh,t,p⟩
end
def dIn (i':G7)(ti:TID)(tt:TTD)(te:TED)(V:G0 D->HD->Prop)(ys:G0 D):SD->HD->Prop:=λσ h=>ti σ h λj h1=> ∃ (n:G7) (W:G7->G0 D->HD->Prop),W 0 ys h1/\ ∀i ys h',W i ys h'->ys.length<=sizeLine/\
 ∃ds,j h'=some ds/\ds.length<=n/\(ds.length<=i->V ys h')/\
  ∀d,ds[i]? =some d->tt (σ.set i' (some d)) h' λb h3=>if b=true then te (σ.set i' (some d)) h3 λy h4=> ∃h5,Sub h5 h4/\W (i+1) (ys++ [y]) h5 else ∃h5,Sub h5 h3/\W (i+1) ys h5
def DU (bind:D->SD->SD->Prop)(js:G0 G7)(ti:TID)(tt:TTD)(i':G7)(ti':TID)(tt':TTD)(te:TED):TED:=λσ h Q=>ti σ h λj h1=> ∃ (n:G7) (W:G7->G0 D->HD->Prop),W 0 [] h1/\ ∀i ys h',W i ys h'->ys.length<=sizeLine/\
 ∃ds,j h'=some ds/\ds.length<=n/\(ds.length<=i-> ∀p,h' p=none->Q (.lst p) (wC h' p ys))/\
  ∀d,ds[i]? =some d-> ∃rF,bind d (jI js σ) rF/\tt rF h' λb h3=>if b=true then dIn i' ti' tt' te (λys' h6=> ∃h5,Sub h5 h6/\W (i+1) ys' h5) ys rF h3 else ∃h5,Sub h5 h3/\W (i+1) ys h5
def Gz (K:G4)(js:G0 G7)(i':G7)(bind:D->SD->SD->Prop)(g:TG):Prop:= ∀ (σ:St) (rE rK:SD) (H:Hp) (d:D) (v:V) (Q:St->Hp->Prop),RelS K H (jI js rE) (jY js σ)->RelD K H d v->bind d (jI js rE) rK->
 (∀rF,Agree (jY js σ) rF->(∀u,¬rF[i']? =some (some u))->RelS K H rK rF->Q rF H)->g v (jY js σ) H Q
theorem Me {K:G4}{js:G0 G7}{i i':G7}(hi:i∈js)(hi':i'∈js)(hne:i≠i'):Gz K js i' (bN i) (zX i):=λσ rE rK H d v Q rs r b q=>by
 cases (show rK=_ from b);refine q _ (.set v λu=>jM js σ i u hi) (λu z=> ?_) (rs.set r i);rw [O3 hne] at z;exact jM js σ i' u hi' z
theorem Mf {K:G4}{bind:D->SD->SD->Prop}{js:G0 G7}{i':G7}{ti ti':TID}{tt tt':TTD}{te:TED}{g:TG}(hb:Gz K js i' bind g): ∀σ H Q,LE K (DU bind js ti tt i' ti' tt' te) σ H Q->Lj js (LI K ti) g (LT K tt) (LI K ti') (zX i') (LT K tt') (LE K te) σ H Q:=
 λσ H Q ⟨rE,h,Qd,rs,rh,q,p⟩=>by
  refine⟨rE,h,_,rs,rh,q,λj J h1 H1 k1 rh1 jo ⟨n,W,w0,turn⟩=> ?_⟩;refine⟨λi m ys H'=>m=n-i/\Kept H1 H'/\ ∃ds h',RelDs K H' ds ys/\RelH K h' H'/\W i ds h',⟨n-0,rfl,.refl _,[],h1,rfl,rh1,w0⟩,?_⟩;rintro i m ys H' ⟨rfl,kp,yd,h',ry,rh',w⟩;obtain⟨hz,ds,ej,hn,stop,go⟩:=turn i yd h' w;refine⟨by rw [<-ry.length];exact hz,?_⟩;have jo':=jo H' h' kp rh' ds ej i;have kk:Kept H H':=k1.trans kp
  by_cases hi:i<ds.length
  ·obtain⟨g1,y1⟩:=jo'.1 ds[i] (P2 hi);refine .inr ⟨g1,λx H'' y=> ?_⟩;obtain⟨k2,rh2,r2⟩:=y1 x H'' y;obtain⟨rK,bd,q2⟩:=go ds[i] (P2 hi);refine hb σ rE rK H'' ds[i] x _ (((rs.mono (kk.trans k2))).clear js) r2 bd λrF ag un rs2=>⟨ag,?_⟩
   refine LT.bind rs2 rh2 q2 λb h3 H3 k3 rs3 rh3 q3=> ?_
   cases b with
   |true=>
    rw [R0 rfl] at q3 ⊢
    -- the second clause
    refine⟨rK,h3,_,rs3,rh3,q3,λj2 J2 h4 H4 k4 rh4 jo2 ⟨n2,W2,w20,turn2⟩=> ?_⟩;refine⟨λi2 m2 ys2 H5=>m2=n2-i2/\Kept H4 H5/\ ∃ds h5,RelDs K H5 ds ys2/\RelH K h5 H5/\W2 i2 ds h5,⟨n2-0,rfl,.refl _,yd,h4,ry.mono (k2.trans (k3.trans k4)),rh4,w20⟩,?_⟩;rintro i2 m2 ys2 H5 ⟨rfl,kp5,yd5,h5,ry5,rh5,w5⟩;obtain⟨hz5,ds5,ej5,hn5,stop5,go5⟩:=turn2 i2 yd5 h5 w5;refine⟨by rw [<-ry5.length];exact hz5,?_⟩;have jo5:=jo2 H5 h5 kp5 rh5 ds5 ej5 i2;have kk5:Kept H1 H5:=kp.trans (k2.trans (k3.trans (k4.trans kp5)))
    by_cases hi5:i2<ds5.length
    ·obtain⟨g5,y5⟩:=jo5.1 ds5[i2] (P2 hi5);refine .inr ⟨g5,λx6 H6 yy6=> ?_⟩;obtain⟨k6,rh6,r6⟩:=y5 x6 H6 yy6;refine⟨.set x6 un,?_⟩;have rs6:=(rs3.mono (k4.trans (kp5.trans k6))).set r6 i';refine LT.bind rs6 rh6 (go5 ds5[i2] (P2 hi5)) λb h7 H7 k7 rs7 rh7 q7=> ?_
     cases b with
     |true=>
      rw [R0 rfl] at q7 ⊢;exact LE.bind rs7 rh7 q7 λd8 v8 h8 H8 k8 rs8 rh8 r8 ⟨h9,sb,w9⟩=>⟨n2-(i2+1),by omega,rfl,kp5.trans (k6.trans (k7.trans k8)),yd5++ [d8],h9,(ry5.mono (k6.trans (k7.trans k8))).append (.cons r8 .nil),rh8.sub sb,w9⟩
     |false=>
      rw [R7 P9] at q7 ⊢;obtain⟨h9,sb,w9⟩:=q7;exact⟨n2-(i2+1),by omega,rfl,kp5.trans (k6.trans k7),yd5,h9,ry5.mono (k6.trans k7),rh7.sub sb,w9⟩
    ·obtain⟨h9,sb,w9⟩:=stop5 (K0.mp hi5);exact .inl ⟨jo5.2 (K0.mp hi5),n-(i+1),by omega,rfl,kk5,yd5,h9,ry5,rh5.sub sb,w9⟩
   |false=>
    rw [R7 P9] at q3 ⊢;obtain⟨h5,sb,w5⟩:=q3;exact⟨n-(i+1),by omega,rfl,kp.trans (k2.trans k3),yd,h5,ry.mono (k2.trans k3),rh3.sub sb,w5⟩
  ·refine .inl ⟨jo'.2 (K0.mp hi),λa ha=>p (.lst a) (.ref a) _ _ (kk.trans (.new ha)) (rh'.newL ha ry) ⟨rfl,ys,jh⟩ (stop (K0.mp hi) a (rh'.free ha))⟩
section
variable {X:Cx}{iter iter' elt:S8}{te:TED}{ti ti':TID}{tt tt':TTD}{pos:Pos}{scope:E3}{js:G0 G7}{ifs ifs':G0 S8}
theorem Ei {i i':G7}{x y:Str}{p py:Pos}(hc:X.calm=true)(S:BlockOk X scope js)(hi:QI X (.Name x p) iter ti)(hj:i∈js)(hj':i'∈js)(hne:i≠i')(hN:X.N.Nodup)(hx:X.N[i]? =some x)(hy:X.N[i']? =some y)
 (hl:scope.names.lookup x=some .local\/scope.names.lookup x=some .cell)(hl':scope.names.lookup y=some .local\/scope.names.lookup y=some .cell)
 (ht: ∀X',jd X scope X'->PTs X' ifs (LT X'.K tt))(hi': ∀X',jd X scope X'->QI X' (.Name y py) iter' ti')(ht': ∀X',jd X scope X'->PTs X' ifs' (LT X'.K tt'))(he: ∀X',jd X scope X'->QE X' elt te)
 (hs: ∀x,S1 iter X.env x=pure x:=by intro _;rfl)(hs': ∀env x,S1 iter' env x=pure x:=by intro _ _;rfl):
 QE X (.ListComp elt [⟨.Name x p,iter,ifs,0⟩,⟨.Name y py,iter',ifs',0⟩] scope pos) (DU (bN i) js ti tt i' ti' tt' te):=
 (show PE X _ (Lj js (LI X.K ti) (zX i) (LT X.K tt) (LI X.K ti') (zX i') (LT X.K tt') (LE X.K te)) from CK hc S hi (λX' hX=>by obtain⟨C,s₀,H₀,ex,rfl⟩:=hX;exact zF hN hx hl) (λX' hX=>by have:=ht X' hX;obtain⟨C,s₀,H₀,ex,rfl⟩:=hX;exact this) (λX' hX=>by have:=hi' X' hX;obtain⟨C,s₀,H₀,ex,rfl⟩:=hX;exact this)
  (λX' hX=>by obtain⟨C,s₀,H₀,ex,rfl⟩:=hX;exact zF hN hy hl') (λX' hX=>by have:=ht' X' hX;obtain⟨C,s₀,H₀,ex,rfl⟩:=hX;exact this)
  (λX' hX=>by have:=he X' hX;obtain⟨C,s₀,H₀,ex,rfl⟩:=hX;exact this) hs hs').imp (Mf (Me hj hj' hne))
end
def Op:RD2:=λx y h Q=>match x,y with
 | .int i,.int j=>Q (.int (i+j)) h
 | .tup a,.tup b=>a.length+b.length<=sizeLine/\Q (.tup (a++b)) h
 | .lst a,.lst b=> ∃xs ys,h a=some xs/\h b=some ys/\xs.length+ys.length<=sizeLine/\ ∀p,h p=none->Q (.lst p) (wC h p (xs++ys))
 |_,_=>False
def Am:RD2:=λx y h Q=>match x,y with
 | .int i,.int j=>Q (.int (i-j)) h
 |_,_=>False
def An:RD2:=λx y h Q=>match x,y with
 | .int i,.int j=>CMul i j/\Q (.int (i*j)) h
 | .lst a,.int k=> ∃xs,h a=some xs/\ -(2^63)<=k/\k<2^63/\xs.length*k.toNat<=sizeLine/\ ∀p,h p=none->Q (.lst p) (wC h p (T8 k.toNat xs).flatten)
 |_,_=>False
def Ej:RD2:=λx y h Q=>match x,y with
 | .int i,.int j=>0<j/\Q (.int (i%j)) h
 |_,_=>False
def Oq:RD2:=λx y h Q=>match x,y with
 | .int i,.int j=>Ac i j/\Q (.int (i / j)) h
 |_,_=>False
def Ao:RD2:=λx y h Q=>match x,y with
 | .int i,.int j=>Ad i j/\Q (.int (i^j.toNat)) h
 |_,_=>False
def Mg (p:P3->P3->M6):RD2:=λx y h Q=>match x,y with
 | .int i,.int j=>Q (.bl (p i j)) h
 |_,_=>False
def eqD:RD2:=λx y h Q=>match x,y with
 | .int i,.int j=>Q (.bl (decide (i=j))) h
 | .bl i,.bl j=>Q (.bl (decide (i=j))) h
 | .str i,.str j=>Q (.bl (decide (i=j))) h
 |_,_=>False
def neD:RD2:=λx y h Q=>match x,y with
 | .int i,.int j=>Q (.bl (!decide (i=j))) h
 | .bl i,.bl j=>Q (.bl (!decide (i=j))) h
 | .str i,.str j=>Q (.bl (!decide (i=j))) h
 |_,_=>False
section
variable {X:Cx}
theorem Wx {f:G1->G1->Sem G1}{C:P3->P3->Prop}{g:P3->P3->V}{gd:P3->P3->D}{r:RD2}(ho:OpR X f (rI C g))(hg: ∀i j H,RelD X.K H (gd i j) (g i j))
 (hr: ∀x y h Q,r x y h Q-> ∃i j,x= .int i/\y= .int j/\C i j/\Q (gd i j) h):OpQ X f r:=ho.imp λx y H Q ⟨dx,dy,h,Qd,rx,ry,rh,q,p⟩=>by
 obtain⟨i,j,e1,e2,c,q'⟩:=hr dx dy h Qd q;subst e1 e2;exact⟨i,j,rx,ry,c,p _ _ _ _ (.refl H) rh (hg i j H) q'⟩
theorem vw {f:G1->G1->Sem G1}{g:P3->P3->V}{gd:P3->P3->D}{r:RD2}(ho:OpR X f (rI0 g))(hg: ∀i j H,RelD X.K H (gd i j) (g i j))
 (hr: ∀x y h Q,r x y h Q-> ∃i j,x= .int i/\y= .int j/\Q (gd i j) h):OpQ X f r:=ho.imp λx y H Q ⟨dx,dy,h,Qd,rx,ry,rh,q,p⟩=>by
 obtain⟨i,j,e1,e2,q'⟩:=hr dx dy h Qd q;subst e1 e2;exact⟨i,j,rx,ry,p _ _ _ _ (.refl H) rh (hg i j H) q'⟩
theorem YG:OpQ X (O4 .Sub) Am:=vw (gd:=λi j=> .int (i-j)) Co (λ_ _ _=>rfl) λx y h Q q=>by
 cases x<;>cases y<;>first|exact False.elim q|exact⟨_,_,rfl,rfl,q⟩
theorem YH:OpQ X (O4 .Mod) Ej:=Wx (gd:=λi j=> .int (i%j)) Cp (λ_ _ _=>rfl) λx y h Q q=>by
 cases x<;>cases y<;>first|exact False.elim q|exact⟨_,_,rfl,rfl,q.1,q.2⟩
theorem Ny:OpQ X (O4 .FloorDiv) Oq:=Wx (gd:=λi j=> .int (i / j)) MQ (λ_ _ _=>rfl) λx y h Q q=>by
 cases x<;>cases y<;>first|exact False.elim q|exact⟨_,_,rfl,rfl,q.1,q.2⟩
theorem Mh:OpQ X (O4 .Pow) Ao:=Wx (gd:=λi j=> .int (i^j.toNat)) Cq (λ_ _ _=>rfl) λx y h Q q=>by
 cases x<;>cases y<;>first|exact False.elim q|exact⟨_,_,rfl,rfl,q.1,q.2⟩
theorem Wy {p:P3->P3->M6}: ∀x y h Q,Mg p x y h Q-> ∃i j,x= .int i/\y= .int j/\Q (.bl (p i j)) h:=λx y h Q q=>by
 cases x<;>cases y<;>first|exact False.elim q|exact⟨_,_,rfl,rfl,q⟩
theorem Os:OpQ X (N1 .Lt) (Mg λi j=>decide (i<j)):=vw (gd:=λi j=> .bl (decide (i<j))) LH (λ_ _ _=>rfl) Wy
theorem DV:OpQ X (N1 .LtE) (Mg λi j=>decide (i<=j)):=vw (gd:=λi j=> .bl (decide (i<=j))) LJ (λ_ _ _=>rfl) Wy
theorem DW:OpQ X (N1 .Gt) (Mg λi j=>decide (j<i)):=vw (gd:=λi j=> .bl (decide (j<i))) LK (λ_ _ _=>rfl) Wy
theorem Fi:OpQ X (N1 .GtE) (Mg λi j=>decide (j<=i)):=vw (gd:=λi j=> .bl (decide (j<=i))) LL (λ_ _ _=>rfl) Wy
theorem BM {α:Type}[DecidableEq α]{f:α->V}(hf: ∀a b,f a=f b->a=b)(a b:α):decide (f a=f b)=decide (a=b):=by
 by_cases h:a=b
 ·subst h;simp
 ·rw [T1 h,T1 (λe=>h (hf a b e))]
theorem oq_eq:OpQ X (N1 .Eq) eqD:=op_eq.imp λx y H Q ⟨dx,dy,h,Qd,rx,ry,rh,q,p⟩=>by
 cases dx<;>cases dy<;>first
  |exact False.elim q
  |(cases (show x= .int _ from rx);cases (show y= .int _ from ry);refine⟨rfl,p _ _ _ _ (.refl H) rh ?_ q⟩;rw [BM (f:=V.int) (λa b e=>by cases e;rfl)];rfl)
  |(cases (show x= .bl _ from rx);cases (show y= .bl _ from ry);refine⟨rfl,p _ _ _ _ (.refl H) rh ?_ q⟩;rw [BM (f:=V.bl) (λa b e=>by cases e;rfl)];rfl)
  |(cases (show x= .str _ from rx);cases (show y= .str _ from ry);refine⟨rfl,p _ _ _ _ (.refl H) rh ?_ q⟩;rw [BM (f:=V.str) (λa b e=>by cases e;rfl)];rfl)
theorem Nz:OpQ X (N1 .NotEq) neD:=op_ne.imp λx y H Q ⟨dx,dy,h,Qd,rx,ry,rh,q,p⟩=>by
 cases dx<;>cases dy<;>first
  |exact False.elim q
  |(cases (show x= .int _ from rx);cases (show y= .int _ from ry);refine⟨rfl,p _ _ _ _ (.refl H) rh ?_ q⟩;rw [BM (f:=V.int) (λa b e=>by cases e;rfl)];rfl)
  |(cases (show x= .bl _ from rx);cases (show y= .bl _ from ry);refine⟨rfl,p _ _ _ _ (.refl H) rh ?_ q⟩;rw [BM (f:=V.bl) (λa b e=>by cases e;rfl)];rfl)
  |(cases (show x= .str _ from rx);cases (show y= .str _ from ry);refine⟨rfl,p _ _ _ _ (.refl H) rh ?_ q⟩;rw [BM (f:=V.str) (λa b e=>by cases e;rfl)];rfl)
def Fj (K:G4):R2:=λx y H Q=> ∃a b xs ys,x= .ref a/\y= .ref b/\SqT K H a xs/\SqT K H b ys/\xs= []/\Q (.ref b) H
theorem op_catT0:OpR X (O4 .Add) (Fj X.K):=by
 intro pins s σ H x y v u Q I rx ry h;obtain⟨a,b,xs,ys,rfl,rfl,ha,hb,hx,q⟩:=h;cases rx;cases ry;obtain⟨its,r1,p1,_⟩:=I.tuple ha;obtain⟨its2,r2,p2,_⟩:=I.tuple hb;have hv:its= []:=r1.nil_iff.mpr hx;obtain⟨⟨cls,dd,data,sl⟩,ho,hc,n,hd⟩:=id p1;obtain⟨⟨cls2,dd2,qV,sl2⟩,ho2,hc2,n2,hd2⟩:=id p2;simp only at hc hd hc2 hd2;subst hc hd hc2 hd2;exact iJ ⟨_,ho,rfl⟩ ⟨_,ho2,rfl⟩ dO gT a5 aV (aJ _ _)
  (tuple_addW0 a b its.toArray its2.toArray n n2 dd dd2 sl sl2 (by simp [hv])) ⟨ho,ho2,.ref b,H,I,rfl,q⟩
theorem zC:OpQ X (O4 .Add) Op:=(op_add.or (op_catT.or (op_catT0.or CF))).imp λx y H Q ⟨dx,dy,h,Qd,rx,ry,rh,q,p⟩=>by
 cases dx<;>cases dy<;>first
  |exact False.elim q
  |skip
 ·exact .inl ⟨_,_,rx,ry,p (.int _) _ _ _ (.refl H) rh rfl q⟩
 ·rename_i ds es;obtain⟨a,vs,e1,h1,r1⟩:=(show ∃a vs,x= .ref a/\H a=some (.tup vs)/\RelDs X.K H ds vs from rx);obtain⟨b,us,e2,h2,r2⟩:=(show ∃a vs,y= .ref a/\H a=some (.tup vs)/\RelDs X.K H es vs from ry);subst e1 e2;obtain⟨hz,q⟩:=q
  by_cases hv:vs= []
  ·subst hv;have e:ds= []:=aY.mp r1.length;subst e;exact .inr (.inr (.inl ⟨a,b,[],us,rfl,rfl,SqT.of h1,SqT.of h2,rfl,p (.tup es) _ _ _ (.refl H) rh ⟨b,us,rfl,h2,r2⟩ q⟩))
  ·refine .inr (.inl ⟨a,b,vs,us,rfl,rfl,SqT.of h1,SqT.of h2,hv,by rw [<-r1.length,<-r2.length];exact hz,λe=> ?_,λ_ c hc=> ?_⟩)
   ·subst e;have e:es= []:=aY.mp r2.length;subst e;rw [J3] at q;exact p (.tup ds) _ _ _ (.refl H) rh ⟨a,vs,rfl,h1,r1⟩ q
   ·exact p (.tup (ds++es)) _ _ _ (.new hc) (rh.new hc) ⟨c,vs++us,rfl,jh,(r1.append r2).mono (.new hc)⟩ q
 ·rename_i a b;obtain⟨xs,ys,h1,h2,hz,q⟩:=q;obtain⟨vs,e1,r1⟩:=rh a xs h1;obtain⟨us,e2,r2⟩:=rh b ys h2;refine .inr (.inr (.inr ⟨a,b,vs,us,rx.1,ry.1,e1,e2,by rw [<-r1.length,<-r2.length];exact hz,λc hc=> ?_⟩));exact p (.lst c) _ _ _ (.new hc) (rh.newL hc (r1.append r2)) ⟨rfl,_,jh⟩ (q c (rh.free hc))
theorem RelDs.flat {K:G4}{H:Hp}{ds:G0 D}{vs:G0 V}(r:RelDs K H ds vs): ∀k:G7,RelDs K H (T8 k ds).flatten (T8 k vs).flatten
 |0=>by simp;exact .nil
 |k+1=>by rw [J0,J0,V2,V2];exact r.append (RelDs.flat r k)
theorem oq_mul:OpQ X (O4 .Mult) An:=(op_mul.or CG).imp λx y H Q ⟨dx,dy,h,Qd,rx,ry,rh,q,p⟩=>by
 cases dx<;>cases dy<;>first
  |exact False.elim q
  |skip
 ·exact .inl ⟨_,_,rx,ry,q.1,p (.int _) _ _ _ (.refl H) rh rfl q.2⟩
 ·obtain⟨xs,h1,b1,b2,hz,q⟩:=q;obtain⟨vs,e1,r1⟩:=rh _ xs h1;refine .inr ⟨_,_,vs,rx.1,ry,e1,b1,b2,by rw [<-r1.length];exact hz,λc hc=> ?_⟩;exact p (.lst c) _ _ _ (.new hc) (rh.newL hc (r1.flat _)) ⟨rfl,_,jh⟩ (q c (rh.free hc))
end
def ixD:RD2:=λx y h Q=>match x,y with
 | .tup ds,.int i=> ∃d,atI ds i=some d/\Q d h
 | .lst a,.int i=> ∃ds d,h a=some ds/\atI ds i=some d/\Q d h
 | .scr ns,.int i=> ∃n,atI ns i=some n/\Q (.int n) h
 |_,_=>False
theorem GA {K:G4}{H:Hp}{ds:G0 D}{vs:G0 V}(r:RelDs K H ds vs){i:P3}{d:D}(e:atI ds i=some d): ∃v,atI vs i=some v/\RelD K H d v:=by
 unfold atI at e ⊢;rw [<-r.length];cases q:ixN ds.length i with
 |none=>rw [q] at e;cases e
 |some j=>rw [q] at e;exact r.get e
theorem NA {α β:Type}(f:α->β){xs:G0 α}{i:P3}{x:α}(e:atI xs i=some x):atI (xs.map f) i=some (f x):=by
 unfold atI at e ⊢;rw [G3];cases q:ixN xs.length i with
 |none=>rw [q] at e;cases e
 |some j=>
  rw [q] at e;show (xs.map f)[j]? =_;rw [P4,(show xs[j]? =some x from e)];rfl
section
variable {X:Cx}{a b e:S8}{ta tb te:TED}{pos p2:Pos}
theorem Ot: ∀σ H Q,LE X.K (dOp ixD ta tb) σ H Q->tOp (rIx X.K) (LE X.K ta) (LE X.K tb) σ H Q:=λσ H Q ⟨rE,h,Qd,rs,rh,t,p⟩=>
 LE.bind rs rh t λdx x h1 H1 k1 rs1 rh1 r1 t1=>LE.bind rs1 rh1 t1 λdy y h2 H2 k2 rs2 rh2 ry q=>by
  have rx:=r1.mono k2;have kk:=k1.trans k2;cases dx<;>cases dy<;>first
   |exact False.elim q
   |skip
  ·rename_i ds i;obtain⟨d,e,q⟩:=q;obtain⟨a,vs,e1,hH,r⟩:=(show ∃a vs,x= .ref a/\H2 a=some (.tup vs)/\RelDs X.K H2 ds vs from rx);obtain⟨v,e2,rv⟩:=GA r e;exact .inr (.inl ⟨a,vs,i,v,e1,ry,SqT.of hH,e2,p _ _ _ _ kk rh2 rv q⟩)
  ·rename_i a i;obtain⟨ds,d,hd,e,q⟩:=q;obtain⟨vs,hH,r⟩:=rh2 a ds hd;obtain⟨v,e2,rv⟩:=GA r e;exact .inl ⟨a,vs,i,v,rx.1,ry,SqL.of hH,e2,p _ _ _ _ kk rh2 rv q⟩
  ·rename_i ns i;obtain⟨n,e,q⟩:=q;obtain⟨a,e1,hS⟩:=(show ∃a,x= .ref a/\Scr X.K H2 a ns from rx);exact .inl ⟨a,_,i,.int n,e1,ry,hS.sq,NA V.int e,p (.int n) _ _ _ kk rh2 rfl q⟩
theorem qix (ha:QE X a ta)(hb:QE X b tb)(hs:Wu b):QE X (.Subscript a b pos) (dOp ixD ta tb):=(LU CA ha hb hs).imp Ot
end
def BN:RDn:=λds h Q=>match ds with
 | [.tup xs]=>Q (.int xs.length) h
 | [.lst a]=> ∃xs,h a=some xs/\Q (.int xs.length) h
 | [.scr ns]=>Q (.int ns.length) h
 |_=>False
def Ou:RDn:=λds h Q=>match ds with
 | [.int i]=>Q (.int i) h
 | [.bl k]=>Q (.int (if k then 1 else 0)) h
 |_=>False
def Ov:RDn:=λds h Q=>match ds with
 | [.int i,.int j]=>Q (.int (if j>i then j else i)) h
 |_=>False
def Mi:RDn:=λds h Q=>match ds with
 | [.tup xs]=>Q (.tup xs) h
 | [.lst a]=> ∃xs,h a=some xs/\Q (.tup xs) h
 |_=>False
def Xa:RDn:=λds h Q=>match ds with
 | [.lst a]=> ∃xs,h a=some xs/\Q (.tup xs) (VV h a)
 |_=>False
section
variable {X:Cx}
theorem Fk:wD X (.builtin "len") BN:=call_len_seq.imp λxs H Q ⟨ds,h,Qd,r,rh,q,p⟩=>by
 unfold BN at q;split at q
 ·rename_i es;obtain⟨v,e,r1⟩:=jq r;obtain⟨a,vs,e1,hH,r2⟩:=(show ∃a vs,v= .ref a/\H a=some (.tup vs)/\RelDs X.K H es vs from r1);subst e e1;exact⟨a,vs,rfl,.inr (SqT.of hH),by rw [<-r2.length];exact p (.int _) _ _ _ (.refl H) rh rfl q⟩
 ·rename_i a;obtain⟨es,hd,q⟩:=q;obtain⟨v,e,r1⟩:=jq r;obtain⟨vs,hH,r2⟩:=rh a es hd;have e1:v= .ref a:=r1.1;subst e e1;exact⟨a,vs,rfl,.inl (SqL.of hH),by rw [<-r2.length];exact p (.int _) _ _ _ (.refl H) rh rfl q⟩
 ·rename_i ns;obtain⟨v,e,r1⟩:=jq r;obtain⟨a,e1,hS⟩:=(show ∃a,v= .ref a/\Scr X.K H a ns from r1);subst e e1;exact⟨a,_,rfl,.inl hS.sq,by rw [G3];exact p (.int _) _ _ _ (.refl H) rh rfl q⟩
 ·exact q.elim
theorem Mj:wD X (.type "int") Ou:=call_int1.imp λxs H Q ⟨ds,h,Qd,r,rh,q,p⟩=>by
 unfold Ou at q;split at q
 ·rename_i i;obtain⟨v,e,r1⟩:=jq r;cases (show v= .int i from r1);exact .inl ⟨i,e,p (.int i) _ _ _ (.refl H) rh rfl q⟩
 ·rename_i k;obtain⟨v,e,r1⟩:=jq r;cases (show v= .bl k from r1);exact .inr ⟨k,e,p (.int _) _ _ _ (.refl H) rh rfl q⟩
 ·exact q.elim
theorem Fl (hc:X.calm=true):wD X (.builtin "max") Ov:=(Gd hc).imp λxs H Q ⟨ds,h,Qd,r,rh,q,p⟩=>by
 unfold Ov at q;split at q
 ·rename_i i j;obtain⟨v,w,e,r1,r2⟩:=ya r;cases (show v= .int i from r1);cases (show w= .int j from r2);exact⟨i,j,e,p (.int _) _ _ _ (.refl H) rh rfl q⟩
 ·exact q.elim
theorem cq_tuple:wD X (.type "tuple") Mi:=call_tuple_of.imp λxs H Q ⟨ds,h,Qd,r,rh,q,p⟩=>by
 unfold Mi at q;split at q
 ·rename_i es;obtain⟨v,e,r1⟩:=jq r;obtain⟨a,vs,e1,hH,r2⟩:=(show ∃a vs,v= .ref a/\H a=some (.tup vs)/\RelDs X.K H es vs from r1);subst e e1;exact⟨a,vs,rfl,.inr ⟨SqT.of hH,p (.tup es) _ _ _ (.refl H) rh ⟨a,vs,rfl,hH,r2⟩ q⟩⟩
 ·rename_i a;obtain⟨es,hd,q⟩:=q;obtain⟨v,e,r1⟩:=jq r;obtain⟨vs,hH,r2⟩:=rh a es hd;have e1:v= .ref a:=r1.1;subst e e1;exact⟨a,vs,rfl,.inl ⟨SqL.of hH,λc hc=>p (.tup es) _ _ _ (.new hc) (rh.new hc) ⟨c,vs,rfl,jh,r2.mono (.new hc)⟩ q⟩⟩
 ·exact q.elim
theorem jP:wD X (.type "tuple") Xa:=cq_tuple.imp λxs H Q ⟨ds,h,Qd,r,rh,q,p⟩=>by
 unfold Xa at q;split at q
 ·rename_i a;obtain⟨es,hd,q⟩:=q;exact⟨[.lst a],h,λd h'=>Qd d (VV h' a),r,rh,⟨es,hd,q⟩,λd v h' H' k rh' rd q'=>p d v _ H' k (rh'.sub (Sub.drop h' a)) rd q'⟩
 ·exact q.elim
end
def YI:D->D0 J6
 | .non=>some "NoneType" | .bl _=>some "bool" | .int _=>some "int" | .str _=>some "str" | .tup _=>some "tuple" | .lst _=>some "list" | .dic _ _=>some "dict" | .dct _=>none| .scr _=>none| .exc _=>none| .fn _=>none
def Fm (T:J6)(n:J6):M6:=n==T||(T== "int" &&n== "bool")
theorem DY {K:G4}{H:Hp}{d:D}{v:V}{n:J6}(r:RelD K H d v)(e:YI d=some n):TyOf K H v (.type n):=by
 cases d with
 |non=>cases (show v= .non from r);cases e;exact .non
 |bl b=>cases (show v= .bl b from r);cases e;exact .bl b
 |int i=>cases (show v= .int i from r);cases e;exact .int i
 |str x=>cases (show v= .str x from r);cases e;exact .str x
 |tup ds=>
  obtain⟨a,vs,e1,hH,_⟩:=(show ∃a vs,v= .ref a/\H a=some (.tup vs)/\RelDs K H ds vs from r);subst e1;cases e;exact .tup hH
 |lst a=>
  obtain⟨e1,vs,hH⟩:=(show v= .ref a/\ ∃vs,H a=some (.lst vs) from r);subst e1;cases e;exact .lst hH
 |dic x i=>
  obtain⟨a,e1,hH⟩:=(show ∃a,v= .ref a/\H a=some (.dK [(aO x,V.int i)]) from r);subst e1;cases e;exact .dK hH
 |dct a=>cases e
 |scr ns=>cases e
 |exc C=>cases e
 |fn a=>cases e
def NB:G0 J6:= ["NoneType","bool","int","str","tuple","list","dict"]
theorem XU {d:D}{n:J6}(e:YI d=some n):n∈NB:=by
 cases d<;>cases e<;>decide
def Ow (K:G4):Prop:= ∀n∈NB,∀T∈ ["tuple","int","bool","list","str"],fU K (.type n) (.type T)=some (Fm T n)
theorem NC (K:G4):Ow K:=by
 intro n hn T hT;simp only [NB,S5,Q6,or_false] at hn hT;rcases hn with rfl|rfl|rfl|rfl|rfl|rfl|rfl<;>rcases hT with rfl|rfl|rfl|rfl|rfl<;>with_unfolding_all rfl
theorem GB {X:Cx}(T:J6):CallR X (.builtin "isinstance") (λxs H Q=> ∃x t b,xs= [x,.ty T]/\TyOf X.K H x t/\fU X.K t (.type T)=some b/\Q (.bl b) H):=by
 intro pins s σ H xs us Q I r h;obtain⟨x,t,b,rfl,ty,e,q⟩:=h;obtain⟨u,w',rfl,rx,rt⟩:=DH r;cases (show w'=g7 T from rt);exact Gg I rx ty e λtk=>⟨.bl b,H,I.tok tk,rfl,q⟩
def dIs (T:J6)(ta:TED):TED:=λσ h Q=>ta σ h λx h1=> ∃n,YI x=some n/\Q (.bl (Fm T n)) h1
theorem Ox {X:Cx}{a:S8}{ta:TED}{T:J6}{t:Str}{p p2 pos:Pos}(hT:T∈ ["tuple","int","bool","list","str"])(hg:Gl X "isinstance")(hm:X.mg "isinstance" =none)(hg2:Gl X t)(hm2:X.mg t=none)(hv:A5 t=some (.type T))(ha:QE X a ta)
 (hn:t≠ "__name__" :=by decide)(hd:(t==("__debug__" :Str))=false:=by decide)
 (h1:D2 [a,.Name t p2] X.env=(false,L4 a X.env)::D2 [.Name t p2] X.env:=by rfl)(h2:(O9 pos (D2 [.Name t p2] X.env)).any (·.1)=false:=by rfl):
 QE X (.Call (.Name "isinstance" p) [a,.Name t p2] [] pos) (dIs T ta):=
 (JP (GB T) hg hm lL (wY ha (wY (ML (v:= .ty T) hg2 hm2 hv rfl hn hd) pa_nil (by rfl)) h1) (by decide) (by decide) h1 h2).imp
  λσ H Q ⟨rE,h,Qd,rs,rh,t,p⟩=>LE.bind rs rh t λd v h1 H1 k1 rs1 rh1 r1 ⟨n,e,q⟩=>⟨v,.type n,Fm T n,rfl,DY r1 e,NC _ n (XU e) T hT,p (.bl _) _ _ _ k1 rh1 rfl q⟩
theorem GC (bs:G0 M6):(G6 bs.length).all (λi=>bs.getD i false)=bs.all id:=by
 induction bs with
 |nil=>rfl
 |cons b bs ih=>
  rw [S4,eX,nC,X3,nC];show (b&&_)=(b&&bs.all id);rw [<-ih];rfl
theorem GD {bs:G0 M6}{its:G0 G1}(r:Vals (bs.map V.bl) its){i:G7}{v:G1}(e:its[i]? =some v):v= .bool (bs.getD i false):=by
 have hl:=r.length;rw [G3] at hl;have hi:i<its.length:=(D3.mp e).1;have hb:(bs.map V.bl)[i]? =some (.bl bs[i]):=by rw [P4,P2 (by omega)];rfl
 obtain⟨u,e1,r1⟩:=r.get hb;rw [e] at e1;cases e1;rw [D5,P2 (by omega)];exact r1
section
variable {X:Cx}
theorem Wz (hc:X.calm=true):CallR X (.builtin "all") (λxs H Q=> ∃ (a:P1) (bs:G0 M6),xs= [.ref a]/\SqL X.K H a (bs.map V.bl)/\Q (.bl (bs.all id)) H):=by
 intro pins s σ H xs us Q I r h;obtain⟨a,bs,rfl,hS,q⟩:=h;obtain⟨u,rfl,ru⟩:=wX r;cases ru;obtain⟨its,rv,pl,hz⟩:=I.list hS;have hl:=pl.isList;have hlt:a<s.heap.objs.size:=by obtain⟨_,e,_⟩:=hl;exact P7 e
 refine call_all_walk (E5 hl ?_);refine⟨s.heap.objs.size,_,_,_,_,_,λi=>bs.getD i false,rfl,bK (A:=X.A.in1) (show X.A.in1.handled=none from I.ok.hd hc) s.heap.objs.size a (R8 hlt) its.toArray,⟨⟨_,D9 _ rfl,rfl,rfl⟩,hl.push _⟩,?_,λh' tk hk=> ?_⟩
 ·intro i v s' Q' E' hP hQ;have e:its[i]? =some v:=by simpa using hP
  rw [GD rv e];exact O1 hQ
 ·have hn:its.toArray.size=bs.length:=by rw [D8,<-rv.length,G3]
  rw [hn,GC];exact⟨.bl _,H,I.kept (t':=tk) (λb o e=>hk b o (λz=>by rw [G9.mp z] at e;exact absurd (P7 e) (M4 _)) (G5 _ e)),rfl,q⟩
theorem Zn {K:G4}{H:Hp}: ∀ {bs:G0 M6} {vs:G0 V},RelDs K H (bs.map D.bl) vs->vs=bs.map V.bl
 | [],_,h=>h
 |b::bs,vs,h=>by
  obtain⟨v,r,e,h1,h2⟩:=(show ∃v r,vs=v::r/\RelD K H (.bl b) v/\RelDs K H (bs.map D.bl) r from h);rw [e,Zn h2,(show v= .bl b from h1)];rfl
def Fn:RDn:=λds h Q=> ∃ (a:P1) (bs:G0 M6),ds= [.lst a]/\h a=some (bs.map D.bl)/\Q (.bl (bs.all id)) (VV h a)
theorem Xb (hc:X.calm=true):wD X (.builtin "all") Fn:=(Wz hc).imp λxs H Q ⟨ds,h,Qd,r,rh,⟨a,bs,e,hd,q⟩,p⟩=>by
 subst e;obtain⟨v,e,r1⟩:=jq r;obtain⟨vs,hH,r2⟩:=rh a _ hd;have e1:v= .ref a:=r1.1;rw [Zn r2] at hH;subst e e1;exact⟨a,bs,rfl,SqL.of hH,p (.bl _) _ _ _ (.refl H) (rh.sub (Sub.drop h a)) rfl q⟩
end
def Ap (to:TED)(te:TED):TED:=λσ h Q=>to σ h λx h1=> ∃a,x= .lst a/\te σ h1 λy h2=> ∃xs,h2 a=some xs/\xs.length<sizeLine/\Q .non (wC h2 a (xs++ [y]))
section
variable {X:Cx}{o e i:S8}{to te ti:TED}{apos cpos pos:Pos}
theorem Ek (ho:QE X o to)(he:QE X e te)(hbase:aK o "append" X.env (L4 o X.env)=L4 o X.env:=by rfl)
 (hfew:((O9 cpos (D2 [e] X.env)).all (λx=> !x.1)&&(fW cpos (bT [] X.env)).all (λx=>x.1.isSome)&&decide ([e].length+([]:G0 a6).length+(if ([]:G0 a6).isEmpty then 0 else 1)<30))=true:=by rfl)
 (hline:(apos.endLine==cpos.line)=true:=by rfl)(hs:D2 [e] X.env=(false,L4 e X.env)::D2 [] X.env:=by rfl)(hplain:(O9 cpos (D2 [] X.env)).any (·.1)=false:=by rfl):
 QE X (.Call (.Attribute o "append" apos) [e] [] cpos) (Ap to te):=
 (CC dQ nD nE Gm ho (wY he pa_nil hs) hbase hfew hline hs hplain).imp
  λσ H Q ⟨rE,h,Qd,rs,rh,t,p⟩=>LE.bind rs rh t λd v h1 H1 k1 rs1 rh1 r1 ⟨a,e,q⟩=>by
   subst e;obtain⟨e1,vs,hH⟩:=(show v= .ref a/\ ∃vs,H1 a=some (.lst vs) from r1);subst e1;refine⟨.inl ⟨rfl,vs,SqL.of hH⟩,?_⟩;refine LE.bind rs1 rh1 q λy u h2 H2 k2 rs2 rh2 r2 ⟨xs,hx,hz,q2⟩=> ?_
   obtain⟨ws,hW,r3⟩:=rh2 a xs hx;refine⟨a,ws,u,rfl,rfl,hW,by rw [<-r3.length];exact hz,p .non _ _ _ (k1.trans (k2.trans (.put hW))) (rh2.put hW (r3.append (.cons r2 .nil))) rfl q2⟩
def Fo (to ti:TED):TGD:=λd σ h Q=>to σ h λo h1=>ti σ h1 λi h2=> ∃a k xs j,o= .lst a/\i= .int k/\h2 a=some xs/\ixN xs.length k=some j/\Q σ (wC h2 a (xs.set j d))
theorem Fp (ho:QE X o to)(hi:QE X i ti)
 (ha: ∀v,bI (.Subscript o i pos) X.env v=(do
  let ov <-V0 [v] (L4 o X.env)
  let iv <-V0 [v,ov] (L4 i X.env)
  c8 pos
  V0 [v,ov,iv] (n9 ov iv v)
  qD [v,ov,iv] []):=by intro _;rfl):QG X (.Subscript o i pos) (Fo to ti):=
 (Ch ho hi DL ha).imp λv σ H Q ⟨d,rE,h,Qd,r,rs,rh,q,p⟩=>
  LE.bind rs rh q λd1 v1 h1 H1 k1 rs1 rh1 r1 q1=>LE.bind rs1 rh1 q1 λd2 v2 h2 H2 k2 rs2 rh2 r2 ⟨a,k,xs,j,e1,e2,hx,hj,q2⟩=>by
   subst e1 e2;have e3:v1= .ref a:=(r1.mono k2).1;obtain⟨ws,hW,r3⟩:=rh2 a xs hx;refine⟨a,ws,k,j,e3,r2,hW,by rw [<-r3.length];exact hj,p _ _ _ _ (k1.trans (k2.trans (.put hW))) (rs2.mono (.put hW)) (rh2.put hW (RelDs.set ((r.mono k1).mono k2) j r3)) q2⟩
end
def Xc (N:G0 Str)(sc:G0 (Str×NameKind))(scope:E3)(js:G0 G7):M6:=
 scope.kind== .function&&scope.names.all (λp=>p.2 != .cell||scope.names.lookup p.1==some .cell)&&scope.names.all (λp=>p.2 != .local||scope.names.lookup p.1==some .local)&&
 scope.names.all (λp=>p.2 != .free||sc.lookup p.1==some .cell||sc.lookup p.1==some .free)&&
 (G6 N.length).all λi=>(scope.names.lookup (N.getD i Str.empty) !=some .local&&scope.names.lookup (N.getD i Str.empty) !=some .cell)||js.contains i
theorem jR {X:Cx}{scope:E3}{js:G0 G7}(h:Xc X.N X.env.scope.names scope js=true):BlockOk X scope js:=by
 unfold Xc at h;simp only [C3] at h;obtain⟨⟨⟨⟨h1,h2⟩,h3⟩,h4⟩,h5⟩:=h;refine⟨eq_of_beq h1,λp hp e=> ?_,λp hp e=> ?_,λp hp e=> ?_,λi x e1 e2=> ?_⟩
 ·have:=N7.mp h3 p hp;rw [e] at this;simpa using this
 ·have:=N7.mp h2 p hp;rw [e] at this;simpa using this
 ·have:=N7.mp h4 p hp;rw [e] at this;simpa using this
 ·have hi:i<X.N.length:=(D3.mp e1).1;have:=N7.mp h5 i (P6.mpr hi);rw [D5,e1,Z7] at this;rcases e2 with e2|e2<;>(rw [e2] at this;simpa using this)
theorem qpt {X:Cx}{e:S8}{t:TTD}(h:QW X e t):QT X e t:=h.pt
theorem GE {i:G7}{js:G0 G7}{ti:TID}{te:TED}{σ:SD}{h h1:HD}{Q:KD}{ds:G0 D}{j:ItD}(f:D->D)(hz:ds.length<=sizeLine)(hj:j h1=some ds)
 (ht: ∀R:ItD->HD->Prop,R j h1->ti σ h R)(he: ∀d∈ds,∀Q':KD,Q' (f d) h1->te ((jI js σ).set i (some d)) h1 Q')(hq: ∀p,h1 p=none->Q (.lst p) (wC h1 p (ds.map f))):Zm (bN i) js ti yF te σ h Q:=by
 refine ht _ ⟨ds.length,λk ys h'=>h'=h1/\ys=(ds.take k).map f,⟨rfl,by simp⟩,?_⟩;rintro k ys h' ⟨rfl,rfl⟩;refine⟨by simp only [G3,N3];omega,ds,hj,P0 _,λhl p hp=> ?_,λd hd=>⟨_,rfl,?_⟩⟩
 ·rw [M1 hl];exact hq p hp
 ·unfold yF;dsimp only;rw [R0 rfl];refine he d (S0 hd) _ ⟨h',Sub.refl _,rfl,?_⟩;rw [T2,hd];simp
end L2
namespace HT
open PySem PySem.Spec PyProof.Rows
section
variable {prog:S9}{w:N2}{A:T9}{E:G1->G2->Prop}{s:G2}
theorem yQ {t sl:P1}{items:M2 G1}{vl vu:G1}{lo hi:D0 P3}{Q:G1->G2->Prop}(ht:lZ s.heap t items)(hs:s.heap.IsSliceOf sl vl vu .none)(pl:eL vl lo)(pu:eL vu hi)
 (hw:sIx items.size 0 lo=0/\sIx items.size items.size hi=items.size)(h:Q (.ref t) s):R4 (R5 prog w) A (gI (.ref t) (.ref sl)) Q E s:=by
 obtain⟨os,hos,hcs,hds⟩:=id hs;have hTs:s.TypeIs (.ref sl) "slice" :=⟨os,hos,hcs⟩;unfold gI
 try with_reducible refine B8 ?_
 first|refine wpAny_bind (G8 ?_)|skip
 refine wpAny_bind (iM ht.typeIs (by decide) ?_);refine wpAny_bind (W6 (name:=Str.ofString "__getitem__") ht.typeIs J7
  (F6 J7 ht.typeIs gM ?_ (hG _ _)))
 show R4 _ _ (U1 (.ref t) >>= _) _ _ s;refine wpAny_bind (gU ht ?_);refine wpAny_bind (cB hTs ?_);rw [R0 (by decide)];refine wpAny_bind (wR hs pl pu ?_);have hyes:((((sIx items.size 0 lo:G7):P3)==0&&(1:P3)==1&&(sIx items.size items.size hi-sIx items.size 0 lo)==items.size)=true):=by
  rw [hw.1,hw.2];simp
 show R4 _ _ (if (((sIx items.size 0 lo:G7):P3)==0&&(1:P3)==1&&(sIx items.size items.size hi-sIx items.size 0 lo)==items.size)=true then _ else _) _ _ s;rw [R0 hyes];refine wpAny_bind (m:=cK (.ref t)) ?_;unfold cK;refine wpAny_bind (cB ht.typeIs (G8 ?_));rw [R0 (by decide)];exact wpAny_bind (hO (G8 ⟨_,rfl,G8 h⟩))
end
end HT
namespace L2
open PySem PySem.Spec PyProof.Rows
def El (K:G4):V->D0 P3->D0 P3->Hp->VK->Prop:=λx lo hi H Q=> ∃a xs,x= .ref a/\SqT K H a xs/\(HT.sIx xs.length 0 lo=0/\HT.sIx xs.length xs.length hi=xs.length)/\Q (.ref a) H
variable {X:Cx}
theorem sl_whole:SlR X (El X.K):=by
 intro pins s σ H x v vl vu lo hi sl Q I rx hs pl pu h;obtain⟨a,xs,rfl,hx,hw,q⟩:=h;cases rx;obtain⟨its,r,ht,hz⟩:=I.tuple hx;have hlen:its.toArray.size=xs.length:=by rw [D8];exact r.length.symm
 refine⟨"tuple",_,PyProof.Rows.slot_tuple_getitem.lookup,ht.typeIs,?_⟩;exact HT.yQ ht hs pl pu (by rw [hlen];exact hw) ⟨.ref a,H,I,rfl,q⟩
def XV {α:Type}(xs:G0 α)(lo hi:D0 P3):G0 α:=(xs.drop (HT.sIx xs.length 0 lo)).take (HT.sIx xs.length xs.length hi-HT.sIx xs.length 0 lo)
abbrev TOD:=SD->HD->(D0 P3->HD->Prop)->Prop
def Fq (t:TED):TOD:=λσ h Q=>t σ h λx h1=> ∃i,x= .int i/\Q (some i) h1
def LO (K:G4)(t:TOD):TO:=λσ H Q=> ∃rE h Qd,RelS K H rE σ/\RelH K h H/\t rE h Qd/\ ∀o h' H',Kept H H'->RelH K h' H'->Qd o h'->Q o H'
theorem LO.bind {K:G4}{ta:TOD}{σ:St}{H:Hp}{rE:SD}{h:HD}{kd:D0 P3->HD->Prop}{k:D0 P3->Hp->Prop}(rs:RelS K H rE σ)(rh:RelH K h H)(t:ta rE h kd)(f: ∀o h' H',Kept H H'->RelS K H' rE σ->RelH K h' H'->kd o h'->k o H'):LO K ta σ H k:=
 ⟨rE,h,kd,rs,rh,t,λo h' H' kp r1 q=>f o h' H' kp (rs.mono kp) r1 q⟩
theorem PO.imp {e:D0 S8}{t t':TO}(h:PO X e t)(i: ∀σ H Q,t' σ H Q->t σ H Q):PO X e t':=λpins s σ H Q I q=>h pins s σ H Q I (i σ H Q q)
abbrev QO (X:Cx)(e:D0 S8)(t:TOD):Prop:=PO X e (LO X.K t)
theorem ND {e:S8}{te:TED}(he:QE X e te):QO X (some e) (Fq te):=(MX he).imp λσ H Q ⟨rE,h,Qd,rs,rh,q,p⟩=>
 LE.bind rs rh q λd v h1 H1 k1 rs1 rh1 r1 ⟨i,e,q1⟩=>by subst e;exact⟨i,r1,p _ _ _ k1 rh1 q1⟩
def slD:D->D0 P3->D0 P3->HD->KD->Prop:=λx lo hi h Q=>match x with
 | .tup ds=>Q (.tup (XV ds lo hi)) h
 | .scr ns=> ∀p,h p=none->Q (.lst p) (wC h p ((XV ns lo hi).map D.int))
 | .lst a=> ∃ds,h a=some ds/\ ∀p,h p=none->Q (.lst p) (wC h p (XV ds lo hi))
 |_=>False
def dSl (te:TED)(tl th:TOD):TED:=λσ h Q=>te σ h λx h1=>tl σ h1 λl h2=>th σ h2 λu h3=>slD x l u h3 Q
theorem WA {K:G4}{H:Hp}{ds:G0 D}{vs:G0 V}(r:RelDs K H ds vs)(lo hi:D0 P3):RelDs K H (XV ds lo hi) (Dz vs lo hi):=by
 unfold XV Dz;rw [r.length];exact(r.drop _).take _
theorem NE {α β:Type}(f:α->β)(xs:G0 α)(lo hi:D0 P3):XV (xs.map f) lo hi=(XV xs lo hi).map f:=by
 unfold XV;rw [G3,nG,nH]
theorem Fr {e:S8}{te:TED}{lo hi:D0 S8}{tl th:TOD}{pos p2:Pos}(he:QE X e te)(hl:QO X lo tl)(hu:QO X hi th):QE X (.Subscript e (.Slice lo hi none p2) pos) (dSl te tl th):=
 (DK (sl_tup.or (sl_whole.or MY)) he hl hu).imp λσ H Q ⟨rE,h,Qd,rs,rh,q,p⟩=>
  LE.bind rs rh q λd v h1 H1 k1 rs1 rh1 r1 q1=>LO.bind rs1 rh1 q1 λl h2 H2 k2 rs2 rh2 q2=>LO.bind rs2 rh2 q2 λu h3 H3 k3 rs3 rh3 q3=>by
   have rv:=(r1.mono k2).mono k3;have kk:=k1.trans (k2.trans k3);cases d<;>first
    |exact False.elim q3
    |skip
   ·rename_i ds;obtain⟨a,vs,e1,hH,r⟩:=(show ∃a vs,v= .ref a/\H3 a=some (.tup vs)/\RelDs X.K H3 ds vs from rv)
    by_cases hw:HT.sIx vs.length 0 l=0/\HT.sIx vs.length vs.length u=vs.length
    ·refine .inr (.inl ⟨a,vs,e1,SqT.of hH,hw,p (.tup (XV ds l u)) _ _ _ kk rh3 ⟨a,vs,rfl,hH,?_⟩ q3⟩);have z:=WA r l u;have e:Dz vs l u=vs:=by unfold Dz;rw [hw.1,hw.2];simp
     rwa [e] at z
    ·exact .inl ⟨a,vs,e1,SqT.of hH,hw,λc hc=>p (.tup (XV ds l u)) _ _ _ (kk.trans (.new hc)) (rh3.new hc) ⟨c,_,rfl,jh,(WA r l u).mono (.new hc)⟩ q3⟩
   ·rename_i a;obtain⟨ds,hd,q3⟩:=q3;obtain⟨vs,hH,r⟩:=rh3 a ds hd;exact .inr (.inr ⟨a,vs,rv.1,SqL.of hH,λc hc=>p (.lst c) _ _ _ (kk.trans (.new hc)) (rh3.newL hc (WA r l u)) ⟨rfl,_,jh⟩ (q3 c (rh3.free hc))⟩)
   ·rename_i ns;obtain⟨a,e1,hS⟩:=(show ∃a,v= .ref a/\Scr X.K H3 a ns from rv);refine .inr (.inr ⟨a,_,e1,hS.sq,λc hc=>p (.lst c) _ _ _ (kk.trans (.new hc)) (rh3.newL hc ?_) ⟨rfl,_,jh⟩ (q3 c (rh3.free hc))⟩);have z:=WA (yA (K:=X.K) (H:=H3) ns) l u
    rwa [NE] at z
end L2
namespace HT
open PySem PySem.Spec PyProof.Rows
open Sem (wp)
open Builtin
theorem JF:fillsNumberSlot (.type "tuple") "mul" =pure false:=
 PySem.fillsNumberSlot_seq (id:= "tuple.__mul__") (r:=some (.builtin "tuple.__rmul__")) F.slot_tuple_mul.lookup (by decide +kernel) F.slot_tuple_rmul.lookup (by decide +kernel)
theorem YJ:p7 (.type "tuple")=pure (some (.builtin "tuple.__mul__")):=by
 unfold p7;rw [kK (T:= "tuple") (name:= "__mul__") (id:= "tuple.__mul__") F.slot_tuple_mul.lookup (by decide +kernel),kK (T:= "tuple") (name:= "__rmul__") (id:= "tuple.__rmul__") F.slot_tuple_rmul.lookup (by decide +kernel)];rfl
section
variable {prog:S9}{w:N2}{A:T9}{E:G1->G2->Prop}{s:G2}
theorem WB {k:P3}{t:Tok}{l:P1}{o:Obj}{its:M2 G1}{n:G7}{P:aX->G2->Prop}(at_:s.heap.get? l=some o)(tup:o.cls= .type "tuple")(dat:o.data= .seq its n)(h:P (.done (.ret .notImplemented)) s):R4 (R5 prog w) A (Builtin.«int.__rmul__» ⟨[.int k t,.ref l],[]⟩) P E s:=by
 obtain⟨c,dd,dt,sl⟩:=o;cases tup;cases dat;obtain⟨hp,g,d,tk,os⟩:=s
 wp_walk
 exact h
theorem VX {l:P1}{its:M2 G1}{n:G7}{x:P3}{u:Tok}{dd:D0 P1}{sl:M2 (D0 G1)}{P:aX->G2->Prop}(at_:s.heap.get? l=some {cls:= .type "tuple",dict:=dd,data:= .seq its n,slots:=sl})(fits: -(2^63)<=x/\x<2^63)
 (same:(its.isEmpty||x==1)=true->P (.done (.ret (.ref l))) s)
 (gone:(its.isEmpty||x==1)=false->(decide (x<=0)||its.isEmpty)=true->P (.done (.ret (.ref s.heap.objs.size))) {s with heap:=s.heap.push {cls:= .type "tuple",data:= .seq #[]}})
 (more:(its.isEmpty||x==1)=false->(decide (x<=0)||its.isEmpty)=false-> ¬ (its.size:P3)*x>(2^63-1) / 8/\cL ((its.size:P3)*x)=false/\((T8 x.toNat its).foldl (· ++ ·) #[]).size<=sizeLine/\
  P (.done (.ret (.ref s.heap.objs.size))) {s with heap:=s.heap.push {cls:= .type "tuple",data:= .seq ((T8 x.toNat its).foldl (· ++ ·) #[])}}):
 R4 (R5 prog w) A (Builtin.«tuple.__mul__» ⟨[.ref l,.int x u],[]⟩) P E s:=by
 obtain⟨hp,g,d,tk,os⟩:=s
 wp_walk
 rw [R7 (by simp only [X9,A1];omega)]
 wp_walk
 cases c1:(its.isEmpty||x==1) with
 |true=>
  rw [R0 rfl]
  wp_walk
  exact same c1
 |false=>
  rw [R7 P9];cases c2:(decide (x<=0)||its.isEmpty) with
  |true=>
   rw [R0 rfl]
   wp_walk
   exact gone c1 c2
  |false=>
   obtain⟨m1,m2,m3,m4⟩:=more c1 c2;rw [R7 P9];dsimp only;rw [R7 m1,m2,R7 P9]
   wp_walk
   exact m4
end
end HT
namespace L2
open PySem PySem.Spec PyProof.Rows
def Oy (K:G4):R2:=λx y H Q=> ∃ (a:P1) (k:P3) (xs:G0 V),x= .ref a/\y= .int k/\SqT K H a xs/\ -(2^63)<=k/\k<2^63/\xs.length*k.toNat<=sizeLine/\
 ((xs= []\/k=1)->Q (.ref a) H)/\(¬ (xs= []\/k=1)-> ∀p,H p=none->Q (.ref p) (upd H p (.tup (T8 k.toNat xs).flatten)))
theorem JQ {l:G0 G1}:l.toArray= #[]↔l= []:=by cases l<;>simp
variable {X:Cx}
theorem NF:OpR X (O4 .Mult) (Oy X.K):=by
 intro pins s σ H x y v u Q I rx ry h;obtain⟨a,k,xs,rfl,rfl,hH,h1,h2,hz,q1,q2⟩:=h;cases rx;obtain⟨t,rfl⟩:=ry;obtain⟨its,r,ht,_⟩:=I.tuple hH;obtain⟨⟨cls,dd,data,sl⟩,ho,hc,n,hd⟩:=id ht;simp only at hc hd;subst hc hd;have hl:=r.length;have hnew:(T8 k.toNat its.toArray).foldl (· ++ ·) #[]=(T8 k.toNat its).flatten.toArray:=by
  have:=Zd its k.toNat [];rw [K8] at this;exact this
 have few:its.length*k.toNat<=sizeLine:=by rw [<-hl];exact hz
 have free:=I.hok.fresh (P0 _);refine cV (T:= "tuple") (U:= "int") (by decide) ⟨_,ho,rfl⟩ (λs'=>eS s' k t) HT.JF lJ bZ HT.YJ F.slot_int_index.lookup
  (F6 bZ (eS s k t) kI (HT.WB ho rfl rfl ⟨_,rfl,rfl,⟨_,ho,rfl⟩,F6 F.slot_tuple_mul ⟨_,ho,rfl⟩ F.entry_tuple_mul (HT.VX ho ⟨h1,h2⟩ (λc=> ?_) (λc c0=> ?_) (λc c0=> ?_)) (F.args_tuple_mul_2 _ _)⟩) (iO _ _))
 ·refine⟨_,rfl,.ref a,H,I,rfl,q1 ?_⟩;simp only [X9,beq_iff_eq,iP,JQ] at c;exact c.imp (λe=>r.nil_iff.mp e) id
 ·simp only [fY,beq_eq_false_iff_ne,cM,ne_eq,JQ] at c;have k0:k.toNat=0:=by
   simp only [X9,A1,iP,JQ] at c0;have:=c0.resolve_right c.1;omega
  have last:=q2 (λz=>z.elim (λe=>c.1 (r.nil_iff.mpr e)) c.2) _ free;rw [k0] at last;exact⟨_,rfl,.ref s.heap.objs.size,_,I.laid (t':=s.toks) (o:= .tup []) (λb ob q=>G5 _ q) (P0 _) ⟨by decide,[],.nil,IsTupN.new _ _⟩,rfl,last⟩
 ·simp only [fY,beq_eq_false_iff_ne,cM,ne_eq,JQ,dR] at c c0;have em:((its.toArray.size:G7):P3)*k=((its.length*k.toNat:G7):P3):=by rw [Int.natCast_mul,D8,show ((k.toNat:G7):P3)=k by omega]
  have cap:(sizeLine:G7)<=(2^63-1) / 8:=by decide
  rw [em,hnew];refine⟨by omega,by unfold cL;exact T1 (by omega),by rw [D8,VU,Q1];exact few,_,rfl,.ref s.heap.objs.size,_,I.laid (t':=s.toks) (o:= .tup (T8 k.toNat xs).flatten) (λb ob q=>G5 _ q) (P0 _) ⟨by rw [VU,Q1];exact hz,_,r.rep k.toNat,IsTupN.new _ _⟩,rfl,q2 (λz=>z.elim (λe=>c.1 (r.nil_iff.mpr e)) c.2) _ free⟩
def Aq:RD2:=λx y h Q=>match x,y with
 | .tup ds,.int k=> -(2^63)<=k/\k<2^63/\ds.length*k.toNat<=sizeLine/\Q (.tup (T8 k.toNat ds).flatten) h
 |x,y=>An x y h Q
theorem WC:OpQ X (O4 .Mult) Aq:=(oq_mul.or NF).imp λx y H Q ⟨dx,dy,h,Qd,rx,ry,rh,q,p⟩=>by
 by_cases ht: ∃ds k,dx= .tup ds/\dy= .int k
 ·obtain⟨ds,k,e1,e2⟩:=ht;subst e1 e2;obtain⟨b1,b2,hz,q⟩:=q;obtain⟨a,vs,e,hH,r⟩:=(show ∃a vs,x= .ref a/\H a=some (.tup vs)/\RelDs X.K H ds vs from rx);refine .inr ⟨a,k,vs,e,ry,SqT.of hH,b1,b2,by rw [<-r.length];exact hz,λhs=> ?_,λ_ c hc=>p (.tup _) _ _ _ (.new hc) (rh.new hc) ⟨c,_,rfl,jh,(r.flat _).mono (.new hc)⟩ q⟩;refine p (.tup _) _ _ _ (.refl H) rh ⟨a,vs,rfl,hH,?_⟩ q;rcases hs with e0|e1
  ·subst e0;have:ds= []:=aY.mp r.length;subst this;simpa using r
  ·subst e1;simpa using r
 ·refine .inl ⟨dx,dy,h,Qd,rx,ry,rh,?_,p⟩;unfold Aq at q;split at q
  ·exact absurd ⟨_,_,rfl,rfl⟩ ht
  ·exact q
def Ar:D->HD->KD->Prop:=λx h Q=>match x with
 | .int i=>Q (.int (-i)) h
 |_=>False
def dUn (f:D->HD->KD->Prop)(ta:TED):TED:=λσ h Q=>ta σ h λx h1=>f x h1 Q
theorem Em {a:S8}{ta:TED}{pos:Pos}(ha:QE X a ta):QE X (.UnaryOp .USub a pos) (dUn Ar ta):=
 (LF Cr ha).imp λσ H Q ⟨rE,h,Qd,rs,rh,t,p⟩=>LE.bind rs rh t λd v h1 H1 k1 rs1 rh1 r1 q=>by
  cases d<;>first
   |exact False.elim q
   |exact⟨_,r1,p (.int _) _ _ _ k1 rh1 rfl q⟩
def Fs (K:G4)(tl:TE):TI:=λσ H R=>tl σ H λx H1=> ∃a,x= .ref a/\((∃xs,SqL K H1 a xs/\R (Itl K a) H1)\/ ∃xs,SqT K H1 a xs/\R (Itt K a) H1)
theorem Ft {tg l:S8}{tl:TE}(hl:PE X l tl):PI X tg l (Fs X.K tl):=by
 intro pins s σ H R I h;refine thn (hl pins s σ H _ I h) λv s1 ⟨x,H1,I1,r1,q1⟩=> ?_
 obtain⟨a,e,q⟩:=q1;subst e;cases r1;rcases q with ⟨xs,hq,q⟩|⟨xs,hq,q⟩
 ·obtain⟨its,rv,p,hz⟩:=I1.list hq;refine E5 p.isList ?_;refine⟨s1.heap.objs.size,[s1.heap.objs.size],_,_,H1,rfl,I1.kept (t':=s1.toks) λb o e=>G5 _ e,Yx a _,⟨_,D9 _ rfl,rfl,rfl⟩,λb hb=> ?_,q⟩;have e:b=s1.heap.objs.size:=by simpa using hb
  subst e;exact I1.fpOk (P0 _) (I1.hok.fresh (P0 _))
 ·obtain⟨its,rv,p,hz⟩:=I1.tuple hq;refine aS (show s1.heap.IsTuple a its.toArray from p) ?_;refine⟨s1.heap.objs.size,[s1.heap.objs.size],_,_,H1,rfl,I1.kept (t':=s1.toks) λb o e=>G5 _ e,XL a _,⟨_,D9 _ rfl,rfl,rfl⟩,λb hb=> ?_,q⟩;have e:b=s1.heap.objs.size:=by simpa using hb
  subst e;exact I1.fpOk (P0 _) (I1.hok.fresh (P0 _))
def iS (te:TED):TID:=λσ h R=>te σ h λx h1=>match x with
 | .lst a=>R (λh=>h a) h1
 | .tup ds=>R (λ_=>some ds) h1
 | .scr ns=>R (λ_=>some (ns.map D.int)) h1
 |_=>False
variable {K:G4}
theorem DZ {H:Hp}{a:P1}{ns:G0 P3}(hs:Scr K H a ns):BK K H (λ_=>some (ns.map D.int)) (Itl K a):=λH' h' k rh ds' e i=>by
 cases e;have hs':Scr K H' a ns:=hs.elim (λ⟨o,z⟩=> .inl ⟨o,k.frz _ _ _ z⟩) .inr;refine⟨λd hd=> ?_,λhl=>⟨_,hs'.sq,by simpa using hl⟩⟩;obtain⟨v,e1,e2⟩:=(yA (K:=K) (H:=H') ns).get hd;refine⟨⟨_,v,hs'.sq,e1⟩,λx H'' ⟨eH,hx⟩=> ?_⟩;subst eH;have:=hx _ hs'.sq;rw [e1] at this;cases this;exact⟨.refl _,rh,e2⟩
theorem Fu {te:TED}: ∀σ H R,LI K (iS te) σ H R->Fs K (LE K te) σ H R:=λσ H R ⟨rE,h,Rd,rs,rh,q,p⟩=>
 LE.bind rs rh q λd v h1 H1 k1 rs1 rh1 r1 q1=>by
  cases d<;>first
   |exact False.elim q1
   |skip
  ·rename_i ds;obtain⟨a,vs,e,hv,r⟩:=(show ∃a vs,v= .ref a/\H1 a=some (.tup vs)/\RelDs K H1 ds vs from r1);exact⟨a,e,.inr ⟨vs,SqT.of hv,p _ _ _ _ k1 rh1 (DS hv r) q1⟩⟩
  ·rename_i a;obtain⟨e,vs,hv⟩:=(show v= .ref a/\ ∃vs,H1 a=some (.lst vs) from r1);exact⟨a,e,.inl ⟨vs,SqL.of hv,p _ _ _ _ k1 rh1 (YF H1 a) q1⟩⟩
  ·rename_i ns;obtain⟨a,e,hS⟩:=(show ∃a,v= .ref a/\Scr K H1 a ns from r1);exact⟨a,e,.inl ⟨_,hS.sq,p _ _ _ _ k1 rh1 (DZ hS) q1⟩⟩
theorem Fv {tg e:S8}{te:TED}(he:QE X e te):QI X tg e (iS te):=(Ft he).imp Fu
def Mk:TSD:=λ_ _ _=>False
theorem Fw {st:L6}:QS X st Mk:=λ_ _ _ _ _ _ ⟨_,_,_,_,_,z,_⟩=>z.elim
structure Zs (mg:Str->D0 G1):Prop where
 len:mg "len" =none
 max:mg "max" =none
 min:mg "min" =none
 divmod:mg "divmod" =none
 all:mg "all" =none
 any:mg "any" =none
 repr:mg "repr" =none
 sum:mg "sum" =none
 sorted:mg "sorted" =none
 int:mg "int" =none
 tuple:mg "tuple" =none
 list:mg "list" =none
 set:mg "set" =none
 bool:mg "bool" =none
 isinstance:mg "isinstance" =none
 range:mg "range" =none
 zip:mg "zip" =none
 enumerate:mg "enumerate" =none
 reversed:mg "reversed" =none
def jj (P:S9)(w:N2)(K:G4)(mg:Str->D0 G1)(base:B3)(n:G7)(x:Str)(ps:G0 Str)(sp:RDn):Prop:=
 ∃ (g:P1) (gd:T7),FnOk P w K mg base CX0 n g gd ps (LSp K sp)/\Binds K gd ps []/\W4 K (.ref g)=true/\mg x=some (.ref g)
def GF:RDn:=λds h Q=> ∃ns,ds= [.scr ns]/\(∀a,h a=none)/\ns.length<=63/\ ∀h',Q (.bl true) h'
def Bm (mg:Str->D0 G1)(base:B3):Prop:= ∃bm ob,mg "__builtins__" =some (.ref bm)/\bm≠dZ/\base.get? bm=some ob/\ob.cls= .type "module" /\ob.dict=some dZ/\ob.data= .plain
def zT (K:G4):G0 (P1×P1):=LN.filterMap (gV K)
theorem TabK.mem {P:P1}(h:TabK K P): ∃c,(c,P)∈zT K:=let ⟨x,hx,c,e⟩:=h;⟨c,X1.mpr ⟨x,hx,e⟩⟩
theorem GG {P:S9}{w:N2}{mg mb:Str->D0 G1}{k:G7}{fa a:P1}{fd:T7}{x:Str}{rG:G2}{vs:G0 G1}{ns:G0 P3}
 (KX:K.In rG.heap)(hns:rG.heap.Ns L8 mg)(hb:rG.heap.Ns dZ mb)(hbb: ∀x:Str,x≠ "__name__" ->mb x=A5 x)(hlim:rG.heap.NoLimit)(hg:rG.gens= #[])
 (ha:rG.heap.get? a=some {cls:= .type "list",data:= .seq vs.toArray})(hi:X2 vs ns)(hl:ns.length<=63)(hr:Room k gJ)
 (hbm:Bm mg rG.heap)(F: ∀base:B3,K.In base->base.Ns L8 mg->Bm mg base->FnOk P w K mg base CX0 k fa fd [x] (LSp K GF))(hbind: ∀ (s:G2) (u:G1),lV s fd ⟨[u],[]⟩ [(x,u)])
 (hT: ∀p∈zT K,mI rG.heap p.1 p.2/\rG.heap.get? p.2=some (fZ #[])/\K.lookup p.2=none):
 U3 (R5 P w) gJ (.call (.ref fa) ⟨[.ref a],[]⟩) (λr s'=>r= .ok (.ret (.bool true))/\OldK rG.heap s'.heap/\s'.os=rG.os/\cZ s'.gens) rG:=by
 have rv:=YE hi;have lenV:=hi.length;have hz:ns.length<=sizeLine:=S7 hl (by decide);have hT': ∀b,b∈(zT K).map (·.2)-> ∃c,mI rG.heap c b/\rG.heap.get? b=some (fZ #[])/\K.lookup b=none:=λb hb=>by
  obtain⟨p,hp,rfl⟩:=R1.mp hb;exact⟨p.1,hT p hp⟩
 have core: ∀H:Hp,Scr K H a ns->HOk P w H rG.heap->(∀b u,H b=some u->(b=a/\K.lookup a=none/\ ∃o xs,u= .frz o (.lst xs))\/(b∈(zT K).map (·.2)/\u= .tbl #[]))->(∀b,b∈(zT K).map (·.2)->H b=some (.tbl #[]))->
  U3 (R5 P w) gJ (.call (.ref fa) ⟨[.ref a],[]⟩) (λr s'=>r= .ok (.ret (.bool true))/\OldK rG.heap s'.heap/\s'.os=rG.os/\cZ s'.gens) rG:=by
  intro H hS hok hA hTt;have noA: ∀ {b:P1} {o:Obj} {es:M2 DictEntry} {ep:G7},rG.heap.get? b=some o->o.data= .dict es ep->H b=none:=λ{b o es ep} e d=>by
   cases q:H b with
   |none=>rfl
   |some u=>
    rcases hA b u q with ⟨rfl,_,_⟩|⟨z,_⟩
    ·rw [ha] at e;cases e;have d':Data.seq vs.toArray _=Data.dict es ep:=d;cases d'
    ·obtain⟨c,_,e2,_⟩:=hT' b z;rw [e2] at e;cases e;have d':Data.fields _=Data.dict es ep:=d;cases d'
  have nsK: ∀ {b:P1} {m:Str->D0 G1},rG.heap.Ns b m->(DA rG.heap H).Ns b m:=λ{b m} ⟨o,es,ep,e,d,r⟩=>⟨o,es,ep,Wt e (noA e d),d,r⟩
  have hKb:K.In (DA rG.heap H):=λb o e=>Wt (KX b o e) (by
   cases q:H b with
   |none=>rfl
   |some u=>
    rcases hA b u q with ⟨rfl,z,_⟩|⟨z,_⟩
    ·rw [z] at e;cases e
    ·obtain⟨c,_,_,z2⟩:=hT' b z;rw [z2] at e;cases e)
  have hM:Mod K mg (DA rG.heap H):=⟨hKb,nsK hns,⟨mb,nsK hb,hbb⟩,let ⟨mc,h1,h2⟩:=hlim;⟨mc,nsK h1,h2⟩⟩;have e0:Env0 P w K mg (DA rG.heap H) gJ [] rG H:=⟨rfl,hM,λb o e=>MI e,Z6 (QP _ _),trivial,λb hb=>absurd (show b∈([]:G0 P1) from hb) (by simp),hok,.of_eq hg⟩;have hsp:LSp K GF [.ref a] H (λv _=>v= .bl true) (λ_ _ _=>False):=by
   refine⟨[.scr ns],⟨λ_=>none,λ_=>none⟩,λd _=>d= .bl true,⟨.ref a,[],rfl,⟨a,rfl,hS⟩,rfl⟩,⟨λb ds e=>(by cases e),λp hp=> ?_,λb c e=>(by cases e)⟩,⟨ns,rfl,λ_=>rfl,hl,λ_=>rfl⟩,?_⟩
   ·obtain⟨c,hc⟩:=hp.mem;exact⟨#[],hTt p (N8 (f:=(·.2)) hc),trivial,λpos cv e=>(by cases e)⟩
   ·intro d v h' H' _ _ r e;subst e;exact r
  have hBm:Bm mg (DA rG.heap H):=by
   obtain⟨bm,ob,b1,b2,b3,b4,r⟩:=hbm;refine⟨bm,ob,b1,b2,Wt b3 ?_,b4,r⟩;cases q:H bm with
   |none=>rfl
   |some u=>
    rcases hA bm u q with ⟨rfl,_,_⟩|⟨z,_⟩
    ·rw [ha] at b3;cases b3;exact absurd (Value.type.inj b4) (by decide)
    ·obtain⟨c,_,e2,_⟩:=hT' bm z;rw [e2] at b3;cases b3;cases b4
  refine cA ((F _ hKb (nsK hns) hBm).run gJ [] rG H ⟨[.ref a],[]⟩ [.ref a] [.ref a] _ _ hr e0 (hbind rG (.ref a)) (.cons rfl .nil) hsp) λr s' h=> ?_
  cases r with
  |error e=>exact False.elim h
  |ok fl=>
   cases fl with
   |next=>exact False.elim h
   |brk=>exact False.elim h
   |cont=>exact False.elim h
   |ret u=>
    obtain⟨v,H',os,bare,un,hok',r',q⟩:=h;have q':v= .bl true:=q;subst q';obtain rfl:u=lY true:=r';have one: ∀b o,rG.heap.get? b=some o->s'.heap.get? b=some o\/(b∈(zT K).map (·.2)/\ ∃more,s'.heap.get? b=some (fZ more)):=λb o e=>by
     cases q:H b with
     |none=>exact .inl (un.keep b o e q (by intro z;exact absurd (show b∈([]:G0 P1) from z) (by simp)) (by simp))
     |some u=>
      rcases hA b u q with ⟨rfl,_,ob,xs,rfl⟩|⟨z,rfl⟩
      ·have z2:=un.frzs _ ob _ q;obtain⟨e1,_⟩:=hok _ _ q;obtain⟨e2,_⟩:=hok' _ _ z2;rw [e] at e1;cases e1;exact .inl e2
      ·obtain⟨more,z2⟩:=un.tbls b _ q;exact .inr ⟨z,_,(show s'.heap.get? b=some _ from hok' b _ z2)⟩
    refine⟨rfl,⟨λb o e=> ?_,λb o e=> ?_⟩,os,bare⟩
    ·rcases one b o e with z|⟨z,more,z2⟩
     ·exact .inl z
     ·obtain⟨c,hc,e2,_⟩:=hT' b z;rw [e] at e2;cases e2;refine .inr (.inl ⟨(hc.tab e).isCodeTable,rfl,#[],more,rfl,?_⟩);rw [z2];simp
    ·rcases one b o e with z|⟨z,more,z2⟩
     ·exact⟨_,z⟩
     ·exact⟨_,z2⟩
 have nT:a ∉ (zT K).map (·.2):=λz=>by
  obtain⟨c,_,e2,_⟩:=hT' a z;rw [ha] at e2;cases e2
 have okT: ∀ {H:Hp} (b:P1),b∈(zT K).map (·.2)->ObjOk P w H rG.heap b (.tbl #[]):=λb hb=>let ⟨_,_,e,_⟩:=hT' b hb;e
 cases hk:K.lookup a with
 |some o=>
  have e:=KX a o hk;rw [ha] at e;cases e;refine core (λb=>if b∈(zT K).map (·.2) then some (.tbl #[]) else none) (.inr ⟨_,vs.toArray,_,hk,rfl,rfl,rfl,by rw [D8,lenV];exact hz,by simpa using rv⟩) (λb u z=> ?_) (λb u z=> ?_) λb hb=>R0 hb
  ·by_cases hb:b∈(zT K).map (·.2)
   ·have z':=(R0 hb).symm.trans z;cases z';exact okT b hb
   ·have z':=(R7 hb).symm.trans z;cases z'
  ·by_cases hb:b∈(zT K).map (·.2)
   ·have z':=(R0 hb).symm.trans z;cases z';exact .inr ⟨hb,rfl⟩
   ·have z':=(R7 hb).symm.trans z;cases z'
 |none=>
  refine core (λb=>if b=a then some (.frz {cls:= .type "list",data:= .seq vs.toArray} (.lst (ns.map V.int))) else if b∈(zT K).map (·.2) then some (.tbl #[]) else none) (.inl ⟨{cls:= .type "list",data:= .seq vs.toArray},R0 rfl⟩) (λb u z=> ?_) (λb u z=> ?_) λb hb=> ?_
  ·by_cases hb:b=a
   ·have z':=(R0 hb).symm.trans z;cases z';subst hb;exact⟨ha,by rw [G3];exact hz,vs,_,rv,ha⟩
   ·have z':=(R7 hb).symm.trans z
    by_cases hb2:b∈(zT K).map (·.2)
    ·have z2:=(R0 hb2).symm.trans z';cases z2;exact okT b hb2
    ·have z2:=(R7 hb2).symm.trans z';cases z2
  ·by_cases hb:b=a
   ·have z':=(R0 hb).symm.trans z;cases z';exact .inl ⟨hb,hk,_,_,rfl⟩
   ·have z':=(R7 hb).symm.trans z
    by_cases hb2:b∈(zT K).map (·.2)
    ·have z2:=(R0 hb2).symm.trans z';cases z2;exact .inr ⟨hb2,rfl⟩
    ·have z2:=(R7 hb2).symm.trans z';cases z2
  ·have:b≠a:=λz=>nT (z ▸ hb)
   show (if b=a then _ else _)=_;rw [R7 this,R0 hb]
def Oz (q:S9)(K:G4):M6:=LN.all λx=>match gV K x with
 |some p=>(K.lookup p.2).isNone&&((pJ q).find? (λe=>e.name==x)).isSome
 |none=>true
theorem Ra {l:lM}{k:G7}{q:S9}{loose:G0 Str}{XP:(Str->D0 G1)->B3->Prop}{YP:N2->B3->Prop}{d:DefRec}{K:qW->G4}{x:Str}(hn:l.most=some 63)(hdf:d.params.defaults= [])(hr:Room k gJ)
 (hY: ∀ (w:N2) (h:B3),YP w h->(K w.params).In h)(hB: ∀w:N2,Oz q (K w.params)=true)
 (F: ∀ (w:N2) (mg:Str->D0 G1) (fa:P1) (h:B3),(K w.params).In h->h.Ns L8 mg->mg d.name=some (.ref fa)->
  ∃fd:T7,(∀ (s:G2) (u:G1),lV s fd ⟨[u],[]⟩ [(x,u)])/\ ∀base:B3,(K w.params).In base->base.Ns L8 mg->Bm mg base->FnOk l.prog w (K w.params) mg base CX0 k fa fd [x] (LSp (K w.params) GF)):
 rB q loose XP YP l.row.toRowW d [] (λf vs=>pY f vs):=by
 refine Att.attach_call hn hdf λw s₀ rG mg mb fa o pm cd doc a vs ns G Y ho hd hcd hmg hobj hints hlen hg=> ?_
 have KX:=hY w _ Y;obtain⟨fd,hb,hF⟩:=F w mg fa _ KX G.T.g hmg;refine GG KX G.T.g G.T.b G.T.builtins G.T.nolimit hg hobj hints hlen hr G.T.bmain hF hb λp hp=> ?_
 obtain⟨x,hx,e⟩:=X1.mp hp;have z:=N7.mp (hB w) x hx;rw [e] at z;simp only [C3,Option.isNone_iff_eq_none] at z;obtain⟨dd,hdd⟩:=dE.mp z.2;have t:=qX (c:=p.1) (P:=p.2) G.T KX hdd e;exact⟨t.1,t.2,z.1⟩
def jU:S8->M6
 | .Starred .. =>false
 |_=>true
theorem VY {e:S8}{es:G0 S8}{env:Env}(h:jU e=true):D2 (e::es) env=(false,L4 e env)::D2 es env:=by
 cases e<;>first|rfl|cases h
theorem qac {e:S8}{es:G0 S8}{te:TED}{t:TAD}(ha:QE X e te)(hr:QA X es t)(h:jU e=true:=by rfl):QA X (e::es) (jZ te t):=Gw ha hr (VY h)
variable {h:HD}{L:G0 D}
theorem Sub.newAt {h':HD}{p:P1}(s:Sub h h')(e:h' p=none):Sub h (wC h' p L):=s.trans (.new e)
structure But (p:P1)(h h':HD):Prop where
 ls: ∀a ds,a≠p->h a=some ds->h' a=some ds
 dc: ∀a c,h.dc a=some c->h'.dc a=some c
instance {p:P1}{h h':HD}:CoeFun (But p h h') λ_=> ∀a ds,a≠p->h a=some ds->h' a=some ds:=⟨But.ls⟩
theorem zI {p q:P1}(e:h p=some L)(f:h q=none):q≠p:=λz=>by subst z;rw [e] at f;cases f
theorem jt {p q:P1}{M:G0 D}(e:h p=some L)(f:h q=none):wC h q M p=some L:=by rw [Zj (λz=>by subst z;rw [e] at f;cases f)];exact e
theorem yb {a b:P1}{M:G0 D}(n:b≠a)(e:h b=some M):wC h a L b=some M:=by rw [Zj n];exact e
theorem GH {n:G7}{i:G7}{d:D}(h:((G6 n).map λ(k:G7)=>D.int (k:P3))[i]? =some d):i<n/\d= .int i:=by
 rw [P4] at h
 by_cases hi:i<n
 ·rw [F1 hi] at h;cases h;exact⟨hi,rfl⟩
 ·rw [L9 (by simpa using hi)] at h;cases h
variable {E:EndsD}{σ:SD}
theorem jw {t u:TSD}(V:SD->HD->Prop)(first: ∀K:SD->HD->Prop,(∀rD h',V rD h'->K rD h')->t {E with nx:=K} σ h)(rest: ∀rD h',V rD h'->u E rD h'):yP t u E σ h:=first (u E) rest
def Nxt (E:EndsD)(V:SD->HD->Prop):EndsD:= {E with nx:=λrJ h3=> ∃h4,Sub h4 h3/\V rJ h4,ct:=λrJ h3=> ∃h4,Sub h4 h3/\V rJ h4,bk:=E.nx}
theorem Zo {ta:TAD}{g:TGD}{tb:TSD}{h1:HD}(n:G7)(W:G7->SD->HD->Prop)(hn:n<1000000)
 (ht: ∀R:G0 D->HD->Prop,R [.int (n:P3)] h1->ta σ h R)(w0:W 0 σ h1)(done: ∀rD h',W n rD h'->E.nx rD h')
 (turn: ∀i rD h',i<n->W i rD h'->g (.int (i:P3)) rD h' λrF h2=>tb (Nxt E λrJ h4=>i+1<=n/\W (i+1) rJ h4) rF h2):BL (iR1 ta) g tb E σ h:=by
 refine ht _ ⟨(n:P3),rfl,by omega,by omega,n,λi rD h'=>i<=n/\W i rD h',⟨B4 _,w0⟩,?_⟩;rintro i rD h' ⟨hi,w⟩;refine⟨_,rfl,by simp,λhl=> ?_,λd hd=> ?_⟩
 ·have:i=n:=by simp at hl;omega
  subst this;exact done _ _ w
 ·obtain⟨hi',e⟩:=GH hd;have hi2:i<n:=by omega
  subst e;exact turn i rD h' hi2 w
theorem JR {ti:TID}{g:TGD}{tb:TSD}{h1:HD}{j:ItD}(ds:G0 D)(W:G7->SD->HD->Prop)
 (ht: ∀R:ItD->HD->Prop,R j h1->ti σ h R)(hj: ∀i rD h',W i rD h'->j h'=some ds)(w0:W 0 σ h1)(done: ∀rD h',W ds.length rD h'->E.nx rD h')
 (turn: ∀i d rD h',ds[i]? =some d->W i rD h'->g d rD h' λrF h2=>tb (Nxt E λrJ h4=>i+1<=ds.length/\W (i+1) rJ h4) rF h2):BL ti g tb E σ h:=by
 refine ht _ ⟨ds.length,λi rD h'=>i<=ds.length/\W i rD h',⟨B4 _,w0⟩,?_⟩;rintro i rD h' ⟨hi,w⟩;refine⟨ds,hj i rD h' w,P0 _,λhl=> ?_,λd hd=>turn i d rD h' hd w⟩;have:i=ds.length:=by omega
 subst this;exact done _ _ w
theorem YK {g:TGD}{tb:TSD}{h1:HD}{j:ItD}(ds:G0 D)(W:G7->SD->HD->Prop)
 (hj: ∀i rD h',W i rD h'->j h'=some ds)(w0:W 0 σ h1)(done: ∀rD h',W ds.length rD h'->E.nx rD h')
 (turn: ∀i d rD h',ds[i]? =some d->W i rD h'->g d rD h' λrF h2=>tb (Nxt E λrJ h4=>i+1<=ds.length/\W (i+1) rJ h4) rF h2):
 ∃ (n:G7) (W:G7->SD->HD->Prop),W 0 σ h1/\ ∀i rD h',W i rD h'-> ∃ds,j h'=some ds/\ds.length<=n/\(ds.length<=i->E.nx rD h')/\
  ∀d,ds[i]? =some d->g d rD h' λrF h2=>tb {E with nx:=λrJ h3=> ∃h4,Sub h4 h3/\W (i+1) rJ h4,ct:=λrJ h3=> ∃h4,Sub h4 h3/\W (i+1) rJ h4,bk:=E.nx} rF h2:=by
 refine⟨ds.length,λi rD h'=>i<=ds.length/\W i rD h',⟨B4 _,w0⟩,?_⟩;rintro i rD h' ⟨hi,w⟩;refine⟨ds,hj i rD h' w,P0 _,λhl=> ?_,λd hd=>turn i d rD h' hd w⟩;have:i=ds.length:=by omega
 subst this;exact done _ _ w
end L2
namespace L2
open PySem PySem.Spec PyProof.Rows PySem.SeqAt
mutual
def ToP (h:HD):D->C7->Prop
 |d,.none=>d= .non
 |d,.bool b=>d= .bl b
 |d,.int i=>d= .int i
 |d,.str x=>d= .str x
 |d,.tuple ps=> ∃ds,d= .tup ds/\ToPs h ds ps
 |d,.list ps=> ∃a ds,d= .lst a/\h a=some ds/\ToPs h ds ps
 |_,.dict _=>False
def ToPs (h:HD):G0 D->G0 C7->Prop
 |ds,[]=>ds= []
 |ds,p::ps=> ∃d r,ds=d::r/\ToP h d p/\ToPs h r ps
end
section
variable {X:Cx}{pins:G0 (P1×Obj)}{σ:St}{H:Hp}{s:G2}{h:HD}
mutual
theorem wa (I:Inv X pins σ H s)(rh:RelH X.K h H): ∀ {p:C7} {d:D} {v:V} {u:G1},ToP h d p->RelD X.K H d v->RelV v u-> ∃as,Reads s.heap u p as
 | .none,d,v,u,t,r,ru=>by cases (show d= .non from t);cases (show v= .non from r);cases (show u= .none from ru);exact⟨[],.none⟩
 | .bool b,d,v,u,t,r,ru=>by cases (show d= .bl b from t);cases (show v= .bl b from r);cases (show u= .bool b from ru);exact⟨[],.bool b⟩
 | .int i,d,v,u,t,r,ru=>by cases (show d= .int i from t);cases (show v= .int i from r);obtain⟨k,rfl⟩:=(show ∃t,u=cE i t from ru);exact⟨[],.int i k⟩
 | .str x,d,v,u,t,r,ru=>by cases (show d= .str x from t);cases (show v= .str x from r);obtain⟨k,rfl⟩:=(show ∃t,u=gF x t from ru);exact⟨[],.str x k⟩
 | .tuple ps,d,v,u,t,r,ru=>by
  obtain⟨ds,e,ts⟩:=(show ∃ds,d= .tup ds/\ToPs h ds ps from t);subst e;obtain⟨a,vs,e,hH,rs⟩:=(show ∃a vs,v= .ref a/\H a=some (.tup vs)/\RelDs X.K H ds vs from r);subst e;cases (show u= .ref a from ru);obtain⟨its,rv,ht,_⟩:=I.tuple (SqT.of hH);obtain⟨o,ho,hc,n,hd⟩:=ht;obtain⟨as,q⟩:=reads_Ds I rh ts rs rv;exact⟨as,.tuple ho hc hd q⟩
 | .list ps,d,v,u,t,r,ru=>by
  obtain⟨a,ds,e,ha,ts⟩:=(show ∃a ds,d= .lst a/\h a=some ds/\ToPs h ds ps from t);subst e;obtain⟨vs,hH,rs⟩:=rh a ds ha;have e:v= .ref a:=r.1;subst e;cases (show u= .ref a from ru);obtain⟨its,rv,pl,_⟩:=I.list (SqL.of hH);obtain⟨o,ho,hc,n,hd⟩:=pl.isList;obtain⟨as,q⟩:=reads_Ds I rh ts rs rv;exact⟨a::as,.list ho hc hd q⟩
 | .dict _,_,_,_,t,_,_=>(show False from t).elim
theorem reads_Ds (I:Inv X pins σ H s)(rh:RelH X.K h H): ∀ {ps:G0 C7} {ds:G0 D} {vs:G0 V} {us:G0 G1},ToPs h ds ps->RelDs X.K H ds vs->Vals vs us-> ∃as,ReadsAll s.heap us ps as
 | [],ds,vs,us,t,r,rv=>by
  cases (show ds= [] from t);cases (show vs= [] from r);cases rv;exact⟨[],.nil⟩
 |p::ps,ds,vs,us,t,r,rv=>by
  obtain⟨d,dr,e,t1,t2⟩:=(show ∃d r,ds=d::r/\ToP h d p/\ToPs h r ps from t);subst e;obtain⟨v,vr,e,r1,r2⟩:=(show ∃v r,vs=v::r/\RelD X.K H d v/\RelDs X.K H dr r from r);subst e;cases rv with
  |cons ru rt=>
   obtain⟨as,q1⟩:=wa I rh t1 r1 ru;obtain⟨bs,q2⟩:=reads_Ds I rh t2 r2 rt;exact⟨as++bs,.cons q1 q2⟩
end
end
def eqE:RD2:=λx y h Q=>match x,y with
 | .int i,.int j=>Q (.bl (decide (i=j))) h
 | .bl i,.bl j=>Q (.bl (decide (i=j))) h
 | .str i,.str j=>Q (.bl (decide (i=j))) h
 |x,y=> ∃p q,ToP h x p/\ToP h y q/\shaped p=true/\shaped q=true/\Q (.bl (C0 p q)) h
section
variable {X:Cx}
def eqG:RD2:=λx y h Q=> ∃p q,ToP h x p/\ToP h y q/\shaped p=true/\shaped q=true/\Q (.bl (C0 p q)) h
theorem Fx (hu:X.A.units+64<cLine):OpQ X (N1 .Eq) eqG:=by
 intro pins s σ H x y v u Q I rx ry h;obtain⟨dx,dy,h,Qd,r1,r2,rh,⟨p,q,t1,t2,s1,s2,qq⟩,post⟩:=h;obtain⟨as,a1⟩:=wa I rh t1 r1 rx;obtain⟨bs,b1⟩:=wa I rh t2 r2 ry;exact compareEq_shaped a1 b1 s1 s2 hu ⟨.bl _,H,I,rfl,post (.bl _) _ _ _ (.refl H) rh rfl qq⟩
theorem OpQ.or' {f:G1->G1->Sem G1}{r r' r2:RD2}(h:OpQ X f r)(h':OpQ X f r')(i: ∀x y hh Q,r2 x y hh Q->r x y hh Q\/r' x y hh Q):OpQ X f r2:=λpins s σ H x y v u Q I rx ry ⟨dx,dy,hd,Qd,r1,r2',rh,q,p⟩=>
 (i dx dy hd Qd q).elim (λz=>h pins s σ H x y v u Q I rx ry ⟨dx,dy,hd,Qd,r1,r2',rh,z,p⟩) λz=>h' pins s σ H x y v u Q I rx ry ⟨dx,dy,hd,Qd,r1,r2',rh,z,p⟩
theorem GI (hu:X.A.units+64<cLine):OpQ X (N1 .Eq) eqE:=oq_eq.or' (Fx hu) λx y h Q q=>by
 unfold eqE at q;split at q
 ·exact .inl q
 ·exact .inl q
 ·exact .inl q
 ·exact .inr q
end
end L2
namespace HT
open PySem PySem.Spec PyProof.Rows
section
variable {prog:S9}{w:N2}{A:T9}{E:G1->G2->Prop}{s:G2}
theorem YL (k:P3){vs:G0 G1}{ns:G0 P3}(hi:X2 vs ns)(j:G7)(h:j<ns.length): ∃t,vs[j]? =some (.int ns[j] t):=by
 induction hi generalizing j with
 |nil=>simp at h
 |cons n t r ih=>
  cases j with
  |zero=>exact⟨t,rfl⟩
  |succ j=>obtain⟨u,e⟩:=ih j (by simpa using h);exact⟨u,by simpa using e⟩
theorem VZ {a:P1}{vs:G0 G1}{ns:G0 P3}{k:P3}{t:Tok}{Q:G1->G2->Prop}(ht:lZ s.heap a vs.toArray)(hi:X2 vs ns)(hk:k∈ns)(h:Q (.int (ns.idxOf k:G7) s.toks) {s with toks:=s.toks+1}):
 R4 (R5 prog w) A (call (.builtin "tuple.index") [.ref a,.int k t]) Q E s:=by
 refine F6 dH ht.typeIs mW ?_ (mJ _ _);unfold Builtin.«tuple.index»;have hj:ns.idxOf k<ns.length:=aM.mpr hk;have hlen:=hi.length;show R4 _ _ (U1 (.ref a) >>= _) _ _ s;refine wpAny_bind (gU ht ?_);have go:R4 (R5 prog w) A.in1 (forIn [0:min vs.toArray.size vs.toArray.size] ((none,()):D0 aX×Unit) λi __s=>
  match vs.toArray[i]? with
  |some y=>do
   let b <-eqBool y (.int k t)
   if b=true then do
    let r <-retInt ((i:G7):P3)
    pure (qY (some r,()))
    else pure (J4 (none,()))
  |x=>pure (J4 (none,())))
  (λr s'=>r=(some (.done (.ret (.int (ns.idxOf k:G7) s.toks))),())/\s'= {s with toks:=s.toks+1}) E s:=by
  rw [Std.Legacy.Range.forIn_eq_forIn_range'];refine kL _ (λrest b s'=>b=(none,())/\s'=s/\ ∃i,i<=ns.idxOf k/\rest=List.range' i (ns.length-i)) _ ?_ ?_ _ _ ⟨rfl,rfl,0,B4 _,?_⟩
  ·rintro x rest b s' ⟨rfl,rfl,i,hil,e⟩;have hin:i<ns.length:=by omega
   obtain⟨n,hn⟩: ∃n,ns.length-i=n+1:=⟨ns.length-i-1,by omega⟩;rw [hn,kM] at e;injection e with e1 e2
   subst e1 e2;obtain⟨u,hu⟩:=YL k hi x hin;have hu':vs.toArray[x]? =some (.int ns[x] u):=by simpa using hu
   rw [hu'];refine wpAny_bind (j8 ?_)
   by_cases hx:x=ns.idxOf k
   ·have he:(ns[x]==k)=true:=by subst hx;simpa using aT hj
    rw [R0 he];subst hx;refine wpAny_bind ?_;exact wpAny_bind (wpAny_mkInt (G8 (G8 ⟨rfl,rfl⟩)))
   ·have hlt:x<ns.idxOf k:=by omega
    have he: ¬ (ns[x]==k)=true:=by rw [ne_of_lt_idxOf hlt hin];exact P9
    rw [R7 he];refine G8 ⟨rfl,rfl,x+1,hlt,?_⟩;have:n=ns.length-(x+1):=by omega
    rw [this]
  ·rintro b s' ⟨rfl,rfl,i,hil,e⟩;have hin:i<ns.length:=by omega
   obtain⟨n,hn⟩: ∃n,ns.length-i=n+1:=⟨ns.length-i-1,by omega⟩;rw [hn,kM] at e;cases e
  ·simp [hlen]
 refine wpAny_bind (G8 (wpAny_bind (G8 (wpAny_bind (T3 go (λr s' e=> ?_) λ_ _ e=>e)))));obtain⟨rfl,rfl⟩:=e;exact G8 ⟨_,rfl,h⟩
end
section
variable {prog:S9}{w:N2}{A:T9}{E:G1->G2->Prop}{s:G2}
theorem XW {l:P1}{vs:G0 G1}{ns:G0 P3}{Q:G1->G2->Prop}(hl:lZ s.heap l vs.toArray)(hI:X2 vs ns)(h64:vs.length<64)
 (h: ∀ (h1 h':B3) (out:M2 G1) (ns':G0 P3) (c:G7),(∀b o,s.heap.get? b=some o->h1.get? b=some o)->(∀b o,h1.get? b=some o->h'.get? b=some o)->h'.get? h1.objs.size=some (b6 "list" out c)->
  X2 out.toList ns'->ns'.Perm ns->ns'.Pairwise (· <= ·)->Q (.ref h1.objs.size) {s with heap:=h'}):R4 (R5 prog w) A (call (.builtin "sorted") [.ref l]) Q E s:=by
 have few:vs.length<=sizeLine:=M3 (O2 h64 (by decide));obtain⟨o,at_,cl,n,dat⟩:=hl;refine Calls.call_function_entry o7 oF oG (oH _) (wpAny_bind (G8 (wpAny_bind (wpAny_collect_seq l (.inr rfl) at_ cl dat (λh1 grown=> ?_) (by simpa using few)))));have fresh:(h1.push (b6 "list" vs.toArray 0)).get? h1.objs.size=some (b6 "list" vs.toArray 0):=D9 _ rfl;refine wpAny_bind (gW (wpAny_bind (B8 (F6 mK ⟨_,fresh,rfl⟩ lN (list_sort_tree fresh hI h64 λout ns' i1 i2 i3=>⟨_,rfl,?_⟩) (mL _)))) few);obtain⟨c,lies⟩:=sortedHeap_at (vs:=vs) (out:=out) fresh;refine G8 ⟨_,rfl,h h1 _ out ns' c grown (λb ob e=> ?_) lies i1 i2 i3⟩;have lt:=P7 e;rw [sortedHeap_old (R8 lt) (by rw [size_push'];exact V4 lt)];exact G5 _ e
end
end HT
namespace L2
open PySem PySem.Spec PyProof.Rows
theorem yG: ∀ {ns:G0 P3} {us:G0 G1},Vals (ns.map V.int) us->X2 us ns
 | [],_,r=>by cases r;exact .nil
 |n::ns,_,r=>by
  cases r with
  |cons r t=>obtain⟨k,rfl⟩:=r;exact .cons n k (yG t)
theorem Zp: ∀ {ns:G0 P3} {us:G0 G1},X2 us ns->Vals (ns.map V.int) us
 |_,_,.nil=> .nil
 |_,_,.cons n t r=> .cons ⟨t,rfl⟩ (Zp r)
theorem jD {K:G4}{H:Hp}: ∀ {ns:G0 P3} {vs:G0 V},RelDs K H (ns.map D.int) vs->vs=ns.map V.int
 | [],_,h=>h
 |n::ns,vs,h=>by
  obtain⟨v,r,e,h1,h2⟩:=(show ∃v r,vs=v::r/\RelD K H (.int n) v/\RelDs K H (ns.map D.int) r from h);rw [e,jD h2,(show v= .int n from h1)];rfl
theorem Zq: ∀ {xs:G0 V} {us:G0 G1},xs.length=us.length->(∀ (i:G7) (x:V) (u:G1),xs[i]? =some x->us[i]? =some u->RelV x u)->Vals xs us
 | [],[],_,_=> .nil
 |x::xs,u::us,hl,h=> .cons (h 0 x u rfl rfl) (Zq (by simpa using hl) λi y w e1 e2=>h (i+1) y w (by simpa using e1) (by simpa using e2))
 | [],_::_,hl,_=>by simp at hl
 |_::_,[],hl,_=>by simp at hl
theorem Wg (ns:G0 P3): ∀k,k<=ns.length->p8 (λi=>ns.getD i 0) k=(ns.take k).sum
 |0,_=>by simp [p8]
 |k+1,h=>by
  have hk:k<ns.length:=by omega
  rw [p8,Wg ns k (by omega),T2,P2 hk,lO,D5,P2 hk];simp
variable {X:Cx}
theorem WD (hc:X.calm=true):CallR X (.builtin "sum") (λxs H Q=> ∃ (a:P1) (ns:G0 P3),xs= [.ref a]/\SqL X.K H a (ns.map V.int)/\Q (.int ns.sum) H):=by
 intro pins s σ H xs us Q I r h;obtain⟨a,ns,rfl,hS,q⟩:=h;obtain⟨u,rfl,ru⟩:=wX r;cases ru;obtain⟨its,rv,pl,hz⟩:=I.list hS;have hl:=pl.isList;have hlt:a<s.heap.objs.size:=by obtain⟨_,e,_⟩:=hl;exact P7 e
 have hi:=yG rv;have hn:its.length=ns.length:=hi.length;refine call_sum_walkAnyS (E5 hl ?_);refine⟨s.heap.objs.size,_,_,_,_,_,_,λi=>ns.getD i 0,rfl,(bK (A:=X.A.in1) (show X.A.in1.handled=none from I.ok.hd hc) s.heap.objs.size a (R8 hlt) its.toArray).toS,⟨⟨_,D9 _ rfl,rfl,rfl⟩,hl.push _⟩,?_,?_,λs' t' hm=> ?_⟩
 ·intro b hb;simp only [S5,Q6,or_false] at hb;show b<(s.heap.push _).objs.size;rw [W8];rcases hb with e|e
  ·rw [e];exact C4 _
  ·rw [e];exact V4 hlt
 ·intro i v hP;have e:its[i]? =some v:=by simpa using hP
  have hil:i<ns.length:=by rw [<-hn];exact(D3.mp e).1
  obtain⟨t,e2⟩:=HT.YL 0 hi i hil;rw [e] at e2;cases e2;refine⟨t,?_⟩;show cE ns[i] t=cE (ns.getD i 0) t;rw [D5,P2 hil];rfl
 ·have e:p8 (λi=>ns.getD i 0) its.toArray.size=ns.sum:=by
   rw [D8,hn,Wg ns _ (P0 _),dS]
  rw [e];obtain⟨h',g',d',tk',o'⟩:=s';obtain⟨m1,m2,m3,m4,_⟩:=hm;simp only at m1 m2 m3 m4;subst m2 m3 m4;refine⟨.int ns.sum,H,I.kept (t':=tk') (λb o e=>m1 b o (λz=> ?_) (G5 _ e)),⟨_,rfl⟩,q⟩;rw [G9.mp z] at e;exact absurd (P7 e) (M4 _)
def OA:RDn:=λds h Q=> ∃ (a:P1) (ns:G0 P3),ds= [.lst a]/\h a=some (ns.map D.int)/\Q (.int ns.sum) (VV h a)
theorem GJ (hc:X.calm=true):wD X (.builtin "sum") OA:=(WD hc).imp λxs H Q ⟨ds,h,Qd,r,rh,⟨a,ns,e,hd,q⟩,p⟩=>by
 subst e;obtain⟨v,e,r1⟩:=jq r;obtain⟨vs,hH,r2⟩:=rh a _ hd;have e1:v= .ref a:=r1.1;rw [jD r2] at hH;subst e e1;exact⟨a,ns,rfl,SqL.of hH,p (.int _) _ _ _ (.refl H) (rh.sub (Sub.drop h a)) rfl q⟩
def NG:RDn:=λds h Q=> ∃ns:G0 P3,(ds= [.tup (ns.map D.int)]\/ ∃a,ds= [.lst a]/\h a=some (ns.map D.int))/\ns.length<64/\ ∀ (p:P1) (ns':G0 P3),h p=none->ns'.Perm ns->ns'.Pairwise (· <= ·)->Q (.lst p) (wC h p (ns'.map D.int))
theorem call_sorted_ints:CallR X (.builtin "sorted") (λxs H Q=> ∃ (a:P1) (ns:G0 P3),xs= [.ref a]/\(SqL X.K H a (ns.map V.int)\/SqT X.K H a (ns.map V.int))/\ns.length<64/\ ∀ (p:P1) (ns':G0 P3),H p=none->ns'.Perm ns->ns'.Pairwise (· <= ·)->Q (.ref p) (upd H p (.lst (ns'.map V.int)))):=by
 intro pins s σ H xs us Q I r h;obtain⟨a,ns,rfl,hS,h64,q⟩:=h;obtain⟨u,rfl,ru⟩:=wX r;cases ru;have fin: ∀ (vs:G0 G1) (out:M2 G1) (ns':G0 P3),X2 out.toList ns'->ns'.Perm ns->ns'.Pairwise (· <= ·)->EP X pins σ Q (.ref (s.heap.objs.size+1)) {s with heap:=sortedAll s.heap vs out}:=λvs out ns' a1 a2 a3=>by
  obtain⟨e,he⟩:=sortedAll_at s.heap vs out;have hf:H (s.heap.objs.size+1)=none:=I.hok.fresh (lC _);refine⟨.ref _,_,I.laid (t':=s.toks) (o:= .lst (ns'.map V.int)) (λb ob q=>sortedAll_old q) (lC _) ?_,rfl,q _ ns' hf a2 a3⟩;refine⟨?_,out.toList,e,Zp a1,he⟩;rw [G3,a2.length_eq];exact M3 (O2 h64 (by decide))
 rcases hS with hS|hS
 ·obtain⟨its,rv,pl,hz⟩:=I.list hS;have hi:=yG rv;exact sorted_ints pl.isList hi (by rw [hi.length];exact h64) (fin its)
 ·obtain⟨its,rv,pl,hz⟩:=I.tuple hS;have hi:=yG rv;refine HT.XW pl hi (by rw [hi.length];exact h64) λh1 h' out ns' c k1 k2 lies a1 a2 a3=> ?_
  have I1:=I.kept (t':=s.toks) k1;refine⟨.ref _,_,I1.laid (t':=s.toks) (o:= .lst (ns'.map V.int)) k2 (P0 _) ⟨?_,out.toList,c,Zp a1,lies⟩,rfl,q _ ns' (I1.hok.fresh (P0 _)) a2 a3⟩;rw [G3,a2.length_eq];exact M3 (O2 h64 (by decide))
theorem GK:wD X (.builtin "sorted") NG:=call_sorted_ints.imp λxs H Q ⟨ds,h,Qd,r,rh,⟨ns,hd,h64,q⟩,p⟩=>by
 have fin: ∀ (c:P1) (ns':G0 P3),H c=none->ns'.Perm ns->ns'.Pairwise (· <= ·)->Q (.ref c) (upd H c (.lst (ns'.map V.int))):=λc ns' hc a b=>
  p (.lst c) _ _ _ (.new hc) (rh.newL hc (yA ns')) ⟨rfl,_,jh⟩ (q c ns' (rh.free hc) a b)
 rcases hd with e|⟨a,e,ha⟩
 ·subst e;obtain⟨v,e,r1⟩:=jq r;obtain⟨a,vs,e1,hH,r2⟩:=(show ∃a vs,v= .ref a/\H a=some (.tup vs)/\RelDs X.K H (ns.map D.int) vs from r1);rw [jD r2] at hH;subst e e1;exact⟨a,ns,rfl,.inr (SqT.of hH),h64,fin⟩
 ·subst e;obtain⟨v,e,r1⟩:=jq r;obtain⟨vs,hH,r2⟩:=rh a _ ha;have e1:v= .ref a:=r1.1;rw [jD r2] at hH;subst e e1;exact⟨a,ns,rfl,.inl (SqL.of hH),h64,fin⟩
def As (to te:TED):TED:=λσ h Q=>to σ h λx h1=> ∃ns:G0 P3,x= .tup (ns.map D.int)/\te σ h1 λy h2=> ∃k:P3,y= .int k/\k∈ns/\Q (.int (ns.idxOf k:G7)) h2
section
variable {X:Cx}{o e i:S8}{to te ti:TED}{apos cpos:Pos}
theorem En (ho:QE X o to)(he:QE X e te)(hbase:aK o "index" X.env (L4 o X.env)=L4 o X.env:=by rfl)
 (hfew:((O9 cpos (D2 [e] X.env)).all (λx=> !x.1)&&(fW cpos (bT [] X.env)).all (λx=>x.1.isSome)&&decide ([e].length+([]:G0 a6).length+(if ([]:G0 a6).isEmpty then 0 else 1)<30))=true:=by rfl)
 (hline:(apos.endLine==cpos.line)=true:=by rfl)(hs:D2 [e] X.env=(false,L4 e X.env)::D2 [] X.env:=by rfl)(hplain:(O9 cpos (D2 [] X.env)).any (·.1)=false:=by rfl):
 QE X (.Call (.Attribute o "index" apos) [e] [] cpos) (As to te):=by
 intro pins s σ H Q I h;obtain⟨rE,h,Qd,rs,rh,t,p⟩:=h;have h1:LE X.K to σ H (λv H1=> ∃ (ns:G0 P3) (a:P1) (h1:HD),v= .ref a/\H1 a=some (.tup (ns.map V.int))/\RelH X.K h1 H1/\Kept H H1/\te rE h1 λy h2=> ∃k:P3,y= .int k/\k∈ns/\Qd (.int (ns.idxOf k:G7)) h2):=
  ⟨rE,h,_,rs,rh,t,λd v h' H' k rh' rd ⟨ns,e,q⟩=>by
   subst e;obtain⟨a,vs,e1,hH,r2⟩:=(show ∃a vs,v= .ref a/\H' a=some (.tup vs)/\RelDs X.K H' (ns.map D.int) vs from rd);rw [jD r2] at hH;exact⟨ns,a,h',e1,hH,rh',k,q⟩⟩
 refine eT hbase hfew hline rfl (thn (ho pins s σ H _ I h1) λv s1 ⟨x,H1,I1,r1,ns,a,h1,ex,hH,rh1,k1,q1⟩=> ?_);subst ex;cases (show v= .ref a from r1);obtain⟨z,its,rv,ob,g1,g2,g3,g4⟩:=(show ObjOk X.prog X.w H1 s1.heap a (.tup (ns.map V.int)) from I1.hok a _ hH);refine⟨"tuple","tuple.index",nJ,dH,nK,⟨ob,g1,g2⟩,λb e=>by cases e;exact⟨ob,g1,g3⟩,?_⟩;have h2:LA X.K (jZ te Zk) σ H1 (λus H2=> ∃ (k:P3) (h2:HD),us= [.int k]/\k∈ns/\RelH X.K h2 H2/\Kept H1 H2/\Qd (.int (ns.idxOf k:G7)) h2):=
  ⟨rE,h1,λds h2=> ∃k:P3,ds= [.int k]/\k∈ns/\Qd (.int (ns.idxOf k:G7)) h2,rs.mono k1,rh1,by
   show te rE h1 λy h2=> ∃k:P3,[y]= [.int k]/\k∈ns/\Qd (.int (ns.idxOf k:G7)) h2
   have:(λy h2=> ∃k:P3,y=D.int k/\k∈ns/\Qd (.int (ns.idxOf k:G7)) h2)=λy h2=> ∃k:P3,[y]= [D.int k]/\k∈ns/\Qd (.int (ns.idxOf k:G7)) h2:=by
    funext y h2;simp
   rw [<-this];exact q1,λds vs h' H' k rh' rd ⟨kk,e,hm,q⟩=>by
   subst e;obtain⟨v,e,r2⟩:=jq rd;cases (show v= .int kk from r2);exact⟨kk,h',e,hm,rh',k,q⟩⟩
 have hA:=(Gw he Md hs:QA X [e] (jZ te Zk)) cpos pins s1 σ H1 _ I1 h2;rw [hs] at hA ⊢;refine Calls.callWith_builtin (by show (false||(O9 cpos (D2 [] X.env)).any (·.1))=false;rw [hplain]<;>rfl) (Calls.evalArgs_plain ?_);refine thn hA λus s2 ⟨vs,H2,I2,r2,k,h2,ev,hm,rh2,k2,q2⟩=> ?_
 subst ev;obtain⟨u,rfl,ru⟩:=wX r2;obtain⟨tk,rfl⟩:=ru;obtain⟨its2,rv2,ht2,_⟩:=I2.tuple (SqT.of (k2.tup _ _ hH));exact HT.VZ ht2 (yG rv2) hm ⟨.int _,H2,I2.tok _,⟨_,rfl⟩,p (.int _) _ _ _ (k1.trans k2) rh2 rfl q2⟩
end
def Fy (ta:TA):TE:=λσ H Q=>ta σ H λvs H1=> ∃j:P3,vs= [.int j]/\ ∀p,H1 p=none->Q (.ref p) (upd H1 p (.rng 0 j))
variable {a:S8}{p pos:Pos}
theorem Rb {ta:TA}(hg:Gl X "range")(hm:X.mg "range" =none)(ha:PA X [a] ta)(hs:D2 [a] X.env= [(false,L4 a X.env)]:=by rfl):PE X (.Call (.Name "range" p) [a] [] pos) (Fy ta):=by
 intro pins s σ H Q I h;refine qT (Za I hg hm l7 (E2 (thn (ha pos pins s σ H _ I h) λus s1 ⟨vs,H1,I1,r1,q1⟩=> ?_) hs rfl));obtain⟨j,e,q⟩:=q1;subst e;obtain⟨u,rfl,ru⟩:=wX r1;obtain⟨t,rfl⟩:=ru;refine oA ⟨.ref s1.heap.objs.size,_,I1.laid (o:= .rng 0 j) (λb ob q=>G5 _ q) (P0 _) ?_,rfl,q _ (I1.hok.fresh (P0 _))⟩;exact⟨_,_,_,D9 _ rfl⟩
theorem WE (hc:X.calm=true):CallR X (.type "list") (λxs H Q=> ∃ (p:P1) (n:G7),xs= [.ref p]/\H p=some (.rng 0 (n:P3))/\n<=1000/\ ∀l,H l=none->Q (.ref l) (upd H l (.lst ((G6 n).map λ(k:G7)=>V.int (k:P3))))):=by
 intro pins s σ H xs us Q I r h;obtain⟨p,n,rfl,hH,hn,q⟩:=h;obtain⟨u,rfl,ru⟩:=wX r;cases ru;obtain⟨t,u,v,e⟩:=(show ObjOk X.prog X.w H s.heap p (.rng 0 (n:P3)) from I.hok p _ hH);refine call_list_range (n:=n) (I.ok.hd hc) e (small_one (by decide) (by decide) (by omega) (by omega)) ?_ (S7 hn (by decide)) λh' tk acc c' kp e' hacc=> ?_
 ·rw [mZ];try (split<;>omega)
 ·refine⟨.ref s.heap.objs.size,_,I.laid (t':=tk) (o:= .lst ((G6 n).map λ(k:G7)=>V.int (k:P3))) (λb ob q=>kp b ob q) (P0 _) ?_,rfl,q _ (I.hok.fresh (P0 _))⟩;obtain⟨hs,hit⟩:=hacc;refine⟨by rw [G3,D6];exact M3 (jC hn),acc.toList,c',?_,by simpa using e'⟩;refine Zq (by simp [hs]) λi x u hx hu=> ?_
  rw [P4] at hx;have hi:i<n:=by
   by_cases z:i<n
   ·exact z
   ·rw [L9 (by simpa using z)] at hx;cases hx
  rw [F1 hi] at hx;cases hx;obtain⟨t,e⟩:=hit i u (by simpa using hu);exact⟨t,by rw [e];simp⟩
def Fz (ta:TAD):TED:=λσ h Q=>ta σ h λds h1=> ∃n:G7,ds= [.int (n:P3)]/\n<=1000/\ ∀p,h1 p=none->Q (.lst p) (wC h1 p ((G6 n).map λ(k:G7)=>D.int (k:P3)))
theorem YM {K:G4}{H:Hp}(f:G7->P3): ∀l:G0 G7,RelDs K H (l.map λk=>D.int (f k)) (l.map λk=>V.int (f k))
 | []=> .nil
 |k::l=> .cons rfl (YM f l)
theorem Kept.drop2 {H:Hp}{p q:P1}{o o':HO}(hp:H p=none)(hq:upd H p o q=none):Kept H (upd (upd H p o) q o'):=(Kept.new hp).trans (.new hq)
variable {p2:Pos}
theorem OB {ta:TAD}{pos2:Pos}(hc:X.calm=true)(hg:Gl X "list")(hm:X.mg "list" =none)(hg2:Gl X "range")(hm2:X.mg "range" =none)(ha:QA X [a] ta)(hs:D2 [a] X.env= [(false,L4 a X.env)]:=by rfl)
 (h1:D2 [.Call (.Name "range" p2) [a] [] pos2] X.env=(false,L4 (.Call (.Name "range" p2) [a] [] pos2) X.env)::D2 [] X.env:=by rfl)(h2:(O9 pos (D2 [] X.env)).any (·.1)=false:=by rfl):
 QE X (.Call (.Name "list" p) [.Call (.Name "range" p2) [a] [] pos2] [] pos) (Fz ta):=
 (Zb (WE hc) hg hm (by decide +kernel) (wY (Rb hg2 hm2 ha hs) pa_nil h1) (by decide) (by decide) h1 h2).imp
  λσ H Q ⟨rE,h,Qd,rs,rh,t,post⟩=>LA.bind rs rh t λds vs h1 H1 k1 rs1 rh1 r1 ⟨n,e,hn,q⟩=>by
   subst e;obtain⟨v,e,r2⟩:=jq r1;cases (show v= .int (n:P3) from r2);refine⟨n,e,λc hcn=>⟨c,n,rfl,jh,hn,λl hl=> ?_⟩⟩;have rh2:=(rh1.new (o:= .rng 0 (n:P3)) hcn);exact post (.lst l) (.ref l) _ _ (k1.trans (.drop2 hcn hl)) (rh2.newL hl (YM (λk=>(k:P3)) (G6 n))) ⟨rfl,_,jh⟩ (q l (rh2.free hl))
structure JE (X:Cx)(e:S8)(t:TED):Prop where
 to:QE X e t
structure JT (X:Cx)(e:S8)(t:TTD):Prop where
 to:QT X e t
structure JW (X:Cx)(e:S8)(t:TTD):Prop where
 to:QW X e t
structure JA (X:Cx)(e:G0 S8)(t:TAD):Prop where
 to:QA X e t
structure JS (X:Cx)(e:L6)(t:TSD):Prop where
 to:QS X e t
structure JSs (X:Cx)(e:G0 L6)(t:TSD):Prop where
 to:QSs X e t
structure JG (X:Cx)(e:S8)(t:TGD):Prop where
 to:QG X e t
structure JI (X:Cx)(tg e:S8)(t:TID):Prop where
 to:QI X tg e t
structure JO (X:Cx)(e:D0 S8)(t:TOD):Prop where
 to:QO X e t
section
variable {X:Cx}{a b c e:S8}{es rest:G0 S8}{ta tb tc te:TED}{t u:TAD}{tt tu:TTD}{pos:Pos}{f r r':RD2}
theorem jv (i:G7){x:Str}(hN:X.N[i]? =some x:=by rfl)(hv:Vis X.env.scope x:=by first|exact E1 rfl|exact Q2 (E1 rfl)|exact Q2 (Q2 rfl))(hd:(x==("__debug__" :Str))=false:=by decide)(hcd:(x==("__classdict__" :Str))=false:=by decide):JE X (.Name x pos) (Mc i):=⟨qv (i:=i) (hN:=hN) (hv:=hv) (hd:=hd) (hcd:=hcd)⟩
theorem zc {i:P3}{j:G7}:JE X (.Constant (.int i) j pos) (dC (.int i)):=⟨AS⟩
theorem jbl {i:M6}{j:G7}:JE X (.Constant (.bool i) j pos) (dC (.bl i)):=⟨qbl⟩
theorem Eo {j:G7}:JE X (.Constant .none j pos) (dC .non):=⟨AT⟩
theorem Rc {x:Str}{i:P3}{tk:Tok}(hg:Gl X x)(hm:X.mg x=some (.int i tk))(hd:(x==("__debug__" :Str))=false:=by decide):JE X (.Name x pos) (dC (.int i)):=⟨Oc (hg:=hg) (hm:=hm) (hd:=hd)⟩
theorem jop {op:oY}(ho:OpQ X (O4 op) f)(ha:JE X a ta)(hb:JE X b tb):JE X (.BinOp a op b pos) (dOp f ta tb):=⟨qop (ho:=ho) (ha:=ha.to) (hb:=hb.to)⟩
theorem Ep {op:c9}(ho:OpQ X (N1 op) f)(ha:JE X a ta)(hb:JE X b tb)(hm:K2 op b=false):JE X (.Compare a [op] [b] pos) (dOp f ta tb):=⟨AU (ho:=ho) (ha:=ha.to) (hb:=hb.to) (hm:=hm)⟩
theorem Re {op:c9}(ho:OpQ X (N1 op) f)(ha:JE X a ta)(hb:JE X b tb)(hm:K2 op b=false):JT X (.Compare a [op] [b] pos) (JD (dOp f ta tb)):=⟨Od (ho:=ho) (ha:=ha.to) (hb:=hb.to) (hm:=hm)⟩
theorem FA {op op':c9}(ho:OpQ X (N1 op) r)(ho':OpQ X (N1 op') r')(ha:JE X a ta)(hb:JE X b tb)(hc:JE X c tc)(hm:dM [op,op'] [b,c]=false:=by with_unfolding_all rfl):JE X (.Compare a [op,op'] [b,c] pos) (Zl r r' ta tb tc):=⟨CV (ho:=ho) (ho':=ho') (ha:=ha.to) (hb:=hb.to) (hc:=hc.to) (hm:=hm)⟩
theorem NH {op op':c9}(ho:OpQ X (N1 op) r)(ho':OpQ X (N1 op') r')(ha:JE X a ta)(hb:JE X b tb)(hc:JE X c tc)(hm:dM [op,op'] [b,c]=false:=by with_unfolding_all rfl):JT X (.Compare a [op,op'] [b,c] pos) (JD (Zl r r' ta tb tc)):=⟨Nh (ho:=ho) (ho':=ho') (ha:=ha.to) (hb:=hb.to) (hc:=hc.to) (hm:=hm)⟩
theorem WF (ha:JE X a ta)(he: ∀whole,isTrue a X.env whole=(do let v <-whole;c8 a.pos;V0 [v] (pO v)):=by intro _;rfl):JT X a (JD ta):=⟨Oe (ha:=ha.to) (he:=he)⟩
theorem Au (ha:JT X a tt):JW X (.BoolOp .Or [a] pos) tt:=⟨AV (ha:=ha.to)⟩
theorem Av (ha:JT X a tt)(hb:JW X (.BoolOp .Or (b::rest) pos) tu):JW X (.BoolOp .Or (a::b::rest) pos) (CL tt tu):=⟨AW (ha:=ha.to) (hb:=hb.to)⟩
theorem YN (ha:JT X a tt):JT X (.UnaryOp .Not a pos) (Gu tt):=⟨Of (ha:=ha.to)⟩
theorem NI {op:BoolOp}(ha:JE X a ta):JE X (.BoolOp op [a] pos) ta:=⟨AX (ha:=ha.to)⟩
theorem BO (ha:JE X a ta)(hb:JE X (.BoolOp .And (b::rest) pos) tb):JE X (.BoolOp .And (a::b::rest) pos) (DO ta tb):=⟨AY (ha:=ha.to) (hb:=hb.to)⟩
theorem jor (ha:JE X a ta)(hb:JE X (.BoolOp .Or (b::rest) pos) tb):JE X (.BoolOp .Or (a::b::rest) pos) (LY ta tb):=⟨qor (ha:=ha.to) (hb:=hb.to)⟩
theorem Er (ha:JE X a ta):JE X (.UnaryOp .Not a pos) (DP ta):=⟨AZ (ha:=ha.to)⟩
theorem jif {c:S8}(hc:JT X c tt)(ha:JE X a ta)(hb:JE X b tb):JE X (.IfExp c a b pos) (dIf tt ta tb):=⟨qif (hc:=hc.to) (ha:=ha.to) (hb:=hb.to)⟩
theorem yc:JA X [] Zk:=⟨Md⟩
theorem Ua {k:G7}(h:JA X es t):JE X (.Tuple es k pos) (LX t):=⟨Ea (h:=h.to)⟩
theorem XX (h:JA X es t):JE X (.List es pos) (Lk t):=⟨Eb (h:=h.to)⟩
end
section
variable {X:Cx}{st:L6}{sts:G0 L6}{t u:TSD}{e:S8}{te:TED}{pos:Pos}
theorem Ml:JSs X [] VW:=⟨Fb⟩
theorem jH (h1:JS X st t)(h2:JSs X sts u):JSs X (st::sts) (yP t u):=⟨Nn (h1:=h1.to) (h2:=h2.to)⟩
theorem jE (h1:JS X st t):JSs X [st] t:=⟨Fc (h1:=h1.to)⟩
theorem Zr (he:JE X e te)(hs:W3 e none pos.line X.env=pure false:=by rfl):JS X (.Expr e pos) (Ni te):=⟨Oi (he:=he.to) (hs:=hs)⟩
theorem wq (he:JE X e te):JS X (.Return (some e) pos) (DR te):=⟨Ec (he:=he.to)⟩
theorem Aw {c:S8}{a b:G0 L6}{tc:TTD}(hc:JT X c tc)(ha:JSs X a t)(hb:JSs X b u):JS X (.If c a b pos) (Nj tc t u):=⟨Ed (hc:=hc.to) (ha:=ha.to) (hb:=hb.to)⟩
theorem Es {i:G7}{x:Str}{pos':Pos}(hN:X.N.Nodup)(hi:X.N[i]? =some x)(hx:Loc X.env.scope x)(he:JE X e te)(hs:W3 e (some (.Name x pos')) pos.line X.env=pure false:=by rfl)(hf:X.fn x=true\/X.env.scope.names.lookup x=some .local:=by first|exact .inl rfl|exact .inr rfl|assumption):JS X (.Assign [.Name x pos'] e pos) (QK i te):=⟨Ee (hN:=hN) (hi:=hi) (hx:=hx) (he:=he.to) (hs:=hs) (hf:=hf)⟩
theorem NJ {i:G7}{x:Str}(hN:X.N.Nodup)(hi:X.N[i]? =some x)(hx:Loc X.env.scope x)(hf:X.fn x=true\/X.env.scope.names.lookup x=some .local:=by first|exact .inl rfl|exact .inr rfl|assumption):JG X (.Name x pos) (gN i):=⟨No (hN:=hN) (hi:=hi) (hx:=hx) (hf:=hf)⟩
theorem Mm {i j:G7}{x y:Str}{p1 p2:Pos}{k:G7}(hc:X.calm=true)(hN:X.N.Nodup)(hi:X.N[i]? =some x)(hj:X.N[j]? =some y)(hx:Loc X.env.scope x)(hy:Loc X.env.scope y)(hf:X.fn x=true\/X.env.scope.names.lookup x=some .local:=by first|exact .inl rfl|exact .inr rfl|assumption)(hf2:X.fn y=true\/X.env.scope.names.lookup y=some .local:=by first|exact .inl rfl|exact .inr rfl|assumption):JG X (.Tuple [.Name x p1,.Name y p2] k pos) (gT2 i j):=⟨Fd (hc:=hc) (hN:=hN) (hi:=hi) (hj:=hj) (hx:=hx) (hy:=hy) (hf:=hf) (hf2:=hf2)⟩
theorem OC {tg:S8}{g:TGD}(he:JE X e te)(hg:JG X tg g)(hs:gR [tg] e pos.line X.env=pure false:=by rfl)(hsw:gS [tg] e X.env=pure none:=by rfl)(h1:(aQ [tg] X.env).map (·.2)= [bI tg X.env]:=by rfl):JS X (.Assign [tg] e pos) (Og te g):=⟨Ef (he:=he.to) (hg:=hg.to) (hs:=hs) (hsw:=hsw) (h1:=h1)⟩
end
section
variable {X:Cx}{tg e iter elt:S8}{te:TED}{ti:TID}{g:TGD}{tb:TSD}{tt:TTD}{pos:Pos}{ta:TAD}{scope:E3}{js:G0 G7}{ifs:G0 S8}
theorem NK (he:JE X e te):JI X tg e (iL te):=⟨Nt (he:=he.to)⟩
theorem OD {p:Pos}{a:S8}(hg:Gl X "range")(hm:X.mg "range" =none)(ha:JA X [a] ta)(hs:D2 [a] X.env= [(false,L4 a X.env)]:=by rfl):JI X tg (.Call (.Name "range" p) [a] [] pos) (iR1 ta):=⟨On (hg:=hg) (hm:=hm) (ha:=ha.to) (hs:=hs)⟩
theorem QL {body:G0 L6}(hp:gG (R5 X.prog X.w) X.A X.env X.xe)(hc:X.calm=true)(hi:JI X tg iter ti)(hg:JG X tg g)(hb:JSs X body tb)(hs: ∀x,S1 iter X.env x=pure x:=by intro _;rfl):JS X (.For tg iter body [] pos) (BL ti g tb):=⟨Eg (hp:=hp) (hc:=hc) (hi:=hi.to) (hg:=hg.to) (hb:=hb.to) (hs:=hs)⟩
theorem ye:PTs X [] (LT X.K yF):=Nu
theorem WG {c:S8}(hc:JT X c tt):PTs X [c] (LT X.K tt):=Nv (hc:=hc.to)
theorem jlc {i:G7}{x:Str}{p:Pos}(hc:X.calm=true)(S:BlockOk X scope js)(hi:JI X (.Name x p) iter ti)(hj:i∈js)(hN:X.N.Nodup)(hx:X.N[i]? =some x)(hl:scope.names.lookup x=some .local\/scope.names.lookup x=some .cell)(ht: ∀X',jd X scope X'->PTs X' ifs (LT X'.K tt))(he: ∀X',jd X scope X'->JE X' elt te)(hs: ∀x,S1 iter X.env x=pure x:=by intro _;rfl):JE X (.ListComp elt [⟨.Name x p,iter,ifs,0⟩] scope pos) (Zm (bN i) js ti tt te):=⟨qlc (hc:=hc) (S:=S) (hi:=hi.to) (hj:=hj) (hN:=hN) (hx:=hx) (hl:=hl) (ht:=ht) (he:=λX' hX=>(he X' hX).to) (hs:=hs)⟩
theorem Ax {i j:G7}{x y:Str}{p1 p2 p3:Pos}{k:G7}(hc:X.calm=true)(S:BlockOk X scope js)(hi:JI X (.Tuple [.Name x p1,.Name y p2] k p3) iter ti)(hj:i∈js)(hj2:j∈js)(hij:i≠j)(hN:X.N.Nodup)(hx:X.N[i]? =some x)(hy:X.N[j]? =some y)(hl:scope.names.lookup x=some .local\/scope.names.lookup x=some .cell)(hl2:scope.names.lookup y=some .local\/scope.names.lookup y=some .cell)(ht: ∀X',jd X scope X'->PTs X' ifs (LT X'.K tt))(he: ∀X',jd X scope X'->JE X' elt te)(hs: ∀x,S1 iter X.env x=pure x:=by intro _;rfl):JE X (.ListComp elt [⟨.Tuple [.Name x p1,.Name y p2] k p3,iter,ifs,0⟩] scope pos) (Zm (b2 i j) js ti tt te):=⟨Eh (hc:=hc) (S:=S) (hi:=hi.to) (hj:=hj) (hj2:=hj2) (hij:=hij) (hN:=hN) (hx:=hx) (hy:=hy) (hl:=hl) (hl2:=hl2) (ht:=ht) (he:=λX' hX=>(he X' hX).to) (hs:=hs)⟩
end
section
variable {X:Cx}{k:G7}{f:P1}{fd:T7}{ps:G0 Str}{spd:RDn}{x:Str}{p pos:Pos}{e:S8}{es:G0 S8}{t:TAD}
theorem OE (F:FnOk X.prog X.w X.K X.mg X.base CX0 k f fd ps (LSp X.K spd))(hr:Room k X.A)(hg:Gl X x)(hm:X.mg x=some (.ref f))(hk:W4 X.K (.ref f)=true)(hb:Binds X.K fd ps [])(ha:JA X (e::es) t)(hdb:(x==("__debug__" :Str))=false:=by decide)(he:D2 (e::es) X.env=(false,L4 e X.env)::D2 es X.env:=by rfl)(hpl:(O9 pos (D2 es X.env)).any (·.1)=false:=by rfl):JE X (.Call (.Name x p) (e::es) [] pos) (dCB spd t):=⟨Oo (F:=F) (hr:=hr) (hg:=hg) (hm:=hm) (hk:=hk) (hb:=hb) (ha:=ha.to) (hdb:=hdb) (he:=he) (hpl:=hpl)⟩
theorem zq {id:J6}{r:RDn}(hc:wD X (.builtin id) r)(hg:Gl X x)(hm:X.mg x=none)(hv:A5 x=some (.builtin id))(ha:JA X (e::es) t)(hn:x≠ "__name__" :=by decide)(hdb:(x==("__debug__" :Str))=false:=by decide)(he:D2 (e::es) X.env=(false,L4 e X.env)::D2 es X.env:=by rfl)(hpl:(O9 pos (D2 es X.env)).any (·.1)=false:=by rfl):JE X (.Call (.Name x p) (e::es) [] pos) (dCB r t):=⟨Fg (hc:=hc) (hg:=hg) (hm:=hm) (hv:=hv) (ha:=ha.to) (hn:=hn) (hdb:=hdb) (he:=he) (hpl:=hpl)⟩
theorem zd {T:J6}{r:RDn}(hc:wD X (.type T) r)(hg:Gl X x)(hm:X.mg x=none)(hv:A5 x=some (.type T))(ha:JA X (e::es) t)(hn:x≠ "__name__" :=by decide)(hdb:(x==("__debug__" :Str))=false:=by decide)(he:D2 (e::es) X.env=(false,L4 e X.env)::D2 es X.env:=by rfl)(hpl:(O9 pos (D2 es X.env)).any (·.1)=false:=by rfl):JE X (.Call (.Name x p) (e::es) [] pos) (dCB r t):=⟨Nx (hc:=hc) (hg:=hg) (hm:=hm) (hv:=hv) (ha:=ha.to) (hn:=hn) (hdb:=hdb) (he:=he) (hpl:=hpl)⟩
end
section
variable {X:Cx}{iter elt:S8}{te:TED}{ti:TID}{tt:TTD}{pos spos:Pos}{scope:E3}{js:G0 G7}{ifs:G0 S8}
theorem FB {i k:G7}{x y:Str}{p py:Pos}(hc:X.calm=true)(hN:X.N.Nodup)(hk:X.N[k]? =some y)(hy:Loc X.env.scope y)(S:BlockOk X scope js)(hi:JI X (.Name x p) iter ti)(hj:i∈js)(hx:X.N[i]? =some x)(hl:scope.names.lookup x=some .local\/scope.names.lookup x=some .cell)(ht: ∀X',jd X scope X'->PTs X' ifs (LT X'.K tt))(he: ∀X',jd X scope X'->JE X' elt te)(hsw:W3 (.ListComp elt [⟨.Name x p,iter,ifs,0⟩] scope pos) (some (.Name y py)) spos.line X.env=pure true:=by rfl)(hf:X.fn y=true\/X.env.scope.names.lookup y=some .local:=by first|exact .inl rfl|exact .inr rfl|assumption)(hs: ∀x,S1 iter X.env x=pure x:=by intro _;rfl):JS X (.Assign [.Name y py] (.ListComp elt [⟨.Name x p,iter,ifs,0⟩] scope pos) spos) (QK k (Zm (bN i) js ti tt te)):=⟨Fh (hc:=hc) (hN:=hN) (hk:=hk) (hy:=hy) (S:=S) (hi:=hi.to) (hj:=hj) (hx:=hx) (hl:=hl) (ht:=ht) (he:=λX' hX=>(he X' hX).to) (hsw:=hsw) (hf:=hf) (hs:=hs)⟩
end
section
variable {X:Cx}{iter iter' elt:S8}{te:TED}{ti ti':TID}{tt tt':TTD}{pos:Pos}{scope:E3}{js:G0 G7}{ifs ifs':G0 S8}
theorem Et {i i':G7}{x y:Str}{p py:Pos}(hc:X.calm=true)(S:BlockOk X scope js)(hi:JI X (.Name x p) iter ti)(hj:i∈js)(hj':i'∈js)(hne:i≠i')(hN:X.N.Nodup)(hx:X.N[i]? =some x)(hy:X.N[i']? =some y)(hl:scope.names.lookup x=some .local\/scope.names.lookup x=some .cell)(hl':scope.names.lookup y=some .local\/scope.names.lookup y=some .cell)(ht: ∀X',jd X scope X'->PTs X' ifs (LT X'.K tt))(hi': ∀X',jd X scope X'->JI X' (.Name y py) iter' ti')(ht': ∀X',jd X scope X'->PTs X' ifs' (LT X'.K tt'))(he: ∀X',jd X scope X'->JE X' elt te)(hs: ∀x,S1 iter X.env x=pure x:=by intro _;rfl)(hs': ∀env x,S1 iter' env x=pure x:=by intro _ _;rfl):JE X (.ListComp elt [⟨.Name x p,iter,ifs,0⟩,⟨.Name y py,iter',ifs',0⟩] scope pos) (DU (bN i) js ti tt i' ti' tt' te):=⟨Ei (hc:=hc) (S:=S) (hi:=hi.to) (hj:=hj) (hj':=hj') (hne:=hne) (hN:=hN) (hx:=hx) (hy:=hy) (hl:=hl) (hl':=hl') (ht:=ht) (hi':=λX' hX=>(hi' X' hX).to) (ht':=ht') (he:=λX' hX=>(he X' hX).to) (hs:=hs) (hs':=hs')⟩
end
section
variable {X:Cx}{a b e:S8}{ta tb te:TED}{pos p2:Pos}
theorem jix (ha:JE X a ta)(hb:JE X b tb)(hs:Wu b):JE X (.Subscript a b pos) (dOp ixD ta tb):=⟨qix (ha:=ha.to) (hb:=hb.to) (hs:=hs)⟩
end
theorem GL {ta:TED}{T:J6}{t:Str}(hT:T∈ ["tuple","int","bool","list","str"])(hg:Gl X "isinstance")(hm:X.mg "isinstance" =none)(hg2:Gl X t)(hm2:X.mg t=none)(hv:A5 t=some (.type T))(ha:JE X a ta)(hn:t≠ "__name__" :=by decide)(hd:(t==("__debug__" :Str))=false:=by decide)(h1:D2 [a,.Name t p2] X.env=(false,L4 a X.env)::D2 [.Name t p2] X.env:=by rfl)(h2:(O9 pos (D2 [.Name t p2] X.env)).any (·.1)=false:=by rfl):JE X (.Call (.Name "isinstance" p) [a,.Name t p2] [] pos) (dIs T ta):=⟨Ox (hT:=hT) (hg:=hg) (hm:=hm) (hg2:=hg2) (hm2:=hm2) (hv:=hv) (ha:=ha.to) (hn:=hn) (hd:=hd) (h1:=h1) (h2:=h2)⟩
section
variable {X:Cx}{o e i:S8}{to te ti:TED}{apos cpos pos:Pos}
theorem Lm (ho:JE X o to)(he:JE X e te)(hbase:aK o "append" X.env (L4 o X.env)=L4 o X.env:=by rfl)(hfew:((O9 cpos (D2 [e] X.env)).all (λx=> !x.1)&&(fW cpos (bT [] X.env)).all (λx=>x.1.isSome)&&decide ([e].length+([]:G0 a6).length+(if ([]:G0 a6).isEmpty then 0 else 1)<30))=true:=by rfl)(hline:(apos.endLine==cpos.line)=true:=by rfl)(hs:D2 [e] X.env=(false,L4 e X.env)::D2 [] X.env:=by rfl)(hplain:(O9 cpos (D2 [] X.env)).any (·.1)=false:=by rfl):JE X (.Call (.Attribute o "append" apos) [e] [] cpos) (Ap to te):=⟨Ek (ho:=ho.to) (he:=he.to) (hbase:=hbase) (hfew:=hfew) (hline:=hline) (hs:=hs) (hplain:=hplain)⟩
theorem Mn (ho:JE X o to)(hi:JE X i ti)(ha: ∀v,bI (.Subscript o i pos) X.env v=(do
 let ov <-V0 [v] (L4 o X.env)
 let iv <-V0 [v,ov] (L4 i X.env)
 c8 pos
 V0 [v,ov,iv] (n9 ov iv v)
 qD [v,ov,iv] []):=by intro _;rfl):JG X (.Subscript o i pos) (Fo to ti):=⟨Fp (ho:=ho.to) (hi:=hi.to) (ha:=ha)⟩
end
theorem jpt {e:S8}{t:TTD}(h:JW X e t):JT X e t:=⟨qpt (h:=h.to)⟩
variable {te:TED}
theorem GM {e:S8}(he:JE X e te):JO X (some e) (Fq te):=⟨ND (he:=he.to)⟩
theorem FC {e:S8}{lo hi:D0 S8}{tl th:TOD}(he:JE X e te)(hl:JO X lo tl)(hu:JO X hi th):JE X (.Subscript e (.Slice lo hi none p2) pos) (dSl te tl th):=⟨Fr (he:=he.to) (hl:=hl.to) (hu:=hu.to)⟩
theorem Eu {ta:TED}(ha:JE X a ta):JE X (.UnaryOp .USub a pos) (dUn Ar ta):=⟨Em (ha:=ha.to)⟩
theorem jB {tg e:S8}(he:JE X e te):JI X tg e (iS te):=⟨Fv (he:=he.to)⟩
theorem Xd {st:L6}:JS X st Mk:=⟨Fw⟩
theorem jac {e:S8}{es:G0 S8}{t:TAD}(ha:JE X e te)(hr:JA X es t)(h:jU e=true:=by rfl):JA X (e::es) (jZ te t):=⟨qac (ha:=ha.to) (hr:=hr.to) (h:=h)⟩
section
variable {X:Cx}{o e i:S8}{to te ti:TED}{apos cpos:Pos}
theorem Ev (ho:JE X o to)(he:JE X e te)(hbase:aK o "index" X.env (L4 o X.env)=L4 o X.env:=by rfl)(hfew:((O9 cpos (D2 [e] X.env)).all (λx=> !x.1)&&(fW cpos (bT [] X.env)).all (λx=>x.1.isSome)&&decide ([e].length+([]:G0 a6).length+(if ([]:G0 a6).isEmpty then 0 else 1)<30))=true:=by rfl)(hline:(apos.endLine==cpos.line)=true:=by rfl)(hs:D2 [e] X.env=(false,L4 e X.env)::D2 [] X.env:=by rfl)(hplain:(O9 cpos (D2 [] X.env)).any (·.1)=false:=by rfl):JE X (.Call (.Attribute o "index" apos) [e] [] cpos) (As to te):=⟨En (ho:=ho.to) (he:=he.to) (hbase:=hbase) (hfew:=hfew) (hline:=hline) (hs:=hs) (hplain:=hplain)⟩
end
theorem OF {ta:TAD}{pos2:Pos}(hc:X.calm=true)(hg:Gl X "list")(hm:X.mg "list" =none)(hg2:Gl X "range")(hm2:X.mg "range" =none)(ha:JA X [a] ta)(hs:D2 [a] X.env= [(false,L4 a X.env)]:=by rfl)(h1:D2 [.Call (.Name "range" p2) [a] [] pos2] X.env=(false,L4 (.Call (.Name "range" p2) [a] [] pos2) X.env)::D2 [] X.env:=by rfl)(h2:(O9 pos (D2 [] X.env)).any (·.1)=false:=by rfl):JE X (.Call (.Name "list" p) [.Call (.Name "range" p2) [a] [] pos2] [] pos) (Fz ta):=⟨OB (hc:=hc) (hg:=hg) (hm:=hm) (hg2:=hg2) (hm2:=hm2) (ha:=ha.to) (hs:=hs) (h1:=h1) (h2:=h2)⟩
section
variable {P:S9}{w:N2}{K:G4}{mg:Str->D0 G1}{base:B3}
theorem Fun.okJ {x qual:Str}{st:L6}{f:P1}{fd:T7}{N ps:G0 Str}{k:G7}{spd:RDn}(F:Fun K x qual st f fd)(S:FnScope N ps (jb st))(len: ∀ds h Q,spd ds h Q->ds.length=ps.length)
 (tb:TSD)(hbody: ∀ (cdv:G1) (A:T9) (outer:G0 Env) (s:G2) (H:Hp) (E:XK),Room k (A.deeper (cI qual (jb st) s.heap.objs.size f cdv))->JSs (DI CX0 P w K mg base N qual (jb st) f cdv A outer s H E).nox (zv st) tb)
 (read: ∀ds h Q,spd ds h Q->tb (DT Q) (wS N ds) h):FnOk P w K mg base CX0 (k+1) f fd ps (LSp K spd):=F.okD S len tb (λcdv A outer s H E hr=>(hbody cdv A outer s H E hr).to) read
end
def zJ (r:G0 P3):D:= .tup (r.map D.int)
def jf (T:G0 (G0 P3)):D:= .tup (T.map zJ)
structure Sq (n e:G7)(T:G0 (G0 P3)):Prop where
 len:T.length=n
 row: ∀r∈T,r.length=n
 nn: ∀r∈T,∀x∈r,0<=x
 bit: ∀r∈T,∀x∈r,x<2^e
variable {n e f:G7}{T:G0 (G0 P3)}
theorem Sq.mono (h:Sq n e T)(l:e<=f):Sq n f T:=⟨h.len,h.row,h.nn,λr hr x hx=>hZ (h.bit r hr x hx) (by
 have:(2:G7)^e<=2^f:=K3 (by decide) l;have h2:((2^e:G7):P3)<=((2^f:G7):P3):=by exact_mod_cast this
 simpa using h2)⟩
def ent (T:G0 (G0 P3))(i j:G7):P3:=(T.getD i []).getD j 0
def mkT (n:G7)(f:G7->G7->P3):G0 (G0 P3):=(G6 n).map λi=>(G6 n).map λj=>f i j
theorem vx {i j:G7}{f:G7->G7->P3}(hi:i<n)(hj:j<n):ent (mkT n f) i j=f i j:=by
 unfold ent mkT;simp [D5,hi,hj]
theorem jS {α:Type}(xs:G0 α)(d:α):xs=(G6 xs.length).map λi=>xs.getD i d:=by
 apply kN (by simp);intro i h1 h2;simp [D5,h1]
theorem Sq.eq_mk (h:Sq n e T):T=mkT n (ent T):=by
 have h1:=jS T [];rw [h.len] at h1;unfold mkT
 conv=>lhs;rw [h1]
 apply M9;intro i hi;have hi':i<T.length:=by rw [h.len];exact P6.mp hi
 have hr:(T.getD i []).length=n:=by
  rw [D5,P2 hi'];exact h.row _ (C5 hi')
 have h2:=jS (T.getD i []) 0;rw [hr] at h2;exact h2
theorem WH {f g:G7->G7->P3}(h: ∀i j,i<n->j<n->f i j=g i j):mkT n f=mkT n g:=by
 unfold mkT;apply M9;intro i hi;apply M9;intro j hj;exact h i j (P6.mp hi) (P6.mp hj)
theorem Sq.of_mk {f:G7->G7->P3}(h0: ∀i j,i<n->j<n->0<=f i j)(h1: ∀i j,i<n->j<n->f i j<2^e):Sq n e (mkT n f):=by
 have key: ∀r∈mkT n f,∃i,i<n/\r=(G6 n).map λj=>f i j:=λr hr=>by
  obtain⟨i,hi,e⟩:=R1.mp hr;exact⟨i,P6.mp hi,e.symm⟩
 refine⟨by simp [mkT],λr hr=> ?_,λr hr x hx=> ?_,λr hr x hx=> ?_⟩
 ·obtain⟨i,_,e⟩:=key r hr;rw [e];simp
 ·obtain⟨i,hi,e⟩:=key r hr;rw [e] at hx;obtain⟨j,hj,e2⟩:=R1.mp hx;rw [<-e2];exact h0 i j hi (P6.mp hj)
 ·obtain⟨i,hi,e⟩:=key r hr;rw [e] at hx;obtain⟨j,hj,e2⟩:=R1.mp hx;rw [<-e2];exact h1 i j hi (P6.mp hj)
theorem Sq.ent_nn (h:Sq n e T){i j:G7}(hi:i<n)(hj:j<n):0<=ent T i j/\ent T i j<2^e:=by
 have hi':i<T.length:=by rw [h.len];exact hi
 have hr:T.getD i []=T[i]:=by rw [D5,P2 hi'];rfl
 have hm:T[i]∈T:=C5 hi';have hj':j<T[i].length:=by rw [h.row _ hm];exact hj
 have he:ent T i j=T[i][j]:=by unfold ent;rw [hr,D5,P2 hj'];rfl
 rw [he];exact⟨h.nn _ hm _ (C5 hj'),h.bit _ hm _ (C5 hj')⟩
variable {U:G0 (G0 P3)}
theorem Sq.ext (h:Sq n e T)(g:Sq n f U)(k: ∀i j,i<n->j<n->ent T i j=ent U i j):T=U:=by
 rw [h.eq_mk,g.eq_mk];exact WH k
def jz (n:G7)(f:G7->P3):P3:=((G6 n).map f).sum
theorem wt (f:G7->P3):jz 0 f=0:=rfl
theorem ju (n:G7)(f:G7->P3):jz (n+1) f=jz n f+f n:=by
 unfold jz;rw [b7,B6,lO];simp
theorem jV {f g:G7->P3}(h: ∀k,k<n->f k=g k):jz n f=jz n g:=by
 unfold jz;congr 1;apply M9;intro k hk;exact h k (P6.mp hk)
theorem vy {f:G7->P3}(h: ∀k,k<n->0<=f k):0<=jz n f:=by
 induction n with
 |zero=>exact f6 _
 |succ n ih=>rw [ju];have:=ih λk hk=>h k (by omega);have:=h n (by omega);omega
theorem WI {f:G7->P3}{b:P3}(h: ∀k,k<n->f k<=b):jz n f<=n*b:=by
 induction n with
 |zero=>simp [wt]
 |succ n ih=>
  rw [ju];have h1:=ih λk hk=>h k (by omega);have h2:=h n (by omega)
  have:((n+1:G7):P3)*b=(n:P3)*b+b:=by rw [Int.natCast_add,Int.add_mul];simp
  omega
theorem GN (n:G7)(f g:G7->P3):jz n (λk=>f k+g k)=jz n f+jz n g:=by
 induction n with
 |zero=>rfl
 |succ n ih=>rw [ju,ju,ju,ih];omega
theorem Zt (n:G7)(c:P3)(f:G7->P3):jz n (λk=>c*f k)=c*jz n f:=by
 induction n with
 |zero=>simp [wt]
 |succ n ih=>rw [ju,ju,ih,Int.mul_add]
theorem XY (n:G7)(c:P3)(f:G7->P3):jz n (λk=>f k*c)=jz n f*c:=by
 rw [iQ,<-Zt];exact jV λk _=>iQ _ _
theorem XZ (m n:G7)(f:G7->G7->P3):jz m (λi=>jz n (f i))=jz n (λj=>jz m λi=>f i j):=by
 induction m with
 |zero=>
  rw [wt]
  induction n with
  |zero=>rfl
  |succ n ih=>rw [ju,<-ih,wt];rfl
 |succ m ih=>
  rw [ju,ih,<-GN];exact jV λj _=>(ju m λi=>f i j).symm
theorem YO {f:G7->P3}{i:G7}(hi:i<n)(h: ∀k,k<n->k≠i->f k=0):jz n f=f i:=by
 induction n with
 |zero=>omega
 |succ n ih=>
  rw [ju]
  by_cases e:i=n
  ·subst e;have:jz i f=0:=by
    have:jz i f=jz i (λ_=>0*1):=jV λk hk=>by rw [h k (by omega) (by omega)];rfl
    rw [this,Zt];simp
   omega
  ·rw [ih (by omega) λk hk hne=>h k (by omega) hne,h n (by omega) (by omega)];omega
theorem GO {f:G7->P3}(h: ∀k,k<n->0<=f k):0<jz n f↔ ∃k,k<n/\0<f k:=by
 induction n with
 |zero=>simp [wt]
 |succ n ih=>
  rw [ju];have h1:=vy λk (hk:k<n)=>h k (by omega)
  have h2:=h n (by omega);have ih':=ih λk hk=>h k (by omega)
  constructor
  ·intro z
   by_cases q:0<f n
   ·exact⟨n,by omega,q⟩
   ·obtain⟨k,a,b⟩:=ih'.mp (by omega);exact⟨k,by omega,b⟩
  ·rintro ⟨k,a,b⟩
   by_cases q:k=n
   ·subst q;omega
   ·have:=ih'.mpr ⟨k,by omega,b⟩;omega
def yf (n:G7)(T U:G0 (G0 P3)):G0 (G0 P3):=mkT n λi j=>jz n λk=>ent T i k*ent U k j
theorem Sq.mul (h:Sq n e T)(g:Sq n f U)(hn:n<=8):Sq n (e+f+3) (yf n T U):=by
 have nn: ∀i j,i<n->j<n-> ∀k,k<n->0<=ent T i k*ent U k j:=λi j hi hj k hk=>f7 (h.ent_nn hi hk).1 (g.ent_nn hk hj).1
 refine Sq.of_mk (λi j hi hj=>vy (nn i j hi hj)) λi j hi hj=> ?_
 have hle: ∀k,k<n->ent T i k*ent U k j<=2^e*2^f-1:=λk hk=>by
  have a:=h.ent_nn hi hk;have b:=g.ent_nn hk hj;have:ent T i k*ent U k j<2^e*2^f:=by
   have p:(0:P3)<2^f:=lD (by decide)
   calc ent T i k*ent U k j<=ent T i k*2^f:=Int.mul_le_mul_of_nonneg_left (oI b.2) a.1
    _<2^e*2^f:=Int.mul_lt_mul_of_pos_right a.2 p
  omega
 have s:=WI hle;have p:(0:P3)<2^e*2^f:=o8 (lD (by decide)) (lD (by decide));have e1:(2:P3)^(e+f+3)=8*(2^e*2^f):=by rw [o9,o9];rw [iQ];rfl
 rw [e1];have hn':(n:P3)<=8:=by omega
 have:(n:P3)*(2^e*2^f-1)<=8*(2^e*2^f-1):=Int.mul_le_mul_of_nonneg_right hn' (by omega);omega
theorem yR {i j:G7}(hi:i<n)(hj:j<n):ent (yf n T U) i j=jz n λk=>ent T i k*ent U k j:=vx hi hj
def QM (n:G7):G0 (G0 P3):=mkT n λi j=>if i=j then 1 else 0
theorem Sq.one (n:G7):Sq n 1 (QM n):=Sq.of_mk (f:=λi j=>if i=j then 1 else 0) (λi j _ _=>by split<;>decide) λi j _ _=>by split<;>decide
theorem mul_assoc {g:G7}{V:G0 (G0 P3)}(hT:Sq n e T)(hU:Sq n f U)(hV:Sq n g V)(hn:n<=8):yf n (yf n T U) V=yf n T (yf n U V):=by
 refine((hT.mul hU hn).mul hV hn).ext (hT.mul (hU.mul hV hn) hn) λi j hi hj=> ?_
 rw [yR hi hj,yR hi hj];have e1:(jz n λk=>ent (yf n T U) i k*ent V k j)=jz n λk=>jz n λl=>ent T i l*ent U l k*ent V k j:=
  jV λk hk=>by rw [yR hi hk,<-XY]
 have e2:(jz n λl=>ent T i l*ent (yf n U V) l j)=jz n λl=>jz n λk=>ent T i l*(ent U l k*ent V k j):=
  jV λl hl=>by rw [yR hl hj,<-Zt]
 rw [e1,e2,XZ];exact jV λl _=>jV λk _=>Int.mul_assoc _ _ _
theorem Xe (hT:Sq n e T)(hn:n<=8):yf n (QM n) T=T:=by
 refine((Sq.one n).mul hT hn).ext hT λi j hi hj=> ?_
 rw [yR hi hj,YO hi λk hk hne=>by rw [QM,vx hi hk,R7 (E4 hne)];simp];rw [QM,vx hi hi,R0 rfl];simp
theorem Rf (hT:Sq n e T)(hn:n<=8):yf n T (QM n)=T:=by
 refine(hT.mul (Sq.one n) hn).ext hT λi j hi hj=> ?_
 rw [yR hi hj,YO hj λk hk hne=>by rw [QM,vx hk hj,R7 hne];simp];rw [QM,vx hj hj,R0 rfl];simp
def zk (n:G7)(T:G0 (G0 P3)):G7->G0 (G0 P3)
 |0=>QM n
 |k+1=>yf n (zk n T k) T
theorem Sq.pow (hT:Sq n e T)(hn:n<=8): ∀k,Sq n (k*(e+3)+1) (zk n T k)
 |0=>(Sq.one n).mono (by omega)
 |k+1=>((Sq.pow hT hn k).mul hT hn).mono (by rw [Z5];omega)
def je (n:G7)(T:G0 (G0 P3)):G0 (G0 P3):=mkT n λi j=>if ent T i j=0 then 0 else 1
def YQ (n:G7)(o:G0 G7)(T:G0 (G0 P3)):G0 (G0 P3):=mkT n λi j=>ent T (o.idxOf i) (o.idxOf j)
theorem Sq.mark (T:G0 (G0 P3)):Sq n 1 (je n T):=Sq.of_mk (f:=λi j=>if ent T i j=0 then 0 else 1) (λi j _ _=>by split<;>decide) λi j _ _=>by split<;>decide
structure Ord (n:G7)(o:G0 G7):Prop where
 len:o.length=n
 all: ∀i,i<n->i∈o
theorem Ord.lt {o:G0 G7}(h:Ord n o){i:G7}(hi:i<n):o.idxOf i<n:=by rw [<-h.len];exact aM.mpr (h.all i hi)
theorem Sq.ren {o:G0 G7}(h:Sq n e T)(ho:Ord n o):Sq n e (YQ n o T):=Sq.of_mk (λi j hi hj=>(h.ent_nn (ho.lt hi) (ho.lt hj)).1) λi j hi hj=>(h.ent_nn (ho.lt hi) (ho.lt hj)).2
def jF (T:G0 (G0 P3)):M6:=T.all λr=>r.all λx=>decide (x≠0)
theorem Ub (n:G7)(f:G7->G7->P3):jF (mkT n f)=true↔ ∀i j,i<n->j<n->f i j≠0:=by
 unfold jF mkT;simp only [X3,N7,P6,A0,A1];exact⟨λh i j hi hj=>h i hi j hj,λh i hi j hj=>h i j hi hj⟩
theorem GP (h:Sq n e T):jF (je n T)=jF T:=by
 have h1:jF T=jF (mkT n (ent T)):=by rw [<-h.eq_mk]
 rw [h1,J1,je,Ub,Ub];constructor
 ·intro z i j hi hj w;exact z i j hi hj (by rw [R0 w])
 ·intro z i j hi hj w;rw [R7 (z i j hi hj)] at w;cases w
def MulOk (i j:P3):Prop:= ∃m n:G7,i.natAbs<2^m/\j.natAbs<2^n/\m+n<=134217728
theorem MulOk.ok {i j:P3}(h:MulOk i j):IntMulOk i j:=by
 obtain⟨m,n,a,b,c⟩:=h;exact .of_le (f8.mpr a) (f8.mpr b) c
theorem NL:OpR X (O4 .Mult) (rI MulOk λi j=> .int (i*j)):=opI λ_ _ _ _ _ _ _ hc q=>mul_int q hc.ok
def Ew:RD2:=λx y h Q=>match x,y with
 | .int i,.int j=>MulOk i j/\Q (.int (i*j)) h
 |_,_=>False
theorem GQ:OpQ X (O4 .Mult) Ew:=Wx (gd:=λi j=> .int (i*j)) NL (λ_ _ _=>rfl) λx y h Q q=>by
 cases x<;>cases y<;>first|exact False.elim q|exact⟨_,_,rfl,rfl,q.1,q.2⟩
theorem Zu {x:P3}(h0:0<=x)(h1:x<2^e):x.natAbs<2^e:=by
 have:((2^e:G7):P3)=2^e:=by simp
 omega
theorem Xf {x y:P3}(hx:0<=x/\x<2^e)(hy:0<=y/\y<2^f)(h:e+f<=134217728):MulOk x y:=⟨e,f,Zu hx.1 hx.2,Zu hy.1 hy.2,h⟩
section
variable {α β:Type}{i i':G7}{js:G0 G7}{ti ti':TID}{te:TED}{σ:SD}{h:HD}{Q:KD}{j:ItD}
theorem lcA (xs:G0 α)(c g:α->D)(hz:xs.length<=1000)(hj:j h=some (xs.map c))(ht: ∀R:ItD->HD->Prop,R j h->ti σ h R)
 (he: ∀x∈xs,∀Q':KD,Q' (g x) h->te ((jI js σ).set i (some (c x))) h Q')(hq: ∀p,h p=none->Q (.lst p) (wC h p (xs.map g))):Zm (bN i) js ti yF te σ h Q:=by
 refine ht _ ⟨xs.length,λk ys h'=>h'=h/\ys=(xs.take k).map g,⟨rfl,by simp⟩,?_⟩;rintro k ys h' ⟨rfl,rfl⟩;refine⟨by simp only [G3,N3];exact M3 (jC (by omega)),xs.map c,hj,by simp,λhl p hp=> ?_,λd hd=>⟨_,rfl,?_⟩⟩
 ·rw [M1 (by simpa using hl)];exact hq p hp
 ·unfold yF;dsimp only;rw [R0 rfl];rw [P4] at hd;cases hx:xs[k]? with
  |none=>rw [hx] at hd;cases hd
  |some x=>
   rw [hx] at hd;cases hd;refine he x (S0 hx) _ ⟨h',Sub.refl _,rfl,?_⟩;rw [T2,hx];simp
theorem lcF (xs:G0 α)(c g:α->D)(p:α->M6){tt:TTD}(hz:xs.length<=1000)(hj:j h=some (xs.map c))(ht: ∀R:ItD->HD->Prop,R j h->ti σ h R)
 (hp: ∀x∈xs,∀Q':M6->HD->Prop,Q' (p x) h->tt ((jI js σ).set i (some (c x))) h Q')(he: ∀x∈xs,p x=true-> ∀Q':KD,Q' (g x) h->te ((jI js σ).set i (some (c x))) h Q')(hq: ∀a,h a=none->Q (.lst a) (wC h a ((xs.filter p).map g))):Zm (bN i) js ti tt te σ h Q:=by
 refine ht _ ⟨xs.length,λk ys h'=>h'=h/\ys=((xs.take k).filter p).map g,⟨rfl,by simp⟩,?_⟩;rintro k ys h' ⟨rfl,rfl⟩;refine⟨?_,xs.map c,hj,by simp,λhl a ha=> ?_,λd hd=>⟨_,rfl,?_⟩⟩
 ·have:=U4 p (xs.take k);simp only [G3,N3] at this ⊢;exact M3 (jC (by omega))
 ·rw [M1 (by simpa using hl)];exact hq a ha
 ·rw [P4] at hd;cases hx:xs[k]? with
  |none=>rw [hx] at hd;cases hd
  |some x=>
   rw [hx] at hd;cases hd;refine hp x (S0 hx) _ ?_;cases hb:p x with
   |true=>
    rw [R0 rfl];refine he x (S0 hx) hb _ ⟨h',Sub.refl _,rfl,?_⟩;rw [T2,hx];simp [hb]
   |false=>
    rw [R7 P9];refine⟨h',Sub.refl _,rfl,?_⟩;rw [T2,hx];simp [hb]
theorem lcB (xs:G0 α)(c:α->D)(ys:α->G0 β)(c':β->D)(g:α->β->D)(hz:(xs.flatMap ys).length<=1000)(hj:j h=some (xs.map c))(ht: ∀R:ItD->HD->Prop,R j h->ti σ h R)
 (hin: ∀x∈xs,∀R:ItD->HD->Prop,R (λ_=>some ((ys x).map c')) h->ti' ((jI js σ).set i (some (c x))) h R)
 (he: ∀x∈xs,∀y∈ys x,∀Q':KD,Q' (g x y) h->te (((jI js σ).set i (some (c x))).set i' (some (c' y))) h Q')(hq: ∀p,h p=none->Q (.lst p) (wC h p (xs.flatMap λx=>(ys x).map (g x)))):DU (bN i) js ti yF i' ti' yF te σ h Q:=by
 have len: ∀l:G0 α,(l.flatMap λx=>(ys x).map (g x)).length=(l.flatMap ys).length:=λl=>by
  induction l with
  |nil=>rfl
  |cons x l ih=>simp [N6,ih]
 have lek: ∀k,((xs.take k).flatMap ys).length<=(xs.flatMap ys).length:=λk=>by
  conv=>rhs;rw [<-Y1 k xs,B1,D4]
  omega
 have lek1: ∀k x m,xs[k]? =some x->m<=(ys x).length->((xs.take k).flatMap ys).length+m<=(xs.flatMap ys).length:=λk x m hx hm=>by
  have:=lek (k+1);rw [T2,hx,B1,D4] at this;simp at this;simp;omega
 refine ht _ ⟨xs.length,λk zs h'=>h'=h/\zs=(xs.take k).flatMap λx=>(ys x).map (g x),⟨rfl,by simp⟩,?_⟩;rintro k zs h' ⟨rfl,rfl⟩;refine⟨by rw [len];exact M3 (jC (S7 (lek k) hz)),xs.map c,hj,by simp,λhl p hp=> ?_,λd hd=>⟨_,rfl,?_⟩⟩
 ·rw [M1 (by simpa using hl)];exact hq p hp
 ·unfold yF;dsimp only;rw [R0 rfl];rw [P4] at hd;cases hx:xs[k]? with
  |none=>rw [hx] at hd;cases hd
  |some x=>
   rw [hx] at hd;cases hd;have xm:=S0 hx;refine hin x xm _ ⟨(ys x).length,λm zs h2=>h2=h'/\zs=((xs.take k).flatMap λx=>(ys x).map (g x))++((ys x).take m).map (g x),⟨rfl,by simp⟩,?_⟩;rintro m zs h2 ⟨rfl,rfl⟩;refine⟨?_,(ys x).map c',rfl,by simp,λhl=>⟨h2,Sub.refl _,rfl,?_⟩,λd hd=> ?_⟩
   ·rw [D4,len,G3,N3];have:=lek1 k x (min m (ys x).length) hx (W5 _ _);exact M3 (jC (by omega))
   ·have hm:(ys x).take m=ys x:=M1 (by simpa using hl);rw [hm,T2,hx,B1];simp
   ·rw [P4] at hd;cases hy:(ys x)[m]? with
    |none=>rw [hy] at hd;cases hd
    |some y=>
     rw [hy] at hd;cases hd
     first
      |rw [R0 rfl]
      |(dsimp only;rw [R0 rfl])
     refine he x xm y (S0 hy) _ ⟨h2,Sub.refl _,rfl,?_⟩;rw [T2,hy];simp
theorem GR (xs:G0 α)(c g:α->D)(hz:xs.length<=1000)(hj:j h=some (xs.map c))(ht: ∀R:ItD->HD->Prop,R j h->ti σ h R)
 (he: ∀x∈xs,∀Q':KD,Q' (g x) h->te ((jI js σ).set i (some (c x))) h Q')(hq:Q (.tup (xs.map g)) h):dCB Xa (jZ (Zm (bN i) js ti yF te) Zk) σ h Q:=by
 show Zm (bN i) js ti yF te σ h (λx h1=>Xa [x] h1 Q);exact lcA xs c g hz hj ht he λp hp=>(show ∃ys,wC h p (xs.map g) p=some ys/\Q (.tup ys) (VV (wC h p (xs.map g)) p) from ⟨_,ja,by rw [wo hp];exact hq⟩)
theorem Ay (xs:G0 α)(c:α->D)(g:α->P3)(hz:xs.length<=1000)(hj:j h=some (xs.map c))(ht: ∀R:ItD->HD->Prop,R j h->ti σ h R)
 (he: ∀x∈xs,∀Q':KD,Q' (.int (g x)) h->te ((jI js σ).set i (some (c x))) h Q')(hq:Q (.int (xs.map g).sum) h):dCB OA (jZ (Zm (bN i) js ti yF te) Zk) σ h Q:=by
 show Zm (bN i) js ti yF te σ h (λx h1=>OA [x] h1 Q);exact lcA xs c (λx=> .int (g x)) hz hj ht he λp hp=>⟨p,xs.map g,rfl,by rw [ja,T6];rfl,by rw [wo hp];exact hq⟩
theorem Ex (xs:G0 α)(c:α->D)(g:α->M6)(hz:xs.length<=1000)(hj:j h=some (xs.map c))(ht: ∀R:ItD->HD->Prop,R j h->ti σ h R)
 (he: ∀x∈xs,∀Q':KD,Q' (.bl (g x)) h->te ((jI js σ).set i (some (c x))) h Q')(hq:Q (.bl (xs.all g)) h):dCB Fn (jZ (Zm (bN i) js ti yF te) Zk) σ h Q:=by
 show Zm (bN i) js ti yF te σ h (λx h1=>Fn [x] h1 Q);exact lcA xs c (λx=> .bl (g x)) hz hj ht he λp hp=>⟨p,xs.map g,rfl,by rw [ja,T6];rfl,by rw [wo hp,X3];exact hq⟩
theorem Ey (xs:G0 α)(c:α->D)(ys:α->G0 β)(c':β->D)(g:α->β->M6)(hz:(xs.flatMap ys).length<=1000)(hj:j h=some (xs.map c))(ht: ∀R:ItD->HD->Prop,R j h->ti σ h R)
 (hin: ∀x∈xs,∀R:ItD->HD->Prop,R (λ_=>some ((ys x).map c')) h->ti' ((jI js σ).set i (some (c x))) h R)
 (he: ∀x∈xs,∀y∈ys x,∀Q':KD,Q' (.bl (g x y)) h->te (((jI js σ).set i (some (c x))).set i' (some (c' y))) h Q')(hq:Q (.bl (xs.all λx=>(ys x).all (g x))) h):dCB Fn (jZ (DU (bN i) js ti yF i' ti' yF te) Zk) σ h Q:=by
 show DU (bN i) js ti yF i' ti' yF te σ h (λx h1=>Fn [x] h1 Q);refine lcB xs c ys c' (λx y=> .bl (g x y)) hz hj ht hin he λp hp=> ?_
 ·have e:(xs.flatMap λx=>(ys x).map λy=>D.bl (g x y))=(xs.flatMap λx=>(ys x).map (g x)).map D.bl:=by
   clear hz hj ht hin he hq
   induction xs with
   |nil=>rfl
   |cons x l ih=>simp [N6,ih,T6]
  refine⟨p,xs.flatMap λx=>(ys x).map (g x),rfl,by rw [ja,e],?_⟩;rw [wo hp];have e2:(xs.flatMap λx=>(ys x).map (g x)).all id=xs.all λx=>(ys x).all (g x):=by
   clear hz hj ht hin he hq e
   induction xs with
   |nil=>rfl
   |cons x l ih=>simp [N6,ih,X3]
  rw [e2];exact hq
end
end L2
namespace L2
open PySem PySem.Spec PyProof.Rows PySem.SeqAt
def zR (o:G0 G7):D:= .tup (o.map λ(k:G7)=>D.int (k:P3))
def Ordr (n:G7)(o:G0 G7):Prop:=o.Perm (G6 n)
variable {n:G7}{o:G0 G7}
theorem Ordr.ord (h:Ordr n o):Ord n o:=⟨by rw [h.length_eq,D6],λi hi=>h.mem_iff.mpr (P6.mpr hi)⟩
def zi (o:G0 G7):G0 P3:=o.map λ(k:G7)=>(k:P3)
theorem WJ (o:G0 G7):zR o= .tup ((zi o).map D.int):=by unfold zR zi;rw [T6];rfl
theorem Rg (o:G0 G7)(i:G7):(zi o).idxOf (i:P3)=o.idxOf i:=by
 induction o with
 |nil=>rfl
 |cons a o ih=>
  show ((a:P3)::zi o).idxOf (i:P3)=_;rw [lP,lP,ih]
  by_cases e:a=i
  ·subst e;simp
  ·have e1:(a==i)=false:=by simpa using e
   have e2:((a:P3)==(i:P3))=false:=by simp;omega
   rw [e1,e2]
variable {i:G7}
theorem Rh (h:i∈o):(i:P3)∈zi o:=R1.mpr ⟨i,h,rfl⟩
theorem YR: ∀n:G7,(zi (G6 n)).Pairwise (· <= ·):=λn=>by
 unfold zi;rw [A2];exact G0.pairwise_le_range.imp λh=>by omega
theorem zK (h:HD): ∀ns:G0 P3,ToPs h (ns.map D.int) (ns.map X4)
 | []=>rfl
 |n::ns=>⟨_,_,rfl,rfl,zK h ns⟩
theorem yS: ∀ns:G0 P3,M7 (ns.map X4)=true
 | []=>rfl
 |n::ns=>by show (B2 (.int n)&&_)=true;rw [yS ns];rfl
theorem Zv: ∀ns:G0 P3,B5 (ns.map X4) (ns.map X4)=true
 | []=>rfl
 |n::ns=>by show ((n==n)&&B5 _ _)=true;rw [Zv ns];simp
theorem Jb: ∀ns:G0 P3,B7 (ns.map X4)<=1
 | []=>by simp [B7]
 |n::ns=>by
  have:=Jb ns;simp only [F9,B7,A7];omega
theorem wE (ns:G0 P3):shaped (.list (ns.map .int))=true:=by
 unfold shaped;have h1:B2 (.list (ns.map .int))=true:=by simp only [B2];exact yS ns
 have h2:=Jb ns;have h3:A7 (.list (ns.map .int))<=64:=by simp only [A7];omega
 rw [h1,D7 h3];rfl
def wW (r:G0 P3):C7:= .tuple (r.map .int)
def WK (T:G0 (G0 P3)):C7:= .tuple (T.map wW)
theorem YS (h:HD): ∀T:G0 (G0 P3),ToPs h (T.map zJ) (T.map wW)
 | []=>rfl
 |r::T=>⟨_,_,rfl,⟨_,rfl,zK h r⟩,YS h T⟩
theorem Uc (h:HD)(T:G0 (G0 P3)):ToP h (jf T) (WK T):=⟨_,rfl,YS h T⟩
theorem wF: ∀T:G0 (G0 P3),M7 (T.map wW)=true
 | []=>rfl
 |r::T=>by
  show (B2 (wW r)&&_)=true;rw [wF T];have:B2 (wW r)=true:=by unfold wW;simp only [B2];exact yS r
  rw [this];rfl
theorem yB: ∀T:G0 (G0 P3),B7 (T.map wW)<=3
 | []=>by simp [B7]
 |r::T=>by
  have:=yB T;have h2:=Jb r;simp only [F9,B7,A7,wW];omega
variable {e:G7}{T:G0 (G0 P3)}
theorem WL (h:Sq n e T){i:G7}(hi:i<n):atI (T.map zJ) (i:P3)=some (zJ (T.getD i [])):=by
 have hi':i<T.length:=by rw [h.len];exact hi
 exact VT (by rw [P4,D5,P2 hi'];rfl)
theorem Sq.getRow (h:Sq n e T){i:G7}(hi:i<n):T.getD i []∈T:=by
 have hi':i<T.length:=by rw [h.len];exact hi
 rw [D5,P2 hi'];exact C5 hi'
theorem Jc {r:G0 P3}(h:r.length=n){j:G7}(hj:j<n):atI (r.map D.int) (j:P3)=some (.int (r.getD j 0)):=by
 have hj':j<r.length:=by rw [h];exact hj
 exact VT (by rw [P4,D5,P2 hj'];rfl)
theorem Mo (n:G7)(f:G7->G7->P3):D.tup ((G6 n).map λi=>D.tup ((G6 n).map λj=>D.int (f i j)))=jf (mkT n f):=by
 unfold jf zJ mkT;rw [T6]
 congr 1
 apply M9;intro i _;simp [T6,a9]
theorem GS (T:G0 (G0 P3))(f:P3->P3):D.tup (T.map λr=>D.tup (r.map λx=>D.int (f x)))=jf (T.map λr=>r.map f):=by
 unfold jf zJ;rw [T6]
 congr 1
 apply M9;intro r _;simp [T6,a9]
theorem GT (h:Sq n e T):je n T=T.map λr=>r.map λx=>if x≠0 then 1 else 0:=by
 conv=>rhs;rw [h.eq_mk]
 unfold je mkT;rw [T6];apply M9;intro i _;simp only [A0,T6];apply M9;intro j _;simp only [A0]
 by_cases z:ent T i j=0
 ·rw [R0 z,R7 (by simpa using z)]
 ·rw [R7 z,R0 z]
theorem Ri (h:Sq n e T)(h6:n<=6):(T.flatMap λr=>r).length<=1000:=by
 have: ∀U:G0 (G0 P3),(∀r∈U,r.length=n)->(U.flatMap λr=>r).length=U.length*n:=λU=>by
  induction U with
  |nil=>intro _;simp
  |cons r U ih=>
   intro hU;rw [N6,D4,ih λr hr=>hU r (R6 _ hr),hU r P8,S4,Z5];omega
 rw [this T h.row,h.len];have:=cN h6 h6;omega
variable {U:G0 (G0 P3)}
theorem Xg (h:Sq n e T):(T.map λr=>D.tup ((G6 n).map λj=>D.int (jz n λm=>r.getD m 0*ent U m j)))=(yf n T U).map zJ:=by
 conv=>lhs;rw [jS T [],h.len]
 unfold yf mkT;rw [T6,T6];apply M9;intro i _;simp only [A0,zJ,T6];rfl
theorem pow_add (h:Sq n e T)(hn:n<=8)(a:G7): ∀b,zk n T (a+b)=yf n (zk n T a) (zk n T b)
 |0=>by rw [show zk n T 0=QM n from rfl,Rf (h.pow hn a) hn];rfl
 |b+1=>by
  show yf n (zk n T (a+b)) T=yf n (zk n T a) (yf n (zk n T b) T);rw [pow_add h hn a b,mul_assoc (h.pow hn a) (h.pow hn b) h hn]
theorem GU (h:Sq n e T)(hn:n<=8):zk n T 1=T:=Xe h hn
theorem YT (h:Sq n e T)(hn:n<=8)(b:G7):zk n T (b+1)=yf n T (zk n T b):=by
 rw [eU,pow_add h hn,GU h hn]
theorem Ordr.nodup (h:Ordr n o):o.Nodup:=h.symm.nodup bL
variable {j:G7}
theorem GV (hi:i<n)(hj:j<n):ent (YQ n o T) i j=ent T (o.idxOf i) (o.idxOf j):=vx hi hj
theorem Rj (hi:i<n)(hj:j<n):ent (je n T) i j=if ent T i j=0 then 0 else 1:=vx hi hj
theorem Xh (h: ∀i j,i<n->j<n->(ent T i j=0↔ent U i j=0)):je n T=je n U:=WH λi j hi hj=>by
 by_cases z:ent T i j=0
 ·rw [R0 z,R0 ((h i j hi hj).mp z)]
 ·rw [R7 z,R7 (λw=>z ((h i j hi hj).mpr w))]
theorem yg (hi:i<n)(hj:j<n):ent (je n T) i j=0↔ent T i j=0:=by
 rw [Rj hi hj]
 by_cases z:ent T i j=0
 ·rw [R0 z];simp [z]
 ·rw [R7 z];simp [z]
theorem YU (T:G0 (G0 P3)):je n (je n T)=je n T:=Xh λi j hi hj=>yg hi hj
theorem zt {f:G7}(h:Sq n e T)(g:Sq n f U)(hi:i<n)(hj:j<n):ent (yf n T U) i j≠0↔ ∃k,k<n/\ent T i k≠0/\ent U k j≠0:=by
 rw [yR hi hj];have nn: ∀k,k<n->0<=ent T i k*ent U k j:=λk hk=>f7 (h.ent_nn hi hk).1 (g.ent_nn hk hj).1
 have s:=vy nn;have p:=GO nn;constructor
 ·intro z;obtain⟨k,hk,w⟩:=p.mp (by omega);refine⟨k,hk,λq=> ?_,λq=> ?_⟩
  ·rw [q] at w;simp at w
  ·rw [q] at w;simp at w
 ·rintro ⟨k,hk,a,b⟩ z;have c:=(h.ent_nn hi hk).1;have d:=(g.ent_nn hk hj).1;have:0<ent T i k*ent U k j:=o8 (by omega) (by omega);have:=p.mpr ⟨k,hk,this⟩;omega
theorem JU {f:G7}(h:Sq n e T)(g:Sq n f U):je n (yf n T U)=je n (yf n (je n T) (je n U)):=
 Xh λi j hi hj=>by
  have a:=zt h g hi hj;have b:=zt (Sq.mark (n:=n) T) (Sq.mark (n:=n) U) hi hj;have c:(∃k,k<n/\ent T i k≠0/\ent U k j≠0)↔ ∃k,k<n/\ent (je n T) i k≠0/\ent (je n U) k j≠0:=
   ⟨λ⟨k,hk,x,y⟩=>⟨k,hk,λz=>x ((yg hi hk).mp z),λz=>y ((yg hk hj).mp z)⟩,λ⟨k,hk,x,y⟩=>⟨k,hk,λz=>x ((yg hi hk).mpr z),λz=>y ((yg hk hj).mpr z)⟩⟩
  exact⟨λz=>cW λw=>(a.mpr (c.mpr (b.mp w))) z,λz=>cW λw=>(b.mpr (c.mp (a.mp w))) z⟩
theorem vz (h:Sq n e T):jF T=true↔ ∀i j,i<n->j<n->ent T i j≠0:=by
 have h1:jF T=jF (mkT n (ent T)):=by rw [<-h.eq_mk]
 rw [h1,Ub]
theorem GW {a:G7}(h:Sq n e T)(hn:n<=8)(ha:0<a)(f:jF (zk n T a)=true):jF (zk n T (a+1))=true:=by
 rw [vz (h.pow hn _)] at f ⊢;intro i j hi hj;obtain⟨b,rfl⟩: ∃b,a=b+1:=⟨a-1,by omega⟩;have z:=f i j hi hj;rw [YT h hn b,zt h (h.pow hn b) hi hj] at z;obtain⟨k,hk,x,_⟩:=z;rw [YT h hn (b+1),zt h (h.pow hn (b+1)) hi hj];exact⟨k,hk,x,f k j hk hj⟩
theorem Ud {a:G7}(h:Sq n e T)(hn:n<=8)(ha:0<a)(f:jF (zk n T a)=true): ∀b,jF (zk n T (a+b))=true
 |0=>f
 |b+1=>GW (a:=a+b) h hn (by omega) (Ud h hn ha f b)
theorem Ordr.map_idx (h:Ordr n o):o.map (λm=>o.idxOf m)=G6 n:=by
 have hl:=h.ord.len;apply kN (by simp [hl]);intro i a b;simp only [kO,O5];rw [h.nodup.idxOf_getElem]
def wb (n:G7)(o:G0 G7):G0 G7:=(G6 n).map λi=>o.idxOf i
theorem Ordr.back (h:Ordr n o):Ordr n (wb n o):=by
 have:=h.symm.map (λm=>o.idxOf m);rw [h.map_idx] at this;exact this
theorem Rk (h:Ordr n o){i:G7}(hi:i<n):o.idxOf ((wb n o).idxOf i)=i:=by
 have a:(wb n o).idxOf i<(wb n o).length:=by rw [h.back.ord.len];exact h.back.ord.lt hi
 have b:=aT a;have c:(wb n o)[(wb n o).idxOf i]=o.idxOf ((wb n o).idxOf i):=by simp only [wb,kO,O5]
 rw [<-c];exact b
section
variable {prog:S9}{w:N2}{A:T9}{E:G1->G2->Prop}{s:G2}
theorem Ue {Q:aX->G2->Prop}(hh:A.handled=none)(hE: ∀h' e,(∀b o,s.heap.get? b=some o->h'.get? b=some o)->(∃o,h'.get? e=some o/\o.cls= .type "StopIteration")->E (.ref e) {s with heap:=h'}):R4 (R5 prog w) A bA Q E s:=by
 obtain⟨hp,g,d,tk,os⟩:=s;unfold bA
 wp_walk
 unfold raiseNew;refine wpAny_bind (wpAny_handled ?_);rw [hh];exact wpAny_bind (G8 (wpAny_throw (hE _ _ (λb o q=>G5 _ (G5 _ q)) ⟨_,D9 _ rfl,rfl⟩)))
end
section
variable {X:Cx}{pins:G0 (P1×Obj)}{σ:G0 (D0 V)}{H:Hp}{s:G2}{h':B3}
theorem Inv.turnL {t':G7}{ch:G0 P1}(I:Inv X pins σ H s)(k: ∀b o,b ∉ ch->s.heap.get? b=some o->h'.get? b=some o)(hc: ∀b∈ch,VR X pins H b):Inv X pins σ H {s with heap:=h',toks:=t'}:=by
 refine I.step (g':=s.gens) (d':=s.drawn) (ch:=ch) (λb hb=>let ⟨_,f1,_,f3,f4,f5⟩:=hc b hb;⟨f3,f1,f4,f5⟩) (λb o _ _ nb e _=>k b o nb e) (λb o _ _ nb e _=>⟨o.slots,k b o nb e⟩) (λ_ _ _ _ n=>n)
  (λb o nb e=>⟨o,k b o nb e⟩) (λ_ _ e=>e) (λ_ _ _ e=>e) (λb ps e=>⟨#[],by rw [e];simp⟩) (λm hm=> ?_) (λb u e=> ?_) I.bare
 ·obtain⟨o,es,ep,ho,r⟩:=hm;exact⟨o,es,ep,k _ o (λz=>(hc _ z).2.1 rfl) ho,r⟩
 ·refine(I.hok b u e).stay (λc v hb q=>k c v (λz=> ?_) q) (λ_ q=>q) λ_ _ q=>q
  have f:=(hc c z).1;rcases hb with w|w
  ·rw [w,e] at f;cases f
  ·rw [w] at f;cases f
theorem Inv.turnLaid {t':G7}{ch:G0 P1}{a:P1}{o:HO}(I:Inv X pins σ H s)(k: ∀b u,b ∉ ch->s.heap.get? b=some u->h'.get? b=some u)(hc: ∀b∈ch,VR X pins H b)(hp:s.heap.objs.size<=a)
 (new:ObjOk X.prog X.w (upd H a o) h' a o):Inv X pins σ (upd H a o) {s with heap:=h',toks:=t'}:=by
 have hn:=I.hok.fresh hp;refine I.step (g':=s.gens) (d':=s.drawn) (ch:=ch) (λb hb=>let ⟨_,f1,_,f3,f4,f5⟩:=hc b hb;⟨f3,f1,f4,f5⟩) (λb u _ _ nb e _=>k b u nb e) (λb u _ _ nb e _=>⟨u.slots,k b u nb e⟩)
  (λb u _ e n=>by rw [jg (R8 (M0 (P7 e) hp))];exact n) (λb u nb e=>⟨u,k b u nb e⟩) (λb xs q=>by rw [jg (jc q hn)];exact q) (λb u xs q=>by rw [jg (jc q hn)];exact q)
  (λb ps q=>⟨#[],by rw [jg (jc q hn),q];simp⟩) (λm hm=> ?_) (λb u e=> ?_) I.bare
 ·obtain⟨u,es,ep,ho,r⟩:=hm;exact⟨u,es,ep,k _ u (λz=>(hc _ z).2.1 rfl) ho,r⟩
 ·by_cases hb:b=a
  ·subst hb;rw [jh] at e;cases e;exact new
  ·rw [jg hb] at e;refine(I.hok b u e).stay (λc v hb q=>k c v (λz=> ?_) q) (λc q=>by rw [jg (jc q hn)];exact q) λc xs q=>by rw [jg (jc q hn)];exact q
   have f:=(hc c z).1;rcases hb with w|w
   ·rw [w,e] at f;cases f
   ·rw [w] at f;cases f
end
def GX (ds:G0 D):G0 D:=ds.zipIdx.map λp=> .tup [.int (p.2:P3),p.1]
theorem Xi {ds:G0 D}{d:D}(h:(GX ds)[i]? =some d): ∃x,ds[i]? =some x/\d= .tup [.int (i:P3),x]:=by
 unfold GX at h;rw [P4,List.getElem?_zipIdx] at h;cases q:ds[i]? with
 |none=>rw [q] at h;cases h
 |some x=>
  rw [q] at h;refine⟨x,rfl,?_⟩;have h':some (D.tup [.int ((0+i:G7):P3),x])=some d:=h;rw [V5] at h';exact(F4 h').symm
theorem yT (ds:G0 D):(GX ds).length=ds.length:=by simp [GX]
def GY (c:TTD)(tb:TSD):TSD:=λD σ h=> ∃W:G7->SD->HD->Prop,(∃m,W m σ h)/\ ∀m rD h',W m rD h'->c rD h' λb h1=>
 if b=true then tb {D with nx:=λrF h2=> ∃m' h3,m'<m/\Sub h3 h2/\W m' rF h3,ct:=λrF h2=> ∃m' h3,m'<m/\Sub h3 h2/\W m' rF h3,bk:=D.nx} rD h1 else D.nx rD h1
theorem Rl {K:G4}{c:TTD}{tb:TSD}: ∀D σ H,LS K (GY c tb) D σ H->RZ (LT K c) (LS K tb) D σ H:=λD σ H ⟨rE,h,Dd,rs,rh,⟨W,⟨m0,w0⟩,turn⟩,nx,rt,bk,ct⟩=>by
 refine⟨λm rD H'=>Kept H H'/\ ∃rH h',RelS K H' rH rD/\RelH K h' H'/\W m rH h',⟨m0,.refl _,rE,h,rs,rh,w0⟩,?_⟩;rintro m rD H' ⟨kp,rH,h',rs',rh',w⟩;refine LT.bind rs' rh' (turn m rH h' w) λb h1 H1 k1 rs1 rh1 q1=> ?_
 cases b with
 |false=>
  rw [R7 P9] at q1 ⊢;exact nx _ _ _ _ (kp.trans k1) rs1 rh1 q1
 |true=>
  rw [R0 rfl] at q1 ⊢;have kk:Kept H H1:=kp.trans k1;refine⟨λrF H2=>Kept H H2/\ ∃m',m'<m/\ ∃rK h2,RelS K H2 rK rF/\RelH K h2 H2/\W m' rK h2,λrF H2 ⟨k2,m',hm,a,b,c,d,e⟩=>⟨m',hm,k2,a,b,c,d,e⟩,?_⟩;exact⟨rH,h1,_,rs1,rh1,q1,λa b c d k4 rs4 rh4 ⟨m',h4,hm,sb,w4⟩=>⟨kk.trans k4,m',hm,a,h4,rs4,rh4.sub sb,w4⟩,jx rt kk,λa b c d k4 rs4 rh4 q4=>nx a b c d (kk.trans k4) rs4 rh4 q4,λa b c d k4 rs4 rh4 ⟨m',h4,hm,sb,w4⟩=>⟨kk.trans k4,m',hm,a,h4,rs4,rh4.sub sb,w4⟩⟩
section
variable {X:Cx}{pos:Pos}
theorem FD {c:S8}{body:G0 L6}{tc:TTD}{tb:TSD}(hp:gG (R5 X.prog X.w) X.A X.env X.xe)(hc:JT X c tc)(hb:JSs X body tb):JS X (.While c body [] pos) (GY tc tb):=⟨(DE hp hc.to hb.to).imp Rl⟩
end
theorem Rm {c:TTD}{tb:TSD}{E:EndsD}{σ:SD}{h:HD}(W:G7->SD->HD->Prop)(m:G7)(w0:W m σ h)
 (turn: ∀m rD h',W m rD h'->c rD h' λb h1=>if b=true then tb {E with nx:=λrF h2=> ∃m' h3,m'<m/\Sub h3 h2/\W m' rF h3,ct:=λrF h2=> ∃m' h3,m'<m/\Sub h3 h2/\W m' rF h3,bk:=E.nx} rD h1 else E.nx rD h1):GY c tb E σ h:=⟨W,⟨m,w0⟩,turn⟩
section
variable {prog:S9}{w:N2}{A:T9}{E:G1->G2->Prop}{s:G2}{z TI TO i1 i2:P1}
theorem Uf {T newId initId:J6}{pos:G0 G1}{kw:G0 (Str×G1)}{Made:G1->G2->Prop}{Q:G1->G2->Prop}(ft:TypeCalled T newId initId)(fits:nM T ⟨pos,kw⟩=pure ())
 (made:R4 (R5 prog w) A.in1 (call (.builtin newId) (.type T::pos) kw) Made E s)
 (begun: ∀o rG,Made o rG->rG.TypeIs o T/\R4 (R5 prog w) A.in1 (oJ o "__init__" pos kw) (λr rQ=>r=some .none/\Q o rQ) E rG):
 R4 (R5 prog w) A (call (.type T) pos kw) Q E s:=by
 have f1:=ft.notType;have f2:=ft.canCreate;have f3:=ft.made;have f4:=ft.sub;obtain⟨_,_,f5⟩:=ft.mro;have first:=λ{Q':G1->G2->Prop} (k: ∀o rG,Made o rG->Q' o rG)=>T3 (E':=E) made k λ_ _ z=>z
 refine g9 (fE (G8 ⟨Code.quiet_builtin _ (by decide +kernel),A8 F.entry_type_call ?_⟩));rw [Around.under_plain (weight_type_call_type T pos kw) (units_type_call_type T pos kw)]
 wp_walk using first
 intro o rG m;obtain⟨ty,then_⟩:=begun o rG m;refine wpAny_bind (bM (b:=true) ty f4 (wpAny_bind (B8 (T3 then_ (λr rQ q=> ?_) λ_ _ z=>z))));obtain⟨rfl,q⟩:=q;exact G8 q
end
def inE (neg:M6):RD2:=λx y h Q=> ∃ (p:C7) (ps:G0 C7),ToP h x p/\(ToP h y (.list ps)\/ToP h y (.tuple ps))/\p.canLay0=true/\M7 ps=true/\p.depth<=60/\Q (.bl (neg !=ps.any λz=>C0 z p)) h
section
variable {X:Cx}
theorem WM (hu:X.A.units+64<cLine):OpQ X (N1 .NotIn) (inE true):=by
 intro pins s σ H x y v u Q I rx ry h;obtain⟨dx,dy,h,Qd,r1,r2,rh,⟨p,ps,t1,t2,c1,c2,c3,qq⟩,post⟩:=h;obtain⟨as,a1⟩:=wa I rh t1 r1 rx;have hu':X.A.units+1+min (B7 ps) p.depth<cLine:=by have:=W5 (B7 ps) p.depth;omega
 have q':Qd (.bl (!ps.any λz=>C0 z p)) h:=by simpa using qq
 rcases t2 with t2|t2
 ·obtain⟨bs,b1⟩:=wa I rh t2 r2 ry;exact notIn_list_reads b1 a1 c2 c1 hu' ⟨.bl _,H,I,rfl,post (.bl _) _ _ _ (.refl H) rh rfl q'⟩
 ·obtain⟨bs,b1⟩:=wa I rh t2 r2 ry;exact notIn_tuple_reads b1 a1 c2 c1 hu' ⟨.bl _,H,I,rfl,post (.bl _) _ _ _ (.refl H) rh rfl q'⟩
theorem OG {tg:S8}{p pos:Pos}{a b:S8}{ta:TAD}(hg:Gl X "range")(hm:X.mg "range" =none)(ha:JA X [a,b] ta)(hs:D2 [a,b] X.env= [(false,L4 a X.env),(false,L4 b X.env)]:=by rfl)(hs2:D2 [b] X.env= [(false,L4 b X.env)]:=by rfl):JI X tg (.Call (.Name "range" p) [a,b] [] pos) (iR2 ta):=⟨(QY hg hm ha.to hs hs2).imp Ol⟩
end
end L2
namespace L2
open PySem PySem.Spec PyProof.Rows
section
variable {prog:S9}{w:N2}{A:T9}{E:G1->G2->Prop}{s:G2}
theorem zL: ∀ {vs:G0 G1} {ns:G0 P3},X2 vs ns-> ∀ {i:G7} {v:G1},vs[i]? =some v-> ∃t,v= .int (ns.getD i 0) t/\i<ns.length
 |_,_,.nil,_,_,hv=>by simp at hv
 |_,_,.cons _ t _,0,_,hv=>⟨t,by simpa using hv.symm,by simp⟩
 |_,_,.cons _ _ r,i+1,_,hv=>by
  obtain⟨t,e,lt⟩:=zL r (i:=i) (by simpa using hv);exact⟨t,by simpa using e,by simpa using lt⟩
theorem vA {l:P1}{o:Obj}(here:l<s.heap.objs.size): ∀b∈ [s.heap.objs.size,l],b<(s.heap.push o).objs.size:=λb hb=>by
 rw [W8];simp only [S5,Q6,or_false] at hb;rcases hb with e|e<;>subst e
 ·exact C4 _
 ·exact V4 here
theorem vB {o:Obj}{h':B3}(k: ∀b u,b ∉ [s.heap.objs.size]->(s.heap.push o).get? b=some u->h'.get? b=some u): ∀b u,s.heap.get? b=some u->h'.get? b=some u:=λb u e=>
 k b u (λm=>absurd (P7 e) (by rw [G9.mp m];exact M4 _)) (G5 _ e)
end
section
variable {X:Cx}
theorem GZ (hc:X.calm=true):CallR X (.builtin "min") (λxs H Q=> ∃ (a:P1) (ns:G0 P3),xs= [.ref a]/\ns≠ []/\(SqL X.K H a (ns.map V.int)\/SqT X.K H a (ns.map V.int))/\ ∀m∈ns,(∀x∈ns,m<=x)->Q (.int m) H):=by
 intro pins s σ H xs us Q I r h;obtain⟨a,ns,rfl,hne,hS,q⟩:=h;obtain⟨u,rfl,ru⟩:=wX r;cases ru;have fin: ∀ {its:G0 G1} (hi:X2 its ns) (v:G1) (h':B3) (tk:G7),its.toArray[argBest (λi j=>decide (ns.getD i 0<ns.getD j 0)) (its.toArray.size-1)]? =some v->(∀b o,s.heap.get? b=some o->h'.get? b=some o)->EP X pins σ Q v {s with heap:=h',toks:=tk}:=λ{its} hi v h' tk hv kept=>by
  obtain⟨t,rfl,lt⟩:=zL hi (show its[_]? =some v by simpa using hv);refine⟨.int _,H,I.kept kept,⟨t,rfl⟩,q _ (getD_mem lt) λx hx=> ?_⟩;obtain⟨j,hj,rfl⟩:=mem_getD hx;exact(argBest_lt (λi=>ns.getD i 0) (its.toArray.size-1)).2 j (by rw [D8,hi.length];omega)
 refine call_min_walk ?_;rcases hS with hS|hS
 ·obtain⟨its,rv,pl,_⟩:=I.list hS;have hi:=yG rv;obtain⟨o,e,r⟩:=id pl.isList;have W:=bK (prog:=X.prog) (w:=X.w) (A:=X.A.in1) (I.ok.hd hc) s.heap.objs.size a (R8 (P7 e)) its.toArray;exact E5 pl.isList ⟨_,_,_,_,_,_,_,rfl,W,⟨⟨_,D9 _ rfl,rfl,rfl⟩,⟨o,G5 _ e,r⟩⟩,vA (P7 e),by rw [D8,hi.length];exact W1.mpr hne,CmpOf.ints_lt (λi=>ns.getD i 0) (λi v hv=>(zL hi (by simpa using hv)).imp λ_ z=>z.1),λv h' tk hv k=>fin hi v h' tk hv (vB k)⟩
 ·obtain⟨its,rv,pl,_⟩:=I.tuple hS;have hi:=yG rv;obtain⟨o,e,r⟩:=id pl;have W:=lE (prog:=X.prog) (w:=X.w) (A:=X.A.in1) (I.ok.hd hc) s.heap.objs.size a (R8 (P7 e)) its.toArray;exact aS (show s.heap.IsTuple a its.toArray from pl) ⟨_,_,_,_,_,_,_,rfl,W,⟨⟨_,D9 _ rfl,rfl,rfl⟩,⟨o,G5 _ e,r⟩⟩,vA (P7 e),by rw [D8,hi.length];exact W1.mpr hne,CmpOf.ints_lt (λi=>ns.getD i 0) (λi v hv=>(zL hi (by simpa using hv)).imp λ_ z=>z.1),λv h' tk hv k=>fin hi v h' tk hv (vB k)⟩
theorem Pa (hc:X.calm=true):CallR X (.builtin "max") (λxs H Q=> ∃ (a:P1) (ns:G0 P3),xs= [.ref a]/\ns≠ []/\(SqL X.K H a (ns.map V.int)\/SqT X.K H a (ns.map V.int))/\ ∀m∈ns,(∀x∈ns,x<=m)->Q (.int m) H):=by
 intro pins s σ H xs us Q I r h;obtain⟨a,ns,rfl,hne,hS,q⟩:=h;obtain⟨u,rfl,ru⟩:=wX r;cases ru;have fin: ∀ {its:G0 G1} (hi:X2 its ns) (v:G1) (h':B3) (tk:G7),its.toArray[argBest (λi j=>decide (ns.getD i 0>ns.getD j 0)) (its.toArray.size-1)]? =some v->(∀b o,s.heap.get? b=some o->h'.get? b=some o)->EP X pins σ Q v {s with heap:=h',toks:=tk}:=λ{its} hi v h' tk hv kept=>by
  obtain⟨t,rfl,lt⟩:=zL hi (show its[_]? =some v by simpa using hv);refine⟨.int _,H,I.kept kept,⟨t,rfl⟩,q _ (getD_mem lt) λx hx=> ?_⟩;obtain⟨j,hj,rfl⟩:=mem_getD hx;exact(argBest_gt (λi=>ns.getD i 0) (its.toArray.size-1)).2 j (by rw [D8,hi.length];omega)
 refine call_max_walk ?_;rcases hS with hS|hS
 ·obtain⟨its,rv,pl,_⟩:=I.list hS;have hi:=yG rv;obtain⟨o,e,r⟩:=id pl.isList;have W:=bK (prog:=X.prog) (w:=X.w) (A:=X.A.in1) (I.ok.hd hc) s.heap.objs.size a (R8 (P7 e)) its.toArray;exact E5 pl.isList ⟨_,_,_,_,_,_,_,rfl,W,⟨⟨_,D9 _ rfl,rfl,rfl⟩,⟨o,G5 _ e,r⟩⟩,vA (P7 e),by rw [D8,hi.length];exact W1.mpr hne,CmpOf.ints_gt (λi=>ns.getD i 0) (λi v hv=>(zL hi (by simpa using hv)).imp λ_ z=>z.1),λv h' tk hv k=>fin hi v h' tk hv (vB k)⟩
 ·obtain⟨its,rv,pl,_⟩:=I.tuple hS;have hi:=yG rv;obtain⟨o,e,r⟩:=id pl;have W:=lE (prog:=X.prog) (w:=X.w) (A:=X.A.in1) (I.ok.hd hc) s.heap.objs.size a (R8 (P7 e)) its.toArray;exact aS (show s.heap.IsTuple a its.toArray from pl) ⟨_,_,_,_,_,_,_,rfl,W,⟨⟨_,D9 _ rfl,rfl,rfl⟩,⟨o,G5 _ e,r⟩⟩,vA (P7 e),by rw [D8,hi.length];exact W1.mpr hne,CmpOf.ints_gt (λi=>ns.getD i 0) (λi v hv=>(zL hi (by simpa using hv)).imp λ_ z=>z.1),λv h' tk hv k=>fin hi v h' tk hv (vB k)⟩
def NM (B:G0 P3->P3->Prop):RDn:=λds h Q=> ∃ (ns:G0 P3) (h':HD),ns≠ []/\Sub h' h/\(ds= [.tup (ns.map D.int)]\/ ∃a,ds= [.lst a]/\h a=some (ns.map D.int))/\ ∀m∈ns,B ns m->Q (.int m) h'
abbrev Ln:RDn:=NM λns m=> ∀x∈ns,m<=x
abbrev OH:RDn:=NM λns m=> ∀x∈ns,x<=m
theorem Xj {B:G0 P3->P3->Prop}{f:G1}(c:CallR X f (λxs H Q=> ∃ (a:P1) (ns:G0 P3),xs= [.ref a]/\ns≠ []/\(SqL X.K H a (ns.map V.int)\/SqT X.K H a (ns.map V.int))/\ ∀m∈ns,B ns m->Q (.int m) H)):wD X f (NM B):=
 c.imp λxs H Q ⟨ds,h,Qd,r,rh,⟨ns,h',hne,hs,e,q⟩,p⟩=>by
  rcases e with e|⟨a,e,ha⟩
  ·subst e;obtain⟨v,e,r1⟩:=jq r;obtain⟨a,vs,e1,hH,r2⟩:=(show ∃a vs,v= .ref a/\H a=some (.tup vs)/\RelDs X.K H (ns.map D.int) vs from r1);rw [jD r2] at hH;subst e e1;exact⟨a,ns,rfl,hne,.inr (SqT.of hH),λm m1 m2=>p (.int m) _ _ _ (.refl H) (rh.sub hs) rfl (q m m1 m2)⟩
  ·subst e;obtain⟨v,e,r1⟩:=jq r;obtain⟨vs,hH,r2⟩:=rh a _ ha;have e1:v= .ref a:=r1.1;rw [jD r2] at hH;subst e e1;exact⟨a,ns,rfl,hne,.inl (SqL.of hH),λm m1 m2=>p (.int m) _ _ _ (.refl H) (rh.sub hs) rfl (q m m1 m2)⟩
theorem Pb (hc:X.calm=true):wD X (.builtin "min") Ln:=Xj (GZ hc)
theorem NN (hc:X.calm=true):wD X (.builtin "max") OH:=Xj (Pa hc)
end
structure ShowOk (p:C7):Prop where
 sh:p.showable=true
 dp:p.depth<=60
 ln:p.shown.length<=sizeLine
mutual
theorem Wh {h:HD}: ∀ {p:C7} {d:D},ToP h d p->p.hasDict=false
 | .none,_,_=>rfl
 | .bool _,_,_=>rfl
 | .int _,_,_=>rfl
 | .str _,_,_=>rfl
 | .tuple ps,d,t=>by
  obtain⟨ds,_,ts⟩:=(show ∃ds,d= .tup ds/\ToPs h ds ps from t);simpa only [mM] using noDict_ToPs ts
 | .list ps,d,t=>by
  obtain⟨a,ds,_,_,ts⟩:=(show ∃a ds,d= .lst a/\h a=some ds/\ToPs h ds ps from t);simpa only [mM] using noDict_ToPs ts
 | .dict _,_,t=>(show False from t).elim
theorem noDict_ToPs {h:HD}: ∀ {ps:G0 C7} {ds:G0 D},ToPs h ds ps->iR ps=false
 | [],_,_=>rfl
 |p::ps,ds,t=>by
  obtain⟨d,r,_,t1,t2⟩:=(show ∃d r,ds=d::r/\ToP h d p/\ToPs h r ps from t);simp only [iR,Wh t1,noDict_ToPs t2,Bool.or_self]
end
def OI:RDn:=λds h Q=> ∃d p,ds= [d]/\ToP h d p/\ShowOk p/\Q (.str p.shown) h
theorem Xk {X:Cx}{k:G7}(hr:Room k X.A):wD X (.builtin "repr") OI:=by
 intro pins s σ H xs us Q I r h;obtain⟨ds,h,Qd,rs,rh,⟨d,p,e,t,so,q⟩,post⟩:=h;subst e;obtain⟨v,e,r1⟩:=jq rs;subst e;obtain⟨u,rfl,ru⟩:=wX r;have fin: ∀t',EP X pins σ Q (.str p.shown t') {s with toks:=s.toks+1}:=λt'=>⟨.str p.shown,H,I.tok _,⟨_,rfl⟩,post (.str _) _ _ _ (.refl H) rh rfl q⟩
 have fin0: ∀t',EP X pins σ Q (.str p.shown t') s:=λt'=>⟨.str p.shown,H,I,⟨_,rfl⟩,post (.str _) _ _ _ (.refl H) rh rfl q⟩
 have big: ∀a,u= .ref a->R4 (R5 X.prog X.w) X.A (call (.builtin "repr") [.ref a]) (EP X pins σ Q) X.xe s:=λa e=>by
  obtain⟨as,rd⟩:=wa I rh t r1 ru;subst e;exact repr_of_reads' rd so.sh (PyData.noDict_hsm (Wh t)) hr.gd (by have:=hr.units;have:=so.dp;omega) (λ_ _ e=>e)
   (λh' u' tk hk=>⟨.str p.shown,H,I.kept hk,⟨_,rfl⟩,post (.str _) _ _ _ (.refl H) rh rfl q⟩) so.ln
 cases p with
 |none=>
  cases (show d= .non from t);cases (show v= .non from r1);cases (show u= .none from ru);exact PySem.P.repr_of_none (fin _)
 |bool b=>
  cases (show d= .bl b from t);cases (show v= .bl b from r1);cases (show u= .bool b from ru);exact PySem.P.repr_of_bool (fin _)
 |int i=>
  cases (show d= .int i from t);cases (show v= .int i from r1);obtain⟨k,rfl⟩:=(show ∃t,u=cE i t from ru);exact PySem.P.repr_of_int (by simpa [PyData.showable] using so.sh) (fin _)
 |str x=>
  cases (show d= .str x from t);cases (show v= .str x from r1);obtain⟨k,rfl⟩:=(show ∃t,u=gF x t from ru);exact PySem.P.repr_of_str (fin _) so.ln
 |tuple ps=>
  obtain⟨ds,e,ts⟩:=(show ∃ds,d= .tup ds/\ToPs h ds ps from t);subst e;obtain⟨a,vs,e,hH,rs⟩:=(show ∃a vs,v= .ref a/\H a=some (.tup vs)/\RelDs X.K H ds vs from r1);subst e;cases (show u= .ref a from ru);exact big a rfl
 |list ps=>
  obtain⟨a,ds,e,ha,ts⟩:=(show ∃a ds,d= .lst a/\h a=some ds/\ToPs h ds ps from t);subst e;have e:v= .ref a:=r1.1;subst e;cases (show u= .ref a from ru);exact big a rfl
 |dict _=>exact(show False from t).elim
theorem Rn {ta:TAD}{g:TGD}{tb:TSD}{E:EndsD}{σ:SD}{h h1:HD}(m:P3)(n:G7)(W:G7->SD->HD->Prop)(hm:0<=m)(hm2:m<1000000)(hn:n<1000000)
 (ht: ∀R:G0 D->HD->Prop,R [.int m,.int (m+(n:P3))] h1->ta σ h R)(w0:W 0 σ h1)(done: ∀rD h',W n rD h'->E.nx rD h')
 (turn: ∀i rD h',i<n->W i rD h'->g (.int (m+(i:P3))) rD h' λrF h2=>tb (Nxt E λrJ h4=>i+1<=n/\W (i+1) rJ h4) rF h2):BL (iR2 ta) g tb E σ h:=by
 refine ht _ ⟨m,m+(n:P3),rfl,⟨by omega,by omega,by omega,by omega⟩,n,λi rD h'=>i<=n/\W i rD h',⟨B4 _,w0⟩,?_⟩;rintro i rD h' ⟨hi,w⟩;have en:(m+(n:P3)-m).toNat=n:=by omega
 refine⟨_,rfl,by simp [en],λhl=> ?_,λd hd=> ?_⟩
 ·have:i=n:=by simp [en] at hl;omega
  subst this;exact done _ _ w
 ·rw [en,P4] at hd;cases hx:(G6 n)[i]? with
  |none=>rw [hx] at hd;cases hd
  |some y=>
   rw [hx] at hd;cases hd;obtain⟨hi2,e⟩:=D3.mp hx;simp at hi2 e;subst e;exact turn i rD h' hi2 w
def Mp:RDn:=λds h Q=> ∃x y p,ds= [x,y]/\ToP h x p/\ToP h y p/\ShowOk p/\Q (.bl true) h
theorem NO {r:G0 P3}{h:HD}{Q:KD}(hne:r≠ [])(q: ∀m∈r,(∀x∈r,m<=x)->Q (.int m) h):Ln [zJ r] h Q:=⟨r,h,hne,Sub.refl h,.inl rfl,q⟩
def Ju (r:G0 P3):P3:=(r.min?).getD 0
theorem Pc {r:G0 P3}{m:P3}(h:m∈r)(l: ∀x∈r,m<=x):m=Ju r:=by
 unfold Ju;rw [fK.mpr ⟨h,l⟩];rfl
theorem Wi {r:G0 P3}(h:r≠ []):Ju r∈r/\ ∀x∈r,Ju r<=x:=by
 cases e:r.min? with
 |none=>exact absurd (List.min?_eq_none_iff.mp e) h
 |some m=>
  have:=fK.mp e;unfold Ju;rw [e];exact this
theorem WN {n e:G7}{T:G0 (G0 P3)}(h:Sq n e T)(ne: ∀r∈T,r≠ []){m:P3}(m1:m∈T.map Ju)(m2: ∀x∈T.map Ju,m<=x):decide (m>0)=jF T:=by
 rw [J1,A1];unfold jF;simp only [N7,A1];constructor
 ·intro hm r hr x hx;have a:=m2 _ (R1.mpr ⟨r,hr,rfl⟩);have b:=(Wi (ne r hr)).2 x hx;omega
 ·intro z;obtain⟨r,hr,rfl⟩:=R1.mp m1;have a:=(Wi (ne r hr)).1;have b:=z r hr _ a;have c:=h.nn r hr _ a;omega
section
variable {α β:Type}{i i':G7}{js:G0 G7}{ti ti':TID}{te:TED}{σ:SD}{h:HD}{Q:KD}{j:ItD}
theorem Ez (xs:G0 α)(c:α->D)(g:α->P3)(hz:xs.length<=1000)(hj:j h=some (xs.map c))(ht: ∀R:ItD->HD->Prop,R j h->ti σ h R)
 (he: ∀x∈xs,∀Q':KD,Q' (.int (g x)) h->te ((jI js σ).set i (some (c x))) h Q')(hne:xs≠ [])(hq: ∀m∈xs.map g,(∀x∈xs.map g,m<=x)->Q (.int m) h):dCB Ln (jZ (Zm (bN i) js ti yF te) Zk) σ h Q:=by
 show Zm (bN i) js ti yF te σ h (λx h1=>Ln [x] h1 Q);exact lcA xs c (λx=> .int (g x)) hz hj ht he λp hp=>⟨xs.map g,h,λz=>hne (aG.mp z),Sub.newAt (Sub.refl h) hp,.inr ⟨p,rfl,by rw [ja,T6];rfl⟩,hq⟩
end
end L2
namespace L2
open PySem PySem.Spec PyProof.Rows PySem.SeqAt
theorem Ro {X:Cx}(hu:X.A.units+64<cLine):MtM X "list.index" (λx vs H Q=> ∃ (a:P1) (y:V) (dy:D) (h:HD) (p:C7) (ps:G0 C7) (j:G7) (z:C7),x= .ref a/\vs= [y]/\RelD X.K H dy y/\RelH X.K h H/\ToP h (.lst a) (.list ps)/\ToP h dy p/\p.canLay0=true/\M7 ps=true/\p.depth<=60/\j<1000000/\ps[j]? =some z/\C0 z p=true/\(∀m y,m<j->ps[m]? =some y->C0 y p=false)/\Q (.int (j:P3)) H):=by
 intro pins s σ H x vs v us Q I rx rv h;obtain⟨a,y,dy,h,p,ps,j,z,rfl,rfl,rd,rh,t1,t2,c1,c2,c3,hj,hz,hit,hno,q⟩:=h;cases rx;obtain⟨u,rfl,ru⟩:=wX rv;obtain⟨a',ds,ea,ha,ts⟩:=(show ∃a' ds,D.lst a= .lst a'/\h a'=some ds/\ToPs h ds ps from t1);cases ea;obtain⟨ws,hH,_⟩:=rh a ds ha;obtain⟨as,r1⟩:=wa I rh t1 (show RelD X.K H (.lst a) (.ref a) from ⟨rfl,ws,hH⟩) (show RelV (.ref a) (.ref a) from rfl);obtain⟨bs,r2⟩:=wa I rh t2 rd ru;cases r1 with
 |list h1 h2 h3 h4=>
  rename_i o its n cs;have em:=readsAll_map ps _ _ c2 h4;have gm: ∀m (hm:m<its.size),ps[m]? =some (readOf s.heap its[m]):=λm hm=>by
   rw [<-em,P4,N5,J8 hm];rfl
  have hlen:its.size=ps.length:=by rw [<-em,G3,D1]
  have hjs:j<its.size:=by rw [hlen];exact(D3.mp hz).1
  have hu':X.A.units+1+min (B7 ps) p.depth<cLine:=by have:=W5 (B7 ps) p.depth;omega
  obtain⟨oc,od,odt,osl⟩:=o;simp only at h2 h3;subst h2 h3;refine hJ F.slot_list_index ⟨_,h1,rfl⟩ F.entry_list_index (F.args_list_index_2 _ _) (list_indexAt a its n od osl u (λy=>C0 (readOf s.heap y) p) j hjs (by omega) ?_ ?_) ⟨h1,items_eqAt h4 r2 c2 c1 hu',?_⟩
  ·have:=gm j hjs;rw [hz] at this;injection this with this
   rw [<-this];exact hit
  ·intro m hm hmj;exact hno m _ hmj (gm m hm)
  ·exact⟨.int (j:P3),H,I.tok _,⟨_,rfl⟩,q⟩
def EA (to te:TED):TED:=λσ h Q=>to σ h λx h1=> ∃a,x= .lst a/\te σ h1 λy h2=> ∃ (p:C7) (ps:G0 C7) (j:G7) (z:C7),ToP h2 (.lst a) (.list ps)/\ToP h2 y p/\p.canLay0=true/\M7 ps=true/\p.depth<=60/\j<1000000/\ps[j]? =some z/\C0 z p=true/\(∀m y,m<j->ps[m]? =some y->C0 y p=false)/\Q (.int (j:P3)) h2
section
variable {X:Cx}{o e i:S8}{to te ti:TED}{apos cpos:Pos}
theorem EB (hu : X.A.units + 64 < cLine) (ho : JE X o to) (he : JE X e te) (hbase : aK o "index" X.env (L4 o X.env) = L4 o X.env := by rfl)
    (hfew : ((O9 cpos (D2 [e] X.env)).all (fun x => !x.1) && (fW cpos (bT [] X.env)).all (fun x => x.1.isSome) && decide ([e].length + ([] : G0 a6).length + (if ([] : G0 a6).isEmpty then 0 else 1) < 30)) = true := by rfl)
    (hline : (apos.endLine == cpos.line) = true := by rfl) (hs : D2 [e] X.env = (false, L4 e X.env) :: D2 [] X.env := by rfl) (hplain : (O9 cpos (D2 [] X.env)).any (·.1) = false := by rfl) :
    JE X (.Call (.Attribute o "index" apos) [e] [] cpos) (EA to te) :=
  ⟨(CC dQ nY nZ (Ro hu) ho.to (wY he.to pa_nil hs) hbase hfew hline hs hplain).imp
    fun σ H Q ⟨rE, h, Qd, rs, rh, t, p⟩ => LE.bind rs rh t fun d v h1 H1 k1 rs1 rh1 r1 ⟨a, e, q⟩ => by
      subst e
      obtain ⟨e1, vs, hH⟩ := (show v = .ref a ∧ ∃ vs, H1 a = some (.lst vs) from r1)
      subst e1
      refine ⟨.inl ⟨rfl, vs, SqL.of hH⟩, ?_⟩
      refine LE.bind rs1 rh1 q fun y u h2 H2 k2 rs2 rh2 r2 ⟨pd, ps, j, z, t1, t2, c1, c2, c3, hj, hz, hit, hno, q2⟩ => ?_
      exact ⟨a, u, y, h2, pd, ps, j, z, rfl, rfl, r2, rh2, t1, t2, c1, c2, c3, hj, hz, hit, hno, p (.int _) _ _ _ (k1.trans k2) rh2 rfl q2⟩⟩
end
section
variable {α:Type}{i i':G7}{js:G0 G7}{ti:TID}{te:TED}{σ:SD}{h:HD}{Q:KD}{j:ItD}
theorem EC (xs:G0 α)(c c' g:α->D)(hz:xs.length<=1000)(hj:j h=some (xs.map λx=> .tup [c x,c' x]))(ht: ∀R:ItD->HD->Prop,R j h->ti σ h R)
 (he: ∀x∈xs,∀Q':KD,Q' (g x) h->te (((jI js σ).set i (some (c x))).set i' (some (c' x))) h Q')(hq: ∀p,h p=none->Q (.lst p) (wC h p (xs.map g))):Zm (b2 i i') js ti yF te σ h Q:=by
 refine ht _ ⟨xs.length,λk ys h'=>h'=h/\ys=(xs.take k).map g,⟨rfl,by simp⟩,?_⟩;rintro k ys h' ⟨rfl,rfl⟩;refine⟨by simp only [G3,N3];exact M3 (jC (by omega)),_,hj,by simp,λhl p hp=> ?_,λd hd=> ?_⟩
 ·rw [M1 (by simpa using hl)];exact hq p hp
 ·rw [P4] at hd;cases hx:xs[k]? with
  |none=>rw [hx] at hd;cases hd
  |some x=>
   rw [hx] at hd;cases hd;refine⟨_,⟨_,_,rfl,rfl⟩,?_⟩;unfold yF;dsimp only;rw [R0 rfl];refine he x (S0 hx) _ ⟨h',Sub.refl _,rfl,?_⟩;rw [T2,hx];simp
end
def IsS (n:G7)(S:G0 G7):Prop:= ∃p:G7->M6,S=(G6 n).filter p
def itF {α:Type}(f:α->α)(x:α):G7->α
 |0=>x
 |k+1=>f (itF f x k)
variable {α:Type}
theorem Ug (f:α->α)(x:α)(a:G7): ∀b,itF f x (a+b)=itF f (itF f x a) b
 |0=>rfl
 |b+1=>by show f (itF f x (a+b))=f (itF f (itF f x a) b);rw [Ug f x a b]
theorem YV {α:Type}{f:α->α}{x:α}{a p:G7}(e:itF f x (a+p)=itF f x a)(r:G7): ∀q,itF f x (a+p*q+r)=itF f x (a+r)
 |0=>by simp
 |q+1=>by
  have h1:a+p*(q+1)+r=(a+p)+(p*q+r):=by rw [X5];omega
  rw [h1,Ug,e,<-Ug,<-dI,YV e r q]
theorem NP {α:Type}{f:α->α}{x:α}{a m k:G7}(e:itF f x m=itF f x a)(ha:a<m)(hk:a<=k):itF f x (a+(k-a)%(m-a))=itF f x k:=by
 have e':itF f x (a+(m-a))=itF f x a:=by rw [show a+(m-a)=m by omega];exact e
 have h:=YV e' ((k-a)%(m-a)) ((k-a) / (m-a));have h2:=b8 (k-a) (m-a);rw [show a+(m-a)*((k-a) / (m-a))+(k-a)%(m-a)=k by omega] at h;exact h.symm
theorem Zw [DecidableEq α]: ∀ {l m:G0 α},l.Nodup->(∀x∈l,x∈m)->l.length<=m.length
 | [],_,_,_=>B4 _
 |a::l,m,nd,h=>by
  have hm:=h a P8;have h2:l.length<=(m.erase a).length:=Zw (L7.mp nd).2 λx hx=>by
   have hxa:x≠a:=λe=>(L7.mp nd).1 (e ▸ hx)
   exact(Y8 hxa).mpr (h x (R6 _ hx))
  rw [V9 hm] at h2;have:=X6 hm;simp only [S4];omega
def ED (S:G0 G7):C7:=wW (zi S)
theorem NQ (h:HD)(S:G0 G7):ToP h (zR S) (ED S):=by rw [WJ];exact⟨_,rfl,zK h _⟩
theorem Wj: ∀a b:G0 P3,B5 (a.map X4) (b.map X4)=decide (a=b)
 | [],[]=>by simp [B5]
 | [],_::_=>by simp [B5]
 |_::_,[]=>by simp [B5]
 |x::a,y::b=>by
  show ((x==y)&&B5 (a.map .int) (b.map .int))=_;rw [Wj a b,J1];simp
theorem Pd (a b:G0 P3):C0 (wW a) (wW b)=decide (a=b):=Wj a b
theorem Pe {α:Type}{f:G7->α}{L:G7}(h:1<=L):atI ((G6 L).map f) (-1)=some (f (L-1)):=by
 unfold atI ixN;rw [G3,D6,R7 (by decide),R0 (by omega)];show ((G6 L).map f)[(-1+(L:P3)).toNat]? =_;rw [show (-1+(L:P3)).toNat=L-1 by omega,P4,F1 (by omega)];rfl
structure Enc {α:Type}[DecidableEq α](e:α->D)(p:α->C7):Prop where
 to: ∀ (h:HD) a,ToP h (e a) (p a)
 lay: ∀a,(p a).canLay0=true
 dp: ∀a,(p a).depth<=60
 eq: ∀a b,C0 (p a) (p b)=decide (a=b)
section
variable {α:Type}[DecidableEq α]{e:α->D}{p:α->C7}
theorem Enc.tos (E:Enc e p)(h:HD): ∀as:G0 α,ToPs h (as.map e) (as.map p)
 | []=>rfl
 |a::as=>⟨_,_,rfl,E.to h a,E.tos h as⟩
theorem Enc.lays (E:Enc e p): ∀as:G0 α,M7 (as.map p)=true
 | []=>rfl
 |a::as=>by show (B2 (p a)&&_)=true;rw [E.lays as,E.lay a];rfl
theorem FE (E:Enc e p){neg:M6}{x:α}{as:G0 α}{a:P1}{h:HD}{Q:KD}(ha:h a=some (as.map e))(q: ∀b:M6,(b=true↔x∈as)->Q (.bl (neg !=b)) h):inE neg (e x) (.lst a) h Q:=by
 refine⟨p x,as.map p,E.to h x,.inl ⟨a,_,rfl,ha,E.tos h as⟩,E.lay x,E.lays as,E.dp x,q _ ?_⟩;rw [List.any_map,Z8];constructor
 ·rintro ⟨y,hy,z⟩;have:y=x:=by simpa [A0,E.eq] using z
  rw [<-this];exact hy
 ·intro hi;exact⟨x,hi,by simp [A0,E.eq]⟩
theorem FF (E:Enc e p){x:α}{as:G0 α}{a:P1}{h:HD}(ha:h a=some (as.map e))(hx:x∈as)(hl:as.length<=100000):
 ∃ (j:G7) (q:C7) (qs:G0 C7) (z:C7),as[j]? =some x/\ToP h (.lst a) (.list qs)/\ToP h (e x) q/\q.canLay0=true/\M7 qs=true/\q.depth<=60/\j<1000000/\qs[j]? =some z/\C0 z q=true/\(∀m y,m<j->qs[m]? =some y->C0 y q=false):=by
 have hj:=aM.mpr hx;have ex:as[as.idxOf x]? =some x:=by rw [P2 hj,aT hj]
 refine⟨as.idxOf x,p x,as.map p,p x,ex,⟨a,_,rfl,ha,E.tos h as⟩,E.to h x,E.lay x,E.lays as,E.dp x,by omega,?_,by rw [E.eq,D7 rfl],λm y hm hy=> ?_⟩
 ·rw [P4,ex];rfl
 ·rw [P4] at hy;have hml:m<as.length:=by omega
  rw [P2 hml] at hy;cases hy;rw [E.eq];have:=List.not_of_lt_findIdx (p:=(· ==x)) (xs:=as) hm;simpa using this
end
theorem zM: ∀a b:G0 (G0 P3),B5 (a.map wW) (b.map wW)=decide (a=b)
 | [],[]=>by simp [B5]
 | [],_::_=>by simp [B5]
 |_::_,[]=>by simp [B5]
 |x::a,y::b=>by
  show (C0 (wW x) (wW y)&&B5 (a.map wW) (b.map wW))=_;rw [zM a b,Pd,J1];simp
theorem Az:Enc jf WK:=⟨Uc,λT=>by unfold WK;simp only [B2];exact wF T,λT=>by unfold WK;simp only [A7];have:=yB T;omega,zM⟩
def mk1 (n:G7)(T:G0 (G0 P3))(M:G0 (G0 P3)):G0 (G0 P3):=je n (yf n M T)
def zN (n:G7)(T:G0 (G0 P3))(i:G7):G0 (G0 P3):=itF (mk1 n T) (je n T) i
theorem Pf (n:G7)(T:G0 (G0 P3)): ∀i,∃M,zN n T i=je n M
 |0=>⟨T,rfl⟩
 |_+1=>⟨_,rfl⟩
theorem WO (n:G7)(T:G0 (G0 P3))(i:G7):Sq n 1 (zN n T i):=by
 obtain⟨M,e⟩:=Pf n T i;rw [e];exact Sq.mark M
variable {n:G7}
theorem JV {e:G7}{T:G0 (G0 P3)}(h:Sq n e T)(hn:n<=8): ∀i,zN n T i=je n (zk n T (i+1))
 |0=>by
  show je n T=je n (yf n (QM n) T);rw [Xe h hn]
 |i+1=>by
  show je n (yf n (zN n T i) T)=je n (yf n (zk n T (i+1)) T);rw [JV h hn i,JU (Sq.mark (n:=n) _) h,JU (h.pow hn (i+1)) h,YU]
def RP (n:G7)(T:G0 (G0 P3))(k i j:G7):Prop:=ent (zk n T k) i j≠0
section
variable {n e:G7}{T:G0 (G0 P3)}
theorem zj (h:Sq n e T)(hn:n<=8)(a b:G7){i j:G7}(hi:i<n)(hj:j<n):RP n T (a+b) i j↔ ∃k,k<n/\RP n T a i k/\RP n T b k j:=by
 unfold RP;rw [pow_add h hn a b];exact zt (h.pow hn a) (h.pow hn b) hi hj
theorem yU (h:Sq n e T)(hn:n<=8){c x:G7}(hx:x<n)(l:RP n T c x x): ∀q,RP n T (c*(q+1)) x x
 |0=>by rw [V5,Nat.mul_one];exact l
 |q+1=>by
  rw [X5];exact(zj h hn _ _ hx hx).mpr ⟨x,hx,yU h hn hx l q,l⟩
theorem zw {i j:G7}(hi:i<n)(hj:j<n):RP n T 0 i j↔i=j:=by
 unfold RP;show ent (QM n) i j≠0↔_;unfold QM;rw [vx hi hj]
 by_cases z:i=j
 ·simp [z]
 ·simp [z]
theorem YW (h:Sq n e T)(hn:n<=8): ∀ (m:G7) {i j:G7},i<n->j<n->RP n T m i j-> ∃v:G7->G7,v 0=i/\v m=j/\(∀t,t<=m->v t<n)/\ ∀t,t<m->RP n T 1 (v t) (v (t+1))
 |0,i,j,hi,hj,r=>by
  have:=(zw hi hj).mp r;exact⟨λ_=>i,rfl,this,λ_ _=>hi,λt ht=>by omega⟩
 |m+1,i,j,hi,hj,r=>by
  obtain⟨k,hk,r1,r2⟩:=(zj h hn m 1 hi hj).mp r;obtain⟨v,v0,vm,vl,vr⟩:=YW h hn m hi hk r1;refine⟨λt=>if t<=m then v t else j,?_,?_,λt _=> ?_,λt ht=> ?_⟩
  ·simp [v0]
  ·show (if m+1<=m then v (m+1) else j)=j;rw [R7 (by omega)]
  ·show (if t<=m then v t else j)<n;split
   ·exact vl t (by assumption)
   ·exact hj
  ·show RP n T 1 (if t<=m then v t else j) (if t+1<=m then v (t+1) else j);rw [R0 (by omega)]
   by_cases z:t+1<=m
   ·rw [R0 z];exact vr t (by omega)
   ·rw [R7 z,show t=m by omega,vm];exact r2
theorem zx (h:Sq n e T)(hn:n<=8){m:G7}{v:G7->G7}(vl: ∀t,t<=m->v t<n)(vr: ∀t,t<m->RP n T 1 (v t) (v (t+1)))(a:G7): ∀b,a+b<=m->RP n T b (v a) (v (a+b))
 |0,hb=>(zw (vl a (by omega)) (vl a (by omega))).mpr rfl
 |b+1,hb=>(zj h hn b 1 (vl a (by omega)) (vl _ hb)).mpr ⟨v (a+b),vl _ (by omega),zx h hn vl vr a b (by omega),vr (a+b) (by omega)⟩
theorem Mq {n:G7}{v:G7->G7}(hv: ∀t,t<=n->v t<n): ∃a b,a<b/\b<=n/\v a=v b:=by
 by_cases z: ∃a b,a<b/\b<=n/\v a=v b
 ·exact z
 ·exfalso;have nd:((G6 (n+1)).map v).Nodup:=by
   unfold cO;rw [A2];refine List.Pairwise.imp_of_mem (λ{a b} _ hb hab=> ?_) (List.pairwise_lt_range (n:=n+1));intro e;exact z ⟨a,b,hab,by have:=P6.mp hb;omega,e⟩
  have:=Zw nd (m:=G6 n) λx hx=>by
   obtain⟨t,ht,e⟩:=R1.mp hx;rw [<-e];exact P6.mpr (hv t (by have:=P6.mp ht;omega))
  simp at this;omega
theorem NR (h:Sq n e T)(h6:n<=6){m i j:G7}(hm:n<=m)(hi:i<n)(hj:j<n)(r:RP n T m i j):RP n T (m+60) i j:=by
 have hn:n<=8:=by omega
 obtain⟨v,v0,vm,vl,vr⟩:=YW h hn m hi hj r;obtain⟨a,b,hab,hbn,eq⟩:=Mq (n:=n) (v:=v) λt ht=>vl t (by omega)
 have ha:=vl a (by omega);have p1:RP n T a i (v a):=by have:=zx h hn vl vr 0 a (by omega);rw [v0,V5] at this;exact this
 have p2:RP n T (b-a) (v a) (v a):=by
  have:=zx h hn vl vr a (b-a) (by omega);rw [show a+(b-a)=b by omega,<-eq] at this;exact this
 have p3:RP n T (m-a) (v a) j:=by
  have:=zx h hn vl vr a (m-a) (by omega);rw [show a+(m-a)=m by omega,vm] at this;exact this
 have p4:RP n T 60 (v a) (v a):=by
  have hc:b-a=1\/b-a=2\/b-a=3\/b-a=4\/b-a=5\/b-a=6:=by omega
  rcases hc with c|c|c|c|c|c<;>rw [c] at p2
  ·exact yU h hn ha p2 59
  ·exact yU h hn ha p2 29
  ·exact yU h hn ha p2 19
  ·exact yU h hn ha p2 14
  ·exact yU h hn ha p2 11
  ·exact yU h hn ha p2 9
 have p5:RP n T (60+(m-a)) (v a) j:=(zj h hn _ _ ha hj).mpr ⟨v a,ha,p4,p3⟩;have p6:RP n T (a+(60+(m-a))) i j:=(zj h hn _ _ hi hj).mpr ⟨v a,ha,p1,p5⟩;rw [show a+(60+(m-a))=m+60 by omega] at p6;exact p6
end
theorem yC {f g:G7->P3}(h: ∀k,k<n->f k<=g k):jz n f<=jz n g:=by
 induction n with
 |zero=>exact f6 _
 |succ n ih=>rw [ju,ju];have:=ih λk hk=>h k (by omega);have:=h n (by omega);omega
theorem Wk {f g:G7->P3}(h: ∀k,k<n->f k<=g k)(e:jz n g<=jz n f): ∀k,k<n->f k=g k:=by
 induction n with
 |zero=>intro k hk;omega
 |succ n ih=>
  rw [ju,ju] at e;have a:=yC λk (hk:k<n)=>h k (by omega)
  have b:=h n (by omega);intro k hk
  by_cases z:k=n
  ·subst z;omega
  ·exact ih (λk hk=>h k (by omega)) (by omega) k (by omega)
section
variable {n e:G7}{T:G0 (G0 P3)}
def tot (n:G7)(T:G0 (G0 P3))(k:G7):P3:=jz n λi=>jz n λj=>ent (je n (zk n T k)) i j
theorem Jd {M:G0 (G0 P3)}{i j:G7}(hi:i<n)(hj:j<n):ent (je n M) i j=if ent M i j=0 then 0 else 1:=vx hi hj
theorem NS (h:Sq n e T)(h6:n<=6){m:G7}(hm:n<=m): ∀i j,i<n->j<n->ent (je n (zk n T m)) i j<=ent (je n (zk n T (m+60))) i j:=λi j hi hj=>by
 rw [Jd hi hj,Jd hi hj]
 by_cases z:ent (zk n T m) i j=0
 ·rw [R0 z];split<;>omega
 ·rw [R7 z,R7 (NR h h6 hm hi hj z)];exact f6 _
theorem Rp (h:Sq n e T)(h6:n<=6){m:G7}(hm:n<=m):je n (zk n T m)=je n (zk n T (m+60))\/tot n T m+1<=tot n T (m+60):=by
 have le:=NS h h6 hm;have a:tot n T m<=tot n T (m+60):=yC λi hi=>yC λj hj=>le i j hi hj
 by_cases z:tot n T (m+60)<=tot n T m
 ·left;refine(Sq.mark (n:=n) _).ext (Sq.mark (n:=n) _) λi j hi hj=> ?_
  have b:=Wk (λi hi=>yC λj hj=>le i j hi hj) z i hi;exact Wk (λj hj=>le i j hi hj) (by rw [b];exact f6 _) j hj
 ·right;omega
theorem YX (k:G7)(h6:n<=6):0<=tot n T k/\tot n T k<=36:=by
 have r: ∀i,i<n->0<=(jz n λj=>ent (je n (zk n T k)) i j)/\(jz n λj=>ent (je n (zk n T k)) i j)<=6:=λi hi=>by
  have a: ∀j,j<n->0<=ent (je n (zk n T k)) i j/\ent (je n (zk n T k)) i j<=1:=λj hj=>by
   rw [Jd hi hj];split<;>omega
  refine⟨vy λj hj=>(a j hj).1,?_⟩;have:=WI (f:=λj=>ent (je n (zk n T k)) i j) λj hj=>(a j hj).2
  omega
 refine⟨vy λi hi=>(r i hi).1,?_⟩;have b:=WI (f:=λi=>jz n λj=>ent (je n (zk n T k)) i j) λi hi=>(r i hi).2
 unfold tot;omega
theorem Qa (h:Sq n e T)(h6:n<=6): ∃t,t<=36/\je n (zk n T (n+60*t))=je n (zk n T (n+60*(t+1))):=by
 by_cases z: ∃t,t<=36/\je n (zk n T (n+60*t))=je n (zk n T (n+60*(t+1)))
 ·exact z
 ·exfalso;have g: ∀t:G7,t<=37->(t:P3)<=tot n T (n+60*t):=by
   intro t
   induction t with
   |zero=>intro _;exact(YX _ h6).1
   |succ t ih=>
    intro ht;have a:=ih (by omega);rcases Rp h h6 (m:=n+60*t) (by omega) with b|b
    ·exact(z ⟨t,by omega,by rw [b];rfl⟩).elim
    ·have e1:n+60*t+60=n+60*(t+1):=by omega
     rw [e1] at b;omega
  have a:=g 37 (P0 _);have b:=(YX (T:=T) (n+60*37) h6).2;omega
theorem Pg (h:Sq n e T)(h1:1<=n)(h6:n<=6){L:G7}(nd:((G6 L).map (zN n T)).Nodup):L<=2225:=by
 by_cases z:L<=2225
 ·exact z
 ·exfalso;obtain⟨t,ht,eq⟩:=Qa h h6;have e1:zN n T (n+60*t-1)=zN n T (n+60*t+59):=by
   rw [JV h (by omega),JV h (by omega),show n+60*t-1+1=n+60*t by omega,show n+60*t+59+1=n+60*(t+1) by omega];exact eq
  have inj:=nd;unfold cO at inj;rw [A2] at inj;have h2:=C1.mp inj (n+60*t-1) (n+60*t+59) (by simp;omega) (by simp;omega) (by omega);simp only [O5] at h2;exact h2 e1
structure Course (n:G7)(T:G0 (G0 P3))(L J:G7):Prop where
 nd:((G6 L).map (zN n T)).Nodup
 lt:J<L
 eq:zN n T L=zN n T J
end
theorem call_divmodB {X:Cx}:CallR X (.builtin "divmod") (λxs H Q=> ∃i j,xs= [.int i,.int j]/\(0<j/\j<2^200)/\ ∀p,H p=none->Q (.ref p) (upd H p (.tup [.int (i / j),.int (i%j)]))):=by
 intro pins s σ H xs us Q I r h;obtain⟨i,j,rfl,⟨h1,h2⟩,q⟩:=h;obtain⟨u,w',rfl,⟨t,rfl⟩,⟨t',rfl⟩⟩:=DH r;refine divmod_int (by omega) ?_ (.inl (PyProof.noPylong_of_log2 ?_))
 ·rw [cF i (by omega),cG i (by omega)];have hn:H s.heap.objs.size=none:=I.hok.fresh (P0 _);refine⟨.ref s.heap.objs.size,_,?_,rfl,q _ hn⟩;refine I.laid (λb o e=>G5 _ e) (P0 _) ⟨by simp only [S4,A9];rw [oZ];decide,[.int (i / j) s.toks,.int (i%j) (s.toks+1)],.cons ⟨_,rfl⟩ (.cons ⟨_,rfl⟩ .nil),?_⟩;exact⟨_,D9 s.heap rfl,rfl,rfl,0,rfl⟩
 ·have h3:j.natAbs<2^200:=Zu (by omega) h2;have h4:=(Nat.log2_lt (by omega:j.natAbs≠0)).mpr h3;omega
def NT:RDn:=λds h Q=> ∃i j:P3,ds= [.int i,.int j]/\(0<j/\j<2^200)/\Q (.tup [.int (i / j),.int (i%j)]) h
theorem Qb {X:Cx}:wD X (.builtin "divmod") NT:=call_divmodB.imp λxs H Q ⟨ds,h,Qd,r,rh,⟨i,j,e,c,q⟩,p⟩=>by
 subst e;obtain⟨v,w,e,r1,r2⟩:=ya r;cases (show v= .int i from r1);cases (show w= .int j from r2);exact⟨i,j,e,c,λa ha=>p (.tup [.int (i / j),.int (i%j)]) _ _ _ (.new ha) (rh.new ha) ⟨a,_,rfl,jh,.cons rfl (.cons rfl .nil)⟩ q⟩
theorem FG {T:G0 (G0 P3)}{L J:G7}(c:Course n T L J){i:G7}(hi:J<=i):zN n T (J+(i-J)%(L-J))=zN n T i:=NP c.eq c.lt hi
theorem Qc {prog:S9}{w:N2}{A:T9}(hh:A.handled=none)(it t:P1)(items:M2 G1)(n:G7)(hn:items.size<=n):
 Draws prog w A it [it,t] n (λ_ _=>False) (λi h=>i=n/\h.IsListIter it t n/\h.IsList t items) where
 live:=λ_ _ st=>let ⟨o,ho,_⟩:=st.2.1;⟨o,ho⟩
 frame:=λ_ _ _ st hk=>⟨st.1,st.2.1.at λo e=>hk it (by simp) o e,st.2.2.at λo e=>hk t (by simp) o e⟩
 item:=λi s Q E hi st hQ=>absurd st.1 (R8 hi)
 done:=λs Q E st hE=>wpAny_nextOf_list_end hh st.2.1 st.2.2 (eY hn) hE
def OJ (K:G4)(a:P1):It:=
 ⟨λi H=> ∃xs x,SqL K H a xs/\xs[i]? =some x,λi H x H'=> ∃p v,H p=none/\(∀xs,SqL K H a xs->xs[i]? =some v)/\x= .ref p/\H'=upd H p (.tup [.int i,v]),λi H=> ∃xs,SqL K H a xs/\xs.length<=i⟩
theorem Qe {P:S9}{w:N2}{K:G4}{es:G0 S8}{k:G7}{pos:Pos}(a it e:P1)(hei:e≠it)(hae:a≠e)(hai:a≠it):Turn P w K (.Tuple es k pos) (OJ K a) [e,it] e (λi h=>(∃old,IsEnum h e it i old)/\h.IsListIter it a i) where
 mem:=by simp
 obj:=λi h st b hb=>by
  rcases S5.mp hb with z|z
  ·subst z;obtain⟨old,q⟩:=st.1;exact⟨_,q,λv z=>by cases z⟩
  ·have z:=G9.mp z;subst z;obtain⟨o,q,c,d⟩:=st.2;exact⟨o,q,λv z=>by rw [d] at z;cases z⟩
 keep:=λi h h' st k=>⟨let ⟨old,q⟩:=st.1;⟨old,k e (by simp) _ q⟩,st.2.at λo q=>k it (by simp) o q⟩
 item:=by
  intro X hP hw hK hc i pins s σ H E I hf st hg;subst hP hw hK;obtain⟨xs,x,hq,hx⟩:=hg;obtain⟨its,rv,p,hz⟩:=I.list hq;obtain⟨u,hu,ru⟩:=rv.get hx;have hi:i<its.toArray.size:=by have:=(D3.mp hu).1;simpa using this
  obtain⟨old,he⟩:=st.1;have helt:e<s.heap.objs.size:=P7 he;refine wpAny_pyNext_enum_itemD (Draws.list (prog:=X.prog) (w:=X.w) (A:=X.A.in1) (I.ok.hd hc) it a hai its.toArray) he ⟨st.2,p.isList⟩ hi hei (by simp [hei,E4 hae]) λx' h' tk hx' ho hs' hT hsz hk=> ?_
  have ex:x'=u:=F4 (hx'.symm.trans (show its.toArray[i]? =some u by simpa using hu));subst ex;refine⟨_,rfl,wpAny_letOwnedTupleGo_enum ho λh2 he2 hs2=> ?_⟩;have hn:H s.heap.objs.size=none:=I.hok.fresh (P0 _);have hT2:h2.get? s.heap.objs.size=some {cls:= .type "tuple",data:= .seq #[.int i tk,x']}:=(hs2.2 _ (A6 helt)).trans hT;refine⟨.ref s.heap.objs.size,upd H s.heap.objs.size (.tup [.int i,x]),?_,rfl,⟨_,x,hn,λys hy=>by rw [I.list_inj hy hq];exact hx,rfl,rfl⟩,⟨⟨x',by simpa using he2⟩,hs'.1.at λo y=>(hs2.2 it (E4 hei)).trans y⟩,λb hb=> ?_⟩
  ·refine I.turnLaid (h':=h2) (t':=tk+1) (ch:= [e,it]) (λb u hb q=> ?_) hf (P0 _) ⟨by show 2<=sizeLine;decide,[.int i tk,x'],.cons ⟨tk,rfl⟩ (.cons ru .nil),⟨_,hT2,rfl,rfl,_,rfl⟩⟩;have b1:b≠e:=λz=>hb (by simp [z])
   have b2:b≠it:=λz=>hb (by simp [z])
   exact(hs2.2 b b1).trans (hk b u b1 b2 q)
  ·have f:=(hf b hb).1;have:b≠s.heap.objs.size:=λz=>by
    rcases S5.mp hb with w|w
    ·rw [<-w,z] at helt;exact absurd helt (M4 _)
    ·have w:=G9.mp w;obtain⟨o,ho',_⟩:=st.2;have:=P7 ho';rw [<-w,z] at this;exact absurd this (M4 _)
   rw [jg this];exact f
 done:=by
  intro X hP hw hK hc i pins s σ H E I hf st hg;subst hP hw hK;obtain⟨xs,hq,hx⟩:=hg;obtain⟨its,rv,p,hz⟩:=I.list hq;obtain⟨old,he⟩:=st.1;have hl:=rv.length;refine wpAny_pyNext_enum_endD (Qc (prog:=X.prog) (w:=X.w) (A:=X.A.in1) (I.ok.hd hc) it a its.toArray i (by simp;omega)) he ⟨rfl,st.2,p.isList⟩ λh' hx'=>⟨rfl,I.turnL (t':=s.toks) (ch:= [it]) (λb o hb q=>hx' b o (λz=>hb (by simp [z])) q) λb hb=>hf b (R6 _ hb)⟩
 self:=λ_ _ _ _ _ st h=>let ⟨_,q⟩:=st.1;iT q h
section
variable {X:Cx}
def FH (K:G4)(ta:TA):TI:=λσ H R=>ta σ H λvs H1=> ∃a,vs= [.ref a]/\(∃xs,SqL K H1 a xs)/\R (OJ K a) H1
theorem Rq {es:G0 S8}{k:G7}{tp:Pos}{a:S8}{ta:TA}{p pos:Pos}(hg:Gl X "enumerate")(hm:X.mg "enumerate" =none)(ha:PA X [a] ta)(hs:D2 [a] X.env= [(false,L4 a X.env)]:=by rfl):
 PI X (.Tuple es k tp) (.Call (.Name "enumerate" p) [a] [] pos) (FH X.K ta):=by
 intro pins s σ H R I h;refine qT (Za I hg hm (show A5 "enumerate" =some (.type "enumerate") by decide +kernel) (E2 (thn (ha pos pins s σ H _ I h) λus s1 ⟨vs,H1,I1,r1,q1⟩=> ?_) hs rfl));obtain⟨a,e,⟨xs,hq⟩,q⟩:=q1;subst e;cases r1 with
 |cons r rr=>
  cases rr;cases r;obtain⟨its,rv,p,hz⟩:=I1.list hq;have hlt:a<s1.heap.objs.size:=by obtain⟨o,ho,_⟩:=p.isList;exact P7 ho
  refine call_enumerate_list p.isList λh' he hit _ hk=> ?_
  refine iT he ?_;refine⟨s1.heap.objs.size+1,[s1.heap.objs.size+1,s1.heap.objs.size],_,_,H1,rfl,I1.kept (t':=s1.toks) hk,Qe a s1.heap.objs.size (s1.heap.objs.size+1) (A6 (C4 _)) (R8 (V4 hlt)) (R8 hlt),⟨⟨_,he⟩,hit⟩,λb hb=> ?_,q⟩;have hb':s1.heap.objs.size<=b:=by
   rcases S5.mp hb with w|w
   ·rw [w];exact lC _
   ·rw [G9.mp w];exact P0 _
  exact I1.fpOk hb' (I1.hok.fresh hb')
end
def iEL (ta:TAD):TID:=λσ h R=>ta σ h λxs h1=> ∃a,xs= [.lst a]/\R (λh=>(h a).map GX) h1
section
variable {K:G4}
theorem Qf (H:Hp)(a:P1):BK K H (λh=>(h a).map GX) (OJ K a):=λH' h' k rh ds' e i=>by
 have e:(h' a).map GX=some ds':=e;cases hd:h' a with
 |none=>rw [hd] at e;cases e
 |some ds=>
  rw [hd] at e;cases e;obtain⟨vs,hv',r'⟩:=rh a ds hd;refine⟨λd hd=> ?_,λhl=>⟨vs,SqL.of hv',by rw [<-r'.length,<-yT];exact hl⟩⟩;obtain⟨x,hx,ed⟩:=Xi hd;subst ed;obtain⟨v,e1,e2⟩:=r'.get hx;refine⟨⟨vs,v,SqL.of hv',e1⟩,λx' H'' ⟨p,v',hp,hx',ex,eH⟩=> ?_⟩;subst ex eH;have ev:v'=v:=by have:=hx' vs (SqL.of hv');rw [e1] at this;exact(F4 this).symm
  subst ev;have k2:Kept H' (upd H' p (.tup [.int i,v'])):= .new hp;exact⟨k2,RelH.new rh hp,p,[.int i,v'],rfl,jh,_,_,rfl,rfl,_,_,rfl,e2.mono k2,rfl⟩
theorem Rr {ta:TAD}: ∀σ H R,LI K (iEL ta) σ H R->FH K (LA K ta) σ H R:=λσ H R ⟨rE,h,Rd,rs,rh,q,p⟩=>
 LA.bind rs rh q λds vs h1 H1 k1 rs1 rh1 r1 ⟨a,e,q1⟩=>by
  subst e;obtain⟨v,e,r2⟩:=jq r1;obtain⟨e',ws,hv⟩:=(show v= .ref a/\ ∃vs,H1 a=some (.lst vs) from r2);subst e';exact⟨a,e,⟨ws,SqL.of hv⟩,p _ _ _ _ k1 rh1 (Qf H1 a) q1⟩
end
section
variable {X:Cx}
theorem Rs {es:G0 S8}{k:G7}{tp:Pos}{a:S8}{ta:TAD}{p pos:Pos}(hg:Gl X "enumerate")(hm:X.mg "enumerate" =none)(ha:JA X [a] ta)(hs:D2 [a] X.env= [(false,L4 a X.env)]:=by rfl):
 JI X (.Tuple es k tp) (.Call (.Name "enumerate" p) [a] [] pos) (iEL ta):=⟨(Rq hg hm ha.to hs).imp Rr⟩
end
section
variable {n e f:G7}{M T U:G0 (G0 P3)}
theorem Ph (h:Sq n e T)(g:Sq n f U):je n (yf n T (je n U))=je n (yf n T U):=by
 rw [JU h (Sq.mark (n:=n) U),YU,<-JU h g]
end
def yV (d:D)(a b:P3):M6:=match d with
 | .int x=>decide (a<=x)&&decide (x<=b)
 |_=>false
def WP (d:D)(m:P3):M6:=match d with
 | .tup es=>es.all λx=>yV x 0 (m-1)
 |_=>false
end L2
set_option maxRecDepth 35000
namespace L2
open PySem PySem.Spec PyProof.Rows PySem.SeqAt
def OK (T:G0 (G0 P3))(n p:G7):G0 G7:=(G6 n).filter λj=>decide (ent T p j>0)
def cnt (T:G0 (G0 P3))(n o:G7):G7->G7->P3
 |0,p=>if p=o then 1 else 0
 |t+1,p=>((OK T n p).map (cnt T n o t)).sum
section
variable {T:G0 (G0 P3)}{n o:G7}
def EE (T:G0 (G0 P3))(n o t p:G7):G7:=(OK T n p).findIdx λj=>decide (cnt T n o t j>0)
def nxt (T:G0 (G0 P3))(n o t p:G7):G7:=(OK T n p).getD (EE T n o t p) 0
end
theorem Rt {α:Type}{xs:G0 α}{x:α}(h1:1<=xs.length)(h:xs[xs.length-1]? =some x):atI xs (-1)=some x:=by
 unfold atI ixN;rw [R7 (by decide),R0 (by omega)];show xs[(-1+(xs.length:P3)).toNat]? =_;rw [show (-1+(xs.length:P3)).toNat=xs.length-1 by omega];exact h
end L2
namespace L2
open PySem PySem.Spec PyProof.Rows PySem.W
abbrev TXD:=SD->HD->(Str->HD->Prop)->Prop
abbrev RDx:=G0 D->HD->(Str->HD->Prop)->Prop
end L2
namespace L2
open PySem PySem.Spec PyProof.Rows PySem.SeqAt
theorem vC {α:Type}{p q:α->M6}: ∀ {l:G0 α},(∀x∈l,p x=true->q x=true)->(∃x,x∈l/\p x=false/\q x=true)->l.countP p+1<=l.countP q
 | [],_,⟨_,hx,_⟩=>by cases hx
 |a::l,hm,⟨x,hx,h1,h2⟩=>by
  have hm': ∀x∈l,p x=true->q x=true:=λy hy=>hm y (R6 _ hy)
  have le:l.countP p<=l.countP q:=List.countP_mono_left hm';rw [kQ,kQ]
  by_cases z:x=a
  ·subst z;rw [h1,h2];simp;omega
  ·have hx':x∈l:=(S5.mp hx).resolve_left z;have:=vC hm' ⟨x,hx',h1,h2⟩
   by_cases w:p a=true
   ·rw [w,hm a P8 w];simp;omega
   ·rw [show p a=false by simpa using w];simp;omega
theorem NU {n:G7}(P:G7->G7->M6)(up: ∀m i,i<n->P m i=true->P (m+1) i=true)(st: ∀m,(∀i,i<n->P (m+1) i=P m i)-> ∀i,i<n->P (m+2) i=P (m+1) i)
 (M:G7)(hM: ∀m,M<=m-> ∀i,i<n->P m i=true)(ne: ∃i,i<n/\P 0 i=true): ∀i,i<n->P (n-1) i=true:=by
 have key: ∀m,(∀i,i<n->P m i=true)\/m+1<=(G6 n).countP (P m):=by
  intro m
  induction m with
  |zero=>
   obtain⟨i,hi,e⟩:=ne;exact .inr (gO.mpr ⟨i,P6.mpr hi,e⟩)
  |succ m ih=>
   rcases ih with ih|ih
   ·exact .inl λi hi=>up m i hi (ih i hi)
   ·by_cases eq: ∀i,i<n->P (m+1) i=P m i
    ·left;have go: ∀t i,i<n->P (m+t+1) i=P (m+t) i:=by
      intro t
      induction t with
      |zero=>exact eq
      |succ t iht=>exact st (m+t) iht
     have all: ∀t i,i<n->P (m+t) i=P m i:=by
      intro t
      induction t with
      |zero=>intro i _;rfl
      |succ t iht=>intro i hi;rw [<-iht i hi];exact go t i hi
     intro i hi;rw [eq i hi,<-all M i hi];exact hM (m+M) (by omega) i hi
    ·right;have ⟨i,hi⟩: ∃i,i<n/\P (m+1) i≠P m i:=B0 λw=>eq λi hi=>B0 λw2=>w ⟨i,hi,w2⟩
     have hf:P m i=false:=by
      cases hp:P m i with
      |false=>rfl
      |true=>exact absurd ((up m i hi.1 hp).trans hp.symm) hi.2
     have ht:P (m+1) i=true:=by
      cases hp:P (m+1) i with
      |true=>rfl
      |false=>exact absurd (hp.trans hf.symm) hi.2
     have:=vC (l:=G6 n) (p:=P m) (q:=P (m+1)) (λx hx=>up m x (P6.mp hx)) ⟨i,P6.mpr hi.1,hf,ht⟩;omega
 intro i hi;rcases key (n-1) with h|h
 ·exact h i hi
 ·have hle:(G6 n).countP (P (n-1))<=(G6 n).length:=fL;rw [D6] at hle;have:(G6 n).countP (P (n-1))=(G6 n).length:=by rw [D6];omega
  exact fM.mp this i (P6.mpr hi)
section
variable {n e:G7}{T:G0 (G0 P3)}
instance (k i j:G7):Decidable (RP n T k i j):=inferInstanceAs (Decidable (ent (zk n T k) i j≠0))
theorem Zx (h:Sq n e T)(hn:n<=8)(n2:2<=n){K:G7}(f: ∀i j,i<n->j<n->RP n T K i j)(f1: ∀i j,i<n->j<n->RP n T (K+1) i j): ∃s c,1<=s/\s<=n-1/\c<n/\RP n T s c c:=by
 refine B0 λz=> ?_
 have drop: ∀m i j,i<n->j<n->n<=m->RP n T m i j->RP n T (m-n) i j:=by
  intro m i j hi hj hm r;obtain⟨v,v0,vm,vl,vr⟩:=YW h hn m hi hj r;obtain⟨a,b,hab,hbn,eq⟩:=Mq (n:=n) (v:=v) λt ht=>vl t (by omega)
  have ha:=vl a (by omega);have p2:RP n T (b-a) (v a) (v a):=by
   have:=zx h hn vl vr a (b-a) (by omega);rw [show a+(b-a)=b by omega,<-eq] at this;exact this
  have hba:b-a=n:=by
   by_cases w:b-a<=n-1
   ·exact absurd ⟨b-a,v a,by omega,w,ha,p2⟩ z
   ·omega
  have a0:a=0:=by omega
  have bn:b=n:=by omega
  subst a0;subst bn;have p3:=zx h hn vl vr b (m-b) (by omega);rw [show b+(m-b)=m by omega,vm,<-eq,v0] at p3;exact p3
 have h0:0<n:=by omega
 have mod0: ∀m,RP n T m 0 0->m%n=0:=by
  intro m
  induction m using G7.strongRecOn with
  |_ m ih=>
   intro r
   by_cases w:m<n
   ·by_cases y:m=0
    ·subst y;exact Nat.zero_mod n
    ·exact absurd ⟨m,0,by omega,by omega,h0,r⟩ z
   ·rw [Nat.mod_eq_sub_mod (by omega)];exact ih (m-n) (by omega) (drop m 0 0 h0 h0 (by omega) r)
 have a:=bB (mod0 K (f 0 0 h0 h0));have b:=bB (mod0 (K+1) (f1 0 0 h0 h0));have c:=(iU a).mp b;have:=nN (by decide) c;omega
theorem EF (h:Sq n e T)(n1:1<=n)(h6:n<=6){K:G7}(hK:1<=K)(f:jF (zk n T K)=true): ∃k,1<=k/\k<=30/\jF (zk n T k)=true:=by
 have hn:n<=8:=by omega
 have all: ∀m,K<=m-> ∀i j,i<n->j<n->RP n T m i j:=λm hm=>by
  have:=Ud h hn (a:=K) (by omega) f (m-K);rw [show K+(m-K)=m by omega] at this;exact(vz (h.pow hn m)).mp this
 have pre: ∀j,j<n-> ∃k,k<n/\RP n T 1 k j:=λj hj=>by
  have:=all (K-1+1) (by omega) 0 j (by omega) hj;obtain⟨k,hk,_,r⟩:=(zj h hn (K-1) 1 (by omega) hj).mp this;exact⟨k,hk,r⟩
 have keep: ∀i m t,i<n->(∀j,j<n->RP n T m i j)-> ∀j,j<n->RP n T (m+t) i j:=by
  intro i m t hi r
  induction t with
  |zero=>exact r
  |succ t ih=>intro j hj;obtain⟨k,hk,r1⟩:=pre j hj;exact(zj h hn (m+t) 1 hi hj).mpr ⟨k,hk,ih k hk,r1⟩
 by_cases n2:2<=n
 ·obtain⟨s,c,s1,sn,hc,rc⟩:=Zx h hn n2 (all K (P0 _)) (all (K+1) (by omega));have e1: ∀m,s*(m+1)=s+s*m:=λm=>by rw [X5];omega
  have A:=NU (n:=n) (λm j=>decide (RP n T (s*m) c j)) (λm j hj r=>D7 (by rw [e1];exact(zj h hn s (s*m) hc hj).mpr ⟨c,hc,rc,N0 r⟩))
   (λm eq j hj=>by
    have key: ∀m,RP n T (s*(m+1)) c j↔ ∃k,k<n/\RP n T (s*m) c k/\RP n T s k j:=λm=>by rw [X5];exact zj h hn (s*m) s hc hj
    have eq2: ∀k,k<n->(RP n T (s*(m+1)) c k↔RP n T (s*m) c k):=λk hk=>by simpa using eq k hk
    have:RP n T (s*(m+1+1)) c j↔RP n T (s*(m+1)) c j:=by
     rw [key (m+1),key m];exact⟨λ⟨k,hk,a,b⟩=>⟨k,hk,(eq2 k hk).mp a,b⟩,λ⟨k,hk,a,b⟩=>⟨k,hk,(eq2 k hk).mpr a,b⟩⟩
    simpa using this) K (λm hm j hj=>D7 (all _ (S7 hm (bC m s1)) c j hc hj)) ⟨c,hc,D7 (by rw [oK];exact(zw hc hc).mpr rfl)⟩
  have any_iff: ∀m i,((G6 (m+1)).any (λt=>decide (RP n T t i c))=true)↔ ∃t,t<=m/\RP n T t i c:=λm i=>by
   rw [Z8];exact⟨λ⟨t,ht,r⟩=>⟨t,by have:=P6.mp ht;omega,N0 r⟩,λ⟨t,ht,r⟩=>⟨t,P6.mpr (by omega),D7 r⟩⟩
  have stp: ∀m i,i<n->((∃t,t<=m+1/\RP n T t i c)↔(i=c\/ ∃k,k<n/\RP n T 1 i k/\ ∃t,t<=m/\RP n T t k c)):=λm i hi=>by
   constructor
   ·rintro ⟨t,ht,r⟩;cases t with
    |zero=>exact .inl ((zw hi hc).mp r)
    |succ t=>
     rw [eU] at r;obtain⟨k,hk,a,b⟩:=(zj h hn 1 t hi hc).mp r;exact .inr ⟨k,hk,a,t,by omega,b⟩
   ·rintro (r|⟨k,hk,a,t,ht,b⟩)
    ·exact⟨0,by omega,(zw hi hc).mpr r⟩
    ·exact⟨1+t,by omega,(zj h hn 1 t hi hc).mpr ⟨k,hk,a,b⟩⟩
  have beq: ∀ {a b:M6},(a=true↔b=true)->a=b:=λ{a b} h=>by cases a<;>cases b<;>simp_all
  have B:=NU (n:=n) (λm i=>(G6 (m+1)).any (λt=>decide (RP n T t i c))) (λm i hi r=>by
   obtain⟨t,ht,r⟩:=(any_iff m i).mp r;exact(any_iff (m+1) i).mpr ⟨t,by omega,r⟩)
   (λm eq i hi=>beq (by
    have eq2: ∀k,k<n->((∃t,t<=m+1/\RP n T t k c)↔ ∃t,t<=m/\RP n T t k c):=λk hk=>by
     rw [<-any_iff (m+1) k,<-any_iff m k];have:=eq k hk;rw [this]
    rw [any_iff (m+2) i,any_iff (m+1) i,stp (m+1) i hi,stp m i hi];exact⟨λw=>w.elim .inl λ⟨k,hk,a,b⟩=> .inr ⟨k,hk,a,(eq2 k hk).mp b⟩,λw=>w.elim .inl λ⟨k,hk,a,b⟩=> .inr ⟨k,hk,a,(eq2 k hk).mpr b⟩⟩))
   K (λm hm i hi=>(any_iff m i).mpr ⟨K,hm,all K (P0 _) i c hi hc⟩) ⟨c,hc,(any_iff 0 c).mpr ⟨0,P0 _,(zw hc hc).mpr rfl⟩⟩
  refine⟨(n-1)+s*(n-1),by omega,?_,(vz (h.pow hn _)).mpr λi j hi hj=> ?_⟩
  ·have a:=cN (show s<=5 by omega) (show n-1<=5 by omega);omega
  ·obtain⟨t,ht,r⟩:=(any_iff (n-1) i).mp (B i hi);have row: ∀j,j<n->RP n T (t+s*(n-1)) i j:=λj hj=>(zj h hn t (s*(n-1)) hi hj).mpr ⟨c,hc,r,N0 (A j hj)⟩
   have:=keep i (t+s*(n-1)) (n-1-t) hi row j hj;rw [show t+s*(n-1)+(n-1-t)=n-1+s*(n-1) by omega] at this;exact this
 ·have hn1:n=1:=by omega
  refine⟨1,P0 _,by decide,(vz (h.pow hn 1)).mpr λi j hi hj=> ?_⟩;obtain⟨k,hk,r⟩:=pre j hj;rw [show i=k by omega];exact r
end
section
variable {n e:G7}{T:G0 (G0 P3)}
theorem yW (h:Sq n e T)(hn:n<=8){a b i j k:G7}(hi:i<n)(hk:k<n)(hj:j<n)(x:RP n T a i k)(y:RP n T b k j):RP n T (a+b) i j:=(zj h hn a b hi hj).mpr ⟨k,hk,x,y⟩
theorem Uh (h:Sq n e T)(hn:n<=8){k:G7}:jF (zk n T k)=true↔ ∀i j,i<n->j<n->RP n T k i j:=vz (h.pow hn k)
theorem Pi (h:Sq n e T)(hn:n<=8){i j:G7}:RP n T 1 i j↔ent T i j≠0:=by unfold RP;rw [GU h hn]
end
theorem FI {n:G7}(P:G7->G7->M6)(up: ∀m i,i<n->P m i=true->P (m+1) i=true)(st: ∀m,(∀i,i<n->P (m+1) i=P m i)-> ∀i,i<n->P (m+2) i=P (m+1) i)
 (M:G7)(hM: ∀m,M<=m-> ∀i,i<n->P m i=true){s:G7}(c0:s<=(G6 n).countP (P 0)): ∀i,i<n->P (n-s) i=true:=by
 have key: ∀m,(∀i,i<n->P m i=true)\/m+s<=(G6 n).countP (P m):=by
  intro m
  induction m with
  |zero=>exact .inr (by omega)
  |succ m ih=>
   rcases ih with ih|ih
   ·exact .inl λi hi=>up m i hi (ih i hi)
   ·by_cases eq: ∀i,i<n->P (m+1) i=P m i
    ·left;have go: ∀t i,i<n->P (m+t+1) i=P (m+t) i:=by
      intro t
      induction t with
      |zero=>exact eq
      |succ t iht=>exact st (m+t) iht
     have all: ∀t i,i<n->P (m+t) i=P m i:=by
      intro t
      induction t with
      |zero=>intro i _;rfl
      |succ t iht=>intro i hi;rw [<-iht i hi];exact go t i hi
     intro i hi;rw [eq i hi,<-all M i hi];exact hM (m+M) (by omega) i hi
    ·right;have ⟨i,hi⟩: ∃i,i<n/\P (m+1) i≠P m i:=B0 λw=>eq λi hi=>B0 λw2=>w ⟨i,hi,w2⟩
     have hf:P m i=false:=by
      cases hp:P m i with
      |false=>rfl
      |true=>exact absurd ((up m i hi.1 hp).trans hp.symm) hi.2
     have ht:P (m+1) i=true:=by
      cases hp:P (m+1) i with
      |true=>rfl
      |false=>exact absurd (hp.trans hf.symm) hi.2
     have:=vC (l:=G6 n) (p:=P m) (q:=P (m+1)) (λx hx=>up m x (P6.mp hx)) ⟨i,P6.mpr hi.1,hf,ht⟩;omega
 have hle: ∀m,(G6 n).countP (P m)<=n:=λm=>by
  have:(G6 n).countP (P m)<=(G6 n).length:=fL
  rwa [D6] at this
 have:=hle 0;intro i hi;rcases key (n-s) with h|h
 ·exact h i hi
 ·have hl:=hle (n-s);have:(G6 n).countP (P (n-s))=(G6 n).length:=by rw [D6];omega
  exact fM.mp this i (P6.mpr hi)
theorem YY {n:G7}: ∀ {vs:G0 G7},vs.Nodup->(∀v∈vs,v<n)->vs.length<=(G6 n).countP λi=>decide (i∈vs)
 | [],_,_=>B4 _
 |v::vs,nd,lt=>by
  rw [L7] at nd;have ih:=YY (n:=n) nd.2 λw hw=>lt w (R6 _ hw)
  have:=vC (l:=G6 n) (p:=λi=>decide (i∈vs)) (q:=λi=>decide (i∈v::vs)) (λx _ hx=>D7 (R6 _ (N0 hx))) ⟨v,P6.mpr (lt v P8),T1 nd.1,D7 P8⟩;rw [S4];omega
section
variable {n e:G7}{T:G0 (G0 P3)}
theorem bEq {a b:M6}(h:a=true↔b=true):a=b:=by cases a<;>cases b<;>simp_all
theorem Pj (h:Sq n e T)(hn:n<=8){K:G7}(all: ∀m,K<=m-> ∀i j,i<n->j<n->RP n T m i j){s c:G7}(s1:1<=s)(hc:c<n)(rc:RP n T s c c): ∀j,j<n->RP n T (s*(n-1)) c j:=by
 have e1: ∀m,s*(m+1)=s+s*m:=λm=>by rw [X5];omega
 have A:=NU (n:=n) (λm j=>decide (RP n T (s*m) c j)) (λm j hj r=>D7 (by rw [e1];exact(zj h hn s (s*m) hc hj).mpr ⟨c,hc,rc,N0 r⟩))
  (λm eq j hj=>by
   have key: ∀m,RP n T (s*(m+1)) c j↔ ∃k,k<n/\RP n T (s*m) c k/\RP n T s k j:=λm=>by rw [X5];exact zj h hn (s*m) s hc hj
   have eq2: ∀k,k<n->(RP n T (s*(m+1)) c k↔RP n T (s*m) c k):=λk hk=>by simpa using eq k hk
   have:RP n T (s*(m+1+1)) c j↔RP n T (s*(m+1)) c j:=by
    rw [key (m+1),key m];exact⟨λ⟨k,hk,a,b⟩=>⟨k,hk,(eq2 k hk).mp a,b⟩,λ⟨k,hk,a,b⟩=>⟨k,hk,(eq2 k hk).mpr a,b⟩⟩
   simpa using this) K (λm hm j hj=>D7 (all _ (S7 hm (bC m s1)) c j hc hj)) ⟨c,hc,D7 (by rw [oK];exact(zw hc hc).mpr rfl)⟩
 exact λj hj=>N0 (A j hj)
theorem NV (h:Sq n e T)(hn:n<=8){K:G7}(all: ∀m,K<=m-> ∀i j,i<n->j<n->RP n T m i j)(S:G7->M6){s:G7}(s1:1<=s)(c0:s<=(G6 n).countP S): ∀i,i<n-> ∃t c,t<=n-s/\c<n/\S c=true/\RP n T t i c:=by
 classical
 have exS: ∃c,c<n/\S c=true:=by
  obtain⟨c,hc,e⟩:=gO.mp (show 0<(G6 n).countP S by omega);exact⟨c,P6.mp hc,e⟩
 obtain⟨sD,sE,sH⟩:=exS
 let R:G7->G7->Prop:=λm i=> ∃t c,t<=m/\c<n/\S c=true/\RP n T t i c
 have stp: ∀m i,i<n->(R (m+1) i↔(S i=true\/ ∃k,k<n/\RP n T 1 i k/\R m k)):=λm i hi=>by
  constructor
  ·rintro ⟨t,c,ht,hc,ec,r⟩;cases t with
   |zero=>rw [(zw hi hc).mp r];exact .inl ec
   |succ t=>
    rw [eU] at r;obtain⟨k,hk,a,b⟩:=(zj h hn 1 t hi hc).mp r;exact .inr ⟨k,hk,a,t,c,by omega,hc,ec,b⟩
  ·rintro (r|⟨k,hk,a,t,c,ht,hc,ec,b⟩)
   ·exact⟨0,i,by omega,hi,r,(zw hi hi).mpr rfl⟩
   ·exact⟨1+t,c,by omega,hc,ec,(zj h hn 1 t hi hc).mpr ⟨k,hk,a,b⟩⟩
 have A:=FI (n:=n) (s:=s) (λm i=>decide (R m i)) (λm i hi r=>by
  have r:=N0 r;obtain⟨t,c,ht,x⟩:=r;exact D7 ⟨t,c,by omega,x⟩) (λm eq i hi=>bEq (by
  rw [U2,U2,stp (m+1) i hi,stp m i hi];have eq2: ∀k,k<n->(R (m+1) k↔R m k):=λk hk=>by
   have:=eq k hk;rw [J1,U2,U2] at this;exact this
  exact⟨λz=>z.imp id λ⟨k,hk,a,b⟩=>⟨k,hk,a,(eq2 k hk).mp b⟩,λz=>z.imp id λ⟨k,hk,a,b⟩=>⟨k,hk,a,(eq2 k hk).mpr b⟩⟩)) K (λm hm i hi=>D7 ⟨m,sD,P0 _,sE,sH,all m hm i sD hi sE⟩) (by
  have e:(G6 n).countP (λi=>decide (R 0 i))=(G6 n).countP S:=List.countP_congr λi hi=>by
   have hi:=P6.mp hi;rw [U2];constructor
   ·rintro ⟨t,c,ht,hc,ec,r⟩;rw [show t=0 by omega] at r;rw [(zw hi hc).mp r];exact ec
   ·exact λr=>⟨0,i,P0 _,hi,r,(zw hi hi).mpr rfl⟩
  rw [e];exact c0)
 exact λi hi=>N0 (A i hi)
theorem NW (h:Sq n e T)(hn:n<=8){K:G7}(all: ∀m,K<=m-> ∀i j,i<n->j<n->RP n T m i j)(S:G7->M6){s q:G7}(s1:1<=s)(q1:1<=q)(c0:s<=(G6 n).countP S)(rd: ∀c,c<n->S c=true->RP n T q c c)(on: ∀c,c<n->S c=true-> ∃d,d<n/\S d=true/\RP n T 1 c d):
 jF (zk n T (n-s+q*(n-1)))=true:=(Uh h hn).mpr λi j hi hj=>by
 obtain⟨t,c,ht,hc,ec,r⟩:=NV h hn all S s1 c0 i hi;have stay: ∀d,∃c',c'<n/\S c'=true/\RP n T (t+d) i c':=by
  intro d
  induction d with
  |zero=>exact⟨c,hc,ec,r⟩
  |succ d ih=>
   obtain⟨c',hc',ec',r'⟩:=ih;obtain⟨d',hd',ed',rd'⟩:=on c' hc' ec';exact⟨d',hd',ed',yW (a:=t+d) (b:=1) h hn hi hc' hd' r' rd'⟩
 obtain⟨c',hc',ec',r'⟩:=stay (n-s-t);rw [show t+(n-s-t)=n-s by omega] at r';exact yW h hn hi hc' hj r' (Pj h hn all q1 hc' (rd c' hc' ec') j hj)
theorem Pk (h:Sq n e T)(hn:n<=8)(n2:2<=n){K:G7}(all: ∀m,K<=m-> ∀i j,i<n->j<n->RP n T m i j): ∃m,1<=m/\m<=(n-1)*(n-1)+1/\jF (zk n T m)=true:=by
 obtain⟨s0,c0,s01,s0n,hc0,rc0⟩:=Zx h hn n2 (all K (P0 _)) (all (K+1) (by omega));have least: ∀s,(1<=s/\s<=n-1/\ ∃c,c<n/\RP n T s c c)-> ∃s c,1<=s/\s<=n-1/\c<n/\RP n T s c c/\ ∀t d,1<=t->t<s->d<n-> ¬RP n T t d d:=by
  intro s
  induction s using G7.strongRecOn with
  |_ s ih=>
   rintro ⟨s1,sn,c,hc,rc⟩
   by_cases z: ∃t d,1<=t/\t<s/\d<n/\RP n T t d d
   ·obtain⟨t,d,t1,ts,hd,rd⟩:=z;exact ih t ts ⟨t1,by omega,d,hd,rd⟩
   ·exact⟨s,c,s1,sn,hc,rc,λt d t1 ts hd rd=>z ⟨t,d,t1,ts,hd,rd⟩⟩
 obtain⟨s,c,s1,sn,hc,rc,mn⟩:=least s0 ⟨s01,s0n,c0,hc0,rc0⟩;obtain⟨v,v0,vs,vl,vr⟩:=YW h hn s hc hc rc;have nd:((G6 s).map v).Nodup:=by
  unfold cO;rw [A2,C1];intro a b ha hb hab;rw [D6] at ha hb;rw [O5,O5];intro ev;have:=zx h hn vl vr a (b-a) (by omega);rw [show a+(b-a)=b by omega,<-ev] at this;exact mn (b-a) (v a) (by omega) (by omega) (vl a (by omega)) this
 have cn:=YY (n:=n) nd (λx hx=>by obtain⟨t,ht,rfl⟩:=R1.mp hx;exact vl t (by have:=P6.mp ht;omega));rw [G3,D6] at cn;have mem: ∀x,decide (x∈(G6 s).map v)=true↔ ∃t,t<s/\v t=x:=λx=>by
  rw [U2,R1];exact⟨λ⟨t,ht,e⟩=>⟨t,P6.mp ht,e⟩,λ⟨t,ht,e⟩=>⟨t,P6.mpr ht,e⟩⟩
 have F:=NW h hn all (λx=>decide (x∈(G6 s).map v)) s1 s1 cn (λx hx ex=>by
  obtain⟨t,ht,rfl⟩:=(mem x).mp ex;have a:=zx h hn vl vr t (s-t) (by omega);rw [show t+(s-t)=s by omega,vs,<-v0] at a;have b:=zx h hn vl vr 0 t (by omega);rw [V5] at b;have:=yW h hn (vl t (by omega)) (vl 0 (by omega)) (vl t (by omega)) a b
  rwa [show s-t+t=s by omega] at this) (λx hx ex=>by
  obtain⟨t,ht,rfl⟩:=(mem x).mp ex
  by_cases z:t+1<s
  ·exact⟨v (t+1),vl _ (by omega),(mem _).mpr ⟨t+1,z,rfl⟩,vr t ht⟩
  ·refine⟨v 0,vl _ (by omega),(mem _).mpr ⟨0,by omega,rfl⟩,?_⟩;have:=vr t ht
   rwa [show t+1=s by omega,vs,<-v0] at this)
 refine⟨n-s+s*(n-1),by omega,?_,F⟩;obtain⟨a,rfl⟩: ∃a,n=a+2:=⟨n-2,by omega⟩;have x1:s*(a+2-1)=s*a+s:=by rw [show a+2-1=a+1 by omega,X5]
 have x2:(a+2-1)*(a+2-1)=(a+1)*a+(a+1):=by rw [show a+2-1=a+1 by omega,X5]
 have x3:s*a<=(a+1)*a:=Nat.mul_le_mul_right a (by omega);rw [x1,x2];omega
end
end L2
namespace HT
open PySem PySem.Spec PyProof.Rows
variable {j:G7}
theorem WQ {xs:M2 G7}(r:xs.toList.Pairwise (· < ·)): ∀ (fuel lo hi:G7),hi-lo<=fuel->hi<=xs.size->lo<=hi->(∀i,i<lo-> ∀v,xs[i]? =some v->v<j)->(∀i,hi<=i-> ∀v,xs[i]? =some v->j<=v)->
 (∀i,i<bD xs j fuel lo hi-> ∀v,xs[i]? =some v->v<j)/\(∀i,bD xs j fuel lo hi<=i-> ∀v,xs[i]? =some v->j<=v)/\bD xs j fuel lo hi<=xs.size
 |0,lo,hi,f,hs,lh,a,b=>by
  have:lo=hi:=by omega
  subst this;exact⟨a,b,hs⟩
 |fuel+1,lo,hi,f,hs,lh,a,b=>by
  unfold bD
  by_cases c:lo<hi
  ·rw [R0 c];have hm:(lo+hi) / 2<xs.size:=by omega
   have mono: ∀ (i k u v:G7),i<=k->xs[i]? =some u->xs[k]? =some v->u<=v:=λi k u v ik e1 e2=>by
    rcases L0 i k with z|z
    ·have i1:=(F8.mp e1);have i2:=(F8.mp e2);obtain⟨h1,e1'⟩:=i1;obtain⟨h2,e2'⟩:=i2;have:=C1.mp r i k (by simpa using h1) (by simpa using h2) z;simp only [Y9] at this;omega
    ·have:i=k:=by omega
     subst this;rw [e1] at e2;cases e2;exact P0 _
   have em:xs.getD ((lo+hi) / 2) j=xs[(lo+hi) / 2]:=by simp [mN,hm]
   dsimp only
   by_cases d:xs.getD ((lo+hi) / 2) j<j
   ·rw [R0 d];refine WQ r fuel _ hi (by omega) hs (by omega) (λi hi' v hv=> ?_) b;have:=mono i ((lo+hi) / 2) v xs[(lo+hi) / 2] (by omega) hv (by simp [hm]);omega
   ·rw [R7 d];refine WQ r fuel lo _ (by omega) (by omega) (by omega) a (λi hi' v hv=> ?_);have:=mono ((lo+hi) / 2) i xs[(lo+hi) / 2] v hi' (by simp [hm]) hv;omega
  ·rw [R7 c];have:lo=hi:=by omega
   subst this;exact⟨a,b,hs⟩
theorem vD {xs:M2 G7}(r:xs.toList.Pairwise (· < ·))(j:G7):(∀i,i<R9 xs j-> ∀v,xs[i]? =some v->v<j)/\(∀i,R9 xs j<=i-> ∀v,xs[i]? =some v->j<=v)/\R9 xs j<=xs.size:=
 WQ r xs.size 0 xs.size (by omega) (P0 _) (B4 _) (λi h=>absurd h (J5 _)) (λi h v e=>by rw [eY h] at e;cases e)
theorem Ui {xs:M2 G7}(r:xs.toList.Pairwise (· < ·))(no:xs[R9 xs j]? ≠some j):(E8 xs (R9 xs j) j).toList.Pairwise (· < ·):=by
 obtain⟨a,b,hs⟩:=vD r j;rw [aN,List.pairwise_append,List.pairwise_cons];have low: ∀v∈xs.toList.take (R9 xs j),v<j:=λv hv=>by
  obtain⟨i,hi⟩:=Z0 hv;rw [iA] at hi;split at hi
  ·rename_i c;exact a i c v (by simpa using hi)
  ·cases hi
 have high: ∀v∈xs.toList.drop (R9 xs j),j<v:=λv hv=>by
  obtain⟨i,hi⟩:=Z0 hv;rw [cP] at hi;have hi':xs[R9 xs j+i]? =some v:=by simpa using hi
  have le:=b _ (kS _ _) v hi';rcases L0 j v with z|z
  ·exact z
  ·have ev:v=j:=by omega
   subst ev;cases i with
   |zero=>exact(no hi').elim
   |succ i=>
    obtain⟨h1,e1⟩:=F8.mp hi';have h0:R9 xs v<xs.size:=by omega
    have le0:=b _ (P0 _) xs[R9 xs v] (by simp [h0]);have lt:=C1.mp r (R9 xs v) (R9 xs v+(i+1)) (by simpa using h0) (by simpa using h1) (by omega);simp only [Y9] at lt;omega
 exact⟨r.sublist (iI _ _),⟨high,r.sublist (List.drop_sublist _ _)⟩,λu hu v hv=>by
  rcases S5.mp hv with e|e
  ·rw [e];exact low u hu
  ·exact O2 (low u hu) (high v e)⟩
structure Tab (L:M6)(n:G7)(t:S6):Prop where
 fits:t.fits n=true
 led:t.led=L
 dum:t.dummies= #[]
 rise:t.plain=true\/n<=1->t.place.toList.Pairwise (· < ·)
theorem Qg {t:S6}{n:G7}(h:t.fits n=true):t.place.size=n:=by
 simp only [nO,C3,beq_iff_eq] at h;exact h.1
theorem Qh {t:S6}(h:t.slot j= .empty):t.place[R9 t.place j]? ≠some j:=λe=>by
 unfold dJ at h;dsimp only at h;rw [R0 (by rw [e];exact Q7 _)] at h;cases h
theorem Wl {t:S6}(d:t.dummies= #[]):t.slot j≠ .dummy:=λh=>by
 unfold dJ at h;dsimp only at h;split at h
 ·cases h
 ·rw [d] at h;have:eZ #[] j=false:=by unfold eZ;simp
  rw [this] at h;cases h
theorem WR (f:G7->D0 G7): ∀l:G0 G7,((l.filterMap λj=>(f j).map (j,·)).map (·.1)).Sublist l
 | []=> .slnil
 |j::l=>by
  rw [aF];cases e:(f j).map (j,·) with
  |none=>exact(WR f l).cons _
  |some q=>
   obtain⟨v,_,rfl⟩:=N9.mp e;exact(WR f l).cons₂ _
abbrev wV (es:M2 (P3×G1))(ep:G7)(t:S6):Obj:= {cls:= .type "set",dict:=none,data:= .set es ep t,slots:= #[]}
def AA (e:P3×G1):P3:=match e.2 with
 | .int n _=>n
 |_=>0
structure SetI (L:M6)(es:M2 (P3×G1))(t:S6)(ns:G0 P3):Prop where
 tab:Tab L es.size t
 nums: ∀e∈es.toList,∃n tk,e=(qC n,.int n tk)
 nd:(es.toList.map AA).Nodup
 mem: ∀n,n∈es.toList.map AA↔n∈ns
theorem Zy:plainId "set.update.loop" =true:=by decide +kernel
theorem YZ:iV table "set.update.loop" =some Builtin.«set.update.loop» :=kT (by kernel_rfl)
theorem ZP:iV table "set.__init__" =some Builtin.«set.__init__» :=kT (by kernel_rfl)
abbrev wu (w:N2):M6:= !(w.params.followText "set-order")
theorem Ru (L:M6):SetI L #[] (.fresh 0 0 L) []:=⟨⟨rfl,rfl,rfl,λ_=> .nil⟩,λe he=>by simp at he,by simp,λn=>by simp⟩
theorem yX:gK (.type "set") (.type "set")=pure true:=by rw [W9];kernel_rfl
theorem Va:gK (.type "list") (.type "set")=pure false:=by rw [W9];kernel_rfl
theorem Vb:gK (.type "list") (.type "frozenset")=pure false:=by rw [W9];kernel_rfl
theorem Uj:gK (.type "tuple") (.type "set")=pure false:=by rw [W9];kernel_rfl
theorem Uk:gK (.type "tuple") (.type "frozenset")=pure false:=by rw [W9];kernel_rfl
section
variable {prog:S9}{w:N2}{A:T9}{E:G1->G2->Prop}{s:G2}
theorem Rv {x:G1}{P:aX->G2->Prop}(h:P (.done (.ret (.ref s.heap.objs.size))) {s with heap:=s.heap.push (wV #[] 0 (.fresh 0 0 (wu w)))}):
 R4 (R5 prog w) A (Builtin.«set.__new__» ⟨[.type "set",x],[]⟩) P E s:=by
 have fine:=yX;obtain⟨hp,g,d,tk,os⟩:=s;have told: ∀ {Q:iW->G2->Prop} {E':G1->G2->Prop} {A':T9} {s':G2},Q ⟨prog,w.params⟩ s'->R4 (R5 prog w) A' ask Q E' s':=λq=>J9 q
 wp_walk using told
 exact h
theorem WS {M:k5}{o x:G1}{Q:Unit->G2->Prop}(ty:s.TypeIs o "set")(q:Q () s):R4 M A (dU "set.__init__" ⟨[o,x],[]⟩) Q E s:=by
 have fine:=yX;unfold dU;rw [kind_set_init,split_set_init,sig_set_init]
 wp_walk using mX (n:= "set") (by decide),mY (self:=o) rfl ty
 exact q
end
theorem slot_si_next:Slot "set_iterator" "__next__" "set_iterator.__next__" :=
 .of (owner:= "set_iterator") (n:= "__next__") (by rw [lQ,fN];kernel_rfl) (by decide +kernel) (by decide +kernel) (by decide +kernel) (.inl (by kernel_rfl)) (by rw [W9];kernel_rfl)
theorem WT:iV table "set_iterator.__next__" =some Builtin.«set_iterator.__next__» :=entryFor_of_tree (by kernel_rfl)
theorem Vc (a:G1):p9 "set_iterator.__next__" ⟨[a],[]⟩:=by unfold p9;kernel_rfl
theorem ZQ:iV table "set.__iter__" =some Builtin.«frozenset.__iter__» :=mO (id':= "frozenset.__iter__") (by kernel_rfl) rfl (by decide +kernel) (by kernel_rfl)
abbrev itO (first:G1)(i:G7)(a:P1)(n ep:G7):Obj:= {cls:= .type "set_iterator",data:= .fields #[first,O8 i,.ref a,O8 n,O8 ep]}
inductive Mode (w:N2)(a:P1)(es:M2 (P3×G1))(ep:G7)(t:S6):G0 G1->(G1->G7->B3->Prop)->P1->Prop
 |text (b:w.params.followText "set-order" =true):Mode w a es ep t ((pickOrder (w.params.setOrder a ep) es).toList.map (·.2)) (λf _ _=>f=O8 0) a
 |drawn (b:w.params.followText "set-order" =false) (d:t.plain=false) (two:1<es.size) (ord:G0 G7) (p:ord.Perm (G6 es.size)) (tp:P1):
  Mode w a es ep t (ord.map λj=>(es.getD j (0,.none)).2) (λf _ h=>f= .ref tp/\h.IsTuple tp (ord.map λj=>O8 (j:G7)).toArray) tp
 |table (b:w.params.followText "set-order" =false) (d:t.plain=true\/es.size<=1):Mode w a es ep t (es.toList.map (·.2)) (λf i _=> ∃slot:G7,f=O8 slot/\R9 t.place slot=i) a
section
variable {prog:S9}{w:N2}{A:T9}{E:G1->G2->Prop}{s:G2}{a I tp:P1}{es:M2 (P3×G1)}{ep n i:G7}{t:S6}{ns:G0 P3}{first:G1}
theorem Pl {Q:G1->G2->Prop}(S:Tab (wu w) es.size t)(b:w.params.followText "set-order" =true)(ha:s.heap.get? a=some (wV es ep t))(hI:s.heap.get? I=some (itO (O8 0) i a es.size ep))(aI:a≠I)
 {x:G1}(hx:((pickOrder (w.params.setOrder a ep) es).toList.map (·.2))[i]? =some x)(q: ∀h',h'.get? I=some (itO (O8 0) (i+1) a es.size ep)->O0 I s.heap h'->Q x {s with heap:=h'}):
 R4 (R5 prog w) A (Builtin.«set_iterator.__next__» ⟨[.ref I],[]⟩) (λfin s'=> ∃v,fin= .done (.ret v)/\Q v s') E s:=by
 have told: ∀ {Q:iW->G2->Prop} {E':G1->G2->Prop} {A':T9} {s':G2},Q ⟨prog,w.params⟩ s'->R4 (R5 prog w) A' ask Q E' s':=λq=>J9 q
 have state:=λ{P:M2 (P3×G1)×G7×S6->G2->Prop} {E':G1->G2->Prop} {A':T9}=>C8 (prog:=prog) (w:=w) (A:=A') (E:=E') (Q:=P) (s:=s) ha rfl S.fits
 obtain⟨hp,g,d,tk,os⟩:=s;rw [P4] at hx;obtain⟨⟨k,x'⟩,hx1,rfl⟩:=N9.mp hx;have hx':(pickOrder (w.params.setOrder a ep) es)[((i:G7):P3).toNat]? =some (k,x'):=by rw [V6,<-N5];exact hx1
 have z1:=N4 (bR λv=>v.setIfInBounds 0 (O8 ((n4 0:G7):P3))) hI rfl;have z2:=N4 (bR λv=>v.setIfInBounds 1 (O8 ((i:P3)+1))) z1 rfl;have fin:=q _ z2 ((F3 ..).trans (F3 ..))
 wp_walk using state,told
 rw [hx']
 wp_walk
 exact⟨_,rfl,fin⟩
theorem Qi {Q:G1->G2->Prop}{ord:G0 G7}(S:Tab (wu w) es.size t)(ha:s.heap.get? a=some (wV es ep t))(hI:s.heap.get? I=some (itO (.ref tp) i a es.size ep))(aI:a≠I)(ht:s.heap.IsTuple tp (ord.map λj=>O8 (j:G7)).toArray)(p:ord.Perm (G6 es.size))
 {x:G1}(hx:(ord.map λj=>(es.getD j (0,.none)).2)[i]? =some x)(q: ∀h',h'.get? I=some (itO (.ref tp) (i+1) a es.size ep)->O0 I s.heap h'->Q x {s with heap:=h'}):
 R4 (R5 prog w) A (Builtin.«set_iterator.__next__» ⟨[.ref I],[]⟩) (λfin s'=> ∃v,fin= .done (.ret v)/\Q v s') E s:=by
 have state:=λ{P:M2 (P3×G1)×G7×S6->G2->Prop} {E':G1->G2->Prop} {A':T9}=>C8 (prog:=prog) (w:=w) (A:=A') (E:=E') (Q:=P) (s:=s) ha rfl S.fits
 obtain⟨⟨oc,od,odt,osl⟩,hol,hc,c,hd⟩:=ht;simp only at hc hd;subst hc hd;obtain⟨hp,g,d,tk,os⟩:=s;rw [P4] at hx;obtain⟨j,hj,rfl⟩:=N9.mp hx;have jlt:j<es.size:=P6.mp (p.mem_iff.mp (S0 hj));have hj':((ord.map λj=>O8 (j:G7)).toArray)[((i:G7):P3).toNat]? =some (O8 (j:G7)):=by simp [hj]
 have ej:es[((j:G7):P3).toNat]? =some (es.getD j (0,.none)):=by simp [jlt,mN]
 have z1:=N4 (bR λv=>v.setIfInBounds 1 (O8 ((i:P3)+1))) hI rfl;have fin:=q _ z1 (F3 ..)
 wp_walk using state
 rw [hj'];show R4 _ _ (setNextDrawn a ((j:G7):P3).toNat ((ep:G7):P3).toNat >>= _) _ _ _
 wp_walk using state
 rw [ej]
 wp_walk
 exact⟨_,rfl,fin⟩
theorem Qj {Q:G1->G2->Prop}{slot:G7}(S:Tab (wu w) es.size t)(b:w.params.followText "set-order" =false)(pl:t.plain=true\/es.size<=1)(ha:s.heap.get? a=some (wV es ep t))(hI:s.heap.get? I=some (itO (O8 slot) i a es.size ep))(aI:a≠I)(hs:R9 t.place slot=i)
 {x:G1}(hx:(es.toList.map (·.2))[i]? =some x)(q: ∀h' (slot':G7),R9 t.place slot'=i+1->h'.get? I=some (itO (O8 slot') (i+1) a es.size ep)->O0 I s.heap h'->Q x {s with heap:=h'}):
 R4 (R5 prog w) A (Builtin.«set_iterator.__next__» ⟨[.ref I],[]⟩) (λfin s'=> ∃v,fin= .done (.ret v)/\Q v s') E s:=by
 have told: ∀ {Q:iW->G2->Prop} {E':G1->G2->Prop} {A':T9} {s':G2},Q ⟨prog,w.params⟩ s'->R4 (R5 prog w) A' ask Q E' s':=λq=>J9 q
 have state:=λ{P:M2 (P3×G1)×G7×S6->G2->Prop} {E':G1->G2->Prop} {A':T9}=>C8 (prog:=prog) (w:=w) (A:=A') (E:=E') (Q:=P) (s:=s) ha rfl S.fits
 have led:t.led=true:=by rw [S.led];show (!(w.params.followText "set-order"))=true;rw [b];rfl
 have nd:(!t.plain&&decide (es.size>1))=false:=by
  rcases pl with z|z
  ·rw [z];rfl
  ·rw [T1 (by omega),bE]
 obtain⟨hp,g,d,tk,os⟩:=s;rw [P4] at hx;obtain⟨⟨k,x'⟩,hx1,rfl⟩:=N9.mp hx;have lt:i<es.size:=by have:=(D3.mp hx1).1;simpa using this
 have ps:=Qg S.fits;have ltp:i<t.place.size:=by omega
 have ex:es[i]? =some (k,x'):=by rw [<-N5];exact hx1
 have ep':t.place[i]? =some t.place[i]:=by simp [ltp]
 have rise:=S.rise pl;have next:R9 t.place (t.place[i]+1)=i+1:=by
  obtain⟨b1,b2,b3⟩:=vD rise (t.place[i]+1);have mono:=λ(u v:G7) (hu:u<t.place.size) (hv:v<t.place.size) (uv:u<v)=>C1.mp rise u v (by simpa using hu) (by simpa using hv) uv
  simp only [Y9] at mono;rcases Y4 (R9 t.place (t.place[i]+1)) (i+1) with z|z|z
  ·have:=b2 i (by omega) _ ep';omega
  ·exact z
  ·have h1:i+1<t.place.size:=by omega
   have:=b1 (i+1) z _ (by simp [h1]:t.place[i+1]? =some t.place[i+1]);have:=mono i (i+1) ltp h1 (by omega);omega
 have z1:=N4 (bR λv=>v.setIfInBounds 0 (O8 ((t.place[i]+1:G7):P3))) hI rfl;have z2:=N4 (bR λv=>v.setIfInBounds 1 (O8 ((i:P3)+1))) z1 rfl;have fin:=q _ _ next z2 ((F3 ..).trans (F3 ..))
 wp_walk using state,told
 split
 ·rename_i z;have z':(!t.plain&&decide (es.size>1))=true:=z;rw [nd] at z';cases z'
 wp_walk
 rw [show ((slot:G7):P3).toNat=slot from V6 _,hs,ex,ep']
 wp_walk
 exact⟨_,rfl,fin⟩
theorem Qk {vals:G0 G1}{md:G1->G7->B3->Prop}{Q:aX->G2->Prop}(calm:A.handled=none)(S:Tab (wu w) es.size t)(M:Mode w a es ep t vals md tp)(ha:s.heap.get? a=some (wV es ep t))(hI:s.heap.get? I=some (itO first i a es.size ep))(aI:a≠I)(hm:md first i s.heap)(hx:vals[i]? =none)
 (q: ∀h' e,(∀b o,b≠I->s.heap.get? b=some o->h'.get? b=some o)->(∃o,h'.get? e=some o/\o.cls= .type "StopIteration")->E (.ref e) {s with heap:=h'}):
 R4 (R5 prog w) A (Builtin.«set_iterator.__next__» ⟨[.ref I],[]⟩) Q E s:=by
 have told: ∀ {Q:iW->G2->Prop} {E':G1->G2->Prop} {A':T9} {s':G2},Q ⟨prog,w.params⟩ s'->R4 (R5 prog w) A' ask Q E' s':=λq=>J9 q
 have state:=λ{P:M2 (P3×G1)×G7×S6->G2->Prop} {E':G1->G2->Prop} {A':T9}=>C8 (prog:=prog) (w:=w) (A:=A') (E:=E') (Q:=P) (s:=s) ha rfl S.fits
 have stop:=λ{h1:B3} {Q':aX->G2->Prop} (same:O0 I s.heap h1)=>L2.Ue (prog:=prog) (w:=w) (A:=A) (E:=E) (s:= {s with heap:=h1}) (Q:=Q') calm λh' e grown st=>q h' e (λb o nb x=>grown b o (same.extBut b o nb x)) st
 obtain⟨hp,g,d,tk,os⟩:=s;have put: ∀ {P:Unit->G2->Prop} {E':G1->G2->Prop} {k:G7} {v:G1} {h1:B3},k<5->O0 I hp h1->(∃fs:M2 G1,fs.size=5/\h1.get? I=some {cls:= .type "set_iterator",data:= .fields fs})->(∀h',O0 I hp h'->(∃fs:M2 G1,fs.size=5/\h'.get? I=some {cls:= .type "set_iterator",data:= .fields fs})->P () ⟨h',g,d,tk,os⟩)->R4 (R5 prog w) A (iY (.ref I) k v) P E' ⟨h1,g,d,tk,os⟩:=λhk same ⟨fs,hfs,e⟩ q'=>wpAny_setField_rec (s:=⟨_,g,d,tk,os⟩) e (by omega) λh' z' same'=>q' h' (same.trans same') ⟨_,by simpa using hfs,z'⟩
 cases M with
 |text b=>
  subst hm;have e:(pickOrder (w.params.setOrder a ep) es)[((i:G7):P3).toNat]? =none:=by
   rw [P4] at hx;rw [V6,<-N5];exact bF.mp hx
  wp_walk using state,told
  rw [e];show R4 _ _ (iY (.ref I) 2 .none >>= _) _ _ _;exact wpAny_bind (put (by decide) (Y3 _ _) ⟨_,rfl,hI⟩ λh' same _=>stop same)
 |drawn b dp two ord p tp=>
  obtain⟨rfl,⟨oc,od,odt,osl⟩,hol,hc,c,hd⟩:=hm;simp only at hc hd;subst hc hd;have e:((ord.map λj=>O8 (j:G7)).toArray)[((i:G7):P3).toNat]? =none:=by
   rw [P4] at hx;simp [bF.mp hx]
  wp_walk using state
  rw [e];show R4 _ _ (iY (.ref I) 0 (O8 0) >>= λ_=>iY (.ref I) 2 .none >>= _) _ _ _;exact wpAny_bind (put (by decide) (Y3 _ _) ⟨_,rfl,hI⟩ λh1 same1 there1=>wpAny_bind (put (by decide) same1 there1 λh' same _=>stop same))
 |table b pl=>
  obtain⟨slot,rfl,hs⟩:=hm;have led:t.led=true:=by rw [S.led];show (!(w.params.followText "set-order"))=true;rw [b];rfl
  have nd:(!t.plain&&decide (es.size>1))=false:=by
   rcases pl with z|z
   ·rw [z];rfl
   ·rw [T1 (by omega),bE]
  have e:es[i]? =none:=by
   rw [P4] at hx;rw [<-N5];exact bF.mp hx
  wp_walk using state,told
  split
  ·rename_i z;have z':(!t.plain&&decide (es.size>1))=true:=z;rw [nd] at z';cases z'
  wp_walk
  rw [show ((slot:G7):P3).toNat=slot from V6 _,hs,e];show R4 _ _ (iY (.ref I) 2 .none >>= _) _ _ _;exact wpAny_bind (put (by decide) (Y3 _ _) ⟨_,rfl,hI⟩ λh' same _=>stop same)
end
theorem WU:iV table "set_iterator.__iter__" =some Builtin.«dict_keyiterator.__iter__» :=mO (id':= "dict_keyiterator.__iter__") (by kernel_rfl) (by first|rfl|decide +kernel|(unfold String.splitOn;simp +decide [String.splitOnAux])) (by decide +kernel) (by kernel_rfl)
theorem vE:Slot "set_iterator" "__iter__" "set_iterator.__iter__" := .of (owner:= "set_iterator") (n:= "__iter__") (by rw [lQ,fN];kernel_rfl) (by decide +kernel) (by decide +kernel) (by decide +kernel) (.inl (by kernel_rfl)) (by rw [W9];kernel_rfl)
theorem Vd (a:G1):p9 "set_iterator.__iter__" ⟨[a],[]⟩:=by unfold p9;kernel_rfl
section
variable {prog:S9}{w:N2}{A:T9}{E:G1->G2->Prop}{s:G2}{a I tp:P1}{es:M2 (P3×G1)}{ep n i:G7}{t:S6}{ns:G0 P3}{first:G1}{vals:G0 G1}{md:G1->G7->B3->Prop}
theorem Mode.keep {f:G1}{h h':B3}(M:Mode w a es ep t vals md tp)(m:md f i h)(k: ∀o,h.get? tp=some o->h'.get? tp=some o):md f i h':=by
 cases M with
 |text b=>exact m
 |drawn b dp two ord p tp=>exact⟨m.1,m.2.at λo e=>k o e⟩
 |table b pl=>exact m
theorem Pm {Q:D0 G1->G2->Prop}(ty:s.TypeIs (.ref I) "set_iterator")
 (h:R4 (R5 prog w) A.in1 (Builtin.«set_iterator.__next__» ⟨[.ref I],[]⟩) (λfin s'=> ∃v,fin= .done (.ret v)/\Q (some v) s') (λe s'=>s'.TypeIs e "StopIteration" /\Q none s') s):R4 (R5 prog w) A (l6 (.ref I)) Q E s:=
 wpAny_bind (wpAny_attempt (W6 (name:= "__next__") ty slot_si_next (T3 (F6 slot_si_next ty WT h (Vc _)) (λ_ _ q=>G8 q) λe s' q=>wpAny_bind (bM (b:=true) q.1 isSubtype_stop (G8 q.2)))))
theorem Po (calm:A.handled=none)(S:Tab (wu w) es.size t)(M:Mode w a es ep t vals md tp)(aI:a≠I)(tI:tp≠I):
 Walks prog w A I [I,a,tp] [I] vals.length (λi v=>vals[i]? =some v) (λi h=>h.get? a=some (wV es ep t)/\ ∃first,h.get? I=some (itO first i a es.size ep)/\md first i h) where
 sub:=λb hb=>by simp only [G9] at hb;simp [hb]
 frame:=λi h h' ⟨ha,f,hI,m⟩ k=>⟨k a (by simp) _ ha,f,k I (by simp) _ hI,M.keep m λo e=>k tp (by simp) o e⟩
 item:=λi s Q E hi ⟨ha,f,hI,m⟩ q=>by
  have hx:vals[i]? =some vals[i]:=by simp [hi]
  refine Pm ⟨_,hI,rfl⟩ ?_;have fin: ∀ {f':G1} h',md f' (i+1) s.heap->h'.get? I=some (itO f' (i+1) a es.size ep)->O0 I s.heap h'->Q (some vals[i]) {s with heap:=h'}:=λh' m' e same=>
   q vals[i] h' s.toks hx ⟨same.extBut _ _ aI ha,_,e,M.keep m' λo x=>same.extBut _ _ tI x⟩ λb o nb x=>same.extBut _ _ (by simpa using nb) x
  cases M with
  |text b=>
   subst m;exact Pl S b ha hI aI hx λh' e same=>fin h' rfl e same
  |drawn b dp two ord p tp=>
   obtain⟨rfl,ht⟩:=m;exact Qi S ha hI aI ht p hx λh' e same=>fin h' ⟨rfl,ht⟩ e same
  |table b pl=>
   obtain⟨slot,rfl,hs⟩:=m;exact Qj S b pl ha hI aI hs hx λh' slot' hs' e same=>fin h' ⟨slot',rfl,hs'⟩ e same
 done:=λs Q E ⟨ha,f,hI,m⟩ q=>by
  refine Pm ⟨_,hI,rfl⟩ (Qk calm S M ha hI aI m (by simp) λh' e kept ⟨o,ho,hc⟩=>⟨⟨o,ho,hc⟩,q h' s.toks λb ob nb x=>kept b ob (by simpa using nb) x⟩)
 self:=λi s Q E ⟨ha,f,hI,m⟩ q=>iZ ⟨_,hI,rfl⟩ vE (F6 vE ⟨_,hI,rfl⟩ WU (G8 ⟨_,rfl,_,_,⟨_,hI,rfl⟩,slot_si_next.lookup,q⟩) (Vd _))
end
theorem Je {α:Type}: ∀ (l:G0 α) (i:G7) {x:α},l[i]? =some x->(x::l.eraseIdx i).Perm l
 | [],i,x,h=>by cases h
 |y::l,0,x,h=>by cases h;exact .refl _
 |y::l,i+1,x,h=>(List.Perm.swap y x _).trans ((Je l i h).cons y)
theorem Pp {α:Type}(next:G7->G7): ∀ (fuel k:G7) (left:G0 α) (out:M2 α),left.length=fuel->(pickOrder.go next fuel k left out).toList.Perm (out.toList++left)
 |0,k,left,out,h=>by
  rw [bV h,J3];exact .refl _
 |fuel+1,k,left,out,h=>by
  unfold pickOrder.go;have lt:next k%left.length<left.length:=K9 _ (by omega);have hx:left[next k%left.length]? =some left[next k%left.length]:=by simp [lt]
  rw [hx];refine(Pp next fuel (k+1) _ _ (by rw [cQ lt];omega)).trans ?_;rw [dB,K5];exact(Je left _ hx).append_left _
theorem Pq {α:Type}(next:G7->G7)(xs:M2 α):(pickOrder next xs).toList.Perm xs.toList:=by
 have:=Pp next xs.size 0 xs.toList #[] (by simp);rw [Array.toList_empty,K8] at this;exact this
section
variable {prog:S9}{w:N2}{A:T9}{E:G1->G2->Prop}{s:G2}{a I tp:P1}{es:M2 (P3×G1)}{ep n i:G7}{t:S6}{ns:G0 P3}{first:G1}{vals:G0 G1}{md:G1->G7->B3->Prop}
theorem Mode.perm (M:Mode w a es ep t vals md tp):vals.Perm (es.toList.map (·.2)):=by
 cases M with
 |text b=>exact(Pq _ es).map _
 |drawn b dp two ord p tp=>
  refine(p.map _).trans ?_;have:(G6 es.size).map (λj=>(es.getD j (0,.none)).2)=es.toList.map (·.2):=by
   refine i0 λj=> ?_
   rw [P4,P4]
   by_cases hj:j<es.size
   ·rw [F1 hj];simp [hj,mN]
   ·rw [L9 (by simpa using hj),L9 (by simpa using hj)];rfl
  rw [this]
 |table b pl=>exact .refl _
theorem Xl {α:Type}{Q:G0 α->G2->Prop}: ∀ (n:G7) (xs:G0 α) (s:G2),xs.length=n->(∀ys d,ys.Perm xs->Q ys {s with drawn:=d})->R4 (R5 prog w) A (drawOrder n xs) Q E s
 |0,xs,s,h,q=>by
  rw [bV h] at q;exact G8 (q [] s.drawn (.refl _))
 |n+1,[],s,h,q=>by cases h
 |n+1,x::r,s,h,q=>by
  have pickd: ∀ {P:G7->G2->Prop} {E':G1->G2->Prop},(∀i d,i<(x::r).length->P i {s with drawn:=d})->R4 (R5 prog w) A (choose .order (x::r).length) P E' s:=λp _ _ _=>⟨by simp,p _ _ (K9 _ (by simp))⟩
  refine wpAny_bind (pickd λi d hi=> ?_);have hx:(x::r)[i]? =some (x::r)[i]:=by rw [P2 hi]
  rw [hx];refine wpAny_bind (Xl n _ {s with drawn:=d} (by rw [cQ hi];simp at h ⊢;omega) λys d' p=>G8 (q _ d' ?_));exact(p.cons _).trans (Je _ _ hx)
theorem Rw {Q:G1->G2->Prop}(S:Tab (wu w) es.size t)(ha:s.heap.get? a=some (wV es ep t))(few:es.size<1000)
 (k: ∀h' d I tp vals md first,Mode w a es ep t vals md tp->(∀b o,s.heap.get? b=some o->h'.get? b=some o)->s.heap.objs.size<=I->tp≠I->(tp=a\/s.heap.objs.size<=tp)->tp<h'.objs.size->h'.get? I=some (itO first 0 a es.size ep)->md first 0 h'->Q (.ref I) {s with heap:=h',drawn:=d}):
 R4 (R5 prog w) A (kC (.ref a)) Q E s:=by
 have ty:s.TypeIs (.ref a) "set" :=⟨_,ha,rfl⟩;have told: ∀ {Q:iW->G2->Prop} {E':G1->G2->Prop} {A':T9} {s':G2},Q ⟨prog,w.params⟩ s'->R4 (R5 prog w) A' ask Q E' s':=λq=>J9 q
 have state:=λ{P:M2 (P3×G1)×G7×S6->G2->Prop} {E':G1->G2->Prop} {A':T9} {s':G2} (e:s'.heap.get? a=some (wV es ep t))=>C8 (prog:=prog) (w:=w) (A:=A') (E:=E') (Q:=P) (s:=s') e rfl S.fits
 refine iZ ty lR (F6 lR ty ZQ ?_ (F.args_set_iter_1 _));have state0:=λ{P:M2 (P3×G1)×G7×S6->G2->Prop} {E':G1->G2->Prop} {A':T9}=>state (P:=P) (E':=E') (A':=A') (s':=s) ha
 cases b:w.params.followText "set-order" with
 |true=>
  wp_walk using state0,told
  have at_:(s.heap.push (itO (O8 0) 0 a es.size ep)).get? s.heap.objs.size=some (itO (O8 0) 0 a es.size ep):=D9 _ rfl;have nI:a≠s.heap.objs.size:=λz=>M4 _ (z ▸ P7 ha)
  refine⟨_,rfl,"set_iterator",_,⟨_,at_,rfl⟩,slot_si_next.lookup,?_⟩;exact k _ s.drawn s.heap.objs.size a _ _ (O8 0) (.text b) (λb o e=>G5 _ e) (P0 _) nI (.inl rfl) (P7 (G5 _ ha)) at_ rfl
 |false=>
  cases dd:(!t.plain&&decide (es.size>1)) with
  |false=>
   have pl:t.plain=true\/es.size<=1:=by
    cases hp:t.plain with
    |true=>exact .inl rfl
    |false=>rw [hp] at dd;have:=cR (show decide (es.size>1)=false from dd);exact .inr (by omega)
   have at_:(s.heap.push (itO (O8 0) 0 a es.size ep)).get? s.heap.objs.size=some (itO (O8 0) 0 a es.size ep):=D9 _ rfl;have nI:a≠s.heap.objs.size:=λz=>M4 _ (z ▸ P7 ha)
   have zero:R9 t.place 0=0:=by
    obtain⟨b1,_,b3⟩:=vD (S.rise pl) 0;rcases iB (R9 t.place 0) with z|z
    ·exact z
    ·have h0:0<t.place.size:=by omega
     exact absurd (b1 0 z _ (by simp [h0]:t.place[0]? =some t.place[0])) (J5 _)
   have fin:=k _ s.drawn s.heap.objs.size a _ _ (O8 0) (.table b pl) (λb o e=>G5 _ e) (P0 _) nI (.inl rfl) (P7 (G5 _ ha)) at_ ⟨0,rfl,zero⟩
   wp_walk using state0,told
   split
   ·rename_i z;have z':(!w.params.followText "set-order" &&(!t.plain&&decide (es.size>1)))=true:=z;rw [b,dd] at z';cases z'
   wp_walk using state0
   exact⟨_,rfl,"set_iterator",_,⟨_,at_,rfl⟩,slot_si_next.lookup,fin⟩
  |true=>
   have pf:t.plain=false/\1<es.size:=by
    rw [C3] at dd;exact⟨by simpa using dd.1,N0 dd.2⟩
   wp_walk using state0,told
   split
   rotate_left
   ·rename_i z;exact(z (show (!w.params.followText "set-order" &&(!t.plain&&decide (es.size>1)))=true by rw [b,dd];rfl)).elim
   refine wpAny_bind (Xl es.size (G6 es.size) s (by simp) λord d p=> ?_);have len:ord.length=es.size:=by rw [p.length_eq];simp
   have t0:(s.heap.push {cls:= .type "tuple",data:= .seq (ord.map λ(i:G7)=>O8 i).toArray}).get? s.heap.objs.size=some {cls:= .type "tuple",data:= .seq (ord.map λ(i:G7)=>O8 i).toArray}:=D9 _ rfl;refine wpAny_bind (mP ?_ (by rw [G3,len];exact S7 (M3 few) (by decide)));have ha1:(s.heap.push {cls:= .type "tuple",data:= .seq (ord.map λ(i:G7)=>O8 i).toArray}).get? a=some (wV es ep t):=G5 _ ha;have state1:=λ{P:M2 (P3×G1)×G7×S6->G2->Prop} {E':G1->G2->Prop} {A':T9}=>state (P:=P) (E':=E') (A':=A') (s':= {s with heap:=s.heap.push {cls:= .type "tuple",data:= .seq (ord.map λ(i:G7)=>O8 i).toArray},drawn:=d}) ha1
   wp_walk using state1
   have at_:=D9 (s.heap.push {cls:= .type "tuple",data:= .seq (ord.map λ(i:G7)=>O8 i).toArray}) (o:=itO (.ref s.heap.objs.size) 0 a es.size ep) rfl;have lt1:s.heap.objs.size<(s.heap.push {cls:= .type "tuple",data:= .seq (ord.map λ(i:G7)=>O8 i).toArray}).objs.size:=P7 t0;refine⟨_,rfl,"set_iterator",_,⟨_,at_,rfl⟩,slot_si_next.lookup,?_⟩;exact k _ d _ s.heap.objs.size _ _ (.ref s.heap.objs.size) (.drawn b pf.1 pf.2 ord p s.heap.objs.size) (λb o e=>G5 _ (G5 _ e)) (M3 lt1) (R8 lt1) (.inr (P0 _)) (P7 (G5 _ t0)) at_ ⟨rfl,⟨_,G5 _ t0,rfl,0,rfl⟩⟩
end
section
variable {prog:S9}{w:N2}{A:T9}{E:G1->G2->Prop}{s:G2}{a:P1}{es:M2 (P3×G1)}{ep:G7}{t:S6}{ns:G0 P3}
theorem Rx {Q:M6->G2->Prop}(ty:s.TypeIs (.ref a) "set")(q:Q false s):R4 (R5 prog w) A (cC (.ref a)) Q E s:=by
 have parts:splitId "set.__len__" =some ("set","__len__"):=by decide +kernel
 have f2:=yX;unfold cC;refine wpAny_bind (Y0 ty F.slot_set_len.lookup ?_);dsimp only;rw [parts];dsimp only
 wp_walk
 exact q
def FJ (s:G2)(es:M2 (P3×G1))(r:g8)(s':G2):Prop:=
 ∃h' d tk acc c,r= .ok (.ret (.ref s.heap.objs.size))/\s'= {s with heap:=h',drawn:=d,toks:=tk}/\h'.get? s.heap.objs.size=some {cls:= .type "list",dict:=none,data:= .seq acc c,slots:= #[]}/\(∀b o,s.heap.get? b=some o->h'.get? b=some o)/\acc.toList.Perm (es.toList.map (·.2))
theorem Ql (calm:A.handled=none)(S:Tab (wu w) es.size t)(ha:s.heap.get? a=some (wV es ep t))(few:es.size<1000):
 U3 (R5 prog w) A (.builtin "proto.collect" ⟨[.ref a],[]⟩) (FJ s es) s:=by
 have nS:s.heap.objs.size≠a:=λz=>M4 _ (z ▸ P7 ha)
 have old: ∀ {b o o'},s.heap.get? b=some o->(s.heap.push o').get? b=some o:=λe=>G5 _ e
 refine A8 F.entry_proto_collect ?_
 wp_walk
 refine⟨Q5 i4 _,A8 F.entry_list_iadd ?_⟩;rw [O6 i4];have ha1:(s.heap.push {cls:= .type "list",data:= .seq #[]}).get? a=some (wV es ep t):=old ha;have hS:(s.heap.push {cls:= .type "list",data:= .seq #[]}).get? s.heap.objs.size=some {cls:= .type "list",data:= .seq #[]}:=D9 _ rfl;have ty:Shared.TypeIs {s with heap:=s.heap.push {cls:= .type "list",data:= .seq #[]}} (.ref a) "set" :=⟨_,ha1,rfl⟩;have other:dL (.ref s.heap.objs.size) (.ref a)=false:=by simp [dL,nS]
 have iter:=λ{P:G1->G2->Prop} {E':G1->G2->Prop} {A':T9}=>Rw (prog:=prog) (w:=w) (A:=A') (E:=E') (Q:=P) (s:= {s with heap:=s.heap.push {cls:= .type "list",data:= .seq #[]}}) S ha1 (by omega)
 show R4 _ A.in1 (lW (.ref s.heap.objs.size) (.ref a) (.ref s.heap.objs.size)) _ _ _
 wp_walk using iter
 intro h1 d I tp vals md first M kept lo tI tpo tpl hI hm
 have ha2:h1.get? a=some (wV es ep t):=kept _ _ ha1;have hS2:h1.get? s.heap.objs.size=some {cls:= .type "list",data:= .seq #[]}:=kept _ _ hS;have ty2:Shared.TypeIs {s with heap:=h1,drawn:=d} (.ref a) "set" :=⟨_,ha2,rfl⟩;refine wpAny_bind (B8 (Rx ty2 ?_))
 wp_walk
 have lt:a<s.heap.objs.size:=P7 ha;have e1:(s.heap.push {cls:= .type "list",data:= .seq #[]}).objs.size=s.heap.objs.size+1:=W8 ..;have lo':s.heap.objs.size+1<=I:=by rw [<-e1];exact lo
 have aI:a≠I:=λz=>by subst z;exact absurd lt (K0.mpr (i5 lo'))
 have SI:s.heap.objs.size≠I:=R8 lo';have Stp:s.heap.objs.size≠tp:=by
  rcases tpo with z|z
  ·rw [z];exact nS
  ·exact R8 (M0 (by rw [e1];exact C4 _) z)
 have hS3:=N4 (E6 λx=>x.push dY) hS2 rfl;have hS4:=N4 (E6 λx=>x.pop) hS3 rfl;have same:O0 s.heap.objs.size h1 ((h1.update s.heap.objs.size (E6 λx=>x.push dY)).update s.heap.objs.size (E6 λx=>x.pop)):=(F3 ..).trans (F3 ..);have W:=Po (prog:=prog) (A:=A.in1) calm S M aI tI;refine⟨Q5 F.plain_extend_loop _,codeAny_extend_loopS W.toS ?_ s.heap.objs.size (by simp [SI,nS,Stp]) _ vals.length 0 _ #[] _ rfl (B4 _) ⟨same.extBut _ _ nS.symm ha2,first,same.extBut _ _ SI.symm hI,M.keep hm λo e=>same.extBut _ _ Stp.symm e⟩ hS4 (ItemsOf.nil _) λs' acc c' moved hS' items=> ?_⟩
 ·rw [M.perm.length_eq,G3,D1];exact S7 (M3 few) (by decide)
 have same_vals:acc.toList=vals:=by
  refine i0 λi=> ?_
  rw [N5];cases e:acc[i]? with
  |some v=>exact(items.2 i v e).symm
  |none=>
   have:vals.length<=i:=by rw [<-items.1];exact Z1.mp e
   exact(L9 this).symm
 obtain⟨h',g',d',tk',os'⟩:=s';have mg:g'=s.gens:=moved.gens;have md':d'=d:=moved.drawn;have mo:os'=s.os:=moved.os;subst mg md' mo;refine⟨h',d',tk',acc,c',rfl,rfl,hS',λb o e=> ?_,by rw [same_vals];exact M.perm⟩;have lb:=P7 e;have nb:b≠s.heap.objs.size:=R8 lb;have nbI:b≠I:=λz=>by subst z;exact absurd lb (K0.mpr (i5 lo'))
 exact moved.heap b o (by simp [nb,nbI]) (same.extBut _ _ nb (kept _ _ (old e)))
end
end HT
namespace L2
open PySem PySem.Spec PyProof.Rows PySem.SeqAt
theorem Inv.drew {X:Cx}{pins:G0 (P1×Obj)}{σ:St}{H:Hp}{s:G2}(I:Inv X pins σ H s)(d:Drawn):Inv X pins σ H {s with drawn:=d}:=⟨I.ok,I.os,I.bare,I.base,I.loc,I.cell,I.free,I.freeC,I.pin,I.hok,I.len⟩
end L2
namespace L2
theorem IsS.ext {n:G7}{S S':G0 G7}(h:IsS n S)(h':IsS n S')(m: ∀j,j∈S↔j∈S'):S=S':=by
 obtain⟨p,rfl⟩:=h;obtain⟨q,rfl⟩:=h';refine List.filter_congr λj hj=> ?_
 have:=m j;rw [L5,L5] at this;have e:p j=true↔q j=true:=⟨λz=>(this.mp ⟨hj,z⟩).2,λz=>(this.mpr ⟨hj,z⟩).2⟩;cases hp:p j<;>cases hq:q j<;>simp_all
inductive Made (L:G0 G7):G7->Prop
 |z:Made L 0
 |s {n l:G7}:Made L n->l∈L->Made L (n+l)
theorem Xm: ∀ (L:G0 G7) (g d:G7),d∣L.foldl lX g↔d∣g/\ ∀l∈L,d∣l
 | [],g,d=>by simp
 |x::L,g,d=>by
  show d∣L.foldl lX (lX g x)↔_;rw [Xm L,Nat.dvd_gcd_iff];simp only [S5,forall_eq_or_imp];exact⟨λ⟨⟨a,b⟩,c⟩=>⟨a,b,c⟩,λ⟨a,b,c⟩=>⟨⟨a,b⟩,c⟩⟩
end L2
namespace HT
open PySem PyProof.Rows
section
variable {prog:S9}{w:N2}{A:T9}{E:G1->G2->Prop}{s:G2}{κ:SortKind}{U:Keyed->Prop}{R:Keyed->Keyed->M6}
def OL (s:G2)(a:P1)(h':B3):Prop:= ∀b o,b≠a->s.heap.get? b=some o->h'.get? b=some o
theorem Ry {M:k5}{α β:Type}{c:Prop}[Decidable c]{m m':Sem α}{F:α->Sem β}{Q:β->G2->Prop}(h:R4 M A ((if c then m else m') >>= F) Q E s):R4 M A (if c then m >>= F else m' >>= F) Q E s:=by
 by_cases z:c
 ·rw [R0 z] at h ⊢;exact h
 ·rw [R7 z] at h ⊢;exact h
abbrev Ul (h h':B3):Prop:= ∀b o,h.get? b=some o->h'.get? b=some o
end
theorem Jf: ∀a b:G0 P3,zo a b=true->zo b a=false
 | [],[],h=>rfl
 | [],_::_,_=>rfl
 |_::_,[],h=>by cases h
 |x::xs,y::ys,h=>by
  unfold zo at h ⊢
  by_cases e:x=y
  ·subst e;rw [R0 rfl] at h ⊢;exact Jf xs ys h
  ·rw [R7 e] at h;rw [R7 (E4 e)];have:=N0 h;exact T1 (by omega)
theorem Ve: ∀a b c:G0 P3,zo a c=true->zo a b=true\/zo b c=true
 | [],[],c,h=> .inr h
 | [],_::_,_,_=> .inl rfl
 |_::_,_,[],h=>by cases h
 |x::xs,[],z::zs,h=> .inr rfl
 |x::xs,y::ys,z::zs,h=>by
  unfold zo at h ⊢
  by_cases e:x=z
  ·subst e;rw [R0 rfl] at h
   by_cases f:x=y
   ·subst f;rw [R0 rfl,R0 rfl];exact Ve xs ys zs h
   ·rw [R7 f,R7 (E4 f)]
    by_cases g:x<y
    ·exact .inl (D7 g)
    ·exact .inr (D7 (by omega))
  ·rw [R7 e] at h;have lt:=N0 h
   by_cases f:x=y
   ·subst f;rw [R7 e];exact .inr h
   ·rw [R7 f]
    by_cases g:x<y
    ·exact .inl (D7 g)
    ·refine .inr ?_;rw [R7 (by omega)];exact D7 (by omega)
theorem Zz: ∀a b:G0 P3,zo a b=false->zo b a=false->a=b
 | [],[],_,_=>rfl
 | [],_::_,h,_=>by cases h
 |_::_,[],_,h=>by cases h
 |x::xs,y::ys,h,h'=>by
  unfold zo at h h'
  by_cases e:x=y
  ·subst e;rw [R0 rfl] at h h';rw [Zz xs ys h h']
  ·rw [R7 e] at h;rw [R7 (E4 e)] at h';have:=cR h;have:=cR h';omega
end HT
namespace L2
open PySem PySem.Spec PyProof.Rows PySem.SeqAt HT
abbrev tI (ns:G0 P3):D:= .tup (ns.map D.int)
abbrev toI (S:G0 G7):G0 P3:=S.map λ(k:G7)=>(k:P3)
def leS (a b:G0 G7):M6:= !HT.zo (toI b) (toI a)
def FK (l:G0 (G0 G7)):G0 (G0 G7):=l.mergeSort leS
theorem Qm (l:G0 (G0 G7)):(FK l).Perm l:=List.mergeSort_perm _ _
end L2
namespace L2
open PySem PySem.Spec PyProof.Rows PySem.SeqAt
theorem Xn: ∀l:G0 P3,M7 (l.map X4)=true
 | []=>rfl
 |x::l=>by show (B2 (.int x)&&_)=true;rw [Xn l];rfl
variable {h:HD}
theorem NX {neg:M6}{x:G7}{S:G0 G7}{Q:KD}(q: ∀b:M6,(b=true↔x∈S)->Q (.bl (neg !=b)) h):inE neg (.int (x:P3)) (zR S) h Q:=by
 refine⟨.int x,(zi S).map X4,rfl,.inr (NQ h S),rfl,Xn _,(by show (0:G7)<=60;decide),q _ ?_⟩;rw [Z8];constructor
 ·rintro ⟨z,hz,e⟩;obtain⟨m,hm,rfl⟩:=R1.mp hz;obtain⟨y,hy,rfl⟩:=R1.mp (show m∈S.map λ(k:G7)=>(k:P3) from hm);have:(y:P3)=x:=by simpa [C0] using e
  have:y=x:=by omega
  exact this ▸ hy
 ·intro z;exact⟨.int x,R1.mpr ⟨_,R1.mpr ⟨x,z,rfl⟩,rfl⟩,by simp [C0]⟩
theorem ze {h':HD}{a:P1}(sb:Sub h h')(e:h' a=none):h a=none:=by
 cases z:h a with
 |none=>rfl
 |some ds=>rw [sb a ds z] at e;cases e
theorem Sub.over {h':HD}{a:P1}{ds:G0 D}(sb:Sub h h')(e:h a=none):Sub h (wC h' a ds):=⟨λb xs k=>yb (λz=>by subst z;rw [e] at k;cases k) (sb b xs k),sb.dc⟩
theorem Pr {x:G7}{S:G0 G7}{Q:KD}(q:Q (.bl (!decide (x∈S))) h):inE true (.int (x:P3)) (zR S) h Q:=NX λbo hb=>by
 have:(true !=bo)= !decide (x∈S):=by
  cases bo with
  |true=>rw [D7 (hb.mp rfl)];rfl
  |false=>rw [T1 λz=>by have:=hb.mpr z;cases this];rfl
 rw [this];exact q
def wk (T:G0 (G0 P3)):G7->G7->G7->M6
 |0,i,j=>decide (i=j)|| !decide (ent T i j=0)
 |b+1,i,j=>wk T b i j||(wk T b i b&&wk T b b j)
theorem Um (T:G0 (G0 P3)): ∀b i,wk T b i i=true
 |0,i=>by unfold wk;rw [D7 rfl];rfl
 |b+1,i=>by unfold wk;rw [Um T b i];rfl
theorem FL (T:G0 (G0 P3))(b i:G7):wk T (b+1) i b=wk T b i b:=by
 show (wk T b i b||(wk T b i b&&wk T b b b))=_;cases wk T b i b<;>rfl
theorem FM (T:G0 (G0 P3))(b j:G7):wk T (b+1) b j=wk T b b j:=by
 show (wk T b b j||(wk T b b b&&wk T b b j))=_;cases wk T b b j<;>cases wk T b b b<;>rfl
variable {T:G0 (G0 P3)}
theorem wk_by {b i j:G7}:wk T (b+1) i j=true↔wk T b i j=true\/(wk T b i b=true/\wk T b b j=true):=by
 show (wk T b i j||(wk T b i b&&wk T b b j))=true↔_;rw [X9,C3]
theorem wG: ∀ {b i k j:G7},k<b->wk T b i k=true->wk T b k j=true->wk T b i j=true
 |b+1,i,k,j,hk,x,y=>by
  by_cases e:k=b
  ·subst e;rw [FL] at x;rw [FM] at y;exact wk_by.mpr (.inr ⟨x,y⟩)
  ·have lt:k<b:=by omega
   rcases wk_by.mp x with x|⟨x1,x2⟩
   ·rcases wk_by.mp y with y|⟨y1,y2⟩
    ·exact wk_by.mpr (.inl (wG lt x y))
    ·exact wk_by.mpr (.inr ⟨wG lt x y1,y2⟩)
   ·rcases wk_by.mp y with y|⟨y1,y2⟩
    ·exact wk_by.mpr (.inr ⟨x1,wG lt x2 y⟩)
    ·exact wk_by.mpr (.inr ⟨x1,y2⟩)
theorem JX {P:G7->G7->Prop}(r: ∀i,P i i)(a: ∀i j,ent T i j≠0->P i j)(t: ∀i k j,P i k->P k j->P i j): ∀ {b i j:G7},wk T b i j=true->P i j
 |0,i,j,h=>by
  have h:(decide (i=j)|| !decide (ent T i j=0))=true:=h;rw [X9] at h;rcases h with h|h
  ·rw [N0 h];exact r j
  ·exact a i j λz=>by rw [D7 z] at h;cases h
 |b+1,i,j,h=>by
  rcases wk_by.mp h with h|⟨h1,h2⟩
  ·exact JX r a t h
  ·exact t _ _ _ (JX r a t h1) (JX r a t h2)
theorem NY {n e:G7}(h:Sq n e T)(i j:G7)(z:ent T i j≠0):j<n:=by
 by_cases hj:j<n
 ·exact hj
 ·exfalso;apply z;unfold ent
  by_cases hi:i<T.length
  ·have hr:=h.row (T.getD i []) (by rw [D5,P2 hi];exact C5 hi);rw [D5,L9 (by rw [hr];omega)];rfl
  ·rw [D5 (l:=T),L9 (by omega)];rfl
section
variable {X:Cx}{iter iter' elt:S8}{te:TED}{ti ti':TID}{tt tt':TTD}{pos spos:Pos}{scope:E3}{js:G0 G7}{ifs ifs':G0 S8}
theorem Ps {i i' k:G7}{x z y:Str}{p pz py:Pos}(hc:X.calm=true)(hN:X.N.Nodup)(hk:X.N[k]? =some y)(hy:Loc X.env.scope y)(S:BlockOk X scope js)(hi:JI X (.Name x p) iter ti)(hj:i∈js)(hj':i'∈js)(hne:i≠i')(hx:X.N[i]? =some x)(hz:X.N[i']? =some z)
 (hl:scope.names.lookup x=some .local\/scope.names.lookup x=some .cell)(hl':scope.names.lookup z=some .local\/scope.names.lookup z=some .cell)
 (ht: ∀X',jd X scope X'->PTs X' ifs (LT X'.K tt))(hi': ∀X',jd X scope X'->JI X' (.Name z pz) iter' ti')(ht': ∀X',jd X scope X'->PTs X' ifs' (LT X'.K tt'))(he: ∀X',jd X scope X'->JE X' elt te)
 (hsw:W3 (.ListComp elt [⟨.Name x p,iter,ifs,0⟩,⟨.Name z pz,iter',ifs',0⟩] scope pos) (some (.Name y py)) spos.line X.env=pure true:=by rfl)
 (hf:X.fn y=true\/X.env.scope.names.lookup y=some .local:=by first|exact .inl rfl|exact .inr rfl|assumption)(hs: ∀x,S1 iter X.env x=pure x:=by intro _;rfl)(hs': ∀env x,S1 iter' env x=pure x:=by intro _ _;rfl):
 JS X (.Assign [.Name y py] (.ListComp elt [⟨.Name x p,iter,ifs,0⟩,⟨.Name z pz,iter',ifs',0⟩] scope pos) spos) (QK k (DU (bN i) js ti tt i' ti' tt' te)):=by
 have base:PS X (.Assign [.Name y py] (.ListComp elt [⟨.Name x p,iter,ifs,0⟩,⟨.Name z pz,iter',ifs',0⟩] scope pos) spos) (RY (Lj js (LI X.K ti) (zX i) (LT X.K tt) (LI X.K ti') (zX i') (LT X.K tt') (LE X.K te)) (zX k)):=
  Gr hc S hi.to rfl (λX' hX=>by obtain⟨C,s₀,H₀,ex,rfl⟩:=hX;exact zF hN hx hl) (λX' hX=>by have:=ht X' hX;obtain⟨C,s₀,H₀,ex,rfl⟩:=hX;exact this)
   (λenv acc=>XS (.ListComp elt [⟨.Name x p,iter,ifs,0⟩,⟨.Name z pz,iter',ifs',0⟩] scope pos) iter' env acc) (λ_ _ _=>Gt ..)
   (λX' hX D=>by
    have a:=(hi' X' hX).to;have b:=ht' X' hX;have c:=(he X' hX).to;obtain⟨C,s₀,H₀,ex,rfl⟩:=hX;exact Gs (g:=zX i') hc rfl a (zF hN hz hl') b c (hs' _))
   (yN hN hk hy hf) hsw hs
 exact⟨base.imp λD σ H h=>by
  obtain⟨rE,hd,Qd,rs,rh,t,p⟩:=Gx (K:=X.K) D σ H h;exact Mf (Me hj hj' hne) σ H _ ⟨rE,hd,Qd,rs,rh,t,p⟩⟩
end
def AB (g:G7->G7->M6)(w:G0 G7)(j:G7):M6:=g (w.getLastD 0) j&&(decide (w.headD 0<j)&& !decide (j∈w))
def EG (g:G7->G7->M6)(n:G7)(w:G0 G7):G0 (G0 G7):=((G6 n).filter (AB g w)).map λj=>w++ [j]
def lev (g:G7->G7->M6)(n:G7):G7->G0 (G0 G7)
 |0=>(G6 n).map λi=> [i]
 |t+1=>(lev g n t).flatMap (EG g n)
def OM (g:G7->G7->M6)(n:G7):G7->G0 (G0 G7)
 |0=> []
 |t+1=>OM g n t++(lev g n t).filter λw=>g (w.getLastD 0) (w.headD 0)
def AC (T:G0 (G0 P3))(i j:G7):M6:=decide (ent T i j>0)
def Xo (T:G0 (G0 P3))(n:G7):G0 (G0 G7):=FK (OM (AC T) n n)
theorem at_end {w:G0 G7}{t:G7}(h:w.length=t+1):atI (w.map λ(k:G7)=>D.int (k:P3)) (-1)=some (.int ((w.getLastD 0:G7):P3)):=by
 refine Rt (by rw [G3];omega) ?_;rw [G3,P4,aD,aE,P2 (by omega)];rfl
end L2
namespace HT
open PySem PySem.Spec PyProof.Rows
def yY (lt:G1->G1->M6):G1->G0 G1->G1
 |b,[]=>b
 |b,v::r=>yY lt (if lt v b=true then v else b) r
section
variable {prog:S9}{w:N2}{A:T9}{E:G1->G2->Prop}{s:G2}{h0:B3}{l I S:P1}{vs:G0 G1}{lt:G1->G1->M6}
def AD (prog:S9)(w:N2)(A:T9)(h0:B3)(vs:G0 G1)(lt:G1->G1->M6):Prop:=
 ∀v∈vs,∀u∈vs,∀ (s:G2) (E Q:G1->G2->Prop),Ul h0 s.heap->Q (.bool (lt v u)) s->R4 (R5 prog w) A (bW .Lt v u) Q E s
structure At (h0:B3)(l I S:P1)(vs:G0 G1)(i:G7)(st:M2 G1)(h:B3):Prop where
 kept:Ul h0 h
 it:h.IsListIter I l i
 lst:h.IsList l vs.toArray
 store: ∃c,h.get? S=some (b6 "list" st c)
theorem At.put {i:G7}{st st':M2 G1}{h:B3}(x:At h0 l I S vs i st h)(nI:S≠I)(nl:S≠l)(n0:h0.get? S=none):At h0 l I S vs i st' (h.update S (E6 λ_=>st')):=by
 obtain⟨c,e⟩:=x.store;have other: ∀b o,b≠S->h.get? b=some o->(h.update S (E6 λ_=>st')).get? b=some o:=λb o ne z=>(aH _ _ _ _ ne).trans z
 exact⟨λb o z=>other b o (λq=>by rw [q,n0] at z;cases z) (x.kept b o z),x.it.at λo z=>other I o (E4 nI) z,x.lst.at λo z=>other l o (E4 nl) z,⟨_,N4 _ e rfl⟩⟩
theorem At.step {i j:G7}{st:M2 G1}{h h':B3}(x:At h0 l I S vs i st h)(k: ∀b o,b ∉ [I]->h.get? b=some o->h'.get? b=some o)(nI:S≠I)(n0:h0.get? I=none)(y:h'.IsListIter I l j)(z:h'.IsList l vs.toArray):At h0 l I S vs j st h':=
 ⟨λb o e=>k b o (λq=>by rw [G9.mp q,n0] at e;cases e) (x.kept b o e),y,z,let ⟨c,e⟩:=x.store;⟨c,k S _ (λq=>nI (G9.mp q)) e⟩⟩
theorem Rz (calm:A.in1.handled=none)(nlI:l≠I)(nI:S≠I)(nl:S≠l)(nS:h0.get? S=none)(nI0:h0.get? I=none)(cmp:AD prog w A.in1 h0 vs lt): ∀ (r:G0 G1) (i:G7) (vb:G1) (h:B3) (tk:G7),vs.drop i=r->i<=vs.length->vb∈vs->At h0 l I S vs i #[vb,vb] h->
 U3 (R5 prog w) A (.builtin "min.loop" ⟨[.ref I,.none,.ref S],[]⟩) (λres s'=>res= .ok (.ret (yY lt vb r))/\ ∃h' tk',s'= {s with heap:=h',toks:=tk'}/\Ul h0 h') {s with heap:=h,toks:=tk}:=by
 have W:=bK (prog:=prog) (w:=w) calm I l nlI vs.toArray;have again:(toString "min" ++toString ".loop" :J6)= "min.loop" :=by decide
 intro r
 induction r with
 |nil=>
  intro i vb h tk dr il mb x;have ei:i=vs.toArray.size:=by
   rw [D8];exact Nat.le_antisymm il (bX.mp dr)
  obtain⟨c,e⟩:=x.store;refine A8 dW ?_;rw [O6 Q8];refine wpAny_bind (K4 e rfl (wpAny_bind (cS (W.done _ _ _ ⟨by rw [<-ei];exact x.it,x.lst⟩ λh' tk' k=> ?_))));have keep:Ul h0 h':=λb o z=>k b o (λq=>by rw [G9.mp q,nI0] at z;cases z) (x.kept b o z)
  refine wpAny_bind (fH (k S _ (λq=>nI (G9.mp q)) e) rfl (wpAny_bind (gA (G8 ⟨rfl,_,tk',rfl,λb o z=> ?_⟩))));exact(aH _ _ _ _ λq=>by rw [q,nS] at z;cases z).trans (keep b o z)
 |cons v r ih=>
  intro i vb h tk dr il mb x;obtain⟨c,e⟩:=x.store;have hi:i<vs.length:=by
   rcases L0 i vs.length with z|z
   ·exact z
   ·rw [bX.mpr z] at dr;cases dr
  have dr':vs[i]=v/\vs.drop (i+1)=r:=by
   rw [List.drop_eq_getElem_cons hi] at dr;injection dr with a b
   exact⟨a,b⟩
  refine A8 dW ?_;rw [O6 Q8];refine wpAny_bind (K4 e rfl (wpAny_bind (cS (W.item i _ _ _ (by rw [D8];exact hi) ⟨x.it,x.lst⟩ λu h' tk' pu st' k=> ?_))));have eu:u=v:=by
   rw [fO,P2 hi,dr'.1] at pu;injection pu with pu
   exact pu.symm
  subst eu;have mu:u∈vs:=dr'.1 ▸ C5 hi;have y:=At.step x k nI nI0 st'.1 st'.2;have e':h'.get? S=some (b6 "list" #[vb,vb] c):=k S _ (λq=>nI (G9.mp q)) e;refine wpAny_bind (G8 ?_);have ans: ∀F:M6->Sem Fin,∀ (P:Fin->G2->Prop) (E:G1->G2->Prop) (H:G1->Sem M6),R4 (R5 prog w) A.in1 (F (lt u vb)) P E {s with heap:=h',toks:=tk'}->R4 (R5 prog w) A.in1 (tryCatch (V0 [u,u] (do let a <-bW .Lt u vb;let yes <-V0 [a] (pO a);letGo [a];pure yes)) H >>= F) P E {s with heap:=h',toks:=tk'}:=λF P E H q=>
   wpAny_bind (cS (B8 (wpAny_bind (cmp u mu vb mb _ _ _ y.kept (wpAny_bind (B8 (O1 (wpAny_bind (gA (G8 q))))))))))
  refine ans _ _ _ _ ?_;cases c1:lt u vb with
  |true=>
   have z:=At.put (st':= #[u,u]) y nI nl nS;refine wpAny_bind (fH e' rfl (wpAny_bind (gA ?_)));have nx:=ih (i+1) u _ tk' dr'.2 hi mu z;rw [again];refine G8 ⟨Q5 Q8 _,?_⟩;unfold yY;rw [R0 c1];exact nx
  |false=>
   refine wpAny_bind (gA ?_);have nx:=ih (i+1) vb _ tk' dr'.2 hi mb y;rw [again];refine G8 ⟨Q5 Q8 _,?_⟩;unfold yY;rw [R7 (by rw [c1];exact P9)];exact nx
theorem Xp {h:B3}{b:P1}(z:h.objs.size<=b):h.get? b=none:=by
 cases e:h.get? b with
 |none=>rfl
 |some o=>exact absurd (P7 e) (K0.mpr z)
theorem RA {v0:G1}{r:G0 G1}{Q:G1->G2->Prop}(calm:A.in1.handled=none)(hl:s.heap.IsList l vs.toArray)(ev:vs=v0::r)(cmp:AD prog w A.in1 s.heap vs lt)
 (q: ∀h' tk,Ul s.heap h'->Q (yY lt v0 r) {s with heap:=h',toks:=tk}):R4 (R5 prog w) A (call (.builtin "min") [.ref l]) Q E s:=by
 have again:(toString "min" ++toString ".loop" :J6)= "min.loop" :=by decide
 obtain⟨ol,el,rl⟩:=id hl;have ll:=P7 el;refine call_function_tree F.kind_min F.plain_min F.entry_min (F.args_min1 _) (wpAny_bind (lB (show Builtin.Builtins.bindParams "min" ["key","default"] 0 ⟨[],[]⟩=pure [none,none] from rfl) (wpAny_bind (G8 (wpAny_bind (E5 hl (wpAny_bind (V1 ?_))))))));rw [again];refine G8 ⟨Q5 Q8 _,?_⟩;have big:s.heap.objs.size<(s.heap.push {cls:= .type "list_iterator",data:= .fields #[.ref l,.int 0 0]}).objs.size:=by rw [W8];exact C4 _
 have it1:(s.heap.push {cls:= .type "list_iterator",data:= .fields #[.ref l,.int 0 0]}).IsListIter s.heap.objs.size l 0:=⟨_,D9 _ rfl,rfl,rfl⟩;have k1:Ul s.heap (s.heap.push {cls:= .type "list_iterator",data:= .fields #[.ref l,.int 0 0]}):=λb o e=>G5 _ e
 revert big it1 k1;generalize s.heap.push {cls:= .type "list_iterator",data:= .fields #[.ref l,.int 0 0]}=H1;intro big it1 k1;have x:At s.heap l s.heap.objs.size H1.objs.size vs 0 #[] (H1.push {cls:= .type "list",data:= .seq #[]}):=
  ⟨λb o e=>G5 _ (k1 b o e),it1.at λo e=>G5 _ e,hl.at λo e=>G5 _ (k1 _ _ e),0,D9 _ rfl⟩
 have nlI:l≠s.heap.objs.size:=R8 ll;have nI:H1.objs.size≠s.heap.objs.size:=(R8 big).symm;have nl:H1.objs.size≠l:=(R8 (O2 ll big)).symm;have n1:s.heap.get? s.heap.objs.size=none:=Xp (P0 _);have n2:s.heap.get? H1.objs.size=none:=Xp (M3 big);obtain⟨c,e⟩:=x.store;have W:=bK (prog:=prog) (w:=w) calm s.heap.objs.size l nlI vs.toArray;have m0:v0∈vs:=by rw [ev];exact P8
 refine A8 dW ?_;rw [O6 Q8];refine wpAny_bind (K4 e rfl (wpAny_bind (cS (W.item 0 _ _ _ (by rw [ev];exact Z9 _) ⟨x.it,x.lst⟩ λu h' tk' pu st' k=> ?_))));have eu:u=v0:=by
  rw [fO,ev] at pu;injection pu with pu
  exact pu.symm
 subst eu;have y:=At.step x k nI n1 st'.1 st'.2;refine wpAny_bind (G8 ?_);refine wpAny_bind (fH (k _ _ (λz=>nI (G9.mp z)) e) rfl ?_);rw [again];refine G8 ⟨Q5 Q8 _,cA (Rz (s:=s) calm nlI nI nl n2 n1 cmp r 1 u _ tk' (by rw [ev];rfl) (by rw [ev];exact dX (B4 _)) m0 (At.put (st':= #[u,u]) y nI nl n2)) λres s' z=> ?_⟩;obtain⟨rfl,h2,tk2,rfl,k2⟩:=z;exact q h2 tk2 k2
end
end HT
namespace HT
open PySem PySem.Spec PyProof.Rows PySem.SeqAt
open PySem.AutoSeq1 (wpAny_loadPart')
open PySem.MeetsSeq PySem.MeetsSeq2 PySem.MeetsSeq3
inductive Lx (prog:S9)(w:N2)(A:T9)(s:G2):G0 G1->G0 G1->M6->Prop
 |nn:Lx prog w A s [] [] false
 |nc (u:G1) (us:G0 G1):Lx prog w A s [] (u::us) true
 |cn (v:G1) (vs:G0 G1):Lx prog w A s (v::vs) [] false
 |same {v u:G1} {vs us:G0 G1} {b:M6} (e:EqAt A s v u true) (t:Lx prog w A s vs us b):Lx prog w A s (v::vs) (u::us) b
 |unlike {v u:G1} {vs us:G0 G1} {b:M6} (e:EqAt A s v u false) (t: ∀ (Q E:G1->G2->Prop),Q (.bool b) s->R4 (R5 prog w) A (bW .Lt v u) Q E s):Lx prog w A s (v::vs) (u::us) b
theorem Lx.short {prog:S9}{w:N2}{A:T9}{s:G2}{vs us:G0 G1}{b:M6}{m n:G7}(t:Lx prog w A s vs us b)(z:vs.zip us= [])(l:vs.length+n=us.length+m):b=decide (m<n):=by
 cases t with
 |nn=>rw [A9] at l;exact(T1 (by omega)).symm
 |nc u us=>rw [A9,S4] at l;exact(D7 (by omega)).symm
 |cn v vs=>rw [A9,S4] at l;exact(T1 (by omega)).symm
 |same e t=>rw [aU] at z;cases z
 |unlike e t=>rw [aU] at z;cases z
theorem Vf (l b:P1)(items items2:M2 G1)(n n2:G7)(dd dd2:D0 P1)(sl sl2:M2 (D0 G1))(r:M6):
 Meets (Builtin.«tuple.__lt__» ⟨[.ref l,.ref b],[]⟩)
  (λA R s=>s.heap.get? l=some {cls:= .type "tuple",dict:=dd,data:= .seq items n,slots:=sl}/\s.heap.get? b=some {cls:= .type "tuple",dict:=dd2,data:= .seq items2 n2,slots:=sl2}/\
   (∀prog w,Lx prog w A.in1 s items.toList items2.toList r)/\R (.ok (.ret (.bool r))) s):=
 .of_wp λprog w A R s h=>by
  obtain⟨hp,g,d,tk,os⟩:=s;obtain⟨hl,hb,ht,h⟩:=h;have f2:=AutoSeq1.sub_tuple_tuple
  wp_walk using M5 hl,M5 hb,kL _ (λrest b s'=>b.1=none/\s'=⟨hp,g,d,tk,os⟩/\ ∃ (vs us:G0 G1),rest=vs.zip us/\Lx prog w A.in1 ⟨hp,g,d,tk,os⟩ vs us r/\vs.length+items2.size=us.length+items.size) _
  case turn=>
   rintro ⟨y,x⟩ rest b s' ⟨hb',rfl,vs,us,hz,t,hlen⟩;cases t with
   |nn=>cases hz
   |nc u us=>cases hz
   |cn v vs=>cases hz
   |same e t=>
    rw [aU] at hz;injection hz with hyx hrest
    injection hyx with hy hx
    subst hy hx;simp only [S4] at hlen;refine wpAny_bind (e prog w _ _ ?_)
    wp_walk
    exact⟨rfl,rfl,_,_,hrest,t,by omega⟩
   |unlike e t=>
    rw [aU] at hz;injection hz with hyx hrest
    injection hyx with hy hx
    subst hy hx;refine wpAny_bind (e prog w _ _ ?_);have hri:=λ{Q E:G1->G2->Prop}=>t Q E
    wp_walk using hri
    exact⟨_,rfl,by simpa using h⟩
  case fin=>
   rintro ⟨b1,b2⟩ s' ⟨hb',rfl,vs,us,hz,t,hlen⟩;simp only at hb';subst hb';have hv:=t.short hz.symm hlen;rw [hv] at h
   wp_walk
   exact⟨_,rfl,by simpa [j7] using h⟩
  case h=>
   exact⟨rfl,rfl,items.toList,items2.toList,rfl,ht prog w,by rw [D1,D1];omega⟩
theorem ZA {α:Type}{p vs:G0 α}{x:α}{items:M2 α}(e:items.toList=p++x::vs){i:G7}(l:p.length=i):items[((i:G7):P3).toNat]? =some x:=by
 rw [V6,<-N5,e,<-l];simp
theorem at_end {α:Type}{p:G0 α}{items:M2 α}(e:items.toList=p){i:G7}(l:p.length=i):items[((i:G7):P3).toNat]? =none:=by
 rw [V6,<-N5,e,<-l];simp
section
variable {prog:S9}{w:N2}{A:T9}{R:g8->G2->Prop}{s:G2}{l b:P1}{items items2:M2 G1}{n n2:G7}{dd dd2:D0 P1}{sl sl2:M2 (D0 G1)}{r:M6}
theorem WV (hl:s.heap.get? l=some {cls:= .type "list",dict:=dd,data:= .seq items n,slots:=sl})(hb:s.heap.get? b=some {cls:= .type "list",dict:=dd2,data:= .seq items2 n2,slots:=sl2})(h:R (.ok (.ret (.bool r))) s):
 ∀ {vs us:G0 G1},Lx prog w A.in1 s vs us r-> ∀ (i:G7) (p q:G0 G1),items.toList=p++vs->items2.toList=q++us->p.length=i->q.length=i->
  R4 (R5 prog w) A.in1 (Builtin.«list.__eq__.loop» ⟨[.ref l,.ref b,O8 i,O8 0],[]⟩) (λfin s'=>match fin with| .done f=>R (.ok f) s'| .again c'=>c'.quiet=true/\U3 (R5 prog w) A c' R s') (λe s'=>R (.error e) s') s:=by
 intro vs us t;obtain⟨hp,g,d,tk,os⟩:=s
 induction t with
 |nn=>
  intro i p q e1 e2 l1 l2;rw [J3] at e1 e2;have z1:items.size=i:=by rw [<-D1,e1];exact l1
  have z2:items2.size=i:=by rw [<-D1,e2];exact l2
  wp_walk using M5 hl,M5 hb
  rw [at_end e1 l1]
  wp_walk using M5 hl,M5 hb
  show R (.ok (.ret (.bool (decide (items.size<items2.size))))) _;rw [z1,z2,show decide (i<i)=false from T1 (M4 _)];exact h
 |nc u us=>
  intro i p q e1 e2 l1 l2;rw [J3] at e1;have z1:items.size=i:=by rw [<-D1,e1];exact l1
  have z2:i<items2.size:=by rw [<-D1,e2,D4,l2,S4];omega
  wp_walk using M5 hl,M5 hb
  rw [at_end e1 l1]
  wp_walk using M5 hl,M5 hb
  show R (.ok (.ret (.bool (decide (items.size<items2.size))))) _;rw [z1,show decide (i<items2.size)=true from D7 z2];exact h
 |cn v vs=>
  intro i p q e1 e2 l1 l2;rw [J3] at e2;have z1:i<items.size:=by rw [<-D1,e1,D4,l1,S4];omega
  have z2:items2.size=i:=by rw [<-D1,e2];exact l2
  wp_walk using M5 hl,M5 hb
  rw [ZA e1 l1,at_end e2 l2]
  wp_walk using M5 hl,M5 hb
  show R (.ok (.ret (.bool (decide (items.size<items2.size))))) _;rw [z2,show decide (items.size<i)=false from T1 (by omega)];exact h
 | @same v u vs us b0 e t ih=>
  intro i p q e1 e2 l1 l2
  wp_walk using M5 hl,M5 hb
  rw [ZA e1 l1,ZA e2 l2];refine wpAny_bind (e prog w _ _ ?_)
  wp_walk
  rw [show ((i:P3)+1)=((i+1:G7):P3) by omega];exact⟨Q5 plain_eq_loop _,A8 entry_eq_loop (by
   rw [O6 plain_eq_loop _];exact ih h (i+1) (p++ [v]) (q++ [u]) (by rw [e1,K5];rfl) (by rw [e2,K5];rfl) (by rw [D4,l1];rfl) (by rw [D4,l2];rfl))⟩
 | @unlike v u vs us b0 e t=>
  intro i p q e1 e2 l1 l2
  wp_walk using M5 hl,M5 hb
  rw [ZA e1 l1,ZA e2 l2];refine wpAny_bind (e prog w _ _ ?_);have hri:=λ{Q E:G1->G2->Prop}=>t Q E
  wp_walk using M5 hl,M5 hb
  rw [ZA e1 l1,ZA e2 l2]
  wp_walk using hri
  exact h
end
theorem Uo (l b:P1)(items items2:M2 G1)(n n2:G7)(dd dd2:D0 P1)(sl sl2:M2 (D0 G1))(r:M6):
 Meets (Builtin.«list.__lt__» ⟨[.ref l,.ref b],[]⟩)
  (λA R s=>s.heap.get? l=some {cls:= .type "list",dict:=dd,data:= .seq items n,slots:=sl}/\s.heap.get? b=some {cls:= .type "list",dict:=dd2,data:= .seq items2 n2,slots:=sl2}/\
   (∀prog w,Lx prog w A.in1 s items.toList items2.toList r)/\R (.ok (.ret (.bool r))) s):=by
 intro prog w A R s h;obtain⟨hl,hb,ht,h⟩:=h;have f3:=AutoSeq1.sub_list_list;have fin:=WV (prog:=prog) (w:=w) (A:=A) hl hb h (ht prog w) 0 [] [] rfl rfl rfl rfl;obtain⟨hp,g,d,tk,os⟩:=s
 wp_walk using M5 hl,M5 hb
 exact⟨Q5 plain_eq_loop _,A8 entry_eq_loop (by
  rw [O6 plain_eq_loop _];exact fin)⟩
end HT
namespace HT
open PySem PySem.Spec PyProof.Rows PySem.SeqAt
mutual
/-- may they be compared? -/
def alk:C7->C7->M6
 | .int _,.int _=>true
 | .tuple xs,.tuple ys=>alks xs ys
 | .list xs,.list ys=>alks xs ys
 |_,_=>false
def alks:G0 C7->G0 C7->M6
 |x::xs,y::ys=>alk x y&&alks xs ys
 |_,_=>true
end
mutual
def ltP:C7->C7->M6
 | .int i,.int j=>decide (i<j)
 | .tuple xs,.tuple ys=>ltPs xs ys
 | .list xs,.list ys=>ltPs xs ys
 |_,_=>false
def ltPs:G0 C7->G0 C7->M6
 | [],[]=>false
 | [],_::_=>true
 |_::_,[]=>false
 |x::xs,y::ys=>if C0 x y=true then ltPs xs ys else ltP x y
end
theorem NZ {prog:S9}{w:N2}{A:T9}{E:G1->G2->Prop}{s:G2}{l b:P1}{o o2:Obj}{items items2:M2 G1}{n n2:G7}{r:M6}{Q:G1->G2->Prop}(e1:s.heap.get? l=some o)(c1:o.cls= .type "tuple")(d1:o.data= .seq items n)(e2:s.heap.get? b=some o2)(c2:o2.cls= .type "tuple")(d2:o2.data= .seq items2 n2)
 (t: ∀prog w,Lx prog w A.in1 s items.toList items2.toList r)(hu:A.units<cLine)(q:Q (.bool r) s):R4 (R5 prog w) A (bW .Lt (.ref l) (.ref b)) Q E s:=by
 obtain⟨cls,dd,data,sl⟩:=o;obtain⟨cls2,dd2,qV,sl2⟩:=o2;simp only at c1 d1 c2 d2;subst c1 d1 c2 d2;have g:=Vf l b items items2 n n2 dd dd2 sl sl2 r;refine e5 (op:= .Lt) ⟨_,e1,rfl⟩ ⟨_,e2,rfl⟩ oR oM (n5 _ _) g ?_ hu;refine⟨e1,e2,t,?_⟩;exact And.intro (by intro x;cases x) q
theorem RB {prog:S9}{w:N2}{A:T9}{E:G1->G2->Prop}{s:G2}{l b:P1}{o o2:Obj}{items items2:M2 G1}{n n2:G7}{r:M6}{Q:G1->G2->Prop}(e1:s.heap.get? l=some o)(c1:o.cls= .type "list")(d1:o.data= .seq items n)(e2:s.heap.get? b=some o2)(c2:o2.cls= .type "list")(d2:o2.data= .seq items2 n2)
 (t: ∀prog w,Lx prog w A.in1 s items.toList items2.toList r)(hu:A.units<cLine)(q:Q (.bool r) s):R4 (R5 prog w) A (bW .Lt (.ref l) (.ref b)) Q E s:=by
 obtain⟨cls,dd,data,sl⟩:=o;obtain⟨cls2,dd2,qV,sl2⟩:=o2;simp only at c1 d1 c2 d2;subst c1 d1 c2 d2;have g:=Uo l b items items2 n n2 dd dd2 sl sl2 r;refine e5 (op:= .Lt) ⟨_,e1,rfl⟩ ⟨_,e2,rfl⟩ pA oS (oN _ _) g ?_ hu;refine⟨e1,e2,t,?_⟩;exact And.intro (by intro x;cases x) q
mutual
theorem Xq: ∀ (p q:C7) (A:T9) (s:G2) (v u:G1) (as bs:G0 P1),Reads s.heap v p as->Reads s.heap u q bs->p.canLay0=true->q.canLay0=true->alk p q=true->A.units+p.depth<cLine->
 ∀ (prog:S9) (w:N2) (Q E:G1->G2->Prop),Q (.bool (ltP p q)) s->R4 (R5 prog w) A (bW .Lt v u) Q E s
 | .int i,q,A,s,v,u,as,bs,rp,rq,c1,c2,al,hu,prog,w,Q,E,h=>by
  cases q with
  |int j=>
   cases rp;cases rq;exact(pK h:R4 (R5 prog w) A (N1 .Lt (.int i _) (.int j _)) Q E s)
  |none=>cases al
  |bool _=>cases al
  |str _=>cases al
  |list _=>cases al
  |tuple _=>cases al
  |dict _=>cases al
 | .tuple xs,q,A,s,v,u,as,bs,rp,rq,c1,c2,al,hu,prog,w,Q,E,h=>by
  cases q with
  |tuple ys=>
   cases rp with
   |tuple e1 k1 d1 r1=>
    cases rq with
    |tuple e2 k2 d2 r2=>
     have c1':M7 xs=true:=by simpa only [B2] using c1
     have c2':M7 ys=true:=by simpa only [B2] using c2
     have du:A.units+(B7 xs+1)<cLine:=by simpa only [A7] using hu
     exact NZ e1 k1 d1 e2 k2 d2 (λprog w=>lx_reads xs ys A.in1 s _ _ _ _ r1 r2 c1' c2' al (by show A.units+1+_<_;omega) prog w) (by omega) h
  |none=>cases al
  |bool _=>cases al
  |str _=>cases al
  |list _=>cases al
  |int _=>cases al
  |dict _=>cases al
 | .none,q,A,s,v,u,as,bs,rp,rq,c1,c2,al,hu,prog,w,Q,E,h=>by cases al
 | .bool _,q,A,s,v,u,as,bs,rp,rq,c1,c2,al,hu,prog,w,Q,E,h=>by cases al
 | .str _,q,A,s,v,u,as,bs,rp,rq,c1,c2,al,hu,prog,w,Q,E,h=>by cases al
 | .list xs,q,A,s,v,u,as,bs,rp,rq,c1,c2,al,hu,prog,w,Q,E,h=>by
  cases q with
  |list ys=>
   cases rp with
   |list e1 k1 d1 r1=>
    cases rq with
    |list e2 k2 d2 r2=>
     have c1':M7 xs=true:=by simpa only [B2] using c1
     have c2':M7 ys=true:=by simpa only [B2] using c2
     have du:A.units+(B7 xs+1)<cLine:=by simpa only [A7] using hu
     exact RB e1 k1 d1 e2 k2 d2 (λprog w=>lx_reads xs ys A.in1 s _ _ _ _ r1 r2 c1' c2' al (by show A.units+1+_<_;omega) prog w) (by omega) h
  |none=>cases al
  |bool _=>cases al
  |str _=>cases al
  |tuple _=>cases al
  |int _=>cases al
  |dict _=>cases al
 | .dict _,q,A,s,v,u,as,bs,rp,rq,c1,c2,al,hu,prog,w,Q,E,h=>by cases al
theorem lx_reads: ∀ (xs ys:G0 C7) (A:T9) (s:G2) (vs us:G0 G1) (as bs:G0 P1),ReadsAll s.heap vs xs as->ReadsAll s.heap us ys bs->M7 xs=true->M7 ys=true->alks xs ys=true->A.units+B7 xs<cLine->
 ∀ (prog:S9) (w:N2),Lx prog w A s vs us (ltPs xs ys)
 | [],[],A,s,vs,us,as,bs,ra,rb,_,_,_,_,prog,w=>by
  cases ra;cases rb;exact .nn
 | [],y::ys,A,s,vs,us,as,bs,ra,rb,_,_,_,_,prog,w=>by
  cases ra;cases rb with
  |cons r rs=>exact .nc _ _
 |x::xs,[],A,s,vs,us,as,bs,ra,rb,_,_,_,_,prog,w=>by
  cases rb;cases ra with
  |cons r rs=>exact .cn _ _
 |x::xs,y::ys,A,s,vs,us,as,bs,ra,rb,c1,c2,al,hu,prog,w=>by
  cases ra with
  |cons r rs=>
   cases rb with
   |cons r' rs'=>
    have d1:x.canLay0=true/\M7 xs=true:=by simpa [M7] using c1
    have d2:y.canLay0=true/\M7 ys=true:=by simpa [M7] using c2
    have al':alk x y=true/\alks xs ys=true:=by simpa [alks] using al
    have dx:A.units+x.depth<cLine/\A.units+B7 xs<cLine:=by simp only [B7] at hu;omega
    have eq:=eqAt_reads x y A s _ _ _ _ r r' d1.1 d2.1 (by have:=lS x.depth y.depth;omega);unfold ltPs;cases e:C0 x y with
    |true=>
     rw [e] at eq;rw [R0 rfl];exact .same eq (lx_reads xs ys A s _ _ _ _ rs rs' d1.2 d2.2 al'.2 dx.2 prog w)
    |false=>
     rw [e] at eq;rw [R7 P9];exact .unlike eq λQ E q=>Xq x y A s _ _ _ _ r r' d1.1 d2.1 al'.1 dx.1 prog w Q E q
end
end HT
namespace L2
open PySem PySem.Spec PyProof.Rows PySem.SeqAt HT
theorem Xr {K:G4}{H:Hp}: ∀ {xs:G0 (D×C7)} {vs:G0 V} {us:G0 G1},RelDs K H (xs.map (·.1)) vs->Vals vs us-> ∃zs:G0 (G1×V×(D×C7)),us=zs.map (·.1)/\vs=zs.map (·.2.1)/\xs=zs.map (·.2.2)/\ ∀z∈zs,RelV z.2.1 z.1/\RelD K H z.2.2.1 z.2.1
 | [],vs,us,r,q=>by
  have e:vs= []:=r;subst e;cases q;exact⟨[],rfl,rfl,rfl,λz hz=>absurd hz Q6⟩
 |x::xs,vs,us,r,q=>by
  obtain⟨v,vs',e,r1,r2⟩:=(show ∃v r,vs=v::r/\RelD K H x.1 v/\RelDs K H (xs.map (·.1)) r from r);subst e;cases q with
  |cons q1 q2=>
   obtain⟨zs,e1,e2,e3,g⟩:=Xr r2 q2;refine⟨(_,v,x)::zs,by rw [F9,<-e1],by rw [F9,<-e2],by rw [F9,<-e3],λz hz=> ?_⟩;rcases S5.mp hz with rfl|hz
   ·exact⟨q1,r1⟩
   ·exact g z hz
open Classical in
noncomputable def readOf (h:B3)(v:G1):C7:=if e: ∃p as,p.canLay0=true/\Reads h v p as then e.choose else .none
theorem Pt {h:B3}{v:G1}{p:C7}{as:G0 P1}(c:p.canLay0=true)(r:Reads h v p as):readOf h v=p:=by
 have e: ∃p as,p.canLay0=true/\Reads h v p as:=⟨p,as,c,r⟩;unfold readOf;rw [dif_pos e];obtain⟨as',c',r'⟩:=e.choose_spec;exact Reads.unique _ _ v _ _ c' r' r
theorem yh {lt:G1->G1->M6}{zs:G0 (G1×V×(D×C7))}{m:D×C7}(hlt: ∀z∈zs,∀y∈zs,lt z.1 y.1=ltP z.2.2.2 y.2.2.2)(low: ∀z∈zs,z.2.2=m\/(ltP m.2 z.2.2.2=true/\ltP z.2.2.2 m.2=false))(self:ltP m.2 m.2=false):
 ∀ (zr:G0 (G1×V×(D×C7))) (zb:G1×V×(D×C7)),(∀z∈zb::zr,z∈zs)->(∃z∈zb::zr,z.2.2=m)-> ∃z∈zs,yY lt zb.1 (zr.map (·.1))=z.1/\z.2.2=m
 | [],zb,sub,⟨z,hz,e⟩=>by
  rw [G9.mp hz] at e;exact⟨zb,sub zb P8,rfl,e⟩
 |z1::zr,zb,sub,hm=>by
  have mb:=sub zb P8;have m1:=sub z1 (R6 _ P8);have subr: ∀z∈zr,z∈zs:=λz hz=>sub z (R6 _ (R6 _ hz))
  have two: ∀y,y∈zs-> ∀z∈y::zr,z∈zs:=λy hy z hz=>by
   rcases S5.mp hz with rfl|hz
   ·exact hy
   ·exact subr z hz
  show ∃z∈zs,yY lt (if lt z1.1 zb.1=true then z1.1 else zb.1) (zr.map (·.1))=z.1/\_;rw [hlt z1 m1 zb mb]
  by_cases cb:zb.2.2=m
  ·have no:ltP z1.2.2.2 zb.2.2.2=false:=by
    rw [cb];rcases low z1 m1 with e|e
    ·rw [e];exact self
    ·exact e.2
   rw [R7 (by rw [no];exact P9)];exact yh hlt low self zr zb (two zb mb) ⟨zb,P8,cb⟩
  ·by_cases c1:z1.2.2=m
   ·have yes:ltP z1.2.2.2 zb.2.2.2=true:=by
     rw [c1];rcases low zb mb with e|e
     ·exact absurd e cb
     ·exact e.1
    rw [R0 yes];exact yh hlt low self zr z1 (two z1 m1) ⟨z1,P8,c1⟩
   ·have hr: ∃z∈zr,z.2.2=m:=by
     obtain⟨z,hz,e⟩:=hm;rcases S5.mp hz with rfl|hz
     ·exact absurd e cb
     ·rcases S5.mp hz with rfl|hz
      ·exact absurd e c1
      ·exact⟨z,hz,e⟩
    obtain⟨z,hz,e⟩:=hr
    by_cases c:ltP z1.2.2.2 zb.2.2.2=true
    ·rw [R0 c];exact yh hlt low self zr z1 (two z1 m1) ⟨z,R6 _ hz,e⟩
    ·rw [R7 c];exact yh hlt low self zr zb (two zb mb) ⟨z,R6 _ hz,e⟩
def AE:RDn:=λds h Q=> ∃ (a:P1) (xs:G0 (D×C7)) (m:D×C7),ds= [.lst a]/\h a=some (xs.map (·.1))/\(∀x∈xs,ToP h x.1 x.2/\x.2.canLay0=true/\x.2.depth<=60/\ ∀y∈xs,alk x.2 y.2=true)/\m∈xs/\(∀x∈xs,x=m\/(ltP m.2 x.2=true/\ltP x.2 m.2=false))/\ltP m.2 m.2=false/\Q m.1 h
theorem Ba {X:Cx}{k:G7}(hc:X.calm=true)(hr:Room k X.A):wD X (.builtin "min") AE:=by
 intro pins s σ H xs us Q I r h;obtain⟨ds,h,Qd,rd,rh,⟨a,xs,m,e,ha,g,hm,low,self,q⟩,post⟩:=h;subst e;obtain⟨v,e,r1⟩:=jq rd;obtain⟨vs,hH,r2⟩:=rh a _ ha;have e1:v= .ref a:=r1.1;subst e e1;obtain⟨u,rfl,ru⟩:=wX r;cases ru;obtain⟨its,rv,pl,hz⟩:=I.list (SqL.of hH);obtain⟨zs,rfl,rfl,rfl,gz⟩:=Xr r2 rv;have rz: ∀z∈zs,∃as,Reads s.heap z.1 z.2.2.2 as:=λz hz=>wa I rh (g _ (N8 hz)).1 (gz z hz).2 (gz z hz).1
 have pz: ∀z∈zs,readOf s.heap z.1=z.2.2.2:=λz hz=>by
  obtain⟨as,r⟩:=rz z hz;exact Pt (g _ (N8 hz)).2.1 r
 obtain⟨z0,zr,ez⟩: ∃z0 zr,zs=z0::zr:=by
  cases zs with
  |nil=>cases hm
  |cons z0 zr=>exact⟨z0,zr,rfl⟩
 have hu:=hr.un;refine HT.RA (lt:=λv u=>ltP (readOf s.heap v) (readOf s.heap u)) (v0:=z0.1) (r:=zr.map (·.1)) (I.ok.hd hc) pl.isList (by rw [ez];rfl) (λv hv u hu' s' E Q' kp q'=> ?_) λh' tk kp=> ?_
 ·obtain⟨z,hz,rfl⟩:=R1.mp hv;obtain⟨y,hy,rfl⟩:=R1.mp hu';obtain⟨as,ra⟩:=rz z hz;obtain⟨bs,rb⟩:=rz y hy;have g1:=g _ (N8 hz);have g2:=g _ (N8 hy);dsimp only at q';rw [pz z hz,pz y hy] at q';exact Xq _ _ _ s' _ _ _ _ (PyProof.Rows.Reads.keeps kp ra) (PyProof.Rows.Reads.keeps kp rb) g1.2.1 g2.2.1 (g1.2.2.2 _ (N8 hy)) (by show X.A.units+1+_<_;have:=g1.2.2.1;omega) _ _ _ _ q'
 ·obtain⟨z,hz,el,em⟩:=yh (lt:=λv u=>ltP (readOf s.heap v) (readOf s.heap u)) (m:=m) (λz hz y hy=>by rw [pz z hz,pz y hy]) (λz hz=>low _ (N8 hz)) self zr z0 (λz hz=>by rw [ez];exact hz) (by
   obtain⟨z,hz,e⟩:=R1.mp hm;exact⟨z,by rw [<-ez];exact hz,e⟩)
  rw [el];exact⟨z.2.1,H,I.kept kp,(gz z hz).1,post m.1 _ _ _ (.refl H) rh (by rw [<-em];exact(gz z hz).2) q⟩
end L2
namespace L2
open PySem PySem.Spec PyProof.Rows PySem.SeqAt
def zy:G0 (G0 P3)->G0 (G0 P3)->M6
 | [],[]=>false
 | [],_::_=>true
 |_::_,[]=>false
 |a::A,b::B=>if a=b then zy A B else HT.zo a b
theorem Pu: ∀A:G0 (G0 P3),zy A A=false
 | []=>rfl
 |a::A=>by show (if a=a then zy A A else _)=false;rw [R0 rfl];exact Pu A
theorem RC {a b c:G0 P3}(x:HT.zo a b=true)(y:HT.zo b c=true):HT.zo a c=true:=by
 rcases HT.Ve a c b x with z|z
 ·exact z
 ·rw [HT.Jf _ _ y] at z;cases z
theorem WW: ∀ {A B C:G0 (G0 P3)},zy A B=true->zy B C=true->zy A C=true
 | [],[],_,x,_=>by cases x
 | [],_::_,[],_,y=>by cases y
 | [],_::_,_::_,_,_=>rfl
 |_::_,[],_,x,_=>by cases x
 |_::_,_::_,[],_,y=>by cases y
 |a::A,b::B,c::C,x,y=>by
  change (if a=b then zy A B else HT.zo a b)=true at x
  change (if b=c then zy B C else HT.zo b c)=true at y
  show (if a=c then zy A C else HT.zo a c)=true
  by_cases e1:a=b
  ·subst e1;rw [R0 rfl] at x
   by_cases e2:a=c
   ·rw [R0 e2] at y ⊢;exact WW x y
   ·rw [R7 e2] at y ⊢;exact y
  ·rw [R7 e1] at x
   by_cases e2:b=c
   ·subst e2;rw [R7 e1];exact x
   ·rw [R7 e2] at y;have z:=RC x y;have ne:a≠c:=λw=>by subst w;rw [HT.Jf _ _ x] at y;cases y
    rw [R7 ne];exact z
theorem Xs: ∀A B:G0 (G0 P3),A=B\/zy A B=true\/zy B A=true
 | [],[]=> .inl rfl
 | [],_::_=> .inr (.inl rfl)
 |_::_,[]=> .inr (.inr rfl)
 |a::A,b::B=>by
  show _\/(if a=b then zy A B else HT.zo a b)=true\/(if b=a then zy B A else HT.zo b a)=true
  by_cases e:a=b
  ·subst e;rw [R0 rfl,R0 rfl];rcases Xs A B with z|z|z
   ·exact .inl (by rw [z])
   ·exact .inr (.inl z)
   ·exact .inr (.inr z)
  ·rw [R7 e,R7 (E4 e)];cases x:HT.zo a b with
   |true=>exact .inr (.inl rfl)
   |false=>
    cases y:HT.zo b a with
    |true=>exact .inr (.inr rfl)
    |false=>exact absurd (HT.Zz _ _ x y) e
theorem Pv {A B:G0 (G0 P3)}(x:zy A B=true):zy B A=false:=by
 cases y:zy B A with
 |false=>rfl
 |true=>have:=WW x y;rw [Pu] at this;cases this
theorem WX: ∀ {xs:G0 (G0 (G0 P3))},xs≠ []-> ∃m∈xs,∀x∈xs,x=m\/zy m x=true
 | [],h=>absurd rfl h
 | [a],_=>⟨a,G9.mpr rfl,λx hx=> .inl (G9.mp hx)⟩
 |a::b::xs,_=>by
  obtain⟨m,hm,low⟩:=WX (xs:=b::xs) (λq=>by cases q);rcases Xs a m with e|e|e
  ·subst e;exact⟨a,P8,λx hx=>(S5.mp hx).elim .inl λz=>low x z⟩
  ·refine⟨a,P8,λx hx=>(S5.mp hx).elim .inl λz=> ?_⟩;rcases low x z with q|q
   ·subst q;exact .inr e
   ·exact .inr (WW e q)
  ·refine⟨m,R6 _ hm,λx hx=>(S5.mp hx).elim (λz=> ?_) λz=>low x z⟩;subst z;exact .inr e
theorem Xt: ∀a b:G0 P3,HT.ltPs (a.map .int) (b.map .int)=HT.zo a b
 | [],[]=>rfl
 | [],_::_=>rfl
 |_::_,[]=>rfl
 |x::a,y::b=>by
  show (if (x==y)=true then HT.ltPs (a.map .int) (b.map .int) else decide (x<y))=if x=y then HT.zo a b else decide (x<y)
  rw [Xt a b]
  by_cases c:x=y
  ·rw [R0 c,R0 (by simpa using c)]
  ·rw [R7 c,R7 (by simpa using c)]
theorem Xu: ∀a b:G0 P3,HT.alks (a.map .int) (b.map .int)=true
 | [],_=>by unfold HT.alks;rfl
 |_::_,[]=>rfl
 |x::a,y::b=>by
  show (true&&HT.alks (a.map .int) (b.map .int))=true;rw [Xu a b];rfl
theorem Vg: ∀A B:G0 (G0 P3),HT.ltPs (A.map wW) (B.map wW)=zy A B
 | [],[]=>rfl
 | [],_::_=>rfl
 |_::_,[]=>rfl
 |a::A,b::B=>by
  show (if C0 (wW a) (wW b)=true then HT.ltPs (A.map wW) (B.map wW) else HT.ltPs (a.map .int) (b.map .int))=if a=b then zy A B else HT.zo a b
  rw [Pd,Vg A B,Xt]
  by_cases c:a=b
  ·rw [R0 (D7 c),R0 c]
  ·rw [R7 (by rw [T1 c];exact P9),R7 c]
theorem Up (A B:G0 (G0 P3)):HT.ltP (WK A) (WK B)=zy A B:=Vg A B
theorem Vh: ∀A B:G0 (G0 P3),HT.alks (A.map wW) (B.map wW)=true
 | [],_=>by unfold HT.alks;rfl
 |_::_,[]=>rfl
 |a::A,b::B=>by
  show (HT.alks (a.map .int) (b.map .int)&&HT.alks (A.map wW) (B.map wW))=true;rw [Xu,Vh A B];rfl
theorem Bb (A B:G0 (G0 P3)):HT.alk (WK A) (WK B)=true:=Vh A B
def jG (n:G7):G7->G0 (G0 G7)
 |0=> [[]]
 |k+1=>(jG n k).flatMap λo=>((G6 n).filter λp=> !decide (p∈o)).map λp=>o++ [p]
variable {n:G7}
theorem WY: ∀ {k:G7} {o:G0 G7},o∈jG n k->o.length=k/\ ∀x∈o,x<n
 |0,o,h=>by rw [G9.mp h];exact⟨rfl,λx hx=>by cases hx⟩
 |k+1,o,h=>by
  obtain⟨p,hp,ho⟩:=bO.mp h;obtain⟨x,hx,rfl⟩:=R1.mp ho;obtain⟨a,b⟩:=WY hp;refine⟨by rw [D4,a];rfl,λy hy=> ?_⟩;rcases T5.mp hy with z|z
  ·exact b y z
  ·rw [G9.mp z];exact P6.mp (L5.mp hx).1
theorem JY: ∀n,n<6-> ∀k,k<6->(jG n k).length<=120:=by decide +kernel
theorem Pw: ∀n,n<6->((jG n n).all λo=>o.isPerm (G6 n))=true:=by decide +kernel
theorem vF (h5:n<=5){o:G0 G7}(h:o∈jG n n):Ordr n o:=List.isPerm_iff.mp (N7.mp (Pw n (by omega)) o h)
variable {o:G0 G7}
theorem Vi (d:o.Nodup)(lt: ∀x∈o,x<n): ∀k,k<=o.length->o.take k∈jG n k
 |0,_=>by rw [List.take_zero];exact G9.mpr rfl
 |k+1,h=>by
  have hk:k<o.length:=h;refine bO.mpr ⟨o.take k,Vi d lt k (by omega),R1.mpr ⟨o[k],L5.mpr ⟨P6.mpr (lt _ (C5 hk)),?_⟩,by rw [T2,P2 hk];rfl⟩⟩;rw [Bool.not_eq_true',dR];intro z;obtain⟨j,hj,e⟩:=List.mem_take_iff_getElem.mp z;have a:=d.idxOf_getElem j (by omega);have b:=d.idxOf_getElem k hk;rw [e,b] at a;omega
theorem ZB (h:Ordr n o):o∈jG n n:=by
 have:=Vi h.nodup (λx hx=>P6.mp (h.mem_iff.mp hx)) n (by rw [h.ord.len];exact P0 _)
 rwa [M1 (by rw [h.ord.len];exact P0 _)] at this
def Orb (n:G7)(M x:G0 (G0 P3)):Prop:= ∃o,Ordr n o/\x=YQ n o M
theorem WZ (h:Ordr n o){i:G7}(hi:i<n):(wb n o).idxOf i=o.getD i 0:=by
 have lt:(wb n o).idxOf i<n:=h.back.ord.lt hi;have e:=Rk h hi;have a:o.idxOf ((wb n o).idxOf i)<o.length:=by rw [e,h.ord.len];exact hi
 have b:=aT a;rw [D5,P2 (by rw [h.ord.len];exact hi)];show _=o[i]'(by rw [h.ord.len];exact hi);have c:o[o.idxOf ((wb n o).idxOf i)]=o[i]'(by rw [h.ord.len];exact hi):=by congr 1
 rw [<-c];exact b.symm
def Lst (n:G7)(M m:G0 (G0 P3)):Prop:=Orb n M m/\ ∀x,Orb n M x->x=m\/zy m x=true
variable {M m:G0 (G0 P3)}
theorem Lst.only {k:G0 (G0 P3)}(a:Lst n M m)(b:Lst n M k):m=k:=by
 rcases a.2 k b.1 with e|e
 ·exact e.symm
 ·rcases b.2 m a.1 with e'|e'
  ·exact e'
  ·rw [Pv e] at e';cases e'
theorem Mr {e:G7}(h5:n<=5)(hm:m∈(jG n n).map λo=>YQ n o M)(low: ∀x∈(jG n n).map λo=>YQ n o M,x=m\/zy m x=true):Lst n M m:=by
 obtain⟨o,ho,rfl⟩:=R1.mp hm;exact⟨⟨o,vF h5 ho,rfl⟩,λx ⟨p,hp,e⟩=>low x (R1.mpr ⟨p,ZB hp,e.symm⟩)⟩
section
variable {α β:Type}{i i':G7}{js:G0 G7}{ti ti':TID}{te:TED}{σ:SD}{h:HD}{Q:KD}{j:ItD}
theorem EH {tt:TTD}(xs:G0 α)(c:α->D)(ys:α->G0 β)(c':β->D)(ok:α->β->M6)(g:α->β->D)(hz:(xs.flatMap ys).length<=1000)(hj:j h=some (xs.map c))(ht: ∀R:ItD->HD->Prop,R j h->ti σ h R)
 (hin: ∀x∈xs,∀R:ItD->HD->Prop,R (λ_=>some ((ys x).map c')) h->ti' ((jI js σ).set i (some (c x))) h R)
 (hp: ∀x∈xs,∀y∈ys x,∀Q':M6->HD->Prop,Q' (ok x y) h->tt (((jI js σ).set i (some (c x))).set i' (some (c' y))) h Q')
 (he: ∀x∈xs,∀y∈ys x,∀Q':KD,Q' (g x y) h->te (((jI js σ).set i (some (c x))).set i' (some (c' y))) h Q')(hq: ∀p,h p=none->Q (.lst p) (wC h p (xs.flatMap λx=>((ys x).filter (ok x)).map (g x)))):DU (bN i) js ti yF i' ti' tt te σ h Q:=by
 have fl: ∀x k,(((ys x).take k).filter (ok x)).length<=(ys x).length:=λx k=>S7 (U4 _ _) (by rw [N3];exact W5 _ _)
 have len: ∀l:G0 α,(l.flatMap λx=>((ys x).filter (ok x)).map (g x)).length<=(l.flatMap ys).length:=λl=>by
  induction l with
  |nil=>exact P0 _
  |cons x l ih=>
   rw [N6,N6,D4,D4,G3];have:=U4 (ok x) (ys x);omega
 have lek: ∀k,((xs.take k).flatMap ys).length<=(xs.flatMap ys).length:=λk=>by
  conv=>rhs;rw [<-Y1 k xs,B1,D4]
  omega
 have lek1: ∀k x,xs[k]? =some x->((xs.take k).flatMap ys).length+(ys x).length<=(xs.flatMap ys).length:=λk x hx=>by
  have:=lek (k+1);rw [T2,hx,B1,D4] at this;simpa using this
 refine ht _ ⟨xs.length,λk zs h'=>h'=h/\zs=(xs.take k).flatMap λx=>((ys x).filter (ok x)).map (g x),⟨rfl,by simp⟩,?_⟩;rintro k zs h' ⟨rfl,rfl⟩;refine⟨M3 (jC (S7 (len _) (S7 (lek k) hz))),xs.map c,hj,by simp,λhl p hp=> ?_,λd hd=>⟨_,rfl,?_⟩⟩
 ·rw [M1 (by simpa using hl)];exact hq p hp
 ·unfold yF;dsimp only;rw [R0 rfl];rw [P4] at hd;cases hx:xs[k]? with
  |none=>rw [hx] at hd;cases hd
  |some x=>
   rw [hx] at hd;cases hd;have xm:=S0 hx;have r1:=lek1 k x hx;refine hin x xm _ ⟨(ys x).length,λm zs h2=>h2=h'/\zs=((xs.take k).flatMap λx=>((ys x).filter (ok x)).map (g x))++(((ys x).take m).filter (ok x)).map (g x),⟨rfl,by simp⟩,?_⟩;rintro m zs h2 ⟨rfl,rfl⟩;refine⟨?_,(ys x).map c',rfl,by simp,λhl=>⟨h2,Sub.refl _,rfl,?_⟩,λd hd=> ?_⟩
   ·rw [D4,G3];have a:=len (xs.take k);have b:=fl x m;exact M3 (jC (by omega))
   ·have hm:(ys x).take m=ys x:=M1 (by simpa using hl);rw [hm,T2,hx,B1];simp
   ·rw [P4] at hd;cases hy:(ys x)[m]? with
    |none=>rw [hy] at hd;cases hd
    |some y=>
     rw [hy] at hd;cases hd;have ym:=S0 hy;refine hp x xm y ym _ ?_;cases e:ok x y with
     |true=>
      refine QJ (he x xm y ym _ ⟨h2,Sub.refl _,rfl,?_⟩);rw [T2,hy];simp [e]
     |false=>
      refine VQ ⟨h2,Sub.refl _,rfl,?_⟩;rw [T2,hy];simp [e]
end
theorem Xv {xs:G0 (G0 (G0 P3))}{A:P1}{h:HD}(hm:m∈xs)(low: ∀x∈xs,x=m\/zy m x=true)(kA:h A=some (xs.map jf)): ∃ys:G0 (D×C7),h A=some (ys.map (·.1))/\(∀x∈ys,ToP h x.1 x.2/\x.2.canLay0=true/\x.2.depth<=60/\ ∀y∈ys,HT.alk x.2 y.2=true)/\(jf m,WK m)∈ys/\(∀x∈ys,x=(jf m,WK m)\/(HT.ltP (WK m) x.2=true/\HT.ltP x.2 (WK m)=false))/\HT.ltP (WK m) (WK m)=false:=by
 refine⟨xs.map (λU=>(jf U,WK U)),by rw [kA,T6];rfl,?_,R1.mpr ⟨_,hm,rfl⟩,?_,by rw [Up];exact Pu m⟩
 ·intro x hx;obtain⟨U,hU,rfl⟩:=R1.mp hx;refine⟨Uc _ U,?_,?_,λy hy=> ?_⟩
  ·show B2 (.tuple (U.map wW))=true;simp only [B2];exact wF U
  ·show A7 (.tuple (U.map wW))<=60;have:=yB U;simp only [A7];omega
  ·obtain⟨W,hW,rfl⟩:=R1.mp hy;exact Bb U W
 ·intro x hx;obtain⟨U,hU,rfl⟩:=R1.mp hx;rcases low U hU with e|e
  ·exact .inl (by rw [e])
  ·exact .inr ⟨by rw [Up];exact e,by rw [Up];exact Pv e⟩
theorem Vj:jG n n≠ []:=λz=>by
 have:=ZB (n:=n) (List.Perm.refl (G6 n));rw [z] at this;cases this
def ON:RDn:=λds h Q=>(∃i j:P3,ds= [.int i,.int j]/\Q (.int (if j<i then j else i)) h)\/AE ds h Q
theorem Px {X:Cx}{k:G7}(hc:X.calm=true)(hr:Room k X.A):wD X (.builtin "min") ON:=by
 intro pins s σ H xs us Q I r h;obtain⟨ds,h,Qd,rd,rh,z,post⟩:=h;rcases z with ⟨i,j,rfl,z⟩|z
 ·refine Ge hc pins s σ H xs us Q I r ⟨i,j,?_,post (.int (if j<i then j else i)) _ _ _ (.refl H) rh rfl z⟩;obtain⟨v,vr,e,r1,r2⟩:=(show ∃v r,xs=v::r/\RelD X.K H (.int i) v/\RelDs X.K H [.int j] r from rd);obtain⟨w,e2,r3⟩:=jq r2;rw [e,e2,show v= .int i from r1,show w= .int j from r3]
 ·exact Ba hc hr pins s σ H xs us Q I r ⟨ds,h,Qd,rd,rh,z,post⟩
section
variable {α:Type}{i:G7}{js:G0 G7}{ti:TID}{te:TED}{σ:SD}{h:HD}{Q:KD}
theorem Ms (xs:G0 α)(c g:α->D)(P:P1->HD->Prop)(hz:xs.length<=1000)(ht: ∀R:ItD->HD->Prop,(∀A h1,P A h1->R (λh=>h A) h1)->ti σ h R)(hP: ∀A h1,P A h1->h1 A=some (xs.map c))(he: ∀A h1,P A h1-> ∀x∈xs,∀Q':KD,Q' (g x) h1->te ((jI js σ).set i (some (c x))) h1 Q')(hq: ∀A h1,P A h1-> ∀p,h1 p=none->Q (.lst p) (wC h1 p (xs.map g))):Zm (bN i) js ti yF te σ h Q:=
 ht _ λA h1 hp=>(lcA (ti:=λ_ h R=>R (λh=>h A) h) (j:=λh=>h A) xs c g hz (hP A h1 hp) (λR r=>r) (he A h1 hp) (hq A h1 hp):Zm (bN i) js (λ_ h R=>R (λh=>h A) h) yF te σ h1 Q)
end
theorem Bc (ho:Ordr n o):D.tup (o.map λi=>D.tup (o.map λj=>D.int (ent M i j)))=jf (YQ n (wb n o) M):=by
 have e:=jS o 0;rw [ho.ord.len] at e;have m: ∀ {β:Type} (f:G7->β),o.map f=(G6 n).map λi=>f (o.getD i 0):=λf=>by
  conv=>lhs;rw [e]
  rw [T6];rfl
 rw [m];have e2:((G6 n).map λi=>D.tup (o.map λj=>D.int (ent M (o.getD i 0) j)))=(G6 n).map λi=>D.tup ((G6 n).map λj=>D.int (ent M (o.getD i 0) (o.getD j 0))):=M9 λi _=>by rw [m]
 rw [e2,Mo];refine congrArg jf (WH λi j hi hj=> ?_);rw [WZ ho hi,WZ ho hj]
theorem Bd {e:G7}(hM:Sq n e M)(h5:n<=5)(hm:m∈(jG n n).map λo=>YQ n (wb n o) M)(low: ∀x∈(jG n n).map λo=>YQ n (wb n o) M,x=m\/zy m x=true):Lst n M m:=by
 obtain⟨o,ho,rfl⟩:=R1.mp hm;refine⟨⟨_,(vF h5 ho).back,rfl⟩,λx ⟨p,hp,ex⟩=>low x (R1.mpr ⟨wb n p,ZB hp.back,?_⟩)⟩;subst ex;refine(hM.ren hp.back.back.ord).ext (hM.ren hp.ord) λi j hi hj=> ?_
 have g: ∀k,k<n->(wb n p).getD k 0=p.idxOf k:=λk hk=>by
  unfold wb;rw [D5,P4,F1 hk];rfl
 rw [GV hi hj,GV hi hj,WZ hp.back hi,WZ hp.back hj,g i hi,g j hj]
end L2
namespace L2
open PySem PySem.Spec PyProof.Rows
def s5:G7->G7
 |0=>0
 |d+1=>5*s5 d+1
theorem Py: ∀d,4*s5 d+1=5^d
 |0=>rfl
 |d+1=>by have:=Py d;rw [L1];show 4*(5*s5 d+1)+1=_;omega
theorem Mt (a:G7): ∀b,s5 (a+b)=5^b*s5 a+s5 b
 |0=>by show s5 a=1*s5 a+0;omega
 |b+1=>by
  show 5*s5 (a+b)+1=5^(b+1)*s5 a+(5*s5 b+1);rw [Mt a b,L1,aZ,Q1 (5^b) 5,gX];omega
theorem Mu: ∀d,s5 d%2=d%2
 |0=>rfl
 |d+1=>by have:=Mu d;show (5*s5 d+1)%2=_;omega
theorem FN (m:G7):s5 (2*m)=2*(s5 m*(2*s5 m+1)):=by
 rw [Nat.two_mul,Mt,<-Py m];have:(4*s5 m+1)*s5 m+s5 m=2*(s5 m*(2*s5 m+1)):=by
  rw [lF,aZ,aZ];have e1:4*s5 m*s5 m=4*(s5 m*s5 m):=gX ..;have e2:s5 m*(2*s5 m)=2*(s5 m*s5 m):=by rw [Nat.mul_left_comm]
  rw [e1,e2];omega
 exact this
theorem Mv (k x:G7):Nat.Coprime (2^k) (2*x+1):=by
 refine Nat.Coprime.pow_left k ?_;show lX 2 (2*x+1)=1;rw [Nat.gcd_rec,show (2*x+1)%2=1 by omega];rfl
theorem Mw: ∀ (k d:G7),2^k∣s5 d->2^k∣d
 |0,d,_=>by rw [bG];exact Nat.one_dvd _
 |k+1,d,h=>by
  have ev:d%2=0:=by
   rw [<-Mu d];exact e6 (Nat.dvd_trans ⟨2^k,by rw [L1,Q1]⟩ h)
  obtain⟨m,rfl⟩: ∃m,d=2*m:=⟨d / 2,by omega⟩;rw [FN,L1,Q1] at h;have h1:2^k∣s5 m*(2*s5 m+1):=Nat.dvd_of_mul_dvd_mul_left (by decide) h;have h2:=Mw k m ((Mv k (s5 m)).dvd_of_dvd_mul_right h1);rw [L1,Q1];exact Nat.mul_dvd_mul_left 2 h2
def f5 (N:G7):G7->G7->G7
 |0,a=>a
 |d+1,a=>(f5 N d a*5+1)%N
variable {N:G7}
theorem FO (a:G7): ∀d,f5 N d a%N=(5^d*a+s5 d)%N
 |0=>by show a%N=(1*a+0)%N;rw [Nat.one_mul,aA]
 |d+1=>by
  show (f5 N d a*5+1)%N%N=(5^(d+1)*a+(5*s5 d+1))%N;rw [pB,gB,pE,FO a d,<-pE,<-gB,lF,L1]
  congr 1
  have:5^d*a*5=5^d*5*a:=by rw [Nat.mul_right_comm]
  omega
theorem FP (hN:0<N){a:G7}(ha:a<N): ∀d,f5 N d a<N
 |0=>ha
 |d+1=>K9 _ hN
theorem Mx (a:G7)(b:G7): ∀d,f5 N (b+d) a=f5 N d (f5 N b a)
 |0=>rfl
 |d+1=>by show (f5 N (b+d) a*5+1)%N=_;rw [Mx a b d];rfl
variable {k:G7}
theorem RD {a d:G7}(ha:a<2^k)(d0:0<d)(hd:d<2^k):f5 (2^k) d a≠a:=λe=>by
 have e1:=FO (N:=2^k) a d;rw [e] at e1;have le:a<=5^d*a+s5 d:=S7 (bC a (lG (by decide))) (kS _ _);have dv:2^k∣5^d*a+s5 d-a:=bB (Nat.sub_mod_eq_zero_of_mod_eq e1.symm);have e2:5^d*a+s5 d-a=s5 d*(2*(2*a)+1):=by
  rw [<-Py d,lF,aZ];have:4*s5 d*a=s5 d*(2*(2*a)):=by
   rw [Q1 4,gX];congr 1;omega
  omega
 rw [e2] at dv;have:=nN d0 (Mw k d ((Mv k (2*a)).dvd_of_dvd_mul_right dv));omega
theorem Be {a:G7}(hN:N=2^k)(ha:a<N): ∀ {i j:G7},i<j->j<N->f5 N i a≠f5 N j a:=λ{i j} ij jN e=>by
 subst hN;have:=Mx (N:=2^k) a i (j-i);rw [Q0 (M3 ij)] at this;exact RD (FP (lG (by decide)) ha i) (by omega) (by omega) ((this.symm.trans e.symm))
theorem Bf: ∀ {xs:G0 G7},xs.Nodup->(∀x∈xs,x<N)->N<=xs.length-> ∀e,e<N->e∈xs:=λ{xs} nd lt le e he=>by
 have p:(G6 N).length<=(xs.filter λx=>decide (x<N)).length:=by
  rw [D6,List.filter_eq_self.mpr λx hx=>D7 (lt x hx)];exact le
 refine B0 λno=> ?_
 have key: ∀ (ys zs:G0 G7),ys.Nodup->(∀y∈ys,y∈zs)->ys.length<=zs.length:=by
  intro ys
  induction ys with
  |nil=>intro zs _ _;exact B4 _
  |cons y ys ih=>
   intro zs d s;obtain⟨d1,d2⟩:=L7.mp d;have hy:=s y P8;have:=ih (zs.erase y) d2 λx hx=>(Y8 (show x≠y from λq=>d1 (by rw [<-q];exact hx))).mpr (s x (R6 _ hx))
   rw [V9 hy] at this;have:0<zs.length:=X6 hy;rw [S4];omega
 have:=key (e::xs) (G6 N) (L7.mpr ⟨no,nd⟩) λy hy=>by
  rcases S5.mp hy with q|q
  ·rw [q];exact P6.mpr he
  ·exact P6.mpr (lt y q)
 rw [S4,D6] at this;omega
theorem Mz {a e:G7}(hN:N=2^k)(ha:a<N)(he:e<N): ∃m,m<N/\f5 N m a=e:=by
 have nd:((G6 N).map λm=>f5 N m a).Nodup:=by
  rw [cO,A2];refine C1.mpr λi j hi hj ij=> ?_
  rw [O5,O5];rw [D6] at hj;exact Be hN ha ij hj
 have:=Bf nd (λx hx=>by
  obtain⟨m,_,rfl⟩:=R1.mp hx;exact FP (by rw [hN];exact lG (by decide)) ha m) (by rw [G3,D6];exact P0 _) e he
 obtain⟨m,hm,e⟩:=R1.mp this;exact⟨m,P6.mp hm,e⟩
def za (t:S6):G7->A4->A4
 |0,p=>p
 |n+1,p=>za t n (t.advance p)
theorem vG (t:S6): ∀ (a b:G7) (p:A4),za t (a+b) p=za t b (za t a p)
 |0,b,p=>by rw [V5];rfl
 |a+1,b,p=>by rw [iC];exact vG t a b _
def Uq (t:S6)(i q:G7)(d:D0 G7):A4:= {j:=i,more:=C6 t.mask i-i,i:=i,perturb:=q,dummy:=d}
theorem yZ (t:S6): ∀ (m:G7) (p:A4),p.more=m->za t (m+1) p=Uq t ((p.i*5+1+p.perturb / 32)%(t.mask+1)) (p.perturb / 32) p.dummy
 |0,p,e=>by
  show t.advance p=_;unfold Q9;rw [R7 (by omega)];rfl
 |m+1,p,e=>by
  have a:t.advance p= {p with j:=p.j+1,more:=p.more-1}:=by unfold Q9;rw [R0 (by omega)]
  show za t (m+1) (t.advance p)=_;rw [a,yZ t m _ (by show p.more-1=m;omega)]
theorem Pz (mask i:G7):C6 mask i-i<=9:=by unfold C6;split<;>omega
def Yv (N:G7)(b:G7):G7->G7
 |0=>b%N
 |L+1=>(Yv N b L*5+1+b / 32^(L+1))%N
theorem PB (t:S6)(h:P3): ∀L,∃n,n<=10*L/\za t n (t.probeStart h)=Uq t (Yv (t.mask+1) (R3 h) L) (R3 h / 32^L) none
 |0=>⟨0,P0 _,by rw [bG,gC];rfl⟩
 |L+1=>by
  obtain⟨n,hn,e⟩:=PB t h L;have s:=Pz t.mask (Yv (t.mask+1) (R3 h) L);refine⟨n+(C6 t.mask (Yv (t.mask+1) (R3 h) L)-Yv (t.mask+1) (R3 h) L+1),by omega,?_⟩;rw [vG,e];refine(yZ t _ (Uq t _ _ none) rfl).trans ?_;show Uq t ((Yv (t.mask+1) (R3 h) L*5+1+R3 h / 32^L / 32)%(t.mask+1)) (R3 h / 32^L / 32) none=_;rw [X7,<-L1];rfl
theorem Bg (h:P3):R3 h<2^64:=by unfold R3;omega
theorem Ya (h:P3): ∀m,Yv N (R3 h) (13+m)=f5 N m (Yv N (R3 h) 13)
 |0=>rfl
 |m+1=>by
  show (Yv N (R3 h) (13+m)*5+1+R3 h / 32^(13+m+1))%N=(f5 N m (Yv N (R3 h) 13)*5+1)%N;rw [Ya h m,Nat.div_eq_of_lt (M0 (Bg h) ?_),aA];exact S7 (show 2^64<=32^13 by decide) (K3 (by decide) (by omega))
variable {t:S6}
theorem RE (hN:t.mask+1=2^k)(h:P3){e:G7}(he:e<=t.mask): ∃n,n<10*C9 t.mask/\(za t n (t.probeStart h)).j=e:=by
 obtain⟨m,hm,em⟩:=Mz hN (a:=Yv (t.mask+1) (R3 h) 13) (K9 _ (Z9 _)) (show e<t.mask+1 by omega);obtain⟨n,hn,en⟩:=PB t h (13+m);refine⟨n,by unfold C9;omega,?_⟩;rw [en,<-em,<-Ya h m];rfl
theorem PC {P:G7->Prop}: ∀n,P n-> ∃m,m<=n/\P m/\ ∀k,k<m-> ¬P k:=λn=>by
 induction n using G7.strongRecOn with
 |ind n ih=>
  intro h;rcases rC (∃k,k<n/\P k) with ⟨k,lt,pk⟩|no
  ·obtain⟨m,a,b,c⟩:=ih k lt pk;exact⟨m,by omega,b,c⟩
  ·exact⟨n,P0 _,h,λk lt pk=>no ⟨k,lt,pk⟩⟩
variable {h:P3}
theorem MA {f:G7->P3}(d:t.dummies= #[]): ∀ (n fuel:G7) (p:A4),n<fuel->t.slot (za t n p).j= .empty->(∀k,k<n->t.slot (za t k p).j≠ .empty)->p.dummy=none->
 (E9 t f h fuel p=some (.empty (za t n p).j none)/\ ∀k,k<n-> ∀i,t.slot (za t k p).j= .live i->f i≠h)\/
 (∃k i,k<n/\t.slot (za t k p).j= .live i/\f i=h/\(∀k',k'<k-> ∀i',t.slot (za t k' p).j= .live i'->f i'≠h)/\E9 t f h fuel p=some (.candidate (za t k p).j i (za t (k+1) p)))
 |_,0,_,lt,_,_,_=>absurd lt (J5 _)
 |0,fuel+1,p,_,he,_,hd=>by
  refine .inl ⟨?_,λk hk=>absurd hk (J5 _)⟩;have he:t.slot p.j= .empty:=he;unfold E9;rw [he,hd];rfl
 |n+1,fuel+1,p,lt,he,ne,hd=>by
  have h0:t.slot p.j≠ .empty:=ne 0 (Z9 _);cases hs:t.slot p.j with
  |empty=>exact absurd hs h0
  |dummy=>exact absurd hs (HT.Wl d)
  |live i=>
   by_cases e:f i=h
   ·refine .inr ⟨0,i,Z9 _,hs,e,λk' hk=>absurd hk (J5 _),?_⟩;unfold E9;rw [hs];show (if (f i==h)=true then _ else _)=_;rw [R0 (by rw [e];exact Q7 h)];rfl
   ·have ad:(t.advance p).dummy=none:=by unfold Q9;split<;>exact hd
    have step:E9 t f h (fuel+1) p=E9 t f h fuel (t.advance p):=by
     conv=>lhs;unfold E9
     rw [hs];show (if (f i==h)=true then _ else _)=_;rw [R7 (by simpa using e)]
    rcases MA d n fuel (t.advance p) (by omega) he (λk hk=>ne (k+1) (by omega)) ad with ⟨a,b⟩|⟨k,i',hk,a,b,c,g⟩
    ·refine .inl ⟨by rw [step];exact a,λk hk i2 hi=> ?_⟩;cases k with
     |zero=>rw [show t.slot (za t 0 p).j= .live i from hs] at hi;cases hi;exact e
     |succ k=>exact b k (by omega) i2 hi
    ·refine .inr ⟨k+1,i',by omega,a,b,λk' hk' i2 hi=> ?_,by rw [step];exact g⟩;cases k' with
     |zero=>rw [show t.slot (za t 0 p).j= .live i from hs] at hi;cases hi;exact e
     |succ k'=>exact c k' (by omega) i2 hi
theorem Ur (hN:t.mask+1=2^k)(h:P3){e:G7}(he:e<=t.mask)(em:t.slot e= .empty): ∃n,n<10*C9 t.mask/\t.slot (za t n (t.probeStart h)).j= .empty/\ ∀m,m<n->t.slot (za t m (t.probeStart h)).j≠ .empty:=by
 obtain⟨n,hn,ej⟩:=RE hN h he;obtain⟨m,a,b,c⟩:=PC (P:=λn=>t.slot (za t n (t.probeStart h)).j= .empty) n (by rw [ej];exact em);exact⟨m,by omega,b,c⟩
theorem PD (r:t.place.toList.Pairwise (· < ·)){i j:G7}(h:t.place[i]? =some j):t.slot j= .live i:=by
 obtain⟨lo,hi,_⟩:=HT.vD r j;have e:R9 t.place j=i:=by
  rcases Y4 (R9 t.place j) i with z|z|z
  ·obtain⟨hlt,ev⟩:=F8.mp h;have hb:R9 t.place j<t.place.size:=by omega
   have a:=hi (R9 t.place j) (P0 _) t.place[R9 t.place j] (J8 hb);have b:=C1.mp r (R9 t.place j) i (by simpa using hb) (by simpa using hlt) z;simp only [Y9] at b;omega
  ·exact z
  ·exact absurd (lo i z j h) (M4 _)
 unfold dJ;dsimp only;rw [e,h,R0 (Q7 _)]
theorem PF {i j:G7}(h:t.slot j= .live i):t.place[i]? =some j:=by
 unfold dJ at h;dsimp only at h;split at h
 ·rename_i c;injection h with h
  subst h;exact eq_of_beq c
 ·split at h<;>cases h
theorem vH (d:t.dummies= #[])(r:t.place.toList.Pairwise (· < ·)){j:G7}:t.slot j= .empty↔ ∀i:G7,t.place[i]? ≠some j:=by
 constructor
 ·intro h i e;rw [PD r e] at h;cases h
 ·intro h;cases e:t.slot j with
  |empty=>rfl
  |dummy=>exact absurd e (HT.Wl d)
  |live i=>exact absurd (PF e) (h i)
variable {u:S6}
theorem RF (e:t.mask=u.mask)(p:A4):t.advance p=u.advance p:=by
 unfold Q9;rw [e]
theorem yi (e:t.mask=u.mask): ∀ (n:G7) (p:A4),za t n p=za u n p
 |0,_=>rfl
 |n+1,p=>by show za t n (t.advance p)=za u n (u.advance p);rw [RF e,yi e n]
theorem yD (e:t.mask=u.mask)(h:P3):t.probeStart h=u.probeStart h:=by
 unfold pL;rw [e]
def Way (t:S6)(h:P3)(j:G7):Prop:= ∃n,(za t n (t.probeStart h)).j=j/\ ∀m,m<n->t.slot (za t m (t.probeStart h)).j≠ .empty
theorem Way.more (e:t.mask=u.mask)(f: ∀j,u.slot j= .empty->t.slot j= .empty){h:P3}{j:G7}(w:Way t h j):Way u h j:=by
 obtain⟨n,a,b⟩:=w;refine⟨n,by rw [<-yD e,<-yi e];exact a,λm hm z=>b m hm ?_⟩;rw [<-yD e,<-yi e] at z;exact f _ z
theorem MB {α:Type}(xs:G0 α)(x:α){p:G7}(hp:p<=xs.length)(i:G7):(xs.take p++x::xs.drop p)[i]? =if i<p then xs[i]? else if i=p then some x else xs[i-1]? :=by
 have tl:(xs.take p).length=p:=by rw [N3];omega
 by_cases a:i<p
 ·rw [R0 a,H0 (by omega),iA,R0 a]
 ·rw [R7 a,U0 (by omega),tl]
  by_cases b:i=p
  ·rw [R0 b,b,i6];rfl
  ·rw [R7 b,show i-p=(i-p-1)+1 by omega,X0,cP]
   congr 1;omega
structure Laid (t:S6)(hs:G0 P3):Prop where
 pow: ∃k,t.mask+1=2^k
 big:7<=t.mask
 dum:t.dummies= #[]
 rise:t.place.toList.Pairwise (· < ·)
 size:t.place.size=hs.length
 room:hs.length<=t.mask
 low: ∀ (i j:G7),t.place[i]? =some j->j<=t.mask
 way: ∀ (i:G7) (h:P3) (j:G7),hs[i]? =some h->t.place[i]? =some j->Way t h j
variable {hs:G0 P3}
theorem Laid.free (l:Laid t hs): ∃e,e<=t.mask/\t.slot e= .empty:=by
 refine B0 λno=> ?_
 have nd:t.place.toList.Nodup:=l.rise.imp λ{a b} z=>R8 z
 have all: ∀e,e<t.mask+1->e∈t.place.toList:=λe he=>by
  refine B0 λz=>no ⟨e,by omega,(vH l.dum l.rise).mpr λi q=>z ?_⟩
  exact fT.mpr (Array.mem_of_getElem? q)
 have key: ∀ (ys zs:G0 G7),ys.Nodup->(∀y∈ys,y∈zs)->ys.length<=zs.length:=by
  intro ys
  induction ys with
  |nil=>intro zs _ _;exact B4 _
  |cons y ys ih=>
   intro zs d s;obtain⟨d1,d2⟩:=L7.mp d;have hy:=s y P8;have:=ih (zs.erase y) d2 λx hx=>(Y8 (show x≠y from λq=>d1 (by rw [<-q];exact hx))).mpr (s x (R6 _ hx))
   rw [V9 hy] at this;have:0<zs.length:=X6 hy;rw [S4];omega
 have:=key (G6 (t.mask+1)) t.place.toList bL λy hy=>all y (P6.mp hy)
 rw [D6,D1,l.size] at this;have:=l.room;omega
theorem Laid.search (l:Laid t hs)(h:P3): ∃n,n<10*C9 t.mask/\t.slot (za t n (t.probeStart h)).j= .empty/\(∀m,m<n->t.slot (za t m (t.probeStart h)).j≠ .empty)/\ ∀i:G7,hs[i]? =some h-> ∃m,m<n/\t.slot (za t m (t.probeStart h)).j= .live i:=by
 obtain⟨k,hk⟩:=l.pow;obtain⟨e,he,em⟩:=l.free;obtain⟨n,a,b,c⟩:=Ur hk h he em;refine⟨n,a,b,c,λi hi=> ?_⟩;obtain⟨j,hj⟩: ∃j,t.place[i]? =some j:=⟨t.place[i]'(by rw [l.size];exact(D3.mp hi).1),J8 _⟩;obtain⟨m,x,y⟩:=l.way i h j hi hj;have lv:t.slot (za t m (t.probeStart h)).j= .live i:=by rw [x];exact PD l.rise hj
 refine⟨m,?_,lv⟩;rcases Y4 m n with z|z|z
 ·exact z
 ·rw [z,b] at lv;cases lv
 ·exact absurd b (y n z)
theorem PH (t:S6)(j:G7):(t.put j).1.place.toList=t.place.toList.take (R9 t.place j)++j::t.place.toList.drop (R9 t.place j):=aN ..
theorem PJ (d:t.dummies= #[])(j:G7):(t.put j).1.dummies= #[]:=by
 show (if eZ t.dummies j then _ else t.dummies)= #[];rw [d,R7 (by simp [eZ])]
theorem Laid.put (l:Laid t hs){h:P3}{j:G7}(em:t.slot j= .empty)(jm:j<=t.mask)(w:Way t h j)(room:hs.length+1<=t.mask):Laid (t.put j).1 (hs.take (t.put j).2++h::hs.drop (t.put j).2):=by
 have pe:(t.put j).2=R9 t.place j:=rfl;have me:t.mask=(t.put j).1.mask:=rfl;have pl:=PH t j;have hp:R9 t.place j<=t.place.size:=(HT.vD l.rise j).2.2;have hp1:R9 t.place j<=t.place.toList.length:=by rw [D1];exact hp
 have hp2:R9 t.place j<=hs.length:=by rw [<-l.size];exact hp
 have rise:(t.put j).1.place.toList.Pairwise (· < ·):=HT.Ui l.rise (HT.Qh em);have at1: ∀i:G7,(t.put j).1.place[i]? =if i<R9 t.place j then t.place[i]? else if i=R9 t.place j then some j else t.place[i-1]? :=λi=>by
  have:=MB t.place.toList j hp1 i;rw [<-pl] at this;simpa using this
 have sl: ∀x,(t.put j).1.slot x= .empty->t.slot x= .empty:=λx hx=>by
  rw [vH (PJ l.dum j) rise] at hx;rw [vH l.dum l.rise];intro i e
  by_cases c:i<R9 t.place j
  ·exact hx i (by rw [at1,R0 c];exact e)
  ·exact hx (i+1) (by rw [at1,R7 (by omega),R7 (by omega)];exact e)
 rw [pe];refine⟨l.pow,l.big,PJ l.dum j,rise,?_,?_,λi x hx=> ?_,λi g x hg hx=> ?_⟩
 ·rw [<-D1,pl];simp only [D4,S4,N3,Z4,D1];have:=l.size;omega
 ·show _<=t.mask;simp only [D4,S4,N3,Z4];omega
 ·rw [at1] at hx;split at hx
  ·exact l.low _ _ hx
  ·split at hx
   ·injection hx with hx;subst hx;exact jm
   ·exact l.low _ _ hx
 ·rw [at1] at hx;rw [MB hs h hp2] at hg
  by_cases c:i<R9 t.place j
  ·rw [R0 c] at hg hx;exact(l.way i g x hg hx).more me sl
  ·rw [R7 c] at hg hx
   by_cases b:i=R9 t.place j
   ·rw [R0 b] at hg hx;injection hg with hg;injection hx with hx
    subst hg hx;exact w.more me sl
   ·rw [R7 b] at hg hx;exact(l.way (i-1) g x hg hx).more me sl
theorem Qn (a b:G7)(led:M6):Laid (.fresh a b led) []:=⟨⟨3,rfl⟩,P0 7,rfl,List.Pairwise.nil,rfl,B4 _,λi j h=>by simp [mQ] at h,λi h j e=>by simp at e⟩
theorem MC (t:S6): ∀ (k i q m j:G7) (d:D0 G7),k<=m->za t k ⟨j,m,i,q,d⟩=⟨j+k,m-k,i,q,d⟩
 |0,i,q,m,j,d,_=>rfl
 |k+1,i,q,m,j,d,h=>by
  have a:t.advance ⟨j,m,i,q,d⟩=⟨j+1,m-1,i,q,d⟩:=by unfold Q9;rw [R0 (show m>0 by omega)]
  show za t k (t.advance ⟨j,m,i,q,d⟩)=_;rw [a,MC t k i q (m-1) (j+1) d (by omega)]
  congr 1<;>omega
def OO (t:S6)(E:G7->M6)(h:P3)(j:G7):Prop:= ∃n,(za t n (t.probeStart h)).j=j/\ ∀m,m<n->E (za t m (t.probeStart h)).j=false
variable {owner:M2 (D0 G7)}
theorem Xw: ∀ (fuel L n:G7) {j:G7},za t n (t.probeStart h)=Uq t (Yv (t.mask+1) (R3 h) L) (R3 h / 32^L) none->(∀m,m<n->(owner.getD (za t m (t.probeStart h)).j (some 0)).isNone=false)->
 F0 t.mask owner fuel (Yv (t.mask+1) (R3 h) L) (R3 h / 32^L)=some j->(owner.getD j (some 0)).isNone=true/\OO t (λx=>(owner.getD x (some 0)).isNone) h j
 |0,_,_,_,_,_,e=>by cases e
 |fuel+1,L,n,j,hn,ne,e=>by
  unfold F0 at e;generalize hI:Yv (t.mask+1) (R3 h) L=I at hn e;have run: ∀k,k<=C6 t.mask I-I->(za t (n+k) (t.probeStart h)).j=I+k:=λk hk=>by
   rw [vG,hn];exact congrArg SetTable.Probe.j (MC t k I _ _ I none hk)
  have re:I<=C6 t.mask I:=by unfold C6;split<;>omega
  split at e
  ·rename_i k hk;injection e with e
   subst e;obtain⟨a,b,c⟩:=List.find?_range_eq_some.mp hk;have kl:=P6.mp b;refine⟨a,n+k,run k (by omega),λm hm=> ?_⟩;rcases L0 m n with z|z
   ·exact ne m z
   ·have:=c (m-n) (by omega);have r:=run (m-n) (by omega);rw [Q0 z] at r;show (owner.getD (za t m (t.probeStart h)).j (some 0)).isNone=false;rw [r];simpa using this
  ·rename_i hk;have none:=iD.mp hk;have nx:=yZ t _ (Uq t I (R3 h / 32^L) .none) rfl;refine Xw fuel (L+1) (n+(C6 t.mask I-I+1)) (j:=j) ?_ (λm hm=> ?_) ?_
   ·rw [vG,hn];refine nx.trans ?_;show Uq t ((I*5+1+R3 h / 32^L / 32)%(t.mask+1)) (R3 h / 32^L / 32) .none=_;rw [X7,<-L1,<-hI];rfl
   ·rcases L0 m n with z|z
    ·exact ne m z
    ·have:=none (m-n) (P6.mpr (by omega));have r:=run (m-n) (by omega);rw [Q0 z] at r;rw [r];exact i7.mpr this
   ·rw [show nP t.mask I (R3 h / 32^L)=((I*5+1+R3 h / 32^L / 32)%(t.mask+1),R3 h / 32^L / 32) from rfl] at e;dsimp only at e;rw [X7,<-L1,<-hI] at e;exact e
theorem PK (hN:t.mask+1=2^k){e:G7}(he:e<=t.mask)(em:(owner.getD e (some 0)).isNone=true): ∃j,F0 t.mask owner (C9 t.mask) (R3 h%(t.mask+1)) (R3 h)=some j:=by
 obtain⟨m,hm,e1⟩:=Mz hN (a:=Yv (t.mask+1) (R3 h) 13) (K9 _ (Z9 _)) (show e<t.mask+1 by omega);rw [<-Ya h m] at e1;have go: ∀ (fuel L:G7),(∃L',L<=L'/\L'<L+fuel/\Yv (t.mask+1) (R3 h) L'=e)-> ∃j,F0 t.mask owner fuel (Yv (t.mask+1) (R3 h) L) (R3 h / 32^L)=some j:=by
  intro fuel
  induction fuel with
  |zero=>rintro L ⟨L',a,b,_⟩;omega
  |succ fuel ih=>
   rintro L ⟨L',a,b,c⟩;unfold F0;generalize hI:Yv (t.mask+1) (R3 h) L=I;split
   ·rename_i k hk;exact⟨_,rfl⟩
   ·rename_i hk;have none:=iD.mp hk;have ne:I≠e:=λz=>by
     have re:I<=C6 t.mask I:=by unfold C6;split<;>omega
     have:=none 0 (P6.mpr (by omega));rw [aA,z] at this;exact this em
    have lt:L+1<=L':=by
     rcases L0 L L' with z|z
     ·exact z
     ·have:L=L':=by omega
      subst this;exact absurd (hI.symm.trans c) ne
    obtain⟨j,hj⟩:=ih (L+1) ⟨L',lt,by omega,c⟩;refine⟨j,?_⟩;rw [show nP t.mask I (R3 h / 32^L)=((I*5+1+R3 h / 32^L / 32)%(t.mask+1),R3 h / 32^L / 32) from rfl];dsimp only;rw [X7,<-L1,<-hI];exact hj
 have:=go (C9 t.mask) 0 ⟨13+m,B4 _,by unfold C9;omega,e1⟩;rw [bG,gC] at this;exact this
def emO (owner:M2 (D0 G7))(x:G7):M6:=(owner.getD x (some 0)).isNone
theorem emO_iff {x:G7}:emO owner x=true↔owner[x]? =some none:=by
 unfold emO;rw [Y5];cases owner[x]? with
 |none=>simp
 |some o=>cases o<;>simp
structure Own (t:S6)(hs:G0 P3)(owner:M2 (D0 G7))(k:G7):Prop where
 size:owner.size=t.mask+1
 lt: ∀x i:G7,owner[x]? =some (some i)->i<k
 inj: ∀x y i:G7,owner[x]? =some (some i)->owner[y]? =some (some i)->x=y
 all: ∀i,i<k-> ∃x:G7,owner[x]? =some (some i)
 way: ∀ (x i:G7) (h:P3),owner[x]? =some (some i)->hs[i]? =some h->OO t (emO owner) h x
theorem Own.free (o:Own t hs owner k)(room:k<=t.mask): ∃e,e<=t.mask/\emO owner e=true:=by
 refine B0 λno=> ?_
 have got: ∀x,x<t.mask+1-> ∃i,owner[x]? =some (some i):=λx hx=>by
  have hs':x<owner.size:=by rw [o.size];exact hx
  cases e:owner[x]? with
  |none=>rw [Z1] at e;omega
  |some v=>
   cases v with
   |none=>exact absurd ⟨x,by omega,emO_iff.mpr e⟩ no
   |some i=>exact⟨i,rfl⟩
 have gi: ∀x,x<t.mask+1->owner[x]? =some (some (((owner[x]?).getD none).getD 0)):=λx hx=>by
  obtain⟨i,e⟩:=got x hx;rw [e];rfl
 have nd:((G6 (t.mask+1)).map λx=>((owner[x]?).getD none).getD 0).Nodup:=by
  rw [cO,A2];refine C1.mpr λa b ha hb ab e=> ?_
  rw [O5,O5] at e;rw [D6] at ha hb;have x1:=gi a ha;have x2:=gi b hb;rw [e] at x1;have:=o.inj a b _ x1 x2;omega
 have:=Zw (m:=G6 k) nd λy hy=>by
  obtain⟨x,hx,rfl⟩:=R1.mp hy;exact P6.mpr (o.lt x _ (gi x (P6.mp hx)))
 rw [G3,D6,D6] at this;omega
variable {n:G7}
theorem Own.step (hN:t.mask+1=2^n)(o:Own t hs owner k)(room:k<=t.mask)(hk:hs[k]? =some h): ∃j,F0 t.mask owner (C9 t.mask) (R3 h%(t.mask+1)) (R3 h)=some j/\Own t hs (owner.setIfInBounds j (some k)) (k+1):=by
 obtain⟨e,he,em⟩:=o.free room;obtain⟨j,hj⟩:=PK (h:=h) hN he em;have w:=Xw (t:=t) (owner:=owner) (h:=h) (C9 t.mask) 0 0 (j:=j) (by rw [bG,gC];rfl) (λm hm=>absurd hm (J5 _)) (by rw [bG,gC];exact hj);have jn:owner[j]? =some none:=emO_iff.mp w.1;have js:j<owner.size:=(F8.mp jn).1;have at1: ∀x:G7,(owner.setIfInBounds j (some k))[x]? =if j=x then some (some k) else owner[x]? :=λx=>by
  rw [Array.getElem?_setIfInBounds]
  by_cases c:j=x
  ·rw [R0 c,R0 c,R0 js]
  ·rw [R7 c,R7 c]
 have old: ∀x i:G7,(owner.setIfInBounds j (some k))[x]? =some (some i)->(x=j/\i=k)\/(x≠j/\owner[x]? =some (some i)):=λx i hx=>by
  rw [at1] at hx;split at hx
  ·rename_i c;injection hx with hx;injection hx with hx;exact .inl ⟨c.symm,hx.symm⟩
  ·rename_i c;exact .inr ⟨E4 c,hx⟩
 have emm: ∀x,emO owner x=false->emO (owner.setIfInBounds j (some k)) x=false:=λx hx=>by
  refine i7.mpr λz=> ?_
  rw [emO_iff,at1] at z;split at z
  ·cases z
  ·rw [emO_iff.mpr z] at hx;cases hx
 refine⟨j,hj,by rw [Array.size_setIfInBounds];exact o.size,λx i hx=> ?_,λx y i hx hy=> ?_,λi hi=> ?_,λx i g hx hg=> ?_⟩
 ·rcases old x i hx with ⟨_,e⟩|⟨_,e⟩
  ·omega
  ·have:=o.lt x i e;omega
 ·rcases old x i hx with ⟨a,b⟩|⟨a,b⟩<;>rcases old y i hy with ⟨c,d⟩|⟨c,d⟩
  ·rw [a,c]
  ·have:=o.lt y i d;omega
  ·have:=o.lt x i b;omega
  ·exact o.inj x y i b d
 ·by_cases c:i=k
  ·exact⟨j,by rw [at1,R0 rfl,c]⟩
  ·obtain⟨x,hx⟩:=o.all i (by omega);have ne: ¬j=x:=λz=>by rw [<-z,jn] at hx;cases hx
   exact⟨x,by rw [at1,R7 ne];exact hx⟩
 ·rcases old x i hx with ⟨a,b⟩|⟨a,b⟩
  ·rw [b,hk] at hg;injection hg with hg
   rw [a,<-hg];obtain⟨m,p,q⟩:=w.2;exact⟨m,p,λm' hm=>emm _ (q m' hm)⟩
  ·obtain⟨m,p,q⟩:=o.way x i g b hg;exact⟨m,p,λm' hm=>emm _ (q m' hm)⟩
theorem RG (t:S6)(hs:G0 P3):Own t hs (fI (t.mask+1) none) 0:=by
 have no: ∀x i:G7,(fI (t.mask+1) (none:D0 G7))[x]? ≠some (some i):=λx i e=>by
  rw [Array.getElem?_replicate] at e;split at e<;>cases e
 exact⟨Array.size_replicate,λx i e=>absurd e (no x i),λx y i e=>absurd e (no x i),λi hi=>absurd hi (J5 _),λx i h e=>absurd e (no x i)⟩
theorem Xx (hN:t.mask+1=2^n)(room:hs.length<=t.mask){F:D0 (M2 (D0 G7)×G7)->P3->D0 (M2 (D0 G7)×G7)}
 (hF: ∀owner k h j,F0 t.mask owner (C9 t.mask) (R3 h%(t.mask+1)) (R3 h)=some j->F (some (owner,k)) h=some (owner.setIfInBounds j (some k),k+1)): ∀ (rest:G0 P3) (k:G7) (owner:M2 (D0 G7)),Own t hs owner k->k<=hs.length->hs.drop k=rest-> ∃owner',rest.foldl F (some (owner,k))=some (owner',hs.length)/\Own t hs owner' hs.length
 | [],k,owner,o,kl,e=>by
  have:k=hs.length:=by have:=bX.mp e;omega
  subst this;exact⟨owner,rfl,o⟩
 |h::rest,k,owner,o,kl,e=>by
  have hk:hs[k]? =some h:=by
   have:(hs.drop k)[0]? =some h:=by rw [e];rfl
   rwa [cP,aA] at this
  have lt:k<hs.length:=(D3.mp hk).1;obtain⟨j,hj,o'⟩:=o.step hN (by omega) hk;have e2:hs.drop (k+1)=rest:=by rw [<-List.tail_drop,e];rfl
  obtain⟨owner',a,b⟩:=Xx hN room hF rest (k+1) _ o' lt e2;exact⟨owner',by rw [lI,hF _ _ _ _ hj];exact a,b⟩
theorem RH (hN:t.mask+1=2^n)(room:hs.length<=t.mask){F:D0 (M2 (D0 G7)×G7)->P3->D0 (M2 (D0 G7)×G7)}
 (hF: ∀owner k h j,F0 t.mask owner (C9 t.mask) (R3 h%(t.mask+1)) (R3 h)=some j->F (some (owner,k)) h=some (owner.setIfInBounds j (some k),k+1)): ∃owner,(hs.foldl F (some (fI (t.mask+1) none,0))).map (·.1)=some owner/\Own t hs owner hs.length:=by
 obtain⟨owner,a,b⟩:=Xx hN room hF hs 0 _ (RG t hs) (B4 _) rfl;exact⟨owner,by rw [a];rfl,b⟩
theorem Bh {hashes:M2 P3}(hN:t.mask+1=2^n)(room:hashes.size<=t.mask): ∃owner,i8 t.mask hashes=some owner/\Own t hashes.toList owner hashes.toList.length:=by
 unfold i8;rw [<-Array.foldl_toList];refine RH hN (by rw [D1];exact room) λowner k h j hj=> ?_
 show (F0 t.mask owner _ _ _).bind _=_;rw [hj];rfl
theorem Us: ∀ (n:G7) (p:A4),p.j+p.more<=t.mask->(za t n p).j<=t.mask
 |0,p,h=>by show p.j<=t.mask;omega
 |n+1,p,h=>by
  refine Us n (t.advance p) ?_;unfold Q9;split
  ·show p.j+1+(p.more-1)<=t.mask;omega
  ·have:(p.i*5+1+p.perturb / 32)%(t.mask+1)<t.mask+1:=K9 _ (Z9 _);show (p.i*5+1+p.perturb / 32)%(t.mask+1)+(C6 t.mask ((p.i*5+1+p.perturb / 32)%(t.mask+1))-(p.i*5+1+p.perturb / 32)%(t.mask+1))<=t.mask;unfold C6;split<;>omega
theorem Vk (t:S6)(h:P3):(t.probeStart h).j+(t.probeStart h).more<=t.mask:=by
 have:R3 h%(t.mask+1)<t.mask+1:=K9 _ (Z9 _);show R3 h%(t.mask+1)+(C6 t.mask (R3 h%(t.mask+1))-R3 h%(t.mask+1))<=t.mask;unfold C6;split<;>omega
theorem FQ {T0 T':S6}{E:G7->M6}{j:G7}(em:T0.mask=T'.mask)(f: ∀y,y<=T0.mask->E y=false->T'.slot y≠ .empty)(w:OO T0 E h j):Way T' h j:=by
 obtain⟨n,a,b⟩:=w;refine⟨n,by rw [<-yD em,<-yi em];exact a,λm hm=> ?_⟩;rw [<-yD em,<-yi em];exact f _ (Us m _ (Vk T0 h)) (b m hm)
theorem Bi {mask finger moves:G7}{led plain:M6}{hashes:M2 P3}(hN:mask+1=2^n)(h7:7<=mask)(room:hashes.size<=mask): ∃t' order,nQ mask finger moves led plain hashes=some (t',order)/\t'.mask=mask/\t'.led=led/\t'.plain=plain/\order.toList.Perm (G6 hashes.size)/\Laid t' (order.toList.map λi=>hashes.toList.getD i 0):=by
 obtain⟨T0,hm⟩: ∃T0:S6,T0.mask=mask:=⟨{mQ 0 0 true with mask:=mask},rfl⟩;subst hm;obtain⟨owner,ho,own⟩:=Bh (t:=T0) (hashes:=hashes) hN room;unfold nQ;rw [ho];refine⟨_,_,rfl,rfl,rfl,rfl,?_⟩;generalize hl:((G6 (T0.mask+1)).filterMap λj=>(owner.getD j none).map (j,·))=live;have osz:owner.size=T0.mask+1:=own.size;have mem: ∀x i:G7,(x,i)∈live↔owner[x]? =some (some i):=λx i=>by
  rw [<-hl,X1];constructor
  ·rintro ⟨j,hj,e⟩;rw [Y5] at e;cases z:owner[j]? with
   |none=>rw [z] at e;cases e
   |some v=>
    rw [z] at e;cases v with
    |none=>cases e
    |some w=>cases e;exact z
  ·intro e;have lt:x<owner.size:=(F8.mp e).1;refine⟨x,P6.mpr (by omega),?_⟩;rw [Y5,e];rfl
 have sub:(live.map (·.1)).Sublist (G6 (T0.mask+1)):=by rw [<-hl];exact HT.WR _ _
 have rise:(live.map (·.1)).Pairwise (· < ·):=G0.pairwise_lt_range.sublist sub;have nd:(live.map (·.2)).Nodup:=by
  rw [cO,A2];rw [A2] at rise;refine rise.imp_of_mem λ{a b} ha hb lt e=> ?_
  have:=own.inj a.1 b.1 a.2 ((mem _ _).mp ha) (by rw [e];exact(mem _ _).mp hb);omega
 have len0:hashes.toList.length=hashes.size:=D1;have pm:(live.map (·.2)).Perm (G6 hashes.size):=by
  refine(List.perm_ext_iff_of_nodup nd bL).mpr λi=> ?_
  rw [P6];constructor
  ·intro h;obtain⟨⟨x,i'⟩,a,rfl⟩:=R1.mp h;have:=own.lt x i' ((mem _ _).mp a);omega
  ·intro h;obtain⟨x,hx⟩:=own.all i (by omega);exact R1.mpr ⟨(x,i),(mem _ _).mpr hx,rfl⟩
 have ll:live.length=hashes.size:=by have:=pm.length_eq;rwa [G3,D6] at this
 refine⟨pm,⟨n,hN⟩,h7,rfl,rise,?_,?_,λi j hj=> ?_,λi h x hh hx=> ?_⟩
 ·simp
 ·show _<=T0.mask;simp only [G3];omega
 ·have hj:(live.map (·.1))[i]? =some j:=by simpa using hj
  have:=P6.mp (sub.subset (S0 hj));show j<=T0.mask;omega
 ·have hx:(live.map (·.1))[i]? =some x:=by simpa using hx
  have hh:((live.map (·.2)).map λi=>hashes.toList.getD i 0)[i]? =some h:=hh;rw [P4] at hx;obtain⟨⟨x',i'⟩,e1,e2⟩:=N9.mp hx;have e2:x'=x:=e2;subst e2;rw [P4,P4,e1] at hh;have hh:hashes.toList.getD i' 0=h:=by injection hh
  have ow:=(mem _ _).mp (S0 e1);have lt:=own.lt _ _ ow;have hg:hashes.toList[i']? =some h:=by
   rw [<-hh,D5,P2 lt];rfl
  refine FQ (T0:=T0) rfl (λy hy hb z=> ?_) (own.way _ _ _ ow hg);rw [vH rfl rise] at z;cases e:owner[y]? with
  |none=>rw [Z1] at e;omega
  |some v=>
   cases v with
   |none=>rw [emO_iff.mpr e] at hb;cases hb
   |some w=>
    obtain⟨i2,h2⟩:=Z0 (R1.mpr ⟨(y,w),(mem _ _).mpr e,rfl⟩:y∈live.map (·.1));exact z i2 (by simpa using h2)
theorem Laid.stands (l:Laid t hs):t.gaveWay=false:=by
 obtain⟨k,hk⟩:=l.pow;have b:=l.big;cases k with
 |zero=>rw [bG] at hk;omega
 |succ k=>
  rw [L1] at hk;unfold qP;refine beq_false_of_ne ?_;omega
theorem Xy: ∀ (fuel k n:G7),3<=k-> ∃m,3<=m/\U5 n fuel (2^k)=2^m/\(n<2^(k+fuel)->n<2^m)
 |0,k,n,h=>⟨k,h,rfl,λz=>z⟩
 |fuel+1,k,n,h=>by
  unfold U5
  by_cases c:2^k<=n
  ·rw [R0 c,<-L1];obtain⟨m,a,b,d⟩:=Xy fuel (k+1) n (by omega);exact⟨m,a,b,λz=>d (by rw [iC,dI];exact z)⟩
  ·rw [R7 c];exact⟨k,h,rfl,λ_=>by omega⟩
theorem above (h:n<2^67): ∃m,L3 n=2^m/\n<L3 n/\8<=L3 n:=by
 obtain⟨m,a,b,c⟩:=Xy 64 3 n (by decide);have b:L3 n=2^m:=b;refine⟨m,b,by rw [b];exact c h,?_⟩;rw [b];exact K3 (show 0<2 by decide) a
end L2
namespace L2
open PySem PySem.Spec PyProof.Rows HT
variable {prog:S9}{w:N2}{A:T9}{E:G1->G2->Prop}{s:G2}{a:P1}{es:M2 (P3×G1)}{ep:G7}{t:S6}
theorem Laid.fits {hs:G0 P3}(l:Laid t hs){n:G7}(e:hs.length=n):t.fits n=true:=by
 have a:=l.size;have b:=l.room;have c:=l.dum;simp only [nO,nR,C3,beq_iff_eq,A1,c];simp;omega
theorem Xz (t:S6):t.sameMemory t.moves t.mask=some true:=by
 unfold pM;rw [R0 (Q7 _)]
theorem XA {b:P1}{Q:M6->G2->Prop}(q:Q true s):R4 (R5 prog w) A (isSame (.ref b) (.ref b)) Q E s:=by
 unfold isSame;dsimp only;rw [R0 (Q7 _)];exact G8 q
variable {eqk:G7->M6}
theorem Ut {Q:SetFound->G2->Prop}{x:G1}{h:P3}{n:G7}(l:Laid t (es.toList.map (·.1)))(ho:s.heap.get? a=some (wV es ep t))
 (refs: ∀ (i:G7) (y:G1),es[i]? =some (h,y)-> ∃b,y= .ref b)
 (qZ: ∀Q':M6->G2->Prop,Q' false s->R4 (R5 prog w) A (Y6 x ((es.filter (·.1==h)).toList.map (·.2))) Q' E s)
 (cmp: ∀ (i:G7) (y:G1),es[i]? =some (h,y)-> ∀Q':M6->G2->Prop,Q' (eqk i) s->R4 (R5 prog w) A (V0 [y] (eqBool y x)) Q' E s)
 (em:t.slot (za t n (t.probeStart h)).j= .empty)(nb:n<10*C9 t.mask)(ne: ∀m,m<n->t.slot (za t m (t.probeStart h)).j≠ .empty)
 (free:(∀m i,m<n->t.slot (za t m (t.probeStart h)).j= .live i->(es[i]?.map (·.1)).getD 0=h->eqk i=false)->Q (.free (za t n (t.probeStart h)).j false) s)
 (there: ∀ (i:G7) (y:G1),es[i]? =some (h,y)->eqk i=true->Q (.there none) s):
 ∀ (r k fuel:G7) (stand:D0 A4),k+r=n->r<fuel->stand.getD (t.probeStart h)=za t k (t.probeStart h)->(∀m i,m<k->t.slot (za t m (t.probeStart h)).j= .live i->(es[i]?.map (·.1)).getD 0=h->eqk i=false)->
  R4 (R5 prog w) A (nU a x h true fuel stand) Q E s:=by
 intro r
 induction r using G7.strongRecOn with
 |ind r ih=>
 intro k fuel stand kr rf st old;obtain⟨fuel,rfl⟩: ∃f,fuel=f+1:=⟨fuel-1,by omega⟩;have fit:t.fits es.size=true:=l.fits (by rw [G3,D1]);unfold nU;refine wpAny_bind (C8 ho rfl fit ?_);dsimp only;rw [l.stands];simp only [M8,↓reduceIte];have ad: ∀m,za t m (za t k (t.probeStart h))=za t (k+m) (t.probeStart h):=λm=>(vG t k m _).symm
 have dn: ∀ (m:G7) (p:A4),p.dummy=none->(za t m p).dummy=none:=λm=>by
  induction m with
  |zero=>exact λp hp=>hp
  |succ m ihm=>exact λp hp=>ihm _ (by unfold Q9;split<;>exact hp)
 have out:=MA (f:=λi=>(es[i]?.map (·.1)).getD 0) (h:=h) l.dum r (10*C9 t.mask) (za t k (t.probeStart h)) (by omega) (by rw [ad,kr];exact em) (λm hm=>by rw [ad];exact ne _ (by omega)) (dn _ _ rfl);have e0:t.probe (λi=>(es[i]?.map (·.1)).getD 0) h (stand.getD (t.probeStart h))=E9 t (λi=>(es[i]?.map (·.1)).getD 0) h (10*C9 t.mask) (za t k (t.probeStart h)):=by rw [st];rfl
 rw [<-e0] at out;split
 ·rename_i met hmet;have hmet:t.probe (λi=>(es[i]?.map (·.1)).getD 0) h (stand.getD (t.probeStart h))=some met:=hmet;rw [hmet] at out;rcases out with ⟨e,no⟩|⟨m,i,mr,sl,hi,no,e⟩
  ·injection e with e
   subst e;dsimp only;refine G8 ?_;rw [ad,kr];refine free λm i hm sl hi=> ?_
   rcases L0 m k with z|z
   ·exact old m i z sl hi
   ·refine absurd hi (no (m-k) (by omega) i ?_);rw [ad,Q0 z];exact sl
  ·injection e with e
   subst e;dsimp only;obtain⟨y,ei⟩: ∃y,es[i]? =some (h,y):=by
    obtain⟨lt,_⟩:=F8.mp (PF sl);have sz:i<es.size:=by have:=l.size;rw [G3,D1] at this;omega
    rw [J8 sz] at hi ⊢;have hi:es[i].1=h:=hi;exact⟨es[i].2,by rw [<-hi]⟩
   cases hl:t.led
   ·simp only [mR,↓reduceIte];refine wpAny_bind (qZ _ ?_);simp only [M8,↓reduceIte];rw [ei];dsimp only;refine wpAny_bind (cmp i y ei _ ?_);refine wpAny_bind (C8 ho rfl fit ?_);dsimp only;cases ek:eqk i with
    |true=>simp only [gY,↓reduceIte];exact G8 (there i y ei ek)
    |false=>
     simp only [bE,M8,↓reduceIte,Xz,sl,ei];obtain⟨b,rfl⟩:=refs i y ei;refine wpAny_bind (XA ?_);refine wpAny_bind (G8 ?_);simp only [↓reduceIte];refine ih (r-(m+1)) (by omega) (k+(m+1)) fuel (some _) (by omega) (by omega) (by show za t (m+1) _=_;rw [ad]) (λm' i' hm' sl' hi'=> ?_);rcases L0 m' k with z|z
     ·exact old m' i' z sl' hi'
     ·have e1:za t m' (t.probeStart h)=za t (m'-k) (za t k (t.probeStart h)):=by rw [ad,Q0 z]
      rw [e1] at sl';rcases L0 (m'-k) m with y|y
      ·exact absurd hi' (no (m'-k) y i' sl')
      ·have e2:m'-k=m:=by omega
       rw [e2,sl] at sl';injection sl' with sl'
       rw [<-sl'];exact ek
   ·simp only [bS,M8,↓reduceIte];rw [ei];dsimp only;refine wpAny_bind (cmp i y ei _ ?_);refine wpAny_bind (C8 ho rfl fit ?_);dsimp only;cases ek:eqk i with
    |true=>simp only [gY,↓reduceIte];exact G8 (there i y ei ek)
    |false=>
     simp only [bE,M8,↓reduceIte,Xz,sl,ei];obtain⟨b,rfl⟩:=refs i y ei;refine wpAny_bind (XA ?_);refine wpAny_bind (G8 ?_);simp only [↓reduceIte];refine ih (r-(m+1)) (by omega) (k+(m+1)) fuel (some _) (by omega) (by omega) (by show za t (m+1) _=_;rw [ad]) (λm' i' hm' sl' hi'=> ?_);rcases L0 m' k with z|z
     ·exact old m' i' z sl' hi'
     ·have e1:za t m' (t.probeStart h)=za t (m'-k) (za t k (t.probeStart h)):=by rw [ad,Q0 z]
      rw [e1] at sl';rcases L0 (m'-k) m with y|y
      ·exact absurd hi' (no (m'-k) y i' sl')
      ·have e2:m'-k=m:=by omega
       rw [e2,sl] at sl';injection sl' with sl'
       rw [<-sl'];exact ek
 ·rename_i hmet;rcases out with ⟨e,_⟩|⟨_,_,_,_,_,_,e⟩<;>exact(hmet _ e).elim
theorem Qo {Q:SetFound->G2->Prop}{x:G1}{h:P3}(l:Laid t (es.toList.map (·.1)))(few:t.mask<=9000)(ho:s.heap.get? a=some (wV es ep t))
 (refs: ∀ (i:G7) (y:G1),es[i]? =some (h,y)-> ∃b,y= .ref b)
 (qZ: ∀Q':M6->G2->Prop,Q' false s->R4 (R5 prog w) A (Y6 x ((es.filter (·.1==h)).toList.map (·.2))) Q' E s)
 (cmp: ∀ (i:G7) (y:G1),es[i]? =some (h,y)-> ∀Q':M6->G2->Prop,Q' (eqk i) s->R4 (R5 prog w) A (V0 [y] (eqBool y x)) Q' E s)
 (free: ∀j,(∀ (i:G7) (y:G1),es[i]? =some (h,y)->eqk i=false)->t.slot j= .empty->j<=t.mask->Way t h j->Q (.free j false) s)
 (there: ∀ (i:G7) (y:G1),es[i]? =some (h,y)->eqk i=true->Q (.there none) s):R4 (R5 prog w) A (setSearch a x h true) Q E s:=by
 obtain⟨n,nb,em,ne,met⟩:=l.search h;refine Ut l ho refs qZ cmp em nb ne (λal=>free _ (λi y e=> ?_) em (Us n _ (Vk t h)) ⟨n,rfl,ne⟩) there n 0 100000 none (V5 n) (by unfold C9 at nb;omega) rfl (λm i hm=>absurd hm (J5 _));have e1:(es.toList.map (·.1))[i]? =some h:=by
  rw [P4,N5,e];rfl
 obtain⟨m,hm,sl⟩:=met i e1;exact al m i hm sl (by rw [e];rfl)
theorem Laid.plain {hs:G0 P3}(l:Laid t hs)(b:M6):Laid {t with plain:=b} hs:=
 ⟨l.pow,l.big,l.dum,l.rise,l.size,l.room,l.low,λi h j x y=>Way.more (t:=t) (u:= {t with plain:=b}) rfl (λ_ z=>z) (l.way i h j x y)⟩
theorem Qp (es:M2 (P3×G1))(h:P3)(x:G1)(p:G7):(E8 es p (h,x)).toList.map (·.1)=(es.toList.map (·.1)).take p++h::(es.toList.map (·.1)).drop p:=by
 rw [aN,B6,F9,nG,nH]
theorem XB: ∀ (fuel k n:G7),U5 n fuel (2^k)<=2^k\/U5 n fuel (2^k)<=2*n
 |0,k,n=> .inl (P0 _)
 |fuel+1,k,n=>by
  unfold U5
  by_cases c:2^k<=n
  ·rw [R0 c,<-L1];rcases XB fuel (k+1) n with z|z
   ·refine .inr (S7 z ?_);rw [L1];omega
   ·exact .inr z
  ·rw [R7 c];exact .inl (P0 _)
theorem Uu {hashes:M2 P3}{w:G7}(hw:hashes.size<=w)(few:w<=40000):L3 w<=80008/\ ∃t' order,t.relaid hashes w=some (t',order)/\t'.led=t.led/\w<=t'.mask/\t'.mask<=2*w+8/\order.toList.Perm (G6 hashes.size)/\Laid t' (order.toList.map λi=>hashes.toList.getD i 0):=by
 obtain⟨m,a,b,c⟩:=above (n:=w) (by omega);have u:L3 w<=8\/L3 w<=2*w:=XB 64 3 w;refine⟨by omega,?_⟩;obtain⟨t',order,x,mk,y,z,p,q⟩:=Bi (mask:=L3 w-1) (finger:=t.finger) (moves:=t.movedTo (L3 w-1)) (led:=t.led) (plain:=t.plain) (hashes:=hashes) (n:=m) (by rw [<-a];omega) (by omega) (by omega);exact⟨t',order,x,y,by rw [mk];omega,by rw [mk];omega,p,q⟩
theorem PL {Q:Unit->G2->Prop}{wd:G7}(l:Laid t (es.toList.map (·.1)))(ho:s.heap.get? a=some (wV es ep t))(hw:es.size<=wd)(few:wd<=40000)
 (k: ∀es' t' h',es'.toList.Perm es.toList->Laid t' (es'.toList.map (·.1))->t'.led=t.led->wd<=t'.mask->t'.mask<=2*wd+8->h'.get? a=some (wV es' (ep+1) t')->O0 a s.heap h'->Q () {s with heap:=h'}):R4 (R5 prog w) A (pF a wd) Q E s:=by
 have fit:t.fits es.size=true:=l.fits (by rw [G3,D1]);obtain⟨up,t',order,er,ld,m1,m2,pm,l'⟩:=Uu (t:=t) (hashes:=es.map (·.1)) (w:=wd) (by rw [mS];exact hw) few;unfold pF;refine wpAny_bind (C8 ho rfl fit ?_);dsimp only;rw [er];have sl: ¬L3 wd>sizeLine:=K0.mpr (S7 up (by decide));simp only [sl,↓reduceIte];have fe: ∀l:G0 G7,(∀i∈l,i<es.size)->l.filterMap (λi=>es[i]?)=l.map (λi=>es.toList.getD i (0,.none)):=λl=>by
  induction l with
  |nil=>exact λ_=>rfl
  |cons i l ih=>
   intro h;have hi:=h i P8;have e:es[i]? =some (es.toList.getD i (0,.none)):=by
    rw [D5,N5,J8 hi];rfl
   rw [List.filterMap_cons_some e,F9,ih λx hx=>h x (R6 _ hx)]
 rw [mS] at pm;have lt: ∀i∈order.toList,i<es.size:=λi hi=>P6.mp (pm.mem_iff.mp hi)
 have e1:(order.filterMap (es[·]?)).toList=order.toList.map (λi=>es.toList.getD i (0,.none)):=by
  rw [Array.toList_filterMap];exact fe _ lt
 have e2:es.toList=(G6 es.size).map (λi=>es.toList.getD i (0,.none)):=by
  have:=jS es.toList (0,(.none:G1))
  rwa [D1] at this
 have pe:(order.filterMap (es[·]?)).toList.Perm es.toList:=by
  have:=pm.map (λi=>es.toList.getD i (0,.none));rw [<-e2] at this;rw [e1];exact this
 have sz:(order.filterMap (es[·]?)).size=es.size:=by have:=pe.length_eq;rwa [D1,D1] at this
 have hh:(order.filterMap (es[·]?)).toList.map (·.1)=order.toList.map λi=>(es.map (·.1)).toList.getD i 0:=by
  rw [e1,T6];refine M9 λi hi=> ?_
  show (es.toList.getD i (0,.none)).1=(es.map (·.1)).toList.getD i 0;have z:i<es.toList.length:=by rw [D1];exact lt i hi
  rw [kW,D5,D5,P4,P2 z];rfl
 rw [<-hh] at l';refine wpAny_bind ?_;show R4 _ _ (ite _ _ _) _ _ _;rw [R7 (by rw [sz];simp)];refine G8 ?_;dsimp only;exact i9 (s:=s) ho rfl (k _ t' _ pe l' ld m1 m2 (N4 _ ho rfl) (F3 ..)) (by rw [sz];exact S7 (show es.size<=40000 by omega) (by decide))
theorem Bj {Q:M6->G2->Prop}{b:P1}{h:P3}{bv:M6}{fuel:G7}(l:Laid t (es.toList.map (·.1)))(few:t.mask<=9000)(lean:es.size*5<t.mask*3)(ho:s.heap.get? a=some (wV es ep t))
 (refs: ∀ (i:G7) (y:G1),es[i]? =some (h,y)-> ∃b,y= .ref b)
 (qZ: ∀Q':M6->G2->Prop,Q' false s->R4 (R5 prog w) A (Y6 (.ref b) ((es.filter (·.1==h)).toList.map (·.2))) Q' E s)
 (cmp: ∀ (i:G7) (y:G1),es[i]? =some (h,y)-> ∀Q':M6->G2->Prop,Q' (eqk i) s->R4 (R5 prog w) A (V0 [y] (eqBool y (.ref b))) Q' E s)
 (byv: ∀Q':M6->G2->Prop,Q' bv s->R4 (R5 prog w) A (a4 8 (.ref b)) Q' E s)
 (new:(∀ (i:G7) (y:G1),es[i]? =some (h,y)->eqk i=false)-> ∀es' ep' t' h',es'.toList.Perm (es.push (h,.ref b)).toList->Laid t' (es'.toList.map (·.1))->t'.mask<=max t.mask (8*es.size+16)->es'.size*5<t'.mask*3->t'.led=t.led->h'.get? a=some (wV es' ep' t')->O0 a s.heap h'->Q true {s with heap:=h'})
 (there: ∀ (i:G7) (y:G1),es[i]? =some (h,y)->eqk i=true->Q false s):R4 (R5 prog w) A (gD a (.ref b) h (fuel+1)) Q E s:=by
 have fit:t.fits es.size=true:=l.fits (by rw [G3,D1]);have sz:(es.toList.map (·.1)).length=es.size:=by rw [G3,D1]
 unfold gD;refine wpAny_bind (C8 ho rfl fit ?_);dsimp only;rw [show byScan (.ref b) es=false from rfl];simp only [M8,↓reduceIte];refine wpAny_bind (Qo (eqk:=eqk) l few ho refs qZ cmp (λj no em jm wy=> ?_) (λi y e ek=> ?_))
 ·dsimp only;refine wpAny_bind (C8 ho rfl fit ?_);dsimp only;have l1:=l.put em jm wy (by rw [sz];have:=l.big;omega);have l1:=(congrArg (Laid (t.put j).1) (Qp es h (.ref b) (t.put j).2)).mpr l1;have z0:(E8 es (t.put j).2 (h,.ref b)).size=es.size+1:=by
   have:=(bH es (t.put j).2 (h,(.ref b:G1))).length_eq;rw [D1,D1,Array.size_push] at this;exact this
  have z1:(E8 es (t.put j).2 (h,.ref b)).size<=sizeLine:=by
   rw [z0];exact S7 (show es.size+1<=10000 by omega) (by decide)
  have rest: ∀t2:S6,Laid t2 ((E8 es (t.put j).2 (h,.ref b)).toList.map (·.1))->t2.led=t.led->t2.mask=t.mask->R4 (R5 prog w) A (do storeSet a (E8 es (t.put j).2 (h,.ref b)) t2;if (!false&&t2.tooFull)=true then (do pF a (Z2 (es.size+1));pure true) else pure true) Q E s:=λt2 l2 ld mk=>by
   refine wpAny_bind (i9 (s:=s) ho rfl ?_ z1);have o1:(s.heap.update a (Obj.putSet (E8 es (t.put j).2 (h,.ref b)) t2)).get? a=some (wV (E8 es (t.put j).2 (h,.ref b)) (ep+1) t2):=N4 _ ho rfl;cases tf:t2.tooFull with
   |true=>
    simp only [mR,gY,↓reduceIte];refine wpAny_bind (PL (wd:=Z2 (es.size+1)) (ep:=ep+1) l2 o1 (by rw [z0];unfold Z2;split<;>omega) (by unfold Z2;split<;>omega) λes' t' h' pe l' ld' m1 m2 o2 sb=> ?_);refine G8 (new no es' (ep+1+1) t' h' (pe.trans (bH ..)) l' ?_ ?_ (ld'.trans ld) o2 (qA (F3 ..) sb))
    ·unfold Z2 at m2;split at m2<;>omega
    ·have:=pe.length_eq;rw [D1,D1,z0] at this;unfold Z2 at m1;split at m1<;>omega
   |false=>
   simp only [bE,M8,↓reduceIte];refine G8 (new no _ (ep+1) t2 _ (bH ..) l2 (by omega) ?_ ld (N4 _ ho rfl) (F3 ..));rw [z0];have s2:=l2.size;rw [G3,D1,z0] at s2;have: ¬ (t2.fill*5>=t2.mask*3):=by simpa [qQ] using tf
   have f2:t2.fill=es.size+1:=by unfold nR;rw [l2.dum,s2];rfl
   omega
  cases hp:(t.put j).1.plain
  ·simp only [M8,↓reduceIte];refine wpAny_bind (G8 ?_);simp only [↓reduceIte];exact rest (t.put j).1 l1 rfl rfl
  ·simp only [↓reduceIte];refine wpAny_bind (byv _ ?_);cases bv
   ·simp only [M8,↓reduceIte];exact rest _ (l1.plain false) rfl rfl
   ·simp only [↓reduceIte];exact rest (t.put j).1 l1 rfl rfl
 ·exact G8 (there i y e ek)
end L2
namespace L2
open PySem PySem.Spec PyProof.Rows HT
def PM (h h':B3):Prop:= ∀ (b:P1) (o:Obj),o.cls= .type "tuple" ->h.get? b=some o->h'.get? b=some o
theorem yj {α β:Type}{M:k5}{A:T9}{E:G1->G2->Prop}{s:G2}{f:α->β->Sem (nW β)}{r:β}{Q:β->G2->Prop}: ∀ (l:G0 α),(∀x∈l,∀Q':nW β->G2->Prop,Q' (.yield r) s->R4 M A (f x r) Q' E s)->Q r s->R4 M A (forIn l r f) Q E s
 | [],_,q=>G8 q
 |x::l,h,q=>by
  rw [b5];exact wpAny_bind (h x (.head _) _ (yj l (λy hy=>h y (.tail _ hy)) q))
structure MemK (prog:S9)(w:N2)(K:Type)[DecidableEq K] where
 is:B3->K->P1->Prop
 hash:K->P3
 inj: ∀ {h:B3} {x y:K} {a:P1},is h x a->is h y a->x=y
 keep: ∀ {h h':B3} {x:K} {a:P1},PM h h'->is h x a->is h' x a
 hashed: ∀ {A:T9} {E:G1->G2->Prop} {s:G2} {x:K} {a:P1} {Q:P3->G2->Prop},A.units+8<cLine->is s.heap x a->(∀tk,Q (hash x) {s with toks:=tk})->R4 (R5 prog w) A (pyHash (.ref a)) Q E s
 same: ∀ {A:T9} {E:G1->G2->Prop} {s:G2} {x y:K} {a b:P1} {Q:M6->G2->Prop},A.units+8<cLine->is s.heap x a->is s.heap y b->Q (decide (x=y)) s->R4 (R5 prog w) A (eqBool (.ref a) (.ref b)) Q E s
 quiet: ∀ {A:T9} {E:G1->G2->Prop} {s:G2} {x:K} {a:P1} {Q:M6->G2->Prop},is s.heap x a->Q true s->R4 (R5 prog w) A (gL 8 (.ref a)) Q E s
 cls: ∀ {A:T9} {E:G1->G2->Prop} {s:G2} {x:K} {a:P1} {Q:M6->G2->Prop},is s.heap x a->Q false s->R4 (R5 prog w) A (K6 8 (.ref a)) Q E s
 byv: ∀ {A:T9} {E:G1->G2->Prop} {s:G2} {x:K} {a:P1} {Q:M6->G2->Prop},is s.heap x a->Q true s->R4 (R5 prog w) A (a4 8 (.ref a)) Q E s
section
variable {prog:S9}{w:N2}{A:T9}{E:G1->G2->Prop}{s:G2}{K:Type}[DecidableEq K]
theorem Bk (M:MemK prog w K){x:K}{a:P1}{qB:G0 G1}{Q:M6->G2->Prop}(hx:M.is s.heap x a)(hs: ∀y∈qB,∃k b,y= .ref b/\M.is s.heap k b)(q:Q false s):R4 (R5 prog w) A (Y6 (.ref a) qB) Q E s:=by
 unfold Y6;refine wpAny_bind (yj qB (λy hy Q' q'=> ?_) (G8 q));obtain⟨k,b,rfl,hk⟩:=hs y hy
 by_cases c:(a==b)=true
 ·simp only [c,Bool.true_or,↓reduceIte];exact G8 q'
 ·simp only [c,show mT (.ref a)=false from rfl,fQ,m8,M8,↓reduceIte];refine wpAny_bind (M.quiet hx (wpAny_bind (M.quiet hk (wpAny_bind (M.cls hx (wpAny_bind (M.cls hk ?_)))))));exact G8 q'
structure SetT (M:MemK prog w K)(L:M6)(is:K->P1->Prop)(f:P3×G1->K)(es:M2 (P3×G1))(t:S6)(ks:G0 K):Prop where
 laid:Laid t (es.toList.map (·.1))
 led:t.led=L
 lean:es.size*5<t.mask*3
 mask:t.mask<=8*ks.length+16
 each: ∀e∈es.toList,e.1=M.hash (f e)/\ ∃b,e.2= .ref b/\is (f e) b
 nd:(es.toList.map f).Nodup
 mem: ∀k,k∈es.toList.map f↔k∈ks
theorem ZC: ∀ {xs ys:G0 K},xs.Nodup->(∀x∈xs,x∈ys)->xs.length<=ys.length
 | [],_,_,_=>B4 _
 |x::xs,ys,nd,h=>by
  obtain⟨n1,n2⟩:=L7.mp nd;have le:=ZC (ys:=ys.erase x) n2 λy hy=>(Y8 (λ(e:y=x)=>n1 (by rw [<-e];exact hy))).mpr (h y (.tail _ hy))
  rw [V9 (h x (.head _))] at le;have pos:=X6 (h x (.head _));rw [S4];omega
variable {L:M6}{is:K->P1->Prop}{f:P3×G1->K}{es:M2 (P3×G1)}{t:S6}{ks:G0 K}
theorem SetT.size {M:MemK prog w K}(S:SetT M L is f es t ks):es.size<=ks.length:=by
 have:=ZC S.nd λk hk=>(S.mem k).mp hk
 rwa [G3,D1] at this
theorem SetT.tab {M:MemK prog w K}(S:SetT M L is f es t ks):Tab L es.size t:=
 ⟨S.laid.fits (by rw [G3,D1]),S.led,S.laid.dum,λ_=>S.laid.rise⟩
theorem SetT.imp {M:MemK prog w K}{is':K->P1->Prop}(S:SetT M L is f es t ks)(h: ∀k b,is k b->is' k b):SetT M L is' f es t ks:=
 ⟨S.laid,S.led,S.lean,S.mask,λe he=>by
  obtain⟨a,b,c,d⟩:=S.each e he;exact⟨a,b,c,h _ _ d⟩,S.nd,S.mem⟩
theorem Vl {M:MemK prog w K}{ep:G7}{a b:P1}{k:K}{Q:M6->G2->Prop}(hu:A.units+8<cLine)(S:SetT M L is f es t ks)(ho:s.heap.get? a=some (wV es ep t))(few:ks.length<1000)(to: ∀k b,is k b->M.is s.heap k b)(hk:is k b)
 (q: ∀r f' es' ep' t' h' tk,SetT M L is f' es' t' (k::ks)->h'.get? a=some (wV es' ep' t')->O0 a s.heap h'->Q r {s with heap:=h',toks:=tk}):R4 (R5 prog w) A (setAdd a (.ref b)) Q E s:=by
 refine B8 (wpAny_bind (M.hashed hu (to _ _ hk) λtk=>B8 ?_));show R4 _ _ (gD a (.ref b) (M.hash k) (99999+1)) _ _ _;have at_: ∀ (i:G7) (y:G1),es[i]? =some (M.hash k,y)->(M.hash k,y)∈es.toList:=λi y e=>by
  rw [<-N5] at e;exact S0 e
 refine Bj (s:= {s with toks:=tk}) (eqk:=λi=>match es[i]? with
  |some e=>decide (f e=k)
  |none=>false) (bv:=true) S.laid (S7 S.mask (by omega)) S.lean ho (λi y e=> ?_) (λQ' q'=> ?_) (λi y e Q' q'=> ?_) (λQ' q'=>M.byv (to _ _ hk) q') (λno es' ep' t' h' pe l' mk ln ld o' sb=> ?_) (λi y e ek=> ?_)
 ·obtain⟨_,c,d,_⟩:=S.each _ (at_ i y e);exact⟨c,d⟩
 ·refine Bk M (to _ _ hk) (λy hy=> ?_) q';obtain⟨e,he,rfl⟩:=R1.mp hy;obtain⟨_,c,d,i⟩:=S.each e (by rw [Array.toList_filter] at he;exact(L5.mp he).1);exact⟨_,c,d,to _ _ i⟩
 ·obtain⟨_,c,d,i'⟩:=S.each _ (at_ i y e);have d:y= .ref c:=d;subst d;simp only [e] at q';exact B8 (M.same hu (to _ _ i') (to _ _ hk) q')
 ·have kn:k ∉ ks:=λz=>by
   obtain⟨e,he,fe⟩:=R1.mp ((S.mem k).mpr z);obtain⟨i,hi⟩:=Z0 he;obtain⟨e1,e2⟩:=e;have h1:=(S.each _ he).1;rw [fe] at h1;have h1:e1=M.hash k:=h1;subst h1;have hi:es[i]? =some (M.hash k,e2):=by rw [<-N5];exact hi
   have:=no i e2 hi;simp only [hi,fe,pG] at this;cases this
  have same: ∀e∈es.toList,(if e=(M.hash k,.ref b) then k else f e)=f e:=λe he=>by
   by_cases c:e=(M.hash k,.ref b)
   ·rw [R0 c];obtain⟨_,c',d,i⟩:=S.each e he;rw [c] at d;cases d;exact M.inj (to _ _ hk) (to _ _ i)
   ·rw [R7 c]
  have me:(es.toList.map λe=>if e=(M.hash k,.ref b) then k else f e)=es.toList.map f:=M9 same;have pk:=pe.map λe=>if e=(M.hash k,.ref b) then k else f e
  rw [dB,B6,me] at pk;have one:(mU (λe=>if e=(M.hash k,.ref b) then k else f e) [(M.hash k,.ref b)])= [k]:=by simp
  rw [one] at pk;have sz:=S.size;refine q true (λe=>if e=(M.hash k,.ref b) then k else f e) es' ep' t' h' tk ⟨l',ld.trans S.led,ln,?_,λe he=> ?_,pk.nodup_iff.mpr ?_,λm=>pk.mem_iff.trans ?_⟩ o' sb
  ·have:=S.mask;rw [S4];omega
  ·have z:=pe.mem_iff.mp he;rw [dB] at z;rcases T5.mp z with z|z
   ·rw [same e z];exact S.each e z
   ·have z:=G9.mp z;subst z;rw [R0 rfl];exact⟨rfl,b,rfl,hk⟩
  ·rw [dD];refine⟨S.nd,by simp,λx hx y hy e=> ?_⟩;have:y=k:=by simpa using hy
   subst this;subst e;exact kn ((S.mem _).mp hx)
  ·rw [T5,S.mem m,G9,S5,or_comm]
 ·have hin:k∈ks:=by
   simp only [e,A1] at ek;rw [<-ek];exact(S.mem _).mp (N8 (at_ i y e))
  refine q false f es ep t s.heap tk ⟨S.laid,S.led,S.lean,?_,S.each,S.nd,λm=>(S.mem m).trans ?_⟩ ho (Y3 _ _)
  ·have:=S.mask;rw [S4];omega
  ·rw [S5];exact⟨.inr,λz=>z.elim (λe=>e ▸ hin) id⟩
end
section
variable {prog:S9}{w:N2}{A:T9}{E:G1->G2->Prop}{s:G2}
theorem Bl (n:G7){v:G1}(h:mT v=true):K6 n v=pure false:=by
 cases v<;>first|(cases h;done)|simp [K6]
theorem MD {n:P3}{v:G1}(h:(intKind prog w).is n v=true): ∃tk,v= .int n tk:=by
 cases v<;>simp [intKind,kZ] at h;exact⟨_,by rw [h]⟩
theorem Qq {ks:G0 P3}{vs:G0 G1}(h:ItemsAre (intKind prog w) ks vs): ∀v∈vs,∃n tk,v= .int n tk:=by
 induction h with
 |nil=>exact λv hv=>absurd hv Q6
 |cons h1 _ ih=>
  intro v hv;rcases S5.mp hv with rfl|hv
  ·obtain⟨tk,e⟩:=MD h1;exact⟨_,tk,e⟩
  ·exact ih v hv
theorem PN (d:G7){x:G0 P3}{a:P1}{Q:M6->G2->Prop}:cT (intKind prog w) s.heap x a->Q false s->R4 (R5 prog w) A (K6 (d+1) (.ref a)) Q E s
 |⟨_,_,_,ho,hc,hd,hi⟩,q=>by
  unfold K6;refine wpAny_bind (cB (T:= "tuple") ⟨_,ho,hc⟩ ?_);simp only [Q7,↓reduceIte,pure_bind,bS,M8];refine wpAny_bind (K4 ho hd (wpAny_bind ?_));simp only [<-K1];refine yj _ (λv hv Q' q'=> ?_) (G8 q);rw [Bl d (hi.byValue v hv)];exact G8 q'
theorem Bn (d:G7)(m:P3)(tk:Tok):a4 d (.int m tk)=pure true:=by cases d<;>rfl
theorem PP (d:G7){x:G0 P3}{a:P1}{Q:M6->G2->Prop}:cT (intKind prog w) s.heap x a->Q true s->R4 (R5 prog w) A (a4 (d+1) (.ref a)) Q E s
 |⟨_,_,_,ho,hc,hd,hi⟩,q=>by
  unfold a4;refine wpAny_bind (Y0 (T:= "tuple") ⟨_,ho,hc⟩ F.slot_tuple_hash.lookup ?_);refine wpAny_bind (K4 ho hd (wpAny_bind ?_));simp only [Z7,<-K1];refine yj _ (λv hv Q' q'=> ?_) (G8 q);obtain⟨m,tk,rfl⟩:=Qq hi v hv;rw [Bn];exact G8 q'
def EI (prog:S9)(w:N2):MemK prog w (G0 P3) where
 is:=λh x a=>cT (intKind prog w) h x a
 hash:=aB (intKind prog w)
 inj:=λhx hy=>hx.inj hy
 keep:=λk ⟨o,items,n,ho,hc,hd,hi⟩=>⟨o,items,n,k _ o hc ho,hc,hd,hi⟩
 hashed:=λhu hk q=>iE (by omega) hk (q _)
 same:=λhu hx hy q=>wpAny_eqBool_tuple (by omega) hx hy q
 quiet:=λhk q=>wpAny_eqIsQuiet_tuple hk q
 cls:=λhk q=>PN 7 hk q
 byv:=λhk q=>PP 7 hk q
end
end L2
namespace L2
open PySem PySem.Spec PyProof.Rows HT PySem.SeqAt
section
variable {prog:S9}{w:N2}{A:T9}{E:G1->G2->Prop}{a I:P1}{fp wr:G0 P1}{n:G7}{P:G7->G1->Prop}{St:G7->B3->Prop}{K:Type}[DecidableEq K]{M:MemK prog w K}{L:M6}{is:K->P1->Prop}{key:G7->K}
theorem Jg {R:g8->G2->Prop}(hu:A.units+16<cLine)(W:Walks prog w A.in1 I fp wr n P St)(num: ∀i v,P i v-> ∃b,v= .ref b/\is (key i) b)(na:a ∉ fp)(few:n<1000)(nt: ∀i h,St i h-> ∀b∈wr,∀o,h.get? b=some o->o.cls≠ .type "tuple"):
 ∀ (k i:G7) (s:G2) (f:P3×G1->K) (es:M2 (P3×G1)) (ep:G7) (t:S6),i+k=n->St i s.heap->s.heap.get? a=some (wV es ep t)->(∀k b,is k b->M.is s.heap k b)->SetT M L is f es t ((G6 i).map key).reverse->
  (∀h' tk f' es' ep' t',h'.get? a=some (wV es' ep' t')->SetT M L is f' es' t' ((G6 n).map key).reverse->(∀b o,b≠a->b ∉ wr->s.heap.get? b=some o->h'.get? b=some o)->R (.ok (.ret .none)) {s with heap:=h',toks:=tk})->
  U3 (R5 prog w) A (.builtin "set.update.loop" ⟨[.ref a,.ref I],[]⟩) R s
 |0,i,s,f,es,ep,t,hk,st,ha,to,S,q=>by
  obtain rfl:i=n:=by omega
  refine A8 YZ ?_;rw [O6 Zy];exact wpAny_bind (W.done s _ _ st λh' tk kept=>G8 (q h' tk f es ep t (kept _ _ (λz=>na (W.sub _ z)) ha) S λb o _ nb e=>kept b o nb e))
 |k+1,i,s,f,es,ep,t,hk,st,ha,to,S,q=>by
  refine A8 YZ ?_;rw [O6 Zy];refine wpAny_bind (W.item i s _ _ (by omega) st λv h1 tk1 pv st1 kept1=> ?_);obtain⟨b,rfl,hb⟩:=num i v pv;have ha1:=kept1 _ _ (λz=>na (W.sub _ z)) ha;have to1: ∀k b,is k b->M.is h1 k b:=λk b z=>M.keep (λc o hc e=>kept1 c o (λm=>nt i _ st c m o e hc) e) (to k b z)
  refine wpAny_bind (B8 (Vl (s:= {s with heap:=h1,toks:=tk1}) (show A.units+1+8<cLine by omega) S ha1 (by simp;omega) to1 hb λr f2 es2 ep2 t2 h2 tk2 S2 ha2 same2=>G8 ⟨Q5 Zy _,?_⟩));have S3:SetT M L is f2 es2 t2 ((G6 (i+1)).map key).reverse:=by
   rw [b7,B6,gP];exact S2
  have kep: ∀c o,o.cls= .type "tuple" ->h1.get? c=some o->h2.get? c=some o:=λc o hc e=>same2.extBut _ _ (λz=>by
   subst z;rw [show h1.get? c=some (wV es ep t) from ha1] at e;cases e;exact absurd (show g7 "set" =g7 "tuple" from hc) (by decide)) e
  refine Jg hu W num na few nt k (i+1) {s with heap:=h2,toks:=tk2} f2 es2 ep2 t2 (by omega) (W.frame _ _ _ st1 λb hb o e=>same2.extBut _ _ (λz=>na (z ▸ hb)) e) ha2 (λk b z=>M.keep kep (to1 k b z)) S3 λh' tk' f' es' ep' t' ha' S' kept'=> ?_
  exact q h' tk' f' es' ep' t' ha' S' λb o ba bw e=>kept' b o ba bw (same2.extBut _ _ ba (kept1 b o bw e))
theorem Yb (L:M6)(f:P3×G1->K):SetT M L is f #[] (.fresh 0 0 L) []:=⟨Qn 0 0 L,rfl,(by show 0*5<7*3;decide),(by show 7<=8*0+16;decide),λe he=>absurd he (by simp),by simp,λk=>by simp⟩
variable {s:G2}
theorem PQ {l:P1}{vs:G0 G1}{ep:G7}{T:J6}{Q:D0 G1->G2->Prop}(hu:A.units+32<cLine)(calm:A.handled=none)(hT:T= "list" \/T= "tuple")
 (hl: ∃o,s.heap.get? l=some o/\o.cls= .type T/\ ∃c,o.data= .seq vs.toArray c)(hM: ∀i v,vs[i]? =some v-> ∃b,v= .ref b/\is (key i) b)(to: ∀k b,is k b->M.is s.heap k b)(few:vs.length<1000)(ha:s.heap.get? a=some (wV #[] ep (.fresh 0 0 (wu w))))(la:l≠a)
 (k: ∀h' tk f' es' ep' t',h'.get? a=some (wV es' ep' t')->SetT M (wu w) is f' es' t' ((G6 vs.length).map key).reverse->(∀b o,b≠a->s.heap.get? b=some o->h'.get? b=some o)->Q (some .none) {s with heap:=h',toks:=tk}):
 R4 (R5 prog w) A (oJ (.ref a) "__init__" [.ref l]) Q E s:=by
 have ty:s.TypeIs (.ref a) "set" :=⟨_,ha,rfl⟩;refine W6 ty F.called_set.init (g9 (gE F.called_set.init.plain ZP (WS ty ?_)));have f1:=Va;have f2:=Vb;have f3:=Uj;have f4:=Uk;obtain⟨⟨oc,od,odt,osl⟩,hol,hc,c,hd⟩:=hl;simp only at hc hd;subst hc hd;have state:=λ{P:M2 (P3×G1)×G7×S6->G2->Prop} {E':G1->G2->Prop} {A':T9}=>C8 (prog:=prog) (w:=w) (A:=A') (E:=E') (Q:=P) (s:=s) ha rfl (Ru (wu w)).tab.fits
 have far:a≠s.heap.objs.size:=λz=>M4 _ (z ▸ P7 ha)
 have lfar:l≠s.heap.objs.size:=λz=>M4 _ (z ▸ P7 hol)
 have na:a ∉ [s.heap.objs.size,l]:=by simp [far,la.symm]
 have sv:vs.toArray.size=vs.length:=D8 ..;have fin: ∀ {o:Obj} h' tk f' es' ep' t',h'.get? a=some (wV es' ep' t')->SetT M (wu w) is f' es' t' ((G6 vs.toArray.size).map key).reverse->(∀b ob,b≠a->b ∉ [s.heap.objs.size]->(s.heap.push o).get? b=some ob->h'.get? b=some ob)->Q (some .none) {s with heap:=h',toks:=tk}:=λh' tk f' es' ep' t' e S kept=>by
  rw [sv] at S;exact k h' tk f' es' ep' t' e S λb ob nb q=>kept b ob nb (λz=>M4 _ (G9.mp z ▸ P7 q)) (G5 _ q)
 have to1: ∀ (o:Obj) (k:K) (b:P1),is k b->M.is (s.heap.push o) k b:=λo k b z=>M.keep (λc ob hc e=>G5 _ e) (to k b z)
 rcases hT with rfl|rfl
 ·have tl:s.TypeIs (.ref l) "list" :=⟨_,hol,rfl⟩;have isl:s.heap.IsList l vs.toArray:=⟨_,hol,rfl,c,rfl⟩
  wp_walk using state,E5 isl
  refine Jg (f:=λ_=>key 0) (M:=M) (is:=is) (key:=key) (show A.units+1+16<cLine by omega) (bK (prog:=prog) (w:=w) (A:=A.in1.in1) calm s.heap.objs.size l lfar vs.toArray) (λi v hv=>hM i v (by simpa using hv)) na (by rw [sv];exact few) (λi h st b hb o e=> ?_) vs.toArray.size 0 _ #[] ep _ (V5 _) ⟨⟨_,D9 _ rfl,rfl,rfl⟩,⟨_,G5 _ hol,rfl,c,rfl⟩⟩ (G5 _ ha) (to1 _) (Yb _ _) λh' tk f' es' ep' t' e S kept=>G8 (G8 (fin h' tk f' es' ep' t' e S kept))
  obtain⟨⟨o',e',c',_⟩,_⟩:=st;rw [G9.mp hb,e'] at e;cases e;rw [c'];decide
 ·have tl:s.TypeIs (.ref l) "tuple" :=⟨_,hol,rfl⟩;have isl:s.heap.IsTuple l vs.toArray:=⟨_,hol,rfl,c,rfl⟩
  wp_walk using state,aS isl
  refine Jg (f:=λ_=>key 0) (M:=M) (is:=is) (key:=key) (show A.units+1+16<cLine by omega) (lE (prog:=prog) (w:=w) (A:=A.in1.in1) calm s.heap.objs.size l lfar vs.toArray) (λi v hv=>hM i v (by simpa using hv)) na (by rw [sv];exact few) (λi h st b hb o e=> ?_) vs.toArray.size 0 _ #[] ep _ (V5 _) ⟨⟨_,D9 _ rfl,rfl,rfl⟩,⟨_,G5 _ hol,rfl,c,rfl⟩⟩ (G5 _ ha) (to1 _) (Yb _ _) λh' tk f' es' ep' t' e S kept=>G8 (G8 (fin h' tk f' es' ep' t' e S kept))
  obtain⟨⟨o',e',c',_⟩,_⟩:=st;rw [G9.mp hb,e'] at e;cases e;rw [c'];decide
theorem RI {l:P1}{vs:G0 G1}{T:J6}{Q:G1->G2->Prop}(hu:A.units+40<cLine)(calm:A.handled=none)(hT:T= "list" \/T= "tuple")
 (hl: ∃o,s.heap.get? l=some o/\o.cls= .type T/\ ∃c,o.data= .seq vs.toArray c)(hM: ∀i v,vs[i]? =some v-> ∃b,v= .ref b/\is (key i) b)(to: ∀k b,is k b->M.is s.heap k b)(few:vs.length<1000)
 (k: ∀h' tk f' es' ep' t',h'.get? s.heap.objs.size=some (wV es' ep' t')->SetT M (wu w) is f' es' t' ((G6 vs.length).map key).reverse->(∀b o,s.heap.get? b=some o->h'.get? b=some o)->Q (.ref s.heap.objs.size) {s with heap:=h',toks:=tk}):
 R4 (R5 prog w) A (call (.type "set") [.ref l]) Q E s:=by
 have fits:nM "set" ⟨[.ref l],[]⟩=pure ():=by kernel_rfl
 have newFits:dU "set.__new__" ⟨[.type "set",.ref l],[]⟩=pure ():=by kernel_rfl
 obtain⟨o,hol,r⟩:=hl;refine L2.Uf (Made:=λv rG=>v= .ref s.heap.objs.size/\rG= {s with heap:=s.heap.push (wV #[] 0 (.fresh 0 0 (wu w)))}) F.called_set fits
  (g9 (gE F.called_set.plain F.entry_set_new (lB newFits (Rv ⟨rfl,rfl⟩)))) λv rG ⟨ev,es⟩=> ?_
 subst ev es;have at_:(s.heap.push (wV #[] 0 (.fresh 0 0 (wu w)))).get? s.heap.objs.size=some (wV #[] 0 (.fresh 0 0 (wu w))):=D9 _ rfl;refine⟨⟨_,at_,rfl⟩,PQ (s:= {s with heap:=s.heap.push (wV #[] 0 (.fresh 0 0 (wu w)))}) (M:=M) (is:=is) (key:=key) (show A.units+1+32<cLine by omega) calm hT ⟨o,G5 _ hol,r⟩ hM (λk b z=>M.keep (λc o hc e=>G5 _ e) (to k b z)) few at_ (λz=>M4 _ (z ▸ P7 hol)) λh' tk f' es' ep' t' e S kept=>⟨rfl,k h' tk f' es' ep' t' e S λb ob q=>kept b ob (λz=>M4 _ (z ▸ P7 q)) (G5 _ q)⟩⟩
end
theorem Wm {prog:S9}{w:N2}: ∀ {vs:G0 G1} {ns:G0 P3},X2 vs ns->ItemsAre (intKind prog w) ns vs
 |_,_,.nil=> .nil
 |_,_,.cons n t a=> .cons (by simp [intKind,kZ]) (Wm a)
theorem FR {X:Cx}{pins:G0 (P1×Obj)}{σ:St}{H:Hp}{s:G2}(I:Inv X pins σ H s)(k:G0 P3)(b:P1)(h:H b=some (.tup (k.map V.int))):(EI X.prog X.w).is s.heap k b:=by
 obtain⟨_,us,r2,o,e,c,_,n,d⟩:=I.hok b _ h;exact⟨o,us.toArray,n,e,c,d,Wm (yG r2)⟩
end L2
namespace L2
open PySem PySem.Spec PyProof.Rows PySem.SeqAt HT
def pcS (T:G0 (G0 P3))(n p:G7):G0 G7:=(G6 n).filter λj=>wk T n p j&&wk T n j p
def BP (T:G0 (G0 P3))(n:G7):G0 (G0 G7):=((G6 n).filter λp=>decide ((pcS T n p).headD 0=p)).map (pcS T n)
section
variable {T:G0 (G0 P3)}{n e:G7}
theorem FS (p:G7):IsS n (pcS T n p):=⟨_,rfl⟩
variable {p:G7}
theorem mem_pc {j:G7}:j∈pcS T n p↔j<n/\wk T n p j=true/\wk T n j p=true:=by
 unfold pcS;rw [L5,P6,C3]
theorem PR (hp:p<n):p∈pcS T n p:=mem_pc.mpr ⟨hp,Um T n p,Um T n p⟩
theorem Bo {q:G7}(hp:p<n)(h:q∈pcS T n p):pcS T n q=pcS T n p:=by
 obtain⟨hq,h1,h2⟩:=mem_pc.mp h;refine(FS q).ext (FS p) λj=> ?_
 rw [mem_pc,mem_pc];exact⟨λ⟨a,b,c⟩=>⟨a,wG hq h1 b,wG hq c h2⟩,λ⟨a,b,c⟩=>⟨a,wG hp h2 b,wG hp c h1⟩⟩
theorem Bp (hp:p<n): ∃r,pcS T n p=(pcS T n p).headD 0::r:=by
 cases h:pcS T n p with
 |nil=>have:=PR (T:=T) hp;rw [h] at this;cases this
 |cons x r=>exact⟨r,rfl⟩
theorem Bq (hp:p<n):(pcS T n p).headD 0<n/\pcS T n ((pcS T n p).headD 0)=pcS T n p:=by
 obtain⟨r,h⟩:=Bp (T:=T) hp;have m:(pcS T n p).headD 0∈pcS T n p:=by
  generalize (pcS T n p).headD 0=x at h;rw [h];exact P8
 exact⟨(mem_pc.mp m).1,Bo hp m⟩
theorem mem_pcs {S:G0 G7}:S∈BP T n↔ ∃p,p<n/\S=pcS T n p:=by
 unfold BP;rw [R1];constructor
 ·rintro ⟨p,hp,rfl⟩;exact⟨p,P6.mp (L5.mp hp).1,rfl⟩
 ·rintro ⟨p,hp,rfl⟩;obtain⟨a,b⟩:=Bq (T:=T) hp;exact⟨(pcS T n p).headD 0,L5.mpr ⟨P6.mpr a,D7 (by rw [b])⟩,b⟩
end
end L2
namespace L2
open PySem PySem.Spec PyProof.Rows HT PySem.SeqAt
section
variable {prog:S9}{w:N2}{A:T9}{E:G1->G2->Prop}{s:G2}
inductive RowsIn (prog:S9)(w:N2)(h:B3):G0 (G0 P3)->G0 G1->Prop
 |nil:RowsIn prog w h [] []
 |cons {r:G0 P3} {b:P1} {T:G0 (G0 P3)} {vs:G0 G1}:cT (intKind prog w) h r b->RowsIn prog w h T vs->RowsIn prog w h (r::T) (.ref b::vs)
variable {h:B3}
theorem RowsIn.one: ∀ {T U:G0 (G0 P3)} {vs:G0 G1},RowsIn prog w h T vs->RowsIn prog w h U vs->T=U
 |_,_,_,.nil,.nil=>rfl
 |_,_,_,.cons a x,.cons b y=>by rw [a.inj b,x.one y]
theorem RowsIn.keep {h':B3}(k:PM h h'): ∀ {T:G0 (G0 P3)} {vs:G0 G1},RowsIn prog w h T vs->RowsIn prog w h' T vs
 |_,_,.nil=> .nil
 |_,_,.cons ⟨o,items,n,ho,hc,hd,hi⟩ x=> .cons ⟨o,items,n,k _ o hc ho,hc,hd,hi⟩ (x.keep k)
theorem RowsIn.each: ∀ {T:G0 (G0 P3)} {vs:G0 G1},RowsIn prog w h T vs-> ∀v∈vs,∃r b,v= .ref b/\cT (intKind prog w) h r b
 |_,_,.nil,v,hv=>absurd hv Q6
 |_,_,.cons a x,v,hv=>by
  rcases S5.mp hv with e|hv
  ·exact⟨_,_,e,a⟩
  ·exact x.each v hv
def Uv (prog:S9)(w:N2)(h:B3)(T:G0 (G0 P3))(a:P1):Prop:= ∃o items n,h.get? a=some o/\o.cls= .type "tuple" /\o.data= .seq items n/\RowsIn prog w h T items.toList
def Br (prog:S9)(w:N2)(T:G0 (G0 P3)):P3:=hR (U7 (T.map (aB (intKind prog w))))
theorem Vm {Q:M2 P3->G2->Prop}(hu:A.units+4<cLine): ∀ {vs:G0 G1} {U:G0 (G0 P3)} (b:M2 P3) (s1:G2),s1.heap=s.heap->RowsIn prog w s.heap U vs->(∀tk,Q (b++(U.map (aB (intKind prog w))).toArray) {s1 with toks:=tk})->
 R4 (R5 prog w) A (forIn vs b λx r=>do let h <-pyHash x;pure (J4 (r.push h))) Q E s1
 |_,_,b,s1,_,.nil,q=>G8 (by have:=q s1.toks;simpa using this)
 |_,_,b,s1,e1,.cons (r:=r) (T:=U) a x,q=>by
  rw [b5];refine wpAny_bind (wpAny_bind (iE (by omega) (by rw [e1];exact a) (G8 ?_)));exact Vm hu (b.push (aB (intKind prog w) r)) _ e1 x λtk=>by
   have:=q tk;rw [F9] at this;simpa using this
variable {T:G0 (G0 P3)}{a:P1}
theorem RJ {Q:P3->G2->Prop}(hu:A.units+8<cLine)(hT:Uv prog w s.heap T a)(q: ∀tk,Q (Br prog w T) {s with toks:=tk}):R4 (R5 prog w) A (pyHash (.ref a)) Q E s:=by
 obtain⟨o,items,n,ho,hc,hd,hi⟩:=hT;have ty:s.TypeIs (.ref a) "tuple" :=⟨o,ho,hc⟩;have room:A.units<cLine:=by omega
 have slot:=λ{M:k5} {A':T9} {E':G1->G2->Prop} {P:D0 G1->G2->Prop}=>Y0 (M:=M) (A:=A') (E:=E') (Q:=P) ty F.slot_tuple_hash.lookup
 unfold pyHash pyHashByItsType;refine wpAny_bind (wpAny_cRoomFor_or (.inr room) (wpAny_bind (slot ?_)));rw [R7 (by simp)];refine wpAny_bind (slot (wpAny_bind (wpAny_callSpecialIfBoundUnlessNone?_slot ty j0 (F6 j0 ty F.entry_tuple_hash ?_ (F.args_tuple_hash_1 _)))));show R4 _ _ (U1 (.ref a) >>= _) _ _ s;refine wpAny_bind (wpAny_tupleItemsOf ho hd (wpAny_bind ?_));rw [<-K1];refine Vm (A:=A.in1) (show A.units+1+4<cLine by omega) #[] s rfl hi λtk=> ?_
 have told:=q (tk+1);unfold Br hR at told;show R4 _ _ (retInt (U7 ((#[]:M2 P3)++(T.map (aB (intKind prog w))).toArray).toList)) _ _ _;rw [show ((#[]:M2 P3)++(T.map (aB (intKind prog w))).toArray).toList=T.map (aB (intKind prog w)) by simp];refine wpAny_ret_mkInt ?_;show R4 _ _ (pyHashByItsType.reduced _) _ _ _;unfold pyHashByItsType.reduced;split
 ·rename_i c;rw [R0 c] at told;exact G8 told
 ·rename_i c;rw [R7 c] at told;exact wpAny_bind (hO (G8 told))
theorem PU (d:G7){x:G0 P3}{a:P1}{Q:M6->G2->Prop}:cT (intKind prog w) s.heap x a->Q true s->R4 (R5 prog w) A (gL (d+1) (.ref a)) Q E s
 |⟨_,_,_,ho,hc,hd,hi⟩,q=>by
  unfold gL;refine wpAny_bind (Y0 (T:= "tuple") ⟨_,ho,hc⟩ F.slot_tuple_eq.lookup (wpAny_bind (bM (T:= "tuple") ⟨_,ho,hc⟩ fP ?_)));simp only [bS,M8,↓reduceIte];refine wpAny_bind (K4 ho hd (wpAny_bind ?_));simp only [Z7,<-K1];refine yj _ (λv hv Q' q'=> ?_) (G8 q);rw [eqIsQuiet_byValue d (hi.byValue v hv)];exact G8 q'
variable {Q:M6->G2->Prop}
theorem PV:Uv prog w s.heap T a->Q true s->R4 (R5 prog w) A (gL 8 (.ref a)) Q E s
 |⟨_,_,_,ho,hc,hd,hi⟩,q=>by
  unfold gL;refine wpAny_bind (Y0 (T:= "tuple") ⟨_,ho,hc⟩ F.slot_tuple_eq.lookup (wpAny_bind (bM (T:= "tuple") ⟨_,ho,hc⟩ fP ?_)));simp only [bS,M8,↓reduceIte];refine wpAny_bind (K4 ho hd (wpAny_bind ?_));simp only [Z7,<-K1];refine yj _ (λv hv Q' q'=> ?_) (G8 q);obtain⟨r,b,rfl,hr⟩:=hi.each v hv;exact wpAny_bind (PU 6 hr (G8 q'))
theorem Bs:Uv prog w s.heap T a->Q false s->R4 (R5 prog w) A (K6 8 (.ref a)) Q E s
 |⟨_,_,_,ho,hc,hd,hi⟩,q=>by
  unfold K6;refine wpAny_bind (cB (T:= "tuple") ⟨_,ho,hc⟩ ?_);simp only [Q7,↓reduceIte,pure_bind,bS,M8];refine wpAny_bind (K4 ho hd (wpAny_bind ?_));simp only [<-K1];refine yj _ (λv hv Q' q'=> ?_) (G8 q);obtain⟨r,b,rfl,hr⟩:=hi.each v hv;exact wpAny_bind (PN 6 hr (G8 q'))
theorem Bt:Uv prog w s.heap T a->Q true s->R4 (R5 prog w) A (a4 8 (.ref a)) Q E s
 |⟨_,_,_,ho,hc,hd,hi⟩,q=>by
  unfold a4;refine wpAny_bind (Y0 (T:= "tuple") ⟨_,ho,hc⟩ F.slot_tuple_hash.lookup (wpAny_bind (K4 ho hd (wpAny_bind ?_))));simp only [Z7,<-K1];refine yj _ (λv hv Q' q'=> ?_) (G8 q);obtain⟨r,b,rfl,hr⟩:=hi.each v hv;exact wpAny_bind (PP 6 hr (G8 q'))
theorem Wn: ∀ {ks:G0 P3} {vs:G0 G1},ItemsAre (intKind prog w) ks vs->ReadsAll h vs (ks.map X4) []
 |_,_,.nil=> .nil
 |_,_,.cons a x=>by
  obtain⟨tk,rfl⟩:=MD a;exact .cons (as:= []) (bs:= []) (.int _ _) (Wn x)
theorem Jh: ∀ {T:G0 (G0 P3)} {vs:G0 G1},RowsIn prog w h T vs->ReadsAll h vs (T.map wW) []
 |_,_,.nil=> .nil
 |_,_,.cons ⟨_,_,_,ho,hc,hd,hi⟩ x=> .cons (as:= []) (bs:= []) (.tuple ho hc hd (Wn hi)) (Jh x)
theorem Bv {U:G0 (G0 P3)}{b:P1}(hu:A.units+8<cLine)(hT:Uv prog w s.heap T a)(hU:Uv prog w s.heap U b)(q:Q (decide (T=U)) s):R4 (R5 prog w) A (eqBool (.ref a) (.ref b)) Q E s:=by
 obtain⟨_,_,_,ho,hc,hd,hi⟩:=hT;obtain⟨_,_,_,ho',hc',hd',hi'⟩:=hU;have lay: ∀V:G0 (G0 P3),B2 (.tuple (V.map wW))=true:=λV=>by simp only [B2];exact wF V
 have dep:A7 (.tuple (T.map wW))<=4:=by simp only [A7];have:=yB T;omega
 refine eqBoolOverData prog w A E s _ _ _ _ _ _ Q (.tuple ho hc hd (Jh hi)) (.tuple ho' hc' hd' (Jh hi')) (lay T) (lay U) (by have:=lS (A7 (.tuple (T.map wW))) (A7 (.tuple (U.map wW)));omega) ?_;show Q (B5 (T.map wW) (U.map wW)) s;rw [zM];exact q
def Lo (prog:S9)(w:N2):MemK prog w (G0 (G0 P3)) where
 is:=λh T a=>Uv prog w h T a
 hash:=Br prog w
 inj:=λ⟨_,_,_,ho,_,hd,hi⟩ ⟨_,_,_,ho',_,hd',hi'⟩=>by
  rw [ho] at ho';cases ho';rw [hd] at hd';cases hd';exact hi.one hi'
 keep:=λk ⟨o,items,n,ho,hc,hd,hi⟩=>⟨o,items,n,k _ o hc ho,hc,hd,hi.keep k⟩
 hashed:=λhu hk q=>RJ hu hk q
 same:=λhu hx hy q=>Bv hu hx hy q
 quiet:=λhk q=>PV hk q
 cls:=λhk q=>Bs hk q
 byv:=λhk q=>Bt hk q
end
def RK (H:Hp):G0 V->G0 (G0 P3)->Prop
 | [],[]=>True
 |v::vs,r::T=>(∃c,v= .ref c/\H c=some (.tup (r.map V.int)))/\RK H vs T
 |_,_=>False
def FT (H:Hp)(T:G0 (G0 P3))(b:P1):Prop:= ∃us,H b=some (.tup us)/\RK H us T
theorem PX {X:Cx}{pins:G0 (P1×Obj)}{σ:St}{H:Hp}{s:G2}(I:Inv X pins σ H s): ∀ {vs:G0 V} {T:G0 (G0 P3)} {us:G0 G1},RK H vs T->Vals vs us->RowsIn X.prog X.w s.heap T us
 | [],[],_,_,.nil=> .nil
 |_::_,r::_,_,⟨⟨c,e,hc⟩,x⟩,.cons rv y=>by
  subst e;cases rv;exact .cons (FR I r c hc) (PX I x y)
theorem ME {X:Cx}{pins:G0 (P1×Obj)}{σ:St}{H:Hp}{s:G2}(I:Inv X pins σ H s)(T:G0 (G0 P3))(b:P1)(h:FT H T b):(Lo X.prog X.w).is s.heap T b:=by
 obtain⟨us,hb,x⟩:=h;obtain⟨_,its,rv,o,e,c,_,n,d⟩:=I.hok b _ hb;exact⟨o,its.toArray,n,e,c,d,by rw [List.toList_toArray];exact PX I x rv⟩
theorem PY {K:G4}{H:Hp}: ∀ {T:G0 (G0 P3)} {vs:G0 V},RelDs K H (T.map zJ) vs->RK H vs T
 | [],vs,r=>by
  have:vs= []:=r;subst this;exact bJ
 |row::T,vs,r=>by
  obtain⟨v,us,e,r1,r2⟩:=(show ∃v r,vs=v::r/\RelD K H (zJ row) v/\RelDs K H (T.map zJ) r from r);obtain⟨a,ws,e4,hH,r4⟩:=(show ∃a vs,v= .ref a/\H a=some (.tup vs)/\RelDs K H (row.map D.int) vs from r1);rw [jD r4] at hH;subst e;exact⟨⟨a,e4,hH⟩,PY r2⟩
end L2
namespace L2
open PySem PySem.Spec PyProof.Rows PySem.W
structure DefIn (K:Frag)(x:Str)(st:L6)(f:P1)(fd:T7):Prop where
 at_:nsIn K L8 x=some (some (.ref f))
 fn:Fun K x x st f fd
variable {K:Frag}{h base:B3}{mg:Str->D0 G1}{x:Str}{st:L6}{f:P1}{fd:T7}{P:S9}{w:N2}{n:G7}{ps:G0 Str}
theorem FU {oc:G1}{od an:D0 P1}{osl:M2 (D0 G1)}{kV doc pm cdv ct:G1}(a:nsIn K L8 x=some (some (.ref f)))(l:K.lookup f=some ⟨oc,od,.func (fnOf x x (wZ st) (zv st) (jb st) .none kV doc pm an cdv ct),osl⟩)
 (c:codeIn K cdv x=true)(k:keepIn K (.ref f)=true):DefIn K x st f (fnOf x x (wZ st) (zv st) (jb st) .none kV doc pm an cdv ct):=⟨a,CH l c k⟩
abbrev OP (x:Str)(st:L6)(ps:G0 Str):Prop:= ∀ (kV doc pm:G1) (an:D0 P1) (cdv ct:G1) (us:G0 G1),us.length=ps.length->o3 (fnOf x x (wZ st) (zv st) (jb st) .none kV doc pm an cdv ct) ⟨us,[]⟩=pure (ps.zip us)
theorem DefIn.nm (d:DefIn K x st f fd)(X:K.In h)(G:h.Ns L8 mg):mg x=some (.ref f):=mg_of X G d.at_
theorem DefIn.cal {sp:RDn}(d:DefIn K x st f fd)(l:OpenLaw)(w:N2)(base:B3)(X:K.In h)(G:h.Ns L8 mg)(ok:FnOk l.prog w K mg base CX0 n f fd ps (LSp K sp))(b:OP x st ps:=by first|(exact λ_ _ _ _ _ _ us hl=>match us,hl with| [_],_=>rfl)|(exact λ_ _ _ _ _ _ us hl=>match us,hl with| [_,_],_=>rfl)|(exact λ_ _ _ _ _ _ us hl=>match us,hl with| [_,_,_],_=>rfl)|(exact λ_ _ _ _ _ _ us hl=>match us,hl with| [_,_,_,_],_=>rfl)|(exact λ_ _ _ _ _ _ us hl=>match us,hl with| [_,_,_,_,_],_=>rfl)):jj l.prog w K mg base n x ps sp:=⟨_,_,ok,d.fn.binds b,d.fn.kp,d.nm X G⟩
def zsB (K:Frag):M6:= ["len","max","min","divmod","all","any","repr","sum","sorted","int","tuple","list","set","bool","isinstance","range","zip","enumerate","reversed"].all λx=>nsIn K L8 (Str.ofString x)==some none
theorem OQ (X:K.In h)(G:h.Ns L8 mg)(e:zsB K=true):Zs mg:=by
 unfold zsB at e;rw [N7] at e;have m:=λ(x:J6) hx=>mg_none_of X G (beq_iff_eq.mp (e x hx))
 exact⟨m "len" (by decide),m "max" (by decide),m "min" (by decide),m "divmod" (by decide),m "all" (by decide),m "any" (by decide),m "repr" (by decide),m "sum" (by decide),m "sorted" (by decide),m "int" (by decide),m "tuple" (by decide),m "list" (by decide),m "set" (by decide),m "bool" (by decide),m "isinstance" (by decide),m "range" (by decide),m "zip" (by decide),m "enumerate" (by decide),m "reversed" (by decide)⟩
end L2
namespace L2
theorem PZ {g:G7->G7->M6}{n:G7}: ∀ {t:G7} {w:G0 G7},w.length=t+1->(∀i∈w,i<n)->w.Nodup->(∀i∈w,w.headD 0<=i)->(∀i x y,w[i]? =some x->w[i+1]? =some y->g x y=true)->w∈lev g n t
 |0,w,hl,lt,_,_,_=>by
  obtain⟨a,rfl⟩:=e7.mp hl;exact R1.mpr ⟨a,P6.mpr (lt a (by simp)),rfl⟩
 |t+1,w,hl,lt,nd,low,go=>by
  obtain⟨v,j,rfl⟩: ∃v j,w=v++ [j]:=⟨w.dropLast,w.getLast (by intro z;rw [z] at hl;cases hl),(List.dropLast_concat_getLast _).symm⟩;have lv:v.length=t+1:=by rw [D4,fJ] at hl;omega
  have hd:(v++ [j]).headD 0=v.headD 0:=by cases v with|nil=>cases lv|cons a r=>rfl
  have nv:=dD.mp nd;have jn:j ∉ v:=λz=>nv.2.2 j z j (by simp) rfl
  have hh:v.headD 0∈v:=by cases v with|nil=>cases lv|cons a r=>exact P8 ..
  rw [hd] at low;have mv:=PZ (g:=g) (n:=n) lv (λi hi=>lt i (T4 _ hi)) nv.1 (λi hi=>low i (T4 _ hi)) λi x y e1 e2=>go i x y (by rw [H0 (D3.mp e1).1];exact e1) (by rw [H0 (D3.mp e2).1];exact e2)
  refine bO.mpr ⟨v,mv,R1.mpr ⟨j,L5.mpr ⟨P6.mpr (lt j (by simp)),?_⟩,rfl⟩⟩;have la:v[t]? =some (v.getLastD 0):=by rw [aD,aE,lv,Nat.add_sub_cancel,P2 (by omega)];rfl
  have g1:=go t _ j (by rw [H0 (by omega)];exact la) (by rw [U0 (by omega),lv,i6];rfl);have lj:=low j (by simp);have ne:v.headD 0≠j:=λz=>jn (z ▸ hh)
  unfold AB;rw [g1,D7 (show v.headD 0<j by omega),T1 jn];rfl
theorem Da {g:G7->G7->M6}{n s:G7}{w:G0 G7}(h:w∈lev g n s)(b:g (w.getLastD 0) (w.headD 0)=true): ∀t,s<t->w∈OM g n t
 |t+1,ht=>by
  rcases L0 s t with z|z
  ·exact T4 _ (Da h b t z)
  ·have:t=s:=by omega
   subst this;exact P5 _ (L5.mpr ⟨h,b⟩)
theorem Uw {n:G7}{w:G0 G7}(nd:w.Nodup)(lt: ∀i∈w,i<n):w.length<=n:=by
 have:=ZC (ys:=G6 n) nd λx hx=>P6.mpr (lt x hx)
 rwa [D6] at this
section
variable {n e:G7}{T:G0 (G0 P3)}
theorem Qr {w:G0 G7}(ne:w≠ [])(lt: ∀i∈w,i<n)(nd:w.Nodup)(low: ∀i∈w,w.headD 0<=i)(go: ∀i x y,w[i]? =some x->w[i+1]? =some y->ent T x y>0)(back:ent T (w.getLastD 0) (w.headD 0)>0):w∈Xo T n:=by
 obtain⟨t,ht⟩: ∃t,w.length=t+1:=⟨w.length-1,by have:=W1.mpr ne;omega⟩;have:=Uw nd lt;exact(Qm _).mem_iff.mpr (Da (PZ (g:=AC T) ht lt nd low λi x y e1 e2=>D7 (go i x y e1 e2)) (D7 back) n (by omega))
theorem Db (h:Sq n e T){i j:G7}(hi:i<n)(hj:j<n)(z:ent T i j≠0):ent T i j>0:=by have:=(h.ent_nn hi hj).1;omega
theorem Qs (h:Sq n e T)(hn:n<=8){m:G7}(m1:1<=m){v:G7->G7}(vl: ∀t,v t<n)(per: ∀t,v (t+m)=v t)(inj: ∀a b,a<m->b<m->v a=v b->a=b)(st: ∀t,RP n T 1 (v t) (v (t+1))): ∃s,(G6 m).map (λt=>v (s+t))∈Xo T n:=by
 obtain⟨s,hs⟩: ∃s,∀t,v s<=v t:=by
  have key: ∀k,∃s,∀t,t<k+1->v s<=v t:=λk=>by
   induction k with
   |zero=>exact⟨0,λt ht=>by rw [show t=0 by omega];exact P0 _⟩
   |succ k ih=>
    obtain⟨s,hs⟩:=ih;rcases L0 (v (k+1)) (v s) with z|z
    ·exact⟨k+1,λt ht=>by
      rcases L0 t (k+1) with y|y
      ·have:=hs t y;omega
      ·rw [show t=k+1 by omega];exact P0 _⟩
    ·exact⟨s,λt ht=>by
      rcases L0 t (k+1) with y|y
      ·exact hs t y
      ·rw [show t=k+1 by omega];exact z⟩
  obtain⟨s,hs⟩:=key m;have red: ∀t,v t=v (t%m):=λt=>by
   have: ∀q r,v (r+q*m)=v r:=λq r=>by
    induction q with
    |zero=>rw [oO,aA]
    |succ q ih=>rw [Z5,<-dI,per,ih]
   have e:=this (t / m) (t%m);rw [Q1,lT] at e;exact e
  exact⟨s,λt=>by rw [red t];exact hs _ (by have:=K9 t m1;omega)⟩
 have red: ∀t,v t=v (t%m):=λt=>by
  have: ∀q r,v (r+q*m)=v r:=λq r=>by
   induction q with
   |zero=>rw [oO,aA]
   |succ q ih=>rw [Z5,<-dI,per,ih]
  have e:=this (t / m) (t%m);rw [Q1,lT] at e;exact e
 have hd:((G6 m).map λt=>v (s+t)).headD 0=v s:=by
  obtain⟨k,rfl⟩: ∃k,m=k+1:=⟨m-1,by omega⟩;rw [eX];rfl
 refine⟨s,Qr ?_ (λi hi=>by obtain⟨t,_,rfl⟩:=R1.mp hi;exact vl _) ?_ (λi hi=>by obtain⟨t,_,rfl⟩:=R1.mp hi;rw [hd];exact hs _) (λi x y e1 e2=> ?_) ?_⟩
 ·intro z;have:=congrArg dA z;rw [G3,D6] at this;simp at this;omega
 ·refine A2.mpr ((bL (n:=m)).imp_of_mem λ{a b} ha hb ne z=> ?_);have ha:=P6.mp ha;have hb:=P6.mp hb;have z:v (s+a)=v (s+b):=z;rw [red (s+a),red (s+b)] at z;have:=inj _ _ (K9 _ m1) (K9 _ m1) z;refine ne ?_;have d1:=b8 (s+a) m;have d2:=b8 (s+b) m;rcases Y4 ((s+a) / m) ((s+b) / m) with c|c|c
  ·have:=gQ m (show (s+a) / m+1<=(s+b) / m from c);rw [aZ] at this;omega
  ·rw [c] at d1;omega
  ·have:=gQ m (show (s+b) / m+1<=(s+a) / m from c);rw [aZ] at this;omega
 ·have h1:=(D3.mp e2).1;rw [G3,D6] at h1;rw [P4,F1 (by omega)] at e1 e2;injection e1 with e1
  injection e2 with e2
  subst e1;subst e2;exact Db h (vl _) (vl _) ((Pi h hn).mp (st (s+i)))
 ·have la:((G6 m).map λt=>v (s+t)).getLastD 0=v (s+(m-1)):=by
   rw [aD,aE,G3,D6,P4,F1 (by omega)];rfl
  rw [hd,la];have:=st (s+(m-1));rw [show s+(m-1)+1=s+m by omega,per] at this;exact Db h (vl _) (vl _) ((Pi h hn).mp this)
def Dc (T:G0 (G0 P3))(n:G7):G7:=((Xo T n).map dA).foldl lX 0
theorem De {w:G0 G7}(hw:w∈Xo T n):Dc T n∣w.length:=((Xm _ 0 (Dc T n)).mp (Nat.dvd_refl _)).2 _ (N8 hw)
theorem Vn (h:Sq n e T)(hn:n<=8): ∀ (m:G7) {p:G7},p<n->RP n T m p p->Dc T n∣m:=by
 intro m
 induction m using G7.strongRecOn with
 |_ m ih=>
  intro p hp r;rcases iB m with z|m1
  ·rw [z];exact Nat.dvd_zero _
  obtain⟨v,v0,vm,vl,vr⟩:=YW h hn m hp hp r
  by_cases c: ∃a b,a<b/\b<m/\v a=v b
  ·obtain⟨a,b,ab,bm,e1⟩:=c;have r1:=zx h hn vl vr a (b-a) (by omega);rw [show a+(b-a)=b by omega,<-e1] at r1;have r2:=zx h hn vl vr 0 a (by omega);rw [V5,v0] at r2;have r3:=zx h hn vl vr b (m-b) (by omega);rw [show b+(m-b)=m by omega,vm,<-e1] at r3;have d1:=ih (b-a) (by omega) (vl a (by omega)) r1;have d2:=ih (a+(m-b)) (by omega) hp (yW h hn hp (vl a (by omega)) hp r2 r3);have:=Nat.dvd_add d1 d2
   rwa [show b-a+(a+(m-b))=m by omega] at this
  ·obtain⟨s,hs⟩:=Qs h hn (T:=T) (n:=n) m1 (v:=λt=>v (t%m)) (λt=>vl _ (by have:=K9 t m1;omega)) (λt=>by show v ((t+m)%m)=_;rw [Nat.add_mod_right]) (λa b ha hb z=>by
    have z:v (a%m)=v (b%m):=z;rw [bP ha,bP hb] at z;rcases Y4 a b with y|y|y
    ·exact absurd ⟨a,b,y,hb,z⟩ c
    ·exact y
    ·exact absurd ⟨b,a,y,ha,z.symm⟩ c) (λt=>by
    show RP n T 1 (v (t%m)) (v ((t+1)%m));have lt:=K9 t m1;have:=vr (t%m) lt;rcases L0 (t%m+1) m with z|z
    ·rw [show (t+1)%m=t%m+1 by rw [gB,bP (show 1<m by omega),bP z]];exact this
    ·have e2:(t+1)%m=0:=by
      rw [<-b8 t m,show m*(t / m)+t%m+1=m*(t / m+1) by rw [aZ];omega];exact Nat.mul_mod_right _ _
     rw [e2,v0,<-vm,show m=t%m+1 by omega];rw [show t%(t%m+1)=t%m by rw [show t%m+1=m by omega]];exact this)
   have:=De hs
   rwa [G3,D6] at this
theorem OR (h:Sq n e T)(hn:n<=8){i j:G7}(hi:i<n)(w:wk T n i j=true):j<n/\ ∃k,RP n T k i j:=
 JX (P:=λi j=>i<n->j<n/\ ∃k,RP n T k i j) (λi hi=>⟨hi,0,(zw hi hi).mpr rfl⟩) (λi j z hi=>⟨NY h i j z,1,(Pi h hn).mpr z⟩) (λi k j a b hi=>by
  obtain⟨hk,k1,r1⟩:=a hi;obtain⟨hj,k2,r2⟩:=b hk;exact⟨hj,k1+k2,yW h hn hi hk hj r1 r2⟩) w hi
theorem Bw (h:Sq n e T)(hn:n<=8)(one:(BP T n).length=1){i j:G7}(hi:i<n)(hj:j<n): ∃k,RP n T k i j:=by
 obtain⟨S,e1⟩:=e7.mp one;have a:pcS T n i∈BP T n:=mem_pcs.mpr ⟨i,hi,rfl⟩;have b:pcS T n j∈BP T n:=mem_pcs.mpr ⟨j,hj,rfl⟩;rw [e1] at a b;have:j∈pcS T n i:=by rw [G9.mp a,<-G9.mp b];exact PR hj
 exact(OR h hn hi (mem_pc.mp this).2.1).2
end
end L2
set_option maxRecDepth 35000
namespace L2
section
variable {n e:G7}{T:G0 (G0 P3)}
theorem Bx {a l b d:G7}(h1:d∣a+b)(h2:d∣l+b):a%d=l%d:=by
 have key: ∀a l:G7,a<=l->d∣a+b->d∣l+b->a%d=l%d:=λa l c h1 h2=>by
  obtain⟨t,rfl⟩:=Nat.exists_eq_add_of_le c;have:d∣t:=(iU h1).mp (by rw [show a+b+t=a+t+b by omega];exact h2);rw [gB,e6 this,aA,pB]
 rcases Nat.le_total a l with c|c
 ·exact key a l c h1 h2
 ·exact(key l a c h2 h1).symm
theorem fit (h:Sq n e T)(hn:n<=8)(one:(BP T n).length=1){i j k l:G7}(hi:i<n)(hj:j<n)(a:RP n T k i j)(b:RP n T l i j):k%Dc T n=l%Dc T n:=by
 obtain⟨c,rc⟩:=Bw h hn one hj hi;exact Bx (Vn h hn _ hi (yW h hn hi hj hi a rc)) (Vn h hn _ hi (yW h hn hi hj hi b rc))
end
end L2
namespace L2
open PySem PySem.Spec PyProof.Rows
section
variable {X:Cx}{k i:G7}{ps N Pn:G0 Str}{spd:RDn}{x:Str}{p pos pos':Pos}{e e2 e3 e4 iter elt:S8}{es ifs:G0 S8}{t:TAD}{te te2 te3 te4:TED}{ti:TID}{tt:TTD}{scope sc:E3}{c:S8}
theorem jk (C:jj X.prog X.w X.K X.mg X.base k x ps spd)(hr:Room k X.A)(ha:JA X (e::es) t)(hg:Gl X x:=by rfl)(hdb:(x==("__debug__" :Str))=false:=by decide)(he:D2 (e::es) X.env=(false,L4 e X.env)::D2 es X.env:=by rfl)(hpl:(O9 pos (D2 es X.env)).any (·.1)=false:=by rfl):JE X (.Call (.Name x p) (e::es) [] pos) (dCB spd t):=by
 obtain⟨g,gd,F,hb,hk,hm⟩:=C;exact OE F hr hg hm hk hb ha hdb he hpl
theorem j1 (a:JE X e te)(h:jU e=true:=by rfl):JA X [e] (jZ te Zk):=jac a yc h
theorem j2 (a:JE X e te)(b:JE X e2 te2)(h:jU e=true:=by rfl)(h2:jU e2=true:=by rfl):JA X [e,e2] (jZ te (jZ te2 Zk)):=jac a (j1 b h2) h
theorem j3 (a:JE X e te)(b:JE X e2 te2)(c:JE X e3 te3)(h:jU e=true:=by rfl)(h2:jU e2=true:=by rfl)(h3:jU e3=true:=by rfl):JA X [e,e2,e3] (jZ te (jZ te2 (jZ te3 Zk))):=jac a (j2 b c h2 h3) h
theorem j4 (a:JE X e te)(b:JE X e2 te2)(c:JE X e3 te3)(d:JE X e4 te4)(h:jU e=true:=by rfl)(h2:jU e2=true:=by rfl)(h3:jU e3=true:=by rfl)(h4:jU e4=true:=by rfl):JA X [e,e2,e3,e4] (jZ te (jZ te2 (jZ te3 (jZ te4 Zk)))):=jac a (j3 b c d h2 h3 h4) h
theorem Qt (Z:Zs X.mg)(a:JE X e te)(hg:Gl X "len" :=by rfl)(h:jU e=true:=by rfl)(he:D2 [e] X.env=(false,L4 e X.env)::D2 [] X.env:=by rfl)(hpl:(O9 pos (D2 [] X.env)).any (·.1)=false:=by rfl):JE X (.Call (.Name "len" p) [e] [] pos) (dCB BN (jZ te Zk)):=zq Fk hg Z.len PySem.boot_len (j1 a h) (by decide) (by decide) he hpl
theorem jse (i:G7)(S:FnScope X.N Pn sc)(he:JE X e te)(hi:X.N[i]? =some x:=by rfl)(hx:Loc X.env.scope x:=by first|exact E1 rfl|exact Q2 rfl)(hs:W3 e (some (.Name x pos')) pos.line X.env=pure false:=by rfl)(hf:X.fn x=true\/X.env.scope.names.lookup x=some .local:=by first|exact .inl rfl|exact .inr rfl|assumption):JS X (.Assign [.Name x pos'] e pos) (QK i te):=Es S.nd hi hx he hs hf
theorem jgn (i:G7)(S:FnScope X.N Pn sc)(hi:X.N[i]? =some x:=by rfl)(hx:Loc X.env.scope x:=by first|exact E1 rfl|exact Q2 rfl)(hf:X.fn x=true\/X.env.scope.names.lookup x=some .local:=by first|exact .inl rfl|exact .inr rfl|assumption):JG X (.Name x pos) (gN i):=NJ S.nd hi hx hf
theorem jl1 (i:G7)(S:FnScope X.N Pn sc)(hi:JI X (.Name x p) iter ti)(ht: ∀C s₀ H₀ ex,JT (zZ X scope C s₀ H₀ ex) c tt)(he: ∀C s₀ H₀ ex,JE (zZ X scope C s₀ H₀ ex) elt te)(hc:X.calm=true:=by rfl)(hB:Xc X.N X.env.scope.names scope [i]=true:=by rfl)(hx:X.N[i]? =some x:=by rfl)(hl:scope.names.lookup x=some .local\/scope.names.lookup x=some .cell:=by first|exact E1 rfl|exact Q2 rfl)(hs: ∀x,S1 iter X.env x=pure x:=by intro _;rfl):JE X (.ListComp elt [⟨.Name x p,iter,[c],0⟩] scope pos) (Zm (bN i) [i] ti tt te):=
 jlc hc (jR hB) hi (G9.mpr rfl) S.nd hx hl (λX' hX=>by obtain⟨C,s₀,H₀,ex,rfl⟩:=hX;exact WG (ht C s₀ H₀ ex)) (λX' hX=>by obtain⟨C,s₀,H₀,ex,rfl⟩:=hX;exact he C s₀ H₀ ex) hs
theorem jl0 (i:G7)(S:FnScope X.N Pn sc)(hi:JI X (.Name x p) iter ti)(he: ∀C s₀ H₀ ex,JE (zZ X scope C s₀ H₀ ex) elt te)(hc:X.calm=true:=by rfl)(hB:Xc X.N X.env.scope.names scope [i]=true:=by rfl)(hx:X.N[i]? =some x:=by rfl)(hl:scope.names.lookup x=some .local\/scope.names.lookup x=some .cell:=by first|exact E1 rfl|exact Q2 rfl)(hs: ∀x,S1 iter X.env x=pure x:=by intro _;rfl):JE X (.ListComp elt [⟨.Name x p,iter,[],0⟩] scope pos) (Zm (bN i) [i] ti yF te):=
 jlc hc (jR hB) hi (G9.mpr rfl) S.nd hx hl (λX' hX=>ye) (λX' hX=>by obtain⟨C,s₀,H₀,ex,rfl⟩:=hX;exact he C s₀ H₀ ex) hs
theorem fsc {N P:G0 Str}(a:sc.kind= .function:=by rfl)(b:sc.isCoroutine=false:=by rfl)(c:sc.isGenerator=false:=by rfl)(d:N.Nodup:=by decide +kernel)(e:N.take P.length=P:=by rfl)(f: ∀x∈P,sc.names.lookup x=some .local\/sc.names.lookup x=some .cell:=by decide +kernel)(g: ∀y∈sc.names,y.2≠ .free:=by decide +kernel):FnScope N P sc:=⟨a,b,c,d,e,f,g⟩
theorem jc1 {op:c9}{f:RD2}(ho:OpQ X (N1 op) f)(ha:JE X e te)(hb:JE X e2 te2)(hm:K2 op e2=false:=by exact Mb _):JE X (.Compare e [op] [e2] pos) (dOp f te te2):=Ep ho ha hb hm
theorem jt1 {op:c9}{f:RD2}(ho:OpQ X (N1 op) f)(ha:JE X e te)(hb:JE X e2 te2)(hm:K2 op e2=false:=by exact Mb _):JT X (.Compare e [op] [e2] pos) (JD (dOp f te te2)):=Re ho ha hb hm
theorem ji1 (ha:JE X e te)(hb:JE X e2 te2)(hs:Wu e2:=by exact λ_ _=>rfl):JE X (.Subscript e e2 pos) (dOp ixD te te2):=jix ha hb hs
theorem jrg {tg:S8}(Z:Zs X.mg)(ha:JE X e te)(hg:Gl X "range" :=by rfl)(h:jU e=true:=by rfl)(hs:D2 [e] X.env= [(false,L4 e X.env)]:=by rfl):JI X tg (.Call (.Name "range" p) [e] [] pos) (iR1 (jZ te Zk)):=OD hg Z.range (j1 ha h) hs
end
section
variable {P:S9}{w:N2}{K:G4}{mg:Str->D0 G1}{base:B3}{x qual:Str}{st:L6}{f:P1}{fd:T7}{N ps:G0 Str}{k:G7}
theorem Fun.okM {spd:RDn}(F:Fun K x qual st f fd)(S:FnScope N ps (jb st)){tb:TSD}(hbody: ∀ {cdv:G1} {A:T9} {outer:G0 Env} {s:G2} {H:Hp} {E:XK},Room k (A.deeper (cI qual (jb st) s.heap.objs.size f cdv))->JSs (DI CX0 P w K mg base N qual (jb st) f cdv A outer s H E).nox (zv st) tb)
 (read: ∀ds h Q,spd ds h Q->ds.length=ps.length/\tb (DT Q) (wS N ds) h):FnOk P w K mg base CX0 (k+1) f fd ps (LSp K spd):=F.okJ S (λds h Q q=>(read ds h Q q).1) tb (λ_ _ _ _ _ _ hr=>hbody hr) λds h Q q=>(read ds h Q q).2
end
theorem zO {t u:TSD}{E:EndsD}{σ:SD}{h:HD}(rS:SD)(first: ∀K:SD->HD->Prop,K rS h->t {E with nx:=K} σ h)(rest:u E rS h):yP t u E σ h:=first (u E) rest
theorem sz0:0<=sizeLine:=by decide
theorem sz1:1<=sizeLine:=by decide
theorem sz2:2<=sizeLine:=by decide
theorem sz3:3<=sizeLine:=by decide
theorem sz4:4<=sizeLine:=by decide
section
variable {X:Cx}{s0 s1 s2 s3 s4 s5 s6 s7:L6}{t0 t1 t2 t3 t4 t5 t6 t7:TSD}{c:S8}{tc:TTD}{pos:Pos}
theorem js2 (a:JS X s0 t0)(b:JS X s1 t1):JSs X [s0,s1] (yP t0 t1):=(jH a (jE b))
theorem js3 (a:JS X s0 t0)(b:JS X s1 t1)(c:JS X s2 t2):JSs X [s0,s1,s2] (yP t0 (yP t1 t2)):=(jH a (jH b (jE c)))
theorem js4 (a:JS X s0 t0)(b:JS X s1 t1)(c:JS X s2 t2)(d:JS X s3 t3):JSs X [s0,s1,s2,s3] (yP t0 (yP t1 (yP t2 t3))):=(jH a (jH b (jH c (jE d))))
theorem js5 (a:JS X s0 t0)(b:JS X s1 t1)(c:JS X s2 t2)(d:JS X s3 t3)(e:JS X s4 t4):JSs X [s0,s1,s2,s3,s4] (yP t0 (yP t1 (yP t2 (yP t3 t4)))):=(jH a (jH b (jH c (jH d (jE e)))))
theorem js6 (a:JS X s0 t0)(b:JS X s1 t1)(c:JS X s2 t2)(d:JS X s3 t3)(e:JS X s4 t4)(f:JS X s5 t5):JSs X [s0,s1,s2,s3,s4,s5] (yP t0 (yP t1 (yP t2 (yP t3 (yP t4 t5))))):=(jH a (jH b (jH c (jH d (jH e (jE f))))))
theorem js7 (a:JS X s0 t0)(b:JS X s1 t1)(c:JS X s2 t2)(d:JS X s3 t3)(e:JS X s4 t4)(f:JS X s5 t5)(g:JS X s6 t6):JSs X [s0,s1,s2,s3,s4,s5,s6] (yP t0 (yP t1 (yP t2 (yP t3 (yP t4 (yP t5 t6)))))):=(jH a (jH b (jH c (jH d (jH e (jH f (jE g)))))))
theorem Df (hc:JT X c tc)(h:JS X s0 t0):JS X (.If c [s0] [] pos) (Nj tc t0 VW):=Aw hc (jE h) Ml
end
end L2
namespace L2
open PySem PySem.Spec PyProof.Rows HT
section
variable {X:Cx}
theorem Wo {α β:Type}{R:α->β->Prop}: ∀ {xs:G0 α} {ys:G0 β} {i:G7} {x:α} {y:β},Paired R xs ys->xs[i]? =some x->ys[i]? =some y->R x y
 |_,_,0,_,_,.cons r _,e1,e2=>by simp at e1 e2;subst e1 e2;exact r
 |_,_,i+1,_,_,.cons _ t,e1,e2=>Wo t (by simpa using e1) (by simpa using e2)
 |_,_,_,_,_,.nil,e1,_=>by cases e1
end
end L2
namespace L2
open PySem PySem.Spec PyProof.Rows
def Qu (n:G7)(H:G0 (G0 P3)):G7->G0 (G0 P3)->P3->P3
 |0,_,_=>0
 |m+1,F,k=>if jF F=true then k else Qu n H m (je n (yf n F H)) (k+1)
def wc (n:G7)(T:G0 (G0 P3)):P3:=Qu n (je n T) ((n-1)*(n-1)+1) (je n T) 1
section
variable {α β:Type}
def wH (ts:G0 α):G7->G0 (G0 α)
 |0=> [[]]
 |m+1=>(wH ts m).flatMap λr=>ts.map λt=>r++ [t]
theorem Ji (ts:G0 α): ∀m,(wH ts m).length=ts.length^m
 |0=>rfl
 |m+1=>by
  have: ∀l:G0 (G0 α),(l.flatMap λr=>ts.map λt=>r++ [t]).length=l.length*ts.length:=λl=>by
   induction l with
   |nil=>simp
   |cons x l ih=>rw [N6,D4,ih,G3,S4,Z5];omega
  show ((wH ts m).flatMap _).length=_;rw [this,Ji ts m,L1]
theorem Jv (ts:G0 α): ∀ {m:G7} {r:G0 α},r∈wH ts m->r.length=m/\ ∀x∈r,x∈ts
 |0,r,h=>by
  rw [G9.mp h];exact⟨rfl,λx hx=>by cases hx⟩
 |m+1,r,h=>by
  obtain⟨q,hq,h2⟩:=bO.mp h;obtain⟨t,ht,rfl⟩:=R1.mp h2;obtain⟨l,a⟩:=Jv ts hq;refine⟨by rw [D4,l];rfl,λx hx=> ?_⟩;rcases T5.mp hx with z|z
  ·exact a x z
  ·rw [G9.mp z];exact ht
theorem Ux (f:α->β)(ts:G0 α): ∀m,wH (ts.map f) m=(wH ts m).map (mU f)
 |0=>rfl
 |m+1=>by
  show (wH (ts.map f) m).flatMap _=((wH ts m).flatMap _).map _;rw [Ux f ts m,bQ,List.flatMap_map]
  congr 1
  funext r
  rw [T6,T6];exact M9 λt _=>by simp
end
def rwB:G7->G0 (G0 P3)
 |0=> [[]]
 |m+1=>(rwB m).map (· ++ [0])++(rwB m).map (· ++ [1])
theorem Uy: ∀m,(rwB m).length=2^m
 |0=>rfl
 |m+1=>by rw [rwB,D4,G3,G3,Uy m,L1];omega
theorem Dg: ∀ {m:G7} {r:G0 P3},r∈rwB m->r.length=m/\ ∀x∈r,x∈ [0,1]
 |0,r,h=>by
  rw [G9.mp h];exact⟨rfl,λx hx=>by cases hx⟩
 |m+1,r,h=>by
  have key: ∀q∈rwB m,∀b:P3,b∈ [0,1]->(q++ [b]).length=m+1/\ ∀x∈q++ [b],x∈ [0,1]:=λq hq b hb=>by
   obtain⟨l,a⟩:=Dg hq;refine⟨by rw [D4,l];rfl,λx hx=> ?_⟩;rcases T5.mp hx with z|z
   ·exact a x z
   ·rw [G9.mp z];exact hb
  rcases T5.mp h with z|z
  ·obtain⟨q,hq,rfl⟩:=R1.mp z;exact key q hq 0 (by decide)
  ·obtain⟨q,hq,rfl⟩:=R1.mp z;exact key q hq 1 (by decide)
def vI (s:G7):G0 (G0 (G0 P3)):=wH (wH [0,1] s) s
def wv (s:G7):G0 (G0 (G0 P3)):=wH (rwB s) s
variable {s:G7}
theorem Dh {T:G0 (G0 P3)}(l:T.length=s)(r: ∀x∈T,x.length=s/\ ∀y∈x,y∈ [(0:P3),1]):Sq s 1 T:=
 have b: ∀x∈T,∀y∈x,0<=y/\y<2^1:=λx hx y hy=>by
  have:=(r x hx).2 y hy;simp only [S5,Q6,or_false] at this;rcases this with rfl|rfl<;>decide
 ⟨l,λx hx=>(r x hx).1,λx hx y hy=>(b x hx y hy).1,λx hx y hy=>(b x hx y hy).2⟩
theorem RL {T:G0 (G0 P3)}(h:T∈vI s):Sq s 1 T:=Dh (Jv _ h).1 λx hx=>Jv _ ((Jv _ h).2 x hx)
theorem XC {T:G0 (G0 P3)}(h:T∈wv s):Sq s 1 T:=Dh (Jv _ h).1 λx hx=>Dg ((Jv _ h).2 x hx)
theorem XD (h3:s<=3):(vI s).length<=512/\(wv s).length<=512:=by
 unfold vI wv;rw [Ji,Ji,Ji,Uy]
 match s,h3 with
 |0,_=>decide
 |1,_=>decide
 |2,_=>decide
 |3,_=>decide
section
variable {α β:Type}{i i':G7}{js:G0 G7}{ti ti':TID}{te:TED}{σ:SD}{h:HD}{Q:KD}{j:ItD}
theorem EJ (j':ItD)(xs:G0 α)(c:α->D)(ys:α->G0 β)(c':β->D)(g:α->β->D)(hz:(xs.flatMap ys).length<=1000)(hj:j h=some (xs.map c))(ht: ∀R:ItD->HD->Prop,R j h->ti σ h R)
 (hin: ∀x∈xs,∀R:ItD->HD->Prop,R j' h->ti' ((jI js σ).set i (some (c x))) h R)
 (hj': ∀x∈xs,j' h=some ((ys x).map c'))(he: ∀x∈xs,∀y∈ys x,∀Q':KD,Q' (g x y) h->te (((jI js σ).set i (some (c x))).set i' (some (c' y))) h Q')(hq: ∀p,h p=none->Q (.lst p) (wC h p (xs.flatMap λx=>(ys x).map (g x)))):DU (bN i) js ti yF i' ti' yF te σ h Q:=by
 have len: ∀l:G0 α,(l.flatMap λx=>(ys x).map (g x)).length=(l.flatMap ys).length:=λl=>by
  induction l with
  |nil=>rfl
  |cons x l ih=>simp [N6,ih]
 have lek: ∀k,((xs.take k).flatMap ys).length<=(xs.flatMap ys).length:=λk=>by
  conv=>rhs;rw [<-Y1 k xs,B1,D4]
  omega
 have lek1: ∀k x m,xs[k]? =some x->m<=(ys x).length->((xs.take k).flatMap ys).length+m<=(xs.flatMap ys).length:=λk x m hx hm=>by
  have:=lek (k+1);rw [T2,hx,B1,D4] at this;simp at this;simp;omega
 refine ht _ ⟨xs.length,λk zs h'=>h'=h/\zs=(xs.take k).flatMap λx=>(ys x).map (g x),⟨rfl,by simp⟩,?_⟩;rintro k zs h' ⟨rfl,rfl⟩;refine⟨by rw [len];exact M3 (jC (S7 (lek k) hz)),xs.map c,hj,by simp,λhl p hp=> ?_,λd hd=>⟨_,rfl,?_⟩⟩
 ·rw [M1 (by simpa using hl)];exact hq p hp
 ·unfold yF;dsimp only;rw [R0 rfl];rw [P4] at hd;cases hx:xs[k]? with
  |none=>rw [hx] at hd;cases hd
  |some x=>
   rw [hx] at hd;cases hd;have xm:=S0 hx;refine hin x xm _ ⟨(ys x).length,λm zs h2=>h2=h'/\zs=((xs.take k).flatMap λx=>(ys x).map (g x))++((ys x).take m).map (g x),⟨rfl,by simp⟩,?_⟩;rintro m zs h2 ⟨rfl,rfl⟩;refine⟨?_,(ys x).map c',hj' x xm,by simp,λhl=>⟨h2,Sub.refl _,rfl,?_⟩,λd hd=> ?_⟩
   ·rw [D4,len,G3,N3];have:=lek1 k x (min m (ys x).length) hx (W5 _ _);exact M3 (jC (by omega))
   ·have hm:(ys x).take m=ys x:=M1 (by simpa using hl);rw [hm,T2,hx,B1];simp
   ·rw [P4] at hd;cases hy:(ys x)[m]? with
    |none=>rw [hy] at hd;cases hd
    |some y=>
     rw [hy] at hd;cases hd
     first
      |rw [R0 rfl]
      |(dsimp only;rw [R0 rfl])
     refine he x xm y (S0 hy) _ ⟨h2,Sub.refl _,rfl,?_⟩;rw [T2,hy];simp
end
end L2
namespace L2
open PySem PySem.Spec PyProof.Rows HT
variable {iter:S8}{ifs:G0 S8}
theorem Di {prog:S9}{w:N2}{A:T9}{R:g8->G2->Prop}{s:G2}{e target:S8}{depth:G7}{it acc:G1}{env:Env}{act:Sem Unit}(I:G7->G2->Prop)
 (hq:(Code.compLoop e depth it acc env).quiet=true)(hd:(R5 prog w).den (.compLoop e depth it acc env)=(bU e depth it acc env).onRaise (λx=>do nX x env;fC x))(hA:A.under (.compLoop e depth it acc env)=A)
 (heq:bU e depth it acc env=vt iter target ifs it env act (.compLoop e depth it acc env))
 (turn: ∀n s,I n s->R4 (R5 prog w) A (l6 it) (λr rG=>match r with
  |none=>R (.ok .next) rG
  |some v=>R4 (R5 prog w) A (X8 target it v) (λ_ rG=>R4 (R5 prog w) A (bI target env v) (λ_ rQ=>
   R4 (R5 prog w) A (forIn ifs true λc r=>if r=true then do let ok <-oB c env (L4 c env);pure (J4 ok) else pure (J4 r)) (λok rN=>
    if ok=true then R4 (R5 prog w) A act (λ_ rX=> ∃m,m<n/\I m rX) (λ_ _=>False) rN
    else ∃m,m<n/\I m rN) (λ_ _=>False) rQ) (λ_ _=>False) rG) (λ_ _=>False) rG) (λ_ _=>False) s)
 (n:G7)(h:I n s):
 U3 (R5 prog w) A (.compLoop e depth it acc env) R s:=by
 refine oC hq I (λn s hI=> ?_) n h;rw [hd,hA];refine o5 ?_;rw [heq];unfold vt;refine wpAny_bind (V7 (wpAny_bind (T3 (turn n s hI) (λr rG rL=> ?_) λ_ _ h'=>h'.elim)));cases r with
 |none=>exact G8 rL
 |some v=>
  refine wpAny_bind (T3 rL (λ_ rG rL=> ?_) λ_ _ h'=>h'.elim);refine wpAny_bind (T3 rL (λ_ rQ rZ=>wpAny_bind (T3 rZ (λok rN rY=> ?_) λ_ _ h'=>h'.elim)) λ_ _ h'=>h'.elim);cases ok with
  |false=>exact G8 ⟨rfl,rY⟩
  |true=>exact wpAny_bind (T3 rY (λ_ rX r9=>G8 ⟨rfl,r9⟩) λ_ _ h'=>h'.elim)
abbrev TMG (α:Type):=St->Hp->α->(α->Hp->Prop)->Prop
def FV {α:Type}(X:Cx)(Acc:α->Obj->Prop)(D:P1)(act:Sem Unit)(t:TMG α):Prop:=
 ∀ (pins:G0 (P1×Obj)) (s:G2) (σ:St) (H:Hp) (ys:α) (o:Obj) (Q:α->Hp->Prop),Inv X ([(D,o)]++pins) σ H s->Acc ys o->D∈X.ex->(∀x c,X.env.cells.lookup x=some c->c≠D)->(∀p∈X.pn++pins,p.1≠D)->t σ H ys Q->
  R4 (R5 X.prog X.w) X.A act (λ_ s'=> ∃ys' o' H',Acc ys' o'/\Inv X ([(D,o')]++pins) σ H' s'/\Q ys' H') (λ_ _=>False) s
def tCG {α : Type} (Acc : α → Obj → Prop) (ho : Obj → HO) (a0 : α) (js : G0 G7) (wi : TI) (g : TG) (tt : TT) (tm : TMG α) : TE := fun σ H Q => wi σ H fun J H1 =>
  ∃ W : G7 → G7 → α → Hp → Prop, (∃ m, W 0 m a0 H1) ∧ ∀ i m ys H, W i m ys H →
    ((J.stop i H ∧ ∀ p o, H p = none → Acc ys o → Q (.ref p) (upd H p (ho o))) ∨
     (J.go i H ∧ ∀ x H', J.yld i H x H' → g x (jY js σ) H' fun rF H2 => Agree (jY js σ) rF ∧ tt rF H2 fun b H3 =>
        if b = true then tm rF H3 ys fun ys' H4 => ∃ m', m' < m ∧ W (i + 1) m' ys' H4 else ∃ m', m' < m ∧ W (i + 1) m' ys H3))
structure CompK (P:S9)(w:N2)(e:S8)(g:Q4)(rest:G0 Q4)(mk:Sem G1)(o0:Obj):Prop where
 cl:clausesOf e=g::rest
 quiet: ∀it acc env,(Code.compLoop e 0 it acc env).quiet=true
 den: ∀it acc env,(R5 P w).den (.compLoop e 0 it acc env)=(bU e 0 it acc env).onRaise (λx=>do nX x env;fC x)
 under: ∀A it acc env,Around.under A (.compLoop e 0 it acc env)=A
 start: ∀ {A:T9} {R:g8->G2->Prop} {s:G2} {it acc env},U3 (R5 P w) A (.compLoop e 0 it acc env) R s->R4 (R5 P w) A (kC it) (λit' s'=>U3 (R5 P w) A (.compLoop e 0 it' acc env) R s') (notedBy (R5 P w) A env λx s'=>R (.error x) s') s->U3 (R5 P w) A (.compStart e 0 it acc env) R s
 live:o0.isFreed=false
 made: ∀ {A:T9} {Q:G1->G2->Prop} {E:G1->G2->Prop} {s:G2},Q (.ref s.heap.objs.size) {s with heap:=s.heap.push o0}->R4 (R5 P w) A mk Q E s
variable {X:Cx}{scope:E3}
theorem FW {α:Type}{Acc:α->Obj->Prop}{ho:Obj->HO}{a0:α}{mk:Sem G1}{o0:Obj}{e tg:S8}{rest:G0 Q4}{pos0:Pos}{js:G0 G7}{wi:TI}{g:TG}{tt:TT}{tm:TMG α}{use:D0 (G1->Sem Unit)}{Qv:G1->G2->Prop}(hc:X.calm=true)(S:BlockOk X scope js)(hi:PI X tg iter wi)
 (ck:CompK X.prog X.w e ⟨tg,iter,ifs,0⟩ rest mk o0)(acc0:Acc a0 o0)(nocell: ∀a o,Acc a o-> ∀v,o.data≠ .cell v)(okO: ∀ {a o H h p},Acc a o->h.get? p=some o->ObjOk X.prog X.w H h p (ho o))
 (hg: ∀X',jd X scope X'->PG X' tg g)(ht: ∀X',jd X scope X'->PTs X' ifs tt)
 (act:Env->G1->Sem Unit)(hturn: ∀it acc env,bU e 0 it acc env=vt iter tg ifs it env (act env acc) (.compLoop e 0 it acc env))(he: ∀X',jd X scope X'-> ∀D,FV X' Acc D (act X'.env (.ref D)) tm)
 (hs: ∀x,S1 iter X.env x=pure x){pins:G0 (P1×Obj)}{s:G2}{σ:St}{H:Hp}{Q:VK}(I:Inv X pins σ H s)(h:tCG Acc ho a0 js wi g tt tm σ H Q)
 (fin: ∀ (D C:P1) (H':Hp) (s':G2) (m:Str->D0 G1),s'.heap.Ns C m->(∀h',O0 C s'.heap h'->Inv X pins σ H' {s' with heap:=h'})->H' C=none->C≠X.env.locals->C ∉ X.fs->X.s₀.heap.objs.size<=C->(∀x c,X.env.cells.lookup x=some c->c≠C)->(∀p∈X.pn++pins,p.1≠C)->
  Q (.ref D) H'->mH (R5 X.prog X.w) X.A X.xe use Qv (.ref D) C (.ok .next) s'):
 R4 (R5 X.prog X.w) X.A (dF e scope X.env pos0 mk false (L4 iter X.env) use) Qv X.xe s:=by
 have hclos:=vp (scope:=scope) (env:=X.env) (λp hp e=>I.ok.has p.1 (S.free p hp e));refine dG (use:=use) ck.cl hs hclos S.kind S.locs (thn (hi pins s σ H _ I h) λv s1 h1=>thn h1 λitv s2 h2=> ?_);obtain⟨it,fp,tn,J,H2,e,I2,T,st2,f2,W,⟨m0,w0⟩,turn⟩:=h2;subst e;refine ck.made (Jt (λrL rT rW rM rV=> ?_));dsimp only at rT rW rM rV ⊢;generalize hD:s2.heap.objs.size=D;generalize hH3:s2.heap.push o0=h3 at rT rW rM rV ⊢;have sz3:h3.objs.size=D+1:=by rw [<-hH3,W8,hD]
 have up3: ∀b o,s2.heap.get? b=some o->h3.get? b=some o:=λb o e=>hH3 ▸ G5 _ e
 have I3:Inv X pins σ H2 {s2 with heap:=h3}:=I2.kept (t':=s2.toks) up3;have hD3:h3.get? D=some o0:=by rw [<-hH3,<-hD];exact D9 _ ck.live
 have fD:VR X pins H2 D:=I2.fpOk (by rw [hD];exact P0 _) (I2.hok.fresh (by rw [hD];exact P0 _));have obf: ∀b∈fp,∃o,s2.heap.get? b=some o/\ ∀v,o.data≠ .cell v:=T.obj _ _ st2;have ltf: ∀b∈fp,b<D:=λb hb=>by obtain⟨o,e,_⟩:=obf b hb;rw [<-hD];exact P7 e
 generalize hC:h3.objs.size=C at rT rM rV ⊢;have CD:C=D+1:=hC.symm.trans sz3;have upC: ∀b o,h3.get? b=some o->rL.get? b=some o:=rW;generalize hX:zZ X scope C {s2 with heap:=h3} H2 (fp++ [D])=X';have iX:jd X scope X':=⟨C,_,_,_,hX.symm⟩;have hf: ∀b∈fp++ [D],VR X pins H2 b:=λb hb=>(T5.mp hb).elim (f2 b) λz=>by rw [G9.mp z];exact fD
 have cl: ∀x c,(jl X scope C).lookup x=some c->X.env.cells.lookup x=some c\/C<c:=λx c e=>by
  rcases jO S e with ⟨_,z⟩|⟨_,z⟩
  ·exact .inl z
  ·exact .inr (E7 (rM x c z).2)
 have olt: ∀x c,X.env.cells.lookup x=some c->c<C:=λx c e=>by obtain⟨v,q⟩:=I3.cell x c e;rw [<-hC];exact q.lt
 have ltb: ∀b∈fp++ [D],b<C:=λb hb=>(T5.mp hb).elim (λz=>by have:=ltf b z;rw [CD];exact V4 this) λz=>by rw [G9.mp z,CD];exact C4 _
 have okX:X'.Ok:=by
  subst hX;refine⟨I.ok.mod,S.kind,I.ok.glob,I.ok.blt,Z6 hC,λx y c e1 e2=> ?_,λx hx=> ?_,λx c z e=> ?_,I.ok.hd,I.ok.frames,.inl rfl,λb hb=>⟨R8 (ltb b hb),λx c e=>(cl x c e).elim (λz=>(hf b hb).2.2.2.2.1 x c z) λz=>A6 (O2 (ltb b hb) z)⟩,
   I3.bs,S7 I.ok.bsz I3.sz,λb o e hb=> ?_,λb hb z=> ?_,I3.stack,I3.stkFree⟩
  ·rcases jO S e1 with ⟨_,z1⟩|⟨_,z1⟩<;>rcases jO S e2 with ⟨_,z2⟩|⟨_,z2⟩
   ·exact I.ok.inj x y c z1 z2
   ·exact absurd (O2 (olt x c z1) (E7 (rM y c z2).2)) (M4 _)
   ·exact absurd (O2 (olt y c z2) (E7 (rM x c z1).2)) (M4 _)
   ·exact iH rV z1 z2
  ·have own:scope.names.lookup x=some .cell-> ∃c,(jl X scope C).lookup x=some c:=λz=>by
    obtain⟨c,hc⟩:=vo (sc:=scope) (n:=C+1) z;exact⟨c,by unfold jl;rw [jy,yz,hc]⟩
   have shr:scope.names.lookup x=some .free-> ∃c,(jl X scope C).lookup x=some c:=λz=>by
    have fm:=jX z;obtain⟨c,hc⟩:=I.ok.has x (S.free _ fm rfl);exact⟨c,zS S hc fm (by rw [z];decide)⟩
   rcases hx with hx|hx
   ·rcases ji (env:=X.env) hx with z|z
    ·exact own z
    ·exact shr z
   ·rcases ji (env:=X.env) hx with z|z<;>exact shr z
  ·have z':scope.names.lookup x=some .cell:=by
    have z2:(scope.names.lookup x==some A3)=true:=z;simpa using z2
   rcases jO S e with ⟨n,_⟩|⟨_,m⟩
   ·exact absurd z' n
   ·show h3.objs.size<=c;rw [hC];exact M3 (E7 (rM x c m).2)
  ·rcases (hf b hb).2.2.2.1 with z|z
   ·exact I.ok.noex b o e z
   ·exact absurd (M0 (P7 e) (S7 I.ok.bsz z)) (M4 _)
  ·rcases S5.mp (I.stkSub b z) with q|q
   ·exact(hf b hb).2.1 q
   ·exact(hf b hb).2.2.1 q
 -- the block's first state
 have I4:Inv X' [(D,o0)] (jY js σ) H2 {s2 with heap:=rL}:=by
  subst hX;have hDC:D≠C:=by rw [CD];exact R8 (C4 _)
  refine⟨okX,rfl,I2.bare,Un.kept (λb u e=>upC b u e),⟨_,rT,λi x v e1 e2 e3=> ?_⟩,λx c e=> ?_,I3.hok.fresh (Z6 hC),λx c e=>(cl x c e).elim (λz=>I2.freeC x c z) (λz=>I3.hok.fresh (by rw [<-hC] at z;exact M3 z)),λp hp=> ?_,I3.hok.kept upC,(Ja js σ).trans I2.len⟩
  ·have fr:scope.names.lookup x=some .free:=by
    rcases e3 with e3|e3|e3
    ·rcases ji (env:=X.env) e3 with z|z
     ·exact absurd e2 (jM js σ i v (S.js i x e1 (.inl z)))
     ·exact z
    ·rcases ji (env:=X.env) e3 with z|z
     ·exact absurd e2 (jM js σ i v (S.js i x e1 (.inr z)))
     ·exact z
    ·rcases ji (env:=X.env) e3 with z|z<;>exact z
   have fm:=jX fr;obtain⟨m,hm,hl⟩:=I2.loc;have vis:=S.free _ fm rfl;obtain⟨u,r,lk⟩:=hl i x v e1 (vq js σ i v e2) (.inr vis);have kd:(oE scope X.env).names.lookup x=some .cell\/(oE scope X.env).names.lookup x=some .free:=by
    rcases e3 with e3|e3|e3
    ·rcases ji (env:=X.env) e3 with z|z
     ·rw [fr] at z;cases z
     ·exfalso;have z2:=e3
      -- a local's kind stays
      exact absurd e2 (jM js σ i v (S.js i x e1 (.inl (by
       have q: ∀ (l:G0 (Str×NameKind)),(l.map λ(n,k)=>if (k==B9&&X.env.scope.kind== .function&&X.env.kindOf n==some .cell) then (n,A3) else (n,k)).lookup x=some .local->l.lookup x=some .local:=by
        intro l
        induction l with
        |nil=>intro h;simp at h
        |cons p l ih=>
         obtain⟨n,k'⟩:=p;intro h;have h':o6 x ((if (k'==B9&&X.env.scope.kind== .function&&X.env.kindOf n==some .cell)=true then (n,A3) else (n,k'))::(l.map λ(n,k)=>if (k==B9&&X.env.scope.kind== .function&&X.env.kindOf n==some .cell) then (n,A3) else (n,k)))=some .local:=h;rw [F7]
         by_cases hc:(k'==B9&&X.env.scope.kind== .function&&X.env.kindOf n==some .cell)=true
         ·rw [R0 hc,F7] at h';cases hx:x==n with
          |true=>rw [hx] at h';cases h'
          |false=>rw [hx] at h';exact ih h'
         ·rw [R7 hc,F7] at h';cases hx:x==n with
          |true=>rw [hx] at h';exact h'
          |false=>rw [hx] at h';exact ih h'
       exact q _ z2))))
    ·exact .inl e3
    ·exact .inr e3
   rcases lk with ⟨k,_⟩|⟨_,c,hc,hcell⟩
   ·have k':X.env.scope.names.lookup x=some .local:=k;rcases vis with z|z<;>(rw [k'] at z;cases z)
   ·refine⟨u,r,.inr ⟨kd,c,zS S hc fm (by rw [fr];decide),?_⟩⟩;obtain⟨o,ho,hd⟩:=hcell;exact⟨o,upC _ _ (up3 _ _ ho),hd⟩
  ·rcases jO S e with ⟨_,z⟩|⟨_,z⟩
   ·obtain⟨v,o,ho,hd⟩:=I2.cell x c z;exact⟨v,o,upC _ _ (up3 _ _ ho),hd⟩
   ·exact⟨none,(rM x c z).1⟩
  ·have hp':p∈ [(D,o0)]:=hp;rcases G9.mp hp' with rfl
   refine⟨upC _ _ hD3,fD.1,hDC,λz=> ?_,nocell _ _ acc0⟩;rcases S5.mp (I.stkSub D z) with q|q
   ·exact fD.2.1 q
   ·exact fD.2.2.1 q
 have st4:tn 0 rL:=T.keep _ _ _ st2 λb _ o e=>upC _ _ (up3 _ _ e)
 have eA:X'.A=X.A:=by rw [<-hX];rfl
 have eP:X'.prog=X.prog:=by rw [<-hX];rfl
 have eW:X'.w=X.w:=by rw [<-hX];rfl
 have eK:X'.K=X.K:=by rw [<-hX];rfl
 have eC:X'.calm=true:=by rw [<-hX];exact hc
 have eV:X'.env=dP scope (jl X scope C) C X.env:=by rw [<-hX];rfl
 have eE:X'.xe=λ_ _=>False:=by rw [<-hX];rfl
 -- what stays true of the iterator's objects
 have stat: ∀ {us:Obj} {H':Hp},(∀b∈fp,H' b=none)-> ∀b∈fp,VR X' [(D,us)] H' b:=λ{us H'} hn b hb=>by
  have q:=hf b (T4 _ hb);subst hX;refine⟨hn b hb,R8 (ltb b (T4 _ hb)),λz=> ?_,.inl (T4 _ hb),λx c e=>(cl x c e).elim (λz=>q.2.2.2.2.1 x c z) (λz=>A6 (O2 (ltb b (T4 _ hb)) z)),λp hp=> ?_⟩
  ·rcases S5.mp (I.stkSub b z) with r|r
   ·exact q.2.1 r
   ·exact q.2.2.1 r
  ·have hp':p∈ [(D,us)]:=hp;rcases G9.mp hp' with rfl
   exact A6 (ltf b hb)
 have loop: ∀rN:G2,rN= {s2 with heap:=rL}->
  U3 (R5 X.prog X.w) X.A (.compLoop e 0 (.ref it) (.ref D) (dP scope (jl X scope C) C X.env))
   (mH (R5 X.prog X.w) X.A X.xe use Qv (.ref D) C) rN:=by
  rintro rN rfl;refine Di (act:=act (dP scope (jl X scope C) C X.env) (.ref D)) (λn s'=> ∃i ys us H',Acc ys us/\Inv X' [(D,us)] (jY js σ) H' s'/\tn i s'.heap/\(∀b∈fp,H' b=none)/\W i n ys H') (ck.quiet _ _ _) (ck.den _ _ _) (ck.under _ _ _ _) (hturn _ _ _) ?_ m0
   ⟨0,a0,o0,H2,acc0,I4,st4,λb hb=>(f2 b hb).1,w0⟩
  rintro n s5 ⟨i,ys,us,H5,hv5,I5,st5,fr5,w5⟩;have tr:=turn i n ys H5 w5;rcases tr with ⟨stop,qn⟩|⟨go,step⟩
  ·have q:=T.done X' eP eW eK eC i _ s5 _ H5 (λ_ _=>False) I5 (stat fr5) st5 stop;rw [eA] at q;refine T3 q (λr s6 ⟨hr,I6⟩=> ?_) λ_ _ z=>z
   subst hr;obtain⟨m6,hm6,_⟩:=I6.loc;rw [eV] at hm6;have zD:=I6.pin (D,us) (P5 _ P8);have HD:H5 D=none:=zD.2.1;have oD:s6.heap.get? D=some (us):=zD.1;have hDC:D≠C:=by rw [CD];exact R8 (C4 _)
   have HC:H5 C=none:=by have z:=I6.free;rw [eV] at z;exact z
   have B:=I6.base;have os6:s6.os=s2.os:=by have z:=I6.os;rw [<-hX] at z;exact z
   have Bu:Un (frs X.stack) (fp++ [D]) H2 H5 h3 s6.heap:=by rw [<-hX] at B;exact B
   have neC: ∀b o,h3.get? b=some o->b≠C:=λb o e=>by rw [<-hC];exact R8 (P7 e)
   refine fin D C (upd H5 D (ho us)) s6 m6 hm6 (λh' hs'=> ?_) (by rw [jg (E4 hDC)];exact HC) ?_ ?_ ?_ (λx c e=>R8 (olt x c e)) ?_ (qn D us HD hv5)
   ·have hk5:HOk X.prog X.w H5 h':=λb u e=>by
     have z:=I6.hok b u e;rw [eP,eW] at z;refine z.stay (λc v hc q=>hs'.extBut c v ?_ q) (λ_ q=>q) λ_ _ q=>q
     rcases hc with rfl|hc
     ·exact jc e HC
     ·exact jc hc HC
    refine I3.call' (ch:=fp++ [D]) os6 ⟨λb o e n hb hx=> ?_,λb o e n hb hx=> ?_,λb o e n hx=> ?_,λb o e hx=> ?_,λb xs e=> ?_,λb o u e=> ?_,λb ps e=> ?_⟩ (hk5.track HD ?_) I6.bare λb hb=> ?_
    ·exact hs'.extBut b o (neC b o e) (Bu.keep b o e n hb hx)
    ·obtain⟨sl,q⟩:=Bu.slot b o e n hb hx;exact⟨sl,hs'.extBut b _ (neC b o e) q⟩
    ·rw [jg λz=>hx (by rw [z];exact P5 _ P8)];exact Bu.free b o e n hx
    ·obtain⟨o',q⟩:=Bu.there b o e hx;exact⟨o',hs'.extBut b _ (neC b o e) q⟩
    ·have z:=Bu.tups b xs e;rw [jg (jc z HD)];exact z
    ·have z:=Bu.frzs b o u e;rw [jg (jc z HD)];exact z
    ·obtain⟨more,z⟩:=Bu.tbls b ps e;exact⟨more,by rw [jg (jc z HD)];exact z⟩
    ·exact okO hv5 (hs'.extBut D _ hDC oD)
    ·have q:=hf b hb;exact⟨q.2.2.2.1,q.2.1,q.2.2.2.2.1,q.2.2.2.2.2⟩
   ·rw [<-hC];exact A6 I3.lt
   ·exact I3.nofs (Z6 hC)
   ·rw [<-hC];exact I3.sz
   ·intro p hp;have:=(I3.pin p hp).1;rw [<-hC];exact R8 (P7 this)
  ·have q:=T.item X' eP eW eK eC i _ s5 _ H5 (λ_ _=>False) I5 (stat fr5) st5 go;rw [eA] at q;refine T3 q (λr s6 ⟨u,hr,h6⟩=> ?_) λ_ _ z=>z
   subst hr;refine T3 h6 (λ_ s7 ⟨x,H7,I7,r7,y7,st7,fr7⟩=> ?_) λ_ _ z=>z
   have I7':=I7.pinned (stat fr7) (T.obj _ _ st7);have q7:=hg X' iX _ s7 _ H7 x u _ I7' r7 (step x H7 y7);rw [eP,eW,eA,eV,eE] at q7;refine T3 q7 (λ_ s8 ⟨rP,H8,I8,ag8,q8⟩=> ?_) λ_ _ z=>z
   have q9:=ht X' iX _ s8 rP H8 _ I8 q8;rw [eP,eW,eA,eV,eE] at q9;refine T3 q9 (λok s9 ⟨H9,I9,q9⟩=> ?_) λ_ _ z=>z
   have keepT: ∀ {rD:St} {H':Hp} {s':G2} {us:Obj},Inv X' ([(D,us)]++wn fp s7.heap) rD H' s'->tn (i+1) s'.heap/\ ∀b∈fp,H' b=none:=λ{rD H' s' us} I'=>
    ⟨T.keep _ _ _ st7 λb hb o e=>(I'.pin (b,o) (P5 _ (P5 _ (jW hb e)))).1,λb hb=>by
     obtain⟨o,e,_⟩:=T.obj _ _ st7 b hb;exact(I'.pin (b,o) (P5 _ (P5 _ (jW hb e)))).2.1⟩
   cases ok with
   |false=>
    have q9: ∃m',m'<n/\W (i+1) m' ys H9:=q9;obtain⟨m',hm,w9⟩:=q9;obtain⟨t9,f9⟩:=keepT I9;exact⟨m',hm,i+1,ys,us,H9,hv5,(I9.unpinned).weak ag8.1.symm ag8.2,t9,f9,w9⟩
   |true=>
    have q9:tm rP H9 ys λys' H4=> ∃m',m'<n/\W (i+1) m' ys' H4:=q9
    have DX:D∈X'.ex:=by rw [<-hX];exact P5 _ P8
    have pD: ∀p∈X'.pn++wn fp s7.heap,p.1≠D:=λp hp=>by
     have hp':p∈wn fp s7.heap:=by rw [<-hX] at hp;simpa [zZ] using hp
     exact R8 (ltf _ (vn hp').1)
    have cD: ∀x c,X'.env.cells.lookup x=some c->c≠D:=λx c e=>by
     rw [eV] at e;exact(cl x c e).elim (λz=>fD.2.2.2.2.1 x c z) λz=>A6 (O2 (by rw [CD];exact C4 _) z)
    have q10:=he X' iX D _ s9 rP H9 ys us _ I9 hv5 DX cD pD q9;rw [eP,eW,eA,eV] at q10;show R4 _ _ (act _ _) _ _ s9;refine T3 q10 (λ_ s10 ⟨ys',us',H10,hv10,I10,m',hm,w10⟩=> ?_) λ_ _ z=>z
    obtain⟨t10,f10⟩:=keepT I10;exact⟨m',hm,i+1,ys',us',H10,hv10,(I10.unpinned).weak ag8.1.symm ag8.2,t10,f10,w10⟩
 exact ck.start (loop _ rfl) (T.self X.A 0 _ _ _ st4 (loop _ rfl))
variable {elt:S8}{pos:Pos}
theorem RM {P:S9}{w:N2}{tg:S8}{rest:G0 Q4}:CompK P w (.SetComp elt (⟨tg,iter,ifs,0⟩::rest) scope pos) ⟨tg,iter,ifs,0⟩ rest (q0 (.type "set")) (wV #[] 0 (.fresh 0 0 (wu w))) where
 cl:=rfl
 quiet:=λ_ _ _=>rfl
 den:=λ_ _ _=>rfl
 under:=λ_ _ _ _=>rfl
 start:=λ{A R s it acc env} h0 h=>fE (nA (by
  unfold compStart;show R4 (R5 P w) A (ask >>= _) _ _ s;exact wpAny_bind (J9 (wpAny_ite (BJ (λ_=>wpAny_bind (G8 (G8 ⟨rfl,h0⟩))) λ_=>wpAny_bind (hO (wpAny_bind (V7 (wpAny_bind (T3 h (λ_ _ q=>G8 ⟨rfl,q⟩) λ_ _ q=>q))))))))))
 live:=rfl
 made:=λ{A Q E s} q=>by
  obtain⟨hp,g,d,tk,os⟩:=s;have told: ∀ {Q:iW->G2->Prop} {E':G1->G2->Prop} {A':T9} {s':G2},Q ⟨P,w.params⟩ s'->R4 (R5 P w) A' ask Q E' s':=λq=>J9 q
  unfold q0 setsByText
  wp_walk using told
  exact q
abbrev FX:=P1×G0 (G0 P3)
def Lp (P:S9)(w:N2)(ps:G0 FX)(o:Obj):Prop:= ∃f es ep t,o=wV es ep t/\SetT (Lo P w) (wu w) (λk b=>(b,k)∈ps) f es t (ps.map (·.2)).reverse
def Dj (elt:S8)(env:Env)(acc:G1):Sem Unit:=do let v <-L4 elt env;c8 elt.pos;let _ <-call (.builtin "set.add") [acc,v]
def AF (te:TE):TMG (G0 FX):=λσ H ps Q=>te σ H λy H1=> ∃b T,y= .ref b/\FT H1 T b/\(∀p∈ps,FT H1 p.2 p.1)/\ps.length<999/\Q (ps++ [(b,T)]) H1
variable {k:G7}
theorem RN {D:P1}{te:TE}(hr:Room k X.A)(hx:X.xe=λ_ _=>False)(he:PE X elt te):FV X (Lp X.prog X.w) D (Dj elt X.env (.ref D)) (AF te):=by
 rintro pins s σ H ps _ Q I ⟨f,es,ep,t,rfl,S⟩ DX cD pD h;have q:=he _ s σ H _ I h;rw [hx] at q;unfold Dj;refine wpAny_bind (T3 q (λy s1 ⟨yv,H1,I1,r1,b,T,e,hT,hps,few,q1⟩=> ?_) λ_ _ z=>z);subst e;cases r1;have zD:=I1.pin (D,wV es ep t) (P5 _ (T4 _ P8));have I10u:Inv X pins σ H1 s1:=I1.pins_of λp hp=>I1.pin p (P5 _ (P5 _ hp))
 refine wpAny_bind (V7 (wpAny_bind (F6 F.slot_set_add ⟨_,zD.1,rfl⟩ F.entry_set_add ?_ (F.args_set_add_2 _ _))));unfold Builtin.«set.add» Builtin.Frozenset.oneOther;simp only [List.isEmpty_nil,bind_assoc];unfold Builtin.Frozenset.addrOf;refine wpAny_bind (G8 ?_)
 try dsimp only
 refine wpAny_bind (G8 ?_)
 try dsimp only
 refine wpAny_bind (Vl (M:=Lo X.prog X.w) (is:=λk b'=>(b',k)∈ps++ [(b,T)]) (k:=T) (by have:=hr.un;show X.A.units+1+8<cLine;omega) (S.imp λk b' z=>T4 _ z) zD.1 (by rw [List.length_reverse,G3];omega) (λk b' z=> ?_) (P5 _ P8) λr f' es' ep' t' h' tk S' e' sb=> ?_)
 ·refine ME I1 k b' ?_;rcases T5.mp z with z|z
  ·exact hps _ z
  ·cases G9.mp z;exact hT
 ·refine G8 ⟨_,rfl,G8 ?_⟩;have I11:Inv X pins σ H1 {s1 with heap:=h',toks:=tk}:=I10u.turned (t':=tk) (it:=D) (λb o hb e=>sb.extBut b o hb e) zD.2.1 zD.2.2.1 (.inl DX) cD pD;refine⟨ps++ [(b,T)],wV es' ep' t',H1,⟨f',es',ep',t',rfl,by rw [B6,gP];exact S'⟩,I11.pins_of λp hp=> ?_,q1⟩;rcases T5.mp hp with z|z
  ·rcases G9.mp z with rfl
   exact⟨e',zD.2.1,zD.2.2.1,zD.2.2.2.1,λv z=>by cases z⟩
  ·exact I11.pin p (P5 _ z)
abbrev RO (o:Obj):HO:= .frz o (.own 0)
theorem OS {tg:S8}{js:G0 G7}{wi:TI}{g:TG}{tt:TT}{te:TE}(hr:Room k X.A)(hc:X.calm=true)(S:BlockOk X scope js)(hi:PI X tg iter wi)
 (hg: ∀X',jd X scope X'->PG X' tg g)(ht: ∀X',jd X scope X'->PTs X' ifs tt)(he: ∀X',jd X scope X'->PE X' elt te)
 (hs: ∀x,S1 iter X.env x=pure x:=by intro _;rfl):PE X (.SetComp elt [⟨tg,iter,ifs,0⟩] scope pos) (tCG (Lp X.prog X.w) RO [] js wi g tt (AF te)):=by
 intro pins s σ H Q I h;show R4 _ _ (dF (.SetComp elt [⟨tg,iter,ifs,0⟩] scope pos) scope X.env _ (q0 (.type "set")) false (L4 iter X.env)) _ _ s;exact FW (ho:=RO) (use:=none) hc S hi RM ⟨λ_=> [],#[],0,_,rfl,Yb (wu X.w) _⟩ (λa o ⟨_,_,_,_,e,_⟩ v=>by subst e;exact λz=>nomatch z) (λ{a o H h p} _ e=>⟨e,⟨_,e⟩⟩) hg ht (Dj elt) (λ_ _ _=>rfl) (λX' hX D=>by obtain⟨C,s₀,H₀,ex,e⟩:=hX;have z:=he X' ⟨C,s₀,H₀,ex,e⟩;subst e;exact RN (X:=zZ X scope C s₀ H₀ ex) hr rfl z) hs I h
  λD C H' s' m hn hk _ _ _ _ _ _ q=>⟨m,hn,λh' hs'=>⟨.ref D,H',hk h' hs',rfl,q⟩⟩
section
variable {prog:S9}{w:N2}{A:T9}{E:G1->G2->Prop}{s:G2}
theorem RQ {a:P1}{v:G1}{n:G7}{P:aX->G2->Prop}(ho:s.heap.get? a=some (b6 "list" [v].toArray n))
 (q: ∀ (c tk:G7) (h':B3),OL s a h'->h'.get? a=some (b6 "list" [v].toArray c)->P (.done (.ret .none)) {s with heap:=h',toks:=tk}):
 R4 (R5 prog w) A (Builtin.«list.sort» ⟨[.ref a],[]⟩) P E s:=by
 have alt:=P7 ho;rw [list_sort_plain];refine wpAny_bind (listItems_at ho rfl ?_);obtain⟨c1,ho1⟩: ∃c,(s.heap.update a (E6 λ_=>(#[]:M2 G1))).get? a=some (b6 "list" #[] c):=⟨_,lU ho λ_=> #[]⟩;refine wpAny_bind (nV ho rfl ?_ (by show 1<=sizeLine;decide) (B4 _));refine wpAny_bind (pH ho1 rfl ?_);refine wpAny_bind (mP ?_ (by show 1<=sizeLine;decide));refine wpAny_bind (gW ?_ (B4 _));refine B8 ?_;have past:OL s a (((s.heap.update a (E6 λ_=>(#[]:M2 G1))).push {cls:= .type "tuple",data:= .seq [v].toArray.toList.toArray}).push {cls:= .type "list",data:= .seq ([]:G0 G1).toArray}):=λb x ne e=>by
  refine G5 _ (G5 _ ?_);rw [aH _ _ _ _ ne];exact e
 have ho3:=G5 ({cls:= .type "list",data:= .seq ([]:G0 G1).toArray}:Obj) (G5 ({cls:= .type "tuple",data:= .seq [v].toArray.toList.toArray}:Obj) ho1);revert past ho3;generalize ((s.heap.update a (E6 λ_=>(#[]:M2 G1))).push ({cls:= .type "tuple",data:= .seq [v].toArray.toList.toArray}:Obj)).push ({cls:= .type "list",data:= .seq ([]:G0 G1).toArray}:Obj)=H3;intro past ho3;have c: [v].toArray.size<2:=by show 1<2;decide
 dsimp only;refine Ry (wpAny_bind ?_);rw [R0 c];refine G8 (wpAny_bind ?_);rw [R0 c,StateT.run_pure];refine G8 ?_;dsimp only;obtain⟨c2,ho4⟩: ∃c,(H3.update a (E6 λ_=> [v].toArray)).get? a=some (b6 "list" [v].toArray c):=⟨_,lU ho3 λ_=> [v].toArray⟩;have eo:(arrOf (SortSt.mk' general' ([v].toArray.zip [v].toArray) #[] 7 none)).map (λx=>x.2)= [v].toArray:=by
  show Array.map (λx=>x.2) ([v].toArray.zip [v].toArray)=_;apply Array.toList_inj.mp;rw [kW,Array.toList_zip];rfl
 rw [eo];refine wpAny_bind (pH (s:= {s with heap:=H3}) ho3 rfl ?_);refine wpAny_bind (nV (s:= {s with heap:=H3}) ho3 rfl ?_ (B4 _) (by show 1<=sizeLine+1;decide));simp only [bne_self_eq_false,M8,iK];refine G8 (q c2 s.toks _ (λb x ne e=> ?_) ho4);rw [aH _ _ _ _ ne];exact past b x ne e
end
theorem RR {K:Type}{l:G0 K}{M:K}(nd:l.Nodup)(ne:l≠ [])(all: ∀x∈l,x=M):l= [M]:=by
 match l,nd,ne,all with
 | [x],_,_,all=>rw [all x P8]
 |x::y::r,nd,_,all=>
  have e1:=all x P8;have e2:=all y (R6 _ P8);subst e1;subst e2;exact absurd P8 (L7.mp nd).1
 | [],_,ne,_=>exact absurd rfl ne
theorem Jw (hc:X.calm=true)(hr:Room k X.A):CallR X (.builtin "sorted") (λxs H Q=> ∃ (p:P1) (o:Obj) (ps:G0 FX) (M:G0 (G0 P3)),xs= [.ref p]/\H p=some (RO o)/\Lp X.prog X.w ps o/\ps≠ []/\ps.length<1000/\(∀x∈ps,x.2=M)/\ ∀ (q b:P1),H q=none->(b,M)∈ps->Q (.ref q) (upd H q (.lst [.ref b]))):=by
 intro pins s σ H xs us Q I r h;obtain⟨p,o,ps,M,rfl,hp,⟨f,es,ep,t,rfl,S⟩,ne,few,all,q⟩:=h;obtain⟨u,rfl,ru⟩:=wX r;cases ru;have fm:es.toList.map f= [M]:=RR S.nd (λz=>by
  obtain⟨x,xs,e⟩:=List.exists_cons_of_ne_nil ne;have:=(S.mem x.2).mpr (by rw [kX];exact N8 (by rw [e];exact P8));rw [z] at this;cases this) λx hx=>by
  have:=(S.mem x).mp hx;rw [kX] at this;obtain⟨y,hy,rfl⟩:=R1.mp this;exact all y hy
 have sz:es.toList.length=1:=by have:=congrArg dA fm;simpa using this
 obtain⟨e,ee⟩: ∃e,es.toList= [e]:=by
  match h:es.toList,sz with
  | [e],_=>exact⟨e,rfl⟩
 have fe:f e=M:=by rw [ee] at fm;simpa using fm
 obtain⟨_,b,eb,hb⟩:=S.each e (by rw [ee];exact P8);rw [fe] at hb;refine Calls.call_function_entry o7 oF oG (oH _) (wpAny_bind (G8 (wpAny_bind (wpAny_bind (wpAny_runValue (cA (Ql (I.ok.hd hc) S.tab (I.hok p _ hp).1 (by have:=D1 (xs:=es);omega)) λres s' listed=> ?_))))));obtain⟨h1,d,tk,acc,c0,rfl,rfl,made,kept,pm⟩:=listed;refine wpAny_bind (pP made (G8 ?_));rw [ee,List.map_singleton,eb] at pm;have al:acc.toList= [.ref b]:=List.perm_singleton.mp pm;have ac:acc= [U8 b].toArray:=by rw [<-al,Array.toArray_toList]
 subst ac;have fresh:(h1.push (b6 "list" [U8 b].toArray 0)).get? h1.objs.size=some (b6 "list" [U8 b].toArray 0):=D9 _ rfl;have kp: ∀h',OL {s with heap:=h1.push (b6 "list" [U8 b].toArray 0),drawn:=d,toks:=tk} h1.objs.size h'->Ul h1 h':=λh' p b x e=>p b x (R8 (P7 e)) (G5 _ e)
 refine wpAny_bind (gW (wpAny_bind (B8 (F6 mK ⟨_,fresh,rfl⟩ lN (RQ (s:= {s with heap:=h1.push (b6 "list" [U8 b].toArray 0),drawn:=d,toks:=tk}) fresh λc tk' h' p' e1=>⟨_,rfl,?_⟩) (mL _)))) (by show 1<=sizeLine;decide));have I1:=(I.kept (t':=s.toks) kept).drew d;refine G8 ⟨_,rfl,.ref _,_,I1.laid (t':=tk') (o:= .lst [.ref b]) (kp h' p') (P0 _) ⟨by show 1<=sizeLine;decide,_,c,.cons rfl .nil,e1⟩,rfl,q _ b (I1.hok.fresh (P0 _)) hb⟩
def EK (bind:D->SD->SD->Prop)(js:G0 G7)(ti:TID)(tt:TTD)(te:TED):TED:=λσ h Q=>ti σ h λj h1=> ∃ (n:G7) (M:G0 (G0 P3)) (W:G7->G0 (G0 (G0 P3))->HD->Prop),W 0 [] h1/\ ∀i ys h',W i ys h'->ys.length<999/\
 ∃ds,j h'=some ds/\ds.length<=n/\(ds.length<=i->ys≠ []/\(∀y∈ys,y=M)/\ ∀p,h' p=none->Q (.lst p) (wC h' p [jf M]))/\
  ∀d,ds[i]? =some d-> ∃rF,bind d (jI js σ) rF/\tt rF h' λb h3=>if b=true then te rF h3 λy h4=> ∃T h5,y=jf T/\Sub h5 h4/\W (i+1) (ys++ [T]) h5 else ∃h5,Sub h5 h3/\W (i+1) ys h5
theorem tab_of {K:G4}{H:Hp}{T:G0 (G0 P3)}{b:P1}(r:RelD K H (jf T) (.ref b)):FT H T b:=by
 obtain⟨a,vs,e,hH,r1⟩:=(show ∃a vs,V.ref b= .ref a/\H a=some (.tup vs)/\RelDs K H (T.map zJ) vs from r);cases e;exact⟨vs,hH,PY r1⟩
theorem EL {i : G7} {x : Str} {p p0 pos0 : Pos} {js : G0 G7} {ti : TID} {tt : TTD} {te : TED} (hr : Room k X.A) (hc : X.calm = true) (hgl : Gl X "sorted") (hm : X.mg "sorted" = none) (S : BlockOk X scope js) (hi : JI X (.Name x p) iter ti) (hj : i ∈ js) (hN : X.N.Nodup) (hx : X.N[i]? = some x) (hl : scope.names.lookup x = some .local ∨ scope.names.lookup x = some .cell)
    (ht : ∀ X', jd X scope X' → PTs X' ifs (LT X'.K tt)) (he : ∀ X', jd X scope X' → JE X' elt te) (hs : ∀ x, S1 iter X.env x = pure x := by intro _; rfl)
    (h1 : D2 [.SetComp elt [⟨.Name x p, iter, ifs, 0⟩] scope pos] X.env = (false, L4 (.SetComp elt [⟨.Name x p, iter, ifs, 0⟩] scope pos) X.env) :: D2 [] X.env := by rfl) (h2 : (O9 pos0 (D2 [] X.env)).any (·.1) = false := by rfl) :
    JE X (.Call (.Name "sorted" p0) [.SetComp elt [⟨.Name x p, iter, ifs, 0⟩] scope pos] [] pos0) (EK (bN i) js ti tt te) :=
  ⟨(JP (Jw hc hr) hgl hm (by decide +kernel) (wY (OS (g := zX i) (tt := LT X.K tt) (te := LE X.K te) hr hc S hi.to (fun X' hX => by obtain ⟨C, s₀, H₀, ex, rfl⟩ := hX; exact zF hN hx hl) (fun X' hX => by have := ht X' hX; obtain ⟨C, s₀, H₀, ex, rfl⟩ := hX; exact this) (fun X' hX => by have := (he X' hX).to; obtain ⟨C, s₀, H₀, ex, rfl⟩ := hX; exact this) hs) pa_nil h1) (by decide) (by decide) h1 h2).imp
    fun σ H Q ⟨rE, h, Qd, rs, rh, q, post⟩ => by
      refine ⟨rE, h, _, rs, rh, q, fun j J h1 H1 k1 rh1 jo ⟨n, M, W, w0, turn⟩ => ?_⟩
      refine ⟨fun i m ps H' => m = n - i ∧ Kept H1 H' ∧ ∃ h', (∀ y ∈ ps, RelD X.K H' (jf y.2) (.ref y.1)) ∧ RelH X.K h' H' ∧ W i (ps.map (·.2)) h', ⟨n - 0, rfl, .refl _, h1, (fun y hy => nomatch hy), rh1, w0⟩, ?_⟩
      rintro i m ps H' ⟨rfl, kp, h', ry, rh', w⟩
      obtain ⟨hz, ds, ej, hn, stop, go⟩ := turn i _ h' w
      rw [G3] at hz
      have jo' := jo H' h' kp rh' ds ej i
      have kk : Kept H H' := k1.trans kp
      by_cases hi : i < ds.length
      · obtain ⟨g1, y1⟩ := jo'.1 ds[i] (P2 hi)
        refine .inr ⟨g1, fun x H'' y => ?_⟩
        obtain ⟨k2, rh2, r2⟩ := y1 x H'' y
        obtain ⟨rK, bd, q2⟩ := go ds[i] (P2 hi)
        refine Nq hj σ rE rK H'' ds[i] x _ (((rs.mono (kk.trans k2))).clear js) r2 bd fun rF ag rs2 => ⟨ag, ?_⟩
        refine LT.bind rs2 rh2 q2 fun b h3 H3 k3 rs3 rh3 q3 => ?_
        cases b with
        | true =>
          rw [R0 rfl] at q3 ⊢
          refine LE.bind rs3 rh3 q3 fun d4 v4 h4 H4 k4 rs4 rh4 r4 ⟨T, h5, ed, sb, w5⟩ => ?_
          subst ed
          obtain ⟨b, vs, eb, _⟩ := (show ∃ a vs, v4 = .ref a ∧ H4 a = some (.tup vs) ∧ _ from r4)
          subst eb
          have ry4 : ∀ y ∈ ps, RelD X.K H4 (jf y.2) (.ref y.1) := fun y hy => (ry y hy).mono (k2.trans (k3.trans k4))
          refine ⟨b, T, rfl, tab_of r4, fun y hy => tab_of (ry4 y hy), hz, n - (i + 1), by omega, rfl, kp.trans (k2.trans (k3.trans k4)), h5, fun y hy => ?_, rh4.sub sb, by rw [B6]; exact w5⟩
          rcases T5.mp hy with z | z
          · exact ry4 y z
          · rw [G9.mp z]; exact r4
        | false =>
          rw [R7 P9] at q3 ⊢
          obtain ⟨h5, sb, w5⟩ := q3
          exact ⟨n - (i + 1), by omega, rfl, kp.trans (k2.trans k3), h5, fun y hy => (ry y hy).mono (k2.trans k3), rh3.sub sb, w5⟩
      · obtain ⟨ne, all, fin⟩ := stop (K0.mp hi)
        refine .inl ⟨jo'.2 (K0.mp hi), fun p o hpn acc => ⟨p, o, ps, M, rfl, jh, acc, fun z => ne (by rw [z]; rfl), by omega, fun y hy => all _ (N8 hy), fun l b hl hb => ?_⟩⟩
        have rh2 := rh'.new (o := RO o) hpn
        have rd := ((ry _ hb).mono (.new hpn : Kept H' (upd H' p (RO o))))
        exact post (.lst l) (.ref l) _ _ (kk.trans ((Kept.new hpn).trans (.new hl))) (rh2.newL hl (.cons rd .nil)) ⟨rfl, _, jh⟩ (fin l (rh2.free hl))⟩
theorem Vo (hc:X.calm=true)(hr:Room k X.A):CallR X (.type "set") (λxs H Q=> ∃ (a:P1) (ps:G0 FX),xs= [.ref a]/\SqL X.K H a (ps.map λp=>V.ref p.1)/\ps.length<1000/\(∀p∈ps,FT H p.2 p.1)/\ ∀ (p:P1) (o:Obj),H p=none->Lp X.prog X.w ps o->Q (.ref p) (upd H p (RO o))):=by
 intro pins s σ H xs us Q I r h;obtain⟨a,ps,rfl,hS,few,ht,q⟩:=h;obtain⟨u,rfl,ru⟩:=wX r;cases ru;obtain⟨its,rv,pl,hz⟩:=I.list hS;have len:its.length=ps.length:=by have:=rv.length;rw [G3] at this;exact this.symm
 have at_: ∀i v,its[i]? =some v-> ∃b,v= .ref b/\(b,(ps.map (·.2)).getD i [])∈ps:=λi v e=>by
  have il:i<ps.length:=by rw [<-len];exact(D3.mp e).1
  have e1:(ps.map λp=>V.ref p.1)[i]? =some (.ref ps[i].1):=by rw [P4,P2 il];rfl
  have e2:=Wo rv e1 e;refine⟨ps[i].1,e2,?_⟩;rw [D5,P4,P2 il];exact C5 il
 have rng:(G6 its.length).map (λi=>(ps.map (·.2)).getD i [])=ps.map (·.2):=by
  have:=jS (ps.map (·.2)) ([]:G0 (G0 P3));rw [G3] at this;rw [len];exact this.symm
 refine RI (M:=Lo X.prog X.w) (is:=λk b=>(b,k)∈ps) (by have:=hr.un;omega) (I.ok.hd hc) (.inl rfl) pl.isList at_ (λk b z=>ME I k b (ht _ z)) (by omega) λh' tk f es ep t e S kept=> ?_
 rw [rng] at S;exact⟨.ref _,_,I.laid (t':=tk) (o:=RO (wV es ep t)) kept (P0 _) ⟨e,⟨_,e⟩⟩,rfl,q _ _ (I.hok.fresh (P0 _)) ⟨f,es,ep,t,rfl,S⟩⟩
def AG (ta:TAD):TED:=λσ h Q=>ta σ h λds h1=> ∃ (a:P1) (Ts:G0 (G0 (G0 P3))) (M:G0 (G0 P3)),ds= [.lst a]/\h1 a=some (Ts.map jf)/\Ts≠ []/\Ts.length<1000/\(∀T∈Ts,T=M)/\ ∀p,h1 p=none->Q (.lst p) (wC h1 p [jf M])
theorem EM {a : S8} {ta : TAD} {p p2 pos2 : Pos} (hr : Room k X.A) (hc : X.calm = true) (hg : Gl X "sorted") (hm : X.mg "sorted" = none) (hg2 : Gl X "set") (hm2 : X.mg "set" = none) (ha : JA X [a] ta) (hs : D2 [a] X.env = [(false, L4 a X.env)] := by rfl)
    (h1 : D2 [.Call (.Name "set" p2) [a] [] pos2] X.env = (false, L4 (.Call (.Name "set" p2) [a] [] pos2) X.env) :: D2 [] X.env := by rfl) (h2 : (O9 pos (D2 [] X.env)).any (·.1) = false := by rfl) (h3 : (O9 pos2 (D2 [] X.env)).any (·.1) = false := by rfl) :
    JE X (.Call (.Name "sorted" p) [.Call (.Name "set" p2) [a] [] pos2] [] pos) (AG ta) :=
  ⟨(JP (Jw hc hr) hg hm (by decide +kernel) (wY (Zb (Vo hc hr) hg2 hm2 (by decide +kernel) ha.to (by decide) (by decide) hs h3) pa_nil h1) (by decide) (by decide) h1 h2).imp
    fun σ H Q ⟨rE, h, Qd, rs, rh, t, post⟩ => LA.bind rs rh t fun ds vs h1 H1 k1 rs1 rh1 r1 ⟨a, Ts, M, e, hd, ne, few, all, q⟩ => by
      subst e
      obtain ⟨v, e, r2⟩ := jq r1
      obtain ⟨ws, hH, r3⟩ := rh1 a _ hd
      have e1 : v = .ref a := r2.1
      subst e e1
      have rel : ∀ {Ts : G0 (G0 (G0 P3))} {ws : G0 V}, RelDs X.K H1 (Ts.map jf) ws → ∃ ps : G0 FX, ws = ps.map (fun p => V.ref p.1) ∧ Ts = ps.map (·.2) ∧ ∀ p ∈ ps, RelD X.K H1 (jf p.2) (.ref p.1) := fun {Ts} => by
        induction Ts with
        | nil => intro ws r; cases (show ws = [] from r); exact ⟨[], rfl, rfl, fun _ z => nomatch z⟩
        | cons T Ts ih =>
          intro ws r
          obtain ⟨v, t, e, g1, g2⟩ := (show ∃ v t, ws = v :: t ∧ RelD X.K H1 (jf T) v ∧ RelDs X.K H1 (Ts.map jf) t from r)
          subst e
          obtain ⟨ps, rfl, rfl, hp⟩ := ih g2
          obtain ⟨b, us, eb, _⟩ := (show ∃ a vs, v = .ref a ∧ H1 a = some (.tup vs) ∧ _ from g1)
          subst eb
          exact ⟨(b, T) :: ps, rfl, rfl, fun p hp' => (S5.mp hp').elim (fun z => by rw [z]; exact g1) (hp p)⟩
      obtain ⟨ps, rfl, rfl, hp⟩ := rel r3
      rw [G3] at few
      refine ⟨a, ps, rfl, SqL.of hH, few, fun p h => tab_of (hp p h), fun c o hcn acc => ⟨c, o, ps, M, rfl, jh, acc, fun z => ne (by rw [z]; rfl), few, fun y hy => all _ (N8 hy), fun l b hl hb => ?_⟩⟩
      have rh2 := rh1.new (o := RO o) hcn
      have rd := ((hp _ hb).mono (.new hcn : Kept H1 (upd H1 c (RO o))))
      exact post (.lst l) (.ref l) _ _ (k1.trans ((Kept.new hcn).trans (.new hl))) (rh2.newL hl (.cons rd .nil)) ⟨rfl, _, jh⟩ (q l (rh2.free hl))⟩
def XE:G7->G0 (G0 P3)
 |1=> [[1]]
 |2=> [[0,1],[1,1]]
 |_=> [[0,0,1],[1,0,0],[1,1,0]]
def Yw (s:G7):P3:=((s:P3)-1)*((s:P3)-1)+1
def okS (s:G7)(T:G0 (G0 P3)):M6:=decide (XE s∈(jG s s).map λo=>YQ s o (je s T))&&((jG s s).map λo=>YQ s o (je s T)).all λx=>decide (x=XE s)||zy (XE s) x
theorem Dk {s:G7}{T:G0 (G0 P3)}(h3:s<=3)(ok:okS s T=true):Lst s (je s T) (XE s):=by
 unfold okS at ok;rw [C3,A1,N7] at ok;exact Mr (e:=1) (by omega) ok.1 λx hx=>by
  have:=ok.2 x hx;rw [X9,A1] at this;exact this
theorem EN: ∀ {s:G7},1<=s->s<=3->(vI s).all (λT=> !decide (wc s T=Yw s)||okS s T)=true/\(vI s).any (λT=>decide (wc s T=Yw s))=true
 |1,_,_=>by decide +kernel
 |2,_,_=>by decide +kernel
 |3,_,_=>by decide +kernel
theorem EO: ∀ {s:G7},1<=s->s<=3->(wv s).all (λT=> !decide (wc s T=Yw s)||okS s T)=true/\(wv s).any (λT=>decide (wc s T=Yw s))=true/\(wv s).all (λT=>decide (wc s T<=Yw s))=true
 |1,_,_=>by decide +kernel
 |2,_,_=>by decide +kernel
 |3,_,_=>by decide +kernel
end L2
namespace My
open PySem L2
def top (i:G7):L6:=PySem.Challenge.pw_firstpowers_k62_all_slowest_tables.main.body.getD i (.Pass ⟨0,0,0,0⟩)
abbrev Jj:L6:=top 8
theorem Uz:FnScope ["thing"] ["thing"] (jb Jj):=fsc
abbrev va:L6:=top 9
theorem Vp:FnScope ["thing","least","most"] ["thing","least","most"] (jb va):=fsc
abbrev Jk:L6:=top 10
theorem UA:FnScope ["thing","size"] ["thing","size"] (jb Jk):=fsc
abbrev yk:L6:=top 11
theorem vJ:FnScope ["thing","size","each"] ["thing","size"] (jb yk):=fsc
abbrev Jl:L6:=top 12
theorem UB:FnScope ["thing","size"] ["thing","size"] (jb Jl):=fsc
abbrev we:L6:=top 13
theorem yl:FnScope ["thing","size","number"] ["thing","size"] (jb we):=fsc
abbrev zA:L6:=top 14
theorem ww:FnScope ["thing","row"] ["thing"] (jb zA):=fsc
abbrev yn:L6:=top 15
theorem Yc:FnScope ["thing"] ["thing"] (jb yn):=fsc
abbrev yo:L6:=top 16
theorem Yd:FnScope ["table","thing"] ["table","thing"] (jb yo):=fsc
abbrev wI:L6:=top 17
theorem ZR:FnScope ["thing","least","most"] ["thing","least","most"] (jb wI):=fsc
abbrev yp:L6:=top 19
theorem zf:FnScope ["one","other","size","row","place","by"] ["one","other"] (jb yp):=fsc
abbrev Dl:L6:=top 21
theorem Dy:FnScope ["table","row","number"] ["table"] (jb Dl):=fsc
abbrev UC:L6:=top 22
theorem Ye:FnScope ["table","row","number"] ["table"] (jb UC):=fsc
abbrev ZD:L6:=top 23
theorem wx:FnScope ["table","order","olds","name","one","other"] ["table","order"] (jb ZD):=fsc
abbrev wJ:L6:=top 25
theorem ZS:FnScope ["ahead","table"] ["ahead","table"] (jb wJ):=fsc
abbrev zg:L6:=top 26
theorem jK:FnScope ["table","told","later"] ["table"] (jb zg):=fsc
abbrev vc:L6:=top 27
theorem Vq:FnScope ["table"] ["table"] (jb vc):=fsc
abbrev wK:L6:=top 29
theorem yM:FnScope ["table","at","each"] ["table"] (jb wK):=fsc
abbrev zP:L6:=top 31
theorem JH:FnScope ["size"] ["size"] (jb zP):=fsc
abbrev Jm:L6:=top 35
theorem wQ:FnScope ["things","many","told","step","row","thing"] ["things","many"] (jb Jm):=fsc
abbrev zl:L6:=top 36
theorem vK:FnScope ["size"] ["size"] (jb zl):=fsc
abbrev yq:L6:=top 37
theorem zH:FnScope ["size","told","step","order","place"] ["size"] (jb yq):=fsc
abbrev wL:L6:=top 38
theorem wf:FnScope ["table","marked","order"] ["table"] (jb wL):=fsc
abbrev zB:L6:=top 39
theorem zn:FnScope ["size","slowest","table"] ["size"] (jb zB):=fsc
abbrev vd:L6:=top 41
theorem Vr:FnScope ["_law_script","_law_k"] ["_law_script","_law_k"] (jb vd):=fsc
abbrev Jn:L6:=top 42
theorem ZE:FnScope ["_law_cell_here","_law_left"] ["_law_cell_here"] (jb Jn):=fsc
abbrev ve:L6:=top 43
theorem zW:FnScope ["_law_pen_here","_law_many","_law_left","_law_found","_law_stir"] ["_law_pen_here","_law_many"] (jb ve):=fsc
abbrev vf:L6:=top 44
theorem Vs:FnScope ["_law_found","_law_due"] ["_law_found","_law_due"] (jb vf):=fsc
abbrev yr:L6:=top 45
theorem jT:FnScope ["_law_one","_law_other","_law_size","_law_rows","_law_row","_law_place","_law_k"] ["_law_one","_law_other"] (jb yr):=fsc
abbrev wM:L6:=top 46
theorem wg:FnScope ["_law_table","_law_row","_law_number"] ["_law_table"] (jb wM):=fsc
abbrev wN:L6:=top 47
theorem yH:FnScope ["_law_table","_law_row"] ["_law_table"] (jb wN):=fsc
abbrev vg:L6:=top 48
theorem jr:FnScope ["_law_size","_law_rows","_law_turn","_law_found","_law_longer","_law_table","_law_row"] ["_law_size"] (jb vg):=fsc
abbrev vh:L6:=top 49
theorem zu:FnScope ["_law_table","_law_here","_law_found","_law_k"] ["_law_table"] (jb vh):=fsc
abbrev yt:L6:=top 50
theorem jp:FnScope ["_law_table","_law_some","_law_orders","_law_turn","_law_longer","_law_row","_law_found","_law_order","_law_place","_law_i","_law_j"] ["_law_table"] (jb yt):=fsc
abbrev yu:L6:=top 51
theorem jL:FnScope ["_law_size","_law_powers","_law_most","_law_due","_law_found","_law_table","_law_k"] ["_law_size"] (jb yu):=fsc
abbrev Qw:L6:=top 52
theorem Dm:FnScope ["_law_script","_law_cell_here","_law_pen_here"] ["_law_script"] (jb Qw):=fsc
section
variable {P:S9}{w:N2}{K:G4}{mg:Str->D0 G1}{base:B3}
/-- no def is asked of the script's list: a thing -/
def Do:D->M6
 | .int _=>true
 |_=>false
/-- a row of so many numbers from 0 on -/
def Lq:D->M6
 | .int i=>decide (0<=i)
 |_=>false
def MF (d:D)(k:P3):M6:=match d with
 | .tup ds=>decide ((ds.length:P3)=k)&&ds.all Lq
 |_=>false
/-! every part has a kind that is told,and no tuple is long -/
mutual
def okD:D->M6
 | .scr _=>false| .exc _=>false| .fn _=>false| .dct _=>false
 | .tup ds=>decide (ds.length<=1000)&&okDs ds
 |_=>true
def okDs:G0 D->M6
 | []=>true
 |d::ds=>okD d&&okDs ds
end
theorem XF: ∀ {ds:G0 D},okDs ds=true-> ∀d∈ds,okD d=true
 |d::ds,h,x,hx=>by
  have h':(okD d&&okDs ds)=true:=h;rw [C3] at h';rcases S5.mp hx with e|e
  ·subst e;exact h'.1
  ·exact XF h'.2 x e
theorem Dp: ∀ {ds:G0 D},(∀d∈ds,okD d=true)->okDs ds=true
 | [],_=>rfl
 |d::ds,h=>by
  show (okD d&&okDs ds)=true;rw [h d P8,Dp λx hx=>h x (R6 _ hx)];rfl
theorem UD {ds:G0 D}(h:okD (.tup ds)=true):ds.length<=1000/\ ∀d∈ds,okD d=true:=by
 have h':(decide (ds.length<=1000)&&okDs ds)=true:=h;rw [C3] at h';exact⟨N0 h'.1,XF h'.2⟩
theorem XG {ds:G0 D}(h:ds.length<=1000)(h2: ∀d∈ds,okD d=true):okD (.tup ds)=true:=by
 show (decide (ds.length<=1000)&&okDs ds)=true;rw [D7 h,Dp h2];rfl
theorem vL {d:D}(h:okD d=true): ∃n,YI d=some n:=by
 cases d<;>first|exact⟨_,rfl⟩|cases h
/-- a table -/
def BQ:D->M6
 | .tup rs=>decide (1<=rs.length)&&decide (rs.length<=6)&&rs.all λr=>MF r rs.length
 |_=>false
def vi:RDn:=λds h Q=> ∃d n,ds= [d]/\YI d=some n/\Q (.bl (Do d)) h
variable {n:G7}{f:P1}{fd:T7}
theorem UE (Z:Zs mg)(F:Fun K "is_whole" "is_whole" Jj f fd):FnOk P w K mg base CX0 (n+1) f fd ["thing"] (LSp K vi):=by
 refine F.okM Uz (λhr=>(jE (wq (BO (GL (T:= "int") (by decide) rfl Z.isinstance rfl Z.int (by decide +kernel) (jv 0)) (NI (Er (GL (T:= "bool") (by decide) rfl Z.isinstance rfl Z.bool (by decide +kernel) (jv 0)))))))) ?_;rintro ds h Q ⟨d,nm,rfl,hn,q⟩;refine⟨rfl,?_⟩;simp only [DR,DO,dIs,Mc,wS,F9,a7,S4,A9,W7,K8,K7,Y7,D.bl.injEq,DP,DT,aP,hn];cases d<;>cases hn<;>exact⟨h,Sub.refl h,q⟩
def yw:RDn:=λds h Q=> ∃d,∃a b:P3,ds= [d,.int a,.int b]/\okD d=true/\Q (.bl (yV d a b)) h
theorem Vt (Z:Zs mg)(F:Fun K "is_within" "is_within" va f fd)(Jr:jj P w K mg base n "is_whole" ["thing"] vi):FnOk P w K mg base CX0 (n+1) f fd ["thing","least","most"] (LSp K yw):=by
 refine F.okM Vp (λhr=>(jE (wq (BO (jk Jr hr (j1 (jv 0))) (NI (FA DV DV (jv 1) (jv 0) (jv 2))))))) ?_;rintro ds h Q ⟨d,a,b,rfl,ok,q⟩;refine⟨rfl,?_⟩;obtain⟨nm,hn⟩:=vL ok;refine⟨_,rfl,d,nm,rfl,hn,Do d,rfl,?_⟩;cases d with
 |int x=>
  refine QJ ⟨_,rfl,_,rfl,_,rfl,?_⟩;show if decide (a<=x)=true then _ else _
  by_cases h1:a<=x
  ·rw [D7 h1];simp only [yV,D7 h1,gZ] at q;exact QJ ⟨_,rfl,h,Sub.refl h,q⟩
  ·rw [T1 h1];simp only [yV,T1 h1,fQ] at q;exact VQ ⟨h,Sub.refl h,q⟩
 |_=>exact VQ ⟨h,Sub.refl h,q⟩
def ZF:RDn:=λds h Q=> ∃d,∃n:P3,ds= [d,.int n]/\okD d=true/\Q (.bl (yV d 0 (n-1))) h
theorem UF (Z:Zs mg)(F:Fun K "is_place" "is_place" Jk f fd)(vk:jj P w K mg base n "is_within" ["thing","least","most"] yw):FnOk P w K mg base CX0 (n+1) f fd ["thing","size"] (LSp K ZF):=by
 refine F.okM UA (λhr=>(jE (wq (jk vk hr (j3 (jv 0) zc (jop YG (jv 1) zc)))))) ?_;rintro ds h Q ⟨d,k,rfl,ok,q⟩;refine⟨rfl,?_⟩;exact⟨_,rfl,_,rfl,d,0,k-1,rfl,ok,h,Sub.refl h,q⟩
def vM:RDn:=λds h Q=> ∃d,∃n:P3,ds= [d,.int n]/\okD d=true/\Q (.bl (WP d n)) h
theorem Yf (Z:Zs mg)(F:Fun K "are_places" "are_places" yk f fd)(QB:jj P w K mg base n "is_place" ["thing","size"] ZF):FnOk P w K mg base CX0 (n+1) f fd ["thing","size"] (LSp K vM):=by
 refine F.okM vJ (λhr=>(jE (wq (BO (GL (T:= "tuple") (by decide) rfl Z.isinstance rfl Z.tuple (by decide +kernel) (jv 0)) (NI (zq (Xb rfl) rfl Z.all Y2 (j1 (jl0 2 vJ (jB (jv 0)) (λ_ _ _ _=>(jk QB hr (j2 (jv 2) (jv 1)))))))))))) ?_;rintro ds h Q ⟨d,k,rfl,ok,q⟩;refine⟨rfl,?_⟩;obtain⟨nm,hn⟩:=vL ok;refine⟨_,rfl,nm,hn,?_⟩;cases d with
 |tup es=>
  cases hn;obtain⟨hl,ht⟩:=UD ok;refine⟨_,rfl,QJ ?_⟩;exact Ex es (λx=>x) (λx=>yV x 0 (k-1)) hl (by rw [List.map_id']) (λR r=>⟨_,rfl,r⟩) (λx hx Q' q'=>⟨_,rfl,_,rfl,x,k,rfl,ht x hx,q'⟩) ⟨h,Sub.refl h,q⟩
 |_=>cases hn<;>exact⟨_,rfl,VQ ⟨h,Sub.refl h,q⟩⟩
theorem Wp: ∀ {a b:G0 C7},B5 a b=true->a.length=b.length
 | [],[],_=>rfl
 | [],_::_,h=>by simp [B5] at h
 |_::_,[],h=>by simp [B5] at h
 |x::a,y::b,h=>by
  have h2:(C0 x y&&B5 a b)=true:=h;rw [S4,S4,Wp (Bool.and_eq_true_iff.mp h2).2]
def EQ (n:G7)(d:D):Prop:=(okD d=true/\WP d (n:P3)=false)\/ ∃o:G0 G7,d=zR o/\(∀x∈o,x<n)/\o.length<=60/\o.length≠n
def ZG:RDn:=λds h Q=> ∃d,∃n:G7,ds= [d,.int (n:P3)]/\n<=6/\((∃o,d=zR o/\Ordr n o/\Q (.bl true) h)\/(EQ n d/\Q (.bl false) h))
theorem UG (Z:Zs mg)(F:Fun K "is_order" "is_order" Jl f fd)(VF:jj P w K mg base n "are_places" ["thing","size"] vM):FnOk P w K mg base CX0 (n+1) f fd ["thing","size"] (LSp K ZG):=by
 refine F.okM UB (λhr=>(jE (wq (BO (jk VF hr (j2 (jv 0) (jv 1))) (NI (jc1 (GI hr.units) (zq GK rfl Z.sorted (by decide +kernel) (j1 (jv 0))) (OF rfl rfl Z.list rfl Z.range (j1 (jv 1))))))))) ?_;rintro ds h Q ⟨d,k,rfl,hk,q⟩;refine⟨rfl,?_⟩;rcases q with ⟨o,rfl,ho,q⟩|⟨⟨ok,bad⟩|⟨o,rfl,hlt,hle,hne⟩,q⟩
 ·have hlen:o.length=k:=ho.ord.len;have hle:o.length<=60:=by omega
  have hlt: ∀x∈o,x<k:=λx hx=>P6.mp (ho.mem_iff.mp hx)
  have okO:okD (zR o)=true:=XG (by rw [G3];omega) λd hd=>by obtain⟨x,_,rfl⟩:=R1.mp hd;rfl
  have plO:WP (zR o) (k:P3)=true:=by
   show (o.map _).all _=true;rw [N7];intro x hx;obtain⟨i,hi,rfl⟩:=R1.mp hx;have:=hlt i hi;show (decide ((0:P3)<=(i:P3))&&decide ((i:P3)<=(k:P3)-1))=true;rw [D7 (show (0:P3)<=(i:P3) by omega),D7 (show (i:P3)<=(k:P3)-1 by omega)];rfl
  have hlc:(zi o).length<=60:=by unfold zi;rw [G3];exact hle
  refine⟨_,rfl,_,rfl,zR o,(k:P3),rfl,okO,?_⟩;rw [plO];refine⟨_,rfl,QJ ⟨_,rfl,zi o,E1 (by rw [WJ]),by omega,λp1 ns' e1 hp hpw=>⟨_,rfl,k,rfl,by omega,λp2 e2=> ?_⟩⟩⟩;have er:((G6 k).map λ(i:G7)=>D.int (i:P3))=(zi (G6 k)).map D.int:=by unfold zi;rw [T6];rfl
  refine⟨.list (ns'.map .int),.list ((zi (G6 k)).map .int),⟨p1,_,rfl,jt ja e2,zK _ _⟩,⟨p2,_,rfl,by rw [ja,er],zK _ _⟩,wE _,wE _,h,Sub.newAt (Sub.newAt (Sub.refl h) e1) e2,?_⟩;have ee:C0 (.list (ns'.map .int)) (.list ((zi (G6 k)).map .int))=true:=by
   have es:ns'=zi (G6 k):=List.Perm.eq_of_pairwise (le:=λ(x y:P3)=>x<=y) (λ_ _ _ _ a b=>Int.le_antisymm a b) hpw (YR k) (hp.trans (ho.map _));rw [es];exact Zv _
  rw [ee];exact q
 ·refine⟨_,rfl,_,rfl,d,(k:P3),rfl,ok,?_⟩;rw [bad];exact⟨_,rfl,VQ ⟨h,Sub.refl h,q⟩⟩
 ·skip
  have okO:okD (zR o)=true:=XG (by rw [G3];omega) λd hd=>by obtain⟨x,_,rfl⟩:=R1.mp hd;rfl
  have plO:WP (zR o) (k:P3)=true:=by
   show (o.map _).all _=true;rw [N7];intro x hx;obtain⟨i,hi,rfl⟩:=R1.mp hx;have:=hlt i hi;show (decide ((0:P3)<=(i:P3))&&decide ((i:P3)<=(k:P3)-1))=true;rw [D7 (show (0:P3)<=(i:P3) by omega),D7 (show (i:P3)<=(k:P3)-1 by omega)];rfl
  have hlc:(zi o).length<=60:=by unfold zi;rw [G3];exact hle
  refine⟨_,rfl,_,rfl,zR o,(k:P3),rfl,okO,?_⟩;rw [plO];refine⟨_,rfl,QJ ⟨_,rfl,zi o,E1 (by rw [WJ]),by omega,λp1 ns' e1 hp hpw=>⟨_,rfl,k,rfl,by omega,λp2 e2=> ?_⟩⟩⟩;have er:((G6 k).map λ(i:G7)=>D.int (i:P3))=(zi (G6 k)).map D.int:=by unfold zi;rw [T6];rfl
  refine⟨.list (ns'.map .int),.list ((zi (G6 k)).map .int),⟨p1,_,rfl,jt ja e2,zK _ _⟩,⟨p2,_,rfl,by rw [ja,er],zK _ _⟩,wE _,wE _,h,Sub.newAt (Sub.newAt (Sub.refl h) e1) e2,?_⟩;have ee:C0 (.list (ns'.map .int)) (.list ((zi (G6 k)).map .int))=false:=by
   cases hb:C0 (.list (ns'.map .int)) (.list ((zi (G6 k)).map .int)) with
   |false=>rfl
   |true=>
    have:=Wp (show B5 (ns'.map .int) ((zi (G6 k)).map .int)=true from hb);rw [G3,G3,hp.length_eq] at this;unfold zi at this;rw [G3,G3,D6] at this;exact absurd this hne
  rw [ee];exact q
def yx:RDn:=λds h Q=> ∃d k,ds= [d,.int k]/\okD d=true/\Q (.bl (MF d k)) h
theorem ZH (Z:Zs mg)(F:Fun K "is_table_row" "is_table_row" we f fd)(Jr:jj P w K mg base n "is_whole" ["thing"] vi):FnOk P w K mg base CX0 (n+1) f fd ["thing","size"] (LSp K yx):=by
 refine F.okM yl (λhr=>(js2 (Df (jpt (Av (YN (WF (GL (T:= "tuple") (by decide) rfl Z.isinstance rfl Z.tuple (by decide +kernel) (jv 0)))) (Au (jt1 Nz (Qt Z (jv 0)) (jv 1))))) (wq jbl)) (wq (zq (Xb rfl) rfl Z.all Y2 (j1 (jl0 2 yl (jB (jv 0)) (λ_ _ _ _=>(BO (jk Jr hr (j1 (jv 2))) (NI (jc1 Fi (jv 2) zc)))))))))) ?_;rintro ds h Q ⟨d,k,rfl,ok,q⟩;refine⟨rfl,?_⟩;obtain⟨nm,hn⟩:=vL ok;simp only [yP,Nj,CL,Gu,JD,dIs,Mc,wS,F9,a7,S4,A9,T8,W7,K8,K7,Y7,D.bl.injEq,DR,dC,DT,VW,dCB,jZ,Zk,dOp,BN,X0,neD,aP,hn];cases d with
 |tup es=>
  cases hn;obtain⟨hl,ht⟩:=UD ok;simp only [Fm]
  by_cases hk:(es.length:P3)=k
  ·simp only [hk];simp;refine GE (ds:=es) (h1:=h) (j:=λ_=>some es) (λx=> .bl (Lq x)) (M3 (jC hl)) rfl (λR r=>⟨.tup es,rfl,r⟩) (λd hd Q' q'=> ?_) (λp hp=> ?_)
   ·obtain⟨nn,hnn⟩:=vL (ht d hd);refine⟨d,rfl,d,nn,rfl,hnn,Do d,rfl,?_⟩;cases d with
    |int i=>exact QJ ⟨.int i,rfl,q'⟩
    |_=>exact VQ q'
   ·refine⟨p,es.map Lq,rfl,by rw [ja];simp,h,?_,?_⟩
    ·rw [wo hp];exact Sub.refl h
    ·simpa [MF,hk,X3,a9] using q
  ·simp [hk];exact⟨h,Sub.refl h,by simpa [MF,hk] using q⟩
 |_=>cases hn<;>exact⟨h,Sub.refl h,q⟩
def wz:RDn:=λds h Q=> ∃d,ds= [d]/\okD d=true/\Q (.bl (BQ d)) h
theorem Jo (Z:Zs mg)(F:Fun K "has_table_form" "has_table_form" zA f fd)(ZZ:jj P w K mg base n "is_table_row" ["thing","size"] yx)(zm: ∃tk,mg "MOST_ROWS" =some (.int 6 tk)):FnOk P w K mg base CX0 (n+1) f fd ["thing"] (LSp K wz):=by
 obtain⟨tk_MOST_ROWS,m_MOST_ROWS⟩:=zm;refine F.okM ww (λhr=>(js2 (Df (jpt (Av (YN (WF (GL (T:= "tuple") (by decide) rfl Z.isinstance rfl Z.tuple (by decide +kernel) (jv 0)))) (Au (YN (NH DV DV zc (Qt Z (jv 0)) (Rc rfl m_MOST_ROWS)))))) (wq jbl)) (wq (zq (Xb rfl) rfl Z.all Y2 (j1 (jl0 1 ww (jB (jv 0)) (λ_ _ _ _=>(jk ZZ hr (j2 (jv 1) (Qt Z (jv 0))))))))))) ?_;rintro ds h Q ⟨d,rfl,ok,q⟩;refine⟨rfl,?_⟩;obtain⟨nm,hn⟩:=vL ok;simp only [yP,Nj,CL,Gu,JD,dIs,Mc,wS,F9,a7,S4,A9,T8,W7,K8,K7,Y7,D.bl.injEq,DR,dC,DT,VW,dCB,jZ,Zk,Zl,BN,Mg,aP,hn];cases d with
 |tup es=>
  cases hn;obtain⟨hl,ht⟩:=UD ok;simp only [Fm]
  by_cases h1:1<=es.length
  ·by_cases h6:es.length<=6
   ·have h1':(1:P3)<=es.length:=by omega
    have h6':(es.length:P3)<=6:=by omega
    simp [h1',h6'];refine GE (ds:=es) (h1:=h) (j:=λ_=>some es) (λx=> .bl (MF x es.length)) (M3 (jC hl)) rfl (λR r=>⟨.tup es,rfl,r⟩) (λd hd Q' q'=> ?_) (λp hp=> ?_)
    ·exact⟨d,rfl,.tup es,rfl,d,es.length,rfl,ht d hd,q'⟩
    ·refine⟨p,es.map λx=>MF x es.length,rfl,by rw [ja];simp,h,?_,?_⟩
     ·rw [wo hp];exact Sub.refl h
     ·simpa [BQ,h1,h6,X3,a9] using q
   ·have h1':(1:P3)<=es.length:=by omega
    have h6': ¬ (es.length:P3)<=6:=by omega
    simp [h1',h6'];exact⟨h,Sub.refl h,by simpa [BQ,h1,h6] using q⟩
  ·have h1': ¬ (1:P3)<=es.length:=by omega
   simp [h1'];exact⟨h,Sub.refl h,by simpa [BQ,h1] using q⟩
 |_=>cases hn<;>exact⟨h,Sub.refl h,q⟩
theorem By {x:P3}(h:0<=x):Lq (.int x)=true:=D7 h
variable {T:G0 (G0 P3)}
theorem Bz {e:G7}(h:Sq n e T){r:G0 P3}(hr:r∈T):MF (zJ r) n=true:=by
 simp only [MF,zJ,G3,h.row r hr,pG,gZ,X3,N7,A0];intro x hx;exact By (h.nn r hr x hx)
theorem BA {e:G7}(h:Sq n e T)(h1:1<=n)(h6:n<=6):BQ (jf T)=true:=by
 simp only [BQ,jf,G3,h.len,D7 h1,D7 h6,gZ,X3,N7,A0];intro r hr;exact Bz h hr
theorem FY {e:G7}(h:Sq n e T)(h6:n<=6):okD (jf T)=true:=
 XG (by rw [G3,h.len];omega) λd hd=>by
  obtain⟨r,hr,rfl⟩:=R1.mp hd;exact XG (by rw [G3,h.row r hr];omega) λd hd=>by obtain⟨x,_,rfl⟩:=R1.mp hd;rfl
def zh:RDn:=λds h Q=> ∃T,∃n e:G7,ds= [jf T]/\Sq n e T/\1<=n/\n<=6/\Q .non h
theorem Yg (Z:Zs mg)(F:Fun K "want_table" "want_table" yn f fd)(JK:jj P w K mg base n "has_table_form" ["thing"] wz):FnOk P w K mg base CX0 (n+1) f fd ["thing"] (LSp K zh):=by
 refine F.okM Yc (λhr=>(jE (Df (YN (WF (jk JK hr (j1 (jv 0))))) Xd))) ?_;rintro ds h Q ⟨T,k,b,rfl,hT,h1,h6,q⟩;refine⟨rfl,?_⟩;refine⟨_,rfl,jf T,rfl,FY hT h6,_,rfl,?_⟩;rw [BA hT h1 h6];exact VQ ⟨h,Sub.refl h,q⟩
def vN:RDn:=λds h Q=> ∃ (T:G0 (G0 P3)) (o:G0 G7) (n:G7),ds= [jf T,zR o]/\T.length=n/\Ordr n o/\n<=6/\Q .non h
theorem Yh (Z:Zs mg)(F:Fun K "want_order" "want_order" yo f fd)(Qz:jj P w K mg base n "is_order" ["thing","size"] ZG):FnOk P w K mg base CX0 (n+1) f fd ["table","thing"] (LSp K vN):=by
 refine F.okM Yd (λhr=>(jE (Df (YN (WF (jk Qz hr (j2 (jv 1) (Qt Z (jv 0)))))) Xd))) ?_;rintro ds h Q ⟨T,o,k,rfl,hT,ho,h6,q⟩;refine⟨rfl,?_⟩;refine⟨_,rfl,_,rfl,_,k,by rw [G3,hT],h6,.inl ⟨o,rfl,ho,_,rfl,?_⟩⟩;exact VQ ⟨h,Sub.refl h,q⟩
def wj:RDn:=λds h Q=> ∃k lo hi:P3,ds= [.int k,.int lo,.int hi]/\lo<=k/\k<=hi/\Q .non h
theorem ZT (Z:Zs mg)(F:Fun K "want_number" "want_number" wI f fd)(vk:jj P w K mg base n "is_within" ["thing","least","most"] yw):FnOk P w K mg base CX0 (n+1) f fd ["thing","least","most"] (LSp K wj):=by
 refine F.okM ZR (λhr=>(jE (Df (YN (WF (jk vk hr (j3 (jv 0) (jv 1) (jv 2))))) Xd))) ?_;rintro ds h Q ⟨k,lo,hi,rfl,h1,h2,q⟩;refine⟨rfl,?_⟩;refine⟨_,rfl,_,rfl,_,rfl,.int k,lo,hi,rfl,rfl,_,rfl,?_⟩;have e0:yV (.int k) lo hi=true:=by
  show (decide (lo<=k)&&decide (k<=hi))=true;rw [D7 h1,D7 h2];rfl
 rw [e0];exact VQ ⟨h,Sub.refl h,q⟩
def vO:RDn:=λds h Q=> ∃T U,∃n e f:G7,ds= [jf T,jf U]/\Sq n e T/\Sq n f U/\e+f<=1000000/\n<=6/\Q (jf (yf n T U)) h
theorem Yi (Z:Zs mg)(F:Fun K "multiplied" "multiplied" yp f fd):FnOk P w K mg base CX0 (n+1) f fd ["one","other"] (LSp K vO):=by
 refine F.okM zf (λhr=>(js2 (jse 2 zf (Qt Z (jv 0))) (wq (zd jP rfl Z.tuple (by decide +kernel) (j1 (jl0 3 zf (jB (jv 0)) (λ_ _ _ _=>(zd jP rfl Z.tuple (by decide +kernel) (j1 (jl0 4 zf (jrg Z (jv 2)) (λ_ _ _ _=>(zq (GJ rfl) rfl Z.sum (by decide +kernel) (j1 (jl0 5 zf (jrg Z (jv 2)) (λ_ _ _ _=>(jop GQ (ji1 (jv 3) (jv 5)) (ji1 (ji1 (jv 1) (jv 5)) (jv 4)))))))))))))))))) ?_;rintro ds h Q ⟨T,U,k,b,f,rfl,hT,hU,hb,h6,q⟩;refine⟨rfl,?_⟩;refine jw (λrD h'=>rD= [some (jf T),some (jf U),some (.int (k:P3)),none,none,none]/\h=h') (λC hC=>⟨_,rfl,hC _ _ ⟨by rw [G3,hT.len];rfl,rfl⟩⟩) ?_;rintro _ _ ⟨rfl,rfl⟩;refine GR T zJ (λr=> .tup ((G6 k).map λj=> .int (jz k λm=>r.getD m 0*ent U m j))) (by rw [hT.len];omega) rfl (λR r=>⟨_,rfl,r⟩) (λr hr Q' q'=> ?_) ⟨h,Sub.refl h,?_⟩
 ·refine GR (G6 k) (λj=> .int (j:P3)) (λj=> .int (jz k λm=>r.getD m 0*ent U m j)) (by rw [D6];omega) rfl (λR rr=>⟨_,rfl,(k:P3),rfl,by omega,by omega,rr⟩) (λj hj Q'' q''=> ?_) q';refine Ay (G6 k) (λm=> .int (m:P3)) (λm=>r.getD m 0*ent U m j) (by rw [D6];omega) rfl (λR rr=>⟨_,rfl,(k:P3),rfl,by omega,by omega,rr⟩) (λm hm Q3 q3=> ?_) q'';have hm':=P6.mp hm;have hj':=P6.mp hj;refine⟨_,rfl,_,rfl,_,Jc (hT.row r hr) hm',_,rfl,_,rfl,_,WL hU hm',_,rfl,_,Jc (hU.row _ (Sq.getRow hU hm')) hj',?_,q3⟩;refine Xf (e:=b) (f:=f) ?_ (hU.ent_nn hm' hj') (by omega);have hm2:m<r.length:=by rw [hT.row r hr];exact hm'
  have e1:r.getD m 0=r[m]:=by rw [D5,P2 hm2];rfl
  rw [e1];exact⟨hT.nn r hr _ (C5 hm2),hT.bit r hr _ (C5 hm2)⟩
 ·rw [Xg hT];exact q
def Dq:RDn:=λds h Q=> ∃T,∃n e:G7,ds= [jf T]/\Sq n e T/\1<=n/\n<=6/\Q (.bl (jF T)) h
theorem BB (Z:Zs mg)(F:Fun K "full" "full" Dl f fd)(jQ:jj P w K mg base n "want_table" ["thing"] zh):FnOk P w K mg base CX0 (n+1) f fd ["table"] (LSp K Dq):=by
 refine F.okM Dy (λhr=>(js2 (Zr (jk jQ hr (j1 (jv 0)))) (wq (zq (Xb rfl) rfl Z.all Y2 (j1 (Et (i:=1) (i':=2) (js:= [1,2]) rfl (jR (by rfl)) (jB (jv 0)) (by decide) (by decide) (by decide) Dy.nd rfl rfl (by first|exact E1 rfl|exact Q2 rfl) (by first|exact E1 rfl|exact Q2 rfl) (λX' hX=>ye) (λX' hX=>by obtain⟨C,s₀,H₀,ex,rfl⟩:=hX;exact(jB (jv 1))) (λX' hX=>ye) (λX' hX=>by obtain⟨C,s₀,H₀,ex,rfl⟩:=hX;exact(jc1 Nz (jv 2) zc)))))))) ?_;rintro ds h Q ⟨T,k,b,rfl,hT,h1,h6,q⟩;refine⟨rfl,?_⟩;refine zO [some (jf T),none,none] (λC hC=>⟨_,rfl,T,k,b,rfl,hT,h1,h6,hC⟩) ?_;refine Ey T zJ (λr=>r) D.int (λ_ x=>decide (x≠0)) (Ri hT h6) rfl (λR r=>⟨_,rfl,r⟩) (λr hr R rr=>⟨_,rfl,rr⟩) (λr hr x hx Q' q'=>⟨_,rfl,?_⟩) ⟨h,Sub.refl h,q⟩;show Q' (.bl (!decide (x=0))) h;have e:(!decide (x=0))=decide (x≠0):=by simp
 rw [e];exact q'
def JZ:RDn:=λds h Q=> ∃T,∃n e:G7,ds= [jf T]/\Sq n e T/\1<=n/\n<=6/\Q (jf (je n T)) h
theorem RS (Z:Zs mg)(F:Fun K "marks" "marks" UC f fd)(jQ:jj P w K mg base n "want_table" ["thing"] zh):FnOk P w K mg base CX0 (n+1) f fd ["table"] (LSp K JZ):=by
 refine F.okM Ye (λhr=>(js2 (Zr (jk jQ hr (j1 (jv 0)))) (wq (zd jP rfl Z.tuple (by decide +kernel) (j1 (jl0 1 Ye (jB (jv 0)) (λ_ _ _ _=>(zd jP rfl Z.tuple (by decide +kernel) (j1 (jl0 2 Ye (jB (jv 1)) (λ_ _ _ _=>(jif (jt1 Nz (jv 2) zc) zc zc)))))))))))) ?_;rintro ds h Q ⟨T,k,b,rfl,hT,h1,h6,q⟩;refine⟨rfl,?_⟩;refine zO [some (jf T),none,none] (λC hC=>⟨_,rfl,T,k,b,rfl,hT,h1,h6,hC⟩) ?_;refine GR T zJ (λr=> .tup (r.map λx=> .int (if x≠0 then 1 else 0))) (by rw [hT.len];omega) rfl (λR r=>⟨_,rfl,r⟩) (λr hr Q' q'=> ?_) ⟨h,Sub.refl h,?_⟩
 ·refine GR r D.int (λx=> .int (if x≠0 then 1 else 0)) (by rw [hT.row r hr];omega) rfl (λR r=>⟨_,rfl,r⟩) (λx hx Q'' q''=>⟨_,rfl,_,rfl,?_⟩) q'
  by_cases z:x=0
  ·subst z;exact VQ q''
  ·have e:(!decide (x=0))=true:=by simp [z]
   rw [e];rw [R0 z] at q'';exact QJ q''
 ·rw [GS,<-GT hT];exact q
def Wq:RDn:=λds h Q=> ∃T,∃n e:G7,∃o,ds= [jf T,zR o]/\Sq n e T/\Ordr n o/\1<=n/\n<=6/\Q (jf (YQ n o T)) h
theorem Qx (Z:Zs mg)(F:Fun K "renamed" "renamed" ZD f fd)(jQ:jj P w K mg base n "want_table" ["thing"] zh)(VH:jj P w K mg base n "want_order" ["table","thing"] vN):FnOk P w K mg base CX0 (n+1) f fd ["table","order"] (LSp K Wq):=by
 refine F.okM wx (λhr=>(js4 (Zr (jk jQ hr (j1 (jv 0)))) (Zr (jk VH hr (j2 (jv 0) (jv 1)))) (jse 2 wx (jl0 3 wx (jrg Z (Qt Z (jv 0))) (λ_ _ _ _=>(Ev (jv 1) (jv 3))))) (wq (zd jP rfl Z.tuple (by decide +kernel) (j1 (jl0 4 wx (jB (jv 2)) (λ_ _ _ _=>(zd jP rfl Z.tuple (by decide +kernel) (j1 (jl0 5 wx (jB (jv 2)) (λ_ _ _ _=>(ji1 (ji1 (jv 0) (jv 4)) (jv 5))))))))))))) ?_;rintro ds h Q ⟨T,k,b,o,rfl,hT,ho,h1,h6,q⟩;refine⟨rfl,?_⟩;refine zO [some (jf T),some (zR o),none,none,none,none] (λC hC=>⟨_,rfl,T,k,b,rfl,hT,h1,h6,hC⟩) ?_;refine zO [some (jf T),some (zR o),none,none,none,none] (λC hC=>⟨_,rfl,_,rfl,T,o,k,rfl,hT.len,ho,h6,hC⟩) ?_;have lt: ∀i,i∈G6 k->o.idxOf i<k:=λi hi=>ho.ord.lt (P6.mp hi)
 refine jw (λrD h'=> ∃p,rD= [some (jf T),some (zR o),some (.lst p),none,none,none]/\h p=none/\h'=wC h p ((G6 k).map λi=> .int ((o.idxOf i:G7):P3))) (λC hC=> ?_) ?_
 ·refine lcA (G6 k) (λj=> .int (j:P3)) (λi=> .int ((o.idxOf i:G7):P3)) (by rw [D6];omega) rfl (λR r=>⟨_,rfl,(k:P3),by rw [G3,hT.len],by omega,by omega,r⟩) (λi hi Q' q'=> ?_) (λp hp=>hC _ _ ⟨p,rfl,hp,rfl⟩);refine⟨_,rfl,zi o,WJ o,_,rfl,(i:P3),rfl,Rh (ho.mem_iff.mpr hi),?_⟩;rw [Rg];exact q'
 rintro _ _ ⟨p,rfl,hp,rfl⟩;refine GR (j:=λh=>h p) (G6 k) (λi=> .int ((o.idxOf i:G7):P3)) (λi=> .tup ((G6 k).map λj=> .int (ent T (o.idxOf i) (o.idxOf j)))) (by rw [D6];omega) ja (λR r=>⟨_,rfl,r⟩) (λi hi Q' q'=> ?_) ⟨h,Sub.newAt (Sub.refl h) hp,?_⟩
 ·refine GR (j:=λh=>h p) (G6 k) (λi=> .int ((o.idxOf i:G7):P3)) (λj=> .int (ent T (o.idxOf i) (o.idxOf j))) (by rw [D6];omega) ja (λR r=>⟨_,rfl,r⟩) (λj hj Q'' q''=> ?_) q';exact⟨_,rfl,_,rfl,_,WL hT (lt i hi),_,rfl,_,Jc (hT.row _ (Sq.getRow hT (lt i hi))) (lt j hj),q''⟩
 ·rw [Mo];exact q
def yI:RDn:=λds h Q=> ∃M T,∃n e:G7,ds= [jf M,jf T]/\Sq n 1 M/\Sq n e T/\1<=n/\n<=6/\e<=1000/\Q (jf (mk1 n T M)) h
theorem ZU (Z:Zs mg)(F:Fun K "marks_after" "marks_after" wJ f fd)(ZL:jj P w K mg base n "marks" ["table"] JZ)(VG:jj P w K mg base n "multiplied" ["one","other"] vO):FnOk P w K mg base CX0 (n+1) f fd ["ahead","table"] (LSp K yI):=by
 refine F.okM ZS (λhr=>(jE (wq (jk ZL hr (j1 (jk VG hr (j2 (jv 0) (jv 1)))))))) ?_;rintro ds h Q ⟨M,T,n,b,rfl,hM,hT,h1,h6,hb,q⟩;refine⟨rfl,?_⟩;exact⟨_,rfl,_,rfl,M,T,n,1,b,rfl,hM,hT,by omega,h6,yf n M T,n,_,rfl,hM.mul hT (by omega),h1,h6,h,Sub.refl h,q⟩
def zQ:RDn:=λds h Q=> ∃T,∃n e:G7,ds= [jf T]/\Sq n e T/\1<=n/\n<=6/\e<=1000/\ ∀A L J h',h A=none->h' A=some ((G6 L).map λi=>jf (zN n T i))->Sub h h'->Course n T L J->L<=2225->Q (.tup [.lst A,.int ((J:G7):P3)]) h'
theorem vj (Z:Zs mg)(F:Fun K "marks_and_return" "marks_and_return" zg f fd)(ZL:jj P w K mg base n "marks" ["table"] JZ)(vU:jj P w K mg base n "marks_after" ["ahead","table"] yI):FnOk P w K mg base CX0 (n+1) f fd ["table"] (LSp K zQ):=by
 refine F.okM jK (λhr=>(js4 (jse 1 jK (XX (j1 (jk ZL hr (j1 (jv 0)))))) (jse 2 jK (jk vU hr (j2 (ji1 (jv 1) (Eu zc)) (jv 0)))) (FD F5 (Re (WM hr.units) (jv 2) (jv 1) (by with_unfolding_all rfl)) (js2 (Zr (Lm (jv 1) (jv 2))) (jse 2 jK (jk vU hr (j2 (jv 2) (jv 0)))))) (wq (Ua (j2 (jv 1) (EB hr.units (jv 1) (jv 2))))))) ?_;rintro ds h Q ⟨T,n,bb,rfl,hT,h1,h6,hb,q⟩;refine⟨rfl,?_⟩;refine jw (λrD h'=> ∃A,rD= [some (jf T),some (.lst A),none]/\h A=none/\h' A=some ((G6 1).map λi=>jf (zN n T i))/\Sub h h') (λC hC=>⟨_,rfl,T,n,bb,rfl,hT,h1,h6,sz1,λA eA=>hC _ _ ⟨A,rfl,eA,ja,Sub.newAt (Sub.refl h) eA⟩⟩) ?_;rintro _ h1' ⟨A,rfl,fA,kA,sbA⟩;refine zO [some (jf T),some (.lst A),some (jf (zN n T 1))] (λC hC=>⟨_,rfl,_,_,kA,Pe (by decide),_,rfl,zN n T 0,T,n,bb,rfl,WO n T 0,hT,h1,h6,hb,hC⟩) ?_;refine jw (λrD h'=> ∃L,rD= [some (jf T),some (.lst A),some (jf (zN n T L))]/\h' A=some ((G6 L).map λi=>jf (zN n T i))/\Sub h h'/\L<=2225/\((G6 L).map (zN n T)).Nodup/\zN n T L∈(G6 L).map (zN n T)) (λC hC=> ?_) ?_
 ·refine Rm (λm rD h'=> ∃L,rD= [some (jf T),some (.lst A),some (jf (zN n T L))]/\h' A=some ((G6 L).map λi=>jf (zN n T i))/\Sub h h'/\m=2226-L/\((G6 L).map (zN n T)).Nodup) _ ⟨_,rfl,kA,sbA,rfl,by simp⟩ ?_;rintro m _ h2 ⟨L,rfl,kA2,sb2,hm,nd⟩;have hL:=Pg hT h1 h6 nd;have kA3:h2 A=some (((G6 L).map (zN n T)).map jf):=by rw [kA2,T6];rfl
  refine⟨_,rfl,_,rfl,FE Az kA3 λbo hbo=>⟨_,rfl,BJ (λc=> ?_) (λc=> ?_)⟩⟩
  rotate_left
  ·refine hC _ _ ⟨L,rfl,kA2,sb2,hL,nd,hbo.mp ?_⟩;cases bo with
   |true=>rfl
   |false=>exact absurd rfl c
  have hni:zN n T L ∉ (G6 L).map (zN n T):=λz=>by rw [hbo.mpr z] at c;exact absurd c (by decide)
  refine jw (λrD h'=>rD= [some (jf T),some (.lst A),some (jf (zN n T L))]/\h' A=some ((G6 (L+1)).map λi=>jf (zN n T i))/\Sub h h') (λC2 hC2=> ?_) ?_
  ·refine⟨_,rfl,A,rfl,_,rfl,_,kA2,?_,hC2 _ _ ⟨rfl,?_,?_⟩⟩
   ·rw [G3,D6];exact aR hL (by decide)
   ·rw [ja,b7,B6];rfl
   ·exact(sb2).over fA
  rintro _ h3 ⟨rfl,kA4,sb4⟩;refine⟨_,rfl,_,rfl,zN n T L,T,n,bb,rfl,WO n T L,hT,h1,h6,hb,2226-(L+1),_,by omega,Sub.refl _,L+1,rfl,kA4,sb4,rfl,?_⟩;rw [b7,B6,dD];exact⟨nd,by simp,λx hx y hy=>by rw [G9.mp (show y∈ [zN n T L] from hy)];intro e;exact hni (e ▸ hx)⟩
 rintro _ h3 ⟨L,rfl,kA3,sb3,hL,nd,hin⟩;have kA4:h3 A=some (((G6 L).map (zN n T)).map jf):=by rw [kA3,T6];rfl
 obtain⟨J,pd,ps,zz,hat,t1,t2,c1,c2,c3,c4,c5,c6,c7⟩:=FF Az kA4 hin (by simp;omega);have hJL:J<L:=by have:=(D3.mp hat).1;simpa using this
 have hJe:zN n T L=zN n T J:=by
  rw [P4,F1 hJL] at hat;injection hat with hat
  exact hat.symm
 exact⟨_,rfl,_,rfl,A,rfl,_,rfl,pd,ps,J,zz,t1,t2,c1,c2,c3,c4,c5,c6,c7,sz2,h3,Sub.refl _,q A L J h3 fA kA3 sb3 ⟨nd,hJL,hJe⟩ hL⟩
def Jx:RDn:=λds h Q=> ∃T,∃n e:G7,ds= [jf T]/\Sq n e T/\1<=n/\n<=6/\e<=1000/\ ∀A L J h',h A=none->h' A=some ((G6 L).map λi=>jf (zN n T i))->Sub h h'->Course n T L J->L<=2225->Q (.lst A) h'
theorem Vu (Z:Zs mg)(F:Fun K "all_marks" "all_marks" vc f fd)(vV:jj P w K mg base n "marks_and_return" ["table"] zQ):FnOk P w K mg base CX0 (n+1) f fd ["table"] (LSp K Jx):=by
 refine F.okM Vq (λhr=>(jE (wq (ji1 (jk vV hr (j1 (jv 0))) zc)))) ?_;rintro ds h Q ⟨T,n,bb,rfl,hT,h1,h6,hb,q⟩;refine⟨rfl,?_⟩;exact⟨_,rfl,T,n,bb,rfl,hT,h1,h6,hb,λA L J h' fA kA sb c hL=>⟨_,rfl,h',Sub.refl _,q A L J h' fA kA sb c hL⟩⟩
def Fst (n:G7)(T:G0 (G0 P3)):D0 G7->Prop
 |none=> ∀k,1<=k->jF (zk n T k)=false
 |some k=>1<=k/\k<=30/\jF (zk n T k)=true/\ ∀j,1<=j->j<k->jF (zk n T j)=false
def AH:D0 G7->D
 |none=> .non
 |some k=> .int (k:P3)
section
variable {n e:G7}{T:G0 (G0 P3)}
theorem FZ (h:Sq n e T)(n1:1<=n)(h6:n<=6): ∃o,Fst n T o:=by
 by_cases z: ∃k,1<=k/\jF (zk n T k)=true
 ·obtain⟨K,hK,f⟩:=z;obtain⟨k,k1,k30,fk⟩:=EF h n1 h6 hK f;clear f hK
  induction k using G7.strongRecOn with
  |_ k ih=>
   by_cases w: ∃j,1<=j/\j<k/\jF (zk n T j)=true
   ·obtain⟨j,j1,jk,fj⟩:=w;exact ih j jk j1 (by omega) fj
   ·exact⟨some k,k1,k30,fk,λj j1 jk=>by
     cases hf:jF (zk n T j) with
     |false=>rfl
     |true=>exact absurd ⟨j,j1,jk,hf⟩ w⟩
 ·exact⟨none,λk hk=>by
   cases hf:jF (zk n T k) with
   |false=>rfl
   |true=>exact absurd ⟨k,hk,hf⟩ z⟩
theorem BC {o:D0 G7}(ho:Fst n T o){i:G7}(hi:jF (zk n T (i+1))=true)(lo: ∀m,m<i->jF (zk n T (m+1))=false):o=some (i+1):=by
 cases o with
 |none=>have:=ho (i+1) (by omega);rw [hi] at this;cases this
 |some k=>
  obtain⟨k1,k30,fk,fl⟩:=ho;have a: ¬ (i+1<k):=λz=>by have:=fl (i+1) (by omega) z;rw [hi] at this;cases this
  have b: ¬ (k<i+1):=λz=>by have:=lo (k-1) (by omega);rw [show k-1+1=k by omega,fk] at this;cases this
  rw [show k=i+1 by omega]
theorem RT {o:D0 G7}(ho:Fst n T o)(lo: ∀m,m<30->jF (zk n T (m+1))=false):o=none:=by
 cases o with
 |none=>rfl
 |some k=>
  obtain⟨k1,k30,fk,fl⟩:=ho;have:=lo (k-1) (by omega);rw [show k-1+1=k by omega,fk] at this;cases this
theorem yE (h:Sq n e T)(hn:n<=8)(i:G7):jF (zN n T i)=jF (zk n T (i+1)):=by rw [JV h hn,GP (h.pow hn _)]
end
def yJ:RDn:=λds h Q=> ∃T,∃n e:G7,∃o,ds= [jf T]/\Sq n e T/\1<=n/\n<=6/\e<=1000/\Fst n T o/\Q (AH o) h
theorem ZV (Z:Zs mg)(F:Fun K "first_power" "first_power" wK f fd)(UN:jj P w K mg base n "all_marks" ["table"] Jx)(Le:jj P w K mg base n "full" ["table"] Dq):FnOk P w K mg base CX0 (n+1) f fd ["table"] (LSp K yJ):=by
 refine F.okM yM (λhr=>(js2 (QL F5 rfl (Rs rfl Z.enumerate (j1 (jk UN hr (j1 (jv 0))))) (Mm (i:=1) (j:=2) rfl yM.nd rfl rfl (E1 rfl) (E1 rfl)) (jE (Df (WF (jk Le hr (j1 (jv 2)))) (wq (jop zC (jv 1) zc))))) (wq Eo))) ?_;rintro ds h Q ⟨T,k,b,o,rfl,hT,h1,h6,hb,ho,q⟩;refine⟨rfl,?_⟩;have hn:k<=8:=by omega
 refine jw (λrD h'=>o=none/\Sub h h') (λC hC=> ?_) ?_
 ·refine⟨_,rfl,T,k,b,rfl,hT,h1,h6,hb,λA L J h' fA kA sb hc hL=>⟨A,rfl,?_⟩⟩;refine YK (j:=λh=>(h A).map GX) (GX ((G6 L).map λi=>jf (zN k T i))) (λi rD h2=> ∃a b',rD= [some (jf T),a,b']/\h'=h2/\ ∀m,m<i->jF (zk k T (m+1))=false) (λi rD h2 ⟨_,_,_,e,_⟩=>by rw [<-e];show (h' A).map GX=_;rw [kA];rfl) ⟨none,none,rfl,rfl,λm hm=>absurd hm (J5 _)⟩ ?_ ?_
  ·rintro rD h2 ⟨a,b',e,eh,lo⟩;rw [yT,G3,D6] at lo;refine hC _ _ ⟨RT ho λm _=> ?_,eh ▸ sb⟩
   by_cases z:m<L
   ·exact lo m z
   ·have lt:=hc.lt;rw [<-yE hT hn m,<-FG hc (show J<=m by omega),yE hT hn];exact lo _ (by have:=K9 (m-J) (show 0<L-J by omega);omega)
  rintro i d _ _ hd ⟨a,b',rfl,rfl,lo⟩;obtain⟨x,hx,rfl⟩:=Xi hd;have hil:i+1<=(GX ((G6 L).map λi=>jf (zN k T i))).length:=(D3.mp hd).1;have hiL:i<L:=by rw [yT,G3,D6] at hil;exact hil
  rw [P4,F1 hiL] at hx;injection hx with hx
  subst hx;refine⟨_,_,rfl,_,rfl,zN k T i,k,1,rfl,WO k T i,h1,h6,_,rfl,?_⟩;rw [yE hT hn];cases hf:jF (zk k T (i+1)) with
  |true=>
   refine QJ ⟨_,rfl,h,sb,?_⟩;rw [BC ho hf lo] at q;exact q
  |false=>
   refine VQ ⟨_,Sub.refl _,hil,_,_,rfl,rfl,λm hm=> ?_⟩
   by_cases z:m=i
   ·subst z;exact hf
   ·exact lo m (by omega)
 rintro _ h2 ⟨e,sb⟩;subst e;exact⟨h,sb,q⟩
def wT:RDn:=λds h Q=> ∃n:G7,ds= [.int (n:P3)]/\1<=n/\n<=6/\Q (.int (((n:P3)-1)*((n:P3)-1)+1)) h
theorem JJ (Z:Zs mg)(F:Fun K "slowest_power" "slowest_power" zP f fd)(wO:jj P w K mg base n "want_number" ["thing","least","most"] wj)(zm: ∃tk,mg "MOST_ROWS" =some (.int 6 tk)):FnOk P w K mg base CX0 (n+1) f fd ["size"] (LSp K wT):=by
 obtain⟨tk_MOST_ROWS,m_MOST_ROWS⟩:=zm;refine F.okM JH (λhr=>(js2 (Zr (jk wO hr (j3 (jv 0) zc (Rc rfl m_MOST_ROWS)))) (wq (jop zC (jop WC (jop YG (jv 0) zc) (jop YG (jv 0) zc)) zc)))) ?_;rintro ds h Q ⟨k,rfl,h1,h6,q⟩;refine⟨rfl,?_⟩;refine⟨_,rfl,(k:P3),1,6,rfl,by omega,by omega,_,rfl,_,rfl,E1 ⟨by omega,by omega⟩,h,Sub.refl h,q⟩
variable {k:G7}{te:TED}{E:EndsD}{σ:SD}{h:HD}
theorem MG {i:G7}{d:D}(x:te (σ.set i (some d)) h λv h1=>E.nx ((σ.set i (some d)).set k (some v)) h1):gN i d σ h (λrF h2=>QK k te E rF h2):=x
def ER:D->ItD
 | .lst a=>λh=>h a
 | .tup ds=>λ_=>some ds
 |_=>λ_=>none
theorem BD (ts:G0 D)(k:G7):((wH ts k).flatMap λr=>ts.map λt=>D.tup (r++ [t]))=(wH ts (k+1)).map D.tup:=by
 show _=((wH ts k).flatMap _).map D.tup;rw [bQ]
 congr 1
 funext r
 rw [T6];rfl
theorem Dr {α:Type}{ts:G0 α}(h8:ts.length<=8): ∀ {k:G7},k<3->((wH ts k).flatMap λ_=>ts).length<=1000:=λ{k} hk=>by
 have: ∀l:G0 (G0 α),(l.flatMap λ_=>ts).length=l.length*ts.length:=λl=>by
  induction l with
  |nil=>simp
  |cons x l ih=>rw [N6,D4,ih,S4,Z5];omega
 rw [this,Ji];have a:ts.length^k<=8^2:=S7 (Nat.pow_le_pow_left h8 k) (K3 (by decide) (by omega));have:=cN a h8;omega
def ZI:RDn:=λds h Q=> ∃x ts,∃m:G7,ds= [x,.int (m:P3)]/\(x= .tup ts\/ ∃a,x= .lst a/\h a=some ts)/\m<=3/\ts.length<=8/\ ∀A h',h A=none->h' A=some ((wH ts m).map D.tup)->Sub h h'->Q (.lst A) h'
theorem UH (Z:Zs mg)(F:Fun K "all_rows" "all_rows" Jm f fd):FnOk P w K mg base CX0 (n+1) f fd ["things","many"] (LSp K ZI):=by
 refine F.okM wQ (λhr=>(js3 (jse 2 wQ (XX (j1 (Ua yc)))) (QL F5 rfl (jrg Z (jv 1)) (jgn 3 wQ) (jE (Ps (i:=4) (i':=5) (k:=2) (js:= [4,5]) rfl wQ.nd rfl (E1 rfl) (jR (by rfl)) (jB (jv 2)) (by decide) (by decide) (by decide) rfl rfl (by first|exact E1 rfl|exact Q2 rfl) (by first|exact E1 rfl|exact Q2 rfl) (λX' hX=>ye) (λX' hX=>by obtain⟨C,s₀,H₀,ex,rfl⟩:=hX;exact(jB (jv 0))) (λX' hX=>ye) (λX' hX=>by obtain⟨C,s₀,H₀,ex,rfl⟩:=hX;exact(jop zC (jv 4) (Ua (j1 (jv 5)))))))) (wq (jv 2)))) ?_;rintro ds h Q ⟨x,ts,m,rfl,hx,h3,h8,q⟩;refine⟨rfl,?_⟩;refine jw (λrD h'=> ∃A,rD= [some x,some (.int (m:P3)),some (.lst A),none,none,none]/\h A=none/\h' A=some ((wH ts 0).map D.tup)/\Sub h h') (λC hC=>⟨sz0,sz1,λA eA=>hC _ _ ⟨A,rfl,eA,ja,Sub.new eA⟩⟩) ?_;rintro _ h1 ⟨A,rfl,fA,kA,sb⟩;refine jw (λrD h'=> ∃A a b c,rD= [some x,some (.int (m:P3)),some (.lst A),a,b,c]/\h A=none/\h' A=some ((wH ts m).map D.tup)/\Sub h h') (λC hC=> ?_) ?_
 ·refine Zo (h1:=h1) m (λk rD h'=> ∃A a b c,rD= [some x,some (.int (m:P3)),some (.lst A),a,b,c]/\h A=none/\h' A=some ((wH ts k).map D.tup)/\Sub h h') (by omega) (λR r=>⟨_,rfl,r⟩) ⟨A,none,none,none,rfl,fA,kA,sb⟩ (λrD h' z=>hC _ _ z) ?_;clear kA sb fA;rintro k _ h2 hk ⟨A,a,b,c,rfl,fA,kA,sb⟩;refine MG ?_;refine EJ (j:=λh=>h A) (ER x) (wH ts k) D.tup (λ_=>ts) id (λr t=> .tup (r++ [t])) (Dr h8 (by omega)) kA (λR r=>⟨_,rfl,r⟩) (λr hr R rr=> ?_) (λr hr=> ?_) (λr hr t ht Q' q'=>⟨_,rfl,_,rfl,sz1,?_,q'⟩) (λB eB=>⟨_,Sub.refl _,hk,B,_,_,_,rfl,ze sb eB,?_,Sub.newAt sb eB⟩)
  ·rcases hx with rfl|⟨a,rfl,ka⟩<;>exact⟨_,rfl,rr⟩
  ·rw [List.map_id];rcases hx with rfl|⟨a,rfl,ka⟩
   ·rfl
   ·exact sb _ _ ka
  ·rw [(Jv ts hr).1];exact S7 (show k+1<=6 by omega) (by decide)
  ·rw [ja,BD]
 rintro _ h2 ⟨A,a,b,c,rfl,fA,kA,sb⟩;exact⟨_,rfl,_,Sub.refl _,q A _ fA kA sb⟩
theorem Ds (s:G7):(wH ((wH [D.int 0,D.int 1] s).map D.tup) s).map D.tup=(vI s).map jf:=by
 have e1:(wH [D.int 0,D.int 1] s).map D.tup=(wH [(0:P3),1] s).map zJ:=by
  rw [show [D.int 0,D.int 1]= [(0:P3),1].map D.int from rfl,Ux,T6];rfl
 rw [e1,Ux,T6];rfl
def zU:RDn:=λds h Q=> ∃s:G7,ds= [.int (s:P3)]/\s<=3/\ ∀A h',h A=none->h' A=some ((vI s).map jf)->Sub h h'->Q (.lst A) h'
theorem vP (Z:Zs mg)(F:Fun K "all_mark_tables" "all_mark_tables" zl f fd)(Wr:jj P w K mg base n "all_rows" ["things","many"] ZI):FnOk P w K mg base CX0 (n+1) f fd ["size"] (LSp K zU):=by
 refine F.okM vK (λhr=>(jE (wq (jk Wr hr (j2 (jk Wr hr (j2 (Ua (j2 zc zc)) (jv 0))) (jv 0)))))) ?_;rintro ds h Q ⟨s,rfl,h3,q⟩;refine⟨rfl,?_⟩;refine⟨sz2,_,rfl,_,_,s,rfl,.inl rfl,h3,by decide,λA h' fA kA sb=>⟨_,rfl,_,_,s,rfl,.inr ⟨A,rfl,kA⟩,h3,?_,λB h'' fB kB sb'=>⟨_,Sub.refl _,q B h'' (ze sb fB) (by rw [kB,Ds]) (sb.trans sb')⟩⟩⟩;rw [G3,Ji];exact K3 (j:=3) (by decide) h3
theorem BE (x:te σ h λv h1=>ON [v] h1 λd h2=>E.rt d h2):DR (dCB ON (jZ te Zk)) E σ h:=x
theorem noF {c:M6}{A B:Prop}(h:c=false)(x:B):if c=true then A else B:=by subst h;exact VQ x
theorem Vv (o:G0 G7)(p:G7):zR (o++ [p])= .tup (o.map (λ(k:G7)=>D.int (k:P3))++ [.int (p:P3)]):=by unfold zR;rw [B6];rfl
theorem XH:(jG n (k+1)).map zR=(jG n k).flatMap λo=>((G6 n).filter λp=> !decide (p∈o)).map λp=>zR (o++ [p]):=by
 show ((jG n k).flatMap _).map zR=_;rw [bQ]
 congr 1
 funext o
 rw [T6];rfl
def vQ:RDn:=λds h Q=> ∃n:G7,ds= [.int (n:P3)]/\n<=5/\ ∀A h',h A=none->h' A=some ((jG n n).map zR)->Sub h h'->Q (.lst A) h'
theorem Yj (Z:Zs mg)(F:Fun K "all_orders" "all_orders" yq f fd):FnOk P w K mg base CX0 (n+1) f fd ["size"] (LSp K vQ):=by
 refine F.okM zH (λhr=>(js3 (jse 1 zH (XX (j1 (Ua yc)))) (QL F5 rfl (jrg Z (jv 0)) (jgn 2 zH) (jE (Ps (i:=3) (i':=4) (k:=1) (js:= [3,4]) rfl zH.nd rfl (E1 rfl) (jR (by rfl)) (jB (jv 1)) (by decide) (by decide) (by decide) rfl rfl (by first|exact E1 rfl|exact Q2 rfl) (by first|exact E1 rfl|exact Q2 rfl) (λX' hX=>ye) (λX' hX=>by obtain⟨C,s₀,H₀,ex,rfl⟩:=hX;exact(jrg Z (jv 0))) (λX' hX=>by obtain⟨C,s₀,H₀,ex,rfl⟩:=hX;exact WG (Re (WM hr.units) (jv 4) (jv 3) (by with_unfolding_all rfl))) (λX' hX=>by obtain⟨C,s₀,H₀,ex,rfl⟩:=hX;exact(jop zC (jv 3) (Ua (j1 (jv 4)))))))) (wq (jv 1)))) ?_;rintro ds h Q ⟨n,rfl,h5,q⟩;refine⟨rfl,?_⟩;refine jw (λrD h'=> ∃A,rD= [some (.int (n:P3)),some (.lst A),none,none,none]/\h A=none/\h' A=some ((jG n 0).map zR)/\Sub h h') (λC hC=>⟨sz0,sz1,λA eA=>hC _ _ ⟨A,rfl,eA,ja,Sub.new eA⟩⟩) ?_;rintro _ h1 ⟨A,rfl,fA,kA,sb⟩;refine jw (λrD h'=> ∃A a b c,rD= [some (.int (n:P3)),some (.lst A),a,b,c]/\h A=none/\h' A=some ((jG n n).map zR)/\Sub h h') (λC hC=> ?_) ?_
 ·refine Zo (h1:=h1) n (λk rD h'=> ∃A a b c,rD= [some (.int (n:P3)),some (.lst A),a,b,c]/\h A=none/\h' A=some ((jG n k).map zR)/\Sub h h') (by omega) (λR r=>⟨_,rfl,r⟩) ⟨A,none,none,none,rfl,fA,kA,sb⟩ (λrD h' z=>hC _ _ z) ?_;clear kA sb fA;rintro k _ h2 hk ⟨A,a,b,c,rfl,fA,kA,sb⟩;have l1:=JY n (by omega) k (by omega);have fl: ∀l:G0 (G0 G7),(l.flatMap λ_=>G6 n).length<=l.length*5:=λl=>by
   induction l with
   |nil=>exact P0 _
   |cons x l ih=>rw [N6,D4,D6,S4];omega
  have l2:=fl (jG n k);refine MG ?_;refine EH (j:=λh=>h A) (jG n k) zR (λ_=>G6 n) (λ(k:G7)=>D.int (k:P3)) (λo p=> !decide (p∈o)) (λo p=>zR (o++ [p])) (by omega) kA (λR r=>⟨_,rfl,r⟩) (λo ho R r=>⟨_,rfl,(n:P3),rfl,by omega,by omega,r⟩) (λo ho p hp Q' q'=>⟨_,rfl,_,rfl,Pr ⟨_,rfl,q'⟩⟩) (λo ho p hp Q' q'=>⟨_,rfl,_,rfl,sz1,?_,by rw [Vv] at q';exact q'⟩) (λB eB=>⟨_,Sub.refl _,hk,B,_,_,_,rfl,ze sb eB,?_,Sub.newAt sb eB⟩)
  ·rw [G3,(WY ho).1];exact S7 (show k+1<=6 by omega) (by decide)
  ·rw [ja,XH]
 rintro _ h2 ⟨A,a,b,c,rfl,fA,kA,sb⟩;exact⟨_,rfl,_,Sub.refl _,q A _ fA kA sb⟩
def yK:RDn:=λds h Q=> ∃T,∃n e:G7,ds= [jf T]/\Sq n e T/\1<=n/\n<=5/\ ∀m h',Lst n (je n T) m->Sub h h'->Q (jf m) h'
theorem ZW (Z:Zs mg)(F:Fun K "least_alike" "least_alike" wL f fd)(jQ:jj P w K mg base n "want_table" ["thing"] zh)(ZL:jj P w K mg base n "marks" ["table"] JZ)(VE:jj P w K mg base n "all_orders" ["size"] vQ)(Dw:jj P w K mg base n "renamed" ["table","order"] Wq)(wm: ∃tk,mg "MOST_RENAMED" =some (.int 5 tk)):FnOk P w K mg base CX0 (n+1) f fd ["table"] (LSp K yK):=by
 obtain⟨tk_MOST_RENAMED,m_MOST_RENAMED⟩:=wm;refine F.okM wf (λhr=>(js4 (Zr (jk jQ hr (j1 (jv 0)))) (Df (jt1 DW (Qt Z (jv 0)) (Rc rfl m_MOST_RENAMED)) Xd) (jse 1 wf (jk ZL hr (j1 (jv 0)))) (wq (zq (Px rfl hr) rfl Z.min (by decide +kernel) (j1 (jl0 2 wf (jB (jk VE hr (j1 (Qt Z (jv 0))))) (λ_ _ _ _=>(jk Dw hr (j2 (jv 1) (jv 2)))))))))) ?_;rintro ds h Q ⟨T,n,b,rfl,hT,n1,h5,q⟩;refine⟨rfl,?_⟩;refine zO [some (jf T),none,none] (λC hC=>⟨_,rfl,T,n,b,rfl,hT,n1,by omega,hC⟩) ?_;refine zO [some (jf T),none,none] (λC hC=>⟨_,rfl,_,rfl,noF (T1 (by rw [G3,hT.len];omega)) (hC)⟩) ?_;refine zO [some (jf T),some (jf (je n T)),none] (λC hC=>⟨_,rfl,T,n,b,rfl,hT,n1,by omega,hC⟩) ?_;have l1:=JY n (by omega) n (by omega);refine BE ?_;refine Ms (jG n n) zR (λo=>jf (YQ n o (je n T))) (λA h1=>h A=none/\h1 A=some ((jG n n).map zR)/\Sub h h1) (by omega) (λR r=>⟨_,rfl,n,by rw [G3,hT.len],h5,λA h' fA kA sb=>r A h' ⟨fA,kA,sb⟩⟩) (λA h1 z=>z.2.1) (λA h1 z o ho Q' q'=>⟨_,rfl,_,rfl,je n T,n,1,o,rfl,Sq.mark T,vF h5 ho,n1,by omega,q'⟩) (λA h1 z p ep=> ?_);obtain⟨m,hm,low⟩:=WX (xs:=(jG n n).map λo=>YQ n o (je n T)) (λz=>Vj (aG.mp z));obtain⟨ys,g1,g2,g3,g4,g5⟩:=Xv (h:=wC h1 p ((jG n n).map λo=>jf (YQ n o (je n T)))) hm low (by rw [ja,T6];rfl);exact .inr ⟨p,ys,(jf m,WK m),rfl,g1,g2,g3,g4,g5,_,Sub.refl _,q m _ (Mr (e:=1) h5 hm low) (Sub.newAt z.2.2 ep)⟩
def OT:D0 G7->P3
 |none=>0
 |some k=>(k:P3)
section
variable {n e:G7}{T:G0 (G0 P3)}
theorem Vw (h:Sq n e T)(i:G7):je n (yf n (zN n T i) (je n T))=zN n T (i+1):=Ph (WO n T i) h
theorem XI (h:Sq n e T): ∀ (d m i:G7),d<m->jF (zN n T (i+d))=true->(∀j,i<=j->j<i+d->jF (zN n T j)=false)->Qu n (je n T) m (zN n T i) ((i:P3)+1)=((i+d:G7):P3)+1
 |0,m+1,i,_,f,_=>by show (if _ then _ else _)=_;rw [R0 (show jF (zN n T i)=true from f)];rfl
 |d+1,m+1,i,hd,f,lo=>by
  show (if _ then _ else _)=_;rw [R7 (by rw [lo i (P0 _) (by omega)];exact P9),Vw h];have:=XI h d m (i+1) (by omega) (by rw [show i+1+d=i+(d+1) by omega];exact f) λj h1 h2=>lo j (by omega) (by omega)
  rw [show ((i:P3)+1+1)=((i+1:G7):P3)+1 by omega,this];omega
theorem Dt (h:Sq n e T): ∀ (m i:G7) (c:P3),(∀j,i<=j->j<i+m->jF (zN n T j)=false)->Qu n (je n T) m (zN n T i) c=0
 |0,_,_,_=>rfl
 |m+1,i,c,lo=>by
  show (if _ then _ else _)=_;rw [R7 (by rw [lo i (P0 _) (by omega)];exact P9),Vw h];exact Dt h m (i+1) _ λj h1 h2=>lo j (by omega) (by omega)
theorem Du (h:Sq n e T)(n1:1<=n)(h6:n<=6){k:G7}(ho:Fst n T (some k)):k<=(n-1)*(n-1)+1:=by
 have hn:n<=8:=by omega
 obtain⟨k1,k30,fk,fl⟩:=ho;have all: ∀m,k<=m-> ∀i j,i<n->j<n->RP n T m i j:=λm hm=>by
  have:=Ud h hn (a:=k) (by omega) fk (m-k);rw [show k+(m-k)=m by omega] at this;exact(Uh h hn).mp this
 have low: ∀m,1<=m->jF (zk n T m)=true->k<=m:=λm m1 f=>kJ λz=>by
  have:=fl m m1 z;rw [f] at this;cases this
 by_cases n2:2<=n
 ·obtain⟨m,m1,mb,fm⟩:=Pk h hn n2 all;exact S7 (low m m1 fm) mb
 ·have n1':n=1:=by omega
  subst n1';obtain⟨c,hc,_,b⟩:=(zj h hn (k-1) 1 (show 0<1 by decide) (show 0<1 by decide)).mp (all ((k-1)+1) (by omega) 0 0 (by decide) (by decide));have:c=0:=by omega
  subst this;exact low 1 (P0 _) ((Uh h hn).mpr λi j hi hj=>by rw [show i=0 by omega,show j=0 by omega];exact b)
theorem RU (h:Sq n e T)(n1:1<=n)(h6:n<=6){o:D0 G7}(ho:Fst n T o):wc n T=OT o:=by
 have hn:n<=8:=by omega
 cases o with
 |none=>exact Dt h _ 0 1 λj _ _=>by rw [yE h hn];exact ho (j+1) (by omega)
 |some k=>
  have kb:=Du h n1 h6 ho;obtain⟨k1,k30,fk,fl⟩:=ho;have:=XI h (k-1) ((n-1)*(n-1)+1) 0 (by omega) (by rw [yE h hn,show 0+(k-1)+1=k by omega];exact fk) λj _ hj=>by rw [yE h hn];exact fl (j+1) (by omega) (by omega)
  refine Eq.trans this ?_;show ((0+(k-1):G7):P3)+1=(k:P3);omega
end
theorem BF {o:D0 G7}{k:P3}(k1:1<=k){h:HD}{Q:KD}(q:Q (.bl (decide (OT o=k))) h):eqE (AH o) (.int k) h Q:=by
 cases o with
 |none=>
  have:decide (OT none=k)=false:=T1 (by show ¬ (0=k);omega);rw [this] at q;exact⟨.none,.int k,rfl,rfl,rfl,rfl,q⟩
 |some m=>exact q
def wA:RDn:=λds h Q=> ∃s:G7,ds= [.int (s:P3)]/\1<=s/\s<=3/\ ∀A h',h A=none->h' A=some [jf (XE s)]->Sub h h'->Q (.lst A) h'
theorem Jp (Z:Zs mg)(F:Fun K "slowest_tables" "slowest_tables" zB f fd)(wO:jj P w K mg base n "want_number" ["thing","least","most"] wj)(ZM:jj P w K mg base n "slowest_power" ["size"] wT)(Yp:jj P w K mg base n "first_power" ["table"] yJ)(Jq:jj P w K mg base n "all_mark_tables" ["size"] zU)(Yq:jj P w K mg base n "least_alike" ["table"] yK)(wP: ∃tk,mg "MOST_LISTED" =some (.int 3 tk)):FnOk P w K mg base CX0 (n+1) f fd ["size"] (LSp K wA):=by
 obtain⟨tk_MOST_LISTED,m_MOST_LISTED⟩:=wP;refine F.okM zn (λhr=>(js3 (Zr (jk wO hr (j3 (jv 0) zc (Rc rfl m_MOST_LISTED)))) (jse 1 zn (jk ZM hr (j1 (jv 0)))) (wq (EL (i:=2) (js:= [2]) hr rfl rfl Z.sorted (jR (by rfl)) (jB (jk Jq hr (j1 (jv 0)))) (by decide) zn.nd rfl (by first|exact E1 rfl|exact Q2 rfl) (λX' hX=>by obtain⟨C,s₀,H₀,ex,rfl⟩:=hX;exact WG (jt1 (GI hr.units) (jk Yp hr (j1 (jv 2))) (jv 1))) (λX' hX=>by obtain⟨C,s₀,H₀,ex,rfl⟩:=hX;exact(jk Yq hr (j1 (jv 2)))))))) ?_;rintro ds h Q ⟨s,rfl,h1,h3,q⟩;refine⟨rfl,?_⟩;refine zO [some (.int (s:P3)),none,none] (λC hC=>⟨_,rfl,(s:P3),1,3,rfl,by omega,by omega,hC⟩) ?_;refine zO [some (.int (s:P3)),some (.int (Yw s)),none] (λC hC=>⟨_,rfl,s,rfl,h1,by omega,hC⟩) ?_;have few:=(XD h3).1;obtain⟨sa,sx⟩:=EN h1 h3;rw [N7] at sa;rw [Z8] at sx;have v1:1<=Yw s:=by
  have:=f7 (show 0<=(s:P3)-1 by omega) (show 0<=(s:P3)-1 by omega);unfold Yw;omega
 refine⟨_,rfl,s,rfl,h3,λA h' fA kA sb=>⟨(vI s).length,XE s,(λi ys h'=>i<=(vI s).length/\(∀y∈ys,y=XE s)/\ys.length<=i/\((∃T∈(vI s).take i,wc s T=Yw s)->ys≠ [])/\h' A=some ((vI s).map jf)/\Sub h h'),⟨B4 _,λy hy=>(nomatch hy),P0 _,λ⟨T,hT,_⟩=>(nomatch hT),kA,sb⟩,?_⟩⟩;clear kA sb;rintro i ys h2 ⟨hi,all,le,ne,kA,sb⟩;refine⟨by omega,_,kA,by rw [G3];exact P0 _,λhl=>⟨ne ?_,all,λp hp=>⟨_,Sub.refl _,q p _ (ze sb hp) ja (sb.newAt hp)⟩⟩,λd hd=>⟨_,rfl,?_⟩⟩
 ·rw [G3] at hl;obtain⟨T,hT,e⟩:=sx;rw [M1 hl];exact⟨T,hT,N0 e⟩
 rw [P4] at hd;obtain⟨T,hT,rfl⟩:=N9.mp hd;have tm:=S0 hT;have sq:=RL tm;have il:i+1<=(vI s).length:=(D3.mp hT).1;obtain⟨o,ho⟩:=FZ sq h1 (by omega);have so:=RU sq h1 (by omega) ho;have tk:(vI s).take (i+1)=(vI s).take i++ [T]:=by rw [T2,hT];rfl
 refine⟨_,rfl,T,s,1,o,rfl,sq,h1,by omega,by decide,ho,_,rfl,BF v1 ⟨_,rfl,?_⟩⟩;rw [<-so]
 by_cases z:wc s T=Yw s
 ·rw [D7 z];have ok:okS s T=true:=by
   have:=sa T tm;rw [D7 z] at this;simpa using this
  have ls:=Dk h3 ok;refine QJ ⟨_,rfl,T,s,1,rfl,sq,h1,by omega,λm h4 lm sb4=>⟨m,_,rfl,Sub.refl _,il,λy hy=> ?_,by rw [D4];exact dX le,λ_=>by simp,sb4 _ _ kA,sb.trans sb4⟩⟩;rcases T5.mp hy with w|w
  ·exact all y w
  ·rw [G9.mp w];exact lm.only ls
 ·rw [T1 z];refine VQ ⟨_,Sub.refl _,il,all,j5 le,λ⟨U,hU,e⟩=>ne ?_,kA,sb⟩;rw [tk] at hU;rcases T5.mp hU with w|w
  ·exact⟨U,w,e⟩
  ·rw [G9.mp w] at e;exact absurd e z
def Jy:RDn:=λds h Q=> ∃ns k,ds= [.scr ns,.int k]/\0<=k/\ ∀n,Q (.int n) h
theorem Vx (Z:Zs mg)(F:Fun K "_law_cell" "_law_cell" vd f fd):FnOk P w K mg base CX0 (n+1) f fd ["_law_script","_law_k"] (LSp K Jy):=by
 refine F.okM Vr (λhr=>(js2 (Df (jt1 Os (jv 1) (Qt Z (jv 0))) (wq (ji1 (jv 0) (jv 1)))) (wq zc))) ?_;rintro ds h Q ⟨ns,k,rfl,h0,q⟩;refine⟨rfl,?_⟩;simp only [yP,Nj,JD,dOp,Mc,wS,F9,a7,S4,A9,W7,K8,X0,K7,Y7,dCB,jZ,Zk,BN,Mg,D.bl.injEq,DR,ixD,DT,aP,VW,dC];refine BJ (λc=> ?_) (λ_=>⟨h,Sub.refl h,q 0⟩);have c':k<(ns.length:P3):=N0 c;have hk:k.toNat<ns.length:=by omega
 have ek:k=((k.toNat:G7):P3):=by omega
 have z:=VT (P2 hk);rw [<-ek] at z;exact⟨ns[k.toNat],z,h,Sub.refl h,q _⟩
def ZJ:RDn:=λds h Q=> ∃c,ds= [.int c]/\ ∀p l fl,h p=none->0<=l->(fl=0\/fl=1)->Q (.lst p) (wC h p [.int l,.int fl])
theorem UI (Z:Zs mg)(F:Fun K "_law_pen" "_law_pen" Jn f fd):FnOk P w K mg base CX0 (n+1) f fd ["_law_cell_here"] (LSp K ZJ):=by
 refine F.okM ZE (λhr=>(js2 (jse 1 ZE (zq (Fl rfl) rfl Z.max (by decide +kernel) (j2 (jv 0) (jop YG zc (jv 0))))) (wq (XX (j2 (jv 1) (zd Mj rfl Z.int (by decide +kernel) (j1 (jc1 Fi (jv 1) (jop Mh zc zc))))))))) ?_;rintro ds h Q ⟨c,rfl,q⟩;refine⟨rfl,?_⟩;simp only [yP,QK,dCB,jZ,Mc,wS,F9,a7,S4,A9,T8,W7,K8,K7,Y7,dOp,dC,Am,Zk,Ov,DR,Lk,List.set_cons_succ,List.set_cons_zero,X0,Ao,Mg,Ou,DT,aP];refine⟨⟨by decide,by decide,by decide⟩,by decide,λp hp=>⟨_,Sub.refl _,q p _ _ hp ?_ ?_⟩⟩
 ·split<;>omega
 ·split<;>simp<;>omega
def Jz:RDn:=λds h Q=> ∃p l fl m,ds= [.lst p,.int m]/\h p=some [.int l,.int fl]/\0<=l/\0<m/\m<2^200/\ ∀r l',0<=r->r<m->0<=l'->Q (.int r) (wC h p [.int l',.int fl])
theorem Vy (Z:Zs mg)(F:Fun K "_law_draw" "_law_draw" ve f fd):FnOk P w K mg base CX0 (n+1) f fd ["_law_pen_here","_law_many"] (LSp K Jz):=by
 refine F.okM zW (λhr=>(js5 (Aw (jt1 oq_eq (ji1 (jv 0) zc) zc) (js3 (OC (zq Qb rfl Z.divmod (by decide +kernel) (j2 (ji1 (jv 0) zc) (jv 1))) (Mm (i:=2) (j:=3) rfl zW.nd rfl rfl (E1 rfl) (E1 rfl))) (OC (jv 2) (Mn (jv 0) zc)) (wq (jv 3))) Ml) (jse 4 zW (jop YH (jop WC (jop zC (jop YH (ji1 (jv 0) zc) zc) zc) zc) zc)) (jse 4 zW (jop YH (jop zC (jop WC (jv 4) (jv 4)) zc) zc)) (OC (jop YH (jop zC (jop WC (jv 4) zc) zc) zc) (Mn (jv 0) zc)) (wq (jop YH (jop Ny (ji1 (jv 0) zc) zc) (jv 1))))) ?_;rintro ds h Q ⟨p,l,fl,m,rfl,hp,h0,hm,hm2,q⟩;refine⟨rfl,?_⟩;refine zO [some (.lst p),some (.int m),none,none,none] (λC hC=>⟨_,rfl,_,_,hp,rfl,?_⟩) ?_
 ·show ∃k,D.bl (decide (fl=1))= .bl k/\_;refine⟨_,rfl,BJ (λ_=> ?_) λ_=>hC⟩;exact⟨_,rfl,_,_,hp,rfl,_,rfl,_,_,rfl,⟨hm,hm2⟩,_,_,rfl,_,rfl,_,rfl,p,0,_,0,rfl,rfl,hp,rfl,_,rfl,_,Sub.refl _,q (l%m) (l / m) (b9 _ (oP hm)) (cU _ hm) (Int.ediv_nonneg h0 (oI hm))⟩
 refine jw (λrD h'=> ∃z:P3,rD= [some (.lst p),some (.int m),none,none,some (.int z)]/\(0<=z/\z<2147483629)/\h=h') (λC hC=>⟨_,rfl,_,_,hp,rfl,by decide,.inr ⟨by decide,by decide⟩,by decide,hC _ _ ⟨_,rfl,⟨b9 _ (by decide),cU _ (by decide)⟩,rfl⟩⟩) ?_;rintro _ _ ⟨z,rfl,⟨z0,z1⟩,rfl⟩;refine jw (λrD h'=> ∃y:P3,rD= [some (.lst p),some (.int m),none,none,some (.int y)]/\h=h') (λC hC=>⟨_,rfl,_,rfl,.inl ⟨hZ (by decide) z0,Int.lt_trans z1 (by decide)⟩,by decide,hC _ _ ⟨_,rfl,rfl⟩⟩) ?_;rintro _ _ ⟨y,rfl,rfl⟩;refine jw (λrD h'=> ∃x:P3,rD= [some (.lst p),some (.int m),none,none,some (.int y)]/\0<=x/\h'=wC h p [.int x,.int fl]) (λC hC=>⟨_,rfl,.inr ⟨by decide,by decide⟩,by decide,_,rfl,p,0,_,0,rfl,rfl,hp,rfl,hC _ _ ⟨_,rfl,b9 _ (by decide),rfl⟩⟩) ?_;rintro _ _ ⟨x,rfl,x0,rfl⟩;exact⟨_,rfl,_,_,ja,rfl,⟨by decide,by decide⟩,_,rfl,hm,_,Sub.refl _,q (x / 32%m) x (b9 _ (oP hm)) (cU _ hm) x0⟩
theorem Vz (Z:Zs mg)(F:Fun K "_law_same" "_law_same" vf f fd):FnOk P w K mg base CX0 (n+1) f fd ["_law_found","_law_due"] (LSp K Mp):=by
 refine F.okM Vs (λhr=>(jE (wq (jc1 oq_eq (zq (Xk hr) rfl Z.repr (by decide +kernel) (j1 (jv 0))) (zq (Xk hr) rfl Z.repr (by decide +kernel) (j1 (jv 1))))))) ?_;rintro ds h Q ⟨x,y,pd,rfl,t1,t2,so,q⟩;refine⟨rfl,?_⟩;refine⟨_,rfl,x,pd,rfl,t1,so,_,rfl,y,pd,rfl,t2,so,h,Sub.refl h,?_⟩;rw [D7 rfl];exact q
def vR:RDn:=λds h Q=> ∃T U,∃n e f:G7,ds= [jf T,jf U]/\Sq n e T/\Sq n f U/\e+f<=1000000/\n<=6/\Q (jf (yf n T U)) h
theorem Yk (Z:Zs mg)(F:Fun K "_law_times" "_law_times" yr f fd):FnOk P w K mg base CX0 (n+1) f fd ["_law_one","_law_other"] (LSp K vR):=by
 refine F.okM jT (λhr=>(js4 (jse 2 jT (Qt Z (jv 0))) (jse 3 jT (XX yc)) (QL F5 rfl (jB (jv 0)) (jgn 4 jT) (jE (Zr (Lm (jv 3) (zd jP rfl Z.tuple (by decide +kernel) (j1 (jl0 5 jT (jrg Z (jv 2)) (λ_ _ _ _=>(zq (GJ rfl) rfl Z.sum (by decide +kernel) (j1 (jl0 6 jT (jrg Z (jv 2)) (λ_ _ _ _=>(jop GQ (ji1 (jv 4) (jv 6)) (ji1 (ji1 (jv 1) (jv 6)) (jv 5))))))))))))))) (wq (zd cq_tuple rfl Z.tuple (by decide +kernel) (j1 (jv 3)))))) ?_;rintro ds h Q ⟨T,U,k,b,f,rfl,hT,hU,hb,h6,q⟩;refine⟨rfl,?_⟩;refine jw (λrD h'=>rD= [some (jf T),some (jf U),some (.int (k:P3)),none,none,none,none]/\h=h') (λC hC=>⟨_,rfl,hC _ _ ⟨by rw [G3,hT.len];rfl,rfl⟩⟩) ?_;rintro _ _ ⟨rfl,rfl⟩;refine jw (λrD h'=> ∃R,rD= [some (jf T),some (jf U),some (.int (k:P3)),some (.lst R),none,none,none]/\h R=none/\h' R=some []/\Sub h h') (λC hC=> ?_) ?_
 ·exact⟨sz0,λR eR=>hC _ _ ⟨R,rfl,eR,ja,Sub.newAt (Sub.refl h) eR⟩⟩
 rintro _ h1 ⟨R,rfl,fR,kR,sb⟩;refine jw (λrD h'=> ∃a b c,rD= [some (jf T),some (jf U),some (.int (k:P3)),some (.lst R),a,b,c]/\h' R=some ((yf k T U).map zJ)/\Sub h h') (λC hC=> ?_) ?_
 ·refine JR (j:=λ_=>some (T.map zJ)) (T.map zJ) (λi rD h'=> ∃a b c,rD= [some (jf T),some (jf U),some (.int (k:P3)),some (.lst R),a,b,c]/\h' R=some ((T.take i).map λr=>D.tup ((G6 k).map λj=> .int (jz k λm=>r.getD m 0*ent U m j)))/\Sub h h') (λR' r=>⟨_,rfl,r⟩) (λ_ _ _ _=>rfl) ⟨_,_,_,rfl,kR,sb⟩ ?_ ?_
  ·rintro rD h' ⟨a,b,c,e,kR2,sb2⟩;refine hC _ _ ⟨a,b,c,e,?_,sb2⟩;rw [G3,dS,Xg hT] at kR2;exact kR2
  rintro i d _ h2 hd ⟨a,b',c,rfl,kR2,sb2⟩;rw [P4] at hd;cases hx:T[i]? with
  |none=>rw [hx] at hd;cases hd
  |some r=>
   rw [hx] at hd;cases hd;have hr:=S0 hx;have hil:i<T.length:=(D3.mp hx).1;refine⟨_,rfl,R,rfl,?_⟩;refine GR (G6 k) (λj=> .int (j:P3)) (λj=> .int (jz k λm=>r.getD m 0*ent U m j)) (by rw [D6];omega) rfl (λR rr=>⟨_,rfl,(k:P3),rfl,by omega,by omega,rr⟩) (λj hj Q'' q''=> ?_) ?_
   ·refine Ay (G6 k) (λm=> .int (m:P3)) (λm=>r.getD m 0*ent U m j) (by rw [D6];omega) rfl (λR rr=>⟨_,rfl,(k:P3),rfl,by omega,by omega,rr⟩) (λm hm Q3 q3=> ?_) q'';have hm':=P6.mp hm;have hj':=P6.mp hj;refine⟨_,rfl,_,rfl,_,Jc (hT.row r hr) hm',_,rfl,_,rfl,_,WL hU hm',_,rfl,_,Jc (hU.row _ (Sq.getRow hU hm')) hj',?_,q3⟩;refine Xf (e:=b) (f:=f) ?_ (hU.ent_nn hm' hj') (by omega);have hm2:m<r.length:=by rw [hT.row r hr];exact hm'
    have e1:r.getD m 0=r[m]:=by rw [D5,P2 hm2];rfl
    rw [e1];exact⟨hT.nn r hr _ (C5 hm2),hT.bit r hr _ (C5 hm2)⟩
   ·refine⟨_,kR2,?_,_,Sub.refl _,by rw [G3];omega,_,_,_,rfl,?_,?_⟩
    ·rw [G3,N3];exact aR (show min i T.length<=1000 by rw [hT.len];omega) (by decide)
    ·rw [ja,T2,hx,B6];rfl
    ·exact(sb2).over fR
 rintro _ h3 ⟨a,b,c,rfl,kR3,sb3⟩;exact⟨_,rfl,_,kR3,_,sb3,q⟩
def wl:RDn:=λds h Q=> ∃T,∃n e:G7,ds= [jf T]/\Sq n e T/\n<=6/\Q (jf (je n T)) h
theorem ZX (Z:Zs mg)(F:Fun K "_law_marked" "_law_marked" wM f fd):FnOk P w K mg base CX0 (n+1) f fd ["_law_table"] (LSp K wl):=by
 refine F.okM wg (λhr=>(jE (wq (zd jP rfl Z.tuple (by decide +kernel) (j1 (jl0 1 wg (jB (jv 0)) (λ_ _ _ _=>(zd jP rfl Z.tuple (by decide +kernel) (j1 (jl0 2 wg (jB (jv 1)) (λ_ _ _ _=>(zd Mj rfl Z.int (by decide +kernel) (j1 (jc1 DW (jv 2) zc)))))))))))))) ?_;rintro ds h Q ⟨T,k,b,rfl,hT,h6,q⟩;refine⟨rfl,?_⟩;refine GR T zJ (λr=> .tup (r.map λx=> .int (if x≠0 then 1 else 0))) (by rw [hT.len];omega) rfl (λR r=>⟨_,rfl,r⟩) (λr hr Q' q'=> ?_) ⟨h,Sub.refl h,?_⟩
 ·refine GR r D.int (λx=> .int (if x≠0 then 1 else 0)) (by rw [hT.row r hr];omega) rfl (λR r=>⟨_,rfl,r⟩) (λx hx Q'' q''=>⟨_,rfl,?_⟩) q';show Q'' (.int (if decide (x>0)=true then 1 else 0)) h;have e:(if decide (x>0)=true then (1:P3) else 0)=if x≠0 then 1 else 0:=by
   have:=hT.nn r hr x hx
   by_cases z:x=0
   ·subst z;rfl
   ·rw [R0 z,R0 (D7 (by omega))]
  rw [e];exact q''
 ·rw [GS,<-GT hT];exact q
def yL:RDn:=λds h Q=> ∃T,∃n e:G7,ds= [jf T]/\Sq n e T/\1<=n/\n<=6/\Q (.bl (jF T)) h
theorem ZY (Z:Zs mg)(F:Fun K "_law_filled" "_law_filled" wN f fd):FnOk P w K mg base CX0 (n+1) f fd ["_law_table"] (LSp K yL):=by
 refine F.okM yH (λhr=>(jE (wq (jc1 DW (zq (Pb rfl) rfl Z.min (by decide +kernel) (j1 (jl0 1 yH (jB (jv 0)) (λ_ _ _ _=>(zq (Pb rfl) rfl Z.min (by decide +kernel) (j1 (jv 1))))))) zc)))) ?_;rintro ds h Q ⟨T,k,b,rfl,hT,h1,h6,q⟩;refine⟨rfl,?_⟩;have ne: ∀r∈T,r≠ []:=λr hr z=>by have:=hT.row r hr;rw [z] at this;simp at this;omega
 refine Ez T zJ Ju (by rw [hT.len];omega) rfl (λR r=>⟨_,rfl,r⟩) (λr hr Q' q'=>⟨_,rfl,NO (ne r hr) λm m1 m2=>by rw [Pc m1 m2];exact q'⟩) ?_ (λm m1 m2=>⟨h,Sub.refl h,?_⟩)
 ·intro z;have:=hT.len;rw [z] at this;simp at this;omega
 ·show Q (.bl (decide (m>0))) h;rw [WN hT ne m1 m2];exact q
theorem La {i:G7}{t1 t2:TED}{d:D}(x:t1 (σ.set i (some d)) h λv h1=>t2 (σ.set i (some d)) h1 λw h2=>Op v w h2 λu h3=>E.nx ((σ.set i (some d)).set k (some u)) h3):gN i d σ h (λrF h2=>QK k (dOp Op t1 t2) E rF h2):=x
theorem BG (m:G7):((rwB m).map λr=>D.tup (r.map D.int++ [.int 0]))++((rwB m).map λr=>D.tup (r.map D.int++ [.int 1]))=(rwB (m+1)).map zJ:=by
 rw [rwB,B6,T6,T6]
 congr 1<;>exact M9 λr _=>by show _=D.tup (mU D.int _);rw [B6];rfl
theorem RV (rs:G0 (G0 P3))(k:G7):((wH rs k).flatMap λT=>rs.map λr=>D.tup (T.map zJ++ [zJ r]))=(wH rs (k+1)).map jf:=by
 show _=((wH rs k).flatMap _).map jf;rw [bQ]
 congr 1
 funext T
 rw [T6];exact M9 λr _=>by show _=D.tup (mU zJ _);rw [B6];rfl
theorem Dv {m:G7}(h:m<=3):(rwB m).length<=8:=by rw [Uy];exact K3 (j:=3) (by decide) h
def JB:RDn:=λds h Q=> ∃s:G7,ds= [.int (s:P3)]/\s<=3/\ ∀A h',h A=none->h' A=some ((wv s).map jf)->Sub h h'->Q (.lst A) h'
theorem VA (Z:Zs mg)(F:Fun K "_law_bits" "_law_bits" vg f fd):FnOk P w K mg base CX0 (n+1) f fd ["_law_size"] (LSp K JB):=by
 refine F.okM jr (λhr=>(js5 (jse 1 jr (XX (j1 (Ua yc)))) (QL F5 rfl (jrg Z (jv 0)) (jgn 2 jr) (jE (jse 1 jr (jop zC (jl0 6 jr (jB (jv 1)) (λ_ _ _ _=>(jop zC (jv 6) (Ua (j1 zc))))) (jl0 6 jr (jB (jv 1)) (λ_ _ _ _=>(jop zC (jv 6) (Ua (j1 zc))))))))) (jse 3 jr (XX (j1 (Ua yc)))) (QL F5 rfl (jrg Z (jv 0)) (jgn 2 jr) (js3 (jse 4 jr (XX yc)) (QL F5 rfl (jB (jv 3)) (jgn 5 jr) (jE (jse 4 jr (jop zC (jv 4) (jl0 6 jr (jB (jv 1)) (λ_ _ _ _=>(jop zC (jv 5) (Ua (j1 (jv 6)))))))))) (jse 3 jr (jv 4)))) (wq (jv 3)))) ?_;rintro ds h Q ⟨s,rfl,h3,q⟩;refine⟨rfl,?_⟩;refine jw (λrD h'=> ∃A,rD= [some (.int (s:P3)),some (.lst A),none,none,none,none,none]/\h A=none/\h' A=some ((rwB 0).map zJ)/\Sub h h') (λC hC=>⟨sz0,sz1,λA eA=>hC _ _ ⟨A,rfl,eA,ja,Sub.new eA⟩⟩) ?_;rintro _ h1 ⟨A,rfl,fA,kA,sb⟩;refine jw (λrD h'=> ∃A a b,rD= [some (.int (s:P3)),some (.lst A),a,none,none,none,b]/\h' A=some ((rwB s).map zJ)/\Sub h h') (λC hC=> ?_) ?_
 ·refine Zo (h1:=h1) s (λk rD h'=> ∃A a b,rD= [some (.int (s:P3)),some (.lst A),a,none,none,none,b]/\h' A=some ((rwB k).map zJ)/\Sub h h') (by omega) (λR r=>⟨_,rfl,r⟩) ⟨A,none,none,rfl,kA,sb⟩ (λrD h' z=>hC _ _ z) ?_;clear kA sb fA;rintro k _ h2 hk ⟨A,a,b,rfl,kA,sb⟩;have l8:=Dv (m:=k) (by omega);have ln: ∀r∈rwB k,(r.map D.int).length+1<=sizeLine:=λr hr=>by rw [G3,(Dg hr).1];exact S7 (show k+1<=6 by omega) (by decide)
  refine La ?_;refine lcA (j:=λh=>h A) (rwB k) zJ (λr=>D.tup (r.map D.int++ [.int 0])) (by omega) kA (λR r=>⟨_,rfl,r⟩) (λr hr Q' q'=>⟨_,rfl,sz1,ln r hr,q'⟩) (λF eF=>lcA (j:=λh=>h A) (rwB k) zJ (λr=>D.tup (r.map D.int++ [.int 1])) (by omega) (jt kA eF) (λR r=>⟨_,rfl,r⟩) (λr hr Q' q'=>⟨_,rfl,sz1,ln r hr,q'⟩) (λG eG=>⟨_,_,jt ja eG,ja,?_,λB eB=>⟨_,Sub.refl _,hk,B,_,_,rfl,?_,Sub.newAt (Sub.newAt (Sub.newAt sb eF) eG) eB⟩⟩))
  ·rw [G3,G3];exact S7 (show _<=16 by omega) (by decide)
  ·rw [ja,BG]
 clear kA sb fA;rintro _ h2 ⟨A,a,b,rfl,kA,sb⟩;refine jw (λrD h'=> ∃F,rD= [some (.int (s:P3)),some (.lst A),a,some (.lst F),none,none,b]/\h F=none/\h' F=some ((wH (rwB s) 0).map jf)/\h' A=some ((rwB s).map zJ)/\Sub h h') (λC hC=>⟨sz0,sz1,λF eF=>hC _ _ ⟨F,rfl,ze sb eF,ja,jt kA eF,Sub.newAt sb eF⟩⟩) ?_;clear kA sb;rintro _ h3' ⟨F,rfl,fF,kF,kA,sb⟩;have l8:=Dv h3;refine jw (λrD h'=> ∃F a b c d,rD= [some (.int (s:P3)),some (.lst A),a,some (.lst F),b,c,d]/\h F=none/\h' F=some ((wH (rwB s) s).map jf)/\Sub h h') (λC hC=> ?_) ?_
 ·refine Zo (h1:=h3') s (λk rD h'=> ∃F a b c d,rD= [some (.int (s:P3)),some (.lst A),a,some (.lst F),b,c,d]/\h F=none/\h' F=some ((wH (rwB s) k).map jf)/\h' A=some ((rwB s).map zJ)/\Sub h h') (by omega) (λR r=>⟨_,rfl,r⟩) ⟨F,_,_,_,_,rfl,fF,kF,kA,sb⟩ (λrD h' ⟨F,a,b,c,d,es,fF,kF,_,sb⟩=>hC _ _ ⟨F,a,b,c,d,es,fF,kF,sb⟩) ?_;clear kF kA sb fF;rintro k _ h4 hk ⟨F,a,b,c,d,rfl,fF,kF,kA,sb⟩;have lf:=Dr (k:=k) l8 (by omega);refine jw (λrD h'=> ∃G,rD= [some (.int (s:P3)),some (.lst A),some (.int (k:P3)),some (.lst F),some (.lst G),c,d]/\h G=none/\h' G=some []/\h' F=some ((wH (rwB s) k).map jf)/\h' A=some ((rwB s).map zJ)/\Sub h h') (λC' hC'=>⟨sz0,λG eG=>hC' _ _ ⟨G,rfl,ze sb eG,ja,jt kF eG,jt kA eG,Sub.newAt sb eG⟩⟩) ?_;clear kF kA sb;rintro _ h5 ⟨G,rfl,fG,kG,kF,kA,sb⟩;refine jw (λrD h'=> ∃G c d,rD= [some (.int (s:P3)),some (.lst A),some (.int (k:P3)),some (.lst F),some (.lst G),c,d]/\h G=none/\h' G=some ((wH (rwB s) (k+1)).map jf)/\h' A=some ((rwB s).map zJ)/\Sub h h') (λC' hC'=> ?_) ?_
  ·refine JR (h1:=h5) (j:=λh=>h F) ((wH (rwB s) k).map jf) (λi rD h'=> ∃G c d,rD= [some (.int (s:P3)),some (.lst A),some (.int (k:P3)),some (.lst F),some (.lst G),c,d]/\h G=none/\h' G=some (((wH (rwB s) k).take i).flatMap λT=>(rwB s).map λr=>D.tup (T.map zJ++ [zJ r]))/\h' F=some ((wH (rwB s) k).map jf)/\h' A=some ((rwB s).map zJ)/\Sub h h') (λR r=>⟨_,rfl,r⟩) (λ_ _ _ ⟨_,_,_,_,_,_,z,_⟩=>z) ⟨G,c,d,rfl,fG,kG,kF,kA,sb⟩ (λrD h' ⟨G,c,d,es,fG,kG,_,kA,sb⟩=>hC' _ _ ⟨G,c,d,es,fG,by rw [kG,G3,dS,RV],kA,sb⟩) ?_;clear kF kA kG sb fG;rintro i d0 _ h6 hd ⟨G,c,d,rfl,fG,kG,kF,kA,sb⟩;rw [P4] at hd;obtain⟨T,hT,rfl⟩:=N9.mp hd;have il:i+1<=((wH (rwB s) k).map jf).length:=by rw [G3];exact(D3.mp hT).1
   have tl:=(Jv _ (S0 hT)).1;have fl: ∀l:G0 (G0 (G0 P3)),(l.flatMap λT=>(rwB s).map λr=>D.tup (T.map zJ++ [zJ r])).length=(l.flatMap λ_=>rwB s).length:=λl=>by
    induction l with
    |nil=>rfl
    |cons x l ih=>rw [N6,N6,D4,D4,G3,ih]
   have sp:(wH (rwB s) k).flatMap (λ_=>rwB s)=((wH (rwB s) k).take i).flatMap (λ_=>rwB s)++((wH (rwB s) k).drop i).flatMap (λ_=>rwB s):=by rw [<-B1,Y1]
   have sl:=congrArg dA sp;rw [D4] at sl;refine⟨_,rfl,lcA (j:=λh=>h A) (rwB s) zJ (λr=>D.tup (T.map zJ++ [zJ r])) (by omega) kA (λR r=>⟨_,rfl,r⟩) (λr hr Q' q'=>⟨_,rfl,_,rfl,sz1,?_,q'⟩) (λM eM=>⟨_,_,jt kG eM,ja,?_,λN eN=>⟨_,Sub.refl _,il,N,_,_,rfl,ze (Sub.newAt sb eM) eN,?_,jt (jt kF eM) eN,jt (jt kA eM) eN,Sub.newAt (Sub.newAt sb eM) eN⟩⟩)⟩
   ·rw [G3,tl];exact S7 (show k+1<=6 by omega) (by decide)
   ·rw [fl,G3];exact S7 (show _<=1100 by omega) (by decide)
   ·rw [ja,T2,hT,B1];show _=some (_++oQ _ [T]);rw [N6,kY,J3]
  clear kF kA kG sb fG;rintro _ h6 ⟨G,c,d,rfl,fG,kG,kA,sb⟩;exact⟨_,rfl,_,Sub.refl _,hk,G,_,_,_,_,rfl,fG,kG,kA,sb⟩
 clear kF kA sb fF;rintro _ h4 ⟨F,a,b,c,d,rfl,fF,kF,sb⟩;exact⟨_,rfl,_,Sub.refl _,q F _ fF kF sb⟩
def JC:RDn:=λds h Q=> ∃T,∃n e:G7,ds= [jf T]/\Sq n e T/\1<=n/\n<=6/\Q (.int (wc n T)) h
theorem VB (Z:Zs mg)(F:Fun K "_law_soon" "_law_soon" vh f fd)(zG:jj P w K mg base n "_law_marked" ["_law_table"] wl)(Yo:jj P w K mg base n "_law_filled" ["_law_table"] yL)(VD:jj P w K mg base n "_law_times" ["_law_one","_law_other"] vR):FnOk P w K mg base CX0 (n+1) f fd ["_law_table"] (LSp K JC):=by
 refine F.okM zu (λhr=>(js4 (jse 1 zu (jk zG hr (j1 (jv 0)))) (jse 2 zu (jv 1)) (QL F5 rfl (OG rfl Z.range (j2 zc (jop zC (jop Mh (jop YG (Qt Z (jv 0)) zc) zc) zc))) (jgn 3 zu) (js2 (Df (WF (jk Yo hr (j1 (jv 2)))) (wq (jv 3))) (jse 2 zu (jk zG hr (j1 (jk VD hr (j2 (jv 2) (jv 1)))))))) (wq zc))) ?_;rintro ds h Q ⟨T,k,b,rfl,hT,h1,h6,q⟩;refine⟨rfl,?_⟩;have hM:Sq k 1 (je k T):=Sq.mark T;refine zO [some (jf T),some (jf (je k T)),none,none] (λC hC=>⟨_,rfl,T,k,b,rfl,hT,h6,hC⟩) ?_;refine zO [some (jf T),some (jf (je k T)),some (jf (je k T)),none] (λC hC=>⟨_,rfl,hC⟩) ?_;refine jw (λrD h'=>h=h'/\wc k T=0) (λC hC=> ?_) ?_
 ·have hm:(k-1)*(k-1)+1<1000000:=by
   have:=cN (show k-1<=5 by omega) (show k-1<=5 by omega);omega
  refine Rn 1 ((k-1)*(k-1)+1) (λi rD h'=> ∃F a,rD= [some (jf T),some (jf (je k T)),some (jf F),a]/\h=h'/\Sq k 1 F/\i<=(k-1)*(k-1)+1/\Qu k (je k T) ((k-1)*(k-1)+1-i) F (1+(i:P3))=wc k T) (by decide) (by decide) hm (λR r=>⟨_,rfl,⟨by decide,by decide,?_⟩,?_⟩) ⟨_,_,rfl,rfl,hM,B4 _,rfl⟩ ?_ ?_
  ·rw [G3,hT.len];omega
  ·have e:(((T.map zJ).length:P3)-1)^n4 2+2=1+(((k-1)*(k-1)+1:G7):P3):=by
    rw [G3,hT.len];have:((T.length:P3))=T.length:=rfl;rcases (show k=1\/k=2\/k=3\/k=4\/k=5\/k=6 by omega) with e|e|e|e|e|e<;>subst e<;>rfl
   have r':R [.int 1,.int ((((T.map zJ).length:P3)-1)^n4 2+2)] h:=by rw [e];exact r
   exact r'
  ·rintro _ _ ⟨F,a,rfl,rfl,hF,hi,hs⟩;refine hC _ _ ⟨rfl,?_⟩;rw [i6] at hs;exact hs.symm
  ·rintro i _ _ hi ⟨F,a,rfl,rfl,hF,_,hs⟩;have em:(k-1)*(k-1)+1-i=((k-1)*(k-1)+1-(i+1))+1:=by omega
   rw [em] at hs;have hs':(if jF F=true then (1+(i:P3)) else Qu k (je k T) ((k-1)*(k-1)+1-(i+1)) (je k (yf k F (je k T))) (1+(i:P3)+1))=wc k T:=hs;refine jw (λrD h'=>rD= [some (jf T),some (jf (je k T)),some (jf F),some (.int (1+(i:P3)))]/\h=h'/\jF F=false) (λC2 hC2=>⟨_,rfl,F,k,1,rfl,hF,h1,h6,_,rfl,BJ (λc=> ?_) (λc=>hC2 _ _ ⟨rfl,rfl,by simpa using c⟩)⟩) ?_
   ·rw [R0 c] at hs';exact⟨_,rfl,h,Sub.refl h,by rw [hs'];exact q⟩
   rintro _ _ ⟨rfl,rfl,c⟩;rw [c,R7 P9] at hs';refine⟨_,rfl,_,rfl,F,je k T,k,1,1,rfl,hF,hM,by omega,h6,yf k F (je k T),k,5,rfl,hF.mul hM (by omega),h6,_,Sub.refl _,by omega,_,_,rfl,rfl,Sq.mark _,by omega,?_⟩;rw [<-hs'];congr 1
 rintro _ _ ⟨rfl,z⟩;exact⟨h,Sub.refl h,by rw [<-z];exact q⟩
def vS:RDn:=λds h Q=> ∃T,∃n e:G7,ds= [jf T]/\Sq n e T/\1<=n/\n<=5/\ ∀m h',Lst n (je n T) m->Sub h h'->Q (jf m) h'
theorem Yl (Z:Zs mg)(F:Fun K "_law_least" "_law_least" yt f fd)(zG:jj P w K mg base n "_law_marked" ["_law_table"] wl):FnOk P w K mg base CX0 (n+1) f fd ["_law_table"] (LSp K vS):=by
 refine F.okM jp (λhr=>(js6 (jse 1 jp (jk zG hr (j1 (jv 0)))) (jse 2 jp (XX (j1 (Ua yc)))) (QL F5 rfl (jrg Z (Qt Z (jv 0))) (jgn 3 jp) (js3 (jse 4 jp (XX yc)) (QL F5 rfl (jB (jv 2)) (jgn 5 jp) (jE (jse 4 jp (jop zC (jv 4) (jl1 8 jp (jrg Z (Qt Z (jv 0))) (λ_ _ _ _=>(Re (WM hr.units) (jv 8) (jv 5) (by with_unfolding_all rfl))) (λ_ _ _ _=>(jop zC (jv 5) (Ua (j1 (jv 8)))))))))) (jse 2 jp (jv 4)))) (jse 6 jp (XX yc)) (QL F5 rfl (jB (jv 2)) (jgn 7 jp) (jE (Zr (Lm (jv 6) (zd jP rfl Z.tuple (by decide +kernel) (j1 (jl0 9 jp (jB (jv 7)) (λ_ _ _ _=>(zd jP rfl Z.tuple (by decide +kernel) (j1 (jl0 10 jp (jB (jv 7)) (λ_ _ _ _=>(ji1 (ji1 (jv 1) (jv 9)) (jv 10)))))))))))))) (wq (zq (Px rfl hr) rfl Z.min (by decide +kernel) (j1 (jv 6)))))) ?_;rintro ds h Q ⟨T,n,b,rfl,hT,n1,h5,q⟩;refine⟨rfl,?_⟩;refine zO [some (jf T),some (jf (je n T)),none,none,none,none,none,none,none,none,none] (λC hC=>⟨_,rfl,T,n,b,rfl,hT,by omega,hC⟩) ?_;refine jw (λrD h'=> ∃A,rD= [some (jf T),some (jf (je n T)),some (.lst A),none,none,none,none,none,none,none,none]/\h A=none/\h' A=some ((jG n 0).map zR)/\Sub h h') (λC hC=>⟨sz0,sz1,λA eA=>hC _ _ ⟨A,rfl,eA,ja,Sub.new eA⟩⟩) ?_;rintro _ h1 ⟨A,rfl,fA,kA,sb⟩;refine jw (λrD h'=> ∃A a b c,rD= [some (jf T),some (jf (je n T)),some (.lst A),a,b,c,none,none,none,none,none]/\h A=none/\h' A=some ((jG n n).map zR)/\Sub h h') (λC hC=> ?_) ?_
 ·refine Zo (h1:=h1) n (λk rD h'=> ∃A a b c,rD= [some (jf T),some (jf (je n T)),some (.lst A),a,b,c,none,none,none,none,none]/\h A=none/\h' A=some ((jG n k).map zR)/\Sub h h') (by omega) (λR r=>⟨_,rfl,by show R [.int (((T.map zJ).length:G7):P3)] _;rw [G3,hT.len];exact r⟩) ⟨A,none,none,none,rfl,fA,kA,sb⟩ (λrD h' z=>hC _ _ z) ?_;clear kA sb fA;rintro k _ h2 hk ⟨A,a,b,c,rfl,fA,kA,sb⟩;have l1:=JY n (by omega) k (by omega);refine jw (λrD h'=> ∃B,rD= [some (jf T),some (jf (je n T)),some (.lst A),some (.int (k:P3)),some (.lst B),c,none,none,none,none,none]/\h B=none/\B≠A/\h' B=some []/\h' A=some ((jG n k).map zR)/\Sub h h') (λC' hC'=>⟨sz0,λB eB=>hC' _ _ ⟨B,rfl,ze sb eB,zI kA eB,ja,jt kA eB,Sub.newAt sb eB⟩⟩) ?_;clear kA sb;rintro _ h3 ⟨B,rfl,fB,nB,kB,kA,sb⟩;refine jw (λrD h'=> ∃B c,rD= [some (jf T),some (jf (je n T)),some (.lst A),some (.int (k:P3)),some (.lst B),c,none,none,none,none,none]/\h B=none/\h' B=some ((jG n (k+1)).map zR)/\Sub h h') (λC' hC'=> ?_) ?_
  ·refine JR (h1:=h3) (j:=λh=>h A) ((jG n k).map zR) (λi rD h'=> ∃B c,rD= [some (jf T),some (jf (je n T)),some (.lst A),some (.int (k:P3)),some (.lst B),c,none,none,none,none,none]/\h B=none/\B≠A/\h' B=some (((jG n k).take i).flatMap λo=>((G6 n).filter λp=> !decide (p∈o)).map λp=>zR (o++ [p]))/\h' A=some ((jG n k).map zR)/\Sub h h') (λR r=>⟨_,rfl,r⟩) (λ_ _ _ ⟨_,_,_,_,_,_,z,_⟩=>z) ⟨B,c,rfl,fB,nB,kB,kA,sb⟩ (λrD h' ⟨B,c,es,fB,_,kB,_,sb⟩=>hC' _ _ ⟨B,c,es,fB,by rw [kB,G3,M1 (P0 _),XH],sb⟩) ?_;clear kA sb kB fB nB;rintro i d0 _ h4 hd ⟨B,c,rfl,fB,nB,kB,kA,sb⟩;rw [P4] at hd;obtain⟨o,ho,rfl⟩:=N9.mp hd;have om:=S0 ho;have il:i+1<=((jG n k).map zR).length:=by rw [G3];exact(D3.mp ho).1
   have fl: ∀l:G0 (G0 G7),(l.flatMap λo=>((G6 n).filter λp=> !decide (p∈o)).map λp=>zR (o++ [p])).length<=l.length*5:=λl=>by
    induction l with
    |nil=>exact P0 _
    |cons x l ih=>
     rw [N6,D4,G3,S4];have:=U4 (λp=> !decide (p∈x)) (G6 n);rw [D6] at this;omega
   have l2:=fl ((jG n k).take i);rw [N3] at l2;have l3:=U4 (λp=> !decide (p∈o)) (G6 n);rw [D6] at l3;refine⟨_,rfl,lcF (j:=λ_=>some ((G6 n).map (λ(k:G7)=>D.int (k:P3)))) (G6 n) (λ(k:G7)=>D.int (k:P3)) (λp=>zR (o++ [p])) (λp=> !decide (p∈o)) (by rw [D6];omega) rfl (λR r=>⟨_,rfl,(n:P3),by rw [G3,hT.len],by omega,by omega,r⟩) (λp hp Q' q'=>⟨_,rfl,_,rfl,Pr ⟨_,rfl,q'⟩⟩) (λp hp _ Q' q'=>⟨_,rfl,_,rfl,sz1,?_,by rw [Vv] at q';exact q'⟩) (λF eF=>⟨_,_,jt kB eF,ja,?_,λG eG=>⟨_,Sub.refl _,il,G,_,rfl,ze (Sub.newAt sb eF) eG,zI (jt kA eF) eG,?_,jt (jt kA eF) eG,Sub.newAt (Sub.newAt sb eF) eG⟩⟩)⟩
   ·rw [G3,(WY om).1];exact S7 (show k+1<=6 by omega) (by decide)
   ·rw [G3];exact S7 (show _<=700 by omega) (by decide)
   ·rw [ja,T2,ho,B1];show _=some (_++oQ _ [o]);rw [N6,kY,J3]
  rintro _ h4 ⟨B,c,rfl,fB,kB,sb⟩;exact⟨_,rfl,_,Sub.refl _,hk,B,_,_,_,rfl,fB,kB,sb⟩
 clear kA sb fA;rintro _ h2 ⟨A,a,b,c,rfl,fA,kA,sb⟩;have l1:=JY n (by omega) n (by omega);have hM:Sq n 1 (je n T):=Sq.mark T;refine jw (λrD h'=> ∃F,rD= [some (jf T),some (jf (je n T)),some (.lst A),a,b,c,some (.lst F),none,none,none,none]/\h F=none/\F≠A/\h' F=some []/\h' A=some ((jG n n).map zR)/\Sub h h') (λC' hC'=>⟨sz0,λB eB=>hC' _ _ ⟨B,rfl,ze sb eB,zI kA eB,ja,jt kA eB,Sub.newAt sb eB⟩⟩) ?_;clear kA sb;rintro _ h3 ⟨F,rfl,fF,nF,kF,kA,sb⟩;refine jw (λrD h'=> ∃d,rD= [some (jf T),some (jf (je n T)),some (.lst A),a,b,c,some (.lst F),d,none,none,none]/\h' F=some ((jG n n).map (λo=>jf (YQ n (wb n o) (je n T))))/\Sub h h') (λC' hC'=> ?_) ?_
 ·refine JR (h1:=h3) (j:=λh=>h A) ((jG n n).map zR) (λi rD h'=> ∃d,rD= [some (jf T),some (jf (je n T)),some (.lst A),a,b,c,some (.lst F),d,none,none,none]/\h' F=some (((jG n n).take i).map (λo=>jf (YQ n (wb n o) (je n T))))/\h' A=some ((jG n n).map zR)/\Sub h h') (λR r=>⟨_,rfl,r⟩) (λ_ _ _ ⟨_,_,_,z,_⟩=>z) ⟨none,rfl,kF,kA,sb⟩ (λrD h' ⟨d,es,kF,_,sb⟩=>hC' _ _ ⟨d,es,by rw [kF,G3,M1 (P0 _)],sb⟩) ?_;clear kA sb kF;rintro i d0 _ h4 hd ⟨d,rfl,kF,kA,sb⟩;rw [P4] at hd;obtain⟨o,ho,rfl⟩:=N9.mp hd;have om:=vF h5 (S0 ho);have lt: ∀x∈o,x<n:=(WY (S0 ho)).2;have ol:o.length=n:=om.ord.len;have il:i+1<=((jG n n).map zR).length:=by rw [G3];exact(D3.mp ho).1
  refine⟨_,rfl,_,rfl,GR (j:=λ_=>some (o.map (λ(k:G7)=>D.int (k:P3)))) o (λ(k:G7)=>D.int (k:P3)) (λi=> .tup (o.map λj=> .int (ent (je n T) i j))) (by omega) rfl (λR r=>⟨_,rfl,r⟩) (λx hx Q' q'=>GR (j:=λ_=>some (o.map (λ(k:G7)=>D.int (k:P3)))) o (λ(k:G7)=>D.int (k:P3)) (λj=> .int (ent (je n T) x j)) (by omega) rfl (λR r=>⟨_,rfl,r⟩) (λy hy Q'' q''=>⟨_,rfl,_,rfl,_,WL hM (lt x hx),_,rfl,_,Jc (hM.row _ (Sq.getRow hM (lt x hx))) (lt y hy),q''⟩) q') ⟨_,kF,?_,_,Sub.refl _,il,_,rfl,?_,yb (E4 nF) kA,Sub.over sb fF⟩⟩
  ·rw [G3,N3];exact aR (show _<=200 by omega) (by decide)
  ·rw [ja,T2,ho,B6,Bc om];rfl
 rintro _ h4 ⟨d,rfl,kF,sb⟩;obtain⟨m,hm,low⟩:=WX (xs:=(jG n n).map λo=>YQ n (wb n o) (je n T)) (λz=>Vj (aG.mp z));obtain⟨ys,g1,g2,g3,g4,g5⟩:=Xv (h:=h4) hm low (by rw [kF,T6];rfl);exact⟨_,rfl,.inr ⟨F,ys,(jf m,WK m),rfl,g1,g2,g3,g4,g5,_,Sub.refl _,q m _ (Bd hM h5 hm low) sb⟩⟩
theorem BH (x:te σ h λv h1=>OH [v] h1 λd h2=>E.nx (σ.set k (some d)) h2):QK k (dCB OH (jZ te Zk)) E σ h:=x
theorem BI (x:te σ h λv h1=> ∃ (a:P1) (Ts:G0 (G0 (G0 P3))) (M:G0 (G0 P3)),[v]= [.lst a]/\h1 a=some (Ts.map jf)/\Ts≠ []/\Ts.length<1000/\(∀T∈Ts,T=M)/\ ∀p,h1 p=none->E.nx (σ.set k (some (.lst p))) (wC h1 p [jf M])):QK k (AG (jZ te Zk)) E σ h:=x
theorem MH {s:G7}(h1:1<=s)(h3:s<=3):ShowOk (.list [WK (XE s)]):=by
 have c:s=1\/s=2\/s=3:=by omega
 rcases c with rfl|rfl|rfl<;>exact⟨by decide +kernel,by decide +kernel,by decide +kernel⟩
theorem Ym {A:P1}(k:h A=some [jf T]):ToP h (.lst A) (.list [WK T]):=⟨A,_,rfl,k,_,_,rfl,Uc h T,rfl⟩
def vT:RDn:=λds h Q=> ∃s:G7,ds= [.int (s:P3)]/\1<=s/\s<=3/\ ∀h',Sub h h'->Q (.bl true) h'
theorem Yn (Z:Zs mg)(F:Fun K "_law_right" "_law_right" yu f fd)(UJ:jj P w K mg base n "_law_bits" ["_law_size"] JB)(UM:jj P w K mg base n "_law_soon" ["_law_table"] JC)(VC:jj P w K mg base n "_law_least" ["_law_table"] vS)(wU:jj P w K mg base n "slowest_tables" ["size"] wA)(ZK:jj P w K mg base n "_law_same" ["_law_found","_law_due"] Mp):FnOk P w K mg base CX0 (n+1) f fd ["_law_size"] (LSp K vT):=by
 refine F.okM jL (λhr=>(js7 (FB (i:=5) (k:=1) (js:= [5]) rfl jL.nd rfl (E1 rfl) (jR (by rfl)) (jB (jk UJ hr (j1 (jv 0)))) (by decide) rfl (by first|exact E1 rfl|exact Q2 rfl) (λX' hX=>ye) (λX' hX=>by obtain⟨C,s₀,H₀,ex,rfl⟩:=hX;exact(Ua (j2 (jk UM hr (j1 (jv 5))) (jv 5))))) (jse 2 jL (zq (NN rfl) rfl Z.max (by decide +kernel) (j1 (Ax (i:=6) (j:=5) (js:= [6,5]) rfl (jR (by rfl)) (jB (jv 1)) (by decide) (by decide) (by decide) jL.nd rfl rfl (by first|exact E1 rfl|exact Q2 rfl) (by first|exact E1 rfl|exact Q2 rfl) (λX' hX=>ye) (λX' hX=>by obtain⟨C,s₀,H₀,ex,rfl⟩:=hX;exact(jv 6)))))) (jse 3 jL (EM hr rfl rfl Z.sorted rfl Z.set (j1 (Ax (i:=6) (j:=5) (js:= [6,5]) rfl (jR (by rfl)) (jB (jv 1)) (by decide) (by decide) (by decide) jL.nd rfl rfl (by first|exact E1 rfl|exact Q2 rfl) (by first|exact E1 rfl|exact Q2 rfl) (λX' hX=>by obtain⟨C,s₀,H₀,ex,rfl⟩:=hX;exact WG (jt1 (GI hr.units) (jv 6) (jv 2))) (λX' hX=>by obtain⟨C,s₀,H₀,ex,rfl⟩:=hX;exact(jk VC hr (j1 (jv 5)))))))) (jse 4 jL (jk wU hr (j1 (jv 0)))) (Df (YN (WF (jk ZK hr (j2 (jv 4) (jv 3))))) (wq jbl)) (Zr (Lm (jv 4) (Ua yc))) (wq (jor (jc1 DW (jv 0) zc) (NI (jk ZK hr (j2 (jk wU hr (j1 (jv 0))) (jv 3)))))))) ?_;rintro ds h Q ⟨s,rfl,h1,h3,q⟩;refine⟨rfl,?_⟩;have few:=(XD h3).2;obtain⟨sa,sx,sm⟩:=EO h1 h3;rw [N7] at sa sm;rw [Z8] at sx;obtain⟨T0,hT0,eT0⟩:=sx;have eT0:=N0 eT0;refine jw (λrD h'=> ∃P,rD= [some (.int (s:P3)),some (.lst P),none,none,none,none,none]/\h' P=some ((wv s).map λT=> .tup [.int (wc s T),jf T])/\Sub h h') (λC hC=> ?_) ?_
 ·refine Ms (wv s) jf (λT=>D.tup [.int (wc s T),jf T]) (λA h1=>h1 A=some ((wv s).map jf)/\Sub h h1) (by omega) (λR r=>⟨_,rfl,s,rfl,h3,λA h' fA kA sb=>r A h' ⟨kA,sb⟩⟩) (λA h1 z=>z.1) (λA h1' z T hT Q' q'=>⟨_,rfl,T,s,1,rfl,XC hT,h1,by omega,_,rfl,sz2,q'⟩) (λA h1 z p ep=>hC _ _ ⟨p,rfl,ja,Sub.newAt z.2 ep⟩)
 rintro _ h2 ⟨P,rfl,kP,sb⟩;refine jw (λrD h'=>rD= [some (.int (s:P3)),some (.lst P),some (.int (Yw s)),none,none,none,none]/\h' P=some ((wv s).map λT=> .tup [.int (wc s T),jf T])/\Sub h h') (λC hC=> ?_) ?_
 ·refine BH (EC (j:=λh=>h P) (wv s) (λT=> .int (wc s T)) jf (λT=> .int (wc s T)) (by omega) kP (λR r=>⟨_,rfl,r⟩) (λT hT Q' q'=>⟨_,rfl,q'⟩) (λp ep=>⟨(wv s).map (wc s),_,?_,Sub.refl _,.inr ⟨p,rfl,by rw [ja,T6];rfl⟩,λm hm mx=> ?_⟩))
  ·exact λz=>by rw [aG.mp z] at hT0;cases hT0
  ·have em:m=Yw s:=by
    have a:=mx _ (N8 hT0);obtain⟨U,hU,rfl⟩:=R1.mp hm;have b:=N0 (sm U hU);rw [eT0] at a;omega
   subst em;exact hC _ _ ⟨rfl,jt kP ep,Sub.newAt sb ep⟩
 clear kP sb;rintro _ h4 ⟨rfl,kP,sb⟩;refine jw (λrD h'=> ∃U,rD= [some (.int (s:P3)),some (.lst P),some (.int (Yw s)),some (.lst U),none,none,none]/\h' U=some [jf (XE s)]/\Sub h h') (λC hC=>BI ⟨_,rfl,(wv s).length,(λi ys h'=>i<=(wv s).length/\ ∃Ts:G0 (G0 (G0 P3)),ys=Ts.map jf/\(∀y∈Ts,y=XE s)/\Ts.length<=i/\((∃T∈(wv s).take i,wc s T=Yw s)->Ts≠ [])/\h' P=some ((wv s).map λT=> .tup [.int (wc s T),jf T])/\Sub h h'),⟨B4 _,[],rfl,λy hy=>(nomatch hy),P0 _,λ⟨T,hT,_⟩=>(nomatch hT),kP,sb⟩,?_⟩) ?_
 ·clear kP sb;rintro i _ h5 ⟨hi,Ts,rfl,all,le,ne,kP,sb⟩;refine⟨by rw [G3];exact M3 (jC (by omega)),_,kP,by rw [G3];exact P0 _,λhl p hp=>⟨p,Ts,XE s,rfl,ja,ne ?_,by omega,all,λp2 hp2=>hC _ _ ⟨p2,rfl,ja,Sub.newAt (Sub.newAt sb hp) hp2⟩⟩,λd hd=> ?_⟩
  ·rw [G3] at hl;rw [M1 hl];exact⟨T0,hT0,eT0⟩
  rw [P4] at hd;obtain⟨T,hT,rfl⟩:=N9.mp hd;have tm:=S0 hT;have sq:=XC tm;have il:i+1<=(wv s).length:=(D3.mp hT).1;have tk:(wv s).take (i+1)=(wv s).take i++ [T]:=by rw [T2,hT];rfl
  refine⟨_,⟨_,_,rfl,rfl⟩,_,rfl,_,rfl,_,rfl,?_⟩
  by_cases z:wc s T=Yw s
  ·rw [D7 z];have ok:okS s T=true:=by
    have:=sa T tm;rw [D7 z] at this;simpa using this
   have ls:=Dk h3 ok;refine QJ ⟨_,rfl,T,s,1,rfl,sq,h1,by omega,λm h4 lm sb4=>⟨_,Sub.refl _,il,Ts++ [m],by rw [B6];rfl,λy hy=> ?_,by rw [D4];exact dX le,λ_=>by simp,sb4 _ _ kP,sb.trans sb4⟩⟩;rcases T5.mp hy with w|w
   ·exact all y w
   ·rw [G9.mp w];exact lm.only ls
  ·rw [T1 z];refine VQ ⟨_,Sub.refl _,il,Ts,rfl,all,j5 le,λ⟨U,hU,e⟩=>ne ?_,kP,sb⟩;rw [tk] at hU;rcases T5.mp hU with w|w
   ·exact⟨U,w,e⟩
   ·rw [G9.mp w] at e;exact absurd e z
 clear kP sb;rintro _ h5 ⟨U,rfl,kU,sb⟩;refine jw (λrD h'=> ∃F,rD= [some (.int (s:P3)),some (.lst P),some (.int (Yw s)),some (.lst U),some (.lst F),none,none]/\h' F=some [jf (XE s)]/\h F=none/\F≠U/\h' U=some [jf (XE s)]/\Sub h h') (λC hC=>⟨_,rfl,s,rfl,h1,h3,λF h' fF kF sb'=>hC _ _ ⟨F,rfl,kF,ze sb fF,zI kU fF,sb' _ _ kU,sb.trans sb'⟩⟩) ?_;clear kU sb;rintro _ h5 ⟨F,rfl,kF,fF,nF,kU,sb⟩;refine zO [some (.int (s:P3)),some (.lst P),some (.int (Yw s)),some (.lst U),some (.lst F),none,none] (λC hC=>⟨_,rfl,_,rfl,_,_,_,rfl,Ym kF,Ym kU,MH h1 h3,_,rfl,VQ (hC)⟩) ?_;refine jw (λrD h'=>rD= [some (.int (s:P3)),some (.lst P),some (.int (Yw s)),some (.lst U),some (.lst F),none,none]/\h' U=some [jf (XE s)]/\Sub h h') (λC hC=>⟨_,rfl,_,rfl,sz0,_,kF,by show 1<sizeLine;decide,hC _ _ ⟨rfl,yb (E4 nF) kU,sb.over fF⟩⟩) ?_;clear kU kF sb;rintro _ h6 ⟨rfl,kU,sb⟩;refine⟨_,rfl,_,rfl,BJ (λ_=>⟨_,Sub.refl _,q _ sb⟩) λ_=>⟨_,rfl,s,rfl,h1,h3,λF2 h' fF2 kF2 sb'=>⟨_,rfl,_,_,_,rfl,Ym kF2,Ym (sb' _ _ kU),MH h1 h3,_,Sub.refl _,q _ (sb.trans sb')⟩⟩⟩
theorem Lb {i:G7}(h:i<4): ∃s:G7,atI [D.int 1,.int 2,.int 2,.int 3] (i:P3)=some (.int (s:P3))/\1<=s/\s<=3:=by
 match i,h with
 |0,_=>exact⟨1,rfl,by decide,by decide⟩
 |1,_=>exact⟨2,rfl,by decide,by decide⟩
 |2,_=>exact⟨2,rfl,by decide,by decide⟩
 |3,_=>exact⟨3,rfl,by decide,by decide⟩
theorem Lc (Z:Zs mg)(F:Fun K "law" "law" Qw f fd)(UK:jj P w K mg base n "_law_cell" ["_law_script","_law_k"] Jy)(Qy:jj P w K mg base n "_law_pen" ["_law_cell_here"] ZJ)(yy:jj P w K mg base n "_law_right" ["_law_size"] vT)(UL:jj P w K mg base n "_law_draw" ["_law_pen_here","_law_many"] Jz):FnOk P w K mg base CX0 (n+1) f fd ["_law_script"] (LSp K GF):=by
 refine F.okM Dm (λhr=>(js2 (QL F5 rfl (NK (jop zC (XX (j1 (jk UK hr (j2 (jv 0) zc)))) (FC (jv 0) (GM zc) (GM zc)))) (jgn 1 Dm) (js2 (jse 2 Dm (jk Qy hr (j1 (jv 1)))) (Df (YN (WF (jk yy hr (j1 (ji1 (XX (j4 zc zc zc zc)) (jk UL hr (j2 (jv 2) zc))))))) (wq jbl)))) (wq (BO (jk yy hr (j1 zc)) (NI (jk yy hr (j1 zc))))))) ?_;rintro ds h Q ⟨ns,rfl,hh,hns,q⟩;refine⟨rfl,?_⟩;refine jw (λrD h'=>True) (λC hC=> ?_) (λrD h3 hV=>⟨1,rfl,by decide,by decide,λh4 _=>⟨_,rfl,QJ ⟨2,rfl,by decide,by decide,λh5 _=>⟨_,Sub.refl _,q h5⟩⟩⟩⟩);refine⟨_,rfl,ns,0,rfl,(by decide),λn0=>⟨sz1,λp1 e1=>⟨_,rfl,_,rfl,_,rfl,λp2 e2=>⟨_,_,jt ja e2,ja,?_,λp3 e3=>⟨p3,rfl,?_⟩⟩⟩⟩⟩
 ·have:(XV ns (some 1) (some 2)).length<=ns.length:=by unfold XV;rw [N3,Z4];omega
  rw [G3];exact M3 (jC (by simp only [S4,A9];omega))
 generalize hcs:([D.int n0]++(XV ns (some 1) (some 2)).map D.int)=cs;have hint: ∀d∈cs,∃c,d= .int c:=λd hd=>by
  rw [<-hcs] at hd;rcases T5.mp hd with z|z
  ·exact⟨n0,G9.mp z⟩
  ·obtain⟨x,_,e⟩:=R1.mp z;exact⟨x,e.symm⟩
 refine YK cs (λi rD h'=> ∃a1 a2,rD= [some (.scr ns),a1,a2]/\h' p3=some cs) (λi rD h' ⟨_,_,_,k⟩=>k) ⟨_,_,rfl,ja⟩ (λrD h' _=>hC _ _ bJ) ?_;rintro i d _ h4 hi ⟨b1,b2,rfl,k3⟩;obtain⟨c,rfl⟩:=hint d (S0 hi);have hil:i<cs.length:=(D3.mp hi).1;show yP _ _ _ [some (.scr ns),some (.int c),b2] h4;refine jw (λrD h'=> ∃p l fl,rD= [some (.scr ns),some (.int c),some (.lst p)]/\h' p=some [.int l,.int fl]/\0<=l/\h' p3=some cs/\p3≠p) (λC hC=> ?_) ?_
 ·refine⟨_,rfl,c,rfl,λp l fl ep l0 _=>hC _ _ ⟨p,l,fl,rfl,ja,l0,jt k3 ep,E4 (zI k3 ep)⟩⟩
 rintro _ h5 ⟨p,l,fl,rfl,kp,l0,k3,n3⟩;refine⟨sz4,λq1 f1=>⟨_,rfl,p,l,fl,4,rfl,jt kp f1,l0,by decide,by decide,λr l' r0 r4 l0'=> ?_⟩⟩;obtain⟨r,rfl⟩:=Int.eq_ofNat_of_zero_le r0;obtain⟨s,hs,s1,s3⟩:=Lb (i:=r) (by omega);exact⟨_,_,yb (zI kp f1) ja,hs,s,rfl,s1,s3,λh' sb=>⟨_,rfl,VQ ⟨_,Sub.refl _,hil,_,_,rfl,sb _ _ (yb n3 (jt k3 f1))⟩⟩⟩
end
theorem Ld {l:lM}{w:N2}{K:G4}{h:B3}{mg:Str->D0 G1}{fa:P1}(X:K.In h)(G:h.Ns L8 mg)(hfa:mg "law" =some (.ref fa))
 (d0:DefIn K "is_whole" Jj fu0 eu0)
 (d1:DefIn K "is_within" va fu1 eu1)
 (d2:DefIn K "is_place" Jk fu2 eu2)
 (d3:DefIn K "are_places" yk fu3 eu3)
 (d4:DefIn K "is_order" Jl fu4 eu4)
 (d5:DefIn K "is_table_row" we fu5 eu5)
 (d6:DefIn K "has_table_form" zA fu6 eu6)
 (d7:DefIn K "want_table" yn fu7 eu7)
 (d8:DefIn K "want_order" yo fu8 eu8)
 (d9:DefIn K "want_number" wI fu9 eu9)
 (d10:DefIn K "multiplied" yp fu10 eu10)
 (d11:DefIn K "full" Dl fu11 eu11)
 (d12:DefIn K "marks" UC fu12 eu12)
 (d13:DefIn K "renamed" ZD fu13 eu13)
 (d14:DefIn K "marks_after" wJ fu14 eu14)
 (d15:DefIn K "marks_and_return" zg fu15 eu15)
 (d16:DefIn K "all_marks" vc fu16 eu16)
 (d17:DefIn K "first_power" wK fu17 eu17)
 (d18:DefIn K "slowest_power" zP fu18 eu18)
 (d19:DefIn K "all_rows" Jm fu19 eu19)
 (d20:DefIn K "all_mark_tables" zl fu20 eu20)
 (d21:DefIn K "all_orders" yq fu21 eu21)
 (d22:DefIn K "least_alike" wL fu22 eu22)
 (d23:DefIn K "slowest_tables" zB fu23 eu23)
 (d24:DefIn K "_law_cell" vd fu24 eu24)
 (d25:DefIn K "_law_pen" Jn fu25 eu25)
 (d26:DefIn K "_law_draw" ve fu26 eu26)
 (d27:DefIn K "_law_same" vf fu27 eu27)
 (d28:DefIn K "_law_times" yr fu28 eu28)
 (d29:DefIn K "_law_marked" wM fu29 eu29)
 (d30:DefIn K "_law_filled" wN fu30 eu30)
 (d31:DefIn K "_law_bits" vg fu31 eu31)
 (d32:DefIn K "_law_soon" vh fu32 eu32)
 (d33:DefIn K "_law_least" yt fu33 eu33)
 (d34:DefIn K "_law_right" yu fu34 eu34)
 (d35:DefIn K "law" Qw fu35 eu35)
 {tk0:Tok}(v0:j6 K L8 "MOST_ROWS" =some (some (.int 6 tk0)))
 {tk1:Tok}(v1:j6 K L8 "MOST_RENAMED" =some (some (.int 5 tk1)))
 {tk2:Tok}(v2:j6 K L8 "MOST_LISTED" =some (some (.int 3 tk2)))
 (z:zsB K=true)
 : ∃fd:T7,(∀ (s:G2) (v:G1),lV s fd ⟨[v],[]⟩ [("_law_script",v)])/\ ∀base:B3,K.In base->base.Ns L8 mg->Bm mg base->FnOk l.prog w K mg base CX0 12 fa fd ["_law_script"] (LSp K GF):=by
 have e:=hfa.symm.trans (d35.nm X G);cases e;have zm: ∃tk,mg "MOST_ROWS" =some (.int 6 tk):=⟨_,g6 X G v0⟩;have wm: ∃tk,mg "MOST_RENAMED" =some (.int 5 tk):=⟨_,g6 X G v1⟩;have wP: ∃tk,mg "MOST_LISTED" =some (.int 3 tk):=⟨_,g6 X G v2⟩;have Z:=OQ X G z;obtain⟨_,_,kV,dc,pm,an,cd,ct,_,rfl,_⟩:=d35.fn.ex;refine⟨Z3 "law" "law" (wZ Qw) (zv Qw) (jb Qw) .none kV dc pm an cd ct,λs v=> .of_eq rfl,λbase _ _ B=> ?_⟩;have Ws:=λn=>d0.cal l w base X G (UE (n:=n+0) Z d0.fn)
 have ZN:=λn=>d1.cal l w base X G (Vt (n:=n+1) Z d1.fn (Ws (n+0)))
 have QH:=λn=>d2.cal l w base X G (UF (n:=n+2) Z d2.fn (ZN (n+0)))
 have VN:=λn=>d3.cal l w base X G (Yf (n:=n+3) Z d3.fn (QH (n+0)))
 have QF:=λn=>d4.cal l w base X G (UG (n:=n+4) Z d4.fn (VN (n+0)))
 have Wa:=λn=>d5.cal l w base X G (ZH (n:=n+1) Z d5.fn (Ws (n+0)))
 have JL:=λn=>d6.cal l w base X G (Jo (n:=n+2) Z d6.fn (Wa (n+0)) zm)
 have zV:=λn=>d7.cal l w base X G (Yg (n:=n+3) Z d7.fn (JL (n+0)))
 have VP:=λn=>d8.cal l w base X G (Yh (n:=n+5) Z d8.fn (QF (n+0)))
 have vY:=λn=>d9.cal l w base X G (ZT (n:=n+2) Z d9.fn (ZN (n+0)))
 have VO:=λn=>d10.cal l w base X G (Yi (n:=n+0) Z d10.fn)
 have Lf:=λn=>d11.cal l w base X G (BB (n:=n+4) Z d11.fn (zV (n+0)))
 have UU:=λn=>d12.cal l w base X G (RS (n:=n+4) Z d12.fn (zV (n+0)))
 have Dx:=λn=>d13.cal l w base X G (Qx (n:=n+6) Z d13.fn (zV (n+2)) (VP (n+0)))
 have Yu:=λn=>d14.cal l w base X G (ZU (n:=n+5) Z d14.fn (UU (n+0)) (VO (n+4)))
 have vX:=λn=>d15.cal l w base X G (vj (n:=n+6) Z d15.fn (UU (n+1)) (Yu (n+0)))
 have UT:=λn=>d16.cal l w base X G (Vu (n:=n+7) Z d16.fn (vX (n+0)))
 have Ys:=λn=>d17.cal l w base X G (ZV (n:=n+8) Z d17.fn (UT (n+0)) (Lf (n+3)))
 have ZO:=λn=>d18.cal l w base X G (JJ (n:=n+3) Z d18.fn (vY (n+0)) zm)
 have QD:=λn=>d19.cal l w base X G (UH (n:=n+0) Z d19.fn)
 have Js:=λn=>d20.cal l w base X G (vP (n:=n+1) Z d20.fn (QD (n+0)))
 have VM:=λn=>d21.cal l w base X G (Yj (n:=n+0) Z d21.fn)
 have Yt:=λn=>d22.cal l w base X G (ZW (n:=n+7) Z d22.fn (zV (n+3)) (UU (n+2)) (VM (n+6)) (Dx (n+0)) wm)
 have JM:=λn=>d23.cal l w base X G (Jp (n:=n+9) Z d23.fn (vY (n+6)) (ZO (n+5)) (Ys (n+0)) (Js (n+7)) (Yt (n+1)) wP)
 have UP:=λn=>d24.cal l w base X G (Vx (n:=n+0) Z d24.fn)
 have QC:=λn=>d25.cal l w base X G (UI (n:=n+0) Z d25.fn)
 have UQ:=λn=>d26.cal l w base X G (Vy (n:=n+0) Z d26.fn)
 have UR:=λn=>d27.cal l w base X G (Vz (n:=n+0) Z d27.fn)
 have VL:=λn=>d28.cal l w base X G (Yk (n:=n+0) Z d28.fn)
 have vW:=λn=>d29.cal l w base X G (ZX (n:=n+0) Z d29.fn)
 have Yr:=λn=>d30.cal l w base X G (ZY (n:=n+0) Z d30.fn)
 have UO:=λn=>d31.cal l w base X G (VA (n:=n+0) Z d31.fn)
 have US:=λn=>d32.cal l w base X G (VB (n:=n+1) Z d32.fn (vW (n+0)) (Yr (n+0)) (VL (n+0)))
 have VI:=λn=>d33.cal l w base X G (Yl (n:=n+1) Z d33.fn (vW (n+0)))
 have VJ:=λn=>d34.cal l w base X G (Yn (n:=n+10) Z d34.fn (UO (n+9)) (US (n+8)) (VI (n+8)) (JM (n+0)) (UR (n+9)))
 exact Lc (n:=11) Z d35.fn (UP 10) (QC 10) (VJ 0) (UQ 10)
end My
namespace PySem.W.Fast
def tw7750916718647184454:=()
def tw770188701228965067:=()
def tw16889814684049725225:=()
def tw3286965258730942247:=()
def tw4464663247476423810:=()
def tw7867760942324540134:=()
def tw2355982561441043536:=()
def tw5332845099463585630:=()
def tw3693311196731588122:=()
def tw11150380902799773223:=()
def tw764398925467706863:=()
def tw15896630213005796786:=()
def tw1714683974194524067:=()
def tw1867737872142031896:=()
def tw17705347915460857740:=()
def tw2543513769637046330:=()
def tw6714223936516872674:=()
def tw10029395501815744060:=()
def tw3543517146893459611:=()
def tw9664145662157052445:=()
def tw5564810078339783898:=()
def tw8712910376460937950:=()
def tw11753301318295572914:=()
def tw2578148688906788940:=()
def tw2450076649305292298:=()
def tw16094624200416006489:=()
def tw8072275146056552031:=()
def tw3035679260341872070:=()
def tw7586673153080675315:=()
def tw5189780151515036893:=()
def tw10594892629223932091:=()
def tw3683626476378228219:=()
def tw7267248726585017055:=()
def tw15605964704371757548:=()
def tw10371084866214694677:=()
def tw1237699177497667287:=()
def tw15998012974938543002:=()
def tw7791561066947494648:=()
def tw220335537076551964:=()
def tw16998641282231330741:=()
def tw13519650018621486331:=()
def tw16988794731747247565:=()
def tw13642434914198715112:=()
def tw11166889416279215818:=()
def tw11462367521846661183:=()
def tw7103248097648858220:=()
def tw2839456554376016777:=()
def tw3910117849902212796:=()
def tw16284737865502944726:=()
def tw12103519115967641212:=()
def tw9062283281919981966:=()
def tw9792391879826609504:=()
def tw2469767755510735439:=()
def tw2356633295976036689:=()
def tw14000965981205986689:=()
def tw13035905205819297400:=()
def tw18280150264676811120:=()
def tw8979295000750260584:=()
def tw3712200310200979309:=()
def tw8788579967783932746:=()
def tw17011221270346029126:=()
def tw10564492757785533740:=()
def tw3800339048087555000:=()
def tw3622341413078639443:=()
def tw1485328228542195503:=()
def tw12694978190240209284:=()
def tw17806018993178313430:=()
def tw16866933400669867500:=()
def tw9603420042379325905:=()
def tw18394946203681320154:=()
def tw3624140954018815739:=()
def tw18265514280556166240:=()
def tw1680709163163437018:=()
def tw13467510771923001971:=()
def tw11897964546081245564:=()
def tw9591788505300133434:=()
def tw8229145906846493675:=()
def tw5164428702616707886:=()
def tw15397887227698260562:=()
def tw17702147192714747908:=()
def tw4074062405514357111:=()
def tw11863224738525019591:=()
def tw5270884191376973293:=()
def tw4243486077813642647:=()
def tw13810320993995544822:=()
def tw14928257326191202632:=()
def tw16232025575359023468:=()
def tw7637294040616016454:=()
def tw5384773253603984915:=()
def tw13386319081915715276:=()
def tw4948294329563326181:=()
def tw15125714963860324914:=()
def tw5456189649051286914:=()
def tw13795987202380017585:=()
def tw13317569992599361267:=()
def tw3596815645630536735:=()
def tw11187313879681702123:=()
def tw10114286045761525218:=()
def tw5257391578404594167:=()
def tw17440516716719761222:=()
def tw17629910261021130322:=()
def tw1778816015759787953:=()
def tw8987238686400193357:=()
def tw4908041496401929893:=()
def tw4692522399627150214:=()
def tw3580177789789527592:=()
def tw9701525143980506117:=()
def tw5601629206204216272:=()
def tw17383793857007120459:=()
def tw13448319646688846565:=()
def tw14623130136612403076:=()
def tw8727938696205814839:=()
def tw1861924471025489331:=()
def tw9214739174614717715:=()
def tw13559187933357690094:=()
def tw9323589851314420529:=()
def tw15257537143638718027:=()
def tw10049819443010617676:=()
def tw16981966337643453053:=()
def tw4803456508115660783:=()
def tw12023232877459029935:=()
def tw535919723342642054:=()
def tw11174119005464941898:=()
def tw9824890476757134512:=()
end PySem.W.Fast
open PySem PySem.W PyProof.Rows
set_option maxRecDepth 100000 in
set_option maxHeartbeats 0 in
theorem PySem.Challenge.cw_firstpowers_k62_all_slowest_tables_holds : PySem.Challenge.rw_firstpowers_k62_all_slowest_tables.Holds := by
  w_on; o_law; k_head; (case hw => w_witness2)
  k_fill
  refine L2.Ra (l := PySem.Challenge.rw_firstpowers_k62_all_slowest_tables) (k := 12) (x := "_law_script") rfl rfl ⟨rfl, by decide, by decide, rfl⟩ (fun w h Y => PySem.W.kIn_of Y) ?B ?F
  case B => intro w; kernel_rfl
  case F =>
    intro w mg fa h KX G hmg
    refine' My.Ld KX G hmg ?d0 ?d1 ?d2 ?d3 ?d4 ?d5 ?d6 ?d7 ?d8 ?d9 ?d10 ?d11 ?d12 ?d13 ?d14 ?d15 ?d16 ?d17 ?d18 ?d19 ?d20 ?d21 ?d22 ?d23 ?d24 ?d25 ?d26 ?d27 ?d28 ?d29 ?d30 ?d31 ?d32 ?d33 ?d34 ?d35 ?v0 ?v1 ?v2 ?z
    case d0 | d1 | d2 | d3 | d4 | d5 | d6 | d7 | d8 | d9 | d10 | d11 | d12 | d13 | d14 | d15 | d16 | d17 | d18 | d19 | d20 | d21 | d22 | d23 | d24 | d25 | d26 | d27 | d28 | d29 | d30 | d31 | d32 | d33 | d34 | d35 => refine' L2.FU ?a ?l ?c ?k; (case a => k_is); (case l => k_is); (case c => k_is); (case k => k_is)
    case v0 | v1 | v2 => k_is
    case z => kernel_rfl
