import PyProof.Rows.All
import Wide.All
import OpenK.AllK
import Wide.FinOn
import Lean
import PyProof.EqAt
import PyProof.EqKinds
import PyProof.TupleCall
import PyProof.Rows.TopTwo
import KE.KIsAll
import PyProof.ExcAttrAll.ValueError
import KE.KTryMore
import KE.KRevIter
import PyProof.SetRoads
import PyProof.InstStoreFacts
import KE.KIntText
import PyProof.StrWalks
import PyProof.Rows.StrSplitJoin
import PyProof.StrLawsTight
import PySem.Challenge.RW_firstpowers_k74_tables_read
set_option Elab.async false
set_option linter.all false
set_option maxRecDepth 100000
set_option maxHeartbeats 8000000
open _root_ renaming List->G0,Option->G6,Nat->P4,Int->P9,decide_eq_false->S0,if_pos->S2,if_neg->S6,String->T0,decide_eq_true->T2,of_decide_eq_true->M0,Bool->B3,Array->B7,exists_eq_left'->U5,beq_self_eq_true->X7,if_true->X9,if_false->bK,of_decide_eq_false->eT,decide_eq_true_eq->fU,forall_congr'->i7,not_or->m8
open PySem renaming Value->G1,Shared->G4,Addr->G5,starEach->G9,wpAny_pure->P6,Program->D2,Expr->D3,wpAny->D5,FuncData->D6,model->D8,Around->R0,wpAny_mono->R9,Heap->S3,World->S4,compareOp->S8,foldedSetIterable->T4,eval->M2,Stmt->M4,mem_of_lookup->M6,backTo->M9,Scope->N0,binaryOp->N3,bootBuiltins->B4,cellsFrom->B5,PyData->B9,wpAny_truthy_bool->C6,wpAny_execs_cons->F0,wpAny_Call_Name_kw->F1,behindInMarks->F4,attributeBase->F7,wpAny_holding->O2,sizeLine_eq->O3,wpAny_newObj_type->A4,codeAny->A9,swapsWith->E1,codeAny_mono->E6,Keyword->E8,letOwnedTupleGo->E9,wpAny_newFunctionEnv_cells->K2,keywordEach->K3,codeAny_call_builtin->K4,wpAny_isSubtype_exc->Q0,wpAny_standAt->Q3,swapsWithSole->Q4,swappedStores->Q5,wpAny_execs_nil->Q9,wpAny_passesOwn->U0,sysModules->U6,assignEach->U7,sliceBounds->V2,holding->V7,boot_len->W3,codeAny_call_function->W7,builtinLookup_eq_fast->W9,rawInt->X1,wpAny_call->X2,wpAny_call_entry->X4,TriplesOk->X5,checkBuiltinCall->X8,Model->Y1,assign->Y3,builtinsNs->Z8,typeLookup->aG,backToKw->aH,call_meets->aI,closureFor->aJ,wpAny_binaryOp_repeat_ref->aT,wpAny_pyIter_list->aZ,IsPart->bG,noFill_tuple_add->bJ,wpAny_callSpecial?_slot->bL,codeAmong->bM,typeIs_int->bU,isInstance->b8,typeLookup_type->cI,ofString_length->cK,wpAny_loadName_local->cN,wpAny_bindName->cO,CmpOp->cP,wpAny_field->cT,lookup_relabel_local->cV,excClassObj->c4,standAt->c5,PassesOwn->c7,BindsTo->c8,leaving->c9,Arguments->dA,getItem->dB,callerA->dD,assignInOrder->dM,seq_tuple_add->dN,Comprehension->dP,frameOf->dR,wpAny_Name->dX,typeIs_str->eI,int_text_length_le->eO,wpAny_classOwn_exc->eQ,wpAny_Assign_Name->e8,bindArgs->fC,name_of_addr->fE,codeAny_func->fH,concat_meets->fJ,wpAny_sequenceKey->fK,wpAny_typeOf->fL,seqIndex_neg->fM,wpAny_pyIter_enum->fX,entryPlaceOf->fY,noteFrame->gC,seqSlot_of->gE,lookupAlong_cons->gH,bindL->gJ,bindC->gK,seqIndex_of->gL,pushCells_keeps->gR,codeAny_of_tree->gX,wpAny_mroOf_exc->gZ,bindName->g8,call->hU,newFunctionEnv->hZ,compEnvC->h8,compTurn->iA,behindIsImport->iD,boundAndCalled->iE,intText?->iF,refuseLoop_ref->iG,intBits_le_64->iO,evalPart_none->iQ,comprehension->iU,wpAny_attempt->iZ,typeLookup_eq->i4,lastMarks->i8,Fin->j0,setFlight->j7,strValues->j9,Within->kI,setItem->kK,Result->kM,callFunction->kP,callSpecial?->kX,interactive->lE,IsRangeIter->lF,Operator->lG,subscripted->lJ,setField->lL,readyFrames->lM,wpAny_rule->lR,pyNext->lS,wpAny_load->lU,reduceHash->lZ,seqRepeat?->l8,newObjAsIs->mB,release->mD,getAttr->mG,setAttr->mK,truthy->mU,pyIter->mV,again->mW,Params->mY,stored->mZ,cellOf->m5
open PySem.W renaming Frag->G2,keepIn->N4,kia_one->B1,fnOf->F8,hideAll_none->F9,hideAll->A0,hideAll_get->A8,cellsFrom_some->E7,callWith_K->U8,codeIn->V8,nsIn->Z4,of_hideAll->Z7,kitOne->aC,codeRec_of->aD,methodObj->aY,tabIn->bH,instObj->cC,lookIn->cQ,tabObj->cX,mg_of->dU,kitx_list->e9,kitx_dict->fA,plainGet->f6,OpenLaw->gV,findIn->g9,CodeHd->iB,hideAll_size->lD,kitx_float->lV,kitx_tuple->lW,ki_setBack->lY,mg_none_of->mC,hasDictIn->mE,plainOver->mF,specialIn->mH,kitx_none->mI,kitx_bool->mJ,eq_bytes->mL,ne_bytes->mM,kitx_int->mO,kitx_str->mP,kitx_own->mQ,ki_setAt->mR,codeHdIn->mS,takesIn->mT,InstAt->mX,tab_of->m7,mroIn->nB,WalkO->nC
open PySem.Str renaming ofString->G3,join->K5,empty->i9
open PySem.Heap renaming get?_push_of_some->G7,lt_size->P5,get?_push_size->S5,get?_update_other->L7,get?_none_of_le->K0,get?_update_self->W8,SameBut->Z2,get?_push_at->bF,FlyingW->bZ,size_push->cU
open List renaming length_map->G8,getElem?_eq_some_iff->P1,mem_cons->P2,mem_cons_self->P7,size_toArray->D0,mem_cons_of_mem->D1,mem_append_right->D4,all_eq_true->D7,replicate->D9,getElem?_eq_getElem->R3,getElem?_map->R4,mem_append->R5,mem_singleton->R6,length_append->S1,mem_of_getElem?->S7,mem_map->T1,not_mem_nil->T3,length_cons->T5,lookup_cons->T9,length_take->M8,map_cons->N7,contains_iff_mem->N9,length_nil->B0,getElem?_append_left->B6,mem_append_left->C0,getElem?_set_ne->C3,getElem?_append_right->C7,replicate_succ->C8,cons_append->F2,getElem?_cons_zero->L0,nil_append->L4,filterMap_cons->L6,map_map->O0,range->O5,map_append->A3,flatten_cons->A5,length_drop->E2,length_eq_zero_iff->E3,getElem?_set_self->E4,mem_filterMap->E5,length_singleton->J5,take_add_one->J7,map_nil->K7,getElem?_take_of_lt->Q6,append_nil->U2,of_mem_zip->U3,getElem?_replicate->V0,getElem?_cons_succ->V5,findIdx?_eq_some_iff_getElem->V6,getElem?_set->W1,length_replicate->W6,nodup_cons->Y4,dropWhile_cons->Z0,getD_eq_getElem?_getD->aK,findIdx?_eq_none_iff->aW,cons_ne_nil->bQ,take_of_length_le->bW,mem_filter->cE,forIn_cons->cF,getElem?_eq_none->cJ,length->cS,getElem?_range->dG,map_eq_nil_iff->dI,map_congr_left->dJ,getElem_of_mem->dL,any_cons->dO,all_cons->dQ,set_cons_succ->eU,set_cons_zero->eZ,take_sublist->fG,append_assoc->fN,getElem_mem->gF,take_length->gI,head?_cons->gY,mem_range->g7,foldl->hJ,sum_cons->iY,all_map->kO,any->m9
open Nat renaming le_refl->P0,lt_of_lt_of_le->P3,ne_of_lt->R7,le_trans->R8,le_of_lt->M3,lt_irrefl->N6,pow_le_pow_right->C4,ne_of_gt->F3,zero_le->O4,lt_of_le_of_lt->O6,lt_succ_self->K8,lt_trans->W0,lt_of_succ_le->W2,min_le_right->X3,isDigit_of_mem_toDigits->Z3,le_of_eq->bV,log2_lt->cY,mul_le_mul_left->dH,not_lt->eJ,succ_mul->fO,mul_comm->fQ,lt_succ_of_lt->fT,le_succ->gM,mul_le_mul->iI,add_le_add->iJ,pow_succ->kQ,toDigits->kU,sub_self->kY
open Bool renaming false_ne_true->P8,and_eq_true->R1,false_and->M7,eq_iff_iff->U1,eq_false_iff->W4,and_false->W5,or_eq_true->Y6,true_and->bI,or_eq_false_iff->cW,not_eq_true'->fZ,or_false->iT,false_or->i1
open PySem.Txt renaming split->S9,join->bP,mul->b9,slice->dE,slice_le->kW
open PySem.PyData renaming eqv->T6,depthAll->B2,canLayAll0->B8,str->L5,depth->O1,shown->bX,showable->cG,shownAll->cH,showableAll->eN,hasDictAll->fW,bool->gO,hasDict->iC,eqvAll->i6,int->l9
open PySem.NameKind renaming free->T7,cell->A7
open Option.some renaming inj->T8,injEq->J9
open Option renaming isSome_iff_exists->M1,map_eq_some_iff->L8,getD_none->f8
open Array renaming length_toList->M5,toList_append->Y9,isEmpty_eq_false_iff->aN,getElem?_eq_getElem->aV,getElem?_eq_none->bY,getElem?_toList->cL,mem_toList_iff->cR,find?_toList->dY,isEmpty_iff->fV,toList->kJ
open PySem.Value renaming ref->N5,str->X0,builtin->Y0,int->Z5,none->Z6,type->dW,bool->g6,isStrOf->iN,isInt->lA,float->lB
open PyProof.Rows renaming envOfC->N8,slot_tuple_getitem->C9,boot_all->O7,boot_isinstance->J4,callWith_type1->J6,part_short->V4,AllBare->Z1,assignInOrder_cons->Z9,subscriptTail_builtinR->bS,entry_tuple_getitem->dF,args_tuple_getitem->dZ,assignInOrder_nil->e7,callWith_builtin1->f7,IntsAre->g0,slicePart_none->hG,tupleItemsOf_->iP,subscriptTail->iR,mulOk_of->k7,IsTup->lC,digit_range->lO,recsOf->lQ,Subscript_->lX
open Ne renaming symm->C5
open PySem.Builtin.Str renaming occurrences->H0,partsBetween->i3
open Or renaming inl->L9,inr->X6
open PySem.Builtin.Slice renaming slicePlaces->O8,sliceAdjust->K9,sliceApplied->aE,slicePartIndex->gP,sliceFields->iK
open PySem.Sem renaming wp->O9,wp_mono->lK
open PySem.PassesOwn renaming never->A1
open PySem.Builtin.Tuple renaming tupleExact->A6,tupleItemsOf->aF,tupleIsExact->aL,tupleTooMany->aM,tupleHashOf->aU
open ForInStep renaming yield->J0
open PySem.NumText renaming digitsVal->J8,AllDigits->bE,digitsVal_snoc->k6,toDigits_all->lP
open True renaming intro->K1
open Sum renaming inr->K6,inl->aX
open PySem.Manifest renaming signature?->Q1
open PySem.F renaming args_tuple_add_2->Q7,entry_tuple_add->V1,plainAttrs_list->V3,slot_tuple_add->V9,slot_int_rmul->Y5,slot_list_count->bO,slot_str_split->cA,plainAttrs_str->cB,entry_bexc_ga->cM,args_bexc_ga->cZ,args_int_rmul_2->fP,entry_int_rmul->gA,fills_int_mul->gQ,attrBase_ValueError->g5,excBase_ValueError->iH,args_list_count_2->iM,slot_list_append->iV,type_list_append->iW,entry_list_count->i0,args_str_split_2->i2,store_ValueError->i5,slot_list_index->j5,type_list_index->j6,type_list_count->j8,entry_str_split->kG,type_str_split->kT,slot_str_join->k8,type_str_join->k9
open PySem.Builtin.List renaming listTooLong->Q8,listFitsIndex->hO
open PyProof.Rows.LCg renaming lst->U4
open PySem.SetTable renaming sizeAbove->U9
open PySem.Around renaming frames_deeper->Y2,under->bR
open Int renaming emod_nonneg->Y7,fdiv_eq_ediv_of_nonneg->aA,fmod_eq_emod_of_nonneg->aB,natCast_nonneg->aQ,emod_lt_of_pos->aR,lt_of_lt_of_le->aS,toNat->kH,ne_of_gt->kZ
open PySem.EntryCells renaming newEntry->Y8
open PySem.Code renaming quiet_builtin->aO,isFrame->fB,call->gG,isGuard->kL,frames->lH,guards->lI
open PySem.W.Looks renaming here->aP,of_pure->dS,ld->lN
open PySem.Obj renaming mapSeq->bT
namespace L2
open PySem PySem.Spec PyProof.Rows
abbrev Key:=Sum P9 Str
def WR:Key->G1->B3
 | .inl k,v=>lA k v
 | .inr x,v=>iN x v
def Br (w:S4):Key->P9
 | .inl k=>hashInt k
 | .inr x=>hashStr w x
theorem jF: ∀ {k:Key} {v:G1},WR k v=true->(∃i t,k=aX i/\v=Z5 i t)\/(∃x t,k=K6 x/\v=X0 x t)
 | .inl i,v,h=>by
  obtain⟨t,e⟩:=Value.isInt_shape (k:=i) (v:=v) h;exact .inl ⟨i,t,rfl,e⟩
 | .inr x,v,h=>by
  obtain⟨t,e⟩:=Value.isStrOf_shape (x:=x) (v:=v) h;exact .inr ⟨x,t,rfl,e⟩
theorem YB (i:P9)(t:Tok):WR (.inl i) (.int i t)=true:=by simp [WR,lA]
theorem YC (x:Str)(t:Tok):WR (.inr x) (.str x t)=true:=by simp [WR,iN]
theorem Ph (a b:P9):decide ((aX a:Key)=aX b)=(a==b):=by
 by_cases e:a=b
 ·subst e;simp
 ·have h: ¬ (aX a:Key)=aX b:=λq=>e (Sum.inl.inj q)
  rw [S0 h];exact(beq_eq_false_iff_ne.mpr e).symm
theorem Pi (a b:Str):decide ((K6 a:Key)=K6 b)=decide (a=b):=by
 by_cases e:a=b
 ·subst e;simp
 ·have h: ¬ (K6 a:Key)=K6 b:=λq=>e (Sum.inr.inj q)
  rw [S0 h,S0 e]
theorem Pj (a:P9)(b:Str):decide ((aX a:Key)=K6 b)=false:=S0 (λq=>nomatch q)
theorem Pk (a:Str)(b:P9):decide ((K6 a:Key)=aX b)=false:=S0 (λq=>nomatch q)
def zw (prog:D2)(w:S4):PySem.KeyKind prog w Key where
 is:=WR
 hash:=Br w
 inj:=λv a b ha hb=>by
  rcases jF ha with ⟨i,t,rfl,rfl⟩|⟨x,t,rfl,rfl⟩
  ·rcases jF hb with ⟨j,u,rfl,e⟩|⟨y,u,rfl,e⟩
   ·injection e with e1 _;rw [e1]
   ·exact nomatch e
  ·rcases jF hb with ⟨j,u,rfl,e⟩|⟨y,u,rfl,e⟩
   ·exact nomatch e
   ·injection e with e1 _;rw [e1]
 byValue:=λk v h=>by
  rcases jF h with ⟨i,t,rfl,rfl⟩|⟨x,t,rfl,rfl⟩<;>rfl
 pyHash:=λhv h=>by
  rcases jF hv with ⟨i,t,rfl,rfl⟩|⟨x,t,rfl,rfl⟩
  ·exact wpAny_pyHash_int h
  ·exact wpAny_pyHash_str h
 eqBool:=λhu hv h=>by
  rcases jF hu with ⟨i,t,rfl,rfl⟩|⟨x,t,rfl,rfl⟩
  ·rcases jF hv with ⟨j,u,rfl,rfl⟩|⟨y,u,rfl,rfl⟩
   ·rw [Ph] at h;exact wpAny_eqBool_int h
   ·rw [Pj] at h;exact SeqAt.EqAt.int_str i t y u _ _ _ _ h
  ·rcases jF hv with ⟨j,u,rfl,rfl⟩|⟨y,u,rfl,rfl⟩
   ·rw [Pk] at h;exact SeqAt.EqAt.str_int x t j u _ _ _ _ h
   ·rw [Pi] at h;exact wpAny_eqBool_str h
 «strs» :=λk x t v h=>by
  rcases jF h with ⟨i,u,rfl,e⟩|⟨y,u,rfl,e⟩
  ·exact nomatch e
  ·injection e with e1 _
   subst e1;cases v<;>rfl
theorem ZH (prog:D2)(w:S4)(i:P9)(t:Tok):(zw prog w).is (.inl i) (.int i t)=true:=YB i t
theorem ZI (prog:D2)(w:S4)(x:Str)(t:Tok):(zw prog w).is (.inr x) (.str x t)=true:=YC x t
inductive V where
 |non|bl (b:B3)|int (i:P9)|str (x:Str)|byt (b:B7 UInt8)|flt (b:UInt64)|ref (a:G5)|ty (n:T0)
 deriving DecidableEq
def RelV:V->G1->Prop
 | .non,u=>u=Z6
 | .bl b,u=>u=g6 b
 | .int i,u=> ∃t,u=Z5 i t
 | .str x,u=> ∃t,u=X0 x t
 | .byt b,u=> ∃t,u=Value.bytes b t
 | .flt b,u=> ∃t,u=lB b t
 | .ref a,u=>u=N5 a
 | .ty n,u=>u=dW n
abbrev Vals:G0 V->G0 G1->Prop:=Paired RelV
variable {us:G0 G1}
theorem Vals.length {xs:G0 V}(r:Vals xs us):xs.length=us.length:=Paired.length r
theorem Vals.get: ∀ {xs:G0 V} {us:G0 G1} {i:P4} {x:V},Vals xs us->xs[i]? =some x-> ∃u,us[i]? =some u/\RelV x u
 |_,_,_,_,.nil,e=>by simp at e
 |_,_,0,_,.cons r _,e=>by simp at e;subst e;exact⟨_,rfl,r⟩
 |_,_,i+1,x,.cons _ t,e=>by
  obtain⟨u,h1,h2⟩:=Vals.get (i:=i) (x:=x) t (by simpa using e);exact⟨u,by simpa using h1,h2⟩
variable {u:G1}
theorem Vals.set {x:V}(r:RelV x u): ∀ {xs:G0 V} {us:G0 G1} (i:P4),Vals xs us->Vals (xs.set i x) (us.set i u)
 |_,_,_,.nil=> .nil
 |_,_,0,.cons _ t=> .cons r t
 |_,_,i+1,.cons q t=> .cons q (Vals.set r i t)
theorem Vals.append: ∀ {xs ys:G0 V} {us ws:G0 G1},Vals xs us->Vals ys ws->Vals (xs++ys) (us++ws)
 |_,_,_,_,.nil,s=>s
 |_,_,_,_,.cons r t,s=> .cons r (Vals.append t s)
theorem Vals.take: ∀ {xs:G0 V} {us:G0 G1} (n:P4),Vals xs us->Vals (xs.take n) (us.take n)
 |_,_,0,_=> .nil
 |_,_,_+1,.nil=> .nil
 |_,_,n+1,.cons r t=> .cons r (Vals.take n t)
theorem Vals.drop: ∀ {xs:G0 V} {us:G0 G1} (n:P4),Vals xs us->Vals (xs.drop n) (us.drop n)
 |_,_,0,r=>r
 |_,_,_+1,.nil=> .nil
 |_,_,n+1,.cons _ t=>Vals.drop n t
def RelO:G6 V->G6 G1->Prop
 |some v,some u=>RelV v u
 |none,none=>True
 |_,_=>False
def KV {κ:Type}:G0 (κ×V)->G0 (κ×G1)->Prop:=Paired λ(p:κ×V) (q:κ×G1)=>p.1=q.1/\RelV p.2 q.2
def kV:Key->V
 | .inl i=> .int i
 | .inr x=> .str x
inductive HO where
 /-- a list -/
 |lst (xs:G0 V)
 /-- a tuple (never changes) -/
 |tup (xs:G0 V)
 /-- a dict whose keys are ints and texts;one whose keys are tuples of ints and texts (the empty one is both) -/
 |dK (kvs:G0 (Key×V))|dT (kvs:G0 (G0 Key×V))
 /-- a set of ints: its members,its size -/
 |set (S:P9->B3) (n:P4)
 /-- an instance of the class at C,its dict at dx,its attributes -/
 |ins (C dx:G5) (fs:G0 (Str×V))
 /-- the dict of the instance at x -/
 |own (x:G5)
 /-- the dict of an exception -/
 |xd (fs:G0 (Str×V))
 /-- a bound method,f of x -/
 |met (f x:G5)
 /-- a range object lo,lo+1,.. below hi -/
 |rng (lo hi:P9)
 /-- a thing that is known to the object (the script;a dict while a loop walks it):read,never written while it is so -/
 |frz (o:Obj) (u:HO)
 /-- a code object's table -/
 |tbl (ps:B7 G1)
 /-- any other thing,by what is true of its one object (a def of one's own: SetO a S n:=HO.ext λh=> ..) -/
 |ext (φ:S3->Prop)
abbrev Hp:=G5->G6 HO
def upd (H:Hp)(a:G5)(o:HO):Hp:=λb=>if b=a then some o else H b
variable {H:Hp}{a:G5}{o:HO}
theorem jf:upd H a o a=some o:=by unfold upd;rw [S2 rfl]
variable {b:G5}
theorem jd (h:b≠a):upd H a o b=H b:=by unfold upd;rw [S6 h]
theorem XO {u:HO}:upd (upd H a o) a u=upd H a u:=by
 funext b;unfold upd;split<;>rfl
theorem WS {u:HO}(h:H a=some o)(h':H b=some u)(d:o≠u):a≠b:=by
 intro e;subst e;rw [h] at h';exact d (T8 h')
theorem je (h:H a=some o)(h':H b=none):a≠b:=by
 intro e;subst e;rw [h] at h';cases h'
def IsTupN (h:S3)(a:G5)(items:B7 G1):Prop:= ∃o,h.get? a=some o/\o.cls= .type "tuple" /\o.dict=none/\ ∃n,o.data= .seq items n
theorem IsTupN.tup {h:S3}{a:G5}{items:B7 G1}(x:IsTupN h a items):lC h a items:=let ⟨o,e,c,_,n,d⟩:=x;⟨o,e,c,n,d⟩
theorem IsTupN.new (h:S3)(items:B7 G1):IsTupN (h.push {cls:= .type "tuple",data:= .seq items}) h.objs.size items:=⟨_,S5 _ rfl,rfl,rfl,_,rfl⟩
section
variable (P:D2)(w:S4)
def ObjOk (H:Hp)(h:S3)(a:G5):HO->Prop
 | .lst xs=>xs.length<=sizeLine/\ ∃ (its:G0 G1) (n:P4),Vals xs its/\h.get? a=some {cls:= .type "list",data:= .seq its.toArray n}
 | .tup xs=>xs.length<=sizeLine/\ ∃its:G0 G1,Vals xs its/\IsTupN h a its.toArray
 | .dK kvs=>kvs.length<=sizeLine/\(a==U6)=false/\ ∃vs,KV kvs vs/\h.DictOf (zw P w) a vs
 | .dT kvs=>kvs.length<=sizeLine/\(a==U6)=false/\ ∃xs:G0 (G0 Key×G5×G1),
  Paired (λ(p:G0 Key×V) (q:G0 Key×G5×G1)=>p.1=q.1/\H q.2.1=some (.tup (p.1.map kV))/\RelV p.2 q.2.2) kvs xs/\
  ∃o es ep,h.get? a=some o/\o.ExactDict/\o.data= .dict es ep/\es.toList=xs.map (entryOfKey (tupleKind (zw P w)))/\(xs.map (·.1)).Nodup
 | .set S n=>h.SetOf (intKind P w) a S n
 | .ins C dx fs=>H dx=some (.own a)/\fs.length<=1000/\dx≠a/\h.get? a=some (cC C dx)/\
  ∃mA,h.Ns1 dx mA/\(∀f,RelO (fs.lookup f) (mA f))/\kI mA (fs.map (·.1))
 | .own _=> ∃o,h.get? a=some o
 | .xd fs=> ∃mA,h.Ns1 a mA/\ ∀f,RelO (fs.lookup f) (mA f)
 | .rng lo hi=> ∃t u v,h.get? a=some {cls:= .type "range",data:= .fields #[.int lo t,.int hi u,.int 1 v]}
 | .frz o u=>h.get? a=some o/\ObjOk H h a u
 | .tbl ps=>h.get? a=some {cls:= .none,data:= .fields ps}
 | .met f x=>h.get? a=some (aY (.ref f) (.ref x))
 | .ext φ=>φ h/\(∃o,h.get? a=some o)/\ ∀h1 h2:S3,φ h1->(∀o,h1.get? a=some o->h2.get? a=some o)->φ h2
def HOk (H:Hp)(h:S3):Prop:= ∀a o,H a=some o->ObjOk P w H h a o
end
section
variable {P:D2}{w:S4}{H H':Hp}{h h':S3}{a:G5}{o:HO}
theorem ObjOk.lt (x:ObjOk P w H h a o):a<h.objs.size:=by
 cases o with
 |lst xs=>obtain⟨_,_,_,_,e⟩:=x;exact P5 e
 |tup xs=>obtain⟨_,_,_,p⟩:=x;exact p.tup.lt
 |dK kvs=>obtain⟨_,_,_,_,o,_,_,e,_⟩:=x;exact P5 e
 |dT kvs=>obtain⟨_,_,_,_,o,_,_,e,_⟩:=x;exact P5 e
 |set S n=>obtain⟨o,_,_,_,e,_⟩:=x;exact P5 e
 |ins C dx fs=>obtain⟨_,_,_,e,_⟩:=x;exact P5 e
 |own y=>obtain⟨_,e⟩:=x;exact P5 e
 |xd fs=>obtain⟨_,⟨_,_,_,e,_⟩,_⟩:=x;exact P5 e
 |rng lo hi=>obtain⟨_,_,_,e⟩:=x;exact P5 e
 |frz ob u=>obtain⟨e,_⟩:=x;exact P5 e
 |tbl ps=>exact P5 (show h.get? a=some _ from x)
 |met f y=>exact P5 (show h.get? a=some _ from x)
 |ext φ=>obtain⟨_,⟨_,e⟩,_⟩:=x;exact P5 e
theorem Paired.mapP {α β:Type}{F G:α->β->Prop}: ∀ {oB:G0 α} {oC:G0 β},Paired F oB oC->(∀a b,F a b->G a b)->Paired G oB oC
 |_,_,.nil,_=> .nil
 |_,_,.cons r t,f=> .cons (f _ _ r) (Paired.mapP t f)
theorem ObjOk.stay (x:ObjOk P w H h a o)(k: ∀b u,(b=a\/H b=some (.own a))->h.get? b=some u->h'.get? b=some u)
 (ho: ∀b,H b=some (.own a)->H' b=some (.own a))(ht: ∀b xs,H b=some (.tup xs)->H' b=some (.tup xs)):ObjOk P w H' h' a o:=by
 induction o with
 |lst xs=>obtain⟨z,its,n,r,e⟩:=x;exact⟨z,its,n,r,k _ _ (.inl rfl) e⟩
 |tup xs=>obtain⟨z,its,r,ob,e,c⟩:=x;exact⟨z,its,r,ob,k _ _ (.inl rfl) e,c⟩
 |dK kvs=>obtain⟨z,y,vs,r,ob,es,ep,e,c⟩:=x;exact⟨z,y,vs,r,ob,es,ep,k _ _ (.inl rfl) e,c⟩
 |dT kvs=>
  obtain⟨z,y,xs,r,ob,es,ep,e,c⟩:=x;exact⟨z,y,xs,Paired.mapP r λp q z=>⟨z.1,ht _ _ z.2.1,z.2.2⟩,ob,es,ep,k _ _ (.inl rfl) e,c⟩
 |set S n=>obtain⟨ob,es,ep,t,e,c⟩:=x;exact⟨ob,es,ep,t,k _ _ (.inl rfl) e,c⟩
 |ins C dx fs=>
  obtain⟨d,z,ne,e,mA,⟨od,es,ep,e2,c⟩,r⟩:=x;exact⟨ho _ d,z,ne,k _ _ (.inl rfl) e,mA,⟨od,es,ep,k _ _ (.inr d) e2,c⟩,r⟩
 |own y=>obtain⟨ob,e⟩:=x;exact⟨ob,k _ _ (.inl rfl) e⟩
 |xd fs=>obtain⟨mA,⟨od,es,ep,e,c⟩,r⟩:=x;exact⟨mA,⟨od,es,ep,k _ _ (.inl rfl) e,c⟩,r⟩
 |rng lo hi=>obtain⟨t,u,v,e⟩:=x;exact⟨t,u,v,k _ _ (.inl rfl) e⟩
 |frz ob u ih=>obtain⟨e,q⟩:=x;exact⟨k _ _ (.inl rfl) e,ih q⟩
 |tbl ps=>
  have e:h.get? a=some {cls:= .none,data:= .fields ps}:=x;show h'.get? a=some {cls:= .none,data:= .fields ps};exact k a _ (.inl rfl) e
 |met f y=>
  have e:h.get? a=some (aY (.ref f) (.ref y)):=x;show h'.get? a=some (aY (.ref f) (.ref y));exact k a _ (.inl rfl) e
 |ext φ=>obtain⟨p,⟨o,e⟩,st⟩:=x;exact⟨st _ _ p λo q=>k _ _ (.inl rfl) q,⟨o,k _ _ (.inl rfl) e⟩,st⟩
theorem HOk.lt (x:HOk P w H h)(e:H a=some o):a<h.objs.size:=(x a o e).lt
theorem HOk.fresh (x:HOk P w H h)(e:h.objs.size<=a):H a=none:=by
 cases q:H a with
 |none=>rfl
 |some u=>exact absurd (P3 (x.lt q) e) (N6 _)
theorem HOk.kept (x:HOk P w H h)(k: ∀b u,h.get? b=some u->h'.get? b=some u):HOk P w H h':=λa o e=>
 (x a o e).stay (λb u _ q=>k b u q) (λ_ q=>q) λ_ _ q=>q
theorem HOk.laid (x:HOk P w H h)(k: ∀b u,h.get? b=some u->h'.get? b=some u)(hp:h.objs.size<=a)(new:ObjOk P w (upd H a o) h' a o):HOk P w (upd H a o) h':=λb u e=>by
 have hn:=x.fresh hp
 by_cases hb:b=a
 ·subst hb;rw [jf] at e;cases e;exact new
 ·rw [jd hb] at e;exact(x b u e).stay (λc v _ q=>k c v q) (λc q=>by rw [jd (je q hn)];exact q) λc xs q=>by rw [jd (je q hn)];exact q
end
def Rd (H:Hp)(a:G5)(u:HO):Prop:=H a=some u\/ ∃o,H a=some (.frz o u)
variable {P:D2}{w:S4}{h:S3}
theorem Rd.ok {u:HO}(r:Rd H a u)(x:HOk P w H h):ObjOk P w H h a u:=by
 rcases r with r|⟨o,r⟩
 ·exact x a u r
 ·obtain⟨_,q⟩:=x a _ r;exact q
def Mut:G6 HO->Prop
 |some (.lst _)=>True
 |some (.dK _)=>True
 |some (.dT _)=>True
 |some (.set _ _)=>True
 |some (.ins _ _ _)=>True
 |some (.ext _)=>True
 |_=>False
section
variable {P:D2}{w:S4}{H:Hp}{h h':S3}{x e:G5}{o':HO}
theorem HOk.write (ok:HOk P w H h)(mu:Mut (H x))(he:e=x\/H e=some (.own x))(k: ∀b u,b≠e->h.get? b=some u->h'.get? b=some u)(heo: ∃u,h'.get? e=some u)
 (new:ObjOk P w (upd H x o') h' x o'):HOk P w (upd H x o') h':=λb u q=>by
 have nown: ∀c y,H c=some (.own y)->c≠x:=λc y r z=>by subst z;rw [r] at mu;exact mu
 have ntup: ∀c xs,H c=some (.tup xs)->c≠x:=λc xs r z=>by subst z;rw [r] at mu;exact mu
 by_cases hb:b=x
 ·subst hb;rw [jf] at q;cases q;exact new
 ·rw [jd hb] at q
  by_cases hbe:b=e
  ·have q':H b=some (.own x):=by
    rcases he with z|z
    ·exact absurd (hbe.trans z) hb
    ·rw [hbe];exact z
   rw [q] at q';cases q';obtain⟨v,hv⟩:=heo;exact⟨v,by rw [hbe];exact hv⟩
  ·refine(ok b u q).stay (λc v hc r=>k c v ?_ r) (λc r=>by rw [jd (nown c b r)];exact r) λc xs r=>by rw [jd (ntup c xs r)];exact r
   rcases hc with rfl|hc
   ·exact hbe
   ·rintro rfl;rcases he with z|z
    ·exact nown c b hc z
    ·rw [hc] at z;cases z;exact hb rfl
end
structure Un (fs ex:G0 G5)(H H':Hp)(h h':S3):Prop where
 keep: ∀b o,h.get? b=some o->H b=none->b ∉ fs->b ∉ ex->h'.get? b=some o
 slot: ∀b o,h.get? b=some o->H b=none->b∈fs->b ∉ ex-> ∃sl,h'.get? b=some {o with slots:=sl}
 free: ∀b o,h.get? b=some o->H b=none->b ∉ ex->H' b=none
 there: ∀b o,h.get? b=some o->b ∉ ex-> ∃o',h'.get? b=some o'
 tups: ∀b xs,H b=some (.tup xs)->H' b=some (.tup xs)
 frzs: ∀b o u,H b=some (.frz o u)->H' b=some (.frz o u)
 tbls: ∀b ps,H b=some (.tbl ps)-> ∃more,H' b=some (.tbl (ps++more))
section
variable {fs fs' ex ex':G0 G5}{H H1 H2:Hp}{h h1 h2 h':S3}{a x e:G5}{o:HO}
theorem Un.any (u:Un fs ex H H1 h h1){b:G5}{ob:Obj}(q:h.get? b=some ob)(n:H b=none)(hx:b ∉ ex): ∃sl,h1.get? b=some {ob with slots:=sl}:=by
 by_cases hb:b∈fs
 ·exact u.slot b ob q n hb hx
 ·exact⟨ob.slots,u.keep b ob q n hb hx⟩
theorem Un.kept (k: ∀b u,h.get? b=some u->h'.get? b=some u):Un fs ex H H h h':=
 ⟨λb ob q _ _ _=>k b ob q,λb ob q _ _ _=>⟨ob.slots,k b ob q⟩,λ_ _ _ n _=>n,λb ob q _=>⟨ob,k b ob q⟩,λ_ _ q=>q,λ_ _ _ q=>q,λ_ ps q=>⟨#[],by rw [q];simp⟩⟩
theorem Un.refl:Un fs ex H H h h:=Un.kept λ_ _ q=>q
theorem Un.laid (k: ∀b u,h.get? b=some u->h'.get? b=some u)(hp:h.objs.size<=a)(hn:H a=none):Un fs ex H (upd H a o) h h' where
 keep:=λb u q _ _ _=>k b u q
 slot:=λb u q _ _ _=>⟨u.slots,k b u q⟩
 free:=λb u q n _=>by rw [jd (R7 (P3 (P5 q) hp))];exact n
 there:=λb u q _=>⟨u,k b u q⟩
 tups:=λb xs q=>by rw [jd (je q hn)];exact q
 frzs:=λb u xs q=>by rw [jd (je q hn)];exact q
 tbls:=λb ps q=>⟨#[],by rw [jd (je q hn),q];simp⟩
theorem Un.write (mu:Mut (H x))(he:e=x\/H e=some (.own x))(k: ∀b u,b≠e->h.get? b=some u->h'.get? b=some u)(heo: ∃u,h'.get? e=some u):Un fs ex H (upd H x o) h h':=by
 have hx: ∀b,H b=none->b≠x:=λb n z=>by subst z;rw [n] at mu;exact mu
 have hb: ∀b,H b=none->b≠e:=λb n z=>by
  subst z;rcases he with r|r
  ·exact hx b n r
  ·rw [n] at r;cases r
 have hm: ∀b u,H b=some u-> ¬Mut (some u)->b≠x:=λb u q nm z=>by subst z;rw [q] at mu;exact nm mu
 refine⟨λb u q n _ _=>k b u (hb b n) q,λb u q n _ _=>⟨u.slots,k b u (hb b n) q⟩,λb u q n _=>by rw [jd (hx b n)];exact n,λb u q _=> ?_,
  λb xs q=>by rw [jd (hm b _ q λz=>z)];exact q,λb u xs q=>by rw [jd (hm b _ q λz=>z)];exact q,λb ps q=>⟨#[],by rw [jd (hm b _ q λz=>z),q];simp⟩⟩
 by_cases hbe:b=e
 ·subst hbe;exact heo
 ·exact⟨u,k b u hbe q⟩
end
def trk (h:S3)(H:Hp):G0 G5:=(O5 h.objs.size).filter λa=>(H a).isSome
def Uh (h:S3)(H:Hp):S3:=A0 h (trk h H)
theorem YD (h:S3)(H:Hp):(Uh h H).objs.size=h.objs.size:=lD _ _
theorem vW {o:Obj}(e:h.get? b=some o)(n:H b=none):(Uh h H).get? b=some o:=
 A8 _ e λhm=>by
  have q:(H b).isSome=true:=(cE.mp hm).2;rw [n] at q;simp at q
theorem XQ {o:Obj}(e:(Uh h H).get? b=some o):h.get? b=some o/\H b=none:=by
 have e':h.get? b=some o:=Z7 (trk h H) e;refine⟨e',?_⟩;cases q:H b with
 |none=>rfl
 |some x=>
  have hm:b∈trk h H:=cE.mpr ⟨g7.mpr (P5 e'),by simp [q]⟩;have z:(Uh h H).get? b=none:=F9 (trk h H) hm;rw [z] at e;cases e
def XR (g h:S3)(L:G5):G0 (G5×Obj):=(O5 h.objs.size).filterMap λa=>if a=L\/(g.get? a).isSome=true then none else (h.get? a).map λo=>(a,o)
def rest (g h:S3)(L d:G5):G0 (G5×Obj):=(XR g h L).filter λp=>decide (p.1≠d)
structure Mod (K:G2)(mg:Str->G6 G1)(base:S3):Prop where
 kin:K.In base
 glob:base.Ns mainGlobals mg
 blt: ∃mb,base.Ns Z8 mb/\ ∀x:Str,x≠ "__name__" ->mb x=B4 x
 nolimit:base.NoLimit
structure Cx where
 prog:D2
 w:S4
 K:G2
 mg:Str->G6 G1
 base:S3
 A:R0
 N:G0 Str
 s₀:G4
 H₀:Hp
 env:Env
 outer:G0 Env
 stack:G0 Env
 ex:G0 G5
 fn:Str->B3
 calm:B3
 pn:G0 (G5×Obj)
 xe:G1->G4->Prop
def frs (l:G0 Env):G0 G5:=l.filterMap (·.frame)
abbrev Cx.fs (X:Cx):G0 G5:=frs X.outer
def Vis (sc:N0)(x:Str):Prop:=sc.names.lookup x=some .local\/sc.names.lookup x=some .cell\/sc.names.lookup x=some .free
def Loc (sc:N0)(x:Str):Prop:=sc.names.lookup x=some .local\/sc.names.lookup x=some .cell
def Bs (env:Env)(h:S3)(m:Str->G6 G1)(x:Str)(u:G1):Prop:=
 (env.kindOf x=some .local/\m x=some u)\/((env.kindOf x=some .cell\/env.kindOf x=some .free)/\ ∃c,env.cells.lookup x=some c/\h.IsCell c (some u))
structure Cx.Ok (X:Cx):Prop where
 mod:Mod X.K X.mg X.base
 kind:X.env.scope.kind= .function
 glob:X.env.globals=mainGlobals
 blt:X.env.builtins=Z8
 above:X.s₀.heap.objs.size<=X.env.locals
 inj: ∀x y c,X.env.cells.lookup x=some c->X.env.cells.lookup y=some c->x=y
 has: ∀x,(X.env.kindOf x=some .cell\/X.env.kindOf x=some .free)-> ∃c,X.env.cells.lookup x=some c
 cab: ∀x c,X.fn x=true->X.env.cells.lookup x=some c->X.s₀.heap.objs.size<=c
 hd:X.calm=true->X.A.handled=none
 frames:X.A.frames=some X.stack
 stk:X.stack=X.outer\/(X.stack=X.env::X.outer/\X.env.frame=some X.env.locals)
 exf: ∀b∈X.ex,b≠X.env.locals/\ ∀x c,X.env.cells.lookup x=some c->c≠b
 bs: ∀b o,X.base.get? b=some o->X.s₀.heap.get? b=some o/\X.H₀ b=none
 bsz:X.base.objs.size<=X.s₀.heap.objs.size
 noex: ∀b o,X.base.get? b=some o->b ∉ X.ex
 exfs: ∀b∈X.ex,b ∉ X.fs
 funs:X.s₀.heap.FunFrames X.base X.outer
 frf: ∀b∈X.fs,X.H₀ b=none
structure Inv (X:Cx)(pins:G0 (G5×Obj))(σ:G0 (G6 V))(H:Hp)(s:G4):Prop where
 ok:X.Ok
 os:s.os=X.s₀.os
 bare:Z1 s.gens
 base:Un X.fs X.ex X.H₀ H X.s₀.heap s.heap
 loc: ∃m,s.heap.Ns X.env.locals m/\ ∀ (i:P4) (x:Str) (v:V),X.N[i]? =some x->σ[i]? =some (some v)->Vis X.env.scope x-> ∃u,RelV v u/\Bs X.env s.heap m x u
 cell: ∀x c,X.env.cells.lookup x=some c-> ∃v,s.heap.IsCell c v
 free:H X.env.locals=none
 freeC: ∀x c,X.env.cells.lookup x=some c->H c=none
 pin: ∀p∈X.pn++pins,s.heap.get? p.1=some p.2/\H p.1=none/\p.1≠X.env.locals/\p.1 ∉ X.fs/\ ∀v,p.2.data≠ .cell v
 hok:HOk X.prog X.w H s.heap
 len:σ.length=X.N.length
section
variable {X:Cx}{pins:G0 (G5×Obj)}{σ:G0 (G6 V)}{H H':Hp}{s:G4}{h':S3}
theorem Cx.Ok.nofr (ok:X.Ok){b:G5}{o:Obj}(e:X.base.get? b=some o):b ∉ X.fs:=λhb=>by
 have:=(ok.funs.mem hb).1;rw [e] at this;cases this
theorem Inv.bs (I:Inv X pins σ H s): ∀b o,X.base.get? b=some o->s.heap.get? b=some o/\H b=none:=λb o e=>
 ⟨I.base.keep b o (I.ok.bs b o e).1 (I.ok.bs b o e).2 (I.ok.nofr e) (I.ok.noex b o e),I.base.free b o (I.ok.bs b o e).1 (I.ok.bs b o e).2 (I.ok.noex b o e)⟩
theorem Inv.bk (I:Inv X pins σ H s): ∀b o,X.base.get? b=some o->s.heap.get? b=some o:=λb o e=>(I.bs b o e).1
theorem Inv.mod (I:Inv X pins σ H s):Mod X.K X.mg X.base:=I.ok.mod
theorem Inv.kIn (I:Inv X pins σ H s):X.K.In s.heap:=I.ok.mod.kin.keeps I.bk
theorem Inv.lt (I:Inv X pins σ H s):X.env.locals<s.heap.objs.size:=let ⟨_,hn,_⟩:=I.loc;hn.lt
theorem Inv.sz (I:Inv X pins σ H s):X.s₀.heap.objs.size<=s.heap.objs.size:=R8 I.ok.above (M3 I.lt)
theorem Inv.nofs (I:Inv X pins σ H s){a:G5}(h:s.heap.objs.size<=a):a ∉ X.fs:=λhb=>by
 obtain⟨_,o,ho,_⟩:=I.ok.funs.mem hb;exact absurd (P3 (P5 ho) (R8 I.sz h)) (N6 _)
theorem Inv.cne (I:Inv X pins σ H s): ∀x c,X.env.cells.lookup x=some c->c≠X.env.locals:=λx c e z=>by
 obtain⟨v,o,ho,hd⟩:=I.cell x c e;obtain⟨m,⟨o',es,ep,ho',hd',_⟩,_⟩:=I.loc;rw [z,ho'] at ho;cases ho;rw [hd'] at hd;cases hd
theorem Inv.funs (I:Inv X pins σ H s):s.heap.FunFrames X.base X.outer:=by
 have all: ∀ (l:G0 Env),(∀b∈frs l,b∈X.fs)->X.s₀.heap.FunFrames X.base l->s.heap.FunFrames X.base l:=by
  intro l
  induction l with
  |nil=>intro _ _;trivial
  |cons env r ih=>
   intro hs hl;obtain⟨hk,⟨L,o,hf,hn,ho,hd⟩,hr⟩:=hl;have hL:L∈X.fs:=hs L (by unfold frs;rw [L6,hf];exact P7);obtain⟨sl,e⟩:=I.base.slot L o ho (I.ok.frf L hL) hL λz=>I.ok.exfs L z hL
   exact⟨hk,⟨L,_,hf,hn,e,hd⟩,ih (λb hb=>hs b (by unfold frs;rw [L6,hf];exact D1 _ hb)) hr⟩
 exact all X.outer (λ_ hb=>hb) I.ok.funs
theorem Inv.stack (I:Inv X pins σ H s):s.heap.FunFrames X.base X.stack:=by
 rcases I.ok.stk with e|⟨e,hf⟩
 ·rw [e];exact I.funs
 ·rw [e];obtain⟨m,hn,_⟩:=I.loc;refine .cons (by rw [I.ok.kind];decide) hf hn ?_ I.funs;exact K0 (R8 I.ok.bsz I.ok.above)
theorem Inv.stkSub (I:Inv X pins σ H s): ∀b∈frs X.stack,b∈X.env.locals::X.fs:=λb hb=>by
 rcases I.ok.stk with e|⟨e,hf⟩
 ·rw [e] at hb;exact D1 _ hb
 ·rw [e] at hb;unfold frs at hb;rw [L6,hf] at hb;exact hb
theorem Inv.stkFree (I:Inv X pins σ H s): ∀b∈frs X.stack,H b=none:=λb hb=>by
 rcases P2.mp (I.stkSub b hb) with e|hb
 ·rw [e];exact I.free
 ·obtain⟨_,o,ho,_⟩:=I.ok.funs.mem hb;exact I.base.free b o ho (I.ok.frf b hb) λz=>I.ok.exfs b z hb
variable {t':P4}
theorem Inv.step {g':B7 GenState}{d':Drawn}{ch:G0 G5}(I:Inv X pins σ H s)
 (hch: ∀b∈ch,(b∈X.ex\/X.s₀.heap.objs.size<=b)/\b≠X.env.locals/\(∀x c,X.env.cells.lookup x=some c->c≠b)/\ ∀p∈X.pn++pins,p.1≠b)
 (keep: ∀b o,b≠X.env.locals->b ∉ X.fs->b ∉ ch->s.heap.get? b=some o->H b=none->h'.get? b=some o)
 (slot: ∀b o,b≠X.env.locals->b∈X.fs->b ∉ ch->s.heap.get? b=some o->H b=none-> ∃sl,h'.get? b=some {o with slots:=sl})(free: ∀b o,b ∉ ch->s.heap.get? b=some o->H b=none->H' b=none)
 (there: ∀b o,b ∉ ch->s.heap.get? b=some o-> ∃o',h'.get? b=some o')
 (tups: ∀b xs,H b=some (.tup xs)->H' b=some (.tup xs))(frzs: ∀b o u,H b=some (.frz o u)->H' b=some (.frz o u))(tbls: ∀b ps,H b=some (.tbl ps)-> ∃more,H' b=some (.tbl (ps++more)))
 (ns: ∀m,s.heap.Ns X.env.locals m->h'.Ns X.env.locals m)(hok:HOk X.prog X.w H' h')(hg:Z1 g'):
 Inv X pins σ H' {s with heap:=h',gens:=g',drawn:=d',toks:=t'}:=by
 have neL: ∀b o,X.s₀.heap.get? b=some o->b≠X.env.locals:=λb o e=>R7 (P3 (P5 e) I.ok.above)
 have neC: ∀b o,X.s₀.heap.get? b=some o->b ∉ X.ex->b ∉ ch:=λb o e hx hb=>by
  rcases (hch b hb).1 with z|z
  ·exact hx z
  ·exact absurd (P3 (P5 e) z) (N6 _)
 have cellK: ∀x c,X.env.cells.lookup x=some c-> ∀v,s.heap.IsCell c v->h'.IsCell c v:=λx c e v ⟨o,ho,hd⟩=>by
  have nch:c ∉ ch:=λz=>(hch c z).2.2.1 x c e rfl
  by_cases hc:c∈X.fs
  ·obtain⟨sl,q⟩:=slot c o (I.cne x c e) hc nch ho (I.freeC x c e);exact⟨_,q,hd⟩
  ·exact⟨o,keep c o (I.cne x c e) hc nch ho (I.freeC x c e),hd⟩
 refine⟨I.ok,I.os,hg,⟨λb o e n hb hx=> ?_,λb o e n hb hx=> ?_,λb o e n hx=> ?_,λb o e hx=> ?_,λb xs e=>tups b xs (I.base.tups b xs e),λb o xs e=>frzs b o xs (I.base.frzs b o xs e),λb ps e=> ?_⟩,?_,λx c e=> ?_,?_,λx c e=> ?_,λp hp=> ?_,hok,I.len⟩
 ·exact keep b o (neL b o e) hb (neC b o e hx) (I.base.keep b o e n hb hx) (I.base.free b o e n hx)
 ·obtain⟨sl,e1⟩:=I.base.slot b o e n hb hx;obtain⟨sl',e2⟩:=slot b _ (neL b o e) hb (neC b o e hx) e1 (I.base.free b o e n hx);exact⟨sl',e2⟩
 ·obtain⟨o',e1⟩:=I.base.there b o e hx;exact free b o' (neC b o e hx) e1 (I.base.free b o e n hx)
 ·obtain⟨o',e1⟩:=I.base.there b o e hx;exact there b o' (neC b o e hx) e1
 ·obtain⟨m1,e1⟩:=I.base.tbls b ps e;obtain⟨m2,e2⟩:=tbls b _ e1;exact⟨m1++m2,by rw [e2,Array.append_assoc]⟩
 ·obtain⟨m,hn,hl⟩:=I.loc;refine⟨m,ns m hn,λi x v e1 e2 e3=> ?_⟩;obtain⟨u,r,l⟩:=hl i x v e1 e2 e3;refine⟨u,r,?_⟩;rcases l with l|⟨k,c,e,z⟩
  ·exact .inl l
  ·exact .inr ⟨k,c,e,cellK x c e _ z⟩
 ·obtain⟨v,z⟩:=I.cell x c e;exact⟨v,cellK x c e v z⟩
 ·obtain⟨m,⟨o,_,_,ho,_⟩,_⟩:=I.loc;exact free _ o (λz=>(hch _ z).2.1 rfl) ho I.free
 ·obtain⟨v,o,ho,hd⟩:=I.cell x c e;exact free c o (λz=>(hch c z).2.2.1 x c e rfl) ho (I.freeC x c e)
 ·obtain⟨e,n,ne,nf,d⟩:=I.pin p hp;have nch:p.1 ∉ ch:=λz=>(hch p.1 z).2.2.2 p hp rfl
  exact⟨keep p.1 p.2 ne nf nch e n,free p.1 p.2 nch e n,ne,nf,d⟩
theorem Inv.un (I:Inv X pins σ H s)(u:Un X.fs [] H H' s.heap h')(hok:HOk X.prog X.w H' h'):Inv X pins σ H' {s with heap:=h',toks:=t'}:=by
 obtain⟨m,⟨o,es,ep,ho,r⟩,_⟩:=id I.loc;obtain⟨sl,hL⟩:=u.any ho I.free (by simp);exact I.step (g':=s.gens) (d':=s.drawn) (ch:= []) (λ_ z=>nomatch z) (λb o _ hb _ e n=>u.keep b o e n hb (by simp)) (λb o _ hb _ e n=>u.slot b o e n hb (by simp)) (λb o _ e n=>u.free b o e n (by simp)) (λb o _ e=>u.there b o e (by simp)) u.tups u.frzs u.tbls (λm' hm=>by
  obtain⟨o',es',ep',ho',r'⟩:=hm;rw [ho] at ho';cases ho';exact⟨_,es',ep',hL,r'⟩) hok I.bare
theorem Inv.call {g':B7 GenState}{d':Drawn}{ch:G0 G5}(I:Inv X pins σ H s)(u:Un (frs X.stack) ch H H' s.heap h')(hok:HOk X.prog X.w H' h')(hg:Z1 g')
 (hch: ∀b∈ch,(b∈X.ex\/X.s₀.heap.objs.size<=b)/\b≠X.env.locals/\(∀x c,X.env.cells.lookup x=some c->c≠b)/\ ∀p∈X.pn++pins,p.1≠b):
 Inv X pins σ H' {s with heap:=h',gens:=g',drawn:=d',toks:=t'}:=by
 obtain⟨m,⟨o,es,ep,ho,r⟩,_⟩:=id I.loc;obtain⟨sl,hL⟩:=u.any ho I.free λz=>(hch _ z).2.1 rfl
 exact I.step (ch:=ch) hch (λb o hL hb hc e n=>u.keep b o e n (λz=>(P2.mp (I.stkSub b z)).elim hL hb) hc) (λb o _ _ hc e n=>u.any e n hc) (λb o hc e n=>u.free b o e n hc) (λb o hc e=>u.there b o e hc) u.tups u.frzs u.tbls (λm' hm=>by
  obtain⟨o',es',ep',ho',r'⟩:=hm;rw [ho] at ho';cases ho';exact⟨_,es',ep',hL,r'⟩) hok hg
theorem Inv.turned {it:G5}(I:Inv X pins σ H s)(k: ∀b o,b≠it->s.heap.get? b=some o->h'.get? b=some o)(hn:H it=none)(hL:it≠X.env.locals)
 (h1:it∈X.ex\/X.s₀.heap.objs.size<=it)(h2: ∀x c,X.env.cells.lookup x=some c->c≠it)(h3: ∀p∈X.pn++pins,p.1≠it):Inv X pins σ H {s with heap:=h',toks:=t'}:=by
 have nit: ∀b u,H b=some u->b≠it:=λb u e z=>by rw [z,hn] at e;cases e
 refine I.step (g':=s.gens) (d':=s.drawn) (ch:= [it]) (λb hb=> ?_) (λb o _ _ hc e _=>k b o (λz=>hc (by simp [z])) e) (λb o _ _ hc e _=>⟨o.slots,k b o (λz=>hc (by simp [z])) e⟩) (λ_ _ _ _ n=>n)
  (λb o hc e=>⟨o,k b o (λz=>hc (by simp [z])) e⟩) (λ_ _ e=>e) (λ_ _ _ e=>e) (λb ps e=>⟨#[],by rw [e];simp⟩) (λm hm=> ?_) (λb u e=> ?_) I.bare
 ·have e:b=it:=by simpa using hb
  subst e;exact⟨h1,hL,h2,h3⟩
 ·obtain⟨o,es,ep,ho,r⟩:=hm;exact⟨o,es,ep,k _ o (C5 hL) ho,r⟩
 ·refine(I.hok b u e).stay (λc v hc q=>k c v ?_ q) (λ_ q=>q) λ_ _ q=>q
  rcases hc with z|z
  ·rw [z];exact nit b u e
  ·exact nit c _ z
theorem Inv.tok (I:Inv X pins σ H s)(t:P4):Inv X pins σ H {s with toks:=t}:=I.un (h':=s.heap) (t':=t) Un.refl I.hok
theorem Inv.kept (I:Inv X pins σ H s)(k: ∀b u,s.heap.get? b=some u->h'.get? b=some u):Inv X pins σ H {s with heap:=h',toks:=t'}:=I.un (Un.kept k) (I.hok.kept k)
theorem Inv.laid {a:G5}{o:HO}(I:Inv X pins σ H s)(k: ∀b u,s.heap.get? b=some u->h'.get? b=some u)(hp:s.heap.objs.size<=a)(new:ObjOk X.prog X.w (upd H a o) h' a o):
 Inv X pins σ (upd H a o) {s with heap:=h',toks:=t'}:=I.un (Un.laid k hp (I.hok.fresh hp)) (I.hok.laid k hp new)
theorem Inv.write {x e:G5}{o:HO}(I:Inv X pins σ H s)(mu:Mut (H x))(he:e=x\/H e=some (.own x))(k: ∀b u,b≠e->s.heap.get? b=some u->h'.get? b=some u)(heo: ∃u,h'.get? e=some u)
 (new:ObjOk X.prog X.w (upd H x o) h' x o):Inv X pins σ (upd H x o) {s with heap:=h',toks:=t'}:=I.un (Un.write mu he k heo) (I.hok.write mu he k heo new)
theorem Inv.weak {nE:G0 (G6 V)}(I:Inv X pins σ H s)(hl:nE.length=σ.length)(w: ∀ (i:P4) v,nE[i]? =some (some v)->σ[i]? =some (some v)):Inv X pins nE H s:=
 ⟨I.ok,I.os,I.bare,I.base,let ⟨m,hn,hl'⟩:=I.loc;⟨m,hn,λi x v e1 e2 e3=>hl' i x v e1 (w i v e2) e3⟩,I.cell,I.free,I.freeC,I.pin,I.hok,hl.trans I.len⟩
theorem Inv.pins_of {pins':G0 (G5×Obj)}(I:Inv X pins σ H s)(h: ∀p∈pins',s.heap.get? p.1=some p.2/\H p.1=none/\p.1≠X.env.locals/\p.1 ∉ X.fs/\ ∀v,p.2.data≠ .cell v):Inv X pins' σ H s:=
 ⟨I.ok,I.os,I.bare,I.base,I.loc,I.cell,I.free,I.freeC,λp hp=>(R5.mp hp).elim (λz=>I.pin p (C0 _ z)) (h p),I.hok,I.len⟩
theorem vX {N:G0 Str}(hN:N.Nodup){i j:P4}{x:Str}(a:N[i]? =some x)(b:N[j]? =some x):i=j:=by
 obtain⟨h1,e1⟩:=P1.mp a;obtain⟨h2,e2⟩:=P1.mp b;exact(List.getElem_inj hN).mp (e1.trans e2.symm)
theorem YE {M:Y1}{A:R0}{E:G1->G4->Prop}{i:P4}{x:Str}{v:V}{u:G1}{Q:Unit->G4->Prop}(I:Inv X pins σ H s)(hN:X.N.Nodup)(hi:X.N[i]? =some x)(hx:Loc X.env.scope x)(r:RelV v u)
 (h: ∀s',Inv X pins (σ.set i (some v)) H s'->(∃a,Z2 a s.heap s'.heap/\(a=X.env.locals\/X.env.cells.lookup x=some a))->Q () s')(hf:X.fn x=true\/X.env.scope.names.lookup x=some .local:=by first|exact .inl rfl|exact .inr rfl|assumption):D5 M A (storeName X.env x u) Q E s:=by
 obtain⟨m,hn,hl⟩:=id I.loc;have hcls:(X.env.scope.kind== .class||(X.env.scope.kind== .module&&X.env.locals !=X.env.globals))=false:=by rw [I.ok.kind];rfl
 have nW:i<σ.length:=by rw [I.len];exact(P1.mp hi).1
 have cne:=I.cne;have tracked: ∀ {a:G5} {h':S3},(∃o,s.heap.get? a=some o/\H a=none)->Z2 a s.heap h'->HOk X.prog X.w H h':=λ{a h'} ha hs b ob e=>by
  obtain⟨_,_,hfree⟩:=ha;refine(I.hok b ob e).stay (λc w' hc q=>(hs.2 c ?_).trans q) (λ_ q=>q) λ_ _ q=>q
  rintro rfl;rcases hc with rfl|hc
  ·rw [hfree] at e;cases e
  ·rw [hfree] at hc;cases hc
 rcases hx with hk|hk
 ·refine wpAny_storeName_local hk hn (λh' hn' hs=> ?_) hcls;obtain⟨oL,_,_,hoL,_⟩:=id hn;refine h _ ⟨I.ok,I.os,I.bare,⟨λb o e n hb hx=> ?_,λb o e n hb hx=> ?_,I.base.free,λb o e hx=> ?_,I.base.tups,I.base.frzs,I.base.tbls⟩,⟨_,hn',λj y v' e1 e2 e3=> ?_⟩,λy c e=> ?_,I.free,I.freeC,λp hp=> ?_,tracked ⟨oL,hoL,I.free⟩ hs,by simpa using I.len⟩ ⟨_,hs,.inl rfl⟩
  ·exact(hs.2 b (R7 (P3 (P5 e) I.ok.above))).trans (I.base.keep b o e n hb hx)
  ·obtain⟨sl,e1⟩:=I.base.slot b o e n hb hx;exact⟨sl,(hs.2 b (R7 (P3 (P5 e) I.ok.above))).trans e1⟩
  ·obtain⟨o',e1⟩:=I.base.there b o e hx;exact⟨o',(hs.2 b (R7 (P3 (P5 e) I.ok.above))).trans e1⟩
  ·by_cases hj:j=i
   ·subst hj;rw [hi] at e1;cases e1;rw [E4 nW] at e2;cases e2;exact⟨u,r,.inl ⟨hk,by simp⟩⟩
   ·rw [C3 (C5 hj)] at e2;obtain⟨u',r',q⟩:=hl j y v' e1 e2 e3;refine⟨u',r',?_⟩;rcases q with ⟨k,e⟩|⟨k,c,e,z⟩
    ·refine .inl ⟨k,?_⟩;have:y≠x:=λe=>hj (vX hN e1 (e ▸ hi))
     simp [this,e]
    ·exact .inr ⟨k,c,e,z.sameBut hs (cne y c e)⟩
  ·obtain⟨w',z⟩:=I.cell y c e;exact⟨w',z.sameBut hs (cne y c e)⟩
  ·obtain⟨e,n,ne,nf,d⟩:=I.pin p hp;exact⟨(hs.2 p.1 ne).trans e,n,ne,nf,d⟩
 ·have hfn:X.fn x=true:=by
   rcases hf with z|z
   ·exact z
   ·rw [z] at hk;cases hk
  obtain⟨c,hc⟩:=I.ok.has x (.inl hk);obtain⟨w',z⟩:=I.cell x c hc;refine wpAny_storeName_cell I.ok.kind hk hc z (λh' hc' hs=> ?_);obtain⟨oc,hoc,hocd⟩:=id z;refine h {s with heap:=h'} ⟨I.ok,I.os,I.bare,⟨λb o e n hb hx=> ?_,λb o e n hb hx=> ?_,I.base.free,λb o e hx=> ?_,I.base.tups,I.base.frzs,I.base.tbls⟩,⟨m,hn.sameBut hs (C5 (cne x c hc)),λj y v' e1 e2 e3=> ?_⟩,λy c' e=> ?_,I.free,I.freeC,λp hp=> ?_,tracked ⟨oc,hoc,I.freeC x c hc⟩ hs,by simpa using I.len⟩ ⟨c,hs,.inr hc⟩
  ·exact(hs.2 b (R7 (P3 (P5 e) (I.ok.cab x c hfn hc)))).trans (I.base.keep b o e n hb hx)
  ·obtain⟨sl,e1⟩:=I.base.slot b o e n hb hx;exact⟨sl,(hs.2 b (R7 (P3 (P5 e) (I.ok.cab x c hfn hc)))).trans e1⟩
  ·obtain⟨o',e1⟩:=I.base.there b o e hx;exact⟨o',(hs.2 b (R7 (P3 (P5 e) (I.ok.cab x c hfn hc)))).trans e1⟩
  ·by_cases hj:j=i
   ·subst hj;rw [hi] at e1;cases e1;rw [E4 nW] at e2;cases e2;exact⟨u,r,.inr ⟨.inl hk,c,hc,hc'⟩⟩
   ·rw [C3 (C5 hj)] at e2;obtain⟨u',r',q⟩:=hl j y v' e1 e2 e3;refine⟨u',r',?_⟩;rcases q with q|⟨k,c',e,z'⟩
    ·exact .inl q
    ·refine .inr ⟨k,c',e,z'.sameBut hs ?_⟩;rintro rfl;exact hj (vX hN e1 (I.ok.inj _ _ _ e hc ▸ hi))
  ·by_cases hcc:c'=c
   ·subst hcc;exact⟨_,hc'⟩
   ·obtain⟨w2,z2⟩:=I.cell y c' e;exact⟨w2,z2.sameBut hs hcc⟩
  ·obtain⟨e,n,ne,nf,d⟩:=I.pin p hp;refine⟨(hs.2 p.1 ?_).trans e,n,ne,nf,d⟩;intro q;rw [q,hoc] at e;have q':oc=p.2:=T8 e;exact d w' (by rw [<-q'];exact hocd)
theorem zH {M:Y1}{A:R0}{E:G1->G4->Prop}{i:P4}{x:Str}{v:V}{u:G1}{Q:Unit->G4->Prop}(I:Inv X pins σ H s)(hN:X.N.Nodup)(hi:X.N[i]? =some x)(hx:Loc X.env.scope x)(r:RelV v u)
 (h: ∀s',Inv X pins (σ.set i (some v)) H s'->Q () s')(hf:X.fn x=true\/X.env.scope.names.lookup x=some .local:=by first|exact .inl rfl|exact .inr rfl|assumption):D5 M A (storeName X.env x u) Q E s:=
 YE I hN hi hx r (λs' I' _=>h s' I') hf
theorem Inv.call' {s':G4}{ch:G0 G5}(I:Inv X pins σ H s)(ho:s'.os=s.os)(u:Un (frs X.stack) ch H H' s.heap s'.heap)(hok:HOk X.prog X.w H' s'.heap)(hg:Z1 s'.gens)
 (hch: ∀b∈ch,(b∈X.ex\/X.s₀.heap.objs.size<=b)/\b≠X.env.locals/\(∀x c,X.env.cells.lookup x=some c->c≠b)/\ ∀p∈X.pn++pins,p.1≠b):Inv X pins σ H' s':=by
 obtain⟨h',g',d',t',o'⟩:=s';have e:o'=s.os:=ho;subst e;exact I.call (g':=g') (t':=t') (d':=d') u hok hg hch
end
abbrev XK:=G1->G6 G5->Hp->Prop
abbrev St:=G0 (G6 V)
abbrev VK:=V->Hp->Prop
abbrev TE:=St->Hp->VK->Prop
abbrev TT:=St->Hp->(B3->Hp->Prop)->Prop
abbrev TA:=St->Hp->(G0 V->Hp->Prop)->Prop
structure Ends where
 nx:St->Hp->Prop
 rt:VK
 bk:St->Hp->Prop:=λ_ _=>False
 ct:St->Hp->Prop:=λ_ _=>False
abbrev TS:=Ends->St->Hp->Prop
def EP (X:Cx)(pins:G0 (G5×Obj))(σ:St)(Q:VK)(u:G1)(s':G4):Prop:= ∃v H',Inv X pins σ H' s'/\RelV v u/\Q v H'
def TP (X:Cx)(pins:G0 (G5×Obj))(σ:St)(Q:B3->Hp->Prop)(b:B3)(s':G4):Prop:= ∃H',Inv X pins σ H' s'/\Q b H'
def AP (X:Cx)(pins:G0 (G5×Obj))(σ:St)(Q:G0 V->Hp->Prop)(us:G0 G1)(s':G4):Prop:= ∃vs H',Inv X pins σ H' s'/\Vals vs us/\Q vs H'
def SP (X:Cx)(pins:G0 (G5×Obj))(D:Ends)(f:Flow)(s':G4):Prop:=
 match f with
 | .next=> ∃nE H',Inv X pins nE H' s'/\D.nx nE H'
 | .brk=> ∃nE H',Inv X pins nE H' s'/\D.bk nE H'
 | .cont=> ∃nE H',Inv X pins nE H' s'/\D.ct nE H'
 | .ret u=> ∃v nE H',Inv X pins nE H' s'/\RelV v u/\D.rt v H'
def PE (X:Cx)(e:D3)(t:TE):Prop:=
 ∀ (pins:G0 (G5×Obj)) (s:G4) (σ:St) (H:Hp) (Q:VK),Inv X pins σ H s->t σ H Q->D5 (D8 X.prog X.w) X.A (M2 e X.env) (EP X pins σ Q) X.xe s
def PT (X:Cx)(e:D3)(t:TT):Prop:=
 ∀ (pins:G0 (G5×Obj)) (s:G4) (σ:St) (H:Hp) (Q:B3->Hp->Prop),Inv X pins σ H s->t σ H Q->D5 (D8 X.prog X.w) X.A (isTrue e X.env (M2 e X.env)) (TP X pins σ Q) X.xe s
def PW (X:Cx)(e:D3)(t:TT):Prop:=
 ∀ (whole:Sem G1) (pins:G0 (G5×Obj)) (s:G4) (σ:St) (H:Hp) (Q:B3->Hp->Prop),Inv X pins σ H s->t σ H Q->D5 (D8 X.prog X.w) X.A (isTrue e X.env whole) (TP X pins σ Q) X.xe s
variable {X:Cx}
theorem PW.pt {e:D3}{t:TT}(h:PW X e t):PT X e t:=h _
def PA (X:Cx)(es:G0 D3)(t:TA):Prop:=
 ∀ (pos:Pos) (pins:G0 (G5×Obj)) (s:G4) (σ:St) (H:Hp) (Q:G0 V->Hp->Prop),Inv X pins σ H s->t σ H Q->D5 (D8 X.prog X.w) X.A (spliced (M9 pos (G9 es X.env))) (AP X pins σ Q) X.xe s
def PS (X:Cx)(st:M4)(t:TS):Prop:=
 ∀ (pins:G0 (G5×Obj)) (s:G4) (σ:St) (H:Hp) (D:Ends),Inv X pins σ H s->t D σ H->D5 (D8 X.prog X.w) X.A (exec st X.env) (SP X pins D) X.xe s
def PSs (X:Cx)(st:G0 M4)(t:TS):Prop:=
 ∀ (pins:G0 (G5×Obj)) (s:G4) (σ:St) (H:Hp) (D:Ends),Inv X pins σ H s->t D σ H->D5 (D8 X.prog X.w) X.A (execs st X.env) (SP X pins D) X.xe s
variable {A:R0}{s:G4}
theorem thn {α:Type}{t:Sem α}{Q Q':α->G4->Prop}{M:Y1}{E:G1->G4->Prop}(h:D5 M A t Q E s)(hQ: ∀a s,Q a s->Q' a s):D5 M A t Q' E s:=R9 h hQ λ_ _ x=>x
section
variable {X:Cx}
def NI (i:P4):TE:=λσ H Q=> ∃v,σ[i]? =some (some v)/\Q v H
def tC (v:V):TE:=λ_ H Q=>Q v H
variable {x:Str}
theorem YF {i:P4}{pos:Pos}(hN:X.N[i]? =some x)(hv:Vis X.env.scope x)(hd:(x==("__debug__" :Str))=false:=by decide)(hcd:(x==("__classdict__" :Str))=false:=by decide):PE X (.Name x pos) (NI i):=by
 intro pins s σ H Q I h;obtain⟨v,e,h⟩:=h;obtain⟨m,hn,hl⟩:=I.loc;obtain⟨u,r,l⟩:=hl i x v hN e hv;have fin:EP X pins σ Q u s:=⟨v,H,I,r,h⟩;rcases l with ⟨hk,hm⟩|⟨hk,c,hc,hcell⟩
 ·exact dX (cN I.ok.kind hk hn hm fin) hd
 ·rcases hk with hk|hk
  ·exact dX (wpAny_loadName_cell I.ok.kind hk hc hcell fin) hd
  ·exact dX (wpAny_loadName_free I.ok.kind hk hc hcell fin hcd) hd
theorem pe_int {i j pos}:PE X (.Constant (.int i) j pos) (tC (.int i)):=λ_ _ _ H _ I h=>wpAny_Constant_int ⟨.int i,H,I.tok _,⟨_,rfl⟩,h⟩
theorem pe_bl {b j pos}:PE X (.Constant (.bool b) j pos) (tC (.bl b)):=λ_ _ _ H _ I h=>Constant_bool ⟨.bl b,H,I,rfl,h⟩
theorem pe_non {j pos}:PE X (.Constant .none j pos) (tC .non):=λ_ _ _ H _ I h=>Constant_none ⟨.non,H,I,rfl,h⟩
theorem pe_str {x j pos}:PE X (.Constant (.str x) j pos) (tC (.str x)):=λ_ _ _ H _ I h=>Calls.Constant_str ⟨.str x,H,I.tok _,⟨_,rfl⟩,h⟩
def Gl (X:Cx)(x:Str):Prop:=X.env.kindOf x=some .globalImplicit
variable {u:G1}
theorem ya {E:G1->G4->Prop}{pins:G0 (G5×Obj)}{s:G4}{σ:St}{H:Hp}{pos:Pos}{Q:G1->G4->Prop}(I:Inv X pins σ H s)(hg:Gl X x)(hm:X.mg x=some u)(h:Q u s)
 (hd:(x==("__debug__" :Str))=false:=by decide):D5 (D8 X.prog X.w) X.A (M2 (.Name x pos) X.env) Q E s:=
 Calls.Name_function_global I.ok.kind hg (Calls.loadGlobal_global (by rw [I.ok.glob];exact I.mod.glob.keeps I.bk) hm h) hd
theorem JD {E:G1->G4->Prop}{pins:G0 (G5×Obj)}{s:G4}{σ:St}{H:Hp}{pos:Pos}{Q:G1->G4->Prop}(I:Inv X pins σ H s)(hg:Gl X x)(hm:X.mg x=none)(hv:B4 x=some u)(h:Q u s)
 (hn:x≠ "__name__" :=by decide)(hd:(x==("__debug__" :Str))=false:=by decide):D5 (D8 X.prog X.w) X.A (M2 (.Name x pos) X.env) Q E s:=by
 obtain⟨mb,h1,h2⟩:=I.mod.blt;exact Calls.Name_function_global I.ok.kind hg (Calls.loadGlobal_builtin (by rw [I.ok.glob];exact I.mod.glob.keeps I.bk) hm (by rw [I.ok.blt];exact h1.keeps I.bk) ((h2 x hn).trans hv) h) hd
theorem ZJ {v:V}{pos:Pos}(hg:Gl X x)(hm:X.mg x=some u)(r:RelV v u)(hd:(x==("__debug__" :Str))=false:=by decide):PE X (.Name x pos) (tC v):=
 λ_ _ _ H _ I h=>ya I hg hm ⟨v,H,I,r,h⟩ hd
theorem YG {v:V}{pos:Pos}(hg:Gl X x)(hm:X.mg x=none)(hv:B4 x=some u)(r:RelV v u)(hn:x≠ "__name__" :=by decide)(hd:(x==("__debug__" :Str))=false:=by decide):PE X (.Name x pos) (tC v):=
 λ_ _ _ H _ I h=>JD I hg hm hv ⟨v,H,I,r,h⟩ hn hd
variable {a b:D3}{ta tb:TE}{pos:Pos}
def tB (t:TE):TT:=λσ H Q=>t σ H λx H1=> ∃c,x= .bl c/\Q c H1
theorem Pm {e:D3}{t:TE}(h:PE X e t)(he: ∀whole,isTrue e X.env whole=(do let v <-whole;c5 e.pos;V7 [v] (mU v)):=by intro _;rfl):PT X e (tB t):=by
 intro pins s σ H Q I hw;refine isTrue_plain (thn (h pins s σ H _ I hw) λv s1 ⟨x,H1,I1,r1,q1⟩=> ?_) (he _);obtain⟨d,rfl,q⟩:=q1;cases r1;exact C6 ⟨H1,I1,q⟩
variable {tA tB':TT}{rest:G0 D3}
def tOr (t u:TT):TT:=λσ H Q=>t σ H λc H1=>if c=true then Q true H1 else u σ H1 Q
def NJ (t:TT):TT:=λσ H Q=>t σ H λc H1=>Q (!c) H1
theorem Po (ha:PT X a tA):PW X (.BoolOp .Or [a] pos) tA:=by
 intro wh pins s σ H Q I h;refine isTrue_or (thn (ha pins s σ H Q I h) λc s1 e=> ?_);cases c with
 |false=>exact isTrue_or_nil e
 |true=>exact e
theorem Mk (ha:PT X a tA)(hb:PW X (.BoolOp .Or (b::rest) pos) tB'):PW X (.BoolOp .Or (a::b::rest) pos) (tOr tA tB'):=by
 intro wh pins s σ H Q I h;refine isTrue_or (thn (ha pins s σ H _ I h) λc s1 ⟨H1,I1,q1⟩=> ?_);cases c with
 |true=>exact⟨H1,I1,q1⟩
 |false=>exact hb wh pins s1 σ H1 Q I1 q1
theorem Pp (ha:PT X a tA):PT X (.UnaryOp .Not a pos) (NJ tA):=by
 intro pins s σ H Q I h;exact isTrue_not (ha pins s σ H (λc H1=>Q (!c) H1) I h)
def Pq (ta tb:TE):TE:=λσ H Q=>ta σ H λx H1=> ∃c,x= .bl c/\if c=true then tb σ H1 Q else Q (.bl false) H1
def NK (ta tb:TE):TE:=λσ H Q=>ta σ H λx H1=> ∃c,x= .bl c/\if c=true then Q (.bl true) H1 else tb σ H1 Q
def Pr (ta:TE):TE:=λσ H Q=>ta σ H λx H1=> ∃c,x= .bl c/\Q (.bl (!c)) H1
theorem Ps {op}{t:TE}(h:PE X a t):PE X (.BoolOp op [a] pos) t:=λpins s σ H Q I hw=>BoolOp_one (h pins s σ H Q I hw)
theorem Pu (ha:PE X a ta)(hb:PE X (.BoolOp .And (b::rest) pos) tb):PE X (.BoolOp .And (a::b::rest) pos) (Pq ta tb):=by
 intro pins s σ H Q I h;refine BoolOp_and (thn (ha pins s σ H _ I h) λv s1 ⟨x,H1,I1,r1,q1⟩=> ?_);obtain⟨c,rfl,q1⟩:=q1;cases r1;refine C6 ?_;cases c with
 |true=>exact hb pins s1 σ H1 Q I1 q1
 |false=>exact⟨.bl false,H1,I1,rfl,q1⟩
theorem Ml (ha:PE X a ta)(hb:PE X (.BoolOp .Or (b::rest) pos) tb):PE X (.BoolOp .Or (a::b::rest) pos) (NK ta tb):=by
 intro pins s σ H Q I h;refine BoolOp_or (thn (ha pins s σ H _ I h) λv s1 ⟨x,H1,I1,r1,q1⟩=> ?_);obtain⟨c,rfl,q1⟩:=q1;cases r1;refine C6 ?_;cases c with
 |false=>exact hb pins s1 σ H1 Q I1 q1
 |true=>exact⟨.bl true,H1,I1,rfl,q1⟩
theorem Pv (ha:PE X a ta):PE X (.UnaryOp .Not a pos) (Pr ta):=by
 intro pins s σ H Q I h;refine UnaryOp_ (thn (ha pins s σ H _ I h) λv s1 ⟨x,H1,I1,r1,q1⟩=> ?_);obtain⟨c,rfl,q1⟩:=q1;cases r1;exact not_of (C6 ⟨.bl (!c),H1,I1,rfl,q1⟩)
def tIf (t:TT)(ta tb:TE):TE:=λσ H Q=>t σ H λc H1=>if c=true then ta σ H1 Q else tb σ H1 Q
theorem Ui {c:D3}(hc:PT X c tA)(ha:PE X a ta)(hb:PE X b tb):PE X (.IfExp c a b pos) (tIf tA ta tb):=by
 intro pins s σ H Q I h;refine wpAny_IfExp (thn (hc pins s σ H _ I h) λd s1 ⟨H1,I1,q1⟩=> ?_);cases d with
 |true=>exact ha pins s1 σ H1 Q I1 q1
 |false=>exact hb pins s1 σ H1 Q I1 q1
end
def SqL (K:G2)(H:Hp)(a:G5)(xs:G0 V):Prop:=
 Rd H a (.lst xs)\/
  ∃ (o:Obj) (its:B7 G1) (n:P4),K.lookup a=some o/\o.cls= .type "list" /\o.dict=none/\o.data= .seq its n/\its.size<=sizeLine/\Vals xs its.toList
def SqT (K:G2)(H:Hp)(a:G5)(xs:G0 V):Prop:=
 Rd H a (.tup xs)\/
  ∃ (o:Obj) (its:B7 G1) (n:P4),K.lookup a=some o/\o.cls= .type "tuple" /\o.data= .seq its n/\its.size<=sizeLine/\Vals xs its.toList
def Bt:G1->G6 V
 | .none=>some .non
 | .bool b=>some (.bl b)
 | .int i _=>some (.int i)
 | .str x _=>some (.str x)
 | .bytes b _=>some (.byt b)
 | .float b _=>some (.flt b)
 | .ref a=>some (.ref a)
 | .type n=>some (.ty n)
 |_=>none
theorem RelV.abs {x:V}(r:RelV x u):Bt u=some x:=by
 cases x with
 |non=>cases r;rfl
 |bl _=>cases r;rfl
 |int _=>obtain⟨t,rfl⟩:=r;rfl
 |str _=>obtain⟨t,rfl⟩:=r;rfl
 |byt _=>obtain⟨t,rfl⟩:=r;rfl
 |flt _=>obtain⟨t,rfl⟩:=r;rfl
 |ref _=>cases r;rfl
 |ty _=>cases r;rfl
theorem RelV.inj {x y:V}(r:RelV x u)(q:RelV y u):x=y:=T8 (r.abs.symm.trans q.abs)
theorem Vals.inj: ∀ {xs ys:G0 V} {us:G0 G1},Vals xs us->Vals ys us->xs=ys
 |_,_,_,.nil,.nil=>rfl
 |_,_,_,.cons r t,.cons r' t'=>by rw [r.inj r',Vals.inj t t']
section
variable {X:Cx}{pins:G0 (G5×Obj)}{σ:St}{H:Hp}{s:G4}{a:G5}{xs ys:G0 V}
theorem SqL.of {K:G2}(h:H a=some (.lst xs)):SqL K H a xs:= .inl (.inl h)
theorem SqT.of {K:G2}(h:H a=some (.tup xs)):SqT K H a xs:= .inl (.inl h)
theorem Inv.list (I:Inv X pins σ H s)(h:SqL X.K H a xs): ∃its:G0 G1,Vals xs its/\PlainL s.heap a its.toArray/\xs.length<=sizeLine:=by
 rcases h with h|⟨o,its,n,hk,hc,hd,hs,hz,r⟩
 ·obtain⟨z,its,n,r,e⟩:=h.ok I.hok;exact⟨its,r,⟨_,n,e,rfl,rfl,rfl⟩,z⟩
 ·refine⟨its.toList,r,⟨o,n,I.kIn a o hk,hc,hd,by simpa using hs⟩,?_⟩;have e:=r.length;simp only [M5] at e;omega
theorem Inv.tuple (I:Inv X pins σ H s)(h:SqT X.K H a xs): ∃its:G0 G1,Vals xs its/\lC s.heap a its.toArray/\xs.length<=sizeLine:=by
 rcases h with h|⟨o,its,n,hk,hc,hs,hz,r⟩
 ·obtain⟨z,its,r,p⟩:=h.ok I.hok;exact⟨its,r,p.tup,z⟩
 ·refine⟨its.toList,r,⟨o,I.kIn a o hk,hc,n,by simpa using hs⟩,?_⟩;have e:=r.length;simp only [M5] at e;omega
theorem Inv.list_inj (I:Inv X pins σ H s)(h:SqL X.K H a xs)(h':SqL X.K H a ys):xs=ys:=by
 obtain⟨its,r,⟨o,n,e,_,_,d⟩,_⟩:=I.list h;obtain⟨its',r',⟨o',n',e',_,_,d'⟩,_⟩:=I.list h';rw [e] at e';cases e';rw [d] at d';injection d' with d1 _
 have:its=its':=by simpa using congrArg kJ d1
 subst this;exact r.inj r'
theorem Inv.tuple_inj (I:Inv X pins σ H s)(h:SqT X.K H a xs)(h':SqT X.K H a ys):xs=ys:=by
 obtain⟨its,r,⟨o,e,_,n,d⟩,_⟩:=I.tuple h;obtain⟨its',r',⟨o',e',_,n',d'⟩,_⟩:=I.tuple h';rw [e] at e';cases e';rw [d] at d';injection d' with d1 _
 have:its=its':=by simpa using congrArg kJ d1
 subst this;exact r.inj r'
end
abbrev Cx.wish (X:Cx)(E:G1->G4->Prop):Cx:= {X with xe:=E}
abbrev Cx.nox (X:Cx):Cx:=X.wish λ_ _=>False
theorem Cx.Ok.wish (ok:X.Ok)(E:G1->G4->Prop):(X.wish E).Ok:=
 ⟨ok.mod,ok.kind,ok.glob,ok.blt,ok.above,ok.inj,ok.has,ok.cab,ok.hd,ok.frames,ok.stk,ok.exf,ok.bs,ok.bsz,ok.noex,ok.exfs,ok.funs,ok.frf⟩
theorem Cx.Ok.unwish {E:G1->G4->Prop}(ok:(X.wish E).Ok):X.Ok:=
 ⟨ok.mod,ok.kind,ok.glob,ok.blt,ok.above,ok.inj,ok.has,ok.cab,ok.hd,ok.frames,ok.stk,ok.exf,ok.bs,ok.bsz,ok.noex,ok.exfs,ok.funs,ok.frf⟩
section
variable {X:Cx}{pins:G0 (G5×Obj)}{σ:St}{H:Hp}{s:G4}{E:G1->G4->Prop}
theorem Inv.wish (I:Inv X pins σ H s)(E:G1->G4->Prop):Inv (X.wish E) pins σ H s:=⟨I.ok.wish E,I.os,I.bare,I.base,I.loc,I.cell,I.free,I.freeC,I.pin,I.hok,I.len⟩
theorem Inv.unwish (I:Inv (X.wish E) pins σ H s):Inv X pins σ H s:=⟨I.ok.unwish,I.os,I.bare,I.base,I.loc,I.cell,I.free,I.freeC,I.pin,I.hok,I.len⟩
theorem SP.unwish {D:Ends}{f:Flow}{s':G4}(h:SP (X.wish E) pins D f s'):SP X pins D f s':=by
 cases f with
 |next=>obtain⟨nE,H',I,q⟩:=h;exact⟨nE,H',I.unwish,q⟩
 |brk=>obtain⟨nE,H',I,q⟩:=h;exact⟨nE,H',I.unwish,q⟩
 |cont=>obtain⟨nE,H',I,q⟩:=h;exact⟨nE,H',I.unwish,q⟩
 |ret u=>obtain⟨v,nE,H',I,r,q⟩:=h;exact⟨v,nE,H',I.unwish,r,q⟩
theorem PSs.nox {st:G0 M4}{t:TS}(h:PSs X.nox st t):PSs X st t:=λpins s σ H D I hw=>
 R9 (h pins s σ H D (I.wish _) hw) (λ_ _ q=>q.unwish) λ_ _ z=>False.elim z
end
section
variable {X:Cx}{st:M4}{rest:G0 M4}{t u:TS}{e:D3}{te:TE}{pos:Pos}
def Pw:TS:=λD σ H=>D.nx σ H
def NL (t u:TS):TS:=λD σ H=>t {D with nx:=u D} σ H
theorem pss_nil:PSs X [] Pw:=λ_ _ σ H _ I h=>Q9 ⟨σ,H,I,h⟩
theorem Uj (h1:PS X st t)(h2:PSs X rest u):PSs X (st::rest) (NL t u):=by
 intro pins s σ H D I h;refine F0 (thn (h1 pins s σ H {D with nx:=u D} I h) λf s1 q=> ?_);cases f with
 |next=>
  obtain⟨nE,H',I',q⟩:=q;exact h2 pins s1 nE H' D I' q
 |ret v=>exact q
 |brk=>exact q
 |cont=>exact q
theorem YH (h1:PS X st t):PSs X [st] t:=by
 intro pins s σ H D I h;refine F0 (thn (h1 pins s σ H D I h) λf s1 q=> ?_);cases f with
 |next=>exact Q9 q
 |ret v=>exact q
 |brk=>exact q
 |cont=>exact q
theorem Inv.quiet {pins:G0 (G5×Obj)}{σ:St}{H:Hp}{s:G4}(I:Inv X pins σ H s):lE X.env=false:=by simp [lE,I.ok.kind]
def Px (te:TE):TS:=λD σ H=>te σ H λ_ H1=>D.nx σ H1
theorem XS (he:PE X e te)(hs:E1 e none pos.line X.env=pure false:=by rfl):PS X (.Expr e pos) (Px te):=by
 intro pins s σ H D I h;exact wpAny_Expr_any (thn (he pins s σ H _ I h) λv s1 ⟨x,H1,I1,r1,q1⟩=>⟨σ,H1,I1,q1⟩) I.quiet hs
def NM (te:TE):TS:=λD σ H=>te σ H D.rt
theorem Py (he:PE X e te):PS X (.Return (some e) pos) (NM te):=by
 intro pins s σ H D I h;exact wpAny_Return_some (thn (he pins s σ H _ I h) λv s1 ⟨x,H1,I1,r1,q1⟩=>⟨x,σ,H1,I1,r1,q1⟩)
def NN (c:TT)(t u:TS):TS:=λD σ H=>c σ H λb H1=>if b=true then t D σ H1 else u D σ H1
theorem Mm {c:D3}{a b:G0 M4}{tc:TT}(hc:PT X c tc)(ha:PSs X a t)(hb:PSs X b u):PS X (.If c a b pos) (NN tc t u):=by
 intro pins s σ H D I h;refine wpAny_If (thn (hc pins s σ H _ I h) λd s1 ⟨H1,I1,q1⟩=> ?_);cases d with
 |true=>exact ha pins s1 σ H1 D I1 q1
 |false=>exact hb pins s1 σ H1 D I1 q1
end
abbrev TG:=V->St->Hp->(St->Hp->Prop)->Prop
abbrev TGs:=G0 V->St->Hp->(St->Hp->Prop)->Prop
def PG (X:Cx)(target:D3)(t:TG):Prop:=
 ∀ (pins:G0 (G5×Obj)) (s:G4) (σ:St) (H:Hp) (v:V) (u:G1) (Q:St->Hp->Prop),Inv X pins σ H s->RelV v u->t v σ H Q->
  D5 (D8 X.prog X.w) X.A (Y3 target X.env u) (λ_ s'=> ∃nE H',Inv X pins nE H' s'/\Q nE H') X.xe s
def PGs (X:Cx)(ts:G0 D3)(t:TGs):Prop:=
 ∀ (pins:G0 (G5×Obj)) (s:G4) (σ:St) (H:Hp) (vs:G0 V) (us:G0 G1) (Q:St->Hp->Prop),Inv X pins σ H s->Vals vs us->t vs σ H Q->
  D5 (D8 X.prog X.w) X.A (dM ((U7 ts X.env).map (·.2)) us) (λ_ s'=> ∃nE H',Inv X pins nE H' s'/\Q nE H') X.xe s
abbrev Mn:=V->V->V->Hp->(Hp->Prop)->Prop
def NO (X:Cx)(t:Mn):Prop:=
 ∀ (pins:G0 (G5×Obj)) (s:G4) (σ:St) (H:Hp) (o i v:V) (ov iv u:G1) (Q:Hp->Prop),Inv X pins σ H s->RelV o ov->RelV i iv->RelV v u->t o i v H Q->
  D5 (D8 X.prog X.w) X.A (kK ov iv u) (λ_ s'=> ∃H',Inv X pins σ H' s'/\Q H') X.xe s
section
variable {X:Cx}{pos:Pos}
def vz (i:P4):TG:=λv σ H Q=>Q (σ.set i (some v)) H
theorem yb {i:P4}{x:Str}(hN:X.N.Nodup)(hi:X.N[i]? =some x)(hx:Loc X.env.scope x)(hf:X.fn x=true\/X.env.scope.names.lookup x=some .local:=by first|exact .inl rfl|exact .inr rfl|assumption):PG X (.Name x pos) (vz i):=by
 intro pins s σ H v u Q I r h;exact wpAny_assign_Name (zH I hN hi hx r (λs' I'=>⟨_,H,I',h⟩) hf)
def NP:TGs:=λvs σ H Q=>vs= []/\Q σ H
def XT (t:TG)(u:TGs):TGs:=λvs σ H Q=> ∃v r,vs=v::r/\t v σ H λnE H'=>u r nE H' Q
theorem XU:PGs X [] NP:=by
 intro pins s σ H vs us Q I r h;obtain⟨e,h⟩:=h;subst e;cases r;exact e7 ⟨σ,H,I,h⟩
theorem Wp {e:D3}{es:G0 D3}{t:TG}{u:TGs}(h1:PG X e t)(h2:PGs X es u)
 (hs:(U7 (e::es) X.env).map (·.2)=Y3 e X.env::(U7 es X.env).map (·.2):=by rfl):PGs X (e::es) (XT t u):=by
 intro pins s σ H vs us Q I r h;obtain⟨v,vr,e1,h⟩:=h;subst e1;cases r with
 |cons r rr=>
  rw [hs];refine Z9 (thn (h1 pins s σ H _ _ _ I r h) λ_ s1 ⟨nX,H1,I1,q1⟩=> ?_);exact h2 pins s1 nX H1 _ _ Q I1 rr q1
def NQ (K:G2)(n:P4)(t:TGs):TG:=λv σ H Q=> ∃a xs,v= .ref a/\SqT K H a xs/\xs.length=n/\t xs σ H Q
theorem Pz {es:G0 D3}{k:P4}{t:TGs}{n:P4}(hc:X.calm=true)(h:PGs X es t)
 (hn:(U7 es X.env).length=n:=by rfl)(hst:(U7 es X.env).findIdx? (·.1)=none:=by rfl):PG X (.Tuple es k pos) (NQ X.K n t):=by
 intro pins s σ H v u Q I r hw;obtain⟨a,xs,e1,hq,hl,hw⟩:=hw;subst e1;cases r;obtain⟨its,rv,ht,hz⟩:=I.tuple hq;refine assign_Tuple_tuple (I.ok.hd hc) ht (by simp [hn,<-hl,rv.length]) hst λh' hx=> ?_
 have I1:Inv X pins σ H {s with heap:=h'}:=I.kept (t':=s.toks) λb o e=>hx b o (R7 (P5 e)) e
 exact h pins _ σ H xs _ Q I1 (by simpa using rv) hw
def Bv (to ti:TE)(t:Mn):TG:=λv σ H Q=>to σ H λo H1=>ti σ H1 λi H2=>t o i v H2 λH3=>Q σ H3
theorem PB {o i:D3}{to ti:TE}{t:Mn}(ho:PE X o to)(hi:PE X i ti)(hs:NO X t)
 (ha: ∀v,Y3 (.Subscript o i pos) X.env v=(do
  let ov <-V7 [v] (M2 o X.env)
  let iv <-V7 [v,ov] (M2 i X.env)
  c5 pos
  V7 [v,ov,iv] (kK ov iv v)
  mD [v,ov,iv] []):=by intro _;rfl):PG X (.Subscript o i pos) (Bv to ti t):=by
 intro pins s σ H v u Q I r h;rw [ha];refine wpAny_bind (O2 (thn (ho pins s σ H _ I h) λov s1 ⟨x,H1,I1,r1,q1⟩=> ?_));refine wpAny_bind (O2 (thn (hi pins s1 σ H1 _ I1 q1) λiv s2 ⟨y,H2,I2,r2,q2⟩=> ?_));refine wpAny_bind (Q3 (wpAny_bind (O2 (thn (hs pins s2 σ H2 x y v ov iv u _ I2 r1 r2 r q2) λ_ s3 ⟨H3,I3,q3⟩=> ?_))));exact wpAny_release ⟨σ,H3,I3,q3⟩
def XV (te:TE)(g:TG):TS:=λD σ H=>te σ H λx H1=>g x σ H1 D.nx
theorem PC {tg e:D3}{te:TE}{g:TG}(he:PE X e te)(hg:PG X tg g)(hs:Q4 [tg] e pos.line X.env=pure false:=by rfl)(hw:Q5 [tg] e X.env=pure none:=by rfl)
 (h1:(U7 [tg] X.env).map (·.2)= [Y3 tg X.env]:=by rfl):PS X (.Assign [tg] e pos) (XV te g):=by
 intro pins s σ H D I h;refine wpAny_Assign_stores (thn (he pins s σ H _ I h) λv s1 ⟨x,H1,I1,r1,q1⟩=> ?_) hs hw;rw [h1];exact thn (hg pins s1 σ H1 x v _ I1 r1 q1) λ_ s2 q=>q
theorem PD {i:P4}{x:Str}{e:D3}{te:TE}{pos':Pos}(hN:X.N.Nodup)(hi:X.N[i]? =some x)(hx:Loc X.env.scope x)(he:PE X e te)(hs:E1 e (some (.Name x pos')) pos.line X.env=pure false:=by rfl)(hf:X.fn x=true\/X.env.scope.names.lookup x=some .local:=by first|exact .inl rfl|exact .inr rfl|assumption):
 PS X (.Assign [.Name x pos'] e pos) (XV te (vz i)):=by
 intro pins s σ H D I h;refine e8 (thn (he pins s σ H _ I h) λv s1 ⟨y,H1,I1,r1,q1⟩=> ?_) hs;exact zH I1 hN hi hx r1 (λs2 I2=>⟨_,H1,I2,q1⟩) hf
def NR (i j:P4)(ta:TA):TS:=λD σ H=>ta σ H λvs H1=> ∃v w,vs= [v,w]/\D.nx ((σ.set i (some v)).set j (some w)) H1
theorem PF {i j:P4}{x y:Str}{a b:D3}{ta:TA}{px py pt:Pos}{kt k2 pt2}(hc:X.calm=true)(hN:X.N.Nodup)(hi:X.N[i]? =some x)(hj:X.N[j]? =some y)(hij:i≠j)
 (hx:X.env.scope.names.lookup x=some .local)(hy:X.env.scope.names.lookup y=some .local)(ha:PA X [a,b] ta)
 (hw:Q5 [.Tuple [.Name x px,.Name y py] kt pt] (.Tuple [a,b] k2 pt2) X.env=pure (some [x,y]))
 (hs:Q4 [.Tuple [.Name x px,.Name y py] kt pt] (.Tuple [a,b] k2 pt2) pos.line X.env=pure false:=by rfl):
 PS X (.Assign [.Tuple [.Name x px,.Name y py] kt pt] (.Tuple [a,b] k2 pt2) pos) (NR i j ta):=by
 intro pins s σ H D I h;rw [exec_Assign_arm];refine wpAny_bind (Q3 ?_);rw [hs];refine wpAny_bind (P6 ?_);rw [S6 (by decide)];refine wpAny_bind (Tuple_ (thn (ha _ pins s σ H _ I h) λus s1 ⟨vs,H1,I1,r1,q1⟩=> ?_));obtain⟨v,w,e1,q1⟩:=q1;subst e1;obtain⟨u1,u2,rfl,rv,rw'⟩: ∃u1 u2,us= [u1,u2]/\RelV v u1/\RelV w u2:=by
  cases r1 with
  |cons p q=>
   cases q with
   |cons p' q'=>
    cases q';exact⟨_,_,rfl,p,p'⟩
 refine A4 ?_ (by show 2<=sizeLine;decide);have I2:Inv X pins σ H1 {s1 with heap:=s1.heap.push {cls:= .type "tuple",data:= .seq [u1,u2].toArray}}:=I1.kept (t':=s1.toks) λb o e=>G7 _ e
 rw [hw];refine wpAny_bind (P6 ?_);show D5 (D8 X.prog X.w) X.A (do rule "assign.swapped-stores";let items <-unpackItems (.ref s1.heap.objs.size) 2 none;dM [λv=>g8 X.env y v,λv=>g8 X.env x v] items.reverse;pure Flow.next) _ _ _;refine wpAny_bind (lR (wpAny_bind (unpackItems_tuple (items:= #[u1,u2]) (I.ok.hd hc) (IsTup.new s1.heap _) λh' hx'=> ?_)));have I3:=I2.kept (h':=h') (t':=s1.toks) λb o e=>hx' b o (R7 (P5 e)) e
 show D5 _ _ (dM [λv=>g8 X.env y v,λv=>g8 X.env x v] [u2,u1] >>= λ_=>pure Flow.next) _ _ _;refine wpAny_bind (Z9 (cO (zH I3 hN hj (.inl hy) rw' (λs2 I4=> ?_) (.inr hy))));refine Z9 (cO (zH I4 hN hi (.inl hx) rv (λs3 I5=>e7 (P6 ?_)) (.inr hx)));rw [List.set_comm _ _ (C5 hij)] at I5;exact⟨_,H1,I5,q1⟩
end
structure It where
 go:P4->Hp->Prop
 yld:P4->Hp->V->Hp->Prop
 stop:P4->Hp->Prop
def YI (X:Cx)(pins:G0 (G5×Obj))(H:Hp)(b:G5):Prop:=
 H b=none/\b≠X.env.locals/\b ∉ X.fs/\(b∈X.ex\/X.s₀.heap.objs.size<=b)/\(∀x c,X.env.cells.lookup x=some c->c≠b)/\ ∀p∈X.pn++pins,p.1≠b
theorem Inv.fpOk {pins:G0 (G5×Obj)}{σ:St}{H':Hp}(I:Inv X pins σ H s)(hb:s.heap.objs.size<=b)(hn:H' b=none):YI X pins H' b:=by
 refine⟨hn,F3 (P3 I.lt hb),I.nofs hb,.inr (R8 I.sz hb),λx c e z=> ?_,λp hp z=> ?_⟩
 ·obtain⟨v,q⟩:=I.cell x c e;exact absurd (P3 q.lt (by rw [z];exact hb)) (N6 _)
 ·exact absurd (P3 (P5 (I.pin p hp).1) (by rw [z];exact hb)) (N6 _)
structure Turn (P:D2)(w:S4)(K:G2)(tg:D3)(J:It)(fp:G0 G5)(it:G5)(tn:P4->S3->Prop):Prop where
 mem:it∈fp
 obj: ∀i h,tn i h-> ∀b∈fp,∃o,h.get? b=some o/\ ∀v,o.data≠ .cell v
 keep: ∀i h h',tn i h->(∀b∈fp,∀o,h.get? b=some o->h'.get? b=some o)->tn i h'
 item: ∀ (X:Cx),X.prog=P->X.w=w->X.K=K->X.calm=true-> ∀ (i:P4) (pins:G0 (G5×Obj)) (s:G4) (σ:St) (H:Hp) (E:G1->G4->Prop),Inv X pins σ H s->(∀b∈fp,YI X pins H b)->tn i s.heap->J.go i H->
  D5 (D8 P w) X.A (lS (.ref it)) (λr s1=> ∃u,r=some u/\
   D5 (D8 P w) X.A (E9 tg (.ref it) u) (λ_ s2=> ∃x H',Inv X pins σ H' s2/\RelV x u/\J.yld i H x H'/\tn (i+1) s2.heap/\ ∀b∈fp,H' b=none) E s1) E s
 done: ∀ (X:Cx),X.prog=P->X.w=w->X.K=K->X.calm=true-> ∀ (i:P4) (pins:G0 (G5×Obj)) (s:G4) (σ:St) (H:Hp) (E:G1->G4->Prop),Inv X pins σ H s->(∀b∈fp,YI X pins H b)->tn i s.heap->J.stop i H->
  D5 (D8 P w) X.A (lS (.ref it)) (λr s1=>r=none/\Inv X pins σ H s1) E s
 self: ∀ (A:R0) (i:P4) (s:G4) (Q:G1->G4->Prop) (E:G1->G4->Prop),tn i s.heap->Q (.ref it) s->D5 (D8 P w) A (mV (.ref it)) Q E s
abbrev TI:=St->Hp->(It->Hp->Prop)->Prop
def PIE (X:Cx)(pins:G0 (G5×Obj))(σ:St)(tg:D3)(R:It->Hp->Prop)(itv:G1)(s2:G4):Prop:=
 ∃ (it:G5) (fp:G0 G5) (tn:P4->S3->Prop) (J:It) (H':Hp),itv= .ref it/\Inv X pins σ H' s2/\Turn X.prog X.w X.K tg J fp it tn/\tn 0 s2.heap/\(∀b∈fp,YI X pins H' b)/\R J H'
def PI (X:Cx)(tg iter:D3)(wi:TI):Prop:=
 ∀ (pins:G0 (G5×Obj)) (s:G4) (σ:St) (H:Hp) (R:It->Hp->Prop),Inv X pins σ H s->wi σ H R->
  D5 (D8 X.prog X.w) X.A (M2 iter X.env) (λv s1=>D5 (D8 X.prog X.w) X.A (mV v) (PIE X pins σ tg R) X.xe s1) X.xe s
variable {tg:D3}
theorem Uk {M : Y1} {E : G1 → G4 → Prop} {it : G5} {o : Obj} {n : T0} {vs : B7 G1} {Q : Unit → G4 → Prop} (ho : s.heap.get? it = some o) (hc : o.cls = .type n) (hd : o.data = .fields vs)
    (hn : ["enumerate", "zip", "dict_itemiterator", "dict_reverseitemiterator", "odict_iterator", "itertools.zip_longest", "itertools.pairwise"].contains n = false) (hQ : Q () s) : D5 M A (E9 tg (.ref it) u) Q E s := by
  unfold E9
  cases tg <;> first
    | exact P6 hQ
    | (cases u <;> first
        | exact P6 hQ
        | (refine wpAny_bind (lU ho ?_)
           rw [hc, hd]
           show D5 M A (if (["enumerate", "zip", "dict_itemiterator", "dict_reverseitemiterator", "odict_iterator", "itertools.zip_longest", "itertools.pairwise"].contains n && vs[0]? == some (X1 _)) = true then _ else _) Q E s
           rw [S6 (by intro h; rw [hn, M7] at h; cases h)]
           exact P6 hQ))
def Itl (K:G2)(a:G5):It:=
 ⟨λi H=> ∃xs x,SqL K H a xs/\xs[i]? =some x,λi H x H'=>H'=H/\ ∀xs,SqL K H a xs->xs[i]? =some x,λi H=> ∃xs,SqL K H a xs/\xs.length<=i⟩
def Itt (K:G2)(a:G5):It:=
 ⟨λi H=> ∃xs x,SqT K H a xs/\xs[i]? =some x,λi H x H'=>H'=H/\ ∀xs,SqT K H a xs->xs[i]? =some x,λi H=> ∃xs,SqT K H a xs/\xs.length<=i⟩
def Itr (lo:P9)(n:P4):It:=⟨λi _=>i<n,λi H x H'=>H'=H/\x= .int (lo+i),λi _=>n<=i⟩
variable {K:G2}
theorem JF (a it:G5):Turn P w K tg (Itl K a) [it] it (λi h=>h.IsListIter it a i) where
 mem:=by simp
 obj:=λi h st b hb=>by
  have e:b=it:=by simpa using hb
  subst e;obtain⟨o,e,c,d⟩:=st;exact⟨o,e,λv z=>by rw [d] at z;cases z⟩
 keep:=λi h h' st k=>st.at λo e=>k it (by simp) o e
 item:=by
  intro X hP hw hK hc i pins s σ H E I hf st hg;subst hP hw hK;obtain⟨xs,x,hq,hx⟩:=hg;obtain⟨its,rv,p,hz⟩:=I.list hq;obtain⟨u,hu,ru⟩:=rv.get hx;obtain⟨f0,f1,f2,f3,f4,f5⟩:=hf it (by simp);refine wpAny_pyNext_list_item st p.isList (x:=u) (by simpa using hu) λh' st' sb=> ?_
  have I1:Inv X pins σ H {s with heap:=h'}:=I.turned (t':=s.toks) (λb o hb e=>(sb.2 b hb).trans e) f0 f1 f3 f4 f5;obtain⟨o,e,c,d⟩:=id st';exact⟨u,rfl,Uk (s:= {s with heap:=h'}) e c d (by decide) ⟨x,H,I1,ru,⟨rfl,λys hy=>by rw [I.list_inj hy hq];exact hx⟩,st',λb hb=>(hf b hb).1⟩⟩
 done:=by
  intro X hP hw hK hc i pins s σ H E I hf st hg;subst hP hw hK;obtain⟨xs,hq,hx⟩:=hg;obtain⟨its,rv,p,hz⟩:=I.list hq;obtain⟨f0,f1,f2,f3,f4,f5⟩:=hf it (by simp);have hl:=rv.length;exact wpAny_pyNext_list_end (I.ok.hd hc) st p.isList (by simp;omega) λh' eb=>⟨rfl,I.turned (t':=s.toks) (λb o hb e=>eb b o hb e) f0 f1 f3 f4 f5⟩
 self:=λ_ _ _ _ _ st h=>wpAny_pyIter_listiter st h
theorem WT (a it:G5):Turn P w K tg (Itt K a) [it] it (λi h=>h.IsTupleIter it a i) where
 mem:=by simp
 obj:=λi h st b hb=>by
  have e:b=it:=by simpa using hb
  subst e;obtain⟨o,e,c,d⟩:=st;exact⟨o,e,λv z=>by rw [d] at z;cases z⟩
 keep:=λi h h' st k=>st.at λo e=>k it (by simp) o e
 item:=by
  intro X hP hw hK hc i pins s σ H E I hf st hg;subst hP hw hK;obtain⟨xs,x,hq,hx⟩:=hg;obtain⟨its,rv,p,hz⟩:=I.tuple hq;obtain⟨u,hu,ru⟩:=rv.get hx;obtain⟨f0,f1,f2,f3,f4,f5⟩:=hf it (by simp);refine wpAny_pyNext_tuple_item st (show s.heap.IsTuple a its.toArray from p) (x:=u) (by simpa using hu) λh' st' sb=> ?_
  have I1:Inv X pins σ H {s with heap:=h'}:=I.turned (t':=s.toks) (λb o hb e=>(sb.2 b hb).trans e) f0 f1 f3 f4 f5;obtain⟨o,e,c,d⟩:=id st';exact⟨u,rfl,Uk (s:= {s with heap:=h'}) e c d (by decide) ⟨x,H,I1,ru,⟨rfl,λys hy=>by rw [I.tuple_inj hy hq];exact hx⟩,st',λb hb=>(hf b hb).1⟩⟩
 done:=by
  intro X hP hw hK hc i pins s σ H E I hf st hg;subst hP hw hK;obtain⟨xs,hq,hx⟩:=hg;obtain⟨its,rv,p,hz⟩:=I.tuple hq;obtain⟨f0,f1,f2,f3,f4,f5⟩:=hf it (by simp);have hl:=rv.length;exact wpAny_pyNext_tuple_end (I.ok.hd hc) st (show s.heap.IsTuple a its.toArray from p) (by simp;omega) λh' eb=>⟨rfl,I.turned (t':=s.toks) (λb o hb e=>eb b o hb e) f0 f1 f3 f4 f5⟩
 self:=λ_ _ _ _ _ st h=>wpAny_pyIter_tupleiter st h
theorem WU (it:G5)(lo:P9)(n:P4):Turn P w K tg (Itr lo n) [it] it (λi h=>lF h it (lo+(i:P4)*1) ((n:P9)-(i:P4)) 1) where
 mem:=by simp
 obj:=λi h st b hb=>by
  have e:b=it:=by simpa using hb
  subst e;exact⟨_,st,λv z=>by
   have z':Data.fields _=Data.cell v:=z;cases z'⟩
 keep:=λi h h' st k=>k it (by simp) _ st
 item:=by
  intro X hP hw hK hc i pins s σ H E I hf st hg;subst hP hw hK;obtain⟨f0,f1,f2,f3,f4,f5⟩:=hf it (by simp);have W:=Walks.range (prog:=X.prog) (w:=X.w) (I.ok.hd hc) it lo 1 n;refine W.item i s _ _ hg st λv h' tk hv st' kk=> ?_
  obtain⟨t,rfl⟩:=hv;have I1:Inv X pins σ H {s with heap:=h',toks:=tk}:=I.turned (λb o hb e=>kk b o (by simpa using hb) e) f0 f1 f3 f4 f5;refine⟨_,rfl,Uk (s:= {s with heap:=h',toks:=tk}) (n:= "range_iterator") st' rfl rfl (by decide) ⟨.int (lo+i),H,I1,⟨t,?_⟩,⟨rfl,rfl⟩,st',λb hb=>(hf b hb).1⟩⟩;rw [Int.mul_one]
 done:=by
  intro X hP hw hK hc i pins s σ H E I hf st hg;subst hP hw hK;obtain⟨f0,f1,f2,f3,f4,f5⟩:=hf it (by simp);exact wpAny_pyNext_range_end (I.ok.hd hc) st (by have:n<=i:=hg;omega) λh' eb=>⟨rfl,I.turned (t':=s.toks) (λb o hb e=>eb b o hb e) f0 f1 f3 f4 f5⟩
 self:=λ_ _ _ _ _ st h=>wpAny_pyIter_rangeiter st h
section
variable {X:Cx}{tg:D3}
def PH (K:G2)(tl:TE):TI:=λσ H R=>tl σ H λx H1=> ∃a,x= .ref a/\(∃xs,SqL K H1 a xs)/\R (Itl K a) H1
theorem XW {l:D3}{tl:TE}(hl:PE X l tl):PI X tg l (PH X.K tl):=by
 intro pins s σ H R I h;refine thn (hl pins s σ H _ I h) λv s1 ⟨x,H1,I1,r1,q1⟩=> ?_
 obtain⟨a,e,⟨xs,hq⟩,q⟩:=q1;subst e;cases r1;obtain⟨its,rv,p,hz⟩:=I1.list hq;refine aZ p.isList ?_;refine⟨s1.heap.objs.size,[s1.heap.objs.size],_,_,H1,rfl,I1.kept (t':=s1.toks) λb o e=>G7 _ e,JF a _,⟨_,S5 _ rfl,rfl,rfl⟩,λb hb=> ?_,q⟩;have e:b=s1.heap.objs.size:=by simpa using hb
 subst e;exact I1.fpOk (P0 _) (I1.hok.fresh (P0 _))
variable {pins:G0 (G5×Obj)}
theorem Ul {σ:St}{H:Hp}{s:G4}{R:It->Hp->Prop}{E:G1->G4->Prop}{lo hi:P9}{t u v:Tok}{tk:P4}(I:Inv X pins σ H s)(h1: -(2^62)<=lo)(h2:lo<2^62)(h3: -(2^62)<=hi)(h4:hi<2^62)
 (q:R (Itr lo (hi-lo).toNat) H):D5 (D8 X.prog X.w) X.A (mV (.ref s.heap.objs.size)) (PIE X pins σ tg R) E {s with heap:=s.heap.push {cls:= .type "range",data:= .fields #[.int lo t,.int hi u,.int 1 v]},toks:=tk}:=by
 refine wpAny_pyIter_range (IsRange.new ..) (small_one h1 h2 h3 h4) ?_;have I1:Inv X pins σ H {s with heap:=s.heap.push {cls:= .type "range",data:= .fields #[.int lo t,.int hi u,.int 1 v]},toks:=tk}:=I.kept λb o e=>G7 _ e
 refine⟨(s.heap.push {cls:= .type "range",data:= .fields #[.int lo t,.int hi u,.int 1 v]}).objs.size,[(s.heap.push {cls:= .type "range",data:= .fields #[.int lo t,.int hi u,.int 1 v]}).objs.size],_,_,H,rfl,
  I1.kept (t':=tk) λb o e=>G7 _ e,WU _ lo (hi-lo).toNat,?_,λb hb=> ?_,q⟩
 ·have e1:lo+((0:P4):P9)*1=lo:=by simp
  have e2:(((hi-lo).toNat:P4):P9)-((0:P4):P9)=Builtin.Range.rangeSize lo hi 1:=by rw [rangeSize_one];split<;>omega
  show lF _ _ (lo+((0:P4):P9)*1) ((((hi-lo).toNat:P4):P9)-((0:P4):P9)) 1;rw [e1,e2];exact S5 _ rfl
 ·have e:b=(s.heap.push {cls:= .type "range",data:= .fields #[.int lo t,.int hi u,.int 1 v]}).objs.size:=by simpa using hb
  subst e;exact I1.fpOk (P0 _) (I1.hok.fresh (P0 _))
def PJ (ta:TA):TI:=λσ H R=>ta σ H λvs H1=> ∃j:P9,vs= [.int j]/\ -(2^62)<=j/\j<2^62/\R (Itr 0 j.toNat) H1
theorem YJ {a:D3}{ta:TA}{p pos:Pos}(hg:Gl X "range")(hm:X.mg "range" =none)(ha:PA X [a] ta)(hs:G9 [a] X.env= [(false,M2 a X.env)]:=by rfl):PI X tg (.Call (.Name "range" p) [a] [] pos) (PJ ta):=by
 intro pins s σ H R I h;refine Call_ (JD I hg hm boot_range (J6 (thn (ha pos pins s σ H _ I h) λus s1 ⟨vs,H1,I1,r1,q1⟩=> ?_) hs rfl));obtain⟨j,e,q1,q2,q⟩:=q1;subst e;cases r1 with
 |cons r rr=>
  cases rr;obtain⟨t,rfl⟩:=r;exact call_range_1 (Ul I1 (by omega) (by omega) q1 q2 (by simpa using q))
def NS (wi:TI)(g:TG)(tb:TS):TS:=λD σ H=>wi σ H λJ H1=> ∃W:P4->P4->St->Hp->Prop,(∃m,W 0 m σ H1)/\ ∀i m σ H,W i m σ H->
 (J.stop i H/\D.nx σ H)\/(J.go i H/\ ∃N:St->Hp->Prop,(∀nE H',N nE H'-> ∃m',m'<m/\W (i+1) m' nE H')/\ ∀x H',J.yld i H x H'->g x σ H' λnI H2=>tb {D with nx:=N,ct:=N,bk:=D.nx} nI H2)
def yN (fp:G0 G5)(h:S3):G0 (G5×Obj):=fp.filterMap λb=>(h.get? b).map λo=>(b,o)
theorem we {fp:G0 G5}{h:S3}{b:G5}{o:Obj}(hb:b∈fp)(e:h.get? b=some o):(b,o)∈yN fp h:=E5.mpr ⟨b,hb,by rw [e];rfl⟩
theorem JH {fp:G0 G5}{h:S3}{p:G5×Obj}(hp:p∈yN fp h):p.1∈fp/\h.get? p.1=some p.2:=by
 obtain⟨b,hb,e⟩:=E5.mp hp;cases q:h.get? b with
 |none=>rw [q] at e;cases e
 |some o=>
  rw [q] at e;have e':(b,o)=p:=T8 e;subst e';exact⟨hb,q⟩
theorem Inv.pinned {σ:St}{H:Hp}{s:G4}{fp:G0 G5}(I:Inv X pins σ H s)(hf: ∀b∈fp,YI X pins H b)(ho: ∀b∈fp,∃o,s.heap.get? b=some o/\ ∀v,o.data≠ .cell v):Inv X (pins++yN fp s.heap) σ H s:=
 I.pins_of λp hp=>(R5.mp hp).elim (λz=>I.pin p (D4 _ z)) λz=>by
  obtain⟨hb,e⟩:=JH z;obtain⟨f0,f1,f2,_⟩:=hf p.1 hb;obtain⟨o,e',d⟩:=ho p.1 hb;rw [e] at e';cases e';exact⟨e,f0,f1,f2,d⟩
theorem Inv.unpinned {pl:G0 (G5×Obj)}{σ:St}{H:Hp}{s:G4}(I:Inv X (pins++pl) σ H s):Inv X pins σ H s:=I.pins_of λp hp=>I.pin p (D4 _ (C0 _ hp))
theorem Xm {iter:D3}{body:G0 M4}{wi:TI}{g:TG}{tb:TS}{pos:Pos}(hp:c7 (D8 X.prog X.w) X.A X.env X.xe)(hc:X.calm=true)(hi:PI X tg iter wi)(hg:PG X tg g)(hb:PSs X body tb)
 (hs: ∀x,T4 iter X.env x=pure x:=by intro _;rfl):PS X (.For tg iter body [] pos) (NS wi g tb):=by
 intro pins s σ H D I h;refine wpAny_For (thn (hi pins s σ H _ I h) λv s1 h1=>thn h1 λitv s2 h2=> ?_) hs;obtain⟨it,fp,tn,J,H2,e,I2,T,st2,f2,W,⟨m0,w0⟩,turn⟩:=h2;subst e
 -- what stays true of the iterator's objects through the loop
 have stat: ∀ {H':Hp},(∀b∈fp,H' b=none)-> ∀b∈fp,YI X pins H' b:=λhn b hb=>⟨hn b hb,(f2 b hb).2⟩
 refine codeAny_forLoop_any (λn s'=> ∃i nE H',Inv X pins nE H' s'/\tn i s'.heap/\(∀b∈fp,H' b=none)/\W i n nE H') ?_ m0 ⟨0,σ,H2,I2,st2,λb hb=>(f2 b hb).1,w0⟩;rintro n s3 ⟨i,nJ,H3,I3,st3,fr3,w3⟩;rcases turn i n nJ H3 w3 with ⟨stop,qn⟩|⟨go,N,hN,step⟩
 ·refine U0 hp (thn (T.done X rfl rfl rfl hc i pins s3 nJ H3 X.xe I3 (stat fr3) st3 stop) λr s4 ⟨hr,I4⟩=> ?_);subst hr;exact Q9 ⟨nJ,H3,I4,qn⟩
 ·refine U0 hp (thn (T.item X rfl rfl rfl hc i pins s3 nJ H3 X.xe I3 (stat fr3) st3 go) λr s4 ⟨u,hr,h4⟩=> ?_);subst hr;refine U0 hp (thn h4 λ_ s5 ⟨x,H5,I5,r5,y5,st5,fr5⟩=> ?_);have I5':=I5.pinned (stat fr5) (T.obj _ _ st5);refine U0 hp (thn (hg _ s5 nJ H5 x u _ I5' r5 (step x H5 y5)) λ_ s6 ⟨oK,H6,I6,q6⟩=> ?_);refine U0 hp (thn (hb _ s6 oK H6 _ I6 q6) λf s7 q7=> ?_);have mW: ∀ {nN:St} {H7:Hp},Inv X (pins++yN fp s5.heap) nN H7 s7->N nN H7-> ∃m,m<n/\ ∃i nE H',Inv X pins nE H' s7/\tn i s7.heap/\(∀b∈fp,H' b=none)/\W i m nE H':=λ{nN H7} I7 n7=>by
   obtain⟨m',hm,w7⟩:=hN nN H7 n7;refine⟨m',hm,i+1,nN,H7,I7.unpinned,T.keep _ _ _ st5 λb hb o e=>(I7.pin (b,o) (D4 _ (D4 _ (we hb e)))).1,λb hb=> ?_,w7⟩;obtain⟨o,e,d⟩:=T.obj _ _ st5 b hb;exact(I7.pin (b,o) (D4 _ (D4 _ (we hb e)))).2.1
  cases f with
  |next=>obtain⟨nN,H7,I7,n7⟩:=q7;exact mW I7 n7
  |cont=>obtain⟨nN,H7,I7,n7⟩:=q7;exact mW I7 n7
  |brk=>obtain⟨nN,H7,I7,q7⟩:=q7;exact⟨nN,H7,I7.unpinned,q7⟩
  |ret v=>obtain⟨x7,nN,H7,I7,r7,q7⟩:=q7;exact⟨x7,nN,H7,I7.unpinned,r7,q7⟩
end
abbrev R2:=V->V->Hp->VK->Prop
def OpR (X:Cx)(f:G1->G1->Sem G1)(r:R2):Prop:=
 ∀ (pins:G0 (G5×Obj)) (s:G4) (σ:St) (H:Hp) (x y:V) (v u:G1) (Q:VK),Inv X pins σ H s->RelV x v->RelV y u->r x y H Q->
  D5 (D8 X.prog X.w) X.A (f v u) (EP X pins σ Q) X.xe s
def UnR (X:Cx)(f:G1->Sem G1)(r:V->Hp->VK->Prop):Prop:=
 ∀ (pins:G0 (G5×Obj)) (s:G4) (σ:St) (H:Hp) (x:V) (v:G1) (Q:VK),Inv X pins σ H s->RelV x v->r x H Q->
  D5 (D8 X.prog X.w) X.A (f v) (EP X pins σ Q) X.xe s
def CallR (X:Cx)(f:G1)(r:G0 V->Hp->VK->Prop):Prop:=
 ∀ (pins:G0 (G5×Obj)) (s:G4) (σ:St) (H:Hp) (xs:G0 V) (us:G0 G1) (Q:VK),Inv X pins σ H s->Vals xs us->r xs H Q->
  D5 (D8 X.prog X.w) X.A (call f us) (EP X pins σ Q) X.xe s
def tOp (r:R2)(ta tb:TE):TE:=λσ H Q=>ta σ H λx H1=>tb σ H1 λy H2=>r x y H2 Q
def tUn (r:V->Hp->VK->Prop)(ta:TE):TE:=λσ H Q=>ta σ H λx H1=>r x H1 Q
def rI (C:P9->P9->Prop)(g:P9->P9->V):R2:=λx y H Q=> ∃i j,x= .int i/\y= .int j/\C i j/\Q (g i j) H
def rI0 (g:P9->P9->V):R2:=λx y H Q=> ∃i j,x= .int i/\y= .int j/\Q (g i j) H
def rU (g:P9->V):V->Hp->VK->Prop:=λx H Q=> ∃i,x= .int i/\Q (g i) H
section
variable {X:Cx}{a b c:D3}{ta tb tc:TE}{pos:Pos}
theorem Mo (ha:PE X a ta)(hb:PE X b tb){pins:G0 (G5×Obj)}{s:G4}{σ:St}{H:Hp}{R:V->V->Hp->Prop}(I:Inv X pins σ H s)
 (h:ta σ H λx H1=>tb σ H1 λy H2=>R x y H2){Q:G1->G4->Prop}{f:G1->G1->Sem G1}
 (hf: ∀v u s2 x y H2,Inv X pins σ H2 s2->RelV x v->RelV y u->R x y H2->D5 (D8 X.prog X.w) X.A (f v u) Q X.xe s2):
 D5 (D8 X.prog X.w) X.A (M2 a X.env) (λv nG=>D5 (D8 X.prog X.w) X.A (M2 b X.env) (λu nU=>D5 (D8 X.prog X.w) X.A (f v u) Q X.xe nU) X.xe nG) X.xe s:=by
 refine thn (ha pins s σ H _ I h) λv s1 ⟨x,H1,I1,r1,q1⟩=> ?_
 refine thn (hb pins s1 σ H1 _ I1 q1) λu s2 ⟨y,H2,I2,r2,q2⟩=> ?_
 exact hf v u s2 x y H2 I2 r1 r2 q2
theorem Mp {op:lG}{r:R2}(ho:OpR X (N3 op) r)(ha:PE X a ta)(hb:PE X b tb):PE X (.BinOp a op b pos) (tOp r ta tb):=by
 intro pins s σ H Q I h;exact wpAny_BinOp (Mo ha hb I h λv u s2 x y H2 I2 rx ry q=>ho pins s2 σ H2 x y v u Q I2 rx ry q)
theorem Mq {op:UnaryOp}{r:V->Hp->VK->Prop}(ho:UnR X (unaryOp op) r)(ha:PE X a ta):PE X (.UnaryOp op a pos) (tUn r ta):=by
 intro pins s σ H Q I h;exact UnaryOp_ (thn (ha pins s σ H _ I h) λv s1 ⟨x,H1,I1,r1,q1⟩=>ho pins s1 σ H1 x v Q I1 r1 q1)
theorem opI {f:G1->G1->Sem G1}{C:P9->P9->Prop}{g:P9->P9->P9}
 (rule: ∀ (i j:P9) (t u:Tok) (s:G4) (Q:G1->G4->Prop) (E:G1->G4->Prop),C i j->Q (.int (g i j) s.toks) {s with toks:=s.toks+1}->D5 (D8 X.prog X.w) X.A (f (.int i t) (.int j u)) Q E s):
 OpR X f (rI C λi j=> .int (g i j)):=by
 intro pins s σ H x y v u Q I rx ry h;obtain⟨i,j,rfl,rfl,hc,q⟩:=h;obtain⟨t,rfl⟩:=rx;obtain⟨t',rfl⟩:=ry;exact rule i j t t' s _ _ hc ⟨.int (g i j),H,I.tok _,⟨_,rfl⟩,q⟩
theorem NT {f:G1->G1->Sem G1}{g:P9->P9->P9}
 (rule: ∀ (i j:P9) (t u:Tok) (s:G4) (Q:G1->G4->Prop) (E:G1->G4->Prop),Q (.int (g i j) s.toks) {s with toks:=s.toks+1}->D5 (D8 X.prog X.w) X.A (f (.int i t) (.int j u)) Q E s):
 OpR X f (rI0 λi j=> .int (g i j)):=by
 intro pins s σ H x y v u Q I rx ry h;obtain⟨i,j,rfl,rfl,q⟩:=h;obtain⟨t,rfl⟩:=rx;obtain⟨t',rfl⟩:=ry;exact rule i j t t' s _ _ ⟨.int (g i j),H,I.tok _,⟨_,rfl⟩,q⟩
theorem Mb {f:G1->G1->Sem G1}{g:P9->P9->B3}
 (rule: ∀ (i j:P9) (t u:Tok) (s:G4) (Q:G1->G4->Prop) (E:G1->G4->Prop),Q (.bool (g i j)) s->D5 (D8 X.prog X.w) X.A (f (.int i t) (.int j u)) Q E s):
 OpR X f (rI0 λi j=> .bl (g i j)):=by
 intro pins s σ H x y v u Q I rx ry h;obtain⟨i,j,rfl,rfl,q⟩:=h;obtain⟨t,rfl⟩:=rx;obtain⟨t',rfl⟩:=ry;exact rule i j t t' s _ _ ⟨.bl (g i j),H,I,rfl,q⟩
def Mc (i j:P9):Prop:=0<j/\j<1073741824
def NU (i j:P9):Prop:=0<=j/\j<=1000000/\i.natAbs<2^64
def CMul (i j:P9):Prop:=(-(2^64)<i/\i<2^64)\/(-(2^64)<j/\j<2^64)
theorem CMul.ok {i j:P9}(h:CMul i j):IntMulOk i j:=by
 rcases h with ⟨h1,h2⟩|⟨h1,h2⟩
 ·exact .of_left (iO h1 h2)
 ·exact .of_right (iO h1 h2)
theorem op_add:OpR X (N3 .Add) (rI0 λi j=> .int (i+j)):=NT λ_ _ _ _ _ _ _ q=>add_int q
theorem PK:OpR X (N3 .Sub) (rI0 λi j=> .int (i-j)):=NT λ_ _ _ _ _ _ _ q=>sub_int q
theorem op_mul:OpR X (N3 .Mult) (rI CMul λi j=> .int (i*j)):=opI λ_ _ _ _ _ _ _ hc q=>mul_int q hc.ok
theorem XX:OpR X (N3 .FloorDiv) (rI Mc λi j=> .int (i / j)):=opI λi j _ _ _ _ _ hc q=>by
 have h1:(0:P9)<j:=hc.1;have h2:j<1073741824:=hc.2;exact floordiv_int (by omega) (by rw [aA i (by omega)];exact q) (.inl (PyProof.noPylong_small (by omega)))
theorem PL:OpR X (N3 .Mod) (rI (λ_ j=>0<j) λi j=> .int (i%j)):=opI λi j _ _ _ _ _ hc q=>by
 have h1:(0:P9)<j:=hc;exact mod_int' (by omega) (by rw [aB i (by omega)];exact q)
theorem PM:OpR X (N3 .Pow) (rI NU λi j=> .int (i^j.toNat)):=opI λ_ _ _ _ _ _ _ hc q=>pow_int_small hc.1 hc.2.1 hc.2.2 q
theorem unI {f:G1->Sem G1}{g:P9->P9}
 (rule: ∀ (i:P9) (t:Tok) (s:G4) (Q:G1->G4->Prop) (E:G1->G4->Prop),Q (.int (g i) s.toks) {s with toks:=s.toks+1}->D5 (D8 X.prog X.w) X.A (f (.int i t)) Q E s):
 UnR X f (rU λi=> .int (g i)):=by
 intro pins s σ H x v Q I rx h;obtain⟨i,rfl,q⟩:=h;obtain⟨t,rfl⟩:=rx;exact rule i t s _ _ ⟨.int (g i),H,I.tok _,⟨_,rfl⟩,q⟩
theorem PN:UnR X (unaryOp .USub) (rU λi=> .int (-i)):=unI λ_ _ _ _ _ q=>neg_int q
end
def NV:V->V->B3
 | .non,.non=>true| .non,.int _=>true| .int _,.non=>true| .non,.bl _=>true| .bl _,.non=>true| .non,.str _=>true| .str _,.non=>true
 | .int _,.int _=>true| .bl _,.bl _=>true| .str _,.str _=>true| .byt _,.byt _=>true
 | .int _,.str _=>true| .str _,.int _=>true| .bl _,.str _=>true| .str _,.bl _=>true
 |_,_=>false
def rEq:R2:=λx y H Q=>NV x y=true/\Q (.bl (decide (x=y))) H
def rNe:R2:=λx y H Q=>NV x y=true/\Q (.bl (!decide (x=y))) H
theorem YK {i j:P9}:decide (V.int i=V.int j)=(i==j):=by
 rw [U1];simp
theorem Xn {i j:B3}:decide (V.bl i=V.bl j)=(i==j):=by
 rw [U1];simp
theorem YL {i j:Str}:decide (V.str i=V.str j)=(i==j):=by
 rw [U1];simp
theorem YM {i j:B7 UInt8}:decide (V.byt i=V.byt j)=(i.toList==j.toList):=by
 rw [U1];cases i;cases j;simp
section
variable {X:Cx}{a b c:D3}{ta tb tc:TE}{pos:Pos}
theorem jx {pins:G0 (G5×Obj)}{σ:St}{H:Hp}{s:G4}{Q:VK}{k k':B3}(I:Inv X pins σ H s)(q:Q (.bl k) H)(e:k=k'):EP X pins σ Q (.bool k') s:=by
 subst e;exact⟨.bl k,H,I,rfl,q⟩
theorem op_eq:OpR X (S8 .Eq) rEq:=by
 intro pins s σ H x y v u Q I rx ry h;obtain⟨hs,q⟩:=h;cases x with
 |non=>
  cases rx;cases y with
  |non=>cases ry;exact PySem.EqNone.eq_none_none (jx I q (by simp))
  |bl j=>cases ry;exact PySem.EqNone.eq_none_bool (jx I q (by simp))
  |int j=>obtain⟨t',rfl⟩:=ry;exact PySem.EqNone.eq_none_int (jx I q (by simp))
  |str j=>obtain⟨t',rfl⟩:=ry;exact PySem.EqNone.eq_none_str (jx I q (by simp))
  |_=>exact absurd (show false=true from hs) P8
 |bl i=>
  cases rx;cases y with
  |non=>cases ry;exact PySem.EqNone.eq_bool_none (jx I q (by simp))
  |bl j=>cases ry;exact eq_bool (jx I q Xn)
  |str j=>obtain⟨t',rfl⟩:=ry;exact PySem.EqMixed.eq_bool_str (jx I q (by simp))
  |_=>exact absurd (show false=true from hs) P8
 |int i=>
  obtain⟨t,rfl⟩:=rx;cases y with
  |non=>cases ry;exact PySem.EqNone.eq_int_none (jx I q (by simp))
  |int j=>obtain⟨t',rfl⟩:=ry;exact eq_int (jx I q YK)
  |str j=>obtain⟨t',rfl⟩:=ry;exact PySem.EqMixed.eq_int_str (jx I q (by simp))
  |_=>exact absurd (show false=true from hs) P8
 |str i=>
  obtain⟨t,rfl⟩:=rx;cases y with
  |non=>cases ry;exact PySem.EqNone.eq_str_none (jx I q (by simp))
  |bl j=>cases ry;exact PySem.EqMixed.eq_str_bool (jx I q (by simp))
  |int j=>obtain⟨t',rfl⟩:=ry;exact PySem.EqMixed.eq_str_int (jx I q (by simp))
  |str j=>obtain⟨t',rfl⟩:=ry;exact eq_str (jx I q YL)
  |_=>exact absurd (show false=true from hs) P8
 |byt i=>
  obtain⟨t,rfl⟩:=rx;cases y with
  |byt j=>obtain⟨t',rfl⟩:=ry;exact mL (jx I q YM)
  |_=>exact absurd (show false=true from hs) P8
 |_=>cases y<;>exact absurd (show false=true from hs) P8
theorem op_ne:OpR X (S8 .NotEq) rNe:=by
 intro pins s σ H x y v u Q I rx ry h;obtain⟨hs,q⟩:=h;cases x with
 |non=>
  cases rx;cases y with
  |non=>cases ry;exact PySem.EqNone.ne_none_none (jx I q (by simp))
  |bl j=>cases ry;exact PySem.EqNone.ne_none_bool (jx I q (by simp))
  |int j=>obtain⟨t',rfl⟩:=ry;exact PySem.EqNone.ne_none_int (jx I q (by simp))
  |str j=>obtain⟨t',rfl⟩:=ry;exact PySem.EqNone.ne_none_str (jx I q (by simp))
  |_=>exact absurd (show false=true from hs) P8
 |bl i=>
  cases rx;cases y with
  |non=>cases ry;exact PySem.EqNone.ne_bool_none (jx I q (by simp))
  |bl j=>cases ry;exact ne_bool (jx I q (congrArg not Xn))
  |str j=>obtain⟨t',rfl⟩:=ry;exact PySem.EqMixed.ne_bool_str (jx I q (by simp))
  |_=>exact absurd (show false=true from hs) P8
 |int i=>
  obtain⟨t,rfl⟩:=rx;cases y with
  |non=>cases ry;exact PySem.EqNone.ne_int_none (jx I q (by simp))
  |int j=>obtain⟨t',rfl⟩:=ry;exact ne_int (jx I q (congrArg not YK))
  |str j=>obtain⟨t',rfl⟩:=ry;exact PySem.EqMixed.ne_int_str (jx I q (by simp))
  |_=>exact absurd (show false=true from hs) P8
 |str i=>
  obtain⟨t,rfl⟩:=rx;cases y with
  |non=>cases ry;exact PySem.EqNone.ne_str_none (jx I q (by simp))
  |bl j=>cases ry;exact PySem.EqMixed.ne_str_bool (jx I q (by simp))
  |int j=>obtain⟨t',rfl⟩:=ry;exact PySem.EqMixed.ne_str_int (jx I q (by simp))
  |str j=>obtain⟨t',rfl⟩:=ry;exact ne_str (jx I q (congrArg not YL))
  |_=>exact absurd (show false=true from hs) P8
 |byt i=>
  obtain⟨t,rfl⟩:=rx;cases y with
  |byt j=>obtain⟨t',rfl⟩:=ry;exact mM (jx I q (congrArg not YM))
  |_=>exact absurd (show false=true from hs) P8
 |_=>cases y<;>exact absurd (show false=true from hs) P8
theorem Mr:OpR X (S8 .Lt) (rI0 λi j=> .bl (decide (i<j))):=Mb λ_ _ _ _ _ _ _ q=>lt_int q
theorem Ms:OpR X (S8 .LtE) (rI0 λi j=> .bl (decide (i<=j))):=Mb λ_ _ _ _ _ _ _ q=>le_int q
theorem Mt:OpR X (S8 .Gt) (rI0 λi j=> .bl (decide (j<i))):=Mb λ_ _ _ _ _ _ _ q=>gt_int q
theorem Mu:OpR X (S8 .GtE) (rI0 λi j=> .bl (decide (j<=i))):=Mb λ_ _ _ _ _ _ _ q=>ge_int q
theorem op_in_str:OpR X (S8 .In) (λx y H Q=> ∃i j,x= .str i/\y= .str j/\Q (.bl (!(H0 j i 0 j.length 1).isEmpty)) H):=by
 intro pins s σ H x y v u Q I rx ry h;obtain⟨i,j,rfl,rfl,q⟩:=h;obtain⟨t,rfl⟩:=rx;obtain⟨t',rfl⟩:=ry;exact in_str (jx I q rfl)
variable {r:R2}
theorem OpR.or {f:G1->G1->Sem G1}{r':R2}(h:OpR X f r)(h':OpR X f r'):OpR X f (λx y H Q=>r x y H Q\/r' x y H Q):=by
 intro pins s σ H x y v u Q I rx ry q;rcases q with q|q
 ·exact h pins s σ H x y v u Q I rx ry q
 ·exact h' pins s σ H x y v u Q I rx ry q
theorem YN (b:D3){op:cP}(h:op≠ .In:=by decide)(h2:op≠ .NotIn:=by decide):F4 op b=false:=by
 have e1:(op==CmpOp.In)=false:=by cases op<;>first|rfl|exact absurd rfl h
 have e2:(op==CmpOp.NotIn)=false:=by cases op<;>first|rfl|exact absurd rfl h2
 cases b<;>simp [F4,e1,e2]
theorem XY {op:cP}(ho:OpR X (S8 op) r)(ha:PE X a ta)(hb:PE X b tb)(hm:F4 op b=false):PE X (.Compare a [op] [b] pos) (tOp r ta tb):=by
 intro pins s σ H Q I h;exact wpAny_Compare1 (Mo ha hb I h λv u s2 x y H2 I2 rx ry q=>ho pins s2 σ H2 x y v u Q I2 rx ry q) hm
def XZ (t:TE):TT:=λσ H Q=>t σ H λx H'=> ∃k,x= .bl k/\Q k H'
theorem Qa {op:cP}(ho:OpR X (S8 op) r)(ha:PE X a ta)(hb:PE X b tb)(hm:F4 op b=false):PT X (.Compare a [op] [b] pos) (XZ (tOp r ta tb)):=by
 intro pins s σ H Q I h;refine wpAny_isTrue_Compare1 (thn (ha pins s σ H _ I h) λv s1 ⟨x,H1,I1,r1,q1⟩=>thn (hb pins s1 σ H1 _ I1 q1) λu s2 ⟨y,H2,I2,r2,q2⟩=>
  thn (ho pins s2 σ H2 x y v u _ I2 r1 r2 q2) λc s3 ⟨z,H3,I3,r3,k,e,q3⟩=> ?_) hm
 subst e;cases r3;exact C6 ⟨H3,I3,q3⟩
def Xo (r r':R2)(ta tb tc:TE):TE:=λσ H Q=>ta σ H λx H1=>tb σ H1 λy H2=>r x y H2 λz H3=> ∃k,z= .bl k/\
 (if k=true then tc σ H3 λw' H4=>r' y w' H4 Q else Q (.bl false) H3)
theorem Um {op op':cP}{r':R2}(ho:OpR X (S8 op) r)(ho':OpR X (S8 op') r')(ha:PE X a ta)(hb:PE X b tb)(hc:PE X c tc)
 (hm:i8 [op,op'] [b,c]=false:=by with_unfolding_all rfl):PT X (.Compare a [op,op'] [b,c] pos) (XZ (Xo r r' ta tb tc)):=by
 intro pins s σ H Q I h;refine isTrue_chain (thn (ha pins s σ H _ I h) λv s1 ⟨x,H1,I1,r1,q1⟩=>test_link (thn (hb pins s1 σ H1 _ I1 q1) λu s2 ⟨y,H2,I2,r2,q2⟩=>
  thn (ho pins s2 σ H2 x y v u _ I2 r1 r2 q2) λd s3 ⟨z,H3,I3,r3,k,e,q3⟩=> ?_)) hm
 subst e;cases r3;refine C6 ?_;cases k with
 |false=>
  obtain⟨k',e',q'⟩:=q3;cases e';exact ite_ff ⟨H3,I3,q'⟩
 |true=>
  refine ite_tt (test_last (thn (hc pins s3 σ H3 _ I3 q3) λw' s4 ⟨z',H4,I4,r4,q4⟩=>thn (ho' pins s4 σ H4 y z' u w' _ I4 r2 r4 q4) λd' s5 ⟨z2,H5,I5,r5,k2,e2,q5⟩=> ?_));subst e2;cases r5;exact C6 ⟨H5,I5,q5⟩
theorem vI:(sizeLine:P4)<2^63:=by rw [O3];decide
theorem op_add_str:OpR X (N3 .Add) (λx y H Q=> ∃i j,x= .str i/\y= .str j/\i.length+j.length<=sizeLine/\Q (.str (i++j)) H):=by
 intro pins s σ H x y v u Q I rx ry h;obtain⟨i,j,rfl,rfl,hz,q⟩:=h;obtain⟨t,rfl⟩:=rx;obtain⟨t',rfl⟩:=ry;exact add_str (λt' tk=>⟨.str (i++j),H,I.tok _,⟨_,rfl⟩,q⟩) hz
theorem yc {x:V}{us:G0 G1}(r:Vals [x] us): ∃u,us= [u]/\RelV x u:=by
 cases r with
 |cons r1 r2=>cases r2;exact⟨_,rfl,r1⟩
theorem YO {x y:V}{us:G0 G1}(r:Vals [x,y] us): ∃u w',us= [u,w']/\RelV x u/\RelV y w':=by
 cases r with
 |cons r1 r2=>
  cases r2 with
  |cons r3 r4=>cases r4;exact⟨_,_,rfl,r1,r3⟩
theorem YQ (hc:X.calm=true):CallR X (.builtin "max") (λxs H Q=> ∃i j,xs= [.int i,.int j]/\Q (.int (if j>i then j else i)) H):=by
 intro pins s σ H xs us Q I r h;obtain⟨i,j,rfl,q⟩:=h;obtain⟨u,w',rfl,⟨t,rfl⟩,⟨t',rfl⟩⟩:=YO r;refine max_two_ints (I.ok.hd hc) λh' tk k=>⟨_,H,I.kept k,?_,q⟩
 by_cases hj:j>i
 ·rw [S2 hj,S2 hj];exact⟨_,rfl⟩
 ·rw [S6 hj,S6 hj];exact⟨_,rfl⟩
theorem YR (hc:X.calm=true):CallR X (.builtin "min") (λxs H Q=> ∃i j,xs= [.int i,.int j]/\Q (.int (if j<i then j else i)) H):=by
 intro pins s σ H xs us Q I r h;obtain⟨i,j,rfl,q⟩:=h;obtain⟨u,w',rfl,⟨t,rfl⟩,⟨t',rfl⟩⟩:=YO r;refine min_two_ints (I.ok.hd hc) λh' tk k=>⟨_,H,I.kept k,?_,q⟩
 by_cases hj:j<i
 ·rw [S2 hj,S2 hj];exact⟨_,rfl⟩
 ·rw [S6 hj,S6 hj];exact⟨_,rfl⟩
theorem call_int1:CallR X (.type "int") (λxs H Q=>(∃i,xs= [.int i]/\Q (.int i) H)\/ ∃k,xs= [.bl k]/\Q (.int (if k then 1 else 0)) H):=by
 intro pins s σ H xs us Q I r h;rcases h with ⟨i,rfl,q⟩|⟨k,rfl,q⟩
 ·obtain⟨u,rfl,t,rfl⟩:=yc r;exact call_int_int ⟨.int i,H,I,⟨_,rfl⟩,q⟩
 ·obtain⟨u,rfl,r1⟩:=yc r;cases r1;exact call_int_bool ⟨.int (if k then 1 else 0),H,I.tok _,⟨_,rfl⟩,q⟩
theorem call_str_int:CallR X (.type "str") (λxs H Q=> ∃i,xs= [.int i]/\i.natAbs.log2<1920/\Q (.str (toString i)) H):=by
 intro pins s σ H xs us Q I r h;obtain⟨i,rfl,hz,q⟩:=h;obtain⟨u,rfl,t,rfl⟩:=yc r;exact PySem.P.str_of_int hz ⟨.str _,H,I.tok _,⟨_,rfl⟩,q⟩
theorem call_divmod:CallR X (.builtin "divmod") (λxs H Q=> ∃i j,xs= [.int i,.int j]/\Mc i j/\ ∀p,H p=none->Q (.ref p) (upd H p (.tup [.int (i / j),.int (i%j)]))):=by
 intro pins s σ H xs us Q I r h;obtain⟨i,j,rfl,⟨h1,h2⟩,q⟩:=h;obtain⟨u,w',rfl,⟨t,rfl⟩,⟨t',rfl⟩⟩:=YO r;refine divmod_int (by omega) ?_ (.inl (PyProof.noPylong_small (by omega)));rw [aA i (by omega),aB i (by omega)];have hn:H s.heap.objs.size=none:=I.hok.fresh (P0 _);refine⟨.ref s.heap.objs.size,_,?_,rfl,q _ hn⟩;refine I.laid (λb o e=>G7 _ e) (P0 _) ⟨by simp only [T5,B0];rw [O3];decide,[.int (i / j) s.toks,.int (i%j) (s.toks+1)],.cons ⟨_,rfl⟩ (.cons ⟨_,rfl⟩ .nil),?_⟩;exact⟨_,S5 s.heap rfl,rfl,rfl,0,rfl⟩
end
structure ObjM (h:S3)(x dx C:G5)(mA:Str->G6 G1):Prop where
 obj:h.get? x=some (cC C dx)
 ns:h.Ns1 dx mA
 ne:dx≠x
theorem YS {dx:G5}{mA:Str->G6 G1}(n:h.Ns1 dx mA): ∃od,h.get? dx=some od/\ ∀name,cQ name od=some (mA name):=by
 obtain⟨o,es,ep,ho,hd,hk,_,hm⟩:=n;refine⟨o,ho,λname=> ?_⟩;have e:=hm name;unfold nsFind findBy at e;rw [<-dY] at e;unfold cQ;rw [hd];dsimp only;split
 ·rename_i y q;rw [q] at e;exact congrArg some e
 ·rename_i q;rw [q] at e;have a:es.toList.any (·.refKey)=false:=by
   rw [List.any_eq_false];intro y hy;obtain⟨z,t,hkey⟩:=hk y (cR.mp hy);simp [DictEntry.refKey,hkey]
  have a': ¬es.toList.any (·.refKey)=true:=by rw [a];exact P8
  rw [S6 a'];exact congrArg some e
variable {C:G5}
theorem ObjM.look {x dx:G5}{mA:Str->G6 G1}(I:ObjM h x dx C mA): ∃od,mX h x (cC C dx) C (some od)/\ ∀name,cQ name od=some (mA name):=
 let ⟨od,ho,hl⟩:=YS I.ns
 ⟨od,⟨I.obj,rfl,rfl,ho⟩,hl⟩
theorem RelO.some_of {v:V}{o:G6 G1}(r:RelO (some v) o): ∃u,o=some u/\RelV v u:=by
 cases o with
 |none=>exact(show False from r).elim
 |some u=>exact⟨u,rfl,r⟩
section
variable {P:D2}{w:S4}{H H':Hp}{h h':S3}{a C dx:G5}{fs fs':G0 (Str×V)}
theorem Qb (hok:HOk P w H h)(e:H a=some (.ins C dx fs)): ∃mA,ObjM h a dx C mA/\(∀f,RelO (fs.lookup f) (mA f))/\kI mA (fs.map (·.1))/\fs.length<=1000/\H dx=some (.own a):=by
 obtain⟨d,z,ne,ob,mA,n,r,q⟩:=(show ObjOk P w H h a (.ins C dx fs) from hok a _ e);exact⟨mA,⟨ob,n,ne⟩,r,q,z,d⟩
end
structure Cls (K:G2)(C:G5):Prop where
 pg:f6 K C i9=true
 hd:mE K C=true
 po:mF K C=true
 sa:g9 K (.ref C) "__setattr__" =some (some (.builtin "object.__setattr__"))
theorem Cls.get (c:Cls K C)(f:Str):f6 K C f=true:=c.pg
section
variable {X:Cx}{pins:G0 (G5×Obj)}{σ:St}{H:Hp}{s:G4}{a C dx:G5}{fs:G0 (Str×V)}{f:Str}{v:V}{A:R0}{E:G1->G4->Prop}
theorem Qc {prog:D2}{w:S4}{env:Env}{e:D3}{f:Str}{pos:Pos}{s:G4}{Q:G1->G4->Prop}(hb:F7 e f env (M2 e env)=M2 e env)
 (h:D5 (D8 prog w) A (M2 e env) (λo nG=>D5 (D8 prog w) A (mG o f true) Q E nG) E s):D5 (D8 prog w) A (M2 (.Attribute e f pos) env) Q E s:=
 Attribute_any_ h (by rw [arm_eval_Attribute,hb])
end
section
variable {X:Cx}{pins:G0 (G5×Obj)}{σ:St}{H:Hp}{s:G4}{A:R0}{E:G1->G4->Prop}{Q:G1->G4->Prop}{c:G1}{b:B3}
inductive TyOf (K:G2)(H:Hp):V->G1->Prop where
 |non:TyOf K H .non (.type "NoneType")
 |bl (x:B3):TyOf K H (.bl x) (.type "bool")
 |int (i:P9):TyOf K H (.int i) (.type "int")
 |str (x:Str):TyOf K H (.str x) (.type "str")
 |flt (x:UInt64):TyOf K H (.flt x) (.type "float")
 |lst {a:G5} {xs:G0 V} (e:H a=some (.lst xs)):TyOf K H (.ref a) (.type "list")
 |frz {a:G5} {o:Obj} {xs:G0 V} (e:H a=some (.frz o (.lst xs))):TyOf K H (.ref a) (.type "list")
 |tup {a:G5} {xs:G0 V} (e:H a=some (.tup xs)):TyOf K H (.ref a) (.type "tuple")
 |dK {a:G5} {kvs:G0 (Key×V)} (e:H a=some (.dK kvs)):TyOf K H (.ref a) (.type "dict")
 |dT {a:G5} {kvs:G0 (G0 Key×V)} (e:H a=some (.dT kvs)):TyOf K H (.ref a) (.type "dict")
 |ins {a C dx:G5} {fs:G0 (Str×V)} (e:H a=some (.ins C dx fs)) (cl:Cls K C) (ha:g9 K (.ref C) "__class__" =some (some (.builtin "object.__class__")))
  (hn:mH K (.builtin "object.__class__") "__get__" =some (some (.builtin "getset_descriptor.__get__"))) (htk:mT K (.builtin "object.__class__")=some true)
  (hm:nB K C (.type "object")=some true):TyOf K H (.ref a) (.ref C)
theorem YT {x:V}{u t:G1}(I:Inv X pins σ H s)(rx:RelV x u)(ty:TyOf X.K H x t)(e:aC X.K t c=some b)(h: ∀tk,Q (.bool b) {s with toks:=tk}):
 D5 (D8 X.prog X.w) A (call (.builtin "isinstance") [u,c]) Q E s:=by
 cases ty with
 |non=>cases (show u=Z6 from rx);exact B1 mI I.kIn K1 e (λz=>nomatch z) h
 |bl y=>cases (show u=g6 y from rx);exact B1 mJ I.kIn K1 e (λz=>nomatch z) h
 |int i=>obtain⟨t,q⟩:=(show ∃t,u=Z5 i t from rx);cases q;exact B1 mO I.kIn K1 e (λz=>nomatch z) h
 |str y=>obtain⟨t,q⟩:=(show ∃t,u=X0 y t from rx);cases q;exact B1 mP I.kIn K1 e (λz=>nomatch z) h
 |flt y=>obtain⟨t,q⟩:=(show ∃t,u=lB y t from rx);cases q;exact B1 lV I.kIn K1 e (λz=>nomatch z) h
 | @lst a xs ea=>
  cases (show u=N5 a from rx);obtain⟨_,_,n,_,h1⟩:=(show ObjOk X.prog X.w H s.heap a (.lst xs) from I.hok a _ ea);exact B1 e9 I.kIn ⟨_,h1,rfl⟩ e (λz=>nomatch z) h
 | @frz a ob xs ea=>
  cases (show u=N5 a from rx);obtain⟨_,_,_,n,_,h1⟩:=(show ObjOk X.prog X.w H s.heap a (.frz ob (.lst xs)) from I.hok a _ ea);exact B1 e9 I.kIn ⟨_,h1,rfl⟩ e (λz=>nomatch z) h
 | @tup a xs ea=>
  cases (show u=N5 a from rx);obtain⟨_,_,_,p⟩:=(show ObjOk X.prog X.w H s.heap a (.tup xs) from I.hok a _ ea);obtain⟨o,h1,h2,_⟩:=p;exact B1 lW I.kIn ⟨o,h1,h2⟩ e (λz=>nomatch z) h
 | @dK a kvs ea=>
  cases (show u=N5 a from rx);obtain⟨_,_,vs,_,p⟩:=(show ObjOk X.prog X.w H s.heap a (.dK kvs) from I.hok a _ ea);obtain⟨o,es,ep,h1,h2,_⟩:=p;exact B1 fA I.kIn ⟨o,h1,h2.1⟩ e (λz=>nomatch z) h
 | @dT a kvs ea=>
  cases (show u=N5 a from rx);obtain⟨_,_,xs,_,o,es,ep,h1,h2,_⟩:=(show ObjOk X.prog X.w H s.heap a (.dT kvs) from I.hok a _ ea);exact B1 fA I.kIn ⟨o,h1,h2.1⟩ e (λz=>nomatch z) h
 | @ins a C dx fs ea cl ha hn htk hm=>
  cases (show u=N5 a from rx);obtain⟨mA,O,_⟩:=Qb I.hok ea;obtain⟨od,J,_⟩:=O.look;exact B1 (mQ (cl.get _) cl.hd ha hn htk hm) I.kIn J e (λz=>nomatch z) h
end
structure Room (k:P4)(A:R0):Prop where
 hd:A.handled=none
 dp:A.depth+3*k+5<recursionLimit
 un:A.units+16*k+200<cLine
 gd:A.guards=some []
variable {k:P4}
theorem Room.mono {j:P4}(r:Room k A)(h:j<=k):Room j A:=⟨r.hd,by have:=r.dp;omega,by have:=r.un;omega,r.gd⟩
theorem Room.deeper (r:Room (k+1) A)(env:Env):Room k (A.deeper env):=
 ⟨r.hd,by have:=r.dp;show A.depth+1+3*k+5<_;omega,by have:=r.un;show A.units+3+16*k+200<_;omega,r.gd⟩
theorem WV {kw:G0 (Str×G1)}:(A.under (.builtin "type.__call__" ⟨.ref C::us,kw⟩)).depth=A.depth+1:=by
 first|rfl|simp [bR,Code.weight,Code.isCreation,kL,Code.isCaller,lH,fB,guardIds]
theorem WW {kw:G0 (Str×G1)}:(A.under (.builtin "type.__call__" ⟨.ref C::us,kw⟩)).units=A.units+1:=by
 first|rfl|simp [bR,Code.cUnits,lH,fB]
theorem ZK {kw:G0 (Str×G1)}:(A.under (.builtin "type.__call__" ⟨.ref C::us,kw⟩)).guards=A.guards:=by
 first|rfl|(have:lI (.builtin "type.__call__" ⟨.ref C::us,kw⟩)= []:=by (simp [lI,kL,guardIds]);simp [bR,this,PySem.pushGuards])
theorem Room.make (r:Room (k+1) A)(C:G5)(us:G0 G1)(kw:G0 (Str×G1)):Room k (A.under (.builtin "type.__call__" ⟨.ref C::us,kw⟩)):=
 ⟨r.hd,by have:=r.dp;rw [WV];omega,by have:=r.un;rw [WW];omega,by rw [ZK];exact r.gd⟩
theorem Room.depth (r:Room k A):A.depth<recursionLimit:=by have:=r.dp;omega
theorem Room.units (r:Room k A):A.units+64<cLine:=by have:=r.un;omega
def Mv:TA:=λ_ H Q=>Q [] H
def Uo (ta:TE)(tr:TA):TA:=λσ H Q=>ta σ H λx H1=>tr σ H1 λxs H2=>Q (x::xs) H2
section
variable {X:Cx}{e:D3}{es:G0 D3}{te:TE}{t:TA}{pos:Pos}
theorem pa_nil:PA X [] Mv:=λ_ _ _ _ H Q I h=>Calls.spliced_nil ⟨[],H,I,.nil,h⟩
theorem zb (ha:PE X e te)(hr:PA X es t)(hs:G9 (e::es) X.env=(false,M2 e X.env)::G9 es X.env:=by rfl):PA X (e::es) (Uo te t):=by
 intro pos pins s σ H Q I h;rw [hs];show D5 _ _ (spliced ((false,M2 e X.env)::M9 pos (G9 es X.env))) _ _ s;refine Calls.spliced_cons (thn (ha pins s σ H _ I h) λu s1 ⟨x,H1,I1,r1,q1⟩=> ?_);exact thn (hr pos pins s1 σ H1 _ I1 q1) λus s2 ⟨xs,H2,I2,r2,q2⟩=>⟨x::xs,H2,I2,.cons r1 r2,q2⟩
def NW (t:TA):TE:=λσ H Q=>t σ H λxs H1=>xs.length<=sizeLine/\ ∀p,H1 p=none->Q (.ref p) (upd H1 p (.tup xs))
def NX (t:TA):TE:=λσ H Q=>t σ H λxs H1=>xs.length<=sizeLine/\ ∀p,H1 p=none->Q (.ref p) (upd H1 p (.lst xs))
theorem PP {x1}(h:PA X es t):PE X (.Tuple es x1 pos) (NW t):=by
 intro pins s σ H Q I hq;refine wpAny_Tuple_spliced (thn (h pos pins s σ H _ I hq) λus s1 ⟨xs,H1,I1,r,z,q⟩=>⟨by rw [<-r.length];exact z,?_⟩);have hf:H1 s1.heap.objs.size=none:=I1.hok.fresh (P0 _);refine⟨.ref s1.heap.objs.size,upd H1 s1.heap.objs.size (.tup xs),I1.laid (t':=s1.toks) (λb u e=>G7 _ e) (P0 _) ?_,rfl,q _ hf⟩;exact⟨z,us,r,IsTupN.new _ _⟩
theorem PQ (h:PA X es t):PE X (.List es pos) (NX t):=by
 intro pins s σ H Q I hq;refine wpAny_List_spliced (thn (h pos pins s σ H _ I hq) λus s1 ⟨xs,H1,I1,r,z,q⟩=>⟨by rw [<-r.length];exact z,?_⟩);have hf:H1 s1.heap.objs.size=none:=I1.hok.fresh (P0 _);refine⟨.ref s1.heap.objs.size,upd H1 s1.heap.objs.size (.lst xs),I1.laid (t':=s1.toks) (λb u e=>G7 _ e) (P0 _) ?_,rfl,q _ hf⟩;exact⟨z,us,0,r,S5 _ rfl⟩
end
abbrev Sp:=G0 V->Hp->VK->XK->Prop
abbrev CXT:=G0 Env->Hp->G4->XK->G1->G4->Prop
structure Env0 (P:D2)(w:S4)(K:G2)(mg:Str->G6 G1)(base:S3)(A:R0)(outer:G0 Env)(s:G4)(H:Hp):Prop where
 frames:A.frames=some outer
 mod:Mod K mg base
 bs: ∀b o,base.get? b=some o->s.heap.get? b=some o/\H b=none
 bsz:base.objs.size<=s.heap.objs.size
 funs:s.heap.FunFrames base outer
 frf: ∀b∈frs outer,H b=none
 hok:HOk P w H s.heap
 bare:Z1 s.gens
def CE (outer:G0 Env)(P:D2)(w:S4)(H:Hp)(s:G4)(Q:VK)(u:G1)(s':G4):Prop:=
 ∃v H',s'.os=s.os/\Z1 s'.gens/\Un (frs outer) [] H H' s.heap s'.heap/\HOk P w H' s'.heap/\RelV v u/\Q v H'
def CR (CX:CXT)(outer:G0 Env)(P:D2)(w:S4)(H:Hp)(s:G4)(Q:VK)(E:XK)(r:kM)(s':G4):Prop:=
 match r with
 | .ok (.ret u)=>CE outer P w H s Q u s'
 | .ok _=>False
 | .error e=>CX outer H s E e s'
structure FnOk (P:D2)(w:S4)(K:G2)(mg:Str->G6 G1)(base:S3)(CX:CXT)(k:P4)(f:G5)(fd:D6)(ps:G0 Str)(sp:Sp):Prop where
 len: ∀vs H Q E,sp vs H Q E->vs.length=ps.length
 run: ∀ (A:R0) (outer:G0 Env) (s:G4) (H:Hp) (args:Args) (us:G0 G1) (vs:G0 V) (Q:VK) (E:XK),Room k A->Env0 P w K mg base A outer s H->c8 s fd args (ps.zip us)->Vals vs us->sp vs H Q E->
  A9 (D8 P w) A (.call (.ref f) args) (CR CX outer P w H s Q E) s
variable {base:S3}
theorem Env0.make {mg:Str->G6 G1}{outer:G0 Env}(e:Env0 P w K mg base A outer s H)(C:G5)(us:G0 G1)(kw:G0 (Str×G1)):
 Env0 P w K mg base (A.under (.builtin "type.__call__" ⟨.ref C::us,kw⟩)) outer s H:=⟨by first|exact e.frames|(simpa [bR,Code.envs,fB,pushEnvs] using e.frames),e.mod,e.bs,e.bsz,e.funs,e.frf,e.hok,e.bare⟩
section
variable {X:Cx}{pins:G0 (G5×Obj)}{σ:St}{H:Hp}{s s':G4}
theorem Inv.env0 (I:Inv X pins σ H s):Env0 X.prog X.w X.K X.mg X.base X.A X.stack s H:=
 ⟨I.ok.frames,I.ok.mod,I.bs,R8 I.ok.bsz I.sz,I.stack,I.stkFree,I.hok,I.bare⟩
theorem Inv.after {Q:VK}{u:G1}(I:Inv X pins σ H s)(h:CE X.stack X.prog X.w H s Q u s'):EP X pins σ Q u s':=by
 obtain⟨v,H',os,bare,un,hok,r,q⟩:=h;obtain⟨hh,g,d,t,os'⟩:=s';obtain rfl:os'=s.os:=os;exact⟨v,H',I.call (h':=hh) (g':=g) (d':=d) (t':=t) (ch:= []) un hok bare (λb z=>absurd z (by simp)),r,q⟩
end
def Qe (sp:Sp)(dvs:G0 V)(E:XK)(t:TA):TE:=λσ H Q=>t σ H λvs H1=>sp (vs++dvs) H1 Q E
def Binds (K:G2)(fd:D6)(ps:G0 Str)(ds:G0 G1):Prop:=
 ∀ (s:G4) (us:G0 G1),K.In s.heap->(us++ds).length=ps.length->c8 s fd ⟨us,[]⟩ (ps.zip (us++ds))
theorem Binds.all {fd:D6}{ps:G0 Str}(h: ∀us:G0 G1,us.length=ps.length->fC fd ⟨us,[]⟩=pure (ps.zip us)):Binds K fd ps []:=λs us _ hl=>by
 rw [U2] at hl ⊢;exact .of_eq (h us hl)
def yO (CX:CXT)(X:Cx)(E:XK):Prop:= ∀ (pins:G0 (G5×Obj)) (σ:St) (H:Hp) (s:G4) (e:G1) (s':G4),Inv X pins σ H s->CX X.stack H s E e s'->X.xe e s'
section
variable {X:Cx}{CX:CXT}{k:P4}{f C:G5}{fd:D6}{ps:G0 Str}{sp:Sp}{dvs:G0 V}{ds:G0 G1}{E:XK}{x m:Str}{p pos apos:Pos}{e o:D3}{es:G0 D3}{ta:TE}{t:TA}
theorem PR {pins:G0 (G5×Obj)}{σ:St}{H:Hp}{s:G4}{Q:VK}{us:G0 G1}{vs:G0 V}(F:FnOk X.prog X.w X.K X.mg X.base CX k f fd ps sp)(hr:Room k X.A)(hb:Binds X.K fd ps ds)(hd:Vals dvs ds)(hx:yO CX X E)
 (I:Inv X pins σ H s)(r:Vals vs us)(h:sp (vs++dvs) H Q E):D5 (D8 X.prog X.w) X.A (call (.ref f) us) (EP X pins σ Q) X.xe s:=by
 have r2:Vals (vs++dvs) (us++ds):=r.append hd;have hl:(us++ds).length=ps.length:=by rw [<-r2.length];exact F.len _ _ _ _ h
 refine X2 (E6 (F.run X.A X.stack s H ⟨us,[]⟩ (us++ds) (vs++dvs) Q E hr I.env0 (hb s us I.kIn hl) r2 h) λr s' hq=> ?_);cases r with
 |error e=>exact hx pins σ H s e s' I hq
 |ok fl=>
  cases fl with
  |ret u=>exact I.after hq
  |next=>exact False.elim hq
  |brk=>exact False.elim hq
  |cont=>exact False.elim hq
theorem YU (F:FnOk X.prog X.w X.K X.mg X.base CX k f fd ps sp)(hr:Room k X.A)(hg:Gl X x)(hm:X.mg x=some (.ref f))(hk:N4 X.K (.ref f)=true)(hb:Binds X.K fd ps ds)(hd:Vals dvs ds)(hx:yO CX X E)
 (ha:PA X (e::es) t)(hdb:(x==("__debug__" :Str))=false:=by decide)(he:G9 (e::es) X.env=(false,M2 e X.env)::G9 es X.env:=by rfl)(hpl:(M9 pos (G9 es X.env)).any (·.1)=false:=by rfl):
 PE X (.Call (.Name x p) (e::es) [] pos) (Qe sp dvs E t):=by
 intro pins s σ H Q I h;refine F1 (ya I hg hm ?_ hdb);refine U8 (h₀:=X.base) I.ok.mod.kin hk (thn (ha pos pins s σ H _ I h) λus s1 ⟨vs,H1,I1,r,q⟩=>⟨I1.kIn,?_⟩) he hpl;exact PR F hr hb hd hx I1 r q
end
structure FnScope (N P:G0 Str)(sc:N0):Prop where
 kind:sc.kind= .function
 co:sc.isCoroutine=false
 gen:sc.isGenerator=false
 nd:N.Nodup
 pre:N.take P.length=P
 par: ∀x∈P,sc.names.lookup x=some .local\/sc.names.lookup x=some .cell
 nofree: ∀y∈sc.names,y.2≠ .free
variable {kindOf:Str->G6 NameKind}{x:Str}
theorem JJ: ∀ {binds:G0 (Str×G1)} {m:Str->G6 G1},(∀v,(x,v) ∉ binds)->gJ kindOf binds m x=m x
 | [],_,_=>rfl
 |(n,v)::r,m,h=>by
  unfold gJ;rw [JJ λw hw=>h w (D1 _ hw)];split
  ·have:x≠n:=by rintro rfl;exact h v P7
   simp [this]
  ·rfl
theorem JK: ∀ {binds:G0 (Str×G1)} {m:Str->G6 G1},(∀v,(x,v) ∉ binds)->gK kindOf binds m x=m x
 | [],_,_=>rfl
 |(n,v)::r,m,h=>by
  unfold gK;rw [JK λw hw=>h w (D1 _ hw)];split
  ·rfl
  ·have:x≠n:=by rintro rfl;exact h v P7
   simp [this]
theorem yP {v:G1}: ∀ {P:G0 Str} {vs:G0 G1} {i:P4} {m:Str->G6 G1},P.Nodup->P[i]? =some x->vs[i]? =some v->kindOf x=some .local->
 gJ kindOf (P.zip vs) m x=some v
 | [],_,_,_,_,h,_,_=>by simp at h
 |_::_,[],_,_,_,_,h,_=>by simp at h
 |p::P,w::vs,0,m,nd,h1,h2,hk=>by
  simp at h1 h2;subst h1;subst h2;show gJ kindOf ((p,w)::P.zip vs) m p=_;unfold gJ;rw [JJ λv hv=>(Y4.mp nd).1 (U3 hv).1,S2 hk];simp
 |p::P,w::vs,i+1,m,nd,h1,h2,hk=>by
  show gJ kindOf ((p,w)::P.zip vs) m x=_;unfold gJ;exact yP (i:=i) (Y4.mp nd).2 (by simpa using h1) (by simpa using h2) hk
theorem yQ {v:G1}: ∀ {P:G0 Str} {vs:G0 G1} {i:P4} {m:Str->G6 G1},P.Nodup->P[i]? =some x->vs[i]? =some v->kindOf x≠some .local->
 gK kindOf (P.zip vs) m x=some v
 | [],_,_,_,_,h,_,_=>by simp at h
 |_::_,[],_,_,_,_,h,_=>by simp at h
 |p::P,w::vs,0,m,nd,h1,h2,hk=>by
  simp at h1 h2;subst h1;subst h2;show gK kindOf ((p,w)::P.zip vs) m p=_;unfold gK;rw [JK λv hv=>(Y4.mp nd).1 (U3 hv).1,S6 hk];simp
 |p::P,w::vs,i+1,m,nd,h1,h2,hk=>by
  show gK kindOf ((p,w)::P.zip vs) m x=_;unfold gK;exact yQ (i:=i) (Y4.mp nd).2 (by simpa using h1) (by simpa using h2) hk
def zj (N:G0 Str)(vs:G0 V):St:=vs.map some++D9 (N.length-vs.length) none
def yH (CX:CXT)(P:D2)(w:S4)(K:G2)(mg:Str->G6 G1)(base:S3)(N:G0 Str)(qual:Str)(scope:N0)(f:G5)(cd:G1)(A:R0)(outer:G0 Env)(s:G4)(H:Hp)(E:XK):Cx where
 prog:=P
 w:=w
 K:=K
 mg:=mg
 base:=base
 A:=A.deeper (N8 qual scope s.heap.objs.size f cd)
 N:=N
 s₀:=s
 H₀:=H
 env:=N8 qual scope s.heap.objs.size f cd
 outer:=outer
 stack:=N8 qual scope s.heap.objs.size f cd::outer
 ex:= []
 calm:=true
 fn:=λ_=>true
 pn:= []
 xe:=λe s'=>D5 (D8 P w) (A.deeper (N8 qual scope s.heap.objs.size f cd)) (c9 (N8 qual scope s.heap.objs.size f cd) e) (λ_ s''=>CX outer H s E e s'') (λe' s''=>CX outer H s E e' s'') s'
theorem wf {sc:N0}{n:P4}(h:sc.names.lookup x=some .cell): ∃c,(B5 n sc.names []).lookup x=some c:=by
 have q:=E7 sc.names n [] (.inl h);exact M1.mp q
theorem JL {CX:CXT}{mg:Str->G6 G1}{N ps:G0 Str}{qual:Str}{scope:N0}{f:G5}{cd:G1}{outer:G0 Env}{s1:G4}{E:XK}{vs:G0 V}
 (S:FnScope N ps scope)(hd:A.handled=none)(e0:Env0 P w K mg base A outer s H)(hl:vs.length=ps.length)(r:Vals vs us)
 (x:InCallC s s.heap.objs.size (gJ (N8 qual scope s.heap.objs.size f cd).kindOf (ps.zip us) λ_=>none) (B5 (s.heap.objs.size+1) scope.names []) (gK (N8 qual scope s.heap.objs.size f cd).kindOf (ps.zip us) λ_=>none) s1):
 Inv (yH CX P w K mg base N qual scope f cd A outer s H E) [] (zj N vs) H s1:=by
 have hpl:ps.length<=N.length:=by have:=congrArg cS S.pre;rw [M8] at this;omega
 obtain⟨h1,tk,rfl,hk⟩:=x.done;have noA: ∀b:G5,b ∉ (yH CX P w K mg base N qual scope f cd A outer s H E).ex:=λb z=>absurd (show b∈([]:G0 G5) from z) (by simp)
 refine⟨⟨e0.mod,S.kind,rfl,rfl,P0 _,λy z c h1 h2=> ?_,λy hy=> ?_,λy c _ h=> ?_,λ_=>hd,Y2 e0.frames,.inr ⟨rfl,rfl⟩,λb z=>absurd z (noA b),e0.bs,e0.bsz,λb _ _=>noA b,λb z=>absurd z (noA b),e0.funs,e0.frf⟩,
  rfl,e0.bare,Un.kept hk,⟨_,x.toInCall.ns,λi y v h1 h2 h3=> ?_⟩,λy c h=>⟨_,x.cell y c h⟩,e0.hok.fresh (P0 _),λy c h=> ?_,λp hp=>absurd (show p∈([]:G0 (G5×Obj)) from hp) (by simp),e0.hok.kept hk,?_⟩
 ·exact fE x.apart (M6 h1) (M6 h2)
 ·have hy:scope.names.lookup y=some .cell\/scope.names.lookup y=some .free:=hy;rcases hy with hy|hy
  ·exact wf hy
  ·exact absurd rfl (S.nofree _ (M6 hy))
 ·exact M3 (x.above y c (M6 h))
 ·have hi:i<vs.length:=by
   unfold zj at h2
   by_cases hi:i<vs.length
   ·exact hi
   ·rw [C7 (by simpa using hi)] at h2;rw [V0] at h2;split at h2<;>cases h2
  have ha:vs[i]? =some v:=by
   unfold zj at h2;rw [B6 (by simpa using hi),R4] at h2;cases e:vs[i]? with
   |none=>rw [e] at h2;cases h2
   |some a=>rw [e] at h2;cases h2;rfl
  obtain⟨u,hu,rv⟩:=r.get ha;have hp:ps[i]? =some y:=by
   rw [<-S.pre,Q6 (by omega)];exact h1
  have ndP:ps.Nodup:=by rw [<-S.pre];exact S.nd.sublist (fG _ _)
  refine⟨u,rv,?_⟩;rcases S.par y (S7 hp) with k|k
  ·exact .inl ⟨k,yP ndP hp hu k⟩
  ·obtain⟨c,e⟩:=wf (n:=s.heap.objs.size+1) k;refine .inr ⟨.inl k,c,e,?_⟩;have q:=x.cell y c e;rw [yQ ndP hp hu (by show scope.names.lookup y≠_;rw [k];decide)] at q;exact q
 ·exact e0.hok.fresh (M3 (x.above y c (M6 h)))
 ·unfold zj;show _=N.length;rw [S1,G8,W6];omega
theorem Qf {CX:CXT}{mg:Str->G6 G1}{f:G5}{name qual:Str}{params:dA}{body:G0 M4}{scope:N0}{dV kV doc pm cdv ct oc:G1}{an od:G6 G5}{osl:B7 (G6 G1)}{N ps:G0 Str}{sp:Sp}(lk:K.lookup f=some ⟨oc,od,.func (F8 name qual params body scope dV kV doc pm an cdv ct),osl⟩)(hcd:V8 K cdv qual=true)(S:FnScope N ps scope)
 (len: ∀vs H Q E,sp vs H Q E->vs.length=ps.length)
 (hbody: ∀ (A:R0) (outer:G0 Env) (s:G4) (H:Hp) (vs:G0 V) (Q:VK) (E:XK),Room k (A.deeper (N8 qual scope s.heap.objs.size f cdv))->sp vs H Q E->
  ∃t,PSs (yH CX P w K mg base N qual scope f cdv A outer s H E) body t/\t {nx:=λ_ H'=>Q .non H',rt:=Q} (zj N vs) H):
 FnOk P w K mg base CX (k+1) f (F8 name qual params body scope dV kV doc pm an cdv ct) ps sp:=by
 refine⟨len,λA outer s H args us vs Q E hr e0 hb r hsp=> ?_⟩;have hl:=len _ _ _ _ hsp;have KX:K.In s.heap:=e0.mod.kin.keeps λb o e=>(e0.bs b o e).1
 have lim:s.heap.NoLimit:=e0.mod.nolimit.keeps λb o e=>(e0.bs b o e).1
 have hkind: ∀y∈ps.zip us,scope.names.lookup y.1=some .local\/(scope.names.lookup y.1=some .cell/\((B5 (s.heap.objs.size+1) scope.names []).lookup y.1).isSome=true):=λ⟨n,v⟩ hy=>by
  rcases S.par n (U3 hy).1 with q|q
  ·exact .inl q
  ·exact .inr ⟨q,E7 _ _ _ (.inl q)⟩
 refine W7 hr.depth (KX _ _ lk) rfl S.co S.gen rfl (aD KX hcd) (hb _ _ _ _ ?_);refine K2 S.kind hkind λenv he s1 x=> ?_
 subst he;refine⟨lim.keeps x.toInCall.keep,fH ?_⟩;obtain⟨t,ht,hq⟩:=hbody A outer s H vs Q E (hr.deeper _) hsp;have I:Inv (yH CX P w K mg base N qual scope f cdv A outer s H E) [] (zj N vs) H s1:=JL S hr.hd e0 hl r x;refine R9 (ht [] s1 (zj N vs) H _ I hq) (λfl s' hs=> ?_) λe s' hs=>hs
 have fin: ∀ {nE:St} {H':Hp} {v:V} {u:G1},Inv (yH CX P w K mg base N qual scope f cdv A outer s H E) [] nE H' s'->RelV v u->Q v H'->CE outer P w H s Q u s':=
  λ{nE H' v u} J rv q=>⟨v,H',J.os,J.bare,J.base,J.hok,rv,q⟩
 cases fl with
 |ret u=>
  obtain⟨v,nE,H',J,rv,q⟩:=hs;exact fin J rv q
 |next=>
  obtain⟨nE,H',J,q⟩:=hs;exact fin (v:=V.non) (u:=Z6) J rfl q
 |brk=>
  obtain⟨_,_,_,q⟩:=hs;exact False.elim q
 |cont=>
  obtain⟨_,_,_,q⟩:=hs;exact False.elim q
section
variable {X:Cx}{x:Str}{p pos:Pos}{e:D3}{es:G0 D3}{t:TA}{id T:T0}{r:G0 V->Hp->VK->Prop}
def tCB (r:G0 V->Hp->VK->Prop)(t:TA):TE:=λσ H Q=>t σ H λvs H1=>r vs H1 Q
theorem yI (hc:CallR X (.builtin id) r)(hg:Gl X x)(hm:X.mg x=none)(hv:B4 x=some (.builtin id))(ha:PA X (e::es) t)(hn:x≠ "__name__" :=by decide)(hdb:(x==("__debug__" :Str))=false:=by decide)
 (he:G9 (e::es) X.env=(false,M2 e X.env)::G9 es X.env:=by rfl)(hpl:(M9 pos (G9 es X.env)).any (·.1)=false:=by rfl):PE X (.Call (.Name x p) (e::es) [] pos) (tCB r t):=by
 intro pins s σ H Q I h;refine F1 (JD I hg hm hv ?_ hn hdb);exact f7 (thn (ha pos pins s σ H _ I h) λus s1 ⟨vs,H1,I1,r1,q1⟩=>hc pins s1 σ H1 vs us Q I1 r1 q1) he hpl
theorem YV (hc:CallR X (.type T) r)(hg:Gl X x)(hm:X.mg x=none)(hv:B4 x=some (.type T))(ha:PA X (e::es) t)(hn:x≠ "__name__" :=by decide)(hdb:(x==("__debug__" :Str))=false:=by decide)
 (he:G9 (e::es) X.env=(false,M2 e X.env)::G9 es X.env:=by rfl)(hpl:(M9 pos (G9 es X.env)).any (·.1)=false:=by rfl):PE X (.Call (.Name x p) (e::es) [] pos) (tCB r t):=by
 intro pins s σ H Q I h;refine F1 (JD I hg hm hv ?_ hn hdb);exact J6 (thn (ha pos pins s σ H _ I h) λus s1 ⟨vs,H1,I1,r1,q1⟩=>hc pins s1 σ H1 vs us Q I1 r1 q1) he hpl
end
end L2
namespace HT
open PySem PyProof.Rows
section
variable {prog:D2}{w:S4}{A:R0}{E:G1->G4->Prop}{s:G4}
theorem Qg {t b:G5}{vs ws:G0 G1}{Q:G1->G4->Prop}(ht:lC s.heap t vs.toArray)(hb:lC s.heap b ws.toArray)(hv:vs≠ [])
 (h1:ws= []->Q (.ref t) s)(h2:ws≠ []->Q (.ref s.heap.objs.size) {s with heap:=s.heap.push {cls:= .type "tuple",data:= .seq (vs++ws).toArray}})
 (hsz:vs.length+ws.length<=sizeLine):D5 (D8 prog w) A (N3 .Add (.ref t) (.ref b)) Q E s:=by
 obtain⟨⟨cls,dd,data,sl⟩,ho,hc,n,hd⟩:=id ht;obtain⟨⟨cls2,dd2,data2,sl2⟩,ho2,hc2,n2,hd2⟩:=id hb;simp only at hc hd hc2 hd2;subst hc hd hc2 hd2;have e:vs.toArray++ws.toArray=(vs++ws).toArray:=by simp
 by_cases hw:ws= []
 ·exact fJ ⟨_,ho,rfl⟩ ⟨_,ho2,rfl⟩ bJ dN V9 V1 (Q7 _ _)
   (tuple_addW1 t b vs.toArray ws.toArray n n2 dd dd2 sl sl2 (by simpa using hv) (by simp [hw])) ⟨ho,ho2,h1 hw⟩
 ·refine fJ ⟨_,ho,rfl⟩ ⟨_,ho2,rfl⟩ bJ dN V9 V1 (Q7 _ _)
   (tuple_addW2 t b vs.toArray ws.toArray n n2 dd dd2 sl sl2 (by simpa using hv) (by simpa using hw) (by rw [D0,D0];exact hsz)) ⟨ho,ho2,?_⟩
  rw [e];exact h2 hw
def sIx (n d:P4):G6 P9->P4
 |none=>d
 |some v=>if v<0 then (v+(n:P9)).toNat else min v.toNat n
theorem PU (n d:P4)(hd:d<=n)(o:G6 P9):sIx n d o<=n:=by
 cases o with
 |none=>exact hd
 |some v=>
  show (if v<0 then (v+(n:P9)).toNat else min v.toNat n)<=n
  by_cases hv:v<0
  ·rw [S2 hv];omega
  ·rw [S6 hv];exact X3 _ _
theorem YW (v:P9)(n d:P4):(if v<0 then max (v+(n:P9)) 0 else min v (n:P9))=((sIx n d (some v):P4):P9):=by
 show (if v<0 then max (v+(n:P9)) 0 else min v (n:P9))=(((if v<0 then (v+(n:P9)).toNat else min v.toNat n):P4):P9)
 by_cases hv:v<0
 ·simp only [S2 hv];omega
 ·simp only [S6 hv];omega
theorem WY (lo hi:G6 P9)(n:P4):K9 lo hi 1 (n:P9)=(((sIx n 0 lo:P4):P9),((sIx n n hi:P4):P9)):=by
 have h1: ¬ ((1:P9)<0):=by omega
 unfold K9;simp only [h1,bK];refine Prod.ext ?_ ?_
 ·cases lo with
  |none=>rfl
  |some v=>exact YW v n 0
 ·cases hi with
  |none=>rfl
  |some v=>exact YW v n n
theorem WZ (i j:P4):O8 (i:P9) (j:P9) 1=j-i:=by
 unfold O8;have h1:(1:P9)>0:=by omega
 simp only [h1,X9,Int.ediv_one];split<;>omega
theorem vJ {v:G1}{o:G6 P9}{Q:G6 P9->G4->Prop}(p:bG v o)(h:Q o s):D5 (D8 prog w) A (gP v) Q E s:=by
 cases p with
 |none=>exact hG h
 |int i t=>exact slicePart_int h
theorem zP {sl:G5}{vl vu:G1}{lo hi:G6 P9}{n:P4}{Q:P9×P9×P4->G4->Prop}(hs:s.heap.IsSliceOf sl vl vu .none)(pl:bG vl lo)(pu:bG vu hi)
 (h:Q (((sIx n 0 lo:P4):P9),1,sIx n n hi-sIx n 0 lo) s):D5 (D8 prog w) A (aE (.ref sl) (pure (n:P9))) Q E s:=by
 obtain⟨os,hos,hcs,hds⟩:=id hs;unfold aE iK;refine wpAny_bind (wpAny_bind (cT hos hds (x:=vl) rfl (wpAny_bind (cT hos hds (x:=vu) rfl (wpAny_bind (cT hos hds (x:= .none) rfl (P6 ?_)))))));refine wpAny_bind (hG ?_);show D5 _ _ (if ((1:P9)==0)=true then _ else _) _ _ s;rw [S6 (by decide)];refine wpAny_bind (vJ pl (wpAny_bind (vJ pu (wpAny_bind (P6 ?_)))));show D5 _ _ (match K9 lo hi 1 (n:P9) with|(lo,hi)=>pure (lo,(1:P9),O8 lo hi 1)) _ _ s;rw [WY lo hi n];show D5 _ _ (pure (((sIx n 0 lo:P4):P9),(1:P9),O8 ((sIx n 0 lo:P4):P9) ((sIx n n hi:P4):P9) 1)) _ _ s;rw [WZ];exact P6 h
theorem Up (xs:B7 G1)(i k:P4):((O5 k).filterMap λ(m:P4)=>xs[((i:P9)+(m:P9)*1).toNat]?).toArray=((xs.toList.drop i).take k).toArray:=by
 have e:(λ(m:P4)=>xs[((i:P9)+(m:P9)*1).toNat]?)=λm=>xs[i+m]? :=by
  funext m
  have:((i:P9)+(m:P9)*1).toNat=i+m:=by omega
  rw [this]
 rw [e];have:=pick_run xs i k;rw [List.filterMap_map] at this;have e2:((λx=>xs[x]?)∘λx=>i+x)=λm=>xs[i+m]? :=rfl
 rw [e2] at this;rw [this]
theorem ye {t sl:G5}{items:B7 G1}{vl vu:G1}{lo hi:G6 P9}{Q:G1->G4->Prop}(ht:lC s.heap t items)(hs:s.heap.IsSliceOf sl vl vu .none)(pl:bG vl lo)(pu:bG vu hi)
 (hw: ¬ (sIx items.size 0 lo=0/\sIx items.size items.size hi=items.size))
 (h:Q (.ref s.heap.objs.size) {s with heap:=s.heap.push {cls:= .type "tuple",data:= .seq ((items.toList.drop (sIx items.size 0 lo)).take (sIx items.size items.size hi-sIx items.size 0 lo)).toArray}})
 (hsz:items.size<=sizeLine):D5 (D8 prog w) A (dB (.ref t) (.ref sl)) Q E s:=by
 have htake:sizeOk (.seq ((items.toList.drop (sIx items.size 0 lo)).take (sIx items.size items.size hi-sIx items.size 0 lo)).toArray):=by
  show ((items.toList.drop (sIx items.size 0 lo)).take (sIx items.size items.size hi-sIx items.size 0 lo)).toArray.size<=sizeLine;rw [D0,M8,E2,M5];omega
 have hj:sIx items.size items.size hi<=items.size:=PU _ _ (P0 _) hi;obtain⟨os,hos,hcs,hds⟩:=id hs;have hTs:s.TypeIs (.ref sl) "slice" :=⟨os,hos,hcs⟩;unfold dB
 try with_reducible refine O2 ?_
 first|refine wpAny_bind (P6 ?_)|skip
 refine wpAny_bind (fK ht.typeIs (by decide) ?_);refine wpAny_bind (bL (name:=G3 "__getitem__") ht.typeIs C9
  (X4 C9 ht.typeIs dF ?_ (dZ _ _)))
 show D5 _ _ (aF (.ref t) >>= _) _ _ s;refine wpAny_bind (iP ht ?_);refine wpAny_bind (fL hTs ?_);rw [S2 (by decide)];refine wpAny_bind (zP hs pl pu ?_);have hno: ¬ ((((sIx items.size 0 lo:P4):P9)==0&&(1:P9)==1&&(sIx items.size items.size hi-sIx items.size 0 lo)==items.size)=true):=by
  intro q;rw [R1,R1] at q;have q1:((sIx items.size 0 lo:P4):P9)=0:=eq_of_beq q.1.1;have q2:sIx items.size items.size hi-sIx items.size 0 lo=items.size:=eq_of_beq q.2;exact hw ⟨by omega,by omega⟩
 show D5 _ _ (if (((sIx items.size 0 lo:P4):P9)==0&&(1:P9)==1&&(sIx items.size items.size hi-sIx items.size 0 lo)==items.size)=true then _ else _) _ _ s;rw [S6 hno,Up]
 first
  |exact wpAny_bind (m:=A6 _) (A4 (P6 ⟨_,rfl,P6 h⟩) htake)
  |exact wpAny_bind (m:=A6 _) (A4 (wpAny_bind (P6 (P6 ⟨_,rfl,P6 h⟩))) htake)
  |exact wpAny_bind (wpAny_bind (m:=A6 _) (A4 (P6 (P6 ⟨_,rfl,P6 h⟩)) htake))
  |exact wpAny_bind (wpAny_bind (m:=A6 _) (A4 (P6 ⟨_,rfl,P6 h⟩) htake))
end
end HT
namespace L2
open PySem PySem.Spec PyProof.Rows
abbrev TO:=St->Hp->(G6 P9->Hp->Prop)->Prop
def PO (X:Cx)(e:G6 D3)(t:TO):Prop:=
 ∀ (pins:G0 (G5×Obj)) (s:G4) (σ:St) (H:Hp) (Q:G6 P9->Hp->Prop),Inv X pins σ H s->t σ H Q->
  D5 (D8 X.prog X.w) X.A (evalPart e X.env) (λu s'=> ∃o H',Inv X pins σ H' s'/\bG u o/\Q o H') X.xe s
def Qh:TO:=λ_ H Q=>Q none H
def Mw (t:TE):TO:=λσ H Q=>t σ H λx H1=> ∃i,x= .int i/\Q (some i) H1
section
variable {X:Cx}{e:D3}{te:TE}{lo hi:G6 D3}{tl th:TO}{pos p2:Pos}
theorem po_none:PO X none Qh:=by
 intro pins s σ H Q I h;rw [iQ];exact P6 ⟨none,H,I,.none,h⟩
theorem Qi (h:PE X e te):PO X (some e) (Mw te):=by
 intro pins s σ H Q I hw;rw [evalPart_some];refine thn (h pins s σ H _ I hw) λu s1 ⟨x,H1,I1,r1,q1⟩=> ?_
 obtain⟨i,rfl,q⟩:=q1;obtain⟨t,rfl⟩:=r1;exact⟨some i,H1,I1,.int i t,q⟩
def SlR (X:Cx)(r:V->G6 P9->G6 P9->Hp->VK->Prop):Prop:=
 ∀ (pins:G0 (G5×Obj)) (s:G4) (σ:St) (H:Hp) (x:V) (v vl vu:G1) (lo hi:G6 P9) (sl:G5) (Q:VK),Inv X pins σ H s->RelV x v->s.heap.IsSliceOf sl vl vu .none->bG vl lo->bG vu hi->r x lo hi H Q->
  ∃T id,aG (.type T) "__getitem__" =pure (some (.builtin id))/\s.TypeIs v T/\D5 (D8 X.prog X.w) X.A (dB v (.ref sl)) (EP X pins σ Q) X.xe s
theorem SlR.or {r r':V->G6 P9->G6 P9->Hp->VK->Prop}(h:SlR X r)(h':SlR X r'):SlR X (λx lo hi H Q=>r x lo hi H Q\/r' x lo hi H Q):=by
 intro pins s σ H x v vl vu lo hi sl Q I rx hs pl pu q;rcases q with q|q
 ·exact h pins s σ H x v vl vu lo hi sl Q I rx hs pl pu q
 ·exact h' pins s σ H x v vl vu lo hi sl Q I rx hs pl pu q
def tSl (r:V->G6 P9->G6 P9->Hp->VK->Prop)(te:TE)(tl th:TO):TE:=λσ H Q=>te σ H λx H1=>tl σ H1 λl H2=>th σ H2 λu H3=>r x l u H3 Q
theorem Wq {r:V->G6 P9->G6 P9->Hp->VK->Prop}(hr:SlR X r)(he:PE X e te)(hl:PO X lo tl)(hu:PO X hi th):PE X (.Subscript e (.Slice lo hi none p2) pos) (tSl r te tl th):=by
 intro pins s σ H Q I h;refine lX (thn (he pins s σ H _ I h) λv s1 ⟨x,H1,I1,r1,q1⟩=> ?_);refine wpAny_Slice (thn (hl pins s1 σ H1 _ I1 q1) λvl s2 ⟨l,H2,I2,pl,q2⟩=>thn (hu pins s2 σ H2 _ I2 q2) λvu s3 ⟨u,H3,I3,pu,q3⟩=> ?_);rw [iQ];refine P6 ?_;have I4:Inv X pins σ H3 {s3 with heap:=s3.heap.push {cls:= .type "slice",data:= .fields #[vl,vu,.none]}}:=I3.kept (t':=s3.toks) λb ob q=>G7 _ q
 obtain⟨T,id,hT,ht,hg⟩:=hr pins {s3 with heap:=s3.heap.push {cls:= .type "slice",data:= .fields #[vl,vu,.none]}} σ H3 x v vl vu l u s3.heap.objs.size Q I4 r1 (Heap.IsSliceOf.new ..) pl pu q3;show D5 (D8 X.prog X.w) X.A (iR e (.Slice lo hi none p2) v (.ref s3.heap.objs.size)) (EP X pins σ Q) X.xe {s3 with heap:=s3.heap.push {cls:= .type "slice",data:= .fields #[vl,vu,.none]}};exact tail_any (ops:= [.ref s3.heap.objs.size,v]) ht hT hg (by with_unfolding_all rfl)
def Ug (xs:G0 V)(lo hi:G6 P9):G0 V:=(xs.drop (HT.sIx xs.length 0 lo)).take (HT.sIx xs.length xs.length hi-HT.sIx xs.length 0 lo)
theorem yR (xs:G0 V)(lo hi:G6 P9):(Ug xs lo hi).length<=xs.length:=by
 unfold Ug;rw [M8,E2];omega
def Bw (K:G2):V->G6 P9->G6 P9->Hp->VK->Prop:=λx lo hi H Q=> ∃a xs,x= .ref a/\SqT K H a xs/\
 ¬ (HT.sIx xs.length 0 lo=0/\HT.sIx xs.length xs.length hi=xs.length)/\ ∀p,H p=none->Q (.ref p) (upd H p (.tup (Ug xs lo hi)))
theorem sl_tup:SlR X (Bw X.K):=by
 intro pins s σ H x v vl vu lo hi sl Q I rx hs pl pu h;obtain⟨a,xs,rfl,hx,hw,q⟩:=h;cases rx;obtain⟨its,r,ht,hz⟩:=I.tuple hx;have hlen:its.toArray.size=xs.length:=by rw [D0];exact r.length.symm
 refine⟨"tuple",_,PyProof.Rows.slot_tuple_getitem.lookup,ht.typeIs,?_⟩;refine HT.ye ht hs pl pu (by rw [hlen];exact hw) ?_ (by rw [hlen];exact hz);rw [hlen];refine⟨.ref s.heap.objs.size,_,I.laid (t':=s.toks) (o:= .tup (Ug xs lo hi)) (λb ob q=>G7 _ q) (P0 _) ?_,rfl,q _ (I.hok.fresh (P0 _))⟩;exact⟨R8 (yR xs lo hi) hz,_,(r.drop (HT.sIx xs.length 0 lo)).take (HT.sIx xs.length xs.length hi-HT.sIx xs.length 0 lo),IsTupN.new _ _⟩
def Mx (K:G2):R2:=λx y H Q=> ∃a b xs ys,x= .ref a/\y= .ref b/\SqT K H a xs/\SqT K H b ys/\xs≠ []/\xs.length+ys.length<=sizeLine/\
 (ys= []->Q (.ref a) H)/\(ys≠ []-> ∀p,H p=none->Q (.ref p) (upd H p (.tup (xs++ys))))
theorem Vals.nil_iff {xs:G0 V}{us:G0 G1}(r:Vals xs us):us= []↔xs= []:=by
 cases r with
 |nil=>simp
 |cons _ _=>simp
theorem op_catT:OpR X (N3 .Add) (Mx X.K):=by
 intro pins s σ H x y v u Q I rx ry h;obtain⟨a,b,xs,ys,rfl,rfl,ha,hb,hx,hz,q1,q2⟩:=h;cases rx;cases ry;obtain⟨its,r1,p1,_⟩:=I.tuple ha;obtain⟨its2,r2,p2,_⟩:=I.tuple hb;refine HT.Qg p1 p2 (λz=>hx (r1.nil_iff.mp z)) (λz=>⟨.ref a,H,I,rfl,q1 (r2.nil_iff.mp z)⟩) (λz=> ?_) (by rw [<-r1.length,<-r2.length];exact hz);refine⟨.ref s.heap.objs.size,_,I.laid (t':=s.toks) (o:= .tup (xs++ys)) (λb ob q=>G7 _ q) (P0 _) ?_,rfl,q2 (λw=>z (r2.nil_iff.mpr w)) _ (I.hok.fresh (P0 _))⟩;exact⟨by rw [S1];exact hz,_,r1.append r2,IsTupN.new _ _⟩
end
def ixN (n:P4)(i:P9):G6 P4:=if 0<=i then (if i<n then some i.toNat else none) else if-(n:P9)<=i then some (i+n).toNat else none
def atI {α:Type}(xs:G0 α)(i:P9):G6 α:=(ixN xs.length i).bind λj=>xs[j]?
theorem YX {n:P4}{i:P9}{j:P4}(h:ixN n i=some j):seqIndex? i n=some j/\j<n/\ -(n:P9)<=i/\i<n:=by
 unfold ixN at h
 by_cases h0:0<=i
 ·rw [S2 h0] at h
  by_cases h1:i<n
  ·rw [S2 h1] at h;have e:i.toNat=j:=T8 h;exact⟨by rw [gL h0 h1,e],by omega,by omega,h1⟩
  ·rw [S6 h1] at h;cases h
 ·rw [S6 h0] at h
  by_cases h1: -(n:P9)<=i
  ·rw [S2 h1] at h;have e:(i+n).toNat=j:=T8 h;exact⟨by rw [fM (by omega) h1,e],by omega,h1,by omega⟩
  ·rw [S6 h1] at h;cases h
theorem ZL {α:Type}{xs:G0 α}{i:P9}{v:α}(h:atI xs i=some v): ∃j,seqIndex? i xs.length=some j/\xs[j]? =some v/\j<xs.length/\ -(xs.length:P9)<=i/\i<xs.length:=by
 unfold atI at h;cases e:ixN xs.length i with
 |none=>rw [e] at h;cases h
 |some j=>
  rw [e] at h;obtain⟨h1,h2,h3,h4⟩:=YX e;exact⟨j,h1,h,h2,h3,h4⟩
theorem ZM {α:Type}{xs:G0 α}{j:P4}{v:α}(h:xs[j]? =some v):atI xs (j:P9)=some v:=by
 have hj:j<xs.length:=(P1.mp h).1;have e:ixN xs.length (j:P9)=some j:=by
  unfold ixN;rw [S2 (by omega),S2 (by omega)];simp
 unfold atI;rw [e];exact h
def yS (b:D3):Prop:= ∀o i,lJ b false o i=operate [o,i] (dB o i)
def IxR (X:Cx)(r:R2):Prop:=
 ∀ (value slice:D3) (pins:G0 (G5×Obj)) (s:G4) (σ:St) (H:Hp) (x y:V) (v u:G1) (Q:VK),Inv X pins σ H s->RelV x v->RelV y u->r x y H Q->
  lJ slice false v u=operate [v,u] (dB v u)->D5 (D8 X.prog X.w) X.A (iR value slice v u) (EP X pins σ Q) X.xe s
def MtR (X:Cx)(id:T0)(r:V->G0 V->Hp->VK->Prop):Prop:=
 ∀ (pins:G0 (G5×Obj)) (s:G4) (σ:St) (H:Hp) (x:V) (xs:G0 V) (v:G1) (us:G0 G1) (Q:VK),Inv X pins σ H s->RelV x v->Vals xs us->r x xs H Q->
  D5 (D8 X.prog X.w) X.A (call (.builtin id) (v::us)) (EP X pins σ Q) X.xe s
section
variable {X:Cx}{a b:D3}{ta tb:TE}{pos:Pos}
theorem IxR.or {r r':R2}(h:IxR X r)(h':IxR X r'):IxR X (λx y H Q=>r x y H Q\/r' x y H Q):=by
 intro value slice pins s σ H x y v u Q I rx ry q hs;rcases q with q|q
 ·exact h value slice pins s σ H x y v u Q I rx ry q hs
 ·exact h' value slice pins s σ H x y v u Q I rx ry q hs
theorem PV {r:R2}(hr:IxR X r)(ha:PE X a ta)(hb:PE X b tb)(hs:yS b):PE X (.Subscript a b pos) (tOp r ta tb):=by
 intro pins s σ H Q I h;exact lX (Mo ha hb I h λv u s2 x y H2 I2 rx ry q=>hr a b pins s2 σ H2 x y v u Q I2 rx ry q (hs _ _))
def NY (K:G2):R2:=λx y H Q=> ∃p xs i v,x= .ref p/\y= .int i/\SqL K H p xs/\atI xs i=some v/\Q v H
def NZ (K:G2):R2:=λx y H Q=> ∃p xs i v,x= .ref p/\y= .int i/\SqT K H p xs/\atI xs i=some v/\Q v H
def Ba:R2:=λx y H Q=> ∃z i c,x= .str z/\y= .int i/\z.length<=sizeLine/\atI z.cps.toList i=some c/\Q (.str ⟨#[c]⟩) H
theorem ix_list:IxR X (NY X.K):=by
 intro value slice pins s σ H x y v u Q I rx ry h hs;obtain⟨p,xs,i,z,rfl,rfl,hq,he,q⟩:=h;cases rx;obtain⟨t,rfl⟩:=ry;obtain⟨its,r,pl,hz⟩:=I.list hq;obtain⟨j,h1,h2,h3,h4,h5⟩:=ZL he;obtain⟨w,ew,rw'⟩:=r.get h2;have hl:=r.length;have hn:=vI;have fin:EP X pins σ Q w s:=⟨z,H,I,rw',q⟩
 by_cases h0:0<=i
 ·have hj:i.toNat=j:=by
   rw [gL h0 h5] at h1;exact T8 h1
  exact item_listR pl.isList h0 (by omega) (by rw [hj];simpa using ew) fin hs
 ·have hj:(i+(its.toArray.size:P9)).toNat=j:=by
   rw [fM (by omega) h4] at h1;rw [D0,<-hl];exact T8 h1
  exact bS (x:=w) pl.isList.typeIs slot_list_getitem.lookup
   (wpAny_getItem_list_neg (Q:=λr s'=>r=w/\EP X pins σ Q r s') pl.isList (by omega) (by rw [D0]<;>omega) (by omega) (by rw [hj];simpa using ew) ⟨rfl,fin⟩) hs
theorem ix_tup:IxR X (NZ X.K):=by
 intro value slice pins s σ H x y v u Q I rx ry h hs;obtain⟨p,xs,i,z,rfl,rfl,hq,he,q⟩:=h;cases rx;obtain⟨t,rfl⟩:=ry;obtain⟨its,r,pl,hz⟩:=I.tuple hq;obtain⟨j,h1,h2,h3,h4,h5⟩:=ZL he;obtain⟨w,ew,rw'⟩:=r.get h2;have hl:=r.length;have hn:=vI;have fin:EP X pins σ Q w s:=⟨z,H,I,rw',q⟩;exact bS (x:=w) pl.typeIs slot_tuple_getitem.lookup
  (getItem_tuple (j:=j) (Q:=λr s'=>r=w/\EP X pins σ Q r s') pl (by omega) (by omega) (by rw [D0,<-hl];exact h1) (by simpa using ew) ⟨rfl,fin⟩) hs
theorem Xp:IxR X Ba:=by
 intro value slice pins s σ H x y v u Q I rx ry h hs;obtain⟨z,i,c,rfl,rfl,hz,he,q⟩:=h;obtain⟨t,rfl⟩:=rx;obtain⟨t',rfl⟩:=ry;obtain⟨j,h1,h2,h3,h4,h5⟩:=ZL he;have hl:z.cps.toList.length=z.length:=by simp [Str.length]
 rw [hl] at h1 h4 h5;have hn:=vI;exact tail_any (eI s z t) slot_str_getitem.lookup (getItem_str (c:=c) (by
  have e1:decide (i< -(2^63:P9))=false:=S0 (by omega);have e2:decide (i>=2^63)=false:=S0 (by omega);rw [e1,e2,iT]) (by rw [h1];simpa using h2) ⟨.str ⟨#[c]⟩,H,I.tok _,⟨_,rfl⟩,q⟩) hs
def rIx (K:G2):R2:=λx y H Q=>NY K x y H Q\/NZ K x y H Q\/Ba x y H Q
theorem PX:IxR X (rIx X.K):=ix_list.or (ix_tup.or Xp)
theorem Ya (its:G0 G1)(n j:P4)(u:G1):bT (·.setIfInBounds j u) {cls:= .type "list",data:= .seq its.toArray n}= {cls:= .type "list",data:= .seq (its.set j u).toArray n}:=by
 simp [bT]
theorem Inv.lst {pins:G0 (G5×Obj)}{σ:St}{H:Hp}{s:G4}{p:G5}{xs:G0 V}(I:Inv X pins σ H s)(h:H p=some (.lst xs)):
 ∃ (its:G0 G1) (n:P4),Vals xs its/\s.heap.get? p=some {cls:= .type "list",data:= .seq its.toArray n}/\xs.length<=sizeLine:=by
 obtain⟨z,its,n,r,e⟩:=I.hok p _ h;exact⟨its,n,r,e,z⟩
theorem Inv.lstUpd {pins:G0 (G5×Obj)}{σ:St}{H:Hp}{s:G4}{p:G5}{xs ys:G0 V}{its its':G0 G1}{n n':P4}{f:Obj->Obj}(I:Inv X pins σ H s)(h:H p=some (.lst xs))
 (ho:s.heap.get? p=some {cls:= .type "list",data:= .seq its.toArray n})(hf:f {cls:= .type "list",data:= .seq its.toArray n}= {cls:= .type "list",data:= .seq its'.toArray n'})(r:Vals ys its')(hz:ys.length<=sizeLine)(t:P4):
 Inv X pins σ (upd H p (.lst ys)) {s with heap:=s.heap.update p f,toks:=t}:=by
 have e:(s.heap.update p f).get? p=some {cls:= .type "list",data:= .seq its'.toArray n'}:=by
  rw [W8 f ho (by rw [hf]<;>rfl),hf]
 refine I.write (x:=p) (e:=p) (by rw [h];trivial) (.inl rfl) (λb u hb q=>(L7 _ _ (C5 hb)).trans q) ⟨_,e⟩ ?_;exact⟨hz,its',n',r,e⟩
def Mz:V->V->V->Hp->(Hp->Prop)->Prop:=λo i v H Q=> ∃p xs k j,o= .ref p/\i= .int k/\H p=some (.lst xs)/\ixN xs.length k=some j/\Q (upd H p (.lst (xs.set j v)))
theorem Uq:NO X Mz:=by
 intro pins s σ H o i v ov iv u Q I ro ri rv h;obtain⟨p,xs,k,j,rfl,rfl,hp,hj,q⟩:=h;cases ro;obtain⟨t,rfl⟩:=ri;obtain⟨its,n,r,ho,hz⟩:=I.lst hp;obtain⟨h1,h2,h3,h4⟩:=YX hj;have hl:=r.length;have hn:=vI;have I':Inv X pins σ (upd H p (.lst (xs.set j v))) {s with heap:=s.heap.update p (bT (·.setIfInBounds j u))}:=
  I.lstUpd hp ho (Ya its n j u) (r.set rv j) (by rw [List.length_set];exact hz) s.toks
 by_cases h0:0<=k
 ·have hk:k.toNat=j:=by
   rw [gL h0 h4] at h1;exact T8 h1
  exact mR ho h0 (by omega) (by rw [D0,<-hl];exact h4) (by rw [hk];exact⟨_,I',q⟩)
 ·have hk:(k+(its.toArray.size:P9)).toNat=j:=by
   rw [fM (by omega) h3] at h1;rw [D0,<-hl];exact T8 h1
  exact lY ho (by omega) (by rw [D0,<-hl];exact h3) (by omega) (by rw [hk];exact⟨_,I',q⟩)
theorem JM (lo hi:G6 P9)(n:P4):(V2 lo hi none n).1=((HT.sIx n 0 lo:P4):P9)/\(V2 lo hi none n).2.1=((HT.sIx n n hi:P4):P9)/\(V2 lo hi none n).2.2=1:=by
 refine⟨?_,?_,rfl⟩
 ·cases lo with
  |none=>simp [V2,HT.sIx]
  |some i=>
   simp only [V2,HT.sIx,f8,show (1:P9)>0 by decide,X9]
   by_cases h:i<0
   ·simp only [h,X9]<;>omega
   ·simp only [h,bK]<;>omega
 ·cases hi with
  |none=>simp [V2,HT.sIx]
  |some i=>
   simp only [V2,HT.sIx,f8,show (1:P9)>0 by decide,X9]
   by_cases h:i<0
   ·simp only [h,X9]<;>omega
   ·simp only [h,bK]<;>omega
theorem vY (its:G0 G1)(lo hi:G6 P9):slicePick its.toArray lo hi none=((its.drop (HT.sIx its.length 0 lo)).take (HT.sIx its.length its.length hi-HT.sIx its.length 0 lo)).toArray:=by
 obtain⟨h1,h2,h3⟩:=JM lo hi its.toArray.size;unfold slicePick;rw [h1,h2,h3];simp only [sliceRange_one,pick_run,D0]<;>rfl
def Bx (K:G2):V->G6 P9->G6 P9->Hp->VK->Prop:=λx lo hi H Q=> ∃a xs,x= .ref a/\SqL K H a xs/\ ∀p,H p=none->Q (.ref p) (upd H p (.lst (Ug xs lo hi)))
theorem Qj:SlR X (Bx X.K):=by
 intro pins s σ H x v vl vu lo hi sl Q I rx hs pl pu h;obtain⟨a,xs,rfl,hx,q⟩:=h;cases rx;obtain⟨its,r,ht,hz⟩:=I.list hx;have hlen:=r.length;refine⟨"list",_,slot_list_getitem.lookup,ht.isList.typeIs,?_⟩;refine wpAny_getItem_list_slice ht.isList hs pl pu .none (by simp) ?_ (by rw [D0]<;>omega);rw [vY,<-hlen];refine⟨.ref s.heap.objs.size,_,I.laid (t':=s.toks) (o:= .lst (Ug xs lo hi)) (λb ob q=>G7 _ q) (P0 _) ?_,rfl,q _ (I.hok.fresh (P0 _))⟩;exact⟨R8 (yR xs lo hi) hz,_,0,(r.drop (HT.sIx xs.length 0 lo)).take (HT.sIx xs.length xs.length hi-HT.sIx xs.length 0 lo),S5 _ rfl⟩
theorem op_notIn_str:OpR X (S8 .NotIn) (λx y H Q=> ∃i j,x= .str i/\y= .str j/\Q (.bl (!(!(H0 j i 0 j.length 1).isEmpty))) H):=by
 intro pins s σ H x y v u Q I rx ry h;obtain⟨i,j,rfl,rfl,q⟩:=h;obtain⟨t,rfl⟩:=rx;obtain⟨t',rfl⟩:=ry;exact notIn_str ⟨.bl _,H,I,rfl,q⟩
theorem call_len_seq:CallR X (.builtin "len") (λxs H Q=> ∃p ys,xs= [.ref p]/\(SqL X.K H p ys\/SqT X.K H p ys)/\Q (.int ys.length) H):=by
 intro pins s σ H xs us Q I r h;obtain⟨p,ys,rfl,hq,q⟩:=h;obtain⟨u,rfl,rx⟩:=yc r;cases rx;have hn:=vI;rcases hq with hq|hq
 ·obtain⟨its,r',pl,hz⟩:=I.list hq;have hlen:=r'.length;exact Calls.call_len_list pl.isList (by simp only [D0]<;>omega) ⟨.int ys.length,H,I.tok _,⟨s.toks+1,by rw [D0,hlen]⟩,q⟩
 ·obtain⟨its,r',pl,hz⟩:=I.tuple hq;have hlen:=r'.length;exact len_tuple pl (by simp only [D0]<;>omega) ⟨.int ys.length,H,I.tok _,⟨s.toks+1,by rw [D0,hlen]⟩,q⟩
theorem call_len_str:CallR X (.builtin "len") (λxs H Q=> ∃z,xs= [.str z]/\z.length<=sizeLine/\Q (.int z.length) H):=by
 intro pins s σ H xs us Q I r h;obtain⟨z,rfl,hz,q⟩:=h;obtain⟨u,rfl,t,rfl⟩:=yc r;have hn:=vI;exact len_str (by omega) ⟨.int z.length,H,I.tok _,⟨_,rfl⟩,q⟩
theorem call_tuple_of:CallR X (.type "tuple") (λxs H Q=> ∃p ys,xs= [.ref p]/\((SqL X.K H p ys/\ ∀l,H l=none->Q (.ref l) (upd H l (.tup ys)))\/(SqT X.K H p ys/\Q (.ref p) H))):=by
 intro pins s σ H xs us Q I r h;obtain⟨p,ys,rfl,h⟩:=h;obtain⟨u,rfl,rx⟩:=yc r;cases rx;rcases h with ⟨hq,q⟩|⟨hq,q⟩
 ·obtain⟨its,r',pl,hz⟩:=I.list hq;have hlen:=r'.length;refine call_tuple_list pl.isList (λh' kp=> ?_) (by simp only [D0]<;>omega);have I1:Inv X pins σ H {s with heap:=h'}:=I.kept (t':=s.toks) kp;have I2:Inv X pins σ (upd H h'.objs.size (.tup ys)) {s with heap:=h'.push {cls:= .type "tuple",data:= .seq its.toArray}}:=
   I1.laid (t':=s.toks) (λb o e=>G7 _ e) (P0 _) (show ObjOk X.prog X.w _ _ _ (.tup ys) from ⟨hz,its,r',IsTupN.new _ _⟩)
  exact⟨.ref h'.objs.size,_,I2,rfl,q _ (I1.hok.fresh (P0 _))⟩
 ·obtain⟨its,r',pl,hz⟩:=I.tuple hq;exact call_tuple_same pl ⟨.ref p,H,I,rfl,q⟩
def tyV (K:G2)(T:T0)(x:V)(H:Hp):Prop:=match x with
 | .str _=>T= "str"
 | .int _=>T= "int"
 | .ref p=>(T= "list" /\ ∃xs,SqL K H p xs)\/(T= "tuple" /\ ∃o,K.lookup p=some o/\o.cls= .type "tuple" /\o.dict=none)\/
  (T= "dict" /\((∃kvs,H p=some (.dK kvs))\/ ∃kvs,H p=some (.dT kvs)))\/(T= "set" /\ ∃S n,H p=some (.set S n))
 |_=>False
theorem PY {pins:G0 (G5×Obj)}{σ:St}{H:Hp}{s:G4}{T:T0}{x:V}{v:G1}(I:Inv X pins σ H s)(r:RelV x v)(ty:tyV X.K T x H):
 s.TypeIs v T/\ ∀a,v= .ref a-> ∃ob,s.heap.get? a=some ob/\ob.dict=none:=by
 cases x with
 |str z=>
  obtain⟨t,rfl⟩:=r;cases (show T= "str" from ty);exact⟨eI s z t,λ_ e=>nomatch e⟩
 |int i=>
  obtain⟨t,rfl⟩:=r;cases (show T= "int" from ty);exact⟨bU s i t,λ_ e=>nomatch e⟩
 |ref p=>
  cases r;rcases ty with ⟨rfl,xs,hq⟩|⟨rfl,o,hk,hc,hd⟩|⟨rfl,hk⟩|⟨rfl,S,n,hk⟩
  ·obtain⟨its,_,pl,_⟩:=I.list hq;refine⟨pl.isList.typeIs,λa e=> ?_⟩;cases e;obtain⟨o,n,e,c,hd,_⟩:=pl;exact⟨o,e,hd⟩
  ·refine⟨⟨o,I.kIn p o hk,hc⟩,λa e=> ?_⟩;cases e;exact⟨o,I.kIn _ o hk,hd⟩
  ·have z: ∃o,s.heap.get? p=some o/\o.ExactDict:=by
    rcases hk with ⟨kvs,hk⟩|⟨kvs,hk⟩
    ·obtain⟨_,_,_,_,o,_,_,e,ex,_⟩:=I.hok p _ hk;exact⟨o,e,ex⟩
    ·obtain⟨_,_,_,_,o,_,_,e,ex,_⟩:=I.hok p _ hk;exact⟨o,e,ex⟩
   obtain⟨o,e,ex⟩:=z;refine⟨⟨o,e,ex.1⟩,λa e2=> ?_⟩;cases e2;exact⟨o,e,ex.2.1⟩
  ·obtain⟨o,_,_,_,e,ex,_⟩:=I.hok p _ hk;refine⟨⟨o,e,ex.1⟩,λa e2=> ?_⟩;cases e2;exact⟨o,e,ex.2.1⟩
 |_=>exact False.elim ty
def tBM (K:G2)(T:T0)(r:V->G0 V->Hp->VK->Prop)(to:TE)(t:TA):TE:=λσ H Q=>to σ H λx H1=>tyV K T x H1/\t σ H1 λxs H2=>r x xs H2 Q
variable {o e:D3}{es:G0 D3}{to:TE}{t:TA}{name:Str}{apos cpos:Pos}{T id:T0}{r:V->G0 V->Hp->VK->Prop}
theorem YY (pa:PlainAttrs T)(slot:Slot T name id)(hty:typeOf (.builtin id)=pure (.type "method_descriptor"))(hm:MtR X id r)(ho:PE X o to)(ha:PA X (e::es) t)
 (hbase:F7 o name X.env (M2 o X.env)=M2 o X.env:=by rfl)
 (hfew:((M9 cpos (G9 (e::es) X.env)).all (λx=> !x.1)&&(aH cpos (K3 [] X.env)).all (λx=>x.1.isSome)
  &&decide ((e::es).length+([]:G0 E8).length+(if ([]:G0 E8).isEmpty then 0 else 1)<30))=true:=by rfl)
 (hline:(apos.endLine==cpos.line)=true:=by rfl)(hs:G9 (e::es) X.env=(false,M2 e X.env)::G9 es X.env:=by rfl)(hplain:(M9 cpos (G9 es X.env)).any (·.1)=false:=by rfl):
 PE X (.Call (.Attribute o name apos) (e::es) [] cpos) (tBM X.K T r to t):=by
 intro pins s σ H Q I h;refine wpAny_Call_method_late hbase hfew hline rfl (thn (ho pins s σ H _ I h) λv s1 ⟨x,H1,I1,r1,ty,q1⟩=> ?_);obtain⟨h1,h2⟩:=PY I1 r1 ty;refine⟨T,id,pa,slot,hty,h1,h2,?_⟩;have hA:=ha cpos pins s1 σ H1 _ I1 q1;rw [hs] at hA ⊢;refine Calls.callWith_builtin (by show (false||(M9 cpos (G9 es X.env)).any (·.1))=false;rw [hplain]<;>rfl) (Calls.evalArgs_plain ?_);exact thn hA λus s2 ⟨vs,H2,I2,r2,q2⟩=>hm pins s2 σ H2 x vs v us Q I2 r1 r2 q2
end
def MtM (X:Cx)(id:T0)(r:V->G0 V->Hp->VK->Prop):Prop:=
 ∀ (pins:G0 (G5×Obj)) (s:G4) (σ:St) (H:Hp) (x:V) (xs:G0 V) (v:G1) (us:G0 G1) (Q:VK),Inv X pins σ H s->RelV x v->Vals xs us->r x xs H Q->
  D5 (D8 X.prog X.w) X.A (call (.builtin id) (v::us)) (EP X pins σ Q) X.xe s
theorem Vals.one: ∀ {x:V} {us:G0 G1},Vals [x] us-> ∃u,us= [u]/\RelV x u
 |_,_,.cons r .nil=>⟨_,rfl,r⟩
theorem Vals.rep {xs:G0 V}{us:G0 G1}(h:Vals xs us): ∀k:P4,Vals (D9 k xs).flatten (D9 k us).flatten
 |0=> .nil
 |k+1=>by
  rw [C8,C8,A5,A5];exact Vals.append h (Vals.rep h k)
theorem yT (its:G0 G1): ∀ (k:P4) (acc:G0 G1),
 hJ (λx1 x2=>x1++x2) acc.toArray (D9 k its.toArray)=(acc++(D9 k its).flatten).toArray
 |0,acc=>by simp
 |k+1,acc=>by
  have e:acc.toArray++its.toArray=(acc++its).toArray:=by simp
  have e2:(acc++its)++(D9 k its).flatten=acc++(D9 (k+1) its).flatten:=by
   rw [C8,A5,fN]
  rw [<-e2,<-yT its k (acc++its),<-e,C8,List.foldl_cons]
section
variable {X:Cx}{pins:G0 (G5×Obj)}{σ:St}{H:Hp}{s:G4}{l b:G5}{xs ys zs:G0 V}
theorem Inv.lset {its its':G0 G1}{n:P4}{f:B7 G1->B7 G1}{t':P4}(I:Inv X pins σ H s)(hH:H l=some (.lst xs))
 (e:s.heap.get? l=some {cls:= .type "list",data:= .seq its.toArray n})(hf:f its.toArray=its'.toArray)(hv:Vals ys its')(hz:ys.length<=sizeLine):
 Inv X pins σ (upd H l (.lst ys)) {s with heap:=s.heap.update l (bT f),toks:=t'}:=by
 have q:=PySem.IsL.update e f;rw [hf] at q;refine I.write (x:=l) (e:=l) (by rw [hH];exact trivial) (.inl rfl) (λb' u hb hu=>(L7 s.heap (bT f) (C5 hb)).trans hu) ⟨_,q⟩ ?_;exact⟨hz,its',_,hv,q⟩
theorem Inv.lnew {its:G0 G1}{t':P4}(I:Inv X pins σ H s)(hv:Vals ys its)(hz:ys.length<=sizeLine):
 Inv X pins σ (upd H s.heap.objs.size (.lst ys)) {s with heap:=s.heap.push {cls:= .type "list",data:= .seq its.toArray},toks:=t'}:=
 I.laid (λ_ _ q=>G7 _ q) (P0 _) ⟨hz,its,0,hv,S5 _ rfl⟩
theorem Inv.fresh (I:Inv X pins σ H s):H s.heap.objs.size=none:=I.hok.fresh (P0 _)
theorem Inv.lstM (I:Inv X pins σ H s)(hH:H l=some (.lst xs)):xs.length<=sizeLine/\ ∃ (its:G0 G1) (n:P4),Vals xs its/\xs.length=its.length/\s.heap.get? l=some {cls:= .type "list",data:= .seq its.toArray n}:=by
 obtain⟨z,its,n,r,e⟩:=I.hok l _ hH;exact⟨z,its,n,r,r.length,e⟩
theorem Ur {n:P4}(h:n<=sizeLine):Q8 n=false:=by
 unfold Q8;exact S0 (by omega)
end
section
variable {X:Cx}
def Qk:V->G0 V->Hp->VK->Prop:=λx vs H Q=> ∃l xs y,x= .ref l/\vs= [y]/\H l=some (.lst xs)/\xs.length<sizeLine/\Q .non (upd H l (.lst (xs++ [y])))
theorem YZ:MtM X "list.append" Qk:=by
 intro pins s σ H x vs v us Q I rx rv h;obtain⟨l,xs,y,rfl,rfl,hH,hz,q⟩:=h;cases rx;obtain⟨u,rfl,ru⟩:=rv.one;obtain⟨z,its,n,r,hl,e⟩:=I.lstM hH;refine aI F.slot_list_append ⟨_,e,rfl⟩ F.entry_list_append (F.args_list_append_2 _ _) (PySem.list_append l its.toArray n u (by rw [D0];omega)) ⟨e,?_⟩;refine⟨.non,_,I.lset (its':=its++ [u]) hH e (by simp) (r.append (.cons ru .nil)) ?_,rfl,q⟩;rw [S1,J5];omega
def By:R2:=λx y H Q=> ∃l b xs zs,x= .ref l/\y= .ref b/\H l=some (.lst xs)/\H b=some (.lst zs)/\xs.length+zs.length<=sizeLine/\ ∀p,H p=none->Q (.ref p) (upd H p (.lst (xs++zs)))
theorem PZ:OpR X (N3 .Add) By:=by
 intro pins s σ H x y v u Q I rx ry h;obtain⟨l,b,xs,zs,rfl,rfl,hH,hB,hz,q⟩:=h;cases rx;cases ry;obtain⟨z,its,n,r,hl,e⟩:=I.lstM hH;obtain⟨z2,its2,n2,r2,hl2,e2⟩:=I.lstM hB;refine PySem.P.add_list e e2 ?_ (by rw [D0,D0];omega);have ea:its.toArray++its2.toArray=(its++its2).toArray:=by simp
 rw [ea];exact⟨.ref _,_,I.lnew (t':=s.toks) (r.append r2) (by rw [S1];omega),rfl,q _ I.fresh⟩
def Bz:R2:=λx y H Q=> ∃l k xs,x= .ref l/\y= .int k/\H l=some (.lst xs)/\ -(2^63)<=k/\k<2^63/\xs.length*k.toNat<=sizeLine/\
 ∀p,H p=none->Q (.ref p) (upd H p (.lst (D9 k.toNat xs).flatten))
theorem ZN {α:Type}(xs:G0 α)(k:P4):(D9 k xs).flatten.length=k*xs.length:=by
 induction k with
 |zero=>simp
 |succ k ih=>rw [C8,A5,S1,ih,fO,Nat.add_comm]
theorem Da:OpR X (N3 .Mult) Bz:=by
 intro pins s σ H x y v u Q I rx ry h;obtain⟨l,k,xs,rfl,rfl,hH,h1,h2,hz,q⟩:=h;cases rx;obtain⟨t,rfl⟩:=ry;obtain⟨z,its,n,r,hl,e⟩:=I.lstM hH;have hlen:its.toArray.size*k.toNat<=sizeLine:=by rw [D0,<-hl];exact hz
 have hcap: ¬its.toArray.size*k.toNat>(2^63-1) / 8:=by
  have:(sizeLine:P4)<=(2^63-1) / 8:=by decide
  omega
 have hfit: ¬ (!hO k)=true:=by
  rw [fitsIndex_both h1 h2];exact P8
 have hlong: ¬Q8 (its.toArray.size*k.toNat)=true:=by
  rw [Ur hlen];exact P8
 have hnew:hJ (λx1 x2=>x1++x2) #[] (D9 (if its.toArray.isEmpty=true then 0 else k.toNat) its.toArray)=(D9 k.toNat its).flatten.toArray:=by
  have f0: ∀m:P4,hJ (λx1 x2=>x1++x2) #[] (D9 m its.toArray)=(D9 m its).flatten.toArray:=λm=>by
   have:=yT its m [];rw [L4] at this;exact this
  rw [f0];cases its with
  |nil=>simp
  |cons a r'=>rw [S6 (by simp)]
 refine aT (T:= "list") (U:= "int") (by decide) ⟨_,e,rfl⟩ (λs'=>bU s' k t) noFill_list_mul gQ Y5 repeat_list F.slot_int_index.lookup
  (aI Y5 (bU s k t) gA (fP _ _) (int___rmul___int_list k t l its.toArray n)
   ⟨e,rfl,⟨_,e,rfl⟩,aI F.slot_list_mul ⟨_,e,rfl⟩ F.entry_list_mul (F.args_list_mul_2 _ _) (AutoListH.list___mul___list_int_3 l its.toArray n k t hfit hcap hlong) ⟨e,?_⟩⟩)
 rw [hnew];exact⟨.ref _,_,I.lnew (t':=s.toks) (r.rep k.toNat) (by rw [ZN,fQ];exact hz),rfl,q _ I.fresh⟩
end
end L2
namespace Att
open PySem PySem.W PySem.Calls PyProof.Rows
theorem yU {P:mY}{h:S3}: ∀ (ns:G0 P9) (vs:G0 G1),WellAll P h vs (ns.map WData.int)->g0 vs ns:=by
 intro ns
 induction ns with
 |nil=>
  intro vs w;rw [K7] at w;cases w;exact .nil
 |cons n ns ih=>
  intro vs w;rw [N7] at w;cases w with
  |cons a b=>
   cases a;exact .cons _ _ (ih _ b)
theorem Va {l:OpenLaw}{n:P4}(hn:l.most=some n){P:mY}{h:S3}{args:G0 WData}{vals:G0 G1}
 (hpre:l.row.toRowW.claim.pre args=true)(hwl:WellAll P h vals args):
 ∃a vs ns,vals= [N5 a]/\args= [WData.list (ns.map WData.int)]/\h.get? a=some {cls:= .type "list",data:= .seq vs.toArray}/\g0 vs ns/\ns.length<=n:=by
 have hsh:WShape.hasAll [] args [.list .int]=true:=(pre_splitW hpre).1;have hc:l.pre.holds [] {args:=args}=true:=(pre_splitW hpre).2;obtain⟨d,r,rfl,h1,h2⟩:=hasAllW_cons hsh;obtain rfl:=hasAllW_nil h2;obtain⟨xs,rfl,h3⟩:=hasW_list h1;obtain⟨ns,rfl⟩:=items_int h3;have hlen:ns.length<=n:=by
  unfold OpenLaw.pre at hc;have h4:(WTm.not (.lt (.lit (.int (n:P9))) (.len (.arg 0)))).holds [] {args:= [.list (ns.map .int)]}=true:=by
   have h4:=(holds_andW hc).1;rw [hn] at h4;exact h4
  have h5:=condW_of h4 (w_not (w_lt w_lit (w_len_list (w_arg rfl))));rw [G8] at h5;refine Nat.le_of_not_lt λq=> ?_
  have q':(n:P9)<((ns.length:P4):P9):=by omega
  first
   |(rw [T2 q'] at h5;exact absurd h5 (by decide))
   |(simp at h5;omega)
 cases hwl with
 |cons w1 w2=>
  cases w2;cases w1 with
  |list ho hall=>exact⟨_,_,ns,rfl,rfl,ho,yU ns _ hall,hlen⟩
theorem Vb (l:OpenLaw)(args:G0 WData):l.row.toRowW.claim.post args (.bool true) args=true:=
 postW_of (r:=l.row.toRowW) (X:=(true==true))
  (show WShape.has [] (.bool true) .bool=true by first|rfl|decide|simp [WShape.has,WShape.arms,WShape.armsAll])
  (show (WTm.eq .res (.lit (.bool true))).value [] {args:=args,res:=some (.bool true),after:=args}=some (.bool (true==true)) from w_eq_bool (w_res rfl) w_lit) rfl
theorem attach_call {l:OpenLaw}{n:P4}{q:D2}{loose:G0 Str}{XP:(Str->G6 G1)->S3->Prop}{YP:S4->S3->Prop}{d:DefRec}
 (hn:l.most=some n)(hdf:d.params.defaults= [])
 (call: ∀ (w:S4) (s₀ nG:G4) (mg mb:Str->G6 G1) (fa:G5) (o:Obj) (pm cd doc:G1) (a:G5) (vs:G0 G1) (ns:G0 P9),
  Ground q loose [] XP w s₀ mg mb nG.heap->YP w nG.heap->
  nG.heap.get? fa=some o->o.data= .func (docDef d.name d.params d.body d.scope pm cd doc)->nG.heap.CodeRec cd d.name->mg d.name=some (.ref fa)->
  nG.heap.get? a=some {cls:= .type "list",data:= .seq vs.toArray}->g0 vs ns->ns.length<=n->nG.gens= #[]->
  A9 (D8 l.prog w) dD (.call (.ref fa) ⟨[.ref a],[]⟩) (λr s'=>r= .ok (.ret (.bool true))/\OldK nG.heap s'.heap/\s'.os=nG.os/\Z1 s'.gens) nG):
 WalkO q loose XP YP l.row.toRowW d [] (λf vs=>hU f vs):=by
 intro w s₀ nG mg mb G Y fa o pm cd doc dV kV ho hd hcd hD hmg hg args vals as hpre hlay hrd hwl hlo;obtain rfl:dV= .none:=Dflts.none hD hdf;obtain rfl:kV= .none:=Dflts.noKw hD;obtain⟨a,vs,ns,rfl,rfl,hobj,hints,hlen⟩:=Va hn hpre hwl;refine enter_call (E6 (call w s₀ nG mg mb fa o pm cd doc a vs ns G Y ho (fd_plain hd) hcd hmg hobj hints hlen hg) λr s' hq=> ?_);obtain⟨rfl,h2,h3,h4⟩:=hq;exact⟨.inl ⟨.bool true,.bool true,[],rfl,λ_=>rfl,.bool true,Vb l _,λ_=>⟨List.Pairwise.nil,λ_ hm=>(nomatch hm)⟩⟩,h2,h3,h4⟩
end Att
namespace L2
open PySem PySem.Spec PyProof.Rows
theorem JN: ∀ {vs:G0 G1} {ns:G0 P9},g0 vs ns->Vals (ns.map V.int) vs
 |_,_,.nil=> .nil
 |_,_,.cons n t h=> .cons ⟨t,rfl⟩ (JN h)
def Ql (s:M4)(j:P4):M4:=match s with
 | .ClassDef _ _ _ body _ _ _ _ _ _ _=>body.getD j (.Pass ⟨0,0,0,0⟩)
 |_=> .Pass ⟨0,0,0,0⟩
def zk (s:M4):dA:=match s with
 | .FunctionDef _ a _ _ _ _ _ _ _ _=>a
 |_=> {posonlyargs:= [],args:= [],vararg:=none,kwonlyargs:= [],kw_defaults:= [],kwarg:=none,defaults:= []}
def jy (s:M4):G0 M4:=match s with
 | .FunctionDef _ _ b _ _ _ _ _ _ _=>b
 |_=> []
def jb (s:M4):N0:=match s with
 | .FunctionDef _ _ _ _ _ _ sc _ _ _=>sc
 |_=> {kind:= .function,names:= [],isGenerator:=false,isCoroutine:=false}
abbrev CX0:CXT:=λ_ _ _ _ _ _=>False
abbrev E0:XK:=λ_ _ _=>False
variable {X:Cx}
theorem Qm:yO CX0 X E0:=λ_ _ _ _ _ _ _ h=>h.elim
structure Fun (K:G2)(x qual:Str)(st:M4)(f:G5)(fd:D6):Prop where
 ex: ∃ (oc:G1) (od:G6 G5) (kV doc pm:G1) (an:G6 G5) (cdv ct:G1) (osl:B7 (G6 G1)),
  fd=F8 x qual (zk st) (jy st) (jb st) .none kV doc pm an cdv ct/\K.lookup f=some ⟨oc,od,.func fd,osl⟩/\V8 K cdv qual=true
 kp:N4 K (.ref f)=true
section
variable {P:D2}{w:S4}{K:G2}{mg:Str->G6 G1}{base:S3}
variable {qual:Str}
theorem Fun.ok {x:Str}{st:M4}{f:G5}{fd:D6}{N ps:G0 Str}{k:P4}{sp:Sp}(F:Fun K x qual st f fd)(S:FnScope N ps (jb st))(len: ∀vs H Q E,sp vs H Q E->vs.length=ps.length)
 (hbody: ∀ (cdv:G1) (A:R0) (outer:G0 Env) (s:G4) (H:Hp) (vs:G0 V) (Q:VK) (E:XK),Room k (A.deeper (N8 qual (jb st) s.heap.objs.size f cdv))->sp vs H Q E->
  ∃t,PSs (yH CX0 P w K mg base N qual (jb st) f cdv A outer s H E).nox (jy st) t/\t {nx:=λ_ H'=>Q .non H',rt:=Q} (zj N vs) H):FnOk P w K mg base CX0 (k+1) f fd ps sp:=by
 obtain⟨oc,od,kV,doc,pm,an,cdv,ct,osl,rfl,lk,hcd⟩:=F.ex;refine Qf lk hcd S len λA outer s H vs Q E hr hsp=> ?_
 obtain⟨t,h,q⟩:=hbody cdv A outer s H vs Q E hr hsp;exact⟨t,h.nox,q⟩
theorem Fun.binds {x:Str}{st:M4}{f:G5}{fd:D6}{ps:G0 Str}(F:Fun K x qual st f fd)
 (h: ∀ (kV doc pm:G1) (an:G6 G5) (cdv ct:G1) (us:G0 G1),us.length=ps.length->fC (F8 x qual (zk st) (jy st) (jb st) .none kV doc pm an cdv ct) ⟨us,[]⟩=pure (ps.zip us)):Binds K fd ps []:=by
 obtain⟨oc,od,kV,doc,pm,an,cdv,ct,osl,rfl,lk,hcd⟩:=F.ex;exact .all (h kV doc pm an cdv ct)
theorem Xq {x:Str}{st:M4}{f:G5}{oc:G1}{od an:G6 G5}{osl:B7 (G6 G1)}{kV doc pm cdv ct:G1}(l:K.lookup f=some ⟨oc,od,.func (F8 x qual (zk st) (jy st) (jb st) .none kV doc pm an cdv ct),osl⟩)
 (c:V8 K cdv qual=true)(k:N4 K (.ref f)=true):Fun K x qual st f (F8 x qual (zk st) (jy st) (jb st) .none kV doc pm an cdv ct):=⟨⟨oc,od,kV,doc,pm,an,cdv,ct,osl,rfl,l,c⟩,k⟩
end
theorem jQ {n:P4}(h:n<=1000):n<sizeLine:=O6 h (by decide)
theorem wu {A B:Prop}(h:B):if false=true then A else B:=by
 rw [S6 P8];exact h
theorem vx {A B:Prop}(h:A):if true=true then A else B:=by
 rw [S2 rfl];exact h
theorem Wr {c A B:Prop}[Decidable c](h1:c->A)(h2: ¬c->B):if c then A else B:=by
 by_cases h:c
 ·rw [S2 h];exact h1 h
 ·rw [S6 h];exact h2 h
section
variable {κ:Type}[DecidableEq κ]
def Xr (kvs:G0 (κ×V))(k:κ)(v:V):G0 (κ×V):=
 if (kvs.any λkv=>decide (kv.1=k))=true then kvs.map (λkv=>if kv.1=k then (kv.1,v) else kv) else kvs++ [(k,v)]
theorem ZO (kvs:G0 (κ×V))(k:κ)(v:V):(Xr kvs k v).length<=kvs.length+1:=by
 unfold Xr;split
 ·rw [G8];omega
 ·rw [S1,T5,B0];omega
theorem KV.any {kvs:G0 (κ×V)}{vs:G0 (κ×G1)}(r:KV kvs vs)(k:κ):(kvs.any λkv=>decide (kv.1=k))=vs.any λkv=>decide (kv.1=k):=by
 unfold KV at r
 induction r with
 |nil=>rfl
 |cons h t ih=>rw [dO,dO,ih,h.1]
theorem KV.repl {kvs:G0 (κ×V)}{vs:G0 (κ×G1)}(r:KV kvs vs)(k:κ){y:V}{u:G1}(ry:RelV y u):
 KV (kvs.map λkv=>if kv.1=k then (kv.1,y) else kv) (vs.map λkv=>if kv.1=k then (kv.1,u) else kv):=by
 unfold KV at r ⊢
 induction r with
 |nil=>exact .nil
 | @cons p q ps qs h t ih=>
  rw [N7,N7];refine .cons ?_ ih;obtain⟨h1,h2⟩:=h
  by_cases e:p.1=k
  ·rw [S2 e,S2 (h1.symm.trans e)];exact⟨h1,ry⟩
  ·rw [S6 e,S6 (λz=>e (h1.trans z))];exact⟨h1,h2⟩
theorem KV.put {kvs:G0 (κ×V)}{vs:G0 (κ×G1)}(r:KV kvs vs)(k:κ){y:V}{u:G1}(ry:RelV y u):KV (Xr kvs k y) (mZ vs k u):=by
 unfold Xr mZ;rw [r.any k]
 by_cases e:(vs.any λkv=>decide (kv.1=k))=true
 ·rw [S2 e,S2 e];exact r.repl k ry
 ·rw [S6 e,S6 e];exact Paired.snoc r ⟨rfl,ry⟩
end
variable {P:D2}{w:S4}
theorem MA {k:Key}{u:G1}(r:RelV (kV k) u):(zw P w).is k u=true:=by
 cases k with
 |inl i=>obtain⟨t,e⟩:=(show ∃t,u=Z5 i t from r);subst e;exact ZH P w i t
 |inr x=>obtain⟨t,e⟩:=(show ∃t,u=X0 x t from r);subst e;exact ZI P w x t
section
variable {P:D2}{w:S4}{H:Hp}{h:S3}{a:G5}
theorem MB {u:HO}(ok:HOk P w H h)(e:Rd H a u):ObjOk P w H h a u:=e.ok ok
theorem MC {kvs:G0 (Key×V)}(ok:HOk P w H h)(e:Rd H a (.dK kvs)):kvs.length<=sizeLine/\(a==U6)=false/\ ∃vs,KV kvs vs/\h.DictOf (zw P w) a vs:=
 show ObjOk P w H h a (.dK kvs) from MB ok e
theorem MD {kvs:G0 (Key×V)}(ok:HOk P w H h)(e:H a=some (.dK kvs)):kvs.length<=sizeLine/\(a==U6)=false/\ ∃vs,KV kvs vs/\h.DictOf (zw P w) a vs:=MC ok (.inl e)
end
section
variable {X:Cx}{pins:G0 (G5×Obj)}{σ:St}{H:Hp}{s:G4}{a:G5}{y v:V}{u r:G1}{o:G6 V}{A:R0}{E:G1->G4->Prop}
theorem Inv.big (I:Inv X pins σ H s):U6<s.heap.objs.size:=by
 have h:mainGlobals<s.heap.objs.size:=(I.mod.glob.keeps I.bk).lt;exact W0 (by decide) h
theorem Qn {h':S3}{t':P4}{ob:HO}(I:Inv X pins σ H s)(mu:Mut (H a))(hs:Z2 a s.heap h')(he: ∃q,h'.get? a=some q)(new:ObjOk X.prog X.w (upd H a ob) h' a ob):
 Inv X pins σ (upd H a ob) {s with heap:=h',toks:=t'}:=
 I.write (x:=a) (e:=a) mu (.inl rfl) (λb q hb z=>(hs.2 b hb).trans z) he new
theorem Db {P:D2}{w:S4}{H':Hp}{h':S3}{kvs:G0 (Key×V)}{vs:G0 (Key×G1)}(z:kvs.length<=sizeLine)(hd:(a==U6)=false)(rel:KV kvs vs)(dd:h'.DictOf (zw P w) a vs):
 ObjOk P w H' h' a (.dK kvs):=⟨z,hd,vs,rel,dd⟩
end
variable {H:Hp}
theorem Us (h:S3)(hb:U6<h.objs.size):ObjOk P w H (h.push {cls:= .type "dict",data:= .dict #[]}) h.objs.size (.dK []):=
 ⟨O4 _,beq_eq_false_iff_ne.mpr (C5 (R7 hb)),[],.nil,Heap.DictOf.new h⟩
def Vc:G0 (TE×TE)->St->Hp->(G0 (V×V)->Hp->Prop)->Prop
 | [],_,H,Q=>Q [] H
 |(tk,tv)::r,σ,H,Q=>tk σ H λx H1=>tv σ H1 λy H2=>Vc r σ H2 λps H3=>Q ((x,y)::ps) H3
abbrev VV:G0 (V×V)->G0 (G1×G1)->Prop:=Paired λp q=>RelV p.1 q.1/\RelV p.2 q.2
def PPs (X:Cx)(pos:Pos)(keys:G0 (G6 D3))(values:G0 D3)(trs:G0 (TE×TE)):Prop:=
 ∀ (pins:G0 (G5×Obj)) (s:G4) (σ:St) (H:Hp) (Q:G0 (V×V)->Hp->Prop),Inv X pins σ H s->Vc trs σ H Q->
  D5 (D8 X.prog X.w) X.A (evalPairs (pairTrees keys values X.env pos)) (λvs s'=> ∃ps H',Inv X pins σ H' s'/\VV ps vs/\Q ps H') X.xe s
variable {pos:Pos}
theorem Qo:PPs X pos [] [] []:=λpins s σ H Q I h=>pairTrees_nil_walk ⟨[],H,I,.nil,h⟩
theorem Ut {k v:D3}{ks:G0 (G6 D3)}{vs:G0 D3}{tk tv:TE}{trs:G0 (TE×TE)}(hk:PE X k tk)(hv:PE X v tv)(hr:PPs X pos ks vs trs):
 PPs X pos (some k::ks) (v::vs) ((tk,tv)::trs):=λpins s σ H Q I h=>
 pairTrees_cons_walk (thn (hk pins s σ H _ I h) λu s1 ⟨x,H1,I1,rx,q1⟩=>thn (hv pins s1 σ H1 _ I1 q1) λw2 s2 ⟨y,H2,I2,ry,q2⟩=>
  thn (hr pins s2 σ H2 _ I2 q2) λws s3 ⟨ps,H3,I3,rel,q3⟩=>⟨(x,y)::ps,H3,I3,.cons ⟨rx,ry⟩ rel,q3⟩)
def JP (kvs more:G0 (Key×V)):G0 (Key×V):=more.foldl (λacc kv=>Xr acc kv.1 kv.2) kvs
theorem KV.merge: ∀ {more:G0 (Key×V)} {rs:G0 (Key×G1)} {kvs:G0 (Key×V)} {vs:G0 (Key×G1)},KV more rs->KV kvs vs->KV (JP kvs more) (merged vs rs):=by
 intro more rs kvs vs r;unfold KV at r
 induction r generalizing kvs vs with
 |nil=>intro q;exact q
 | @cons p q ps qs h t ih=>
  intro r0;have e:KV (Xr kvs p.1 p.2) (mZ vs q.1 q.2):=by
   have:=r0.put p.1 h.2;rw [<-h.1];exact this
  exact ih e
theorem wK: ∀ (more kvs:G0 (Key×V)),(JP kvs more).length<=kvs.length+more.length
 | [],kvs=>by show kvs.length<=kvs.length+0;omega
 |p::r,kvs=>by
  have h1:=wK r (Xr kvs p.1 p.2);have h2:=ZO kvs p.1 p.2;show (JP (Xr kvs p.1 p.2) r).length<=_;rw [T5];omega
theorem vK {P:D2}{w:S4}: ∀ {kvs:G0 (Key×V)} {ws:G0 (G1×G1)},VV (kvs.map λkv=>(kV kv.1,kv.2)) ws-> ∃rs,Carries (zw P w) ws rs/\KV kvs rs
 | [],_,r=>by rw [K7] at r;cases r;exact⟨[],K1,.nil⟩
 |p::kvs,_,r=>by
  rw [N7] at r;cases r with
  | @cons a b as bs h t=>
   obtain⟨rs,c,q⟩:=vK (P:=P) (w:=w) t;obtain⟨b1,b2⟩:=b;exact⟨(p.1,b2)::rs,⟨MA h.1,rfl,c⟩,.cons ⟨rfl,h.2⟩ q⟩
def ME (trs:G0 (TE×TE)):TE:=λσ H Q=> ∀p,H p=none->Vc trs σ (upd H p (.dK [])) λps H2=>H2 p=some (.dK [])/\ ∃kvs:G0 (Key×V),ps=kvs.map (λkv=>(kV kv.1,kv.2))/\kvs.length<=15/\Q (.ref p) (upd H2 p (.dK (JP [] kvs)))
theorem Qp {keys:G0 (G6 D3)}{values:G0 D3}{trs:G0 (TE×TE)}(h:PPs X pos keys values trs)(hall:keys.all (·.isSome)=true)(hl:keys.length=values.length)(h0:keys≠ [])
 (h15:keys.length<=15):PE X (.Dict keys values pos) (ME trs):=by
 intro pins s σ H Q I q;have hn:=I.hok.fresh (P0 s.heap.objs.size);have I1:=I.laid (a:=s.heap.objs.size) (o:= .dK []) (h':=s.heap.push {cls:= .type "dict",data:= .dict #[]}) (t':=s.toks) (λ_ _ q=>G7 _ q) (P0 _) (Us s.heap I.big);refine wpAny_Dict_walk (knd:=zw X.prog X.w) hall hl h0 h15 (thn (h pins _ σ _ _ I1 (q _ hn)) λws s2 ⟨ps,H2,I2,rel,e,kvs,ep,lk,q2⟩=> ?_);subst ep;obtain⟨rs,c,rk⟩:=vK (P:=X.prog) (w:=X.w) rel;obtain⟨z,hd,vs0,r0,dd⟩:=MD I2.hok e;cases r0;refine⟨rs,c,dd,λh' dd' hs=>⟨.ref s.heap.objs.size,_,?_,rfl,q2⟩⟩;have hz:(JP [] kvs).length<=sizeLine:=by
  have h1:=wK kvs [];rw [B0] at h1;rw [O3];omega
 have he: ∃q,h'.get? s.heap.objs.size=some q:=let ⟨q,_,_,hq,_⟩:=dd';⟨q,hq⟩;exact Qn I2 (by rw [e];exact K1) hs he (Db hz hd (rk.merge .nil) dd')
def zx (names:G0 (Str×NameKind))(env:Env)(cs:G0 (Str×G5)):G0 (Str×G5):=
 names.foldl (λcs p=>if p.2= .free then (match env.cells.lookup p.1 with|some c=>(p.1,c)::cs|none=>cs) else cs) cs
theorem jZ (p:Str×NameKind)(l:G0 (Str×NameKind))(env:Env)(cs:G0 (Str×G5)):
 zx (p::l) env cs=zx l env (if p.2= .free then (match env.cells.lookup p.1 with|some c=>(p.1,c)::cs|none=>cs) else cs):=rfl
variable {env:Env}
theorem yV {f:Str×NameKind->G0 (Str×G5)->Sem (ForInStep (G0 (Str×G5)))}
 (h1: ∀p cs,p.2≠ .free->f p cs=pure (.yield cs))(h2: ∀p cs c,p.2= .free->env.cells.lookup p.1=some c->f p cs=pure (.yield ((p.1,c)::cs))):
 ∀ (l:G0 (Str×NameKind)) (cs:G0 (Str×G5)),(∀p∈l,p.2= .free-> ∃c,env.cells.lookup p.1=some c)->forIn l cs f=pure (zx l env cs)
 | [],cs,_=>rfl
 |p::l,cs,h=>by
  have ih:=yV h1 h2 l
  by_cases hp:p.2= .free
  ·obtain⟨c,hc⟩:=h p P7 hp;rw [cF,h2 p cs c hp hc,pure_bind];show forIn l ((p.1,c)::cs) f=_;rw [ih _ λq hq=>h q (D1 _ hq),jZ,S2 hp,hc]
  ·rw [cF,h1 p cs hp,pure_bind];show forIn l cs f=_;rw [ih _ λq hq=>h q (D1 _ hq),jZ,S6 hp]
variable {scope:N0}
theorem vZ (h: ∀p∈scope.names,p.2= .free-> ∃c,env.cells.lookup p.1=some c):aJ scope env=pure (zx scope.names env []):=by
 simp only [aJ];rw [yV (env:=env) (λp cs hp=> ?_) (λp cs c hp hc=> ?_) _ _ h]
 ·rfl
 ·obtain⟨n,k⟩:=p;have hb:(k==T7)=false:=by simpa using hp
  simp only [hb,Bool.false_eq_true,bK]
 ·obtain⟨n,k⟩:=p;have hb:(k==T7)=true:=by simpa using hp
  have hc':env.cells.lookup n=some c:=hc;simp only [hb,X9,m5,hc',pure_bind]
theorem yW: ∀ (l:G0 (Str×NameKind)) (cs:G0 (Str×G5)),(∀p∈cs,env.cells.lookup p.1=some p.2)-> ∀p∈zx l env cs,env.cells.lookup p.1=some p.2
 | [],cs,h,p,hp=>h p hp
 |q::l,cs,h,p,hp=>by
  rw [jZ] at hp;refine yW l _ (λr hr=> ?_) p hp
  by_cases hq:q.2= .free
  ·rw [S2 hq] at hr;cases e:env.cells.lookup q.1 with
   |none=>rw [e] at hr;exact h r hr
   |some c=>
    rw [e] at hr;rcases P2.mp hr with rfl|hr
    ·exact e
    ·exact h r hr
  ·rw [S6 hq] at hr;exact h r hr
theorem yX: ∀ (l:G0 (Str×NameKind)) (cs:G0 (Str×G5)),∀p∈cs,p∈zx l env cs
 | [],cs,p,hp=>hp
 |q::l,cs,p,hp=>by
  rw [jZ];refine yX l _ p ?_
  by_cases hq:q.2= .free
  ·rw [S2 hq];cases e:env.cells.lookup q.1 with
   |none=>exact hp
   |some c=>exact D1 _ hp
  ·rw [S6 hq];exact hp
variable {x:Str}
theorem yY {c:G5}(hc:env.cells.lookup x=some c): ∀ (l:G0 (Str×NameKind)) (cs:G0 (Str×G5)),(x,T7)∈l->(x,c)∈zx l env cs
 |q::l,cs,h=>by
  rw [jZ];rcases P2.mp h with e|h
  ·subst e;rw [S2 rfl,hc];exact yX l _ _ P7
  ·exact yY hc l _ h
variable {α:Type}
theorem zh: ∀ {l:G0 (Str×α)} {x:Str} {c:α},l.lookup x=some c->(x,c)∈l
 | [],_,_,h=>by simp at h
 |(n,k)::r,x,c,h=>by
  rw [T9] at h;cases hx:x==n with
  |true=>
   rw [hx] at h;have e:x=n:=eq_of_beq hx;cases h;subst e;exact P7
  |false=>rw [hx] at h;exact D1 _ (zh h)
theorem vL: ∀ {l:G0 (Str×α)} {x:Str} {c:α},(x,c)∈l-> ∃c',l.lookup x=some c'
 |(n,k)::r,x,c,h=>by
  rw [T9];cases hx:x==n with
  |true=>exact⟨_,rfl⟩
  |false=>
   rcases P2.mp h with e|h
   ·cases e;simp at hx
   ·exact vL h
theorem vM {l:G0 (Str×NameKind)}{c:G5}(h:(zx l env []).lookup x=some c):env.cells.lookup x=some c:=
 yW l [] (λ_ z=>nomatch z) (x,c) (zh h)
theorem Vd {l:G0 (Str×NameKind)}{c:G5}(hc:env.cells.lookup x=some c)(h:(x,T7)∈l):(zx l env []).lookup x=some c:=by
 obtain⟨c',e⟩:=vL (yY hc l [] h);have:=vM e;rw [hc] at this;cases this;exact e
theorem zI {κ:Type}{f:Str×κ->Str×κ}{g:Str->κ->κ}(hf: ∀n k,f (n,k)=(n,g n k))(x:Str): ∀l:G0 (Str×κ),(l.map f).lookup x=(l.lookup x).map (g x)
 | []=>rfl
 |(n,k)::r=>by
  rw [N7,hf,T9,T9,zI hf x r];cases same:x==n with
  |false=>rfl
  |true=>rw [eq_of_beq same];rfl
theorem jI {names:G0 (Str×NameKind)}{k:NameKind}(found:
 (names.map λ(n,k)=>if (k==T7&&env.scope.kind== .function&&env.kindOf n==some .cell) then (n,A7) else (n,k)).lookup x=some k):
  names.lookup x=some k\/names.lookup x=some .free:=by
 rw [zI (g:=λn k=>if (k==T7&&env.scope.kind== .function&&env.kindOf n==some .cell) then .cell else k) (λn k=>by dsimp only;split<;>rfl)] at found;obtain⟨k0,was,now⟩:=L8.mp found;split at now
 ·rename_i c;simp only [R1,beq_iff_eq] at c;exact .inr (by rw [was,c.1.1])
 ·exact .inl (by rw [was,now])
theorem zf: ∀ (names:G0 (Str×NameKind)) (n:P4) (acc:G0 (Str×G5)) (p:Str×G5),p∈B5 n names acc->p∈acc\/(n<=p.2/\(p.1,A7)∈names)
 | [],_,_,_,h=> .inl h
 |(x,k)::r,n,acc,p,h=>by
  unfold B5 at h;split at h
  ·rename_i hk;rcases zf r (n+1) _ p h with z|⟨z1,z2⟩
   ·rcases P2.mp z with e|z
    ·subst e;have:k= .cell:=by simpa using hk
     subst this;exact .inr ⟨P0 _,P7⟩
    ·exact .inl z
   ·exact .inr ⟨by omega,D1 _ z2⟩
  ·rcases zf r n acc p h with z|⟨z1,z2⟩
   ·exact .inl z
   ·exact .inr ⟨z1,D1 _ z2⟩
theorem jD: ∀ (names:G0 (Str×NameKind)) (n:P4) (acc:G0 (Str×G5)),B5 n names acc=B5 n names []++acc
 | [],_,_=>rfl
 |(x,k)::r,n,acc=>by
  unfold B5;split
  ·rw [jD r (n+1) ((x,n)::acc),jD r (n+1) [(x,n)],fN];rfl
  ·exact jD r n acc
theorem yf (l l':G0 (Str×α))(x:Str):(l++l').lookup x=(match l.lookup x with|some c=>some c|none=>l'.lookup x):=by
 induction l with
 |nil=>rfl
 |cons p l ih=>
  obtain⟨n,c⟩:=p;rw [F2,T9,T9];cases x==n with
  |true=>rfl
  |false=>exact ih
theorem wx {names:G0 (Str×NameKind)}(here:names.lookup x=some .cell):
 (names.map λ(n,k)=>if (k==T7&&env.scope.kind== .function&&env.kindOf n==some .cell) then (n,A7) else (n,k)).lookup x=some .cell:=by
 rw [zI (g:=λn k=>if (k==T7&&env.scope.kind== .function&&env.kindOf n==some .cell) then .cell else k) (λn k=>by dsimp only;split<;>rfl),here];simp
section
variable {M:Y1}{A:R0}{E:G1->G4->Prop}{s:G4}
theorem Yb (h:S3)(names:G0 (Str×NameKind)):(∀n c,(n,c)∈B5 h.objs.size names []->(pushCells h names).IsCell c none/\h.objs.size<=c)/\(B5 h.objs.size names []).Pairwise λx y=>x.2≠y.2:=
 have laid:=cellsFrom_ok names h h.objs.size [] ⟨by simp,.nil⟩ (P0 _)
 ⟨laid.empty,laid.apart⟩
theorem JQ {scope:N0}{globals:G5}{closure:G0 (Str×G5)}{qual:Str}{func:G6 G5}{code:G1}{outer:Env}{builtins:G5}{Q:Env->G4->Prop}
 (hQ: ∀h',h'.Ns s.heap.objs.size (λ_=>none)->(∀b o,s.heap.get? b=some o->h'.get? b=some o)->(∀n c,(n,c)∈B5 (s.heap.objs.size+1) scope.names []->h'.IsCell c none/\s.heap.objs.size+1<=c)->
  ((B5 (s.heap.objs.size+1) scope.names []).Pairwise λx y=>x.2≠y.2)->
  Q (newEnv scope s.heap.objs.size globals (B5 (s.heap.objs.size+1) scope.names closure) qual func code (some outer) builtins) {s with heap:=h'}):
 D5 M A (hZ scope globals closure [] qual func code (some outer) builtins) Q E s:=by
 have names:=Yb (s.heap.push {cls:= .type "dict",data:= .dict #[]}) scope.names;have first:(s.heap.push {cls:= .type "dict",data:= .dict #[]}).objs.size=s.heap.objs.size+1:=cU ..
 rw [first] at names;unfold hZ;refine wpAny_bind (wpAny_alloc (wpAny_bind (wpAny_layCells _ (λn k cs=>rfl) _ _ _ _ ?_)));simp only [Option.isSome_some,X9];rw [first];exact wpAny_bind (P6 (P6 (hQ _ ((Heap.Ns.new _ _).keeps (gR _ _)) (λb o here=>gR _ _ b o (G7 _ here)) names.1 names.2)))
end
def jA (X:Cx)(scope:N0)(C:G5):G0 (Str×G5):=B5 (C+1) scope.names (zx scope.names X.env [])
def wy (X:Cx)(scope:N0)(C:G5)(s₀:G4)(H₀:Hp)(ex:G0 G5):Cx:=
 {X with s₀:=s₀,H₀:=H₀,env:=h8 scope (jA X scope C) C X.env,outer:=X.stack,ex:=ex,fn:=λx=>scope.names.lookup x==some .cell,pn:= [],xe:=λ_ _=>False}
def jC (X:Cx)(scope:N0)(X':Cx):Prop:= ∃C s₀ H₀ ex,X'=wy X scope C s₀ H₀ ex
structure BlockOk (X:Cx)(scope:N0)(js:G0 P4):Prop where
 kind:scope.kind= .function
 locs: ∀p∈scope.names,p.2= .local->scope.names.lookup p.1=some .local
 cels: ∀p∈scope.names,p.2= .cell->scope.names.lookup p.1=some .cell
 free: ∀p∈scope.names,p.2= .free->X.env.scope.names.lookup p.1=some .cell\/X.env.scope.names.lookup p.1=some .free
 js: ∀ (i:P4) (x:Str),X.N[i]? =some x->(scope.names.lookup x=some .local\/scope.names.lookup x=some .cell)->i∈js
variable {js:G0 P4}
theorem zB (S:BlockOk X scope js){C:G5}{x:Str}{c:G5}(h:(jA X scope C).lookup x=some c):
 (scope.names.lookup x≠some .cell/\X.env.cells.lookup x=some c)\/(scope.names.lookup x=some .cell/\(x,c)∈B5 (C+1) scope.names []):=by
 unfold jA at h;rw [jD,yf] at h;cases e:(B5 (C+1) scope.names []).lookup x with
 |some d=>
  rw [e] at h;cases h;have m:=zh e;rcases zf _ _ _ _ m with z|⟨_,z⟩
  ·exact absurd z (by simp)
  ·exact .inr ⟨S.cels _ z rfl,m⟩
 |none=>
  rw [e] at h;refine .inl ⟨λz=> ?_,vM h⟩;obtain⟨d,hd⟩:=wf (sc:=scope) (n:=C+1) z;rw [e] at hd;cases hd
theorem yo (S:BlockOk X scope js){C:G5}{x:Str}{c:G5}(hc:X.env.cells.lookup x=some c)(h:(x,T7)∈scope.names)(hn:scope.names.lookup x≠some .cell):(jA X scope C).lookup x=some c:=by
 unfold jA;rw [jD,yf];cases e:(B5 (C+1) scope.names []).lookup x with
 |some d=>
  rcases zf _ _ _ _ (zh e) with z|⟨_,z⟩
  ·exact absurd z (by simp)
  ·exact absurd (S.cels _ z rfl) hn
 |none=>exact Vd hc h
def zC:G0 P4->St->St
 | [],σ=>σ
 |j::js,σ=>zC js (σ.set j none)
theorem vN: ∀ (js:G0 P4) (σ:St),(zC js σ).length=σ.length
 | [],_=>rfl
 |j::js,σ=>by rw [zC,vN js];simp
theorem yZ: ∀ (js:G0 P4) (σ:St) (i:P4) (v:V),(zC js σ)[i]? =some (some v)->σ[i]? =some (some v)
 | [],_,_,_,h=>h
 |j::js,σ,i,v,h=>by
  have h1:=yZ js _ i v h
  by_cases e:i=j
  ·subst e;rw [W1] at h1;simp at h1
  ·rwa [C3 (C5 e)] at h1
theorem zX: ∀ (js:G0 P4) (σ:St) (i:P4) (v:V),i∈js-> ¬ (zC js σ)[i]? =some (some v)
 |j::js,σ,i,v,hm,h=>by
  rcases P2.mp hm with rfl|hm
  ·have h1:=yZ js _ i v h;rw [W1] at h1;simp at h1
  ·exact zX js _ i v hm h
variable {a:G5}{o:HO}
theorem HOk.track {h:S3}(x:HOk P w H h)(hn:H a=none)(new:ObjOk P w (upd H a o) h a o):HOk P w (upd H a o) h:=λb u e=>by
 by_cases hb:b=a
 ·subst hb;rw [jf] at e;cases e;exact new
 ·rw [jd hb] at e;exact(x b u e).stay (λc v _ q=>q) (λc q=>by rw [jd (je q hn)];exact q) λc xs q=>by rw [jd (je q hn)];exact q
def Agree (σ nE:St):Prop:=nE.length=σ.length/\ ∀ (i:P4) (v:V),σ[i]? =some (some v)->nE[i]? =some (some v)
variable {σ:St}
theorem Agree.set {j:P4}(v:V)(h: ∀u,¬σ[j]? =some (some u)):Agree σ (σ.set j (some v)):=⟨by simp,λi u q=>by
 by_cases e:j=i
 ·subst e;exact absurd q (h u)
 ·rw [C3 e];exact q⟩
def PTs (X:Cx)(ifs:G0 D3)(t:TT):Prop:=
 ∀ (pins:G0 (G5×Obj)) (s:G4) (σ:St) (H:Hp) (Q:B3->Hp->Prop),Inv X pins σ H s->t σ H Q->
  D5 (D8 X.prog X.w) X.A (forIn ifs true λc r=>if r=true then do let ok <-isTrue c X.env (M2 c X.env);pure (J0 ok) else pure (J0 r)) (TP X pins σ Q) X.xe s
def Bb:TT:=λ_ H Q=>Q true H
theorem Qq:PTs X [] Bb:=λ_ _ _ H _ I h=>wpAny_tests_nil ⟨H,I,h⟩
theorem Qr {c:D3}{t:TT}(hc:PT X c t):PTs X [c] t:=λpins s σ H Q I h=>wpAny_tests_one (hc pins s σ H Q I h)
def Ws (iter target:D3)(ifs:G0 D3)(it:G1)(env:Env)(act:Sem Unit)(nxt:Code):Sem j0:=do
 c5 iter.pos
 match <-lS it with
 |none=>pure (.done .next)
 |some v=>
  E9 target it v
  Y3 target env v
  let mut ok:=true
  for c in ifs do
   if ok then ok <-isTrue c env (M2 c env)
  if ok then act
  mW nxt
variable {elt iter:D3}{ifs:G0 D3}
theorem Uu {prog:D2}{A:R0}{R:kM->G4->Prop}{s:G4}{target:D3}{gens:G0 dP}{depth:P4}{it acc:G1}{act:Sem Unit}(I:P4->G4->Prop)
 (heq:iA (.ListComp elt gens scope pos) depth it acc env=Ws iter target ifs it env act (.compLoop (.ListComp elt gens scope pos) depth it acc env))
 (turn: ∀n s,I n s->D5 (D8 prog w) A (lS it) (λr nG=>match r with
  |none=>R (.ok .next) nG
  |some v=>D5 (D8 prog w) A (E9 target it v) (λ_ nG=>D5 (D8 prog w) A (Y3 target env v) (λ_ nU=>
   D5 (D8 prog w) A (forIn ifs true λc r=>if r=true then do let ok <-PySem.isTrue c env (M2 c env);pure (J0 ok) else pure (J0 r)) (λok nP=>
    if ok=true then D5 (D8 prog w) A act (λ_ oE=> ∃m,m<n/\I m oE) (λ_ _=>False) nP
    else ∃m,m<n/\I m nP) (λ_ _=>False) nU) (λ_ _=>False) nG) (λ_ _=>False) nG) (λ_ _=>False) s)
 (n:P4)(h:I n s):
 A9 (D8 prog w) A (.compLoop (.ListComp elt gens scope pos) depth it acc env) R s:=by
 refine codeAny_loop rfl I (λn s hI=> ?_) n h;show D5 _ A ((iA (.ListComp elt gens scope pos) depth it acc env).onRaise (λx=>do gC x env;theTreesLotGoes x)) _ _ s;refine wpAny_noted ?_;rw [heq];unfold Ws;refine wpAny_bind (Q3 (wpAny_bind (R9 (turn n s hI) (λr nG nK=> ?_) λ_ _ h'=>h'.elim)));cases r with
 |none=>exact P6 nK
 |some v=>
  refine wpAny_bind (R9 nK (λ_ nG nK=> ?_) λ_ _ h'=>h'.elim);refine wpAny_bind (R9 nK (λ_ nU oM=>wpAny_bind (R9 oM (λok nP oF=> ?_) λ_ _ h'=>h'.elim)) λ_ _ h'=>h'.elim);cases ok with
  |false=>exact P6 ⟨rfl,oF⟩
  |true=>exact wpAny_bind (R9 oF (λ_ oE nV=>P6 ⟨rfl,nV⟩) λ_ _ h'=>h'.elim)
abbrev TM:=St->Hp->G0 V->(G0 V->Hp->Prop)->Prop
def MF (X:Cx)(D:G5)(act:Sem Unit)(t:TM):Prop:=
 ∀ (pins:G0 (G5×Obj)) (s:G4) (σ:St) (H:Hp) (ys:G0 V) (us:G0 G1) (Q:G0 V->Hp->Prop),Inv X ([(D,U4 us)]++pins) σ H s->Vals ys us->ys.length<=sizeLine->D∈X.ex->(∀x c,X.env.cells.lookup x=some c->c≠D)->(∀p∈X.pn++pins,p.1≠D)->t σ H ys Q->
  D5 (D8 X.prog X.w) X.A act (λ_ s'=> ∃ys' us' H',Vals ys' us'/\Inv X ([(D,U4 us')]++pins) σ H' s'/\Q ys' H') (λ_ _=>False) s
def Bc (te:TE):TM:=λσ H ys Q=>te σ H λy H1=>Q (ys++ [y]) H1
def Wt (elt:D3)(env:Env)(acc:G1):Sem Unit:=do let _ <-call (.builtin "list.append") [acc,<-M2 elt env]
theorem Wu {D:G5}{te:TE}(hx:X.xe=λ_ _=>False)(he:PE X elt te):MF X D (Wt elt X.env (.ref D)) (Bc te):=by
 intro pins s σ H ys us Q I hv hz DX cD pD h;have q:=he _ s σ H _ I h;rw [hx] at q;unfold Wt;refine wpAny_bind (R9 q (λy s1 ⟨yv,H1,I1,r1,q1⟩=> ?_) λ_ _ z=>z);have zD:=I1.pin (D,U4 us) (D4 _ (C0 _ P7));refine wpAny_bind (append_at (its:=us.toArray) (n:=us.length) zD.1 (λh11 hs11 hD11=>P6 ?_) (by rw [D0,<-hv.length];exact hz));have I10u:Inv X pins σ H1 s1:=I1.pins_of λp hp=>I1.pin p (D4 _ (D4 _ hp))
 have I11:Inv X pins σ H1 {s1 with heap:=h11}:=I10u.turned (t':=s1.toks) (it:=D) (λb o hb e=>hs11.extBut b o hb e) zD.2.1 zD.2.2.1 (.inl DX) cD pD;have eD:h11.get? D=some (U4 (us++ [y])):=by rw [hD11];exact congrArg some (LCg.lst_snoc us y)
 refine⟨ys++ [yv],us++ [y],H1,hv.append (.cons r1 .nil),I11.pins_of λp hp=> ?_,q1⟩;rcases R5.mp hp with z|z
 ·rcases R6.mp z with rfl
  exact⟨eD,zD.2.1,zD.2.2.1,zD.2.2.2.1,λv z=>by cases z⟩
 ·exact I11.pin p (D4 _ z)
def MG (js : G0 P4) (wi : TI) (g : TG) (tt : TT) (tm : TM) : TE := fun σ H Q => wi σ H fun J H1 =>
  ∃ W : P4 → P4 → G0 V → Hp → Prop, (∃ m, W 0 m [] H1) ∧ ∀ i m ys H, W i m ys H → ys.length ≤ sizeLine ∧
    ((J.stop i H ∧ ∀ p, H p = none → Q (.ref p) (upd H p (.lst ys))) ∨
     (J.go i H ∧ ∀ x H', J.yld i H x H' → g x (zC js σ) H' fun nI H2 => Agree (zC js σ) nI ∧ tt nI H2 fun b H3 =>
        if b = true then tm nI H3 ys fun ys' H4 => ∃ m', m' < m ∧ W (i + 1) m' ys' H4 else ∃ m', m' < m ∧ W (i + 1) m' ys H3))
def tLC (js:G0 P4)(wi:TI)(g:TG)(tt:TT)(te:TE):TE:=MG js wi g tt (Bc te)
variable {e tg:D3}{wi:TI}{g:TG}{tt:TT}
theorem Xs {rest:G0 dP}{pos0:Pos}{tm:TM}{use:G6 (G1->Sem Unit)}{Qv:G1->G4->Prop}(hc:X.calm=true)(S:BlockOk X scope js)(hi:PI X tg iter wi)
 (he0:e= .ListComp elt (⟨tg,iter,ifs,0⟩::rest) scope pos)
 (hg: ∀X',jC X scope X'->PG X' tg g)(ht: ∀X',jC X scope X'->PTs X' ifs tt)
 (act:Env->G1->Sem Unit)(hturn: ∀it acc env,iA e 0 it acc env=Ws iter tg ifs it env (act env acc) (.compLoop e 0 it acc env))(he: ∀X',jC X scope X'-> ∀D,MF X' D (act X'.env (.ref D)) tm)
 (hs: ∀x,T4 iter X.env x=pure x){pins:G0 (G5×Obj)}{s:G4}{σ:St}{H:Hp}{Q:VK}(I:Inv X pins σ H s)(h:MG js wi g tt tm σ H Q)
 (fin: ∀ (D C:G5) (H':Hp) (s':G4) (m:Str->G6 G1),s'.heap.Ns C m->(∀h',Z2 C s'.heap h'->Inv X pins σ H' {s' with heap:=h'})->H' C=none->C≠X.env.locals->C ∉ X.fs->X.s₀.heap.objs.size<=C->(∀x c,X.env.cells.lookup x=some c->c≠C)->(∀p∈X.pn++pins,p.1≠C)->
  Q (.ref D) H'->compPost (D8 X.prog X.w) X.A X.xe use Qv (.ref D) C (.ok .next) s'):
 D5 (D8 X.prog X.w) X.A (iU e scope X.env pos0 (newList []) false (M2 iter X.env) use) Qv X.xe s:=by
 have hclos:=vZ (scope:=scope) (env:=X.env) (λp hp e=>I.ok.has p.1 (S.free p hp e));subst he0;refine wpAny_comprehension_free (use:=use) rfl hs hclos S.kind S.locs (thn (hi pins s σ H _ I h) λv s1 h1=>thn h1 λitv s2 h2=> ?_);obtain⟨it,fp,tn,J,H2,e,I2,T,st2,f2,W,⟨m0,w0⟩,turn⟩:=h2;subst e;refine A4 (JQ (λnK nZ n9 nQ n5=> ?_));dsimp only at nZ n9 nQ n5 ⊢;generalize hD:s2.heap.objs.size=D;generalize hH3:s2.heap.push {cls:= .type "list",dict:=none,data:= .seq ([]:G0 G1).toArray}=h3 at nZ n9 nQ n5 ⊢;have sz3:h3.objs.size=D+1:=by rw [<-hH3,cU,hD]
 have up3: ∀b o,s2.heap.get? b=some o->h3.get? b=some o:=λb o e=>hH3 ▸ G7 _ e
 have I3:Inv X pins σ H2 {s2 with heap:=h3}:=I2.kept (t':=s2.toks) up3;have hD3:h3.get? D=some (U4 []):=by rw [<-hH3,<-hD];exact S5 _ rfl
 have fD:YI X pins H2 D:=I2.fpOk (by rw [hD];exact P0 _) (I2.hok.fresh (by rw [hD];exact P0 _));have obf: ∀b∈fp,∃o,s2.heap.get? b=some o/\ ∀v,o.data≠ .cell v:=T.obj _ _ st2;have ltf: ∀b∈fp,b<D:=λb hb=>by obtain⟨o,e,_⟩:=obf b hb;rw [<-hD];exact P5 e
 generalize hC:h3.objs.size=C at nZ nQ n5 ⊢;have CD:C=D+1:=hC.symm.trans sz3;have upC: ∀b o,h3.get? b=some o->nK.get? b=some o:=n9;generalize hX:wy X scope C {s2 with heap:=h3} H2 (fp++ [D])=X';have iX:jC X scope X':=⟨C,_,_,_,hX.symm⟩;have hf: ∀b∈fp++ [D],YI X pins H2 b:=λb hb=>(R5.mp hb).elim (f2 b) λz=>by rw [R6.mp z];exact fD
 have cl: ∀x c,(jA X scope C).lookup x=some c->X.env.cells.lookup x=some c\/C<c:=λx c e=>by
  rcases zB S e with ⟨_,z⟩|⟨_,z⟩
  ·exact .inl z
  ·exact .inr (W2 (nQ x c z).2)
 have olt: ∀x c,X.env.cells.lookup x=some c->c<C:=λx c e=>by obtain⟨v,q⟩:=I3.cell x c e;rw [<-hC];exact q.lt
 have ltb: ∀b∈fp++ [D],b<C:=λb hb=>(R5.mp hb).elim (λz=>by have:=ltf b z;rw [CD];exact fT this) λz=>by rw [R6.mp z,CD];exact K8 _
 have okX:X'.Ok:=by
  subst hX;refine⟨I.ok.mod,S.kind,I.ok.glob,I.ok.blt,bV hC,λx y c e1 e2=> ?_,λx hx=> ?_,λx c z e=> ?_,I.ok.hd,I.ok.frames,.inl rfl,λb hb=>⟨R7 (ltb b hb),λx c e=>(cl x c e).elim (λz=>(hf b hb).2.2.2.2.1 x c z) λz=>F3 (W0 (ltb b hb) z)⟩,
   I3.bs,R8 I.ok.bsz I3.sz,λb o e hb=> ?_,λb hb z=> ?_,I3.stack,I3.stkFree⟩
  ·rcases zB S e1 with ⟨_,z1⟩|⟨_,z1⟩<;>rcases zB S e2 with ⟨_,z2⟩|⟨_,z2⟩
   ·exact I.ok.inj x y c z1 z2
   ·exact absurd (W0 (olt x c z1) (W2 (nQ y c z2).2)) (N6 _)
   ·exact absurd (W0 (olt y c z2) (W2 (nQ x c z1).2)) (N6 _)
   ·exact fE n5 z1 z2
  ·have own:scope.names.lookup x=some .cell-> ∃c,(jA X scope C).lookup x=some c:=λz=>by
    obtain⟨c,hc⟩:=wf (sc:=scope) (n:=C+1) z;exact⟨c,by unfold jA;rw [jD,yf,hc]⟩
   have shr:scope.names.lookup x=some .free-> ∃c,(jA X scope C).lookup x=some c:=λz=>by
    have fm:=zh z;obtain⟨c,hc⟩:=I.ok.has x (S.free _ fm rfl);exact⟨c,yo S hc fm (by rw [z];decide)⟩
   rcases hx with hx|hx
   ·rcases jI (env:=X.env) hx with z|z
    ·exact own z
    ·exact shr z
   ·rcases jI (env:=X.env) hx with z|z<;>exact shr z
  ·have z':scope.names.lookup x=some .cell:=by
    have z2:(scope.names.lookup x==some A7)=true:=z;simpa using z2
   rcases zB S e with ⟨n,_⟩|⟨_,m⟩
   ·exact absurd z' n
   ·show h3.objs.size<=c;rw [hC];exact M3 (W2 (nQ x c m).2)
  ·rcases (hf b hb).2.2.2.1 with z|z
   ·exact I.ok.noex b o e z
   ·exact absurd (P3 (P5 e) (R8 I.ok.bsz z)) (N6 _)
  ·rcases P2.mp (I.stkSub b z) with q|q
   ·exact(hf b hb).2.1 q
   ·exact(hf b hb).2.2.1 q
 -- the block's first state
 have I4:Inv X' [(D,U4 [])] (zC js σ) H2 {s2 with heap:=nK}:=by
  subst hX;have hDC:D≠C:=by rw [CD];exact R7 (K8 _)
  refine⟨okX,rfl,I2.bare,Un.kept (λb u e=>upC b u e),⟨_,nZ,λi x v e1 e2 e3=> ?_⟩,λx c e=> ?_,I3.hok.fresh (bV hC),λx c e=>(cl x c e).elim (λz=>I2.freeC x c z) (λz=>I3.hok.fresh (by rw [<-hC] at z;exact M3 z)),λp hp=> ?_,I3.hok.kept upC,(vN js σ).trans I2.len⟩
  ·have fr:scope.names.lookup x=some .free:=by
    rcases e3 with e3|e3|e3
    ·rcases jI (env:=X.env) e3 with z|z
     ·exact absurd e2 (zX js σ i v (S.js i x e1 (.inl z)))
     ·exact z
    ·rcases jI (env:=X.env) e3 with z|z
     ·exact absurd e2 (zX js σ i v (S.js i x e1 (.inr z)))
     ·exact z
    ·rcases jI (env:=X.env) e3 with z|z<;>exact z
   have fm:=zh fr;obtain⟨m,hm,hl⟩:=I2.loc;have vis:=S.free _ fm rfl;obtain⟨u,r,lk⟩:=hl i x v e1 (yZ js σ i v e2) (.inr vis);have kd:(relabel scope X.env).names.lookup x=some .cell\/(relabel scope X.env).names.lookup x=some .free:=by
    rcases e3 with e3|e3|e3
    ·rcases jI (env:=X.env) e3 with z|z
     ·rw [fr] at z;cases z
     ·exfalso;have z2:=e3
      -- a local's kind stays
      exact absurd e2 (zX js σ i v (S.js i x e1 (.inl (by
       have q: ∀ (l:G0 (Str×NameKind)),(l.map λ(n,k)=>if (k==T7&&X.env.scope.kind== .function&&X.env.kindOf n==some .cell) then (n,A7) else (n,k)).lookup x=some .local->l.lookup x=some .local:=by
        intro l
        induction l with
        |nil=>intro h;simp at h
        |cons p l ih=>
         obtain⟨n,k'⟩:=p;intro h;have h':List.lookup x ((if (k'==T7&&X.env.scope.kind== .function&&X.env.kindOf n==some .cell)=true then (n,A7) else (n,k'))::(l.map λ(n,k)=>if (k==T7&&X.env.scope.kind== .function&&X.env.kindOf n==some .cell) then (n,A7) else (n,k)))=some .local:=h;rw [T9]
         by_cases hc:(k'==T7&&X.env.scope.kind== .function&&X.env.kindOf n==some .cell)=true
         ·rw [S2 hc,T9] at h';cases hx:x==n with
          |true=>rw [hx] at h';cases h'
          |false=>rw [hx] at h';exact ih h'
         ·rw [S6 hc,T9] at h';cases hx:x==n with
          |true=>rw [hx] at h';exact h'
          |false=>rw [hx] at h';exact ih h'
       exact q _ z2))))
    ·exact .inl e3
    ·exact .inr e3
   rcases lk with ⟨k,_⟩|⟨_,c,hc,hcell⟩
   ·have k':X.env.scope.names.lookup x=some .local:=k;rcases vis with z|z<;>(rw [k'] at z;cases z)
   ·refine⟨u,r,.inr ⟨kd,c,yo S hc fm (by rw [fr];decide),?_⟩⟩;obtain⟨o,ho,hd⟩:=hcell;exact⟨o,upC _ _ (up3 _ _ ho),hd⟩
  ·rcases zB S e with ⟨_,z⟩|⟨_,z⟩
   ·obtain⟨v,o,ho,hd⟩:=I2.cell x c z;exact⟨v,o,upC _ _ (up3 _ _ ho),hd⟩
   ·exact⟨none,(nQ x c z).1⟩
  ·have hp':p∈ [(D,U4 [])]:=hp;rcases R6.mp hp' with rfl
   refine⟨upC _ _ hD3,fD.1,hDC,λz=> ?_,λv z=>by cases z⟩;rcases P2.mp (I.stkSub D z) with q|q
   ·exact fD.2.1 q
   ·exact fD.2.2.1 q
 have st4:tn 0 nK:=T.keep _ _ _ st2 λb _ o e=>upC _ _ (up3 _ _ e)
 have eA:X'.A=X.A:=by rw [<-hX];rfl
 have eP:X'.prog=X.prog:=by rw [<-hX];rfl
 have eW:X'.w=X.w:=by rw [<-hX];rfl
 have eK:X'.K=X.K:=by rw [<-hX];rfl
 have eC:X'.calm=true:=by rw [<-hX];exact hc
 have eV:X'.env=h8 scope (jA X scope C) C X.env:=by rw [<-hX];rfl
 have eE:X'.xe=λ_ _=>False:=by rw [<-hX];rfl
 -- what stays true of the iterator's objects
 have stat: ∀ {us:G0 G1} {H':Hp},(∀b∈fp,H' b=none)-> ∀b∈fp,YI X' [(D,U4 us)] H' b:=λ{us H'} hn b hb=>by
  have q:=hf b (C0 _ hb);subst hX;refine⟨hn b hb,R7 (ltb b (C0 _ hb)),λz=> ?_,.inl (C0 _ hb),λx c e=>(cl x c e).elim (λz=>q.2.2.2.2.1 x c z) (λz=>F3 (W0 (ltb b (C0 _ hb)) z)),λp hp=> ?_⟩
  ·rcases P2.mp (I.stkSub b z) with r|r
   ·exact q.2.1 r
   ·exact q.2.2.1 r
  ·have hp':p∈ [(D,U4 us)]:=hp;rcases R6.mp hp' with rfl
   exact F3 (ltf b hb)
 have loop: ∀nP:G4,nP= {s2 with heap:=nK}->
  A9 (D8 X.prog X.w) X.A (.compLoop (.ListComp elt (⟨tg,iter,ifs,0⟩::rest) scope pos) 0 (.ref it) (.ref D) (h8 scope (jA X scope C) C X.env))
   (compPost (D8 X.prog X.w) X.A X.xe use Qv (.ref D) C) nP:=by
  rintro nP rfl;refine Uu (act:=act (h8 scope (jA X scope C) C X.env) (.ref D)) (λn s'=> ∃i ys us H',Vals ys us/\Inv X' [(D,U4 us)] (zC js σ) H' s'/\tn i s'.heap/\(∀b∈fp,H' b=none)/\W i n ys H') (hturn _ _ _) ?_ m0
   ⟨0,[],[],H2,.nil,I4,st4,λb hb=>(f2 b hb).1,w0⟩
  rintro n s5 ⟨i,ys,us,H5,hv5,I5,st5,fr5,w5⟩;obtain⟨hz,tr⟩:=turn i n ys H5 w5;rcases tr with ⟨stop,qn⟩|⟨go,step⟩
  ·have q:=T.done X' eP eW eK eC i _ s5 _ H5 (λ_ _=>False) I5 (stat fr5) st5 stop;rw [eA] at q;refine R9 q (λr s6 ⟨hr,I6⟩=> ?_) λ_ _ z=>z
   subst hr;obtain⟨m6,hm6,_⟩:=I6.loc;rw [eV] at hm6;have zD:=I6.pin (D,U4 us) (D4 _ P7);have HD:H5 D=none:=zD.2.1;have oD:s6.heap.get? D=some (U4 us):=zD.1;have hDC:D≠C:=by rw [CD];exact R7 (K8 _)
   have HC:H5 C=none:=by have z:=I6.free;rw [eV] at z;exact z
   have B:=I6.base;have os6:s6.os=s2.os:=by have z:=I6.os;rw [<-hX] at z;exact z
   have Bu:Un (frs X.stack) (fp++ [D]) H2 H5 h3 s6.heap:=by rw [<-hX] at B;exact B
   have neC: ∀b o,h3.get? b=some o->b≠C:=λb o e=>by rw [<-hC];exact R7 (P5 e)
   refine fin D C (upd H5 D (.lst ys)) s6 m6 hm6 (λh' hs'=> ?_) (by rw [jd (C5 hDC)];exact HC) ?_ ?_ ?_ (λx c e=>R7 (olt x c e)) ?_ (qn D HD)
   ·have hk5:HOk X.prog X.w H5 h':=λb u e=>by
     have z:=I6.hok b u e;rw [eP,eW] at z;refine z.stay (λc v hc q=>hs'.extBut c v ?_ q) (λ_ q=>q) λ_ _ q=>q
     rcases hc with rfl|hc
     ·exact je e HC
     ·exact je hc HC
    refine I3.call' (ch:=fp++ [D]) os6 ⟨λb o e n hb hx=> ?_,λb o e n hb hx=> ?_,λb o e n hx=> ?_,λb o e hx=> ?_,λb xs e=> ?_,λb o u e=> ?_,λb ps e=> ?_⟩ (hk5.track HD ?_) I6.bare λb hb=> ?_
    ·exact hs'.extBut b o (neC b o e) (Bu.keep b o e n hb hx)
    ·obtain⟨sl,q⟩:=Bu.slot b o e n hb hx;exact⟨sl,hs'.extBut b _ (neC b o e) q⟩
    ·rw [jd λz=>hx (by rw [z];exact D4 _ P7)];exact Bu.free b o e n hx
    ·obtain⟨o',q⟩:=Bu.there b o e hx;exact⟨o',hs'.extBut b _ (neC b o e) q⟩
    ·have z:=Bu.tups b xs e;rw [jd (je z HD)];exact z
    ·have z:=Bu.frzs b o u e;rw [jd (je z HD)];exact z
    ·obtain⟨more,z⟩:=Bu.tbls b ps e;exact⟨more,by rw [jd (je z HD)];exact z⟩
    ·exact⟨hz,us,us.length,hv5,hs'.extBut D _ hDC oD⟩
    ·have q:=hf b hb;exact⟨q.2.2.2.1,q.2.1,q.2.2.2.2.1,q.2.2.2.2.2⟩
   ·rw [<-hC];exact F3 I3.lt
   ·exact I3.nofs (bV hC)
   ·rw [<-hC];exact I3.sz
   ·intro p hp;have:=(I3.pin p hp).1;rw [<-hC];exact R7 (P5 this)
  ·have q:=T.item X' eP eW eK eC i _ s5 _ H5 (λ_ _=>False) I5 (stat fr5) st5 go;rw [eA] at q;refine R9 q (λr s6 ⟨u,hr,h6⟩=> ?_) λ_ _ z=>z
   subst hr;refine R9 h6 (λ_ s7 ⟨x,H7,I7,r7,y7,st7,fr7⟩=> ?_) λ_ _ z=>z
   have I7':=I7.pinned (stat fr7) (T.obj _ _ st7);have q7:=hg X' iX _ s7 _ H7 x u _ I7' r7 (step x H7 y7);rw [eP,eW,eA,eV,eE] at q7;refine R9 q7 (λ_ s8 ⟨oA,H8,I8,ag8,q8⟩=> ?_) λ_ _ z=>z
   have q9:=ht X' iX _ s8 oA H8 _ I8 q8;rw [eP,eW,eA,eV,eE] at q9;refine R9 q9 (λok s9 ⟨H9,I9,q9⟩=> ?_) λ_ _ z=>z
   have keepT: ∀ {nE:St} {H':Hp} {s':G4} {us:G0 G1},Inv X' ([(D,U4 us)]++yN fp s7.heap) nE H' s'->tn (i+1) s'.heap/\ ∀b∈fp,H' b=none:=λ{nE H' s' us} I'=>
    ⟨T.keep _ _ _ st7 λb hb o e=>(I'.pin (b,o) (D4 _ (D4 _ (we hb e)))).1,λb hb=>by
     obtain⟨o,e,_⟩:=T.obj _ _ st7 b hb;exact(I'.pin (b,o) (D4 _ (D4 _ (we hb e)))).2.1⟩
   cases ok with
   |false=>
    have q9: ∃m',m'<n/\W (i+1) m' ys H9:=q9;obtain⟨m',hm,w9⟩:=q9;obtain⟨t9,f9⟩:=keepT I9;exact⟨m',hm,i+1,ys,us,H9,hv5,(I9.unpinned).weak ag8.1.symm ag8.2,t9,f9,w9⟩
   |true=>
    have q9:tm oA H9 ys λys' H4=> ∃m',m'<n/\W (i+1) m' ys' H4:=q9
    have DX:D∈X'.ex:=by rw [<-hX];exact D4 _ P7
    have pD: ∀p∈X'.pn++yN fp s7.heap,p.1≠D:=λp hp=>by
     have hp':p∈yN fp s7.heap:=by rw [<-hX] at hp;simpa [wy] using hp
     exact R7 (ltf _ (JH hp').1)
    have cD: ∀x c,X'.env.cells.lookup x=some c->c≠D:=λx c e=>by
     rw [eV] at e;exact(cl x c e).elim (λz=>fD.2.2.2.2.1 x c z) λz=>F3 (W0 (by rw [CD];exact K8 _) z)
    have q10:=he X' iX D _ s9 oA H9 ys us _ I9 hv5 hz DX cD pD q9;rw [eP,eW,eA,eV] at q10;show D5 _ _ (act _ _) _ _ s9;refine R9 q10 (λ_ s10 ⟨ys',us',H10,hv10,I10,m',hm,w10⟩=> ?_) λ_ _ z=>z
    obtain⟨t10,f10⟩:=keepT I10;exact⟨m',hm,i+1,ys',us',H10,hv10,(I10.unpinned).weak ag8.1.symm ag8.2,t10,f10,w10⟩
 exact codeAny_compStart_list (loop _ rfl) (T.self X.A 0 _ _ _ st4 (loop _ rfl))
theorem MH {te:TE}(hc:X.calm=true)(S:BlockOk X scope js)(hi:PI X tg iter wi)
 (hg: ∀X',jC X scope X'->PG X' tg g)(ht: ∀X',jC X scope X'->PTs X' ifs tt)(he: ∀X',jC X scope X'->PE X' elt te)
 (hs: ∀x,T4 iter X.env x=pure x:=by intro _;rfl):PE X (.ListComp elt [⟨tg,iter,ifs,0⟩] scope pos) (tLC js wi g tt te):=by
 intro pins s σ H Q I h;rw [eval_ListComp];exact Xs (use:=none) hc S hi rfl hg ht (Wt elt) (λ_ _ _=>rfl) (λX' hX D=>Wu (by obtain⟨_,_,_,_,rfl⟩:=hX;rfl) (he X' hX)) hs I h
  λD C H' s' m hn hk _ _ _ _ _ _ q=>⟨m,hn,λh' hs'=>⟨.ref D,H',hk h' hs',rfl,q⟩⟩
theorem Qs {rest:G0 dP}{pos' spos:Pos}{g':TG}{tm:TM}(hc:X.calm=true)(S:BlockOk X scope js)(hi:PI X tg iter wi)
 (he0:e= .ListComp elt (⟨tg,iter,ifs,0⟩::rest) scope pos)(hg: ∀X',jC X scope X'->PG X' tg g)(ht: ∀X',jC X scope X'->PTs X' ifs tt)
 (act:Env->G1->Sem Unit)(hturn: ∀it acc env,iA e 0 it acc env=Ws iter tg ifs it env (act env acc) (.compLoop e 0 it acc env))(he: ∀X',jC X scope X'-> ∀D,MF X' D (act X'.env (.ref D)) tm)
 (hg':PG X (.Name x pos') g')(hsw:E1 e (some (.Name x pos')) spos.line X.env=pure true)
 (hs: ∀x,T4 iter X.env x=pure x):PS X (.Assign [.Name x pos'] e spos) (XV (MG js wi g tt tm) g'):=by
 intro pins s σ H Dn I h;rw [exec_Assign_Name_used _ _ _ _ hsw];refine wpAny_bind (Q3 (wpAny_bind ?_));subst he0;rw [arm_evalThenUse_ListComp];show D5 _ X.A (do let _ <-iU (.ListComp elt (⟨tg,iter,ifs,0⟩::rest) scope pos) scope X.env _ (newList []) false (M2 iter X.env) (some (Y3 (.Name x pos') X.env))) _ _ s;refine wpAny_bind (R9 (Xs (use:=some (Y3 (.Name x pos') X.env)) (Qv:=λ_ s'=>SP X pins Dn .next s') hc S hi rfl hg ht act hturn he hs I h ?_) (λ_ s' hq=>P6 (P6 hq)) λ_ _ e=>e);intro D C H' s' m hn hk HC nL nf sz ncell npin q;show D5 _ X.A (Y3 (.Name x pos') X.env (.ref D)) _ _ s';obtain⟨o,es,ep,ho,hd,hr⟩:=id hn;have I1:Inv X pins σ H' s':=hk s'.heap (Heap.SameBut.refl ..);have I2:Inv X (pins++ [(C,o)]) σ H' s':=I1.pins_of λp hp=>by
  rcases R5.mp hp with z|z
  ·exact I1.pin p (D4 _ z)
  ·rcases R6.mp z with rfl
   exact⟨ho,HC,nL,nf,λv z=>by rw [hd] at z;cases z⟩
 refine R9 (hg' _ s' σ H' (.ref D) (.ref D) _ I2 rfl q) (λ_ s3 ⟨nJ,H3,I3,q3⟩=> ?_) λ_ _ z=>z
 have pC:=I3.pin (C,o) (D4 _ (D4 _ P7));refine⟨m,hn.at' λo' e'=> ?_,λh' hs'=> ?_⟩
 ·rw [ho] at e';cases e';exact pC.1
 ·exact⟨nJ,H3,(I3.unpinned).turned (t':=s3.toks) (it:=C) (λb o hb e=>hs'.extBut b o hb e) pC.2.1 nL (.inr sz) ncell npin,q3⟩
theorem Uv {pos' spos:Pos}{g':TG}{te:TE}(hc:X.calm=true)(S:BlockOk X scope js)(hi:PI X tg iter wi)
 (hg: ∀X',jC X scope X'->PG X' tg g)(ht: ∀X',jC X scope X'->PTs X' ifs tt)(he: ∀X',jC X scope X'->PE X' elt te)
 (hg':PG X (.Name x pos') g')(hsw:E1 (.ListComp elt [⟨tg,iter,ifs,0⟩] scope pos) (some (.Name x pos')) spos.line X.env=pure true)
 (hs: ∀x,T4 iter X.env x=pure x:=by intro _;rfl):PS X (.Assign [.Name x pos'] (.ListComp elt [⟨tg,iter,ifs,0⟩] scope pos) spos) (XV (tLC js wi g tt te) g'):=
 Qs hc S hi rfl hg ht (Wt elt) (λ_ _ _=>rfl) (λX' hX D=>Wu (by obtain⟨_,_,_,_,rfl⟩:=hX;rfl) (he X' hX)) hg' hsw hs
inductive D where
 |non|bl (b:B3)|int (i:P9)|str (x:Str)|tup (ds:G0 D)|lst (a:G5)|dic (x:Str) (i:P9)|dct (a:G5)|scr (ns:G0 P9)|exc (C:G5)|fn (a:G5)|exf (C:G5) (fs:G0 (Str×P9))
def Scr (K:G2)(H:Hp)(a:G5)(ns:G0 P9):Prop:=
 (∃o,H a=some (.frz o (.lst (ns.map V.int))))\/
  ∃ (o:Obj) (its:B7 G1) (n:P4),K.lookup a=some o/\o.cls= .type "list" /\o.dict=none/\o.data= .seq its n/\its.size<=sizeLine/\Vals (ns.map V.int) its.toList
variable {K:G2}
theorem Scr.sq {ns:G0 P9}(h:Scr K H a ns):SqL K H a (ns.map V.int):=h.elim (λz=> .inl (.inr z)) .inr
def FldH (H:Hp)(dx:G6 G5)(fs:G0 (Str×P9)):Prop:=fs= []\/ ∃D oD,dx=some D/\H D=some (.frz oD (.xd (fs.map λp=>(p.1,V.int p.2))))
mutual
def RelD (K:G2)(H:Hp):D->V->Prop
 | .non,v=>v= .non
 | .bl b,v=>v= .bl b
 | .int i,v=>v= .int i
 | .str x,v=>v= .str x
 | .tup ds,v=> ∃a vs,v= .ref a/\H a=some (.tup vs)/\RelDs K H ds vs
 | .lst a,v=>v= .ref a/\ ∃vs,H a=some (.lst vs)
 | .dic x i,v=> ∃a,v= .ref a/\H a=some (.dK [(K6 x,V.int i)])
 | .dct a,v=>v= .ref a
 | .scr ns,v=> ∃a,v= .ref a/\Scr K H a ns
 | .exc C,v=> ∃x o vs,v= .ref x/\H x=some (.frz o (.own 0))/\o.cls= .ref C/\o.data= .fields vs
 | .fn a,v=>v= .ref a/\N4 K (.ref a)=true
 | .exf C fs,v=> ∃x o vs,v= .ref x/\H x=some (.frz o (.own 0))/\o.cls= .ref C/\o.data= .fields vs/\FldH H o.dict fs
def RelDs (K:G2)(H:Hp):G0 D->G0 V->Prop
 | [],vs=>vs= []
 |d::ds,vs=> ∃v r,vs=v::r/\RelD K H d v/\RelDs K H ds r
end
structure Kept (H H':Hp):Prop where
 tup: ∀a xs,H a=some (.tup xs)->H' a=some (.tup xs)
 lst: ∀a xs,H a=some (.lst xs)-> ∃ys,H' a=some (.lst ys)
 dic: ∀a x i,H a=some (.dK [(K6 x,V.int i)])->H' a=some (.dK [(K6 x,V.int i)])
 frz: ∀a o u,H a=some (.frz o u)->H' a=some (.frz o u)
variable {H':Hp}
theorem FldH.mono (k:Kept H H'){dx:G6 G5}{fs:G0 (Str×P9)}(f:FldH H dx fs):FldH H' dx fs:=f.imp id λ⟨D,oD,e,h⟩=>⟨D,oD,e,k.frz _ _ _ h⟩
theorem Kept.refl (H:Hp):Kept H H:=⟨λ_ _ h=>h,λ_ xs h=>⟨xs,h⟩,λ_ _ _ h=>h,λ_ _ _ h=>h⟩
theorem Kept.trans {A B C:Hp}(x:Kept A B)(y:Kept B C):Kept A C:=
 ⟨λa xs h=>y.tup a xs (x.tup a xs h),λa xs h=>let ⟨_,e⟩:=x.lst a xs h;y.lst a _ e,λa k i h=>y.dic a k i (x.dic a k i h),λa o u h=>y.frz a o u (x.frz a o u h)⟩
variable {p:G5}
theorem Kept.new (h:H p=none):Kept H (upd H p o):=
 ⟨λa xs e=>by rw [jd (je e h)];exact e,λa xs e=>⟨xs,by rw [jd (je e h)];exact e⟩,λa k i e=>by rw [jd (je e h)];exact e,λa o u e=>by rw [jd (je e h)];exact e⟩
theorem Kept.put {xs ys:G0 V}(h:H p=some (.lst xs)):Kept H (upd H p (.lst ys)):=
 ⟨λa zs e=>by rw [jd (WS e h (by intro z;cases z))];exact e,λa zs e=>by
  by_cases q:a=p
  ·subst q;exact⟨ys,jf⟩
  ·exact⟨zs,by rw [jd q];exact e⟩,
  λa k i e=>by rw [jd (WS e h (by intro z;cases z))];exact e,λa o u e=>by rw [jd (WS e h (by intro z;cases z))];exact e⟩
def DObj (o:HO):Prop:=(∃kvs:G0 (P9×V),o= .dK (kvs.map λp=>((aX p.1:Key),p.2)))\/ ∃φ,o= .ext φ
theorem DObj.no (d:DObj o):(∀xs,o≠ .tup xs)/\(∀xs,o≠ .lst xs)/\(∀x i,o≠ .dK [(K6 x,V.int i)])/\(∀p u,o≠ .frz p u)/\ ∀ps,o≠ .tbl ps:=by
 rcases d with ⟨kvs,rfl⟩|⟨φ,rfl⟩
 ·refine⟨λ_ z=>(nomatch z),λ_ z=>(nomatch z),λx i z=> ?_,λ_ _ z=>(nomatch z),λ_ z=>(nomatch z)⟩;injection z with z
  cases kvs with
  |nil=>cases z
  |cons p r=>injection z with z _;injection z with z _;cases z
 ·exact⟨λ_ z=>(nomatch z),λ_ z=>(nomatch z),λ_ _ z=>(nomatch z),λ_ _ z=>(nomatch z),λ_ z=>(nomatch z)⟩
mutual
theorem RelD.mono (k:Kept H H'): ∀ {d:D} {v:V},RelD K H d v->RelD K H' d v
 | .non,_,h=>h
 | .bl _,_,h=>h
 | .int _,_,h=>h
 | .str _,_,h=>h
 | .tup ds,v,h=>by
  obtain⟨a,vs,e,h1,h2⟩:=(show ∃a vs,v= .ref a/\H a=some (.tup vs)/\RelDs K H ds vs from h);exact⟨a,vs,e,k.tup _ _ h1,RelDs.mono k h2⟩
 | .lst a,v,h=>by
  obtain⟨e,vs,h1⟩:=(show v= .ref a/\ ∃vs,H a=some (.lst vs) from h);exact⟨e,k.lst _ _ h1⟩
 | .dic x i,v,h=>by
  obtain⟨a,e,h1⟩:=(show ∃a,v= .ref a/\H a=some (.dK [(K6 x,V.int i)]) from h);exact⟨a,e,k.dic _ _ _ h1⟩
 | .dct a,v,h=>h
 | .scr ns,v,h=>by
  obtain⟨a,e,h1⟩:=(show ∃a,v= .ref a/\Scr K H a ns from h);exact⟨a,e,h1.elim (λ⟨o,z⟩=> .inl ⟨o,k.frz _ _ _ z⟩) .inr⟩
 | .exc C,v,h=>by
  obtain⟨x,o,vs,e,h1,r⟩:=(show ∃x o vs,v= .ref x/\H x=some (.frz o (.own 0))/\o.cls= .ref C/\o.data= .fields vs from h);exact⟨x,o,vs,e,k.frz _ _ _ h1,r⟩
 | .fn a,v,h=>h
 | .exf C fs,v,h=>by
  obtain⟨x,o,vs,e,h1,c,d,f⟩:=(show ∃x o vs,v= .ref x/\H x=some (.frz o (.own 0))/\o.cls= .ref C/\o.data= .fields vs/\FldH H o.dict fs from h);exact⟨x,o,vs,e,k.frz _ _ _ h1,c,d,f.mono k⟩
theorem RelDs.mono (k:Kept H H'): ∀ {ds:G0 D} {vs:G0 V},RelDs K H ds vs->RelDs K H' ds vs
 | [],_,h=>h
 |d::ds,vs,h=>by
  obtain⟨v,r,e,h1,h2⟩:=(show ∃v r,vs=v::r/\RelD K H d v/\RelDs K H ds r from h);exact⟨v,r,e,RelD.mono k h1,RelDs.mono k h2⟩
end
section
variable {K:G2}{H:Hp}
theorem RelDs.nil:RelDs K H [] []:=rfl
theorem RelDs.cons {d:D}{v:V}{ds:G0 D}{vs:G0 V}(h:RelD K H d v)(t:RelDs K H ds vs):RelDs K H (d::ds) (v::vs):=⟨v,vs,rfl,h,t⟩
theorem RelDs.length: ∀ {ds:G0 D} {vs:G0 V},RelDs K H ds vs->ds.length=vs.length
 | [],_,h=>by cases (show _= [] from h);rfl
 |d::ds,vs,h=>by
  obtain⟨v,r,e,_,h2⟩:=(show ∃v r,vs=v::r/\RelD K H d v/\RelDs K H ds r from h);subst e;simp [RelDs.length h2]
theorem RelDs.append: ∀ {ds es:G0 D} {vs us:G0 V},RelDs K H ds vs->RelDs K H es us->RelDs K H (ds++es) (vs++us)
 | [],_,_,_,h,g=>by cases (show _= [] from h);exact g
 |d::ds,es,vs,us,h,g=>by
  obtain⟨v,r,e,h1,h2⟩:=(show ∃v r,vs=v::r/\RelD K H d v/\RelDs K H ds r from h);subst e;exact .cons h1 (RelDs.append h2 g)
theorem RelDs.get: ∀ {ds:G0 D} {vs:G0 V} {i:P4} {d:D},RelDs K H ds vs->ds[i]? =some d-> ∃v,vs[i]? =some v/\RelD K H d v
 |d'::ds,vs,i,d,h,e=>by
  obtain⟨v,r,q,h1,h2⟩:=(show ∃v r,vs=v::r/\RelD K H d' v/\RelDs K H ds r from h);subst q;cases i with
  |zero=>simp at e;subst e;exact⟨v,rfl,h1⟩
  |succ i=>
   obtain⟨u,q1,q2⟩:=RelDs.get h2 (i:=i) (d:=d) (by simpa using e);exact⟨u,by simpa using q1,q2⟩
theorem RelDs.take (n:P4): ∀ {ds:G0 D} {vs:G0 V},RelDs K H ds vs->RelDs K H (ds.take n) (vs.take n):=by
 induction n with
 |zero=>intro ds vs _;exact(rfl:RelDs K H [] [])
 |succ n ih=>
  intro ds vs h;cases ds with
  |nil=>cases (show vs= [] from h);exact .nil
  |cons d ds=>
   obtain⟨v,r,e,h1,h2⟩:=(show ∃v r,vs=v::r/\RelD K H d v/\RelDs K H ds r from h);subst e;exact .cons h1 (ih h2)
theorem RelDs.drop (n:P4): ∀ {ds:G0 D} {vs:G0 V},RelDs K H ds vs->RelDs K H (ds.drop n) (vs.drop n):=by
 induction n with
 |zero=>intro ds vs h;exact h
 |succ n ih=>
  intro ds vs h;cases ds with
  |nil=>cases (show vs= [] from h);exact .nil
  |cons d ds=>
   obtain⟨v,r,e,h1,h2⟩:=(show ∃v r,vs=v::r/\RelD K H d v/\RelDs K H ds r from h);subst e;exact ih h2
theorem RelDs.set {d:D}{v:V}(q:RelD K H d v): ∀ {ds:G0 D} {vs:G0 V} (i:P4),RelDs K H ds vs->RelDs K H (ds.set i d) (vs.set i v)
 | [],_,_,h=>by cases (show _= [] from h);exact .nil
 |e::ds,vs,i,h=>by
  obtain⟨u,r,z,h1,h2⟩:=(show ∃u r,vs=u::r/\RelD K H e u/\RelDs K H ds r from h);subst z;cases i with
  |zero=>exact .cons q h2
  |succ i=>exact .cons h1 (RelDs.set q i h2)
theorem yg: ∀ns:G0 P9,RelDs K H (ns.map D.int) (ns.map V.int)
 | []=> .nil
 |n::ns=> .cons rfl (yg ns)
end
inductive DC where
 |ik (kv:G0 (P9×D))
 |tk (ep:P4) (kv:G0 (G0 (G0 P9)×D))
structure HD where
 ls:G5->G6 (G0 D)
 dc:G5->G6 DC
instance:CoeFun HD λ_=>G5->G6 (G0 D):=⟨HD.ls⟩
def zA (h:HD)(a:G5)(ds:G0 D):HD:=⟨λb=>if b=a then some ds else h b,h.dc⟩
def Ja (h:HD)(a:G5):HD:=⟨λb=>if b=a then none else h b,h.dc⟩
variable {h:HD}{ds:G0 D}
theorem ja:zA h a ds a=some ds:=S2 rfl
theorem zc {b:G5}(e:b≠a):zA h a ds b=h b:=S6 e
theorem wL (e:h a=none):Ja (zA h a ds) a=h:=by
 obtain⟨l,d⟩:=h;refine congrArg (HD.mk · d) ?_
 funext b
 show (if b=a then none else if b=a then some ds else l b)=l b
 by_cases q:b=a
 ·subst q;rw [S2 rfl];exact e.symm
 ·rw [S6 q,S6 q]
def LN:G0 Str:= ["law","_law_right","_law_words","_law_other_words","_law_many_right","_law_all","_law_told_row","_law_all_right","_law_desk_right","_law_signs_right","_law_lists_right","_law_text_right"]
def TabK (K:G2)(P:G5):Prop:= ∃x∈LN,∃c,bH K x=some (c,P)
def CodesOk (H:Hp)(ps:B7 G1):Prop:=X5 ps.toList/\ ∀pos cv,bM pos ps.toList=some cv-> ∃ (c:G5) (o:Obj) (vs:B7 G1) (q:Str) (t:Tok),cv= .ref c/\H c=some (.frz o (.own 0))/\o.data= .fields vs/\vs[1]? =some (.str q t)
def CTabs (K:G2)(H:Hp):Prop:= ∀P,TabK K P-> ∃ps,H P=some (.tbl ps)/\CodesOk H ps
theorem CodesOk.mono {ps:B7 G1}(k: ∀a o u,H a=some (.frz o u)->H' a=some (.frz o u))(c:CodesOk H ps):CodesOk H' ps:=
 ⟨c.1,λpos cv e=>let ⟨c',o,vs,q,t,e1,e2,r⟩:=c.2 pos cv e;⟨c',o,vs,q,t,e1,k _ _ _ e2,r⟩⟩
theorem CTabs.mono (x:CTabs K H)(k: ∀a o u,H a=some (.frz o u)->H' a=some (.frz o u))(kt: ∀a ps,H a=some (.tbl ps)->H' a=some (.tbl ps)):CTabs K H':=λP hP=>
 let ⟨ps,e,c⟩:=x P hP;⟨ps,kt _ _ e,c.mono k⟩
theorem CTabs.new (x:CTabs K H)(e:H p=none):CTabs K (upd H p o):=
 x.mono (λa o' u h=>by rw [jd (je h e)];exact h) λa ps h=>by rw [jd (je h e)];exact h
theorem CTabs.put {xs:G0 V}(x:CTabs K H)(e:H p=some (.lst xs)):CTabs K (upd H p o):=
 x.mono (λa o' u h=>by rw [jd (WS h e (by intro z;cases z))];exact h) λa ps h=>by rw [jd (WS h e (by intro z;cases z))];exact h
def Qt (T:G0 (G0 P9)):P9:=lZ (aU (T.map λr=>lZ (aU (r.map hashInt))))
def BB (a:G5)(ep:P4)(xs:G0 (G0 (G0 P9)×G5×V)):HO:= .ext λh=>(a==U6)=false/\xs.length<=sizeLine/\ ∃ys:G0 (G0 (G0 P9)×G5×G1),Paired (λp q=>p.1=q.1/\p.2.1=q.2.1/\RelV p.2.2 q.2.2) xs ys/\
 ∃o es,h.get? a=some o/\o.ExactDict/\o.data= .dict es ep/\es.toList=ys.map λx=>⟨Qt x.1,.ref x.2.1,x.2.2⟩
def DRel (K:G2)(H:Hp)(a:G5):DC->Prop
 | .ik kv=> ∃kvs:G0 (P9×V),H a=some (.dK (kvs.map λp=>((aX p.1:Key),p.2)))/\kv.map (·.1)=kvs.map (·.1)/\RelDs K H (kv.map (·.2)) (kvs.map (·.2))
 | .tk ep kv=> ∃xs:G0 (G0 (G0 P9)×G5×V),H a=some (BB a ep xs)/\(kv.map (·.1)).Nodup/\kv.map (·.1)=xs.map (·.1)/\(∀x∈xs,RelD K H (.tup (x.1.map λr=> .tup (r.map D.int))) (.ref x.2.1))/\RelDs K H (kv.map (·.2)) (xs.map (·.2.2))
theorem DRel.obj: ∀ {c:DC},DRel K H a c-> ∃o,H a=some o/\DObj o
 | .ik _,⟨kvs,e,_⟩=>⟨_,e,.inl ⟨kvs,rfl⟩⟩
 | .tk _ _,⟨xs,e,_⟩=>⟨_,e,.inr ⟨_,rfl⟩⟩
theorem DRel.mono (k:Kept H H')(z: ∀o,H a=some o->H' a=some o): ∀ {c:DC},DRel K H a c->DRel K H' a c
 | .ik _,⟨kvs,e,q,r⟩=>⟨kvs,z _ e,q,r.mono k⟩
 | .tk _ _,⟨xs,e,n,q,t,r⟩=>⟨xs,z _ e,n,q,λx hx=>(t x hx).mono k,r.mono k⟩
structure RelH (K:G2)(h:HD)(H:Hp):Prop where
 ls: ∀a ds,h a=some ds-> ∃vs,H a=some (.lst vs)/\RelDs K H ds vs
 tb:CTabs K H
 dc: ∀a c,h.dc a=some c->DRel K H a c
instance {K:G2}{h:HD}{H:Hp}:CoeFun (RelH K h H) λ_=> ∀a ds,h a=some ds-> ∃vs,H a=some (.lst vs)/\RelDs K H ds vs:=⟨RelH.ls⟩
structure Sub (h h':HD):Prop where
 ls: ∀a ds,h a=some ds->h' a=some ds
 dc: ∀a c,h.dc a=some c->h'.dc a=some c
instance {h h':HD}:CoeFun (Sub h h') λ_=> ∀a ds,h a=some ds->h' a=some ds:=⟨Sub.ls⟩
theorem Sub.refl (h:HD):Sub h h:=⟨λ_ _ e=>e,λ_ _ e=>e⟩
theorem Sub.trans {a b c:HD}(x:Sub a b)(y:Sub b c):Sub a c:=⟨λd ds e=>y d ds (x d ds e),λd ds e=>y.dc d ds (x.dc d ds e)⟩
theorem Sub.drop (h:HD)(a:G5):Sub (Ja h a) h:=⟨λb ds e=>by
 have e:(if b=a then none else h b)=some ds:=e;split at e
 ·cases e
 ·exact e,λ_ _ e=>e⟩
theorem Sub.new (e:h p=none):Sub h (zA h p ds):=⟨λa es q=>(by
 rw [zc];exact q;intro z;subst z;rw [e] at q;cases q),λ_ _ e=>e⟩
section
variable {K:G2}{h h':HD}{H:Hp}
theorem RelH.sub (r:RelH K h H)(s:Sub h' h):RelH K h' H:=⟨λa ds e=>r a ds (s a ds e),r.tb,λa c e=>r.dc a c (s.dc a c e)⟩
theorem RelH.free (r:RelH K h H){p:G5}(e:H p=none):h p=none:=by
 cases q:h p with
 |none=>rfl
 |some ds=>obtain⟨vs,z,_⟩:=r p ds q;rw [e] at z;cases z
theorem RelH.dcN (r:RelH K h H){p:G5}{o:HO}(e:H p=none): ∀a c,h.dc a=some c->DRel K (upd H p o) a c:=λa c q=>
 (r.dc a c q).mono (.new e) λu z=>by rw [jd (je z e)];exact z
theorem RelH.new (r:RelH K h H){p:G5}{o:HO}(e:H p=none):RelH K h (upd H p o):=⟨λa ds q=>by
 obtain⟨vs,z,w⟩:=r a ds q;exact⟨vs,by rw [jd (je z e)];exact z,w.mono (.new e)⟩,r.tb.new e,r.dcN e⟩
theorem RelH.newL (r:RelH K h H){p:G5}{ds:G0 D}{vs:G0 V}(e:H p=none)(q:RelDs K H ds vs):RelH K (zA h p ds) (upd H p (.lst vs)):=⟨λa es z=>by
 by_cases w:a=p
 ·subst w;rw [ja] at z;cases z;exact⟨vs,jf,q.mono (.new e)⟩
 ·rw [zc w] at z;obtain⟨us,z1,z2⟩:=r a es z;exact⟨us,by rw [jd w];exact z1,z2.mono (.new e)⟩,r.tb.new e,r.dcN e⟩
theorem RelH.put (r:RelH K h H){p:G5}{ds:G0 D}{vs us:G0 V}(e:H p=some (.lst us))(q:RelDs K H ds vs):RelH K (zA h p ds) (upd H p (.lst vs)):=⟨λa es z=>by
 by_cases w:a=p
 ·subst w;rw [ja] at z;cases z;exact⟨vs,jf,q.mono (.put e)⟩
 ·rw [zc w] at z;obtain⟨us,z1,z2⟩:=r a es z;exact⟨us,by rw [jd w];exact z1,z2.mono (.put e)⟩,r.tb.put e,λa c z=>(r.dc a c z).mono (.put e) λo w=>by
   obtain⟨u,w',d⟩:=(r.dc a c z).obj;rw [jd (WS w' e (d.no.2.1 _))];exact w⟩
end
abbrev SD:=G0 (G6 D)
def RelS (K:G2)(H:Hp)(nF:SD)(σ:St):Prop:=nF.length=σ.length/\ ∀ (i:P4) (d:D),nF[i]? =some (some d)-> ∃v,σ[i]? =some (some v)/\RelD K H d v
theorem RelS.mono {nF:SD}(r:RelS K H nF σ)(k:Kept H H'):RelS K H' nF σ:=⟨r.1,λi d e=>let ⟨v,a,b⟩:=r.2 i d e;⟨v,a,b.mono k⟩⟩
theorem RelS.set {nF:SD}{d:D}{v:V}(r:RelS K H nF σ)(q:RelD K H d v)(i:P4):RelS K H (nF.set i (some d)) (σ.set i (some v)):=⟨by simp [r.1],λj e h=>by
 by_cases z:i=j
 ·subst z;rw [W1] at h ⊢
  by_cases hl:i<nF.length
  ·rw [S2 rfl,S2 hl] at h;rw [S2 rfl,S2 (by rw [<-r.1];exact hl)];cases h;exact⟨v,rfl,q⟩
  ·rw [S2 rfl,S6 hl] at h;cases h
 ·rw [C3 z] at h ⊢;exact r.2 j e h⟩
theorem RelS.clear1 {nF:SD}(r:RelS K H nF σ)(i:P4):RelS K H (nF.set i none) (σ.set i none):=⟨by simp [r.1],λj e h=>by
 by_cases z:i=j
 ·subst z;rw [W1] at h;split at h
  ·split at h<;>cases h
  ·contradiction
 ·rw [C3 z] at h ⊢;exact r.2 j e h⟩
def zl:G0 P4->SD->SD
 | [],σ=>σ
 |j::js,σ=>zl js (σ.set j none)
theorem RelS.clear: ∀ (js:G0 P4) {nF:SD} {σ:St},RelS K H nF σ->RelS K H (zl js nF) (zC js σ)
 | [],_,_,r=>r
 |j::js,_,_,r=>RelS.clear js (r.clear1 j)
abbrev KD:=D->HD->Prop
abbrev TED:=SD->HD->KD->Prop
abbrev TTD:=SD->HD->(B3->HD->Prop)->Prop
abbrev TAD:=SD->HD->(G0 D->HD->Prop)->Prop
abbrev RD2:=D->D->HD->KD->Prop
abbrev RDn:=G0 D->HD->KD->Prop
structure EndsD where
 nx:SD->HD->Prop
 rt:KD
 bk:SD->HD->Prop:=λ_ _=>False
 ct:SD->HD->Prop:=λ_ _=>False
abbrev TSD:=EndsD->SD->HD->Prop
abbrev TGD:=D->SD->HD->(SD->HD->Prop)->Prop
def Xt (K:G2)(H:Hp)(Qd:KD)(Q:VK):Prop:= ∀d v h' H',Kept H H'->RelH K h' H'->RelD K H' d v->Qd d h'->Q v H'
def LE (K:G2)(t:TED):TE:=λσ H Q=> ∃nF h Qd,RelS K H nF σ/\RelH K h H/\t nF h Qd/\Xt K H Qd Q
def LT (K:G2)(t:TTD):TT:=λσ H Q=> ∃nF h Qd,RelS K H nF σ/\RelH K h H/\t nF h Qd/\ ∀b h' H',Kept H H'->RelH K h' H'->Qd b h'->Q b H'
def LA (K:G2)(t:TAD):TA:=λσ H Q=> ∃nF h Qd,RelS K H nF σ/\RelH K h H/\t nF h Qd/\ ∀ds vs h' H',Kept H H'->RelH K h' H'->RelDs K H' ds vs->Qd ds h'->Q vs H'
def LR (K:G2)(f:RD2):R2:=λx y H Q=> ∃dx dy h Qd,RelD K H dx x/\RelD K H dy y/\RelH K h H/\f dx dy h Qd/\Xt K H Qd Q
def LC (K:G2)(f:RDn):G0 V->Hp->VK->Prop:=λxs H Q=> ∃ds h Qd,RelDs K H ds xs/\RelH K h H/\f ds h Qd/\Xt K H Qd Q
def LG (K:G2)(g:TGD):TG:=λv σ H Q=> ∃d nF h Qd,RelD K H d v/\RelS K H nF σ/\RelH K h H/\g d nF h Qd/\ ∀nH h' nE H',Kept H H'->RelS K H' nH nE->RelH K h' H'->Qd nH h'->Q nE H'
def LS (K:G2)(t:TSD):TS:=λnO σ H=> ∃nF h Dd,RelS K H nF σ/\RelH K h H/\t Dd nF h/\
 (∀nH h' nE H',Kept H H'->RelS K H' nH nE->RelH K h' H'->Dd.nx nH h'->nO.nx nE H')/\Xt K H Dd.rt nO.rt/\
 (∀nH h' nE H',Kept H H'->RelS K H' nH nE->RelH K h' H'->Dd.bk nH h'->nO.bk nE H')/\(∀nH h' nE H',Kept H H'->RelS K H' nH nE->RelH K h' H'->Dd.ct nH h'->nO.ct nE H')
theorem PE.imp {t t':TE}(h:PE X e t)(i: ∀σ H Q,t' σ H Q->t σ H Q):PE X e t':=λpins s σ H Q I q=>h pins s σ H Q I (i σ H Q q)
theorem PT.imp {t t':TT}(h:PT X e t)(i: ∀σ H Q,t' σ H Q->t σ H Q):PT X e t':=λpins s σ H Q I q=>h pins s σ H Q I (i σ H Q q)
theorem PW.imp {t t':TT}(h:PW X e t)(i: ∀σ H Q,t' σ H Q->t σ H Q):PW X e t':=λwh pins s σ H Q I q=>h wh pins s σ H Q I (i σ H Q q)
theorem PA.imp {e:G0 D3}{t t':TA}(h:PA X e t)(i: ∀σ H Q,t' σ H Q->t σ H Q):PA X e t':=λpos pins s σ H Q I q=>h pos pins s σ H Q I (i σ H Q q)
theorem PS.imp {e:M4}{t t':TS}(h:PS X e t)(i: ∀D σ H,t' D σ H->t D σ H):PS X e t':=λpins s σ H D I q=>h pins s σ H D I (i D σ H q)
theorem PSs.imp {e:G0 M4}{t t':TS}(h:PSs X e t)(i: ∀D σ H,t' D σ H->t D σ H):PSs X e t':=λpins s σ H D I q=>h pins s σ H D I (i D σ H q)
theorem PG.imp {t t':TG}(h:PG X e t)(i: ∀v σ H Q,t' v σ H Q->t v σ H Q):PG X e t':=λpins s σ H v u Q I r q=>h pins s σ H v u Q I r (i v σ H Q q)
theorem OpR.imp {f:G1->G1->Sem G1}{r r':R2}(h:OpR X f r)(i: ∀x y H Q,r' x y H Q->r x y H Q):OpR X f r':=λpins s σ H x y v u Q I a b q=>h pins s σ H x y v u Q I a b (i x y H Q q)
theorem CallR.imp {f:G1}{r r':G0 V->Hp->VK->Prop}(h:CallR X f r)(i: ∀xs H Q,r' xs H Q->r xs H Q):CallR X f r':=λpins s σ H xs us Q I a q=>h pins s σ H xs us Q I a (i xs H Q q)
def Wv (i:P4):TED:=λσ h Q=> ∃d,σ[i]? =some (some d)/\Q d h
def dC (d:D):TED:=λ_ h Q=>Q d h
def dOp (f:RD2)(ta tb:TED):TED:=λσ h Q=>ta σ h λx h1=>tb σ h1 λy h2=>f x y h2 Q
def Jb:TAD:=λ_ h Q=>Q [] h
def jU (ta:TED)(tr:TAD):TAD:=λσ h Q=>ta σ h λx h1=>tr σ h1 λxs h2=>Q (x::xs) h2
def Pb (t:TAD):TED:=λσ h Q=>t σ h λds h1=>ds.length<=sizeLine/\Q (.tup ds) h1
def Pc (t:TAD):TED:=λσ h Q=>t σ h λds h1=>ds.length<=sizeLine/\ ∀p,h1 p=none->Q (.lst p) (zA h1 p ds)
def dCB (r:RDn)(t:TAD):TED:=λσ h Q=>t σ h λds h1=>r ds h1 Q
def wM (t:TED):TTD:=λσ h Q=>t σ h λx h1=> ∃k,x= .bl k/\Q k h1
def Ww (r r':RD2)(ta tb tc:TED):TED:=λσ h Q=>ta σ h λx h1=>tb σ h1 λy h2=>r x y h2 λz h3=> ∃k,z= .bl k/\
 (if k=true then tc σ h3 λw h4=>r' y w h4 Q else Q (.bl false) h3)
def MI (t u:TTD):TTD:=λσ h Q=>t σ h λc h1=>if c=true then Q true h1 else u σ h1 Q
def Uw (t:TTD):TTD:=λσ h Q=>t σ h λc h1=>Q (!c) h1
def Ux (ta tb:TED):TED:=λσ h Q=>ta σ h λx h1=> ∃c,x= .bl c/\if c=true then tb σ h1 Q else Q (.bl false) h1
def MJ (ta tb:TED):TED:=λσ h Q=>ta σ h λx h1=> ∃c,x= .bl c/\if c=true then Q (.bl true) h1 else tb σ h1 Q
def Uy (ta:TED):TED:=λσ h Q=>ta σ h λx h1=> ∃c,x= .bl c/\Q (.bl (!c)) h1
def dIf (t:TTD)(ta tb:TED):TED:=λσ h Q=>t σ h λc h1=>if c=true then ta σ h1 Q else tb σ h1 Q
section
variable {K:G2}
theorem Dc (i:P4): ∀σ H Q,LE K (Wv i) σ H Q->NI i σ H Q:=λσ H Q ⟨nF,h,Qd,rs,rh,⟨d,e,q⟩,p⟩=>let ⟨v,e1,e2⟩:=rs.2 i d e;⟨v,e1,p d v h H (.refl H) rh e2 q⟩
theorem De {d:D}{v:V}(r: ∀H,RelD K H d v): ∀σ H Q,LE K (dC d) σ H Q->tC v σ H Q:=λσ H Q ⟨nF,h,Qd,rs,rh,q,p⟩=>p d v h H (.refl H) rh (r H) q
variable {H:Hp}
theorem jt {H1:Hp}{Qd:KD}{Q:VK}(p:Xt K H Qd Q)(k:Kept H H1):Xt K H1 Qd Q:=λd v h' H' k'=>p d v h' H' (k.trans k')
variable {ta:TED}
theorem LE.bind {σ:St}{nF:SD}{h:HD}{kd:KD}{k:VK}(rs:RelS K H nF σ)(rh:RelH K h H)(t:ta nF h kd)(f: ∀d v h' H',Kept H H'->RelS K H' nF σ->RelH K h' H'->RelD K H' d v->kd d h'->k v H'):LE K ta σ H k:=
 ⟨nF,h,kd,rs,rh,t,λd v h' H' kp r1 r2 q=>f d v h' H' kp (rs.mono kp) r1 r2 q⟩
theorem LT.bind {ta:TTD}{σ:St}{nF:SD}{h:HD}{kd:B3->HD->Prop}{k:B3->Hp->Prop}(rs:RelS K H nF σ)(rh:RelH K h H)(t:ta nF h kd)(f: ∀b h' H',Kept H H'->RelS K H' nF σ->RelH K h' H'->kd b h'->k b H'):LT K ta σ H k:=
 ⟨nF,h,kd,rs,rh,t,λb h' H' kp r1 q=>f b h' H' kp (rs.mono kp) r1 q⟩
theorem LA.bind {ta:TAD}{σ:St}{nF:SD}{h:HD}{kd:G0 D->HD->Prop}{k:G0 V->Hp->Prop}(rs:RelS K H nF σ)(rh:RelH K h H)(t:ta nF h kd)(f: ∀ds vs h' H',Kept H H'->RelS K H' nF σ->RelH K h' H'->RelDs K H' ds vs->kd ds h'->k vs H'):LA K ta σ H k:=
 ⟨nF,h,kd,rs,rh,t,λd v h' H' kp r1 r2 q=>f d v h' H' kp (rs.mono kp) r1 r2 q⟩
variable {tb:TED}
theorem Qu {f:RD2}: ∀σ H Q,LE K (dOp f ta tb) σ H Q->tOp (LR K f) (LE K ta) (LE K tb) σ H Q:=λσ H Q ⟨nF,h,Qd,rs,rh,t,p⟩=>
 LE.bind rs rh t λd v h1 H1 k1 rs1 rh1 r1 t1=>LE.bind rs1 rh1 t1 λd2 v2 h2 H2 k2 rs2 rh2 r2 t2=>⟨d,d2,h2,Qd,r1.mono k2,r2,rh2,t2,jt p (k1.trans k2)⟩
theorem Df: ∀σ H Q,LA K Jb σ H Q->Mv σ H Q:=λσ H Q ⟨nF,h,Qd,rs,rh,t,p⟩=>p [] [] h H (.refl H) rh rfl t
theorem Qw {tr:TAD}: ∀σ H Q,LA K (jU ta tr) σ H Q->Uo (LE K ta) (LA K tr) σ H Q:=λσ H Q ⟨nF,h,Qd,rs,rh,t,p⟩=>
 LE.bind rs rh t λd v h1 H1 k1 rs1 rh1 r1 t1=>LA.bind rs1 rh1 t1 λds vs h2 H2 k2 rs2 rh2 r2 t2=>p _ _ h2 H2 (k1.trans k2) rh2 (.cons (r1.mono k2) r2) t2
theorem Dg {t:TAD}: ∀σ H Q,LE K (Pb t) σ H Q->NW (LA K t) σ H Q:=λσ H Q ⟨nF,h,Qd,rs,rh,t,p⟩=>
 LA.bind rs rh t λds vs h1 H1 k1 rs1 rh1 r1 ⟨z,q⟩=>⟨by rw [<-r1.length];exact z,λa ha=>p (.tup ds) (.ref a) h1 _ (k1.trans (.new ha)) (rh1.new ha) ⟨a,vs,rfl,jf,r1.mono (.new ha)⟩ q⟩
theorem Dh {t:TAD}: ∀σ H Q,LE K (Pc t) σ H Q->NX (LA K t) σ H Q:=λσ H Q ⟨nF,h,Qd,rs,rh,t,p⟩=>
 LA.bind rs rh t λds vs h1 H1 k1 rs1 rh1 r1 ⟨z,q⟩=>⟨by rw [<-r1.length];exact z,λa ha=>p (.lst a) (.ref a) _ _ (k1.trans (.new ha)) (rh1.newL ha r1) ⟨rfl,vs,jf⟩ (q a (rh1.free ha))⟩
theorem Di {r:RDn}{t:TAD}: ∀σ H Q,LE K (dCB r t) σ H Q->tCB (LC K r) (LA K t) σ H Q:=λσ H Q ⟨nF,h,Qd,rs,rh,t,p⟩=>
 LA.bind rs rh t λds vs h1 H1 k1 rs1 rh1 r1 q=>⟨ds,h1,Qd,r1,rh1,q,jt p k1⟩
theorem Ve {t:TED}: ∀σ H Q,LT K (wM t) σ H Q->XZ (LE K t) σ H Q:=λσ H Q ⟨nF,h,Qd,rs,rh,t,p⟩=>
 LE.bind rs rh t λd v h1 H1 k1 rs1 rh1 r1 ⟨k,e,q⟩=>by subst e;exact⟨k,r1,p k h1 H1 k1 rh1 q⟩
theorem Uz {t:TED}: ∀σ H Q,LT K (wM t) σ H Q->tB (LE K t) σ H Q:=λσ H Q ⟨nF,h,Qd,rs,rh,t,p⟩=>
 LE.bind rs rh t λd v h1 H1 k1 rs1 rh1 r1 ⟨k,e,q⟩=>by subst e;exact⟨k,r1,p k h1 H1 k1 rh1 q⟩
theorem UA {r r':RD2}{tc:TED}: ∀σ H Q,LE K (Ww r r' ta tb tc) σ H Q->Xo (LR K r) (LR K r') (LE K ta) (LE K tb) (LE K tc) σ H Q:=λσ H Q ⟨nF,h,Qd,rs,rh,t,p⟩=>
 LE.bind rs rh t λd v h1 H1 k1 rs1 rh1 r1 t1=>LE.bind rs1 rh1 t1 λd2 v2 h2 H2 k2 rs2 rh2 r2 t2=>⟨d,d2,h2,_,r1.mono k2,r2,rh2,t2,λd3 v3 h3 H3 k3 rh3 r3 ⟨k,e,q⟩=>by
  subst e;refine⟨k,r3,?_⟩;cases k with
  |true=>
   rw [S2 rfl] at q ⊢;exact LE.bind (rs2.mono k3) rh3 q λd4 v4 h4 H4 k4 rs4 rh4 r4 t4=>⟨d2,d4,h4,Qd,(r2.mono k3).mono k4,r4,rh4,t4,jt p (k1.trans (k2.trans (k3.trans k4)))⟩
  |false=>
   rw [S6 P8] at q ⊢;exact p (.bl false) _ h3 H3 (k1.trans (k2.trans k3)) rh3 rfl q⟩
theorem MK {t u:TTD}: ∀σ H Q,LT K (MI t u) σ H Q->tOr (LT K t) (LT K u) σ H Q:=λσ H Q ⟨nF,h,Qd,rs,rh,t,p⟩=>
 LT.bind rs rh t λb h1 H1 k1 rs1 rh1 q=>by
  cases b with
  |true=>rw [S2 rfl] at q ⊢;exact p _ _ _ k1 rh1 q
  |false=>rw [S6 P8] at q ⊢;exact⟨nF,h1,Qd,rs1,rh1,q,λb h' H' k=>p b h' H' (k1.trans k)⟩
theorem Dj {t:TTD}: ∀σ H Q,LT K (Uw t) σ H Q->NJ (LT K t) σ H Q:=λσ H Q ⟨nF,h,Qd,rs,rh,t,p⟩=>
 LT.bind rs rh t λb h1 H1 k1 rs1 rh1 q=>p _ _ _ k1 rh1 q
theorem Dl: ∀σ H Q,LE K (Ux ta tb) σ H Q->Pq (LE K ta) (LE K tb) σ H Q:=λσ H Q ⟨nF,h,Qd,rs,rh,t,p⟩=>
 LE.bind rs rh t λd v h1 H1 k1 rs1 rh1 r1 ⟨c,e,q⟩=>by
  subst e;refine⟨c,r1,?_⟩;cases c with
  |true=>rw [S2 rfl] at q ⊢;exact⟨nF,h1,Qd,rs1,rh1,q,jt p k1⟩
  |false=>rw [S6 P8] at q ⊢;exact p (.bl false) _ _ _ k1 rh1 rfl q
theorem ML: ∀σ H Q,LE K (MJ ta tb) σ H Q->NK (LE K ta) (LE K tb) σ H Q:=λσ H Q ⟨nF,h,Qd,rs,rh,t,p⟩=>
 LE.bind rs rh t λd v h1 H1 k1 rs1 rh1 r1 ⟨c,e,q⟩=>by
  subst e;refine⟨c,r1,?_⟩;cases c with
  |true=>rw [S2 rfl] at q ⊢;exact p (.bl true) _ _ _ k1 rh1 rfl q
  |false=>rw [S6 P8] at q ⊢;exact⟨nF,h1,Qd,rs1,rh1,q,jt p k1⟩
theorem Dm: ∀σ H Q,LE K (Uy ta) σ H Q->Pr (LE K ta) σ H Q:=λσ H Q ⟨nF,h,Qd,rs,rh,t,p⟩=>
 LE.bind rs rh t λd v h1 H1 k1 rs1 rh1 r1 ⟨c,e,q⟩=>by subst e;exact⟨c,r1,p (.bl (!c)) _ _ _ k1 rh1 rfl q⟩
theorem MM {t:TTD}: ∀σ H Q,LE K (dIf t ta tb) σ H Q->tIf (LT K t) (LE K ta) (LE K tb) σ H Q:=λσ H Q ⟨nF,h,Qd,rs,rh,t,p⟩=>
 LT.bind rs rh t λb h1 H1 k1 rs1 rh1 q=>by
  cases b with
  |true=>rw [S2 rfl] at q ⊢;exact⟨nF,h1,Qd,rs1,rh1,q,jt p k1⟩
  |false=>rw [S6 P8] at q ⊢;exact⟨nF,h1,Qd,rs1,rh1,q,jt p k1⟩
end
abbrev QE (X:Cx)(e:D3)(t:TED):Prop:=PE X e (LE X.K t)
abbrev QT (X:Cx)(e:D3)(t:TTD):Prop:=PT X e (LT X.K t)
abbrev QW (X:Cx)(e:D3)(t:TTD):Prop:=PW X e (LT X.K t)
abbrev QA (X:Cx)(es:G0 D3)(t:TAD):Prop:=PA X es (LA X.K t)
abbrev QS (X:Cx)(s:M4)(t:TSD):Prop:=PS X s (LS X.K t)
abbrev QSs (X:Cx)(s:G0 M4)(t:TSD):Prop:=PSs X s (LS X.K t)
abbrev QG (X:Cx)(e:D3)(t:TGD):Prop:=PG X e (LG X.K t)
abbrev OpQ (X:Cx)(f:G1->G1->Sem G1)(r:RD2):Prop:=OpR X f (LR X.K r)
abbrev wk (X:Cx)(f:G1)(r:RDn):Prop:=CallR X f (LC X.K r)
section
variable {X:Cx}{a b c e:D3}{es rest:G0 D3}{ta tb tc te:TED}{t u:TAD}{tt tu:TTD}{pos:Pos}{f r r':RD2}
theorem qv (i:P4){x:Str}(hN:X.N[i]? =some x:=by rfl)(hv:Vis X.env.scope x:=by first|exact L9 rfl|exact X6 (L9 rfl)|exact X6 (X6 rfl))(hd:(x==("__debug__" :Str))=false:=by decide)
 (hcd:(x==("__classdict__" :Str))=false:=by decide):QE X (.Name x pos) (Wv i):=(YF hN hv hd hcd).imp (Dc i)
variable {j:P4}
theorem BC {i:P9}:QE X (.Constant (.int i) j pos) (dC (.int i)):=pe_int.imp (De λ_=>rfl)
theorem qbl {i:B3}:QE X (.Constant (.bool i) j pos) (dC (.bl i)):=pe_bl.imp (De λ_=>rfl)
theorem BD:QE X (.Constant .none j pos) (dC .non):=pe_non.imp (De λ_=>rfl)
theorem BE {x:Str}:QE X (.Constant (.str x) j pos) (dC (.str x)):=pe_str.imp (De λ_=>rfl)
theorem MN {x:Str}{i:P9}{tk:Tok}(hg:Gl X x)(hm:X.mg x=some (.int i tk))(hd:(x==("__debug__" :Str))=false:=by decide):QE X (.Name x pos) (dC (.int i)):=
 (ZJ (v:= .int i) hg hm ⟨tk,rfl⟩ hd).imp (De λ_=>rfl)
theorem qop {op:lG}(ho:OpQ X (N3 op) f)(ha:QE X a ta)(hb:QE X b tb):QE X (.BinOp a op b pos) (dOp f ta tb):=(Mp ho ha hb).imp Qu
theorem BF {op:cP}(ho:OpQ X (S8 op) f)(ha:QE X a ta)(hb:QE X b tb)(hm:F4 op b=false):QE X (.Compare a [op] [b] pos) (dOp f ta tb):=(XY ho ha hb hm).imp Qu
theorem MO {op:cP}(ho:OpQ X (S8 op) f)(ha:QE X a ta)(hb:QE X b tb)(hm:F4 op b=false):QT X (.Compare a [op] [b] pos) (wM (dOp f ta tb)):=
 (Qa ho ha hb hm).imp λσ H Q h=>by
  obtain⟨nF,h,Qd,rs,rh,t,p⟩:=Ve (t:=dOp f ta tb) σ H Q h;exact Qu σ H _ ⟨nF,h,Qd,rs,rh,t,p⟩
theorem Qx {op op':cP}(ho:OpQ X (S8 op) r)(ho':OpQ X (S8 op') r')(ha:QE X a ta)(hb:QE X b tb)(hc:QE X c tc)(hm:i8 [op,op'] [b,c]=false:=by with_unfolding_all rfl):
 QT X (.Compare a [op,op'] [b,c] pos) (wM (Ww r r' ta tb tc)):=(Um ho ho' ha hb hc hm).imp λσ H Q h=>by
 obtain⟨nF,h,Qd,rs,rh,t,p⟩:=Ve (t:=Ww r r' ta tb tc) σ H Q h;exact UA σ H _ ⟨nF,h,Qd,rs,rh,t,p⟩
theorem MP (ha:QE X a ta)(he: ∀whole,isTrue a X.env whole=(do let v <-whole;c5 a.pos;V7 [v] (mU v)):=by intro _;rfl):QT X a (wM ta):=(Pm ha he).imp Uz
theorem BG (ha:QT X a tt):QW X (.BoolOp .Or [a] pos) tt:=Po ha
theorem BH (ha:QT X a tt)(hb:QW X (.BoolOp .Or (b::rest) pos) tu):QW X (.BoolOp .Or (a::b::rest) pos) (MI tt tu):=(Mk ha hb).imp MK
theorem MQ (ha:QT X a tt):QT X (.UnaryOp .Not a pos) (Uw tt):=(Pp ha).imp Dj
theorem BI {op:BoolOp}(ha:QE X a ta):QE X (.BoolOp op [a] pos) ta:=Ps ha
theorem BJ (ha:QE X a ta)(hb:QE X (.BoolOp .And (b::rest) pos) tb):QE X (.BoolOp .And (a::b::rest) pos) (Ux ta tb):=(Pu ha hb).imp Dl
theorem qor (ha:QE X a ta)(hb:QE X (.BoolOp .Or (b::rest) pos) tb):QE X (.BoolOp .Or (a::b::rest) pos) (MJ ta tb):=(Ml ha hb).imp ML
theorem BK (ha:QE X a ta):QE X (.UnaryOp .Not a pos) (Uy ta):=(Pv ha).imp Dm
theorem qif {c:D3}(hc:QT X c tt)(ha:QE X a ta)(hb:QE X b tb):QE X (.IfExp c a b pos) (dIf tt ta tb):=(Ui hc ha hb).imp MM
theorem Do:QA X [] Jb:=pa_nil.imp Df
theorem Qy (ha:QE X e te)(hr:QA X es t)(hs:G9 (e::es) X.env=(false,M2 e X.env)::G9 es X.env:=by rfl):QA X (e::es) (jU te t):=(zb ha hr hs).imp Qw
theorem BL {k:P4}(h:QA X es t):QE X (.Tuple es k pos) (Pb t):=(PP h).imp Dg
theorem BM (h:QA X es t):QE X (.List es pos) (Pc t):=(PQ h).imp Dh
end
def Yc:TSD:=λD σ h=>D.nx σ h
def zQ (t u:TSD):TSD:=λD σ h=>t {D with nx:=u D} σ h
def Qz (te:TED):TSD:=λD σ h=>te σ h λ_ h1=>D.nx σ h1
def UB (te:TED):TSD:=λD σ h=>te σ h D.rt
def Pd (c:TTD)(t u:TSD):TSD:=λD σ h=>c σ h λb h1=>if b=true then t D σ h1 else u D σ h1
def UC (i:P4)(te:TED):TSD:=λD σ h=>te σ h λd h1=>D.nx (σ.set i (some d)) h1
def MR (te:TED)(g:TGD):TSD:=λD σ h=>te σ h λx h1=>g x σ h1 D.nx
def MS (i j:P4)(ta:TAD):TSD:=λD σ h=>ta σ h λds h1=> ∃v w,ds= [v,w]/\D.nx ((σ.set i (some v)).set j (some w)) h1
def gN (i:P4):TGD:=λd σ h Q=>Q (σ.set i (some d)) h
def gT2 (i j:P4):TGD:=λd σ h Q=> ∃x y,d= .tup [x,y]/\Q ((σ.set i (some x)).set j (some y)) h
section
variable {K:G2}
theorem LS.of {t:TSD}{nO:Ends}{σ:St}{H:Hp}{nF:SD}{h:HD}{Dd:EndsD}(rs:RelS K H nF σ)(rh:RelH K h H)(q:t Dd nF h)
 (nx: ∀nH h' nE H',Kept H H'->RelS K H' nH nE->RelH K h' H'->Dd.nx nH h'->nO.nx nE H')(rt:Xt K H Dd.rt nO.rt)
 (bk: ∀nH h' nE H',Kept H H'->RelS K H' nH nE->RelH K h' H'->Dd.bk nH h'->nO.bk nE H')(ct: ∀nH h' nE H',Kept H H'->RelS K H' nH nE->RelH K h' H'->Dd.ct nH h'->nO.ct nE H'):LS K t nO σ H:=⟨nF,h,Dd,rs,rh,q,nx,rt,bk,ct⟩
theorem QB: ∀D σ H,LS K Yc D σ H->Pw D σ H:=λD σ H ⟨nF,h,Dd,rs,rh,q,nx,_⟩=>nx nF h σ H (.refl H) rs rh q
theorem Dp {t u:TSD}: ∀D σ H,LS K (zQ t u) D σ H->NL (LS K t) (LS K u) D σ H:=λD σ H ⟨nF,h,Dd,rs,rh,q,nx,rt,bk,ct⟩=>
 LS.of rs rh q (λnH h' nE H' k rs' rh' q'=>⟨nH,h',Dd,rs',rh',q',λa b c d k'=>nx a b c d (k.trans k'),jt rt k,λa b c d k'=>bk a b c d (k.trans k'),λa b c d k'=>ct a b c d (k.trans k')⟩) rt bk ct
variable {te:TED}
theorem QC: ∀D σ H,LS K (Qz te) D σ H->Px (LE K te) D σ H:=λD σ H ⟨nF,h,Dd,rs,rh,q,nx,rt,bk,ct⟩=>
 LE.bind rs rh q λd v h1 H1 k1 rs1 rh1 r1 q1=>nx _ _ _ _ k1 rs1 rh1 q1
theorem Dq: ∀D σ H,LS K (UB te) D σ H->NM (LE K te) D σ H:=λD σ H ⟨nF,h,Dd,rs,rh,q,nx,rt,bk,ct⟩=>⟨nF,h,Dd.rt,rs,rh,q,rt⟩
theorem MT {c:TTD}{t u:TSD}: ∀D σ H,LS K (Pd c t u) D σ H->NN (LT K c) (LS K t) (LS K u) D σ H:=λD σ H ⟨nF,h,Dd,rs,rh,q,nx,rt,bk,ct⟩=>
 LT.bind rs rh q λb h1 H1 k rs1 rh1 q1=>by
  cases b with
  |true=>rw [S2 rfl] at q1 ⊢;exact⟨nF,h1,Dd,rs1,rh1,q1,λa b c d k'=>nx a b c d (k.trans k'),jt rt k,λa b c d k'=>bk a b c d (k.trans k'),λa b c d k'=>ct a b c d (k.trans k')⟩
  |false=>rw [S6 P8] at q1 ⊢;exact⟨nF,h1,Dd,rs1,rh1,q1,λa b c d k'=>nx a b c d (k.trans k'),jt rt k,λa b c d k'=>bk a b c d (k.trans k'),λa b c d k'=>ct a b c d (k.trans k')⟩
theorem Xu {i:P4}: ∀D σ H,LS K (UC i te) D σ H->XV (LE K te) (vz i) D σ H:=λD σ H ⟨nF,h,Dd,rs,rh,q,nx,rt,bk,ct⟩=>
 LE.bind rs rh q λd v h1 H1 k1 rs1 rh1 r1 q1=>nx _ _ _ _ k1 (rs1.set r1 i) rh1 q1
theorem Dr {g:TGD}: ∀D σ H,LS K (MR te g) D σ H->XV (LE K te) (LG K g) D σ H:=λD σ H ⟨nF,h,Dd,rs,rh,q,nx,rt,bk,ct⟩=>
 LE.bind rs rh q λd v h1 H1 k1 rs1 rh1 r1 q1=>⟨d,nF,h1,_,r1,rs1,rh1,q1,λa b c e k'=>nx a b c e (k1.trans k')⟩
theorem Ds {i j:P4}{ta:TAD}: ∀D σ H,LS K (MS i j ta) D σ H->NR i j (LA K ta) D σ H:=λD σ H ⟨nF,h,Dd,rs,rh,q,nx,rt,bk,ct⟩=>
 LA.bind rs rh q λds vs h1 H1 k1 rs1 rh1 r1 ⟨x,y,e,q1⟩=>by
  subst e;obtain⟨v,r,e,r2,r3⟩:=(show ∃v r,vs=v::r/\RelD K H1 x v/\RelDs K H1 [y] r from r1);obtain⟨w,r',e',r4,r5⟩:=(show ∃v r',r=v::r'/\RelD K H1 y v/\RelDs K H1 [] r' from r3);cases (show r'= [] from r5);subst e' e;exact⟨v,w,rfl,nx _ _ _ _ k1 ((rs1.set r2 i).set r4 j) rh1 q1⟩
theorem QD (i:P4): ∀v σ H Q,LG K (gN i) v σ H Q->vz i v σ H Q:=λv σ H Q ⟨d,nF,h,Qd,r,rs,rh,q,p⟩=>p _ _ _ _ (.refl H) (rs.set r i) rh q
theorem wN {H:Hp}{x y:D}{vs:G0 V}(r:RelDs K H [x,y] vs): ∃v w,vs= [v,w]/\RelD K H x v/\RelD K H y w:=by
 obtain⟨v,r1,e,r2,r3⟩:=(show ∃v r,vs=v::r/\RelD K H x v/\RelDs K H [y] r from r);obtain⟨w,z,e',r4,r5⟩:=(show ∃v z,r1=v::z/\RelD K H y v/\RelDs K H [] z from r3);cases (show z= [] from r5);subst e' e;exact⟨v,w,rfl,r2,r4⟩
theorem jB {H:Hp}{x:D}{vs:G0 V}(r:RelDs K H [x] vs): ∃v,vs= [v]/\RelD K H x v:=by
 obtain⟨v,r1,e,r2,r3⟩:=(show ∃v r,vs=v::r/\RelD K H x v/\RelDs K H [] r from r);cases (show r1= [] from r3);exact⟨v,e,r2⟩
theorem Dt (i j:P4): ∀v σ H Q,LG K (gT2 i j) v σ H Q->NQ K 2 (XT (vz i) (XT (vz j) NP)) v σ H Q:=λv σ H Q ⟨d,nF,h,Qd,r,rs,rh,⟨x,y,e,q⟩,p⟩=>by
 subst e;obtain⟨a,vs,e,hH,r1⟩:=(show ∃a vs,v= .ref a/\H a=some (.tup vs)/\RelDs K H [x,y] vs from r);obtain⟨v1,v2,e1,r2,r3⟩:=wN r1;subst e e1;exact⟨a,[v1,v2],rfl,SqT.of hH,rfl,v1,[v2],rfl,v2,[],rfl,rfl,p _ _ _ _ (.refl H) ((rs.set r2 i).set r3 j) rh q⟩
end
section
variable {X:Cx}{st:M4}{sts:G0 M4}{t u:TSD}{e:D3}{te:TED}{pos:Pos}
theorem Du:QSs X [] Yc:=pss_nil.imp QB
theorem QF (h1:QS X st t)(h2:QSs X sts u):QSs X (st::sts) (zQ t u):=(Uj h1 h2).imp Dp
theorem Dv (h1:QS X st t):QSs X [st] t:=YH h1
theorem MU (he:QE X e te)(hs:E1 e none pos.line X.env=pure false:=by rfl):QS X (.Expr e pos) (Qz te):=(XS he hs).imp QC
theorem BN (he:QE X e te):QS X (.Return (some e) pos) (UB te):=(Py he).imp Dq
theorem BO {c:D3}{a b:G0 M4}{tc:TTD}(hc:QT X c tc)(ha:QSs X a t)(hb:QSs X b u):QS X (.If c a b pos) (Pd tc t u):=(Mm hc ha hb).imp MT
variable {i:P4}{x:Str}
theorem BP {pos':Pos}(hN:X.N.Nodup)(hi:X.N[i]? =some x)(hx:Loc X.env.scope x)(he:QE X e te)(hs:E1 e (some (.Name x pos')) pos.line X.env=pure false:=by rfl)
 (hf:X.fn x=true\/X.env.scope.names.lookup x=some .local:=by first|exact .inl rfl|exact .inr rfl|assumption):QS X (.Assign [.Name x pos'] e pos) (UC i te):=(PD hN hi hx he hs hf).imp Xu
theorem QH (hN:X.N.Nodup)(hi:X.N[i]? =some x)(hx:Loc X.env.scope x)(hf:X.fn x=true\/X.env.scope.names.lookup x=some .local:=by first|exact .inl rfl|exact .inr rfl|assumption):QG X (.Name x pos) (gN i):=
 (yb hN hi hx hf).imp (QD i)
theorem Dw {j:P4}{y:Str}{p1 p2:Pos}{k:P4}(hc:X.calm=true)(hN:X.N.Nodup)(hi:X.N[i]? =some x)(hj:X.N[j]? =some y)(hx:Loc X.env.scope x)(hy:Loc X.env.scope y)
 (hf:X.fn x=true\/X.env.scope.names.lookup x=some .local:=by first|exact .inl rfl|exact .inr rfl|assumption)(hf2:X.fn y=true\/X.env.scope.names.lookup y=some .local:=by first|exact .inl rfl|exact .inr rfl|assumption):
 QG X (.Tuple [.Name x p1,.Name y p2] k pos) (gT2 i j):=(Pz hc (Wp (yb hN hi hx hf) (Wp (yb hN hj hy hf2) XU))).imp (Dt i j)
theorem BQ {tg:D3}{g:TGD}(he:QE X e te)(hg:QG X tg g)(hs:Q4 [tg] e pos.line X.env=pure false:=by rfl)(hsw:Q5 [tg] e X.env=pure none:=by rfl)
 (h1:(U7 [tg] X.env).map (·.2)= [Y3 tg X.env]:=by rfl):QS X (.Assign [tg] e pos) (MR te g):=(PC he hg hs hsw h1).imp Dr
theorem BR {j:P4}{y:Str}{a b:D3}{ta:TAD}{px py pt:Pos}{kt k2 pt2}(hc:X.calm=true)(hN:X.N.Nodup)(hi:X.N[i]? =some x)(hj:X.N[j]? =some y)(hij:i≠j)
 (hx:X.env.scope.names.lookup x=some .local)(hy:X.env.scope.names.lookup y=some .local)(ha:QA X [a,b] ta)
 (hw:Q5 [.Tuple [.Name x px,.Name y py] kt pt] (.Tuple [a,b] k2 pt2) X.env=pure (some [x,y]))
 (hs:Q4 [.Tuple [.Name x px,.Name y py] kt pt] (.Tuple [a,b] k2 pt2) pos.line X.env=pure false:=by rfl):
 QS X (.Assign [.Tuple [.Name x px,.Name y py] kt pt] (.Tuple [a,b] k2 pt2) pos) (MS i j ta):=(PF hc hN hi hj hij hx hy ha hw hs).imp Ds
end
abbrev ItD:=HD->G6 (G0 D)
def QJ (K:G2)(H:Hp)(j:ItD)(J:It):Prop:= ∀H' h',Kept H H'->RelH K h' H'-> ∀ds,j h'=some ds-> ∀i:P4,
 (∀d,ds[i]? =some d->J.go i H'/\ ∀x H'',J.yld i H' x H''->Kept H' H''/\RelH K h' H''/\RelD K H'' d x)/\(ds.length<=i->J.stop i H')
abbrev TID:=SD->HD->(ItD->HD->Prop)->Prop
def LI (K:G2)(t:TID):TI:=λσ H R=> ∃nF h Rd,RelS K H nF σ/\RelH K h H/\t nF h Rd/\ ∀j J h' H',Kept H H'->RelH K h' H'->QJ K H' j J->Rd j h'->R J H'
abbrev QI (X:Cx)(tg iter:D3)(t:TID):Prop:=PI X tg iter (LI X.K t)
theorem PI.imp {t t':TI}(h:PI X tg e t)(i: ∀σ H R,t' σ H R->t σ H R):PI X tg e t':=λpins s σ H R I q=>h pins s σ H R I (i σ H R q)
def iL (te:TED):TID:=λσ h R=>te σ h λx h1=> ∃a,x= .lst a/\R (λh=>h a) h1
def iR1 (ta:TAD):TID:=λσ h R=>ta σ h λds h1=> ∃n:P9,ds= [.int n]/\ -(2^62)<=n/\n<2^62/\R (λ_=>some ((O5 n.toNat).map λ(k:P4)=>D.int (k:P9))) h1
section
variable {K:G2}
theorem JR (H:Hp)(a:G5):QJ K H (λh=>h a) (Itl K a):=λH' h' k rh ds e i=>by
 obtain⟨vs,hv,r⟩:=rh a ds e;refine⟨λd hd=> ?_,λhl=>⟨vs,SqL.of hv,by rw [<-r.length];exact hl⟩⟩;obtain⟨v,e1,e2⟩:=r.get hd;refine⟨⟨vs,v,SqL.of hv,e1⟩,λx H'' ⟨eH,hx⟩=> ?_⟩;subst eH;have:=hx vs (SqL.of hv);rw [e1] at this;cases this;exact⟨.refl _,rh,e2⟩
theorem UD {H:Hp}{a:G5}{vs:G0 V}{ds:G0 D}(hv:H a=some (.tup vs))(r:RelDs K H ds vs):QJ K H (λ_=>some ds) (Itt K a):=λH' h' k rh ds' e i=>by
 cases e;have hv':=k.tup _ _ hv;have r':=r.mono k;refine⟨λd hd=> ?_,λhl=>⟨vs,SqT.of hv',by rw [<-r.length];exact hl⟩⟩;obtain⟨v,e1,e2⟩:=r'.get hd;refine⟨⟨vs,v,SqT.of hv',e1⟩,λx H'' ⟨eH,hx⟩=> ?_⟩;subst eH;have:=hx vs (SqT.of hv');rw [e1] at this;cases this;exact⟨.refl _,rh,e2⟩
theorem Yd (H:Hp)(lo:P9)(n:P4)(ds:G0 D)(hd:ds=(O5 n).map λ(k:P4)=>D.int (lo+(k:P9))):QJ K H (λ_=>some ds) (Itr lo n):=λH' h' k rh ds' e i=>by
 cases e;subst hd;refine⟨λd hd=> ?_,λhl=>(show n<=i by simpa using hl)⟩;rw [R4] at hd;have hi:i<n:=by
  by_cases z:i<n
  ·exact z
  ·rw [cJ (by simpa using z)] at hd;cases hd
 rw [dG hi] at hd;cases hd;refine⟨hi,λx H'' ⟨eH,hx⟩=> ?_⟩;subst eH hx;exact⟨.refl _,rh,rfl⟩
theorem QK {te:TED}: ∀σ H R,LI K (iL te) σ H R->PH K (LE K te) σ H R:=λσ H R ⟨nF,h,Rd,rs,rh,q,p⟩=>
 LE.bind rs rh q λd v h1 H1 k1 rs1 rh1 r1 ⟨a,e,q1⟩=>by
  subst e;obtain⟨e,vs,hv⟩:=(show v= .ref a/\ ∃vs,H1 a=some (.lst vs) from r1);exact⟨a,e,⟨vs,SqL.of hv⟩,p _ _ _ _ k1 rh1 (JR H1 a) q1⟩
theorem MV {ta:TAD}: ∀σ H R,LI K (iR1 ta) σ H R->PJ (LA K ta) σ H R:=λσ H R ⟨nF,h,Rd,rs,rh,q,p⟩=>
 LA.bind rs rh q λds vs h1 H1 k1 rs1 rh1 r1 ⟨n,e,b1,b2,q1⟩=>by
  subst e;obtain⟨v,e,r2⟩:=jB r1;cases (show v= .int n from r2);exact⟨n,e,b1,b2,p _ _ _ _ k1 rh1 (Yd H1 0 n.toNat _ (by simp)) q1⟩
end
def Dx (ti:TID)(g:TGD)(tb:TSD):TSD:=λD σ h=>ti σ h λj h1=> ∃ (n:P4) (W:P4->SD->HD->Prop),W 0 σ h1/\ ∀i nE h',W i nE h'-> ∃ds,j h'=some ds/\ds.length<=n/\(ds.length<=i->D.nx nE h')/\
 ∀d,ds[i]? =some d->g d nE h' λnI h2=>tb {D with nx:=λnJ h3=> ∃h4,Sub h4 h3/\W (i+1) nJ h4,ct:=λnJ h3=> ∃h4,Sub h4 h3/\W (i+1) nJ h4,bk:=D.nx} nI h2
theorem Dy {ti:TID}{g:TGD}{tb:TSD}: ∀D σ H,LS K (Dx ti g tb) D σ H->NS (LI K ti) (LG K g) (LS K tb) D σ H:=λD σ H ⟨nF,h,Dd,rs,rh,q,nx,rt,bk,ct⟩=>by
 refine⟨nF,h,_,rs,rh,q,λj J h1 H1 k1 rh1 jo ⟨n,W,w0,turn⟩=> ?_⟩;refine⟨λi m nE H'=>m=n-i/\Kept H1 H'/\ ∃nH h',RelS K H' nH nE/\RelH K h' H'/\W i nH h',⟨n-0,rfl,.refl _,nF,h1,rs.mono k1,rh1,w0⟩,?_⟩;rintro i m nE H' ⟨rfl,kp,nH,h',rs',rh',w⟩;obtain⟨ds,ej,hn,stop,go⟩:=turn i nH h' w;have jo':=jo H' h' kp rh' ds ej i
 by_cases hi:i<ds.length
 ·obtain⟨g1,y1⟩:=jo'.1 ds[i] (R3 hi);refine .inr ⟨g1,λnI H2=>Kept H1 H2/\ ∃nM h2,RelS K H2 nM nI/\RelH K h2 H2/\W (i+1) nM h2,λnI H2 ⟨k2,a,b,c,d,e⟩=>⟨n-(i+1),by omega,rfl,k2,a,b,c,d,e⟩,λx H'' y=> ?_⟩;obtain⟨k2,rh2,r2⟩:=y1 x H'' y;refine⟨ds[i],nH,h',_,r2,rs'.mono k2,rh2,go ds[i] (R3 hi),λn8 h3 nJ H3 k3 rs3 rh3 q3=> ?_⟩;have kk:Kept H H3:=k1.trans (kp.trans (k2.trans k3));have kk1:Kept H1 H3:=kp.trans (k2.trans k3);exact⟨n8,h3,_,rs3,rh3,q3,λa b c d k4 rs4 rh4 ⟨h4,sb,w4⟩=>⟨kk1.trans k4,a,h4,rs4,rh4.sub sb,w4⟩,jt rt kk,λa b c d k4 rs4 rh4 q4=>nx a b c d (kk.trans k4) rs4 rh4 q4,λa b c d k4 rs4 rh4 ⟨h4,sb,w4⟩=>⟨kk1.trans k4,a,h4,rs4,rh4.sub sb,w4⟩⟩
 ·exact .inl ⟨jo'.2 (eJ.mp hi),nx _ _ _ _ (k1.trans kp) rs' rh' (stop (eJ.mp hi))⟩
def vO:TTD:=λ_ h Q=>Q true h
def yJ (bind:D->SD->SD->Prop)(js:G0 P4)(ti:TID)(tt:TTD)(te:TED):TED:=λσ h Q=>ti σ h λj h1=> ∃ (n:P4) (W:P4->G0 D->HD->Prop),W 0 [] h1/\ ∀i ys h',W i ys h'->ys.length<=sizeLine/\
 ∃ds,j h'=some ds/\ds.length<=n/\(ds.length<=i-> ∀p,h' p=none->Q (.lst p) (zA h' p ys))/\
  ∀d,ds[i]? =some d-> ∃nI,bind d (zl js σ) nI/\tt nI h' λb h3=>if b=true then te nI h3 λy h4=> ∃h5,Sub h5 h4/\W (i+1) (ys++ [y]) h5 else ∃h5,Sub h5 h3/\W (i+1) ys h5
def bN (i:P4):D->SD->SD->Prop:=λd σ nI=>nI=σ.set i (some d)
def b2 (i j:P4):D->SD->SD->Prop:=λd σ nI=> ∃x y,d= .tup [x,y]/\nI=(σ.set i (some x)).set j (some y)
theorem Dz: ∀σ H Q,LT K vO σ H Q->Bb σ H Q:=λσ H Q ⟨nF,h,Qd,rs,rh,q,p⟩=>p true h H (.refl H) rh q
def Xv (K:G2)(js:G0 P4)(bind:D->SD->SD->Prop)(g:TG):Prop:= ∀ (σ:St) (nF nM:SD) (H:Hp) (d:D) (v:V) (Q:St->Hp->Prop),RelS K H (zl js nF) (zC js σ)->RelD K H d v->bind d (zl js nF) nM->
 (∀nI,Agree (zC js σ) nI->RelS K H nM nI->Q nI H)->g v (zC js σ) H Q
theorem DA {i:P4}(hi:i∈js):Xv K js (bN i) (vz i):=λσ nF nM H d v Q rs r b q=>by
 cases (show nM=_ from b);exact q _ (.set v λu=>zX js σ i u hi) (rs.set r i)
theorem DB {bind:D->SD->SD->Prop}{ti:TID}{tt:TTD}{te:TED}(hb:Xv K js bind g): ∀σ H Q,LE K (yJ bind js ti tt te) σ H Q->tLC js (LI K ti) g (LT K tt) (LE K te) σ H Q:=
 λσ H Q ⟨nF,h,Qd,rs,rh,q,p⟩=>by
  refine⟨nF,h,_,rs,rh,q,λj J h1 H1 k1 rh1 jo ⟨n,W,w0,turn⟩=> ?_⟩;refine⟨λi m ys H'=>m=n-i/\Kept H1 H'/\ ∃ds h',RelDs K H' ds ys/\RelH K h' H'/\W i ds h',⟨n-0,rfl,.refl _,[],h1,rfl,rh1,w0⟩,?_⟩;rintro i m ys H' ⟨rfl,kp,yd,h',ry,rh',w⟩;obtain⟨hz,ds,ej,hn,stop,go⟩:=turn i yd h' w;refine⟨by rw [<-ry.length];exact hz,?_⟩;have jo':=jo H' h' kp rh' ds ej i;have kk:Kept H H':=k1.trans kp
  by_cases hi:i<ds.length
  ·obtain⟨g1,y1⟩:=jo'.1 ds[i] (R3 hi);refine .inr ⟨g1,λx H'' y=> ?_⟩;obtain⟨k2,rh2,r2⟩:=y1 x H'' y;obtain⟨nM,bd,q2⟩:=go ds[i] (R3 hi);refine hb σ nF nM H'' ds[i] x _ (((rs.mono (kk.trans k2))).clear js) r2 bd λnI ag rs2=>⟨ag,?_⟩
   refine LT.bind rs2 rh2 q2 λb h3 H3 k3 rs3 rh3 q3=> ?_
   cases b with
   |true=>
    rw [S2 rfl] at q3 ⊢;refine LE.bind rs3 rh3 q3 λd4 v4 h4 H4 k4 rs4 rh4 r4 ⟨h5,sb,w5⟩=>⟨n-(i+1),by omega,rfl,kp.trans (k2.trans (k3.trans k4)),yd++ [d4],h5,(ry.mono (k2.trans (k3.trans k4))).append (.cons r4 .nil),rh4.sub sb,w5⟩
   |false=>
    rw [S6 P8] at q3 ⊢;obtain⟨h5,sb,w5⟩:=q3;exact⟨n-(i+1),by omega,rfl,kp.trans (k2.trans k3),yd,h5,ry.mono (k2.trans k3),rh3.sub sb,w5⟩
  ·refine .inl ⟨jo'.2 (eJ.mp hi),λa ha=>p (.lst a) (.ref a) _ _ (kk.trans (.new ha)) (rh'.newL ha ry) ⟨rfl,ys,jf⟩ (stop (eJ.mp hi) a (rh'.free ha))⟩
theorem Wx {C:G5}{s₀:G4}{H₀:Hp}{ex:G0 G5}{i:P4}{p:Pos}(hN:X.N.Nodup)(hx:X.N[i]? =some x)(hl:scope.names.lookup x=some .local\/scope.names.lookup x=some .cell):
 PG (wy X scope C s₀ H₀ ex) (.Name x p) (vz i):=by
 rcases hl with z|z
 ·exact yb hN hx (.inl (cV z)) (.inr (cV z))
 ·exact yb hN hx (.inr (wx z)) (.inl (by show (scope.names.lookup x==some A7)=true;rw [z];rfl))
section
variable {X:Cx}{tg e iter elt:D3}{te:TED}{ti:TID}{g:TGD}{tb:TSD}{tt:TTD}{pos:Pos}{ta:TAD}{scope:N0}{js:G0 P4}{ifs:G0 D3}
theorem QL (he:QE X e te):QI X tg e (iL te):=(XW he).imp QK
theorem MW {p:Pos}{a:D3}(hg:Gl X "range")(hm:X.mg "range" =none)(ha:QA X [a] ta)(hs:G9 [a] X.env= [(false,M2 a X.env)]:=by rfl):QI X tg (.Call (.Name "range" p) [a] [] pos) (iR1 ta):=(YJ hg hm ha hs).imp MV
theorem BS {body:G0 M4}(hp:c7 (D8 X.prog X.w) X.A X.env X.xe)(hc:X.calm=true)(hi:QI X tg iter ti)(hg:QG X tg g)(hb:QSs X body tb)(hs: ∀x,T4 iter X.env x=pure x:=by intro _;rfl):
 QS X (.For tg iter body [] pos) (Dx ti g tb):=(Xm hp hc hi hg hb hs).imp Dy
theorem QM:PTs X [] (LT X.K vO):=λpins s σ H Q I h=>Qq pins s σ H Q I (Dz σ H Q h)
theorem QN {c:D3}(hc:QT X c tt):PTs X [c] (LT X.K tt):=Qr hc
theorem qlc {i:P4}{x:Str}{p:Pos}(hc:X.calm=true)(S:BlockOk X scope js)(hi:QI X (.Name x p) iter ti)(hj:i∈js)(hN:X.N.Nodup)(hx:X.N[i]? =some x)(hl:scope.names.lookup x=some .local\/scope.names.lookup x=some .cell)
 (ht: ∀X',jC X scope X'->PTs X' ifs (LT X'.K tt))(he: ∀X',jC X scope X'->QE X' elt te)(hs: ∀x,T4 iter X.env x=pure x:=by intro _;rfl):
 QE X (.ListComp elt [⟨.Name x p,iter,ifs,0⟩] scope pos) (yJ (bN i) js ti tt te):=
 (MH hc S hi (λX' hX=>by obtain⟨C,s₀,H₀,ex,rfl⟩:=hX;exact Wx hN hx hl) (λX' hX=>by have:=ht X' hX;obtain⟨C,s₀,H₀,ex,rfl⟩:=hX;exact this)
  (λX' hX=>by have:=he X' hX;obtain⟨C,s₀,H₀,ex,rfl⟩:=hX;exact this) hs).imp (DB (DA hj))
end
def LSp (K:G2)(spd:RDn):Sp:=λvs H Q _=>LC K spd vs H Q
theorem Vf {spd:RDn}{t:TAD}{E:XK}: ∀σ H Q,LE K (dCB spd t) σ H Q->Qe (LSp K spd) [] E (LA K t) σ H Q:=λσ H Q ⟨nF,h,Qd,rs,rh,t,p⟩=>
 LA.bind rs rh t λds vs h1 H1 k1 rs1 rh1 r1 q=>by rw [U2];exact⟨ds,h1,Qd,r1,rh1,q,jt p k1⟩
section
variable {X:Cx}{k:P4}{f:G5}{fd:D6}{ps:G0 Str}{spd:RDn}{x:Str}{p pos:Pos}{e:D3}{es:G0 D3}{t:TAD}
theorem MX (F:FnOk X.prog X.w X.K X.mg X.base CX0 k f fd ps (LSp X.K spd))(hr:Room k X.A)(hg:Gl X x)(hm:X.mg x=some (.ref f))(hk:N4 X.K (.ref f)=true)(hb:Binds X.K fd ps [])
 (ha:QA X (e::es) t)(hdb:(x==("__debug__" :Str))=false:=by decide)(he:G9 (e::es) X.env=(false,M2 e X.env)::G9 es X.env:=by rfl)(hpl:(M9 pos (G9 es X.env)).any (·.1)=false:=by rfl):
 QE X (.Call (.Name x p) (e::es) [] pos) (dCB spd t):=(YU F hr hg hm hk hb .nil Qm ha hdb he hpl).imp Vf
theorem DD {id:T0}{r:RDn}(hc:wk X (.builtin id) r)(hg:Gl X x)(hm:X.mg x=none)(hv:B4 x=some (.builtin id))(ha:QA X (e::es) t)(hn:x≠ "__name__" :=by decide)(hdb:(x==("__debug__" :Str))=false:=by decide)
 (he:G9 (e::es) X.env=(false,M2 e X.env)::G9 es X.env:=by rfl)(hpl:(M9 pos (G9 es X.env)).any (·.1)=false:=by rfl):QE X (.Call (.Name x p) (e::es) [] pos) (dCB r t):=(yI hc hg hm hv ha hn hdb he hpl).imp Di
theorem QP {T:T0}{r:RDn}(hc:wk X (.type T) r)(hg:Gl X x)(hm:X.mg x=none)(hv:B4 x=some (.type T))(ha:QA X (e::es) t)(hn:x≠ "__name__" :=by decide)(hdb:(x==("__debug__" :Str))=false:=by decide)
 (he:G9 (e::es) X.env=(false,M2 e X.env)::G9 es X.env:=by rfl)(hpl:(M9 pos (G9 es X.env)).any (·.1)=false:=by rfl):QE X (.Call (.Name x p) (e::es) [] pos) (dCB r t):=(YV hc hg hm hv ha hn hdb he hpl).imp Di
end
def jM (N:G0 Str)(ds:G0 D):SD:=ds.map some++D9 (N.length-ds.length) none
theorem wg {N:G0 Str}{vs:G0 V}(r:RelDs K H ds vs):RelS K H (jM N ds) (zj N vs):=by
 have hl:=r.length;refine⟨by unfold jM zj;simp [hl],λi d e=> ?_⟩;unfold jM at e;unfold zj
 by_cases hi:i<ds.length
 ·rw [B6 (by simpa using hi),R4] at e;cases q:ds[i]? with
  |none=>rw [q] at e;cases e
  |some d'=>
   rw [q] at e;cases e;obtain⟨v,e1,e2⟩:=r.get q;exact⟨v,by rw [B6 (by simpa [<-hl] using hi),R4,e1];rfl,e2⟩
 ·rw [C7 (by simpa using hi),V0] at e;split at e<;>cases e
def Wy (Q:KD):EndsD:= {nx:=λ_ h=> ∃h',Sub h' h/\Q .non h',rt:=λd h=> ∃h',Sub h' h/\Q d h'}
section
variable {P:D2}{w:S4}{K:G2}{mg:Str->G6 G1}{base:S3}
theorem Fun.okD {x qual:Str}{st:M4}{f:G5}{fd:D6}{N ps:G0 Str}{k:P4}{spd:RDn}(F:Fun K x qual st f fd)(S:FnScope N ps (jb st))(len: ∀ds h Q,spd ds h Q->ds.length=ps.length)
 (tb:TSD)(hbody: ∀ (cdv:G1) (A:R0) (outer:G0 Env) (s:G4) (H:Hp) (E:XK),Room k (A.deeper (N8 qual (jb st) s.heap.objs.size f cdv))->QSs (yH CX0 P w K mg base N qual (jb st) f cdv A outer s H E).nox (jy st) tb)
 (read: ∀ds h Q,spd ds h Q->tb (Wy Q) (jM N ds) h):FnOk P w K mg base CX0 (k+1) f fd ps (LSp K spd):=by
 refine F.ok S (λvs H Q E h=> ?_) (λcdv A outer s H vs Q E hr h=> ?_)
 ·obtain⟨ds,h,Qd,r,rh,q,p⟩:=h;rw [<-r.length];exact len _ _ _ q
 ·obtain⟨ds,h,Qd,r,rh,q,p⟩:=h;refine⟨_,hbody cdv A outer s H E hr,jM N ds,h,Wy Qd,wg r,rh,read ds h Qd q,λnH h' nE H' k rs' rh' ⟨h2,sb,q'⟩=>p .non .non h2 H' k (rh'.sub sb) rfl q',λd v h' H' k rh' r' ⟨h2,sb,q'⟩=>p d v h2 H' k (rh'.sub sb) r' q',λ_ _ _ _ _ _ _ z=>z.elim,λ_ _ _ _ _ _ _ z=>z.elim⟩
end
section
variable {X:Cx}{iter elt:D3}{te:TED}{ti:TID}{tt:TTD}{pos spos:Pos}{scope:N0}{js:G0 P4}{ifs:G0 D3}
theorem DE {i k:P4}{x y:Str}{p py:Pos}(hc:X.calm=true)(hN:X.N.Nodup)(hk:X.N[k]? =some y)(hy:Loc X.env.scope y)(S:BlockOk X scope js)(hi:QI X (.Name x p) iter ti)(hj:i∈js)(hx:X.N[i]? =some x)(hl:scope.names.lookup x=some .local\/scope.names.lookup x=some .cell)
 (ht: ∀X',jC X scope X'->PTs X' ifs (LT X'.K tt))(he: ∀X',jC X scope X'->QE X' elt te)
 (hsw:E1 (.ListComp elt [⟨.Name x p,iter,ifs,0⟩] scope pos) (some (.Name y py)) spos.line X.env=pure true:=by rfl)
 (hf:X.fn y=true\/X.env.scope.names.lookup y=some .local:=by first|exact .inl rfl|exact .inr rfl|assumption)(hs: ∀x,T4 iter X.env x=pure x:=by intro _;rfl):
 QS X (.Assign [.Name y py] (.ListComp elt [⟨.Name x p,iter,ifs,0⟩] scope pos) spos) (UC k (yJ (bN i) js ti tt te)):=by
 have base:PS X (.Assign [.Name y py] (.ListComp elt [⟨.Name x p,iter,ifs,0⟩] scope pos) spos) (XV (tLC js (LI X.K ti) (vz i) (LT X.K tt) (LE X.K te)) (vz k)):=
  Uv hc S hi (λX' hX=>by obtain⟨C,s₀,H₀,ex,rfl⟩:=hX;exact Wx hN hx hl) (λX' hX=>by have:=ht X' hX;obtain⟨C,s₀,H₀,ex,rfl⟩:=hX;exact this)
   (λX' hX=>by have:=he X' hX;obtain⟨C,s₀,H₀,ex,rfl⟩:=hX;exact this) (yb hN hk hy hf) hsw hs
 exact base.imp λD σ H h=>by
  obtain⟨nF,hd,Qd,rs,rh,t,p⟩:=Xu (K:=X.K) D σ H h;exact DB (DA hj) σ H _ ⟨nF,hd,Qd,rs,rh,t,p⟩
end
def Bd:RD2:=λx y h Q=>match x,y with
 | .int i,.int j=>Q (.int (i+j)) h
 | .tup a,.tup b=>a.length+b.length<=sizeLine/\Q (.tup (a++b)) h
 | .lst a,.lst b=> ∃xs ys,h a=some xs/\h b=some ys/\xs.length+ys.length<=sizeLine/\ ∀p,h p=none->Q (.lst p) (zA h p (xs++ys))
 |_,_=>False
def Be:RD2:=λx y h Q=>match x,y with
 | .int i,.int j=>Q (.int (i-j)) h
 |_,_=>False
def Bf:RD2:=λx y h Q=>match x,y with
 | .int i,.int j=>CMul i j/\Q (.int (i*j)) h
 | .lst a,.int k=> ∃xs,h a=some xs/\ -(2^63)<=k/\k<2^63/\xs.length*k.toNat<=sizeLine/\ ∀p,h p=none->Q (.lst p) (zA h p (D9 k.toNat xs).flatten)
 |_,_=>False
def BT:RD2:=λx y h Q=>match x,y with
 | .int i,.int j=>0<j/\Q (.int (i%j)) h
 |_,_=>False
def MY:RD2:=λx y h Q=>match x,y with
 | .int i,.int j=>Mc i j/\Q (.int (i / j)) h
 |_,_=>False
def MZ:RD2:=λx y h Q=>match x,y with
 | .int i,.int j=>NU i j/\Q (.int (i^j.toNat)) h
 |_,_=>False
def QQ (p:P9->P9->B3):RD2:=λx y h Q=>match x,y with
 | .int i,.int j=>Q (.bl (p i j)) h
 |_,_=>False
def eqD:RD2:=λx y h Q=>match x,y with
 | .int i,.int j=>Q (.bl (decide (i=j))) h
 | .bl i,.bl j=>Q (.bl (decide (i=j))) h
 | .str i,.str j=>Q (.bl (decide (i=j))) h
 |_,_=>False
def neD:RD2:=λx y h Q=>match x,y with
 | .int i,.int j=>Q (.bl (!decide (i=j))) h
 | .bl i,.bl j=>Q (.bl (!decide (i=j))) h
 | .str i,.str j=>Q (.bl (!decide (i=j))) h
 |_,_=>False
section
variable {X:Cx}
theorem ZP {f:G1->G1->Sem G1}{C:P9->P9->Prop}{g:P9->P9->V}{gd:P9->P9->D}{r:RD2}(ho:OpR X f (rI C g))(hg: ∀i j H,RelD X.K H (gd i j) (g i j))
 (hr: ∀x y h Q,r x y h Q-> ∃i j,x= .int i/\y= .int j/\C i j/\Q (gd i j) h):OpQ X f r:=ho.imp λx y H Q ⟨dx,dy,h,Qd,rx,ry,rh,q,p⟩=>by
 obtain⟨i,j,e1,e2,c,q'⟩:=hr dx dy h Qd q;subst e1 e2;exact⟨i,j,rx,ry,c,p _ _ _ _ (.refl H) rh (hg i j H) q'⟩
theorem wO {f:G1->G1->Sem G1}{g:P9->P9->V}{gd:P9->P9->D}{r:RD2}(ho:OpR X f (rI0 g))(hg: ∀i j H,RelD X.K H (gd i j) (g i j))
 (hr: ∀x y h Q,r x y h Q-> ∃i j,x= .int i/\y= .int j/\Q (gd i j) h):OpQ X f r:=ho.imp λx y H Q ⟨dx,dy,h,Qd,rx,ry,rh,q,p⟩=>by
 obtain⟨i,j,e1,e2,q'⟩:=hr dx dy h Qd q;subst e1 e2;exact⟨i,j,rx,ry,p _ _ _ _ (.refl H) rh (hg i j H) q'⟩
theorem Xw:OpQ X (N3 .Sub) Be:=wO (gd:=λi j=> .int (i-j)) PK (λ_ _ _=>rfl) λx y h Q q=>by
 cases x<;>first|exact False.elim q|(cases y<;>first|exact False.elim q|exact⟨_,_,rfl,rfl,q⟩)
theorem va:OpQ X (N3 .Mod) BT:=ZP (gd:=λi j=> .int (i%j)) PL (λ_ _ _=>rfl) λx y h Q q=>by
 cases x<;>first|exact False.elim q|(cases y<;>first|exact False.elim q|exact⟨_,_,rfl,rfl,q.1,q.2⟩)
theorem QR:OpQ X (N3 .FloorDiv) MY:=ZP (gd:=λi j=> .int (i / j)) XX (λ_ _ _=>rfl) λx y h Q q=>by
 cases x<;>first|exact False.elim q|(cases y<;>first|exact False.elim q|exact⟨_,_,rfl,rfl,q.1,q.2⟩)
theorem Vg:OpQ X (N3 .Pow) MZ:=ZP (gd:=λi j=> .int (i^j.toNat)) PM (λ_ _ _=>rfl) λx y h Q q=>by
 cases x<;>first|exact False.elim q|(cases y<;>first|exact False.elim q|exact⟨_,_,rfl,rfl,q.1,q.2⟩)
theorem Jc {p:P9->P9->B3}: ∀x y h Q,QQ p x y h Q-> ∃i j,x= .int i/\y= .int j/\Q (.bl (p i j)) h:=λx y h Q q=>by
 cases x<;>first|exact False.elim q|(cases y<;>first|exact False.elim q|exact⟨_,_,rfl,rfl,q⟩)
theorem DF:OpQ X (S8 .Lt) (QQ λi j=>decide (i<j)):=wO (gd:=λi j=> .bl (decide (i<j))) Mr (λ_ _ _=>rfl) Jc
theorem UE:OpQ X (S8 .LtE) (QQ λi j=>decide (i<=j)):=wO (gd:=λi j=> .bl (decide (i<=j))) Ms (λ_ _ _=>rfl) Jc
theorem UF:OpQ X (S8 .Gt) (QQ λi j=>decide (j<i)):=wO (gd:=λi j=> .bl (decide (j<i))) Mt (λ_ _ _=>rfl) Jc
theorem DG:OpQ X (S8 .GtE) (QQ λi j=>decide (j<=i)):=wO (gd:=λi j=> .bl (decide (j<=i))) Mu (λ_ _ _=>rfl) Jc
theorem Pe {α:Type}[DecidableEq α]{f:α->V}(hf: ∀a b,f a=f b->a=b)(a b:α):decide (f a=f b)=decide (a=b):=by
 by_cases h:a=b
 ·subst h;simp
 ·rw [S0 h,S0 (λe=>h (hf a b e))]
theorem oq_eq:OpQ X (S8 .Eq) eqD:=op_eq.imp λx y H Q ⟨dx,dy,h,Qd,rx,ry,rh,q,p⟩=>by
 cases dx<;>first|exact False.elim q|(cases dy<;>first|exact False.elim q|skip)
 all_goals first
  |(cases (show x= .int _ from rx);cases (show y= .int _ from ry);refine⟨rfl,p _ _ _ _ (.refl H) rh ?_ q⟩;rw [Pe (f:=V.int) (λa b e=>by cases e;rfl)];rfl)
  |(cases (show x= .bl _ from rx);cases (show y= .bl _ from ry);refine⟨rfl,p _ _ _ _ (.refl H) rh ?_ q⟩;rw [Pe (f:=V.bl) (λa b e=>by cases e;rfl)];rfl)
  |(cases (show x= .str _ from rx);cases (show y= .str _ from ry);refine⟨rfl,p _ _ _ _ (.refl H) rh ?_ q⟩;rw [Pe (f:=V.str) (λa b e=>by cases e;rfl)];rfl)
theorem oq_ne:OpQ X (S8 .NotEq) neD:=op_ne.imp λx y H Q ⟨dx,dy,h,Qd,rx,ry,rh,q,p⟩=>by
 cases dx<;>first|exact False.elim q|(cases dy<;>first|exact False.elim q|skip)
 all_goals first
  |(cases (show x= .int _ from rx);cases (show y= .int _ from ry);refine⟨rfl,p _ _ _ _ (.refl H) rh ?_ q⟩;rw [Pe (f:=V.int) (λa b e=>by cases e;rfl)];rfl)
  |(cases (show x= .bl _ from rx);cases (show y= .bl _ from ry);refine⟨rfl,p _ _ _ _ (.refl H) rh ?_ q⟩;rw [Pe (f:=V.bl) (λa b e=>by cases e;rfl)];rfl)
  |(cases (show x= .str _ from rx);cases (show y= .str _ from ry);refine⟨rfl,p _ _ _ _ (.refl H) rh ?_ q⟩;rw [Pe (f:=V.str) (λa b e=>by cases e;rfl)];rfl)
def DH (K:G2):R2:=λx y H Q=> ∃a b xs ys,x= .ref a/\y= .ref b/\SqT K H a xs/\SqT K H b ys/\xs= []/\Q (.ref b) H
theorem op_catT0:OpR X (N3 .Add) (DH X.K):=by
 intro pins s σ H x y v u Q I rx ry h;obtain⟨a,b,xs,ys,rfl,rfl,ha,hb,hx,q⟩:=h;cases rx;cases ry;obtain⟨its,r1,p1,_⟩:=I.tuple ha;obtain⟨its2,r2,p2,_⟩:=I.tuple hb;have hv:its= []:=r1.nil_iff.mpr hx;obtain⟨⟨cls,dd,data,sl⟩,ho,hc,n,hd⟩:=id p1;obtain⟨⟨cls2,dd2,data2,sl2⟩,ho2,hc2,n2,hd2⟩:=id p2;simp only at hc hd hc2 hd2;subst hc hd hc2 hd2;exact fJ ⟨_,ho,rfl⟩ ⟨_,ho2,rfl⟩ bJ dN V9 V1 (Q7 _ _)
  (tuple_addW0 a b its.toArray its2.toArray n n2 dd dd2 sl sl2 (by simp [hv])) ⟨ho,ho2,.ref b,H,I,rfl,q⟩
theorem jG:OpQ X (N3 .Add) Bd:=(op_add.or (op_catT.or (op_catT0.or PZ))).imp λx y H Q ⟨dx,dy,h,Qd,rx,ry,rh,q,p⟩=>by
 cases dx<;>first|exact False.elim q|(cases dy<;>first|exact False.elim q|skip)
 ·exact .inl ⟨_,_,rx,ry,p (.int _) _ _ _ (.refl H) rh rfl q⟩
 ·rename_i ds es;obtain⟨a,vs,e1,h1,r1⟩:=(show ∃a vs,x= .ref a/\H a=some (.tup vs)/\RelDs X.K H ds vs from rx);obtain⟨b,us,e2,h2,r2⟩:=(show ∃a vs,y= .ref a/\H a=some (.tup vs)/\RelDs X.K H es vs from ry);subst e1 e2;obtain⟨hz,q⟩:=q
  by_cases hv:vs= []
  ·subst hv;have e:ds= []:=E3.mp r1.length;subst e;exact .inr (.inr (.inl ⟨a,b,[],us,rfl,rfl,SqT.of h1,SqT.of h2,rfl,p (.tup es) _ _ _ (.refl H) rh ⟨b,us,rfl,h2,r2⟩ q⟩))
  ·refine .inr (.inl ⟨a,b,vs,us,rfl,rfl,SqT.of h1,SqT.of h2,hv,by rw [<-r1.length,<-r2.length];exact hz,λe=> ?_,λ_ c hc=> ?_⟩)
   ·subst e;have e:es= []:=E3.mp r2.length;subst e;rw [U2] at q;exact p (.tup ds) _ _ _ (.refl H) rh ⟨a,vs,rfl,h1,r1⟩ q
   ·exact p (.tup (ds++es)) _ _ _ (.new hc) (rh.new hc) ⟨c,vs++us,rfl,jf,(r1.append r2).mono (.new hc)⟩ q
 ·rename_i a b;obtain⟨xs,ys,h1,h2,hz,q⟩:=q;obtain⟨vs,e1,r1⟩:=rh a xs h1;obtain⟨us,e2,r2⟩:=rh b ys h2;refine .inr (.inr (.inr ⟨a,b,vs,us,rx.1,ry.1,e1,e2,by rw [<-r1.length,<-r2.length];exact hz,λc hc=> ?_⟩));exact p (.lst c) _ _ _ (.new hc) (rh.newL hc (r1.append r2)) ⟨rfl,_,jf⟩ (q c (rh.free hc))
theorem RelDs.flat {K:G2}{H:Hp}{ds:G0 D}{vs:G0 V}(r:RelDs K H ds vs): ∀k:P4,RelDs K H (D9 k ds).flatten (D9 k vs).flatten
 |0=>by simp;exact .nil
 |k+1=>by rw [C8,C8,A5,A5];exact r.append (RelDs.flat r k)
theorem oq_mul:OpQ X (N3 .Mult) Bf:=(op_mul.or Da).imp λx y H Q ⟨dx,dy,h,Qd,rx,ry,rh,q,p⟩=>by
 cases dx<;>first|exact False.elim q|(cases dy<;>first|exact False.elim q|skip)
 ·exact .inl ⟨_,_,rx,ry,q.1,p (.int _) _ _ _ (.refl H) rh rfl q.2⟩
 ·obtain⟨xs,h1,b1,b2,hz,q⟩:=q;obtain⟨vs,e1,r1⟩:=rh _ xs h1;refine .inr ⟨_,_,vs,rx.1,ry,e1,b1,b2,by rw [<-r1.length];exact hz,λc hc=> ?_⟩;exact p (.lst c) _ _ _ (.new hc) (rh.newL hc (r1.flat _)) ⟨rfl,_,jf⟩ (q c (rh.free hc))
end
def ixD:RD2:=λx y h Q=>match x,y with
 | .tup ds,.int i=> ∃d,atI ds i=some d/\Q d h
 | .lst a,.int i=> ∃ds d,h a=some ds/\atI ds i=some d/\Q d h
 | .scr ns,.int i=> ∃n,atI ns i=some n/\Q (.int n) h
 |_,_=>False
theorem Vh {vs:G0 V}(r:RelDs K H ds vs){i:P9}{d:D}(e:atI ds i=some d): ∃v,atI vs i=some v/\RelD K H d v:=by
 unfold atI at e ⊢;rw [<-r.length];cases q:ixN ds.length i with
 |none=>rw [q] at e;cases e
 |some j=>rw [q] at e;exact r.get e
theorem Vi {β:Type}(f:α->β){xs:G0 α}{i:P9}{x:α}(e:atI xs i=some x):atI (xs.map f) i=some (f x):=by
 unfold atI at e ⊢;rw [G8];cases q:ixN xs.length i with
 |none=>rw [q] at e;cases e
 |some j=>
  rw [q] at e;show (xs.map f)[j]? =_;rw [R4,(show xs[j]? =some x from e)];rfl
section
variable {X:Cx}{a b e:D3}{ta tb te:TED}{pos p2:Pos}
theorem Na: ∀σ H Q,LE X.K (dOp ixD ta tb) σ H Q->tOp (rIx X.K) (LE X.K ta) (LE X.K tb) σ H Q:=λσ H Q ⟨nF,h,Qd,rs,rh,t,p⟩=>
 LE.bind rs rh t λdx x h1 H1 k1 rs1 rh1 r1 t1=>LE.bind rs1 rh1 t1 λdy y h2 H2 k2 rs2 rh2 ry q=>by
  have rx:=r1.mono k2;have kk:=k1.trans k2;cases dx<;>first|exact False.elim q|(cases dy<;>first|exact False.elim q|skip)
  ·rename_i ds i;obtain⟨d,e,q⟩:=q;obtain⟨a,vs,e1,hH,r⟩:=(show ∃a vs,x= .ref a/\H2 a=some (.tup vs)/\RelDs X.K H2 ds vs from rx);obtain⟨v,e2,rv⟩:=Vh r e;exact .inr (.inl ⟨a,vs,i,v,e1,ry,SqT.of hH,e2,p _ _ _ _ kk rh2 rv q⟩)
  ·rename_i a i;obtain⟨ds,d,hd,e,q⟩:=q;obtain⟨vs,hH,r⟩:=rh2 a ds hd;obtain⟨v,e2,rv⟩:=Vh r e;exact .inl ⟨a,vs,i,v,rx.1,ry,SqL.of hH,e2,p _ _ _ _ kk rh2 rv q⟩
  ·rename_i ns i;obtain⟨n,e,q⟩:=q;obtain⟨a,e1,hS⟩:=(show ∃a,x= .ref a/\Scr X.K H2 a ns from rx);exact .inl ⟨a,_,i,.int n,e1,ry,hS.sq,Vi V.int e,p (.int n) _ _ _ kk rh2 rfl q⟩
theorem qix (ha:QE X a ta)(hb:QE X b tb)(hs:yS b):QE X (.Subscript a b pos) (dOp ixD ta tb):=(PV PX ha hb hs).imp Na
end
def Md:RDn:=λds h Q=>match ds with
 | [.tup xs]=>Q (.int xs.length) h
 | [.lst a]=> ∃xs,h a=some xs/\Q (.int xs.length) h
 | [.scr ns]=>Q (.int ns.length) h
 |_=>False
def Nb:RDn:=λds h Q=>match ds with
 | [.int i]=>Q (.int i) h
 | [.bl k]=>Q (.int (if k then 1 else 0)) h
 |_=>False
def Nc:RDn:=λds h Q=>match ds with
 | [.int i,.int j]=>Q (.int (if j>i then j else i)) h
 |_=>False
def Vj:RDn:=λds h Q=>match ds with
 | [.int i,.int j]=>Mc i j/\Q (.tup [.int (i / j),.int (i%j)]) h
 |_=>False
def Xx:RDn:=λds h Q=>match ds with
 | [.tup xs]=>Q (.tup xs) h
 | [.lst a]=> ∃xs,h a=some xs/\Q (.tup xs) h
 |_=>False
def Wz:RDn:=λds h Q=>match ds with
 | [.lst a]=> ∃xs,h a=some xs/\Q (.tup xs) (Ja h a)
 |_=>False
section
variable {X:Cx}
theorem DI:wk X (.builtin "len") Md:=call_len_seq.imp λxs H Q ⟨ds,h,Qd,r,rh,q,p⟩=>by
 unfold Md at q;split at q
 ·rename_i es;obtain⟨v,e,r1⟩:=jB r;obtain⟨a,vs,e1,hH,r2⟩:=(show ∃a vs,v= .ref a/\H a=some (.tup vs)/\RelDs X.K H es vs from r1);subst e e1;exact⟨a,vs,rfl,.inr (SqT.of hH),by rw [<-r2.length];exact p (.int _) _ _ _ (.refl H) rh rfl q⟩
 ·rename_i a;obtain⟨es,hd,q⟩:=q;obtain⟨v,e,r1⟩:=jB r;obtain⟨vs,hH,r2⟩:=rh a es hd;have e1:v= .ref a:=r1.1;subst e e1;exact⟨a,vs,rfl,.inl (SqL.of hH),by rw [<-r2.length];exact p (.int _) _ _ _ (.refl H) rh rfl q⟩
 ·rename_i ns;obtain⟨v,e,r1⟩:=jB r;obtain⟨a,e1,hS⟩:=(show ∃a,v= .ref a/\Scr X.K H a ns from r1);subst e e1;exact⟨a,_,rfl,.inl hS.sq,by rw [G8];exact p (.int _) _ _ _ (.refl H) rh rfl q⟩
 ·exact q.elim
theorem Xy:wk X (.type "int") Nb:=call_int1.imp λxs H Q ⟨ds,h,Qd,r,rh,q,p⟩=>by
 unfold Nb at q;split at q
 ·rename_i i;obtain⟨v,e,r1⟩:=jB r;cases (show v= .int i from r1);exact .inl ⟨i,e,p (.int i) _ _ _ (.refl H) rh rfl q⟩
 ·rename_i k;obtain⟨v,e,r1⟩:=jB r;cases (show v= .bl k from r1);exact .inr ⟨k,e,p (.int _) _ _ _ (.refl H) rh rfl q⟩
 ·exact q.elim
theorem DJ (hc:X.calm=true):wk X (.builtin "max") Nc:=(YQ hc).imp λxs H Q ⟨ds,h,Qd,r,rh,q,p⟩=>by
 unfold Nc at q;split at q
 ·rename_i i j;obtain⟨v,w,e,r1,r2⟩:=wN r;cases (show v= .int i from r1);cases (show w= .int j from r2);exact⟨i,j,e,p (.int _) _ _ _ (.refl H) rh rfl q⟩
 ·exact q.elim
theorem Vk:wk X (.builtin "divmod") Vj:=call_divmod.imp λxs H Q ⟨ds,h,Qd,r,rh,q,p⟩=>by
 unfold Vj at q;split at q
 ·rename_i i j;obtain⟨c,q⟩:=q;obtain⟨v,w,e,r1,r2⟩:=wN r;cases (show v= .int i from r1);cases (show w= .int j from r2);exact⟨i,j,e,c,λa ha=>p (.tup [.int (i / j),.int (i%j)]) _ _ _ (.new ha) (rh.new ha) ⟨a,_,rfl,jf,.cons rfl (.cons rfl .nil)⟩ q⟩
 ·exact q.elim
theorem cq_tuple:wk X (.type "tuple") Xx:=call_tuple_of.imp λxs H Q ⟨ds,h,Qd,r,rh,q,p⟩=>by
 unfold Xx at q;split at q
 ·rename_i es;obtain⟨v,e,r1⟩:=jB r;obtain⟨a,vs,e1,hH,r2⟩:=(show ∃a vs,v= .ref a/\H a=some (.tup vs)/\RelDs X.K H es vs from r1);subst e e1;exact⟨a,vs,rfl,.inr ⟨SqT.of hH,p (.tup es) _ _ _ (.refl H) rh ⟨a,vs,rfl,hH,r2⟩ q⟩⟩
 ·rename_i a;obtain⟨es,hd,q⟩:=q;obtain⟨v,e,r1⟩:=jB r;obtain⟨vs,hH,r2⟩:=rh a es hd;have e1:v= .ref a:=r1.1;subst e e1;exact⟨a,vs,rfl,.inl ⟨SqL.of hH,λc hc=>p (.tup es) _ _ _ (.new hc) (rh.new hc) ⟨c,vs,rfl,jf,r2.mono (.new hc)⟩ q⟩⟩
 ·exact q.elim
theorem JU:wk X (.type "tuple") Wz:=cq_tuple.imp λxs H Q ⟨ds,h,Qd,r,rh,q,p⟩=>by
 unfold Wz at q;split at q
 ·rename_i a;obtain⟨es,hd,q⟩:=q;exact⟨[.lst a],h,λd h'=>Qd d (Ja h' a),r,rh,⟨es,hd,q⟩,λd v h' H' k rh' rd q'=>p d v _ H' k (rh'.sub (Sub.drop h' a)) rd q'⟩
 ·exact q.elim
end
def yp:D->G6 T0
 | .non=>some "NoneType" | .bl _=>some "bool" | .int _=>some "int" | .str _=>some "str" | .tup _=>some "tuple" | .lst _=>some "list" | .dic _ _=>some "dict" | .dct _=>none| .scr _=>none| .exc _=>none| .fn _=>none| .exf _ _=>none
def QU (T:T0)(n:T0):B3:=n==T||(T== "int" &&n== "bool")
theorem UG {d:D}{v:V}{n:T0}(r:RelD K H d v)(e:yp d=some n):TyOf K H v (.type n):=by
 cases d with
 |non=>cases (show v= .non from r);cases e;exact .non
 |bl b=>cases (show v= .bl b from r);cases e;exact .bl b
 |int i=>cases (show v= .int i from r);cases e;exact .int i
 |str x=>cases (show v= .str x from r);cases e;exact .str x
 |tup ds=>
  obtain⟨a,vs,e1,hH,_⟩:=(show ∃a vs,v= .ref a/\H a=some (.tup vs)/\RelDs K H ds vs from r);subst e1;cases e;exact .tup hH
 |lst a=>
  obtain⟨e1,vs,hH⟩:=(show v= .ref a/\ ∃vs,H a=some (.lst vs) from r);subst e1;cases e;exact .lst hH
 |dic x i=>
  obtain⟨a,e1,hH⟩:=(show ∃a,v= .ref a/\H a=some (.dK [(K6 x,V.int i)]) from r);subst e1;cases e;exact .dK hH
 |dct a=>cases e
 |scr ns=>cases e
 |exc C=>cases e
 |fn a=>cases e
 |exf C fs=>cases e
def QV:G0 T0:= ["NoneType","bool","int","str","tuple","list","dict"]
theorem Ye {d:D}{n:T0}(e:yp d=some n):n∈QV:=by
 cases d<;>cases e<;>decide
def Nd (K:G2):Prop:= ∀n∈QV,∀T∈ ["tuple","int","bool","list","str"],aC K (.type n) (.type T)=some (QU T n)
theorem QX (K:G2):Nd K:=by
 intro n hn T hT;simp only [QV,P2,T3,or_false] at hn hT;rcases hn with rfl|rfl|rfl|rfl|rfl|rfl|rfl<;>rcases hT with rfl|rfl|rfl|rfl|rfl<;>with_unfolding_all rfl
theorem Vl (T:T0):CallR X (.builtin "isinstance") (λxs H Q=> ∃x t b,xs= [x,.ty T]/\TyOf X.K H x t/\aC X.K t (.type T)=some b/\Q (.bl b) H):=by
 intro pins s σ H xs us Q I r h;obtain⟨x,t,b,rfl,ty,e,q⟩:=h;obtain⟨u,w',rfl,rx,rt⟩:=YO r;cases (show w'=dW T from rt);exact YT I rx ty e λtk=>⟨.bl b,H,I.tok tk,rfl,q⟩
def dIs (T:T0)(ta:TED):TED:=λσ h Q=>ta σ h λx h1=> ∃n,yp x=some n/\Q (.bl (QU T n)) h1
theorem Nf {a:D3}{ta:TED}{T:T0}{t:Str}{p p2:Pos}(hT:T∈ ["tuple","int","bool","list","str"])(hg:Gl X "isinstance")(hm:X.mg "isinstance" =none)(hg2:Gl X t)(hm2:X.mg t=none)(hv:B4 t=some (.type T))(ha:QE X a ta)
 (hn:t≠ "__name__" :=by decide)(hd:(t==("__debug__" :Str))=false:=by decide)
 (h1:G9 [a,.Name t p2] X.env=(false,M2 a X.env)::G9 [.Name t p2] X.env:=by rfl)(h2:(M9 pos (G9 [.Name t p2] X.env)).any (·.1)=false:=by rfl):
 QE X (.Call (.Name "isinstance" p) [a,.Name t p2] [] pos) (dIs T ta):=
 (yI (Vl T) hg hm J4 (zb ha (zb (YG (v:= .ty T) hg2 hm2 hv rfl hn hd) pa_nil (by rfl)) h1) (by decide) (by decide) h1 h2).imp
  λσ H Q ⟨nF,h,Qd,rs,rh,t,p⟩=>LE.bind rs rh t λd v h1 H1 k1 rs1 rh1 r1 ⟨n,e,q⟩=>⟨v,.type n,QU T n,rfl,UG r1 e,QX _ n (Ye e) T hT,p (.bl _) _ _ _ k1 rh1 rfl q⟩
theorem Vm (bs:G0 B3):(O5 bs.length).all (λi=>bs.getD i false)=bs.all id:=by
 induction bs with
 |nil=>rfl
 |cons b bs ih=>
  rw [T5,List.range_succ_eq_map,dQ,kO,dQ];show (b&&_)=(b&&bs.all id);rw [<-ih];rfl
theorem Vn {bs:G0 B3}{its:G0 G1}(r:Vals (bs.map V.bl) its){i:P4}{v:G1}(e:its[i]? =some v):v= .bool (bs.getD i false):=by
 have hl:=r.length;rw [G8] at hl;have hi:i<its.length:=(P1.mp e).1;have hb:(bs.map V.bl)[i]? =some (.bl bs[i]):=by rw [R4,R3 (by omega)];rfl
 obtain⟨u,e1,r1⟩:=r.get hb;rw [e] at e1;cases e1;rw [aK,R3 (by omega)];exact r1
section
variable {X:Cx}
theorem Jd (hc:X.calm=true):CallR X (.builtin "all") (λxs H Q=> ∃ (a:G5) (bs:G0 B3),xs= [.ref a]/\SqL X.K H a (bs.map V.bl)/\Q (.bl (bs.all id)) H):=by
 intro pins s σ H xs us Q I r h;obtain⟨a,bs,rfl,hS,q⟩:=h;obtain⟨u,rfl,ru⟩:=yc r;cases ru;obtain⟨its,rv,pl,hz⟩:=I.list hS;have hl:=pl.isList;have hlt:a<s.heap.objs.size:=by obtain⟨_,e,_⟩:=hl;exact P5 e
 refine call_all_walk (aZ hl ?_);refine⟨s.heap.objs.size,_,_,_,_,_,λi=>bs.getD i false,rfl,Walks.list (A:=X.A.in1) (show X.A.in1.handled=none from I.ok.hd hc) s.heap.objs.size a (R7 hlt) its.toArray,⟨⟨_,S5 _ rfl,rfl,rfl⟩,hl.push _⟩,?_,λh' tk hk=> ?_⟩
 ·intro i v s' Q' E' hP hQ;have e:its[i]? =some v:=by simpa using hP
  rw [Vn rv e];exact C6 hQ
 ·have hn:its.toArray.size=bs.length:=by rw [D0,<-rv.length,G8]
  rw [hn,Vm];exact⟨.bl _,H,I.kept (t':=tk) (λb o e=>hk b o (λz=>by rw [R6.mp z] at e;exact absurd (P5 e) (N6 _)) (G7 _ e)),rfl,q⟩
theorem vb {K:G2}{H:Hp}: ∀ {bs:G0 B3} {vs:G0 V},RelDs K H (bs.map D.bl) vs->vs=bs.map V.bl
 | [],_,h=>h
 |b::bs,vs,h=>by
  obtain⟨v,r,e,h1,h2⟩:=(show ∃v r,vs=v::r/\RelD K H (.bl b) v/\RelDs K H (bs.map D.bl) r from h);rw [e,vb h2,(show v= .bl b from h1)];rfl
def DK:RDn:=λds h Q=> ∃ (a:G5) (bs:G0 B3),ds= [.lst a]/\h a=some (bs.map D.bl)/\Q (.bl (bs.all id)) (Ja h a)
theorem JV (hc:X.calm=true):wk X (.builtin "all") DK:=(Jd hc).imp λxs H Q ⟨ds,h,Qd,r,rh,⟨a,bs,e,hd,q⟩,p⟩=>by
 subst e;obtain⟨v,e,r1⟩:=jB r;obtain⟨vs,hH,r2⟩:=rh a _ hd;have e1:v= .ref a:=r1.1;rw [vb r2] at hH;subst e e1;exact⟨a,bs,rfl,SqL.of hH,p (.bl _) _ _ _ (.refl H) (rh.sub (Sub.drop h a)) rfl q⟩
end
def Bg (to:TED)(te:TED):TED:=λσ h Q=>to σ h λx h1=> ∃a,x= .lst a/\te σ h1 λy h2=> ∃xs,h2 a=some xs/\xs.length<sizeLine/\Q .non (zA h2 a (xs++ [y]))
section
variable {X:Cx}{o e i:D3}{to te ti:TED}{apos cpos pos:Pos}
theorem BU (ho:QE X o to)(he:QE X e te)(hbase:F7 o "append" X.env (M2 o X.env)=M2 o X.env:=by rfl)
 (hfew:((M9 cpos (G9 [e] X.env)).all (λx=> !x.1)&&(aH cpos (K3 [] X.env)).all (λx=>x.1.isSome)&&decide ([e].length+([]:G0 E8).length+(if ([]:G0 E8).isEmpty then 0 else 1)<30))=true:=by rfl)
 (hline:(apos.endLine==cpos.line)=true:=by rfl)(hs:G9 [e] X.env=(false,M2 e X.env)::G9 [] X.env:=by rfl)(hplain:(M9 cpos (G9 [] X.env)).any (·.1)=false:=by rfl):
 QE X (.Call (.Attribute o "append" apos) [e] [] cpos) (Bg to te):=
 (YY V3 iV iW YZ ho (zb he pa_nil hs) hbase hfew hline hs hplain).imp
  λσ H Q ⟨nF,h,Qd,rs,rh,t,p⟩=>LE.bind rs rh t λd v h1 H1 k1 rs1 rh1 r1 ⟨a,e,q⟩=>by
   subst e;obtain⟨e1,vs,hH⟩:=(show v= .ref a/\ ∃vs,H1 a=some (.lst vs) from r1);subst e1;refine⟨.inl ⟨rfl,vs,SqL.of hH⟩,?_⟩;refine LE.bind rs1 rh1 q λy u h2 H2 k2 rs2 rh2 r2 ⟨xs,hx,hz,q2⟩=> ?_
   obtain⟨ws,hW,r3⟩:=rh2 a xs hx;refine⟨a,ws,u,rfl,rfl,hW,by rw [<-r3.length];exact hz,p .non _ _ _ (k1.trans (k2.trans (.put hW))) (rh2.put hW (r3.append (.cons r2 .nil))) rfl q2⟩
def DL (to ti:TED):TGD:=λd σ h Q=>to σ h λo h1=>ti σ h1 λi h2=> ∃a k xs j,o= .lst a/\i= .int k/\h2 a=some xs/\ixN xs.length k=some j/\Q σ (zA h2 a (xs.set j d))
theorem DM (ho:QE X o to)(hi:QE X i ti)
 (ha: ∀v,Y3 (.Subscript o i pos) X.env v=(do
  let ov <-V7 [v] (M2 o X.env)
  let iv <-V7 [v,ov] (M2 i X.env)
  c5 pos
  V7 [v,ov,iv] (kK ov iv v)
  mD [v,ov,iv] []):=by intro _;rfl):QG X (.Subscript o i pos) (DL to ti):=
 (PB ho hi Uq ha).imp λv σ H Q ⟨d,nF,h,Qd,r,rs,rh,q,p⟩=>
  LE.bind rs rh q λd1 v1 h1 H1 k1 rs1 rh1 r1 q1=>LE.bind rs1 rh1 q1 λd2 v2 h2 H2 k2 rs2 rh2 r2 ⟨a,k,xs,j,e1,e2,hx,hj,q2⟩=>by
   subst e1 e2;have e3:v1= .ref a:=(r1.mono k2).1;obtain⟨ws,hW,r3⟩:=rh2 a xs hx;refine⟨a,ws,k,j,e3,r2,hW,by rw [<-r3.length];exact hj,p _ _ _ _ (k1.trans (k2.trans (.put hW))) (rs2.mono (.put hW)) (rh2.put hW (RelDs.set ((r.mono k1).mono k2) j r3)) q2⟩
end
def WA (N:G0 Str)(sc:G0 (Str×NameKind))(scope:N0)(js:G0 P4):B3:=
 scope.kind== .function&&scope.names.all (λp=>p.2 != .cell||scope.names.lookup p.1==some .cell)&&scope.names.all (λp=>p.2 != .local||scope.names.lookup p.1==some .local)&&
 scope.names.all (λp=>p.2 != .free||sc.lookup p.1==some .cell||sc.lookup p.1==some .free)&&
 (O5 N.length).all λi=>(scope.names.lookup (N.getD i i9) !=some .local&&scope.names.lookup (N.getD i i9) !=some .cell)||js.contains i
theorem zi (h:WA X.N X.env.scope.names scope js=true):BlockOk X scope js:=by
 unfold WA at h;simp only [R1] at h;obtain⟨⟨⟨⟨h1,h2⟩,h3⟩,h4⟩,h5⟩:=h;refine⟨eq_of_beq h1,λp hp e=> ?_,λp hp e=> ?_,λp hp e=> ?_,λi x e1 e2=> ?_⟩
 ·have:=D7.mp h3 p hp;rw [e] at this;simpa using this
 ·have:=D7.mp h2 p hp;rw [e] at this;simpa using this
 ·have:=D7.mp h4 p hp;rw [e] at this;simpa using this
 ·have hi:i<X.N.length:=(P1.mp e1).1;have:=D7.mp h5 i (g7.mpr hi);rw [aK,e1,Option.getD_some] at this;rcases e2 with e2|e2<;>(rw [e2] at this;simpa using this)
theorem qpt {t:TTD}(h:QW X e t):QT X e t:=h.pt
end L2
namespace HT
open PySem PySem.Spec PyProof.Rows
section
variable {prog:D2}{w:S4}{A:R0}{E:G1->G4->Prop}{s:G4}
theorem wz {t sl:G5}{items:B7 G1}{vl vu:G1}{lo hi:G6 P9}{Q:G1->G4->Prop}(ht:lC s.heap t items)(hs:s.heap.IsSliceOf sl vl vu .none)(pl:bG vl lo)(pu:bG vu hi)
 (hw:sIx items.size 0 lo=0/\sIx items.size items.size hi=items.size)(h:Q (.ref t) s):D5 (D8 prog w) A (dB (.ref t) (.ref sl)) Q E s:=by
 obtain⟨os,hos,hcs,hds⟩:=id hs;have hTs:s.TypeIs (.ref sl) "slice" :=⟨os,hos,hcs⟩;unfold dB
 try with_reducible refine O2 ?_
 first|refine wpAny_bind (P6 ?_)|skip
 refine wpAny_bind (fK ht.typeIs (by decide) ?_);refine wpAny_bind (bL (name:=G3 "__getitem__") ht.typeIs C9
  (X4 C9 ht.typeIs dF ?_ (dZ _ _)))
 show D5 _ _ (aF (.ref t) >>= _) _ _ s;refine wpAny_bind (iP ht ?_);refine wpAny_bind (fL hTs ?_);rw [S2 (by decide)];refine wpAny_bind (zP hs pl pu ?_);have hyes:((((sIx items.size 0 lo:P4):P9)==0&&(1:P9)==1&&(sIx items.size items.size hi-sIx items.size 0 lo)==items.size)=true):=by
  rw [hw.1,hw.2];simp
 show D5 _ _ (if (((sIx items.size 0 lo:P4):P9)==0&&(1:P9)==1&&(sIx items.size items.size hi-sIx items.size 0 lo)==items.size)=true then _ else _) _ _ s;rw [S2 hyes];refine wpAny_bind (m:=aL (.ref t)) ?_;unfold aL;refine wpAny_bind (fL ht.typeIs (P6 ?_));rw [S2 (by decide)];exact wpAny_bind (lR (P6 ⟨_,rfl,P6 h⟩))
end
end HT
namespace L2
open PySem PySem.Spec PyProof.Rows
def BV (K:G2):V->G6 P9->G6 P9->Hp->VK->Prop:=λx lo hi H Q=> ∃a xs,x= .ref a/\SqT K H a xs/\(HT.sIx xs.length 0 lo=0/\HT.sIx xs.length xs.length hi=xs.length)/\Q (.ref a) H
variable {X:Cx}
theorem sl_whole:SlR X (BV X.K):=by
 intro pins s σ H x v vl vu lo hi sl Q I rx hs pl pu h;obtain⟨a,xs,rfl,hx,hw,q⟩:=h;cases rx;obtain⟨its,r,ht,hz⟩:=I.tuple hx;have hlen:its.toArray.size=xs.length:=by rw [D0];exact r.length.symm
 refine⟨"tuple",_,PyProof.Rows.slot_tuple_getitem.lookup,ht.typeIs,?_⟩;exact HT.wz ht hs pl pu (by rw [hlen];exact hw) ⟨.ref a,H,I,rfl,q⟩
def zU {α:Type}(xs:G0 α)(lo hi:G6 P9):G0 α:=(xs.drop (HT.sIx xs.length 0 lo)).take (HT.sIx xs.length xs.length hi-HT.sIx xs.length 0 lo)
abbrev TOD:=SD->HD->(G6 P9->HD->Prop)->Prop
def Vo:TOD:=λ_ h Q=>Q none h
def DN (t:TED):TOD:=λσ h Q=>t σ h λx h1=> ∃i,x= .int i/\Q (some i) h1
def LO (K:G2)(t:TOD):TO:=λσ H Q=> ∃nF h Qd,RelS K H nF σ/\RelH K h H/\t nF h Qd/\ ∀o h' H',Kept H H'->RelH K h' H'->Qd o h'->Q o H'
theorem LO.bind {K:G2}{ta:TOD}{σ:St}{H:Hp}{nF:SD}{h:HD}{kd:G6 P9->HD->Prop}{k:G6 P9->Hp->Prop}(rs:RelS K H nF σ)(rh:RelH K h H)(t:ta nF h kd)(f: ∀o h' H',Kept H H'->RelS K H' nF σ->RelH K h' H'->kd o h'->k o H'):LO K ta σ H k:=
 ⟨nF,h,kd,rs,rh,t,λo h' H' kp r1 q=>f o h' H' kp (rs.mono kp) r1 q⟩
theorem PO.imp {e:G6 D3}{t t':TO}(h:PO X e t)(i: ∀σ H Q,t' σ H Q->t σ H Q):PO X e t':=λpins s σ H Q I q=>h pins s σ H Q I (i σ H Q q)
abbrev QO (X:Cx)(e:G6 D3)(t:TOD):Prop:=PO X e (LO X.K t)
theorem QY:QO X none Vo:=po_none.imp λσ H Q ⟨nF,h,Qd,rs,rh,q,p⟩=>p none h H (.refl H) rh q
theorem QZ {e:D3}{te:TED}(he:QE X e te):QO X (some e) (DN te):=(Qi he).imp λσ H Q ⟨nF,h,Qd,rs,rh,q,p⟩=>
 LE.bind rs rh q λd v h1 H1 k1 rs1 rh1 r1 ⟨i,e,q1⟩=>by subst e;exact⟨i,r1,p _ _ _ k1 rh1 q1⟩
def slD:D->G6 P9->G6 P9->HD->KD->Prop:=λx lo hi h Q=>match x with
 | .tup ds=>Q (.tup (zU ds lo hi)) h
 | .scr ns=> ∀p,h p=none->Q (.lst p) (zA h p ((zU ns lo hi).map D.int))
 | .lst a=> ∃ds,h a=some ds/\ ∀p,h p=none->Q (.lst p) (zA h p (zU ds lo hi))
 |_=>False
def dSl (te:TED)(tl th:TOD):TED:=λσ h Q=>te σ h λx h1=>tl σ h1 λl h2=>th σ h2 λu h3=>slD x l u h3 Q
theorem Je {K:G2}{H:Hp}{ds:G0 D}{vs:G0 V}(r:RelDs K H ds vs)(lo hi:G6 P9):RelDs K H (zU ds lo hi) (Ug vs lo hi):=by
 unfold zU Ug;rw [r.length];exact(r.drop _).take _
theorem Vp {α β:Type}(f:α->β)(xs:G0 α)(lo hi:G6 P9):zU (xs.map f) lo hi=(zU xs lo hi).map f:=by
 unfold zU;rw [G8,List.map_take,List.map_drop]
theorem DO {e:D3}{te:TED}{lo hi:G6 D3}{tl th:TOD}{pos p2:Pos}(he:QE X e te)(hl:QO X lo tl)(hu:QO X hi th):QE X (.Subscript e (.Slice lo hi none p2) pos) (dSl te tl th):=
 (Wq (sl_tup.or (sl_whole.or Qj)) he hl hu).imp λσ H Q ⟨nF,h,Qd,rs,rh,q,p⟩=>
  LE.bind rs rh q λd v h1 H1 k1 rs1 rh1 r1 q1=>LO.bind rs1 rh1 q1 λl h2 H2 k2 rs2 rh2 q2=>LO.bind rs2 rh2 q2 λu h3 H3 k3 rs3 rh3 q3=>by
   have rv:=(r1.mono k2).mono k3;have kk:=k1.trans (k2.trans k3);cases d<;>first
    |exact False.elim q3
    |skip
   ·rename_i ds;obtain⟨a,vs,e1,hH,r⟩:=(show ∃a vs,v= .ref a/\H3 a=some (.tup vs)/\RelDs X.K H3 ds vs from rv)
    by_cases hw:HT.sIx vs.length 0 l=0/\HT.sIx vs.length vs.length u=vs.length
    ·refine .inr (.inl ⟨a,vs,e1,SqT.of hH,hw,p (.tup (zU ds l u)) _ _ _ kk rh3 ⟨a,vs,rfl,hH,?_⟩ q3⟩);have z:=Je r l u;have e:Ug vs l u=vs:=by unfold Ug;rw [hw.1,hw.2];simp
     rwa [e] at z
    ·exact .inl ⟨a,vs,e1,SqT.of hH,hw,λc hc=>p (.tup (zU ds l u)) _ _ _ (kk.trans (.new hc)) (rh3.new hc) ⟨c,_,rfl,jf,(Je r l u).mono (.new hc)⟩ q3⟩
   ·rename_i a;obtain⟨ds,hd,q3⟩:=q3;obtain⟨vs,hH,r⟩:=rh3 a ds hd;exact .inr (.inr ⟨a,vs,rv.1,SqL.of hH,λc hc=>p (.lst c) _ _ _ (kk.trans (.new hc)) (rh3.newL hc (Je r l u)) ⟨rfl,_,jf⟩ (q3 c (rh3.free hc))⟩)
   ·rename_i ns;obtain⟨a,e1,hS⟩:=(show ∃a,v= .ref a/\Scr X.K H3 a ns from rv);refine .inr (.inr ⟨a,_,e1,hS.sq,λc hc=>p (.lst c) _ _ _ (kk.trans (.new hc)) (rh3.newL hc ?_) ⟨rfl,_,jf⟩ (q3 c (rh3.free hc))⟩);have z:=Je (yg (K:=X.K) (H:=H3) ns) l u
    rwa [Vp] at z
end L2
namespace HT
open PySem PySem.Spec PyProof.Rows
open Sem (wp)
open Builtin
theorem yA:fillsNumberSlot (.type "tuple") "mul" =pure false:=
 PySem.fillsNumberSlot_seq (id:= "tuple.__mul__") (r:=some (.builtin "tuple.__rmul__")) F.slot_tuple_mul.lookup (by decide +kernel) F.slot_tuple_rmul.lookup (by decide +kernel)
theorem JY:l8 (.type "tuple")=pure (some (.builtin "tuple.__mul__")):=by
 unfold l8;rw [gE (T:= "tuple") (name:= "__mul__") (id:= "tuple.__mul__") F.slot_tuple_mul.lookup (by decide +kernel),gE (T:= "tuple") (name:= "__rmul__") (id:= "tuple.__rmul__") F.slot_tuple_rmul.lookup (by decide +kernel)];rfl
section
variable {prog:D2}{w:S4}{A:R0}{E:G1->G4->Prop}{s:G4}
theorem Jf {k:P9}{t:Tok}{l:G5}{o:Obj}{its:B7 G1}{n:P4}{P:j0->G4->Prop}(at_:s.heap.get? l=some o)(tup:o.cls= .type "tuple")(dat:o.data= .seq its n)(h:P (.done (.ret .notImplemented)) s):D5 (D8 prog w) A (Builtin.«int.__rmul__» ⟨[.int k t,.ref l],[]⟩) P E s:=by
 obtain⟨c,dd,dt,sl⟩:=o;cases tup;cases dat;obtain⟨hp,g,d,tk,os⟩:=s
 wp_walk
 exact h
theorem ZQ {l:G5}{its:B7 G1}{n:P4}{x:P9}{u:Tok}{dd:G6 G5}{sl:B7 (G6 G1)}{P:j0->G4->Prop}(at_:s.heap.get? l=some {cls:= .type "tuple",dict:=dd,data:= .seq its n,slots:=sl})(fits: -(2^63)<=x/\x<2^63)
 (same:(its.isEmpty||x==1)=true->P (.done (.ret (.ref l))) s)
 (gone:(its.isEmpty||x==1)=false->(decide (x<=0)||its.isEmpty)=true->P (.done (.ret (.ref s.heap.objs.size))) {s with heap:=s.heap.push {cls:= .type "tuple",data:= .seq #[]}})
 (more:(its.isEmpty||x==1)=false->(decide (x<=0)||its.isEmpty)=false-> ¬ (its.size:P9)*x>(2^63-1) / 8/\aM ((its.size:P9)*x)=false/\((D9 x.toNat its).foldl (· ++ ·) #[]).size<=sizeLine/\
  P (.done (.ret (.ref s.heap.objs.size))) {s with heap:=s.heap.push {cls:= .type "tuple",data:= .seq ((D9 x.toNat its).foldl (· ++ ·) #[])}}):
 D5 (D8 prog w) A (Builtin.«tuple.__mul__» ⟨[.ref l,.int x u],[]⟩) P E s:=by
 obtain⟨hp,g,d,tk,os⟩:=s
 wp_walk
 rw [S6 (by simp only [Y6,fU];omega)]
 wp_walk
 cases c1:(its.isEmpty||x==1) with
 |true=>
  rw [S2 rfl]
  wp_walk
  exact same c1
 |false=>
  rw [S6 P8];cases c2:(decide (x<=0)||its.isEmpty) with
  |true=>
   rw [S2 rfl]
   wp_walk
   exact gone c1 c2
  |false=>
   obtain⟨m1,m2,m3,m4⟩:=more c1 c2;rw [S6 P8];dsimp only;rw [S6 m1,m2,S6 P8]
   wp_walk
   exact m4
end
end HT
namespace L2
open PySem PySem.Spec PyProof.Rows
def Ng (K:G2):R2:=λx y H Q=> ∃ (a:G5) (k:P9) (xs:G0 V),x= .ref a/\y= .int k/\SqT K H a xs/\ -(2^63)<=k/\k<2^63/\xs.length*k.toNat<=sizeLine/\
 ((xs= []\/k=1)->Q (.ref a) H)/\(¬ (xs= []\/k=1)-> ∀p,H p=none->Q (.ref p) (upd H p (.tup (D9 k.toNat xs).flatten)))
theorem yK {l:G0 G1}:l.toArray= #[]↔l= []:=by cases l<;>simp
variable {X:Cx}
theorem Ga:OpR X (N3 .Mult) (Ng X.K):=by
 intro pins s σ H x y v u Q I rx ry h;obtain⟨a,k,xs,rfl,rfl,hH,h1,h2,hz,q1,q2⟩:=h;cases rx;obtain⟨t,rfl⟩:=ry;obtain⟨its,r,ht,_⟩:=I.tuple hH;obtain⟨⟨cls,dd,data,sl⟩,ho,hc,n,hd⟩:=id ht;simp only at hc hd;subst hc hd;have hl:=r.length;have hnew:(D9 k.toNat its.toArray).foldl (· ++ ·) #[]=(D9 k.toNat its).flatten.toArray:=by
  have:=yT its k.toNat [];rw [L4] at this;exact this
 have few:its.length*k.toNat<=sizeLine:=by rw [<-hl];exact hz
 have free:=I.hok.fresh (P0 _);refine aT (T:= "tuple") (U:= "int") (by decide) ⟨_,ho,rfl⟩ (λs'=>bU s' k t) HT.yA gQ Y5 HT.JY F.slot_int_index.lookup
  (X4 Y5 (bU s k t) gA (HT.Jf ho rfl rfl ⟨_,rfl,rfl,⟨_,ho,rfl⟩,X4 F.slot_tuple_mul ⟨_,ho,rfl⟩ F.entry_tuple_mul (HT.ZQ ho ⟨h1,h2⟩ (λc=> ?_) (λc c0=> ?_) (λc c0=> ?_)) (F.args_tuple_mul_2 _ _)⟩) (fP _ _))
 ·refine⟨_,rfl,.ref a,H,I,rfl,q1 ?_⟩;simp only [Y6,beq_iff_eq,fV,yK] at c;exact c.imp (λe=>r.nil_iff.mp e) id
 ·simp only [cW,beq_eq_false_iff_ne,aN,ne_eq,yK] at c;have k0:k.toNat=0:=by
   simp only [Y6,fU,fV,yK] at c0;have:=c0.resolve_right c.1;omega
  have last:=q2 (λz=>z.elim (λe=>c.1 (r.nil_iff.mpr e)) c.2) _ free;rw [k0] at last;exact⟨_,rfl,.ref s.heap.objs.size,_,I.laid (t':=s.toks) (o:= .tup []) (λb ob q=>G7 _ q) (P0 _) ⟨by decide,[],.nil,IsTupN.new _ _⟩,rfl,last⟩
 ·simp only [cW,beq_eq_false_iff_ne,aN,ne_eq,yK,decide_eq_false_iff_not] at c c0;have em:((its.toArray.size:P4):P9)*k=((its.length*k.toNat:P4):P9):=by rw [Int.natCast_mul,D0,show ((k.toNat:P4):P9)=k by omega]
  have cap:(sizeLine:P4)<=(2^63-1) / 8:=by decide
  rw [em,hnew];refine⟨by omega,by unfold aM;exact S0 (by omega),by rw [D0,ZN,fQ];exact few,_,rfl,.ref s.heap.objs.size,_,I.laid (t':=s.toks) (o:= .tup (D9 k.toNat xs).flatten) (λb ob q=>G7 _ q) (P0 _) ⟨by rw [ZN,fQ];exact hz,_,r.rep k.toNat,IsTupN.new _ _⟩,rfl,q2 (λz=>z.elim (λe=>c.1 (r.nil_iff.mpr e)) c.2) _ free⟩
def Bh:RD2:=λx y h Q=>match x,y with
 | .tup ds,.int k=> -(2^63)<=k/\k<2^63/\ds.length*k.toNat<=sizeLine/\Q (.tup (D9 k.toNat ds).flatten) h
 |x,y=>Bf x y h Q
theorem Jg:OpQ X (N3 .Mult) Bh:=(oq_mul.or Ga).imp λx y H Q ⟨dx,dy,h,Qd,rx,ry,rh,q,p⟩=>by
 by_cases ht: ∃ds k,dx= .tup ds/\dy= .int k
 ·obtain⟨ds,k,e1,e2⟩:=ht;subst e1 e2;obtain⟨b1,b2,hz,q⟩:=q;obtain⟨a,vs,e,hH,r⟩:=(show ∃a vs,x= .ref a/\H a=some (.tup vs)/\RelDs X.K H ds vs from rx);refine .inr ⟨a,k,vs,e,ry,SqT.of hH,b1,b2,by rw [<-r.length];exact hz,λhs=> ?_,λ_ c hc=>p (.tup _) _ _ _ (.new hc) (rh.new hc) ⟨c,_,rfl,jf,(r.flat _).mono (.new hc)⟩ q⟩;refine p (.tup _) _ _ _ (.refl H) rh ⟨a,vs,rfl,hH,?_⟩ q;rcases hs with e0|e1
  ·subst e0;have:ds= []:=E3.mp r.length;subst this;simpa using r
  ·subst e1;simpa using r
 ·refine .inl ⟨dx,dy,h,Qd,rx,ry,rh,?_,p⟩;unfold Bh at q;split at q
  ·exact absurd ⟨_,_,rfl,rfl⟩ ht
  ·exact q
def Nh:D->HD->KD->Prop:=λx h Q=>match x with
 | .int i=>Q (.int (-i)) h
 |_=>False
def dUn (f:D->HD->KD->Prop)(ta:TED):TED:=λσ h Q=>ta σ h λx h1=>f x h1 Q
theorem BW {a:D3}{ta:TED}{pos:Pos}(ha:QE X a ta):QE X (.UnaryOp .USub a pos) (dUn Nh ta):=
 (Mq PN ha).imp λσ H Q ⟨nF,h,Qd,rs,rh,t,p⟩=>LE.bind rs rh t λd v h1 H1 k1 rs1 rh1 r1 q=>by
  cases d<;>first
   |exact False.elim q
   |exact⟨_,r1,p (.int _) _ _ _ k1 rh1 rfl q⟩
def WB (x:Str)(i:P9):TED:=λ_ h Q=>Q (.dic x i) h
variable {p:G5}
theorem UH {H:Hp}{a b:HO}:upd (upd H p a) p b=upd H p b:=by
 funext q;unfold upd;split<;>rfl
variable {x:Str}
theorem DP {i:P9}{j k:P4}{pos p1 p2:Pos}:QE X (.Dict [some (.Constant (.str x) j p1)] [.Constant (.int i) k p2] pos) (WB x i):=by
 have h0:PPs X pos [some (.Constant (.str x) j p1)] [.Constant (.int i) k p2] [(tC (.str x),tC (.int i))]:=Ut pe_str pe_int Qo;refine PE.imp (Qp h0 rfl rfl (by simp) (by simp)) ?_;rintro σ H Q ⟨nF,h,Qd,rs,rh,t,p⟩ q hq;show upd H q (.dK []) q=some (.dK [])/\_;refine⟨jf,[((K6 x:Key),V.int i)],rfl,by simp,?_⟩;rw [UH];exact p (.dic x i) (.ref q) h _ (.new hq) (rh.new hq) ⟨q,rfl,jf⟩ t
def ZR:G0 (G6 D3)->G0 D3->G6 (Str×P9)
 | [some (.Constant (.str x) _ _)],[.Constant (.int i) _ _]=>some (x,i)
 |_,_=>none
theorem DQ {ks:G0 (G6 D3)}{vs:G0 D3}{pos:Pos}{i:P9}(h:ZR ks vs=some (x,i):=by rfl):QE X (.Dict ks vs pos) (WB x i):=by
 unfold ZR at h;split at h
 ·cases h;exact DP
 ·cases h
def DR (K:G2)(tl:TE):TI:=λσ H R=>tl σ H λx H1=> ∃a,x= .ref a/\((∃xs,SqL K H1 a xs/\R (Itl K a) H1)\/ ∃xs,SqT K H1 a xs/\R (Itt K a) H1)
theorem DS {tg l:D3}{tl:TE}(hl:PE X l tl):PI X tg l (DR X.K tl):=by
 intro pins s σ H R I h;refine thn (hl pins s σ H _ I h) λv s1 ⟨x,H1,I1,r1,q1⟩=> ?_
 obtain⟨a,e,q⟩:=q1;subst e;cases r1;rcases q with ⟨xs,hq,q⟩|⟨xs,hq,q⟩
 ·obtain⟨its,rv,p,hz⟩:=I1.list hq;refine aZ p.isList ?_;refine⟨s1.heap.objs.size,[s1.heap.objs.size],_,_,H1,rfl,I1.kept (t':=s1.toks) λb o e=>G7 _ e,JF a _,⟨_,S5 _ rfl,rfl,rfl⟩,λb hb=> ?_,q⟩;have e:b=s1.heap.objs.size:=by simpa using hb
  subst e;exact I1.fpOk (P0 _) (I1.hok.fresh (P0 _))
 ·obtain⟨its,rv,p,hz⟩:=I1.tuple hq;refine wpAny_pyIter_tuple (show s1.heap.IsTuple a its.toArray from p) ?_;refine⟨s1.heap.objs.size,[s1.heap.objs.size],_,_,H1,rfl,I1.kept (t':=s1.toks) λb o e=>G7 _ e,WT a _,⟨_,S5 _ rfl,rfl,rfl⟩,λb hb=> ?_,q⟩;have e:b=s1.heap.objs.size:=by simpa using hb
  subst e;exact I1.fpOk (P0 _) (I1.hok.fresh (P0 _))
def iS (te:TED):TID:=λσ h R=>te σ h λx h1=>match x with
 | .lst a=>R (λh=>h a) h1
 | .tup ds=>R (λ_=>some ds) h1
 | .scr ns=>R (λ_=>some (ns.map D.int)) h1
 |_=>False
variable {K:G2}{a:G5}
theorem UI {H:Hp}{ns:G0 P9}(hs:Scr K H a ns):QJ K H (λ_=>some (ns.map D.int)) (Itl K a):=λH' h' k rh ds' e i=>by
 cases e;have hs':Scr K H' a ns:=hs.elim (λ⟨o,z⟩=> .inl ⟨o,k.frz _ _ _ z⟩) .inr;refine⟨λd hd=> ?_,λhl=>⟨_,hs'.sq,by simpa using hl⟩⟩;obtain⟨v,e1,e2⟩:=(yg (K:=K) (H:=H') ns).get hd;refine⟨⟨_,v,hs'.sq,e1⟩,λx H'' ⟨eH,hx⟩=> ?_⟩;subst eH;have:=hx _ hs'.sq;rw [e1] at this;cases this;exact⟨.refl _,rh,e2⟩
variable {te:TED}
theorem DT: ∀σ H R,LI K (iS te) σ H R->DR K (LE K te) σ H R:=λσ H R ⟨nF,h,Rd,rs,rh,q,p⟩=>
 LE.bind rs rh q λd v h1 H1 k1 rs1 rh1 r1 q1=>by
  cases d<;>first
   |exact False.elim q1
   |skip
  ·rename_i ds;obtain⟨a,vs,e,hv,r⟩:=(show ∃a vs,v= .ref a/\H1 a=some (.tup vs)/\RelDs K H1 ds vs from r1);exact⟨a,e,.inr ⟨vs,SqT.of hv,p _ _ _ _ k1 rh1 (UD hv r) q1⟩⟩
  ·rename_i a;obtain⟨e,vs,hv⟩:=(show v= .ref a/\ ∃vs,H1 a=some (.lst vs) from r1);exact⟨a,e,.inl ⟨vs,SqL.of hv,p _ _ _ _ k1 rh1 (JR H1 a) q1⟩⟩
  ·rename_i ns;obtain⟨a,e,hS⟩:=(show ∃a,v= .ref a/\Scr K H1 a ns from r1);exact⟨a,e,.inl ⟨_,hS.sq,p _ _ _ _ k1 rh1 (UI hS) q1⟩⟩
theorem DU {tg e:D3}(he:QE X e te):QI X tg e (iS te):=(DS he).imp DT
def Xz:TSD:=λ_ _ _=>False
theorem DV {st:M4}:QS X st Xz:=λ_ _ _ _ _ _ ⟨_,_,_,_,_,z,_⟩=>z.elim
structure Zs (mg:Str->G6 G1):Prop where
 len:mg "len" =none
 max:mg "max" =none
 min:mg "min" =none
 divmod:mg "divmod" =none
 all:mg "all" =none
 any:mg "any" =none
 repr:mg "repr" =none
 sum:mg "sum" =none
 sorted:mg "sorted" =none
 int:mg "int" =none
 tuple:mg "tuple" =none
 list:mg "list" =none
 set:mg "set" =none
 bool:mg "bool" =none
 isinstance:mg "isinstance" =none
 range:mg "range" =none
 zip:mg "zip" =none
 enumerate:mg "enumerate" =none
 reversed:mg "reversed" =none
def jN (P:D2)(w:S4)(K:G2)(mg:Str->G6 G1)(base:S3)(n:P4)(x:Str)(ps:G0 Str)(sp:RDn):Prop:=
 ∃ (g:G5) (gd:D6),FnOk P w K mg base CX0 n g gd ps (LSp K sp)/\Binds K gd ps []/\N4 K (.ref g)=true/\mg x=some (.ref g)
def Vq:RDn:=λds h Q=> ∃ns,ds= [.scr ns]/\(∀a,h a=none)/\ns.length<=63/\ ∀h',Q (.bl true) h'
def Bm (mg:Str->G6 G1)(base:S3):Prop:= ∃bm ob,mg "__builtins__" =some (.ref bm)/\bm≠Z8/\base.get? bm=some ob/\ob.cls= .type "module" /\ob.dict=some Z8/\ob.data= .plain
def zr (K:G2):G0 (G5×G5):=LN.filterMap (bH K)
theorem TabK.mem {P:G5}(h:TabK K P): ∃c,(c,P)∈zr K:=let ⟨x,hx,c,e⟩:=h;⟨c,E5.mpr ⟨x,hx,e⟩⟩
theorem Vr {P:D2}{w:S4}{mg mb:Str->G6 G1}{k:P4}{fa:G5}{fd:D6}{nG:G4}{vs:G0 G1}{ns:G0 P9}
 (KX:K.In nG.heap)(hns:nG.heap.Ns mainGlobals mg)(hb:nG.heap.Ns Z8 mb)(hbb: ∀x:Str,x≠ "__name__" ->mb x=B4 x)(hlim:nG.heap.NoLimit)(hg:nG.gens= #[])
 (ha:nG.heap.get? a=some {cls:= .type "list",data:= .seq vs.toArray})(hi:g0 vs ns)(hl:ns.length<=63)(hr:Room k dD)
 (hbm:Bm mg nG.heap)(F: ∀base:S3,K.In base->base.Ns mainGlobals mg->Bm mg base->FnOk P w K mg base CX0 k fa fd [x] (LSp K Vq))(hbind: ∀ (s:G4) (u:G1),c8 s fd ⟨[u],[]⟩ [(x,u)])
 (hT: ∀p∈zr K,iB nG.heap p.1 p.2/\nG.heap.get? p.2=some (cX #[])/\K.lookup p.2=none):
 A9 (D8 P w) dD (.call (.ref fa) ⟨[.ref a],[]⟩) (λr s'=>r= .ok (.ret (.bool true))/\OldK nG.heap s'.heap/\s'.os=nG.os/\Z1 s'.gens) nG:=by
 have rv:=JN hi;have lenV:=hi.length;have hz:ns.length<=sizeLine:=R8 hl (by decide);have hT': ∀b,b∈(zr K).map (·.2)-> ∃c,iB nG.heap c b/\nG.heap.get? b=some (cX #[])/\K.lookup b=none:=λb hb=>by
  obtain⟨p,hp,rfl⟩:=T1.mp hb;exact⟨p.1,hT p hp⟩
 have core: ∀H:Hp,Scr K H a ns->HOk P w H nG.heap->(∀b u,H b=some u->(b=a/\K.lookup a=none/\ ∃o xs,u= .frz o (.lst xs))\/(b∈(zr K).map (·.2)/\u= .tbl #[]))->(∀b,b∈(zr K).map (·.2)->H b=some (.tbl #[]))->
  A9 (D8 P w) dD (.call (.ref fa) ⟨[.ref a],[]⟩) (λr s'=>r= .ok (.ret (.bool true))/\OldK nG.heap s'.heap/\s'.os=nG.os/\Z1 s'.gens) nG:=by
  intro H hS hok hA hTt;have noA: ∀ {b:G5} {o:Obj} {es:B7 DictEntry} {ep:P4},nG.heap.get? b=some o->o.data= .dict es ep->H b=none:=λ{b o es ep} e d=>by
   cases q:H b with
   |none=>rfl
   |some u=>
    rcases hA b u q with ⟨rfl,_,_⟩|⟨z,_⟩
    ·rw [ha] at e;cases e;have d':Data.seq vs.toArray _=Data.dict es ep:=d;cases d'
    ·obtain⟨c,_,e2,_⟩:=hT' b z;rw [e2] at e;cases e;have d':Data.fields _=Data.dict es ep:=d;cases d'
  have nsK: ∀ {b:G5} {m:Str->G6 G1},nG.heap.Ns b m->(Uh nG.heap H).Ns b m:=λ{b m} ⟨o,es,ep,e,d,r⟩=>⟨o,es,ep,vW e (noA e d),d,r⟩
  have hKb:K.In (Uh nG.heap H):=λb o e=>vW (KX b o e) (by
   cases q:H b with
   |none=>rfl
   |some u=>
    rcases hA b u q with ⟨rfl,z,_⟩|⟨z,_⟩
    ·rw [z] at e;cases e
    ·obtain⟨c,_,_,z2⟩:=hT' b z;rw [z2] at e;cases e)
  have hM:Mod K mg (Uh nG.heap H):=⟨hKb,nsK hns,⟨mb,nsK hb,hbb⟩,let ⟨mc,h1,h2⟩:=hlim;⟨mc,nsK h1,h2⟩⟩;have e0:Env0 P w K mg (Uh nG.heap H) dD [] nG H:=⟨rfl,hM,λb o e=>XQ e,bV (YD _ _),trivial,λb hb=>absurd (show b∈([]:G0 G5) from hb) (by simp),hok,.of_eq hg⟩;have hsp:LSp K Vq [.ref a] H (λv _=>v= .bl true) (λ_ _ _=>False):=by
   refine⟨[.scr ns],⟨λ_=>none,λ_=>none⟩,λd _=>d= .bl true,⟨.ref a,[],rfl,⟨a,rfl,hS⟩,rfl⟩,⟨λb ds e=>(by cases e),λp hp=> ?_,λb c e=>(by cases e)⟩,⟨ns,rfl,λ_=>rfl,hl,λ_=>rfl⟩,?_⟩
   ·obtain⟨c,hc⟩:=hp.mem;exact⟨#[],hTt p (List.mem_map_of_mem (f:=(·.2)) hc),trivial,λpos cv e=>(by cases e)⟩
   ·intro d v h' H' _ _ r e;subst e;exact r
  have hBm:Bm mg (Uh nG.heap H):=by
   obtain⟨bm,ob,b1,b2,b3,b4,r⟩:=hbm;refine⟨bm,ob,b1,b2,vW b3 ?_,b4,r⟩;cases q:H bm with
   |none=>rfl
   |some u=>
    rcases hA bm u q with ⟨rfl,_,_⟩|⟨z,_⟩
    ·rw [ha] at b3;cases b3;exact absurd (Value.type.inj b4) (by decide)
    ·obtain⟨c,_,e2,_⟩:=hT' bm z;rw [e2] at b3;cases b3;cases b4
  refine E6 ((F _ hKb (nsK hns) hBm).run dD [] nG H ⟨[.ref a],[]⟩ [.ref a] [.ref a] _ _ hr e0 (hbind nG (.ref a)) (.cons rfl .nil) hsp) λr s' h=> ?_
  cases r with
  |error e=>exact False.elim h
  |ok fl=>
   cases fl with
   |next=>exact False.elim h
   |brk=>exact False.elim h
   |cont=>exact False.elim h
   |ret u=>
    obtain⟨v,H',os,bare,un,hok',r',q⟩:=h;have q':v= .bl true:=q;subst q';obtain rfl:u=g6 true:=r';have one: ∀b o,nG.heap.get? b=some o->s'.heap.get? b=some o\/(b∈(zr K).map (·.2)/\ ∃more,s'.heap.get? b=some (cX more)):=λb o e=>by
     cases q:H b with
     |none=>exact .inl (un.keep b o e q (by intro z;exact absurd (show b∈([]:G0 G5) from z) (by simp)) (by simp))
     |some u=>
      rcases hA b u q with ⟨rfl,_,ob,xs,rfl⟩|⟨z,rfl⟩
      ·have z2:=un.frzs _ ob _ q;obtain⟨e1,_⟩:=hok _ _ q;obtain⟨e2,_⟩:=hok' _ _ z2;rw [e] at e1;cases e1;exact .inl e2
      ·obtain⟨more,z2⟩:=un.tbls b _ q;exact .inr ⟨z,_,(show s'.heap.get? b=some _ from hok' b _ z2)⟩
    refine⟨rfl,⟨λb o e=> ?_,λb o e=> ?_⟩,os,bare⟩
    ·rcases one b o e with z|⟨z,more,z2⟩
     ·exact .inl z
     ·obtain⟨c,hc,e2,_⟩:=hT' b z;rw [e] at e2;cases e2;refine .inr (.inl ⟨(hc.tab e).isCodeTable,rfl,#[],more,rfl,?_⟩);rw [z2];simp
    ·rcases one b o e with z|⟨z,more,z2⟩
     ·exact⟨_,z⟩
     ·exact⟨_,z2⟩
 have nT:a ∉ (zr K).map (·.2):=λz=>by
  obtain⟨c,_,e2,_⟩:=hT' a z;rw [ha] at e2;cases e2
 have okT: ∀ {H:Hp} (b:G5),b∈(zr K).map (·.2)->ObjOk P w H nG.heap b (.tbl #[]):=λb hb=>let ⟨_,_,e,_⟩:=hT' b hb;e
 cases hk:K.lookup a with
 |some o=>
  have e:=KX a o hk;rw [ha] at e;cases e;refine core (λb=>if b∈(zr K).map (·.2) then some (.tbl #[]) else none) (.inr ⟨_,vs.toArray,_,hk,rfl,rfl,rfl,by rw [D0,lenV];exact hz,by simpa using rv⟩) (λb u z=> ?_) (λb u z=> ?_) λb hb=>S2 hb
  ·by_cases hb:b∈(zr K).map (·.2)
   ·have z':=(S2 hb).symm.trans z;cases z';exact okT b hb
   ·have z':=(S6 hb).symm.trans z;cases z'
  ·by_cases hb:b∈(zr K).map (·.2)
   ·have z':=(S2 hb).symm.trans z;cases z';exact .inr ⟨hb,rfl⟩
   ·have z':=(S6 hb).symm.trans z;cases z'
 |none=>
  refine core (λb=>if b=a then some (.frz {cls:= .type "list",data:= .seq vs.toArray} (.lst (ns.map V.int))) else if b∈(zr K).map (·.2) then some (.tbl #[]) else none) (.inl ⟨{cls:= .type "list",data:= .seq vs.toArray},S2 rfl⟩) (λb u z=> ?_) (λb u z=> ?_) λb hb=> ?_
  ·by_cases hb:b=a
   ·have z':=(S2 hb).symm.trans z;cases z';subst hb;exact⟨ha,by rw [G8];exact hz,vs,_,rv,ha⟩
   ·have z':=(S6 hb).symm.trans z
    by_cases hb2:b∈(zr K).map (·.2)
    ·have z2:=(S2 hb2).symm.trans z';cases z2;exact okT b hb2
    ·have z2:=(S6 hb2).symm.trans z';cases z2
  ·by_cases hb:b=a
   ·have z':=(S2 hb).symm.trans z;cases z';exact .inl ⟨hb,hk,_,_,rfl⟩
   ·have z':=(S6 hb).symm.trans z
    by_cases hb2:b∈(zr K).map (·.2)
    ·have z2:=(S2 hb2).symm.trans z';cases z2;exact .inr ⟨hb2,rfl⟩
    ·have z2:=(S6 hb2).symm.trans z';cases z2
  ·have:b≠a:=λz=>nT (z ▸ hb)
   show (if b=a then _ else _)=_;rw [S6 this,S2 hb]
def Ni (q:D2)(K:G2):B3:=LN.all λx=>match bH K x with
 |some p=>(K.lookup p.2).isNone&&((lQ q).find? (λe=>e.name==x)).isSome
 |none=>true
theorem UJ {l:gV}{k:P4}{q:D2}{loose:G0 Str}{XP:(Str->G6 G1)->S3->Prop}{YP:S4->S3->Prop}{d:DefRec}{K:mY->G2}(hn:l.most=some 63)(hdf:d.params.defaults= [])(hr:Room k dD)
 (hY: ∀ (w:S4) (h:S3),YP w h->(K w.params).In h)(hB: ∀w:S4,Ni q (K w.params)=true)
 (F: ∀ (w:S4) (mg:Str->G6 G1) (fa:G5) (h:S3),(K w.params).In h->h.Ns mainGlobals mg->mg d.name=some (.ref fa)->
  ∃fd:D6,(∀ (s:G4) (u:G1),c8 s fd ⟨[u],[]⟩ [(x,u)])/\ ∀base:S3,(K w.params).In base->base.Ns mainGlobals mg->Bm mg base->FnOk l.prog w (K w.params) mg base CX0 k fa fd [x] (LSp (K w.params) Vq)):
 nC q loose XP YP l.row.toRowW d [] (λf vs=>hU f vs):=by
 refine Att.attach_call hn hdf λw s₀ nG mg mb fa o pm cd doc a vs ns G Y ho hd hcd hmg hobj hints hlen hg=> ?_
 have KX:=hY w _ Y;obtain⟨fd,hb,hF⟩:=F w mg fa _ KX G.T.g hmg;refine Vr KX G.T.g G.T.b G.T.builtins G.T.nolimit hg hobj hints hlen hr G.T.bmain hF hb λp hp=> ?_
 obtain⟨x,hx,e⟩:=E5.mp hp;have z:=D7.mp (hB w) x hx;rw [e] at z;simp only [R1,Option.isNone_iff_eq_none] at z;obtain⟨dd,hdd⟩:=M1.mp z.2;have t:=m7 (c:=p.1) (P:=p.2) G.T KX hdd e;exact⟨t.1,t.2,z.1⟩
def jL:D3->B3
 | .Starred .. =>false
 |_=>true
theorem ZS {e:D3}{es:G0 D3}{env:Env}(h:jL e=true):G9 (e::es) env=(false,M2 e env)::G9 es env:=by
 cases e<;>first|rfl|cases h
theorem qac {e:D3}{es:G0 D3}{t:TAD}(ha:QE X e te)(hr:QA X es t)(h:jL e=true:=by rfl):QA X (e::es) (jU te t):=Qy ha hr (ZS h)
theorem yh {α:Type}{xs:G0 α}{i:P9}(h0:0<=i)(h1:i<xs.length): ∃x∈xs,atI xs i=some x:=by
 have hk:i.toNat<xs.length:=by omega
 have ek:i=((i.toNat:P4):P9):=by omega
 have z:=ZM (R3 hk);rw [<-ek] at z;exact⟨xs[i.toNat],gF hk,z⟩
variable {h h':HD}{L:G0 D}
theorem Sub.both (s:Sub h h'):Sub (zA h p L) (zA h' p L):=⟨λa ds e=>(by
 by_cases q:a=p
 ·subst q;rw [ja] at e ⊢;exact e
 ·rw [zc q] at e ⊢;exact s a ds e),s.dc⟩
theorem Sub.newAt (s:Sub h h')(e:h' p=none):Sub h (zA h' p L):=s.trans (.new e)
structure But (p:G5)(h h':HD):Prop where
 ls: ∀a ds,a≠p->h a=some ds->h' a=some ds
 dc: ∀a c,h.dc a=some c->h'.dc a=some c
instance {p:G5}{h h':HD}:CoeFun (But p h h') λ_=> ∀a ds,a≠p->h a=some ds->h' a=some ds:=⟨But.ls⟩
variable {q:G5}
theorem But.new (s:But p h h')(e:h' q=none):But p h (zA h' q L):=⟨λa ds n z=>(by
 have:=s a ds n z;rw [zc (λw=>by subst w;rw [e] at this;cases this)];exact this),s.dc⟩
theorem But.put (s:But p h h'):But p h (zA h' p L):=⟨λa ds n z=>(by rw [zc n];exact s a ds n z),s.dc⟩
theorem But.putNew (s:But p h h')(e:h q=none):But p h (zA h' q L):=⟨λa ds n z=>(by
 rw [zc (λw=>by subst w;rw [e] at z;cases z)];exact s a ds n z),s.dc⟩
theorem But.sub (s:But p h h')(e:h' p=some L):Sub (zA h p L) h':=⟨λa ds z=>(by
 by_cases q:a=p
 ·subst q;rw [ja] at z;cases z;exact e
 ·rw [zc q] at z;exact s a ds q z),s.dc⟩
theorem But.upd:But p h (zA h p L):=⟨λa ds n z=>(by rw [zc n];exact z),λ_ _ e=>e⟩
theorem ju (e:h p=some L)(f:h q=none):q≠p:=λz=>by subst z;rw [e] at f;cases f
theorem jc {M:G0 D}(e:h p=some L)(f:h q=none):zA h q M p=some L:=by rw [zc (λz=>by subst z;rw [e] at f;cases f)];exact e
theorem Gb {b:G5}(e:zA h a L b=none):b≠a:=λz=>by subst z;rw [ja] at e;cases e
theorem jq {b:G5}{M:G0 D}(n:b≠a)(e:h b=some M):zA h a L b=some M:=by rw [zc n];exact e
theorem JZ {n:P4}{i:P4}{d:D}(h:((O5 n).map λ(k:P4)=>D.int (k:P9))[i]? =some d):i<n/\d= .int i:=by
 rw [R4] at h
 by_cases hi:i<n
 ·rw [dG hi] at h;cases h;exact⟨hi,rfl⟩
 ·rw [cJ (by simpa using hi)] at h;cases h
variable {E:EndsD}{σ:SD}
theorem jj {t u:TSD}(V:SD->HD->Prop)(first: ∀K:SD->HD->Prop,(∀nE h',V nE h'->K nE h')->t {E with nx:=K} σ h)(rest: ∀nE h',V nE h'->u E nE h'):zQ t u E σ h:=first (u E) rest
theorem Vs (b:But p h h')(e:h' q=none)(n:q≠p):h q=none:=by
 cases z:h q with
 |none=>rfl
 |some ds=>rw [b q ds n z] at e;cases e
def Nxt (E:EndsD)(V:SD->HD->Prop):EndsD:= {E with nx:=λnJ h3=> ∃h4,Sub h4 h3/\V nJ h4,ct:=λnJ h3=> ∃h4,Sub h4 h3/\V nJ h4,bk:=E.nx}
variable {h1:HD}
theorem ZT {ta:TAD}{g:TGD}{tb:TSD}(n:P4)(W:P4->SD->HD->Prop)(hn:n<1000000)
 (ht: ∀R:G0 D->HD->Prop,R [.int (n:P9)] h1->ta σ h R)(w0:W 0 σ h1)(done: ∀nE h',W n nE h'->E.nx nE h')
 (turn: ∀i nE h',i<n->W i nE h'->g (.int (i:P9)) nE h' λnI h2=>tb (Nxt E λnJ h4=>i+1<=n/\W (i+1) nJ h4) nI h2):Dx (iR1 ta) g tb E σ h:=by
 refine ht _ ⟨(n:P9),rfl,by omega,by omega,n,λi nE h'=>i<=n/\W i nE h',⟨O4 _,w0⟩,?_⟩;rintro i nE h' ⟨hi,w⟩;refine⟨_,rfl,by simp,λhl=> ?_,λd hd=> ?_⟩
 ·have:i=n:=by simp at hl;omega
  subst this;exact done _ _ w
 ·obtain⟨hi',e⟩:=JZ hd;have hi2:i<n:=by omega
  subst e;exact turn i nE h' hi2 w
theorem WC {ti:TID}{g:TGD}{tb:TSD}{j:ItD}(ds:G0 D)(W:P4->SD->HD->Prop)
 (ht: ∀R:ItD->HD->Prop,R j h1->ti σ h R)(hj: ∀i nE h',W i nE h'->j h'=some ds)(w0:W 0 σ h1)(done: ∀nE h',W ds.length nE h'->E.nx nE h')
 (turn: ∀i d nE h',ds[i]? =some d->W i nE h'->g d nE h' λnI h2=>tb (Nxt E λnJ h4=>i+1<=ds.length/\W (i+1) nJ h4) nI h2):Dx ti g tb E σ h:=by
 refine ht _ ⟨ds.length,λi nE h'=>i<=ds.length/\W i nE h',⟨O4 _,w0⟩,?_⟩;rintro i nE h' ⟨hi,w⟩;refine⟨ds,hj i nE h' w,P0 _,λhl=> ?_,λd hd=>turn i d nE h' hd w⟩;have:i=ds.length:=by omega
 subst this;exact done _ _ w
theorem Za {g:TGD}{tb:TSD}{j:ItD}(ds:G0 D)(W:P4->SD->HD->Prop)
 (hj: ∀i nE h',W i nE h'->j h'=some ds)(w0:W 0 σ h1)(done: ∀nE h',W ds.length nE h'->E.nx nE h')
 (turn: ∀i d nE h',ds[i]? =some d->W i nE h'->g d nE h' λnI h2=>tb (Nxt E λnJ h4=>i+1<=ds.length/\W (i+1) nJ h4) nI h2):
 ∃ (n:P4) (W:P4->SD->HD->Prop),W 0 σ h1/\ ∀i nE h',W i nE h'-> ∃ds,j h'=some ds/\ds.length<=n/\(ds.length<=i->E.nx nE h')/\
  ∀d,ds[i]? =some d->g d nE h' λnI h2=>tb {E with nx:=λnJ h3=> ∃h4,Sub h4 h3/\W (i+1) nJ h4,ct:=λnJ h3=> ∃h4,Sub h4 h3/\W (i+1) nJ h4,bk:=E.nx} nI h2:=by
 refine⟨ds.length,λi nE h'=>i<=ds.length/\W i nE h',⟨O4 _,w0⟩,?_⟩;rintro i nE h' ⟨hi,w⟩;refine⟨ds,hj i nE h' w,P0 _,λhl=> ?_,λd hd=>turn i d nE h' hd w⟩;have:i=ds.length:=by omega
 subst this;exact done _ _ w
theorem DW {i:P4}{js:G0 P4}{ta:TAD}{Q:KD}(n:P4)(W:P4->G0 D->HD->Prop)(hn:n<=1000)(ht: ∀R:G0 D->HD->Prop,R [.int (n:P9)] h1->ta σ h R)
 (w0:W 0 [] h1)(wl: ∀k ys h',W k ys h'->ys.length=k)(turn: ∀k ys h',k<n->W k ys h'->te ((zl js σ).set i (some (.int (k:P9)))) h' λy h4=> ∃h5,Sub h5 h4/\(k+1<=n/\W (k+1) (ys++ [y]) h5))
 (done: ∀ys h',W n ys h'-> ∀p,h' p=none->Q (.lst p) (zA h' p ys)):yJ (bN i) js (iR1 ta) vO te σ h Q:=by
 refine ht _ ⟨(n:P9),rfl,by omega,by omega,n,λk ys h'=>k<=n/\W k ys h',⟨O4 _,w0⟩,?_⟩;rintro k ys h' ⟨hk,w⟩;refine⟨by rw [wl k ys h' w];exact M3 (jQ (by omega)),_,rfl,by simp,λhl p hp=> ?_,λd hd=>⟨_,rfl,?_⟩⟩
 ·have:k=n:=by simp at hl;omega
  subst this;exact done ys h' w p hp
 ·obtain⟨hi',e⟩:=JZ hd;subst e;unfold vO;dsimp only;rw [S2 rfl];exact turn k ys h' (by omega) w
end L2
namespace L2
open PySem PySem.Spec PyProof.Rows PySem.SeqAt
mutual
def ToP (h:HD):D->B9->Prop
 |d,.none=>d= .non
 |d,.bool b=>d= .bl b
 |d,.int i=>d= .int i
 |d,.str x=>d= .str x
 |d,.tuple ps=> ∃ds,d= .tup ds/\ToPs h ds ps
 |d,.list ps=> ∃a ds,d= .lst a/\h a=some ds/\ToPs h ds ps
 |_,.dict _=>False
def ToPs (h:HD):G0 D->G0 B9->Prop
 |ds,[]=>ds= []
 |ds,p::ps=> ∃d r,ds=d::r/\ToP h d p/\ToPs h r ps
end
section
variable {X:Cx}{pins:G0 (G5×Obj)}{σ:St}{H:Hp}{s:G4}{h:HD}
mutual
theorem jW (I:Inv X pins σ H s)(rh:RelH X.K h H): ∀ {p:B9} {d:D} {v:V} {u:G1},ToP h d p->RelD X.K H d v->RelV v u-> ∃as,Reads s.heap u p as
 | .none,d,v,u,t,r,ru=>by cases (show d= .non from t);cases (show v= .non from r);cases (show u= .none from ru);exact⟨[],.none⟩
 | .bool b,d,v,u,t,r,ru=>by cases (show d= .bl b from t);cases (show v= .bl b from r);cases (show u= .bool b from ru);exact⟨[],.bool b⟩
 | .int i,d,v,u,t,r,ru=>by cases (show d= .int i from t);cases (show v= .int i from r);obtain⟨k,rfl⟩:=(show ∃t,u=Z5 i t from ru);exact⟨[],.int i k⟩
 | .str x,d,v,u,t,r,ru=>by cases (show d= .str x from t);cases (show v= .str x from r);obtain⟨k,rfl⟩:=(show ∃t,u=X0 x t from ru);exact⟨[],.str x k⟩
 | .tuple ps,d,v,u,t,r,ru=>by
  obtain⟨ds,e,ts⟩:=(show ∃ds,d= .tup ds/\ToPs h ds ps from t);subst e;obtain⟨a,vs,e,hH,rs⟩:=(show ∃a vs,v= .ref a/\H a=some (.tup vs)/\RelDs X.K H ds vs from r);subst e;cases (show u= .ref a from ru);obtain⟨its,rv,ht,_⟩:=I.tuple (SqT.of hH);obtain⟨o,ho,hc,n,hd⟩:=ht;obtain⟨as,q⟩:=reads_Ds I rh ts rs rv;exact⟨as,.tuple ho hc hd q⟩
 | .list ps,d,v,u,t,r,ru=>by
  obtain⟨a,ds,e,ha,ts⟩:=(show ∃a ds,d= .lst a/\h a=some ds/\ToPs h ds ps from t);subst e;obtain⟨vs,hH,rs⟩:=rh a ds ha;have e:v= .ref a:=r.1;subst e;cases (show u= .ref a from ru);obtain⟨its,rv,pl,_⟩:=I.list (SqL.of hH);obtain⟨o,ho,hc,n,hd⟩:=pl.isList;obtain⟨as,q⟩:=reads_Ds I rh ts rs rv;exact⟨a::as,.list ho hc hd q⟩
 | .dict _,_,_,_,t,_,_=>(show False from t).elim
theorem reads_Ds (I:Inv X pins σ H s)(rh:RelH X.K h H): ∀ {ps:G0 B9} {ds:G0 D} {vs:G0 V} {us:G0 G1},ToPs h ds ps->RelDs X.K H ds vs->Vals vs us-> ∃as,ReadsAll s.heap us ps as
 | [],ds,vs,us,t,r,rv=>by
  cases (show ds= [] from t);cases (show vs= [] from r);cases rv;exact⟨[],.nil⟩
 |p::ps,ds,vs,us,t,r,rv=>by
  obtain⟨d,dr,e,t1,t2⟩:=(show ∃d r,ds=d::r/\ToP h d p/\ToPs h r ps from t);subst e;obtain⟨v,vr,e,r1,r2⟩:=(show ∃v r,vs=v::r/\RelD X.K H d v/\RelDs X.K H dr r from r);subst e;cases rv with
  |cons ru rt=>
   obtain⟨as,q1⟩:=jW I rh t1 r1 ru;obtain⟨bs,q2⟩:=reads_Ds I rh t2 r2 rt;exact⟨as++bs,.cons q1 q2⟩
end
end
def eqE:RD2:=λx y h Q=>match x,y with
 | .int i,.int j=>Q (.bl (decide (i=j))) h
 | .bl i,.bl j=>Q (.bl (decide (i=j))) h
 | .str i,.str j=>Q (.bl (decide (i=j))) h
 |x,y=> ∃p q,ToP h x p/\ToP h y q/\shaped p=true/\shaped q=true/\Q (.bl (T6 p q)) h
def neE:RD2:=λx y h Q=>match x,y with
 | .int i,.int j=>Q (.bl (!decide (i=j))) h
 | .bl i,.bl j=>Q (.bl (!decide (i=j))) h
 | .str i,.str j=>Q (.bl (!decide (i=j))) h
 |x,y=> ∃p q,ToP h x p/\ToP h y q/\shaped p=true/\shaped q=true/\Q (.bl (!T6 p q)) h
section
variable {X:Cx}
def eqG:RD2:=λx y h Q=> ∃p q,ToP h x p/\ToP h y q/\shaped p=true/\shaped q=true/\Q (.bl (T6 p q)) h
def neG:RD2:=λx y h Q=> ∃p q,ToP h x p/\ToP h y q/\shaped p=true/\shaped q=true/\Q (.bl (!T6 p q)) h
theorem DY (hu:X.A.units+64<cLine):OpQ X (S8 .Eq) eqG:=by
 intro pins s σ H x y v u Q I rx ry h;obtain⟨dx,dy,h,Qd,r1,r2,rh,⟨p,q,t1,t2,s1,s2,qq⟩,post⟩:=h;obtain⟨as,a1⟩:=jW I rh t1 r1 rx;obtain⟨bs,b1⟩:=jW I rh t2 r2 ry;exact compareEq_shaped a1 b1 s1 s2 hu ⟨.bl _,H,I,rfl,post (.bl _) _ _ _ (.refl H) rh rfl qq⟩
theorem DZ (hu:X.A.units+64<cLine):OpQ X (S8 .NotEq) neG:=by
 intro pins s σ H x y v u Q I rx ry h;obtain⟨dx,dy,h,Qd,r1,r2,rh,⟨p,q,t1,t2,s1,s2,qq⟩,post⟩:=h;obtain⟨as,a1⟩:=jW I rh t1 r1 rx;obtain⟨bs,b1⟩:=jW I rh t2 r2 ry;exact compareNe_shaped a1 b1 s1 s2 hu ⟨.bl _,H,I,rfl,post (.bl _) _ _ _ (.refl H) rh rfl qq⟩
theorem OpQ.or' {f:G1->G1->Sem G1}{r r' r2:RD2}(h:OpQ X f r)(h':OpQ X f r')(i: ∀x y hh Q,r2 x y hh Q->r x y hh Q\/r' x y hh Q):OpQ X f r2:=λpins s σ H x y v u Q I rx ry ⟨dx,dy,hd,Qd,r1,r2',rh,q,p⟩=>
 (i dx dy hd Qd q).elim (λz=>h pins s σ H x y v u Q I rx ry ⟨dx,dy,hd,Qd,r1,r2',rh,z,p⟩) λz=>h' pins s σ H x y v u Q I rx ry ⟨dx,dy,hd,Qd,r1,r2',rh,z,p⟩
theorem XA (hu:X.A.units+64<cLine):OpQ X (S8 .Eq) eqE:=oq_eq.or' (DY hu) λx y h Q q=>by
 unfold eqE at q;split at q
 ·exact .inl q
 ·exact .inl q
 ·exact .inl q
 ·exact .inr q
theorem Ra (hu:X.A.units+64<cLine):OpQ X (S8 .NotEq) neE:=oq_ne.or' (DZ hu) λx y h Q q=>by
 unfold neE at q;split at q
 ·exact .inl q
 ·exact .inl q
 ·exact .inl q
 ·exact .inr q
end
end L2
namespace L2
open PySem PySem.Spec PyProof.Rows
structure JE (X:Cx)(e:D3)(t:TED):Prop where
 to:QE X e t
structure JT (X:Cx)(e:D3)(t:TTD):Prop where
 to:QT X e t
structure JW (X:Cx)(e:D3)(t:TTD):Prop where
 to:QW X e t
structure JA (X:Cx)(e:G0 D3)(t:TAD):Prop where
 to:QA X e t
structure JS (X:Cx)(e:M4)(t:TSD):Prop where
 to:QS X e t
structure JSs (X:Cx)(e:G0 M4)(t:TSD):Prop where
 to:QSs X e t
structure JG (X:Cx)(e:D3)(t:TGD):Prop where
 to:QG X e t
structure JI (X:Cx)(tg e:D3)(t:TID):Prop where
 to:QI X tg e t
structure JO (X:Cx)(e:G6 D3)(t:TOD):Prop where
 to:QO X e t
section
variable {X:Cx}{a b c e:D3}{es rest:G0 D3}{ta tb tc te:TED}{t u:TAD}{tt tu:TTD}{pos:Pos}{f r r':RD2}
theorem jv (i:P4){x:Str}(hN:X.N[i]? =some x:=by rfl)(hv:Vis X.env.scope x:=by first|exact L9 rfl|exact X6 (L9 rfl)|exact X6 (X6 rfl))(hd:(x==("__debug__" :Str))=false:=by decide)(hcd:(x==("__classdict__" :Str))=false:=by decide):JE X (.Name x pos) (Wv i):=⟨qv (i:=i) (hN:=hN) (hv:=hv) (hd:=hd) (hcd:=hcd)⟩
variable {j:P4}
theorem jz {i:P9}:JE X (.Constant (.int i) j pos) (dC (.int i)):=⟨BC⟩
theorem jbl {i:B3}:JE X (.Constant (.bool i) j pos) (dC (.bl i)):=⟨qbl⟩
theorem XB:JE X (.Constant .none j pos) (dC .non):=⟨BD⟩
theorem jR {x:Str}:JE X (.Constant (.str x) j pos) (dC (.str x)):=⟨BE⟩
theorem Yf {x:Str}{i:P9}{tk:Tok}(hg:Gl X x)(hm:X.mg x=some (.int i tk))(hd:(x==("__debug__" :Str))=false:=by decide):JE X (.Name x pos) (dC (.int i)):=⟨MN (hg:=hg) (hm:=hm) (hd:=hd)⟩
theorem jop {op:lG}(ho:OpQ X (N3 op) f)(ha:JE X a ta)(hb:JE X b tb):JE X (.BinOp a op b pos) (dOp f ta tb):=⟨qop (ho:=ho) (ha:=ha.to) (hb:=hb.to)⟩
theorem Bi {op:cP}(ho:OpQ X (S8 op) f)(ha:JE X a ta)(hb:JE X b tb)(hm:F4 op b=false):JE X (.Compare a [op] [b] pos) (dOp f ta tb):=⟨BF (ho:=ho) (ha:=ha.to) (hb:=hb.to) (hm:=hm)⟩
theorem Vt {op:cP}(ho:OpQ X (S8 op) f)(ha:JE X a ta)(hb:JE X b tb)(hm:F4 op b=false):JT X (.Compare a [op] [b] pos) (wM (dOp f ta tb)):=⟨MO (ho:=ho) (ha:=ha.to) (hb:=hb.to) (hm:=hm)⟩
theorem Vu {op op':cP}(ho:OpQ X (S8 op) r)(ho':OpQ X (S8 op') r')(ha:JE X a ta)(hb:JE X b tb)(hc:JE X c tc)(hm:i8 [op,op'] [b,c]=false:=by with_unfolding_all rfl):JT X (.Compare a [op,op'] [b,c] pos) (wM (Ww r r' ta tb tc)):=⟨Qx (ho:=ho) (ho':=ho') (ha:=ha.to) (hb:=hb.to) (hc:=hc.to) (hm:=hm)⟩
theorem zY (ha:JE X a ta)(he: ∀whole,isTrue a X.env whole=(do let v <-whole;c5 a.pos;V7 [v] (mU v)):=by intro _;rfl):JT X a (wM ta):=⟨MP (ha:=ha.to) (he:=he)⟩
theorem Gc (ha:JT X a tt):JW X (.BoolOp .Or [a] pos) tt:=⟨BG (ha:=ha.to)⟩
theorem Gd (ha:JT X a tt)(hb:JW X (.BoolOp .Or (b::rest) pos) tu):JW X (.BoolOp .Or (a::b::rest) pos) (MI tt tu):=⟨BH (ha:=ha.to) (hb:=hb.to)⟩
theorem wA (ha:JT X a tt):JT X (.UnaryOp .Not a pos) (Uw tt):=⟨MQ (ha:=ha.to)⟩
theorem Ge {op:BoolOp}(ha:JE X a ta):JE X (.BoolOp op [a] pos) ta:=⟨BI (ha:=ha.to)⟩
theorem Me (ha:JE X a ta)(hb:JE X (.BoolOp .And (b::rest) pos) tb):JE X (.BoolOp .And (a::b::rest) pos) (Ux ta tb):=⟨BJ (ha:=ha.to) (hb:=hb.to)⟩
theorem jor (ha:JE X a ta)(hb:JE X (.BoolOp .Or (b::rest) pos) tb):JE X (.BoolOp .Or (a::b::rest) pos) (MJ ta tb):=⟨qor (ha:=ha.to) (hb:=hb.to)⟩
theorem BX (ha:JE X a ta):JE X (.UnaryOp .Not a pos) (Uy ta):=⟨BK (ha:=ha.to)⟩
theorem jif {c:D3}(hc:JT X c tt)(ha:JE X a ta)(hb:JE X b tb):JE X (.IfExp c a b pos) (dIf tt ta tb):=⟨qif (hc:=hc.to) (ha:=ha.to) (hb:=hb.to)⟩
theorem jV:JA X [] Jb:=⟨Do⟩
theorem ZG {k:P4}(h:JA X es t):JE X (.Tuple es k pos) (Pb t):=⟨BL (h:=h.to)⟩
theorem yq (h:JA X es t):JE X (.List es pos) (Pc t):=⟨BM (h:=h.to)⟩
end
section
variable {X:Cx}{st:M4}{sts:G0 M4}{t u:TSD}{e:D3}{te:TED}{pos:Pos}
theorem WD:JSs X [] Yc:=⟨Du⟩
theorem jn (h1:JS X st t)(h2:JSs X sts u):JSs X (st::sts) (zQ t u):=⟨QF (h1:=h1.to) (h2:=h2.to)⟩
theorem jO (h1:JS X st t):JSs X [st] t:=⟨Dv (h1:=h1.to)⟩
theorem Gf (he:JE X e te)(hs:E1 e none pos.line X.env=pure false:=by rfl):JS X (.Expr e pos) (Qz te):=⟨MU (he:=he.to) (hs:=hs)⟩
theorem wm (he:JE X e te):JS X (.Return (some e) pos) (UB te):=⟨BN (he:=he.to)⟩
theorem Mf {c:D3}{a b:G0 M4}{tc:TTD}(hc:JT X c tc)(ha:JSs X a t)(hb:JSs X b u):JS X (.If c a b pos) (Pd tc t u):=⟨BO (hc:=hc.to) (ha:=ha.to) (hb:=hb.to)⟩
variable {i:P4}{x:Str}
theorem Bj {pos':Pos}(hN:X.N.Nodup)(hi:X.N[i]? =some x)(hx:Loc X.env.scope x)(he:JE X e te)(hs:E1 e (some (.Name x pos')) pos.line X.env=pure false:=by rfl)(hf:X.fn x=true\/X.env.scope.names.lookup x=some .local:=by first|exact .inl rfl|exact .inr rfl|assumption):JS X (.Assign [.Name x pos'] e pos) (UC i te):=⟨BP (hN:=hN) (hi:=hi) (hx:=hx) (he:=he.to) (hs:=hs) (hf:=hf)⟩
theorem Gg (hN:X.N.Nodup)(hi:X.N[i]? =some x)(hx:Loc X.env.scope x)(hf:X.fn x=true\/X.env.scope.names.lookup x=some .local:=by first|exact .inl rfl|exact .inr rfl|assumption):JG X (.Name x pos) (gN i):=⟨QH (hN:=hN) (hi:=hi) (hx:=hx) (hf:=hf)⟩
theorem WE {j:P4}{y:Str}{p1 p2:Pos}{k:P4}(hc:X.calm=true)(hN:X.N.Nodup)(hi:X.N[i]? =some x)(hj:X.N[j]? =some y)(hx:Loc X.env.scope x)(hy:Loc X.env.scope y)(hf:X.fn x=true\/X.env.scope.names.lookup x=some .local:=by first|exact .inl rfl|exact .inr rfl|assumption)(hf2:X.fn y=true\/X.env.scope.names.lookup y=some .local:=by first|exact .inl rfl|exact .inr rfl|assumption):JG X (.Tuple [.Name x p1,.Name y p2] k pos) (gT2 i j):=⟨Dw (hc:=hc) (hN:=hN) (hi:=hi) (hj:=hj) (hx:=hx) (hy:=hy) (hf:=hf) (hf2:=hf2)⟩
theorem Nj {tg:D3}{g:TGD}(he:JE X e te)(hg:JG X tg g)(hs:Q4 [tg] e pos.line X.env=pure false:=by rfl)(hsw:Q5 [tg] e X.env=pure none:=by rfl)(h1:(U7 [tg] X.env).map (·.2)= [Y3 tg X.env]:=by rfl):JS X (.Assign [tg] e pos) (MR te g):=⟨BQ (he:=he.to) (hg:=hg.to) (hs:=hs) (hsw:=hsw) (h1:=h1)⟩
theorem BY {j:P4}{y:Str}{a b:D3}{ta:TAD}{px py pt:Pos}{kt k2 pt2}(hc:X.calm=true)(hN:X.N.Nodup)(hi:X.N[i]? =some x)(hj:X.N[j]? =some y)(hij:i≠j)(hx:X.env.scope.names.lookup x=some .local)(hy:X.env.scope.names.lookup y=some .local)(ha:JA X [a,b] ta)(hw:Q5 [.Tuple [.Name x px,.Name y py] kt pt] (.Tuple [a,b] k2 pt2) X.env=pure (some [x,y]))(hs:Q4 [.Tuple [.Name x px,.Name y py] kt pt] (.Tuple [a,b] k2 pt2) pos.line X.env=pure false:=by rfl):JS X (.Assign [.Tuple [.Name x px,.Name y py] kt pt] (.Tuple [a,b] k2 pt2) pos) (MS i j ta):=⟨BR (hc:=hc) (hN:=hN) (hi:=hi) (hj:=hj) (hij:=hij) (hx:=hx) (hy:=hy) (ha:=ha.to) (hw:=hw) (hs:=hs)⟩
end
section
variable {X:Cx}{tg e iter elt:D3}{te:TED}{ti:TID}{g:TGD}{tb:TSD}{tt:TTD}{pos:Pos}{ta:TAD}{scope:N0}{js:G0 P4}{ifs:G0 D3}
theorem Vv (he:JE X e te):JI X tg e (iL te):=⟨QL (he:=he.to)⟩
theorem Nk {p:Pos}{a:D3}(hg:Gl X "range")(hm:X.mg "range" =none)(ha:JA X [a] ta)(hs:G9 [a] X.env= [(false,M2 a X.env)]:=by rfl):JI X tg (.Call (.Name "range" p) [a] [] pos) (iR1 ta):=⟨MW (hg:=hg) (hm:=hm) (ha:=ha.to) (hs:=hs)⟩
theorem Gh {body:G0 M4}(hp:c7 (D8 X.prog X.w) X.A X.env X.xe)(hc:X.calm=true)(hi:JI X tg iter ti)(hg:JG X tg g)(hb:JSs X body tb)(hs: ∀x,T4 iter X.env x=pure x:=by intro _;rfl):JS X (.For tg iter body [] pos) (Dx ti g tb):=⟨BS (hp:=hp) (hc:=hc) (hi:=hi.to) (hg:=hg.to) (hb:=hb.to) (hs:=hs)⟩
theorem vc:PTs X [] (LT X.K vO):=QM
theorem Gi {c:D3}(hc:JT X c tt):PTs X [c] (LT X.K tt):=QN (hc:=hc.to)
theorem jlc {i:P4}{x:Str}{p:Pos}(hc:X.calm=true)(S:BlockOk X scope js)(hi:JI X (.Name x p) iter ti)(hj:i∈js)(hN:X.N.Nodup)(hx:X.N[i]? =some x)(hl:scope.names.lookup x=some .local\/scope.names.lookup x=some .cell)(ht: ∀X',jC X scope X'->PTs X' ifs (LT X'.K tt))(he: ∀X',jC X scope X'->JE X' elt te)(hs: ∀x,T4 iter X.env x=pure x:=by intro _;rfl):JE X (.ListComp elt [⟨.Name x p,iter,ifs,0⟩] scope pos) (yJ (bN i) js ti tt te):=⟨qlc (hc:=hc) (S:=S) (hi:=hi.to) (hj:=hj) (hN:=hN) (hx:=hx) (hl:=hl) (ht:=ht) (he:=λX' hX=>(he X' hX).to) (hs:=hs)⟩
end
section
variable {X:Cx}{k:P4}{f:G5}{fd:D6}{ps:G0 Str}{spd:RDn}{x:Str}{p pos:Pos}{e:D3}{es:G0 D3}{t:TAD}
theorem Nl (F:FnOk X.prog X.w X.K X.mg X.base CX0 k f fd ps (LSp X.K spd))(hr:Room k X.A)(hg:Gl X x)(hm:X.mg x=some (.ref f))(hk:N4 X.K (.ref f)=true)(hb:Binds X.K fd ps [])(ha:JA X (e::es) t)(hdb:(x==("__debug__" :Str))=false:=by decide)(he:G9 (e::es) X.env=(false,M2 e X.env)::G9 es X.env:=by rfl)(hpl:(M9 pos (G9 es X.env)).any (·.1)=false:=by rfl):JE X (.Call (.Name x p) (e::es) [] pos) (dCB spd t):=⟨MX (F:=F) (hr:=hr) (hg:=hg) (hm:=hm) (hk:=hk) (hb:=hb) (ha:=ha.to) (hdb:=hdb) (he:=he) (hpl:=hpl)⟩
theorem zm {id:T0}{r:RDn}(hc:wk X (.builtin id) r)(hg:Gl X x)(hm:X.mg x=none)(hv:B4 x=some (.builtin id))(ha:JA X (e::es) t)(hn:x≠ "__name__" :=by decide)(hdb:(x==("__debug__" :Str))=false:=by decide)(he:G9 (e::es) X.env=(false,M2 e X.env)::G9 es X.env:=by rfl)(hpl:(M9 pos (G9 es X.env)).any (·.1)=false:=by rfl):JE X (.Call (.Name x p) (e::es) [] pos) (dCB r t):=⟨DD (hc:=hc) (hg:=hg) (hm:=hm) (hv:=hv) (ha:=ha.to) (hn:=hn) (hdb:=hdb) (he:=he) (hpl:=hpl)⟩
theorem jX {T:T0}{r:RDn}(hc:wk X (.type T) r)(hg:Gl X x)(hm:X.mg x=none)(hv:B4 x=some (.type T))(ha:JA X (e::es) t)(hn:x≠ "__name__" :=by decide)(hdb:(x==("__debug__" :Str))=false:=by decide)(he:G9 (e::es) X.env=(false,M2 e X.env)::G9 es X.env:=by rfl)(hpl:(M9 pos (G9 es X.env)).any (·.1)=false:=by rfl):JE X (.Call (.Name x p) (e::es) [] pos) (dCB r t):=⟨QP (hc:=hc) (hg:=hg) (hm:=hm) (hv:=hv) (ha:=ha.to) (hn:=hn) (hdb:=hdb) (he:=he) (hpl:=hpl)⟩
end
section
variable {X:Cx}{iter elt:D3}{te:TED}{ti:TID}{tt:TTD}{pos spos:Pos}{scope:N0}{js:G0 P4}{ifs:G0 D3}
theorem WF {i k:P4}{x y:Str}{p py:Pos}(hc:X.calm=true)(hN:X.N.Nodup)(hk:X.N[k]? =some y)(hy:Loc X.env.scope y)(S:BlockOk X scope js)(hi:JI X (.Name x p) iter ti)(hj:i∈js)(hx:X.N[i]? =some x)(hl:scope.names.lookup x=some .local\/scope.names.lookup x=some .cell)(ht: ∀X',jC X scope X'->PTs X' ifs (LT X'.K tt))(he: ∀X',jC X scope X'->JE X' elt te)(hsw:E1 (.ListComp elt [⟨.Name x p,iter,ifs,0⟩] scope pos) (some (.Name y py)) spos.line X.env=pure true:=by rfl)(hf:X.fn y=true\/X.env.scope.names.lookup y=some .local:=by first|exact .inl rfl|exact .inr rfl|assumption)(hs: ∀x,T4 iter X.env x=pure x:=by intro _;rfl):JS X (.Assign [.Name y py] (.ListComp elt [⟨.Name x p,iter,ifs,0⟩] scope pos) spos) (UC k (yJ (bN i) js ti tt te)):=⟨DE (hc:=hc) (hN:=hN) (hk:=hk) (hy:=hy) (S:=S) (hi:=hi.to) (hj:=hj) (hx:=hx) (hl:=hl) (ht:=ht) (he:=λX' hX=>(he X' hX).to) (hsw:=hsw) (hf:=hf) (hs:=hs)⟩
end
section
variable {X:Cx}{a b e:D3}{ta tb te:TED}{pos p2:Pos}
theorem jix (ha:JE X a ta)(hb:JE X b tb)(hs:yS b):JE X (.Subscript a b pos) (dOp ixD ta tb):=⟨qix (ha:=ha.to) (hb:=hb.to) (hs:=hs)⟩
end
variable {X:Cx}{pos:Pos}
theorem Zb {a:D3}{ta:TED}{T:T0}{t:Str}{p p2:Pos}(hT:T∈ ["tuple","int","bool","list","str"])(hg:Gl X "isinstance")(hm:X.mg "isinstance" =none)(hg2:Gl X t)(hm2:X.mg t=none)(hv:B4 t=some (.type T))(ha:JE X a ta)(hn:t≠ "__name__" :=by decide)(hd:(t==("__debug__" :Str))=false:=by decide)(h1:G9 [a,.Name t p2] X.env=(false,M2 a X.env)::G9 [.Name t p2] X.env:=by rfl)(h2:(M9 pos (G9 [.Name t p2] X.env)).any (·.1)=false:=by rfl):JE X (.Call (.Name "isinstance" p) [a,.Name t p2] [] pos) (dIs T ta):=⟨Nf (hT:=hT) (hg:=hg) (hm:=hm) (hg2:=hg2) (hm2:=hm2) (hv:=hv) (ha:=ha.to) (hn:=hn) (hd:=hd) (h1:=h1) (h2:=h2)⟩
section
variable {X:Cx}{o e i:D3}{to te ti:TED}{apos cpos pos:Pos}
theorem Nm (ho:JE X o to)(he:JE X e te)(hbase:F7 o "append" X.env (M2 o X.env)=M2 o X.env:=by rfl)(hfew:((M9 cpos (G9 [e] X.env)).all (λx=> !x.1)&&(aH cpos (K3 [] X.env)).all (λx=>x.1.isSome)&&decide ([e].length+([]:G0 E8).length+(if ([]:G0 E8).isEmpty then 0 else 1)<30))=true:=by rfl)(hline:(apos.endLine==cpos.line)=true:=by rfl)(hs:G9 [e] X.env=(false,M2 e X.env)::G9 [] X.env:=by rfl)(hplain:(M9 cpos (G9 [] X.env)).any (·.1)=false:=by rfl):JE X (.Call (.Attribute o "append" apos) [e] [] cpos) (Bg to te):=⟨BU (ho:=ho.to) (he:=he.to) (hbase:=hbase) (hfew:=hfew) (hline:=hline) (hs:=hs) (hplain:=hplain)⟩
theorem XC (ho:JE X o to)(hi:JE X i ti)(ha: ∀v,Y3 (.Subscript o i pos) X.env v=(do
 let ov <-V7 [v] (M2 o X.env)
 let iv <-V7 [v,ov] (M2 i X.env)
 c5 pos
 V7 [v,ov,iv] (kK ov iv v)
 mD [v,ov,iv] []):=by intro _;rfl):JG X (.Subscript o i pos) (DL to ti):=⟨DM (ho:=ho.to) (hi:=hi.to) (ha:=ha)⟩
end
variable {e:D3}
theorem jpt {t:TTD}(h:JW X e t):JT X e t:=⟨qpt (h:=h.to)⟩
theorem zy:JO X none Vo:=⟨QY⟩
variable {te:TED}
theorem jS (he:JE X e te):JO X (some e) (DN te):=⟨QZ (he:=he.to)⟩
theorem WG {lo hi:G6 D3}{tl th:TOD}{p2:Pos}(he:JE X e te)(hl:JO X lo tl)(hu:JO X hi th):JE X (.Subscript e (.Slice lo hi none p2) pos) (dSl te tl th):=⟨DO (he:=he.to) (hl:=hl.to) (hu:=hu.to)⟩
theorem Nn {a:D3}{ta:TED}(ha:JE X a ta):JE X (.UnaryOp .USub a pos) (dUn Nh ta):=⟨BW (ha:=ha.to)⟩
theorem Rb {ks:G0 (G6 D3)}{vs:G0 D3}{x:Str}{i:P9}(h:ZR ks vs=some (x,i):=by rfl):JE X (.Dict ks vs pos) (WB x i):=⟨DQ (h:=h)⟩
theorem zR {tg:D3}(he:JE X e te):JI X tg e (iS te):=⟨DU (he:=he.to)⟩
theorem vd {st:M4}:JS X st Xz:=⟨DV⟩
theorem jac {es:G0 D3}{t:TAD}(ha:JE X e te)(hr:JA X es t)(h:jL e=true:=by rfl):JA X (e::es) (jU te t):=⟨qac (ha:=ha.to) (hr:=hr.to) (h:=h)⟩
section
variable {P:D2}{w:S4}{K:G2}{mg:Str->G6 G1}{base:S3}
theorem Fun.okJ {x qual:Str}{st:M4}{f:G5}{fd:D6}{N ps:G0 Str}{k:P4}{spd:RDn}(F:Fun K x qual st f fd)(S:FnScope N ps (jb st))(len: ∀ds h Q,spd ds h Q->ds.length=ps.length)
 (tb:TSD)(hbody: ∀ (cdv:G1) (A:R0) (outer:G0 Env) (s:G4) (H:Hp) (E:XK),Room k (A.deeper (N8 qual (jb st) s.heap.objs.size f cdv))->JSs (yH CX0 P w K mg base N qual (jb st) f cdv A outer s H E).nox (jy st) tb)
 (read: ∀ds h Q,spd ds h Q->tb (Wy Q) (jM N ds) h):FnOk P w K mg base CX0 (k+1) f fd ps (LSp K spd):=F.okD S len tb (λcdv A outer s H E hr=>(hbody cdv A outer s H E hr).to) read
end
def vy (r:G0 P9):D:= .tup (r.map D.int)
def Mg (T:G0 (G0 P9)):D:= .tup (T.map vy)
def ZU (n:P4)(r:G0 P9):Prop:=r.length=n/\ ∀x∈r,0<=x/\x<=1000000
def GoodTab (n:P4)(T:G0 (G0 P9)):Prop:=T.length=n/\ ∀r∈T,ZU n r
structure Sq (n e:P4)(T:G0 (G0 P9)):Prop where
 len:T.length=n
 row: ∀r∈T,r.length=n
 nn: ∀r∈T,∀x∈r,0<=x
 bit: ∀r∈T,∀x∈r,x<2^e
theorem GoodTab.sq {n:P4}{T:G0 (G0 P9)}(g:GoodTab n T):Sq n 20 T:=⟨g.1,λr hr=>(g.2 r hr).1,λr hr x hx=>((g.2 r hr).2 x hx).1,λr hr x hx=>Int.lt_of_le_of_lt ((g.2 r hr).2 x hx).2 (by decide)⟩
def ent (T:G0 (G0 P9))(i j:P4):P9:=(T.getD i []).getD j 0
def mkT (n:P4)(f:P4->P4->P9):G0 (G0 P9):=(O5 n).map λi=>(O5 n).map λj=>f i j
def No (n:P4)(f:P4->P9):P9:=((O5 n).map f).sum
def BZ (n:P4)(T U:G0 (G0 P9)):G0 (G0 P9):=mkT n λi j=>No n λk=>ent T i k*ent U k j
def Ca (n:P4):G0 (G0 P9):=mkT n λi j=>if i=j then 1 else 0
def Np (n:P4)(T:G0 (G0 P9)):P4->G0 (G0 P9)
 |0=>Ca n
 |k+1=>BZ n (Np n T k) T
theorem wP {x:P9}{e:P4}(h0:0<=x)(h1:x<2^e):x.natAbs<2^e:=by
 have:((2^e:P4):P9)=2^e:=by simp
 omega
section
variable {α β:Type}{i i':P4}{js:G0 P4}{ti ti':TID}{te:TED}{σ:SD}{h:HD}{Q:KD}{j:ItD}
theorem lcA (xs:G0 α)(c g:α->D)(hz:xs.length<=1000)(hj:j h=some (xs.map c))(ht: ∀R:ItD->HD->Prop,R j h->ti σ h R)
 (he: ∀x∈xs,∀Q':KD,Q' (g x) h->te ((zl js σ).set i (some (c x))) h Q')(hq: ∀p,h p=none->Q (.lst p) (zA h p (xs.map g))):yJ (bN i) js ti vO te σ h Q:=by
 refine ht _ ⟨xs.length,λk ys h'=>h'=h/\ys=(xs.take k).map g,⟨rfl,by simp⟩,?_⟩;rintro k ys h' ⟨rfl,rfl⟩;refine⟨by simp only [G8,M8];exact M3 (jQ (by omega)),xs.map c,hj,by simp,λhl p hp=> ?_,λd hd=>⟨_,rfl,?_⟩⟩
 ·rw [bW (by simpa using hl)];exact hq p hp
 ·unfold vO;dsimp only;rw [S2 rfl];rw [R4] at hd;cases hx:xs[k]? with
  |none=>rw [hx] at hd;cases hd
  |some x=>
   rw [hx] at hd;cases hd;refine he x (S7 hx) _ ⟨h',Sub.refl _,rfl,?_⟩;rw [J7,hx];simp
theorem lcF (xs:G0 α)(c g:α->D)(p:α->B3){tt:TTD}(hz:xs.length<=1000)(hj:j h=some (xs.map c))(ht: ∀R:ItD->HD->Prop,R j h->ti σ h R)
 (hp: ∀x∈xs,∀Q':B3->HD->Prop,Q' (p x) h->tt ((zl js σ).set i (some (c x))) h Q')(he: ∀x∈xs,p x=true-> ∀Q':KD,Q' (g x) h->te ((zl js σ).set i (some (c x))) h Q')(hq: ∀a,h a=none->Q (.lst a) (zA h a ((xs.filter p).map g))):yJ (bN i) js ti tt te σ h Q:=by
 refine ht _ ⟨xs.length,λk ys h'=>h'=h/\ys=((xs.take k).filter p).map g,⟨rfl,by simp⟩,?_⟩;rintro k ys h' ⟨rfl,rfl⟩;refine⟨?_,xs.map c,hj,by simp,λhl a ha=> ?_,λd hd=>⟨_,rfl,?_⟩⟩
 ·have:=List.length_filter_le p (xs.take k);simp only [G8,M8] at this ⊢;exact M3 (jQ (by omega))
 ·rw [bW (by simpa using hl)];exact hq a ha
 ·rw [R4] at hd;cases hx:xs[k]? with
  |none=>rw [hx] at hd;cases hd
  |some x=>
   rw [hx] at hd;cases hd;refine hp x (S7 hx) _ ?_;cases hb:p x with
   |true=>
    rw [S2 rfl];refine he x (S7 hx) hb _ ⟨h',Sub.refl _,rfl,?_⟩;rw [J7,hx];simp [hb]
   |false=>
    rw [S6 P8];refine⟨h',Sub.refl _,rfl,?_⟩;rw [J7,hx];simp [hb]
theorem Bk (xs:G0 α)(c g:α->D)(hz:xs.length<=1000)(hj:j h=some (xs.map c))(ht: ∀R:ItD->HD->Prop,R j h->ti σ h R)
 (he: ∀x∈xs,∀Q':KD,Q' (g x) h->te ((zl js σ).set i (some (c x))) h Q')(hq:Q (.tup (xs.map g)) h):dCB Wz (jU (yJ (bN i) js ti vO te) Jb) σ h Q:=by
 show yJ (bN i) js ti vO te σ h (λx h1=>Wz [x] h1 Q);exact lcA xs c g hz hj ht he λp hp=>(show ∃ys,zA h p (xs.map g) p=some ys/\Q (.tup ys) (Ja (zA h p (xs.map g)) p) from ⟨_,ja,by rw [wL hp];exact hq⟩)
theorem Mh (xs:G0 α)(c:α->D)(g:α->B3)(hz:xs.length<=1000)(hj:j h=some (xs.map c))(ht: ∀R:ItD->HD->Prop,R j h->ti σ h R)
 (he: ∀x∈xs,∀Q':KD,Q' (.bl (g x)) h->te ((zl js σ).set i (some (c x))) h Q')(hq:Q (.bl (xs.all g)) h):dCB DK (jU (yJ (bN i) js ti vO te) Jb) σ h Q:=by
 show yJ (bN i) js ti vO te σ h (λx h1=>DK [x] h1 Q);exact lcA xs c (λx=> .bl (g x)) hz hj ht he λp hp=>⟨p,xs.map g,rfl,by rw [ja,O0];rfl,by rw [wL hp,kO];exact hq⟩
end
end L2
namespace L2
open PySem PySem.Spec PyProof.Rows PySem.SeqAt
theorem Zc (h:HD): ∀ns:G0 P9,ToPs h (ns.map D.int) (ns.map l9)
 | []=>rfl
 |n::ns=>⟨_,_,rfl,rfl,Zc h ns⟩
def Bl (r:G0 P9):B9:= .tuple (r.map .int)
def Pf (T:G0 (G0 P9)):B9:= .tuple (T.map Bl)
theorem Zd (h:HD): ∀T:G0 (G0 P9),ToPs h (T.map vy) (T.map Bl)
 | []=>rfl
 |r::T=>⟨_,_,rfl,⟨_,rfl,Zc h r⟩,Zd h T⟩
theorem Vw (h:HD)(T:G0 (G0 P9)):ToP h (Mg T) (Pf T):=⟨_,rfl,Zd h T⟩
section
variable {X:Cx}{pins:G0 (G5×Obj)}{σ:G0 (G6 V)}{H:Hp}{s:G4}{h':S3}
theorem Inv.turnL {t':P4}{ch:G0 G5}(I:Inv X pins σ H s)(k: ∀b o,b ∉ ch->s.heap.get? b=some o->h'.get? b=some o)(hc: ∀b∈ch,YI X pins H b):Inv X pins σ H {s with heap:=h',toks:=t'}:=by
 refine I.step (g':=s.gens) (d':=s.drawn) (ch:=ch) (λb hb=>let ⟨_,f1,_,f3,f4,f5⟩:=hc b hb;⟨f3,f1,f4,f5⟩) (λb o _ _ nb e _=>k b o nb e) (λb o _ _ nb e _=>⟨o.slots,k b o nb e⟩) (λ_ _ _ _ n=>n)
  (λb o nb e=>⟨o,k b o nb e⟩) (λ_ _ e=>e) (λ_ _ _ e=>e) (λb ps e=>⟨#[],by rw [e];simp⟩) (λm hm=> ?_) (λb u e=> ?_) I.bare
 ·obtain⟨o,es,ep,ho,r⟩:=hm;exact⟨o,es,ep,k _ o (λz=>(hc _ z).2.1 rfl) ho,r⟩
 ·refine(I.hok b u e).stay (λc v hb q=>k c v (λz=> ?_) q) (λ_ q=>q) λ_ _ q=>q
  have f:=(hc c z).1;rcases hb with w|w
  ·rw [w,e] at f;cases f
  ·rw [w] at f;cases f
theorem Inv.turnLaid {t':P4}{ch:G0 G5}{a:G5}{o:HO}(I:Inv X pins σ H s)(k: ∀b u,b ∉ ch->s.heap.get? b=some u->h'.get? b=some u)(hc: ∀b∈ch,YI X pins H b)(hp:s.heap.objs.size<=a)
 (new:ObjOk X.prog X.w (upd H a o) h' a o):Inv X pins σ (upd H a o) {s with heap:=h',toks:=t'}:=by
 have hn:=I.hok.fresh hp;refine I.step (g':=s.gens) (d':=s.drawn) (ch:=ch) (λb hb=>let ⟨_,f1,_,f3,f4,f5⟩:=hc b hb;⟨f3,f1,f4,f5⟩) (λb u _ _ nb e _=>k b u nb e) (λb u _ _ nb e _=>⟨u.slots,k b u nb e⟩)
  (λb u _ e n=>by rw [jd (R7 (P3 (P5 e) hp))];exact n) (λb u nb e=>⟨u,k b u nb e⟩) (λb xs q=>by rw [jd (je q hn)];exact q) (λb u xs q=>by rw [jd (je q hn)];exact q)
  (λb ps q=>⟨#[],by rw [jd (je q hn),q];simp⟩) (λm hm=> ?_) (λb u e=> ?_) I.bare
 ·obtain⟨u,es,ep,ho,r⟩:=hm;exact⟨u,es,ep,k _ u (λz=>(hc _ z).2.1 rfl) ho,r⟩
 ·by_cases hb:b=a
  ·subst hb;rw [jf] at e;cases e;exact new
  ·rw [jd hb] at e;refine(I.hok b u e).stay (λc v hb q=>k c v (λz=> ?_) q) (λc q=>by rw [jd (je q hn)];exact q) λc xs q=>by rw [jd (je q hn)];exact q
   have f:=(hc c z).1;rcases hb with w|w
   ·rw [w,e] at f;cases f
   ·rw [w] at f;cases f
end
def Ze (ds:G0 D):G0 D:=ds.zipIdx.map λp=> .tup [.int (p.2:P9),p.1]
theorem yL {ds:G0 D}{i:P4}{d:D}(h:(Ze ds)[i]? =some d): ∃x,ds[i]? =some x/\d= .tup [.int (i:P9),x]:=by
 unfold Ze at h;rw [R4,List.getElem?_zipIdx] at h;cases q:ds[i]? with
 |none=>rw [q] at h;cases h
 |some x=>
  rw [q] at h;refine⟨x,rfl,?_⟩;have h':some (D.tup [.int ((0+i:P4):P9),x])=some d:=h;rw [Nat.zero_add] at h';exact(T8 h').symm
theorem zn (ds:G0 D):(Ze ds).length=ds.length:=by simp [Ze]
def inE (neg:B3):RD2:=λx y h Q=> ∃ (p:B9) (ps:G0 B9),ToP h x p/\(ToP h y (.list ps)\/ToP h y (.tuple ps))/\p.canLay0=true/\B8 ps=true/\p.depth<=60/\Q (.bl (neg !=ps.any λz=>T6 z p)) h
section
variable {X:Cx}
theorem Rc (hu:X.A.units+64<cLine):OpQ X (S8 .In) (inE false):=by
 intro pins s σ H x y v u Q I rx ry h;obtain⟨dx,dy,h,Qd,r1,r2,rh,⟨p,ps,t1,t2,c1,c2,c3,qq⟩,post⟩:=h;obtain⟨as,a1⟩:=jW I rh t1 r1 rx;have hu':X.A.units+1+min (B2 ps) p.depth<cLine:=by have:=X3 (B2 ps) p.depth;omega
 have q':Qd (.bl (ps.any λz=>T6 z p)) h:=by simpa using qq
 rcases t2 with t2|t2
 ·obtain⟨bs,b1⟩:=jW I rh t2 r2 ry;exact in_list_reads b1 a1 c2 c1 hu' ⟨.bl _,H,I,rfl,post (.bl _) _ _ _ (.refl H) rh rfl q'⟩
 ·obtain⟨bs,b1⟩:=jW I rh t2 r2 ry;exact in_tuple_reads b1 a1 c2 c1 hu' ⟨.bl _,H,I,rfl,post (.bl _) _ _ _ (.refl H) rh rfl q'⟩
end
end L2
namespace L2
open PySem PySem.Spec PyProof.Rows
structure ShowOk (p:B9):Prop where
 sh:p.showable=true
 dp:p.depth<=60
 ln:p.shown.length<=sizeLine
mutual
theorem vP {h:HD}: ∀ {p:B9} {d:D},ToP h d p->p.hasDict=false
 | .none,_,_=>rfl
 | .bool _,_,_=>rfl
 | .int _,_,_=>rfl
 | .str _,_,_=>rfl
 | .tuple ps,d,t=>by
  obtain⟨ds,_,ts⟩:=(show ∃ds,d= .tup ds/\ToPs h ds ps from t);simpa only [iC] using noDict_ToPs ts
 | .list ps,d,t=>by
  obtain⟨a,ds,_,_,ts⟩:=(show ∃a ds,d= .lst a/\h a=some ds/\ToPs h ds ps from t);simpa only [iC] using noDict_ToPs ts
 | .dict _,_,t=>(show False from t).elim
theorem noDict_ToPs {h:HD}: ∀ {ps:G0 B9} {ds:G0 D},ToPs h ds ps->fW ps=false
 | [],_,_=>rfl
 |p::ps,ds,t=>by
  obtain⟨d,r,_,t1,t2⟩:=(show ∃d r,ds=d::r/\ToP h d p/\ToPs h r ps from t);simp only [fW,vP t1,noDict_ToPs t2,Bool.or_self]
end
def Nq:RDn:=λds h Q=> ∃d p,ds= [d]/\ToP h d p/\ShowOk p/\Q (.str p.shown) h
variable {k:P4}
theorem WH {X:Cx}(hr:Room k X.A):wk X (.builtin "repr") Nq:=by
 intro pins s σ H xs us Q I r h;obtain⟨ds,h,Qd,rs,rh,⟨d,p,e,t,so,q⟩,post⟩:=h;subst e;obtain⟨v,e,r1⟩:=jB rs;subst e;obtain⟨u,rfl,ru⟩:=yc r;have fin: ∀t',EP X pins σ Q (.str p.shown t') {s with toks:=s.toks+1}:=λt'=>⟨.str p.shown,H,I.tok _,⟨_,rfl⟩,post (.str _) _ _ _ (.refl H) rh rfl q⟩
 have fin0: ∀t',EP X pins σ Q (.str p.shown t') s:=λt'=>⟨.str p.shown,H,I,⟨_,rfl⟩,post (.str _) _ _ _ (.refl H) rh rfl q⟩
 have big: ∀a,u= .ref a->D5 (D8 X.prog X.w) X.A (call (.builtin "repr") [.ref a]) (EP X pins σ Q) X.xe s:=λa e=>by
  obtain⟨as,rd⟩:=jW I rh t r1 ru;subst e;exact repr_of_reads' rd so.sh (PyData.noDict_hsm (vP t)) hr.gd (by have:=hr.units;have:=so.dp;omega) (λ_ _ e=>e)
   (λh' u' tk hk=>⟨.str p.shown,H,I.kept hk,⟨_,rfl⟩,post (.str _) _ _ _ (.refl H) rh rfl q⟩) so.ln
 cases p with
 |none=>
  cases (show d= .non from t);cases (show v= .non from r1);cases (show u= .none from ru);exact PySem.P.repr_of_none (fin _)
 |bool b=>
  cases (show d= .bl b from t);cases (show v= .bl b from r1);cases (show u= .bool b from ru);exact PySem.P.repr_of_bool (fin _)
 |int i=>
  cases (show d= .int i from t);cases (show v= .int i from r1);obtain⟨k,rfl⟩:=(show ∃t,u=Z5 i t from ru);exact PySem.P.repr_of_int (by simpa [cG] using so.sh) (fin _)
 |str x=>
  cases (show d= .str x from t);cases (show v= .str x from r1);obtain⟨k,rfl⟩:=(show ∃t,u=X0 x t from ru);exact PySem.P.repr_of_str (fin _) so.ln
 |tuple ps=>
  obtain⟨ds,e,ts⟩:=(show ∃ds,d= .tup ds/\ToPs h ds ps from t);subst e;obtain⟨a,vs,e,hH,rs⟩:=(show ∃a vs,v= .ref a/\H a=some (.tup vs)/\RelDs X.K H ds vs from r1);subst e;cases (show u= .ref a from ru);exact big a rfl
 |list ps=>
  obtain⟨a,ds,e,ha,ts⟩:=(show ∃a ds,d= .lst a/\h a=some ds/\ToPs h ds ps from t);subst e;have e:v= .ref a:=r1.1;subst e;cases (show u= .ref a from ru);exact big a rfl
 |dict _=>exact(show False from t).elim
variable {e:P4}
theorem Vx {x:P9}(h0:0<=x)(h1:x<2^e)(he:e<=1919):x.natAbs.log2<1920:=by
 have h2:x.natAbs<2^e:=wP h0 h1
 by_cases z:x.natAbs=0
 ·rw [z];decide
 ·have h3:=cY z |>.mpr (P3 h2 (C4 (by decide) (show e<=1920 by omega)));exact h3
theorem wn: ∀ {ps:G0 B9},(∀p∈ps,p.showable=true)->eN ps=true
 | [],_=>rfl
 |p::ps,h=>by
  simp only [eN,h p P7,wn λx hx=>h x (D1 _ hx),Bool.and_self]
theorem zZ: ∀ps:G0 B9,cH ps=ps.map bX
 | []=>rfl
 |p::ps=>by simp only [cH,N7,zZ ps]
theorem vf: ∀ {ps:G0 B9},(∀p∈ps,p.depth<=k)->B2 ps<=k
 | [],_=>by simp [B2]
 |p::ps,h=>by
  simp only [B2];have:=h p P7;have:=vf λx hx=>h x (D1 _ hx)
  omega
theorem XD {b:P4}: ∀ {l:G0 P4},(∀x∈l,x<=b)->l.sum<=b*l.length
 | [],_=>by simp
 |x::l,h=>by
  have h1:=h x P7;have h2:=XD λy hy=>h y (D1 _ hy)
  simp only [iY,T5,Nat.mul_succ];omega
structure ShowB (p:B9)(k b:P4):Prop where
 sh:p.showable=true
 dp:p.depth<=k
 ln:p.shown.length<=b
theorem ShowB.ok {p:B9}{b:P4}(h:ShowB p k b)(hk:k<=60)(hb:b<=16777216):ShowOk p:=⟨h.sh,R8 h.dp hk,R8 h.ln hb⟩
theorem ShowB.mono {p:B9}{b k' b':P4}(h:ShowB p k b)(hk:k<=k')(hb:b<=b'):ShowB p k' b':=⟨h.sh,R8 h.dp hk,R8 h.ln hb⟩
theorem Zf {x:P9}(h0:0<=x)(h1:x<2^e)(he:e<=1919):ShowB (.int x) 0 (e+2):=by
 refine⟨by simpa [cG] using Vx h0 h1 he,by simp [O1],?_⟩;show (G3 (toString x)).length<=e+2;rw [cK];have h2:x.natAbs<2^e:=wP h0 h1;refine eO (by omega) ?_
 by_cases z:x.natAbs=0
 ·rw [z];exact Nat.succ_pos _
 ·exact(cY z).mpr (P3 h2 (C4 (by decide) (by omega)))
theorem ShowB.tup {ps:G0 B9}{k b:P4}(h: ∀p∈ps,ShowB p k b):ShowB (.tuple ps) (k+1) ((b+2)*ps.length+3):=by
 refine⟨?_,?_,?_⟩
 ·simpa only [cG] using wn λp hp=>(h p hp).sh
 ·simp only [O1];have:=vf λp hp=>(h p hp).dp;omega
 ·simp only [bX];have h1:=tupleText_len_le (cH ps);rw [zZ,G8,O0] at h1;have h2:((ps.map ((λx=>x.length)∘bX))).sum<=b*ps.length:=by
   have:=XD (b:=b) (l:=ps.map ((λx:Str=>x.length)∘bX)) (λx hx=>by obtain⟨p,hp,e⟩:=T1.mp hx;rw [<-e];exact(h p hp).ln);rw [G8] at this;exact this
  rw [zZ,Nat.add_mul];omega
theorem Vy {r:G0 P9}(h0: ∀x∈r,0<=x)(h1: ∀x∈r,x<2^e)(he:e<=1919):ShowB (.tuple (r.map .int)) 1 ((e+4)*r.length+3):=by
 have:=ShowB.tup (ps:=r.map l9) (k:=0) (b:=e+2) λp hp=>by obtain⟨x,hx,e⟩:=T1.mp hp;rw [<-e];exact Zf (h0 x hx) (h1 x hx) he
 rw [G8] at this;exact this
theorem Vz {n:P4}{T:G0 (G0 P9)}(h:Sq n e T)(h6:n<=6)(he:e<=1919):ShowB (Pf T) 2 (60*e+300):=by
 have:=ShowB.tup (ps:=T.map λr=>PyData.tuple (r.map .int)) (k:=1) (b:=(e+4)*6+3) λp hp=>by
  obtain⟨r,hr,ep⟩:=T1.mp hp;rw [<-ep];refine(Vy (h.nn r hr) (h.bit r hr) he).mono (P0 _) ?_;have:=dH (e+4) (show r.length<=6 by rw [h.row r hr];exact h6);omega
 rw [G8,h.len] at this;refine this.mono (P0 _) ?_;have:=dH ((e+4)*6+3+2) h6;omega
def XE:RDn:=λds h Q=> ∃x y p,ds= [x,y]/\ToP h x p/\ToP h y p/\ShowOk p/\Q (.bl true) h
end L2
namespace L2
open PySem PySem.Spec PyProof.Rows PySem.SeqAt
theorem UK {X:Cx}(hu:X.A.units+64<cLine):MtM X "list.index" (λx vs H Q=> ∃ (a:G5) (y:V) (dy:D) (h:HD) (p:B9) (ps:G0 B9) (j:P4) (z:B9),x= .ref a/\vs= [y]/\RelD X.K H dy y/\RelH X.K h H/\ToP h (.lst a) (.list ps)/\ToP h dy p/\p.canLay0=true/\B8 ps=true/\p.depth<=60/\j<1000000/\ps[j]? =some z/\T6 z p=true/\(∀m y,m<j->ps[m]? =some y->T6 y p=false)/\Q (.int (j:P9)) H):=by
 intro pins s σ H x vs v us Q I rx rv h;obtain⟨a,y,dy,h,p,ps,j,z,rfl,rfl,rd,rh,t1,t2,c1,c2,c3,hj,hz,hit,hno,q⟩:=h;cases rx;obtain⟨u,rfl,ru⟩:=yc rv;obtain⟨a',ds,ea,ha,ts⟩:=(show ∃a' ds,D.lst a= .lst a'/\h a'=some ds/\ToPs h ds ps from t1);cases ea;obtain⟨ws,hH,_⟩:=rh a ds ha;obtain⟨as,r1⟩:=jW I rh t1 (show RelD X.K H (.lst a) (.ref a) from ⟨rfl,ws,hH⟩) (show RelV (.ref a) (.ref a) from rfl);obtain⟨bs,r2⟩:=jW I rh t2 rd ru;cases r1 with
 |list h1 h2 h3 h4=>
  rename_i o its n cs;have em:=readsAll_map ps _ _ c2 h4;have gm: ∀m (hm:m<its.size),ps[m]? =some (readOf s.heap its[m]):=λm hm=>by
   rw [<-em,R4,cL,aV hm];rfl
  have hlen:its.size=ps.length:=by rw [<-em,G8,M5]
  have hjs:j<its.size:=by rw [hlen];exact(P1.mp hz).1
  have hu':X.A.units+1+min (B2 ps) p.depth<cLine:=by have:=X3 (B2 ps) p.depth;omega
  obtain⟨oc,od,odt,osl⟩:=o;simp only at h2 h3;subst h2 h3;refine aI F.slot_list_index ⟨_,h1,rfl⟩ F.entry_list_index (F.args_list_index_2 _ _) (list_indexAt a its n od osl u (λy=>T6 (readOf s.heap y) p) j hjs (by omega) ?_ ?_) ⟨h1,items_eqAt h4 r2 c2 c1 hu',?_⟩
  ·have:=gm j hjs;rw [hz] at this;injection this with this
   rw [<-this];exact hit
  ·intro m hm hmj;exact hno m _ hmj (gm m hm)
  ·exact⟨.int (j:P9),H,I.tok _,⟨_,rfl⟩,q⟩
def Cb (to te:TED):TED:=λσ h Q=>to σ h λx h1=> ∃a,x= .lst a/\te σ h1 λy h2=> ∃ (p:B9) (ps:G0 B9) (j:P4) (z:B9),ToP h2 (.lst a) (.list ps)/\ToP h2 y p/\p.canLay0=true/\B8 ps=true/\p.depth<=60/\j<1000000/\ps[j]? =some z/\T6 z p=true/\(∀m y,m<j->ps[m]? =some y->T6 y p=false)/\Q (.int (j:P9)) h2
section
variable {X:Cx}{o e i:D3}{to te ti:TED}{apos cpos:Pos}
theorem Cc (hu : X.A.units + 64 < cLine) (ho : JE X o to) (he : JE X e te) (hbase : F7 o "index" X.env (M2 o X.env) = M2 o X.env := by rfl)
    (hfew : ((M9 cpos (G9 [e] X.env)).all (fun x => !x.1) && (aH cpos (K3 [] X.env)).all (fun x => x.1.isSome) && decide ([e].length + ([] : G0 E8).length + (if ([] : G0 E8).isEmpty then 0 else 1) < 30)) = true := by rfl)
    (hline : (apos.endLine == cpos.line) = true := by rfl) (hs : G9 [e] X.env = (false, M2 e X.env) :: G9 [] X.env := by rfl) (hplain : (M9 cpos (G9 [] X.env)).any (·.1) = false := by rfl) :
    JE X (.Call (.Attribute o "index" apos) [e] [] cpos) (Cb to te) :=
  ⟨(YY V3 j5 j6 (UK hu) ho.to (zb he.to pa_nil hs) hbase hfew hline hs hplain).imp
    fun σ H Q ⟨nF, h, Qd, rs, rh, t, p⟩ => LE.bind rs rh t fun d v h1 H1 k1 rs1 rh1 r1 ⟨a, e, q⟩ => by
      subst e
      obtain ⟨e1, vs, hH⟩ := (show v = .ref a ∧ ∃ vs, H1 a = some (.lst vs) from r1)
      subst e1
      refine ⟨.inl ⟨rfl, vs, SqL.of hH⟩, ?_⟩
      refine LE.bind rs1 rh1 q fun y u h2 H2 k2 rs2 rh2 r2 ⟨pd, ps, j, z, t1, t2, c1, c2, c3, hj, hz, hit, hno, q2⟩ => ?_
      exact ⟨a, u, y, h2, pd, ps, j, z, rfl, rfl, r2, rh2, t1, t2, c1, c2, c3, hj, hz, hit, hno, p (.int _) _ _ _ (k1.trans k2) rh2 rfl q2⟩⟩
end
def RP (n:P4)(T:G0 (G0 P9))(k i j:P4):Prop:=ent (Np n T k) i j≠0
theorem Yg {prog:D2}{w:S4}{A:R0}(hh:A.handled=none)(it t:G5)(items:B7 G1)(n:P4)(hn:items.size<=n):
 Draws prog w A it [it,t] n (λ_ _=>False) (λi h=>i=n/\h.IsListIter it t n/\h.IsList t items) where
 live:=λ_ _ st=>let ⟨o,ho,_⟩:=st.2.1;⟨o,ho⟩
 frame:=λ_ _ _ st hk=>⟨st.1,st.2.1.at λo e=>hk it (by simp) o e,st.2.2.at λo e=>hk t (by simp) o e⟩
 item:=λi s Q E hi st hQ=>absurd st.1 (R7 hi)
 done:=λs Q E st hE=>wpAny_nextOf_list_end hh st.2.1 st.2.2 (bY hn) hE
def Nr (K:G2)(a:G5):It:=
 ⟨λi H=> ∃xs x,SqL K H a xs/\xs[i]? =some x,λi H x H'=> ∃p v,H p=none/\(∀xs,SqL K H a xs->xs[i]? =some v)/\x= .ref p/\H'=upd H p (.tup [.int i,v]),λi H=> ∃xs,SqL K H a xs/\xs.length<=i⟩
theorem Yh {P:D2}{w:S4}{K:G2}{es:G0 D3}{k:P4}{pos:Pos}(a it e:G5)(hei:e≠it)(hae:a≠e)(hai:a≠it):Turn P w K (.Tuple es k pos) (Nr K a) [e,it] e (λi h=>(∃old,IsEnum h e it i old)/\h.IsListIter it a i) where
 mem:=by simp
 obj:=λi h st b hb=>by
  rcases P2.mp hb with z|z
  ·subst z;obtain⟨old,q⟩:=st.1;exact⟨_,q,λv z=>by cases z⟩
  ·have z:=R6.mp z;subst z;obtain⟨o,q,c,d⟩:=st.2;exact⟨o,q,λv z=>by rw [d] at z;cases z⟩
 keep:=λi h h' st k=>⟨let ⟨old,q⟩:=st.1;⟨old,k e (by simp) _ q⟩,st.2.at λo q=>k it (by simp) o q⟩
 item:=by
  intro X hP hw hK hc i pins s σ H E I hf st hg;subst hP hw hK;obtain⟨xs,x,hq,hx⟩:=hg;obtain⟨its,rv,p,hz⟩:=I.list hq;obtain⟨u,hu,ru⟩:=rv.get hx;have hi:i<its.toArray.size:=by have:=(P1.mp hu).1;simpa using this
  obtain⟨old,he⟩:=st.1;have helt:e<s.heap.objs.size:=P5 he;refine wpAny_pyNext_enum_itemD (Draws.list (prog:=X.prog) (w:=X.w) (A:=X.A.in1) (I.ok.hd hc) it a hai its.toArray) he ⟨st.2,p.isList⟩ hi hei (by simp [hei,C5 hae]) λx' h' tk hx' ho hs' hT hsz hk=> ?_
  have ex:x'=u:=T8 (hx'.symm.trans (show its.toArray[i]? =some u by simpa using hu));subst ex;refine⟨_,rfl,wpAny_letOwnedTupleGo_enum ho λh2 he2 hs2=> ?_⟩;have hn:H s.heap.objs.size=none:=I.hok.fresh (P0 _);have hT2:h2.get? s.heap.objs.size=some {cls:= .type "tuple",data:= .seq #[.int i tk,x']}:=(hs2.2 _ (F3 helt)).trans hT;refine⟨.ref s.heap.objs.size,upd H s.heap.objs.size (.tup [.int i,x]),?_,rfl,⟨_,x,hn,λys hy=>by rw [I.list_inj hy hq];exact hx,rfl,rfl⟩,⟨⟨x',by simpa using he2⟩,hs'.1.at λo y=>(hs2.2 it (C5 hei)).trans y⟩,λb hb=> ?_⟩
  ·refine I.turnLaid (h':=h2) (t':=tk+1) (ch:= [e,it]) (λb u hb q=> ?_) hf (P0 _) ⟨by show 2<=sizeLine;decide,[.int i tk,x'],.cons ⟨tk,rfl⟩ (.cons ru .nil),⟨_,hT2,rfl,rfl,_,rfl⟩⟩;have b1:b≠e:=λz=>hb (by simp [z])
   have b2:b≠it:=λz=>hb (by simp [z])
   exact(hs2.2 b b1).trans (hk b u b1 b2 q)
  ·have f:=(hf b hb).1;have:b≠s.heap.objs.size:=λz=>by
    rcases P2.mp hb with w|w
    ·rw [<-w,z] at helt;exact absurd helt (N6 _)
    ·have w:=R6.mp w;obtain⟨o,ho',_⟩:=st.2;have:=P5 ho';rw [<-w,z] at this;exact absurd this (N6 _)
   rw [jd this];exact f
 done:=by
  intro X hP hw hK hc i pins s σ H E I hf st hg;subst hP hw hK;obtain⟨xs,hq,hx⟩:=hg;obtain⟨its,rv,p,hz⟩:=I.list hq;obtain⟨old,he⟩:=st.1;have hl:=rv.length;refine wpAny_pyNext_enum_endD (Yg (prog:=X.prog) (w:=X.w) (A:=X.A.in1) (I.ok.hd hc) it a its.toArray i (by simp;omega)) he ⟨rfl,st.2,p.isList⟩ λh' hx'=>⟨rfl,I.turnL (t':=s.toks) (ch:= [it]) (λb o hb q=>hx' b o (λz=>hb (by simp [z])) q) λb hb=>hf b (D1 _ hb)⟩
 self:=λ_ _ _ _ _ st h=>let ⟨_,q⟩:=st.1;fX q h
section
variable {X:Cx}
def Re (K:G2)(ta:TA):TI:=λσ H R=>ta σ H λvs H1=> ∃a,vs= [.ref a]/\(∃xs,SqL K H1 a xs)/\R (Nr K a) H1
theorem UL {es:G0 D3}{k:P4}{tp:Pos}{a:D3}{ta:TA}{p pos:Pos}(hg:Gl X "enumerate")(hm:X.mg "enumerate" =none)(ha:PA X [a] ta)(hs:G9 [a] X.env= [(false,M2 a X.env)]:=by rfl):
 PI X (.Tuple es k tp) (.Call (.Name "enumerate" p) [a] [] pos) (Re X.K ta):=by
 intro pins s σ H R I h;refine Call_ (JD I hg hm (show B4 "enumerate" =some (.type "enumerate") by decide +kernel) (J6 (thn (ha pos pins s σ H _ I h) λus s1 ⟨vs,H1,I1,r1,q1⟩=> ?_) hs rfl));obtain⟨a,e,⟨xs,hq⟩,q⟩:=q1;subst e;cases r1 with
 |cons r rr=>
  cases rr;cases r;obtain⟨its,rv,p,hz⟩:=I1.list hq;have hlt:a<s1.heap.objs.size:=by obtain⟨o,ho,_⟩:=p.isList;exact P5 ho
  refine call_enumerate_list p.isList λh' he hit _ hk=> ?_
  refine fX he ?_;refine⟨s1.heap.objs.size+1,[s1.heap.objs.size+1,s1.heap.objs.size],_,_,H1,rfl,I1.kept (t':=s1.toks) hk,Yh a s1.heap.objs.size (s1.heap.objs.size+1) (F3 (K8 _)) (R7 (fT hlt)) (R7 hlt),⟨⟨_,he⟩,hit⟩,λb hb=> ?_,q⟩;have hb':s1.heap.objs.size<=b:=by
   rcases P2.mp hb with w|w
   ·rw [w];exact gM _
   ·rw [R6.mp w];exact P0 _
  exact I1.fpOk hb' (I1.hok.fresh hb')
end
def iEL (ta:TAD):TID:=λσ h R=>ta σ h λxs h1=> ∃a,xs= [.lst a]/\R (λh=>(h a).map Ze) h1
section
variable {K:G2}
theorem Yi (H:Hp)(a:G5):QJ K H (λh=>(h a).map Ze) (Nr K a):=λH' h' k rh ds' e i=>by
 have e:(h' a).map Ze=some ds':=e;cases hd:h' a with
 |none=>rw [hd] at e;cases e
 |some ds=>
  rw [hd] at e;cases e;obtain⟨vs,hv',r'⟩:=rh a ds hd;refine⟨λd hd=> ?_,λhl=>⟨vs,SqL.of hv',by rw [<-r'.length,<-zn];exact hl⟩⟩;obtain⟨x,hx,ed⟩:=yL hd;subst ed;obtain⟨v,e1,e2⟩:=r'.get hx;refine⟨⟨vs,v,SqL.of hv',e1⟩,λx' H'' ⟨p,v',hp,hx',ex,eH⟩=> ?_⟩;subst ex eH;have ev:v'=v:=by have:=hx' vs (SqL.of hv');rw [e1] at this;exact(T8 this).symm
  subst ev;have k2:Kept H' (upd H' p (.tup [.int i,v'])):= .new hp;exact⟨k2,RelH.new rh hp,p,[.int i,v'],rfl,jf,_,_,rfl,rfl,_,_,rfl,e2.mono k2,rfl⟩
theorem UM {ta:TAD}: ∀σ H R,LI K (iEL ta) σ H R->Re K (LA K ta) σ H R:=λσ H R ⟨nF,h,Rd,rs,rh,q,p⟩=>
 LA.bind rs rh q λds vs h1 H1 k1 rs1 rh1 r1 ⟨a,e,q1⟩=>by
  subst e;obtain⟨v,e,r2⟩:=jB r1;obtain⟨e',ws,hv⟩:=(show v= .ref a/\ ∃vs,H1 a=some (.lst vs) from r2);subst e';exact⟨a,e,⟨ws,SqL.of hv⟩,p _ _ _ _ k1 rh1 (Yi H1 a) q1⟩
end
section
variable {X:Cx}
theorem Jh {es:G0 D3}{k:P4}{tp:Pos}{a:D3}{ta:TAD}{p pos:Pos}(hg:Gl X "enumerate")(hm:X.mg "enumerate" =none)(ha:JA X [a] ta)(hs:G9 [a] X.env= [(false,M2 a X.env)]:=by rfl):
 JI X (.Tuple es k tp) (.Call (.Name "enumerate" p) [a] [] pos) (iEL ta):=⟨(UL hg hm ha.to hs).imp UM⟩
end
end L2
set_option maxRecDepth 35000
namespace L2
open PySem PySem.Spec PyProof.Rows PySem.SeqAt
theorem UN {h:HD}{p:G5}:Sub (Ja h p) h:= .drop h p
def Nt (T:G0 (G0 P9))(n p:P4):G0 P4:=(O5 n).filter λj=>decide (ent T p j>0)
def cnt (T:G0 (G0 P9))(n o:P4):P4->P4->P9
 |0,p=>if p=o then 1 else 0
 |t+1,p=>((Nt T n p).map (cnt T n o t)).sum
section
variable {T:G0 (G0 P9)}{n o:P4}
def Cd (T:G0 (G0 P9))(n o t p:P4):P4:=(Nt T n p).findIdx λj=>decide (cnt T n o t j>0)
def nxt (T:G0 (G0 P9))(n o t p:P4):P4:=(Nt T n p).getD (Cd T n o t p) 0
end
end L2
namespace HT
open PySem PySem.Spec PyProof.Rows
def Tame {α:Type}:Sem α->Prop
 | .pure _=>True
 | .raise _=>True
 | .unsupported _=>True
 | .finish _=>True
 | .rule _ k=>Tame (k ())
 | .at _ k=>Tame (k ())
 | .load _ _ k=> ∀o,Tame (k o)
 | .update _ _ f k=>(∀o,o.isFreed=false->(f o).isFreed=false/\(f o).dict=o.dict/\(f o).cls=o.cls/\((∀vs,o.data≠ .fields vs)->(f o).data=o.data))/\Tame (k ())
 | .alloc _ k=> ∀a,Tame (k a)
 | .loadIfAlive _ k=> ∀o,Tame (k o)
 | .point _ k=>Tame (k ())
 | .fresh k=> ∀t,Tame (k t)
 | .ask k=> ∀t,Tame (k t)
 | .choose _ _ k=> ∀t,Tame (k t)
 | .os _ _ k=> ∀t,Tame (k t)
 | .handled _ k=> ∀t,Tame (k t)
 | .genState _ k=> ∀t,Tame (k t)
 | .newGen _ k=> ∀t,Tame (k t)
 | .stack k=> ∀t,Tame (k t)
 | .thread k=> ∀t,Tame (k t)
 | .register _ _=>True
 |_=>False
variable {α:Type}
theorem Tame.bind {β:Type}{f:α->Sem β}(hf: ∀a,Tame (f a)): ∀ {t:Sem α},Tame t->Tame (t.bind f):=λ{t}=>by
 induction t with
 |pure a=>exact λ_=>hf a
 |raise e=>exact λh=>h
 |unsupported w=>exact λh=>h
 |finish e=>exact λh=>h
 |rule _ k ih=>exact λh=>ih () h
 | «at» _ k ih=>exact λh=>ih () h
 |load _ _ k ih=>exact λh o=>ih o (h o)
 |update _ _ g k ih=>exact λh=>⟨h.1,ih () h.2⟩
 |alloc _ k ih=>exact λh a=>ih a (h a)
 |loadIfAlive _ k ih=>exact λh o=>ih o (h o)
 |point _ k ih=>exact λh=>ih () h
 |fresh k ih=>exact λh t=>ih t (h t)
 |ask k ih=>exact λh t=>ih t (h t)
 |choose _ _ k ih=>exact λh t=>ih t (h t)
 |os _ _ k ih=>exact λh t=>ih t (h t)
 |handled _ k ih=>exact λh t=>ih t (h t)
 |genState _ k ih=>exact λh t=>ih t (h t)
 |newGen _ k ih=>exact λh t=>ih t (h t)
 |stack k ih=>exact λh t=>ih t (h t)
 |thread k ih=>exact λh t=>ih t (h t)
 |register=>exact λh=>h
 |call=>exact λh=>h.elim
 |resume=>exact λh=>h.elim
 | «yield» =>exact λh=>h.elim
 |fork=>exact λh=>h.elim
 |await=>exact λh=>h.elim
def Dk (h h':S3):Prop:= ∀b o,h.get? b=some o-> ∃o',h'.get? b=some o'/\o'.dict=o.dict/\o'.cls=o.cls/\((∀vs,o.data≠ .fields vs)->o'.data=o.data)
theorem Dk.refl (h:S3):Dk h h:=λ_ o e=>⟨o,e,rfl,rfl,λ_=>rfl⟩
theorem Dk.trans {a b c:S3}(x:Dk a b)(y:Dk b c):Dk a c:=λd o e=>
 let ⟨o1,e1,d1,c1,k1⟩:=x d o e
 let ⟨o2,e2,d2,c2,k2⟩:=y d o1 e1
 ⟨o2,e2,d2.trans d1,c2.trans c1,λn=>(k2 λvs z=>n vs ((k1 n).symm.trans z)).trans (k1 n)⟩
theorem Dk.push {h:S3}(o:Obj):Dk h (h.push o):=λ_ o' e=>⟨o',G7 _ e,rfl,rfl,λ_=>rfl⟩
theorem Dk.update {h:S3}{a:G5}{f:Obj->Obj}(hf: ∀o,o.isFreed=false->(f o).isFreed=false/\(f o).dict=o.dict/\(f o).cls=o.cls/\((∀vs,o.data≠ .fields vs)->(f o).data=o.data)):Dk h (h.update a f):=λb o e=>by
 by_cases z:b=a
 ·subst z;have:=hf o (Heap.get?_some_iff.mp e).2;exact⟨f o,W8 _ e this.1,this.2⟩
 ·exact⟨o,(L7 _ _ (C5 z)).trans e,rfl,rfl,λ_=>rfl⟩
theorem Tame.wp {M:Y1}{Γ:PySem.Ctx}: ∀ {t:Sem α} {Q:α->Pos->G4->Prop} {E:G1->Pos->G4->Prop} {p:Pos} {s:G4},Tame t->O9 M Γ t Q E p s->O9 M Γ t (λa p' s'=>Q a p' s'/\Dk s.heap s'.heap) (λe p' s'=>E e p' s'/\Dk s.heap s'.heap) p s:=λ{t}=>by
 induction t with
 |pure a=>intro Q E p s _ q;unfold O9 at q ⊢;exact⟨q,.refl _⟩
 |raise e=>intro Q E p s _ q;unfold O9 at q ⊢;exact⟨q,.refl _⟩
 |unsupported w=>intro Q E p s _ q;unfold O9 at q;exact q.elim
 |finish e=>intro Q E p s _ q;unfold O9 at q;exact q.elim
 |rule _ k ih=>intro Q E p s h q;unfold O9 at q ⊢;exact ih () h q
 | «at» _ k ih=>intro Q E p s h q;unfold O9 at q ⊢;exact ih () h q
 |load _ _ k ih=>intro Q E p s h q;unfold O9 at q ⊢;obtain⟨o,e,q⟩:=q;exact⟨o,e,ih o (h o) q⟩
 |update a _ g k ih=>
  intro Q E p s h q;unfold O9 at q ⊢;refine⟨q.1,lK _ _ _ (λa p' s' z=>⟨z.1,(Dk.update h.1).trans z.2⟩) (λa p' s' z=>⟨z.1,(Dk.update h.1).trans z.2⟩) _ _ (ih () h.2 q.2)⟩
 |alloc o k ih=>
  intro Q E p s h q;unfold O9 at q ⊢;exact lK _ _ _ (λa p' s' z=>⟨z.1,(Dk.push o).trans z.2⟩) (λa p' s' z=>⟨z.1,(Dk.push o).trans z.2⟩) _ _ (ih _ (h _) q)
 |loadIfAlive _ k ih=>intro Q E p s h q;unfold O9 at q ⊢;exact ih _ (h _) q
 |point _ k ih=>intro Q E p s h q;unfold O9 at q ⊢;exact ih () h q
 |fresh k ih=>intro Q E p s h q;unfold O9 at q ⊢;exact ih _ (h _) q
 |ask k ih=>intro Q E p s h q;unfold O9 at q ⊢;exact ih _ (h _) q
 |choose _ _ k ih=>intro Q E p s h q;unfold O9 at q ⊢;exact⟨q.1,ih _ (h _) q.2⟩
 |os _ _ k ih=>intro Q E p s h q;unfold O9 at q ⊢;exact ih _ (h _) q
 |handled _ k ih=>intro Q E p s h q;unfold O9 at q ⊢;exact ih _ (h _) q
 |genState _ k ih=>intro Q E p s h q;unfold O9 at q ⊢;obtain⟨o,e,q⟩:=q;exact⟨o,e,ih _ (h _) q⟩
 |newGen _ k ih=>intro Q E p s h q;unfold O9 at q ⊢;exact ih _ (h _) q
 |stack k ih=>intro Q E p s h q;unfold O9 at q ⊢;exact ih _ (h _) q
 |thread k ih=>intro Q E p s h q;unfold O9 at q ⊢;exact ih _ (h _) q
 |register=>intro Q E p s h q;unfold O9 at q;exact q.elim
 |call=>intro Q E p s h;exact h.elim
 |resume=>intro Q E p s h;exact h.elim
 | «yield» =>intro Q E p s h;exact h.elim
 |fork=>intro Q E p s h;exact h.elim
 |await=>intro Q E p s h;exact h.elim
theorem Tame.any {α:Type}{M:Y1}{A:R0}{t:Sem α}{Q:α->G4->Prop}{E:G1->G4->Prop}{s:G4}(h:Tame t)(q:D5 M A t Q E s):D5 M A t (λa s'=>Q a s'/\Dk s.heap s'.heap) (λe s'=>E e s'/\Dk s.heap s'.heap) s:=λΓ p oN=>h.wp (q Γ p oN)
theorem vg {M:Y1}{A:R0}{t:Sem Unit}{Q:Unit->G4->Prop}{E:G1->G4->Prop}{s:G4}{P:S3->Prop}(ht:Tame t)(w:D5 M A t (λ_ s'=> ∃h',s'= {s with heap:=h'}/\P h') E s)(k: ∀h',P h'->Dk s.heap h'->Q () {s with heap:=h'}):D5 M A t Q E s:=
 R9 (ht.any w) (λ_ s' ⟨⟨h',e,p⟩,dk⟩=>by subst e;exact k h' p dk) λ_ _ z=>z.1
theorem jg {α β:Type}{t:Sem α}{f:α->Sem β}(h:Tame t)(hf: ∀a,Tame (f a)):Tame (t >>= f):=Tame.bind hf h
theorem wQ (a:G5):Tame (load a):=λ_=>trivial
theorem wj (v:G1)(i:P4):Tame (field v i):=by
 unfold field fieldsOf
 repeat (first|exact trivial|exact wQ _|assumption|(refine jg ?_ λ_=> ?_)|split|dsimp only)
theorem zJ (v:G1)(i:P4)(x:G1):Tame (lL v i x):=by
 unfold lL updateField;split
 ·refine jg (wQ _) λo=> ?_
  split
  ·split
   ·refine⟨λo ho=> ?_,trivial⟩;obtain⟨c,d,t,sl⟩:=o;cases t<;>first|exact⟨ho,rfl,rfl,λ_=>rfl⟩|exact⟨ho,rfl,rfl,λn=>absurd rfl (n _)⟩
   ·exact trivial
  ·exact trivial
 ·exact trivial
theorem zz (e:G1)(f:G6 G5):Tame (j7 e f):=by
 unfold j7;refine jg (wj _ _) λtb=> ?_
 split
 ·exact zJ _ _ _
 ·exact trivial
theorem yi:Tame stack:=λ_=>trivial
theorem ZV (env:Env)(outer:G0 Env):Tame (iD env outer):=by
 unfold iD;split
 ·exact trivial
 ·split
  ·exact trivial
  ·exact jg (wj _ _) λ_=>trivial
theorem VA (env:Env)(i:B3)(outer:G0 Env):Tame (keptBack env i outer):=by
 unfold keptBack underTheClaimsCaller
 repeat (first|exact trivial|exact yi|(refine jg ?_ λ_=> ?_)|split)
theorem vQ: ∀l:G0 Env,Tame (lM l)
 | []=>trivial
 |env::outer=>by
  unfold lM;split
  ·refine jg (wQ _) λo=> ?_
   split
   ·exact trivial
   ·refine jg (ZV _ _) λi=>jg (VA _ _ _) λb=>jg ?_ λ_=>vQ outer
    exact⟨λo ho=>by obtain⟨c,d,t,sl⟩:=o;cases t<;>exact⟨ho,rfl,rfl,λ_=>rfl⟩,trivial⟩
  ·exact trivial
theorem Zg (env:Env):Tame (dR env):=by
 unfold dR frameEnvs;refine jg (jg yi λ_=>trivial) λl=>jg ?_ λf=> ?_
 ·unfold frameObject;split
  ·exact trivial
  ·exact jg (vQ _) λ_=>trivial
 ·split<;>exact trivial
theorem ZW (c:G1)(t:Data)(d:G6 G5):Tame (newObj c t d):=by
 have jp:Tame (mB c t d):=by
  unfold mB;refine jg (λ_=>trivial) λa=> ?_
  dsimp only;split
  ·refine jg ?_ λb=> ?_
   ·unfold classHasDel;exact jg (wQ _) λo=>by split<;>exact trivial
   ·split
    ·exact jg trivial λ_=>trivial
    ·exact trivial
  ·exact trivial
 unfold newObj;dsimp only;split<;>(try split)<;>first|exact jp|exact trivial
theorem Ji (a b c d e:G1)(l:G0 G1):Tame (Y8 a b c d e l):=by
 unfold Y8 newFields;exact ZW _ _ _
theorem Yj (f:G5)(b:B3):Tame (fY f b):=by
 unfold fY;refine jg yi λ_=> ?_
 split<;>exact trivial
theorem wo (e:G1)(env:Env):Tame (gC e env):=by
 unfold gC;split
 ·refine jg (wj _ _) λhead=> ?_
  have jp: ∀f:G5,Tame (do lL e 1 (<-Y8 head (<-dR env) .none (X1 f) .none (<-fY f (head != .none)))):=λf=>jg (Zg _) λ_=>jg (Yj _ _) λ_=>jg (Ji ..) λ_=>zJ _ _ _
  dsimp only;split
  ·refine jg (wj _ _) λx=> ?_
   split
   ·exact trivial
   ·exact jg (zJ _ _ _) λ_=>jp _
  ·exact jp _
 ·exact trivial
theorem yr (env:Env)(e:G1):Tame (c9 env e):=jg (wo e env) λ_=>zz e none
end HT
namespace L2
open PySem PySem.Spec PyProof.Rows
theorem ObjOk.there {P:D2}{w:S4}{H:Hp}{h:S3}{a:G5}{o:HO}(x:ObjOk P w H h a o): ∃u,h.get? a=some u:=by
 cases o with
 |lst xs=>obtain⟨_,_,_,_,e⟩:=x;exact⟨_,e⟩
 |tup xs=>obtain⟨_,_,_,p⟩:=x;obtain⟨o,e,_⟩:=p;exact⟨_,e⟩
 |dK kvs=>obtain⟨_,_,_,_,o,_,_,e,_⟩:=x;exact⟨_,e⟩
 |dT kvs=>obtain⟨_,_,_,_,o,_,_,e,_⟩:=x;exact⟨_,e⟩
 |set S n=>obtain⟨o,_,_,_,e,_⟩:=x;exact⟨_,e⟩
 |ins C dx fs=>obtain⟨_,_,_,e,_⟩:=x;exact⟨_,e⟩
 |own y=>obtain⟨_,e⟩:=x;exact⟨_,e⟩
 |xd fs=>obtain⟨_,⟨_,_,_,e,_⟩,_⟩:=x;exact⟨_,e⟩
 |rng lo hi=>obtain⟨_,_,_,e⟩:=x;exact⟨_,e⟩
 |frz ob u=>obtain⟨e,_⟩:=x;exact⟨_,e⟩
 |tbl ps=>exact⟨_,(show h.get? a=some _ from x)⟩
 |met f y=>exact⟨_,(show h.get? a=some _ from x)⟩
 |ext φ=>obtain⟨_,⟨_,e⟩,_⟩:=x;exact⟨_,e⟩
theorem jK {h b b':S3}: ∀ {l:G0 Env},h.FunFrames b l->(∀a∈frs l,b'.get? a=none)->h.FunFrames b' l
 | [],_,_=>trivial
 |env::r,⟨hk,⟨L,o,hf,_,ho,hd⟩,hr⟩,n=>by
  refine⟨hk,⟨L,o,hf,n L ?_,ho,hd⟩,jK hr λa ha=>n a ?_⟩
  ·unfold frs;rw [L6,hf];exact .head _
  ·unfold frs;rw [L6,hf];exact .tail _ ha
structure Fly (h0:S3)(H:Hp)(h:S3)(x C:G5)(dx:G6 G5):Prop where
 ex: ∃ (oe:Obj) (vs:B7 G1) (a0:G1) (T:G5) (oT:Obj) (ts:B7 G1),h.get? x=some oe/\oe.cls= .ref C/\oe.data= .fields vs/\vs[0]? =some a0/\vs[1]? =some (.ref T)/\T≠x/\
  h.get? T=some oT/\oT.data= .fields ts/\ts[3]? =some .none/\H T=none/\h0.get? T=none
 nx:H x=none
 n0:h0.get? x=none
 dc:dx=none\/ ∃oe,h.get? x=some oe/\oe.dict=dx
def CXR (P:D2)(w:S4):CXT:=λouter H s E e s'=> ∃x C dx H',e= .ref x/\s'.os=s.os/\Z1 s'.gens/\Un (frs outer) [] H H' s.heap s'.heap/\HOk P w H' s'.heap/\Fly s.heap H' s'.heap x C dx/\E (.ref C) dx H'
structure Rz0 (X:Cx):Prop where
 stk:X.stack=X.env::X.outer
 fr:X.env.frame=some X.env.locals
 ex:X.ex= []
structure Rz (X:Cx)(E:XK):Prop extends Rz0 X where
 xe: ∀e s',D5 (D8 X.prog X.w) X.A (c9 X.env e) (λ_ s''=>CXR X.prog X.w X.outer X.H₀ X.s₀ E e s'') (λe' s''=>CXR X.prog X.w X.outer X.H₀ X.s₀ E e' s'') s'->X.xe e s'
section
variable {X:Cx}{pins:G0 (G5×Obj)}{σ:St}{H:Hp}{s:G4}{E:XK}{x C:G5}{dx:G6 G5}
theorem VB (I:Inv X pins σ H s)(Z:Rz0 X){ys:G0 G5}(hy: ∀y∈ys,H y=none/\X.s₀.heap.get? y=none){h':S3}
 (kb: ∀b o,s.heap.get? b=some o->b ∉ ys->b ∉ frs (X.env::X.outer)->h'.get? b=some o)
 (up: ∀b o,s.heap.get? b=some o->b∈frs (X.env::X.outer)-> ∃sl,h'.get? b=some {o with slots:=sl}):
 Un X.fs [] X.H₀ H X.s₀.heap h'/\HOk X.prog X.w H h'/\
  ∀T oT ts,h'.get? T=some oT->oT.data= .fields ts->(∀o,s.heap.get? T=some o->T∈ys\/T∈frs (X.env::X.outer))->H T=none/\X.s₀.heap.get? T=none:=by
 have nex: ∀b,b ∉ X.ex:=λb=>by rw [Z.ex];simp
 have neL: ∀b o,X.s₀.heap.get? b=some o->b≠X.env.locals:=λb o e=>R7 (P3 (P5 e) I.ok.above)
 have mem: ∀b,b∈frs (X.env::X.outer)↔b=X.env.locals\/b∈X.fs:=λb=>by
  show b∈List.filterMap _ _↔_;rw [L6,Z.fr];exact P2
 have nys: ∀b o,X.s₀.heap.get? b=some o->b ∉ ys:=λb o e z=>by rw [(hy b z).2] at e;cases e
 have trf: ∀b u,H b=some u->b ∉ ys/\b ∉ frs (X.env::X.outer):=λb u e=>by
  refine⟨λz=> ?_,λz=> ?_⟩
  ·rw [(hy b z).1] at e;cases e
  ·have:=I.stkFree b (by rw [Z.stk];exact z);rw [this] at e;cases e
 refine⟨⟨λb o e n hb hx=> ?_,λb o e n hb hx=> ?_,λb o e n hx=>I.base.free b o e n (nex b),λb o e hx=> ?_,I.base.tups,I.base.frzs,I.base.tbls⟩,λa o e=> ?_,λT oT ts hT hd hn=>⟨?_,?_⟩⟩
 ·exact kb b o (I.base.keep b o e n hb (nex b)) (nys b o e) λz=>((mem b).mp z).elim (neL b o e) hb
 ·obtain⟨sl,e1⟩:=I.base.slot b o e n hb (nex b);obtain⟨sl',e2⟩:=up b _ e1 ((mem b).mpr (.inr hb));exact⟨sl',e2⟩
 ·obtain⟨o',e1⟩:=I.base.there b o e (nex b)
  by_cases hb:b∈frs (X.env::X.outer)
  ·obtain⟨sl,e2⟩:=up b o' e1 hb;exact⟨_,e2⟩
  ·exact⟨_,kb b o' e1 (nys b o e) hb⟩
 ·refine(I.hok a o e).stay (λb u hb q=> ?_) (λ_ q=>q) λ_ _ q=>q
  rcases hb with rfl|hb
  ·exact kb b u q (trf b _ e).1 (trf b _ e).2
  ·exact kb b u q (trf b _ hb).1 (trf b _ hb).2
 ·cases q:H T with
  |none=>rfl
  |some u=>
   obtain⟨o,e⟩:=(I.hok T u q).there;exact absurd (hn o e) λz=>z.elim (trf T u q).1 (trf T u q).2
 ·cases q:X.s₀.heap.get? T with
  |none=>rfl
  |some o=>
   exfalso;obtain⟨o',e1⟩:=I.base.there T o q (nex T);rcases hn o' e1 with z|z
   ·exact nys T o q z
   ·rcases (mem T).mp z with z'|z'
    ·exact neL T o q z'
    ·obtain⟨_,o2,e2,nd⟩:=(show s.heap.FunFrames X.base (X.env::X.outer) from Z.stk ▸ I.stack).mem z;obtain⟨sl,e3⟩:=up T o2 e2 z;rw [hT] at e3;cases e3;exact nd ts hd
theorem VC {Q:Unit->G4->Prop}{M:Y1}{EE:G1->G4->Prop}(I:Inv X pins σ H s)(Z:Rz X E)(fl:Fly X.s₀.heap H s.heap x C dx)
 (k: ∀h',Un X.fs [] X.H₀ H X.s₀.heap h'->HOk X.prog X.w H h'->Fly X.s₀.heap H h' x C dx->Q () {s with heap:=h'}):D5 M X.A (c9 X.env (.ref x)) Q EE s:=by
 obtain⟨oe,vs,a0,T,oT,ts,he,hc,hd,h0,h1,hTx,hT,hTd,h3,hHT,h0T⟩:=fl.ex;have hfr:X.A.frames=some (X.env::X.outer):=by rw [I.ok.frames,Z.stk]
 have stk:s.heap.FunFrames X.base (X.env::X.outer):=Z.stk ▸ I.stack;have ff:s.heap.FunFrames (A0 s.heap (x::T::frs (X.env::X.outer))) (X.env::X.outer):=jK stk λa ha=>F9 _ (.tail _ (.tail _ ha))
 refine R9 ((HT.yr X.env (.ref x)).any (wpAny_leaves_onW (base:=A0 s.heap (x::T::frs (X.env::X.outer))) (cls:= .ref C) (a0:=a0)
  (Q:=λ_ s'=> ∃h',s'= {s with heap:=h'}/\bZ (A0 s.heap (x::T::frs (X.env::X.outer))) X.outer x (.ref C) a0 h'/\s.heap.UpToSlots h') (E:=EE) hfr Z.fr
  ⟨λb o e=>Z7 _ e,F9 _ (.head _),ff,oe,vs,T,oT,ts,he,⟨hc,h0⟩,hd,h1,F9 _ (.tail _ (.head _)),hTx,hT,hTd,h3⟩ λh' p q=>⟨h',rfl,p,q⟩)) (λ_ s' ⟨⟨h',e',hfl',hup⟩,dk⟩=> ?_) λ_ _ z=>z.1
 subst e';obtain⟨st,_,_,oe',vs',T',oT',ts',he',⟨hc',h0'⟩,hd',h1',hTB,hTx',hT',hTd',h3'⟩:=hfl';obtain⟨r1,r2,r3⟩:=VB (ys:= [x,T]) (h':=h') I Z.toRz0 (λy hy=>by
  rcases P2.mp hy with rfl|hy
  ·exact⟨fl.nx,fl.n0⟩
  ·rcases P2.mp hy with rfl|hy
   ·exact⟨hHT,h0T⟩
   ·cases hy) (λb o e n1 n2=>st b o (A8 _ e λz=>by
    rcases P2.mp z with rfl|z
    ·exact n1 (.head _)
    ·rcases P2.mp z with rfl|z
     ·exact n1 (.tail _ (.head _))
     ·exact n2 z)) λb o e hb=>by
  obtain⟨_,o2,e2,nd⟩:=stk.mem hb;rw [e] at e2;cases e2;exact hup b o e nd
 obtain⟨q1,q2⟩:=r3 T' oT' ts' hT' hTd' λo e=>by
  by_cases z:T'∈frs (X.env::X.outer)
  ·exact .inr z
  ·refine .inl ?_
   by_cases z1:T'=x
   ·rw [z1];exact .head _
   ·by_cases z2:T'=T
    ·rw [z2];exact .tail _ (.head _)
    ·rw [A8 _ e (by simp only [P2,m8];exact⟨z1,z2,z⟩)] at hTB;cases hTB
 exact k h' r1 r2 ⟨⟨oe',vs',a0,T',oT',ts',he',hc',hd',h0',h1',hTx',hT',hTd',h3',q1,q2⟩,fl.nx,fl.n0,fl.dc.imp id λ⟨o,e,d⟩=>let ⟨o',e2,d2,_⟩:=dk x o e;⟨o',e2,d2.trans d⟩⟩
theorem VD {Q:Unit->G4->Prop}{M:Y1}{EE:G1->G4->Prop}{oe:Obj}{vs:B7 G1}{a0:G1}(I:Inv X pins σ H s)(Z:Rz X E)(hx:H x=none)(h0:X.s₀.heap.get? x=none)(he:s.heap.get? x=some oe)(hc:oe.cls= .ref C)(hd:oe.data= .fields vs)(h1:vs[1]? =some .none)(ha:vs[0]? =some a0)(hdx:oe.dict=dx)
 (k: ∀h',Un X.fs [] X.H₀ H X.s₀.heap h'->HOk X.prog X.w H h'->Fly X.s₀.heap H h' x C dx->Q () {s with heap:=h'}):D5 M X.A (c9 X.env (.ref x)) Q EE s:=by
 have hfr:X.A.frames=some (X.env::X.outer):=by rw [I.ok.frames,Z.stk]
 have stk:s.heap.FunFrames X.base (X.env::X.outer):=Z.stk ▸ I.stack;have ff:s.heap.FunFrames (A0 s.heap (x::frs (X.env::X.outer))) (X.env::X.outer):=jK stk λa ha=>F9 _ (.tail _ ha)
 refine R9 ((HT.yr X.env (.ref x)).any (wpAny_leaving_firstW (base:=A0 s.heap (x::frs (X.env::X.outer))) (a0:=a0)
  (Q:=λ_ s'=> ∃h',s'= {s with heap:=h'}/\Heap.LeftW (A0 s.heap (x::frs (X.env::X.outer))) (X.env::X.outer) x oe.cls a0 s.heap h') (E:=EE) hfr ff Z.fr he
  (λb o e=>Z7 _ e) (F9 _ (.head _)) hd h1 ha λh' p=>⟨h',rfl,p⟩)) (λ_ s' ⟨⟨h',e',hl⟩,dk⟩=> ?_) λ_ _ z=>z.1
 subst e';obtain⟨st,⟨_,_,_⟩,⟨oe',vs',T',oT',ts',he',⟨hc',h0'⟩,hd',h1',hTB,hTx',hT',hTd',h3'⟩,hup⟩:=hl;obtain⟨r1,r2,r3⟩:=VB (ys:= [x]) (h':=h') I Z.toRz0 (λy hy=>by
  rcases P2.mp hy with rfl|hy
  ·exact⟨hx,h0⟩
  ·cases hy) (λb o e n1 n2=>st b o (A8 _ e λz=>by
    rcases P2.mp z with rfl|z
    ·exact n1 (.head _)
    ·exact n2 z)) λb o e hb=>by
  obtain⟨_,o2,e2,nd⟩:=stk.mem hb;rw [e] at e2;cases e2;exact hup b o e nd
 obtain⟨q1,q2⟩:=r3 T' oT' ts' hT' hTd' λo e=>by
  by_cases z:T'∈frs (X.env::X.outer)
  ·exact .inr z
  ·refine .inl ?_
   by_cases z1:T'=x
   ·rw [z1];exact .head _
   ·rw [A8 _ e (by simp only [P2,m8];exact⟨z1,z⟩)] at hTB;cases hTB
 exact k h' r1 r2 ⟨⟨oe',vs',a0,T',oT',ts',he',hc'.trans hc,hd',h0',h1',hTx',hT',hTd',h3',q1,q2⟩,hx,h0,.inr (let ⟨o',e2,d2,_⟩:=dk x oe he;⟨o',e2,d2.trans hdx⟩)⟩
theorem Nu (Z:Rz X E):yO (CXR X.prog X.w) X E:=by
 intro pins σ H s e s' I ⟨x,C,dx,H',he,os,bare,un,hok,fl,q⟩;subst he;obtain⟨hh,g,d,t,os'⟩:=s';obtain rfl:os'=s.os:=os;have I':=I.call (h':=hh) (g':=g) (d':=d) (t':=t) (ch:= []) un hok bare (λb z=>absurd z (by simp));have nex: ∀b,b ∉ X.ex:=λb=>by rw [Z.ex];simp
 have f0: ∀b,s.heap.get? b=none->X.s₀.heap.get? b=none:=λb n=>by
  cases q:X.s₀.heap.get? b with
  |none=>rfl
  |some o=>obtain⟨o',e⟩:=I.base.there b o q (nex b);rw [n] at e;cases e
 have fl':Fly X.s₀.heap H' hh x C dx:=by
  obtain⟨⟨oe,vs,a0,T,oT,ts,a1,a2,a3,a4,a5,a6,a7,a8,a9,a10,a11⟩,nx,n0,dc⟩:=fl;exact⟨⟨oe,vs,a0,T,oT,ts,a1,a2,a3,a4,a5,a6,a7,a8,a9,a10,f0 _ a11⟩,nx,f0 _ n0,dc⟩
 exact Z.xe _ _ (VC I' Z fl' λh' u hk f=>⟨x,C,dx,H',rfl,I'.os,I'.bare,u,hk,f,q⟩)
end
end L2
namespace L2
open PySem PySem.Spec PyProof.Rows PySem.W
def yB (cells:G0 (Str×G5)):G0 (Str×NameKind)->G0 (Str×G5)->G0 (Str×G5)
 | [],cs=>cs
 |(n,k)::r,cs=>yB cells r (if k== .free then (match cells.lookup n with|some c=>(n,c)::cs|none=>cs) else cs)
theorem zK {env:Env}: ∀ (names:G0 (Str×NameKind)) (cs:G0 (Str×G5)),(∀n,(n,T7)∈names-> ∃c,env.cells.lookup n=some c)->
 (forIn names cs (λ(x:Str×NameKind) (r:G0 (Str×G5))=>do
  let (name,kind):=x
  if kind== .free then
   let c <-m5 env name
   pure (J0 ((name,c)::r))
  else pure (J0 r)):Sem (G0 (Str×G5)))=pure (yB env.cells names cs)
 | [],cs,_=>rfl
 |(n,k)::r,cs,h=>by
  rw [cF]
  by_cases hk:(k==T7)=true
  ·have hk':k= .free:=eq_of_beq hk;subst hk';obtain⟨c,hc⟩:=h n (.head _);unfold yB;simp only [X7,X9,m5,hc,pure_bind];exact zK r _ λn hn=>h n (.tail _ hn)
  ·unfold yB;simp only [hk,bK,pure_bind];exact zK r _ λn hn=>h n (.tail _ hn)
variable {scope:N0}
theorem vh {env:Env}(h: ∀n,(n,T7)∈scope.names-> ∃c,env.cells.lookup n=some c):aJ scope env=pure (yB env.cells scope.names []):=by
 have:=zK (env:=env) scope.names [] h;unfold aJ
 first
  |exact this
  |simpa using this
theorem zE {cells:G0 (Str×G5)}: ∀ (names:G0 (Str×NameKind)) (cs:G0 (Str×G5)),(∀x c,cs.lookup x=some c->cells.lookup x=some c)-> ∀x c,(yB cells names cs).lookup x=some c->cells.lookup x=some c
 | [],_,h,x,c,e=>h x c e
 |(n,k)::r,cs,h,x,c,e=>by
  unfold yB at e;refine zE r _ (λy d hy=> ?_) x c e;split at hy
  ·split at hy
   ·rename_i c' hc';rw [T9] at hy
    by_cases q:(y==n)=true
    ·rw [q] at hy;cases hy;rw [eq_of_beq q];exact hc'
    ·simp only [q] at hy;exact h y d hy
   ·exact h y d hy
  ·exact h y d hy
theorem vj {cells:G0 (Str×G5)}: ∀ (names:G0 (Str×NameKind)) (cs:G0 (Str×G5)) (x:Str),((x,T7)∈names/\(∃c,cells.lookup x=some c)\/ ∃c,cs.lookup x=some c)-> ∃c,(yB cells names cs).lookup x=some c
 | [],_,x,h=>h.elim (λz=>nomatch z.1) id
 |(n,k)::r,cs,x,h=>by
  unfold yB;refine vj r _ x ?_;rcases h with ⟨hm,c,hc⟩|⟨c,hc⟩
  ·rcases P2.mp hm with q|q
   ·cases q;right;simp only [X7,X9,hc];exact⟨c,by simp⟩
   ·exact .inl ⟨q,c,hc⟩
  ·right;split
   ·split
    ·rename_i c' hc'
     by_cases q:(x==n)=true
     ·exact⟨c',by rw [T9,q]⟩
     ·exact⟨c,by rw [T9];simp only [q];exact hc⟩
    ·exact⟨c,hc⟩
   ·exact⟨c,hc⟩
structure LamOk (sc:N0):Prop where
 kind:sc.kind= .function
 co:sc.isCoroutine=false
 gen:sc.isGenerator=false
 nocell: ∀y∈sc.names,y.2≠ .cell/\y.2≠ .local
def vA:dA:= {posonlyargs:= [],args:= [],vararg:=none,kwonlyargs:= [],kw_defaults:= [],kwarg:=none,defaults:= []}
theorem Zh {a0 b0:P4}{c:G1}: ∀l:G0 G1,X5 l->X5 (l++ [X1 a0,X1 b0,c]):=by
 intro l h
 fun_induction X5 l with
 |case1=>simp [X5,X1]
 |case2 a t b u x rest ih=>simp only [F2,X5];exact ih h
 |case3 l h1 h2=>exact h.elim
theorem Yk {p:Pos}{a0 b0:P4}{c cv:G1}: ∀l:G0 G1,X5 l->bM p (l++ [X1 a0,X1 b0,c])=some cv->bM p l=some cv\/cv=c:=by
 intro l h e
 fun_induction X5 l with
 |case1=>
  right;simp only [L4,bM,X1] at e;split at e
  ·exact(T8 e).symm
  ·cases e
 |case2 a t b u x rest ih=>
  simp only [F2,bM] at e ⊢;split at e
  ·rename_i hc;left;rw [S2 hc];exact e
  ·rename_i hc;rw [S6 hc];exact ih h e
 |case3 l h1 h2=>exact h.elim
def CodeF (H:Hp)(cv:G1)(q:Str):Prop:= ∃ (c:G5) (o:Obj) (vs:B7 G1) (t:Tok),cv= .ref c/\H c=some (.frz o (.own 0))/\o.data= .fields vs/\vs[1]? =some (.str q t)
variable {w:S4}{H:Hp}{q:Str}
theorem CodeF.rec {P:D2}{h:S3}{cv:G1}(x:CodeF H cv q)(ok:HOk P w H h):h.CodeRec cv q:=let ⟨c,o,vs,t,e,e2,r⟩:=x;⟨c,o,vs,t,e,(ok c _ e2).1,r⟩
section
variable {X:Cx}{pins:G0 (G5×Obj)}{σ:St}{H:Hp}{s:G4}
theorem UO {M:Y1}{A:R0}{E:G1->G4->Prop}{Q:G1->G4->Prop}{body:D3}{scope:N0}{pos:Pos}{c P:G5}{ps:B7 G1}{clos:G0 (Str×G5)}(I:Inv X pins σ H s)(B:Bm X.mg X.base)
 (hcode:X.env.code= .ref c)(hc:codeHdIn X.K c P=true)(hP:H P=some (.tbl ps))(hps:CodesOk H ps)(hcl:aJ scope X.env=pure clos)
 (k: ∀ (f:G5) (q qual:Str) (pm cv ctv:G1) (H':Hp) (h':S3) (tk:Tok),Inv X pins σ H' {s with heap:=h',toks:=tk}->Kept H H'->(∀a o,H a=some o->(∀ps',o≠ .tbl ps')->H' a=some o)->
  (∀a ps',H a=some (.tbl ps')->a≠P->H' a=some (.tbl ps'))->(∃ps',H' P=some (.tbl ps')/\CodesOk H' ps')->
  h'.get? f=some {cls:= .type "function",data:= .func (kla_fn "<lambda>" qual vA body scope clos pm cv ctv)}->CodeF H' cv q->H' f=none->(∀x d,X.env.cells.lookup x=some d->d≠f)->f≠X.env.locals->f ∉ X.fs->Q (.ref f) {s with heap:=h',toks:=tk}):
 D5 M A (M2 (.Lambda vA body scope pos) X.env) Q E s:=by
 have hPg:s.heap.get? P=some (tabObj ps):=I.hok P _ hP;have C:CodeHd s.heap c P:=codeHd_of_K I.kIn hc;have hgs:s.heap.Ns mainGlobals X.mg:=I.mod.glob.keeps I.bk;obtain⟨bm,ob,b1,b2,b3,b4,b5,b6⟩:=B;have bb:=I.bs _ _ b3;have hgP:mainGlobals≠P:=λq=>by
  obtain⟨o,es,ep,e,hd,_⟩:=hgs;rw [q,hPg] at e;cases e;cases hd
 have hbP:bm≠P:=λq=>by rw [q,hP] at bb;cases bb.2
 have hbG:bm≠mainGlobals:=λq=>by
  obtain⟨o,es,ep,e,hd,_⟩:=hgs;rw [q,e] at bb;cases bb.1;rw [hd] at b6;cases b6
 have BA:s.heap.BuiltinsAt X.mg P:=⟨bm,ob,b1,b2,hbG,hbP,bb.1,b4,b5,b6⟩;have away: ∀f,s.heap.objs.size<=f->(∀x d,X.env.cells.lookup x=some d->d≠f)/\f≠X.env.locals/\f ∉ X.fs:=λf hf=>⟨λx d e z=>by
  obtain⟨v,o,ho,_⟩:=I.cell x d e;exact absurd (P3 (P5 ho) (z ▸ hf)) (N6 _),λz=>absurd (P3 I.lt (z ▸ hf)) (N6 _),I.nofs hf⟩
 refine kla_eval rfl ?_;cases hf:bM pos ps.toList with
 |none=>
  refine kla_makeFunction (mg:=X.mg) hcl I.ok.glob hgs hcode C hPg hps.1 hf hgP BA λc' ctv h' tk hx hge hlt hrec htb=> ?_
  have hP':P<s.heap.objs.size:=P5 hPg;have hcP:c'≠P:=F3 (P3 hP' hge);have hcn:H c'=none:=I.hok.fresh hge;obtain⟨c₂,oc,vs,t,e2,hoc,hd,hv⟩:=hrec;cases e2;have szle:s.heap.objs.size<=h'.objs.size:=M3 (O6 hge hlt);have kp: ∀ (o2:Obj) b o,b≠P->s.heap.get? b=some o->(h'.push o2).get? b=some o:=λo2 b o nb e=>G7 _ (hx b o nb e)
  have hnP: ∀b u,H b=some u->(∀ps',u≠ .tbl ps')->b≠P:=λb u e n z=>by rw [z,hP] at e;cases e;exact n _ rfl
  have look: ∀b,b≠P->b≠c'->upd (upd H c' (.frz oc (.own 0))) P (.tbl (ps++ #[X1 pos.line,X1 pos.col,.ref c'])) b=H b:=λb n1 n2=>by rw [jd n1,jd n2]
  have ncs: ∀b u,H b=some u->b≠c':=λb u e z=>by rw [z,hcn] at e;cases e
  have frzs: ∀b o u,H b=some (.frz o u)->upd (upd H c' (.frz oc (.own 0))) P (.tbl (ps++ #[X1 pos.line,X1 pos.col,.ref c'])) b=some (.frz o u):=λb o u e=>by
   rw [look b (hnP b _ e (by intro _ z;cases z)) (ncs b _ e)];exact e
  refine k h'.objs.size (X.env.qual++ "<lambda>") (X.env.qual++ "<lambda>") _ (.ref c') ctv (upd (upd H c' (.frz oc (.own 0))) P (.tbl (ps++ #[X1 pos.line,X1 pos.col,.ref c']))) _ tk ?_ ?_ ?_ ?_ ?_ (S5 _ rfl) ⟨c',oc,vs,t,rfl,by rw [jd hcP,jf],hd,hv⟩ ?_ (away _ szle).1 (away _ szle).2.1 (away _ szle).2.2
  ·refine I.un (t':=tk) ⟨λb o e n hb hx'=>kp _ b o (λz=>by rw [z,hP] at n;cases n) e,λb o e n hb hx'=>⟨o.slots,kp _ b o (λz=>by rw [z,hP] at n;cases n) e⟩,λb o e n hx'=> ?_,λb o e hx'=> ?_,λb xs e=> ?_,frzs,λb ps' e=> ?_⟩ λa o e=> ?_
   ·rw [look b (λz=>by rw [z,hP] at n;cases n) (R7 (P3 (P5 e) hge))];exact n
   ·by_cases z:b=P
    ·rw [z];exact⟨_,G7 _ htb⟩
    ·exact⟨_,kp _ b o z e⟩
   ·rw [look b (hnP b _ e (by intro _ z;cases z)) (ncs b _ e)];exact e
   ·by_cases z:b=P
    ·subst z;rw [hP] at e;cases e;exact⟨_,jf⟩
    ·exact⟨#[],by rw [look b z (ncs b _ e),e];simp⟩
   ·by_cases z:a=P
    ·subst z;rw [jf] at e;cases e;exact G7 _ htb
    ·rw [jd z] at e
     by_cases z2:a=c'
     ·subst z2;rw [jf] at e;cases e;exact⟨G7 _ hoc,⟨oc,G7 _ hoc⟩⟩
     ·rw [jd z2] at e;refine(I.hok a o e).stay (λb u hb q=> ?_) (λb q=> ?_) λb xs q=> ?_
      ·rcases hb with rfl|hb
       ·exact kp _ b u z q
       ·exact kp _ b u (hnP b _ hb (by intro _ z;cases z)) q
      ·rw [look b (hnP b _ q (by intro _ z;cases z)) (ncs b _ q)];exact q
      ·rw [look b (hnP b _ q (by intro _ z;cases z)) (ncs b _ q)];exact q
  ·refine⟨λa xs e=> ?_,λa xs e=>⟨xs,?_⟩,λa kk i e=> ?_,frzs⟩<;>(rw [look a (hnP a _ e (by intro _ z;cases z)) (ncs a _ e)];exact e)
  ·intro a o e n;rw [look a (hnP a _ e n) (ncs a _ e)];exact e
  ·intro a ps' e n;rw [look a n (ncs a _ e)];exact e
  ·refine⟨_,jf,?_,λp cv e=> ?_⟩
   ·simp only [Y9];exact Zh _ hps.1
   ·simp only [Y9] at e;rcases Yk ps.toList hps.1 e with e|e
    ·obtain⟨c1,o,vs',q',t',e1,e2,r⟩:=hps.2 p cv e;exact⟨c1,o,vs',q',t',e1,frzs _ _ _ e2,r⟩
    ·exact⟨c',oc,vs,_,t,e,by rw [jd hcP,jf],hd,hv⟩
  ·have:H h'.objs.size=none:=I.hok.fresh szle;rw [look _ (F3 (P3 hP' szle)) (F3 hlt)];exact this
 |some cv=>
  obtain⟨c1,o,vs,q,t,rfl,e2,hd,hv⟩:=hps.2 pos cv hf;obtain⟨ho,_⟩:=I.hok c1 _ e2;refine kla_makeFunctionHit (mg:=X.mg) hcl I.ok.glob hgs hcode C hPg hps.1 hf BA λctv h' tk hk hsz=> ?_
  exact k h'.objs.size q (X.env.qual++ "<lambda>") _ (.ref c1) ctv H _ tk (I.kept (t':=tk) λb u e=>G7 _ (hk b u e)) (.refl H) (λ_ _ e _=>e) (λ_ _ e _=>e) ⟨ps,hP,hps⟩ (S5 _ rfl) ⟨c1,o,vs,t,rfl,e2,hd,hv⟩
   (I.hok.fresh hsz) (away _ hsz).1 (away _ hsz).2.1 (away _ hsz).2.2
end
structure Cap (N:G0 Str)(σ:St)(sc:N0)(cl:G0 (Str×G5))(h:S3)(H:Hp):Prop where
 len:σ.length=N.length
 inj: ∀x y c,cl.lookup x=some c->cl.lookup y=some c->x=y
 has: ∀x,sc.names.lookup x=some .free-> ∃c,cl.lookup x=some c
 cell: ∀x c,cl.lookup x=some c->(∃v,h.IsCell c v)/\H c=none
 loc: ∀ (i:P4) (x:Str) (v:V),N[i]? =some x->σ[i]? =some (some v)->sc.names.lookup x=some .free-> ∃u c,RelV v u/\cl.lookup x=some c/\h.IsCell c (some u)
theorem zo {α β:Type}[BEq α][LawfulBEq α]: ∀ {l:G0 (α×β)} {x:α} {y:β},l.lookup x=some y->(x,y)∈l
 | [],_,_,h=>by cases h
 |(a,b)::r,x,y,h=>by
  rw [T9] at h
  by_cases q:(x==a)=true
  ·rw [q] at h;cases h;rw [eq_of_beq q];exact .head _
  ·simp only [q] at h;exact .tail _ (zo h)
def VE (sc:N0)(env:Env):Prop:= ∀n,(n,T7)∈sc.names->env.kindOf n=some .cell\/env.kindOf n=some .free
variable {σ:St}{s:G4}
theorem Cap.of {X:Cx}{pins:G0 (G5×Obj)}{sc:N0}(I:Inv X pins σ H s)(hf:VE sc X.env):Cap X.N σ sc (yB X.env.cells sc.names []) s.heap H where
 len:=I.len
 inj:=λx y c h1 h2=>I.ok.inj x y c (zE _ _ (λ_ _ z=>by cases z) _ _ h1) (zE _ _ (λ_ _ z=>by cases z) _ _ h2)
 has:=λx h=>vj _ _ _ (.inl ⟨zo h,I.ok.has x (hf x (zo h))⟩)
 cell:=λx c h=>⟨I.cell x c (zE _ _ (λ_ _ z=>by cases z) _ _ h),I.freeC x c (zE _ _ (λ_ _ z=>by cases z) _ _ h)⟩
 loc:=λi x v h1 h2 h3=>by
  obtain⟨m,hn,hl⟩:=I.loc;have hk:=hf x (zo h3);obtain⟨u,r,l⟩:=hl i x v h1 h2 (.inr hk);obtain⟨c,hc⟩:=vj (cells:=X.env.cells) sc.names [] x (.inl ⟨zo h3,I.ok.has x hk⟩);refine⟨u,c,r,hc,?_⟩;have hc':=zE _ _ (λ_ _ z=>by cases z) _ _ hc;rcases l with ⟨k,_⟩|⟨_,c2,e,z⟩
  ·rcases hk with k2|k2<;>(rw [k] at k2;cases k2)
  ·rw [hc'] at e;cases e;exact z
variable {cl:G0 (Str×G5)}
theorem Cap.step {N:G0 Str}{sc:N0}{h h':S3}{H':Hp}{fs:G0 G5}(C:Cap N σ sc cl h H)(u:Un fs [] H H' h h'):Cap N σ sc cl h' H':=by
 have k: ∀x c v,cl.lookup x=some c->h.IsCell c v->h'.IsCell c v:=λx c v e ⟨o,ho,hd⟩=>by
  obtain⟨sl,q⟩:=u.any ho (C.cell x c e).2 (by simp);exact⟨_,q,hd⟩
 exact⟨C.len,C.inj,C.has,λx c e=>by
  obtain⟨⟨v,z⟩,n⟩:=C.cell x c e;obtain⟨o,ho,_⟩:=id z;exact⟨⟨v,k x c v e z⟩,u.free c o ho n (by simp)⟩,λi x v h1 h2 h3=>let ⟨uu,c,r,e,z⟩:=C.loc i x v h1 h2 h3;⟨uu,c,r,e,k x c _ e z⟩⟩
def cxL (CX:CXT)(P:D2)(w:S4)(K:G2)(mg:Str->G6 G1)(base:S3)(N:G0 Str)(q:Str)(scope:N0)(f:G5)(cd:G1)(cl:G0 (Str×G5))(A:R0)(outer:G0 Env)(s:G4)(H:Hp)(E:XK):Cx where
 prog:=P
 w:=w
 K:=K
 mg:=mg
 base:=base
 A:=A.deeper (envX q scope s.heap.objs.size f cd cl)
 N:=N
 s₀:=s
 H₀:=H
 env:=envX q scope s.heap.objs.size f cd cl
 outer:=outer
 stack:=envX q scope s.heap.objs.size f cd cl::outer
 ex:= []
 calm:=true
 fn:=λ_=>false
 pn:= []
 xe:=λe s'=>D5 (D8 P w) (A.deeper (envX q scope s.heap.objs.size f cd cl)) (c9 (envX q scope s.heap.objs.size f cd cl) e) (λ_ s''=>CX outer H s E e s'') (λe' s''=>CX outer H s E e' s'') s'
theorem Gj {CX:CXT}{P:D2}{K:G2}{mg:Str->G6 G1}{base:S3}{N:G0 Str}{f:G5}{cd:G1}{A:R0}{outer:G0 Env}{E:XK}{nK:S3}{tk:Tok}
 (L:LamOk scope)(hd:A.handled=none)(e0:Env0 P w K mg base A outer s H)(C:Cap N σ scope cl s.heap H)(hns:nK.Ns s.heap.objs.size (λ_=>none))(hk: ∀b o,s.heap.get? b=some o->nK.get? b=some o):
 Inv (cxL CX P w K mg base N q scope f cd cl A outer s H E) [] σ H {s with heap:=nK,toks:=tk}:=by
 have noA: ∀b:G5,b ∉ (cxL CX P w K mg base N q scope f cd cl A outer s H E).ex:=λb z=>absurd (show b∈([]:G0 G5) from z) (by simp)
 have nofr: ∀y,scope.names.lookup y=some .cell\/scope.names.lookup y=some .free->scope.names.lookup y=some .free:=λy hy=>hy.elim (λz=>absurd rfl (L.nocell _ (zo z)).1) id
 refine⟨⟨e0.mod,L.kind,rfl,rfl,P0 _,λy z c h1 h2=>C.inj y z c h1 h2,λy hy=>C.has y (nofr y hy),λy c z=>(by cases z),λ_=>hd,Y2 e0.frames,.inr ⟨rfl,rfl⟩,λb z=>absurd z (noA b),e0.bs,e0.bsz,λb _ _=>noA b,λb z=>absurd z (noA b),e0.funs,e0.frf⟩,
  rfl,e0.bare,Un.kept hk,⟨_,hns,λi y v h1 h2 h3=> ?_⟩,λy c h=> ?_,e0.hok.fresh (P0 _),λy c h=>(C.cell y c h).2,λp hp=>absurd (show p∈([]:G0 (G5×Obj)) from hp) (by simp),e0.hok.kept hk,C.len⟩
 ·have h3':scope.names.lookup y=some .free:=by
   rcases h3 with z|z
   ·exact absurd rfl (L.nocell _ (zo z)).2
   ·exact nofr y z
  obtain⟨u,c,r,e,o,ho,hd'⟩:=C.loc i y v h1 h2 h3';exact⟨u,r,.inr ⟨.inr h3',c,e,o,hk _ _ ho,hd'⟩⟩
 ·obtain⟨⟨v,o,ho,hd'⟩,_⟩:=C.cell y c h;exact⟨v,o,hk _ _ ho,hd'⟩
theorem VF {prog:D2}{A:R0}{R:kM->G4->Prop}{f:G5}{o:Obj}{qual:Str}{body:D3}{pm cd ctv:G1}(L:LamOk scope)(deep:A.depth<recursionLimit)
 (there:s.heap.get? f=some o)(lam:o.data= .func (kla_fn "<lambda>" qual vA body scope cl pm cd ctv))(named:s.heap.CodeRec cd q)(lim:s.heap.NoLimit)
 (go: ∀nK,nK.Ns s.heap.objs.size (λ_=>none)->(∀b o,s.heap.get? b=some o->nK.get? b=some o)->
  A9 (D8 prog w) A (.expr body (envX q scope s.heap.objs.size f cd cl)) R {s with heap:=nK,toks:=s.toks+0}):
 A9 (D8 prog w) A (.call (.ref f) ⟨[],[]⟩) R s:=by
 obtain⟨c,oc,vs,t,rfl,hoc,hdc,hq⟩:=named;obtain⟨h,g,d,tk,os⟩:=s;have frame:=λ{A':R0} {Q:Env->G4->Prop} {E:G1->G4->Prop} (k: ∀nK,_->_->Q _ _)=>wpAny_newFunctionEnv (M:=D8 prog w) (A:=A') (s:=⟨h,g,d,tk,os⟩) (E:=E) (scope:=scope) (globals:=mainGlobals) (closure:=cl) (binds:= []) (qual:=q++ ".<locals>.") (func:=some f) (code:= .ref c) (around:=none) (builtins:=Z8) (Q:=Q) (λx hx=>(L.nocell x hx).1) (λx hx=>nomatch hx) k L.kind
 refine gX ?_;show D5 _ A.in1 (callAny (.ref f) ⟨[],[]⟩) _ _ _
 wp_walk using lU there
 rw [lam];have nothing:fC (kla_fn "<lambda>" qual vA body scope cl pm (.ref c) ctv) ⟨[],[]⟩=pure []:=rfl;show D5 _ _ (kP f (kla_fn "<lambda>" qual vA body scope cl pm (.ref c) ctv) ⟨[],[]⟩) _ _ _;unfold kP;rw [nothing];show D5 _ _ (field (.ref c) 1 >>= _) _ _ _;refine wpAny_bind (cT hoc hdc hq ?_)
 repeat refine wpAny_bind (P6 ?_)
 refine wpAny_bind (frame λnK empty same=>wpAny_bind (wpAny_enterFrame (lim.fresh _ same) deep ?_));simp only [kla_fn,L.co,L.gen];exact P6 ⟨rfl,go nK empty λb o old=>same.extBut _ _ (λz=>absurd (P5 old) (by rw [z];exact N6 _)) (G7 _ old)⟩
theorem Gk {CX:CXT}{P:D2}{K:G2}{mg:Str->G6 G1}{base:S3}{N:G0 Str}{qual:Str}{f:G5}{cd pm ctv:G1}{A:R0}{outer:G0 Env}{E:XK}{o:Obj}{body:D3}{t:TE}{Q:VK}{k:P4}
 (L:LamOk scope)(hr:Room (k+1) A)(e0:Env0 P w K mg base A outer s H)(C:Cap N σ scope cl s.heap H)(ho:s.heap.get? f=some o)(hd:o.data= .func (kla_fn "<lambda>" qual vA body scope cl pm cd ctv))(hc:CodeF H cd q)
 (hb:PE (cxL CX P w K mg base N q scope f cd cl A outer s H E) body t)(ht:t σ H Q):A9 (D8 P w) A (.call (.ref f) ⟨[],[]⟩) (CR CX outer P w H s Q E) s:=by
 have lim:s.heap.NoLimit:=e0.mod.nolimit.keeps λb o e=>(e0.bs b o e).1
 refine VF L hr.depth ho hd (hc.rec e0.hok) lim λnK hns oO=> ?_
 have I:=Gj (CX:=CX) (q:=q) (f:=f) (cd:=cd) (E:=E) (tk:=s.toks+0) L hr.hd e0 C hns oO;refine kla_codeExpr (R9 (hb [] _ σ H Q I ht) (λv s' hs=> ?_) λ_ _ y=>y);obtain⟨v',H',J,rv,q'⟩:=hs;exact⟨v',H',J.os,J.bare,J.base,J.hok,rv,q'⟩
structure RN where
 nm:Str
 fs:G0 (Str×P9)
instance:Coe Str RN:=⟨λc=>⟨c,[]⟩⟩
abbrev TXD:=SD->HD->(RN->HD->Prop)->Prop
def WX (X:Cx)(E:XK)(H:Hp)(R:RN->HD->Prop):Prop:= ∀ (c:RN) C dx h' H',Kept H H'->RelH X.K h' H'->X.mg c.nm=some (.ref C)->R c h'->FldH H' dx c.fs->E (.ref C) dx H'
theorem WX.mono {X:Cx}{E:XK}{H':Hp}{R:RN->HD->Prop}(w:WX X E H R)(k:Kept H H'):WX X E H' R:=λc C dx h2 H2 k2=>w c C dx h2 H2 (k.trans k2)
structure JX (X:Cx)(sts:G0 M4)(t:TXD):Prop where
 to: ∀ (E:XK),Rz X E-> ∀ (pins:G0 (G5×Obj)) (s:G4) (σ:St) (H:Hp) (nF:SD) (h:HD) (R:RN->HD->Prop),Inv X pins σ H s->RelS X.K H nF σ->RelH X.K h H->t nF h R->WX X E H R->
  D5 (D8 X.prog X.w) X.A (execs sts X.env) (λ_ _=>False) X.xe s
structure JXE (X:Cx)(e:D3)(t:TXD):Prop where
 to: ∀ (E:XK),Rz X E-> ∀ (pins:G0 (G5×Obj)) (s:G4) (σ:St) (H:Hp) (nF:SD) (h:HD) (R:RN->HD->Prop),Inv X pins σ H s->RelS X.K H nF σ->RelH X.K h H->t nF h R->WX X E H R->
  D5 (D8 X.prog X.w) X.A (M2 e X.env) (λ_ _=>False) X.xe s
theorem JS.nox {X:Cx}{st:M4}{t:TSD}(h:JS X.nox st t):JS X st t:=⟨λpins s σ H D I hw=>
 R9 (h.to pins s σ H D (I.wish _) hw) (λ_ _ q=>q.unwish) λ_ _ z=>False.elim z⟩
def Bn (t:TSD)(u:TXD):TXD:=λσ h R=>t {nx:=λnE h'=>u nE h' R,rt:=λ_ _=>False} σ h
def xIf (t:TTD)(u:TXD):TXD:=λσ h R=>t σ h λk h'=>k=true/\u σ h' R
abbrev RDx:=G0 D->HD->(RN->HD->Prop)->Prop
def Rf (spr:RDx)(t:TAD):TXD:=λσ h R=>t σ h λds h1=>spr ds h1 R
def Gm (mg:Str->G6 G1)(K:G2)(spr:RDx):Sp:=λvs H _ E=> ∃ds h R,RelDs K H ds vs/\RelH K h H/\spr ds h R/\ ∀ (c:RN) C dx h' H',Kept H H'->RelH K h' H'->mg c.nm=some (.ref C)->R c h'->FldH H' dx c.fs->E (.ref C) dx H'
def bmV:G0 G1:= [.type "ValueError",.type "Exception",.type "BaseException",.type "object"]
def Ce (K:G2)(mg:Str->G6 G1)(c:Str):Prop:= ∃C,mg c=some (.ref C)/\nsIn K mainGlobals c=some (some (.ref C))/\excIn K C bmV "ValueError.__new__" =true
section
variable {X:Cx}{c:D3}{e:D3}{es:G0 D3}{st:M4}{a b rest:G0 M4}{t:TSD}{tt:TTD}{u:TXD}{ta:TAD}{pos p:Pos}
theorem vk (hs:JS X st t)(hr:JX X rest u):JX X (st::rest) (Bn t u):=⟨λE Z pins s σ H nF h R I rs rh ht w=>by
 refine F0 (thn (hs.to pins s σ H {nx:=λnE H'=> ∃nH h',Kept H H'/\RelS X.K H' nH nE/\RelH X.K h' H'/\u nH h' R,rt:=λ_ _=>False} I
  ⟨nF,h,_,rs,rh,ht,λnH h' nE H' k rs' rh' q=>⟨nH,h',k,rs',rh',q⟩,λ_ _ _ _ _ _ _ q=>q,λ_ _ _ _ _ _ _ q=>q,λ_ _ _ _ _ _ _ q=>q⟩) λf s1 q=> ?_)
 cases f with
 |next=>
  obtain⟨nE,H',I',nH,h',k,rs',rh',q⟩:=q;exact hr.to E Z pins s1 nE H' nH h' R I' rs' rh' q (w.mono k)
 |ret v=>obtain⟨_,_,_,_,_,q⟩:=q;exact q
 |brk=>obtain⟨_,_,_,q⟩:=q;exact q
 |cont=>obtain⟨_,_,_,q⟩:=q;exact q⟩
theorem Gn (hc:JT X c tt)(ha:JX X a u):JX X (.If c a b pos::rest) (xIf tt u):=⟨λE Z pins s σ H nF h R I rs rh ht w=>by
 refine F0 (R9 (wpAny_If (Q:=λ_ _=>False) (thn (hc.to pins s σ H (λk H'=>k=true/\ ∃h',Kept H H'/\RelS X.K H' nF σ/\RelH X.K h' H'/\u nF h' R) I
  ⟨nF,h,_,rs,rh,ht,λk h' H' kp rh' q=>⟨q.1,h',kp,rs.mono kp,rh',q.2⟩⟩) λd s1 q=> ?_)) (λ_ _ z=>z.elim) λ_ _ z=>z)
 obtain⟨H',I',rfl,h',kp,rs',rh',q⟩:=q;exact ha.to E Z pins s1 σ H' nF h' R I' rs' rh' q (w.mono kp)⟩
theorem Go {k:P4}{f:G5}{fd:D6}{ps:G0 Str}{spr:RDx}{x:Str}(F:FnOk X.prog X.w X.K X.mg X.base (CXR X.prog X.w) k f fd ps (Gm X.mg X.K spr))(hr:Room k X.A)(hg:Gl X x)(hm:X.mg x=some (.ref f))(hk:N4 X.K (.ref f)=true)(hb:Binds X.K fd ps [])
 (ha:JA X (e::es) ta)(hdb:(x==("__debug__" :Str))=false:=by decide)(he:G9 (e::es) X.env=(false,M2 e X.env)::G9 es X.env:=by rfl)(hpl:(M9 pos (G9 es X.env)).any (·.1)=false:=by rfl):
 JXE X (.Call (.Name x p) (e::es) [] pos) (Rf spr ta):=⟨λE Z pins s σ H nF h R I rs rh ht w=>by
 refine thn (YU F hr hg hm hk hb .nil (Nu Z) ha.to hdb he hpl pins s σ H (λ_ _=>False) I
  ⟨nF,h,_,rs,rh,ht,λds vs h' H' kp rh' r q=>by show Gm X.mg X.K spr (vs++ []) H' (λ_ _=>False) E;rw [U2];exact⟨ds,h',R,r,rh',q,λc C dx h2 H2 k2=>w c C dx h2 H2 (kp.trans k2)⟩⟩) λ_ _ ⟨_,_,_,_,z⟩=>z⟩
end
section
variable {P:D2}{w:S4}{K:G2}{mg:Str->G6 G1}{base:S3}
theorem Gp {N:G0 Str}{qual:Str}{scope:N0}{f:G5}{cd:G1}{A:R0}{outer:G0 Env}{s:G4}{H:Hp}{E:XK}:Rz (yH (CXR P w) P w K mg base N qual scope f cd A outer s H E) E:=⟨⟨rfl,rfl,rfl⟩,λ_ _ h=>h⟩
theorem Rg {N:G0 Str}{q:Str}{scope:N0}{f:G5}{cd:G1}{cl:G0 (Str×G5)}{A:R0}{outer:G0 Env}{s:G4}{H:Hp}{E:XK}:Rz (cxL (CXR P w) P w K mg base N q scope f cd cl A outer s H E) E:=⟨⟨rfl,rfl,rfl⟩,λ_ _ h=>h⟩
theorem Fun.okX {x qual:Str}{st:M4}{f:G5}{fd:D6}{N ps:G0 Str}{k:P4}{spr:RDx}(F:Fun K x qual st f fd)(S:FnScope N ps (jb st))(len: ∀ds h R,spr ds h R->ds.length=ps.length)
 (tb:TXD)(hbody: ∀ (cdv:G1) (A:R0) (outer:G0 Env) (s:G4) (H:Hp) (E:XK),Room k (A.deeper (N8 qual (jb st) s.heap.objs.size f cdv))->JX (yH (CXR P w) P w K mg base N qual (jb st) f cdv A outer s H E) (jy st) tb)
 (read: ∀ds h R,spr ds h R->tb (jM N ds) h R):FnOk P w K mg base (CXR P w) (k+1) f fd ps (Gm mg K spr):=by
 obtain⟨oc,od,kV,doc,pm,an,cdv,ct,osl,rfl,lk,hcd⟩:=F.ex;refine Qf lk hcd S (λvs H Q E h=> ?_) λA outer s H vs Q E hr hsp=> ?_
 ·obtain⟨ds,h,R,r,rh,q,p⟩:=h;rw [<-r.length];exact len _ _ _ q
 ·obtain⟨ds,h,R,r,rh,q,p⟩:=hsp;refine⟨λ_ σ H'=>σ=zj N vs/\H'=H,λpins s' σ H' D I ⟨e1,e2⟩=> ?_,rfl,rfl⟩;subst e1;subst e2;exact R9 ((hbody cdv A outer s H' E hr).to E Gp pins s' _ H' (jM N ds) h R I (wg r) rh (read ds h R q) p) (λ_ _ z=>z.elim) λ_ _ z=>z
end
def ZX (P:D2)(w:S4)(K:G2)(mg:Str->G6 G1)(base:S3)(n:P4)(x:Str)(ps:G0 Str)(spr:RDx):Prop:=
 ∃ (g:G5) (gd:D6),FnOk P w K mg base (CXR P w) n g gd ps (Gm mg K spr)/\Binds K gd ps []/\N4 K (.ref g)=true/\mg x=some (.ref g)
end L2
namespace L2
open PySem PySem.Spec PyProof.Rows
structure RoomU (k:P4)(A:R0):Prop where
 dp:A.depth+3*k+5<recursionLimit
 un:A.units+16*k+200<cLine
 gd:A.guards=some []
variable {k:P4}{A:R0}
theorem Room.u (r:Room k A):RoomU k A:=⟨r.dp,r.un,r.gd⟩
theorem RoomU.deeper (r:RoomU (k+1) A)(env:Env):RoomU k (A.deeper env):=
 ⟨by have:=r.dp;show A.depth+1+3*k+5<_;omega,by have:=r.un;show A.units+3+16*k+200<_;omega,r.gd⟩
theorem RoomU.depth (r:RoomU k A):A.depth<recursionLimit:=by have:=r.dp;omega
theorem RoomU.units (r:RoomU k A):A.units+64<cLine:=by have:=r.un;omega
structure FnOkU (P:D2)(w:S4)(K:G2)(mg:Str->G6 G1)(base:S3)(CX:CXT)(k:P4)(f:G5)(fd:D6)(ps:G0 Str)(sp:Sp):Prop where
 len: ∀vs H Q E,sp vs H Q E->vs.length=ps.length
 run: ∀ (A:R0) (outer:G0 Env) (s:G4) (H:Hp) (args:Args) (us:G0 G1) (vs:G0 V) (Q:VK) (E:XK),RoomU k A->Env0 P w K mg base A outer s H->c8 s fd args (ps.zip us)->Vals vs us->sp vs H Q E->
  A9 (D8 P w) A (.call (.ref f) args) (CR CX outer P w H s Q E) s
section
variable {X:Cx}{CX:CXT}{k:P4}{f C:G5}{fd:D6}{ps:G0 Str}{sp:Sp}{dvs:G0 V}{ds:G0 G1}{E:XK}{x m:Str}{p pos apos:Pos}{e o:D3}{es:G0 D3}{ta:TE}{t:TA}
theorem Gq {pins:G0 (G5×Obj)}{σ:St}{H:Hp}{s:G4}{Q:VK}{us:G0 G1}{vs:G0 V}(F:FnOkU X.prog X.w X.K X.mg X.base CX k f fd ps sp)(hr:RoomU k X.A)(hb:Binds X.K fd ps ds)(hd:Vals dvs ds)(hx:yO CX X E)
 (I:Inv X pins σ H s)(r:Vals vs us)(h:sp (vs++dvs) H Q E):D5 (D8 X.prog X.w) X.A (call (.ref f) us) (EP X pins σ Q) X.xe s:=by
 have r2:Vals (vs++dvs) (us++ds):=r.append hd;have hl:(us++ds).length=ps.length:=by rw [<-r2.length];exact F.len _ _ _ _ h
 refine X2 (E6 (F.run X.A X.stack s H ⟨us,[]⟩ (us++ds) (vs++dvs) Q E hr I.env0 (hb s us I.kIn hl) r2 h) λr s' hq=> ?_);cases r with
 |error e=>exact hx pins σ H s e s' I hq
 |ok fl=>
  cases fl with
  |ret u=>exact I.after hq
  |next=>exact False.elim hq
  |brk=>exact False.elim hq
  |cont=>exact False.elim hq
theorem UP (F:FnOkU X.prog X.w X.K X.mg X.base CX k f fd ps sp)(hr:RoomU k X.A)(hg:Gl X x)(hm:X.mg x=some (.ref f))(hk:N4 X.K (.ref f)=true)(hb:Binds X.K fd ps ds)(hd:Vals dvs ds)(hx:yO CX X E)
 (ha:PA X (e::es) t)(hdb:(x==("__debug__" :Str))=false:=by decide)(he:G9 (e::es) X.env=(false,M2 e X.env)::G9 es X.env:=by rfl)(hpl:(M9 pos (G9 es X.env)).any (·.1)=false:=by rfl):
 PE X (.Call (.Name x p) (e::es) [] pos) (Qe sp dvs E t):=by
 intro pins s σ H Q I h;refine F1 (ya I hg hm ?_ hdb);refine U8 (h₀:=X.base) I.ok.mod.kin hk (thn (ha pos pins s σ H _ I h) λus s1 ⟨vs,H1,I1,r,q⟩=>⟨I1.kIn,?_⟩) he hpl;exact Gq F hr hb hd hx I1 r q
end
def Zi (CX:CXT)(P:D2)(w:S4)(K:G2)(mg:Str->G6 G1)(base:S3)(N:G0 Str)(qual:Str)(scope:N0)(f:G5)(cd:G1)(A:R0)(outer:G0 Env)(s:G4)(H:Hp)(E:XK):Cx where
 prog:=P
 w:=w
 K:=K
 mg:=mg
 base:=base
 A:=A.deeper (N8 qual scope s.heap.objs.size f cd)
 N:=N
 s₀:=s
 H₀:=H
 env:=N8 qual scope s.heap.objs.size f cd
 outer:=outer
 stack:=N8 qual scope s.heap.objs.size f cd::outer
 ex:= []
 calm:=false
 fn:=λ_=>true
 pn:= []
 xe:=λe s'=>D5 (D8 P w) (A.deeper (N8 qual scope s.heap.objs.size f cd)) (c9 (N8 qual scope s.heap.objs.size f cd) e) (λ_ s''=>CX outer H s E e s'') (λe' s''=>CX outer H s E e' s'') s'
variable {base:S3}{qual:Str}{scope:N0}
theorem Yl {CX:CXT}{P:D2}{w:S4}{K:G2}{mg:Str->G6 G1}{N ps:G0 Str}{f:G5}{cd:G1}{outer:G0 Env}{s s1:G4}{H:Hp}{E:XK}{us:G0 G1}{vs:G0 V}
 (S:FnScope N ps scope)(e0:Env0 P w K mg base A outer s H)(hl:vs.length=ps.length)(r:Vals vs us)
 (x:InCallC s s.heap.objs.size (gJ (N8 qual scope s.heap.objs.size f cd).kindOf (ps.zip us) λ_=>none) (B5 (s.heap.objs.size+1) scope.names []) (gK (N8 qual scope s.heap.objs.size f cd).kindOf (ps.zip us) λ_=>none) s1):
 Inv (Zi CX P w K mg base N qual scope f cd A outer s H E) [] (zj N vs) H s1:=by
 have hpl:ps.length<=N.length:=by have:=congrArg cS S.pre;rw [M8] at this;omega
 obtain⟨h1,tk,rfl,hk⟩:=x.done;have noA: ∀b:G5,b ∉ (Zi CX P w K mg base N qual scope f cd A outer s H E).ex:=λb z=>absurd (show b∈([]:G0 G5) from z) (by simp)
 refine⟨⟨e0.mod,S.kind,rfl,rfl,P0 _,λy z c h1 h2=> ?_,λy hy=> ?_,λy c _ h=> ?_,λz=>(by cases z),Y2 e0.frames,.inr ⟨rfl,rfl⟩,λb z=>absurd z (noA b),e0.bs,e0.bsz,λb _ _=>noA b,λb z=>absurd z (noA b),e0.funs,e0.frf⟩,
  rfl,e0.bare,Un.kept hk,⟨_,x.toInCall.ns,λi y v h1 h2 h3=> ?_⟩,λy c h=>⟨_,x.cell y c h⟩,e0.hok.fresh (P0 _),λy c h=> ?_,λp hp=>absurd (show p∈([]:G0 (G5×Obj)) from hp) (by simp),e0.hok.kept hk,?_⟩
 ·exact fE x.apart (M6 h1) (M6 h2)
 ·have hy:scope.names.lookup y=some .cell\/scope.names.lookup y=some .free:=hy;rcases hy with hy|hy
  ·exact wf hy
  ·exact absurd rfl (S.nofree _ (M6 hy))
 ·exact M3 (x.above y c (M6 h))
 ·have hi:i<vs.length:=by
   unfold zj at h2
   by_cases hi:i<vs.length
   ·exact hi
   ·rw [C7 (by simpa using hi)] at h2;rw [V0] at h2;split at h2<;>cases h2
  have ha:vs[i]? =some v:=by
   unfold zj at h2;rw [B6 (by simpa using hi),R4] at h2;cases e:vs[i]? with
   |none=>rw [e] at h2;cases h2
   |some a=>rw [e] at h2;cases h2;rfl
  obtain⟨u,hu,rv⟩:=r.get ha;have hp:ps[i]? =some y:=by
   rw [<-S.pre,Q6 (by omega)];exact h1
  have ndP:ps.Nodup:=by rw [<-S.pre];exact S.nd.sublist (fG _ _)
  refine⟨u,rv,?_⟩;rcases S.par y (S7 hp) with k|k
  ·exact .inl ⟨k,yP ndP hp hu k⟩
  ·obtain⟨c,e⟩:=wf (n:=s.heap.objs.size+1) k;refine .inr ⟨.inl k,c,e,?_⟩;have q:=x.cell y c e;rw [yQ ndP hp hu (by show scope.names.lookup y≠_;rw [k];decide)] at q;exact q
 ·exact e0.hok.fresh (M3 (x.above y c (M6 h)))
 ·unfold zj;show _=N.length;rw [S1,G8,W6];omega
theorem Rh {CX:CXT}{P:D2}{w:S4}{K:G2}{mg:Str->G6 G1}{f:G5}{name:Str}{params:dA}{body:G0 M4}{dV kV doc pm cdv ct oc:G1}{an od:G6 G5}{osl:B7 (G6 G1)}{N ps:G0 Str}{sp:Sp}(lk:K.lookup f=some ⟨oc,od,.func (F8 name qual params body scope dV kV doc pm an cdv ct),osl⟩)(hcd:V8 K cdv qual=true)(S:FnScope N ps scope)
 (len: ∀vs H Q E,sp vs H Q E->vs.length=ps.length)
 (hbody: ∀ (A:R0) (outer:G0 Env) (s:G4) (H:Hp) (vs:G0 V) (Q:VK) (E:XK),RoomU k (A.deeper (N8 qual scope s.heap.objs.size f cdv))->sp vs H Q E->
  ∃t,PSs (Zi CX P w K mg base N qual scope f cdv A outer s H E) body t/\t {nx:=λ_ H'=>Q .non H',rt:=Q} (zj N vs) H):
 FnOkU P w K mg base CX (k+1) f (F8 name qual params body scope dV kV doc pm an cdv ct) ps sp:=by
 refine⟨len,λA outer s H args us vs Q E hr e0 hb r hsp=> ?_⟩;have hl:=len _ _ _ _ hsp;have KX:K.In s.heap:=e0.mod.kin.keeps λb o e=>(e0.bs b o e).1
 have lim:s.heap.NoLimit:=e0.mod.nolimit.keeps λb o e=>(e0.bs b o e).1
 have hkind: ∀y∈ps.zip us,scope.names.lookup y.1=some .local\/(scope.names.lookup y.1=some .cell/\((B5 (s.heap.objs.size+1) scope.names []).lookup y.1).isSome=true):=λ⟨n,v⟩ hy=>by
  rcases S.par n (U3 hy).1 with q|q
  ·exact .inl q
  ·exact .inr ⟨q,E7 _ _ _ (.inl q)⟩
 refine W7 hr.depth (KX _ _ lk) rfl S.co S.gen rfl (aD KX hcd) (hb _ _ _ _ ?_);refine K2 S.kind hkind λenv he s1 x=> ?_
 subst he;refine⟨lim.keeps x.toInCall.keep,fH ?_⟩;obtain⟨t,ht,hq⟩:=hbody A outer s H vs Q E (hr.deeper _) hsp;have I:Inv (Zi CX P w K mg base N qual scope f cdv A outer s H E) [] (zj N vs) H s1:=Yl S e0 hl r x;refine R9 (ht [] s1 (zj N vs) H _ I hq) (λfl s' hs=> ?_) λe s' hs=>hs
 have fin: ∀ {nE:St} {H':Hp} {v:V} {u:G1},Inv (Zi CX P w K mg base N qual scope f cdv A outer s H E) [] nE H' s'->RelV v u->Q v H'->CE outer P w H s Q u s':=
  λ{nE H' v u} J rv q=>⟨v,H',J.os,J.bare,J.base,J.hok,rv,q⟩
 cases fl with
 |ret u=>
  obtain⟨v,nE,H',J,rv,q⟩:=hs;exact fin J rv q
 |next=>
  obtain⟨nE,H',J,q⟩:=hs;exact fin (v:=V.non) (u:=Z6) J rfl q
 |brk=>
  obtain⟨_,_,_,q⟩:=hs;exact False.elim q
 |cont=>
  obtain⟨_,_,_,q⟩:=hs;exact False.elim q
section
variable {P:D2}{w:S4}{K:G2}{mg:Str->G6 G1}{base:S3}
variable {qual:Str}
theorem Fun.okU {x:Str}{st:M4}{f:G5}{fd:D6}{N ps:G0 Str}{k:P4}{sp:Sp}(F:Fun K x qual st f fd)(S:FnScope N ps (jb st))(len: ∀vs H Q E,sp vs H Q E->vs.length=ps.length)
 (hbody: ∀ (cdv:G1) (A:R0) (outer:G0 Env) (s:G4) (H:Hp) (vs:G0 V) (Q:VK) (E:XK),RoomU k (A.deeper (N8 qual (jb st) s.heap.objs.size f cdv))->sp vs H Q E->
  ∃t,PSs (Zi CX0 P w K mg base N qual (jb st) f cdv A outer s H E).nox (jy st) t/\t {nx:=λ_ H'=>Q .non H',rt:=Q} (zj N vs) H):FnOkU P w K mg base CX0 (k+1) f fd ps sp:=by
 obtain⟨oc,od,kV,doc,pm,an,cdv,ct,osl,rfl,lk,hcd⟩:=F.ex;refine Rh lk hcd S len λA outer s H vs Q E hr hsp=> ?_
 obtain⟨t,h,q⟩:=hbody cdv A outer s H vs Q E hr hsp;exact⟨t,h.nox,q⟩
theorem Fun.okDU {x:Str}{st:M4}{f:G5}{fd:D6}{N ps:G0 Str}{k:P4}{spd:RDn}(F:Fun K x qual st f fd)(S:FnScope N ps (jb st))(len: ∀ds h Q,spd ds h Q->ds.length=ps.length)
 (tb:TSD)(hbody: ∀ (cdv:G1) (A:R0) (outer:G0 Env) (s:G4) (H:Hp) (E:XK),RoomU k (A.deeper (N8 qual (jb st) s.heap.objs.size f cdv))->QSs (Zi CX0 P w K mg base N qual (jb st) f cdv A outer s H E).nox (jy st) tb)
 (read: ∀ds h Q,spd ds h Q->tb (Wy Q) (jM N ds) h):FnOkU P w K mg base CX0 (k+1) f fd ps (LSp K spd):=by
 refine F.okU S (λvs H Q E h=> ?_) (λcdv A outer s H vs Q E hr h=> ?_)
 ·obtain⟨ds,h,Qd,r,rh,q,p⟩:=h;rw [<-r.length];exact len _ _ _ q
 ·obtain⟨ds,h,Qd,r,rh,q,p⟩:=h;refine⟨_,hbody cdv A outer s H E hr,jM N ds,h,Wy Qd,wg r,rh,read ds h Qd q,λnH h' nE H' k rs' rh' ⟨h2,sb,q'⟩=>p .non .non h2 H' k (rh'.sub sb) rfl q',λd v h' H' k rh' r' ⟨h2,sb,q'⟩=>p d v h2 H' k (rh'.sub sb) r' q',λ_ _ _ _ _ _ _ z=>z.elim,λ_ _ _ _ _ _ _ z=>z.elim⟩
theorem Fun.okJU {x:Str}{st:M4}{f:G5}{fd:D6}{N ps:G0 Str}{k:P4}{spd:RDn}(F:Fun K x qual st f fd)(S:FnScope N ps (jb st))(len: ∀ds h Q,spd ds h Q->ds.length=ps.length)
 (tb:TSD)(hbody: ∀ (cdv:G1) (A:R0) (outer:G0 Env) (s:G4) (H:Hp) (E:XK),RoomU k (A.deeper (N8 qual (jb st) s.heap.objs.size f cdv))->JSs (Zi CX0 P w K mg base N qual (jb st) f cdv A outer s H E).nox (jy st) tb)
 (read: ∀ds h Q,spd ds h Q->tb (Wy Q) (jM N ds) h):FnOkU P w K mg base CX0 (k+1) f fd ps (LSp K spd):=F.okDU S len tb (λcdv A outer s H E hr=>(hbody cdv A outer s H E hr).to) read
end
structure FnOkS (P:D2)(w:S4)(K:G2)(mg:Str->G6 G1)(base:S3)(CX:CXT)(k:P4)(f:G5)(fd:D6)(ps:G0 Str)(sp:G4->Sp):Prop where
 len: ∀s vs H Q E,sp s vs H Q E->vs.length=ps.length
 run: ∀ (A:R0) (outer:G0 Env) (s:G4) (H:Hp) (args:Args) (us:G0 G1) (vs:G0 V) (Q:VK) (E:XK),Room k A->Env0 P w K mg base A outer s H->c8 s fd args (ps.zip us)->Vals vs us->sp s vs H Q E->
  A9 (D8 P w) A (.call (.ref f) args) (CR CX outer P w H s Q E) s
section
variable {X:Cx}{CX:CXT}{k:P4}{f C:G5}{fd:D6}{ps:G0 Str}{sp:Sp}{dvs:G0 V}{ds:G0 G1}{E:XK}{x m:Str}{p pos apos:Pos}{e o:D3}{es:G0 D3}{ta:TE}{t:TA}
theorem Gr {pins:G0 (G5×Obj)}{σ:St}{H:Hp}{s:G4}{Q:VK}{us:G0 G1}{vs:G0 V}{sp:G4->Sp}(F:FnOkS X.prog X.w X.K X.mg X.base CX k f fd ps sp)(hr:Room k X.A)(hb:Binds X.K fd ps ds)(hd:Vals dvs ds)(hx:yO CX X E)
 (I:Inv X pins σ H s)(r:Vals vs us)(h:sp s (vs++dvs) H Q E):D5 (D8 X.prog X.w) X.A (call (.ref f) us) (EP X pins σ Q) X.xe s:=by
 have r2:Vals (vs++dvs) (us++ds):=r.append hd;have hl:(us++ds).length=ps.length:=by rw [<-r2.length];exact F.len _ _ _ _ _ h
 refine X2 (E6 (F.run X.A X.stack s H ⟨us,[]⟩ (us++ds) (vs++dvs) Q E hr I.env0 (hb s us I.kIn hl) r2 h) λr s' hq=> ?_);cases r with
 |error e=>exact hx pins σ H s e s' I hq
 |ok fl=>
  cases fl with
  |ret u=>exact I.after hq
  |next=>exact False.elim hq
  |brk=>exact False.elim hq
  |cont=>exact False.elim hq
end
theorem Ri {CX:CXT}{P:D2}{w:S4}{K:G2}{mg:Str->G6 G1}{f:G5}{name:Str}{params:dA}{body:G0 M4}{dV kV doc pm cdv ct oc:G1}{an od:G6 G5}{osl:B7 (G6 G1)}{N ps:G0 Str}{sp:G4->Sp}(lk:K.lookup f=some ⟨oc,od,.func (F8 name qual params body scope dV kV doc pm an cdv ct),osl⟩)(hcd:V8 K cdv qual=true)(S:FnScope N ps scope)
 (len: ∀s vs H Q E,sp s vs H Q E->vs.length=ps.length)
 (hbody: ∀ (A:R0) (outer:G0 Env) (s:G4) (H:Hp) (vs:G0 V) (Q:VK) (E:XK),Room k (A.deeper (N8 qual scope s.heap.objs.size f cdv))->sp s vs H Q E->
  ∀s1,Inv (yH CX P w K mg base N qual scope f cdv A outer s H E) [] (zj N vs) H s1->D5 (D8 P w) (A.deeper (N8 qual scope s.heap.objs.size f cdv)) (execs body (N8 qual scope s.heap.objs.size f cdv)) (SP (yH CX P w K mg base N qual scope f cdv A outer s H E) [] {nx:=λ_ H'=>Q .non H',rt:=Q}) (yH CX P w K mg base N qual scope f cdv A outer s H E).xe s1):
 FnOkS P w K mg base CX (k+1) f (F8 name qual params body scope dV kV doc pm an cdv ct) ps sp:=by
 refine⟨len,λA outer s H args us vs Q E hr e0 hb r hsp=> ?_⟩;have hl:=len _ _ _ _ _ hsp;have KX:K.In s.heap:=e0.mod.kin.keeps λb o e=>(e0.bs b o e).1
 have lim:s.heap.NoLimit:=e0.mod.nolimit.keeps λb o e=>(e0.bs b o e).1
 have hkind: ∀y∈ps.zip us,scope.names.lookup y.1=some .local\/(scope.names.lookup y.1=some .cell/\((B5 (s.heap.objs.size+1) scope.names []).lookup y.1).isSome=true):=λ⟨n,v⟩ hy=>by
  rcases S.par n (U3 hy).1 with q|q
  ·exact .inl q
  ·exact .inr ⟨q,E7 _ _ _ (.inl q)⟩
 refine W7 hr.depth (KX _ _ lk) rfl S.co S.gen rfl (aD KX hcd) (hb _ _ _ _ ?_);refine K2 S.kind hkind λenv he s1 x=> ?_
 subst he;refine⟨lim.keeps x.toInCall.keep,fH ?_⟩;have ht:=hbody A outer s H vs Q E (hr.deeper _) hsp;have I:Inv (yH CX P w K mg base N qual scope f cdv A outer s H E) [] (zj N vs) H s1:=JL S hr.hd e0 hl r x;refine R9 (ht s1 I) (λfl s' hs=> ?_) λe s' hs=>hs
 have fin: ∀ {nE:St} {H':Hp} {v:V} {u:G1},Inv (yH CX P w K mg base N qual scope f cdv A outer s H E) [] nE H' s'->RelV v u->Q v H'->CE outer P w H s Q u s':=
  λ{nE H' v u} J rv q=>⟨v,H',J.os,J.bare,J.base,J.hok,rv,q⟩
 cases fl with
 |ret u=>
  obtain⟨v,nE,H',J,rv,q⟩:=hs;exact fin J rv q
 |next=>
  obtain⟨nE,H',J,q⟩:=hs;exact fin (v:=V.non) (u:=Z6) J rfl q
 |brk=>
  obtain⟨_,_,_,q⟩:=hs;exact False.elim q
 |cont=>
  obtain⟨_,_,_,q⟩:=hs;exact False.elim q
section
variable {X:Cx}{k:P4}{f:G5}{fd:D6}{ps:G0 Str}{spd:RDn}{x:Str}{p pos:Pos}{e:D3}{es:G0 D3}{t:TAD}
theorem WI (F:FnOkU X.prog X.w X.K X.mg X.base CX0 k f fd ps (LSp X.K spd))(hr:RoomU k X.A)(hg:Gl X x)(hm:X.mg x=some (.ref f))(hk:N4 X.K (.ref f)=true)(hb:Binds X.K fd ps [])
 (ha:JA X (e::es) t)(hdb:(x==("__debug__" :Str))=false:=by decide)(he:G9 (e::es) X.env=(false,M2 e X.env)::G9 es X.env:=by rfl)(hpl:(M9 pos (G9 es X.env)).any (·.1)=false:=by rfl):
 JE X (.Call (.Name x p) (e::es) [] pos) (dCB spd t):=⟨(UP F hr hg hm hk hb .nil Qm ha.to hdb he hpl).imp Vf⟩
end
def Jj (P:D2)(w:S4)(K:G2)(mg:Str->G6 G1)(base:S3)(n:P4)(x:Str)(ps:G0 Str)(sp:RDn):Prop:=
 ∃ (g:G5) (gd:D6),FnOkU P w K mg base CX0 n g gd ps (LSp K sp)/\Binds K gd ps []/\N4 K (.ref g)=true/\mg x=some (.ref g)
end L2
namespace L2
open PySem PySem.Spec PyProof.Rows PySem.W PySem.Calls PySem.Builtin PySem.Builtin.ObjectAttr PySem.Builtin.Getset_descriptor
section
variable {prog:D2}{w:S4}{A:R0}{E:G1->G4->Prop}{s:G4}{K:Frag}{x D:G5}
structure ExcK (K:Frag)(D:G5):Prop where
 cls:(clsIn K D).isSome=true
 ga:findIn K (.ref D) "__getattribute__" =some (some (.builtin "BaseException.__getattribute__"))
 hk:findIn K (.ref D) "__getattr__" =some none
 ca:findIn K (.ref D) "__class__" =some (some (.builtin "object.__class__"))
 gt:specialIn K (.builtin "object.__class__") "__get__" =some (some (.builtin "getset_descriptor.__get__"))
 tk:takesIn K (.builtin "object.__class__")=some true
 ob:mroIn K D (.type "object")=some true
 be:mroIn K D (.type "BaseException")=some true
def ExcAt (x D:G5)(h:S3):Prop:= ∃o,h.get? x=some o/\o.cls= .ref D
theorem ExcAt.type {M:Y1}{h:S3}(I:ExcAt x D h):Looks M h (typeOf (.ref x)) (.ref D):=let ⟨o,h1,h2⟩:=I;h2 ▸ (lN h1).andThen .now
theorem Ym {tp:G1}{R:kM->G4->Prop}(X:K.In s.heap)(I:ExcAt x D s.heap)(ob:mroIn K D (.type "object")=some true)
 (h:R (.ok (.ret (.ref D))) s):A9 (D8 prog w) A (.call (.builtin "getset_descriptor.__get__") ⟨[.builtin "object.__class__",.ref x,tp],[]⟩) R s:=by
 obtain⟨hp,g,dr,t,os⟩:=s;have known:Looks (D8 prog w) hp (b8 (.ref x) (.type "object")) true:=I.type.andThen (looks_mroIn X ob);have passed:Looks (D8 prog w) hp (descrCheckInstance (.builtin "object.__class__") (.ref x)) ():=
  Looks.andThen (a:=(("__class__" :Str),dW "object")) (dS (congrArg (λp:T0×T0=>(pure (G3 p.2,dW p.1):Sem (Str×G1))) KF.owner_class)) (known.andThen .now)
 have shown:Looks (D8 prog w) hp (shownTypeOf (.ref x)) (.ref D):=I.type.andThen .now;have asked:=KF.slot_gs.check (D8 prog w) A.in1 (λe s'=>R (.error e) s') ⟨hp,g,dr,t,os⟩ (.builtin "object.__class__") [.ref x,tp] [];refine K4 KF.slot_gs.plain KF.entry_gs (asked _ KF.type_class (KF.args_gs _ _ _) ?_);show D5 _ _ (descrGetArgs _ >>= _) _ _ _;rw [dga_obj];refine wpAny_bind (P6 (wpAny_bind (passed.at (P6 ⟨aO _ (by decide +kernel),codeAny_builtin KF.entry_class ?_⟩))));exact wpAny_bind (shown.at (P6 h))
theorem UQ {M:Y1}{h:S3}(X:K.In h)(Z:ExcK K D):Looks M h (find (.ref x) (.ref D) "__class__") (.bind (.builtin "getset_descriptor.__get__") (.builtin "object.__class__")):=by
 have L1:=looks_findIn (M:=M) X Z.ca;have L2:Looks M h (getOf (some (.builtin "object.__class__"))) (some (.builtin "getset_descriptor.__get__")):=looks_specialIn X Z.gt;have L3:=looks_takesIn (M:=M) X Z.tk;exact L1.andThen (L2.andThen ((show Looks M h (dataDescriptor? (some (.builtin "object.__class__")) (some (.builtin "getset_descriptor.__get__"))) (some (.builtin "getset_descriptor.__get__",.builtin "object.__class__")) from L3.andThen .now).andThen (Looks.tag .now)))
theorem Gs {M:Y1}{h:S3}(X:K.In h)(I:ExcAt x D h)(Z:ExcK K D)(n:G1):Looks M h (X8 "BaseException.__getattribute__" ⟨[.ref x,n],[]⟩) ():=by
 have known:Looks M h (b8 (.ref x) (.type "BaseException")) true:=I.type.andThen (looks_mroIn X Z.be);have fits:=cZ (.ref x) n;unfold X8;rw [show builtinKind "BaseException.__getattribute__" =some .slot by decide +kernel,show splitId "BaseException.__getattribute__" =some ("BaseException","__getattribute__") by decide +kernel];exact known.andThen (dS fits)
theorem vB {tk:Tok}{R:kM->G4->Prop}(X:K.In s.heap)(I:ExcAt x D s.heap)(Z:ExcK K D)(h:R (.ok (.ret (.ref D))) s):
 A9 (D8 prog w) A (.call (.builtin "BaseException.__getattribute__") ⟨[.ref x,.str "__class__" tk],[]⟩) R s:=
 K4 PySem.F.attr_ValueError.ga.plain cM (aP (Gs X I Z _) (wpAny_bind (P6 (wpAny_bind (P6 (wpAny_bind (aP I.type (wpAny_bind (aP (UQ X Z) (wpAny_bind (O2 (X2 (Ym X I Z.ob (P6 h))))))))))))))
theorem Yn {Q:G6 G1->G4->Prop}(X:K.In s.heap)(I:ExcAt x D s.heap)(Z:ExcK K D)(h:Q (some (.ref D)) {s with toks:=s.toks+1}):D5 (D8 prog w) A (getAttr? (.ref x) "__class__") Q E s:=by
 have byReader:=PySem.F.attr_ValueError.ga.bind (.ref x);have asked: ∀ {A':R0} {P:G1->G4->Prop} {E':G1->G4->Prop},P (.ref D) {s with toks:=s.toks+1}->D5 (D8 prog w) A' (iE (.builtin "BaseException.__getattribute__") (.ref x) (.str "__class__" s.toks)) P E' {s with toks:=s.toks+1}:=λp=>by
  unfold iE;rw [byReader];exact wpAny_bind (P6 (X2 (vB (s:= {s with toks:=s.toks+1}) X I Z p)))
 have own: ∀ {A':R0} {P:G1->G4->Prop} {E':G1->G4->Prop},P (.ref D) {s with toks:=s.toks+1}->D5 (D8 prog w) A' (getAttrByItsOwn (.ref x) (.str "__class__" s.toks) (.ref D) (.builtin "BaseException.__getattribute__") false false) P E' {s with toks:=s.toks+1}:=λp=>
  wpAny_bind (aP (s:= {s with toks:=s.toks+1}) (looks_findIn X Z.hk) (wpAny_bind (iZ (O2 (asked (P6 p))))))
 exact wpAny_bind (wpAny_mkText (wpAny_bind (iZ (O2 (wpAny_bind (aP (s:= {s with toks:=s.toks+1}) I.type (wpAny_bind (aP (s:= {s with toks:=s.toks+1}) (looks_findIn X Z.ga) (own (P6 h))))))))))
theorem UR (Z:ExcK K D):KitX K (.ref x) (.ref D) (ExcAt x D):=by
 have isClass: ∀ {h:S3},K.In h-> ∃o c,h.get? D=some o/\o.data= .cls c:=λX=>by
  obtain⟨c,hc⟩:=M1.mp Z.cls;revert hc;unfold clsIn;split
  ·rename_i ho;exact λ_=>⟨_,_,X _ _ ho,rfl⟩
  ·exact λz=>nomatch z
 refine⟨λ_ _ _ I=>I.type,λM h X _=> ?_,λh tp dd its n sl X htp=> ?_,λX I k=>Yn X I Z k⟩
 ·obtain⟨o,c,ho,hd⟩:=isClass X;exact(lN ho).andThen (dS (by rw [hd]))
 ·obtain⟨o,c,ho,hd⟩:=isClass X;cases hq:(N5 D==N5 tp) with
  |false=>rfl
  |true=>
   cases (beq_iff_eq.mp hq);rw [htp] at ho;cases ho;cases hd
end
end L2
namespace L2
open PySem PySem.Spec PyProof.Rows PySem.SeqAt PySem.W
theorem US {X:Cx}(hu:X.A.units+64<cLine):MtM X "list.count" (λx vs H Q=> ∃ (a:G5) (y:V) (dy:D) (h:HD) (p:B9) (ps:G0 B9),x= .ref a/\vs= [y]/\RelD X.K H dy y/\RelH X.K h H/\ToP h (.lst a) (.list ps)/\ToP h dy p/\p.canLay0=true/\B8 ps=true/\p.depth<=60/\Q (.int ((ps.countP λz=>T6 z p:P4):P9)) H):=by
 intro pins s σ H x vs v us Q I rx rv h;obtain⟨a,y,dy,h,p,ps,rfl,rfl,rd,rh,t1,t2,c1,c2,c3,q⟩:=h;cases rx;obtain⟨u,rfl,ru⟩:=yc rv;obtain⟨a',ds,ea,ha,ts⟩:=(show ∃a' ds,D.lst a= .lst a'/\h a'=some ds/\ToPs h ds ps from t1);cases ea;obtain⟨ws,hH,_⟩:=rh a ds ha;obtain⟨as,r1⟩:=jW I rh t1 (show RelD X.K H (.lst a) (.ref a) from ⟨rfl,ws,hH⟩) (show RelV (.ref a) (.ref a) from rfl);obtain⟨bs,r2⟩:=jW I rh t2 rd ru;cases r1 with
 |list h1 h2 h3 h4=>
  rename_i o its n cs;have em:=readsAll_map ps _ _ c2 h4;have hu':X.A.units+1+min (B2 ps) p.depth<cLine:=by have:=X3 (B2 ps) p.depth;omega
  obtain⟨oc,od,odt,osl⟩:=o;simp only at h2 h3;subst h2 h3;refine aI bO ⟨_,h1,rfl⟩ i0 (iM _ _) (list_countAt a its n od osl u (λy=>T6 (readOf s.heap y) p)) ⟨h1,items_eqAt h4 r2 c2 c1 hu',?_⟩;have e:its.toList.countP (λy=>T6 (readOf s.heap y) p)=ps.countP λz=>T6 z p:=by
   rw [<-em,List.countP_map];rfl
  exact⟨.int _,H,I.tok _,⟨_,by rw [e]⟩,q⟩
def Cf (to te:TED):TED:=λσ h Q=>to σ h λx h1=> ∃a,x= .lst a/\te σ h1 λy h2=> ∃ (p:B9) (ps:G0 B9),ToP h2 (.lst a) (.list ps)/\ToP h2 y p/\p.canLay0=true/\B8 ps=true/\p.depth<=60/\Q (.int ((ps.countP λz=>T6 z p:P4):P9)) h2
section
variable {X:Cx}{o e i:D3}{to te ti:TED}{apos cpos:Pos}
theorem Cg (hu : X.A.units + 64 < cLine) (ho : JE X o to) (he : JE X e te) (hbase : F7 o "count" X.env (M2 o X.env) = M2 o X.env := by rfl)
    (hfew : ((M9 cpos (G9 [e] X.env)).all (fun x => !x.1) && (aH cpos (K3 [] X.env)).all (fun x => x.1.isSome) && decide ([e].length + ([] : G0 E8).length + (if ([] : G0 E8).isEmpty then 0 else 1) < 30)) = true := by rfl)
    (hline : (apos.endLine == cpos.line) = true := by rfl) (hs : G9 [e] X.env = (false, M2 e X.env) :: G9 [] X.env := by rfl) (hplain : (M9 cpos (G9 [] X.env)).any (·.1) = false := by rfl) :
    JE X (.Call (.Attribute o "count" apos) [e] [] cpos) (Cf to te) :=
  ⟨(YY V3 bO j8 (US hu) ho.to (zb he.to pa_nil hs) hbase hfew hline hs hplain).imp
    fun σ H Q ⟨nF, h, Qd, rs, rh, t, p⟩ => LE.bind rs rh t fun d v h1 H1 k1 rs1 rh1 r1 ⟨a, e, q⟩ => by
      subst e
      obtain ⟨e1, vs, hH⟩ := (show v = .ref a ∧ ∃ vs, H1 a = some (.lst vs) from r1)
      subst e1
      refine ⟨.inl ⟨rfl, vs, SqL.of hH⟩, ?_⟩
      refine LE.bind rs1 rh1 q fun y u h2 H2 k2 rs2 rh2 r2 ⟨pd, ps, t1, t2, c1, c2, c3, q2⟩ => ?_
      exact ⟨a, u, y, h2, pd, ps, rfl, rfl, r2, rh2, t1, t2, c1, c2, c3, p (.int _) _ _ _ (k1.trans k2) rh2 rfl q2⟩⟩
end
theorem vR {X:Cx}{v:V}{c:G1}(rc: ∀u,RelV v u->u=c):CallR X (.builtin "isinstance") (λxs H Q=> ∃x C o b,xs= [.ref x,v]/\H x=some (.frz o (.own 0))/\o.cls= .ref C/\ExcK X.K C/\kitOne X.K (.ref C) c=some b/\Q (.bl b) H):=by
 intro pins s σ H xs us Q I r h;obtain⟨x,C,o,b,rfl,hx,hc,Z,e,q⟩:=h;obtain⟨u,w',rfl,rx,rt⟩:=YO r;cases rx;cases rc _ rt;exact kia_one (UR Z) I.kIn ⟨o,(I.hok x _ hx).1,hc⟩ e (λz=>nomatch z) λtk=>⟨.bl b,H,I.tok tk,rfl,q⟩
end L2
namespace L2
open PySem PySem.Spec PyProof.Rows PySem.W
section
variable {X:Cx}{σ:St}{H:Hp}{s:G4}{x C:G5}{dx:G6 G5}
theorem Inv.relaid {B h':S3}{T:G5}{a0:G1}(I:Inv X [] σ H s)(Z:Rz0 X)(hpn:X.pn= [])(hx:H x=none/\X.s₀.heap.get? x=none)(hT:H T=none/\X.s₀.heap.get? T=none)
 (hB:B=hideAll s.heap (x::T::frs (X.env::X.outer)))(fl:bZ B (X.env::X.outer) x (.ref C) a0 h')(up:s.heap.UpToSlots h')(dk:HT.Dk s.heap h')(hdx:dx=none\/ ∃oe,s.heap.get? x=some oe/\oe.dict=dx):Inv X [] σ H {s with heap:=h'}/\Fly X.s₀.heap H h' x C dx:=by
 subst hB;have stk:s.heap.FunFrames X.base (X.env::X.outer):=Z.stk ▸ I.stack;obtain⟨st,_,_,oe',vs',T',oT',ts',he',⟨hc',h0'⟩,hd',h1',hTB,hTx',hT',hTd',h3'⟩:=fl;obtain⟨r1,r2,r3⟩:=VB (ys:= [x,T]) (h':=h') I Z (λy hy=>by
  rcases P2.mp hy with rfl|hy
  ·exact hx
  ·rcases P2.mp hy with rfl|hy
   ·exact hT
   ·cases hy) (λb o e n1 n2=>st b o (hideAll_get _ e λz=>by
    rcases P2.mp z with rfl|z
    ·exact n1 (.head _)
    ·rcases P2.mp z with rfl|z
     ·exact n1 (.tail _ (.head _))
     ·exact n2 z)) λb o e hb=>by
  obtain⟨_,o2,e2,nd⟩:=stk.mem hb;rw [e] at e2;cases e2;exact up b o e nd
 obtain⟨q1,q2⟩:=r3 T' oT' ts' hT' hTd' λo e=>by
  by_cases z:T'∈frs (X.env::X.outer)
  ·exact .inr z
  ·refine .inl ?_
   by_cases z1:T'=x
   ·rw [z1];exact .head _
   ·by_cases z2:T'=T
    ·rw [z2];exact .tail _ (.head _)
    ·rw [hideAll_get _ e (by simp only [P2,m8];exact⟨z1,z2,z⟩)] at hTB;cases hTB
 have cellK: ∀c v,s.heap.IsCell c v->h'.IsCell c v:=λc v ⟨o,ho,hd⟩=>by
  obtain⟨sl,e⟩:=up c o ho λws q=>by rw [hd] at q;cases q
  exact⟨_,e,hd⟩
 refine⟨⟨I.ok,I.os,I.bare,by rw [Z.ex];exact r1,?_,λy c e=> ?_,I.free,I.freeC,λp hp=> ?_,r2,I.len⟩,⟨⟨oe',vs',a0,T',oT',ts',he',hc',hd',h0',h1',hTx',hT',hTd',h3',q1,q2⟩,hx.1,hx.2,hdx.imp id λ⟨o,e,d⟩=>let ⟨o',e2,d2,_⟩:=dk x o e;⟨o',e2,d2.trans d⟩⟩⟩
 ·obtain⟨m,hn,hl⟩:=I.loc;refine⟨m,up.ns hn,λi y v e1 e2 e3=> ?_⟩;obtain⟨u,r,l⟩:=hl i y v e1 e2 e3;exact⟨u,r,l.imp id λ⟨k,c,e,z⟩=>⟨k,c,e,cellK c _ z⟩⟩
 ·obtain⟨v,z⟩:=I.cell y c e;exact⟨v,cellK c v z⟩
 ·rw [hpn] at hp;cases hp
theorem Inv.track {oe:Obj}{vs:B7 G1}(I:Inv X [] σ H s)(hpn:X.pn= [])(hn:H x=none)(h0:X.s₀.heap.get? x=none)(hx:s.heap.get? x=some oe)(hd:oe.data= .fields vs):Inv X [] σ (upd H x (.frz oe (.own 0))) s:=by
 have ne: ∀b u,H b=some u->b≠x:=λb u e z=>by rw [z,hn] at e;cases e
 have ne0: ∀b o,X.s₀.heap.get? b=some o->b≠x:=λb o e z=>by rw [z,h0] at e;cases e
 have cn: ∀y c,X.env.cells.lookup y=some c->c≠x:=λy c e z=>by
  obtain⟨v,o,ho,hc⟩:=I.cell y c e;rw [z,hx] at ho;cases ho;rw [hd] at hc;cases hc
 refine⟨I.ok,I.os,I.bare,⟨I.base.keep,I.base.slot,λb o e n hx=> ?_,I.base.there,λb xs e=> ?_,λb o u e=> ?_,λb ps e=> ?_⟩,I.loc,I.cell,?_,λy c e=> ?_,λp hp=> ?_,λa o e=> ?_,I.len⟩
 ·rw [jd (ne0 b o e)];exact I.base.free b o e n hx
 ·have:=I.base.tups b xs e;rw [jd (ne b _ this)];exact this
 ·have:=I.base.frzs b o u e;rw [jd (ne b _ this)];exact this
 ·obtain⟨more,this⟩:=I.base.tbls b ps e;exact⟨more,by rw [jd (ne b _ this)];exact this⟩
 ·rw [jd (λz=> ?_)]
  ·exact I.free
  ·obtain⟨m,⟨o,es,ep,e,d,_⟩,_⟩:=I.loc;rw [z,hx] at e;cases e;rw [hd] at d;cases d
 ·rw [jd (cn y c e)];exact I.freeC y c e
 ·rw [hpn] at hp;cases hp
 ·by_cases z:a=x
  ·subst z;rw [jf] at e;cases e;exact⟨hx,⟨oe,hx⟩⟩
  ·rw [jd z] at e;exact(I.hok a o e).stay (λ_ _ _ q=>q) (λb q=>by rw [jd (ne b _ q)];exact q) λb xs q=>by rw [jd (ne b _ q)];exact q
theorem VG {M:Y1}{A:R0}{E:G1->G4->Prop}{i:P4}{y:Str}{v:V}{Q:Unit->G4->Prop}(I:Inv X [] σ H s)(hpn:X.pn= [])(hN:X.N.Nodup)(hi:X.N[i]? =some y)(hk:X.env.scope.names.lookup y=some .local)(hv:σ[i]? =some (some v))
 (h: ∀s',Inv X [] (σ.set i none) H s'->Q () s'):D5 M A (unbindName X.env y) Q E s:=by
 obtain⟨m,hn,hl⟩:=id I.loc;have hcls:(X.env.scope.kind== .class||(X.env.scope.kind== .module&&X.env.locals !=X.env.globals))=false:=by rw [I.ok.kind];rfl
 have nW:i<σ.length:=by rw [I.len];exact(P1.mp hi).1
 obtain⟨u,r,l⟩:=hl i y v hi hv (.inl hk);have hm:m y=some u:=by
  rcases l with ⟨_,e⟩|⟨k,_⟩
  ·exact e
  ·rcases k with k|k<;>(have k':X.env.scope.names.lookup y=_:=k;rw [hk] at k';cases k')
 refine wpAny_unbindName_local hk hn hm hcls λh' u' hn' hs=> ?_
 obtain⟨oL,_,_,hoL,_⟩:=id hn;have cne:=I.cne;refine h _ ⟨I.ok,I.os,I.bare,⟨λb o e n hb hx=> ?_,λb o e n hb hx=> ?_,I.base.free,λb o e hx=> ?_,I.base.tups,I.base.frzs,I.base.tbls⟩,⟨_,hn',λj z v' e1 e2 e3=> ?_⟩,λz c e=> ?_,I.free,I.freeC,λp hp=> ?_,λb ob e=> ?_,by simpa using I.len⟩
 ·exact(hs.2 b (R7 (P3 (P5 e) I.ok.above))).trans (I.base.keep b o e n hb hx)
 ·obtain⟨sl,e1⟩:=I.base.slot b o e n hb hx;exact⟨sl,(hs.2 b (R7 (P3 (P5 e) I.ok.above))).trans e1⟩
 ·obtain⟨o',e1⟩:=I.base.there b o e hx;exact⟨o',(hs.2 b (R7 (P3 (P5 e) I.ok.above))).trans e1⟩
 ·by_cases hj:j=i
  ·subst hj;rw [E4 nW] at e2;cases e2
  ·rw [C3 (C5 hj)] at e2;obtain⟨u2,r',q⟩:=hl j z v' e1 e2 e3;refine⟨u2,r',?_⟩;rcases q with ⟨k,e⟩|⟨k,c,e,q⟩
   ·refine .inl ⟨k,?_⟩;have:z≠y:=λe=>hj (vX hN e1 (e ▸ hi))
    simp [this,e]
   ·exact .inr ⟨k,c,e,q.sameBut hs (cne z c e)⟩
 ·obtain⟨w',q⟩:=I.cell z c e;exact⟨w',q.sameBut hs (cne z c e)⟩
 ·rw [hpn] at hp;cases hp
 ·refine(I.hok b ob e).stay (λc w' hc q=>(hs.2 c ?_).trans q) (λ_ q=>q) λ_ _ q=>q
  rintro rfl;rcases hc with rfl|hc
  ·rw [I.free] at e;cases e
  ·rw [I.free] at hc;cases hc
end
def cxH (X:Cx)(x:G5):Cx:= {X with A:=X.A.mark (some (.ref x)),calm:=false,xe:=λ_ _=>False}
section
variable {X:Cx}{pins:G0 (G5×Obj)}{σ:St}{H:Hp}{s:G4}{x C:G5}{dx:G6 G5}
theorem Inv.suite (I:Inv X pins σ H s)(x:G5):Inv (cxH X x) pins σ H s:=
 ⟨⟨I.ok.mod,I.ok.kind,I.ok.glob,I.ok.blt,I.ok.above,I.ok.inj,I.ok.has,I.ok.cab,λz=>(by cases z),I.ok.frames,I.ok.stk,I.ok.exf,I.ok.bs,I.ok.bsz,I.ok.noex,I.ok.exfs,I.ok.funs,I.ok.frf⟩,I.os,I.bare,I.base,I.loc,I.cell,I.free,I.freeC,I.pin,I.hok,I.len⟩
theorem Inv.unsuite (I:Inv (cxH X x) pins σ H s)(ok:X.Ok):Inv X pins σ H s:=⟨ok,I.os,I.bare,I.base,I.loc,I.cell,I.free,I.freeC,I.pin,I.hok,I.len⟩
theorem UT {E:G1->G4->Prop}{n:Str}{i:P4}{PE:G5}{b0:M4}{suite:G0 M4}{t:TS}{D:Ends}{np pos:Pos}(Z:Rz0 X)(hpn:X.pn= [])(hN:X.N.Nodup)(hi:X.N[i]? =some n)(hl:X.env.scope.names.lookup n=some .local)
 (hg:Gl X "PowerError")(hm:X.mg "PowerError" =some (.ref PE))(hex:exmOne X.K (.ref C) (.ref PE)=some true)(I:Inv X [] σ H s)(fl:Fly X.s₀.heap H s.heap x C dx)(hs:PSs (cxH X x) (b0::suite) t)
 (ht: ∀oe vs,oe.cls= .ref C->oe.data= .fields vs->(dx=none\/oe.dict=dx)->t {nx:=λ_ _=>False,rt:=D.rt} (σ.set i (some (.ref x))) (upd H x (.frz oe (.own 0)))):
 D5 (D8 X.prog X.w) X.A (gC (.ref x) X.env) (λ_ nU=>D5 (D8 X.prog X.w) X.A (j7 (.ref x) none) (λ_ nP=>D5 (D8 X.prog X.w) X.A (handleBy (.ref x) X.env [.ExceptHandler (some (.Name "PowerError" np)) (some n) (b0::suite) pos]) (SP X [] D) E nP) E nU) E s:=by
 obtain⟨oe0,vs0,a0,T,oT,ts,he,hc,hd,h0,h1,hTx,hT,hTd,h3,hHT,h0T⟩:=fl.ex;have hfr:X.A.frames=some (X.env::X.outer):=by rw [I.ok.frames,Z.stk]
 have stk:s.heap.FunFrames X.base (X.env::X.outer):=Z.stk ▸ I.stack;have ff:s.heap.FunFrames (hideAll s.heap (x::T::frs (X.env::X.outer))) (X.env::X.outer):=jK stk λa ha=>hideAll_none _ (.tail _ (.tail _ ha))
 refine HT.vg (HT.wo _ _) (P:=λh'=>Heap.HeldW (hideAll s.heap (x::T::frs (X.env::X.outer))) (X.env::X.outer) x (.ref C) a0 X.env.locals h'/\s.heap.UpToSlots h') (wpAny_looks_onW (base:=hideAll s.heap (x::T::frs (X.env::X.outer))) (cls:= .ref C) (a0:=a0) hfr Z.fr
  ⟨λb o e=>of_hideAll _ e,hideAll_none _ (.head _),ff,oe0,vs0,T,oT,ts,he,⟨hc,h0⟩,hd,h1,hideAll_none _ (.tail _ (.head _)),hTx,hT,hTd,h3⟩ λh' p q=>⟨h',rfl,p,q⟩) λoP ⟨oQ,oG⟩ dk4=> ?_
 refine HT.vg (HT.zz _ _) (P:=λh'=>bZ (hideAll s.heap (x::T::frs (X.env::X.outer))) (X.env::X.outer) x (.ref C) a0 h'/\oP.UpToSlots h') (wpAny_landsW oQ λh' p q=>⟨h',rfl,p,q⟩) λnV ⟨oH,oJ⟩ dk5=> ?_
 obtain⟨I5,F5⟩:=I.relaid Z hpn ⟨fl.nx,fl.n0⟩ ⟨hHT,h0T⟩ rfl oH (oG.trans oJ) (dk4.trans dk5) fl.dc;refine wpAny_handleBy_cons (codeAny_handlers_test (ya (X:=cxH X x) (I5.suite x) hg hm ?_)) (by intro q;cases q);have at5:ExcAt x C nV:=let ⟨oe,_,_,_,_,_,e,c,_⟩:=F5.ex;⟨oe,e,c⟩;refine(exm_one (M:=D8 X.prog X.w) (h:=nV) I5.kIn at5.type hex).here ?_;refine codeAny_handlers_suite_as ?_;refine HT.vg (HT.zz _ _) (P:=λh'=>bZ (hideAll s.heap (x::T::frs (X.env::X.outer))) (X.env::X.outer) x (.ref C) a0 h'/\nV.UpToSlots h') (lands_againW oH λh' p q=>⟨h',rfl,p,q⟩) λh₆ ⟨oR,oS⟩ dk6=> ?_
 obtain⟨I6,F6⟩:=I.relaid Z hpn ⟨fl.nx,fl.n0⟩ ⟨hHT,h0T⟩ rfl oR (oG.trans (oJ.trans oS)) ((dk4.trans dk5).trans dk6) fl.dc;obtain⟨oe,vs,_,_,_,_,e6,c6,d6,_⟩:=F6.ex;have I7:=I6.track hpn F6.nx F6.n0 e6 d6;refine zH I7 hN hi (.inl hl) (v:= .ref x) rfl (λs8 I8=> ?_) (.inr hl);refine R9 (hs [] s8 _ _ _ (I8.suite x) (ht oe vs c6 d6 (F6.dc.imp id λ⟨o,e,d⟩=>by rw [e6] at e;cases e;exact d))) (λf s9 q=> ?_) λ_ _ z=>z.elim
 cases f with
 |next=>obtain⟨_,_,_,z⟩:=q;exact z.elim
 |brk=>obtain⟨_,_,_,z⟩:=q;exact z.elim
 |cont=>obtain⟨_,_,_,z⟩:=q;exact z.elim
 |ret u=>
  obtain⟨v,nE,H3,J,rv,qq⟩:=q;have J1:Inv X [] nE H3 s9:=J.unsuite I.ok;refine wpAny_bind (cO (zH J1 hN hi (.inl hl) (v:= .non) rfl (λs10 J2=> ?_) (.inr hl)));unfold unbindBehindTheSuite;have hlt:i<nE.length:=by rw [J1.len];exact(P1.mp hi).1
  exact wpAny_onRaise (VG J2 hpn hN hi hl (v:= .non) (by rw [E4 hlt]) λs11 J3=>⟨v,_,H3,J3,rv,qq⟩)
end
def CW:G0 (Str×Str):= [("NoTable","table"),("NoPlace","place"),("NoNumber","number"),("NoOrder","order"),("NoSet","set"),("NoWalk","walk"),("NoLengths","lengths"),("NoWay","way"),("Apart","apart"),("NoRow","row")]
def CN:G0 Str:= ["NoTable","NoPlace","NoNumber","NoOrder","NoSet","NoWalk","NoLengths","NoWay","Apart","NoRow"]
abbrev N1:G0 Str:= ["_law_call","_law_found","_law_e","_law_word"]
theorem RoomU.mark {k:P4}{A:R0}{v:G6 G1}(r:RoomU k A):RoomU k (A.mark v):=⟨r.dp,r.un,r.gd⟩
theorem VH {M:Y1}{f:G5}(h:S3)(X: ∃o fd,h.get? f=some o/\o.data= .func fd): ∃k,(k=Keeper.frame\/k=Keeper.machine\/k=Keeper.boundFrame)/\Looks M h (keeperOf (.ref f)) k:=by
 obtain⟨o,fd,e,d⟩:=X;refine⟨.frame,.inl rfl,(lN (part:=none) e).andThen ?_⟩;rw [d];exact .now
def Bo (sc:N0):B3:=sc.kind== .function&& !sc.isCoroutine&& !sc.isGenerator&&sc.names.all λy=>y.2 != .cell&&y.2 != .local
theorem Rj {sc:N0}(hk:sc.kind= .function)(h:Bo sc=true):LamOk sc:=by
 unfold Bo at h;simp only [R1,fZ,D7,bne_iff_ne,ne_eq] at h;exact⟨hk,h.1.1.2,h.1.2,λy hy=>h.2 y hy⟩
def Rk (sc sc':N0):B3:=sc.names.all λy=>y.2 != .free||(sc'.names.lookup y.1==some .cell||sc'.names.lookup y.1==some .free)
theorem Gt {sc:N0}{env:Env}(h:Rk sc env.scope=true):VE sc env:=λn hn=>by
 have:=D7.mp h _ hn;simp only [bne_self_eq_false,i1,Y6,beq_iff_eq] at this;exact this
variable {K:Frag}{x:Str}
theorem UU {f c P:G5}{oc:G1}{od:G6 G5}{fd:D6}{osl:B7 (G6 G1)}(a:nsIn K mainGlobals x=some (some (.ref f)))(l:K.lookup f=some ⟨oc,od,.func fd,osl⟩)(t:tabIn K x=some (c,P)):fd.code= .ref c:=by
 unfold tabIn at t;rw [a] at t;simp only [l] at t;split at t
 ·rename_i c' hc';split at t
  ·split at t
   ·cases t;exact hc'
   ·cases t
  ·cases t
 ·cases t
def CN13:G0 Str:= ["NoTable","NoPlace","NoNumber","NoOrder","NoSet","NoWalk","NoLengths","NoWay","Apart","NoRow","NoTables","NoText","TooGreat"]
def adr (K:Frag)(x:Str):G6 G5:=match nsIn K mainGlobals x with
 |some (some (.ref a))=>some a
 |_=>none
def Yo (K:Frag)(C:G5):B3:=(clsIn K C).isSome&&findIn K (.ref C) "__getattribute__" ==some (some (.builtin "BaseException.__getattribute__"))&&findIn K (.ref C) "__getattr__" ==some none
 &&findIn K (.ref C) "__class__" ==some (some (.builtin "object.__class__"))&&specialIn K (.builtin "object.__class__") "__get__" ==some (some (.builtin "getset_descriptor.__get__"))
 &&takesIn K (.builtin "object.__class__")==some true&&mroIn K C (.type "object")==some true&&mroIn K C (.type "BaseException")==some true
theorem VI {C:G5}(h:Yo K C=true):ExcK K C:=by
 unfold Yo at h;simp only [R1,beq_iff_eq] at h;obtain⟨⟨⟨⟨⟨⟨⟨a,b⟩,c⟩,d⟩,e⟩,f⟩,g⟩,i⟩:=h;exact⟨a,b,c,d,e,f,g,i⟩
def XF (K:Frag)(c:Str):B3:=match adr K c,adr K "PowerError" with
 |some C,some pe=>excIn K C bmV "ValueError.__new__" &&Yo K C&&kitOne K (.ref C) (.type "ValueError")==some true&&exmOne K (.ref C) (.ref pe)==some true&&CN13.all λd=>match adr K d with
  |some D=>kitOne K (.ref C) (.ref D)==some (c==d)
  |none=>false
 |_,_=>false
def Rl (K:Frag):B3:=CN.all (XF K)&&CN13.all (λd=>(adr K d).isSome)&&(adr K "PowerError").isSome&&nsIn K mainGlobals "ValueError" ==some none
structure Exc (K:Frag)(mg:Str->G6 G1):Prop where
 own: ∀c∈CN,Ce K mg c
 ek: ∀c∈CN,∀C,mg c=some (.ref C)->ExcK K C
 kit: ∀c∈CN,∀d∈CN13,∀C D,mg c=some (.ref C)->mg d=some (.ref D)->kitOne K (.ref C) (.ref D)=some (c==d)
 val: ∀c∈CN,∀C,mg c=some (.ref C)->kitOne K (.ref C) (.type "ValueError")=some true
 pe: ∃pe,mg "PowerError" =some (.ref pe)/\ ∀c∈CN,∀C,mg c=some (.ref C)->exmOne K (.ref C) (.ref pe)=some true
 cls: ∀d∈CN13,∃D,mg d=some (.ref D)
 ve:mg "ValueError" =none
theorem yt {h:S3}{mg:Str->G6 G1}{a:G5}(X:K.In h)(G:h.Ns mainGlobals mg)(e:adr K x=some a):mg x=some (.ref a):=by
 unfold adr at e;split at e
 ·rename_i q;cases e;exact mg_of X G q
 ·cases e
theorem Rm {a:G5}(e:adr K x=some a):nsIn K mainGlobals x=some (some (.ref a)):=by
 unfold adr at e;split at e
 ·rename_i q;cases e;exact q
 ·cases e
theorem Rn {h:S3}{mg:Str->G6 G1}(X:K.In h)(G:h.Ns mainGlobals mg)(e:Rl K=true):Exc K mg:=by
 unfold Rl at e;simp only [R1,D7,beq_iff_eq] at e;obtain⟨⟨⟨e1,e2⟩,e3⟩,e4⟩:=e;obtain⟨pe,hpe⟩:=M1.mp e3;have A: ∀c∈CN,∃C,adr K c=some C/\mg c=some (.ref C)/\excIn K C bmV "ValueError.__new__" =true/\Yo K C=true/\kitOne K (.ref C) (.type "ValueError")=some true/\exmOne K (.ref C) (.ref pe)=some true/\ ∀d∈CN13,∀D,adr K d=some D->kitOne K (.ref C) (.ref D)=some (c==d):=λc hc=>by
  have q:=e1 c hc;unfold XF at q;rw [hpe] at q;split at q
  ·rename_i C pe' h1 h2;cases h2;simp only [R1,D7,beq_iff_eq] at q;obtain⟨⟨⟨⟨q1,q2⟩,q3⟩,q4⟩,q5⟩:=q;refine⟨C,h1,yt X G h1,q1,q2,q3,q4,λd hd D hD=> ?_⟩;have:=q5 d hd;rw [hD] at this;simpa using this
  ·cases q
 have same: ∀ {c:Str} {C C':G5},mg c=some (.ref C)->mg c=some (.ref C')->C=C':=λa b=>by rw [a] at b;cases b;rfl
 refine⟨λc hc=> ?_,λc hc C h=> ?_,λc hc d hd C D h1 h2=> ?_,λc hc C h=> ?_,⟨pe,yt X G hpe,λc hc C h=> ?_⟩,λd hd=> ?_,mg_none_of X G e4⟩
 ·obtain⟨C,a,m,q,_⟩:=A c hc;exact⟨C,m,Rm a,q⟩
 ·obtain⟨C',_,m,_,q,_⟩:=A c hc;cases same h m;exact VI q
 ·obtain⟨C',_,m,_,_,_,_,q⟩:=A c hc;cases same h1 m;obtain⟨D',hD⟩:=M1.mp (e2 d hd);cases same h2 (yt X G hD);exact q d hd D hD
 ·obtain⟨C',_,m,_,_,q,_⟩:=A c hc;cases same h m;exact q
 ·obtain⟨C',_,m,_,_,_,q,_⟩:=A c hc;cases same h m;exact q
 ·obtain⟨D',hD⟩:=M1.mp (e2 d hd);exact⟨D',yt X G hD⟩
def xOr (t u:TXD):TXD:=λσ h R=>t σ h R\/u σ h R
theorem Ro {X:Cx}{sts:G0 M4}{t u:TXD}(a:JX X sts t)(b:JX X sts u):JX X sts (xOr t u):=⟨λE Z pins s σ H nF h R I rs rh ht w=>ht.elim (λq=>a.to E Z pins s σ H nF h R I rs rh q w) λq=>b.to E Z pins s σ H nF h R I rs rh q w⟩
section
variable {P:D2}{w:S4}{K:G2}{mg:Str->G6 G1}{base:S3}
theorem Fun.okJL {x qual:Str}{st:M4}{f c Pt:G5}{fd:D6}{N ps:G0 Str}{k:P4}{spd:RDn}(F:Fun K x qual st f fd)(a:nsIn K mainGlobals x=some (some (.ref f)))(T:tabIn K x=some (c,Pt))(S:FnScope N ps (jb st))(len: ∀ds h Q,spd ds h Q->ds.length=ps.length)
 (tb:TSD)(hbody: ∀ (A:R0) (outer:G0 Env) (s:G4) (H:Hp) (E:XK),Room k (A.deeper (N8 qual (jb st) s.heap.objs.size f (.ref c)))->JSs (yH CX0 P w K mg base N qual (jb st) f (.ref c) A outer s H E).nox (jy st) tb)
 (read: ∀ds h Q,spd ds h Q->tb (Wy Q) (jM N ds) h):FnOk P w K mg base CX0 (k+1) f fd ps (LSp K spd):=by
 obtain⟨oc,od,kV,doc,pm,an,cdv,ct,osl,rfl,lk,hcd⟩:=F.ex;have e:cdv= .ref c:=UU a lk T;subst e;refine Qf lk hcd S (λvs H Q E h=> ?_) λA outer s H vs Q E hr h=> ?_
 ·obtain⟨ds,h,Qd,r,rh,q,p⟩:=h;rw [<-r.length];exact len _ _ _ q
 ·obtain⟨ds,h,Qd,r,rh,q,p⟩:=h;refine⟨_,((hbody A outer s H E hr).to).nox,jM N ds,h,Wy Qd,wg r,rh,read ds h Qd q,λnH h' nE H' k rs' rh' ⟨h2,sb,q'⟩=>p .non .non h2 H' k (rh'.sub sb) rfl q',λd v h' H' k rh' r' ⟨h2,sb,q'⟩=>p d v h2 H' k (rh'.sub sb) r' q',λ_ _ _ _ _ _ _ z=>z.elim,λ_ _ _ _ _ _ _ z=>z.elim⟩
end
def Gu (K:Frag)(x:Str):B3:=match tabIn K x with
 |some p=>codeHdIn K p.1 p.2
 |none=>false
theorem Gv (h:Gu K x=true): ∃c P,tabIn K x=some (c,P)/\codeHdIn K c P=true:=by
 unfold Gu at h;split at h
 ·rename_i p e;exact⟨p.1,p.2,e,h⟩
 ·cases h
end L2
namespace L2
open PySem PySem.Spec PyProof.Rows PySem.SeqAt
section
variable {n e:P4}{T:G0 (G0 P9)}
instance (k i j:P4):Decidable (RP n T k i j):=inferInstanceAs (Decidable (ent (Np n T k) i j≠0))
end
theorem UV {h h':HD}{a:G5}(sb:Sub h h')(e:h' a=none):h a=none:=by
 cases z:h a with
 |none=>rfl
 |some ds=>rw [sb a ds z] at e;cases e
theorem Sub.over {h h':HD}{a:G5}{ds:G0 D}(sb:Sub h h')(e:h a=none):Sub h (zA h' a ds):=⟨λb xs k=>jq (λz=>by subst z;rw [e] at k;cases k) (sb b xs k),sb.dc⟩
end L2
namespace L2
open PySem PySem.Spec PyProof.Rows PySem.SeqAt HT
open Classical in
noncomputable def readOf (h:S3)(v:G1):B9:=if e: ∃p as,p.canLay0=true/\Reads h v p as then e.choose else .none
end L2
namespace L2
open PySem PySem.Spec PyProof.Rows PySem.SeqAt
section
variable {α:Type}{i:P4}{js:G0 P4}{ti:TID}{te:TED}{σ:SD}{h:HD}{Q:KD}
theorem Rp (xs:G0 α)(c g:α->D)(P:G5->HD->Prop)(hz:xs.length<=1000)(ht: ∀R:ItD->HD->Prop,(∀A h1,P A h1->R (λh=>h A) h1)->ti σ h R)(hP: ∀A h1,P A h1->h1 A=some (xs.map c))(he: ∀A h1,P A h1-> ∀x∈xs,∀Q':KD,Q' (g x) h1->te ((zl js σ).set i (some (c x))) h1 Q')(hq: ∀A h1,P A h1-> ∀p,h1 p=none->Q (.lst p) (zA h1 p (xs.map g))):yJ (bN i) js ti vO te σ h Q:=
 ht _ λA h1 hp=>(lcA (ti:=λ_ h R=>R (λh=>h A) h) (j:=λh=>h A) xs c g hz (hP A h1 hp) (λR r=>r) (he A h1 hp) (hq A h1 hp):yJ (bN i) js (λ_ h R=>R (λh=>h A) h) vO te σ h1 Q)
theorem Gw {h1:HD}{j:ItD}(ds:G0 D)(W:P4->G0 D->HD->Prop)(hn:ds.length<=1000)(ht: ∀R:ItD->HD->Prop,R j h1->ti σ h R)(hj: ∀k ys h',W k ys h'->j h'=some ds)
 (w0:W 0 [] h1)(wl: ∀k ys h',W k ys h'->ys.length<=k)(turn: ∀k d ys h',ds[k]? =some d->W k ys h'->te ((zl js σ).set i (some d)) h' λy h4=> ∃h5,Sub h5 h4/\(k+1<=ds.length/\W (k+1) (ys++ [y]) h5))
 (done: ∀ys h',W ds.length ys h'-> ∀p,h' p=none->Q (.lst p) (zA h' p ys)):yJ (bN i) js ti vO te σ h Q:=by
 refine ht _ ⟨ds.length,λk ys h'=>k<=ds.length/\W k ys h',⟨O4 _,w0⟩,?_⟩;rintro k ys h' ⟨hk,w⟩;refine⟨R8 (wl k ys h' w) (M3 (jQ (by omega))),ds,hj k ys h' w,P0 _,λhl p hp=> ?_,λd hd=>⟨_,rfl,?_⟩⟩
 ·have:k=ds.length:=by omega
  subst this;exact done ys h' w p hp
 ·unfold vO;dsimp only;rw [S2 rfl];exact turn k d ys h' hd w
end
end L2
namespace L2
open PySem PySem.Spec PyProof.Rows
def s5:P4->P4
 |0=>0
 |d+1=>5*s5 d+1
def f5 (N:P4):P4->P4->P4
 |0,a=>a
 |d+1,a=>(f5 N d a*5+1)%N
theorem WJ: ∀ (fuel k n:P4),3<=k-> ∃m,3<=m/\SetTable.sizeAbove.go n fuel (2^k)=2^m/\(n<2^(k+fuel)->n<2^m)
 |0,k,n,h=>⟨k,h,rfl,λz=>z⟩
 |fuel+1,k,n,h=>by
  unfold SetTable.sizeAbove.go
  by_cases c:2^k<=n
  ·rw [S2 c,<-kQ];obtain⟨m,a,b,d⟩:=WJ fuel (k+1) n (by omega);exact⟨m,a,b,λz=>d (by rw [Nat.add_right_comm,Nat.add_assoc];exact z)⟩
  ·rw [S6 c];exact⟨k,h,rfl,λ_=>by omega⟩
theorem above {n:P4}(h:n<2^67): ∃m,U9 n=2^m/\n<U9 n/\8<=U9 n:=by
 obtain⟨m,a,b,c⟩:=WJ 64 3 n (by decide);have b:U9 n=2^m:=b;refine⟨m,b,by rw [b];exact c h,?_⟩;rw [b];exact C4 (show 0<2 by decide) a
end L2
namespace L2
open PySem PySem.Spec PyProof.Rows HT
def Gx (h h':S3):Prop:= ∀ (b:G5) (o:Obj),o.cls= .type "tuple" ->h.get? b=some o->h'.get? b=some o
structure MemK (prog:D2)(w:S4)(K:Type)[DecidableEq K] where
 is:S3->K->G5->Prop
 hash:K->P9
 inj: ∀ {h:S3} {x y:K} {a:G5},is h x a->is h y a->x=y
 keep: ∀ {h h':S3} {x:K} {a:G5},Gx h h'->is h x a->is h' x a
 hashed: ∀ {A:R0} {E:G1->G4->Prop} {s:G4} {x:K} {a:G5} {Q:P9->G4->Prop},A.units+8<cLine->is s.heap x a->(∀tk,Q (hash x) {s with toks:=tk})->D5 (D8 prog w) A (pyHash (.ref a)) Q E s
 same: ∀ {A:R0} {E:G1->G4->Prop} {s:G4} {x y:K} {a b:G5} {Q:B3->G4->Prop},A.units+8<cLine->is s.heap x a->is s.heap y b->Q (decide (x=y)) s->D5 (D8 prog w) A (eqBool (.ref a) (.ref b)) Q E s
 quiet: ∀ {A:R0} {E:G1->G4->Prop} {s:G4} {x:K} {a:G5} {Q:B3->G4->Prop},is s.heap x a->Q true s->D5 (D8 prog w) A (eqIsQuiet 8 (.ref a)) Q E s
 cls: ∀ {A:R0} {E:G1->G4->Prop} {s:G4} {x:K} {a:G5} {Q:B3->G4->Prop},is s.heap x a->Q false s->D5 (D8 prog w) A (ofAClassStatement 8 (.ref a)) Q E s
 byv: ∀ {A:R0} {E:G1->G4->Prop} {s:G4} {x:K} {a:G5} {Q:B3->G4->Prop},is s.heap x a->Q true s->D5 (D8 prog w) A (hashByValue 8 (.ref a)) Q E s
end L2
namespace L2
open PySem PySem.Spec PyProof.Rows PySem.W
structure DefIn (K:Frag)(x:Str)(st:M4)(f:G5)(fd:D6):Prop where
 at_:nsIn K mainGlobals x=some (some (.ref f))
 fn:Fun K x x st f fd
variable {K:Frag}{h base:S3}{mg:Str->G6 G1}{x:Str}{st:M4}{f:G5}{fd:D6}{P:D2}{w:S4}{n:P4}{ps:G0 Str}
theorem Rq {oc:G1}{od an:G6 G5}{osl:B7 (G6 G1)}{kV doc pm cdv ct:G1}(a:nsIn K mainGlobals x=some (some (.ref f)))(l:K.lookup f=some ⟨oc,od,.func (fnOf x x (zk st) (jy st) (jb st) .none kV doc pm an cdv ct),osl⟩)
 (c:codeIn K cdv x=true)(k:keepIn K (.ref f)=true):DefIn K x st f (fnOf x x (zk st) (jy st) (jb st) .none kV doc pm an cdv ct):=⟨a,Xq l c k⟩
abbrev Rr (x:Str)(st:M4)(ps:G0 Str):Prop:= ∀ (kV doc pm:G1) (an:G6 G5) (cdv ct:G1) (us:G0 G1),us.length=ps.length->fC (fnOf x x (zk st) (jy st) (jb st) .none kV doc pm an cdv ct) ⟨us,[]⟩=pure (ps.zip us)
theorem DefIn.nm (d:DefIn K x st f fd)(X:K.In h)(G:h.Ns mainGlobals mg):mg x=some (.ref f):=mg_of X G d.at_
variable {C:G0 G1->Prop}
theorem ln1 (g: ∀a,C [a]): ∀us:G0 G1,us.length=1->C us
 | [_],_=>g _
theorem ln2 (g: ∀a b,C [a,b]): ∀us:G0 G1,us.length=2->C us
 | [_,_],_=>g _ _
theorem ln3 (g: ∀a b c,C [a,b,c]): ∀us:G0 G1,us.length=3->C us
 | [_,_,_],_=>g _ _ _
theorem ln4 (g: ∀a b c d,C [a,b,c,d]): ∀us:G0 G1,us.length=4->C us
 | [_,_,_,_],_=>g _ _ _ _
theorem ln5 (g: ∀a b c d e,C [a,b,c,d,e]): ∀us:G0 G1,us.length=5->C us
 | [_,_,_,_,_],_=>g _ _ _ _ _
theorem DefIn.cal {sp:RDn}(d:DefIn K x st f fd)(l:OpenLaw)(w:S4)(base:S3)(X:K.In h)(G:h.Ns mainGlobals mg)(ok:FnOk l.prog w K mg base CX0 n f fd ps (LSp K sp))(b:Rr x st ps:=by first|exact λ_ _ _ _ _ _=>ln1 λ_=>rfl|exact λ_ _ _ _ _ _=>ln2 λ_ _=>rfl|exact λ_ _ _ _ _ _=>ln3 λ_ _ _=>rfl|exact λ_ _ _ _ _ _=>ln4 λ_ _ _ _=>rfl|exact λ_ _ _ _ _ _=>ln5 λ_ _ _ _ _=>rfl):jN l.prog w K mg base n x ps sp:=⟨_,_,ok,d.fn.binds b,d.fn.kp,d.nm X G⟩
theorem DefIn.rai {sp:RDx}(d:DefIn K x st f fd)(l:OpenLaw)(w:S4)(base:S3)(X:K.In h)(G:h.Ns mainGlobals mg)(ok:FnOk l.prog w K mg base (CXR l.prog w) n f fd ps (Gm mg K sp))(b:Rr x st ps:=by first|exact λ_ _ _ _ _ _=>ln1 λ_=>rfl|exact λ_ _ _ _ _ _=>ln2 λ_ _=>rfl|exact λ_ _ _ _ _ _=>ln3 λ_ _ _=>rfl|exact λ_ _ _ _ _ _=>ln4 λ_ _ _ _=>rfl|exact λ_ _ _ _ _ _=>ln5 λ_ _ _ _ _=>rfl):ZX l.prog w K mg base n x ps sp:=⟨_,_,ok,d.fn.binds b,d.fn.kp,d.nm X G⟩
def zsB (K:Frag):B3:= ["len","max","min","divmod","all","any","repr","sum","sorted","int","tuple","list","set","bool","isinstance","range","zip","enumerate","reversed"].all λx=>nsIn K mainGlobals (G3 x)==some none
theorem Nv (X:K.In h)(G:h.Ns mainGlobals mg)(e:zsB K=true):Zs mg:=by
 unfold zsB at e;rw [D7] at e;have m:=λ(x:T0) hx=>mg_none_of X G (beq_iff_eq.mp (e x hx))
 exact⟨m "len" (by decide),m "max" (by decide),m "min" (by decide),m "divmod" (by decide),m "all" (by decide),m "any" (by decide),m "repr" (by decide),m "sum" (by decide),m "sorted" (by decide),m "int" (by decide),m "tuple" (by decide),m "list" (by decide),m "set" (by decide),m "bool" (by decide),m "isinstance" (by decide),m "range" (by decide),m "zip" (by decide),m "enumerate" (by decide),m "reversed" (by decide)⟩
end L2
set_option maxRecDepth 35000
namespace L2
open PySem PySem.Spec PyProof.Rows
section
variable {X:Cx}{k i:P4}{ps N Pn:G0 Str}{spd:RDn}{x:Str}{p pos pos':Pos}{e e2 e3 e4 iter elt:D3}{es ifs:G0 D3}{t:TAD}{te te2 te3 te4:TED}{ti:TID}{tt:TTD}{scope sc:N0}{c:D3}
theorem jk (C:jN X.prog X.w X.K X.mg X.base k x ps spd)(hr:Room k X.A)(ha:JA X (e::es) t)(hg:Gl X x:=by rfl)(hdb:(x==("__debug__" :Str))=false:=by decide)(he:G9 (e::es) X.env=(false,M2 e X.env)::G9 es X.env:=by rfl)(hpl:(M9 pos (G9 es X.env)).any (·.1)=false:=by rfl):JE X (.Call (.Name x p) (e::es) [] pos) (dCB spd t):=by
 obtain⟨g,gd,F,hb,hk,hm⟩:=C;exact Nl F hr hg hm hk hb ha hdb he hpl
theorem jxk {spr:RDx}(C:ZX X.prog X.w X.K X.mg X.base k x ps spr)(hr:Room k X.A)(ha:JA X (e::es) t)(hg:Gl X x:=by rfl)(hdb:(x==("__debug__" :Str))=false:=by decide)(he:G9 (e::es) X.env=(false,M2 e X.env)::G9 es X.env:=by rfl)(hpl:(M9 pos (G9 es X.env)).any (·.1)=false:=by rfl):JXE X (.Call (.Name x p) (e::es) [] pos) (Rf spr t):=by
 obtain⟨g,gd,F,hb,hk,hm⟩:=C;exact Go F hr hg hm hk hb ha hdb he hpl
theorem j1 (a:JE X e te)(h:jL e=true:=by rfl):JA X [e] (jU te Jb):=jac a jV h
theorem j2 (a:JE X e te)(b:JE X e2 te2)(h:jL e=true:=by rfl)(h2:jL e2=true:=by rfl):JA X [e,e2] (jU te (jU te2 Jb)):=jac a (j1 b h2) h
theorem j3 (a:JE X e te)(b:JE X e2 te2)(c:JE X e3 te3)(h:jL e=true:=by rfl)(h2:jL e2=true:=by rfl)(h3:jL e3=true:=by rfl):JA X [e,e2,e3] (jU te (jU te2 (jU te3 Jb))):=jac a (j2 b c h2 h3) h
theorem j4 (a:JE X e te)(b:JE X e2 te2)(c:JE X e3 te3)(d:JE X e4 te4)(h:jL e=true:=by rfl)(h2:jL e2=true:=by rfl)(h3:jL e3=true:=by rfl)(h4:jL e4=true:=by rfl):JA X [e,e2,e3,e4] (jU te (jU te2 (jU te3 (jU te4 Jb)))):=jac a (j3 b c d h2 h3 h4) h
theorem WK (Z:Zs X.mg)(a:JE X e te)(hg:Gl X "len" :=by rfl)(h:jL e=true:=by rfl)(he:G9 [e] X.env=(false,M2 e X.env)::G9 [] X.env:=by rfl)(hpl:(M9 pos (G9 [] X.env)).any (·.1)=false:=by rfl):JE X (.Call (.Name "len" p) [e] [] pos) (dCB Md (jU te Jb)):=zm DI hg Z.len W3 (j1 a h) (by decide) (by decide) he hpl
theorem jse (i:P4)(S:FnScope X.N Pn sc)(he:JE X e te)(hi:X.N[i]? =some x:=by rfl)(hx:Loc X.env.scope x:=by first|exact L9 rfl|exact X6 rfl)(hs:E1 e (some (.Name x pos')) pos.line X.env=pure false:=by rfl)(hf:X.fn x=true\/X.env.scope.names.lookup x=some .local:=by first|exact .inl rfl|exact .inr rfl|assumption):JS X (.Assign [.Name x pos'] e pos) (UC i te):=Bj S.nd hi hx he hs hf
theorem jgn (i:P4)(S:FnScope X.N Pn sc)(hi:X.N[i]? =some x:=by rfl)(hx:Loc X.env.scope x:=by first|exact L9 rfl|exact X6 rfl)(hf:X.fn x=true\/X.env.scope.names.lookup x=some .local:=by first|exact .inl rfl|exact .inr rfl|assumption):JG X (.Name x pos) (gN i):=Gg S.nd hi hx hf
theorem jl1 (i:P4)(S:FnScope X.N Pn sc)(hi:JI X (.Name x p) iter ti)(ht: ∀C s₀ H₀ ex,JT (wy X scope C s₀ H₀ ex) c tt)(he: ∀C s₀ H₀ ex,JE (wy X scope C s₀ H₀ ex) elt te)(hc:X.calm=true:=by rfl)(hB:WA X.N X.env.scope.names scope [i]=true:=by rfl)(hx:X.N[i]? =some x:=by rfl)(hl:scope.names.lookup x=some .local\/scope.names.lookup x=some .cell:=by first|exact L9 rfl|exact X6 rfl)(hs: ∀x,T4 iter X.env x=pure x:=by intro _;rfl):JE X (.ListComp elt [⟨.Name x p,iter,[c],0⟩] scope pos) (yJ (bN i) [i] ti tt te):=
 jlc hc (zi hB) hi (R6.mpr rfl) S.nd hx hl (λX' hX=>by obtain⟨C,s₀,H₀,ex,rfl⟩:=hX;exact Gi (ht C s₀ H₀ ex)) (λX' hX=>by obtain⟨C,s₀,H₀,ex,rfl⟩:=hX;exact he C s₀ H₀ ex) hs
theorem jl0 (i:P4)(S:FnScope X.N Pn sc)(hi:JI X (.Name x p) iter ti)(he: ∀C s₀ H₀ ex,JE (wy X scope C s₀ H₀ ex) elt te)(hc:X.calm=true:=by rfl)(hB:WA X.N X.env.scope.names scope [i]=true:=by rfl)(hx:X.N[i]? =some x:=by rfl)(hl:scope.names.lookup x=some .local\/scope.names.lookup x=some .cell:=by first|exact L9 rfl|exact X6 rfl)(hs: ∀x,T4 iter X.env x=pure x:=by intro _;rfl):JE X (.ListComp elt [⟨.Name x p,iter,[],0⟩] scope pos) (yJ (bN i) [i] ti vO te):=
 jlc hc (zi hB) hi (R6.mpr rfl) S.nd hx hl (λX' hX=>vc) (λX' hX=>by obtain⟨C,s₀,H₀,ex,rfl⟩:=hX;exact he C s₀ H₀ ex) hs
theorem fsc {N P:G0 Str}(a:sc.kind= .function:=by rfl)(b:sc.isCoroutine=false:=by rfl)(c:sc.isGenerator=false:=by rfl)(d:N.Nodup:=by decide +kernel)(e:N.take P.length=P:=by rfl)(f: ∀x∈P,sc.names.lookup x=some .local\/sc.names.lookup x=some .cell:=by decide +kernel)(g: ∀y∈sc.names,y.2≠ .free:=by decide +kernel):FnScope N P sc:=⟨a,b,c,d,e,f,g⟩
theorem jc1 {op:cP}{f:RD2}(ho:OpQ X (S8 op) f)(ha:JE X e te)(hb:JE X e2 te2)(hm:F4 op e2=false:=by exact YN _):JE X (.Compare e [op] [e2] pos) (dOp f te te2):=Bi ho ha hb hm
theorem jt1 {op:cP}{f:RD2}(ho:OpQ X (S8 op) f)(ha:JE X e te)(hb:JE X e2 te2)(hm:F4 op e2=false:=by exact YN _):JT X (.Compare e [op] [e2] pos) (wM (dOp f te te2)):=Vt ho ha hb hm
theorem ji1 (ha:JE X e te)(hb:JE X e2 te2)(hs:yS e2:=by exact λ_ _=>rfl):JE X (.Subscript e e2 pos) (dOp ixD te te2):=jix ha hb hs
theorem jrg {tg:D3}(Z:Zs X.mg)(ha:JE X e te)(hg:Gl X "range" :=by rfl)(h:jL e=true:=by rfl)(hs:G9 [e] X.env= [(false,M2 e X.env)]:=by rfl):JI X tg (.Call (.Name "range" p) [e] [] pos) (iR1 (jU te Jb)):=Nk hg Z.range (j1 ha h) hs
end
section
variable {P:D2}{w:S4}{K:G2}{mg:Str->G6 G1}{base:S3}{x qual:Str}{st:M4}{f:G5}{fd:D6}{N ps:G0 Str}{k:P4}
theorem Fun.okM {spd:RDn}(F:Fun K x qual st f fd)(S:FnScope N ps (jb st)){tb:TSD}(hbody: ∀ {cdv:G1} {A:R0} {outer:G0 Env} {s:G4} {H:Hp} {E:XK},Room k (A.deeper (N8 qual (jb st) s.heap.objs.size f cdv))->JSs (yH CX0 P w K mg base N qual (jb st) f cdv A outer s H E).nox (jy st) tb)
 (read: ∀ds h Q,spd ds h Q->ds.length=ps.length/\tb (Wy Q) (jM N ds) h):FnOk P w K mg base CX0 (k+1) f fd ps (LSp K spd):=F.okJ S (λds h Q q=>(read ds h Q q).1) tb (λ_ _ _ _ _ _ hr=>hbody hr) λds h Q q=>(read ds h Q q).2
theorem Fun.okMX {spr:RDx}(F:Fun K x qual st f fd)(S:FnScope N ps (jb st)){tb:TXD}(hbody: ∀ {cdv:G1} {A:R0} {outer:G0 Env} {s:G4} {H:Hp} {E:XK},Room k (A.deeper (N8 qual (jb st) s.heap.objs.size f cdv))->JX (yH (CXR P w) P w K mg base N qual (jb st) f cdv A outer s H E) (jy st) tb)
 (read: ∀ds h R,spr ds h R->ds.length=ps.length/\tb (jM N ds) h R):FnOk P w K mg base (CXR P w) (k+1) f fd ps (Gm mg K spr):=F.okX S (λds h Q q=>(read ds h Q q).1) tb (λ_ _ _ _ _ _ hr=>hbody hr) λds h Q q=>(read ds h Q q).2
end
theorem Zj {t u:TSD}{E:EndsD}{σ:SD}{h:HD}(nX:SD)(first: ∀K:SD->HD->Prop,K nX h->t {E with nx:=K} σ h)(rest:u E nX h):zQ t u E σ h:=first (u E) rest
theorem sz0:0<=sizeLine:=by decide
theorem sz1:1<=sizeLine:=by decide
theorem sz2:2<=sizeLine:=by decide
theorem sz3:3<=sizeLine:=by decide
theorem sz4:4<=sizeLine:=by decide
theorem sz6:6<=sizeLine:=by decide
section
variable {X:Cx}{s0 s1 s2 s3 s4 s5 s6 s7:M4}{t0 t1 t2 t3 t4 t5 t6 t7:TSD}{c:D3}{tc:TTD}{pos:Pos}
theorem js2 (a:JS X s0 t0)(b:JS X s1 t1):JSs X [s0,s1] (zQ t0 t1):=(jn a (jO b))
theorem js3 (a:JS X s0 t0)(b:JS X s1 t1)(c:JS X s2 t2):JSs X [s0,s1,s2] (zQ t0 (zQ t1 t2)):=(jn a (jn b (jO c)))
theorem js4 (a:JS X s0 t0)(b:JS X s1 t1)(c:JS X s2 t2)(d:JS X s3 t3):JSs X [s0,s1,s2,s3] (zQ t0 (zQ t1 (zQ t2 t3))):=(jn a (jn b (jn c (jO d))))
theorem js5 (a:JS X s0 t0)(b:JS X s1 t1)(c:JS X s2 t2)(d:JS X s3 t3)(e:JS X s4 t4):JSs X [s0,s1,s2,s3,s4] (zQ t0 (zQ t1 (zQ t2 (zQ t3 t4)))):=(jn a (jn b (jn c (jn d (jO e)))))
theorem js6 (a:JS X s0 t0)(b:JS X s1 t1)(c:JS X s2 t2)(d:JS X s3 t3)(e:JS X s4 t4)(f:JS X s5 t5):JSs X [s0,s1,s2,s3,s4,s5] (zQ t0 (zQ t1 (zQ t2 (zQ t3 (zQ t4 t5))))):=(jn a (jn b (jn c (jn d (jn e (jO f))))))
theorem js7 (a:JS X s0 t0)(b:JS X s1 t1)(c:JS X s2 t2)(d:JS X s3 t3)(e:JS X s4 t4)(f:JS X s5 t5)(g:JS X s6 t6):JSs X [s0,s1,s2,s3,s4,s5,s6] (zQ t0 (zQ t1 (zQ t2 (zQ t3 (zQ t4 (zQ t5 t6)))))):=(jn a (jn b (jn c (jn d (jn e (jn f (jO g)))))))
theorem js8 (a:JS X s0 t0)(b:JS X s1 t1)(c:JS X s2 t2)(d:JS X s3 t3)(e:JS X s4 t4)(f:JS X s5 t5)(g:JS X s6 t6)(h:JS X s7 t7):JSs X [s0,s1,s2,s3,s4,s5,s6,s7] (zQ t0 (zQ t1 (zQ t2 (zQ t3 (zQ t4 (zQ t5 (zQ t6 t7))))))):=(jn a (jn b (jn c (jn d (jn e (jn f (jn g (jO h))))))))
theorem vS (hc:JT X c tc)(h:JS X s0 t0):JS X (.If c [s0] [] pos) (Pd tc t0 Yc):=Mf hc (jO h) WD
end
def Nw:RD2:=λx y h Q=>match x,y with
 | .str a,.str b=>a.length+b.length<=sizeLine/\Q (.str (a++b)) h
 |_,_=>False
def Ch:RD2:=λx y h Q=>match x,y with
 | .str a,.str b=> ∃c,a=⟨#[c]⟩/\Q (.bl (decide (c∈b.cps.toList))) h
 |_,_=>False
def Gy:RD2:=λx y h Q=>match x,y with
 | .str a,.str b=> ∃c,a=⟨#[c]⟩/\Q (.bl (!decide (c∈b.cps.toList))) h
 |_,_=>False
def Nx:RD2:=λx y h Q=>match x,y with
 | .str a,.int n=>a.length*n.toNat<=16777216/\0<=n/\n<=16777216/\Q (.str (b9 a n)) h
 |_,_=>False
def Ci:RD2:=λx y h Q=>match x,y with
 | .str a,.int i=> ∃c,a.length<=sizeLine/\atI a.cps.toList i=some c/\Q (.str ⟨#[c]⟩) h
 |_,_=>False
def Ny:RDn:=λds h Q=> ∃z,ds= [.str z]/\z.length<=sizeLine/\Q (.int z.length) h
def Nz:RDn:=λds h Q=> ∃i,ds= [.int i]/\i.natAbs.log2<1920/\Q (.str (toString i)) h
def NA:RDn:=λds h Q=> ∃z n,ds= [.str z]/\z.length<=640/\iF z=some n/\Q (.int n) h
section
variable {X:Cx}
theorem zL:OpQ X (N3 .Add) Nw:=op_add_str.imp λx y H Q ⟨dx,dy,h,Qd,rx,ry,rh,q,p⟩=>by
 cases dx<;>first|exact False.elim q|(cases dy<;>first|exact False.elim q|skip)
 exact⟨_,_,rx,ry,q.1,p (.str _) _ _ _ (.refl H) rh rfl q.2⟩
theorem Rs:OpQ X (S8 .In) Ch:=op_in_str.imp λx y H Q ⟨dx,dy,h,Qd,rx,ry,rh,q,p⟩=>by
 cases dx<;>first|exact False.elim q|(cases dy<;>first|exact False.elim q|skip)
 obtain⟨c,rfl,q⟩:=q;exact⟨_,_,rx,ry,by rw [StrLaws.found_one];exact p (.bl _) _ _ _ (.refl H) rh rfl q⟩
theorem VJ:OpQ X (S8 .NotIn) Gy:=op_notIn_str.imp λx y H Q ⟨dx,dy,h,Qd,rx,ry,rh,q,p⟩=>by
 cases dx<;>first|exact False.elim q|(cases dy<;>first|exact False.elim q|skip)
 obtain⟨c,rfl,q⟩:=q;exact⟨_,_,rx,ry,by rw [StrLaws.found_one];exact p (.bl _) _ _ _ (.refl H) rh rfl q⟩
theorem op_mul_txt:OpR X (N3 .Mult) (λx y H Q=> ∃z n,x= .str z/\y= .int n/\z.length*n.toNat<=16777216/\0<=n/\n<=16777216/\Q (.str (b9 z n)) H):=by
 intro pins s σ H x y v u Q I rx ry h;obtain⟨z,n,rfl,rfl,hz,h0,h1,q⟩:=h;obtain⟨t,rfl⟩:=rx;obtain⟨t',rfl⟩:=ry;exact SB.mul (k7 z.length n.toNat (P0 _) (by omega) (by omega) (by omega) hz) λt' k=>⟨.str _,H,I.kept λ_ _ e=>e,⟨_,rfl⟩,q⟩
theorem VL:OpQ X (N3 .Mult) Nx:=op_mul_txt.imp λx y H Q ⟨dx,dy,h,Qd,rx,ry,rh,q,p⟩=>by
 cases dx<;>first|exact False.elim q|(cases dy<;>first|exact False.elim q|skip)
 exact⟨_,_,rx,ry,q.1,q.2.1,q.2.2.1,p (.str _) _ _ _ (.refl H) rh rfl q.2.2.2⟩
theorem Jk:wk X (.builtin "len") Ny:=call_len_str.imp λxs H Q ⟨ds,h,Qd,r,rh,⟨z,e,hz,q⟩,p⟩=>by
 subst e;obtain⟨v,e,r1⟩:=jB r;subst e;exact⟨z,congrArg (λv=> [v]) r1,hz,p (.int _) _ _ _ (.refl H) rh rfl q⟩
theorem VM:wk X (.type "str") Nz:=call_str_int.imp λxs H Q ⟨ds,h,Qd,r,rh,⟨z,e,hz,q⟩,p⟩=>by
 subst e;obtain⟨v,e,r1⟩:=jB r;subst e;exact⟨z,congrArg (λv=> [v]) r1,hz,p (.str _) _ _ _ (.refl H) rh rfl q⟩
theorem call_int_txt:CallR X (.type "int") (λxs H Q=> ∃z n,xs= [.str z]/\z.length<=640/\iF z=some n/\Q (.int n) H):=by
 intro pins s σ H xs us Q I r h;obtain⟨z,n,rfl,hz,hn,q⟩:=h;obtain⟨u,rfl,t,rfl⟩:=yc r;exact PySem.W.KIN.call_text hn hz ⟨.int n,H,I.tok _,⟨_,rfl⟩,q⟩
theorem ZY:wk X (.type "int") NA:=call_int_txt.imp λxs H Q ⟨ds,h,Qd,r,rh,⟨z,n,e,hz,hn,q⟩,p⟩=>by
 subst e;obtain⟨v,e,r1⟩:=jB r;subst e;exact⟨z,n,congrArg (λv=> [v]) r1,hz,hn,p (.int _) _ _ _ (.refl H) rh rfl q⟩
theorem Rt {a b:D3}{ta tb:TED}{pos:Pos}(ha:JE X a ta)(hb:JE X b tb)(hs:yS b):JE X (.Subscript a b pos) (dOp Ci ta tb):=⟨(PV Xp ha.to hb.to hs).imp λσ H Q ⟨nF,h,Qd,rs,rh,t,p⟩=>
 LE.bind rs rh t λdx x h1 H1 k1 rs1 rh1 r1 t1=>LE.bind rs1 rh1 t1 λdy y h2 H2 k2 rs2 rh2 ry q=>by
  have rx:=r1.mono k2;cases dx<;>first|exact False.elim q|(cases dy<;>first|exact False.elim q|skip)
  obtain⟨c,hz,e,q⟩:=q;exact⟨_,_,c,rx,ry,hz,e,p (.str _) _ _ _ (k1.trans k2) rh2 rfl q⟩⟩
theorem Ru {x:Str}{s:Str}{tk:Tok}{pos:Pos}(hg:Gl X x)(hm:X.mg x=some (.str s tk))(hd:(x==("__debug__" :Str))=false:=by decide):JE X (.Name x pos) (dC (.str s)):=
 ⟨(ZJ hg hm (show RelV (.str s) (.str s tk) from ⟨_,rfl⟩) hd).imp λσ H Q ⟨nF,h,Qd,rs,rh,q,p⟩=>p (.str s) _ _ _ (.refl H) rh rfl q⟩
end
theorem vT {K:G2}{H:Hp}: ∀ {ys:G0 Str} {vs:G0 V},RelDs K H (ys.map D.str) vs->vs=ys.map V.str
 | [],vs,r=>r
 |y::ys,vs,r=>by
  obtain⟨v,t,rfl,r1,r2⟩:=(show ∃v t,vs=v::t/\RelD K H (.str y) v/\RelDs K H (ys.map D.str) t from r);rw [show v= .str y from r1,vT r2];rfl
theorem vU {K:G2}{H:Hp}: ∀ys:G0 Str,RelDs K H (ys.map D.str) (ys.map V.str)
 | []=> .nil
 |y::ys=> .cons rfl (vU ys)
theorem Zk: ∀ {ys:G0 Str} {us:G0 G1},Vals (ys.map V.str) us->StrsAre us ys
 | [],_,.nil=> .nil
 |y::ys,_,.cons r t=>by obtain⟨k,rfl⟩:=r;exact .cons y k (Zk t)
theorem vm: ∀l:G0 (Str×Tok),Vals ((l.map (·.1)).map V.str) (j9 l)
 | []=> .nil
 |p::r=> .cons ⟨p.2,rfl⟩ (vm r)
section
variable {X:Cx}
theorem Gz:MtM X "str.join" (λx vs H Q=> ∃z a ys,x= .str z/\vs= [.ref a]/\H a=some (.lst (ys.map V.str))/\(ys.map (·.length)).sum+ys.length*z.length<=16777216/\Q (.str (bP z ys)) H):=by
 intro pins s σ H x vs v us Q I rx rv h;obtain⟨z,a,ys,rfl,rfl,hH,hw,q⟩:=h;obtain⟨t,rfl⟩:=rx;obtain⟨u,rfl,ru⟩:=yc rv;cases ru;obtain⟨its,n,r,e,_⟩:=I.lst hH;exact join_list ⟨_,e,rfl,n,rfl⟩ (Zk r) hw λt' k=>⟨.str _,H,I.kept λ_ _ e=>e,⟨_,rfl⟩,q⟩
theorem UW:MtM X "str.split" (λx vs H Q=> ∃z y,x= .str z/\vs= [.str y]/\1<=y.length/\z.length+2<=sizeLine/\ ∀p,H p=none->Q (.ref p) (upd H p (.lst ((S9 z y).map V.str)))):=by
 intro pins s σ H x vs v us Q I rx rv h;obtain⟨z,y,rfl,rfl,hy,hz,q⟩:=h;obtain⟨t,rfl⟩:=rx;obtain⟨u,rfl,t',rfl⟩:=yc rv;have few:=split_weight z y hy;have laid: ∀ (l:G0 (Str×Tok)) (k:P4),l.map (·.1)=S9 z y->EP X pins σ Q (.ref s.heap.objs.size) {s with heap:=s.heap.push {cls:= .type "list",data:= .seq (j9 l).toArray},toks:=k}:=λl k e=>
  ⟨.ref _,_,I.laid (t':=k) (o:= .lst ((S9 z y).map V.str)) (λb ob q=>G7 _ q) (P0 _) ⟨by rw [G8];omega,j9 l,0,by rw [<-e];exact vm l,S5 _ rfl⟩,rfl,q _ (I.hok.fresh (P0 _))⟩
 have ne:(y.length==0)=false:=beq_eq_false_iff_ne.mpr (by omega);have of: ∀ {S:PySem.Spec},Meets (Builtin.«str.split» ⟨[.str z t,.str y t'],[]⟩) S->S X.A (wants (EP X pins σ Q) X.xe) s->D5 (D8 X.prog X.w) X.A (call (.builtin "str.split") [.str z t,.str y t']) (EP X pins σ Q) X.xe s:=λm h=>
  aI cA (eI s z t) kG (i2 _ _) m h
 by_cases c:(decide (z.length<y.length)||decide (Builtin.Str.strKind z<Builtin.Str.strKind y))=true
 ·exact of (meets_str_split_cannot_occur z y t t' c) (laid [(z,t)] s.toks (S2 c).symm)
 ·have c':=W4.mpr c;have cut:S9 z y=_:=S6 c
  by_cases f:(H0 z y 0 z.length (z.length+1)).isEmpty=true
  ·exact of (meets_str_split_not_found z y t t' c' ne f) (laid [(z,t)] s.toks (cut.trans (S2 f)).symm)
  ·have cut:=cut.trans (S6 f);have far:=congrArg cS cut;have w:=laid (numbered s.toks (i3 z (H0 z y 0 z.length (z.length+1)) y.length));refine of (meets_str_split_sep z y t t' c' ne (W4.mpr f) (by omega) (by rw [<-far];omega)) ?_;have ww:=λk=>w k ((numbered_texts _ _).trans cut.symm)
   rw [<-strsFrom_eq] at ww;exact ww _
def Rv (to te:TED):TED:=λσ h Q=>to σ h λx h1=> ∃z,x= .str z/\te σ h1 λy h2=> ∃a ys,y= .lst a/\h2 a=some (ys.map D.str)/\(ys.map (·.length)).sum+ys.length*z.length<=16777216/\Q (.str (bP z ys)) h2
def VN (to te:TED):TED:=λσ h Q=>to σ h λx h1=> ∃z,x= .str z/\te σ h1 λw h2=> ∃y,w= .str y/\1<=y.length/\z.length+2<=sizeLine/\ ∀p,h2 p=none->Q (.lst p) (zA h2 p ((S9 z y).map D.str))
variable {o e:D3}{to te:TED}{apos cpos:Pos}
theorem GA (ho : JE X o to) (he : JE X e te) (hbase : F7 o "join" X.env (M2 o X.env) = M2 o X.env := by rfl)
    (hfew : ((M9 cpos (G9 [e] X.env)).all (fun x => !x.1) && (aH cpos (K3 [] X.env)).all (fun x => x.1.isSome) && decide ([e].length + ([] : G0 E8).length + (if ([] : G0 E8).isEmpty then 0 else 1) < 30)) = true := by rfl)
    (hline : (apos.endLine == cpos.line) = true := by rfl) (hs : G9 [e] X.env = (false, M2 e X.env) :: G9 [] X.env := by rfl) (hplain : (M9 cpos (G9 [] X.env)).any (·.1) = false := by rfl) :
    JE X (.Call (.Attribute o "join" apos) [e] [] cpos) (Rv to te) :=
  ⟨(YY cB k8 k9 Gz ho.to (zb he.to pa_nil hs) hbase hfew hline hs hplain).imp
    fun σ H Q ⟨nF, h, Qd, rs, rh, t, p⟩ => LE.bind rs rh t fun d v h1 H1 k1 rs1 rh1 r1 ⟨z, e, q⟩ => by
      subst e
      have ev : v = .str z := r1
      subst ev
      refine ⟨rfl, LE.bind rs1 rh1 q fun y u h2 H2 k2 rs2 rh2 r2 ⟨a, ys, e, hd, hw, q2⟩ => ?_⟩
      subst e
      obtain ⟨ws, hW, rW⟩ := rh2 a _ hd
      have eu : u = .ref a := r2.1
      subst eu
      exact ⟨z, a, ys, rfl, rfl, by rw [hW, vT rW], hw, p (.str _) _ _ _ (k1.trans k2) rh2 rfl q2⟩⟩
theorem wR (ho : JE X o to) (he : JE X e te) (hbase : F7 o "split" X.env (M2 o X.env) = M2 o X.env := by rfl)
    (hfew : ((M9 cpos (G9 [e] X.env)).all (fun x => !x.1) && (aH cpos (K3 [] X.env)).all (fun x => x.1.isSome) && decide ([e].length + ([] : G0 E8).length + (if ([] : G0 E8).isEmpty then 0 else 1) < 30)) = true := by rfl)
    (hline : (apos.endLine == cpos.line) = true := by rfl) (hs : G9 [e] X.env = (false, M2 e X.env) :: G9 [] X.env := by rfl) (hplain : (M9 cpos (G9 [] X.env)).any (·.1) = false := by rfl) :
    JE X (.Call (.Attribute o "split" apos) [e] [] cpos) (VN to te) :=
  ⟨(YY cB cA kT UW ho.to (zb he.to pa_nil hs) hbase hfew hline hs hplain).imp
    fun σ H Q ⟨nF, h, Qd, rs, rh, t, p⟩ => LE.bind rs rh t fun d v h1 H1 k1 rs1 rh1 r1 ⟨z, e, q⟩ => by
      subst e
      have ev : v = .str z := r1
      subst ev
      refine ⟨rfl, LE.bind rs1 rh1 q fun y u h2 H2 k2 rs2 rh2 r2 ⟨w, e, hy, hz, q2⟩ => ?_⟩
      subst e
      have eu : u = .str w := r2
      subst eu
      exact ⟨z, w, rfl, rfl, hy, hz, fun a ha => p (.lst a) _ _ _ ((k1.trans k2).trans (.new ha)) (rh2.newL ha (vU _)) ⟨rfl, _, jf⟩ (q2 a (rh2.free ha))⟩⟩
def Its (z:Str):It:=⟨λi _=>i<z.cps.size,λi H x H'=>H'=H/\ ∃c,z.cps[i]? =some c/\x= .str ⟨#[c]⟩,λi _=>z.cps.size<=i⟩
theorem UX {P:D2}{w:S4}{K:G2}{tg:D3}(it:G5)(z:Str)(t:Tok)(ty:T0)(hty:ty= "str_ascii_iterator" \/ty= "str_iterator"):Turn P w K tg (Its z) [it] it (λi h=>h.IsStrIter it ty z t i) where
 mem:=by simp
 obj:=λi h st b hb=>by
  have e:b=it:=by simpa using hb
  subst e;obtain⟨o,e,c,d⟩:=st;exact⟨o,e,λv z=>by rw [d] at z;cases z⟩
 keep:=λi h h' st k=>let ⟨o,e,r⟩:=st;⟨o,k it (by simp) o e,r⟩
 item:=by
  intro X hP hw hK hc i pins s σ H E I hf st hg;subst hP hw hK;obtain⟨f0,f1,f2,f3,f4,f5⟩:=hf it (by simp);have hx:z.cps[i]? =some z.cps[i]:=aV hg;have fin: ∀h',h'.IsStrIter it ty z t (i+1)->Z2 it s.heap h'-> ∃u,(some (X0 ⟨#[z.cps[i]]⟩ s.toks):G6 G1)=some u/\
   D5 (D8 X.prog X.w) X.A (E9 tg (.ref it) u) (λ_ s2=> ∃x H',Inv X pins σ H' s2/\RelV x u/\(Its z).yld i H x H'/\s2.heap.IsStrIter it ty z t (i+1)/\ ∀b∈ [it],H' b=none) E {s with heap:=h',toks:=s.toks+1}:=λh' st' sb=>by
   have I1:Inv X pins σ H {s with heap:=h',toks:=s.toks+1}:=I.turned (λb o hb e=>(sb.2 b hb).trans e) f0 f1 f3 f4 f5;obtain⟨o,e,c,d⟩:=id st';exact⟨_,rfl,Uk (s:= {s with heap:=h',toks:=s.toks+1}) e c d (by rcases hty with e|e<;>subst e<;>decide) ⟨.str ⟨#[z.cps[i]]⟩,H,I1,⟨_,rfl⟩,⟨rfl,_,hx,rfl⟩,st',λb hb=>(hf b hb).1⟩⟩
  rcases hty with e|e<;>subst e
  ·exact wpAny_pyNext_ascii_item st hx fin
  ·exact wpAny_pyNext_wide_item st hx fin
 done:=by
  intro X hP hw hK hc i pins s σ H E I hf st hg;subst hP hw hK;obtain⟨f0,f1,f2,f3,f4,f5⟩:=hf it (by simp);have hx:z.cps[i]? =none:=bY hg;have fin: ∀h',Heap.ExtBut it s.heap h'->((none:G6 G1)=none/\Inv X pins σ H {s with heap:=h'}):=λh' eb=>⟨rfl,I.turned (t':=s.toks) (λb o hb e=>eb b o hb e) f0 f1 f3 f4 f5⟩
  rcases hty with e|e<;>subst e
  ·exact wpAny_pyNext_ascii_end (I.ok.hd hc) st hx fin
  ·exact wpAny_pyNext_wide_end (I.ok.hd hc) st hx fin
 self:=λ_ _ _ _ _ st h=>by
  rcases hty with e|e<;>subst e
  ·exact wpAny_pyIter_striter_ascii st h
  ·exact wpAny_pyIter_striter_wide st h
def Cj (te:TE):TI:=λσ H R=>te σ H λx H1=> ∃z,x= .str z/\R (Its z) H1
theorem Rw {tg:D3}{te:TE}(he:PE X e te):PI X tg e (Cj te):=by
 intro pins s σ H R I h;refine thn (he pins s σ H _ I h) λv s1 ⟨x,H1,I1,r1,z,ex,q⟩=> ?_
 subst ex;obtain⟨t,rfl⟩:=r1;have fin: ∀ty,(ty= "str_ascii_iterator" \/ty= "str_iterator")->PIE X pins σ tg R (.ref s1.heap.objs.size) {s1 with heap:=s1.heap.push {cls:= .type ty,data:= .fields #[.str z t,.int 0 0]}}:=λty hty=>
  ⟨s1.heap.objs.size,[s1.heap.objs.size],_,_,H1,rfl,I1.kept (t':=s1.toks) λb o e=>G7 _ e,UX _ z t ty hty,⟨_,S5 _ rfl,rfl,rfl⟩,λb hb=>by
   have e:b=s1.heap.objs.size:=by simpa using hb
   subst e;exact I1.fpOk (P0 _) (I1.hok.fresh (P0 _)),q⟩
 by_cases c:z.cps.all (· <128)=true
 ·exact wpAny_pyIter_ascii c (fin _ (.inl rfl))
 ·exact wpAny_pyIter_wide (W4.mpr c) (fin _ (.inr rfl))
def Rx (z:Str):G0 D:=z.cps.toList.map λ(c:P4)=>D.str ⟨#[c]⟩
def iSg (te:TED):TID:=λσ h R=>te σ h λx h1=> ∃z,x= .str z/\R (λ_=>some (Rx z)) h1
theorem UY {K:G2}(H:Hp)(z:Str):QJ K H (λ_=>some (Rx z)) (Its z):=λH' h' k rh ds' e i=>by
 cases e;have hl:(Rx z).length=z.cps.size:=by unfold Rx;rw [G8,M5]
 refine⟨λd hd=> ?_,λh=>by show z.cps.size<=i;omega⟩;have hi:i<z.cps.size:=by have:=(P1.mp hd).1;omega
 refine⟨hi,λx H'' ⟨eH,c,hc,hx⟩=> ?_⟩;subst eH hx;unfold Rx at hd;rw [R4,cL,hc] at hd;cases hd;exact⟨.refl _,rh,rfl⟩
theorem XG {tg:D3}(he:JE X e te):JI X tg e (iSg te):=⟨(Rw he.to).imp λσ H R ⟨nF,h,Rd,rs,rh,q,p⟩=>
 LE.bind rs rh q λd v h1 H1 k1 rs1 rh1 r1 ⟨z,e,q1⟩=>by
  subst e;exact⟨z,r1,p _ _ _ _ k1 rh1 (UY H1 z) q1⟩⟩
def XH (to te:TED):TED:=λσ h Q=>Rv to te σ h λx h'=> ∃a,Q x (Ja h' a)
theorem XI (ho:JE X o to)(he:JE X e te)(hbase:F7 o "join" X.env (M2 o X.env)=M2 o X.env:=by rfl)
 (hfew:((M9 cpos (G9 [e] X.env)).all (λx=> !x.1)&&(aH cpos (K3 [] X.env)).all (λx=>x.1.isSome)&&decide ([e].length+([]:G0 E8).length+(if ([]:G0 E8).isEmpty then 0 else 1)<30))=true:=by rfl)
 (hline:(apos.endLine==cpos.line)=true:=by rfl)(hs:G9 [e] X.env=(false,M2 e X.env)::G9 [] X.env:=by rfl)(hplain:(M9 cpos (G9 [] X.env)).any (·.1)=false:=by rfl):
 JE X (.Call (.Attribute o "join" apos) [e] [] cpos) (XH to te):=
 ⟨(GA ho he hbase hfew hline hs hplain).to.imp λσ H Q ⟨nF,h,Qd,rs,rh,t,p⟩=>⟨nF,h,_,rs,rh,t,λd v h' H' k rh' rd ⟨a,q⟩=>p d v (Ja h' a) H' k (rh'.sub UN) rd q⟩⟩
theorem Ry {α:Type}{i:P4}{js:G0 P4}{ti:TID}{σ:SD}{h:HD}{Q:KD}{j:ItD}{z:Str}(xs:G0 α)(c:α->D)(g:α->Str)(hz:xs.length<=1000)(hw:((xs.map g).map (·.length)).sum+(xs.map g).length*z.length<=16777216)(hj:j h=some (xs.map c))(ht: ∀R:ItD->HD->Prop,R j h->ti σ h R)
 (he: ∀x∈xs,∀Q':KD,Q' (.str (g x)) h->te ((zl js σ).set i (some (c x))) h Q')(hq:Q (.str (bP z (xs.map g))) h):XH (dC (.str z)) (yJ (bN i) js ti vO te) σ h Q:=
 ⟨z,rfl,lcA xs c (λx=> .str (g x)) hz hj ht he λp hp=>⟨p,xs.map g,rfl,by rw [ja,O0];rfl,hw,p,by rw [wL hp];exact hq⟩⟩
end
end L2
namespace L2
open PySem PySem.Spec PyProof.Rows PySem.NumText
structure Pl (b:P4)(z:Str):Prop where
 len:z.length<=b
 sg: ∀c∈z.cps.toList,32<=c/\c<=126
variable {b:P4}{z:Str}
theorem Pl.mono {a:P4}(h:Pl a z)(l:a<=b):Pl b z:=⟨R8 h.len l,h.sg⟩
theorem wB (a b:Str):(a++b).cps.toList=a.cps.toList++b.cps.toList:=by rw [Str.cps_append,Y9]
theorem Pl.cat {a:P4}{x y:Str}(h:Pl a x)(g:Pl b y):Pl (a+b) (x++y):=
 ⟨by rw [Str.length_append];have:=h.len;have:=g.len;omega,λc hc=>by rw [wB] at hc;exact(R5.mp hc).elim (h.sg c) (g.sg c)⟩
theorem Pl.join {s:P4}{sep:Str}(hs:Pl s sep): ∀ {ys:G0 Str},(∀y∈ys,Pl b y)->Pl (ys.length*(b+s)) (K5 sep ys)
 | [],_=>⟨O4 _,λc hc=>by cases hc⟩
 | [x],h=>(h x P7).mono (by simp only [J5];omega)
 |x::y::r,h=>(((h x P7).cat hs).cat (Pl.join hs λz hz=>h z (D1 _ hz))).mono (by simp only [T5,fO];omega)
theorem Pl.lay (h:Pl b z):PyData.canLay0 (.str z)=true:=by
 show z.cps.all (· <0x110000)=true;rw [<-Array.all_toList,D7];exact λc hc=>T2 (by have:=(h.sg c hc).2;omega)
theorem Pl.showB (h:Pl b z):ShowB (.str z) 0 (10*b+2):=by
 refine⟨rfl,by simp [O1],R8 (StrLaws.reprText_len z λc hc=> ?_) (by have:=h.len;omega)⟩;have:=(h.sg c hc).2;exact O6 this (by decide)
variable {c:P4}
theorem WL: ∀ {a a' r r':G0 P4},c ∉ a->c ∉ a'->a++c::r=a'++c::r'->a=a'/\r=r'
 | [],[],_,_,_,_,e=>⟨rfl,by injection e⟩
 | [],x::a',_,_,_,h',e=>absurd (P2.mpr (.inl (by injection e))) h'
 |x::a,[],_,_,h,_,e=>absurd (P2.mpr (.inl (by injection e with e;exact e.symm))) h
 |x::a,y::a',r,r',h,h',e=>by
  injection e with e1 e2
  obtain⟨z1,z2⟩:=WL (λm=>h (D1 _ m)) (λm=>h' (D1 _ m)) e2;exact⟨by rw [e1,z1],z2⟩
theorem Jl {a b:Str}(h:a.cps.toList=b.cps.toList):a=b:=Str.ext' (Array.toList_inj.mp h)
theorem Jm (c:P4)(x y:Str)(r:G0 Str):(K5 ⟨#[c]⟩ (x::y::r)).cps.toList=x.cps.toList++c::(K5 ⟨#[c]⟩ (y::r)).cps.toList:=by
 show (x++⟨#[c]⟩++K5 ⟨#[c]⟩ (y::r)).cps.toList=_;rw [wB,wB];simp
theorem Zl {c:P4}: ∀ {xs ys:G0 Str},xs≠ []->ys≠ []->(∀x∈xs,c ∉ x.cps.toList)->(∀y∈ys,c ∉ y.cps.toList)->K5 ⟨#[c]⟩ xs=K5 ⟨#[c]⟩ ys->xs=ys
 | [],_,h,_,_,_,_=>absurd rfl h
 |_,[],_,h,_,_,_=>absurd rfl h
 | [x],[y],_,_,_,_,e=>by rw [show x=y from e]
 | [x],y::y'::r,_,_,h,_,e=>by
  have z:=congrArg (λs:Str=>s.cps.toList) e;simp only [Jm] at z;exact absurd (by rw [show x.cps.toList=_ from z];simp) (h x P7)
 |x::x'::r,[y],_,_,_,h,e=>by
  have z:=congrArg (λs:Str=>s.cps.toList) e;simp only [Jm] at z;exact absurd (by rw [show y.cps.toList=_ from z.symm];simp) (h y P7)
 |x::x'::r,y::y'::t,_,_,hx,hy,e=>by
  have z:=congrArg (λs:Str=>s.cps.toList) e;simp only [Jm] at z;obtain⟨z1,z2⟩:=WL (hx x P7) (hy y P7) z;rw [Jl z1,Zl (c:=c) (λz=>by cases z) (λz=>by cases z) (λw hw=>hx w (D1 _ hw)) (λw hw=>hy w (D1 _ hw)) (Jl z2)]
theorem UZ (z y:Str):S9 z y≠ []:=by
 unfold S9;split
 ·exact bQ _ _
 ·split
  ·exact bQ _ _
  ·obtain⟨p,r,e⟩:=StrLaws.partsFrom_ne z y.length 0 (H0 z y 0 z.length (z.length+1));rw [StrLaws.partsBetween_eq,e];exact bQ _ _
theorem Yp (c:P4){ys:G0 Str}(ne:ys≠ [])(hf: ∀y∈ys,c ∉ y.cps.toList):S9 (K5 ⟨#[c]⟩ ys) ⟨#[c]⟩=ys:=
 Zl (UZ _ _) ne (StrLaws.split_free _ _) hf (StrLaws.join_split _ _)
theorem Pl.part {y p:Str}(h:Pl b z)(hp:p∈S9 z y):Pl b p:=by
 refine⟨R8 (part_short hp) h.len,λc hc=>h.sg c ?_⟩;rw [<-StrLaws.join_split z y];have: ∀ {ys:G0 Str},p∈ys->c∈(K5 y ys).cps.toList:=λ{ys} hp=>by
  induction ys with
  |nil=>cases hp
  |cons a r ih=>
   cases r with
   |nil=>rw [<-R6.mp hp];exact hc
   |cons b r=>
    show c∈(a++y++K5 y (b::r)).cps.toList;rw [wB,wB];rcases P2.mp hp with e|hp
    ·subst e;exact R5.mpr (.inl (R5.mpr (.inl hc)))
    ·exact R5.mpr (.inr (ih hp))
 exact this hp
def num (n:P9):Str:=G3 (toString n)
variable {n:P9}
theorem VO (h0:0<=n):(num n).cps.toList=(kU 10 n.toNat).map Char.toNat:=by
 obtain⟨m,rfl⟩:=Int.eq_ofNat_of_zero_le h0;exact PySem.W.KIN.signs_num m
theorem ZZ (h0:0<=n):AllDigits (num n).cps.toList:=λc hc=>by
 rw [VO h0] at hc;obtain⟨ch,hch,e⟩:=T1.mp hc;rw [<-e];exact lO (Z3 (by decide) (by decide) hch)
theorem VP {k:P4}(h0:0<=n)(h1:n<2^k)(hk:0<k):(num n).length<=k+1:=by
 show (G3 (toString n)).length<=_;rw [cK];refine eO hk ?_;have h2:n.natAbs<2^k:=wP h0 h1
 by_cases z:n.natAbs=0
 ·rw [z];exact hk
 ·exact(cY z).mpr h2
theorem RA {k:P4}(h0:0<=n)(h1:n<2^k)(hk:0<k):Pl (k+1) (num n):=⟨VP h0 h1 hk,λc hc=>by have:=ZZ h0 c hc;omega⟩
def wrB (m:P4)(w:Str):B3:=(decide (1<=w.length)&&decide (w.length<=m))&&(w.cps.toList.all λc=>decide (c∈(G3 "0123456789").cps.toList))&&(decide (w= "0")|| !decide (w.cps.toList.head? =some 48))
def zV (w:Str):P9:=((digitsVal w.cps.toList:P4):P9)
theorem Bp (c:P4):c∈(G3 "0123456789").cps.toList↔48<=c/\c<=57:=by
 rw [show (G3 "0123456789").cps.toList= [48,49,50,51,52,53,54,55,56,57] from by decide +kernel];simp only [P2,T3,or_false];omega
theorem Zm {m:P4}{w:Str}(h:wrB m w=true):AllDigits w.cps.toList/\1<=w.length/\w.length<=m:=by
 unfold wrB at h;rw [R1,R1,R1] at h;obtain⟨⟨⟨a,b⟩,c⟩,_⟩:=h;exact⟨λx hx=>(Bp x).mp (M0 (D7.mp c x hx)),M0 a,M0 b⟩
theorem GB {m:P4}{w:Str}(h:wrB m w=true)(hm:m<=640):iF w=some (zV w):=by
 obtain⟨a,b,c⟩:=Zm h;refine intText_digits a (λe=> ?_) (by omega);have:w.cps.toList.length=0:=by rw [e];rfl
 rw [M5] at this;exact absurd (show w.length=0 from this) (by omega)
theorem VQ {c:P4}{r:G0 P4}{m:P4}(h:(kU 10 m).map Char.toNat=48::r):r= []:=by
 have hd:AllDigits (48::r):=λx hx=>by
  rw [<-h] at hx;obtain⟨ch,hch,e⟩:=T1.mp hx;rw [<-e];exact lO (Z3 (by decide) (by decide) hch)
 have e:=toDigits_all (48::r) hd;rw [<-h,PySem.W.KIN.val_back,h,Z0] at e;have l:=congrArg cS h;rw [G8,e] at l;cases r with
 |nil=>rfl
 |cons x r=>
  exfalso;have le:=len_dropWhile (· ==48) (x::r);simp only [X7,X9] at l;generalize (x::r).dropWhile (· ==48)=t at le l;cases t with
  |nil=>simp at l
  |cons y t=>simp at l le;omega
def zW (r:G0 P9):Str:=bP " " (r.map num)
def VR (T:G0 (G0 P9)):Str:=bP "/" (T.map zW)
theorem sp1:G3 " " =⟨#[32]⟩:=by decide +kernel
theorem sl1:G3 "/" =⟨#[47]⟩:=by decide +kernel
theorem yj (s:Str)(ys:G0 Str):bP s ys=K5 s ys:=StrLaws.glued_eq_join s ys
theorem RB {n e:P4}{T:G0 (G0 P9)}(h:Sq n e T)(he:0<e){r:G0 P9}(hr:r∈T):Pl (n*(e+2)) (zW r):=by
 have:=Pl.join (b:=e+1) (s:=1) (sep:=⟨#[32]⟩) ⟨by decide,by decide⟩ (ys:=r.map num) λy hy=>by
  obtain⟨x,hx,rfl⟩:=T1.mp hy;exact RA (h.nn r hr x hx) (h.bit r hr x hx) he
 rw [G8,h.row r hr] at this;unfold zW;rw [yj,sp1];exact this
theorem Xa (h0:0<=n){c:P4}(hc:c<48):c ∉ (num n).cps.toList:=λh=>by have:=ZZ h0 c h;omega
theorem WM {s:Str}: ∀ {ys:G0 Str},c∈(K5 s ys).cps.toList->c∈s.cps.toList\/ ∃y∈ys,c∈y.cps.toList
 | [],h=>by cases h
 | [x],h=> .inr ⟨x,P7,h⟩
 |x::y::r,h=>by
  have h:c∈(x++s++K5 s (y::r)).cps.toList:=h;rw [wB,wB] at h;rcases R5.mp h with h|h
  ·exact(R5.mp h).elim (λz=> .inr ⟨x,P7,z⟩) .inl
  ·rcases WM h with z|⟨w,hw,z⟩
   ·exact .inl z
   ·exact .inr ⟨w,D1 _ hw,z⟩
theorem VS {n e:P4}{T:G0 (G0 P9)}(h:Sq n e T)(h1:1<=n):S9 (VR T) "/" =T.map zW:=by
 unfold VR;rw [yj,sl1];refine Yp 47 (λz=> ?_) λy hy=> ?_
 ·have:=h.len;rw [dI.mp z] at this;simp at this;omega
 ·obtain⟨r,hr,rfl⟩:=T1.mp hy;intro m;unfold zW at m;rw [yj,sp1] at m;rcases WM m with z|⟨w,hw,z⟩
  ·exact absurd z (by decide)
  ·obtain⟨x,hx,rfl⟩:=T1.mp hw;exact Xa (h.nn r hr x hx) (by decide) z
end L2
namespace L2
open PySem PySem.Spec PyProof.Rows
def Ck:V->G6 P9->G6 P9->Hp->VK->Prop:=λx lo hi H Q=> ∃z,x= .str z/\z.length<=sizeLine/\Q (.str (dE z lo hi)) H
theorem RC {X:Cx}:SlR X Ck:=by
 intro pins s σ H x v vl vu lo hi sl Q I rx hs pl pu h;obtain⟨z,rfl,hz,q⟩:=h;obtain⟨t,rfl⟩:=(show ∃t,v=X0 z t from rx);refine⟨"str",_,F.slot_str_getitem.lookup,eI _ _ _,?_⟩;have e: ∀ {o:G6 P9} {u:G1},bG u o-> ∃l:G6 (P9×Tok),u=partValue l/\o=l.map (·.1):=λ{o u} p=>by
  cases p with
  |none=>exact⟨none,rfl,rfl⟩
  |int i t=>exact⟨some (i,t),rfl,rfl⟩
 obtain⟨l,rfl,rfl⟩:=e pl;obtain⟨u,rfl,rfl⟩:=e pu;exact wpAny_getItem_str_slice (l:=l) (u:=u) (st:=none) hs rfl (post_val_or_str ⟨R8 (kW z _ _) hz,λt' k=>⟨.str _,H,I.tok _,⟨_,rfl⟩,q⟩⟩)
def Cl (te:TED)(tl th:TOD):TED:=λσ h Q=>te σ h λx h1=>tl σ h1 λl h2=>th σ h2 λu h3=> ∃z,x= .str z/\z.length<=sizeLine/\Q (.str (dE z l u)) h3
theorem XJ {X : Cx} {e : D3} {te : TED} {lo hi : G6 D3} {tl th : TOD} {pos p2 : Pos} (he : JE X e te) (hl : JO X lo tl) (hu : JO X hi th) : JE X (.Subscript e (.Slice lo hi none p2) pos) (Cl te tl th) :=
  ⟨(Wq RC he.to hl.to hu.to).imp fun σ H Q ⟨nF, h, Qd, rs, rh, q, p⟩ =>
    LE.bind rs rh q fun d v h1 H1 k1 rs1 rh1 r1 q1 => LO.bind rs1 rh1 q1 fun l h2 H2 k2 rs2 rh2 q2 => LO.bind rs2 rh2 q2 fun u h3 H3 k3 rs3 rh3 ⟨z, e, hz, q3⟩ => by
      subst e
      exact ⟨z, (r1.mono k2).mono k3, hz, p (.str _) _ _ _ (k1.trans (k2.trans k3)) rh3 rfl q3⟩⟩
theorem Pl.slice {b:P4}{z:Str}(h:Pl b z)(l u:G6 P9):Pl b (dE z l u):=by
 refine⟨R8 (kW z l u) h.len,λc hc=> ?_⟩;unfold dE at hc;split at hc
 ·exact h.sg c hc
 ·obtain⟨i,_,e⟩:=E5.mp hc;exact h.sg c (by rw [cR];exact Array.mem_of_getElem? e)
theorem NB {w:Str}(hd:bE w.cps.toList)(h1:1<=w.length):decide (num (zV w)=w)=(decide (w=G3 "0")|| !decide (w.cps.toList.head? =some 48)):=by
 have h0:(0:P9)<=zV w:=aQ _;have sg:=VO h0;rw [show (zV w).toNat=J8 w.cps.toList from Int.toNat_natCast _,lP _ hd] at sg;have lw:w.cps.toList.length=w.length:=M5;cases e:w.cps.toList with
 |nil=>rw [e] at lw;simp at lw;omega
 |cons c r=>
  rw [e] at sg hd;rw [gY]
  by_cases z:c=48
  ·subst z;rw [Z0] at sg;simp only [X7,X9] at sg;rw [show (!decide (some 48=some 48))=false from rfl,iT];refine decide_eq_decide.mpr ⟨λq=> ?_,λq=> ?_⟩
   ·have q2:=congrArg (λs:Str=>s.cps.toList) q;rw [VO h0,e] at q2;have:=VQ (c:=0) q2;subst this;exact Jl (by rw [e];decide +kernel)
   ·rw [q];decide +kernel
  ·rw [Z0,S6 (by rw [beq_iff_eq];exact z)] at sg;have q:num (zV w)=w:=Jl (by
    rw [sg,e,O0]
    conv=>rhs;rw [<-List.map_id (c::r)]
    refine dJ λx hx=> ?_
    have:=hd x hx;show (Char.ofNat x).toNat=x;have w:x=48\/x=49\/x=50\/x=51\/x=52\/x=53\/x=54\/x=55\/x=56\/x=57:=by omega
    rcases w with rfl|rfl|rfl|rfl|rfl|rfl|rfl|rfl|rfl|rfl<;>rfl)
   rw [T2 q,S0 (show ¬some c=some 48 from λy=>z (by injection y))];simp
end L2
namespace HT
open PySem PySem.Spec PyProof.Rows
structure OwnI (C f:G5)(bmB:G0 G1)(newId:T0)(h:S3):Prop where
 obj: ∃bm N nm q bs hdct sn sub ab col dd k0 k1 k2 k3 k5 mN,h.get? C=some (c4 nm q C N bs bm hdct sn sub ab col dd k0 k1 k2 k3 k5 newId)/\h.Ns N mN/\mN "__init__" =some (.ref f)/\OwnTail h bmB bm
 fn: ∃o,h.get? f=some o/\o.cls= .type "function"
theorem OwnI.call {prog:D2}{w:S4}{A:R0}{E:G1->G4->Prop}{s:G4}{C f:G5}{bmB:G0 G1}{B newId initId:T0}{rest:G0 G1}{Q:G1->G4->Prop}(O:OwnI C f bmB newId s.heap)(F:ExcBaseFacts B newId initId bmB)(hrest:rest.length<=sizeLine)
 (hq: ∀h' e,Heap.MadeExcOf s.heap h' e (.ref C) rest->A9 (D8 prog w) (A.under (.builtin "type.__call__" ⟨.ref C::rest,[]⟩)) (gG (.ref f) {pos:= .ref e::rest}) (λr s'=>r= .ok (.ret .none)/\Q (.ref e) s') {s with heap:=h'}):D5 (D8 prog w) A (hU (.ref C) rest) Q E s:=by
 obtain⟨⟨bm,N,nm,q,bs,hdct,sn,sub,ab,col,dd,k0,k1,k2,k3,k5,mN,hC,hn,hi,T⟩,oI,hfI,hfc⟩:=O;obtain⟨h,g,d,t,os⟩:=s;dsimp only at hC hn T hfI hq;have f1:=tc_lookup;have f2:=tc_bind (.ref C);have isT:(⟨h,g,d,t,os⟩:G4).TypeIs (.ref C) "type" :=⟨_,hC,rfl⟩;refine X2 (gX ?_);show D5 _ _ (callAny (.ref C) _) _ _ _
 wp_walk
 refine⟨rfl,?_⟩;show A9 _ _ (gG (.builtin "type.__call__") {pos:= .ref C::rest}) _ _;refine codeAny_call_builtin_at (aO _ (by decide +kernel)) entry_typeCall (wpAny_check_type_call_sub hC ?_)
 wp_walk
 refine codeAny_call_builtin_code (aO _ F.quiet) (wpAny_check_new_subT F T hC (codeAny_exc_new_subT F T hC ?_ hrest));generalize hT:h.push {cls:= .type "tuple",data:= .seq rest.toArray}=h1;have keep1: ∀b o,h.get? b=some o->h1.get? b=some o:=λb o z=>hT ▸ G7 _ z
 generalize hE:h1.push {cls:= .ref C,data:= .fields #[.ref h.objs.size,.none,.none,.none,.bool false,.none]}=h2;have keep: ∀b o,h.get? b=some o->h2.get? b=some o:=λb o z=>hE ▸ G7 _ (keep1 b o z)
 have size1:h1.objs.size=h.objs.size+1:=by rw [<-hT,cU]
 have at_e:h2.get? (h.objs.size+1)=some {cls:= .ref C,data:= .fields #[.ref h.objs.size,.none,.none,.none,.bool false,.none]}:=hE ▸ bF size1.symm rfl
 replace hq:=hq h2 (h.objs.size+1) ⟨keep,K0 (gM _),h.objs.size,at_e,K0 (P0 _),hE ▸ G7 _ (hT ▸ bF rfl rfl)⟩
 generalize h.objs.size+1=e at hq at_e ⊢;have hC2:=keep _ _ hC;have own:(N5 C::bm).contains (.ref C)=true:=N9.mpr P7;have isF:(⟨h2,g,d,t,os⟩:G4).TypeIs (.ref f) "function" :=⟨_,keep _ _ hfI,hfc⟩;dsimp only;unfold b8 kX
 wp_walk
 refine Q0 hC2 ?_;rw [own]
 wp_walk
 refine wpAny_typeLookup_tail hC2 (hn.keeps keep) (T.keeps keep) F.mroIs F.init.lookup ?_;rw [hi];dsimp only;refine O2 ?_;unfold bindSpecial
 wp_walk
 refine E6 hq λr s' ⟨z,q⟩=> ?_
 subst z
 wp_walk
 exact q
structure Own2 (h:S3)(C:G5)(bmB:G0 G1)(newId:T0)(m1 m2:Str->G6 G1):Prop where
 obj: ∃C2 N N2,(∃nm q bs sn sub ab col dd k0 k1 k2 k3 k5,h.get? C=some (c4 nm q C N bs (.ref C2::bmB) true sn sub ab col dd k0 k1 k2 k3 k5 newId))/\h.Ns N m1/\(∃nm q bs bm hd sn sub ab col dd k0 k1 k2 k3 k5 n,h.get? C2=some (c4 nm q C2 N2 bs bm hd sn sub ab col dd k0 k1 k2 k3 k5 n))/\h.Ns N2 m2
section
variable {M:Y1}{A:R0}{E:G1->G4->Prop}{s:G4}{C x:G5}{bmB:G0 G1}{B newId:T0}{m1 m2:Str->G6 G1}
theorem Own2.look {name:Str}{y:G6 G1}{Q:G6 G1->G4->Prop}(W:Own2 s.heap C bmB newId m1 m2)(hm:mroOf (.type B)=pure bmB)(hB:aG (.type B) name=pure y)(q:Q ((m1 name).or ((m2 name).or y)) s):D5 M A (aG (.ref C) name) Q E s:=by
 obtain⟨C2,N,N2,⟨nm,q1,bs,sn,sub,ab,col,dd,k0,k1,k2,k3,k5,hC⟩,hn,⟨_,_,_,_,_,_,_,_,_,_,_,_,_,_,_,_,hC2⟩,hn2⟩:=W.obj;rw [i4,hm] at hB;obtain⟨h,g,d,t,os⟩:=s;rw [i4];refine wpAny_bind (gZ hC ?_);rw [gH];refine wpAny_bind (eQ hC hn ?_);cases e1:m1 name with
 |some v=>rw [e1] at q;exact P6 q
 |none=>
  dsimp only;rw [gH];refine wpAny_bind (eQ hC2 hn2 ?_);rw [e1] at q;cases e2:m2 name with
  |some v=>rw [e2] at q;exact P6 q
  |none=>
   rw [e2] at q;dsimp only;rw [show lookupAlong bmB name=pure y from hB];exact P6 q
theorem Own2.field1 {sa owner:T0}{o:Obj}{name:Str}{v:G1}{Q:Unit->G4->Prop}{prog:D2}{w:S4}(W:Own2 s.heap C bmB newId m1 m2)(SF:StoreFacts B bmB sa owner)(n1:m1 "__setattr__" =none)(n2:m2 "__setattr__" =none)(n3:m1 name=none)(n4:m2 name=none)(hB:aG (.type B) name=pure none)
 (hx:s.heap.get? x=some o)(hc:o.cls= .ref C)(hd:o.dict=none)(hf: ∃vs,o.data= .fields vs)
 (hq: ∀h' D tk',h'.get? x=some {o with dict:=some D}->s.heap.get? D=none->h'.Ns1 D (λy=>if y=name then some v else none)->(∀b ob,b≠x->s.heap.get? b=some ob->h'.get? b=some ob)->Q () {s with heap:=h',toks:=tk'}):D5 (D8 prog w) A (mK (.ref x) name v) Q E s:=by
 obtain⟨C2,N,N2,⟨nm,q1,bs,sn,sub,ab,col,dd,k0,k1,k2,k3,k5,hC⟩,_⟩:=id W.obj;obtain⟨h,g,d,t,os⟩:=s;dsimp only at W hC hx hq;have f3:=SF.slot.bind (.ref x);unfold mK kX specialOf
 wp_walk
 rw [hc];refine W.look SF.mro SF.slot.lookup ?_;rw [n1,n2]
 wp_walk
 show A9 _ _ (gG (.builtin sa) {pos:= [.ref x,.str name t,v]}) _ _;refine K4 SF.slot.plain SF.entry ?_;have sub1:(N5 C:: .ref C2::bmB).contains (.type owner)=true:=N9.mpr (.tail _ (.tail _ (N9.mp SF.hasOwner)));unfold X8;simp only [SF.kind,SF.split];unfold b8
 wp_walk
 rw [hc];refine Q0 hC ?_;rw [sub1];have args:=SF.args (.ref x) (.str name t) v;have pass:=SF.passes (.ref x);unfold argsOk at args;rw [S6 (show ¬ ((!true)=true) by decide)];have chk: ∀ {K:Unit->G4->Prop} {u:G4} {A':R0} {E':G1->G4->Prop},K () u->D5 (D8 prog w) A' (match Q1 sa with|some sig=>Bind.checkArgs sa sig ⟨[.ref x,.str name t,v],[]⟩|x=>pure ()) K E' u:=λ{K u A' E'} k=>by
  cases hs:Q1 sa with
  |none=>exact P6 k
  |some sig=>
   rw [hs] at args;dsimp only at args ⊢;rw [args];exact P6 k
 refine chk ?_;unfold Builtin.«object.__setattr__» Builtin.ObjectAttr.storeInOwnDict;simp only [refuse_eq];generalize hS:Builtin.ObjectAttr.storeInDict=st
 wp_walk
 rw [hc];refine gZ hC ?_;rw [iG,iG,pass]
 wp_walk
 rw [hc];refine W.look SF.mro hB ?_;rw [n3,n4];obtain⟨oc,od,odt,osl⟩:=o;obtain⟨vs,hf⟩:=hf;dsimp only at hc hd hf;subst hc hd hf
 wp_walk
 have nx:x≠h.objs.size:=R7 (P5 hx);have ox:h.get? x=some {cls:= .ref C,dict:=none,data:= .fields vs,slots:=osl}:=hx;generalize hh:(h.push {cls:= .type "dict",data:= .dict #[]}).update x (λo=> {cls:=o.cls,dict:=some h.objs.size,data:=o.data,slots:=o.slots})=h2;have kx:h2.get? x=some {cls:= .ref C,dict:=some h.objs.size,data:= .fields vs,slots:=osl}:=hh ▸ W8 _ (G7 _ ox) rfl;have kD:h2.get? h.objs.size=some {cls:= .type "dict",data:= .dict #[]}:=hh ▸ (L7 _ _ nx).trans (bF rfl rfl);have ko: ∀b ob,b≠x->h.get? b=some ob->h2.get? b=some ob:=λb ob n e=>hh ▸ (L7 _ _ (C5 n)).trans (G7 _ e)
 have new:h.get? h.objs.size=none:=K0 (P0 _);have lt: ∀b ob,h.get? b=some ob->b≠h.objs.size:=λb ob e z=>by rw [z,new] at e;cases e
 generalize h.objs.size=D at*
 have nD:h2.Ns1 D λ_=>none:= .of_empty ⟨_,#[],_,kD,rfl,λe he=>absurd he (by simp),λ_=>rfl⟩
 rw [<-hS];unfold Builtin.ObjectAttr.storeInDict Builtin.ObjectAttr.newKeyGuard;refine wpAny_bind (P6 (wpAny_bind (wpAny_nsSet1 nD λh' n' same=> ?_)));obtain⟨oD,es,ep,h1,h3,h4⟩:=n'.count (Within.cons name v Within.nil);refine wpAny_bind (wpAny_lookBehind h1 (by rw [h3];exact pastItsLine_dict (R8 h4 (by rw [T5,B0,O3];omega))) ?_)
 wp_walk
 exact hq h' D _ ((same.2 x nx).trans kx) new n' λb ob n e=>(same.2 b (lt b ob e)).trans (ko b ob n e)
end
theorem VT {h:S3}{D:G5}{mA:Str->G6 G1}{name:Str}{v:G1}(n:h.Ns1 D mA)(hv:mA name=some v): ∃o,h.get? D=some o/\nsLook name o=pure (some v):=by
 obtain⟨o,es,ep,ho,hd,_,_,hm⟩:=n;refine⟨o,ho,?_⟩;have e:=(hm name).trans hv;unfold nsFind findBy at e;obtain⟨ent,h1,h2⟩:=L8.mp e;rw [nsLook_eq];unfold nsLookByArray;rw [hd];dsimp only;rw [h1,<-h2]
section
variable {A:R0}{E:G1->G4->Prop}{s:G4}{C x D:G5}{bmB:G0 G1}{B newId:T0}{m1 m2 mA:Str->G6 G1}
theorem Own2.get {o:Obj}{name:Str}{v:G1}{Q:G1->G4->Prop}{prog:D2}{w:S4}{b:B3}(W:Own2 s.heap C bmB newId m1 m2)(FB:ExcAttrBase B bmB)(g1:m1 "__getattribute__" =none)(g2:m2 "__getattribute__" =none)(g3:m1 "__getattr__" =none)(g4:m2 "__getattr__" =none)(n3:m1 name=none)(n4:m2 name=none)(hB:aG (.type B) name=pure none)
 (hx:s.heap.get? x=some o)(hc:o.cls= .ref C)(hd:o.dict=some D)(hf: ∃vs,o.data= .fields vs)(nD:s.heap.Ns1 D mA)(hv:mA name=some v)(nb: ∀id,v≠ .builtin id)(hq:Q v {s with toks:=s.toks+1}):D5 (D8 prog w) A (mG (.ref x) name b) Q E s:=by
 obtain⟨C2,N,N2,⟨nm,q1,bs,sn,sub,ab,col,dd,k0,k1,k2,k3,k5,hC⟩,_⟩:=id W.obj;obtain⟨h,g,d,t,os⟩:=s;dsimp only at W hC hx hq nD;have f3:=FB.ga.bind (.ref x);have e2:(Y0 "BaseException.__getattribute__" ==Y0 "object.__getattribute__")=false:=by decide +kernel
 have e1:(onTheHeap (N5 C)&&Y0 "BaseException.__getattribute__" ==Y0 "object.__getattribute__")=false:=by rw [e2];rfl
 have e0:(b&&onTheHeap (Y0 "BaseException.__getattribute__"))=false:=by cases b<;>rfl
 unfold mG getAttrBy
 wp_walk
 rw [hc];refine W.look FB.mro FB.ga.lookup ?_;rw [g1,g2]
 wp_walk
 refine W.look FB.mro FB.noGetattr ?_;rw [g3,g4]
 wp_walk
 show A9 _ _ (gG (.builtin "BaseException.__getattribute__") {pos:= [.ref x,.str name t]}) _ _;refine K4 FB.ga.plain cM ?_;have sub1:(N5 C:: .ref C2::bmB).contains (.type "BaseException")=true:=N9.mpr (.tail _ (.tail _ (N9.mp FB.hasBase)));have kind:builtinKind "BaseException.__getattribute__" =some .slot:=by decide +kernel
 have split:splitId "BaseException.__getattribute__" =some ("BaseException","__getattribute__"):=by decide +kernel
 unfold X8;simp only [kind,split];unfold b8
 wp_walk
 rw [hc];refine Q0 hC ?_;rw [sub1];have args:=cZ (.ref x) (.str name t);unfold argsOk at args;rw [S6 (show ¬ ((!true)=true) by decide)];have chk: ∀ {K:Unit->G4->Prop} {u:G4} {A':R0} {E':G1->G4->Prop},K () u->D5 (D8 prog w) A' (match Q1 "BaseException.__getattribute__" with|some sig=>Bind.checkArgs "BaseException.__getattribute__" sig ⟨[.ref x,.str name t],[]⟩|x=>pure ()) K E' u:=λ{K u A' E'} k=>by
  cases hs:Q1 "BaseException.__getattribute__" with
  |none=>exact P6 k
  |some sig=>
   rw [hs] at args;dsimp only at args ⊢;rw [args];exact P6 k
 refine chk ?_;unfold Builtin.«object.__getattribute__»
 wp_walk
 rw [hc];refine W.look FB.mro hB ?_;rw [n3,n4];obtain⟨oc,od,odt,osl⟩:=o;obtain⟨vs,hf⟩:=hf;dsimp only at hc hd hf;subst hc hd hf
 wp_walk
 obtain⟨oD,hD,lk⟩:=VT nD hv;refine wpAny_loadPart_at hD ?_;rw [lk];refine P6 ?_
 wp_walk
 cases v with
 |builtin id=>exact absurd rfl (nb id)
 |_=>exact P6 hq
end
theorem Yq {M:Y1}{A:R0}{E:G1->G4->Prop}{s:G4}{C:G5}{bmB:G0 G1}{newId:T0}{env:Env}{x:Sem G1}{Q:Flow->G4->Prop}(hb:bmB.contains (.type "BaseException")=true)(hh:A.handled=none)
 (h:D5 M A x (λv u=> ∃m1 m2 e o t,v= .ref e/\Own2 u.heap C bmB newId m1 m2/\u.heap.get? e=some o/\o.cls= .ref C/\o.data= .fields #[.ref t,.none,.none,.none,.bool false,.none]/\E (.ref e) u) E s):D5 M A (raiseStmt env (some x) none) Q E s:=by
 unfold raiseStmt;refine wpAny_bind (R9 h (λv u ⟨m1,m2,e,o,t,ev,W,he,hc,hd,q⟩=> ?_) λ_ _ z=>z);subst ev;obtain⟨C2,N,N2,⟨nm,q1,bs,sn,sub,ab,col,dd,k0,k1,k2,k3,k5,hC⟩,_⟩:=W.obj;have top:(N5 C:: .ref C2::bmB).contains (.type "BaseException")=true:=N9.mpr (.tail _ (.tail _ (N9.mp hb)));obtain⟨hp,g,d,tk,os⟩:=u;obtain⟨oc,od,odt,osl⟩:=o;dsimp only at hc hd hC he;subst hc hd
 wp_walk
 refine Q0 hC ?_;rw [top]
 wp_walk
 exact wpAny_raiseNew_none hh q
end HT
namespace HT
open PySem PySem.Spec PyProof.Rows PySem.W
def Mi (K:Frag)(C:G5):G6 (G5×G0 G1×T0×B3):=match K.lookup C with
 |some ⟨.type "type",_,.cls cd,sl⟩=>(match cd.mro,sl.toList with
  | .ref C'::bm,[_,_,_,_,some (.builtin n),_]=>if (C'==C&& !cd.hasDel&&nsOkIn K cd.ns)=true then some (cd.ns,bm,n,cd.hasDict) else none
  |_,_=>none)
 |_=>none
theorem RD {K:Frag}{h:S3}{C N:G5}{bm:G0 G1}{n:T0}{hd:B3}(X:K.In h)(e:Mi K C=some (N,bm,n,hd)):(∃nm q bs sn sub ab col dd k0 k1 k2 k3 k5,h.get? C=some (c4 nm q C N bs bm hd sn sub ab col dd k0 k1 k2 k3 k5 n))/\nsOkIn K N=true:=by
 unfold Mi at e;split at e
 ·rename_i dd cd sl ho;split at e
  ·rename_i C' bm' k0 k1 k2 k3 n' k5 hm hs;split at e
   ·rename_i c;simp only [R1,beq_iff_eq,fZ] at c;obtain⟨⟨e1,e2⟩,e3⟩:=c;obtain⟨nm,bs,mro,ns,qn,hd',sn,sub,ab,col,del⟩:=cd;obtain⟨l⟩:=sl;dsimp only at hm hs e2 e3 e;injection e with e
    injection e with z1 z2
    injection z2 with z2 z3
    injection z3 with z3 z4
    subst e1 hm hs e2 z1 z2 z3 z4;exact⟨⟨_,_,_,_,_,_,_,_,_,_,_,_,_,X _ _ ho⟩,e3⟩
   ·cases e
  ·cases e
 ·cases e
def Zn (K:Frag)(C f:G5)(bmB:G0 G1)(newId:T0)(ns:G0 T0):B3:=match Mi K C with
 |some (N,.ref C2::bm,n,true)=>bm==bmB&&n==newId&&nsIn K N "__init__" ==some (some (.ref f))&&tailIn K bmB (.ref C2::bm)&&(match K.lookup f with|some o=>o.cls== .type "function" |none=>false)&&(match Mi K C2 with
  |some (N2,_,_,_)=>("__setattr__" :: "__getattribute__" :: "__getattr__" ::ns).all λx=>nsIn K N x==some none&&nsIn K N2 x==some none
  |none=>false)
 |_=>false
theorem RE {K:Frag}{h:S3}{N:G5}{m:Str->G6 G1}{n:Str}{v:G1}(X:K.In h)(G:h.Ns N m)(e:nsIn K N n=some (some v)):m n=some v:=by
 obtain⟨o,es,ep,ho,hd,_,hf⟩:=G;unfold nsIn at e;cases z:K.lookup N with
 |none=>rw [z] at e;cases e
 |some o'=>
  have w:=(X _ _ z).symm.trans ho;injection w with w
  subst w;obtain⟨c,d,t,sl⟩:=o';cases hd;rw [z] at e;dsimp only at e;cases y:es.toList.find? (·.key.isStr n) with
  |none=>rw [y] at e;dsimp only at e;split at e<;>cases e
  |some en=>
   rw [y] at e;cases e;rw [<-hf n];exact(congrArg (Option.map (·.val)) ((dY ..).symm.trans y))
theorem Jn {K:Frag}{h:S3}{C f:G5}{bmB:G0 G1}{newId:T0}(X:K.In h){ns:G0 T0}(q:Zn K C f bmB newId ns=true):OwnI C f bmB newId h/\ ∃N N2,Own2 h C bmB newId (h.nsMap N) (h.nsMap N2)/\(∀x,nsIn K N x=some none->h.nsMap N x=none)/\(∀x,nsIn K N2 x=some none->h.nsMap N2 x=none)/\ ∀x∈ "__setattr__" :: "__getattribute__" :: "__getattr__" ::ns,h.nsMap N (G3 x)=none/\h.nsMap N2 (G3 x)=none:=by
 unfold Zn at q;split at q
 ·rename_i N C2 bm n e1;simp only [R1,beq_iff_eq] at q;obtain⟨⟨⟨⟨⟨rfl,rfl⟩,hi⟩,ht⟩,hf⟩,hu⟩:=q;obtain⟨⟨nm,q1,bs,sn,sub,ab,col,dd,k0,k1,k2,k3,k5,hC⟩,ok⟩:=RD X e1;split at hu
  ·rename_i N2 b2 n2 d2 e2;obtain⟨⟨nm',q1',bs',sn',sub',ab',col',dd',k0',k1',k2',k3',k5',hC2⟩,ok2⟩:=RD X e2;split at hf
   ·rename_i o ho;have w1:=λx (z:nsIn K N x=some none)=>nsMap_none_of_in X ok z
    have w2:=λx (z:nsIn K N2 x=some none)=>nsMap_none_of_in X ok2 z
    refine⟨⟨⟨_,N,nm,q1,bs,_,sn,sub,ab,col,dd,k0,k1,k2,k3,k5,_,hC,.of_isNs (isNs_of_in X ok),?_,tail_of_in X ht⟩,o,X _ _ ho,beq_iff_eq.mp hf⟩,N,N2,⟨C2,N,N2,⟨nm,q1,bs,sn,sub,ab,col,dd,k0,k1,k2,k3,k5,hC⟩,.of_isNs (isNs_of_in X ok),⟨_,_,_,_,_,_,_,_,_,_,_,_,_,_,_,_,hC2⟩,.of_isNs (isNs_of_in X ok2)⟩,w1,w2,λx hx=> ?_⟩
    ·exact RE X (.of_isNs (isNs_of_in X ok)) hi
    ·have:=D7.mp hu x hx;simp only [R1,beq_iff_eq] at this;exact⟨w1 x this.1,w2 x this.2⟩
   ·cases hf
  ·cases hu
 ·cases q
end HT
namespace L2
open PySem PySem.Spec PyProof.Rows PySem.W HT
def ExO (e C:G5)(vs0:B7 G1)(dx:G6 G5):HO:= .ext λh=> ∃o,h.get? e=some o/\o.cls= .ref C/\o.data= .fields vs0/\o.dict=dx
variable {P:D2}{w:S4}{H:Hp}{h:S3}{e:G5}
theorem XL {C:G5}{vs0:B7 G1}{dx:G6 G5}{o:Obj}(q:h.get? e=some o)(c:o.cls= .ref C)(d:o.data= .fields vs0)(x:o.dict=dx):ObjOk P w H h e (ExO e C vs0 dx):=
 ⟨⟨o,q,c,d,x⟩,⟨o,q⟩,λh1 h2 ⟨o,q,r⟩ k=>⟨o,k _ q,r⟩⟩
def XdO (dx:G5)(fs:G0 (Str×V)):HO:= .ext λh=> ∃mA,h.Ns1 dx mA/\ ∀f,RelO (fs.lookup f) (mA f)
theorem RF {dx:G5}{fs:G0 (Str×V)}{mA:Str->G6 G1}(n:h.Ns1 dx mA)(r: ∀f,RelO (fs.lookup f) (mA f)):ObjOk P w H h dx (XdO dx fs):=
 ⟨⟨mA,n,r⟩,(let ⟨o,_,_,q,_⟩:=n;⟨o,q⟩),λh1 h2 ⟨mA,n,r⟩ k=>⟨mA,n.at k,r⟩⟩
def fdV (fs:G0 (Str×P9)):G0 (Str×V):=fs.map λp=>(p.1,V.int p.2)
theorem VU {f g:Str}{n:P9}:(fdV [(f,n)]).lookup g=if g=f then some (V.int n) else none:=by
 show (match g==f with|true=>some (V.int n)|false=>none)=_
 by_cases z:g=f
 ·rw [S2 z,z];simp
 ·rw [S6 z,beq_eq_false_iff_ne.mpr z]
theorem RG {fs ex:G0 G5}{h':S3}{dx:G5}{oe od:HO}(he: ∃φ,H e=some (.ext φ))(hd:h.get? dx=none\/ ∃g,H dx=some (.xd g))(hn:H dx=none\/ ∃g,H dx=some (.xd g))(k: ∀b o,b≠e->b≠dx->h.get? b=some o->h'.get? b=some o)(ke: ∃o,h'.get? e=some o)(kd: ∃o,h'.get? dx=some o):Un fs ex H (upd (upd H e oe) dx od) h h':=by
 obtain⟨φ,he⟩:=he;have nf: ∀b o,h.get? b=some o->H b=none->b≠e/\b≠dx:=λb o q n=>by
  refine⟨λz=> ?_,λz=> ?_⟩
  ·rw [z,he] at n;cases n
  ·subst z;rcases hd with z|⟨g,z⟩
   ·rw [z] at q;cases q
   ·rw [z] at n;cases n
 have same: ∀b u,H b=some u->(∀φ,u≠ .ext φ)->(∀g,u≠ .xd g)->upd (upd H e oe) dx od b=some u:=λb u q n1 n2=>by
  rw [jd,jd];exact q
  ·intro z;subst z;rw [he] at q;cases q;exact n1 _ rfl
  ·intro z;subst z;rcases hn with y|⟨g,y⟩
   ·rw [y] at q;cases q
   ·rw [y] at q;cases q;exact n2 _ rfl
 refine⟨λb o q n _ _=>k b o (nf b o q n).1 (nf b o q n).2 q,λb o q n _ _=>⟨o.slots,k b o (nf b o q n).1 (nf b o q n).2 q⟩,λb o q n _=> ?_,λb o q _=> ?_,λb xs q=>same b _ q (λ_ z=>(nomatch z)) (λ_ z=>(nomatch z)),λb o u q=>same b _ q (λ_ z=>(nomatch z)) (λ_ z=>(nomatch z)),λb ps q=>⟨#[],by rw [same b _ q (λ_ z=>(nomatch z)) (λ_ z=>(nomatch z))];simp⟩⟩
 ·rw [jd (nf b o q n).2,jd (nf b o q n).1];exact n
 ·by_cases z:b=e
  ·subst z;exact ke
  ·by_cases y:b=dx
   ·subst y;exact kd
   ·exact⟨o,k b o z y q⟩
structure IniK (K:Frag)(C f:G5)(ns:G0 T0):Prop where
 ini:Zn K C f bmV "ValueError.__new__" ns=true
 kp:keepIn K (.ref C)=true
def vC (n:Str):Prop:=aG (.type "ValueError") n=pure none
section
variable {X:Cx}{pins:G0 (G5×Obj)}{σ:St}{H:Hp}{s:G4}{C f e:G5}{ns:G0 T0}
theorem IniK.two (k:IniK X.K C f ns)(I:Inv X pins σ H s): ∃m1 m2,Own2 s.heap C bmV "ValueError.__new__" m1 m2/\ ∀x∈ "__setattr__" :: "__getattribute__" :: "__getattr__" ::ns,m1 (G3 x)=none/\m2 (G3 x)=none:=by
 obtain⟨_,N,N2,W,_,_,q⟩:=Jn I.kIn k.ini;exact⟨_,_,W,q⟩
theorem NC {x:T0}{n:P9}{u:G1}{vs0:B7 G1}{Q:Unit->G4->Prop}{A:R0}{E:G1->G4->Prop}(k:IniK X.K C f ns)(hx:x∈ns)(hB:vC (G3 x))(I:Inv X pins σ H s)(he:H e=some (ExO e C vs0 none))(ru:RelV (.int n) u)
 (q: ∀dx s',H dx=none->dx≠e->Inv X pins σ (upd (upd H e (ExO e C vs0 (some dx))) dx (XdO dx (fdV [(G3 x,n)]))) s'->Q () s'):D5 (D8 X.prog X.w) A (mK (.ref e) (G3 x) u) Q E s:=by
 obtain⟨m1,m2,W,nn⟩:=k.two I;obtain⟨⟨o,ho,hc,hd,hdd⟩,_⟩:=(show (∃o,s.heap.get? e=some o/\o.cls= .ref C/\o.data= .fields vs0/\o.dict=none)/\_ from I.hok e _ he);have hxm:x∈ "__setattr__" :: "__getattribute__" :: "__getattr__" ::ns:= .tail _ (.tail _ (.tail _ hx));refine W.field1 i5 (nn "__setattr__" (.head _)).1 (nn "__setattr__" (.head _)).2 (nn x hxm).1 (nn x hxm).2 hB ho hc hdd ⟨vs0,hd⟩ λh' D tk' ge gD nD kb=> ?_
 have hDe:D≠e:=λz=>by subst z;rw [gD] at ho;cases ho
 have hHD:H D=none:=by
  cases z:H D with
  |none=>rfl
  |some w=>obtain⟨o',e'⟩:=(I.hok D w z).there;rw [gD] at e';cases e'
 have un:Un X.fs [] H (upd (upd H e (ExO e C vs0 (some D))) D (XdO D (fdV [(G3 x,n)]))) s.heap h':=RG ⟨_,he⟩ (.inl gD) (.inl hHD) (λb o' n1 _ q'=>kb b o' n1 q') ⟨_,ge⟩ (let ⟨o',_,_,z,_⟩:=nD;⟨o',z⟩);refine q D _ hHD hDe (I.un (h':=h') (t':=tk') un λb w hb=> ?_)
 by_cases z:b=D
 ·subst z;rw [jf] at hb;cases hb;refine RF nD λg=> ?_
  rw [VU]
  by_cases y:g=G3 x
  ·rw [S2 y,S2 y];exact ru
  ·rw [S6 y,S6 y];exact K1
 rw [jd z] at hb
 by_cases y:b=e
 ·subst y;rw [jf] at hb;cases hb;exact XL ge hc hd rfl
 rw [jd y] at hb;have ne: ∀c v,H c=some v->(∀φ,v≠ .ext φ)->c≠e/\c≠D:=λc v hc' nx=>⟨λz=>by subst z;rw [he] at hc';cases hc';exact nx _ rfl,λz=>by subst z;rw [hHD] at hc';cases hc'⟩
 refine(I.hok b w hb).stay (λc u hc' g=> ?_) (λc hc'=> ?_) λc xs hc'=> ?_
 ·rcases hc' with rfl|hc'
  ·exact kb _ _ y g
  ·exact kb _ _ (ne c _ hc' λ_ z=>(nomatch z)).1 g
 ·have:=ne c _ hc' (λ_ z=>(nomatch z));rw [jd this.2,jd this.1];exact hc'
 ·have:=ne c _ hc' (λ_ z=>(nomatch z));rw [jd this.2,jd this.1];exact hc'
def sXa (C:G5)(i:P4)(x:T0):TS:=λD σ H=> ∃e n vs0,σ[0]? =some (some (.ref e))/\σ[i]? =some (some (.int n))/\H e=some (ExO e C vs0 none)/\ ∀dx,H dx=none->dx≠e->D.nx σ (upd (upd H e (ExO e C vs0 (some dx))) dx (XdO dx (fdV [(G3 x,n)])))
theorem ND {i:P4}{x y:T0}{p1 p2 p3 p4:Pos}(k:IniK X.K C f ns)(hx:x∈ns)(hB:vC (G3 x))(h0:X.N[0]? =some (G3 "self"))(v0:Vis X.env.scope (G3 "self"))(hi:X.N[i]? =some (G3 y))(vi:Vis X.env.scope (G3 y))(d1:(G3 y==("__debug__" :Str))=false)(d2:(G3 y==("__classdict__" :Str))=false)
 (hs:E1 (.Name (G3 y) p3) (some (.Attribute (.Name (G3 "self") p1) (G3 x) p2)) p4.line X.env=pure false:=by rfl):PS X (.Assign [.Attribute (.Name (G3 "self") p1) (G3 x) p2] (.Name (G3 y) p3) p4) (sXa C i x):=by
 intro pins s σ H D I ⟨e,n,vs0,q0,qi,he,q⟩;refine plainObj_wpAny_Assign_Attribute (thn (YF hi vi d1 d2 pins s σ H (λv H'=>v= .int n/\H'=H) I ⟨_,qi,rfl,rfl⟩) λu s1 ⟨v,H1,I1,rv,e1,e2⟩=>thn (YF h0 v0 (by decide) (by decide) pins s1 σ H1 (λv H'=>v= .ref e/\H'=H) I1 ⟨_,q0,rfl,e2⟩) λov s2 ⟨v2,H2,I2,rx,e3,e4⟩=> ?_) hs;subst e1 e3 e4;obtain rfl:ov=N5 e:=rx;exact NC k hx hB I2 he rv λdx s' n1 n2 I3=>⟨σ,_,I3,q dx n1 n2⟩
end
def spI (C:G5)(ns:G0 T0):Sp:=λvs H Q _=> ∃e,∃vs0:B7 G1,∃ms:G0 P9,vs= .ref e::ms.map V.int/\ms.length=ns.length/\H e=some (ExO e C vs0 none)/\ ∀dx,H dx=none->dx≠e->Q .non (upd (upd H e (ExO e C vs0 (some dx))) dx (XdO dx (fdV ((ns.map G3).zip ms))))
section
variable {P:D2}{w:S4}{K:G2}{mg:Str->G6 G1}{base:S3}{C f fI:G5}{fd:D6}{st:M4}{q:Str}{n:P4}
theorem NE {x:T0}{p1 p2 p3 p4:Pos}(k:IniK K C fI [x])(F:Fun K "__init__" q st f fd)(S:FnScope [G3 "self",G3 x] [G3 "self",G3 x] (jb st))(hb:jy st= [.Assign [.Attribute (.Name (G3 "self") p1) (G3 x) p2] (.Name (G3 x) p3) p4])
 (l0:(jb st).names.lookup (G3 "self")=some .local)(l1:(jb st).names.lookup (G3 x)=some .local)(hB:vC (G3 x))(d1:(G3 x==("__debug__" :Str))=false)(d2:(G3 x==("__classdict__" :Str))=false):
 FnOk P w K mg base CX0 (n+1) f fd [G3 "self",G3 x] (spI C [x]):=by
 refine F.ok S (λvs H Q E ⟨e,vs0,ms,h,hl,_⟩=>by rw [h];simp [hl]) λcdv A outer s H vs Q E hr ⟨e,vs0,ms,h,hl,he,hq⟩=> ?_
 match ms,hl with
 | [m],_=>
  subst h;rw [hb];exact⟨_,YH (ND (i:=1) k (.head _) hB rfl (.inl l0) rfl (.inl l1) d1 d2),e,m,vs0,rfl,rfl,he,λdx n1 n2=>hq dx n1 n2⟩
end
def Bq (x:Str)(ns:G0 T0)(ta:TAD):TXD:=λσ h R=>ta σ h λds h1=> ∃ms:G0 P9,ds=ms.map D.int/\ms.length=ns.length/\R ⟨x,(ns.map G3).zip ms⟩ h1
theorem VW {K:Frag}: ∀ {ms:G0 P9} {vs:G0 V},RelDs K H (ms.map D.int) vs->vs=ms.map V.int
 | [],_,r=>r
 |m::ms,vs,r=>by
  obtain⟨v,l,e,h1,h2⟩:=(show ∃v l,vs=v::l/\RelD K H (.int m) v/\RelDs K H (ms.map D.int) l from r);subst e;rw [show v= .int m from h1,VW h2];rfl
theorem Inv.letgo {X:Cx}{pins:G0 (G5×Obj)}{σ:St}{H1:Hp}{s:G4}{dx C:G5}{vs0:B7 G1}{fs:G0 (Str×V)}(I:Inv X pins σ H s)(hH:H=upd (upd H1 e (ExO e C vs0 (some dx))) dx (XdO dx fs))(n1:H1 e=none)(n2:H1 dx=none)(hne:dx≠e):
 ∃oD,Inv X pins σ (upd H1 dx (.frz oD (.xd fs))) s:=by
 have he:H e=some (ExO e C vs0 (some dx)):=by rw [hH,jd (C5 hne),jf]
 have hd:H dx=some (XdO dx fs):=by rw [hH,jf]
 have hb: ∀b,b≠e->b≠dx->H b=H1 b:=λb a c=>by rw [hH,jd c,jd a]
 obtain⟨mA,nD,rA⟩:=(show ∃mA,s.heap.Ns1 dx mA/\ ∀f,RelO (fs.lookup f) (mA f) from (I.hok dx _ hd).1);obtain⟨oD,_,_,gD,_⟩:=id nD;have same: ∀b u,H b=some u->(∀φ,u≠ .ext φ)->upd H1 dx (.frz oD (.xd fs)) b=some u:=λb u q n=>by
  have a:b≠e:=λz=>by subst z;rw [he] at q;cases q;exact n _ rfl
  have c:b≠dx:=λz=>by subst z;rw [hd] at q;cases q;exact n _ rfl
  rw [jd c,<-hb b a c];exact q
 have free: ∀b,H b=none->upd H1 dx (.frz oD (.xd fs)) b=none:=λb q=>by
  have c:b≠dx:=λz=>by subst z;rw [hd] at q;cases q
  have a:b≠e:=λz=>by subst z;rw [he] at q;cases q
  rw [jd c,<-hb b a c];exact q
 refine⟨oD,I.un (h':=s.heap) (t':=s.toks) ⟨λb o q _ _ _=>q,λb o q _ _ _=>⟨o.slots,q⟩,λb o _ n _=>free b n,λb o q _=>⟨o,q⟩,λb xs q=>same b _ q (λ_ z=>(nomatch z)),λb o u q=>same b _ q (λ_ z=>(nomatch z)),λb ps q=>⟨#[],by rw [same b _ q (λ_ z=>(nomatch z))];simp⟩⟩ λb u q=> ?_⟩
 by_cases c:b=dx
 ·subst c;rw [jf] at q;cases q;exact⟨gD,mA,nD,rA⟩
 ·rw [jd c] at q;have a:b≠e:=λz=>by subst z;rw [n1] at q;cases q
  exact(I.hok b u (by rw [hb b a c];exact q)).stay (λ_ _ _ z=>z) (λb' q'=>same b' _ q' (λ_ z=>(nomatch z))) λb' xs q'=>same b' _ q' (λ_ z=>(nomatch z))
theorem RH {fs ex:G0 G5}{h':S3}{o:HO}(k: ∀b u,h.get? b=some u->h'.get? b=some u)(g:h.get? e=none)(n:H e=none):Un fs ex H (upd H e o) h h':=by
 have ne: ∀ {b u},H b=some u->upd H e o b=some u:=λ{b u} q=>by rw [jd (je q n)];exact q
 refine⟨λb u q _ _ _=>k b u q,λb u q _ _ _=>⟨u.slots,k b u q⟩,λb u q n' _=> ?_,λb u q _=>⟨u,k b u q⟩,λb xs q=>ne q,λb u v q=>ne q,λb ps q=>⟨#[],by rw [ne q];simp⟩⟩;rw [jd (λz=>by subst z;rw [g] at q;cases q)];exact n'
theorem GC {h':S3}{o:HO}(ok:HOk P w H h)(k: ∀b u,h.get? b=some u->h'.get? b=some u)(n:H e=none)(q:ObjOk P w (upd H e o) h' e o):HOk P w (upd H e o) h':=λb u z=>by
 by_cases y:b=e
 ·subst y;rw [jf] at z;cases z;exact q
 ·rw [jd y] at z;exact(ok b u z).stay (λc v _ q=>k c v q) (λc q=>by rw [jd (je q n)];exact q) λc xs q=>by rw [jd (je q n)];exact q
section
variable {X:Cx}{e:D3}{es:G0 D3}{rest:G0 M4}{ta:TAD}{np cpos pos:Pos}
theorem VX {k:P4}{x:Str}{C f fI:G5}{fd:D6}{ps:G0 Str}{ns:G0 T0}(hg:Gl X x)(hm:X.mg x=some (.ref C))(I0:IniK X.K C fI ns)(hz:ns.length<=100)(F:FnOk X.prog X.w X.K X.mg X.base CX0 k fI fd ps (spI C ns))(hb:Binds X.K fd ps [])(hr:Room (k+1) X.A)(hcalm:X.calm=true)(ha:JA X (e::es) ta)(hdb:(x==("__debug__" :Str))=false:=by decide)
 (he:G9 (e::es) X.env=(false,M2 e X.env)::G9 es X.env:=by rfl)(hpl:(M9 cpos (G9 es X.env)).any (·.1)=false:=by rfl):
 JX X (.Raise (some (.Call (.Name x np) (e::es) [] cpos)) none pos::rest) (Bq x ns ta):=⟨λE Z pins s σ H nF h R I rs rh ht w=>by
 refine F0 (R9 (?_:D5 _ _ _ (λ_ _=>False) _ _) (λ_ _ z=>z.elim) λ_ _ z=>z);rw [arm_exec_Raise];have key:D5 (D8 X.prog X.w) X.A (M2 (.Call (.Name x np) (e::es) [] cpos) X.env) (λv u=> ∃m1 m2 e o t,v= .ref e/\Own2 u.heap C bmV "ValueError.__new__" m1 m2/\u.heap.get? e=some o/\o.cls= .ref C/\o.data= .fields #[.ref t,.none,.none,.none,.bool false,.none]/\X.xe (.ref e) u) X.xe s:=by
  refine F1 (ya I hg hm ?_ hdb);refine U8 (h₀:=X.base) I.ok.mod.kin I0.kp (thn (ha.to cpos pins s σ H (λvs H1=> ∃ds h1,Kept H H1/\RelH X.K h1 H1/\RelDs X.K H1 ds vs/\ ∃ms:G0 P9,ds=ms.map D.int/\ms.length=ns.length/\R ⟨x,(ns.map G3).zip ms⟩ h1) I
   ⟨nF,h,_,rs,rh,ht,λds vs h' H' kp rh' r q=>⟨ds,h',kp,rh',r,q⟩⟩) λus s1 ⟨vs,H1,I1,rv,ds,h1,kp,rh1,rd,ms,e1,hl,hR⟩=>⟨I1.kIn,?_⟩) he hpl
  subst e1;have ev:=VW rd;subst ev;obtain⟨O,_⟩:=Jn I1.kIn I0.ini;have hlen:us.length<=sizeLine:=by
   have e2:=rv.length;rw [G8] at e2;rw [O3];omega
  have hs0: ∀b,s1.heap.get? b=none->X.s₀.heap.get? b=none:=λb nb=>by
   cases q:X.s₀.heap.get? b with
   |none=>rfl
   |some o=>obtain⟨o',e'⟩:=I1.base.there b o q (by rw [Z.ex];simp);rw [nb] at e';cases e'
  refine O.call iH hlen λh' e hme=> ?_
  obtain⟨t,ge,_,_⟩:=hme.there;have n1:H1 e=none:=by
   cases z:H1 e with
   |none=>rfl
   |some u=>obtain⟨o',e'⟩:=(I1.hok e u z).there;rw [hme.new] at e';cases e'
  generalize hvs:(#[.ref t,.none,.none,.none,.bool false,.none]:B7 G1)=vs0 at ge;have I2:Inv X pins σ (upd H1 e (ExO e C vs0 none)) {s1 with heap:=h'}:=I1.un (h':=h') (t':=s1.toks) (RH hme.keeps hme.new n1) (GC I1.hok hme.keeps n1 (XL ge rfl rfl rfl));have r2:Vals (V.ref e::ms.map V.int) (N5 e::us):= .cons rfl rv;have hsp:spI C ns (V.ref e::ms.map V.int) (upd H1 e (ExO e C vs0 none)) (λv H'=>v= .non/\ ∃dx,upd H1 e (ExO e C vs0 none) dx=none/\dx≠e/\H'=upd (upd H1 e (ExO e C vs0 (some dx))) dx (XdO dx (fdV ((ns.map G3).zip ms)))) E0:=
   ⟨e,vs0,ms,rfl,hl,jf,λdx q1 q2=>⟨rfl,dx,q1,q2,by rw [XO]⟩⟩
  have hl2:(N5 e::us).length=ps.length:=by
   have e':=r2.length;rw [F.len _ _ _ _ hsp] at e';exact e'.symm
  have bi:=hb {s1 with heap:=h'} (N5 e::us) I2.kIn (by simpa using hl2);rw [U2] at bi;refine E6 (F.run _ X.stack _ _ ⟨N5 e::us,[]⟩ (N5 e::us) _ _ E0 (hr.make C us []) (I2.env0.make C us []) bi r2 hsp) λr s' hq'=> ?_
  cases r with
  |error _=>exact hq'.elim
  |ok fl=>
   cases fl with
   |next=>exact hq'.elim
   |brk=>exact hq'.elim
   |cont=>exact hq'.elim
   |ret u=>
    obtain⟨v,H',I3,rv',ev,dx,q1,q2,eH⟩:=I2.after hq';subst ev;obtain rfl:u=Z6:=rv';have n2:H1 dx=none:=by rw [jd q2] at q1;exact q1
    obtain⟨oD,I4⟩:=I3.letgo eH n1 n2 q2;obtain⟨⟨o,go,hc,hd,hdd⟩,_⟩:=(show (∃o,s'.heap.get? e=some o/\o.cls= .ref C/\o.data= .fields vs0/\o.dict=some dx)/\_ from I3.hok e (ExO e C vs0 (some dx)) (by rw [eH,jd (C5 q2),jf]));obtain⟨_,N,N2,W,_⟩:=Jn I4.kIn I0.ini;refine⟨rfl,_,_,e,o,t,rfl,W,go,hc,by rw [hd,<-hvs],?_⟩;have nx:upd H1 dx (.frz oD (.xd (fdV ((ns.map G3).zip ms)))) e=none:=by rw [jd (C5 q2)];exact n1
    refine Z.xe _ _ (VD (C:=C) (dx:=some dx) (a0:= .ref t) I4 Z nx (hs0 e hme.new) go hc hd (by rw [<-hvs];rfl) (by rw [<-hvs];rfl) hdd λh2 un hok fl=> ?_);exact⟨e,C,some dx,_,rfl,I4.os,I4.bare,un,hok,fl,w ⟨x,(ns.map G3).zip ms⟩ C (some dx) h1 _ (kp.trans (.new n2)) (rh1.new n2) hm hR (.inr ⟨dx,oD,rfl,jf⟩)⟩
 refine wpAny_bind (Q3 ?_);refine Yq (by decide +kernel) (I.ok.hd hcalm) (wpAny_bind (R9 key (λv u q=>wpAny_bind (Q3 (P6 q))) λ_ _ z=>z))⟩
end
def CW13:G0 (Str×Str):= [("NoTable","table"),("NoPlace","place"),("NoNumber","number"),("NoOrder","order"),("NoSet","set"),("NoWalk","walk"),("NoLengths","lengths"),("NoWay","way"),("Apart","apart"),("NoRow","row"),("NoTables","tables"),("NoText","text"),("TooGreat","great")]
def Jo (c:Str):Str:=(CW13.lookup c).getD "other"
def Pg (c:Str):G0 T0:=if c=G3 "TooGreat" then ["many","most"] else if c=G3 "NoTables" \/c=G3 "NoText" then ["at"] else []
def Xb (c:RN):B3:=CN13.contains c.nm&&(c.fs.map (·.1)==(Pg c.nm).map G3)
def Xc (c:RN):G0 D:= .str (Jo c.nm)::c.fs.map λp=>D.int p.2
theorem Jp {c:RN}(h:Xb c=true):c.nm∈CN13:=by
 unfold Xb at h;simp only [R1] at h;exact N9.mp h.1
theorem GD {x:G5}{o:HO}{dx dx':G6 G5}{fs:G0 (Str×P9)}(f:FldH H dx fs)(q:dx=none\/dx'=dx)(n:H x=none):FldH (upd H x o) dx' fs:=f.imp id λ⟨D,oD,e,h⟩=>by
 subst e;refine⟨D,oD,q.elim (λz=>(nomatch z)) id,?_⟩;rw [jd (je h n)];exact h
def Jq (P:D2)(w:S4)(K:G2)(mg:Str->G6 G1)(base:S3)(n:P4):G4->Sp:=λs vs H Q _=>
 ∃ (f:G5) (o:Obj) (qual:Str) (pm cv ctv:G1) (cl:G0 (Str×G5)) (q:Str) (N:G0 Str) (σ:St) (scope:N0) (body:D3) (h:HD) (Qd:KD),vs= [.ref f]/\s.heap.get? f=some o/\o.data= .func (kla_fn "<lambda>" qual vA body scope cl pm cv ctv)/\CodeF H cv q/\H f=none/\LamOk scope/\Cap N σ scope cl s.heap H/\RelH K h H/\Xt K H Qd Q/\
 ((∃QT:VK,(∀ (A':R0) (outer':G0 Env) (s':G4) (E':XK),Room n (A'.deeper (envX q scope s'.heap.objs.size f cv cl))-> ∃t,PE (cxL CX0 P w K mg base N q scope f cv cl A' outer' s' H E') body t/\t σ H QT)/\
  ∀v H',QT v H'-> ∃d h',Kept H H'/\RelH K h' H'/\RelD K H' d v/\Qd (.tup [.str "told",d]) h')\/
  (∃RT:G5->G6 G5->Hp->Prop,(∀ (A':R0) (outer':G0 Env) (s':G4),Room n (A'.deeper (envX q scope s'.heap.objs.size f cv cl))-> ∀pins s2,Inv (cxL (CXR P w) P w K mg base N q scope f cv cl A' outer' s' H (λc dx H'=> ∃C,c= .ref C/\RT C dx H')) pins σ H s2->
   D5 (D8 P w) (A'.deeper (envX q scope s'.heap.objs.size f cv cl)) (M2 body (envX q scope s'.heap.objs.size f cv cl)) (λ_ _=>False) (cxL (CXR P w) P w K mg base N q scope f cv cl A' outer' s' H (λc dx H'=> ∃C,c= .ref C/\RT C dx H')).xe s2)/\
   ∀C dx H',RT C dx H'-> ∃ (c:RN) (h':HD),mg c.nm=some (.ref C)/\Xb c=true/\Kept H H'/\RelH K h' H'/\FldH H' dx c.fs/\Qd (.tup (Xc c)) h'))
theorem Xd {K:G2}{mg:Str->G6 G1}{base:S3}{st:M4}{fs:G5}{fds:D6}{n:P4}{pe:G5}{p1 p2 p3 p4 p5 p6 p7 p8 p9 p10 p11:Pos}{j k:P4}{b0:M4}{suite:G0 M4}
 (F:Fun K "_law_said" "_law_said" st fs fds)(S:FnScope N1 ["_law_call"] (jb st))
 (hb:jy st= [.Try [.Assign [.Name "_law_found" p1] (.Call (.Name "_law_call" p2) [] [] p3) p4] [.ExceptHandler (some (.Name "PowerError" p5)) (some "_law_e") (b0::suite) p6] [] [] p7,.Return (some (.Tuple [.Constant (.str "told") j p8,.Name "_law_found" p9] k p10)) p11])
 (l0:(jb st).names.lookup ("_law_call" :Str)=some .local)(l1:(jb st).names.lookup ("_law_found" :Str)=some .local)(l2:(jb st).names.lookup ("_law_e" :Str)=some .local)(lp:(jb st).names.lookup ("PowerError" :Str)=some .globalImplicit)
 (hm:mg "PowerError" =some (.ref pe))(hex: ∀c∈CN13,∀C,mg c=some (.ref C)->exmOne K (.ref C) (.ref pe)=some true)(tS:TSD)
 (hsuite: ∀ (cdv:G1) (A:R0) (outer:G0 Env) (s:G4) (H:Hp) (E:XK) (x:G5),RoomU n ((A.deeper (N8 "_law_said" (jb st) s.heap.objs.size fs cdv)).mark (some (.ref x)))->JSs (cxH (yH CX0 P w K mg base N1 "_law_said" (jb st) fs cdv A outer s H E) x) (b0::suite) tS)
 (hread: ∀ (c:RN) (C:G5) (h:HD) (Qd:KD),Xb c=true->mg c.nm=some (.ref C)->Qd (.tup (Xc c)) h->tS {nx:=λ_ _=>False,rt:=λd h'=> ∃h2,Sub h2 h'/\Qd d h2} [none,none,some (.exf C c.fs),none] h):
 FnOkS P w K mg base CX0 (n+2) fs fds ["_law_call"] (Jq P w K mg base n):=by
 obtain⟨oc,od,kV,doc,pm,an,cdv,ct,osl,rfl,lk,hcd⟩:=F.ex;refine Ri lk hcd S (λs vs H Q E h=> ?_) λA outer s H vs Q E hr hsp s1 I=> ?_
 ·obtain⟨f,_,_,_,_,_,_,_,_,_,_,_,_,_,rfl,_⟩:=h;rfl
 obtain⟨f,o,qual,pmv,cv,ctv,cl,q,N,σ,scope,body,h,Qd,rfl,ho,hod,hcf,hHf,L,C,rh,post,alt⟩:=hsp;have un:=I.base;obtain⟨sl,ho1⟩:=un.any ho hHf (by intro z;cases z);have C1:Cap N σ scope cl s1.heap H:=C.step un;have hr0:Room (n+1) (A.deeper (N8 "_law_said" (jb st) s.heap.objs.size fs cdv)):=hr;rw [hb];have callee: ∀ {CX:CXT} {E':XK} {QT:VK} {t:TE} {Q2:G1->G4->Prop} {EE:G1->G4->Prop},PE (cxL CX P w K mg base N q scope f cv cl (A.deeper (N8 "_law_said" (jb st) s.heap.objs.size fs cdv)) (N8 "_law_said" (jb st) s.heap.objs.size fs cdv::outer) s1 H E') body t->t σ H QT->
  (∀r s2,CR CX (N8 "_law_said" (jb st) s.heap.objs.size fs cdv::outer) P w H s1 QT E' r s2->match r with| .ok (.ret v)=>Q2 v s2| .ok _=>False| .error e=>EE e s2)->
  D5 (D8 P w) (A.deeper (N8 "_law_said" (jb st) s.heap.objs.size fs cdv)) (M2 (.Call (.Name "_law_call" p2) [] [] p3) (N8 "_law_said" (jb st) s.heap.objs.size fs cdv)) Q2 EE s1:=by
  intro CX E' QT t Q2 EE hbt ht hk;refine F1 ?_;obtain⟨m,hn,hl⟩:=I.loc;obtain⟨u,ru,l⟩:=hl 0 "_law_call" (.ref f) rfl rfl (.inl l0);cases ru;have hmm:m "_law_call" =some (.ref f):=by
   rcases l with ⟨_,e⟩|⟨kk,_⟩
   ·exact e
   ·rcases kk with kk|kk<;>(have k':(jb st).names.lookup ("_law_call" :Str)=_:=kk;rw [l0] at k';cases k')
  refine dX (cN S.kind l0 hn hmm ?_) (by decide);refine callWith_of (P:=λh=> ∃o fd,h.get? f=some o/\o.data= .func fd) rfl VH (evalArgs_nil3 ⟨⟨_,_,ho1,hod⟩,?_⟩);exact X2 (E6 (Gk (CX:=CX) (k:=n) L hr0 I.env0 C1 ho1 hod hcf hbt ht) hk)
 refine F0 (wpAny_Try_except ?_);refine F0 (e8 ?_ rfl);rcases alt with ⟨QT,hT,hQ⟩|⟨RT,hR,hQ⟩
 ·obtain⟨t,hbt,ht⟩:=hT (A.deeper (N8 "_law_said" (jb st) s.heap.objs.size fs cdv)) (N8 "_law_said" (jb st) s.heap.objs.size fs cdv::outer) s1 E0 (hr0.deeper _);refine callee hbt ht λr s2 hq=> ?_
  cases r with
  |error e=>exact False.elim hq
  |ok fl=>
   cases fl with
   |next=>exact False.elim hq
   |brk=>exact False.elim hq
   |cont=>exact False.elim hq
   |ret u=>
    obtain⟨v,H',I2,rv,qt⟩:=I.after hq;obtain⟨d,h',kp,rh',rd,qd⟩:=hQ v H' qt;refine zH I2 (i:=1) (x:= "_law_found") S.nd rfl (.inl l1) rv (λs3 I3=> ?_) (.inr l1);refine Q9 (Q9 ?_);have hret:JSs (yH CX0 P w K mg base N1 "_law_said" (jb st) fs cdv A outer s H E) [.Return (some (.Tuple [.Constant (.str "told") j p8,.Name "_law_found" p9] k p10)) p11] (UB (Pb (jU (dC (.str "told")) (jU (Wv 1) Jb)))):=
     jO (wm (ZG (jac jR (jac (jv 1 rfl (.inl l1)) jV))))
    exact hret.to [] s3 _ H' _ I3 ⟨[none,some d,none,none],h',{nx:=λ_ _=>False,rt:=Qd},⟨rfl,λi d' e=>by
     match i,e with
     |0,e=>cases e
     |1,e=>cases e;exact⟨v,rfl,rd⟩
     |2,e=>cases e
     |3,e=>cases e
     |i+4,e=>simp at e⟩,rh',⟨_,rfl,(by show 2<=sizeLine;decide),qd⟩,λ_ _ _ _ _ _ _ z=>z.elim,jt post kp,λ_ _ _ _ _ _ _ z=>z.elim,λ_ _ _ _ _ _ _ z=>z.elim⟩
 ·refine callee (CX:=CXR P w) (E':=λc dx H'=> ∃C,c= .ref C/\RT C dx H') (QT:=λ_ _=>False) (t:=λnE H' _=>nE=σ/\H'=H)
   (λpins s2 nE H' Q' I' ⟨e1,e2⟩=> ?_) ⟨rfl,rfl⟩ λr s2 hq=> ?_
  ·subst e1;subst e2;exact R9 (hR _ _ s1 (hr0.deeper _) pins s2 I') (λ_ _ z=>z.elim) λ_ _ z=>z
  cases r with
  |ok fl=>
   cases fl with
   |next=>exact False.elim hq
   |brk=>exact False.elim hq
   |cont=>exact False.elim hq
   |ret u=>obtain⟨_,_,_,_,_,_,_,z⟩:=hq;exact z.elim
  |error e=>
   obtain⟨x,C',dx,H',rfl,os,bare,un2,hok,fl,C2,eC,rt⟩:=hq;cases eC;obtain⟨c,h',hmc,hcn,kp,rh',fh,qd⟩:=hQ C' dx H' rt;have I2:=I.call' (ch:= []) os un2 hok bare (λb z=>absurd z (by simp));have f0: ∀b,s1.heap.get? b=none->s.heap.get? b=none:=λb nb=>by
    cases qq:s.heap.get? b with
    |none=>rfl
    |some o=>obtain⟨o',e⟩:=I.base.there b o qq (by intro z;cases z);rw [nb] at e;cases e
   have fl':Fly s.heap H' s2.heap x C' dx:=by
    obtain⟨⟨oe,vs,a0,T,oT,ts,a1,a2,a3,a4,a5,a6,a7,a8,a9,a10,a11⟩,nx,n0,dc⟩:=fl;exact⟨⟨oe,vs,a0,T,oT,ts,a1,a2,a3,a4,a5,a6,a7,a8,a9,a10,f0 _ a11⟩,nx,f0 _ n0,dc⟩
   have hsu:=hsuite cdv A outer s H E x (RoomU.mark ((hr0.mono (gM n)).u));refine R9 (UT (X:=yH CX0 P w K mg base N1 "_law_said" (jb st) fs cdv A outer s H E) (σ:=zj N1 [V.ref f]) (i:=2) (n:= "_law_e") (C:=C') (t:=LS K tS) (D:= {nx:=λ_ _=>False,rt:=Q}) ⟨rfl,rfl,rfl⟩ rfl S.nd rfl l2 lp hm (hex c.nm (Jp hcn) C' hmc) I2 fl' hsu.to λoe vs hc hd hdx=> ?_) (λ_ s3 h3=>R9 h3 (λ_ s4 h4=>R9 h4 (λfl s5 h5=> ?_) λ_ _ z=>z) λ_ _ z=>z) λ_ _ z=>z
   ·refine⟨[none,none,some (.exf C' c.fs),none],h',_,⟨rfl,λi d' e=> ?_⟩,rh'.new fl'.nx,hread c C' h' Qd hcn hmc qd,λ_ _ _ _ _ _ _ z=>z.elim,λd v h2 H2 k2 rh2 rd ⟨h3,sb,q3⟩=>post d v h3 H2 ((kp.trans (.new fl'.nx)).trans k2) (rh2.sub sb) rd q3,λ_ _ _ _ _ _ _ z=>z.elim,λ_ _ _ _ _ _ _ z=>z.elim⟩
    match i,e with
    |0,e=>cases e
    |1,e=>cases e
    |3,e=>cases e
    |i+4,e=>simp at e
    |2,e=>cases e;exact⟨.ref x,rfl,x,oe,vs,rfl,jf,hc,hd,GD fh hdx fl'.nx⟩
   ·cases fl with
    |next=>obtain⟨_,_,_,z⟩:=h5;exact z.elim
    |brk=>obtain⟨_,_,_,z⟩:=h5;exact z.elim
    |cont=>obtain⟨_,_,_,z⟩:=h5;exact z.elim
    |ret u=>exact h5
def RI (tT:TED)(tR:TXD):TED:=λσ h Q=>tT σ h (λd h'=>Q (.tup [.str "told",d]) h')\/tR σ h (λc h'=>Xb c=true/\Q (.tup (Xc c)) h')
theorem RJ {X:Cx}{n:P4}{fs:G5}{fds:D6}{scope:N0}{body:D3}{lpos p pos:Pos}{tT:TED}{tR:TXD}{c P:G5}
 (F:FnOkS X.prog X.w X.K X.mg X.base CX0 (n+2) fs fds ["_law_call"] (Jq X.prog X.w X.K X.mg X.base n))(hr:Room (n+2) X.A)(hg:Gl X "_law_said")(hm:X.mg "_law_said" =some (.ref fs))(hk:keepIn X.K (.ref fs)=true)(hb:Binds X.K fds ["_law_call"] [])
 (B:Bm X.mg X.base)(hcode:X.env.code= .ref c)(hc:codeHdIn X.K c P=true)(hTK:TabK X.K P)(L:LamOk scope)(hfr:VE scope X.env)
 (hT: ∀ (q:Str) (cv:G1) (cl:G0 (Str×G5)) (f:G5) (A:R0) (outer:G0 Env) (s:G4) (H:Hp) (E:XK),Room n (A.deeper (envX q scope s.heap.objs.size f cv cl))->JE (cxL CX0 X.prog X.w X.K X.mg X.base X.N q scope f cv cl A outer s H E) body tT)
 (hR: ∀ (q:Str) (cv:G1) (cl:G0 (Str×G5)) (f:G5) (A:R0) (outer:G0 Env) (s:G4) (H:Hp) (E:XK),Room n (A.deeper (envX q scope s.heap.objs.size f cv cl))->JXE (cxL (CXR X.prog X.w) X.prog X.w X.K X.mg X.base X.N q scope f cv cl A outer s H E) body tR)
 (he:G9 [Expr.Lambda vA body scope lpos] X.env=(false,M2 (.Lambda vA body scope lpos) X.env)::G9 [] X.env:=by rfl)(hpl:(M9 pos (G9 [] X.env)).any (·.1)=false:=by rfl):
 JE X (.Call (.Name "_law_said" p) [.Lambda vA body scope lpos] [] pos) (RI tT tR):=⟨λpins s σ H Q I ⟨nF,h,Qd,rs,rh,alt,post⟩=>by
 refine F1 (ya I hg hm ?_ (by decide));refine U8 (h₀:=X.base) I.ok.mod.kin hk ?_ he hpl;rw [he];obtain⟨ps,hP,hps⟩:=rh.tb P hTK;have hcl:aJ scope X.env=pure (yB X.env.cells scope.names []):=vh λn hn=>I.ok.has n (hfr n hn)
 refine Calls.spliced_cons (UO I B hcode hc hP hps hcl λf q qual pm cv ctv H1 h1 tk I1 kp lsts tbls Pf hf hcf hHf _ _ _=>Calls.spliced_nil ⟨I1.kIn,?_⟩);have rh1:RelH X.K h H1:=⟨λa ds e=>by
  obtain⟨vs,e1,e2⟩:=rh a ds e;exact⟨vs,lsts _ _ e1 (by intro _ z;cases z),e2.mono kp⟩,λP' hP'=>by
  by_cases z:P'=P
  ·subst z;exact Pf
  ·obtain⟨ps',e1,e2⟩:=rh.tb P' hP';exact⟨ps',tbls _ _ e1 z,e2.mono kp.frz⟩,λa c e=>(rh.dc a c e).mono kp λo w=>by
  obtain⟨u,w',d⟩:=(rh.dc a c e).obj;rw [w] at w';cases w';exact lsts _ _ w d.no.2.2.2.2⟩
 have rs1:RelS X.K H1 nF σ:=rs.mono kp;refine Gr (us:= [.ref f]) (vs:= [.ref f]) (dvs:= []) (ds:= []) (E:=E0) F hr hb .nil Qm I1 (.cons rfl .nil) ?_;refine⟨f,_,qual,pm,cv,ctv,yB X.env.cells scope.names [],q,X.N,σ,scope,body,h,Qd,rfl,hf,rfl,hcf,hHf,L,Cap.of I1 hfr,rh1,jt post kp,?_⟩;rcases alt with t|t
 ·refine .inl ⟨λv H'=> ∃d h',Kept H1 H'/\RelH X.K h' H'/\RelD X.K H' d v/\Qd (.tup [.str "told",d]) h',λA' outer' s' E' hr'=>⟨_,(hT q cv _ f A' outer' s' H1 E' hr').to,nF,h,_,rs1,rh1,t,λd v h' H' k r1 r2 q=>⟨d,h',k,r1,r2,q⟩⟩,λv H' q=>q⟩
 ·refine .inr ⟨λC dx H'=> ∃ (c:RN) (h':HD),X.mg c.nm=some (.ref C)/\Xb c=true/\Kept H1 H'/\RelH X.K h' H'/\FldH H' dx c.fs/\Qd (.tup (Xc c)) h',λA' outer' s' hr' pins2 s2 I2=> ?_,λC dx H' q=>q⟩;exact(hR q cv _ f A' outer' s' H1 _ hr').to _ Rg pins2 s2 σ H1 nF h _ I2 rs1 rh1 t λc C dx h' H' k rh' hmc ⟨hcn,qq⟩ fh=>⟨C,rfl,c,h',hmc,hcn,k,rh',fh,qq⟩⟩
def RK (P:D2)(w:S4)(K:G2)(mg:Str->G6 G1)(base:S3)(n:P4):Prop:=
 ∃ (g:G5) (gd:D6),FnOkS P w K mg base CX0 (n+2) g gd ["_law_call"] (Jq P w K mg base n)/\Binds K gd ["_law_call"] []/\N4 K (.ref g)=true/\mg "_law_said" =some (.ref g)
def XM (K:Frag)(c:Str):B3:=match adr K c with
 |some C=>(match findIn K (.ref C) "__init__" with
  |some (some (.ref f))=>Zn K C f bmV "ValueError.__new__" (Pg c)&&keepIn K (.ref C)
  |_=>false)
 |none=>false
def VY (K:Frag)(c:Str):B3:=match adr K c,adr K "PowerError" with
 |some C,some pe=>Yo K C&&kitOne K (.ref C) (.type "ValueError")==some true&&exmOne K (.ref C) (.ref pe)==some true&&CN13.all λd=>match adr K d with
  |some D=>kitOne K (.ref C) (.ref D)==some (c==d)
  |none=>false
 |_,_=>false
def GE (K:Frag):B3:=Rl K&&CN13.all (VY K)&& ["NoTables","NoText","TooGreat"].all λc=>XM K (G3 c)
structure ExcF (K:Frag)(mg:Str->G6 G1):Prop extends Exc K mg where
 ek13: ∀c∈CN13,∀C,mg c=some (.ref C)->ExcK K C
 kit13: ∀c∈CN13,∀d∈CN13,∀C D,mg c=some (.ref C)->mg d=some (.ref D)->kitOne K (.ref C) (.ref D)=some (c==d)
 val13: ∀c∈CN13,∀C,mg c=some (.ref C)->kitOne K (.ref C) (.type "ValueError")=some true
 pe13: ∃pe,mg "PowerError" =some (.ref pe)/\ ∀c∈CN13,∀C,mg c=some (.ref C)->exmOne K (.ref C) (.ref pe)=some true
 ini: ∀c∈ ["NoTables","NoText","TooGreat"],∀C,mg (G3 c)=some (.ref C)-> ∃f,IniK K C f (Pg (G3 c))
theorem GF {K:Frag}{mg:Str->G6 G1}(X:K.In h)(G:h.Ns mainGlobals mg)(e:GE K=true):ExcF K mg:=by
 unfold GE at e;simp only [R1] at e;obtain⟨⟨e0,e1⟩,e4⟩:=e;have Ex:=Rn X G e0;have e3:(adr K "PowerError").isSome=true:=by
  unfold Rl at e0;simp only [R1] at e0;exact e0.1.2
 have e2: ∀d∈CN13,(adr K d).isSome=true:=by
  unfold Rl at e0;simp only [R1,D7] at e0;exact e0.1.1.2
 rw [D7] at e1;obtain⟨pe,hpe⟩:=M1.mp e3;have A: ∀c∈CN13,∃C,mg c=some (.ref C)/\Yo K C=true/\kitOne K (.ref C) (.type "ValueError")=some true/\exmOne K (.ref C) (.ref pe)=some true/\ ∀d∈CN13,∀D,adr K d=some D->kitOne K (.ref C) (.ref D)=some (c==d):=λc hc=>by
  have q:=e1 c hc;unfold VY at q;rw [hpe] at q;split at q
  ·rename_i C pe' h1 h2;cases h2;simp only [R1,D7,beq_iff_eq] at q;obtain⟨⟨⟨q2,q3⟩,q4⟩,q5⟩:=q;refine⟨C,yt X G h1,q2,q3,q4,λd hd D hD=> ?_⟩;have:=q5 d hd;rw [hD] at this;simpa using this
  ·cases q
 have same: ∀ {c:Str} {C C':G5},mg c=some (.ref C)->mg c=some (.ref C')->C=C':=λa b=>by rw [a] at b;cases b;rfl
 refine⟨Ex,λc hc C h=> ?_,λc hc d hd C D h1 h2=> ?_,λc hc C h=> ?_,⟨pe,yt X G hpe,λc hc C h=> ?_⟩,λc hc C h=> ?_⟩
 ·obtain⟨C',m,q,_⟩:=A c hc;cases same h m;exact VI q
 ·obtain⟨C',m,_,_,_,q⟩:=A c hc;cases same h1 m;obtain⟨D',hD⟩:=M1.mp (e2 d hd);cases same h2 (yt X G hD);exact q d hd D hD
 ·obtain⟨C',m,_,q,_⟩:=A c hc;cases same h m;exact q
 ·obtain⟨C',m,_,_,q,_⟩:=A c hc;cases same h m;exact q
 ·have q:=D7.mp e4 c hc;unfold XM at q;split at q
  ·rename_i C' h1;cases same h (yt X G h1);split at q
   ·rename_i f _;simp only [R1] at q;exact⟨f,q.1,q.2⟩
   ·cases q
  ·cases q
def Wa (mg:Str->G6 G1):RDn:=λds h Q=> ∃c C fs,ds= [.exf C fs]/\c∈CN13/\mg c=some (.ref C)/\ ∀h',Sub h h'->Q (.str (Jo c)) h'
def GG (K:Frag)(c:G1)(ta:TED):TED:=λσ h Q=>ta σ h λx h1=> ∃C fs b,x= .exf C fs/\ExcK K C/\kitOne K (.ref C) c=some b/\Q (.bl b) h1
section
variable {X:Cx}{a:D3}{ta:TED}{t:Str}{p p2 pos:Pos}
theorem WN {v:V}{c:G1}: ∀σ H Q,LE X.K (GG X.K c ta) σ H Q->tCB (λxs H Q=> ∃x C o b,xs= [.ref x,v]/\H x=some (.frz o (.own 0))/\o.cls= .ref C/\ExcK X.K C/\kitOne X.K (.ref C) c=some b/\Q (.bl b) H) (Uo (LE X.K ta) (Uo (tC v) Mv)) σ H Q:=
 λσ H Q ⟨nF,h,Qd,rs,rh,t,p⟩=>LE.bind rs rh t λd u h1 H1 k1 rs1 rh1 r1 ⟨C,fs,b,e,Z,k,q⟩=>by
  subst e;obtain⟨x,o,vs,e1,hx,hc,_⟩:=(show ∃x o vs,u= .ref x/\H1 x=some (.frz o (.own 0))/\o.cls= .ref C/\o.data= .fields vs/\FldH H1 o.dict fs from r1);subst e1;exact⟨x,C,o,b,rfl,hx,hc,Z,k,p (.bl b) _ _ _ k1 rh1 rfl q⟩
theorem yk {KK:Frag}{D:G5}(hg:Gl X "isinstance")(hm:X.mg "isinstance" =none)(hg2:Gl X t)(hm2:X.mg t=some (.ref D))(ha:JE X a ta)(hd:(t==("__debug__" :Str))=false:=by decide)
 (h1:G9 [a,.Name t p2] X.env=(false,M2 a X.env)::G9 [.Name t p2] X.env:=by rfl)(h2:(M9 pos (G9 [.Name t p2] X.env)).any (·.1)=false:=by rfl)(hK:X.K=KK:=by rfl):
 JE X (.Call (.Name "isinstance" p) [a,.Name t p2] [] pos) (GG KK (.ref D) ta):=
 hK ▸ ⟨(yI (vR (v:= .ref D) λu r=>r) hg hm J4 (zb ha.to (zb (ZJ (v:= .ref D) hg2 hm2 rfl hd) pa_nil (by rfl)) h1) (by decide) (by decide) h1 h2).imp WN⟩
theorem NF {KK:Frag}{T:T0}(hg:Gl X "isinstance")(hm:X.mg "isinstance" =none)(hg2:Gl X t)(hm2:X.mg t=none)(hv:B4 t=some (.type T))(ha:JE X a ta)(hn:t≠ "__name__" :=by decide)(hd:(t==("__debug__" :Str))=false:=by decide)
 (h1:G9 [a,.Name t p2] X.env=(false,M2 a X.env)::G9 [.Name t p2] X.env:=by rfl)(h2:(M9 pos (G9 [.Name t p2] X.env)).any (·.1)=false:=by rfl)(hK:X.K=KK:=by rfl):
 JE X (.Call (.Name "isinstance" p) [a,.Name t p2] [] pos) (GG KK (.type T) ta):=
 hK ▸ ⟨(yI (vR (v:= .ty T) λu r=>r) hg hm J4 (zb ha.to (zb (YG (v:= .ty T) hg2 hm2 hv rfl hn hd) pa_nil (by rfl)) h1) (by decide) (by decide) h1 h2).imp WN⟩
def GH (K:Frag)(f:T0)(ta:TED):TED:=λσ h Q=>ta σ h λx h1=> ∃C fs n fI ns,x= .exf C fs/\fs.lookup (G3 f)=some n/\IniK K C fI ns/\f∈ns/\Q (.int n) h1
theorem Xe {fs:G0 (Str×P9)}{g:Str}:(fdV fs).lookup g=(fs.lookup g).map V.int:=by
 induction fs with
 |nil=>rfl
 |cons p r ih=>
  obtain⟨a,n⟩:=p;show (match g==a with|true=>some (V.int n)|false=>(fdV r).lookup g)=(match g==a with|true=>some n|false=>r.lookup g).map V.int;cases g==a with
  |true=>rfl
  |false=>exact ih
theorem Yr {KK:Frag}{f:T0}{hB:vC (G3 f)}(ha:JE X a ta)(hb:F7 a (G3 f) X.env (M2 a X.env)=M2 a X.env:=by rfl)(hK:X.K=KK:=by rfl):JE X (.Attribute a (G3 f) pos) (GH KK f ta):=hK ▸ ⟨λpins s σ H Q I ⟨nF,h,Qd,rs,rh,t,p⟩=>by
 refine Qc hb (thn (ha.to pins s σ H (λv H1=> ∃d h1,Kept H H1/\RelH X.K h1 H1/\RelD X.K H1 d v/\ ∃C fs n fI ns,d= .exf C fs/\fs.lookup (G3 f)=some n/\IniK X.K C fI ns/\f∈ns/\Qd (.int n) h1) I ⟨nF,h,_,rs,rh,t,λd v h1 H1 k r1 r2 q=>⟨d,h1,k,r1,r2,q⟩⟩) λu s1 ⟨v,H1,I1,rv,d,h1,kp,rh1,rd,C,fs,n,fI,ns,e,hl,ik,hf,q⟩=> ?_);subst e;obtain⟨x,o,vs,e1,hx,hc,hd,fh⟩:=(show ∃x o vs,v= .ref x/\H1 x=some (.frz o (.own 0))/\o.cls= .ref C/\o.data= .fields vs/\FldH H1 o.dict fs from rd);subst e1;obtain rfl:u=N5 x:=rv;obtain⟨m1,m2,W,nn⟩:=ik.two I1;rcases fh with z|⟨D,oD,e2,hD⟩
 ·rw [z] at hl;cases hl
 obtain⟨gD,mA,nD,rA⟩:=(show s1.heap.get? D=some oD/\ ∃mA,s1.heap.Ns1 D mA/\ ∀f,RelO ((fdV fs).lookup f) (mA f) from I1.hok D _ hD);have r:=rA (G3 f);rw [Xe,hl] at r;obtain⟨u,eu,ru⟩:=RelO.some_of r;have hfm:f∈ "__setattr__" :: "__getattribute__" :: "__getattr__" ::ns:= .tail _ (.tail _ (.tail _ hf));refine W.get g5 (nn "__getattribute__" (.tail _ (.head _))).1 (nn "__getattribute__" (.tail _ (.head _))).2 (nn "__getattr__" (.tail _ (.tail _ (.head _)))).1 (nn "__getattr__" (.tail _ (.tail _ (.head _)))).2 (nn f hfm).1 (nn f hfm).2 hB (I1.hok x _ hx).1 hc e2 ⟨vs,hd⟩ nD eu (λid z=> ?_) ?_
 ·obtain⟨t,e⟩:=(show ∃t,u=Z5 n t from ru);rw [e] at z;cases z
 ·exact⟨.int n,H1,I1.tok _,ru,p (.int n) _ _ _ kp rh1 rfl q⟩⟩
end
theorem Wb:vC (G3 "at"):=by unfold vC;rw [cI,W9];kernel_rfl
theorem Zo:vC (G3 "many"):=by unfold vC;rw [cI,W9];kernel_rfl
theorem Zp:vC (G3 "most"):=by unfold vC;rw [cI,W9];kernel_rfl
def Jr (P:D2)(w:S4)(K:G2)(mg:Str->G6 G1)(base:S3)(n:P4)(c:Str)(ns:G0 T0):Prop:=
 ∃ (C fI:G5) (fd:D6) (ps:G0 Str) (k:P4),mg c=some (.ref C)/\IniK K C fI ns/\k+1<=n/\FnOk P w K mg base CX0 k fI fd ps (spI C ns)/\Binds K fd ps []
end L2
namespace L2
open PySem PySem.Spec PyProof.Rows PySem.W
def NG (ti:TID)(g:TGD)(tb:TSD)(ub:TXD):TXD:=λσ h R=>ti σ h λj h1=> ∃n:P4,∃W:P4->SD->HD->Prop,W 0 σ h1/\ ∀i nE h',W i nE h'-> ∃ds,j h'=some ds/\ds.length<=n/\i<ds.length/\
 ∀d,ds[i]? =some d->g d nE h' λnI h2=>tb {nx:=λnJ h3=> ∃h4,Sub h4 h3/\W (i+1) nJ h4,rt:=λ_ _=>False,ct:=λnJ h3=> ∃h4,Sub h4 h3/\W (i+1) nJ h4} nI h2\/ub nI h2 R
section
variable {X:Cx}{tg iter:D3}{ti:TID}{g:TGD}{tb:TSD}{ub:TXD}{body rest:G0 M4}{pos:Pos}
theorem GI (hp:c7 (D8 X.prog X.w) X.A X.env X.xe)(hc:X.calm=true)(hi:JI X tg iter ti)(hg:JG X tg g)(hb:JSs X body tb)(hu:JX X body ub)(hs: ∀x,T4 iter X.env x=pure x:=by intro _;rfl):JX X (.For tg iter body [] pos::rest) (NG ti g tb ub):=⟨λE Z pins s σ H nF h R I rs rh ht w=>by
 have hb':PSs X body (λD σ H=>LS X.K tb D σ H\/ ∃nF h R,RelS X.K H nF σ/\RelH X.K h H/\ub nF h R/\WX X E H R):=λpins s σ H D I q=>by
  rcases q with q|⟨nF,h,R,rs,rh,q,w⟩
  ·exact hb.to pins s σ H D I q
  ·exact R9 (hu.to E Z pins s σ H nF h R I rs rh q w) (λ_ _ z=>z.elim) λ_ _ z=>z
 refine F0 (thn (Xm hp hc hi.to hg.to hb' hs pins s σ H {nx:=λ_ _=>False,rt:=λ_ _=>False} I ?_) λf s1 q=> ?_)
 ·refine⟨nF,h,_,rs,rh,ht,λj J h1 H1 k1 rh1 jo ⟨n,W,w0,turn⟩=> ?_⟩;refine⟨λi m nE H'=>m=n-i/\Kept H1 H'/\ ∃nH h',RelS X.K H' nH nE/\RelH X.K h' H'/\W i nH h',⟨n-0,rfl,.refl _,nF,h1,rs.mono k1,rh1,w0⟩,?_⟩;rintro i m nE H' ⟨rfl,kp,nH,h',rs',rh',w'⟩;obtain⟨ds,ej,hn,hi,go⟩:=turn i nH h' w';have jo':=jo H' h' kp rh' ds ej i;obtain⟨g1,y1⟩:=jo'.1 ds[i] (R3 hi);refine .inr ⟨g1,λnI H2=>Kept H1 H2/\ ∃nM h2,RelS X.K H2 nM nI/\RelH X.K h2 H2/\W (i+1) nM h2,λnI H2 ⟨k2,a,b,c,d,e⟩=>⟨n-(i+1),by omega,rfl,k2,a,b,c,d,e⟩,λx H'' y=> ?_⟩;obtain⟨k2,rh2,r2⟩:=y1 x H'' y;refine⟨ds[i],nH,h',_,r2,rs'.mono k2,rh2,go ds[i] (R3 hi),λn8 h3 nJ H3 k3 rs3 rh3 q3=> ?_⟩;have kk1:Kept H1 H3:=kp.trans (k2.trans k3);rcases q3 with q3|q3
  ·exact .inl ⟨n8,h3,_,rs3,rh3,q3,λa b c d k4 rs4 rh4 ⟨h4,sb,w4⟩=>⟨kk1.trans k4,a,h4,rs4,rh4.sub sb,w4⟩,λ_ _ _ _ _ _ _ z=>z.elim,λ_ _ _ _ _ _ _ z=>z.elim,λa b c d k4 rs4 rh4 ⟨h4,sb,w4⟩=>⟨kk1.trans k4,a,h4,rs4,rh4.sub sb,w4⟩⟩
  ·exact .inr ⟨n8,h3,R,rs3,rh3,q3,w.mono (k1.trans kk1)⟩
 ·cases f with
  |next=>obtain⟨_,_,_,z⟩:=q;exact z.elim
  |brk=>obtain⟨_,_,_,z⟩:=q;exact z.elim
  |cont=>obtain⟨_,_,_,z⟩:=q;exact z.elim
  |ret u=>obtain⟨_,_,_,_,_,z⟩:=q;exact z.elim⟩
end
end L2
namespace L2
open PySem PySem.Spec PyProof.Rows PySem.W HT
theorem GJ {fs:G0 (Str×P9)}{a:Str}(h:fs.map (·.1)= [a]): ∃n,fs= [(a,n)]:=by
 match fs,h with
 | [(b,n)],h=>
  have e:b=a:=by injection h
  exact⟨n,by rw [e]⟩
theorem GK {fs:G0 (Str×P9)}{a b:Str}(h:fs.map (·.1)= [a,b]): ∃n m,fs= [(a,n),(b,m)]:=by
 match fs,h with
 | [(c,n),(d,m)],h=>
  injection h with h1 h2
  injection h2 with h2 _
  dsimp only at h1 h2;exact⟨n,m,by rw [h1,h2]⟩
theorem Ys {c:RN}(h:Xb c=true):(c.nm∈CN/\c=⟨c.nm,[]⟩)\/(∃n,c=⟨"NoTables",[("at",n)]⟩)\/(∃n,c=⟨"NoText",[("at",n)]⟩)\/ ∃a b,c=⟨"TooGreat",[("many",a),("most",b)]⟩:=by
 have hm:=Jp h;obtain⟨nm,fs⟩:=c;unfold Xb at h;simp only [R1,beq_iff_eq] at h;have h2:=h.2;dsimp only at hm h2 ⊢;have e0: ∀ {x:Str},fs.map (·.1)=(Pg x).map G3->Pg x= []->fs= []:=λe z=>by rw [z] at e;exact dI.mp e
 simp only [CN13,P2,T3,or_false] at hm;rcases hm with rfl|rfl|rfl|rfl|rfl|rfl|rfl|rfl|rfl|rfl|rfl|rfl|rfl
 all_goals first
  |(have z:=e0 h2 (by decide +kernel);subst z;exact .inl ⟨by decide,rfl⟩)
  |(obtain⟨n,e⟩:=GJ (a:= "at") (by rw [h2];decide +kernel);subst e;first|exact .inr (.inl ⟨n,rfl⟩)|exact .inr (.inr (.inl ⟨n,rfl⟩)))
  |(obtain⟨n,m,e⟩:=GK (a:= "many") (b:= "most") (by rw [h2];decide +kernel);subst e;exact .inr (.inr (.inr ⟨n,m,rfl⟩)))
structure InitIn (K:Frag)(c q:Str)(st:M4)(C f:G5)(fd:D6)(ns:G0 T0):Prop where
 at_:nsIn K mainGlobals c=some (some (.ref C))
 ik:IniK K C f ns
 fn:Fun K "__init__" q st f fd
section
variable {K:Frag}{h base:S3}{mg:Str->G6 G1}{c q:Str}{st:M4}{C f:G5}{fd:D6}{P:D2}{w:S4}{n k:P4}{ps:G0 Str}{ns:G0 T0}
theorem GL {oc:G1}{od an:G6 G5}{osl:B7 (G6 G1)}{kV doc pm cdv ct:G1}(a:nsIn K mainGlobals c=some (some (.ref C)))(b:findIn K (.ref C) "__init__" =some (some (.ref f)))(l:K.lookup f=some ⟨oc,od,.func (fnOf "__init__" q (zk st) (jy st) (jb st) .none kV doc pm an cdv ct),osl⟩)
 (cc:codeIn K cdv q=true)(k:keepIn K (.ref f)=true)(kc:keepIn K (.ref C)=true)(i:Zn K C f bmV "ValueError.__new__" ns=true):InitIn K c q st C f (fnOf "__init__" q (zk st) (jy st) (jb st) .none kV doc pm an cdv ct) ns:=⟨a,⟨i,kc⟩,Xq l cc k⟩
theorem InitIn.cal (d:InitIn K c q st C f fd ns)(l:OpenLaw)(w:S4)(base:S3)(X:K.In h)(G:h.Ns mainGlobals mg)(ok:FnOk l.prog w K mg base CX0 1 f fd ps (spI C ns))(b: ∀ (kV doc pm:G1) (an:G6 G5) (cdv ct:G1) (us:G0 G1),us.length=ps.length->fC (fnOf "__init__" q (zk st) (jy st) (jb st) .none kV doc pm an cdv ct) ⟨us,[]⟩=pure (ps.zip us))(m:P4):Jr l.prog w K mg base (m+2) c ns:=
 ⟨C,f,fd,ps,1,mg_of X G d.at_,d.ik,by omega,ok,d.fn.binds b⟩
end
section
variable {X:Cx}{e:D3}{es:G0 D3}{rest:G0 M4}{ta:TAD}{np cpos pos:Pos}{n:P4}{x:Str}{ns:G0 T0}
theorem NH (I:Jr X.prog X.w X.K X.mg X.base n x ns)(hr:Room n X.A)(ha:JA X (e::es) ta)(hz:ns.length<=100:=by decide)(hcalm:X.calm=true:=by rfl)(hg:Gl X x:=by rfl)(hdb:(x==("__debug__" :Str))=false:=by decide)
 (he:G9 (e::es) X.env=(false,M2 e X.env)::G9 es X.env:=by rfl)(hpl:(M9 cpos (G9 es X.env)).any (·.1)=false:=by rfl):
 JX X (.Raise (some (.Call (.Name x np) (e::es) [] cpos)) none pos::rest) (Bq x ns ta):=by
 obtain⟨C,fI,fd,ps,k,hm,I0,hk,F,hb⟩:=I;exact VX (f:=fI) hg hm I0 hz F hb (hr.mono hk) hcalm ha hdb he hpl
end
theorem JSs.nox {X:Cx}{b:G0 M4}{t:TSD}(h:JSs X.nox b t):JSs X b t:=⟨λpins s σ H D I hw=>
 R9 (h.to pins s σ H D (I.wish _) hw) (λ_ _ q=>q.unwish) λ_ _ z=>False.elim z⟩
theorem Xf {P:D2}{w:S4}{K:G2}{mg:Str->G6 G1}{base:S3}{N:G0 Str}{qual:Str}{scope:N0}{f:G5}{cd:G1}{A:R0}{outer:G0 Env}{s:G4}{H:Hp}{E:XK}:
 c7 (D8 P w) (yH (CXR P w) P w K mg base N qual scope f cd A outer s H E).A (yH (CXR P w) P w K mg base N qual scope f cd A outer s H E).env (yH (CXR P w) P w K mg base N qual scope f cd A outer s H E).xe:=λe s' h=>wpAny_leaving_again (.refl _) h
end L2
namespace My
open PySem L2
def top (i:P4):M4:=PySem.Challenge.pw_firstpowers_k74_tables_read.main.body.getD i (.Pass ⟨0,0,0,0⟩)
abbrev wS:M4:=Ql (top 13) 0
theorem vD:FnScope ["self","at"] ["self","at"] (jb wS):=⟨rfl,rfl,rfl,by decide +kernel,rfl,by decide +kernel,by decide +kernel⟩
abbrev zp:M4:=top 19
theorem zS:FnScope ["word","most","sign"] ["word","most"] (jb zp):=fsc
abbrev zt:M4:=top 20
theorem jm:FnScope ["text","rows","at","words","row","word"] ["text"] (jb zt):=fsc
abbrev wC:M4:=top 22
theorem Zq:FnScope ["_law_script","_law_k"] ["_law_script","_law_k"] (jb wC):=fsc
abbrev yl:M4:=top 23
theorem vn:FnScope ["_law_cell_here","_law_left"] ["_law_cell_here"] (jb yl):=fsc
abbrev wD:M4:=top 24
theorem zv:FnScope ["_law_pen_here","_law_many","_law_left","_law_found","_law_stir"] ["_law_pen_here","_law_many"] (jb wD):=fsc
abbrev wa:M4:=top 25
theorem Js:FnScope ["_law_thing"] ["_law_thing"] (jb wa):=fsc
abbrev wE:M4:=top 26
theorem jP:FnScope ["_law_e","_law_seen","_law_words"] ["_law_e"] (jb wE):=fsc
abbrev wF:M4:=top 27
theorem yz:FnScope ["_law_call","_law_found","_law_e","_law_word"] ["_law_call"] (jb wF):=fsc
abbrev ym:M4:=top 28
theorem vo:FnScope ["_law_pen_here","_law_some"] ["_law_pen_here"] (jb ym):=fsc
abbrev wG:M4:=top 29
theorem Zr:FnScope ["_law_found","_law_due"] ["_law_found","_law_due"] (jb wG):=fsc
abbrev wH:M4:=top 30
theorem Zt:FnScope ["_law_pen_here"] ["_law_pen_here"] (jb wH):=fsc
abbrev wb:M4:=top 31
theorem jr:FnScope ["_law_pen_here","_law_size_here","_law_way","_law_often","_law_most","_law_rows","_law_one","_law_row","_law_other","_law_goes"] ["_law_pen_here","_law_size_here"] (jb wb):=fsc
abbrev wI:M4:=top 32
theorem wc:FnScope ["_law_table_here","_law_row","_law_number"] ["_law_table_here"] (jb wI):=fsc
abbrev zd:M4:=top 33
theorem zF:FnScope ["_law_word","_law_most","_law_sign"] ["_law_word","_law_most"] (jb zd):=fsc
abbrev zq:M4:=top 34
theorem jH:FnScope ["_law_text_here","_law_rows","_law_found","_law_at","_law_row","_law_numbers","_law_word"] ["_law_text_here"] (jb zq):=fsc
abbrev zM:M4:=top 35
theorem jw:FnScope ["_law_pen_here","_law_text_here","_law_at","_law_sign","_law_to","_law_rows","_law_row","_law_some"] ["_law_pen_here","_law_text_here"] (jb zM):=fsc
abbrev zu:M4:=top 36
theorem zg:FnScope ["_law_thing","_law_found","_law_due","_law_turn"] ["_law_thing"] (jb zu):=fsc
abbrev Yt:M4:=top 37
theorem wT:FnScope ["_law_script","_law_some","_law_text_here","_law_cell_here","_law_pen_here","_law_things","_law_turn","_law_thing"] ["_law_script"] (jb Yt):=fsc
section
variable {P:D2}{w:S4}{K:G2}{mg:Str->G6 G1}{base:S3}
def ze:RDn:=λds h Q=> ∃w,∃m:P4,ds= [.str w,.int (m:P9)]/\w.length<=1000/\Q (.bl (wrB m w)) h
variable {n:P4}{f:G5}{fd:D6}
theorem yC (Z:Zs mg)(F:Fun K "writes_number" "writes_number" zp f fd)(vv: ∃tk,mg "FIGURES" =some (.str "0123456789" tk)):FnOk P w K mg base CX0 (n+1) f fd ["word","most"] (LSp K ze):=by
 obtain⟨tk_FIGURES,m_FIGURES⟩:=vv;refine F.okM zS (λhr=>(js2 (vS (jpt (Gd (wA (Vu UE UE jz (zm Jk rfl Z.len W3 (j1 (jv 0))) (jv 1))) (Gc (wA (zY (zm (JV rfl) rfl Z.all O7 (j1 (jl0 2 zS (XG (jv 0)) (λ_ _ _ _=>(Bi Rs (jv 2) (Ru rfl m_FIGURES) (by with_unfolding_all rfl))))))))))) (wm jbl)) (wm (jor (jc1 oq_eq (jv 0) jR) (Ge (jc1 oq_ne (Rt (jv 0) jz (λ_ _=>rfl)) jR)))))) ?_;rintro ds h Q ⟨w,m,rfl,hl,q⟩;refine⟨rfl,?_⟩;have hl':w.cps.toList.length=w.length:=M5;have line:w.length<=sizeLine:=M3 (jQ hl);refine jj (λnE h'=>nE= [some (.str w),some (.int (m:P9)),none]/\h=h'/\1<=w.length/\w.length<=m/\(w.cps.toList.all λc=>decide (c∈(G3 "0123456789").cps.toList))=true) (λC hC=>⟨_,rfl,w,rfl,line,_,rfl,Wr (λa=>⟨_,rfl,_,rfl,?_⟩) (λa=>⟨_,rfl,vx (vx ⟨h,Sub.refl h,?_⟩)⟩)⟩) ?_
 ·have a:=M0 a;show if (!decide ((w.length:P9)<=(m:P9)))=true then _ else _
  cases hb:decide ((w.length:P9)<=(m:P9)) with
  |true=>
   have b:=M0 hb;refine wu (Mh w.cps.toList (λc=> .str ⟨#[c]⟩) (λc=>decide (c∈(G3 "0123456789").cps.toList)) (by omega) rfl (λR r=>⟨_,rfl,w,rfl,r⟩) (λc hc Q' q'=>⟨_,rfl,c,rfl,q'⟩) ⟨_,rfl,?_⟩);show if (!w.cps.toList.all (λc=>decide (c∈(G3 "0123456789").cps.toList)))=true then _ else _
   cases hc:w.cps.toList.all (λc=>decide (c∈(G3 "0123456789").cps.toList)) with
   |true=>exact wu (hC _ _ ⟨rfl,rfl,by omega,by omega,hc⟩)
   |false=>exact vx ⟨h,Sub.refl h,by unfold wrB at q;rw [hc,W5,M7] at q;exact q⟩
  |false=>
   have b:=eT hb;exact vx (vx ⟨h,Sub.refl h,by unfold wrB at q;rw [S0 (p:=w.length<=m) (by omega),W5,M7,M7] at q;exact q⟩)
 ·unfold wrB at q;have a: ¬1<=w.length:=λz=>a (T2 (by omega))
  rw [S0 a,M7,M7,M7] at q;exact q
 rintro _ _ ⟨rfl,rfl,a,b,c⟩;unfold wrB at q;rw [T2 a,T2 b,c,bI,bI,bI] at q;cases e:w.cps.toList with
 |nil=>rw [e] at hl';simp at hl';omega
 |cons x r=>
  have z0:G3 "0" =⟨#[48]⟩:=by decide +kernel
  refine⟨_,rfl,_,rfl,Wr (λz=>⟨h,Sub.refl h,?_⟩) λz=>⟨_,rfl,x,line,by rw [e];exact ZM (j:=0) rfl,h,Sub.refl h,?_⟩⟩
  ·rw [z,Bool.true_or] at q;exact q
  ·rw [W4.mpr z,i1] at q;show Q (.bl (!decide ((⟨#[x]⟩:Str)=G3 "0"))) h;rw [show decide ((⟨#[x]⟩:Str)=G3 "0")=decide (w.cps.toList.head? =some 48) from by rw [e,z0,gY];simp];exact q
def jh (z:Str):G0 (G0 Str):=(S9 z "/").map λr=>S9 r " "
def Wds (h:HD)(as:G0 D)(wss:G0 (G0 Str)):Prop:=as.length=wss.length/\ ∀ (i:P4) (ws:G0 Str),wss[i]? =some ws-> ∃a,as[i]? =some (D.lst a)/\h a=some (ws.map D.str)
variable {h:HD}{as:G0 D}{wss:G0 (G0 Str)}
theorem Wds.sub {h':HD}(w:Wds h as wss)(s:Sub h h'):Wds h' as wss:=⟨w.1,λi ws e=>let ⟨a,e1,e2⟩:=w.2 i ws e;⟨a,e1,s.ls _ _ e2⟩⟩
variable {ws:G0 Str}
theorem Wds.snoc {a:G5}(w:Wds h as wss)(e:h a=some (ws.map D.str)):Wds h (as++ [.lst a]) (wss++ [ws]):=by
 refine⟨by rw [S1,S1,w.1];rfl,λi us hi=> ?_⟩
 by_cases l:i<wss.length
 ·rw [B6 l] at hi;obtain⟨b,e1,e2⟩:=w.2 i us hi;exact⟨b,by rw [B6 (by rw [w.1];exact l)];exact e1,e2⟩
 ·rw [C7 (by omega)] at hi;have hi':i=wss.length:=by
   have:=(P1.mp hi).1;simp only [J5] at this;omega
  subst hi';rw [kY] at hi;cases hi;exact⟨a,by rw [C7 (by rw [w.1];exact P0 _),w.1,kY];rfl,e⟩
theorem Wds.mem {d:D}(w:Wds h as wss)(hd:d∈as): ∃ws a,ws∈wss/\d= .lst a/\h a=some (ws.map D.str):=by
 obtain⟨i,hi,rfl⟩:=dL hd;have hw:i<wss.length:=by rw [<-w.1];exact hi
 obtain⟨a,e1,e2⟩:=w.2 i _ (R3 hw);rw [R3 hi] at e1;injection e1 with e1
 exact⟨_,a,gF hw,e1,e2⟩
def GM:D->D
 | .str w=> .int (zV w)
 |_=> .non
def Mj (h:HD):D->D
 | .lst a=>match h a with
  |some ds=> .tup (ds.map GM)
  |none=> .non
 |_=> .non
theorem VZ {a:G5}(e:h a=some (ws.map D.str)):Mj h (.lst a)=vy (ws.map zV):=by
 show (match h a with|some ds=>D.tup (ds.map GM)|none=> .non)=_;rw [e];show D.tup ((ws.map D.str).map GM)=D.tup ((ws.map zV).map D.int);rw [O0,O0];rfl
theorem Xg (w:Wds h as wss):as.map (Mj h)=(wss.map (·.map zV)).map vy:=by
 refine List.ext_getElem? λi=> ?_
 rw [R4,R4,R4];cases e:wss[i]? with
 |none=>
  have:as[i]? =none:=by rw [List.getElem?_eq_none_iff] at e ⊢;rw [w.1];exact e
  rw [this];rfl
 |some ws=>
  obtain⟨a,e1,e2⟩:=w.2 i ws e;rw [e1];show some (Mj h (.lst a))=some (vy (ws.map zV));rw [VZ e2]
variable {i:P4}{te:TED}{σ:SD}
theorem GN {js:G0 P4}{ti:TID}{Q:KD}(ds:G0 D)(V:G5->HD->Prop)(W:G5->P4->G0 D->HD->Prop)(hn:ds.length<=1000)(ht: ∀R:ItD->HD->Prop,(∀A h1,V A h1->R (λh=>h A) h1)->ti σ h R)
 (w0: ∀A h1,V A h1->W A 0 [] h1)(wl: ∀A k ys h',W A k ys h'->ys.length<=k/\h' A=some ds)(turn: ∀A k ys h' d,ds[k]? =some d->W A k ys h'->te ((zl js σ).set i (some d)) h' λy h4=> ∃h5,Sub h5 h4/\(k+1<=ds.length/\W A (k+1) (ys++ [y]) h5))
 (done: ∀A ys h',W A ds.length ys h'-> ∀p,h' p=none->Q (.lst p) (zA h' p ys)):yJ (bN i) js ti vO te σ h Q:=by
 refine ht _ λA h1 hV=>⟨ds.length,λk ys h'=>k<=ds.length/\W A k ys h',⟨O4 _,w0 A h1 hV⟩,?_⟩
 rintro k ys h' ⟨hk,w⟩;obtain⟨l,kA⟩:=wl A k ys h' w;refine⟨R8 l (M3 (jQ (by omega))),ds,kA,P0 _,λhl p hp=> ?_,λd hd=>⟨_,rfl,?_⟩⟩
 ·have:k=ds.length:=by omega
  subst this;exact done A _ _ w p hp
 ·unfold vO;dsimp only;rw [S2 rfl];exact turn A k ys h' d hd w
theorem wU (z y:Str):(S9 z y).length<=z.length+2:=by
 unfold S9;split
 ·simp
 ·split
  ·simp
  ·rw [length_partsBetween];have:=StrLaws.occ_length_le z y 0 z.length (z.length+1);omega
def wV (n:P4)(ws:G0 Str):B3:=decide (ws.length=n)&&ws.all (wrB 12)
def yD (z:Str):G6 P4:=(jh z).findIdx? λws=> !wV (jh z).length ws
def RL (z:Str):D:=Mg ((jh z).map (·.map zV))
theorem Jt (h:wV n ws=true):ws.length=n/\ ∀w∈ws,wrB 12 w=true:=by
 unfold wV at h;rw [R1,D7] at h;exact⟨M0 h.1,h.2⟩
variable {z:Str}
theorem WO (h:yD z=none): ∀ws∈jh z,wV (jh z).length ws=true:=λws hw=>by
 have:=aW.mp h ws hw;simpa using this
theorem RM (h: ∀ws∈jh z,wV (jh z).length ws=true):yD z=none:=aW.mpr λws hw=>by rw [h ws hw];rfl
theorem WP (h:yD z=some i): ∃ws,(jh z)[i]? =some ws/\wV (jh z).length ws=false/\ ∀j ws',j<i->(jh z)[j]? =some ws'->wV (jh z).length ws'=true:=by
 obtain⟨hi,g,lo⟩:=V6.mp h;refine⟨_,R3 hi,by simpa using g,λj ws' hj e=> ?_⟩;obtain⟨hj',e'⟩:=P1.mp e;have:=lo j hj;rw [e'] at this;simpa using this
theorem RO (e:(jh z)[i]? =some ws)(g:wV (jh z).length ws=false)(lo: ∀j ws',j<i->(jh z)[j]? =some ws'->wV (jh z).length ws'=true):yD z=some i:=by
 obtain⟨hi,e'⟩:=P1.mp e;refine V6.mpr ⟨hi,by rw [e',g];rfl,λj hj=> ?_⟩;rw [lo j _ hj (R3 (by omega))];simp
theorem Wc (hz:z.length<=990){a b c d e:G6 D}{h:HD}{Q:KD}(q: ∀R as h',h' R=some as->Wds h' as (jh z)->Sub h h'->Q (.lst R) h'):yJ (bN 4) [4] (iS (VN (Wv 0) (dC (.str "/")))) vO (VN (Wv 4) (dC (.str " "))) [some (.str z),a,b,c,d,e] h Q:=by
 have lr:(jh z).length=(S9 z "/").length:=G8 ..;have line:z.length+2<=sizeLine:=by rw [O3];omega
 have few:=wU z "/";refine GN ((S9 z "/").map D.str) (λA h1=>h1 A=some ((S9 z "/").map D.str)/\Sub h h1) (λA k ys h'=>Wds h' ys ((jh z).take k)/\h' A=some ((S9 z "/").map D.str)/\Sub h h') (by rw [G8];omega) (λR r=>⟨_,rfl,z,rfl,_,rfl,by decide,line,λA eA=>r A _ ⟨ja,(Sub.refl h).newAt eA⟩⟩) (λA h1 ⟨k,s⟩=>⟨⟨rfl,λi ws e=>by cases e⟩,k,s⟩) (λA k ys h' ⟨w,kA,_⟩=>⟨by rw [w.1,M8];omega,kA⟩) ?_ λA ys h' ⟨w,_,s⟩ p ep=>q p ys _ ja (by rw [G8,<-lr,gI] at w;exact w.sub (.new ep)) (s.newAt ep)
 rintro A k ys h' d hd ⟨w,kA,s⟩;rw [R4] at hd;obtain⟨r,hr,rfl⟩:=L8.mp hd;have hk:=(P1.mp hr).1;have lr':=V4 (S7 hr);refine⟨_,rfl,r,rfl,_,rfl,by decide,by omega,λB eB=>⟨_,Sub.refl _,by rw [G8];exact hk,?_,jc kA eB,s.newAt eB⟩⟩;rw [J7,show (jh z)[k]? =some (S9 r " ") from by unfold jh;rw [R4,hr];rfl];exact(w.sub (.new eB)).snoc ja
theorem Yu {v:Str}(h:ws∈jh z)(hv:v∈ws):v.length<=z.length:=by
 obtain⟨r,hr,rfl⟩:=T1.mp h;exact R8 (V4 hv) (V4 hr)
theorem Ua {k:P4}{u:TXD}{R:RN->HD->Prop}(q:te σ h (λv h1=>u (σ.set k (some v)) h1 R)):Yc {nx:=λnE h'=>Bn (UC k te) u nE h' R,rt:=λ_ _=>False} σ h:=q
def wW:RDn:=λds h Q=> ∃z,ds= [.str z]/\z.length<=990/\(jh z).length<=6/\yD z=none/\Q (RL z) h
theorem Ju (Z:Zs mg)(F:Fun K "table_read" "table_read" zt f fd)(jT:jN P w K mg base n "writes_number" ["word","most"] ze)(wJ:mg "str" =none)(jY: ∃tk,mg "MOST_ROWS" =some (.int 6 tk))(jJ: ∃tk,mg "MOST_FIGURES" =some (.int 12 tk)):FnOk P w K mg base CX0 (n+1) f fd ["text"] (LSp K wW):=by
 have m_str:=wJ;obtain⟨tk_MOST_ROWS,m_MOST_ROWS⟩:=jY;obtain⟨tk_MOST_FIGURES,m_MOST_FIGURES⟩:=jJ;refine F.okM jm (λhr=>(js5 (vS (wA (zY (Zb (T:= "str") (by decide) rfl Z.isinstance rfl m_str (by decide +kernel) (jv 0)))) vd) (WF (i:=4) (k:=1) (js:= [4]) rfl jm.nd rfl (L9 rfl) (zi (by rfl)) (zR (wR (jv 0) jR)) (by decide) rfl (by first|exact L9 rfl|exact X6 rfl) (λX' hX=>vc) (λX' hX=>by obtain⟨C,s₀,H₀,ex,rfl⟩:=hX;exact(wR (jv 4) jR))) (vS (jt1 UF (WK Z (jv 1)) (Yf rfl m_MOST_ROWS)) vd) (Gh A1 rfl (Jh rfl Z.enumerate (j1 (jv 1))) (WE (i:=2) (j:=3) rfl jm.nd rfl rfl (L9 rfl) (L9 rfl)) (jO (vS (jpt (Gd (jt1 oq_ne (WK Z (jv 3)) (WK Z (jv 1))) (Gc (wA (zY (zm (JV rfl) rfl Z.all O7 (j1 (jl0 5 jm (zR (jv 3)) (λ_ _ _ _=>(jk jT hr (j2 (jv 5) (Yf rfl m_MOST_FIGURES)))))))))))) vd))) (wm (jX JU rfl Z.tuple (by decide +kernel) (j1 (jl0 3 jm (zR (jv 1)) (λ_ _ _ _=>(jX JU rfl Z.tuple (by decide +kernel) (j1 (jl0 5 jm (zR (jv 3)) (λ_ _ _ _=>(jX ZY rfl Z.int (by decide +kernel) (j1 (jv 5)))))))))))))) ?_;rintro ds h Q ⟨z,rfl,hz,h6,bn,q⟩;refine⟨rfl,?_⟩;have gd:=λws hw=>Jt (WO bn ws hw)
 refine Zj [some (.str z),none,none,none,none,none] (λC hC=>⟨_,rfl,"str",rfl,_,rfl,wu (hC)⟩) ?_;refine jj (λnE h'=> ∃R as,nE= [some (.str z),some (.lst R),none,none,none,none]/\h' R=some as/\Wds h' as (jh z)/\Sub h h') (λC hC=>Wc hz λR as h' k w s=>hC _ _ ⟨R,as,rfl,k,w,s⟩) ?_;rintro _ h2 ⟨R,as,rfl,kR,w,sb⟩;have las:(as.length:P9)=((jh z).length:P9):=by rw [w.1]
 refine Zj [some (.str z),some (.lst R),none,none,none,none] (λC hC=>⟨_,rfl,as,kR,_,rfl,?_⟩) ?_
 ·show if decide ((as.length:P9)>6)=true then _ else _
  rw [S0 (by omega)];exact wu (hC)
 refine jj (λnE h'=> ∃a b,nE= [some (.str z),some (.lst R),a,b,none,none]/\h2=h') (λC hC=>WC (h1:=h2) (j:=λh=>(h R).map Ze) (Ze as) (λi nE h'=> ∃a b,nE= [some (.str z),some (.lst R),a,b,none,none]/\h2=h') (λR' r=>⟨_,rfl,R,rfl,r⟩) (λi nE h' ⟨_,_,_,e⟩=>by rw [<-e];show (h2 R).map Ze=_;rw [kR];rfl) ⟨none,none,rfl,rfl⟩ (λnE h' v=>hC _ _ v) ?_) ?_
 ·rintro i d _ _ hd ⟨a,b,rfl,rfl⟩;obtain⟨x,hx,rfl⟩:=yL hd;have hil:i+1<=(Ze as).length:=(P1.mp hd).1;obtain⟨ws,B,hws,rfl,kB⟩:=w.mem (S7 hx);obtain⟨g1,g2⟩:=gd ws hws;refine⟨_,_,rfl,_,rfl,_,kB,_,rfl,as,kR,_,rfl,?_⟩;show if (!decide (((ws.map D.str).length:P9)=(as.length:P9)))=true then _ else _
  rw [G8,g1,las,T2 rfl];refine wu (Mh ws D.str (wrB 12) (by omega) kB (λR r=>⟨_,rfl,r⟩) (λv hv Q' q'=>⟨_,rfl,v,12,rfl,by obtain⟨_,_,l⟩:=Zm (g2 v hv);omega,q'⟩) ⟨_,rfl,?_⟩);rw [D7.mpr g2];exact wu ⟨_,Sub.refl _,hil,_,_,rfl,rfl⟩
 rintro _ _ ⟨a,b,rfl,rfl⟩;refine Bk as (λd=>d) (Mj h2) (by rw [w.1];omega) (by rw [List.map_id'];exact kR) (λR' r=>⟨_,rfl,r⟩) (λd hd Q' q'=> ?_) ⟨h,sb,?_⟩
 ·obtain⟨ws,B,hws,rfl,kB⟩:=w.mem hd;rw [VZ kB] at q';obtain⟨g1,g2⟩:=gd ws hws;refine Bk ws D.str (λv=> .int (zV v)) (by omega) kB (λR r=>⟨_,rfl,r⟩) (λv hv Q'' q''=>⟨_,rfl,v,_,rfl,by obtain⟨_,_,l⟩:=Zm (g2 v hv);omega,GB (g2 v hv) (by decide),q''⟩) ?_;rw [show (ws.map λv=>D.int (zV v))=(ws.map zV).map D.int from by rw [O0];rfl];exact q'
 ·rw [Xg w];exact q
def wq:RDx:=λds h R=> ∃d,ds= [d]/\((∃n,yp d=some n/\QU "str" n=false/\R ⟨"NoText",[("at",-1)]⟩ h)\/ ∃z,d= .str z/\z.length<=990/\((6<(jh z).length/\ ∀h',Sub h h'->R ⟨"NoText",[("at",0)]⟩ h')\/ ∃k:P4,(jh z).length<=6/\yD z=some k/\ ∀h',Sub h h'->R ⟨"NoText",[("at",(k:P9))]⟩ h'))
theorem vE (Z:Zs mg)(Ex:ExcF K mg)(F:Fun K "table_read" "table_read" zt f fd)(jT:jN P w K mg base n "writes_number" ["word","most"] ze)(I_NoText:Jr P w K mg base n "NoText" ["at"])(wJ:mg "str" =none)(jY: ∃tk,mg "MOST_ROWS" =some (.int 6 tk))(jJ: ∃tk,mg "MOST_FIGURES" =some (.int 12 tk)):FnOk P w K mg base (CXR P w) (n+1) f fd ["text"] (Gm mg K wq):=by
 have m_str:=wJ;obtain⟨tk_MOST_ROWS,m_MOST_ROWS⟩:=jY;obtain⟨tk_MOST_FIGURES,m_MOST_FIGURES⟩:=jJ;refine F.okMX jm (λhr=>(Ro (Gn (wA (zY (Zb (T:= "str") (by decide) rfl Z.isinstance rfl m_str (by decide +kernel) (jv 0)))) (NH I_NoText hr (j1 (Nn jz)))) (Ro (vk (JS.nox (vS (wA (zY (Zb (T:= "str") (by decide) rfl Z.isinstance rfl m_str (by decide +kernel) (jv 0)))) vd)) (vk (JS.nox (WF (i:=4) (k:=1) (js:= [4]) rfl jm.nd rfl (L9 rfl) (zi (by rfl)) (zR (wR (jv 0) jR)) (by decide) rfl (by first|exact L9 rfl|exact X6 rfl) (λX' hX=>vc) (λX' hX=>by obtain⟨C,s₀,H₀,ex,rfl⟩:=hX;exact(wR (jv 4) jR)))) (Gn (jt1 UF (WK Z (jv 1)) (Yf rfl m_MOST_ROWS)) (NH I_NoText hr (j1 jz))))) (vk (JS.nox (vS (wA (zY (Zb (T:= "str") (by decide) rfl Z.isinstance rfl m_str (by decide +kernel) (jv 0)))) vd)) (vk (JS.nox (WF (i:=4) (k:=1) (js:= [4]) rfl jm.nd rfl (L9 rfl) (zi (by rfl)) (zR (wR (jv 0) jR)) (by decide) rfl (by first|exact L9 rfl|exact X6 rfl) (λX' hX=>vc) (λX' hX=>by obtain⟨C,s₀,H₀,ex,rfl⟩:=hX;exact(wR (jv 4) jR)))) (vk (JS.nox (vS (jt1 UF (WK Z (jv 1)) (Yf rfl m_MOST_ROWS)) vd)) (GI Xf rfl (Jh rfl Z.enumerate (j1 (jv 1))) (WE (i:=2) (j:=3) rfl jm.nd rfl rfl (L9 rfl) (L9 rfl)) (JSs.nox (jO (vS (jpt (Gd (jt1 oq_ne (WK Z (jv 3)) (WK Z (jv 1))) (Gc (wA (zY (zm (JV rfl) rfl Z.all O7 (j1 (jl0 5 jm (zR (jv 3)) (λ_ _ _ _=>(jk jT hr (j2 (jv 5) (Yf rfl m_MOST_FIGURES)))))))))))) vd))) (Gn (jpt (Gd (jt1 oq_ne (WK Z (jv 3)) (WK Z (jv 1))) (Gc (wA (zY (zm (JV rfl) rfl Z.all O7 (j1 (jl0 5 jm (zR (jv 3)) (λ_ _ _ _=>(jk jT hr (j2 (jv 5) (Yf rfl m_MOST_FIGURES)))))))))))) (NH I_NoText hr (j1 (jv 2))))))))))) ?_;rintro ds h R ⟨d,rfl,q⟩;refine⟨rfl,?_⟩;rcases q with ⟨n,hn,nt,q⟩|⟨z,rfl,hz,⟨big,q⟩|⟨k,h6,bad,q⟩⟩
 ·exact .inl ⟨_,rfl,n,hn,_,rfl,by rw [nt];rfl,[-1],rfl,rfl,q⟩
 ·refine .inr (.inl ⟨_,rfl,"str",rfl,_,rfl,wu (Ua (Wc hz λR as h2 kR w sb=>⟨_,rfl,as,kR,_,rfl,T2 (by rw [w.1];omega),[0],rfl,rfl,q _ sb⟩))⟩)
 ·refine .inr (.inr ⟨_,rfl,"str",rfl,_,rfl,wu (Ua (Wc hz λR as h2 kR w sb=>⟨_,rfl,as,kR,_,rfl,?_⟩))⟩);have las:(as.length:P9)=((jh z).length:P9):=by rw [w.1]
  show if decide ((as.length:P9)>6)=true then _ else _
  rw [S0 (by omega)];refine wu ⟨_,rfl,R,rfl,as.length,λi nE h'=>i<=k/\ ∃a b,nE= [some (.str z),some (.lst R),a,b,none,none]/\h2=h',⟨O4 _,none,none,rfl,rfl⟩,?_⟩;obtain⟨wsB,eB,gB,lo⟩:=WP bad;have hk:k<(jh z).length:=(P1.mp eB).1;rintro i _ _ ⟨hi,a,b,rfl,rfl⟩;refine⟨Ze as,by show (h2 R).map Ze=_;rw [kR];rfl,?_,?_,λd hd=> ?_⟩
  ·rw [zn];exact P0 _
  ·rw [zn,w.1];omega
  obtain⟨x,hx,rfl⟩:=yL hd;obtain⟨ws,hws⟩: ∃ws,(jh z)[i]? =some ws:=⟨_,R3 (show i<(jh z).length by omega)⟩;obtain⟨B,e1,kB⟩:=w.2 i ws hws;rw [hx] at e1;injection e1 with e1
  subst e1;refine⟨_,_,rfl,?_⟩
  by_cases ik:i<k
  ·obtain⟨g1,g2⟩:=Jt (lo i ws ik hws);refine .inl ⟨_,rfl,_,kB,_,rfl,as,kR,_,rfl,?_⟩;show if (!decide (((ws.map D.str).length:P9)=(as.length:P9)))=true then _ else _
   rw [G8,g1,las,T2 rfl];refine wu (Mh ws D.str (wrB 12) (by omega) kB (λR r=>⟨_,rfl,r⟩) (λv hv Q' q'=>⟨_,rfl,v,12,rfl,by obtain⟨_,_,l⟩:=Zm (g2 v hv);omega,q'⟩) ⟨_,rfl,?_⟩);rw [D7.mpr g2];exact wu ⟨_,Sub.refl _,by omega,_,_,rfl,rfl⟩
  ·have:i=k:=by omega
   subst this;rw [eB] at hws;cases hws;refine .inr ⟨_,rfl,_,kB,_,rfl,as,kR,_,rfl,?_⟩;show if (!decide (((wsB.map D.str).length:P9)=(as.length:P9)))=true then _ else _
   rw [G8,las]
   by_cases g:wsB.length=(jh z).length
   ·rw [T2 (show (wsB.length:P9)=((jh z).length:P9) by rw [g])];refine wu (Mh wsB D.str (wrB 12) (by omega) kB (λR r=>⟨_,rfl,r⟩) (λv hv Q' q'=>⟨_,rfl,v,12,rfl,?_,q'⟩) ⟨_,rfl,?_,_,rfl,[(i:P9)],rfl,rfl,q _ sb⟩)
    ·have:=Yu (S7 eB) hv;omega
    ·unfold wV at gB;rw [T2 g,bI] at gB;rw [gB];rfl
   ·rw [S0 (show ¬ (wsB.length:P9)=((jh z).length:P9) by omega)];exact vx ⟨rfl,_,rfl,[(i:P9)],rfl,rfl,q _ sb⟩
def yu:RDn:=λds h Q=> ∃ns k,ds= [.scr ns,.int k]/\0<=k/\ ∀n,Q (.int n) h
theorem Zu (Z:Zs mg)(F:Fun K "_law_cell" "_law_cell" wC f fd):FnOk P w K mg base CX0 (n+1) f fd ["_law_script","_law_k"] (LSp K yu):=by
 refine F.okM Zq (λhr=>(js2 (vS (jt1 DF (jv 1) (WK Z (jv 0))) (wm (ji1 (jv 0) (jv 1)))) (wm jz))) ?_;rintro ds h Q ⟨ns,k,rfl,h0,q⟩;refine⟨rfl,?_⟩;simp only [zQ,Pd,wM,dOp,Wv,jM,N7,K7,T5,B0,F2,L4,V5,L0,J9,dCB,jU,Jb,Md,QQ,D.bl.injEq,UB,ixD,Wy,U5,Yc,dC];refine Wr (λc=> ?_) (λ_=>⟨h,Sub.refl h,q 0⟩);have c':k<(ns.length:P9):=M0 c;have hk:k.toNat<ns.length:=by omega
 have ek:k=((k.toNat:P4):P9):=by omega
 have z:=ZM (R3 hk);rw [<-ek] at z;exact⟨ns[k.toNat],z,h,Sub.refl h,q _⟩
def vp:RDn:=λds h Q=> ∃c,ds= [.int c]/\ ∀p l fl,h p=none->0<=l->(fl=0\/fl=1)->Q (.lst p) (zA h p [.int l,.int fl])
theorem Wd (Z:Zs mg)(F:Fun K "_law_pen" "_law_pen" yl f fd):FnOk P w K mg base CX0 (n+1) f fd ["_law_cell_here"] (LSp K vp):=by
 refine F.okM vn (λhr=>(js2 (jse 1 vn (zm (DJ rfl) rfl Z.max (by decide +kernel) (j2 (jv 0) (jop Xw jz (jv 0))))) (wm (yq (j2 (jv 1) (jX Xy rfl Z.int (by decide +kernel) (j1 (jc1 DG (jv 1) (jop Vg jz jz))))))))) ?_;rintro ds h Q ⟨c,rfl,q⟩;refine⟨rfl,?_⟩;simp only [zQ,UC,dCB,jU,Wv,jM,N7,K7,T5,B0,D9,F2,L4,L0,J9,dOp,dC,Be,Jb,Nc,UB,Pc,eU,eZ,V5,MZ,QQ,Nb,Wy,U5];refine⟨⟨by decide,by decide,by decide⟩,by decide,λp hp=>⟨_,Sub.refl _,q p _ _ hp ?_ ?_⟩⟩
 ·split<;>omega
 ·split<;>simp<;>omega
def za:RDn:=λds h Q=> ∃p l fl m,ds= [.lst p,.int m]/\h p=some [.int l,.int fl]/\0<=l/\0<m/\m<1073741824/\ ∀r l',0<=r->r<m->0<=l'->Q (.int r) (zA h p [.int l',.int fl])
theorem Zv (Z:Zs mg)(F:Fun K "_law_draw" "_law_draw" wD f fd):FnOk P w K mg base CX0 (n+1) f fd ["_law_pen_here","_law_many"] (LSp K za):=by
 refine F.okM zv (λhr=>(js5 (Mf (jt1 oq_eq (ji1 (jv 0) jz) jz) (js3 (Nj (zm Vk rfl Z.divmod (by decide +kernel) (j2 (ji1 (jv 0) jz) (jv 1))) (WE (i:=2) (j:=3) rfl zv.nd rfl rfl (L9 rfl) (L9 rfl))) (Nj (jv 2) (XC (jv 0) jz)) (wm (jv 3))) WD) (jse 4 zv (jop va (jop Jg (jop jG (jop va (ji1 (jv 0) jz) jz) jz) jz) jz)) (jse 4 zv (jop va (jop jG (jop Jg (jv 4) (jv 4)) jz) jz)) (Nj (jop va (jop jG (jop Jg (jv 4) jz) jz) jz) (XC (jv 0) jz)) (wm (jop va (jop QR (ji1 (jv 0) jz) jz) (jv 1))))) ?_;rintro ds h Q ⟨p,l,fl,m,rfl,hp,h0,hm,hm2,q⟩;refine⟨rfl,?_⟩;refine Zj [some (.lst p),some (.int m),none,none,none] (λC hC=>⟨_,rfl,_,_,hp,rfl,?_⟩) ?_
 ·show ∃k,D.bl (decide (fl=1))= .bl k/\_;refine⟨_,rfl,Wr (λ_=> ?_) λ_=>hC⟩;exact⟨_,rfl,_,_,hp,rfl,_,rfl,⟨hm,hm2⟩,_,_,rfl,_,rfl,_,rfl,p,0,_,0,rfl,rfl,hp,rfl,_,rfl,_,Sub.refl _,q (l%m) (l / m) (Y7 _ (kZ hm)) (aR _ hm) (Int.ediv_nonneg h0 (Int.le_of_lt hm))⟩
 refine jj (λnE h'=> ∃z:P9,nE= [some (.lst p),some (.int m),none,none,some (.int z)]/\(0<=z/\z<2147483629)/\h=h') (λC hC=>⟨_,rfl,_,_,hp,rfl,by decide,.inr ⟨by decide,by decide⟩,by decide,hC _ _ ⟨_,rfl,⟨Y7 _ (by decide),aR _ (by decide)⟩,rfl⟩⟩) ?_;rintro _ _ ⟨z,rfl,⟨z0,z1⟩,rfl⟩;refine jj (λnE h'=> ∃y:P9,nE= [some (.lst p),some (.int m),none,none,some (.int y)]/\h=h') (λC hC=>⟨_,rfl,_,rfl,.inl ⟨aS (by decide) z0,Int.lt_trans z1 (by decide)⟩,by decide,hC _ _ ⟨_,rfl,rfl⟩⟩) ?_;rintro _ _ ⟨y,rfl,rfl⟩;refine jj (λnE h'=> ∃x:P9,nE= [some (.lst p),some (.int m),none,none,some (.int y)]/\0<=x/\h'=zA h p [.int x,.int fl]) (λC hC=>⟨_,rfl,.inr ⟨by decide,by decide⟩,by decide,_,rfl,p,0,_,0,rfl,rfl,hp,rfl,hC _ _ ⟨_,rfl,Y7 _ (by decide),rfl⟩⟩) ?_;rintro _ _ ⟨x,rfl,x0,rfl⟩;exact⟨_,rfl,_,_,ja,rfl,⟨by decide,by decide⟩,_,rfl,hm,_,Sub.refl _,q (x / 32%m) x (Y7 _ (kZ hm)) (aR _ hm) x0⟩
/-- no def is asked of the script's list: a thing -/
def RQ:D->B3
 | .int _=>true
 |_=>false
/-! every part has a kind that is told,and no tuple is long -/
/-- a table -/
def zN:RDn:=λds h Q=> ∃d n,ds= [d]/\yp d=some n/\Q (.bl (RQ d)) h
theorem vF (Z:Zs mg)(Ex:ExcF K mg)(F:Fun K "_law_whole" "_law_whole" wa f fd):FnOkU P w K mg base CX0 (n+1) f fd ["_law_thing"] (LSp K zN):=by
 refine F.okJU Js (λds h Q q=>by obtain⟨d,nm,e,hn,q⟩:=q;subst e;rfl) _ (λcdv A outer s H E hr=>(jO (wm (Me (Zb (T:= "int") (by decide) rfl Z.isinstance rfl Z.int (by decide +kernel) (jv 0)) (Ge (BX (Zb (T:= "bool") (by decide) rfl Z.isinstance rfl Z.bool (by decide +kernel) (jv 0)))))))) ?_;intro ds h Q q;obtain⟨d,nm,e,hn,q⟩:=q;subst e;simp only [UB,Ux,dIs,Wv,jM,N7,K7,T5,B0,F2,L4,L0,J9,D.bl.injEq,Uy,Wy,U5,hn];cases d<;>cases hn<;>exact⟨h,Sub.refl h,q⟩
def Yv (c:Str)(n:P4):G0 D:=((CN13.map λd=>c==d).take n).map D.bl
def Xh (c:Str):G0 B9:=(CN13.map λd=>c==d).map gO
def wordsD:G0 D:=(["table","place","number","order","set","walk","lengths","way","apart","row","tables","text","great"]:G0 Str).map D.str
theorem Ub: ∀bs:G0 B3,ToPs h (bs.map D.bl) (bs.map gO)
 | []=>rfl
 |b::bs=>⟨_,_,rfl,rfl,Ub bs⟩
theorem jE {l:G0 B3}{j:P4}(h:(l.take j).all (!·)=true){m:P4}{y:B9}(hm:m<j)(e:(l.map gO)[m]? =some y):T6 y (.bool true)=false:=by
 rw [R4] at e;obtain⟨b,e1,rfl⟩:=L8.mp e;have:=D7.mp h b (S7 (i:=m) (by rw [Q6 hm];exact e1));cases b with
 |true=>cases this
 |false=>rfl
theorem RR {c:Str}(hc:c∈CN13): ∃j:P4,j<13/\(Xh c)[j]? =some (.bool true)/\(∀m y,m<j->(Xh c)[m]? =some y->T6 y (.bool true)=false)/\atI wordsD (j:P9)=some (D.str (Jo c))/\((Xh c).countP λz=>T6 z (.bool true))=1:=by
 simp only [CN13,P2,T3,or_false] at hc;rcases hc with rfl|rfl|rfl|rfl|rfl|rfl|rfl|rfl|rfl|rfl|rfl|rfl|rfl
 ·exact⟨0,by decide,rfl,λm y=>jE rfl,rfl,rfl⟩
 ·exact⟨1,by decide,rfl,λm y=>jE rfl,rfl,rfl⟩
 ·exact⟨2,by decide,rfl,λm y=>jE rfl,rfl,rfl⟩
 ·exact⟨3,by decide,rfl,λm y=>jE rfl,rfl,rfl⟩
 ·exact⟨4,by decide,rfl,λm y=>jE rfl,rfl,rfl⟩
 ·exact⟨5,by decide,rfl,λm y=>jE rfl,rfl,rfl⟩
 ·exact⟨6,by decide,rfl,λm y=>jE rfl,rfl,rfl⟩
 ·exact⟨7,by decide,rfl,λm y=>jE rfl,rfl,rfl⟩
 ·exact⟨8,by decide,rfl,λm y=>jE rfl,rfl,rfl⟩
 ·exact⟨9,by decide,rfl,λm y=>jE rfl,rfl,rfl⟩
 ·exact⟨10,by decide,rfl,λm y=>jE rfl,rfl,rfl⟩
 ·exact⟨11,by decide,rfl,λm y=>jE rfl,rfl,rfl⟩
 ·exact⟨12,by decide,rfl,λm y=>jE rfl,rfl,rfl⟩
theorem Jv (Z:Zs mg)(Ex:ExcF K mg)(F:Fun K "_law_kind" "_law_kind" wE f fd):FnOkU P w K mg base CX0 (n+1) f fd ["_law_e"] (LSp K (Wa mg)):=by
 obtain⟨D_NoOrder,m_NoOrder⟩:=Ex.cls "NoOrder" (by decide);obtain⟨D_NoNumber,m_NoNumber⟩:=Ex.cls "NoNumber" (by decide);obtain⟨D_NoPlace,m_NoPlace⟩:=Ex.cls "NoPlace" (by decide);obtain⟨D_NoTable,m_NoTable⟩:=Ex.cls "NoTable" (by decide);obtain⟨D_NoLengths,m_NoLengths⟩:=Ex.cls "NoLengths" (by decide);obtain⟨D_NoWalk,m_NoWalk⟩:=Ex.cls "NoWalk" (by decide);obtain⟨D_NoSet,m_NoSet⟩:=Ex.cls "NoSet" (by decide);obtain⟨D_NoRow,m_NoRow⟩:=Ex.cls "NoRow" (by decide);obtain⟨D_Apart,m_Apart⟩:=Ex.cls "Apart" (by decide);obtain⟨D_NoWay,m_NoWay⟩:=Ex.cls "NoWay" (by decide);obtain⟨D_TooGreat,m_TooGreat⟩:=Ex.cls "TooGreat" (by decide);obtain⟨D_NoText,m_NoText⟩:=Ex.cls "NoText" (by decide);obtain⟨D_NoTables,m_NoTables⟩:=Ex.cls "NoTables" (by decide);refine F.okJU jP (λds h Q q=>by obtain⟨c,C,fs,e,hc,hm,q⟩:=q;subst e;rfl) _ (λcdv A outer s H E hr=>(js7 (jse 1 jP (yq (j4 (yk rfl Z.isinstance rfl m_NoTable (jv 0)) (yk rfl Z.isinstance rfl m_NoPlace (jv 0)) (yk rfl Z.isinstance rfl m_NoNumber (jv 0)) (yk rfl Z.isinstance rfl m_NoOrder (jv 0))))) (jse 1 jP (jop jG (jv 1) (yq (j3 (yk rfl Z.isinstance rfl m_NoSet (jv 0)) (yk rfl Z.isinstance rfl m_NoWalk (jv 0)) (yk rfl Z.isinstance rfl m_NoLengths (jv 0)))))) (jse 1 jP (jop jG (jv 1) (yq (j3 (yk rfl Z.isinstance rfl m_NoWay (jv 0)) (yk rfl Z.isinstance rfl m_Apart (jv 0)) (yk rfl Z.isinstance rfl m_NoRow (jv 0)))))) (jse 1 jP (jop jG (jv 1) (yq (j3 (yk rfl Z.isinstance rfl m_NoTables (jv 0)) (yk rfl Z.isinstance rfl m_NoText (jv 0)) (yk rfl Z.isinstance rfl m_TooGreat (jv 0)))))) (vS (jpt (Gd (wA (zY (NF (T:= "ValueError") rfl Z.isinstance rfl Ex.ve (by decide +kernel) (jv 0)))) (Gc (jt1 oq_ne (Cg hr.units (jv 1) jbl) jz)))) (wm jR)) (jse 2 jP (yq (jac jR (by exact(jac jR (by exact(jac jR (by exact(jac jR (by exact(jac jR (by exact(jac jR (by exact(j4 jR jR jR jR))))))))))))))) (wm (ji1 (jop jG (jv 2) (yq (j3 jR jR jR))) (Cc hr.units (jv 1) jbl))))) ?_;intro ds h Q q;obtain⟨c,C,fs,e,hc,hm,q⟩:=q;subst e;have kit: ∀d∈CN13,∀D,mg d=some (.ref D)->aC K (.ref C) (.ref D)=some (c==d):=λd hd D hD=>Ex.kit13 c hc d hd C D hm hD
 have ek:=Ex.ek13 c hc C hm;have kv:=Ex.val13 c hc C hm;refine jj (λnE h'=> ∃p,nE= [some (.exf C fs),some (.lst p),none]/\Sub h h'/\h' p=some (Yv c 4)) (λC2 hC=>⟨_,rfl,C,fs,_,rfl,ek,kit _ (by decide) _ m_NoTable,_,rfl,C,fs,_,rfl,ek,kit _ (by decide) _ m_NoPlace,_,rfl,C,fs,_,rfl,ek,kit _ (by decide) _ m_NoNumber,_,rfl,C,fs,_,rfl,ek,kit _ (by decide) _ m_NoOrder,sz4,λp e=>hC _ _ ⟨p,rfl,Sub.newAt (Sub.refl h) e,ja⟩⟩) ?_;rintro _ h1 ⟨p,rfl,sb,k1⟩;refine jj (λnE h'=> ∃p,nE= [some (.exf C fs),some (.lst p),none]/\Sub h h'/\h' p=some (Yv c 7)) (λC2 hC=>⟨_,rfl,_,rfl,C,fs,_,rfl,ek,kit _ (by decide) _ m_NoSet,_,rfl,C,fs,_,rfl,ek,kit _ (by decide) _ m_NoWalk,_,rfl,C,fs,_,rfl,ek,kit _ (by decide) _ m_NoLengths,sz3,λp2 e2=>⟨_,_,jc k1 e2,ja,(by show 7<=sizeLine;decide),λp3 e3=>hC _ _ ⟨p3,rfl,Sub.newAt (Sub.newAt sb e2) e3,ja⟩⟩⟩) ?_;rintro _ h1 ⟨p,rfl,sb,k1⟩;refine jj (λnE h'=> ∃p,nE= [some (.exf C fs),some (.lst p),none]/\Sub h h'/\h' p=some (Yv c 10)) (λC2 hC=>⟨_,rfl,_,rfl,C,fs,_,rfl,ek,kit _ (by decide) _ m_NoWay,_,rfl,C,fs,_,rfl,ek,kit _ (by decide) _ m_Apart,_,rfl,C,fs,_,rfl,ek,kit _ (by decide) _ m_NoRow,sz3,λp2 e2=>⟨_,_,jc k1 e2,ja,(by show 10<=sizeLine;decide),λp3 e3=>hC _ _ ⟨p3,rfl,Sub.newAt (Sub.newAt sb e2) e3,ja⟩⟩⟩) ?_;rintro _ h1 ⟨p,rfl,sb,k1⟩;refine jj (λnE h'=> ∃p,nE= [some (.exf C fs),some (.lst p),none]/\Sub h h'/\h' p=some (Yv c 13)) (λC2 hC=>⟨_,rfl,_,rfl,C,fs,_,rfl,ek,kit _ (by decide) _ m_NoTables,_,rfl,C,fs,_,rfl,ek,kit _ (by decide) _ m_NoText,_,rfl,C,fs,_,rfl,ek,kit _ (by decide) _ m_TooGreat,sz3,λp2 e2=>⟨_,_,jc k1 e2,ja,(by show 13<=sizeLine;decide),λp3 e3=>hC _ _ ⟨p3,rfl,Sub.newAt (Sub.newAt sb e2) e3,ja⟩⟩⟩) ?_;rintro _ h1 ⟨p,rfl,sb,k1⟩;have hpG: ∀h':HD,h' p=some (Yv c 13)->ToP h' (.lst p) (.list (Xh c)):=λh' k=>⟨p,_,rfl,k,Ub _⟩
 obtain⟨j,hj,hz,hno,hw,hcnt⟩:=RR hc;refine Zj [some (.exf C fs),some (.lst p),none] (λC2 hC=>⟨_,rfl,C,fs,_,rfl,ek,kv,_,rfl,wu ⟨_,rfl,p,rfl,.bool true,_,hpG h1 k1,rfl,rfl,rfl,by simp [O1],_,rfl,?_⟩⟩) ?_
 ·rw [hcnt];exact wu (hC)
 refine jj (λnE h'=> ∃w,nE= [some (.exf C fs),some (.lst p),some (.lst w)]/\Sub h1 h'/\h' p=some (Yv c 13)/\h' w=some (wordsD.take 10)) (λC2 hC=>⟨(by show 10<=sizeLine;decide),λw e=>hC _ _ ⟨w,rfl,Sub.newAt (Sub.refl h1) e,jc k1 e,ja⟩⟩) ?_;rintro _ h2 ⟨w,rfl,sb2,kp2,kw⟩;exact⟨_,rfl,sz3,λp4 e4=>⟨_,_,jc kw e4,ja,(by show 13<=sizeLine;decide),λp5 e5=>⟨_,rfl,p,rfl,.bool true,_,j,_,hpG _ (jc (jc kp2 e4) e5),rfl,rfl,rfl,by simp [O1],by omega,hz,rfl,hno,_,_,ja,hw,_,Sub.refl _,q _ (Sub.newAt (Sub.newAt (sb.trans sb2) e4) e5)⟩⟩⟩
theorem GO (Z:Zs mg)(Ex:ExcF K mg)(F:Fun K "_law_said" "_law_said" wF f fd)(CU:Jj P w K mg base n "_law_kind" ["_law_e"] (Wa mg))(CW:Jj P w K mg base n "_law_whole" ["_law_thing"] zN):FnOkS P w K mg base CX0 (n+2) f fd ["_law_call"] (Jq P w K mg base n):=by
 obtain⟨gU,gdU,GU,bGU,kGU,mGU⟩:=CU;obtain⟨gW,gdW,GW,bGW,kGW,mGW⟩:=CW;obtain⟨pe,hpe,hex⟩:=Ex.pe13;refine Xd F yz rfl rfl rfl rfl rfl hpe hex _ (λcdv A outer s H E x hr=>jn (Bj (i:=3) yz.nd rfl (L9 rfl) (WI GU hr rfl mGU kGU bGU (jac (jv 2) jV)))
  (jn (Mf (Vt (Rc hr.units) (jv 3) (ZG (jac jR (jac jR jV))) (by with_unfolding_all rfl)) (jO (wm (ZG (jac (jv 3) (jac (jif (zY (WI GW hr rfl mGW kGW bGW (jac (Yr (f:= "at") (hB:=Wb) (jv 2)) jV))) (Yr (f:= "at") (hB:=Wb) (jv 2)) XB) jV))))) WD)
  (jn (Mf (Vt oq_eq (jv 3) jR (YN _)) (jO (wm (ZG (jac (jv 3) (jac (jif (zY (WI GW hr rfl mGW kGW bGW (jac (Yr (f:= "many") (hB:=Zo) (jv 2)) jV))) (Yr (f:= "many") (hB:=Zo) (jv 2)) XB) (jac (jif (zY (WI GW hr rfl mGW kGW bGW (jac (Yr (f:= "most") (hB:=Zp) (jv 2)) jV))) (Yr (f:= "most") (hB:=Zp) (jv 2)) XB) jV)))))) WD)
  (jO (wm (ZG (jac (jv 3) jV))))))) ?_
 intro c C h Qd hok hm q;refine⟨_,rfl,c.nm,C,c.fs,rfl,Jp hok,hm,λh' sb=> ?_⟩;have fld: ∀ (w:Str) (fs:G0 (Str×P9)) (f:T0) (a:P9) (fI:G5) (ns:G0 T0) (Q:KD),fs.lookup (G3 f)=some a->IniK K C fI ns->f∈ns->Q (.int a) h'->dIf (wM (dCB zN (jU (GH K f (Wv 2)) Jb))) (GH K f (Wv 2)) (dC .non) [none,none,some (.exf C fs),some (.str w)] h' Q:=λw fs f a fI ns Q hl hi hf hq=>
  ⟨_,rfl,C,fs,a,fI,ns,rfl,hl,hi,hf,_,_,rfl,rfl,_,rfl,vx ⟨_,rfl,C,fs,a,fI,ns,rfl,hl,hi,hf,hq⟩⟩
 have words: ∀w:Str,(L5 w).canLay0=true-> ∀Q:B3->HD->Prop,Q ((false !=m9 [L5 "tables",L5 "text"] λz=>T6 z (.str w))) h'->wM (dOp (inE false) (Wv 3) (Pb (jU (dC (.str "tables")) (jU (dC (.str "text")) Jb)))) [none,none,some (.exf C c.fs),some (.str w)] h' Q:=λw hw Q hq=>
  ⟨_,rfl,(by show 2<=sizeLine;decide),.str w,[.str "tables",.str "text"],rfl,.inr ⟨_,rfl,⟨_,_,rfl,rfl,_,_,rfl,rfl,rfl⟩⟩,hw,by decide +kernel,by simp [O1],_,rfl,hq⟩
 rcases Ys hok with ⟨hc,e⟩|⟨a,rfl⟩|⟨a,rfl⟩|⟨a,b,rfl⟩
 ·obtain⟨nm,fs⟩:=c;cases e;have e0:(L5 (Jo nm)).canLay0=true/\((false !=m9 [L5 "tables",L5 "text"] λz=>T6 z (.str (Jo nm))))=false/\decide (Jo nm= "great")=false:=by
   simp only [CN,P2,T3,or_false] at hc;rcases hc with rfl|rfl|rfl|rfl|rfl|rfl|rfl|rfl|rfl|rfl<;>exact⟨by decide +kernel,rfl,rfl⟩
  refine words _ e0.1 _ ?_;rw [e0.2.1];refine wu ⟨_,rfl,_,rfl,?_⟩;rw [e0.2.2];exact wu ⟨_,rfl,(by show 1<=sizeLine;decide),h,sb,q⟩
 ·obtain⟨fI,I0⟩:=Ex.ini "NoTables" (by decide) C hm;refine words _ (by show (L5 (Jo "NoTables")).canLay0=true;decide +kernel) _ (vx ⟨_,rfl,fld _ _ "at" a fI _ _ rfl I0 (by decide) ⟨(by show 2<=sizeLine;decide),h,sb,q⟩⟩)
 ·obtain⟨fI,I0⟩:=Ex.ini "NoText" (by decide) C hm;refine words _ (by show (L5 (Jo "NoText")).canLay0=true;decide +kernel) _ (vx ⟨_,rfl,fld _ _ "at" a fI _ _ rfl I0 (by decide) ⟨(by show 2<=sizeLine;decide),h,sb,q⟩⟩)
 ·obtain⟨fI,I0⟩:=Ex.ini "TooGreat" (by decide) C hm;refine words _ (by show (L5 (Jo "TooGreat")).canLay0=true;decide +kernel) _ (wu ⟨_,rfl,_,rfl,vx ⟨_,rfl,fld _ _ "many" a fI _ _ rfl I0 (by decide) (fld _ _ "most" b fI _ _ rfl I0 (by decide) ⟨(by show 3<=sizeLine;decide),h,sb,q⟩)⟩⟩)
/-- a plain text,or no text -/
def TX (d:D):Prop:=(∃z,d= .str z/\Pl 990 z)\/ ∃n,yp d=some n/\QU "str" n=false
def plB (z:Str):B3:=decide (z.length<=990)&&z.cps.toList.all λc=>decide (32<=c/\c<=126)
theorem RS (h:plB z=true):Pl 990 z:=by
 unfold plB at h;rw [R1,D7] at h;exact⟨M0 h.1,λc hc=>M0 (h.2 c hc)⟩
theorem RU {p1 p2:G5}: ∀d∈ [D.non,D.bl true,D.bl false,D.int (-1),D.str (G3 "1"),D.str (G3 ""),D.tup [],D.lst p1,D.tup [D.int 0],D.lst p2,D.dic (G3 "a") 1,D.tup [D.int 0,D.int 1],D.int (10^kH 30),D.tup [D.int 0,D.tup []],D.tup [D.tup []]]++ [D.tup [D.tup [D.int 0]]],TX d:=λd hd=>by
 simp only [R5,P2,T3,or_false] at hd;rcases hd with (e|e|e|e|e|e|e|e|e|e|e|e|e|e|e)|e<;>subst e<;>first|exact .inr ⟨_,rfl,rfl⟩|exact .inl ⟨_,rfl,RS (by decide +kernel)⟩
def vq:RDn:=λds h Q=> ∃p l fl,ds= [.lst p]/\h p=some [.int l,.int fl]/\0<=l/\ ∀d l',TX d->0<=l'->Q d (zA h p [.int l',.int fl])
theorem We (Z:Zs mg)(F:Fun K "_law_odd" "_law_odd" ym f fd)(jl:jN P w K mg base n "_law_draw" ["_law_pen_here","_law_many"] za):FnOk P w K mg base CX0 (n+1) f fd ["_law_pen_here"] (LSp K vq):=by
 refine F.okM vo (λhr=>(js2 (jse 1 vo (yq (jac XB (by exact(jac jbl (by exact(jac jbl (by exact(jac (Nn jz) (by exact(jac jR (by exact(jac jR (by exact(jac (ZG jV) (by exact(jac (yq jV) (by exact(jac (ZG (j1 jz)) (by exact(jac (yq (j1 jz)) (by exact(jac Rb (by exact(j4 (ZG (j2 jz jz)) (jop Vg jz jz) (ZG (j2 jz (ZG jV))) (ZG (j1 (ZG jV)))))))))))))))))))))))))))) (wm (ji1 (jop jG (jv 1) (yq (j1 (ZG (j1 (ZG (j1 jz))))))) (jk jl hr (j2 (jv 0) jz)))))) ?_;rintro ds h Q ⟨p,l,fl,rfl,hp,h0,q⟩;refine⟨rfl,?_⟩;simp only [zQ,UC,Pc,jU,dC,dUn,Nh,Pb,Jb,B0,T5,WB,dOp,MZ,UB,Wv,jM,N7,K7,D9,F2,L4,eU,eZ,V5,L0,J9,Bd,dCB,ixD,U5,Wy]
 repeat (first|intro _|refine⟨by decide,?_⟩|refine⟨⟨by decide,by decide,by decide⟩,?_⟩)
 rename_i p1 e1 p2 e2 p4 e4 p5 e5;have k1:=jc (M:= []) hp e1;have k2:=jc (M:= [.int 0]) k1 e2;refine⟨_,_,jq (C5 (Gb e5)) ja,ja,by simp only [T5,B0];decide,λp6 e6=> ?_⟩;refine⟨p,l,fl,16,rfl,jc (jc (jc k2 e4) e5) e6,h0,by decide,by decide,λr l' r0 r1 l0=> ?_⟩;obtain⟨d,hd,ed⟩:=yh (xs:= [D.non,D.bl true,D.bl false,D.int (-1),D.str (G3 "1"),D.str (G3 ""),D.tup [],D.lst p1,D.tup [D.int 0],D.lst p2,D.dic (G3 "a") 1,D.tup [D.int 0,D.int 1],D.int (10^kH 30),D.tup [D.int 0,D.tup []],D.tup [D.tup []]]++ [D.tup [D.tup [D.int 0]]]) r0 r1;refine⟨_,d,jq (ju (jc (jc k2 e4) e5) e6) ja,ed,_,Sub.both (Sub.newAt (Sub.newAt (Sub.newAt (Sub.newAt (Sub.newAt (Sub.refl h) e1) e2) e4) e5) e6),q d l' (RU d hd) l0⟩
theorem Zw (Z:Zs mg)(F:Fun K "_law_same" "_law_same" wG f fd):FnOk P w K mg base CX0 (n+1) f fd ["_law_found","_law_due"] (LSp K XE):=by
 refine F.okM Zr (λhr=>(jO (wm (jc1 oq_eq (zm (WH hr) rfl Z.repr (by decide +kernel) (j1 (jv 0))) (zm (WH hr) rfl Z.repr (by decide +kernel) (j1 (jv 1))))))) ?_;rintro ds h Q ⟨x,y,pd,rfl,t1,t2,so,q⟩;refine⟨rfl,?_⟩;refine⟨_,rfl,x,pd,rfl,t1,so,_,rfl,y,pd,rfl,t2,so,h,Sub.refl h,?_⟩;rw [T2 rfl];exact q
def yw:RDn:=λds h Q=> ∃p l fl,ds= [.lst p]/\h p=some [.int l,.int fl]/\0<=l/\ ∀ (k:P4) l',1<=k->k<=6->0<=l'->Q (.int (k:P9)) (zA h p [.int l',.int fl])
theorem Zx (Z:Zs mg)(F:Fun K "_law_size" "_law_size" wH f fd)(jl:jN P w K mg base n "_law_draw" ["_law_pen_here","_law_many"] za):FnOk P w K mg base CX0 (n+1) f fd ["_law_pen_here"] (LSp K yw):=by
 refine F.okM Zt (λhr=>(jO (wm (ji1 (yq (jac jz (by exact(jac jz (by exact(jac jz (by exact(jac jz (by exact(jac jz (by exact(jac jz (by exact(jac jz (by exact(jac jz (by exact(j4 jz jz jz jz)))))))))))))))))) (jk jl hr (j2 (jv 0) jz)))))) ?_;rintro ds h Q ⟨p,l,fl,rfl,hp,h0,q⟩;refine⟨rfl,?_⟩;simp only [UB,dOp,Pc,jU,dC,Jb,T5,B0,dCB,Wv,jM,N7,K7,F2,L4,L0,J9,ixD,Wy,U5];refine⟨by decide,λp1 e1=>⟨p,l,fl,12,rfl,jc hp e1,h0,by decide,by decide,λr l' r0 r1 l0=> ?_⟩⟩;obtain⟨d,hd,ed⟩:=yh (xs:= [D.int 1,D.int 2,D.int 3,D.int 4,D.int 5,D.int 3,D.int 4,D.int 2,D.int 6,D.int 5,D.int 4,D.int 3]) r0 r1;refine⟨_,d,jq (ju hp e1) ja,ed,_,Sub.both (Sub.newAt (Sub.refl h) e1),?_⟩;have q': ∀k:P4,1<=k->k<=6->Q (.int (k:P9)) (zA h p [.int l',.int fl]):=λk a b=>q k l' a b l0
 simp only [P2,T3,or_false] at hd;rcases hd with e|e|e|e|e|e|e|e|e|e|e|e<;>subst e
 ·exact q' 1 (by decide) (by decide)
 ·exact q' 2 (by decide) (by decide)
 ·exact q' 3 (by decide) (by decide)
 ·exact q' 4 (by decide) (by decide)
 ·exact q' 5 (by decide) (by decide)
 ·exact q' 3 (by decide) (by decide)
 ·exact q' 4 (by decide) (by decide)
 ·exact q' 2 (by decide) (by decide)
 ·exact q' 6 (by decide) (by decide)
 ·exact q' 5 (by decide) (by decide)
 ·exact q' 4 (by decide) (by decide)
 ·exact q' 3 (by decide) (by decide)
def wX:RDn:=λds h Q=> ∃p l fl,∃k:P4,ds= [.lst p,.int (k:P9)]/\h p=some [.int l,.int fl]/\0<=l/\1<=k/\k<=6/\ ∀T l',GoodTab k T->0<=l'->Q (Mg T) (zA h p [.int l',.int fl])
theorem Jw (Z:Zs mg)(F:Fun K "_law_table" "_law_table" wb f fd)(jl:jN P w K mg base n "_law_draw" ["_law_pen_here","_law_many"] za):FnOk P w K mg base CX0 (n+1) f fd ["_law_pen_here","_law_size_here"] (LSp K wX):=by
 refine F.okM jr (λhr=>(js5 (BY (i:=2) (j:=3) rfl jr.nd rfl rfl (by decide) rfl rfl (j2 (jk jl hr (j2 (jv 0) jz)) (ji1 (yq (j3 jz jz jz)) (jk jl hr (j2 (jv 0) jz)))) rfl) (jse 4 jr (ji1 (yq (j4 jz jz jz (jop Vg jz jz))) (jk jl hr (j2 (jv 0) jz)))) (jse 5 jr (yq jV)) (Gh A1 rfl (jrg Z (jv 1)) (jgn 6 jr) (js3 (jse 7 jr (yq jV)) (Gh A1 rfl (jrg Z (jv 1)) (jgn 8 jr) (js5 (jse 9 jr (jc1 oq_eq (jk jl hr (j2 (jv 0) (jv 3))) jz)) (vS (jt1 DF (jv 2) jz) (jse 9 jr (jor (jc1 oq_eq (jv 8) (jop va (jop jG (jv 6) jz) (jv 1))) (Ge (Me (jv 9) (Ge (jc1 (XA hr.units) (jk jl hr (j2 (jv 0) jz)) (jv 2)))))))) (vS (jt1 oq_eq (jv 2) jz) (jse 9 jr (jor (Me (jv 9) (Ge (jc1 oq_eq (jop va (jop Xw (jv 8) (jv 6)) jz) jz))) (Ge (jc1 (XA hr.units) (jv 8) (jop jG (jv 6) jz)))))) (vS (jt1 oq_eq (jv 2) jz) (jse 9 jr (Me (jv 9) (Ge (jc1 DG (jv 8) (jv 6)))))) (Gf (Nm (jv 7) (jop Jg (jX Xy rfl Z.int (by decide +kernel) (j1 (jv 9))) (jop jG jz (jk jl hr (j2 (jv 0) (jv 4))))))))) (Gf (Nm (jv 5) (jX cq_tuple rfl Z.tuple (by decide +kernel) (j1 (jv 7))))))) (wm (jX cq_tuple rfl Z.tuple (by decide +kernel) (j1 (jv 5)))))) ?_;rintro ds h Q ⟨p,l,fl,k,rfl,hp,h0,hk1,hk6,q⟩;refine⟨rfl,?_⟩;refine jj (λnE h'=> ∃way o l2,nE= [some (.lst p),some (.int (k:P9)),some (.int way),some (.int o),none,none,none,none,none,none]/\0<o/\o<1000/\0<=l2/\h' p=some [.int l2,.int fl]/\But p h h') (λC hC=>⟨_,rfl,p,l,fl,6,rfl,hp,h0,by decide,by decide,λway l1 w0 w1 l10=>⟨sz3,λp1 e1=>⟨_,rfl,p,l1,fl,3,rfl,jc ja e1,l10,by decide,by decide,λr l2 r0 r1 l20=> ?_⟩⟩⟩) ?_
 ·obtain⟨oft,ho,eo⟩:=yh (xs:= [D.int 2,D.int 3,D.int 5]) r0 r1;obtain⟨o,e,o1,o2⟩: ∃o:P9,oft= .int o/\0<o/\o<1000:=by
   simp only [P2,T3,or_false] at ho;rcases ho with e|e|e<;>exact⟨_,e,by decide,by decide⟩
  subst e;exact⟨_,_,jq (ju ja e1) ja,eo,_,_,rfl,hC _ _ ⟨way,o,l2,rfl,o1,o2,l20,ja,((But.upd).new e1).put⟩⟩
 rintro _ h1 ⟨way,o,l2,rfl,o1,o2,l20,kA,bA⟩;refine jj (λnE h'=> ∃m l3,nE= [some (.lst p),some (.int (k:P9)),some (.int way),some (.int o),some (.int m),none,none,none,none,none]/\0<m/\m<=1000000/\0<=l3/\h' p=some [.int l3,.int fl]/\But p h h') (λC hC=>⟨⟨by decide,by decide,by decide⟩,sz4,λp1 e1=>⟨_,rfl,p,l2,fl,4,rfl,jc kA e1,l20,by decide,by decide,λr l3 r0 r1 l30=> ?_⟩⟩) ?_
 ·obtain⟨most,ho,eo⟩:=yh (xs:= [D.int 1,D.int 1,D.int 3,D.int (10^kH 6)]) r0 r1;obtain⟨m,e,m1,m2⟩: ∃o:P9,most= .int o/\0<o/\o<=1000000:=by
   simp only [P2,T3,or_false] at ho;rcases ho with e|e|e|e<;>exact⟨_,e,by decide,by decide⟩
  subst e;exact⟨_,_,jq (ju kA e1) ja,eo,hC _ _ ⟨m,l3,rfl,m1,m2,l30,ja,(bA.new e1).put⟩⟩
 clear kA bA;rintro _ h2 ⟨m,l3,rfl,m1,m2,l30,kB,bB⟩;refine jj (λnE h'=> ∃R,nE= [some (.lst p),some (.int (k:P9)),some (.int way),some (.int o),some (.int m),some (.lst R),none,none,none,none]/\R≠p/\h R=none/\h' R=some []/\h' p=some [.int l3,.int fl]/\But p h h') (λC hC=>⟨sz0,λR eR=>hC _ _ ⟨R,rfl,ju kB eR,Vs bB eR (ju kB eR),ja,jc kB eR,bB.new eR⟩⟩) ?_;clear kB bB;rintro _ h3 ⟨R,rfl,nR,fR,kR,kC,bC⟩;refine jj (λnE h'=> ∃a b c d l4 rows,nE= [some (.lst p),some (.int (k:P9)),some (.int way),some (.int o),some (.int m),some (.lst R),a,b,c,d]/\0<=l4/\h' p=some [.int l4,.int fl]/\h' R=some (rows.map vy)/\But p h h'/\GoodTab k rows) (λC hC=> ?_) (λnE h' ⟨a,b,c,d,l4,rows,e,l40,kD,kE,bD,g⟩=>by subst e;exact⟨_,rfl,_,kE,_,bD.sub kD,q rows l4 g l40⟩);refine ZT k (λi nE h'=> ∃a b c d l4 rows,nE= [some (.lst p),some (.int (k:P9)),some (.int way),some (.int o),some (.int m),some (.lst R),a,b,c,d]/\0<=l4/\h' p=some [.int l4,.int fl]/\h' R=some (rows.map vy)/\But p h h'/\rows.length=i/\ ∀r∈rows,ZU k r) (by omega) (λR' r=>⟨_,rfl,r⟩)
  ⟨none,none,none,none,l3,[],rfl,l30,kC,kR,bC,rfl,λr hr=>nomatch hr⟩ (λnE h' z=>hC _ _ z) ?_
 clear kC kR bC;rintro i _ h4 hi ⟨a,b,c,d,l4,rows,rfl,l40,kD,kE,bD,g1,g2⟩;refine jj (λnE h'=> ∃S,nE= [some (.lst p),some (.int (k:P9)),some (.int way),some (.int o),some (.int m),some (.lst R),some (.int (i:P9)),some (.lst S),c,d]/\S≠p/\S≠R/\h S=none/\h' S=some []/\h' p=some [.int l4,.int fl]/\h' R=some (rows.map vy)/\But p h h') (λC hC=>⟨sz0,λS eS=>hC _ _ ⟨S,rfl,ju kD eS,ju kE eS,Vs bD eS (ju kD eS),ja,jc kD eS,jc kE eS,bD.new eS⟩⟩) ?_;clear kD kE bD;rintro _ h5 ⟨S,rfl,nS,nSR,fS,kS,kD,kE,bD⟩;refine jj (λnE h'=> ∃c d l5 row,nE= [some (.lst p),some (.int (k:P9)),some (.int way),some (.int o),some (.int m),some (.lst R),some (.int (i:P9)),some (.lst S),c,d]/\0<=l5/\h' p=some [.int l5,.int fl]/\h' R=some (rows.map vy)/\h' S=some (row.map D.int)/\But p h h'/\ZU k row) (λC hC=> ?_) ?_
 rotate_left
 ·rintro _ h6 ⟨c,d,l5,row,rfl,l50,kD,kE,kF,bD,g⟩;refine⟨_,rfl,R,rfl,_,rfl,_,kF,_,kE,?_,_,Sub.refl _,by omega,_,_,_,_,l5,rows++ [row],rfl,l50,jq (C5 nR) kD,?_,bD.putNew fR,by rw [S1,g1];rfl,?_⟩
  ·rw [G8];exact O6 (show rows.length<=1000 by omega) (by decide)
  ·rw [ja,A3];rfl
  ·intro r hr;rcases R5.mp hr with z|z
   ·exact g2 r z
   ·rw [R6.mp z];exact g
 refine ZT k (λj nE h'=> ∃c d l5 row,nE= [some (.lst p),some (.int (k:P9)),some (.int way),some (.int o),some (.int m),some (.lst R),some (.int (i:P9)),some (.lst S),c,d]/\0<=l5/\h' p=some [.int l5,.int fl]/\h' R=some (rows.map vy)/\h' S=some (row.map D.int)/\But p h h'/\row.length=j/\ ∀x∈row,0<=x/\x<=1000000) (by omega) (λR' r=>⟨_,rfl,r⟩)
  ⟨_,_,l4,[],rfl,l40,kD,kE,kS,bD,rfl,λr hr=>nomatch hr⟩ (λnE h' z=>hC _ _ z) ?_
 clear kD kE kS bD;rintro j _ h6 hj ⟨c,d,l5,row,rfl,l50,kD,kE,kF,bD,g1',g2'⟩;refine jj (λnE h'=> ∃ (g:B3) (l6:P9),nE= [some (.lst p),some (.int (k:P9)),some (.int way),some (.int o),some (.int m),some (.lst R),some (.int (i:P9)),some (.lst S),some (.int (j:P9)),some (.bl g)]/\0<=l6/\h' p=some [.int l6,.int fl]/\h' R=some (rows.map vy)/\h' S=some (row.map D.int)/\But p h h') (λC hC=>⟨_,rfl,_,rfl,p,l5,fl,o,rfl,kD,l50,o1,by omega,λr l6 r0 r1 l60=>hC _ _ ⟨_,l6,rfl,l60,ja,jq nR kE,jq nS kF,bD.put⟩⟩) ?_;clear kD kE kF bD;rintro _ _ ⟨g,l6,rfl,l60,kD,kE,kF,bD⟩;refine jj (λnE h'=> ∃ (g:B3) (l6:P9),nE= [some (.lst p),some (.int (k:P9)),some (.int way),some (.int o),some (.int m),some (.lst R),some (.int (i:P9)),some (.lst S),some (.int (j:P9)),some (.bl g)]/\0<=l6/\h' p=some [.int l6,.int fl]/\h' R=some (rows.map vy)/\h' S=some (row.map D.int)/\But p h h') (λC hC=>⟨_,rfl,_,rfl,Wr (λ_=>⟨_,rfl,_,rfl,_,rfl,by omega,_,rfl,Wr (λ_=>hC _ _ ⟨_,l6,rfl,l60,kD,kE,kF,bD⟩) λ_=>⟨_,rfl,_,rfl,Wr (λ_=>⟨_,rfl,p,l6,fl,2,rfl,kD,l60,by decide,by decide,λr l7 r0 r1 l70=>⟨_,rfl,hC _ _ ⟨_,l7,rfl,l70,ja,jq nR kE,jq nS kF,bD.put⟩⟩⟩) λ_=>hC _ _ ⟨_,l6,rfl,l60,kD,kE,kF,bD⟩⟩⟩) λ_=>hC _ _ ⟨_,l6,rfl,l60,kD,kE,kF,bD⟩⟩) ?_;clear kD kE kF bD;rintro _ _ ⟨g,l6,rfl,l60,kD,kE,kF,bD⟩;refine jj (λnE h'=> ∃ (g:B3) (l6:P9),nE= [some (.lst p),some (.int (k:P9)),some (.int way),some (.int o),some (.int m),some (.lst R),some (.int (i:P9)),some (.lst S),some (.int (j:P9)),some (.bl g)]/\0<=l6/\h' p=some [.int l6,.int fl]/\h' R=some (rows.map vy)/\h' S=some (row.map D.int)/\But p h h') (λC hC=>⟨_,rfl,_,rfl,Wr (λ_=>⟨_,rfl,_,rfl,Wr (λ_=>⟨_,rfl,_,rfl,by decide,_,rfl,Wr (λ_=>hC _ _ ⟨_,l6,rfl,l60,kD,kE,kF,bD⟩) λ_=>⟨_,rfl,_,rfl,hC _ _ ⟨_,l6,rfl,l60,kD,kE,kF,bD⟩⟩⟩) λ_=>⟨_,rfl,Wr (λ_=>hC _ _ ⟨_,l6,rfl,l60,kD,kE,kF,bD⟩) λ_=>⟨_,rfl,_,rfl,hC _ _ ⟨_,l6,rfl,l60,kD,kE,kF,bD⟩⟩⟩⟩) λ_=>hC _ _ ⟨_,l6,rfl,l60,kD,kE,kF,bD⟩⟩) ?_;clear kD kE kF bD;rintro _ _ ⟨g,l6,rfl,l60,kD,kE,kF,bD⟩;refine jj (λnE h'=> ∃ (g:B3) (l6:P9),nE= [some (.lst p),some (.int (k:P9)),some (.int way),some (.int o),some (.int m),some (.lst R),some (.int (i:P9)),some (.lst S),some (.int (j:P9)),some (.bl g)]/\0<=l6/\h' p=some [.int l6,.int fl]/\h' R=some (rows.map vy)/\h' S=some (row.map D.int)/\But p h h') (λC hC=>⟨_,rfl,_,rfl,Wr (λ_=>⟨_,rfl,_,rfl,Wr (λ_=>⟨_,rfl,_,rfl,hC _ _ ⟨_,l6,rfl,l60,kD,kE,kF,bD⟩⟩) λ_=>hC _ _ ⟨_,l6,rfl,l60,kD,kE,kF,bD⟩⟩) λ_=>hC _ _ ⟨_,l6,rfl,l60,kD,kE,kF,bD⟩⟩) ?_;clear kD kE kF bD;rintro _ _ ⟨g,l6,rfl,l60,kD,kE,kF,bD⟩;have gi: ∀x r:P9,0<=r->r<m->x=0\/x=1->CMul x (1+r)/\0<=x*(1+r)/\x*(1+r)<=1000000:=λx r r0 r1 hx=>by
  rcases hx with e|e<;>subst e
  ·exact⟨.inl ⟨by decide,by decide⟩,by omega,by omega⟩
  ·exact⟨.inl ⟨by decide,by decide⟩,by omega,by omega⟩
 refine⟨_,rfl,S,rfl,_,rfl,_,rfl,_,rfl,p,l6,fl,m,rfl,kD,l60,m1,by omega,λr l7 r0 r1 l70=> ?_⟩;have gg:=gi (if g=true then 1 else 0) r r0 r1 (by cases g<;>decide);refine⟨gg.1,_,jq nS kF,?_,_,Sub.refl _,by omega,_,_,l7,row++ [(if g=true then 1 else 0)*(1+r)],rfl,l70,jq (C5 nS) ja,jq (C5 nSR) (jq nR kE),?_,(bD.put).putNew fS,by rw [S1,g1'];rfl,?_⟩
 ·rw [G8];exact O6 (show row.length<=1000 by omega) (by decide)
 ·rw [ja,A3];rfl
 ·intro x hx;rcases R5.mp hx with z|z
  ·exact g2' x z
  ·rw [R6.mp z];exact gg.2
variable {b:P4}
theorem yM: ∀ {ys:G0 Str},(∀y∈ys,y.length<=b)->(ys.map (·.length)).sum<=ys.length*b
 | [],_=>O4 _
 |y::ys,h=>by
  have:=yM λz hz=>h z (D1 _ hz)
  have:=h y P7;simp only [N7,iY,T5,fO];omega
theorem Xi {a:P4}(h:a<=b):(2:P9)^a<=2^b:=by
 have:(2:P4)^a<=2^b:=C4 (by decide) h;have h2:((2^a:P4):P9)<=((2^b:P4):P9):=by exact_mod_cast this
 simpa using h2
theorem lgN {n:P9}(h0:0<=n)(h1:n<2^200):n.natAbs.log2<1920:=by
 by_cases z:n.natAbs=0
 ·rw [z];decide
 ·exact(cY z).mpr (P3 (wP h0 h1) (C4 (by decide) (by decide)))
def yx:RDn:=λds h Q=> ∃T,∃n e:P4,ds= [Mg T]/\Sq n e T/\0<e/\e<=200/\n<=6/\Q (.str (VR T)) h
theorem Zy (Z:Zs mg)(F:Fun K "_law_text" "_law_text" wI f fd)(wJ:mg "str" =none):FnOk P w K mg base CX0 (n+1) f fd ["_law_table_here"] (LSp K yx):=by
 have m_str:=wJ;refine F.okM wc (λhr=>(jO (wm (XI jR (jl0 1 wc (zR (jv 0)) (λ_ _ _ _=>(XI jR (jl0 2 wc (zR (jv 1)) (λ_ _ _ _=>(jX VM rfl m_str (by decide +kernel) (j1 (jv 2)))))))))))) ?_;rintro ds h Q ⟨T,n,b,rfl,hT,he,hb,h6,q⟩;refine⟨rfl,?_⟩;have wr: ∀r∈T,(zW r).length<=1212:=λr hr=>R8 (RB hT he hr).len (R8 (iI h6 (show b+2<=202 by omega)) (by decide))
 refine Ry T vy zW (by rw [hT.len];omega) ?_ rfl (λR r=>⟨_,rfl,r⟩) (λr hr Q' q'=> ?_) ⟨h,Sub.refl h,q⟩
 ·exact R8 (iJ (yM λy hy=>by obtain⟨r,hr,rfl⟩:=T1.mp hy;exact wr r hr) (P0 _)) (by rw [G8,hT.len];show n*1212+n*1<=_;omega)
 ·refine Ry r D.int num (by rw [hT.row r hr];omega) ?_ rfl (λR r=>⟨_,rfl,r⟩) (λx hx Q'' q''=>⟨_,rfl,x,rfl,lgN (hT.nn r hr x hx) (aS (hT.bit r hr x hx) (Xi hb)),q''⟩) q';exact R8 (iJ (yM λy hy=>by obtain⟨x,hx,rfl⟩:=T1.mp hy;exact VP (hT.nn r hr x hx) (hT.bit r hr x hx) he) (P0 _)) (by rw [G8,hT.row r hr];show n*(b+1)+n*1<=_;have:n*(b+1)<=6*(200+1):=iI h6 (by omega);omega)
theorem Uc: ∀ (n:P4) (cs:G0 P4),cs.length=n->bE cs->J8 cs<10^n
 |0,cs,h,_=>by rw [E3.mp h];decide
 |n+1,cs,h,hd=>by
  rcases List.eq_nil_or_concat cs with e|⟨ini,c,e⟩
  ·rw [e] at h;cases h
  ·subst e;rw [List.concat_eq_append] at h hd ⊢;rw [S1,J5] at h;have ih:=Uc n ini (by omega) λx hx=>hd x (R5.mpr (.inl hx))
   have hc:=hd c (R5.mpr (.inr P7));rw [k6,kQ];omega
def vG (w:Str):D:=if wrB 12 w=true then .int (zV w) else .non
theorem WQ: ∀ {fs:G0 Str},(∀s∈fs,(L5 s).canLay0=true)->B8 (fs.map .str)=true/\B2 (fs.map .str)=0
 | [],_=>⟨rfl,rfl⟩
 |s::fs,h=>by
  obtain⟨a,b⟩:=WQ λx hx=>h x (D1 _ hx)
  refine⟨?_,?_⟩
  ·show ((L5 s).canLay0&&B8 (fs.map .str))=true;rw [h s P7,a];rfl
  ·rw [N7];simp [B2,O1,b]
theorem Zz (h:HD): ∀ws:G0 Str,ToPs h (ws.map D.str) (ws.map L5)
 | []=>rfl
 |w::ws=>⟨_,_,rfl,rfl,Zz h ws⟩
theorem Ud {r:RD2}{b:D->SD->SD->Prop}{js:G0 P4}{ti:TID}{tt:TTD}{tu:TED}{Q:B3->HD->Prop}(x:yJ b js ti tt te σ h λv h1=>tu σ h1 λy h2=>r v y h2 λz h3=> ∃k,z= .bl k/\Q k h3):wM (dOp r (yJ b js ti tt te) tu) σ h Q:=x
/-- compared with an empty list -/
theorem GP {fs:G0 Str}{B p:G5}{Q:KD}(kB:h B=some (fs.map D.str))(kp:h p=some [])(hs: ∀s∈fs,(L5 s).canLay0=true)(q:Q (.bl (!fs.isEmpty)) h):neE (.lst B) (.lst p) h Q:=by
 obtain⟨a,b⟩:=WQ hs;refine⟨.list (fs.map .str),.list [],⟨B,_,rfl,kB,Zz h fs⟩,⟨p,_,rfl,kp,rfl⟩,Bool.and_eq_true_iff.mpr ⟨a,T2 ?_⟩,by decide +kernel,?_⟩
 ·simp [O1,b]
 ·have e:T6 (.list (fs.map .str)) (.list [])=fs.isEmpty:=by
   cases fs with
   |nil=>simp [T6,i6]
   |cons x r=>simp [T6,i6]
  rw [e];exact q
def zG:RDn:=λds h Q=> ∃w,ds= [.str w,.int 12]/\Pl 990 w/\Q (vG w) h
theorem yn (Z:Zs mg)(F:Fun K "_law_number_in" "_law_number_in" zd f fd)(wJ:mg "str" =none):FnOk P w K mg base CX0 (n+1) f fd ["_law_word","_law_most"] (LSp K zG):=by
 have m_str:=wJ;refine F.okM zF (λhr=>(js2 (vS (jpt (Gd (wA (Vu UE UE jz (zm Jk rfl Z.len W3 (j1 (jv 0))) (jv 1))) (Gc (jt1 (Ra hr.units) (jl1 2 zF (XG (jv 0)) (λ_ _ _ _=>(Vt VJ (jv 2) jR (by with_unfolding_all rfl))) (λ_ _ _ _=>(jv 2))) (yq jV))))) (wm XB)) (wm (jif (jt1 oq_eq (jX VM rfl m_str (by decide +kernel) (j1 (jX ZY rfl Z.int (by decide +kernel) (j1 (jv 0))))) (jv 0)) (jX ZY rfl Z.int (by decide +kernel) (j1 (jv 0))) XB)))) ?_;rintro ds h Q ⟨w,rfl,pw,q⟩;refine⟨rfl,?_⟩;have hl':w.cps.toList.length=w.length:=M5;have hl:=pw.len;have line:w.length<=sizeLine:=M3 (jQ (by omega));have bad:wrB 12 w=false->Q .non h:=λz=>by unfold vG at q;rw [z] at q;exact q
 refine jj (λnE h'=>nE= [some (.str w),some (.int 12),none]/\Sub h h'/\1<=w.length/\w.length<=12/\(w.cps.toList.all λc=>decide (c∈(G3 "0123456789").cps.toList))=true) (λC hC=>⟨_,rfl,w,rfl,line,_,rfl,Wr (λa=>⟨_,rfl,_,rfl,?_⟩) (λa=>⟨_,rfl,vx (vx ⟨h,Sub.refl h,bad ?_⟩)⟩)⟩) ?_
 ·have a:=M0 a;show if (!decide ((w.length:P9)<=(12:P9)))=true then _ else _
  cases hb:decide ((w.length:P9)<=(12:P9)) with
  |true=>
   have b:=M0 hb;refine wu (Ud (lcF w.cps.toList (λc=> .str ⟨#[c]⟩) (λc=> .str ⟨#[c]⟩) (λc=> !decide (c∈(G3 "0123456789").cps.toList)) (by omega) rfl (λR r=>⟨_,rfl,w,rfl,r⟩) (λc hc Q' q'=>⟨_,rfl,c,rfl,_,rfl,q'⟩) (λc hc _ Q' q'=>⟨_,rfl,q'⟩) λB eB=>⟨sz0,λp ep=> ?_⟩));have hfs:(w.cps.toList.filter λc=> !decide (c∈(G3 "0123456789").cps.toList)).map (λc=>D.str ⟨#[c]⟩)=((w.cps.toList.filter λc=> !decide (c∈(G3 "0123456789").cps.toList)).map λc=>(⟨#[c]⟩:Str)).map D.str:=by rw [O0];rfl
   rw [hfs] at ep ⊢;refine GP (jc ja ep) ja (λs hs=> ?_) ⟨_,rfl,?_⟩
   ·obtain⟨c,hc,rfl⟩:=T1.mp hs;have:=pw.sg c (cE.mp hc).1;exact(show Pl 1 (⟨#[c]⟩:Str) from ⟨P0 1,λx hx=>by rw [R6.mp hx];exact this⟩).lay
   ·rw [show ((w.cps.toList.filter λc=> !decide (c∈(G3 "0123456789").cps.toList)).map λc=>(⟨#[c]⟩:Str)).isEmpty=(w.cps.toList.all λc=>decide (c∈(G3 "0123456789").cps.toList)) from ?_]
    ·cases hc:w.cps.toList.all (λc=>decide (c∈(G3 "0123456789").cps.toList)) with
     |true=>exact wu (hC _ _ ⟨rfl,Sub.newAt (Sub.new eB) ep,by omega,by omega,hc⟩)
     |false=>exact vx ⟨h,Sub.newAt (Sub.new eB) ep,bad (by unfold wrB;rw [hc,W5,M7])⟩
    ·rw [List.isEmpty_map,U1,List.isEmpty_iff,List.filter_eq_nil_iff,D7];refine i7 λc=>i7 λ_=> ?_
     cases decide (c∈(G3 "0123456789").cps.toList)<;>simp
  |false=>
   have b:=eT hb;exact vx (vx ⟨h,Sub.refl h,bad (by unfold wrB;rw [S0 (p:=w.length<=12) (by omega),W5,M7,M7])⟩)
 ·have a: ¬1<=w.length:=λz=>a (T2 (by omega))
  unfold wrB;rw [S0 a,M7,M7,M7]
 rintro _ h2 ⟨rfl,sb,a,b,c⟩;have hd:bE w.cps.toList:=λx hx=>(Bp x).mp (M0 (D7.mp c x hx))
 have wi:iF w=some (zV w):=PySem.intText_digits hd (λe=>by rw [e] at hl';simp at hl';omega) (by omega);have lt:=Uc _ _ rfl hd;rw [hl'] at lt;have lt2:(zV w)<2^200:=by
  have:J8 w.cps.toList<10^12:=P3 lt (C4 (by decide) b);unfold zV;have b12:(10:P4)^12<=2^200:=by decide +kernel
  have c1:((2^200:P4):P9)=2^200:=by simp
  omega
 have lg:=lgN (aQ (J8 w.cps.toList)) lt2;have cn:=NB hd a;have wv:wrB 12 w=decide (num (zV w)=w):=by unfold wrB;rw [T2 a,T2 b,c,cn];rfl
 unfold vG at q;rw [wv] at q;refine⟨_,rfl,w,zV w,rfl,by omega,wi,zV w,rfl,lg,_,rfl,_,rfl,?_⟩;show if decide (num (zV w)=w)=true then _ else _
 cases e:decide (num (zV w)=w) with
 |true=>rw [e] at q;exact vx ⟨_,rfl,w,zV w,rfl,by omega,wi,h,sb,q⟩
 |false=>rw [e] at q;exact wu ⟨h,sb,q⟩
def inD (z:Str):D:=if 6<(jh z).length then .int 0 else match yD z with
 |some i=> .int (i:P9)
 |none=>RL z
def Jx (w:Str):B9:=if wrB 12 w=true then .int (zV w) else .none
theorem vV (h:HD): ∀ws:G0 Str,ToPs h (ws.map vG) (ws.map Jx)
 | []=>rfl
 |w::ws=>by
  refine⟨_,_,rfl,?_,vV h ws⟩;unfold vG Jx;cases wrB 12 w<;>rfl
theorem ZA: ∀ws:G0 Str,B8 (ws.map Jx)=true
 | []=>rfl
 |w::ws=>by
  show ((Jx w).canLay0&&B8 (ws.map Jx))=true;rw [ZA ws];unfold Jx;cases wrB 12 w<;>rfl
theorem Ue (ws:G0 Str):((ws.map Jx).any λy=>T6 y .none)= !ws.all (wrB 12):=by
 induction ws with
 |nil=>rfl
 |cons w ws ih=>
  rw [N7,dO,ih,dQ];unfold Jx;cases wrB 12 w<;>simp [T6]
theorem Yw (g: ∀w∈ws,wrB 12 w=true):ws.map vG=(ws.map zV).map D.int:=by
 rw [O0];exact dJ λw hw=>by unfold vG;rw [g w hw];rfl
theorem Uf {r:Str}(h:(S9 z "/")[i]? =some r):(jh z)[i]? =some (S9 r " "):=by unfold jh;rw [R4,h];rfl
theorem GQ {v:Str}(h:Pl b z){ws:G0 Str}(hw:ws∈jh z)(hv:v∈ws):Pl b v:=by
 obtain⟨r,hr,rfl⟩:=T1.mp hw;exact(h.part hr).part hv
def zT:RDn:=λds h Q=> ∃d,ds= [d]/\((∃n,yp d=some n/\QU "str" n=false/\Q (.int (-1)) h)\/ ∃z,d= .str z/\Pl 990 z/\ ∀h',Sub h h'->Q (inD z) h')
theorem yE (Z:Zs mg)(F:Fun K "_law_table_in" "_law_table_in" zq f fd)(yF:jN P w K mg base n "_law_number_in" ["_law_word","_law_most"] zG)(wJ:mg "str" =none):FnOk P w K mg base CX0 (n+1) f fd ["_law_text_here"] (LSp K zT):=by
 have m_str:=wJ;refine F.okM jH (λhr=>(js6 (vS (wA (zY (Zb (T:= "str") (by decide) rfl Z.isinstance rfl m_str (by decide +kernel) (jv 0)))) (wm (Nn jz))) (jse 1 jH (wR (jv 0) jR)) (vS (jt1 UF (WK Z (jv 1)) jz) (wm jz)) (jse 2 jH (yq jV)) (Gh A1 rfl (Jh rfl Z.enumerate (j1 (jv 1))) (WE (i:=3) (j:=4) rfl jH.nd rfl rfl (L9 rfl) (L9 rfl)) (js3 (WF (i:=6) (k:=5) (js:= [6]) rfl jH.nd rfl (L9 rfl) (zi (by rfl)) (zR (wR (jv 4) jR)) (by decide) rfl (by first|exact L9 rfl|exact X6 rfl) (λX' hX=>vc) (λX' hX=>by obtain⟨C,s₀,H₀,ex,rfl⟩:=hX;exact(jk yF hr (j2 (jv 6) jz)))) (vS (jpt (Gd (jt1 oq_ne (WK Z (jv 5)) (WK Z (jv 1))) (Gc (Vt (Rc hr.units) XB (jv 5) (by with_unfolding_all rfl))))) (wm (jv 3))) (Gf (Nm (jv 2) (jX cq_tuple rfl Z.tuple (by decide +kernel) (j1 (jv 5))))))) (wm (jX cq_tuple rfl Z.tuple (by decide +kernel) (j1 (jv 2)))))) ?_;rintro ds h Q ⟨d,rfl,q⟩;refine⟨rfl,?_⟩;rcases q with ⟨n,hn,nt,q⟩|⟨z,rfl,pz,q⟩
 ·refine jj (λ_ _=>False) (λC hC=>⟨_,rfl,n,hn,_,rfl,?_⟩) (λ_ _ z=>z.elim);rw [nt];exact vx ⟨h,Sub.refl h,q⟩
 have hz:=pz.len;have few:=wU z "/";have lr:(jh z).length=(S9 z "/").length:=G8 ..;refine Zj [some (.str z),none,none,none,none,none,none] (λC hC=>⟨_,rfl,"str",rfl,_,rfl,wu (hC)⟩) ?_;refine jj (λnE h'=> ∃R,nE= [some (.str z),some (.lst R),none,none,none,none,none]/\h' R=some ((S9 z "/").map D.str)/\Sub h h') (λC hC=>⟨_,rfl,z,rfl,_,rfl,by decide,by rw [O3];omega,λR eR=>hC _ _ ⟨R,rfl,ja,.new eR⟩⟩) ?_;rintro _ h2 ⟨R,rfl,kR,sb⟩;refine jj (λnE h'=>nE= [some (.str z),some (.lst R),none,none,none,none,none]/\h2=h'/\(jh z).length<=6) (λC hC=>⟨_,rfl,_,kR,_,rfl,?_⟩) ?_
 ·show if decide ((((S9 z "/").map D.str).length:P9)>6)=true then _ else _
  rw [G8,<-lr]
  by_cases big:6<(jh z).length
  ·rw [T2 (show ((jh z).length:P9)>6 by omega)];refine vx ⟨_,Sub.refl _,?_⟩;have:=q h2 sb;unfold inD at this;rw [S2 big] at this;exact this
  ·rw [S0 (show ¬ ((jh z).length:P9)>6 by omega)];exact wu (hC _ _ ⟨rfl,rfl,by omega⟩)
 rintro _ _ ⟨rfl,rfl,h6⟩;have inq: ∀h',Sub h h'->Q (match yD z with|some i=>D.int (i:P9)|none=>RL z) h':=λh' s=>by
  have:=q h' s;unfold inD at this;rw [S6 (by omega)] at this;exact this
 refine jj (λnE h'=> ∃F,nE= [some (.str z),some (.lst R),some (.lst F),none,none,none,none]/\h' R=some ((S9 z "/").map D.str)/\h' F=some []/\R≠F/\h F=none/\Sub h h') (λC hC=>⟨sz0,λF eF=>hC _ _ ⟨F,rfl,jc kR eF,ja,C5 (ju kR eF),UV sb eF,sb.newAt eF⟩⟩) ?_;clear kR sb;rintro _ h3 ⟨F,rfl,kR,kF,nRF,fF,sb⟩;refine jj (λnE h'=> ∃a b c d,nE= [some (.str z),some (.lst R),some (.lst F),a,b,c,d]/\h' F=some (((jh z).take (jh z).length).map λws=>vy (ws.map zV))/\Sub h h'/\yD z=none) (λC hC=>WC (h1:=h3) (j:=λh=>(h R).map Ze) (Ze ((S9 z "/").map D.str)) (λi nE h'=> ∃a b c d,nE= [some (.str z),some (.lst R),some (.lst F),a,b,c,d]/\h' R=some ((S9 z "/").map D.str)/\h' F=some (((jh z).take i).map λws=>vy (ws.map zV))/\Sub h h'/\ ∀j ws,j<i->(jh z)[j]? =some ws->wV (jh z).length ws=true) (λR' r=>⟨_,rfl,R,rfl,r⟩) (λi nE h' ⟨_,_,_,_,_,k,_⟩=>by show (h' R).map Ze=_;rw [k];rfl) ⟨none,none,none,none,rfl,kR,kF,sb,λj ws hj=>absurd hj (Nat.not_lt_zero _)⟩ (λnE h' ⟨a,b,c,d,e,_,k,s,g⟩=>hC _ _ ⟨a,b,c,d,e,by rw [k,zn,G8,<-lr],s,RM λws hw=>by
  obtain⟨j,hj,e⟩:=dL hw;exact g j ws (by rw [zn,G8,<-lr];exact hj) (P1.mpr ⟨hj,e⟩)⟩) ?_) ?_
 ·clear kR kF sb;rintro i d _ h4 hd ⟨a,b,c,e,rfl,kR,kF,sb,lo⟩;obtain⟨x,hx,rfl⟩:=yL hd;have hil:i+1<=(Ze ((S9 z "/").map D.str)).length:=(P1.mp hd).1;rw [R4] at hx;obtain⟨r,hr,rfl⟩:=L8.mp hx;have pr:=pz.part (S7 hr);have hw:=Uf hr;have fw:=wU r " ";have prl:=pr.len;generalize hws:S9 r " " =ws at hw fw;have iln:i<(jh z).length:=(P1.mp hw).1;refine⟨_,_,rfl,?_⟩;show zQ _ _ _ [some (.str z),some (.lst R),some (.lst F),some (.int (i:P9)),some (.str r),c,e] h4;refine jj (λnE h'=> ∃N e,nE= [some (.str z),some (.lst R),some (.lst F),some (.int (i:P9)),some (.str r),some (.lst N),e]/\h' N=some (ws.map vG)/\h' R=some ((S9 z "/").map D.str)/\h' F=some (((jh z).take i).map λws=>vy (ws.map zV))/\Sub h h') (λC2 hC2=>Rp ws D.str vG (λA h1=>h1 A=some (ws.map D.str)/\h1 R=some ((S9 z "/").map D.str)/\h1 F=some (((jh z).take i).map λws=>vy (ws.map zV))/\Sub h h1) (by omega) (λR' r'=>⟨_,rfl,r,rfl,_,rfl,by decide,by rw [O3];omega,λA eA=>by rw [hws];exact r' A _ ⟨ja,jc kR eA,jc kF eA,sb.newAt eA⟩⟩) (λA h1 z=>z.1) (λA h1 _ w hwm Q' q'=>⟨_,rfl,w,rfl,GQ pz (S7 hw) hwm,q'⟩) λA h1 ⟨_,k1,k2,s⟩ p ep=>hC2 _ _ ⟨p,_,rfl,ja,jc k1 ep,jc k2 ep,s.newAt ep⟩) ?_;clear kR kF sb;rintro _ h5 ⟨N,e,rfl,kN,kR,kF,sb⟩;have grd:wV (jh z).length ws=(decide (ws.length=(jh z).length)&&ws.all (wrB 12)):=rfl;refine jj (λnE h'=>nE= [some (.str z),some (.lst R),some (.lst F),some (.int (i:P9)),some (.str r),some (.lst N),e]/\h5=h'/\wV (jh z).length ws=true) (λC2 hC2=>⟨_,rfl,_,kN,_,rfl,_,kR,_,rfl,?_⟩) ?_
  ·show if (!decide (((ws.map vG).length:P9)=(((S9 z "/").map D.str).length:P9)))=true then _ else _
   have out:wV (jh z).length ws=false-> ∃h2,Sub h2 h5/\Q (.int (i:P9)) h2:=λg=>⟨_,Sub.refl _,by
    have:=inq h5 sb;rw [RO hw g lo] at this;exact this⟩
   rw [G8,G8,<-lr]
   by_cases g:ws.length=(jh z).length
   ·rw [T2 (show (ws.length:P9)=((jh z).length:P9) by rw [g])];refine wu ⟨_,rfl,.none,ws.map Jx,rfl,.inl ⟨N,_,rfl,kN,vV _ _⟩,rfl,ZA _,by simp [O1],_,rfl,?_⟩;rw [Ue];cases al:ws.all (wrB 12) with
    |true=>exact wu (hC2 _ _ ⟨rfl,rfl,by rw [grd,T2 g,al];rfl⟩)
    |false=>exact vx ⟨_,rfl,out (by rw [grd,al,W5])⟩
   ·rw [S0 (show ¬ (ws.length:P9)=((jh z).length:P9) by omega)];exact vx (vx ⟨_,rfl,out (by rw [grd,S0 g,M7])⟩)
  rintro _ _ ⟨rfl,rfl,g⟩;obtain⟨g1,g2⟩:=Jt g;refine⟨_,rfl,F,rfl,_,rfl,_,kN,_,kF,?_,_,Sub.refl _,hil,_,_,_,_,rfl,?_,?_,?_,λj ws' hj e'=> ?_⟩
  ·rw [G8,M8];exact O6 (show _<=6 by omega) (by decide)
  ·rw [zc nRF];exact kR
  ·rw [ja,J7,hw,A3,Yw g2];rfl
  ·exact sb.over fF
  ·by_cases ji:j=i
   ·subst ji;rw [hw] at e';cases e';exact g
   ·exact lo j ws' (by omega) e'
 clear kR kF sb;rintro _ h4 ⟨a,b,c,d,rfl,kF,sb,bn⟩;refine⟨_,rfl,_,kF,_,Sub.refl _,?_⟩;have:=inq h4 sb;rw [bn] at this;rw [gI];show Q (.tup ((jh z).map λws=>vy (ws.map zV))) h4;rw [show ((jh z).map λws=>vy (ws.map zV))=((jh z).map (·.map zV)).map vy from by rw [O0];rfl];exact this
def RV:RDn:=λds h Q=>match ds with
 | [.int i,.int j]=>Q (.int (if j<i then j else i)) h
 |_=>False
theorem GR {X:Cx}(hc:X.calm=true):wk X (.builtin "min") RV:=(YR hc).imp λxs H Q ⟨ds,h,Qd,r,rh,q,p⟩=>by
 unfold RV at q;split at q
 ·rename_i i j;obtain⟨v,w,e,r1,r2⟩:=wN r;cases (show v= .int i from r1);cases (show w= .int j from r2);exact⟨i,j,e,p (.int _) _ _ _ (.refl H) rh rfl q⟩
 ·exact q.elim
theorem RW {T:G0 (G0 P9)}(g:GoodTab n T)(h6:n<=6){r:G0 P9}(hr:r∈T):Pl 78 (zW r):=by
 have gr:=g.2 r hr;have:=Pl.join (b:=12) (s:=1) (sep:=⟨#[32]⟩) ⟨by decide,by decide⟩ (ys:=r.map num) λy hy=>by
  obtain⟨x,hx,rfl⟩:=T1.mp hy;have:=gr.2 x hx;exact⟨R8 (PySem.W.KT.len_num this.1 (by omega)) (by decide),λc hc=>by have:=ZZ this.1 c hc;omega⟩
 rw [G8,gr.1] at this;unfold zW;rw [yj,sp1];exact this.mono (by omega)
theorem XN {ys:G0 Str}(h: ∀y∈ys,Pl 78 y)(l7:ys.length<=7):Pl 560 (bP "/" ys)/\(ys.map (·.length)).sum+ys.length*(G3 "/").length<=16777216:=by
 refine⟨?_,?_⟩
 ·rw [yj,sl1];exact(Pl.join (b:=78) (s:=1) (sep:=⟨#[47]⟩) ⟨by decide,by decide⟩ h).mono (by omega)
 ·have:=yM (b:=78) λy hy=>(h y hy).len
  show _+ys.length*1<=_;omega
theorem RX {T:G0 (G0 P9)}(g:GoodTab n T)(h6:n<=6):Pl 480 (VR T):=by
 have:=Pl.join (b:=78) (s:=1) (sep:=⟨#[47]⟩) ⟨by decide,by decide⟩ (ys:=T.map zW) λy hy=>by
  obtain⟨r,hr,rfl⟩:=T1.mp hy;exact RW g h6 hr
 rw [G8,g.1] at this;unfold VR;rw [yj,sl1];exact this.mono (by omega)
theorem wY {a:P4}{x y:Str}(h1:Pl a x)(h2:Pl b y)(hab:a+b<=10000:=by decide):x.length+y.length<=sizeLine:=by
 have:=h1.len;have:=h2.len;rw [O3];omega
theorem GT {l:G0 Str}{ds:G0 D}{i:P9}{y:Str}(e:ds=l.map D.str)(h:atI l i=some y):atI ds i=some (.str y):=by
 subst e;exact Vi D.str h
theorem Wf {α:Type}{xs:G0 α}{lo hi:G6 P9}{y:α}(h:y∈zU xs lo hi):y∈xs:=List.mem_of_mem_drop (List.mem_of_mem_take h)
theorem GV {α:Type}(xs:G0 α)(lo hi:G6 P9):(zU xs lo hi).length<=xs.length:=by
 unfold zU;rw [M8,E2];omega
theorem GX {α:Type}(xs:G0 α){i:P9}(h0:0<=i):(zU xs (some i) (some (i+1))).length<=1:=by
 unfold zU HT.sIx;rw [M8,E2];have a: ¬i<0:=by omega
 have b: ¬i+1<0:=by omega
 simp only [a,b,bK];omega
def wt:RDn:=λds h Q=> ∃p l fl z T,∃n:P4,ds= [.lst p,.str z]/\z=VR T/\h p=some [.int l,.int fl]/\0<=l/\GoodTab n T/\1<=n/\n<=6/\ ∀y l' h',Pl 990 y->But p h h'->h' p=some [.int l',.int fl]->0<=l'->Q (.str y) h'
theorem vH (Z:Zs mg)(F:Fun K "_law_spoilt" "_law_spoilt" zM f fd)(jl:jN P w K mg base n "_law_draw" ["_law_pen_here","_law_many"] za):FnOk P w K mg base CX0 (n+1) f fd ["_law_pen_here","_law_text_here"] (LSp K wt):=by
 refine F.okM jw (λhr=>(js8 (jse 2 jw (jk jl hr (j2 (jv 0) (jop jG (zm Jk rfl Z.len W3 (j1 (jv 1))) jz)))) (jse 3 jw (Rt jR (jk jl hr (j2 (jv 0) jz)) (λ_ _=>rfl))) (jse 4 jw (zm (GR rfl) rfl Z.min (by decide +kernel) (j2 (zm Jk rfl Z.len W3 (j1 (jv 1))) (jop jG (jop jG (jv 2) jz) (jk jl hr (j2 (jv 0) jz)))))) (jse 5 jw (wR (jv 1) jR)) (jse 6 jw (jk jl hr (j2 (jv 0) (WK Z (jv 5))))) (jse 7 jw (yq (j3 (jop zL (jop zL (XJ (jv 1) zy (jS (jv 2))) (jv 3)) (XJ (jv 1) (jS (jv 2)) zy)) (jop zL (XJ (jv 1) zy (jS (jv 2))) (XJ (jv 1) (jS (jop jG (jv 2) jz)) zy)) (jop zL (jop zL (XJ (jv 1) zy (jS (jv 2))) (jv 3)) (XJ (jv 1) (jS (jop jG (jv 2) jz)) zy))))) (jse 7 jw (jop jG (jv 7) (yq (j3 (jop zL (XJ (jv 1) zy (jS (jv 4))) (XJ (jv 1) (jS (jv 2)) zy)) (GA jR (jop jG (WG (jv 5) zy (jS (jv 6))) (WG (jv 5) (jS (jop jG (jv 6) jz)) zy))) (GA jR (jop jG (jv 5) (WG (jv 5) (jS (jv 6)) (jS (jop jG (jv 6) jz))))))))) (wm (ji1 (jop jG (jv 7) (yq (j3 (jop zL (jv 1) jR) (jop zL jR (jv 1)) (jop zL (jv 1) jR)))) (jk jl hr (j2 (jv 0) jz)))))) ?_;rintro ds h Q ⟨p,l,fl,z,T,n,rfl,ez,hp,h0,gT,n1,n6,q⟩;refine⟨rfl,?_⟩;have hT:=gT.sq;have pz:Pl 480 z:=by rw [ez];exact RX gT n6
 have hz:=pz.len;have line:z.length<=sizeLine:=by rw [O3];omega
 have ps: ∀lo hi,Pl 480 (dE z lo hi):=λlo hi=>pz.slice lo hi
 have es:S9 z "/" =T.map zW:=by rw [ez];exact VS hT n1
 have pr: ∀y∈T.map zW,Pl 78 y:=λy hy=>by obtain⟨r,hr,rfl⟩:=T1.mp hy;exact RW gT n6 hr
 have lT:(T.map zW).length=n:=by rw [G8,hT.len]
 refine jj (λnE h'=> ∃a l1,nE= [some (.lst p),some (.str z),some (.int a),none,none,none,none,none]/\h' p=some [.int l1,.int fl]/\0<=l1/\But p h h') (λC hC=>⟨_,rfl,_,rfl,z,rfl,line,p,l,fl,_,rfl,hp,h0,by omega,by omega,λr l1 r0 r1 l10=>hC _ _ ⟨r,l1,rfl,ja,l10,.upd⟩⟩) ?_;rintro _ h1 ⟨a,l1,rfl,kp,l10,bt⟩;refine jj (λnE h'=> ∃c l2,nE= [some (.lst p),some (.str z),some (.int a),some (.str c),none,none,none,none]/\h' p=some [.int l2,.int fl]/\0<=l2/\But p h h'/\Pl 1 c) (λC hC=>⟨_,rfl,p,l1,fl,15,rfl,kp,l10,by decide,by decide,λr l2 r0 r1 l20=> ?_⟩) ?_
 ·obtain⟨c,hc,ec⟩:=yh (xs:=(G3 "0123456789 /-+x").cps.toList) r0 (show r<(((G3 "0123456789 /-+x").cps.toList.length:P4):P9) from aS r1 (by decide +kernel));have ok: ∀c∈(G3 "0123456789 /-+x").cps.toList,32<=c/\c<=126:=by decide +kernel
  exact⟨c,by decide +kernel,ec,hC _ _ ⟨⟨#[c]⟩,l2,rfl,ja,l20,bt.put,P0 1,λx hx=>by rw [R6.mp hx];exact ok c hc⟩⟩
 clear kp l10 bt;rintro _ h2 ⟨c,l2,rfl,kp,l20,bt,pc⟩;refine jj (λnE h'=> ∃t l3,nE= [some (.lst p),some (.str z),some (.int a),some (.str c),some (.int t),none,none,none]/\h' p=some [.int l3,.int fl]/\0<=l3/\But p h h') (λC hC=>⟨_,rfl,z,rfl,line,_,rfl,_,rfl,p,l2,fl,4,rfl,kp,l20,by decide,by decide,λr l3 r0 r1 l30=>hC _ _ ⟨_,l3,rfl,ja,l30,bt.put⟩⟩) ?_;clear kp l20 bt;rintro _ h3 ⟨t,l3,rfl,kp,l30,bt⟩;refine jj (λnE h'=> ∃R,nE= [some (.lst p),some (.str z),some (.int a),some (.str c),some (.int t),some (.lst R),none,none]/\h' p=some [.int l3,.int fl]/\0<=l3/\But p h h'/\h' R=some ((T.map zW).map D.str)/\R≠p) (λC hC=>⟨_,rfl,z,rfl,_,rfl,by decide,by rw [O3];omega,λR eR=>hC _ _ ⟨R,rfl,jc kp eR,l30,bt.new eR,by rw [ja,es],ju kp eR⟩⟩) ?_;clear kp l30 bt;rintro _ h4 ⟨R,rfl,kp,l30,bt,kR,nR⟩;refine jj (λnE h'=> ∃r l4,nE= [some (.lst p),some (.str z),some (.int a),some (.str c),some (.int t),some (.lst R),some (.int r),none]/\h' p=some [.int l4,.int fl]/\0<=l4/\But p h h'/\h' R=some ((T.map zW).map D.str)/\R≠p/\0<=r) (λC hC=>⟨_,rfl,_,rfl,_,kR,p,l3,fl,_,rfl,kp,l30,by rw [G8,lT];omega,by rw [G8,lT];omega,λr l4 r0 r1 l40=>hC _ _ ⟨r,l4,rfl,ja,l40,bt.put,jq nR kR,nR,r0⟩⟩) ?_;clear kp l30 bt kR;rintro _ h5 ⟨r,l4,rfl,kp,l40,bt,kR,_,r0⟩;refine jj (λnE h'=> ∃S x1 x2 x3,nE= [some (.lst p),some (.str z),some (.int a),some (.str c),some (.int t),some (.lst R),some (.int r),some (.lst S)]/\h' p=some [.int l4,.int fl]/\0<=l4/\But p h h'/\h' R=some ((T.map zW).map D.str)/\R≠p/\h' S=some [.str x1,.str x2,.str x3]/\Pl 990 x1/\Pl 990 x2/\Pl 990 x3) (λC hC=> ?_) ?_
 ·refine⟨_,rfl,_,rfl,a,rfl,z,rfl,line,_,rfl,wY (ps _ _) pc,_,rfl,_,rfl,a,rfl,z,rfl,line,wY ((ps _ _).cat pc) (ps _ _),_,rfl,_,rfl,a,rfl,z,rfl,line,_,rfl,_,rfl,a+1,rfl,z,rfl,line,wY (ps _ _) (ps _ _),_,rfl,_,rfl,a,rfl,z,rfl,line,_,rfl,wY (ps _ _) pc,_,rfl,_,rfl,a+1,rfl,z,rfl,line,wY ((ps _ _).cat pc) (ps _ _),sz3,λS eS=>hC _ _ ⟨S,_,_,_,rfl,jc kp eS,l40,bt.new eS,jc kR eS,nR,ja,(((ps _ _).cat pc).cat (ps _ _)).mono (by decide),((ps _ _).cat (ps _ _)).mono (by decide),(((ps _ _).cat pc).cat (ps _ _)).mono (by decide)⟩⟩
 clear kp bt kR;rintro _ h6 ⟨S,x1,x2,x3,rfl,kp,_,bt,kR,_,kS,p1,p2,p3⟩;have cm: ∀lo hi,zU ((T.map zW).map D.str) lo hi=(zU (T.map zW) lo hi).map D.str:=λlo hi=>Vp _ _ lo hi
 have lc: ∀lo hi,(zU (T.map zW) lo hi).length<=6:=λlo hi=>R8 (GV _ lo hi) (by omega)
 have sm: ∀k:P4,k<=100->k<=sizeLine:=λk hk=>M3 (jQ (by omega))
 obtain⟨j1,b1⟩:=XN (ys:=zU (T.map zW) none (some r)++zU (T.map zW) (some (r+1)) none) (λy hy=>pr y ((R5.mp hy).elim Wf Wf)) (by
  have a1: ¬r<0:=by omega
  have a2: ¬r+1<0:=by omega
  unfold zU HT.sIx;simp only [S1,M8,E2,a1,a2,bK];omega)
 obtain⟨j2,b2⟩:=XN (ys:=T.map zW++zU (T.map zW) (some r) (some (r+1))) (λy hy=>pr y ((R5.mp hy).elim id Wf)) (by have:=GX (T.map zW) r0;rw [S1];omega);refine jj (λnE h'=> ∃S,∃xs:G0 Str,nE= [some (.lst p),some (.str z),some (.int a),some (.str c),some (.int t),some (.lst R),some (.int r),some (.lst S)]/\h' p=some [.int l4,.int fl]/\0<=l4/\But p h h'/\h' S=some (xs.map D.str)/\(∀x∈xs,Pl 990 x)/\xs.length=6) (λC hC=> ?_) ?_
 ·refine⟨_,rfl,_,rfl,_,rfl,t,rfl,z,rfl,line,_,rfl,_,rfl,a,rfl,z,rfl,line,wY (ps _ _) (ps _ _),_,rfl,?_⟩;refine⟨_,rfl,_,rfl,r,rfl,_,kR,λA eA=>⟨_,rfl,_,rfl,r+1,rfl,_,jc kR eA,λB eB=>⟨_,_,jc ja eB,ja,?_,λD' eD=> ?_⟩⟩⟩
  ·rw [cm,cm,G8,G8];exact sm _ (by have:=lc none (some r);have:=lc (some (r+1)) none;omega)
  have kR2:=jc (M:=(zU ((T.map zW).map D.str) none (some r)++zU ((T.map zW).map D.str) (some (r+1)) none)) (jc (jc kR eA) eB) eD;have kS2:=jc (M:=(zU ((T.map zW).map D.str) none (some r)++zU ((T.map zW).map D.str) (some (r+1)) none)) (jc (jc kS eA) eB) eD;have kp2:=jc (M:=(zU ((T.map zW).map D.str) none (some r)++zU ((T.map zW).map D.str) (some (r+1)) none)) (jc (jc kp eA) eB) eD;have bt2:=((bt.new eA).new eB).new (L:=(zU ((T.map zW).map D.str) none (some r)++zU ((T.map zW).map D.str) (some (r+1)) none)) eD;refine⟨D',zU (T.map zW) none (some r)++zU (T.map zW) (some (r+1)) none,rfl,by rw [ja,cm,cm,A3],b1,_,rfl,_,rfl,_,rfl,_,rfl,r,rfl,_,rfl,r+1,rfl,_,kR2,λE eE=>⟨_,_,jc kR2 eE,ja,?_,λG eG=>⟨G,T.map zW++zU (T.map zW) (some r) (some (r+1)),rfl,by rw [ja,cm,A3],b2,sz3,λL eL=>⟨_,_,jc (jc (jc kS2 eE) eG) eL,ja,(by show 3+3<=sizeLine;decide),λM eM=>hC _ _ ⟨M,[x1,x2,x3,_,_,_],rfl,jc (jc (jc (jc kp2 eE) eG) eL) eM,l40,(((bt2.new eE).new eG).new eL).new eM,by rw [ja];rfl,?_,rfl⟩⟩⟩⟩⟩
  ·simp only [cm,G8,hT.len];exact sm _ (by have:=lc (some r) (some (r+1));omega)
  ·intro x hx;simp only [P2,T3,or_false] at hx;rcases hx with e|e|e|e|e|e<;>subst e
   ·exact p1
   ·exact p2
   ·exact p3
   ·exact((ps _ _).cat (ps _ _)).mono (by decide)
   ·exact j1.mono (by decide)
   ·exact j2.mono (by decide)
 clear kp bt kR kS;rintro _ h7 ⟨S,xs,rfl,kp,_,bt,kS,px,lx⟩;have pb:Pl 1 (G3 " "):=⟨by decide,by decide⟩;have pq:Pl 1 (G3 "/"):=⟨by decide,by decide⟩;refine⟨_,rfl,_,rfl,wY pz pb,_,rfl,wY pb pz,_,rfl,wY pz pq,sz3,λX eX=>⟨_,_,jc kS eX,ja,?_,λY eY=>⟨_,rfl,p,l4,fl,9,rfl,jc (jc kp eX) eY,l40,by decide,by decide,λu l5 u0 u1 l50=> ?_⟩⟩⟩
 ·rw [G8,lx];show 6+3<=sizeLine;decide
 ·obtain⟨y,hy,ey⟩:=yh (xs:=xs++ [z++G3 " ",G3 " " ++z,z++G3 "/"]) u0 (by rw [S1,lx];exact u1);have py:Pl 990 y:=by
   rcases R5.mp hy with hy|hy
   ·exact px y hy
   ·simp only [P2,T3,or_false] at hy;rcases hy with e|e|e<;>subst e
    ·exact(pz.cat pb).mono (by decide)
    ·exact(pb.cat pz).mono (by decide)
    ·exact(pz.cat pq).mono (by decide)
  have nY:Y≠p:=ju (jc kp eX) eY;exact⟨_,.str y,jq nY ja,GT (by rw [A3];rfl) ey,_,Sub.refl _,q y l5 _ py ((bt.new eX).new eY).put ja l50⟩
/-- refused,at this row -/
def rdD (d:D)(k:P9):Prop:=(∃n,yp d=some n/\QU "str" n=false/\k= -1)\/ ∃z,d= .str z/\z.length<=990/\((6<(jh z).length/\k=0)\/ ∃i:P4,(jh z).length<=6/\yD z=some i/\k=(i:P9))
def Xj (d:D)(z:Str):Prop:=d= .str z/\z.length<=990/\(jh z).length<=6/\yD z=none
theorem GY {d:D}(g:Xj d z):Sq (jh z).length 40 ((jh z).map (·.map zV)):=by
 obtain⟨_,_,_,b⟩:=g;have gd:=λws hw=>Jt (WO b ws hw)
 refine⟨G8 ..,λr hr=> ?_,λr hr x hx=> ?_,λr hr x hx=> ?_⟩
 ·obtain⟨ws,hw,rfl⟩:=T1.mp hr;rw [G8];exact(gd ws hw).1
 ·obtain⟨ws,hw,rfl⟩:=T1.mp hr;obtain⟨w,hw',rfl⟩:=T1.mp hx;exact aQ _
 ·obtain⟨ws,hw,rfl⟩:=T1.mp hr;obtain⟨w,hw',rfl⟩:=T1.mp hx;obtain⟨hd,_,l⟩:=Zm ((gd ws hw).2 w hw');have lt:=Uc _ _ rfl hd;rw [M5] at lt;have l2:(10:P4)^w.cps.size<=10^12:=C4 (by decide) l;have l3:(10:P4)^12<2^40:=by decide
  show ((J8 w.cps.toList:P4):P9)<2^40;have c:((2^40:P4):P9)=2^40:=by simp
  omega
theorem GZ {d:D}(g:Xj d z):ShowOk (.tuple [.str "told",Pf ((jh z).map (·.map zV))]):=by
 refine(ShowB.tup (k:=2) (b:=3000) λp hp=> ?_).ok (by decide) (by show 3002*2+3<=_;decide);simp only [P2,T3,or_false] at hp;rcases hp with e|e<;>subst e
 ·exact(Pl.showB (b:=4) ⟨by decide,by decide⟩).mono (by decide) (by decide)
 ·exact(Vz (GY g) g.2.2.1 (by decide)).mono (by decide) (by decide)
theorem Wg {k:P9}(h1: -1<=k)(h2:k<=1000):ShowOk (.tuple [.str "text",.int k]):=by
 by_cases z:k= -1
 ·subst z;refine(ShowB.tup (k:=0) (b:=100) λp hp=> ?_).ok (by decide) (by decide);simp only [P2,T3,or_false] at hp;rcases hp with e|e<;>subst e
  ·exact(Pl.showB (b:=4) ⟨by decide,by decide⟩).mono (by decide) (by decide)
  ·exact⟨by decide +kernel,by simp [O1],by decide +kernel⟩
 ·refine(ShowB.tup (k:=0) (b:=100) λp hp=> ?_).ok (by decide) (by show 102*2+3<=_;decide);simp only [P2,T3,or_false] at hp;rcases hp with e|e<;>subst e
  ·exact(Pl.showB (b:=4) ⟨by decide,by decide⟩).mono (by decide) (by decide)
  ·exact(Zf (e:=10) (by omega) (by omega) (by decide)).mono (by decide) (by decide)
theorem Pa (k:P9):Xb ⟨"NoText",[("at",k)]⟩=true:=by
 show (CN13.contains (G3 "NoText")&&((["at"]:G0 Str)==(Pg "NoText").map G3))=true;decide +kernel
def wZ:RDn:=λds h Q=> ∃d,ds= [d]/\TX d/\ ∀h',Sub h h'->Q (.bl true) h'
theorem Jy (Z:Zs mg)(B:Bm mg base)(a:Z4 K mainGlobals "_law_right" =some (some (.ref f)))(TX: ∃c P,bH K "_law_right" =some (c,P)/\mS K c P=true)(F:Fun K "_law_right" "_law_right" zu f fd)(vt:jN P w K mg base (n+2) "_law_table_in" ["_law_text_here"] zT)(Wi:jN P w K mg base (n+2) "_law_same" ["_law_found","_law_due"] XE)(CT_table_read:jN P w K mg base n "table_read" ["text"] wW)(CR_table_read:ZX P w K mg base n "table_read" ["text"] wq)(CS:RK P w K mg base n):FnOk P w K mg base CX0 ((n+2)+1) f fd ["_law_thing"] (LSp K wZ):=by
 obtain⟨gS,gdS,GS,bGS,kGS,mGS⟩:=CS;obtain⟨tc,tP,T,tH⟩:=TX;have hTK:TabK K tP:=⟨"_law_right",by decide,tc,T⟩;refine F.okJL a T zg (λds h Q q=>by obtain⟨d,e,tx,q⟩:=q;subst e;rfl) _ (λA outer s H E hr=>(js4 (jse 1 zg (jk vt hr (j1 (jv 0)))) (jse 2 zg (jif (zY (Zb (T:= "tuple") (by decide) rfl Z.isinstance rfl Z.tuple (by decide +kernel) (jv 1))) (ZG (j2 jR (jv 1))) (ZG (j2 jR (jv 1))))) (Gh A1 rfl (jrg Z jz) (jgn 3 zg) (jO (vS (wA (zY (jk Wi hr (j2 (RJ GS hr rfl mGS kGS bGS B rfl tH hTK (Rj rfl (by decide +kernel)) (Gt (by show Rk _ (jb zu)=true;decide +kernel)) (λ_ _ _ _ _ _ _ _ _ hr=>(jk CT_table_read hr (j1 (jv 0)))) (λ_ _ _ _ _ _ _ _ _ hr=>(jxk CR_table_read hr (j1 (jv 0))))) (jv 2))))) (wm jbl)))) (wm jbl))) ?_;intro ds h Q q;obtain⟨d,e,tx,q⟩:=q;subst e;refine jj (λnE h'=> ∃fd,nE= [some d,some fd,none,none]/\Sub h h'/\((∃k:P9,fd= .int k/\rdD d k/\ -1<=k/\k<=1000)\/ ∃z,fd=RL z/\Xj d z)) (λC hC=>⟨_,rfl,d,rfl,?_⟩) ?_
 ·rcases tx with ⟨z,rfl,pz⟩|⟨n,hn,nt⟩
  ·refine .inr ⟨z,rfl,pz,λh' sb=>hC _ _ ⟨_,rfl,sb,?_⟩⟩;have few:=wU z "/";have lr:(jh z).length=(S9 z "/").length:=G8 ..;have hz:=pz.len;unfold inD
   by_cases b:6<(jh z).length
   ·rw [S2 b];exact .inl ⟨0,rfl,.inr ⟨z,rfl,hz,.inl ⟨b,rfl⟩⟩,by decide,by decide⟩
   ·rw [S6 b];cases e:yD z with
    |none=>exact .inr ⟨z,rfl,rfl,hz,by omega,e⟩
    |some i=>
     obtain⟨ws,ew,_⟩:=WP e;have:=(P1.mp ew).1;exact .inl ⟨(i:P9),rfl,.inr ⟨z,rfl,hz,.inr ⟨i,by omega,e,rfl⟩⟩,by omega,by omega⟩
  ·exact .inl ⟨n,hn,nt,hC _ _ ⟨_,rfl,Sub.refl h,.inl ⟨-1,rfl,.inl ⟨n,hn,nt,rfl⟩,by decide,by decide⟩⟩⟩
 rintro _ h2 ⟨fd,rfl,sb,alt⟩;refine jj (λnE h'=> ∃due,nE= [some d,some fd,some due,none]/\h2=h'/\((∃k:P9,due= .tup [.str "text",.int k]/\rdD d k/\ -1<=k/\k<=1000)\/ ∃z,due= .tup [.str "told",RL z]/\Xj d z)) (λC hC=> ?_) ?_
 ·rcases alt with ⟨k,rfl,x⟩|⟨z,rfl,x⟩
  ·exact⟨_,rfl,"int",rfl,_,rfl,wu ⟨_,rfl,sz2,hC _ _ ⟨_,rfl,rfl,.inl ⟨k,rfl,x⟩⟩⟩⟩
  ·exact⟨_,rfl,"tuple",rfl,_,rfl,vx ⟨_,rfl,sz2,hC _ _ ⟨_,rfl,rfl,.inr ⟨z,rfl,x⟩⟩⟩⟩
 rintro _ _ ⟨due,rfl,rfl,alt⟩;refine jj (λnE h'=>Sub h h') (λC hC=>ZT 2 (λt nE h'=> ∃a,nE= [some d,some fd,some due,a]/\Sub h h') (by decide) (λR r=>r) ⟨_,rfl,sb⟩ (λnE h' ⟨_,_,s⟩=>hC _ _ s) ?_) (λnE h' s=>⟨_,Sub.refl _,q h' s⟩);clear sb;rintro t _ h3 ht ⟨a,rfl,sb⟩;rcases alt with ⟨k,rfl,x,k1,k2⟩|⟨z,rfl,g⟩
 ·rcases x with ⟨n,hn,nt,rfl⟩|⟨z,rfl,hz,⟨b,rfl⟩|⟨i,h6,b,rfl⟩⟩
  ·exact .inr ⟨_,rfl,d,rfl,.inl ⟨n,hn,nt,Pa _,⟨_,rfl,_,_,.tuple [.str "text",.int _],rfl,⟨_,rfl,_,_,rfl,rfl,_,_,rfl,rfl,rfl⟩,⟨_,rfl,_,_,rfl,rfl,_,_,rfl,rfl,rfl⟩,Wg k1 k2,_,rfl,wu ⟨_,Sub.refl _,ht,_,rfl,sb⟩⟩⟩⟩
  ·exact .inr ⟨_,rfl,_,rfl,.inr ⟨z,rfl,hz,.inl ⟨b,λh' s=>⟨Pa _,⟨_,rfl,_,_,.tuple [.str "text",.int _],rfl,⟨_,rfl,_,_,rfl,rfl,_,_,rfl,rfl,rfl⟩,⟨_,rfl,_,_,rfl,rfl,_,_,rfl,rfl,rfl⟩,Wg k1 k2,_,rfl,wu ⟨_,Sub.refl _,ht,_,rfl,sb.trans s⟩⟩⟩⟩⟩⟩
  ·exact .inr ⟨_,rfl,_,rfl,.inr ⟨z,rfl,hz,.inr ⟨i,h6,b,λh' s=>⟨Pa _,⟨_,rfl,_,_,.tuple [.str "text",.int _],rfl,⟨_,rfl,_,_,rfl,rfl,_,_,rfl,rfl,rfl⟩,⟨_,rfl,_,_,rfl,rfl,_,_,rfl,rfl,rfl⟩,Wg k1 k2,_,rfl,wu ⟨_,Sub.refl _,ht,_,rfl,sb.trans s⟩⟩⟩⟩⟩⟩
 ·obtain⟨rfl,g2⟩:=id g;exact .inl ⟨_,rfl,z,rfl,g2.1,g2.2.1,g2.2.2,_,rfl,_,_,.tuple [.str "told",Pf ((jh z).map (·.map zV))],rfl,⟨_,rfl,_,_,rfl,rfl,_,_,rfl,Vw _ _,rfl⟩,⟨_,rfl,_,_,rfl,rfl,_,_,rfl,Vw _ _,rfl⟩,GZ g,_,rfl,wu ⟨_,Sub.refl _,ht,_,rfl,sb⟩⟩
theorem RY {a:G5}: ∀d∈ [D.str "",D.str " ",D.str "0",D.str "00",D.str "-1",D.str "+1",D.str "0 1/1",D.str "0/1 1",D.str "0 1/1 1/",D.str (b9 "1" 12),D.str (b9 "1" 13),D.str "/",D.str "0/0/0/0/0/0/0"]++ [D.non,D.int 5,D.lst a,D.str "0  1/1 1",D.str "1 0/0 01",D.str "0 1/1 x"],TX d:=λd hd=>by
 simp only [R5,P2,T3,or_false] at hd;rcases hd with (e|e|e|e|e|e|e|e|e|e|e|e|e)|e|e|e|e|e|e<;>subst e<;>first|exact .inr ⟨_,rfl,rfl⟩|exact .inl ⟨_,rfl,RS (by decide +kernel)⟩
theorem Xk (k:P4):(D9 k true).all id=true:=by
 rw [D7];exact λb hb=>(List.mem_replicate.mp hb).2
theorem Xl {b:D->SD->SD->Prop}{js:G0 P4}{ti:TID}{tt:TTD}{a c:TSD}{E:EndsD}(x:yJ b js ti tt te σ h λv h1=>DK [v] h1 λy h2=> ∃k,y= .bl k/\(if (!k)=true then a E σ h2 else c E σ h2)):Pd (Uw (wM (dCB DK (jU (yJ b js ti tt te) Jb)))) a c E σ h:=x
theorem RZ (Z:Zs mg)(F:Fun K "law" "law" Yt f fd)(yy:jN P w K mg base n "_law_right" ["_law_thing"] wZ)(Wh:jN P w K mg base n "_law_cell" ["_law_script","_law_k"] yu)(Yy:jN P w K mg base n "_law_pen" ["_law_cell_here"] vp)(Wk:jN P w K mg base n "_law_text" ["_law_table_here"] yx)(ZB:jN P w K mg base n "_law_table" ["_law_pen_here","_law_size_here"] wX)(Wj:jN P w K mg base n "_law_size" ["_law_pen_here"] yw)(Yx:jN P w K mg base n "_law_odd" ["_law_pen_here"] vq)(Jz:jN P w K mg base n "_law_spoilt" ["_law_pen_here","_law_text_here"] wt):FnOk P w K mg base CX0 (n+1) f fd ["_law_script"] (LSp K Vq):=by
 refine F.okM wT (λhr=>(js4 (jse 1 wT (yq (jac jR (by exact(jac jR (by exact(jac jR (by exact(jac jR (by exact(jac jR (by exact(jac jR (by exact(jac jR (by exact(jac jR (by exact(jac jR (by exact(j4 (jop VL jR jz) (jop VL jR jz) jR jR))))))))))))))))))))) (Gh A1 rfl (Vv (jop jG (jv 1) (yq (jac XB (by exact(jac jz (by exact(j4 (yq (j1 jR)) jR jR jR)))))))) (jgn 2 wT) (jO (vS (wA (zY (jk yy hr (j1 (jv 2))))) (wm jbl)))) (Gh A1 rfl (Vv (jop jG (yq (j1 (jk Wh hr (j2 (jv 0) jz)))) (WG (jv 0) (jS jz) (jS jz)))) (jgn 3 wT) (js4 (jse 4 wT (jk Yy hr (j1 (jv 3)))) (jse 2 wT (jk Wk hr (j1 (jk ZB hr (j2 (jv 4) (jk Wj hr (j1 (jv 4)))))))) (jse 5 wT (jop jG (yq (j2 (jv 2) (jk Yx hr (j1 (jv 4))))) (jl0 6 wT (jrg Z jz) (λ_ _ _ _=>(jk Jz hr (j2 (jv 4) (jv 2))))))) (vS (wA (zY (zm (JV rfl) rfl Z.all O7 (j1 (jl0 7 wT (zR (jv 5)) (λ_ _ _ _=>(jk yy hr (j1 (jv 7))))))))) (wm jbl)))) (wm jbl))) ?_;rintro ds h Q ⟨ns,rfl,hh,hns,q⟩;refine⟨rfl,?_⟩;refine jj (λnE h'=> ∃A,nE= [some (.scr ns),some (.lst A),none,none,none,none,none,none]/\h' A=some [D.str "",D.str " ",D.str "0",D.str "00",D.str "-1",D.str "+1",D.str "0 1/1",D.str "0/1 1",D.str "0 1/1 1/",D.str (b9 "1" 12),D.str (b9 "1" 13),D.str "/",D.str "0/0/0/0/0/0/0"]) (λC hC=>⟨by decide,by decide,by decide,by decide,by decide,by decide,(by show 13<=sizeLine;decide),λA eA=>hC _ _ ⟨A,rfl,ja⟩⟩) ?_;rintro _ h1 ⟨A,rfl,kA⟩;refine jj (λnE h'=> ∃b,nE= [some (.scr ns),some (.lst A),b,none,none,none,none,none]) (λC hC=> ?_) ?_
 ·refine⟨_,rfl,sz1,λp1 e1=>⟨sz6,λp2 e2=>⟨_,_,jc (jc kA e1) e2,ja,(by show 13+6<=sizeLine;decide),λq1 f1=>⟨q1,rfl,?_⟩⟩⟩⟩;generalize hts:([D.str "",D.str " ",D.str "0",D.str "00",D.str "-1",D.str "+1",D.str "0 1/1",D.str "0/1 1",D.str "0 1/1 1/",D.str (b9 "1" 12),D.str (b9 "1" 13),D.str "/",D.str "0/0/0/0/0/0/0"]++ [D.non,D.int 5,D.lst p1,D.str "0  1/1 1",D.str "1 0/0 01",D.str "0 1/1 x"]:G0 D)=ts;have good: ∀d∈ts,TX d:=λd hd=>by rw [<-hts] at hd;exact RY d hd
  refine Za ts (λi nE h'=> ∃b,nE= [some (.scr ns),some (.lst A),b,none,none,none,none,none]/\h' q1=some ts) (λi nE h' ⟨_,_,k⟩=>k) ⟨_,rfl,by rw [<-hts];exact ja⟩ (λnE h' ⟨b5,e,_⟩=>hC _ _ ⟨b5,e⟩) ?_;rintro j d _ h9 hj ⟨b5',rfl,kq⟩;have hjl:j<ts.length:=(P1.mp hj).1;exact⟨_,rfl,d,rfl,good d (S7 hj),λh' sb=>⟨_,rfl,wu ⟨_,Sub.refl _,by omega,_,rfl,sb _ _ kq⟩⟩⟩
 clear kA;rintro _ h ⟨b2,rfl⟩;refine jj (λnE h'=>True) (λC hC=> ?_) (λnE h3 hV=>⟨h3,Sub.refl _,q h3⟩);refine⟨_,rfl,ns,0,rfl,(by decide),λn0=>⟨sz1,λp1 e1=>⟨_,rfl,_,rfl,_,rfl,λp2 e2=>⟨_,_,jc ja e2,ja,?_,λp3 e3=>⟨p3,rfl,?_⟩⟩⟩⟩⟩
 ·have:(zU ns (some 1) (some 6)).length<=ns.length:=by unfold zU;rw [M8,E2];omega
  rw [G8];exact M3 (jQ (by simp only [T5,B0];omega))
 generalize hcs:([D.int n0]++(zU ns (some 1) (some 6)).map D.int)=cs;have hint: ∀d∈cs,∃c,d= .int c:=λd hd=>by
  rw [<-hcs] at hd;rcases R5.mp hd with z|z
  ·exact⟨n0,R6.mp z⟩
  ·obtain⟨x,_,e⟩:=T1.mp z;exact⟨x,e.symm⟩
 refine Za cs (λi nE h'=> ∃a1 a2 a3 a4 a5 a6 a7,nE= [some (.scr ns),a1,a2,a3,a4,a5,a6,a7]/\h' p3=some cs) (λi nE h' ⟨_,_,_,_,_,_,_,_,k⟩=>k) ⟨_,_,_,_,_,_,_,rfl,ja⟩ (λnE h' _=>hC _ _ K1) ?_;rintro i d _ h4 hi ⟨b1,b2,b3,b4,b5,b6,b7,rfl,k3⟩;obtain⟨c,rfl⟩:=hint d (S7 hi);have hil:i<cs.length:=(P1.mp hi).1;show zQ _ _ _ [some (.scr ns),b1,b2,some (.int c),b4,b5,b6,b7] h4;refine jj (λnE h'=> ∃p l fl,nE= [some (.scr ns),b1,b2,some (.int c),some (.lst p),b5,b6,b7]/\h' p=some [.int l,.int fl]/\0<=l/\h' p3=some cs/\p3≠p) (λC hC=> ?_) ?_
 ·refine⟨_,rfl,c,rfl,λp l fl ep l0 _=>hC _ _ ⟨p,l,fl,rfl,ja,l0,jc k3 ep,C5 (ju k3 ep)⟩⟩
 rintro _ h5 ⟨p,l,fl,rfl,kp,l0,k3,n3⟩;refine jj (λnE h'=> ∃ (T:G0 (G0 P9)) (n:P4) (l2:P9),nE= [some (.scr ns),b1,some (.str (VR T)),some (.int c),some (.lst p),b5,b6,b7]/\GoodTab n T/\1<=n/\n<=6/\h' p=some [.int l2,.int fl]/\0<=l2/\h' p3=some cs) (λC hC=>⟨_,rfl,_,rfl,p,l,fl,rfl,kp,l0,λn l2 n1 n6 l20=>⟨p,l2,fl,n,rfl,ja,l20,n1,n6,λT l3 gT l30=>⟨T,n,20,rfl,gT.sq,by decide,by decide,n6,hC _ _ ⟨T,n,l3,rfl,gT,n1,n6,ja,l30,jq n3 (jq n3 k3)⟩⟩⟩⟩) ?_;clear kp l0 k3;rintro _ h6 ⟨T,n,l2,rfl,gT,n1,n6,kp,l20,k3⟩;have pz:Pl 990 (VR T):=(RX gT n6).mono (by decide);refine jj (λnE h'=> ∃F,∃us:G0 D,nE= [some (.scr ns),b1,some (.str (VR T)),some (.int c),some (.lst p),some (.lst F),b6,b7]/\h' F=some us/\us.length=7/\(∀d∈us,TX d)/\h' p3=some cs) (λC hC=> ?_) ?_
 ·refine⟨_,rfl,_,rfl,p,l2,fl,rfl,kp,l20,λd l3 td l30=>⟨sz2,λA2 eA=> ?_⟩⟩;have nA:A2≠p:=ju ja eA;refine DW 5 (λk ys h'=> ∃l',ys.length=k/\(∀y∈ys,TX y)/\h' p=some [.int l',.int fl]/\0<=l'/\h' A2=some [.str (VR T),d]/\h' p3=some cs) (by decide) (λR r=>r) ⟨l3,rfl,λy hy=>(nomatch hy),jc ja eA,l30,ja,jc (jq n3 k3) eA⟩ (λk ys h' ⟨_,e,_⟩=>e) ?_ ?_
  ·rintro k ys h' hk ⟨l',e,g,kp,l0,kA,k3⟩;exact⟨_,rfl,_,rfl,p,l',fl,VR T,T,n,rfl,rfl,kp,l0,gT,n1,n6,λy l4 h4 py bt kp4 l40=>⟨_,Sub.refl _,hk,l4,by rw [S1,e];rfl,λx hx=>(R5.mp hx).elim (g x) λz=>by rw [R6.mp z];exact .inl ⟨y,rfl,py⟩,kp4,l40,bt A2 _ nA kA,bt p3 _ n3 k3⟩⟩
  ·rintro ys h' ⟨l',e,g,kp,l0,kA,k3⟩ B eB;refine⟨_,_,jc kA eB,ja,by rw [e];show 2+5<=sizeLine;decide,λF eF=>hC _ _ ⟨F,_,rfl,ja,by rw [S1,e];rfl,λx hx=> ?_,jc (jc k3 eB) eF⟩⟩;rcases R5.mp hx with hx|hx
   ·simp only [P2,T3,or_false] at hx;rcases hx with z|z<;>subst z
    ·exact .inl ⟨_,rfl,pz⟩
    ·exact td
   ·exact g x hx
 clear kp k3;rintro _ h7 ⟨F,us,rfl,kF,l7,gd,k3⟩;refine Xl (Gw (h1:=h7) (j:=λh=>h F) us (λk ys h'=>ys=(D9 k true).map D.bl/\k<=7/\h' F=some us/\h' p3=some cs) (by omega) (λR r=>⟨_,rfl,r⟩) (λk ys h' w=>w.2.2.1) ⟨rfl,O4 _,kF,k3⟩ (λk ys h' w=>by rw [w.1,G8,W6];exact P0 _) (λk d ys h' hd ⟨e,_,k1,k2⟩=> ?_) λys h' ⟨e,_,k1,k2⟩ P eP=> ?_)
 ·have hk:=(P1.mp hd).1;exact⟨_,rfl,d,rfl,gd d (S7 hd),λh2 sb=>⟨_,Sub.refl _,hk,by rw [e,<-List.replicate_append_replicate (n:=k) (m:=1),A3];rfl,by omega,sb _ _ k1,sb _ _ k2⟩⟩
 ·refine⟨P,D9 us.length true,rfl,by rw [ja,e],_,rfl,?_⟩;rw [wL eP,Xk];exact wu ⟨_,Sub.refl _,hil,_,_,_,_,_,_,_,rfl,k2⟩
end
theorem Ma {l:gV}{w:S4}{K:G2}{h:S3}{mg:Str->G6 G1}{fa:G5}(X:K.In h)(G:h.Ns mainGlobals mg)(hfa:mg "law" =some (.ref fa))
 (d0:DefIn K "writes_number" zp fu0 eu0)
 (d1:DefIn K "table_read" zt fu1 eu1)
 (d2:DefIn K "_law_cell" wC fu2 eu2)
 (d3:DefIn K "_law_pen" yl fu3 eu3)
 (d4:DefIn K "_law_draw" wD fu4 eu4)
 (d5:DefIn K "_law_whole" wa fu5 eu5)
 (d6:DefIn K "_law_kind" wE fu6 eu6)
 (d7:DefIn K "_law_said" wF fu7 eu7)
 (d8:DefIn K "_law_odd" ym fu8 eu8)
 (d9:DefIn K "_law_same" wG fu9 eu9)
 (d10:DefIn K "_law_size" wH fu10 eu10)
 (d11:DefIn K "_law_table" wb fu11 eu11)
 (d12:DefIn K "_law_text" wI fu12 eu12)
 (d13:DefIn K "_law_number_in" zd fu13 eu13)
 (d14:DefIn K "_law_table_in" zq fu14 eu14)
 (d15:DefIn K "_law_spoilt" zM fu15 eu15)
 (d16:DefIn K "_law_right" zu fu16 eu16)
 (d17:DefIn K "law" Yt fu17 eu17)
 {tk0:Tok}(v0:Z4 K mainGlobals "FIGURES" =some (some (.str "0123456789" tk0)))
 (v1:(Z4 K mainGlobals "str" ==some none)=true)
 {tk2:Tok}(v2:Z4 K mainGlobals "MOST_ROWS" =some (some (.int 6 tk2)))
 {tk3:Tok}(v3:Z4 K mainGlobals "MOST_FIGURES" =some (some (.int 12 tk3)))
 (z:zsB K=true)
 (ex:GE K=true)
 (inNoText:InitIn K "NoText" "NoText.__init__" wS ucNoText ufNoText ueNoText ["at"])
 (tb0:Gu K "_law_right" =true)
 : ∃fd:D6,(∀ (s:G4) (v:G1),c8 s fd ⟨[v],[]⟩ [("_law_script",v)])/\ ∀base:S3,K.In base->base.Ns mainGlobals mg->Bm mg base->FnOk l.prog w K mg base CX0 7 fa fd ["_law_script"] (LSp K Vq):=by
 have e:=hfa.symm.trans (d17.nm X G);cases e;have vv: ∃tk,mg "FIGURES" =some (.str "0123456789" tk):=⟨_,dU X G v0⟩;have wJ:mg "str" =none:=mC X G (beq_iff_eq.mp v1);have jY: ∃tk,mg "MOST_ROWS" =some (.int 6 tk):=⟨_,dU X G v2⟩;have jJ: ∃tk,mg "MOST_FIGURES" =some (.int 12 tk):=⟨_,dU X G v3⟩;have Z:=Nv X G z;have Ex:ExcF K mg:=GF X G ex;have JB:=Gv tb0;obtain⟨_,_,kV,dc,pm,an,cd,ct,_,rfl,_⟩:=d17.fn.ex;refine⟨F8 "law" "law" (zk Yt) (jy Yt) (jb Yt) .none kV dc pm an cd ct,λs v=> .of_eq rfl,λbase _ _ B=> ?_⟩;have i_NoText: ∀n,Jr l.prog w K mg base (n+2) "NoText" ["at"]:=λn=>inNoText.cal l w base X G (NE (n:=0) inNoText.ik inNoText.fn vD rfl rfl rfl Wb rfl rfl) (λ_ _ _ _ _ _=>ln2 λ_ _=>rfl) n
 have wd:=λn=>d0.cal l w base X G (yC (n:=n+0) Z d0.fn vv)
 have ZE:=λn=>d1.cal l w base X G (Ju (n:=n+1) Z d1.fn (wd (n+0)) wJ jY jJ)
 have ZF:=λn=>d1.rai l w base X G (vE (n:=n+2) Z Ex d1.fn (wd (n+1)) (i_NoText (n+0)) wJ jY jJ)
 have Wl:=λn=>d2.cal l w base X G (Zu (n:=n+0) Z d2.fn)
 have YA:=λn=>d3.cal l w base X G (Wd (n:=n+0) Z d3.fn)
 have zO:=λn=>d4.cal l w base X G (Zv (n:=n+0) Z d4.fn)
 have u_whole: ∀n,Jj l.prog w K mg base (n+1) "_law_whole" ["_law_thing"] zN:=λn=>⟨_,_,vF (n:=n) Z Ex d5.fn,d5.fn.binds (ps:= ["_law_thing"]) λ_ _ _ _ _ _ us hl=>match us,hl with| [_],_=>rfl,d5.fn.kp,d5.nm X G⟩
 have u_kind: ∀n,Jj l.prog w K mg base (n+1) "_law_kind" ["_law_e"] (Wa mg):=λn=>⟨_,_,Jv (n:=n) Z Ex d6.fn,d6.fn.binds (ps:= ["_law_e"]) λ_ _ _ _ _ _ us hl=>match us,hl with| [_],_=>rfl,d6.fn.kp,d6.nm X G⟩
 have s_said: ∀n,RK l.prog w K mg base (n+1):=λn=>⟨_,_,GO (n:=n+1) Z Ex d7.fn (u_kind n) (u_whole n),d7.fn.binds (ps:= ["_law_call"]) λ_ _ _ _ _ _ us hl=>match us,hl with| [_],_=>rfl,d7.fn.kp,d7.nm X G⟩
 have Yz:=λn=>d8.cal l w base X G (We (n:=n+1) Z d8.fn (zO (n+0)))
 have Wm:=λn=>d9.cal l w base X G (Zw (n:=n+0) Z d9.fn)
 have Wn:=λn=>d10.cal l w base X G (Zx (n:=n+1) Z d10.fn (zO (n+0)))
 have ZD:=λn=>d11.cal l w base X G (Jw (n:=n+1) Z d11.fn (zO (n+0)))
 have Wo:=λn=>d12.cal l w base X G (Zy (n:=n+0) Z d12.fn wJ)
 have yG:=λn=>d13.cal l w base X G (yn (n:=n+0) Z d13.fn wJ)
 have vw:=λn=>d14.cal l w base X G (yE (n:=n+1) Z d14.fn (yG (n+0)) wJ)
 have JC:=λn=>d15.cal l w base X G (vH (n:=n+1) Z d15.fn (zO (n+0)))
 have ZC:=λn=>d16.cal l w base X G (Jy (n:=n+3) Z B d16.at_ JB d16.fn (vw (n+3)) (Wm (n+4)) (ZE (n+1)) (ZF (n+0)) (s_said (n+2)))
 exact RZ (n:=6) Z d17.fn (ZC 0) (Wl 5) (YA 5) (Wo 5) (ZD 4) (Wn 4) (Yz 4) (JC 4)
end My
namespace PySem.W.Fast
def tw6299113383294938514:=()
def tw5116532290131011769:=()
def tw16579547025152831158:=()
def tw15718133440923047023:=()
def tw6721757976596496517:=()
def tw13514949110607815511:=()
def tw11264332937739439240:=()
def tw3196141682855745232:=()
def tw18379584873173706714:=()
def tw9477509679431626898:=()
def tw13864751879056855005:=()
def tw3492368878187710791:=()
def tw6703751651248084700:=()
def tw9864490258334984660:=()
def tw8809130770026497368:=()
def tw2272224799737329754:=()
def tw17754257603167998445:=()
def tw734778198172371159:=()
def tw13518924940521682897:=()
def tw3114246864470713705:=()
def tw8643807361129430621:=()
def tw2545593267738049916:=()
def tw4445520038816445752:=()
def tw17241953218851979869:=()
def tw10514536655751499024:=()
def tw6397129981073796717:=()
def tw7321720557968142370:=()
def tw12016448750377424215:=()
def tw3851215411956540044:=()
def tw8478322640629575254:=()
def tw13141381736674916571:=()
def tw9602771226595167837:=()
def tw4287280414994253382:=()
def tw17609883146581843876:=()
def tw6663770829578478840:=()
def tw2601748955601188823:=()
def tw12139723681475217857:=()
def tw894626400161754823:=()
def tw5035238789545479793:=()
def tw7837235227419564570:=()
def tw8311446898087871596:=()
def tw16402273433848328061:=()
def tw15890168094305250372:=()
def tw4535933252988773810:=()
def tw15215228141888728806:=()
def tw17276329256099019804:=()
def tw10141479881697147930:=()
def tw17305278040876811727:=()
def tw5769363385486952178:=()
def tw5304967434141788858:=()
def tw7600062078391876617:=()
def tw5604649570505989901:=()
def tw7587055160398898385:=()
def tw13417537955492064943:=()
def tw10635969301157415768:=()
def tw17025272803477838764:=()
def tw11152694680701639293:=()
def tw5627621724293255572:=()
def tw13390552545982757766:=()
def tw5011490128125679852:=()
def tw10379764084694697679:=()
def tw8871150867139884225:=()
def tw6217971200413340381:=()
def tw9416090100852309318:=()
def tw10152158760198896413:=()
def tw12387989270691225008:=()
def tw4087541964400411671:=()
def tw14755362459351297937:=()
def tw631563397639003905:=()
def tw6905572312315247605:=()
def tw14277996373302341363:=()
def tw1084547680728401924:=()
def tw12837127889525878168:=()
def tw9580547552045403688:=()
def tw15274019623007922080:=()
def tw6154877573943310795:=()
def tw3956585207044728140:=()
def tw10402517964271540338:=()
def tw4304378444455267163:=()
def tw7485709525248919698:=()
def tw12598407829045123025:=()
def tw170508346742969232:=()
def tw13975669832578384497:=()
def tw548552182174517404:=()
def tw9206802284477625984:=()
def tw5894214795597238871:=()
def tw18388684724831614497:=()
def tw9590395885795344361:=()
def tw18066455279529800478:=()
def tw4451380719400028578:=()
def tw5963992556387604297:=()
def tw2699925048964756231:=()
def tw649506337039258845:=()
def tw11249412836059062467:=()
def tw1252886506167443185:=()
def tw5859962354210568658:=()
def tw15268187350061070503:=()
def tw18156020607790644244:=()
def tw8978365203262100820:=()
def tw8093341604511668519:=()
def tw14157725862911464736:=()
def tw6747224534862889020:=()
def tw15544335834763234824:=()
def tw8777291210076159092:=()
def tw11797073224448360902:=()
def tw18412782681595436415:=()
def tw15435391002863933085:=()
def tw7185926854668438087:=()
def tw6916711708546105239:=()
def tw4688226868900453006:=()
def tw18041514843539833926:=()
def tw3604704366131146994:=()
def tw4639471359225424707:=()
def tw4689326264764467472:=()
def tw1476239329574286009:=()
def tw13232695771600575275:=()
def tw10111149032929379040:=()
def tw7781406629257889771:=()
def tw11234791746748515710:=()
def tw643603445935657593:=()
def tw1144758533043315808:=()
def tw11025090277807541320:=()
def tw2040552818105266973:=()
def tw5386285863894798452:=()
def tw17593263323647538005:=()
def tw5582571116714277475:=()
def tw12291067674318523214:=()
def tw9997479617388387095:=()
def tw9300587720286169899:=()
def tw8589941079724754766:=()
def tw9282309116548681361:=()
def tw11980494973828332560:=()
def tw10871146407431435361:=()
def tw17791775447731591299:=()
def tw8262012275930185753:=()
def tw18100677882482006887:=()
def tw5017817037432664667:=()
def tw9311939007728484339:=()
def tw6553125209518208776:=()
def tw1916622705879155319:=()
def tw47749319319685920:=()
def tw4072905958938079251:=()
def tw11020728029235067847:=()
def tw8634000491742153731:=()
def tw8230986133162569740:=()
def tw1570415682005685905:=()
def tw6929461301101352891:=()
def tw16570600709598932802:=()
def tw15788790918005944865:=()
def tw16310796145903742666:=()
def tw2275629672232452377:=()
def tw10837519419628895978:=()
def tw15165736586780407177:=()
end PySem.W.Fast
open PySem PySem.W PyProof.Rows
set_option maxRecDepth 100000 in
set_option maxHeartbeats 0 in
theorem PySem.Challenge.cw_firstpowers_k74_tables_read_holds : PySem.Challenge.rw_firstpowers_k74_tables_read.Holds := by
  w_on; o_law; k_head; (case hw => w_witness2)
  k_fill
  refine L2.UJ (l := PySem.Challenge.rw_firstpowers_k74_tables_read) (k := 7) (x := "_law_script") rfl rfl ⟨rfl, by decide, by decide, rfl⟩ (fun w h Y => PySem.W.km_in_of Y) ?B ?F
  case B => intro w; kernel_rfl
  case F =>
    intro w mg fa h KX G hmg
    refine' My.Ma KX G hmg ?d0 ?d1 ?d2 ?d3 ?d4 ?d5 ?d6 ?d7 ?d8 ?d9 ?d10 ?d11 ?d12 ?d13 ?d14 ?d15 ?d16 ?d17 ?v0 ?v1 ?v2 ?v3 ?z ?ex ?inNoText ?tb0
    case d0 | d1 | d2 | d3 | d4 | d5 | d6 | d7 | d8 | d9 | d10 | d11 | d12 | d13 | d14 | d15 | d16 | d17 => refine' L2.Rq ?a ?l ?c ?k; (case a => k_is); (case l => k_is); (case c => k_is); (case k => k_is)
    case inNoText => refine' L2.GL ?a ?b ?l ?c ?k ?e ?i; (case a => k_is); (case b => k_is); (case l => k_is); (case c => k_is); (case k => k_is); (case e => k_is); (case i => kernel_rfl)
    case v0 | v2 | v3 => k_is
    case z | ex | tb0 | v1 => kernel_rfl
