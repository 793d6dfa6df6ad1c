import PyProof.Rows.All
import Wide.All
import OpenK.AllK
import Wide.FinOn
import Lean
import PyProof.EqAt
import PyProof.EqKinds
import PyProof.TupleCall
import PyProof.Rows.TopTwo
import KE.KIsAll
import PyProof.ExcAttrAll.ValueError
import KE.KTryMore
import KE.KRevIter
import PyProof.SetRoads
import PySem.Challenge.RW_firstpowers_k67_the_first_full_way
set_option Elab.async false
set_option linter.all false
set_option maxRecDepth 100000
set_option maxHeartbeats 8000000
open _root_ renaming List->G0,Int->G8,Nat->P0,Option->P5,if_pos->R3,if_neg->S4,exists_eq_left'->M3,decide_eq_true->N3,decide_eq_false->N9,Array->B3,Bool->B4,decide_eq_true_eq->L9,String->O1,if_true->aP,of_decide_eq_true->aR,if_false->cA,beq_self_eq_true->fA,ForInStep->iK
open PySem.W renaming Frag->G1,kia_one->B9,keepIn->E3,fnOf->K2,methodObj->aN,cellsFrom_some->bF,instObj->bP,lookIn->b7,kitOne->b8,codeIn->b9,tabObj->cG,tabIn->cV,mg_of->cW,kitx_list->dF,kitx_dict->dG,nsIn->dZ,plainGet->eG,OpenLaw->fQ,findIn->gF,CodeHd->gO,hideAll_size->iY,hideAll_none->iZ,hideAll_get->j7,of_hideAll->kG,kitx_float->kI,kitx_tuple->kJ,callWith_K->kK,codeRec_of->kM,ki_setBack->kQ,hasDictIn->lB,plainOver->lC,specialIn->lD,kitx_none->lE,kitx_bool->lF,eq_bytes->lH,ne_bytes->lI,kitx_int->lJ,kitx_str->lK,kitx_own->lL,ki_setAt->lM,kcp_self->lO,krv_pick->lP,hideAll->lQ,takesIn->lR,InstAt->lV,tab_of->lZ,mroIn->l8,WalkO->l9
open PySem renaming Value->G2,Shared->G5,Addr->G6,wpAny_pure->G9,starEach->P8,wpAny->D7,Expr->D8,foldedSetIterable->D9,model->R1,Program->S2,FuncData->S6,wpAny_mono->T3,compareOp->T9,Around->M5,World->M6,Heap->N5,mainGlobals->N6,wpAny_call_entry->B1,eval->B6,binaryOp->B7,Stmt->C3,wpAny_truthy_bool->C4,bootBuiltins->C5,wpAny_newObj_type->F1,tupleKeyHash->F3,cellsFrom->F4,backTo->H0,behindInMarks->L4,Scope->L7,swapsWith->L8,ofAClassStatement->O0,wpAny_holding->O5,wpAny_passesOwn->A1,wpAny_specialOf->A3,attributeBase->A8,mem_of_lookup->E2,wpAny_callSpecial?_slot->E4,wpAny_setField_rec->E9,PyData->J1,wpAny_callSpecialIfBoundUnlessNone?_slot->J3,holding->J5,wpAny_pyIter_list->J6,wpAny_seqItems->K1,wpAny_standAt->Q0,swapsWithSole->Q1,swappedStores->Q2,letOwnedTupleGo->Q8,sysModules->U1,assignEach->U2,IsItemIter->U8,wpAny_field->V0,sliceBounds->V1,Keyword->V7,wpAny_isOneOf_itemiter->W9,Comprehension->X4,keywordEach->X6,hashByValue->X8,wpAny_execs_nil->X9,assign->Y0,standAt->Y9,codeAny->Z0,wpAny_typeOf->Z1,Fin->Z5,DictEntry->Z6,wpAny_Call_Name_kw->aA,IsTupleKey->aI,wpAny_pyHash_tuple->aJ,wpAny_binaryOp_repeat_ref->aK,getItem->aQ,wpAny_getItem_list_slice->aU,noFill_tuple_add->aX,wpAny_isInstance->aY,atKey->aZ,builtinsNs->a8,wpAny_rule->bE,IsPart->bG,typeIs_int->bI,call_meets->bJ,reduceHash->bK,isSubtype_tuple_tuple->bZ,CmpOp->b0,subscripted->cB,backToKw->cC,lookup_relabel_local->cE,intBits_le_iff->cH,PassesOwn->cL,callerA->cM,eqIsQuiet->cN,assignInOrder->cS,seq_tuple_add->cT,evalPart_none->cU,wpAny_pyIter_tuple->c8,wpAny_tupleItemsOf->dB,codeAny_mono->dH,concat_meets->dI,wpAny_sequenceKey->dJ,seqIndex_neg->dL,compTurn->dO,wpAny_pyIter_enum->dS,wpAny_cRoomFor_or->dU,wpAny_execs_cons->eB,seqSlot_of->e7,Model->fG,seqIndex_of->fH,pushCells_keeps->fO,wpAny_ret_mkInt->fX,setItem->f6,BindsTo->f7,wpAny_Name->f8,truthy->gA,bindName->gB,wpAny_bindName->gC,pyNext->gD,pyIter->gE,bindL->gG,bindC->gH,fitsIndex_both->gK,newFunctionEnv->gL,compEnvC->gM,wpAny_newTuple->gR,intBits_le_64->gW,evalPart_some->gY,comprehension->gZ,eval_ListComp->g3,IsItemIterOut->iC,wpAny_attempt->iD,wpAny_newList->iG,lastMarks->iI,Within->iO,name_of_addr->iR,interactive->i0,rule->i1,IsRangeIter->i3,Operator->i4,sizeLine_eq->i5,bindArgs->i6,wpAny_Slice->i7,typeLookup->kO,typeIs_str->kP,call->kT,closureFor->kY,seqRepeat?->kZ,preSum->k5,release->lA,operate->lG,rawInt->lS,again->lU,Result->lX,Params->lY
open List renaming length_map->G3,getElem?_eq_getElem->G4,size_toArray->P1,mem_singleton->P2,mem_append_right->P4,mem_cons_self->P6,getElem?_map->P7,getElem?_eq_some_iff->D1,mem_cons_of_mem->D2,range->D3,replicate->D5,getD_eq_getElem?_getD->D6,map_cons->R0,mem_cons->R5,getElem?_cons_zero->R6,mem_append->R8,map_append->R9,mem_of_getElem?->S0,length_append->S1,length_cons->S3,length_range->S5,map_map->S7,mem_range->S8,getElem_mem->S9,getElem?_cons_succ->T4,mem_map->T5,map_congr_left->T7,take_of_length_le->M2,length_nil->M7,mem_append_left->M8,find?_cons->N2,take_add_one->N4,set_cons_succ->N7,set_cons_zero->N8,length_take->B0,not_mem_nil->B2,getElem?_set_ne->B5,all_eq_true->C1,lookup_cons->C8,replicate_succ->F5,nil_append->F6,getElem?_eq_none->F9,cons_append->L0,take_length->L3,nodup_cons->A2,flatten_cons->A4,map_nil->E7,append_assoc->J8,length_drop->K3,all_map->K4,getElem?_append_left->K6,getElem?_range->K9,mem_filter->Q7,forIn_cons->Q9,mem_filterMap->U3,length_eq_zero_iff->V2,getElem?_set->V9,reverse_cons->W3,flatMap_cons->W4,foldl_append->W7,length->X5,range_succ->Y2,filterMap_cons->Y4,flatMap_append->Y5,length_reverse->Y6,getElem?_append_right->aC,getElem?_replicate->aW,getElem?_set_self->a9,append_nil->bQ,of_mem_zip->bR,length_replicate->bV,take_append_drop->bX,min?_eq_some_iff->bY,take_succ->cJ,length_pos_iff->cP,take_succ_cons->cR,find?_eq_none->dD,nodup_append->dW,ext_getElem?->dY,length_set->fK,sum_append->fT,foldl->gJ,nodup_nil->gQ,all_cons->g4,map_take->g8,map_drop->g9,sum_cons->hO
open PySem.Heap renaming get?_push_of_some->G7,lt_size->P9,get?_push_size->D4,size_push->K0,get?_update_other->V6,get?_update_ne->Y7,SameBut->Y8
open Bool renaming false_ne_true->P3,eq_iff_iff->O2,and_eq_true->O7,false_eq_true->O9,not_true->aV,or_eq_true->bS,or_eq_false_iff->cF,true_and->iH
open Nat renaming le_refl->D0,lt_of_lt_of_le->R4,ne_of_lt->R7,le_trans->T8,le_of_lt->N1,lt_irrefl->B8,lt_succ_self->L1,ne_of_gt->O4,zero_le->O6,lt_of_le_of_lt->E8,not_lt->U5,lt_trans->V8,lt_of_succ_le->W0,lt_succ_of_lt->W1,pow_le_pow_right->X7,le_of_eq->Z3,mul_comm->dN,le_succ_of_le->dX,min_le_right->eJ,le_of_not_lt->eQ,min_eq_right->e9,min_eq_left->fU,succ_mul->iT,pow_succ->iU,log2_lt->j0,le_succ->j5,mod_lt->k9
open Option.some renaming injEq->T6,inj->M0
open PySem.PyData renaming depthAll->M1,canLay0->M9,depth->N0,eqvAll->F0,eqv->U6,canLayAll0->W5,int->X2,shown->bL,showable->bT,shownAll->bU,showableAll->c9,hasDictAll->dR,hasDict->gP
open PySem.PassesOwn renaming never->M4
open PySem.NameKind renaming free->C0,cell->E1
open Ne renaming symm->C6
open Array renaming forIn_toList->C7,length_toList->K8,isEmpty_eq_false_iff->aH,isEmpty_iff->dP,toList->iQ
open Or renaming inl->C9,inr->E5
open Option renaming map_eq_some_iff->F2,getD_some->K5,map_some->Y3,isNone_iff_eq_none->aL,isSome_iff_exists->aS,map_eq_none_iff->bM,getD_none->eM
open PyProof.Rows renaming slot_tuple_getitem->F7,boot_all->J4,callWith_type1->J7,IntsAre->Z2,assignInOrder_cons->Z7,envOfC->aB,AllBare->aO,subscriptTail->aT,subscriptTail_builtinR->bH,seqObj->cI,entry_tuple_getitem->cO,args_tuple_getitem->cZ,Subscript_->c7,assignInOrder_nil->dE,callWith_builtin1->eI,boot_isinstance->fP,get?_update_seq->fZ,slicePart_none->gI,tupleItemsOf_->gX,listUpdate_at->iF,isTrue_plain->iP,IsTup->iW,tail_any->i8,seqEpoch_at->j6,recsOf->j8,isTrue_and->kH
open PySem.Builtin.Tuple renaming tupleHashOf->F8,tupleItemsOf->O8,tupleExact->A6,tupleIsExact->aF,tupleTooMany->aG
open PySem.F renaming slot_dict_itemiterator_next->L5,args_tuple_add_2->Q4,entry_tuple_add->U9,plainAttrs_list->V3,slot_tuple_add->V4,slot_tuple_hash->W8,args_dict_itemiterator_next_1->X1,entry_dict_itemiterator_next->X3,slot_int_rmul->Y1,slot_dict_items->a0,slot_dict_items_iter->bO,args_tuple_hash_1->cQ,entry_tuple_hash->dA,args_int_rmul_2->dM,entry_int_rmul->eO,fills_int_mul->fM,args_dict_items_1->gV,slot_list_append->g6,type_list_append->g7,slot_list_insert->hG,type_list_insert->hJ,slot_list_extend->iA,type_list_extend->iB,entry_dict_items->iE,plainAttrs_dict->iM,type_dict_items->iN
open PySem.Value renaming ref->L6,int->Z4,str->cK,none->cX,bool->cY,isInt->fE,float->iV,type->j9
open Function renaming comp_apply->O3,comp_def->J9
open PySem.Builtin.Slice renaming slicePlaces->A0,sliceAdjust->K7,sliceApplied->aD,slicePartIndex->fJ,sliceFields->gS
open PyProof.Rows.LCg renaming lst->A5
open PySem.Obj renaming mapSeq->A7
open PySem.Builtin.List renaming listTooLong->A9,listFitsIndex->aE
open PySem.pyHashByItsType renaming reduced->E6
open Int renaming emod_lt_of_pos->I0,emod_nonneg->U0,fdiv_eq_ediv_of_nonneg->Z8,fmod_eq_emod_of_nonneg->Z9,toNat_natCast->dQ,natCast_emod->fC,pow_pos->fI,natCast_add->fV,pow_add->i9,toNat->lN
open ForInStep renaming yield->J0
open PySem.Builtin.Dict_items renaming ownedTupleIsFree->Q5,pairFromOwner->X0,newIterator->fB,ownsTuple->fY,dictOf->gU
open Sum renaming inr->Q6,inl->aM
open True renaming intro->U4
open PySem.SetTable renaming sizeAbove->U7
open PySem.Str renaming ofString->V5,empty->iJ
open PySem.Builtin.SmallTypes renaming stopIteration->W6
namespace L2
open PySem PySem.Spec PyProof.Rows
abbrev Key:=Sum G8 Str
def PN:Key->G2->B4
 | .inl k,v=>fE k v
 | .inr x,v=>Value.isStrOf x v
def Bs (w:M6):Key->G8
 | .inl k=>hashInt k
 | .inr x=>hashStr w x
theorem jC: ∀ {k:Key} {v:G2},PN k v=true->(∃i t,k=aM i/\v=Z4 i t)\/(∃x t,k=Q6 x/\v=cK x t)
 | .inl i,v,h=>by
  obtain⟨t,e⟩:=Value.isInt_shape (k:=i) (v:=v) h;exact .inl ⟨i,t,rfl,e⟩
 | .inr x,v,h=>by
  obtain⟨t,e⟩:=Value.isStrOf_shape (x:=x) (v:=v) h;exact .inr ⟨x,t,rfl,e⟩
theorem PP (a b:G8):decide ((aM a:Key)=aM b)=(a==b):=by
 by_cases e:a=b
 ·subst e;simp
 ·have h: ¬ (aM a:Key)=aM b:=λq=>e (Sum.inl.inj q)
  rw [N9 h];exact(beq_eq_false_iff_ne.mpr e).symm
theorem PQ (a b:Str):decide ((Q6 a:Key)=Q6 b)=decide (a=b):=by
 by_cases e:a=b
 ·subst e;simp
 ·have h: ¬ (Q6 a:Key)=Q6 b:=λq=>e (Sum.inr.inj q)
  rw [N9 h,N9 e]
theorem PR (a:G8)(b:Str):decide ((aM a:Key)=Q6 b)=false:=N9 (λq=>nomatch q)
theorem PU (a:Str)(b:G8):decide ((Q6 a:Key)=aM b)=false:=N9 (λq=>nomatch q)
def Vn (prog:S2)(w:M6):PySem.KeyKind prog w Key where
 is:=PN
 hash:=Bs w
 inj:=λv a b ha hb=>by
  rcases jC ha with ⟨i,t,rfl,rfl⟩|⟨x,t,rfl,rfl⟩
  ·rcases jC hb with ⟨j,u,rfl,e⟩|⟨y,u,rfl,e⟩
   ·injection e with e1 _;rw [e1]
   ·exact nomatch e
  ·rcases jC hb with ⟨j,u,rfl,e⟩|⟨y,u,rfl,e⟩
   ·exact nomatch e
   ·injection e with e1 _;rw [e1]
 byValue:=λk v h=>by
  rcases jC h with ⟨i,t,rfl,rfl⟩|⟨x,t,rfl,rfl⟩<;>rfl
 pyHash:=λhv h=>by
  rcases jC hv with ⟨i,t,rfl,rfl⟩|⟨x,t,rfl,rfl⟩
  ·exact wpAny_pyHash_int h
  ·exact wpAny_pyHash_str h
 eqBool:=λhu hv h=>by
  rcases jC hu with ⟨i,t,rfl,rfl⟩|⟨x,t,rfl,rfl⟩
  ·rcases jC hv with ⟨j,u,rfl,rfl⟩|⟨y,u,rfl,rfl⟩
   ·rw [PP] at h;exact wpAny_eqBool_int h
   ·rw [PR] at h;exact SeqAt.EqAt.int_str i t y u _ _ _ _ h
  ·rcases jC hv with ⟨j,u,rfl,rfl⟩|⟨y,u,rfl,rfl⟩
   ·rw [PU] at h;exact SeqAt.EqAt.str_int x t j u _ _ _ _ h
   ·rw [PQ] at h;exact wpAny_eqBool_str h
 «strs» :=λk x t v h=>by
  rcases jC h with ⟨i,u,rfl,e⟩|⟨y,u,rfl,e⟩
  ·exact nomatch e
  ·injection e with e1 _
   subst e1;cases v<;>rfl
inductive V where
 |non|bl (b:B4)|int (i:G8)|str (x:Str)|byt (b:B3 UInt8)|flt (b:UInt64)|ref (a:G6)|ty (n:O1)
 deriving DecidableEq
def RelV:V->G2->Prop
 | .non,u=>u=cX
 | .bl b,u=>u=cY b
 | .int i,u=> ∃t,u=Z4 i t
 | .str x,u=> ∃t,u=cK x t
 | .byt b,u=> ∃t,u=Value.bytes b t
 | .flt b,u=> ∃t,u=iV b t
 | .ref a,u=>u=L6 a
 | .ty n,u=>u=j9 n
abbrev Vals:G0 V->G0 G2->Prop:=Paired RelV
theorem Vals.length {xs:G0 V}{us:G0 G2}(r:Vals xs us):xs.length=us.length:=Paired.length r
theorem Vals.get: ∀ {xs:G0 V} {us:G0 G2} {i:P0} {x:V},Vals xs us->xs[i]? =some x-> ∃u,us[i]? =some u/\RelV x u
 |_,_,_,_,.nil,e=>by simp at e
 |_,_,0,_,.cons r _,e=>by simp at e;subst e;exact⟨_,rfl,r⟩
 |_,_,i+1,x,.cons _ t,e=>by
  obtain⟨u,h1,h2⟩:=Vals.get (i:=i) (x:=x) t (by simpa using e);exact⟨u,by simpa using h1,h2⟩
variable {u:G2}
theorem Vals.set {x:V}(r:RelV x u): ∀ {xs:G0 V} {us:G0 G2} (i:P0),Vals xs us->Vals (xs.set i x) (us.set i u)
 |_,_,_,.nil=> .nil
 |_,_,0,.cons _ t=> .cons r t
 |_,_,i+1,.cons q t=> .cons q (Vals.set r i t)
theorem Vals.append: ∀ {xs ys:G0 V} {us ws:G0 G2},Vals xs us->Vals ys ws->Vals (xs++ys) (us++ws)
 |_,_,_,_,.nil,s=>s
 |_,_,_,_,.cons r t,s=> .cons r (Vals.append t s)
theorem Vals.take: ∀ {xs:G0 V} {us:G0 G2} (n:P0),Vals xs us->Vals (xs.take n) (us.take n)
 |_,_,0,_=> .nil
 |_,_,_+1,.nil=> .nil
 |_,_,n+1,.cons r t=> .cons r (Vals.take n t)
theorem Vals.drop: ∀ {xs:G0 V} {us:G0 G2} (n:P0),Vals xs us->Vals (xs.drop n) (us.drop n)
 |_,_,0,r=>r
 |_,_,_+1,.nil=> .nil
 |_,_,n+1,.cons _ t=>Vals.drop n t
def Mx:P5 V->P5 G2->Prop
 |some v,some u=>RelV v u
 |none,none=>True
 |_,_=>False
def KV {κ:Type}:G0 (κ×V)->G0 (κ×G2)->Prop:=Paired λ(p:κ×V) (q:κ×G2)=>p.1=q.1/\RelV p.2 q.2
def kV:Key->V
 | .inl i=> .int i
 | .inr x=> .str x
inductive HO where
 /-- a list -/
 |lst (xs:G0 V)
 /-- a tuple (never changes) -/
 |tup (xs:G0 V)
 /-- a dict whose keys are ints and texts;one whose keys are tuples of ints and texts (the empty one is both) -/
 |dK (kvs:G0 (Key×V))|dT (kvs:G0 (G0 Key×V))
 /-- a set of ints: its members,its size -/
 |set (S:G8->B4) (n:P0)
 /-- an instance of the class at C,its dict at dx,its attributes -/
 |ins (C dx:G6) (fs:G0 (Str×V))
 /-- the dict of the instance at x -/
 |own (x:G6)
 /-- the dict of an exception -/
 |xd (fs:G0 (Str×V))
 /-- a bound method,f of x -/
 |met (f x:G6)
 /-- a range object lo,lo+1,.. below hi -/
 |rng (lo hi:G8)
 /-- a thing that is known to the object (the script;a dict while a loop walks it):read,never written while it is so -/
 |frz (o:Obj) (u:HO)
 /-- a code object's table -/
 |tbl (ps:B3 G2)
 /-- any other thing,by what is true of its one object (a def of one's own: SetO a S n:=HO.ext λh=> ..) -/
 |ext (φ:N5->Prop)
abbrev Hp:=G6->P5 HO
def upd (H:Hp)(a:G6)(o:HO):Hp:=λb=>if b=a then some o else H b
variable {H:Hp}{a:G6}{o:HO}
theorem jl:upd H a o a=some o:=by unfold upd;rw [R3 rfl]
variable {b:G6}
theorem jg (h:b≠a):upd H a o b=H b:=by unfold upd;rw [S4 h]
theorem YA {u:HO}(h:H a=some o)(h':H b=some u)(d:o≠u):a≠b:=by
 intro e;subst e;rw [h] at h';exact d (M0 h')
theorem je (h:H a=some o)(h':H b=none):a≠b:=by
 intro e;subst e;rw [h] at h';cases h'
def IsTupN (h:N5)(a:G6)(items:B3 G2):Prop:= ∃o,h.get? a=some o/\o.cls= .type "tuple" /\o.dict=none/\ ∃n,o.data= .seq items n
theorem IsTupN.tup {h:N5}{a:G6}{items:B3 G2}(x:IsTupN h a items):iW h a items:=let ⟨o,e,c,_,n,d⟩:=x;⟨o,e,c,n,d⟩
theorem IsTupN.new (h:N5)(items:B3 G2):IsTupN (h.push {cls:= .type "tuple",data:= .seq items}) h.objs.size items:=⟨_,D4 _ rfl,rfl,rfl,_,rfl⟩
section
variable (P:S2)(w:M6)
def ObjOk (H:Hp)(h:N5)(a:G6):HO->Prop
 | .lst xs=>xs.length<=sizeLine/\ ∃ (its:G0 G2) (n:P0),Vals xs its/\h.get? a=some {cls:= .type "list",data:= .seq its.toArray n}
 | .tup xs=>xs.length<=sizeLine/\ ∃its:G0 G2,Vals xs its/\IsTupN h a its.toArray
 | .dK kvs=>kvs.length<=sizeLine/\(a==U1)=false/\ ∃vs,KV kvs vs/\h.DictOf (Vn P w) a vs
 | .dT kvs=>kvs.length<=sizeLine/\(a==U1)=false/\ ∃xs:G0 (G0 Key×G6×G2),
  Paired (λ(p:G0 Key×V) (q:G0 Key×G6×G2)=>p.1=q.1/\H q.2.1=some (.tup (p.1.map kV))/\RelV p.2 q.2.2) kvs xs/\
  ∃o es ep,h.get? a=some o/\o.ExactDict/\o.data= .dict es ep/\es.toList=xs.map (entryOfKey (tupleKind (Vn P w)))/\(xs.map (·.1)).Nodup
 | .set S n=>h.SetOf (intKind P w) a S n
 | .ins C dx fs=>H dx=some (.own a)/\fs.length<=1000/\dx≠a/\h.get? a=some (bP C dx)/\
  ∃mA,h.Ns1 dx mA/\(∀f,Mx (fs.lookup f) (mA f))/\iO mA (fs.map (·.1))
 | .own _=> ∃o,h.get? a=some o
 | .xd fs=> ∃mA,h.Ns1 a mA/\ ∀f,Mx (fs.lookup f) (mA f)
 | .rng lo hi=> ∃t u v,h.get? a=some {cls:= .type "range",data:= .fields #[.int lo t,.int hi u,.int 1 v]}
 | .frz o u=>h.get? a=some o/\ObjOk H h a u
 | .tbl ps=>h.get? a=some {cls:= .none,data:= .fields ps}
 | .met f x=>h.get? a=some (aN (.ref f) (.ref x))
 | .ext φ=>φ h/\(∃o,h.get? a=some o)/\ ∀h1 h2:N5,φ h1->(∀o,h1.get? a=some o->h2.get? a=some o)->φ h2
def HOk (H:Hp)(h:N5):Prop:= ∀a o,H a=some o->ObjOk P w H h a o
end
section
variable {P:S2}{w:M6}{H H':Hp}{h h':N5}{a:G6}{o:HO}
theorem ObjOk.lt (x:ObjOk P w H h a o):a<h.objs.size:=by
 cases o with
 |lst xs=>obtain⟨_,_,_,_,e⟩:=x;exact P9 e
 |tup xs=>obtain⟨_,_,_,p⟩:=x;exact p.tup.lt
 |dK kvs=>obtain⟨_,_,_,_,o,_,_,e,_⟩:=x;exact P9 e
 |dT kvs=>obtain⟨_,_,_,_,o,_,_,e,_⟩:=x;exact P9 e
 |set S n=>obtain⟨o,_,_,_,e,_⟩:=x;exact P9 e
 |ins C dx fs=>obtain⟨_,_,_,e,_⟩:=x;exact P9 e
 |own y=>obtain⟨_,e⟩:=x;exact P9 e
 |xd fs=>obtain⟨_,⟨_,_,_,e,_⟩,_⟩:=x;exact P9 e
 |rng lo hi=>obtain⟨_,_,_,e⟩:=x;exact P9 e
 |frz ob u=>obtain⟨e,_⟩:=x;exact P9 e
 |tbl ps=>exact P9 (show h.get? a=some _ from x)
 |met f y=>exact P9 (show h.get? a=some _ from x)
 |ext φ=>obtain⟨_,⟨_,e⟩,_⟩:=x;exact P9 e
theorem Paired.mapP {α β:Type}{F G:α->β->Prop}: ∀ {mV:G0 α} {mW:G0 β},Paired F mV mW->(∀a b,F a b->G a b)->Paired G mV mW
 |_,_,.nil,_=> .nil
 |_,_,.cons r t,f=> .cons (f _ _ r) (Paired.mapP t f)
theorem ObjOk.stay (x:ObjOk P w H h a o)(k: ∀b u,(b=a\/H b=some (.own a))->h.get? b=some u->h'.get? b=some u)
 (ho: ∀b,H b=some (.own a)->H' b=some (.own a))(ht: ∀b xs,H b=some (.tup xs)->H' b=some (.tup xs)):ObjOk P w H' h' a o:=by
 induction o with
 |lst xs=>obtain⟨z,its,n,r,e⟩:=x;exact⟨z,its,n,r,k _ _ (.inl rfl) e⟩
 |tup xs=>obtain⟨z,its,r,ob,e,c⟩:=x;exact⟨z,its,r,ob,k _ _ (.inl rfl) e,c⟩
 |dK kvs=>obtain⟨z,y,vs,r,ob,es,ep,e,c⟩:=x;exact⟨z,y,vs,r,ob,es,ep,k _ _ (.inl rfl) e,c⟩
 |dT kvs=>
  obtain⟨z,y,xs,r,ob,es,ep,e,c⟩:=x;exact⟨z,y,xs,Paired.mapP r λp q z=>⟨z.1,ht _ _ z.2.1,z.2.2⟩,ob,es,ep,k _ _ (.inl rfl) e,c⟩
 |set S n=>obtain⟨ob,es,ep,t,e,c⟩:=x;exact⟨ob,es,ep,t,k _ _ (.inl rfl) e,c⟩
 |ins C dx fs=>
  obtain⟨d,z,ne,e,mA,⟨od,es,ep,e2,c⟩,r⟩:=x;exact⟨ho _ d,z,ne,k _ _ (.inl rfl) e,mA,⟨od,es,ep,k _ _ (.inr d) e2,c⟩,r⟩
 |own y=>obtain⟨ob,e⟩:=x;exact⟨ob,k _ _ (.inl rfl) e⟩
 |xd fs=>obtain⟨mA,⟨od,es,ep,e,c⟩,r⟩:=x;exact⟨mA,⟨od,es,ep,k _ _ (.inl rfl) e,c⟩,r⟩
 |rng lo hi=>obtain⟨t,u,v,e⟩:=x;exact⟨t,u,v,k _ _ (.inl rfl) e⟩
 |frz ob u ih=>obtain⟨e,q⟩:=x;exact⟨k _ _ (.inl rfl) e,ih q⟩
 |tbl ps=>
  have e:h.get? a=some {cls:= .none,data:= .fields ps}:=x;show h'.get? a=some {cls:= .none,data:= .fields ps};exact k a _ (.inl rfl) e
 |met f y=>
  have e:h.get? a=some (aN (.ref f) (.ref y)):=x;show h'.get? a=some (aN (.ref f) (.ref y));exact k a _ (.inl rfl) e
 |ext φ=>obtain⟨p,⟨o,e⟩,st⟩:=x;exact⟨st _ _ p λo q=>k _ _ (.inl rfl) q,⟨o,k _ _ (.inl rfl) e⟩,st⟩
theorem HOk.lt (x:HOk P w H h)(e:H a=some o):a<h.objs.size:=(x a o e).lt
theorem HOk.fresh (x:HOk P w H h)(e:h.objs.size<=a):H a=none:=by
 cases q:H a with
 |none=>rfl
 |some u=>exact absurd (R4 (x.lt q) e) (B8 _)
theorem HOk.kept (x:HOk P w H h)(k: ∀b u,h.get? b=some u->h'.get? b=some u):HOk P w H h':=λa o e=>
 (x a o e).stay (λb u _ q=>k b u q) (λ_ q=>q) λ_ _ q=>q
theorem HOk.laid (x:HOk P w H h)(k: ∀b u,h.get? b=some u->h'.get? b=some u)(hp:h.objs.size<=a)(new:ObjOk P w (upd H a o) h' a o):HOk P w (upd H a o) h':=λb u e=>by
 have hn:=x.fresh hp
 by_cases hb:b=a
 ·subst hb;rw [jl] at e;cases e;exact new
 ·rw [jg hb] at e;exact(x b u e).stay (λc v _ q=>k c v q) (λc q=>by rw [jg (je q hn)];exact q) λc xs q=>by rw [jg (je q hn)];exact q
end
def Rd (H:Hp)(a:G6)(u:HO):Prop:=H a=some u\/ ∃o,H a=some (.frz o u)
variable {P:S2}{w:M6}{h:N5}
theorem Rd.ok {u:HO}(r:Rd H a u)(x:HOk P w H h):ObjOk P w H h a u:=by
 rcases r with r|⟨o,r⟩
 ·exact x a u r
 ·obtain⟨_,q⟩:=x a _ r;exact q
def Mut:P5 HO->Prop
 |some (.lst _)=>True
 |some (.dK _)=>True
 |some (.dT _)=>True
 |some (.set _ _)=>True
 |some (.ins _ _ _)=>True
 |some (.ext _)=>True
 |_=>False
section
variable {P:S2}{w:M6}{H:Hp}{h h':N5}{x e:G6}{o':HO}
theorem HOk.write (ok:HOk P w H h)(mu:Mut (H x))(he:e=x\/H e=some (.own x))(k: ∀b u,b≠e->h.get? b=some u->h'.get? b=some u)(heo: ∃u,h'.get? e=some u)
 (new:ObjOk P w (upd H x o') h' x o'):HOk P w (upd H x o') h':=λb u q=>by
 have nown: ∀c y,H c=some (.own y)->c≠x:=λc y r z=>by subst z;rw [r] at mu;exact mu
 have ntup: ∀c xs,H c=some (.tup xs)->c≠x:=λc xs r z=>by subst z;rw [r] at mu;exact mu
 by_cases hb:b=x
 ·subst hb;rw [jl] at q;cases q;exact new
 ·rw [jg hb] at q
  by_cases hbe:b=e
  ·have q':H b=some (.own x):=by
    rcases he with z|z
    ·exact absurd (hbe.trans z) hb
    ·rw [hbe];exact z
   rw [q] at q';cases q';obtain⟨v,hv⟩:=heo;exact⟨v,by rw [hbe];exact hv⟩
  ·refine(ok b u q).stay (λc v hc r=>k c v ?_ r) (λc r=>by rw [jg (nown c b r)];exact r) λc xs r=>by rw [jg (ntup c xs r)];exact r
   rcases hc with rfl|hc
   ·exact hbe
   ·rintro rfl;rcases he with z|z
    ·exact nown c b hc z
    ·rw [hc] at z;cases z;exact hb rfl
end
structure Un (fs ex:G0 G6)(H H':Hp)(h h':N5):Prop where
 keep: ∀b o,h.get? b=some o->H b=none->b ∉ fs->b ∉ ex->h'.get? b=some o
 slot: ∀b o,h.get? b=some o->H b=none->b∈fs->b ∉ ex-> ∃sl,h'.get? b=some {o with slots:=sl}
 free: ∀b o,h.get? b=some o->H b=none->b ∉ ex->H' b=none
 there: ∀b o,h.get? b=some o->b ∉ ex-> ∃o',h'.get? b=some o'
 tups: ∀b xs,H b=some (.tup xs)->H' b=some (.tup xs)
 frzs: ∀b o u,H b=some (.frz o u)->H' b=some (.frz o u)
 tbls: ∀b ps,H b=some (.tbl ps)-> ∃more,H' b=some (.tbl (ps++more))
section
variable {fs fs' ex ex':G0 G6}{H H1 H2:Hp}{h h1 h2 h':N5}{a x e:G6}{o:HO}
theorem Un.any (u:Un fs ex H H1 h h1){b:G6}{ob:Obj}(q:h.get? b=some ob)(n:H b=none)(hx:b ∉ ex): ∃sl,h1.get? b=some {ob with slots:=sl}:=by
 by_cases hb:b∈fs
 ·exact u.slot b ob q n hb hx
 ·exact⟨ob.slots,u.keep b ob q n hb hx⟩
theorem Un.kept (k: ∀b u,h.get? b=some u->h'.get? b=some u):Un fs ex H H h h':=
 ⟨λb ob q _ _ _=>k b ob q,λb ob q _ _ _=>⟨ob.slots,k b ob q⟩,λ_ _ _ n _=>n,λb ob q _=>⟨ob,k b ob q⟩,λ_ _ q=>q,λ_ _ _ q=>q,λ_ ps q=>⟨#[],by rw [q];simp⟩⟩
theorem Un.refl:Un fs ex H H h h:=Un.kept λ_ _ q=>q
theorem Un.laid (k: ∀b u,h.get? b=some u->h'.get? b=some u)(hp:h.objs.size<=a)(hn:H a=none):Un fs ex H (upd H a o) h h' where
 keep:=λb u q _ _ _=>k b u q
 slot:=λb u q _ _ _=>⟨u.slots,k b u q⟩
 free:=λb u q n _=>by rw [jg (R7 (R4 (P9 q) hp))];exact n
 there:=λb u q _=>⟨u,k b u q⟩
 tups:=λb xs q=>by rw [jg (je q hn)];exact q
 frzs:=λb u xs q=>by rw [jg (je q hn)];exact q
 tbls:=λb ps q=>⟨#[],by rw [jg (je q hn),q];simp⟩
theorem Un.write (mu:Mut (H x))(he:e=x\/H e=some (.own x))(k: ∀b u,b≠e->h.get? b=some u->h'.get? b=some u)(heo: ∃u,h'.get? e=some u):Un fs ex H (upd H x o) h h':=by
 have hx: ∀b,H b=none->b≠x:=λb n z=>by subst z;rw [n] at mu;exact mu
 have hb: ∀b,H b=none->b≠e:=λb n z=>by
  subst z;rcases he with r|r
  ·exact hx b n r
  ·rw [n] at r;cases r
 have hm: ∀b u,H b=some u-> ¬Mut (some u)->b≠x:=λb u q nm z=>by subst z;rw [q] at mu;exact nm mu
 refine⟨λb u q n _ _=>k b u (hb b n) q,λb u q n _ _=>⟨u.slots,k b u (hb b n) q⟩,λb u q n _=>by rw [jg (hx b n)];exact n,λb u q _=> ?_,
  λb xs q=>by rw [jg (hm b _ q λz=>z)];exact q,λb u xs q=>by rw [jg (hm b _ q λz=>z)];exact q,λb ps q=>⟨#[],by rw [jg (hm b _ q λz=>z),q];simp⟩⟩
 by_cases hbe:b=e
 ·subst hbe;exact heo
 ·exact⟨u,k b u hbe q⟩
end
def trk (h:N5)(H:Hp):G0 G6:=(D3 h.objs.size).filter λa=>(H a).isSome
def Xl (h:N5)(H:Hp):N5:=lQ h (trk h H)
theorem Vo (h:N5)(H:Hp):(Xl h H).objs.size=h.objs.size:=iY _ _
theorem Jk {o:Obj}(e:h.get? b=some o)(n:H b=none):(Xl h H).get? b=some o:=
 j7 _ e λhm=>by
  have q:(H b).isSome=true:=(Q7.mp hm).2;rw [n] at q;simp at q
theorem QK {o:Obj}(e:(Xl h H).get? b=some o):h.get? b=some o/\H b=none:=by
 have e':h.get? b=some o:=kG (trk h H) e;refine⟨e',?_⟩;cases q:H b with
 |none=>rfl
 |some x=>
  have hm:b∈trk h H:=Q7.mpr ⟨S8.mpr (P9 e'),by simp [q]⟩;have z:(Xl h H).get? b=none:=iZ (trk h H) hm;rw [z] at e;cases e
def QL (g h:N5)(L:G6):G0 (G6×Obj):=(D3 h.objs.size).filterMap λa=>if a=L\/(g.get? a).isSome=true then none else (h.get? a).map λo=>(a,o)
def zF (g h:N5)(L d:G6):G0 (G6×Obj):=(QL g h L).filter λp=>decide (p.1≠d)
structure Mod (K:G1)(mg:Str->P5 G2)(base:N5):Prop where
 kin:K.In base
 glob:base.Ns N6 mg
 blt: ∃mb,base.Ns a8 mb/\ ∀x:Str,x≠ "__name__" ->mb x=C5 x
 nolimit:base.NoLimit
structure Cx where
 prog:S2
 w:M6
 K:G1
 mg:Str->P5 G2
 base:N5
 A:M5
 N:G0 Str
 s₀:G5
 H₀:Hp
 env:Env
 outer:G0 Env
 stack:G0 Env
 ex:G0 G6
 fn:Str->B4
 calm:B4
 pn:G0 (G6×Obj)
 xe:G2->G5->Prop
def frs (l:G0 Env):G0 G6:=l.filterMap (·.frame)
abbrev Cx.fs (X:Cx):G0 G6:=frs X.outer
def Vis (sc:L7)(x:Str):Prop:=sc.names.lookup x=some .local\/sc.names.lookup x=some .cell\/sc.names.lookup x=some .free
def Loc (sc:L7)(x:Str):Prop:=sc.names.lookup x=some .local\/sc.names.lookup x=some .cell
def Bt (env:Env)(h:N5)(m:Str->P5 G2)(x:Str)(u:G2):Prop:=
 (env.kindOf x=some .local/\m x=some u)\/((env.kindOf x=some .cell\/env.kindOf x=some .free)/\ ∃c,env.cells.lookup x=some c/\h.IsCell c (some u))
structure Cx.Ok (X:Cx):Prop where
 mod:Mod X.K X.mg X.base
 kind:X.env.scope.kind= .function
 glob:X.env.globals=N6
 blt:X.env.builtins=a8
 above:X.s₀.heap.objs.size<=X.env.locals
 inj: ∀x y c,X.env.cells.lookup x=some c->X.env.cells.lookup y=some c->x=y
 has: ∀x,(X.env.kindOf x=some .cell\/X.env.kindOf x=some .free)-> ∃c,X.env.cells.lookup x=some c
 cab: ∀x c,X.fn x=true->X.env.cells.lookup x=some c->X.s₀.heap.objs.size<=c
 hd:X.calm=true->X.A.handled=none
 frames:X.A.frames=some X.stack
 stk:X.stack=X.outer\/(X.stack=X.env::X.outer/\X.env.frame=some X.env.locals)
 exf: ∀b∈X.ex,b≠X.env.locals/\ ∀x c,X.env.cells.lookup x=some c->c≠b
 bs: ∀b o,X.base.get? b=some o->X.s₀.heap.get? b=some o/\X.H₀ b=none
 bsz:X.base.objs.size<=X.s₀.heap.objs.size
 noex: ∀b o,X.base.get? b=some o->b ∉ X.ex
 exfs: ∀b∈X.ex,b ∉ X.fs
 funs:X.s₀.heap.FunFrames X.base X.outer
 frf: ∀b∈X.fs,X.H₀ b=none
structure Inv (X:Cx)(pins:G0 (G6×Obj))(σ:G0 (P5 V))(H:Hp)(s:G5):Prop where
 ok:X.Ok
 os:s.os=X.s₀.os
 bare:aO s.gens
 base:Un X.fs X.ex X.H₀ H X.s₀.heap s.heap
 loc: ∃m,s.heap.Ns X.env.locals m/\ ∀ (i:P0) (x:Str) (v:V),X.N[i]? =some x->σ[i]? =some (some v)->Vis X.env.scope x-> ∃u,RelV v u/\Bt X.env s.heap m x u
 cell: ∀x c,X.env.cells.lookup x=some c-> ∃v,s.heap.IsCell c v
 free:H X.env.locals=none
 freeC: ∀x c,X.env.cells.lookup x=some c->H c=none
 pin: ∀p∈X.pn++pins,s.heap.get? p.1=some p.2/\H p.1=none/\p.1≠X.env.locals/\p.1 ∉ X.fs/\ ∀v,p.2.data≠ .cell v
 hok:HOk X.prog X.w H s.heap
 len:σ.length=X.N.length
section
variable {X:Cx}{pins:G0 (G6×Obj)}{σ:G0 (P5 V)}{H H':Hp}{s:G5}{h':N5}
theorem Cx.Ok.nofr (ok:X.Ok){b:G6}{o:Obj}(e:X.base.get? b=some o):b ∉ X.fs:=λhb=>by
 have:=(ok.funs.mem hb).1;rw [e] at this;cases this
theorem Inv.bs (I:Inv X pins σ H s): ∀b o,X.base.get? b=some o->s.heap.get? b=some o/\H b=none:=λb o e=>
 ⟨I.base.keep b o (I.ok.bs b o e).1 (I.ok.bs b o e).2 (I.ok.nofr e) (I.ok.noex b o e),I.base.free b o (I.ok.bs b o e).1 (I.ok.bs b o e).2 (I.ok.noex b o e)⟩
theorem Inv.bk (I:Inv X pins σ H s): ∀b o,X.base.get? b=some o->s.heap.get? b=some o:=λb o e=>(I.bs b o e).1
theorem Inv.mod (I:Inv X pins σ H s):Mod X.K X.mg X.base:=I.ok.mod
theorem Inv.kIn (I:Inv X pins σ H s):X.K.In s.heap:=I.ok.mod.kin.keeps I.bk
theorem Inv.lt (I:Inv X pins σ H s):X.env.locals<s.heap.objs.size:=let ⟨_,hn,_⟩:=I.loc;hn.lt
theorem Inv.sz (I:Inv X pins σ H s):X.s₀.heap.objs.size<=s.heap.objs.size:=T8 I.ok.above (N1 I.lt)
theorem Inv.nofs (I:Inv X pins σ H s){a:G6}(h:s.heap.objs.size<=a):a ∉ X.fs:=λhb=>by
 obtain⟨_,o,ho,_⟩:=I.ok.funs.mem hb;exact absurd (R4 (P9 ho) (T8 I.sz h)) (B8 _)
theorem Inv.cne (I:Inv X pins σ H s): ∀x c,X.env.cells.lookup x=some c->c≠X.env.locals:=λx c e z=>by
 obtain⟨v,o,ho,hd⟩:=I.cell x c e;obtain⟨m,⟨o',es,ep,ho',hd',_⟩,_⟩:=I.loc;rw [z,ho'] at ho;cases ho;rw [hd'] at hd;cases hd
theorem Inv.funs (I:Inv X pins σ H s):s.heap.FunFrames X.base X.outer:=by
 have all: ∀ (l:G0 Env),(∀b∈frs l,b∈X.fs)->X.s₀.heap.FunFrames X.base l->s.heap.FunFrames X.base l:=by
  intro l
  induction l with
  |nil=>intro _ _;trivial
  |cons env r ih=>
   intro hs hl;obtain⟨hk,⟨L,o,hf,hn,ho,hd⟩,hr⟩:=hl;have hL:L∈X.fs:=hs L (by unfold frs;rw [Y4,hf];exact P6);obtain⟨sl,e⟩:=I.base.slot L o ho (I.ok.frf L hL) hL λz=>I.ok.exfs L z hL
   exact⟨hk,⟨L,_,hf,hn,e,hd⟩,ih (λb hb=>hs b (by unfold frs;rw [Y4,hf];exact D2 _ hb)) hr⟩
 exact all X.outer (λ_ hb=>hb) I.ok.funs
theorem Inv.stack (I:Inv X pins σ H s):s.heap.FunFrames X.base X.stack:=by
 rcases I.ok.stk with e|⟨e,hf⟩
 ·rw [e];exact I.funs
 ·rw [e];obtain⟨m,hn,_⟩:=I.loc;refine .cons (by rw [I.ok.kind];decide) hf hn ?_ I.funs;exact Heap.get?_none_of_le (T8 I.ok.bsz I.ok.above)
theorem Inv.stkSub (I:Inv X pins σ H s): ∀b∈frs X.stack,b∈X.env.locals::X.fs:=λb hb=>by
 rcases I.ok.stk with e|⟨e,hf⟩
 ·rw [e] at hb;exact D2 _ hb
 ·rw [e] at hb;unfold frs at hb;rw [Y4,hf] at hb;exact hb
theorem Inv.stkFree (I:Inv X pins σ H s): ∀b∈frs X.stack,H b=none:=λb hb=>by
 rcases R5.mp (I.stkSub b hb) with e|hb
 ·rw [e];exact I.free
 ·obtain⟨_,o,ho,_⟩:=I.ok.funs.mem hb;exact I.base.free b o ho (I.ok.frf b hb) λz=>I.ok.exfs b z hb
variable {t':P0}
theorem Inv.step {g':B3 GenState}{d':Drawn}{ch:G0 G6}(I:Inv X pins σ H s)
 (hch: ∀b∈ch,(b∈X.ex\/X.s₀.heap.objs.size<=b)/\b≠X.env.locals/\(∀x c,X.env.cells.lookup x=some c->c≠b)/\ ∀p∈X.pn++pins,p.1≠b)
 (keep: ∀b o,b≠X.env.locals->b ∉ X.fs->b ∉ ch->s.heap.get? b=some o->H b=none->h'.get? b=some o)
 (slot: ∀b o,b≠X.env.locals->b∈X.fs->b ∉ ch->s.heap.get? b=some o->H b=none-> ∃sl,h'.get? b=some {o with slots:=sl})(free: ∀b o,b ∉ ch->s.heap.get? b=some o->H b=none->H' b=none)
 (there: ∀b o,b ∉ ch->s.heap.get? b=some o-> ∃o',h'.get? b=some o')
 (tups: ∀b xs,H b=some (.tup xs)->H' b=some (.tup xs))(frzs: ∀b o u,H b=some (.frz o u)->H' b=some (.frz o u))(tbls: ∀b ps,H b=some (.tbl ps)-> ∃more,H' b=some (.tbl (ps++more)))
 (ns: ∀m,s.heap.Ns X.env.locals m->h'.Ns X.env.locals m)(hok:HOk X.prog X.w H' h')(hg:aO g'):
 Inv X pins σ H' {s with heap:=h',gens:=g',drawn:=d',toks:=t'}:=by
 have neL: ∀b o,X.s₀.heap.get? b=some o->b≠X.env.locals:=λb o e=>R7 (R4 (P9 e) I.ok.above)
 have neC: ∀b o,X.s₀.heap.get? b=some o->b ∉ X.ex->b ∉ ch:=λb o e hx hb=>by
  rcases (hch b hb).1 with z|z
  ·exact hx z
  ·exact absurd (R4 (P9 e) z) (B8 _)
 have cellK: ∀x c,X.env.cells.lookup x=some c-> ∀v,s.heap.IsCell c v->h'.IsCell c v:=λx c e v ⟨o,ho,hd⟩=>by
  have nch:c ∉ ch:=λz=>(hch c z).2.2.1 x c e rfl
  by_cases hc:c∈X.fs
  ·obtain⟨sl,q⟩:=slot c o (I.cne x c e) hc nch ho (I.freeC x c e);exact⟨_,q,hd⟩
  ·exact⟨o,keep c o (I.cne x c e) hc nch ho (I.freeC x c e),hd⟩
 refine⟨I.ok,I.os,hg,⟨λb o e n hb hx=> ?_,λb o e n hb hx=> ?_,λb o e n hx=> ?_,λb o e hx=> ?_,λb xs e=>tups b xs (I.base.tups b xs e),λb o xs e=>frzs b o xs (I.base.frzs b o xs e),λb ps e=> ?_⟩,?_,λx c e=> ?_,?_,λx c e=> ?_,λp hp=> ?_,hok,I.len⟩
 ·exact keep b o (neL b o e) hb (neC b o e hx) (I.base.keep b o e n hb hx) (I.base.free b o e n hx)
 ·obtain⟨sl,e1⟩:=I.base.slot b o e n hb hx;obtain⟨sl',e2⟩:=slot b _ (neL b o e) hb (neC b o e hx) e1 (I.base.free b o e n hx);exact⟨sl',e2⟩
 ·obtain⟨o',e1⟩:=I.base.there b o e hx;exact free b o' (neC b o e hx) e1 (I.base.free b o e n hx)
 ·obtain⟨o',e1⟩:=I.base.there b o e hx;exact there b o' (neC b o e hx) e1
 ·obtain⟨m1,e1⟩:=I.base.tbls b ps e;obtain⟨m2,e2⟩:=tbls b _ e1;exact⟨m1++m2,by rw [e2,Array.append_assoc]⟩
 ·obtain⟨m,hn,hl⟩:=I.loc;refine⟨m,ns m hn,λi x v e1 e2 e3=> ?_⟩;obtain⟨u,r,l⟩:=hl i x v e1 e2 e3;refine⟨u,r,?_⟩;rcases l with l|⟨k,c,e,z⟩
  ·exact .inl l
  ·exact .inr ⟨k,c,e,cellK x c e _ z⟩
 ·obtain⟨v,z⟩:=I.cell x c e;exact⟨v,cellK x c e v z⟩
 ·obtain⟨m,⟨o,_,_,ho,_⟩,_⟩:=I.loc;exact free _ o (λz=>(hch _ z).2.1 rfl) ho I.free
 ·obtain⟨v,o,ho,hd⟩:=I.cell x c e;exact free c o (λz=>(hch c z).2.2.1 x c e rfl) ho (I.freeC x c e)
 ·obtain⟨e,n,ne,nf,d⟩:=I.pin p hp;have nch:p.1 ∉ ch:=λz=>(hch p.1 z).2.2.2 p hp rfl
  exact⟨keep p.1 p.2 ne nf nch e n,free p.1 p.2 nch e n,ne,nf,d⟩
theorem Inv.un (I:Inv X pins σ H s)(u:Un X.fs [] H H' s.heap h')(hok:HOk X.prog X.w H' h'):Inv X pins σ H' {s with heap:=h',toks:=t'}:=by
 obtain⟨m,⟨o,es,ep,ho,r⟩,_⟩:=id I.loc;obtain⟨sl,hL⟩:=u.any ho I.free (by simp);exact I.step (g':=s.gens) (d':=s.drawn) (ch:= []) (λ_ z=>nomatch z) (λb o _ hb _ e n=>u.keep b o e n hb (by simp)) (λb o _ hb _ e n=>u.slot b o e n hb (by simp)) (λb o _ e n=>u.free b o e n (by simp)) (λb o _ e=>u.there b o e (by simp)) u.tups u.frzs u.tbls (λm' hm=>by
  obtain⟨o',es',ep',ho',r'⟩:=hm;rw [ho] at ho';cases ho';exact⟨_,es',ep',hL,r'⟩) hok I.bare
theorem Inv.call {g':B3 GenState}{d':Drawn}{ch:G0 G6}(I:Inv X pins σ H s)(u:Un (frs X.stack) ch H H' s.heap h')(hok:HOk X.prog X.w H' h')(hg:aO g')
 (hch: ∀b∈ch,(b∈X.ex\/X.s₀.heap.objs.size<=b)/\b≠X.env.locals/\(∀x c,X.env.cells.lookup x=some c->c≠b)/\ ∀p∈X.pn++pins,p.1≠b):
 Inv X pins σ H' {s with heap:=h',gens:=g',drawn:=d',toks:=t'}:=by
 obtain⟨m,⟨o,es,ep,ho,r⟩,_⟩:=id I.loc;obtain⟨sl,hL⟩:=u.any ho I.free λz=>(hch _ z).2.1 rfl
 exact I.step (ch:=ch) hch (λb o hL hb hc e n=>u.keep b o e n (λz=>(R5.mp (I.stkSub b z)).elim hL hb) hc) (λb o _ _ hc e n=>u.any e n hc) (λb o hc e n=>u.free b o e n hc) (λb o hc e=>u.there b o e hc) u.tups u.frzs u.tbls (λm' hm=>by
  obtain⟨o',es',ep',ho',r'⟩:=hm;rw [ho] at ho';cases ho';exact⟨_,es',ep',hL,r'⟩) hok hg
theorem Inv.turned {it:G6}(I:Inv X pins σ H s)(k: ∀b o,b≠it->s.heap.get? b=some o->h'.get? b=some o)(hn:H it=none)(hL:it≠X.env.locals)
 (h1:it∈X.ex\/X.s₀.heap.objs.size<=it)(h2: ∀x c,X.env.cells.lookup x=some c->c≠it)(h3: ∀p∈X.pn++pins,p.1≠it):Inv X pins σ H {s with heap:=h',toks:=t'}:=by
 have nit: ∀b u,H b=some u->b≠it:=λb u e z=>by rw [z,hn] at e;cases e
 refine I.step (g':=s.gens) (d':=s.drawn) (ch:= [it]) (λb hb=> ?_) (λb o _ _ hc e _=>k b o (λz=>hc (by simp [z])) e) (λb o _ _ hc e _=>⟨o.slots,k b o (λz=>hc (by simp [z])) e⟩) (λ_ _ _ _ n=>n)
  (λb o hc e=>⟨o,k b o (λz=>hc (by simp [z])) e⟩) (λ_ _ e=>e) (λ_ _ _ e=>e) (λb ps e=>⟨#[],by rw [e];simp⟩) (λm hm=> ?_) (λb u e=> ?_) I.bare
 ·have e:b=it:=by simpa using hb
  subst e;exact⟨h1,hL,h2,h3⟩
 ·obtain⟨o,es,ep,ho,r⟩:=hm;exact⟨o,es,ep,k _ o (C6 hL) ho,r⟩
 ·refine(I.hok b u e).stay (λc v hc q=>k c v ?_ q) (λ_ q=>q) λ_ _ q=>q
  rcases hc with z|z
  ·rw [z];exact nit b u e
  ·exact nit c _ z
theorem Inv.tok (I:Inv X pins σ H s)(t:P0):Inv X pins σ H {s with toks:=t}:=I.un (h':=s.heap) (t':=t) Un.refl I.hok
theorem Inv.kept (I:Inv X pins σ H s)(k: ∀b u,s.heap.get? b=some u->h'.get? b=some u):Inv X pins σ H {s with heap:=h',toks:=t'}:=I.un (Un.kept k) (I.hok.kept k)
theorem Inv.laid {a:G6}{o:HO}(I:Inv X pins σ H s)(k: ∀b u,s.heap.get? b=some u->h'.get? b=some u)(hp:s.heap.objs.size<=a)(new:ObjOk X.prog X.w (upd H a o) h' a o):
 Inv X pins σ (upd H a o) {s with heap:=h',toks:=t'}:=I.un (Un.laid k hp (I.hok.fresh hp)) (I.hok.laid k hp new)
theorem Inv.write {x e:G6}{o:HO}(I:Inv X pins σ H s)(mu:Mut (H x))(he:e=x\/H e=some (.own x))(k: ∀b u,b≠e->s.heap.get? b=some u->h'.get? b=some u)(heo: ∃u,h'.get? e=some u)
 (new:ObjOk X.prog X.w (upd H x o) h' x o):Inv X pins σ (upd H x o) {s with heap:=h',toks:=t'}:=I.un (Un.write mu he k heo) (I.hok.write mu he k heo new)
theorem Inv.weak {mB:G0 (P5 V)}(I:Inv X pins σ H s)(hl:mB.length=σ.length)(w: ∀ (i:P0) v,mB[i]? =some (some v)->σ[i]? =some (some v)):Inv X pins mB H s:=
 ⟨I.ok,I.os,I.bare,I.base,let ⟨m,hn,hl'⟩:=I.loc;⟨m,hn,λi x v e1 e2 e3=>hl' i x v e1 (w i v e2) e3⟩,I.cell,I.free,I.freeC,I.pin,I.hok,hl.trans I.len⟩
theorem Inv.pins_of {pins':G0 (G6×Obj)}(I:Inv X pins σ H s)(h: ∀p∈pins',s.heap.get? p.1=some p.2/\H p.1=none/\p.1≠X.env.locals/\p.1 ∉ X.fs/\ ∀v,p.2.data≠ .cell v):Inv X pins' σ H s:=
 ⟨I.ok,I.os,I.bare,I.base,I.loc,I.cell,I.free,I.freeC,λp hp=>(R8.mp hp).elim (λz=>I.pin p (M8 _ z)) (h p),I.hok,I.len⟩
theorem WZ {N:G0 Str}(hN:N.Nodup){i j:P0}{x:Str}(a:N[i]? =some x)(b:N[j]? =some x):i=j:=by
 obtain⟨h1,e1⟩:=D1.mp a;obtain⟨h2,e2⟩:=D1.mp b;exact(List.getElem_inj hN).mp (e1.trans e2.symm)
theorem Vp {M:fG}{A:M5}{E:G2->G5->Prop}{i:P0}{x:Str}{v:V}{u:G2}{Q:Unit->G5->Prop}(I:Inv X pins σ H s)(hN:X.N.Nodup)(hi:X.N[i]? =some x)(hx:Loc X.env.scope x)(r:RelV v u)
 (h: ∀s',Inv X pins (σ.set i (some v)) H s'->(∃a,Y8 a s.heap s'.heap/\(a=X.env.locals\/X.env.cells.lookup x=some a))->Q () s')(hf:X.fn x=true\/X.env.scope.names.lookup x=some .local:=by first|exact .inl rfl|exact .inr rfl|assumption):D7 M A (storeName X.env x u) Q E s:=by
 obtain⟨m,hn,hl⟩:=id I.loc;have hcls:(X.env.scope.kind== .class||(X.env.scope.kind== .module&&X.env.locals !=X.env.globals))=false:=by rw [I.ok.kind];rfl
 have mX:i<σ.length:=by rw [I.len];exact(D1.mp hi).1
 have cne:=I.cne;have tracked: ∀ {a:G6} {h':N5},(∃o,s.heap.get? a=some o/\H a=none)->Y8 a s.heap h'->HOk X.prog X.w H h':=λ{a h'} ha hs b ob e=>by
  obtain⟨_,_,hfree⟩:=ha;refine(I.hok b ob e).stay (λc w' hc q=>(hs.2 c ?_).trans q) (λ_ q=>q) λ_ _ q=>q
  rintro rfl;rcases hc with rfl|hc
  ·rw [hfree] at e;cases e
  ·rw [hfree] at hc;cases hc
 rcases hx with hk|hk
 ·refine wpAny_storeName_local hk hn (λh' hn' hs=> ?_) hcls;obtain⟨oL,_,_,hoL,_⟩:=id hn;refine h _ ⟨I.ok,I.os,I.bare,⟨λb o e n hb hx=> ?_,λb o e n hb hx=> ?_,I.base.free,λb o e hx=> ?_,I.base.tups,I.base.frzs,I.base.tbls⟩,⟨_,hn',λj y v' e1 e2 e3=> ?_⟩,λy c e=> ?_,I.free,I.freeC,λp hp=> ?_,tracked ⟨oL,hoL,I.free⟩ hs,by simpa using I.len⟩ ⟨_,hs,.inl rfl⟩
  ·exact(hs.2 b (R7 (R4 (P9 e) I.ok.above))).trans (I.base.keep b o e n hb hx)
  ·obtain⟨sl,e1⟩:=I.base.slot b o e n hb hx;exact⟨sl,(hs.2 b (R7 (R4 (P9 e) I.ok.above))).trans e1⟩
  ·obtain⟨o',e1⟩:=I.base.there b o e hx;exact⟨o',(hs.2 b (R7 (R4 (P9 e) I.ok.above))).trans e1⟩
  ·by_cases hj:j=i
   ·subst hj;rw [hi] at e1;cases e1;rw [a9 mX] at e2;cases e2;exact⟨u,r,.inl ⟨hk,by simp⟩⟩
   ·rw [B5 (C6 hj)] at e2;obtain⟨u',r',q⟩:=hl j y v' e1 e2 e3;refine⟨u',r',?_⟩;rcases q with ⟨k,e⟩|⟨k,c,e,z⟩
    ·refine .inl ⟨k,?_⟩;have:y≠x:=λe=>hj (WZ hN e1 (e ▸ hi))
     simp [this,e]
    ·exact .inr ⟨k,c,e,z.sameBut hs (cne y c e)⟩
  ·obtain⟨w',z⟩:=I.cell y c e;exact⟨w',z.sameBut hs (cne y c e)⟩
  ·obtain⟨e,n,ne,nf,d⟩:=I.pin p hp;exact⟨(hs.2 p.1 ne).trans e,n,ne,nf,d⟩
 ·have hfn:X.fn x=true:=by
   rcases hf with z|z
   ·exact z
   ·rw [z] at hk;cases hk
  obtain⟨c,hc⟩:=I.ok.has x (.inl hk);obtain⟨w',z⟩:=I.cell x c hc;refine wpAny_storeName_cell I.ok.kind hk hc z (λh' hc' hs=> ?_);obtain⟨oc,hoc,hocd⟩:=id z;refine h {s with heap:=h'} ⟨I.ok,I.os,I.bare,⟨λb o e n hb hx=> ?_,λb o e n hb hx=> ?_,I.base.free,λb o e hx=> ?_,I.base.tups,I.base.frzs,I.base.tbls⟩,⟨m,hn.sameBut hs (C6 (cne x c hc)),λj y v' e1 e2 e3=> ?_⟩,λy c' e=> ?_,I.free,I.freeC,λp hp=> ?_,tracked ⟨oc,hoc,I.freeC x c hc⟩ hs,by simpa using I.len⟩ ⟨c,hs,.inr hc⟩
  ·exact(hs.2 b (R7 (R4 (P9 e) (I.ok.cab x c hfn hc)))).trans (I.base.keep b o e n hb hx)
  ·obtain⟨sl,e1⟩:=I.base.slot b o e n hb hx;exact⟨sl,(hs.2 b (R7 (R4 (P9 e) (I.ok.cab x c hfn hc)))).trans e1⟩
  ·obtain⟨o',e1⟩:=I.base.there b o e hx;exact⟨o',(hs.2 b (R7 (R4 (P9 e) (I.ok.cab x c hfn hc)))).trans e1⟩
  ·by_cases hj:j=i
   ·subst hj;rw [hi] at e1;cases e1;rw [a9 mX] at e2;cases e2;exact⟨u,r,.inr ⟨.inl hk,c,hc,hc'⟩⟩
   ·rw [B5 (C6 hj)] at e2;obtain⟨u',r',q⟩:=hl j y v' e1 e2 e3;refine⟨u',r',?_⟩;rcases q with q|⟨k,c',e,z'⟩
    ·exact .inl q
    ·refine .inr ⟨k,c',e,z'.sameBut hs ?_⟩;rintro rfl;exact hj (WZ hN e1 (I.ok.inj _ _ _ e hc ▸ hi))
  ·by_cases hcc:c'=c
   ·subst hcc;exact⟨_,hc'⟩
   ·obtain⟨w2,z2⟩:=I.cell y c' e;exact⟨w2,z2.sameBut hs hcc⟩
  ·obtain⟨e,n,ne,nf,d⟩:=I.pin p hp;refine⟨(hs.2 p.1 ?_).trans e,n,ne,nf,d⟩;intro q;rw [q,hoc] at e;have q':oc=p.2:=M0 e;exact d w' (by rw [<-q'];exact hocd)
theorem yV {M:fG}{A:M5}{E:G2->G5->Prop}{i:P0}{x:Str}{v:V}{u:G2}{Q:Unit->G5->Prop}(I:Inv X pins σ H s)(hN:X.N.Nodup)(hi:X.N[i]? =some x)(hx:Loc X.env.scope x)(r:RelV v u)
 (h: ∀s',Inv X pins (σ.set i (some v)) H s'->Q () s')(hf:X.fn x=true\/X.env.scope.names.lookup x=some .local:=by first|exact .inl rfl|exact .inr rfl|assumption):D7 M A (storeName X.env x u) Q E s:=
 Vp I hN hi hx r (λs' I' _=>h s' I') hf
theorem Inv.call' {s':G5}{ch:G0 G6}(I:Inv X pins σ H s)(ho:s'.os=s.os)(u:Un (frs X.stack) ch H H' s.heap s'.heap)(hok:HOk X.prog X.w H' s'.heap)(hg:aO s'.gens)
 (hch: ∀b∈ch,(b∈X.ex\/X.s₀.heap.objs.size<=b)/\b≠X.env.locals/\(∀x c,X.env.cells.lookup x=some c->c≠b)/\ ∀p∈X.pn++pins,p.1≠b):Inv X pins σ H' s':=by
 obtain⟨h',g',d',t',o'⟩:=s';have e:o'=s.os:=ho;subst e;exact I.call (g':=g') (t':=t') (d':=d') u hok hg hch
end
abbrev XK:=G2->P5 G6->Hp->Prop
abbrev St:=G0 (P5 V)
abbrev VK:=V->Hp->Prop
abbrev TE:=St->Hp->VK->Prop
abbrev TT:=St->Hp->(B4->Hp->Prop)->Prop
abbrev TA:=St->Hp->(G0 V->Hp->Prop)->Prop
structure Ends where
 nx:St->Hp->Prop
 rt:VK
 bk:St->Hp->Prop:=λ_ _=>False
 ct:St->Hp->Prop:=λ_ _=>False
abbrev TS:=Ends->St->Hp->Prop
def EP (X:Cx)(pins:G0 (G6×Obj))(σ:St)(Q:VK)(u:G2)(s':G5):Prop:= ∃v H',Inv X pins σ H' s'/\RelV v u/\Q v H'
def TP (X:Cx)(pins:G0 (G6×Obj))(σ:St)(Q:B4->Hp->Prop)(b:B4)(s':G5):Prop:= ∃H',Inv X pins σ H' s'/\Q b H'
def AP (X:Cx)(pins:G0 (G6×Obj))(σ:St)(Q:G0 V->Hp->Prop)(us:G0 G2)(s':G5):Prop:= ∃vs H',Inv X pins σ H' s'/\Vals vs us/\Q vs H'
def SP (X:Cx)(pins:G0 (G6×Obj))(D:Ends)(f:Flow)(s':G5):Prop:=
 match f with
 | .next=> ∃mB H',Inv X pins mB H' s'/\D.nx mB H'
 | .brk=> ∃mB H',Inv X pins mB H' s'/\D.bk mB H'
 | .cont=> ∃mB H',Inv X pins mB H' s'/\D.ct mB H'
 | .ret u=> ∃v mB H',Inv X pins mB H' s'/\RelV v u/\D.rt v H'
def PE (X:Cx)(e:D8)(t:TE):Prop:=
 ∀ (pins:G0 (G6×Obj)) (s:G5) (σ:St) (H:Hp) (Q:VK),Inv X pins σ H s->t σ H Q->D7 (R1 X.prog X.w) X.A (B6 e X.env) (EP X pins σ Q) X.xe s
def PT (X:Cx)(e:D8)(t:TT):Prop:=
 ∀ (pins:G0 (G6×Obj)) (s:G5) (σ:St) (H:Hp) (Q:B4->Hp->Prop),Inv X pins σ H s->t σ H Q->D7 (R1 X.prog X.w) X.A (isTrue e X.env (B6 e X.env)) (TP X pins σ Q) X.xe s
def PW (X:Cx)(e:D8)(t:TT):Prop:=
 ∀ (whole:Sem G2) (pins:G0 (G6×Obj)) (s:G5) (σ:St) (H:Hp) (Q:B4->Hp->Prop),Inv X pins σ H s->t σ H Q->D7 (R1 X.prog X.w) X.A (isTrue e X.env whole) (TP X pins σ Q) X.xe s
variable {X:Cx}
theorem PW.pt {e:D8}{t:TT}(h:PW X e t):PT X e t:=h _
def PA (X:Cx)(es:G0 D8)(t:TA):Prop:=
 ∀ (pos:Pos) (pins:G0 (G6×Obj)) (s:G5) (σ:St) (H:Hp) (Q:G0 V->Hp->Prop),Inv X pins σ H s->t σ H Q->D7 (R1 X.prog X.w) X.A (spliced (H0 pos (P8 es X.env))) (AP X pins σ Q) X.xe s
def PS (X:Cx)(st:C3)(t:TS):Prop:=
 ∀ (pins:G0 (G6×Obj)) (s:G5) (σ:St) (H:Hp) (D:Ends),Inv X pins σ H s->t D σ H->D7 (R1 X.prog X.w) X.A (exec st X.env) (SP X pins D) X.xe s
def PSs (X:Cx)(st:G0 C3)(t:TS):Prop:=
 ∀ (pins:G0 (G6×Obj)) (s:G5) (σ:St) (H:Hp) (D:Ends),Inv X pins σ H s->t D σ H->D7 (R1 X.prog X.w) X.A (execs st X.env) (SP X pins D) X.xe s
variable {A:M5}{s:G5}
theorem thn {α:Type}{t:Sem α}{Q Q':α->G5->Prop}{M:fG}{E:G2->G5->Prop}(h:D7 M A t Q E s)(hQ: ∀a s,Q a s->Q' a s):D7 M A t Q' E s:=T3 h hQ λ_ _ x=>x
section
variable {X:Cx}
theorem bin {a b:D8}{ta tb:TE}(ha:PE X a ta)(hb:PE X b tb){pins:G0 (G6×Obj)}{s:G5}{σ:St}{H:Hp}{R:V->V->Hp->Prop}(I:Inv X pins σ H s)(h:ta σ H λx H1=>tb σ H1 λy H2=>R x y H2)
 {α:Type}{Q:α->G5->Prop}{f:G2->G2->Sem α}
 (hf: ∀v u s2 x y H2,Inv X pins σ H2 s2->RelV x v->RelV y u->R x y H2->D7 (R1 X.prog X.w) X.A (f v u) Q X.xe s2):
 D7 (R1 X.prog X.w) X.A (B6 a X.env) (λv mD=>D7 (R1 X.prog X.w) X.A (B6 b X.env) (λu mI=>D7 (R1 X.prog X.w) X.A (f v u) Q X.xe mI) X.xe mD) X.xe s:=by
 refine thn (ha pins s σ H _ I h) λv s1 ⟨x,H1,I1,r1,q1⟩=> ?_
 refine thn (hb pins s1 σ H1 _ I1 q1) λu s2 ⟨y,H2,I2,r2,q2⟩=> ?_
 exact hf v u s2 x y H2 I2 r1 r2 q2
def NN (i:P0):TE:=λσ H Q=> ∃v,σ[i]? =some (some v)/\Q v H
def tC (v:V):TE:=λ_ H Q=>Q v H
variable {x:Str}
theorem PV {i:P0}{pos:Pos}(hN:X.N[i]? =some x)(hv:Vis X.env.scope x)(hd:(x==("__debug__" :Str))=false:=by decide)(hcd:(x==("__classdict__" :Str))=false:=by decide):PE X (.Name x pos) (NN i):=by
 intro pins s σ H Q I h;obtain⟨v,e,h⟩:=h;obtain⟨m,hn,hl⟩:=I.loc;obtain⟨u,r,l⟩:=hl i x v hN e hv;have fin:EP X pins σ Q u s:=⟨v,H,I,r,h⟩;rcases l with ⟨hk,hm⟩|⟨hk,c,hc,hcell⟩
 ·exact f8 (wpAny_loadName_local I.ok.kind hk hn hm fin) hd
 ·rcases hk with hk|hk
  ·exact f8 (wpAny_loadName_cell I.ok.kind hk hc hcell fin) hd
  ·exact f8 (wpAny_loadName_free I.ok.kind hk hc hcell fin hcd) hd
theorem pe_int {i j pos}:PE X (.Constant (.int i) j pos) (tC (.int i)):=λ_ _ _ H _ I h=>wpAny_Constant_int ⟨.int i,H,I.tok _,⟨_,rfl⟩,h⟩
theorem pe_bl {b j pos}:PE X (.Constant (.bool b) j pos) (tC (.bl b)):=λ_ _ _ H _ I h=>Constant_bool ⟨.bl b,H,I,rfl,h⟩
theorem pe_non {j pos}:PE X (.Constant .none j pos) (tC .non):=λ_ _ _ H _ I h=>Constant_none ⟨.non,H,I,rfl,h⟩
def Gl (X:Cx)(x:Str):Prop:=X.env.kindOf x=some .globalImplicit
variable {u:G2}
theorem Vq {E:G2->G5->Prop}{pins:G0 (G6×Obj)}{s:G5}{σ:St}{H:Hp}{pos:Pos}{Q:G2->G5->Prop}(I:Inv X pins σ H s)(hg:Gl X x)(hm:X.mg x=some u)(h:Q u s)
 (hd:(x==("__debug__" :Str))=false:=by decide):D7 (R1 X.prog X.w) X.A (B6 (.Name x pos) X.env) Q E s:=
 Calls.Name_function_global I.ok.kind hg (Calls.loadGlobal_global (by rw [I.ok.glob];exact I.mod.glob.keeps I.bk) hm h) hd
theorem Zj {E:G2->G5->Prop}{pins:G0 (G6×Obj)}{s:G5}{σ:St}{H:Hp}{pos:Pos}{Q:G2->G5->Prop}(I:Inv X pins σ H s)(hg:Gl X x)(hm:X.mg x=none)(hv:C5 x=some u)(h:Q u s)
 (hn:x≠ "__name__" :=by decide)(hd:(x==("__debug__" :Str))=false:=by decide):D7 (R1 X.prog X.w) X.A (B6 (.Name x pos) X.env) Q E s:=by
 obtain⟨mb,h1,h2⟩:=I.mod.blt;exact Calls.Name_function_global I.ok.kind hg (Calls.loadGlobal_builtin (by rw [I.ok.glob];exact I.mod.glob.keeps I.bk) hm (by rw [I.ok.blt];exact h1.keeps I.bk) ((h2 x hn).trans hv) h) hd
theorem QM {v:V}{pos:Pos}(hg:Gl X x)(hm:X.mg x=some u)(r:RelV v u)(hd:(x==("__debug__" :Str))=false:=by decide):PE X (.Name x pos) (tC v):=
 λ_ _ _ H _ I h=>Vq I hg hm ⟨v,H,I,r,h⟩ hd
theorem QN {v:V}{pos:Pos}(hg:Gl X x)(hm:X.mg x=none)(hv:C5 x=some u)(r:RelV v u)(hn:x≠ "__name__" :=by decide)(hd:(x==("__debug__" :Str))=false:=by decide):PE X (.Name x pos) (tC v):=
 λ_ _ _ H _ I h=>Zj I hg hm hv ⟨v,H,I,r,h⟩ hn hd
variable {a b:D8}{ta tb:TE}{pos:Pos}
def tB (t:TE):TT:=λσ H Q=>t σ H λx H1=> ∃c,x= .bl c/\Q c H1
theorem PX {e:D8}{t:TE}(h:PE X e t)(he: ∀whole,isTrue e X.env whole=(do let v <-whole;Y9 e.pos;J5 [v] (gA v)):=by intro _;rfl):PT X e (tB t):=by
 intro pins s σ H Q I hw;refine iP (thn (h pins s σ H _ I hw) λv s1 ⟨x,H1,I1,r1,q1⟩=> ?_) (he _);obtain⟨d,rfl,q⟩:=q1;cases r1;exact C4 ⟨H1,I1,q⟩
variable {tA tB':TT}{zF:G0 D8}
def NO (t u:TT):TT:=λσ H Q=>t σ H λc H1=>if c=true then u σ H1 Q else Q false H1
def tOr (t u:TT):TT:=λσ H Q=>t σ H λc H1=>if c=true then Q true H1 else u σ H1 Q
def NP (t:TT):TT:=λσ H Q=>t σ H λc H1=>Q (!c) H1
theorem QP (ha:PT X a tA):PW X (.BoolOp .And [a] pos) tA:=by
 intro wh pins s σ H Q I h;refine kH (thn (ha pins s σ H Q I h) λc s1 e=> ?_);cases c with
 |true=>exact isTrue_and_nil e
 |false=>exact e
theorem PY (ha:PT X a tA):PW X (.BoolOp .Or [a] pos) tA:=by
 intro wh pins s σ H Q I h;refine isTrue_or (thn (ha pins s σ H Q I h) λc s1 e=> ?_);cases c with
 |false=>exact isTrue_or_nil e
 |true=>exact e
theorem PZ (ha:PT X a tA)(hb:PW X (.BoolOp .And (b::zF) pos) tB'):PW X (.BoolOp .And (a::b::zF) pos) (NO tA tB'):=by
 intro wh pins s σ H Q I h;refine kH (thn (ha pins s σ H _ I h) λc s1 ⟨H1,I1,q1⟩=> ?_);cases c with
 |true=>exact hb wh pins s1 σ H1 Q I1 q1
 |false=>exact⟨H1,I1,q1⟩
theorem Mz (ha:PT X a tA)(hb:PW X (.BoolOp .Or (b::zF) pos) tB'):PW X (.BoolOp .Or (a::b::zF) pos) (tOr tA tB'):=by
 intro wh pins s σ H Q I h;refine isTrue_or (thn (ha pins s σ H _ I h) λc s1 ⟨H1,I1,q1⟩=> ?_);cases c with
 |true=>exact⟨H1,I1,q1⟩
 |false=>exact hb wh pins s1 σ H1 Q I1 q1
theorem Da (ha:PT X a tA):PT X (.UnaryOp .Not a pos) (NP tA):=by
 intro pins s σ H Q I h;exact isTrue_not (ha pins s σ H (λc H1=>Q (!c) H1) I h)
def Db (ta tb:TE):TE:=λσ H Q=>ta σ H λx H1=> ∃c,x= .bl c/\if c=true then tb σ H1 Q else Q (.bl false) H1
def NQ (ta tb:TE):TE:=λσ H Q=>ta σ H λx H1=> ∃c,x= .bl c/\if c=true then Q (.bl true) H1 else tb σ H1 Q
def Dc (ta:TE):TE:=λσ H Q=>ta σ H λx H1=> ∃c,x= .bl c/\Q (.bl (!c)) H1
theorem De {op}{t:TE}(h:PE X a t):PE X (.BoolOp op [a] pos) t:=λpins s σ H Q I hw=>BoolOp_one (h pins s σ H Q I hw)
theorem Df (ha:PE X a ta)(hb:PE X (.BoolOp .And (b::zF) pos) tb):PE X (.BoolOp .And (a::b::zF) pos) (Db ta tb):=by
 intro pins s σ H Q I h;refine BoolOp_and (thn (ha pins s σ H _ I h) λv s1 ⟨x,H1,I1,r1,q1⟩=> ?_);obtain⟨c,rfl,q1⟩:=q1;cases r1;refine C4 ?_;cases c with
 |true=>exact hb pins s1 σ H1 Q I1 q1
 |false=>exact⟨.bl false,H1,I1,rfl,q1⟩
theorem MA (ha:PE X a ta)(hb:PE X (.BoolOp .Or (b::zF) pos) tb):PE X (.BoolOp .Or (a::b::zF) pos) (NQ ta tb):=by
 intro pins s σ H Q I h;refine BoolOp_or (thn (ha pins s σ H _ I h) λv s1 ⟨x,H1,I1,r1,q1⟩=> ?_);obtain⟨c,rfl,q1⟩:=q1;cases r1;refine C4 ?_;cases c with
 |false=>exact hb pins s1 σ H1 Q I1 q1
 |true=>exact⟨.bl true,H1,I1,rfl,q1⟩
theorem Dg (ha:PE X a ta):PE X (.UnaryOp .Not a pos) (Dc ta):=by
 intro pins s σ H Q I h;refine UnaryOp_ (thn (ha pins s σ H _ I h) λv s1 ⟨x,H1,I1,r1,q1⟩=> ?_);obtain⟨c,rfl,q1⟩:=q1;cases r1;exact not_of (C4 ⟨.bl (!c),H1,I1,rfl,q1⟩)
def tIf (t:TT)(ta tb:TE):TE:=λσ H Q=>t σ H λc H1=>if c=true then ta σ H1 Q else tb σ H1 Q
theorem Xm {c:D8}(hc:PT X c tA)(ha:PE X a ta)(hb:PE X b tb):PE X (.IfExp c a b pos) (tIf tA ta tb):=by
 intro pins s σ H Q I h;refine wpAny_IfExp (thn (hc pins s σ H _ I h) λd s1 ⟨H1,I1,q1⟩=> ?_);cases d with
 |true=>exact ha pins s1 σ H1 Q I1 q1
 |false=>exact hb pins s1 σ H1 Q I1 q1
end
def SqL (K:G1)(H:Hp)(a:G6)(xs:G0 V):Prop:=
 Rd H a (.lst xs)\/
  ∃ (o:Obj) (its:B3 G2) (n:P0),K.lookup a=some o/\o.cls= .type "list" /\o.dict=none/\o.data= .seq its n/\its.size<=sizeLine/\Vals xs its.toList
def SqT (K:G1)(H:Hp)(a:G6)(xs:G0 V):Prop:=
 Rd H a (.tup xs)\/
  ∃ (o:Obj) (its:B3 G2) (n:P0),K.lookup a=some o/\o.cls= .type "tuple" /\o.data= .seq its n/\its.size<=sizeLine/\Vals xs its.toList
def Bv:G2->P5 V
 | .none=>some .non
 | .bool b=>some (.bl b)
 | .int i _=>some (.int i)
 | .str x _=>some (.str x)
 | .bytes b _=>some (.byt b)
 | .float b _=>some (.flt b)
 | .ref a=>some (.ref a)
 | .type n=>some (.ty n)
 |_=>none
theorem RelV.abs {x:V}(r:RelV x u):Bv u=some x:=by
 cases x with
 |non=>cases r;rfl
 |bl _=>cases r;rfl
 |int _=>obtain⟨t,rfl⟩:=r;rfl
 |str _=>obtain⟨t,rfl⟩:=r;rfl
 |byt _=>obtain⟨t,rfl⟩:=r;rfl
 |flt _=>obtain⟨t,rfl⟩:=r;rfl
 |ref _=>cases r;rfl
 |ty _=>cases r;rfl
theorem RelV.inj {x y:V}(r:RelV x u)(q:RelV y u):x=y:=M0 (r.abs.symm.trans q.abs)
theorem Vals.inj: ∀ {xs ys:G0 V} {us:G0 G2},Vals xs us->Vals ys us->xs=ys
 |_,_,_,.nil,.nil=>rfl
 |_,_,_,.cons r t,.cons r' t'=>by rw [r.inj r',Vals.inj t t']
section
variable {X:Cx}{pins:G0 (G6×Obj)}{σ:St}{H:Hp}{s:G5}{a:G6}{xs ys:G0 V}
theorem SqL.of {K:G1}(h:H a=some (.lst xs)):SqL K H a xs:= .inl (.inl h)
theorem SqT.of {K:G1}(h:H a=some (.tup xs)):SqT K H a xs:= .inl (.inl h)
theorem Inv.list (I:Inv X pins σ H s)(h:SqL X.K H a xs): ∃its:G0 G2,Vals xs its/\PlainL s.heap a its.toArray/\xs.length<=sizeLine:=by
 rcases h with h|⟨o,its,n,hk,hc,hd,hs,hz,r⟩
 ·obtain⟨z,its,n,r,e⟩:=h.ok I.hok;exact⟨its,r,⟨_,n,e,rfl,rfl,rfl⟩,z⟩
 ·refine⟨its.toList,r,⟨o,n,I.kIn a o hk,hc,hd,by simpa using hs⟩,?_⟩;have e:=r.length;simp only [K8] at e;omega
theorem Inv.tuple (I:Inv X pins σ H s)(h:SqT X.K H a xs): ∃its:G0 G2,Vals xs its/\iW s.heap a its.toArray/\xs.length<=sizeLine:=by
 rcases h with h|⟨o,its,n,hk,hc,hs,hz,r⟩
 ·obtain⟨z,its,r,p⟩:=h.ok I.hok;exact⟨its,r,p.tup,z⟩
 ·refine⟨its.toList,r,⟨o,I.kIn a o hk,hc,n,by simpa using hs⟩,?_⟩;have e:=r.length;simp only [K8] at e;omega
theorem Inv.list_inj (I:Inv X pins σ H s)(h:SqL X.K H a xs)(h':SqL X.K H a ys):xs=ys:=by
 obtain⟨its,r,⟨o,n,e,_,_,d⟩,_⟩:=I.list h;obtain⟨its',r',⟨o',n',e',_,_,d'⟩,_⟩:=I.list h';rw [e] at e';cases e';rw [d] at d';injection d' with d1 _
 have:its=its':=by simpa using congrArg iQ d1
 subst this;exact r.inj r'
theorem Inv.tuple_inj (I:Inv X pins σ H s)(h:SqT X.K H a xs)(h':SqT X.K H a ys):xs=ys:=by
 obtain⟨its,r,⟨o,e,_,n,d⟩,_⟩:=I.tuple h;obtain⟨its',r',⟨o',e',_,n',d'⟩,_⟩:=I.tuple h';rw [e] at e';cases e';rw [d] at d';injection d' with d1 _
 have:its=its':=by simpa using congrArg iQ d1
 subst this;exact r.inj r'
end
abbrev Cx.wish (X:Cx)(E:G2->G5->Prop):Cx:= {X with xe:=E}
abbrev Cx.nox (X:Cx):Cx:=X.wish λ_ _=>False
theorem Cx.Ok.wish (ok:X.Ok)(E:G2->G5->Prop):(X.wish E).Ok:=
 ⟨ok.mod,ok.kind,ok.glob,ok.blt,ok.above,ok.inj,ok.has,ok.cab,ok.hd,ok.frames,ok.stk,ok.exf,ok.bs,ok.bsz,ok.noex,ok.exfs,ok.funs,ok.frf⟩
theorem Cx.Ok.unwish {E:G2->G5->Prop}(ok:(X.wish E).Ok):X.Ok:=
 ⟨ok.mod,ok.kind,ok.glob,ok.blt,ok.above,ok.inj,ok.has,ok.cab,ok.hd,ok.frames,ok.stk,ok.exf,ok.bs,ok.bsz,ok.noex,ok.exfs,ok.funs,ok.frf⟩
section
variable {X:Cx}{pins:G0 (G6×Obj)}{σ:St}{H:Hp}{s:G5}{E:G2->G5->Prop}
theorem Inv.wish (I:Inv X pins σ H s)(E:G2->G5->Prop):Inv (X.wish E) pins σ H s:=⟨I.ok.wish E,I.os,I.bare,I.base,I.loc,I.cell,I.free,I.freeC,I.pin,I.hok,I.len⟩
theorem Inv.unwish (I:Inv (X.wish E) pins σ H s):Inv X pins σ H s:=⟨I.ok.unwish,I.os,I.bare,I.base,I.loc,I.cell,I.free,I.freeC,I.pin,I.hok,I.len⟩
theorem SP.unwish {D:Ends}{f:Flow}{s':G5}(h:SP (X.wish E) pins D f s'):SP X pins D f s':=by
 cases f with
 |next=>obtain⟨mB,H',I,q⟩:=h;exact⟨mB,H',I.unwish,q⟩
 |brk=>obtain⟨mB,H',I,q⟩:=h;exact⟨mB,H',I.unwish,q⟩
 |cont=>obtain⟨mB,H',I,q⟩:=h;exact⟨mB,H',I.unwish,q⟩
 |ret u=>obtain⟨v,mB,H',I,r,q⟩:=h;exact⟨v,mB,H',I.unwish,r,q⟩
theorem PSs.nox {st:G0 C3}{t:TS}(h:PSs X.nox st t):PSs X st t:=λpins s σ H D I hw=>
 T3 (h pins s σ H D (I.wish _) hw) (λ_ _ q=>q.unwish) λ_ _ z=>False.elim z
end
section
variable {X:Cx}{st:C3}{zF:G0 C3}{t u:TS}{e:D8}{te:TE}{pos:Pos}
def Dh:TS:=λD σ H=>D.nx σ H
def NR (t u:TS):TS:=λD σ H=>t {D with nx:=u D} σ H
theorem pss_nil:PSs X [] Dh:=λ_ _ σ H _ I h=>X9 ⟨σ,H,I,h⟩
theorem Xn (h1:PS X st t)(h2:PSs X zF u):PSs X (st::zF) (NR t u):=by
 intro pins s σ H D I h;refine eB (thn (h1 pins s σ H {D with nx:=u D} I h) λf s1 q=> ?_);cases f with
 |next=>
  obtain⟨mB,H',I',q⟩:=q;exact h2 pins s1 mB H' D I' q
 |ret v=>exact q
 |brk=>exact q
 |cont=>exact q
theorem QQ (h1:PS X st t):PSs X [st] t:=by
 intro pins s σ H D I h;refine eB (thn (h1 pins s σ H D I h) λf s1 q=> ?_);cases f with
 |next=>exact X9 q
 |ret v=>exact q
 |brk=>exact q
 |cont=>exact q
theorem Inv.quiet {pins:G0 (G6×Obj)}{σ:St}{H:Hp}{s:G5}(I:Inv X pins σ H s):i0 X.env=false:=by simp [i0,I.ok.kind]
def Di (te:TE):TS:=λD σ H=>te σ H λ_ H1=>D.nx σ H1
theorem QR (he:PE X e te)(hs:L8 e none pos.line X.env=pure false:=by rfl):PS X (.Expr e pos) (Di te):=by
 intro pins s σ H D I h;exact wpAny_Expr_any (thn (he pins s σ H _ I h) λv s1 ⟨x,H1,I1,r1,q1⟩=>⟨σ,H1,I1,q1⟩) I.quiet hs
def NS (te:TE):TS:=λD σ H=>te σ H D.rt
theorem Dj (he:PE X e te):PS X (.Return (some e) pos) (NS te):=by
 intro pins s σ H D I h;exact wpAny_Return_some (thn (he pins s σ H _ I h) λv s1 ⟨x,H1,I1,r1,q1⟩=>⟨x,σ,H1,I1,r1,q1⟩)
def NT (c:TT)(t u:TS):TS:=λD σ H=>c σ H λb H1=>if b=true then t D σ H1 else u D σ H1
theorem MB {c:D8}{a b:G0 C3}{tc:TT}(hc:PT X c tc)(ha:PSs X a t)(hb:PSs X b u):PS X (.If c a b pos) (NT tc t u):=by
 intro pins s σ H D I h;refine wpAny_If (thn (hc pins s σ H _ I h) λd s1 ⟨H1,I1,q1⟩=> ?_);cases d with
 |true=>exact ha pins s1 σ H1 D I1 q1
 |false=>exact hb pins s1 σ H1 D I1 q1
end
abbrev TG:=V->St->Hp->(St->Hp->Prop)->Prop
abbrev TGs:=G0 V->St->Hp->(St->Hp->Prop)->Prop
def PG (X:Cx)(target:D8)(t:TG):Prop:=
 ∀ (pins:G0 (G6×Obj)) (s:G5) (σ:St) (H:Hp) (v:V) (u:G2) (Q:St->Hp->Prop),Inv X pins σ H s->RelV v u->t v σ H Q->
  D7 (R1 X.prog X.w) X.A (Y0 target X.env u) (λ_ s'=> ∃mB H',Inv X pins mB H' s'/\Q mB H') X.xe s
def PGs (X:Cx)(ts:G0 D8)(t:TGs):Prop:=
 ∀ (pins:G0 (G6×Obj)) (s:G5) (σ:St) (H:Hp) (vs:G0 V) (us:G0 G2) (Q:St->Hp->Prop),Inv X pins σ H s->Vals vs us->t vs σ H Q->
  D7 (R1 X.prog X.w) X.A (cS ((U2 ts X.env).map (·.2)) us) (λ_ s'=> ∃mB H',Inv X pins mB H' s'/\Q mB H') X.xe s
abbrev MC:=V->V->V->Hp->(Hp->Prop)->Prop
def NU (X:Cx)(t:MC):Prop:=
 ∀ (pins:G0 (G6×Obj)) (s:G5) (σ:St) (H:Hp) (o i v:V) (ov iv u:G2) (Q:Hp->Prop),Inv X pins σ H s->RelV o ov->RelV i iv->RelV v u->t o i v H Q->
  D7 (R1 X.prog X.w) X.A (f6 ov iv u) (λ_ s'=> ∃H',Inv X pins σ H' s'/\Q H') X.xe s
section
variable {X:Cx}{pos:Pos}
def zK (i:P0):TG:=λv σ H Q=>Q (σ.set i (some v)) H
theorem wF {i:P0}{x:Str}(hN:X.N.Nodup)(hi:X.N[i]? =some x)(hx:Loc X.env.scope x)(hf:X.fn x=true\/X.env.scope.names.lookup x=some .local:=by first|exact .inl rfl|exact .inr rfl|assumption):PG X (.Name x pos) (zK i):=by
 intro pins s σ H v u Q I r h;exact wpAny_assign_Name (yV I hN hi hx r (λs' I'=>⟨_,H,I',h⟩) hf)
def Me:TGs:=λvs σ H Q=>vs= []/\Q σ H
def Wm (t:TG)(u:TGs):TGs:=λvs σ H Q=> ∃v r,vs=v::r/\t v σ H λmB H'=>u r mB H' Q
theorem Wn:PGs X [] Me:=by
 intro pins s σ H vs us Q I r h;obtain⟨e,h⟩:=h;subst e;cases r;exact dE ⟨σ,H,I,h⟩
theorem wr {e:D8}{es:G0 D8}{t:TG}{u:TGs}(h1:PG X e t)(h2:PGs X es u)
 (hs:(U2 (e::es) X.env).map (·.2)=Y0 e X.env::(U2 es X.env).map (·.2):=by rfl):PGs X (e::es) (Wm t u):=by
 intro pins s σ H vs us Q I r h;obtain⟨v,vr,e1,h⟩:=h;subst e1;cases r with
 |cons r rr=>
  rw [hs];refine Z7 (thn (h1 pins s σ H _ _ _ I r h) λ_ s1 ⟨mN,H1,I1,q1⟩=> ?_);exact h2 pins s1 mN H1 _ _ Q I1 rr q1
def Mf (K:G1)(n:P0)(t:TGs):TG:=λv σ H Q=> ∃a xs,v= .ref a/\SqT K H a xs/\xs.length=n/\t xs σ H Q
theorem Vr {es:G0 D8}{k:P0}{t:TGs}{n:P0}(hc:X.calm=true)(h:PGs X es t)
 (hn:(U2 es X.env).length=n:=by rfl)(hst:(U2 es X.env).findIdx? (·.1)=none:=by rfl):PG X (.Tuple es k pos) (Mf X.K n t):=by
 intro pins s σ H v u Q I r hw;obtain⟨a,xs,e1,hq,hl,hw⟩:=hw;subst e1;cases r;obtain⟨its,rv,ht,hz⟩:=I.tuple hq;refine assign_Tuple_tuple (I.ok.hd hc) ht (by simp [hn,<-hl,rv.length]) hst λh' hx=> ?_
 have I1:Inv X pins σ H {s with heap:=h'}:=I.kept (t':=s.toks) λb o e=>hx b o (R7 (P9 e)) e
 exact h pins _ σ H xs _ Q I1 (by simpa using rv) hw
def Bw (to ti:TE)(t:MC):TG:=λv σ H Q=>to σ H λo H1=>ti σ H1 λi H2=>t o i v H2 λH3=>Q σ H3
theorem Dk {o i:D8}{to ti:TE}{t:MC}(ho:PE X o to)(hi:PE X i ti)(hs:NU X t)
 (ha: ∀v,Y0 (.Subscript o i pos) X.env v=(do
  let ov <-J5 [v] (B6 o X.env)
  let iv <-J5 [v,ov] (B6 i X.env)
  Y9 pos
  J5 [v,ov,iv] (f6 ov iv v)
  lA [v,ov,iv] []):=by intro _;rfl):PG X (.Subscript o i pos) (Bw to ti t):=by
 intro pins s σ H v u Q I r h;rw [ha];refine wpAny_bind (O5 (thn (ho pins s σ H _ I h) λov s1 ⟨x,H1,I1,r1,q1⟩=> ?_));refine wpAny_bind (O5 (thn (hi pins s1 σ H1 _ I1 q1) λiv s2 ⟨y,H2,I2,r2,q2⟩=> ?_));refine wpAny_bind (Q0 (wpAny_bind (O5 (thn (hs pins s2 σ H2 x y v ov iv u _ I2 r1 r2 r q2) λ_ s3 ⟨H3,I3,q3⟩=> ?_))));exact wpAny_release ⟨σ,H3,I3,q3⟩
def Qh (te:TE)(g:TG):TS:=λD σ H=>te σ H λx H1=>g x σ H1 D.nx
theorem Dl {tg e:D8}{te:TE}{g:TG}(he:PE X e te)(hg:PG X tg g)(hs:Q1 [tg] e pos.line X.env=pure false:=by rfl)(hw:Q2 [tg] e X.env=pure none:=by rfl)
 (h1:(U2 [tg] X.env).map (·.2)= [Y0 tg X.env]:=by rfl):PS X (.Assign [tg] e pos) (Qh te g):=by
 intro pins s σ H D I h;refine wpAny_Assign_stores (thn (he pins s σ H _ I h) λv s1 ⟨x,H1,I1,r1,q1⟩=> ?_) hs hw;rw [h1];exact thn (hg pins s1 σ H1 x v _ I1 r1 q1) λ_ s2 q=>q
theorem Dm {i:P0}{x:Str}{e:D8}{te:TE}{pos':Pos}(hN:X.N.Nodup)(hi:X.N[i]? =some x)(hx:Loc X.env.scope x)(he:PE X e te)(hs:L8 e (some (.Name x pos')) pos.line X.env=pure false:=by rfl)(hf:X.fn x=true\/X.env.scope.names.lookup x=some .local:=by first|exact .inl rfl|exact .inr rfl|assumption):
 PS X (.Assign [.Name x pos'] e pos) (Qh te (zK i)):=by
 intro pins s σ H D I h;refine wpAny_Assign_Name (thn (he pins s σ H _ I h) λv s1 ⟨y,H1,I1,r1,q1⟩=> ?_) hs;exact yV I1 hN hi hx r1 (λs2 I2=>⟨_,H1,I2,q1⟩) hf
def NV (i j:P0)(ta:TA):TS:=λD σ H=>ta σ H λvs H1=> ∃v w,vs= [v,w]/\D.nx ((σ.set i (some v)).set j (some w)) H1
theorem Do {i j:P0}{x y:Str}{a b:D8}{ta:TA}{px py pt:Pos}{kt k2 pt2}(hc:X.calm=true)(hN:X.N.Nodup)(hi:X.N[i]? =some x)(hj:X.N[j]? =some y)(hij:i≠j)
 (hx:X.env.scope.names.lookup x=some .local)(hy:X.env.scope.names.lookup y=some .local)(ha:PA X [a,b] ta)
 (hw:Q2 [.Tuple [.Name x px,.Name y py] kt pt] (.Tuple [a,b] k2 pt2) X.env=pure (some [x,y]))
 (hs:Q1 [.Tuple [.Name x px,.Name y py] kt pt] (.Tuple [a,b] k2 pt2) pos.line X.env=pure false:=by rfl):
 PS X (.Assign [.Tuple [.Name x px,.Name y py] kt pt] (.Tuple [a,b] k2 pt2) pos) (NV i j ta):=by
 intro pins s σ H D I h;rw [exec_Assign_arm];refine wpAny_bind (Q0 ?_);rw [hs];refine wpAny_bind (G9 ?_);rw [S4 (by decide)];refine wpAny_bind (Tuple_ (thn (ha _ pins s σ H _ I h) λus s1 ⟨vs,H1,I1,r1,q1⟩=> ?_));obtain⟨v,w,e1,q1⟩:=q1;subst e1;obtain⟨u1,u2,rfl,rv,rw'⟩: ∃u1 u2,us= [u1,u2]/\RelV v u1/\RelV w u2:=by
  cases r1 with
  |cons p q=>
   cases q with
   |cons p' q'=>
    cases q';exact⟨_,_,rfl,p,p'⟩
 refine F1 ?_ (by show 2<=sizeLine;decide);have I2:Inv X pins σ H1 {s1 with heap:=s1.heap.push {cls:= .type "tuple",data:= .seq [u1,u2].toArray}}:=I1.kept (t':=s1.toks) λb o e=>G7 _ e
 rw [hw];refine wpAny_bind (G9 ?_);show D7 (R1 X.prog X.w) X.A (do i1 "assign.swapped-stores";let items <-unpackItems (.ref s1.heap.objs.size) 2 none;cS [λv=>gB X.env y v,λv=>gB X.env x v] items.reverse;pure Flow.next) _ _ _;refine wpAny_bind (bE (wpAny_bind (unpackItems_tuple (items:= #[u1,u2]) (I.ok.hd hc) (IsTup.new s1.heap _) λh' hx'=> ?_)));have I3:=I2.kept (h':=h') (t':=s1.toks) λb o e=>hx' b o (R7 (P9 e)) e
 show D7 _ _ (cS [λv=>gB X.env y v,λv=>gB X.env x v] [u2,u1] >>= λ_=>pure Flow.next) _ _ _;refine wpAny_bind (Z7 (gC (yV I3 hN hj (.inl hy) rw' (λs2 I4=> ?_) (.inr hy))));refine Z7 (gC (yV I4 hN hi (.inl hx) rv (λs3 I5=>dE (G9 ?_)) (.inr hx)));rw [List.set_comm _ _ (C6 hij)] at I5;exact⟨_,H1,I5,q1⟩
def Qi (c:TT)(tb:TS):TS:=λD σ H=> ∃W:P0->St->Hp->Prop,(∃m,W m σ H)/\ ∀m σ H,W m σ H->
 c σ H λb H1=>if b=true then ∃N:St->Hp->Prop,(∀mB H',N mB H'-> ∃m',m'<m/\W m' mB H')/\tb {D with nx:=N,ct:=N,bk:=D.nx} σ H1 else D.nx σ H1
theorem Xo {c:D8}{body:G0 C3}{tc:TT}{tb:TS}(hp:cL (R1 X.prog X.w) X.A X.env X.xe)(hc:PT X c tc)(hb:PSs X body tb):PS X (.While c body [] pos) (Qi tc tb):=by
 intro pins s σ H D I h;obtain⟨W,⟨m0,w0⟩,turn⟩:=h;refine wpAny_While (codeAny_whileLoop (λn s'=> ∃mB H',Inv X pins mB H' s'/\W n mB H') ?_ m0 ⟨σ,H,I,w0⟩);rintro n s1 ⟨mN,H1,I1,w1⟩;refine A1 hp (thn (hc pins s1 mN H1 _ I1 (turn n mN H1 w1)) λb s2 ⟨H2,I2,q2⟩=> ?_);cases b with
 |true=>
  obtain⟨N,hN,q2⟩:=q2;rw [R3 rfl];refine A1 hp (thn (hb pins s2 mN H2 _ I2 q2) λf s3 q3=> ?_);cases f with
  |next=>
   obtain⟨mG,H3,I3,n3⟩:=q3;obtain⟨m',hm,w3⟩:=hN mG H3 n3;exact⟨m',hm,mG,H3,I3,w3⟩
  |cont=>
   obtain⟨mG,H3,I3,n3⟩:=q3;obtain⟨m',hm,w3⟩:=hN mG H3 n3;exact⟨m',hm,mG,H3,I3,w3⟩
  |brk=>exact q3
  |ret v=>exact q3
 |false=>
  rw [S4 P3];exact X9 ⟨mN,H2,I2,q2⟩
end
structure It where
 go:P0->Hp->Prop
 yld:P0->Hp->V->Hp->Prop
 stop:P0->Hp->Prop
def Vk (X:Cx)(pins:G0 (G6×Obj))(H:Hp)(b:G6):Prop:=
 H b=none/\b≠X.env.locals/\b ∉ X.fs/\(b∈X.ex\/X.s₀.heap.objs.size<=b)/\(∀x c,X.env.cells.lookup x=some c->c≠b)/\ ∀p∈X.pn++pins,p.1≠b
theorem Inv.fpOk {pins:G0 (G6×Obj)}{σ:St}{H':Hp}(I:Inv X pins σ H s)(hb:s.heap.objs.size<=b)(hn:H' b=none):Vk X pins H' b:=by
 refine⟨hn,O4 (R4 I.lt hb),I.nofs hb,.inr (T8 I.sz hb),λx c e z=> ?_,λp hp z=> ?_⟩
 ·obtain⟨v,q⟩:=I.cell x c e;exact absurd (R4 q.lt (by rw [z];exact hb)) (B8 _)
 ·exact absurd (R4 (P9 (I.pin p hp).1) (by rw [z];exact hb)) (B8 _)
structure Turn (P:S2)(w:M6)(K:G1)(tg:D8)(J:It)(fp:G0 G6)(it:G6)(tn:P0->N5->Prop):Prop where
 mem:it∈fp
 obj: ∀i h,tn i h-> ∀b∈fp,∃o,h.get? b=some o/\ ∀v,o.data≠ .cell v
 keep: ∀i h h',tn i h->(∀b∈fp,∀o,h.get? b=some o->h'.get? b=some o)->tn i h'
 item: ∀ (X:Cx),X.prog=P->X.w=w->X.K=K->X.calm=true-> ∀ (i:P0) (pins:G0 (G6×Obj)) (s:G5) (σ:St) (H:Hp) (E:G2->G5->Prop),Inv X pins σ H s->(∀b∈fp,Vk X pins H b)->tn i s.heap->J.go i H->
  D7 (R1 P w) X.A (gD (.ref it)) (λr s1=> ∃u,r=some u/\
   D7 (R1 P w) X.A (Q8 tg (.ref it) u) (λ_ s2=> ∃x H',Inv X pins σ H' s2/\RelV x u/\J.yld i H x H'/\tn (i+1) s2.heap/\ ∀b∈fp,H' b=none) E s1) E s
 done: ∀ (X:Cx),X.prog=P->X.w=w->X.K=K->X.calm=true-> ∀ (i:P0) (pins:G0 (G6×Obj)) (s:G5) (σ:St) (H:Hp) (E:G2->G5->Prop),Inv X pins σ H s->(∀b∈fp,Vk X pins H b)->tn i s.heap->J.stop i H->
  D7 (R1 P w) X.A (gD (.ref it)) (λr s1=>r=none/\Inv X pins σ H s1) E s
 self: ∀ (A:M5) (i:P0) (s:G5) (Q:G2->G5->Prop) (E:G2->G5->Prop),tn i s.heap->Q (.ref it) s->D7 (R1 P w) A (gE (.ref it)) Q E s
abbrev TI:=St->Hp->(It->Hp->Prop)->Prop
def PIE (X:Cx)(pins:G0 (G6×Obj))(σ:St)(tg:D8)(R:It->Hp->Prop)(itv:G2)(s2:G5):Prop:=
 ∃ (it:G6) (fp:G0 G6) (tn:P0->N5->Prop) (J:It) (H':Hp),itv= .ref it/\Inv X pins σ H' s2/\Turn X.prog X.w X.K tg J fp it tn/\tn 0 s2.heap/\(∀b∈fp,Vk X pins H' b)/\R J H'
def PI (X:Cx)(tg iter:D8)(wi:TI):Prop:=
 ∀ (pins:G0 (G6×Obj)) (s:G5) (σ:St) (H:Hp) (R:It->Hp->Prop),Inv X pins σ H s->wi σ H R->
  D7 (R1 X.prog X.w) X.A (B6 iter X.env) (λv s1=>D7 (R1 X.prog X.w) X.A (gE v) (PIE X pins σ tg R) X.xe s1) X.xe s
variable {tg:D8}
theorem QU {M : fG} {E : G2 → G5 → Prop} {it : G6} {o : Obj} {n : O1} {vs : B3 G2} {Q : Unit → G5 → Prop} (ho : s.heap.get? it = some o) (hc : o.cls = .type n) (hd : o.data = .fields vs)
    (hn : ["enumerate", "zip", "dict_itemiterator", "dict_reverseitemiterator", "odict_iterator", "itertools.zip_longest", "itertools.pairwise"].contains n = false) (hQ : Q () s) : D7 M A (Q8 tg (.ref it) u) Q E s := by
  unfold Q8
  cases tg <;> first
    | exact G9 hQ
    | (cases u <;> first
        | exact G9 hQ
        | (refine wpAny_bind (wpAny_load ho ?_)
           rw [hc, hd]
           show D7 M A (if (["enumerate", "zip", "dict_itemiterator", "dict_reverseitemiterator", "odict_iterator", "itertools.zip_longest", "itertools.pairwise"].contains n && vs[0]? == some (lS _)) = true then _ else _) Q E s
           rw [S4 (by intro h; rw [hn, Bool.false_and] at h; cases h)]
           exact G9 hQ))
def Itl (K:G1)(a:G6):It:=
 ⟨λi H=> ∃xs x,SqL K H a xs/\xs[i]? =some x,λi H x H'=>H'=H/\ ∀xs,SqL K H a xs->xs[i]? =some x,λi H=> ∃xs,SqL K H a xs/\xs.length<=i⟩
def Itt (K:G1)(a:G6):It:=
 ⟨λi H=> ∃xs x,SqT K H a xs/\xs[i]? =some x,λi H x H'=>H'=H/\ ∀xs,SqT K H a xs->xs[i]? =some x,λi H=> ∃xs,SqT K H a xs/\xs.length<=i⟩
def Itr (lo:G8)(n:P0):It:=⟨λi _=>i<n,λi H x H'=>H'=H/\x= .int (lo+i),λi _=>n<=i⟩
variable {K:G1}
theorem Zk (a it:G6):Turn P w K tg (Itl K a) [it] it (λi h=>h.IsListIter it a i) where
 mem:=by simp
 obj:=λi h st b hb=>by
  have e:b=it:=by simpa using hb
  subst e;obtain⟨o,e,c,d⟩:=st;exact⟨o,e,λv z=>by rw [d] at z;cases z⟩
 keep:=λi h h' st k=>st.at λo e=>k it (by simp) o e
 item:=by
  intro X hP hw hK hc i pins s σ H E I hf st hg;subst hP hw hK;obtain⟨xs,x,hq,hx⟩:=hg;obtain⟨its,rv,p,hz⟩:=I.list hq;obtain⟨u,hu,ru⟩:=rv.get hx;obtain⟨f0,f1,f2,f3,f4,f5⟩:=hf it (by simp);refine wpAny_pyNext_list_item st p.isList (x:=u) (by simpa using hu) λh' st' sb=> ?_
  have I1:Inv X pins σ H {s with heap:=h'}:=I.turned (t':=s.toks) (λb o hb e=>(sb.2 b hb).trans e) f0 f1 f3 f4 f5;obtain⟨o,e,c,d⟩:=id st';exact⟨u,rfl,QU (s:= {s with heap:=h'}) e c d (by decide) ⟨x,H,I1,ru,⟨rfl,λys hy=>by rw [I.list_inj hy hq];exact hx⟩,st',λb hb=>(hf b hb).1⟩⟩
 done:=by
  intro X hP hw hK hc i pins s σ H E I hf st hg;subst hP hw hK;obtain⟨xs,hq,hx⟩:=hg;obtain⟨its,rv,p,hz⟩:=I.list hq;obtain⟨f0,f1,f2,f3,f4,f5⟩:=hf it (by simp);have hl:=rv.length;exact wpAny_pyNext_list_end (I.ok.hd hc) st p.isList (by simp;omega) λh' eb=>⟨rfl,I.turned (t':=s.toks) (λb o hb e=>eb b o hb e) f0 f1 f3 f4 f5⟩
 self:=λ_ _ _ _ _ st h=>wpAny_pyIter_listiter st h
theorem YB (a it:G6):Turn P w K tg (Itt K a) [it] it (λi h=>h.IsTupleIter it a i) where
 mem:=by simp
 obj:=λi h st b hb=>by
  have e:b=it:=by simpa using hb
  subst e;obtain⟨o,e,c,d⟩:=st;exact⟨o,e,λv z=>by rw [d] at z;cases z⟩
 keep:=λi h h' st k=>st.at λo e=>k it (by simp) o e
 item:=by
  intro X hP hw hK hc i pins s σ H E I hf st hg;subst hP hw hK;obtain⟨xs,x,hq,hx⟩:=hg;obtain⟨its,rv,p,hz⟩:=I.tuple hq;obtain⟨u,hu,ru⟩:=rv.get hx;obtain⟨f0,f1,f2,f3,f4,f5⟩:=hf it (by simp);refine wpAny_pyNext_tuple_item st (show s.heap.IsTuple a its.toArray from p) (x:=u) (by simpa using hu) λh' st' sb=> ?_
  have I1:Inv X pins σ H {s with heap:=h'}:=I.turned (t':=s.toks) (λb o hb e=>(sb.2 b hb).trans e) f0 f1 f3 f4 f5;obtain⟨o,e,c,d⟩:=id st';exact⟨u,rfl,QU (s:= {s with heap:=h'}) e c d (by decide) ⟨x,H,I1,ru,⟨rfl,λys hy=>by rw [I.tuple_inj hy hq];exact hx⟩,st',λb hb=>(hf b hb).1⟩⟩
 done:=by
  intro X hP hw hK hc i pins s σ H E I hf st hg;subst hP hw hK;obtain⟨xs,hq,hx⟩:=hg;obtain⟨its,rv,p,hz⟩:=I.tuple hq;obtain⟨f0,f1,f2,f3,f4,f5⟩:=hf it (by simp);have hl:=rv.length;exact wpAny_pyNext_tuple_end (I.ok.hd hc) st (show s.heap.IsTuple a its.toArray from p) (by simp;omega) λh' eb=>⟨rfl,I.turned (t':=s.toks) (λb o hb e=>eb b o hb e) f0 f1 f3 f4 f5⟩
 self:=λ_ _ _ _ _ st h=>wpAny_pyIter_tupleiter st h
theorem YC (it:G6)(lo:G8)(n:P0):Turn P w K tg (Itr lo n) [it] it (λi h=>i3 h it (lo+(i:P0)*1) ((n:G8)-(i:P0)) 1) where
 mem:=by simp
 obj:=λi h st b hb=>by
  have e:b=it:=by simpa using hb
  subst e;exact⟨_,st,λv z=>by
   have z':Data.fields _=Data.cell v:=z;cases z'⟩
 keep:=λi h h' st k=>k it (by simp) _ st
 item:=by
  intro X hP hw hK hc i pins s σ H E I hf st hg;subst hP hw hK;obtain⟨f0,f1,f2,f3,f4,f5⟩:=hf it (by simp);have W:=Walks.range (prog:=X.prog) (w:=X.w) (I.ok.hd hc) it lo 1 n;refine W.item i s _ _ hg st λv h' tk hv st' kk=> ?_
  obtain⟨t,rfl⟩:=hv;have I1:Inv X pins σ H {s with heap:=h',toks:=tk}:=I.turned (λb o hb e=>kk b o (by simpa using hb) e) f0 f1 f3 f4 f5;refine⟨_,rfl,QU (s:= {s with heap:=h',toks:=tk}) (n:= "range_iterator") st' rfl rfl (by decide) ⟨.int (lo+i),H,I1,⟨t,?_⟩,⟨rfl,rfl⟩,st',λb hb=>(hf b hb).1⟩⟩;rw [Int.mul_one]
 done:=by
  intro X hP hw hK hc i pins s σ H E I hf st hg;subst hP hw hK;obtain⟨f0,f1,f2,f3,f4,f5⟩:=hf it (by simp);exact wpAny_pyNext_range_end (I.ok.hd hc) st (by have:n<=i:=hg;omega) λh' eb=>⟨rfl,I.turned (t':=s.toks) (λb o hb e=>eb b o hb e) f0 f1 f3 f4 f5⟩
 self:=λ_ _ _ _ _ st h=>wpAny_pyIter_rangeiter st h
section
variable {X:Cx}{tg:D8}
def Dp (K:G1)(tl:TE):TI:=λσ H R=>tl σ H λx H1=> ∃a,x= .ref a/\(∃xs,SqL K H1 a xs)/\R (Itl K a) H1
theorem QV {l:D8}{tl:TE}(hl:PE X l tl):PI X tg l (Dp X.K tl):=by
 intro pins s σ H R I h;refine thn (hl pins s σ H _ I h) λv s1 ⟨x,H1,I1,r1,q1⟩=> ?_
 obtain⟨a,e,⟨xs,hq⟩,q⟩:=q1;subst e;cases r1;obtain⟨its,rv,p,hz⟩:=I1.list hq;refine J6 p.isList ?_;refine⟨s1.heap.objs.size,[s1.heap.objs.size],_,_,H1,rfl,I1.kept (t':=s1.toks) λb o e=>G7 _ e,Zk a _,⟨_,D4 _ rfl,rfl,rfl⟩,λb hb=> ?_,q⟩;have e:b=s1.heap.objs.size:=by simpa using hb
 subst e;exact I1.fpOk (D0 _) (I1.hok.fresh (D0 _))
variable {pins:G0 (G6×Obj)}
theorem Xp {σ:St}{H:Hp}{s:G5}{R:It->Hp->Prop}{E:G2->G5->Prop}{lo hi:G8}{t u v:Tok}{tk:P0}(I:Inv X pins σ H s)(h1: -(2^62)<=lo)(h2:lo<2^62)(h3: -(2^62)<=hi)(h4:hi<2^62)
 (q:R (Itr lo (hi-lo).toNat) H):D7 (R1 X.prog X.w) X.A (gE (.ref s.heap.objs.size)) (PIE X pins σ tg R) E {s with heap:=s.heap.push {cls:= .type "range",data:= .fields #[.int lo t,.int hi u,.int 1 v]},toks:=tk}:=by
 refine wpAny_pyIter_range (IsRange.new ..) (small_one h1 h2 h3 h4) ?_;have I1:Inv X pins σ H {s with heap:=s.heap.push {cls:= .type "range",data:= .fields #[.int lo t,.int hi u,.int 1 v]},toks:=tk}:=I.kept λb o e=>G7 _ e
 refine⟨(s.heap.push {cls:= .type "range",data:= .fields #[.int lo t,.int hi u,.int 1 v]}).objs.size,[(s.heap.push {cls:= .type "range",data:= .fields #[.int lo t,.int hi u,.int 1 v]}).objs.size],_,_,H,rfl,
  I1.kept (t':=tk) λb o e=>G7 _ e,YC _ lo (hi-lo).toNat,?_,λb hb=> ?_,q⟩
 ·have e1:lo+((0:P0):G8)*1=lo:=by simp
  have e2:(((hi-lo).toNat:P0):G8)-((0:P0):G8)=Builtin.Range.rangeSize lo hi 1:=by rw [rangeSize_one];split<;>omega
  show i3 _ _ (lo+((0:P0):G8)*1) ((((hi-lo).toNat:P0):G8)-((0:P0):G8)) 1;rw [e1,e2];exact D4 _ rfl
 ·have e:b=(s.heap.push {cls:= .type "range",data:= .fields #[.int lo t,.int hi u,.int 1 v]}).objs.size:=by simpa using hb
  subst e;exact I1.fpOk (D0 _) (I1.hok.fresh (D0 _))
def Dq (ta:TA):TI:=λσ H R=>ta σ H λvs H1=> ∃j:G8,vs= [.int j]/\ -(2^62)<=j/\j<2^62/\R (Itr 0 j.toNat) H1
theorem Vs {a:D8}{ta:TA}{p pos:Pos}(hg:Gl X "range")(hm:X.mg "range" =none)(ha:PA X [a] ta)(hs:P8 [a] X.env= [(false,B6 a X.env)]:=by rfl):PI X tg (.Call (.Name "range" p) [a] [] pos) (Dq ta):=by
 intro pins s σ H R I h;refine Call_ (Zj I hg hm boot_range (J7 (thn (ha pos pins s σ H _ I h) λus s1 ⟨vs,H1,I1,r1,q1⟩=> ?_) hs rfl));obtain⟨j,e,q1,q2,q⟩:=q1;subst e;cases r1 with
 |cons r rr=>
  cases rr;obtain⟨t,rfl⟩:=r;exact call_range_1 (Xp I1 (by omega) (by omega) q1 q2 (by simpa using q))
def NW (wi:TI)(g:TG)(tb:TS):TS:=λD σ H=>wi σ H λJ H1=> ∃W:P0->P0->St->Hp->Prop,(∃m,W 0 m σ H1)/\ ∀i m σ H,W i m σ H->
 (J.stop i H/\D.nx σ H)\/(J.go i H/\ ∃N:St->Hp->Prop,(∀mB H',N mB H'-> ∃m',m'<m/\W (i+1) m' mB H')/\ ∀x H',J.yld i H x H'->g x σ H' λmE H2=>tb {D with nx:=N,ct:=N,bk:=D.nx} mE H2)
def wx (fp:G0 G6)(h:N5):G0 (G6×Obj):=fp.filterMap λb=>(h.get? b).map λo=>(b,o)
theorem zl {fp:G0 G6}{h:N5}{b:G6}{o:Obj}(hb:b∈fp)(e:h.get? b=some o):(b,o)∈wx fp h:=U3.mpr ⟨b,hb,by rw [e];rfl⟩
theorem yY {fp:G0 G6}{h:N5}{p:G6×Obj}(hp:p∈wx fp h):p.1∈fp/\h.get? p.1=some p.2:=by
 obtain⟨b,hb,e⟩:=U3.mp hp;cases q:h.get? b with
 |none=>rw [q] at e;cases e
 |some o=>
  rw [q] at e;have e':(b,o)=p:=M0 e;subst e';exact⟨hb,q⟩
theorem Inv.pinned {σ:St}{H:Hp}{s:G5}{fp:G0 G6}(I:Inv X pins σ H s)(hf: ∀b∈fp,Vk X pins H b)(ho: ∀b∈fp,∃o,s.heap.get? b=some o/\ ∀v,o.data≠ .cell v):Inv X (pins++wx fp s.heap) σ H s:=
 I.pins_of λp hp=>(R8.mp hp).elim (λz=>I.pin p (P4 _ z)) λz=>by
  obtain⟨hb,e⟩:=yY z;obtain⟨f0,f1,f2,_⟩:=hf p.1 hb;obtain⟨o,e',d⟩:=ho p.1 hb;rw [e] at e';cases e';exact⟨e,f0,f1,f2,d⟩
theorem Inv.unpinned {pl:G0 (G6×Obj)}{σ:St}{H:Hp}{s:G5}(I:Inv X (pins++pl) σ H s):Inv X pins σ H s:=I.pins_of λp hp=>I.pin p (P4 _ (M8 _ hp))
theorem Dr {iter:D8}{body:G0 C3}{wi:TI}{g:TG}{tb:TS}{pos:Pos}(hp:cL (R1 X.prog X.w) X.A X.env X.xe)(hc:X.calm=true)(hi:PI X tg iter wi)(hg:PG X tg g)(hb:PSs X body tb)
 (hs: ∀x,D9 iter X.env x=pure x:=by intro _;rfl):PS X (.For tg iter body [] pos) (NW wi g tb):=by
 intro pins s σ H D I h;refine wpAny_For (thn (hi pins s σ H _ I h) λv s1 h1=>thn h1 λitv s2 h2=> ?_) hs;obtain⟨it,fp,tn,J,H2,e,I2,T,st2,f2,W,⟨m0,w0⟩,turn⟩:=h2;subst e
 -- what stays true of the iterator's objects through the loop
 have stat: ∀ {H':Hp},(∀b∈fp,H' b=none)-> ∀b∈fp,Vk X pins H' b:=λhn b hb=>⟨hn b hb,(f2 b hb).2⟩
 refine codeAny_forLoop_any (λn s'=> ∃i mB H',Inv X pins mB H' s'/\tn i s'.heap/\(∀b∈fp,H' b=none)/\W i n mB H') ?_ m0 ⟨0,σ,H2,I2,st2,λb hb=>(f2 b hb).1,w0⟩;rintro n s3 ⟨i,mG,H3,I3,st3,fr3,w3⟩;rcases turn i n mG H3 w3 with ⟨stop,qn⟩|⟨go,N,hN,step⟩
 ·refine A1 hp (thn (T.done X rfl rfl rfl hc i pins s3 mG H3 X.xe I3 (stat fr3) st3 stop) λr s4 ⟨hr,I4⟩=> ?_);subst hr;exact X9 ⟨mG,H3,I4,qn⟩
 ·refine A1 hp (thn (T.item X rfl rfl rfl hc i pins s3 mG H3 X.xe I3 (stat fr3) st3 go) λr s4 ⟨u,hr,h4⟩=> ?_);subst hr;refine A1 hp (thn h4 λ_ s5 ⟨x,H5,I5,r5,y5,st5,fr5⟩=> ?_);have I5':=I5.pinned (stat fr5) (T.obj _ _ st5);refine A1 hp (thn (hg _ s5 mG H5 x u _ I5' r5 (step x H5 y5)) λ_ s6 ⟨mZ,H6,I6,q6⟩=> ?_);refine A1 hp (thn (hb _ s6 mZ H6 _ I6 q6) λf s7 q7=> ?_);have lU: ∀ {mJ:St} {H7:Hp},Inv X (pins++wx fp s5.heap) mJ H7 s7->N mJ H7-> ∃m,m<n/\ ∃i mB H',Inv X pins mB H' s7/\tn i s7.heap/\(∀b∈fp,H' b=none)/\W i m mB H':=λ{mJ H7} I7 n7=>by
   obtain⟨m',hm,w7⟩:=hN mJ H7 n7;refine⟨m',hm,i+1,mJ,H7,I7.unpinned,T.keep _ _ _ st5 λb hb o e=>(I7.pin (b,o) (P4 _ (P4 _ (zl hb e)))).1,λb hb=> ?_,w7⟩;obtain⟨o,e,d⟩:=T.obj _ _ st5 b hb;exact(I7.pin (b,o) (P4 _ (P4 _ (zl hb e)))).2.1
  cases f with
  |next=>obtain⟨mJ,H7,I7,n7⟩:=q7;exact lU I7 n7
  |cont=>obtain⟨mJ,H7,I7,n7⟩:=q7;exact lU I7 n7
  |brk=>obtain⟨mJ,H7,I7,q7⟩:=q7;exact⟨mJ,H7,I7.unpinned,q7⟩
  |ret v=>obtain⟨x7,mJ,H7,I7,r7,q7⟩:=q7;exact⟨x7,mJ,H7,I7.unpinned,r7,q7⟩
end
abbrev R2:=V->V->Hp->VK->Prop
def OpR (X:Cx)(f:G2->G2->Sem G2)(r:R2):Prop:=
 ∀ (pins:G0 (G6×Obj)) (s:G5) (σ:St) (H:Hp) (x y:V) (v u:G2) (Q:VK),Inv X pins σ H s->RelV x v->RelV y u->r x y H Q->
  D7 (R1 X.prog X.w) X.A (f v u) (EP X pins σ Q) X.xe s
def UnR (X:Cx)(f:G2->Sem G2)(r:V->Hp->VK->Prop):Prop:=
 ∀ (pins:G0 (G6×Obj)) (s:G5) (σ:St) (H:Hp) (x:V) (v:G2) (Q:VK),Inv X pins σ H s->RelV x v->r x H Q->
  D7 (R1 X.prog X.w) X.A (f v) (EP X pins σ Q) X.xe s
def CallR (X:Cx)(f:G2)(r:G0 V->Hp->VK->Prop):Prop:=
 ∀ (pins:G0 (G6×Obj)) (s:G5) (σ:St) (H:Hp) (xs:G0 V) (us:G0 G2) (Q:VK),Inv X pins σ H s->Vals xs us->r xs H Q->
  D7 (R1 X.prog X.w) X.A (call f us) (EP X pins σ Q) X.xe s
def tOp (r:R2)(ta tb:TE):TE:=λσ H Q=>ta σ H λx H1=>tb σ H1 λy H2=>r x y H2 Q
def tUn (r:V->Hp->VK->Prop)(ta:TE):TE:=λσ H Q=>ta σ H λx H1=>r x H1 Q
def rI (C:G8->G8->Prop)(g:G8->G8->V):R2:=λx y H Q=> ∃i j,x= .int i/\y= .int j/\C i j/\Q (g i j) H
def rI0 (g:G8->G8->V):R2:=λx y H Q=> ∃i j,x= .int i/\y= .int j/\Q (g i j) H
def rU (g:G8->V):V->Hp->VK->Prop:=λx H Q=> ∃i,x= .int i/\Q (g i) H
section
variable {X:Cx}{a b c:D8}{ta tb tc:TE}{pos:Pos}
theorem MD (ha:PE X a ta)(hb:PE X b tb){pins:G0 (G6×Obj)}{s:G5}{σ:St}{H:Hp}{R:V->V->Hp->Prop}(I:Inv X pins σ H s)
 (h:ta σ H λx H1=>tb σ H1 λy H2=>R x y H2){Q:G2->G5->Prop}{f:G2->G2->Sem G2}
 (hf: ∀v u s2 x y H2,Inv X pins σ H2 s2->RelV x v->RelV y u->R x y H2->D7 (R1 X.prog X.w) X.A (f v u) Q X.xe s2):
 D7 (R1 X.prog X.w) X.A (B6 a X.env) (λv mD=>D7 (R1 X.prog X.w) X.A (B6 b X.env) (λu mI=>D7 (R1 X.prog X.w) X.A (f v u) Q X.xe mI) X.xe mD) X.xe s:=by
 refine thn (ha pins s σ H _ I h) λv s1 ⟨x,H1,I1,r1,q1⟩=> ?_
 refine thn (hb pins s1 σ H1 _ I1 q1) λu s2 ⟨y,H2,I2,r2,q2⟩=> ?_
 exact hf v u s2 x y H2 I2 r1 r2 q2
theorem ME {op:i4}{r:R2}(ho:OpR X (B7 op) r)(ha:PE X a ta)(hb:PE X b tb):PE X (.BinOp a op b pos) (tOp r ta tb):=by
 intro pins s σ H Q I h;exact wpAny_BinOp (MD ha hb I h λv u s2 x y H2 I2 rx ry q=>ho pins s2 σ H2 x y v u Q I2 rx ry q)
theorem MF {op:UnaryOp}{r:V->Hp->VK->Prop}(ho:UnR X (unaryOp op) r)(ha:PE X a ta):PE X (.UnaryOp op a pos) (tUn r ta):=by
 intro pins s σ H Q I h;exact UnaryOp_ (thn (ha pins s σ H _ I h) λv s1 ⟨x,H1,I1,r1,q1⟩=>ho pins s1 σ H1 x v Q I1 r1 q1)
theorem opI {f:G2->G2->Sem G2}{C:G8->G8->Prop}{g:G8->G8->G8}
 (i1: ∀ (i j:G8) (t u:Tok) (s:G5) (Q:G2->G5->Prop) (E:G2->G5->Prop),C i j->Q (.int (g i j) s.toks) {s with toks:=s.toks+1}->D7 (R1 X.prog X.w) X.A (f (.int i t) (.int j u)) Q E s):
 OpR X f (rI C λi j=> .int (g i j)):=by
 intro pins s σ H x y v u Q I rx ry h;obtain⟨i,j,rfl,rfl,hc,q⟩:=h;obtain⟨t,rfl⟩:=rx;obtain⟨t',rfl⟩:=ry;exact i1 i j t t' s _ _ hc ⟨.int (g i j),H,I.tok _,⟨_,rfl⟩,q⟩
theorem NX {f:G2->G2->Sem G2}{g:G8->G8->G8}
 (i1: ∀ (i j:G8) (t u:Tok) (s:G5) (Q:G2->G5->Prop) (E:G2->G5->Prop),Q (.int (g i j) s.toks) {s with toks:=s.toks+1}->D7 (R1 X.prog X.w) X.A (f (.int i t) (.int j u)) Q E s):
 OpR X f (rI0 λi j=> .int (g i j)):=by
 intro pins s σ H x y v u Q I rx ry h;obtain⟨i,j,rfl,rfl,q⟩:=h;obtain⟨t,rfl⟩:=rx;obtain⟨t',rfl⟩:=ry;exact i1 i j t t' s _ _ ⟨.int (g i j),H,I.tok _,⟨_,rfl⟩,q⟩
theorem Mg {f:G2->G2->Sem G2}{g:G8->G8->B4}
 (i1: ∀ (i j:G8) (t u:Tok) (s:G5) (Q:G2->G5->Prop) (E:G2->G5->Prop),Q (.bool (g i j)) s->D7 (R1 X.prog X.w) X.A (f (.int i t) (.int j u)) Q E s):
 OpR X f (rI0 λi j=> .bl (g i j)):=by
 intro pins s σ H x y v u Q I rx ry h;obtain⟨i,j,rfl,rfl,q⟩:=h;obtain⟨t,rfl⟩:=rx;obtain⟨t',rfl⟩:=ry;exact i1 i j t t' s _ _ ⟨.bl (g i j),H,I,rfl,q⟩
def Mh (i j:G8):Prop:=0<j/\j<1073741824
def NY (i j:G8):Prop:=0<=j/\j<=1000000/\i.natAbs<2^64
def CMul (i j:G8):Prop:=(-(2^64)<i/\i<2^64)\/(-(2^64)<j/\j<2^64)
theorem CMul.ok {i j:G8}(h:CMul i j):IntMulOk i j:=by
 rcases h with ⟨h1,h2⟩|⟨h1,h2⟩
 ·exact .of_left (gW h1 h2)
 ·exact .of_right (gW h1 h2)
theorem op_add:OpR X (B7 .Add) (rI0 λi j=> .int (i+j)):=NX λ_ _ _ _ _ _ _ q=>add_int q
theorem Ds:OpR X (B7 .Sub) (rI0 λi j=> .int (i-j)):=NX λ_ _ _ _ _ _ _ q=>sub_int q
theorem op_mul:OpR X (B7 .Mult) (rI CMul λi j=> .int (i*j)):=opI λ_ _ _ _ _ _ _ hc q=>mul_int q hc.ok
theorem QX:OpR X (B7 .FloorDiv) (rI Mh λi j=> .int (i / j)):=opI λi j _ _ _ _ _ hc q=>by
 have h1:(0:G8)<j:=hc.1;have h2:j<1073741824:=hc.2;exact floordiv_int (by omega) (by rw [Z8 i (by omega)];exact q) (.inl (PyProof.noPylong_small (by omega)))
theorem Dt:OpR X (B7 .Mod) (rI (λ_ j=>0<j) λi j=> .int (i%j)):=opI λi j _ _ _ _ _ hc q=>by
 have h1:(0:G8)<j:=hc;exact mod_int' (by omega) (by rw [Z9 i (by omega)];exact q)
theorem Du:OpR X (B7 .Pow) (rI NY λi j=> .int (i^j.toNat)):=opI λ_ _ _ _ _ _ _ hc q=>pow_int_small hc.1 hc.2.1 hc.2.2 q
theorem unI {f:G2->Sem G2}{g:G8->G8}
 (i1: ∀ (i:G8) (t:Tok) (s:G5) (Q:G2->G5->Prop) (E:G2->G5->Prop),Q (.int (g i) s.toks) {s with toks:=s.toks+1}->D7 (R1 X.prog X.w) X.A (f (.int i t)) Q E s):
 UnR X f (rU λi=> .int (g i)):=by
 intro pins s σ H x v Q I rx h;obtain⟨i,rfl,q⟩:=h;obtain⟨t,rfl⟩:=rx;exact i1 i t s _ _ ⟨.int (g i),H,I.tok _,⟨_,rfl⟩,q⟩
theorem Dv:UnR X (unaryOp .USub) (rU λi=> .int (-i)):=unI λ_ _ _ _ _ q=>neg_int q
end
def NZ:V->V->B4
 | .non,.non=>true| .non,.int _=>true| .int _,.non=>true| .non,.bl _=>true| .bl _,.non=>true| .non,.str _=>true| .str _,.non=>true
 | .int _,.int _=>true| .bl _,.bl _=>true| .str _,.str _=>true| .byt _,.byt _=>true
 | .int _,.str _=>true| .str _,.int _=>true| .bl _,.str _=>true| .str _,.bl _=>true
 |_,_=>false
def rEq:R2:=λx y H Q=>NZ x y=true/\Q (.bl (decide (x=y))) H
def rNe:R2:=λx y H Q=>NZ x y=true/\Q (.bl (!decide (x=y))) H
theorem Vt {i j:G8}:decide (V.int i=V.int j)=(i==j):=by
 rw [O2];simp
theorem Qj {i j:B4}:decide (V.bl i=V.bl j)=(i==j):=by
 rw [O2];simp
theorem Vu {i j:Str}:decide (V.str i=V.str j)=(i==j):=by
 rw [O2];simp
theorem Vv {i j:B3 UInt8}:decide (V.byt i=V.byt j)=(i.toList==j.toList):=by
 rw [O2];cases i;cases j;simp
section
variable {X:Cx}{a b c:D8}{ta tb tc:TE}{pos:Pos}
theorem jz {pins:G0 (G6×Obj)}{σ:St}{H:Hp}{s:G5}{Q:VK}{k k':B4}(I:Inv X pins σ H s)(q:Q (.bl k) H)(e:k=k'):EP X pins σ Q (.bool k') s:=by
 subst e;exact⟨.bl k,H,I,rfl,q⟩
theorem op_eq:OpR X (T9 .Eq) rEq:=by
 intro pins s σ H x y v u Q I rx ry h;obtain⟨hs,q⟩:=h;cases x with
 |non=>
  cases rx;cases y with
  |non=>cases ry;exact PySem.EqNone.eq_none_none (jz I q (by simp))
  |bl j=>cases ry;exact PySem.EqNone.eq_none_bool (jz I q (by simp))
  |int j=>obtain⟨t',rfl⟩:=ry;exact PySem.EqNone.eq_none_int (jz I q (by simp))
  |str j=>obtain⟨t',rfl⟩:=ry;exact PySem.EqNone.eq_none_str (jz I q (by simp))
  |_=>exact absurd (show false=true from hs) P3
 |bl i=>
  cases rx;cases y with
  |non=>cases ry;exact PySem.EqNone.eq_bool_none (jz I q (by simp))
  |bl j=>cases ry;exact eq_bool (jz I q Qj)
  |str j=>obtain⟨t',rfl⟩:=ry;exact PySem.EqMixed.eq_bool_str (jz I q (by simp))
  |_=>exact absurd (show false=true from hs) P3
 |int i=>
  obtain⟨t,rfl⟩:=rx;cases y with
  |non=>cases ry;exact PySem.EqNone.eq_int_none (jz I q (by simp))
  |int j=>obtain⟨t',rfl⟩:=ry;exact eq_int (jz I q Vt)
  |str j=>obtain⟨t',rfl⟩:=ry;exact PySem.EqMixed.eq_int_str (jz I q (by simp))
  |_=>exact absurd (show false=true from hs) P3
 |str i=>
  obtain⟨t,rfl⟩:=rx;cases y with
  |non=>cases ry;exact PySem.EqNone.eq_str_none (jz I q (by simp))
  |bl j=>cases ry;exact PySem.EqMixed.eq_str_bool (jz I q (by simp))
  |int j=>obtain⟨t',rfl⟩:=ry;exact PySem.EqMixed.eq_str_int (jz I q (by simp))
  |str j=>obtain⟨t',rfl⟩:=ry;exact eq_str (jz I q Vu)
  |_=>exact absurd (show false=true from hs) P3
 |byt i=>
  obtain⟨t,rfl⟩:=rx;cases y with
  |byt j=>obtain⟨t',rfl⟩:=ry;exact lH (jz I q Vv)
  |_=>exact absurd (show false=true from hs) P3
 |_=>cases y<;>exact absurd (show false=true from hs) P3
theorem op_ne:OpR X (T9 .NotEq) rNe:=by
 intro pins s σ H x y v u Q I rx ry h;obtain⟨hs,q⟩:=h;cases x with
 |non=>
  cases rx;cases y with
  |non=>cases ry;exact PySem.EqNone.ne_none_none (jz I q (by simp))
  |bl j=>cases ry;exact PySem.EqNone.ne_none_bool (jz I q (by simp))
  |int j=>obtain⟨t',rfl⟩:=ry;exact PySem.EqNone.ne_none_int (jz I q (by simp))
  |str j=>obtain⟨t',rfl⟩:=ry;exact PySem.EqNone.ne_none_str (jz I q (by simp))
  |_=>exact absurd (show false=true from hs) P3
 |bl i=>
  cases rx;cases y with
  |non=>cases ry;exact PySem.EqNone.ne_bool_none (jz I q (by simp))
  |bl j=>cases ry;exact ne_bool (jz I q (congrArg not Qj))
  |str j=>obtain⟨t',rfl⟩:=ry;exact PySem.EqMixed.ne_bool_str (jz I q (by simp))
  |_=>exact absurd (show false=true from hs) P3
 |int i=>
  obtain⟨t,rfl⟩:=rx;cases y with
  |non=>cases ry;exact PySem.EqNone.ne_int_none (jz I q (by simp))
  |int j=>obtain⟨t',rfl⟩:=ry;exact ne_int (jz I q (congrArg not Vt))
  |str j=>obtain⟨t',rfl⟩:=ry;exact PySem.EqMixed.ne_int_str (jz I q (by simp))
  |_=>exact absurd (show false=true from hs) P3
 |str i=>
  obtain⟨t,rfl⟩:=rx;cases y with
  |non=>cases ry;exact PySem.EqNone.ne_str_none (jz I q (by simp))
  |bl j=>cases ry;exact PySem.EqMixed.ne_str_bool (jz I q (by simp))
  |int j=>obtain⟨t',rfl⟩:=ry;exact PySem.EqMixed.ne_str_int (jz I q (by simp))
  |str j=>obtain⟨t',rfl⟩:=ry;exact ne_str (jz I q (congrArg not Vu))
  |_=>exact absurd (show false=true from hs) P3
 |byt i=>
  obtain⟨t,rfl⟩:=rx;cases y with
  |byt j=>obtain⟨t',rfl⟩:=ry;exact lI (jz I q (congrArg not Vv))
  |_=>exact absurd (show false=true from hs) P3
 |_=>cases y<;>exact absurd (show false=true from hs) P3
theorem MG:OpR X (T9 .Lt) (rI0 λi j=> .bl (decide (i<j))):=Mg λ_ _ _ _ _ _ _ q=>lt_int q
theorem MH:OpR X (T9 .LtE) (rI0 λi j=> .bl (decide (i<=j))):=Mg λ_ _ _ _ _ _ _ q=>le_int q
theorem MI:OpR X (T9 .Gt) (rI0 λi j=> .bl (decide (j<i))):=Mg λ_ _ _ _ _ _ _ q=>gt_int q
theorem MJ:OpR X (T9 .GtE) (rI0 λi j=> .bl (decide (j<=i))):=Mg λ_ _ _ _ _ _ _ q=>ge_int q
variable {r:R2}
theorem OpR.or {f:G2->G2->Sem G2}{r':R2}(h:OpR X f r)(h':OpR X f r'):OpR X f (λx y H Q=>r x y H Q\/r' x y H Q):=by
 intro pins s σ H x y v u Q I rx ry q;rcases q with q|q
 ·exact h pins s σ H x y v u Q I rx ry q
 ·exact h' pins s σ H x y v u Q I rx ry q
theorem Qk (b:D8){op:b0}(h:op≠ .In:=by decide)(h2:op≠ .NotIn:=by decide):L4 op b=false:=by
 have e1:(op==CmpOp.In)=false:=by cases op<;>first|rfl|exact absurd rfl h
 have e2:(op==CmpOp.NotIn)=false:=by cases op<;>first|rfl|exact absurd rfl h2
 cases b<;>simp [L4,e1,e2]
theorem QY {op:b0}(ho:OpR X (T9 op) r)(ha:PE X a ta)(hb:PE X b tb)(hm:L4 op b=false):PE X (.Compare a [op] [b] pos) (tOp r ta tb):=by
 intro pins s σ H Q I h;exact wpAny_Compare1 (MD ha hb I h λv u s2 x y H2 I2 rx ry q=>ho pins s2 σ H2 x y v u Q I2 rx ry q) hm
def QZ (t:TE):TT:=λσ H Q=>t σ H λx H'=> ∃k,x= .bl k/\Q k H'
theorem Ga {op:b0}(ho:OpR X (T9 op) r)(ha:PE X a ta)(hb:PE X b tb)(hm:L4 op b=false):PT X (.Compare a [op] [b] pos) (QZ (tOp r ta tb)):=by
 intro pins s σ H Q I h;refine wpAny_isTrue_Compare1 (thn (ha pins s σ H _ I h) λv s1 ⟨x,H1,I1,r1,q1⟩=>thn (hb pins s1 σ H1 _ I1 q1) λu s2 ⟨y,H2,I2,r2,q2⟩=>
  thn (ho pins s2 σ H2 x y v u _ I2 r1 r2 q2) λc s3 ⟨z,H3,I3,r3,k,e,q3⟩=> ?_) hm
 subst e;cases r3;exact C4 ⟨H3,I3,q3⟩
def Ql (r r':R2)(ta tb tc:TE):TE:=λσ H Q=>ta σ H λx H1=>tb σ H1 λy H2=>r x y H2 λz H3=> ∃k,z= .bl k/\
 (if k=true then tc σ H3 λw' H4=>r' y w' H4 Q else Q (.bl false) H3)
theorem Xq {op op':b0}{r':R2}(ho:OpR X (T9 op) r)(ho':OpR X (T9 op') r')(ha:PE X a ta)(hb:PE X b tb)(hc:PE X c tc)
 (hm:iI [op,op'] [b,c]=false:=by with_unfolding_all rfl):PT X (.Compare a [op,op'] [b,c] pos) (QZ (Ql r r' ta tb tc)):=by
 intro pins s σ H Q I h;refine isTrue_chain (thn (ha pins s σ H _ I h) λv s1 ⟨x,H1,I1,r1,q1⟩=>test_link (thn (hb pins s1 σ H1 _ I1 q1) λu s2 ⟨y,H2,I2,r2,q2⟩=>
  thn (ho pins s2 σ H2 x y v u _ I2 r1 r2 q2) λd s3 ⟨z,H3,I3,r3,k,e,q3⟩=> ?_)) hm
 subst e;cases r3;refine C4 ?_;cases k with
 |false=>
  obtain⟨k',e',q'⟩:=q3;cases e';exact ite_ff ⟨H3,I3,q'⟩
 |true=>
  refine ite_tt (test_last (thn (hc pins s3 σ H3 _ I3 q3) λw' s4 ⟨z',H4,I4,r4,q4⟩=>thn (ho' pins s4 σ H4 y z' u w' _ I4 r2 r4 q4) λd' s5 ⟨z2,H5,I5,r5,k2,e2,q5⟩=> ?_));subst e2;cases r5;exact C4 ⟨H5,I5,q5⟩
theorem Zl:(sizeLine:P0)<2^63:=by rw [i5];decide
theorem Jl {x:V}{us:G0 G2}(r:Vals [x] us): ∃u,us= [u]/\RelV x u:=by
 cases r with
 |cons r1 r2=>cases r2;exact⟨_,rfl,r1⟩
theorem Xr {x y:V}{us:G0 G2}(r:Vals [x,y] us): ∃u w',us= [u,w']/\RelV x u/\RelV y w':=by
 cases r with
 |cons r1 r2=>
  cases r2 with
  |cons r3 r4=>cases r4;exact⟨_,_,rfl,r1,r3⟩
theorem Vw (hc:X.calm=true):CallR X (.builtin "max") (λxs H Q=> ∃i j,xs= [.int i,.int j]/\Q (.int (if j>i then j else i)) H):=by
 intro pins s σ H xs us Q I r h;obtain⟨i,j,rfl,q⟩:=h;obtain⟨u,w',rfl,⟨t,rfl⟩,⟨t',rfl⟩⟩:=Xr r;refine max_two_ints (I.ok.hd hc) λh' tk k=>⟨_,H,I.kept k,?_,q⟩
 by_cases hj:j>i
 ·rw [R3 hj,R3 hj];exact⟨_,rfl⟩
 ·rw [S4 hj,S4 hj];exact⟨_,rfl⟩
theorem call_int1:CallR X (.type "int") (λxs H Q=>(∃i,xs= [.int i]/\Q (.int i) H)\/ ∃k,xs= [.bl k]/\Q (.int (if k then 1 else 0)) H):=by
 intro pins s σ H xs us Q I r h;rcases h with ⟨i,rfl,q⟩|⟨k,rfl,q⟩
 ·obtain⟨u,rfl,t,rfl⟩:=Jl r;exact call_int_int ⟨.int i,H,I,⟨_,rfl⟩,q⟩
 ·obtain⟨u,rfl,r1⟩:=Jl r;cases r1;exact call_int_bool ⟨.int (if k then 1 else 0),H,I.tok _,⟨_,rfl⟩,q⟩
theorem call_divmod:CallR X (.builtin "divmod") (λxs H Q=> ∃i j,xs= [.int i,.int j]/\Mh i j/\ ∀p,H p=none->Q (.ref p) (upd H p (.tup [.int (i / j),.int (i%j)]))):=by
 intro pins s σ H xs us Q I r h;obtain⟨i,j,rfl,⟨h1,h2⟩,q⟩:=h;obtain⟨u,w',rfl,⟨t,rfl⟩,⟨t',rfl⟩⟩:=Xr r;refine divmod_int (by omega) ?_ (.inl (PyProof.noPylong_small (by omega)));rw [Z8 i (by omega),Z9 i (by omega)];have hn:H s.heap.objs.size=none:=I.hok.fresh (D0 _);refine⟨.ref s.heap.objs.size,_,?_,rfl,q _ hn⟩;refine I.laid (λb o e=>G7 _ e) (D0 _) ⟨by simp only [S3,M7];rw [i5];decide,[.int (i / j) s.toks,.int (i%j) (s.toks+1)],.cons ⟨_,rfl⟩ (.cons ⟨_,rfl⟩ .nil),?_⟩;exact⟨_,D4 s.heap rfl,rfl,rfl,0,rfl⟩
end
structure ObjM (h:N5)(x dx C:G6)(mA:Str->P5 G2):Prop where
 obj:h.get? x=some (bP C dx)
 ns:h.Ns1 dx mA
 ne:dx≠x
theorem Vx {dx:G6}{mA:Str->P5 G2}(n:h.Ns1 dx mA): ∃od,h.get? dx=some od/\ ∀name,b7 name od=some (mA name):=by
 obtain⟨o,es,ep,ho,hd,hk,_,hm⟩:=n;refine⟨o,ho,λname=> ?_⟩;have e:=hm name;unfold nsFind findBy at e;rw [<-Array.find?_toList] at e;unfold b7;rw [hd];dsimp only;split
 ·rename_i y q;rw [q] at e;exact congrArg some e
 ·rename_i q;rw [q] at e;have a:es.toList.any (·.refKey)=false:=by
   rw [List.any_eq_false];intro y hy;obtain⟨z,t,hkey⟩:=hk y (Array.mem_toList_iff.mp hy);simp [DictEntry.refKey,hkey]
  have a': ¬es.toList.any (·.refKey)=true:=by rw [a];exact P3
  rw [S4 a'];exact congrArg some e
theorem ObjM.look {x dx C:G6}{mA:Str->P5 G2}(I:ObjM h x dx C mA): ∃od,lV h x (bP C dx) C (some od)/\ ∀name,b7 name od=some (mA name):=
 let ⟨od,ho,hl⟩:=Vx I.ns
 ⟨od,⟨I.obj,rfl,rfl,ho⟩,hl⟩
section
variable {P:S2}{w:M6}{H H':Hp}{h h':N5}{a C dx:G6}{fs fs':G0 (Str×V)}
theorem Gb (hok:HOk P w H h)(e:H a=some (.ins C dx fs)): ∃mA,ObjM h a dx C mA/\(∀f,Mx (fs.lookup f) (mA f))/\iO mA (fs.map (·.1))/\fs.length<=1000/\H dx=some (.own a):=by
 obtain⟨d,z,ne,ob,mA,n,r,q⟩:=(show ObjOk P w H h a (.ins C dx fs) from hok a _ e);exact⟨mA,⟨ob,n,ne⟩,r,q,z,d⟩
end
structure Cls (K:G1)(C:G6):Prop where
 pg:eG K C iJ=true
 hd:lB K C=true
 po:lC K C=true
 sa:gF K (.ref C) "__setattr__" =some (some (.builtin "object.__setattr__"))
theorem Cls.get {C:G6}(c:Cls K C)(f:Str):eG K C f=true:=c.pg
section
variable {X:Cx}{pins:G0 (G6×Obj)}{σ:St}{H:Hp}{s:G5}{A:M5}{E:G2->G5->Prop}{Q:G2->G5->Prop}{c:G2}{b:B4}
inductive TyOf (K:G1)(H:Hp):V->G2->Prop where
 |non:TyOf K H .non (.type "NoneType")
 |bl (x:B4):TyOf K H (.bl x) (.type "bool")
 |int (i:G8):TyOf K H (.int i) (.type "int")
 |str (x:Str):TyOf K H (.str x) (.type "str")
 |flt (x:UInt64):TyOf K H (.flt x) (.type "float")
 |lst {a:G6} {xs:G0 V} (e:H a=some (.lst xs)):TyOf K H (.ref a) (.type "list")
 |frz {a:G6} {o:Obj} {xs:G0 V} (e:H a=some (.frz o (.lst xs))):TyOf K H (.ref a) (.type "list")
 |tup {a:G6} {xs:G0 V} (e:H a=some (.tup xs)):TyOf K H (.ref a) (.type "tuple")
 |dK {a:G6} {kvs:G0 (Key×V)} (e:H a=some (.dK kvs)):TyOf K H (.ref a) (.type "dict")
 |dT {a:G6} {kvs:G0 (G0 Key×V)} (e:H a=some (.dT kvs)):TyOf K H (.ref a) (.type "dict")
 |ins {a C dx:G6} {fs:G0 (Str×V)} (e:H a=some (.ins C dx fs)) (cl:Cls K C) (ha:gF K (.ref C) "__class__" =some (some (.builtin "object.__class__")))
  (hn:lD K (.builtin "object.__class__") "__get__" =some (some (.builtin "getset_descriptor.__get__"))) (htk:lR K (.builtin "object.__class__")=some true)
  (hm:l8 K C (.type "object")=some true):TyOf K H (.ref a) (.ref C)
theorem Vy {x:V}{u t:G2}(I:Inv X pins σ H s)(rx:RelV x u)(ty:TyOf X.K H x t)(e:b8 X.K t c=some b)(h: ∀tk,Q (.bool b) {s with toks:=tk}):
 D7 (R1 X.prog X.w) A (call (.builtin "isinstance") [u,c]) Q E s:=by
 cases ty with
 |non=>cases (show u=cX from rx);exact B9 lE I.kIn U4 e (λz=>nomatch z) h
 |bl y=>cases (show u=cY y from rx);exact B9 lF I.kIn U4 e (λz=>nomatch z) h
 |int i=>obtain⟨t,q⟩:=(show ∃t,u=Z4 i t from rx);cases q;exact B9 lJ I.kIn U4 e (λz=>nomatch z) h
 |str y=>obtain⟨t,q⟩:=(show ∃t,u=cK y t from rx);cases q;exact B9 lK I.kIn U4 e (λz=>nomatch z) h
 |flt y=>obtain⟨t,q⟩:=(show ∃t,u=iV y t from rx);cases q;exact B9 kI I.kIn U4 e (λz=>nomatch z) h
 | @lst a xs ea=>
  cases (show u=L6 a from rx);obtain⟨_,_,n,_,h1⟩:=(show ObjOk X.prog X.w H s.heap a (.lst xs) from I.hok a _ ea);exact B9 dF I.kIn ⟨_,h1,rfl⟩ e (λz=>nomatch z) h
 | @frz a ob xs ea=>
  cases (show u=L6 a from rx);obtain⟨_,_,_,n,_,h1⟩:=(show ObjOk X.prog X.w H s.heap a (.frz ob (.lst xs)) from I.hok a _ ea);exact B9 dF I.kIn ⟨_,h1,rfl⟩ e (λz=>nomatch z) h
 | @tup a xs ea=>
  cases (show u=L6 a from rx);obtain⟨_,_,_,p⟩:=(show ObjOk X.prog X.w H s.heap a (.tup xs) from I.hok a _ ea);obtain⟨o,h1,h2,_⟩:=p;exact B9 kJ I.kIn ⟨o,h1,h2⟩ e (λz=>nomatch z) h
 | @dK a kvs ea=>
  cases (show u=L6 a from rx);obtain⟨_,_,vs,_,p⟩:=(show ObjOk X.prog X.w H s.heap a (.dK kvs) from I.hok a _ ea);obtain⟨o,es,ep,h1,h2,_⟩:=p;exact B9 dG I.kIn ⟨o,h1,h2.1⟩ e (λz=>nomatch z) h
 | @dT a kvs ea=>
  cases (show u=L6 a from rx);obtain⟨_,_,xs,_,o,es,ep,h1,h2,_⟩:=(show ObjOk X.prog X.w H s.heap a (.dT kvs) from I.hok a _ ea);exact B9 dG I.kIn ⟨o,h1,h2.1⟩ e (λz=>nomatch z) h
 | @ins a C dx fs ea cl ha hn htk hm=>
  cases (show u=L6 a from rx);obtain⟨mA,O,_⟩:=Gb I.hok ea;obtain⟨od,J,_⟩:=O.look;exact B9 (lL (cl.get _) cl.hd ha hn htk hm) I.kIn J e (λz=>nomatch z) h
end
structure Room (k:P0)(A:M5):Prop where
 hd:A.handled=none
 dp:A.depth+3*k+5<recursionLimit
 un:A.units+16*k+200<cLine
 gd:A.guards=some []
variable {k:P0}
theorem Room.deeper (r:Room (k+1) A)(env:Env):Room k (A.deeper env):=
 ⟨r.hd,by have:=r.dp;show A.depth+1+3*k+5<_;omega,by have:=r.un;show A.units+3+16*k+200<_;omega,r.gd⟩
theorem Room.depth (r:Room k A):A.depth<recursionLimit:=by have:=r.dp;omega
theorem Room.units (r:Room k A):A.units+64<cLine:=by have:=r.un;omega
def Ba:TA:=λ_ H Q=>Q [] H
def Dw (ta:TE)(tr:TA):TA:=λσ H Q=>ta σ H λx H1=>tr σ H1 λxs H2=>Q (x::xs) H2
section
variable {X:Cx}{e:D8}{es:G0 D8}{te:TE}{t:TA}{pos:Pos}
theorem pa_nil:PA X [] Ba:=λ_ _ _ _ H Q I h=>Calls.spliced_nil ⟨[],H,I,.nil,h⟩
theorem wG (ha:PE X e te)(hr:PA X es t)(hs:P8 (e::es) X.env=(false,B6 e X.env)::P8 es X.env:=by rfl):PA X (e::es) (Dw te t):=by
 intro pos pins s σ H Q I h;rw [hs];show D7 _ _ (spliced ((false,B6 e X.env)::H0 pos (P8 es X.env))) _ _ s;refine Calls.spliced_cons (thn (ha pins s σ H _ I h) λu s1 ⟨x,H1,I1,r1,q1⟩=> ?_);exact thn (hr pos pins s1 σ H1 _ I1 q1) λus s2 ⟨xs,H2,I2,r2,q2⟩=>⟨x::xs,H2,I2,.cons r1 r2,q2⟩
def Bb (t:TA):TE:=λσ H Q=>t σ H λxs H1=>xs.length<=sizeLine/\ ∀p,H1 p=none->Q (.ref p) (upd H1 p (.tup xs))
def Bc (t:TA):TE:=λσ H Q=>t σ H λxs H1=>xs.length<=sizeLine/\ ∀p,H1 p=none->Q (.ref p) (upd H1 p (.lst xs))
theorem Dx {x1}(h:PA X es t):PE X (.Tuple es x1 pos) (Bb t):=by
 intro pins s σ H Q I hq;refine wpAny_Tuple_spliced (thn (h pos pins s σ H _ I hq) λus s1 ⟨xs,H1,I1,r,z,q⟩=>⟨by rw [<-r.length];exact z,?_⟩);have hf:H1 s1.heap.objs.size=none:=I1.hok.fresh (D0 _);refine⟨.ref s1.heap.objs.size,upd H1 s1.heap.objs.size (.tup xs),I1.laid (t':=s1.toks) (λb u e=>G7 _ e) (D0 _) ?_,rfl,q _ hf⟩;exact⟨z,us,r,IsTupN.new _ _⟩
theorem Dy (h:PA X es t):PE X (.List es pos) (Bc t):=by
 intro pins s σ H Q I hq;refine wpAny_List_spliced (thn (h pos pins s σ H _ I hq) λus s1 ⟨xs,H1,I1,r,z,q⟩=>⟨by rw [<-r.length];exact z,?_⟩);have hf:H1 s1.heap.objs.size=none:=I1.hok.fresh (D0 _);refine⟨.ref s1.heap.objs.size,upd H1 s1.heap.objs.size (.lst xs),I1.laid (t':=s1.toks) (λb u e=>G7 _ e) (D0 _) ?_,rfl,q _ hf⟩;exact⟨z,us,0,r,D4 _ rfl⟩
end
abbrev Sp:=G0 V->Hp->VK->XK->Prop
abbrev CXT:=G0 Env->Hp->G5->XK->G2->G5->Prop
structure Env0 (P:S2)(w:M6)(K:G1)(mg:Str->P5 G2)(base:N5)(A:M5)(outer:G0 Env)(s:G5)(H:Hp):Prop where
 frames:A.frames=some outer
 mod:Mod K mg base
 bs: ∀b o,base.get? b=some o->s.heap.get? b=some o/\H b=none
 bsz:base.objs.size<=s.heap.objs.size
 funs:s.heap.FunFrames base outer
 frf: ∀b∈frs outer,H b=none
 hok:HOk P w H s.heap
 bare:aO s.gens
def CE (outer:G0 Env)(P:S2)(w:M6)(H:Hp)(s:G5)(Q:VK)(u:G2)(s':G5):Prop:=
 ∃v H',s'.os=s.os/\aO s'.gens/\Un (frs outer) [] H H' s.heap s'.heap/\HOk P w H' s'.heap/\RelV v u/\Q v H'
def CR (CX:CXT)(outer:G0 Env)(P:S2)(w:M6)(H:Hp)(s:G5)(Q:VK)(E:XK)(r:lX)(s':G5):Prop:=
 match r with
 | .ok (.ret u)=>CE outer P w H s Q u s'
 | .ok _=>False
 | .error e=>CX outer H s E e s'
structure FnOk (P:S2)(w:M6)(K:G1)(mg:Str->P5 G2)(base:N5)(CX:CXT)(k:P0)(f:G6)(fd:S6)(ps:G0 Str)(sp:Sp):Prop where
 len: ∀vs H Q E,sp vs H Q E->vs.length=ps.length
 run: ∀ (A:M5) (outer:G0 Env) (s:G5) (H:Hp) (args:Args) (us:G0 G2) (vs:G0 V) (Q:VK) (E:XK),Room k A->Env0 P w K mg base A outer s H->f7 s fd args (ps.zip us)->Vals vs us->sp vs H Q E->
  Z0 (R1 P w) A (.call (.ref f) args) (CR CX outer P w H s Q E) s
section
variable {X:Cx}{pins:G0 (G6×Obj)}{σ:St}{H:Hp}{s s':G5}
theorem Inv.env0 (I:Inv X pins σ H s):Env0 X.prog X.w X.K X.mg X.base X.A X.stack s H:=
 ⟨I.ok.frames,I.ok.mod,I.bs,T8 I.ok.bsz I.sz,I.stack,I.stkFree,I.hok,I.bare⟩
theorem Inv.after {Q:VK}{u:G2}(I:Inv X pins σ H s)(h:CE X.stack X.prog X.w H s Q u s'):EP X pins σ Q u s':=by
 obtain⟨v,H',os,bare,un,hok,r,q⟩:=h;obtain⟨hh,g,d,t,os'⟩:=s';obtain rfl:os'=s.os:=os;exact⟨v,H',I.call (h':=hh) (g':=g) (d':=d) (t':=t) (ch:= []) un hok bare (λb z=>absurd z (by simp)),r,q⟩
end
def Dz (sp:Sp)(dvs:G0 V)(E:XK)(t:TA):TE:=λσ H Q=>t σ H λvs H1=>sp (vs++dvs) H1 Q E
def Binds (K:G1)(fd:S6)(ps:G0 Str)(ds:G0 G2):Prop:=
 ∀ (s:G5) (us:G0 G2),K.In s.heap->(us++ds).length=ps.length->f7 s fd ⟨us,[]⟩ (ps.zip (us++ds))
theorem Binds.all {fd:S6}{ps:G0 Str}(h: ∀us:G0 G2,us.length=ps.length->i6 fd ⟨us,[]⟩=pure (ps.zip us)):Binds K fd ps []:=λs us _ hl=>by
 rw [bQ] at hl ⊢;exact .of_eq (h us hl)
def Vz (CX:CXT)(X:Cx)(E:XK):Prop:= ∀ (pins:G0 (G6×Obj)) (σ:St) (H:Hp) (s:G5) (e:G2) (s':G5),Inv X pins σ H s->CX X.stack H s E e s'->X.xe e s'
section
variable {X:Cx}{CX:CXT}{k:P0}{f C:G6}{fd:S6}{ps:G0 Str}{sp:Sp}{dvs:G0 V}{ds:G0 G2}{E:XK}{x m:Str}{p pos apos:Pos}{e o:D8}{es:G0 D8}{ta:TE}{t:TA}
theorem DA {pins:G0 (G6×Obj)}{σ:St}{H:Hp}{s:G5}{Q:VK}{us:G0 G2}{vs:G0 V}(F:FnOk X.prog X.w X.K X.mg X.base CX k f fd ps sp)(hr:Room k X.A)(hb:Binds X.K fd ps ds)(hd:Vals dvs ds)(hx:Vz CX X E)
 (I:Inv X pins σ H s)(r:Vals vs us)(h:sp (vs++dvs) H Q E):D7 (R1 X.prog X.w) X.A (call (.ref f) us) (EP X pins σ Q) X.xe s:=by
 have r2:Vals (vs++dvs) (us++ds):=r.append hd;have hl:(us++ds).length=ps.length:=by rw [<-r2.length];exact F.len _ _ _ _ h
 refine wpAny_call (dH (F.run X.A X.stack s H ⟨us,[]⟩ (us++ds) (vs++dvs) Q E hr I.env0 (hb s us I.kIn hl) r2 h) λr s' hq=> ?_);cases r with
 |error e=>exact hx pins σ H s e s' I hq
 |ok fl=>
  cases fl with
  |ret u=>exact I.after hq
  |next=>exact False.elim hq
  |brk=>exact False.elim hq
  |cont=>exact False.elim hq
theorem Gc (F:FnOk X.prog X.w X.K X.mg X.base CX k f fd ps sp)(hr:Room k X.A)(hg:Gl X x)(hm:X.mg x=some (.ref f))(hk:E3 X.K (.ref f)=true)(hb:Binds X.K fd ps ds)(hd:Vals dvs ds)(hx:Vz CX X E)
 (ha:PA X (e::es) t)(hdb:(x==("__debug__" :Str))=false:=by decide)(he:P8 (e::es) X.env=(false,B6 e X.env)::P8 es X.env:=by rfl)(hpl:(H0 pos (P8 es X.env)).any (·.1)=false:=by rfl):
 PE X (.Call (.Name x p) (e::es) [] pos) (Dz sp dvs E t):=by
 intro pins s σ H Q I h;refine aA (Vq I hg hm ?_ hdb);refine kK (h₀:=X.base) I.ok.mod.kin hk (thn (ha pos pins s σ H _ I h) λus s1 ⟨vs,H1,I1,r,q⟩=>⟨I1.kIn,?_⟩) he hpl;exact DA F hr hb hd hx I1 r q
end
structure FnScope (N P:G0 Str)(sc:L7):Prop where
 kind:sc.kind= .function
 co:sc.isCoroutine=false
 gen:sc.isGenerator=false
 nd:N.Nodup
 pre:N.take P.length=P
 par: ∀x∈P,sc.names.lookup x=some .local\/sc.names.lookup x=some .cell
 nofree: ∀y∈sc.names,y.2≠ .free
variable {kindOf:Str->P5 NameKind}{x:Str}
theorem Zm: ∀ {binds:G0 (Str×G2)} {m:Str->P5 G2},(∀v,(x,v) ∉ binds)->gG kindOf binds m x=m x
 | [],_,_=>rfl
 |(n,v)::r,m,h=>by
  unfold gG;rw [Zm λw hw=>h w (D2 _ hw)];split
  ·have:x≠n:=by rintro rfl;exact h v P6
   simp [this]
  ·rfl
theorem Zn: ∀ {binds:G0 (Str×G2)} {m:Str->P5 G2},(∀v,(x,v) ∉ binds)->gH kindOf binds m x=m x
 | [],_,_=>rfl
 |(n,v)::r,m,h=>by
  unfold gH;rw [Zn λw hw=>h w (D2 _ hw)];split
  ·rfl
  ·have:x≠n:=by rintro rfl;exact h v P6
   simp [this]
theorem Zo {v:G2}: ∀ {P:G0 Str} {vs:G0 G2} {i:P0} {m:Str->P5 G2},P.Nodup->P[i]? =some x->vs[i]? =some v->kindOf x=some .local->
 gG kindOf (P.zip vs) m x=some v
 | [],_,_,_,_,h,_,_=>by simp at h
 |_::_,[],_,_,_,_,h,_=>by simp at h
 |p::P,w::vs,0,m,nd,h1,h2,hk=>by
  simp at h1 h2;subst h1;subst h2;show gG kindOf ((p,w)::P.zip vs) m p=_;unfold gG;rw [Zm λv hv=>(A2.mp nd).1 (bR hv).1,R3 hk];simp
 |p::P,w::vs,i+1,m,nd,h1,h2,hk=>by
  show gG kindOf ((p,w)::P.zip vs) m x=_;unfold gG;exact Zo (i:=i) (A2.mp nd).2 (by simpa using h1) (by simpa using h2) hk
theorem Zp {v:G2}: ∀ {P:G0 Str} {vs:G0 G2} {i:P0} {m:Str->P5 G2},P.Nodup->P[i]? =some x->vs[i]? =some v->kindOf x≠some .local->
 gH kindOf (P.zip vs) m x=some v
 | [],_,_,_,_,h,_,_=>by simp at h
 |_::_,[],_,_,_,_,h,_=>by simp at h
 |p::P,w::vs,0,m,nd,h1,h2,hk=>by
  simp at h1 h2;subst h1;subst h2;show gH kindOf ((p,w)::P.zip vs) m p=_;unfold gH;rw [Zn λv hv=>(A2.mp nd).1 (bR hv).1,S4 hk];simp
 |p::P,w::vs,i+1,m,nd,h1,h2,hk=>by
  show gH kindOf ((p,w)::P.zip vs) m x=_;unfold gH;exact Zp (i:=i) (A2.mp nd).2 (by simpa using h1) (by simpa using h2) hk
def yZ (N:G0 Str)(vs:G0 V):St:=vs.map some++D5 (N.length-vs.length) none
def Xs (CX:CXT)(P:S2)(w:M6)(K:G1)(mg:Str->P5 G2)(base:N5)(N:G0 Str)(qual:Str)(scope:L7)(f:G6)(cd:G2)(A:M5)(outer:G0 Env)(s:G5)(H:Hp)(E:XK):Cx where
 prog:=P
 w:=w
 K:=K
 mg:=mg
 base:=base
 A:=A.deeper (aB qual scope s.heap.objs.size f cd)
 N:=N
 s₀:=s
 H₀:=H
 env:=aB qual scope s.heap.objs.size f cd
 outer:=outer
 stack:=aB qual scope s.heap.objs.size f cd::outer
 ex:= []
 calm:=true
 fn:=λ_=>true
 pn:= []
 xe:=λe s'=>D7 (R1 P w) (A.deeper (aB qual scope s.heap.objs.size f cd)) (leaving (aB qual scope s.heap.objs.size f cd) e) (λ_ s''=>CX outer H s E e s'') (λe' s''=>CX outer H s E e' s'') s'
theorem yW {sc:L7}{n:P0}(h:sc.names.lookup x=some .cell): ∃c,(F4 n sc.names []).lookup x=some c:=by
 have q:=bF sc.names n [] (.inl h);exact aS.mp q
theorem VA {CX:CXT}{mg:Str->P5 G2}{base:N5}{N ps:G0 Str}{qual:Str}{scope:L7}{f:G6}{cd:G2}{outer:G0 Env}{s1:G5}{E:XK}{us:G0 G2}{vs:G0 V}
 (S:FnScope N ps scope)(hd:A.handled=none)(e0:Env0 P w K mg base A outer s H)(hl:vs.length=ps.length)(r:Vals vs us)
 (x:InCallC s s.heap.objs.size (gG (aB qual scope s.heap.objs.size f cd).kindOf (ps.zip us) λ_=>none) (F4 (s.heap.objs.size+1) scope.names []) (gH (aB qual scope s.heap.objs.size f cd).kindOf (ps.zip us) λ_=>none) s1):
 Inv (Xs CX P w K mg base N qual scope f cd A outer s H E) [] (yZ N vs) H s1:=by
 have hpl:ps.length<=N.length:=by have:=congrArg X5 S.pre;rw [B0] at this;omega
 obtain⟨h1,tk,rfl,hk⟩:=x.done;have noA: ∀b:G6,b ∉ (Xs CX P w K mg base N qual scope f cd A outer s H E).ex:=λb z=>absurd (show b∈([]:G0 G6) from z) (by simp)
 refine⟨⟨e0.mod,S.kind,rfl,rfl,D0 _,λy z c h1 h2=> ?_,λy hy=> ?_,λy c _ h=> ?_,λ_=>hd,Around.frames_deeper e0.frames,.inr ⟨rfl,rfl⟩,λb z=>absurd z (noA b),e0.bs,e0.bsz,λb _ _=>noA b,λb z=>absurd z (noA b),e0.funs,e0.frf⟩,
  rfl,e0.bare,Un.kept hk,⟨_,x.toInCall.ns,λi y v h1 h2 h3=> ?_⟩,λy c h=>⟨_,x.cell y c h⟩,e0.hok.fresh (D0 _),λy c h=> ?_,λp hp=>absurd (show p∈([]:G0 (G6×Obj)) from hp) (by simp),e0.hok.kept hk,?_⟩
 ·exact iR x.apart (E2 h1) (E2 h2)
 ·have hy:scope.names.lookup y=some .cell\/scope.names.lookup y=some .free:=hy;rcases hy with hy|hy
  ·exact yW hy
  ·exact absurd rfl (S.nofree _ (E2 hy))
 ·exact N1 (x.above y c (E2 h))
 ·have hi:i<vs.length:=by
   unfold yZ at h2
   by_cases hi:i<vs.length
   ·exact hi
   ·rw [aC (by simpa using hi)] at h2;rw [aW] at h2;split at h2<;>cases h2
  have ha:vs[i]? =some v:=by
   unfold yZ at h2;rw [K6 (by simpa using hi),P7] at h2;cases e:vs[i]? with
   |none=>rw [e] at h2;cases h2
   |some a=>rw [e] at h2;cases h2;rfl
  obtain⟨u,hu,rv⟩:=r.get ha;have hp:ps[i]? =some y:=by
   rw [<-S.pre,List.getElem?_take_of_lt (by omega)];exact h1
  have ndP:ps.Nodup:=by rw [<-S.pre];exact S.nd.sublist (List.take_sublist _ _)
  refine⟨u,rv,?_⟩;rcases S.par y (S0 hp) with k|k
  ·exact .inl ⟨k,Zo ndP hp hu k⟩
  ·obtain⟨c,e⟩:=yW (n:=s.heap.objs.size+1) k;refine .inr ⟨.inl k,c,e,?_⟩;have q:=x.cell y c e;rw [Zp ndP hp hu (by show scope.names.lookup y≠_;rw [k];decide)] at q;exact q
 ·exact e0.hok.fresh (N1 (x.above y c (E2 h)))
 ·unfold yZ;show _=N.length;rw [S1,G3,bV];omega
theorem MK {CX:CXT}{mg:Str->P5 G2}{base:N5}{f:G6}{name qual:Str}{params:Arguments}{body:G0 C3}{scope:L7}{dV kV doc pm cdv ct oc:G2}{an od:P5 G6}{osl:B3 (P5 G2)}{N ps:G0 Str}{sp:Sp}(lk:K.lookup f=some ⟨oc,od,.func (K2 name qual params body scope dV kV doc pm an cdv ct),osl⟩)(hcd:b9 K cdv qual=true)(S:FnScope N ps scope)
 (len: ∀vs H Q E,sp vs H Q E->vs.length=ps.length)
 (hbody: ∀ (A:M5) (outer:G0 Env) (s:G5) (H:Hp) (vs:G0 V) (Q:VK) (E:XK),Room k (A.deeper (aB qual scope s.heap.objs.size f cdv))->sp vs H Q E->
  ∃t,PSs (Xs CX P w K mg base N qual scope f cdv A outer s H E) body t/\t {nx:=λ_ H'=>Q .non H',rt:=Q} (yZ N vs) H):
 FnOk P w K mg base CX (k+1) f (K2 name qual params body scope dV kV doc pm an cdv ct) ps sp:=by
 refine⟨len,λA outer s H args us vs Q E hr e0 hb r hsp=> ?_⟩;have hl:=len _ _ _ _ hsp;have KX:K.In s.heap:=e0.mod.kin.keeps λb o e=>(e0.bs b o e).1
 have lim:s.heap.NoLimit:=e0.mod.nolimit.keeps λb o e=>(e0.bs b o e).1
 have hkind: ∀y∈ps.zip us,scope.names.lookup y.1=some .local\/(scope.names.lookup y.1=some .cell/\((F4 (s.heap.objs.size+1) scope.names []).lookup y.1).isSome=true):=λ⟨n,v⟩ hy=>by
  rcases S.par n (bR hy).1 with q|q
  ·exact .inl q
  ·exact .inr ⟨q,bF _ _ _ (.inl q)⟩
 refine codeAny_call_function hr.depth (KX _ _ lk) rfl S.co S.gen rfl (kM KX hcd) (hb _ _ _ _ ?_);refine wpAny_newFunctionEnv_cells S.kind hkind λenv he s1 x=> ?_
 subst he;refine⟨lim.keeps x.toInCall.keep,codeAny_func ?_⟩;obtain⟨t,ht,hq⟩:=hbody A outer s H vs Q E (hr.deeper _) hsp;have I:Inv (Xs CX P w K mg base N qual scope f cdv A outer s H E) [] (yZ N vs) H s1:=VA S hr.hd e0 hl r x;refine T3 (ht [] s1 (yZ N vs) H _ I hq) (λfl s' hs=> ?_) λe s' hs=>hs
 have fin: ∀ {mB:St} {H':Hp} {v:V} {u:G2},Inv (Xs CX P w K mg base N qual scope f cdv A outer s H E) [] mB H' s'->RelV v u->Q v H'->CE outer P w H s Q u s':=
  λ{mB H' v u} J rv q=>⟨v,H',J.os,J.bare,J.base,J.hok,rv,q⟩
 cases fl with
 |ret u=>
  obtain⟨v,mB,H',J,rv,q⟩:=hs;exact fin J rv q
 |next=>
  obtain⟨mB,H',J,q⟩:=hs;exact fin (v:=V.non) (u:=cX) J rfl q
 |brk=>
  obtain⟨_,_,_,q⟩:=hs;exact False.elim q
 |cont=>
  obtain⟨_,_,_,q⟩:=hs;exact False.elim q
section
variable {X:Cx}{x:Str}{p pos:Pos}{e:D8}{es:G0 D8}{t:TA}{id T:O1}{r:G0 V->Hp->VK->Prop}
def tCB (r:G0 V->Hp->VK->Prop)(t:TA):TE:=λσ H Q=>t σ H λvs H1=>r vs H1 Q
theorem Ya (hc:CallR X (.builtin id) r)(hg:Gl X x)(hm:X.mg x=none)(hv:C5 x=some (.builtin id))(ha:PA X (e::es) t)(hn:x≠ "__name__" :=by decide)(hdb:(x==("__debug__" :Str))=false:=by decide)
 (he:P8 (e::es) X.env=(false,B6 e X.env)::P8 es X.env:=by rfl)(hpl:(H0 pos (P8 es X.env)).any (·.1)=false:=by rfl):PE X (.Call (.Name x p) (e::es) [] pos) (tCB r t):=by
 intro pins s σ H Q I h;refine aA (Zj I hg hm hv ?_ hn hdb);exact eI (thn (ha pos pins s σ H _ I h) λus s1 ⟨vs,H1,I1,r1,q1⟩=>hc pins s1 σ H1 vs us Q I1 r1 q1) he hpl
theorem VB (hc:CallR X (.type T) r)(hg:Gl X x)(hm:X.mg x=none)(hv:C5 x=some (.type T))(ha:PA X (e::es) t)(hn:x≠ "__name__" :=by decide)(hdb:(x==("__debug__" :Str))=false:=by decide)
 (he:P8 (e::es) X.env=(false,B6 e X.env)::P8 es X.env:=by rfl)(hpl:(H0 pos (P8 es X.env)).any (·.1)=false:=by rfl):PE X (.Call (.Name x p) (e::es) [] pos) (tCB r t):=by
 intro pins s σ H Q I h;refine aA (Zj I hg hm hv ?_ hn hdb);exact J7 (thn (ha pos pins s σ H _ I h) λus s1 ⟨vs,H1,I1,r1,q1⟩=>hc pins s1 σ H1 vs us Q I1 r1 q1) he hpl
end
end L2
namespace HT
open PySem PyProof.Rows
section
variable {prog:S2}{w:M6}{A:M5}{E:G2->G5->Prop}{s:G5}
theorem Gd {t b:G6}{vs ws:G0 G2}{Q:G2->G5->Prop}(ht:iW s.heap t vs.toArray)(hb:iW s.heap b ws.toArray)(hv:vs≠ [])
 (h1:ws= []->Q (.ref t) s)(h2:ws≠ []->Q (.ref s.heap.objs.size) {s with heap:=s.heap.push {cls:= .type "tuple",data:= .seq (vs++ws).toArray}})
 (hsz:vs.length+ws.length<=sizeLine):D7 (R1 prog w) A (B7 .Add (.ref t) (.ref b)) Q E s:=by
 obtain⟨⟨cls,dd,data,sl⟩,ho,hc,n,hd⟩:=id ht;obtain⟨⟨cls2,dd2,data2,sl2⟩,ho2,hc2,n2,hd2⟩:=id hb;simp only at hc hd hc2 hd2;subst hc hd hc2 hd2;have e:vs.toArray++ws.toArray=(vs++ws).toArray:=by simp
 by_cases hw:ws= []
 ·exact dI ⟨_,ho,rfl⟩ ⟨_,ho2,rfl⟩ aX cT V4 U9 (Q4 _ _)
   (tuple_addW1 t b vs.toArray ws.toArray n n2 dd dd2 sl sl2 (by simpa using hv) (by simp [hw])) ⟨ho,ho2,h1 hw⟩
 ·refine dI ⟨_,ho,rfl⟩ ⟨_,ho2,rfl⟩ aX cT V4 U9 (Q4 _ _)
   (tuple_addW2 t b vs.toArray ws.toArray n n2 dd dd2 sl sl2 (by simpa using hv) (by simpa using hw) (by rw [P1,P1];exact hsz)) ⟨ho,ho2,?_⟩
  rw [e];exact h2 hw
def sIx (n d:P0):P5 G8->P0
 |none=>d
 |some v=>if v<0 then (v+(n:G8)).toNat else min v.toNat n
theorem DB (n d:P0)(hd:d<=n)(o:P5 G8):sIx n d o<=n:=by
 cases o with
 |none=>exact hd
 |some v=>
  show (if v<0 then (v+(n:G8)).toNat else min v.toNat n)<=n
  by_cases hv:v<0
  ·rw [R3 hv];omega
  ·rw [S4 hv];exact eJ _ _
theorem VC (v:G8)(n d:P0):(if v<0 then max (v+(n:G8)) 0 else min v (n:G8))=((sIx n d (some v):P0):G8):=by
 show (if v<0 then max (v+(n:G8)) 0 else min v (n:G8))=(((if v<0 then (v+(n:G8)).toNat else min v.toNat n):P0):G8)
 by_cases hv:v<0
 ·simp only [R3 hv];omega
 ·simp only [S4 hv];omega
theorem YD (lo hi:P5 G8)(n:P0):K7 lo hi 1 (n:G8)=(((sIx n 0 lo:P0):G8),((sIx n n hi:P0):G8)):=by
 have h1: ¬ ((1:G8)<0):=by omega
 unfold K7;simp only [h1,cA];refine Prod.ext ?_ ?_
 ·cases lo with
  |none=>rfl
  |some v=>exact VC v n 0
 ·cases hi with
  |none=>rfl
  |some v=>exact VC v n n
theorem YE (i j:P0):A0 (i:G8) (j:G8) 1=j-i:=by
 unfold A0;have h1:(1:G8)>0:=by omega
 simp only [h1,aP,Int.ediv_one];split<;>omega
theorem vQ {v:G2}{o:P5 G8}{Q:P5 G8->G5->Prop}(p:bG v o)(h:Q o s):D7 (R1 prog w) A (fJ v) Q E s:=by
 cases p with
 |none=>exact gI h
 |int i t=>exact slicePart_int h
theorem zV {sl:G6}{vl vu:G2}{lo hi:P5 G8}{n:P0}{Q:G8×G8×P0->G5->Prop}(hs:s.heap.IsSliceOf sl vl vu .none)(pl:bG vl lo)(pu:bG vu hi)
 (h:Q (((sIx n 0 lo:P0):G8),1,sIx n n hi-sIx n 0 lo) s):D7 (R1 prog w) A (aD (.ref sl) (pure (n:G8))) Q E s:=by
 obtain⟨os,hos,hcs,hds⟩:=id hs;unfold aD gS;refine wpAny_bind (wpAny_bind (V0 hos hds (x:=vl) rfl (wpAny_bind (V0 hos hds (x:=vu) rfl (wpAny_bind (V0 hos hds (x:= .none) rfl (G9 ?_)))))));refine wpAny_bind (gI ?_);show D7 _ _ (if ((1:G8)==0)=true then _ else _) _ _ s;rw [S4 (by decide)];refine wpAny_bind (vQ pl (wpAny_bind (vQ pu (wpAny_bind (G9 ?_)))));show D7 _ _ (match K7 lo hi 1 (n:G8) with|(lo,hi)=>pure (lo,(1:G8),A0 lo hi 1)) _ _ s;rw [YD lo hi n];show D7 _ _ (pure (((sIx n 0 lo:P0):G8),(1:G8),A0 ((sIx n 0 lo:P0):G8) ((sIx n n hi:P0):G8) 1)) _ _ s;rw [YE];exact G9 h
theorem Xt (xs:B3 G2)(i k:P0):((D3 k).filterMap λ(m:P0)=>xs[((i:G8)+(m:G8)*1).toNat]?).toArray=((xs.toList.drop i).take k).toArray:=by
 have e:(λ(m:P0)=>xs[((i:G8)+(m:G8)*1).toNat]?)=λm=>xs[i+m]? :=by
  funext m
  have:((i:G8)+(m:G8)*1).toNat=i+m:=by omega
  rw [this]
 rw [e];have:=pick_run xs i k;rw [List.filterMap_map] at this;have e2:((λx=>xs[x]?)∘λx=>i+x)=λm=>xs[i+m]? :=rfl
 rw [e2] at this;rw [this]
theorem yo {t sl:G6}{items:B3 G2}{vl vu:G2}{lo hi:P5 G8}{Q:G2->G5->Prop}(ht:iW s.heap t items)(hs:s.heap.IsSliceOf sl vl vu .none)(pl:bG vl lo)(pu:bG vu hi)
 (hw: ¬ (sIx items.size 0 lo=0/\sIx items.size items.size hi=items.size))
 (h:Q (.ref s.heap.objs.size) {s with heap:=s.heap.push {cls:= .type "tuple",data:= .seq ((items.toList.drop (sIx items.size 0 lo)).take (sIx items.size items.size hi-sIx items.size 0 lo)).toArray}})
 (hsz:items.size<=sizeLine):D7 (R1 prog w) A (aQ (.ref t) (.ref sl)) Q E s:=by
 have htake:sizeOk (.seq ((items.toList.drop (sIx items.size 0 lo)).take (sIx items.size items.size hi-sIx items.size 0 lo)).toArray):=by
  show ((items.toList.drop (sIx items.size 0 lo)).take (sIx items.size items.size hi-sIx items.size 0 lo)).toArray.size<=sizeLine;rw [P1,B0,K3,K8];omega
 have hj:sIx items.size items.size hi<=items.size:=DB _ _ (D0 _) hi;obtain⟨os,hos,hcs,hds⟩:=id hs;have hTs:s.TypeIs (.ref sl) "slice" :=⟨os,hos,hcs⟩;unfold aQ
 try with_reducible refine O5 ?_
 first|refine wpAny_bind (G9 ?_)|skip
 refine wpAny_bind (dJ ht.typeIs (by decide) ?_);refine wpAny_bind (E4 (name:=V5 "__getitem__") ht.typeIs F7
  (B1 F7 ht.typeIs cO ?_ (cZ _ _)))
 show D7 _ _ (O8 (.ref t) >>= _) _ _ s;refine wpAny_bind (gX ht ?_);refine wpAny_bind (Z1 hTs ?_);rw [R3 (by decide)];refine wpAny_bind (zV hs pl pu ?_);have hno: ¬ ((((sIx items.size 0 lo:P0):G8)==0&&(1:G8)==1&&(sIx items.size items.size hi-sIx items.size 0 lo)==items.size)=true):=by
  intro q;rw [O7,O7] at q;have q1:((sIx items.size 0 lo:P0):G8)=0:=eq_of_beq q.1.1;have q2:sIx items.size items.size hi-sIx items.size 0 lo=items.size:=eq_of_beq q.2;exact hw ⟨by omega,by omega⟩
 show D7 _ _ (if (((sIx items.size 0 lo:P0):G8)==0&&(1:G8)==1&&(sIx items.size items.size hi-sIx items.size 0 lo)==items.size)=true then _ else _) _ _ s;rw [S4 hno,Xt]
 first
  |exact wpAny_bind (m:=A6 _) (F1 (G9 ⟨_,rfl,G9 h⟩) htake)
  |exact wpAny_bind (m:=A6 _) (F1 (wpAny_bind (G9 (G9 ⟨_,rfl,G9 h⟩))) htake)
  |exact wpAny_bind (wpAny_bind (m:=A6 _) (F1 (G9 (G9 ⟨_,rfl,G9 h⟩)) htake))
  |exact wpAny_bind (wpAny_bind (m:=A6 _) (F1 (G9 ⟨_,rfl,G9 h⟩) htake))
end
end HT
namespace L2
open PySem PySem.Spec PyProof.Rows
abbrev TO:=St->Hp->(P5 G8->Hp->Prop)->Prop
def PO (X:Cx)(e:P5 D8)(t:TO):Prop:=
 ∀ (pins:G0 (G6×Obj)) (s:G5) (σ:St) (H:Hp) (Q:P5 G8->Hp->Prop),Inv X pins σ H s->t σ H Q->
  D7 (R1 X.prog X.w) X.A (evalPart e X.env) (λu s'=> ∃o H',Inv X pins σ H' s'/\bG u o/\Q o H') X.xe s
def Ge:TO:=λ_ H Q=>Q none H
def ML (t:TE):TO:=λσ H Q=>t σ H λx H1=> ∃i,x= .int i/\Q (some i) H1
section
variable {X:Cx}{e:D8}{te:TE}{lo hi:P5 D8}{tl th:TO}{pos p2:Pos}
theorem po_none:PO X none Ge:=by
 intro pins s σ H Q I h;rw [cU];exact G9 ⟨none,H,I,.none,h⟩
theorem Gf (h:PE X e te):PO X (some e) (ML te):=by
 intro pins s σ H Q I hw;rw [gY];refine thn (h pins s σ H _ I hw) λu s1 ⟨x,H1,I1,r1,q1⟩=> ?_
 obtain⟨i,rfl,q⟩:=q1;obtain⟨t,rfl⟩:=r1;exact⟨some i,H1,I1,.int i t,q⟩
def SlR (X:Cx)(r:V->P5 G8->P5 G8->Hp->VK->Prop):Prop:=
 ∀ (pins:G0 (G6×Obj)) (s:G5) (σ:St) (H:Hp) (x:V) (v vl vu:G2) (lo hi:P5 G8) (sl:G6) (Q:VK),Inv X pins σ H s->RelV x v->s.heap.IsSliceOf sl vl vu .none->bG vl lo->bG vu hi->r x lo hi H Q->
  ∃T id,kO (.type T) "__getitem__" =pure (some (.builtin id))/\s.TypeIs v T/\D7 (R1 X.prog X.w) X.A (aQ v (.ref sl)) (EP X pins σ Q) X.xe s
theorem SlR.or {r r':V->P5 G8->P5 G8->Hp->VK->Prop}(h:SlR X r)(h':SlR X r'):SlR X (λx lo hi H Q=>r x lo hi H Q\/r' x lo hi H Q):=by
 intro pins s σ H x v vl vu lo hi sl Q I rx hs pl pu q;rcases q with q|q
 ·exact h pins s σ H x v vl vu lo hi sl Q I rx hs pl pu q
 ·exact h' pins s σ H x v vl vu lo hi sl Q I rx hs pl pu q
def tSl (r:V->P5 G8->P5 G8->Hp->VK->Prop)(te:TE)(tl th:TO):TE:=λσ H Q=>te σ H λx H1=>tl σ H1 λl H2=>th σ H2 λu H3=>r x l u H3 Q
theorem Xu {r:V->P5 G8->P5 G8->Hp->VK->Prop}(hr:SlR X r)(he:PE X e te)(hl:PO X lo tl)(hu:PO X hi th):PE X (.Subscript e (.Slice lo hi none p2) pos) (tSl r te tl th):=by
 intro pins s σ H Q I h;refine c7 (thn (he pins s σ H _ I h) λv s1 ⟨x,H1,I1,r1,q1⟩=> ?_);refine i7 (thn (hl pins s1 σ H1 _ I1 q1) λvl s2 ⟨l,H2,I2,pl,q2⟩=>thn (hu pins s2 σ H2 _ I2 q2) λvu s3 ⟨u,H3,I3,pu,q3⟩=> ?_);rw [cU];refine G9 ?_;have I4:Inv X pins σ H3 {s3 with heap:=s3.heap.push {cls:= .type "slice",data:= .fields #[vl,vu,.none]}}:=I3.kept (t':=s3.toks) λb ob q=>G7 _ q
 obtain⟨T,id,hT,ht,hg⟩:=hr pins {s3 with heap:=s3.heap.push {cls:= .type "slice",data:= .fields #[vl,vu,.none]}} σ H3 x v vl vu l u s3.heap.objs.size Q I4 r1 (Heap.IsSliceOf.new ..) pl pu q3;show D7 (R1 X.prog X.w) X.A (aT e (.Slice lo hi none p2) v (.ref s3.heap.objs.size)) (EP X pins σ Q) X.xe {s3 with heap:=s3.heap.push {cls:= .type "slice",data:= .fields #[vl,vu,.none]}};exact i8 (ops:= [.ref s3.heap.objs.size,v]) ht hT hg (by with_unfolding_all rfl)
def Xc (xs:G0 V)(lo hi:P5 G8):G0 V:=(xs.drop (HT.sIx xs.length 0 lo)).take (HT.sIx xs.length xs.length hi-HT.sIx xs.length 0 lo)
theorem va (xs:G0 V)(lo hi:P5 G8):(Xc xs lo hi).length<=xs.length:=by
 unfold Xc;rw [B0,K3];omega
def Bx (K:G1):V->P5 G8->P5 G8->Hp->VK->Prop:=λx lo hi H Q=> ∃a xs,x= .ref a/\SqT K H a xs/\
 ¬ (HT.sIx xs.length 0 lo=0/\HT.sIx xs.length xs.length hi=xs.length)/\ ∀p,H p=none->Q (.ref p) (upd H p (.tup (Xc xs lo hi)))
theorem sl_tup:SlR X (Bx X.K):=by
 intro pins s σ H x v vl vu lo hi sl Q I rx hs pl pu h;obtain⟨a,xs,rfl,hx,hw,q⟩:=h;cases rx;obtain⟨its,r,ht,hz⟩:=I.tuple hx;have hlen:its.toArray.size=xs.length:=by rw [P1];exact r.length.symm
 refine⟨"tuple",_,PyProof.Rows.slot_tuple_getitem.lookup,ht.typeIs,?_⟩;refine HT.yo ht hs pl pu (by rw [hlen];exact hw) ?_ (by rw [hlen];exact hz);rw [hlen];refine⟨.ref s.heap.objs.size,_,I.laid (t':=s.toks) (o:= .tup (Xc xs lo hi)) (λb ob q=>G7 _ q) (D0 _) ?_,rfl,q _ (I.hok.fresh (D0 _))⟩;exact⟨T8 (va xs lo hi) hz,_,(r.drop (HT.sIx xs.length 0 lo)).take (HT.sIx xs.length xs.length hi-HT.sIx xs.length 0 lo),IsTupN.new _ _⟩
def MM (K:G1):R2:=λx y H Q=> ∃a b xs ys,x= .ref a/\y= .ref b/\SqT K H a xs/\SqT K H b ys/\xs≠ []/\xs.length+ys.length<=sizeLine/\
 (ys= []->Q (.ref a) H)/\(ys≠ []-> ∀p,H p=none->Q (.ref p) (upd H p (.tup (xs++ys))))
theorem Vals.nil_iff {xs:G0 V}{us:G0 G2}(r:Vals xs us):us= []↔xs= []:=by
 cases r with
 |nil=>simp
 |cons _ _=>simp
theorem op_catT:OpR X (B7 .Add) (MM X.K):=by
 intro pins s σ H x y v u Q I rx ry h;obtain⟨a,b,xs,ys,rfl,rfl,ha,hb,hx,hz,q1,q2⟩:=h;cases rx;cases ry;obtain⟨its,r1,p1,_⟩:=I.tuple ha;obtain⟨its2,r2,p2,_⟩:=I.tuple hb;refine HT.Gd p1 p2 (λz=>hx (r1.nil_iff.mp z)) (λz=>⟨.ref a,H,I,rfl,q1 (r2.nil_iff.mp z)⟩) (λz=> ?_) (by rw [<-r1.length,<-r2.length];exact hz);refine⟨.ref s.heap.objs.size,_,I.laid (t':=s.toks) (o:= .tup (xs++ys)) (λb ob q=>G7 _ q) (D0 _) ?_,rfl,q2 (λw=>z (r2.nil_iff.mpr w)) _ (I.hok.fresh (D0 _))⟩;exact⟨by rw [S1];exact hz,_,r1.append r2,IsTupN.new _ _⟩
end
def ixN (n:P0)(i:G8):P5 P0:=if 0<=i then (if i<n then some i.toNat else none) else if-(n:G8)<=i then some (i+n).toNat else none
def atI {α:Type}(xs:G0 α)(i:G8):P5 α:=(ixN xs.length i).bind λj=>xs[j]?
theorem VD {n:P0}{i:G8}{j:P0}(h:ixN n i=some j):seqIndex? i n=some j/\j<n/\ -(n:G8)<=i/\i<n:=by
 unfold ixN at h
 by_cases h0:0<=i
 ·rw [R3 h0] at h
  by_cases h1:i<n
  ·rw [R3 h1] at h;have e:i.toNat=j:=M0 h;exact⟨by rw [fH h0 h1,e],by omega,by omega,h1⟩
  ·rw [S4 h1] at h;cases h
 ·rw [S4 h0] at h
  by_cases h1: -(n:G8)<=i
  ·rw [R3 h1] at h;have e:(i+n).toNat=j:=M0 h;exact⟨by rw [dL (by omega) h1,e],by omega,h1,by omega⟩
  ·rw [S4 h1] at h;cases h
theorem Wo {α:Type}{xs:G0 α}{i:G8}{v:α}(h:atI xs i=some v): ∃j,seqIndex? i xs.length=some j/\xs[j]? =some v/\j<xs.length/\ -(xs.length:G8)<=i/\i<xs.length:=by
 unfold atI at h;cases e:ixN xs.length i with
 |none=>rw [e] at h;cases h
 |some j=>
  rw [e] at h;obtain⟨h1,h2,h3,h4⟩:=VD e;exact⟨j,h1,h,h2,h3,h4⟩
theorem zn {α:Type}{xs:G0 α}{j:P0}{v:α}(h:xs[j]? =some v):atI xs (j:G8)=some v:=by
 have hj:j<xs.length:=(D1.mp h).1;have e:ixN xs.length (j:G8)=some j:=by
  unfold ixN;rw [R3 (by omega),R3 (by omega)];simp
 unfold atI;rw [e];exact h
def Jm (b:D8):Prop:= ∀o i,cB b false o i=lG [o,i] (aQ o i)
def IxR (X:Cx)(r:R2):Prop:=
 ∀ (value slice:D8) (pins:G0 (G6×Obj)) (s:G5) (σ:St) (H:Hp) (x y:V) (v u:G2) (Q:VK),Inv X pins σ H s->RelV x v->RelV y u->r x y H Q->
  cB slice false v u=lG [v,u] (aQ v u)->D7 (R1 X.prog X.w) X.A (aT value slice v u) (EP X pins σ Q) X.xe s
def MtR (X:Cx)(id:O1)(r:V->G0 V->Hp->VK->Prop):Prop:=
 ∀ (pins:G0 (G6×Obj)) (s:G5) (σ:St) (H:Hp) (x:V) (xs:G0 V) (v:G2) (us:G0 G2) (Q:VK),Inv X pins σ H s->RelV x v->Vals xs us->r x xs H Q->
  D7 (R1 X.prog X.w) X.A (call (.builtin id) (v::us)) (EP X pins σ Q) X.xe s
section
variable {X:Cx}{a b:D8}{ta tb:TE}{pos:Pos}
theorem IxR.or {r r':R2}(h:IxR X r)(h':IxR X r'):IxR X (λx y H Q=>r x y H Q\/r' x y H Q):=by
 intro value slice pins s σ H x y v u Q I rx ry q hs;rcases q with q|q
 ·exact h value slice pins s σ H x y v u Q I rx ry q hs
 ·exact h' value slice pins s σ H x y v u Q I rx ry q hs
theorem MN {r:R2}(hr:IxR X r)(ha:PE X a ta)(hb:PE X b tb)(hs:Jm b):PE X (.Subscript a b pos) (tOp r ta tb):=by
 intro pins s σ H Q I h;exact c7 (MD ha hb I h λv u s2 x y H2 I2 rx ry q=>hr a b pins s2 σ H2 x y v u Q I2 rx ry q (hs _ _))
def Bd (K:G1):R2:=λx y H Q=> ∃p xs i v,x= .ref p/\y= .int i/\SqL K H p xs/\atI xs i=some v/\Q v H
def Be (K:G1):R2:=λx y H Q=> ∃p xs i v,x= .ref p/\y= .int i/\SqT K H p xs/\atI xs i=some v/\Q v H
def Bf:R2:=λx y H Q=> ∃z i c,x= .str z/\y= .int i/\z.length<=sizeLine/\atI z.cps.toList i=some c/\Q (.str ⟨#[c]⟩) H
theorem ix_list:IxR X (Bd X.K):=by
 intro value slice pins s σ H x y v u Q I rx ry h hs;obtain⟨p,xs,i,z,rfl,rfl,hq,he,q⟩:=h;cases rx;obtain⟨t,rfl⟩:=ry;obtain⟨its,r,pl,hz⟩:=I.list hq;obtain⟨j,h1,h2,h3,h4,h5⟩:=Wo he;obtain⟨w,ew,rw'⟩:=r.get h2;have hl:=r.length;have hn:=Zl;have fin:EP X pins σ Q w s:=⟨z,H,I,rw',q⟩
 by_cases h0:0<=i
 ·have hj:i.toNat=j:=by
   rw [fH h0 h5] at h1;exact M0 h1
  exact item_listR pl.isList h0 (by omega) (by rw [hj];simpa using ew) fin hs
 ·have hj:(i+(its.toArray.size:G8)).toNat=j:=by
   rw [dL (by omega) h4] at h1;rw [P1,<-hl];exact M0 h1
  exact bH (x:=w) pl.isList.typeIs slot_list_getitem.lookup
   (wpAny_getItem_list_neg (Q:=λr s'=>r=w/\EP X pins σ Q r s') pl.isList (by omega) (by rw [P1]<;>omega) (by omega) (by rw [hj];simpa using ew) ⟨rfl,fin⟩) hs
theorem ix_tup:IxR X (Be X.K):=by
 intro value slice pins s σ H x y v u Q I rx ry h hs;obtain⟨p,xs,i,z,rfl,rfl,hq,he,q⟩:=h;cases rx;obtain⟨t,rfl⟩:=ry;obtain⟨its,r,pl,hz⟩:=I.tuple hq;obtain⟨j,h1,h2,h3,h4,h5⟩:=Wo he;obtain⟨w,ew,rw'⟩:=r.get h2;have hl:=r.length;have hn:=Zl;have fin:EP X pins σ Q w s:=⟨z,H,I,rw',q⟩;exact bH (x:=w) pl.typeIs slot_tuple_getitem.lookup
  (getItem_tuple (j:=j) (Q:=λr s'=>r=w/\EP X pins σ Q r s') pl (by omega) (by omega) (by rw [P1,<-hl];exact h1) (by simpa using ew) ⟨rfl,fin⟩) hs
theorem DD:IxR X Bf:=by
 intro value slice pins s σ H x y v u Q I rx ry h hs;obtain⟨z,i,c,rfl,rfl,hz,he,q⟩:=h;obtain⟨t,rfl⟩:=rx;obtain⟨t',rfl⟩:=ry;obtain⟨j,h1,h2,h3,h4,h5⟩:=Wo he;have hl:z.cps.toList.length=z.length:=by simp [Str.length]
 rw [hl] at h1 h4 h5;have hn:=Zl;exact i8 (kP s z t) slot_str_getitem.lookup (getItem_str (c:=c) (by
  have e1:decide (i< -(2^63:G8))=false:=N9 (by omega);have e2:decide (i>=2^63)=false:=N9 (by omega);rw [e1,e2,Bool.or_false]) (by rw [h1];simpa using h2) ⟨.str ⟨#[c]⟩,H,I.tok _,⟨_,rfl⟩,q⟩) hs
def rIx (K:G1):R2:=λx y H Q=>Bd K x y H Q\/Be K x y H Q\/Bf x y H Q
theorem DE:IxR X (rIx X.K):=ix_list.or (ix_tup.or DD)
theorem YF (its:G0 G2)(n j:P0)(u:G2):A7 (·.setIfInBounds j u) {cls:= .type "list",data:= .seq its.toArray n}= {cls:= .type "list",data:= .seq (its.set j u).toArray n}:=by
 simp [A7]
theorem Inv.lst {pins:G0 (G6×Obj)}{σ:St}{H:Hp}{s:G5}{p:G6}{xs:G0 V}(I:Inv X pins σ H s)(h:H p=some (.lst xs)):
 ∃ (its:G0 G2) (n:P0),Vals xs its/\s.heap.get? p=some {cls:= .type "list",data:= .seq its.toArray n}/\xs.length<=sizeLine:=by
 obtain⟨z,its,n,r,e⟩:=I.hok p _ h;exact⟨its,n,r,e,z⟩
theorem Inv.lstUpd {pins:G0 (G6×Obj)}{σ:St}{H:Hp}{s:G5}{p:G6}{xs ys:G0 V}{its its':G0 G2}{n n':P0}{f:Obj->Obj}(I:Inv X pins σ H s)(h:H p=some (.lst xs))
 (ho:s.heap.get? p=some {cls:= .type "list",data:= .seq its.toArray n})(hf:f {cls:= .type "list",data:= .seq its.toArray n}= {cls:= .type "list",data:= .seq its'.toArray n'})(r:Vals ys its')(hz:ys.length<=sizeLine)(t:P0):
 Inv X pins σ (upd H p (.lst ys)) {s with heap:=s.heap.update p f,toks:=t}:=by
 have e:(s.heap.update p f).get? p=some {cls:= .type "list",data:= .seq its'.toArray n'}:=by
  rw [Heap.get?_update_self f ho (by rw [hf]<;>rfl),hf]
 refine I.write (x:=p) (e:=p) (by rw [h];trivial) (.inl rfl) (λb u hb q=>(V6 _ _ (C6 hb)).trans q) ⟨_,e⟩ ?_;exact⟨hz,its',n',r,e⟩
def MO:V->V->V->Hp->(Hp->Prop)->Prop:=λo i v H Q=> ∃p xs k j,o= .ref p/\i= .int k/\H p=some (.lst xs)/\ixN xs.length k=some j/\Q (upd H p (.lst (xs.set j v)))
theorem Xv:NU X MO:=by
 intro pins s σ H o i v ov iv u Q I ro ri rv h;obtain⟨p,xs,k,j,rfl,rfl,hp,hj,q⟩:=h;cases ro;obtain⟨t,rfl⟩:=ri;obtain⟨its,n,r,ho,hz⟩:=I.lst hp;obtain⟨h1,h2,h3,h4⟩:=VD hj;have hl:=r.length;have hn:=Zl;have I':Inv X pins σ (upd H p (.lst (xs.set j v))) {s with heap:=s.heap.update p (A7 (·.setIfInBounds j u))}:=
  I.lstUpd hp ho (YF its n j u) (r.set rv j) (by rw [fK];exact hz) s.toks
 by_cases h0:0<=k
 ·have hk:k.toNat=j:=by
   rw [fH h0 h4] at h1;exact M0 h1
  exact lM ho h0 (by omega) (by rw [P1,<-hl];exact h4) (by rw [hk];exact⟨_,I',q⟩)
 ·have hk:(k+(its.toArray.size:G8)).toNat=j:=by
   rw [dL (by omega) h3] at h1;rw [P1,<-hl];exact M0 h1
  exact kQ ho (by omega) (by rw [P1,<-hl];exact h3) (by omega) (by rw [hk];exact⟨_,I',q⟩)
theorem Zq (lo hi:P5 G8)(n:P0):(V1 lo hi none n).1=((HT.sIx n 0 lo:P0):G8)/\(V1 lo hi none n).2.1=((HT.sIx n n hi:P0):G8)/\(V1 lo hi none n).2.2=1:=by
 refine⟨?_,?_,rfl⟩
 ·cases lo with
  |none=>simp [V1,HT.sIx]
  |some i=>
   simp only [V1,HT.sIx,eM,show (1:G8)>0 by decide,aP]
   by_cases h:i<0
   ·simp only [h,aP]<;>omega
   ·simp only [h,cA]<;>omega
 ·cases hi with
  |none=>simp [V1,HT.sIx]
  |some i=>
   simp only [V1,HT.sIx,eM,show (1:G8)>0 by decide,aP]
   by_cases h:i<0
   ·simp only [h,aP]<;>omega
   ·simp only [h,cA]<;>omega
theorem Jn (its:G0 G2)(lo hi:P5 G8):slicePick its.toArray lo hi none=((its.drop (HT.sIx its.length 0 lo)).take (HT.sIx its.length its.length hi-HT.sIx its.length 0 lo)).toArray:=by
 obtain⟨h1,h2,h3⟩:=Zq lo hi its.toArray.size;unfold slicePick;rw [h1,h2,h3];simp only [sliceRange_one,pick_run,P1]<;>rfl
def By (K:G1):V->P5 G8->P5 G8->Hp->VK->Prop:=λx lo hi H Q=> ∃a xs,x= .ref a/\SqL K H a xs/\ ∀p,H p=none->Q (.ref p) (upd H p (.lst (Xc xs lo hi)))
theorem Gg:SlR X (By X.K):=by
 intro pins s σ H x v vl vu lo hi sl Q I rx hs pl pu h;obtain⟨a,xs,rfl,hx,q⟩:=h;cases rx;obtain⟨its,r,ht,hz⟩:=I.list hx;have hlen:=r.length;refine⟨"list",_,slot_list_getitem.lookup,ht.isList.typeIs,?_⟩;refine aU ht.isList hs pl pu .none (by simp) ?_ (by rw [P1]<;>omega);rw [Jn,<-hlen];refine⟨.ref s.heap.objs.size,_,I.laid (t':=s.toks) (o:= .lst (Xc xs lo hi)) (λb ob q=>G7 _ q) (D0 _) ?_,rfl,q _ (I.hok.fresh (D0 _))⟩;exact⟨T8 (va xs lo hi) hz,_,0,(r.drop (HT.sIx xs.length 0 lo)).take (HT.sIx xs.length xs.length hi-HT.sIx xs.length 0 lo),D4 _ rfl⟩
theorem call_len_seq:CallR X (.builtin "len") (λxs H Q=> ∃p ys,xs= [.ref p]/\(SqL X.K H p ys\/SqT X.K H p ys)/\Q (.int ys.length) H):=by
 intro pins s σ H xs us Q I r h;obtain⟨p,ys,rfl,hq,q⟩:=h;obtain⟨u,rfl,rx⟩:=Jl r;cases rx;have hn:=Zl;rcases hq with hq|hq
 ·obtain⟨its,r',pl,hz⟩:=I.list hq;have hlen:=r'.length;exact Calls.call_len_list pl.isList (by simp only [P1]<;>omega) ⟨.int ys.length,H,I.tok _,⟨s.toks+1,by rw [P1,hlen]⟩,q⟩
 ·obtain⟨its,r',pl,hz⟩:=I.tuple hq;have hlen:=r'.length;exact len_tuple pl (by simp only [P1]<;>omega) ⟨.int ys.length,H,I.tok _,⟨s.toks+1,by rw [P1,hlen]⟩,q⟩
theorem call_tuple_of:CallR X (.type "tuple") (λxs H Q=> ∃p ys,xs= [.ref p]/\((SqL X.K H p ys/\ ∀l,H l=none->Q (.ref l) (upd H l (.tup ys)))\/(SqT X.K H p ys/\Q (.ref p) H))):=by
 intro pins s σ H xs us Q I r h;obtain⟨p,ys,rfl,h⟩:=h;obtain⟨u,rfl,rx⟩:=Jl r;cases rx;rcases h with ⟨hq,q⟩|⟨hq,q⟩
 ·obtain⟨its,r',pl,hz⟩:=I.list hq;have hlen:=r'.length;refine call_tuple_list pl.isList (λh' kp=> ?_) (by simp only [P1]<;>omega);have I1:Inv X pins σ H {s with heap:=h'}:=I.kept (t':=s.toks) kp;have I2:Inv X pins σ (upd H h'.objs.size (.tup ys)) {s with heap:=h'.push {cls:= .type "tuple",data:= .seq its.toArray}}:=
   I1.laid (t':=s.toks) (λb o e=>G7 _ e) (D0 _) (show ObjOk X.prog X.w _ _ _ (.tup ys) from ⟨hz,its,r',IsTupN.new _ _⟩)
  exact⟨.ref h'.objs.size,_,I2,rfl,q _ (I1.hok.fresh (D0 _))⟩
 ·obtain⟨its,r',pl,hz⟩:=I.tuple hq;exact call_tuple_same pl ⟨.ref p,H,I,rfl,q⟩
def tyV (K:G1)(T:O1)(x:V)(H:Hp):Prop:=match x with
 | .str _=>T= "str"
 | .int _=>T= "int"
 | .ref p=>(T= "list" /\ ∃xs,SqL K H p xs)\/(T= "tuple" /\ ∃o,K.lookup p=some o/\o.cls= .type "tuple" /\o.dict=none)\/
  (T= "dict" /\((∃kvs,H p=some (.dK kvs))\/ ∃kvs,H p=some (.dT kvs)))\/(T= "set" /\ ∃S n,H p=some (.set S n))
 |_=>False
theorem DF {pins:G0 (G6×Obj)}{σ:St}{H:Hp}{s:G5}{T:O1}{x:V}{v:G2}(I:Inv X pins σ H s)(r:RelV x v)(ty:tyV X.K T x H):
 s.TypeIs v T/\ ∀a,v= .ref a-> ∃ob,s.heap.get? a=some ob/\ob.dict=none:=by
 cases x with
 |str z=>
  obtain⟨t,rfl⟩:=r;cases (show T= "str" from ty);exact⟨kP s z t,λ_ e=>nomatch e⟩
 |int i=>
  obtain⟨t,rfl⟩:=r;cases (show T= "int" from ty);exact⟨bI s i t,λ_ e=>nomatch e⟩
 |ref p=>
  cases r;rcases ty with ⟨rfl,xs,hq⟩|⟨rfl,o,hk,hc,hd⟩|⟨rfl,hk⟩|⟨rfl,S,n,hk⟩
  ·obtain⟨its,_,pl,_⟩:=I.list hq;refine⟨pl.isList.typeIs,λa e=> ?_⟩;cases e;obtain⟨o,n,e,c,hd,_⟩:=pl;exact⟨o,e,hd⟩
  ·refine⟨⟨o,I.kIn p o hk,hc⟩,λa e=> ?_⟩;cases e;exact⟨o,I.kIn _ o hk,hd⟩
  ·have z: ∃o,s.heap.get? p=some o/\o.ExactDict:=by
    rcases hk with ⟨kvs,hk⟩|⟨kvs,hk⟩
    ·obtain⟨_,_,_,_,o,_,_,e,ex,_⟩:=I.hok p _ hk;exact⟨o,e,ex⟩
    ·obtain⟨_,_,_,_,o,_,_,e,ex,_⟩:=I.hok p _ hk;exact⟨o,e,ex⟩
   obtain⟨o,e,ex⟩:=z;refine⟨⟨o,e,ex.1⟩,λa e2=> ?_⟩;cases e2;exact⟨o,e,ex.2.1⟩
  ·obtain⟨o,_,_,_,e,ex,_⟩:=I.hok p _ hk;refine⟨⟨o,e,ex.1⟩,λa e2=> ?_⟩;cases e2;exact⟨o,e,ex.2.1⟩
 |_=>exact False.elim ty
def tBM (K:G1)(T:O1)(r:V->G0 V->Hp->VK->Prop)(to:TE)(t:TA):TE:=λσ H Q=>to σ H λx H1=>tyV K T x H1/\t σ H1 λxs H2=>r x xs H2 Q
variable {o e:D8}{es:G0 D8}{to:TE}{t:TA}{name:Str}{apos cpos:Pos}{T id:O1}{r:V->G0 V->Hp->VK->Prop}
theorem Gh (pa:PlainAttrs T)(slot:Slot T name id)(hty:typeOf (.builtin id)=pure (.type "method_descriptor"))(hm:MtR X id r)(ho:PE X o to)(ha:PA X (e::es) t)
 (hbase:A8 o name X.env (B6 o X.env)=B6 o X.env:=by rfl)
 (hfew:((H0 cpos (P8 (e::es) X.env)).all (λx=> !x.1)&&(cC cpos (X6 [] X.env)).all (λx=>x.1.isSome)
  &&decide ((e::es).length+([]:G0 V7).length+(if ([]:G0 V7).isEmpty then 0 else 1)<30))=true:=by rfl)
 (hline:(apos.endLine==cpos.line)=true:=by rfl)(hs:P8 (e::es) X.env=(false,B6 e X.env)::P8 es X.env:=by rfl)(hplain:(H0 cpos (P8 es X.env)).any (·.1)=false:=by rfl):
 PE X (.Call (.Attribute o name apos) (e::es) [] cpos) (tBM X.K T r to t):=by
 intro pins s σ H Q I h;refine wpAny_Call_method_late hbase hfew hline rfl (thn (ho pins s σ H _ I h) λv s1 ⟨x,H1,I1,r1,ty,q1⟩=> ?_);obtain⟨h1,h2⟩:=DF I1 r1 ty;refine⟨T,id,pa,slot,hty,h1,h2,?_⟩;have hA:=ha cpos pins s1 σ H1 _ I1 q1;rw [hs] at hA ⊢;refine Calls.callWith_builtin (by show (false||(H0 cpos (P8 es X.env)).any (·.1))=false;rw [hplain]<;>rfl) (Calls.evalArgs_plain ?_);exact thn hA λus s2 ⟨vs,H2,I2,r2,q2⟩=>hm pins s2 σ H2 x vs v us Q I2 r1 r2 q2
end
def MtM (X:Cx)(id:O1)(r:V->G0 V->Hp->VK->Prop):Prop:=
 ∀ (pins:G0 (G6×Obj)) (s:G5) (σ:St) (H:Hp) (x:V) (xs:G0 V) (v:G2) (us:G0 G2) (Q:VK),Inv X pins σ H s->RelV x v->Vals xs us->r x xs H Q->
  D7 (R1 X.prog X.w) X.A (call (.builtin id) (v::us)) (EP X pins σ Q) X.xe s
theorem Vals.one: ∀ {x:V} {us:G0 G2},Vals [x] us-> ∃u,us= [u]/\RelV x u
 |_,_,.cons r .nil=>⟨_,rfl,r⟩
theorem Vals.rep {xs:G0 V}{us:G0 G2}(h:Vals xs us): ∀k:P0,Vals (D5 k xs).flatten (D5 k us).flatten
 |0=> .nil
 |k+1=>by
  rw [F5,F5,A4,A4];exact Vals.append h (Vals.rep h k)
theorem vb (its:G0 G2): ∀ (k:P0) (acc:G0 G2),
 gJ (λx1 x2=>x1++x2) acc.toArray (D5 k its.toArray)=(acc++(D5 k its).flatten).toArray
 |0,acc=>by simp
 |k+1,acc=>by
  have e:acc.toArray++its.toArray=(acc++its).toArray:=by simp
  have e2:(acc++its)++(D5 k its).flatten=acc++(D5 (k+1) its).flatten:=by
   rw [F5,A4,J8]
  rw [<-e2,<-vb its k (acc++its),<-e,F5,List.foldl_cons]
section
variable {X:Cx}{pins:G0 (G6×Obj)}{σ:St}{H:Hp}{s:G5}{l b:G6}{xs ys zs:G0 V}
theorem Inv.lset {its its':G0 G2}{n:P0}{f:B3 G2->B3 G2}{t':P0}(I:Inv X pins σ H s)(hH:H l=some (.lst xs))
 (e:s.heap.get? l=some {cls:= .type "list",data:= .seq its.toArray n})(hf:f its.toArray=its'.toArray)(hv:Vals ys its')(hz:ys.length<=sizeLine):
 Inv X pins σ (upd H l (.lst ys)) {s with heap:=s.heap.update l (A7 f),toks:=t'}:=by
 have q:=PySem.IsL.update e f;rw [hf] at q;refine I.write (x:=l) (e:=l) (by rw [hH];exact trivial) (.inl rfl) (λb' u hb hu=>(V6 s.heap (A7 f) (C6 hb)).trans hu) ⟨_,q⟩ ?_;exact⟨hz,its',_,hv,q⟩
theorem Inv.lnew {its:G0 G2}{t':P0}(I:Inv X pins σ H s)(hv:Vals ys its)(hz:ys.length<=sizeLine):
 Inv X pins σ (upd H s.heap.objs.size (.lst ys)) {s with heap:=s.heap.push {cls:= .type "list",data:= .seq its.toArray},toks:=t'}:=
 I.laid (λ_ _ q=>G7 _ q) (D0 _) ⟨hz,its,0,hv,D4 _ rfl⟩
theorem Inv.fresh (I:Inv X pins σ H s):H s.heap.objs.size=none:=I.hok.fresh (D0 _)
theorem Inv.lstM (I:Inv X pins σ H s)(hH:H l=some (.lst xs)):xs.length<=sizeLine/\ ∃ (its:G0 G2) (n:P0),Vals xs its/\xs.length=its.length/\s.heap.get? l=some {cls:= .type "list",data:= .seq its.toArray n}:=by
 obtain⟨z,its,n,r,e⟩:=I.hok l _ hH;exact⟨z,its,n,r,r.length,e⟩
theorem Yb {n:P0}(h:n<=sizeLine):A9 n=false:=by
 unfold A9;exact N9 (by omega)
end
section
variable {X:Cx}
def Gi:V->G0 V->Hp->VK->Prop:=λx vs H Q=> ∃l xs y,x= .ref l/\vs= [y]/\H l=some (.lst xs)/\xs.length<sizeLine/\Q .non (upd H l (.lst (xs++ [y])))
theorem VE:MtM X "list.append" Gi:=by
 intro pins s σ H x vs v us Q I rx rv h;obtain⟨l,xs,y,rfl,rfl,hH,hz,q⟩:=h;cases rx;obtain⟨u,rfl,ru⟩:=rv.one;obtain⟨z,its,n,r,hl,e⟩:=I.lstM hH;refine bJ F.slot_list_append ⟨_,e,rfl⟩ F.entry_list_append (F.args_list_append_2 _ _) (PySem.list_append l its.toArray n u (by rw [P1];omega)) ⟨e,?_⟩;refine⟨.non,_,I.lset (its':=its++ [u]) hH e (by simp) (r.append (.cons ru .nil)) ?_,rfl,q⟩;rw [S1,List.length_singleton];omega
def Gj:V->G0 V->Hp->VK->Prop:=λx vs H Q=> ∃l b xs zs,x= .ref l/\vs= [.ref b]/\H l=some (.lst xs)/\H b=some (.lst zs)/\xs.length+zs.length<=sizeLine/\Q .non (upd H l (.lst (xs++zs)))
theorem VF:MtM X "list.extend" Gj:=by
 intro pins s σ H x vs v us Q I rx rv h;obtain⟨l,b,xs,zs,rfl,rfl,hH,hB,hz,q⟩:=h;cases rx;obtain⟨u,rfl,ru⟩:=rv.one;cases ru;obtain⟨z,its,n,r,hl,e⟩:=I.lstM hH;obtain⟨z2,its2,n2,r2,hl2,e2⟩:=I.lstM hB;have hsz:its.toArray.size+its2.toArray.size<=sizeLine:=by rw [P1,P1];omega
 have hlong: ¬ (!its.toArray.isEmpty&&A9 (its.toArray.size+its2.toArray.size))=true:=by
  rw [Yb hsz,Bool.and_false];exact P3
 refine bJ F.slot_list_extend ⟨_,e,rfl⟩ F.entry_list_extend (F.args_list_extend_2 _ _)
  (AutoSeq1.list_extend_list_list_0 l its.toArray n b its2.toArray n2 hlong (by rw [P1];omega) (by omega)) ⟨e,e2,?_⟩
 refine⟨.non,_,I.lset (its':=its++its2) hH e (by simp) (r.append r2) ?_,rfl,q⟩;rw [S1];omega
def Bz:R2:=λx y H Q=> ∃l b xs zs,x= .ref l/\y= .ref b/\H l=some (.lst xs)/\H b=some (.lst zs)/\xs.length+zs.length<=sizeLine/\ ∀p,H p=none->Q (.ref p) (upd H p (.lst (xs++zs)))
theorem DG:OpR X (B7 .Add) Bz:=by
 intro pins s σ H x y v u Q I rx ry h;obtain⟨l,b,xs,zs,rfl,rfl,hH,hB,hz,q⟩:=h;cases rx;cases ry;obtain⟨z,its,n,r,hl,e⟩:=I.lstM hH;obtain⟨z2,its2,n2,r2,hl2,e2⟩:=I.lstM hB;refine PySem.P.add_list e e2 ?_ (by rw [P1,P1];omega);have ea:its.toArray++its2.toArray=(its++its2).toArray:=by simp
 rw [ea];exact⟨.ref _,_,I.lnew (t':=s.toks) (r.append r2) (by rw [S1];omega),rfl,q _ I.fresh⟩
def BA:R2:=λx y H Q=> ∃l k xs,x= .ref l/\y= .int k/\H l=some (.lst xs)/\ -(2^63)<=k/\k<2^63/\xs.length*k.toNat<=sizeLine/\
 ∀p,H p=none->Q (.ref p) (upd H p (.lst (D5 k.toNat xs).flatten))
theorem Wp {α:Type}(xs:G0 α)(k:P0):(D5 k xs).flatten.length=k*xs.length:=by
 induction k with
 |zero=>simp
 |succ k ih=>rw [F5,A4,S1,ih,iT,Nat.add_comm]
theorem DH:OpR X (B7 .Mult) BA:=by
 intro pins s σ H x y v u Q I rx ry h;obtain⟨l,k,xs,rfl,rfl,hH,h1,h2,hz,q⟩:=h;cases rx;obtain⟨t,rfl⟩:=ry;obtain⟨z,its,n,r,hl,e⟩:=I.lstM hH;have hlen:its.toArray.size*k.toNat<=sizeLine:=by rw [P1,<-hl];exact hz
 have hcap: ¬its.toArray.size*k.toNat>(2^63-1) / 8:=by
  have:(sizeLine:P0)<=(2^63-1) / 8:=by decide
  omega
 have hfit: ¬ (!aE k)=true:=by
  rw [gK h1 h2];exact P3
 have hlong: ¬A9 (its.toArray.size*k.toNat)=true:=by
  rw [Yb hlen];exact P3
 have hnew:gJ (λx1 x2=>x1++x2) #[] (D5 (if its.toArray.isEmpty=true then 0 else k.toNat) its.toArray)=(D5 k.toNat its).flatten.toArray:=by
  have f0: ∀m:P0,gJ (λx1 x2=>x1++x2) #[] (D5 m its.toArray)=(D5 m its).flatten.toArray:=λm=>by
   have:=vb its m [];rw [F6] at this;exact this
  rw [f0];cases its with
  |nil=>simp
  |cons a r'=>rw [S4 (by simp)]
 refine aK (T:= "list") (U:= "int") (by decide) ⟨_,e,rfl⟩ (λs'=>bI s' k t) noFill_list_mul fM Y1 repeat_list F.slot_int_index.lookup
  (bJ Y1 (bI s k t) eO (dM _ _) (int___rmul___int_list k t l its.toArray n)
   ⟨e,rfl,⟨_,e,rfl⟩,bJ F.slot_list_mul ⟨_,e,rfl⟩ F.entry_list_mul (F.args_list_mul_2 _ _) (AutoListH.list___mul___list_int_3 l its.toArray n k t hfit hcap hlong) ⟨e,?_⟩⟩)
 rw [hnew];exact⟨.ref _,_,I.lnew (t':=s.toks) (r.rep k.toNat) (by rw [Wp,dN];exact hz),rfl,q _ I.fresh⟩
end
end L2
namespace Att
open PySem PySem.W PySem.Calls PyProof.Rows
theorem vc {P:lY}{h:N5}: ∀ (ns:G0 G8) (vs:G0 G2),WellAll P h vs (ns.map WData.int)->Z2 vs ns:=by
 intro ns
 induction ns with
 |nil=>
  intro vs w;rw [E7] at w;cases w;exact .nil
 |cons n ns ih=>
  intro vs w;rw [R0] at w;cases w with
  |cons a b=>
   cases a;exact .cons _ _ (ih _ b)
theorem VG {l:OpenLaw}{n:P0}(hn:l.most=some n){P:lY}{h:N5}{args:G0 WData}{vals:G0 G2}
 (hpre:l.row.toRowW.claim.pre args=true)(hwl:WellAll P h vals args):
 ∃a vs ns,vals= [L6 a]/\args= [WData.list (ns.map WData.int)]/\h.get? a=some {cls:= .type "list",data:= .seq vs.toArray}/\Z2 vs ns/\ns.length<=n:=by
 have hsh:WShape.hasAll [] args [.list .int]=true:=(pre_splitW hpre).1;have hc:l.pre.holds [] {args:=args}=true:=(pre_splitW hpre).2;obtain⟨d,r,rfl,h1,h2⟩:=hasAllW_cons hsh;obtain rfl:=hasAllW_nil h2;obtain⟨xs,rfl,h3⟩:=hasW_list h1;obtain⟨ns,rfl⟩:=items_int h3;have hlen:ns.length<=n:=by
  unfold OpenLaw.pre at hc;have h4:(WTm.not (.lt (.lit (.int (n:G8))) (.len (.arg 0)))).holds [] {args:= [.list (ns.map .int)]}=true:=by
   have h4:=(holds_andW hc).1;rw [hn] at h4;exact h4
  have h5:=condW_of h4 (w_not (w_lt w_lit (w_len_list (w_arg rfl))));rw [G3] at h5;refine eQ λq=> ?_
  have q':(n:G8)<((ns.length:P0):G8):=by omega
  first
   |(rw [N3 q'] at h5;exact absurd h5 (by decide))
   |(simp at h5;omega)
 cases hwl with
 |cons w1 w2=>
  cases w2;cases w1 with
  |list ho hall=>exact⟨_,_,ns,rfl,rfl,ho,vc ns _ hall,hlen⟩
theorem VH (l:OpenLaw)(args:G0 WData):l.row.toRowW.claim.post args (.bool true) args=true:=
 postW_of (r:=l.row.toRowW) (X:=(true==true))
  (show WShape.has [] (.bool true) .bool=true by first|rfl|decide|simp [WShape.has,WShape.arms,WShape.armsAll])
  (show (WTm.eq .res (.lit (.bool true))).value [] {args:=args,res:=some (.bool true),after:=args}=some (.bool (true==true)) from w_eq_bool (w_res rfl) w_lit) rfl
theorem attach_call {l:OpenLaw}{n:P0}{q:S2}{loose:G0 Str}{XP:(Str->P5 G2)->N5->Prop}{YP:M6->N5->Prop}{d:DefRec}
 (hn:l.most=some n)(hdf:d.params.defaults= [])
 (call: ∀ (w:M6) (s₀ mD:G5) (mg mb:Str->P5 G2) (fa:G6) (o:Obj) (pm cd doc:G2) (a:G6) (vs:G0 G2) (ns:G0 G8),
  Ground q loose [] XP w s₀ mg mb mD.heap->YP w mD.heap->
  mD.heap.get? fa=some o->o.data= .func (docDef d.name d.params d.body d.scope pm cd doc)->mD.heap.CodeRec cd d.name->mg d.name=some (.ref fa)->
  mD.heap.get? a=some {cls:= .type "list",data:= .seq vs.toArray}->Z2 vs ns->ns.length<=n->mD.gens= #[]->
  Z0 (R1 l.prog w) cM (.call (.ref fa) ⟨[.ref a],[]⟩) (λr s'=>r= .ok (.ret (.bool true))/\OldK mD.heap s'.heap/\s'.os=mD.os/\aO s'.gens) mD):
 WalkO q loose XP YP l.row.toRowW d [] (λf vs=>kT f vs):=by
 intro w s₀ mD mg mb G Y fa o pm cd doc dV kV ho hd hcd hD hmg hg args vals as hpre hlay hrd hwl hlo;obtain rfl:dV= .none:=Dflts.none hD hdf;obtain rfl:kV= .none:=Dflts.noKw hD;obtain⟨a,vs,ns,rfl,rfl,hobj,hints,hlen⟩:=VG hn hpre hwl;refine enter_call (dH (call w s₀ mD mg mb fa o pm cd doc a vs ns G Y ho (fd_plain hd) hcd hmg hobj hints hlen hg) λr s' hq=> ?_);obtain⟨rfl,h2,h3,h4⟩:=hq;exact⟨.inl ⟨.bool true,.bool true,[],rfl,λ_=>rfl,.bool true,VH l _,λ_=>⟨List.Pairwise.nil,λ_ hm=>(nomatch hm)⟩⟩,h2,h3,h4⟩
end Att
namespace L2
open PySem PySem.Spec PyProof.Rows
theorem Zr: ∀ {vs:G0 G2} {ns:G0 G8},Z2 vs ns->Vals (ns.map V.int) vs
 |_,_,.nil=> .nil
 |_,_,.cons n t h=> .cons ⟨t,rfl⟩ (Zr h)
def zX (s:C3):Arguments:=match s with
 | .FunctionDef _ a _ _ _ _ _ _ _ _=>a
 |_=> {posonlyargs:= [],args:= [],vararg:=none,kwonlyargs:= [],kw_defaults:= [],kwarg:=none,defaults:= []}
def zb (s:C3):G0 C3:=match s with
 | .FunctionDef _ _ b _ _ _ _ _ _ _=>b
 |_=> []
def jc (s:C3):L7:=match s with
 | .FunctionDef _ _ _ _ _ _ sc _ _ _=>sc
 |_=> {kind:= .function,names:= [],isGenerator:=false,isCoroutine:=false}
abbrev CX0:CXT:=λ_ _ _ _ _ _=>False
abbrev E0:XK:=λ_ _ _=>False
variable {X:Cx}
theorem MP:Vz CX0 X E0:=λ_ _ _ _ _ _ _ h=>h.elim
structure Fun (K:G1)(x qual:Str)(st:C3)(f:G6)(fd:S6):Prop where
 ex: ∃ (oc:G2) (od:P5 G6) (kV doc pm:G2) (an:P5 G6) (cdv ct:G2) (osl:B3 (P5 G2)),
  fd=K2 x qual (zX st) (zb st) (jc st) .none kV doc pm an cdv ct/\K.lookup f=some ⟨oc,od,.func fd,osl⟩/\b9 K cdv qual=true
 kp:E3 K (.ref f)=true
section
variable {P:S2}{w:M6}{K:G1}{mg:Str->P5 G2}{base:N5}
variable {qual:Str}
theorem Fun.ok {x:Str}{st:C3}{f:G6}{fd:S6}{N ps:G0 Str}{k:P0}{sp:Sp}(F:Fun K x qual st f fd)(S:FnScope N ps (jc st))(len: ∀vs H Q E,sp vs H Q E->vs.length=ps.length)
 (hbody: ∀ (cdv:G2) (A:M5) (outer:G0 Env) (s:G5) (H:Hp) (vs:G0 V) (Q:VK) (E:XK),Room k (A.deeper (aB qual (jc st) s.heap.objs.size f cdv))->sp vs H Q E->
  ∃t,PSs (Xs CX0 P w K mg base N qual (jc st) f cdv A outer s H E).nox (zb st) t/\t {nx:=λ_ H'=>Q .non H',rt:=Q} (yZ N vs) H):FnOk P w K mg base CX0 (k+1) f fd ps sp:=by
 obtain⟨oc,od,kV,doc,pm,an,cdv,ct,osl,rfl,lk,hcd⟩:=F.ex;refine MK lk hcd S len λA outer s H vs Q E hr hsp=> ?_
 obtain⟨t,h,q⟩:=hbody cdv A outer s H vs Q E hr hsp;exact⟨t,h.nox,q⟩
theorem Fun.binds {x:Str}{st:C3}{f:G6}{fd:S6}{ps:G0 Str}(F:Fun K x qual st f fd)
 (h: ∀ (kV doc pm:G2) (an:P5 G6) (cdv ct:G2) (us:G0 G2),us.length=ps.length->i6 (K2 x qual (zX st) (zb st) (jc st) .none kV doc pm an cdv ct) ⟨us,[]⟩=pure (ps.zip us)):Binds K fd ps []:=by
 obtain⟨oc,od,kV,doc,pm,an,cdv,ct,osl,rfl,lk,hcd⟩:=F.ex;exact .all (h kV doc pm an cdv ct)
theorem DI {x:Str}{st:C3}{f:G6}{oc:G2}{od an:P5 G6}{osl:B3 (P5 G2)}{kV doc pm cdv ct:G2}(l:K.lookup f=some ⟨oc,od,.func (K2 x qual (zX st) (zb st) (jc st) .none kV doc pm an cdv ct),osl⟩)
 (c:b9 K cdv qual=true)(k:E3 K (.ref f)=true):Fun K x qual st f (K2 x qual (zX st) (zb st) (jc st) .none kV doc pm an cdv ct):=⟨⟨oc,od,kV,doc,pm,an,cdv,ct,osl,rfl,l,c⟩,k⟩
end
theorem jH {n:P0}(h:n<=1000):n<sizeLine:=E8 h (by decide)
theorem vH {A B:Prop}(h:B):if false=true then A else B:=by
 rw [S4 P3];exact h
theorem Xd {A B:Prop}(h:A):if true=true then A else B:=by
 rw [R3 rfl];exact h
theorem Xe {c A B:Prop}[Decidable c](h1:c->A)(h2: ¬c->B):if c then A else B:=by
 by_cases h:c
 ·rw [R3 h];exact h1 h
 ·rw [S4 h];exact h2 h
section
variable {X:Cx}{pins:G0 (G6×Obj)}{σ:St}{H:Hp}{s:G5}{a:G6}{y v:V}{u r:G2}{o:P5 V}{A:M5}{E:G2->G5->Prop}
theorem Inv.big (I:Inv X pins σ H s):U1<s.heap.objs.size:=by
 have h:N6<s.heap.objs.size:=(I.mod.glob.keeps I.bk).lt;exact V8 (by decide) h
theorem Gk {h':N5}{t':P0}{ob:HO}(I:Inv X pins σ H s)(mu:Mut (H a))(hs:Y8 a s.heap h')(he: ∃q,h'.get? a=some q)(new:ObjOk X.prog X.w (upd H a ob) h' a ob):
 Inv X pins σ (upd H a ob) {s with heap:=h',toks:=t'}:=
 I.write (x:=a) (e:=a) mu (.inl rfl) (λb q hb z=>(hs.2 b hb).trans z) he new
end
def MQ (i:D8):Prop:= ∀ov iv,cB i false ov iv=lG [ov,iv] (aQ ov iv)
variable {prog:S2}{w:M6}{env:Env}{pos:Pos}
theorem Gm {A:M5}{E:G2->G5->Prop}{s:G5}{value slice:D8}{T id:O1}{Q:G2->G5->Prop}
 (hl:kO (.type T) "__getitem__" =pure (some (.builtin id)))(hs:MQ slice)
 (h:D7 (R1 prog w) A (B6 value env) (λo mD=>D7 (R1 prog w) A (B6 slice env) (λi mI=>mI.TypeIs o T/\D7 (R1 prog w) A (aQ o i) Q E mI) E mD) E s):
 D7 (R1 prog w) A (B6 (.Subscript value slice pos) env) Q E s:=by
 refine c7 (T3 h (λo mD mK=>T3 mK (λi mI mQ=> ?_) λ_ _ x=>x) λ_ _ x=>x);obtain⟨hT,mQ⟩:=mQ;unfold aT;refine wpAny_bind ?_;rw [getitemInPython_of_ne hT.not_modules];refine wpAny_bind (A3 hT hl ?_);have fin:D7 (R1 prog w) A (cB slice false o i) (λr mL=>D7 (R1 prog w) A (letTemporaryGo value o r >>= λ_=>pure r) Q E mL) E mI:=by
  rw [hs o i];exact wpAny_operating (T3 mQ (λr mL mR=>wpAny_bind (wpAny_letTemporaryGo (G9 mR))) λ_ _ x=>x)
 first
  |exact G9 (wpAny_bind fin)
  |exact wpAny_bind (G9 (wpAny_bind fin))
  |exact wpAny_bind fin
def zy (names:G0 (Str×NameKind))(env:Env)(cs:G0 (Str×G6)):G0 (Str×G6):=
 names.foldl (λcs p=>if p.2= .free then (match env.cells.lookup p.1 with|some c=>(p.1,c)::cs|none=>cs) else cs) cs
theorem jX (p:Str×NameKind)(l:G0 (Str×NameKind))(env:Env)(cs:G0 (Str×G6)):
 zy (p::l) env cs=zy l env (if p.2= .free then (match env.cells.lookup p.1 with|some c=>(p.1,c)::cs|none=>cs) else cs):=rfl
theorem vd {f:Str×NameKind->G0 (Str×G6)->Sem (iK (G0 (Str×G6)))}
 (h1: ∀p cs,p.2≠ .free->f p cs=pure (.yield cs))(h2: ∀p cs c,p.2= .free->env.cells.lookup p.1=some c->f p cs=pure (.yield ((p.1,c)::cs))):
 ∀ (l:G0 (Str×NameKind)) (cs:G0 (Str×G6)),(∀p∈l,p.2= .free-> ∃c,env.cells.lookup p.1=some c)->forIn l cs f=pure (zy l env cs)
 | [],cs,_=>rfl
 |p::l,cs,h=>by
  have ih:=vd h1 h2 l
  by_cases hp:p.2= .free
  ·obtain⟨c,hc⟩:=h p P6 hp;rw [Q9,h2 p cs c hp hc,pure_bind];show forIn l ((p.1,c)::cs) f=_;rw [ih _ λq hq=>h q (D2 _ hq),jX,R3 hp,hc]
  ·rw [Q9,h1 p cs hp,pure_bind];show forIn l cs f=_;rw [ih _ λq hq=>h q (D2 _ hq),jX,S4 hp]
variable {scope:L7}
theorem Jo (h: ∀p∈scope.names,p.2= .free-> ∃c,env.cells.lookup p.1=some c):kY scope env=pure (zy scope.names env []):=by
 simp only [kY];rw [vd (env:=env) (λp cs hp=> ?_) (λp cs c hp hc=> ?_) _ _ h]
 ·rfl
 ·obtain⟨n,k⟩:=p;have hb:(k==C0)=false:=by simpa using hp
  simp only [hb,O9,cA]
 ·obtain⟨n,k⟩:=p;have hb:(k==C0)=true:=by simpa using hp
  have hc':env.cells.lookup n=some c:=hc;simp only [hb,aP,cellOf,hc',pure_bind]
theorem ve: ∀ (l:G0 (Str×NameKind)) (cs:G0 (Str×G6)),(∀p∈cs,env.cells.lookup p.1=some p.2)-> ∀p∈zy l env cs,env.cells.lookup p.1=some p.2
 | [],cs,h,p,hp=>h p hp
 |q::l,cs,h,p,hp=>by
  rw [jX] at hp;refine ve l _ (λr hr=> ?_) p hp
  by_cases hq:q.2= .free
  ·rw [R3 hq] at hr;cases e:env.cells.lookup q.1 with
   |none=>rw [e] at hr;exact h r hr
   |some c=>
    rw [e] at hr;rcases R5.mp hr with rfl|hr
    ·exact e
    ·exact h r hr
  ·rw [S4 hq] at hr;exact h r hr
theorem vf: ∀ (l:G0 (Str×NameKind)) (cs:G0 (Str×G6)),∀p∈cs,p∈zy l env cs
 | [],cs,p,hp=>hp
 |q::l,cs,p,hp=>by
  rw [jX];refine vf l _ p ?_
  by_cases hq:q.2= .free
  ·rw [R3 hq];cases e:env.cells.lookup q.1 with
   |none=>exact hp
   |some c=>exact D2 _ hp
  ·rw [S4 hq];exact hp
variable {x:Str}
theorem vg {c:G6}(hc:env.cells.lookup x=some c): ∀ (l:G0 (Str×NameKind)) (cs:G0 (Str×G6)),(x,C0)∈l->(x,c)∈zy l env cs
 |q::l,cs,h=>by
  rw [jX];rcases R5.mp h with e|h
  ·subst e;rw [R3 rfl,hc];exact vf l _ _ P6
  ·exact vg hc l _ h
variable {α:Type}
theorem zm: ∀ {l:G0 (Str×α)} {x:Str} {c:α},l.lookup x=some c->(x,c)∈l
 | [],_,_,h=>by simp at h
 |(n,k)::r,x,c,h=>by
  rw [C8] at h;cases hx:x==n with
  |true=>
   rw [hx] at h;have e:x=n:=eq_of_beq hx;cases h;subst e;exact P6
  |false=>rw [hx] at h;exact D2 _ (zm h)
theorem vR: ∀ {l:G0 (Str×α)} {x:Str} {c:α},(x,c)∈l-> ∃c',l.lookup x=some c'
 |(n,k)::r,x,c,h=>by
  rw [C8];cases hx:x==n with
  |true=>exact⟨_,rfl⟩
  |false=>
   rcases R5.mp h with e|h
   ·cases e;simp at hx
   ·exact vR h
theorem vS {l:G0 (Str×NameKind)}{c:G6}(h:(zy l env []).lookup x=some c):env.cells.lookup x=some c:=
 ve l [] (λ_ z=>nomatch z) (x,c) (zm h)
theorem VI {l:G0 (Str×NameKind)}{c:G6}(hc:env.cells.lookup x=some c)(h:(x,C0)∈l):(zy l env []).lookup x=some c:=by
 obtain⟨c',e⟩:=vR (vg hc l [] h);have:=vS e;rw [hc] at this;cases this;exact e
theorem zL {κ:Type}{f:Str×κ->Str×κ}{g:Str->κ->κ}(hf: ∀n k,f (n,k)=(n,g n k))(x:Str): ∀l:G0 (Str×κ),(l.map f).lookup x=(l.lookup x).map (g x)
 | []=>rfl
 |(n,k)::r=>by
  rw [R0,hf,C8,C8,zL hf x r];cases same:x==n with
  |false=>rfl
  |true=>rw [eq_of_beq same];rfl
theorem jE {names:G0 (Str×NameKind)}{k:NameKind}(found:
 (names.map λ(n,k)=>if (k==C0&&env.scope.kind== .function&&env.kindOf n==some .cell) then (n,E1) else (n,k)).lookup x=some k):
  names.lookup x=some k\/names.lookup x=some .free:=by
 rw [zL (g:=λn k=>if (k==C0&&env.scope.kind== .function&&env.kindOf n==some .cell) then .cell else k) (λn k=>by dsimp only;split<;>rfl)] at found;obtain⟨k0,was,now⟩:=F2.mp found;split at now
 ·rename_i c;simp only [O7,beq_iff_eq] at c;exact .inr (by rw [was,c.1.1])
 ·exact .inl (by rw [was,now])
theorem zh: ∀ (names:G0 (Str×NameKind)) (n:P0) (acc:G0 (Str×G6)) (p:Str×G6),p∈F4 n names acc->p∈acc\/(n<=p.2/\(p.1,E1)∈names)
 | [],_,_,_,h=> .inl h
 |(x,k)::r,n,acc,p,h=>by
  unfold F4 at h;split at h
  ·rename_i hk;rcases zh r (n+1) _ p h with z|⟨z1,z2⟩
   ·rcases R5.mp z with e|z
    ·subst e;have:k= .cell:=by simpa using hk
     subst this;exact .inr ⟨D0 _,P6⟩
    ·exact .inl z
   ·exact .inr ⟨by omega,D2 _ z2⟩
  ·rcases zh r n acc p h with z|⟨z1,z2⟩
   ·exact .inl z
   ·exact .inr ⟨z1,D2 _ z2⟩
theorem jB: ∀ (names:G0 (Str×NameKind)) (n:P0) (acc:G0 (Str×G6)),F4 n names acc=F4 n names []++acc
 | [],_,_=>rfl
 |(x,k)::r,n,acc=>by
  unfold F4;split
  ·rw [jB r (n+1) ((x,n)::acc),jB r (n+1) [(x,n)],J8];rfl
  ·exact jB r n acc
theorem yp (l l':G0 (Str×α))(x:Str):(l++l').lookup x=(match l.lookup x with|some c=>some c|none=>l'.lookup x):=by
 induction l with
 |nil=>rfl
 |cons p l ih=>
  obtain⟨n,c⟩:=p;rw [L0,C8,C8];cases x==n with
  |true=>rfl
  |false=>exact ih
theorem wH {names:G0 (Str×NameKind)}(here:names.lookup x=some .cell):
 (names.map λ(n,k)=>if (k==C0&&env.scope.kind== .function&&env.kindOf n==some .cell) then (n,E1) else (n,k)).lookup x=some .cell:=by
 rw [zL (g:=λn k=>if (k==C0&&env.scope.kind== .function&&env.kindOf n==some .cell) then .cell else k) (λn k=>by dsimp only;split<;>rfl),here];simp
section
variable {M:fG}{A:M5}{E:G2->G5->Prop}{s:G5}
theorem YG (h:N5)(names:G0 (Str×NameKind)):(∀n c,(n,c)∈F4 h.objs.size names []->(pushCells h names).IsCell c none/\h.objs.size<=c)/\(F4 h.objs.size names []).Pairwise λx y=>x.2≠y.2:=
 have laid:=cellsFrom_ok names h h.objs.size [] ⟨by simp,.nil⟩ (D0 _)
 ⟨laid.empty,laid.apart⟩
theorem Zt {scope:L7}{globals:G6}{closure:G0 (Str×G6)}{qual:Str}{func:P5 G6}{code:G2}{outer:Env}{builtins:G6}{Q:Env->G5->Prop}
 (hQ: ∀h',h'.Ns s.heap.objs.size (λ_=>none)->(∀b o,s.heap.get? b=some o->h'.get? b=some o)->(∀n c,(n,c)∈F4 (s.heap.objs.size+1) scope.names []->h'.IsCell c none/\s.heap.objs.size+1<=c)->
  ((F4 (s.heap.objs.size+1) scope.names []).Pairwise λx y=>x.2≠y.2)->
  Q (newEnv scope s.heap.objs.size globals (F4 (s.heap.objs.size+1) scope.names closure) qual func code (some outer) builtins) {s with heap:=h'}):
 D7 M A (gL scope globals closure [] qual func code (some outer) builtins) Q E s:=by
 have names:=YG (s.heap.push {cls:= .type "dict",data:= .dict #[]}) scope.names;have first:(s.heap.push {cls:= .type "dict",data:= .dict #[]}).objs.size=s.heap.objs.size+1:=K0 ..
 rw [first] at names;unfold gL;refine wpAny_bind (wpAny_alloc (wpAny_bind (wpAny_layCells _ (λn k cs=>rfl) _ _ _ _ ?_)));simp only [Option.isSome_some,aP];rw [first];exact wpAny_bind (G9 (G9 (hQ _ ((Heap.Ns.new _ _).keeps (fO _ _)) (λb o here=>fO _ _ b o (G7 _ here)) names.1 names.2)))
end
def jA (X:Cx)(scope:L7)(C:G6):G0 (Str×G6):=F4 (C+1) scope.names (zy scope.names X.env [])
def vh (X:Cx)(scope:L7)(C:G6)(s₀:G5)(H₀:Hp)(ex:G0 G6):Cx:=
 {X with s₀:=s₀,H₀:=H₀,env:=gM scope (jA X scope C) C X.env,outer:=X.stack,ex:=ex,fn:=λx=>scope.names.lookup x==some .cell,pn:= [],xe:=λ_ _=>False}
def jf (X:Cx)(scope:L7)(X':Cx):Prop:= ∃C s₀ H₀ ex,X'=vh X scope C s₀ H₀ ex
structure BlockOk (X:Cx)(scope:L7)(js:G0 P0):Prop where
 kind:scope.kind= .function
 locs: ∀p∈scope.names,p.2= .local->scope.names.lookup p.1=some .local
 cels: ∀p∈scope.names,p.2= .cell->scope.names.lookup p.1=some .cell
 free: ∀p∈scope.names,p.2= .free->X.env.scope.names.lookup p.1=some .cell\/X.env.scope.names.lookup p.1=some .free
 js: ∀ (i:P0) (x:Str),X.N[i]? =some x->(scope.names.lookup x=some .local\/scope.names.lookup x=some .cell)->i∈js
variable {js:G0 P0}
theorem zG (S:BlockOk X scope js){C:G6}{x:Str}{c:G6}(h:(jA X scope C).lookup x=some c):
 (scope.names.lookup x≠some .cell/\X.env.cells.lookup x=some c)\/(scope.names.lookup x=some .cell/\(x,c)∈F4 (C+1) scope.names []):=by
 unfold jA at h;rw [jB,yp] at h;cases e:(F4 (C+1) scope.names []).lookup x with
 |some d=>
  rw [e] at h;cases h;have m:=zm e;rcases zh _ _ _ _ m with z|⟨_,z⟩
  ·exact absurd z (by simp)
  ·exact .inr ⟨S.cels _ z rfl,m⟩
 |none=>
  rw [e] at h;refine .inl ⟨λz=> ?_,vS h⟩;obtain⟨d,hd⟩:=yW (sc:=scope) (n:=C+1) z;rw [e] at hd;cases hd
theorem yI (S:BlockOk X scope js){C:G6}{x:Str}{c:G6}(hc:X.env.cells.lookup x=some c)(h:(x,C0)∈scope.names)(hn:scope.names.lookup x≠some .cell):(jA X scope C).lookup x=some c:=by
 unfold jA;rw [jB,yp];cases e:(F4 (C+1) scope.names []).lookup x with
 |some d=>
  rcases zh _ _ _ _ (zm e) with z|⟨_,z⟩
  ·exact absurd z (by simp)
  ·exact absurd (S.cels _ z rfl) hn
 |none=>exact VI hc h
def zg:G0 P0->St->St
 | [],σ=>σ
 |j::js,σ=>zg js (σ.set j none)
theorem vT: ∀ (js:G0 P0) (σ:St),(zg js σ).length=σ.length
 | [],_=>rfl
 |j::js,σ=>by rw [zg,vT js];simp
theorem vj: ∀ (js:G0 P0) (σ:St) (i:P0) (v:V),(zg js σ)[i]? =some (some v)->σ[i]? =some (some v)
 | [],_,_,_,h=>h
 |j::js,σ,i,v,h=>by
  have h1:=vj js _ i v h
  by_cases e:i=j
  ·subst e;rw [V9] at h1;simp at h1
  ·rwa [B5 (C6 e)] at h1
theorem jO: ∀ (js:G0 P0) (σ:St) (i:P0) (v:V),i∈js-> ¬ (zg js σ)[i]? =some (some v)
 |j::js,σ,i,v,hm,h=>by
  rcases R5.mp hm with rfl|hm
  ·have h1:=vj js _ i v h;rw [V9] at h1;simp at h1
  ·exact jO js _ i v hm h
variable {H:Hp}{a:G6}{o:HO}
theorem HOk.track {P:S2}{h:N5}(x:HOk P w H h)(hn:H a=none)(new:ObjOk P w (upd H a o) h a o):HOk P w (upd H a o) h:=λb u e=>by
 by_cases hb:b=a
 ·subst hb;rw [jl] at e;cases e;exact new
 ·rw [jg hb] at e;exact(x b u e).stay (λc v _ q=>q) (λc q=>by rw [jg (je q hn)];exact q) λc xs q=>by rw [jg (je q hn)];exact q
def Agree (σ mB:St):Prop:=mB.length=σ.length/\ ∀ (i:P0) (v:V),σ[i]? =some (some v)->mB[i]? =some (some v)
variable {σ:St}
theorem Agree.set {j:P0}(v:V)(h: ∀u,¬σ[j]? =some (some u)):Agree σ (σ.set j (some v)):=⟨by simp,λi u q=>by
 by_cases e:j=i
 ·subst e;exact absurd q (h u)
 ·rw [B5 e];exact q⟩
theorem Agree.trans {a b c:St}(x:Agree a b)(y:Agree b c):Agree a c:=⟨y.1.trans x.1,λi v h=>y.2 i v (x.2 i v h)⟩
def PTs (X:Cx)(ifs:G0 D8)(t:TT):Prop:=
 ∀ (pins:G0 (G6×Obj)) (s:G5) (σ:St) (H:Hp) (Q:B4->Hp->Prop),Inv X pins σ H s->t σ H Q->
  D7 (R1 X.prog X.w) X.A (forIn ifs true λc r=>if r=true then do let ok <-isTrue c X.env (B6 c X.env);pure (J0 ok) else pure (J0 r)) (TP X pins σ Q) X.xe s
def Bg:TT:=λ_ H Q=>Q true H
theorem Gn:PTs X [] Bg:=λ_ _ _ H _ I h=>wpAny_tests_nil ⟨H,I,h⟩
theorem Go {c:D8}{t:TT}(hc:PT X c t):PTs X [c] t:=λpins s σ H Q I h=>wpAny_tests_one (hc pins s σ H Q I h)
def vU (iter target:D8)(ifs:G0 D8)(it:G2)(env:Env)(act:Sem Unit)(nxt:Code):Sem Z5:=do
 Y9 iter.pos
 match <-gD it with
 |none=>pure (.done .next)
 |some v=>
  Q8 target it v
  Y0 target env v
  let mut ok:=true
  for c in ifs do
   if ok then ok <-isTrue c env (B6 c env)
  if ok then act
  lU nxt
variable {elt iter:D8}{ifs:G0 D8}
theorem Yc {A:M5}{R:lX->G5->Prop}{s:G5}{target:D8}{gens:G0 X4}{depth:P0}{it acc:G2}{act:Sem Unit}(I:P0->G5->Prop)
 (heq:dO (.ListComp elt gens scope pos) depth it acc env=vU iter target ifs it env act (.compLoop (.ListComp elt gens scope pos) depth it acc env))
 (turn: ∀n s,I n s->D7 (R1 prog w) A (gD it) (λr mD=>match r with
  |none=>R (.ok .next) mD
  |some v=>D7 (R1 prog w) A (Q8 target it v) (λ_ mD=>D7 (R1 prog w) A (Y0 target env v) (λ_ mI=>
   D7 (R1 prog w) A (forIn ifs true λc r=>if r=true then do let ok <-PySem.isTrue c env (B6 c env);pure (J0 ok) else pure (J0 r)) (λok mL=>
    if ok=true then D7 (R1 prog w) A act (λ_ mY=> ∃m,m<n/\I m mY) (λ_ _=>False) mL
    else ∃m,m<n/\I m mL) (λ_ _=>False) mI) (λ_ _=>False) mD) (λ_ _=>False) mD) (λ_ _=>False) s)
 (n:P0)(h:I n s):
 Z0 (R1 prog w) A (.compLoop (.ListComp elt gens scope pos) depth it acc env) R s:=by
 refine codeAny_loop rfl I (λn s hI=> ?_) n h;show D7 _ A ((dO (.ListComp elt gens scope pos) depth it acc env).onRaise (λx=>do noteFrame x env;theTreesLotGoes x)) _ _ s;refine wpAny_noted ?_;rw [heq];unfold vU;refine wpAny_bind (Q0 (wpAny_bind (T3 (turn n s hI) (λr mD mK=> ?_) λ_ _ h'=>h'.elim)));cases r with
 |none=>exact G9 mK
 |some v=>
  refine wpAny_bind (T3 mK (λ_ mD mK=> ?_) λ_ _ h'=>h'.elim);refine wpAny_bind (T3 mK (λ_ mI mQ=>wpAny_bind (T3 mQ (λok mL mR=> ?_) λ_ _ h'=>h'.elim)) λ_ _ h'=>h'.elim);cases ok with
  |false=>exact G9 ⟨rfl,mR⟩
  |true=>exact wpAny_bind (T3 mR (λ_ mY m5=>G9 ⟨rfl,m5⟩) λ_ _ h'=>h'.elim)
abbrev TM:=St->Hp->G0 V->(G0 V->Hp->Prop)->Prop
def Mi (X:Cx)(D:G6)(act:Sem Unit)(t:TM):Prop:=
 ∀ (pins:G0 (G6×Obj)) (s:G5) (σ:St) (H:Hp) (ys:G0 V) (us:G0 G2) (Q:G0 V->Hp->Prop),Inv X ([(D,A5 us)]++pins) σ H s->Vals ys us->ys.length<=sizeLine->D∈X.ex->(∀x c,X.env.cells.lookup x=some c->c≠D)->(∀p∈X.pn++pins,p.1≠D)->t σ H ys Q->
  D7 (R1 X.prog X.w) X.A act (λ_ s'=> ∃ys' us' H',Vals ys' us'/\Inv X ([(D,A5 us')]++pins) σ H' s'/\Q ys' H') (λ_ _=>False) s
def DJ (te:TE):TM:=λσ H ys Q=>te σ H λy H1=>Q (ys++ [y]) H1
def vV (elt:D8)(env:Env)(acc:G2):Sem Unit:=do let _ <-call (.builtin "list.append") [acc,<-B6 elt env]
variable {te:TE}
theorem Jp {D:G6}(hx:X.xe=λ_ _=>False)(he:PE X elt te):Mi X D (vV elt X.env (.ref D)) (DJ te):=by
 intro pins s σ H ys us Q I hv hz DX cD pD h;have q:=he _ s σ H _ I h;rw [hx] at q;unfold vV;refine wpAny_bind (T3 q (λy s1 ⟨yv,H1,I1,r1,q1⟩=> ?_) λ_ _ z=>z);have zD:=I1.pin (D,A5 us) (P4 _ (M8 _ P6));refine wpAny_bind (append_at (its:=us.toArray) (n:=us.length) zD.1 (λh11 hs11 hD11=>G9 ?_) (by rw [P1,<-hv.length];exact hz));have I10u:Inv X pins σ H1 s1:=I1.pins_of λp hp=>I1.pin p (P4 _ (P4 _ hp))
 have I11:Inv X pins σ H1 {s1 with heap:=h11}:=I10u.turned (t':=s1.toks) (it:=D) (λb o hb e=>hs11.extBut b o hb e) zD.2.1 zD.2.2.1 (.inl DX) cD pD;have eD:h11.get? D=some (A5 (us++ [y])):=by rw [hD11];exact congrArg some (LCg.lst_snoc us y)
 refine⟨ys++ [yv],us++ [y],H1,hv.append (.cons r1 .nil),I11.pins_of λp hp=> ?_,q1⟩;rcases R8.mp hp with z|z
 ·rcases P2.mp z with rfl
  exact⟨eD,zD.2.1,zD.2.2.1,zD.2.2.2.1,λv z=>by cases z⟩
 ·exact I11.pin p (P4 _ z)
def Mj (js : G0 P0) (wi : TI) (g : TG) (tt : TT) (tm : TM) : TE := fun σ H Q => wi σ H fun J H1 =>
  ∃ W : P0 → P0 → G0 V → Hp → Prop, (∃ m, W 0 m [] H1) ∧ ∀ i m ys H, W i m ys H → ys.length ≤ sizeLine ∧
    ((J.stop i H ∧ ∀ p, H p = none → Q (.ref p) (upd H p (.lst ys))) ∨
     (J.go i H ∧ ∀ x H', J.yld i H x H' → g x (zg js σ) H' fun mE H2 => Agree (zg js σ) mE ∧ tt mE H2 fun b H3 =>
        if b = true then tm mE H3 ys fun ys' H4 => ∃ m', m' < m ∧ W (i + 1) m' ys' H4 else ∃ m', m' < m ∧ W (i + 1) m' ys H3))
def tLC (js:G0 P0)(wi:TI)(g:TG)(tt:TT)(te:TE):TE:=Mj js wi g tt (DJ te)
variable {e tg:D8}{wi:TI}{g:TG}{tt:TT}
theorem VJ {zF:G0 X4}{pos0:Pos}{tm:TM}{use:P5 (G2->Sem Unit)}{Qv:G2->G5->Prop}(hc:X.calm=true)(S:BlockOk X scope js)(hi:PI X tg iter wi)
 (he0:e= .ListComp elt (⟨tg,iter,ifs,0⟩::zF) scope pos)
 (hg: ∀X',jf X scope X'->PG X' tg g)(ht: ∀X',jf X scope X'->PTs X' ifs tt)
 (act:Env->G2->Sem Unit)(hturn: ∀it acc env,dO e 0 it acc env=vU iter tg ifs it env (act env acc) (.compLoop e 0 it acc env))(he: ∀X',jf X scope X'-> ∀D,Mi X' D (act X'.env (.ref D)) tm)
 (hs: ∀x,D9 iter X.env x=pure x){pins:G0 (G6×Obj)}{s:G5}{σ:St}{H:Hp}{Q:VK}(I:Inv X pins σ H s)(h:Mj js wi g tt tm σ H Q)
 (fin: ∀ (D C:G6) (H':Hp) (s':G5) (m:Str->P5 G2),s'.heap.Ns C m->(∀h',Y8 C s'.heap h'->Inv X pins σ H' {s' with heap:=h'})->H' C=none->C≠X.env.locals->C ∉ X.fs->X.s₀.heap.objs.size<=C->(∀x c,X.env.cells.lookup x=some c->c≠C)->(∀p∈X.pn++pins,p.1≠C)->
  Q (.ref D) H'->compPost (R1 X.prog X.w) X.A X.xe use Qv (.ref D) C (.ok .next) s'):
 D7 (R1 X.prog X.w) X.A (gZ e scope X.env pos0 (newList []) false (B6 iter X.env) use) Qv X.xe s:=by
 have hclos:=Jo (scope:=scope) (env:=X.env) (λp hp e=>I.ok.has p.1 (S.free p hp e));subst he0;refine wpAny_comprehension_free (use:=use) rfl hs hclos S.kind S.locs (thn (hi pins s σ H _ I h) λv s1 h1=>thn h1 λitv s2 h2=> ?_);obtain⟨it,fp,tn,J,H2,e,I2,T,st2,f2,W,⟨m0,w0⟩,turn⟩:=h2;subst e;refine F1 (Zt (λmK mS mU mO mT=> ?_));dsimp only at mS mU mO mT ⊢;generalize hD:s2.heap.objs.size=D;generalize hH3:s2.heap.push {cls:= .type "list",dict:=none,data:= .seq ([]:G0 G2).toArray}=h3 at mS mU mO mT ⊢;have sz3:h3.objs.size=D+1:=by rw [<-hH3,K0,hD]
 have up3: ∀b o,s2.heap.get? b=some o->h3.get? b=some o:=λb o e=>hH3 ▸ G7 _ e
 have I3:Inv X pins σ H2 {s2 with heap:=h3}:=I2.kept (t':=s2.toks) up3;have hD3:h3.get? D=some (A5 []):=by rw [<-hH3,<-hD];exact D4 _ rfl
 have fD:Vk X pins H2 D:=I2.fpOk (by rw [hD];exact D0 _) (I2.hok.fresh (by rw [hD];exact D0 _));have obf: ∀b∈fp,∃o,s2.heap.get? b=some o/\ ∀v,o.data≠ .cell v:=T.obj _ _ st2;have ltf: ∀b∈fp,b<D:=λb hb=>by obtain⟨o,e,_⟩:=obf b hb;rw [<-hD];exact P9 e
 generalize hC:h3.objs.size=C at mS mO mT ⊢;have CD:C=D+1:=hC.symm.trans sz3;have upC: ∀b o,h3.get? b=some o->mK.get? b=some o:=mU;generalize hX:vh X scope C {s2 with heap:=h3} H2 (fp++ [D])=X';have iX:jf X scope X':=⟨C,_,_,_,hX.symm⟩;have hf: ∀b∈fp++ [D],Vk X pins H2 b:=λb hb=>(R8.mp hb).elim (f2 b) λz=>by rw [P2.mp z];exact fD
 have cl: ∀x c,(jA X scope C).lookup x=some c->X.env.cells.lookup x=some c\/C<c:=λx c e=>by
  rcases zG S e with ⟨_,z⟩|⟨_,z⟩
  ·exact .inl z
  ·exact .inr (W0 (mO x c z).2)
 have olt: ∀x c,X.env.cells.lookup x=some c->c<C:=λx c e=>by obtain⟨v,q⟩:=I3.cell x c e;rw [<-hC];exact q.lt
 have ltb: ∀b∈fp++ [D],b<C:=λb hb=>(R8.mp hb).elim (λz=>by have:=ltf b z;rw [CD];exact W1 this) λz=>by rw [P2.mp z,CD];exact L1 _
 have okX:X'.Ok:=by
  subst hX;refine⟨I.ok.mod,S.kind,I.ok.glob,I.ok.blt,Z3 hC,λx y c e1 e2=> ?_,λx hx=> ?_,λx c z e=> ?_,I.ok.hd,I.ok.frames,.inl rfl,λb hb=>⟨R7 (ltb b hb),λx c e=>(cl x c e).elim (λz=>(hf b hb).2.2.2.2.1 x c z) λz=>O4 (V8 (ltb b hb) z)⟩,
   I3.bs,T8 I.ok.bsz I3.sz,λb o e hb=> ?_,λb hb z=> ?_,I3.stack,I3.stkFree⟩
  ·rcases zG S e1 with ⟨_,z1⟩|⟨_,z1⟩<;>rcases zG S e2 with ⟨_,z2⟩|⟨_,z2⟩
   ·exact I.ok.inj x y c z1 z2
   ·exact absurd (V8 (olt x c z1) (W0 (mO y c z2).2)) (B8 _)
   ·exact absurd (V8 (olt y c z2) (W0 (mO x c z1).2)) (B8 _)
   ·exact iR mT z1 z2
  ·have own:scope.names.lookup x=some .cell-> ∃c,(jA X scope C).lookup x=some c:=λz=>by
    obtain⟨c,hc⟩:=yW (sc:=scope) (n:=C+1) z;exact⟨c,by unfold jA;rw [jB,yp,hc]⟩
   have shr:scope.names.lookup x=some .free-> ∃c,(jA X scope C).lookup x=some c:=λz=>by
    have fm:=zm z;obtain⟨c,hc⟩:=I.ok.has x (S.free _ fm rfl);exact⟨c,yI S hc fm (by rw [z];decide)⟩
   rcases hx with hx|hx
   ·rcases jE (env:=X.env) hx with z|z
    ·exact own z
    ·exact shr z
   ·rcases jE (env:=X.env) hx with z|z<;>exact shr z
  ·have z':scope.names.lookup x=some .cell:=by
    have z2:(scope.names.lookup x==some E1)=true:=z;simpa using z2
   rcases zG S e with ⟨n,_⟩|⟨_,m⟩
   ·exact absurd z' n
   ·show h3.objs.size<=c;rw [hC];exact N1 (W0 (mO x c m).2)
  ·rcases (hf b hb).2.2.2.1 with z|z
   ·exact I.ok.noex b o e z
   ·exact absurd (R4 (P9 e) (T8 I.ok.bsz z)) (B8 _)
  ·rcases R5.mp (I.stkSub b z) with q|q
   ·exact(hf b hb).2.1 q
   ·exact(hf b hb).2.2.1 q
 -- the block's first state
 have I4:Inv X' [(D,A5 [])] (zg js σ) H2 {s2 with heap:=mK}:=by
  subst hX;have hDC:D≠C:=by rw [CD];exact R7 (L1 _)
  refine⟨okX,rfl,I2.bare,Un.kept (λb u e=>upC b u e),⟨_,mS,λi x v e1 e2 e3=> ?_⟩,λx c e=> ?_,I3.hok.fresh (Z3 hC),λx c e=>(cl x c e).elim (λz=>I2.freeC x c z) (λz=>I3.hok.fresh (by rw [<-hC] at z;exact N1 z)),λp hp=> ?_,I3.hok.kept upC,(vT js σ).trans I2.len⟩
  ·have fr:scope.names.lookup x=some .free:=by
    rcases e3 with e3|e3|e3
    ·rcases jE (env:=X.env) e3 with z|z
     ·exact absurd e2 (jO js σ i v (S.js i x e1 (.inl z)))
     ·exact z
    ·rcases jE (env:=X.env) e3 with z|z
     ·exact absurd e2 (jO js σ i v (S.js i x e1 (.inr z)))
     ·exact z
    ·rcases jE (env:=X.env) e3 with z|z<;>exact z
   have fm:=zm fr;obtain⟨m,hm,hl⟩:=I2.loc;have vis:=S.free _ fm rfl;obtain⟨u,r,lk⟩:=hl i x v e1 (vj js σ i v e2) (.inr vis);have kd:(relabel scope X.env).names.lookup x=some .cell\/(relabel scope X.env).names.lookup x=some .free:=by
    rcases e3 with e3|e3|e3
    ·rcases jE (env:=X.env) e3 with z|z
     ·rw [fr] at z;cases z
     ·exfalso;have z2:=e3
      -- a local's kind stays
      exact absurd e2 (jO js σ i v (S.js i x e1 (.inl (by
       have q: ∀ (l:G0 (Str×NameKind)),(l.map λ(n,k)=>if (k==C0&&X.env.scope.kind== .function&&X.env.kindOf n==some .cell) then (n,E1) else (n,k)).lookup x=some .local->l.lookup x=some .local:=by
        intro l
        induction l with
        |nil=>intro h;simp at h
        |cons p l ih=>
         obtain⟨n,k'⟩:=p;intro h;have h':List.lookup x ((if (k'==C0&&X.env.scope.kind== .function&&X.env.kindOf n==some .cell)=true then (n,E1) else (n,k'))::(l.map λ(n,k)=>if (k==C0&&X.env.scope.kind== .function&&X.env.kindOf n==some .cell) then (n,E1) else (n,k)))=some .local:=h;rw [C8]
         by_cases hc:(k'==C0&&X.env.scope.kind== .function&&X.env.kindOf n==some .cell)=true
         ·rw [R3 hc,C8] at h';cases hx:x==n with
          |true=>rw [hx] at h';cases h'
          |false=>rw [hx] at h';exact ih h'
         ·rw [S4 hc,C8] at h';cases hx:x==n with
          |true=>rw [hx] at h';exact h'
          |false=>rw [hx] at h';exact ih h'
       exact q _ z2))))
    ·exact .inl e3
    ·exact .inr e3
   rcases lk with ⟨k,_⟩|⟨_,c,hc,hcell⟩
   ·have k':X.env.scope.names.lookup x=some .local:=k;rcases vis with z|z<;>(rw [k'] at z;cases z)
   ·refine⟨u,r,.inr ⟨kd,c,yI S hc fm (by rw [fr];decide),?_⟩⟩;obtain⟨o,ho,hd⟩:=hcell;exact⟨o,upC _ _ (up3 _ _ ho),hd⟩
  ·rcases zG S e with ⟨_,z⟩|⟨_,z⟩
   ·obtain⟨v,o,ho,hd⟩:=I2.cell x c z;exact⟨v,o,upC _ _ (up3 _ _ ho),hd⟩
   ·exact⟨none,(mO x c z).1⟩
  ·have hp':p∈ [(D,A5 [])]:=hp;rcases P2.mp hp' with rfl
   refine⟨upC _ _ hD3,fD.1,hDC,λz=> ?_,λv z=>by cases z⟩;rcases R5.mp (I.stkSub D z) with q|q
   ·exact fD.2.1 q
   ·exact fD.2.2.1 q
 have st4:tn 0 mK:=T.keep _ _ _ st2 λb _ o e=>upC _ _ (up3 _ _ e)
 have eA:X'.A=X.A:=by rw [<-hX];rfl
 have eP:X'.prog=X.prog:=by rw [<-hX];rfl
 have eW:X'.w=X.w:=by rw [<-hX];rfl
 have eK:X'.K=X.K:=by rw [<-hX];rfl
 have eC:X'.calm=true:=by rw [<-hX];exact hc
 have eV:X'.env=gM scope (jA X scope C) C X.env:=by rw [<-hX];rfl
 have eE:X'.xe=λ_ _=>False:=by rw [<-hX];rfl
 -- what stays true of the iterator's objects
 have stat: ∀ {us:G0 G2} {H':Hp},(∀b∈fp,H' b=none)-> ∀b∈fp,Vk X' [(D,A5 us)] H' b:=λ{us H'} hn b hb=>by
  have q:=hf b (M8 _ hb);subst hX;refine⟨hn b hb,R7 (ltb b (M8 _ hb)),λz=> ?_,.inl (M8 _ hb),λx c e=>(cl x c e).elim (λz=>q.2.2.2.2.1 x c z) (λz=>O4 (V8 (ltb b (M8 _ hb)) z)),λp hp=> ?_⟩
  ·rcases R5.mp (I.stkSub b z) with r|r
   ·exact q.2.1 r
   ·exact q.2.2.1 r
  ·have hp':p∈ [(D,A5 us)]:=hp;rcases P2.mp hp' with rfl
   exact O4 (ltf b hb)
 have loop: ∀mL:G5,mL= {s2 with heap:=mK}->
  Z0 (R1 X.prog X.w) X.A (.compLoop (.ListComp elt (⟨tg,iter,ifs,0⟩::zF) scope pos) 0 (.ref it) (.ref D) (gM scope (jA X scope C) C X.env))
   (compPost (R1 X.prog X.w) X.A X.xe use Qv (.ref D) C) mL:=by
  rintro mL rfl;refine Yc (act:=act (gM scope (jA X scope C) C X.env) (.ref D)) (λn s'=> ∃i ys us H',Vals ys us/\Inv X' [(D,A5 us)] (zg js σ) H' s'/\tn i s'.heap/\(∀b∈fp,H' b=none)/\W i n ys H') (hturn _ _ _) ?_ m0
   ⟨0,[],[],H2,.nil,I4,st4,λb hb=>(f2 b hb).1,w0⟩
  rintro n s5 ⟨i,ys,us,H5,hv5,I5,st5,fr5,w5⟩;obtain⟨hz,tr⟩:=turn i n ys H5 w5;rcases tr with ⟨stop,qn⟩|⟨go,step⟩
  ·have q:=T.done X' eP eW eK eC i _ s5 _ H5 (λ_ _=>False) I5 (stat fr5) st5 stop;rw [eA] at q;refine T3 q (λr s6 ⟨hr,I6⟩=> ?_) λ_ _ z=>z
   subst hr;obtain⟨m6,hm6,_⟩:=I6.loc;rw [eV] at hm6;have zD:=I6.pin (D,A5 us) (P4 _ P6);have HD:H5 D=none:=zD.2.1;have oD:s6.heap.get? D=some (A5 us):=zD.1;have hDC:D≠C:=by rw [CD];exact R7 (L1 _)
   have HC:H5 C=none:=by have z:=I6.free;rw [eV] at z;exact z
   have B:=I6.base;have os6:s6.os=s2.os:=by have z:=I6.os;rw [<-hX] at z;exact z
   have Bu:Un (frs X.stack) (fp++ [D]) H2 H5 h3 s6.heap:=by rw [<-hX] at B;exact B
   have neC: ∀b o,h3.get? b=some o->b≠C:=λb o e=>by rw [<-hC];exact R7 (P9 e)
   refine fin D C (upd H5 D (.lst ys)) s6 m6 hm6 (λh' hs'=> ?_) (by rw [jg (C6 hDC)];exact HC) ?_ ?_ ?_ (λx c e=>R7 (olt x c e)) ?_ (qn D HD)
   ·have hk5:HOk X.prog X.w H5 h':=λb u e=>by
     have z:=I6.hok b u e;rw [eP,eW] at z;refine z.stay (λc v hc q=>hs'.extBut c v ?_ q) (λ_ q=>q) λ_ _ q=>q
     rcases hc with rfl|hc
     ·exact je e HC
     ·exact je hc HC
    refine I3.call' (ch:=fp++ [D]) os6 ⟨λb o e n hb hx=> ?_,λb o e n hb hx=> ?_,λb o e n hx=> ?_,λb o e hx=> ?_,λb xs e=> ?_,λb o u e=> ?_,λb ps e=> ?_⟩ (hk5.track HD ?_) I6.bare λb hb=> ?_
    ·exact hs'.extBut b o (neC b o e) (Bu.keep b o e n hb hx)
    ·obtain⟨sl,q⟩:=Bu.slot b o e n hb hx;exact⟨sl,hs'.extBut b _ (neC b o e) q⟩
    ·rw [jg λz=>hx (by rw [z];exact P4 _ P6)];exact Bu.free b o e n hx
    ·obtain⟨o',q⟩:=Bu.there b o e hx;exact⟨o',hs'.extBut b _ (neC b o e) q⟩
    ·have z:=Bu.tups b xs e;rw [jg (je z HD)];exact z
    ·have z:=Bu.frzs b o u e;rw [jg (je z HD)];exact z
    ·obtain⟨more,z⟩:=Bu.tbls b ps e;exact⟨more,by rw [jg (je z HD)];exact z⟩
    ·exact⟨hz,us,us.length,hv5,hs'.extBut D _ hDC oD⟩
    ·have q:=hf b hb;exact⟨q.2.2.2.1,q.2.1,q.2.2.2.2.1,q.2.2.2.2.2⟩
   ·rw [<-hC];exact O4 I3.lt
   ·exact I3.nofs (Z3 hC)
   ·rw [<-hC];exact I3.sz
   ·intro p hp;have:=(I3.pin p hp).1;rw [<-hC];exact R7 (P9 this)
  ·have q:=T.item X' eP eW eK eC i _ s5 _ H5 (λ_ _=>False) I5 (stat fr5) st5 go;rw [eA] at q;refine T3 q (λr s6 ⟨u,hr,h6⟩=> ?_) λ_ _ z=>z
   subst hr;refine T3 h6 (λ_ s7 ⟨x,H7,I7,r7,y7,st7,fr7⟩=> ?_) λ_ _ z=>z
   have I7':=I7.pinned (stat fr7) (T.obj _ _ st7);have q7:=hg X' iX _ s7 _ H7 x u _ I7' r7 (step x H7 y7);rw [eP,eW,eA,eV,eE] at q7;refine T3 q7 (λ_ s8 ⟨mP,H8,I8,ag8,q8⟩=> ?_) λ_ _ z=>z
   have q9:=ht X' iX _ s8 mP H8 _ I8 q8;rw [eP,eW,eA,eV,eE] at q9;refine T3 q9 (λok s9 ⟨H9,I9,q9⟩=> ?_) λ_ _ z=>z
   have keepT: ∀ {mB:St} {H':Hp} {s':G5} {us:G0 G2},Inv X' ([(D,A5 us)]++wx fp s7.heap) mB H' s'->tn (i+1) s'.heap/\ ∀b∈fp,H' b=none:=λ{mB H' s' us} I'=>
    ⟨T.keep _ _ _ st7 λb hb o e=>(I'.pin (b,o) (P4 _ (P4 _ (zl hb e)))).1,λb hb=>by
     obtain⟨o,e,_⟩:=T.obj _ _ st7 b hb;exact(I'.pin (b,o) (P4 _ (P4 _ (zl hb e)))).2.1⟩
   cases ok with
   |false=>
    have q9: ∃m',m'<n/\W (i+1) m' ys H9:=q9;obtain⟨m',hm,w9⟩:=q9;obtain⟨t9,f9⟩:=keepT I9;exact⟨m',hm,i+1,ys,us,H9,hv5,(I9.unpinned).weak ag8.1.symm ag8.2,t9,f9,w9⟩
   |true=>
    have q9:tm mP H9 ys λys' H4=> ∃m',m'<n/\W (i+1) m' ys' H4:=q9
    have DX:D∈X'.ex:=by rw [<-hX];exact P4 _ P6
    have pD: ∀p∈X'.pn++wx fp s7.heap,p.1≠D:=λp hp=>by
     have hp':p∈wx fp s7.heap:=by rw [<-hX] at hp;simpa [vh] using hp
     exact R7 (ltf _ (yY hp').1)
    have cD: ∀x c,X'.env.cells.lookup x=some c->c≠D:=λx c e=>by
     rw [eV] at e;exact(cl x c e).elim (λz=>fD.2.2.2.2.1 x c z) λz=>O4 (V8 (by rw [CD];exact L1 _) z)
    have q10:=he X' iX D _ s9 mP H9 ys us _ I9 hv5 hz DX cD pD q9;rw [eP,eW,eA,eV] at q10;show D7 _ _ (act _ _) _ _ s9;refine T3 q10 (λ_ s10 ⟨ys',us',H10,hv10,I10,m',hm,w10⟩=> ?_) λ_ _ z=>z
    obtain⟨t10,f10⟩:=keepT I10;exact⟨m',hm,i+1,ys',us',H10,hv10,(I10.unpinned).weak ag8.1.symm ag8.2,t10,f10,w10⟩
 exact codeAny_compStart_list (loop _ rfl) (T.self X.A 0 _ _ _ st4 (loop _ rfl))
theorem DK (hc:X.calm=true)(S:BlockOk X scope js)(hi:PI X tg iter wi)
 (hg: ∀X',jf X scope X'->PG X' tg g)(ht: ∀X',jf X scope X'->PTs X' ifs tt)(he: ∀X',jf X scope X'->PE X' elt te)
 (hs: ∀x,D9 iter X.env x=pure x:=by intro _;rfl):PE X (.ListComp elt [⟨tg,iter,ifs,0⟩] scope pos) (tLC js wi g tt te):=by
 intro pins s σ H Q I h;rw [g3];exact VJ (use:=none) hc S hi rfl hg ht (vV elt) (λ_ _ _=>rfl) (λX' hX D=>Jp (by obtain⟨_,_,_,_,rfl⟩:=hX;rfl) (he X' hX)) hs I h
  λD C H' s' m hn hk _ _ _ _ _ _ q=>⟨m,hn,λh' hs'=>⟨.ref D,H',hk h' hs',rfl,q⟩⟩
theorem Gp {zF:G0 X4}{pos' spos:Pos}{g':TG}{tm:TM}(hc:X.calm=true)(S:BlockOk X scope js)(hi:PI X tg iter wi)
 (he0:e= .ListComp elt (⟨tg,iter,ifs,0⟩::zF) scope pos)(hg: ∀X',jf X scope X'->PG X' tg g)(ht: ∀X',jf X scope X'->PTs X' ifs tt)
 (act:Env->G2->Sem Unit)(hturn: ∀it acc env,dO e 0 it acc env=vU iter tg ifs it env (act env acc) (.compLoop e 0 it acc env))(he: ∀X',jf X scope X'-> ∀D,Mi X' D (act X'.env (.ref D)) tm)
 (hg':PG X (.Name x pos') g')(hsw:L8 e (some (.Name x pos')) spos.line X.env=pure true)
 (hs: ∀x,D9 iter X.env x=pure x):PS X (.Assign [.Name x pos'] e spos) (Qh (Mj js wi g tt tm) g'):=by
 intro pins s σ H Dn I h;rw [exec_Assign_Name_used _ _ _ _ hsw];refine wpAny_bind (Q0 (wpAny_bind ?_));subst he0;rw [arm_evalThenUse_ListComp];show D7 _ X.A (do let _ <-gZ (.ListComp elt (⟨tg,iter,ifs,0⟩::zF) scope pos) scope X.env _ (newList []) false (B6 iter X.env) (some (Y0 (.Name x pos') X.env))) _ _ s;refine wpAny_bind (T3 (VJ (use:=some (Y0 (.Name x pos') X.env)) (Qv:=λ_ s'=>SP X pins Dn .next s') hc S hi rfl hg ht act hturn he hs I h ?_) (λ_ s' hq=>G9 (G9 hq)) λ_ _ e=>e);intro D C H' s' m hn hk HC nL nf sz ncell npin q;show D7 _ X.A (Y0 (.Name x pos') X.env (.ref D)) _ _ s';obtain⟨o,es,ep,ho,hd,hr⟩:=id hn;have I1:Inv X pins σ H' s':=hk s'.heap (Heap.SameBut.refl ..);have I2:Inv X (pins++ [(C,o)]) σ H' s':=I1.pins_of λp hp=>by
  rcases R8.mp hp with z|z
  ·exact I1.pin p (P4 _ z)
  ·rcases P2.mp z with rfl
   exact⟨ho,HC,nL,nf,λv z=>by rw [hd] at z;cases z⟩
 refine T3 (hg' _ s' σ H' (.ref D) (.ref D) _ I2 rfl q) (λ_ s3 ⟨mG,H3,I3,q3⟩=> ?_) λ_ _ z=>z
 have pC:=I3.pin (C,o) (P4 _ (P4 _ P6));refine⟨m,hn.at' λo' e'=> ?_,λh' hs'=> ?_⟩
 ·rw [ho] at e';cases e';exact pC.1
 ·exact⟨mG,H3,(I3.unpinned).turned (t':=s3.toks) (it:=C) (λb o hb e=>hs'.extBut b o hb e) pC.2.1 nL (.inr sz) ncell npin,q3⟩
theorem Yd {pos' spos:Pos}{g':TG}(hc:X.calm=true)(S:BlockOk X scope js)(hi:PI X tg iter wi)
 (hg: ∀X',jf X scope X'->PG X' tg g)(ht: ∀X',jf X scope X'->PTs X' ifs tt)(he: ∀X',jf X scope X'->PE X' elt te)
 (hg':PG X (.Name x pos') g')(hsw:L8 (.ListComp elt [⟨tg,iter,ifs,0⟩] scope pos) (some (.Name x pos')) spos.line X.env=pure true)
 (hs: ∀x,D9 iter X.env x=pure x:=by intro _;rfl):PS X (.Assign [.Name x pos'] (.ListComp elt [⟨tg,iter,ifs,0⟩] scope pos) spos) (Qh (tLC js wi g tt te) g'):=
 Gp hc S hi rfl hg ht (vV elt) (λ_ _ _=>rfl) (λX' hX D=>Jp (by obtain⟨_,_,_,_,rfl⟩:=hX;rfl) (he X' hX)) hg' hsw hs
def VL (e iter:D8)(env:Env)(acc:G2):Sem Unit:=do
 let x <-B6 iter env
 Y9 iter.pos
 let x <-D9 iter env x
 let _ <-runOwn (.compStart e 1 (<-J5 [x] (gE x)) acc env) env
def mIn (wi : TI) (g : TG) (tt : TT) (tm : TM) : TM := fun σ H ys Q => wi σ H fun J H1 =>
  ∃ W : P0 → P0 → G0 V → Hp → Prop, (∃ m, W 0 m ys H1) ∧ ∀ i m ys H, W i m ys H → ys.length ≤ sizeLine ∧
    ((J.stop i H ∧ Q ys H) ∨
     (J.go i H ∧ ∀ x H', J.yld i H x H' → g x σ H' fun mE H2 => Agree σ mE ∧ tt mE H2 fun b H3 =>
        if b = true then tm mE H3 ys fun ys' H4 => ∃ m', m' < m ∧ W (i + 1) m' ys' H4 else ∃ m', m' < m ∧ W (i + 1) m' ys H3))
theorem wW {A:M5}{R:lX->G5->Prop}{s:G5}{g0 g1:X4}{it acc:G2}(ha:g1.is_async=0)
 (h0:Z0 (R1 prog w) A (.compLoop (.ListComp elt [g0,g1] scope pos) 1 it acc env) R s)
 (h:D7 (R1 prog w) A (gE it) (λit' s'=>Z0 (R1 prog w) A (.compLoop (.ListComp elt [g0,g1] scope pos) 1 it' acc env) R s')
  (notedBy (R1 prog w) A env λx s'=>R (.error x) s') s):
 Z0 (R1 prog w) A (.compStart (.ListComp elt [g0,g1] scope pos) 1 it acc env) R s:=by
 obtain⟨tg,iter,ifs,as⟩:=g1;cases (show as=0 from ha);refine codeAny_of_tree (wpAny_notedAt ?_);obtain⟨hp,g,d,tk,os⟩:=s;unfold compStart
 wp_walk
 refine wpAny_askSetting ?_;split
 ·exact G9 ⟨rfl,h0⟩
 ·exact wpAny_bind (bE (wpAny_bind (Q0 (wpAny_bind (T3 h (λ_ _ on=>G9 ⟨rfl,on⟩) λ_ _ x=>x)))))
theorem Gq {D:G6}{g0:X4}(hc:X.calm=true)(hx:X.xe=λ_ _=>False)
 (hi:PI X tg iter wi)(hg:PG X tg g)(ht:PTs X ifs tt)(he:PE X elt te)(hs: ∀x,D9 iter X.env x=pure x):
 Mi X D (VL (.ListComp elt [g0,⟨tg,iter,ifs,0⟩] scope pos) iter X.env (.ref D)) (mIn wi g tt (DJ te)):=by
 intro pins s σ H ys us Q I hv hz DX cD pD h;have q:=hi _ s σ H _ I h;rw [hx] at q;unfold VL;refine wpAny_bind (T3 q (λv s1 h1=>wpAny_bind (Q0 (wpAny_bind (wpAny_of_eq (hs v) (wpAny_bind (O5 (T3 h1 (λitv s2 h2=> ?_) λ_ _ z=>z))))))) λ_ _ z=>z);obtain⟨it,fp,tn,J,H2,e,I2,T,st2,f2,W,⟨m0,w0⟩,turn⟩:=h2;subst e;refine wpAny_bind (wpAny_runOwn ?_);have neD: ∀b∈fp,b≠D:=λb hb=>by
  have z:=(f2 b hb).2.2.2.2.2 (D,A5 us) (P4 _ (M8 _ P6));exact C6 z
 have stat: ∀ {us':G0 G2} {H':Hp},(∀b∈fp,H' b=none)-> ∀b∈fp,Vk X ([(D,A5 us')]++pins) H' b:=λ{us' H'} hn b hb=>by
  have q:=f2 b hb;refine⟨hn b hb,q.2.1,q.2.2.1,q.2.2.2.1,q.2.2.2.2.1,λp hp=> ?_⟩;rcases R8.mp hp with z|z
  ·exact q.2.2.2.2.2 p (M8 _ z)
  ·rcases R8.mp z with z|z
   ·rcases P2.mp z with rfl
    exact C6 (neD b hb)
   ·exact q.2.2.2.2.2 p (P4 _ (P4 _ z))
 have loop:Z0 (R1 X.prog X.w) X.A (.compLoop (.ListComp elt [g0,⟨tg,iter,ifs,0⟩] scope pos) 1 (.ref it) (.ref D) X.env)
  (λr s'=>match r with| .ok f=>D7 (R1 X.prog X.w) X.A (pure ()) (λ_ s'=> ∃ys' us' H',Vals ys' us'/\Inv X ([(D,A5 us')]++pins) σ H' s'/\Q ys' H') (λ_ _=>False) s'| .error e=>cameBackBy (R1 X.prog X.w) X.A X.env (λ_ _=>False) e s') s2:=by
  refine Yc (act:=vV elt X.env (.ref D)) (λn s'=> ∃i ys us H',Vals ys us/\Inv X ([(D,A5 us)]++pins) σ H' s'/\tn i s'.heap/\(∀b∈fp,H' b=none)/\W i n ys H') rfl ?_ m0
   ⟨0,ys,us,H2,hv,I2,st2,λb hb=>(f2 b hb).1,w0⟩
  rintro n s5 ⟨i,ys,us,H5,hv5,I5,st5,fr5,w5⟩;obtain⟨hz,tr⟩:=turn i n ys H5 w5;rcases tr with ⟨stop,qn⟩|⟨go,step⟩
  ·refine T3 (T.done X rfl rfl rfl hc i _ s5 _ H5 (λ_ _=>False) I5 (stat fr5) st5 stop) (λr s6 ⟨hr,I6⟩=> ?_) λ_ _ z=>z
   subst hr;exact G9 ⟨ys,us,H5,hv5,I6,qn⟩
  ·refine T3 (T.item X rfl rfl rfl hc i _ s5 _ H5 (λ_ _=>False) I5 (stat fr5) st5 go) (λr s6 ⟨u,hr,h6⟩=> ?_) λ_ _ z=>z
   subst hr;refine T3 h6 (λ_ s7 ⟨x,H7,I7,r7,y7,st7,fr7⟩=> ?_) λ_ _ z=>z
   have I7':=I7.pinned (stat fr7) (T.obj _ _ st7);have q7:=hg _ s7 _ H7 x u _ I7' r7 (step x H7 y7);rw [hx] at q7;refine T3 q7 (λ_ s8 ⟨mP,H8,I8,ag8,q8⟩=> ?_) λ_ _ z=>z
   have q9:=ht _ s8 mP H8 _ I8 q8;rw [hx] at q9;refine T3 q9 (λok s9 ⟨H9,I9,q9⟩=> ?_) λ_ _ z=>z
   have keepT: ∀ {mB:St} {H':Hp} {s':G5} {us:G0 G2},Inv X (([(D,A5 us)]++pins)++wx fp s7.heap) mB H' s'->tn (i+1) s'.heap/\ ∀b∈fp,H' b=none:=λ{mB H' s' us} I'=>
    ⟨T.keep _ _ _ st7 λb hb o e=>(I'.pin (b,o) (P4 _ (P4 _ (zl hb e)))).1,λb hb=>by
     obtain⟨o,e,_⟩:=T.obj _ _ st7 b hb;exact(I'.pin (b,o) (P4 _ (P4 _ (zl hb e)))).2.1⟩
   cases ok with
   |false=>
    have q9: ∃m',m'<n/\W (i+1) m' ys H9:=q9;obtain⟨m',hm,w9⟩:=q9;obtain⟨t9,f9⟩:=keepT I9;exact⟨m',hm,i+1,ys,us,H9,hv5,(I9.unpinned).weak ag8.1.symm ag8.2,t9,f9,w9⟩
   |true=>
    have q9:DJ te mP H9 ys λys' H4=> ∃m',m'<n/\W (i+1) m' ys' H4:=q9
    have pD': ∀p∈X.pn++(pins++wx fp s7.heap),p.1≠D:=λp hp=>by
     rcases R8.mp hp with z|z
     ·exact pD p (M8 _ z)
     ·rcases R8.mp z with z|z
      ·exact pD p (P4 _ z)
      ·exact neD _ (yY z).1
    rw [J8] at I9;have q10:=Jp (D:=D) hx he (pins++wx fp s7.heap) s9 mP H9 ys us _ I9 hv5 hz DX cD pD' q9;show D7 _ _ (vV _ _ _) _ _ s9;refine T3 q10 (λ_ s10 ⟨ys',us',H10,hv10,I10,m',hm,w10⟩=> ?_) λ_ _ z=>z
    rw [<-J8] at I10;obtain⟨t10,f10⟩:=keepT I10;exact⟨m',hm,i+1,ys',us',H10,hv10,(I10.unpinned).weak ag8.1.symm ag8.2,t10,f10,w10⟩
 exact wW rfl loop (T.self X.A 0 _ _ _ st2 loop)
theorem Gr (elt iter tg iter' tg':D8)(ifs ifs':G0 D8)(scope:L7)(pos:Pos)(it acc:G2)(env:Env):
 dO (.ListComp elt [⟨tg,iter,ifs,0⟩,⟨tg',iter',ifs',0⟩] scope pos) 0 it acc env=
  vU iter tg ifs it env (VL (.ListComp elt [⟨tg,iter,ifs,0⟩,⟨tg',iter',ifs',0⟩] scope pos) iter' env acc) (.compLoop (.ListComp elt [⟨tg,iter,ifs,0⟩,⟨tg',iter',ifs',0⟩] scope pos) 0 it acc env):=by
 unfold vU VL;simp only [bind_assoc,pure_bind];rfl
def MR (js:G0 P0)(wi:TI)(g:TG)(tt:TT)(wi':TI)(g':TG)(tt':TT)(te:TE):TE:=Mj js wi g tt (mIn wi' g' tt' (DJ te))
theorem DL {iter' tg':D8}{ifs':G0 D8}{wi':TI}{g':TG}{tt':TT}(hc:X.calm=true)(S:BlockOk X scope js)(hi:PI X tg iter wi)
 (hg: ∀X',jf X scope X'->PG X' tg g)(ht: ∀X',jf X scope X'->PTs X' ifs tt)(hi': ∀X',jf X scope X'->PI X' tg' iter' wi')
 (hg': ∀X',jf X scope X'->PG X' tg' g')(ht': ∀X',jf X scope X'->PTs X' ifs' tt')(he: ∀X',jf X scope X'->PE X' elt te)
 (hs: ∀x,D9 iter X.env x=pure x:=by intro _;rfl)(hs': ∀env x,D9 iter' env x=pure x:=by intro _ _;rfl):
 PE X (.ListComp elt [⟨tg,iter,ifs,0⟩,⟨tg',iter',ifs',0⟩] scope pos) (MR js wi g tt wi' g' tt' te):=by
 intro pins s σ H Q I h;rw [g3];exact VJ (use:=none) hc S hi rfl hg ht (λenv acc=>VL (.ListComp elt [⟨tg,iter,ifs,0⟩,⟨tg',iter',ifs',0⟩] scope pos) iter' env acc) (λ_ _ _=>Gr ..)
  (λX' hX D=>Gq (by obtain⟨_,_,_,_,rfl⟩:=hX;exact hc) (by obtain⟨_,_,_,_,rfl⟩:=hX;rfl) (hi' X' hX) (hg' X' hX) (ht' X' hX) (he X' hX) (hs' _)) hs I h
  λD C H' s' m hn hk _ _ _ _ _ _ q=>⟨m,hn,λh' hs'=>⟨.ref D,H',hk h' hs',rfl,q⟩⟩
inductive D where
 |non|bl (b:B4)|int (i:G8)|str (x:Str)|tup (ds:G0 D)|lst (a:G6)|dic (x:Str) (i:G8)|dct (a:G6)|scr (ns:G0 G8)|exc (C:G6)|fn (a:G6)
def Scr (K:G1)(H:Hp)(a:G6)(ns:G0 G8):Prop:=
 (∃o,H a=some (.frz o (.lst (ns.map V.int))))\/
  ∃ (o:Obj) (its:B3 G2) (n:P0),K.lookup a=some o/\o.cls= .type "list" /\o.dict=none/\o.data= .seq its n/\its.size<=sizeLine/\Vals (ns.map V.int) its.toList
variable {K:G1}
theorem Scr.sq {ns:G0 G8}(h:Scr K H a ns):SqL K H a (ns.map V.int):=h.elim (λz=> .inl (.inr z)) .inr
mutual
def RelD (K:G1)(H:Hp):D->V->Prop
 | .non,v=>v= .non
 | .bl b,v=>v= .bl b
 | .int i,v=>v= .int i
 | .str x,v=>v= .str x
 | .tup ds,v=> ∃a vs,v= .ref a/\H a=some (.tup vs)/\RelDs K H ds vs
 | .lst a,v=>v= .ref a/\ ∃vs,H a=some (.lst vs)
 | .dic x i,v=> ∃a,v= .ref a/\H a=some (.dK [(Q6 x,V.int i)])
 | .dct a,v=>v= .ref a
 | .scr ns,v=> ∃a,v= .ref a/\Scr K H a ns
 | .exc C,v=> ∃x o vs,v= .ref x/\H x=some (.frz o (.own 0))/\o.cls= .ref C/\o.data= .fields vs
 | .fn a,v=>v= .ref a/\E3 K (.ref a)=true
def RelDs (K:G1)(H:Hp):G0 D->G0 V->Prop
 | [],vs=>vs= []
 |d::ds,vs=> ∃v r,vs=v::r/\RelD K H d v/\RelDs K H ds r
end
structure Kept (H H':Hp):Prop where
 tup: ∀a xs,H a=some (.tup xs)->H' a=some (.tup xs)
 lst: ∀a xs,H a=some (.lst xs)-> ∃ys,H' a=some (.lst ys)
 dic: ∀a x i,H a=some (.dK [(Q6 x,V.int i)])->H' a=some (.dK [(Q6 x,V.int i)])
 frz: ∀a o u,H a=some (.frz o u)->H' a=some (.frz o u)
theorem Kept.refl (H:Hp):Kept H H:=⟨λ_ _ h=>h,λ_ xs h=>⟨xs,h⟩,λ_ _ _ h=>h,λ_ _ _ h=>h⟩
theorem Kept.trans {A B C:Hp}(x:Kept A B)(y:Kept B C):Kept A C:=
 ⟨λa xs h=>y.tup a xs (x.tup a xs h),λa xs h=>let ⟨_,e⟩:=x.lst a xs h;y.lst a _ e,λa k i h=>y.dic a k i (x.dic a k i h),λa o u h=>y.frz a o u (x.frz a o u h)⟩
variable {p:G6}
theorem Kept.new (h:H p=none):Kept H (upd H p o):=
 ⟨λa xs e=>by rw [jg (je e h)];exact e,λa xs e=>⟨xs,by rw [jg (je e h)];exact e⟩,λa k i e=>by rw [jg (je e h)];exact e,λa o u e=>by rw [jg (je e h)];exact e⟩
theorem Kept.put {xs ys:G0 V}(h:H p=some (.lst xs)):Kept H (upd H p (.lst ys)):=
 ⟨λa zs e=>by rw [jg (YA e h (by intro z;cases z))];exact e,λa zs e=>by
  by_cases q:a=p
  ·subst q;exact⟨ys,jl⟩
  ·exact⟨zs,by rw [jg q];exact e⟩,
  λa k i e=>by rw [jg (YA e h (by intro z;cases z))];exact e,λa o u e=>by rw [jg (YA e h (by intro z;cases z))];exact e⟩
def DObj (o:HO):Prop:=(∃kvs:G0 (G8×V),o= .dK (kvs.map λp=>((aM p.1:Key),p.2)))\/ ∃φ,o= .ext φ
theorem DObj.no (d:DObj o):(∀xs,o≠ .tup xs)/\(∀xs,o≠ .lst xs)/\(∀x i,o≠ .dK [(Q6 x,V.int i)])/\(∀p u,o≠ .frz p u)/\ ∀ps,o≠ .tbl ps:=by
 rcases d with ⟨kvs,rfl⟩|⟨φ,rfl⟩
 ·refine⟨λ_ z=>(nomatch z),λ_ z=>(nomatch z),λx i z=> ?_,λ_ _ z=>(nomatch z),λ_ z=>(nomatch z)⟩;injection z with z
  cases kvs with
  |nil=>cases z
  |cons p r=>injection z with z _;injection z with z _;cases z
 ·exact⟨λ_ z=>(nomatch z),λ_ z=>(nomatch z),λ_ _ z=>(nomatch z),λ_ _ z=>(nomatch z),λ_ z=>(nomatch z)⟩
theorem Kept.putD {o':HO}(h:H p=some o)(d:DObj o):Kept H (upd H p o'):=by
 obtain⟨d1,d2,d3,d4,_⟩:=d.no;have ne: ∀ {a:G6} {u:HO},H a=some u->o≠u->a≠p:=λe n z=>by subst z;rw [h] at e;injection e with e;exact n e
 exact⟨λa xs e=>by rw [jg (ne e (d1 xs))];exact e,λa xs e=>⟨xs,by rw [jg (ne e (d2 xs))];exact e⟩,λa x i e=>by rw [jg (ne e (d3 x i))];exact e,λa q u e=>by rw [jg (ne e (d4 q u))];exact e⟩
mutual
variable {H':Hp}
theorem RelD.mono (k:Kept H H'): ∀ {d:D} {v:V},RelD K H d v->RelD K H' d v
 | .non,_,h=>h
 | .bl _,_,h=>h
 | .int _,_,h=>h
 | .str _,_,h=>h
 | .tup ds,v,h=>by
  obtain⟨a,vs,e,h1,h2⟩:=(show ∃a vs,v= .ref a/\H a=some (.tup vs)/\RelDs K H ds vs from h);exact⟨a,vs,e,k.tup _ _ h1,RelDs.mono k h2⟩
 | .lst a,v,h=>by
  obtain⟨e,vs,h1⟩:=(show v= .ref a/\ ∃vs,H a=some (.lst vs) from h);exact⟨e,k.lst _ _ h1⟩
 | .dic x i,v,h=>by
  obtain⟨a,e,h1⟩:=(show ∃a,v= .ref a/\H a=some (.dK [(Q6 x,V.int i)]) from h);exact⟨a,e,k.dic _ _ _ h1⟩
 | .dct a,v,h=>h
 | .scr ns,v,h=>by
  obtain⟨a,e,h1⟩:=(show ∃a,v= .ref a/\Scr K H a ns from h);exact⟨a,e,h1.elim (λ⟨o,z⟩=> .inl ⟨o,k.frz _ _ _ z⟩) .inr⟩
 | .exc C,v,h=>by
  obtain⟨x,o,vs,e,h1,r⟩:=(show ∃x o vs,v= .ref x/\H x=some (.frz o (.own 0))/\o.cls= .ref C/\o.data= .fields vs from h);exact⟨x,o,vs,e,k.frz _ _ _ h1,r⟩
 | .fn a,v,h=>h
theorem RelDs.mono (k:Kept H H'): ∀ {ds:G0 D} {vs:G0 V},RelDs K H ds vs->RelDs K H' ds vs
 | [],_,h=>h
 |d::ds,vs,h=>by
  obtain⟨v,r,e,h1,h2⟩:=(show ∃v r,vs=v::r/\RelD K H d v/\RelDs K H ds r from h);exact⟨v,r,e,RelD.mono k h1,RelDs.mono k h2⟩
end
section
variable {K:G1}{H:Hp}
theorem RelDs.nil:RelDs K H [] []:=rfl
theorem RelDs.cons {d:D}{v:V}{ds:G0 D}{vs:G0 V}(h:RelD K H d v)(t:RelDs K H ds vs):RelDs K H (d::ds) (v::vs):=⟨v,vs,rfl,h,t⟩
theorem RelDs.length: ∀ {ds:G0 D} {vs:G0 V},RelDs K H ds vs->ds.length=vs.length
 | [],_,h=>by cases (show _= [] from h);rfl
 |d::ds,vs,h=>by
  obtain⟨v,r,e,_,h2⟩:=(show ∃v r,vs=v::r/\RelD K H d v/\RelDs K H ds r from h);subst e;simp [RelDs.length h2]
theorem RelDs.append: ∀ {ds es:G0 D} {vs us:G0 V},RelDs K H ds vs->RelDs K H es us->RelDs K H (ds++es) (vs++us)
 | [],_,_,_,h,g=>by cases (show _= [] from h);exact g
 |d::ds,es,vs,us,h,g=>by
  obtain⟨v,r,e,h1,h2⟩:=(show ∃v r,vs=v::r/\RelD K H d v/\RelDs K H ds r from h);subst e;exact .cons h1 (RelDs.append h2 g)
theorem RelDs.get: ∀ {ds:G0 D} {vs:G0 V} {i:P0} {d:D},RelDs K H ds vs->ds[i]? =some d-> ∃v,vs[i]? =some v/\RelD K H d v
 |d'::ds,vs,i,d,h,e=>by
  obtain⟨v,r,q,h1,h2⟩:=(show ∃v r,vs=v::r/\RelD K H d' v/\RelDs K H ds r from h);subst q;cases i with
  |zero=>simp at e;subst e;exact⟨v,rfl,h1⟩
  |succ i=>
   obtain⟨u,q1,q2⟩:=RelDs.get h2 (i:=i) (d:=d) (by simpa using e);exact⟨u,by simpa using q1,q2⟩
theorem RelDs.take (n:P0): ∀ {ds:G0 D} {vs:G0 V},RelDs K H ds vs->RelDs K H (ds.take n) (vs.take n):=by
 induction n with
 |zero=>intro ds vs _;exact(rfl:RelDs K H [] [])
 |succ n ih=>
  intro ds vs h;cases ds with
  |nil=>cases (show vs= [] from h);exact .nil
  |cons d ds=>
   obtain⟨v,r,e,h1,h2⟩:=(show ∃v r,vs=v::r/\RelD K H d v/\RelDs K H ds r from h);subst e;exact .cons h1 (ih h2)
theorem RelDs.drop (n:P0): ∀ {ds:G0 D} {vs:G0 V},RelDs K H ds vs->RelDs K H (ds.drop n) (vs.drop n):=by
 induction n with
 |zero=>intro ds vs h;exact h
 |succ n ih=>
  intro ds vs h;cases ds with
  |nil=>cases (show vs= [] from h);exact .nil
  |cons d ds=>
   obtain⟨v,r,e,h1,h2⟩:=(show ∃v r,vs=v::r/\RelD K H d v/\RelDs K H ds r from h);subst e;exact ih h2
theorem RelDs.set {d:D}{v:V}(q:RelD K H d v): ∀ {ds:G0 D} {vs:G0 V} (i:P0),RelDs K H ds vs->RelDs K H (ds.set i d) (vs.set i v)
 | [],_,_,h=>by cases (show _= [] from h);exact .nil
 |e::ds,vs,i,h=>by
  obtain⟨u,r,z,h1,h2⟩:=(show ∃u r,vs=u::r/\RelD K H e u/\RelDs K H ds r from h);subst z;cases i with
  |zero=>exact .cons q h2
  |succ i=>exact .cons h1 (RelDs.set q i h2)
theorem yq: ∀ns:G0 G8,RelDs K H (ns.map D.int) (ns.map V.int)
 | []=> .nil
 |n::ns=> .cons rfl (yq ns)
end
inductive DC where
 |ik (kv:G0 (G8×D))
 |tk (ep:P0) (kv:G0 (G0 (G0 G8)×D))
structure HD where
 ls:G6->P5 (G0 D)
 dc:G6->P5 DC
instance:CoeFun HD λ_=>G6->P5 (G0 D):=⟨HD.ls⟩
def zi (h:HD)(a:G6)(ds:G0 D):HD:=⟨λb=>if b=a then some ds else h b,h.dc⟩
def Wq (h:HD)(a:G6):HD:=⟨λb=>if b=a then none else h b,h.dc⟩
variable {h:HD}{ds:G0 D}
theorem ja:zi h a ds a=some ds:=R3 rfl
theorem zz {b:G6}(e:b≠a):zi h a ds b=h b:=S4 e
theorem zH (e:h a=none):Wq (zi h a ds) a=h:=by
 obtain⟨l,d⟩:=h;refine congrArg (HD.mk · d) ?_
 funext b
 show (if b=a then none else if b=a then some ds else l b)=l b
 by_cases q:b=a
 ·subst q;rw [R3 rfl];exact e.symm
 ·rw [S4 q,S4 q]
def LN:G0 Str:= ["law","_law_right","_law_words","_law_other_words","_law_many_right","_law_all","_law_told_row","_law_all_right","_law_desk_right","_law_signs_right","_law_lists_right","_law_text_right"]
def TabK (K:G1)(P:G6):Prop:= ∃x∈LN,∃c,cV K x=some (c,P)
def CodesOk (H:Hp)(ps:B3 G2):Prop:=TriplesOk ps.toList/\ ∀pos cv,codeAmong pos ps.toList=some cv-> ∃ (c:G6) (o:Obj) (vs:B3 G2) (q:Str) (t:Tok),cv= .ref c/\H c=some (.frz o (.own 0))/\o.data= .fields vs/\vs[1]? =some (.str q t)
def CTabs (K:G1)(H:Hp):Prop:= ∀P,TabK K P-> ∃ps,H P=some (.tbl ps)/\CodesOk H ps
theorem CodesOk.mono {ps:B3 G2}(k: ∀a o u,H a=some (.frz o u)->H' a=some (.frz o u))(c:CodesOk H ps):CodesOk H' ps:=
 ⟨c.1,λpos cv e=>let ⟨c',o,vs,q,t,e1,e2,r⟩:=c.2 pos cv e;⟨c',o,vs,q,t,e1,k _ _ _ e2,r⟩⟩
theorem CTabs.mono (x:CTabs K H)(k: ∀a o u,H a=some (.frz o u)->H' a=some (.frz o u))(kt: ∀a ps,H a=some (.tbl ps)->H' a=some (.tbl ps)):CTabs K H':=λP hP=>
 let ⟨ps,e,c⟩:=x P hP;⟨ps,kt _ _ e,c.mono k⟩
theorem CTabs.new (x:CTabs K H)(e:H p=none):CTabs K (upd H p o):=
 x.mono (λa o' u h=>by rw [jg (je h e)];exact h) λa ps h=>by rw [jg (je h e)];exact h
theorem CTabs.put {xs:G0 V}(x:CTabs K H)(e:H p=some (.lst xs)):CTabs K (upd H p o):=
 x.mono (λa o' u h=>by rw [jg (YA h e (by intro z;cases z))];exact h) λa ps h=>by rw [jg (YA h e (by intro z;cases z))];exact h
def Wr (T:G0 (G0 G8)):G8:=bK (F8 (T.map λr=>bK (F8 (r.map hashInt))))
def Zu (a:G6)(ep:P0)(xs:G0 (G0 (G0 G8)×G6×V)):HO:= .ext λh=>(a==U1)=false/\xs.length<=sizeLine/\ ∃ys:G0 (G0 (G0 G8)×G6×G2),Paired (λp q=>p.1=q.1/\p.2.1=q.2.1/\RelV p.2.2 q.2.2) xs ys/\
 ∃o es,h.get? a=some o/\o.ExactDict/\o.data= .dict es ep/\es.toList=ys.map λx=>⟨Wr x.1,.ref x.2.1,x.2.2⟩
def DRel (K:G1)(H:Hp)(a:G6):DC->Prop
 | .ik kv=> ∃kvs:G0 (G8×V),H a=some (.dK (kvs.map λp=>((aM p.1:Key),p.2)))/\kv.map (·.1)=kvs.map (·.1)/\RelDs K H (kv.map (·.2)) (kvs.map (·.2))
 | .tk ep kv=> ∃xs:G0 (G0 (G0 G8)×G6×V),H a=some (Zu a ep xs)/\(kv.map (·.1)).Nodup/\kv.map (·.1)=xs.map (·.1)/\(∀x∈xs,RelD K H (.tup (x.1.map λr=> .tup (r.map D.int))) (.ref x.2.1))/\RelDs K H (kv.map (·.2)) (xs.map (·.2.2))
theorem DRel.obj: ∀ {c:DC},DRel K H a c-> ∃o,H a=some o/\DObj o
 | .ik _,⟨kvs,e,_⟩=>⟨_,e,.inl ⟨kvs,rfl⟩⟩
 | .tk _ _,⟨xs,e,_⟩=>⟨_,e,.inr ⟨_,rfl⟩⟩
theorem DRel.mono (k:Kept H H')(z: ∀o,H a=some o->H' a=some o): ∀ {c:DC},DRel K H a c->DRel K H' a c
 | .ik _,⟨kvs,e,q,r⟩=>⟨kvs,z _ e,q,r.mono k⟩
 | .tk _ _,⟨xs,e,n,q,t,r⟩=>⟨xs,z _ e,n,q,λx hx=>(t x hx).mono k,r.mono k⟩
structure RelH (K:G1)(h:HD)(H:Hp):Prop where
 ls: ∀a ds,h a=some ds-> ∃vs,H a=some (.lst vs)/\RelDs K H ds vs
 tb:CTabs K H
 dc: ∀a c,h.dc a=some c->DRel K H a c
instance {K:G1}{h:HD}{H:Hp}:CoeFun (RelH K h H) λ_=> ∀a ds,h a=some ds-> ∃vs,H a=some (.lst vs)/\RelDs K H ds vs:=⟨RelH.ls⟩
structure Sub (h h':HD):Prop where
 ls: ∀a ds,h a=some ds->h' a=some ds
 dc: ∀a c,h.dc a=some c->h'.dc a=some c
instance {h h':HD}:CoeFun (Sub h h') λ_=> ∀a ds,h a=some ds->h' a=some ds:=⟨Sub.ls⟩
theorem Sub.refl (h:HD):Sub h h:=⟨λ_ _ e=>e,λ_ _ e=>e⟩
theorem Sub.trans {a b c:HD}(x:Sub a b)(y:Sub b c):Sub a c:=⟨λd ds e=>y d ds (x d ds e),λd ds e=>y.dc d ds (x.dc d ds e)⟩
theorem Sub.drop (h:HD)(a:G6):Sub (Wq h a) h:=⟨λb ds e=>by
 have e:(if b=a then none else h b)=some ds:=e;split at e
 ·cases e
 ·exact e,λ_ _ e=>e⟩
theorem Sub.new (e:h p=none):Sub h (zi h p ds):=⟨λa es q=>(by
 rw [zz];exact q;intro z;subst z;rw [e] at q;cases q),λ_ _ e=>e⟩
section
variable {K:G1}{h h':HD}{H:Hp}
theorem RelH.sub (r:RelH K h H)(s:Sub h' h):RelH K h' H:=⟨λa ds e=>r a ds (s a ds e),r.tb,λa c e=>r.dc a c (s.dc a c e)⟩
theorem RelH.free (r:RelH K h H){p:G6}(e:H p=none):h p=none:=by
 cases q:h p with
 |none=>rfl
 |some ds=>obtain⟨vs,z,_⟩:=r p ds q;rw [e] at z;cases z
theorem RelH.freeC (r:RelH K h H){p:G6}(e:H p=none):h.dc p=none:=by
 cases q:h.dc p with
 |none=>rfl
 |some c=>obtain⟨o,z,_⟩:=(r.dc p c q).obj;rw [e] at z;cases z
theorem RelH.dcN (r:RelH K h H){p:G6}{o:HO}(e:H p=none): ∀a c,h.dc a=some c->DRel K (upd H p o) a c:=λa c q=>
 (r.dc a c q).mono (.new e) λu z=>by rw [jg (je z e)];exact z
theorem RelH.new (r:RelH K h H){p:G6}{o:HO}(e:H p=none):RelH K h (upd H p o):=⟨λa ds q=>by
 obtain⟨vs,z,w⟩:=r a ds q;exact⟨vs,by rw [jg (je z e)];exact z,w.mono (.new e)⟩,r.tb.new e,r.dcN e⟩
theorem RelH.newL (r:RelH K h H){p:G6}{ds:G0 D}{vs:G0 V}(e:H p=none)(q:RelDs K H ds vs):RelH K (zi h p ds) (upd H p (.lst vs)):=⟨λa es z=>by
 by_cases w:a=p
 ·subst w;rw [ja] at z;cases z;exact⟨vs,jl,q.mono (.new e)⟩
 ·rw [zz w] at z;obtain⟨us,z1,z2⟩:=r a es z;exact⟨us,by rw [jg w];exact z1,z2.mono (.new e)⟩,r.tb.new e,r.dcN e⟩
theorem RelH.put (r:RelH K h H){p:G6}{ds:G0 D}{vs us:G0 V}(e:H p=some (.lst us))(q:RelDs K H ds vs):RelH K (zi h p ds) (upd H p (.lst vs)):=⟨λa es z=>by
 by_cases w:a=p
 ·subst w;rw [ja] at z;cases z;exact⟨vs,jl,q.mono (.put e)⟩
 ·rw [zz w] at z;obtain⟨us,z1,z2⟩:=r a es z;exact⟨us,by rw [jg w];exact z1,z2.mono (.put e)⟩,r.tb.put e,λa c z=>(r.dc a c z).mono (.put e) λo w=>by
   obtain⟨u,w',d⟩:=(r.dc a c z).obj;rw [jg (YA w' e (d.no.2.1 _))];exact w⟩
end
def Qm (h:HD)(p:G6)(c:DC):HD:=⟨h.ls,λb=>if b=p then some c else h.dc b⟩
theorem jY {c:DC}:(Qm h p c).dc p=some c:=R3 rfl
theorem wI {c:DC}(e:a≠p):(Qm h p c).dc a=h.dc a:=S4 e
theorem Sub.newC {c:DC}(e:h.dc p=none):Sub h (Qm h p c):=⟨λ_ _ e=>e,λa d q=>by
 rw [wI];exact q;intro z;subst z;rw [e] at q;cases q⟩
section
variable {K:G1}{h:HD}{H:Hp}
theorem RelH.newC (r:RelH K h H){p:G6}{o:HO}{c:DC}(e:H p=none)(d:DRel K (upd H p o) p c):RelH K (Qm h p c) (upd H p o):=⟨(r.new e).ls,r.tb.new e,λa k z=>by
 by_cases w:a=p
 ·subst w;rw [jY] at z;cases z;exact d
 ·rw [wI w] at z;exact r.dcN e a k z⟩
theorem RelH.putC (r:RelH K h H){p:G6}{o o':HO}{c:DC}(e:H p=some o)(ob:DObj o)(d:DRel K (upd H p o') p c):RelH K (Qm h p c) (upd H p o'):=by
 obtain⟨d1,d2,d3,d4,d5⟩:=ob.no;have ne: ∀ {a:G6} {u:HO},H a=some u->o≠u->a≠p:=λq n z=>by subst z;rw [e] at q;injection q with q;exact n q
 refine⟨λa ds z=> ?_,r.tb.mono (λa q u z=>by rw [jg (ne z (d4 q u))];exact z) (λa ps z=>by rw [jg (ne z (d5 ps))];exact z),λa k z=> ?_⟩
 ·obtain⟨vs,z1,z2⟩:=r a ds z;exact⟨vs,by rw [jg (ne z1 (d2 vs))];exact z1,z2.mono (.putD e ob)⟩
 ·by_cases w:a=p
  ·subst w;rw [jY] at z;cases z;exact d
  ·rw [wI w] at z;exact(r.dc a k z).mono (.putD e ob) λu q=>by rw [jg w];exact q
end
abbrev SD:=G0 (P5 D)
def RelS (K:G1)(H:Hp)(mC:SD)(σ:St):Prop:=mC.length=σ.length/\ ∀ (i:P0) (d:D),mC[i]? =some (some d)-> ∃v,σ[i]? =some (some v)/\RelD K H d v
theorem RelS.mono {mC:SD}(r:RelS K H mC σ)(k:Kept H H'):RelS K H' mC σ:=⟨r.1,λi d e=>let ⟨v,a,b⟩:=r.2 i d e;⟨v,a,b.mono k⟩⟩
theorem RelS.set {mC:SD}{d:D}{v:V}(r:RelS K H mC σ)(q:RelD K H d v)(i:P0):RelS K H (mC.set i (some d)) (σ.set i (some v)):=⟨by simp [r.1],λj e h=>by
 by_cases z:i=j
 ·subst z;rw [V9] at h ⊢
  by_cases hl:i<mC.length
  ·rw [R3 rfl,R3 hl] at h;rw [R3 rfl,R3 (by rw [<-r.1];exact hl)];cases h;exact⟨v,rfl,q⟩
  ·rw [R3 rfl,S4 hl] at h;cases h
 ·rw [B5 z] at h ⊢;exact r.2 j e h⟩
theorem RelS.clear1 {mC:SD}(r:RelS K H mC σ)(i:P0):RelS K H (mC.set i none) (σ.set i none):=⟨by simp [r.1],λj e h=>by
 by_cases z:i=j
 ·subst z;rw [V9] at h;split at h
  ·split at h<;>cases h
  ·contradiction
 ·rw [B5 z] at h ⊢;exact r.2 j e h⟩
def jG:G0 P0->SD->SD
 | [],σ=>σ
 |j::js,σ=>jG js (σ.set j none)
theorem RelS.clear: ∀ (js:G0 P0) {mC:SD} {σ:St},RelS K H mC σ->RelS K H (jG js mC) (zg js σ)
 | [],_,_,r=>r
 |j::js,_,_,r=>RelS.clear js (r.clear1 j)
abbrev KD:=D->HD->Prop
abbrev TED:=SD->HD->KD->Prop
abbrev TTD:=SD->HD->(B4->HD->Prop)->Prop
abbrev TAD:=SD->HD->(G0 D->HD->Prop)->Prop
abbrev RD2:=D->D->HD->KD->Prop
abbrev RDn:=G0 D->HD->KD->Prop
structure EndsD where
 nx:SD->HD->Prop
 rt:KD
 bk:SD->HD->Prop:=λ_ _=>False
 ct:SD->HD->Prop:=λ_ _=>False
abbrev TSD:=EndsD->SD->HD->Prop
abbrev TGD:=D->SD->HD->(SD->HD->Prop)->Prop
def Gs (K:G1)(H:Hp)(Qd:KD)(Q:VK):Prop:= ∀d v h' H',Kept H H'->RelH K h' H'->RelD K H' d v->Qd d h'->Q v H'
def LE (K:G1)(t:TED):TE:=λσ H Q=> ∃mC h Qd,RelS K H mC σ/\RelH K h H/\t mC h Qd/\Gs K H Qd Q
def LT (K:G1)(t:TTD):TT:=λσ H Q=> ∃mC h Qd,RelS K H mC σ/\RelH K h H/\t mC h Qd/\ ∀b h' H',Kept H H'->RelH K h' H'->Qd b h'->Q b H'
def LA (K:G1)(t:TAD):TA:=λσ H Q=> ∃mC h Qd,RelS K H mC σ/\RelH K h H/\t mC h Qd/\ ∀ds vs h' H',Kept H H'->RelH K h' H'->RelDs K H' ds vs->Qd ds h'->Q vs H'
def LR (K:G1)(f:RD2):R2:=λx y H Q=> ∃dx dy h Qd,RelD K H dx x/\RelD K H dy y/\RelH K h H/\f dx dy h Qd/\Gs K H Qd Q
def LC (K:G1)(f:RDn):G0 V->Hp->VK->Prop:=λxs H Q=> ∃ds h Qd,RelDs K H ds xs/\RelH K h H/\f ds h Qd/\Gs K H Qd Q
def LG (K:G1)(g:TGD):TG:=λv σ H Q=> ∃d mC h Qd,RelD K H d v/\RelS K H mC σ/\RelH K h H/\g d mC h Qd/\ ∀mF h' mB H',Kept H H'->RelS K H' mF mB->RelH K h' H'->Qd mF h'->Q mB H'
def LS (K:G1)(t:TSD):TS:=λmM σ H=> ∃mC h Dd,RelS K H mC σ/\RelH K h H/\t Dd mC h/\
 (∀mF h' mB H',Kept H H'->RelS K H' mF mB->RelH K h' H'->Dd.nx mF h'->mM.nx mB H')/\Gs K H Dd.rt mM.rt/\
 (∀mF h' mB H',Kept H H'->RelS K H' mF mB->RelH K h' H'->Dd.bk mF h'->mM.bk mB H')/\(∀mF h' mB H',Kept H H'->RelS K H' mF mB->RelH K h' H'->Dd.ct mF h'->mM.ct mB H')
theorem PE.imp {t t':TE}(h:PE X e t)(i: ∀σ H Q,t' σ H Q->t σ H Q):PE X e t':=λpins s σ H Q I q=>h pins s σ H Q I (i σ H Q q)
theorem PT.imp {t t':TT}(h:PT X e t)(i: ∀σ H Q,t' σ H Q->t σ H Q):PT X e t':=λpins s σ H Q I q=>h pins s σ H Q I (i σ H Q q)
theorem PW.imp {t t':TT}(h:PW X e t)(i: ∀σ H Q,t' σ H Q->t σ H Q):PW X e t':=λwh pins s σ H Q I q=>h wh pins s σ H Q I (i σ H Q q)
theorem PA.imp {e:G0 D8}{t t':TA}(h:PA X e t)(i: ∀σ H Q,t' σ H Q->t σ H Q):PA X e t':=λpos pins s σ H Q I q=>h pos pins s σ H Q I (i σ H Q q)
theorem PS.imp {e:C3}{t t':TS}(h:PS X e t)(i: ∀D σ H,t' D σ H->t D σ H):PS X e t':=λpins s σ H D I q=>h pins s σ H D I (i D σ H q)
theorem PSs.imp {e:G0 C3}{t t':TS}(h:PSs X e t)(i: ∀D σ H,t' D σ H->t D σ H):PSs X e t':=λpins s σ H D I q=>h pins s σ H D I (i D σ H q)
theorem PG.imp {t t':TG}(h:PG X e t)(i: ∀v σ H Q,t' v σ H Q->t v σ H Q):PG X e t':=λpins s σ H v u Q I r q=>h pins s σ H v u Q I r (i v σ H Q q)
theorem OpR.imp {f:G2->G2->Sem G2}{r r':R2}(h:OpR X f r)(i: ∀x y H Q,r' x y H Q->r x y H Q):OpR X f r':=λpins s σ H x y v u Q I a b q=>h pins s σ H x y v u Q I a b (i x y H Q q)
theorem CallR.imp {f:G2}{r r':G0 V->Hp->VK->Prop}(h:CallR X f r)(i: ∀xs H Q,r' xs H Q->r xs H Q):CallR X f r':=λpins s σ H xs us Q I a q=>h pins s σ H xs us Q I a (i xs H Q q)
def Zh (i:P0):TED:=λσ h Q=> ∃d,σ[i]? =some (some d)/\Q d h
def dC (d:D):TED:=λ_ h Q=>Q d h
def dOp (f:RD2)(ta tb:TED):TED:=λσ h Q=>ta σ h λx h1=>tb σ h1 λy h2=>f x y h2 Q
def wX:TAD:=λ_ h Q=>Q [] h
def jI (ta:TED)(tr:TAD):TAD:=λσ h Q=>ta σ h λx h1=>tr σ h1 λxs h2=>Q (x::xs) h2
def MS (t:TAD):TED:=λσ h Q=>t σ h λds h1=>ds.length<=sizeLine/\Q (.tup ds) h1
def Qn (t:TAD):TED:=λσ h Q=>t σ h λds h1=>ds.length<=sizeLine/\ ∀p,h1 p=none->Q (.lst p) (zi h1 p ds)
def dCB (r:RDn)(t:TAD):TED:=λσ h Q=>t σ h λds h1=>r ds h1 Q
def zY (t:TED):TTD:=λσ h Q=>t σ h λx h1=> ∃k,x= .bl k/\Q k h1
def Zv (r r':RD2)(ta tb tc:TED):TED:=λσ h Q=>ta σ h λx h1=>tb σ h1 λy h2=>r x y h2 λz h3=> ∃k,z= .bl k/\
 (if k=true then tc σ h3 λw h4=>r' y w h4 Q else Q (.bl false) h3)
def Gt (t u:TTD):TTD:=λσ h Q=>t σ h λc h1=>if c=true then u σ h1 Q else Q false h1
def DM (t u:TTD):TTD:=λσ h Q=>t σ h λc h1=>if c=true then Q true h1 else u σ h1 Q
def YH (t:TTD):TTD:=λσ h Q=>t σ h λc h1=>Q (!c) h1
def Ws (ta tb:TED):TED:=λσ h Q=>ta σ h λx h1=> ∃c,x= .bl c/\if c=true then tb σ h1 Q else Q (.bl false) h1
def DN (ta tb:TED):TED:=λσ h Q=>ta σ h λx h1=> ∃c,x= .bl c/\if c=true then Q (.bl true) h1 else tb σ h1 Q
def Xw (ta:TED):TED:=λσ h Q=>ta σ h λx h1=> ∃c,x= .bl c/\Q (.bl (!c)) h1
def dIf (t:TTD)(ta tb:TED):TED:=λσ h Q=>t σ h λc h1=>if c=true then ta σ h1 Q else tb σ h1 Q
section
variable {K:G1}
theorem DO (i:P0): ∀σ H Q,LE K (Zh i) σ H Q->NN i σ H Q:=λσ H Q ⟨mC,h,Qd,rs,rh,⟨d,e,q⟩,p⟩=>let ⟨v,e1,e2⟩:=rs.2 i d e;⟨v,e1,p d v h H (.refl H) rh e2 q⟩
theorem Mk {d:D}{v:V}(r: ∀H,RelD K H d v): ∀σ H Q,LE K (dC d) σ H Q->tC v σ H Q:=λσ H Q ⟨mC,h,Qd,rs,rh,q,p⟩=>p d v h H (.refl H) rh (r H) q
variable {H:Hp}
theorem jx {H1:Hp}{Qd:KD}{Q:VK}(p:Gs K H Qd Q)(k:Kept H H1):Gs K H1 Qd Q:=λd v h' H' k'=>p d v h' H' (k.trans k')
variable {ta:TED}
theorem LE.bind {σ:St}{mC:SD}{h:HD}{kd:KD}{k:VK}(rs:RelS K H mC σ)(rh:RelH K h H)(t:ta mC h kd)(f: ∀d v h' H',Kept H H'->RelS K H' mC σ->RelH K h' H'->RelD K H' d v->kd d h'->k v H'):LE K ta σ H k:=
 ⟨mC,h,kd,rs,rh,t,λd v h' H' kp r1 r2 q=>f d v h' H' kp (rs.mono kp) r1 r2 q⟩
theorem LT.bind {ta:TTD}{σ:St}{mC:SD}{h:HD}{kd:B4->HD->Prop}{k:B4->Hp->Prop}(rs:RelS K H mC σ)(rh:RelH K h H)(t:ta mC h kd)(f: ∀b h' H',Kept H H'->RelS K H' mC σ->RelH K h' H'->kd b h'->k b H'):LT K ta σ H k:=
 ⟨mC,h,kd,rs,rh,t,λb h' H' kp r1 q=>f b h' H' kp (rs.mono kp) r1 q⟩
theorem LA.bind {ta:TAD}{σ:St}{mC:SD}{h:HD}{kd:G0 D->HD->Prop}{k:G0 V->Hp->Prop}(rs:RelS K H mC σ)(rh:RelH K h H)(t:ta mC h kd)(f: ∀ds vs h' H',Kept H H'->RelS K H' mC σ->RelH K h' H'->RelDs K H' ds vs->kd ds h'->k vs H'):LA K ta σ H k:=
 ⟨mC,h,kd,rs,rh,t,λd v h' H' kp r1 r2 q=>f d v h' H' kp (rs.mono kp) r1 r2 q⟩
variable {tb:TED}
theorem Gu {f:RD2}: ∀σ H Q,LE K (dOp f ta tb) σ H Q->tOp (LR K f) (LE K ta) (LE K tb) σ H Q:=λσ H Q ⟨mC,h,Qd,rs,rh,t,p⟩=>
 LE.bind rs rh t λd v h1 H1 k1 rs1 rh1 r1 t1=>LE.bind rs1 rh1 t1 λd2 v2 h2 H2 k2 rs2 rh2 r2 t2=>⟨d,d2,h2,Qd,r1.mono k2,r2,rh2,t2,jx p (k1.trans k2)⟩
theorem DP: ∀σ H Q,LA K wX σ H Q->Ba σ H Q:=λσ H Q ⟨mC,h,Qd,rs,rh,t,p⟩=>p [] [] h H (.refl H) rh rfl t
theorem Gv {tr:TAD}: ∀σ H Q,LA K (jI ta tr) σ H Q->Dw (LE K ta) (LA K tr) σ H Q:=λσ H Q ⟨mC,h,Qd,rs,rh,t,p⟩=>
 LE.bind rs rh t λd v h1 H1 k1 rs1 rh1 r1 t1=>LA.bind rs1 rh1 t1 λds vs h2 H2 k2 rs2 rh2 r2 t2=>p _ _ h2 H2 (k1.trans k2) rh2 (.cons (r1.mono k2) r2) t2
theorem DQ {t:TAD}: ∀σ H Q,LE K (MS t) σ H Q->Bb (LA K t) σ H Q:=λσ H Q ⟨mC,h,Qd,rs,rh,t,p⟩=>
 LA.bind rs rh t λds vs h1 H1 k1 rs1 rh1 r1 ⟨z,q⟩=>⟨by rw [<-r1.length];exact z,λa ha=>p (.tup ds) (.ref a) h1 _ (k1.trans (.new ha)) (rh1.new ha) ⟨a,vs,rfl,jl,r1.mono (.new ha)⟩ q⟩
theorem DR {t:TAD}: ∀σ H Q,LE K (Qn t) σ H Q->Bc (LA K t) σ H Q:=λσ H Q ⟨mC,h,Qd,rs,rh,t,p⟩=>
 LA.bind rs rh t λds vs h1 H1 k1 rs1 rh1 r1 ⟨z,q⟩=>⟨by rw [<-r1.length];exact z,λa ha=>p (.lst a) (.ref a) _ _ (k1.trans (.new ha)) (rh1.newL ha r1) ⟨rfl,vs,jl⟩ (q a (rh1.free ha))⟩
theorem DS {r:RDn}{t:TAD}: ∀σ H Q,LE K (dCB r t) σ H Q->tCB (LC K r) (LA K t) σ H Q:=λσ H Q ⟨mC,h,Qd,rs,rh,t,p⟩=>
 LA.bind rs rh t λds vs h1 H1 k1 rs1 rh1 r1 q=>⟨ds,h1,Qd,r1,rh1,q,jx p k1⟩
theorem VM {t:TED}: ∀σ H Q,LT K (zY t) σ H Q->QZ (LE K t) σ H Q:=λσ H Q ⟨mC,h,Qd,rs,rh,t,p⟩=>
 LE.bind rs rh t λd v h1 H1 k1 rs1 rh1 r1 ⟨k,e,q⟩=>by subst e;exact⟨k,r1,p k h1 H1 k1 rh1 q⟩
theorem Xx {t:TED}: ∀σ H Q,LT K (zY t) σ H Q->tB (LE K t) σ H Q:=λσ H Q ⟨mC,h,Qd,rs,rh,t,p⟩=>
 LE.bind rs rh t λd v h1 H1 k1 rs1 rh1 r1 ⟨k,e,q⟩=>by subst e;exact⟨k,r1,p k h1 H1 k1 rh1 q⟩
theorem Xy {r r':RD2}{tc:TED}: ∀σ H Q,LE K (Zv r r' ta tb tc) σ H Q->Ql (LR K r) (LR K r') (LE K ta) (LE K tb) (LE K tc) σ H Q:=λσ H Q ⟨mC,h,Qd,rs,rh,t,p⟩=>
 LE.bind rs rh t λd v h1 H1 k1 rs1 rh1 r1 t1=>LE.bind rs1 rh1 t1 λd2 v2 h2 H2 k2 rs2 rh2 r2 t2=>⟨d,d2,h2,_,r1.mono k2,r2,rh2,t2,λd3 v3 h3 H3 k3 rh3 r3 ⟨k,e,q⟩=>by
  subst e;refine⟨k,r3,?_⟩;cases k with
  |true=>
   rw [R3 rfl] at q ⊢;exact LE.bind (rs2.mono k3) rh3 q λd4 v4 h4 H4 k4 rs4 rh4 r4 t4=>⟨d2,d4,h4,Qd,(r2.mono k3).mono k4,r4,rh4,t4,jx p (k1.trans (k2.trans (k3.trans k4)))⟩
  |false=>
   rw [S4 P3] at q ⊢;exact p (.bl false) _ h3 H3 (k1.trans (k2.trans k3)) rh3 rfl q⟩
variable {t:TTD}
theorem DT {u:TTD}: ∀σ H Q,LT K (Gt t u) σ H Q->NO (LT K t) (LT K u) σ H Q:=λσ H Q ⟨mC,h,Qd,rs,rh,t,p⟩=>
 LT.bind rs rh t λb h1 H1 k1 rs1 rh1 q=>by
  cases b with
  |true=>rw [R3 rfl] at q ⊢;exact⟨mC,h1,Qd,rs1,rh1,q,λb h' H' k=>p b h' H' (k1.trans k)⟩
  |false=>rw [S4 P3] at q ⊢;exact p _ _ _ k1 rh1 q
theorem MT {u:TTD}: ∀σ H Q,LT K (DM t u) σ H Q->tOr (LT K t) (LT K u) σ H Q:=λσ H Q ⟨mC,h,Qd,rs,rh,t,p⟩=>
 LT.bind rs rh t λb h1 H1 k1 rs1 rh1 q=>by
  cases b with
  |true=>rw [R3 rfl] at q ⊢;exact p _ _ _ k1 rh1 q
  |false=>rw [S4 P3] at q ⊢;exact⟨mC,h1,Qd,rs1,rh1,q,λb h' H' k=>p b h' H' (k1.trans k)⟩
theorem DU: ∀σ H Q,LT K (YH t) σ H Q->NP (LT K t) σ H Q:=λσ H Q ⟨mC,h,Qd,rs,rh,t,p⟩=>
 LT.bind rs rh t λb h1 H1 k1 rs1 rh1 q=>p _ _ _ k1 rh1 q
theorem DV: ∀σ H Q,LE K (Ws ta tb) σ H Q->Db (LE K ta) (LE K tb) σ H Q:=λσ H Q ⟨mC,h,Qd,rs,rh,t,p⟩=>
 LE.bind rs rh t λd v h1 H1 k1 rs1 rh1 r1 ⟨c,e,q⟩=>by
  subst e;refine⟨c,r1,?_⟩;cases c with
  |true=>rw [R3 rfl] at q ⊢;exact⟨mC,h1,Qd,rs1,rh1,q,jx p k1⟩
  |false=>rw [S4 P3] at q ⊢;exact p (.bl false) _ _ _ k1 rh1 rfl q
theorem MU: ∀σ H Q,LE K (DN ta tb) σ H Q->NQ (LE K ta) (LE K tb) σ H Q:=λσ H Q ⟨mC,h,Qd,rs,rh,t,p⟩=>
 LE.bind rs rh t λd v h1 H1 k1 rs1 rh1 r1 ⟨c,e,q⟩=>by
  subst e;refine⟨c,r1,?_⟩;cases c with
  |true=>rw [R3 rfl] at q ⊢;exact p (.bl true) _ _ _ k1 rh1 rfl q
  |false=>rw [S4 P3] at q ⊢;exact⟨mC,h1,Qd,rs1,rh1,q,jx p k1⟩
theorem DW: ∀σ H Q,LE K (Xw ta) σ H Q->Dc (LE K ta) σ H Q:=λσ H Q ⟨mC,h,Qd,rs,rh,t,p⟩=>
 LE.bind rs rh t λd v h1 H1 k1 rs1 rh1 r1 ⟨c,e,q⟩=>by subst e;exact⟨c,r1,p (.bl (!c)) _ _ _ k1 rh1 rfl q⟩
theorem MV: ∀σ H Q,LE K (dIf t ta tb) σ H Q->tIf (LT K t) (LE K ta) (LE K tb) σ H Q:=λσ H Q ⟨mC,h,Qd,rs,rh,t,p⟩=>
 LT.bind rs rh t λb h1 H1 k1 rs1 rh1 q=>by
  cases b with
  |true=>rw [R3 rfl] at q ⊢;exact⟨mC,h1,Qd,rs1,rh1,q,jx p k1⟩
  |false=>rw [S4 P3] at q ⊢;exact⟨mC,h1,Qd,rs1,rh1,q,jx p k1⟩
end
abbrev QE (X:Cx)(e:D8)(t:TED):Prop:=PE X e (LE X.K t)
abbrev QT (X:Cx)(e:D8)(t:TTD):Prop:=PT X e (LT X.K t)
abbrev QW (X:Cx)(e:D8)(t:TTD):Prop:=PW X e (LT X.K t)
abbrev QA (X:Cx)(es:G0 D8)(t:TAD):Prop:=PA X es (LA X.K t)
abbrev QS (X:Cx)(s:C3)(t:TSD):Prop:=PS X s (LS X.K t)
abbrev QSs (X:Cx)(s:G0 C3)(t:TSD):Prop:=PSs X s (LS X.K t)
abbrev QG (X:Cx)(e:D8)(t:TGD):Prop:=PG X e (LG X.K t)
abbrev OpQ (X:Cx)(f:G2->G2->Sem G2)(r:RD2):Prop:=OpR X f (LR X.K r)
abbrev ww (X:Cx)(f:G2)(r:RDn):Prop:=CallR X f (LC X.K r)
section
variable {X:Cx}{a b c e:D8}{es zF:G0 D8}{ta tb tc te:TED}{t u:TAD}{tt tu:TTD}{pos:Pos}{f r r':RD2}
theorem qv (i:P0){x:Str}(hN:X.N[i]? =some x:=by rfl)(hv:Vis X.env.scope x:=by first|exact C9 rfl|exact E5 (C9 rfl)|exact E5 (E5 rfl))(hd:(x==("__debug__" :Str))=false:=by decide)
 (hcd:(x==("__classdict__" :Str))=false:=by decide):QE X (.Name x pos) (Zh i):=(PV hN hv hd hcd).imp (DO i)
theorem Bh {i:G8}{j:P0}:QE X (.Constant (.int i) j pos) (dC (.int i)):=pe_int.imp (Mk λ_=>rfl)
theorem qbl {i:B4}{j:P0}:QE X (.Constant (.bool i) j pos) (dC (.bl i)):=pe_bl.imp (Mk λ_=>rfl)
theorem BB {j:P0}:QE X (.Constant .none j pos) (dC .non):=pe_non.imp (Mk λ_=>rfl)
theorem MW {x:Str}{i:G8}{tk:Tok}(hg:Gl X x)(hm:X.mg x=some (.int i tk))(hd:(x==("__debug__" :Str))=false:=by decide):QE X (.Name x pos) (dC (.int i)):=
 (QM (v:= .int i) hg hm ⟨tk,rfl⟩ hd).imp (Mk λ_=>rfl)
theorem qop {op:i4}(ho:OpQ X (B7 op) f)(ha:QE X a ta)(hb:QE X b tb):QE X (.BinOp a op b pos) (dOp f ta tb):=(ME ho ha hb).imp Gu
theorem BC {op:b0}(ho:OpQ X (T9 op) f)(ha:QE X a ta)(hb:QE X b tb)(hm:L4 op b=false):QE X (.Compare a [op] [b] pos) (dOp f ta tb):=(QY ho ha hb hm).imp Gu
theorem MX {op:b0}(ho:OpQ X (T9 op) f)(ha:QE X a ta)(hb:QE X b tb)(hm:L4 op b=false):QT X (.Compare a [op] [b] pos) (zY (dOp f ta tb)):=
 (Ga ho ha hb hm).imp λσ H Q h=>by
  obtain⟨mC,h,Qd,rs,rh,t,p⟩:=VM (t:=dOp f ta tb) σ H Q h;exact Gu σ H _ ⟨mC,h,Qd,rs,rh,t,p⟩
theorem Gw {op op':b0}(ho:OpQ X (T9 op) r)(ho':OpQ X (T9 op') r')(ha:QE X a ta)(hb:QE X b tb)(hc:QE X c tc)(hm:iI [op,op'] [b,c]=false:=by with_unfolding_all rfl):
 QT X (.Compare a [op,op'] [b,c] pos) (zY (Zv r r' ta tb tc)):=(Xq ho ho' ha hb hc hm).imp λσ H Q h=>by
 obtain⟨mC,h,Qd,rs,rh,t,p⟩:=VM (t:=Zv r r' ta tb tc) σ H Q h;exact Xy σ H _ ⟨mC,h,Qd,rs,rh,t,p⟩
theorem MY (ha:QE X a ta)(he: ∀whole,isTrue a X.env whole=(do let v <-whole;Y9 a.pos;J5 [v] (gA v)):=by intro _;rfl):QT X a (zY ta):=(PX ha he).imp Xx
theorem MZ (ha:QT X a tt):QW X (.BoolOp .And [a] pos) tt:=QP ha
theorem BD (ha:QT X a tt):QW X (.BoolOp .Or [a] pos) tt:=PY ha
theorem Na (ha:QT X a tt)(hb:QW X (.BoolOp .And (b::zF) pos) tu):QW X (.BoolOp .And (a::b::zF) pos) (Gt tt tu):=(PZ ha hb).imp DT
theorem BE (ha:QT X a tt)(hb:QW X (.BoolOp .Or (b::zF) pos) tu):QW X (.BoolOp .Or (a::b::zF) pos) (DM tt tu):=(Mz ha hb).imp MT
theorem Nb (ha:QT X a tt):QT X (.UnaryOp .Not a pos) (YH tt):=(Da ha).imp DU
theorem BF {op:BoolOp}(ha:QE X a ta):QE X (.BoolOp op [a] pos) ta:=De ha
theorem BG (ha:QE X a ta)(hb:QE X (.BoolOp .And (b::zF) pos) tb):QE X (.BoolOp .And (a::b::zF) pos) (Ws ta tb):=(Df ha hb).imp DV
theorem qor (ha:QE X a ta)(hb:QE X (.BoolOp .Or (b::zF) pos) tb):QE X (.BoolOp .Or (a::b::zF) pos) (DN ta tb):=(MA ha hb).imp MU
theorem BH (ha:QE X a ta):QE X (.UnaryOp .Not a pos) (Xw ta):=(Dg ha).imp DW
theorem qif {c:D8}(hc:QT X c tt)(ha:QE X a ta)(hb:QE X b tb):QE X (.IfExp c a b pos) (dIf tt ta tb):=(Xm hc ha hb).imp MV
theorem DY:QA X [] wX:=pa_nil.imp DP
theorem Gx (ha:QE X e te)(hr:QA X es t)(hs:P8 (e::es) X.env=(false,B6 e X.env)::P8 es X.env:=by rfl):QA X (e::es) (jI te t):=(wG ha hr hs).imp Gv
theorem BI {k:P0}(h:QA X es t):QE X (.Tuple es k pos) (MS t):=(Dx h).imp DQ
theorem BJ (h:QA X es t):QE X (.List es pos) (Qn t):=(Dy h).imp DR
end
def vk:TSD:=λD σ h=>D.nx σ h
def ym (t u:TSD):TSD:=λD σ h=>t {D with nx:=u D} σ h
def VN (te:TED):TSD:=λD σ h=>te σ h λ_ h1=>D.nx σ h1
def Xf (te:TED):TSD:=λD σ h=>te σ h D.rt
def Vl (c:TTD)(t u:TSD):TSD:=λD σ h=>c σ h λb h1=>if b=true then t D σ h1 else u D σ h1
def Zi (i:P0)(te:TED):TSD:=λD σ h=>te σ h λd h1=>D.nx (σ.set i (some d)) h1
def Ml (te:TED)(g:TGD):TSD:=λD σ h=>te σ h λx h1=>g x σ h1 D.nx
def Mm (i j:P0)(ta:TAD):TSD:=λD σ h=>ta σ h λds h1=> ∃v w,ds= [v,w]/\D.nx ((σ.set i (some v)).set j (some w)) h1
def gN (i:P0):TGD:=λd σ h Q=>Q (σ.set i (some d)) h
def gT2 (i j:P0):TGD:=λd σ h Q=> ∃x y,d= .tup [x,y]/\Q ((σ.set i (some x)).set j (some y)) h
section
variable {K:G1}
theorem LS.of {t:TSD}{mM:Ends}{σ:St}{H:Hp}{mC:SD}{h:HD}{Dd:EndsD}(rs:RelS K H mC σ)(rh:RelH K h H)(q:t Dd mC h)
 (nx: ∀mF h' mB H',Kept H H'->RelS K H' mF mB->RelH K h' H'->Dd.nx mF h'->mM.nx mB H')(rt:Gs K H Dd.rt mM.rt)
 (bk: ∀mF h' mB H',Kept H H'->RelS K H' mF mB->RelH K h' H'->Dd.bk mF h'->mM.bk mB H')(ct: ∀mF h' mB H',Kept H H'->RelS K H' mF mB->RelH K h' H'->Dd.ct mF h'->mM.ct mB H'):LS K t mM σ H:=⟨mC,h,Dd,rs,rh,q,nx,rt,bk,ct⟩
theorem Gy: ∀D σ H,LS K vk D σ H->Dh D σ H:=λD σ H ⟨mC,h,Dd,rs,rh,q,nx,_⟩=>nx mC h σ H (.refl H) rs rh q
theorem DZ {t u:TSD}: ∀D σ H,LS K (ym t u) D σ H->NR (LS K t) (LS K u) D σ H:=λD σ H ⟨mC,h,Dd,rs,rh,q,nx,rt,bk,ct⟩=>
 LS.of rs rh q (λmF h' mB H' k rs' rh' q'=>⟨mF,h',Dd,rs',rh',q',λa b c d k'=>nx a b c d (k.trans k'),jx rt k,λa b c d k'=>bk a b c d (k.trans k'),λa b c d k'=>ct a b c d (k.trans k')⟩) rt bk ct
variable {te:TED}
theorem Gz: ∀D σ H,LS K (VN te) D σ H->Di (LE K te) D σ H:=λD σ H ⟨mC,h,Dd,rs,rh,q,nx,rt,bk,ct⟩=>
 LE.bind rs rh q λd v h1 H1 k1 rs1 rh1 r1 q1=>nx _ _ _ _ k1 rs1 rh1 q1
theorem Ra: ∀D σ H,LS K (Xf te) D σ H->NS (LE K te) D σ H:=λD σ H ⟨mC,h,Dd,rs,rh,q,nx,rt,bk,ct⟩=>⟨mC,h,Dd.rt,rs,rh,q,rt⟩
theorem Nc {c:TTD}{t u:TSD}: ∀D σ H,LS K (Vl c t u) D σ H->NT (LT K c) (LS K t) (LS K u) D σ H:=λD σ H ⟨mC,h,Dd,rs,rh,q,nx,rt,bk,ct⟩=>
 LT.bind rs rh q λb h1 H1 k rs1 rh1 q1=>by
  cases b with
  |true=>rw [R3 rfl] at q1 ⊢;exact⟨mC,h1,Dd,rs1,rh1,q1,λa b c d k'=>nx a b c d (k.trans k'),jx rt k,λa b c d k'=>bk a b c d (k.trans k'),λa b c d k'=>ct a b c d (k.trans k')⟩
  |false=>rw [S4 P3] at q1 ⊢;exact⟨mC,h1,Dd,rs1,rh1,q1,λa b c d k'=>nx a b c d (k.trans k'),jx rt k,λa b c d k'=>bk a b c d (k.trans k'),λa b c d k'=>ct a b c d (k.trans k')⟩
theorem VO {i:P0}: ∀D σ H,LS K (Zi i te) D σ H->Qh (LE K te) (zK i) D σ H:=λD σ H ⟨mC,h,Dd,rs,rh,q,nx,rt,bk,ct⟩=>
 LE.bind rs rh q λd v h1 H1 k1 rs1 rh1 r1 q1=>nx _ _ _ _ k1 (rs1.set r1 i) rh1 q1
theorem Rb {g:TGD}: ∀D σ H,LS K (Ml te g) D σ H->Qh (LE K te) (LG K g) D σ H:=λD σ H ⟨mC,h,Dd,rs,rh,q,nx,rt,bk,ct⟩=>
 LE.bind rs rh q λd v h1 H1 k1 rs1 rh1 r1 q1=>⟨d,mC,h1,_,r1,rs1,rh1,q1,λa b c e k'=>nx a b c e (k1.trans k')⟩
theorem Rc {i j:P0}{ta:TAD}: ∀D σ H,LS K (Mm i j ta) D σ H->NV i j (LA K ta) D σ H:=λD σ H ⟨mC,h,Dd,rs,rh,q,nx,rt,bk,ct⟩=>
 LA.bind rs rh q λds vs h1 H1 k1 rs1 rh1 r1 ⟨x,y,e,q1⟩=>by
  subst e;obtain⟨v,r,e,r2,r3⟩:=(show ∃v r,vs=v::r/\RelD K H1 x v/\RelDs K H1 [y] r from r1);obtain⟨w,r',e',r4,r5⟩:=(show ∃v r',r=v::r'/\RelD K H1 y v/\RelDs K H1 [] r' from r3);cases (show r'= [] from r5);subst e' e;exact⟨v,w,rfl,nx _ _ _ _ k1 ((rs1.set r2 i).set r4 j) rh1 q1⟩
theorem GA (i:P0): ∀v σ H Q,LG K (gN i) v σ H Q->zK i v σ H Q:=λv σ H Q ⟨d,mC,h,Qd,r,rs,rh,q,p⟩=>p _ _ _ _ (.refl H) (rs.set r i) rh q
theorem wY {H:Hp}{x y:D}{vs:G0 V}(r:RelDs K H [x,y] vs): ∃v w,vs= [v,w]/\RelD K H x v/\RelD K H y w:=by
 obtain⟨v,r1,e,r2,r3⟩:=(show ∃v r,vs=v::r/\RelD K H x v/\RelDs K H [y] r from r);obtain⟨w,z,e',r4,r5⟩:=(show ∃v z,r1=v::z/\RelD K H y v/\RelDs K H [] z from r3);cases (show z= [] from r5);subst e' e;exact⟨v,w,rfl,r2,r4⟩
theorem jy {H:Hp}{x:D}{vs:G0 V}(r:RelDs K H [x] vs): ∃v,vs= [v]/\RelD K H x v:=by
 obtain⟨v,r1,e,r2,r3⟩:=(show ∃v r,vs=v::r/\RelD K H x v/\RelDs K H [] r from r);cases (show r1= [] from r3);exact⟨v,e,r2⟩
theorem Re (i j:P0): ∀v σ H Q,LG K (gT2 i j) v σ H Q->Mf K 2 (Wm (zK i) (Wm (zK j) Me)) v σ H Q:=λv σ H Q ⟨d,mC,h,Qd,r,rs,rh,⟨x,y,e,q⟩,p⟩=>by
 subst e;obtain⟨a,vs,e,hH,r1⟩:=(show ∃a vs,v= .ref a/\H a=some (.tup vs)/\RelDs K H [x,y] vs from r);obtain⟨v1,v2,e1,r2,r3⟩:=wY r1;subst e e1;exact⟨a,[v1,v2],rfl,SqT.of hH,rfl,v1,[v2],rfl,v2,[],rfl,rfl,p _ _ _ _ (.refl H) ((rs.set r2 i).set r3 j) rh q⟩
end
section
variable {X:Cx}{st:C3}{sts:G0 C3}{t u:TSD}{e:D8}{te:TED}{pos:Pos}
theorem Rf:QSs X [] vk:=pss_nil.imp Gy
theorem GB (h1:QS X st t)(h2:QSs X sts u):QSs X (st::sts) (ym t u):=(Xn h1 h2).imp DZ
theorem Rg (h1:QS X st t):QSs X [st] t:=QQ h1
theorem Nd (he:QE X e te)(hs:L8 e none pos.line X.env=pure false:=by rfl):QS X (.Expr e pos) (VN te):=(QR he hs).imp Gz
theorem BK (he:QE X e te):QS X (.Return (some e) pos) (Xf te):=(Dj he).imp Ra
theorem BL {c:D8}{a b:G0 C3}{tc:TTD}(hc:QT X c tc)(ha:QSs X a t)(hb:QSs X b u):QS X (.If c a b pos) (Vl tc t u):=(MB hc ha hb).imp Nc
variable {i:P0}{x:Str}
theorem BM {pos':Pos}(hN:X.N.Nodup)(hi:X.N[i]? =some x)(hx:Loc X.env.scope x)(he:QE X e te)(hs:L8 e (some (.Name x pos')) pos.line X.env=pure false:=by rfl)
 (hf:X.fn x=true\/X.env.scope.names.lookup x=some .local:=by first|exact .inl rfl|exact .inr rfl|assumption):QS X (.Assign [.Name x pos'] e pos) (Zi i te):=(Dm hN hi hx he hs hf).imp VO
theorem GC (hN:X.N.Nodup)(hi:X.N[i]? =some x)(hx:Loc X.env.scope x)(hf:X.fn x=true\/X.env.scope.names.lookup x=some .local:=by first|exact .inl rfl|exact .inr rfl|assumption):QG X (.Name x pos) (gN i):=
 (wF hN hi hx hf).imp (GA i)
theorem Rh {j:P0}{y:Str}{p1 p2:Pos}{k:P0}(hc:X.calm=true)(hN:X.N.Nodup)(hi:X.N[i]? =some x)(hj:X.N[j]? =some y)(hx:Loc X.env.scope x)(hy:Loc X.env.scope y)
 (hf:X.fn x=true\/X.env.scope.names.lookup x=some .local:=by first|exact .inl rfl|exact .inr rfl|assumption)(hf2:X.fn y=true\/X.env.scope.names.lookup y=some .local:=by first|exact .inl rfl|exact .inr rfl|assumption):
 QG X (.Tuple [.Name x p1,.Name y p2] k pos) (gT2 i j):=(Vr hc (wr (wF hN hi hx hf) (wr (wF hN hj hy hf2) Wn))).imp (Re i j)
theorem BN {tg:D8}{g:TGD}(he:QE X e te)(hg:QG X tg g)(hs:Q1 [tg] e pos.line X.env=pure false:=by rfl)(hsw:Q2 [tg] e X.env=pure none:=by rfl)
 (h1:(U2 [tg] X.env).map (·.2)= [Y0 tg X.env]:=by rfl):QS X (.Assign [tg] e pos) (Ml te g):=(Dl he hg hs hsw h1).imp Rb
theorem BO {j:P0}{y:Str}{a b:D8}{ta:TAD}{px py pt:Pos}{kt k2 pt2}(hc:X.calm=true)(hN:X.N.Nodup)(hi:X.N[i]? =some x)(hj:X.N[j]? =some y)(hij:i≠j)
 (hx:X.env.scope.names.lookup x=some .local)(hy:X.env.scope.names.lookup y=some .local)(ha:QA X [a,b] ta)
 (hw:Q2 [.Tuple [.Name x px,.Name y py] kt pt] (.Tuple [a,b] k2 pt2) X.env=pure (some [x,y]))
 (hs:Q1 [.Tuple [.Name x px,.Name y py] kt pt] (.Tuple [a,b] k2 pt2) pos.line X.env=pure false:=by rfl):
 QS X (.Assign [.Tuple [.Name x px,.Name y py] kt pt] (.Tuple [a,b] k2 pt2) pos) (Mm i j ta):=(Do hc hN hi hj hij hx hy ha hw hs).imp Rc
end
abbrev ItD:=HD->P5 (G0 D)
def GD (K:G1)(H:Hp)(j:ItD)(J:It):Prop:= ∀H' h',Kept H H'->RelH K h' H'-> ∀ds,j h'=some ds-> ∀i:P0,
 (∀d,ds[i]? =some d->J.go i H'/\ ∀x H'',J.yld i H' x H''->Kept H' H''/\RelH K h' H''/\RelD K H'' d x)/\(ds.length<=i->J.stop i H')
abbrev TID:=SD->HD->(ItD->HD->Prop)->Prop
def LI (K:G1)(t:TID):TI:=λσ H R=> ∃mC h Rd,RelS K H mC σ/\RelH K h H/\t mC h Rd/\ ∀j J h' H',Kept H H'->RelH K h' H'->GD K H' j J->Rd j h'->R J H'
abbrev QI (X:Cx)(tg iter:D8)(t:TID):Prop:=PI X tg iter (LI X.K t)
theorem PI.imp {t t':TI}(h:PI X tg e t)(i: ∀σ H R,t' σ H R->t σ H R):PI X tg e t':=λpins s σ H R I q=>h pins s σ H R I (i σ H R q)
def iL (te:TED):TID:=λσ h R=>te σ h λx h1=> ∃a,x= .lst a/\R (λh=>h a) h1
def iR1 (ta:TAD):TID:=λσ h R=>ta σ h λds h1=> ∃n:G8,ds= [.int n]/\ -(2^62)<=n/\n<2^62/\R (λ_=>some ((D3 n.toNat).map λ(k:P0)=>D.int (k:G8))) h1
section
variable {K:G1}
theorem Zw (H:Hp)(a:G6):GD K H (λh=>h a) (Itl K a):=λH' h' k rh ds e i=>by
 obtain⟨vs,hv,r⟩:=rh a ds e;refine⟨λd hd=> ?_,λhl=>⟨vs,SqL.of hv,by rw [<-r.length];exact hl⟩⟩;obtain⟨v,e1,e2⟩:=r.get hd;refine⟨⟨vs,v,SqL.of hv,e1⟩,λx H'' ⟨eH,hx⟩=> ?_⟩;subst eH;have:=hx vs (SqL.of hv);rw [e1] at this;cases this;exact⟨.refl _,rh,e2⟩
theorem Xz {H:Hp}{a:G6}{vs:G0 V}{ds:G0 D}(hv:H a=some (.tup vs))(r:RelDs K H ds vs):GD K H (λ_=>some ds) (Itt K a):=λH' h' k rh ds' e i=>by
 cases e;have hv':=k.tup _ _ hv;have r':=r.mono k;refine⟨λd hd=> ?_,λhl=>⟨vs,SqT.of hv',by rw [<-r.length];exact hl⟩⟩;obtain⟨v,e1,e2⟩:=r'.get hd;refine⟨⟨vs,v,SqT.of hv',e1⟩,λx H'' ⟨eH,hx⟩=> ?_⟩;subst eH;have:=hx vs (SqT.of hv');rw [e1] at this;cases this;exact⟨.refl _,rh,e2⟩
theorem YI (H:Hp)(lo:G8)(n:P0)(ds:G0 D)(hd:ds=(D3 n).map λ(k:P0)=>D.int (lo+(k:G8))):GD K H (λ_=>some ds) (Itr lo n):=λH' h' k rh ds' e i=>by
 cases e;subst hd;refine⟨λd hd=> ?_,λhl=>(show n<=i by simpa using hl)⟩;rw [P7] at hd;have hi:i<n:=by
  by_cases z:i<n
  ·exact z
  ·rw [F9 (by simpa using z)] at hd;cases hd
 rw [K9 hi] at hd;cases hd;refine⟨hi,λx H'' ⟨eH,hx⟩=> ?_⟩;subst eH hx;exact⟨.refl _,rh,rfl⟩
theorem GE {te:TED}: ∀σ H R,LI K (iL te) σ H R->Dp K (LE K te) σ H R:=λσ H R ⟨mC,h,Rd,rs,rh,q,p⟩=>
 LE.bind rs rh q λd v h1 H1 k1 rs1 rh1 r1 ⟨a,e,q1⟩=>by
  subst e;obtain⟨e,vs,hv⟩:=(show v= .ref a/\ ∃vs,H1 a=some (.lst vs) from r1);exact⟨a,e,⟨vs,SqL.of hv⟩,p _ _ _ _ k1 rh1 (Zw H1 a) q1⟩
theorem Nf {ta:TAD}: ∀σ H R,LI K (iR1 ta) σ H R->Dq (LA K ta) σ H R:=λσ H R ⟨mC,h,Rd,rs,rh,q,p⟩=>
 LA.bind rs rh q λds vs h1 H1 k1 rs1 rh1 r1 ⟨n,e,b1,b2,q1⟩=>by
  subst e;obtain⟨v,e,r2⟩:=jy r1;cases (show v= .int n from r2);exact⟨n,e,b1,b2,p _ _ _ _ k1 rh1 (YI H1 0 n.toNat _ (by simp)) q1⟩
end
def Ri (ti:TID)(g:TGD)(tb:TSD):TSD:=λD σ h=>ti σ h λj h1=> ∃ (n:P0) (W:P0->SD->HD->Prop),W 0 σ h1/\ ∀i mB h',W i mB h'-> ∃ds,j h'=some ds/\ds.length<=n/\(ds.length<=i->D.nx mB h')/\
 ∀d,ds[i]? =some d->g d mB h' λmE h2=>tb {D with nx:=λmG h3=> ∃h4,Sub h4 h3/\W (i+1) mG h4,ct:=λmG h3=> ∃h4,Sub h4 h3/\W (i+1) mG h4,bk:=D.nx} mE h2
variable {ti:TID}
theorem Rj {g:TGD}{tb:TSD}: ∀D σ H,LS K (Ri ti g tb) D σ H->NW (LI K ti) (LG K g) (LS K tb) D σ H:=λD σ H ⟨mC,h,Dd,rs,rh,q,nx,rt,bk,ct⟩=>by
 refine⟨mC,h,_,rs,rh,q,λj J h1 H1 k1 rh1 jo ⟨n,W,w0,turn⟩=> ?_⟩;refine⟨λi m mB H'=>m=n-i/\Kept H1 H'/\ ∃mF h',RelS K H' mF mB/\RelH K h' H'/\W i mF h',⟨n-0,rfl,.refl _,mC,h1,rs.mono k1,rh1,w0⟩,?_⟩;rintro i m mB H' ⟨rfl,kp,mF,h',rs',rh',w⟩;obtain⟨ds,ej,hn,stop,go⟩:=turn i mF h' w;have jo':=jo H' h' kp rh' ds ej i
 by_cases hi:i<ds.length
 ·obtain⟨g1,y1⟩:=jo'.1 ds[i] (G4 hi);refine .inr ⟨g1,λmE H2=>Kept H1 H2/\ ∃mH h2,RelS K H2 mH mE/\RelH K h2 H2/\W (i+1) mH h2,λmE H2 ⟨k2,a,b,c,d,e⟩=>⟨n-(i+1),by omega,rfl,k2,a,b,c,d,e⟩,λx H'' y=> ?_⟩;obtain⟨k2,rh2,r2⟩:=y1 x H'' y;refine⟨ds[i],mF,h',_,r2,rs'.mono k2,rh2,go ds[i] (G4 hi),λm7 h3 mG H3 k3 rs3 rh3 q3=> ?_⟩;have kk:Kept H H3:=k1.trans (kp.trans (k2.trans k3));have kk1:Kept H1 H3:=kp.trans (k2.trans k3);exact⟨m7,h3,_,rs3,rh3,q3,λa b c d k4 rs4 rh4 ⟨h4,sb,w4⟩=>⟨kk1.trans k4,a,h4,rs4,rh4.sub sb,w4⟩,jx rt kk,λa b c d k4 rs4 rh4 q4=>nx a b c d (kk.trans k4) rs4 rh4 q4,λa b c d k4 rs4 rh4 ⟨h4,sb,w4⟩=>⟨kk1.trans k4,a,h4,rs4,rh4.sub sb,w4⟩⟩
 ·exact .inl ⟨jo'.2 (U5.mp hi),nx _ _ _ _ (k1.trans kp) rs' rh' (stop (U5.mp hi))⟩
def yr:TTD:=λ_ h Q=>Q true h
def yJ (bind:D->SD->SD->Prop)(js:G0 P0)(ti:TID)(tt:TTD)(te:TED):TED:=λσ h Q=>ti σ h λj h1=> ∃ (n:P0) (W:P0->G0 D->HD->Prop),W 0 [] h1/\ ∀i ys h',W i ys h'->ys.length<=sizeLine/\
 ∃ds,j h'=some ds/\ds.length<=n/\(ds.length<=i-> ∀p,h' p=none->Q (.lst p) (zi h' p ys))/\
  ∀d,ds[i]? =some d-> ∃mE,bind d (jG js σ) mE/\tt mE h' λb h3=>if b=true then te mE h3 λy h4=> ∃h5,Sub h5 h4/\W (i+1) (ys++ [y]) h5 else ∃h5,Sub h5 h3/\W (i+1) ys h5
def bN (i:P0):D->SD->SD->Prop:=λd σ mE=>mE=σ.set i (some d)
def b2 (i j:P0):D->SD->SD->Prop:=λd σ mE=> ∃x y,d= .tup [x,y]/\mE=(σ.set i (some x)).set j (some y)
theorem Rk: ∀σ H Q,LT K yr σ H Q->Bg σ H Q:=λσ H Q ⟨mC,h,Qd,rs,rh,q,p⟩=>p true h H (.refl H) rh q
def VP (K:G1)(js:G0 P0)(bind:D->SD->SD->Prop)(g:TG):Prop:= ∀ (σ:St) (mC mH:SD) (H:Hp) (d:D) (v:V) (Q:St->Hp->Prop),RelS K H (jG js mC) (zg js σ)->RelD K H d v->bind d (jG js mC) mH->
 (∀mE,Agree (zg js σ) mE->RelS K H mH mE->Q mE H)->g v (zg js σ) H Q
variable {i:P0}
theorem Rl (hi:i∈js):VP K js (bN i) (zK i):=λσ mC mH H d v Q rs r b q=>by
 cases (show mH=_ from b);exact q _ (.set v λu=>jO js σ i u hi) (rs.set r i)
theorem Rm {j:P0}(hi:i∈js)(hj:j∈js)(hij:i≠j):VP K js (b2 i j) (Mf K 2 (Wm (zK i) (Wm (zK j) Me))):=λσ mC mH H d v Q rs r b q=>by
 obtain⟨x,y,e,e2⟩:=b;subst e e2;obtain⟨a,vs,e,hH,r1⟩:=(show ∃a vs,v= .ref a/\H a=some (.tup vs)/\RelDs K H [x,y] vs from r);obtain⟨v1,v2,e1,r2,r3⟩:=wY r1;subst e e1;refine⟨a,[v1,v2],rfl,SqT.of hH,rfl,v1,[v2],rfl,v2,[],rfl,rfl,q _ (.trans (.set v1 λu=>jO js σ i u hi) (.set v2 λu z=> ?_)) ((rs.set r2 i).set r3 j)⟩;rw [B5 hij] at z;exact jO js σ j u hj z
theorem XA {bind:D->SD->SD->Prop}{tt:TTD}{te:TED}(hb:VP K js bind g): ∀σ H Q,LE K (yJ bind js ti tt te) σ H Q->tLC js (LI K ti) g (LT K tt) (LE K te) σ H Q:=
 λσ H Q ⟨mC,h,Qd,rs,rh,q,p⟩=>by
  refine⟨mC,h,_,rs,rh,q,λj J h1 H1 k1 rh1 jo ⟨n,W,w0,turn⟩=> ?_⟩;refine⟨λi m ys H'=>m=n-i/\Kept H1 H'/\ ∃ds h',RelDs K H' ds ys/\RelH K h' H'/\W i ds h',⟨n-0,rfl,.refl _,[],h1,rfl,rh1,w0⟩,?_⟩;rintro i m ys H' ⟨rfl,kp,yd,h',ry,rh',w⟩;obtain⟨hz,ds,ej,hn,stop,go⟩:=turn i yd h' w;refine⟨by rw [<-ry.length];exact hz,?_⟩;have jo':=jo H' h' kp rh' ds ej i;have kk:Kept H H':=k1.trans kp
  by_cases hi:i<ds.length
  ·obtain⟨g1,y1⟩:=jo'.1 ds[i] (G4 hi);refine .inr ⟨g1,λx H'' y=> ?_⟩;obtain⟨k2,rh2,r2⟩:=y1 x H'' y;obtain⟨mH,bd,q2⟩:=go ds[i] (G4 hi);refine hb σ mC mH H'' ds[i] x _ (((rs.mono (kk.trans k2))).clear js) r2 bd λmE ag rs2=>⟨ag,?_⟩
   refine LT.bind rs2 rh2 q2 λb h3 H3 k3 rs3 rh3 q3=> ?_
   cases b with
   |true=>
    rw [R3 rfl] at q3 ⊢;refine LE.bind rs3 rh3 q3 λd4 v4 h4 H4 k4 rs4 rh4 r4 ⟨h5,sb,w5⟩=>⟨n-(i+1),by omega,rfl,kp.trans (k2.trans (k3.trans k4)),yd++ [d4],h5,(ry.mono (k2.trans (k3.trans k4))).append (.cons r4 .nil),rh4.sub sb,w5⟩
   |false=>
    rw [S4 P3] at q3 ⊢;obtain⟨h5,sb,w5⟩:=q3;exact⟨n-(i+1),by omega,rfl,kp.trans (k2.trans k3),yd,h5,ry.mono (k2.trans k3),rh3.sub sb,w5⟩
  ·refine .inl ⟨jo'.2 (U5.mp hi),λa ha=>p (.lst a) (.ref a) _ _ (kk.trans (.new ha)) (rh'.newL ha ry) ⟨rfl,ys,jl⟩ (stop (U5.mp hi) a (rh'.free ha))⟩
theorem zr {C:G6}{s₀:G5}{H₀:Hp}{ex:G0 G6}{p:Pos}(hN:X.N.Nodup)(hx:X.N[i]? =some x)(hl:scope.names.lookup x=some .local\/scope.names.lookup x=some .cell):
 PG (vh X scope C s₀ H₀ ex) (.Name x p) (zK i):=by
 rcases hl with z|z
 ·exact wF hN hx (.inl (cE z)) (.inr (cE z))
 ·exact wF hN hx (.inr (wH z)) (.inl (by show (scope.names.lookup x==some E1)=true;rw [z];rfl))
section
variable {X:Cx}{tg e iter elt:D8}{te:TED}{ti:TID}{g:TGD}{tb:TSD}{tt:TTD}{pos:Pos}{ta:TAD}{scope:L7}{js:G0 P0}{ifs:G0 D8}
theorem GF (he:QE X e te):QI X tg e (iL te):=(QV he).imp GE
theorem Ng {p:Pos}{a:D8}(hg:Gl X "range")(hm:X.mg "range" =none)(ha:QA X [a] ta)(hs:P8 [a] X.env= [(false,B6 a X.env)]:=by rfl):QI X tg (.Call (.Name "range" p) [a] [] pos) (iR1 ta):=(Vs hg hm ha hs).imp Nf
theorem BP {body:G0 C3}(hp:cL (R1 X.prog X.w) X.A X.env X.xe)(hc:X.calm=true)(hi:QI X tg iter ti)(hg:QG X tg g)(hb:QSs X body tb)(hs: ∀x,D9 iter X.env x=pure x:=by intro _;rfl):
 QS X (.For tg iter body [] pos) (Ri ti g tb):=(Dr hp hc hi hg hb hs).imp Rj
theorem GG:PTs X [] (LT X.K yr):=λpins s σ H Q I h=>Gn pins s σ H Q I (Rk σ H Q h)
theorem GH {c:D8}(hc:QT X c tt):PTs X [c] (LT X.K tt):=Go hc
theorem qlc {i:P0}{x:Str}{p:Pos}(hc:X.calm=true)(S:BlockOk X scope js)(hi:QI X (.Name x p) iter ti)(hj:i∈js)(hN:X.N.Nodup)(hx:X.N[i]? =some x)(hl:scope.names.lookup x=some .local\/scope.names.lookup x=some .cell)
 (ht: ∀X',jf X scope X'->PTs X' ifs (LT X'.K tt))(he: ∀X',jf X scope X'->QE X' elt te)(hs: ∀x,D9 iter X.env x=pure x:=by intro _;rfl):
 QE X (.ListComp elt [⟨.Name x p,iter,ifs,0⟩] scope pos) (yJ (bN i) js ti tt te):=
 (DK hc S hi (λX' hX=>by obtain⟨C,s₀,H₀,ex,rfl⟩:=hX;exact zr hN hx hl) (λX' hX=>by have:=ht X' hX;obtain⟨C,s₀,H₀,ex,rfl⟩:=hX;exact this)
  (λX' hX=>by have:=he X' hX;obtain⟨C,s₀,H₀,ex,rfl⟩:=hX;exact this) hs).imp (XA (Rl hj))
theorem BQ {i j:P0}{x y:Str}{p1 p2 p3:Pos}{k:P0}(hc:X.calm=true)(S:BlockOk X scope js)(hi:QI X (.Tuple [.Name x p1,.Name y p2] k p3) iter ti)(hj:i∈js)(hj2:j∈js)(hij:i≠j)(hN:X.N.Nodup)(hx:X.N[i]? =some x)(hy:X.N[j]? =some y)
 (hl:scope.names.lookup x=some .local\/scope.names.lookup x=some .cell)(hl2:scope.names.lookup y=some .local\/scope.names.lookup y=some .cell)
 (ht: ∀X',jf X scope X'->PTs X' ifs (LT X'.K tt))(he: ∀X',jf X scope X'->QE X' elt te)(hs: ∀x,D9 iter X.env x=pure x:=by intro _;rfl):
 QE X (.ListComp elt [⟨.Tuple [.Name x p1,.Name y p2] k p3,iter,ifs,0⟩] scope pos) (yJ (b2 i j) js ti tt te):=
 (DK hc S hi (λX' hX=>by
  obtain⟨C,s₀,H₀,ex,rfl⟩:=hX;exact Vr hc (wr (zr hN hx hl) (wr (zr hN hy hl2) Wn))) (λX' hX=>by have:=ht X' hX;obtain⟨C,s₀,H₀,ex,rfl⟩:=hX;exact this)
  (λX' hX=>by have:=he X' hX;obtain⟨C,s₀,H₀,ex,rfl⟩:=hX;exact this) hs).imp (XA (Rm hj hj2 hij))
end
def LSp (K:G1)(spd:RDn):Sp:=λvs H Q _=>LC K spd vs H Q
theorem GI {spd:RDn}{t:TAD}{E:XK}: ∀σ H Q,LE K (dCB spd t) σ H Q->Dz (LSp K spd) [] E (LA K t) σ H Q:=λσ H Q ⟨mC,h,Qd,rs,rh,t,p⟩=>
 LA.bind rs rh t λds vs h1 H1 k1 rs1 rh1 r1 q=>by rw [bQ];exact⟨ds,h1,Qd,r1,rh1,q,jx p k1⟩
section
variable {X:Cx}{k:P0}{f:G6}{fd:S6}{ps:G0 Str}{spd:RDn}{x:Str}{p pos:Pos}{e:D8}{es:G0 D8}{t:TAD}
theorem Nh (F:FnOk X.prog X.w X.K X.mg X.base CX0 k f fd ps (LSp X.K spd))(hr:Room k X.A)(hg:Gl X x)(hm:X.mg x=some (.ref f))(hk:E3 X.K (.ref f)=true)(hb:Binds X.K fd ps [])
 (ha:QA X (e::es) t)(hdb:(x==("__debug__" :Str))=false:=by decide)(he:P8 (e::es) X.env=(false,B6 e X.env)::P8 es X.env:=by rfl)(hpl:(H0 pos (P8 es X.env)).any (·.1)=false:=by rfl):
 QE X (.Call (.Name x p) (e::es) [] pos) (dCB spd t):=(Gc F hr hg hm hk hb .nil MP ha hdb he hpl).imp GI
theorem Rn {id:O1}{r:RDn}(hc:ww X (.builtin id) r)(hg:Gl X x)(hm:X.mg x=none)(hv:C5 x=some (.builtin id))(ha:QA X (e::es) t)(hn:x≠ "__name__" :=by decide)(hdb:(x==("__debug__" :Str))=false:=by decide)
 (he:P8 (e::es) X.env=(false,B6 e X.env)::P8 es X.env:=by rfl)(hpl:(H0 pos (P8 es X.env)).any (·.1)=false:=by rfl):QE X (.Call (.Name x p) (e::es) [] pos) (dCB r t):=(Ya hc hg hm hv ha hn hdb he hpl).imp DS
theorem GJ {T:O1}{r:RDn}(hc:ww X (.type T) r)(hg:Gl X x)(hm:X.mg x=none)(hv:C5 x=some (.type T))(ha:QA X (e::es) t)(hn:x≠ "__name__" :=by decide)(hdb:(x==("__debug__" :Str))=false:=by decide)
 (he:P8 (e::es) X.env=(false,B6 e X.env)::P8 es X.env:=by rfl)(hpl:(H0 pos (P8 es X.env)).any (·.1)=false:=by rfl):QE X (.Call (.Name x p) (e::es) [] pos) (dCB r t):=(VB hc hg hm hv ha hn hdb he hpl).imp DS
end
def zt (N:G0 Str)(ds:G0 D):SD:=ds.map some++D5 (N.length-ds.length) none
theorem YJ {N:G0 Str}{vs:G0 V}(r:RelDs K H ds vs):RelS K H (zt N ds) (yZ N vs):=by
 have hl:=r.length;refine⟨by unfold zt yZ;simp [hl],λi d e=> ?_⟩;unfold zt at e;unfold yZ
 by_cases hi:i<ds.length
 ·rw [K6 (by simpa using hi),P7] at e;cases q:ds[i]? with
  |none=>rw [q] at e;cases e
  |some d'=>
   rw [q] at e;cases e;obtain⟨v,e1,e2⟩:=r.get q;exact⟨v,by rw [K6 (by simpa [<-hl] using hi),P7,e1];rfl,e2⟩
 ·rw [aC (by simpa using hi),aW] at e;split at e<;>cases e
def YK (Q:KD):EndsD:= {nx:=λ_ h=> ∃h',Sub h' h/\Q .non h',rt:=λd h=> ∃h',Sub h' h/\Q d h'}
section
variable {P:S2}{w:M6}{K:G1}{mg:Str->P5 G2}{base:N5}
theorem Fun.okD {x qual:Str}{st:C3}{f:G6}{fd:S6}{N ps:G0 Str}{k:P0}{spd:RDn}(F:Fun K x qual st f fd)(S:FnScope N ps (jc st))(len: ∀ds h Q,spd ds h Q->ds.length=ps.length)
 (tb:TSD)(hbody: ∀ (cdv:G2) (A:M5) (outer:G0 Env) (s:G5) (H:Hp) (E:XK),Room k (A.deeper (aB qual (jc st) s.heap.objs.size f cdv))->QSs (Xs CX0 P w K mg base N qual (jc st) f cdv A outer s H E).nox (zb st) tb)
 (read: ∀ds h Q,spd ds h Q->tb (YK Q) (zt N ds) h):FnOk P w K mg base CX0 (k+1) f fd ps (LSp K spd):=by
 refine F.ok S (λvs H Q E h=> ?_) (λcdv A outer s H vs Q E hr h=> ?_)
 ·obtain⟨ds,h,Qd,r,rh,q,p⟩:=h;rw [<-r.length];exact len _ _ _ q
 ·obtain⟨ds,h,Qd,r,rh,q,p⟩:=h;refine⟨_,hbody cdv A outer s H E hr,zt N ds,h,YK Qd,YJ r,rh,read ds h Qd q,λmF h' mB H' k rs' rh' ⟨h2,sb,q'⟩=>p .non .non h2 H' k (rh'.sub sb) rfl q',λd v h' H' k rh' r' ⟨h2,sb,q'⟩=>p d v h2 H' k (rh'.sub sb) r' q',λ_ _ _ _ _ _ _ z=>z.elim,λ_ _ _ _ _ _ _ z=>z.elim⟩
end
section
variable {X:Cx}{iter elt:D8}{te:TED}{ti:TID}{tt:TTD}{pos spos:Pos}{scope:L7}{js:G0 P0}{ifs:G0 D8}
theorem Ro {i k:P0}{x y:Str}{p py:Pos}(hc:X.calm=true)(hN:X.N.Nodup)(hk:X.N[k]? =some y)(hy:Loc X.env.scope y)(S:BlockOk X scope js)(hi:QI X (.Name x p) iter ti)(hj:i∈js)(hx:X.N[i]? =some x)(hl:scope.names.lookup x=some .local\/scope.names.lookup x=some .cell)
 (ht: ∀X',jf X scope X'->PTs X' ifs (LT X'.K tt))(he: ∀X',jf X scope X'->QE X' elt te)
 (hsw:L8 (.ListComp elt [⟨.Name x p,iter,ifs,0⟩] scope pos) (some (.Name y py)) spos.line X.env=pure true:=by rfl)
 (hf:X.fn y=true\/X.env.scope.names.lookup y=some .local:=by first|exact .inl rfl|exact .inr rfl|assumption)(hs: ∀x,D9 iter X.env x=pure x:=by intro _;rfl):
 QS X (.Assign [.Name y py] (.ListComp elt [⟨.Name x p,iter,ifs,0⟩] scope pos) spos) (Zi k (yJ (bN i) js ti tt te)):=by
 have base:PS X (.Assign [.Name y py] (.ListComp elt [⟨.Name x p,iter,ifs,0⟩] scope pos) spos) (Qh (tLC js (LI X.K ti) (zK i) (LT X.K tt) (LE X.K te)) (zK k)):=
  Yd hc S hi (λX' hX=>by obtain⟨C,s₀,H₀,ex,rfl⟩:=hX;exact zr hN hx hl) (λX' hX=>by have:=ht X' hX;obtain⟨C,s₀,H₀,ex,rfl⟩:=hX;exact this)
   (λX' hX=>by have:=he X' hX;obtain⟨C,s₀,H₀,ex,rfl⟩:=hX;exact this) (wF hN hk hy hf) hsw hs
 exact base.imp λD σ H h=>by
  obtain⟨mC,hd,Qd,rs,rh,t,p⟩:=VO (K:=X.K) D σ H h;exact XA (Rl hj) σ H _ ⟨mC,hd,Qd,rs,rh,t,p⟩
theorem GK {i j k:P0}{x1 x2 y:Str}{p1 p2 p3 py:Pos}{kk:P0}(hc:X.calm=true)(hN:X.N.Nodup)(hk:X.N[k]? =some y)(hy:Loc X.env.scope y)(S:BlockOk X scope js)(hi:QI X (.Tuple [.Name x1 p1,.Name x2 p2] kk p3) iter ti)(hj:i∈js)(hj2:j∈js)(hij:i≠j)(hx:X.N[i]? =some x1)(hx2:X.N[j]? =some x2)
 (hl:scope.names.lookup x1=some .local\/scope.names.lookup x1=some .cell)(hl2:scope.names.lookup x2=some .local\/scope.names.lookup x2=some .cell)
 (ht: ∀X',jf X scope X'->PTs X' ifs (LT X'.K tt))(he: ∀X',jf X scope X'->QE X' elt te)
 (hsw:L8 (.ListComp elt [⟨.Tuple [.Name x1 p1,.Name x2 p2] kk p3,iter,ifs,0⟩] scope pos) (some (.Name y py)) spos.line X.env=pure true:=by rfl)
 (hf:X.fn y=true\/X.env.scope.names.lookup y=some .local:=by first|exact .inl rfl|exact .inr rfl|assumption)(hs: ∀x,D9 iter X.env x=pure x:=by intro _;rfl):
 QS X (.Assign [.Name y py] (.ListComp elt [⟨.Tuple [.Name x1 p1,.Name x2 p2] kk p3,iter,ifs,0⟩] scope pos) spos) (Zi k (yJ (b2 i j) js ti tt te)):=by
 have base:PS X (.Assign [.Name y py] (.ListComp elt [⟨.Tuple [.Name x1 p1,.Name x2 p2] kk p3,iter,ifs,0⟩] scope pos) spos) (Qh (tLC js (LI X.K ti) (Mf X.K 2 (Wm (zK i) (Wm (zK j) Me))) (LT X.K tt) (LE X.K te)) (zK k)):=
  Yd hc S hi (λX' hX=>by obtain⟨C,s₀,H₀,ex,rfl⟩:=hX;exact Vr hc (wr (zr hN hx hl) (wr (zr hN hx2 hl2) Wn))) (λX' hX=>by have:=ht X' hX;obtain⟨C,s₀,H₀,ex,rfl⟩:=hX;exact this)
   (λX' hX=>by have:=he X' hX;obtain⟨C,s₀,H₀,ex,rfl⟩:=hX;exact this) (wF hN hk hy hf) hsw hs
 exact base.imp λD σ H h=>by
  obtain⟨mC,hd,Qd,rs,rh,t,p⟩:=VO (K:=X.K) D σ H h;exact XA (Rm hj hj2 hij) σ H _ ⟨mC,hd,Qd,rs,rh,t,p⟩
end
def dIn (i':P0)(ti:TID)(tt:TTD)(te:TED)(V:G0 D->HD->Prop)(ys:G0 D):SD->HD->Prop:=λσ h=>ti σ h λj h1=> ∃ (n:P0) (W:P0->G0 D->HD->Prop),W 0 ys h1/\ ∀i ys h',W i ys h'->ys.length<=sizeLine/\
 ∃ds,j h'=some ds/\ds.length<=n/\(ds.length<=i->V ys h')/\
  ∀d,ds[i]? =some d->tt (σ.set i' (some d)) h' λb h3=>if b=true then te (σ.set i' (some d)) h3 λy h4=> ∃h5,Sub h5 h4/\W (i+1) (ys++ [y]) h5 else ∃h5,Sub h5 h3/\W (i+1) ys h5
def PC (bind:D->SD->SD->Prop)(js:G0 P0)(ti:TID)(tt:TTD)(i':P0)(ti':TID)(tt':TTD)(te:TED):TED:=λσ h Q=>ti σ h λj h1=> ∃ (n:P0) (W:P0->G0 D->HD->Prop),W 0 [] h1/\ ∀i ys h',W i ys h'->ys.length<=sizeLine/\
 ∃ds,j h'=some ds/\ds.length<=n/\(ds.length<=i-> ∀p,h' p=none->Q (.lst p) (zi h' p ys))/\
  ∀d,ds[i]? =some d-> ∃mE,bind d (jG js σ) mE/\tt mE h' λb h3=>if b=true then dIn i' ti' tt' te (λys' h6=> ∃h5,Sub h5 h6/\W (i+1) ys' h5) ys mE h3 else ∃h5,Sub h5 h3/\W (i+1) ys h5
def VQ (K:G1)(js:G0 P0)(i':P0)(bind:D->SD->SD->Prop)(g:TG):Prop:= ∀ (σ:St) (mC mH:SD) (H:Hp) (d:D) (v:V) (Q:St->Hp->Prop),RelS K H (jG js mC) (zg js σ)->RelD K H d v->bind d (jG js mC) mH->
 (∀mE,Agree (zg js σ) mE->(∀u,¬mE[i']? =some (some u))->RelS K H mH mE->Q mE H)->g v (zg js σ) H Q
theorem Rp {i':P0}(hi:i∈js)(hi':i'∈js)(hne:i≠i'):VQ K js i' (bN i) (zK i):=λσ mC mH H d v Q rs r b q=>by
 cases (show mH=_ from b);refine q _ (.set v λu=>jO js σ i u hi) (λu z=> ?_) (rs.set r i);rw [B5 hne] at z;exact jO js σ i' u hi' z
theorem Rq {bind:D->SD->SD->Prop}{i':P0}{ti':TID}{tt tt':TTD}{te:TED}(hb:VQ K js i' bind g): ∀σ H Q,LE K (PC bind js ti tt i' ti' tt' te) σ H Q->MR js (LI K ti) g (LT K tt) (LI K ti') (zK i') (LT K tt') (LE K te) σ H Q:=
 λσ H Q ⟨mC,h,Qd,rs,rh,q,p⟩=>by
  refine⟨mC,h,_,rs,rh,q,λj J h1 H1 k1 rh1 jo ⟨n,W,w0,turn⟩=> ?_⟩;refine⟨λi m ys H'=>m=n-i/\Kept H1 H'/\ ∃ds h',RelDs K H' ds ys/\RelH K h' H'/\W i ds h',⟨n-0,rfl,.refl _,[],h1,rfl,rh1,w0⟩,?_⟩;rintro i m ys H' ⟨rfl,kp,yd,h',ry,rh',w⟩;obtain⟨hz,ds,ej,hn,stop,go⟩:=turn i yd h' w;refine⟨by rw [<-ry.length];exact hz,?_⟩;have jo':=jo H' h' kp rh' ds ej i;have kk:Kept H H':=k1.trans kp
  by_cases hi:i<ds.length
  ·obtain⟨g1,y1⟩:=jo'.1 ds[i] (G4 hi);refine .inr ⟨g1,λx H'' y=> ?_⟩;obtain⟨k2,rh2,r2⟩:=y1 x H'' y;obtain⟨mH,bd,q2⟩:=go ds[i] (G4 hi);refine hb σ mC mH H'' ds[i] x _ (((rs.mono (kk.trans k2))).clear js) r2 bd λmE ag un rs2=>⟨ag,?_⟩
   refine LT.bind rs2 rh2 q2 λb h3 H3 k3 rs3 rh3 q3=> ?_
   cases b with
   |true=>
    rw [R3 rfl] at q3 ⊢
    -- the second clause
    refine⟨mH,h3,_,rs3,rh3,q3,λj2 J2 h4 H4 k4 rh4 jo2 ⟨n2,W2,w20,turn2⟩=> ?_⟩;refine⟨λi2 m2 ys2 H5=>m2=n2-i2/\Kept H4 H5/\ ∃ds h5,RelDs K H5 ds ys2/\RelH K h5 H5/\W2 i2 ds h5,⟨n2-0,rfl,.refl _,yd,h4,ry.mono (k2.trans (k3.trans k4)),rh4,w20⟩,?_⟩;rintro i2 m2 ys2 H5 ⟨rfl,kp5,yd5,h5,ry5,rh5,w5⟩;obtain⟨hz5,ds5,ej5,hn5,stop5,go5⟩:=turn2 i2 yd5 h5 w5;refine⟨by rw [<-ry5.length];exact hz5,?_⟩;have jo5:=jo2 H5 h5 kp5 rh5 ds5 ej5 i2;have kk5:Kept H1 H5:=kp.trans (k2.trans (k3.trans (k4.trans kp5)))
    by_cases hi5:i2<ds5.length
    ·obtain⟨g5,y5⟩:=jo5.1 ds5[i2] (G4 hi5);refine .inr ⟨g5,λx6 H6 yy6=> ?_⟩;obtain⟨k6,rh6,r6⟩:=y5 x6 H6 yy6;refine⟨.set x6 un,?_⟩;have rs6:=(rs3.mono (k4.trans (kp5.trans k6))).set r6 i';refine LT.bind rs6 rh6 (go5 ds5[i2] (G4 hi5)) λb h7 H7 k7 rs7 rh7 q7=> ?_
     cases b with
     |true=>
      rw [R3 rfl] at q7 ⊢;exact LE.bind rs7 rh7 q7 λd8 v8 h8 H8 k8 rs8 rh8 r8 ⟨h9,sb,w9⟩=>⟨n2-(i2+1),by omega,rfl,kp5.trans (k6.trans (k7.trans k8)),yd5++ [d8],h9,(ry5.mono (k6.trans (k7.trans k8))).append (.cons r8 .nil),rh8.sub sb,w9⟩
     |false=>
      rw [S4 P3] at q7 ⊢;obtain⟨h9,sb,w9⟩:=q7;exact⟨n2-(i2+1),by omega,rfl,kp5.trans (k6.trans k7),yd5,h9,ry5.mono (k6.trans k7),rh7.sub sb,w9⟩
    ·obtain⟨h9,sb,w9⟩:=stop5 (U5.mp hi5);exact .inl ⟨jo5.2 (U5.mp hi5),n-(i+1),by omega,rfl,kk5,yd5,h9,ry5,rh5.sub sb,w9⟩
   |false=>
    rw [S4 P3] at q3 ⊢;obtain⟨h5,sb,w5⟩:=q3;exact⟨n-(i+1),by omega,rfl,kp.trans (k2.trans k3),yd,h5,ry.mono (k2.trans k3),rh3.sub sb,w5⟩
  ·refine .inl ⟨jo'.2 (U5.mp hi),λa ha=>p (.lst a) (.ref a) _ _ (kk.trans (.new ha)) (rh'.newL ha ry) ⟨rfl,ys,jl⟩ (stop (U5.mp hi) a (rh'.free ha))⟩
section
variable {X:Cx}{iter iter' elt:D8}{te:TED}{ti ti':TID}{tt tt':TTD}{pos:Pos}{scope:L7}{js:G0 P0}{ifs ifs':G0 D8}
theorem BR {i i':P0}{x y:Str}{p py:Pos}(hc:X.calm=true)(S:BlockOk X scope js)(hi:QI X (.Name x p) iter ti)(hj:i∈js)(hj':i'∈js)(hne:i≠i')(hN:X.N.Nodup)(hx:X.N[i]? =some x)(hy:X.N[i']? =some y)
 (hl:scope.names.lookup x=some .local\/scope.names.lookup x=some .cell)(hl':scope.names.lookup y=some .local\/scope.names.lookup y=some .cell)
 (ht: ∀X',jf X scope X'->PTs X' ifs (LT X'.K tt))(hi': ∀X',jf X scope X'->QI X' (.Name y py) iter' ti')(ht': ∀X',jf X scope X'->PTs X' ifs' (LT X'.K tt'))(he: ∀X',jf X scope X'->QE X' elt te)
 (hs: ∀x,D9 iter X.env x=pure x:=by intro _;rfl)(hs': ∀env x,D9 iter' env x=pure x:=by intro _ _;rfl):
 QE X (.ListComp elt [⟨.Name x p,iter,ifs,0⟩,⟨.Name y py,iter',ifs',0⟩] scope pos) (PC (bN i) js ti tt i' ti' tt' te):=
 (show PE X _ (MR js (LI X.K ti) (zK i) (LT X.K tt) (LI X.K ti') (zK i') (LT X.K tt') (LE X.K te)) from DL hc S hi (λX' hX=>by obtain⟨C,s₀,H₀,ex,rfl⟩:=hX;exact zr hN hx hl) (λX' hX=>by have:=ht X' hX;obtain⟨C,s₀,H₀,ex,rfl⟩:=hX;exact this) (λX' hX=>by have:=hi' X' hX;obtain⟨C,s₀,H₀,ex,rfl⟩:=hX;exact this)
  (λX' hX=>by obtain⟨C,s₀,H₀,ex,rfl⟩:=hX;exact zr hN hy hl') (λX' hX=>by have:=ht' X' hX;obtain⟨C,s₀,H₀,ex,rfl⟩:=hX;exact this)
  (λX' hX=>by have:=he X' hX;obtain⟨C,s₀,H₀,ex,rfl⟩:=hX;exact this) hs hs').imp (Rq (Rp hj hj' hne))
end
def Rr:RD2:=λx y h Q=>match x,y with
 | .int i,.int j=>Q (.int (i+j)) h
 | .tup a,.tup b=>a.length+b.length<=sizeLine/\Q (.tup (a++b)) h
 | .lst a,.lst b=> ∃xs ys,h a=some xs/\h b=some ys/\xs.length+ys.length<=sizeLine/\ ∀p,h p=none->Q (.lst p) (zi h p (xs++ys))
 |_,_=>False
def Ni:RD2:=λx y h Q=>match x,y with
 | .int i,.int j=>Q (.int (i-j)) h
 |_,_=>False
def Mn:RD2:=λx y h Q=>match x,y with
 | .int i,.int j=>CMul i j/\Q (.int (i*j)) h
 | .lst a,.int k=> ∃xs,h a=some xs/\ -(2^63)<=k/\k<2^63/\xs.length*k.toNat<=sizeLine/\ ∀p,h p=none->Q (.lst p) (zi h p (D5 k.toNat xs).flatten)
 |_,_=>False
def Mo:RD2:=λx y h Q=>match x,y with
 | .int i,.int j=>0<j/\Q (.int (i%j)) h
 |_,_=>False
def Rs:RD2:=λx y h Q=>match x,y with
 | .int i,.int j=>Mh i j/\Q (.int (i / j)) h
 |_,_=>False
def Nj:RD2:=λx y h Q=>match x,y with
 | .int i,.int j=>NY i j/\Q (.int (i^j.toNat)) h
 |_,_=>False
def Xg (p:G8->G8->B4):RD2:=λx y h Q=>match x,y with
 | .int i,.int j=>Q (.bl (p i j)) h
 |_,_=>False
def eqD:RD2:=λx y h Q=>match x,y with
 | .int i,.int j=>Q (.bl (decide (i=j))) h
 | .bl i,.bl j=>Q (.bl (decide (i=j))) h
 | .str i,.str j=>Q (.bl (decide (i=j))) h
 |_,_=>False
def neD:RD2:=λx y h Q=>match x,y with
 | .int i,.int j=>Q (.bl (!decide (i=j))) h
 | .bl i,.bl j=>Q (.bl (!decide (i=j))) h
 | .str i,.str j=>Q (.bl (!decide (i=j))) h
 |_,_=>False
section
variable {X:Cx}
theorem Jq {f:G2->G2->Sem G2}{C:G8->G8->Prop}{g:G8->G8->V}{gd:G8->G8->D}{r:RD2}(ho:OpR X f (rI C g))(hg: ∀i j H,RelD X.K H (gd i j) (g i j))
 (hr: ∀x y h Q,r x y h Q-> ∃i j,x= .int i/\y= .int j/\C i j/\Q (gd i j) h):OpQ X f r:=ho.imp λx y H Q ⟨dx,dy,h,Qd,rx,ry,rh,q,p⟩=>by
 obtain⟨i,j,e1,e2,c,q'⟩:=hr dx dy h Qd q;subst e1 e2;exact⟨i,j,rx,ry,c,p _ _ _ _ (.refl H) rh (hg i j H) q'⟩
theorem wZ {f:G2->G2->Sem G2}{g:G8->G8->V}{gd:G8->G8->D}{r:RD2}(ho:OpR X f (rI0 g))(hg: ∀i j H,RelD X.K H (gd i j) (g i j))
 (hr: ∀x y h Q,r x y h Q-> ∃i j,x= .int i/\y= .int j/\Q (gd i j) h):OpQ X f r:=ho.imp λx y H Q ⟨dx,dy,h,Qd,rx,ry,rh,q,p⟩=>by
 obtain⟨i,j,e1,e2,q'⟩:=hr dx dy h Qd q;subst e1 e2;exact⟨i,j,rx,ry,p _ _ _ _ (.refl H) rh (hg i j H) q'⟩
theorem VR:OpQ X (B7 .Sub) Ni:=wZ (gd:=λi j=> .int (i-j)) Ds (λ_ _ _=>rfl) λx y h Q q=>by
 cases x<;>first|exact False.elim q|(cases y<;>first|exact False.elim q|exact⟨_,_,rfl,rfl,q⟩)
theorem ya:OpQ X (B7 .Mod) Mo:=Jq (gd:=λi j=> .int (i%j)) Dt (λ_ _ _=>rfl) λx y h Q q=>by
 cases x<;>first|exact False.elim q|(cases y<;>first|exact False.elim q|exact⟨_,_,rfl,rfl,q.1,q.2⟩)
theorem GL:OpQ X (B7 .FloorDiv) Rs:=Jq (gd:=λi j=> .int (i / j)) QX (λ_ _ _=>rfl) λx y h Q q=>by
 cases x<;>first|exact False.elim q|(cases y<;>first|exact False.elim q|exact⟨_,_,rfl,rfl,q.1,q.2⟩)
theorem Qo:OpQ X (B7 .Pow) Nj:=Jq (gd:=λi j=> .int (i^j.toNat)) Du (λ_ _ _=>rfl) λx y h Q q=>by
 cases x<;>first|exact False.elim q|(cases y<;>first|exact False.elim q|exact⟨_,_,rfl,rfl,q.1,q.2⟩)
theorem Jr {p:G8->G8->B4}: ∀x y h Q,Xg p x y h Q-> ∃i j,x= .int i/\y= .int j/\Q (.bl (p i j)) h:=λx y h Q q=>by
 cases x<;>first|exact False.elim q|(cases y<;>first|exact False.elim q|exact⟨_,_,rfl,rfl,q⟩)
theorem Rt:OpQ X (T9 .Lt) (Xg λi j=>decide (i<j)):=wZ (gd:=λi j=> .bl (decide (i<j))) MG (λ_ _ _=>rfl) Jr
theorem XB:OpQ X (T9 .LtE) (Xg λi j=>decide (i<=j)):=wZ (gd:=λi j=> .bl (decide (i<=j))) MH (λ_ _ _=>rfl) Jr
theorem GM:OpQ X (T9 .Gt) (Xg λi j=>decide (j<i)):=wZ (gd:=λi j=> .bl (decide (j<i))) MI (λ_ _ _=>rfl) Jr
theorem GN:OpQ X (T9 .GtE) (Xg λi j=>decide (j<=i)):=wZ (gd:=λi j=> .bl (decide (j<=i))) MJ (λ_ _ _=>rfl) Jr
theorem PD {α:Type}[DecidableEq α]{f:α->V}(hf: ∀a b,f a=f b->a=b)(a b:α):decide (f a=f b)=decide (a=b):=by
 by_cases h:a=b
 ·subst h;simp
 ·rw [N9 h,N9 (λe=>h (hf a b e))]
theorem oq_eq:OpQ X (T9 .Eq) eqD:=op_eq.imp λx y H Q ⟨dx,dy,h,Qd,rx,ry,rh,q,p⟩=>by
 cases dx<;>first|exact False.elim q|(cases dy<;>first|exact False.elim q|skip)
 all_goals first
  |(cases (show x= .int _ from rx);cases (show y= .int _ from ry);refine⟨rfl,p _ _ _ _ (.refl H) rh ?_ q⟩;rw [PD (f:=V.int) (λa b e=>by cases e;rfl)];rfl)
  |(cases (show x= .bl _ from rx);cases (show y= .bl _ from ry);refine⟨rfl,p _ _ _ _ (.refl H) rh ?_ q⟩;rw [PD (f:=V.bl) (λa b e=>by cases e;rfl)];rfl)
  |(cases (show x= .str _ from rx);cases (show y= .str _ from ry);refine⟨rfl,p _ _ _ _ (.refl H) rh ?_ q⟩;rw [PD (f:=V.str) (λa b e=>by cases e;rfl)];rfl)
theorem oq_ne:OpQ X (T9 .NotEq) neD:=op_ne.imp λx y H Q ⟨dx,dy,h,Qd,rx,ry,rh,q,p⟩=>by
 cases dx<;>first|exact False.elim q|(cases dy<;>first|exact False.elim q|skip)
 all_goals first
  |(cases (show x= .int _ from rx);cases (show y= .int _ from ry);refine⟨rfl,p _ _ _ _ (.refl H) rh ?_ q⟩;rw [PD (f:=V.int) (λa b e=>by cases e;rfl)];rfl)
  |(cases (show x= .bl _ from rx);cases (show y= .bl _ from ry);refine⟨rfl,p _ _ _ _ (.refl H) rh ?_ q⟩;rw [PD (f:=V.bl) (λa b e=>by cases e;rfl)];rfl)
  |(cases (show x= .str _ from rx);cases (show y= .str _ from ry);refine⟨rfl,p _ _ _ _ (.refl H) rh ?_ q⟩;rw [PD (f:=V.str) (λa b e=>by cases e;rfl)];rfl)
def Ru (K:G1):R2:=λx y H Q=> ∃a b xs ys,x= .ref a/\y= .ref b/\SqT K H a xs/\SqT K H b ys/\xs= []/\Q (.ref b) H
theorem op_catT0:OpR X (B7 .Add) (Ru X.K):=by
 intro pins s σ H x y v u Q I rx ry h;obtain⟨a,b,xs,ys,rfl,rfl,ha,hb,hx,q⟩:=h;cases rx;cases ry;obtain⟨its,r1,p1,_⟩:=I.tuple ha;obtain⟨its2,r2,p2,_⟩:=I.tuple hb;have hv:its= []:=r1.nil_iff.mpr hx;obtain⟨⟨cls,dd,data,sl⟩,ho,hc,n,hd⟩:=id p1;obtain⟨⟨cls2,dd2,data2,sl2⟩,ho2,hc2,n2,hd2⟩:=id p2;simp only at hc hd hc2 hd2;subst hc hd hc2 hd2;exact dI ⟨_,ho,rfl⟩ ⟨_,ho2,rfl⟩ aX cT V4 U9 (Q4 _ _)
  (tuple_addW0 a b its.toArray its2.toArray n n2 dd dd2 sl sl2 (by simp [hv])) ⟨ho,ho2,.ref b,H,I,rfl,q⟩
theorem zo:OpQ X (B7 .Add) Rr:=(op_add.or (op_catT.or (op_catT0.or DG))).imp λx y H Q ⟨dx,dy,h,Qd,rx,ry,rh,q,p⟩=>by
 cases dx<;>first|exact False.elim q|(cases dy<;>first|exact False.elim q|skip)
 ·exact .inl ⟨_,_,rx,ry,p (.int _) _ _ _ (.refl H) rh rfl q⟩
 ·rename_i ds es;obtain⟨a,vs,e1,h1,r1⟩:=(show ∃a vs,x= .ref a/\H a=some (.tup vs)/\RelDs X.K H ds vs from rx);obtain⟨b,us,e2,h2,r2⟩:=(show ∃a vs,y= .ref a/\H a=some (.tup vs)/\RelDs X.K H es vs from ry);subst e1 e2;obtain⟨hz,q⟩:=q
  by_cases hv:vs= []
  ·subst hv;have e:ds= []:=V2.mp r1.length;subst e;exact .inr (.inr (.inl ⟨a,b,[],us,rfl,rfl,SqT.of h1,SqT.of h2,rfl,p (.tup es) _ _ _ (.refl H) rh ⟨b,us,rfl,h2,r2⟩ q⟩))
  ·refine .inr (.inl ⟨a,b,vs,us,rfl,rfl,SqT.of h1,SqT.of h2,hv,by rw [<-r1.length,<-r2.length];exact hz,λe=> ?_,λ_ c hc=> ?_⟩)
   ·subst e;have e:es= []:=V2.mp r2.length;subst e;rw [bQ] at q;exact p (.tup ds) _ _ _ (.refl H) rh ⟨a,vs,rfl,h1,r1⟩ q
   ·exact p (.tup (ds++es)) _ _ _ (.new hc) (rh.new hc) ⟨c,vs++us,rfl,jl,(r1.append r2).mono (.new hc)⟩ q
 ·rename_i a b;obtain⟨xs,ys,h1,h2,hz,q⟩:=q;obtain⟨vs,e1,r1⟩:=rh a xs h1;obtain⟨us,e2,r2⟩:=rh b ys h2;refine .inr (.inr (.inr ⟨a,b,vs,us,rx.1,ry.1,e1,e2,by rw [<-r1.length,<-r2.length];exact hz,λc hc=> ?_⟩));exact p (.lst c) _ _ _ (.new hc) (rh.newL hc (r1.append r2)) ⟨rfl,_,jl⟩ (q c (rh.free hc))
theorem RelDs.flat {K:G1}{H:Hp}{ds:G0 D}{vs:G0 V}(r:RelDs K H ds vs): ∀k:P0,RelDs K H (D5 k ds).flatten (D5 k vs).flatten
 |0=>by simp;exact .nil
 |k+1=>by rw [F5,F5,A4,A4];exact r.append (RelDs.flat r k)
theorem oq_mul:OpQ X (B7 .Mult) Mn:=(op_mul.or DH).imp λx y H Q ⟨dx,dy,h,Qd,rx,ry,rh,q,p⟩=>by
 cases dx<;>first|exact False.elim q|(cases dy<;>first|exact False.elim q|skip)
 ·exact .inl ⟨_,_,rx,ry,q.1,p (.int _) _ _ _ (.refl H) rh rfl q.2⟩
 ·obtain⟨xs,h1,b1,b2,hz,q⟩:=q;obtain⟨vs,e1,r1⟩:=rh _ xs h1;refine .inr ⟨_,_,vs,rx.1,ry,e1,b1,b2,by rw [<-r1.length];exact hz,λc hc=> ?_⟩;exact p (.lst c) _ _ _ (.new hc) (rh.newL hc (r1.flat _)) ⟨rfl,_,jl⟩ (q c (rh.free hc))
end
def ixD:RD2:=λx y h Q=>match x,y with
 | .tup ds,.int i=> ∃d,atI ds i=some d/\Q d h
 | .lst a,.int i=> ∃ds d,h a=some ds/\atI ds i=some d/\Q d h
 | .scr ns,.int i=> ∃n,atI ns i=some n/\Q (.int n) h
 |_,_=>False
theorem VS {vs:G0 V}(r:RelDs K H ds vs){i:G8}{d:D}(e:atI ds i=some d): ∃v,atI vs i=some v/\RelD K H d v:=by
 unfold atI at e ⊢;rw [<-r.length];cases q:ixN ds.length i with
 |none=>rw [q] at e;cases e
 |some j=>rw [q] at e;exact r.get e
theorem GO {β:Type}(f:α->β){xs:G0 α}{i:G8}{x:α}(e:atI xs i=some x):atI (xs.map f) i=some (f x):=by
 unfold atI at e ⊢;rw [G3];cases q:ixN xs.length i with
 |none=>rw [q] at e;cases e
 |some j=>
  rw [q] at e;show (xs.map f)[j]? =_;rw [P7,(show xs[j]? =some x from e)];rfl
section
variable {X:Cx}{a b e:D8}{ta tb te:TED}{pos p2:Pos}
theorem Nk: ∀σ H Q,LE X.K (dOp ixD ta tb) σ H Q->tOp (rIx X.K) (LE X.K ta) (LE X.K tb) σ H Q:=λσ H Q ⟨mC,h,Qd,rs,rh,t,p⟩=>
 LE.bind rs rh t λdx x h1 H1 k1 rs1 rh1 r1 t1=>LE.bind rs1 rh1 t1 λdy y h2 H2 k2 rs2 rh2 ry q=>by
  have rx:=r1.mono k2;have kk:=k1.trans k2;cases dx<;>first|exact False.elim q|(cases dy<;>first|exact False.elim q|skip)
  ·rename_i ds i;obtain⟨d,e,q⟩:=q;obtain⟨a,vs,e1,hH,r⟩:=(show ∃a vs,x= .ref a/\H2 a=some (.tup vs)/\RelDs X.K H2 ds vs from rx);obtain⟨v,e2,rv⟩:=VS r e;exact .inr (.inl ⟨a,vs,i,v,e1,ry,SqT.of hH,e2,p _ _ _ _ kk rh2 rv q⟩)
  ·rename_i a i;obtain⟨ds,d,hd,e,q⟩:=q;obtain⟨vs,hH,r⟩:=rh2 a ds hd;obtain⟨v,e2,rv⟩:=VS r e;exact .inl ⟨a,vs,i,v,rx.1,ry,SqL.of hH,e2,p _ _ _ _ kk rh2 rv q⟩
  ·rename_i ns i;obtain⟨n,e,q⟩:=q;obtain⟨a,e1,hS⟩:=(show ∃a,x= .ref a/\Scr X.K H2 a ns from rx);exact .inl ⟨a,_,i,.int n,e1,ry,hS.sq,GO V.int e,p (.int n) _ _ _ kk rh2 rfl q⟩
theorem qix (ha:QE X a ta)(hb:QE X b tb)(hs:Jm b):QE X (.Subscript a b pos) (dOp ixD ta tb):=(MN DE ha hb hs).imp Nk
end
def PF:RDn:=λds h Q=>match ds with
 | [.tup xs]=>Q (.int xs.length) h
 | [.lst a]=> ∃xs,h a=some xs/\Q (.int xs.length) h
 | [.scr ns]=>Q (.int ns.length) h
 |_=>False
def Mp:RDn:=λds h Q=>match ds with
 | [.int i]=>Q (.int i) h
 | [.bl k]=>Q (.int (if k then 1 else 0)) h
 |_=>False
def Nl:RDn:=λds h Q=>match ds with
 | [.int i,.int j]=>Q (.int (if j>i then j else i)) h
 |_=>False
def VT:RDn:=λds h Q=>match ds with
 | [.int i,.int j]=>Mh i j/\Q (.tup [.int (i / j),.int (i%j)]) h
 |_=>False
def Ye:RDn:=λds h Q=>match ds with
 | [.tup xs]=>Q (.tup xs) h
 | [.lst a]=> ∃xs,h a=some xs/\Q (.tup xs) h
 |_=>False
def Yf:RDn:=λds h Q=>match ds with
 | [.lst a]=> ∃xs,h a=some xs/\Q (.tup xs) (Wq h a)
 |_=>False
section
variable {X:Cx}
theorem Rv:ww X (.builtin "len") PF:=call_len_seq.imp λxs H Q ⟨ds,h,Qd,r,rh,q,p⟩=>by
 unfold PF at q;split at q
 ·rename_i es;obtain⟨v,e,r1⟩:=jy r;obtain⟨a,vs,e1,hH,r2⟩:=(show ∃a vs,v= .ref a/\H a=some (.tup vs)/\RelDs X.K H es vs from r1);subst e e1;exact⟨a,vs,rfl,.inr (SqT.of hH),by rw [<-r2.length];exact p (.int _) _ _ _ (.refl H) rh rfl q⟩
 ·rename_i a;obtain⟨es,hd,q⟩:=q;obtain⟨v,e,r1⟩:=jy r;obtain⟨vs,hH,r2⟩:=rh a es hd;have e1:v= .ref a:=r1.1;subst e e1;exact⟨a,vs,rfl,.inl (SqL.of hH),by rw [<-r2.length];exact p (.int _) _ _ _ (.refl H) rh rfl q⟩
 ·rename_i ns;obtain⟨v,e,r1⟩:=jy r;obtain⟨a,e1,hS⟩:=(show ∃a,v= .ref a/\Scr X.K H a ns from r1);subst e e1;exact⟨a,_,rfl,.inl hS.sq,by rw [G3];exact p (.int _) _ _ _ (.refl H) rh rfl q⟩
 ·exact q.elim
theorem Yg:ww X (.type "int") Mp:=call_int1.imp λxs H Q ⟨ds,h,Qd,r,rh,q,p⟩=>by
 unfold Mp at q;split at q
 ·rename_i i;obtain⟨v,e,r1⟩:=jy r;cases (show v= .int i from r1);exact .inl ⟨i,e,p (.int i) _ _ _ (.refl H) rh rfl q⟩
 ·rename_i k;obtain⟨v,e,r1⟩:=jy r;cases (show v= .bl k from r1);exact .inr ⟨k,e,p (.int _) _ _ _ (.refl H) rh rfl q⟩
 ·exact q.elim
theorem Rw (hc:X.calm=true):ww X (.builtin "max") Nl:=(Vw hc).imp λxs H Q ⟨ds,h,Qd,r,rh,q,p⟩=>by
 unfold Nl at q;split at q
 ·rename_i i j;obtain⟨v,w,e,r1,r2⟩:=wY r;cases (show v= .int i from r1);cases (show w= .int j from r2);exact⟨i,j,e,p (.int _) _ _ _ (.refl H) rh rfl q⟩
 ·exact q.elim
theorem VU:ww X (.builtin "divmod") VT:=call_divmod.imp λxs H Q ⟨ds,h,Qd,r,rh,q,p⟩=>by
 unfold VT at q;split at q
 ·rename_i i j;obtain⟨c,q⟩:=q;obtain⟨v,w,e,r1,r2⟩:=wY r;cases (show v= .int i from r1);cases (show w= .int j from r2);exact⟨i,j,e,c,λa ha=>p (.tup [.int (i / j),.int (i%j)]) _ _ _ (.new ha) (rh.new ha) ⟨a,_,rfl,jl,.cons rfl (.cons rfl .nil)⟩ q⟩
 ·exact q.elim
theorem cq_tuple:ww X (.type "tuple") Ye:=call_tuple_of.imp λxs H Q ⟨ds,h,Qd,r,rh,q,p⟩=>by
 unfold Ye at q;split at q
 ·rename_i es;obtain⟨v,e,r1⟩:=jy r;obtain⟨a,vs,e1,hH,r2⟩:=(show ∃a vs,v= .ref a/\H a=some (.tup vs)/\RelDs X.K H es vs from r1);subst e e1;exact⟨a,vs,rfl,.inr ⟨SqT.of hH,p (.tup es) _ _ _ (.refl H) rh ⟨a,vs,rfl,hH,r2⟩ q⟩⟩
 ·rename_i a;obtain⟨es,hd,q⟩:=q;obtain⟨v,e,r1⟩:=jy r;obtain⟨vs,hH,r2⟩:=rh a es hd;have e1:v= .ref a:=r1.1;subst e e1;exact⟨a,vs,rfl,.inl ⟨SqL.of hH,λc hc=>p (.tup es) _ _ _ (.new hc) (rh.new hc) ⟨c,vs,rfl,jl,r2.mono (.new hc)⟩ q⟩⟩
 ·exact q.elim
theorem jK:ww X (.type "tuple") Yf:=cq_tuple.imp λxs H Q ⟨ds,h,Qd,r,rh,q,p⟩=>by
 unfold Yf at q;split at q
 ·rename_i a;obtain⟨es,hd,q⟩:=q;exact⟨[.lst a],h,λd h'=>Qd d (Wq h' a),r,rh,⟨es,hd,q⟩,λd v h' H' k rh' rd q'=>p d v _ H' k (rh'.sub (Sub.drop h' a)) rd q'⟩
 ·exact q.elim
end
def Zx:D->P5 O1
 | .non=>some "NoneType" | .bl _=>some "bool" | .int _=>some "int" | .str _=>some "str" | .tup _=>some "tuple" | .lst _=>some "list" | .dic _ _=>some "dict" | .dct _=>none| .scr _=>none| .exc _=>none| .fn _=>none
def Rx (T:O1)(n:O1):B4:=n==T||(T== "int" &&n== "bool")
theorem XC {d:D}{v:V}{n:O1}(r:RelD K H d v)(e:Zx d=some n):TyOf K H v (.type n):=by
 cases d with
 |non=>cases (show v= .non from r);cases e;exact .non
 |bl b=>cases (show v= .bl b from r);cases e;exact .bl b
 |int i=>cases (show v= .int i from r);cases e;exact .int i
 |str x=>cases (show v= .str x from r);cases e;exact .str x
 |tup ds=>
  obtain⟨a,vs,e1,hH,_⟩:=(show ∃a vs,v= .ref a/\H a=some (.tup vs)/\RelDs K H ds vs from r);subst e1;cases e;exact .tup hH
 |lst a=>
  obtain⟨e1,vs,hH⟩:=(show v= .ref a/\ ∃vs,H a=some (.lst vs) from r);subst e1;cases e;exact .lst hH
 |dic x i=>
  obtain⟨a,e1,hH⟩:=(show ∃a,v= .ref a/\H a=some (.dK [(Q6 x,V.int i)]) from r);subst e1;cases e;exact .dK hH
 |dct a=>cases e
 |scr ns=>cases e
 |exc C=>cases e
 |fn a=>cases e
def GP:G0 O1:= ["NoneType","bool","int","str","tuple","list","dict"]
theorem YL {d:D}{n:O1}(e:Zx d=some n):n∈GP:=by
 cases d<;>cases e<;>decide
def Nm (K:G1):Prop:= ∀n∈GP,∀T∈ ["tuple","int","bool","list","str"],b8 K (.type n) (.type T)=some (Rx T n)
theorem GQ (K:G1):Nm K:=by
 intro n hn T hT;simp only [GP,R5,B2,or_false] at hn hT;rcases hn with rfl|rfl|rfl|rfl|rfl|rfl|rfl<;>rcases hT with rfl|rfl|rfl|rfl|rfl<;>with_unfolding_all rfl
theorem VV (T:O1):CallR X (.builtin "isinstance") (λxs H Q=> ∃x t b,xs= [x,.ty T]/\TyOf X.K H x t/\b8 X.K t (.type T)=some b/\Q (.bl b) H):=by
 intro pins s σ H xs us Q I r h;obtain⟨x,t,b,rfl,ty,e,q⟩:=h;obtain⟨u,w',rfl,rx,rt⟩:=Xr r;cases (show w'=j9 T from rt);exact Vy I rx ty e λtk=>⟨.bl b,H,I.tok tk,rfl,q⟩
def dIs (T:O1)(ta:TED):TED:=λσ h Q=>ta σ h λx h1=> ∃n,Zx x=some n/\Q (.bl (Rx T n)) h1
theorem Nn {a:D8}{ta:TED}{T:O1}{t:Str}{p p2:Pos}(hT:T∈ ["tuple","int","bool","list","str"])(hg:Gl X "isinstance")(hm:X.mg "isinstance" =none)(hg2:Gl X t)(hm2:X.mg t=none)(hv:C5 t=some (.type T))(ha:QE X a ta)
 (hn:t≠ "__name__" :=by decide)(hd:(t==("__debug__" :Str))=false:=by decide)
 (h1:P8 [a,.Name t p2] X.env=(false,B6 a X.env)::P8 [.Name t p2] X.env:=by rfl)(h2:(H0 pos (P8 [.Name t p2] X.env)).any (·.1)=false:=by rfl):
 QE X (.Call (.Name "isinstance" p) [a,.Name t p2] [] pos) (dIs T ta):=
 (Ya (VV T) hg hm fP (wG ha (wG (QN (v:= .ty T) hg2 hm2 hv rfl hn hd) pa_nil (by rfl)) h1) (by decide) (by decide) h1 h2).imp
  λσ H Q ⟨mC,h,Qd,rs,rh,t,p⟩=>LE.bind rs rh t λd v h1 H1 k1 rs1 rh1 r1 ⟨n,e,q⟩=>⟨v,.type n,Rx T n,rfl,XC r1 e,GQ _ n (YL e) T hT,p (.bl _) _ _ _ k1 rh1 rfl q⟩
theorem VW (bs:G0 B4):(D3 bs.length).all (λi=>bs.getD i false)=bs.all id:=by
 induction bs with
 |nil=>rfl
 |cons b bs ih=>
  rw [S3,List.range_succ_eq_map,g4,K4,g4];show (b&&_)=(b&&bs.all id);rw [<-ih];rfl
theorem VX {bs:G0 B4}{its:G0 G2}(r:Vals (bs.map V.bl) its){i:P0}{v:G2}(e:its[i]? =some v):v= .bool (bs.getD i false):=by
 have hl:=r.length;rw [G3] at hl;have hi:i<its.length:=(D1.mp e).1;have hb:(bs.map V.bl)[i]? =some (.bl bs[i]):=by rw [P7,G4 (by omega)];rfl
 obtain⟨u,e1,r1⟩:=r.get hb;rw [e] at e1;cases e1;rw [D6,G4 (by omega)];exact r1
section
variable {X:Cx}
theorem Js (hc:X.calm=true):CallR X (.builtin "all") (λxs H Q=> ∃ (a:G6) (bs:G0 B4),xs= [.ref a]/\SqL X.K H a (bs.map V.bl)/\Q (.bl (bs.all id)) H):=by
 intro pins s σ H xs us Q I r h;obtain⟨a,bs,rfl,hS,q⟩:=h;obtain⟨u,rfl,ru⟩:=Jl r;cases ru;obtain⟨its,rv,pl,hz⟩:=I.list hS;have hl:=pl.isList;have hlt:a<s.heap.objs.size:=by obtain⟨_,e,_⟩:=hl;exact P9 e
 refine call_all_walk (J6 hl ?_);refine⟨s.heap.objs.size,_,_,_,_,_,λi=>bs.getD i false,rfl,Walks.list (A:=X.A.in1) (show X.A.in1.handled=none from I.ok.hd hc) s.heap.objs.size a (R7 hlt) its.toArray,⟨⟨_,D4 _ rfl,rfl,rfl⟩,hl.push _⟩,?_,λh' tk hk=> ?_⟩
 ·intro i v s' Q' E' hP hQ;have e:its[i]? =some v:=by simpa using hP
  rw [VX rv e];exact C4 hQ
 ·have hn:its.toArray.size=bs.length:=by rw [P1,<-rv.length,G3]
  rw [hn,VW];exact⟨.bl _,H,I.kept (t':=tk) (λb o e=>hk b o (λz=>by rw [P2.mp z] at e;exact absurd (P9 e) (B8 _)) (G7 _ e)),rfl,q⟩
theorem vm {K:G1}{H:Hp}: ∀ {bs:G0 B4} {vs:G0 V},RelDs K H (bs.map D.bl) vs->vs=bs.map V.bl
 | [],_,h=>h
 |b::bs,vs,h=>by
  obtain⟨v,r,e,h1,h2⟩:=(show ∃v r,vs=v::r/\RelD K H (.bl b) v/\RelDs K H (bs.map D.bl) r from h);rw [e,vm h2,(show v= .bl b from h1)];rfl
def Ry:RDn:=λds h Q=> ∃ (a:G6) (bs:G0 B4),ds= [.lst a]/\h a=some (bs.map D.bl)/\Q (.bl (bs.all id)) (Wq h a)
theorem Yh (hc:X.calm=true):ww X (.builtin "all") Ry:=(Js hc).imp λxs H Q ⟨ds,h,Qd,r,rh,⟨a,bs,e,hd,q⟩,p⟩=>by
 subst e;obtain⟨v,e,r1⟩:=jy r;obtain⟨vs,hH,r2⟩:=rh a _ hd;have e1:v= .ref a:=r1.1;rw [vm r2] at hH;subst e e1;exact⟨a,bs,rfl,SqL.of hH,p (.bl _) _ _ _ (.refl H) (rh.sub (Sub.drop h a)) rfl q⟩
end
def Mq (to:TED)(te:TED):TED:=λσ h Q=>to σ h λx h1=> ∃a,x= .lst a/\te σ h1 λy h2=> ∃xs,h2 a=some xs/\xs.length<sizeLine/\Q .non (zi h2 a (xs++ [y]))
section
variable {X:Cx}{o e i:D8}{to te ti:TED}{apos cpos pos:Pos}
theorem BS (ho:QE X o to)(he:QE X e te)(hbase:A8 o "append" X.env (B6 o X.env)=B6 o X.env:=by rfl)
 (hfew:((H0 cpos (P8 [e] X.env)).all (λx=> !x.1)&&(cC cpos (X6 [] X.env)).all (λx=>x.1.isSome)&&decide ([e].length+([]:G0 V7).length+(if ([]:G0 V7).isEmpty then 0 else 1)<30))=true:=by rfl)
 (hline:(apos.endLine==cpos.line)=true:=by rfl)(hs:P8 [e] X.env=(false,B6 e X.env)::P8 [] X.env:=by rfl)(hplain:(H0 cpos (P8 [] X.env)).any (·.1)=false:=by rfl):
 QE X (.Call (.Attribute o "append" apos) [e] [] cpos) (Mq to te):=
 (Gh V3 g6 g7 VE ho (wG he pa_nil hs) hbase hfew hline hs hplain).imp
  λσ H Q ⟨mC,h,Qd,rs,rh,t,p⟩=>LE.bind rs rh t λd v h1 H1 k1 rs1 rh1 r1 ⟨a,e,q⟩=>by
   subst e;obtain⟨e1,vs,hH⟩:=(show v= .ref a/\ ∃vs,H1 a=some (.lst vs) from r1);subst e1;refine⟨.inl ⟨rfl,vs,SqL.of hH⟩,?_⟩;refine LE.bind rs1 rh1 q λy u h2 H2 k2 rs2 rh2 r2 ⟨xs,hx,hz,q2⟩=> ?_
   obtain⟨ws,hW,r3⟩:=rh2 a xs hx;refine⟨a,ws,u,rfl,rfl,hW,by rw [<-r3.length];exact hz,p .non _ _ _ (k1.trans (k2.trans (.put hW))) (rh2.put hW (r3.append (.cons r2 .nil))) rfl q2⟩
def GR (to ti:TED):TGD:=λd σ h Q=>to σ h λo h1=>ti σ h1 λi h2=> ∃a k xs j,o= .lst a/\i= .int k/\h2 a=some xs/\ixN xs.length k=some j/\Q σ (zi h2 a (xs.set j d))
theorem Rz (ho:QE X o to)(hi:QE X i ti)
 (ha: ∀v,Y0 (.Subscript o i pos) X.env v=(do
  let ov <-J5 [v] (B6 o X.env)
  let iv <-J5 [v,ov] (B6 i X.env)
  Y9 pos
  J5 [v,ov,iv] (f6 ov iv v)
  lA [v,ov,iv] []):=by intro _;rfl):QG X (.Subscript o i pos) (GR to ti):=
 (Dk ho hi Xv ha).imp λv σ H Q ⟨d,mC,h,Qd,r,rs,rh,q,p⟩=>
  LE.bind rs rh q λd1 v1 h1 H1 k1 rs1 rh1 r1 q1=>LE.bind rs1 rh1 q1 λd2 v2 h2 H2 k2 rs2 rh2 r2 ⟨a,k,xs,j,e1,e2,hx,hj,q2⟩=>by
   subst e1 e2;have e3:v1= .ref a:=(r1.mono k2).1;obtain⟨ws,hW,r3⟩:=rh2 a xs hx;refine⟨a,ws,k,j,e3,r2,hW,by rw [<-r3.length];exact hj,p _ _ _ _ (k1.trans (k2.trans (.put hW))) (rs2.mono (.put hW)) (rh2.put hW (RelDs.set ((r.mono k1).mono k2) j r3)) q2⟩
end
def VY (N:G0 Str)(sc:G0 (Str×NameKind))(scope:L7)(js:G0 P0):B4:=
 scope.kind== .function&&scope.names.all (λp=>p.2 != .cell||scope.names.lookup p.1==some .cell)&&scope.names.all (λp=>p.2 != .local||scope.names.lookup p.1==some .local)&&
 scope.names.all (λp=>p.2 != .free||sc.lookup p.1==some .cell||sc.lookup p.1==some .free)&&
 (D3 N.length).all λi=>(scope.names.lookup (N.getD i iJ) !=some .local&&scope.names.lookup (N.getD i iJ) !=some .cell)||js.contains i
theorem jU (h:VY X.N X.env.scope.names scope js=true):BlockOk X scope js:=by
 unfold VY at h;simp only [O7] at h;obtain⟨⟨⟨⟨h1,h2⟩,h3⟩,h4⟩,h5⟩:=h;refine⟨eq_of_beq h1,λp hp e=> ?_,λp hp e=> ?_,λp hp e=> ?_,λi x e1 e2=> ?_⟩
 ·have:=C1.mp h3 p hp;rw [e] at this;simpa using this
 ·have:=C1.mp h2 p hp;rw [e] at this;simpa using this
 ·have:=C1.mp h4 p hp;rw [e] at this;simpa using this
 ·have hi:i<X.N.length:=(D1.mp e1).1;have:=C1.mp h5 i (S8.mpr hi);rw [D6,e1,K5] at this;rcases e2 with e2|e2<;>(rw [e2] at this;simpa using this)
theorem qpt {t:TTD}(h:QW X e t):QT X e t:=h.pt
theorem VZ {te:TED}{σ:SD}{h1:HD}{Q:KD}{j:ItD}(f:D->D)(hz:ds.length<=sizeLine)(hj:j h1=some ds)
 (ht: ∀R:ItD->HD->Prop,R j h1->ti σ h R)(he: ∀d∈ds,∀Q':KD,Q' (f d) h1->te ((jG js σ).set i (some d)) h1 Q')(hq: ∀p,h1 p=none->Q (.lst p) (zi h1 p (ds.map f))):yJ (bN i) js ti yr te σ h Q:=by
 refine ht _ ⟨ds.length,λk ys h'=>h'=h1/\ys=(ds.take k).map f,⟨rfl,by simp⟩,?_⟩;rintro k ys h' ⟨rfl,rfl⟩;refine⟨by simp only [G3,B0];omega,ds,hj,D0 _,λhl p hp=> ?_,λd hd=>⟨_,rfl,?_⟩⟩
 ·rw [M2 hl];exact hq p hp
 ·unfold yr;dsimp only;rw [R3 rfl];refine he d (S0 hd) _ ⟨h',Sub.refl _,rfl,?_⟩;rw [N4,hd];simp
end L2
namespace HT
open PySem PySem.Spec PyProof.Rows
section
variable {prog:S2}{w:M6}{A:M5}{E:G2->G5->Prop}{s:G5}
theorem wJ {t sl:G6}{items:B3 G2}{vl vu:G2}{lo hi:P5 G8}{Q:G2->G5->Prop}(ht:iW s.heap t items)(hs:s.heap.IsSliceOf sl vl vu .none)(pl:bG vl lo)(pu:bG vu hi)
 (hw:sIx items.size 0 lo=0/\sIx items.size items.size hi=items.size)(h:Q (.ref t) s):D7 (R1 prog w) A (aQ (.ref t) (.ref sl)) Q E s:=by
 obtain⟨os,hos,hcs,hds⟩:=id hs;have hTs:s.TypeIs (.ref sl) "slice" :=⟨os,hos,hcs⟩;unfold aQ
 try with_reducible refine O5 ?_
 first|refine wpAny_bind (G9 ?_)|skip
 refine wpAny_bind (dJ ht.typeIs (by decide) ?_);refine wpAny_bind (E4 (name:=V5 "__getitem__") ht.typeIs F7
  (B1 F7 ht.typeIs cO ?_ (cZ _ _)))
 show D7 _ _ (O8 (.ref t) >>= _) _ _ s;refine wpAny_bind (gX ht ?_);refine wpAny_bind (Z1 hTs ?_);rw [R3 (by decide)];refine wpAny_bind (zV hs pl pu ?_);have hyes:((((sIx items.size 0 lo:P0):G8)==0&&(1:G8)==1&&(sIx items.size items.size hi-sIx items.size 0 lo)==items.size)=true):=by
  rw [hw.1,hw.2];simp
 show D7 _ _ (if (((sIx items.size 0 lo:P0):G8)==0&&(1:G8)==1&&(sIx items.size items.size hi-sIx items.size 0 lo)==items.size)=true then _ else _) _ _ s;rw [R3 hyes];refine wpAny_bind (m:=aF (.ref t)) ?_;unfold aF;refine wpAny_bind (Z1 ht.typeIs (G9 ?_));rw [R3 (by decide)];exact wpAny_bind (bE (G9 ⟨_,rfl,G9 h⟩))
end
end HT
namespace L2
open PySem PySem.Spec PyProof.Rows
def BT (K:G1):V->P5 G8->P5 G8->Hp->VK->Prop:=λx lo hi H Q=> ∃a xs,x= .ref a/\SqT K H a xs/\(HT.sIx xs.length 0 lo=0/\HT.sIx xs.length xs.length hi=xs.length)/\Q (.ref a) H
variable {X:Cx}
theorem sl_whole:SlR X (BT X.K):=by
 intro pins s σ H x v vl vu lo hi sl Q I rx hs pl pu h;obtain⟨a,xs,rfl,hx,hw,q⟩:=h;cases rx;obtain⟨its,r,ht,hz⟩:=I.tuple hx;have hlen:its.toArray.size=xs.length:=by rw [P1];exact r.length.symm
 refine⟨"tuple",_,PyProof.Rows.slot_tuple_getitem.lookup,ht.typeIs,?_⟩;exact HT.wJ ht hs pl pu (by rw [hlen];exact hw) ⟨.ref a,H,I,rfl,q⟩
def Wt {α:Type}(xs:G0 α)(lo hi:P5 G8):G0 α:=(xs.drop (HT.sIx xs.length 0 lo)).take (HT.sIx xs.length xs.length hi-HT.sIx xs.length 0 lo)
abbrev TOD:=SD->HD->(P5 G8->HD->Prop)->Prop
def Ua:TOD:=λ_ h Q=>Q none h
def RA (t:TED):TOD:=λσ h Q=>t σ h λx h1=> ∃i,x= .int i/\Q (some i) h1
def LO (K:G1)(t:TOD):TO:=λσ H Q=> ∃mC h Qd,RelS K H mC σ/\RelH K h H/\t mC h Qd/\ ∀o h' H',Kept H H'->RelH K h' H'->Qd o h'->Q o H'
theorem LO.bind {K:G1}{ta:TOD}{σ:St}{H:Hp}{mC:SD}{h:HD}{kd:P5 G8->HD->Prop}{k:P5 G8->Hp->Prop}(rs:RelS K H mC σ)(rh:RelH K h H)(t:ta mC h kd)(f: ∀o h' H',Kept H H'->RelS K H' mC σ->RelH K h' H'->kd o h'->k o H'):LO K ta σ H k:=
 ⟨mC,h,kd,rs,rh,t,λo h' H' kp r1 q=>f o h' H' kp (rs.mono kp) r1 q⟩
theorem PO.imp {e:P5 D8}{t t':TO}(h:PO X e t)(i: ∀σ H Q,t' σ H Q->t σ H Q):PO X e t':=λpins s σ H Q I q=>h pins s σ H Q I (i σ H Q q)
abbrev QO (X:Cx)(e:P5 D8)(t:TOD):Prop:=PO X e (LO X.K t)
theorem GS:QO X none Ua:=po_none.imp λσ H Q ⟨mC,h,Qd,rs,rh,q,p⟩=>p none h H (.refl H) rh q
theorem GT {e:D8}{te:TED}(he:QE X e te):QO X (some e) (RA te):=(Gf he).imp λσ H Q ⟨mC,h,Qd,rs,rh,q,p⟩=>
 LE.bind rs rh q λd v h1 H1 k1 rs1 rh1 r1 ⟨i,e,q1⟩=>by subst e;exact⟨i,r1,p _ _ _ k1 rh1 q1⟩
def slD:D->P5 G8->P5 G8->HD->KD->Prop:=λx lo hi h Q=>match x with
 | .tup ds=>Q (.tup (Wt ds lo hi)) h
 | .scr ns=> ∀p,h p=none->Q (.lst p) (zi h p ((Wt ns lo hi).map D.int))
 | .lst a=> ∃ds,h a=some ds/\ ∀p,h p=none->Q (.lst p) (zi h p (Wt ds lo hi))
 |_=>False
def dSl (te:TED)(tl th:TOD):TED:=λσ h Q=>te σ h λx h1=>tl σ h1 λl h2=>th σ h2 λu h3=>slD x l u h3 Q
theorem Jt {K:G1}{H:Hp}{ds:G0 D}{vs:G0 V}(r:RelDs K H ds vs)(lo hi:P5 G8):RelDs K H (Wt ds lo hi) (Xc vs lo hi):=by
 unfold Wt Xc;rw [r.length];exact(r.drop _).take _
theorem Ub {α β:Type}(f:α->β)(xs:G0 α)(lo hi:P5 G8):Wt (xs.map f) lo hi=(Wt xs lo hi).map f:=by
 unfold Wt;rw [G3,g8,g9]
theorem RB {e:D8}{te:TED}{lo hi:P5 D8}{tl th:TOD}{pos p2:Pos}(he:QE X e te)(hl:QO X lo tl)(hu:QO X hi th):QE X (.Subscript e (.Slice lo hi none p2) pos) (dSl te tl th):=
 (Xu (sl_tup.or (sl_whole.or Gg)) he hl hu).imp λσ H Q ⟨mC,h,Qd,rs,rh,q,p⟩=>
  LE.bind rs rh q λd v h1 H1 k1 rs1 rh1 r1 q1=>LO.bind rs1 rh1 q1 λl h2 H2 k2 rs2 rh2 q2=>LO.bind rs2 rh2 q2 λu h3 H3 k3 rs3 rh3 q3=>by
   have rv:=(r1.mono k2).mono k3;have kk:=k1.trans (k2.trans k3);cases d<;>first
    |exact False.elim q3
    |skip
   ·rename_i ds;obtain⟨a,vs,e1,hH,r⟩:=(show ∃a vs,v= .ref a/\H3 a=some (.tup vs)/\RelDs X.K H3 ds vs from rv)
    by_cases hw:HT.sIx vs.length 0 l=0/\HT.sIx vs.length vs.length u=vs.length
    ·refine .inr (.inl ⟨a,vs,e1,SqT.of hH,hw,p (.tup (Wt ds l u)) _ _ _ kk rh3 ⟨a,vs,rfl,hH,?_⟩ q3⟩);have z:=Jt r l u;have e:Xc vs l u=vs:=by unfold Xc;rw [hw.1,hw.2];simp
     rwa [e] at z
    ·exact .inl ⟨a,vs,e1,SqT.of hH,hw,λc hc=>p (.tup (Wt ds l u)) _ _ _ (kk.trans (.new hc)) (rh3.new hc) ⟨c,_,rfl,jl,(Jt r l u).mono (.new hc)⟩ q3⟩
   ·rename_i a;obtain⟨ds,hd,q3⟩:=q3;obtain⟨vs,hH,r⟩:=rh3 a ds hd;exact .inr (.inr ⟨a,vs,rv.1,SqL.of hH,λc hc=>p (.lst c) _ _ _ (kk.trans (.new hc)) (rh3.newL hc (Jt r l u)) ⟨rfl,_,jl⟩ (q3 c (rh3.free hc))⟩)
   ·rename_i ns;obtain⟨a,e1,hS⟩:=(show ∃a,v= .ref a/\Scr X.K H3 a ns from rv);refine .inr (.inr ⟨a,_,e1,hS.sq,λc hc=>p (.lst c) _ _ _ (kk.trans (.new hc)) (rh3.newL hc ?_) ⟨rfl,_,jl⟩ (q3 c (rh3.free hc))⟩);have z:=Jt (yq (K:=X.K) (H:=H3) ns) l u
    rwa [Ub] at z
end L2
namespace HT
open PySem PySem.Spec PyProof.Rows
open Sem (wp)
open Builtin
theorem yR:fillsNumberSlot (.type "tuple") "mul" =pure false:=
 PySem.fillsNumberSlot_seq (id:= "tuple.__mul__") (r:=some (.builtin "tuple.__rmul__")) F.slot_tuple_mul.lookup (by decide +kernel) F.slot_tuple_rmul.lookup (by decide +kernel)
theorem Zy:kZ (.type "tuple")=pure (some (.builtin "tuple.__mul__")):=by
 unfold kZ;rw [e7 (T:= "tuple") (name:= "__mul__") (id:= "tuple.__mul__") F.slot_tuple_mul.lookup (by decide +kernel),e7 (T:= "tuple") (name:= "__rmul__") (id:= "tuple.__rmul__") F.slot_tuple_rmul.lookup (by decide +kernel)];rfl
section
variable {prog:S2}{w:M6}{A:M5}{E:G2->G5->Prop}{s:G5}
theorem Ju {k:G8}{t:Tok}{l:G6}{o:Obj}{its:B3 G2}{n:P0}{P:Z5->G5->Prop}(at_:s.heap.get? l=some o)(tup:o.cls= .type "tuple")(dat:o.data= .seq its n)(h:P (.done (.ret .notImplemented)) s):D7 (R1 prog w) A (Builtin.«int.__rmul__» ⟨[.int k t,.ref l],[]⟩) P E s:=by
 obtain⟨c,dd,dt,sl⟩:=o;cases tup;cases dat;obtain⟨hp,g,d,tk,os⟩:=s
 wp_walk
 exact h
theorem Wu {l:G6}{its:B3 G2}{n:P0}{x:G8}{u:Tok}{dd:P5 G6}{sl:B3 (P5 G2)}{P:Z5->G5->Prop}(at_:s.heap.get? l=some {cls:= .type "tuple",dict:=dd,data:= .seq its n,slots:=sl})(fits: -(2^63)<=x/\x<2^63)
 (same:(its.isEmpty||x==1)=true->P (.done (.ret (.ref l))) s)
 (gone:(its.isEmpty||x==1)=false->(decide (x<=0)||its.isEmpty)=true->P (.done (.ret (.ref s.heap.objs.size))) {s with heap:=s.heap.push {cls:= .type "tuple",data:= .seq #[]}})
 (more:(its.isEmpty||x==1)=false->(decide (x<=0)||its.isEmpty)=false-> ¬ (its.size:G8)*x>(2^63-1) / 8/\aG ((its.size:G8)*x)=false/\((D5 x.toNat its).foldl (· ++ ·) #[]).size<=sizeLine/\
  P (.done (.ret (.ref s.heap.objs.size))) {s with heap:=s.heap.push {cls:= .type "tuple",data:= .seq ((D5 x.toNat its).foldl (· ++ ·) #[])}}):
 D7 (R1 prog w) A (Builtin.«tuple.__mul__» ⟨[.ref l,.int x u],[]⟩) P E s:=by
 obtain⟨hp,g,d,tk,os⟩:=s
 wp_walk
 rw [S4 (by simp only [bS,L9];omega)]
 wp_walk
 cases c1:(its.isEmpty||x==1) with
 |true=>
  rw [R3 rfl]
  wp_walk
  exact same c1
 |false=>
  rw [S4 P3];cases c2:(decide (x<=0)||its.isEmpty) with
  |true=>
   rw [R3 rfl]
   wp_walk
   exact gone c1 c2
  |false=>
   obtain⟨m1,m2,m3,m4⟩:=more c1 c2;rw [S4 P3];dsimp only;rw [S4 m1,m2,S4 P3]
   wp_walk
   exact m4
end
end HT
namespace L2
open PySem PySem.Spec PyProof.Rows
def No (K:G1):R2:=λx y H Q=> ∃ (a:G6) (k:G8) (xs:G0 V),x= .ref a/\y= .int k/\SqT K H a xs/\ -(2^63)<=k/\k<2^63/\xs.length*k.toNat<=sizeLine/\
 ((xs= []\/k=1)->Q (.ref a) H)/\(¬ (xs= []\/k=1)-> ∀p,H p=none->Q (.ref p) (upd H p (.tup (D5 k.toNat xs).flatten)))
theorem yX {l:G0 G2}:l.toArray= #[]↔l= []:=by cases l<;>simp
variable {X:Cx}
theorem GU:OpR X (B7 .Mult) (No X.K):=by
 intro pins s σ H x y v u Q I rx ry h;obtain⟨a,k,xs,rfl,rfl,hH,h1,h2,hz,q1,q2⟩:=h;cases rx;obtain⟨t,rfl⟩:=ry;obtain⟨its,r,ht,_⟩:=I.tuple hH;obtain⟨⟨cls,dd,data,sl⟩,ho,hc,n,hd⟩:=id ht;simp only at hc hd;subst hc hd;have hl:=r.length;have hnew:(D5 k.toNat its.toArray).foldl (· ++ ·) #[]=(D5 k.toNat its).flatten.toArray:=by
  have:=vb its k.toNat [];rw [F6] at this;exact this
 have few:its.length*k.toNat<=sizeLine:=by rw [<-hl];exact hz
 have free:=I.hok.fresh (D0 _);refine aK (T:= "tuple") (U:= "int") (by decide) ⟨_,ho,rfl⟩ (λs'=>bI s' k t) HT.yR fM Y1 HT.Zy F.slot_int_index.lookup
  (B1 Y1 (bI s k t) eO (HT.Ju ho rfl rfl ⟨_,rfl,rfl,⟨_,ho,rfl⟩,B1 F.slot_tuple_mul ⟨_,ho,rfl⟩ F.entry_tuple_mul (HT.Wu ho ⟨h1,h2⟩ (λc=> ?_) (λc c0=> ?_) (λc c0=> ?_)) (F.args_tuple_mul_2 _ _)⟩) (dM _ _))
 ·refine⟨_,rfl,.ref a,H,I,rfl,q1 ?_⟩;simp only [bS,beq_iff_eq,dP,yX] at c;exact c.imp (λe=>r.nil_iff.mp e) id
 ·simp only [cF,beq_eq_false_iff_ne,aH,ne_eq,yX] at c;have k0:k.toNat=0:=by
   simp only [bS,L9,dP,yX] at c0;have:=c0.resolve_right c.1;omega
  have last:=q2 (λz=>z.elim (λe=>c.1 (r.nil_iff.mpr e)) c.2) _ free;rw [k0] at last;exact⟨_,rfl,.ref s.heap.objs.size,_,I.laid (t':=s.toks) (o:= .tup []) (λb ob q=>G7 _ q) (D0 _) ⟨by decide,[],.nil,IsTupN.new _ _⟩,rfl,last⟩
 ·simp only [cF,beq_eq_false_iff_ne,aH,ne_eq,yX,decide_eq_false_iff_not] at c c0;have em:((its.toArray.size:P0):G8)*k=((its.length*k.toNat:P0):G8):=by rw [Int.natCast_mul,P1,show ((k.toNat:P0):G8)=k by omega]
  have cap:(sizeLine:P0)<=(2^63-1) / 8:=by decide
  rw [em,hnew];refine⟨by omega,by unfold aG;exact N9 (by omega),by rw [P1,Wp,dN];exact few,_,rfl,.ref s.heap.objs.size,_,I.laid (t':=s.toks) (o:= .tup (D5 k.toNat xs).flatten) (λb ob q=>G7 _ q) (D0 _) ⟨by rw [Wp,dN];exact hz,_,r.rep k.toNat,IsTupN.new _ _⟩,rfl,q2 (λz=>z.elim (λe=>c.1 (r.nil_iff.mpr e)) c.2) _ free⟩
def Mr:RD2:=λx y h Q=>match x,y with
 | .tup ds,.int k=> -(2^63)<=k/\k<2^63/\ds.length*k.toNat<=sizeLine/\Q (.tup (D5 k.toNat ds).flatten) h
 |x,y=>Mn x y h Q
theorem Jv:OpQ X (B7 .Mult) Mr:=(oq_mul.or GU).imp λx y H Q ⟨dx,dy,h,Qd,rx,ry,rh,q,p⟩=>by
 by_cases ht: ∃ds k,dx= .tup ds/\dy= .int k
 ·obtain⟨ds,k,e1,e2⟩:=ht;subst e1 e2;obtain⟨b1,b2,hz,q⟩:=q;obtain⟨a,vs,e,hH,r⟩:=(show ∃a vs,x= .ref a/\H a=some (.tup vs)/\RelDs X.K H ds vs from rx);refine .inr ⟨a,k,vs,e,ry,SqT.of hH,b1,b2,by rw [<-r.length];exact hz,λhs=> ?_,λ_ c hc=>p (.tup _) _ _ _ (.new hc) (rh.new hc) ⟨c,_,rfl,jl,(r.flat _).mono (.new hc)⟩ q⟩;refine p (.tup _) _ _ _ (.refl H) rh ⟨a,vs,rfl,hH,?_⟩ q;rcases hs with e0|e1
  ·subst e0;have:ds= []:=V2.mp r.length;subst this;simpa using r
  ·subst e1;simpa using r
 ·refine .inl ⟨dx,dy,h,Qd,rx,ry,rh,?_,p⟩;unfold Mr at q;split at q
  ·exact absurd ⟨_,_,rfl,rfl⟩ ht
  ·exact q
def Np:D->HD->KD->Prop:=λx h Q=>match x with
 | .int i=>Q (.int (-i)) h
 |_=>False
def dUn (f:D->HD->KD->Prop)(ta:TED):TED:=λσ h Q=>ta σ h λx h1=>f x h1 Q
theorem Bi {a:D8}{ta:TED}{pos:Pos}(ha:QE X a ta):QE X (.UnaryOp .USub a pos) (dUn Np ta):=
 (MF Dv ha).imp λσ H Q ⟨mC,h,Qd,rs,rh,t,p⟩=>LE.bind rs rh t λd v h1 H1 k1 rs1 rh1 r1 q=>by
  cases d<;>first
   |exact False.elim q
   |exact⟨_,r1,p (.int _) _ _ _ k1 rh1 rfl q⟩
theorem Vals.rev: ∀ {xs:G0 V} {us:G0 G2},Vals xs us->Vals xs.reverse us.reverse
 |_,_,.nil=> .nil
 |_,_,.cons r t=>by rw [W3,W3];exact(Vals.rev t).append (.cons r .nil)
variable {K:G1}
theorem RelDs.rev {H:Hp}: ∀ {ds:G0 D} {vs:G0 V},RelDs K H ds vs->RelDs K H ds.reverse vs.reverse
 | [],_,h=>by cases (show _= [] from h);exact .nil
 |d::ds,vs,h=>by
  obtain⟨v,r,e,h1,h2⟩:=(show ∃v r,vs=v::r/\RelD K H d v/\RelDs K H ds r from h);subst e;rw [W3,W3];exact(RelDs.rev h2).append (.cons h1 .nil)
def RC (K:G1)(tl:TE):TI:=λσ H R=>tl σ H λx H1=> ∃a,x= .ref a/\((∃xs,SqL K H1 a xs/\R (Itl K a) H1)\/ ∃xs,SqT K H1 a xs/\R (Itt K a) H1)
theorem RD {tg l:D8}{tl:TE}(hl:PE X l tl):PI X tg l (RC X.K tl):=by
 intro pins s σ H R I h;refine thn (hl pins s σ H _ I h) λv s1 ⟨x,H1,I1,r1,q1⟩=> ?_
 obtain⟨a,e,q⟩:=q1;subst e;cases r1;rcases q with ⟨xs,hq,q⟩|⟨xs,hq,q⟩
 ·obtain⟨its,rv,p,hz⟩:=I1.list hq;refine J6 p.isList ?_;refine⟨s1.heap.objs.size,[s1.heap.objs.size],_,_,H1,rfl,I1.kept (t':=s1.toks) λb o e=>G7 _ e,Zk a _,⟨_,D4 _ rfl,rfl,rfl⟩,λb hb=> ?_,q⟩;have e:b=s1.heap.objs.size:=by simpa using hb
  subst e;exact I1.fpOk (D0 _) (I1.hok.fresh (D0 _))
 ·obtain⟨its,rv,p,hz⟩:=I1.tuple hq;refine c8 (show s1.heap.IsTuple a its.toArray from p) ?_;refine⟨s1.heap.objs.size,[s1.heap.objs.size],_,_,H1,rfl,I1.kept (t':=s1.toks) λb o e=>G7 _ e,YB a _,⟨_,D4 _ rfl,rfl,rfl⟩,λb hb=> ?_,q⟩;have e:b=s1.heap.objs.size:=by simpa using hb
  subst e;exact I1.fpOk (D0 _) (I1.hok.fresh (D0 _))
def iS (te:TED):TID:=λσ h R=>te σ h λx h1=>match x with
 | .lst a=>R (λh=>h a) h1
 | .tup ds=>R (λ_=>some ds) h1
 | .scr ns=>R (λ_=>some (ns.map D.int)) h1
 |_=>False
theorem XD {H:Hp}{a:G6}{ns:G0 G8}(hs:Scr K H a ns):GD K H (λ_=>some (ns.map D.int)) (Itl K a):=λH' h' k rh ds' e i=>by
 cases e;have hs':Scr K H' a ns:=hs.elim (λ⟨o,z⟩=> .inl ⟨o,k.frz _ _ _ z⟩) .inr;refine⟨λd hd=> ?_,λhl=>⟨_,hs'.sq,by simpa using hl⟩⟩;obtain⟨v,e1,e2⟩:=(yq (K:=K) (H:=H') ns).get hd;refine⟨⟨_,v,hs'.sq,e1⟩,λx H'' ⟨eH,hx⟩=> ?_⟩;subst eH;have:=hx _ hs'.sq;rw [e1] at this;cases this;exact⟨.refl _,rh,e2⟩
variable {te:TED}
theorem RE: ∀σ H R,LI K (iS te) σ H R->RC K (LE K te) σ H R:=λσ H R ⟨mC,h,Rd,rs,rh,q,p⟩=>
 LE.bind rs rh q λd v h1 H1 k1 rs1 rh1 r1 q1=>by
  cases d<;>first
   |exact False.elim q1
   |skip
  ·rename_i ds;obtain⟨a,vs,e,hv,r⟩:=(show ∃a vs,v= .ref a/\H1 a=some (.tup vs)/\RelDs K H1 ds vs from r1);exact⟨a,e,.inr ⟨vs,SqT.of hv,p _ _ _ _ k1 rh1 (Xz hv r) q1⟩⟩
  ·rename_i a;obtain⟨e,vs,hv⟩:=(show v= .ref a/\ ∃vs,H1 a=some (.lst vs) from r1);exact⟨a,e,.inl ⟨vs,SqL.of hv,p _ _ _ _ k1 rh1 (Zw H1 a) q1⟩⟩
  ·rename_i ns;obtain⟨a,e,hS⟩:=(show ∃a,v= .ref a/\Scr K H1 a ns from r1);exact⟨a,e,.inl ⟨_,hS.sq,p _ _ _ _ k1 rh1 (XD hS) q1⟩⟩
theorem RF {tg e:D8}(he:QE X e te):QI X tg e (iS te):=(RD he).imp RE
def Qp:TSD:=λ_ _ _=>False
theorem RG {st:C3}:QS X st Qp:=λ_ _ _ _ _ _ ⟨_,_,_,_,_,z,_⟩=>z.elim
structure Zs (mg:Str->P5 G2):Prop where
 len:mg "len" =none
 max:mg "max" =none
 min:mg "min" =none
 divmod:mg "divmod" =none
 all:mg "all" =none
 any:mg "any" =none
 repr:mg "repr" =none
 sum:mg "sum" =none
 sorted:mg "sorted" =none
 int:mg "int" =none
 tuple:mg "tuple" =none
 list:mg "list" =none
 set:mg "set" =none
 bool:mg "bool" =none
 isinstance:mg "isinstance" =none
 range:mg "range" =none
 zip:mg "zip" =none
 enumerate:mg "enumerate" =none
 reversed:mg "reversed" =none
def jr (P:S2)(w:M6)(K:G1)(mg:Str->P5 G2)(base:N5)(n:P0)(x:Str)(ps:G0 Str)(sp:RDn):Prop:=
 ∃ (g:G6) (gd:S6),FnOk P w K mg base CX0 n g gd ps (LSp K sp)/\Binds K gd ps []/\E3 K (.ref g)=true/\mg x=some (.ref g)
def Uc:RDn:=λds h Q=> ∃ns,ds= [.scr ns]/\(∀a,h a=none)/\ns.length<=63/\ ∀h',Q (.bl true) h'
def Bm (mg:Str->P5 G2)(base:N5):Prop:= ∃bm ob,mg "__builtins__" =some (.ref bm)/\bm≠a8/\base.get? bm=some ob/\ob.cls= .type "module" /\ob.dict=some a8/\ob.data= .plain
def zu (K:G1):G0 (G6×G6):=LN.filterMap (cV K)
theorem TabK.mem {P:G6}(h:TabK K P): ∃c,(c,P)∈zu K:=let ⟨x,hx,c,e⟩:=h;⟨c,U3.mpr ⟨x,hx,e⟩⟩
theorem Ud {P:S2}{w:M6}{mg mb:Str->P5 G2}{k:P0}{fa a:G6}{fd:S6}{x:Str}{mD:G5}{vs:G0 G2}{ns:G0 G8}
 (KX:K.In mD.heap)(hns:mD.heap.Ns N6 mg)(hb:mD.heap.Ns a8 mb)(hbb: ∀x:Str,x≠ "__name__" ->mb x=C5 x)(hlim:mD.heap.NoLimit)(hg:mD.gens= #[])
 (ha:mD.heap.get? a=some {cls:= .type "list",data:= .seq vs.toArray})(hi:Z2 vs ns)(hl:ns.length<=63)(hr:Room k cM)
 (hbm:Bm mg mD.heap)(F: ∀base:N5,K.In base->base.Ns N6 mg->Bm mg base->FnOk P w K mg base CX0 k fa fd [x] (LSp K Uc))(hbind: ∀ (s:G5) (u:G2),f7 s fd ⟨[u],[]⟩ [(x,u)])
 (hT: ∀p∈zu K,gO mD.heap p.1 p.2/\mD.heap.get? p.2=some (cG #[])/\K.lookup p.2=none):
 Z0 (R1 P w) cM (.call (.ref fa) ⟨[.ref a],[]⟩) (λr s'=>r= .ok (.ret (.bool true))/\OldK mD.heap s'.heap/\s'.os=mD.os/\aO s'.gens) mD:=by
 have rv:=Zr hi;have lenV:=hi.length;have hz:ns.length<=sizeLine:=T8 hl (by decide);have hT': ∀b,b∈(zu K).map (·.2)-> ∃c,gO mD.heap c b/\mD.heap.get? b=some (cG #[])/\K.lookup b=none:=λb hb=>by
  obtain⟨p,hp,rfl⟩:=T5.mp hb;exact⟨p.1,hT p hp⟩
 have core: ∀H:Hp,Scr K H a ns->HOk P w H mD.heap->(∀b u,H b=some u->(b=a/\K.lookup a=none/\ ∃o xs,u= .frz o (.lst xs))\/(b∈(zu K).map (·.2)/\u= .tbl #[]))->(∀b,b∈(zu K).map (·.2)->H b=some (.tbl #[]))->
  Z0 (R1 P w) cM (.call (.ref fa) ⟨[.ref a],[]⟩) (λr s'=>r= .ok (.ret (.bool true))/\OldK mD.heap s'.heap/\s'.os=mD.os/\aO s'.gens) mD:=by
  intro H hS hok hA hTt;have noA: ∀ {b:G6} {o:Obj} {es:B3 Z6} {ep:P0},mD.heap.get? b=some o->o.data= .dict es ep->H b=none:=λ{b o es ep} e d=>by
   cases q:H b with
   |none=>rfl
   |some u=>
    rcases hA b u q with ⟨rfl,_,_⟩|⟨z,_⟩
    ·rw [ha] at e;cases e;have d':Data.seq vs.toArray _=Data.dict es ep:=d;cases d'
    ·obtain⟨c,_,e2,_⟩:=hT' b z;rw [e2] at e;cases e;have d':Data.fields _=Data.dict es ep:=d;cases d'
  have nsK: ∀ {b:G6} {m:Str->P5 G2},mD.heap.Ns b m->(Xl mD.heap H).Ns b m:=λ{b m} ⟨o,es,ep,e,d,r⟩=>⟨o,es,ep,Jk e (noA e d),d,r⟩
  have hKb:K.In (Xl mD.heap H):=λb o e=>Jk (KX b o e) (by
   cases q:H b with
   |none=>rfl
   |some u=>
    rcases hA b u q with ⟨rfl,z,_⟩|⟨z,_⟩
    ·rw [z] at e;cases e
    ·obtain⟨c,_,_,z2⟩:=hT' b z;rw [z2] at e;cases e)
  have hM:Mod K mg (Xl mD.heap H):=⟨hKb,nsK hns,⟨mb,nsK hb,hbb⟩,let ⟨mc,h1,h2⟩:=hlim;⟨mc,nsK h1,h2⟩⟩;have e0:Env0 P w K mg (Xl mD.heap H) cM [] mD H:=⟨rfl,hM,λb o e=>QK e,Z3 (Vo _ _),trivial,λb hb=>absurd (show b∈([]:G0 G6) from hb) (by simp),hok,.of_eq hg⟩;have hsp:LSp K Uc [.ref a] H (λv _=>v= .bl true) (λ_ _ _=>False):=by
   refine⟨[.scr ns],⟨λ_=>none,λ_=>none⟩,λd _=>d= .bl true,⟨.ref a,[],rfl,⟨a,rfl,hS⟩,rfl⟩,⟨λb ds e=>(by cases e),λp hp=> ?_,λb c e=>(by cases e)⟩,⟨ns,rfl,λ_=>rfl,hl,λ_=>rfl⟩,?_⟩
   ·obtain⟨c,hc⟩:=hp.mem;exact⟨#[],hTt p (List.mem_map_of_mem (f:=(·.2)) hc),trivial,λpos cv e=>(by cases e)⟩
   ·intro d v h' H' _ _ r e;subst e;exact r
  have hBm:Bm mg (Xl mD.heap H):=by
   obtain⟨bm,ob,b1,b2,b3,b4,r⟩:=hbm;refine⟨bm,ob,b1,b2,Jk b3 ?_,b4,r⟩;cases q:H bm with
   |none=>rfl
   |some u=>
    rcases hA bm u q with ⟨rfl,_,_⟩|⟨z,_⟩
    ·rw [ha] at b3;cases b3;exact absurd (Value.type.inj b4) (by decide)
    ·obtain⟨c,_,e2,_⟩:=hT' bm z;rw [e2] at b3;cases b3;cases b4
  refine dH ((F _ hKb (nsK hns) hBm).run cM [] mD H ⟨[.ref a],[]⟩ [.ref a] [.ref a] _ _ hr e0 (hbind mD (.ref a)) (.cons rfl .nil) hsp) λr s' h=> ?_
  cases r with
  |error e=>exact False.elim h
  |ok fl=>
   cases fl with
   |next=>exact False.elim h
   |brk=>exact False.elim h
   |cont=>exact False.elim h
   |ret u=>
    obtain⟨v,H',os,bare,un,hok',r',q⟩:=h;have q':v= .bl true:=q;subst q';obtain rfl:u=cY true:=r';have one: ∀b o,mD.heap.get? b=some o->s'.heap.get? b=some o\/(b∈(zu K).map (·.2)/\ ∃more,s'.heap.get? b=some (cG more)):=λb o e=>by
     cases q:H b with
     |none=>exact .inl (un.keep b o e q (by intro z;exact absurd (show b∈([]:G0 G6) from z) (by simp)) (by simp))
     |some u=>
      rcases hA b u q with ⟨rfl,_,ob,xs,rfl⟩|⟨z,rfl⟩
      ·have z2:=un.frzs _ ob _ q;obtain⟨e1,_⟩:=hok _ _ q;obtain⟨e2,_⟩:=hok' _ _ z2;rw [e] at e1;cases e1;exact .inl e2
      ·obtain⟨more,z2⟩:=un.tbls b _ q;exact .inr ⟨z,_,(show s'.heap.get? b=some _ from hok' b _ z2)⟩
    refine⟨rfl,⟨λb o e=> ?_,λb o e=> ?_⟩,os,bare⟩
    ·rcases one b o e with z|⟨z,more,z2⟩
     ·exact .inl z
     ·obtain⟨c,hc,e2,_⟩:=hT' b z;rw [e] at e2;cases e2;refine .inr (.inl ⟨(hc.tab e).isCodeTable,rfl,#[],more,rfl,?_⟩);rw [z2];simp
    ·rcases one b o e with z|⟨z,more,z2⟩
     ·exact⟨_,z⟩
     ·exact⟨_,z2⟩
 have nT:a ∉ (zu K).map (·.2):=λz=>by
  obtain⟨c,_,e2,_⟩:=hT' a z;rw [ha] at e2;cases e2
 have okT: ∀ {H:Hp} (b:G6),b∈(zu K).map (·.2)->ObjOk P w H mD.heap b (.tbl #[]):=λb hb=>let ⟨_,_,e,_⟩:=hT' b hb;e
 cases hk:K.lookup a with
 |some o=>
  have e:=KX a o hk;rw [ha] at e;cases e;refine core (λb=>if b∈(zu K).map (·.2) then some (.tbl #[]) else none) (.inr ⟨_,vs.toArray,_,hk,rfl,rfl,rfl,by rw [P1,lenV];exact hz,by simpa using rv⟩) (λb u z=> ?_) (λb u z=> ?_) λb hb=>R3 hb
  ·by_cases hb:b∈(zu K).map (·.2)
   ·have z':=(R3 hb).symm.trans z;cases z';exact okT b hb
   ·have z':=(S4 hb).symm.trans z;cases z'
  ·by_cases hb:b∈(zu K).map (·.2)
   ·have z':=(R3 hb).symm.trans z;cases z';exact .inr ⟨hb,rfl⟩
   ·have z':=(S4 hb).symm.trans z;cases z'
 |none=>
  refine core (λb=>if b=a then some (.frz {cls:= .type "list",data:= .seq vs.toArray} (.lst (ns.map V.int))) else if b∈(zu K).map (·.2) then some (.tbl #[]) else none) (.inl ⟨{cls:= .type "list",data:= .seq vs.toArray},R3 rfl⟩) (λb u z=> ?_) (λb u z=> ?_) λb hb=> ?_
  ·by_cases hb:b=a
   ·have z':=(R3 hb).symm.trans z;cases z';subst hb;exact⟨ha,by rw [G3];exact hz,vs,_,rv,ha⟩
   ·have z':=(S4 hb).symm.trans z
    by_cases hb2:b∈(zu K).map (·.2)
    ·have z2:=(R3 hb2).symm.trans z';cases z2;exact okT b hb2
    ·have z2:=(S4 hb2).symm.trans z';cases z2
  ·by_cases hb:b=a
   ·have z':=(R3 hb).symm.trans z;cases z';exact .inl ⟨hb,hk,_,_,rfl⟩
   ·have z':=(S4 hb).symm.trans z
    by_cases hb2:b∈(zu K).map (·.2)
    ·have z2:=(R3 hb2).symm.trans z';cases z2;exact .inr ⟨hb2,rfl⟩
    ·have z2:=(S4 hb2).symm.trans z';cases z2
  ·have:b≠a:=λz=>nT (z ▸ hb)
   show (if b=a then _ else _)=_;rw [S4 this,R3 hb]
def Nq (q:S2)(K:G1):B4:=LN.all λx=>match cV K x with
 |some p=>(K.lookup p.2).isNone&&((j8 q).find? (λe=>e.name==x)).isSome
 |none=>true
theorem XE {l:fQ}{k:P0}{q:S2}{loose:G0 Str}{XP:(Str->P5 G2)->N5->Prop}{YP:M6->N5->Prop}{d:DefRec}{K:lY->G1}{x:Str}(hn:l.most=some 63)(hdf:d.params.defaults= [])(hr:Room k cM)
 (hY: ∀ (w:M6) (h:N5),YP w h->(K w.params).In h)(hB: ∀w:M6,Nq q (K w.params)=true)
 (F: ∀ (w:M6) (mg:Str->P5 G2) (fa:G6) (h:N5),(K w.params).In h->h.Ns N6 mg->mg d.name=some (.ref fa)->
  ∃fd:S6,(∀ (s:G5) (u:G2),f7 s fd ⟨[u],[]⟩ [(x,u)])/\ ∀base:N5,(K w.params).In base->base.Ns N6 mg->Bm mg base->FnOk l.prog w (K w.params) mg base CX0 k fa fd [x] (LSp (K w.params) Uc)):
 l9 q loose XP YP l.row.toRowW d [] (λf vs=>kT f vs):=by
 refine Att.attach_call hn hdf λw s₀ mD mg mb fa o pm cd doc a vs ns G Y ho hd hcd hmg hobj hints hlen hg=> ?_
 have KX:=hY w _ Y;obtain⟨fd,hb,hF⟩:=F w mg fa _ KX G.T.g hmg;refine Ud KX G.T.g G.T.b G.T.builtins G.T.nolimit hg hobj hints hlen hr G.T.bmain hF hb λp hp=> ?_
 obtain⟨x,hx,e⟩:=U3.mp hp;have z:=C1.mp (hB w) x hx;rw [e] at z;simp only [O7,aL] at z;obtain⟨dd,hdd⟩:=aS.mp z.2;have t:=lZ (c:=p.1) (P:=p.2) G.T KX hdd e;exact⟨t.1,t.2,z.1⟩
def jL:D8->B4
 | .Starred .. =>false
 |_=>true
theorem Wv {e:D8}{es:G0 D8}{env:Env}(h:jL e=true):P8 (e::es) env=(false,B6 e env)::P8 es env:=by
 cases e<;>first|rfl|cases h
theorem qac {e:D8}{es:G0 D8}{t:TAD}(ha:QE X e te)(hr:QA X es t)(h:jL e=true:=by rfl):QA X (e::es) (jI te t):=Gx ha hr (Wv h)
theorem vn {α:Type}{xs:G0 α}{i:G8}(h0:0<=i)(h1:i<xs.length): ∃x∈xs,atI xs i=some x:=by
 have hk:i.toNat<xs.length:=by omega
 have ek:i=((i.toNat:P0):G8):=by omega
 have z:=zn (G4 hk);rw [<-ek] at z;exact⟨xs[i.toNat],S9 hk,z⟩
variable {h h':HD}{p:G6}{L:G0 D}
theorem Sub.newAt (s:Sub h h')(e:h' p=none):Sub h (zi h' p L):=s.trans (.new e)
structure But (p:G6)(h h':HD):Prop where
 ls: ∀a ds,a≠p->h a=some ds->h' a=some ds
 dc: ∀a c,h.dc a=some c->h'.dc a=some c
instance {p:G6}{h h':HD}:CoeFun (But p h h') λ_=> ∀a ds,a≠p->h a=some ds->h' a=some ds:=⟨But.ls⟩
theorem But.refl (p:G6)(h:HD):But p h h:=⟨λ_ _ _ e=>e,λ_ _ e=>e⟩
variable {q:G6}
theorem But.new (s:But p h h')(e:h' q=none):But p h (zi h' q L):=⟨λa ds n z=>(by
 have:=s a ds n z;rw [zz (λw=>by subst w;rw [e] at this;cases this)];exact this),s.dc⟩
theorem But.put (s:But p h h'):But p h (zi h' p L):=⟨λa ds n z=>(by rw [zz n];exact s a ds n z),s.dc⟩
theorem But.putNew (s:But p h h')(e:h q=none):But p h (zi h' q L):=⟨λa ds n z=>(by
 rw [zz (λw=>by subst w;rw [e] at z;cases z)];exact s a ds n z),s.dc⟩
theorem But.sub (s:But p h h')(e:h' p=some L):Sub (zi h p L) h':=⟨λa ds z=>(by
 by_cases q:a=p
 ·subst q;rw [ja] at z;cases z;exact e
 ·rw [zz q] at z;exact s a ds q z),s.dc⟩
theorem But.upd:But p h (zi h p L):=⟨λa ds n z=>(by rw [zz n];exact z),λ_ _ e=>e⟩
theorem ji (e:h p=some L)(f:h q=none):q≠p:=λz=>by subst z;rw [e] at f;cases f
theorem jb {M:G0 D}(e:h p=some L)(f:h q=none):zi h q M p=some L:=by rw [zz (λz=>by subst z;rw [e] at f;cases f)];exact e
theorem jd {a b:G6}{M:G0 D}(n:b≠a)(e:h b=some M):zi h a L b=some M:=by rw [zz n];exact e
theorem Zz {n:P0}{i:P0}{d:D}(h:((D3 n).map λ(k:P0)=>D.int (k:G8))[i]? =some d):i<n/\d= .int i:=by
 rw [P7] at h
 by_cases hi:i<n
 ·rw [K9 hi] at h;cases h;exact⟨hi,rfl⟩
 ·rw [F9 (by simpa using hi)] at h;cases h
variable {E:EndsD}{σ:SD}
theorem jh {t u:TSD}(V:SD->HD->Prop)(first: ∀K:SD->HD->Prop,(∀mB h',V mB h'->K mB h')->t {E with nx:=K} σ h)(zF: ∀mB h',V mB h'->u E mB h'):ym t u E σ h:=first (u E) zF
theorem vo (b:But p h h')(e:h' q=none)(n:q≠p):h q=none:=by
 cases z:h q with
 |none=>rfl
 |some ds=>rw [b q ds n z] at e;cases e
def Nxt (E:EndsD)(V:SD->HD->Prop):EndsD:= {E with nx:=λmG h3=> ∃h4,Sub h4 h3/\V mG h4,ct:=λmG h3=> ∃h4,Sub h4 h3/\V mG h4,bk:=E.nx}
variable {h1:HD}
theorem yt {ta:TAD}{g:TGD}{tb:TSD}(n:P0)(W:P0->SD->HD->Prop)(hn:n<1000000)
 (ht: ∀R:G0 D->HD->Prop,R [.int (n:G8)] h1->ta σ h R)(w0:W 0 σ h1)(done: ∀mB h',W n mB h'->E.nx mB h')
 (turn: ∀i mB h',i<n->W i mB h'->g (.int (i:G8)) mB h' λmE h2=>tb (Nxt E λmG h4=>i+1<=n/\W (i+1) mG h4) mE h2):Ri (iR1 ta) g tb E σ h:=by
 refine ht _ ⟨(n:G8),rfl,by omega,by omega,n,λi mB h'=>i<=n/\W i mB h',⟨O6 _,w0⟩,?_⟩;rintro i mB h' ⟨hi,w⟩;refine⟨_,rfl,by simp,λhl=> ?_,λd hd=> ?_⟩
 ·have:i=n:=by simp at hl;omega
  subst this;exact done _ _ w
 ·obtain⟨hi',e⟩:=Zz hd;have hi2:i<n:=by omega
  subst e;exact turn i mB h' hi2 w
theorem wt {ti:TID}{g:TGD}{tb:TSD}{j:ItD}(ds:G0 D)(W:P0->SD->HD->Prop)
 (ht: ∀R:ItD->HD->Prop,R j h1->ti σ h R)(hj: ∀i mB h',W i mB h'->j h'=some ds)(w0:W 0 σ h1)(done: ∀mB h',W ds.length mB h'->E.nx mB h')
 (turn: ∀i d mB h',ds[i]? =some d->W i mB h'->g d mB h' λmE h2=>tb (Nxt E λmG h4=>i+1<=ds.length/\W (i+1) mG h4) mE h2):Ri ti g tb E σ h:=by
 refine ht _ ⟨ds.length,λi mB h'=>i<=ds.length/\W i mB h',⟨O6 _,w0⟩,?_⟩;rintro i mB h' ⟨hi,w⟩;refine⟨ds,hj i mB h' w,D0 _,λhl=> ?_,λd hd=>turn i d mB h' hd w⟩;have:i=ds.length:=by omega
 subst this;exact done _ _ w
theorem Ue {g:TGD}{tb:TSD}{j:ItD}(ds:G0 D)(W:P0->SD->HD->Prop)
 (hj: ∀i mB h',W i mB h'->j h'=some ds)(w0:W 0 σ h1)(done: ∀mB h',W ds.length mB h'->E.nx mB h')
 (turn: ∀i d mB h',ds[i]? =some d->W i mB h'->g d mB h' λmE h2=>tb (Nxt E λmG h4=>i+1<=ds.length/\W (i+1) mG h4) mE h2):
 ∃ (n:P0) (W:P0->SD->HD->Prop),W 0 σ h1/\ ∀i mB h',W i mB h'-> ∃ds,j h'=some ds/\ds.length<=n/\(ds.length<=i->E.nx mB h')/\
  ∀d,ds[i]? =some d->g d mB h' λmE h2=>tb {E with nx:=λmG h3=> ∃h4,Sub h4 h3/\W (i+1) mG h4,ct:=λmG h3=> ∃h4,Sub h4 h3/\W (i+1) mG h4,bk:=E.nx} mE h2:=by
 refine⟨ds.length,λi mB h'=>i<=ds.length/\W i mB h',⟨O6 _,w0⟩,?_⟩;rintro i mB h' ⟨hi,w⟩;refine⟨ds,hj i mB h' w,D0 _,λhl=> ?_,λd hd=>turn i d mB h' hd w⟩;have:i=ds.length:=by omega
 subst this;exact done _ _ w
theorem Yi {i:P0}{js:G0 P0}{ta:TAD}{Q:KD}(n:P0)(W:P0->G0 D->HD->Prop)(hn:n<=1000)(ht: ∀R:G0 D->HD->Prop,R [.int (n:G8)] h1->ta σ h R)
 (w0:W 0 [] h1)(wl: ∀k ys h',W k ys h'->ys.length=k)(turn: ∀k ys h',k<n->W k ys h'->te ((jG js σ).set i (some (.int (k:G8)))) h' λy h4=> ∃h5,Sub h5 h4/\(k+1<=n/\W (k+1) (ys++ [y]) h5))
 (done: ∀ys h',W n ys h'-> ∀p,h' p=none->Q (.lst p) (zi h' p ys)):yJ (bN i) js (iR1 ta) yr te σ h Q:=by
 refine ht _ ⟨(n:G8),rfl,by omega,by omega,n,λk ys h'=>k<=n/\W k ys h',⟨O6 _,w0⟩,?_⟩;rintro k ys h' ⟨hk,w⟩;refine⟨by rw [wl k ys h' w];exact N1 (jH (by omega)),_,rfl,by simp,λhl p hp=> ?_,λd hd=>⟨_,rfl,?_⟩⟩
 ·have:k=n:=by simp at hl;omega
  subst this;exact done ys h' w p hp
 ·obtain⟨hi',e⟩:=Zz hd;subst e;unfold yr;dsimp only;rw [R3 rfl];exact turn k ys h' (by omega) w
end L2
namespace L2
open PySem PySem.Spec PyProof.Rows PySem.SeqAt
mutual
def ToP (h:HD):D->J1->Prop
 |d,.none=>d= .non
 |d,.bool b=>d= .bl b
 |d,.int i=>d= .int i
 |d,.str x=>d= .str x
 |d,.tuple ps=> ∃ds,d= .tup ds/\ToPs h ds ps
 |d,.list ps=> ∃a ds,d= .lst a/\h a=some ds/\ToPs h ds ps
 |_,.dict _=>False
def ToPs (h:HD):G0 D->G0 J1->Prop
 |ds,[]=>ds= []
 |ds,p::ps=> ∃d r,ds=d::r/\ToP h d p/\ToPs h r ps
end
section
variable {X:Cx}{pins:G0 (G6×Obj)}{σ:St}{H:Hp}{s:G5}{h:HD}
mutual
theorem yu (I:Inv X pins σ H s)(rh:RelH X.K h H): ∀ {p:J1} {d:D} {v:V} {u:G2},ToP h d p->RelD X.K H d v->RelV v u-> ∃as,Reads s.heap u p as
 | .none,d,v,u,t,r,ru=>by cases (show d= .non from t);cases (show v= .non from r);cases (show u= .none from ru);exact⟨[],.none⟩
 | .bool b,d,v,u,t,r,ru=>by cases (show d= .bl b from t);cases (show v= .bl b from r);cases (show u= .bool b from ru);exact⟨[],.bool b⟩
 | .int i,d,v,u,t,r,ru=>by cases (show d= .int i from t);cases (show v= .int i from r);obtain⟨k,rfl⟩:=(show ∃t,u=Z4 i t from ru);exact⟨[],.int i k⟩
 | .str x,d,v,u,t,r,ru=>by cases (show d= .str x from t);cases (show v= .str x from r);obtain⟨k,rfl⟩:=(show ∃t,u=cK x t from ru);exact⟨[],.str x k⟩
 | .tuple ps,d,v,u,t,r,ru=>by
  obtain⟨ds,e,ts⟩:=(show ∃ds,d= .tup ds/\ToPs h ds ps from t);subst e;obtain⟨a,vs,e,hH,rs⟩:=(show ∃a vs,v= .ref a/\H a=some (.tup vs)/\RelDs X.K H ds vs from r);subst e;cases (show u= .ref a from ru);obtain⟨its,rv,ht,_⟩:=I.tuple (SqT.of hH);obtain⟨o,ho,hc,n,hd⟩:=ht;obtain⟨as,q⟩:=reads_Ds I rh ts rs rv;exact⟨as,.tuple ho hc hd q⟩
 | .list ps,d,v,u,t,r,ru=>by
  obtain⟨a,ds,e,ha,ts⟩:=(show ∃a ds,d= .lst a/\h a=some ds/\ToPs h ds ps from t);subst e;obtain⟨vs,hH,rs⟩:=rh a ds ha;have e:v= .ref a:=r.1;subst e;cases (show u= .ref a from ru);obtain⟨its,rv,pl,_⟩:=I.list (SqL.of hH);obtain⟨o,ho,hc,n,hd⟩:=pl.isList;obtain⟨as,q⟩:=reads_Ds I rh ts rs rv;exact⟨a::as,.list ho hc hd q⟩
 | .dict _,_,_,_,t,_,_=>(show False from t).elim
theorem reads_Ds (I:Inv X pins σ H s)(rh:RelH X.K h H): ∀ {ps:G0 J1} {ds:G0 D} {vs:G0 V} {us:G0 G2},ToPs h ds ps->RelDs X.K H ds vs->Vals vs us-> ∃as,ReadsAll s.heap us ps as
 | [],ds,vs,us,t,r,rv=>by
  cases (show ds= [] from t);cases (show vs= [] from r);cases rv;exact⟨[],.nil⟩
 |p::ps,ds,vs,us,t,r,rv=>by
  obtain⟨d,dr,e,t1,t2⟩:=(show ∃d r,ds=d::r/\ToP h d p/\ToPs h r ps from t);subst e;obtain⟨v,vr,e,r1,r2⟩:=(show ∃v r,vs=v::r/\RelD X.K H d v/\RelDs X.K H dr r from r);subst e;cases rv with
  |cons ru rt=>
   obtain⟨as,q1⟩:=yu I rh t1 r1 ru;obtain⟨bs,q2⟩:=reads_Ds I rh t2 r2 rt;exact⟨as++bs,.cons q1 q2⟩
end
end
def eqE:RD2:=λx y h Q=>match x,y with
 | .int i,.int j=>Q (.bl (decide (i=j))) h
 | .bl i,.bl j=>Q (.bl (decide (i=j))) h
 | .str i,.str j=>Q (.bl (decide (i=j))) h
 |x,y=> ∃p q,ToP h x p/\ToP h y q/\shaped p=true/\shaped q=true/\Q (.bl (U6 p q)) h
def neE:RD2:=λx y h Q=>match x,y with
 | .int i,.int j=>Q (.bl (!decide (i=j))) h
 | .bl i,.bl j=>Q (.bl (!decide (i=j))) h
 | .str i,.str j=>Q (.bl (!decide (i=j))) h
 |x,y=> ∃p q,ToP h x p/\ToP h y q/\shaped p=true/\shaped q=true/\Q (.bl (!U6 p q)) h
section
variable {X:Cx}
def eqG:RD2:=λx y h Q=> ∃p q,ToP h x p/\ToP h y q/\shaped p=true/\shaped q=true/\Q (.bl (U6 p q)) h
def neG:RD2:=λx y h Q=> ∃p q,ToP h x p/\ToP h y q/\shaped p=true/\shaped q=true/\Q (.bl (!U6 p q)) h
theorem RH (hu:X.A.units+64<cLine):OpQ X (T9 .Eq) eqG:=by
 intro pins s σ H x y v u Q I rx ry h;obtain⟨dx,dy,h,Qd,r1,r2,rh,⟨p,q,t1,t2,s1,s2,qq⟩,post⟩:=h;obtain⟨as,a1⟩:=yu I rh t1 r1 rx;obtain⟨bs,b1⟩:=yu I rh t2 r2 ry;exact compareEq_shaped a1 b1 s1 s2 hu ⟨.bl _,H,I,rfl,post (.bl _) _ _ _ (.refl H) rh rfl qq⟩
theorem RI (hu:X.A.units+64<cLine):OpQ X (T9 .NotEq) neG:=by
 intro pins s σ H x y v u Q I rx ry h;obtain⟨dx,dy,h,Qd,r1,r2,rh,⟨p,q,t1,t2,s1,s2,qq⟩,post⟩:=h;obtain⟨as,a1⟩:=yu I rh t1 r1 rx;obtain⟨bs,b1⟩:=yu I rh t2 r2 ry;exact compareNe_shaped a1 b1 s1 s2 hu ⟨.bl _,H,I,rfl,post (.bl _) _ _ _ (.refl H) rh rfl qq⟩
theorem OpQ.or' {f:G2->G2->Sem G2}{r r' r2:RD2}(h:OpQ X f r)(h':OpQ X f r')(i: ∀x y hh Q,r2 x y hh Q->r x y hh Q\/r' x y hh Q):OpQ X f r2:=λpins s σ H x y v u Q I rx ry ⟨dx,dy,hd,Qd,r1,r2',rh,q,p⟩=>
 (i dx dy hd Qd q).elim (λz=>h pins s σ H x y v u Q I rx ry ⟨dx,dy,hd,Qd,r1,r2',rh,z,p⟩) λz=>h' pins s σ H x y v u Q I rx ry ⟨dx,dy,hd,Qd,r1,r2',rh,z,p⟩
theorem Qq (hu:X.A.units+64<cLine):OpQ X (T9 .Eq) eqE:=oq_eq.or' (RH hu) λx y h Q q=>by
 unfold eqE at q;split at q
 ·exact .inl q
 ·exact .inl q
 ·exact .inl q
 ·exact .inr q
theorem Uf (hu:X.A.units+64<cLine):OpQ X (T9 .NotEq) neE:=oq_ne.or' (RI hu) λx y h Q q=>by
 unfold neE at q;split at q
 ·exact .inl q
 ·exact .inl q
 ·exact .inl q
 ·exact .inr q
end
end L2
namespace HT
open PySem PySem.Spec PyProof.Rows
section
variable {prog:S2}{w:M6}{A:M5}{E:G2->G5->Prop}{s:G5}
theorem Ug (k:G8){vs:G0 G2}{ns:G0 G8}(hi:Z2 vs ns)(j:P0)(h:j<ns.length): ∃t,vs[j]? =some (.int ns[j] t):=by
 induction hi generalizing j with
 |nil=>simp at h
 |cons n t r ih=>
  cases j with
  |zero=>exact⟨t,rfl⟩
  |succ j=>obtain⟨u,e⟩:=ih j (by simpa using h);exact⟨u,by simpa using e⟩
end
end HT
namespace L2
open PySem PySem.Spec PyProof.Rows
theorem ZA: ∀ {ns:G0 G8} {us:G0 G2},Vals (ns.map V.int) us->Z2 us ns
 | [],_,r=>by cases r;exact .nil
 |n::ns,_,r=>by
  cases r with
  |cons r t=>obtain⟨k,rfl⟩:=r;exact .cons n k (ZA t)
theorem jP {K:G1}{H:Hp}: ∀ {ns:G0 G8} {vs:G0 V},RelDs K H (ns.map D.int) vs->vs=ns.map V.int
 | [],_,h=>h
 |n::ns,vs,h=>by
  obtain⟨v,r,e,h1,h2⟩:=(show ∃v r,vs=v::r/\RelD K H (.int n) v/\RelDs K H (ns.map D.int) r from h);rw [e,jP h2,(show v= .int n from h1)];rfl
theorem vW (ns:G0 G8): ∀k,k<=ns.length->k5 (λi=>ns.getD i 0) k=(ns.take k).sum
 |0,_=>by simp [k5]
 |k+1,h=>by
  have hk:k<ns.length:=by omega
  rw [k5,vW ns k (by omega),N4,G4 hk,fT,D6,G4 hk];simp
variable {X:Cx}
theorem Jw (hc:X.calm=true):CallR X (.builtin "sum") (λxs H Q=> ∃ (a:G6) (ns:G0 G8),xs= [.ref a]/\SqL X.K H a (ns.map V.int)/\Q (.int ns.sum) H):=by
 intro pins s σ H xs us Q I r h;obtain⟨a,ns,rfl,hS,q⟩:=h;obtain⟨u,rfl,ru⟩:=Jl r;cases ru;obtain⟨its,rv,pl,hz⟩:=I.list hS;have hl:=pl.isList;have hlt:a<s.heap.objs.size:=by obtain⟨_,e,_⟩:=hl;exact P9 e
 have hi:=ZA rv;have hn:its.length=ns.length:=hi.length;refine call_sum_walkAnyS (J6 hl ?_);refine⟨s.heap.objs.size,_,_,_,_,_,_,λi=>ns.getD i 0,rfl,(Walks.list (A:=X.A.in1) (show X.A.in1.handled=none from I.ok.hd hc) s.heap.objs.size a (R7 hlt) its.toArray).toS,⟨⟨_,D4 _ rfl,rfl,rfl⟩,hl.push _⟩,?_,?_,λs' t' hm=> ?_⟩
 ·intro b hb;simp only [R5,B2,or_false] at hb;show b<(s.heap.push _).objs.size;rw [K0];rcases hb with e|e
  ·rw [e];exact L1 _
  ·rw [e];exact W1 hlt
 ·intro i v hP;have e:its[i]? =some v:=by simpa using hP
  have hil:i<ns.length:=by rw [<-hn];exact(D1.mp e).1
  obtain⟨t,e2⟩:=HT.Ug 0 hi i hil;rw [e] at e2;cases e2;refine⟨t,?_⟩;show Z4 ns[i] t=Z4 (ns.getD i 0) t;rw [D6,G4 hil];rfl
 ·have e:k5 (λi=>ns.getD i 0) its.toArray.size=ns.sum:=by
   rw [P1,hn,vW ns _ (D0 _),L3]
  rw [e];obtain⟨h',g',d',tk',o'⟩:=s';obtain⟨m1,m2,m3,m4,_⟩:=hm;simp only at m1 m2 m3 m4;subst m2 m3 m4;refine⟨.int ns.sum,H,I.kept (t':=tk') (λb o e=>m1 b o (λz=> ?_) (G7 _ e)),⟨_,rfl⟩,q⟩;rw [P2.mp z] at e;exact absurd (P9 e) (B8 _)
def Nr:RDn:=λds h Q=> ∃ (a:G6) (ns:G0 G8),ds= [.lst a]/\h a=some (ns.map D.int)/\Q (.int ns.sum) (Wq h a)
theorem Uh (hc:X.calm=true):ww X (.builtin "sum") Nr:=(Jw hc).imp λxs H Q ⟨ds,h,Qd,r,rh,⟨a,ns,e,hd,q⟩,p⟩=>by
 subst e;obtain⟨v,e,r1⟩:=jy r;obtain⟨vs,hH,r2⟩:=rh a _ hd;have e1:v= .ref a:=r1.1;rw [jP r2] at hH;subst e e1;exact⟨a,ns,rfl,SqL.of hH,p (.int _) _ _ _ (.refl H) (rh.sub (Sub.drop h a)) rfl q⟩
def Bj (to ti te:TED):TED:=λσ h Q=>to σ h λx h1=> ∃a,x= .lst a/\ti σ h1 λi h2=>te σ h2 λy h3=> ∃ (k:P0) (xs:G0 D),i= .int (k:G8)/\k<=1000/\h3 a=some xs/\xs.length<sizeLine/\Q .non (zi h3 a (xs.take k++y::xs.drop k))
theorem Ui:MtM X "list.insert" (λx vs H Q=> ∃ (l:G6) (xs:G0 V) (k:P0) (y:V),x= .ref l/\vs= [.int (k:G8),y]/\H l=some (.lst xs)/\k<=1000/\xs.length<sizeLine/\Q .non (upd H l (.lst (xs.take k++y::xs.drop k)))):=by
 intro pins s σ H x vs v us Q I rx rv h;obtain⟨l,xs,k,y,rfl,rfl,hH,hk,hz,q⟩:=h;cases rx;obtain⟨u,w',rfl,⟨t,rfl⟩,ry⟩:=Xr rv;obtain⟨z,its,n,r,hl,e⟩:=I.lstM hH;have hfit: ¬ (!aE (k:G8))=true:=by rw [gK (by omega) (by omega)];exact P3
 have hsz:its.toArray.size<=sizeLine:=by rw [P1];omega
 generalize har:its.toArray=ar at e hsz;obtain⟨kk,hkk⟩: ∃kk:G8,kk=(k:G8):=⟨_,rfl⟩;rw [<-hkk] at hfit ⊢;refine bJ F.slot_list_insert ⟨_,e,rfl⟩ F.entry_list_insert (F.args_list_insert_3 _ _ _) (AutoListH.list_insert_list_int_val_1 l ar n kk t w' hfit hsz) ⟨e,?_⟩;subst har hkk;refine⟨.non,_,I.lset (its':=its.take k++w'::its.drop k) hH e ?_ ((r.take k).append (.cons ry (r.drop k))) ?_,rfl,q⟩
 ·have hk0: ¬ ((k:G8)<0):=by omega
  simp only [hk0,cA,dQ,P1];have e1:its.take (min k its.length)=its.take k:=by
   by_cases hh:k<=its.length
   ·rw [fU hh]
   ·rw [e9 (by omega),L3,M2 (by omega)]
  have e2:its.drop (min k its.length)=its.drop k:=by
   by_cases hh:k<=its.length
   ·rw [fU hh]
   ·rw [e9 (by omega),List.drop_length,List.drop_of_length_le (by omega)]
  have e3:(its.drop k).take (its.length-min k its.length)=its.drop k:=M2 (by rw [K3];omega);apply Array.ext';simp only [Array.toList_append,Array.toList_push,List.extract_toArray,List.extract_eq_drop_take,List.drop_zero,Nat.sub_zero];rw [e1,e2,e3,J8];rfl
 ·rw [S1,S3,B0,K3];omega
section
variable {X:Cx}{o e i:D8}{to te ti:TED}{apos cpos:Pos}
theorem BU (ho:QE X o to)(hi:QE X i ti)(he:QE X e te)(hbase:A8 o "insert" X.env (B6 o X.env)=B6 o X.env:=by rfl)
 (hfew:((H0 cpos (P8 [i,e] X.env)).all (λx=> !x.1)&&(cC cpos (X6 [] X.env)).all (λx=>x.1.isSome)&&decide ([i,e].length+([]:G0 V7).length+(if ([]:G0 V7).isEmpty then 0 else 1)<30))=true:=by rfl)
 (hline:(apos.endLine==cpos.line)=true:=by rfl)(hs:P8 [i,e] X.env=(false,B6 i X.env)::P8 [e] X.env:=by rfl)(hs2:P8 [e] X.env=(false,B6 e X.env)::P8 [] X.env:=by rfl)(hplain:(H0 cpos (P8 [e] X.env)).any (·.1)=false:=by rfl):
 QE X (.Call (.Attribute o "insert" apos) [i,e] [] cpos) (Bj to ti te):=
 (Gh V3 hG hJ Ui ho (wG hi (wG he pa_nil hs2) hs) hbase hfew hline hs hplain).imp
  λσ H Q ⟨mC,h,Qd,rs,rh,t,p⟩=>LE.bind rs rh t λd v h1 H1 k1 rs1 rh1 r1 ⟨a,e,q⟩=>by
   subst e;obtain⟨e1,vs,hH⟩:=(show v= .ref a/\ ∃vs,H1 a=some (.lst vs) from r1);subst e1;refine⟨.inl ⟨rfl,vs,SqL.of hH⟩,?_⟩;refine LE.bind rs1 rh1 q λdi vi h2 H2 k2 rs2 rh2 r2 q2=>LE.bind rs2 rh2 q2 λy u h3 H3 k3 rs3 rh3 r3 ⟨k,xs,ei,hk,hx,hz,q3⟩=> ?_
   subst ei;have ev:vi= .int (k:G8):=r2;obtain⟨ws,hW,r4⟩:=rh3 a xs hx;refine⟨a,ws,k,u,rfl,by rw [ev],hW,hk,by rw [<-r4.length];exact hz,p .non _ _ _ (k1.trans (k2.trans (k3.trans (.put hW)))) (rh3.put hW ((r4.take k).append (.cons r3 (r4.drop k)))) rfl q3⟩
end
structure JE (X:Cx)(e:D8)(t:TED):Prop where
 to:QE X e t
structure JT (X:Cx)(e:D8)(t:TTD):Prop where
 to:QT X e t
structure JW (X:Cx)(e:D8)(t:TTD):Prop where
 to:QW X e t
structure JA (X:Cx)(e:G0 D8)(t:TAD):Prop where
 to:QA X e t
structure JS (X:Cx)(e:C3)(t:TSD):Prop where
 to:QS X e t
structure JSs (X:Cx)(e:G0 C3)(t:TSD):Prop where
 to:QSs X e t
structure JG (X:Cx)(e:D8)(t:TGD):Prop where
 to:QG X e t
structure JI (X:Cx)(tg e:D8)(t:TID):Prop where
 to:QI X tg e t
structure JO (X:Cx)(e:P5 D8)(t:TOD):Prop where
 to:QO X e t
section
variable {X:Cx}{a b c e:D8}{es zF:G0 D8}{ta tb tc te:TED}{t u:TAD}{tt tu:TTD}{pos:Pos}{f r r':RD2}
theorem jv (i:P0){x:Str}(hN:X.N[i]? =some x:=by rfl)(hv:Vis X.env.scope x:=by first|exact C9 rfl|exact E5 (C9 rfl)|exact E5 (E5 rfl))(hd:(x==("__debug__" :Str))=false:=by decide)(hcd:(x==("__classdict__" :Str))=false:=by decide):JE X (.Name x pos) (Zh i):=⟨qv (i:=i) (hN:=hN) (hv:=hv) (hd:=hd) (hcd:=hcd)⟩
theorem jt {i:G8}{j:P0}:JE X (.Constant (.int i) j pos) (dC (.int i)):=⟨Bh⟩
theorem jbl {i:B4}{j:P0}:JE X (.Constant (.bool i) j pos) (dC (.bl i)):=⟨qbl⟩
theorem Bk {j:P0}:JE X (.Constant .none j pos) (dC .non):=⟨BB⟩
theorem GV {x:Str}{i:G8}{tk:Tok}(hg:Gl X x)(hm:X.mg x=some (.int i tk))(hd:(x==("__debug__" :Str))=false:=by decide):JE X (.Name x pos) (dC (.int i)):=⟨MW (hg:=hg) (hm:=hm) (hd:=hd)⟩
theorem jop {op:i4}(ho:OpQ X (B7 op) f)(ha:JE X a ta)(hb:JE X b tb):JE X (.BinOp a op b pos) (dOp f ta tb):=⟨qop (ho:=ho) (ha:=ha.to) (hb:=hb.to)⟩
theorem BV {op:b0}(ho:OpQ X (T9 op) f)(ha:JE X a ta)(hb:JE X b tb)(hm:L4 op b=false):JE X (.Compare a [op] [b] pos) (dOp f ta tb):=⟨BC (ho:=ho) (ha:=ha.to) (hb:=hb.to) (hm:=hm)⟩
theorem GW {op:b0}(ho:OpQ X (T9 op) f)(ha:JE X a ta)(hb:JE X b tb)(hm:L4 op b=false):JT X (.Compare a [op] [b] pos) (zY (dOp f ta tb)):=⟨MX (ho:=ho) (ha:=ha.to) (hb:=hb.to) (hm:=hm)⟩
theorem Uj {op op':b0}(ho:OpQ X (T9 op) r)(ho':OpQ X (T9 op') r')(ha:JE X a ta)(hb:JE X b tb)(hc:JE X c tc)(hm:iI [op,op'] [b,c]=false:=by with_unfolding_all rfl):JT X (.Compare a [op,op'] [b,c] pos) (zY (Zv r r' ta tb tc)):=⟨Gw (ho:=ho) (ho':=ho') (ha:=ha.to) (hb:=hb.to) (hc:=hc.to) (hm:=hm)⟩
theorem vp (ha:JE X a ta)(he: ∀whole,isTrue a X.env whole=(do let v <-whole;Y9 a.pos;J5 [v] (gA v)):=by intro _;rfl):JT X a (zY ta):=⟨MY (ha:=ha.to) (he:=he)⟩
theorem Nt (ha:JT X a tt):JW X (.BoolOp .And [a] pos) tt:=⟨MZ (ha:=ha.to)⟩
theorem RJ (ha:JT X a tt):JW X (.BoolOp .Or [a] pos) tt:=⟨BD (ha:=ha.to)⟩
theorem Nu (ha:JT X a tt)(hb:JW X (.BoolOp .And (b::zF) pos) tu):JW X (.BoolOp .And (a::b::zF) pos) (Gt tt tu):=⟨Na (ha:=ha.to) (hb:=hb.to)⟩
theorem PH (ha:JT X a tt)(hb:JW X (.BoolOp .Or (b::zF) pos) tu):JW X (.BoolOp .Or (a::b::zF) pos) (DM tt tu):=⟨BE (ha:=ha.to) (hb:=hb.to)⟩
theorem vq (ha:JT X a tt):JT X (.UnaryOp .Not a pos) (YH tt):=⟨Nb (ha:=ha.to)⟩
theorem GX {op:BoolOp}(ha:JE X a ta):JE X (.BoolOp op [a] pos) ta:=⟨BF (ha:=ha.to)⟩
theorem RK (ha:JE X a ta)(hb:JE X (.BoolOp .And (b::zF) pos) tb):JE X (.BoolOp .And (a::b::zF) pos) (Ws ta tb):=⟨BG (ha:=ha.to) (hb:=hb.to)⟩
theorem jor (ha:JE X a ta)(hb:JE X (.BoolOp .Or (b::zF) pos) tb):JE X (.BoolOp .Or (a::b::zF) pos) (DN ta tb):=⟨qor (ha:=ha.to) (hb:=hb.to)⟩
theorem BW (ha:JE X a ta):JE X (.UnaryOp .Not a pos) (Xw ta):=⟨BH (ha:=ha.to)⟩
theorem jif {c:D8}(hc:JT X c tt)(ha:JE X a ta)(hb:JE X b tb):JE X (.IfExp c a b pos) (dIf tt ta tb):=⟨qif (hc:=hc.to) (ha:=ha.to) (hb:=hb.to)⟩
theorem zZ:JA X [] wX:=⟨DY⟩
theorem vI {k:P0}(h:JA X es t):JE X (.Tuple es k pos) (MS t):=⟨BI (h:=h.to)⟩
theorem vG (h:JA X es t):JE X (.List es pos) (Qn t):=⟨BJ (h:=h.to)⟩
end
section
variable {X:Cx}{st:C3}{sts:G0 C3}{t u:TSD}{e:D8}{te:TED}{pos:Pos}
theorem Yj:JSs X [] vk:=⟨Rf⟩
theorem jM (h1:JS X st t)(h2:JSs X sts u):JSs X (st::sts) (ym t u):=⟨GB (h1:=h1.to) (h2:=h2.to)⟩
theorem jQ (h1:JS X st t):JSs X [st] t:=⟨Rg (h1:=h1.to)⟩
theorem Jx (he:JE X e te)(hs:L8 e none pos.line X.env=pure false:=by rfl):JS X (.Expr e pos) (VN te):=⟨Nd (he:=he.to) (hs:=hs)⟩
theorem wy (he:JE X e te):JS X (.Return (some e) pos) (Xf te):=⟨BK (he:=he.to)⟩
theorem Ms {c:D8}{a b:G0 C3}{tc:TTD}(hc:JT X c tc)(ha:JSs X a t)(hb:JSs X b u):JS X (.If c a b pos) (Vl tc t u):=⟨BL (hc:=hc.to) (ha:=ha.to) (hb:=hb.to)⟩
variable {i:P0}{x:Str}
theorem BX {pos':Pos}(hN:X.N.Nodup)(hi:X.N[i]? =some x)(hx:Loc X.env.scope x)(he:JE X e te)(hs:L8 e (some (.Name x pos')) pos.line X.env=pure false:=by rfl)(hf:X.fn x=true\/X.env.scope.names.lookup x=some .local:=by first|exact .inl rfl|exact .inr rfl|assumption):JS X (.Assign [.Name x pos'] e pos) (Zi i te):=⟨BM (hN:=hN) (hi:=hi) (hx:=hx) (he:=he.to) (hs:=hs) (hf:=hf)⟩
theorem GY (hN:X.N.Nodup)(hi:X.N[i]? =some x)(hx:Loc X.env.scope x)(hf:X.fn x=true\/X.env.scope.names.lookup x=some .local:=by first|exact .inl rfl|exact .inr rfl|assumption):JG X (.Name x pos) (gN i):=⟨GC (hN:=hN) (hi:=hi) (hx:=hx) (hf:=hf)⟩
theorem ZB {j:P0}{y:Str}{p1 p2:Pos}{k:P0}(hc:X.calm=true)(hN:X.N.Nodup)(hi:X.N[i]? =some x)(hj:X.N[j]? =some y)(hx:Loc X.env.scope x)(hy:Loc X.env.scope y)(hf:X.fn x=true\/X.env.scope.names.lookup x=some .local:=by first|exact .inl rfl|exact .inr rfl|assumption)(hf2:X.fn y=true\/X.env.scope.names.lookup y=some .local:=by first|exact .inl rfl|exact .inr rfl|assumption):JG X (.Tuple [.Name x p1,.Name y p2] k pos) (gT2 i j):=⟨Rh (hc:=hc) (hN:=hN) (hi:=hi) (hj:=hj) (hx:=hx) (hy:=hy) (hf:=hf) (hf2:=hf2)⟩
theorem PJ {tg:D8}{g:TGD}(he:JE X e te)(hg:JG X tg g)(hs:Q1 [tg] e pos.line X.env=pure false:=by rfl)(hsw:Q2 [tg] e X.env=pure none:=by rfl)(h1:(U2 [tg] X.env).map (·.2)= [Y0 tg X.env]:=by rfl):JS X (.Assign [tg] e pos) (Ml te g):=⟨BN (he:=he.to) (hg:=hg.to) (hs:=hs) (hsw:=hsw) (h1:=h1)⟩
theorem Nv {j:P0}{y:Str}{a b:D8}{ta:TAD}{px py pt:Pos}{kt k2 pt2}(hc:X.calm=true)(hN:X.N.Nodup)(hi:X.N[i]? =some x)(hj:X.N[j]? =some y)(hij:i≠j)(hx:X.env.scope.names.lookup x=some .local)(hy:X.env.scope.names.lookup y=some .local)(ha:JA X [a,b] ta)(hw:Q2 [.Tuple [.Name x px,.Name y py] kt pt] (.Tuple [a,b] k2 pt2) X.env=pure (some [x,y]))(hs:Q1 [.Tuple [.Name x px,.Name y py] kt pt] (.Tuple [a,b] k2 pt2) pos.line X.env=pure false:=by rfl):JS X (.Assign [.Tuple [.Name x px,.Name y py] kt pt] (.Tuple [a,b] k2 pt2) pos) (Mm i j ta):=⟨BO (hc:=hc) (hN:=hN) (hi:=hi) (hj:=hj) (hij:=hij) (hx:=hx) (hy:=hy) (ha:=ha.to) (hw:=hw) (hs:=hs)⟩
end
section
variable {X:Cx}{tg e iter elt:D8}{te:TED}{ti:TID}{g:TGD}{tb:TSD}{tt:TTD}{pos:Pos}{ta:TAD}{scope:L7}{js:G0 P0}{ifs:G0 D8}
theorem GZ (he:JE X e te):JI X tg e (iL te):=⟨GF (he:=he.to)⟩
theorem Nw {p:Pos}{a:D8}(hg:Gl X "range")(hm:X.mg "range" =none)(ha:JA X [a] ta)(hs:P8 [a] X.env= [(false,B6 a X.env)]:=by rfl):JI X tg (.Call (.Name "range" p) [a] [] pos) (iR1 ta):=⟨Ng (hg:=hg) (hm:=hm) (ha:=ha.to) (hs:=hs)⟩
theorem YM {body:G0 C3}(hp:cL (R1 X.prog X.w) X.A X.env X.xe)(hc:X.calm=true)(hi:JI X tg iter ti)(hg:JG X tg g)(hb:JSs X body tb)(hs: ∀x,D9 iter X.env x=pure x:=by intro _;rfl):JS X (.For tg iter body [] pos) (Ri ti g tb):=⟨BP (hp:=hp) (hc:=hc) (hi:=hi.to) (hg:=hg.to) (hb:=hb.to) (hs:=hs)⟩
theorem wK:PTs X [] (LT X.K yr):=GG
theorem Pa {c:D8}(hc:JT X c tt):PTs X [c] (LT X.K tt):=GH (hc:=hc.to)
theorem jlc {i:P0}{x:Str}{p:Pos}(hc:X.calm=true)(S:BlockOk X scope js)(hi:JI X (.Name x p) iter ti)(hj:i∈js)(hN:X.N.Nodup)(hx:X.N[i]? =some x)(hl:scope.names.lookup x=some .local\/scope.names.lookup x=some .cell)(ht: ∀X',jf X scope X'->PTs X' ifs (LT X'.K tt))(he: ∀X',jf X scope X'->JE X' elt te)(hs: ∀x,D9 iter X.env x=pure x:=by intro _;rfl):JE X (.ListComp elt [⟨.Name x p,iter,ifs,0⟩] scope pos) (yJ (bN i) js ti tt te):=⟨qlc (hc:=hc) (S:=S) (hi:=hi.to) (hj:=hj) (hN:=hN) (hx:=hx) (hl:=hl) (ht:=ht) (he:=λX' hX=>(he X' hX).to) (hs:=hs)⟩
theorem BY {i j:P0}{x y:Str}{p1 p2 p3:Pos}{k:P0}(hc:X.calm=true)(S:BlockOk X scope js)(hi:JI X (.Tuple [.Name x p1,.Name y p2] k p3) iter ti)(hj:i∈js)(hj2:j∈js)(hij:i≠j)(hN:X.N.Nodup)(hx:X.N[i]? =some x)(hy:X.N[j]? =some y)(hl:scope.names.lookup x=some .local\/scope.names.lookup x=some .cell)(hl2:scope.names.lookup y=some .local\/scope.names.lookup y=some .cell)(ht: ∀X',jf X scope X'->PTs X' ifs (LT X'.K tt))(he: ∀X',jf X scope X'->JE X' elt te)(hs: ∀x,D9 iter X.env x=pure x:=by intro _;rfl):JE X (.ListComp elt [⟨.Tuple [.Name x p1,.Name y p2] k p3,iter,ifs,0⟩] scope pos) (yJ (b2 i j) js ti tt te):=⟨BQ (hc:=hc) (S:=S) (hi:=hi.to) (hj:=hj) (hj2:=hj2) (hij:=hij) (hN:=hN) (hx:=hx) (hy:=hy) (hl:=hl) (hl2:=hl2) (ht:=ht) (he:=λX' hX=>(he X' hX).to) (hs:=hs)⟩
end
section
variable {X:Cx}{k:P0}{f:G6}{fd:S6}{ps:G0 Str}{spd:RDn}{x:Str}{p pos:Pos}{e:D8}{es:G0 D8}{t:TAD}
theorem Nx (F:FnOk X.prog X.w X.K X.mg X.base CX0 k f fd ps (LSp X.K spd))(hr:Room k X.A)(hg:Gl X x)(hm:X.mg x=some (.ref f))(hk:E3 X.K (.ref f)=true)(hb:Binds X.K fd ps [])(ha:JA X (e::es) t)(hdb:(x==("__debug__" :Str))=false:=by decide)(he:P8 (e::es) X.env=(false,B6 e X.env)::P8 es X.env:=by rfl)(hpl:(H0 pos (P8 es X.env)).any (·.1)=false:=by rfl):JE X (.Call (.Name x p) (e::es) [] pos) (dCB spd t):=⟨Nh (F:=F) (hr:=hr) (hg:=hg) (hm:=hm) (hk:=hk) (hb:=hb) (ha:=ha.to) (hdb:=hdb) (he:=he) (hpl:=hpl)⟩
theorem zv {id:O1}{r:RDn}(hc:ww X (.builtin id) r)(hg:Gl X x)(hm:X.mg x=none)(hv:C5 x=some (.builtin id))(ha:JA X (e::es) t)(hn:x≠ "__name__" :=by decide)(hdb:(x==("__debug__" :Str))=false:=by decide)(he:P8 (e::es) X.env=(false,B6 e X.env)::P8 es X.env:=by rfl)(hpl:(H0 pos (P8 es X.env)).any (·.1)=false:=by rfl):JE X (.Call (.Name x p) (e::es) [] pos) (dCB r t):=⟨Rn (hc:=hc) (hg:=hg) (hm:=hm) (hv:=hv) (ha:=ha.to) (hn:=hn) (hdb:=hdb) (he:=he) (hpl:=hpl)⟩
theorem jD {T:O1}{r:RDn}(hc:ww X (.type T) r)(hg:Gl X x)(hm:X.mg x=none)(hv:C5 x=some (.type T))(ha:JA X (e::es) t)(hn:x≠ "__name__" :=by decide)(hdb:(x==("__debug__" :Str))=false:=by decide)(he:P8 (e::es) X.env=(false,B6 e X.env)::P8 es X.env:=by rfl)(hpl:(H0 pos (P8 es X.env)).any (·.1)=false:=by rfl):JE X (.Call (.Name x p) (e::es) [] pos) (dCB r t):=⟨GJ (hc:=hc) (hg:=hg) (hm:=hm) (hv:=hv) (ha:=ha.to) (hn:=hn) (hdb:=hdb) (he:=he) (hpl:=hpl)⟩
end
section
variable {X:Cx}{iter elt:D8}{te:TED}{ti:TID}{tt:TTD}{pos spos:Pos}{scope:L7}{js:G0 P0}{ifs:G0 D8}
theorem Qr {i k:P0}{x y:Str}{p py:Pos}(hc:X.calm=true)(hN:X.N.Nodup)(hk:X.N[k]? =some y)(hy:Loc X.env.scope y)(S:BlockOk X scope js)(hi:JI X (.Name x p) iter ti)(hj:i∈js)(hx:X.N[i]? =some x)(hl:scope.names.lookup x=some .local\/scope.names.lookup x=some .cell)(ht: ∀X',jf X scope X'->PTs X' ifs (LT X'.K tt))(he: ∀X',jf X scope X'->JE X' elt te)(hsw:L8 (.ListComp elt [⟨.Name x p,iter,ifs,0⟩] scope pos) (some (.Name y py)) spos.line X.env=pure true:=by rfl)(hf:X.fn y=true\/X.env.scope.names.lookup y=some .local:=by first|exact .inl rfl|exact .inr rfl|assumption)(hs: ∀x,D9 iter X.env x=pure x:=by intro _;rfl):JS X (.Assign [.Name y py] (.ListComp elt [⟨.Name x p,iter,ifs,0⟩] scope pos) spos) (Zi k (yJ (bN i) js ti tt te)):=⟨Ro (hc:=hc) (hN:=hN) (hk:=hk) (hy:=hy) (S:=S) (hi:=hi.to) (hj:=hj) (hx:=hx) (hl:=hl) (ht:=ht) (he:=λX' hX=>(he X' hX).to) (hsw:=hsw) (hf:=hf) (hs:=hs)⟩
theorem Uk {i j k:P0}{x1 x2 y:Str}{p1 p2 p3 py:Pos}{kk:P0}(hc:X.calm=true)(hN:X.N.Nodup)(hk:X.N[k]? =some y)(hy:Loc X.env.scope y)(S:BlockOk X scope js)(hi:JI X (.Tuple [.Name x1 p1,.Name x2 p2] kk p3) iter ti)(hj:i∈js)(hj2:j∈js)(hij:i≠j)(hx:X.N[i]? =some x1)(hx2:X.N[j]? =some x2)(hl:scope.names.lookup x1=some .local\/scope.names.lookup x1=some .cell)(hl2:scope.names.lookup x2=some .local\/scope.names.lookup x2=some .cell)(ht: ∀X',jf X scope X'->PTs X' ifs (LT X'.K tt))(he: ∀X',jf X scope X'->JE X' elt te)(hsw:L8 (.ListComp elt [⟨.Tuple [.Name x1 p1,.Name x2 p2] kk p3,iter,ifs,0⟩] scope pos) (some (.Name y py)) spos.line X.env=pure true:=by rfl)(hf:X.fn y=true\/X.env.scope.names.lookup y=some .local:=by first|exact .inl rfl|exact .inr rfl|assumption)(hs: ∀x,D9 iter X.env x=pure x:=by intro _;rfl):JS X (.Assign [.Name y py] (.ListComp elt [⟨.Tuple [.Name x1 p1,.Name x2 p2] kk p3,iter,ifs,0⟩] scope pos) spos) (Zi k (yJ (b2 i j) js ti tt te)):=⟨GK (hc:=hc) (hN:=hN) (hk:=hk) (hy:=hy) (S:=S) (hi:=hi.to) (hj:=hj) (hj2:=hj2) (hij:=hij) (hx:=hx) (hx2:=hx2) (hl:=hl) (hl2:=hl2) (ht:=ht) (he:=λX' hX=>(he X' hX).to) (hsw:=hsw) (hf:=hf) (hs:=hs)⟩
end
section
variable {X:Cx}{iter iter' elt:D8}{te:TED}{ti ti':TID}{tt tt':TTD}{pos:Pos}{scope:L7}{js:G0 P0}{ifs ifs':G0 D8}
theorem BZ {i i':P0}{x y:Str}{p py:Pos}(hc:X.calm=true)(S:BlockOk X scope js)(hi:JI X (.Name x p) iter ti)(hj:i∈js)(hj':i'∈js)(hne:i≠i')(hN:X.N.Nodup)(hx:X.N[i]? =some x)(hy:X.N[i']? =some y)(hl:scope.names.lookup x=some .local\/scope.names.lookup x=some .cell)(hl':scope.names.lookup y=some .local\/scope.names.lookup y=some .cell)(ht: ∀X',jf X scope X'->PTs X' ifs (LT X'.K tt))(hi': ∀X',jf X scope X'->JI X' (.Name y py) iter' ti')(ht': ∀X',jf X scope X'->PTs X' ifs' (LT X'.K tt'))(he: ∀X',jf X scope X'->JE X' elt te)(hs: ∀x,D9 iter X.env x=pure x:=by intro _;rfl)(hs': ∀env x,D9 iter' env x=pure x:=by intro _ _;rfl):JE X (.ListComp elt [⟨.Name x p,iter,ifs,0⟩,⟨.Name y py,iter',ifs',0⟩] scope pos) (PC (bN i) js ti tt i' ti' tt' te):=⟨BR (hc:=hc) (S:=S) (hi:=hi.to) (hj:=hj) (hj':=hj') (hne:=hne) (hN:=hN) (hx:=hx) (hy:=hy) (hl:=hl) (hl':=hl') (ht:=ht) (hi':=λX' hX=>(hi' X' hX).to) (ht':=ht') (he:=λX' hX=>(he X' hX).to) (hs:=hs) (hs':=hs')⟩
end
section
variable {X:Cx}{a b e:D8}{ta tb te:TED}{pos p2:Pos}
theorem jix (ha:JE X a ta)(hb:JE X b tb)(hs:Jm b):JE X (.Subscript a b pos) (dOp ixD ta tb):=⟨qix (ha:=ha.to) (hb:=hb.to) (hs:=hs)⟩
end
theorem Ul {a:D8}{ta:TED}{T:O1}{t:Str}{p p2 pos:Pos}(hT:T∈ ["tuple","int","bool","list","str"])(hg:Gl X "isinstance")(hm:X.mg "isinstance" =none)(hg2:Gl X t)(hm2:X.mg t=none)(hv:C5 t=some (.type T))(ha:JE X a ta)(hn:t≠ "__name__" :=by decide)(hd:(t==("__debug__" :Str))=false:=by decide)(h1:P8 [a,.Name t p2] X.env=(false,B6 a X.env)::P8 [.Name t p2] X.env:=by rfl)(h2:(H0 pos (P8 [.Name t p2] X.env)).any (·.1)=false:=by rfl):JE X (.Call (.Name "isinstance" p) [a,.Name t p2] [] pos) (dIs T ta):=⟨Nn (hT:=hT) (hg:=hg) (hm:=hm) (hg2:=hg2) (hm2:=hm2) (hv:=hv) (ha:=ha.to) (hn:=hn) (hd:=hd) (h1:=h1) (h2:=h2)⟩
section
variable {X:Cx}{o e i:D8}{to te ti:TED}{apos cpos pos:Pos}
theorem Mt (ho:JE X o to)(he:JE X e te)(hbase:A8 o "append" X.env (B6 o X.env)=B6 o X.env:=by rfl)(hfew:((H0 cpos (P8 [e] X.env)).all (λx=> !x.1)&&(cC cpos (X6 [] X.env)).all (λx=>x.1.isSome)&&decide ([e].length+([]:G0 V7).length+(if ([]:G0 V7).isEmpty then 0 else 1)<30))=true:=by rfl)(hline:(apos.endLine==cpos.line)=true:=by rfl)(hs:P8 [e] X.env=(false,B6 e X.env)::P8 [] X.env:=by rfl)(hplain:(H0 cpos (P8 [] X.env)).any (·.1)=false:=by rfl):JE X (.Call (.Attribute o "append" apos) [e] [] cpos) (Mq to te):=⟨BS (ho:=ho.to) (he:=he.to) (hbase:=hbase) (hfew:=hfew) (hline:=hline) (hs:=hs) (hplain:=hplain)⟩
theorem Yk (ho:JE X o to)(hi:JE X i ti)(ha: ∀v,Y0 (.Subscript o i pos) X.env v=(do
 let ov <-J5 [v] (B6 o X.env)
 let iv <-J5 [v,ov] (B6 i X.env)
 Y9 pos
 J5 [v,ov,iv] (f6 ov iv v)
 lA [v,ov,iv] []):=by intro _;rfl):JG X (.Subscript o i pos) (GR to ti):=⟨Rz (ho:=ho.to) (hi:=hi.to) (ha:=ha)⟩
end
theorem jpt {e:D8}{t:TTD}(h:JW X e t):JT X e t:=⟨qpt (h:=h.to)⟩
theorem Pb:JO X none Ua:=⟨GS⟩
variable {te:TED}
theorem Ww {e:D8}(he:JE X e te):JO X (some e) (RA te):=⟨GT (he:=he.to)⟩
theorem Qs {e:D8}{lo hi:P5 D8}{tl th:TOD}{pos p2:Pos}(he:JE X e te)(hl:JO X lo tl)(hu:JO X hi th):JE X (.Subscript e (.Slice lo hi none p2) pos) (dSl te tl th):=⟨RB (he:=he.to) (hl:=hl.to) (hu:=hu.to)⟩
theorem Ca {a:D8}{ta:TED}{pos:Pos}(ha:JE X a ta):JE X (.UnaryOp .USub a pos) (dUn Np ta):=⟨Bi (ha:=ha.to)⟩
theorem jR {tg e:D8}(he:JE X e te):JI X tg e (iS te):=⟨RF (he:=he.to)⟩
theorem Um {st:C3}:JS X st Qp:=⟨RG⟩
theorem jac {e:D8}{es:G0 D8}{t:TAD}(ha:JE X e te)(hr:JA X es t)(h:jL e=true:=by rfl):JA X (e::es) (jI te t):=⟨qac (ha:=ha.to) (hr:=hr.to) (h:=h)⟩
section
variable {X:Cx}{o e i:D8}{to te ti:TED}{apos cpos:Pos}
theorem Cb (ho:JE X o to)(hi:JE X i ti)(he:JE X e te)(hbase:A8 o "insert" X.env (B6 o X.env)=B6 o X.env:=by rfl)(hfew:((H0 cpos (P8 [i,e] X.env)).all (λx=> !x.1)&&(cC cpos (X6 [] X.env)).all (λx=>x.1.isSome)&&decide ([i,e].length+([]:G0 V7).length+(if ([]:G0 V7).isEmpty then 0 else 1)<30))=true:=by rfl)(hline:(apos.endLine==cpos.line)=true:=by rfl)(hs:P8 [i,e] X.env=(false,B6 i X.env)::P8 [e] X.env:=by rfl)(hs2:P8 [e] X.env=(false,B6 e X.env)::P8 [] X.env:=by rfl)(hplain:(H0 cpos (P8 [e] X.env)).any (·.1)=false:=by rfl):JE X (.Call (.Attribute o "insert" apos) [i,e] [] cpos) (Bj to ti te):=⟨BU (ho:=ho.to) (hi:=hi.to) (he:=he.to) (hbase:=hbase) (hfew:=hfew) (hline:=hline) (hs:=hs) (hs2:=hs2) (hplain:=hplain)⟩
end
section
variable {P:S2}{w:M6}{K:G1}{mg:Str->P5 G2}{base:N5}
theorem Fun.okJ {x qual:Str}{st:C3}{f:G6}{fd:S6}{N ps:G0 Str}{k:P0}{spd:RDn}(F:Fun K x qual st f fd)(S:FnScope N ps (jc st))(len: ∀ds h Q,spd ds h Q->ds.length=ps.length)
 (tb:TSD)(hbody: ∀ (cdv:G2) (A:M5) (outer:G0 Env) (s:G5) (H:Hp) (E:XK),Room k (A.deeper (aB qual (jc st) s.heap.objs.size f cdv))->JSs (Xs CX0 P w K mg base N qual (jc st) f cdv A outer s H E).nox (zb st) tb)
 (read: ∀ds h Q,spd ds h Q->tb (YK Q) (zt N ds) h):FnOk P w K mg base CX0 (k+1) f fd ps (LSp K spd):=F.okD S len tb (λcdv A outer s H E hr=>(hbody cdv A outer s H E hr).to) read
end
def zw (r:G0 G8):D:= .tup (r.map D.int)
def jp (T:G0 (G0 G8)):D:= .tup (T.map zw)
def zA (n:P0)(r:G0 G8):Prop:=r.length=n/\ ∀x∈r,0<=x/\x<=1000000
def GoodTab (n:P0)(T:G0 (G0 G8)):Prop:=T.length=n/\ ∀r∈T,zA n r
structure Sq (n e:P0)(T:G0 (G0 G8)):Prop where
 len:T.length=n
 row: ∀r∈T,r.length=n
 nn: ∀r∈T,∀x∈r,0<=x
 bit: ∀r∈T,∀x∈r,x<2^e
variable {n:P0}{T:G0 (G0 G8)}
theorem GoodTab.sq (g:GoodTab n T):Sq n 20 T:=⟨g.1,λr hr=>(g.2 r hr).1,λr hr x hx=>((g.2 r hr).2 x hx).1,λr hr x hx=>Int.lt_of_le_of_lt ((g.2 r hr).2 x hx).2 (by decide)⟩
def ent (T:G0 (G0 G8))(i j:P0):G8:=(T.getD i []).getD j 0
def mkT (n:P0)(f:P0->P0->G8):G0 (G0 G8):=(D3 n).map λi=>(D3 n).map λj=>f i j
theorem zj {α:Type}(xs:G0 α)(d:α):xs=(D3 xs.length).map λi=>xs.getD i d:=by
 apply List.ext_getElem (by simp);intro i h1 h2;simp [D6,h1]
variable {e:P0}
theorem Sq.eq_mk (h:Sq n e T):T=mkT n (ent T):=by
 have h1:=zj T [];rw [h.len] at h1;unfold mkT
 conv=>lhs;rw [h1]
 apply T7;intro i hi;have hi':i<T.length:=by rw [h.len];exact S8.mp hi
 have hr:(T.getD i []).length=n:=by
  rw [D6,G4 hi'];exact h.row _ (S9 hi')
 have h2:=zj (T.getD i []) 0;rw [hr] at h2;exact h2
theorem XF {f g:P0->P0->G8}(h: ∀i j,i<n->j<n->f i j=g i j):mkT n f=mkT n g:=by
 unfold mkT;apply T7;intro i hi;apply T7;intro j hj;exact h i j (S8.mp hi) (S8.mp hj)
theorem Sq.of_mk {f:P0->P0->G8}(h0: ∀i j,i<n->j<n->0<=f i j)(h1: ∀i j,i<n->j<n->f i j<2^e):Sq n e (mkT n f):=by
 have key: ∀r∈mkT n f,∃i,i<n/\r=(D3 n).map λj=>f i j:=λr hr=>by
  obtain⟨i,hi,e⟩:=T5.mp hr;exact⟨i,S8.mp hi,e.symm⟩
 refine⟨by simp [mkT],λr hr=> ?_,λr hr x hx=> ?_,λr hr x hx=> ?_⟩
 ·obtain⟨i,_,e⟩:=key r hr;rw [e];simp
 ·obtain⟨i,hi,e⟩:=key r hr;rw [e] at hx;obtain⟨j,hj,e2⟩:=T5.mp hx;rw [<-e2];exact h0 i j hi (S8.mp hj)
 ·obtain⟨i,hi,e⟩:=key r hr;rw [e] at hx;obtain⟨j,hj,e2⟩:=T5.mp hx;rw [<-e2];exact h1 i j hi (S8.mp hj)
theorem Sq.ent_nn (h:Sq n e T){i j:P0}(hi:i<n)(hj:j<n):0<=ent T i j/\ent T i j<2^e:=by
 have hi':i<T.length:=by rw [h.len];exact hi
 have hr:T.getD i []=T[i]:=by rw [D6,G4 hi'];rfl
 have hm:T[i]∈T:=S9 hi';have hj':j<T[i].length:=by rw [h.row _ hm];exact hj
 have he:ent T i j=T[i][j]:=by unfold ent;rw [hr,D6,G4 hj'];rfl
 rw [he];exact⟨h.nn _ hm _ (S9 hj'),h.bit _ hm _ (S9 hj')⟩
theorem Sq.ext {f:P0}{U:G0 (G0 G8)}(h:Sq n e T)(g:Sq n f U)(k: ∀i j,i<n->j<n->ent T i j=ent U i j):T=U:=by
 rw [h.eq_mk,g.eq_mk];exact XF k
def yS (n:P0)(f:P0->G8):G8:=((D3 n).map f).sum
theorem YN (f:P0->G8):yS 0 f=0:=rfl
theorem vX (n:P0)(f:P0->G8):yS (n+1) f=yS n f+f n:=by
 unfold yS;rw [Y2,R9,fT];simp
theorem XG {f:P0->G8}(h: ∀k,k<n->0<=f k):0<=yS n f:=by
 induction n with
 |zero=>exact Int.le_refl _
 |succ n ih=>rw [vX];have:=ih λk hk=>h k (by omega);have:=h n (by omega);omega
theorem XH {f:P0->G8}{b:G8}(h: ∀k,k<n->f k<=b):yS n f<=n*b:=by
 induction n with
 |zero=>simp [YN]
 |succ n ih=>
  rw [vX];have h1:=ih λk hk=>h k (by omega);have h2:=h n (by omega)
  have:((n+1:P0):G8)*b=(n:G8)*b+b:=by rw [fV,Int.add_mul];simp
  omega
def Xh (n:P0)(T U:G0 (G0 G8)):G0 (G0 G8):=mkT n λi j=>yS n λk=>ent T i k*ent U k j
theorem Sq.mul {f:P0}{U:G0 (G0 G8)}(h:Sq n e T)(g:Sq n f U)(hn:n<=8):Sq n (e+f+3) (Xh n T U):=by
 have nn: ∀i j,i<n->j<n-> ∀k,k<n->0<=ent T i k*ent U k j:=λi j hi hj k hk=>Int.mul_nonneg (h.ent_nn hi hk).1 (g.ent_nn hk hj).1
 refine Sq.of_mk (λi j hi hj=>XG (nn i j hi hj)) λi j hi hj=> ?_
 have hle: ∀k,k<n->ent T i k*ent U k j<=2^e*2^f-1:=λk hk=>by
  have a:=h.ent_nn hi hk;have b:=g.ent_nn hk hj;have:ent T i k*ent U k j<2^e*2^f:=by
   have p:(0:G8)<2^f:=fI (by decide)
   calc ent T i k*ent U k j<=ent T i k*2^f:=Int.mul_le_mul_of_nonneg_left (Int.le_of_lt b.2) a.1
    _<2^e*2^f:=Int.mul_lt_mul_of_pos_right a.2 p
  omega
 have s:=XH hle;have p:(0:G8)<2^e*2^f:=Int.mul_pos (fI (by decide)) (fI (by decide));have e1:(2:G8)^(e+f+3)=8*(2^e*2^f):=by rw [i9,i9];rw [Int.mul_comm];rfl
 rw [e1];have hn':(n:G8)<=8:=by omega
 have:(n:G8)*(2^e*2^f-1)<=8*(2^e*2^f-1):=Int.mul_le_mul_of_nonneg_right hn' (by omega);omega
def Ny (n:P0):G0 (G0 G8):=mkT n λi j=>if i=j then 1 else 0
theorem Sq.one (n:P0):Sq n 1 (Ny n):=Sq.of_mk (f:=λi j=>if i=j then 1 else 0) (λi j _ _=>by split<;>decide) λi j _ _=>by split<;>decide
def Nz (n:P0)(T:G0 (G0 G8)):P0->G0 (G0 G8)
 |0=>Ny n
 |k+1=>Xh n (Nz n T k) T
def RL (n:P0)(T:G0 (G0 G8)):G0 (G0 G8):=mkT n λi j=>ent T j i
def ZC (n:P0)(T:G0 (G0 G8)):G0 (G0 G8):=mkT n λi j=>if ent T i j=0 then 0 else 1
theorem Sq.turn (h:Sq n e T):Sq n e (RL n T):=Sq.of_mk (λi j hi hj=>(h.ent_nn hj hi).1) λi j hi hj=>(h.ent_nn hj hi).2
theorem Sq.mark (T:G0 (G0 G8)):Sq n 1 (ZC n T):=Sq.of_mk (f:=λi j=>if ent T i j=0 then 0 else 1) (λi j _ _=>by split<;>decide) λi j _ _=>by split<;>decide
structure Ord (n:P0)(o:G0 P0):Prop where
 len:o.length=n
 all: ∀i,i<n->i∈o
def zc (T:G0 (G0 G8)):B4:=T.all λr=>r.all λx=>decide (x≠0)
theorem Pc (n:P0)(f:P0->P0->G8):zc (mkT n f)=true↔ ∀i j,i<n->j<n->f i j≠0:=by
 unfold zc mkT;simp only [K4,C1,S8,O3,L9];exact⟨λh i j hi hj=>h i hi j hj,λh i hi j hj=>h i j hi hj⟩
def MulOk (i j:G8):Prop:= ∃m n:P0,i.natAbs<2^m/\j.natAbs<2^n/\m+n<=134217728
theorem MulOk.ok {i j:G8}(h:MulOk i j):IntMulOk i j:=by
 obtain⟨m,n,a,b,c⟩:=h;exact .of_le (cH.mpr a) (cH.mpr b) c
theorem Pd:OpR X (B7 .Mult) (rI MulOk λi j=> .int (i*j)):=opI λ_ _ _ _ _ _ _ hc q=>mul_int q hc.ok
def Cc:RD2:=λx y h Q=>match x,y with
 | .int i,.int j=>MulOk i j/\Q (.int (i*j)) h
 |_,_=>False
theorem Uo:OpQ X (B7 .Mult) Cc:=Jq (gd:=λi j=> .int (i*j)) Pd (λ_ _ _=>rfl) λx y h Q q=>by
 cases x<;>cases y<;>first|exact False.elim q|exact⟨_,_,rfl,rfl,q.1,q.2⟩
theorem yb {x:G8}(h0:0<=x)(h1:x<2^e):x.natAbs<2^e:=by
 have:((2^e:P0):G8)=2^e:=by simp
 omega
theorem Yl {x y:G8}{f:P0}(hx:0<=x/\x<2^e)(hy:0<=y/\y<2^f)(h:e+f<=134217728):MulOk x y:=⟨e,f,yb hx.1 hx.2,yb hy.1 hy.2,h⟩
section
variable {α β:Type}{i i':P0}{js:G0 P0}{ti ti':TID}{te:TED}{σ:SD}{h:HD}{Q:KD}{j:ItD}
theorem lcA (xs:G0 α)(c g:α->D)(hz:xs.length<=1000)(hj:j h=some (xs.map c))(ht: ∀R:ItD->HD->Prop,R j h->ti σ h R)
 (he: ∀x∈xs,∀Q':KD,Q' (g x) h->te ((jG js σ).set i (some (c x))) h Q')(hq: ∀p,h p=none->Q (.lst p) (zi h p (xs.map g))):yJ (bN i) js ti yr te σ h Q:=by
 refine ht _ ⟨xs.length,λk ys h'=>h'=h/\ys=(xs.take k).map g,⟨rfl,by simp⟩,?_⟩;rintro k ys h' ⟨rfl,rfl⟩;refine⟨by simp only [G3,B0];exact N1 (jH (by omega)),xs.map c,hj,by simp,λhl p hp=> ?_,λd hd=>⟨_,rfl,?_⟩⟩
 ·rw [M2 (by simpa using hl)];exact hq p hp
 ·unfold yr;dsimp only;rw [R3 rfl];rw [P7] at hd;cases hx:xs[k]? with
  |none=>rw [hx] at hd;cases hd
  |some x=>
   rw [hx] at hd;cases hd;refine he x (S0 hx) _ ⟨h',Sub.refl _,rfl,?_⟩;rw [N4,hx];simp
theorem lcB (xs:G0 α)(c:α->D)(ys:α->G0 β)(c':β->D)(g:α->β->D)(hz:(xs.flatMap ys).length<=1000)(hj:j h=some (xs.map c))(ht: ∀R:ItD->HD->Prop,R j h->ti σ h R)
 (hin: ∀x∈xs,∀R:ItD->HD->Prop,R (λ_=>some ((ys x).map c')) h->ti' ((jG js σ).set i (some (c x))) h R)
 (he: ∀x∈xs,∀y∈ys x,∀Q':KD,Q' (g x y) h->te (((jG js σ).set i (some (c x))).set i' (some (c' y))) h Q')(hq: ∀p,h p=none->Q (.lst p) (zi h p (xs.flatMap λx=>(ys x).map (g x)))):PC (bN i) js ti yr i' ti' yr te σ h Q:=by
 have len: ∀l:G0 α,(l.flatMap λx=>(ys x).map (g x)).length=(l.flatMap ys).length:=λl=>by
  induction l with
  |nil=>rfl
  |cons x l ih=>simp [W4,ih]
 have lek: ∀k,((xs.take k).flatMap ys).length<=(xs.flatMap ys).length:=λk=>by
  conv=>rhs;rw [<-bX k xs,Y5,S1]
  omega
 have lek1: ∀k x m,xs[k]? =some x->m<=(ys x).length->((xs.take k).flatMap ys).length+m<=(xs.flatMap ys).length:=λk x m hx hm=>by
  have:=lek (k+1);rw [N4,hx,Y5,S1] at this;simp at this;simp;omega
 refine ht _ ⟨xs.length,λk zs h'=>h'=h/\zs=(xs.take k).flatMap λx=>(ys x).map (g x),⟨rfl,by simp⟩,?_⟩;rintro k zs h' ⟨rfl,rfl⟩;refine⟨by rw [len];exact N1 (jH (T8 (lek k) hz)),xs.map c,hj,by simp,λhl p hp=> ?_,λd hd=>⟨_,rfl,?_⟩⟩
 ·rw [M2 (by simpa using hl)];exact hq p hp
 ·unfold yr;dsimp only;rw [R3 rfl];rw [P7] at hd;cases hx:xs[k]? with
  |none=>rw [hx] at hd;cases hd
  |some x=>
   rw [hx] at hd;cases hd;have xm:=S0 hx;refine hin x xm _ ⟨(ys x).length,λm zs h2=>h2=h'/\zs=((xs.take k).flatMap λx=>(ys x).map (g x))++((ys x).take m).map (g x),⟨rfl,by simp⟩,?_⟩;rintro m zs h2 ⟨rfl,rfl⟩;refine⟨?_,(ys x).map c',rfl,by simp,λhl=>⟨h2,Sub.refl _,rfl,?_⟩,λd hd=> ?_⟩
   ·rw [S1,len,G3,B0];have:=lek1 k x (min m (ys x).length) hx (eJ _ _);exact N1 (jH (by omega))
   ·have hm:(ys x).take m=ys x:=M2 (by simpa using hl);rw [hm,N4,hx,Y5];simp
   ·rw [P7] at hd;cases hy:(ys x)[m]? with
    |none=>rw [hy] at hd;cases hd
    |some y=>
     rw [hy] at hd;cases hd
     first
      |rw [R3 rfl]
      |(dsimp only;rw [R3 rfl])
     refine he x xm y (S0 hy) _ ⟨h2,Sub.refl _,rfl,?_⟩;rw [N4,hy];simp
theorem Xi (xs:G0 α)(c g:α->D)(hz:xs.length<=1000)(hj:j h=some (xs.map c))(ht: ∀R:ItD->HD->Prop,R j h->ti σ h R)
 (he: ∀x∈xs,∀Q':KD,Q' (g x) h->te ((jG js σ).set i (some (c x))) h Q')(hq:Q (.tup (xs.map g)) h):dCB Yf (jI (yJ (bN i) js ti yr te) wX) σ h Q:=by
 show yJ (bN i) js ti yr te σ h (λx h1=>Yf [x] h1 Q);exact lcA xs c g hz hj ht he λp hp=>(show ∃ys,zi h p (xs.map g) p=some ys/\Q (.tup ys) (Wq (zi h p (xs.map g)) p) from ⟨_,ja,by rw [zH hp];exact hq⟩)
theorem Bl (xs:G0 α)(c:α->D)(g:α->G8)(hz:xs.length<=1000)(hj:j h=some (xs.map c))(ht: ∀R:ItD->HD->Prop,R j h->ti σ h R)
 (he: ∀x∈xs,∀Q':KD,Q' (.int (g x)) h->te ((jG js σ).set i (some (c x))) h Q')(hq:Q (.int (xs.map g).sum) h):dCB Nr (jI (yJ (bN i) js ti yr te) wX) σ h Q:=by
 show yJ (bN i) js ti yr te σ h (λx h1=>Nr [x] h1 Q);exact lcA xs c (λx=> .int (g x)) hz hj ht he λp hp=>⟨p,xs.map g,rfl,by rw [ja,S7];rfl,by rw [zH hp];exact hq⟩
theorem Cd (xs:G0 α)(c:α->D)(ys:α->G0 β)(c':β->D)(g:α->β->B4)(hz:(xs.flatMap ys).length<=1000)(hj:j h=some (xs.map c))(ht: ∀R:ItD->HD->Prop,R j h->ti σ h R)
 (hin: ∀x∈xs,∀R:ItD->HD->Prop,R (λ_=>some ((ys x).map c')) h->ti' ((jG js σ).set i (some (c x))) h R)
 (he: ∀x∈xs,∀y∈ys x,∀Q':KD,Q' (.bl (g x y)) h->te (((jG js σ).set i (some (c x))).set i' (some (c' y))) h Q')(hq:Q (.bl (xs.all λx=>(ys x).all (g x))) h):dCB Ry (jI (PC (bN i) js ti yr i' ti' yr te) wX) σ h Q:=by
 show PC (bN i) js ti yr i' ti' yr te σ h (λx h1=>Ry [x] h1 Q);refine lcB xs c ys c' (λx y=> .bl (g x y)) hz hj ht hin he λp hp=> ?_
 ·have e:(xs.flatMap λx=>(ys x).map λy=>D.bl (g x y))=(xs.flatMap λx=>(ys x).map (g x)).map D.bl:=by
   clear hz hj ht hin he hq
   induction xs with
   |nil=>rfl
   |cons x l ih=>simp [W4,ih,S7]
  refine⟨p,xs.flatMap λx=>(ys x).map (g x),rfl,by rw [ja,e],?_⟩;rw [zH hp];have e2:(xs.flatMap λx=>(ys x).map (g x)).all id=xs.all λx=>(ys x).all (g x):=by
   clear hz hj ht hin he hq e
   induction xs with
   |nil=>rfl
   |cons x l ih=>simp [W4,ih,K4]
  rw [e2];exact hq
end
end L2
namespace L2
open PySem PySem.Spec PyProof.Rows PySem.SeqAt
def za (o:G0 P0):D:= .tup (o.map λ(k:P0)=>D.int (k:G8))
def Ordr (n:P0)(o:G0 P0):Prop:=o.Perm (D3 n)
variable {n:P0}
theorem Ordr.ord {o:G0 P0}(h:Ordr n o):Ord n o:=⟨by rw [h.length_eq,S5],λi hi=>h.mem_iff.mpr (S8.mpr hi)⟩
def ZD (o:G0 P0):G0 G8:=o.map λ(k:P0)=>(k:G8)
theorem Pe (o:G0 P0):za o= .tup ((ZD o).map D.int):=by unfold za ZD;rw [S7];rfl
theorem Ordr.insert {o:G0 P0}(h:Ordr n o)(k:P0):Ordr (n+1) (o.take k++n::o.drop k):=by
 unfold Ordr;rw [Y2];refine List.perm_middle.trans ?_;rw [bX];exact(List.Perm.cons n h).trans (List.perm_append_singleton n _).symm
theorem vt (h:HD): ∀ns:G0 G8,ToPs h (ns.map D.int) (ns.map X2)
 | []=>rfl
 |n::ns=>⟨_,_,rfl,rfl,vt h ns⟩
theorem wL: ∀ns:G0 G8,W5 (ns.map X2)=true
 | []=>rfl
 |n::ns=>by show (M9 (.int n)&&_)=true;rw [wL ns];rfl
theorem yw: ∀ns:G0 G8,M1 (ns.map X2)<=1
 | []=>by simp [M1]
 |n::ns=>by
  have:=yw ns;simp only [R0,M1,N0];omega
def yn (r:G0 G8):J1:= .tuple (r.map .int)
def Xj (T:G0 (G0 G8)):J1:= .tuple (T.map yn)
theorem ZE (h:HD): ∀T:G0 (G0 G8),ToPs h (T.map zw) (T.map yn)
 | []=>rfl
 |r::T=>⟨_,_,rfl,⟨_,rfl,vt h r⟩,ZE h T⟩
theorem Pf (h:HD)(T:G0 (G0 G8)):ToP h (jp T) (Xj T):=⟨_,rfl,ZE h T⟩
theorem wM: ∀T:G0 (G0 G8),W5 (T.map yn)=true
 | []=>rfl
 |r::T=>by
  show (M9 (yn r)&&_)=true;rw [wM T];have:M9 (yn r)=true:=by unfold yn;simp only [M9];exact wL r
  rw [this];rfl
theorem wu: ∀T:G0 (G0 G8),M1 (T.map yn)<=3
 | []=>by simp [M1]
 |r::T=>by
  have:=wu T;have h2:=yw r;simp only [R0,M1,N0,yn];omega
variable {e:P0}{T:G0 (G0 G8)}
theorem Up (h:Sq n e T){i:P0}(hi:i<n):atI (T.map zw) (i:G8)=some (zw (T.getD i [])):=by
 have hi':i<T.length:=by rw [h.len];exact hi
 exact zn (by rw [P7,D6,G4 hi'];rfl)
theorem Sq.getRow (h:Sq n e T){i:P0}(hi:i<n):T.getD i []∈T:=by
 have hi':i<T.length:=by rw [h.len];exact hi
 rw [D6,G4 hi'];exact S9 hi'
theorem vv {r:G0 G8}(h:r.length=n){j:P0}(hj:j<n):atI (r.map D.int) (j:G8)=some (.int (r.getD j 0)):=by
 have hj':j<r.length:=by rw [h];exact hj
 exact zn (by rw [P7,D6,G4 hj'];rfl)
theorem RM (n:P0)(f:P0->P0->G8):D.tup ((D3 n).map λi=>D.tup ((D3 n).map λj=>D.int (f i j)))=jp (mkT n f):=by
 unfold jp zw mkT;rw [S7]
 congr 1
 apply T7;intro i _;simp [S7,J9]
theorem Uq (T:G0 (G0 G8))(f:G8->G8):D.tup (T.map λr=>D.tup (r.map λx=>D.int (f x)))=jp (T.map λr=>r.map f):=by
 unfold jp zw;rw [S7]
 congr 1
 apply T7;intro r _;simp [S7,J9]
theorem Ur (h:Sq n e T):ZC n T=T.map λr=>r.map λx=>if x≠0 then 1 else 0:=by
 conv=>rhs;rw [h.eq_mk]
 unfold ZC mkT;rw [S7];apply T7;intro i _;simp only [O3,S7];apply T7;intro j _;simp only [O3]
 by_cases z:ent T i j=0
 ·rw [R3 z,S4 (by simpa using z)]
 ·rw [S4 z,R3 z]
theorem XI (h:Sq n e T)(h6:n<=6):(T.flatMap λr=>r).length<=1000:=by
 have: ∀U:G0 (G0 G8),(∀r∈U,r.length=n)->(U.flatMap λr=>r).length=U.length*n:=λU=>by
  induction U with
  |nil=>intro _;simp
  |cons r U ih=>
   intro hU;rw [W4,S1,ih λr hr=>hU r (D2 _ hr),hU r P6,S3,iT];omega
 rw [this T h.row,h.len];have:=Nat.mul_le_mul h6 h6;omega
theorem Ym {U:G0 (G0 G8)}(h:Sq n e T):(T.map λr=>D.tup ((D3 n).map λj=>D.int (yS n λm=>r.getD m 0*ent U m j)))=(Xh n T U).map zw:=by
 conv=>lhs;rw [zj T [],h.len]
 unfold Xh mkT;rw [S7,S7];apply T7;intro i _;simp only [O3,zw,S7];rfl
theorem Yn (h:Sq n e T):zc T=true↔ ∀i j,i<n->j<n->ent T i j≠0:=by
 have h1:zc T=zc (mkT n (ent T)):=by rw [<-h.eq_mk]
 rw [h1,Pc]
section
variable {prog:S2}{w:M6}{A:M5}{E:G2->G5->Prop}{s:G5}
theorem Wx {Q:Z5->G5->Prop}(hh:A.handled=none)(hE: ∀h' e,(∀b o,s.heap.get? b=some o->h'.get? b=some o)->(∃o,h'.get? e=some o/\o.cls= .type "StopIteration")->E (.ref e) {s with heap:=h'}):D7 (R1 prog w) A W6 Q E s:=by
 obtain⟨hp,g,d,tk,os⟩:=s;unfold W6
 wp_walk
 unfold raiseNew;refine wpAny_bind (wpAny_handled ?_);rw [hh];exact wpAny_bind (G9 (wpAny_throw (hE _ _ (λb o q=>G7 _ (G7 _ q)) ⟨_,D4 _ rfl,rfl⟩)))
end
section
variable {X:Cx}{pins:G0 (G6×Obj)}{σ:G0 (P5 V)}{H:Hp}{s:G5}{h':N5}
theorem Inv.turnL {t':P0}{ch:G0 G6}(I:Inv X pins σ H s)(k: ∀b o,b ∉ ch->s.heap.get? b=some o->h'.get? b=some o)(hc: ∀b∈ch,Vk X pins H b):Inv X pins σ H {s with heap:=h',toks:=t'}:=by
 refine I.step (g':=s.gens) (d':=s.drawn) (ch:=ch) (λb hb=>let ⟨_,f1,_,f3,f4,f5⟩:=hc b hb;⟨f3,f1,f4,f5⟩) (λb o _ _ nb e _=>k b o nb e) (λb o _ _ nb e _=>⟨o.slots,k b o nb e⟩) (λ_ _ _ _ n=>n)
  (λb o nb e=>⟨o,k b o nb e⟩) (λ_ _ e=>e) (λ_ _ _ e=>e) (λb ps e=>⟨#[],by rw [e];simp⟩) (λm hm=> ?_) (λb u e=> ?_) I.bare
 ·obtain⟨o,es,ep,ho,r⟩:=hm;exact⟨o,es,ep,k _ o (λz=>(hc _ z).2.1 rfl) ho,r⟩
 ·refine(I.hok b u e).stay (λc v hb q=>k c v (λz=> ?_) q) (λ_ q=>q) λ_ _ q=>q
  have f:=(hc c z).1;rcases hb with w|w
  ·rw [w,e] at f;cases f
  ·rw [w] at f;cases f
theorem Inv.turnLaid {t':P0}{ch:G0 G6}{a:G6}{o:HO}(I:Inv X pins σ H s)(k: ∀b u,b ∉ ch->s.heap.get? b=some u->h'.get? b=some u)(hc: ∀b∈ch,Vk X pins H b)(hp:s.heap.objs.size<=a)
 (new:ObjOk X.prog X.w (upd H a o) h' a o):Inv X pins σ (upd H a o) {s with heap:=h',toks:=t'}:=by
 have hn:=I.hok.fresh hp;refine I.step (g':=s.gens) (d':=s.drawn) (ch:=ch) (λb hb=>let ⟨_,f1,_,f3,f4,f5⟩:=hc b hb;⟨f3,f1,f4,f5⟩) (λb u _ _ nb e _=>k b u nb e) (λb u _ _ nb e _=>⟨u.slots,k b u nb e⟩)
  (λb u _ e n=>by rw [jg (R7 (R4 (P9 e) hp))];exact n) (λb u nb e=>⟨u,k b u nb e⟩) (λb xs q=>by rw [jg (je q hn)];exact q) (λb u xs q=>by rw [jg (je q hn)];exact q)
  (λb ps q=>⟨#[],by rw [jg (je q hn),q];simp⟩) (λm hm=> ?_) (λb u e=> ?_) I.bare
 ·obtain⟨u,es,ep,ho,r⟩:=hm;exact⟨u,es,ep,k _ u (λz=>(hc _ z).2.1 rfl) ho,r⟩
 ·by_cases hb:b=a
  ·subst hb;rw [jl] at e;cases e;exact new
  ·rw [jg hb] at e;refine(I.hok b u e).stay (λc v hb q=>k c v (λz=> ?_) q) (λc q=>by rw [jg (je q hn)];exact q) λc xs q=>by rw [jg (je q hn)];exact q
   have f:=(hc c z).1;rcases hb with w|w
   ·rw [w,e] at f;cases f
   ·rw [w] at f;cases f
end
def ZF (ds:G0 D):G0 D:=ds.zipIdx.map λp=> .tup [.int (p.2:G8),p.1]
theorem Jy {ds:G0 D}{i:P0}{d:D}(h:(ZF ds)[i]? =some d): ∃x,ds[i]? =some x/\d= .tup [.int (i:G8),x]:=by
 unfold ZF at h;rw [P7,List.getElem?_zipIdx] at h;cases q:ds[i]? with
 |none=>rw [q] at h;cases h
 |some x=>
  rw [q] at h;refine⟨x,rfl,?_⟩;have h':some (D.tup [.int ((0+i:P0):G8),x])=some d:=h;rw [Nat.zero_add] at h';exact(M0 h').symm
theorem wN (ds:G0 D):(ZF ds).length=ds.length:=by simp [ZF]
def Us (c:TTD)(tb:TSD):TSD:=λD σ h=> ∃W:P0->SD->HD->Prop,(∃m,W m σ h)/\ ∀m mB h',W m mB h'->c mB h' λb h1=>
 if b=true then tb {D with nx:=λmE h2=> ∃m' h3,m'<m/\Sub h3 h2/\W m' mE h3,ct:=λmE h2=> ∃m' h3,m'<m/\Sub h3 h2/\W m' mE h3,bk:=D.nx} mB h1 else D.nx mB h1
theorem XJ {K:G1}{c:TTD}{tb:TSD}: ∀D σ H,LS K (Us c tb) D σ H->Qi (LT K c) (LS K tb) D σ H:=λD σ H ⟨mC,h,Dd,rs,rh,⟨W,⟨m0,w0⟩,turn⟩,nx,rt,bk,ct⟩=>by
 refine⟨λm mB H'=>Kept H H'/\ ∃mF h',RelS K H' mF mB/\RelH K h' H'/\W m mF h',⟨m0,.refl _,mC,h,rs,rh,w0⟩,?_⟩;rintro m mB H' ⟨kp,mF,h',rs',rh',w⟩;refine LT.bind rs' rh' (turn m mF h' w) λb h1 H1 k1 rs1 rh1 q1=> ?_
 cases b with
 |false=>
  rw [S4 P3] at q1 ⊢;exact nx _ _ _ _ (kp.trans k1) rs1 rh1 q1
 |true=>
  rw [R3 rfl] at q1 ⊢;have kk:Kept H H1:=kp.trans k1;refine⟨λmE H2=>Kept H H2/\ ∃m',m'<m/\ ∃mH h2,RelS K H2 mH mE/\RelH K h2 H2/\W m' mH h2,λmE H2 ⟨k2,m',hm,a,b,c,d,e⟩=>⟨m',hm,k2,a,b,c,d,e⟩,?_⟩;exact⟨mF,h1,_,rs1,rh1,q1,λa b c d k4 rs4 rh4 ⟨m',h4,hm,sb,w4⟩=>⟨kk.trans k4,m',hm,a,h4,rs4,rh4.sub sb,w4⟩,jx rt kk,λa b c d k4 rs4 rh4 q4=>nx a b c d (kk.trans k4) rs4 rh4 q4,λa b c d k4 rs4 rh4 ⟨m',h4,hm,sb,w4⟩=>⟨kk.trans k4,m',hm,a,h4,rs4,rh4.sub sb,w4⟩⟩
section
variable {X:Cx}{pos:Pos}
theorem Qt {c:D8}{body:G0 C3}{tc:TTD}{tb:TSD}(hp:cL (R1 X.prog X.w) X.A X.env X.xe)(hc:JT X c tc)(hb:JSs X body tb):JS X (.While c body [] pos) (Us tc tb):=⟨(Xo hp hc.to hb.to).imp XJ⟩
end
theorem Yo {c:TTD}{tb:TSD}{E:EndsD}{σ:SD}{h:HD}(W:P0->SD->HD->Prop)(m:P0)(w0:W m σ h)
 (turn: ∀m mB h',W m mB h'->c mB h' λb h1=>if b=true then tb {E with nx:=λmE h2=> ∃m' h3,m'<m/\Sub h3 h2/\W m' mE h3,ct:=λmE h2=> ∃m' h3,m'<m/\Sub h3 h2/\W m' mE h3,bk:=E.nx} mB h1 else E.nx mB h1):Us c tb E σ h:=⟨W,⟨m,w0⟩,turn⟩
end L2
namespace L2
open PySem PySem.Spec PyProof.Rows
section
variable {prog:S2}{w:M6}{A:M5}{E:G2->G5->Prop}{s:G5}
theorem yc: ∀ {vs:G0 G2} {ns:G0 G8},Z2 vs ns-> ∀ {i:P0} {v:G2},vs[i]? =some v-> ∃t,v= .int (ns.getD i 0) t/\i<ns.length
 |_,_,.nil,_,_,hv=>by simp at hv
 |_,_,.cons _ t _,0,_,hv=>⟨t,by simpa using hv.symm,by simp⟩
 |_,_,.cons _ _ r,i+1,_,hv=>by
  obtain⟨t,e,lt⟩:=yc r (i:=i) (by simpa using hv);exact⟨t,by simpa using e,by simpa using lt⟩
theorem ZG {l:G6}{o:Obj}(here:l<s.heap.objs.size): ∀b∈ [s.heap.objs.size,l],b<(s.heap.push o).objs.size:=λb hb=>by
 rw [K0];simp only [R5,B2,or_false] at hb;rcases hb with e|e<;>subst e
 ·exact L1 _
 ·exact W1 here
theorem ZH {o:Obj}{h':N5}(k: ∀b u,b ∉ [s.heap.objs.size]->(s.heap.push o).get? b=some u->h'.get? b=some u): ∀b u,s.heap.get? b=some u->h'.get? b=some u:=λb u e=>
 k b u (λm=>absurd (P9 e) (by rw [P2.mp m];exact B8 _)) (G7 _ e)
end
section
variable {X:Cx}
theorem Ut (hc:X.calm=true):CallR X (.builtin "min") (λxs H Q=> ∃ (a:G6) (ns:G0 G8),xs= [.ref a]/\ns≠ []/\(SqL X.K H a (ns.map V.int)\/SqT X.K H a (ns.map V.int))/\ ∀m∈ns,(∀x∈ns,m<=x)->Q (.int m) H):=by
 intro pins s σ H xs us Q I r h;obtain⟨a,ns,rfl,hne,hS,q⟩:=h;obtain⟨u,rfl,ru⟩:=Jl r;cases ru;have fin: ∀ {its:G0 G2} (hi:Z2 its ns) (v:G2) (h':N5) (tk:P0),its.toArray[argBest (λi j=>decide (ns.getD i 0<ns.getD j 0)) (its.toArray.size-1)]? =some v->(∀b o,s.heap.get? b=some o->h'.get? b=some o)->EP X pins σ Q v {s with heap:=h',toks:=tk}:=λ{its} hi v h' tk hv kept=>by
  obtain⟨t,rfl,lt⟩:=yc hi (show its[_]? =some v by simpa using hv);refine⟨.int _,H,I.kept kept,⟨t,rfl⟩,q _ (getD_mem lt) λx hx=> ?_⟩;obtain⟨j,hj,rfl⟩:=mem_getD hx;exact(argBest_lt (λi=>ns.getD i 0) (its.toArray.size-1)).2 j (by rw [P1,hi.length];omega)
 refine call_min_walk ?_;rcases hS with hS|hS
 ·obtain⟨its,rv,pl,_⟩:=I.list hS;have hi:=ZA rv;obtain⟨o,e,r⟩:=id pl.isList;have W:=Walks.list (prog:=X.prog) (w:=X.w) (A:=X.A.in1) (I.ok.hd hc) s.heap.objs.size a (R7 (P9 e)) its.toArray;exact J6 pl.isList ⟨_,_,_,_,_,_,_,rfl,W,⟨⟨_,D4 _ rfl,rfl,rfl⟩,⟨o,G7 _ e,r⟩⟩,ZG (P9 e),by rw [P1,hi.length];exact cP.mpr hne,CmpOf.ints_lt (λi=>ns.getD i 0) (λi v hv=>(yc hi (by simpa using hv)).imp λ_ z=>z.1),λv h' tk hv k=>fin hi v h' tk hv (ZH k)⟩
 ·obtain⟨its,rv,pl,_⟩:=I.tuple hS;have hi:=ZA rv;obtain⟨o,e,r⟩:=id pl;have W:=Walks.tuple (prog:=X.prog) (w:=X.w) (A:=X.A.in1) (I.ok.hd hc) s.heap.objs.size a (R7 (P9 e)) its.toArray;exact c8 (show s.heap.IsTuple a its.toArray from pl) ⟨_,_,_,_,_,_,_,rfl,W,⟨⟨_,D4 _ rfl,rfl,rfl⟩,⟨o,G7 _ e,r⟩⟩,ZG (P9 e),by rw [P1,hi.length];exact cP.mpr hne,CmpOf.ints_lt (λi=>ns.getD i 0) (λi v hv=>(yc hi (by simpa using hv)).imp λ_ z=>z.1),λv h' tk hv k=>fin hi v h' tk hv (ZH k)⟩
def RN (B:G0 G8->G8->Prop):RDn:=λds h Q=> ∃ (ns:G0 G8) (h':HD),ns≠ []/\Sub h' h/\(ds= [.tup (ns.map D.int)]\/ ∃a,ds= [.lst a]/\h a=some (ns.map D.int))/\ ∀m∈ns,B ns m->Q (.int m) h'
abbrev Mu:RDn:=RN λns m=> ∀x∈ns,m<=x
theorem XL {B:G0 G8->G8->Prop}{f:G2}(c:CallR X f (λxs H Q=> ∃ (a:G6) (ns:G0 G8),xs= [.ref a]/\ns≠ []/\(SqL X.K H a (ns.map V.int)\/SqT X.K H a (ns.map V.int))/\ ∀m∈ns,B ns m->Q (.int m) H)):ww X f (RN B):=
 c.imp λxs H Q ⟨ds,h,Qd,r,rh,⟨ns,h',hne,hs,e,q⟩,p⟩=>by
  rcases e with e|⟨a,e,ha⟩
  ·subst e;obtain⟨v,e,r1⟩:=jy r;obtain⟨a,vs,e1,hH,r2⟩:=(show ∃a vs,v= .ref a/\H a=some (.tup vs)/\RelDs X.K H (ns.map D.int) vs from r1);rw [jP r2] at hH;subst e e1;exact⟨a,ns,rfl,hne,.inr (SqT.of hH),λm m1 m2=>p (.int m) _ _ _ (.refl H) (rh.sub hs) rfl (q m m1 m2)⟩
  ·subst e;obtain⟨v,e,r1⟩:=jy r;obtain⟨vs,hH,r2⟩:=rh a _ ha;have e1:v= .ref a:=r1.1;rw [jP r2] at hH;subst e e1;exact⟨a,ns,rfl,hne,.inl (SqL.of hH),λm m1 m2=>p (.int m) _ _ _ (.refl H) (rh.sub hs) rfl (q m m1 m2)⟩
theorem Uu (hc:X.calm=true):ww X (.builtin "min") Mu:=XL (Ut hc)
end
structure ShowOk (p:J1):Prop where
 sh:p.showable=true
 dp:p.depth<=60
 ln:p.shown.length<=sizeLine
mutual
theorem vY {h:HD}: ∀ {p:J1} {d:D},ToP h d p->p.hasDict=false
 | .none,_,_=>rfl
 | .bool _,_,_=>rfl
 | .int _,_,_=>rfl
 | .str _,_,_=>rfl
 | .tuple ps,d,t=>by
  obtain⟨ds,_,ts⟩:=(show ∃ds,d= .tup ds/\ToPs h ds ps from t);simpa only [gP] using noDict_ToPs ts
 | .list ps,d,t=>by
  obtain⟨a,ds,_,_,ts⟩:=(show ∃a ds,d= .lst a/\h a=some ds/\ToPs h ds ps from t);simpa only [gP] using noDict_ToPs ts
 | .dict _,_,t=>(show False from t).elim
theorem noDict_ToPs {h:HD}: ∀ {ps:G0 J1} {ds:G0 D},ToPs h ds ps->dR ps=false
 | [],_,_=>rfl
 |p::ps,ds,t=>by
  obtain⟨d,r,_,t1,t2⟩:=(show ∃d r,ds=d::r/\ToP h d p/\ToPs h r ps from t);simp only [dR,vY t1,noDict_ToPs t2,Bool.or_self]
end
def NA:RDn:=λds h Q=> ∃d p,ds= [d]/\ToP h d p/\ShowOk p/\Q (.str p.shown) h
theorem Yp {X:Cx}{k:P0}(hr:Room k X.A):ww X (.builtin "repr") NA:=by
 intro pins s σ H xs us Q I r h;obtain⟨ds,h,Qd,rs,rh,⟨d,p,e,t,so,q⟩,post⟩:=h;subst e;obtain⟨v,e,r1⟩:=jy rs;subst e;obtain⟨u,rfl,ru⟩:=Jl r;have fin: ∀t',EP X pins σ Q (.str p.shown t') {s with toks:=s.toks+1}:=λt'=>⟨.str p.shown,H,I.tok _,⟨_,rfl⟩,post (.str _) _ _ _ (.refl H) rh rfl q⟩
 have fin0: ∀t',EP X pins σ Q (.str p.shown t') s:=λt'=>⟨.str p.shown,H,I,⟨_,rfl⟩,post (.str _) _ _ _ (.refl H) rh rfl q⟩
 have big: ∀a,u= .ref a->D7 (R1 X.prog X.w) X.A (call (.builtin "repr") [.ref a]) (EP X pins σ Q) X.xe s:=λa e=>by
  obtain⟨as,rd⟩:=yu I rh t r1 ru;subst e;exact repr_of_reads' rd so.sh (PyData.noDict_hsm (vY t)) hr.gd (by have:=hr.units;have:=so.dp;omega) (λ_ _ e=>e)
   (λh' u' tk hk=>⟨.str p.shown,H,I.kept hk,⟨_,rfl⟩,post (.str _) _ _ _ (.refl H) rh rfl q⟩) so.ln
 cases p with
 |none=>
  cases (show d= .non from t);cases (show v= .non from r1);cases (show u= .none from ru);exact PySem.P.repr_of_none (fin _)
 |bool b=>
  cases (show d= .bl b from t);cases (show v= .bl b from r1);cases (show u= .bool b from ru);exact PySem.P.repr_of_bool (fin _)
 |int i=>
  cases (show d= .int i from t);cases (show v= .int i from r1);obtain⟨k,rfl⟩:=(show ∃t,u=Z4 i t from ru);exact PySem.P.repr_of_int (by simpa [bT] using so.sh) (fin _)
 |str x=>
  cases (show d= .str x from t);cases (show v= .str x from r1);obtain⟨k,rfl⟩:=(show ∃t,u=cK x t from ru);exact PySem.P.repr_of_str (fin _) so.ln
 |tuple ps=>
  obtain⟨ds,e,ts⟩:=(show ∃ds,d= .tup ds/\ToPs h ds ps from t);subst e;obtain⟨a,vs,e,hH,rs⟩:=(show ∃a vs,v= .ref a/\H a=some (.tup vs)/\RelDs X.K H ds vs from r1);subst e;cases (show u= .ref a from ru);exact big a rfl
 |list ps=>
  obtain⟨a,ds,e,ha,ts⟩:=(show ∃a ds,d= .lst a/\h a=some ds/\ToPs h ds ps from t);subst e;have e:v= .ref a:=r1.1;subst e;cases (show u= .ref a from ru);exact big a rfl
 |dict _=>exact(show False from t).elim
variable {e:P0}
theorem Uv {x:G8}(h0:0<=x)(h1:x<2^e)(he:e<=1919):x.natAbs.log2<1920:=by
 have h2:x.natAbs<2^e:=yb h0 h1
 by_cases z:x.natAbs=0
 ·rw [z];decide
 ·have h3:=j0 z |>.mpr (R4 h2 (X7 (by decide) (show e<=1920 by omega)));exact h3
theorem wz: ∀ {ps:G0 J1},(∀p∈ps,p.showable=true)->c9 ps=true
 | [],_=>rfl
 |p::ps,h=>by
  simp only [c9,h p P6,wz λx hx=>h x (D2 _ hx),Bool.and_self]
theorem wa: ∀ps:G0 J1,bU ps=ps.map bL
 | []=>rfl
 |p::ps=>by simp only [bU,R0,wa ps]
theorem vw {k:P0}: ∀ {ps:G0 J1},(∀p∈ps,p.depth<=k)->M1 ps<=k
 | [],_=>by simp [M1]
 |p::ps,h=>by
  simp only [M1];have:=h p P6;have:=vw λx hx=>h x (D2 _ hx)
  omega
theorem Qu {b:P0}: ∀ {l:G0 P0},(∀x∈l,x<=b)->l.sum<=b*l.length
 | [],_=>by simp
 |x::l,h=>by
  have h1:=h x P6;have h2:=Qu λy hy=>h y (D2 _ hy)
  simp only [hO,S3,Nat.mul_succ];omega
structure ShowB (p:J1)(k b:P0):Prop where
 sh:p.showable=true
 dp:p.depth<=k
 ln:p.shown.length<=b
theorem ShowB.ok {p:J1}{k b:P0}(h:ShowB p k b)(hk:k<=60)(hb:b<=16777216):ShowOk p:=⟨h.sh,T8 h.dp hk,T8 h.ln hb⟩
theorem Uw {x:G8}(h0:0<=x)(h1:x<2^e)(he:e<=1919):ShowB (.int x) 0 (e+2):=by
 refine⟨by simpa [bT] using Uv h0 h1 he,by simp [N0],?_⟩;show (V5 (toString x)).length<=e+2;rw [PySem.ofString_length];have h2:x.natAbs<2^e:=yb h0 h1;refine int_text_length_le (by omega) ?_
 by_cases z:x.natAbs=0
 ·rw [z];exact Nat.succ_pos _
 ·exact(j0 z).mpr (R4 h2 (X7 (by decide) (by omega)))
theorem ShowB.tup {ps:G0 J1}{k b:P0}(h: ∀p∈ps,ShowB p k b):ShowB (.tuple ps) (k+1) ((b+2)*ps.length+3):=by
 refine⟨?_,?_,?_⟩
 ·simpa only [bT] using wz λp hp=>(h p hp).sh
 ·simp only [N0];have:=vw λp hp=>(h p hp).dp;omega
 ·simp only [bL];have h1:=tupleText_len_le (bU ps);rw [wa,G3,S7] at h1;have h2:((ps.map ((λx=>x.length)∘bL))).sum<=b*ps.length:=by
   have:=Qu (b:=b) (l:=ps.map ((λx:Str=>x.length)∘bL)) (λx hx=>by obtain⟨p,hp,e⟩:=T5.mp hx;rw [<-e];exact(h p hp).ln);rw [G3] at this;exact this
  rw [wa,Nat.add_mul];omega
variable {r:G0 G8}
theorem Ux (h0: ∀x∈r,0<=x)(h1: ∀x∈r,x<2^e)(he:e<=1919):ShowB (.tuple (r.map .int)) 1 ((e+4)*r.length+3):=by
 have:=ShowB.tup (ps:=r.map X2) (k:=0) (b:=e+2) λp hp=>by obtain⟨x,hx,e⟩:=T5.mp hp;rw [<-e];exact Uw (h0 x hx) (h1 x hx) he
 rw [G3] at this;exact this
def Qw:RDn:=λds h Q=> ∃x y p,ds= [x,y]/\ToP h x p/\ToP h y p/\ShowOk p/\Q (.bl true) h
theorem Pg {h:HD}{Q:KD}(hne:r≠ [])(q: ∀m∈r,(∀x∈r,m<=x)->Q (.int m) h):Mu [zw r] h Q:=⟨r,h,hne,Sub.refl h,.inl rfl,q⟩
def yK (r:G0 G8):G8:=(r.min?).getD 0
theorem Uy {m:G8}(h:m∈r)(l: ∀x∈r,m<=x):m=yK r:=by
 unfold yK;rw [bY.mpr ⟨h,l⟩];rfl
theorem vZ (h:r≠ []):yK r∈r/\ ∀x∈r,yK r<=x:=by
 cases e:r.min? with
 |none=>exact absurd (List.min?_eq_none_iff.mp e) h
 |some m=>
  have:=bY.mp e;unfold yK;rw [e];exact this
theorem Jz {n:P0}{T:G0 (G0 G8)}(h:Sq n e T)(ne: ∀r∈T,r≠ []){m:G8}(m1:m∈T.map yK)(m2: ∀x∈T.map yK,m<=x):decide (m>0)=zc T:=by
 rw [O2,L9];unfold zc;simp only [C1,L9];constructor
 ·intro hm r hr x hx;have a:=m2 _ (T5.mpr ⟨r,hr,rfl⟩);have b:=(vZ (ne r hr)).2 x hx;omega
 ·intro z;obtain⟨r,hr,rfl⟩:=T5.mp m1;have a:=(vZ (ne r hr)).1;have b:=z r hr _ a;have c:=h.nn r hr _ a;omega
section
variable {α β:Type}{i i':P0}{js:G0 P0}{ti ti':TID}{te:TED}{σ:SD}{h:HD}{Q:KD}{j:ItD}
theorem Ce (xs:G0 α)(c:α->D)(g:α->G8)(hz:xs.length<=1000)(hj:j h=some (xs.map c))(ht: ∀R:ItD->HD->Prop,R j h->ti σ h R)
 (he: ∀x∈xs,∀Q':KD,Q' (.int (g x)) h->te ((jG js σ).set i (some (c x))) h Q')(hne:xs≠ [])(hq: ∀m∈xs.map g,(∀x∈xs.map g,m<=x)->Q (.int m) h):dCB Mu (jI (yJ (bN i) js ti yr te) wX) σ h Q:=by
 show yJ (bN i) js ti yr te σ h (λx h1=>Mu [x] h1 Q);exact lcA xs c (λx=> .int (g x)) hz hj ht he λp hp=>⟨xs.map g,h,λz=>hne (List.map_eq_nil_iff.mp z),Sub.newAt (Sub.refl h) hp,.inr ⟨p,rfl,by rw [ja,S7];rfl⟩,hq⟩
end
end L2
namespace L2
open PySem PySem.Spec PyProof.Rows PySem.SeqAt
section
variable {α:Type}{i i':P0}{js:G0 P0}{ti:TID}{te:TED}{σ:SD}{h:HD}{Q:KD}{j:ItD}
theorem Bn (xs:G0 α)(c c' g:α->D)(hz:xs.length<=1000)(hj:j h=some (xs.map λx=> .tup [c x,c' x]))(ht: ∀R:ItD->HD->Prop,R j h->ti σ h R)
 (he: ∀x∈xs,∀Q':KD,Q' (g x) h->te (((jG js σ).set i (some (c x))).set i' (some (c' x))) h Q')(hq: ∀p,h p=none->Q (.lst p) (zi h p (xs.map g))):yJ (b2 i i') js ti yr te σ h Q:=by
 refine ht _ ⟨xs.length,λk ys h'=>h'=h/\ys=(xs.take k).map g,⟨rfl,by simp⟩,?_⟩;rintro k ys h' ⟨rfl,rfl⟩;refine⟨by simp only [G3,B0];exact N1 (jH (by omega)),_,hj,by simp,λhl p hp=> ?_,λd hd=> ?_⟩
 ·rw [M2 (by simpa using hl)];exact hq p hp
 ·rw [P7] at hd;cases hx:xs[k]? with
  |none=>rw [hx] at hd;cases hd
  |some x=>
   rw [hx] at hd;cases hd;refine⟨_,⟨_,_,rfl,rfl⟩,?_⟩;unfold yr;dsimp only;rw [R3 rfl];refine he x (S0 hx) _ ⟨h',Sub.refl _,rfl,?_⟩;rw [N4,hx];simp
end
theorem ZI {α:Type}[DecidableEq α]: ∀ {l m:G0 α},l.Nodup->(∀x∈l,x∈m)->l.length<=m.length
 | [],_,_,_=>O6 _
 |a::l,m,nd,h=>by
  have hm:=h a P6;have h2:l.length<=(m.erase a).length:=ZI (A2.mp nd).2 λx hx=>by
   have hxa:x≠a:=λe=>(A2.mp nd).1 (e ▸ hx)
   exact(List.mem_erase_of_ne hxa).mpr (h x (D2 _ hx))
  rw [List.length_erase_of_mem hm] at h2;have:=List.length_pos_of_mem hm;simp only [S3];omega
def Wy (S:G0 P0):J1:=yn (ZD S)
theorem vx (h:HD)(S:G0 P0):ToP h (za S) (Wy S):=by rw [Pe];exact⟨_,rfl,vt h _⟩
theorem ZJ (h:HD): ∀Ss:G0 (G0 P0),ToPs h (Ss.map za) (Ss.map Wy)
 | []=>rfl
 |S::Ss=>⟨_,_,rfl,vx h S,ZJ h Ss⟩
theorem YO (r:G0 G8):(yn r).canLay0=true:=by unfold yn;simp only [M9];exact wL r
theorem ZK (r:G0 G8):(yn r).depth<=2:=by unfold yn;simp only [N0];have:=yw r;omega
theorem Ja: ∀a b:G0 G8,F0 (a.map X2) (b.map X2)=decide (a=b)
 | [],[]=>by simp [F0]
 | [],_::_=>by simp [F0]
 |_::_,[]=>by simp [F0]
 |x::a,y::b=>by
  show ((x==y)&&F0 (a.map .int) (b.map .int))=_;rw [Ja a b,O2];simp
theorem Uz (a b:G0 G8):U6 (yn a) (yn b)=decide (a=b):=Ja a b
theorem UA {a b:G0 P0}(h:ZD a=ZD b):a=b:=by
 have:=congrArg (List.map lN) h;unfold ZD at this;simpa [S7,J9] using this
theorem Ph (a b:G0 P0):U6 (Wy a) (Wy b)=decide (a=b):=by
 unfold Wy;rw [Uz,O2,L9,L9];exact⟨UA,λe=>by rw [e]⟩
theorem Pi {α:Type}(xs:G0 α):Wt xs (some 1) none=xs.drop 1:=by
 unfold Wt;cases xs with
 |nil=>simp
 |cons x xs=>simp [HT.sIx]
structure Enc {α:Type}[DecidableEq α](e:α->D)(p:α->J1):Prop where
 to: ∀ (h:HD) a,ToP h (e a) (p a)
 lay: ∀a,(p a).canLay0=true
 dp: ∀a,(p a).depth<=60
 eq: ∀a b,U6 (p a) (p b)=decide (a=b)
section
variable {α:Type}[DecidableEq α]{e:α->D}{p:α->J1}
theorem Enc.tos (E:Enc e p)(h:HD): ∀as:G0 α,ToPs h (as.map e) (as.map p)
 | []=>rfl
 |a::as=>⟨_,_,rfl,E.to h a,E.tos h as⟩
theorem Enc.lays (E:Enc e p): ∀as:G0 α,W5 (as.map p)=true
 | []=>rfl
 |a::as=>by show (M9 (p a)&&_)=true;rw [E.lays as,E.lay a];rfl
end
theorem zp: ∀a b:G0 (G0 G8),F0 (a.map yn) (b.map yn)=decide (a=b)
 | [],[]=>by simp [F0]
 | [],_::_=>by simp [F0]
 |_::_,[]=>by simp [F0]
 |x::a,y::b=>by
  show (U6 (yn x) (yn y)&&F0 (a.map yn) (b.map yn))=_;rw [zp a b,Uz,O2];simp
theorem encT:Enc jp Xj:=⟨Pf,λT=>by unfold Xj;simp only [M9];exact wM T,λT=>by unfold Xj;simp only [N0];have:=wu T;omega,zp⟩
def mk1 (n:P0)(T:G0 (G0 G8))(M:G0 (G0 G8)):G0 (G0 G8):=ZC n (Xh n M T)
def RP (n:P0)(T:G0 (G0 G8))(k i j:P0):Prop:=ent (Nz n T k) i j≠0
structure Grid (n:P0)(h0 h:HD)(p R:G6)(rs:G0 G6):Prop where
 at_:h R=some (rs.map D.lst)
 len:rs.length=n
 nR:R ∉ rs
 fR:h0 R=none
 np:p ∉ rs
 nRp:R≠p
 row: ∀a∈rs,h0 a=none/\ ∃r,h a=some (r.map D.int)/\zA n r
section
variable {n:P0}{h0 h:HD}{p R:G6}{rs:G0 G6}
theorem Grid.pen (g:Grid n h0 h p R rs)(ds:G0 D):Grid n h0 (zi h p ds) p R rs:=
 ⟨jd g.nRp g.at_,g.len,g.nR,g.fR,g.np,g.nRp,λa ha=>⟨(g.row a ha).1,let ⟨r,e,gr⟩:=(g.row a ha).2;⟨r,jd (λz=>g.np (z ▸ ha)) e,gr⟩⟩⟩
theorem Grid.new (g:Grid n h0 h p R rs){q:G6}(f:h q=none)(ds:G0 D):Grid n h0 (zi h q ds) p R rs:=
 ⟨jb g.at_ f,g.len,g.nR,g.fR,g.np,g.nRp,λa ha=>⟨(g.row a ha).1,let ⟨r,e,gr⟩:=(g.row a ha).2;⟨r,jb e f,gr⟩⟩⟩
theorem Grid.pick (g:Grid n h0 h p R rs){i:P0}(hi:i<n): ∃a r,atI (rs.map D.lst) (i:G8)=some (.lst a)/\a∈rs/\h a=some (r.map D.int)/\zA n r/\h0 a=none/\a≠p:=by
 have hi':i<rs.length:=by rw [g.len];exact hi
 have hm:=S9 hi';obtain⟨f,r,e,gr⟩:=g.row _ hm;exact⟨rs[i],r,zn (by rw [P7,G4 hi'];rfl),hm,e,gr,f,λz=>g.np (z ▸ hm)⟩
theorem Grid.set (g:Grid n h0 h p R rs){a:G6}{r:G0 G8}(ha:a∈rs)(e:h a=some (r.map D.int))(gr:zA n r){j:P0}{v:G8}(v0:0<=v)(v1:v<=1000000):Grid n h0 (zi h a ((r.map D.int).set j (.int v))) p R rs:=by
 refine⟨jd (λz=>g.nR (z ▸ ha)) g.at_,g.len,g.nR,g.fR,g.np,g.nRp,λb hb=>⟨(g.row b hb).1,?_⟩⟩
 by_cases z:b=a
 ·subst z;refine⟨r.set j v,by rw [ja,List.map_set],by rw [fK];exact gr.1,λx hx=> ?_⟩;rcases List.mem_or_eq_of_mem_set hx with y|y
  ·exact gr.2 x y
  ·subst y;exact⟨v0,v1⟩
 ·obtain⟨r',e',gr'⟩:=(g.row b hb).2;exact⟨r',jd z e',gr'⟩
theorem Grid.tab (g:Grid n h0 h p R rs): ∃T,GoodTab n T/\(rs.map λa=>D.tup ((h a).getD []))=T.map zw:=by
 have key: ∀l:G0 G6,(∀a∈l,∃r,h a=some (r.map D.int)/\zA n r)-> ∃T:G0 (G0 G8),T.length=l.length/\(∀r∈T,zA n r)/\(l.map λa=>D.tup ((h a).getD []))=T.map zw:=by
  intro l
  induction l with
  |nil=>intro _;exact⟨[],rfl,by simp,rfl⟩
  |cons a l ih=>
   intro hl;obtain⟨T,a1,a2,a3⟩:=ih λb hb=>hl b (D2 _ hb)
   obtain⟨r,e,gr⟩:=hl a P6;refine⟨r::T,by simp [a1],λx hx=> ?_,?_⟩
   ·rcases R5.mp hx with z|z
    ·subst z;exact gr
    ·exact a2 x z
   ·rw [R0,R0,a3,e];rfl
 obtain⟨T,a1,a2,a3⟩:=key rs λa ha=>(g.row a ha).2
 exact⟨T,⟨by rw [a1,g.len],a2⟩,a3⟩
end
variable {n:P0}
theorem Wz {o:G0 P0}(ho:Ordr n o){i:P0}(hi:i<n): ∃k,k<n/\atI (o.map λ(k:P0)=>D.int (k:G8)) (i:G8)=some (.int (k:G8)):=by
 have hi':i<o.length:=by rw [ho.ord.len];exact hi
 refine⟨o[i],S8.mp (ho.mem_iff.mp (S9 hi')),zn (by rw [P7,G4 hi'];rfl)⟩
theorem XM {o:G0 P0}(ho:Ordr n o)(hn:1<=n): ∃k,k<n/\atI (o.map λ(k:P0)=>D.int (k:G8)) (-1)=some (.int (k:G8)):=by
 have hl:=ho.ord.len;have hi':n-1<o.length:=by omega
 refine⟨o[n-1],S8.mp (ho.mem_iff.mp (S9 hi')),?_⟩;unfold atI ixN;rw [G3,hl,S4 (by decide),R3 (by omega)];show (o.map λ(k:P0)=>D.int (k:G8))[(-1+(n:G8)).toNat]? =_;rw [show (-1+(n:G8)).toNat=n-1 by omega,P7,G4 hi'];rfl
theorem UB {i:P0}(h:i<n):ixN n (i:G8)=some i:=by
 unfold ixN;simp;omega
theorem YQ {prog:S2}{w:M6}{A:M5}(hh:A.handled=none)(it t:G6)(items:B3 G2)(n:P0)(hn:items.size<=n):
 Draws prog w A it [it,t] n (λ_ _=>False) (λi h=>i=n/\h.IsListIter it t n/\h.IsList t items) where
 live:=λ_ _ st=>let ⟨o,ho,_⟩:=st.2.1;⟨o,ho⟩
 frame:=λ_ _ _ st hk=>⟨st.1,st.2.1.at λo e=>hk it (by simp) o e,st.2.2.at λo e=>hk t (by simp) o e⟩
 item:=λi s Q E hi st hQ=>absurd st.1 (R7 hi)
 done:=λs Q E st hE=>wpAny_nextOf_list_end hh st.2.1 st.2.2 (Array.getElem?_eq_none hn) hE
def NB (K:G1)(a:G6):It:=
 ⟨λi H=> ∃xs x,SqL K H a xs/\xs[i]? =some x,λi H x H'=> ∃p v,H p=none/\(∀xs,SqL K H a xs->xs[i]? =some v)/\x= .ref p/\H'=upd H p (.tup [.int i,v]),λi H=> ∃xs,SqL K H a xs/\xs.length<=i⟩
theorem YR {P:S2}{w:M6}{K:G1}{es:G0 D8}{k:P0}{pos:Pos}(a it e:G6)(hei:e≠it)(hae:a≠e)(hai:a≠it):Turn P w K (.Tuple es k pos) (NB K a) [e,it] e (λi h=>(∃old,IsEnum h e it i old)/\h.IsListIter it a i) where
 mem:=by simp
 obj:=λi h st b hb=>by
  rcases R5.mp hb with z|z
  ·subst z;obtain⟨old,q⟩:=st.1;exact⟨_,q,λv z=>by cases z⟩
  ·have z:=P2.mp z;subst z;obtain⟨o,q,c,d⟩:=st.2;exact⟨o,q,λv z=>by rw [d] at z;cases z⟩
 keep:=λi h h' st k=>⟨let ⟨old,q⟩:=st.1;⟨old,k e (by simp) _ q⟩,st.2.at λo q=>k it (by simp) o q⟩
 item:=by
  intro X hP hw hK hc i pins s σ H E I hf st hg;subst hP hw hK;obtain⟨xs,x,hq,hx⟩:=hg;obtain⟨its,rv,p,hz⟩:=I.list hq;obtain⟨u,hu,ru⟩:=rv.get hx;have hi:i<its.toArray.size:=by have:=(D1.mp hu).1;simpa using this
  obtain⟨old,he⟩:=st.1;have helt:e<s.heap.objs.size:=P9 he;refine wpAny_pyNext_enum_itemD (Draws.list (prog:=X.prog) (w:=X.w) (A:=X.A.in1) (I.ok.hd hc) it a hai its.toArray) he ⟨st.2,p.isList⟩ hi hei (by simp [hei,C6 hae]) λx' h' tk hx' ho hs' hT hsz hk=> ?_
  have ex:x'=u:=M0 (hx'.symm.trans (show its.toArray[i]? =some u by simpa using hu));subst ex;refine⟨_,rfl,wpAny_letOwnedTupleGo_enum ho λh2 he2 hs2=> ?_⟩;have hn:H s.heap.objs.size=none:=I.hok.fresh (D0 _);have hT2:h2.get? s.heap.objs.size=some {cls:= .type "tuple",data:= .seq #[.int i tk,x']}:=(hs2.2 _ (O4 helt)).trans hT;refine⟨.ref s.heap.objs.size,upd H s.heap.objs.size (.tup [.int i,x]),?_,rfl,⟨_,x,hn,λys hy=>by rw [I.list_inj hy hq];exact hx,rfl,rfl⟩,⟨⟨x',by simpa using he2⟩,hs'.1.at λo y=>(hs2.2 it (C6 hei)).trans y⟩,λb hb=> ?_⟩
  ·refine I.turnLaid (h':=h2) (t':=tk+1) (ch:= [e,it]) (λb u hb q=> ?_) hf (D0 _) ⟨by show 2<=sizeLine;decide,[.int i tk,x'],.cons ⟨tk,rfl⟩ (.cons ru .nil),⟨_,hT2,rfl,rfl,_,rfl⟩⟩;have b1:b≠e:=λz=>hb (by simp [z])
   have b2:b≠it:=λz=>hb (by simp [z])
   exact(hs2.2 b b1).trans (hk b u b1 b2 q)
  ·have f:=(hf b hb).1;have:b≠s.heap.objs.size:=λz=>by
    rcases R5.mp hb with w|w
    ·rw [<-w,z] at helt;exact absurd helt (B8 _)
    ·have w:=P2.mp w;obtain⟨o,ho',_⟩:=st.2;have:=P9 ho';rw [<-w,z] at this;exact absurd this (B8 _)
   rw [jg this];exact f
 done:=by
  intro X hP hw hK hc i pins s σ H E I hf st hg;subst hP hw hK;obtain⟨xs,hq,hx⟩:=hg;obtain⟨its,rv,p,hz⟩:=I.list hq;obtain⟨old,he⟩:=st.1;have hl:=rv.length;refine wpAny_pyNext_enum_endD (YQ (prog:=X.prog) (w:=X.w) (A:=X.A.in1) (I.ok.hd hc) it a its.toArray i (by simp;omega)) he ⟨rfl,st.2,p.isList⟩ λh' hx'=>⟨rfl,I.turnL (t':=s.toks) (ch:= [it]) (λb o hb q=>hx' b o (λz=>hb (by simp [z])) q) λb hb=>hf b (D2 _ hb)⟩
 self:=λ_ _ _ _ _ st h=>let ⟨_,q⟩:=st.1;dS q h
section
variable {X:Cx}
def RO (K:G1)(ta:TA):TI:=λσ H R=>ta σ H λvs H1=> ∃a,vs= [.ref a]/\(∃xs,SqL K H1 a xs)/\R (NB K a) H1
theorem XN {es:G0 D8}{k:P0}{tp:Pos}{a:D8}{ta:TA}{p pos:Pos}(hg:Gl X "enumerate")(hm:X.mg "enumerate" =none)(ha:PA X [a] ta)(hs:P8 [a] X.env= [(false,B6 a X.env)]:=by rfl):
 PI X (.Tuple es k tp) (.Call (.Name "enumerate" p) [a] [] pos) (RO X.K ta):=by
 intro pins s σ H R I h;refine Call_ (Zj I hg hm (show C5 "enumerate" =some (.type "enumerate") by decide +kernel) (J7 (thn (ha pos pins s σ H _ I h) λus s1 ⟨vs,H1,I1,r1,q1⟩=> ?_) hs rfl));obtain⟨a,e,⟨xs,hq⟩,q⟩:=q1;subst e;cases r1 with
 |cons r rr=>
  cases rr;cases r;obtain⟨its,rv,p,hz⟩:=I1.list hq;have hlt:a<s1.heap.objs.size:=by obtain⟨o,ho,_⟩:=p.isList;exact P9 ho
  refine call_enumerate_list p.isList λh' he hit _ hk=> ?_
  refine dS he ?_;refine⟨s1.heap.objs.size+1,[s1.heap.objs.size+1,s1.heap.objs.size],_,_,H1,rfl,I1.kept (t':=s1.toks) hk,YR a s1.heap.objs.size (s1.heap.objs.size+1) (O4 (L1 _)) (R7 (W1 hlt)) (R7 hlt),⟨⟨_,he⟩,hit⟩,λb hb=> ?_,q⟩;have hb':s1.heap.objs.size<=b:=by
   rcases R5.mp hb with w|w
   ·rw [w];exact j5 _
   ·rw [P2.mp w];exact D0 _
  exact I1.fpOk hb' (I1.hok.fresh hb')
end
def iEL (ta:TAD):TID:=λσ h R=>ta σ h λxs h1=> ∃a,xs= [.lst a]/\R (λh=>(h a).map ZF) h1
section
variable {K:G1}
theorem YS (H:Hp)(a:G6):GD K H (λh=>(h a).map ZF) (NB K a):=λH' h' k rh ds' e i=>by
 have e:(h' a).map ZF=some ds':=e;cases hd:h' a with
 |none=>rw [hd] at e;cases e
 |some ds=>
  rw [hd] at e;cases e;obtain⟨vs,hv',r'⟩:=rh a ds hd;refine⟨λd hd=> ?_,λhl=>⟨vs,SqL.of hv',by rw [<-r'.length,<-wN];exact hl⟩⟩;obtain⟨x,hx,ed⟩:=Jy hd;subst ed;obtain⟨v,e1,e2⟩:=r'.get hx;refine⟨⟨vs,v,SqL.of hv',e1⟩,λx' H'' ⟨p,v',hp,hx',ex,eH⟩=> ?_⟩;subst ex eH;have ev:v'=v:=by have:=hx' vs (SqL.of hv');rw [e1] at this;exact(M0 this).symm
  subst ev;have k2:Kept H' (upd H' p (.tup [.int i,v'])):= .new hp;exact⟨k2,RelH.new rh hp,p,[.int i,v'],rfl,jl,_,_,rfl,rfl,_,_,rfl,e2.mono k2,rfl⟩
theorem XO {ta:TAD}: ∀σ H R,LI K (iEL ta) σ H R->RO K (LA K ta) σ H R:=λσ H R ⟨mC,h,Rd,rs,rh,q,p⟩=>
 LA.bind rs rh q λds vs h1 H1 k1 rs1 rh1 r1 ⟨a,e,q1⟩=>by
  subst e;obtain⟨v,e,r2⟩:=jy r1;obtain⟨e',ws,hv⟩:=(show v= .ref a/\ ∃vs,H1 a=some (.lst vs) from r2);subst e';exact⟨a,e,⟨ws,SqL.of hv⟩,p _ _ _ _ k1 rh1 (YS H1 a) q1⟩
end
section
variable {X:Cx}
theorem JB {es:G0 D8}{k:P0}{tp:Pos}{a:D8}{ta:TAD}{p pos:Pos}(hg:Gl X "enumerate")(hm:X.mg "enumerate" =none)(ha:JA X [a] ta)(hs:P8 [a] X.env= [(false,B6 a X.env)]:=by rfl):
 JI X (.Tuple es k tp) (.Call (.Name "enumerate" p) [a] [] pos) (iEL ta):=⟨(XN hg hm ha.to hs).imp XO⟩
end
def Yq (n:P0)(Ts:G0 (G0 (G0 G8)))(M:G0 (G0 G8))(W:G0 P0):G0 (G0 G8):=W.foldl (λM i=>mk1 n (Ts.getD i []) M) M
structure TabsOk (n:P0)(Ts:G0 (G0 (G0 G8))):Prop where
 n1:1<=n
 n3:n<=3
 l1:1<=Ts.length
 l3:Ts.length<=3
 sq: ∀T∈Ts,Sq n 20 T
theorem TabsOk.get {Ts:G0 (G0 (G0 G8))}(h:TabsOk n Ts){i:P0}(hi:i<Ts.length):Sq n 20 (Ts.getD i []):=by
 rw [D6,G4 hi];exact h.sq _ (S9 hi)
theorem WA {Ts:G0 (G0 (G0 G8))}(h:TabsOk n Ts){i:P0}(hi:i<Ts.length):atI (Ts.map jp) ((i:P0):G8)=some (jp (Ts.getD i [])):=
 zn (by rw [P7,D6,G4 hi];rfl)
section
variable {n:P0}{Ts:G0 (G0 (G0 G8))}
theorem Qx (M:G0 (G0 G8))(hM:Sq n 1 M): ∀W:G0 P0,Sq n 1 (Yq n Ts M W):=λW=>by
 induction W generalizing M with
 |nil=>exact hM
 |cons i W ih=>exact ih _ (Sq.mark _)
theorem Pj (M:G0 (G0 G8))(V W:G0 P0):Yq n Ts M (V++W)=Yq n Ts (Yq n Ts M V) W:=W7
end
theorem Jb: ∀Ts:G0 (G0 (G0 G8)),M1 (Ts.map Xj)<=5
 | []=>by simp [M1]
 |T::Ts=>by
  have:=Jb Ts;have h2:=wu T;simp only [R0,M1,N0,Xj];omega
theorem WB (Ts:G0 (G0 (G0 G8))):shaped (.list (Ts.map Xj))=true:=by
 unfold shaped;have h1:M9 (.list (Ts.map Xj))=true:=by simp only [M9];exact encT.lays Ts
 have h2:=Jb Ts;have h3:N0 (.list (Ts.map Xj))<=64:=by simp only [N0];omega
 rw [h1,N3 h3];rfl
end L2
set_option maxRecDepth 35000
namespace L2
open PySem PySem.Spec PyProof.Rows PySem.SeqAt
section
variable {α:Type}{i i':P0}{js:G0 P0}{ti:TID}{te:TED}{σ:SD}{h:HD}{Q:KD}{j:ItD}
theorem Cf (xs:G0 α)(c c' g:α->D)(p:α->B4){tt:TTD}(hz:xs.length<=1000)(hj:j h=some (xs.map λx=> .tup [c x,c' x]))(ht: ∀R:ItD->HD->Prop,R j h->ti σ h R)
 (hp: ∀x∈xs,∀Q':B4->HD->Prop,Q' (p x) h->tt (((jG js σ).set i (some (c x))).set i' (some (c' x))) h Q')(he: ∀x∈xs,p x=true-> ∀Q':KD,Q' (g x) h->te (((jG js σ).set i (some (c x))).set i' (some (c' x))) h Q')(hq: ∀a,h a=none->Q (.lst a) (zi h a ((xs.filter p).map g))):yJ (b2 i i') js ti tt te σ h Q:=by
 refine ht _ ⟨xs.length,λk ys h'=>h'=h/\ys=((xs.take k).filter p).map g,⟨rfl,by simp⟩,?_⟩;rintro k ys h' ⟨rfl,rfl⟩;refine⟨?_,_,hj,by simp,λhl a ha=> ?_,λd hd=> ?_⟩
 ·have:=List.length_filter_le p (xs.take k);simp only [G3,B0] at this ⊢;exact N1 (jH (by omega))
 ·rw [M2 (by simpa using hl)];exact hq a ha
 ·rw [P7] at hd;cases hx:xs[k]? with
  |none=>rw [hx] at hd;cases hd
  |some x=>
   rw [hx] at hd;cases hd;refine⟨_,⟨_,_,rfl,rfl⟩,?_⟩;refine hp x (S0 hx) _ ?_;cases hb:p x with
   |true=>
    rw [R3 rfl];refine he x (S0 hx) hb _ ⟨_,Sub.refl _,rfl,?_⟩;rw [N4,hx];simp [hb]
   |false=>
    rw [S4 (by decide)];refine⟨_,Sub.refl _,rfl,?_⟩;rw [N4,hx];simp [hb]
end
def NC (T:G0 (G0 G8))(n p:P0):G0 P0:=(D3 n).filter λj=>decide (ent T p j>0)
def cnt (T:G0 (G0 G8))(n o:P0):P0->P0->G8
 |0,p=>if p=o then 1 else 0
 |t+1,p=>((NC T n p).map (cnt T n o t)).sum
section
variable {T:G0 (G0 G8)}{n o:P0}
def Cg (T:G0 (G0 G8))(n o t p:P0):P0:=(NC T n p).findIdx λj=>decide (cnt T n o t j>0)
def nxt (T:G0 (G0 G8))(n o t p:P0):P0:=(NC T n p).getD (Cg T n o t p) 0
end
end L2
namespace L2
open PySem PySem.Spec PyProof.Rows PySem.W
abbrev TXD:=SD->HD->(Str->HD->Prop)->Prop
abbrev RDx:=G0 D->HD->(Str->HD->Prop)->Prop
end L2
namespace L2
open PySem PySem.Spec PyProof.Rows PySem.SeqAt
section
variable {n e:P0}{T:G0 (G0 G8)}
instance (k i j:P0):Decidable (RP n T k i j):=inferInstanceAs (Decidable (ent (Nz n T k) i j≠0))
end
end L2
namespace L2
open PySem PySem.Spec PyProof.Rows
def TrV (K:G1)(H:Hp):V->B4->Prop
 | .bl b,c=>c=b
 | .int i,c=>c=(i !=0)
 | .non,c=>c=false
 | .ref a,c=> ∃xs,SqL K H a xs/\c= !xs.isEmpty
 |_,_=>False
def TrD (h:HD):D->B4->Prop
 | .bl b,c=>c=b
 | .int i,c=>c=(i !=0)
 | .non,c=>c=false
 | .lst a,c=> ∃ds,h a=some ds/\c= !ds.isEmpty
 |_,_=>False
theorem TrD.to {K:G1}{H:Hp}{h:HD}{d:D}{v:V}{c:B4}(t:TrD h d c)(r:RelD K H d v)(rh:RelH K h H):TrV K H v c:=by
 cases d<;>try exact t.elim
 ·have e:v= .non:=r;subst e;exact t
 ·have e:v= .bl _:=r;subst e;exact t
 ·have e:v= .int _:=r;subst e;exact t
 ·obtain⟨e,_⟩:=r;subst e;obtain⟨ds,hd,e⟩:=t;obtain⟨vs,hv,r'⟩:=rh _ ds hd;refine⟨vs,SqL.of hv,?_⟩;rw [e];have:=r'.length;cases ds<;>cases vs<;>first|rfl|(simp at this)
section
variable {X:Cx}{pins:G0 (G6×Obj)}{σ:St}{H:Hp}{s:G5}{E:G2->G5->Prop}
theorem Inv.trv {v:V}{u:G2}{c:B4}{Q:B4->G5->Prop}(I:Inv X pins σ H s)(r:RelV v u)(t:TrV X.K H v c)(q: ∀s',Inv X pins σ H s'->Q c s'):D7 (R1 X.prog X.w) X.A (gA u) Q E s:=by
 cases v<;>try exact t.elim
 ·have e:u=cX:=r;subst e;have e:c=false:=t;subst e;exact truthy_none (q _ I)
 ·have e:u=cY _:=r;subst e;have e:c=_:=t;subst e;exact C4 (q _ I)
 ·obtain⟨t',e⟩:=r;subst e;have e:c=_:=t;subst e;exact truthy_int (q _ I)
 ·have e:u=L6 _:=r;subst e;obtain⟨xs,hx,e⟩:=t;obtain⟨its,rv,p,hz⟩:=I.list hx;have hl:=rv.length;have e2:c= !its.toArray.isEmpty:=by
   rw [e];cases xs<;>cases its<;>first|rfl|(simp at hl)
  refine wpAny_truthy_list p.isList ?_ ?_
  ·have:xs.length<=16777216:=T8 hz (by decide);simp only [P1];have e3:((2:G8)^63)=9223372036854775808:=by decide
   rw [e3];omega
  ·rw [<-e2];exact q _ (I.tok _)
end
section
variable {X:Cx}{a b:D8}{zF:G0 D8}{pos:Pos}
def Bo (K:G1)(t:TE):TT:=λσ H Q=>t σ H λx H1=> ∃c,TrV K H1 x c/\Q c H1
theorem RQ {e:D8}{t:TE}(h:PE X e t)(he: ∀whole,isTrue e X.env whole=(do let v <-whole;Y9 e.pos;J5 [v] (gA v)):=by intro _;rfl):PT X e (Bo X.K t):=by
 intro pins s σ H Q I hw;refine iP (thn (h pins s σ H _ I hw) λv s1 ⟨x,H1,I1,r1,q1⟩=> ?_) (he _);obtain⟨c,t1,q⟩:=q1;exact I1.trv r1 t1 λs' I'=>⟨H1,I',q⟩
def Bp (t:TED):TTD:=λσ h Q=>t σ h λx h1=> ∃c,TrD h1 x c/\Q c h1
variable {K:G1}
theorem RR {t:TED}: ∀σ H Q,LT K (Bp t) σ H Q->Bo K (LE K t) σ H Q:=λσ H Q ⟨mC,h,Qd,rs,rh,t,p⟩=>
 LE.bind rs rh t λd v h1 H1 k1 rs1 rh1 r1 ⟨k,e,q⟩=>⟨k,e.to r1 rh1,p k h1 H1 k1 rh1 q⟩
theorem ND {ta:TED}(ha:JE X a ta)(he: ∀whole,isTrue a X.env whole=(do let v <-whole;Y9 a.pos;J5 [v] (gA v)):=by intro _;rfl):JT X a (Bp ta):=⟨(RQ ha.to he).imp RR⟩
end
end L2
namespace HT
open PySem PyProof.Rows
section
variable {prog:S2}{w:M6}{A:M5}{E:G2->G5->Prop}{s:G5}{κ:SortKind}{U:Keyed->Prop}{R:Keyed->Keyed->B4}
def Bq (s:G5)(a:G6)(h':N5):Prop:= ∀b o,b≠a->s.heap.get? b=some o->h'.get? b=some o
theorem XQ {M:fG}{α β:Type}{c:Prop}[Decidable c]{m m':Sem α}{F:α->Sem β}{Q:β->G5->Prop}(h:D7 M A ((if c then m else m') >>= F) Q E s):D7 M A (if c then m >>= F else m' >>= F) Q E s:=by
 by_cases z:c
 ·rw [R3 z] at h ⊢;exact h
 ·rw [S4 z] at h ⊢;exact h
theorem YT (vs:G0 G2):(vs.toArray.zip vs.toArray).toList=vs.map λv=>(v,v):=by
 rw [Array.toList_zip];show vs.zip vs=_
 induction vs with
 |nil=>rfl
 |cons v vs ih=>rw [List.zip_cons_cons,ih,R0]
abbrev RS (h h':N5):Prop:= ∀b o,h.get? b=some o->h'.get? b=some o
end
end HT
namespace L2
open PySem PySem.Spec PyProof.Rows PySem.SeqAt
theorem XR {h h':HD}{a:G6}(sb:Sub h h')(e:h' a=none):h a=none:=by
 cases z:h a with
 |none=>rfl
 |some ds=>rw [sb a ds z] at e;cases e
theorem Sub.over {h h':HD}{a:G6}{ds:G0 D}(sb:Sub h h')(e:h a=none):Sub h (zi h' a ds):=⟨λb xs k=>jd (λz=>by subst z;rw [e] at k;cases k) (sb b xs k),sb.dc⟩
def wk (T:G0 (G0 G8)):P0->P0->P0->B4
 |0,i,j=>decide (i=j)|| !decide (ent T i j=0)
 |b+1,i,j=>wk T b i j||(wk T b i b&&wk T b b j)
def fW (T:G0 (G0 G8))(b i j x y:P0):B4:=if x<i\/(x=i/\y<j) then wk T (b+1) x y else wk T b x y
theorem encO:Enc za Wy:=⟨vx,λS=>YO _,λS=>T8 (ZK _) (by decide),Ph⟩
theorem Jc: ∀P:G0 (G0 P0),M1 (P.map Wy)<=3
 | []=>by simp [M1]
 |S::P=>by
  have:=Jc P;have h2:N0 (Wy S)<=2:=ZK _;simp only [R0,M1];omega
theorem WC (P:G0 (G0 P0)):shaped (.list (P.map Wy))=true:=by
 unfold shaped;have h1:M9 (.list (P.map Wy))=true:=by simp only [M9];exact encO.lays P
 have h2:=Jc P;have h3:N0 (.list (P.map Wy))<=64:=by simp only [N0];omega
 rw [h1,N3 h3];rfl
section
variable {α:Type}{i:P0}{js:G0 P0}{ti:TID}{te:TED}{σ:SD}{h:HD}{Q:KD}
theorem Pk {h1:HD}{j:ItD}(ds:G0 D)(W:P0->G0 D->HD->Prop)(hn:ds.length<=1000)(ht: ∀R:ItD->HD->Prop,R j h1->ti σ h R)(hj: ∀k ys h',W k ys h'->j h'=some ds)
 (w0:W 0 [] h1)(wl: ∀k ys h',W k ys h'->ys.length<=k)(turn: ∀k d ys h',ds[k]? =some d->W k ys h'->te ((jG js σ).set i (some d)) h' λy h4=> ∃h5,Sub h5 h4/\(k+1<=ds.length/\W (k+1) (ys++ [y]) h5))
 (done: ∀ys h',W ds.length ys h'-> ∀p,h' p=none->Q (.lst p) (zi h' p ys)):yJ (bN i) js ti yr te σ h Q:=by
 refine ht _ ⟨ds.length,λk ys h'=>k<=ds.length/\W k ys h',⟨O6 _,w0⟩,?_⟩;rintro k ys h' ⟨hk,w⟩;refine⟨T8 (wl k ys h' w) (N1 (jH (by omega))),ds,hj k ys h' w,D0 _,λhl p hp=> ?_,λd hd=>⟨_,rfl,?_⟩⟩
 ·have:k=ds.length:=by omega
  subst this;exact done ys h' w p hp
 ·unfold yr;dsimp only;rw [R3 rfl];exact turn k d ys h' hd w
end
end L2
namespace L2
open PySem PySem.Spec PyProof.Rows
def s5:P0->P0
 |0=>0
 |d+1=>5*s5 d+1
def f5 (N:P0):P0->P0->P0
 |0,a=>a
 |d+1,a=>(f5 N d a*5+1)%N
theorem Yr: ∀ (fuel k n:P0),3<=k-> ∃m,3<=m/\SetTable.sizeAbove.go n fuel (2^k)=2^m/\(n<2^(k+fuel)->n<2^m)
 |0,k,n,h=>⟨k,h,rfl,λz=>z⟩
 |fuel+1,k,n,h=>by
  unfold SetTable.sizeAbove.go
  by_cases c:2^k<=n
  ·rw [R3 c,<-iU];obtain⟨m,a,b,d⟩:=Yr fuel (k+1) n (by omega);exact⟨m,a,b,λz=>d (by rw [Nat.add_right_comm,Nat.add_assoc];exact z)⟩
  ·rw [S4 c];exact⟨k,h,rfl,λ_=>by omega⟩
theorem above {n:P0}(h:n<2^67): ∃m,U7 n=2^m/\n<U7 n/\8<=U7 n:=by
 obtain⟨m,a,b,c⟩:=Yr 64 3 n (by decide);have b:U7 n=2^m:=b;refine⟨m,b,by rw [b];exact c h,?_⟩;rw [b];exact X7 (show 0<2 by decide) a
end L2
namespace L2
open PySem PySem.Spec PyProof.Rows HT
def UC (h h':N5):Prop:= ∀ (b:G6) (o:Obj),o.cls= .type "tuple" ->h.get? b=some o->h'.get? b=some o
theorem wO {α β:Type}{M:fG}{A:M5}{E:G2->G5->Prop}{s:G5}{f:α->β->Sem (iK β)}{r:β}{Q:β->G5->Prop}: ∀ (l:G0 α),(∀x∈l,∀Q':iK β->G5->Prop,Q' (.yield r) s->D7 M A (f x r) Q' E s)->Q r s->D7 M A (forIn l r f) Q E s
 | [],_,q=>G9 q
 |x::l,h,q=>by
  rw [Q9];exact wpAny_bind (h x (.head _) _ (wO l (λy hy=>h y (.tail _ hy)) q))
structure MemK (prog:S2)(w:M6)(K:Type)[DecidableEq K] where
 is:N5->K->G6->Prop
 hash:K->G8
 inj: ∀ {h:N5} {x y:K} {a:G6},is h x a->is h y a->x=y
 keep: ∀ {h h':N5} {x:K} {a:G6},UC h h'->is h x a->is h' x a
 hashed: ∀ {A:M5} {E:G2->G5->Prop} {s:G5} {x:K} {a:G6} {Q:G8->G5->Prop},A.units+8<cLine->is s.heap x a->(∀tk,Q (hash x) {s with toks:=tk})->D7 (R1 prog w) A (pyHash (.ref a)) Q E s
 same: ∀ {A:M5} {E:G2->G5->Prop} {s:G5} {x y:K} {a b:G6} {Q:B4->G5->Prop},A.units+8<cLine->is s.heap x a->is s.heap y b->Q (decide (x=y)) s->D7 (R1 prog w) A (eqBool (.ref a) (.ref b)) Q E s
 quiet: ∀ {A:M5} {E:G2->G5->Prop} {s:G5} {x:K} {a:G6} {Q:B4->G5->Prop},is s.heap x a->Q true s->D7 (R1 prog w) A (cN 8 (.ref a)) Q E s
 cls: ∀ {A:M5} {E:G2->G5->Prop} {s:G5} {x:K} {a:G6} {Q:B4->G5->Prop},is s.heap x a->Q false s->D7 (R1 prog w) A (O0 8 (.ref a)) Q E s
 byv: ∀ {A:M5} {E:G2->G5->Prop} {s:G5} {x:K} {a:G6} {Q:B4->G5->Prop},is s.heap x a->Q true s->D7 (R1 prog w) A (X8 8 (.ref a)) Q E s
section
variable {prog:S2}{w:M6}{A:M5}{E:G2->G5->Prop}{s:G5}
theorem Pl (n:P0){v:G2}(h:carriedByValue v=true):O0 n v=pure false:=by
 cases v<;>first|(cases h;done)|simp [O0]
theorem Qy {n:G8}{v:G2}(h:(intKind prog w).is n v=true): ∃tk,v= .int n tk:=by
 cases v<;>simp [intKind,fE] at h;exact⟨_,by rw [h]⟩
theorem YU {ks:G0 G8}{vs:G0 G2}(h:ItemsAre (intKind prog w) ks vs): ∀v∈vs,∃n tk,v= .int n tk:=by
 induction h with
 |nil=>exact λv hv=>absurd hv B2
 |cons h1 _ ih=>
  intro v hv;rcases R5.mp hv with rfl|hv
  ·obtain⟨tk,e⟩:=Qy h1;exact⟨_,tk,e⟩
  ·exact ih v hv
theorem UD (d:P0){x:G0 G8}{a:G6}{Q:B4->G5->Prop}:aI (intKind prog w) s.heap x a->Q false s->D7 (R1 prog w) A (O0 (d+1) (.ref a)) Q E s
 |⟨_,_,_,ho,hc,hd,hi⟩,q=>by
  unfold O0;refine wpAny_bind (Z1 (T:= "tuple") ⟨_,ho,hc⟩ ?_);simp only [fA,↓reduceIte,pure_bind,aV,O9];refine wpAny_bind (K1 ho hd (wpAny_bind ?_));simp only [<-C7];refine wO _ (λv hv Q' q'=> ?_) (G9 q);rw [Pl d (hi.byValue v hv)];exact G9 q'
theorem Pm (d:P0)(m:G8)(tk:Tok):X8 d (.int m tk)=pure true:=by cases d<;>rfl
theorem UE (d:P0){x:G0 G8}{a:G6}{Q:B4->G5->Prop}:aI (intKind prog w) s.heap x a->Q true s->D7 (R1 prog w) A (X8 (d+1) (.ref a)) Q E s
 |⟨_,_,_,ho,hc,hd,hi⟩,q=>by
  unfold X8;refine wpAny_bind (A3 (T:= "tuple") ⟨_,ho,hc⟩ F.slot_tuple_hash.lookup ?_);refine wpAny_bind (K1 ho hd (wpAny_bind ?_));simp only [K5,<-C7];refine wO _ (λv hv Q' q'=> ?_) (G9 q);obtain⟨m,tk,rfl⟩:=YU hi v hv;rw [Pm];exact G9 q'
def Ch (prog:S2)(w:M6):MemK prog w (G0 G8) where
 is:=λh x a=>aI (intKind prog w) h x a
 hash:=F3 (intKind prog w)
 inj:=λhx hy=>hx.inj hy
 keep:=λk ⟨o,items,n,ho,hc,hd,hi⟩=>⟨o,items,n,k _ o hc ho,hc,hd,hi⟩
 hashed:=λhu hk q=>aJ (by omega) hk (q _)
 same:=λhu hx hy q=>wpAny_eqBool_tuple (by omega) hx hy q
 quiet:=λhk q=>wpAny_eqIsQuiet_tuple hk q
 cls:=λhk q=>UD 7 hk q
 byv:=λhk q=>UE 7 hk q
end
end L2
namespace L2
open PySem PySem.Spec PyProof.Rows HT PySem.SeqAt
theorem Jd {prog:S2}{w:M6}: ∀ {vs:G0 G2} {ns:G0 G8},Z2 vs ns->ItemsAre (intKind prog w) ns vs
 |_,_,.nil=> .nil
 |_,_,.cons n t a=> .cons (by simp [intKind,fE]) (Jd a)
variable {pins:G0 (G6×Obj)}{H:Hp}
theorem RT {X:Cx}{σ:St}{s:G5}(I:Inv X pins σ H s)(k:G0 G8)(b:G6)(h:H b=some (.tup (k.map V.int))):(Ch X.prog X.w).is s.heap k b:=by
 obtain⟨_,us,r2,o,e,c,_,n,d⟩:=I.hok b _ h;exact⟨o,us.toArray,n,e,c,d,Jd (ZA r2)⟩
section
variable {prog:S2}{w:M6}{A:M5}{E:G2->G5->Prop}{s:G5}
inductive RowsIn (prog:S2)(w:M6)(h:N5):G0 (G0 G8)->G0 G2->Prop
 |nil:RowsIn prog w h [] []
 |cons {r:G0 G8} {b:G6} {T:G0 (G0 G8)} {vs:G0 G2}:aI (intKind prog w) h r b->RowsIn prog w h T vs->RowsIn prog w h (r::T) (.ref b::vs)
variable {h:N5}
theorem RowsIn.one: ∀ {T U:G0 (G0 G8)} {vs:G0 G2},RowsIn prog w h T vs->RowsIn prog w h U vs->T=U
 |_,_,_,.nil,.nil=>rfl
 |_,_,_,.cons a x,.cons b y=>by rw [a.inj b,x.one y]
theorem RowsIn.keep {h':N5}(k:UC h h'): ∀ {T:G0 (G0 G8)} {vs:G0 G2},RowsIn prog w h T vs->RowsIn prog w h' T vs
 |_,_,.nil=> .nil
 |_,_,.cons ⟨o,items,n,ho,hc,hd,hi⟩ x=> .cons ⟨o,items,n,k _ o hc ho,hc,hd,hi⟩ (x.keep k)
theorem RowsIn.each: ∀ {T:G0 (G0 G8)} {vs:G0 G2},RowsIn prog w h T vs-> ∀v∈vs,∃r b,v= .ref b/\aI (intKind prog w) h r b
 |_,_,.nil,v,hv=>absurd hv B2
 |_,_,.cons a x,v,hv=>by
  rcases R5.mp hv with e|hv
  ·exact⟨_,_,e,a⟩
  ·exact x.each v hv
def JC (prog:S2)(w:M6)(h:N5)(T:G0 (G0 G8))(a:G6):Prop:= ∃o items n,h.get? a=some o/\o.cls= .type "tuple" /\o.data= .seq items n/\RowsIn prog w h T items.toList
def YV (prog:S2)(w:M6)(T:G0 (G0 G8)):G8:=bK (F8 (T.map (F3 (intKind prog w))))
theorem ZL {Q:B3 G8->G5->Prop}(hu:A.units+4<cLine): ∀ {vs:G0 G2} {U:G0 (G0 G8)} (b:B3 G8) (s1:G5),s1.heap=s.heap->RowsIn prog w s.heap U vs->(∀tk,Q (b++(U.map (F3 (intKind prog w))).toArray) {s1 with toks:=tk})->
 D7 (R1 prog w) A (forIn vs b λx r=>do let h <-pyHash x;pure (J0 (r.push h))) Q E s1
 |_,_,b,s1,_,.nil,q=>G9 (by have:=q s1.toks;simpa using this)
 |_,_,b,s1,e1,.cons (r:=r) (T:=U) a x,q=>by
  rw [Q9];refine wpAny_bind (wpAny_bind (aJ (by omega) (by rw [e1];exact a) (G9 ?_)));exact ZL hu (b.push (F3 (intKind prog w) r)) _ e1 x λtk=>by
   have:=q tk;rw [R0] at this;simpa using this
variable {T:G0 (G0 G8)}{a:G6}
theorem XS {Q:G8->G5->Prop}(hu:A.units+8<cLine)(hT:JC prog w s.heap T a)(q: ∀tk,Q (YV prog w T) {s with toks:=tk}):D7 (R1 prog w) A (pyHash (.ref a)) Q E s:=by
 obtain⟨o,items,n,ho,hc,hd,hi⟩:=hT;have ty:s.TypeIs (.ref a) "tuple" :=⟨o,ho,hc⟩;have room:A.units<cLine:=by omega
 have slot:=λ{M:fG} {A':M5} {E':G2->G5->Prop} {P:P5 G2->G5->Prop}=>A3 (M:=M) (A:=A') (E:=E') (Q:=P) ty F.slot_tuple_hash.lookup
 unfold pyHash pyHashByItsType;refine wpAny_bind (dU (.inr room) (wpAny_bind (slot ?_)));rw [S4 (by simp)];refine wpAny_bind (slot (wpAny_bind (J3 ty W8 (B1 W8 ty dA ?_ (cQ _)))));show D7 _ _ (O8 (.ref a) >>= _) _ _ s;refine wpAny_bind (dB ho hd (wpAny_bind ?_));rw [<-C7];refine ZL (A:=A.in1) (show A.units+1+4<cLine by omega) #[] s rfl hi λtk=> ?_
 have told:=q (tk+1);unfold YV bK at told;show D7 _ _ (retInt (F8 ((#[]:B3 G8)++(T.map (F3 (intKind prog w))).toArray).toList)) _ _ _;rw [show ((#[]:B3 G8)++(T.map (F3 (intKind prog w))).toArray).toList=T.map (F3 (intKind prog w)) by simp];refine fX ?_;show D7 _ _ (E6 _) _ _ _;unfold E6;split
 ·rename_i c;rw [R3 c] at told;exact G9 told
 ·rename_i c;rw [S4 c] at told;exact wpAny_bind (bE (G9 told))
theorem UF (d:P0){x:G0 G8}{a:G6}{Q:B4->G5->Prop}:aI (intKind prog w) s.heap x a->Q true s->D7 (R1 prog w) A (cN (d+1) (.ref a)) Q E s
 |⟨_,_,_,ho,hc,hd,hi⟩,q=>by
  unfold cN;refine wpAny_bind (A3 (T:= "tuple") ⟨_,ho,hc⟩ F.slot_tuple_eq.lookup (wpAny_bind (aY (T:= "tuple") ⟨_,ho,hc⟩ bZ ?_)));simp only [aV,O9,↓reduceIte];refine wpAny_bind (K1 ho hd (wpAny_bind ?_));simp only [K5,<-C7];refine wO _ (λv hv Q' q'=> ?_) (G9 q);rw [eqIsQuiet_byValue d (hi.byValue v hv)];exact G9 q'
variable {Q:B4->G5->Prop}
theorem ZM:JC prog w s.heap T a->Q true s->D7 (R1 prog w) A (cN 8 (.ref a)) Q E s
 |⟨_,_,_,ho,hc,hd,hi⟩,q=>by
  unfold cN;refine wpAny_bind (A3 (T:= "tuple") ⟨_,ho,hc⟩ F.slot_tuple_eq.lookup (wpAny_bind (aY (T:= "tuple") ⟨_,ho,hc⟩ bZ ?_)));simp only [aV,O9,↓reduceIte];refine wpAny_bind (K1 ho hd (wpAny_bind ?_));simp only [K5,<-C7];refine wO _ (λv hv Q' q'=> ?_) (G9 q);obtain⟨r,b,rfl,hr⟩:=hi.each v hv;exact wpAny_bind (UF 6 hr (G9 q'))
theorem Po:JC prog w s.heap T a->Q false s->D7 (R1 prog w) A (O0 8 (.ref a)) Q E s
 |⟨_,_,_,ho,hc,hd,hi⟩,q=>by
  unfold O0;refine wpAny_bind (Z1 (T:= "tuple") ⟨_,ho,hc⟩ ?_);simp only [fA,↓reduceIte,pure_bind,aV,O9];refine wpAny_bind (K1 ho hd (wpAny_bind ?_));simp only [<-C7];refine wO _ (λv hv Q' q'=> ?_) (G9 q);obtain⟨r,b,rfl,hr⟩:=hi.each v hv;exact wpAny_bind (UD 6 hr (G9 q'))
theorem Pp:JC prog w s.heap T a->Q true s->D7 (R1 prog w) A (X8 8 (.ref a)) Q E s
 |⟨_,_,_,ho,hc,hd,hi⟩,q=>by
  unfold X8;refine wpAny_bind (A3 (T:= "tuple") ⟨_,ho,hc⟩ F.slot_tuple_hash.lookup (wpAny_bind (K1 ho hd (wpAny_bind ?_))));simp only [K5,<-C7];refine wO _ (λv hv Q' q'=> ?_) (G9 q);obtain⟨r,b,rfl,hr⟩:=hi.each v hv;exact wpAny_bind (UE 6 hr (G9 q'))
theorem Je: ∀ {ks:G0 G8} {vs:G0 G2},ItemsAre (intKind prog w) ks vs->ReadsAll h vs (ks.map X2) []
 |_,_,.nil=> .nil
 |_,_,.cons a x=>by
  obtain⟨tk,rfl⟩:=Qy a;exact .cons (as:= []) (bs:= []) (.int _ _) (Je x)
theorem yx: ∀ {T:G0 (G0 G8)} {vs:G0 G2},RowsIn prog w h T vs->ReadsAll h vs (T.map yn) []
 |_,_,.nil=> .nil
 |_,_,.cons ⟨_,_,_,ho,hc,hd,hi⟩ x=> .cons (as:= []) (bs:= []) (.tuple ho hc hd (Je hi)) (yx x)
theorem UG {U:G0 (G0 G8)}{b:G6}(hu:A.units+8<cLine)(hT:JC prog w s.heap T a)(hU:JC prog w s.heap U b)(q:Q (decide (T=U)) s):D7 (R1 prog w) A (eqBool (.ref a) (.ref b)) Q E s:=by
 obtain⟨_,_,_,ho,hc,hd,hi⟩:=hT;obtain⟨_,_,_,ho',hc',hd',hi'⟩:=hU;have lay: ∀V:G0 (G0 G8),M9 (.tuple (V.map yn))=true:=λV=>by simp only [M9];exact wM V
 have dep:N0 (.tuple (T.map yn))<=4:=by simp only [N0];have:=wu T;omega
 refine eqBoolOverData prog w A E s _ _ _ _ _ _ Q (.tuple ho hc hd (yx hi)) (.tuple ho' hc' hd' (yx hi')) (lay T) (lay U) (by have:=Nat.min_le_left (N0 (.tuple (T.map yn))) (N0 (.tuple (U.map yn)));omega) ?_;show Q (F0 (T.map yn) (U.map yn)) s;rw [zp];exact q
def Br (prog:S2)(w:M6):MemK prog w (G0 (G0 G8)) where
 is:=λh T a=>JC prog w h T a
 hash:=YV prog w
 inj:=λ⟨_,_,_,ho,_,hd,hi⟩ ⟨_,_,_,ho',_,hd',hi'⟩=>by
  rw [ho] at ho';cases ho';rw [hd] at hd';cases hd';exact hi.one hi'
 keep:=λk ⟨o,items,n,ho,hc,hd,hi⟩=>⟨o,items,n,k _ o hc ho,hc,hd,hi.keep k⟩
 hashed:=λhu hk q=>XS hu hk q
 same:=λhu hx hy q=>UG hu hx hy q
 quiet:=λhk q=>ZM hk q
 cls:=λhk q=>Po hk q
 byv:=λhk q=>Pp hk q
end
def XT (H:Hp):G0 V->G0 (G0 G8)->Prop
 | [],[]=>True
 |v::vs,r::T=>(∃c,v= .ref c/\H c=some (.tup (r.map V.int)))/\XT H vs T
 |_,_=>False
def Xk (H:Hp)(T:G0 (G0 G8))(b:G6):Prop:= ∃us,H b=some (.tup us)/\XT H us T
theorem UH {X:Cx}{σ:St}{s:G5}(I:Inv X pins σ H s): ∀ {vs:G0 V} {T:G0 (G0 G8)} {us:G0 G2},XT H vs T->Vals vs us->RowsIn X.prog X.w s.heap T us
 | [],[],_,_,.nil=> .nil
 |_::_,r::_,_,⟨⟨c,e,hc⟩,x⟩,.cons rv y=>by
  subst e;cases rv;exact .cons (RT I r c hc) (UH I x y)
theorem Ys {X:Cx}{σ:St}{s:G5}(I:Inv X pins σ H s)(T:G0 (G0 G8))(b:G6)(h:Xk H T b):(Br X.prog X.w).is s.heap T b:=by
 obtain⟨us,hb,x⟩:=h;obtain⟨_,its,rv,o,e,c,_,n,d⟩:=I.hok b _ hb;exact⟨o,its.toArray,n,e,c,d,by rw [List.toList_toArray];exact UH I x rv⟩
theorem UI {K:G1}: ∀ {T:G0 (G0 G8)} {vs:G0 V},RelDs K H (T.map zw) vs->XT H vs T
 | [],vs,r=>by
  have:vs= []:=r;subst this;exact U4
 |row::T,vs,r=>by
  obtain⟨v,us,e,r1,r2⟩:=(show ∃v r,vs=v::r/\RelD K H (zw row) v/\RelDs K H (T.map zw) r from r);obtain⟨a,ws,e4,hH,r4⟩:=(show ∃a vs,v= .ref a/\H a=some (.tup vs)/\RelDs K H (row.map D.int) vs from r1);rw [jP r4] at hH;subst e;exact⟨⟨a,e4,hH⟩,UI r2⟩
theorem UJ {K:G1}: ∀ {Ts:G0 (G0 (G0 G8))} {vs:G0 V},RelDs K H (Ts.map jp) vs-> ∃ps:G0 (G6×G0 (G0 G8)),vs=ps.map (λp=>V.ref p.1)/\Ts=ps.map (·.2)/\ ∀p∈ps,Xk H p.2 p.1
 | [],vs,r=>⟨[],r,rfl,λp hp=>by cases hp⟩
 |T::Ts,vs,r=>by
  obtain⟨v,us,e,r1,r2⟩:=(show ∃v r,vs=v::r/\RelD K H (jp T) v/\RelDs K H (Ts.map jp) r from r);obtain⟨ps,e1,e2,e3⟩:=UJ r2;obtain⟨a,ws,e4,hH,r4⟩:=(show ∃a vs,v= .ref a/\H a=some (.tup vs)/\RelDs K H (T.map zw) vs from r1);exact⟨(a,T)::ps,by rw [e,e1,e4];rfl,by rw [e2];rfl,λp hp=>by
   rcases R5.mp hp with rfl|hp
   ·exact⟨ws,hH,UI r4⟩
   ·exact e3 p hp⟩
end L2
namespace L2
open PySem PySem.Spec PyProof.Rows PySem.W
structure DefIn (K:Frag)(x:Str)(st:C3)(f:G6)(fd:S6):Prop where
 at_:nsIn K N6 x=some (some (.ref f))
 fn:Fun K x x st f fd
variable {K:Frag}{h base:N5}{mg:Str->P5 G2}{x:Str}{st:C3}{f:G6}{fd:S6}{P:S2}{w:M6}{n:P0}{ps:G0 Str}
theorem RU {oc:G2}{od an:P5 G6}{osl:B3 (P5 G2)}{kV doc pm cdv ct:G2}(a:nsIn K N6 x=some (some (.ref f)))(l:K.lookup f=some ⟨oc,od,.func (fnOf x x (zX st) (zb st) (jc st) .none kV doc pm an cdv ct),osl⟩)
 (c:codeIn K cdv x=true)(k:keepIn K (.ref f)=true):DefIn K x st f (fnOf x x (zX st) (zb st) (jc st) .none kV doc pm an cdv ct):=⟨a,DI l c k⟩
abbrev NE (x:Str)(st:C3)(ps:G0 Str):Prop:= ∀ (kV doc pm:G2) (an:P5 G6) (cdv ct:G2) (us:G0 G2),us.length=ps.length->i6 (fnOf x x (zX st) (zb st) (jc st) .none kV doc pm an cdv ct) ⟨us,[]⟩=pure (ps.zip us)
theorem DefIn.nm (d:DefIn K x st f fd)(X:K.In h)(G:h.Ns N6 mg):mg x=some (.ref f):=mg_of X G d.at_
variable {C:G0 G2->Prop}
theorem ln1 (g: ∀a,C [a]): ∀us:G0 G2,us.length=1->C us
 | [_],_=>g _
theorem ln2 (g: ∀a b,C [a,b]): ∀us:G0 G2,us.length=2->C us
 | [_,_],_=>g _ _
theorem ln3 (g: ∀a b c,C [a,b,c]): ∀us:G0 G2,us.length=3->C us
 | [_,_,_],_=>g _ _ _
theorem ln4 (g: ∀a b c d,C [a,b,c,d]): ∀us:G0 G2,us.length=4->C us
 | [_,_,_,_],_=>g _ _ _ _
theorem ln5 (g: ∀a b c d e,C [a,b,c,d,e]): ∀us:G0 G2,us.length=5->C us
 | [_,_,_,_,_],_=>g _ _ _ _ _
theorem DefIn.cal {sp:RDn}(d:DefIn K x st f fd)(l:OpenLaw)(w:M6)(base:N5)(X:K.In h)(G:h.Ns N6 mg)(ok:FnOk l.prog w K mg base CX0 n f fd ps (LSp K sp))(b:NE x st ps:=by first|exact λ_ _ _ _ _ _=>ln1 λ_=>rfl|exact λ_ _ _ _ _ _=>ln2 λ_ _=>rfl|exact λ_ _ _ _ _ _=>ln3 λ_ _ _=>rfl|exact λ_ _ _ _ _ _=>ln4 λ_ _ _ _=>rfl|exact λ_ _ _ _ _ _=>ln5 λ_ _ _ _ _=>rfl):jr l.prog w K mg base n x ps sp:=⟨_,_,ok,d.fn.binds b,d.fn.kp,d.nm X G⟩
def zsB (K:Frag):B4:= ["len","max","min","divmod","all","any","repr","sum","sorted","int","tuple","list","set","bool","isinstance","range","zip","enumerate","reversed"].all λx=>nsIn K N6 (V5 x)==some none
theorem NF (X:K.In h)(G:h.Ns N6 mg)(e:zsB K=true):Zs mg:=by
 unfold zsB at e;rw [C1] at e;have m:=λ(x:O1) hx=>mg_none_of X G (beq_iff_eq.mp (e x hx))
 exact⟨m "len" (by decide),m "max" (by decide),m "min" (by decide),m "divmod" (by decide),m "all" (by decide),m "any" (by decide),m "repr" (by decide),m "sum" (by decide),m "sorted" (by decide),m "int" (by decide),m "tuple" (by decide),m "list" (by decide),m "set" (by decide),m "bool" (by decide),m "isinstance" (by decide),m "range" (by decide),m "zip" (by decide),m "enumerate" (by decide),m "reversed" (by decide)⟩
end L2
namespace L2
open PySem PySem.Spec PyProof.Rows
theorem Sub.overC {h h':HD}{a:G6}{c:DC}(sb:Sub h h')(e:h.dc a=none):Sub h (Qm h' a c):=⟨sb.ls,λb xs z=>by
 rw [wI (λw=>by subst w;rw [e] at z;cases z)];exact sb.dc b xs z⟩
end L2
set_option maxRecDepth 35000
namespace L2
open PySem PySem.Spec PyProof.Rows
section
variable {X:Cx}{k i:P0}{ps N Pn:G0 Str}{spd:RDn}{x:Str}{p pos pos':Pos}{e e2 e3 e4 iter elt:D8}{es ifs:G0 D8}{t:TAD}{te te2 te3 te4:TED}{ti:TID}{tt:TTD}{scope sc:L7}{c:D8}
theorem jk (C:jr X.prog X.w X.K X.mg X.base k x ps spd)(hr:Room k X.A)(ha:JA X (e::es) t)(hg:Gl X x:=by rfl)(hdb:(x==("__debug__" :Str))=false:=by decide)(he:P8 (e::es) X.env=(false,B6 e X.env)::P8 es X.env:=by rfl)(hpl:(H0 pos (P8 es X.env)).any (·.1)=false:=by rfl):JE X (.Call (.Name x p) (e::es) [] pos) (dCB spd t):=by
 obtain⟨g,gd,F,hb,hk,hm⟩:=C;exact Nx F hr hg hm hk hb ha hdb he hpl
theorem j1 (a:JE X e te)(h:jL e=true:=by rfl):JA X [e] (jI te wX):=jac a zZ h
theorem j2 (a:JE X e te)(b:JE X e2 te2)(h:jL e=true:=by rfl)(h2:jL e2=true:=by rfl):JA X [e,e2] (jI te (jI te2 wX)):=jac a (j1 b h2) h
theorem j3 (a:JE X e te)(b:JE X e2 te2)(c:JE X e3 te3)(h:jL e=true:=by rfl)(h2:jL e2=true:=by rfl)(h3:jL e3=true:=by rfl):JA X [e,e2,e3] (jI te (jI te2 (jI te3 wX))):=jac a (j2 b c h2 h3) h
theorem j4 (a:JE X e te)(b:JE X e2 te2)(c:JE X e3 te3)(d:JE X e4 te4)(h:jL e=true:=by rfl)(h2:jL e2=true:=by rfl)(h3:jL e3=true:=by rfl)(h4:jL e4=true:=by rfl):JA X [e,e2,e3,e4] (jI te (jI te2 (jI te3 (jI te4 wX)))):=jac a (j3 b c d h2 h3 h4) h
theorem YW (Z:Zs X.mg)(a:JE X e te)(hg:Gl X "len" :=by rfl)(h:jL e=true:=by rfl)(he:P8 [e] X.env=(false,B6 e X.env)::P8 [] X.env:=by rfl)(hpl:(H0 pos (P8 [] X.env)).any (·.1)=false:=by rfl):JE X (.Call (.Name "len" p) [e] [] pos) (dCB PF (jI te wX)):=zv Rv hg Z.len PySem.boot_len (j1 a h) (by decide) (by decide) he hpl
theorem jse (i:P0)(S:FnScope X.N Pn sc)(he:JE X e te)(hi:X.N[i]? =some x:=by rfl)(hx:Loc X.env.scope x:=by first|exact C9 rfl|exact E5 rfl)(hs:L8 e (some (.Name x pos')) pos.line X.env=pure false:=by rfl)(hf:X.fn x=true\/X.env.scope.names.lookup x=some .local:=by first|exact .inl rfl|exact .inr rfl|assumption):JS X (.Assign [.Name x pos'] e pos) (Zi i te):=BX S.nd hi hx he hs hf
theorem jgn (i:P0)(S:FnScope X.N Pn sc)(hi:X.N[i]? =some x:=by rfl)(hx:Loc X.env.scope x:=by first|exact C9 rfl|exact E5 rfl)(hf:X.fn x=true\/X.env.scope.names.lookup x=some .local:=by first|exact .inl rfl|exact .inr rfl|assumption):JG X (.Name x pos) (gN i):=GY S.nd hi hx hf
theorem jl0 (i:P0)(S:FnScope X.N Pn sc)(hi:JI X (.Name x p) iter ti)(he: ∀C s₀ H₀ ex,JE (vh X scope C s₀ H₀ ex) elt te)(hc:X.calm=true:=by rfl)(hB:VY X.N X.env.scope.names scope [i]=true:=by rfl)(hx:X.N[i]? =some x:=by rfl)(hl:scope.names.lookup x=some .local\/scope.names.lookup x=some .cell:=by first|exact C9 rfl|exact E5 rfl)(hs: ∀x,D9 iter X.env x=pure x:=by intro _;rfl):JE X (.ListComp elt [⟨.Name x p,iter,[],0⟩] scope pos) (yJ (bN i) [i] ti yr te):=
 jlc hc (jU hB) hi (P2.mpr rfl) S.nd hx hl (λX' hX=>wK) (λX' hX=>by obtain⟨C,s₀,H₀,ex,rfl⟩:=hX;exact he C s₀ H₀ ex) hs
theorem fsc {N P:G0 Str}(a:sc.kind= .function:=by rfl)(b:sc.isCoroutine=false:=by rfl)(c:sc.isGenerator=false:=by rfl)(d:N.Nodup:=by decide +kernel)(e:N.take P.length=P:=by rfl)(f: ∀x∈P,sc.names.lookup x=some .local\/sc.names.lookup x=some .cell:=by decide +kernel)(g: ∀y∈sc.names,y.2≠ .free:=by decide +kernel):FnScope N P sc:=⟨a,b,c,d,e,f,g⟩
theorem jc1 {op:b0}{f:RD2}(ho:OpQ X (T9 op) f)(ha:JE X e te)(hb:JE X e2 te2)(hm:L4 op e2=false:=by exact Qk _):JE X (.Compare e [op] [e2] pos) (dOp f te te2):=BV ho ha hb hm
theorem jt1 {op:b0}{f:RD2}(ho:OpQ X (T9 op) f)(ha:JE X e te)(hb:JE X e2 te2)(hm:L4 op e2=false:=by exact Qk _):JT X (.Compare e [op] [e2] pos) (zY (dOp f te te2)):=GW ho ha hb hm
theorem ji1 (ha:JE X e te)(hb:JE X e2 te2)(hs:Jm e2:=by exact λ_ _=>rfl):JE X (.Subscript e e2 pos) (dOp ixD te te2):=jix ha hb hs
theorem jrg {tg:D8}(Z:Zs X.mg)(ha:JE X e te)(hg:Gl X "range" :=by rfl)(h:jL e=true:=by rfl)(hs:P8 [e] X.env= [(false,B6 e X.env)]:=by rfl):JI X tg (.Call (.Name "range" p) [e] [] pos) (iR1 (jI te wX)):=Nw hg Z.range (j1 ha h) hs
end
section
variable {P:S2}{w:M6}{K:G1}{mg:Str->P5 G2}{base:N5}{x qual:Str}{st:C3}{f:G6}{fd:S6}{N ps:G0 Str}{k:P0}
theorem Fun.okM {spd:RDn}(F:Fun K x qual st f fd)(S:FnScope N ps (jc st)){tb:TSD}(hbody: ∀ {cdv:G2} {A:M5} {outer:G0 Env} {s:G5} {H:Hp} {E:XK},Room k (A.deeper (aB qual (jc st) s.heap.objs.size f cdv))->JSs (Xs CX0 P w K mg base N qual (jc st) f cdv A outer s H E).nox (zb st) tb)
 (read: ∀ds h Q,spd ds h Q->ds.length=ps.length/\tb (YK Q) (zt N ds) h):FnOk P w K mg base CX0 (k+1) f fd ps (LSp K spd):=F.okJ S (λds h Q q=>(read ds h Q q).1) tb (λ_ _ _ _ _ _ hr=>hbody hr) λds h Q q=>(read ds h Q q).2
end
theorem ZN {t u:TSD}{E:EndsD}{σ:SD}{h:HD}(mN:SD)(first: ∀K:SD->HD->Prop,K mN h->t {E with nx:=K} σ h)(zF:u E mN h):ym t u E σ h:=first (u E) zF
theorem sz0:0<=sizeLine:=by decide
theorem sz1:1<=sizeLine:=by decide
theorem sz2:2<=sizeLine:=by decide
theorem sz3:3<=sizeLine:=by decide
theorem sz4:4<=sizeLine:=by decide
theorem sz5:5<=sizeLine:=by decide
section
variable {X:Cx}{s0 s1 s2 s3 s4 s5 s6 s7:C3}{t0 t1 t2 t3 t4 t5 t6 t7:TSD}{c:D8}{tc:TTD}{pos:Pos}
theorem js2 (a:JS X s0 t0)(b:JS X s1 t1):JSs X [s0,s1] (ym t0 t1):=(jM a (jQ b))
theorem js3 (a:JS X s0 t0)(b:JS X s1 t1)(c:JS X s2 t2):JSs X [s0,s1,s2] (ym t0 (ym t1 t2)):=(jM a (jM b (jQ c)))
theorem js4 (a:JS X s0 t0)(b:JS X s1 t1)(c:JS X s2 t2)(d:JS X s3 t3):JSs X [s0,s1,s2,s3] (ym t0 (ym t1 (ym t2 t3))):=(jM a (jM b (jM c (jQ d))))
theorem js5 (a:JS X s0 t0)(b:JS X s1 t1)(c:JS X s2 t2)(d:JS X s3 t3)(e:JS X s4 t4):JSs X [s0,s1,s2,s3,s4] (ym t0 (ym t1 (ym t2 (ym t3 t4)))):=(jM a (jM b (jM c (jM d (jQ e)))))
theorem js6 (a:JS X s0 t0)(b:JS X s1 t1)(c:JS X s2 t2)(d:JS X s3 t3)(e:JS X s4 t4)(f:JS X s5 t5):JSs X [s0,s1,s2,s3,s4,s5] (ym t0 (ym t1 (ym t2 (ym t3 (ym t4 t5))))):=(jM a (jM b (jM c (jM d (jM e (jQ f))))))
theorem WD (hc:JT X c tc)(h:JS X s0 t0):JS X (.If c [s0] [] pos) (Vl tc t0 vk):=Ms hc (jQ h) Yj
end
end L2
namespace L2
open PySem PySem.Spec PyProof.Rows HT
abbrev Yt (a:G6):Obj:= {cls:= .type "dict_items",data:= .fields #[.ref a]}
section
variable {X:Cx}
theorem wv {α β:Type}{R:α->β->Prop}: ∀ {xs:G0 α} {ys:G0 β} {i:P0} {x:α} {y:β},Paired R xs ys->xs[i]? =some x->ys[i]? =some y->R x y
 |_,_,0,_,_,.cons r _,e1,e2=>by simp at e1 e2;subst e1 e2;exact r
 |_,_,i+1,_,_,.cons _ t,e1,e2=>wv t (by simpa using e1) (by simpa using e2)
 |_,_,_,_,_,.nil,e1,_=>by cases e1
end
end L2
namespace L2
open PySem PySem.Spec PyProof.Rows HT PySem.SeqAt
section
variable {prog:S2}{w:M6}{A:M5}{E:G2->G5->Prop}{s:G5}
def yL (U:G0 (G0 G8)):P0:=(U.map λr=>r.length+1).sum
theorem Jf {Q:B3 G8->G5->Prop}(hu:A.units+4<cLine): ∀ {vs:G0 G2} {U:G0 (G0 G8)} (b:B3 G8) (s1:G5),s1.heap=s.heap->RowsIn prog w s.heap U vs->Q (b++(U.map (F3 (intKind prog w))).toArray) {s1 with toks:=s1.toks+yL U}->
 D7 (R1 prog w) A (forIn vs b λx r=>do let h <-pyHash x;pure (J0 (r.push h))) Q E s1
 |_,_,b,s1,_,.nil,q=>G9 (by simpa [yL] using q)
 |_,_,b,s1,e1,.cons (r:=r) (T:=U) a x,q=>by
  rw [Q9];refine wpAny_bind (wpAny_bind (aJ (by omega) (by rw [e1];exact a) (G9 ?_)));refine Jf hu (b.push (F3 (intKind prog w) r)) _ e1 x ?_;have e:s1.toks+(r.length+1)+yL U=s1.toks+yL (r::U):=by unfold yL;rw [R0,hO];omega
  rw [R0] at q;show Q _ {s1 with toks:=s1.toks+(r.length+1)+yL U};rw [e];simpa using q
theorem UK {T:G0 (G0 G8)}{a:G6}{Q:G8->G5->Prop}(hu:A.units+8<cLine)(hT:JC prog w s.heap T a)(q:Q (YV prog w T) {s with toks:=s.toks+(yL T+1)}):D7 (R1 prog w) A (pyHash (.ref a)) Q E s:=by
 obtain⟨o,items,n,ho,hc,hd,hi⟩:=hT;have ty:s.TypeIs (.ref a) "tuple" :=⟨o,ho,hc⟩;have room:A.units<cLine:=by omega
 have slot:=λ{M:fG} {A':M5} {E':G2->G5->Prop} {P:P5 G2->G5->Prop}=>A3 (M:=M) (A:=A') (E:=E') (Q:=P) ty F.slot_tuple_hash.lookup
 unfold pyHash pyHashByItsType;refine wpAny_bind (dU (.inr room) (wpAny_bind (slot ?_)));rw [S4 (by simp)];refine wpAny_bind (slot (wpAny_bind (J3 ty W8 (B1 W8 ty dA ?_ (cQ _)))));show D7 _ _ (O8 (.ref a) >>= _) _ _ s;refine wpAny_bind (dB ho hd (wpAny_bind ?_));rw [<-C7];refine Jf (A:=A.in1) (show A.units+1+4<cLine by omega) #[] s rfl hi ?_;have told:=q;unfold YV bK at told;show D7 _ _ (retInt (F8 ((#[]:B3 G8)++(T.map (F3 (intKind prog w))).toArray).toList)) _ _ _;rw [show ((#[]:B3 G8)++(T.map (F3 (intKind prog w))).toArray).toList=T.map (F3 (intKind prog w)) by simp];refine fX ?_;show D7 _ _ (E6 _) _ _ _;unfold E6;split
 ·rename_i c;rw [R3 c] at told;exact G9 told
 ·rename_i c;rw [S4 c] at told;exact wpAny_bind (bE (G9 told))
theorem RowsIn.past {h h':N5}{d:G6}{o:Obj}{es:B3 Z6}{ep:P0}(hd:h.get? d=some o)(dd:o.data= .dict es ep)(hs:Y8 d h h'): ∀ {T:G0 (G0 G8)} {vs:G0 G2},RowsIn prog w h T vs->RowsIn prog w h' T vs
 |_,_,.nil=> .nil
 |_,_,.cons a x=> .cons (a.keeps hd dd hs) (x.past hd dd hs)
def Mv (prog:S2)(w:M6):HeapKind prog w (G0 (G0 G8)) where
 is:=JC prog w
 hash:=YV prog w
 draws:=λT=>yL T+1
 room:=λA=>A.units+8<cLine
 inj:=λhx hy=>(Br prog w).inj hx hy
 keeps:=λ⟨o',items,n,ho,hc,hdd,hi⟩ hd dd hs=>by
  refine⟨o',items,n,hs.extBut _ _ (λz=> ?_) ho,hc,hdd,hi.past hd dd hs⟩;rw [z,hd] at ho;cases ho;rw [dd] at hdd;cases hdd
 pyHash:=λhu hk q=>UK hu hk q
 eqBool:=λhu hx hy q=>UG hu hx hy q
 quiet:=λhk q=>ZM hk q
end
abbrev KT2:=G0 (G0 (G0 G8)×G6×V)
def zq {α:Type}(kv:G0 (G0 (G0 G8)×α))(k:G0 (G0 G8)):P5 α:=(kv.find? λp=>decide (p.1=k)).map (·.2)
def Vm {α:Type}(kv:G0 (G0 (G0 G8)×α))(k:G0 (G0 G8))(d:α):G0 (G0 (G0 G8)×α):=if (zq kv k).isSome then kv.map (λp=>if p.1=k then (p.1,d) else p) else kv++ [(k,d)]
variable {T:G0 (G0 G8)}
theorem ZO {K:G1}{H:Hp}{b:G6}(r:RelD K H (jp T) (.ref b)):Xk H T b:=by
 obtain⟨ps,e1,e2,e3⟩:=UJ (K:=K) (H:=H) (Ts:= [T]) (vs:= [.ref b]) ⟨_,_,rfl,r,rfl⟩;cases ps with
 |nil=>cases e1
 |cons p ps=>
  injection e1 with e4 _
  injection e2 with e5 _
  injection e4 with e4
  rw [e5,e4];exact e3 p P6
abbrev yy (p:G0 (G0 G8)×G6×V)(q:G0 (G0 G8)×G6×G2):Prop:=p.1=q.1/\p.2.1=q.2.1/\RelV p.2.2 q.2.2
theorem jN: ∀ {xs:KT2} {ys:G0 (G0 (G0 G8)×G6×G2)},Paired yy xs ys->xs.map (·.1)=ys.map (·.1)/\xs.length=ys.length/\ ∀y∈ys,∃x∈xs,x.1=y.1/\x.2.1=y.2.1
 |_,_,.nil=>⟨rfl,rfl,λy hy=>by cases hy⟩
 |_,_,.cons (a:=x) (b:=y) r z=>by
  obtain⟨a,b,c⟩:=jN z;refine⟨by rw [R0,R0,a,r.1],by rw [S3,S3,b],λy' hy=> ?_⟩;rcases R5.mp hy with e|e
  ·rw [e];exact⟨_,P6,r.1,r.2.1⟩
  ·obtain⟨x',hx,p⟩:=c y' e;exact⟨x',D2 _ hx,p⟩
section
variable {K:G1}{H:Hp}{k:G0 (G0 G8)}
theorem ye: ∀ {kv:G0 (G0 (G0 G8)×D)} {xs:KT2} {ys:G0 (G0 (G0 G8)×G6×G2)},kv.map (·.1)=xs.map (·.1)->RelDs K H (kv.map (·.2)) (xs.map (·.2.2))->Paired yy xs ys->
 (∀d,zq kv k=some d-> ∃v p,aZ ys k=some p/\RelD K H d v/\RelV v p.2)/\(zq kv k=none->aZ ys k=none)
 | [],[],_,_,_,.nil=>⟨λ_ z=>(nomatch z),λ_=>rfl⟩
 |p::r,[],_,e,_,_=>by cases e
 | [],q::xs,_,e,_,_=>by cases e
 |p::r,q::xs,_,e,h,.cons (b:=y) r1 z=>by
  rw [R0,R0] at e;injection e with e1 e2
  obtain⟨v,t,z',h1,h2⟩:=(show ∃v t,q.2.2::xs.map (·.2.2)=v::t/\RelD K H p.2 v/\RelDs K H (r.map (·.2)) t from h);injection z' with z1 z2
  subst z1 z2;have ih:=ye e2 h2 z
  by_cases c:p.1=k
  ·have g:zq (p::r) k=some p.2:=by simp [zq,N2,c]
   have g': ∀xs',aZ (y::xs') k=some y.2:=λxs'=>by
    have:y.1=k:=by rw [<-r1.1,<-e1,c]
    simp [aZ,N2,this]
   rw [g];refine⟨λd hd=> ?_,λhd=>by cases hd⟩;injection hd with hd
   subst hd;exact⟨q.2.2,y.2,g' _,h1,r1.2.2⟩
  ·have g:zq (p::r) k=zq r k:=by simp [zq,N2,c]
   have g': ∀xs',aZ (y::xs') k=aZ xs' k:=λxs'=>by
    have: ¬y.1=k:=by rw [<-r1.1,<-e1];exact c
    simp [aZ,N2,this]
   rw [g,g'];exact ih
end
section
variable {X:Cx}{pins:G0 (G6×Obj)}{σ:St}{H:Hp}{s:G5}{a b:G6}{A:M5}{E:G2->G5->Prop}{T:G0 (G0 G8)}{xs xs':KT2}
theorem JD {ep:P0}(I:Inv X pins σ H s)(hH:H a=some (Zu a ep xs))(ks: ∀x∈xs,Xk H x.1 x.2.1)(nd:(xs.map (·.1)).Nodup):(a==U1)=false/\xs.length<=sizeLine/\ ∃ys,Paired yy xs ys/\s.heap.DictOfH (Mv X.prog X.w) a ys:=by
 obtain⟨⟨h1,h2,ys,pr,o,es,ho,ex,hd,he⟩,_,_⟩:=I.hok a _ hH;obtain⟨k1,k2,k3⟩:=jN pr;refine⟨h1,h2,ys,pr,o,es,ep,ho,ex,hd,he,λy hy=> ?_,by rw [<-k1];exact nd⟩;obtain⟨x,hx,e1,e2⟩:=k3 y hy;have:=Ys I x.1 x.2.1 (ks x hx);rw [e1,e2] at this;exact this
theorem XU {ep:P0}{v:V}{r:G2}{Q:Unit->G5->Prop}(hu:A.units+9<cLine)(I:Inv X pins σ H s)(hH:H a=some (Zu a ep xs))(ks: ∀x∈xs,Xk H x.1 x.2.1)(nd:(xs.map (·.1)).Nodup)(hT:Xk H T b)(st: ∀ys,Paired yy xs ys->Paired yy xs' (storedH ys T b r))(lz:xs'.length<=sizeLine)
 (h: ∀ep' s',Inv X pins σ (upd H a (Zu a ep' xs')) s'->Q () s'):D7 (R1 X.prog X.w) A (f6 (.ref a) (.ref b) r) Q E s:=by
 obtain⟨h1,h2,ys,pr,dd⟩:=JD I hH ks nd;refine wpAny_setItem_heap (knd:=Mv X.prog X.w) (hsz:=by have:=(jN pr).2.1;omega) (show A.units+1+8<cLine by omega) (Ys I T b hT) dd λh' dd' hs=> ?_
 obtain⟨q,es,ep,hq,e2,e3,e4,_,_⟩:=dd';refine h ep _ (Gk I (by rw [hH];exact U4) hs ⟨q,hq⟩ ⟨⟨h1,lz,_,st ys pr,q,es,hq,e2,e3,e4⟩,⟨q,hq⟩,λg1 g2 hg ke=> ?_⟩);obtain⟨a1,a2,ys',pr',o,es',ho,ex,hd,he⟩:=hg;exact⟨a1,a2,ys',pr',o,es',ke o ho,ex,hd,he⟩
end
def NG:TE:=λ_ H Q=> ∀p,H p=none->Q (.ref p) (upd H p (Zu p 0 []))
theorem pe_tnew {X:Cx}{pos:Pos}:PE X (.Dict [] [] pos) NG:=λpins s σ H Q I h=>
 wpAny_Dict_empty ⟨.ref s.heap.objs.size,_,I.laid (a:=s.heap.objs.size) (o:=Zu s.heap.objs.size 0 []) (t':=s.toks) (λ_ _ q=>G7 _ q) (D0 _) ⟨⟨beq_eq_false_iff_ne.mpr (C6 (R7 I.big)),O6 _,[],.nil,_,#[],D4 _ rfl,⟨rfl,rfl,rfl⟩,rfl,rfl⟩,⟨_,D4 _ rfl⟩,λg1 g2 ⟨a1,a2,ys',pr',o,es',ho,ex,hd,he⟩ ke=>⟨a1,a2,ys',pr',o,es',ke o ho,ex,hd,he⟩⟩,rfl,h _ (I.hok.fresh (D0 _))⟩
def RV:TED:=λ_ h Q=> ∀p,h.dc p=none->Q (.dct p) (Qm h p (.tk 0 []))
def ixT:RD2:=λx y h Q=> ∃a T ep kv d,x= .dct a/\y=jp T/\h.dc a=some (.tk ep kv)/\zq kv T=some d/\Q d h
def inT (neg:B4):RD2:=λx y h Q=> ∃a T ep kv,y= .dct a/\x=jp T/\h.dc a=some (.tk ep kv)/\Q (.bl (neg !=(zq kv T).isSome)) h
section
variable {X:Cx}
theorem UL {pos:Pos}:JE X (.Dict [] [] pos) RV:=⟨pe_tnew.imp λσ H Q ⟨mC,h,Qd,rs,rh,t,p⟩ q hq=>
 p (.dct q) (.ref q) _ _ (.new hq) (rh.newC (c:= .tk 0 []) hq ⟨[],jl,gQ,rfl,λx hx=>(by cases hx),rfl⟩) rfl (t q (rh.freeC hq))⟩
theorem ZP {n:P0}(hr:Room n X.A):OpQ X (T9 .NotIn) (inT true):=λpins s σ H x y v u Q I rx ry ⟨d,d2,h,Qd,r1,r2,rh,⟨a,T,ep,kv,e1,e2,e,q⟩,post⟩=>by
 subst e1 e2;cases (show y= .ref a from r2);cases (show u=L6 a from ry);obtain⟨xs,hH,nd,ek,tv,rv⟩:=(show ∃xs:KT2,_ from rh.dc a _ e);obtain⟨b,us,ex,_⟩:=(show ∃b vs,x= .ref b/\H b=some (.tup vs)/\RelDs X.K H (T.map zw) vs from r1);subst ex;cases (show v=L6 b from rx);obtain⟨h1,h2,ys,pr,dd⟩:=JD I hH (λx hx=>ZO (tv x hx)) (by rw [<-ek];exact nd);refine wpAny_notIn_heap (knd:=Mv X.prog X.w) (show X.A.units+1+8<cLine by have:=hr.un;omega) (Ys I T b (ZO r1)) h1 dd ⟨.bl _,H,I.tok _,rfl,post (.bl _) _ _ _ (.refl H) rh ?_ q⟩;show V.bl (!(aZ ys T).isSome)= .bl (true !=(zq kv T).isSome);cases g:zq kv T with
 |none=>rw [(ye ek rv pr).2 g];rfl
 |some d=>obtain⟨_,_,hp,_⟩:=(ye ek rv pr).1 d g;rw [hp];rfl
def NH (td ty:TE):TE:=λσ H Q=>td σ H λx H1=>ty σ H1 λy H2=> ∃ (a b:G6) (T:G0 (G0 G8)) (ep:P0) (xs:KT2),x= .ref a/\y= .ref b/\H2 a=some (Zu a ep xs)/\(∀x∈xs,Xk H2 x.1 x.2.1)/\(xs.map (·.1)).Nodup/\Xk H2 T b/\ ∃v,(∀ys,Paired yy xs ys-> ∃p,aZ ys T=some p/\RelV v p.2)/\Q v H2
theorem Pq {o i:D8}{td ty:TE}{pos:Pos}(hu:X.A.units+9<cLine)(ho:PE X o td)(hi:PE X i ty)(hs:MQ i):PE X (.Subscript o i pos) (NH td ty):=by
 intro pins s σ H Q I h;refine Gm PySem.F.slot_dict_getitem.lookup hs (thn (ho pins s σ H _ I h) λu s1 ⟨x,H1,I1,rx,q1⟩=>thn (hi pins s1 σ H1 _ I1 q1) λiv s2 ⟨y,H2,I2,ry,a,b,T,ep,xs,ex,ey,hH,ks,nd,hT,v,g,q2⟩=> ?_);subst ex ey;obtain rfl:u=L6 a:=rx;obtain rfl:iv=L6 b:=ry;obtain⟨h1,h2,ys,pr,dd⟩:=JD I2 hH ks nd;obtain⟨p,hp,rp⟩:=g ys pr;exact⟨dd.typeIs,wpAny_getItem_heap (knd:=Mv X.prog X.w) (show X.A.units+1+8<cLine by omega) (Ys I2 T b hT) dd hp ⟨v,H2,I2.tok _,rp,q2⟩⟩
theorem Ci {k : P0} {a b : D8} {ta tb : TED} {pos : Pos} (hr : Room k X.A) (ha : JE X a ta) (hb : JE X b tb) (hs : MQ b := by intro _ _; rfl) : JE X (.Subscript a b pos) (dOp ixT ta tb) :=
  ⟨(Pq (by have := hr.un; omega) ha.to hb.to hs).imp fun σ H Q ⟨mC, h, Qd, rs, rh, t, post⟩ => LE.bind rs rh t fun d v h1 H1 k1 rs1 rh1 r1 t1 => LE.bind rs1 rh1 t1 fun d2 v2 h2 H2 k2 rs2 rh2 r2 ⟨a, T, ep, kv, d3, e1, e2, e, g, q⟩ => by
    subst e1 e2
    cases (show v = .ref a from r1)
    obtain ⟨b, us, ex, _⟩ := (show ∃ b vs, v2 = .ref b ∧ H2 b = some (.tup vs) ∧ RelDs X.K H2 (T.map zw) vs from r2)
    subst ex
    obtain ⟨xs, hH, nd, ek, tv, rv⟩ := (show ∃ xs : KT2, _ from rh2.dc a _ e)
    -- what stands there, whatever the heap holds
    have val : ∃ w, RelD X.K H2 d3 w ∧ ∀ ys, Paired yy xs ys → ∃ p, aZ ys T = some p ∧ RelV w p.2 := by
      clear q hH nd tv e
      induction kv generalizing xs with
      | nil => cases g
      | cons p kv ih =>
        cases xs with
        | nil => cases ek
        | cons x xs =>
          rw [R0, R0] at ek
          injection ek with ek1 ek2
          obtain ⟨v0, t, z', w1, w2⟩ := (show ∃ v t, x.2.2 :: xs.map (·.2.2) = v :: t ∧ RelD X.K H2 p.2 v ∧ RelDs X.K H2 (kv.map (·.2)) t from rv)
          injection z' with z1 z2
          subst z1 z2
          by_cases c : p.1 = T
          · have : zq (p :: kv) T = some p.2 := by simp [zq, N2, c]
            rw [this] at g
            injection g with g
            subst g
            refine ⟨x.2.2, w1, fun ys pr => ?_⟩
            cases pr with
            | cons r z =>
              rename_i y ys
              have : y.1 = T := by rw [← r.1, ← ek1, c]
              exact ⟨y.2, by simp [aZ, N2, this], r.2.2⟩
          · have : zq (p :: kv) T = zq kv T := by simp [zq, N2, c]
            rw [this] at g
            obtain ⟨w, rw_, all⟩ := ih g xs ek2 w2
            refine ⟨w, rw_, fun ys pr => ?_⟩
            cases pr with
            | cons r z =>
              rename_i y ys
              have : ¬ y.1 = T := by rw [← r.1, ← ek1]; exact c
              obtain ⟨p', hp, rp⟩ := all ys z
              exact ⟨p', by rw [show aZ (y :: ys) T = aZ ys T by simp [aZ, N2, this]]; exact hp, rp⟩
    obtain ⟨w, rw_, all⟩ := val
    exact ⟨a, b, T, ep, xs, rfl, rfl, hH, fun x hx => ZO (tv x hx), by rw [← ek]; exact nd, ZO r2, w, all, post d3 w _ _ (k1.trans k2) rh2 rw_ q⟩⟩
end
def Qz (xs:KT2)(T:G0 (G0 G8))(v:V):KT2:=xs.map λx=>if x.1=T then (x.1,x.2.1,v) else x
theorem vy {v:V}{u:G2}(rv:RelV v u): ∀ {xs:KT2} {ys:G0 (G0 (G0 G8)×G6×G2)},Paired yy xs ys->Paired yy (Qz xs T v) (ys.map (putAt T u))
 |_,_,.nil=> .nil
 |_,_,.cons (a:=x) (b:=y) r z=>by
  refine .cons ?_ (vy rv z);show yy (if x.1=T then (x.1,x.2.1,v) else x) (putAt T u y);unfold putAt
  by_cases c:x.1=T
  ·rw [R3 c,R3 (by rw [<-r.1];exact c)];exact⟨r.1,r.2.1,rv⟩
  ·rw [S4 c,S4 (by rw [<-r.1];exact c)];exact r
theorem UM (xs:KT2)(T:G0 (G0 G8))(v:V):(Qz xs T v).map (·.1)=xs.map (·.1):=by
 unfold Qz;rw [S7];exact T7 λx _=>by show (if x.1=T then (x.1,x.2.1,v) else x).1=x.1;split<;>rfl
theorem XV {xs:KT2}{v:V}{x:G0 (G0 G8)×G6×V}(h:x∈Qz xs T v): ∃x0∈xs,x0.1=x.1/\x0.2.1=x.2.1:=by
 obtain⟨x0,m,rfl⟩:=T5.mp h;exact⟨x0,m,by split<;>exact⟨rfl,rfl⟩⟩
section
variable {K:G1}{H:Hp}{T:G0 (G0 G8)}{d:D}{v:V}
theorem ZQ (rd:RelD K H d v): ∀ {kv:G0 (G0 (G0 G8)×D)} {xs:KT2},kv.map (·.1)=xs.map (·.1)->RelDs K H (kv.map (·.2)) (xs.map (·.2.2))->RelDs K H ((kv.map (λp=>if p.1=T then (p.1,d) else p)).map (·.2)) ((Qz xs T v).map (·.2.2))
 | [],[],_,_=>rfl
 |p::r,[],e,_=>by cases e
 | [],q::xs,e,_=>by cases e
 |p::r,q::xs,e,h=>by
  rw [R0,R0] at e;injection e with e1 e2
  obtain⟨v0,t,z',h1,h2⟩:=(show ∃v t,q.2.2::xs.map (·.2.2)=v::t/\RelD K H p.2 v/\RelDs K H (r.map (·.2)) t from h);injection z' with z1 z2
  subst z1 z2;refine⟨_,_,rfl,?_,ZQ rd e2 h2⟩;show RelD K H (if p.1=T then (p.1,d) else p).2 (if q.1=T then (q.1,q.2.1,v) else q).2.2
  by_cases c:p.1=T
  ·rw [R3 c,R3 (e1 ▸ c)];exact rd
  ·rw [S4 c,S4 (e1 ▸ c)];exact h1
theorem Jg: ∀ {ds:G0 D} {vs:G0 V},RelDs K H ds vs->RelD K H d v->RelDs K H (ds++ [d]) (vs++ [v])
 | [],vs,r,rd=>by
  have:vs= []:=r;subst this;exact⟨_,_,rfl,rd,rfl⟩
 |d0::ds,vs,r,rd=>by
  obtain⟨v0,t,rfl,r1,r2⟩:=(show ∃v t,vs=v::t/\RelD K H d0 v/\RelDs K H ds t from r);exact⟨_,_,rfl,r1,Jg r2 rd⟩
end
theorem WE {α:Type}{kv:G0 (G0 (G0 G8)×α)}(h:zq kv T=none):T ∉ kv.map (·.1):=λz=>by
 obtain⟨p,hp,e⟩:=T5.mp z;unfold zq at h;rw [bM,dD] at h;exact h p hp (N3 e)
def NI (td ty tv:TE):TS:=λD σ H=>tv σ H λv H1=>td σ H1 λx H2=>ty σ H2 λy H3=> ∃ (a b:G6) (T:G0 (G0 G8)) (ep:P0) (xs xs':KT2),x= .ref a/\y= .ref b/\H3 a=some (Zu a ep xs)/\(∀x∈xs,Xk H3 x.1 x.2.1)/\(xs.map (·.1)).Nodup/\Xk H3 T b/\(∀ys u,Paired yy xs ys->RelV v u->Paired yy xs' (storedH ys T b u))/\xs'.length<=sizeLine/\ ∀ep',D.nx σ (upd H3 a (Zu a ep' xs'))
section
variable {X:Cx}
theorem Pr {o i value:D8}{td ty tv:TE}{pos pos':Pos}(hu:X.A.units+9<cLine)(ho:PE X o td)(hi:PE X i ty)(hv:PE X value tv)(hs:L8 value (some (.Subscript o i pos')) pos.line X.env=pure false):PS X (.Assign [.Subscript o i pos'] value pos) (NI td ty tv):=by
 intro pins s σ H D I h;refine wpAny_Assign_Subscript (thn (hv pins s σ H _ I h) λr s1 ⟨v,H1,I1,rv,q1⟩=>thn (ho pins s1 σ H1 _ I1 q1) λu s2 ⟨x,H2,I2,rx,q2⟩=>thn (hi pins s2 σ H2 _ I2 q2) λiv s3 ⟨y,H3,I3,ry,a,b,T,ep,xs,xs',ex,ey,hH,ks,nd,hT,st,lz,q3⟩=> ?_) hs;subst ex ey;obtain rfl:u=L6 a:=rx;obtain rfl:iv=L6 b:=ry;exact XU (v:=v) hu I3 hH ks nd hT (λys pr=>st ys r pr rv) lz λep' s4 I4=>⟨σ,_,I4,q3 ep'⟩
def NJ (td ty tv:TED):TSD:=λE σ h=>tv σ h λv h1=>td σ h1 λx h2=>ty σ h2 λy h3=> ∃a T ep kv,x= .dct a/\y=jp T/\h3.dc a=some (.tk ep kv)/\kv.length<1000/\ ∀ep',E.nx σ (Qm h3 a (.tk ep' (Vm kv T v)))
theorem Ps {k : P0} {o i value : D8} {td ty tv : TED} {pos pos' : Pos} (hr : Room k X.A) (ho : JE X o td) (hi : JE X i ty) (hv : JE X value tv) (hs : L8 value (some (.Subscript o i pos')) pos.line X.env = pure false := by rfl) : JS X (.Assign [.Subscript o i pos'] value pos) (NJ td ty tv) :=
  ⟨(Pr (by have := hr.un; omega) ho.to hi.to hv.to hs).imp fun D σ H ⟨mC, h, Dd, rs, rh, t, nx, _⟩ => LE.bind rs rh t fun d v h1 H1 k1 rs1 rh1 r1 t1 => LE.bind rs1 rh1 t1 fun d2 v2 h2 H2 k2 rs2 rh2 r2 t2 => LE.bind rs2 rh2 t2 fun d3 v3 h3 H3 k3 rs3 rh3 r3 ⟨a, T, ep0, kv, e1, e2, e, hl, q⟩ => by
    subst e1 e2
    cases (show v2 = .ref a from r2)
    obtain ⟨b, us, ex, _⟩ := (show ∃ b vs, v3 = .ref b ∧ H3 b = some (.tup vs) ∧ RelDs X.K H3 (T.map zw) vs from r3)
    subst ex
    obtain ⟨xs, hH, nd, ek, tv, rv⟩ := (show ∃ xs : KT2, _ from rh3.dc a _ e)
    have ob : DObj (Zu a ep0 xs) := .inr ⟨_, rfl⟩
    have rd := (r1.mono k2).mono k3
    have len : xs.length = kv.length := by have := congrArg X5 ek; simpa using this.symm
    have big : kv.length + 1 ≤ sizeLine := T8 hl (by decide)
    cases g : zq kv T with
    | some d0 =>
      have ep : Vm kv T d = kv.map (fun p => if p.1 = T then (p.1, d) else p) := by unfold Vm; rw [g]; rfl
      refine ⟨a, b, T, ep0, xs, Qz xs T v, rfl, rfl, hH, fun x hx => ZO (tv x hx), by rw [← ek]; exact nd, ZO r3, fun ys u pr ru => ?_, by unfold Qz; rw [G3, len]; omega, fun ep' => nx mC _ σ _ (k1.trans (k2.trans (k3.trans (.putD hH ob)))) (rs3.mono (.putD hH ob)) (rh3.putC (c := .tk ep' (Vm kv T d)) hH ob ?_) (q ep')⟩
      · obtain ⟨_, p, hp, _⟩ := (ye ek rv pr).1 d0 g
        rw [storedH_old hp]
        exact vy ru pr
      · rw [ep]
        refine ⟨Qz xs T v, jl, ?_, ?_, fun x hx => ?_, (ZQ rd ek rv).mono (.putD hH ob)⟩
        · rw [S7, show kv.map ((·.1) ∘ fun p => if p.1 = T then (p.1, d) else p) = kv.map (·.1) from T7 fun p _ => by show (if p.1 = T then (p.1, d) else p).1 = p.1; split <;> rfl]
          exact nd
        · rw [UM, ← ek, S7]
          exact T7 fun p _ => by show (if p.1 = T then (p.1, d) else p).1 = p.1; split <;> rfl
        · obtain ⟨x0, m, a1, a2⟩ := XV hx
          rw [← a1, ← a2]
          exact (tv x0 m).mono (.putD hH ob)
    | none =>
      have ep : Vm kv T d = kv ++ [(T, d)] := by unfold Vm; rw [g]; rfl
      refine ⟨a, b, T, ep0, xs, xs ++ [(T, b, v)], rfl, rfl, hH, fun x hx => ZO (tv x hx), by rw [← ek]; exact nd, ZO r3, fun ys u pr ru => ?_, by rw [S1, len]; exact big, fun ep' => nx mC _ σ _ (k1.trans (k2.trans (k3.trans (.putD hH ob)))) (rs3.mono (.putD hH ob)) (rh3.putC (c := .tk ep' (Vm kv T d)) hH ob ?_) (q ep')⟩
      · rw [storedH_new ((ye ek rv pr).2 g)]
        exact pr.snoc ⟨rfl, rfl, ru⟩
      · rw [ep]
        refine ⟨xs ++ [(T, b, v)], jl, ?_, by rw [R9, R9, ek]; rfl, fun x hx => ?_, ?_⟩
        · rw [R9]
          refine dW.mpr ⟨nd, by simp, fun x hx y hy z => ?_⟩
          rw [P2.mp hy] at z
          have z : x = T := z
          subst z
          exact WE g hx
        · rcases R8.mp hx with m | m
          · exact (tv x m).mono (.putD hH ob)
          · rw [P2.mp m]
            exact r3.mono (.putD hH ob)
        · rw [R9, R9]
          exact (Jg rv rd).mono (.putD hH ob)⟩
end
end L2
namespace L2
open PySem PySem.Spec PyProof.Rows PySem.SeqAt
def Cj (to te:TED):TED:=λσ h Q=>to σ h λx h1=> ∃a,x= .lst a/\te σ h1 λy h2=> ∃b xs ys,y= .lst b/\h2 a=some xs/\h2 b=some ys/\xs.length+ys.length<=sizeLine/\Q .non (zi h2 a (xs++ys))
theorem ZR {K:G1}{H:Hp}: ∀ {ds es:G0 D} {vs us:G0 V},RelDs K H ds vs->RelDs K H es us->RelDs K H (ds++es) (vs++us)
 | [],es,vs,us,r,r'=>by
  have:vs= []:=r;subst this;exact r'
 |d::ds,es,vs,us,r,r'=>by
  obtain⟨v,t,rfl,r1,r2⟩:=(show ∃v t,vs=v::t/\RelD K H d v/\RelDs K H ds t from r);exact⟨_,_,rfl,r1,ZR r2 r'⟩
section
variable {X:Cx}{o e:D8}{to te:TED}{apos cpos:Pos}
theorem Ck (ho : JE X o to) (he : JE X e te) (hbase : A8 o "extend" X.env (B6 o X.env) = B6 o X.env := by rfl)
    (hfew : ((H0 cpos (P8 [e] X.env)).all (fun x => !x.1) && (cC cpos (X6 [] X.env)).all (fun x => x.1.isSome) && decide ([e].length + ([] : G0 V7).length + (if ([] : G0 V7).isEmpty then 0 else 1) < 30)) = true := by rfl)
    (hline : (apos.endLine == cpos.line) = true := by rfl) (hs : P8 [e] X.env = (false, B6 e X.env) :: P8 [] X.env := by rfl) (hplain : (H0 cpos (P8 [] X.env)).any (·.1) = false := by rfl) :
    JE X (.Call (.Attribute o "extend" apos) [e] [] cpos) (Cj to te) :=
  ⟨(Gh V3 iA iB VF ho.to (wG he.to pa_nil hs) hbase hfew hline hs hplain).imp
    fun σ H Q ⟨mC, h, Qd, rs, rh, t, p⟩ => LE.bind rs rh t fun d v h1 H1 k1 rs1 rh1 r1 ⟨a, e, q⟩ => by
      subst e
      obtain ⟨e1, vs, hH⟩ := (show v = .ref a ∧ ∃ vs, H1 a = some (.lst vs) from r1)
      subst e1
      refine ⟨.inl ⟨rfl, vs, SqL.of hH⟩, ?_⟩
      refine LE.bind rs1 rh1 q fun y u h2 H2 k2 rs2 rh2 r2 ⟨b, xs, ys, ey, hx, hy, hz, q2⟩ => ?_
      subst ey
      obtain ⟨e2, _⟩ := (show u = .ref b ∧ ∃ vs, H2 b = some (.lst vs) from r2)
      subst e2
      obtain ⟨ws, hW, rW⟩ := rh2 a xs hx
      obtain ⟨zs, hZ, rZ⟩ := rh2 b ys hy
      exact ⟨a, b, ws, zs, rfl, rfl, hW, hZ, by rw [← rW.length, ← rZ.length]; exact hz, p .non _ _ _ ((k1.trans k2).trans (.put hW)) (rh2.put hW (ZR rW rZ)) rfl q2⟩⟩
end
end L2
namespace L2
open PySem PySem.Spec PyProof.Rows HT
section
variable {prog:S2}{w:M6}{A:M5}{E:G2->G5->Prop}{s:G5}
theorem Jh {it d:G6}{i n ep:P0}{dd:P5 G6}{es:B3 Z6}{sl:B3 (P5 G2)}{ok ov:G2}{P:Z5->G5->Prop}(hit:U8 s.heap it d i n ep ok ov)
 (hd:s.heap.get? d=some {cls:= .type "dict",dict:=dd,data:= .dict es ep,slots:=sl})(hn:es.size=n)
 (more: ∀ (e:Z6) h',es[i]? =some e->iC h' it d (i+1) n ep e.key e.val s.heap.objs.size->h'.get? s.heap.objs.size=some {cls:= .type "tuple",data:= .seq #[e.key,e.val]}->h'.objs.size=s.heap.objs.size+1->(∀b o,b≠it->s.heap.get? b=some o->h'.get? b=some o)->P (.done (.ret (.ref s.heap.objs.size))) {s with heap:=h'})
 (none_:es[i]? =none->D7 (R1 prog w) A (do setField (.ref it) 2 .none;raiseNew (<-newExc (.type "StopIteration") [])) P E s):D7 (R1 prog w) A (Builtin.«dict_itemiterator.__next__» ⟨[.ref it],[]⟩) P E s:=by
 have hT:s.TypeIs (.ref it) "dict_itemiterator" :=⟨_,hit,rfl⟩;have tn:=λ{Q:O1->G5->Prop} {E':G2->G5->Prop} {A':M5} (h:Q "dict_itemiterator" s)=>wpAny_typeNameOfWhole_itemiter (prog:=prog) (w:=w) (A:=A') (E:=E') hT h
 obtain⟨hp,g,dr,tk,os⟩:=s
 wp_walk using tn
 rw [S4 (show ¬ ((i:G8)<0) by omega),dQ];cases hx:es[i]? with
 |none=>exact wpAny_bind (wpAny_bind (tn (G9 (none_ hx))))
 |some e=>
  have il:it<hp.objs.size:=P9 hit;have tup: ∀ {h0:N5} {o:Obj},h0.objs.size=hp.objs.size->(h0.push o).objs.size=hp.objs.size+1:=λq=>by rw [K0,q]
  refine wpAny_bind (wpAny_bind (tn (G9 (wpAny_bind (W9 hT ?_)))));show D7 _ _ (setField (.ref it) 3 (lS ((i:G8)+1)) >>= _) _ _ _;refine wpAny_bind (E9 hit (by simp) λh1 e1 s1=> ?_);have e1:U8 h1 it d (i+1) n ep ok ov:=by unfold U8;rw [show ((i+1:P0):G8)=(i:G8)+1 by omega];simpa [lS] using e1
  have T1:Shared.TypeIs ⟨h1,g,dr,tk,os⟩ (.ref it) "dict_itemiterator" :=⟨_,e1,rfl⟩;refine wpAny_bind (O5 (wpAny_bind (W9 T1 (wpAny_bind (W9 T1 ?_)))));show D7 _ _ (X0 (.ref it) 6 e.key e.val) _ _ _;unfold X0;refine wpAny_bind (gR ?_);have sz1:h1.objs.size=hp.objs.size:=s1.1;have e2:U8 (h1.push {cls:= .type "tuple",data:= .seq #[e.key,e.val]}) it d (i+1) n ep ok ov:=G7 _ e1;have new:(h1.push {cls:= .type "tuple",data:= .seq #[e.key,e.val]}).get? h1.objs.size=some {cls:= .type "tuple",data:= .seq #[e.key,e.val]}:=D4 _ rfl;have sz2:=tup (o:= {cls:= .type "tuple",data:= .seq #[e.key,e.val]}) sz1;have old: ∀b o,b≠it->hp.get? b=some o->(h1.push {cls:= .type "tuple",data:= .seq #[e.key,e.val]}).get? b=some o:=λb o nb q=>G7 _ (s1.extBut b o nb q)
  have fin:=more e;show D7 _ _ (Q5 (.ref it) >>= _) _ _ ⟨h1.push {cls:= .type "tuple",data:= .seq #[e.key,e.val]},g,dr,tk,os⟩;rw [sz1] at new ⊢;revert e2 new sz2 old;generalize h1.push ({cls:= .type "tuple",data:= .seq #[e.key,e.val]}:Obj)=h2;intro e2 new sz2 old;have nn:hp.objs.size≠it:=O4 il;refine wpAny_bind ?_;unfold Q5;refine wpAny_bind (V0 e2 rfl (x:= .none) rfl (G9 ?_));simp only [aP];refine wpAny_bind (V0 e2 rfl (x:=ok) rfl (wpAny_bind (V0 e2 rfl (x:=ov) rfl ?_)));refine wpAny_bind (E9 e2 (by simp) λh3 e3 s3=> ?_);refine wpAny_bind (E9 (show U8 h3 it d (i+1) n ep e.key ov from e3) (by simp) λh4 e4 s4=> ?_);refine wpAny_bind (E9 (show U8 h4 it d (i+1) n ep e.key e.val from e4) (by simp) λh5 e5 s5=> ?_);refine wpAny_bind (E9 (show iC h5 it d (i+1) n ep e.key e.val hp.objs.size from e5) (by simp) λh6 e6 s6=> ?_);have kp: ∀b o,b≠it->h2.get? b=some o->h6.get? b=some o:=λb o nb q=>s6.extBut b o nb (s5.extBut b o nb (s4.extBut b o nb (s3.extBut b o nb q)))
  refine wpAny_bind (wpAny_letGo (G9 (G9 ?_)));exact fin h6 hx e6 (kp _ _ nn new) (by rw [s6.1,s5.1,s4.1,s3.1,sz2]) λb o nb q=>kp b o nb (old b o nb q)
theorem UN {d:G6}{dd:P5 G6}{es:B3 Z6}{ep:P0}{sl:B3 (P5 G2)}{P:Z5->G5->Prop}(hd:s.heap.get? d=some {cls:= .type "dict",dict:=dd,data:= .dict es ep,slots:=sl})(lo:(d==U1)=false)
 (h:P (.done (.ret (.ref s.heap.objs.size))) {s with heap:=s.heap.push {cls:= .type "dict_items",data:= .fields #[.ref d]}}):D7 (R1 prog w) A (Builtin.«dict.items» ⟨[.ref d],[]⟩) P E s:=by
 have hT:s.TypeIs (.ref d) "dict" :=⟨_,hd,rfl⟩;unfold Builtin.«dict.items» Builtin.Dict.noArgs;refine wpAny_bind (wpAny_bind (wpAny_notOrdered_dict hT (G9 ?_)));unfold Builtin.Dict.showsAll;show D7 _ _ ((if (d==U1)=true then _ else _) >>= _) _ _ s;rw [S4 (by rw [lo];exact P3)];exact wpAny_bind (G9 (wpAny_bind (F1 (G9 h))))
theorem UO {v d:G6}{dd:P5 G6}{es:B3 Z6}{ep:P0}{sl:B3 (P5 G2)}{Q:G2->G5->Prop}(hv:s.heap.IsItemsView v d)(hd:s.heap.get? d=some {cls:= .type "dict",dict:=dd,data:= .dict es ep,slots:=sl})
 (h: ∀h',U8 h' s.heap.objs.size d 0 es.size ep .none .none->(∀b o,s.heap.get? b=some o->h'.get? b=some o)->Q (.ref s.heap.objs.size) {s with heap:=h'}):D7 (R1 prog w) A (gE (.ref v)) Q E s:=by
 obtain⟨ov,hov,hcv,hdv⟩:=id hv;refine wpAny_pyIter_slot hv.typeIs bO (B1 bO hv.typeIs F.entry_dict_items_iter ?_ (F.args_dict_items_iter_1 _));unfold Builtin.«dict_items.__iter__»;refine wpAny_bind (G9 (wpAny_bind ?_));unfold gU;refine wpAny_bind (V0 hov hdv (x:= .ref d) rfl (G9 (wpAny_bind ?_)));unfold fB;refine wpAny_bind (wpAny_dictEntries hd rfl (wpAny_bind (wpAny_dictEpoch hd rfl ?_)));have new:(s.heap.push {cls:= .type "dict_itemiterator",data:= .fields #[.none,.bool false,.ref d,.int 0 0,.int es.size 0,.int ep 0,.none,.none]}).get? s.heap.objs.size=some {cls:= .type "dict_itemiterator",data:= .fields #[.none,.bool false,.ref d,.int 0 0,.int es.size 0,.int ep 0,.none,.none]}:=D4 _ rfl;have fin:=h _ new λb o e=>G7 _ e
 refine F1 (G9 ⟨_,rfl,"dict_itemiterator",_,⟨_,D4 _ rfl,rfl⟩,F.slot_dict_itemiterator_next.lookup,?_⟩) ?_
 ·exact fin
 ·simp only [sizeOk,show fY "dict_itemiterator" =true from by decide,aP];show 8<=sizeLine+2;decide
end
def Iti (a : G6) (ep n : P0) : It :=
  ⟨fun i H => ∃ xs x, H a = some (Zu a ep xs) ∧ xs.length = n ∧ xs[i]? = some x,
   fun i H v H' => ∃ p b u, H p = none ∧ (∀ xs, H a = some (Zu a ep xs) → ∃ T, xs[i]? = some (T, b, u)) ∧ v = .ref p ∧ H' = upd H p (.tup [.ref b, u]),
   fun i H => ∃ xs, H a = some (Zu a ep xs) ∧ xs.length = n ∧ n ≤ i⟩
variable {X:Cx}{a:G6}{ep:P0}
theorem vz {pins:G0 (G6×Obj)}{σ:St}{H:Hp}{s:G5}{xs:KT2}(I:Inv X pins σ H s)(hH:H a=some (Zu a ep xs)):(a==U1)=false/\ ∃ (sl:B3 (P5 G2)) (es:B3 Z6) (ys:G0 (G0 (G0 G8)×G6×G2)),s.heap.get? a=some {cls:= .type "dict",dict:=none,data:= .dict es ep,slots:=sl}/\Paired yy xs ys/\es.toList=ys.map (λx=>⟨Wr x.1,.ref x.2.1,x.2.2⟩)/\es.size=xs.length:=by
 obtain⟨⟨h1,h2,ys,pr,⟨oc,od,odt,osl⟩,es,ho,⟨c1,c2,c3⟩,hd,he⟩,_,_⟩:=I.hok a _ hH;simp only at c1 c2 hd;subst c1 c2 hd;refine⟨h1,osl,es,ys,ho,pr,he,?_⟩;rw [<-K8,he,G3];exact(jN pr).2.1.symm
theorem Pt {pins:G0 (G6×Obj)}{σ:St}{s:G5}{xs xs':KT2}{H:Hp}(I:Inv X pins σ H s)(e:H a=some (Zu a ep xs))(e':H a=some (Zu a ep xs')){i:P0}{x:G0 (G0 G8)×G6×V}(hx:xs[i]? =some x): ∃T,xs'[i]? =some (T,x.2.1,x.2.2):=by
 obtain⟨_,_,es,ys,h1,pr,he,hn⟩:=vz I e;obtain⟨_,_,es',ys',h1',pr',he',hn'⟩:=vz I e';rw [h1] at h1';cases h1';have il:i<ys.length:=by rw [<- (jN pr).2.1];exact(D1.mp hx).1
 have l':ys'.length=ys.length:=by have:=congrArg X5 (he.symm.trans he');simpa using this.symm
 have lx:i<xs'.length:=by rw [(jN pr').2.1,l'];exact il
 obtain⟨p1,p2,p3⟩:=wv pr hx (G4 il);obtain⟨q1,q2,q3⟩:=wv pr' (G4 lx) (G4 (by rw [l'];exact il));have z:=congrArg (λl=>l[i]?) (he.symm.trans he');simp only [P7,G4 il,G4 (show i<ys'.length by rw [l'];exact il),Y3] at z;injection z with z
 injection z with z1 z2 z3
 injection z2 with z2
 refine⟨xs'[i].1,?_⟩;rw [G4 lx];have b:xs'[i].2.1=x.2.1:=by rw [q2,p2,z2]
 have u:xs'[i].2.2=x.2.2:=by rw [<-z3] at q3;exact q3.inj p3
 rw [<-b,<-u]
theorem YX {P:S2}{w:M6}{K:G1}{es:G0 D8}{k:P0}{pos:Pos}(a it:G6)(ep n:P0)(ne:a≠it):Turn P w K (.Tuple es k pos) (Iti a ep n) [it] it (λi h=> ∃ok ov,U8 h it a i n ep ok ov) where
 mem:=by simp
 obj:=λi h ⟨ok,ov,q⟩ b hb=>by rw [P2.mp hb];exact⟨_,q,λv z=>by cases z⟩
 keep:=λi h h' ⟨ok,ov,q⟩ k=>⟨ok,ov,k it (by simp) _ q⟩
 item:=by
  intro X hP hw hK hc i pins s σ H E I hf st hg;subst hP hw hK;obtain⟨ok,ov,hit⟩:=st;obtain⟨xs,x,hH,hl,hx⟩:=hg;obtain⟨_,sl,es,ys,hd,pr,he,hn⟩:=vz I hH;have ty:s.TypeIs (.ref it) "dict_itemiterator" :=⟨_,hit,rfl⟩;have itl:it<s.heap.objs.size:=P9 hit;have il:i<ys.length:=by rw [<- (jN pr).2.1];exact(D1.mp hx).1
  have hy:ys[i]? =some ys[i]:=G4 il;obtain⟨p1,p2,p3⟩:=wv pr hx hy;have ee:es[i]? =some ⟨Wr ys[i].1,.ref ys[i].2.1,ys[i].2.2⟩:=by rw [<-Array.getElem?_toList,he,P7,hy];rfl
  unfold gD;refine wpAny_bind (iD (E4 (name:=V5 "__next__") ty L5 (B1 L5 ty X3 (Jh hit hd (hn.trans hl) (λe h' hx' out new sz kept=>⟨_,rfl,G9 ⟨_,rfl,wpAny_letOwnedTupleGo_items out λh2 it2 same=> ?_⟩⟩) λz=>by rw [ee] at z;cases z) (X1 _))));rw [ee] at hx';injection hx' with hx'
  subst hx';have hnew:h2.get? s.heap.objs.size=some {cls:= .type "tuple",data:= .seq #[.ref ys[i].2.1,ys[i].2.2]}:=same.extBut _ _ (O4 itl) new;refine⟨.ref s.heap.objs.size,upd H s.heap.objs.size (.tup [.ref x.2.1,x.2.2]),I.turnLaid (h':=h2) (t':=s.toks) (ch:= [it]) (λb u hb q=> ?_) hf (D0 _) ⟨by show 2<=sizeLine;decide,[.ref ys[i].2.1,ys[i].2.2],.cons (by rw [p2];rfl) (.cons p3 .nil),⟨_,hnew,rfl,rfl,_,rfl⟩⟩,rfl,⟨_,x.2.1,x.2.2,I.hok.fresh (D0 _),λxs' h'=> ?_,rfl,rfl⟩,⟨_,_,it2⟩,λb hb=> ?_⟩
  ·have nb:b≠it:=λz=>hb (by simp [z])
   exact same.extBut b u nb (kept b u nb q)
  ·exact Pt I hH h' hx
  ·rw [P2.mp hb,jg (R7 itl)];exact(hf it (by simp)).1
 done:=by
  intro X hP hw hK hc i pins s σ H E I hf st hg;subst hP hw hK;obtain⟨ok,ov,hit⟩:=st;obtain⟨xs,hH,hl,hi⟩:=hg;obtain⟨_,sl,es,ys,hd,pr,he,hn⟩:=vz I hH;have ty:s.TypeIs (.ref it) "dict_itemiterator" :=⟨_,hit,rfl⟩;unfold gD;refine wpAny_bind (iD (E4 (name:=V5 "__next__") ty L5 (B1 L5 ty X3 (Jh hit hd (hn.trans hl) (λe h' hx' _ _ _ _=>by have:=(Array.getElem?_eq_some_iff.mp hx').1;omega) λ_=>wpAny_bind (wpAny_setField hit rfl (by simp) (Wx (s:= {s with heap:=_}) (I.ok.hd hc) λh' e grown stop=> ?_))) (X1 _))));obtain⟨o,eo,co⟩:=stop;refine wpAny_bind (aY (T:= "StopIteration") (b:=true) ⟨o,eo,co⟩ isSubtype_stop ?_);have kp: ∀b o,b ∉ [it]->s.heap.get? b=some o->h'.get? b=some o:=λb o hb q=>grown b o ((V6 _ _ (λz=>hb (by simp [z]))).trans q)
  have I2:Inv X pins σ H {s with heap:=h'}:=I.turnL (t':=s.toks) (ch:= [it]) kp hf;exact G9 ⟨rfl,I2⟩
 self:=λ_ _ _ _ _ ⟨_,_,q⟩ h=>lO q h
def RW (td:TE):TI:=λσ H R=>td σ H λx H1=> ∃a ep xs,x= .ref a/\H1 a=some (Zu a ep xs)/\R (Iti a ep xs.length) H1
theorem XW {es:G0 D8}{k:P0}{tp:Pos}{o:D8}{td:TE}{apos cpos:Pos}(ho:PE X o td)(hbase:A8 o "items" X.env (B6 o X.env)=B6 o X.env:=by rfl)(hline:(apos.endLine==cpos.line)=true:=by rfl):
 PI X (.Tuple es k tp) (.Call (.Attribute o "items" apos) [] [] cpos) (RW td):=by
 intro pins s σ H R I h;refine wpAny_Call_method0_late hbase hline (thn (ho pins s σ H _ I h) λv s1 ⟨x,H1,I1,r1,a,ep,xs,ex,hH,q⟩=> ?_);subst ex;cases r1;obtain⟨lo,sl,es,ys,hd,pr,he,hn⟩:=vz I1 hH;have ty:s1.TypeIs (.ref a) "dict" :=⟨_,hd,rfl⟩;refine⟨"dict","dict.items",iM,a0,iN,ty,λb e=>by cases e;exact⟨_,hd,rfl⟩,Calls.callWith_builtin rfl (PySem.evalArgs_none (B1 a0 ty iE (UN hd lo ⟨_,rfl,?_⟩) (gV _)))⟩;have al:a<s1.heap.objs.size:=P9 hd;refine UO (s:= {s1 with heap:=s1.heap.push (Yt a)}) ⟨_,D4 _ rfl,rfl,rfl⟩ (G7 _ hd) λh' it kept=> ?_
 rw [hn] at it;have sz:(s1.heap.push (Yt a)).objs.size=s1.heap.objs.size+1:=K0 ..;have big:s1.heap.objs.size<=(s1.heap.push (Yt a)).objs.size:=by rw [sz];exact j5 _
 refine⟨_,[(s1.heap.push (Yt a)).objs.size],_,_,H1,rfl,I1.kept (t':=s1.toks) (λb u e=>kept b u (G7 _ e)),YX a _ ep xs.length (R7 (R4 al big)),⟨_,_,it⟩,λb hb=> ?_,q⟩;rw [P2.mp hb];exact I1.fpOk big (I1.hok.fresh big)
def yM (kv:G0 (G0 (G0 G8)×D)):G0 D:=kv.map λp=> .tup [jp p.1,p.2]
def yN (a:G6)(ep n:P0):ItD:=λh=>match h.dc a with
 |some (.tk e kv)=>if e=ep/\kv.length=n then some (yM kv) else none
 |_=>none
theorem ZS {h:HD}{kv:G0 (G0 (G0 G8)×D)}(e:h.dc a=some (.tk ep kv)):yN a ep kv.length h=some (yM kv):=by
 unfold yN;rw [e];exact R3 ⟨rfl,rfl⟩
theorem UP {h:HD}{n:P0}{ds:G0 D}(e:yN a ep n h=some ds): ∃kv,h.dc a=some (.tk ep kv)/\kv.length=n/\ds=yM kv:=by
 unfold yN at e;split at e
 ·rename_i e' kv q
  by_cases c:e'=ep/\kv.length=n
  ·rw [R3 c] at e;exact⟨kv,by rw [q,c.1],c.2,(M0 e).symm⟩
  ·rw [S4 c] at e;cases e
 ·cases e
theorem YY {K:G1}{H:Hp}(a:G6)(ep n:P0):GD K H (yN a ep n) (Iti a ep n):=λH' h' _ rh ds e i=>by
 obtain⟨kv,hc,hl,rfl⟩:=UP e;obtain⟨xs,hH,nd,ek,tv,rv⟩:=(show ∃xs:KT2,_ from rh.dc a _ hc);have len:xs.length=n:=by have:=congrArg X5 ek;rw [G3,G3] at this;omega
 refine⟨λd hd=> ?_,λhi=>⟨xs,hH,len,?_⟩⟩
 ·unfold yM at hd;rw [P7] at hd;obtain⟨p,hp,rfl⟩:=F2.mp hd;have il:i<xs.length:=by have:=(D1.mp hp).1;omega
  have hx:xs[i]? =some xs[i]:=G4 il;refine⟨⟨xs,xs[i],hH,len,hx⟩,λx H'' ⟨q,b,u,hq,all,ex,eH⟩=> ?_⟩;subst ex eH;obtain⟨T,hT⟩:=all xs hH;have k2:Kept H' (upd H' q (.tup [.ref b,u])):= .new hq;have e1:T=p.1:=by
   have:=congrArg (λl=>l[i]?) ek;simp only [P7,hp,hT,Y3] at this;exact(M0 this).symm
  subst e1;have r1:=tv _ (S0 hT);obtain⟨u',e2,r2⟩:=rv.get (i:=i) (d:=p.2) (by rw [P7,hp];rfl);rw [P7,hT] at e2;have e2:u=u':=M0 e2;subst e2;exact⟨k2,rh.new hq,q,[.ref b,u],rfl,jl,_,_,rfl,(show RelD K H' (jp p.1) (.ref b) from r1).mono k2,_,_,rfl,r2.mono k2,rfl⟩
 ·unfold yM at hi;rw [G3] at hi;omega
def iIt (td:TED):TID:=λσ h R=>td σ h λx h1=> ∃a ep kv,x= .dct a/\h1.dc a=some (.tk ep kv)/\R (yN a ep kv.length) h1
theorem Yu {es : G0 D8} {k : P0} {tp : Pos} {o : D8} {td : TED} {apos cpos : Pos} (ho : JE X o td) (hbase : A8 o "items" X.env (B6 o X.env) = B6 o X.env := by rfl) (hline : (apos.endLine == cpos.line) = true := by rfl) :
    JI X (.Tuple es k tp) (.Call (.Attribute o "items" apos) [] [] cpos) (iIt td) :=
  ⟨(XW ho.to hbase hline).imp fun σ H R ⟨mC, h, Rd, rs, rh, q, p⟩ => LE.bind rs rh q fun d v h1 H1 k1 rs1 rh1 r1 ⟨a, ep, kv, e, hc, q1⟩ => by
    subst e
    cases (show v = .ref a from r1)
    obtain ⟨xs, hH, nd, ek, tv, rv⟩ := (show ∃ xs : KT2, _ from rh1.dc a _ hc)
    have len : xs.length = kv.length := by have := congrArg X5 ek; rw [G3, G3] at this; omega
    exact ⟨a, ep, xs, rfl, hH, by rw [len]; exact p _ _ _ _ k1 rh1 (YY a ep kv.length) q1⟩⟩
end L2
namespace L2
open PySem PySem.Spec PyProof.Rows PySem.SeqAt HT
def Cl (te:TED):TED:=λσ h Q=>te σ h λx h1=> ∃a xs,x= .lst a/\h1 a=some xs/\ ∀p,h1 p=none->Q (.lst p) (zi h1 p xs.reverse)
theorem Cm {X:Cx}{e:D8}{te:TED}{pos p2 p3 p4:Pos}{j:P0}(he:JE X e te):JE X (.Subscript e (.Slice none none (some (.UnaryOp .USub (.Constant (.int 1) j p4) p3)) p2) pos) (Cl te):=⟨by
 intro pins s σ H Q I h;obtain⟨mC,h,Qd,rs,rh,t,p⟩:=h;refine c7 (thn (he.to pins s σ H _ I (LE.bind rs rh t λd v h1 H1 k1 rs1 rh1 r1 q1=>(show ∃h1 d,RelS X.K H1 mC σ/\RelH X.K h1 H1/\RelD X.K H1 d v/\Kept H H1/\ ∃a xs,d= .lst a/\h1 a=some xs/\ ∀p,h1 p=none->Qd (.lst p) (zi h1 p xs.reverse) from ⟨h1,d,rs1,rh1,r1,k1,q1⟩))) λv s1 ⟨x,H1,I1,r1,h1,d,rs1,rh1,rd,k1,a,xs,ed,hx,q1⟩=> ?_);subst ed;have ex:x= .ref a:=rd.1;subst ex;cases r1;refine i7 ?_;rw [cU];refine G9 (G9 ?_);rw [gY];have hneg:LE X.K (dUn Np (dC (.int 1))) σ H1 (λv H'=>v=V.int (-1)/\RelH X.K h1 H'/\Kept H1 H'):=
  ⟨mC,h1,λd h'=>d= .int (-1)/\h'=h1,rs1,rh1,⟨rfl,rfl⟩,λd v h' H' k rh' r' e=>by
   obtain⟨e1,e2⟩:=e;subst e1 e2;exact⟨r',rh',k⟩⟩
 refine thn ((Bi (Bh (X:=X) (i:=1) (j:=j) (pos:=p4)) (pos:=p3)) pins s1 σ H1 _ I1 hneg) λu s2 ⟨y,H2,I2,ry,ey,rh2,k2⟩=> ?_
 subst ey;obtain⟨tk,rfl⟩:=ry;have I4:Inv X pins σ H2 {s2 with heap:=s2.heap.push {cls:= .type "slice",data:= .fields #[.none,.none,.int (-1) tk]}}:=I2.kept (t':=s2.toks) λb ob q=>G7 _ q
 obtain⟨vs,hH,r3⟩:=rh2 a _ hx;obtain⟨its,r,ht,hz⟩:=I4.list (SqL.of hH);have hlen:its.toArray.size=vs.length:=by rw [P1];exact r.length.symm
 show D7 (R1 X.prog X.w) X.A (aT e (.Slice none none (some (.UnaryOp .USub (.Constant (.int 1) j p4) p3)) p2) (.ref a) (.ref s2.heap.objs.size)) (EP X pins σ Q) X.xe {s2 with heap:=s2.heap.push {cls:= .type "slice",data:= .fields #[.none,.none,.int (-1) tk]}};refine i8 (ops:= [.ref a,.ref s2.heap.objs.size]) ht.isList.typeIs slot_list_getitem.lookup ?_ (by with_unfolding_all rfl);refine aU (lo:=none) (hi:=none) (st:=some (-1)) ht.isList (Heap.IsSliceOf.new ..) .none .none (.int (-1) tk) (by intro z;injection z with z;omega) ?_ (by rw [hlen];exact hz);have hf:=I4.hok.fresh (D0 _);rw [lP];refine⟨.ref _,_,I4.laid (t':=s2.toks) (o:= .lst vs.reverse) (λb ob q=>G7 _ q) (D0 _) ⟨by rw [Y6];exact hz,_,0,Vals.rev r,D4 _ rfl⟩,rfl,?_⟩;exact p (.lst _) _ _ _ (k1.trans (k2.trans (.new hf))) (rh2.newL hf r3.rev) ⟨rfl,_,jl⟩ (q1 _ (rh2.free hf))⟩
end L2
namespace HT
open PySem PyProof.Rows
section
variable {prog:S2}{w:M6}{A:M5}{E:G2->G5->Prop}{s:G5}
theorem UQ {vs:G0 G2}:((vs.toArray.zip vs.toArray).map λx=>x.2)=vs.toArray:=by
 have e:((vs.toArray.zip vs.toArray).map λx=>x.2).toList=vs:=by
  rw [Array.toList_map,YT,S7];exact List.map_id vs
 rw [<-Array.toArray_toList (xs:=(vs.toArray.zip vs.toArray).map λx=>x.2),e]
theorem XX {a:G6}{vs:G0 G2}{n:P0}{P:Z5->G5->Prop}(few:vs.length<2)(ho:s.heap.get? a=some (cI "list" vs.toArray n))
 (q: ∀ (c tk:P0) (h':N5),Bq s a h'->h'.get? a=some (cI "list" vs.toArray c)->P (.done (.ret .none)) {s with heap:=h',toks:=tk}):
 D7 (R1 prog w) A (Builtin.«list.sort» ⟨[.ref a],[]⟩) P E s:=by
 have sz:vs.toArray.size<2:=by rw [P1];exact few
 have fits:vs.length<=sizeLine:=T8 (N1 few) (by decide);rw [list_sort_plain];refine wpAny_bind (listItems_at ho rfl ?_);obtain⟨c1,ho1⟩: ∃c,(s.heap.update a (A7 λ_=>(#[]:B3 G2))).get? a=some (cI "list" #[] c):=⟨_,fZ ho λ_=> #[]⟩;refine wpAny_bind (iF ho rfl ?_ (by rw [P1];exact fits) (O6 _));refine wpAny_bind (j6 ho1 rfl ?_);refine wpAny_bind (gR ?_ fits);refine wpAny_bind (iG ?_ (O6 _));refine O5 ?_;have past:Bq s a (((s.heap.update a (A7 λ_=>(#[]:B3 G2))).push {cls:= .type "tuple",data:= .seq vs.toArray.toList.toArray}).push {cls:= .type "list",data:= .seq ([]:G0 G2).toArray}):=λb x ne e=>by
  refine G7 _ (G7 _ ?_);rw [Y7 _ _ _ _ ne];exact e
 have ho3:=G7 ({cls:= .type "list",data:= .seq ([]:G0 G2).toArray}:Obj) (G7 ({cls:= .type "tuple",data:= .seq vs.toArray.toList.toArray}:Obj) ho1);revert past ho3;generalize ((s.heap.update a (A7 λ_=>(#[]:B3 G2))).push ({cls:= .type "tuple",data:= .seq vs.toArray.toList.toArray}:Obj)).push ({cls:= .type "list",data:= .seq ([]:G0 G2).toArray}:Obj)=H3;intro past ho3;dsimp only;refine XQ (wpAny_bind ?_);rw [R3 sz];refine G9 (wpAny_bind ?_);rw [R3 sz,StateT.run_pure];refine G9 ?_;dsimp only;refine wpAny_bind (j6 (s:= {s with heap:=H3}) ho3 rfl ?_);have e2:((arrOf (SortSt.mk' general' (vs.toArray.zip vs.toArray) #[] 7 none)).map λx=>x.2)=vs.toArray:=UQ;rw [e2];obtain⟨c2,ho4⟩: ∃c,(H3.update a (A7 λ_=>vs.toArray)).get? a=some (cI "list" vs.toArray c):=⟨_,fZ ho3 λ_=>vs.toArray⟩;refine wpAny_bind (iF (s:= {s with heap:=H3}) ho3 rfl ?_ (O6 _) (by rw [P1];exact dX fits));simp only [bne_self_eq_false,O9,cA];refine G9 (q c2 s.toks _ (λb x ne e=> ?_) ho4);rw [Y7 _ _ _ _ ne];exact past b x ne e
end
end HT
namespace L2
open PySem PySem.Spec PyProof.Rows PySem.SeqAt HT
theorem call_sortedF {X:Cx}:CallR X (.builtin "sorted") (λxs H Q=> ∃ (a:G6) (vs:G0 V),xs= [.ref a]/\SqL X.K H a vs/\vs.length<2/\ ∀q:G6,H q=none->Q (.ref q) (upd H q (.lst vs))):=by
 intro pins s σ H xs us Q I r h;obtain⟨a,vs,rfl,hS,few,q⟩:=h;obtain⟨u,rfl,ru⟩:=Jl r;cases ru;obtain⟨its,rv,pl,hz⟩:=I.list hS;have few':its.length<2:=by rw [<-rv.length];exact few
 have fits:its.length<=sizeLine:=T8 (N1 few') (by decide);refine Calls.call_function_entry kind_sorted plain_sorted entry_sorted (args_sorted1 _) (wpAny_bind (G9 (wpAny_bind (collect_list pl.isList ?_ (by omega)))));have k1:RS s.heap ((s.heap.push (cI "list" #[] 0)).update s.heap.objs.size (A7 (· ++its.toArray))):=λb x e=>by
  rw [Y7 _ _ _ _ (R7 (P9 e))];exact G7 _ e
 revert k1;generalize (s.heap.push (cI "list" #[] 0)).update s.heap.objs.size (A7 (· ++its.toArray))=H1;intro k1;have fresh:(H1.push (cI "list" its.toArray 0)).get? H1.objs.size=some (cI "list" its.toArray 0):=D4 _ rfl;refine wpAny_bind (iG (wpAny_bind (O5 (B1 slot_list_sort ⟨_,fresh,rfl⟩ entry_list_sort (XX (s:= {s with heap:=H1.push (cI "list" its.toArray 0)}) few' fresh λc tk h' p e1=>⟨_,rfl,?_⟩) (args_list_sort _)))) fits);have kp:RS H1 h':=λb x e=>p b x (R7 (P9 e)) (G7 _ e)
 have I1:Inv X pins σ H {s with heap:=H1}:=I.kept (t':=s.toks) k1;exact G9 ⟨_,rfl,.ref _,_,I1.laid (t':=tk) (o:= .lst vs) kp (D0 _) ⟨by rw [rv.length];exact fits,_,c,rv,e1⟩,rfl,q _ (I1.hok.fresh (D0 _))⟩
def WF:RDn:=λds h Q=> ∃ (a:G6) (xs:G0 D),ds= [.lst a]/\h a=some xs/\xs.length<2/\ ∀p,h p=none->Q (.lst p) (zi h p xs)
theorem YZ {X:Cx}:ww X (.builtin "sorted") WF:=call_sortedF.imp λxs H Q ⟨ds,h,Qd,r,rh,⟨a,ys,e,hd,few,q⟩,p⟩=>by
 subst e;obtain⟨v,e,r1⟩:=jy r;obtain⟨vs,hH,r2⟩:=rh a _ hd;have e1:v= .ref a:=r1.1;subst e e1;exact⟨a,vs,rfl,SqL.of hH,by rw [<-r2.length];exact few,λc hc=>p (.lst c) _ _ _ (.new hc) (rh.newL hc r2) ⟨rfl,_,jl⟩ (q c (rh.free hc))⟩
end L2
namespace L2
open PySem PySem.Spec PyProof.Rows
def XY {α:Type}(xs:G0 α):P0->G0 (G0 α)
 |0=> [[]]
 |k+1=>(XY xs k).flatMap λr=>xs.map (· ::r)
variable {α:Type}
theorem JF {xs:G0 α}: ∀ {r:G0 α},(∀x∈r,x∈xs)->r∈XY xs r.length
 | [],_=>P2.mpr rfl
 |x::r,h=>List.mem_flatMap.mpr ⟨r,JF λy hy=>h y (D2 _ hy),T5.mpr ⟨x,h x P6,rfl⟩⟩
theorem JH (xs:G0 α): ∀k,(XY xs k).length=xs.length^k
 |0=>rfl
 |k+1=>by
  show ((XY xs k).flatMap λr=>xs.map (· ::r)).length=_;rw [List.length_flatMap,show ((XY xs k).map λr=>(xs.map (· ::r)).length)=(XY xs k).map λ_=>xs.length from T7 λr _=>G3 _,List.map_const',List.sum_replicate_nat,JH xs k,iU]
variable {n:P0}
theorem NK (n3:n<=3){l:G0 (G0 (G0 G8))}(nd:l.Nodup)(h: ∀M∈l,Sq n 1 M):l.length<=512:=by
 have:=ZI (m:=XY (XY [(0:G8),1] n) n) nd λM hM=>by
  have s:=h M hM;have z:=JF (xs:=XY [(0:G8),1] n) (r:=M) λr hr=>by
   have z:=JF (xs:= [(0:G8),1]) (r:=r) λx hx=>by
    have a:=s.nn r hr x hx;have b:x<2:=s.bit r hr x hx;rcases (show x=0\/x=1 by omega) with e|e<;>subst e<;>simp
   rw [s.row r hr] at z;exact z
  rw [s.len] at z;exact z
 rw [JH,JH] at this;rcases (show n=0\/n=1\/n=2\/n=3 by omega) with e|e|e|e<;>subst e<;>exact T8 this (by decide)
theorem XZ {M N:G0 (G0 G8)}(a:Sq n 1 M)(b:Sq n 1 N)(f:zc M=true)(g:zc N=true):M=N:=a.ext b λi j hi hj=>by
 have x:=(Yn a).mp f i j hi hj;have y:=(Yn b).mp g i j hi hj;have p:=a.ent_nn hi hj;have q:=b.ent_nn hi hj;omega
def mkW (n:P0)(Ts:G0 (G0 (G0 G8))):G0 P0->G0 (G0 G8)
 | []=>Ny n
 |a::w=>Yq n Ts (ZC n (Ts.getD a [])) w
variable {Ts:G0 (G0 (G0 G8))}
theorem Qa: ∀ {w:G0 P0} (_:w≠ []) (a:P0),mkW n Ts (w++ [a])=mk1 n (Ts.getD a []) (mkW n Ts w)
 | [],h,_=>absurd rfl h
 |b::w,_,a=>by
  show Yq n Ts _ (w++ [a])=_;unfold Yq;rw [W7];rfl
theorem UR: ∀w:G0 P0,Sq n 1 (mkW n Ts w)
 | []=>Sq.one n
 |a::w=>Qx _ (Sq.mark _) w
abbrev Fnd:=G0 (G0 (G0 G8)×G0 P0)
def lvS (n:P0)(Ts:G0 (G0 (G0 G8)))(s:Fnd×G0 (G0 P0))(w:G0 P0):Fnd×G0 (G0 P0):=if (zq s.1 (mkW n Ts w)).isSome then s else (s.1++ [(mkW n Ts w,w)],s.2++(D3 Ts.length).map λa=>w++ [a])
def QB (n:P0)(Ts:G0 (G0 (G0 G8)))(s:Fnd×G0 (G0 P0)):Fnd×G0 (G0 P0):=s.2.foldl (lvS n Ts) (s.1,[])
def bst (n:P0)(Ts:G0 (G0 (G0 G8))):P0->Fnd×G0 (G0 P0)
 |0=>([],(D3 Ts.length).map λa=> [a])
 |k+1=>QB n Ts (bst n Ts k)
def fnd (n:P0)(Ts:G0 (G0 (G0 G8))):Fnd:=(bst n Ts 1025).1
def RX (Ts:G0 (G0 (G0 G8)))(w:G0 P0):Prop:=w≠ []/\ ∀i∈w,i<Ts.length
structure Bin (n:P0)(Ts:G0 (G0 (G0 G8)))(k:P0)(s:Fnd×G0 (G0 P0)):Prop where
 nd:(s.1.map (·.1)).Nodup
 fd: ∀p∈s.1,p.1=mkW n Ts p.2/\RX Ts p.2/\p.2.length<=k
 fr: ∀w∈s.2,RX Ts w/\w.length=k+1
structure Mid (n:P0)(Ts:G0 (G0 (G0 G8)))(k f:P0)(s:Fnd×G0 (G0 P0)):Prop where
 nd:(s.1.map (·.1)).Nodup
 fd: ∀p∈s.1,p.1=mkW n Ts p.2/\RX Ts p.2/\p.2.length<=k+1
 fr: ∀w∈s.2,RX Ts w/\w.length=k+2
 le:f<=s.1.length
 gr:s.2.length<=3*(s.1.length-f)
section
variable {n k f:P0}{Ts:G0 (G0 (G0 G8))}{s:Fnd×G0 (G0 P0)}{w:G0 P0}
theorem Yv (n3:n<=3)(nd:(s.1.map (·.1)).Nodup)(fd: ∀p∈s.1,p.1=mkW n Ts p.2):s.1.length<=512:=by
 have:=NK n3 nd λM hM=>by
  obtain⟨p,hp,rfl⟩:=T5.mp hM;rw [fd p hp];exact UR _
 rwa [G3] at this
theorem Mid.few (m:Mid n Ts k f s)(n3:n<=3):s.1.length<=512:=Yv n3 m.nd λp hp=>(m.fd p hp).1
theorem Bin.few (m:Bin n Ts k s)(n3:n<=3):s.1.length<=512:=Yv n3 m.nd λp hp=>(m.fd p hp).1
theorem WG (h:(zq s.1 (mkW n Ts w)).isSome=true):lvS n Ts s w=s:=R3 h
theorem WH (h:(zq s.1 (mkW n Ts w)).isSome=false):lvS n Ts s w=(s.1++ [(mkW n Ts w,w)],s.2++(D3 Ts.length).map λa=>w++ [a]):=S4 (by rw [h];exact P3)
theorem Mid.step (m:Mid n Ts k f s)(l3:Ts.length<=3)(hw:RX Ts w)(hl:w.length=k+1):Mid n Ts k f (lvS n Ts s w):=by
 cases h:(zq s.1 (mkW n Ts w)).isSome with
 |true=>rw [WG h];exact m
 |false=>
  rw [WH h];have no:zq s.1 (mkW n Ts w)=none:=aL.mp (by cases z:zq s.1 (mkW n Ts w) with
   |none=>rfl
   |some _=>rw [z] at h;cases h)
  refine⟨?_,λp hp=> ?_,λv hv=> ?_,?_,?_⟩
  ·show ((s.1++ [(mkW n Ts w,w)]).map (·.1)).Nodup;rw [R9];refine dW.mpr ⟨m.nd,by simp,λx hx y hy z=> ?_⟩;rw [P2.mp hy] at z;have z:x=mkW n Ts w:=z;rw [z] at hx;exact WE no hx
  ·rcases R8.mp hp with z|z
   ·exact m.fd p z
   ·rw [P2.mp z];exact⟨rfl,hw,Z3 hl⟩
  ·rcases R8.mp hv with z|z
   ·exact m.fr v z
   ·obtain⟨a,ha,rfl⟩:=T5.mp z;refine⟨⟨by simp,λi hi=> ?_⟩,by rw [S1,hl];rfl⟩;rcases R8.mp hi with z|z
    ·exact hw.2 i z
    ·rw [P2.mp z];exact S8.mp ha
  ·show f<=(s.1++ [(mkW n Ts w,w)]).length;rw [S1];have:=m.le;omega
  ·show (s.2++(D3 Ts.length).map λa=>w++ [a]).length<=3*((s.1++ [(mkW n Ts w,w)]).length-f);rw [S1,S1,G3,S5];have:=m.le;have:=m.gr;show _<=3*(s.1.length+1-f);omega
theorem Bin.mid (b:Bin n Ts k s):Mid n Ts k s.1.length (s.1,[]):=⟨b.nd,λp hp=>let ⟨x,y,z⟩:=b.fd p hp;⟨x,y,dX z⟩,(λ_ h=>nomatch h),D0 _,O6 _⟩
theorem Bin.mids (b:Bin n Ts k s)(l3:Ts.length<=3): ∀i,Mid n Ts k s.1.length ((s.2.take i).foldl (lvS n Ts) (s.1,[]))
 |0=>b.mid
 |i+1=>by
  by_cases h:i<s.2.length
  ·rw [cJ,G4 h,W7];exact(b.mids l3 i).step l3 (b.fr _ (S9 h)).1 (b.fr _ (S9 h)).2
  ·rw [M2 (by omega),<-M2 (eQ h)];exact b.mids l3 i
theorem Bin.end_ (b:Bin n Ts k s)(l3:Ts.length<=3):Mid n Ts k s.1.length (QB n Ts s):=by
 have:=b.mids l3 s.2.length
 rwa [L3] at this
theorem Mid.bin (m:Mid n Ts k f s):Bin n Ts (k+1) s:=⟨m.nd,m.fd,m.fr⟩
theorem JJ (l3:Ts.length<=3): ∀k,Bin n Ts k (bst n Ts k)
 |0=>⟨gQ,(λ_ h=>nomatch h),λw hw=>by
  obtain⟨a,ha,rfl⟩:=T5.mp hw;exact⟨⟨by simp,λi hi=>by rw [P2.mp hi];exact S8.mp ha⟩,rfl⟩⟩
 |k+1=>((JJ l3 k).end_ l3).bin
def Va (s:Fnd×G0 (G0 P0)):P0:=2*(512-s.1.length)+(if s.2= [] then 0 else 1)
theorem Yw (b:Bin n Ts k s)(n3:n<=3)(l3:Ts.length<=3)(h:s.2≠ []):Va (QB n Ts s)<Va s:=by
 have m:=b.end_ l3;have:=m.few n3;have:=m.le;have g:=m.gr;unfold Va;rw [S4 h]
 by_cases e:(QB n Ts s).1.length=s.1.length
 ·rw [e] at g ⊢;rw [R3 (List.eq_nil_of_length_eq_zero (by omega))];omega
 ·split<;>omega
theorem QC (h:(bst n Ts k).2= []): ∀j,bst n Ts (k+j)=bst n Ts k
 |0=>rfl
 |j+1=>by
  show QB n Ts (bst n Ts (k+j))=_;rw [QC h j];unfold QB;rw [h];show ((bst n Ts k).1,[])=_;rw [<-h]
theorem WI (h:(bst n Ts k).2= [])(hk:k<=1025):(bst n Ts k).1=fnd n Ts:=by
 unfold fnd;rw [<-QC h (1025-k),show k+(1025-k)=1025 by omega]
theorem ZT (l1:1<=Ts.length):0+Va (bst n Ts 0)<=1025:=by
 unfold Va;show 0+(2*(512-0)+_)<=1025;split<;>omega
theorem WJ (l3:Ts.length<=3):Bin n Ts 1025 (bst n Ts 1025):=JJ l3 _
end
theorem Yx {β:Type}(f:α->β)(T:G0 (G0 G8)): ∀kv:G0 (G0 (G0 G8)×α),zq (kv.map λp=>(p.1,f p.2)) T=(zq kv T).map f
 | []=>rfl
 |p::kv=>by
  have ih:=Yx f T kv;unfold zq at ih ⊢;rw [R0,N2,N2];dsimp only;cases decide (p.1=T) with
  |true=>rfl
  |false=>exact ih
theorem JK {α:Type}{kv:G0 (G0 (G0 G8)×α)}{T:G0 (G0 G8)}{d:α}(h:zq kv T=none):Vm kv T d=kv++ [(T,d)]/\zq (Vm kv T d) T=some d:=by
 have e:Vm kv T d=kv++ [(T,d)]:=by unfold Vm;rw [h];rfl
 refine⟨e,?_⟩;rw [e];unfold zq at h ⊢;rw [List.find?_append,bM.mp h];rw [Option.none_or,N2,N3 rfl];rfl
def kvW (F:Fnd):G0 (G0 (G0 G8)×D):=F.map λp=>(p.1,za p.2)
theorem WK {F:Fnd}{T:G0 (G0 G8)}:(zq (kvW F) T).isSome=(zq F T).isSome:=by
 unfold kvW;rw [Yx,Option.isSome_map]
theorem US {F:Fnd}{T:G0 (G0 G8)}{w:G0 P0}(h:(zq F T).isSome=false):Vm (kvW F) T (za w)=kvW (F++ [(T,w)]):=by
 have z:zq (kvW F) T=none:=by
  cases e:zq (kvW F) T with
  |none=>rfl
  |some _=>have:=WK (F:=F) (T:=T);rw [e,h] at this;cases this
 rw [(JK z).1];unfold kvW;rw [R9];rfl
def wyD (n:P0)(Ts:G0 (G0 (G0 G8)))(w:G0 P0):D:= .tup [za w,jp (mkW n Ts w)]
theorem Yy {n:P0}(g:P0->G0 (G0 G8)->G0 (G0 G8)):ZF ((D3 Ts.length).map λi=>jp (g i (Ts.getD i [])))=(D3 Ts.length).map λ(j:P0)=>D.tup [.int (j:G8),jp (g j (Ts.getD j []))]:=by
 apply dY;intro i
 by_cases hi:i<Ts.length
 ·have hi':i<(ZF ((D3 Ts.length).map λi=>jp (g i (Ts.getD i [])))).length:=by rw [wN,G3,S5];exact hi
  obtain⟨x,hx,ed⟩:=Jy (G4 hi');rw [G4 hi',ed];rw [P7,K9 hi] at hx ⊢;injection hx with hx
  rw [<-hx];rfl
 ·rw [F9 (by rw [wN,G3,S5];omega),F9 (by rw [G3,S5];omega)]
theorem Ji (Ts:G0 (G0 (G0 G8))):Ts.map jp=(D3 Ts.length).map λi=>jp (Ts.getD i []):=by
 apply dY;intro i;rw [P7,P7]
 by_cases hi:i<Ts.length
 ·rw [K9 hi,G4 hi];show some (jp Ts[i])=some (jp (Ts.getD i []));rw [D6,G4 hi];rfl
 ·rw [F9 (by omega),F9 (by rw [S5];omega)];rfl
end L2
namespace My
open PySem L2
def top (i:P0):C3:=PySem.Challenge.pw_firstpowers_k67_the_first_full_way.main.body.getD i (.Pass ⟨0,0,0,0⟩)
abbrev yz:C3:=top 8
theorem WL:FnScope ["thing"] ["thing"] (jc yz):=fsc
abbrev zB:C3:=top 9
theorem wb:FnScope ["thing","size","number"] ["thing","size"] (jc zB):=fsc
abbrev zd:C3:=top 10
theorem zI:FnScope ["thing","row"] ["thing"] (jc zd):=fsc
abbrev wc:C3:=top 11
theorem JL:FnScope ["thing"] ["thing"] (jc wc):=fsc
abbrev zM:C3:=top 12
theorem wE:FnScope ["thing","at","each"] ["thing"] (jc zM):=fsc
abbrev wd:C3:=top 14
theorem jS:FnScope ["one","other","size","row","place","by"] ["one","other"] (jc wd):=fsc
abbrev UT:C3:=top 16
theorem Xb:FnScope ["table","row","number"] ["table"] (jc UT):=fsc
abbrev WM:C3:=top 17
theorem JM:FnScope ["table","row","number"] ["table"] (jc WM):=fsc
abbrev zN:C3:=top 19
theorem vJ:FnScope ["ahead","table"] ["ahead","table"] (jc zN):=fsc
abbrev ze:C3:=top 21
theorem jm:FnScope ["tables","ways","nexts","fresh","later","way","each","at","table","behind"] ["tables"] (jc ze):=fsc
abbrev yA:C3:=top 22
theorem wV:FnScope ["tables","ways","nexts","each","way"] ["tables"] (jc yA):=fsc
abbrev wP:C3:=top 24
theorem ZU:FnScope ["_law_script","_law_k"] ["_law_script","_law_k"] (jc wP):=fsc
abbrev yB:C3:=top 25
theorem vA:FnScope ["_law_cell_here","_law_left"] ["_law_cell_here"] (jc yB):=fsc
abbrev wQ:C3:=top 26
theorem zx:FnScope ["_law_pen_here","_law_many_here","_law_left","_law_found","_law_stir"] ["_law_pen_here","_law_many_here"] (jc wQ):=fsc
abbrev wR:C3:=top 27
theorem ZV:FnScope ["_law_found","_law_due"] ["_law_found","_law_due"] (jc wR):=fsc
abbrev we:C3:=top 28
theorem jq:FnScope ["_law_pen_here","_law_size","_law_way","_law_often","_law_most","_law_rows","_law_one","_law_row","_law_other","_law_goes"] ["_law_pen_here","_law_size"] (jc we):=fsc
abbrev wf:C3:=top 29
theorem zO:FnScope ["_law_pen_here","_law_many_here","_law_found","_law_what"] ["_law_pen_here","_law_many_here"] (jc wf):=fsc
abbrev wg:C3:=top 30
theorem jJ:FnScope ["_law_one","_law_other","_law_size","_law_rows","_law_row","_law_place","_law_k"] ["_law_one","_law_other"] (jc wg):=fsc
abbrev zP:C3:=top 31
theorem zC:FnScope ["_law_table_here","_law_row","_law_number"] ["_law_table_here"] (jc zP):=fsc
abbrev zQ:C3:=top 32
theorem wA:FnScope ["_law_table_here","_law_row"] ["_law_table_here"] (jc zQ):=fsc
abbrev jV:C3:=top 33
theorem jn:FnScope ["_law_pen_here","_law_size","_law_order_here","_law_often","_law_rows","_law_at","_law_here","_law_there","_law_one","_law_other","_law_row"] ["_law_pen_here","_law_size"] (jc jV):=fsc
abbrev wS:C3:=top 34
theorem jw:FnScope ["_law_pen_here","_law_size","_law_many_here","_law_found","_law_turn","_law_table_here","_law_way","_law_place","_law_row"] ["_law_pen_here"] (jc wS):=fsc
abbrev yC:C3:=top 35
theorem wT:FnScope ["_law_here","_law_tables","_law_way","_law_at"] ["_law_here","_law_tables","_law_way"] (jc yC):=fsc
abbrev wj:C3:=top 36
theorem ju:FnScope ["_law_tables","_law_found","_law_rows","_law_later","_law_way","_law_here","_law_at"] ["_law_tables"] (jc wj):=fsc
abbrev wm:C3:=top 37
theorem jT:FnScope ["_law_tables","_law_due","_law_turn","_law_here","_law_way"] ["_law_tables"] (jc wm):=fsc
abbrev Vb:C3:=top 38
theorem Jj:FnScope ["_law_script","_law_some","_law_cell_here","_law_pen_here","_law_tables"] ["_law_script"] (jc Vb):=fsc
section
variable {P:S2}{w:M6}{K:G1}{mg:Str->P5 G2}{base:N5}
/-- no def is asked of the script's list: a thing -/
def QD:D->B4
 | .int _=>true
 |_=>false
/-- a row of so many numbers from 0 on -/
def Mw:D->B4
 | .int i=>decide (0<=i)
 |_=>false
def QF (d:D)(k:G8):B4:=match d with
 | .tup ds=>decide ((ds.length:G8)=k)&&ds.all Mw
 |_=>false
/-! every part has a kind that is told,and no tuple is long -/
mutual
def okD:D->B4
 | .scr _=>false| .exc _=>false| .fn _=>false| .dct _=>false
 | .tup ds=>decide (ds.length<=1000)&&okDs ds
 |_=>true
def okDs:G0 D->B4
 | []=>true
 |d::ds=>okD d&&okDs ds
end
theorem Yz: ∀ {ds:G0 D},okDs ds=true-> ∀d∈ds,okD d=true
 |d::ds,h,x,hx=>by
  have h':(okD d&&okDs ds)=true:=h;rw [O7] at h';rcases R5.mp hx with e|e
  ·subst e;exact h'.1
  ·exact Yz h'.2 x e
theorem UU: ∀ {ds:G0 D},(∀d∈ds,okD d=true)->okDs ds=true
 | [],_=>rfl
 |d::ds,h=>by
  show (okD d&&okDs ds)=true;rw [h d P6,UU λx hx=>h x (D2 _ hx)];rfl
theorem UV {ds:G0 D}(h:okD (.tup ds)=true):ds.length<=1000/\ ∀d∈ds,okD d=true:=by
 have h':(decide (ds.length<=1000)&&okDs ds)=true:=h;rw [O7] at h';exact⟨aR h'.1,Yz h'.2⟩
theorem QH {ds:G0 D}(h:ds.length<=1000)(h2: ∀d∈ds,okD d=true):okD (.tup ds)=true:=by
 show (decide (ds.length<=1000)&&okDs ds)=true;rw [N3 h,UU h2];rfl
theorem JN {d:D}(h:okD d=true): ∃n,Zx d=some n:=by
 cases d<;>first|exact⟨_,rfl⟩|cases h
/-- a table -/
def PK:D->B4
 | .tup rs=>decide (1<=rs.length)&&decide (rs.length<=6)&&rs.all λr=>QF r rs.length
 |_=>false
def vB:RDn:=λds h Q=> ∃d n,ds= [d]/\Zx d=some n/\Q (.bl (QD d)) h
variable {n:P0}{f:G6}{fd:S6}
theorem WN (Z:Zs mg)(F:Fun K "is_whole" "is_whole" yz f fd):FnOk P w K mg base CX0 (n+1) f fd ["thing"] (LSp K vB):=by
 refine F.okM WL (λhr=>(jQ (wy (RK (Ul (T:= "int") (by decide) rfl Z.isinstance rfl Z.int (by decide +kernel) (jv 0)) (GX (BW (Ul (T:= "bool") (by decide) rfl Z.isinstance rfl Z.bool (by decide +kernel) (jv 0)))))))) ?_;rintro ds h Q ⟨d,nm,rfl,hn,q⟩;refine⟨rfl,?_⟩;simp only [Xf,Ws,dIs,Zh,zt,R0,E7,S3,M7,L0,F6,R6,T6,D.bl.injEq,Xw,YK,M3,hn];cases d<;>cases hn<;>exact⟨h,Sub.refl h,q⟩
def wn:RDn:=λds h Q=> ∃d k,ds= [d,.int k]/\okD d=true/\Q (.bl (QF d k)) h
theorem vC (Z:Zs mg)(F:Fun K "is_table_row" "is_table_row" zB f fd)(Vf:jr P w K mg base n "is_whole" ["thing"] vB):FnOk P w K mg base CX0 (n+1) f fd ["thing","size"] (LSp K wn):=by
 refine F.okM wb (λhr=>(js2 (WD (jpt (PH (vq (vp (Ul (T:= "tuple") (by decide) rfl Z.isinstance rfl Z.tuple (by decide +kernel) (jv 0)))) (RJ (jt1 oq_ne (YW Z (jv 0)) (jv 1))))) (wy jbl)) (wy (zv (Yh rfl) rfl Z.all J4 (j1 (jl0 2 wb (jR (jv 0)) (λ_ _ _ _=>(RK (jk Vf hr (j1 (jv 2))) (GX (jc1 GN (jv 2) jt)))))))))) ?_;rintro ds h Q ⟨d,k,rfl,ok,q⟩;refine⟨rfl,?_⟩;obtain⟨nm,hn⟩:=JN ok;simp only [ym,Vl,DM,YH,zY,dIs,Zh,zt,R0,E7,S3,M7,D5,L0,F6,R6,T6,D.bl.injEq,Xf,dC,YK,vk,dCB,jI,wX,dOp,PF,T4,neD,M3,hn];cases d with
 |tup es=>
  cases hn;obtain⟨hl,ht⟩:=UV ok;simp only [Rx]
  by_cases hk:(es.length:G8)=k
  ·simp only [hk];simp;refine VZ (ds:=es) (h1:=h) (j:=λ_=>some es) (λx=> .bl (Mw x)) (N1 (jH hl)) rfl (λR r=>⟨.tup es,rfl,r⟩) (λd hd Q' q'=> ?_) (λp hp=> ?_)
   ·obtain⟨nn,hnn⟩:=JN (ht d hd);refine⟨d,rfl,d,nn,rfl,hnn,QD d,rfl,?_⟩;cases d with
    |int i=>exact Xd ⟨.int i,rfl,q'⟩
    |_=>exact vH q'
   ·refine⟨p,es.map Mw,rfl,by rw [ja];simp,h,?_,?_⟩
    ·rw [zH hp];exact Sub.refl h
    ·simpa [QF,hk,K4,J9] using q
  ·simp [hk];exact⟨h,Sub.refl h,by simpa [QF,hk] using q⟩
 |_=>cases hn<;>exact⟨h,Sub.refl h,q⟩
def jW:RDn:=λds h Q=> ∃d,ds= [d]/\okD d=true/\Q (.bl (PK d)) h
theorem yD (Z:Zs mg)(F:Fun K "has_table_form" "has_table_form" zd f fd)(vO:jr P w K mg base n "is_table_row" ["thing","size"] wn)(wU: ∃tk,mg "MOST_ROWS" =some (.int 6 tk)):FnOk P w K mg base CX0 (n+1) f fd ["thing"] (LSp K jW):=by
 obtain⟨tk_MOST_ROWS,m_MOST_ROWS⟩:=wU;refine F.okM zI (λhr=>(js2 (WD (jpt (PH (vq (vp (Ul (T:= "tuple") (by decide) rfl Z.isinstance rfl Z.tuple (by decide +kernel) (jv 0)))) (RJ (vq (Uj XB XB jt (YW Z (jv 0)) (GV rfl m_MOST_ROWS)))))) (wy jbl)) (wy (zv (Yh rfl) rfl Z.all J4 (j1 (jl0 1 zI (jR (jv 0)) (λ_ _ _ _=>(jk vO hr (j2 (jv 1) (YW Z (jv 0))))))))))) ?_;rintro ds h Q ⟨d,rfl,ok,q⟩;refine⟨rfl,?_⟩;obtain⟨nm,hn⟩:=JN ok;simp only [ym,Vl,DM,YH,zY,dIs,Zh,zt,R0,E7,S3,M7,D5,L0,F6,R6,T6,D.bl.injEq,Xf,dC,YK,vk,dCB,jI,wX,Zv,PF,Xg,M3,hn];cases d with
 |tup es=>
  cases hn;obtain⟨hl,ht⟩:=UV ok;simp only [Rx]
  by_cases h1:1<=es.length
  ·by_cases h6:es.length<=6
   ·have h1':(1:G8)<=es.length:=by omega
    have h6':(es.length:G8)<=6:=by omega
    simp [h1',h6'];refine VZ (ds:=es) (h1:=h) (j:=λ_=>some es) (λx=> .bl (QF x es.length)) (N1 (jH hl)) rfl (λR r=>⟨.tup es,rfl,r⟩) (λd hd Q' q'=> ?_) (λp hp=> ?_)
    ·exact⟨d,rfl,.tup es,rfl,d,es.length,rfl,ht d hd,q'⟩
    ·refine⟨p,es.map λx=>QF x es.length,rfl,by rw [ja];simp,h,?_,?_⟩
     ·rw [zH hp];exact Sub.refl h
     ·simpa [PK,h1,h6,K4,J9] using q
   ·have h1':(1:G8)<=es.length:=by omega
    have h6': ¬ (es.length:G8)<=6:=by omega
    simp [h1',h6'];exact⟨h,Sub.refl h,by simpa [PK,h1,h6] using q⟩
  ·have h1': ¬ (1:G8)<=es.length:=by omega
   simp [h1'];exact⟨h,Sub.refl h,by simpa [PK,h1] using q⟩
 |_=>cases hn<;>exact⟨h,Sub.refl h,q⟩
theorem Pu {x:G8}(h:0<=x):Mw (.int x)=true:=N3 h
variable {T:G0 (G0 G8)}
theorem Pv {e:P0}(h:Sq n e T){r:G0 G8}(hr:r∈T):QF (zw r) n=true:=by
 simp only [QF,zw,G3,h.row r hr,decide_true,iH,K4,C1,O3];intro x hx;exact Pu (h.nn r hr x hx)
theorem UW {e:P0}(h:Sq n e T)(h1:1<=n)(h6:n<=6):PK (jp T)=true:=by
 simp only [PK,jp,G3,h.len,N3 h1,N3 h6,iH,K4,C1,O3];intro r hr;exact Pv h hr
theorem QJ {e:P0}(h:Sq n e T)(h6:n<=6):okD (jp T)=true:=
 QH (by rw [G3,h.len];omega) λd hd=>by
  obtain⟨r,hr,rfl⟩:=T5.mp hd;exact QH (by rw [G3,h.row r hr];omega) λd hd=>by obtain⟨x,_,rfl⟩:=T5.mp hd;rfl
def zR:RDn:=λds h Q=> ∃T,∃n e:P0,ds= [jp T]/\Sq n e T/\1<=n/\n<=6/\Q .non h
theorem JP (Z:Zs mg)(F:Fun K "want_table" "want_table" wc f fd)(zf:jr P w K mg base n "has_table_form" ["thing"] jW):FnOk P w K mg base CX0 (n+1) f fd ["thing"] (LSp K zR):=by
 refine F.okM JL (λhr=>(jQ (WD (vq (vp (jk zf hr (j1 (jv 0))))) Um))) ?_;rintro ds h Q ⟨T,k,b,rfl,hT,h1,h6,q⟩;refine⟨rfl,?_⟩;refine⟨_,rfl,jp T,rfl,QJ hT h6,_,rfl,?_⟩;rw [UW hT h1 h6];exact vH ⟨h,Sub.refl h,q⟩
def wB:RDn:=λds h Q=> ∃A Ts,∃n:P0,ds= [.lst A]/\h A=some (Ts.map jp)/\TabsOk n Ts/\Q .non h
theorem vK (Z:Zs mg)(F:Fun K "want_tables" "want_tables" zM f fd)(zf:jr P w K mg base n "has_table_form" ["thing"] jW)(zT: ∃tk,mg "MOST_TABLES" =some (.int 3 tk))(jF: ∃tk,mg "MOST_ROWS_OF_SEVERAL" =some (.int 3 tk)):FnOk P w K mg base CX0 (n+1) f fd ["thing"] (LSp K wB):=by
 obtain⟨tk_MOST_TABLES,m_MOST_TABLES⟩:=zT;obtain⟨tk_MOST_ROWS_OF_SEVERAL,m_MOST_ROWS_OF_SEVERAL⟩:=jF;refine F.okM wE (λhr=>(js2 (WD (jpt (PH (vq (vp (Ul (T:= "list") (by decide) rfl Z.isinstance rfl Z.list (by decide +kernel) (jv 0)))) (RJ (vq (Uj XB XB jt (YW Z (jv 0)) (GV rfl m_MOST_TABLES)))))) Um) (YM M4 rfl (JB rfl Z.enumerate (j1 (jv 0))) (ZB (i:=1) (j:=2) rfl wE.nd rfl rfl (C9 rfl) (C9 rfl)) (jQ (WD (jpt (PH (vq (vp (jk zf hr (j1 (jv 2))))) (PH (jt1 GM (YW Z (jv 2)) (GV rfl m_MOST_ROWS_OF_SEVERAL)) (RJ (jt1 oq_ne (YW Z (jv 2)) (YW Z (ji1 (jv 0) jt))))))) Um))))) ?_;rintro ds h Q ⟨A,Ts,n,rfl,kA,hT,q⟩;refine⟨rfl,?_⟩;have hlen:(((Ts.map jp).length:P0):G8)=(Ts.length:G8):=by rw [G3]
 have l1:=hT.l1;have l3:=hT.l3;refine ZN [some (.lst A),none,none] (λC hC=> ?_) ?_
 ·refine⟨_,rfl,"list",rfl,_,rfl,vH ⟨_,rfl,_,kA,_,rfl,?_⟩⟩;rw [hlen];have e1:decide ((1:G8)<=(Ts.length:G8))=true:=N3 (by omega);have e2:decide ((Ts.length:G8)<=3)=true:=N3 (by omega);show if decide ((1:G8)<=(Ts.length:G8))=true then _ else _
  rw [e1];refine Xd ⟨_,rfl,?_⟩;show if (!decide ((Ts.length:G8)<=3))=true then _ else _
  rw [e2];exact vH (hC)
 refine wt (h1:=h) (j:=λh=>(h A).map ZF) (ZF (Ts.map jp)) (λi mB h'=> ∃a b,mB= [some (.lst A),a,b]/\h=h') (λR r=>⟨_,rfl,A,rfl,r⟩) (λi mB h' ⟨_,_,_,e⟩=>by rw [<-e];show (h A).map ZF=_;rw [kA];rfl) ⟨none,none,rfl,rfl⟩ (λmB h' ⟨_,_,_,e⟩=>⟨h,e ▸ Sub.refl h,q⟩) ?_;rintro i d _ _ hd ⟨a,b,rfl,rfl⟩;obtain⟨x,hx,rfl⟩:=Jy hd;have hil:i+1<=(ZF (Ts.map jp)).length:=(D1.mp hd).1;obtain⟨T,hTm,rfl⟩:=T5.mp (S0 hx);have sT:=hT.sq T hTm;have s0:=hT.get (i:=0) (by omega);have n1:=hT.n1;have n3:=hT.n3;have e0:=WA hT (i:=0) (by omega);refine⟨_,_,rfl,_,rfl,jp T,rfl,QJ sT (by omega),?_⟩;rw [UW sT n1 (by omega)];refine⟨_,rfl,vH ⟨_,rfl,_,rfl,?_⟩⟩;have g1:decide ((((T.map zw).length:P0):G8)>3)=false:=N9 (by rw [G3,sT.len];omega);show if decide ((((T.map zw).length:P0):G8)>3)=true then _ else _
 rw [g1];refine vH ⟨_,rfl,_,rfl,_,_,kA,e0,_,rfl,?_⟩;have g2:(!decide ((((T.map zw).length:P0):G8)=((((Ts.getD 0 []).map zw).length:P0):G8)))=false:=by rw [G3,G3,sT.len,s0.len];simp
 show if (!decide ((((T.map zw).length:P0):G8)=((((Ts.getD 0 []).map zw).length:P0):G8)))=true then _ else _
 rw [g2];exact vH ⟨_,Sub.refl _,hil,_,_,rfl,rfl⟩
def yf:RDn:=λds h Q=> ∃T U,∃n e f:P0,ds= [jp T,jp U]/\Sq n e T/\Sq n f U/\e+f<=1000000/\n<=6/\Q (jp (Xh n T U)) h
theorem JQ (Z:Zs mg)(F:Fun K "multiplied" "multiplied" wd f fd):FnOk P w K mg base CX0 (n+1) f fd ["one","other"] (LSp K yf):=by
 refine F.okM jS (λhr=>(js2 (jse 2 jS (YW Z (jv 0))) (wy (jD jK rfl Z.tuple (by decide +kernel) (j1 (jl0 3 jS (jR (jv 0)) (λ_ _ _ _=>(jD jK rfl Z.tuple (by decide +kernel) (j1 (jl0 4 jS (jrg Z (jv 2)) (λ_ _ _ _=>(zv (Uh rfl) rfl Z.sum (by decide +kernel) (j1 (jl0 5 jS (jrg Z (jv 2)) (λ_ _ _ _=>(jop Uo (ji1 (jv 3) (jv 5)) (ji1 (ji1 (jv 1) (jv 5)) (jv 4)))))))))))))))))) ?_;rintro ds h Q ⟨T,U,k,b,f,rfl,hT,hU,hb,h6,q⟩;refine⟨rfl,?_⟩;refine jh (λmB h'=>mB= [some (jp T),some (jp U),some (.int (k:G8)),none,none,none]/\h=h') (λC hC=>⟨_,rfl,hC _ _ ⟨by rw [G3,hT.len];rfl,rfl⟩⟩) ?_;rintro _ _ ⟨rfl,rfl⟩;refine Xi T zw (λr=> .tup ((D3 k).map λj=> .int (yS k λm=>r.getD m 0*ent U m j))) (by rw [hT.len];omega) rfl (λR r=>⟨_,rfl,r⟩) (λr hr Q' q'=> ?_) ⟨h,Sub.refl h,?_⟩
 ·refine Xi (D3 k) (λj=> .int (j:G8)) (λj=> .int (yS k λm=>r.getD m 0*ent U m j)) (by rw [S5];omega) rfl (λR rr=>⟨_,rfl,(k:G8),rfl,by omega,by omega,rr⟩) (λj hj Q'' q''=> ?_) q';refine Bl (D3 k) (λm=> .int (m:G8)) (λm=>r.getD m 0*ent U m j) (by rw [S5];omega) rfl (λR rr=>⟨_,rfl,(k:G8),rfl,by omega,by omega,rr⟩) (λm hm Q3 q3=> ?_) q'';have hm':=S8.mp hm;have hj':=S8.mp hj;refine⟨_,rfl,_,rfl,_,vv (hT.row r hr) hm',_,rfl,_,rfl,_,Up hU hm',_,rfl,_,vv (hU.row _ (Sq.getRow hU hm')) hj',?_,q3⟩;refine Yl (e:=b) (f:=f) ?_ (hU.ent_nn hm' hj') (by omega);have hm2:m<r.length:=by rw [hT.row r hr];exact hm'
  have e1:r.getD m 0=r[m]:=by rw [D6,G4 hm2];rfl
  rw [e1];exact⟨hT.nn r hr _ (S9 hm2),hT.bit r hr _ (S9 hm2)⟩
 ·rw [Ym hT];exact q
def UX:RDn:=λds h Q=> ∃T,∃n e:P0,ds= [jp T]/\Sq n e T/\1<=n/\n<=6/\Q (.bl (zc T)) h
theorem Pw (Z:Zs mg)(F:Fun K "full" "full" UT f fd)(wq:jr P w K mg base n "want_table" ["thing"] zR):FnOk P w K mg base CX0 (n+1) f fd ["table"] (LSp K UX):=by
 refine F.okM Xb (λhr=>(js2 (Jx (jk wq hr (j1 (jv 0)))) (wy (zv (Yh rfl) rfl Z.all J4 (j1 (BZ (i:=1) (i':=2) (js:= [1,2]) rfl (jU (by rfl)) (jR (jv 0)) (by decide) (by decide) (by decide) Xb.nd rfl rfl (by first|exact C9 rfl|exact E5 rfl) (by first|exact C9 rfl|exact E5 rfl) (λX' hX=>wK) (λX' hX=>by obtain⟨C,s₀,H₀,ex,rfl⟩:=hX;exact(jR (jv 1))) (λX' hX=>wK) (λX' hX=>by obtain⟨C,s₀,H₀,ex,rfl⟩:=hX;exact(jc1 oq_ne (jv 2) jt)))))))) ?_;rintro ds h Q ⟨T,k,b,rfl,hT,h1,h6,q⟩;refine⟨rfl,?_⟩;refine ZN [some (jp T),none,none] (λC hC=>⟨_,rfl,T,k,b,rfl,hT,h1,h6,hC⟩) ?_;refine Cd T zw (λr=>r) D.int (λ_ x=>decide (x≠0)) (XI hT h6) rfl (λR r=>⟨_,rfl,r⟩) (λr hr R rr=>⟨_,rfl,rr⟩) (λr hr x hx Q' q'=>⟨_,rfl,?_⟩) ⟨h,Sub.refl h,q⟩;show Q' (.bl (!decide (x=0))) h;have e:(!decide (x=0))=decide (x≠0):=by simp
 rw [e];exact q'
def JR:RDn:=λds h Q=> ∃T,∃n e:P0,ds= [jp T]/\Sq n e T/\1<=n/\n<=6/\Q (jp (ZC n T)) h
theorem Qb (Z:Zs mg)(F:Fun K "marks" "marks" WM f fd)(wq:jr P w K mg base n "want_table" ["thing"] zR):FnOk P w K mg base CX0 (n+1) f fd ["table"] (LSp K JR):=by
 refine F.okM JM (λhr=>(js2 (Jx (jk wq hr (j1 (jv 0)))) (wy (jD jK rfl Z.tuple (by decide +kernel) (j1 (jl0 1 JM (jR (jv 0)) (λ_ _ _ _=>(jD jK rfl Z.tuple (by decide +kernel) (j1 (jl0 2 JM (jR (jv 1)) (λ_ _ _ _=>(jif (jt1 oq_ne (jv 2) jt) jt jt)))))))))))) ?_;rintro ds h Q ⟨T,k,b,rfl,hT,h1,h6,q⟩;refine⟨rfl,?_⟩;refine ZN [some (jp T),none,none] (λC hC=>⟨_,rfl,T,k,b,rfl,hT,h1,h6,hC⟩) ?_;refine Xi T zw (λr=> .tup (r.map λx=> .int (if x≠0 then 1 else 0))) (by rw [hT.len];omega) rfl (λR r=>⟨_,rfl,r⟩) (λr hr Q' q'=> ?_) ⟨h,Sub.refl h,?_⟩
 ·refine Xi r D.int (λx=> .int (if x≠0 then 1 else 0)) (by rw [hT.row r hr];omega) rfl (λR r=>⟨_,rfl,r⟩) (λx hx Q'' q''=>⟨_,rfl,_,rfl,?_⟩) q'
  by_cases z:x=0
  ·subst z;exact vH q''
  ·have e:(!decide (x=0))=true:=by simp [z]
   rw [e];rw [R3 z] at q'';exact Xd q''
 ·rw [Uq,<-Ur hT];exact q
def wC:RDn:=λds h Q=> ∃M T,∃n e:P0,ds= [jp M,jp T]/\Sq n 1 M/\Sq n e T/\1<=n/\n<=6/\e<=1000/\Q (jp (mk1 n T M)) h
theorem vL (Z:Zs mg)(F:Fun K "marks_after" "marks_after" zN f fd)(WV:jr P w K mg base n "marks" ["table"] JR)(Wf:jr P w K mg base n "multiplied" ["one","other"] yf):FnOk P w K mg base CX0 (n+1) f fd ["ahead","table"] (LSp K wC):=by
 refine F.okM vJ (λhr=>(jQ (wy (jk WV hr (j1 (jk Wf hr (j2 (jv 0) (jv 1)))))))) ?_;rintro ds h Q ⟨M,T,n,b,rfl,hM,hT,h1,h6,hb,q⟩;refine⟨rfl,?_⟩;exact⟨_,rfl,_,rfl,M,T,n,1,b,rfl,hM,hT,by omega,h6,Xh n M T,n,_,rfl,hM.mul hT (by omega),h1,h6,h,Sub.refl h,q⟩
/-- what comes next behind each of the marks -/
def nxD (n:P0)(Ts:G0 (G0 (G0 G8)))(M:G0 (G0 G8)):G0 D:=(D3 Ts.length).map λi=>jp (mk1 n (Ts.getD i []) M)
def NxOk (n:P0)(Ts:G0 (G0 (G0 G8)))(F:Fnd)(L:P5 G6)(kv:G0 (G0 (G0 G8)×D))(h:HD):Prop:=kv.map (·.1)=F.map (·.1)/\ ∀p∈kv,∃X,p.2= .lst X/\h X=some (nxD n Ts p.1)/\some X≠L
variable {Ts:G0 (G0 (G0 G8))}{h:HD}
theorem NxOk.len {F:Fnd}{L:P5 G6}{kv:G0 (G0 (G0 G8)×D)}(x:NxOk n Ts F L kv h):kv.length=F.length:=by
 have:=congrArg X5 x.1
 rwa [G3,G3] at this
theorem NxOk.none {F:Fnd}{L:P5 G6}{kv:G0 (G0 (G0 G8)×D)}(x:NxOk n Ts F L kv h)(g:(zq F T).isSome=false):zq kv T=none:=by
 have no:T ∉ F.map (·.1):=WE (by cases z:zq F T with
  |none=>rfl
  |some _=>rw [z] at g;cases g)
 rw [<-x.1] at no;cases z:zq kv T with
 |none=>rfl
 |some d=>
  unfold zq at z;obtain⟨p,hp,_⟩:=F2.mp z;exact absurd (T5.mpr ⟨p,List.mem_of_find?_eq_some hp,by have z:=List.find?_some hp;exact aR z⟩) no
theorem Qc {w:G0 P0}(hw:w≠ [])(a:P0):wyD n Ts (w++ [a])= .tup [.tup ((w.map λ(k:P0)=>D.int (k:G8))++ [.int (a:G8)]),jp (mk1 n (Ts.getD a []) (mkW n Ts w))]:=by
 unfold wyD za;rw [Qa hw,R9];rfl
theorem Px {s:Fnd×G0 (G0 P0)}{w:G0 P0}:(s.2++(D3 Ts.length).map λa=>w++ [a]).map (wyD n Ts)=s.2.map (wyD n Ts)++(D3 Ts.length).map λa=>wyD n Ts (w++ [a]):=by
 rw [R9,S7];rfl
theorem ZW {s0:Fnd×G0 (G0 P0)}{ws:G0 (G0 P0)}{i:P0}{w:G0 P0}(e:ws[i]? =some w):(ws.take (i+1)).foldl (lvS n Ts) s0=lvS n Ts ((ws.take i).foldl (lvS n Ts) s0) w:=by
 rw [cJ,e,W7];rfl
def zJ:RDn:=λds h Q=> ∃A Ts,∃n:P0,ds= [.lst A]/\h A=some (Ts.map jp)/\TabsOk n Ts/\ ∀W N ep ep2 kv h',h'.dc W=some (.tk ep (kvW (fnd n Ts)))->h'.dc N=some (.tk ep2 kv)->NxOk n Ts (fnd n Ts) none kv h'->Sub h h'->Q (.tup [.dct W,.dct N]) h'
theorem yE (Z:Zs mg)(F:Fun K "ways_and_nexts" "ways_and_nexts" ze f fd)(WV:jr P w K mg base n "marks" ["table"] JR)(Zc:jr P w K mg base n "marks_after" ["ahead","table"] wC):FnOk P w K mg base CX0 (n+1) f fd ["tables"] (LSp K zJ):=by
 refine F.okM jm (λhr=>(js5 (jse 1 jm UL) (jse 2 jm UL) (Uk (i:=7) (j:=8) (k:=3) (js:= [7,8]) rfl jm.nd rfl (C9 rfl) (jU (by rfl)) (JB rfl Z.enumerate (j1 (jv 0))) (by decide) (by decide) (by decide) rfl rfl (by first|exact C9 rfl|exact E5 rfl) (by first|exact C9 rfl|exact E5 rfl) (λX' hX=>wK) (λX' hX=>by obtain⟨C,s₀,H₀,ex,rfl⟩:=hX;exact(vI (j2 (vI (j1 (jv 7))) (jk WV hr (j1 (jv 8))))))) (Qt M4 (ND (jv 3)) (js3 (jse 4 jm (vG zZ)) (YM M4 rfl (jR (jv 3)) (ZB (i:=5) (j:=6) rfl jm.nd rfl rfl (by first|exact E5 rfl|exact C9 rfl) (by first|exact E5 rfl|exact C9 rfl)) (jQ (Ms (GW (ZP hr) (jv 6) (jv 1) (by with_unfolding_all rfl)) (js3 (Ps hr (jv 1) (jv 6) (jv 5)) (Ps hr (jv 2) (jv 6) (jl0 8 jm (jR (jv 0)) (λ_ _ _ _=>(jk Zc hr (j2 (jv 6) (jv 8)))))) (Jx (Ck (jv 4) (BY (i:=7) (j:=9) (js:= [7,9]) rfl (jU (by rfl)) (JB rfl Z.enumerate (j1 (Ci hr (jv 2) (jv 6)))) (by decide) (by decide) (by decide) jm.nd rfl rfl (by first|exact C9 rfl|exact E5 rfl) (by first|exact C9 rfl|exact E5 rfl) (λX' hX=>wK) (λX' hX=>by obtain⟨C,s₀,H₀,ex,rfl⟩:=hX;exact(vI (j2 (jop zo (jv 5) (vI (j1 (jv 7)))) (jv 9)))))))) Yj))) (jse 3 jm (jv 4)))) (wy (vI (j2 (jv 1) (jv 2)))))) ?_;rintro ds h Q ⟨A,Ts,n,rfl,kA,hT,q⟩;refine⟨rfl,?_⟩;have n1:=hT.n1;have n3:=hT.n3;have l3:=hT.l3;have big: ∀x,x<=3000->x<=sizeLine:=λx hx=>T8 hx (by decide)
 refine jh (λmB h'=> ∃W,mB= [some (.lst A),some (.dct W),none,none,none,none,none,none,none,none]/\h.dc W=none/\h' A=some (Ts.map jp)/\h'.dc W=some (.tk 0 [])/\Sub h h') (λC hC=>λW eW=>hC _ _ ⟨W,rfl,eW,kA,jY,.newC eW⟩) ?_;rintro _ h1 ⟨W,rfl,fW,kA1,kW,sb1⟩;refine jh (λmB h'=> ∃N,mB= [some (.lst A),some (.dct W),some (.dct N),none,none,none,none,none,none,none]/\h.dc N=none/\N≠W/\h' A=some (Ts.map jp)/\h'.dc W=some (.tk 0 [])/\h'.dc N=some (.tk 0 [])/\Sub h h') (λC hC=>λN eN=> ?_) ?_
 ·have nW:N≠W:=λz=>by rw [z,kW] at eN;cases eN
  have fN:h.dc N=none:=by
   cases z:h.dc N with
   |none=>rfl
   |some c=>rw [sb1.dc N c z] at eN;cases eN
  exact hC _ _ ⟨N,rfl,fN,nW,kA1,(wI (C6 nW)).trans kW,jY,sb1.overC fN⟩
 clear kA1 kW sb1;rintro _ h2 ⟨N,rfl,fN,nW,kA2,kW,kN,sb2⟩;refine jh (λmB h'=> ∃Fr,mB= [some (.lst A),some (.dct W),some (.dct N),some (.lst Fr),none,none,none,none,none,none]/\h' A=some (Ts.map jp)/\h'.dc W=some (.tk 0 [])/\h'.dc N=some (.tk 0 [])/\h' Fr=some ((bst n Ts 0).2.map (wyD n Ts))/\Sub h h') (λC hC=>Bn (j:=λh=>(h A).map ZF) (D3 Ts.length) (λ(x:P0)=> .int (x:G8)) (λx=>jp (Ts.getD x [])) (λx=>wyD n Ts [x]) (by rw [S5];omega) ?_ (λR r=>⟨_,rfl,A,rfl,r⟩) (λx hx Q' q'=>⟨_,rfl,sz1,_,rfl,Ts.getD x [],n,20,rfl,hT.get (S8.mp hx),n1,by omega,sz2,q'⟩) λFr eF=>hC _ _ ⟨Fr,rfl,jb kA2 eF,kW,kN,?_,sb2.newAt eF⟩) ?_
 ·show (h2 A).map ZF=_;rw [kA2,Y3,Ji,Yy (n:=n) (λ_ T=>T)]
 ·rw [ja];show some _=some (((D3 Ts.length).map λa=> [a]).map (wyD n Ts));rw [S7];rfl
 clear kA2 kW kN sb2;rintro _ h3 ⟨Fr,rfl,kA3,kW,kN,kF,sb3⟩;refine jh (λmB h'=> ∃Fr b4 b5 b6 ep ep2 kv,mB= [some (.lst A),some (.dct W),some (.dct N),some (.lst Fr),b4,b5,b6,none,none,none]/\h'.dc W=some (.tk ep (kvW (fnd n Ts)))/\h'.dc N=some (.tk ep2 kv)/\NxOk n Ts (fnd n Ts) none kv h'/\Sub h h') (λC hC=> ?_) ?_
 ·refine Yo (λm mB h'=> ∃k Fr b4 b5 b6 ep ep2 kv s,mB= [some (.lst A),some (.dct W),some (.dct N),some (.lst Fr),b4,b5,b6,none,none,none]/\s=bst n Ts k/\h' A=some (Ts.map jp)/\h'.dc W=some (.tk ep (kvW s.1))/\h'.dc N=some (.tk ep2 kv)/\NxOk n Ts s.1 none kv h'/\h' Fr=some (s.2.map (wyD n Ts))/\Sub h h'/\m=Va s/\k+m<=1025) _ ⟨0,Fr,_,_,_,0,0,[],_,rfl,rfl,kA3,kW,kN,⟨rfl,(λ_ z=>nomatch z)⟩,kF,sb3,rfl,ZT hT.l1⟩ ?_;clear kA3 kW kN kF sb3;rintro m _ h4 ⟨k,Fr,b4,b5,b6,ep,ep2,kv,s,rfl,es,kA4,kW,kN,nx,kF,sb4,rfl,hk⟩;have bn:Bin n Ts k s:=es ▸ JJ l3 k;refine⟨_,rfl,_,⟨_,kF,rfl⟩,?_⟩
  by_cases ez:s.2= []
  ·rw [ez];refine vH (hC _ _ ⟨Fr,b4,b5,b6,ep,ep2,kv,rfl,?_,kN,?_,sb4⟩)
   ·rw [<-WI (k:=k) (es ▸ ez) (by omega),<-es];exact kW
   ·rw [<-WI (k:=k) (es ▸ ez) (by omega),<-es];exact nx
  rw [show (!(s.2.map (wyD n Ts)).isEmpty)=true from by
   cases z:s.2 with
   |nil=>exact absurd z ez
   |cons=>rfl]
  refine Xd ?_;refine jh (λmB h'=> ∃L,mB= [some (.lst A),some (.dct W),some (.dct N),some (.lst Fr),some (.lst L),b5,b6,none,none,none]/\L≠A/\L≠Fr/\h L=none/\h' A=some (Ts.map jp)/\h'.dc W=some (.tk ep (kvW s.1))/\h'.dc N=some (.tk ep2 kv)/\NxOk n Ts s.1 (some L) kv h'/\h' Fr=some (s.2.map (wyD n Ts))/\h' L=some []/\Sub h h') (λC hC=>⟨sz0,λL eL=>hC _ _ ⟨L,rfl,ji kA4 eL,ji kF eL,XR sb4 eL,jb kA4 eL,kW,kN,⟨nx.1,λp hp=> ?_⟩,jb kF eL,ja,sb4.newAt eL⟩⟩) ?_
  ·obtain⟨X,e1,e2,_⟩:=nx.2 p hp;exact⟨X,e1,jb e2 eL,λz=>by injection z with z;exact ji e2 eL z.symm⟩
  clear kA4 kW kN nx kF sb4;rintro _ h5 ⟨L,rfl,nA,nF,fL,kA5,kW,kN,nx,kF,kL,sb5⟩;refine jh (λmB h'=> ∃b5 b6 ep ep2 kv s',mB= [some (.lst A),some (.dct W),some (.dct N),some (.lst Fr),some (.lst L),b5,b6,none,none,none]/\s'=QB n Ts s/\h' A=some (Ts.map jp)/\h'.dc W=some (.tk ep (kvW s'.1))/\h'.dc N=some (.tk ep2 kv)/\NxOk n Ts s'.1 none kv h'/\h' L=some (s'.2.map (wyD n Ts))/\Sub h h') (λC hC=> ?_) ?_
  ·refine wt (h1:=h5) (j:=λh=>h Fr) (s.2.map (wyD n Ts)) (λi mB h'=> ∃b5 b6 ep ep2 kv s',mB= [some (.lst A),some (.dct W),some (.dct N),some (.lst Fr),some (.lst L),b5,b6,none,none,none]/\s'=(s.2.take i).foldl (lvS n Ts) (s.1,[])/\h' A=some (Ts.map jp)/\h'.dc W=some (.tk ep (kvW s'.1))/\h'.dc N=some (.tk ep2 kv)/\NxOk n Ts s'.1 (some L) kv h'/\h' Fr=some (s.2.map (wyD n Ts))/\h' L=some (s'.2.map (wyD n Ts))/\Sub h h') (λR r=>⟨_,rfl,r⟩) (λi mB h' ⟨_,_,_,_,_,_,_,_,_,_,_,_,z,_⟩=>z) ⟨b5,b6,ep,ep2,kv,_,rfl,rfl,kA5,kW,kN,nx,kF,kL,sb5⟩ (λmB h' ⟨b5,b6,ep,ep2,kv,s',e,es',a1,a2,a3,a4,_,a6,a7⟩=>hC _ _ ⟨b5,b6,ep,ep2,kv,s',e,?_,a1,a2,a3,⟨a4.1,λp hp=>let ⟨X,e1,e2,_⟩:=a4.2 p hp;⟨X,e1,e2,λz=>nomatch z⟩⟩,a6,a7⟩) ?_
   ·rw [es',G3,L3];rfl
   clear kA5 kW kN nx kF kL sb5;rintro i d _ h6 hd ⟨c5,c6,ep,ep2,kv,s',rfl,es',kA6,kW,kN,nx,kF,kL,sb6⟩;have hil:=(D1.mp hd).1;rw [P7] at hd;obtain⟨w,ew,rfl⟩:=F2.mp hd;obtain⟨hw,lw⟩:=bn.fr w (S0 ew);have md:Mid n Ts k s.1.length s':=es' ▸ bn.mids l3 i;have few:=md.few n3;have nxt:=md.step l3 hw lw;have k1025:k<=1025:=by omega
   have es2:(s.2.take (i+1)).foldl (lvS n Ts) (s.1,[])=lvS n Ts s' w:=by rw [ZW ew,<-es']
   refine⟨_,_,rfl,?_⟩;refine⟨_,rfl,_,rfl,W,mkW n Ts w,ep,_,rfl,rfl,kW,_,rfl,?_⟩;show if (true !=(zq (kvW s'.1) (mkW n Ts w)).isSome)=true then _ else _
   rw [WK];cases hg:(zq s'.1 (mkW n Ts w)).isSome with
   |true=>exact vH ⟨_,Sub.refl _,hil,_,_,ep,ep2,kv,s',rfl,by rw [es2,WG hg],kA6,kW,kN,nx,kF,kL,sb6⟩
   |false=>
    have es3:=es2.trans (WH hg);refine Xd ?_;refine jh (λmB h'=> ∃ep,mB= [some (.lst A),some (.dct W),some (.dct N),some (.lst Fr),some (.lst L),some (za w),some (jp (mkW n Ts w)),none,none,none]/\h' A=some (Ts.map jp)/\h'.dc W=some (.tk ep (kvW (s'.1++ [(mkW n Ts w,w)])))/\h'.dc N=some (.tk ep2 kv)/\NxOk n Ts s'.1 (some L) kv h'/\h' Fr=some (s.2.map (wyD n Ts))/\h' L=some (s'.2.map (wyD n Ts))/\Sub h h') (λC hC=>⟨_,rfl,_,rfl,_,rfl,W,mkW n Ts w,ep,kvW s'.1,rfl,rfl,kW,by unfold kvW;rw [G3];omega,λep'=>hC _ _ ⟨ep',rfl,kA6,by rw [jY,US hg],(wI nW).trans kN,nx,kF,kL,sb6.overC fW⟩⟩) ?_;clear kA6 kW kN kF kL sb6;rintro _ h7 ⟨ep,rfl,kA7,kW,kN,nx,kF,kL,sb7⟩;refine jh (λmB h'=> ∃X ep2,mB= [some (.lst A),some (.dct W),some (.dct N),some (.lst Fr),some (.lst L),some (za w),some (jp (mkW n Ts w)),none,none,none]/\h' A=some (Ts.map jp)/\h'.dc W=some (.tk ep (kvW (s'.1++ [(mkW n Ts w,w)])))/\h'.dc N=some (.tk ep2 (kv++ [(mkW n Ts w,.lst X)]))/\NxOk n Ts (s'.1++ [(mkW n Ts w,w)]) (some L) (kv++ [(mkW n Ts w,.lst X)]) h'/\h' X=some (nxD n Ts (mkW n Ts w))/\h' Fr=some (s.2.map (wyD n Ts))/\h' L=some (s'.2.map (wyD n Ts))/\Sub h h') (λC hC=>lcA (j:=λh=>h A) (D3 Ts.length) (λx=>jp (Ts.getD x [])) (λx=>jp (mk1 n (Ts.getD x []) (mkW n Ts w))) (by rw [S5];omega) (by show h7 A=_;rw [kA7,Ji]) (λR r=>⟨_,rfl,r⟩) (λx hx Q' q'=>⟨_,rfl,_,rfl,mkW n Ts w,Ts.getD x [],n,20,rfl,UR w,hT.get (S8.mp hx),n1,by omega,by decide,q'⟩) λX eX=>⟨_,rfl,_,rfl,N,mkW n Ts w,ep2,kv,rfl,rfl,kN,by rw [nx.len];omega,λep'=>hC _ _ ⟨X,ep',rfl,jb kA7 eX,(wI (C6 nW)).trans kW,by rw [jY,(JK (nx.none hg)).1],⟨?_,λp hp=> ?_⟩,ja,jb kF eX,jb kL eX,(sb7.newAt eX).overC fN⟩⟩) ?_
    ·rw [R9,R9,nx.1];rfl
    ·rcases R8.mp hp with z|z
     ·obtain⟨Y,e1,e2,e3⟩:=nx.2 p z;exact⟨Y,e1,jb e2 eX,e3⟩
     ·rw [P2.mp z];exact⟨X,rfl,ja,λz=>by injection z with z;exact ji kL eX z⟩
    have gt: ∀X,zq (kv++ [(mkW n Ts w,D.lst X)]) (mkW n Ts w)=some (.lst X):=λX=>by
     have z:=JK (d:=D.lst X) (nx.none hg);rw [<-z.1];exact z.2
    clear kA7 kW kN kF kL sb7 nx;rintro _ h8 ⟨X,ep2,rfl,kA8,kW,kN,nx,kX,kF,kL,sb8⟩;refine⟨_,rfl,L,rfl,Bn (j:=λh=>(h X).map ZF) (D3 Ts.length) (λ(x:P0)=> .int (x:G8)) (λx=>jp (mk1 n (Ts.getD x []) (mkW n Ts w))) (λx=>wyD n Ts (w++ [x])) (by rw [S5];omega) ?_ (λR r=>⟨_,rfl,_,rfl,N,mkW n Ts w,ep2,_,.lst X,rfl,rfl,kN,gt X,X,rfl,r⟩) (λx hx Q' q'=>⟨_,rfl,_,rfl,sz1,?_,_,rfl,sz2,?_⟩) λY eY=>⟨Y,_,_,rfl,jb kL eY,ja,?_,_,Sub.refl _,hil,_,_,ep,ep2,_,(s'.1++ [(mkW n Ts w,w)],s'.2++(D3 Ts.length).map λa=>w++ [a]),rfl,es3.symm,jd (C6 nA) (jb kA8 eY),kW,kN,⟨nx.1,λp hp=> ?_⟩,jd (C6 nF) (jb kF eY),by rw [ja,Px],(sb8.newAt eY).over fL⟩⟩
    ·show (h8 X).map ZF=_;rw [kX,Y3];exact congrArg some (Yy (n:=n) λ_ T=>mk1 n T (mkW n Ts w))
    ·rw [G3];exact big _ (by simp only [S3,M7];omega)
    ·rw [Qc hw.1] at q';exact q'
    ·rw [G3,G3,S5];exact big _ (by have:=md.gr;omega)
    ·obtain⟨Z,e1,e2,e3⟩:=nx.2 p hp;exact⟨Z,e1,jd (λz=>e3 (congrArg some z)) (jb e2 eY),e3⟩
  clear kA5 kW kN nx kF kL sb5;rintro _ h6 ⟨c5,c6,ep,ep2,kv,s',rfl,es',kA6,kW,kN,nx,kL,sb6⟩;have ls:Va s'<Va s:=by rw [es'];exact Yw bn n3 l3 ez
  exact⟨_,rfl,Va s',_,ls,Sub.refl _,k+1,L,_,_,_,ep,ep2,kv,s',rfl,by rw [es',es];rfl,kA6,kW,kN,nx,kL,sb6,rfl,by omega⟩
 clear kA3 kW kN kF sb3;rintro _ h4 ⟨Fr,b4,b5,b6,ep,ep2,kv,rfl,kW,kN,nx,sb4⟩;exact⟨_,rfl,_,rfl,sz2,h4,Sub.refl _,q W N ep ep2 kv h4 kW kN nx sb4⟩
/-- the first way of those found whose marks are full -/
def fwD (F:Fnd):D:=match F.find? (λp=>zc p.1) with
 |some p=>za p.2
 |none=> .non
theorem UY {α:Type}{f:α->B4}: ∀ {F:G0 α} {i:P0} {p:α},F[i]? =some p->(∀q∈F.take i,f q=false)->f p=true->F.find? f=some p
 |x::F,0,p,e,_,hp=>by
  injection e with e
  subst e;rw [N2,hp]
 |x::F,i+1,p,e,g,hp=>by
  rw [N2,g x (by rw [cR];exact P6)];exact UY (F:=F) (by simpa using e) (λq hq=>g q (by rw [cR];exact D2 _ hq)) hp
theorem yF (F:Fnd):yM (kvW F)=F.map λp=> .tup [jp p.1,za p.2]:=by unfold yM kvW;rw [S7];rfl
theorem JU (l3:Ts.length<=3){p:G0 (G0 G8)×G0 P0}(h:p∈fnd n Ts):Sq n 1 p.1/\(∀i∈p.2,i<Ts.length)/\p.2.length<=1025:=by
 obtain⟨a,b,c⟩:=(WJ (n:=n) l3).fd p h;exact⟨a ▸ UR _,b.2,c⟩
def vD:RDn:=λds h Q=> ∃A Ts,∃n:P0,ds= [.lst A]/\h A=some (Ts.map jp)/\TabsOk n Ts/\Q (fwD (fnd n Ts)) h
theorem WO (Z:Zs mg)(F:Fun K "full_way" "full_way" yA f fd)(Zd:jr P w K mg base n "want_tables" ["thing"] wB)(yT:jr P w K mg base n "ways_and_nexts" ["tables"] zJ)(Mc:jr P w K mg base n "full" ["table"] UX):FnOk P w K mg base CX0 (n+1) f fd ["tables"] (LSp K vD):=by
 refine F.okM wV (λhr=>(js4 (Jx (jk Zd hr (j1 (jv 0)))) (PJ (jk yT hr (j1 (jv 0))) (ZB (i:=1) (j:=2) rfl wV.nd rfl rfl (C9 rfl) (C9 rfl))) (YM M4 rfl (Yu (jv 1)) (ZB (i:=3) (j:=4) rfl wV.nd rfl rfl (C9 rfl) (C9 rfl)) (jQ (WD (vp (jk Mc hr (j1 (jv 3)))) (wy (jv 4))))) (wy Bk))) ?_;rintro ds h Q ⟨A,Ts,n,rfl,kA,hT,q⟩;refine⟨rfl,?_⟩;have n1:=hT.n1;have n3:=hT.n3;refine ZN [some (.lst A),none,none,none,none] (λC hC=>⟨_,rfl,A,Ts,n,rfl,kA,hT,hC⟩) ?_;refine jh (λmB h'=> ∃W N ep,mB= [some (.lst A),some (.dct W),some (.dct N),none,none]/\h'.dc W=some (.tk ep (kvW (fnd n Ts)))/\Sub h h') (λC hC=>⟨_,rfl,A,Ts,n,rfl,kA,hT,λW N ep ep2 kv h' kW kN nx sb=>⟨_,_,rfl,hC _ _ ⟨W,N,ep,rfl,kW,sb⟩⟩⟩) ?_;rintro _ h1 ⟨W,N,ep,rfl,kW,sb⟩;refine jh (λmB h'=>(∃b3 b4,mB= [some (.lst A),some (.dct W),some (.dct N),b3,b4])/\h1=h'/\ ∀p∈fnd n Ts,zc p.1=false) (λC hC=> ?_) ?_
 ·refine wt (h1:=h1) (j:=yN W ep (kvW (fnd n Ts)).length) (yM (kvW (fnd n Ts))) (λi mB h'=>(∃b3 b4,mB= [some (.lst A),some (.dct W),some (.dct N),b3,b4])/\h1=h'/\ ∀p∈(fnd n Ts).take i,zc p.1=false) (λR r=>⟨_,rfl,W,ep,_,rfl,kW,r⟩) (λi mB h' ⟨_,e,_⟩=>e ▸ ZS kW) ⟨⟨_,_,rfl⟩,rfl,(λ_ z=>nomatch z)⟩ (λmB h' ⟨a,b,c⟩=>hC _ _ ⟨a,b,λp hp=>c p (by rw [yF,G3,L3];exact hp)⟩) ?_;rintro i d _ _ hd ⟨⟨b3,b4,rfl⟩,rfl,no⟩;have hil:=(D1.mp hd).1;rw [yF,P7] at hd;obtain⟨p,hp,rfl⟩:=F2.mp hd;refine⟨_,_,rfl,?_⟩;refine⟨_,rfl,p.1,n,1,rfl,(JU hT.l3 (S0 hp)).1,n1,by omega,_,rfl,?_⟩;cases f:zc p.1 with
  |true=>
   refine Xd ⟨_,rfl,h,sb,?_⟩;unfold fwD at q;rw [UY (f:=λp=>zc p.1) hp no f] at q;exact q
  |false=>
   refine vH ⟨_,Sub.refl _,hil,⟨_,_,rfl⟩,rfl,λx hx=> ?_⟩;rw [cJ,hp] at hx;rcases R8.mp hx with z|z
   ·exact no x z
   ·rw [P2.mp z];exact f
 rintro _ _ ⟨⟨b3,b4,rfl⟩,rfl,no⟩;refine⟨h,sb,?_⟩;unfold fwD at q;rw [dD.mpr λp hp=>by rw [no p hp];exact P3] at q;exact q
def yO:RDn:=λds h Q=> ∃ns k,ds= [.scr ns,.int k]/\0<=k/\ ∀n,Q (.int n) h
theorem ZX (Z:Zs mg)(F:Fun K "_law_cell" "_law_cell" wP f fd):FnOk P w K mg base CX0 (n+1) f fd ["_law_script","_law_k"] (LSp K yO):=by
 refine F.okM ZU (λhr=>(js2 (WD (jt1 Rt (jv 1) (YW Z (jv 0))) (wy (ji1 (jv 0) (jv 1)))) (wy jt))) ?_;rintro ds h Q ⟨ns,k,rfl,h0,q⟩;refine⟨rfl,?_⟩;simp only [ym,Vl,zY,dOp,Zh,zt,R0,E7,S3,M7,L0,F6,T4,R6,T6,dCB,jI,wX,PF,Xg,D.bl.injEq,Xf,ixD,YK,M3,vk,dC];refine Xe (λc=> ?_) (λ_=>⟨h,Sub.refl h,q 0⟩);have c':k<(ns.length:G8):=aR c;have hk:k.toNat<ns.length:=by omega
 have ek:k=((k.toNat:P0):G8):=by omega
 have z:=zn (G4 hk);rw [<-ek] at z;exact⟨ns[k.toNat],z,h,Sub.refl h,q _⟩
def vE:RDn:=λds h Q=> ∃c,ds= [.int c]/\ ∀p l fl,h p=none->0<=l->(fl=0\/fl=1)->Q (.lst p) (zi h p [.int l,.int fl])
theorem WP (Z:Zs mg)(F:Fun K "_law_pen" "_law_pen" yB f fd):FnOk P w K mg base CX0 (n+1) f fd ["_law_cell_here"] (LSp K vE):=by
 refine F.okM vA (λhr=>(js2 (jse 1 vA (zv (Rw rfl) rfl Z.max (by decide +kernel) (j2 (jv 0) (jop VR jt (jv 0))))) (wy (vG (j2 (jv 1) (jD Yg rfl Z.int (by decide +kernel) (j1 (jc1 GN (jv 1) (jop Qo jt jt))))))))) ?_;rintro ds h Q ⟨c,rfl,q⟩;refine⟨rfl,?_⟩;simp only [ym,Zi,dCB,jI,Zh,zt,R0,E7,S3,M7,D5,L0,F6,R6,T6,dOp,dC,Ni,wX,Nl,Xf,Qn,N7,N8,T4,Nj,Xg,Mp,YK,M3];refine⟨⟨by decide,by decide,by decide⟩,by decide,λp hp=>⟨_,Sub.refl _,q p _ _ hp ?_ ?_⟩⟩
 ·split<;>omega
 ·split<;>simp<;>omega
def jZ:RDn:=λds h Q=> ∃p l fl m,ds= [.lst p,.int m]/\h p=some [.int l,.int fl]/\0<=l/\0<m/\m<1073741824/\ ∀r l',0<=r->r<m->0<=l'->Q (.int r) (zi h p [.int l',.int fl])
theorem ZY (Z:Zs mg)(F:Fun K "_law_draw" "_law_draw" wQ f fd):FnOk P w K mg base CX0 (n+1) f fd ["_law_pen_here","_law_many_here"] (LSp K jZ):=by
 refine F.okM zx (λhr=>(js5 (Ms (jt1 oq_eq (ji1 (jv 0) jt) jt) (js3 (PJ (zv VU rfl Z.divmod (by decide +kernel) (j2 (ji1 (jv 0) jt) (jv 1))) (ZB (i:=2) (j:=3) rfl zx.nd rfl rfl (C9 rfl) (C9 rfl))) (PJ (jv 2) (Yk (jv 0) jt)) (wy (jv 3))) Yj) (jse 4 zx (jop ya (jop Jv (jop zo (jop ya (ji1 (jv 0) jt) jt) jt) jt) jt)) (jse 4 zx (jop ya (jop zo (jop Jv (jv 4) (jv 4)) jt) jt)) (PJ (jop ya (jop zo (jop Jv (jv 4) jt) jt) jt) (Yk (jv 0) jt)) (wy (jop ya (jop GL (ji1 (jv 0) jt) jt) (jv 1))))) ?_;rintro ds h Q ⟨p,l,fl,m,rfl,hp,h0,hm,hm2,q⟩;refine⟨rfl,?_⟩;simp only [ym,Vl,zY,dOp,Zh,zt,R0,E7,S3,M7,D5,L0,F6,R6,T6,dC,ixD,eqD,D.bl.injEq,Ml,dCB,jI,T4,wX,gT2,N7,N8,GR,Xf,YK,M3,D.lst.injEq,hp,vk,Zi,Mo,Rr,Mr,Mn,Rs];refine⟨_,_,rfl,rfl,?_⟩;show if decide (fl=1)=true then _ else _
 refine Xe (λ_=> ?_) (λ_=> ?_)
 ·exact⟨_,_,rfl,rfl,⟨hm,hm2⟩,_,_,rfl,p,0,_,0,rfl,rfl,hp,rfl,_,Sub.refl _,q (l%m) (l / m) (U0 _ (by omega)) (I0 _ hm) (Int.ediv_nonneg h0 (by omega))⟩
 ·have b1:0<=l%2147483647/\l%2147483647<2147483647:=⟨U0 _ (by decide),I0 _ (by decide)⟩;refine⟨_,_,rfl,rfl,by decide,.inr ⟨by decide,by decide⟩,by decide,?_⟩;have b2: ∀z:G8,0<=z%2147483629/\z%2147483629<2147483629:=λz=>⟨U0 _ (by decide),I0 _ (by decide)⟩
  have b3: ∀z:G8,0<=z%2147483587/\z%2147483587<2147483587:=λz=>⟨U0 _ (by decide),I0 _ (by decide)⟩
  generalize (l%2147483647+40503)*69621=z1;have c1:CMul (z1%2147483629) (z1%2147483629):=by
   have z:=b2 z1;exact .inl ⟨by omega,by omega⟩
  generalize (z1%2147483629*(z1%2147483629)+7817)=z2;generalize ((z2%2147483587)*48271+11)=z3;have z:=b2 z3;refine⟨c1,by decide,.inr ⟨by decide,by decide⟩,by decide,p,0,_,0,rfl,rfl,hp,rfl,_,_,ja,rfl,⟨by decide,by decide⟩,hm,_,Sub.refl _,?_⟩;exact q (z3%2147483629 / 32%m) (z3%2147483629) (U0 _ (by omega)) (I0 _ hm) z.1
theorem ZZ (Z:Zs mg)(F:Fun K "_law_same" "_law_same" wR f fd):FnOk P w K mg base CX0 (n+1) f fd ["_law_found","_law_due"] (LSp K Qw):=by
 refine F.okM ZV (λhr=>(jQ (wy (jc1 oq_eq (zv (Yp hr) rfl Z.repr (by decide +kernel) (j1 (jv 0))) (zv (Yp hr) rfl Z.repr (by decide +kernel) (j1 (jv 1))))))) ?_;rintro ds h Q ⟨x,y,pd,rfl,t1,t2,so,q⟩;refine⟨rfl,?_⟩;refine⟨_,rfl,x,pd,rfl,t1,so,_,rfl,y,pd,rfl,t2,so,h,Sub.refl h,?_⟩;rw [N3 rfl];exact q
def zk:RDn:=λds h Q=> ∃p l fl,∃k:P0,ds= [.lst p,.int (k:G8)]/\h p=some [.int l,.int fl]/\0<=l/\1<=k/\k<=6/\ ∀T l',GoodTab k T->0<=l'->Q (jp T) (zi h p [.int l',.int fl])
theorem JV (Z:Zs mg)(F:Fun K "_law_table" "_law_table" we f fd)(jj:jr P w K mg base n "_law_draw" ["_law_pen_here","_law_many_here"] jZ):FnOk P w K mg base CX0 (n+1) f fd ["_law_pen_here","_law_size"] (LSp K zk):=by
 refine F.okM jq (λhr=>(js5 (Nv (i:=2) (j:=3) rfl jq.nd rfl rfl (by decide) rfl rfl (j2 (jk jj hr (j2 (jv 0) jt)) (ji1 (vG (j3 jt jt jt)) (jk jj hr (j2 (jv 0) jt)))) rfl) (jse 4 jq (ji1 (vG (j4 jt jt jt (jop Qo jt jt))) (jk jj hr (j2 (jv 0) jt)))) (jse 5 jq (vG zZ)) (YM M4 rfl (jrg Z (jv 1)) (jgn 6 jq) (js3 (jse 7 jq (vG zZ)) (YM M4 rfl (jrg Z (jv 1)) (jgn 8 jq) (js5 (jse 9 jq (jc1 oq_eq (jk jj hr (j2 (jv 0) (jv 3))) jt)) (WD (jt1 Rt (jv 2) jt) (jse 9 jq (jor (jc1 oq_eq (jv 8) (jop ya (jop zo (jv 6) jt) (jv 1))) (GX (RK (jv 9) (GX (jc1 (Qq hr.units) (jk jj hr (j2 (jv 0) jt)) (jv 2)))))))) (WD (jt1 oq_eq (jv 2) jt) (jse 9 jq (jor (RK (jv 9) (GX (jc1 oq_eq (jop ya (jop VR (jv 8) (jv 6)) jt) jt))) (GX (jc1 (Qq hr.units) (jv 8) (jop zo (jv 6) jt)))))) (WD (jt1 oq_eq (jv 2) jt) (jse 9 jq (RK (jv 9) (GX (jc1 GN (jv 8) (jv 6)))))) (Jx (Mt (jv 7) (jop Jv (jD Yg rfl Z.int (by decide +kernel) (j1 (jv 9))) (jop zo jt (jk jj hr (j2 (jv 0) (jv 4))))))))) (Jx (Mt (jv 5) (jD cq_tuple rfl Z.tuple (by decide +kernel) (j1 (jv 7))))))) (wy (jD cq_tuple rfl Z.tuple (by decide +kernel) (j1 (jv 5)))))) ?_;rintro ds h Q ⟨p,l,fl,k,rfl,hp,h0,hk1,hk6,q⟩;refine⟨rfl,?_⟩;refine jh (λmB h'=> ∃way o l2,mB= [some (.lst p),some (.int (k:G8)),some (.int way),some (.int o),none,none,none,none,none,none]/\0<o/\o<1000/\0<=l2/\h' p=some [.int l2,.int fl]/\But p h h') (λC hC=> ?_) (λmB h' hV=> ?_)
 ·simp only [Mm,jI,dCB,Zh,zt,R0,E7,S3,M7,D5,L0,F6,R6,T6,dC,wX,dOp,Qn,ixD,N7,N8,M3];refine⟨p,l,fl,6,rfl,hp,h0,by decide,by decide,λway l1 w0 w1 l10=> ?_⟩;refine⟨by decide,λp1 e1=>⟨p,l1,fl,3,rfl,jb ja e1,l10,by decide,by decide,λr l2 r0 r1 l20=> ?_⟩⟩;obtain⟨oft,ho,eo⟩:=vn (xs:= [D.int 2,D.int 3,D.int 5]) r0 r1;refine⟨_,oft,jd (ji ja e1) ja,eo,?_⟩;obtain⟨o,e,o1,o2⟩: ∃o:G8,oft= .int o/\0<o/\o<1000:=by
   simp only [R5,B2,or_false] at ho;rcases ho with e|e|e<;>exact⟨_,e,by decide,by decide⟩
  subst e;exact⟨_,_,rfl,hC _ _ ⟨way,o,l2,rfl,o1,o2,l20,ja,((But.upd).new e1).put⟩⟩
 obtain⟨way,o,l2,e,o1,o2,l20,kA,bA⟩:=hV;subst e;refine jh (λmB h'=> ∃m l3,mB= [some (.lst p),some (.int (k:G8)),some (.int way),some (.int o),some (.int m),none,none,none,none,none]/\0<m/\m<=1000000/\0<=l3/\h' p=some [.int l3,.int fl]/\But p h h') (λC hC=> ?_) (λmB h' hV=> ?_)
 ·simp only [Zi,dOp,Qn,jI,dC,Nj,wX,S3,M7,dCB,Zh,R6,T6,ixD,N7,N8,M3];refine⟨⟨by decide,by decide,by decide⟩,by decide,λp1 e1=>⟨p,l2,fl,4,rfl,jb kA e1,l20,by decide,by decide,λr l3 r0 r1 l30=> ?_⟩⟩;obtain⟨most,ho,eo⟩:=vn (xs:= [D.int 1,D.int 1,D.int 3,D.int (10^lN 6)]) r0 r1;refine⟨_,most,jd (ji kA e1) ja,eo,?_⟩;obtain⟨m,e,o1,o2⟩: ∃o:G8,most= .int o/\0<o/\o<=1000000:=by
   simp only [R5,B2,or_false] at ho;rcases ho with e|e|e|e<;>exact⟨_,e,by decide,by decide⟩
  subst e;exact hC _ _ ⟨m,l3,rfl,o1,o2,l30,ja,(bA.new e1).put⟩
 obtain⟨m,l3,e,m1,m2,l30,kB,bB⟩:=hV;subst e;refine jh (λmB h'=> ∃R,mB= [some (.lst p),some (.int (k:G8)),some (.int way),some (.int o),some (.int m),some (.lst R),none,none,none,none]/\R≠p/\h R=none/\h' R=some []/\h' p=some [.int l3,.int fl]/\But p h h') (λC hC=> ?_) (λmB h' hV=> ?_)
 ·simp only [Zi,Qn,wX,M7,N7,N8];exact⟨by decide,λR eR=>hC _ _ ⟨R,rfl,ji kB eR,vo bB eR (ji kB eR),ja,jb kB eR,bB.new eR⟩⟩
 obtain⟨R,e,nR,fR,kR,kC,bC⟩:=hV;subst e;refine jh (λmB h'=> ∃a b c d l4 rows,mB= [some (.lst p),some (.int (k:G8)),some (.int way),some (.int o),some (.int m),some (.lst R),a,b,c,d]/\0<=l4/\h' p=some [.int l4,.int fl]/\h' R=some (rows.map zw)/\But p h h'/\GoodTab k rows) (λC hC=> ?_) (λmB h' hV=> ?_)
 rotate_left
 ·obtain⟨a,b,c,d,l4,rows,e,l40,kD,kE,bD,g⟩:=hV;subst e;simp only [Xf,dCB,jI,Zh,T4,R6,T6,wX,Ye,YK,M3];exact⟨_,kE,_,bD.sub kD,q rows l4 g l40⟩
 refine yt k (λi mB h'=> ∃a b c d l4 rows,mB= [some (.lst p),some (.int (k:G8)),some (.int way),some (.int o),some (.int m),some (.lst R),a,b,c,d]/\0<=l4/\h' p=some [.int l4,.int fl]/\h' R=some (rows.map zw)/\But p h h'/\rows.length=i/\ ∀r∈rows,zA k r) (by omega) (λR' r=>⟨_,rfl,r⟩)
  ⟨none,none,none,none,l3,[],rfl,l30,kC,kR,bC,rfl,λr hr=>nomatch hr⟩ (λmB h' ⟨a,b,c,d,l4,rows,e,l40,kD,kE,bD,g1,g2⟩=>hC _ _ ⟨a,b,c,d,l4,rows,e,l40,kD,kE,bD,g1,g2⟩) ?_
 rintro i mB h' hi ⟨a,b,c,d,l4,rows,e,l40,kD,kE,bD,g1,g2⟩;subst e;show ym _ _ _ [some (.lst p),some (.int (k:G8)),some (.int way),some (.int o),some (.int m),some (.lst R),some (.int (i:G8)),b,c,d] h';refine jh (λmB h'=> ∃S,mB= [some (.lst p),some (.int (k:G8)),some (.int way),some (.int o),some (.int m),some (.lst R),some (.int (i:G8)),some (.lst S),c,d]/\S≠p/\S≠R/\h S=none/\h' S=some []/\h' p=some [.int l4,.int fl]/\h' R=some (rows.map zw)/\But p h h') (λC hC=> ?_) (λmB h' hV=> ?_)
 ·simp only [Zi,Qn,wX,M7,N7,N8];exact⟨by decide,λS eS=>hC _ _ ⟨S,rfl,ji kD eS,ji kE eS,vo bD eS (ji kD eS),ja,jb kD eS,jb kE eS,bD.new eS⟩⟩
 obtain⟨S,e,nS,nSR,fS,kS,kD,kE,bD⟩:=hV;subst e;refine jh (λmB h'=> ∃c d l5 row,mB= [some (.lst p),some (.int (k:G8)),some (.int way),some (.int o),some (.int m),some (.lst R),some (.int (i:G8)),some (.lst S),c,d]/\0<=l5/\h' p=some [.int l5,.int fl]/\h' R=some (rows.map zw)/\h' S=some (row.map D.int)/\But p h h'/\zA k row) (λC hC=> ?_) (λmB h' hV=> ?_)
 rotate_left
 ·obtain⟨c,d,l5,row,e,l50,kD,kE,kF,bD,g⟩:=hV;subst e;simp only [VN,Mq,Zh,T4,R6,T6,dCB,jI,wX,Ye,Nxt,YK,M3,D.lst.injEq];refine⟨_,kF,_,kE,?_,_,Sub.refl _,by omega,_,_,_,_,l5,rows++ [row],rfl,l50,jd (C6 nR) kD,?_,bD.putNew fR,by simp [g1],?_⟩
  ·rw [G3];exact E8 (show rows.length<=1000 by omega) (by decide)
  ·rw [ja,R9];rfl
  ·intro r hr;rcases R8.mp hr with z|z
   ·exact g2 r z
   ·rw [P2.mp z];exact g
 refine yt k (λj mB h'=> ∃c d l5 row,mB= [some (.lst p),some (.int (k:G8)),some (.int way),some (.int o),some (.int m),some (.lst R),some (.int (i:G8)),some (.lst S),c,d]/\0<=l5/\h' p=some [.int l5,.int fl]/\h' R=some (rows.map zw)/\h' S=some (row.map D.int)/\But p h h'/\row.length=j/\ ∀x∈row,0<=x/\x<=1000000) (by omega) (λR' r=>⟨_,rfl,r⟩)
  ⟨_,_,l4,[],rfl,l40,kD,kE,kS,bD,rfl,λr hr=>nomatch hr⟩ (λmB h' ⟨c,d,l5,row,e,l50,kD,kE,kF,bD,g1,g2⟩=>hC _ _ ⟨c,d,l5,row,e,l50,kD,kE,kF,bD,g1,g2⟩) ?_
 rintro j mB h' hj ⟨c,d,l5,row,e,l50,kD,kE,kF,bD,g1',g2'⟩;subst e;show ym _ _ _ [some (.lst p),some (.int (k:G8)),some (.int way),some (.int o),some (.int m),some (.lst R),some (.int (i:G8)),some (.lst S),some (.int (j:G8)),d] h';refine jh (λmB h'=> ∃ (g:B4) (l6:G8),mB= [some (.lst p),some (.int (k:G8)),some (.int way),some (.int o),some (.int m),some (.lst R),some (.int (i:G8)),some (.lst S),some (.int (j:G8)),some (.bl g)]/\0<=l6/\h' p=some [.int l6,.int fl]/\h' R=some (rows.map zw)/\h' S=some (row.map D.int)/\But p h h') (λC hC=> ?_) (λmB h' hV=> ?_)
 ·simp only [Zi,dOp,dCB,jI,Zh,R6,T6,T4,wX,dC,eqD,N7,N8,M3];exact⟨p,l5,fl,o,rfl,kD,l50,o1,by omega,λr l6 r0 r1 l60=>hC _ _ ⟨_,l6,rfl,l60,ja,jd nR kE,jd nS kF,bD.put⟩⟩
 obtain⟨g,l6,e,l60,kD,kE,kF,bD⟩:=hV;subst e;refine jh (λmB h'=> ∃ (g:B4) (l6:G8),mB= [some (.lst p),some (.int (k:G8)),some (.int way),some (.int o),some (.int m),some (.lst R),some (.int (i:G8)),some (.lst S),some (.int (j:G8)),some (.bl g)]/\0<=l6/\h' p=some [.int l6,.int fl]/\h' R=some (rows.map zw)/\h' S=some (row.map D.int)/\But p h h') (λC hC=> ?_) (λmB h' hV=> ?_)
 ·simp only [Vl,zY,dOp,Zh,T4,R6,T6,dC,Xg,D.bl.injEq,Zi,DN,Rr,Mo,eqD,N7,N8,Ws,dCB,jI,wX,eqE,M3,vk];refine Xe (λ_=> ?_) (λ_=>hC _ _ ⟨g,l6,rfl,l60,kD,kE,kF,bD⟩);refine⟨by omega,?_⟩;refine Xe (λ_=>hC _ _ ⟨_,l6,rfl,l60,kD,kE,kF,bD⟩) (λ_=> ?_);refine Xe (λ_=> ?_) (λ_=>hC _ _ ⟨_,l6,rfl,l60,kD,kE,kF,bD⟩);exact⟨p,l6,fl,2,rfl,kD,l60,by decide,by decide,λr l7 r0 r1 l70=>hC _ _ ⟨_,l7,rfl,l70,ja,jd nR kE,jd nS kF,bD.put⟩⟩
 obtain⟨g,l6,e,l60,kD,kE,kF,bD⟩:=hV;subst e;refine jh (λmB h'=> ∃ (g:B4) (l6:G8),mB= [some (.lst p),some (.int (k:G8)),some (.int way),some (.int o),some (.int m),some (.lst R),some (.int (i:G8)),some (.lst S),some (.int (j:G8)),some (.bl g)]/\0<=l6/\h' p=some [.int l6,.int fl]/\h' R=some (rows.map zw)/\h' S=some (row.map D.int)/\But p h h') (λC hC=> ?_) (λmB h' hV=> ?_)
 ·simp only [Vl,zY,dOp,Zh,T4,R6,T6,dC,eqD,D.bl.injEq,Zi,DN,Ws,Ni,Mo,N7,N8,Rr,eqE,M3,vk];refine Xe (λ_=> ?_) (λ_=>hC _ _ ⟨g,l6,rfl,l60,kD,kE,kF,bD⟩);cases g
  ·exact hC _ _ ⟨_,l6,rfl,l60,kD,kE,kF,bD⟩
  ·refine⟨by decide,?_⟩;refine Xe (λ_=>hC _ _ ⟨_,l6,rfl,l60,kD,kE,kF,bD⟩) (λ_=>hC _ _ ⟨_,l6,rfl,l60,kD,kE,kF,bD⟩)
 obtain⟨g,l6,e,l60,kD,kE,kF,bD⟩:=hV;subst e;refine jh (λmB h'=> ∃ (g:B4) (l6:G8),mB= [some (.lst p),some (.int (k:G8)),some (.int way),some (.int o),some (.int m),some (.lst R),some (.int (i:G8)),some (.lst S),some (.int (j:G8)),some (.bl g)]/\0<=l6/\h' p=some [.int l6,.int fl]/\h' R=some (rows.map zw)/\h' S=some (row.map D.int)/\But p h h') (λC hC=> ?_) (λmB h' hV=> ?_)
 ·simp only [Vl,zY,dOp,Zh,T4,R6,T6,dC,eqD,D.bl.injEq,Zi,Ws,Xg,N7,N8,M3,vk];refine Xe (λ_=> ?_) (λ_=>hC _ _ ⟨g,l6,rfl,l60,kD,kE,kF,bD⟩);cases g
  ·exact hC _ _ ⟨_,l6,rfl,l60,kD,kE,kF,bD⟩
  ·exact hC _ _ ⟨_,l6,rfl,l60,kD,kE,kF,bD⟩
 obtain⟨g,l6,e,l60,kD,kE,kF,bD⟩:=hV;subst e;simp only [VN,Mq,Zh,T4,R6,T6,dOp,dCB,jI,wX,Mp,dC,Rr,Mr,Mn,Nxt,YK,M3,D.lst.injEq];refine⟨p,l6,fl,m,rfl,kD,l60,m1,by omega,λr l7 r0 r1 l70=> ?_⟩;have gi: ∀x:G8,(0<=x/\x<=1)->CMul x (1+r)/\0<=x*(1+r)/\x*(1+r)<=1000000:=λx hx=>by
  have:x=0\/x=1:=by omega
  rcases this with e|e<;>subst e
  ·exact⟨.inl ⟨by decide,by decide⟩,by omega,by omega⟩
  ·exact⟨.inl ⟨by decide,by decide⟩,by omega,by omega⟩
 have gg:=gi (if g=true then 1 else 0) (by cases g<;>decide);refine⟨gg.1,_,jd nS kF,?_,_,Sub.refl _,by omega,_,_,l7,row++ [(if g=true then 1 else 0)*(1+r)],rfl,l70,jd (C6 nS) ja,jd (C6 nSR) (jd nR kE),?_,(bD.put).putNew fS,by simp [g1'],?_⟩
 ·rw [G3];exact E8 (show row.length<=1000 by omega) (by decide)
 ·rw [ja,R9];rfl
 ·intro x hx;rcases R8.mp hx with z|z
  ·exact g2' x z
  ·rw [P2.mp z];exact gg.2
def yg:RDn:=λds h Q=> ∃p l fl,∃k:P0,ds= [.lst p,.int (k:G8)]/\h p=some [.int l,.int fl]/\0<=l/\k<=6/\ ∀o l',Ordr k o->0<=l'->Q (za o) (zi h p [.int l',.int fl])
theorem JX (Z:Zs mg)(F:Fun K "_law_order" "_law_order" wf f fd)(jj:jr P w K mg base n "_law_draw" ["_law_pen_here","_law_many_here"] jZ):FnOk P w K mg base CX0 (n+1) f fd ["_law_pen_here","_law_many_here"] (LSp K yg):=by
 refine F.okM zO (λhr=>(js3 (jse 2 zO (vG zZ)) (YM M4 rfl (jrg Z (jv 1)) (jgn 3 zO) (jQ (Jx (Cb (jv 2) (jk jj hr (j2 (jv 0) (jop zo (jv 3) jt))) (jv 3))))) (wy (jD cq_tuple rfl Z.tuple (by decide +kernel) (j1 (jv 2)))))) ?_;rintro ds h Q ⟨p,l,fl,k,rfl,hp,h0,hk,q⟩;refine⟨rfl,?_⟩;refine jh (λmB h'=> ∃R,mB= [some (.lst p),some (.int (k:G8)),some (.lst R),none]/\R≠p/\h R=none/\h' R=some []/\h' p=some [.int l,.int fl]/\But p h h') (λC hC=> ?_) ?_
 ·exact⟨sz0,λR eR=>hC _ _ ⟨R,rfl,ji hp eR,eR,ja,jb hp eR,(But.refl p h).new eR⟩⟩
 rintro mB h1 ⟨R,rfl,nR,fR,kR,kp,bt⟩;refine jh (λmB h'=> ∃a l2 o,mB= [some (.lst p),some (.int (k:G8)),some (.lst R),a]/\0<=l2/\Ordr k o/\h' R=some (o.map λ(i:P0)=>D.int (i:G8))/\h' p=some [.int l2,.int fl]/\But p h h') (λC hC=> ?_) ?_
 ·refine yt k (λi mB h'=> ∃a l2 o,mB= [some (.lst p),some (.int (k:G8)),some (.lst R),a]/\0<=l2/\Ordr i o/\h' R=some (o.map λ(i:P0)=>D.int (i:G8))/\h' p=some [.int l2,.int fl]/\But p h h') (by omega) (λR' r=>⟨_,rfl,r⟩) ⟨none,l,[],rfl,h0,List.Perm.nil,kR,kp,bt⟩ (λmB h' z=>hC _ _ z) ?_;rintro i _ h2 hi ⟨a,l2,o,rfl,l20,ho,kR2,kp2,bt2⟩;refine⟨_,rfl,R,rfl,_,rfl,_,rfl,p,l2,fl,(i:G8)+1,rfl,kp2,l20,by omega,by omega,λr l3 r0 r1 l30=> ?_⟩;have lo:o.length=i:=ho.ord.len;refine⟨_,rfl,r.toNat,_,by rw [Int.toNat_of_nonneg r0],by omega,jd nR kR2,?_,_,Sub.refl _,by omega,_,l3,o.take r.toNat++i::o.drop r.toNat,rfl,l30,ho.insert r.toNat,?_,jd (C6 nR) ja,(bt2.put).putNew fR⟩
  ·rw [G3];exact E8 (show o.length<=1000 by omega) (by decide)
  ·rw [ja,R9,R0,g8,g9]
 rintro _ h3 ⟨a,l2,o,rfl,l20,ho,kR3,kp3,bt3⟩;exact⟨_,rfl,_,kR3,_,bt3.sub kp3,q o l2 ho l20⟩
def yh:RDn:=λds h Q=> ∃T U,∃n e f:P0,ds= [jp T,jp U]/\Sq n e T/\Sq n f U/\e+f<=1000000/\n<=6/\Q (jp (Xh n T U)) h
theorem JY (Z:Zs mg)(F:Fun K "_law_times" "_law_times" wg f fd):FnOk P w K mg base CX0 (n+1) f fd ["_law_one","_law_other"] (LSp K yh):=by
 refine F.okM jJ (λhr=>(js4 (jse 2 jJ (YW Z (jv 0))) (jse 3 jJ (vG zZ)) (YM M4 rfl (jR (jv 0)) (jgn 4 jJ) (jQ (Jx (Mt (jv 3) (jD jK rfl Z.tuple (by decide +kernel) (j1 (jl0 5 jJ (jrg Z (jv 2)) (λ_ _ _ _=>(zv (Uh rfl) rfl Z.sum (by decide +kernel) (j1 (jl0 6 jJ (jrg Z (jv 2)) (λ_ _ _ _=>(jop Uo (ji1 (jv 4) (jv 6)) (ji1 (ji1 (jv 1) (jv 6)) (jv 5))))))))))))))) (wy (jD cq_tuple rfl Z.tuple (by decide +kernel) (j1 (jv 3)))))) ?_;rintro ds h Q ⟨T,U,k,b,f,rfl,hT,hU,hb,h6,q⟩;refine⟨rfl,?_⟩;refine jh (λmB h'=>mB= [some (jp T),some (jp U),some (.int (k:G8)),none,none,none,none]/\h=h') (λC hC=>⟨_,rfl,hC _ _ ⟨by rw [G3,hT.len];rfl,rfl⟩⟩) ?_;rintro _ _ ⟨rfl,rfl⟩;refine jh (λmB h'=> ∃R,mB= [some (jp T),some (jp U),some (.int (k:G8)),some (.lst R),none,none,none]/\h R=none/\h' R=some []/\Sub h h') (λC hC=> ?_) ?_
 ·exact⟨sz0,λR eR=>hC _ _ ⟨R,rfl,eR,ja,Sub.newAt (Sub.refl h) eR⟩⟩
 rintro _ h1 ⟨R,rfl,fR,kR,sb⟩;refine jh (λmB h'=> ∃a b c,mB= [some (jp T),some (jp U),some (.int (k:G8)),some (.lst R),a,b,c]/\h' R=some ((Xh k T U).map zw)/\Sub h h') (λC hC=> ?_) ?_
 ·refine wt (j:=λ_=>some (T.map zw)) (T.map zw) (λi mB h'=> ∃a b c,mB= [some (jp T),some (jp U),some (.int (k:G8)),some (.lst R),a,b,c]/\h' R=some ((T.take i).map λr=>D.tup ((D3 k).map λj=> .int (yS k λm=>r.getD m 0*ent U m j)))/\Sub h h') (λR' r=>⟨_,rfl,r⟩) (λ_ _ _ _=>rfl) ⟨_,_,_,rfl,kR,sb⟩ ?_ ?_
  ·rintro mB h' ⟨a,b,c,e,kR2,sb2⟩;refine hC _ _ ⟨a,b,c,e,?_,sb2⟩;rw [G3,L3,Ym hT] at kR2;exact kR2
  rintro i d _ h2 hd ⟨a,b',c,rfl,kR2,sb2⟩;rw [P7] at hd;cases hx:T[i]? with
  |none=>rw [hx] at hd;cases hd
  |some r=>
   rw [hx] at hd;cases hd;have hr:=S0 hx;have hil:i<T.length:=(D1.mp hx).1;refine⟨_,rfl,R,rfl,?_⟩;refine Xi (D3 k) (λj=> .int (j:G8)) (λj=> .int (yS k λm=>r.getD m 0*ent U m j)) (by rw [S5];omega) rfl (λR rr=>⟨_,rfl,(k:G8),rfl,by omega,by omega,rr⟩) (λj hj Q'' q''=> ?_) ?_
   ·refine Bl (D3 k) (λm=> .int (m:G8)) (λm=>r.getD m 0*ent U m j) (by rw [S5];omega) rfl (λR rr=>⟨_,rfl,(k:G8),rfl,by omega,by omega,rr⟩) (λm hm Q3 q3=> ?_) q'';have hm':=S8.mp hm;have hj':=S8.mp hj;refine⟨_,rfl,_,rfl,_,vv (hT.row r hr) hm',_,rfl,_,rfl,_,Up hU hm',_,rfl,_,vv (hU.row _ (Sq.getRow hU hm')) hj',?_,q3⟩;refine Yl (e:=b) (f:=f) ?_ (hU.ent_nn hm' hj') (by omega);have hm2:m<r.length:=by rw [hT.row r hr];exact hm'
    have e1:r.getD m 0=r[m]:=by rw [D6,G4 hm2];rfl
    rw [e1];exact⟨hT.nn r hr _ (S9 hm2),hT.bit r hr _ (S9 hm2)⟩
   ·refine⟨_,kR2,?_,_,Sub.refl _,by rw [G3];omega,_,_,_,rfl,?_,?_⟩
    ·rw [G3,B0];exact E8 (show min i T.length<=1000 by rw [hT.len];omega) (by decide)
    ·rw [ja,N4,hx,R9];rfl
    ·exact(sb2).over fR
 rintro _ h3 ⟨a,b,c,rfl,kR3,sb3⟩;exact⟨_,rfl,_,kR3,_,sb3,q⟩
def zE:RDn:=λds h Q=> ∃T,∃n e:P0,ds= [jp T]/\Sq n e T/\n<=6/\Q (jp (ZC n T)) h
theorem vM (Z:Zs mg)(F:Fun K "_law_marked" "_law_marked" zP f fd):FnOk P w K mg base CX0 (n+1) f fd ["_law_table_here"] (LSp K zE):=by
 refine F.okM zC (λhr=>(jQ (wy (jD jK rfl Z.tuple (by decide +kernel) (j1 (jl0 1 zC (jR (jv 0)) (λ_ _ _ _=>(jD jK rfl Z.tuple (by decide +kernel) (j1 (jl0 2 zC (jR (jv 1)) (λ_ _ _ _=>(jD Yg rfl Z.int (by decide +kernel) (j1 (jc1 GM (jv 2) jt)))))))))))))) ?_;rintro ds h Q ⟨T,k,b,rfl,hT,h6,q⟩;refine⟨rfl,?_⟩;refine Xi T zw (λr=> .tup (r.map λx=> .int (if x≠0 then 1 else 0))) (by rw [hT.len];omega) rfl (λR r=>⟨_,rfl,r⟩) (λr hr Q' q'=> ?_) ⟨h,Sub.refl h,?_⟩
 ·refine Xi r D.int (λx=> .int (if x≠0 then 1 else 0)) (by rw [hT.row r hr];omega) rfl (λR r=>⟨_,rfl,r⟩) (λx hx Q'' q''=>⟨_,rfl,?_⟩) q';show Q'' (.int (if decide (x>0)=true then 1 else 0)) h;have e:(if decide (x>0)=true then (1:G8) else 0)=if x≠0 then 1 else 0:=by
   have:=hT.nn r hr x hx
   by_cases z:x=0
   ·subst z;rfl
   ·rw [R3 z,R3 (N3 (by omega))]
  rw [e];exact q''
 ·rw [Uq,<-Ur hT];exact q
def wD:RDn:=λds h Q=> ∃T,∃n e:P0,ds= [jp T]/\Sq n e T/\1<=n/\n<=6/\Q (.bl (zc T)) h
theorem vN (Z:Zs mg)(F:Fun K "_law_filled" "_law_filled" zQ f fd):FnOk P w K mg base CX0 (n+1) f fd ["_law_table_here"] (LSp K wD):=by
 refine F.okM wA (λhr=>(jQ (wy (jc1 GM (zv (Uu rfl) rfl Z.min (by decide +kernel) (j1 (jl0 1 wA (jR (jv 0)) (λ_ _ _ _=>(zv (Uu rfl) rfl Z.min (by decide +kernel) (j1 (jv 1))))))) jt)))) ?_;rintro ds h Q ⟨T,k,b,rfl,hT,h1,h6,q⟩;refine⟨rfl,?_⟩;have ne: ∀r∈T,r≠ []:=λr hr z=>by have:=hT.row r hr;rw [z] at this;simp at this;omega
 refine Ce T zw yK (by rw [hT.len];omega) rfl (λR r=>⟨_,rfl,r⟩) (λr hr Q' q'=>⟨_,rfl,Pg (ne r hr) λm m1 m2=>by rw [Uy m1 m2];exact q'⟩) ?_ (λm m1 m2=>⟨h,Sub.refl h,?_⟩)
 ·intro z;have:=hT.len;rw [z] at this;simp at this;omega
 ·show Q (.bl (decide (m>0))) h;rw [Jz hT ne m1 m2];exact q
theorem yi (Z:Zs mg)(F:Fun K "_law_good_table" "_law_good_table" jV f fd)(Wb:jr P w K mg base n "_law_order" ["_law_pen_here","_law_many_here"] yg)(jj:jr P w K mg base n "_law_draw" ["_law_pen_here","_law_many_here"] jZ):FnOk P w K mg base CX0 (n+1) f fd ["_law_pen_here","_law_size"] (LSp K zk):=by
 refine F.okM jn (λhr=>(js6 (jse 2 jn (jk Wb hr (j2 (jv 0) (jv 1)))) (jse 3 jn (ji1 (vG (j3 jt jt jt)) (jk jj hr (j2 (jv 0) jt)))) (Qr (i:=8) (k:=4) (js:= [8]) rfl jn.nd rfl (C9 rfl) (jU (by rfl)) (jrg Z (jv 1)) (by decide) rfl (by first|exact C9 rfl|exact E5 rfl) (λX' hX=>wK) (λX' hX=>by obtain⟨C,s₀,H₀,ex,rfl⟩:=hX;exact(jl0 9 jn (jrg Z (jv 1)) (λ_ _ _ _=>(jD Yg rfl Z.int (by decide +kernel) (j1 (jc1 oq_eq (jk jj hr (j2 (jv 0) (jv 3))) jt))))))) (YM M4 rfl (jrg Z (jv 1)) (jgn 5 jn) (js2 (Nv (i:=6) (j:=7) rfl jn.nd rfl rfl (by decide) rfl rfl (j2 (ji1 (jv 2) (jv 5)) (ji1 (jv 2) (jop ya (jop zo (jv 5) jt) (jv 1)))) rfl) (PJ (jop zo jt (jk jj hr (j2 (jv 0) jt))) (Yk (ji1 (jv 4) (jv 6)) (jv 7))))) (PJ jt (Yk (ji1 (jv 4) (ji1 (jv 2) (Ca jt))) (ji1 (jv 2) (ji1 (vG (j2 (jop ya jt (jv 1)) (jop VR (jv 1) jt))) (jk jj hr (j2 (jv 0) jt)))))) (wy (jD jK rfl Z.tuple (by decide +kernel) (j1 (jl0 10 jn (jR (jv 4)) (λ_ _ _ _=>(jD cq_tuple rfl Z.tuple (by decide +kernel) (j1 (jv 10)))))))))) ?_;rintro ds h Q ⟨p,l,fl,k,rfl,hp,h0,hk1,hk6,q⟩;refine⟨rfl,?_⟩;refine jh (λmB h'=> ∃o l2,mB= [some (.lst p),some (.int (k:G8)),some (za o),none,none,none,none,none,none,none,none]/\Ordr k o/\0<=l2/\h' p=some [.int l2,.int fl]/\But p h h') (λC hC=>⟨_,rfl,_,rfl,p,l,fl,k,rfl,hp,h0,hk6,λo l2 ho l20=>hC _ _ ⟨o,l2,rfl,ho,l20,ja,But.upd⟩⟩) ?_;rintro _ h1 ⟨o,l2,rfl,ho,l20,kp,bt⟩;refine jh (λmB h'=> ∃oft l3,mB= [some (.lst p),some (.int (k:G8)),some (za o),some (.int oft),none,none,none,none,none,none,none]/\0<oft/\oft<1000/\0<=l3/\h' p=some [.int l3,.int fl]/\But p h h') (λC hC=> ?_) ?_
 ·refine⟨sz3,λp1 e1=>⟨_,rfl,p,l2,fl,3,rfl,jb kp e1,l20,by decide,by decide,λr l3 r0 r1 l30=> ?_⟩⟩;obtain⟨oft,ho',eo⟩:=vn (xs:= [D.int 2,D.int 4,D.int 9]) r0 r1;refine⟨_,oft,jd (ji kp e1) ja,eo,?_⟩;obtain⟨x,rfl,x1,x2⟩: ∃x:G8,oft= .int x/\0<x/\x<1000:=by
   simp only [R5,B2,or_false] at ho';rcases ho' with e|e|e<;>exact⟨_,e,by decide,by decide⟩
  exact hC _ _ ⟨x,l3,rfl,x1,x2,l30,ja,(bt.new e1).put⟩
 rintro _ h2 ⟨oft,l3,rfl,of1,of2,l30,kp,bt⟩;refine jh (λmB h'=> ∃R rs l4,mB= [some (.lst p),some (.int (k:G8)),some (za o),some (.int oft),some (.lst R),none,none,none,none,none,none]/\0<=l4/\h' p=some [.int l4,.int fl]/\But p h h'/\Grid k h h' p R rs) (λC hC=> ?_) ?_
 ·refine Yi (h1:=h2) k (λi ys h'=> ∃rs l4,ys=rs.map D.lst/\rs.length=i/\0<=l4/\h' p=some [.int l4,.int fl]/\But p h h'/\p ∉ rs/\ ∀a∈rs,h a=none/\ ∃r,h' a=some (r.map D.int)/\zA k r) (by omega) (λR r=>⟨_,rfl,r⟩) ⟨[],l3,rfl,rfl,l30,kp,bt,by simp,by simp⟩ (λi ys h' ⟨rs,l4,e,el,_⟩=>by rw [e,G3];exact el) ?_ ?_
  ·rintro i ys h3 hi ⟨rs,l4,rfl,lrs,l40,kp3,bt3,nprs,rows3⟩;refine Yi (h1:=h3) k (λj zs h'=> ∃r l5,zs=r.map D.int/\r.length=j/\(∀x∈r,0<=x/\x<=1000000)/\0<=l5/\h' p=some [.int l5,.int fl]/\But p h h'/\(∀a∈rs,∃r,h' a=some (r.map D.int)/\zA k r)) (by omega) (λR r=>⟨_,rfl,r⟩) ⟨[],l4,rfl,rfl,by simp,l40,kp3,bt3,λa ha=>(rows3 a ha).2⟩ (λj zs h' ⟨r,l5,e,el,_⟩=>by rw [e,G3];exact el) ?_ ?_
   ·rintro j zs h4 hj ⟨r,l5,rfl,lr,gr,l50,kp4,bt4,rows4⟩;refine⟨_,rfl,_,rfl,p,l5,fl,oft,rfl,kp4,l50,of1,by omega,λx l6 x0 x1' l60=> ?_⟩;refine⟨_,Sub.refl _,by omega,r++ [if decide (x=1)=true then 1 else 0],l6,by rw [R9];rfl,by rw [S1,lr];rfl,?_,l60,ja,bt4.put,λa ha=> ?_⟩
    ·intro y hy;rcases R8.mp hy with z|z
     ·exact gr y z
     ·rw [P2.mp z];split<;>omega
    ·obtain⟨r',e',g'⟩:=rows4 a ha;exact⟨r',jd (λz=>nprs (z ▸ ha)) e',g'⟩
   ·rintro zs h4 ⟨r,l5,rfl,lr,gr,l50,kp4,bt4,rows4⟩ q4 e4;refine⟨_,Sub.refl _,by omega,rs++ [q4],l5,by rw [R9];rfl,by simp [lrs],l50,jb kp4 e4,bt4.new e4,?_,λa ha=> ?_⟩
    ·intro z;rcases R8.mp z with y|y
     ·exact nprs y
     ·exact ji kp4 e4 (P2.mp y).symm
    ·rcases R8.mp ha with z|z
     ·obtain⟨r',e',g'⟩:=rows4 a z;exact⟨(rows3 a z).1,r',jb e' e4,g'⟩
     ·have:=P2.mp z;subst this;exact⟨vo bt4 e4 (ji kp4 e4),r,ja,lr,gr⟩
  ·rintro ys h3 ⟨rs,l4,rfl,lrs,l40,kp3,bt3,nprs,rows3⟩ R eR;refine hC _ _ ⟨R,rs,l4,rfl,l40,jb kp3 eR,bt3.new eR,⟨ja,lrs,?_,vo bt3 eR (ji kp3 eR),nprs,ji kp3 eR,λa ha=>⟨(rows3 a ha).1,?_⟩⟩⟩
   ·intro hR;obtain⟨_,r,e',_⟩:=rows3 R hR;rw [e'] at eR;cases eR
   ·obtain⟨r,e',g'⟩:=(rows3 a ha).2;exact⟨r,jb e' eR,g'⟩
 rintro _ h3 ⟨R,rs,l4,rfl,l40,kp,bt,g⟩;refine jh (λmB h'=> ∃a b c l5,mB= [some (.lst p),some (.int (k:G8)),some (za o),some (.int oft),some (.lst R),a,b,c,none,none,none]/\0<=l5/\h' p=some [.int l5,.int fl]/\But p h h'/\Grid k h h' p R rs) (λC hC=> ?_) ?_
 ·refine yt k (λi mB h'=> ∃a b c l5,mB= [some (.lst p),some (.int (k:G8)),some (za o),some (.int oft),some (.lst R),a,b,c,none,none,none]/\0<=l5/\h' p=some [.int l5,.int fl]/\But p h h'/\Grid k h h' p R rs) (by omega) (λR r=>⟨_,rfl,r⟩) ⟨none,none,none,l4,rfl,l40,kp,bt,g⟩ (λmB h' z=>hC _ _ z) ?_;rintro i _ h4 hi ⟨a,b,c,l5,rfl,l50,kp,bt,g⟩;obtain⟨y1,hy1,ey1⟩:=Wz ho hi;obtain⟨y2,hy2,ey2⟩:=Wz ho (k9 (i+1) (by omega:0<k));have em:((i:G8)+1)%(k:G8)=(((i+1)%k:P0):G8):=by rw [fC,fV];rfl
  rw [<-em] at ey2;refine ZN [some (.lst p),some (.int (k:G8)),some (za o),some (.int oft),some (.lst R),some (.int (i:G8)),some (.int (y1:G8)),some (.int (y2:G8)),none,none,none] (λC2 hC2=> ?_) ?_
  ·exact⟨_,rfl,_,rfl,_,ey1,_,rfl,_,rfl,_,rfl,(by omega:(0:G8)<(k:G8)),_,ey2,_,_,rfl,hC2⟩
  refine⟨_,rfl,p,l5,fl,3,rfl,kp,l50,by decide,by decide,λr l6 r0 r1 l60=> ?_⟩;have g2:=g.pen [.int l6,.int fl];obtain⟨a',r',at',ha',er',gr',fa',na'⟩:=g2.pick hy1;exact⟨_,rfl,_,rfl,_,_,g2.at_,at',_,rfl,a',(y2:G8),_,y2,rfl,rfl,er',UB (by rw [G3,gr'.1];exact hy2),_,Sub.refl _,by omega,_,_,_,l6,rfl,l60,jd (C6 na') ja,(bt.put).putNew fa',g2.set ha' er' gr' (by omega) (by omega)⟩
 rintro _ h5 ⟨a,b,c,l5,rfl,l50,kp,bt,g⟩;obtain⟨z1,hz1,ez1⟩:=XM ho hk1;obtain⟨a1,r1,at1,ha1,er1,gr1,fa1,na1⟩:=g.pick hz1;refine jh (λmB h'=> ∃l6,mB= [some (.lst p),some (.int (k:G8)),some (za o),some (.int oft),some (.lst R),a,b,c,none,none,none]/\0<=l6/\h' p=some [.int l6,.int fl]/\But p h h'/\Grid k h h' p R rs) (λC hC=> ?_) ?_
 ·refine⟨_,rfl,_,rfl,_,ez1,_,_,g.at_,at1,_,rfl,_,rfl,(by omega:(0:G8)<(k:G8)),_,rfl,sz2,λq1 e1=>⟨_,rfl,p,l5,fl,2,rfl,jb kp e1,l50,by decide,by decide,λr l6 r0 r1' l60=> ?_⟩⟩;obtain⟨d,hd,ed⟩:=vn (xs:= [D.int ((1:G8)%(k:G8)),D.int ((k:G8)-1)]) r0 r1';obtain⟨w,rfl,hw⟩: ∃w:P0,d= .int (w:G8)/\w<k:=by
   simp only [R5,B2,or_false] at hd;rcases hd with e|e
   ·exact⟨1%k,by rw [e,fC];rfl,k9 _ (by omega)⟩
   ·exact⟨k-1,by rw [e];congr 1;omega,by omega⟩
  obtain⟨w2,hw2,ew2⟩:=Wz ho hw;have g':=(g.new e1 [D.int ((1:G8)%(k:G8)),D.int ((k:G8)-1)]).pen [.int l6,.int fl];have her:zi (zi h5 q1 [D.int ((1:G8)%(k:G8)),D.int ((k:G8)-1)]) p [.int l6,.int fl] a1=some (r1.map D.int):=jd na1 (jb er1 e1);exact⟨_,_,jd (ji kp e1) ja,ed,_,ew2,a1,(w2:G8),_,w2,rfl,rfl,her,UB (by rw [G3,gr1.1];exact hw2),hC _ _ ⟨l6,rfl,l60,jd (C6 na1) ja,((bt.new e1).put).putNew fa1,g'.set ha1 her gr1 (by decide) (by decide)⟩⟩
 rintro _ h6 ⟨l6,rfl,l60,kp,bt,g⟩;obtain⟨T,gT,eT⟩:=g.tab;refine Xi (j:=λh=>h R) rs D.lst (λa=> .tup ((h6 a).getD [])) (by rw [g.len];omega) g.at_ (λR r=>⟨_,rfl,r⟩) (λa ha Q' q'=> ?_) ⟨_,bt.sub kp,?_⟩
 ·obtain⟨_,r,er,_⟩:=g.row a ha;rw [er] at q';exact⟨_,rfl,_,er,q'⟩
 ·rw [eT];exact q T l6 gT l60
def yP:RDn:=λds h Q=> ∃p l fl,ds= [.lst p]/\h p=some [.int l,.int fl]/\0<=l/\ ∀F n Ts l' h',h F=none->h' F=some (Ts.map jp)->TabsOk n Ts->But p h h'->h' p=some [.int l',.int fl]->0<=l'->Q (.lst F) h'
theorem Wa (Z:Zs mg)(F:Fun K "_law_many" "_law_many" wS f fd)(jj:jr P w K mg base n "_law_draw" ["_law_pen_here","_law_many_here"] jZ)(Wd:jr P w K mg base n "_law_table" ["_law_pen_here","_law_size"] zk)(yG:jr P w K mg base n "_law_good_table" ["_law_pen_here","_law_size"] zk):FnOk P w K mg base CX0 (n+1) f fd ["_law_pen_here"] (LSp K yP):=by
 refine F.okM jw (λhr=>(js4 (Nv (i:=1) (j:=2) rfl jw.nd rfl rfl (by decide) rfl rfl (j2 (jop zo jt (ji1 (vG (jac jt (by exact(j4 jt jt jt jt)))) (jk jj hr (j2 (jv 0) jt)))) (jop zo jt (jk jj hr (j2 (jv 0) jt)))) rfl) (jse 3 jw (vG zZ)) (YM M4 rfl (jrg Z (jv 2)) (jgn 4 jw) (js5 (jse 5 jw (jk Wd hr (j2 (jv 0) (jv 1)))) (jse 6 jw (jk jj hr (j2 (jv 0) jt))) (WD (jt1 oq_eq (jv 6) jt) (jse 5 jw (jk yG hr (j2 (jv 0) (jv 1))))) (WD (jpt (Nu (jt1 oq_eq (jv 6) jt) (Nt (jt1 (Uf hr.units) (jv 3) (vG zZ))))) (jse 5 jw (jD jK rfl Z.tuple (by decide +kernel) (j1 (jl0 7 jw (jrg Z (jv 1)) (λ_ _ _ _=>(jD jK rfl Z.tuple (by decide +kernel) (j1 (jl0 8 jw (jR (ji1 (jv 3) jt)) (λ_ _ _ _=>(ji1 (jv 8) (jv 7)))))))))))) (Jx (Mt (jv 3) (jv 5))))) (wy (jv 3)))) ?_;rintro ds h Q ⟨p,l,fl,rfl,hp,h0,q⟩;refine⟨rfl,?_⟩;refine jh (λmB h'=> ∃ (k m:P0) (l1:G8),mB= [some (.lst p),some (.int (k:G8)),some (.int (m:G8)),none,none,none,none,none,none]/\1<=k/\k<=3/\1<=m/\m<=3/\0<=l1/\h' p=some [.int l1,.int fl]/\But p h h') (λC hC=> ?_) ?_
 ·refine⟨sz5,λp1 e1=>⟨_,rfl,p,l,fl,5,rfl,jb hp e1,h0,by decide,by decide,λr l1 r0 r1 l10=> ?_⟩⟩;obtain⟨d,hd,ed⟩:=vn (xs:= [D.int 0,D.int 1,D.int 2,D.int 2,D.int 1]) r0 r1;obtain⟨x,rfl,x0,x2⟩: ∃x:G8,d= .int x/\0<=x/\x<=2:=by
   simp only [R5,B2,or_false] at hd;rcases hd with e|e|e|e|e<;>exact⟨_,e,by decide,by decide⟩
  refine⟨_,_,jd (ji hp e1) ja,ed,_,rfl,p,l1,fl,3,rfl,ja,l10,by decide,by decide,λy l2 y0 y1 l20=> ?_⟩;obtain⟨k,hk,k1,k3⟩: ∃k:P0,1+x=(k:G8)/\1<=k/\k<=3:=⟨(1+x).toNat,by omega,by omega,by omega⟩;obtain⟨m,hm,m1,m3⟩: ∃m:P0,1+y=(m:G8)/\1<=m/\m<=3:=⟨(1+y).toNat,by omega,by omega,by omega⟩;exact⟨_,_,rfl,hC _ _ ⟨k,m,l2,by rw [<-hk,<-hm];rfl,k1,k3,m1,m3,l20,ja,((But.refl p h).new e1).put.put⟩⟩
 rintro _ h1 ⟨k,m,l1,rfl,k1,k3,m1,m3,l10,kp,bt⟩;refine jh (λmB h'=> ∃F,mB= [some (.lst p),some (.int (k:G8)),some (.int (m:G8)),some (.lst F),none,none,none,none,none]/\h' F=some (([]:G0 (G0 (G0 G8))).map jp)/\h F=none/\F≠p/\h' p=some [.int l1,.int fl]/\But p h h') (λC hC=>⟨sz0,λF eF=>hC _ _ ⟨F,rfl,ja,vo bt eF (ji kp eF),ji kp eF,jb kp eF,bt.new eF⟩⟩) ?_;rintro _ h2 ⟨F,rfl,kF,fF,nF,kp,bt⟩;refine jh (λmB h'=> ∃ (Ts:G0 (G0 (G0 G8))) (a b c:P5 D) (l2:G8),mB= [some (.lst p),some (.int (k:G8)),some (.int (m:G8)),some (.lst F),a,b,c,none,none]/\h' F=some (Ts.map jp)/\Ts.length=m/\(∀T∈Ts,Sq k 20 T)/\0<=l2/\h' p=some [.int l2,.int fl]/\But p h h') (λC hC=> ?_) ?_
 ·refine yt m (λi mB h'=> ∃ (Ts:G0 (G0 (G0 G8))) (a b c:P5 D) (l2:G8),mB= [some (.lst p),some (.int (k:G8)),some (.int (m:G8)),some (.lst F),a,b,c,none,none]/\h' F=some (Ts.map jp)/\Ts.length=i/\(∀T∈Ts,Sq k 20 T)/\0<=l2/\h' p=some [.int l2,.int fl]/\But p h h') (by omega) (λR r=>⟨_,rfl,r⟩) ⟨[],none,none,none,l1,rfl,kF,rfl,by simp,l10,kp,bt⟩ (λmB h' z=>hC _ _ z) ?_;rintro i _ h3 hi ⟨Ts,a,b,c,l2,rfl,kF,lT,sT,l20,kp,bt⟩;refine jh (λmB h'=> ∃T l2,mB= [some (.lst p),some (.int (k:G8)),some (.int (m:G8)),some (.lst F),some (.int (i:G8)),some (jp T),c,none,none]/\Sq k 20 T/\h' F=some (Ts.map jp)/\Ts.length=i/\(∀T∈Ts,Sq k 20 T)/\0<=l2/\h' p=some [.int l2,.int fl]/\But p h h') (λC2 hC2=>⟨_,rfl,_,rfl,p,l2,fl,k,rfl,kp,l20,k1,by omega,λT l3 gT l30=>hC2 _ _ ⟨T,l3,rfl,gT.sq,jd nF kF,lT,sT,l30,ja,bt.put⟩⟩) ?_;rintro _ h4 ⟨T,l2,rfl,hT,kF,lT,sT,l20,kp,bt⟩;refine jh (λmB h'=> ∃w l2,mB= [some (.lst p),some (.int (k:G8)),some (.int (m:G8)),some (.lst F),some (.int (i:G8)),some (jp T),some (.int w),none,none]/\h' F=some (Ts.map jp)/\Ts.length=i/\(∀T∈Ts,Sq k 20 T)/\0<=l2/\h' p=some [.int l2,.int fl]/\But p h h') (λC2 hC2=>⟨_,rfl,p,l2,fl,4,rfl,kp,l20,by decide,by decide,λw l3 w0 w1 l30=>hC2 _ _ ⟨w,l3,rfl,jd nF kF,lT,sT,l30,ja,bt.put⟩⟩) ?_;rintro _ h5 ⟨w,l2,rfl,kF,lT,sT,l20,kp,bt⟩;refine jh (λmB h'=> ∃T l2,mB= [some (.lst p),some (.int (k:G8)),some (.int (m:G8)),some (.lst F),some (.int (i:G8)),some (jp T),some (.int w),none,none]/\Sq k 20 T/\h' F=some (Ts.map jp)/\Ts.length=i/\(∀T∈Ts,Sq k 20 T)/\0<=l2/\h' p=some [.int l2,.int fl]/\But p h h') (λC2 hC2=>⟨_,rfl,_,rfl,Xe (λ_=>⟨_,rfl,_,rfl,p,l2,fl,k,rfl,kp,l20,k1,by omega,λT2 l3 gT l30=>hC2 _ _ ⟨T2,l3,rfl,gT.sq,jd nF kF,lT,sT,l30,ja,bt.put⟩⟩) (λ_=>hC2 _ _ ⟨T,l2,rfl,hT,kF,lT,sT,l20,kp,bt⟩)⟩) ?_;rintro _ h6 ⟨T,l2,rfl,hT,kF,lT,sT,l20,kp,bt⟩;refine jh (λmB h'=> ∃T l2,mB= [some (.lst p),some (.int (k:G8)),some (.int (m:G8)),some (.lst F),some (.int (i:G8)),some (jp T),some (.int w),none,none]/\Sq k 20 T/\h' F=some (Ts.map jp)/\Ts.length=i/\(∀T∈Ts,Sq k 20 T)/\0<=l2/\h' p=some [.int l2,.int fl]/\But p h h') (λC2 hC2=> ?_) ?_
  ·refine⟨_,rfl,_,rfl,Xe (λ_=> ?_) (λ_=>vH (hC2 _ _ ⟨T,l2,rfl,hT,kF,lT,sT,l20,kp,bt⟩))⟩;refine⟨_,rfl,sz0,λp1 e1=> ?_⟩;refine⟨.list (Ts.map Xj),.list [],⟨_,_,rfl,jb kF e1,encT.tos _ Ts⟩,⟨_,_,rfl,ja,rfl⟩,WB Ts,rfl,_,rfl,?_⟩;cases Ts with
   |nil=>exact vH (hC2 _ _ ⟨T,l2,rfl,hT,jb kF e1,lT,sT,l20,jb kp e1,bt.new e1⟩)
   |cons T0 Ts'=>
    have s0:=sT T0 P6;have kF':zi h6 p1 [] F=some ((T0::Ts').map jp):=jb kF e1;refine Xd (Xi (D3 k) (λj=> .int (j:G8)) (λj=> .tup (T0.map λr=> .int (r.getD j 0))) (by rw [S5];omega) rfl (λR r=>⟨_,rfl,(k:G8),rfl,by omega,by omega,r⟩) (λj hj Q' q'=> ?_) ?_)
    ·refine Xi T0 zw (λr=> .int (r.getD j 0)) (by rw [s0.len];omega) rfl (λR r=>⟨_,rfl,_,_,kF',(zn (show ((T0::Ts').map jp)[0]? =some (jp T0) from rfl)),r⟩) (λr hr Q'' q''=>⟨_,rfl,_,rfl,_,vv (s0.row r hr) (S8.mp hj),q''⟩) q'
    ·have e1': ∀j,T0.map (λr=>D.int (r.getD j 0))=(D3 k).map λi=>D.int (ent T0 i j):=λj=>by
      conv=>lhs;rw [zj T0 [],s0.len]
      rw [S7];rfl
     have e2:((D3 k).map λj=>D.tup (T0.map λr=> .int (r.getD j 0)))=(D3 k).map λj=>D.tup ((D3 k).map λi=>D.int (ent T0 i j)):=T7 λj _=>by rw [e1']
     rw [e2,RM];exact hC2 _ _ ⟨RL k T0,l2,rfl,s0.turn,kF',lT,sT,l20,jb kp e1,bt.new e1⟩
  rintro _ h7 ⟨T,l2,rfl,hT,kF,lT,sT,l20,kp,bt⟩;refine⟨_,rfl,F,rfl,_,rfl,_,kF,?_,_,Sub.refl _,by omega,Ts++ [T],_,_,_,l2,rfl,?_,by rw [S1,lT];rfl,?_,l20,jd (C6 nF) kp,bt.putNew fF⟩
  ·rw [G3];exact jH (by omega)
  ·rw [ja,R9];rfl
  ·intro U hU;rcases R8.mp hU with z|z
   ·exact sT U z
   ·rw [P2.mp z];exact hT
 rintro _ h3 ⟨Ts,a,b,c,l2,rfl,kF,lT,sT,l20,kp,bt⟩;exact⟨_,rfl,h3,Sub.refl _,q F k Ts l2 h3 fF kF ⟨k1,k3,by omega,by omega,sT⟩ bt kp l20⟩
def vF:RDn:=λds h Q=> ∃M A Ts W,∃n:P0,ds= [jp M,.lst A,za W]/\Sq n 1 M/\h A=some (Ts.map jp)/\TabsOk n Ts/\(∀i∈W,i<Ts.length)/\W.length<=1300/\Q (jp (Yq n Ts M W)) h
theorem WQ (Z:Zs mg)(F:Fun K "_law_led" "_law_led" yC f fd)(zS:jr P w K mg base n "_law_marked" ["_law_table_here"] zE)(We:jr P w K mg base n "_law_times" ["_law_one","_law_other"] yh):FnOk P w K mg base CX0 (n+1) f fd ["_law_here","_law_tables","_law_way"] (LSp K vF):=by
 refine F.okM wT (λhr=>(js2 (YM M4 rfl (jR (jv 2)) (jgn 3 wT) (jQ (jse 0 wT (jk zS hr (j1 (jk We hr (j2 (jv 0) (ji1 (jv 1) (jv 3))))))))) (wy (jv 0)))) ?_;rintro ds h Q ⟨M,A,Ts,W,n,rfl,hM,kA,hT,hW,hl,q⟩;refine⟨rfl,?_⟩;have n1:=hT.n1;have n3:=hT.n3;refine jh (λmB h'=> ∃a,mB= [some (jp (Yq n Ts M W)),some (.lst A),some (za W),a]/\h=h') (λC hC=> ?_) (λmB h' ⟨a,e,eh⟩=>by subst e eh;exact⟨_,rfl,h,Sub.refl h,q⟩);refine wt (h1:=h) (j:=λ_=>some (W.map λ(k:P0)=>D.int (k:G8))) (W.map λ(k:P0)=>D.int (k:G8)) (λi mB h'=> ∃a,mB= [some (jp (Yq n Ts M (W.take i))),some (.lst A),some (za W),a]/\h=h') (λR r=>⟨_,rfl,r⟩) (λ_ _ _ _=>rfl) ⟨none,rfl,rfl⟩ (λmB h' ⟨a,e,eh⟩=>hC _ _ ⟨a,by rw [e,G3,L3],eh⟩) ?_;rintro i d _ _ hd ⟨a,rfl,rfl⟩;have hil:=(D1.mp hd).1;rw [G3] at hil;rw [P7,G4 hil] at hd;injection hd with hd
 subst hd;have hw:=hW _ (S9 hil);have eT:Yq n Ts M (W.take (i+1))=mk1 n (Ts.getD W[i] []) (Yq n Ts M (W.take i)):=by
  rw [N4,G4 hil];exact Pj _ _ _
 have s1:=Qx (Ts:=Ts) M hM (W.take i);refine⟨_,rfl,_,rfl,_,rfl,_,_,kA,WA hT hw,Yq n Ts M (W.take i),Ts.getD W[i] [],n,1,20,rfl,s1,hT.get hw,by omega,by omega,Xh n (Yq n Ts M (W.take i)) (Ts.getD W[i] []),n,24,rfl,s1.mul (hT.get hw) (by omega),by omega,_,Sub.refl _,by rw [G3];omega,some (.int ((W[i]:P0):G8)),?_,rfl⟩;rw [eT];rfl
theorem Py {a b:G6}{ws:G0 (G0 P0)}{Q:KD}(ka:h a=some (ws.map za))(kb:h b=some [])(q:Q (.bl (!ws.isEmpty)) h):neE (.lst a) (.lst b) h Q:=by
 refine⟨.list (ws.map Wy),.list [],⟨a,_,rfl,ka,ZJ h ws⟩,⟨b,_,rfl,kb,rfl⟩,WC ws,by decide +kernel,?_⟩;cases ws with
 |nil=>exact q
 |cons w ws=>exact q
theorem Qe (w:G0 P0)(a:P0):za (w++ [a])= .tup ((w.map λ(k:P0)=>D.int (k:G8))++ [.int (a:G8)]):=by
 unfold za;rw [R9];rfl
theorem UZ {s:Fnd×G0 (G0 P0)}{w:G0 P0}{m:P0}:(s.2++(D3 m).map λa=>w++ [a]).map za=s.2.map za++(D3 m).map λa=>za (w++ [a]):=by
 rw [R9,S7];rfl
def yj:RDn:=λds h Q=> ∃A Ts,∃n:P0,ds= [.lst A]/\h A=some (Ts.map jp)/\TabsOk n Ts/\ ∀W ep h',h'.dc W=some (.tk ep (kvW (fnd n Ts)))->Sub h h'->Q (.dct W) h'
theorem JZ (Z:Zs mg)(F:Fun K "_law_reach" "_law_reach" wj f fd)(Vc:jr P w K mg base n "_law_led" ["_law_here","_law_tables","_law_way"] vF)(zS:jr P w K mg base n "_law_marked" ["_law_table_here"] zE):FnOk P w K mg base CX0 (n+1) f fd ["_law_tables"] (LSp K yj):=by
 refine F.okM ju (λhr=>(js4 (jse 1 ju UL) (Qr (i:=6) (k:=2) (js:= [6]) rfl ju.nd rfl (C9 rfl) (jU (by rfl)) (jrg Z (YW Z (jv 0))) (by decide) rfl (by first|exact C9 rfl|exact E5 rfl) (λX' hX=>wK) (λX' hX=>by obtain⟨C,s₀,H₀,ex,rfl⟩:=hX;exact(vI (j1 (jv 6))))) (Qt M4 (jt1 (Uf hr.units) (jv 2) (vG zZ)) (js3 (jse 3 ju (vG zZ)) (YM M4 rfl (jR (jv 2)) (jgn 4 ju) (js2 (jse 5 ju (jk Vc hr (j3 (jk zS hr (j1 (ji1 (jv 0) (ji1 (jv 4) jt)))) (jv 0) (Qs (jv 4) (Ww jt) Pb)))) (Ms (GW (ZP hr) (jv 5) (jv 1) (by with_unfolding_all rfl)) (js2 (Ps hr (jv 1) (jv 5) (jv 4)) (jse 3 ju (jop zo (jv 3) (jl0 6 ju (jrg Z (YW Z (jv 0))) (λ_ _ _ _=>(jop zo (jv 4) (vI (j1 (jv 6))))))))) Yj))) (jse 2 ju (jv 3)))) (wy (jv 1)))) ?_;rintro ds h Q ⟨A,Ts,n,rfl,kA,hT,q⟩;refine⟨rfl,?_⟩;have n1:=hT.n1;have n3:=hT.n3;have l3:=hT.l3;have big: ∀x,x<=3000->x<=sizeLine:=λx hx=>T8 hx (by decide)
 refine jh (λmB h'=> ∃W,mB= [some (.lst A),some (.dct W),none,none,none,none,none]/\h.dc W=none/\h' A=some (Ts.map jp)/\h'.dc W=some (.tk 0 [])/\Sub h h') (λC hC=>λW eW=>hC _ _ ⟨W,rfl,eW,kA,jY,.newC eW⟩) ?_;rintro _ h1 ⟨W,rfl,fW,kA1,kW,sb1⟩;refine jh (λmB h'=> ∃Fr,mB= [some (.lst A),some (.dct W),some (.lst Fr),none,none,none,none]/\h' A=some (Ts.map jp)/\h'.dc W=some (.tk 0 [])/\h' Fr=some ((bst n Ts 0).2.map za)/\Sub h h') (λC hC=>Yi (h1:=h1) Ts.length (λk ys h'=>h1=h'/\ys=(D3 k).map λa=>za [a]) (by omega) (λR r=>⟨_,rfl,_,kA1,by show R [.int (((Ts.map jp).length:P0):G8)] _;rw [G3];exact r⟩) ⟨rfl,rfl⟩ (λk ys h' ⟨_,e⟩=>by rw [e,G3,S5]) ?_ ?_) ?_
 ·rintro k ys _ hk ⟨rfl,rfl⟩;exact⟨_,rfl,sz1,_,Sub.refl _,hk,rfl,by rw [Y2,R9];rfl⟩
 ·rintro ys _ ⟨rfl,rfl⟩ Fr eF;refine hC _ _ ⟨Fr,rfl,jb kA1 eF,kW,?_,sb1.newAt eF⟩;rw [ja];show some _=some (((D3 Ts.length).map λa=> [a]).map za);rw [S7];rfl
 clear kA1 kW sb1;rintro _ h3 ⟨Fr,rfl,kA3,kW,kF,sb3⟩;refine jh (λmB h'=> ∃Fr b3 b4 b5 ep,mB= [some (.lst A),some (.dct W),some (.lst Fr),b3,b4,b5,none]/\h'.dc W=some (.tk ep (kvW (fnd n Ts)))/\Sub h h') (λC hC=> ?_) ?_
 ·refine Yo (λm mB h'=> ∃k Fr b3 b4 b5 ep s,mB= [some (.lst A),some (.dct W),some (.lst Fr),b3,b4,b5,none]/\s=bst n Ts k/\h' A=some (Ts.map jp)/\h'.dc W=some (.tk ep (kvW s.1))/\h' Fr=some (s.2.map za)/\Sub h h'/\m=Va s/\k+m<=1025) _ ⟨0,Fr,_,_,_,0,_,rfl,rfl,kA3,kW,kF,sb3,rfl,ZT hT.l1⟩ ?_;clear kA3 kW kF sb3;rintro m _ h4 ⟨k,Fr,b3,b4,b5,ep,s,rfl,es,kA4,kW,kF,sb4,rfl,hk⟩;have bn:Bin n Ts k s:=es ▸ JJ l3 k;refine⟨_,rfl,sz0,λP eP=>Py (jb kF eP) ja ⟨_,rfl,?_⟩⟩
  by_cases ez:s.2= []
  ·rw [ez];refine vH (hC _ _ ⟨Fr,b3,b4,b5,ep,rfl,?_,sb4.newAt eP⟩);rw [<-WI (k:=k) (es ▸ ez) (by omega),<-es];exact kW
  rw [show (!s.2.isEmpty)=true from by
   cases z:s.2 with
   |nil=>exact absurd z ez
   |cons=>rfl]
  refine Xd ?_;refine jh (λmB h'=> ∃L,mB= [some (.lst A),some (.dct W),some (.lst Fr),some (.lst L),b4,b5,none]/\h' A=some (Ts.map jp)/\h'.dc W=some (.tk ep (kvW s.1))/\h' Fr=some (s.2.map za)/\h' L=some []/\Sub h h') (λC hC=>⟨sz0,λL eL=>hC _ _ ⟨L,rfl,jb (jb kA4 eP) eL,kW,jb (jb kF eP) eL,ja,(sb4.newAt eP).newAt eL⟩⟩) ?_;clear kA4 kW kF sb4;rintro _ h5 ⟨L,rfl,kA5,kW,kF,kL,sb5⟩;refine jh (λmB h'=> ∃L b4 b5 ep s',mB= [some (.lst A),some (.dct W),some (.lst Fr),some (.lst L),b4,b5,none]/\s'=QB n Ts s/\h' A=some (Ts.map jp)/\h'.dc W=some (.tk ep (kvW s'.1))/\h' L=some (s'.2.map za)/\Sub h h') (λC hC=> ?_) ?_
  ·refine wt (h1:=h5) (j:=λh=>h Fr) (s.2.map za) (λi mB h'=> ∃L b4 b5 ep s',mB= [some (.lst A),some (.dct W),some (.lst Fr),some (.lst L),b4,b5,none]/\s'=(s.2.take i).foldl (lvS n Ts) (s.1,[])/\h' A=some (Ts.map jp)/\h'.dc W=some (.tk ep (kvW s'.1))/\h' Fr=some (s.2.map za)/\h' L=some (s'.2.map za)/\Sub h h') (λR r=>⟨_,rfl,r⟩) (λi mB h' ⟨_,_,_,_,_,_,_,_,_,z,_⟩=>z) ⟨L,b4,b5,ep,_,rfl,rfl,kA5,kW,kF,kL,sb5⟩ (λmB h' ⟨L,b4,b5,ep,s',e,es',a1,a2,_,a4,a5⟩=>hC _ _ ⟨L,b4,b5,ep,s',e,?_,a1,a2,a4,a5⟩) ?_
   ·rw [es',G3,L3];rfl
   clear kA5 kW kF kL sb5;rintro i d _ h6 hd ⟨L,c4,c5,ep,s',rfl,es',kA6,kW,kF,kL,sb6⟩;have hil:=(D1.mp hd).1;rw [P7] at hd;obtain⟨w,ew,rfl⟩:=F2.mp hd;obtain⟨hw,lw⟩:=bn.fr w (S0 ew);have md:Mid n Ts k s.1.length s':=es' ▸ bn.mids l3 i;have few:=md.few n3;have k1025:k<=1025:=by omega
   have es2:(s.2.take (i+1)).foldl (lvS n Ts) (s.1,[])=lvS n Ts s' w:=by rw [ZW ew,<-es']
   refine jh (λmB h'=>mB= [some (.lst A),some (.dct W),some (.lst Fr),some (.lst L),some (za w),some (jp (mkW n Ts w)),none]/\h6=h') (λC hC=> ?_) ?_
   ·match w,hw,lw,hC with
    | [],hw,_,_=>exact absurd rfl hw.1
    |a::v,hw,lw,hC=>
     rw [S3] at lw;exact⟨_,rfl,_,rfl,_,zn (j:=0) rfl,_,_,kA6,WA hT (hw.2 a P6),Ts.getD a [],n,20,rfl,hT.get (hw.2 a P6),by omega,_,rfl,_,rfl,_,rfl,ZC n (Ts.getD a []),A,Ts,v,n,by rw [Ub,Pi];rfl,Sq.mark _,kA6,hT,λx hx=>hw.2 x (D2 _ hx),by omega,hC _ _ ⟨rfl,rfl⟩⟩
   rintro _ _ ⟨rfl,rfl⟩;refine⟨_,rfl,_,rfl,W,mkW n Ts w,ep,_,rfl,rfl,kW,_,rfl,?_⟩;show if (true !=(zq (kvW s'.1) (mkW n Ts w)).isSome)=true then _ else _
   rw [WK];cases hg:(zq s'.1 (mkW n Ts w)).isSome with
   |true=>exact vH ⟨_,Sub.refl _,hil,L,_,_,ep,s',rfl,by rw [es2,WG hg],kA6,kW,kF,kL,sb6⟩
   |false=>
    have es3:=es2.trans (WH hg);refine Xd ?_;refine jh (λmB h'=> ∃ep,mB= [some (.lst A),some (.dct W),some (.lst Fr),some (.lst L),some (za w),some (jp (mkW n Ts w)),none]/\h' A=some (Ts.map jp)/\h'.dc W=some (.tk ep (kvW (s'.1++ [(mkW n Ts w,w)])))/\h' Fr=some (s.2.map za)/\h' L=some (s'.2.map za)/\Sub h h') (λC hC=>⟨_,rfl,_,rfl,_,rfl,W,mkW n Ts w,ep,kvW s'.1,rfl,rfl,kW,by unfold kvW;rw [G3];omega,λep'=>hC _ _ ⟨ep',rfl,kA6,by rw [jY,US hg],kF,kL,sb6.overC fW⟩⟩) ?_;clear kA6 kW kF kL sb6;rintro _ h7 ⟨ep,rfl,kA7,kW,kF,kL,sb7⟩;refine⟨_,rfl,Yi (h1:=h7) Ts.length (λk ys h'=>h7=h'/\ys=(D3 k).map λa=>za (w++ [a])) (by omega) (λR r=>⟨_,rfl,_,kA7,by show R [.int (((Ts.map jp).length:P0):G8)] _;rw [G3];exact r⟩) ⟨rfl,rfl⟩ (λk ys h' ⟨_,e⟩=>by rw [e,G3,S5]) ?_ ?_⟩
    ·rintro a ys _ ha ⟨rfl,rfl⟩;refine⟨_,rfl,_,rfl,sz1,?_,_,Sub.refl _,ha,rfl,?_⟩
     ·rw [G3];exact big _ (by simp only [S3,M7];omega)
     ·rw [Y2,R9];show _=_++ [za (w++ [a])];rw [Qe]
    ·rintro ys _ ⟨rfl,rfl⟩ Y eY;refine⟨_,_,jb kL eY,ja,?_,λZ eZ=>⟨_,Sub.refl _,hil,Z,_,_,ep,(s'.1++ [(mkW n Ts w,w)],s'.2++(D3 Ts.length).map λa=>w++ [a]),rfl,es3.symm,jb (jb kA7 eY) eZ,kW,jb (jb kF eY) eZ,by rw [ja,UZ],(sb7.newAt eY).newAt eZ⟩⟩;rw [G3,G3,S5];exact big _ (by have:=md.gr;omega)
  clear kA5 kW kF kL sb5;rintro _ h6 ⟨L,c4,c5,ep,s',rfl,es',kA6,kW,kL,sb6⟩;have ls:Va s'<Va s:=by rw [es'];exact Yw bn n3 l3 ez
  exact⟨_,rfl,Va s',_,ls,Sub.refl _,k+1,L,_,_,_,ep,s',rfl,by rw [es',es];rfl,kA6,kW,kL,sb6,rfl,by omega⟩
 clear kA3 kW kF sb3;rintro _ h4 ⟨Fr,b3,b4,b5,ep,rfl,kW,sb4⟩;exact⟨_,rfl,h4,Sub.refl _,q W ep h4 kW sb4⟩
theorem NL {α:Type}{i i':P0}{js:G0 P0}{ti:TID}{te:TED}{σ:SD}{Q:KD}(xs:G0 α)(c c' g:α->D)(p:α->B4){tt:TTD}(P:ItD->HD->Prop)(hz:xs.length<=1000)(ht: ∀R:ItD->HD->Prop,(∀j h1,P j h1->R j h1)->ti σ h R)(hj: ∀j h1,P j h1->j h1=some (xs.map λx=> .tup [c x,c' x]))
 (hp: ∀j h1,P j h1-> ∀x∈xs,∀Q':B4->HD->Prop,Q' (p x) h1->tt (((jG js σ).set i (some (c x))).set i' (some (c' x))) h1 Q')(he: ∀j h1,P j h1-> ∀x∈xs,p x=true-> ∀Q':KD,Q' (g x) h1->te (((jG js σ).set i (some (c x))).set i' (some (c' x))) h1 Q')(hq: ∀j h1,P j h1-> ∀a,h1 a=none->Q (.lst a) (zi h1 a ((xs.filter p).map g))):yJ (b2 i i') js ti tt te σ h Q:=
 ht _ λj h1 z=>(Cf (ti:=λ_ h R=>R j h) (j:=j) xs c c' g p hz (hj j h1 z) (λR r=>r) (hp j h1 z) (he j h1 z) (hq j h1 z):yJ (b2 i i') js (λ_ h R=>R j h) tt te σ h1 Q)
theorem WR {b:D->SD->SD->Prop}{js:G0 P0}{ti:TID}{tt:TTD}{te:TED}{k:P0}{E:EndsD}{σ:SD}(x:yJ b js ti tt te σ h λv h1=>WF [v] h1 λd h2=>E.nx (σ.set k (some d)) h2):Zi k (dCB WF (jI (yJ b js ti tt te) wX)) E σ h:=x
theorem Pz {te:TED}{t u:TSD}{E:EndsD}{σ:SD}(x:te σ h λv h1=>Ry [v] h1 λd h2=> ∃k,d= .bl k/\if (!k)=true then t E σ h2 else u E σ h2):Vl (YH (zY (dCB Ry (jI te wX)))) t u E σ h:=x
theorem Qf (l3:Ts.length<=3):((fnd n Ts).filter λp=>zc p.1).length<2:=by
 have nd:(((fnd n Ts).filter λp=>zc p.1).map (·.1)).Nodup:=(WJ l3).nd.sublist (G0.filter_sublist.map _);have hm: ∀p∈(fnd n Ts).filter λp=>zc p.1,Sq n 1 p.1/\zc p.1=true:=λp hp=>⟨(JU l3 (Q7.mp hp).1).1,(Q7.mp hp).2⟩
 revert nd hm;generalize ((fnd n Ts).filter λp=>zc p.1)=F;intro nd hm
 match F,nd,hm with
 | [],_,_=>decide
 | [_],_,_=>exact L1 1
 |a::b::r,nd,hm=>
  have x:=hm a P6;have y:=hm b (D2 _ P6);rw [R0,R0] at nd;exact absurd (XZ x.1 y.1 x.2 y.2) λz=>(A2.mp nd).1 (by rw [z];exact P6)
/-- how long,and the way -/
def PL (w:G0 P0):D:= .tup [.int (w.length:G8),za w]
def PM (w:G0 P0):J1:= .tuple [.int (w.length:G8),Wy w]
theorem PB (h:HD)(w:G0 P0):ToP h (PL w) (PM w):=⟨_,rfl,_,_,rfl,rfl,_,_,rfl,vx h w,rfl⟩
theorem RY {a b:G6}{ws:G0 (G0 P0)}{Q:KD}(few:ws.length<2)(ka:h a=some (ws.map PL))(kb:h b=some [])(q:Q (.bl (!ws.isEmpty)) h):neE (.lst a) (.lst b) h Q:=by
 match ws,few,ka,q with
 | [],_,ka,q=>exact⟨.list [],.list [],⟨a,_,rfl,ka,rfl⟩,⟨b,_,rfl,kb,rfl⟩,by decide +kernel,by decide +kernel,q⟩
 | [w],_,ka,q=>
  refine⟨.list [PM w],.list [],⟨a,_,rfl,ka,_,_,rfl,PB h w,rfl⟩,⟨b,_,rfl,kb,rfl⟩,?_,by decide +kernel,q⟩;have c1:=encO.lay w;have c2:=encO.dp w;unfold PySem.SeqAt.shaped;have h1:M9 (.list [PM w])=true:=by simp [M9,PM,W5,c1]
  have h3:N0 (.list [PM w])<=64:=by simp only [N0,M1,PM];omega
  rw [h1,N3 h3];rfl
theorem RZ {w:G0 P0}(h:w.length<=1025)(b: ∀i∈w,i<3):ShowOk (Wy w):=by
 have z:=Ux (r:=ZD w) (e:=2) (λx hx=>by obtain⟨k,_,rfl⟩:=T5.mp hx;exact Int.natCast_nonneg k) (λx hx=>by obtain⟨k,hk,rfl⟩:=T5.mp hx;have:=b k hk;show (k:G8)<4;omega) (by decide);refine z.ok (by decide) ?_;have:(ZD w).length=w.length:=G3 _;rw [this];omega
theorem NM {F:Fnd}:fwD F=match (F.filter λp=>zc p.1).map (·.2) with
 | []=> .non
 |w::_=>za w:=by
 unfold fwD;rw [<-List.head?_filter];cases F.filter λp=>zc p.1<;>rfl
def yk:RDn:=λds h Q=> ∃A Ts,∃n:P0,ds= [.lst A]/\h A=some (Ts.map jp)/\TabsOk n Ts/\ ∀h',Sub h h'->Q (.bl true) h'
theorem Za (Z:Zs mg)(F:Fun K "_law_right" "_law_right" wm f fd)(Wc:jr P w K mg base n "_law_reach" ["_law_tables"] yj)(Zb:jr P w K mg base n "_law_filled" ["_law_table_here"] wD)(WU:jr P w K mg base n "_law_same" ["_law_found","_law_due"] Qw)(Ve:jr P w K mg base n "full_way" ["tables"] vD):FnOk P w K mg base CX0 (n+1) f fd ["_law_tables"] (LSp K yk):=by
 refine F.okM jT (λhr=>(js4 (Uk (i:=3) (j:=4) (k:=1) (js:= [3,4]) rfl jT.nd rfl (C9 rfl) (jU (by rfl)) (Yu (jk Wc hr (j1 (jv 0)))) (by decide) (by decide) (by decide) rfl rfl (by first|exact C9 rfl|exact E5 rfl) (by first|exact C9 rfl|exact E5 rfl) (λX' hX=>by obtain⟨C,s₀,H₀,ex,rfl⟩:=hX;exact Pa (vp (jk Zb hr (j1 (jv 3))))) (λX' hX=>by obtain⟨C,s₀,H₀,ex,rfl⟩:=hX;exact(jv 4))) (jse 1 jT (zv YZ rfl Z.sorted (by decide +kernel) (j1 (jl0 4 jT (jR (jv 1)) (λ_ _ _ _=>(vI (j2 (YW Z (jv 4)) (jv 4)))))))) (YM M4 rfl (jrg Z jt) (jgn 2 jT) (jQ (WD (vq (vp (jk WU hr (j2 (jk Ve hr (j1 (jv 0))) (jif (jt1 (Uf hr.units) (jv 1) (vG zZ)) (ji1 (ji1 (jv 1) jt) jt) Bk))))) (wy jbl)))) (wy jbl))) ?_;rintro ds h Q ⟨A,Ts,n,rfl,kA,hT,q⟩;refine⟨rfl,?_⟩;have n1:=hT.n1;have n3:=hT.n3;have l3:=hT.l3;have few:=Qf (n:=n) l3;have fb:=WJ (n:=n) l3;have lf:(fnd n Ts).length<=512:=fb.few n3;have fw:=NM (F:=fnd n Ts);obtain⟨W,eW⟩: ∃W,W=((fnd n Ts).filter λp=>zc p.1).map (·.2):=⟨_,rfl⟩;have lW:W.length<2:=by rw [eW,G3];exact few
 have bW: ∀w∈W,w.length<=1025/\ ∀i∈w,i<3:=λw hw=>by
  rw [eW] at hw;obtain⟨p,hp,rfl⟩:=T5.mp hw;obtain⟨_,b,c⟩:=JU l3 (Q7.mp hp).1;exact⟨c,λi hi=>R4 (b i hi) l3⟩
 rw [<-eW] at fw;refine jh (λmB h'=> ∃U,mB= [some (.lst A),some (.lst U),none,none,none]/\h' U=some (W.map za)/\Sub h h') (λC hC=>NL (fnd n Ts) (λp=>jp p.1) (λp=>za p.2) (λp=>za p.2) (λp=>zc p.1) (λj h1=> ∃W ep,h1.dc W=some (.tk ep (kvW (fnd n Ts)))/\Sub h h1/\j=yN W ep (kvW (fnd n Ts)).length) (by omega) (λR r=>⟨_,rfl,A,Ts,n,rfl,kA,hT,λV ep h1 kW sb=>⟨V,ep,_,rfl,kW,r _ h1 ⟨V,ep,kW,sb,rfl⟩⟩⟩) (λj h1 ⟨V,ep,kW,_,ej⟩=>by rw [ej,ZS kW,yF]) (λj h1 _ x hx Q' q'=>⟨_,rfl,x.1,n,1,rfl,(JU l3 hx).1,n1,by omega,_,rfl,q'⟩) (λj h1 _ x hx _ Q' q'=>⟨_,rfl,q'⟩) (λj h1 ⟨_,_,_,sb,_⟩ U eU=>hC _ _ ⟨U,rfl,by rw [ja,eW,S7];rfl,sb.newAt eU⟩)) ?_;rintro _ h1 ⟨U,rfl,kU,sb⟩;refine jh (λmB h'=> ∃U,mB= [some (.lst A),some (.lst U),none,none,none]/\h' U=some (W.map PL)/\Sub h h') (λC hC=>WR (lcA (j:=λh=>h U) W za PL (by omega) kU (λR r=>⟨_,rfl,r⟩) (λw hw Q' q'=>⟨_,rfl,_,rfl,sz2,by unfold PL at q';rw [G3];exact q'⟩) λp1 e1=>⟨p1,_,rfl,ja,by rw [G3];exact lW,λp2 e2=>hC _ _ ⟨p2,rfl,ja,(sb.newAt e1).newAt e2⟩⟩)) ?_;clear kU sb;rintro _ h2 ⟨U,rfl,kU,sb⟩;refine jh (λmB h'=>(∃a,mB= [some (.lst A),some (.lst U),a,none,none])/\Sub h h') (λC hC=> ?_) (λmB h' ⟨⟨a,e⟩,s⟩=>by subst e;exact⟨_,Sub.refl _,q _ s⟩);refine yt 2 (λi mB h'=>(∃a,mB= [some (.lst A),some (.lst U),a,none,none])/\h' U=some (W.map PL)/\Sub h h') (by decide) (λR r=>r) ⟨⟨_,rfl⟩,kU,sb⟩ (λmB h' ⟨a,_,c⟩=>hC _ _ ⟨a,c⟩) ?_;clear kU sb;rintro i _ h3 hi ⟨⟨a,rfl⟩,kU,sb⟩;refine⟨_,rfl,A,Ts,n,rfl,sb _ _ kA,hT,_,rfl,sz0,λP eP=>RY lW (jb kU eP) ja ⟨_,rfl,?_⟩⟩;clear eW;cases W with
 |nil=>
  rw [show (!([]:G0 (G0 P0)).isEmpty)=false from rfl];exact vH ⟨_,_,.none,rfl,fw,rfl,⟨by decide +kernel,by decide +kernel,by decide +kernel⟩,_,rfl,vH ⟨_,Sub.refl _,hi,⟨_,rfl⟩,jb kU eP,sb.newAt eP⟩⟩
 |cons w r=>
  rw [show (!(w::r).isEmpty)=true from rfl];refine Xd ⟨_,rfl,_,_,jb kU eP,zn (j:=0) rfl,?_⟩;obtain⟨b1,b2⟩:=bW w P6;exact⟨za w,zn (j:=1) rfl,_,_,Wy w,rfl,by rw [fw];exact vx _ w,vx _ w,RZ b1 b2,_,rfl,vH ⟨_,Sub.refl _,hi,⟨_,rfl⟩,jb kU eP,sb.newAt eP⟩⟩
theorem Qg (h:TabsOk n Ts):TabsOk n Ts.reverse:=⟨h.n1,h.n3,by rw [Y6];exact h.l1,by rw [Y6];exact h.l3,λT hT=>h.sq T (List.mem_reverse.mp hT)⟩
theorem Ma (Z:Zs mg)(F:Fun K "law" "law" Vb f fd)(wo:jr P w K mg base n "_law_right" ["_law_tables"] yk)(WS:jr P w K mg base n "_law_cell" ["_law_script","_law_k"] yO)(Vd:jr P w K mg base n "_law_pen" ["_law_cell_here"] vE)(WT:jr P w K mg base n "_law_many" ["_law_pen_here"] yP):FnOk P w K mg base CX0 (n+1) f fd ["_law_script"] (LSp K Uc):=by
 refine F.okM Jj (λhr=>(js4 (jse 1 Jj (vG (j4 (vG (j1 (vI (j1 (vI (j1 jt)))))) (vG (j1 (vI (j1 (vI (j1 jt)))))) (vG (j1 (vI (j2 (vI (j2 jt jt)) (vI (j2 jt jt)))))) (vG (j2 (vI (j2 (vI (j2 jt jt)) (vI (j2 jt jt)))) (vI (j2 (vI (j2 jt jt)) (vI (j2 jt jt))))))))) (WD (vq (vp (zv (Yh rfl) rfl Z.all J4 (j1 (jl0 4 Jj (jR (jv 1)) (λ_ _ _ _=>(jk wo hr (j1 (jv 4))))))))) (wy jbl)) (YM M4 rfl (GZ (jop zo (vG (j1 (jk WS hr (j2 (jv 0) jt)))) (Qs (jv 0) (Ww jt) (Ww jt)))) (jgn 2 Jj) (js3 (jse 3 Jj (jk Vd hr (j1 (jv 2)))) (jse 4 Jj (jk WT hr (j1 (jv 3)))) (WD (jpt (PH (vq (vp (jk wo hr (j1 (jv 4))))) (RJ (vq (vp (jk wo hr (j1 (Cm (jv 4))))))))) (wy jbl)))) (wy jbl))) ?_;rintro ds h Q ⟨ns,rfl,hh,hns,q⟩;refine⟨rfl,?_⟩;refine jh (λmB h'=> ∃S As,mB= [some (.scr ns),some (.lst S),none,none,none]/\h' S=some (As.map D.lst)/\As.length=4/\ ∀a∈As,∃n Ts,h' a=some (Ts.map jp)/\TabsOk n Ts) (λC hC=>⟨sz1,sz1,sz1,λq1 f1=>⟨sz1,sz1,sz1,λq2 f2=>⟨sz2,sz2,sz2,sz1,λq3 f3=>⟨sz2,sz2,sz2,sz2,sz2,sz2,sz2,λq4 f4=>⟨sz4,λq5 f5=>hC _ _ ⟨q5,[q1,q2,q3,q4],rfl,ja,rfl,?_⟩⟩⟩⟩⟩⟩) ?_
 ·intro a ha;simp only [R5,B2,or_false] at ha;rcases ha with e|e|e|e<;>subst e
  ·exact⟨1,[[[0]]],jb (jb (jb (jb ja f2) f3) f4) f5,by decide,by decide,by decide,by decide,λT hT=>by rw [P2.mp hT];exact⟨rfl,by decide,by decide,by decide⟩⟩
  ·exact⟨1,[[[1]]],jb (jb (jb ja f3) f4) f5,by decide,by decide,by decide,by decide,λT hT=>by rw [P2.mp hT];exact⟨rfl,by decide,by decide,by decide⟩⟩
  ·exact⟨2,[[[0,1],[1,0]]],jb (jb ja f4) f5,by decide,by decide,by decide,by decide,λT hT=>by rw [P2.mp hT];exact⟨rfl,by decide,by decide,by decide⟩⟩
  ·exact⟨2,[[[0,1],[1,0]],[[1,0],[1,1]]],jb ja f5,by decide,by decide,by decide,by decide,λT hT=>by
    rcases R5.mp hT with z|z
    ·rw [z];exact⟨rfl,by decide,by decide,by decide⟩
    ·rw [P2.mp z];exact⟨rfl,by decide,by decide,by decide⟩⟩
 rintro _ h1 ⟨S,As,rfl,kS,lAs,all⟩;refine jh (λmB h'=>mB= [some (.scr ns),some (.lst S),none,none,none]) (λC hC=>Pz (Pk (h1:=h1) (j:=λh=>h S) (As.map D.lst) (λk ys h'=>ys=D5 k (D.bl true)/\Sub h1 h') (by rw [G3];omega) (λR r=>⟨_,rfl,r⟩) (λ_ _ _ z=>z.2 _ _ kS) ⟨rfl,Sub.refl _⟩ (λk ys h' z=>by rw [z.1,bV];exact D0 _) (λk d ys h' hd w=> ?_) (λys h' w p2 e2=> ?_))) ?_
 ·obtain⟨w1,w2⟩:=w;have hk:=(D1.mp hd).1;obtain⟨a,ha,rfl⟩:=T5.mp (S0 hd);obtain⟨n,Ts,ka,hT⟩:=all a ha;exact⟨_,rfl,a,Ts,n,rfl,w2 _ _ ka,hT,λh4 sb4=>⟨_,Sub.refl _,hk,by rw [w1,List.replicate_succ'],w2.trans sb4⟩⟩
 ·obtain⟨w1,w2⟩:=w;subst w1;refine⟨p2,D5 (As.map D.lst).length true,rfl,by rw [ja,List.map_replicate],?_⟩;rw [zH e2,show (D5 (As.map D.lst).length true).all id=true from by simp];exact⟨_,rfl,vH (hC _ _ rfl)⟩
 rintro _ h2 rfl;refine jh (λmB h'=>True) (λC hC=> ?_) (λmB h3 hV=>⟨h3,Sub.refl _,q h3⟩);refine⟨_,rfl,ns,0,rfl,(by decide),λn0=>⟨sz1,λp1 e1=>⟨_,rfl,_,rfl,_,rfl,λp2 e2=>⟨_,_,jb ja e2,ja,?_,λp3 e3=>⟨p3,rfl,?_⟩⟩⟩⟩⟩
 ·have:(Wt ns (some 1) (some 5)).length<=ns.length:=by unfold Wt;rw [B0,K3];omega
  rw [G3];exact N1 (jH (by simp only [S3,M7];omega))
 generalize hcs:([D.int n0]++(Wt ns (some 1) (some 5)).map D.int)=cs;have hint: ∀d∈cs,∃c,d= .int c:=λd hd=>by
  rw [<-hcs] at hd;rcases R8.mp hd with z|z
  ·exact⟨n0,P2.mp z⟩
  ·obtain⟨x,_,e⟩:=T5.mp z;exact⟨x,e.symm⟩
 refine Ue cs (λi mB h'=> ∃a1 a2 a3 a4,mB= [some (.scr ns),a1,a2,a3,a4]/\h' p3=some cs) (λi mB h' ⟨_,_,_,_,_,k⟩=>k) ⟨_,_,_,_,rfl,ja⟩ (λmB h' _=>hC _ _ U4) ?_;rintro i d _ h4 hi ⟨b1,b2,b3,b4,rfl,k3⟩;obtain⟨c,rfl⟩:=hint d (S0 hi);have hil:i<cs.length:=(D1.mp hi).1;show ym _ _ _ [some (.scr ns),b1,some (.int c),b3,b4] h4;refine jh (λmB h'=> ∃p l fl,mB= [some (.scr ns),b1,some (.int c),some (.lst p),b4]/\h' p=some [.int l,.int fl]/\0<=l/\h' p3=some cs/\p3≠p) (λC hC=> ?_) ?_
 ·refine⟨_,rfl,c,rfl,λp l fl ep l0 _=>hC _ _ ⟨p,l,fl,rfl,ja,l0,jb k3 ep,C6 (ji k3 ep)⟩⟩
 rintro _ h5 ⟨p,l,fl,rfl,kp,l0,k3,n3⟩;refine jh (λmB h'=> ∃F n Ts,mB= [some (.scr ns),b1,some (.int c),some (.lst p),some (.lst F)]/\h' F=some (Ts.map jp)/\TabsOk n Ts/\h' p3=some cs) (λC hC=>⟨_,rfl,p,l,fl,rfl,kp,l0,λF n Ts l' h' fF kF hT bt kp' l0'=>hC _ _ ⟨F,n,Ts,rfl,kF,hT,bt _ _ n3 k3⟩⟩) ?_;rintro _ h6 ⟨F,n,Ts,rfl,kF,hT,k6⟩;refine⟨_,rfl,F,Ts,n,rfl,kF,hT,λh7 sb7=>⟨_,rfl,vH ⟨_,rfl,F,_,rfl,sb7 _ _ kF,λp8 e8=>⟨p8,Ts.reverse,n,rfl,by rw [ja,List.map_reverse],Qg hT,λh9 sb9=>⟨_,rfl,vH ⟨_,Sub.refl _,hil,_,_,_,_,rfl,sb9 _ _ (jb (sb7 _ _ k6) e8)⟩⟩⟩⟩⟩⟩
end
theorem Mb {l:fQ}{w:M6}{K:G1}{h:N5}{mg:Str->P5 G2}{fa:G6}(X:K.In h)(G:h.Ns N6 mg)(hfa:mg "law" =some (.ref fa))
 (d0:DefIn K "is_whole" yz fu0 eu0)
 (d1:DefIn K "is_table_row" zB fu1 eu1)
 (d2:DefIn K "has_table_form" zd fu2 eu2)
 (d3:DefIn K "want_table" wc fu3 eu3)
 (d4:DefIn K "want_tables" zM fu4 eu4)
 (d5:DefIn K "multiplied" wd fu5 eu5)
 (d6:DefIn K "full" UT fu6 eu6)
 (d7:DefIn K "marks" WM fu7 eu7)
 (d8:DefIn K "marks_after" zN fu8 eu8)
 (d9:DefIn K "ways_and_nexts" ze fu9 eu9)
 (d10:DefIn K "full_way" yA fu10 eu10)
 (d11:DefIn K "_law_cell" wP fu11 eu11)
 (d12:DefIn K "_law_pen" yB fu12 eu12)
 (d13:DefIn K "_law_draw" wQ fu13 eu13)
 (d14:DefIn K "_law_same" wR fu14 eu14)
 (d15:DefIn K "_law_table" we fu15 eu15)
 (d16:DefIn K "_law_order" wf fu16 eu16)
 (d17:DefIn K "_law_times" wg fu17 eu17)
 (d18:DefIn K "_law_marked" zP fu18 eu18)
 (d19:DefIn K "_law_filled" zQ fu19 eu19)
 (d20:DefIn K "_law_good_table" jV fu20 eu20)
 (d21:DefIn K "_law_many" wS fu21 eu21)
 (d22:DefIn K "_law_led" yC fu22 eu22)
 (d23:DefIn K "_law_reach" wj fu23 eu23)
 (d24:DefIn K "_law_right" wm fu24 eu24)
 (d25:DefIn K "law" Vb fu25 eu25)
 {tk0:Tok}(v0:dZ K N6 "MOST_ROWS" =some (some (.int 6 tk0)))
 {tk1:Tok}(v1:dZ K N6 "MOST_TABLES" =some (some (.int 3 tk1)))
 {tk2:Tok}(v2:dZ K N6 "MOST_ROWS_OF_SEVERAL" =some (some (.int 3 tk2)))
 (z:zsB K=true)
 : ∃fd:S6,(∀ (s:G5) (v:G2),f7 s fd ⟨[v],[]⟩ [("_law_script",v)])/\ ∀base:N5,K.In base->base.Ns N6 mg->Bm mg base->FnOk l.prog w K mg base CX0 10 fa fd ["_law_script"] (LSp K Uc):=by
 have e:=hfa.symm.trans (d25.nm X G);cases e;have wU: ∃tk,mg "MOST_ROWS" =some (.int 6 tk):=⟨_,cW X G v0⟩;have zT: ∃tk,mg "MOST_TABLES" =some (.int 3 tk):=⟨_,cW X G v1⟩;have jF: ∃tk,mg "MOST_ROWS_OF_SEVERAL" =some (.int 3 tk):=⟨_,cW X G v2⟩;have Z:=NF X G z;obtain⟨_,_,kV,dc,pm,an,cd,ct,_,rfl,_⟩:=d25.fn.ex;refine⟨K2 "law" "law" (zX Vb) (zb Vb) (jc Vb) .none kV dc pm an cd ct,λs v=> .of_eq rfl,λbase _ _ B=> ?_⟩;have Vj:=λn=>d0.cal l w base X G (WN (n:=n+0) Z d0.fn)
 have vP:=λn=>d1.cal l w base X G (vC (n:=n+1) Z d1.fn (Vj (n+0)))
 have zW:=λn=>d2.cal l w base X G (yD (n:=n+2) Z d2.fn (vP (n+0)) wU)
 have yQ:=λn=>d3.cal l w base X G (JP (n:=n+3) Z d3.fn (zW (n+0)))
 have Zg:=λn=>d4.cal l w base X G (vK (n:=n+3) Z d4.fn (zW (n+0)) zT jF)
 have Wl:=λn=>d5.cal l w base X G (JQ (n:=n+0) Z d5.fn)
 have Md:=λn=>d6.cal l w base X G (Pw (n:=n+4) Z d6.fn (yQ (n+0)))
 have Xa:=λn=>d7.cal l w base X G (Qb (n:=n+4) Z d7.fn (yQ (n+0)))
 have Zf:=λn=>d8.cal l w base X G (vL (n:=n+5) Z d8.fn (Xa (n+0)) (Wl (n+4)))
 have yU:=λn=>d9.cal l w base X G (yE (n:=n+6) Z d9.fn (Xa (n+1)) (Zf (n+0)))
 have Vi:=λn=>d10.cal l w base X G (WO (n:=n+7) Z d10.fn (Zg (n+3)) (yU (n+0)) (Md (n+2)))
 have WW:=λn=>d11.cal l w base X G (ZX (n:=n+0) Z d11.fn)
 have Vh:=λn=>d12.cal l w base X G (WP (n:=n+0) Z d12.fn)
 have zU:=λn=>d13.cal l w base X G (ZY (n:=n+0) Z d13.fn)
 have WY:=λn=>d14.cal l w base X G (ZZ (n:=n+0) Z d14.fn)
 have Wj:=λn=>d15.cal l w base X G (JV (n:=n+1) Z d15.fn (zU (n+0)))
 have Wg:=λn=>d16.cal l w base X G (JX (n:=n+1) Z d16.fn (zU (n+0)))
 have Wk:=λn=>d17.cal l w base X G (JY (n:=n+0) Z d17.fn)
 have yl:=λn=>d18.cal l w base X G (vM (n:=n+0) Z d18.fn)
 have Ze:=λn=>d19.cal l w base X G (vN (n:=n+0) Z d19.fn)
 have yH:=λn=>d20.cal l w base X G (yi (n:=n+2) Z d20.fn (Wg (n+0)) (zU (n+1)))
 have WX:=λn=>d21.cal l w base X G (Wa (n:=n+3) Z d21.fn (zU (n+2)) (Wj (n+1)) (yH (n+0)))
 have Vg:=λn=>d22.cal l w base X G (WQ (n:=n+1) Z d22.fn (yl (n+0)) (Wk (n+0)))
 have Wh:=λn=>d23.cal l w base X G (JZ (n:=n+2) Z d23.fn (Vg (n+0)) (yl (n+1)))
 have Wi:=λn=>d24.cal l w base X G (Za (n:=n+8) Z d24.fn (Wh (n+5)) (Ze (n+7)) (WY (n+7)) (Vi (n+0)))
 exact Ma (n:=9) Z d25.fn (Wi 0) (WW 8) (Vh 8) (WX 5)
end My
namespace PySem.W.Fast
def tw2534198968376485086:=()
def tw15882777519426813478:=()
def tw2084368909237055779:=()
def tw9885479945554340419:=()
def tw14290214843105100192:=()
def tw12752658122991140622:=()
def tw8645118998220861704:=()
def tw15609108904114048292:=()
def tw17445406343622715725:=()
def tw15897436616950101101:=()
def tw12912813184000364768:=()
def tw7936702226973377346:=()
def tw6347019208722831611:=()
def tw2538735100573705821:=()
def tw7797252781826786201:=()
def tw5913130756091407098:=()
def tw5702490101560245708:=()
def tw18322619731847558215:=()
def tw17379736902974101493:=()
def tw2898094286367906174:=()
def tw7552202726167772675:=()
def tw17061539358758657921:=()
def tw540922314571830446:=()
def tw12696477071516965703:=()
def tw6029574034263295580:=()
def tw12700107739148335857:=()
def tw14819103502099526517:=()
def tw6427244295311163228:=()
def tw6775463633094968969:=()
def tw17368985931698695234:=()
def tw8475535317854270771:=()
def tw16420269690498345709:=()
def tw13097543554622522130:=()
def tw8127790629818281281:=()
def tw5864904082526644264:=()
def tw15085255415883707590:=()
def tw11313137919890679294:=()
def tw16152383352044470343:=()
def tw17373098587933790269:=()
def tw16847699998606550298:=()
def tw17646332878449542732:=()
def tw9110500681797541266:=()
def tw10258253224074989831:=()
def tw17426252736319815037:=()
def tw11587324966678080576:=()
def tw685128602880516840:=()
def tw13662746703341247405:=()
def tw13481491520733595386:=()
def tw6111476838286646106:=()
def tw6485186049064869424:=()
def tw15220921926505741958:=()
def tw13011602451965284363:=()
def tw10741099658051227239:=()
def tw8040055929670886515:=()
def tw14238636337182947369:=()
def tw18095710343974004714:=()
def tw15079057346428968472:=()
def tw4164413876226840993:=()
def tw10472328416561539311:=()
def tw3574579635034510451:=()
def tw7469007829016728711:=()
def tw2004448405858059185:=()
def tw6181257125424905333:=()
def tw10657233376449095021:=()
def tw16894032817238684001:=()
def tw13846207360678684576:=()
def tw8945097934273661938:=()
def tw12286609163644582695:=()
def tw7779272513378790650:=()
def tw4887516039788210011:=()
def tw13889151293936103926:=()
def tw7639531746813458427:=()
def tw11491612805256912170:=()
def tw13152387960421240365:=()
def tw1697535123313156808:=()
def tw17803789122122006261:=()
def tw924106327559894301:=()
def tw4880493850037535062:=()
def tw3026619657886178136:=()
def tw12116018751777240988:=()
def tw16251910326509494363:=()
def tw3164064007721708631:=()
def tw1037349577428352018:=()
def tw16966229382370564288:=()
def tw3219366356281142862:=()
def tw8535330079635144201:=()
def tw4848262898806444583:=()
def tw13904782572052384252:=()
def tw8826288307328458056:=()
def tw18234525174223259987:=()
def tw1096491106075707307:=()
def tw7782685338178698617:=()
end PySem.W.Fast
open PySem PySem.W PyProof.Rows
set_option maxRecDepth 100000 in
set_option maxHeartbeats 0 in
theorem PySem.Challenge.cw_firstpowers_k67_the_first_full_way_holds : PySem.Challenge.rw_firstpowers_k67_the_first_full_way.Holds := by
  w_on; o_law; k_head; (case hw => w_witness2)
  k_fill
  refine L2.XE (l := PySem.Challenge.rw_firstpowers_k67_the_first_full_way) (k := 10) (x := "_law_script") rfl rfl ⟨rfl, by decide, by decide, rfl⟩ (fun w h Y => PySem.W.kIn_of Y) ?B ?F
  case B => intro w; kernel_rfl
  case F =>
    intro w mg fa h KX G hmg
    refine' My.Mb KX G hmg ?d0 ?d1 ?d2 ?d3 ?d4 ?d5 ?d6 ?d7 ?d8 ?d9 ?d10 ?d11 ?d12 ?d13 ?d14 ?d15 ?d16 ?d17 ?d18 ?d19 ?d20 ?d21 ?d22 ?d23 ?d24 ?d25 ?v0 ?v1 ?v2 ?z
    case d0 | d1 | d2 | d3 | d4 | d5 | d6 | d7 | d8 | d9 | d10 | d11 | d12 | d13 | d14 | d15 | d16 | d17 | d18 | d19 | d20 | d21 | d22 | d23 | d24 | d25 => refine' L2.RU ?a ?l ?c ?k; (case a => k_is); (case l => k_is); (case c => k_is); (case k => k_is)
    case v0 | v1 | v2 => k_is
    case z => kernel_rfl
