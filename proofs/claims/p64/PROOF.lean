import PyProof.Rows.All
import Wide.All
import OpenK.AllK
import Wide.FinOn
import Lean
import PyProof.EqAt
import PyProof.EqKinds
import PyProof.TupleCall
import PyProof.Rows.TopTwo
import KE.KIsAll
import PyProof.ExcAttrAll.ValueError
import KE.KTryMore
import KE.KRevIter
import PyProof.SetRoads
import PySem.Challenge.RW_firstpowers_k64_whole_slow_tables_and_bo
set_option Elab.async false
set_option linter.all false
set_option maxRecDepth 100000
set_option maxHeartbeats 8000000
open List renaming range->G0,getElem?_eq_getElem->G1,length_map->G2,length_range->G5,mem_range->G8,mem_singleton->G9,getElem?_map->P1,length_append->P2,getElem?_eq_some_iff->P3,mem_of_getElem?->P4,getD_eq_getElem?_getD->P5,append_assoc->P6,mem_cons_self->D0,size_toArray->D1,getElem?_append_right->D3,mem_append_right->D4,mem_cons_of_mem->D5,mem_map->D6,mem_append->D9,length_cons->R0,map_map->R3,getElem?_append_left->R4,take_of_length_le->R5,mem_cons->R6,length_take->R7,take_append_drop->R8,all_eq_true->S1,length_reverse->S2,replicate->S4,map_append->S5,map_congr_left->S7,length_drop->S8,getElem_mem->S9,pairwise_append->T0,map_cons->T3,getElem?_range->T5,mem_filter->T6,take_add_one->T8,length_nil->M1,mem_append_left->N0,getElem?_eq_none->N3,mem_of_mem_drop->N7,pairwise_singleton->N8,drop_eq_nil_of_le->B1,getElem?_set_ne->B2,range_succ->B3,append_nil->B7,mem_of_mem_take->B9,idxOf_lt_length_iff->C0,length_filter_le->C5,nil_append->C7,not_mem_nil->C8,flatMap_cons->C9,pairwise_map->F4,getElem_idxOf->F7,getElem_range->F8,length_singleton->L7,mem_reverse->O3,extract_eq_drop_take->O4,pairwise_iff_getElem->O6,getLastD_eq_getLast?->O7,getLast?_eq_getElem?->O8,flatMap_append->O9,getElem_of_mem->A0,all_map->A6,filter_append->A8,lookup_cons->E1,filter_cons_of_pos->E2,getElem?_cons_zero->E3,range_succ_eq_map->E5,drop_sublist->E6,reverse_perm->E8,replicate_succ->E9,getElem?_reverse->J1,cons_append->J4,drop_append_of_le_length->J7,take_append_of_le_length->J8,filter_cons_of_neg->K2,nodup_cons->K3,getElem_map->K7,zip_cons_cons->K8,drop_drop->Q1,take_sublist->Q9,flatten_cons->U1,map_nil->U2,ext_getElem?->U9,nodup_append->V1,length_pos_iff->V7,length_eq_zero_iff->W0,ext_getElem->W1,any_eq_true->W3,length->W4,eq_nil_of_length_eq_zero->W5,pairwise_cons->W9,getElem?_drop->X0,length_zip->X3,perm_append_comm->X6,getElem?_zipIdx->Y2,take_length->Y8,getElem?_take_of_lt->Z9,sum_cons->aB,of_mem_zip->aD,mem_filterMap->aH,getElem?_cons_succ->aR,getElem?_set_self->aS,getElem?_set->aV,any_map->aX,drop_zero->aY,filter_congr->a9,pairwise_reverse->bB,all_cons->bG,map_id->bK,getElem?_of_mem->bM,forIn_cons->bQ,filterMap_cons->bW,mem_map_of_mem->bX,take_zero->cS,drop_eq_getElem_cons->cX,getElem?_eq_none_iff->cY,zip_nil_left->dB,getElem_drop->dI,mapM_toArray->dJ,length_erase_of_mem->dL,getElem?_replicate->dN,range'_succ->dP,perm_middle->dQ,nodup_range->dR,map->dS,all_toArray->dX,mem_flatMap->dY,length_pos_of_mem->eU,not_of_lt_findIdx->eZ,length_eq_one_iff->e9,filter_eq_nil_iff->fC,sum_append->fE,filter_nil->fG,getElem?_toArray->fI,countP_le_length->fJ,countP_eq_length->fL,mem_erase_of_ne->fV,drop_take->fZ,take_take->f7,getLast?_concat->f8,countP_pos_iff->gE,take_succ_cons->gF,any_cons->gK,map_take->gL,map_drop->gM,zip_nil_right->gU,Nodup->g7,append_of_mem->g9,getElem?_inj->iM,getElem_take->iO,countP_cons->j5,getElem_set->j6,append_cons->j8,foldl_cons->lF,idxOf_cons->lM,filter_map->lW,foldl->mE,forIn_nil->mK,nodup_nil->mN,zip_map->nI,range'->nW
open PySem renaming Value->G3,Shared->G6,wpAny_pure->P7,FuncData->D8,Program->S3,wpAny_mono->S6,Around->M7,World->N2,wpAny_truthy_bool->B8,wpAny_call_entry->L5,wpAny_pyIter_list->A1,wpAny_holding->A2,wpAny_callSpecial?_slot->A9,wpAny_pyIter_tuple->J5,Scope->J6,PyData->K5,IsPair->Q0,wpAny_passesOwn->Q5,wpAny_newObj_type->Q8,Keyword->U0,wpAny_pyIter_enum->U8,wpAny_letOwnedTupleGo_enum->Y1,wpAny_standAt->Z8,wpAny_setField_rec->aK,wpAny_pyNext_enum_itemD->aP,wpAny_pyNext_enum_endD->aZ,wpAny_rule->bD,Comprehension->bF,wpAny_execs_nil->bO,wpAny_Call_Name_kw->cJ,call_meets->cL,wpAny_binaryOp_repeat_ref->cV,CmpOp->dA,noFill_tuple_add->dO,IsPart->dZ,typeIs_int->eJ,wpAny_Call_method_late->eO,wpAny_loadName_local->fN,lookup_relabel_local->fO,wpAny_updateSeq_pair->fT,codeAny_call_builtin->fU,wpAny_pyIter_revIter->fX,PassesOwn->gA,wpAny_loadName_cell->gB,seq_tuple_add->gI,wpAny_newList->gO,wpAny_Constant_int->gR,wpAny_call->gS,IsEnum->gY,Operator->hZ,codeAny_mono->iB,concat_meets->iC,wpAny_sequenceKey->iD,wpAny_typeOf->iF,seqIndex_neg->iG,wpAny_isNot_plain->iJ,wpAny_eqBool_int->iY,wpAny_execs_cons->i4,wpAny_forIn_list->i6,wpAny_isInstance->i9,wpAny_field->k5,seqIndex_of->k9,wpAny_of_eq->lA,wpAny_loadPart'->lD,pushCells_keeps->lH,codeAny_of_tree->lI,wpAny_stack_any->lN,BindsTo->l7,Model->l8,wpAny_Name->l9,wpAny_bindName->mB,fitsIndex_both->mF,wpAny_is_plain->mG,wpAny_setField->mJ,wpAny_newTuple->mL,rangeSize_one->mP,intBits_le_64->mQ,evalPart_none->mS,eval_ListComp->mT,sub_enumerate->mU,wpAny_onRaise->mV,wpAny_attempt->mW,call_range_1->m8,name_of_addr->m9,IsRangeIter->nS,sizeLine_eq->nV,typeIs_str->oH,TypeCalled->oI,Result->oP,Params->oQ
open PySem.Heap renaming get?_push_of_some->G7,lt_size->P9,get?_push_size->D7,size_push->V9,get?_update_self->X5,SameBut->Y5,get?_update_ne->b9,get?_update_other->eI,ExtBut->lC,IsTuple->nF
open Nat renaming le_refl->P0,le_of_lt->R1,le_trans->R9,ne_of_lt->S0,lt_of_lt_of_le->T1,zero_le->T4,lt_irrefl->N6,lt_of_le_of_ne->C1,mod_lt->F9,lt_succ_self->L6,mod_eq_of_lt->O0,zero_add->A7,ne_of_gt->E4,lt_of_succ_lt->E7,lt_succ_of_lt->J9,le_of_eq->K4,add_assoc->K6,min_eq_left->Q6,div_add_mod->Q7,lt_or_ge->V2,min_le_right->V8,lt_trans->W6,mul_succ->W8,eq_zero_or_pos->X1,le_add_left->X4,one_pos->Y3,add_comm->Y6,le_of_not_lt->Y7,le_add_right->Y9,add_zero->Z0,add_le_add_left->Z7,gcd->aG,lt_of_le_of_lt->aI,not_lt->aJ,sub_lt->aL,pos_of_ne_zero->aM,mul_add->aQ,mul_comm->aU,lt_of_succ_le->aW,succ_le_of_lt->bA,succ_le_succ->bE,pow_le_pow_right->bJ,strongRecOn->bS,not_lt_zero->bT,add_sub_cancel'->bZ,succ_mul->cB,sub_self->cE,le_succ->dD,dvd_add_right->dF,add_mod_right->dG,add_mod->dH,add_sub_cancel_left->dW,dvd_of_mod_eq_zero->e6,le_mul_of_pos_left->e7,mul_zero->e8,le_div_iff_mul_le->fM,mul_le_mul->fS,one_mul->fY,mul_le_mul_left->gG,sub_add_cancel->g8,gcd_zero_right->hO,sub_zero->iK,sub_pos_of_lt->iN,mul_mod_right->iP,zero_mul->iQ,lt_trichotomy->iR,gcd_zero_left->iT,min_eq_right->i8,lt_of_not_le->j7,max_eq_left->lR,mod_add_div->lV,add_le_add->mM,pow_succ->nH,zero_mod->nJ,le_total->nM,gcd_comm->nN,add_mul->n8,mod_mod->n9,mod_one->oB,sub_le->oJ,succ->oT
open PyProof.Rows renaming Keyed->P8,SortSt->T9,boot_all->B0,callWith_type1->C4,IntsAre->A5,slot_tuple_getitem->I0,assignInOrder_cons->cF,AllBare->c9,subscriptTail_builtinR->eG,lt_int->gC,entry_tuple_getitem->gD,IsTup->gH,tupleItemsOf_->gJ,args_tuple_getitem->gV,assignInOrder_nil->iA,callWith_builtin1->i5,boot_isinstance->lJ,entry_list_sort->lL,get?_update_seq->lS,oneTypeOnly'_eq->lU,slicePart_none->mD,slot_list_sort->mH,args_list_sort->mI,listUpdate_at->mX,isTrue_plain->m5,plain_sorted->nB,entry_sorted->nC,args_sorted1->nD,listItems_at->nK,Call_->nU,kind_sorted->nX,seqEpoch_at->oA,recsOf->oC,isTrue_and->oE,boot_range->oF,Subscript_->oG
open Bool renaming false_ne_true->D2,eq_iff_iff->T7,and_eq_true->M6,eq_false_iff->X8,or_eq_true->aE,true_and->bI,noConfusion->dU,or_eq_false_iff->fP,false_eq_true->gW,false_and->mC
open Option.some renaming inj->M0,injEq->K0
open Or renaming inl->M5,inr->F6
open PySem.PyData renaming eqv->M8,eqvAll->B6,canLay0->H0,depthAll->L0,canLayAll0->L8,depth->U6,int->W7
open Array renaming length_toList->M9,toList_append->N4,getElem?_toList->N9,toList_push->U4,toList_extract->V0,toList_reverse->bL,isEmpty_eq_false_iff->cP,getElem?_eq_none_iff->cQ,getElem?_eq_some_iff->cR,toList_setIfInBounds->cT,size_setIfInBounds->dM,getElem?_eq_none->eT,isEmpty_iff->iI,toList->m7
open PySem.PassesOwn renaming never->N5
open Function renaming comp_apply->C6,comp_def->X7
open Classical renaming byContradiction->F5
open PySem.NameKind renaming free->L9,cell->V6
open PySem.Builtin.SmallTypes renaming nextOf->O5,stopIteration->U7,ownedTupleIsFree->gP
open PySem.AutoSeq1 renaming wpAny_loadPart'->A3,sub_tuple_tuple->mR
open Ne renaming symm->A4
open Decidable renaming byContradiction->J0,not_not->oN
open PySem.Value renaming type->J3,bool->V3,ref->aO,int->bC,none->gQ,str->iW,float->nQ
open PySem.F renaming slot_tuple_iterator_next->K9,slot_int_rmul->bP,args_tuple_iterator_next_1->bR,entry_tuple_iterator_next->cC,entry_enumerate_new->fH,called_enumerate->gZ,args_int_rmul_2->iH,entry_int_rmul->i7,fills_int_mul->lG,slot_zip_next->lO,slot_zip_iter->lQ,called_zip->nG
open PySem.Builtin.Slice renaming slicePlaces->Q4,sliceAdjust->Z5,sliceApplied->cK,slicePartIndex->lE,sliceFields->mO
open PyProof.Rows.LCg renaming lst->U3
open Int renaming le_refl->U5,natCast_emod->Z4,natCast_add->aF,natCast_sub->bU,emod_nonneg->bV,toNat_of_nonneg->bY,fdiv_eq_ediv_of_nonneg->cG,fmod_eq_emod_of_nonneg->cH,emod_lt_of_pos->cU,toNat_natCast->dE,mul_comm->eS,mul_nonneg->fQ,lt_of_lt_of_le->gX,pow_pos->lB,natCast_mul->lK,toNat->mZ,le_of_lt->nE,ne_of_gt->nO,mul_pos->nY,pow_add->nZ
open PySem.Builtin.Tuple renaming tupleExact->V4,tupleItemsOf->X9,tupleIsExact->cN,tupleTooMany->cO,tupleHashOf->cW,tupleCompareSizes->iU
open PySem.Obj renaming mapSeq->V5,mapFields->bH
open ForInStep renaming yield->X2,done->oR
open Std.Legacy.Range renaming forIn_eq_forIn_range'->Y0,size->nP
open Sum renaming inr->Y4,inl->cZ
open PySem.Heap.SameBut renaming update->Z6,refl->oM
open PySem.Builtin.List renaming listTooLong->aA,listFitsIndex->cM
open List.Perm renaming eq_of_pairwise->aC,trans->fF,append->j9,cons_inv->oK,filter->oO,cons->oS,nil->oU
open PySem.SetTable renaming sizeAbove->aN
open PySem.Str renaming ofString->aT,empty->mY
open True renaming intro->cI
open PySem.Walks renaming list->eQ,tuple->n5
namespace L2
open PySem PySem.Spec PyProof.Rows
abbrev Key:=Sum Int Str
def Tj:Key->G3->Bool
 | .inl k,v=>Value.isInt k v
 | .inr x,v=>Value.isStrOf x v
def qA (w:N2):Key->Int
 | .inl k=>hashInt k
 | .inr x=>hashStr w x
theorem zf: ∀ {k:Key} {v:G3},Tj k v=true->(∃i t,k=cZ i/\v=bC i t)\/(∃x t,k=Y4 x/\v=iW x t)
 | .inl i,v,h=>by
  obtain⟨t,e⟩:=Value.isInt_shape (k:=i) (v:=v) h;exact .inl ⟨i,t,rfl,e⟩
 | .inr x,v,h=>by
  obtain⟨t,e⟩:=Value.isStrOf_shape (x:=x) (v:=v) h;exact .inr ⟨x,t,rfl,e⟩
theorem Tk (a b:Int):decide ((cZ a:Key)=cZ b)=(a==b):=by
 by_cases e:a=b
 ·subst e;simp
 ·have h: ¬ (cZ a:Key)=cZ b:=λq=>e (Sum.inl.inj q)
  rw [decide_eq_false h];exact(beq_eq_false_iff_ne.mpr e).symm
theorem Tl (a b:Str):decide ((Y4 a:Key)=Y4 b)=decide (a=b):=by
 by_cases e:a=b
 ·subst e;simp
 ·have h: ¬ (Y4 a:Key)=Y4 b:=λq=>e (Sum.inr.inj q)
  rw [decide_eq_false h,decide_eq_false e]
theorem Tn (a:Int)(b:Str):decide ((cZ a:Key)=Y4 b)=false:=decide_eq_false (λq=>nomatch q)
theorem To (a:Str)(b:Int):decide ((Y4 a:Key)=cZ b)=false:=decide_eq_false (λq=>nomatch q)
def NB (prog:S3)(w:N2):PySem.KeyKind prog w Key where
 is:=Tj
 hash:=qA w
 inj:=λv a b ha hb=>by
  rcases zf ha with ⟨i,t,rfl,rfl⟩|⟨x,t,rfl,rfl⟩
  ·rcases zf hb with ⟨j,u,rfl,e⟩|⟨y,u,rfl,e⟩
   ·injection e with e1 _;rw [e1]
   ·exact nomatch e
  ·rcases zf hb with ⟨j,u,rfl,e⟩|⟨y,u,rfl,e⟩
   ·exact nomatch e
   ·injection e with e1 _;rw [e1]
 byValue:=λk v h=>by
  rcases zf h with ⟨i,t,rfl,rfl⟩|⟨x,t,rfl,rfl⟩<;>rfl
 pyHash:=λhv h=>by
  rcases zf hv with ⟨i,t,rfl,rfl⟩|⟨x,t,rfl,rfl⟩
  ·exact wpAny_pyHash_int h
  ·exact wpAny_pyHash_str h
 eqBool:=λhu hv h=>by
  rcases zf hu with ⟨i,t,rfl,rfl⟩|⟨x,t,rfl,rfl⟩
  ·rcases zf hv with ⟨j,u,rfl,rfl⟩|⟨y,u,rfl,rfl⟩
   ·rw [Tk] at h;exact iY h
   ·rw [Tn] at h;exact SeqAt.EqAt.int_str i t y u _ _ _ _ h
  ·rcases zf hv with ⟨j,u,rfl,rfl⟩|⟨y,u,rfl,rfl⟩
   ·rw [To] at h;exact SeqAt.EqAt.str_int x t j u _ _ _ _ h
   ·rw [Tl] at h;exact wpAny_eqBool_str h
 «strs» :=λk x t v h=>by
  rcases zf h with ⟨i,u,rfl,e⟩|⟨y,u,rfl,e⟩
  ·exact nomatch e
  ·injection e with e1 _
   subst e1;cases v<;>rfl
inductive V where
 |non|bl (b:Bool)|int (i:Int)|str (x:Str)|byt (b:Array UInt8)|flt (b:UInt64)|ref (a:Addr)|ty (n:String)
 deriving DecidableEq
def RelV:V->G3->Prop
 | .non,u=>u=gQ
 | .bl b,u=>u=V3 b
 | .int i,u=> ∃t,u=bC i t
 | .str x,u=> ∃t,u=iW x t
 | .byt b,u=> ∃t,u=Value.bytes b t
 | .flt b,u=> ∃t,u=nQ b t
 | .ref a,u=>u=aO a
 | .ty n,u=>u=J3 n
abbrev Vals:List V->List G3->Prop:=Paired RelV
theorem Vals.length {xs:List V}{us:List G3}(r:Vals xs us):xs.length=us.length:=Paired.length r
theorem Vals.get: ∀ {xs:List V} {us:List G3} {i:Nat} {x:V},Vals xs us->xs[i]? =some x-> ∃u,us[i]? =some u/\RelV x u
 |_,_,_,_,.nil,e=>by simp at e
 |_,_,0,_,.cons r _,e=>by simp at e;subst e;exact⟨_,rfl,r⟩
 |_,_,i+1,x,.cons _ t,e=>by
  obtain⟨u,h1,h2⟩:=Vals.get (i:=i) (x:=x) t (by simpa using e);exact⟨u,by simpa using h1,h2⟩
variable {u:G3}
theorem Vals.set {x:V}(r:RelV x u): ∀ {xs:List V} {us:List G3} (i:Nat),Vals xs us->Vals (xs.set i x) (us.set i u)
 |_,_,_,.nil=> .nil
 |_,_,0,.cons _ t=> .cons r t
 |_,_,i+1,.cons q t=> .cons q (Vals.set r i t)
theorem Vals.append: ∀ {xs ys:List V} {us ws:List G3},Vals xs us->Vals ys ws->Vals (xs++ys) (us++ws)
 |_,_,_,_,.nil,s=>s
 |_,_,_,_,.cons r t,s=> .cons r (Vals.append t s)
theorem Vals.take: ∀ {xs:List V} {us:List G3} (n:Nat),Vals xs us->Vals (xs.take n) (us.take n)
 |_,_,0,_=> .nil
 |_,_,_+1,.nil=> .nil
 |_,_,n+1,.cons r t=> .cons r (Vals.take n t)
theorem Vals.drop: ∀ {xs:List V} {us:List G3} (n:Nat),Vals xs us->Vals (xs.drop n) (us.drop n)
 |_,_,0,r=>r
 |_,_,_+1,.nil=> .nil
 |_,_,n+1,.cons _ t=>Vals.drop n t
def kD:Option V->Option G3->Prop
 |some v,some u=>RelV v u
 |none,none=>True
 |_,_=>False
def KV {κ:Type}:List (κ×V)->List (κ×G3)->Prop:=Paired λ(p:κ×V) (q:κ×G3)=>p.1=q.1/\RelV p.2 q.2
def kV:Key->V
 | .inl i=> .int i
 | .inr x=> .str x
inductive HO where
 /-- a list -/
 |lst (xs:List V)
 /-- a tuple (never changes) -/
 |tup (xs:List V)
 /-- a dict whose keys are ints and texts;one whose keys are tuples of ints and texts (the empty one is both) -/
 |dK (kvs:List (Key×V))|dT (kvs:List (List Key×V))
 /-- a set of ints: its members,its size -/
 |set (S:Int->Bool) (n:Nat)
 /-- an instance of the class at C,its dict at dx,its attributes -/
 |ins (C dx:Addr) (fs:List (Str×V))
 /-- the dict of the instance at x -/
 |own (x:Addr)
 /-- the dict of an exception -/
 |xd (fs:List (Str×V))
 /-- a bound method,f of x -/
 |met (f x:Addr)
 /-- a range object lo,lo+1,.. below hi -/
 |rng (lo hi:Int)
 /-- a thing that is known to the object (the script;a dict while a loop walks it):read,never written while it is so -/
 |frz (o:Obj) (u:HO)
 /-- a code object's table -/
 |tbl (ps:Array G3)
 /-- any other thing,by what is true of its one object (a def of one's own: SetO a S n:=HO.ext λh=> ..) -/
 |ext (φ:Heap->Prop)
abbrev Hp:=Addr->Option HO
def upd (H:Hp)(a:Addr)(o:HO):Hp:=λb=>if b=a then some o else H b
variable {H:Hp}{a:Addr}{o:HO}
theorem jy:upd H a o a=some o:=by unfold upd;rw [if_pos rfl]
variable {b:Addr}
theorem jx (h:b≠a):upd H a o b=H b:=by unfold upd;rw [if_neg h]
theorem Mh {u:HO}(h:H a=some o)(h':H b=some u)(d:o≠u):a≠b:=by
 intro e;subst e;rw [h] at h';exact d (M0 h')
theorem jt (h:H a=some o)(h':H b=none):a≠b:=by
 intro e;subst e;rw [h] at h';cases h'
def IsTupN (h:Heap)(a:Addr)(items:Array G3):Prop:= ∃o,h.get? a=some o/\o.cls= .type "tuple" /\o.dict=none/\ ∃n,o.data= .seq items n
theorem IsTupN.tup {h:Heap}{a:Addr}{items:Array G3}(x:IsTupN h a items):gH h a items:=let ⟨o,e,c,_,n,d⟩:=x;⟨o,e,c,n,d⟩
theorem IsTupN.new (h:Heap)(items:Array G3):IsTupN (h.push {cls:= .type "tuple",data:= .seq items}) h.objs.size items:=⟨_,D7 _ rfl,rfl,rfl,_,rfl⟩
section
variable (P:S3)(w:N2)
def ObjOk (H:Hp)(h:Heap)(a:Addr):HO->Prop
 | .lst xs=>xs.length<=sizeLine/\ ∃ (its:List G3) (n:Nat),Vals xs its/\h.get? a=some {cls:= .type "list",data:= .seq its.toArray n}
 | .tup xs=>xs.length<=sizeLine/\ ∃its:List G3,Vals xs its/\IsTupN h a its.toArray
 | .dK kvs=>kvs.length<=sizeLine/\(a==sysModules)=false/\ ∃vs,KV kvs vs/\h.DictOf (NB P w) a vs
 | .dT kvs=>kvs.length<=sizeLine/\(a==sysModules)=false/\ ∃xs:List (List Key×Addr×G3),
  Paired (λ(p:List Key×V) (q:List Key×Addr×G3)=>p.1=q.1/\H q.2.1=some (.tup (p.1.map kV))/\RelV p.2 q.2.2) kvs xs/\
  ∃o es ep,h.get? a=some o/\o.ExactDict/\o.data= .dict es ep/\es.toList=xs.map (entryOfKey (tupleKind (NB P w)))/\(xs.map (·.1)).Nodup
 | .set S n=>h.SetOf (intKind P w) a S n
 | .ins C dx fs=>H dx=some (.own a)/\fs.length<=1000/\dx≠a/\h.get? a=some (PySem.W.instObj C dx)/\
  ∃mA,h.Ns1 dx mA/\(∀f,kD (fs.lookup f) (mA f))/\PySem.Within mA (fs.map (·.1))
 | .own _=> ∃o,h.get? a=some o
 | .xd fs=> ∃mA,h.Ns1 a mA/\ ∀f,kD (fs.lookup f) (mA f)
 | .rng lo hi=> ∃t u v,h.get? a=some {cls:= .type "range",data:= .fields #[.int lo t,.int hi u,.int 1 v]}
 | .frz o u=>h.get? a=some o/\ObjOk H h a u
 | .tbl ps=>h.get? a=some {cls:= .none,data:= .fields ps}
 | .met f x=>h.get? a=some (PySem.W.methodObj (.ref f) (.ref x))
 | .ext φ=>φ h/\(∃o,h.get? a=some o)/\ ∀h1 h2:Heap,φ h1->(∀o,h1.get? a=some o->h2.get? a=some o)->φ h2
def HOk (H:Hp)(h:Heap):Prop:= ∀a o,H a=some o->ObjOk P w H h a o
end
section
variable {P:S3}{w:N2}{H H':Hp}{h h':Heap}{a:Addr}{o:HO}
theorem ObjOk.lt (x:ObjOk P w H h a o):a<h.objs.size:=by
 cases o with
 |lst xs=>obtain⟨_,_,_,_,e⟩:=x;exact P9 e
 |tup xs=>obtain⟨_,_,_,p⟩:=x;exact p.tup.lt
 |dK kvs=>obtain⟨_,_,_,_,o,_,_,e,_⟩:=x;exact P9 e
 |dT kvs=>obtain⟨_,_,_,_,o,_,_,e,_⟩:=x;exact P9 e
 |set S n=>obtain⟨o,_,_,_,e,_⟩:=x;exact P9 e
 |ins C dx fs=>obtain⟨_,_,_,e,_⟩:=x;exact P9 e
 |own y=>obtain⟨_,e⟩:=x;exact P9 e
 |xd fs=>obtain⟨_,⟨_,_,_,e,_⟩,_⟩:=x;exact P9 e
 |rng lo hi=>obtain⟨_,_,_,e⟩:=x;exact P9 e
 |frz ob u=>obtain⟨e,_⟩:=x;exact P9 e
 |tbl ps=>exact P9 (show h.get? a=some _ from x)
 |met f y=>exact P9 (show h.get? a=some _ from x)
 |ext φ=>obtain⟨_,⟨_,e⟩,_⟩:=x;exact P9 e
theorem Paired.mapP {α β:Type}{F G:α->β->Prop}: ∀ {pY:List α} {pZ:List β},Paired F pY pZ->(∀a b,F a b->G a b)->Paired G pY pZ
 |_,_,.nil,_=> .nil
 |_,_,.cons r t,f=> .cons (f _ _ r) (Paired.mapP t f)
theorem ObjOk.stay (x:ObjOk P w H h a o)(k: ∀b u,(b=a\/H b=some (.own a))->h.get? b=some u->h'.get? b=some u)
 (ho: ∀b,H b=some (.own a)->H' b=some (.own a))(ht: ∀b xs,H b=some (.tup xs)->H' b=some (.tup xs)):ObjOk P w H' h' a o:=by
 induction o with
 |lst xs=>obtain⟨z,its,n,r,e⟩:=x;exact⟨z,its,n,r,k _ _ (.inl rfl) e⟩
 |tup xs=>obtain⟨z,its,r,ob,e,c⟩:=x;exact⟨z,its,r,ob,k _ _ (.inl rfl) e,c⟩
 |dK kvs=>obtain⟨z,y,vs,r,ob,es,ep,e,c⟩:=x;exact⟨z,y,vs,r,ob,es,ep,k _ _ (.inl rfl) e,c⟩
 |dT kvs=>
  obtain⟨z,y,xs,r,ob,es,ep,e,c⟩:=x;exact⟨z,y,xs,Paired.mapP r λp q z=>⟨z.1,ht _ _ z.2.1,z.2.2⟩,ob,es,ep,k _ _ (.inl rfl) e,c⟩
 |set S n=>obtain⟨ob,es,ep,t,e,c⟩:=x;exact⟨ob,es,ep,t,k _ _ (.inl rfl) e,c⟩
 |ins C dx fs=>
  obtain⟨d,z,ne,e,mA,⟨od,es,ep,e2,c⟩,r⟩:=x;exact⟨ho _ d,z,ne,k _ _ (.inl rfl) e,mA,⟨od,es,ep,k _ _ (.inr d) e2,c⟩,r⟩
 |own y=>obtain⟨ob,e⟩:=x;exact⟨ob,k _ _ (.inl rfl) e⟩
 |xd fs=>obtain⟨mA,⟨od,es,ep,e,c⟩,r⟩:=x;exact⟨mA,⟨od,es,ep,k _ _ (.inl rfl) e,c⟩,r⟩
 |rng lo hi=>obtain⟨t,u,v,e⟩:=x;exact⟨t,u,v,k _ _ (.inl rfl) e⟩
 |frz ob u ih=>obtain⟨e,q⟩:=x;exact⟨k _ _ (.inl rfl) e,ih q⟩
 |tbl ps=>
  have e:h.get? a=some {cls:= .none,data:= .fields ps}:=x;show h'.get? a=some {cls:= .none,data:= .fields ps};exact k a _ (.inl rfl) e
 |met f y=>
  have e:h.get? a=some (PySem.W.methodObj (.ref f) (.ref y)):=x;show h'.get? a=some (PySem.W.methodObj (.ref f) (.ref y));exact k a _ (.inl rfl) e
 |ext φ=>obtain⟨p,⟨o,e⟩,st⟩:=x;exact⟨st _ _ p λo q=>k _ _ (.inl rfl) q,⟨o,k _ _ (.inl rfl) e⟩,st⟩
theorem HOk.lt (x:HOk P w H h)(e:H a=some o):a<h.objs.size:=(x a o e).lt
theorem HOk.fresh (x:HOk P w H h)(e:h.objs.size<=a):H a=none:=by
 cases q:H a with
 |none=>rfl
 |some u=>exact absurd (T1 (x.lt q) e) (N6 _)
theorem HOk.kept (x:HOk P w H h)(k: ∀b u,h.get? b=some u->h'.get? b=some u):HOk P w H h':=λa o e=>
 (x a o e).stay (λb u _ q=>k b u q) (λ_ q=>q) λ_ _ q=>q
theorem HOk.laid (x:HOk P w H h)(k: ∀b u,h.get? b=some u->h'.get? b=some u)(hp:h.objs.size<=a)(new:ObjOk P w (upd H a o) h' a o):HOk P w (upd H a o) h':=λb u e=>by
 have hn:=x.fresh hp
 by_cases hb:b=a
 ·subst hb;rw [jy] at e;cases e;exact new
 ·rw [jx hb] at e;exact(x b u e).stay (λc v _ q=>k c v q) (λc q=>by rw [jx (jt q hn)];exact q) λc xs q=>by rw [jx (jt q hn)];exact q
end
def Rd (H:Hp)(a:Addr)(u:HO):Prop:=H a=some u\/ ∃o,H a=some (.frz o u)
variable {P:S3}{w:N2}{h:Heap}
theorem Rd.ok {u:HO}(r:Rd H a u)(x:HOk P w H h):ObjOk P w H h a u:=by
 rcases r with r|⟨o,r⟩
 ·exact x a u r
 ·obtain⟨_,q⟩:=x a _ r;exact q
def Mut:Option HO->Prop
 |some (.lst _)=>True
 |some (.dK _)=>True
 |some (.dT _)=>True
 |some (.set _ _)=>True
 |some (.ins _ _ _)=>True
 |some (.ext _)=>True
 |_=>False
section
variable {P:S3}{w:N2}{H:Hp}{h h':Heap}{x e:Addr}{o':HO}
theorem HOk.write (ok:HOk P w H h)(mu:Mut (H x))(he:e=x\/H e=some (.own x))(k: ∀b u,b≠e->h.get? b=some u->h'.get? b=some u)(heo: ∃u,h'.get? e=some u)
 (new:ObjOk P w (upd H x o') h' x o'):HOk P w (upd H x o') h':=λb u q=>by
 have nown: ∀c y,H c=some (.own y)->c≠x:=λc y r z=>by subst z;rw [r] at mu;exact mu
 have ntup: ∀c xs,H c=some (.tup xs)->c≠x:=λc xs r z=>by subst z;rw [r] at mu;exact mu
 by_cases hb:b=x
 ·subst hb;rw [jy] at q;cases q;exact new
 ·rw [jx hb] at q
  by_cases hbe:b=e
  ·have q':H b=some (.own x):=by
    rcases he with z|z
    ·exact absurd (hbe.trans z) hb
    ·rw [hbe];exact z
   rw [q] at q';cases q';obtain⟨v,hv⟩:=heo;exact⟨v,by rw [hbe];exact hv⟩
  ·refine(ok b u q).stay (λc v hc r=>k c v ?_ r) (λc r=>by rw [jx (nown c b r)];exact r) λc xs r=>by rw [jx (ntup c xs r)];exact r
   rcases hc with rfl|hc
   ·exact hbe
   ·rintro rfl;rcases he with z|z
    ·exact nown c b hc z
    ·rw [hc] at z;cases z;exact hb rfl
end
structure Un (fs ex:List Addr)(H H':Hp)(h h':Heap):Prop where
 keep: ∀b o,h.get? b=some o->H b=none->b ∉ fs->b ∉ ex->h'.get? b=some o
 slot: ∀b o,h.get? b=some o->H b=none->b∈fs->b ∉ ex-> ∃sl,h'.get? b=some {o with slots:=sl}
 free: ∀b o,h.get? b=some o->H b=none->b ∉ ex->H' b=none
 there: ∀b o,h.get? b=some o->b ∉ ex-> ∃o',h'.get? b=some o'
 tups: ∀b xs,H b=some (.tup xs)->H' b=some (.tup xs)
 frzs: ∀b o u,H b=some (.frz o u)->H' b=some (.frz o u)
 tbls: ∀b ps,H b=some (.tbl ps)-> ∃more,H' b=some (.tbl (ps++more))
section
variable {fs fs' ex ex':List Addr}{H H1 H2:Hp}{h h1 h2 h':Heap}{a x e:Addr}{o:HO}
theorem Un.any (u:Un fs ex H H1 h h1){b:Addr}{ob:Obj}(q:h.get? b=some ob)(n:H b=none)(hx:b ∉ ex): ∃sl,h1.get? b=some {ob with slots:=sl}:=by
 by_cases hb:b∈fs
 ·exact u.slot b ob q n hb hx
 ·exact⟨ob.slots,u.keep b ob q n hb hx⟩
theorem Un.kept (k: ∀b u,h.get? b=some u->h'.get? b=some u):Un fs ex H H h h':=
 ⟨λb ob q _ _ _=>k b ob q,λb ob q _ _ _=>⟨ob.slots,k b ob q⟩,λ_ _ _ n _=>n,λb ob q _=>⟨ob,k b ob q⟩,λ_ _ q=>q,λ_ _ _ q=>q,λ_ ps q=>⟨#[],by rw [q];simp⟩⟩
theorem Un.refl:Un fs ex H H h h:=Un.kept λ_ _ q=>q
theorem Un.laid (k: ∀b u,h.get? b=some u->h'.get? b=some u)(hp:h.objs.size<=a)(hn:H a=none):Un fs ex H (upd H a o) h h' where
 keep:=λb u q _ _ _=>k b u q
 slot:=λb u q _ _ _=>⟨u.slots,k b u q⟩
 free:=λb u q n _=>by rw [jx (S0 (T1 (P9 q) hp))];exact n
 there:=λb u q _=>⟨u,k b u q⟩
 tups:=λb xs q=>by rw [jx (jt q hn)];exact q
 frzs:=λb u xs q=>by rw [jx (jt q hn)];exact q
 tbls:=λb ps q=>⟨#[],by rw [jx (jt q hn),q];simp⟩
theorem Un.write (mu:Mut (H x))(he:e=x\/H e=some (.own x))(k: ∀b u,b≠e->h.get? b=some u->h'.get? b=some u)(heo: ∃u,h'.get? e=some u):Un fs ex H (upd H x o) h h':=by
 have hx: ∀b,H b=none->b≠x:=λb n z=>by subst z;rw [n] at mu;exact mu
 have hb: ∀b,H b=none->b≠e:=λb n z=>by
  subst z;rcases he with r|r
  ·exact hx b n r
  ·rw [n] at r;cases r
 have hm: ∀b u,H b=some u-> ¬Mut (some u)->b≠x:=λb u q nm z=>by subst z;rw [q] at mu;exact nm mu
 refine⟨λb u q n _ _=>k b u (hb b n) q,λb u q n _ _=>⟨u.slots,k b u (hb b n) q⟩,λb u q n _=>by rw [jx (hx b n)];exact n,λb u q _=> ?_,
  λb xs q=>by rw [jx (hm b _ q λz=>z)];exact q,λb u xs q=>by rw [jx (hm b _ q λz=>z)];exact q,λb ps q=>⟨#[],by rw [jx (hm b _ q λz=>z),q];simp⟩⟩
 by_cases hbe:b=e
 ·subst hbe;exact heo
 ·exact⟨u,k b u hbe q⟩
end
def trk (h:Heap)(H:Hp):List Addr:=(G0 h.objs.size).filter λa=>(H a).isSome
def FI (h:Heap)(H:Hp):Heap:=PySem.W.hideAll h (trk h H)
theorem NC (h:Heap)(H:Hp):(FI h H).objs.size=h.objs.size:=PySem.W.hideAll_size _ _
theorem XD {o:Obj}(e:h.get? b=some o)(n:H b=none):(FI h H).get? b=some o:=
 PySem.W.hideAll_get _ e λhm=>by
  have q:(H b).isSome=true:=(T6.mp hm).2;rw [n] at q;simp at q
theorem AC {o:Obj}(e:(FI h H).get? b=some o):h.get? b=some o/\H b=none:=by
 have e':h.get? b=some o:=PySem.W.of_hideAll (trk h H) e;refine⟨e',?_⟩;cases q:H b with
 |none=>rfl
 |some x=>
  have hm:b∈trk h H:=T6.mpr ⟨G8.mpr (P9 e'),by simp [q]⟩;have z:(FI h H).get? b=none:=PySem.W.hideAll_none (trk h H) hm;rw [z] at e;cases e
def AD (g h:Heap)(L:Addr):List (Addr×Obj):=(G0 h.objs.size).filterMap λa=>if a=L\/(g.get? a).isSome=true then none else (h.get? a).map λo=>(a,o)
def rest (g h:Heap)(L d:Addr):List (Addr×Obj):=(AD g h L).filter λp=>decide (p.1≠d)
structure Mod (K:PySem.W.Frag)(mg:Str->Option G3)(base:Heap):Prop where
 kin:K.In base
 glob:base.Ns mainGlobals mg
 blt: ∃mb,base.Ns builtinsNs mb/\ ∀x:Str,x≠ "__name__" ->mb x=bootBuiltins x
 nolimit:base.NoLimit
structure Cx where
 prog:S3
 w:N2
 K:PySem.W.Frag
 mg:Str->Option G3
 base:Heap
 A:M7
 N:List Str
 s₀:G6
 H₀:Hp
 env:Env
 outer:List Env
 stack:List Env
 ex:List Addr
 fn:Str->Bool
 calm:Bool
 pn:List (Addr×Obj)
 xe:G3->G6->Prop
def frs (l:List Env):List Addr:=l.filterMap (·.frame)
abbrev Cx.fs (X:Cx):List Addr:=frs X.outer
def Vis (sc:J6)(x:Str):Prop:=sc.names.lookup x=some .local\/sc.names.lookup x=some .cell\/sc.names.lookup x=some .free
def Loc (sc:J6)(x:Str):Prop:=sc.names.lookup x=some .local\/sc.names.lookup x=some .cell
def qB (env:Env)(h:Heap)(m:Str->Option G3)(x:Str)(u:G3):Prop:=
 (env.kindOf x=some .local/\m x=some u)\/((env.kindOf x=some .cell\/env.kindOf x=some .free)/\ ∃c,env.cells.lookup x=some c/\h.IsCell c (some u))
structure Cx.Ok (X:Cx):Prop where
 mod:Mod X.K X.mg X.base
 kind:X.env.scope.kind= .function
 glob:X.env.globals=mainGlobals
 blt:X.env.builtins=builtinsNs
 above:X.s₀.heap.objs.size<=X.env.locals
 inj: ∀x y c,X.env.cells.lookup x=some c->X.env.cells.lookup y=some c->x=y
 has: ∀x,(X.env.kindOf x=some .cell\/X.env.kindOf x=some .free)-> ∃c,X.env.cells.lookup x=some c
 cab: ∀x c,X.fn x=true->X.env.cells.lookup x=some c->X.s₀.heap.objs.size<=c
 hd:X.calm=true->X.A.handled=none
 frames:X.A.frames=some X.stack
 stk:X.stack=X.outer\/(X.stack=X.env::X.outer/\X.env.frame=some X.env.locals)
 exf: ∀b∈X.ex,b≠X.env.locals/\ ∀x c,X.env.cells.lookup x=some c->c≠b
 bs: ∀b o,X.base.get? b=some o->X.s₀.heap.get? b=some o/\X.H₀ b=none
 bsz:X.base.objs.size<=X.s₀.heap.objs.size
 noex: ∀b o,X.base.get? b=some o->b ∉ X.ex
 exfs: ∀b∈X.ex,b ∉ X.fs
 funs:X.s₀.heap.FunFrames X.base X.outer
 frf: ∀b∈X.fs,X.H₀ b=none
structure Inv (X:Cx)(pins:List (Addr×Obj))(σ:List (Option V))(H:Hp)(s:G6):Prop where
 ok:X.Ok
 os:s.os=X.s₀.os
 bare:c9 s.gens
 base:Un X.fs X.ex X.H₀ H X.s₀.heap s.heap
 loc: ∃m,s.heap.Ns X.env.locals m/\ ∀ (i:Nat) (x:Str) (v:V),X.N[i]? =some x->σ[i]? =some (some v)->Vis X.env.scope x-> ∃u,RelV v u/\qB X.env s.heap m x u
 cell: ∀x c,X.env.cells.lookup x=some c-> ∃v,s.heap.IsCell c v
 free:H X.env.locals=none
 freeC: ∀x c,X.env.cells.lookup x=some c->H c=none
 pin: ∀p∈X.pn++pins,s.heap.get? p.1=some p.2/\H p.1=none/\p.1≠X.env.locals/\p.1 ∉ X.fs/\ ∀v,p.2.data≠ .cell v
 hok:HOk X.prog X.w H s.heap
 len:σ.length=X.N.length
section
variable {X:Cx}{pins:List (Addr×Obj)}{σ:List (Option V)}{H H':Hp}{s:G6}{h':Heap}
theorem Cx.Ok.nofr (ok:X.Ok){b:Addr}{o:Obj}(e:X.base.get? b=some o):b ∉ X.fs:=λhb=>by
 have:=(ok.funs.mem hb).1;rw [e] at this;cases this
theorem Inv.bs (I:Inv X pins σ H s): ∀b o,X.base.get? b=some o->s.heap.get? b=some o/\H b=none:=λb o e=>
 ⟨I.base.keep b o (I.ok.bs b o e).1 (I.ok.bs b o e).2 (I.ok.nofr e) (I.ok.noex b o e),I.base.free b o (I.ok.bs b o e).1 (I.ok.bs b o e).2 (I.ok.noex b o e)⟩
theorem Inv.bk (I:Inv X pins σ H s): ∀b o,X.base.get? b=some o->s.heap.get? b=some o:=λb o e=>(I.bs b o e).1
theorem Inv.mod (I:Inv X pins σ H s):Mod X.K X.mg X.base:=I.ok.mod
theorem Inv.kIn (I:Inv X pins σ H s):X.K.In s.heap:=I.ok.mod.kin.keeps I.bk
theorem Inv.lt (I:Inv X pins σ H s):X.env.locals<s.heap.objs.size:=let ⟨_,hn,_⟩:=I.loc;hn.lt
theorem Inv.sz (I:Inv X pins σ H s):X.s₀.heap.objs.size<=s.heap.objs.size:=R9 I.ok.above (R1 I.lt)
theorem Inv.nofs (I:Inv X pins σ H s){a:Addr}(h:s.heap.objs.size<=a):a ∉ X.fs:=λhb=>by
 obtain⟨_,o,ho,_⟩:=I.ok.funs.mem hb;exact absurd (T1 (P9 ho) (R9 I.sz h)) (N6 _)
theorem Inv.cne (I:Inv X pins σ H s): ∀x c,X.env.cells.lookup x=some c->c≠X.env.locals:=λx c e z=>by
 obtain⟨v,o,ho,hd⟩:=I.cell x c e;obtain⟨m,⟨o',es,ep,ho',hd',_⟩,_⟩:=I.loc;rw [z,ho'] at ho;cases ho;rw [hd'] at hd;cases hd
theorem Inv.funs (I:Inv X pins σ H s):s.heap.FunFrames X.base X.outer:=by
 have all: ∀ (l:List Env),(∀b∈frs l,b∈X.fs)->X.s₀.heap.FunFrames X.base l->s.heap.FunFrames X.base l:=by
  intro l
  induction l with
  |nil=>intro _ _;trivial
  |cons env r ih=>
   intro hs hl;obtain⟨hk,⟨L,o,hf,hn,ho,hd⟩,hr⟩:=hl;have hL:L∈X.fs:=hs L (by unfold frs;rw [bW,hf];exact D0);obtain⟨sl,e⟩:=I.base.slot L o ho (I.ok.frf L hL) hL λz=>I.ok.exfs L z hL
   exact⟨hk,⟨L,_,hf,hn,e,hd⟩,ih (λb hb=>hs b (by unfold frs;rw [bW,hf];exact D5 _ hb)) hr⟩
 exact all X.outer (λ_ hb=>hb) I.ok.funs
theorem Inv.stack (I:Inv X pins σ H s):s.heap.FunFrames X.base X.stack:=by
 rcases I.ok.stk with e|⟨e,hf⟩
 ·rw [e];exact I.funs
 ·rw [e];obtain⟨m,hn,_⟩:=I.loc;refine .cons (by rw [I.ok.kind];decide) hf hn ?_ I.funs;exact Heap.get?_none_of_le (R9 I.ok.bsz I.ok.above)
theorem Inv.stkSub (I:Inv X pins σ H s): ∀b∈frs X.stack,b∈X.env.locals::X.fs:=λb hb=>by
 rcases I.ok.stk with e|⟨e,hf⟩
 ·rw [e] at hb;exact D5 _ hb
 ·rw [e] at hb;unfold frs at hb;rw [bW,hf] at hb;exact hb
theorem Inv.stkFree (I:Inv X pins σ H s): ∀b∈frs X.stack,H b=none:=λb hb=>by
 rcases R6.mp (I.stkSub b hb) with e|hb
 ·rw [e];exact I.free
 ·obtain⟨_,o,ho,_⟩:=I.ok.funs.mem hb;exact I.base.free b o ho (I.ok.frf b hb) λz=>I.ok.exfs b z hb
variable {t':Nat}
theorem Inv.step {g':Array GenState}{d':Drawn}{ch:List Addr}(I:Inv X pins σ H s)
 (hch: ∀b∈ch,(b∈X.ex\/X.s₀.heap.objs.size<=b)/\b≠X.env.locals/\(∀x c,X.env.cells.lookup x=some c->c≠b)/\ ∀p∈X.pn++pins,p.1≠b)
 (keep: ∀b o,b≠X.env.locals->b ∉ X.fs->b ∉ ch->s.heap.get? b=some o->H b=none->h'.get? b=some o)
 (slot: ∀b o,b≠X.env.locals->b∈X.fs->b ∉ ch->s.heap.get? b=some o->H b=none-> ∃sl,h'.get? b=some {o with slots:=sl})(free: ∀b o,b ∉ ch->s.heap.get? b=some o->H b=none->H' b=none)
 (there: ∀b o,b ∉ ch->s.heap.get? b=some o-> ∃o',h'.get? b=some o')
 (tups: ∀b xs,H b=some (.tup xs)->H' b=some (.tup xs))(frzs: ∀b o u,H b=some (.frz o u)->H' b=some (.frz o u))(tbls: ∀b ps,H b=some (.tbl ps)-> ∃more,H' b=some (.tbl (ps++more)))
 (ns: ∀m,s.heap.Ns X.env.locals m->h'.Ns X.env.locals m)(hok:HOk X.prog X.w H' h')(hg:c9 g'):
 Inv X pins σ H' {s with heap:=h',gens:=g',drawn:=d',toks:=t'}:=by
 have neL: ∀b o,X.s₀.heap.get? b=some o->b≠X.env.locals:=λb o e=>S0 (T1 (P9 e) I.ok.above)
 have neC: ∀b o,X.s₀.heap.get? b=some o->b ∉ X.ex->b ∉ ch:=λb o e hx hb=>by
  rcases (hch b hb).1 with z|z
  ·exact hx z
  ·exact absurd (T1 (P9 e) z) (N6 _)
 have cellK: ∀x c,X.env.cells.lookup x=some c-> ∀v,s.heap.IsCell c v->h'.IsCell c v:=λx c e v ⟨o,ho,hd⟩=>by
  have nch:c ∉ ch:=λz=>(hch c z).2.2.1 x c e rfl
  by_cases hc:c∈X.fs
  ·obtain⟨sl,q⟩:=slot c o (I.cne x c e) hc nch ho (I.freeC x c e);exact⟨_,q,hd⟩
  ·exact⟨o,keep c o (I.cne x c e) hc nch ho (I.freeC x c e),hd⟩
 refine⟨I.ok,I.os,hg,⟨λb o e n hb hx=> ?_,λb o e n hb hx=> ?_,λb o e n hx=> ?_,λb o e hx=> ?_,λb xs e=>tups b xs (I.base.tups b xs e),λb o xs e=>frzs b o xs (I.base.frzs b o xs e),λb ps e=> ?_⟩,?_,λx c e=> ?_,?_,λx c e=> ?_,λp hp=> ?_,hok,I.len⟩
 ·exact keep b o (neL b o e) hb (neC b o e hx) (I.base.keep b o e n hb hx) (I.base.free b o e n hx)
 ·obtain⟨sl,e1⟩:=I.base.slot b o e n hb hx;obtain⟨sl',e2⟩:=slot b _ (neL b o e) hb (neC b o e hx) e1 (I.base.free b o e n hx);exact⟨sl',e2⟩
 ·obtain⟨o',e1⟩:=I.base.there b o e hx;exact free b o' (neC b o e hx) e1 (I.base.free b o e n hx)
 ·obtain⟨o',e1⟩:=I.base.there b o e hx;exact there b o' (neC b o e hx) e1
 ·obtain⟨m1,e1⟩:=I.base.tbls b ps e;obtain⟨m2,e2⟩:=tbls b _ e1;exact⟨m1++m2,by rw [e2,Array.append_assoc]⟩
 ·obtain⟨m,hn,hl⟩:=I.loc;refine⟨m,ns m hn,λi x v e1 e2 e3=> ?_⟩;obtain⟨u,r,l⟩:=hl i x v e1 e2 e3;refine⟨u,r,?_⟩;rcases l with l|⟨k,c,e,z⟩
  ·exact .inl l
  ·exact .inr ⟨k,c,e,cellK x c e _ z⟩
 ·obtain⟨v,z⟩:=I.cell x c e;exact⟨v,cellK x c e v z⟩
 ·obtain⟨m,⟨o,_,_,ho,_⟩,_⟩:=I.loc;exact free _ o (λz=>(hch _ z).2.1 rfl) ho I.free
 ·obtain⟨v,o,ho,hd⟩:=I.cell x c e;exact free c o (λz=>(hch c z).2.2.1 x c e rfl) ho (I.freeC x c e)
 ·obtain⟨e,n,ne,nf,d⟩:=I.pin p hp;have nch:p.1 ∉ ch:=λz=>(hch p.1 z).2.2.2 p hp rfl
  exact⟨keep p.1 p.2 ne nf nch e n,free p.1 p.2 nch e n,ne,nf,d⟩
theorem Inv.un (I:Inv X pins σ H s)(u:Un X.fs [] H H' s.heap h')(hok:HOk X.prog X.w H' h'):Inv X pins σ H' {s with heap:=h',toks:=t'}:=by
 obtain⟨m,⟨o,es,ep,ho,r⟩,_⟩:=id I.loc;obtain⟨sl,hL⟩:=u.any ho I.free (by simp);exact I.step (g':=s.gens) (d':=s.drawn) (ch:= []) (λ_ z=>nomatch z) (λb o _ hb _ e n=>u.keep b o e n hb (by simp)) (λb o _ hb _ e n=>u.slot b o e n hb (by simp)) (λb o _ e n=>u.free b o e n (by simp)) (λb o _ e=>u.there b o e (by simp)) u.tups u.frzs u.tbls (λm' hm=>by
  obtain⟨o',es',ep',ho',r'⟩:=hm;rw [ho] at ho';cases ho';exact⟨_,es',ep',hL,r'⟩) hok I.bare
theorem Inv.call {g':Array GenState}{d':Drawn}{ch:List Addr}(I:Inv X pins σ H s)(u:Un (frs X.stack) ch H H' s.heap h')(hok:HOk X.prog X.w H' h')(hg:c9 g')
 (hch: ∀b∈ch,(b∈X.ex\/X.s₀.heap.objs.size<=b)/\b≠X.env.locals/\(∀x c,X.env.cells.lookup x=some c->c≠b)/\ ∀p∈X.pn++pins,p.1≠b):
 Inv X pins σ H' {s with heap:=h',gens:=g',drawn:=d',toks:=t'}:=by
 obtain⟨m,⟨o,es,ep,ho,r⟩,_⟩:=id I.loc;obtain⟨sl,hL⟩:=u.any ho I.free λz=>(hch _ z).2.1 rfl
 exact I.step (ch:=ch) hch (λb o hL hb hc e n=>u.keep b o e n (λz=>(R6.mp (I.stkSub b z)).elim hL hb) hc) (λb o _ _ hc e n=>u.any e n hc) (λb o hc e n=>u.free b o e n hc) (λb o hc e=>u.there b o e hc) u.tups u.frzs u.tbls (λm' hm=>by
  obtain⟨o',es',ep',ho',r'⟩:=hm;rw [ho] at ho';cases ho';exact⟨_,es',ep',hL,r'⟩) hok hg
theorem Inv.turned {it:Addr}(I:Inv X pins σ H s)(k: ∀b o,b≠it->s.heap.get? b=some o->h'.get? b=some o)(hn:H it=none)(hL:it≠X.env.locals)
 (h1:it∈X.ex\/X.s₀.heap.objs.size<=it)(h2: ∀x c,X.env.cells.lookup x=some c->c≠it)(h3: ∀p∈X.pn++pins,p.1≠it):Inv X pins σ H {s with heap:=h',toks:=t'}:=by
 have nit: ∀b u,H b=some u->b≠it:=λb u e z=>by rw [z,hn] at e;cases e
 refine I.step (g':=s.gens) (d':=s.drawn) (ch:= [it]) (λb hb=> ?_) (λb o _ _ hc e _=>k b o (λz=>hc (by simp [z])) e) (λb o _ _ hc e _=>⟨o.slots,k b o (λz=>hc (by simp [z])) e⟩) (λ_ _ _ _ n=>n)
  (λb o hc e=>⟨o,k b o (λz=>hc (by simp [z])) e⟩) (λ_ _ e=>e) (λ_ _ _ e=>e) (λb ps e=>⟨#[],by rw [e];simp⟩) (λm hm=> ?_) (λb u e=> ?_) I.bare
 ·have e:b=it:=by simpa using hb
  subst e;exact⟨h1,hL,h2,h3⟩
 ·obtain⟨o,es,ep,ho,r⟩:=hm;exact⟨o,es,ep,k _ o (A4 hL) ho,r⟩
 ·refine(I.hok b u e).stay (λc v hc q=>k c v ?_ q) (λ_ q=>q) λ_ _ q=>q
  rcases hc with z|z
  ·rw [z];exact nit b u e
  ·exact nit c _ z
theorem Inv.tok (I:Inv X pins σ H s)(t:Nat):Inv X pins σ H {s with toks:=t}:=I.un (h':=s.heap) (t':=t) Un.refl I.hok
theorem Inv.kept (I:Inv X pins σ H s)(k: ∀b u,s.heap.get? b=some u->h'.get? b=some u):Inv X pins σ H {s with heap:=h',toks:=t'}:=I.un (Un.kept k) (I.hok.kept k)
theorem Inv.laid {a:Addr}{o:HO}(I:Inv X pins σ H s)(k: ∀b u,s.heap.get? b=some u->h'.get? b=some u)(hp:s.heap.objs.size<=a)(new:ObjOk X.prog X.w (upd H a o) h' a o):
 Inv X pins σ (upd H a o) {s with heap:=h',toks:=t'}:=I.un (Un.laid k hp (I.hok.fresh hp)) (I.hok.laid k hp new)
theorem Inv.write {x e:Addr}{o:HO}(I:Inv X pins σ H s)(mu:Mut (H x))(he:e=x\/H e=some (.own x))(k: ∀b u,b≠e->s.heap.get? b=some u->h'.get? b=some u)(heo: ∃u,h'.get? e=some u)
 (new:ObjOk X.prog X.w (upd H x o) h' x o):Inv X pins σ (upd H x o) {s with heap:=h',toks:=t'}:=I.un (Un.write mu he k heo) (I.hok.write mu he k heo new)
theorem Inv.weak {oV:List (Option V)}(I:Inv X pins σ H s)(hl:oV.length=σ.length)(w: ∀ (i:Nat) v,oV[i]? =some (some v)->σ[i]? =some (some v)):Inv X pins oV H s:=
 ⟨I.ok,I.os,I.bare,I.base,let ⟨m,hn,hl'⟩:=I.loc;⟨m,hn,λi x v e1 e2 e3=>hl' i x v e1 (w i v e2) e3⟩,I.cell,I.free,I.freeC,I.pin,I.hok,hl.trans I.len⟩
theorem Inv.pins_of {pins':List (Addr×Obj)}(I:Inv X pins σ H s)(h: ∀p∈pins',s.heap.get? p.1=some p.2/\H p.1=none/\p.1≠X.env.locals/\p.1 ∉ X.fs/\ ∀v,p.2.data≠ .cell v):Inv X pins' σ H s:=
 ⟨I.ok,I.os,I.bare,I.base,I.loc,I.cell,I.free,I.freeC,λp hp=>(D9.mp hp).elim (λz=>I.pin p (N0 _ z)) (h p),I.hok,I.len⟩
theorem Re {N:List Str}(hN:N.Nodup){i j:Nat}{x:Str}(a:N[i]? =some x)(b:N[j]? =some x):i=j:=by
 obtain⟨h1,e1⟩:=P3.mp a;obtain⟨h2,e2⟩:=P3.mp b;exact(List.getElem_inj hN).mp (e1.trans e2.symm)
theorem ND {M:l8}{A:M7}{E:G3->G6->Prop}{i:Nat}{x:Str}{v:V}{u:G3}{Q:Unit->G6->Prop}(I:Inv X pins σ H s)(hN:X.N.Nodup)(hi:X.N[i]? =some x)(hx:Loc X.env.scope x)(r:RelV v u)
 (h: ∀s',Inv X pins (σ.set i (some v)) H s'->(∃a,Y5 a s.heap s'.heap/\(a=X.env.locals\/X.env.cells.lookup x=some a))->Q () s')(hf:X.fn x=true\/X.env.scope.names.lookup x=some .local:=by first|exact .inl rfl|exact .inr rfl|assumption):wpAny M A (storeName X.env x u) Q E s:=by
 obtain⟨m,hn,hl⟩:=id I.loc;have hcls:(X.env.scope.kind== .class||(X.env.scope.kind== .module&&X.env.locals !=X.env.globals))=false:=by rw [I.ok.kind];rfl
 have p0:i<σ.length:=by rw [I.len];exact(P3.mp hi).1
 have cne:=I.cne;have tracked: ∀ {a:Addr} {h':Heap},(∃o,s.heap.get? a=some o/\H a=none)->Y5 a s.heap h'->HOk X.prog X.w H h':=λ{a h'} ha hs b ob e=>by
  obtain⟨_,_,hfree⟩:=ha;refine(I.hok b ob e).stay (λc w' hc q=>(hs.2 c ?_).trans q) (λ_ q=>q) λ_ _ q=>q
  rintro rfl;rcases hc with rfl|hc
  ·rw [hfree] at e;cases e
  ·rw [hfree] at hc;cases hc
 rcases hx with hk|hk
 ·refine wpAny_storeName_local hk hn (λh' hn' hs=> ?_) hcls;obtain⟨oL,_,_,hoL,_⟩:=id hn;refine h _ ⟨I.ok,I.os,I.bare,⟨λb o e n hb hx=> ?_,λb o e n hb hx=> ?_,I.base.free,λb o e hx=> ?_,I.base.tups,I.base.frzs,I.base.tbls⟩,⟨_,hn',λj y v' e1 e2 e3=> ?_⟩,λy c e=> ?_,I.free,I.freeC,λp hp=> ?_,tracked ⟨oL,hoL,I.free⟩ hs,by simpa using I.len⟩ ⟨_,hs,.inl rfl⟩
  ·exact(hs.2 b (S0 (T1 (P9 e) I.ok.above))).trans (I.base.keep b o e n hb hx)
  ·obtain⟨sl,e1⟩:=I.base.slot b o e n hb hx;exact⟨sl,(hs.2 b (S0 (T1 (P9 e) I.ok.above))).trans e1⟩
  ·obtain⟨o',e1⟩:=I.base.there b o e hx;exact⟨o',(hs.2 b (S0 (T1 (P9 e) I.ok.above))).trans e1⟩
  ·by_cases hj:j=i
   ·subst hj;rw [hi] at e1;cases e1;rw [aS p0] at e2;cases e2;exact⟨u,r,.inl ⟨hk,by simp⟩⟩
   ·rw [B2 (A4 hj)] at e2;obtain⟨u',r',q⟩:=hl j y v' e1 e2 e3;refine⟨u',r',?_⟩;rcases q with ⟨k,e⟩|⟨k,c,e,z⟩
    ·refine .inl ⟨k,?_⟩;have:y≠x:=λe=>hj (Re hN e1 (e ▸ hi))
     simp [this,e]
    ·exact .inr ⟨k,c,e,z.sameBut hs (cne y c e)⟩
  ·obtain⟨w',z⟩:=I.cell y c e;exact⟨w',z.sameBut hs (cne y c e)⟩
  ·obtain⟨e,n,ne,nf,d⟩:=I.pin p hp;exact⟨(hs.2 p.1 ne).trans e,n,ne,nf,d⟩
 ·have hfn:X.fn x=true:=by
   rcases hf with z|z
   ·exact z
   ·rw [z] at hk;cases hk
  obtain⟨c,hc⟩:=I.ok.has x (.inl hk);obtain⟨w',z⟩:=I.cell x c hc;refine wpAny_storeName_cell I.ok.kind hk hc z (λh' hc' hs=> ?_);obtain⟨oc,hoc,hocd⟩:=id z;refine h {s with heap:=h'} ⟨I.ok,I.os,I.bare,⟨λb o e n hb hx=> ?_,λb o e n hb hx=> ?_,I.base.free,λb o e hx=> ?_,I.base.tups,I.base.frzs,I.base.tbls⟩,⟨m,hn.sameBut hs (A4 (cne x c hc)),λj y v' e1 e2 e3=> ?_⟩,λy c' e=> ?_,I.free,I.freeC,λp hp=> ?_,tracked ⟨oc,hoc,I.freeC x c hc⟩ hs,by simpa using I.len⟩ ⟨c,hs,.inr hc⟩
  ·exact(hs.2 b (S0 (T1 (P9 e) (I.ok.cab x c hfn hc)))).trans (I.base.keep b o e n hb hx)
  ·obtain⟨sl,e1⟩:=I.base.slot b o e n hb hx;exact⟨sl,(hs.2 b (S0 (T1 (P9 e) (I.ok.cab x c hfn hc)))).trans e1⟩
  ·obtain⟨o',e1⟩:=I.base.there b o e hx;exact⟨o',(hs.2 b (S0 (T1 (P9 e) (I.ok.cab x c hfn hc)))).trans e1⟩
  ·by_cases hj:j=i
   ·subst hj;rw [hi] at e1;cases e1;rw [aS p0] at e2;cases e2;exact⟨u,r,.inr ⟨.inl hk,c,hc,hc'⟩⟩
   ·rw [B2 (A4 hj)] at e2;obtain⟨u',r',q⟩:=hl j y v' e1 e2 e3;refine⟨u',r',?_⟩;rcases q with q|⟨k,c',e,z'⟩
    ·exact .inl q
    ·refine .inr ⟨k,c',e,z'.sameBut hs ?_⟩;rintro rfl;exact hj (Re hN e1 (I.ok.inj _ _ _ e hc ▸ hi))
  ·by_cases hcc:c'=c
   ·subst hcc;exact⟨_,hc'⟩
   ·obtain⟨w2,z2⟩:=I.cell y c' e;exact⟨w2,z2.sameBut hs hcc⟩
  ·obtain⟨e,n,ne,nf,d⟩:=I.pin p hp;refine⟨(hs.2 p.1 ?_).trans e,n,ne,nf,d⟩;intro q;rw [q,hoc] at e;have q':oc=p.2:=M0 e;exact d w' (by rw [<-q'];exact hocd)
theorem Wg {M:l8}{A:M7}{E:G3->G6->Prop}{i:Nat}{x:Str}{v:V}{u:G3}{Q:Unit->G6->Prop}(I:Inv X pins σ H s)(hN:X.N.Nodup)(hi:X.N[i]? =some x)(hx:Loc X.env.scope x)(r:RelV v u)
 (h: ∀s',Inv X pins (σ.set i (some v)) H s'->Q () s')(hf:X.fn x=true\/X.env.scope.names.lookup x=some .local:=by first|exact .inl rfl|exact .inr rfl|assumption):wpAny M A (storeName X.env x u) Q E s:=
 ND I hN hi hx r (λs' I' _=>h s' I') hf
theorem Inv.call' {s':G6}{ch:List Addr}(I:Inv X pins σ H s)(ho:s'.os=s.os)(u:Un (frs X.stack) ch H H' s.heap s'.heap)(hok:HOk X.prog X.w H' s'.heap)(hg:c9 s'.gens)
 (hch: ∀b∈ch,(b∈X.ex\/X.s₀.heap.objs.size<=b)/\b≠X.env.locals/\(∀x c,X.env.cells.lookup x=some c->c≠b)/\ ∀p∈X.pn++pins,p.1≠b):Inv X pins σ H' s':=by
 obtain⟨h',g',d',t',o'⟩:=s';have e:o'=s.os:=ho;subst e;exact I.call (g':=g') (t':=t') (d':=d') u hok hg hch
end
abbrev XK:=G3->Option Addr->Hp->Prop
abbrev St:=List (Option V)
abbrev VK:=V->Hp->Prop
abbrev TE:=St->Hp->VK->Prop
abbrev TT:=St->Hp->(Bool->Hp->Prop)->Prop
abbrev TA:=St->Hp->(List V->Hp->Prop)->Prop
structure Ends where
 nx:St->Hp->Prop
 rt:VK
 bk:St->Hp->Prop:=λ_ _=>False
 ct:St->Hp->Prop:=λ_ _=>False
abbrev TS:=Ends->St->Hp->Prop
def EP (X:Cx)(pins:List (Addr×Obj))(σ:St)(Q:VK)(u:G3)(s':G6):Prop:= ∃v H',Inv X pins σ H' s'/\RelV v u/\Q v H'
def TP (X:Cx)(pins:List (Addr×Obj))(σ:St)(Q:Bool->Hp->Prop)(b:Bool)(s':G6):Prop:= ∃H',Inv X pins σ H' s'/\Q b H'
def AP (X:Cx)(pins:List (Addr×Obj))(σ:St)(Q:List V->Hp->Prop)(us:List G3)(s':G6):Prop:= ∃vs H',Inv X pins σ H' s'/\Vals vs us/\Q vs H'
def SP (X:Cx)(pins:List (Addr×Obj))(D:Ends)(f:Flow)(s':G6):Prop:=
 match f with
 | .next=> ∃oV H',Inv X pins oV H' s'/\D.nx oV H'
 | .brk=> ∃oV H',Inv X pins oV H' s'/\D.bk oV H'
 | .cont=> ∃oV H',Inv X pins oV H' s'/\D.ct oV H'
 | .ret u=> ∃v oV H',Inv X pins oV H' s'/\RelV v u/\D.rt v H'
def PE (X:Cx)(e:Expr)(t:TE):Prop:=
 ∀ (pins:List (Addr×Obj)) (s:G6) (σ:St) (H:Hp) (Q:VK),Inv X pins σ H s->t σ H Q->wpAny (model X.prog X.w) X.A (eval e X.env) (EP X pins σ Q) X.xe s
def PT (X:Cx)(e:Expr)(t:TT):Prop:=
 ∀ (pins:List (Addr×Obj)) (s:G6) (σ:St) (H:Hp) (Q:Bool->Hp->Prop),Inv X pins σ H s->t σ H Q->wpAny (model X.prog X.w) X.A (isTrue e X.env (eval e X.env)) (TP X pins σ Q) X.xe s
def PW (X:Cx)(e:Expr)(t:TT):Prop:=
 ∀ (whole:Sem G3) (pins:List (Addr×Obj)) (s:G6) (σ:St) (H:Hp) (Q:Bool->Hp->Prop),Inv X pins σ H s->t σ H Q->wpAny (model X.prog X.w) X.A (isTrue e X.env whole) (TP X pins σ Q) X.xe s
variable {X:Cx}
theorem PW.pt {e:Expr}{t:TT}(h:PW X e t):PT X e t:=h _
def PA (X:Cx)(es:List Expr)(t:TA):Prop:=
 ∀ (pos:Pos) (pins:List (Addr×Obj)) (s:G6) (σ:St) (H:Hp) (Q:List V->Hp->Prop),Inv X pins σ H s->t σ H Q->wpAny (model X.prog X.w) X.A (spliced (backTo pos (starEach es X.env))) (AP X pins σ Q) X.xe s
def PS (X:Cx)(st:Stmt)(t:TS):Prop:=
 ∀ (pins:List (Addr×Obj)) (s:G6) (σ:St) (H:Hp) (D:Ends),Inv X pins σ H s->t D σ H->wpAny (model X.prog X.w) X.A (exec st X.env) (SP X pins D) X.xe s
def PSs (X:Cx)(st:List Stmt)(t:TS):Prop:=
 ∀ (pins:List (Addr×Obj)) (s:G6) (σ:St) (H:Hp) (D:Ends),Inv X pins σ H s->t D σ H->wpAny (model X.prog X.w) X.A (execs st X.env) (SP X pins D) X.xe s
variable {A:M7}{s:G6}
theorem thn {α:Type}{t:Sem α}{Q Q':α->G6->Prop}{M:l8}{E:G3->G6->Prop}(h:wpAny M A t Q E s)(hQ: ∀a s,Q a s->Q' a s):wpAny M A t Q' E s:=S6 h hQ λ_ _ x=>x
section
variable {X:Cx}
def xr (i:Nat):TE:=λσ H Q=> ∃v,σ[i]? =some (some v)/\Q v H
def tC (v:V):TE:=λ_ H Q=>Q v H
variable {x:Str}
theorem Tp {i:Nat}{pos:Pos}(hN:X.N[i]? =some x)(hv:Vis X.env.scope x)(hd:(x==("__debug__" :Str))=false:=by decide)(hcd:(x==("__classdict__" :Str))=false:=by decide):PE X (.Name x pos) (xr i):=by
 intro pins s σ H Q I h;obtain⟨v,e,h⟩:=h;obtain⟨m,hn,hl⟩:=I.loc;obtain⟨u,r,l⟩:=hl i x v hN e hv;have fin:EP X pins σ Q u s:=⟨v,H,I,r,h⟩;rcases l with ⟨hk,hm⟩|⟨hk,c,hc,hcell⟩
 ·exact l9 (fN I.ok.kind hk hn hm fin) hd
 ·rcases hk with hk|hk
  ·exact l9 (gB I.ok.kind hk hc hcell fin) hd
  ·exact l9 (wpAny_loadName_free I.ok.kind hk hc hcell fin hcd) hd
theorem pe_int {i j pos}:PE X (.Constant (.int i) j pos) (tC (.int i)):=λ_ _ _ H _ I h=>gR ⟨.int i,H,I.tok _,⟨_,rfl⟩,h⟩
theorem pe_bl {b j pos}:PE X (.Constant (.bool b) j pos) (tC (.bl b)):=λ_ _ _ H _ I h=>Constant_bool ⟨.bl b,H,I,rfl,h⟩
theorem pe_non {j pos}:PE X (.Constant .none j pos) (tC .non):=λ_ _ _ H _ I h=>Constant_none ⟨.non,H,I,rfl,h⟩
def Gl (X:Cx)(x:Str):Prop:=X.env.kindOf x=some .globalImplicit
variable {u:G3}
theorem NE {E:G3->G6->Prop}{pins:List (Addr×Obj)}{s:G6}{σ:St}{H:Hp}{pos:Pos}{Q:G3->G6->Prop}(I:Inv X pins σ H s)(hg:Gl X x)(hm:X.mg x=some u)(h:Q u s)
 (hd:(x==("__debug__" :Str))=false:=by decide):wpAny (model X.prog X.w) X.A (eval (.Name x pos) X.env) Q E s:=
 Calls.Name_function_global I.ok.kind hg (Calls.loadGlobal_global (by rw [I.ok.glob];exact I.mod.glob.keeps I.bk) hm h) hd
theorem Zt {E:G3->G6->Prop}{pins:List (Addr×Obj)}{s:G6}{σ:St}{H:Hp}{pos:Pos}{Q:G3->G6->Prop}(I:Inv X pins σ H s)(hg:Gl X x)(hm:X.mg x=none)(hv:bootBuiltins x=some u)(h:Q u s)
 (hn:x≠ "__name__" :=by decide)(hd:(x==("__debug__" :Str))=false:=by decide):wpAny (model X.prog X.w) X.A (eval (.Name x pos) X.env) Q E s:=by
 obtain⟨mb,h1,h2⟩:=I.mod.blt;exact Calls.Name_function_global I.ok.kind hg (Calls.loadGlobal_builtin (by rw [I.ok.glob];exact I.mod.glob.keeps I.bk) hm (by rw [I.ok.blt];exact h1.keeps I.bk) ((h2 x hn).trans hv) h) hd
theorem AE {v:V}{pos:Pos}(hg:Gl X x)(hm:X.mg x=some u)(r:RelV v u)(hd:(x==("__debug__" :Str))=false:=by decide):PE X (.Name x pos) (tC v):=
 λ_ _ _ H _ I h=>NE I hg hm ⟨v,H,I,r,h⟩ hd
theorem AF {v:V}{pos:Pos}(hg:Gl X x)(hm:X.mg x=none)(hv:bootBuiltins x=some u)(r:RelV v u)(hn:x≠ "__name__" :=by decide)(hd:(x==("__debug__" :Str))=false:=by decide):PE X (.Name x pos) (tC v):=
 λ_ _ _ H _ I h=>Zt I hg hm hv ⟨v,H,I,r,h⟩ hn hd
variable {a b:Expr}{ta tb:TE}{pos:Pos}
def tB (t:TE):TT:=λσ H Q=>t σ H λx H1=> ∃c,x= .bl c/\Q c H1
theorem Tq {e:Expr}{t:TE}(h:PE X e t)(he: ∀whole,isTrue e X.env whole=(do let v <-whole;standAt e.pos;holding [v] (truthy v)):=by intro _;rfl):PT X e (tB t):=by
 intro pins s σ H Q I hw;refine m5 (thn (h pins s σ H _ I hw) λv s1 ⟨x,H1,I1,r1,q1⟩=> ?_) (he _);obtain⟨d,rfl,q⟩:=q1;cases r1;exact B8 ⟨H1,I1,q⟩
variable {tA tB':TT}{rest:List Expr}
def xt (t u:TT):TT:=λσ H Q=>t σ H λc H1=>if c=true then u σ H1 Q else Q false H1
def tOr (t u:TT):TT:=λσ H Q=>t σ H λc H1=>if c=true then Q true H1 else u σ H1 Q
def xu (t:TT):TT:=λσ H Q=>t σ H λc H1=>Q (!c) H1
theorem AG (ha:PT X a tA):PW X (.BoolOp .And [a] pos) tA:=by
 intro wh pins s σ H Q I h;refine oE (thn (ha pins s σ H Q I h) λc s1 e=> ?_);cases c with
 |true=>exact isTrue_and_nil e
 |false=>exact e
theorem Tr (ha:PT X a tA):PW X (.BoolOp .Or [a] pos) tA:=by
 intro wh pins s σ H Q I h;refine isTrue_or (thn (ha pins s σ H Q I h) λc s1 e=> ?_);cases c with
 |false=>exact isTrue_or_nil e
 |true=>exact e
theorem Ts (ha:PT X a tA)(hb:PW X (.BoolOp .And (b::rest) pos) tB'):PW X (.BoolOp .And (a::b::rest) pos) (xt tA tB'):=by
 intro wh pins s σ H Q I h;refine oE (thn (ha pins s σ H _ I h) λc s1 ⟨H1,I1,q1⟩=> ?_);cases c with
 |true=>exact hb wh pins s1 σ H1 Q I1 q1
 |false=>exact⟨H1,I1,q1⟩
theorem kE (ha:PT X a tA)(hb:PW X (.BoolOp .Or (b::rest) pos) tB'):PW X (.BoolOp .Or (a::b::rest) pos) (tOr tA tB'):=by
 intro wh pins s σ H Q I h;refine isTrue_or (thn (ha pins s σ H _ I h) λc s1 ⟨H1,I1,q1⟩=> ?_);cases c with
 |true=>exact⟨H1,I1,q1⟩
 |false=>exact hb wh pins s1 σ H1 Q I1 q1
theorem Tt (ha:PT X a tA):PT X (.UnaryOp .Not a pos) (xu tA):=by
 intro pins s σ H Q I h;exact isTrue_not (ha pins s σ H (λc H1=>Q (!c) H1) I h)
def Tu (ta tb:TE):TE:=λσ H Q=>ta σ H λx H1=> ∃c,x= .bl c/\if c=true then tb σ H1 Q else Q (.bl false) H1
def xv (ta tb:TE):TE:=λσ H Q=>ta σ H λx H1=> ∃c,x= .bl c/\if c=true then Q (.bl true) H1 else tb σ H1 Q
def Tv (ta:TE):TE:=λσ H Q=>ta σ H λx H1=> ∃c,x= .bl c/\Q (.bl (!c)) H1
theorem Tw {op}{t:TE}(h:PE X a t):PE X (.BoolOp op [a] pos) t:=λpins s σ H Q I hw=>BoolOp_one (h pins s σ H Q I hw)
theorem Tx (ha:PE X a ta)(hb:PE X (.BoolOp .And (b::rest) pos) tb):PE X (.BoolOp .And (a::b::rest) pos) (Tu ta tb):=by
 intro pins s σ H Q I h;refine BoolOp_and (thn (ha pins s σ H _ I h) λv s1 ⟨x,H1,I1,r1,q1⟩=> ?_);obtain⟨c,rfl,q1⟩:=q1;cases r1;refine B8 ?_;cases c with
 |true=>exact hb pins s1 σ H1 Q I1 q1
 |false=>exact⟨.bl false,H1,I1,rfl,q1⟩
theorem kG (ha:PE X a ta)(hb:PE X (.BoolOp .Or (b::rest) pos) tb):PE X (.BoolOp .Or (a::b::rest) pos) (xv ta tb):=by
 intro pins s σ H Q I h;refine BoolOp_or (thn (ha pins s σ H _ I h) λv s1 ⟨x,H1,I1,r1,q1⟩=> ?_);obtain⟨c,rfl,q1⟩:=q1;cases r1;refine B8 ?_;cases c with
 |false=>exact hb pins s1 σ H1 Q I1 q1
 |true=>exact⟨.bl true,H1,I1,rfl,q1⟩
theorem Ty (ha:PE X a ta):PE X (.UnaryOp .Not a pos) (Tv ta):=by
 intro pins s σ H Q I h;refine UnaryOp_ (thn (ha pins s σ H _ I h) λv s1 ⟨x,H1,I1,r1,q1⟩=> ?_);obtain⟨c,rfl,q1⟩:=q1;cases r1;exact not_of (B8 ⟨.bl (!c),H1,I1,rfl,q1⟩)
def tIf (t:TT)(ta tb:TE):TE:=λσ H Q=>t σ H λc H1=>if c=true then ta σ H1 Q else tb σ H1 Q
theorem FJ {c:Expr}(hc:PT X c tA)(ha:PE X a ta)(hb:PE X b tb):PE X (.IfExp c a b pos) (tIf tA ta tb):=by
 intro pins s σ H Q I h;refine wpAny_IfExp (thn (hc pins s σ H _ I h) λd s1 ⟨H1,I1,q1⟩=> ?_);cases d with
 |true=>exact ha pins s1 σ H1 Q I1 q1
 |false=>exact hb pins s1 σ H1 Q I1 q1
end
def SqL (K:PySem.W.Frag)(H:Hp)(a:Addr)(xs:List V):Prop:=
 Rd H a (.lst xs)\/
  ∃ (o:Obj) (its:Array G3) (n:Nat),K.lookup a=some o/\o.cls= .type "list" /\o.dict=none/\o.data= .seq its n/\its.size<=sizeLine/\Vals xs its.toList
def SqT (K:PySem.W.Frag)(H:Hp)(a:Addr)(xs:List V):Prop:=
 Rd H a (.tup xs)\/
  ∃ (o:Obj) (its:Array G3) (n:Nat),K.lookup a=some o/\o.cls= .type "tuple" /\o.data= .seq its n/\its.size<=sizeLine/\Vals xs its.toList
def qC:G3->Option V
 | .none=>some .non
 | .bool b=>some (.bl b)
 | .int i _=>some (.int i)
 | .str x _=>some (.str x)
 | .bytes b _=>some (.byt b)
 | .float b _=>some (.flt b)
 | .ref a=>some (.ref a)
 | .type n=>some (.ty n)
 |_=>none
theorem RelV.abs {x:V}(r:RelV x u):qC u=some x:=by
 cases x with
 |non=>cases r;rfl
 |bl _=>cases r;rfl
 |int _=>obtain⟨t,rfl⟩:=r;rfl
 |str _=>obtain⟨t,rfl⟩:=r;rfl
 |byt _=>obtain⟨t,rfl⟩:=r;rfl
 |flt _=>obtain⟨t,rfl⟩:=r;rfl
 |ref _=>cases r;rfl
 |ty _=>cases r;rfl
theorem RelV.inj {x y:V}(r:RelV x u)(q:RelV y u):x=y:=M0 (r.abs.symm.trans q.abs)
theorem Vals.inj: ∀ {xs ys:List V} {us:List G3},Vals xs us->Vals ys us->xs=ys
 |_,_,_,.nil,.nil=>rfl
 |_,_,_,.cons r t,.cons r' t'=>by rw [r.inj r',Vals.inj t t']
section
variable {X:Cx}{pins:List (Addr×Obj)}{σ:St}{H:Hp}{s:G6}{a:Addr}{xs ys:List V}
theorem SqL.of {K:PySem.W.Frag}(h:H a=some (.lst xs)):SqL K H a xs:= .inl (.inl h)
theorem SqT.of {K:PySem.W.Frag}(h:H a=some (.tup xs)):SqT K H a xs:= .inl (.inl h)
theorem Inv.list (I:Inv X pins σ H s)(h:SqL X.K H a xs): ∃its:List G3,Vals xs its/\PlainL s.heap a its.toArray/\xs.length<=sizeLine:=by
 rcases h with h|⟨o,its,n,hk,hc,hd,hs,hz,r⟩
 ·obtain⟨z,its,n,r,e⟩:=h.ok I.hok;exact⟨its,r,⟨_,n,e,rfl,rfl,rfl⟩,z⟩
 ·refine⟨its.toList,r,⟨o,n,I.kIn a o hk,hc,hd,by simpa using hs⟩,?_⟩;have e:=r.length;simp only [M9] at e;omega
theorem Inv.tuple (I:Inv X pins σ H s)(h:SqT X.K H a xs): ∃its:List G3,Vals xs its/\gH s.heap a its.toArray/\xs.length<=sizeLine:=by
 rcases h with h|⟨o,its,n,hk,hc,hs,hz,r⟩
 ·obtain⟨z,its,r,p⟩:=h.ok I.hok;exact⟨its,r,p.tup,z⟩
 ·refine⟨its.toList,r,⟨o,I.kIn a o hk,hc,n,by simpa using hs⟩,?_⟩;have e:=r.length;simp only [M9] at e;omega
theorem Inv.list_inj (I:Inv X pins σ H s)(h:SqL X.K H a xs)(h':SqL X.K H a ys):xs=ys:=by
 obtain⟨its,r,⟨o,n,e,_,_,d⟩,_⟩:=I.list h;obtain⟨its',r',⟨o',n',e',_,_,d'⟩,_⟩:=I.list h';rw [e] at e';cases e';rw [d] at d';injection d' with d1 _
 have:its=its':=by simpa using congrArg m7 d1
 subst this;exact r.inj r'
theorem Inv.tuple_inj (I:Inv X pins σ H s)(h:SqT X.K H a xs)(h':SqT X.K H a ys):xs=ys:=by
 obtain⟨its,r,⟨o,e,_,n,d⟩,_⟩:=I.tuple h;obtain⟨its',r',⟨o',e',_,n',d'⟩,_⟩:=I.tuple h';rw [e] at e';cases e';rw [d] at d';injection d' with d1 _
 have:its=its':=by simpa using congrArg m7 d1
 subst this;exact r.inj r'
end
abbrev Cx.wish (X:Cx)(E:G3->G6->Prop):Cx:= {X with xe:=E}
abbrev Cx.nox (X:Cx):Cx:=X.wish λ_ _=>False
theorem Cx.Ok.wish (ok:X.Ok)(E:G3->G6->Prop):(X.wish E).Ok:=
 ⟨ok.mod,ok.kind,ok.glob,ok.blt,ok.above,ok.inj,ok.has,ok.cab,ok.hd,ok.frames,ok.stk,ok.exf,ok.bs,ok.bsz,ok.noex,ok.exfs,ok.funs,ok.frf⟩
theorem Cx.Ok.unwish {E:G3->G6->Prop}(ok:(X.wish E).Ok):X.Ok:=
 ⟨ok.mod,ok.kind,ok.glob,ok.blt,ok.above,ok.inj,ok.has,ok.cab,ok.hd,ok.frames,ok.stk,ok.exf,ok.bs,ok.bsz,ok.noex,ok.exfs,ok.funs,ok.frf⟩
section
variable {X:Cx}{pins:List (Addr×Obj)}{σ:St}{H:Hp}{s:G6}{E:G3->G6->Prop}
theorem Inv.wish (I:Inv X pins σ H s)(E:G3->G6->Prop):Inv (X.wish E) pins σ H s:=⟨I.ok.wish E,I.os,I.bare,I.base,I.loc,I.cell,I.free,I.freeC,I.pin,I.hok,I.len⟩
theorem Inv.unwish (I:Inv (X.wish E) pins σ H s):Inv X pins σ H s:=⟨I.ok.unwish,I.os,I.bare,I.base,I.loc,I.cell,I.free,I.freeC,I.pin,I.hok,I.len⟩
theorem SP.unwish {D:Ends}{f:Flow}{s':G6}(h:SP (X.wish E) pins D f s'):SP X pins D f s':=by
 cases f with
 |next=>obtain⟨oV,H',I,q⟩:=h;exact⟨oV,H',I.unwish,q⟩
 |brk=>obtain⟨oV,H',I,q⟩:=h;exact⟨oV,H',I.unwish,q⟩
 |cont=>obtain⟨oV,H',I,q⟩:=h;exact⟨oV,H',I.unwish,q⟩
 |ret u=>obtain⟨v,oV,H',I,r,q⟩:=h;exact⟨v,oV,H',I.unwish,r,q⟩
theorem PSs.nox {st:List Stmt}{t:TS}(h:PSs X.nox st t):PSs X st t:=λpins s σ H D I hw=>
 S6 (h pins s σ H D (I.wish _) hw) (λ_ _ q=>q.unwish) λ_ _ z=>False.elim z
end
section
variable {X:Cx}{st:Stmt}{rest:List Stmt}{t u:TS}{e:Expr}{te:TE}{pos:Pos}
def Tz:TS:=λD σ H=>D.nx σ H
def xw (t u:TS):TS:=λD σ H=>t {D with nx:=u D} σ H
theorem pss_nil:PSs X [] Tz:=λ_ _ σ H _ I h=>bO ⟨σ,H,I,h⟩
theorem FK (h1:PS X st t)(h2:PSs X rest u):PSs X (st::rest) (xw t u):=by
 intro pins s σ H D I h;refine i4 (thn (h1 pins s σ H {D with nx:=u D} I h) λf s1 q=> ?_);cases f with
 |next=>
  obtain⟨oV,H',I',q⟩:=q;exact h2 pins s1 oV H' D I' q
 |ret v=>exact q
 |brk=>exact q
 |cont=>exact q
theorem AH (h1:PS X st t):PSs X [st] t:=by
 intro pins s σ H D I h;refine i4 (thn (h1 pins s σ H D I h) λf s1 q=> ?_);cases f with
 |next=>exact bO q
 |ret v=>exact q
 |brk=>exact q
 |cont=>exact q
theorem Inv.quiet {pins:List (Addr×Obj)}{σ:St}{H:Hp}{s:G6}(I:Inv X pins σ H s):interactive X.env=false:=by simp [interactive,I.ok.kind]
def TB (te:TE):TS:=λD σ H=>te σ H λ_ H1=>D.nx σ H1
theorem AI (he:PE X e te)(hs:swapsWith e none pos.line X.env=pure false:=by rfl):PS X (.Expr e pos) (TB te):=by
 intro pins s σ H D I h;exact wpAny_Expr_any (thn (he pins s σ H _ I h) λv s1 ⟨x,H1,I1,r1,q1⟩=>⟨σ,H1,I1,q1⟩) I.quiet hs
def xx (te:TE):TS:=λD σ H=>te σ H D.rt
theorem TC (he:PE X e te):PS X (.Return (some e) pos) (xx te):=by
 intro pins s σ H D I h;exact wpAny_Return_some (thn (he pins s σ H _ I h) λv s1 ⟨x,H1,I1,r1,q1⟩=>⟨x,σ,H1,I1,r1,q1⟩)
def xA (c:TT)(t u:TS):TS:=λD σ H=>c σ H λb H1=>if b=true then t D σ H1 else u D σ H1
theorem kH {c:Expr}{a b:List Stmt}{tc:TT}(hc:PT X c tc)(ha:PSs X a t)(hb:PSs X b u):PS X (.If c a b pos) (xA tc t u):=by
 intro pins s σ H D I h;refine wpAny_If (thn (hc pins s σ H _ I h) λd s1 ⟨H1,I1,q1⟩=> ?_);cases d with
 |true=>exact ha pins s1 σ H1 D I1 q1
 |false=>exact hb pins s1 σ H1 D I1 q1
end
abbrev TG:=V->St->Hp->(St->Hp->Prop)->Prop
abbrev TGs:=List V->St->Hp->(St->Hp->Prop)->Prop
def PG (X:Cx)(target:Expr)(t:TG):Prop:=
 ∀ (pins:List (Addr×Obj)) (s:G6) (σ:St) (H:Hp) (v:V) (u:G3) (Q:St->Hp->Prop),Inv X pins σ H s->RelV v u->t v σ H Q->
  wpAny (model X.prog X.w) X.A (assign target X.env u) (λ_ s'=> ∃oV H',Inv X pins oV H' s'/\Q oV H') X.xe s
def PGs (X:Cx)(ts:List Expr)(t:TGs):Prop:=
 ∀ (pins:List (Addr×Obj)) (s:G6) (σ:St) (H:Hp) (vs:List V) (us:List G3) (Q:St->Hp->Prop),Inv X pins σ H s->Vals vs us->t vs σ H Q->
  wpAny (model X.prog X.w) X.A (assignInOrder ((assignEach ts X.env).map (·.2)) us) (λ_ s'=> ∃oV H',Inv X pins oV H' s'/\Q oV H') X.xe s
abbrev kI:=V->V->V->Hp->(Hp->Prop)->Prop
def xB (X:Cx)(t:kI):Prop:=
 ∀ (pins:List (Addr×Obj)) (s:G6) (σ:St) (H:Hp) (o i v:V) (ov iv u:G3) (Q:Hp->Prop),Inv X pins σ H s->RelV o ov->RelV i iv->RelV v u->t o i v H Q->
  wpAny (model X.prog X.w) X.A (setItem ov iv u) (λ_ s'=> ∃H',Inv X pins σ H' s'/\Q H') X.xe s
abbrev TIp:=V->V->Hp->VK->Prop
def PIp (X:Cx)(op:hZ)(t:TIp):Prop:=
 ∀ (pins:List (Addr×Obj)) (s:G6) (σ:St) (H:Hp) (x y:V) (v u:G3) (Q:VK),Inv X pins σ H s->RelV x v->RelV y u->t x y H Q->
  wpAny (model X.prog X.w) X.A (inplaceOp op v u) (EP X pins σ Q) X.xe s
section
variable {X:Cx}{pos:Pos}
def wM (i:Nat):TG:=λv σ H Q=>Q (σ.set i (some v)) H
variable {i:Nat}{x:Str}
theorem vg (hN:X.N.Nodup)(hi:X.N[i]? =some x)(hx:Loc X.env.scope x)(hf:X.fn x=true\/X.env.scope.names.lookup x=some .local:=by first|exact .inl rfl|exact .inr rfl|assumption):PG X (.Name x pos) (wM i):=by
 intro pins s σ H v u Q I r h;exact wpAny_assign_Name (Wg I hN hi hx r (λs' I'=>⟨_,H,I',h⟩) hf)
def Tc:TGs:=λvs σ H Q=>vs= []/\Q σ H
def YR (t:TG)(u:TGs):TGs:=λvs σ H Q=> ∃v r,vs=v::r/\t v σ H λoV H'=>u r oV H' Q
theorem XE:PGs X [] Tc:=by
 intro pins s σ H vs us Q I r h;obtain⟨e,h⟩:=h;subst e;cases r;exact iA ⟨σ,H,I,h⟩
variable {e:Expr}
theorem yu {es:List Expr}{t:TG}{u:TGs}(h1:PG X e t)(h2:PGs X es u)
 (hs:(assignEach (e::es) X.env).map (·.2)=assign e X.env::(assignEach es X.env).map (·.2):=by rfl):PGs X (e::es) (YR t u):=by
 intro pins s σ H vs us Q I r h;obtain⟨v,vr,e1,h⟩:=h;subst e1;cases r with
 |cons r rr=>
  rw [hs];refine cF (thn (h1 pins s σ H _ _ _ I r h) λ_ s1 ⟨pF,H1,I1,q1⟩=> ?_);exact h2 pins s1 pF H1 _ _ Q I1 rr q1
def Td (K:PySem.W.Frag)(n:Nat)(t:TGs):TG:=λv σ H Q=> ∃a xs,v= .ref a/\SqT K H a xs/\xs.length=n/\t xs σ H Q
theorem Rf {es:List Expr}{k:Nat}{t:TGs}{n:Nat}(hc:X.calm=true)(h:PGs X es t)
 (hn:(assignEach es X.env).length=n:=by rfl)(hst:(assignEach es X.env).findIdx? (·.1)=none:=by rfl):PG X (.Tuple es k pos) (Td X.K n t):=by
 intro pins s σ H v u Q I r hw;obtain⟨a,xs,e1,hq,hl,hw⟩:=hw;subst e1;cases r;obtain⟨its,rv,ht,hz⟩:=I.tuple hq;refine assign_Tuple_tuple (I.ok.hd hc) ht (by simp [hn,<-hl,rv.length]) hst λh' hx=> ?_
 have I1:Inv X pins σ H {s with heap:=h'}:=I.kept (t':=s.toks) λb o e=>hx b o (S0 (P9 e)) e
 exact h pins _ σ H xs _ Q I1 (by simpa using rv) hw
def qD (to ti:TE)(t:kI):TG:=λv σ H Q=>to σ H λo H1=>ti σ H1 λi H2=>t o i v H2 λH3=>Q σ H3
theorem TD {o i:Expr}{to ti:TE}{t:kI}(ho:PE X o to)(hi:PE X i ti)(hs:xB X t)
 (ha: ∀v,assign (.Subscript o i pos) X.env v=(do
  let ov <-holding [v] (eval o X.env)
  let iv <-holding [v,ov] (eval i X.env)
  standAt pos
  holding [v,ov,iv] (setItem ov iv v)
  release [v,ov,iv] []):=by intro _;rfl):PG X (.Subscript o i pos) (qD to ti t):=by
 intro pins s σ H v u Q I r h;rw [ha];refine wpAny_bind (A2 (thn (ho pins s σ H _ I h) λov s1 ⟨x,H1,I1,r1,q1⟩=> ?_));refine wpAny_bind (A2 (thn (hi pins s1 σ H1 _ I1 q1) λiv s2 ⟨y,H2,I2,r2,q2⟩=> ?_));refine wpAny_bind (Z8 (wpAny_bind (A2 (thn (hs pins s2 σ H2 x y v ov iv u _ I2 r1 r2 r q2) λ_ s3 ⟨H3,I3,q3⟩=> ?_))));exact wpAny_release ⟨σ,H3,I3,q3⟩
def OX (te:TE)(g:TG):TS:=λD σ H=>te σ H λx H1=>g x σ H1 D.nx
theorem TF {tg:Expr}{te:TE}{g:TG}(he:PE X e te)(hg:PG X tg g)(hs:swapsWithSole [tg] e pos.line X.env=pure false:=by rfl)(hw:swappedStores [tg] e X.env=pure none:=by rfl)
 (h1:(assignEach [tg] X.env).map (·.2)= [assign tg X.env]:=by rfl):PS X (.Assign [tg] e pos) (OX te g):=by
 intro pins s σ H D I h;refine wpAny_Assign_stores (thn (he pins s σ H _ I h) λv s1 ⟨x,H1,I1,r1,q1⟩=> ?_) hs hw;rw [h1];exact thn (hg pins s1 σ H1 x v _ I1 r1 q1) λ_ s2 q=>q
theorem TH {te:TE}{pos':Pos}(hN:X.N.Nodup)(hi:X.N[i]? =some x)(hx:Loc X.env.scope x)(he:PE X e te)(hs:swapsWith e (some (.Name x pos')) pos.line X.env=pure false:=by rfl)(hf:X.fn x=true\/X.env.scope.names.lookup x=some .local:=by first|exact .inl rfl|exact .inr rfl|assumption):
 PS X (.Assign [.Name x pos'] e pos) (OX te (wM i)):=by
 intro pins s σ H D I h;refine wpAny_Assign_Name (thn (he pins s σ H _ I h) λv s1 ⟨y,H1,I1,r1,q1⟩=> ?_) hs;exact Wg I1 hN hi hx r1 (λs2 I2=>⟨_,H1,I2,q1⟩) hf
def xC (i j:Nat)(ta:TA):TS:=λD σ H=>ta σ H λvs H1=> ∃v w,vs= [v,w]/\D.nx ((σ.set i (some v)).set j (some w)) H1
theorem TJ {j:Nat}{y:Str}{a b:Expr}{ta:TA}{px py pt:Pos}{kt k2 pt2}(hc:X.calm=true)(hN:X.N.Nodup)(hi:X.N[i]? =some x)(hj:X.N[j]? =some y)(hij:i≠j)
 (hx:X.env.scope.names.lookup x=some .local)(hy:X.env.scope.names.lookup y=some .local)(ha:PA X [a,b] ta)
 (hw:swappedStores [.Tuple [.Name x px,.Name y py] kt pt] (.Tuple [a,b] k2 pt2) X.env=pure (some [x,y]))
 (hs:swapsWithSole [.Tuple [.Name x px,.Name y py] kt pt] (.Tuple [a,b] k2 pt2) pos.line X.env=pure false:=by rfl):
 PS X (.Assign [.Tuple [.Name x px,.Name y py] kt pt] (.Tuple [a,b] k2 pt2) pos) (xC i j ta):=by
 intro pins s σ H D I h;rw [exec_Assign_arm];refine wpAny_bind (Z8 ?_);rw [hs];refine wpAny_bind (P7 ?_);rw [if_neg (by decide)];refine wpAny_bind (Tuple_ (thn (ha _ pins s σ H _ I h) λus s1 ⟨vs,H1,I1,r1,q1⟩=> ?_));obtain⟨v,w,e1,q1⟩:=q1;subst e1;obtain⟨u1,u2,rfl,rv,rw'⟩: ∃u1 u2,us= [u1,u2]/\RelV v u1/\RelV w u2:=by
  cases r1 with
  |cons p q=>
   cases q with
   |cons p' q'=>
    cases q';exact⟨_,_,rfl,p,p'⟩
 refine Q8 ?_ (by show 2<=sizeLine;decide);have I2:Inv X pins σ H1 {s1 with heap:=s1.heap.push {cls:= .type "tuple",data:= .seq [u1,u2].toArray}}:=I1.kept (t':=s1.toks) λb o e=>G7 _ e
 rw [hw];refine wpAny_bind (P7 ?_);show wpAny (model X.prog X.w) X.A (do rule "assign.swapped-stores";let items <-unpackItems (.ref s1.heap.objs.size) 2 none;assignInOrder [λv=>bindName X.env y v,λv=>bindName X.env x v] items.reverse;pure Flow.next) _ _ _;refine wpAny_bind (bD (wpAny_bind (unpackItems_tuple (items:= #[u1,u2]) (I.ok.hd hc) (IsTup.new s1.heap _) λh' hx'=> ?_)));have I3:=I2.kept (h':=h') (t':=s1.toks) λb o e=>hx' b o (S0 (P9 e)) e
 show wpAny _ _ (assignInOrder [λv=>bindName X.env y v,λv=>bindName X.env x v] [u2,u1] >>= λ_=>pure Flow.next) _ _ _;refine wpAny_bind (cF (mB (Wg I3 hN hj (.inl hy) rw' (λs2 I4=> ?_) (.inr hy))));refine cF (mB (Wg I4 hN hi (.inl hx) rv (λs3 I5=>iA (P7 ?_)) (.inr hx)));rw [List.set_comm _ _ (A4 hij)] at I5;exact⟨_,H1,I5,q1⟩
def xD (i:Nat)(te:TE)(ti:TIp):TS:=λD σ H=> ∃x,σ[i]? =some (some x)/\te σ H λy H1=>ti x y H1 λz H2=>D.nx (σ.set i (some z)) H2
theorem OY {te:TE}{op:hZ}{ti:TIp}{pos':Pos}(hN:X.N.Nodup)(hi:X.N[i]? =some x)(hx:Loc X.env.scope x)(he:PE X e te)(ho:PIp X op ti)(hf:X.fn x=true\/X.env.scope.names.lookup x=some .local:=by first|exact .inl rfl|exact .inr rfl|assumption):
 PS X (.AugAssign (.Name x pos') op e pos) (xD i te ti):=by
 intro pins s σ H D I h;obtain⟨v,e1,h⟩:=h;obtain⟨m,hn,hl⟩:=I.loc;have vis:Vis X.env.scope x:=by rcases hx with k|k;exact .inl k;exact .inr (.inl k)
 obtain⟨u,r,l⟩:=hl i x v hi e1 vis;refine wpAny_AugAssign_Name ?_;have go:wpAny (model X.prog X.w) X.A (eval e X.env) (λw o6=>wpAny (model X.prog X.w) X.A (inplaceOp op u w) (λr pG=>wpAny (model X.prog X.w) X.A (storeName X.env x r) (λ_=>SP X pins D .next) X.xe pG) X.xe o6) X.xe s:=by
  refine thn (he pins s σ H _ I h) λw s1 ⟨y,H1,I1,r1,q1⟩=> ?_
  refine thn (ho pins s1 σ H1 v y u w _ I1 r r1 q1) λz s2 ⟨zv,H2,I2,r2,q2⟩=> ?_
  exact Wg I2 hN hi hx r2 (λs3 I3=>⟨_,H2,I3,q2⟩) hf
 rcases l with ⟨hk,hm⟩|⟨hk,c,hc,hcell⟩
 ·exact fN I.ok.kind hk hn hm go
 ·rcases hk with hk|hk
  ·exact gB I.ok.kind hk hc hcell go
  ·rcases hx with k|k
   ·have:X.env.scope.names.lookup x=some .free:=hk;rw [k] at this;cases this
   ·have:X.env.scope.names.lookup x=some .free:=hk;rw [k] at this;cases this
def ipI (f:Int->Int->Int):TIp:=λx y H Q=> ∃i j,x= .int i/\y= .int j/\Q (.int (f i j)) H
theorem TK:PIp X .Add (ipI λi j=>i+j):=by
 intro pins s σ H x y v u Q I r1 r2 h;obtain⟨i,j,e1,e2,q⟩:=h;subst e1;subst e2;obtain⟨t,rfl⟩:=r1;obtain⟨t',rfl⟩:=r2;exact iadd_int ⟨.int _,H,I.tok _,⟨_,rfl⟩,q⟩
theorem TL:PIp X .Sub (ipI λi j=>i-j):=by
 intro pins s σ H x y v u Q I r1 r2 h;obtain⟨i,j,e1,e2,q⟩:=h;subst e1;subst e2;obtain⟨t,rfl⟩:=r1;obtain⟨t',rfl⟩:=r2;exact isub_int ⟨.int _,H,I.tok _,⟨_,rfl⟩,q⟩
def OZ (c:TT)(tb:TS):TS:=λD σ H=> ∃W:Nat->St->Hp->Prop,(∃m,W m σ H)/\ ∀m σ H,W m σ H->
 c σ H λb H1=>if b=true then ∃N:St->Hp->Prop,(∀oV H',N oV H'-> ∃m',m'<m/\W m' oV H')/\tb {D with nx:=N,ct:=N,bk:=D.nx} σ H1 else D.nx σ H1
theorem FL {c:Expr}{body:List Stmt}{tc:TT}{tb:TS}(hp:gA (model X.prog X.w) X.A X.env X.xe)(hc:PT X c tc)(hb:PSs X body tb):PS X (.While c body [] pos) (OZ tc tb):=by
 intro pins s σ H D I h;obtain⟨W,⟨m0,w0⟩,turn⟩:=h;refine wpAny_While (codeAny_whileLoop (λn s'=> ∃oV H',Inv X pins oV H' s'/\W n oV H') ?_ m0 ⟨σ,H,I,w0⟩);rintro n s1 ⟨pF,H1,I1,w1⟩;refine Q5 hp (thn (hc pins s1 pF H1 _ I1 (turn n pF H1 w1)) λb s2 ⟨H2,I2,q2⟩=> ?_);cases b with
 |true=>
  obtain⟨N,hN,q2⟩:=q2;rw [if_pos rfl];refine Q5 hp (thn (hb pins s2 pF H2 _ I2 q2) λf s3 q3=> ?_);cases f with
  |next=>
   obtain⟨o0,H3,I3,n3⟩:=q3;obtain⟨m',hm,w3⟩:=hN o0 H3 n3;exact⟨m',hm,o0,H3,I3,w3⟩
  |cont=>
   obtain⟨o0,H3,I3,n3⟩:=q3;obtain⟨m',hm,w3⟩:=hN o0 H3 n3;exact⟨m',hm,o0,H3,I3,w3⟩
  |brk=>exact q3
  |ret v=>exact q3
 |false=>
  rw [if_neg D2];exact bO ⟨pF,H2,I2,q2⟩
end
structure It where
 go:Nat->Hp->Prop
 yld:Nat->Hp->V->Hp->Prop
 stop:Nat->Hp->Prop
def Nx (X:Cx)(pins:List (Addr×Obj))(H:Hp)(b:Addr):Prop:=
 H b=none/\b≠X.env.locals/\b ∉ X.fs/\(b∈X.ex\/X.s₀.heap.objs.size<=b)/\(∀x c,X.env.cells.lookup x=some c->c≠b)/\ ∀p∈X.pn++pins,p.1≠b
theorem Inv.fpOk {pins:List (Addr×Obj)}{σ:St}{H':Hp}(I:Inv X pins σ H s)(hb:s.heap.objs.size<=b)(hn:H' b=none):Nx X pins H' b:=by
 refine⟨hn,E4 (T1 I.lt hb),I.nofs hb,.inr (R9 I.sz hb),λx c e z=> ?_,λp hp z=> ?_⟩
 ·obtain⟨v,q⟩:=I.cell x c e;exact absurd (T1 q.lt (by rw [z];exact hb)) (N6 _)
 ·exact absurd (T1 (P9 (I.pin p hp).1) (by rw [z];exact hb)) (N6 _)
structure Turn (P:S3)(w:N2)(K:PySem.W.Frag)(tg:Expr)(J:It)(fp:List Addr)(it:Addr)(tn:Nat->Heap->Prop):Prop where
 mem:it∈fp
 obj: ∀i h,tn i h-> ∀b∈fp,∃o,h.get? b=some o/\ ∀v,o.data≠ .cell v
 keep: ∀i h h',tn i h->(∀b∈fp,∀o,h.get? b=some o->h'.get? b=some o)->tn i h'
 item: ∀ (X:Cx),X.prog=P->X.w=w->X.K=K->X.calm=true-> ∀ (i:Nat) (pins:List (Addr×Obj)) (s:G6) (σ:St) (H:Hp) (E:G3->G6->Prop),Inv X pins σ H s->(∀b∈fp,Nx X pins H b)->tn i s.heap->J.go i H->
  wpAny (model P w) X.A (pyNext (.ref it)) (λr s1=> ∃u,r=some u/\
   wpAny (model P w) X.A (letOwnedTupleGo tg (.ref it) u) (λ_ s2=> ∃x H',Inv X pins σ H' s2/\RelV x u/\J.yld i H x H'/\tn (i+1) s2.heap/\ ∀b∈fp,H' b=none) E s1) E s
 done: ∀ (X:Cx),X.prog=P->X.w=w->X.K=K->X.calm=true-> ∀ (i:Nat) (pins:List (Addr×Obj)) (s:G6) (σ:St) (H:Hp) (E:G3->G6->Prop),Inv X pins σ H s->(∀b∈fp,Nx X pins H b)->tn i s.heap->J.stop i H->
  wpAny (model P w) X.A (pyNext (.ref it)) (λr s1=>r=none/\Inv X pins σ H s1) E s
 self: ∀ (A:M7) (i:Nat) (s:G6) (Q:G3->G6->Prop) (E:G3->G6->Prop),tn i s.heap->Q (.ref it) s->wpAny (model P w) A (pyIter (.ref it)) Q E s
abbrev TI:=St->Hp->(It->Hp->Prop)->Prop
def PIE (X:Cx)(pins:List (Addr×Obj))(σ:St)(tg:Expr)(R:It->Hp->Prop)(itv:G3)(s2:G6):Prop:=
 ∃ (it:Addr) (fp:List Addr) (tn:Nat->Heap->Prop) (J:It) (H':Hp),itv= .ref it/\Inv X pins σ H' s2/\Turn X.prog X.w X.K tg J fp it tn/\tn 0 s2.heap/\(∀b∈fp,Nx X pins H' b)/\R J H'
def PI (X:Cx)(tg iter:Expr)(wi:TI):Prop:=
 ∀ (pins:List (Addr×Obj)) (s:G6) (σ:St) (H:Hp) (R:It->Hp->Prop),Inv X pins σ H s->wi σ H R->
  wpAny (model X.prog X.w) X.A (eval iter X.env) (λv s1=>wpAny (model X.prog X.w) X.A (pyIter v) (PIE X pins σ tg R) X.xe s1) X.xe s
variable {tg:Expr}
theorem FM {M : l8} {E : G3 → G6 → Prop} {it : Addr} {o : Obj} {n : String} {vs : Array G3} {Q : Unit → G6 → Prop} (ho : s.heap.get? it = some o) (hc : o.cls = .type n) (hd : o.data = .fields vs)
    (hn : ["enumerate", "zip", "dict_itemiterator", "dict_reverseitemiterator", "odict_iterator", "itertools.zip_longest", "itertools.pairwise"].contains n = false) (hQ : Q () s) : wpAny M A (letOwnedTupleGo tg (.ref it) u) Q E s := by
  unfold letOwnedTupleGo
  cases tg <;> first
    | exact P7 hQ
    | (cases u <;> first
        | exact P7 hQ
        | (refine wpAny_bind (wpAny_load ho ?_)
           rw [hc, hd]
           show wpAny M A (if (["enumerate", "zip", "dict_itemiterator", "dict_reverseitemiterator", "odict_iterator", "itertools.zip_longest", "itertools.pairwise"].contains n && vs[0]? == some (rawInt _)) = true then _ else _) Q E s
           rw [if_neg (by intro h; rw [hn, mC] at h; cases h)]
           exact P7 hQ))
def Itl (K:PySem.W.Frag)(a:Addr):It:=
 ⟨λi H=> ∃xs x,SqL K H a xs/\xs[i]? =some x,λi H x H'=>H'=H/\ ∀xs,SqL K H a xs->xs[i]? =some x,λi H=> ∃xs,SqL K H a xs/\xs.length<=i⟩
def Itt (K:PySem.W.Frag)(a:Addr):It:=
 ⟨λi H=> ∃xs x,SqT K H a xs/\xs[i]? =some x,λi H x H'=>H'=H/\ ∀xs,SqT K H a xs->xs[i]? =some x,λi H=> ∃xs,SqT K H a xs/\xs.length<=i⟩
def Itr (lo:Int)(n:Nat):It:=⟨λi _=>i<n,λi H x H'=>H'=H/\x= .int (lo+i),λi _=>n<=i⟩
variable {K:PySem.W.Frag}
theorem Ga (a it:Addr):Turn P w K tg (Itl K a) [it] it (λi h=>h.IsListIter it a i) where
 mem:=by simp
 obj:=λi h st b hb=>by
  have e:b=it:=by simpa using hb
  subst e;obtain⟨o,e,c,d⟩:=st;exact⟨o,e,λv z=>by rw [d] at z;cases z⟩
 keep:=λi h h' st k=>st.at λo e=>k it (by simp) o e
 item:=by
  intro X hP hw hK hc i pins s σ H E I hf st hg;subst hP hw hK;obtain⟨xs,x,hq,hx⟩:=hg;obtain⟨its,rv,p,hz⟩:=I.list hq;obtain⟨u,hu,ru⟩:=rv.get hx;obtain⟨f0,f1,f2,f3,f4,f5⟩:=hf it (by simp);refine wpAny_pyNext_list_item st p.isList (x:=u) (by simpa using hu) λh' st' sb=> ?_
  have I1:Inv X pins σ H {s with heap:=h'}:=I.turned (t':=s.toks) (λb o hb e=>(sb.2 b hb).trans e) f0 f1 f3 f4 f5;obtain⟨o,e,c,d⟩:=id st';exact⟨u,rfl,FM (s:= {s with heap:=h'}) e c d (by decide) ⟨x,H,I1,ru,⟨rfl,λys hy=>by rw [I.list_inj hy hq];exact hx⟩,st',λb hb=>(hf b hb).1⟩⟩
 done:=by
  intro X hP hw hK hc i pins s σ H E I hf st hg;subst hP hw hK;obtain⟨xs,hq,hx⟩:=hg;obtain⟨its,rv,p,hz⟩:=I.list hq;obtain⟨f0,f1,f2,f3,f4,f5⟩:=hf it (by simp);have hl:=rv.length;exact wpAny_pyNext_list_end (I.ok.hd hc) st p.isList (by simp;omega) λh' eb=>⟨rfl,I.turned (t':=s.toks) (λb o hb e=>eb b o hb e) f0 f1 f3 f4 f5⟩
 self:=λ_ _ _ _ _ st h=>wpAny_pyIter_listiter st h
theorem Mi (a it:Addr):Turn P w K tg (Itt K a) [it] it (λi h=>h.IsTupleIter it a i) where
 mem:=by simp
 obj:=λi h st b hb=>by
  have e:b=it:=by simpa using hb
  subst e;obtain⟨o,e,c,d⟩:=st;exact⟨o,e,λv z=>by rw [d] at z;cases z⟩
 keep:=λi h h' st k=>st.at λo e=>k it (by simp) o e
 item:=by
  intro X hP hw hK hc i pins s σ H E I hf st hg;subst hP hw hK;obtain⟨xs,x,hq,hx⟩:=hg;obtain⟨its,rv,p,hz⟩:=I.tuple hq;obtain⟨u,hu,ru⟩:=rv.get hx;obtain⟨f0,f1,f2,f3,f4,f5⟩:=hf it (by simp);refine wpAny_pyNext_tuple_item st (show s.heap.IsTuple a its.toArray from p) (x:=u) (by simpa using hu) λh' st' sb=> ?_
  have I1:Inv X pins σ H {s with heap:=h'}:=I.turned (t':=s.toks) (λb o hb e=>(sb.2 b hb).trans e) f0 f1 f3 f4 f5;obtain⟨o,e,c,d⟩:=id st';exact⟨u,rfl,FM (s:= {s with heap:=h'}) e c d (by decide) ⟨x,H,I1,ru,⟨rfl,λys hy=>by rw [I.tuple_inj hy hq];exact hx⟩,st',λb hb=>(hf b hb).1⟩⟩
 done:=by
  intro X hP hw hK hc i pins s σ H E I hf st hg;subst hP hw hK;obtain⟨xs,hq,hx⟩:=hg;obtain⟨its,rv,p,hz⟩:=I.tuple hq;obtain⟨f0,f1,f2,f3,f4,f5⟩:=hf it (by simp);have hl:=rv.length;exact wpAny_pyNext_tuple_end (I.ok.hd hc) st (show s.heap.IsTuple a its.toArray from p) (by simp;omega) λh' eb=>⟨rfl,I.turned (t':=s.toks) (λb o hb e=>eb b o hb e) f0 f1 f3 f4 f5⟩
 self:=λ_ _ _ _ _ st h=>wpAny_pyIter_tupleiter st h
theorem Mj (it:Addr)(lo:Int)(n:Nat):Turn P w K tg (Itr lo n) [it] it (λi h=>nS h it (lo+(i:Nat)*1) ((n:Int)-(i:Nat)) 1) where
 mem:=by simp
 obj:=λi h st b hb=>by
  have e:b=it:=by simpa using hb
  subst e;exact⟨_,st,λv z=>by
   have z':Data.fields _=Data.cell v:=z;cases z'⟩
 keep:=λi h h' st k=>k it (by simp) _ st
 item:=by
  intro X hP hw hK hc i pins s σ H E I hf st hg;subst hP hw hK;obtain⟨f0,f1,f2,f3,f4,f5⟩:=hf it (by simp);have W:=Walks.range (prog:=X.prog) (w:=X.w) (I.ok.hd hc) it lo 1 n;refine W.item i s _ _ hg st λv h' tk hv st' kk=> ?_
  obtain⟨t,rfl⟩:=hv;have I1:Inv X pins σ H {s with heap:=h',toks:=tk}:=I.turned (λb o hb e=>kk b o (by simpa using hb) e) f0 f1 f3 f4 f5;refine⟨_,rfl,FM (s:= {s with heap:=h',toks:=tk}) (n:= "range_iterator") st' rfl rfl (by decide) ⟨.int (lo+i),H,I1,⟨t,?_⟩,⟨rfl,rfl⟩,st',λb hb=>(hf b hb).1⟩⟩;rw [Int.mul_one]
 done:=by
  intro X hP hw hK hc i pins s σ H E I hf st hg;subst hP hw hK;obtain⟨f0,f1,f2,f3,f4,f5⟩:=hf it (by simp);exact wpAny_pyNext_range_end (I.ok.hd hc) st (by have:n<=i:=hg;omega) λh' eb=>⟨rfl,I.turned (t':=s.toks) (λb o hb e=>eb b o hb e) f0 f1 f3 f4 f5⟩
 self:=λ_ _ _ _ _ st h=>wpAny_pyIter_rangeiter st h
section
variable {X:Cx}{tg:Expr}
def TN (K:PySem.W.Frag)(tl:TE):TI:=λσ H R=>tl σ H λx H1=> ∃a,x= .ref a/\(∃xs,SqL K H1 a xs)/\R (Itl K a) H1
theorem AJ {l:Expr}{tl:TE}(hl:PE X l tl):PI X tg l (TN X.K tl):=by
 intro pins s σ H R I h;refine thn (hl pins s σ H _ I h) λv s1 ⟨x,H1,I1,r1,q1⟩=> ?_
 obtain⟨a,e,⟨xs,hq⟩,q⟩:=q1;subst e;cases r1;obtain⟨its,rv,p,hz⟩:=I1.list hq;refine A1 p.isList ?_;refine⟨s1.heap.objs.size,[s1.heap.objs.size],_,_,H1,rfl,I1.kept (t':=s1.toks) λb o e=>G7 _ e,Ga a _,⟨_,D7 _ rfl,rfl,rfl⟩,λb hb=> ?_,q⟩;have e:b=s1.heap.objs.size:=by simpa using hb
 subst e;exact I1.fpOk (P0 _) (I1.hok.fresh (P0 _))
variable {pins:List (Addr×Obj)}
theorem FN {σ:St}{H:Hp}{s:G6}{R:It->Hp->Prop}{E:G3->G6->Prop}{lo hi:Int}{t u v:Tok}{tk:Nat}(I:Inv X pins σ H s)(h1: -(2^62)<=lo)(h2:lo<2^62)(h3: -(2^62)<=hi)(h4:hi<2^62)
 (q:R (Itr lo (hi-lo).toNat) H):wpAny (model X.prog X.w) X.A (pyIter (.ref s.heap.objs.size)) (PIE X pins σ tg R) E {s with heap:=s.heap.push {cls:= .type "range",data:= .fields #[.int lo t,.int hi u,.int 1 v]},toks:=tk}:=by
 refine wpAny_pyIter_range (IsRange.new ..) (small_one h1 h2 h3 h4) ?_;have I1:Inv X pins σ H {s with heap:=s.heap.push {cls:= .type "range",data:= .fields #[.int lo t,.int hi u,.int 1 v]},toks:=tk}:=I.kept λb o e=>G7 _ e
 refine⟨(s.heap.push {cls:= .type "range",data:= .fields #[.int lo t,.int hi u,.int 1 v]}).objs.size,[(s.heap.push {cls:= .type "range",data:= .fields #[.int lo t,.int hi u,.int 1 v]}).objs.size],_,_,H,rfl,
  I1.kept (t':=tk) λb o e=>G7 _ e,Mj _ lo (hi-lo).toNat,?_,λb hb=> ?_,q⟩
 ·have e1:lo+((0:Nat):Int)*1=lo:=by simp
  have e2:(((hi-lo).toNat:Nat):Int)-((0:Nat):Int)=Builtin.Range.rangeSize lo hi 1:=by rw [mP];split<;>omega
  show nS _ _ (lo+((0:Nat):Int)*1) ((((hi-lo).toNat:Nat):Int)-((0:Nat):Int)) 1;rw [e1,e2];exact D7 _ rfl
 ·have e:b=(s.heap.push {cls:= .type "range",data:= .fields #[.int lo t,.int hi u,.int 1 v]}).objs.size:=by simpa using hb
  subst e;exact I1.fpOk (P0 _) (I1.hok.fresh (P0 _))
def TQ (ta:TA):TI:=λσ H R=>ta σ H λvs H1=> ∃j:Int,vs= [.int j]/\ -(2^62)<=j/\j<2^62/\R (Itr 0 j.toNat) H1
theorem NF {a:Expr}{ta:TA}{p pos:Pos}(hg:Gl X "range")(hm:X.mg "range" =none)(ha:PA X [a] ta)(hs:starEach [a] X.env= [(false,eval a X.env)]:=by rfl):PI X tg (.Call (.Name "range" p) [a] [] pos) (TQ ta):=by
 intro pins s σ H R I h;refine nU (Zt I hg hm oF (C4 (thn (ha pos pins s σ H _ I h) λus s1 ⟨vs,H1,I1,r1,q1⟩=> ?_) hs rfl));obtain⟨j,e,q1,q2,q⟩:=q1;subst e;cases r1 with
 |cons r rr=>
  cases rr;obtain⟨t,rfl⟩:=r;exact m8 (FN I1 (by omega) (by omega) q1 q2 (by simpa using q))
def xE (wi:TI)(g:TG)(tb:TS):TS:=λD σ H=>wi σ H λJ H1=> ∃W:Nat->Nat->St->Hp->Prop,(∃m,W 0 m σ H1)/\ ∀i m σ H,W i m σ H->
 (J.stop i H/\D.nx σ H)\/(J.go i H/\ ∃N:St->Hp->Prop,(∀oV H',N oV H'-> ∃m',m'<m/\W (i+1) m' oV H')/\ ∀x H',J.yld i H x H'->g x σ H' λoY H2=>tb {D with nx:=N,ct:=N,bk:=D.nx} oY H2)
def Zu (fp:List Addr)(h:Heap):List (Addr×Obj):=fp.filterMap λb=>(h.get? b).map λo=>(b,o)
theorem yC {fp:List Addr}{h:Heap}{b:Addr}{o:Obj}(hb:b∈fp)(e:h.get? b=some o):(b,o)∈Zu fp h:=aH.mpr ⟨b,hb,by rw [e];rfl⟩
theorem Vo {fp:List Addr}{h:Heap}{p:Addr×Obj}(hp:p∈Zu fp h):p.1∈fp/\h.get? p.1=some p.2:=by
 obtain⟨b,hb,e⟩:=aH.mp hp;cases q:h.get? b with
 |none=>rw [q] at e;cases e
 |some o=>
  rw [q] at e;have e':(b,o)=p:=M0 e;subst e';exact⟨hb,q⟩
theorem Inv.pinned {σ:St}{H:Hp}{s:G6}{fp:List Addr}(I:Inv X pins σ H s)(hf: ∀b∈fp,Nx X pins H b)(ho: ∀b∈fp,∃o,s.heap.get? b=some o/\ ∀v,o.data≠ .cell v):Inv X (pins++Zu fp s.heap) σ H s:=
 I.pins_of λp hp=>(D9.mp hp).elim (λz=>I.pin p (D4 _ z)) λz=>by
  obtain⟨hb,e⟩:=Vo z;obtain⟨f0,f1,f2,_⟩:=hf p.1 hb;obtain⟨o,e',d⟩:=ho p.1 hb;rw [e] at e';cases e';exact⟨e,f0,f1,f2,d⟩
theorem Inv.unpinned {pl:List (Addr×Obj)}{σ:St}{H:Hp}{s:G6}(I:Inv X (pins++pl) σ H s):Inv X pins σ H s:=I.pins_of λp hp=>I.pin p (D4 _ (N0 _ hp))
theorem TR {iter:Expr}{body:List Stmt}{wi:TI}{g:TG}{tb:TS}{pos:Pos}(hp:gA (model X.prog X.w) X.A X.env X.xe)(hc:X.calm=true)(hi:PI X tg iter wi)(hg:PG X tg g)(hb:PSs X body tb)
 (hs: ∀x,foldedSetIterable iter X.env x=pure x:=by intro _;rfl):PS X (.For tg iter body [] pos) (xE wi g tb):=by
 intro pins s σ H D I h;refine wpAny_For (thn (hi pins s σ H _ I h) λv s1 h1=>thn h1 λitv s2 h2=> ?_) hs;obtain⟨it,fp,tn,J,H2,e,I2,T,st2,f2,W,⟨m0,w0⟩,turn⟩:=h2;subst e
 -- what stays true of the iterator's objects through the loop
 have stat: ∀ {H':Hp},(∀b∈fp,H' b=none)-> ∀b∈fp,Nx X pins H' b:=λhn b hb=>⟨hn b hb,(f2 b hb).2⟩
 refine codeAny_forLoop_any (λn s'=> ∃i oV H',Inv X pins oV H' s'/\tn i s'.heap/\(∀b∈fp,H' b=none)/\W i n oV H') ?_ m0 ⟨0,σ,H2,I2,st2,λb hb=>(f2 b hb).1,w0⟩;rintro n s3 ⟨i,o0,H3,I3,st3,fr3,w3⟩;rcases turn i n o0 H3 w3 with ⟨stop,qn⟩|⟨go,N,hN,step⟩
 ·refine Q5 hp (thn (T.done X rfl rfl rfl hc i pins s3 o0 H3 X.xe I3 (stat fr3) st3 stop) λr s4 ⟨hr,I4⟩=> ?_);subst hr;exact bO ⟨o0,H3,I4,qn⟩
 ·refine Q5 hp (thn (T.item X rfl rfl rfl hc i pins s3 o0 H3 X.xe I3 (stat fr3) st3 go) λr s4 ⟨u,hr,h4⟩=> ?_);subst hr;refine Q5 hp (thn h4 λ_ s5 ⟨x,H5,I5,r5,y5,st5,fr5⟩=> ?_);have I5':=I5.pinned (stat fr5) (T.obj _ _ st5);refine Q5 hp (thn (hg _ s5 o0 H5 x u _ I5' r5 (step x H5 y5)) λ_ s6 ⟨rE,H6,I6,q6⟩=> ?_);refine Q5 hp (thn (hb _ s6 rE H6 _ I6 q6) λf s7 q7=> ?_);have again: ∀ {pA:St} {H7:Hp},Inv X (pins++Zu fp s5.heap) pA H7 s7->N pA H7-> ∃m,m<n/\ ∃i oV H',Inv X pins oV H' s7/\tn i s7.heap/\(∀b∈fp,H' b=none)/\W i m oV H':=λ{pA H7} I7 n7=>by
   obtain⟨m',hm,w7⟩:=hN pA H7 n7;refine⟨m',hm,i+1,pA,H7,I7.unpinned,T.keep _ _ _ st5 λb hb o e=>(I7.pin (b,o) (D4 _ (D4 _ (yC hb e)))).1,λb hb=> ?_,w7⟩;obtain⟨o,e,d⟩:=T.obj _ _ st5 b hb;exact(I7.pin (b,o) (D4 _ (D4 _ (yC hb e)))).2.1
  cases f with
  |next=>obtain⟨pA,H7,I7,n7⟩:=q7;exact again I7 n7
  |cont=>obtain⟨pA,H7,I7,n7⟩:=q7;exact again I7 n7
  |brk=>obtain⟨pA,H7,I7,q7⟩:=q7;exact⟨pA,H7,I7.unpinned,q7⟩
  |ret v=>obtain⟨x7,pA,H7,I7,r7,q7⟩:=q7;exact⟨x7,pA,H7,I7.unpinned,r7,q7⟩
end
abbrev R2:=V->V->Hp->VK->Prop
def OpR (X:Cx)(f:G3->G3->Sem G3)(r:R2):Prop:=
 ∀ (pins:List (Addr×Obj)) (s:G6) (σ:St) (H:Hp) (x y:V) (v u:G3) (Q:VK),Inv X pins σ H s->RelV x v->RelV y u->r x y H Q->
  wpAny (model X.prog X.w) X.A (f v u) (EP X pins σ Q) X.xe s
def UnR (X:Cx)(f:G3->Sem G3)(r:V->Hp->VK->Prop):Prop:=
 ∀ (pins:List (Addr×Obj)) (s:G6) (σ:St) (H:Hp) (x:V) (v:G3) (Q:VK),Inv X pins σ H s->RelV x v->r x H Q->
  wpAny (model X.prog X.w) X.A (f v) (EP X pins σ Q) X.xe s
def CallR (X:Cx)(f:G3)(r:List V->Hp->VK->Prop):Prop:=
 ∀ (pins:List (Addr×Obj)) (s:G6) (σ:St) (H:Hp) (xs:List V) (us:List G3) (Q:VK),Inv X pins σ H s->Vals xs us->r xs H Q->
  wpAny (model X.prog X.w) X.A (call f us) (EP X pins σ Q) X.xe s
def tOp (r:R2)(ta tb:TE):TE:=λσ H Q=>ta σ H λx H1=>tb σ H1 λy H2=>r x y H2 Q
def tUn (r:V->Hp->VK->Prop)(ta:TE):TE:=λσ H Q=>ta σ H λx H1=>r x H1 Q
def rI (C:Int->Int->Prop)(g:Int->Int->V):R2:=λx y H Q=> ∃i j,x= .int i/\y= .int j/\C i j/\Q (g i j) H
def rI0 (g:Int->Int->V):R2:=λx y H Q=> ∃i j,x= .int i/\y= .int j/\Q (g i j) H
def rU (g:Int->V):V->Hp->VK->Prop:=λx H Q=> ∃i,x= .int i/\Q (g i) H
section
variable {X:Cx}{a b c:Expr}{ta tb tc:TE}{pos:Pos}
theorem kJ (ha:PE X a ta)(hb:PE X b tb){pins:List (Addr×Obj)}{s:G6}{σ:St}{H:Hp}{R:V->V->Hp->Prop}(I:Inv X pins σ H s)
 (h:ta σ H λx H1=>tb σ H1 λy H2=>R x y H2){Q:G3->G6->Prop}{f:G3->G3->Sem G3}
 (hf: ∀v u s2 x y H2,Inv X pins σ H2 s2->RelV x v->RelV y u->R x y H2->wpAny (model X.prog X.w) X.A (f v u) Q X.xe s2):
 wpAny (model X.prog X.w) X.A (eval a X.env) (λv oX=>wpAny (model X.prog X.w) X.A (eval b X.env) (λu o6=>wpAny (model X.prog X.w) X.A (f v u) Q X.xe o6) X.xe oX) X.xe s:=by
 refine thn (ha pins s σ H _ I h) λv s1 ⟨x,H1,I1,r1,q1⟩=> ?_
 refine thn (hb pins s1 σ H1 _ I1 q1) λu s2 ⟨y,H2,I2,r2,q2⟩=> ?_
 exact hf v u s2 x y H2 I2 r1 r2 q2
theorem kK {op:hZ}{r:R2}(ho:OpR X (binaryOp op) r)(ha:PE X a ta)(hb:PE X b tb):PE X (.BinOp a op b pos) (tOp r ta tb):=by
 intro pins s σ H Q I h;exact wpAny_BinOp (kJ ha hb I h λv u s2 x y H2 I2 rx ry q=>ho pins s2 σ H2 x y v u Q I2 rx ry q)
theorem kL {op:UnaryOp}{r:V->Hp->VK->Prop}(ho:UnR X (unaryOp op) r)(ha:PE X a ta):PE X (.UnaryOp op a pos) (tUn r ta):=by
 intro pins s σ H Q I h;exact UnaryOp_ (thn (ha pins s σ H _ I h) λv s1 ⟨x,H1,I1,r1,q1⟩=>ho pins s1 σ H1 x v Q I1 r1 q1)
theorem opI {f:G3->G3->Sem G3}{C:Int->Int->Prop}{g:Int->Int->Int}
 (rule: ∀ (i j:Int) (t u:Tok) (s:G6) (Q:G3->G6->Prop) (E:G3->G6->Prop),C i j->Q (.int (g i j) s.toks) {s with toks:=s.toks+1}->wpAny (model X.prog X.w) X.A (f (.int i t) (.int j u)) Q E s):
 OpR X f (rI C λi j=> .int (g i j)):=by
 intro pins s σ H x y v u Q I rx ry h;obtain⟨i,j,rfl,rfl,hc,q⟩:=h;obtain⟨t,rfl⟩:=rx;obtain⟨t',rfl⟩:=ry;exact rule i j t t' s _ _ hc ⟨.int (g i j),H,I.tok _,⟨_,rfl⟩,q⟩
theorem xF {f:G3->G3->Sem G3}{g:Int->Int->Int}
 (rule: ∀ (i j:Int) (t u:Tok) (s:G6) (Q:G3->G6->Prop) (E:G3->G6->Prop),Q (.int (g i j) s.toks) {s with toks:=s.toks+1}->wpAny (model X.prog X.w) X.A (f (.int i t) (.int j u)) Q E s):
 OpR X f (rI0 λi j=> .int (g i j)):=by
 intro pins s σ H x y v u Q I rx ry h;obtain⟨i,j,rfl,rfl,q⟩:=h;obtain⟨t,rfl⟩:=rx;obtain⟨t',rfl⟩:=ry;exact rule i j t t' s _ _ ⟨.int (g i j),H,I.tok _,⟨_,rfl⟩,q⟩
theorem kg {f:G3->G3->Sem G3}{g:Int->Int->Bool}
 (rule: ∀ (i j:Int) (t u:Tok) (s:G6) (Q:G3->G6->Prop) (E:G3->G6->Prop),Q (.bool (g i j)) s->wpAny (model X.prog X.w) X.A (f (.int i t) (.int j u)) Q E s):
 OpR X f (rI0 λi j=> .bl (g i j)):=by
 intro pins s σ H x y v u Q I rx ry h;obtain⟨i,j,rfl,rfl,q⟩:=h;obtain⟨t,rfl⟩:=rx;obtain⟨t',rfl⟩:=ry;exact rule i j t t' s _ _ ⟨.bl (g i j),H,I,rfl,q⟩
def xG (i j:Int):Prop:=0<j/\j<1073741824
def xH (i j:Int):Prop:=0<=j/\j<=1000000/\i.natAbs<2^64
def CMul (i j:Int):Prop:=(-(2^64)<i/\i<2^64)\/(-(2^64)<j/\j<2^64)
theorem CMul.ok {i j:Int}(h:CMul i j):IntMulOk i j:=by
 rcases h with ⟨h1,h2⟩|⟨h1,h2⟩
 ·exact .of_left (mQ h1 h2)
 ·exact .of_right (mQ h1 h2)
theorem op_add:OpR X (binaryOp .Add) (rI0 λi j=> .int (i+j)):=xF λ_ _ _ _ _ _ _ q=>add_int q
theorem TU:OpR X (binaryOp .Sub) (rI0 λi j=> .int (i-j)):=xF λ_ _ _ _ _ _ _ q=>sub_int q
theorem op_mul:OpR X (binaryOp .Mult) (rI CMul λi j=> .int (i*j)):=opI λ_ _ _ _ _ _ _ hc q=>mul_int q hc.ok
theorem AK:OpR X (binaryOp .FloorDiv) (rI xG λi j=> .int (i / j)):=opI λi j _ _ _ _ _ hc q=>by
 have h1:(0:Int)<j:=hc.1;have h2:j<1073741824:=hc.2;exact floordiv_int (by omega) (by rw [cG i (by omega)];exact q) (.inl (PyProof.noPylong_small (by omega)))
theorem TV:OpR X (binaryOp .Mod) (rI (λ_ j=>0<j) λi j=> .int (i%j)):=opI λi j _ _ _ _ _ hc q=>by
 have h1:(0:Int)<j:=hc;exact mod_int' (by omega) (by rw [cH i (by omega)];exact q)
theorem TW:OpR X (binaryOp .Pow) (rI xH λi j=> .int (i^j.toNat)):=opI λ_ _ _ _ _ _ _ hc q=>pow_int_small hc.1 hc.2.1 hc.2.2 q
theorem unI {f:G3->Sem G3}{g:Int->Int}
 (rule: ∀ (i:Int) (t:Tok) (s:G6) (Q:G3->G6->Prop) (E:G3->G6->Prop),Q (.int (g i) s.toks) {s with toks:=s.toks+1}->wpAny (model X.prog X.w) X.A (f (.int i t)) Q E s):
 UnR X f (rU λi=> .int (g i)):=by
 intro pins s σ H x v Q I rx h;obtain⟨i,rfl,q⟩:=h;obtain⟨t,rfl⟩:=rx;exact rule i t s _ _ ⟨.int (g i),H,I.tok _,⟨_,rfl⟩,q⟩
theorem TX:UnR X (unaryOp .USub) (rU λi=> .int (-i)):=unI λ_ _ _ _ _ q=>neg_int q
end
def xI:V->V->Bool
 | .non,.non=>true| .non,.int _=>true| .int _,.non=>true| .non,.bl _=>true| .bl _,.non=>true| .non,.str _=>true| .str _,.non=>true
 | .int _,.int _=>true| .bl _,.bl _=>true| .str _,.str _=>true| .byt _,.byt _=>true
 | .int _,.str _=>true| .str _,.int _=>true| .bl _,.str _=>true| .str _,.bl _=>true
 |_,_=>false
def rEq:R2:=λx y H Q=>xI x y=true/\Q (.bl (decide (x=y))) H
def rNe:R2:=λx y H Q=>xI x y=true/\Q (.bl (!decide (x=y))) H
theorem NG {i j:Int}:decide (V.int i=V.int j)=(i==j):=by
 rw [T7];simp
theorem Aa {i j:Bool}:decide (V.bl i=V.bl j)=(i==j):=by
 rw [T7];simp
theorem NH {i j:Str}:decide (V.str i=V.str j)=(i==j):=by
 rw [T7];simp
theorem NI {i j:Array UInt8}:decide (V.byt i=V.byt j)=(i.toList==j.toList):=by
 rw [T7];cases i;cases j;simp
section
variable {X:Cx}{a b c:Expr}{ta tb tc:TE}{pos:Pos}
theorem jS {pins:List (Addr×Obj)}{σ:St}{H:Hp}{s:G6}{Q:VK}{k k':Bool}(I:Inv X pins σ H s)(q:Q (.bl k) H)(e:k=k'):EP X pins σ Q (.bool k') s:=by
 subst e;exact⟨.bl k,H,I,rfl,q⟩
theorem op_eq:OpR X (compareOp .Eq) rEq:=by
 intro pins s σ H x y v u Q I rx ry h;obtain⟨hs,q⟩:=h;cases x with
 |non=>
  cases rx;cases y with
  |non=>cases ry;exact PySem.EqNone.eq_none_none (jS I q (by simp))
  |bl j=>cases ry;exact PySem.EqNone.eq_none_bool (jS I q (by simp))
  |int j=>obtain⟨t',rfl⟩:=ry;exact PySem.EqNone.eq_none_int (jS I q (by simp))
  |str j=>obtain⟨t',rfl⟩:=ry;exact PySem.EqNone.eq_none_str (jS I q (by simp))
  |_=>exact absurd (show false=true from hs) D2
 |bl i=>
  cases rx;cases y with
  |non=>cases ry;exact PySem.EqNone.eq_bool_none (jS I q (by simp))
  |bl j=>cases ry;exact eq_bool (jS I q Aa)
  |str j=>obtain⟨t',rfl⟩:=ry;exact PySem.EqMixed.eq_bool_str (jS I q (by simp))
  |_=>exact absurd (show false=true from hs) D2
 |int i=>
  obtain⟨t,rfl⟩:=rx;cases y with
  |non=>cases ry;exact PySem.EqNone.eq_int_none (jS I q (by simp))
  |int j=>obtain⟨t',rfl⟩:=ry;exact eq_int (jS I q NG)
  |str j=>obtain⟨t',rfl⟩:=ry;exact PySem.EqMixed.eq_int_str (jS I q (by simp))
  |_=>exact absurd (show false=true from hs) D2
 |str i=>
  obtain⟨t,rfl⟩:=rx;cases y with
  |non=>cases ry;exact PySem.EqNone.eq_str_none (jS I q (by simp))
  |bl j=>cases ry;exact PySem.EqMixed.eq_str_bool (jS I q (by simp))
  |int j=>obtain⟨t',rfl⟩:=ry;exact PySem.EqMixed.eq_str_int (jS I q (by simp))
  |str j=>obtain⟨t',rfl⟩:=ry;exact eq_str (jS I q NH)
  |_=>exact absurd (show false=true from hs) D2
 |byt i=>
  obtain⟨t,rfl⟩:=rx;cases y with
  |byt j=>obtain⟨t',rfl⟩:=ry;exact PySem.W.eq_bytes (jS I q NI)
  |_=>exact absurd (show false=true from hs) D2
 |_=>cases y<;>exact absurd (show false=true from hs) D2
theorem op_ne:OpR X (compareOp .NotEq) rNe:=by
 intro pins s σ H x y v u Q I rx ry h;obtain⟨hs,q⟩:=h;cases x with
 |non=>
  cases rx;cases y with
  |non=>cases ry;exact PySem.EqNone.ne_none_none (jS I q (by simp))
  |bl j=>cases ry;exact PySem.EqNone.ne_none_bool (jS I q (by simp))
  |int j=>obtain⟨t',rfl⟩:=ry;exact PySem.EqNone.ne_none_int (jS I q (by simp))
  |str j=>obtain⟨t',rfl⟩:=ry;exact PySem.EqNone.ne_none_str (jS I q (by simp))
  |_=>exact absurd (show false=true from hs) D2
 |bl i=>
  cases rx;cases y with
  |non=>cases ry;exact PySem.EqNone.ne_bool_none (jS I q (by simp))
  |bl j=>cases ry;exact ne_bool (jS I q (congrArg not Aa))
  |str j=>obtain⟨t',rfl⟩:=ry;exact PySem.EqMixed.ne_bool_str (jS I q (by simp))
  |_=>exact absurd (show false=true from hs) D2
 |int i=>
  obtain⟨t,rfl⟩:=rx;cases y with
  |non=>cases ry;exact PySem.EqNone.ne_int_none (jS I q (by simp))
  |int j=>obtain⟨t',rfl⟩:=ry;exact ne_int (jS I q (congrArg not NG))
  |str j=>obtain⟨t',rfl⟩:=ry;exact PySem.EqMixed.ne_int_str (jS I q (by simp))
  |_=>exact absurd (show false=true from hs) D2
 |str i=>
  obtain⟨t,rfl⟩:=rx;cases y with
  |non=>cases ry;exact PySem.EqNone.ne_str_none (jS I q (by simp))
  |bl j=>cases ry;exact PySem.EqMixed.ne_str_bool (jS I q (by simp))
  |int j=>obtain⟨t',rfl⟩:=ry;exact PySem.EqMixed.ne_str_int (jS I q (by simp))
  |str j=>obtain⟨t',rfl⟩:=ry;exact ne_str (jS I q (congrArg not NH))
  |_=>exact absurd (show false=true from hs) D2
 |byt i=>
  obtain⟨t,rfl⟩:=rx;cases y with
  |byt j=>obtain⟨t',rfl⟩:=ry;exact PySem.W.ne_bytes (jS I q (congrArg not NI))
  |_=>exact absurd (show false=true from hs) D2
 |_=>cases y<;>exact absurd (show false=true from hs) D2
theorem kM:OpR X (compareOp .Lt) (rI0 λi j=> .bl (decide (i<j))):=kg λ_ _ _ _ _ _ _ q=>lt_int q
theorem kN:OpR X (compareOp .LtE) (rI0 λi j=> .bl (decide (i<=j))):=kg λ_ _ _ _ _ _ _ q=>le_int q
theorem kO:OpR X (compareOp .Gt) (rI0 λi j=> .bl (decide (j<i))):=kg λ_ _ _ _ _ _ _ q=>gt_int q
theorem kQ:OpR X (compareOp .GtE) (rI0 λi j=> .bl (decide (j<=i))):=kg λ_ _ _ _ _ _ _ q=>ge_int q
theorem TY:OpR X (compareOp .Is) (λx y H Q=>y= .non/\Q (.bl (decide (x= .non))) H):=by
 intro pins s σ H x y v u Q I rx ry h;obtain⟨rfl,q⟩:=h;cases ry;refine is_none_gen (jS I q ?_);cases x<;>first
  |(cases rx;rfl)
  |(obtain⟨t,rfl⟩:=rx;rfl)
theorem AL:OpR X (compareOp .IsNot) (λx y H Q=>y= .non/\Q (.bl (!decide (x= .non))) H):=by
 intro pins s σ H x y v u Q I rx ry h;obtain⟨rfl,q⟩:=h;cases ry;refine isnot_none_gen (jS I q ?_);cases x<;>first
  |(cases rx;rfl)
  |(obtain⟨t,rfl⟩:=rx;rfl)
variable {r:R2}
theorem OpR.or {f:G3->G3->Sem G3}{r':R2}(h:OpR X f r)(h':OpR X f r'):OpR X f (λx y H Q=>r x y H Q\/r' x y H Q):=by
 intro pins s σ H x y v u Q I rx ry q;rcases q with q|q
 ·exact h pins s σ H x y v u Q I rx ry q
 ·exact h' pins s σ H x y v u Q I rx ry q
theorem Ab (b:Expr){op:dA}(h:op≠ .In:=by decide)(h2:op≠ .NotIn:=by decide):behindInMarks op b=false:=by
 have e1:(op==CmpOp.In)=false:=by cases op<;>first|rfl|exact absurd rfl h
 have e2:(op==CmpOp.NotIn)=false:=by cases op<;>first|rfl|exact absurd rfl h2
 cases b<;>simp [behindInMarks,e1,e2]
theorem AM {op:dA}(ho:OpR X (compareOp op) r)(ha:PE X a ta)(hb:PE X b tb)(hm:behindInMarks op b=false):PE X (.Compare a [op] [b] pos) (tOp r ta tb):=by
 intro pins s σ H Q I h;exact wpAny_Compare1 (kJ ha hb I h λv u s2 x y H2 I2 rx ry q=>ho pins s2 σ H2 x y v u Q I2 rx ry q) hm
def AN (t:TE):TT:=λσ H Q=>t σ H λx H'=> ∃k,x= .bl k/\Q k H'
theorem AO {op:dA}(ho:OpR X (compareOp op) r)(ha:PE X a ta)(hb:PE X b tb)(hm:behindInMarks op b=false):PT X (.Compare a [op] [b] pos) (AN (tOp r ta tb)):=by
 intro pins s σ H Q I h;refine wpAny_isTrue_Compare1 (thn (ha pins s σ H _ I h) λv s1 ⟨x,H1,I1,r1,q1⟩=>thn (hb pins s1 σ H1 _ I1 q1) λu s2 ⟨y,H2,I2,r2,q2⟩=>
  thn (ho pins s2 σ H2 x y v u _ I2 r1 r2 q2) λc s3 ⟨z,H3,I3,r3,k,e,q3⟩=> ?_) hm
 subst e;cases r3;exact B8 ⟨H3,I3,q3⟩
def NJ (r r':R2)(ta tb tc:TE):TE:=λσ H Q=>ta σ H λx H1=>tb σ H1 λy H2=>r x y H2 λz H3=> ∃k,z= .bl k/\
 (if k=true then tc σ H3 λw' H4=>r' y w' H4 Q else Q (.bl false) H3)
theorem FO {op op':dA}{r':R2}(ho:OpR X (compareOp op) r)(ho':OpR X (compareOp op') r')(ha:PE X a ta)(hb:PE X b tb)(hc:PE X c tc)
 (hm:lastMarks [op,op'] [b,c]=false:=by with_unfolding_all rfl):PE X (.Compare a [op,op'] [b,c] pos) (NJ r r' ta tb tc):=by
 intro pins s σ H Q I h;refine Compare_chain (thn (ha pins s σ H _ I h) λv s1 ⟨x,H1,I1,r1,q1⟩=>chain_link (thn (hb pins s1 σ H1 _ I1 q1) λu s2 ⟨y,H2,I2,r2,q2⟩=>
  thn (ho pins s2 σ H2 x y v u _ I2 r1 r2 q2) λd s3 ⟨z,H3,I3,r3,k,e,q3⟩=> ?_)) hm
 subst e;cases r3;refine B8 ?_;cases k with
 |false=>exact ite_ff ⟨.bl false,H3,I3,rfl,q3⟩
 |true=>exact ite_tt (chain_last (thn (hc pins s3 σ H3 _ I3 q3) λw' s4 ⟨z',H4,I4,r4,q4⟩=>ho' pins s4 σ H4 y z' u w' Q I4 r2 r4 q4))
theorem FP {op op':dA}{r':R2}(ho:OpR X (compareOp op) r)(ho':OpR X (compareOp op') r')(ha:PE X a ta)(hb:PE X b tb)(hc:PE X c tc)
 (hm:lastMarks [op,op'] [b,c]=false:=by with_unfolding_all rfl):PT X (.Compare a [op,op'] [b,c] pos) (AN (NJ r r' ta tb tc)):=by
 intro pins s σ H Q I h;refine isTrue_chain (thn (ha pins s σ H _ I h) λv s1 ⟨x,H1,I1,r1,q1⟩=>test_link (thn (hb pins s1 σ H1 _ I1 q1) λu s2 ⟨y,H2,I2,r2,q2⟩=>
  thn (ho pins s2 σ H2 x y v u _ I2 r1 r2 q2) λd s3 ⟨z,H3,I3,r3,k,e,q3⟩=> ?_)) hm
 subst e;cases r3;refine B8 ?_;cases k with
 |false=>
  obtain⟨k',e',q'⟩:=q3;cases e';exact ite_ff ⟨H3,I3,q'⟩
 |true=>
  refine ite_tt (test_last (thn (hc pins s3 σ H3 _ I3 q3) λw' s4 ⟨z',H4,I4,r4,q4⟩=>thn (ho' pins s4 σ H4 y z' u w' _ I4 r2 r4 q4) λd' s5 ⟨z2,H5,I5,r5,k2,e2,q5⟩=> ?_));subst e2;cases r5;exact B8 ⟨H5,I5,q5⟩
theorem Gb:(sizeLine:Nat)<2^63:=by rw [nV];decide
theorem ZD {x:V}{us:List G3}(r:Vals [x] us): ∃u,us= [u]/\RelV x u:=by
 cases r with
 |cons r1 r2=>cases r2;exact⟨_,rfl,r1⟩
theorem FQ {x y:V}{us:List G3}(r:Vals [x,y] us): ∃u w',us= [u,w']/\RelV x u/\RelV y w':=by
 cases r with
 |cons r1 r2=>
  cases r2 with
  |cons r3 r4=>cases r4;exact⟨_,_,rfl,r1,r3⟩
theorem NK (hc:X.calm=true):CallR X (.builtin "max") (λxs H Q=> ∃i j,xs= [.int i,.int j]/\Q (.int (if j>i then j else i)) H):=by
 intro pins s σ H xs us Q I r h;obtain⟨i,j,rfl,q⟩:=h;obtain⟨u,w',rfl,⟨t,rfl⟩,⟨t',rfl⟩⟩:=FQ r;refine max_two_ints (I.ok.hd hc) λh' tk k=>⟨_,H,I.kept k,?_,q⟩
 by_cases hj:j>i
 ·rw [if_pos hj,if_pos hj];exact⟨_,rfl⟩
 ·rw [if_neg hj,if_neg hj];exact⟨_,rfl⟩
theorem call_int1:CallR X (.type "int") (λxs H Q=>(∃i,xs= [.int i]/\Q (.int i) H)\/ ∃k,xs= [.bl k]/\Q (.int (if k then 1 else 0)) H):=by
 intro pins s σ H xs us Q I r h;rcases h with ⟨i,rfl,q⟩|⟨k,rfl,q⟩
 ·obtain⟨u,rfl,t,rfl⟩:=ZD r;exact call_int_int ⟨.int i,H,I,⟨_,rfl⟩,q⟩
 ·obtain⟨u,rfl,r1⟩:=ZD r;cases r1;exact call_int_bool ⟨.int (if k then 1 else 0),H,I.tok _,⟨_,rfl⟩,q⟩
end
structure ObjM (h:Heap)(x dx C:Addr)(mA:Str->Option G3):Prop where
 obj:h.get? x=some (PySem.W.instObj C dx)
 ns:h.Ns1 dx mA
 ne:dx≠x
theorem NL {dx:Addr}{mA:Str->Option G3}(n:h.Ns1 dx mA): ∃od,h.get? dx=some od/\ ∀name,PySem.W.lookIn name od=some (mA name):=by
 obtain⟨o,es,ep,ho,hd,hk,_,hm⟩:=n;refine⟨o,ho,λname=> ?_⟩;have e:=hm name;unfold nsFind findBy at e;rw [<-Array.find?_toList] at e;unfold PySem.W.lookIn;rw [hd];dsimp only;split
 ·rename_i y q;rw [q] at e;exact congrArg some e
 ·rename_i q;rw [q] at e;have a:es.toList.any (·.refKey)=false:=by
   rw [List.any_eq_false];intro y hy;obtain⟨z,t,hkey⟩:=hk y (Array.mem_toList_iff.mp hy);simp [DictEntry.refKey,hkey]
  have a': ¬es.toList.any (·.refKey)=true:=by rw [a];exact D2
  rw [if_neg a'];exact congrArg some e
theorem ObjM.look {x dx C:Addr}{mA:Str->Option G3}(I:ObjM h x dx C mA): ∃od,PySem.W.InstAt h x (PySem.W.instObj C dx) C (some od)/\ ∀name,PySem.W.lookIn name od=some (mA name):=
 let ⟨od,ho,hl⟩:=NL I.ns
 ⟨od,⟨I.obj,rfl,rfl,ho⟩,hl⟩
section
variable {P:S3}{w:N2}{H H':Hp}{h h':Heap}{a C dx:Addr}{fs fs':List (Str×V)}
theorem AQ (hok:HOk P w H h)(e:H a=some (.ins C dx fs)): ∃mA,ObjM h a dx C mA/\(∀f,kD (fs.lookup f) (mA f))/\PySem.Within mA (fs.map (·.1))/\fs.length<=1000/\H dx=some (.own a):=by
 obtain⟨d,z,ne,ob,mA,n,r,q⟩:=(show ObjOk P w H h a (.ins C dx fs) from hok a _ e);exact⟨mA,⟨ob,n,ne⟩,r,q,z,d⟩
end
structure Cls (K:PySem.W.Frag)(C:Addr):Prop where
 pg:PySem.W.plainGet K C mY=true
 hd:PySem.W.hasDictIn K C=true
 po:PySem.W.plainOver K C=true
 sa:PySem.W.findIn K (.ref C) "__setattr__" =some (some (.builtin "object.__setattr__"))
theorem Cls.get {C:Addr}(c:Cls K C)(f:Str):PySem.W.plainGet K C f=true:=c.pg
section
variable {X:Cx}{pins:List (Addr×Obj)}{σ:St}{H:Hp}{s:G6}{A:M7}{E:G3->G6->Prop}{Q:G3->G6->Prop}{c:G3}{b:Bool}
inductive TyOf (K:PySem.W.Frag)(H:Hp):V->G3->Prop where
 |non:TyOf K H .non (.type "NoneType")
 |bl (x:Bool):TyOf K H (.bl x) (.type "bool")
 |int (i:Int):TyOf K H (.int i) (.type "int")
 |str (x:Str):TyOf K H (.str x) (.type "str")
 |flt (x:UInt64):TyOf K H (.flt x) (.type "float")
 |lst {a:Addr} {xs:List V} (e:H a=some (.lst xs)):TyOf K H (.ref a) (.type "list")
 |frz {a:Addr} {o:Obj} {xs:List V} (e:H a=some (.frz o (.lst xs))):TyOf K H (.ref a) (.type "list")
 |tup {a:Addr} {xs:List V} (e:H a=some (.tup xs)):TyOf K H (.ref a) (.type "tuple")
 |dK {a:Addr} {kvs:List (Key×V)} (e:H a=some (.dK kvs)):TyOf K H (.ref a) (.type "dict")
 |dT {a:Addr} {kvs:List (List Key×V)} (e:H a=some (.dT kvs)):TyOf K H (.ref a) (.type "dict")
 |ins {a C dx:Addr} {fs:List (Str×V)} (e:H a=some (.ins C dx fs)) (cl:Cls K C) (ha:PySem.W.findIn K (.ref C) "__class__" =some (some (.builtin "object.__class__")))
  (hn:PySem.W.specialIn K (.builtin "object.__class__") "__get__" =some (some (.builtin "getset_descriptor.__get__"))) (htk:PySem.W.takesIn K (.builtin "object.__class__")=some true)
  (hm:PySem.W.mroIn K C (.type "object")=some true):TyOf K H (.ref a) (.ref C)
theorem NM {x:V}{u t:G3}(I:Inv X pins σ H s)(rx:RelV x u)(ty:TyOf X.K H x t)(e:PySem.W.kitOne X.K t c=some b)(h: ∀tk,Q (.bool b) {s with toks:=tk}):
 wpAny (model X.prog X.w) A (call (.builtin "isinstance") [u,c]) Q E s:=by
 cases ty with
 |non=>cases (show u=gQ from rx);exact PySem.W.kia_one PySem.W.kitx_none I.kIn cI e (λz=>nomatch z) h
 |bl y=>cases (show u=V3 y from rx);exact PySem.W.kia_one PySem.W.kitx_bool I.kIn cI e (λz=>nomatch z) h
 |int i=>obtain⟨t,q⟩:=(show ∃t,u=bC i t from rx);cases q;exact PySem.W.kia_one PySem.W.kitx_int I.kIn cI e (λz=>nomatch z) h
 |str y=>obtain⟨t,q⟩:=(show ∃t,u=iW y t from rx);cases q;exact PySem.W.kia_one PySem.W.kitx_str I.kIn cI e (λz=>nomatch z) h
 |flt y=>obtain⟨t,q⟩:=(show ∃t,u=nQ y t from rx);cases q;exact PySem.W.kia_one PySem.W.kitx_float I.kIn cI e (λz=>nomatch z) h
 | @lst a xs ea=>
  cases (show u=aO a from rx);obtain⟨_,_,n,_,h1⟩:=(show ObjOk X.prog X.w H s.heap a (.lst xs) from I.hok a _ ea);exact PySem.W.kia_one PySem.W.kitx_list I.kIn ⟨_,h1,rfl⟩ e (λz=>nomatch z) h
 | @frz a ob xs ea=>
  cases (show u=aO a from rx);obtain⟨_,_,_,n,_,h1⟩:=(show ObjOk X.prog X.w H s.heap a (.frz ob (.lst xs)) from I.hok a _ ea);exact PySem.W.kia_one PySem.W.kitx_list I.kIn ⟨_,h1,rfl⟩ e (λz=>nomatch z) h
 | @tup a xs ea=>
  cases (show u=aO a from rx);obtain⟨_,_,_,p⟩:=(show ObjOk X.prog X.w H s.heap a (.tup xs) from I.hok a _ ea);obtain⟨o,h1,h2,_⟩:=p;exact PySem.W.kia_one PySem.W.kitx_tuple I.kIn ⟨o,h1,h2⟩ e (λz=>nomatch z) h
 | @dK a kvs ea=>
  cases (show u=aO a from rx);obtain⟨_,_,vs,_,p⟩:=(show ObjOk X.prog X.w H s.heap a (.dK kvs) from I.hok a _ ea);obtain⟨o,es,ep,h1,h2,_⟩:=p;exact PySem.W.kia_one PySem.W.kitx_dict I.kIn ⟨o,h1,h2.1⟩ e (λz=>nomatch z) h
 | @dT a kvs ea=>
  cases (show u=aO a from rx);obtain⟨_,_,xs,_,o,es,ep,h1,h2,_⟩:=(show ObjOk X.prog X.w H s.heap a (.dT kvs) from I.hok a _ ea);exact PySem.W.kia_one PySem.W.kitx_dict I.kIn ⟨o,h1,h2.1⟩ e (λz=>nomatch z) h
 | @ins a C dx fs ea cl ha hn htk hm=>
  cases (show u=aO a from rx);obtain⟨mA,O,_⟩:=AQ I.hok ea;obtain⟨od,J,_⟩:=O.look;exact PySem.W.kia_one (PySem.W.kitx_own (cl.get _) cl.hd ha hn htk hm) I.kIn J e (λz=>nomatch z) h
end
structure Room (k:Nat)(A:M7):Prop where
 hd:A.handled=none
 dp:A.depth+3*k+5<recursionLimit
 un:A.units+16*k+200<cLine
 gd:A.guards=some []
variable {k:Nat}
theorem Room.deeper (r:Room (k+1) A)(env:Env):Room k (A.deeper env):=
 ⟨r.hd,by have:=r.dp;show A.depth+1+3*k+5<_;omega,by have:=r.un;show A.units+3+16*k+200<_;omega,r.gd⟩
theorem Room.depth (r:Room k A):A.depth<recursionLimit:=by have:=r.dp;omega
theorem Room.units (r:Room k A):A.units+64<cLine:=by have:=r.un;omega
def xJ:TA:=λ_ H Q=>Q [] H
def TZ (ta:TE)(tr:TA):TA:=λσ H Q=>ta σ H λx H1=>tr σ H1 λxs H2=>Q (x::xs) H2
section
variable {X:Cx}{e:Expr}{es:List Expr}{te:TE}{t:TA}{pos:Pos}
theorem pa_nil:PA X [] xJ:=λ_ _ _ _ H Q I h=>Calls.spliced_nil ⟨[],H,I,.nil,h⟩
theorem Js (ha:PE X e te)(hr:PA X es t)(hs:starEach (e::es) X.env=(false,eval e X.env)::starEach es X.env:=by rfl):PA X (e::es) (TZ te t):=by
 intro pos pins s σ H Q I h;rw [hs];show wpAny _ _ (spliced ((false,eval e X.env)::backTo pos (starEach es X.env))) _ _ s;refine Calls.spliced_cons (thn (ha pins s σ H _ I h) λu s1 ⟨x,H1,I1,r1,q1⟩=> ?_);exact thn (hr pos pins s1 σ H1 _ I1 q1) λus s2 ⟨xs,H2,I2,r2,q2⟩=>⟨x::xs,H2,I2,.cons r1 r2,q2⟩
def xK (t:TA):TE:=λσ H Q=>t σ H λxs H1=>xs.length<=sizeLine/\ ∀p,H1 p=none->Q (.ref p) (upd H1 p (.tup xs))
def xL (t:TA):TE:=λσ H Q=>t σ H λxs H1=>xs.length<=sizeLine/\ ∀p,H1 p=none->Q (.ref p) (upd H1 p (.lst xs))
theorem Ha {x1}(h:PA X es t):PE X (.Tuple es x1 pos) (xK t):=by
 intro pins s σ H Q I hq;refine wpAny_Tuple_spliced (thn (h pos pins s σ H _ I hq) λus s1 ⟨xs,H1,I1,r,z,q⟩=>⟨by rw [<-r.length];exact z,?_⟩);have hf:H1 s1.heap.objs.size=none:=I1.hok.fresh (P0 _);refine⟨.ref s1.heap.objs.size,upd H1 s1.heap.objs.size (.tup xs),I1.laid (t':=s1.toks) (λb u e=>G7 _ e) (P0 _) ?_,rfl,q _ hf⟩;exact⟨z,us,r,IsTupN.new _ _⟩
theorem Hb (h:PA X es t):PE X (.List es pos) (xL t):=by
 intro pins s σ H Q I hq;refine wpAny_List_spliced (thn (h pos pins s σ H _ I hq) λus s1 ⟨xs,H1,I1,r,z,q⟩=>⟨by rw [<-r.length];exact z,?_⟩);have hf:H1 s1.heap.objs.size=none:=I1.hok.fresh (P0 _);refine⟨.ref s1.heap.objs.size,upd H1 s1.heap.objs.size (.lst xs),I1.laid (t':=s1.toks) (λb u e=>G7 _ e) (P0 _) ?_,rfl,q _ hf⟩;exact⟨z,us,0,r,D7 _ rfl⟩
end
abbrev Sp:=List V->Hp->VK->XK->Prop
abbrev CXT:=List Env->Hp->G6->XK->G3->G6->Prop
structure Env0 (P:S3)(w:N2)(K:PySem.W.Frag)(mg:Str->Option G3)(base:Heap)(A:M7)(outer:List Env)(s:G6)(H:Hp):Prop where
 frames:A.frames=some outer
 mod:Mod K mg base
 bs: ∀b o,base.get? b=some o->s.heap.get? b=some o/\H b=none
 bsz:base.objs.size<=s.heap.objs.size
 funs:s.heap.FunFrames base outer
 frf: ∀b∈frs outer,H b=none
 hok:HOk P w H s.heap
 bare:c9 s.gens
def CE (outer:List Env)(P:S3)(w:N2)(H:Hp)(s:G6)(Q:VK)(u:G3)(s':G6):Prop:=
 ∃v H',s'.os=s.os/\c9 s'.gens/\Un (frs outer) [] H H' s.heap s'.heap/\HOk P w H' s'.heap/\RelV v u/\Q v H'
def CR (CX:CXT)(outer:List Env)(P:S3)(w:N2)(H:Hp)(s:G6)(Q:VK)(E:XK)(r:oP)(s':G6):Prop:=
 match r with
 | .ok (.ret u)=>CE outer P w H s Q u s'
 | .ok _=>False
 | .error e=>CX outer H s E e s'
structure FnOk (P:S3)(w:N2)(K:PySem.W.Frag)(mg:Str->Option G3)(base:Heap)(CX:CXT)(k:Nat)(f:Addr)(fd:D8)(ps:List Str)(sp:Sp):Prop where
 len: ∀vs H Q E,sp vs H Q E->vs.length=ps.length
 run: ∀ (A:M7) (outer:List Env) (s:G6) (H:Hp) (args:Args) (us:List G3) (vs:List V) (Q:VK) (E:XK),Room k A->Env0 P w K mg base A outer s H->l7 s fd args (ps.zip us)->Vals vs us->sp vs H Q E->
  codeAny (model P w) A (.call (.ref f) args) (CR CX outer P w H s Q E) s
section
variable {X:Cx}{pins:List (Addr×Obj)}{σ:St}{H:Hp}{s s':G6}
theorem Inv.env0 (I:Inv X pins σ H s):Env0 X.prog X.w X.K X.mg X.base X.A X.stack s H:=
 ⟨I.ok.frames,I.ok.mod,I.bs,R9 I.ok.bsz I.sz,I.stack,I.stkFree,I.hok,I.bare⟩
theorem Inv.after {Q:VK}{u:G3}(I:Inv X pins σ H s)(h:CE X.stack X.prog X.w H s Q u s'):EP X pins σ Q u s':=by
 obtain⟨v,H',os,bare,un,hok,r,q⟩:=h;obtain⟨hh,g,d,t,os'⟩:=s';obtain rfl:os'=s.os:=os;exact⟨v,H',I.call (h':=hh) (g':=g) (d':=d) (t':=t) (ch:= []) un hok bare (λb z=>absurd z (by simp)),r,q⟩
end
def Hc (sp:Sp)(dvs:List V)(E:XK)(t:TA):TE:=λσ H Q=>t σ H λvs H1=>sp (vs++dvs) H1 Q E
def Binds (K:PySem.W.Frag)(fd:D8)(ps:List Str)(ds:List G3):Prop:=
 ∀ (s:G6) (us:List G3),K.In s.heap->(us++ds).length=ps.length->l7 s fd ⟨us,[]⟩ (ps.zip (us++ds))
theorem Binds.all {fd:D8}{ps:List Str}(h: ∀us:List G3,us.length=ps.length->bindArgs fd ⟨us,[]⟩=pure (ps.zip us)):Binds K fd ps []:=λs us _ hl=>by
 rw [B7] at hl ⊢;exact .of_eq (h us hl)
def NN (CX:CXT)(X:Cx)(E:XK):Prop:= ∀ (pins:List (Addr×Obj)) (σ:St) (H:Hp) (s:G6) (e:G3) (s':G6),Inv X pins σ H s->CX X.stack H s E e s'->X.xe e s'
section
variable {X:Cx}{CX:CXT}{k:Nat}{f C:Addr}{fd:D8}{ps:List Str}{sp:Sp}{dvs:List V}{ds:List G3}{E:XK}{x m:Str}{p pos apos:Pos}{e o:Expr}{es:List Expr}{ta:TE}{t:TA}
theorem Hd {pins:List (Addr×Obj)}{σ:St}{H:Hp}{s:G6}{Q:VK}{us:List G3}{vs:List V}(F:FnOk X.prog X.w X.K X.mg X.base CX k f fd ps sp)(hr:Room k X.A)(hb:Binds X.K fd ps ds)(hd:Vals dvs ds)(hx:NN CX X E)
 (I:Inv X pins σ H s)(r:Vals vs us)(h:sp (vs++dvs) H Q E):wpAny (model X.prog X.w) X.A (call (.ref f) us) (EP X pins σ Q) X.xe s:=by
 have r2:Vals (vs++dvs) (us++ds):=r.append hd;have hl:(us++ds).length=ps.length:=by rw [<-r2.length];exact F.len _ _ _ _ h
 refine gS (iB (F.run X.A X.stack s H ⟨us,[]⟩ (us++ds) (vs++dvs) Q E hr I.env0 (hb s us I.kIn hl) r2 h) λr s' hq=> ?_);cases r with
 |error e=>exact hx pins σ H s e s' I hq
 |ok fl=>
  cases fl with
  |ret u=>exact I.after hq
  |next=>exact False.elim hq
  |brk=>exact False.elim hq
  |cont=>exact False.elim hq
theorem AR (F:FnOk X.prog X.w X.K X.mg X.base CX k f fd ps sp)(hr:Room k X.A)(hg:Gl X x)(hm:X.mg x=some (.ref f))(hk:PySem.W.keepIn X.K (.ref f)=true)(hb:Binds X.K fd ps ds)(hd:Vals dvs ds)(hx:NN CX X E)
 (ha:PA X (e::es) t)(hdb:(x==("__debug__" :Str))=false:=by decide)(he:starEach (e::es) X.env=(false,eval e X.env)::starEach es X.env:=by rfl)(hpl:(backTo pos (starEach es X.env)).any (·.1)=false:=by rfl):
 PE X (.Call (.Name x p) (e::es) [] pos) (Hc sp dvs E t):=by
 intro pins s σ H Q I h;refine cJ (NE I hg hm ?_ hdb);refine PySem.W.callWith_K (h₀:=X.base) I.ok.mod.kin hk (thn (ha pos pins s σ H _ I h) λus s1 ⟨vs,H1,I1,r,q⟩=>⟨I1.kIn,?_⟩) he hpl;exact Hd F hr hb hd hx I1 r q
end
structure FnScope (N P:List Str)(sc:J6):Prop where
 kind:sc.kind= .function
 co:sc.isCoroutine=false
 gen:sc.isGenerator=false
 nd:N.Nodup
 pre:N.take P.length=P
 par: ∀x∈P,sc.names.lookup x=some .local\/sc.names.lookup x=some .cell
 nofree: ∀y∈sc.names,y.2≠ .free
variable {kindOf:Str->Option NameKind}{x:Str}
theorem Gc: ∀ {binds:List (Str×G3)} {m:Str->Option G3},(∀v,(x,v) ∉ binds)->bindL kindOf binds m x=m x
 | [],_,_=>rfl
 |(n,v)::r,m,h=>by
  unfold bindL;rw [Gc λw hw=>h w (D5 _ hw)];split
  ·have:x≠n:=by rintro rfl;exact h v D0
   simp [this]
  ·rfl
theorem Gd: ∀ {binds:List (Str×G3)} {m:Str->Option G3},(∀v,(x,v) ∉ binds)->bindC kindOf binds m x=m x
 | [],_,_=>rfl
 |(n,v)::r,m,h=>by
  unfold bindC;rw [Gd λw hw=>h w (D5 _ hw)];split
  ·rfl
  ·have:x≠n:=by rintro rfl;exact h v D0
   simp [this]
theorem Ge {v:G3}: ∀ {P:List Str} {vs:List G3} {i:Nat} {m:Str->Option G3},P.Nodup->P[i]? =some x->vs[i]? =some v->kindOf x=some .local->
 bindL kindOf (P.zip vs) m x=some v
 | [],_,_,_,_,h,_,_=>by simp at h
 |_::_,[],_,_,_,_,h,_=>by simp at h
 |p::P,w::vs,0,m,nd,h1,h2,hk=>by
  simp at h1 h2;subst h1;subst h2;show bindL kindOf ((p,w)::P.zip vs) m p=_;unfold bindL;rw [Gc λv hv=>(K3.mp nd).1 (aD hv).1,if_pos hk];simp
 |p::P,w::vs,i+1,m,nd,h1,h2,hk=>by
  show bindL kindOf ((p,w)::P.zip vs) m x=_;unfold bindL;exact Ge (i:=i) (K3.mp nd).2 (by simpa using h1) (by simpa using h2) hk
theorem Gf {v:G3}: ∀ {P:List Str} {vs:List G3} {i:Nat} {m:Str->Option G3},P.Nodup->P[i]? =some x->vs[i]? =some v->kindOf x≠some .local->
 bindC kindOf (P.zip vs) m x=some v
 | [],_,_,_,_,h,_,_=>by simp at h
 |_::_,[],_,_,_,_,h,_=>by simp at h
 |p::P,w::vs,0,m,nd,h1,h2,hk=>by
  simp at h1 h2;subst h1;subst h2;show bindC kindOf ((p,w)::P.zip vs) m p=_;unfold bindC;rw [Gd λv hv=>(K3.mp nd).1 (aD hv).1,if_neg hk];simp
 |p::P,w::vs,i+1,m,nd,h1,h2,hk=>by
  show bindC kindOf ((p,w)::P.zip vs) m x=_;unfold bindC;exact Gf (i:=i) (K3.mp nd).2 (by simpa using h1) (by simpa using h2) hk
def start (N:List Str)(vs:List V):St:=vs.map some++S4 (N.length-vs.length) none
def FR (CX:CXT)(P:S3)(w:N2)(K:PySem.W.Frag)(mg:Str->Option G3)(base:Heap)(N:List Str)(qual:Str)(scope:J6)(f:Addr)(cd:G3)(A:M7)(outer:List Env)(s:G6)(H:Hp)(E:XK):Cx where
 prog:=P
 w:=w
 K:=K
 mg:=mg
 base:=base
 A:=A.deeper (envOfC qual scope s.heap.objs.size f cd)
 N:=N
 s₀:=s
 H₀:=H
 env:=envOfC qual scope s.heap.objs.size f cd
 outer:=outer
 stack:=envOfC qual scope s.heap.objs.size f cd::outer
 ex:= []
 calm:=true
 fn:=λ_=>true
 pn:= []
 xe:=λe s'=>wpAny (model P w) (A.deeper (envOfC qual scope s.heap.objs.size f cd)) (leaving (envOfC qual scope s.heap.objs.size f cd) e) (λ_ s''=>CX outer H s E e s'') (λe' s''=>CX outer H s E e' s'') s'
theorem Vg {sc:J6}{n:Nat}(h:sc.names.lookup x=some .cell): ∃c,(cellsFrom n sc.names []).lookup x=some c:=by
 have q:=PySem.W.cellsFrom_some sc.names n [] (.inl h);exact Option.isSome_iff_exists.mp q
theorem NO {CX:CXT}{mg:Str->Option G3}{base:Heap}{N ps:List Str}{qual:Str}{scope:J6}{f:Addr}{cd:G3}{outer:List Env}{s1:G6}{E:XK}{us:List G3}{vs:List V}
 (S:FnScope N ps scope)(hd:A.handled=none)(e0:Env0 P w K mg base A outer s H)(hl:vs.length=ps.length)(r:Vals vs us)
 (x:InCallC s s.heap.objs.size (bindL (envOfC qual scope s.heap.objs.size f cd).kindOf (ps.zip us) λ_=>none) (cellsFrom (s.heap.objs.size+1) scope.names []) (bindC (envOfC qual scope s.heap.objs.size f cd).kindOf (ps.zip us) λ_=>none) s1):
 Inv (FR CX P w K mg base N qual scope f cd A outer s H E) [] (start N vs) H s1:=by
 have hpl:ps.length<=N.length:=by have:=congrArg W4 S.pre;rw [R7] at this;omega
 obtain⟨h1,tk,rfl,hk⟩:=x.done;have noA: ∀b:Addr,b ∉ (FR CX P w K mg base N qual scope f cd A outer s H E).ex:=λb z=>absurd (show b∈([]:List Addr) from z) (by simp)
 refine⟨⟨e0.mod,S.kind,rfl,rfl,P0 _,λy z c h1 h2=> ?_,λy hy=> ?_,λy c _ h=> ?_,λ_=>hd,Around.frames_deeper e0.frames,.inr ⟨rfl,rfl⟩,λb z=>absurd z (noA b),e0.bs,e0.bsz,λb _ _=>noA b,λb z=>absurd z (noA b),e0.funs,e0.frf⟩,
  rfl,e0.bare,Un.kept hk,⟨_,x.toInCall.ns,λi y v h1 h2 h3=> ?_⟩,λy c h=>⟨_,x.cell y c h⟩,e0.hok.fresh (P0 _),λy c h=> ?_,λp hp=>absurd (show p∈([]:List (Addr×Obj)) from hp) (by simp),e0.hok.kept hk,?_⟩
 ·exact m9 x.apart (PySem.mem_of_lookup h1) (PySem.mem_of_lookup h2)
 ·have hy:scope.names.lookup y=some .cell\/scope.names.lookup y=some .free:=hy;rcases hy with hy|hy
  ·exact Vg hy
  ·exact absurd rfl (S.nofree _ (PySem.mem_of_lookup hy))
 ·exact R1 (x.above y c (PySem.mem_of_lookup h))
 ·have hi:i<vs.length:=by
   unfold start at h2
   by_cases hi:i<vs.length
   ·exact hi
   ·rw [D3 (by simpa using hi)] at h2;rw [dN] at h2;split at h2<;>cases h2
  have ha:vs[i]? =some v:=by
   unfold start at h2;rw [R4 (by simpa using hi),P1] at h2;cases e:vs[i]? with
   |none=>rw [e] at h2;cases h2
   |some a=>rw [e] at h2;cases h2;rfl
  obtain⟨u,hu,rv⟩:=r.get ha;have hp:ps[i]? =some y:=by
   rw [<-S.pre,Z9 (by omega)];exact h1
  have ndP:ps.Nodup:=by rw [<-S.pre];exact S.nd.sublist (Q9 _ _)
  refine⟨u,rv,?_⟩;rcases S.par y (P4 hp) with k|k
  ·exact .inl ⟨k,Ge ndP hp hu k⟩
  ·obtain⟨c,e⟩:=Vg (n:=s.heap.objs.size+1) k;refine .inr ⟨.inl k,c,e,?_⟩;have q:=x.cell y c e;rw [Gf ndP hp hu (by show scope.names.lookup y≠_;rw [k];decide)] at q;exact q
 ·exact e0.hok.fresh (R1 (x.above y c (PySem.mem_of_lookup h)))
 ·unfold start;show _=N.length;rw [P2,G2,List.length_replicate];omega
theorem kS {CX:CXT}{mg:Str->Option G3}{base:Heap}{f:Addr}{name qual:Str}{params:Arguments}{body:List Stmt}{scope:J6}{dV kV doc pm cdv ct oc:G3}{an od:Option Addr}{osl:Array (Option G3)}{N ps:List Str}{sp:Sp}(lk:K.lookup f=some ⟨oc,od,.func (PySem.W.fnOf name qual params body scope dV kV doc pm an cdv ct),osl⟩)(hcd:PySem.W.codeIn K cdv qual=true)(S:FnScope N ps scope)
 (len: ∀vs H Q E,sp vs H Q E->vs.length=ps.length)
 (hbody: ∀ (A:M7) (outer:List Env) (s:G6) (H:Hp) (vs:List V) (Q:VK) (E:XK),Room k (A.deeper (envOfC qual scope s.heap.objs.size f cdv))->sp vs H Q E->
  ∃t,PSs (FR CX P w K mg base N qual scope f cdv A outer s H E) body t/\t {nx:=λ_ H'=>Q .non H',rt:=Q} (start N vs) H):
 FnOk P w K mg base CX (k+1) f (PySem.W.fnOf name qual params body scope dV kV doc pm an cdv ct) ps sp:=by
 refine⟨len,λA outer s H args us vs Q E hr e0 hb r hsp=> ?_⟩;have hl:=len _ _ _ _ hsp;have KX:K.In s.heap:=e0.mod.kin.keeps λb o e=>(e0.bs b o e).1
 have lim:s.heap.NoLimit:=e0.mod.nolimit.keeps λb o e=>(e0.bs b o e).1
 have hkind: ∀y∈ps.zip us,scope.names.lookup y.1=some .local\/(scope.names.lookup y.1=some .cell/\((cellsFrom (s.heap.objs.size+1) scope.names []).lookup y.1).isSome=true):=λ⟨n,v⟩ hy=>by
  rcases S.par n (aD hy).1 with q|q
  ·exact .inl q
  ·exact .inr ⟨q,PySem.W.cellsFrom_some _ _ _ (.inl q)⟩
 refine codeAny_call_function hr.depth (KX _ _ lk) rfl S.co S.gen rfl (PySem.W.codeRec_of KX hcd) (hb _ _ _ _ ?_);refine wpAny_newFunctionEnv_cells S.kind hkind λenv he s1 x=> ?_
 subst he;refine⟨lim.keeps x.toInCall.keep,codeAny_func ?_⟩;obtain⟨t,ht,hq⟩:=hbody A outer s H vs Q E (hr.deeper _) hsp;have I:Inv (FR CX P w K mg base N qual scope f cdv A outer s H E) [] (start N vs) H s1:=NO S hr.hd e0 hl r x;refine S6 (ht [] s1 (start N vs) H _ I hq) (λfl s' hs=> ?_) λe s' hs=>hs
 have fin: ∀ {oV:St} {H':Hp} {v:V} {u:G3},Inv (FR CX P w K mg base N qual scope f cdv A outer s H E) [] oV H' s'->RelV v u->Q v H'->CE outer P w H s Q u s':=
  λ{oV H' v u} J rv q=>⟨v,H',J.os,J.bare,J.base,J.hok,rv,q⟩
 cases fl with
 |ret u=>
  obtain⟨v,oV,H',J,rv,q⟩:=hs;exact fin J rv q
 |next=>
  obtain⟨oV,H',J,q⟩:=hs;exact fin (v:=V.non) (u:=gQ) J rfl q
 |brk=>
  obtain⟨_,_,_,q⟩:=hs;exact False.elim q
 |cont=>
  obtain⟨_,_,_,q⟩:=hs;exact False.elim q
section
variable {X:Cx}{x:Str}{p pos:Pos}{e:Expr}{es:List Expr}{t:TA}{id T:String}{r:List V->Hp->VK->Prop}
def tCB (r:List V->Hp->VK->Prop)(t:TA):TE:=λσ H Q=>t σ H λvs H1=>r vs H1 Q
theorem Rg (hc:CallR X (.builtin id) r)(hg:Gl X x)(hm:X.mg x=none)(hv:bootBuiltins x=some (.builtin id))(ha:PA X (e::es) t)(hn:x≠ "__name__" :=by decide)(hdb:(x==("__debug__" :Str))=false:=by decide)
 (he:starEach (e::es) X.env=(false,eval e X.env)::starEach es X.env:=by rfl)(hpl:(backTo pos (starEach es X.env)).any (·.1)=false:=by rfl):PE X (.Call (.Name x p) (e::es) [] pos) (tCB r t):=by
 intro pins s σ H Q I h;refine cJ (Zt I hg hm hv ?_ hn hdb);exact i5 (thn (ha pos pins s σ H _ I h) λus s1 ⟨vs,H1,I1,r1,q1⟩=>hc pins s1 σ H1 vs us Q I1 r1 q1) he hpl
theorem Gg (hc:CallR X (.type T) r)(hg:Gl X x)(hm:X.mg x=none)(hv:bootBuiltins x=some (.type T))(ha:PA X (e::es) t)(hn:x≠ "__name__" :=by decide)(hdb:(x==("__debug__" :Str))=false:=by decide)
 (he:starEach (e::es) X.env=(false,eval e X.env)::starEach es X.env:=by rfl)(hpl:(backTo pos (starEach es X.env)).any (·.1)=false:=by rfl):PE X (.Call (.Name x p) (e::es) [] pos) (tCB r t):=by
 intro pins s σ H Q I h;refine cJ (Zt I hg hm hv ?_ hn hdb);exact C4 (thn (ha pos pins s σ H _ I h) λus s1 ⟨vs,H1,I1,r1,q1⟩=>hc pins s1 σ H1 vs us Q I1 r1 q1) he hpl
end
end L2
namespace HT
open PySem PyProof.Rows
def zg:List Int->List Int->Bool
 | [],[]=>false
 | [],_::_=>true
 |_::_,[]=>false
 |x::xs,y::ys=>if x=y then zg xs ys else decide (x<y)
theorem Xb (x y:Int)(xs ys:List Int):zg (x::xs) (y::ys)=if x=y then zg xs ys else decide (x<y):=rfl
theorem XF:zg [] []=false:=rfl
theorem UL (y:Int)(ys:List Int):zg [] (y::ys)=true:=rfl
theorem UM (x:Int)(xs:List Int):zg (x::xs) []=false:=rfl
theorem Rh (A:M7)(s:G6)(a:Int)(t:Tok)(c:Int)(u:Tok): ∃e,SeqAt.EqAt A s (.int a t) (.int c u) e/\(e=true↔a=c):=
 ⟨(a==c),SeqAt.EqAt.int_int a t c u,by simp⟩
theorem FS (A:M7)(s:G6)(a:Int)(t:Tok)(c:Int)(u:Tok)(prog:S3)(w:N2)(E:G3->G6->Prop)(Q:G3->G6->Prop)(h:Q (.bool (decide (a<c))) s):
 wpAny (model prog w) A (richCompare .Lt (.int a t) (.int c u)) Q E s:=
 (gC h:wpAny (model prog w) A (compareOp .Lt (.int a t) (.int c u)) Q E s)
section
open PySem.SeqAt
open PySem.AutoSeq1 (wpAny_loadPart')
open PySem.MeetsSeq PySem.MeetsSeq2 PySem.MeetsSeq3
theorem Wh (l b:Addr)(items items2:Array G3)(n n2:Nat)(dd dd2:Option Addr)(sl sl2:Array (Option G3))(ns ms:List Int)(hi:A5 items.toList ns)(hj:A5 items2.toList ms):
 Meets (Builtin.«tuple.__lt__» ⟨[.ref l,.ref b],[]⟩)
  (λ_ R s=>s.heap.get? l=some {cls:= .type "tuple",dict:=dd,data:= .seq items n,slots:=sl}/\s.heap.get? b=some {cls:= .type "tuple",dict:=dd2,data:= .seq items2 n2,slots:=sl2}/\
   R (.ok (.ret (.bool (zg ns ms)))) s):=
 .of_wp λprog w A R s h=>by
  obtain⟨hp,g,d,tk,os⟩:=s;obtain⟨hl,hb,h⟩:=h;have f2:=mR;have z1:items.size=ns.length:=by rw [<-hi.length];simp
  have z2:items2.size=ms.length:=by rw [<-hj.length];simp
  wp_walk using lD hl,lD hb,i6 _ (λrest b s'=>b.1=none/\s'=⟨hp,g,d,tk,os⟩/\ ∃ (vs ws:List G3) (ns' ms':List Int),rest=vs.zip ws/\
   A5 vs ns'/\A5 ws ms'/\ns'.length+items2.size=ms'.length+items.size/\R (.ok (.ret (.bool (zg ns' ms')))) ⟨hp,g,d,tk,os⟩) _
  case turn=>
   rintro ⟨y,x⟩ rest b s' ⟨hb',rfl,vs,ws,ns',ms',hz,hvi,hwi,hlen,hR⟩;cases hvi with
   |nil=>rw [dB] at hz;cases hz
   |cons a t hvi'=>
    cases hwi with
    |nil=>rw [gU] at hz;cases hz
    |cons c u hwi'=>
     rw [K8] at hz;injection hz with hyx hrest
     injection hyx with hy hx
     subst hy hx;rw [Xb] at hR;simp only [R0] at hlen;obtain⟨e,he,hiff⟩:=Rh A.in1 ⟨hp,g,d,tk,os⟩ a t c u;refine wpAny_bind (he prog w _ _ ?_);cases e with
     |true=>
      rw [if_pos (hiff.mp rfl)] at hR
      wp_walk
      exact⟨rfl,rfl,_,_,_,_,hrest,hvi',hwi',by omega,hR⟩
     |false=>
      rw [if_neg (λq=>absurd (hiff.mpr q) D2)] at hR;have hri:=FS A.in1 ⟨hp,g,d,tk,os⟩ a t c u prog w
      wp_walk using hri
      exact⟨_,rfl,by simpa using hR⟩
  case fin=>
   rintro ⟨b1,b2⟩ s' ⟨hb',rfl,vs,ws,ns',ms',hz,hvi,hwi,hlen,hR⟩;simp only at hb';subst hb';have hv:zg ns' ms'=decide (items.size<items2.size):=by
    cases hvi with
    |nil=>
     cases hwi with
     |nil=>
      simp only [M1] at hlen;rw [XF];exact(decide_eq_false (by omega)).symm
     |cons c u hw=>
      simp only [M1,R0] at hlen;rw [UL];exact(decide_eq_true (by omega)).symm
    |cons a t hv=>
     cases hwi with
     |nil=>
      simp only [M1,R0] at hlen;rw [UM];exact(decide_eq_false (by omega)).symm
     |cons c u hw=>
      rw [K8] at hz;cases hz
   rw [hv] at hR
   wp_walk
   exact⟨_,rfl,by simpa [iU] using hR⟩
  case h=>
   exact⟨rfl,rfl,items.toList,items2.toList,ns,ms,rfl,hi,hj,by omega,h⟩
end
section
variable {prog:S3}{w:N2}{A:M7}{E:G3->G6->Prop}{s:G6}
theorem Mk {l b:Addr}{items items2:Array G3}{ns ms:List Int}{Q:G3->G6->Prop}(hl:gH s.heap l items)(hb:gH s.heap b items2)(hi:A5 items.toList ns)(hj:A5 items2.toList ms)
 (hu:A.units<cLine)(h:Q (.bool (zg ns ms)) s):wpAny (model prog w) A (compareOp .Lt (.ref l) (.ref b)) Q E s:=by
 obtain⟨⟨cls,dd,data,sl⟩,ho,hc,n,hd⟩:=id hl;obtain⟨⟨cls2,dd2,data2,sl2⟩,ho2,hc2,n2,hd2⟩:=id hb;simp only at hc hd hc2 hd2;subst hc hd hc2 hd2;exact richCompare_meets_room (op:= .Lt) ⟨_,ho,rfl⟩ ⟨_,ho2,rfl⟩ PySem.F.slot_tuple_lt PySem.F.entry_tuple_lt (PySem.F.args_tuple_lt_2 _ _) (Wh l b items items2 n n2 dd dd2 sl sl2 ns ms hi hj)
  ⟨ho,ho2,show V3 (zg ns ms)≠Value.notImplemented/\Q (.bool (zg ns ms)) s from ⟨(λx=>nomatch x),h⟩⟩ hu
theorem AS {t b:Addr}{vs ws:List G3}{Q:G3->G6->Prop}(ht:gH s.heap t vs.toArray)(hb:gH s.heap b ws.toArray)(hv:vs≠ [])
 (h1:ws= []->Q (.ref t) s)(h2:ws≠ []->Q (.ref s.heap.objs.size) {s with heap:=s.heap.push {cls:= .type "tuple",data:= .seq (vs++ws).toArray}})
 (hsz:vs.length+ws.length<=sizeLine):wpAny (model prog w) A (binaryOp .Add (.ref t) (.ref b)) Q E s:=by
 obtain⟨⟨cls,dd,data,sl⟩,ho,hc,n,hd⟩:=id ht;obtain⟨⟨cls2,dd2,data2,sl2⟩,ho2,hc2,n2,hd2⟩:=id hb;simp only at hc hd hc2 hd2;subst hc hd hc2 hd2;have e:vs.toArray++ws.toArray=(vs++ws).toArray:=by simp
 by_cases hw:ws= []
 ·exact iC ⟨_,ho,rfl⟩ ⟨_,ho2,rfl⟩ dO gI PySem.F.slot_tuple_add PySem.F.entry_tuple_add (PySem.F.args_tuple_add_2 _ _)
   (tuple_addW1 t b vs.toArray ws.toArray n n2 dd dd2 sl sl2 (by simpa using hv) (by simp [hw])) ⟨ho,ho2,h1 hw⟩
 ·refine iC ⟨_,ho,rfl⟩ ⟨_,ho2,rfl⟩ dO gI PySem.F.slot_tuple_add PySem.F.entry_tuple_add (PySem.F.args_tuple_add_2 _ _)
   (tuple_addW2 t b vs.toArray ws.toArray n n2 dd dd2 sl sl2 (by simpa using hv) (by simpa using hw) (by rw [D1,D1];exact hsz)) ⟨ho,ho2,?_⟩
  rw [e];exact h2 hw
def sIx (n d:Nat):Option Int->Nat
 |none=>d
 |some v=>if v<0 then (v+(n:Int)).toNat else min v.toNat n
theorem He (n d:Nat)(hd:d<=n)(o:Option Int):sIx n d o<=n:=by
 cases o with
 |none=>exact hd
 |some v=>
  show (if v<0 then (v+(n:Int)).toNat else min v.toNat n)<=n
  by_cases hv:v<0
  ·rw [if_pos hv];omega
  ·rw [if_neg hv];exact V8 _ _
theorem NP (v:Int)(n d:Nat):(if v<0 then max (v+(n:Int)) 0 else min v (n:Int))=((sIx n d (some v):Nat):Int):=by
 show (if v<0 then max (v+(n:Int)) 0 else min v (n:Int))=(((if v<0 then (v+(n:Int)).toNat else min v.toNat n):Nat):Int)
 by_cases hv:v<0
 ·simp only [if_pos hv];omega
 ·simp only [if_neg hv];omega
theorem Ml (lo hi:Option Int)(n:Nat):Z5 lo hi 1 (n:Int)=(((sIx n 0 lo:Nat):Int),((sIx n n hi:Nat):Int)):=by
 have h1: ¬ ((1:Int)<0):=by omega
 unfold Z5;simp only [h1,if_false];refine Prod.ext ?_ ?_
 ·cases lo with
  |none=>rfl
  |some v=>exact NP v n 0
 ·cases hi with
  |none=>rfl
  |some v=>exact NP v n n
theorem Mm (i j:Nat):Q4 (i:Int) (j:Int) 1=j-i:=by
 unfold Q4;have h1:(1:Int)>0:=by omega
 simp only [h1,if_true,Int.ediv_one];split<;>omega
theorem Xc {v:G3}{o:Option Int}{Q:Option Int->G6->Prop}(p:dZ v o)(h:Q o s):wpAny (model prog w) A (lE v) Q E s:=by
 cases p with
 |none=>exact mD h
 |int i t=>exact slicePart_int h
theorem Jb {sl:Addr}{vl vu:G3}{lo hi:Option Int}{n:Nat}{Q:Int×Int×Nat->G6->Prop}(hs:s.heap.IsSliceOf sl vl vu .none)(pl:dZ vl lo)(pu:dZ vu hi)
 (h:Q (((sIx n 0 lo:Nat):Int),1,sIx n n hi-sIx n 0 lo) s):wpAny (model prog w) A (cK (.ref sl) (pure (n:Int))) Q E s:=by
 obtain⟨os,hos,hcs,hds⟩:=id hs;unfold cK mO;refine wpAny_bind (wpAny_bind (k5 hos hds (x:=vl) rfl (wpAny_bind (k5 hos hds (x:=vu) rfl (wpAny_bind (k5 hos hds (x:= .none) rfl (P7 ?_)))))));refine wpAny_bind (mD ?_);show wpAny _ _ (if ((1:Int)==0)=true then _ else _) _ _ s;rw [if_neg (by decide)];refine wpAny_bind (Xc pl (wpAny_bind (Xc pu (wpAny_bind (P7 ?_)))));show wpAny _ _ (match Z5 lo hi 1 (n:Int) with|(lo,hi)=>pure (lo,(1:Int),Q4 lo hi 1)) _ _ s;rw [Ml lo hi n];show wpAny _ _ (pure (((sIx n 0 lo:Nat):Int),(1:Int),Q4 ((sIx n 0 lo:Nat):Int) ((sIx n n hi:Nat):Int) 1)) _ _ s;rw [Mm];exact P7 h
theorem FT (xs:Array G3)(i k:Nat):((G0 k).filterMap λ(m:Nat)=>xs[((i:Int)+(m:Int)*1).toNat]?).toArray=((xs.toList.drop i).take k).toArray:=by
 have e:(λ(m:Nat)=>xs[((i:Int)+(m:Int)*1).toNat]?)=λm=>xs[i+m]? :=by
  funext m
  have:((i:Int)+(m:Int)*1).toNat=i+m:=by omega
  rw [this]
 rw [e];have:=pick_run xs i k;rw [List.filterMap_map] at this;have e2:((λx=>xs[x]?)∘λx=>i+x)=λm=>xs[i+m]? :=rfl
 rw [e2] at this;rw [this]
theorem WM {t sl:Addr}{items:Array G3}{vl vu:G3}{lo hi:Option Int}{Q:G3->G6->Prop}(ht:gH s.heap t items)(hs:s.heap.IsSliceOf sl vl vu .none)(pl:dZ vl lo)(pu:dZ vu hi)
 (hw: ¬ (sIx items.size 0 lo=0/\sIx items.size items.size hi=items.size))
 (h:Q (.ref s.heap.objs.size) {s with heap:=s.heap.push {cls:= .type "tuple",data:= .seq ((items.toList.drop (sIx items.size 0 lo)).take (sIx items.size items.size hi-sIx items.size 0 lo)).toArray}})
 (hsz:items.size<=sizeLine):wpAny (model prog w) A (getItem (.ref t) (.ref sl)) Q E s:=by
 have htake:sizeOk (.seq ((items.toList.drop (sIx items.size 0 lo)).take (sIx items.size items.size hi-sIx items.size 0 lo)).toArray):=by
  show ((items.toList.drop (sIx items.size 0 lo)).take (sIx items.size items.size hi-sIx items.size 0 lo)).toArray.size<=sizeLine;rw [D1,R7,S8,M9];omega
 have hj:sIx items.size items.size hi<=items.size:=He _ _ (P0 _) hi;obtain⟨os,hos,hcs,hds⟩:=id hs;have hTs:s.TypeIs (.ref sl) "slice" :=⟨os,hos,hcs⟩;unfold getItem
 try with_reducible refine A2 ?_
 first|refine wpAny_bind (P7 ?_)|skip
 refine wpAny_bind (iD ht.typeIs (by decide) ?_);refine wpAny_bind (A9 (name:=aT "__getitem__") ht.typeIs I0
  (L5 I0 ht.typeIs gD ?_ (gV _ _)))
 show wpAny _ _ (X9 (.ref t) >>= _) _ _ s;refine wpAny_bind (gJ ht ?_);refine wpAny_bind (iF hTs ?_);rw [if_pos (by decide)];refine wpAny_bind (Jb hs pl pu ?_);have hno: ¬ ((((sIx items.size 0 lo:Nat):Int)==0&&(1:Int)==1&&(sIx items.size items.size hi-sIx items.size 0 lo)==items.size)=true):=by
  intro q;rw [M6,M6] at q;have q1:((sIx items.size 0 lo:Nat):Int)=0:=eq_of_beq q.1.1;have q2:sIx items.size items.size hi-sIx items.size 0 lo=items.size:=eq_of_beq q.2;exact hw ⟨by omega,by omega⟩
 show wpAny _ _ (if (((sIx items.size 0 lo:Nat):Int)==0&&(1:Int)==1&&(sIx items.size items.size hi-sIx items.size 0 lo)==items.size)=true then _ else _) _ _ s;rw [if_neg hno,FT]
 first
  |exact wpAny_bind (m:=V4 _) (Q8 (P7 ⟨_,rfl,P7 h⟩) htake)
  |exact wpAny_bind (m:=V4 _) (Q8 (wpAny_bind (P7 (P7 ⟨_,rfl,P7 h⟩))) htake)
  |exact wpAny_bind (wpAny_bind (m:=V4 _) (Q8 (P7 (P7 ⟨_,rfl,P7 h⟩)) htake))
  |exact wpAny_bind (wpAny_bind (m:=V4 _) (Q8 (P7 ⟨_,rfl,P7 h⟩) htake))
end
end HT
namespace L2
open PySem PySem.Spec PyProof.Rows
abbrev TO:=St->Hp->(Option Int->Hp->Prop)->Prop
def PO (X:Cx)(e:Option Expr)(t:TO):Prop:=
 ∀ (pins:List (Addr×Obj)) (s:G6) (σ:St) (H:Hp) (Q:Option Int->Hp->Prop),Inv X pins σ H s->t σ H Q->
  wpAny (model X.prog X.w) X.A (evalPart e X.env) (λu s'=> ∃o H',Inv X pins σ H' s'/\dZ u o/\Q o H') X.xe s
def AT:TO:=λ_ H Q=>Q none H
def kT (t:TE):TO:=λσ H Q=>t σ H λx H1=> ∃i,x= .int i/\Q (some i) H1
section
variable {X:Cx}{e:Expr}{te:TE}{lo hi:Option Expr}{tl th:TO}{pos p2:Pos}
theorem po_none:PO X none AT:=by
 intro pins s σ H Q I h;rw [mS];exact P7 ⟨none,H,I,.none,h⟩
theorem AU (h:PE X e te):PO X (some e) (kT te):=by
 intro pins s σ H Q I hw;rw [evalPart_some];refine thn (h pins s σ H _ I hw) λu s1 ⟨x,H1,I1,r1,q1⟩=> ?_
 obtain⟨i,rfl,q⟩:=q1;obtain⟨t,rfl⟩:=r1;exact⟨some i,H1,I1,.int i t,q⟩
def SlR (X:Cx)(r:V->Option Int->Option Int->Hp->VK->Prop):Prop:=
 ∀ (pins:List (Addr×Obj)) (s:G6) (σ:St) (H:Hp) (x:V) (v vl vu:G3) (lo hi:Option Int) (sl:Addr) (Q:VK),Inv X pins σ H s->RelV x v->s.heap.IsSliceOf sl vl vu .none->dZ vl lo->dZ vu hi->r x lo hi H Q->
  ∃T id,typeLookup (.type T) "__getitem__" =pure (some (.builtin id))/\s.TypeIs v T/\wpAny (model X.prog X.w) X.A (getItem v (.ref sl)) (EP X pins σ Q) X.xe s
theorem SlR.or {r r':V->Option Int->Option Int->Hp->VK->Prop}(h:SlR X r)(h':SlR X r'):SlR X (λx lo hi H Q=>r x lo hi H Q\/r' x lo hi H Q):=by
 intro pins s σ H x v vl vu lo hi sl Q I rx hs pl pu q;rcases q with q|q
 ·exact h pins s σ H x v vl vu lo hi sl Q I rx hs pl pu q
 ·exact h' pins s σ H x v vl vu lo hi sl Q I rx hs pl pu q
def tSl (r:V->Option Int->Option Int->Hp->VK->Prop)(te:TE)(tl th:TO):TE:=λσ H Q=>te σ H λx H1=>tl σ H1 λl H2=>th σ H2 λu H3=>r x l u H3 Q
theorem FU {r:V->Option Int->Option Int->Hp->VK->Prop}(hr:SlR X r)(he:PE X e te)(hl:PO X lo tl)(hu:PO X hi th):PE X (.Subscript e (.Slice lo hi none p2) pos) (tSl r te tl th):=by
 intro pins s σ H Q I h;refine oG (thn (he pins s σ H _ I h) λv s1 ⟨x,H1,I1,r1,q1⟩=> ?_);refine wpAny_Slice (thn (hl pins s1 σ H1 _ I1 q1) λvl s2 ⟨l,H2,I2,pl,q2⟩=>thn (hu pins s2 σ H2 _ I2 q2) λvu s3 ⟨u,H3,I3,pu,q3⟩=> ?_);rw [mS];refine P7 ?_;have I4:Inv X pins σ H3 {s3 with heap:=s3.heap.push {cls:= .type "slice",data:= .fields #[vl,vu,.none]}}:=I3.kept (t':=s3.toks) λb ob q=>G7 _ q
 obtain⟨T,id,hT,ht,hg⟩:=hr pins {s3 with heap:=s3.heap.push {cls:= .type "slice",data:= .fields #[vl,vu,.none]}} σ H3 x v vl vu l u s3.heap.objs.size Q I4 r1 (Heap.IsSliceOf.new ..) pl pu q3;show wpAny (model X.prog X.w) X.A (subscriptTail e (.Slice lo hi none p2) v (.ref s3.heap.objs.size)) (EP X pins σ Q) X.xe {s3 with heap:=s3.heap.push {cls:= .type "slice",data:= .fields #[vl,vu,.none]}};exact tail_any (ops:= [.ref s3.heap.objs.size,v]) ht hT hg (by with_unfolding_all rfl)
def FB (xs:List V)(lo hi:Option Int):List V:=(xs.drop (HT.sIx xs.length 0 lo)).take (HT.sIx xs.length xs.length hi-HT.sIx xs.length 0 lo)
theorem Vp (xs:List V)(lo hi:Option Int):(FB xs lo hi).length<=xs.length:=by
 unfold FB;rw [R7,S8];omega
def qE (K:PySem.W.Frag):V->Option Int->Option Int->Hp->VK->Prop:=λx lo hi H Q=> ∃a xs,x= .ref a/\SqT K H a xs/\
 ¬ (HT.sIx xs.length 0 lo=0/\HT.sIx xs.length xs.length hi=xs.length)/\ ∀p,H p=none->Q (.ref p) (upd H p (.tup (FB xs lo hi)))
theorem sl_tup:SlR X (qE X.K):=by
 intro pins s σ H x v vl vu lo hi sl Q I rx hs pl pu h;obtain⟨a,xs,rfl,hx,hw,q⟩:=h;cases rx;obtain⟨its,r,ht,hz⟩:=I.tuple hx;have hlen:its.toArray.size=xs.length:=by rw [D1];exact r.length.symm
 refine⟨"tuple",_,PyProof.Rows.slot_tuple_getitem.lookup,ht.typeIs,?_⟩;refine HT.WM ht hs pl pu (by rw [hlen];exact hw) ?_ (by rw [hlen];exact hz);rw [hlen];refine⟨.ref s.heap.objs.size,_,I.laid (t':=s.toks) (o:= .tup (FB xs lo hi)) (λb ob q=>G7 _ q) (P0 _) ?_,rfl,q _ (I.hok.fresh (P0 _))⟩;exact⟨R9 (Vp xs lo hi) hz,_,(r.drop (HT.sIx xs.length 0 lo)).take (HT.sIx xs.length xs.length hi-HT.sIx xs.length 0 lo),IsTupN.new _ _⟩
def kU (K:PySem.W.Frag):R2:=λx y H Q=> ∃a b xs ys,x= .ref a/\y= .ref b/\SqT K H a xs/\SqT K H b ys/\xs≠ []/\xs.length+ys.length<=sizeLine/\
 (ys= []->Q (.ref a) H)/\(ys≠ []-> ∀p,H p=none->Q (.ref p) (upd H p (.tup (xs++ys))))
theorem Vals.nil_iff {xs:List V}{us:List G3}(r:Vals xs us):us= []↔xs= []:=by
 cases r with
 |nil=>simp
 |cons _ _=>simp
theorem op_catT:OpR X (binaryOp .Add) (kU X.K):=by
 intro pins s σ H x y v u Q I rx ry h;obtain⟨a,b,xs,ys,rfl,rfl,ha,hb,hx,hz,q1,q2⟩:=h;cases rx;cases ry;obtain⟨its,r1,p1,_⟩:=I.tuple ha;obtain⟨its2,r2,p2,_⟩:=I.tuple hb;refine HT.AS p1 p2 (λz=>hx (r1.nil_iff.mp z)) (λz=>⟨.ref a,H,I,rfl,q1 (r2.nil_iff.mp z)⟩) (λz=> ?_) (by rw [<-r1.length,<-r2.length];exact hz);refine⟨.ref s.heap.objs.size,_,I.laid (t':=s.toks) (o:= .tup (xs++ys)) (λb ob q=>G7 _ q) (P0 _) ?_,rfl,q2 (λw=>z (r2.nil_iff.mpr w)) _ (I.hok.fresh (P0 _))⟩;exact⟨by rw [P2];exact hz,_,r1.append r2,IsTupN.new _ _⟩
end
def ixN (n:Nat)(i:Int):Option Nat:=if 0<=i then (if i<n then some i.toNat else none) else if-(n:Int)<=i then some (i+n).toNat else none
def atI {α:Type}(xs:List α)(i:Int):Option α:=(ixN xs.length i).bind λj=>xs[j]?
theorem NQ {n:Nat}{i:Int}{j:Nat}(h:ixN n i=some j):seqIndex? i n=some j/\j<n/\ -(n:Int)<=i/\i<n:=by
 unfold ixN at h
 by_cases h0:0<=i
 ·rw [if_pos h0] at h
  by_cases h1:i<n
  ·rw [if_pos h1] at h;have e:i.toNat=j:=M0 h;exact⟨by rw [k9 h0 h1,e],by omega,by omega,h1⟩
  ·rw [if_neg h1] at h;cases h
 ·rw [if_neg h0] at h
  by_cases h1: -(n:Int)<=i
  ·rw [if_pos h1] at h;have e:(i+n).toNat=j:=M0 h;exact⟨by rw [iG (by omega) h1,e],by omega,h1,by omega⟩
  ·rw [if_neg h1] at h;cases h
theorem PH {α:Type}{xs:List α}{i:Int}{v:α}(h:atI xs i=some v): ∃j,seqIndex? i xs.length=some j/\xs[j]? =some v/\j<xs.length/\ -(xs.length:Int)<=i/\i<xs.length:=by
 unfold atI at h;cases e:ixN xs.length i with
 |none=>rw [e] at h;cases h
 |some j=>
  rw [e] at h;obtain⟨h1,h2,h3,h4⟩:=NQ e;exact⟨j,h1,h,h2,h3,h4⟩
theorem zG {α:Type}{xs:List α}{j:Nat}{v:α}(h:xs[j]? =some v):atI xs (j:Int)=some v:=by
 have hj:j<xs.length:=(P3.mp h).1;have e:ixN xs.length (j:Int)=some j:=by
  unfold ixN;rw [if_pos (by omega),if_pos (by omega)];simp
 unfold atI;rw [e];exact h
def XG (b:Expr):Prop:= ∀o i,subscripted b false o i=operate [o,i] (getItem o i)
def IxR (X:Cx)(r:R2):Prop:=
 ∀ (value slice:Expr) (pins:List (Addr×Obj)) (s:G6) (σ:St) (H:Hp) (x y:V) (v u:G3) (Q:VK),Inv X pins σ H s->RelV x v->RelV y u->r x y H Q->
  subscripted slice false v u=operate [v,u] (getItem v u)->wpAny (model X.prog X.w) X.A (subscriptTail value slice v u) (EP X pins σ Q) X.xe s
def MtR (X:Cx)(id:String)(r:V->List V->Hp->VK->Prop):Prop:=
 ∀ (pins:List (Addr×Obj)) (s:G6) (σ:St) (H:Hp) (x:V) (xs:List V) (v:G3) (us:List G3) (Q:VK),Inv X pins σ H s->RelV x v->Vals xs us->r x xs H Q->
  wpAny (model X.prog X.w) X.A (call (.builtin id) (v::us)) (EP X pins σ Q) X.xe s
section
variable {X:Cx}{a b:Expr}{ta tb:TE}{pos:Pos}
theorem IxR.or {r r':R2}(h:IxR X r)(h':IxR X r'):IxR X (λx y H Q=>r x y H Q\/r' x y H Q):=by
 intro value slice pins s σ H x y v u Q I rx ry q hs;rcases q with q|q
 ·exact h value slice pins s σ H x y v u Q I rx ry q hs
 ·exact h' value slice pins s σ H x y v u Q I rx ry q hs
theorem kX {r:R2}(hr:IxR X r)(ha:PE X a ta)(hb:PE X b tb)(hs:XG b):PE X (.Subscript a b pos) (tOp r ta tb):=by
 intro pins s σ H Q I h;exact oG (kJ ha hb I h λv u s2 x y H2 I2 rx ry q=>hr a b pins s2 σ H2 x y v u Q I2 rx ry q (hs _ _))
def xM (K:PySem.W.Frag):R2:=λx y H Q=> ∃p xs i v,x= .ref p/\y= .int i/\SqL K H p xs/\atI xs i=some v/\Q v H
def xN (K:PySem.W.Frag):R2:=λx y H Q=> ∃p xs i v,x= .ref p/\y= .int i/\SqT K H p xs/\atI xs i=some v/\Q v H
def xO:R2:=λx y H Q=> ∃z i c,x= .str z/\y= .int i/\z.length<=sizeLine/\atI z.cps.toList i=some c/\Q (.str ⟨#[c]⟩) H
theorem ix_list:IxR X (xM X.K):=by
 intro value slice pins s σ H x y v u Q I rx ry h hs;obtain⟨p,xs,i,z,rfl,rfl,hq,he,q⟩:=h;cases rx;obtain⟨t,rfl⟩:=ry;obtain⟨its,r,pl,hz⟩:=I.list hq;obtain⟨j,h1,h2,h3,h4,h5⟩:=PH he;obtain⟨w,ew,rw'⟩:=r.get h2;have hl:=r.length;have hn:=Gb;have fin:EP X pins σ Q w s:=⟨z,H,I,rw',q⟩
 by_cases h0:0<=i
 ·have hj:i.toNat=j:=by
   rw [k9 h0 h5] at h1;exact M0 h1
  exact item_listR pl.isList h0 (by omega) (by rw [hj];simpa using ew) fin hs
 ·have hj:(i+(its.toArray.size:Int)).toNat=j:=by
   rw [iG (by omega) h4] at h1;rw [D1,<-hl];exact M0 h1
  exact eG (x:=w) pl.isList.typeIs slot_list_getitem.lookup
   (wpAny_getItem_list_neg (Q:=λr s'=>r=w/\EP X pins σ Q r s') pl.isList (by omega) (by rw [D1]<;>omega) (by omega) (by rw [hj];simpa using ew) ⟨rfl,fin⟩) hs
theorem ix_tup:IxR X (xN X.K):=by
 intro value slice pins s σ H x y v u Q I rx ry h hs;obtain⟨p,xs,i,z,rfl,rfl,hq,he,q⟩:=h;cases rx;obtain⟨t,rfl⟩:=ry;obtain⟨its,r,pl,hz⟩:=I.tuple hq;obtain⟨j,h1,h2,h3,h4,h5⟩:=PH he;obtain⟨w,ew,rw'⟩:=r.get h2;have hl:=r.length;have hn:=Gb;have fin:EP X pins σ Q w s:=⟨z,H,I,rw',q⟩;exact eG (x:=w) pl.typeIs slot_tuple_getitem.lookup
  (getItem_tuple (j:=j) (Q:=λr s'=>r=w/\EP X pins σ Q r s') pl (by omega) (by omega) (by rw [D1,<-hl];exact h1) (by simpa using ew) ⟨rfl,fin⟩) hs
theorem Hf:IxR X xO:=by
 intro value slice pins s σ H x y v u Q I rx ry h hs;obtain⟨z,i,c,rfl,rfl,hz,he,q⟩:=h;obtain⟨t,rfl⟩:=rx;obtain⟨t',rfl⟩:=ry;obtain⟨j,h1,h2,h3,h4,h5⟩:=PH he;have hl:z.cps.toList.length=z.length:=by simp [Str.length]
 rw [hl] at h1 h4 h5;have hn:=Gb;exact tail_any (oH s z t) slot_str_getitem.lookup (getItem_str (c:=c) (by
  have e1:decide (i< -(2^63:Int))=false:=decide_eq_false (by omega);have e2:decide (i>=2^63)=false:=decide_eq_false (by omega);rw [e1,e2,Bool.or_false]) (by rw [h1];simpa using h2) ⟨.str ⟨#[c]⟩,H,I.tok _,⟨_,rfl⟩,q⟩) hs
def rIx (K:PySem.W.Frag):R2:=λx y H Q=>xM K x y H Q\/xN K x y H Q\/xO x y H Q
theorem Hg:IxR X (rIx X.K):=ix_list.or (ix_tup.or Hf)
theorem Mn (its:List G3)(n j:Nat)(u:G3):V5 (·.setIfInBounds j u) {cls:= .type "list",data:= .seq its.toArray n}= {cls:= .type "list",data:= .seq (its.set j u).toArray n}:=by
 simp [V5]
theorem Inv.lst {pins:List (Addr×Obj)}{σ:St}{H:Hp}{s:G6}{p:Addr}{xs:List V}(I:Inv X pins σ H s)(h:H p=some (.lst xs)):
 ∃ (its:List G3) (n:Nat),Vals xs its/\s.heap.get? p=some {cls:= .type "list",data:= .seq its.toArray n}/\xs.length<=sizeLine:=by
 obtain⟨z,its,n,r,e⟩:=I.hok p _ h;exact⟨its,n,r,e,z⟩
theorem Inv.lstUpd {pins:List (Addr×Obj)}{σ:St}{H:Hp}{s:G6}{p:Addr}{xs ys:List V}{its its':List G3}{n n':Nat}{f:Obj->Obj}(I:Inv X pins σ H s)(h:H p=some (.lst xs))
 (ho:s.heap.get? p=some {cls:= .type "list",data:= .seq its.toArray n})(hf:f {cls:= .type "list",data:= .seq its.toArray n}= {cls:= .type "list",data:= .seq its'.toArray n'})(r:Vals ys its')(hz:ys.length<=sizeLine)(t:Nat):
 Inv X pins σ (upd H p (.lst ys)) {s with heap:=s.heap.update p f,toks:=t}:=by
 have e:(s.heap.update p f).get? p=some {cls:= .type "list",data:= .seq its'.toArray n'}:=by
  rw [X5 f ho (by rw [hf]<;>rfl),hf]
 refine I.write (x:=p) (e:=p) (by rw [h];trivial) (.inl rfl) (λb u hb q=>(eI _ _ (A4 hb)).trans q) ⟨_,e⟩ ?_;exact⟨hz,its',n',r,e⟩
def kY:V->V->V->Hp->(Hp->Prop)->Prop:=λo i v H Q=> ∃p xs k j,o= .ref p/\i= .int k/\H p=some (.lst xs)/\ixN xs.length k=some j/\Q (upd H p (.lst (xs.set j v)))
theorem FV:xB X kY:=by
 intro pins s σ H o i v ov iv u Q I ro ri rv h;obtain⟨p,xs,k,j,rfl,rfl,hp,hj,q⟩:=h;cases ro;obtain⟨t,rfl⟩:=ri;obtain⟨its,n,r,ho,hz⟩:=I.lst hp;obtain⟨h1,h2,h3,h4⟩:=NQ hj;have hl:=r.length;have hn:=Gb;have I':Inv X pins σ (upd H p (.lst (xs.set j v))) {s with heap:=s.heap.update p (V5 (·.setIfInBounds j u))}:=
  I.lstUpd hp ho (Mn its n j u) (r.set rv j) (by rw [List.length_set];exact hz) s.toks
 by_cases h0:0<=k
 ·have hk:k.toNat=j:=by
   rw [k9 h0 h4] at h1;exact M0 h1
  exact PySem.W.ki_setAt ho h0 (by omega) (by rw [D1,<-hl];exact h4) (by rw [hk];exact⟨_,I',q⟩)
 ·have hk:(k+(its.toArray.size:Int)).toNat=j:=by
   rw [iG (by omega) h3] at h1;rw [D1,<-hl];exact M0 h1
  exact PySem.W.ki_setBack ho (by omega) (by rw [D1,<-hl];exact h3) (by omega) (by rw [hk];exact⟨_,I',q⟩)
theorem Gh (lo hi:Option Int)(n:Nat):(sliceBounds lo hi none n).1=((HT.sIx n 0 lo:Nat):Int)/\(sliceBounds lo hi none n).2.1=((HT.sIx n n hi:Nat):Int)/\(sliceBounds lo hi none n).2.2=1:=by
 refine⟨?_,?_,rfl⟩
 ·cases lo with
  |none=>simp [sliceBounds,HT.sIx]
  |some i=>
   simp only [sliceBounds,HT.sIx,Option.getD_none,show (1:Int)>0 by decide,if_true]
   by_cases h:i<0
   ·simp only [h,if_true]<;>omega
   ·simp only [h,if_false]<;>omega
 ·cases hi with
  |none=>simp [sliceBounds,HT.sIx]
  |some i=>
   simp only [sliceBounds,HT.sIx,Option.getD_none,show (1:Int)>0 by decide,if_true]
   by_cases h:i<0
   ·simp only [h,if_true]<;>omega
   ·simp only [h,if_false]<;>omega
theorem XH (its:List G3)(lo hi:Option Int):slicePick its.toArray lo hi none=((its.drop (HT.sIx its.length 0 lo)).take (HT.sIx its.length its.length hi-HT.sIx its.length 0 lo)).toArray:=by
 obtain⟨h1,h2,h3⟩:=Gh lo hi its.toArray.size;unfold slicePick;rw [h1,h2,h3];simp only [sliceRange_one,pick_run,D1]<;>rfl
def qF (K:PySem.W.Frag):V->Option Int->Option Int->Hp->VK->Prop:=λx lo hi H Q=> ∃a xs,x= .ref a/\SqL K H a xs/\ ∀p,H p=none->Q (.ref p) (upd H p (.lst (FB xs lo hi)))
theorem AV:SlR X (qF X.K):=by
 intro pins s σ H x v vl vu lo hi sl Q I rx hs pl pu h;obtain⟨a,xs,rfl,hx,q⟩:=h;cases rx;obtain⟨its,r,ht,hz⟩:=I.list hx;have hlen:=r.length;refine⟨"list",_,slot_list_getitem.lookup,ht.isList.typeIs,?_⟩;refine wpAny_getItem_list_slice ht.isList hs pl pu .none (by simp) ?_ (by rw [D1]<;>omega);rw [XH,<-hlen];refine⟨.ref s.heap.objs.size,_,I.laid (t':=s.toks) (o:= .lst (FB xs lo hi)) (λb ob q=>G7 _ q) (P0 _) ?_,rfl,q _ (I.hok.fresh (P0 _))⟩;exact⟨R9 (Vp xs lo hi) hz,_,0,(r.drop (HT.sIx xs.length 0 lo)).take (HT.sIx xs.length xs.length hi-HT.sIx xs.length 0 lo),D7 _ rfl⟩
theorem call_len_seq:CallR X (.builtin "len") (λxs H Q=> ∃p ys,xs= [.ref p]/\(SqL X.K H p ys\/SqT X.K H p ys)/\Q (.int ys.length) H):=by
 intro pins s σ H xs us Q I r h;obtain⟨p,ys,rfl,hq,q⟩:=h;obtain⟨u,rfl,rx⟩:=ZD r;cases rx;have hn:=Gb;rcases hq with hq|hq
 ·obtain⟨its,r',pl,hz⟩:=I.list hq;have hlen:=r'.length;exact Calls.call_len_list pl.isList (by simp only [D1]<;>omega) ⟨.int ys.length,H,I.tok _,⟨s.toks+1,by rw [D1,hlen]⟩,q⟩
 ·obtain⟨its,r',pl,hz⟩:=I.tuple hq;have hlen:=r'.length;exact len_tuple pl (by simp only [D1]<;>omega) ⟨.int ys.length,H,I.tok _,⟨s.toks+1,by rw [D1,hlen]⟩,q⟩
theorem call_tuple_of:CallR X (.type "tuple") (λxs H Q=> ∃p ys,xs= [.ref p]/\((SqL X.K H p ys/\ ∀l,H l=none->Q (.ref l) (upd H l (.tup ys)))\/(SqT X.K H p ys/\Q (.ref p) H))):=by
 intro pins s σ H xs us Q I r h;obtain⟨p,ys,rfl,h⟩:=h;obtain⟨u,rfl,rx⟩:=ZD r;cases rx;rcases h with ⟨hq,q⟩|⟨hq,q⟩
 ·obtain⟨its,r',pl,hz⟩:=I.list hq;have hlen:=r'.length;refine call_tuple_list pl.isList (λh' kp=> ?_) (by simp only [D1]<;>omega);have I1:Inv X pins σ H {s with heap:=h'}:=I.kept (t':=s.toks) kp;have I2:Inv X pins σ (upd H h'.objs.size (.tup ys)) {s with heap:=h'.push {cls:= .type "tuple",data:= .seq its.toArray}}:=
   I1.laid (t':=s.toks) (λb o e=>G7 _ e) (P0 _) (show ObjOk X.prog X.w _ _ _ (.tup ys) from ⟨hz,its,r',IsTupN.new _ _⟩)
  exact⟨.ref h'.objs.size,_,I2,rfl,q _ (I1.hok.fresh (P0 _))⟩
 ·obtain⟨its,r',pl,hz⟩:=I.tuple hq;exact call_tuple_same pl ⟨.ref p,H,I,rfl,q⟩
def tyV (K:PySem.W.Frag)(T:String)(x:V)(H:Hp):Prop:=match x with
 | .str _=>T= "str"
 | .int _=>T= "int"
 | .ref p=>(T= "list" /\ ∃xs,SqL K H p xs)\/(T= "tuple" /\ ∃o,K.lookup p=some o/\o.cls= .type "tuple" /\o.dict=none)\/
  (T= "dict" /\((∃kvs,H p=some (.dK kvs))\/ ∃kvs,H p=some (.dT kvs)))\/(T= "set" /\ ∃S n,H p=some (.set S n))
 |_=>False
theorem Hh {pins:List (Addr×Obj)}{σ:St}{H:Hp}{s:G6}{T:String}{x:V}{v:G3}(I:Inv X pins σ H s)(r:RelV x v)(ty:tyV X.K T x H):
 s.TypeIs v T/\ ∀a,v= .ref a-> ∃ob,s.heap.get? a=some ob/\ob.dict=none:=by
 cases x with
 |str z=>
  obtain⟨t,rfl⟩:=r;cases (show T= "str" from ty);exact⟨oH s z t,λ_ e=>nomatch e⟩
 |int i=>
  obtain⟨t,rfl⟩:=r;cases (show T= "int" from ty);exact⟨eJ s i t,λ_ e=>nomatch e⟩
 |ref p=>
  cases r;rcases ty with ⟨rfl,xs,hq⟩|⟨rfl,o,hk,hc,hd⟩|⟨rfl,hk⟩|⟨rfl,S,n,hk⟩
  ·obtain⟨its,_,pl,_⟩:=I.list hq;refine⟨pl.isList.typeIs,λa e=> ?_⟩;cases e;obtain⟨o,n,e,c,hd,_⟩:=pl;exact⟨o,e,hd⟩
  ·refine⟨⟨o,I.kIn p o hk,hc⟩,λa e=> ?_⟩;cases e;exact⟨o,I.kIn _ o hk,hd⟩
  ·have z: ∃o,s.heap.get? p=some o/\o.ExactDict:=by
    rcases hk with ⟨kvs,hk⟩|⟨kvs,hk⟩
    ·obtain⟨_,_,_,_,o,_,_,e,ex,_⟩:=I.hok p _ hk;exact⟨o,e,ex⟩
    ·obtain⟨_,_,_,_,o,_,_,e,ex,_⟩:=I.hok p _ hk;exact⟨o,e,ex⟩
   obtain⟨o,e,ex⟩:=z;refine⟨⟨o,e,ex.1⟩,λa e2=> ?_⟩;cases e2;exact⟨o,e,ex.2.1⟩
  ·obtain⟨o,_,_,_,e,ex,_⟩:=I.hok p _ hk;refine⟨⟨o,e,ex.1⟩,λa e2=> ?_⟩;cases e2;exact⟨o,e,ex.2.1⟩
 |_=>exact False.elim ty
def tBM (K:PySem.W.Frag)(T:String)(r:V->List V->Hp->VK->Prop)(to:TE)(t:TA):TE:=λσ H Q=>to σ H λx H1=>tyV K T x H1/\t σ H1 λxs H2=>r x xs H2 Q
variable {o e:Expr}{es:List Expr}{to:TE}{t:TA}{name:Str}{apos cpos:Pos}{T id:String}{r:V->List V->Hp->VK->Prop}
theorem AW (pa:PlainAttrs T)(slot:Slot T name id)(hty:typeOf (.builtin id)=pure (.type "method_descriptor"))(hm:MtR X id r)(ho:PE X o to)(ha:PA X (e::es) t)
 (hbase:attributeBase o name X.env (eval o X.env)=eval o X.env:=by rfl)
 (hfew:((backTo cpos (starEach (e::es) X.env)).all (λx=> !x.1)&&(backToKw cpos (keywordEach [] X.env)).all (λx=>x.1.isSome)
  &&decide ((e::es).length+([]:List U0).length+(if ([]:List U0).isEmpty then 0 else 1)<30))=true:=by rfl)
 (hline:(apos.endLine==cpos.line)=true:=by rfl)(hs:starEach (e::es) X.env=(false,eval e X.env)::starEach es X.env:=by rfl)(hplain:(backTo cpos (starEach es X.env)).any (·.1)=false:=by rfl):
 PE X (.Call (.Attribute o name apos) (e::es) [] cpos) (tBM X.K T r to t):=by
 intro pins s σ H Q I h;refine eO hbase hfew hline rfl (thn (ho pins s σ H _ I h) λv s1 ⟨x,H1,I1,r1,ty,q1⟩=> ?_);obtain⟨h1,h2⟩:=Hh I1 r1 ty;refine⟨T,id,pa,slot,hty,h1,h2,?_⟩;have hA:=ha cpos pins s1 σ H1 _ I1 q1;rw [hs] at hA ⊢;refine Calls.callWith_builtin (by show (false||(backTo cpos (starEach es X.env)).any (·.1))=false;rw [hplain]<;>rfl) (Calls.evalArgs_plain ?_);exact thn hA λus s2 ⟨vs,H2,I2,r2,q2⟩=>hm pins s2 σ H2 x vs v us Q I2 r1 r2 q2
end
def MtM (X:Cx)(id:String)(r:V->List V->Hp->VK->Prop):Prop:=
 ∀ (pins:List (Addr×Obj)) (s:G6) (σ:St) (H:Hp) (x:V) (xs:List V) (v:G3) (us:List G3) (Q:VK),Inv X pins σ H s->RelV x v->Vals xs us->r x xs H Q->
  wpAny (model X.prog X.w) X.A (call (.builtin id) (v::us)) (EP X pins σ Q) X.xe s
theorem Vals.one: ∀ {x:V} {us:List G3},Vals [x] us-> ∃u,us= [u]/\RelV x u
 |_,_,.cons r .nil=>⟨_,rfl,r⟩
theorem Vals.rep {xs:List V}{us:List G3}(h:Vals xs us): ∀k:Nat,Vals (S4 k xs).flatten (S4 k us).flatten
 |0=> .nil
 |k+1=>by
  rw [E9,E9,U1,U1];exact Vals.append h (Vals.rep h k)
theorem Vq (its:List G3): ∀ (k:Nat) (acc:List G3),
 mE (λx1 x2=>x1++x2) acc.toArray (S4 k its.toArray)=(acc++(S4 k its).flatten).toArray
 |0,acc=>by simp
 |k+1,acc=>by
  have e:acc.toArray++its.toArray=(acc++its).toArray:=by simp
  have e2:(acc++its)++(S4 k its).flatten=acc++(S4 (k+1) its).flatten:=by
   rw [E9,U1,P6]
  rw [<-e2,<-Vq its k (acc++its),<-e,E9,lF]
section
variable {X:Cx}{pins:List (Addr×Obj)}{σ:St}{H:Hp}{s:G6}{l b:Addr}{xs ys zs:List V}
theorem Inv.lset {its its':List G3}{n:Nat}{f:Array G3->Array G3}{t':Nat}(I:Inv X pins σ H s)(hH:H l=some (.lst xs))
 (e:s.heap.get? l=some {cls:= .type "list",data:= .seq its.toArray n})(hf:f its.toArray=its'.toArray)(hv:Vals ys its')(hz:ys.length<=sizeLine):
 Inv X pins σ (upd H l (.lst ys)) {s with heap:=s.heap.update l (V5 f),toks:=t'}:=by
 have q:=PySem.IsL.update e f;rw [hf] at q;refine I.write (x:=l) (e:=l) (by rw [hH];exact trivial) (.inl rfl) (λb' u hb hu=>(eI s.heap (V5 f) (A4 hb)).trans hu) ⟨_,q⟩ ?_;exact⟨hz,its',_,hv,q⟩
theorem Inv.lnew {its:List G3}{t':Nat}(I:Inv X pins σ H s)(hv:Vals ys its)(hz:ys.length<=sizeLine):
 Inv X pins σ (upd H s.heap.objs.size (.lst ys)) {s with heap:=s.heap.push {cls:= .type "list",data:= .seq its.toArray},toks:=t'}:=
 I.laid (λ_ _ q=>G7 _ q) (P0 _) ⟨hz,its,0,hv,D7 _ rfl⟩
theorem Inv.fresh (I:Inv X pins σ H s):H s.heap.objs.size=none:=I.hok.fresh (P0 _)
theorem Inv.lstM (I:Inv X pins σ H s)(hH:H l=some (.lst xs)):xs.length<=sizeLine/\ ∃ (its:List G3) (n:Nat),Vals xs its/\xs.length=its.length/\s.heap.get? l=some {cls:= .type "list",data:= .seq its.toArray n}:=by
 obtain⟨z,its,n,r,e⟩:=I.hok l _ hH;exact⟨z,its,n,r,r.length,e⟩
theorem FW {n:Nat}(h:n<=sizeLine):aA n=false:=by
 unfold aA;exact decide_eq_false (by omega)
end
section
variable {X:Cx}
def AX:V->List V->Hp->VK->Prop:=λx vs H Q=> ∃l xs y,x= .ref l/\vs= [y]/\H l=some (.lst xs)/\xs.length<sizeLine/\Q .non (upd H l (.lst (xs++ [y])))
theorem NR:MtM X "list.append" AX:=by
 intro pins s σ H x vs v us Q I rx rv h;obtain⟨l,xs,y,rfl,rfl,hH,hz,q⟩:=h;cases rx;obtain⟨u,rfl,ru⟩:=rv.one;obtain⟨z,its,n,r,hl,e⟩:=I.lstM hH;refine cL F.slot_list_append ⟨_,e,rfl⟩ F.entry_list_append (F.args_list_append_2 _ _) (PySem.list_append l its.toArray n u (by rw [D1];omega)) ⟨e,?_⟩;refine⟨.non,_,I.lset (its':=its++ [u]) hH e (by simp) (r.append (.cons ru .nil)) ?_,rfl,q⟩;rw [P2,L7];omega
def qG:R2:=λx y H Q=> ∃l b xs zs,x= .ref l/\y= .ref b/\H l=some (.lst xs)/\H b=some (.lst zs)/\xs.length+zs.length<=sizeLine/\ ∀p,H p=none->Q (.ref p) (upd H p (.lst (xs++zs)))
theorem Hi:OpR X (binaryOp .Add) qG:=by
 intro pins s σ H x y v u Q I rx ry h;obtain⟨l,b,xs,zs,rfl,rfl,hH,hB,hz,q⟩:=h;cases rx;cases ry;obtain⟨z,its,n,r,hl,e⟩:=I.lstM hH;obtain⟨z2,its2,n2,r2,hl2,e2⟩:=I.lstM hB;refine PySem.P.add_list e e2 ?_ (by rw [D1,D1];omega);have ea:its.toArray++its2.toArray=(its++its2).toArray:=by simp
 rw [ea];exact⟨.ref _,_,I.lnew (t':=s.toks) (r.append r2) (by rw [P2];omega),rfl,q _ I.fresh⟩
def qH:R2:=λx y H Q=> ∃l k xs,x= .ref l/\y= .int k/\H l=some (.lst xs)/\ -(2^63)<=k/\k<2^63/\xs.length*k.toNat<=sizeLine/\
 ∀p,H p=none->Q (.ref p) (upd H p (.lst (S4 k.toNat xs).flatten))
theorem PJ {α:Type}(xs:List α)(k:Nat):(S4 k xs).flatten.length=k*xs.length:=by
 induction k with
 |zero=>simp
 |succ k ih=>rw [E9,U1,P2,ih,cB,Y6]
theorem Hj:OpR X (binaryOp .Mult) qH:=by
 intro pins s σ H x y v u Q I rx ry h;obtain⟨l,k,xs,rfl,rfl,hH,h1,h2,hz,q⟩:=h;cases rx;obtain⟨t,rfl⟩:=ry;obtain⟨z,its,n,r,hl,e⟩:=I.lstM hH;have hlen:its.toArray.size*k.toNat<=sizeLine:=by rw [D1,<-hl];exact hz
 have hcap: ¬its.toArray.size*k.toNat>(2^63-1) / 8:=by
  have:(sizeLine:Nat)<=(2^63-1) / 8:=by decide
  omega
 have hfit: ¬ (!cM k)=true:=by
  rw [mF h1 h2];exact D2
 have hlong: ¬aA (its.toArray.size*k.toNat)=true:=by
  rw [FW hlen];exact D2
 have hnew:mE (λx1 x2=>x1++x2) #[] (S4 (if its.toArray.isEmpty=true then 0 else k.toNat) its.toArray)=(S4 k.toNat its).flatten.toArray:=by
  have f0: ∀m:Nat,mE (λx1 x2=>x1++x2) #[] (S4 m its.toArray)=(S4 m its).flatten.toArray:=λm=>by
   have:=Vq its m [];rw [C7] at this;exact this
  rw [f0];cases its with
  |nil=>simp
  |cons a r'=>rw [if_neg (by simp)]
 refine cV (T:= "list") (U:= "int") (by decide) ⟨_,e,rfl⟩ (λs'=>eJ s' k t) noFill_list_mul lG bP repeat_list F.slot_int_index.lookup
  (cL bP (eJ s k t) i7 (iH _ _) (int___rmul___int_list k t l its.toArray n)
   ⟨e,rfl,⟨_,e,rfl⟩,cL F.slot_list_mul ⟨_,e,rfl⟩ F.entry_list_mul (F.args_list_mul_2 _ _) (AutoListH.list___mul___list_int_3 l its.toArray n k t hfit hcap hlong) ⟨e,?_⟩⟩)
 rw [hnew];exact⟨.ref _,_,I.lnew (t':=s.toks) (r.rep k.toNat) (by rw [PJ,aU];exact hz),rfl,q _ I.fresh⟩
end
end L2
namespace Att
open PySem PySem.W PySem.Calls PyProof.Rows
theorem Vr {P:oQ}{h:Heap}: ∀ (ns:List Int) (vs:List G3),WellAll P h vs (ns.map WData.int)->A5 vs ns:=by
 intro ns
 induction ns with
 |nil=>
  intro vs w;rw [U2] at w;cases w;exact .nil
 |cons n ns ih=>
  intro vs w;rw [T3] at w;cases w with
  |cons a b=>
   cases a;exact .cons _ _ (ih _ b)
theorem NS {l:OpenLaw}{n:Nat}(hn:l.most=some n){P:oQ}{h:Heap}{args:List WData}{vals:List G3}
 (hpre:l.row.toRowW.claim.pre args=true)(hwl:WellAll P h vals args):
 ∃a vs ns,vals= [aO a]/\args= [WData.list (ns.map WData.int)]/\h.get? a=some {cls:= .type "list",data:= .seq vs.toArray}/\A5 vs ns/\ns.length<=n:=by
 have hsh:WShape.hasAll [] args [.list .int]=true:=(pre_splitW hpre).1;have hc:l.pre.holds [] {args:=args}=true:=(pre_splitW hpre).2;obtain⟨d,r,rfl,h1,h2⟩:=hasAllW_cons hsh;obtain rfl:=hasAllW_nil h2;obtain⟨xs,rfl,h3⟩:=hasW_list h1;obtain⟨ns,rfl⟩:=items_int h3;have hlen:ns.length<=n:=by
  unfold OpenLaw.pre at hc;have h4:(WTm.not (.lt (.lit (.int (n:Int))) (.len (.arg 0)))).holds [] {args:= [.list (ns.map .int)]}=true:=by
   have h4:=(holds_andW hc).1;rw [hn] at h4;exact h4
  have h5:=condW_of h4 (w_not (w_lt w_lit (w_len_list (w_arg rfl))));rw [G2] at h5;refine Y7 λq=> ?_
  have q':(n:Int)<((ns.length:Nat):Int):=by omega
  first
   |(rw [decide_eq_true q'] at h5;exact absurd h5 (by decide))
   |(simp at h5;omega)
 cases hwl with
 |cons w1 w2=>
  cases w2;cases w1 with
  |list ho hall=>exact⟨_,_,ns,rfl,rfl,ho,Vr ns _ hall,hlen⟩
theorem NT (l:OpenLaw)(args:List WData):l.row.toRowW.claim.post args (.bool true) args=true:=
 postW_of (r:=l.row.toRowW) (X:=(true==true))
  (show WShape.has [] (.bool true) .bool=true by first|rfl|decide|simp [WShape.has,WShape.arms,WShape.armsAll])
  (show (WTm.eq .res (.lit (.bool true))).value [] {args:=args,res:=some (.bool true),after:=args}=some (.bool (true==true)) from w_eq_bool (w_res rfl) w_lit) rfl
theorem attach_call {l:OpenLaw}{n:Nat}{q:S3}{loose:List Str}{XP:(Str->Option G3)->Heap->Prop}{YP:N2->Heap->Prop}{d:DefRec}
 (hn:l.most=some n)(hdf:d.params.defaults= [])
 (call: ∀ (w:N2) (s₀ oX:G6) (mg mb:Str->Option G3) (fa:Addr) (o:Obj) (pm cd doc:G3) (a:Addr) (vs:List G3) (ns:List Int),
  Ground q loose [] XP w s₀ mg mb oX.heap->YP w oX.heap->
  oX.heap.get? fa=some o->o.data= .func (docDef d.name d.params d.body d.scope pm cd doc)->oX.heap.CodeRec cd d.name->mg d.name=some (.ref fa)->
  oX.heap.get? a=some {cls:= .type "list",data:= .seq vs.toArray}->A5 vs ns->ns.length<=n->oX.gens= #[]->
  codeAny (model l.prog w) callerA (.call (.ref fa) ⟨[.ref a],[]⟩) (λr s'=>r= .ok (.ret (.bool true))/\OldK oX.heap s'.heap/\s'.os=oX.os/\c9 s'.gens) oX):
 WalkO q loose XP YP l.row.toRowW d [] (λf vs=>PySem.call f vs):=by
 intro w s₀ oX mg mb G Y fa o pm cd doc dV kV ho hd hcd hD hmg hg args vals as hpre hlay hrd hwl hlo;obtain rfl:dV= .none:=Dflts.none hD hdf;obtain rfl:kV= .none:=Dflts.noKw hD;obtain⟨a,vs,ns,rfl,rfl,hobj,hints,hlen⟩:=NS hn hpre hwl;refine enter_call (iB (call w s₀ oX mg mb fa o pm cd doc a vs ns G Y ho (fd_plain hd) hcd hmg hobj hints hlen hg) λr s' hq=> ?_);obtain⟨rfl,h2,h3,h4⟩:=hq;exact⟨.inl ⟨.bool true,.bool true,[],rfl,λ_=>rfl,.bool true,NT l _,λ_=>⟨List.Pairwise.nil,λ_ hm=>(nomatch hm)⟩⟩,h2,h3,h4⟩
end Att
namespace L2
open PySem PySem.Spec PyProof.Rows
theorem Gi: ∀ {vs:List G3} {ns:List Int},A5 vs ns->Vals (ns.map V.int) vs
 |_,_,.nil=> .nil
 |_,_,.cons n t h=> .cons ⟨t,rfl⟩ (Gi h)
def Only (H:Hp):Prop:= ∀b,H b=none\/ ∃o xs,H b=some (.frz o (.lst xs))
def Jt (s:Stmt):Arguments:=match s with
 | .FunctionDef _ a _ _ _ _ _ _ _ _=>a
 |_=> {posonlyargs:= [],args:= [],vararg:=none,kwonlyargs:= [],kw_defaults:= [],kwarg:=none,defaults:= []}
def yh (s:Stmt):List Stmt:=match s with
 | .FunctionDef _ _ b _ _ _ _ _ _ _=>b
 |_=> []
def je (s:Stmt):J6:=match s with
 | .FunctionDef _ _ _ _ _ _ sc _ _ _=>sc
 |_=> {kind:= .function,names:= [],isGenerator:=false,isCoroutine:=false}
abbrev CX0:CXT:=λ_ _ _ _ _ _=>False
abbrev E0:XK:=λ_ _ _=>False
variable {X:Cx}
theorem kZ:NN CX0 X E0:=λ_ _ _ _ _ _ _ h=>h.elim
structure Fun (K:PySem.W.Frag)(x qual:Str)(st:Stmt)(f:Addr)(fd:D8):Prop where
 ex: ∃ (oc:G3) (od:Option Addr) (kV doc pm:G3) (an:Option Addr) (cdv ct:G3) (osl:Array (Option G3)),
  fd=PySem.W.fnOf x qual (Jt st) (yh st) (je st) .none kV doc pm an cdv ct/\K.lookup f=some ⟨oc,od,.func fd,osl⟩/\PySem.W.codeIn K cdv qual=true
 kp:PySem.W.keepIn K (.ref f)=true
section
variable {P:S3}{w:N2}{K:PySem.W.Frag}{mg:Str->Option G3}{base:Heap}
variable {qual:Str}
theorem Fun.ok {x:Str}{st:Stmt}{f:Addr}{fd:D8}{N ps:List Str}{k:Nat}{sp:Sp}(F:Fun K x qual st f fd)(S:FnScope N ps (je st))(len: ∀vs H Q E,sp vs H Q E->vs.length=ps.length)
 (hbody: ∀ (cdv:G3) (A:M7) (outer:List Env) (s:G6) (H:Hp) (vs:List V) (Q:VK) (E:XK),Room k (A.deeper (envOfC qual (je st) s.heap.objs.size f cdv))->sp vs H Q E->
  ∃t,PSs (FR CX0 P w K mg base N qual (je st) f cdv A outer s H E).nox (yh st) t/\t {nx:=λ_ H'=>Q .non H',rt:=Q} (start N vs) H):FnOk P w K mg base CX0 (k+1) f fd ps sp:=by
 obtain⟨oc,od,kV,doc,pm,an,cdv,ct,osl,rfl,lk,hcd⟩:=F.ex;refine kS lk hcd S len λA outer s H vs Q E hr hsp=> ?_
 obtain⟨t,h,q⟩:=hbody cdv A outer s H vs Q E hr hsp;exact⟨t,h.nox,q⟩
theorem Fun.binds {x:Str}{st:Stmt}{f:Addr}{fd:D8}{ps:List Str}(F:Fun K x qual st f fd)
 (h: ∀ (kV doc pm:G3) (an:Option Addr) (cdv ct:G3) (us:List G3),us.length=ps.length->bindArgs (PySem.W.fnOf x qual (Jt st) (yh st) (je st) .none kV doc pm an cdv ct) ⟨us,[]⟩=pure (ps.zip us)):Binds K fd ps []:=by
 obtain⟨oc,od,kV,doc,pm,an,cdv,ct,osl,rfl,lk,hcd⟩:=F.ex;exact .all (h kV doc pm an cdv ct)
theorem Hk {x:Str}{st:Stmt}{f:Addr}{oc:G3}{od an:Option Addr}{osl:Array (Option G3)}{kV doc pm cdv ct:G3}(l:K.lookup f=some ⟨oc,od,.func (PySem.W.fnOf x qual (Jt st) (yh st) (je st) .none kV doc pm an cdv ct),osl⟩)
 (c:PySem.W.codeIn K cdv qual=true)(k:PySem.W.keepIn K (.ref f)=true):Fun K x qual st f (PySem.W.fnOf x qual (Jt st) (yh st) (je st) .none kV doc pm an cdv ct):=⟨⟨oc,od,kV,doc,pm,an,cdv,ct,osl,rfl,l,c⟩,k⟩
end
theorem jw {n:Nat}(h:n<=1000):n<sizeLine:=aI h (by decide)
theorem wO {A B:Prop}(h:B):if false=true then A else B:=by
 rw [if_neg D2];exact h
theorem vq {A B:Prop}(h:A):if true=true then A else B:=by
 rw [if_pos rfl];exact h
theorem Ny {c A B:Prop}[Decidable c](h1:c->A)(h2: ¬c->B):if c then A else B:=by
 by_cases h:c
 ·rw [if_pos h];exact h1 h
 ·rw [if_neg h];exact h2 h
structure M2 (X:Cx)(o:Expr)(m:Str)(apos:Pos)(e f:Expr)(cpos:Pos):Prop where
 base:attributeBase o m X.env (eval o X.env)=eval o X.env
 few:((backTo cpos (starEach [e,f] X.env)).all (λx=> !x.1)&&(backToKw cpos (keywordEach [] X.env)).all (λx=>x.1.isSome)
  &&decide (([e,f]:List Expr).length+([]:List U0).length+(if ([]:List U0).isEmpty then 0 else 1)<30))=true
 line:(apos.endLine==cpos.line)=true
 trees:backTo cpos (starEach [e,f] X.env)= [(false,eval e X.env),(false,eval f X.env)]
def vh (names:List (Str×NameKind))(env:Env)(cs:List (Str×Addr)):List (Str×Addr):=
 names.foldl (λcs p=>if p.2= .free then (match env.cells.lookup p.1 with|some c=>(p.1,c)::cs|none=>cs) else cs) cs
theorem wY (p:Str×NameKind)(l:List (Str×NameKind))(env:Env)(cs:List (Str×Addr)):
 vh (p::l) env cs=vh l env (if p.2= .free then (match env.cells.lookup p.1 with|some c=>(p.1,c)::cs|none=>cs) else cs):=rfl
variable {env:Env}
theorem Vs {f:Str×NameKind->List (Str×Addr)->Sem (ForInStep (List (Str×Addr)))}
 (h1: ∀p cs,p.2≠ .free->f p cs=pure (.yield cs))(h2: ∀p cs c,p.2= .free->env.cells.lookup p.1=some c->f p cs=pure (.yield ((p.1,c)::cs))):
 ∀ (l:List (Str×NameKind)) (cs:List (Str×Addr)),(∀p∈l,p.2= .free-> ∃c,env.cells.lookup p.1=some c)->forIn l cs f=pure (vh l env cs)
 | [],cs,_=>rfl
 |p::l,cs,h=>by
  have ih:=Vs h1 h2 l
  by_cases hp:p.2= .free
  ·obtain⟨c,hc⟩:=h p D0 hp;rw [bQ,h2 p cs c hp hc,pure_bind];show forIn l ((p.1,c)::cs) f=_;rw [ih _ λq hq=>h q (D5 _ hq),wY,if_pos hp,hc]
  ·rw [bQ,h1 p cs hp,pure_bind];show forIn l cs f=_;rw [ih _ λq hq=>h q (D5 _ hq),wY,if_neg hp]
variable {scope:J6}
theorem XI (h: ∀p∈scope.names,p.2= .free-> ∃c,env.cells.lookup p.1=some c):closureFor scope env=pure (vh scope.names env []):=by
 simp only [closureFor];rw [Vs (env:=env) (λp cs hp=> ?_) (λp cs c hp hc=> ?_) _ _ h]
 ·rfl
 ·obtain⟨n,k⟩:=p;have hb:(k==L9)=false:=by simpa using hp
  simp only [hb,gW,if_false]
 ·obtain⟨n,k⟩:=p;have hb:(k==L9)=true:=by simpa using hp
  have hc':env.cells.lookup n=some c:=hc;simp only [hb,if_true,cellOf,hc',pure_bind]
theorem Vt: ∀ (l:List (Str×NameKind)) (cs:List (Str×Addr)),(∀p∈cs,env.cells.lookup p.1=some p.2)-> ∀p∈vh l env cs,env.cells.lookup p.1=some p.2
 | [],cs,h,p,hp=>h p hp
 |q::l,cs,h,p,hp=>by
  rw [wY] at hp;refine Vt l _ (λr hr=> ?_) p hp
  by_cases hq:q.2= .free
  ·rw [if_pos hq] at hr;cases e:env.cells.lookup q.1 with
   |none=>rw [e] at hr;exact h r hr
   |some c=>
    rw [e] at hr;rcases R6.mp hr with rfl|hr
    ·exact e
    ·exact h r hr
  ·rw [if_neg hq] at hr;exact h r hr
theorem Vu: ∀ (l:List (Str×NameKind)) (cs:List (Str×Addr)),∀p∈cs,p∈vh l env cs
 | [],cs,p,hp=>hp
 |q::l,cs,p,hp=>by
  rw [wY];refine Vu l _ p ?_
  by_cases hq:q.2= .free
  ·rw [if_pos hq];cases e:env.cells.lookup q.1 with
   |none=>exact hp
   |some c=>exact D5 _ hp
  ·rw [if_neg hq];exact hp
variable {x:Str}
theorem Vv {c:Addr}(hc:env.cells.lookup x=some c): ∀ (l:List (Str×NameKind)) (cs:List (Str×Addr)),(x,L9)∈l->(x,c)∈vh l env cs
 |q::l,cs,h=>by
  rw [wY];rcases R6.mp h with e|h
  ·subst e;rw [if_pos rfl,hc];exact Vu l _ _ D0
  ·exact Vv hc l _ h
theorem yD {α:Type}: ∀ {l:List (Str×α)} {x:Str} {c:α},l.lookup x=some c->(x,c)∈l
 | [],_,_,h=>by simp at h
 |(n,k)::r,x,c,h=>by
  rw [E1] at h;cases hx:x==n with
  |true=>
   rw [hx] at h;have e:x=n:=eq_of_beq hx;cases h;subst e;exact D0
  |false=>rw [hx] at h;exact D5 _ (yD h)
theorem Xd {α:Type}: ∀ {l:List (Str×α)} {x:Str} {c:α},(x,c)∈l-> ∃c',l.lookup x=some c'
 |(n,k)::r,x,c,h=>by
  rw [E1];cases hx:x==n with
  |true=>exact⟨_,rfl⟩
  |false=>
   rcases R6.mp h with e|h
   ·cases e;simp at hx
   ·exact Xd h
theorem Xe {l:List (Str×NameKind)}{c:Addr}(h:(vh l env []).lookup x=some c):env.cells.lookup x=some c:=
 Vt l [] (λ_ z=>nomatch z) (x,c) (yD h)
theorem NU {l:List (Str×NameKind)}{c:Addr}(hc:env.cells.lookup x=some c)(h:(x,L9)∈l):(vh l env []).lookup x=some c:=by
 obtain⟨c',e⟩:=Xd (Vv hc l [] h);have:=Xe e;rw [hc] at this;cases this;exact e
theorem vK {κ:Type}{f:Str×κ->Str×κ}{g:Str->κ->κ}(hf: ∀n k,f (n,k)=(n,g n k))(x:Str): ∀l:List (Str×κ),(l.map f).lookup x=(l.lookup x).map (g x)
 | []=>rfl
 |(n,k)::r=>by
  rw [T3,hf,E1,E1,vK hf x r];cases same:x==n with
  |false=>rfl
  |true=>rw [eq_of_beq same];rfl
theorem zA {names:List (Str×NameKind)}{k:NameKind}(found:
 (names.map λ(n,k)=>if (k==L9&&env.scope.kind== .function&&env.kindOf n==some .cell) then (n,V6) else (n,k)).lookup x=some k):
  names.lookup x=some k\/names.lookup x=some .free:=by
 rw [vK (g:=λn k=>if (k==L9&&env.scope.kind== .function&&env.kindOf n==some .cell) then .cell else k) (λn k=>by dsimp only;split<;>rfl)] at found;obtain⟨k0,was,now⟩:=Option.map_eq_some_iff.mp found;split at now
 ·rename_i c;simp only [M6,beq_iff_eq] at c;exact .inr (by rw [was,c.1.1])
 ·exact .inl (by rw [was,now])
theorem yw: ∀ (names:List (Str×NameKind)) (n:Nat) (acc:List (Str×Addr)) (p:Str×Addr),p∈cellsFrom n names acc->p∈acc\/(n<=p.2/\(p.1,V6)∈names)
 | [],_,_,_,h=> .inl h
 |(x,k)::r,n,acc,p,h=>by
  unfold cellsFrom at h;split at h
  ·rename_i hk;rcases yw r (n+1) _ p h with z|⟨z1,z2⟩
   ·rcases R6.mp z with e|z
    ·subst e;have:k= .cell:=by simpa using hk
     subst this;exact .inr ⟨P0 _,D0⟩
    ·exact .inl z
   ·exact .inr ⟨by omega,D5 _ z2⟩
  ·rcases yw r n acc p h with z|⟨z1,z2⟩
   ·exact .inl z
   ·exact .inr ⟨z1,D5 _ z2⟩
theorem za: ∀ (names:List (Str×NameKind)) (n:Nat) (acc:List (Str×Addr)),cellsFrom n names acc=cellsFrom n names []++acc
 | [],_,_=>rfl
 |(x,k)::r,n,acc=>by
  unfold cellsFrom;split
  ·rw [za r (n+1) ((x,n)::acc),za r (n+1) [(x,n)],P6];rfl
  ·exact za r n acc
theorem WN {α:Type}(l l':List (Str×α))(x:Str):(l++l').lookup x=(match l.lookup x with|some c=>some c|none=>l'.lookup x):=by
 induction l with
 |nil=>rfl
 |cons p l ih=>
  obtain⟨n,c⟩:=p;rw [J4,E1,E1];cases x==n with
  |true=>rfl
  |false=>exact ih
theorem ZE {names:List (Str×NameKind)}(here:names.lookup x=some .cell):
 (names.map λ(n,k)=>if (k==L9&&env.scope.kind== .function&&env.kindOf n==some .cell) then (n,V6) else (n,k)).lookup x=some .cell:=by
 rw [vK (g:=λn k=>if (k==L9&&env.scope.kind== .function&&env.kindOf n==some .cell) then .cell else k) (λn k=>by dsimp only;split<;>rfl),here];simp
section
variable {M:l8}{A:M7}{E:G3->G6->Prop}{s:G6}
theorem Mo (h:Heap)(names:List (Str×NameKind)):(∀n c,(n,c)∈cellsFrom h.objs.size names []->(pushCells h names).IsCell c none/\h.objs.size<=c)/\(cellsFrom h.objs.size names []).Pairwise λx y=>x.2≠y.2:=
 have laid:=cellsFrom_ok names h h.objs.size [] ⟨by simp,.nil⟩ (P0 _)
 ⟨laid.empty,laid.apart⟩
theorem Gj {scope:J6}{globals:Addr}{closure:List (Str×Addr)}{qual:Str}{func:Option Addr}{code:G3}{outer:Env}{builtins:Addr}{Q:Env->G6->Prop}
 (hQ: ∀h',h'.Ns s.heap.objs.size (λ_=>none)->(∀b o,s.heap.get? b=some o->h'.get? b=some o)->(∀n c,(n,c)∈cellsFrom (s.heap.objs.size+1) scope.names []->h'.IsCell c none/\s.heap.objs.size+1<=c)->
  ((cellsFrom (s.heap.objs.size+1) scope.names []).Pairwise λx y=>x.2≠y.2)->
  Q (newEnv scope s.heap.objs.size globals (cellsFrom (s.heap.objs.size+1) scope.names closure) qual func code (some outer) builtins) {s with heap:=h'}):
 wpAny M A (newFunctionEnv scope globals closure [] qual func code (some outer) builtins) Q E s:=by
 have names:=Mo (s.heap.push {cls:= .type "dict",data:= .dict #[]}) scope.names;have first:(s.heap.push {cls:= .type "dict",data:= .dict #[]}).objs.size=s.heap.objs.size+1:=V9 ..
 rw [first] at names;unfold newFunctionEnv;refine wpAny_bind (wpAny_alloc (wpAny_bind (wpAny_layCells _ (λn k cs=>rfl) _ _ _ _ ?_)));simp only [Option.isSome_some,if_true];rw [first];exact wpAny_bind (P7 (P7 (hQ _ ((Heap.Ns.new _ _).keeps (lH _ _)) (λb o here=>lH _ _ b o (G7 _ here)) names.1 names.2)))
end
def jV (X:Cx)(scope:J6)(C:Addr):List (Str×Addr):=cellsFrom (C+1) scope.names (vh scope.names X.env [])
def ZF (X:Cx)(scope:J6)(C:Addr)(s₀:G6)(H₀:Hp)(ex:List Addr):Cx:=
 {X with s₀:=s₀,H₀:=H₀,env:=compEnvC scope (jV X scope C) C X.env,outer:=X.stack,ex:=ex,fn:=λx=>scope.names.lookup x==some .cell,pn:= [],xe:=λ_ _=>False}
def jp (X:Cx)(scope:J6)(X':Cx):Prop:= ∃C s₀ H₀ ex,X'=ZF X scope C s₀ H₀ ex
structure BlockOk (X:Cx)(scope:J6)(js:List Nat):Prop where
 kind:scope.kind= .function
 locs: ∀p∈scope.names,p.2= .local->scope.names.lookup p.1=some .local
 cels: ∀p∈scope.names,p.2= .cell->scope.names.lookup p.1=some .cell
 free: ∀p∈scope.names,p.2= .free->X.env.scope.names.lookup p.1=some .cell\/X.env.scope.names.lookup p.1=some .free
 js: ∀ (i:Nat) (x:Str),X.N[i]? =some x->(scope.names.lookup x=some .local\/scope.names.lookup x=some .cell)->i∈js
variable {js:List Nat}
theorem vw (S:BlockOk X scope js){C:Addr}{x:Str}{c:Addr}(h:(jV X scope C).lookup x=some c):
 (scope.names.lookup x≠some .cell/\X.env.cells.lookup x=some c)\/(scope.names.lookup x=some .cell/\(x,c)∈cellsFrom (C+1) scope.names []):=by
 unfold jV at h;rw [za,WN] at h;cases e:(cellsFrom (C+1) scope.names []).lookup x with
 |some d=>
  rw [e] at h;cases h;have m:=yD e;rcases yw _ _ _ _ m with z|⟨_,z⟩
  ·exact absurd z (by simp)
  ·exact .inr ⟨S.cels _ z rfl,m⟩
 |none=>
  rw [e] at h;refine .inl ⟨λz=> ?_,Xe h⟩;obtain⟨d,hd⟩:=Vg (sc:=scope) (n:=C+1) z;rw [e] at hd;cases hd
theorem Yw (S:BlockOk X scope js){C:Addr}{x:Str}{c:Addr}(hc:X.env.cells.lookup x=some c)(h:(x,L9)∈scope.names)(hn:scope.names.lookup x≠some .cell):(jV X scope C).lookup x=some c:=by
 unfold jV;rw [za,WN];cases e:(cellsFrom (C+1) scope.names []).lookup x with
 |some d=>
  rcases yw _ _ _ _ (yD e) with z|⟨_,z⟩
  ·exact absurd z (by simp)
  ·exact absurd (S.cels _ z rfl) hn
 |none=>exact NU hc h
def yq:List Nat->St->St
 | [],σ=>σ
 |j::js,σ=>yq js (σ.set j none)
theorem Xf: ∀ (js:List Nat) (σ:St),(yq js σ).length=σ.length
 | [],_=>rfl
 |j::js,σ=>by rw [yq,Xf js];simp
theorem Vw: ∀ (js:List Nat) (σ:St) (i:Nat) (v:V),(yq js σ)[i]? =some (some v)->σ[i]? =some (some v)
 | [],_,_,_,h=>h
 |j::js,σ,i,v,h=>by
  have h1:=Vw js _ i v h
  by_cases e:i=j
  ·subst e;rw [aV] at h1;simp at h1
  ·rwa [B2 (A4 e)] at h1
theorem zn: ∀ (js:List Nat) (σ:St) (i:Nat) (v:V),i∈js-> ¬ (yq js σ)[i]? =some (some v)
 |j::js,σ,i,v,hm,h=>by
  rcases R6.mp hm with rfl|hm
  ·have h1:=Vw js _ i v h;rw [aV] at h1;simp at h1
  ·exact zn js _ i v hm h
theorem HOk.track {P:S3}{w:N2}{H:Hp}{h:Heap}{a:Addr}{o:HO}(x:HOk P w H h)(hn:H a=none)(new:ObjOk P w (upd H a o) h a o):HOk P w (upd H a o) h:=λb u e=>by
 by_cases hb:b=a
 ·subst hb;rw [jy] at e;cases e;exact new
 ·rw [jx hb] at e;exact(x b u e).stay (λc v _ q=>q) (λc q=>by rw [jx (jt q hn)];exact q) λc xs q=>by rw [jx (jt q hn)];exact q
def Agree (σ oV:St):Prop:=oV.length=σ.length/\ ∀ (i:Nat) (v:V),σ[i]? =some (some v)->oV[i]? =some (some v)
theorem Agree.set {σ:St}{j:Nat}(v:V)(h: ∀u,¬σ[j]? =some (some u)):Agree σ (σ.set j (some v)):=⟨by simp,λi u q=>by
 by_cases e:j=i
 ·subst e;exact absurd q (h u)
 ·rw [B2 e];exact q⟩
theorem Agree.trans {a b c:St}(x:Agree a b)(y:Agree b c):Agree a c:=⟨y.1.trans x.1,λi v h=>y.2 i v (x.2 i v h)⟩
def PTs (X:Cx)(ifs:List Expr)(t:TT):Prop:=
 ∀ (pins:List (Addr×Obj)) (s:G6) (σ:St) (H:Hp) (Q:Bool->Hp->Prop),Inv X pins σ H s->t σ H Q->
  wpAny (model X.prog X.w) X.A (forIn ifs true λc r=>if r=true then do let ok <-isTrue c X.env (eval c X.env);pure (X2 ok) else pure (X2 r)) (TP X pins σ Q) X.xe s
def xP:TT:=λ_ H Q=>Q true H
theorem AY:PTs X [] xP:=λ_ _ _ H _ I h=>wpAny_tests_nil ⟨H,I,h⟩
theorem AZ {c:Expr}{t:TT}(hc:PT X c t):PTs X [c] t:=λpins s σ H Q I h=>wpAny_tests_one (hc pins s σ H Q I h)
def Xg (iter target:Expr)(ifs:List Expr)(it:G3)(env:Env)(act:Sem Unit)(nxt:Code):Sem PySem.Fin:=do
 standAt iter.pos
 match <-pyNext it with
 |none=>pure (.done .next)
 |some v=>
  letOwnedTupleGo target it v
  assign target env v
  let mut ok:=true
  for c in ifs do
   if ok then ok <-isTrue c env (eval c env)
  if ok then act
  again nxt
variable {elt iter:Expr}{pos:Pos}{ifs:List Expr}
theorem Ri {prog:S3}{w:N2}{A:M7}{R:oP->G6->Prop}{s:G6}{target:Expr}{gens:List bF}{depth:Nat}{it acc:G3}{act:Sem Unit}(I:Nat->G6->Prop)
 (heq:compTurn (.ListComp elt gens scope pos) depth it acc env=Xg iter target ifs it env act (.compLoop (.ListComp elt gens scope pos) depth it acc env))
 (turn: ∀n s,I n s->wpAny (model prog w) A (pyNext it) (λr oX=>match r with
  |none=>R (.ok .next) oX
  |some v=>wpAny (model prog w) A (letOwnedTupleGo target it v) (λ_ oX=>wpAny (model prog w) A (assign target env v) (λ_ o6=>
   wpAny (model prog w) A (forIn ifs true λc r=>if r=true then do let ok <-PySem.isTrue c env (eval c env);pure (X2 ok) else pure (X2 r)) (λok pG=>
    if ok=true then wpAny (model prog w) A act (λ_ p7=> ∃m,m<n/\I m p7) (λ_ _=>False) pG
    else ∃m,m<n/\I m pG) (λ_ _=>False) o6) (λ_ _=>False) oX) (λ_ _=>False) oX) (λ_ _=>False) s)
 (n:Nat)(h:I n s):
 codeAny (model prog w) A (.compLoop (.ListComp elt gens scope pos) depth it acc env) R s:=by
 refine codeAny_loop rfl I (λn s hI=> ?_) n h;show wpAny _ A ((compTurn (.ListComp elt gens scope pos) depth it acc env).onRaise (λx=>do noteFrame x env;theTreesLotGoes x)) _ _ s;refine wpAny_noted ?_;rw [heq];unfold Xg;refine wpAny_bind (Z8 (wpAny_bind (S6 (turn n s hI) (λr oX o7=> ?_) λ_ _ h'=>h'.elim)));cases r with
 |none=>exact P7 o7
 |some v=>
  refine wpAny_bind (S6 o7 (λ_ oX o7=> ?_) λ_ _ h'=>h'.elim);refine wpAny_bind (S6 o7 (λ_ o6 o9=>wpAny_bind (S6 o9 (λok pG pB=> ?_) λ_ _ h'=>h'.elim)) λ_ _ h'=>h'.elim);cases ok with
  |false=>exact P7 ⟨rfl,pB⟩
  |true=>exact wpAny_bind (S6 pB (λ_ p7 rF=>P7 ⟨rfl,rF⟩) λ_ _ h'=>h'.elim)
abbrev TM:=St->Hp->List V->(List V->Hp->Prop)->Prop
def kh (X:Cx)(D:Addr)(act:Sem Unit)(t:TM):Prop:=
 ∀ (pins:List (Addr×Obj)) (s:G6) (σ:St) (H:Hp) (ys:List V) (us:List G3) (Q:List V->Hp->Prop),Inv X ([(D,U3 us)]++pins) σ H s->Vals ys us->ys.length<=sizeLine->D∈X.ex->(∀x c,X.env.cells.lookup x=some c->c≠D)->(∀p∈X.pn++pins,p.1≠D)->t σ H ys Q->
  wpAny (model X.prog X.w) X.A act (λ_ s'=> ∃ys' us' H',Vals ys' us'/\Inv X ([(D,U3 us')]++pins) σ H' s'/\Q ys' H') (λ_ _=>False) s
def Hl (te:TE):TM:=λσ H ys Q=>te σ H λy H1=>Q (ys++ [y]) H1
def Xh (elt:Expr)(env:Env)(acc:G3):Sem Unit:=do let _ <-call (.builtin "list.append") [acc,<-eval elt env]
variable {te:TE}
theorem XJ {D:Addr}(hx:X.xe=λ_ _=>False)(he:PE X elt te):kh X D (Xh elt X.env (.ref D)) (Hl te):=by
 intro pins s σ H ys us Q I hv hz DX cD pD h;have q:=he _ s σ H _ I h;rw [hx] at q;unfold Xh;refine wpAny_bind (S6 q (λy s1 ⟨yv,H1,I1,r1,q1⟩=> ?_) λ_ _ z=>z);have zD:=I1.pin (D,U3 us) (D4 _ (N0 _ D0));refine wpAny_bind (append_at (its:=us.toArray) (n:=us.length) zD.1 (λh11 hs11 hD11=>P7 ?_) (by rw [D1,<-hv.length];exact hz));have I10u:Inv X pins σ H1 s1:=I1.pins_of λp hp=>I1.pin p (D4 _ (D4 _ hp))
 have I11:Inv X pins σ H1 {s1 with heap:=h11}:=I10u.turned (t':=s1.toks) (it:=D) (λb o hb e=>hs11.extBut b o hb e) zD.2.1 zD.2.2.1 (.inl DX) cD pD;have eD:h11.get? D=some (U3 (us++ [y])):=by rw [hD11];exact congrArg some (LCg.lst_snoc us y)
 refine⟨ys++ [yv],us++ [y],H1,hv.append (.cons r1 .nil),I11.pins_of λp hp=> ?_,q1⟩;rcases D9.mp hp with z|z
 ·rcases G9.mp z with rfl
  exact⟨eD,zD.2.1,zD.2.2.1,zD.2.2.2.1,λv z=>by cases z⟩
 ·exact I11.pin p (D4 _ z)
def ki (js : List Nat) (wi : TI) (g : TG) (tt : TT) (tm : TM) : TE := fun σ H Q => wi σ H fun J H1 =>
  ∃ W : Nat → Nat → List V → Hp → Prop, (∃ m, W 0 m [] H1) ∧ ∀ i m ys H, W i m ys H → ys.length ≤ sizeLine ∧
    ((J.stop i H ∧ ∀ p, H p = none → Q (.ref p) (upd H p (.lst ys))) ∨
     (J.go i H ∧ ∀ x H', J.yld i H x H' → g x (yq js σ) H' fun oY H2 => Agree (yq js σ) oY ∧ tt oY H2 fun b H3 =>
        if b = true then tm oY H3 ys fun ys' H4 => ∃ m', m' < m ∧ W (i + 1) m' ys' H4 else ∃ m', m' < m ∧ W (i + 1) m' ys H3))
def tLC (js:List Nat)(wi:TI)(g:TG)(tt:TT)(te:TE):TE:=ki js wi g tt (Hl te)
variable {tg:Expr}{wi:TI}{g:TG}{tt:TT}
theorem NV {e:Expr}{rest:List bF}{pos0:Pos}{tm:TM}{use:Option (G3->Sem Unit)}{Qv:G3->G6->Prop}(hc:X.calm=true)(S:BlockOk X scope js)(hi:PI X tg iter wi)
 (he0:e= .ListComp elt (⟨tg,iter,ifs,0⟩::rest) scope pos)
 (hg: ∀X',jp X scope X'->PG X' tg g)(ht: ∀X',jp X scope X'->PTs X' ifs tt)
 (act:Env->G3->Sem Unit)(hturn: ∀it acc env,compTurn e 0 it acc env=Xg iter tg ifs it env (act env acc) (.compLoop e 0 it acc env))(he: ∀X',jp X scope X'-> ∀D,kh X' D (act X'.env (.ref D)) tm)
 (hs: ∀x,foldedSetIterable iter X.env x=pure x){pins:List (Addr×Obj)}{s:G6}{σ:St}{H:Hp}{Q:VK}(I:Inv X pins σ H s)(h:ki js wi g tt tm σ H Q)
 (fin: ∀ (D C:Addr) (H':Hp) (s':G6) (m:Str->Option G3),s'.heap.Ns C m->(∀h',Y5 C s'.heap h'->Inv X pins σ H' {s' with heap:=h'})->H' C=none->C≠X.env.locals->C ∉ X.fs->X.s₀.heap.objs.size<=C->(∀x c,X.env.cells.lookup x=some c->c≠C)->(∀p∈X.pn++pins,p.1≠C)->
  Q (.ref D) H'->compPost (model X.prog X.w) X.A X.xe use Qv (.ref D) C (.ok .next) s'):
 wpAny (model X.prog X.w) X.A (comprehension e scope X.env pos0 (newList []) false (eval iter X.env) use) Qv X.xe s:=by
 have hclos:=XI (scope:=scope) (env:=X.env) (λp hp e=>I.ok.has p.1 (S.free p hp e));subst he0;refine wpAny_comprehension_free (use:=use) rfl hs hclos S.kind S.locs (thn (hi pins s σ H _ I h) λv s1 h1=>thn h1 λitv s2 h2=> ?_);obtain⟨it,fp,tn,J,H2,e,I2,T,st2,f2,W,⟨m0,w0⟩,turn⟩:=h2;subst e;refine Q8 (Gj (λo7 pO pT pI pQ=> ?_));dsimp only at pO pT pI pQ ⊢;generalize hD:s2.heap.objs.size=D;generalize hH3:s2.heap.push {cls:= .type "list",dict:=none,data:= .seq ([]:List G3).toArray}=h3 at pO pT pI pQ ⊢;have sz3:h3.objs.size=D+1:=by rw [<-hH3,V9,hD]
 have up3: ∀b o,s2.heap.get? b=some o->h3.get? b=some o:=λb o e=>hH3 ▸ G7 _ e
 have I3:Inv X pins σ H2 {s2 with heap:=h3}:=I2.kept (t':=s2.toks) up3;have hD3:h3.get? D=some (U3 []):=by rw [<-hH3,<-hD];exact D7 _ rfl
 have fD:Nx X pins H2 D:=I2.fpOk (by rw [hD];exact P0 _) (I2.hok.fresh (by rw [hD];exact P0 _));have obf: ∀b∈fp,∃o,s2.heap.get? b=some o/\ ∀v,o.data≠ .cell v:=T.obj _ _ st2;have ltf: ∀b∈fp,b<D:=λb hb=>by obtain⟨o,e,_⟩:=obf b hb;rw [<-hD];exact P9 e
 generalize hC:h3.objs.size=C at pO pI pQ ⊢;have CD:C=D+1:=hC.symm.trans sz3;have upC: ∀b o,h3.get? b=some o->o7.get? b=some o:=pT;generalize hX:ZF X scope C {s2 with heap:=h3} H2 (fp++ [D])=X';have iX:jp X scope X':=⟨C,_,_,_,hX.symm⟩;have hf: ∀b∈fp++ [D],Nx X pins H2 b:=λb hb=>(D9.mp hb).elim (f2 b) λz=>by rw [G9.mp z];exact fD
 have cl: ∀x c,(jV X scope C).lookup x=some c->X.env.cells.lookup x=some c\/C<c:=λx c e=>by
  rcases vw S e with ⟨_,z⟩|⟨_,z⟩
  ·exact .inl z
  ·exact .inr (aW (pI x c z).2)
 have olt: ∀x c,X.env.cells.lookup x=some c->c<C:=λx c e=>by obtain⟨v,q⟩:=I3.cell x c e;rw [<-hC];exact q.lt
 have ltb: ∀b∈fp++ [D],b<C:=λb hb=>(D9.mp hb).elim (λz=>by have:=ltf b z;rw [CD];exact J9 this) λz=>by rw [G9.mp z,CD];exact L6 _
 have okX:X'.Ok:=by
  subst hX;refine⟨I.ok.mod,S.kind,I.ok.glob,I.ok.blt,K4 hC,λx y c e1 e2=> ?_,λx hx=> ?_,λx c z e=> ?_,I.ok.hd,I.ok.frames,.inl rfl,λb hb=>⟨S0 (ltb b hb),λx c e=>(cl x c e).elim (λz=>(hf b hb).2.2.2.2.1 x c z) λz=>E4 (W6 (ltb b hb) z)⟩,
   I3.bs,R9 I.ok.bsz I3.sz,λb o e hb=> ?_,λb hb z=> ?_,I3.stack,I3.stkFree⟩
  ·rcases vw S e1 with ⟨_,z1⟩|⟨_,z1⟩<;>rcases vw S e2 with ⟨_,z2⟩|⟨_,z2⟩
   ·exact I.ok.inj x y c z1 z2
   ·exact absurd (W6 (olt x c z1) (aW (pI y c z2).2)) (N6 _)
   ·exact absurd (W6 (olt y c z2) (aW (pI x c z1).2)) (N6 _)
   ·exact m9 pQ z1 z2
  ·have own:scope.names.lookup x=some .cell-> ∃c,(jV X scope C).lookup x=some c:=λz=>by
    obtain⟨c,hc⟩:=Vg (sc:=scope) (n:=C+1) z;exact⟨c,by unfold jV;rw [za,WN,hc]⟩
   have shr:scope.names.lookup x=some .free-> ∃c,(jV X scope C).lookup x=some c:=λz=>by
    have fm:=yD z;obtain⟨c,hc⟩:=I.ok.has x (S.free _ fm rfl);exact⟨c,Yw S hc fm (by rw [z];decide)⟩
   rcases hx with hx|hx
   ·rcases zA (env:=X.env) hx with z|z
    ·exact own z
    ·exact shr z
   ·rcases zA (env:=X.env) hx with z|z<;>exact shr z
  ·have z':scope.names.lookup x=some .cell:=by
    have z2:(scope.names.lookup x==some V6)=true:=z;simpa using z2
   rcases vw S e with ⟨n,_⟩|⟨_,m⟩
   ·exact absurd z' n
   ·show h3.objs.size<=c;rw [hC];exact R1 (aW (pI x c m).2)
  ·rcases (hf b hb).2.2.2.1 with z|z
   ·exact I.ok.noex b o e z
   ·exact absurd (T1 (P9 e) (R9 I.ok.bsz z)) (N6 _)
  ·rcases R6.mp (I.stkSub b z) with q|q
   ·exact(hf b hb).2.1 q
   ·exact(hf b hb).2.2.1 q
 -- the block's first state
 have I4:Inv X' [(D,U3 [])] (yq js σ) H2 {s2 with heap:=o7}:=by
  subst hX;have hDC:D≠C:=by rw [CD];exact S0 (L6 _)
  refine⟨okX,rfl,I2.bare,Un.kept (λb u e=>upC b u e),⟨_,pO,λi x v e1 e2 e3=> ?_⟩,λx c e=> ?_,I3.hok.fresh (K4 hC),λx c e=>(cl x c e).elim (λz=>I2.freeC x c z) (λz=>I3.hok.fresh (by rw [<-hC] at z;exact R1 z)),λp hp=> ?_,I3.hok.kept upC,(Xf js σ).trans I2.len⟩
  ·have fr:scope.names.lookup x=some .free:=by
    rcases e3 with e3|e3|e3
    ·rcases zA (env:=X.env) e3 with z|z
     ·exact absurd e2 (zn js σ i v (S.js i x e1 (.inl z)))
     ·exact z
    ·rcases zA (env:=X.env) e3 with z|z
     ·exact absurd e2 (zn js σ i v (S.js i x e1 (.inr z)))
     ·exact z
    ·rcases zA (env:=X.env) e3 with z|z<;>exact z
   have fm:=yD fr;obtain⟨m,hm,hl⟩:=I2.loc;have vis:=S.free _ fm rfl;obtain⟨u,r,lk⟩:=hl i x v e1 (Vw js σ i v e2) (.inr vis);have kd:(relabel scope X.env).names.lookup x=some .cell\/(relabel scope X.env).names.lookup x=some .free:=by
    rcases e3 with e3|e3|e3
    ·rcases zA (env:=X.env) e3 with z|z
     ·rw [fr] at z;cases z
     ·exfalso;have z2:=e3
      -- a local's kind stays
      exact absurd e2 (zn js σ i v (S.js i x e1 (.inl (by
       have q: ∀ (l:List (Str×NameKind)),(l.map λ(n,k)=>if (k==L9&&X.env.scope.kind== .function&&X.env.kindOf n==some .cell) then (n,V6) else (n,k)).lookup x=some .local->l.lookup x=some .local:=by
        intro l
        induction l with
        |nil=>intro h;simp at h
        |cons p l ih=>
         obtain⟨n,k'⟩:=p;intro h;have h':List.lookup x ((if (k'==L9&&X.env.scope.kind== .function&&X.env.kindOf n==some .cell)=true then (n,V6) else (n,k'))::(l.map λ(n,k)=>if (k==L9&&X.env.scope.kind== .function&&X.env.kindOf n==some .cell) then (n,V6) else (n,k)))=some .local:=h;rw [E1]
         by_cases hc:(k'==L9&&X.env.scope.kind== .function&&X.env.kindOf n==some .cell)=true
         ·rw [if_pos hc,E1] at h';cases hx:x==n with
          |true=>rw [hx] at h';cases h'
          |false=>rw [hx] at h';exact ih h'
         ·rw [if_neg hc,E1] at h';cases hx:x==n with
          |true=>rw [hx] at h';exact h'
          |false=>rw [hx] at h';exact ih h'
       exact q _ z2))))
    ·exact .inl e3
    ·exact .inr e3
   rcases lk with ⟨k,_⟩|⟨_,c,hc,hcell⟩
   ·have k':X.env.scope.names.lookup x=some .local:=k;rcases vis with z|z<;>(rw [k'] at z;cases z)
   ·refine⟨u,r,.inr ⟨kd,c,Yw S hc fm (by rw [fr];decide),?_⟩⟩;obtain⟨o,ho,hd⟩:=hcell;exact⟨o,upC _ _ (up3 _ _ ho),hd⟩
  ·rcases vw S e with ⟨_,z⟩|⟨_,z⟩
   ·obtain⟨v,o,ho,hd⟩:=I2.cell x c z;exact⟨v,o,upC _ _ (up3 _ _ ho),hd⟩
   ·exact⟨none,(pI x c z).1⟩
  ·have hp':p∈ [(D,U3 [])]:=hp;rcases G9.mp hp' with rfl
   refine⟨upC _ _ hD3,fD.1,hDC,λz=> ?_,λv z=>by cases z⟩;rcases R6.mp (I.stkSub D z) with q|q
   ·exact fD.2.1 q
   ·exact fD.2.2.1 q
 have st4:tn 0 o7:=T.keep _ _ _ st2 λb _ o e=>upC _ _ (up3 _ _ e)
 have eA:X'.A=X.A:=by rw [<-hX];rfl
 have eP:X'.prog=X.prog:=by rw [<-hX];rfl
 have eW:X'.w=X.w:=by rw [<-hX];rfl
 have eK:X'.K=X.K:=by rw [<-hX];rfl
 have eC:X'.calm=true:=by rw [<-hX];exact hc
 have eV:X'.env=compEnvC scope (jV X scope C) C X.env:=by rw [<-hX];rfl
 have eE:X'.xe=λ_ _=>False:=by rw [<-hX];rfl
 -- what stays true of the iterator's objects
 have stat: ∀ {us:List G3} {H':Hp},(∀b∈fp,H' b=none)-> ∀b∈fp,Nx X' [(D,U3 us)] H' b:=λ{us H'} hn b hb=>by
  have q:=hf b (N0 _ hb);subst hX;refine⟨hn b hb,S0 (ltb b (N0 _ hb)),λz=> ?_,.inl (N0 _ hb),λx c e=>(cl x c e).elim (λz=>q.2.2.2.2.1 x c z) (λz=>E4 (W6 (ltb b (N0 _ hb)) z)),λp hp=> ?_⟩
  ·rcases R6.mp (I.stkSub b z) with r|r
   ·exact q.2.1 r
   ·exact q.2.2.1 r
  ·have hp':p∈ [(D,U3 us)]:=hp;rcases G9.mp hp' with rfl
   exact E4 (ltf b hb)
 have loop: ∀pG:G6,pG= {s2 with heap:=o7}->
  codeAny (model X.prog X.w) X.A (.compLoop (.ListComp elt (⟨tg,iter,ifs,0⟩::rest) scope pos) 0 (.ref it) (.ref D) (compEnvC scope (jV X scope C) C X.env))
   (compPost (model X.prog X.w) X.A X.xe use Qv (.ref D) C) pG:=by
  rintro pG rfl;refine Ri (act:=act (compEnvC scope (jV X scope C) C X.env) (.ref D)) (λn s'=> ∃i ys us H',Vals ys us/\Inv X' [(D,U3 us)] (yq js σ) H' s'/\tn i s'.heap/\(∀b∈fp,H' b=none)/\W i n ys H') (hturn _ _ _) ?_ m0
   ⟨0,[],[],H2,.nil,I4,st4,λb hb=>(f2 b hb).1,w0⟩
  rintro n s5 ⟨i,ys,us,H5,hv5,I5,st5,fr5,w5⟩;obtain⟨hz,tr⟩:=turn i n ys H5 w5;rcases tr with ⟨stop,qn⟩|⟨go,step⟩
  ·have q:=T.done X' eP eW eK eC i _ s5 _ H5 (λ_ _=>False) I5 (stat fr5) st5 stop;rw [eA] at q;refine S6 q (λr s6 ⟨hr,I6⟩=> ?_) λ_ _ z=>z
   subst hr;obtain⟨m6,hm6,_⟩:=I6.loc;rw [eV] at hm6;have zD:=I6.pin (D,U3 us) (D4 _ D0);have HD:H5 D=none:=zD.2.1;have oD:s6.heap.get? D=some (U3 us):=zD.1;have hDC:D≠C:=by rw [CD];exact S0 (L6 _)
   have HC:H5 C=none:=by have z:=I6.free;rw [eV] at z;exact z
   have B:=I6.base;have os6:s6.os=s2.os:=by have z:=I6.os;rw [<-hX] at z;exact z
   have Bu:Un (frs X.stack) (fp++ [D]) H2 H5 h3 s6.heap:=by rw [<-hX] at B;exact B
   have neC: ∀b o,h3.get? b=some o->b≠C:=λb o e=>by rw [<-hC];exact S0 (P9 e)
   refine fin D C (upd H5 D (.lst ys)) s6 m6 hm6 (λh' hs'=> ?_) (by rw [jx (A4 hDC)];exact HC) ?_ ?_ ?_ (λx c e=>S0 (olt x c e)) ?_ (qn D HD)
   ·have hk5:HOk X.prog X.w H5 h':=λb u e=>by
     have z:=I6.hok b u e;rw [eP,eW] at z;refine z.stay (λc v hc q=>hs'.extBut c v ?_ q) (λ_ q=>q) λ_ _ q=>q
     rcases hc with rfl|hc
     ·exact jt e HC
     ·exact jt hc HC
    refine I3.call' (ch:=fp++ [D]) os6 ⟨λb o e n hb hx=> ?_,λb o e n hb hx=> ?_,λb o e n hx=> ?_,λb o e hx=> ?_,λb xs e=> ?_,λb o u e=> ?_,λb ps e=> ?_⟩ (hk5.track HD ?_) I6.bare λb hb=> ?_
    ·exact hs'.extBut b o (neC b o e) (Bu.keep b o e n hb hx)
    ·obtain⟨sl,q⟩:=Bu.slot b o e n hb hx;exact⟨sl,hs'.extBut b _ (neC b o e) q⟩
    ·rw [jx λz=>hx (by rw [z];exact D4 _ D0)];exact Bu.free b o e n hx
    ·obtain⟨o',q⟩:=Bu.there b o e hx;exact⟨o',hs'.extBut b _ (neC b o e) q⟩
    ·have z:=Bu.tups b xs e;rw [jx (jt z HD)];exact z
    ·have z:=Bu.frzs b o u e;rw [jx (jt z HD)];exact z
    ·obtain⟨more,z⟩:=Bu.tbls b ps e;exact⟨more,by rw [jx (jt z HD)];exact z⟩
    ·exact⟨hz,us,us.length,hv5,hs'.extBut D _ hDC oD⟩
    ·have q:=hf b hb;exact⟨q.2.2.2.1,q.2.1,q.2.2.2.2.1,q.2.2.2.2.2⟩
   ·rw [<-hC];exact E4 I3.lt
   ·exact I3.nofs (K4 hC)
   ·rw [<-hC];exact I3.sz
   ·intro p hp;have:=(I3.pin p hp).1;rw [<-hC];exact S0 (P9 this)
  ·have q:=T.item X' eP eW eK eC i _ s5 _ H5 (λ_ _=>False) I5 (stat fr5) st5 go;rw [eA] at q;refine S6 q (λr s6 ⟨u,hr,h6⟩=> ?_) λ_ _ z=>z
   subst hr;refine S6 h6 (λ_ s7 ⟨x,H7,I7,r7,y7,st7,fr7⟩=> ?_) λ_ _ z=>z
   have I7':=I7.pinned (stat fr7) (T.obj _ _ st7);have q7:=hg X' iX _ s7 _ H7 x u _ I7' r7 (step x H7 y7);rw [eP,eW,eA,eV,eE] at q7;refine S6 q7 (λ_ s8 ⟨pL,H8,I8,ag8,q8⟩=> ?_) λ_ _ z=>z
   have q9:=ht X' iX _ s8 pL H8 _ I8 q8;rw [eP,eW,eA,eV,eE] at q9;refine S6 q9 (λok s9 ⟨H9,I9,q9⟩=> ?_) λ_ _ z=>z
   have keepT: ∀ {oV:St} {H':Hp} {s':G6} {us:List G3},Inv X' ([(D,U3 us)]++Zu fp s7.heap) oV H' s'->tn (i+1) s'.heap/\ ∀b∈fp,H' b=none:=λ{oV H' s' us} I'=>
    ⟨T.keep _ _ _ st7 λb hb o e=>(I'.pin (b,o) (D4 _ (D4 _ (yC hb e)))).1,λb hb=>by
     obtain⟨o,e,_⟩:=T.obj _ _ st7 b hb;exact(I'.pin (b,o) (D4 _ (D4 _ (yC hb e)))).2.1⟩
   cases ok with
   |false=>
    have q9: ∃m',m'<n/\W (i+1) m' ys H9:=q9;obtain⟨m',hm,w9⟩:=q9;obtain⟨t9,f9⟩:=keepT I9;exact⟨m',hm,i+1,ys,us,H9,hv5,(I9.unpinned).weak ag8.1.symm ag8.2,t9,f9,w9⟩
   |true=>
    have q9:tm pL H9 ys λys' H4=> ∃m',m'<n/\W (i+1) m' ys' H4:=q9
    have DX:D∈X'.ex:=by rw [<-hX];exact D4 _ D0
    have pD: ∀p∈X'.pn++Zu fp s7.heap,p.1≠D:=λp hp=>by
     have hp':p∈Zu fp s7.heap:=by rw [<-hX] at hp;simpa [ZF] using hp
     exact S0 (ltf _ (Vo hp').1)
    have cD: ∀x c,X'.env.cells.lookup x=some c->c≠D:=λx c e=>by
     rw [eV] at e;exact(cl x c e).elim (λz=>fD.2.2.2.2.1 x c z) λz=>E4 (W6 (by rw [CD];exact L6 _) z)
    have q10:=he X' iX D _ s9 pL H9 ys us _ I9 hv5 hz DX cD pD q9;rw [eP,eW,eA,eV] at q10;show wpAny _ _ (act _ _) _ _ s9;refine S6 q10 (λ_ s10 ⟨ys',us',H10,hv10,I10,m',hm,w10⟩=> ?_) λ_ _ z=>z
    obtain⟨t10,f10⟩:=keepT I10;exact⟨m',hm,i+1,ys',us',H10,hv10,(I10.unpinned).weak ag8.1.symm ag8.2,t10,f10,w10⟩
 exact codeAny_compStart_list (loop _ rfl) (T.self X.A 0 _ _ _ st4 (loop _ rfl))
theorem Hm (hc:X.calm=true)(S:BlockOk X scope js)(hi:PI X tg iter wi)
 (hg: ∀X',jp X scope X'->PG X' tg g)(ht: ∀X',jp X scope X'->PTs X' ifs tt)(he: ∀X',jp X scope X'->PE X' elt te)
 (hs: ∀x,foldedSetIterable iter X.env x=pure x:=by intro _;rfl):PE X (.ListComp elt [⟨tg,iter,ifs,0⟩] scope pos) (tLC js wi g tt te):=by
 intro pins s σ H Q I h;rw [mT];exact NV (use:=none) hc S hi rfl hg ht (Xh elt) (λ_ _ _=>rfl) (λX' hX D=>XJ (by obtain⟨_,_,_,_,rfl⟩:=hX;rfl) (he X' hX)) hs I h
  λD C H' s' m hn hk _ _ _ _ _ _ q=>⟨m,hn,λh' hs'=>⟨.ref D,H',hk h' hs',rfl,q⟩⟩
theorem NW {e:Expr}{rest:List bF}{pos' spos:Pos}{g':TG}{tm:TM}(hc:X.calm=true)(S:BlockOk X scope js)(hi:PI X tg iter wi)
 (he0:e= .ListComp elt (⟨tg,iter,ifs,0⟩::rest) scope pos)(hg: ∀X',jp X scope X'->PG X' tg g)(ht: ∀X',jp X scope X'->PTs X' ifs tt)
 (act:Env->G3->Sem Unit)(hturn: ∀it acc env,compTurn e 0 it acc env=Xg iter tg ifs it env (act env acc) (.compLoop e 0 it acc env))(he: ∀X',jp X scope X'-> ∀D,kh X' D (act X'.env (.ref D)) tm)
 (hg':PG X (.Name x pos') g')(hsw:swapsWith e (some (.Name x pos')) spos.line X.env=pure true)
 (hs: ∀x,foldedSetIterable iter X.env x=pure x):PS X (.Assign [.Name x pos'] e spos) (OX (ki js wi g tt tm) g'):=by
 intro pins s σ H Dn I h;rw [exec_Assign_Name_used _ _ _ _ hsw];refine wpAny_bind (Z8 (wpAny_bind ?_));subst he0;rw [arm_evalThenUse_ListComp];show wpAny _ X.A (do let _ <-comprehension (.ListComp elt (⟨tg,iter,ifs,0⟩::rest) scope pos) scope X.env _ (newList []) false (eval iter X.env) (some (assign (.Name x pos') X.env))) _ _ s;refine wpAny_bind (S6 (NV (use:=some (assign (.Name x pos') X.env)) (Qv:=λ_ s'=>SP X pins Dn .next s') hc S hi rfl hg ht act hturn he hs I h ?_) (λ_ s' hq=>P7 (P7 hq)) λ_ _ e=>e);intro D C H' s' m hn hk HC nL nf sz ncell npin q;show wpAny _ X.A (assign (.Name x pos') X.env (.ref D)) _ _ s';obtain⟨o,es,ep,ho,hd,hr⟩:=id hn;have I1:Inv X pins σ H' s':=hk s'.heap (oM ..);have I2:Inv X (pins++ [(C,o)]) σ H' s':=I1.pins_of λp hp=>by
  rcases D9.mp hp with z|z
  ·exact I1.pin p (D4 _ z)
  ·rcases G9.mp z with rfl
   exact⟨ho,HC,nL,nf,λv z=>by rw [hd] at z;cases z⟩
 refine S6 (hg' _ s' σ H' (.ref D) (.ref D) _ I2 rfl q) (λ_ s3 ⟨o0,H3,I3,q3⟩=> ?_) λ_ _ z=>z
 have pC:=I3.pin (C,o) (D4 _ (D4 _ D0));refine⟨m,hn.at' λo' e'=> ?_,λh' hs'=> ?_⟩
 ·rw [ho] at e';cases e';exact pC.1
 ·exact⟨o0,H3,(I3.unpinned).turned (t':=s3.toks) (it:=C) (λb o hb e=>hs'.extBut b o hb e) pC.2.1 nL (.inr sz) ncell npin,q3⟩
theorem FX {pos' spos:Pos}{g':TG}(hc:X.calm=true)(S:BlockOk X scope js)(hi:PI X tg iter wi)
 (hg: ∀X',jp X scope X'->PG X' tg g)(ht: ∀X',jp X scope X'->PTs X' ifs tt)(he: ∀X',jp X scope X'->PE X' elt te)
 (hg':PG X (.Name x pos') g')(hsw:swapsWith (.ListComp elt [⟨tg,iter,ifs,0⟩] scope pos) (some (.Name x pos')) spos.line X.env=pure true)
 (hs: ∀x,foldedSetIterable iter X.env x=pure x:=by intro _;rfl):PS X (.Assign [.Name x pos'] (.ListComp elt [⟨tg,iter,ifs,0⟩] scope pos) spos) (OX (tLC js wi g tt te) g'):=
 NW hc S hi rfl hg ht (Xh elt) (λ_ _ _=>rfl) (λX' hX D=>XJ (by obtain⟨_,_,_,_,rfl⟩:=hX;rfl) (he X' hX)) hg' hsw hs
def Mp (e iter:Expr)(env:Env)(acc:G3):Sem Unit:=do
 let x <-eval iter env
 standAt iter.pos
 let x <-foldedSetIterable iter env x
 let _ <-runOwn (.compStart e 1 (<-holding [x] (pyIter x)) acc env) env
def mIn (wi : TI) (g : TG) (tt : TT) (tm : TM) : TM := fun σ H ys Q => wi σ H fun J H1 =>
  ∃ W : Nat → Nat → List V → Hp → Prop, (∃ m, W 0 m ys H1) ∧ ∀ i m ys H, W i m ys H → ys.length ≤ sizeLine ∧
    ((J.stop i H ∧ Q ys H) ∨
     (J.go i H ∧ ∀ x H', J.yld i H x H' → g x σ H' fun oY H2 => Agree σ oY ∧ tt oY H2 fun b H3 =>
        if b = true then tm oY H3 ys fun ys' H4 => ∃ m', m' < m ∧ W (i + 1) m' ys' H4 else ∃ m', m' < m ∧ W (i + 1) m' ys H3))
theorem Wi {prog:S3}{w:N2}{A:M7}{R:oP->G6->Prop}{s:G6}{g0 g1:bF}{it acc:G3}(ha:g1.is_async=0)
 (h0:codeAny (model prog w) A (.compLoop (.ListComp elt [g0,g1] scope pos) 1 it acc env) R s)
 (h:wpAny (model prog w) A (pyIter it) (λit' s'=>codeAny (model prog w) A (.compLoop (.ListComp elt [g0,g1] scope pos) 1 it' acc env) R s')
  (notedBy (model prog w) A env λx s'=>R (.error x) s') s):
 codeAny (model prog w) A (.compStart (.ListComp elt [g0,g1] scope pos) 1 it acc env) R s:=by
 obtain⟨tg,iter,ifs,as⟩:=g1;cases (show as=0 from ha);refine lI (wpAny_notedAt ?_);obtain⟨hp,g,d,tk,os⟩:=s;unfold compStart
 wp_walk
 refine wpAny_askSetting ?_;split
 ·exact P7 ⟨rfl,h0⟩
 ·exact wpAny_bind (bD (wpAny_bind (Z8 (wpAny_bind (S6 h (λ_ _ on=>P7 ⟨rfl,on⟩) λ_ _ x=>x)))))
theorem NX {D:Addr}{g0:bF}(hc:X.calm=true)(hx:X.xe=λ_ _=>False)
 (hi:PI X tg iter wi)(hg:PG X tg g)(ht:PTs X ifs tt)(he:PE X elt te)(hs: ∀x,foldedSetIterable iter X.env x=pure x):
 kh X D (Mp (.ListComp elt [g0,⟨tg,iter,ifs,0⟩] scope pos) iter X.env (.ref D)) (mIn wi g tt (Hl te)):=by
 intro pins s σ H ys us Q I hv hz DX cD pD h;have q:=hi _ s σ H _ I h;rw [hx] at q;unfold Mp;refine wpAny_bind (S6 q (λv s1 h1=>wpAny_bind (Z8 (wpAny_bind (lA (hs v) (wpAny_bind (A2 (S6 h1 (λitv s2 h2=> ?_) λ_ _ z=>z))))))) λ_ _ z=>z);obtain⟨it,fp,tn,J,H2,e,I2,T,st2,f2,W,⟨m0,w0⟩,turn⟩:=h2;subst e;refine wpAny_bind (wpAny_runOwn ?_);have neD: ∀b∈fp,b≠D:=λb hb=>by
  have z:=(f2 b hb).2.2.2.2.2 (D,U3 us) (D4 _ (N0 _ D0));exact A4 z
 have stat: ∀ {us':List G3} {H':Hp},(∀b∈fp,H' b=none)-> ∀b∈fp,Nx X ([(D,U3 us')]++pins) H' b:=λ{us' H'} hn b hb=>by
  have q:=f2 b hb;refine⟨hn b hb,q.2.1,q.2.2.1,q.2.2.2.1,q.2.2.2.2.1,λp hp=> ?_⟩;rcases D9.mp hp with z|z
  ·exact q.2.2.2.2.2 p (N0 _ z)
  ·rcases D9.mp z with z|z
   ·rcases G9.mp z with rfl
    exact A4 (neD b hb)
   ·exact q.2.2.2.2.2 p (D4 _ (D4 _ z))
 have loop:codeAny (model X.prog X.w) X.A (.compLoop (.ListComp elt [g0,⟨tg,iter,ifs,0⟩] scope pos) 1 (.ref it) (.ref D) X.env)
  (λr s'=>match r with| .ok f=>wpAny (model X.prog X.w) X.A (pure ()) (λ_ s'=> ∃ys' us' H',Vals ys' us'/\Inv X ([(D,U3 us')]++pins) σ H' s'/\Q ys' H') (λ_ _=>False) s'| .error e=>cameBackBy (model X.prog X.w) X.A X.env (λ_ _=>False) e s') s2:=by
  refine Ri (act:=Xh elt X.env (.ref D)) (λn s'=> ∃i ys us H',Vals ys us/\Inv X ([(D,U3 us)]++pins) σ H' s'/\tn i s'.heap/\(∀b∈fp,H' b=none)/\W i n ys H') rfl ?_ m0
   ⟨0,ys,us,H2,hv,I2,st2,λb hb=>(f2 b hb).1,w0⟩
  rintro n s5 ⟨i,ys,us,H5,hv5,I5,st5,fr5,w5⟩;obtain⟨hz,tr⟩:=turn i n ys H5 w5;rcases tr with ⟨stop,qn⟩|⟨go,step⟩
  ·refine S6 (T.done X rfl rfl rfl hc i _ s5 _ H5 (λ_ _=>False) I5 (stat fr5) st5 stop) (λr s6 ⟨hr,I6⟩=> ?_) λ_ _ z=>z
   subst hr;exact P7 ⟨ys,us,H5,hv5,I6,qn⟩
  ·refine S6 (T.item X rfl rfl rfl hc i _ s5 _ H5 (λ_ _=>False) I5 (stat fr5) st5 go) (λr s6 ⟨u,hr,h6⟩=> ?_) λ_ _ z=>z
   subst hr;refine S6 h6 (λ_ s7 ⟨x,H7,I7,r7,y7,st7,fr7⟩=> ?_) λ_ _ z=>z
   have I7':=I7.pinned (stat fr7) (T.obj _ _ st7);have q7:=hg _ s7 _ H7 x u _ I7' r7 (step x H7 y7);rw [hx] at q7;refine S6 q7 (λ_ s8 ⟨pL,H8,I8,ag8,q8⟩=> ?_) λ_ _ z=>z
   have q9:=ht _ s8 pL H8 _ I8 q8;rw [hx] at q9;refine S6 q9 (λok s9 ⟨H9,I9,q9⟩=> ?_) λ_ _ z=>z
   have keepT: ∀ {oV:St} {H':Hp} {s':G6} {us:List G3},Inv X (([(D,U3 us)]++pins)++Zu fp s7.heap) oV H' s'->tn (i+1) s'.heap/\ ∀b∈fp,H' b=none:=λ{oV H' s' us} I'=>
    ⟨T.keep _ _ _ st7 λb hb o e=>(I'.pin (b,o) (D4 _ (D4 _ (yC hb e)))).1,λb hb=>by
     obtain⟨o,e,_⟩:=T.obj _ _ st7 b hb;exact(I'.pin (b,o) (D4 _ (D4 _ (yC hb e)))).2.1⟩
   cases ok with
   |false=>
    have q9: ∃m',m'<n/\W (i+1) m' ys H9:=q9;obtain⟨m',hm,w9⟩:=q9;obtain⟨t9,f9⟩:=keepT I9;exact⟨m',hm,i+1,ys,us,H9,hv5,(I9.unpinned).weak ag8.1.symm ag8.2,t9,f9,w9⟩
   |true=>
    have q9:Hl te pL H9 ys λys' H4=> ∃m',m'<n/\W (i+1) m' ys' H4:=q9
    have pD': ∀p∈X.pn++(pins++Zu fp s7.heap),p.1≠D:=λp hp=>by
     rcases D9.mp hp with z|z
     ·exact pD p (N0 _ z)
     ·rcases D9.mp z with z|z
      ·exact pD p (D4 _ z)
      ·exact neD _ (Vo z).1
    rw [P6] at I9;have q10:=XJ (D:=D) hx he (pins++Zu fp s7.heap) s9 pL H9 ys us _ I9 hv5 hz DX cD pD' q9;show wpAny _ _ (Xh _ _ _) _ _ s9;refine S6 q10 (λ_ s10 ⟨ys',us',H10,hv10,I10,m',hm,w10⟩=> ?_) λ_ _ z=>z
    rw [<-P6] at I10;obtain⟨t10,f10⟩:=keepT I10;exact⟨m',hm,i+1,ys',us',H10,hv10,(I10.unpinned).weak ag8.1.symm ag8.2,t10,f10,w10⟩
 exact Wi rfl loop (T.self X.A 0 _ _ _ st2 loop)
theorem NY (elt iter tg iter' tg':Expr)(ifs ifs':List Expr)(scope:J6)(pos:Pos)(it acc:G3)(env:Env):
 compTurn (.ListComp elt [⟨tg,iter,ifs,0⟩,⟨tg',iter',ifs',0⟩] scope pos) 0 it acc env=
  Xg iter tg ifs it env (Mp (.ListComp elt [⟨tg,iter,ifs,0⟩,⟨tg',iter',ifs',0⟩] scope pos) iter' env acc) (.compLoop (.ListComp elt [⟨tg,iter,ifs,0⟩,⟨tg',iter',ifs',0⟩] scope pos) 0 it acc env):=by
 unfold Xg Mp;simp only [bind_assoc,pure_bind];rfl
def Hn (js:List Nat)(wi:TI)(g:TG)(tt:TT)(wi':TI)(g':TG)(tt':TT)(te:TE):TE:=ki js wi g tt (mIn wi' g' tt' (Hl te))
theorem Ac {iter' tg':Expr}{ifs':List Expr}{wi':TI}{g':TG}{tt':TT}(hc:X.calm=true)(S:BlockOk X scope js)(hi:PI X tg iter wi)
 (hg: ∀X',jp X scope X'->PG X' tg g)(ht: ∀X',jp X scope X'->PTs X' ifs tt)(hi': ∀X',jp X scope X'->PI X' tg' iter' wi')
 (hg': ∀X',jp X scope X'->PG X' tg' g')(ht': ∀X',jp X scope X'->PTs X' ifs' tt')(he: ∀X',jp X scope X'->PE X' elt te)
 (hs: ∀x,foldedSetIterable iter X.env x=pure x:=by intro _;rfl)(hs': ∀env x,foldedSetIterable iter' env x=pure x:=by intro _ _;rfl):
 PE X (.ListComp elt [⟨tg,iter,ifs,0⟩,⟨tg',iter',ifs',0⟩] scope pos) (Hn js wi g tt wi' g' tt' te):=by
 intro pins s σ H Q I h;rw [mT];exact NV (use:=none) hc S hi rfl hg ht (λenv acc=>Mp (.ListComp elt [⟨tg,iter,ifs,0⟩,⟨tg',iter',ifs',0⟩] scope pos) iter' env acc) (λ_ _ _=>NY ..)
  (λX' hX D=>NX (by obtain⟨_,_,_,_,rfl⟩:=hX;exact hc) (by obtain⟨_,_,_,_,rfl⟩:=hX;rfl) (hi' X' hX) (hg' X' hX) (ht' X' hX) (he X' hX) (hs' _)) hs I h
  λD C H' s' m hn hk _ _ _ _ _ _ q=>⟨m,hn,λh' hs'=>⟨.ref D,H',hk h' hs',rfl,q⟩⟩
inductive D where
 |non|bl (b:Bool)|int (i:Int)|str (x:Str)|tup (ds:List D)|lst (a:Addr)|dic (x:Str) (i:Int)|dct (a:Addr)|scr (ns:List Int)|exc (C:Addr)|fn (a:Addr)
def Scr (K:PySem.W.Frag)(H:Hp)(a:Addr)(ns:List Int):Prop:=
 (∃o,H a=some (.frz o (.lst (ns.map V.int))))\/
  ∃ (o:Obj) (its:Array G3) (n:Nat),K.lookup a=some o/\o.cls= .type "list" /\o.dict=none/\o.data= .seq its n/\its.size<=sizeLine/\Vals (ns.map V.int) its.toList
theorem Scr.sq {K:PySem.W.Frag}{H:Hp}{a:Addr}{ns:List Int}(h:Scr K H a ns):SqL K H a (ns.map V.int):=h.elim (λz=> .inl (.inr z)) .inr
mutual
def RelD (K:PySem.W.Frag)(H:Hp):D->V->Prop
 | .non,v=>v= .non
 | .bl b,v=>v= .bl b
 | .int i,v=>v= .int i
 | .str x,v=>v= .str x
 | .tup ds,v=> ∃a vs,v= .ref a/\H a=some (.tup vs)/\RelDs K H ds vs
 | .lst a,v=>v= .ref a/\ ∃vs,H a=some (.lst vs)
 | .dic x i,v=> ∃a,v= .ref a/\H a=some (.dK [(Y4 x,V.int i)])
 | .dct a,v=>v= .ref a
 | .scr ns,v=> ∃a,v= .ref a/\Scr K H a ns
 | .exc C,v=> ∃x o vs,v= .ref x/\H x=some (.frz o (.own 0))/\o.cls= .ref C/\o.data= .fields vs
 | .fn a,v=>v= .ref a/\PySem.W.keepIn K (.ref a)=true
def RelDs (K:PySem.W.Frag)(H:Hp):List D->List V->Prop
 | [],vs=>vs= []
 |d::ds,vs=> ∃v r,vs=v::r/\RelD K H d v/\RelDs K H ds r
end
structure Kept (H H':Hp):Prop where
 tup: ∀a xs,H a=some (.tup xs)->H' a=some (.tup xs)
 lst: ∀a xs,H a=some (.lst xs)-> ∃ys,H' a=some (.lst ys)
 dic: ∀a x i,H a=some (.dK [(Y4 x,V.int i)])->H' a=some (.dK [(Y4 x,V.int i)])
 frz: ∀a o u,H a=some (.frz o u)->H' a=some (.frz o u)
theorem Kept.refl (H:Hp):Kept H H:=⟨λ_ _ h=>h,λ_ xs h=>⟨xs,h⟩,λ_ _ _ h=>h,λ_ _ _ h=>h⟩
theorem Kept.trans {A B C:Hp}(x:Kept A B)(y:Kept B C):Kept A C:=
 ⟨λa xs h=>y.tup a xs (x.tup a xs h),λa xs h=>let ⟨_,e⟩:=x.lst a xs h;y.lst a _ e,λa k i h=>y.dic a k i (x.dic a k i h),λa o u h=>y.frz a o u (x.frz a o u h)⟩
theorem Kept.new {H:Hp}{p:Addr}{o:HO}(h:H p=none):Kept H (upd H p o):=
 ⟨λa xs e=>by rw [jx (jt e h)];exact e,λa xs e=>⟨xs,by rw [jx (jt e h)];exact e⟩,λa k i e=>by rw [jx (jt e h)];exact e,λa o u e=>by rw [jx (jt e h)];exact e⟩
theorem Kept.put {H:Hp}{p:Addr}{xs ys:List V}(h:H p=some (.lst xs)):Kept H (upd H p (.lst ys)):=
 ⟨λa zs e=>by rw [jx (Mh e h (by intro z;cases z))];exact e,λa zs e=>by
  by_cases q:a=p
  ·subst q;exact⟨ys,jy⟩
  ·exact⟨zs,by rw [jx q];exact e⟩,
  λa k i e=>by rw [jx (Mh e h (by intro z;cases z))];exact e,λa o u e=>by rw [jx (Mh e h (by intro z;cases z))];exact e⟩
def DObj (o:HO):Prop:=(∃kvs:List (Int×V),o= .dK (kvs.map λp=>((cZ p.1:Key),p.2)))\/ ∃φ,o= .ext φ
theorem DObj.no {o:HO}(d:DObj o):(∀xs,o≠ .tup xs)/\(∀xs,o≠ .lst xs)/\(∀x i,o≠ .dK [(Y4 x,V.int i)])/\(∀p u,o≠ .frz p u)/\ ∀ps,o≠ .tbl ps:=by
 rcases d with ⟨kvs,rfl⟩|⟨φ,rfl⟩
 ·refine⟨λ_ z=>(nomatch z),λ_ z=>(nomatch z),λx i z=> ?_,λ_ _ z=>(nomatch z),λ_ z=>(nomatch z)⟩;injection z with z
  cases kvs with
  |nil=>cases z
  |cons p r=>injection z with z _;injection z with z _;cases z
 ·exact⟨λ_ z=>(nomatch z),λ_ z=>(nomatch z),λ_ _ z=>(nomatch z),λ_ _ z=>(nomatch z),λ_ z=>(nomatch z)⟩
mutual
theorem RelD.mono {K:PySem.W.Frag}{H H':Hp}(k:Kept H H'): ∀ {d:D} {v:V},RelD K H d v->RelD K H' d v
 | .non,_,h=>h
 | .bl _,_,h=>h
 | .int _,_,h=>h
 | .str _,_,h=>h
 | .tup ds,v,h=>by
  obtain⟨a,vs,e,h1,h2⟩:=(show ∃a vs,v= .ref a/\H a=some (.tup vs)/\RelDs K H ds vs from h);exact⟨a,vs,e,k.tup _ _ h1,RelDs.mono k h2⟩
 | .lst a,v,h=>by
  obtain⟨e,vs,h1⟩:=(show v= .ref a/\ ∃vs,H a=some (.lst vs) from h);exact⟨e,k.lst _ _ h1⟩
 | .dic x i,v,h=>by
  obtain⟨a,e,h1⟩:=(show ∃a,v= .ref a/\H a=some (.dK [(Y4 x,V.int i)]) from h);exact⟨a,e,k.dic _ _ _ h1⟩
 | .dct a,v,h=>h
 | .scr ns,v,h=>by
  obtain⟨a,e,h1⟩:=(show ∃a,v= .ref a/\Scr K H a ns from h);exact⟨a,e,h1.elim (λ⟨o,z⟩=> .inl ⟨o,k.frz _ _ _ z⟩) .inr⟩
 | .exc C,v,h=>by
  obtain⟨x,o,vs,e,h1,r⟩:=(show ∃x o vs,v= .ref x/\H x=some (.frz o (.own 0))/\o.cls= .ref C/\o.data= .fields vs from h);exact⟨x,o,vs,e,k.frz _ _ _ h1,r⟩
 | .fn a,v,h=>h
theorem RelDs.mono {K:PySem.W.Frag}{H H':Hp}(k:Kept H H'): ∀ {ds:List D} {vs:List V},RelDs K H ds vs->RelDs K H' ds vs
 | [],_,h=>h
 |d::ds,vs,h=>by
  obtain⟨v,r,e,h1,h2⟩:=(show ∃v r,vs=v::r/\RelD K H d v/\RelDs K H ds r from h);exact⟨v,r,e,RelD.mono k h1,RelDs.mono k h2⟩
end
section
variable {K:PySem.W.Frag}{H:Hp}
theorem RelDs.nil:RelDs K H [] []:=rfl
theorem RelDs.cons {d:D}{v:V}{ds:List D}{vs:List V}(h:RelD K H d v)(t:RelDs K H ds vs):RelDs K H (d::ds) (v::vs):=⟨v,vs,rfl,h,t⟩
theorem RelDs.length: ∀ {ds:List D} {vs:List V},RelDs K H ds vs->ds.length=vs.length
 | [],_,h=>by cases (show _= [] from h);rfl
 |d::ds,vs,h=>by
  obtain⟨v,r,e,_,h2⟩:=(show ∃v r,vs=v::r/\RelD K H d v/\RelDs K H ds r from h);subst e;simp [RelDs.length h2]
theorem RelDs.append: ∀ {ds es:List D} {vs us:List V},RelDs K H ds vs->RelDs K H es us->RelDs K H (ds++es) (vs++us)
 | [],_,_,_,h,g=>by cases (show _= [] from h);exact g
 |d::ds,es,vs,us,h,g=>by
  obtain⟨v,r,e,h1,h2⟩:=(show ∃v r,vs=v::r/\RelD K H d v/\RelDs K H ds r from h);subst e;exact .cons h1 (RelDs.append h2 g)
theorem RelDs.get: ∀ {ds:List D} {vs:List V} {i:Nat} {d:D},RelDs K H ds vs->ds[i]? =some d-> ∃v,vs[i]? =some v/\RelD K H d v
 |d'::ds,vs,i,d,h,e=>by
  obtain⟨v,r,q,h1,h2⟩:=(show ∃v r,vs=v::r/\RelD K H d' v/\RelDs K H ds r from h);subst q;cases i with
  |zero=>simp at e;subst e;exact⟨v,rfl,h1⟩
  |succ i=>
   obtain⟨u,q1,q2⟩:=RelDs.get h2 (i:=i) (d:=d) (by simpa using e);exact⟨u,by simpa using q1,q2⟩
theorem RelDs.take (n:Nat): ∀ {ds:List D} {vs:List V},RelDs K H ds vs->RelDs K H (ds.take n) (vs.take n):=by
 induction n with
 |zero=>intro ds vs _;exact(rfl:RelDs K H [] [])
 |succ n ih=>
  intro ds vs h;cases ds with
  |nil=>cases (show vs= [] from h);exact .nil
  |cons d ds=>
   obtain⟨v,r,e,h1,h2⟩:=(show ∃v r,vs=v::r/\RelD K H d v/\RelDs K H ds r from h);subst e;exact .cons h1 (ih h2)
theorem RelDs.drop (n:Nat): ∀ {ds:List D} {vs:List V},RelDs K H ds vs->RelDs K H (ds.drop n) (vs.drop n):=by
 induction n with
 |zero=>intro ds vs h;exact h
 |succ n ih=>
  intro ds vs h;cases ds with
  |nil=>cases (show vs= [] from h);exact .nil
  |cons d ds=>
   obtain⟨v,r,e,h1,h2⟩:=(show ∃v r,vs=v::r/\RelD K H d v/\RelDs K H ds r from h);subst e;exact ih h2
theorem RelDs.set {d:D}{v:V}(q:RelD K H d v): ∀ {ds:List D} {vs:List V} (i:Nat),RelDs K H ds vs->RelDs K H (ds.set i d) (vs.set i v)
 | [],_,_,h=>by cases (show _= [] from h);exact .nil
 |e::ds,vs,i,h=>by
  obtain⟨u,r,z,h1,h2⟩:=(show ∃u r,vs=u::r/\RelD K H e u/\RelDs K H ds r from h);subst z;cases i with
  |zero=>exact .cons q h2
  |succ i=>exact .cons h1 (RelDs.set q i h2)
theorem vx: ∀ns:List Int,RelDs K H (ns.map D.int) (ns.map V.int)
 | []=> .nil
 |n::ns=> .cons rfl (vx ns)
end
inductive DC where
 |ik (kv:List (Int×D))
 |tk (kv:List (List (List Int)×D))
structure HD where
 ls:Addr->Option (List D)
 dc:Addr->Option DC
instance:CoeFun HD λ_=>Addr->Option (List D):=⟨HD.ls⟩
def wb (h:HD)(a:Addr)(ds:List D):HD:=⟨λb=>if b=a then some ds else h b,h.dc⟩
def UN (h:HD)(a:Addr):HD:=⟨λb=>if b=a then none else h b,h.dc⟩
theorem jc {h:HD}{a:Addr}{ds:List D}:wb h a ds a=some ds:=if_pos rfl
theorem yF {h:HD}{a b:Addr}{ds:List D}(e:b≠a):wb h a ds b=h b:=if_neg e
theorem zw {h:HD}{a:Addr}{ds:List D}(e:h a=none):UN (wb h a ds) a=h:=by
 obtain⟨l,d⟩:=h;refine congrArg (HD.mk · d) ?_
 funext b
 show (if b=a then none else if b=a then some ds else l b)=l b
 by_cases q:b=a
 ·subst q;rw [if_pos rfl];exact e.symm
 ·rw [if_neg q,if_neg q]
def LN:List Str:= ["law","_law_right","_law_words","_law_other_words","_law_many_right","_law_all","_law_told_row","_law_all_right","_law_desk_right","_law_signs_right","_law_lists_right","_law_text_right"]
def TabK (K:PySem.W.Frag)(P:Addr):Prop:= ∃x∈LN,∃c,PySem.W.tabIn K x=some (c,P)
def CodesOk (H:Hp)(ps:Array G3):Prop:=TriplesOk ps.toList/\ ∀pos cv,codeAmong pos ps.toList=some cv-> ∃ (c:Addr) (o:Obj) (vs:Array G3) (q:Str) (t:Tok),cv= .ref c/\H c=some (.frz o (.own 0))/\o.data= .fields vs/\vs[1]? =some (.str q t)
def CTabs (K:PySem.W.Frag)(H:Hp):Prop:= ∀P,TabK K P-> ∃ps,H P=some (.tbl ps)/\CodesOk H ps
theorem CodesOk.mono {H H':Hp}{ps:Array G3}(k: ∀a o u,H a=some (.frz o u)->H' a=some (.frz o u))(c:CodesOk H ps):CodesOk H' ps:=
 ⟨c.1,λpos cv e=>let ⟨c',o,vs,q,t,e1,e2,r⟩:=c.2 pos cv e;⟨c',o,vs,q,t,e1,k _ _ _ e2,r⟩⟩
theorem CTabs.mono {K:PySem.W.Frag}{H H':Hp}(x:CTabs K H)(k: ∀a o u,H a=some (.frz o u)->H' a=some (.frz o u))(kt: ∀a ps,H a=some (.tbl ps)->H' a=some (.tbl ps)):CTabs K H':=λP hP=>
 let ⟨ps,e,c⟩:=x P hP;⟨ps,kt _ _ e,c.mono k⟩
theorem CTabs.new {K:PySem.W.Frag}{H:Hp}{p:Addr}{o:HO}(x:CTabs K H)(e:H p=none):CTabs K (upd H p o):=
 x.mono (λa o' u h=>by rw [jx (jt h e)];exact h) λa ps h=>by rw [jx (jt h e)];exact h
theorem CTabs.put {K:PySem.W.Frag}{H:Hp}{p:Addr}{o:HO}{xs:List V}(x:CTabs K H)(e:H p=some (.lst xs)):CTabs K (upd H p o):=
 x.mono (λa o' u h=>by rw [jx (Mh h e (by intro z;cases z))];exact h) λa ps h=>by rw [jx (Mh h e (by intro z;cases z))];exact h
def Ea (T:List (List Int)):Int:=reduceHash (cW (T.map λr=>reduceHash (cW (r.map hashInt))))
def qI (a:Addr)(xs:List (List (List Int)×Addr×V)):HO:= .ext λh=>(a==sysModules)=false/\xs.length<=sizeLine/\ ∃ys:List (List (List Int)×Addr×G3),Paired (λp q=>p.1=q.1/\p.2.1=q.2.1/\RelV p.2.2 q.2.2) xs ys/\
 ∃o es ep,h.get? a=some o/\o.ExactDict/\o.data= .dict es ep/\es.toList=ys.map λx=>⟨Ea x.1,.ref x.2.1,x.2.2⟩
def DRel (K:PySem.W.Frag)(H:Hp)(a:Addr):DC->Prop
 | .ik kv=> ∃kvs:List (Int×V),H a=some (.dK (kvs.map λp=>((cZ p.1:Key),p.2)))/\kv.map (·.1)=kvs.map (·.1)/\RelDs K H (kv.map (·.2)) (kvs.map (·.2))
 | .tk kv=> ∃xs:List (List (List Int)×Addr×V),H a=some (qI a xs)/\(kv.map (·.1)).Nodup/\kv.map (·.1)=xs.map (·.1)/\(∀x∈xs,RelD K H (.tup (x.1.map λr=> .tup (r.map D.int))) (.ref x.2.1))/\RelDs K H (kv.map (·.2)) (xs.map (·.2.2))
theorem DRel.obj {K:PySem.W.Frag}{H:Hp}{a:Addr}: ∀ {c:DC},DRel K H a c-> ∃o,H a=some o/\DObj o
 | .ik _,⟨kvs,e,_⟩=>⟨_,e,.inl ⟨kvs,rfl⟩⟩
 | .tk _,⟨xs,e,_⟩=>⟨_,e,.inr ⟨_,rfl⟩⟩
theorem DRel.mono {K:PySem.W.Frag}{H H':Hp}{a:Addr}(k:Kept H H')(z: ∀o,H a=some o->H' a=some o): ∀ {c:DC},DRel K H a c->DRel K H' a c
 | .ik _,⟨kvs,e,q,r⟩=>⟨kvs,z _ e,q,r.mono k⟩
 | .tk _,⟨xs,e,n,q,t,r⟩=>⟨xs,z _ e,n,q,λx hx=>(t x hx).mono k,r.mono k⟩
structure RelH (K:PySem.W.Frag)(h:HD)(H:Hp):Prop where
 ls: ∀a ds,h a=some ds-> ∃vs,H a=some (.lst vs)/\RelDs K H ds vs
 tb:CTabs K H
 dc: ∀a c,h.dc a=some c->DRel K H a c
instance {K:PySem.W.Frag}{h:HD}{H:Hp}:CoeFun (RelH K h H) λ_=> ∀a ds,h a=some ds-> ∃vs,H a=some (.lst vs)/\RelDs K H ds vs:=⟨RelH.ls⟩
structure Sub (h h':HD):Prop where
 ls: ∀a ds,h a=some ds->h' a=some ds
 dc: ∀a c,h.dc a=some c->h'.dc a=some c
instance {h h':HD}:CoeFun (Sub h h') λ_=> ∀a ds,h a=some ds->h' a=some ds:=⟨Sub.ls⟩
theorem Sub.refl (h:HD):Sub h h:=⟨λ_ _ e=>e,λ_ _ e=>e⟩
theorem Sub.trans {a b c:HD}(x:Sub a b)(y:Sub b c):Sub a c:=⟨λd ds e=>y d ds (x d ds e),λd ds e=>y.dc d ds (x.dc d ds e)⟩
theorem Sub.drop (h:HD)(a:Addr):Sub (UN h a) h:=⟨λb ds e=>by
 have e:(if b=a then none else h b)=some ds:=e;split at e
 ·cases e
 ·exact e,λ_ _ e=>e⟩
theorem Sub.new {h:HD}{p:Addr}{ds:List D}(e:h p=none):Sub h (wb h p ds):=⟨λa es q=>(by
 rw [yF];exact q;intro z;subst z;rw [e] at q;cases q),λ_ _ e=>e⟩
section
variable {K:PySem.W.Frag}{h h':HD}{H:Hp}
theorem RelH.sub (r:RelH K h H)(s:Sub h' h):RelH K h' H:=⟨λa ds e=>r a ds (s a ds e),r.tb,λa c e=>r.dc a c (s.dc a c e)⟩
theorem RelH.free (r:RelH K h H){p:Addr}(e:H p=none):h p=none:=by
 cases q:h p with
 |none=>rfl
 |some ds=>obtain⟨vs,z,_⟩:=r p ds q;rw [e] at z;cases z
theorem RelH.dcN (r:RelH K h H){p:Addr}{o:HO}(e:H p=none): ∀a c,h.dc a=some c->DRel K (upd H p o) a c:=λa c q=>
 (r.dc a c q).mono (.new e) λu z=>by rw [jx (jt z e)];exact z
theorem RelH.new (r:RelH K h H){p:Addr}{o:HO}(e:H p=none):RelH K h (upd H p o):=⟨λa ds q=>by
 obtain⟨vs,z,w⟩:=r a ds q;exact⟨vs,by rw [jx (jt z e)];exact z,w.mono (.new e)⟩,r.tb.new e,r.dcN e⟩
theorem RelH.newL (r:RelH K h H){p:Addr}{ds:List D}{vs:List V}(e:H p=none)(q:RelDs K H ds vs):RelH K (wb h p ds) (upd H p (.lst vs)):=⟨λa es z=>by
 by_cases w:a=p
 ·subst w;rw [jc] at z;cases z;exact⟨vs,jy,q.mono (.new e)⟩
 ·rw [yF w] at z;obtain⟨us,z1,z2⟩:=r a es z;exact⟨us,by rw [jx w];exact z1,z2.mono (.new e)⟩,r.tb.new e,r.dcN e⟩
theorem RelH.put (r:RelH K h H){p:Addr}{ds:List D}{vs us:List V}(e:H p=some (.lst us))(q:RelDs K H ds vs):RelH K (wb h p ds) (upd H p (.lst vs)):=⟨λa es z=>by
 by_cases w:a=p
 ·subst w;rw [jc] at z;cases z;exact⟨vs,jy,q.mono (.put e)⟩
 ·rw [yF w] at z;obtain⟨us,z1,z2⟩:=r a es z;exact⟨us,by rw [jx w];exact z1,z2.mono (.put e)⟩,r.tb.put e,λa c z=>(r.dc a c z).mono (.put e) λo w=>by
   obtain⟨u,w',d⟩:=(r.dc a c z).obj;rw [jx (Mh w' e (d.no.2.1 _))];exact w⟩
end
abbrev SD:=List (Option D)
def RelS (K:PySem.W.Frag)(H:Hp)(oW:SD)(σ:St):Prop:=oW.length=σ.length/\ ∀ (i:Nat) (d:D),oW[i]? =some (some d)-> ∃v,σ[i]? =some (some v)/\RelD K H d v
theorem RelS.mono {K:PySem.W.Frag}{H H':Hp}{oW:SD}{σ:St}(r:RelS K H oW σ)(k:Kept H H'):RelS K H' oW σ:=⟨r.1,λi d e=>let ⟨v,a,b⟩:=r.2 i d e;⟨v,a,b.mono k⟩⟩
theorem RelS.set {K:PySem.W.Frag}{H:Hp}{oW:SD}{σ:St}{d:D}{v:V}(r:RelS K H oW σ)(q:RelD K H d v)(i:Nat):RelS K H (oW.set i (some d)) (σ.set i (some v)):=⟨by simp [r.1],λj e h=>by
 by_cases z:i=j
 ·subst z;rw [aV] at h ⊢
  by_cases hl:i<oW.length
  ·rw [if_pos rfl,if_pos hl] at h;rw [if_pos rfl,if_pos (by rw [<-r.1];exact hl)];cases h;exact⟨v,rfl,q⟩
  ·rw [if_pos rfl,if_neg hl] at h;cases h
 ·rw [B2 z] at h ⊢;exact r.2 j e h⟩
theorem RelS.clear1 {K:PySem.W.Frag}{H:Hp}{oW:SD}{σ:St}(r:RelS K H oW σ)(i:Nat):RelS K H (oW.set i none) (σ.set i none):=⟨by simp [r.1],λj e h=>by
 by_cases z:i=j
 ·subst z;rw [aV] at h;split at h
  ·split at h<;>cases h
  ·contradiction
 ·rw [B2 z] at h ⊢;exact r.2 j e h⟩
def jI:List Nat->SD->SD
 | [],σ=>σ
 |j::js,σ=>jI js (σ.set j none)
theorem RelS.clear {K:PySem.W.Frag}{H:Hp}: ∀ (js:List Nat) {oW:SD} {σ:St},RelS K H oW σ->RelS K H (jI js oW) (yq js σ)
 | [],_,_,r=>r
 |j::js,_,_,r=>RelS.clear js (r.clear1 j)
abbrev KD:=D->HD->Prop
abbrev TED:=SD->HD->KD->Prop
abbrev TTD:=SD->HD->(Bool->HD->Prop)->Prop
abbrev TAD:=SD->HD->(List D->HD->Prop)->Prop
abbrev RD2:=D->D->HD->KD->Prop
abbrev RDn:=List D->HD->KD->Prop
structure EndsD where
 nx:SD->HD->Prop
 rt:KD
 bk:SD->HD->Prop:=λ_ _=>False
 ct:SD->HD->Prop:=λ_ _=>False
abbrev TSD:=EndsD->SD->HD->Prop
abbrev TGD:=D->SD->HD->(SD->HD->Prop)->Prop
def Eb (K:PySem.W.Frag)(H:Hp)(Qd:KD)(Q:VK):Prop:= ∀d v h' H',Kept H H'->RelH K h' H'->RelD K H' d v->Qd d h'->Q v H'
def LE (K:PySem.W.Frag)(t:TED):TE:=λσ H Q=> ∃oW h Qd,RelS K H oW σ/\RelH K h H/\t oW h Qd/\Eb K H Qd Q
def LT (K:PySem.W.Frag)(t:TTD):TT:=λσ H Q=> ∃oW h Qd,RelS K H oW σ/\RelH K h H/\t oW h Qd/\ ∀b h' H',Kept H H'->RelH K h' H'->Qd b h'->Q b H'
def LA (K:PySem.W.Frag)(t:TAD):TA:=λσ H Q=> ∃oW h Qd,RelS K H oW σ/\RelH K h H/\t oW h Qd/\ ∀ds vs h' H',Kept H H'->RelH K h' H'->RelDs K H' ds vs->Qd ds h'->Q vs H'
def LR (K:PySem.W.Frag)(f:RD2):R2:=λx y H Q=> ∃dx dy h Qd,RelD K H dx x/\RelD K H dy y/\RelH K h H/\f dx dy h Qd/\Eb K H Qd Q
def LC (K:PySem.W.Frag)(f:RDn):List V->Hp->VK->Prop:=λxs H Q=> ∃ds h Qd,RelDs K H ds xs/\RelH K h H/\f ds h Qd/\Eb K H Qd Q
def LG (K:PySem.W.Frag)(g:TGD):TG:=λv σ H Q=> ∃d oW h Qd,RelD K H d v/\RelS K H oW σ/\RelH K h H/\g d oW h Qd/\ ∀oZ h' oV H',Kept H H'->RelS K H' oZ oV->RelH K h' H'->Qd oZ h'->Q oV H'
def LS (K:PySem.W.Frag)(t:TSD):TS:=λpE σ H=> ∃oW h Dd,RelS K H oW σ/\RelH K h H/\t Dd oW h/\
 (∀oZ h' oV H',Kept H H'->RelS K H' oZ oV->RelH K h' H'->Dd.nx oZ h'->pE.nx oV H')/\Eb K H Dd.rt pE.rt/\
 (∀oZ h' oV H',Kept H H'->RelS K H' oZ oV->RelH K h' H'->Dd.bk oZ h'->pE.bk oV H')/\(∀oZ h' oV H',Kept H H'->RelS K H' oZ oV->RelH K h' H'->Dd.ct oZ h'->pE.ct oV H')
theorem PE.imp {X:Cx}{e:Expr}{t t':TE}(h:PE X e t)(i: ∀σ H Q,t' σ H Q->t σ H Q):PE X e t':=λpins s σ H Q I q=>h pins s σ H Q I (i σ H Q q)
theorem PT.imp {X:Cx}{e:Expr}{t t':TT}(h:PT X e t)(i: ∀σ H Q,t' σ H Q->t σ H Q):PT X e t':=λpins s σ H Q I q=>h pins s σ H Q I (i σ H Q q)
theorem PW.imp {X:Cx}{e:Expr}{t t':TT}(h:PW X e t)(i: ∀σ H Q,t' σ H Q->t σ H Q):PW X e t':=λwh pins s σ H Q I q=>h wh pins s σ H Q I (i σ H Q q)
theorem PA.imp {X:Cx}{e:List Expr}{t t':TA}(h:PA X e t)(i: ∀σ H Q,t' σ H Q->t σ H Q):PA X e t':=λpos pins s σ H Q I q=>h pos pins s σ H Q I (i σ H Q q)
theorem PS.imp {X:Cx}{e:Stmt}{t t':TS}(h:PS X e t)(i: ∀D σ H,t' D σ H->t D σ H):PS X e t':=λpins s σ H D I q=>h pins s σ H D I (i D σ H q)
theorem PSs.imp {X:Cx}{e:List Stmt}{t t':TS}(h:PSs X e t)(i: ∀D σ H,t' D σ H->t D σ H):PSs X e t':=λpins s σ H D I q=>h pins s σ H D I (i D σ H q)
theorem PG.imp {X:Cx}{e:Expr}{t t':TG}(h:PG X e t)(i: ∀v σ H Q,t' v σ H Q->t v σ H Q):PG X e t':=λpins s σ H v u Q I r q=>h pins s σ H v u Q I r (i v σ H Q q)
theorem OpR.imp {X:Cx}{f:G3->G3->Sem G3}{r r':R2}(h:OpR X f r)(i: ∀x y H Q,r' x y H Q->r x y H Q):OpR X f r':=λpins s σ H x y v u Q I a b q=>h pins s σ H x y v u Q I a b (i x y H Q q)
theorem CallR.imp {X:Cx}{f:G3}{r r':List V->Hp->VK->Prop}(h:CallR X f r)(i: ∀xs H Q,r' xs H Q->r xs H Q):CallR X f r':=λpins s σ H xs us Q I a q=>h pins s σ H xs us Q I a (i xs H Q q)
def Rj (i:Nat):TED:=λσ h Q=> ∃d,σ[i]? =some (some d)/\Q d h
def dC (d:D):TED:=λ_ h Q=>Q d h
def dOp (f:RD2)(ta tb:TED):TED:=λσ h Q=>ta σ h λx h1=>tb σ h1 λy h2=>f x y h2 Q
def Zv:TAD:=λ_ h Q=>Q [] h
def zh (ta:TED)(tr:TAD):TAD:=λσ h Q=>ta σ h λx h1=>tr σ h1 λxs h2=>Q (x::xs) h2
def uc (t:TAD):TED:=λσ h Q=>t σ h λds h1=>ds.length<=sizeLine/\Q (.tup ds) h1
def Te (t:TAD):TED:=λσ h Q=>t σ h λds h1=>ds.length<=sizeLine/\ ∀p,h1 p=none->Q (.lst p) (wb h1 p ds)
def dCB (r:RDn)(t:TAD):TED:=λσ h Q=>t σ h λds h1=>r ds h1 Q
def WO (t:TED):TTD:=λσ h Q=>t σ h λx h1=> ∃k,x= .bl k/\Q k h1
def Vx (r r':RD2)(ta tb tc:TED):TED:=λσ h Q=>ta σ h λx h1=>tb σ h1 λy h2=>r x y h2 λz h3=> ∃k,z= .bl k/\
 (if k=true then tc σ h3 λw h4=>r' y w h4 Q else Q (.bl false) h3)
def Ec (t u:TTD):TTD:=λσ h Q=>t σ h λc h1=>if c=true then u σ h1 Q else Q false h1
def Ho (t u:TTD):TTD:=λσ h Q=>t σ h λc h1=>if c=true then Q true h1 else u σ h1 Q
def NZ (t:TTD):TTD:=λσ h Q=>t σ h λc h1=>Q (!c) h1
def FY (ta tb:TED):TED:=λσ h Q=>ta σ h λx h1=> ∃c,x= .bl c/\if c=true then tb σ h1 Q else Q (.bl false) h1
def ud (ta tb:TED):TED:=λσ h Q=>ta σ h λx h1=> ∃c,x= .bl c/\if c=true then Q (.bl true) h1 else tb σ h1 Q
def FZ (ta:TED):TED:=λσ h Q=>ta σ h λx h1=> ∃c,x= .bl c/\Q (.bl (!c)) h1
def dIf (t:TTD)(ta tb:TED):TED:=λσ h Q=>t σ h λc h1=>if c=true then ta σ h1 Q else tb σ h1 Q
section
variable {K:PySem.W.Frag}
theorem Hq (i:Nat): ∀σ H Q,LE K (Rj i) σ H Q->xr i σ H Q:=λσ H Q ⟨oW,h,Qd,rs,rh,⟨d,e,q⟩,p⟩=>let ⟨v,e1,e2⟩:=rs.2 i d e;⟨v,e1,p d v h H (.refl H) rh e2 q⟩
theorem kj {d:D}{v:V}(r: ∀H,RelD K H d v): ∀σ H Q,LE K (dC d) σ H Q->tC v σ H Q:=λσ H Q ⟨oW,h,Qd,rs,rh,q,p⟩=>p d v h H (.refl H) rh (r H) q
variable {H:Hp}
theorem jT {H1:Hp}{Qd:KD}{Q:VK}(p:Eb K H Qd Q)(k:Kept H H1):Eb K H1 Qd Q:=λd v h' H' k'=>p d v h' H' (k.trans k')
variable {ta:TED}
theorem LE.bind {σ:St}{oW:SD}{h:HD}{kd:KD}{k:VK}(rs:RelS K H oW σ)(rh:RelH K h H)(t:ta oW h kd)(f: ∀d v h' H',Kept H H'->RelS K H' oW σ->RelH K h' H'->RelD K H' d v->kd d h'->k v H'):LE K ta σ H k:=
 ⟨oW,h,kd,rs,rh,t,λd v h' H' kp r1 r2 q=>f d v h' H' kp (rs.mono kp) r1 r2 q⟩
theorem LT.bind {ta:TTD}{σ:St}{oW:SD}{h:HD}{kd:Bool->HD->Prop}{k:Bool->Hp->Prop}(rs:RelS K H oW σ)(rh:RelH K h H)(t:ta oW h kd)(f: ∀b h' H',Kept H H'->RelS K H' oW σ->RelH K h' H'->kd b h'->k b H'):LT K ta σ H k:=
 ⟨oW,h,kd,rs,rh,t,λb h' H' kp r1 q=>f b h' H' kp (rs.mono kp) r1 q⟩
theorem LA.bind {ta:TAD}{σ:St}{oW:SD}{h:HD}{kd:List D->HD->Prop}{k:List V->Hp->Prop}(rs:RelS K H oW σ)(rh:RelH K h H)(t:ta oW h kd)(f: ∀ds vs h' H',Kept H H'->RelS K H' oW σ->RelH K h' H'->RelDs K H' ds vs->kd ds h'->k vs H'):LA K ta σ H k:=
 ⟨oW,h,kd,rs,rh,t,λd v h' H' kp r1 r2 q=>f d v h' H' kp (rs.mono kp) r1 r2 q⟩
variable {tb:TED}
theorem Ed {f:RD2}: ∀σ H Q,LE K (dOp f ta tb) σ H Q->tOp (LR K f) (LE K ta) (LE K tb) σ H Q:=λσ H Q ⟨oW,h,Qd,rs,rh,t,p⟩=>
 LE.bind rs rh t λd v h1 H1 k1 rs1 rh1 r1 t1=>LE.bind rs1 rh1 t1 λd2 v2 h2 H2 k2 rs2 rh2 r2 t2=>⟨d,d2,h2,Qd,r1.mono k2,r2,rh2,t2,jT p (k1.trans k2)⟩
theorem Hr: ∀σ H Q,LA K Zv σ H Q->xJ σ H Q:=λσ H Q ⟨oW,h,Qd,rs,rh,t,p⟩=>p [] [] h H (.refl H) rh rfl t
theorem Ee {tr:TAD}: ∀σ H Q,LA K (zh ta tr) σ H Q->TZ (LE K ta) (LA K tr) σ H Q:=λσ H Q ⟨oW,h,Qd,rs,rh,t,p⟩=>
 LE.bind rs rh t λd v h1 H1 k1 rs1 rh1 r1 t1=>LA.bind rs1 rh1 t1 λds vs h2 H2 k2 rs2 rh2 r2 t2=>p _ _ h2 H2 (k1.trans k2) rh2 (.cons (r1.mono k2) r2) t2
theorem Hs {t:TAD}: ∀σ H Q,LE K (uc t) σ H Q->xK (LA K t) σ H Q:=λσ H Q ⟨oW,h,Qd,rs,rh,t,p⟩=>
 LA.bind rs rh t λds vs h1 H1 k1 rs1 rh1 r1 ⟨z,q⟩=>⟨by rw [<-r1.length];exact z,λa ha=>p (.tup ds) (.ref a) h1 _ (k1.trans (.new ha)) (rh1.new ha) ⟨a,vs,rfl,jy,r1.mono (.new ha)⟩ q⟩
theorem Ht {t:TAD}: ∀σ H Q,LE K (Te t) σ H Q->xL (LA K t) σ H Q:=λσ H Q ⟨oW,h,Qd,rs,rh,t,p⟩=>
 LA.bind rs rh t λds vs h1 H1 k1 rs1 rh1 r1 ⟨z,q⟩=>⟨by rw [<-r1.length];exact z,λa ha=>p (.lst a) (.ref a) _ _ (k1.trans (.new ha)) (rh1.newL ha r1) ⟨rfl,vs,jy⟩ (q a (rh1.free ha))⟩
theorem Hu {r:RDn}{t:TAD}: ∀σ H Q,LE K (dCB r t) σ H Q->tCB (LC K r) (LA K t) σ H Q:=λσ H Q ⟨oW,h,Qd,rs,rh,t,p⟩=>
 LA.bind rs rh t λds vs h1 H1 k1 rs1 rh1 r1 q=>⟨ds,h1,Qd,r1,rh1,q,jT p k1⟩
theorem Ba {t:TED}: ∀σ H Q,LT K (WO t) σ H Q->AN (LE K t) σ H Q:=λσ H Q ⟨oW,h,Qd,rs,rh,t,p⟩=>
 LE.bind rs rh t λd v h1 H1 k1 rs1 rh1 r1 ⟨k,e,q⟩=>by subst e;exact⟨k,r1,p k h1 H1 k1 rh1 q⟩
theorem La {t:TED}: ∀σ H Q,LT K (WO t) σ H Q->tB (LE K t) σ H Q:=λσ H Q ⟨oW,h,Qd,rs,rh,t,p⟩=>
 LE.bind rs rh t λd v h1 H1 k1 rs1 rh1 r1 ⟨k,e,q⟩=>by subst e;exact⟨k,r1,p k h1 H1 k1 rh1 q⟩
theorem Rk {r r':RD2}{tc:TED}: ∀σ H Q,LE K (Vx r r' ta tb tc) σ H Q->NJ (LR K r) (LR K r') (LE K ta) (LE K tb) (LE K tc) σ H Q:=λσ H Q ⟨oW,h,Qd,rs,rh,t,p⟩=>
 LE.bind rs rh t λd v h1 H1 k1 rs1 rh1 r1 t1=>LE.bind rs1 rh1 t1 λd2 v2 h2 H2 k2 rs2 rh2 r2 t2=>⟨d,d2,h2,_,r1.mono k2,r2,rh2,t2,λd3 v3 h3 H3 k3 rh3 r3 ⟨k,e,q⟩=>by
  subst e;refine⟨k,r3,?_⟩;cases k with
  |true=>
   rw [if_pos rfl] at q ⊢;exact LE.bind (rs2.mono k3) rh3 q λd4 v4 h4 H4 k4 rs4 rh4 r4 t4=>⟨d2,d4,h4,Qd,(r2.mono k3).mono k4,r4,rh4,t4,jT p (k1.trans (k2.trans (k3.trans k4)))⟩
  |false=>
   rw [if_neg D2] at q ⊢;exact p (.bl false) _ h3 H3 (k1.trans (k2.trans k3)) rh3 rfl q⟩
variable {t:TTD}
theorem Hv {u:TTD}: ∀σ H Q,LT K (Ec t u) σ H Q->xt (LT K t) (LT K u) σ H Q:=λσ H Q ⟨oW,h,Qd,rs,rh,t,p⟩=>
 LT.bind rs rh t λb h1 H1 k1 rs1 rh1 q=>by
  cases b with
  |true=>rw [if_pos rfl] at q ⊢;exact⟨oW,h1,Qd,rs1,rh1,q,λb h' H' k=>p b h' H' (k1.trans k)⟩
  |false=>rw [if_neg D2] at q ⊢;exact p _ _ _ k1 rh1 q
theorem ue {u:TTD}: ∀σ H Q,LT K (Ho t u) σ H Q->tOr (LT K t) (LT K u) σ H Q:=λσ H Q ⟨oW,h,Qd,rs,rh,t,p⟩=>
 LT.bind rs rh t λb h1 H1 k1 rs1 rh1 q=>by
  cases b with
  |true=>rw [if_pos rfl] at q ⊢;exact p _ _ _ k1 rh1 q
  |false=>rw [if_neg D2] at q ⊢;exact⟨oW,h1,Qd,rs1,rh1,q,λb h' H' k=>p b h' H' (k1.trans k)⟩
theorem Hw: ∀σ H Q,LT K (NZ t) σ H Q->xu (LT K t) σ H Q:=λσ H Q ⟨oW,h,Qd,rs,rh,t,p⟩=>
 LT.bind rs rh t λb h1 H1 k1 rs1 rh1 q=>p _ _ _ k1 rh1 q
theorem Hx: ∀σ H Q,LE K (FY ta tb) σ H Q->Tu (LE K ta) (LE K tb) σ H Q:=λσ H Q ⟨oW,h,Qd,rs,rh,t,p⟩=>
 LE.bind rs rh t λd v h1 H1 k1 rs1 rh1 r1 ⟨c,e,q⟩=>by
  subst e;refine⟨c,r1,?_⟩;cases c with
  |true=>rw [if_pos rfl] at q ⊢;exact⟨oW,h1,Qd,rs1,rh1,q,jT p k1⟩
  |false=>rw [if_neg D2] at q ⊢;exact p (.bl false) _ _ _ k1 rh1 rfl q
theorem uf: ∀σ H Q,LE K (ud ta tb) σ H Q->xv (LE K ta) (LE K tb) σ H Q:=λσ H Q ⟨oW,h,Qd,rs,rh,t,p⟩=>
 LE.bind rs rh t λd v h1 H1 k1 rs1 rh1 r1 ⟨c,e,q⟩=>by
  subst e;refine⟨c,r1,?_⟩;cases c with
  |true=>rw [if_pos rfl] at q ⊢;exact p (.bl true) _ _ _ k1 rh1 rfl q
  |false=>rw [if_neg D2] at q ⊢;exact⟨oW,h1,Qd,rs1,rh1,q,jT p k1⟩
theorem Hy: ∀σ H Q,LE K (FZ ta) σ H Q->Tv (LE K ta) σ H Q:=λσ H Q ⟨oW,h,Qd,rs,rh,t,p⟩=>
 LE.bind rs rh t λd v h1 H1 k1 rs1 rh1 r1 ⟨c,e,q⟩=>by subst e;exact⟨c,r1,p (.bl (!c)) _ _ _ k1 rh1 rfl q⟩
theorem ug: ∀σ H Q,LE K (dIf t ta tb) σ H Q->tIf (LT K t) (LE K ta) (LE K tb) σ H Q:=λσ H Q ⟨oW,h,Qd,rs,rh,t,p⟩=>
 LT.bind rs rh t λb h1 H1 k1 rs1 rh1 q=>by
  cases b with
  |true=>rw [if_pos rfl] at q ⊢;exact⟨oW,h1,Qd,rs1,rh1,q,jT p k1⟩
  |false=>rw [if_neg D2] at q ⊢;exact⟨oW,h1,Qd,rs1,rh1,q,jT p k1⟩
end
abbrev QE (X:Cx)(e:Expr)(t:TED):Prop:=PE X e (LE X.K t)
abbrev QT (X:Cx)(e:Expr)(t:TTD):Prop:=PT X e (LT X.K t)
abbrev QW (X:Cx)(e:Expr)(t:TTD):Prop:=PW X e (LT X.K t)
abbrev QA (X:Cx)(es:List Expr)(t:TAD):Prop:=PA X es (LA X.K t)
abbrev QS (X:Cx)(s:Stmt)(t:TSD):Prop:=PS X s (LS X.K t)
abbrev QSs (X:Cx)(s:List Stmt)(t:TSD):Prop:=PSs X s (LS X.K t)
abbrev QG (X:Cx)(e:Expr)(t:TGD):Prop:=PG X e (LG X.K t)
abbrev OpQ (X:Cx)(f:G3->G3->Sem G3)(r:RD2):Prop:=OpR X f (LR X.K r)
abbrev Jl (X:Cx)(f:G3)(r:RDn):Prop:=CallR X f (LC X.K r)
section
variable {X:Cx}{a b c e:Expr}{es rest:List Expr}{ta tb tc te:TED}{t u:TAD}{tt tu:TTD}{pos:Pos}{f r r':RD2}
theorem qv (i:Nat){x:Str}(hN:X.N[i]? =some x:=by rfl)(hv:Vis X.env.scope x:=by first|exact M5 rfl|exact F6 (M5 rfl)|exact F6 (F6 rfl))(hd:(x==("__debug__" :Str))=false:=by decide)
 (hcd:(x==("__classdict__" :Str))=false:=by decide):QE X (.Name x pos) (Rj i):=(Tp hN hv hd hcd).imp (Hq i)
theorem qJ {i:Int}{j:Nat}:QE X (.Constant (.int i) j pos) (dC (.int i)):=pe_int.imp (kj λ_=>rfl)
theorem qbl {i:Bool}{j:Nat}:QE X (.Constant (.bool i) j pos) (dC (.bl i)):=pe_bl.imp (kj λ_=>rfl)
theorem qK {j:Nat}:QE X (.Constant .none j pos) (dC .non):=pe_non.imp (kj λ_=>rfl)
theorem uh {x:Str}{i:Int}{tk:Tok}(hg:Gl X x)(hm:X.mg x=some (.int i tk))(hd:(x==("__debug__" :Str))=false:=by decide):QE X (.Name x pos) (dC (.int i)):=
 (AE (v:= .int i) hg hm ⟨tk,rfl⟩ hd).imp (kj λ_=>rfl)
theorem qop {op:hZ}(ho:OpQ X (binaryOp op) f)(ha:QE X a ta)(hb:QE X b tb):QE X (.BinOp a op b pos) (dOp f ta tb):=(kK ho ha hb).imp Ed
theorem qL {op:dA}(ho:OpQ X (compareOp op) f)(ha:QE X a ta)(hb:QE X b tb)(hm:behindInMarks op b=false):QE X (.Compare a [op] [b] pos) (dOp f ta tb):=(AM ho ha hb hm).imp Ed
theorem ui {op:dA}(ho:OpQ X (compareOp op) f)(ha:QE X a ta)(hb:QE X b tb)(hm:behindInMarks op b=false):QT X (.Compare a [op] [b] pos) (WO (dOp f ta tb)):=
 (AO ho ha hb hm).imp λσ H Q h=>by
  obtain⟨oW,h,Qd,rs,rh,t,p⟩:=Ba (t:=dOp f ta tb) σ H Q h;exact Ed σ H _ ⟨oW,h,Qd,rs,rh,t,p⟩
theorem Hz {op op':dA}(ho:OpQ X (compareOp op) r)(ho':OpQ X (compareOp op') r')(ha:QE X a ta)(hb:QE X b tb)(hc:QE X c tc)(hm:lastMarks [op,op'] [b,c]=false:=by with_unfolding_all rfl):
 QE X (.Compare a [op,op'] [b,c] pos) (Vx r r' ta tb tc):=(FO ho ho' ha hb hc hm).imp Rk
theorem Ef {op op':dA}(ho:OpQ X (compareOp op) r)(ho':OpQ X (compareOp op') r')(ha:QE X a ta)(hb:QE X b tb)(hc:QE X c tc)(hm:lastMarks [op,op'] [b,c]=false:=by with_unfolding_all rfl):
 QT X (.Compare a [op,op'] [b,c] pos) (WO (Vx r r' ta tb tc)):=(FP ho ho' ha hb hc hm).imp λσ H Q h=>by
 obtain⟨oW,h,Qd,rs,rh,t,p⟩:=Ba (t:=Vx r r' ta tb tc) σ H Q h;exact Rk σ H _ ⟨oW,h,Qd,rs,rh,t,p⟩
theorem uj (ha:QE X a ta)(he: ∀whole,isTrue a X.env whole=(do let v <-whole;standAt a.pos;holding [v] (truthy v)):=by intro _;rfl):QT X a (WO ta):=(Tq ha he).imp La
theorem ul (ha:QT X a tt):QW X (.BoolOp .And [a] pos) tt:=AG ha
theorem qM (ha:QT X a tt):QW X (.BoolOp .Or [a] pos) tt:=Tr ha
theorem um (ha:QT X a tt)(hb:QW X (.BoolOp .And (b::rest) pos) tu):QW X (.BoolOp .And (a::b::rest) pos) (Ec tt tu):=(Ts ha hb).imp Hv
theorem qN (ha:QT X a tt)(hb:QW X (.BoolOp .Or (b::rest) pos) tu):QW X (.BoolOp .Or (a::b::rest) pos) (Ho tt tu):=(kE ha hb).imp ue
theorem uo (ha:QT X a tt):QT X (.UnaryOp .Not a pos) (NZ tt):=(Tt ha).imp Hw
theorem qO {op:BoolOp}(ha:QE X a ta):QE X (.BoolOp op [a] pos) ta:=Tw ha
theorem qP (ha:QE X a ta)(hb:QE X (.BoolOp .And (b::rest) pos) tb):QE X (.BoolOp .And (a::b::rest) pos) (FY ta tb):=(Tx ha hb).imp Hx
theorem qor (ha:QE X a ta)(hb:QE X (.BoolOp .Or (b::rest) pos) tb):QE X (.BoolOp .Or (a::b::rest) pos) (ud ta tb):=(kG ha hb).imp uf
theorem qQ (ha:QE X a ta):QE X (.UnaryOp .Not a pos) (FZ ta):=(Ty ha).imp Hy
theorem qif {c:Expr}(hc:QT X c tt)(ha:QE X a ta)(hb:QE X b tb):QE X (.IfExp c a b pos) (dIf tt ta tb):=(FJ hc ha hb).imp ug
theorem Ad:QA X [] Zv:=pa_nil.imp Hr
theorem Bb (ha:QE X e te)(hr:QA X es t)(hs:starEach (e::es) X.env=(false,eval e X.env)::starEach es X.env:=by rfl):QA X (e::es) (zh te t):=(Js ha hr hs).imp Ee
theorem qR {k:Nat}(h:QA X es t):QE X (.Tuple es k pos) (uc t):=(Ha h).imp Hs
theorem qS (h:QA X es t):QE X (.List es pos) (Te t):=(Hb h).imp Ht
end
def Mq:TSD:=λD σ h=>D.nx σ h
def FC (t u:TSD):TSD:=λD σ h=>t {D with nx:=u D} σ h
def Eg (te:TED):TSD:=λD σ h=>te σ h λ_ h1=>D.nx σ h1
def Lb (te:TED):TSD:=λD σ h=>te σ h D.rt
def Tf (c:TTD)(t u:TSD):TSD:=λD σ h=>c σ h λb h1=>if b=true then t D σ h1 else u D σ h1
def FD (i:Nat)(te:TED):TSD:=λD σ h=>te σ h λd h1=>D.nx (σ.set i (some d)) h1
def uq (te:TED)(g:TGD):TSD:=λD σ h=>te σ h λx h1=>g x σ h1 D.nx
def ur (i j:Nat)(ta:TAD):TSD:=λD σ h=>ta σ h λds h1=> ∃v w,ds= [v,w]/\D.nx ((σ.set i (some v)).set j (some w)) h1
def gN (i:Nat):TGD:=λd σ h Q=>Q (σ.set i (some d)) h
def gT2 (i j:Nat):TGD:=λd σ h Q=> ∃x y,d= .tup [x,y]/\Q ((σ.set i (some x)).set j (some y)) h
section
variable {K:PySem.W.Frag}
theorem LS.of {t:TSD}{pE:Ends}{σ:St}{H:Hp}{oW:SD}{h:HD}{Dd:EndsD}(rs:RelS K H oW σ)(rh:RelH K h H)(q:t Dd oW h)
 (nx: ∀oZ h' oV H',Kept H H'->RelS K H' oZ oV->RelH K h' H'->Dd.nx oZ h'->pE.nx oV H')(rt:Eb K H Dd.rt pE.rt)
 (bk: ∀oZ h' oV H',Kept H H'->RelS K H' oZ oV->RelH K h' H'->Dd.bk oZ h'->pE.bk oV H')(ct: ∀oZ h' oV H',Kept H H'->RelS K H' oZ oV->RelH K h' H'->Dd.ct oZ h'->pE.ct oV H'):LS K t pE σ H:=⟨oW,h,Dd,rs,rh,q,nx,rt,bk,ct⟩
theorem Eh: ∀D σ H,LS K Mq D σ H->Tz D σ H:=λD σ H ⟨oW,h,Dd,rs,rh,q,nx,_⟩=>nx oW h σ H (.refl H) rs rh q
theorem HA {t u:TSD}: ∀D σ H,LS K (FC t u) D σ H->xw (LS K t) (LS K u) D σ H:=λD σ H ⟨oW,h,Dd,rs,rh,q,nx,rt,bk,ct⟩=>
 LS.of rs rh q (λoZ h' oV H' k rs' rh' q'=>⟨oZ,h',Dd,rs',rh',q',λa b c d k'=>nx a b c d (k.trans k'),jT rt k,λa b c d k'=>bk a b c d (k.trans k'),λa b c d k'=>ct a b c d (k.trans k')⟩) rt bk ct
variable {te:TED}
theorem Ei: ∀D σ H,LS K (Eg te) D σ H->TB (LE K te) D σ H:=λD σ H ⟨oW,h,Dd,rs,rh,q,nx,rt,bk,ct⟩=>
 LE.bind rs rh q λd v h1 H1 k1 rs1 rh1 r1 q1=>nx _ _ _ _ k1 rs1 rh1 q1
theorem HB: ∀D σ H,LS K (Lb te) D σ H->xx (LE K te) D σ H:=λD σ H ⟨oW,h,Dd,rs,rh,q,nx,rt,bk,ct⟩=>⟨oW,h,Dd.rt,rs,rh,q,rt⟩
theorem ut {c:TTD}{t u:TSD}: ∀D σ H,LS K (Tf c t u) D σ H->xA (LT K c) (LS K t) (LS K u) D σ H:=λD σ H ⟨oW,h,Dd,rs,rh,q,nx,rt,bk,ct⟩=>
 LT.bind rs rh q λb h1 H1 k rs1 rh1 q1=>by
  cases b with
  |true=>rw [if_pos rfl] at q1 ⊢;exact⟨oW,h1,Dd,rs1,rh1,q1,λa b c d k'=>nx a b c d (k.trans k'),jT rt k,λa b c d k'=>bk a b c d (k.trans k'),λa b c d k'=>ct a b c d (k.trans k')⟩
  |false=>rw [if_neg D2] at q1 ⊢;exact⟨oW,h1,Dd,rs1,rh1,q1,λa b c d k'=>nx a b c d (k.trans k'),jT rt k,λa b c d k'=>bk a b c d (k.trans k'),λa b c d k'=>ct a b c d (k.trans k')⟩
theorem Bc {i:Nat}: ∀D σ H,LS K (FD i te) D σ H->OX (LE K te) (wM i) D σ H:=λD σ H ⟨oW,h,Dd,rs,rh,q,nx,rt,bk,ct⟩=>
 LE.bind rs rh q λd v h1 H1 k1 rs1 rh1 r1 q1=>nx _ _ _ _ k1 (rs1.set r1 i) rh1 q1
theorem HE {g:TGD}: ∀D σ H,LS K (uq te g) D σ H->OX (LE K te) (LG K g) D σ H:=λD σ H ⟨oW,h,Dd,rs,rh,q,nx,rt,bk,ct⟩=>
 LE.bind rs rh q λd v h1 H1 k1 rs1 rh1 r1 q1=>⟨d,oW,h1,_,r1,rs1,rh1,q1,λa b c e k'=>nx a b c e (k1.trans k')⟩
theorem HF {i j:Nat}{ta:TAD}: ∀D σ H,LS K (ur i j ta) D σ H->xC i j (LA K ta) D σ H:=λD σ H ⟨oW,h,Dd,rs,rh,q,nx,rt,bk,ct⟩=>
 LA.bind rs rh q λds vs h1 H1 k1 rs1 rh1 r1 ⟨x,y,e,q1⟩=>by
  subst e;obtain⟨v,r,e,r2,r3⟩:=(show ∃v r,vs=v::r/\RelD K H1 x v/\RelDs K H1 [y] r from r1);obtain⟨w,r',e',r4,r5⟩:=(show ∃v r',r=v::r'/\RelD K H1 y v/\RelDs K H1 [] r' from r3);cases (show r'= [] from r5);subst e' e;exact⟨v,w,rfl,nx _ _ _ _ k1 ((rs1.set r2 i).set r4 j) rh1 q1⟩
theorem Ej (i:Nat): ∀v σ H Q,LG K (gN i) v σ H Q->wM i v σ H Q:=λv σ H Q ⟨d,oW,h,Qd,r,rs,rh,q,p⟩=>p _ _ _ _ (.refl H) (rs.set r i) rh q
theorem yG {H:Hp}{x y:D}{vs:List V}(r:RelDs K H [x,y] vs): ∃v w,vs= [v,w]/\RelD K H x v/\RelD K H y w:=by
 obtain⟨v,r1,e,r2,r3⟩:=(show ∃v r,vs=v::r/\RelD K H x v/\RelDs K H [y] r from r);obtain⟨w,z,e',r4,r5⟩:=(show ∃v z,r1=v::z/\RelD K H y v/\RelDs K H [] z from r3);cases (show z= [] from r5);subst e' e;exact⟨v,w,rfl,r2,r4⟩
theorem jD {H:Hp}{x:D}{vs:List V}(r:RelDs K H [x] vs): ∃v,vs= [v]/\RelD K H x v:=by
 obtain⟨v,r1,e,r2,r3⟩:=(show ∃v r,vs=v::r/\RelD K H x v/\RelDs K H [] r from r);cases (show r1= [] from r3);exact⟨v,e,r2⟩
theorem HG (i j:Nat): ∀v σ H Q,LG K (gT2 i j) v σ H Q->Td K 2 (YR (wM i) (YR (wM j) Tc)) v σ H Q:=λv σ H Q ⟨d,oW,h,Qd,r,rs,rh,⟨x,y,e,q⟩,p⟩=>by
 subst e;obtain⟨a,vs,e,hH,r1⟩:=(show ∃a vs,v= .ref a/\H a=some (.tup vs)/\RelDs K H [x,y] vs from r);obtain⟨v1,v2,e1,r2,r3⟩:=yG r1;subst e e1;exact⟨a,[v1,v2],rfl,SqT.of hH,rfl,v1,[v2],rfl,v2,[],rfl,rfl,p _ _ _ _ (.refl H) ((rs.set r2 i).set r3 j) rh q⟩
end
section
variable {X:Cx}{st:Stmt}{sts:List Stmt}{t u:TSD}{e:Expr}{te:TED}{pos:Pos}
theorem HH:QSs X [] Mq:=pss_nil.imp Eh
theorem Ek (h1:QS X st t)(h2:QSs X sts u):QSs X (st::sts) (FC t u):=(FK h1 h2).imp HA
theorem HI (h1:QS X st t):QSs X [st] t:=AH h1
theorem uu (he:QE X e te)(hs:swapsWith e none pos.line X.env=pure false:=by rfl):QS X (.Expr e pos) (Eg te):=(AI he hs).imp Ei
theorem qT (he:QE X e te):QS X (.Return (some e) pos) (Lb te):=(TC he).imp HB
theorem qU {c:Expr}{a b:List Stmt}{tc:TTD}(hc:QT X c tc)(ha:QSs X a t)(hb:QSs X b u):QS X (.If c a b pos) (Tf tc t u):=(kH hc ha hb).imp ut
variable {i:Nat}{x:Str}
theorem qV {pos':Pos}(hN:X.N.Nodup)(hi:X.N[i]? =some x)(hx:Loc X.env.scope x)(he:QE X e te)(hs:swapsWith e (some (.Name x pos')) pos.line X.env=pure false:=by rfl)
 (hf:X.fn x=true\/X.env.scope.names.lookup x=some .local:=by first|exact .inl rfl|exact .inr rfl|assumption):QS X (.Assign [.Name x pos'] e pos) (FD i te):=(TH hN hi hx he hs hf).imp Bc
theorem El (hN:X.N.Nodup)(hi:X.N[i]? =some x)(hx:Loc X.env.scope x)(hf:X.fn x=true\/X.env.scope.names.lookup x=some .local:=by first|exact .inl rfl|exact .inr rfl|assumption):QG X (.Name x pos) (gN i):=
 (vg hN hi hx hf).imp (Ej i)
theorem HJ {j:Nat}{y:Str}{p1 p2:Pos}{k:Nat}(hc:X.calm=true)(hN:X.N.Nodup)(hi:X.N[i]? =some x)(hj:X.N[j]? =some y)(hx:Loc X.env.scope x)(hy:Loc X.env.scope y)
 (hf:X.fn x=true\/X.env.scope.names.lookup x=some .local:=by first|exact .inl rfl|exact .inr rfl|assumption)(hf2:X.fn y=true\/X.env.scope.names.lookup y=some .local:=by first|exact .inl rfl|exact .inr rfl|assumption):
 QG X (.Tuple [.Name x p1,.Name y p2] k pos) (gT2 i j):=(Rf hc (yu (vg hN hi hx hf) (yu (vg hN hj hy hf2) XE))).imp (HG i j)
theorem qW {tg:Expr}{g:TGD}(he:QE X e te)(hg:QG X tg g)(hs:swapsWithSole [tg] e pos.line X.env=pure false:=by rfl)(hsw:swappedStores [tg] e X.env=pure none:=by rfl)
 (h1:(assignEach [tg] X.env).map (·.2)= [assign tg X.env]:=by rfl):QS X (.Assign [tg] e pos) (uq te g):=(TF he hg hs hsw h1).imp HE
theorem qX {j:Nat}{y:Str}{a b:Expr}{ta:TAD}{px py pt:Pos}{kt k2 pt2}(hc:X.calm=true)(hN:X.N.Nodup)(hi:X.N[i]? =some x)(hj:X.N[j]? =some y)(hij:i≠j)
 (hx:X.env.scope.names.lookup x=some .local)(hy:X.env.scope.names.lookup y=some .local)(ha:QA X [a,b] ta)
 (hw:swappedStores [.Tuple [.Name x px,.Name y py] kt pt] (.Tuple [a,b] k2 pt2) X.env=pure (some [x,y]))
 (hs:swapsWithSole [.Tuple [.Name x px,.Name y py] kt pt] (.Tuple [a,b] k2 pt2) pos.line X.env=pure false:=by rfl):
 QS X (.Assign [.Tuple [.Name x px,.Name y py] kt pt] (.Tuple [a,b] k2 pt2) pos) (ur i j ta):=(TJ hc hN hi hj hij hx hy ha hw hs).imp HF
end
abbrev ItD:=HD->Option (List D)
def FE (K:PySem.W.Frag)(H:Hp)(j:ItD)(J:It):Prop:= ∀H' h',Kept H H'->RelH K h' H'-> ∀ds,j h'=some ds-> ∀i:Nat,
 (∀d,ds[i]? =some d->J.go i H'/\ ∀x H'',J.yld i H' x H''->Kept H' H''/\RelH K h' H''/\RelD K H'' d x)/\(ds.length<=i->J.stop i H')
abbrev TID:=SD->HD->(ItD->HD->Prop)->Prop
def LI (K:PySem.W.Frag)(t:TID):TI:=λσ H R=> ∃oW h Rd,RelS K H oW σ/\RelH K h H/\t oW h Rd/\ ∀j J h' H',Kept H H'->RelH K h' H'->FE K H' j J->Rd j h'->R J H'
abbrev QI (X:Cx)(tg iter:Expr)(t:TID):Prop:=PI X tg iter (LI X.K t)
theorem PI.imp {X:Cx}{tg e:Expr}{t t':TI}(h:PI X tg e t)(i: ∀σ H R,t' σ H R->t σ H R):PI X tg e t':=λpins s σ H R I q=>h pins s σ H R I (i σ H R q)
def iL (te:TED):TID:=λσ h R=>te σ h λx h1=> ∃a,x= .lst a/\R (λh=>h a) h1
def iR1 (ta:TAD):TID:=λσ h R=>ta σ h λds h1=> ∃n:Int,ds= [.int n]/\ -(2^62)<=n/\n<2^62/\R (λ_=>some ((G0 n.toNat).map λ(k:Nat)=>D.int (k:Int))) h1
section
variable {K:PySem.W.Frag}
theorem Gk (H:Hp)(a:Addr):FE K H (λh=>h a) (Itl K a):=λH' h' k rh ds e i=>by
 obtain⟨vs,hv,r⟩:=rh a ds e;refine⟨λd hd=> ?_,λhl=>⟨vs,SqL.of hv,by rw [<-r.length];exact hl⟩⟩;obtain⟨v,e1,e2⟩:=r.get hd;refine⟨⟨vs,v,SqL.of hv,e1⟩,λx H'' ⟨eH,hx⟩=> ?_⟩;subst eH;have:=hx vs (SqL.of hv);rw [e1] at this;cases this;exact⟨.refl _,rh,e2⟩
theorem Lc {H:Hp}{a:Addr}{vs:List V}{ds:List D}(hv:H a=some (.tup vs))(r:RelDs K H ds vs):FE K H (λ_=>some ds) (Itt K a):=λH' h' k rh ds' e i=>by
 cases e;have hv':=k.tup _ _ hv;have r':=r.mono k;refine⟨λd hd=> ?_,λhl=>⟨vs,SqT.of hv',by rw [<-r.length];exact hl⟩⟩;obtain⟨v,e1,e2⟩:=r'.get hd;refine⟨⟨vs,v,SqT.of hv',e1⟩,λx H'' ⟨eH,hx⟩=> ?_⟩;subst eH;have:=hx vs (SqT.of hv');rw [e1] at this;cases this;exact⟨.refl _,rh,e2⟩
theorem Mr (H:Hp)(lo:Int)(n:Nat)(ds:List D)(hd:ds=(G0 n).map λ(k:Nat)=>D.int (lo+(k:Int))):FE K H (λ_=>some ds) (Itr lo n):=λH' h' k rh ds' e i=>by
 cases e;subst hd;refine⟨λd hd=> ?_,λhl=>(show n<=i by simpa using hl)⟩;rw [P1] at hd;have hi:i<n:=by
  by_cases z:i<n
  ·exact z
  ·rw [N3 (by simpa using z)] at hd;cases hd
 rw [T5 hi] at hd;cases hd;refine⟨hi,λx H'' ⟨eH,hx⟩=> ?_⟩;subst eH hx;exact⟨.refl _,rh,rfl⟩
theorem Em {te:TED}: ∀σ H R,LI K (iL te) σ H R->TN K (LE K te) σ H R:=λσ H R ⟨oW,h,Rd,rs,rh,q,p⟩=>
 LE.bind rs rh q λd v h1 H1 k1 rs1 rh1 r1 ⟨a,e,q1⟩=>by
  subst e;obtain⟨e,vs,hv⟩:=(show v= .ref a/\ ∃vs,H1 a=some (.lst vs) from r1);exact⟨a,e,⟨vs,SqL.of hv⟩,p _ _ _ _ k1 rh1 (Gk H1 a) q1⟩
theorem uv {ta:TAD}: ∀σ H R,LI K (iR1 ta) σ H R->TQ (LA K ta) σ H R:=λσ H R ⟨oW,h,Rd,rs,rh,q,p⟩=>
 LA.bind rs rh q λds vs h1 H1 k1 rs1 rh1 r1 ⟨n,e,b1,b2,q1⟩=>by
  subst e;obtain⟨v,e,r2⟩:=jD r1;cases (show v= .int n from r2);exact⟨n,e,b1,b2,p _ _ _ _ k1 rh1 (Mr H1 0 n.toNat _ (by simp)) q1⟩
end
def kl (ti:TID)(g:TGD)(tb:TSD):TSD:=λD σ h=>ti σ h λj h1=> ∃ (n:Nat) (W:Nat->SD->HD->Prop),W 0 σ h1/\ ∀i oV h',W i oV h'-> ∃ds,j h'=some ds/\ds.length<=n/\(ds.length<=i->D.nx oV h')/\
 ∀d,ds[i]? =some d->g d oV h' λoY h2=>tb {D with nx:=λo0 h3=> ∃h4,Sub h4 h3/\W (i+1) o0 h4,ct:=λo0 h3=> ∃h4,Sub h4 h3/\W (i+1) o0 h4,bk:=D.nx} oY h2
theorem HK {K:PySem.W.Frag}{ti:TID}{g:TGD}{tb:TSD}: ∀D σ H,LS K (kl ti g tb) D σ H->xE (LI K ti) (LG K g) (LS K tb) D σ H:=λD σ H ⟨oW,h,Dd,rs,rh,q,nx,rt,bk,ct⟩=>by
 refine⟨oW,h,_,rs,rh,q,λj J h1 H1 k1 rh1 jo ⟨n,W,w0,turn⟩=> ?_⟩;refine⟨λi m oV H'=>m=n-i/\Kept H1 H'/\ ∃oZ h',RelS K H' oZ oV/\RelH K h' H'/\W i oZ h',⟨n-0,rfl,.refl _,oW,h1,rs.mono k1,rh1,w0⟩,?_⟩;rintro i m oV H' ⟨rfl,kp,oZ,h',rs',rh',w⟩;obtain⟨ds,ej,hn,stop,go⟩:=turn i oZ h' w;have jo':=jo H' h' kp rh' ds ej i
 by_cases hi:i<ds.length
 ·obtain⟨g1,y1⟩:=jo'.1 ds[i] (G1 hi);refine .inr ⟨g1,λoY H2=>Kept H1 H2/\ ∃o8 h2,RelS K H2 o8 oY/\RelH K h2 H2/\W (i+1) o8 h2,λoY H2 ⟨k2,a,b,c,d,e⟩=>⟨n-(i+1),by omega,rfl,k2,a,b,c,d,e⟩,λx H'' y=> ?_⟩;obtain⟨k2,rh2,r2⟩:=y1 x H'' y;refine⟨ds[i],oZ,h',_,r2,rs'.mono k2,rh2,go ds[i] (G1 hi),λrG h3 o0 H3 k3 rs3 rh3 q3=> ?_⟩;have kk:Kept H H3:=k1.trans (kp.trans (k2.trans k3));have kk1:Kept H1 H3:=kp.trans (k2.trans k3);exact⟨rG,h3,_,rs3,rh3,q3,λa b c d k4 rs4 rh4 ⟨h4,sb,w4⟩=>⟨kk1.trans k4,a,h4,rs4,rh4.sub sb,w4⟩,jT rt kk,λa b c d k4 rs4 rh4 q4=>nx a b c d (kk.trans k4) rs4 rh4 q4,λa b c d k4 rs4 rh4 ⟨h4,sb,w4⟩=>⟨kk1.trans k4,a,h4,rs4,rh4.sub sb,w4⟩⟩
 ·exact .inl ⟨jo'.2 (aJ.mp hi),nx _ _ _ _ (k1.trans kp) rs' rh' (stop (aJ.mp hi))⟩
def vt:TTD:=λ_ h Q=>Q true h
def vL (bind:D->SD->SD->Prop)(js:List Nat)(ti:TID)(tt:TTD)(te:TED):TED:=λσ h Q=>ti σ h λj h1=> ∃ (n:Nat) (W:Nat->List D->HD->Prop),W 0 [] h1/\ ∀i ys h',W i ys h'->ys.length<=sizeLine/\
 ∃ds,j h'=some ds/\ds.length<=n/\(ds.length<=i-> ∀p,h' p=none->Q (.lst p) (wb h' p ys))/\
  ∀d,ds[i]? =some d-> ∃oY,bind d (jI js σ) oY/\tt oY h' λb h3=>if b=true then te oY h3 λy h4=> ∃h5,Sub h5 h4/\W (i+1) (ys++ [y]) h5 else ∃h5,Sub h5 h3/\W (i+1) ys h5
def bN (i:Nat):D->SD->SD->Prop:=λd σ oY=>oY=σ.set i (some d)
def b2 (i j:Nat):D->SD->SD->Prop:=λd σ oY=> ∃x y,d= .tup [x,y]/\oY=(σ.set i (some x)).set j (some y)
theorem HL {K:PySem.W.Frag}: ∀σ H Q,LT K vt σ H Q->xP σ H Q:=λσ H Q ⟨oW,h,Qd,rs,rh,q,p⟩=>p true h H (.refl H) rh q
def Bd (K:PySem.W.Frag)(js:List Nat)(bind:D->SD->SD->Prop)(g:TG):Prop:= ∀ (σ:St) (oW o8:SD) (H:Hp) (d:D) (v:V) (Q:St->Hp->Prop),RelS K H (jI js oW) (yq js σ)->RelD K H d v->bind d (jI js oW) o8->
 (∀oY,Agree (yq js σ) oY->RelS K H o8 oY->Q oY H)->g v (yq js σ) H Q
theorem HM {K:PySem.W.Frag}{js:List Nat}{i:Nat}(hi:i∈js):Bd K js (bN i) (wM i):=λσ oW o8 H d v Q rs r b q=>by
 cases (show o8=_ from b);exact q _ (.set v λu=>zn js σ i u hi) (rs.set r i)
theorem uw {K:PySem.W.Frag}{js:List Nat}{i j:Nat}(hi:i∈js)(hj:j∈js)(hij:i≠j):Bd K js (b2 i j) (Td K 2 (YR (wM i) (YR (wM j) Tc))):=λσ oW o8 H d v Q rs r b q=>by
 obtain⟨x,y,e,e2⟩:=b;subst e e2;obtain⟨a,vs,e,hH,r1⟩:=(show ∃a vs,v= .ref a/\H a=some (.tup vs)/\RelDs K H [x,y] vs from r);obtain⟨v1,v2,e1,r2,r3⟩:=yG r1;subst e e1;refine⟨a,[v1,v2],rfl,SqT.of hH,rfl,v1,[v2],rfl,v2,[],rfl,rfl,q _ (.trans (.set v1 λu=>zn js σ i u hi) (.set v2 λu z=> ?_)) ((rs.set r2 i).set r3 j)⟩;rw [B2 hij] at z;exact zn js σ j u hj z
theorem En {K:PySem.W.Frag}{bind:D->SD->SD->Prop}{js:List Nat}{ti:TID}{tt:TTD}{te:TED}{g:TG}(hb:Bd K js bind g): ∀σ H Q,LE K (vL bind js ti tt te) σ H Q->tLC js (LI K ti) g (LT K tt) (LE K te) σ H Q:=
 λσ H Q ⟨oW,h,Qd,rs,rh,q,p⟩=>by
  refine⟨oW,h,_,rs,rh,q,λj J h1 H1 k1 rh1 jo ⟨n,W,w0,turn⟩=> ?_⟩;refine⟨λi m ys H'=>m=n-i/\Kept H1 H'/\ ∃ds h',RelDs K H' ds ys/\RelH K h' H'/\W i ds h',⟨n-0,rfl,.refl _,[],h1,rfl,rh1,w0⟩,?_⟩;rintro i m ys H' ⟨rfl,kp,yd,h',ry,rh',w⟩;obtain⟨hz,ds,ej,hn,stop,go⟩:=turn i yd h' w;refine⟨by rw [<-ry.length];exact hz,?_⟩;have jo':=jo H' h' kp rh' ds ej i;have kk:Kept H H':=k1.trans kp
  by_cases hi:i<ds.length
  ·obtain⟨g1,y1⟩:=jo'.1 ds[i] (G1 hi);refine .inr ⟨g1,λx H'' y=> ?_⟩;obtain⟨k2,rh2,r2⟩:=y1 x H'' y;obtain⟨o8,bd,q2⟩:=go ds[i] (G1 hi);refine hb σ oW o8 H'' ds[i] x _ (((rs.mono (kk.trans k2))).clear js) r2 bd λoY ag rs2=>⟨ag,?_⟩
   refine LT.bind rs2 rh2 q2 λb h3 H3 k3 rs3 rh3 q3=> ?_
   cases b with
   |true=>
    rw [if_pos rfl] at q3 ⊢;refine LE.bind rs3 rh3 q3 λd4 v4 h4 H4 k4 rs4 rh4 r4 ⟨h5,sb,w5⟩=>⟨n-(i+1),by omega,rfl,kp.trans (k2.trans (k3.trans k4)),yd++ [d4],h5,(ry.mono (k2.trans (k3.trans k4))).append (.cons r4 .nil),rh4.sub sb,w5⟩
   |false=>
    rw [if_neg D2] at q3 ⊢;obtain⟨h5,sb,w5⟩:=q3;exact⟨n-(i+1),by omega,rfl,kp.trans (k2.trans k3),yd,h5,ry.mono (k2.trans k3),rh3.sub sb,w5⟩
  ·refine .inl ⟨jo'.2 (aJ.mp hi),λa ha=>p (.lst a) (.ref a) _ _ (kk.trans (.new ha)) (rh'.newL ha ry) ⟨rfl,ys,jy⟩ (stop (aJ.mp hi) a (rh'.free ha))⟩
theorem ww {X:Cx}{scope:J6}{C:Addr}{s₀:G6}{H₀:Hp}{ex:List Addr}{i:Nat}{x:Str}{p:Pos}(hN:X.N.Nodup)(hx:X.N[i]? =some x)(hl:scope.names.lookup x=some .local\/scope.names.lookup x=some .cell):
 PG (ZF X scope C s₀ H₀ ex) (.Name x p) (wM i):=by
 rcases hl with z|z
 ·exact vg hN hx (.inl (fO z)) (.inr (fO z))
 ·exact vg hN hx (.inr (ZE z)) (.inl (by show (scope.names.lookup x==some V6)=true;rw [z];rfl))
section
variable {X:Cx}{tg e iter elt:Expr}{te:TED}{ti:TID}{g:TGD}{tb:TSD}{tt:TTD}{pos:Pos}{ta:TAD}{scope:J6}{js:List Nat}{ifs:List Expr}
theorem Eo (he:QE X e te):QI X tg e (iL te):=(AJ he).imp Em
theorem uA {p:Pos}{a:Expr}(hg:Gl X "range")(hm:X.mg "range" =none)(ha:QA X [a] ta)(hs:starEach [a] X.env= [(false,eval a X.env)]:=by rfl):QI X tg (.Call (.Name "range" p) [a] [] pos) (iR1 ta):=(NF hg hm ha hs).imp uv
theorem qY {body:List Stmt}(hp:gA (model X.prog X.w) X.A X.env X.xe)(hc:X.calm=true)(hi:QI X tg iter ti)(hg:QG X tg g)(hb:QSs X body tb)(hs: ∀x,foldedSetIterable iter X.env x=pure x:=by intro _;rfl):
 QS X (.For tg iter body [] pos) (kl ti g tb):=(TR hp hc hi hg hb hs).imp HK
theorem Ep:PTs X [] (LT X.K vt):=λpins s σ H Q I h=>AY pins s σ H Q I (HL σ H Q h)
theorem Er {c:Expr}(hc:QT X c tt):PTs X [c] (LT X.K tt):=AZ hc
theorem qlc {i:Nat}{x:Str}{p:Pos}(hc:X.calm=true)(S:BlockOk X scope js)(hi:QI X (.Name x p) iter ti)(hj:i∈js)(hN:X.N.Nodup)(hx:X.N[i]? =some x)(hl:scope.names.lookup x=some .local\/scope.names.lookup x=some .cell)
 (ht: ∀X',jp X scope X'->PTs X' ifs (LT X'.K tt))(he: ∀X',jp X scope X'->QE X' elt te)(hs: ∀x,foldedSetIterable iter X.env x=pure x:=by intro _;rfl):
 QE X (.ListComp elt [⟨.Name x p,iter,ifs,0⟩] scope pos) (vL (bN i) js ti tt te):=
 (Hm hc S hi (λX' hX=>by obtain⟨C,s₀,H₀,ex,rfl⟩:=hX;exact ww hN hx hl) (λX' hX=>by have:=ht X' hX;obtain⟨C,s₀,H₀,ex,rfl⟩:=hX;exact this)
  (λX' hX=>by have:=he X' hX;obtain⟨C,s₀,H₀,ex,rfl⟩:=hX;exact this) hs).imp (En (HM hj))
theorem qZ {i j:Nat}{x y:Str}{p1 p2 p3:Pos}{k:Nat}(hc:X.calm=true)(S:BlockOk X scope js)(hi:QI X (.Tuple [.Name x p1,.Name y p2] k p3) iter ti)(hj:i∈js)(hj2:j∈js)(hij:i≠j)(hN:X.N.Nodup)(hx:X.N[i]? =some x)(hy:X.N[j]? =some y)
 (hl:scope.names.lookup x=some .local\/scope.names.lookup x=some .cell)(hl2:scope.names.lookup y=some .local\/scope.names.lookup y=some .cell)
 (ht: ∀X',jp X scope X'->PTs X' ifs (LT X'.K tt))(he: ∀X',jp X scope X'->QE X' elt te)(hs: ∀x,foldedSetIterable iter X.env x=pure x:=by intro _;rfl):
 QE X (.ListComp elt [⟨.Tuple [.Name x p1,.Name y p2] k p3,iter,ifs,0⟩] scope pos) (vL (b2 i j) js ti tt te):=
 (Hm hc S hi (λX' hX=>by
  obtain⟨C,s₀,H₀,ex,rfl⟩:=hX;exact Rf hc (yu (ww hN hx hl) (yu (ww hN hy hl2) XE))) (λX' hX=>by have:=ht X' hX;obtain⟨C,s₀,H₀,ex,rfl⟩:=hX;exact this)
  (λX' hX=>by have:=he X' hX;obtain⟨C,s₀,H₀,ex,rfl⟩:=hX;exact this) hs).imp (En (uw hj hj2 hij))
end
def LSp (K:PySem.W.Frag)(spd:RDn):Sp:=λvs H Q _=>LC K spd vs H Q
theorem Es {K:PySem.W.Frag}{spd:RDn}{t:TAD}{E:XK}: ∀σ H Q,LE K (dCB spd t) σ H Q->Hc (LSp K spd) [] E (LA K t) σ H Q:=λσ H Q ⟨oW,h,Qd,rs,rh,t,p⟩=>
 LA.bind rs rh t λds vs h1 H1 k1 rs1 rh1 r1 q=>by rw [B7];exact⟨ds,h1,Qd,r1,rh1,q,jT p k1⟩
section
variable {X:Cx}{k:Nat}{f:Addr}{fd:D8}{ps:List Str}{spd:RDn}{x:Str}{p pos:Pos}{e:Expr}{es:List Expr}{t:TAD}
theorem uB (F:FnOk X.prog X.w X.K X.mg X.base CX0 k f fd ps (LSp X.K spd))(hr:Room k X.A)(hg:Gl X x)(hm:X.mg x=some (.ref f))(hk:PySem.W.keepIn X.K (.ref f)=true)(hb:Binds X.K fd ps [])
 (ha:QA X (e::es) t)(hdb:(x==("__debug__" :Str))=false:=by decide)(he:starEach (e::es) X.env=(false,eval e X.env)::starEach es X.env:=by rfl)(hpl:(backTo pos (starEach es X.env)).any (·.1)=false:=by rfl):
 QE X (.Call (.Name x p) (e::es) [] pos) (dCB spd t):=(AR F hr hg hm hk hb .nil kZ ha hdb he hpl).imp Es
theorem HN {id:String}{r:RDn}(hc:Jl X (.builtin id) r)(hg:Gl X x)(hm:X.mg x=none)(hv:bootBuiltins x=some (.builtin id))(ha:QA X (e::es) t)(hn:x≠ "__name__" :=by decide)(hdb:(x==("__debug__" :Str))=false:=by decide)
 (he:starEach (e::es) X.env=(false,eval e X.env)::starEach es X.env:=by rfl)(hpl:(backTo pos (starEach es X.env)).any (·.1)=false:=by rfl):QE X (.Call (.Name x p) (e::es) [] pos) (dCB r t):=(Rg hc hg hm hv ha hn hdb he hpl).imp Hu
theorem Et {T:String}{r:RDn}(hc:Jl X (.type T) r)(hg:Gl X x)(hm:X.mg x=none)(hv:bootBuiltins x=some (.type T))(ha:QA X (e::es) t)(hn:x≠ "__name__" :=by decide)(hdb:(x==("__debug__" :Str))=false:=by decide)
 (he:starEach (e::es) X.env=(false,eval e X.env)::starEach es X.env:=by rfl)(hpl:(backTo pos (starEach es X.env)).any (·.1)=false:=by rfl):QE X (.Call (.Name x p) (e::es) [] pos) (dCB r t):=(Gg hc hg hm hv ha hn hdb he hpl).imp Hu
end
def vy (N:List Str)(ds:List D):SD:=ds.map some++S4 (N.length-ds.length) none
theorem Ms {K:PySem.W.Frag}{H:Hp}{N:List Str}{ds:List D}{vs:List V}(r:RelDs K H ds vs):RelS K H (vy N ds) (start N vs):=by
 have hl:=r.length;refine⟨by unfold vy start;simp [hl],λi d e=> ?_⟩;unfold vy at e;unfold start
 by_cases hi:i<ds.length
 ·rw [R4 (by simpa using hi),P1] at e;cases q:ds[i]? with
  |none=>rw [q] at e;cases e
  |some d'=>
   rw [q] at e;cases e;obtain⟨v,e1,e2⟩:=r.get q;exact⟨v,by rw [R4 (by simpa [<-hl] using hi),P1,e1];rfl,e2⟩
 ·rw [D3 (by simpa using hi),dN] at e;split at e<;>cases e
def FF (Q:KD):EndsD:= {nx:=λ_ h=> ∃h',Sub h' h/\Q .non h',rt:=λd h=> ∃h',Sub h' h/\Q d h'}
section
variable {P:S3}{w:N2}{K:PySem.W.Frag}{mg:Str->Option G3}{base:Heap}
theorem Fun.okD {x qual:Str}{st:Stmt}{f:Addr}{fd:D8}{N ps:List Str}{k:Nat}{spd:RDn}(F:Fun K x qual st f fd)(S:FnScope N ps (je st))(len: ∀ds h Q,spd ds h Q->ds.length=ps.length)
 (tb:TSD)(hbody: ∀ (cdv:G3) (A:M7) (outer:List Env) (s:G6) (H:Hp) (E:XK),Room k (A.deeper (envOfC qual (je st) s.heap.objs.size f cdv))->QSs (FR CX0 P w K mg base N qual (je st) f cdv A outer s H E).nox (yh st) tb)
 (read: ∀ds h Q,spd ds h Q->tb (FF Q) (vy N ds) h):FnOk P w K mg base CX0 (k+1) f fd ps (LSp K spd):=by
 refine F.ok S (λvs H Q E h=> ?_) (λcdv A outer s H vs Q E hr h=> ?_)
 ·obtain⟨ds,h,Qd,r,rh,q,p⟩:=h;rw [<-r.length];exact len _ _ _ q
 ·obtain⟨ds,h,Qd,r,rh,q,p⟩:=h;refine⟨_,hbody cdv A outer s H E hr,vy N ds,h,FF Qd,Ms r,rh,read ds h Qd q,λoZ h' oV H' k rs' rh' ⟨h2,sb,q'⟩=>p .non .non h2 H' k (rh'.sub sb) rfl q',λd v h' H' k rh' r' ⟨h2,sb,q'⟩=>p d v h2 H' k (rh'.sub sb) r' q',λ_ _ _ _ _ _ _ z=>z.elim,λ_ _ _ _ _ _ _ z=>z.elim⟩
end
section
variable {X:Cx}{iter elt:Expr}{te:TED}{ti:TID}{tt:TTD}{pos spos:Pos}{scope:J6}{js:List Nat}{ifs:List Expr}
theorem HP {i k:Nat}{x y:Str}{p py:Pos}(hc:X.calm=true)(hN:X.N.Nodup)(hk:X.N[k]? =some y)(hy:Loc X.env.scope y)(S:BlockOk X scope js)(hi:QI X (.Name x p) iter ti)(hj:i∈js)(hx:X.N[i]? =some x)(hl:scope.names.lookup x=some .local\/scope.names.lookup x=some .cell)
 (ht: ∀X',jp X scope X'->PTs X' ifs (LT X'.K tt))(he: ∀X',jp X scope X'->QE X' elt te)
 (hsw:swapsWith (.ListComp elt [⟨.Name x p,iter,ifs,0⟩] scope pos) (some (.Name y py)) spos.line X.env=pure true:=by rfl)
 (hf:X.fn y=true\/X.env.scope.names.lookup y=some .local:=by first|exact .inl rfl|exact .inr rfl|assumption)(hs: ∀x,foldedSetIterable iter X.env x=pure x:=by intro _;rfl):
 QS X (.Assign [.Name y py] (.ListComp elt [⟨.Name x p,iter,ifs,0⟩] scope pos) spos) (FD k (vL (bN i) js ti tt te)):=by
 have base:PS X (.Assign [.Name y py] (.ListComp elt [⟨.Name x p,iter,ifs,0⟩] scope pos) spos) (OX (tLC js (LI X.K ti) (wM i) (LT X.K tt) (LE X.K te)) (wM k)):=
  FX hc S hi (λX' hX=>by obtain⟨C,s₀,H₀,ex,rfl⟩:=hX;exact ww hN hx hl) (λX' hX=>by have:=ht X' hX;obtain⟨C,s₀,H₀,ex,rfl⟩:=hX;exact this)
   (λX' hX=>by have:=he X' hX;obtain⟨C,s₀,H₀,ex,rfl⟩:=hX;exact this) (vg hN hk hy hf) hsw hs
 exact base.imp λD σ H h=>by
  obtain⟨oW,hd,Qd,rs,rh,t,p⟩:=Bc (K:=X.K) D σ H h;exact En (HM hj) σ H _ ⟨oW,hd,Qd,rs,rh,t,p⟩
end
def dIn (i':Nat)(ti:TID)(tt:TTD)(te:TED)(V:List D->HD->Prop)(ys:List D):SD->HD->Prop:=λσ h=>ti σ h λj h1=> ∃ (n:Nat) (W:Nat->List D->HD->Prop),W 0 ys h1/\ ∀i ys h',W i ys h'->ys.length<=sizeLine/\
 ∃ds,j h'=some ds/\ds.length<=n/\(ds.length<=i->V ys h')/\
  ∀d,ds[i]? =some d->tt (σ.set i' (some d)) h' λb h3=>if b=true then te (σ.set i' (some d)) h3 λy h4=> ∃h5,Sub h5 h4/\W (i+1) (ys++ [y]) h5 else ∃h5,Sub h5 h3/\W (i+1) ys h5
def Mt (bind:D->SD->SD->Prop)(js:List Nat)(ti:TID)(tt:TTD)(i':Nat)(ti':TID)(tt':TTD)(te:TED):TED:=λσ h Q=>ti σ h λj h1=> ∃ (n:Nat) (W:Nat->List D->HD->Prop),W 0 [] h1/\ ∀i ys h',W i ys h'->ys.length<=sizeLine/\
 ∃ds,j h'=some ds/\ds.length<=n/\(ds.length<=i-> ∀p,h' p=none->Q (.lst p) (wb h' p ys))/\
  ∀d,ds[i]? =some d-> ∃oY,bind d (jI js σ) oY/\tt oY h' λb h3=>if b=true then dIn i' ti' tt' te (λys' h6=> ∃h5,Sub h5 h6/\W (i+1) ys' h5) ys oY h3 else ∃h5,Sub h5 h3/\W (i+1) ys h5
def PK (K:PySem.W.Frag)(js:List Nat)(i':Nat)(bind:D->SD->SD->Prop)(g:TG):Prop:= ∀ (σ:St) (oW o8:SD) (H:Hp) (d:D) (v:V) (Q:St->Hp->Prop),RelS K H (jI js oW) (yq js σ)->RelD K H d v->bind d (jI js oW) o8->
 (∀oY,Agree (yq js σ) oY->(∀u,¬oY[i']? =some (some u))->RelS K H o8 oY->Q oY H)->g v (yq js σ) H Q
theorem Ae {K:PySem.W.Frag}{js:List Nat}{i i':Nat}(hi:i∈js)(hi':i'∈js)(hne:i≠i'):PK K js i' (bN i) (wM i):=λσ oW o8 H d v Q rs r b q=>by
 cases (show o8=_ from b);refine q _ (.set v λu=>zn js σ i u hi) (λu z=> ?_) (rs.set r i);rw [B2 hne] at z;exact zn js σ i' u hi' z
theorem HQ {K:PySem.W.Frag}{js:List Nat}{i j i':Nat}(hi:i∈js)(hj:j∈js)(hi':i'∈js)(hij:i≠j)(h1:i≠i')(h2:j≠i'):PK K js i' (b2 i j) (Td K 2 (YR (wM i) (YR (wM j) Tc))):=λσ oW o8 H d v Q rs r b q=>by
 obtain⟨x,y,e,e2⟩:=b;subst e e2;obtain⟨a,vs,e,hH,r1⟩:=(show ∃a vs,v= .ref a/\H a=some (.tup vs)/\RelDs K H [x,y] vs from r);obtain⟨v1,v2,e1,r2,r3⟩:=yG r1;subst e e1;refine⟨a,[v1,v2],rfl,SqT.of hH,rfl,v1,[v2],rfl,v2,[],rfl,rfl,q _ (.trans (.set v1 λu=>zn js σ i u hi) (.set v2 λu z=> ?_)) (λu z=> ?_) ((rs.set r2 i).set r3 j)⟩
 ·rw [B2 hij] at z;exact zn js σ j u hj z
 ·rw [B2 h2,B2 h1] at z;exact zn js σ i' u hi' z
theorem Be {K:PySem.W.Frag}{bind:D->SD->SD->Prop}{js:List Nat}{i':Nat}{ti ti':TID}{tt tt':TTD}{te:TED}{g:TG}(hb:PK K js i' bind g): ∀σ H Q,LE K (Mt bind js ti tt i' ti' tt' te) σ H Q->Hn js (LI K ti) g (LT K tt) (LI K ti') (wM i') (LT K tt') (LE K te) σ H Q:=
 λσ H Q ⟨oW,h,Qd,rs,rh,q,p⟩=>by
  refine⟨oW,h,_,rs,rh,q,λj J h1 H1 k1 rh1 jo ⟨n,W,w0,turn⟩=> ?_⟩;refine⟨λi m ys H'=>m=n-i/\Kept H1 H'/\ ∃ds h',RelDs K H' ds ys/\RelH K h' H'/\W i ds h',⟨n-0,rfl,.refl _,[],h1,rfl,rh1,w0⟩,?_⟩;rintro i m ys H' ⟨rfl,kp,yd,h',ry,rh',w⟩;obtain⟨hz,ds,ej,hn,stop,go⟩:=turn i yd h' w;refine⟨by rw [<-ry.length];exact hz,?_⟩;have jo':=jo H' h' kp rh' ds ej i;have kk:Kept H H':=k1.trans kp
  by_cases hi:i<ds.length
  ·obtain⟨g1,y1⟩:=jo'.1 ds[i] (G1 hi);refine .inr ⟨g1,λx H'' y=> ?_⟩;obtain⟨k2,rh2,r2⟩:=y1 x H'' y;obtain⟨o8,bd,q2⟩:=go ds[i] (G1 hi);refine hb σ oW o8 H'' ds[i] x _ (((rs.mono (kk.trans k2))).clear js) r2 bd λoY ag un rs2=>⟨ag,?_⟩
   refine LT.bind rs2 rh2 q2 λb h3 H3 k3 rs3 rh3 q3=> ?_
   cases b with
   |true=>
    rw [if_pos rfl] at q3 ⊢
    -- the second clause
    refine⟨o8,h3,_,rs3,rh3,q3,λj2 J2 h4 H4 k4 rh4 jo2 ⟨n2,W2,w20,turn2⟩=> ?_⟩;refine⟨λi2 m2 ys2 H5=>m2=n2-i2/\Kept H4 H5/\ ∃ds h5,RelDs K H5 ds ys2/\RelH K h5 H5/\W2 i2 ds h5,⟨n2-0,rfl,.refl _,yd,h4,ry.mono (k2.trans (k3.trans k4)),rh4,w20⟩,?_⟩;rintro i2 m2 ys2 H5 ⟨rfl,kp5,yd5,h5,ry5,rh5,w5⟩;obtain⟨hz5,ds5,ej5,hn5,stop5,go5⟩:=turn2 i2 yd5 h5 w5;refine⟨by rw [<-ry5.length];exact hz5,?_⟩;have jo5:=jo2 H5 h5 kp5 rh5 ds5 ej5 i2;have kk5:Kept H1 H5:=kp.trans (k2.trans (k3.trans (k4.trans kp5)))
    by_cases hi5:i2<ds5.length
    ·obtain⟨g5,y5⟩:=jo5.1 ds5[i2] (G1 hi5);refine .inr ⟨g5,λx6 H6 yy6=> ?_⟩;obtain⟨k6,rh6,r6⟩:=y5 x6 H6 yy6;refine⟨.set x6 un,?_⟩;have rs6:=(rs3.mono (k4.trans (kp5.trans k6))).set r6 i';refine LT.bind rs6 rh6 (go5 ds5[i2] (G1 hi5)) λb h7 H7 k7 rs7 rh7 q7=> ?_
     cases b with
     |true=>
      rw [if_pos rfl] at q7 ⊢;exact LE.bind rs7 rh7 q7 λd8 v8 h8 H8 k8 rs8 rh8 r8 ⟨h9,sb,w9⟩=>⟨n2-(i2+1),by omega,rfl,kp5.trans (k6.trans (k7.trans k8)),yd5++ [d8],h9,(ry5.mono (k6.trans (k7.trans k8))).append (.cons r8 .nil),rh8.sub sb,w9⟩
     |false=>
      rw [if_neg D2] at q7 ⊢;obtain⟨h9,sb,w9⟩:=q7;exact⟨n2-(i2+1),by omega,rfl,kp5.trans (k6.trans k7),yd5,h9,ry5.mono (k6.trans k7),rh7.sub sb,w9⟩
    ·obtain⟨h9,sb,w9⟩:=stop5 (aJ.mp hi5);exact .inl ⟨jo5.2 (aJ.mp hi5),n-(i+1),by omega,rfl,kk5,yd5,h9,ry5,rh5.sub sb,w9⟩
   |false=>
    rw [if_neg D2] at q3 ⊢;obtain⟨h5,sb,w5⟩:=q3;exact⟨n-(i+1),by omega,rfl,kp.trans (k2.trans k3),yd,h5,ry.mono (k2.trans k3),rh3.sub sb,w5⟩
  ·refine .inl ⟨jo'.2 (aJ.mp hi),λa ha=>p (.lst a) (.ref a) _ _ (kk.trans (.new ha)) (rh'.newL ha ry) ⟨rfl,ys,jy⟩ (stop (aJ.mp hi) a (rh'.free ha))⟩
section
variable {X:Cx}{iter iter' elt:Expr}{te:TED}{ti ti':TID}{tt tt':TTD}{pos:Pos}{scope:J6}{js:List Nat}{ifs ifs':List Expr}
theorem jaa {i i':Nat}{x y:Str}{p py:Pos}(hc:X.calm=true)(S:BlockOk X scope js)(hi:QI X (.Name x p) iter ti)(hj:i∈js)(hj':i'∈js)(hne:i≠i')(hN:X.N.Nodup)(hx:X.N[i]? =some x)(hy:X.N[i']? =some y)
 (hl:scope.names.lookup x=some .local\/scope.names.lookup x=some .cell)(hl':scope.names.lookup y=some .local\/scope.names.lookup y=some .cell)
 (ht: ∀X',jp X scope X'->PTs X' ifs (LT X'.K tt))(hi': ∀X',jp X scope X'->QI X' (.Name y py) iter' ti')(ht': ∀X',jp X scope X'->PTs X' ifs' (LT X'.K tt'))(he: ∀X',jp X scope X'->QE X' elt te)
 (hs: ∀x,foldedSetIterable iter X.env x=pure x:=by intro _;rfl)(hs': ∀env x,foldedSetIterable iter' env x=pure x:=by intro _ _;rfl):
 QE X (.ListComp elt [⟨.Name x p,iter,ifs,0⟩,⟨.Name y py,iter',ifs',0⟩] scope pos) (Mt (bN i) js ti tt i' ti' tt' te):=
 (show PE X _ (Hn js (LI X.K ti) (wM i) (LT X.K tt) (LI X.K ti') (wM i') (LT X.K tt') (LE X.K te)) from Ac hc S hi (λX' hX=>by obtain⟨C,s₀,H₀,ex,rfl⟩:=hX;exact ww hN hx hl) (λX' hX=>by have:=ht X' hX;obtain⟨C,s₀,H₀,ex,rfl⟩:=hX;exact this) (λX' hX=>by have:=hi' X' hX;obtain⟨C,s₀,H₀,ex,rfl⟩:=hX;exact this)
  (λX' hX=>by obtain⟨C,s₀,H₀,ex,rfl⟩:=hX;exact ww hN hy hl') (λX' hX=>by have:=ht' X' hX;obtain⟨C,s₀,H₀,ex,rfl⟩:=hX;exact this)
  (λX' hX=>by have:=he X' hX;obtain⟨C,s₀,H₀,ex,rfl⟩:=hX;exact this) hs hs').imp (Be (Ae hj hj' hne))
end
def jab:RD2:=λx y h Q=>match x,y with
 | .int i,.int j=>Q (.int (i+j)) h
 | .tup a,.tup b=>a.length+b.length<=sizeLine/\Q (.tup (a++b)) h
 | .lst a,.lst b=> ∃xs ys,h a=some xs/\h b=some ys/\xs.length+ys.length<=sizeLine/\ ∀p,h p=none->Q (.lst p) (wb h p (xs++ys))
 |_,_=>False
def xQ:RD2:=λx y h Q=>match x,y with
 | .int i,.int j=>Q (.int (i-j)) h
 |_,_=>False
def xR:RD2:=λx y h Q=>match x,y with
 | .int i,.int j=>CMul i j/\Q (.int (i*j)) h
 | .lst a,.int k=> ∃xs,h a=some xs/\ -(2^63)<=k/\k<2^63/\xs.length*k.toNat<=sizeLine/\ ∀p,h p=none->Q (.lst p) (wb h p (S4 k.toNat xs).flatten)
 |_,_=>False
def jad:RD2:=λx y h Q=>match x,y with
 | .int i,.int j=>0<j/\Q (.int (i%j)) h
 |_,_=>False
def uC:RD2:=λx y h Q=>match x,y with
 | .int i,.int j=>xG i j/\Q (.int (i / j)) h
 |_,_=>False
def xS:RD2:=λx y h Q=>match x,y with
 | .int i,.int j=>xH i j/\Q (.int (i^j.toNat)) h
 |_,_=>False
def Af (p:Int->Int->Bool):RD2:=λx y h Q=>match x,y with
 | .int i,.int j=>Q (.bl (p i j)) h
 |_,_=>False
def eqD:RD2:=λx y h Q=>match x,y with
 | .int i,.int j=>Q (.bl (decide (i=j))) h
 | .bl i,.bl j=>Q (.bl (decide (i=j))) h
 | .str i,.str j=>Q (.bl (decide (i=j))) h
 |_,_=>False
def neD:RD2:=λx y h Q=>match x,y with
 | .int i,.int j=>Q (.bl (!decide (i=j))) h
 | .bl i,.bl j=>Q (.bl (!decide (i=j))) h
 | .str i,.str j=>Q (.bl (!decide (i=j))) h
 |_,_=>False
section
variable {X:Cx}
theorem XL {f:G3->G3->Sem G3}{C:Int->Int->Prop}{g:Int->Int->V}{gd:Int->Int->D}{r:RD2}(ho:OpR X f (rI C g))(hg: ∀i j H,RelD X.K H (gd i j) (g i j))
 (hr: ∀x y h Q,r x y h Q-> ∃i j,x= .int i/\y= .int j/\C i j/\Q (gd i j) h):OpQ X f r:=ho.imp λx y H Q ⟨dx,dy,h,Qd,rx,ry,rh,q,p⟩=>by
 obtain⟨i,j,e1,e2,c,q'⟩:=hr dx dy h Qd q;subst e1 e2;exact⟨i,j,rx,ry,c,p _ _ _ _ (.refl H) rh (hg i j H) q'⟩
theorem Wj {f:G3->G3->Sem G3}{g:Int->Int->V}{gd:Int->Int->D}{r:RD2}(ho:OpR X f (rI0 g))(hg: ∀i j H,RelD X.K H (gd i j) (g i j))
 (hr: ∀x y h Q,r x y h Q-> ∃i j,x= .int i/\y= .int j/\Q (gd i j) h):OpQ X f r:=ho.imp λx y H Q ⟨dx,dy,h,Qd,rx,ry,rh,q,p⟩=>by
 obtain⟨i,j,e1,e2,q'⟩:=hr dx dy h Qd q;subst e1 e2;exact⟨i,j,rx,ry,p _ _ _ _ (.refl H) rh (hg i j H) q'⟩
theorem yr:OpQ X (binaryOp .Sub) xQ:=Wj (gd:=λi j=> .int (i-j)) TU (λ_ _ _=>rfl) λx y h Q q=>by
 cases x<;>cases y<;>first|exact False.elim q|exact⟨_,_,rfl,rfl,q⟩
theorem Zw:OpQ X (binaryOp .Mod) jad:=XL (gd:=λi j=> .int (i%j)) TV (λ_ _ _=>rfl) λx y h Q q=>by
 cases x<;>cases y<;>first|exact False.elim q|exact⟨_,_,rfl,rfl,q.1,q.2⟩
theorem Eu:OpQ X (binaryOp .FloorDiv) uC:=XL (gd:=λi j=> .int (i / j)) AK (λ_ _ _=>rfl) λx y h Q q=>by
 cases x<;>cases y<;>first|exact False.elim q|exact⟨_,_,rfl,rfl,q.1,q.2⟩
theorem HR:OpQ X (binaryOp .Pow) xS:=XL (gd:=λi j=> .int (i^j.toNat)) TW (λ_ _ _=>rfl) λx y h Q q=>by
 cases x<;>cases y<;>first|exact False.elim q|exact⟨_,_,rfl,rfl,q.1,q.2⟩
theorem XM {p:Int->Int->Bool}: ∀x y h Q,Af p x y h Q-> ∃i j,x= .int i/\y= .int j/\Q (.bl (p i j)) h:=λx y h Q q=>by
 cases x<;>cases y<;>first|exact False.elim q|exact⟨_,_,rfl,rfl,q⟩
theorem Ld:OpQ X (compareOp .Lt) (Af λi j=>decide (i<j)):=Wj (gd:=λi j=> .bl (decide (i<j))) kM (λ_ _ _=>rfl) XM
theorem PL:OpQ X (compareOp .LtE) (Af λi j=>decide (i<=j)):=Wj (gd:=λi j=> .bl (decide (i<=j))) kN (λ_ _ _=>rfl) XM
theorem Le:OpQ X (compareOp .Gt) (Af λi j=>decide (j<i)):=Wj (gd:=λi j=> .bl (decide (j<i))) kO (λ_ _ _=>rfl) XM
theorem Lf:OpQ X (compareOp .GtE) (Af λi j=>decide (j<=i)):=Wj (gd:=λi j=> .bl (decide (j<=i))) kQ (λ_ _ _=>rfl) XM
theorem Tg {α:Type}[DecidableEq α]{f:α->V}(hf: ∀a b,f a=f b->a=b)(a b:α):decide (f a=f b)=decide (a=b):=by
 by_cases h:a=b
 ·subst h;simp
 ·rw [decide_eq_false h,decide_eq_false (λe=>h (hf a b e))]
theorem oq_eq:OpQ X (compareOp .Eq) eqD:=op_eq.imp λx y H Q ⟨dx,dy,h,Qd,rx,ry,rh,q,p⟩=>by
 cases dx<;>cases dy<;>first
  |exact False.elim q
  |(cases (show x= .int _ from rx);cases (show y= .int _ from ry);refine⟨rfl,p _ _ _ _ (.refl H) rh ?_ q⟩;rw [Tg (f:=V.int) (λa b e=>by cases e;rfl)];rfl)
  |(cases (show x= .bl _ from rx);cases (show y= .bl _ from ry);refine⟨rfl,p _ _ _ _ (.refl H) rh ?_ q⟩;rw [Tg (f:=V.bl) (λa b e=>by cases e;rfl)];rfl)
  |(cases (show x= .str _ from rx);cases (show y= .str _ from ry);refine⟨rfl,p _ _ _ _ (.refl H) rh ?_ q⟩;rw [Tg (f:=V.str) (λa b e=>by cases e;rfl)];rfl)
theorem oq_ne:OpQ X (compareOp .NotEq) neD:=op_ne.imp λx y H Q ⟨dx,dy,h,Qd,rx,ry,rh,q,p⟩=>by
 cases dx<;>cases dy<;>first
  |exact False.elim q
  |(cases (show x= .int _ from rx);cases (show y= .int _ from ry);refine⟨rfl,p _ _ _ _ (.refl H) rh ?_ q⟩;rw [Tg (f:=V.int) (λa b e=>by cases e;rfl)];rfl)
  |(cases (show x= .bl _ from rx);cases (show y= .bl _ from ry);refine⟨rfl,p _ _ _ _ (.refl H) rh ?_ q⟩;rw [Tg (f:=V.bl) (λa b e=>by cases e;rfl)];rfl)
  |(cases (show x= .str _ from rx);cases (show y= .str _ from ry);refine⟨rfl,p _ _ _ _ (.refl H) rh ?_ q⟩;rw [Tg (f:=V.str) (λa b e=>by cases e;rfl)];rfl)
def HS (K:PySem.W.Frag):R2:=λx y H Q=> ∃a b xs ys,x= .ref a/\y= .ref b/\SqT K H a xs/\SqT K H b ys/\xs= []/\Q (.ref b) H
theorem op_catT0:OpR X (binaryOp .Add) (HS X.K):=by
 intro pins s σ H x y v u Q I rx ry h;obtain⟨a,b,xs,ys,rfl,rfl,ha,hb,hx,q⟩:=h;cases rx;cases ry;obtain⟨its,r1,p1,_⟩:=I.tuple ha;obtain⟨its2,r2,p2,_⟩:=I.tuple hb;have hv:its= []:=r1.nil_iff.mpr hx;obtain⟨⟨cls,dd,data,sl⟩,ho,hc,n,hd⟩:=id p1;obtain⟨⟨cls2,dd2,data2,sl2⟩,ho2,hc2,n2,hd2⟩:=id p2;simp only at hc hd hc2 hd2;subst hc hd hc2 hd2;exact iC ⟨_,ho,rfl⟩ ⟨_,ho2,rfl⟩ dO gI PySem.F.slot_tuple_add PySem.F.entry_tuple_add (PySem.F.args_tuple_add_2 _ _)
  (tuple_addW0 a b its.toArray its2.toArray n n2 dd dd2 sl sl2 (by simp [hv])) ⟨ho,ho2,.ref b,H,I,rfl,q⟩
theorem wt:OpQ X (binaryOp .Add) jab:=(op_add.or (op_catT.or (op_catT0.or Hi))).imp λx y H Q ⟨dx,dy,h,Qd,rx,ry,rh,q,p⟩=>by
 cases dx<;>cases dy<;>first
  |exact False.elim q
  |skip
 ·exact .inl ⟨_,_,rx,ry,p (.int _) _ _ _ (.refl H) rh rfl q⟩
 ·rename_i ds es;obtain⟨a,vs,e1,h1,r1⟩:=(show ∃a vs,x= .ref a/\H a=some (.tup vs)/\RelDs X.K H ds vs from rx);obtain⟨b,us,e2,h2,r2⟩:=(show ∃a vs,y= .ref a/\H a=some (.tup vs)/\RelDs X.K H es vs from ry);subst e1 e2;obtain⟨hz,q⟩:=q
  by_cases hv:vs= []
  ·subst hv;have e:ds= []:=W0.mp r1.length;subst e;exact .inr (.inr (.inl ⟨a,b,[],us,rfl,rfl,SqT.of h1,SqT.of h2,rfl,p (.tup es) _ _ _ (.refl H) rh ⟨b,us,rfl,h2,r2⟩ q⟩))
  ·refine .inr (.inl ⟨a,b,vs,us,rfl,rfl,SqT.of h1,SqT.of h2,hv,by rw [<-r1.length,<-r2.length];exact hz,λe=> ?_,λ_ c hc=> ?_⟩)
   ·subst e;have e:es= []:=W0.mp r2.length;subst e;rw [B7] at q;exact p (.tup ds) _ _ _ (.refl H) rh ⟨a,vs,rfl,h1,r1⟩ q
   ·exact p (.tup (ds++es)) _ _ _ (.new hc) (rh.new hc) ⟨c,vs++us,rfl,jy,(r1.append r2).mono (.new hc)⟩ q
 ·rename_i a b;obtain⟨xs,ys,h1,h2,hz,q⟩:=q;obtain⟨vs,e1,r1⟩:=rh a xs h1;obtain⟨us,e2,r2⟩:=rh b ys h2;refine .inr (.inr (.inr ⟨a,b,vs,us,rx.1,ry.1,e1,e2,by rw [<-r1.length,<-r2.length];exact hz,λc hc=> ?_⟩));exact p (.lst c) _ _ _ (.new hc) (rh.newL hc (r1.append r2)) ⟨rfl,_,jy⟩ (q c (rh.free hc))
theorem RelDs.flat {K:PySem.W.Frag}{H:Hp}{ds:List D}{vs:List V}(r:RelDs K H ds vs): ∀k:Nat,RelDs K H (S4 k ds).flatten (S4 k vs).flatten
 |0=>by simp;exact .nil
 |k+1=>by rw [E9,E9,U1,U1];exact r.append (RelDs.flat r k)
theorem oq_mul:OpQ X (binaryOp .Mult) xR:=(op_mul.or Hj).imp λx y H Q ⟨dx,dy,h,Qd,rx,ry,rh,q,p⟩=>by
 cases dx<;>cases dy<;>first
  |exact False.elim q
  |skip
 ·exact .inl ⟨_,_,rx,ry,q.1,p (.int _) _ _ _ (.refl H) rh rfl q.2⟩
 ·obtain⟨xs,h1,b1,b2,hz,q⟩:=q;obtain⟨vs,e1,r1⟩:=rh _ xs h1;refine .inr ⟨_,_,vs,rx.1,ry,e1,b1,b2,by rw [<-r1.length];exact hz,λc hc=> ?_⟩;exact p (.lst c) _ _ _ (.new hc) (rh.newL hc (r1.flat _)) ⟨rfl,_,jy⟩ (q c (rh.free hc))
end
def ixD:RD2:=λx y h Q=>match x,y with
 | .tup ds,.int i=> ∃d,atI ds i=some d/\Q d h
 | .lst a,.int i=> ∃ds d,h a=some ds/\atI ds i=some d/\Q d h
 | .scr ns,.int i=> ∃n,atI ns i=some n/\Q (.int n) h
 |_,_=>False
theorem Bf {K:PySem.W.Frag}{H:Hp}{ds:List D}{vs:List V}(r:RelDs K H ds vs){i:Int}{d:D}(e:atI ds i=some d): ∃v,atI vs i=some v/\RelD K H d v:=by
 unfold atI at e ⊢;rw [<-r.length];cases q:ixN ds.length i with
 |none=>rw [q] at e;cases e
 |some j=>rw [q] at e;exact r.get e
theorem Ev {α β:Type}(f:α->β){xs:List α}{i:Int}{x:α}(e:atI xs i=some x):atI (xs.map f) i=some (f x):=by
 unfold atI at e ⊢;rw [G2];cases q:ixN xs.length i with
 |none=>rw [q] at e;cases e
 |some j=>
  rw [q] at e;show (xs.map f)[j]? =_;rw [P1,(show xs[j]? =some x from e)];rfl
section
variable {X:Cx}{a b e:Expr}{ta tb te:TED}{pos p2:Pos}
theorem uD: ∀σ H Q,LE X.K (dOp ixD ta tb) σ H Q->tOp (rIx X.K) (LE X.K ta) (LE X.K tb) σ H Q:=λσ H Q ⟨oW,h,Qd,rs,rh,t,p⟩=>
 LE.bind rs rh t λdx x h1 H1 k1 rs1 rh1 r1 t1=>LE.bind rs1 rh1 t1 λdy y h2 H2 k2 rs2 rh2 ry q=>by
  have rx:=r1.mono k2;have kk:=k1.trans k2;cases dx<;>cases dy<;>first
   |exact False.elim q
   |skip
  ·rename_i ds i;obtain⟨d,e,q⟩:=q;obtain⟨a,vs,e1,hH,r⟩:=(show ∃a vs,x= .ref a/\H2 a=some (.tup vs)/\RelDs X.K H2 ds vs from rx);obtain⟨v,e2,rv⟩:=Bf r e;exact .inr (.inl ⟨a,vs,i,v,e1,ry,SqT.of hH,e2,p _ _ _ _ kk rh2 rv q⟩)
  ·rename_i a i;obtain⟨ds,d,hd,e,q⟩:=q;obtain⟨vs,hH,r⟩:=rh2 a ds hd;obtain⟨v,e2,rv⟩:=Bf r e;exact .inl ⟨a,vs,i,v,rx.1,ry,SqL.of hH,e2,p _ _ _ _ kk rh2 rv q⟩
  ·rename_i ns i;obtain⟨n,e,q⟩:=q;obtain⟨a,e1,hS⟩:=(show ∃a,x= .ref a/\Scr X.K H2 a ns from rx);exact .inl ⟨a,_,i,.int n,e1,ry,hS.sq,Ev V.int e,p (.int n) _ _ _ kk rh2 rfl q⟩
theorem qix (ha:QE X a ta)(hb:QE X b tb)(hs:XG b):QE X (.Subscript a b pos) (dOp ixD ta tb):=(kX Hg ha hb hs).imp uD
end
def Ew:RDn:=λds h Q=>match ds with
 | [.tup xs]=>Q (.int xs.length) h
 | [.lst a]=> ∃xs,h a=some xs/\Q (.int xs.length) h
 | [.scr ns]=>Q (.int ns.length) h
 |_=>False
def uE:RDn:=λds h Q=>match ds with
 | [.int i]=>Q (.int i) h
 | [.bl k]=>Q (.int (if k then 1 else 0)) h
 |_=>False
def uF:RDn:=λds h Q=>match ds with
 | [.int i,.int j]=>Q (.int (if j>i then j else i)) h
 |_=>False
def Ag:RDn:=λds h Q=>match ds with
 | [.tup xs]=>Q (.tup xs) h
 | [.lst a]=> ∃xs,h a=some xs/\Q (.tup xs) h
 |_=>False
def Yx:RDn:=λds h Q=>match ds with
 | [.lst a]=> ∃xs,h a=some xs/\Q (.tup xs) (UN h a)
 |_=>False
section
variable {X:Cx}
theorem HU:Jl X (.builtin "len") Ew:=call_len_seq.imp λxs H Q ⟨ds,h,Qd,r,rh,q,p⟩=>by
 unfold Ew at q;split at q
 ·rename_i es;obtain⟨v,e,r1⟩:=jD r;obtain⟨a,vs,e1,hH,r2⟩:=(show ∃a vs,v= .ref a/\H a=some (.tup vs)/\RelDs X.K H es vs from r1);subst e e1;exact⟨a,vs,rfl,.inr (SqT.of hH),by rw [<-r2.length];exact p (.int _) _ _ _ (.refl H) rh rfl q⟩
 ·rename_i a;obtain⟨es,hd,q⟩:=q;obtain⟨v,e,r1⟩:=jD r;obtain⟨vs,hH,r2⟩:=rh a es hd;have e1:v= .ref a:=r1.1;subst e e1;exact⟨a,vs,rfl,.inl (SqL.of hH),by rw [<-r2.length];exact p (.int _) _ _ _ (.refl H) rh rfl q⟩
 ·rename_i ns;obtain⟨v,e,r1⟩:=jD r;obtain⟨a,e1,hS⟩:=(show ∃a,v= .ref a/\Scr X.K H a ns from r1);subst e e1;exact⟨a,_,rfl,.inl hS.sq,by rw [G2];exact p (.int _) _ _ _ (.refl H) rh rfl q⟩
 ·exact q.elim
theorem Ah:Jl X (.type "int") uE:=call_int1.imp λxs H Q ⟨ds,h,Qd,r,rh,q,p⟩=>by
 unfold uE at q;split at q
 ·rename_i i;obtain⟨v,e,r1⟩:=jD r;cases (show v= .int i from r1);exact .inl ⟨i,e,p (.int i) _ _ _ (.refl H) rh rfl q⟩
 ·rename_i k;obtain⟨v,e,r1⟩:=jD r;cases (show v= .bl k from r1);exact .inr ⟨k,e,p (.int _) _ _ _ (.refl H) rh rfl q⟩
 ·exact q.elim
theorem Ai (hc:X.calm=true):Jl X (.builtin "max") uF:=(NK hc).imp λxs H Q ⟨ds,h,Qd,r,rh,q,p⟩=>by
 unfold uF at q;split at q
 ·rename_i i j;obtain⟨v,w,e,r1,r2⟩:=yG r;cases (show v= .int i from r1);cases (show w= .int j from r2);exact⟨i,j,e,p (.int _) _ _ _ (.refl H) rh rfl q⟩
 ·exact q.elim
theorem cq_tuple:Jl X (.type "tuple") Ag:=call_tuple_of.imp λxs H Q ⟨ds,h,Qd,r,rh,q,p⟩=>by
 unfold Ag at q;split at q
 ·rename_i es;obtain⟨v,e,r1⟩:=jD r;obtain⟨a,vs,e1,hH,r2⟩:=(show ∃a vs,v= .ref a/\H a=some (.tup vs)/\RelDs X.K H es vs from r1);subst e e1;exact⟨a,vs,rfl,.inr ⟨SqT.of hH,p (.tup es) _ _ _ (.refl H) rh ⟨a,vs,rfl,hH,r2⟩ q⟩⟩
 ·rename_i a;obtain⟨es,hd,q⟩:=q;obtain⟨v,e,r1⟩:=jD r;obtain⟨vs,hH,r2⟩:=rh a es hd;have e1:v= .ref a:=r1.1;subst e e1;exact⟨a,vs,rfl,.inl ⟨SqL.of hH,λc hc=>p (.tup es) _ _ _ (.new hc) (rh.new hc) ⟨c,vs,rfl,jy,r2.mono (.new hc)⟩ q⟩⟩
 ·exact q.elim
theorem jH:Jl X (.type "tuple") Yx:=cq_tuple.imp λxs H Q ⟨ds,h,Qd,r,rh,q,p⟩=>by
 unfold Yx at q;split at q
 ·rename_i a;obtain⟨es,hd,q⟩:=q;exact⟨[.lst a],h,λd h'=>Qd d (UN h' a),r,rh,⟨es,hd,q⟩,λd v h' H' k rh' rd q'=>p d v _ H' k (rh'.sub (Sub.drop h' a)) rd q'⟩
 ·exact q.elim
end
def Gm:D->Option String
 | .non=>some "NoneType" | .bl _=>some "bool" | .int _=>some "int" | .str _=>some "str" | .tup _=>some "tuple" | .lst _=>some "list" | .dic _ _=>some "dict" | .dct _=>none| .scr _=>none| .exc _=>none| .fn _=>none
def HV (T:String)(n:String):Bool:=n==T||(T== "int" &&n== "bool")
theorem Lg {K:PySem.W.Frag}{H:Hp}{d:D}{v:V}{n:String}(r:RelD K H d v)(e:Gm d=some n):TyOf K H v (.type n):=by
 cases d with
 |non=>cases (show v= .non from r);cases e;exact .non
 |bl b=>cases (show v= .bl b from r);cases e;exact .bl b
 |int i=>cases (show v= .int i from r);cases e;exact .int i
 |str x=>cases (show v= .str x from r);cases e;exact .str x
 |tup ds=>
  obtain⟨a,vs,e1,hH,_⟩:=(show ∃a vs,v= .ref a/\H a=some (.tup vs)/\RelDs K H ds vs from r);subst e1;cases e;exact .tup hH
 |lst a=>
  obtain⟨e1,vs,hH⟩:=(show v= .ref a/\ ∃vs,H a=some (.lst vs) from r);subst e1;cases e;exact .lst hH
 |dic x i=>
  obtain⟨a,e1,hH⟩:=(show ∃a,v= .ref a/\H a=some (.dK [(Y4 x,V.int i)]) from r);subst e1;cases e;exact .dK hH
 |dct a=>cases e
 |scr ns=>cases e
 |exc C=>cases e
 |fn a=>cases e
def Ex:List String:= ["NoneType","bool","int","str","tuple","list","dict"]
theorem Mu {d:D}{n:String}(e:Gm d=some n):n∈Ex:=by
 cases d<;>cases e<;>decide
def uG (K:PySem.W.Frag):Prop:= ∀n∈Ex,∀T∈ ["tuple","int","bool","list","str"],PySem.W.kitOne K (.type n) (.type T)=some (HV T n)
theorem Ey (K:PySem.W.Frag):uG K:=by
 intro n hn T hT;simp only [Ex,R6,C8,or_false] at hn hT;rcases hn with rfl|rfl|rfl|rfl|rfl|rfl|rfl<;>rcases hT with rfl|rfl|rfl|rfl|rfl<;>with_unfolding_all rfl
theorem Bg {X:Cx}(T:String):CallR X (.builtin "isinstance") (λxs H Q=> ∃x t b,xs= [x,.ty T]/\TyOf X.K H x t/\PySem.W.kitOne X.K t (.type T)=some b/\Q (.bl b) H):=by
 intro pins s σ H xs us Q I r h;obtain⟨x,t,b,rfl,ty,e,q⟩:=h;obtain⟨u,w',rfl,rx,rt⟩:=FQ r;cases (show w'=J3 T from rt);exact NM I rx ty e λtk=>⟨.bl b,H,I.tok tk,rfl,q⟩
def dIs (T:String)(ta:TED):TED:=λσ h Q=>ta σ h λx h1=> ∃n,Gm x=some n/\Q (.bl (HV T n)) h1
theorem uH {X:Cx}{a:Expr}{ta:TED}{T:String}{t:Str}{p p2 pos:Pos}(hT:T∈ ["tuple","int","bool","list","str"])(hg:Gl X "isinstance")(hm:X.mg "isinstance" =none)(hg2:Gl X t)(hm2:X.mg t=none)(hv:bootBuiltins t=some (.type T))(ha:QE X a ta)
 (hn:t≠ "__name__" :=by decide)(hd:(t==("__debug__" :Str))=false:=by decide)
 (h1:starEach [a,.Name t p2] X.env=(false,eval a X.env)::starEach [.Name t p2] X.env:=by rfl)(h2:(backTo pos (starEach [.Name t p2] X.env)).any (·.1)=false:=by rfl):
 QE X (.Call (.Name "isinstance" p) [a,.Name t p2] [] pos) (dIs T ta):=
 (Rg (Bg T) hg hm lJ (Js ha (Js (AF (v:= .ty T) hg2 hm2 hv rfl hn hd) pa_nil (by rfl)) h1) (by decide) (by decide) h1 h2).imp
  λσ H Q ⟨oW,h,Qd,rs,rh,t,p⟩=>LE.bind rs rh t λd v h1 H1 k1 rs1 rh1 r1 ⟨n,e,q⟩=>⟨v,.type n,HV T n,rfl,Lg r1 e,Ey _ n (Mu e) T hT,p (.bl _) _ _ _ k1 rh1 rfl q⟩
theorem Bh (bs:List Bool):(G0 bs.length).all (λi=>bs.getD i false)=bs.all id:=by
 induction bs with
 |nil=>rfl
 |cons b bs ih=>
  rw [R0,E5,bG,A6,bG];show (b&&_)=(b&&bs.all id);rw [<-ih];rfl
theorem Bi (bs:List Bool):(G0 bs.length).any (λi=>bs.getD i false)=bs.any id:=by
 induction bs with
 |nil=>rfl
 |cons b bs ih=>
  rw [R0,E5,gK,aX,gK];show (b||_)=(b||bs.any id);rw [<-ih];rfl
theorem Gn {bs:List Bool}{its:List G3}(r:Vals (bs.map V.bl) its){i:Nat}{v:G3}(e:its[i]? =some v):v= .bool (bs.getD i false):=by
 have hl:=r.length;rw [G2] at hl;have hi:i<its.length:=(P3.mp e).1;have hb:(bs.map V.bl)[i]? =some (.bl bs[i]):=by rw [P1,G1 (by omega)];rfl
 obtain⟨u,e1,r1⟩:=r.get hb;rw [e] at e1;cases e1;rw [P5,G1 (by omega)];exact r1
section
variable {X:Cx}
theorem XN (hc:X.calm=true):CallR X (.builtin "all") (λxs H Q=> ∃ (a:Addr) (bs:List Bool),xs= [.ref a]/\SqL X.K H a (bs.map V.bl)/\Q (.bl (bs.all id)) H):=by
 intro pins s σ H xs us Q I r h;obtain⟨a,bs,rfl,hS,q⟩:=h;obtain⟨u,rfl,ru⟩:=ZD r;cases ru;obtain⟨its,rv,pl,hz⟩:=I.list hS;have hl:=pl.isList;have hlt:a<s.heap.objs.size:=by obtain⟨_,e,_⟩:=hl;exact P9 e
 refine call_all_walk (A1 hl ?_);refine⟨s.heap.objs.size,_,_,_,_,_,λi=>bs.getD i false,rfl,eQ (A:=X.A.in1) (show X.A.in1.handled=none from I.ok.hd hc) s.heap.objs.size a (S0 hlt) its.toArray,⟨⟨_,D7 _ rfl,rfl,rfl⟩,hl.push _⟩,?_,λh' tk hk=> ?_⟩
 ·intro i v s' Q' E' hP hQ;have e:its[i]? =some v:=by simpa using hP
  rw [Gn rv e];exact B8 hQ
 ·have hn:its.toArray.size=bs.length:=by rw [D1,<-rv.length,G2]
  rw [hn,Bh];exact⟨.bl _,H,I.kept (t':=tk) (λb o e=>hk b o (λz=>by rw [G9.mp z] at e;exact absurd (P9 e) (N6 _)) (G7 _ e)),rfl,q⟩
theorem XO (hc:X.calm=true):CallR X (.builtin "any") (λxs H Q=> ∃ (a:Addr) (bs:List Bool),xs= [.ref a]/\SqL X.K H a (bs.map V.bl)/\Q (.bl (bs.any id)) H):=by
 intro pins s σ H xs us Q I r h;obtain⟨a,bs,rfl,hS,q⟩:=h;obtain⟨u,rfl,ru⟩:=ZD r;cases ru;obtain⟨its,rv,pl,hz⟩:=I.list hS;have hl:=pl.isList;have hlt:a<s.heap.objs.size:=by obtain⟨_,e,_⟩:=hl;exact P9 e
 refine call_any_walk (A1 hl ?_);refine⟨s.heap.objs.size,_,_,_,_,_,λi=>bs.getD i false,rfl,eQ (A:=X.A.in1) (show X.A.in1.handled=none from I.ok.hd hc) s.heap.objs.size a (S0 hlt) its.toArray,⟨⟨_,D7 _ rfl,rfl,rfl⟩,hl.push _⟩,?_,λh' tk hk=> ?_⟩
 ·intro i v s' Q' E' hP hQ;have e:its[i]? =some v:=by simpa using hP
  rw [Gn rv e];exact B8 hQ
 ·have hn:its.toArray.size=bs.length:=by rw [D1,<-rv.length,G2]
  rw [hn,Bi];exact⟨.bl _,H,I.kept (t':=tk) (λb o e=>hk b o (λz=>by rw [G9.mp z] at e;exact absurd (P9 e) (N6 _)) (G7 _ e)),rfl,q⟩
theorem ZG {K:PySem.W.Frag}{H:Hp}: ∀ {bs:List Bool} {vs:List V},RelDs K H (bs.map D.bl) vs->vs=bs.map V.bl
 | [],_,h=>h
 |b::bs,vs,h=>by
  obtain⟨v,r,e,h1,h2⟩:=(show ∃v r,vs=v::r/\RelD K H (.bl b) v/\RelDs K H (bs.map D.bl) r from h);rw [e,ZG h2,(show v= .bl b from h1)];rfl
def Lh:RDn:=λds h Q=> ∃ (a:Addr) (bs:List Bool),ds= [.lst a]/\h a=some (bs.map D.bl)/\Q (.bl (bs.all id)) (UN h a)
def HW:RDn:=λds h Q=> ∃ (a:Addr) (bs:List Bool),ds= [.lst a]/\h a=some (bs.map D.bl)/\Q (.bl (bs.any id)) (UN h a)
theorem Ju (hc:X.calm=true):Jl X (.builtin "all") Lh:=(XN hc).imp λxs H Q ⟨ds,h,Qd,r,rh,⟨a,bs,e,hd,q⟩,p⟩=>by
 subst e;obtain⟨v,e,r1⟩:=jD r;obtain⟨vs,hH,r2⟩:=rh a _ hd;have e1:v= .ref a:=r1.1;rw [ZG r2] at hH;subst e e1;exact⟨a,bs,rfl,SqL.of hH,p (.bl _) _ _ _ (.refl H) (rh.sub (Sub.drop h a)) rfl q⟩
theorem Aj (hc:X.calm=true):Jl X (.builtin "any") HW:=(XO hc).imp λxs H Q ⟨ds,h,Qd,r,rh,⟨a,bs,e,hd,q⟩,p⟩=>by
 subst e;obtain⟨v,e,r1⟩:=jD r;obtain⟨vs,hH,r2⟩:=rh a _ hd;have e1:v= .ref a:=r1.1;rw [ZG r2] at hH;subst e e1;exact⟨a,bs,rfl,SqL.of hH,p (.bl _) _ _ _ (.refl H) (rh.sub (Sub.drop h a)) rfl q⟩
end
def xT (to:TED)(te:TED):TED:=λσ h Q=>to σ h λx h1=> ∃a,x= .lst a/\te σ h1 λy h2=> ∃xs,h2 a=some xs/\xs.length<sizeLine/\Q .non (wb h2 a (xs++ [y]))
section
variable {X:Cx}{o e i:Expr}{to te ti:TED}{apos cpos pos:Pos}
theorem jae (ho:QE X o to)(he:QE X e te)(hbase:attributeBase o "append" X.env (eval o X.env)=eval o X.env:=by rfl)
 (hfew:((backTo cpos (starEach [e] X.env)).all (λx=> !x.1)&&(backToKw cpos (keywordEach [] X.env)).all (λx=>x.1.isSome)&&decide ([e].length+([]:List U0).length+(if ([]:List U0).isEmpty then 0 else 1)<30))=true:=by rfl)
 (hline:(apos.endLine==cpos.line)=true:=by rfl)(hs:starEach [e] X.env=(false,eval e X.env)::starEach [] X.env:=by rfl)(hplain:(backTo cpos (starEach [] X.env)).any (·.1)=false:=by rfl):
 QE X (.Call (.Attribute o "append" apos) [e] [] cpos) (xT to te):=
 (AW PySem.F.plainAttrs_list PySem.F.slot_list_append PySem.F.type_list_append NR ho (Js he pa_nil hs) hbase hfew hline hs hplain).imp
  λσ H Q ⟨oW,h,Qd,rs,rh,t,p⟩=>LE.bind rs rh t λd v h1 H1 k1 rs1 rh1 r1 ⟨a,e,q⟩=>by
   subst e;obtain⟨e1,vs,hH⟩:=(show v= .ref a/\ ∃vs,H1 a=some (.lst vs) from r1);subst e1;refine⟨.inl ⟨rfl,vs,SqL.of hH⟩,?_⟩;refine LE.bind rs1 rh1 q λy u h2 H2 k2 rs2 rh2 r2 ⟨xs,hx,hz,q2⟩=> ?_
   obtain⟨ws,hW,r3⟩:=rh2 a xs hx;refine⟨a,ws,u,rfl,rfl,hW,by rw [<-r3.length];exact hz,p .non _ _ _ (k1.trans (k2.trans (.put hW))) (rh2.put hW (r3.append (.cons r2 .nil))) rfl q2⟩
def HX (to ti:TED):TGD:=λd σ h Q=>to σ h λo h1=>ti σ h1 λi h2=> ∃a k xs j,o= .lst a/\i= .int k/\h2 a=some xs/\ixN xs.length k=some j/\Q σ (wb h2 a (xs.set j d))
theorem HY (ho:QE X o to)(hi:QE X i ti)
 (ha: ∀v,assign (.Subscript o i pos) X.env v=(do
  let ov <-holding [v] (eval o X.env)
  let iv <-holding [v,ov] (eval i X.env)
  standAt pos
  holding [v,ov,iv] (setItem ov iv v)
  release [v,ov,iv] []):=by intro _;rfl):QG X (.Subscript o i pos) (HX to ti):=
 (TD ho hi FV ha).imp λv σ H Q ⟨d,oW,h,Qd,r,rs,rh,q,p⟩=>
  LE.bind rs rh q λd1 v1 h1 H1 k1 rs1 rh1 r1 q1=>LE.bind rs1 rh1 q1 λd2 v2 h2 H2 k2 rs2 rh2 r2 ⟨a,k,xs,j,e1,e2,hx,hj,q2⟩=>by
   subst e1 e2;have e3:v1= .ref a:=(r1.mono k2).1;obtain⟨ws,hW,r3⟩:=rh2 a xs hx;refine⟨a,ws,k,j,e3,r2,hW,by rw [<-r3.length];exact hj,p _ _ _ _ (k1.trans (k2.trans (.put hW))) (rs2.mono (.put hW)) (rh2.put hW (RelDs.set ((r.mono k1).mono k2) j r3)) q2⟩
end
def Rl (N:List Str)(sc:List (Str×NameKind))(scope:J6)(js:List Nat):Bool:=
 scope.kind== .function&&scope.names.all (λp=>p.2 != .cell||scope.names.lookup p.1==some .cell)&&scope.names.all (λp=>p.2 != .local||scope.names.lookup p.1==some .local)&&
 scope.names.all (λp=>p.2 != .free||sc.lookup p.1==some .cell||sc.lookup p.1==some .free)&&
 (G0 N.length).all λi=>(scope.names.lookup (N.getD i mY) !=some .local&&scope.names.lookup (N.getD i mY) !=some .cell)||js.contains i
theorem jG {X:Cx}{scope:J6}{js:List Nat}(h:Rl X.N X.env.scope.names scope js=true):BlockOk X scope js:=by
 unfold Rl at h;simp only [M6] at h;obtain⟨⟨⟨⟨h1,h2⟩,h3⟩,h4⟩,h5⟩:=h;refine⟨eq_of_beq h1,λp hp e=> ?_,λp hp e=> ?_,λp hp e=> ?_,λi x e1 e2=> ?_⟩
 ·have:=S1.mp h3 p hp;rw [e] at this;simpa using this
 ·have:=S1.mp h2 p hp;rw [e] at this;simpa using this
 ·have:=S1.mp h4 p hp;rw [e] at this;simpa using this
 ·have hi:i<X.N.length:=(P3.mp e1).1;have:=S1.mp h5 i (G8.mpr hi);rw [P5,e1,Option.getD_some] at this;rcases e2 with e2|e2<;>(rw [e2] at this;simpa using this)
theorem qpt {X:Cx}{e:Expr}{t:TTD}(h:QW X e t):QT X e t:=h.pt
theorem Bj {i:Nat}{js:List Nat}{ti:TID}{te:TED}{σ:SD}{h h1:HD}{Q:KD}{ds:List D}{j:ItD}(f:D->D)(hz:ds.length<=sizeLine)(hj:j h1=some ds)
 (ht: ∀R:ItD->HD->Prop,R j h1->ti σ h R)(he: ∀d∈ds,∀Q':KD,Q' (f d) h1->te ((jI js σ).set i (some d)) h1 Q')(hq: ∀p,h1 p=none->Q (.lst p) (wb h1 p (ds.map f))):vL (bN i) js ti vt te σ h Q:=by
 refine ht _ ⟨ds.length,λk ys h'=>h'=h1/\ys=(ds.take k).map f,⟨rfl,by simp⟩,?_⟩;rintro k ys h' ⟨rfl,rfl⟩;refine⟨by simp only [G2,R7];omega,ds,hj,P0 _,λhl p hp=> ?_,λd hd=>⟨_,rfl,?_⟩⟩
 ·rw [R5 hl];exact hq p hp
 ·unfold vt;dsimp only;rw [if_pos rfl];refine he d (P4 hd) _ ⟨h',Sub.refl _,rfl,?_⟩;rw [T8,hd];simp
end L2
namespace HT
open PySem PySem.Spec PyProof.Rows
section
variable {prog:S3}{w:N2}{A:M7}{E:G3->G6->Prop}{s:G6}
theorem ZH {t sl:Addr}{items:Array G3}{vl vu:G3}{lo hi:Option Int}{Q:G3->G6->Prop}(ht:gH s.heap t items)(hs:s.heap.IsSliceOf sl vl vu .none)(pl:dZ vl lo)(pu:dZ vu hi)
 (hw:sIx items.size 0 lo=0/\sIx items.size items.size hi=items.size)(h:Q (.ref t) s):wpAny (model prog w) A (getItem (.ref t) (.ref sl)) Q E s:=by
 obtain⟨os,hos,hcs,hds⟩:=id hs;have hTs:s.TypeIs (.ref sl) "slice" :=⟨os,hos,hcs⟩;unfold getItem
 try with_reducible refine A2 ?_
 first|refine wpAny_bind (P7 ?_)|skip
 refine wpAny_bind (iD ht.typeIs (by decide) ?_);refine wpAny_bind (A9 (name:=aT "__getitem__") ht.typeIs I0
  (L5 I0 ht.typeIs gD ?_ (gV _ _)))
 show wpAny _ _ (X9 (.ref t) >>= _) _ _ s;refine wpAny_bind (gJ ht ?_);refine wpAny_bind (iF hTs ?_);rw [if_pos (by decide)];refine wpAny_bind (Jb hs pl pu ?_);have hyes:((((sIx items.size 0 lo:Nat):Int)==0&&(1:Int)==1&&(sIx items.size items.size hi-sIx items.size 0 lo)==items.size)=true):=by
  rw [hw.1,hw.2];simp
 show wpAny _ _ (if (((sIx items.size 0 lo:Nat):Int)==0&&(1:Int)==1&&(sIx items.size items.size hi-sIx items.size 0 lo)==items.size)=true then _ else _) _ _ s;rw [if_pos hyes];refine wpAny_bind (m:=cN (.ref t)) ?_;unfold cN;refine wpAny_bind (iF ht.typeIs (P7 ?_));rw [if_pos (by decide)];exact wpAny_bind (bD (P7 ⟨_,rfl,P7 h⟩))
end
end HT
namespace L2
open PySem PySem.Spec PyProof.Rows
def jaf (K:PySem.W.Frag):V->Option Int->Option Int->Hp->VK->Prop:=λx lo hi H Q=> ∃a xs,x= .ref a/\SqT K H a xs/\(HT.sIx xs.length 0 lo=0/\HT.sIx xs.length xs.length hi=xs.length)/\Q (.ref a) H
variable {X:Cx}
theorem sl_whole:SlR X (jaf X.K):=by
 intro pins s σ H x v vl vu lo hi sl Q I rx hs pl pu h;obtain⟨a,xs,rfl,hx,hw,q⟩:=h;cases rx;obtain⟨its,r,ht,hz⟩:=I.tuple hx;have hlen:its.toArray.size=xs.length:=by rw [D1];exact r.length.symm
 refine⟨"tuple",_,PyProof.Rows.slot_tuple_getitem.lookup,ht.typeIs,?_⟩;exact HT.ZH ht hs pl pu (by rw [hlen];exact hw) ⟨.ref a,H,I,rfl,q⟩
def UI {α:Type}(xs:List α)(lo hi:Option Int):List α:=(xs.drop (HT.sIx xs.length 0 lo)).take (HT.sIx xs.length xs.length hi-HT.sIx xs.length 0 lo)
abbrev TOD:=SD->HD->(Option Int->HD->Prop)->Prop
def Bk:TOD:=λ_ h Q=>Q none h
def HZ (t:TED):TOD:=λσ h Q=>t σ h λx h1=> ∃i,x= .int i/\Q (some i) h1
def LO (K:PySem.W.Frag)(t:TOD):TO:=λσ H Q=> ∃oW h Qd,RelS K H oW σ/\RelH K h H/\t oW h Qd/\ ∀o h' H',Kept H H'->RelH K h' H'->Qd o h'->Q o H'
theorem LO.bind {K:PySem.W.Frag}{ta:TOD}{σ:St}{H:Hp}{oW:SD}{h:HD}{kd:Option Int->HD->Prop}{k:Option Int->Hp->Prop}(rs:RelS K H oW σ)(rh:RelH K h H)(t:ta oW h kd)(f: ∀o h' H',Kept H H'->RelS K H' oW σ->RelH K h' H'->kd o h'->k o H'):LO K ta σ H k:=
 ⟨oW,h,kd,rs,rh,t,λo h' H' kp r1 q=>f o h' H' kp (rs.mono kp) r1 q⟩
theorem PO.imp {e:Option Expr}{t t':TO}(h:PO X e t)(i: ∀σ H Q,t' σ H Q->t σ H Q):PO X e t':=λpins s σ H Q I q=>h pins s σ H Q I (i σ H Q q)
abbrev QO (X:Cx)(e:Option Expr)(t:TOD):Prop:=PO X e (LO X.K t)
theorem Ez:QO X none Bk:=po_none.imp λσ H Q ⟨oW,h,Qd,rs,rh,q,p⟩=>p none h H (.refl H) rh q
theorem EA {e:Expr}{te:TED}(he:QE X e te):QO X (some e) (HZ te):=(AU he).imp λσ H Q ⟨oW,h,Qd,rs,rh,q,p⟩=>
 LE.bind rs rh q λd v h1 H1 k1 rs1 rh1 r1 ⟨i,e,q1⟩=>by subst e;exact⟨i,r1,p _ _ _ k1 rh1 q1⟩
def slD:D->Option Int->Option Int->HD->KD->Prop:=λx lo hi h Q=>match x with
 | .tup ds=>Q (.tup (UI ds lo hi)) h
 | .scr ns=> ∀p,h p=none->Q (.lst p) (wb h p ((UI ns lo hi).map D.int))
 | .lst a=> ∃ds,h a=some ds/\ ∀p,h p=none->Q (.lst p) (wb h p (UI ds lo hi))
 |_=>False
def dSl (te:TED)(tl th:TOD):TED:=λσ h Q=>te σ h λx h1=>tl σ h1 λl h2=>th σ h2 λu h3=>slD x l u h3 Q
theorem XQ {K:PySem.W.Frag}{H:Hp}{ds:List D}{vs:List V}(r:RelDs K H ds vs)(lo hi:Option Int):RelDs K H (UI ds lo hi) (FB vs lo hi):=by
 unfold UI FB;rw [r.length];exact(r.drop _).take _
theorem EB {α β:Type}(f:α->β)(xs:List α)(lo hi:Option Int):UI (xs.map f) lo hi=(UI xs lo hi).map f:=by
 unfold UI;rw [G2,gL,gM]
theorem Ka {e:Expr}{te:TED}{lo hi:Option Expr}{tl th:TOD}{pos p2:Pos}(he:QE X e te)(hl:QO X lo tl)(hu:QO X hi th):QE X (.Subscript e (.Slice lo hi none p2) pos) (dSl te tl th):=
 (FU (sl_tup.or (sl_whole.or AV)) he hl hu).imp λσ H Q ⟨oW,h,Qd,rs,rh,q,p⟩=>
  LE.bind rs rh q λd v h1 H1 k1 rs1 rh1 r1 q1=>LO.bind rs1 rh1 q1 λl h2 H2 k2 rs2 rh2 q2=>LO.bind rs2 rh2 q2 λu h3 H3 k3 rs3 rh3 q3=>by
   have rv:=(r1.mono k2).mono k3;have kk:=k1.trans (k2.trans k3);cases d<;>first
    |exact False.elim q3
    |skip
   ·rename_i ds;obtain⟨a,vs,e1,hH,r⟩:=(show ∃a vs,v= .ref a/\H3 a=some (.tup vs)/\RelDs X.K H3 ds vs from rv)
    by_cases hw:HT.sIx vs.length 0 l=0/\HT.sIx vs.length vs.length u=vs.length
    ·refine .inr (.inl ⟨a,vs,e1,SqT.of hH,hw,p (.tup (UI ds l u)) _ _ _ kk rh3 ⟨a,vs,rfl,hH,?_⟩ q3⟩);have z:=XQ r l u;have e:FB vs l u=vs:=by unfold FB;rw [hw.1,hw.2];simp
     rwa [e] at z
    ·exact .inl ⟨a,vs,e1,SqT.of hH,hw,λc hc=>p (.tup (UI ds l u)) _ _ _ (kk.trans (.new hc)) (rh3.new hc) ⟨c,_,rfl,jy,(XQ r l u).mono (.new hc)⟩ q3⟩
   ·rename_i a;obtain⟨ds,hd,q3⟩:=q3;obtain⟨vs,hH,r⟩:=rh3 a ds hd;exact .inr (.inr ⟨a,vs,rv.1,SqL.of hH,λc hc=>p (.lst c) _ _ _ (kk.trans (.new hc)) (rh3.newL hc (XQ r l u)) ⟨rfl,_,jy⟩ (q3 c (rh3.free hc))⟩)
   ·rename_i ns;obtain⟨a,e1,hS⟩:=(show ∃a,v= .ref a/\Scr X.K H3 a ns from rv);refine .inr (.inr ⟨a,_,e1,hS.sq,λc hc=>p (.lst c) _ _ _ (kk.trans (.new hc)) (rh3.newL hc ?_) ⟨rfl,_,jy⟩ (q3 c (rh3.free hc))⟩);have z:=XQ (vx (K:=X.K) (H:=H3) ns) l u
    rwa [EB] at z
end L2
namespace HT
open PySem PySem.Spec PyProof.Rows
open Sem (wp)
open Builtin
theorem YS:fillsNumberSlot (.type "tuple") "mul" =pure false:=
 PySem.fillsNumberSlot_seq (id:= "tuple.__mul__") (r:=some (.builtin "tuple.__rmul__")) F.slot_tuple_mul.lookup (by decide +kernel) F.slot_tuple_rmul.lookup (by decide +kernel)
theorem Go:seqRepeat? (.type "tuple")=pure (some (.builtin "tuple.__mul__")):=by
 unfold seqRepeat?;rw [PySem.seqSlot_of (T:= "tuple") (name:= "__mul__") (id:= "tuple.__mul__") F.slot_tuple_mul.lookup (by decide +kernel),PySem.seqSlot_of (T:= "tuple") (name:= "__rmul__") (id:= "tuple.__rmul__") F.slot_tuple_rmul.lookup (by decide +kernel)];rfl
section
variable {prog:S3}{w:N2}{A:M7}{E:G3->G6->Prop}{s:G6}
theorem XR {k:Int}{t:Tok}{l:Addr}{o:Obj}{its:Array G3}{n:Nat}{P:PySem.Fin->G6->Prop}(at_:s.heap.get? l=some o)(tup:o.cls= .type "tuple")(dat:o.data= .seq its n)(h:P (.done (.ret .notImplemented)) s):wpAny (model prog w) A (Builtin.«int.__rmul__» ⟨[.int k t,.ref l],[]⟩) P E s:=by
 obtain⟨c,dd,dt,sl⟩:=o;cases tup;cases dat;obtain⟨hp,g,d,tk,os⟩:=s
 wp_walk
 exact h
theorem PM {l:Addr}{its:Array G3}{n:Nat}{x:Int}{u:Tok}{dd:Option Addr}{sl:Array (Option G3)}{P:PySem.Fin->G6->Prop}(at_:s.heap.get? l=some {cls:= .type "tuple",dict:=dd,data:= .seq its n,slots:=sl})(fits: -(2^63)<=x/\x<2^63)
 (same:(its.isEmpty||x==1)=true->P (.done (.ret (.ref l))) s)
 (gone:(its.isEmpty||x==1)=false->(decide (x<=0)||its.isEmpty)=true->P (.done (.ret (.ref s.heap.objs.size))) {s with heap:=s.heap.push {cls:= .type "tuple",data:= .seq #[]}})
 (more:(its.isEmpty||x==1)=false->(decide (x<=0)||its.isEmpty)=false-> ¬ (its.size:Int)*x>(2^63-1) / 8/\cO ((its.size:Int)*x)=false/\((S4 x.toNat its).foldl (· ++ ·) #[]).size<=sizeLine/\
  P (.done (.ret (.ref s.heap.objs.size))) {s with heap:=s.heap.push {cls:= .type "tuple",data:= .seq ((S4 x.toNat its).foldl (· ++ ·) #[])}}):
 wpAny (model prog w) A (Builtin.«tuple.__mul__» ⟨[.ref l,.int x u],[]⟩) P E s:=by
 obtain⟨hp,g,d,tk,os⟩:=s
 wp_walk
 rw [if_neg (by simp only [aE,decide_eq_true_eq];omega)]
 wp_walk
 cases c1:(its.isEmpty||x==1) with
 |true=>
  rw [if_pos rfl]
  wp_walk
  exact same c1
 |false=>
  rw [if_neg D2];cases c2:(decide (x<=0)||its.isEmpty) with
  |true=>
   rw [if_pos rfl]
   wp_walk
   exact gone c1 c2
  |false=>
   obtain⟨m1,m2,m3,m4⟩:=more c1 c2;rw [if_neg D2];dsimp only;rw [if_neg m1,m2,if_neg D2]
   wp_walk
   exact m4
end
end HT
namespace L2
open PySem PySem.Spec PyProof.Rows
def uI (K:PySem.W.Frag):R2:=λx y H Q=> ∃ (a:Addr) (k:Int) (xs:List V),x= .ref a/\y= .int k/\SqT K H a xs/\ -(2^63)<=k/\k<2^63/\xs.length*k.toNat<=sizeLine/\
 ((xs= []\/k=1)->Q (.ref a) H)/\(¬ (xs= []\/k=1)-> ∀p,H p=none->Q (.ref p) (upd H p (.tup (S4 k.toNat xs).flatten)))
theorem Vh {l:List G3}:l.toArray= #[]↔l= []:=by cases l<;>simp
variable {X:Cx}
theorem EC:OpR X (binaryOp .Mult) (uI X.K):=by
 intro pins s σ H x y v u Q I rx ry h;obtain⟨a,k,xs,rfl,rfl,hH,h1,h2,hz,q1,q2⟩:=h;cases rx;obtain⟨t,rfl⟩:=ry;obtain⟨its,r,ht,_⟩:=I.tuple hH;obtain⟨⟨cls,dd,data,sl⟩,ho,hc,n,hd⟩:=id ht;simp only at hc hd;subst hc hd;have hl:=r.length;have hnew:(S4 k.toNat its.toArray).foldl (· ++ ·) #[]=(S4 k.toNat its).flatten.toArray:=by
  have:=Vq its k.toNat [];rw [C7] at this;exact this
 have few:its.length*k.toNat<=sizeLine:=by rw [<-hl];exact hz
 have free:=I.hok.fresh (P0 _);refine cV (T:= "tuple") (U:= "int") (by decide) ⟨_,ho,rfl⟩ (λs'=>eJ s' k t) HT.YS lG bP HT.Go F.slot_int_index.lookup
  (L5 bP (eJ s k t) i7 (HT.XR ho rfl rfl ⟨_,rfl,rfl,⟨_,ho,rfl⟩,L5 F.slot_tuple_mul ⟨_,ho,rfl⟩ F.entry_tuple_mul (HT.PM ho ⟨h1,h2⟩ (λc=> ?_) (λc c0=> ?_) (λc c0=> ?_)) (F.args_tuple_mul_2 _ _)⟩) (iH _ _))
 ·refine⟨_,rfl,.ref a,H,I,rfl,q1 ?_⟩;simp only [aE,beq_iff_eq,iI,Vh] at c;exact c.imp (λe=>r.nil_iff.mp e) id
 ·simp only [fP,beq_eq_false_iff_ne,cP,ne_eq,Vh] at c;have k0:k.toNat=0:=by
   simp only [aE,decide_eq_true_eq,iI,Vh] at c0;have:=c0.resolve_right c.1;omega
  have last:=q2 (λz=>z.elim (λe=>c.1 (r.nil_iff.mpr e)) c.2) _ free;rw [k0] at last;exact⟨_,rfl,.ref s.heap.objs.size,_,I.laid (t':=s.toks) (o:= .tup []) (λb ob q=>G7 _ q) (P0 _) ⟨by decide,[],.nil,IsTupN.new _ _⟩,rfl,last⟩
 ·simp only [fP,beq_eq_false_iff_ne,cP,ne_eq,Vh,decide_eq_false_iff_not] at c c0;have em:((its.toArray.size:Nat):Int)*k=((its.length*k.toNat:Nat):Int):=by rw [lK,D1,show ((k.toNat:Nat):Int)=k by omega]
  have cap:(sizeLine:Nat)<=(2^63-1) / 8:=by decide
  rw [em,hnew];refine⟨by omega,by unfold cO;exact decide_eq_false (by omega),by rw [D1,PJ,aU];exact few,_,rfl,.ref s.heap.objs.size,_,I.laid (t':=s.toks) (o:= .tup (S4 k.toNat xs).flatten) (λb ob q=>G7 _ q) (P0 _) ⟨by rw [PJ,aU];exact hz,_,r.rep k.toNat,IsTupN.new _ _⟩,rfl,q2 (λz=>z.elim (λe=>c.1 (r.nil_iff.mpr e)) c.2) _ free⟩
def xU:RD2:=λx y h Q=>match x,y with
 | .tup ds,.int k=> -(2^63)<=k/\k<2^63/\ds.length*k.toNat<=sizeLine/\Q (.tup (S4 k.toNat ds).flatten) h
 |x,y=>xR x y h Q
theorem WP:OpQ X (binaryOp .Mult) xU:=(oq_mul.or EC).imp λx y H Q ⟨dx,dy,h,Qd,rx,ry,rh,q,p⟩=>by
 by_cases ht: ∃ds k,dx= .tup ds/\dy= .int k
 ·obtain⟨ds,k,e1,e2⟩:=ht;subst e1 e2;obtain⟨b1,b2,hz,q⟩:=q;obtain⟨a,vs,e,hH,r⟩:=(show ∃a vs,x= .ref a/\H a=some (.tup vs)/\RelDs X.K H ds vs from rx);refine .inr ⟨a,k,vs,e,ry,SqT.of hH,b1,b2,by rw [<-r.length];exact hz,λhs=> ?_,λ_ c hc=>p (.tup _) _ _ _ (.new hc) (rh.new hc) ⟨c,_,rfl,jy,(r.flat _).mono (.new hc)⟩ q⟩;refine p (.tup _) _ _ _ (.refl H) rh ⟨a,vs,rfl,hH,?_⟩ q;rcases hs with e0|e1
  ·subst e0;have:ds= []:=W0.mp r.length;subst this;simpa using r
  ·subst e1;simpa using r
 ·refine .inl ⟨dx,dy,h,Qd,rx,ry,rh,?_,p⟩;unfold xU at q;split at q
  ·exact absurd ⟨_,_,rfl,rfl⟩ ht
  ·exact q
def xV:D->HD->KD->Prop:=λx h Q=>match x with
 | .int i=>Q (.int (-i)) h
 |_=>False
def dUn (f:D->HD->KD->Prop)(ta:TED):TED:=λσ h Q=>ta σ h λx h1=>f x h1 Q
theorem jag {a:Expr}{ta:TED}{pos:Pos}(ha:QE X a ta):QE X (.UnaryOp .USub a pos) (dUn xV ta):=
 (kL TX ha).imp λσ H Q ⟨oW,h,Qd,rs,rh,t,p⟩=>LE.bind rs rh t λd v h1 H1 k1 rs1 rh1 r1 q=>by
  cases d<;>first
   |exact False.elim q
   |exact⟨_,r1,p (.int _) _ _ _ k1 rh1 rfl q⟩
def Kb (K:PySem.W.Frag)(tl:TE):TI:=λσ H R=>tl σ H λx H1=> ∃a,x= .ref a/\((∃xs,SqL K H1 a xs/\R (Itl K a) H1)\/ ∃xs,SqT K H1 a xs/\R (Itt K a) H1)
theorem Kc {tg l:Expr}{tl:TE}(hl:PE X l tl):PI X tg l (Kb X.K tl):=by
 intro pins s σ H R I h;refine thn (hl pins s σ H _ I h) λv s1 ⟨x,H1,I1,r1,q1⟩=> ?_
 obtain⟨a,e,q⟩:=q1;subst e;cases r1;rcases q with ⟨xs,hq,q⟩|⟨xs,hq,q⟩
 ·obtain⟨its,rv,p,hz⟩:=I1.list hq;refine A1 p.isList ?_;refine⟨s1.heap.objs.size,[s1.heap.objs.size],_,_,H1,rfl,I1.kept (t':=s1.toks) λb o e=>G7 _ e,Ga a _,⟨_,D7 _ rfl,rfl,rfl⟩,λb hb=> ?_,q⟩;have e:b=s1.heap.objs.size:=by simpa using hb
  subst e;exact I1.fpOk (P0 _) (I1.hok.fresh (P0 _))
 ·obtain⟨its,rv,p,hz⟩:=I1.tuple hq;refine J5 (show s1.heap.IsTuple a its.toArray from p) ?_;refine⟨s1.heap.objs.size,[s1.heap.objs.size],_,_,H1,rfl,I1.kept (t':=s1.toks) λb o e=>G7 _ e,Mi a _,⟨_,D7 _ rfl,rfl,rfl⟩,λb hb=> ?_,q⟩;have e:b=s1.heap.objs.size:=by simpa using hb
  subst e;exact I1.fpOk (P0 _) (I1.hok.fresh (P0 _))
def iS (te:TED):TID:=λσ h R=>te σ h λx h1=>match x with
 | .lst a=>R (λh=>h a) h1
 | .tup ds=>R (λ_=>some ds) h1
 | .scr ns=>R (λ_=>some (ns.map D.int)) h1
 |_=>False
variable {K:PySem.W.Frag}
theorem Li {H:Hp}{a:Addr}{ns:List Int}(hs:Scr K H a ns):FE K H (λ_=>some (ns.map D.int)) (Itl K a):=λH' h' k rh ds' e i=>by
 cases e;have hs':Scr K H' a ns:=hs.elim (λ⟨o,z⟩=> .inl ⟨o,k.frz _ _ _ z⟩) .inr;refine⟨λd hd=> ?_,λhl=>⟨_,hs'.sq,by simpa using hl⟩⟩;obtain⟨v,e1,e2⟩:=(vx (K:=K) (H:=H') ns).get hd;refine⟨⟨_,v,hs'.sq,e1⟩,λx H'' ⟨eH,hx⟩=> ?_⟩;subst eH;have:=hx _ hs'.sq;rw [e1] at this;cases this;exact⟨.refl _,rh,e2⟩
variable {te:TED}
theorem Kd: ∀σ H R,LI K (iS te) σ H R->Kb K (LE K te) σ H R:=λσ H R ⟨oW,h,Rd,rs,rh,q,p⟩=>
 LE.bind rs rh q λd v h1 H1 k1 rs1 rh1 r1 q1=>by
  cases d<;>first
   |exact False.elim q1
   |skip
  ·rename_i ds;obtain⟨a,vs,e,hv,r⟩:=(show ∃a vs,v= .ref a/\H1 a=some (.tup vs)/\RelDs K H1 ds vs from r1);exact⟨a,e,.inr ⟨vs,SqT.of hv,p _ _ _ _ k1 rh1 (Lc hv r) q1⟩⟩
  ·rename_i a;obtain⟨e,vs,hv⟩:=(show v= .ref a/\ ∃vs,H1 a=some (.lst vs) from r1);exact⟨a,e,.inl ⟨vs,SqL.of hv,p _ _ _ _ k1 rh1 (Gk H1 a) q1⟩⟩
  ·rename_i ns;obtain⟨a,e,hS⟩:=(show ∃a,v= .ref a/\Scr K H1 a ns from r1);exact⟨a,e,.inl ⟨_,hS.sq,p _ _ _ _ k1 rh1 (Li hS) q1⟩⟩
theorem Ke {tg e:Expr}(he:QE X e te):QI X tg e (iS te):=(Kc he).imp Kd
def Ak:TSD:=λ_ _ _=>False
theorem Kf {st:Stmt}:QS X st Ak:=λ_ _ _ _ _ _ ⟨_,_,_,_,_,z,_⟩=>z.elim
structure Zs (mg:Str->Option G3):Prop where
 len:mg "len" =none
 max:mg "max" =none
 min:mg "min" =none
 divmod:mg "divmod" =none
 all:mg "all" =none
 any:mg "any" =none
 repr:mg "repr" =none
 sum:mg "sum" =none
 sorted:mg "sorted" =none
 int:mg "int" =none
 tuple:mg "tuple" =none
 list:mg "list" =none
 set:mg "set" =none
 bool:mg "bool" =none
 isinstance:mg "isinstance" =none
 range:mg "range" =none
 zip:mg "zip" =none
 enumerate:mg "enumerate" =none
 reversed:mg "reversed" =none
def jg (P:S3)(w:N2)(K:PySem.W.Frag)(mg:Str->Option G3)(base:Heap)(n:Nat)(x:Str)(ps:List Str)(sp:RDn):Prop:=
 ∃ (g:Addr) (gd:D8),FnOk P w K mg base CX0 n g gd ps (LSp K sp)/\Binds K gd ps []/\PySem.W.keepIn K (.ref g)=true/\mg x=some (.ref g)
def Bl:RDn:=λds h Q=> ∃ns,ds= [.scr ns]/\(∀a,h a=none)/\ns.length<=63/\ ∀h',Q (.bl true) h'
def Bm (mg:Str->Option G3)(base:Heap):Prop:= ∃bm ob,mg "__builtins__" =some (.ref bm)/\bm≠builtinsNs/\base.get? bm=some ob/\ob.cls= .type "module" /\ob.dict=some builtinsNs/\ob.data= .plain
def yV (K:PySem.W.Frag):List (Addr×Addr):=LN.filterMap (PySem.W.tabIn K)
theorem TabK.mem {P:Addr}(h:TabK K P): ∃c,(c,P)∈yV K:=let ⟨x,hx,c,e⟩:=h;⟨c,aH.mpr ⟨x,hx,e⟩⟩
theorem Bn {P:S3}{w:N2}{mg mb:Str->Option G3}{k:Nat}{fa a:Addr}{fd:D8}{x:Str}{oX:G6}{vs:List G3}{ns:List Int}
 (KX:K.In oX.heap)(hns:oX.heap.Ns mainGlobals mg)(hb:oX.heap.Ns builtinsNs mb)(hbb: ∀x:Str,x≠ "__name__" ->mb x=bootBuiltins x)(hlim:oX.heap.NoLimit)(hg:oX.gens= #[])
 (ha:oX.heap.get? a=some {cls:= .type "list",data:= .seq vs.toArray})(hi:A5 vs ns)(hl:ns.length<=63)(hr:Room k callerA)
 (hbm:Bm mg oX.heap)(F: ∀base:Heap,K.In base->base.Ns mainGlobals mg->Bm mg base->FnOk P w K mg base CX0 k fa fd [x] (LSp K Bl))(hbind: ∀ (s:G6) (u:G3),l7 s fd ⟨[u],[]⟩ [(x,u)])
 (hT: ∀p∈yV K,PySem.W.CodeHd oX.heap p.1 p.2/\oX.heap.get? p.2=some (PySem.W.tabObj #[])/\K.lookup p.2=none):
 codeAny (model P w) callerA (.call (.ref fa) ⟨[.ref a],[]⟩) (λr s'=>r= .ok (.ret (.bool true))/\OldK oX.heap s'.heap/\s'.os=oX.os/\c9 s'.gens) oX:=by
 have rv:=Gi hi;have lenV:=hi.length;have hz:ns.length<=sizeLine:=R9 hl (by decide);have hT': ∀b,b∈(yV K).map (·.2)-> ∃c,PySem.W.CodeHd oX.heap c b/\oX.heap.get? b=some (PySem.W.tabObj #[])/\K.lookup b=none:=λb hb=>by
  obtain⟨p,hp,rfl⟩:=D6.mp hb;exact⟨p.1,hT p hp⟩
 have core: ∀H:Hp,Scr K H a ns->HOk P w H oX.heap->(∀b u,H b=some u->(b=a/\K.lookup a=none/\ ∃o xs,u= .frz o (.lst xs))\/(b∈(yV K).map (·.2)/\u= .tbl #[]))->(∀b,b∈(yV K).map (·.2)->H b=some (.tbl #[]))->
  codeAny (model P w) callerA (.call (.ref fa) ⟨[.ref a],[]⟩) (λr s'=>r= .ok (.ret (.bool true))/\OldK oX.heap s'.heap/\s'.os=oX.os/\c9 s'.gens) oX:=by
  intro H hS hok hA hTt;have noA: ∀ {b:Addr} {o:Obj} {es:Array DictEntry} {ep:Nat},oX.heap.get? b=some o->o.data= .dict es ep->H b=none:=λ{b o es ep} e d=>by
   cases q:H b with
   |none=>rfl
   |some u=>
    rcases hA b u q with ⟨rfl,_,_⟩|⟨z,_⟩
    ·rw [ha] at e;cases e;have d':Data.seq vs.toArray _=Data.dict es ep:=d;cases d'
    ·obtain⟨c,_,e2,_⟩:=hT' b z;rw [e2] at e;cases e;have d':Data.fields _=Data.dict es ep:=d;cases d'
  have nsK: ∀ {b:Addr} {m:Str->Option G3},oX.heap.Ns b m->(FI oX.heap H).Ns b m:=λ{b m} ⟨o,es,ep,e,d,r⟩=>⟨o,es,ep,XD e (noA e d),d,r⟩
  have hKb:K.In (FI oX.heap H):=λb o e=>XD (KX b o e) (by
   cases q:H b with
   |none=>rfl
   |some u=>
    rcases hA b u q with ⟨rfl,z,_⟩|⟨z,_⟩
    ·rw [z] at e;cases e
    ·obtain⟨c,_,_,z2⟩:=hT' b z;rw [z2] at e;cases e)
  have hM:Mod K mg (FI oX.heap H):=⟨hKb,nsK hns,⟨mb,nsK hb,hbb⟩,let ⟨mc,h1,h2⟩:=hlim;⟨mc,nsK h1,h2⟩⟩;have e0:Env0 P w K mg (FI oX.heap H) callerA [] oX H:=⟨rfl,hM,λb o e=>AC e,K4 (NC _ _),trivial,λb hb=>absurd (show b∈([]:List Addr) from hb) (by simp),hok,.of_eq hg⟩;have hsp:LSp K Bl [.ref a] H (λv _=>v= .bl true) (λ_ _ _=>False):=by
   refine⟨[.scr ns],⟨λ_=>none,λ_=>none⟩,λd _=>d= .bl true,⟨.ref a,[],rfl,⟨a,rfl,hS⟩,rfl⟩,⟨λb ds e=>(by cases e),λp hp=> ?_,λb c e=>(by cases e)⟩,⟨ns,rfl,λ_=>rfl,hl,λ_=>rfl⟩,?_⟩
   ·obtain⟨c,hc⟩:=hp.mem;exact⟨#[],hTt p (bX (f:=(·.2)) hc),trivial,λpos cv e=>(by cases e)⟩
   ·intro d v h' H' _ _ r e;subst e;exact r
  have hBm:Bm mg (FI oX.heap H):=by
   obtain⟨bm,ob,b1,b2,b3,b4,r⟩:=hbm;refine⟨bm,ob,b1,b2,XD b3 ?_,b4,r⟩;cases q:H bm with
   |none=>rfl
   |some u=>
    rcases hA bm u q with ⟨rfl,_,_⟩|⟨z,_⟩
    ·rw [ha] at b3;cases b3;exact absurd (Value.type.inj b4) (by decide)
    ·obtain⟨c,_,e2,_⟩:=hT' bm z;rw [e2] at b3;cases b3;cases b4
  refine iB ((F _ hKb (nsK hns) hBm).run callerA [] oX H ⟨[.ref a],[]⟩ [.ref a] [.ref a] _ _ hr e0 (hbind oX (.ref a)) (.cons rfl .nil) hsp) λr s' h=> ?_
  cases r with
  |error e=>exact False.elim h
  |ok fl=>
   cases fl with
   |next=>exact False.elim h
   |brk=>exact False.elim h
   |cont=>exact False.elim h
   |ret u=>
    obtain⟨v,H',os,bare,un,hok',r',q⟩:=h;have q':v= .bl true:=q;subst q';obtain rfl:u=V3 true:=r';have one: ∀b o,oX.heap.get? b=some o->s'.heap.get? b=some o\/(b∈(yV K).map (·.2)/\ ∃more,s'.heap.get? b=some (PySem.W.tabObj more)):=λb o e=>by
     cases q:H b with
     |none=>exact .inl (un.keep b o e q (by intro z;exact absurd (show b∈([]:List Addr) from z) (by simp)) (by simp))
     |some u=>
      rcases hA b u q with ⟨rfl,_,ob,xs,rfl⟩|⟨z,rfl⟩
      ·have z2:=un.frzs _ ob _ q;obtain⟨e1,_⟩:=hok _ _ q;obtain⟨e2,_⟩:=hok' _ _ z2;rw [e] at e1;cases e1;exact .inl e2
      ·obtain⟨more,z2⟩:=un.tbls b _ q;exact .inr ⟨z,_,(show s'.heap.get? b=some _ from hok' b _ z2)⟩
    refine⟨rfl,⟨λb o e=> ?_,λb o e=> ?_⟩,os,bare⟩
    ·rcases one b o e with z|⟨z,more,z2⟩
     ·exact .inl z
     ·obtain⟨c,hc,e2,_⟩:=hT' b z;rw [e] at e2;cases e2;refine .inr (.inl ⟨(hc.tab e).isCodeTable,rfl,#[],more,rfl,?_⟩);rw [z2];simp
    ·rcases one b o e with z|⟨z,more,z2⟩
     ·exact⟨_,z⟩
     ·exact⟨_,z2⟩
 have nT:a ∉ (yV K).map (·.2):=λz=>by
  obtain⟨c,_,e2,_⟩:=hT' a z;rw [ha] at e2;cases e2
 have okT: ∀ {H:Hp} (b:Addr),b∈(yV K).map (·.2)->ObjOk P w H oX.heap b (.tbl #[]):=λb hb=>let ⟨_,_,e,_⟩:=hT' b hb;e
 cases hk:K.lookup a with
 |some o=>
  have e:=KX a o hk;rw [ha] at e;cases e;refine core (λb=>if b∈(yV K).map (·.2) then some (.tbl #[]) else none) (.inr ⟨_,vs.toArray,_,hk,rfl,rfl,rfl,by rw [D1,lenV];exact hz,by simpa using rv⟩) (λb u z=> ?_) (λb u z=> ?_) λb hb=>if_pos hb
  ·by_cases hb:b∈(yV K).map (·.2)
   ·have z':=(if_pos hb).symm.trans z;cases z';exact okT b hb
   ·have z':=(if_neg hb).symm.trans z;cases z'
  ·by_cases hb:b∈(yV K).map (·.2)
   ·have z':=(if_pos hb).symm.trans z;cases z';exact .inr ⟨hb,rfl⟩
   ·have z':=(if_neg hb).symm.trans z;cases z'
 |none=>
  refine core (λb=>if b=a then some (.frz {cls:= .type "list",data:= .seq vs.toArray} (.lst (ns.map V.int))) else if b∈(yV K).map (·.2) then some (.tbl #[]) else none) (.inl ⟨{cls:= .type "list",data:= .seq vs.toArray},if_pos rfl⟩) (λb u z=> ?_) (λb u z=> ?_) λb hb=> ?_
  ·by_cases hb:b=a
   ·have z':=(if_pos hb).symm.trans z;cases z';subst hb;exact⟨ha,by rw [G2];exact hz,vs,_,rv,ha⟩
   ·have z':=(if_neg hb).symm.trans z
    by_cases hb2:b∈(yV K).map (·.2)
    ·have z2:=(if_pos hb2).symm.trans z';cases z2;exact okT b hb2
    ·have z2:=(if_neg hb2).symm.trans z';cases z2
  ·by_cases hb:b=a
   ·have z':=(if_pos hb).symm.trans z;cases z';exact .inl ⟨hb,hk,_,_,rfl⟩
   ·have z':=(if_neg hb).symm.trans z
    by_cases hb2:b∈(yV K).map (·.2)
    ·have z2:=(if_pos hb2).symm.trans z';cases z2;exact .inr ⟨hb2,rfl⟩
    ·have z2:=(if_neg hb2).symm.trans z';cases z2
  ·have:b≠a:=λz=>nT (z ▸ hb)
   show (if b=a then _ else _)=_;rw [if_neg this,if_pos hb]
def uJ (q:S3)(K:PySem.W.Frag):Bool:=LN.all λx=>match PySem.W.tabIn K x with
 |some p=>(K.lookup p.2).isNone&&((oC q).find? (λe=>e.name==x)).isSome
 |none=>true
theorem Lj {l:PySem.W.OpenLaw}{k:Nat}{q:S3}{loose:List Str}{XP:(Str->Option G3)->Heap->Prop}{YP:N2->Heap->Prop}{d:DefRec}{K:oQ->PySem.W.Frag}{x:Str}(hn:l.most=some 63)(hdf:d.params.defaults= [])(hr:Room k callerA)
 (hY: ∀ (w:N2) (h:Heap),YP w h->(K w.params).In h)(hB: ∀w:N2,uJ q (K w.params)=true)
 (F: ∀ (w:N2) (mg:Str->Option G3) (fa:Addr) (h:Heap),(K w.params).In h->h.Ns mainGlobals mg->mg d.name=some (.ref fa)->
  ∃fd:D8,(∀ (s:G6) (u:G3),l7 s fd ⟨[u],[]⟩ [(x,u)])/\ ∀base:Heap,(K w.params).In base->base.Ns mainGlobals mg->Bm mg base->FnOk l.prog w (K w.params) mg base CX0 k fa fd [x] (LSp (K w.params) Bl)):
 PySem.W.WalkO q loose XP YP l.row.toRowW d [] (λf vs=>PySem.call f vs):=by
 refine Att.attach_call hn hdf λw s₀ oX mg mb fa o pm cd doc a vs ns G Y ho hd hcd hmg hobj hints hlen hg=> ?_
 have KX:=hY w _ Y;obtain⟨fd,hb,hF⟩:=F w mg fa _ KX G.T.g hmg;refine Bn KX G.T.g G.T.b G.T.builtins G.T.nolimit hg hobj hints hlen hr G.T.bmain hF hb λp hp=> ?_
 obtain⟨x,hx,e⟩:=aH.mp hp;have z:=S1.mp (hB w) x hx;rw [e] at z;simp only [M6,Option.isNone_iff_eq_none] at z;obtain⟨dd,hdd⟩:=Option.isSome_iff_exists.mp z.2;have t:=PySem.W.tab_of (c:=p.1) (P:=p.2) G.T KX hdd e;exact⟨t.1,t.2,z.1⟩
def wg:Expr->Bool
 | .Starred .. =>false
 |_=>true
theorem PN {e:Expr}{es:List Expr}{env:Env}(h:wg e=true):starEach (e::es) env=(false,eval e env)::starEach es env:=by
 cases e<;>first|rfl|cases h
theorem qac {e:Expr}{es:List Expr}{t:TAD}(ha:QE X e te)(hr:QA X es t)(h:wg e=true:=by rfl):QA X (e::es) (zh te t):=Bb ha hr (PN h)
theorem PP {α:Type}{xs:List α}{i:Int}(h0:0<=i)(h1:i<xs.length): ∃x∈xs,atI xs i=some x:=by
 have hk:i.toNat<xs.length:=by omega
 have ek:i=((i.toNat:Nat):Int):=by omega
 have z:=zG (G1 hk);rw [<-ek] at z;exact⟨xs[i.toNat],S9 hk,z⟩
variable {h h':HD}{p:Addr}{L:List D}
theorem Sub.both (s:Sub h h'):Sub (wb h p L) (wb h' p L):=⟨λa ds e=>(by
 by_cases q:a=p
 ·subst q;rw [jc] at e ⊢;exact e
 ·rw [yF q] at e ⊢;exact s a ds e),s.dc⟩
theorem Sub.newAt (s:Sub h h')(e:h' p=none):Sub h (wb h' p L):=s.trans (.new e)
structure But (p:Addr)(h h':HD):Prop where
 ls: ∀a ds,a≠p->h a=some ds->h' a=some ds
 dc: ∀a c,h.dc a=some c->h'.dc a=some c
instance {p:Addr}{h h':HD}:CoeFun (But p h h') λ_=> ∀a ds,a≠p->h a=some ds->h' a=some ds:=⟨But.ls⟩
theorem But.refl (p:Addr)(h:HD):But p h h:=⟨λ_ _ _ e=>e,λ_ _ e=>e⟩
variable {q:Addr}
theorem But.new (s:But p h h')(e:h' q=none):But p h (wb h' q L):=⟨λa ds n z=>(by
 have:=s a ds n z;rw [yF (λw=>by subst w;rw [e] at this;cases this)];exact this),s.dc⟩
theorem But.put (s:But p h h'):But p h (wb h' p L):=⟨λa ds n z=>(by rw [yF n];exact s a ds n z),s.dc⟩
theorem But.putNew (s:But p h h')(e:h q=none):But p h (wb h' q L):=⟨λa ds n z=>(by
 rw [yF (λw=>by subst w;rw [e] at z;cases z)];exact s a ds n z),s.dc⟩
theorem But.sub (s:But p h h')(e:h' p=some L):Sub (wb h p L) h':=⟨λa ds z=>(by
 by_cases q:a=p
 ·subst q;rw [jc] at z;cases z;exact e
 ·rw [yF q] at z;exact s a ds q z),s.dc⟩
theorem But.upd:But p h (wb h p L):=⟨λa ds n z=>(by rw [yF n];exact z),λ_ _ e=>e⟩
theorem zB (e:h p=some L)(f:h q=none):q≠p:=λz=>by subst z;rw [e] at f;cases f
theorem ju {M:List D}(e:h p=some L)(f:h q=none):wb h q M p=some L:=by rw [yF (λz=>by subst z;rw [e] at f;cases f)];exact e
theorem jz {a b:Addr}{M:List D}(n:b≠a)(e:h b=some M):wb h a L b=some M:=by rw [yF n];exact e
theorem Vy {n:Nat}{i:Nat}{d:D}(h:((G0 n).map λ(k:Nat)=>D.int (k:Int))[i]? =some d):i<n/\d= .int i:=by
 rw [P1] at h
 by_cases hi:i<n
 ·rw [T5 hi] at h;cases h;exact⟨hi,rfl⟩
 ·rw [N3 (by simpa using hi)] at h;cases h
variable {σ:SD}
theorem ji {t u:TSD}{E:EndsD}(V:SD->HD->Prop)(first: ∀K:SD->HD->Prop,(∀oV h',V oV h'->K oV h')->t {E with nx:=K} σ h)(rest: ∀oV h',V oV h'->u E oV h'):FC t u E σ h:=first (u E) rest
theorem Bo (b:But p h h')(e:h' q=none)(n:q≠p):h q=none:=by
 cases z:h q with
 |none=>rfl
 |some ds=>rw [b q ds n z] at e;cases e
def Nxt (E:EndsD)(V:SD->HD->Prop):EndsD:= {E with nx:=λo0 h3=> ∃h4,Sub h4 h3/\V o0 h4,ct:=λo0 h3=> ∃h4,Sub h4 h3/\V o0 h4,bk:=E.nx}
theorem ZI {ta:TAD}{g:TGD}{tb:TSD}{E:EndsD}{h1:HD}(n:Nat)(W:Nat->SD->HD->Prop)(hn:n<1000000)
 (ht: ∀R:List D->HD->Prop,R [.int (n:Int)] h1->ta σ h R)(w0:W 0 σ h1)(done: ∀oV h',W n oV h'->E.nx oV h')
 (turn: ∀i oV h',i<n->W i oV h'->g (.int (i:Int)) oV h' λoY h2=>tb (Nxt E λo0 h4=>i+1<=n/\W (i+1) o0 h4) oY h2):kl (iR1 ta) g tb E σ h:=by
 refine ht _ ⟨(n:Int),rfl,by omega,by omega,n,λi oV h'=>i<=n/\W i oV h',⟨T4 _,w0⟩,?_⟩;rintro i oV h' ⟨hi,w⟩;refine⟨_,rfl,by simp,λhl=> ?_,λd hd=> ?_⟩
 ·have:i=n:=by simp at hl;omega
  subst this;exact done _ _ w
 ·obtain⟨hi',e⟩:=Vy hd;have hi2:i<n:=by omega
  subst e;exact turn i oV h' hi2 w
theorem Jv {g:TGD}{tb:TSD}{E:EndsD}{h1:HD}{j:ItD}(ds:List D)(W:Nat->SD->HD->Prop)
 (hj: ∀i oV h',W i oV h'->j h'=some ds)(w0:W 0 σ h1)(done: ∀oV h',W ds.length oV h'->E.nx oV h')
 (turn: ∀i d oV h',ds[i]? =some d->W i oV h'->g d oV h' λoY h2=>tb (Nxt E λo0 h4=>i+1<=ds.length/\W (i+1) o0 h4) oY h2):
 ∃ (n:Nat) (W:Nat->SD->HD->Prop),W 0 σ h1/\ ∀i oV h',W i oV h'-> ∃ds,j h'=some ds/\ds.length<=n/\(ds.length<=i->E.nx oV h')/\
  ∀d,ds[i]? =some d->g d oV h' λoY h2=>tb {E with nx:=λo0 h3=> ∃h4,Sub h4 h3/\W (i+1) o0 h4,ct:=λo0 h3=> ∃h4,Sub h4 h3/\W (i+1) o0 h4,bk:=E.nx} oY h2:=by
 refine⟨ds.length,λi oV h'=>i<=ds.length/\W i oV h',⟨T4 _,w0⟩,?_⟩;rintro i oV h' ⟨hi,w⟩;refine⟨ds,hj i oV h' w,P0 _,λhl=> ?_,λd hd=>turn i d oV h' hd w⟩;have:i=ds.length:=by omega
 subst this;exact done _ _ w
theorem Rm {i:Nat}{js:List Nat}{ta:TAD}{h1:HD}{Q:KD}(n:Nat)(W:Nat->List D->HD->Prop)(hn:n<=1000)(ht: ∀R:List D->HD->Prop,R [.int (n:Int)] h1->ta σ h R)
 (w0:W 0 [] h1)(wl: ∀k ys h',W k ys h'->ys.length=k)(turn: ∀k ys h',k<n->W k ys h'->te ((jI js σ).set i (some (.int (k:Int)))) h' λy h4=> ∃h5,Sub h5 h4/\(k+1<=n/\W (k+1) (ys++ [y]) h5))
 (done: ∀ys h',W n ys h'-> ∀p,h' p=none->Q (.lst p) (wb h' p ys)):vL (bN i) js (iR1 ta) vt te σ h Q:=by
 refine ht _ ⟨(n:Int),rfl,by omega,by omega,n,λk ys h'=>k<=n/\W k ys h',⟨T4 _,w0⟩,?_⟩;rintro k ys h' ⟨hk,w⟩;refine⟨by rw [wl k ys h' w];exact R1 (jw (by omega)),_,rfl,by simp,λhl p hp=> ?_,λd hd=>⟨_,rfl,?_⟩⟩
 ·have:k=n:=by simp at hl;omega
  subst this;exact done ys h' w p hp
 ·obtain⟨hi',e⟩:=Vy hd;subst e;unfold vt;dsimp only;rw [if_pos rfl];exact turn k ys h' (by omega) w
end L2
namespace L2
open PySem PySem.Spec PyProof.Rows PySem.SeqAt
mutual
def ToP (h:HD):D->K5->Prop
 |d,.none=>d= .non
 |d,.bool b=>d= .bl b
 |d,.int i=>d= .int i
 |d,.str x=>d= .str x
 |d,.tuple ps=> ∃ds,d= .tup ds/\ToPs h ds ps
 |d,.list ps=> ∃a ds,d= .lst a/\h a=some ds/\ToPs h ds ps
 |_,.dict _=>False
def ToPs (h:HD):List D->List K5->Prop
 |ds,[]=>ds= []
 |ds,p::ps=> ∃d r,ds=d::r/\ToP h d p/\ToPs h r ps
end
section
variable {X:Cx}{pins:List (Addr×Obj)}{σ:St}{H:Hp}{s:G6}{h:HD}
mutual
theorem wQ (I:Inv X pins σ H s)(rh:RelH X.K h H): ∀ {p:K5} {d:D} {v:V} {u:G3},ToP h d p->RelD X.K H d v->RelV v u-> ∃as,Reads s.heap u p as
 | .none,d,v,u,t,r,ru=>by cases (show d= .non from t);cases (show v= .non from r);cases (show u= .none from ru);exact⟨[],.none⟩
 | .bool b,d,v,u,t,r,ru=>by cases (show d= .bl b from t);cases (show v= .bl b from r);cases (show u= .bool b from ru);exact⟨[],.bool b⟩
 | .int i,d,v,u,t,r,ru=>by cases (show d= .int i from t);cases (show v= .int i from r);obtain⟨k,rfl⟩:=(show ∃t,u=bC i t from ru);exact⟨[],.int i k⟩
 | .str x,d,v,u,t,r,ru=>by cases (show d= .str x from t);cases (show v= .str x from r);obtain⟨k,rfl⟩:=(show ∃t,u=iW x t from ru);exact⟨[],.str x k⟩
 | .tuple ps,d,v,u,t,r,ru=>by
  obtain⟨ds,e,ts⟩:=(show ∃ds,d= .tup ds/\ToPs h ds ps from t);subst e;obtain⟨a,vs,e,hH,rs⟩:=(show ∃a vs,v= .ref a/\H a=some (.tup vs)/\RelDs X.K H ds vs from r);subst e;cases (show u= .ref a from ru);obtain⟨its,rv,ht,_⟩:=I.tuple (SqT.of hH);obtain⟨o,ho,hc,n,hd⟩:=ht;obtain⟨as,q⟩:=reads_Ds I rh ts rs rv;exact⟨as,.tuple ho hc hd q⟩
 | .list ps,d,v,u,t,r,ru=>by
  obtain⟨a,ds,e,ha,ts⟩:=(show ∃a ds,d= .lst a/\h a=some ds/\ToPs h ds ps from t);subst e;obtain⟨vs,hH,rs⟩:=rh a ds ha;have e:v= .ref a:=r.1;subst e;cases (show u= .ref a from ru);obtain⟨its,rv,pl,_⟩:=I.list (SqL.of hH);obtain⟨o,ho,hc,n,hd⟩:=pl.isList;obtain⟨as,q⟩:=reads_Ds I rh ts rs rv;exact⟨a::as,.list ho hc hd q⟩
 | .dict _,_,_,_,t,_,_=>(show False from t).elim
theorem reads_Ds (I:Inv X pins σ H s)(rh:RelH X.K h H): ∀ {ps:List K5} {ds:List D} {vs:List V} {us:List G3},ToPs h ds ps->RelDs X.K H ds vs->Vals vs us-> ∃as,ReadsAll s.heap us ps as
 | [],ds,vs,us,t,r,rv=>by
  cases (show ds= [] from t);cases (show vs= [] from r);cases rv;exact⟨[],.nil⟩
 |p::ps,ds,vs,us,t,r,rv=>by
  obtain⟨d,dr,e,t1,t2⟩:=(show ∃d r,ds=d::r/\ToP h d p/\ToPs h r ps from t);subst e;obtain⟨v,vr,e,r1,r2⟩:=(show ∃v r,vs=v::r/\RelD X.K H d v/\RelDs X.K H dr r from r);subst e;cases rv with
  |cons ru rt=>
   obtain⟨as,q1⟩:=wQ I rh t1 r1 ru;obtain⟨bs,q2⟩:=reads_Ds I rh t2 r2 rt;exact⟨as++bs,.cons q1 q2⟩
end
end
def eqE:RD2:=λx y h Q=>match x,y with
 | .int i,.int j=>Q (.bl (decide (i=j))) h
 | .bl i,.bl j=>Q (.bl (decide (i=j))) h
 | .str i,.str j=>Q (.bl (decide (i=j))) h
 |x,y=> ∃p q,ToP h x p/\ToP h y q/\shaped p=true/\shaped q=true/\Q (.bl (M8 p q)) h
def neE:RD2:=λx y h Q=>match x,y with
 | .int i,.int j=>Q (.bl (!decide (i=j))) h
 | .bl i,.bl j=>Q (.bl (!decide (i=j))) h
 | .str i,.str j=>Q (.bl (!decide (i=j))) h
 |x,y=> ∃p q,ToP h x p/\ToP h y q/\shaped p=true/\shaped q=true/\Q (.bl (!M8 p q)) h
section
variable {X:Cx}
def eqG:RD2:=λx y h Q=> ∃p q,ToP h x p/\ToP h y q/\shaped p=true/\shaped q=true/\Q (.bl (M8 p q)) h
def neG:RD2:=λx y h Q=> ∃p q,ToP h x p/\ToP h y q/\shaped p=true/\shaped q=true/\Q (.bl (!M8 p q)) h
theorem Kg (hu:X.A.units+64<cLine):OpQ X (compareOp .Eq) eqG:=by
 intro pins s σ H x y v u Q I rx ry h;obtain⟨dx,dy,h,Qd,r1,r2,rh,⟨p,q,t1,t2,s1,s2,qq⟩,post⟩:=h;obtain⟨as,a1⟩:=wQ I rh t1 r1 rx;obtain⟨bs,b1⟩:=wQ I rh t2 r2 ry;exact compareEq_shaped a1 b1 s1 s2 hu ⟨.bl _,H,I,rfl,post (.bl _) _ _ _ (.refl H) rh rfl qq⟩
theorem Kh (hu:X.A.units+64<cLine):OpQ X (compareOp .NotEq) neG:=by
 intro pins s σ H x y v u Q I rx ry h;obtain⟨dx,dy,h,Qd,r1,r2,rh,⟨p,q,t1,t2,s1,s2,qq⟩,post⟩:=h;obtain⟨as,a1⟩:=wQ I rh t1 r1 rx;obtain⟨bs,b1⟩:=wQ I rh t2 r2 ry;exact compareNe_shaped a1 b1 s1 s2 hu ⟨.bl _,H,I,rfl,post (.bl _) _ _ _ (.refl H) rh rfl qq⟩
theorem OpQ.or' {f:G3->G3->Sem G3}{r r' r2:RD2}(h:OpQ X f r)(h':OpQ X f r')(i: ∀x y hh Q,r2 x y hh Q->r x y hh Q\/r' x y hh Q):OpQ X f r2:=λpins s σ H x y v u Q I rx ry ⟨dx,dy,hd,Qd,r1,r2',rh,q,p⟩=>
 (i dx dy hd Qd q).elim (λz=>h pins s σ H x y v u Q I rx ry ⟨dx,dy,hd,Qd,r1,r2',rh,z,p⟩) λz=>h' pins s σ H x y v u Q I rx ry ⟨dx,dy,hd,Qd,r1,r2',rh,z,p⟩
theorem Jc (hu:X.A.units+64<cLine):OpQ X (compareOp .Eq) eqE:=oq_eq.or' (Kg hu) λx y h Q q=>by
 unfold eqE at q;split at q
 ·exact .inl q
 ·exact .inl q
 ·exact .inl q
 ·exact .inr q
theorem Al (hu:X.A.units+64<cLine):OpQ X (compareOp .NotEq) neE:=oq_ne.or' (Kh hu) λx y h Q q=>by
 unfold neE at q;split at q
 ·exact .inl q
 ·exact .inl q
 ·exact .inl q
 ·exact .inr q
def isN:D->Bool
 | .non=>true
 |_=>false
def isV (neg:Bool):RD2:=λx y h Q=>match y with
 | .non=>Q (.bl (neg !=isN x)) h
 | .bl c=>match x with
  | .bl b=>Q (.bl (neg !=(b==c))) h
  | .non=>Q (.bl neg) h
  |_=>False
 |_=>False
theorem Bp {K:PySem.W.Frag}{H:Hp}{d:D}{v:V}(r:RelD K H d v):decide (v=V.non)=isN d:=by
 cases d with
 |non=>cases (show v= .non from r);rfl
 |bl b=>cases (show v= .bl b from r);rfl
 |int b=>cases (show v= .int b from r);rfl
 |str b=>cases (show v= .str b from r);rfl
 |tup ds=>obtain⟨a,vs,e,_⟩:=(show ∃a vs,v= .ref a/\H a=some (.tup vs)/\RelDs K H ds vs from r);subst e;rfl
 |lst a=>cases (show v= .ref a from r.1);rfl
 |dic x i=>obtain⟨a,e,_⟩:=(show ∃a,v= .ref a/\H a=some (.dK [(Y4 x,V.int i)]) from r);subst e;rfl
 |dct a=>cases (show v= .ref a from r);rfl
 |scr ns=>obtain⟨a,e,_⟩:=(show ∃a,v= .ref a/\Scr K H a ns from r);subst e;rfl
 |exc C=>obtain⟨x,o,vs,e,_⟩:=(show ∃x o vs,v= .ref x/\H x=some (.frz o (.own 0))/\o.cls= .ref C/\o.data= .fields vs from r);subst e;rfl
 |fn a=>cases (show v= .ref a from r.1);rfl
theorem ED:OpQ X (compareOp .Is) (isV false):=by
 intro pins s σ H x y v u Q I rx ry h;obtain⟨dx,dy,h,Qd,r1,r2,rh,q,post⟩:=h;cases dy with
 |non=>
  have e:y= .non:=r2;subst e;refine TY pins s σ H x .non v u Q I rx ry ⟨rfl,?_⟩;rw [Bp r1];have q':Qd (.bl (isN dx)) h:=by simpa [isV] using q
  exact post (.bl _) _ _ _ (.refl H) rh rfl q'
 |bl c=>
  have e:y= .bl c:=r2;subst e;cases (show u= .bool c from ry);cases dx<;>first
   |exact False.elim q
   |skip
  ·have e:x= .non:=r1;subst e;cases (show v= .none from rx);exact mG (by rfl) ⟨.bl false,H,I,rfl,post (.bl false) _ _ _ (.refl H) rh rfl q⟩
  ·rename_i b;have e:x= .bl b:=r1;subst e;cases (show v= .bool b from rx);have eb:(V3 b==V3 c)=(b==c):=by cases b<;>cases c<;>rfl
   refine mG (by rfl) ⟨.bl (b==c),H,I,by rw [eb];rfl,post (.bl (b==c)) _ _ _ (.refl H) rh rfl ?_⟩;simpa [isV] using q
 |_=>exact False.elim q
theorem Lk:OpQ X (compareOp .IsNot) (isV true):=by
 intro pins s σ H x y v u Q I rx ry h;obtain⟨dx,dy,h,Qd,r1,r2,rh,q,post⟩:=h;cases dy with
 |non=>
  have e:y= .non:=r2;subst e;refine AL pins s σ H x .non v u Q I rx ry ⟨rfl,?_⟩;rw [Bp r1];have q':Qd (.bl (!isN dx)) h:=by simpa [isV] using q
  exact post (.bl _) _ _ _ (.refl H) rh rfl q'
 |bl c=>
  have e:y= .bl c:=r2;subst e;cases (show u= .bool c from ry);cases dx<;>first
   |exact False.elim q
   |skip
  ·have e:x= .non:=r1;subst e;cases (show v= .none from rx);exact iJ (by rfl) ⟨.bl true,H,I,rfl,post (.bl true) _ _ _ (.refl H) rh rfl q⟩
  ·rename_i b;have e:x= .bl b:=r1;subst e;cases (show v= .bool b from rx);have eb:(!(V3 b==V3 c))= !(b==c):=by cases b<;>cases c<;>rfl
   refine iJ (by rfl) ⟨.bl (!(b==c)),H,I,by rw [eb];rfl,post (.bl (!(b==c))) _ _ _ (.refl H) rh rfl ?_⟩;simpa [isV] using q
 |_=>exact False.elim q
end
end L2
namespace HT
open PySem PySem.Spec PyProof.Rows
section
variable {prog:S3}{w:N2}{A:M7}{E:G3->G6->Prop}{s:G6}
theorem Gp (k:Int){vs:List G3}{ns:List Int}(hi:A5 vs ns)(j:Nat)(h:j<ns.length): ∃t,vs[j]? =some (.int ns[j] t):=by
 induction hi generalizing j with
 |nil=>simp at h
 |cons n t r ih=>
  cases j with
  |zero=>exact⟨t,rfl⟩
  |succ j=>obtain⟨u,e⟩:=ih j (by simpa using h);exact⟨u,by simpa using e⟩
theorem PQ {a:Addr}{vs:List G3}{ns:List Int}{k:Int}{t:Tok}{Q:G3->G6->Prop}(ht:gH s.heap a vs.toArray)(hi:A5 vs ns)(hk:k∈ns)(h:Q (.int (ns.idxOf k:Nat) s.toks) {s with toks:=s.toks+1}):
 wpAny (model prog w) A (call (.builtin "tuple.index") [.ref a,.int k t]) Q E s:=by
 refine L5 PySem.F.slot_tuple_index ht.typeIs PySem.F.entry_tuple_index ?_ (PySem.F.args_tuple_index_2 _ _);unfold Builtin.«tuple.index»;have hj:ns.idxOf k<ns.length:=C0.mpr hk;have hlen:=hi.length;show wpAny _ _ (X9 (.ref a) >>= _) _ _ s;refine wpAny_bind (gJ ht ?_);have go:wpAny (model prog w) A.in1 (forIn [0:min vs.toArray.size vs.toArray.size] ((none,()):Option PySem.Fin×Unit) λi __s=>
  match vs.toArray[i]? with
  |some y=>do
   let b <-eqBool y (.int k t)
   if b=true then do
    let r <-retInt ((i:Nat):Int)
    pure (oR (some r,()))
    else pure (X2 (none,()))
  |x=>pure (X2 (none,())))
  (λr s'=>r=(some (.done (.ret (.int (ns.idxOf k:Nat) s.toks))),())/\s'= {s with toks:=s.toks+1}) E s:=by
  rw [Y0];refine i6 _ (λrest b s'=>b=(none,())/\s'=s/\ ∃i,i<=ns.idxOf k/\rest=nW i (ns.length-i)) _ ?_ ?_ _ _ ⟨rfl,rfl,0,T4 _,?_⟩
  ·rintro x rest b s' ⟨rfl,rfl,i,hil,e⟩;have hin:i<ns.length:=by omega
   obtain⟨n,hn⟩: ∃n,ns.length-i=n+1:=⟨ns.length-i-1,by omega⟩;rw [hn,dP] at e;injection e with e1 e2
   subst e1 e2;obtain⟨u,hu⟩:=Gp k hi x hin;have hu':vs.toArray[x]? =some (.int ns[x] u):=by simpa using hu
   rw [hu'];refine wpAny_bind (iY ?_)
   by_cases hx:x=ns.idxOf k
   ·have he:(ns[x]==k)=true:=by subst hx;simpa using F7 hj
    rw [if_pos he];subst hx;refine wpAny_bind ?_;exact wpAny_bind (wpAny_mkInt (P7 (P7 ⟨rfl,rfl⟩)))
   ·have hlt:x<ns.idxOf k:=by omega
    have he: ¬ (ns[x]==k)=true:=by rw [ne_of_lt_idxOf hlt hin];exact D2
    rw [if_neg he];refine P7 ⟨rfl,rfl,x+1,hlt,?_⟩;have:n=ns.length-(x+1):=by omega
    rw [this]
  ·rintro b s' ⟨rfl,rfl,i,hil,e⟩;have hin:i<ns.length:=by omega
   obtain⟨n,hn⟩: ∃n,ns.length-i=n+1:=⟨ns.length-i-1,by omega⟩;rw [hn,dP] at e;cases e
  ·simp [hlen]
 refine wpAny_bind (P7 (wpAny_bind (P7 (wpAny_bind (S6 go (λr s' e=> ?_) λ_ _ e=>e)))));obtain⟨rfl,rfl⟩:=e;exact P7 ⟨_,rfl,h⟩
end
section
variable {prog:S3}{w:N2}{A:M7}{E:G3->G6->Prop}{s:G6}
theorem Mv {l:Addr}{vs:List G3}{ns:List Int}{Q:G3->G6->Prop}(hl:gH s.heap l vs.toArray)(hI:A5 vs ns)(h64:vs.length<64)
 (h: ∀ (h1 h':Heap) (out:Array G3) (ns':List Int) (c:Nat),(∀b o,s.heap.get? b=some o->h1.get? b=some o)->(∀b o,h1.get? b=some o->h'.get? b=some o)->h'.get? h1.objs.size=some (seqObj "list" out c)->
  A5 out.toList ns'->ns'.Perm ns->ns'.Pairwise (· <= ·)->Q (.ref h1.objs.size) {s with heap:=h'}):wpAny (model prog w) A (call (.builtin "sorted") [.ref l]) Q E s:=by
 have few:vs.length<=sizeLine:=R1 (W6 h64 (by decide));obtain⟨o,at_,cl,n,dat⟩:=hl;refine Calls.call_function_entry nX nB nC (nD _) (wpAny_bind (P7 (wpAny_bind (wpAny_collect_seq l (.inr rfl) at_ cl dat (λh1 grown=> ?_) (by simpa using few)))));have fresh:(h1.push (seqObj "list" vs.toArray 0)).get? h1.objs.size=some (seqObj "list" vs.toArray 0):=D7 _ rfl;refine wpAny_bind (gO (wpAny_bind (A2 (L5 mH ⟨_,fresh,rfl⟩ lL (list_sort_tree fresh hI h64 λout ns' i1 i2 i3=>⟨_,rfl,?_⟩) (mI _)))) few);obtain⟨c,lies⟩:=sortedHeap_at (vs:=vs) (out:=out) fresh;refine P7 ⟨_,rfl,h h1 _ out ns' c grown (λb ob e=> ?_) lies i1 i2 i3⟩;have lt:=P9 e;rw [sortedHeap_old (S0 lt) (by rw [size_push'];exact J9 lt)];exact G7 _ e
end
end HT
namespace L2
open PySem PySem.Spec PyProof.Rows
theorem Zx: ∀ {ns:List Int} {us:List G3},Vals (ns.map V.int) us->A5 us ns
 | [],_,r=>by cases r;exact .nil
 |n::ns,_,r=>by
  cases r with
  |cons r t=>obtain⟨k,rfl⟩:=r;exact .cons n k (Zx t)
theorem Vz: ∀ {ns:List Int} {us:List G3},A5 us ns->Vals (ns.map V.int) us
 |_,_,.nil=> .nil
 |_,_,.cons n t r=> .cons ⟨t,rfl⟩ (Vz r)
theorem jW {K:PySem.W.Frag}{H:Hp}: ∀ {ns:List Int} {vs:List V},RelDs K H (ns.map D.int) vs->vs=ns.map V.int
 | [],_,h=>h
 |n::ns,vs,h=>by
  obtain⟨v,r,e,h1,h2⟩:=(show ∃v r,vs=v::r/\RelD K H (.int n) v/\RelDs K H (ns.map D.int) r from h);rw [e,jW h2,(show v= .int n from h1)];rfl
theorem VA: ∀ {xs:List V} {us:List G3},xs.length=us.length->(∀ (i:Nat) (x:V) (u:G3),xs[i]? =some x->us[i]? =some u->RelV x u)->Vals xs us
 | [],[],_,_=> .nil
 |x::xs,u::us,hl,h=> .cons (h 0 x u rfl rfl) (VA (by simpa using hl) λi y w e1 e2=>h (i+1) y w (by simpa using e1) (by simpa using e2))
 | [],_::_,hl,_=>by simp at hl
 |_::_,[],hl,_=>by simp at hl
theorem Xi (ns:List Int): ∀k,k<=ns.length->preSum (λi=>ns.getD i 0) k=(ns.take k).sum
 |0,_=>by simp [preSum]
 |k+1,h=>by
  have hk:k<ns.length:=by omega
  rw [preSum,Xi ns k (by omega),T8,G1 hk,fE,P5,G1 hk];simp
variable {X:Cx}
theorem XS (hc:X.calm=true):CallR X (.builtin "sum") (λxs H Q=> ∃ (a:Addr) (ns:List Int),xs= [.ref a]/\SqL X.K H a (ns.map V.int)/\Q (.int ns.sum) H):=by
 intro pins s σ H xs us Q I r h;obtain⟨a,ns,rfl,hS,q⟩:=h;obtain⟨u,rfl,ru⟩:=ZD r;cases ru;obtain⟨its,rv,pl,hz⟩:=I.list hS;have hl:=pl.isList;have hlt:a<s.heap.objs.size:=by obtain⟨_,e,_⟩:=hl;exact P9 e
 have hi:=Zx rv;have hn:its.length=ns.length:=hi.length;refine call_sum_walkAnyS (A1 hl ?_);refine⟨s.heap.objs.size,_,_,_,_,_,_,λi=>ns.getD i 0,rfl,(eQ (A:=X.A.in1) (show X.A.in1.handled=none from I.ok.hd hc) s.heap.objs.size a (S0 hlt) its.toArray).toS,⟨⟨_,D7 _ rfl,rfl,rfl⟩,hl.push _⟩,?_,?_,λs' t' hm=> ?_⟩
 ·intro b hb;simp only [R6,C8,or_false] at hb;show b<(s.heap.push _).objs.size;rw [V9];rcases hb with e|e
  ·rw [e];exact L6 _
  ·rw [e];exact J9 hlt
 ·intro i v hP;have e:its[i]? =some v:=by simpa using hP
  have hil:i<ns.length:=by rw [<-hn];exact(P3.mp e).1
  obtain⟨t,e2⟩:=HT.Gp 0 hi i hil;rw [e] at e2;cases e2;refine⟨t,?_⟩;show bC ns[i] t=bC (ns.getD i 0) t;rw [P5,G1 hil];rfl
 ·have e:preSum (λi=>ns.getD i 0) its.toArray.size=ns.sum:=by
   rw [D1,hn,Xi ns _ (P0 _),Y8]
  rw [e];obtain⟨h',g',d',tk',o'⟩:=s';obtain⟨m1,m2,m3,m4,_⟩:=hm;simp only at m1 m2 m3 m4;subst m2 m3 m4;refine⟨.int ns.sum,H,I.kept (t':=tk') (λb o e=>m1 b o (λz=> ?_) (G7 _ e)),⟨_,rfl⟩,q⟩;rw [G9.mp z] at e;exact absurd (P9 e) (N6 _)
def Ki:RDn:=λds h Q=> ∃ (a:Addr) (ns:List Int),ds= [.lst a]/\h a=some (ns.map D.int)/\Q (.int ns.sum) (UN h a)
theorem Bq (hc:X.calm=true):Jl X (.builtin "sum") Ki:=(XS hc).imp λxs H Q ⟨ds,h,Qd,r,rh,⟨a,ns,e,hd,q⟩,p⟩=>by
 subst e;obtain⟨v,e,r1⟩:=jD r;obtain⟨vs,hH,r2⟩:=rh a _ hd;have e1:v= .ref a:=r1.1;rw [jW r2] at hH;subst e e1;exact⟨a,ns,rfl,SqL.of hH,p (.int _) _ _ _ (.refl H) (rh.sub (Sub.drop h a)) rfl q⟩
def EE:RDn:=λds h Q=> ∃ns:List Int,(ds= [.tup (ns.map D.int)]\/ ∃a,ds= [.lst a]/\h a=some (ns.map D.int))/\ns.length<64/\ ∀ (p:Addr) (ns':List Int),h p=none->ns'.Perm ns->ns'.Pairwise (· <= ·)->Q (.lst p) (wb h p (ns'.map D.int))
theorem call_sorted_ints:CallR X (.builtin "sorted") (λxs H Q=> ∃ (a:Addr) (ns:List Int),xs= [.ref a]/\(SqL X.K H a (ns.map V.int)\/SqT X.K H a (ns.map V.int))/\ns.length<64/\ ∀ (p:Addr) (ns':List Int),H p=none->ns'.Perm ns->ns'.Pairwise (· <= ·)->Q (.ref p) (upd H p (.lst (ns'.map V.int)))):=by
 intro pins s σ H xs us Q I r h;obtain⟨a,ns,rfl,hS,h64,q⟩:=h;obtain⟨u,rfl,ru⟩:=ZD r;cases ru;have fin: ∀ (vs:List G3) (out:Array G3) (ns':List Int),A5 out.toList ns'->ns'.Perm ns->ns'.Pairwise (· <= ·)->EP X pins σ Q (.ref (s.heap.objs.size+1)) {s with heap:=sortedAll s.heap vs out}:=λvs out ns' a1 a2 a3=>by
  obtain⟨e,he⟩:=sortedAll_at s.heap vs out;have hf:H (s.heap.objs.size+1)=none:=I.hok.fresh (dD _);refine⟨.ref _,_,I.laid (t':=s.toks) (o:= .lst (ns'.map V.int)) (λb ob q=>sortedAll_old q) (dD _) ?_,rfl,q _ ns' hf a2 a3⟩;refine⟨?_,out.toList,e,Vz a1,he⟩;rw [G2,a2.length_eq];exact R1 (W6 h64 (by decide))
 rcases hS with hS|hS
 ·obtain⟨its,rv,pl,hz⟩:=I.list hS;have hi:=Zx rv;exact sorted_ints pl.isList hi (by rw [hi.length];exact h64) (fin its)
 ·obtain⟨its,rv,pl,hz⟩:=I.tuple hS;have hi:=Zx rv;refine HT.Mv pl hi (by rw [hi.length];exact h64) λh1 h' out ns' c k1 k2 lies a1 a2 a3=> ?_
  have I1:=I.kept (t':=s.toks) k1;refine⟨.ref _,_,I1.laid (t':=s.toks) (o:= .lst (ns'.map V.int)) k2 (P0 _) ⟨?_,out.toList,c,Vz a1,lies⟩,rfl,q _ ns' (I1.hok.fresh (P0 _)) a2 a3⟩;rw [G2,a2.length_eq];exact R1 (W6 h64 (by decide))
theorem Gq:Jl X (.builtin "sorted") EE:=call_sorted_ints.imp λxs H Q ⟨ds,h,Qd,r,rh,⟨ns,hd,h64,q⟩,p⟩=>by
 have fin: ∀ (c:Addr) (ns':List Int),H c=none->ns'.Perm ns->ns'.Pairwise (· <= ·)->Q (.ref c) (upd H c (.lst (ns'.map V.int))):=λc ns' hc a b=>
  p (.lst c) _ _ _ (.new hc) (rh.newL hc (vx ns')) ⟨rfl,_,jy⟩ (q c ns' (rh.free hc) a b)
 rcases hd with e|⟨a,e,ha⟩
 ·subst e;obtain⟨v,e,r1⟩:=jD r;obtain⟨a,vs,e1,hH,r2⟩:=(show ∃a vs,v= .ref a/\H a=some (.tup vs)/\RelDs X.K H (ns.map D.int) vs from r1);rw [jW r2] at hH;subst e e1;exact⟨a,ns,rfl,.inr (SqT.of hH),h64,fin⟩
 ·subst e;obtain⟨v,e,r1⟩:=jD r;obtain⟨vs,hH,r2⟩:=rh a _ ha;have e1:v= .ref a:=r1.1;rw [jW r2] at hH;subst e e1;exact⟨a,ns,rfl,.inl (SqL.of hH),h64,fin⟩
def xW (to te:TED):TED:=λσ h Q=>to σ h λx h1=> ∃ns:List Int,x= .tup (ns.map D.int)/\te σ h1 λy h2=> ∃k:Int,y= .int k/\k∈ns/\Q (.int (ns.idxOf k:Nat)) h2
def xX (to ti te:TED):TED:=λσ h Q=>to σ h λx h1=> ∃a,x= .lst a/\ti σ h1 λi h2=>te σ h2 λy h3=> ∃ (k:Nat) (xs:List D),i= .int (k:Int)/\k<=1000/\h3 a=some xs/\xs.length<sizeLine/\Q .non (wb h3 a (xs.take k++y::xs.drop k))
section
variable {X:Cx}{o e i:Expr}{to te ti:TED}{apos cpos:Pos}
theorem jah (ho:QE X o to)(he:QE X e te)(hbase:attributeBase o "index" X.env (eval o X.env)=eval o X.env:=by rfl)
 (hfew:((backTo cpos (starEach [e] X.env)).all (λx=> !x.1)&&(backToKw cpos (keywordEach [] X.env)).all (λx=>x.1.isSome)&&decide ([e].length+([]:List U0).length+(if ([]:List U0).isEmpty then 0 else 1)<30))=true:=by rfl)
 (hline:(apos.endLine==cpos.line)=true:=by rfl)(hs:starEach [e] X.env=(false,eval e X.env)::starEach [] X.env:=by rfl)(hplain:(backTo cpos (starEach [] X.env)).any (·.1)=false:=by rfl):
 QE X (.Call (.Attribute o "index" apos) [e] [] cpos) (xW to te):=by
 intro pins s σ H Q I h;obtain⟨oW,h,Qd,rs,rh,t,p⟩:=h;have h1:LE X.K to σ H (λv H1=> ∃ (ns:List Int) (a:Addr) (h1:HD),v= .ref a/\H1 a=some (.tup (ns.map V.int))/\RelH X.K h1 H1/\Kept H H1/\te oW h1 λy h2=> ∃k:Int,y= .int k/\k∈ns/\Qd (.int (ns.idxOf k:Nat)) h2):=
  ⟨oW,h,_,rs,rh,t,λd v h' H' k rh' rd ⟨ns,e,q⟩=>by
   subst e;obtain⟨a,vs,e1,hH,r2⟩:=(show ∃a vs,v= .ref a/\H' a=some (.tup vs)/\RelDs X.K H' (ns.map D.int) vs from rd);rw [jW r2] at hH;exact⟨ns,a,h',e1,hH,rh',k,q⟩⟩
 refine eO hbase hfew hline rfl (thn (ho pins s σ H _ I h1) λv s1 ⟨x,H1,I1,r1,ns,a,h1,ex,hH,rh1,k1,q1⟩=> ?_);subst ex;cases (show v= .ref a from r1);obtain⟨z,its,rv,ob,g1,g2,g3,g4⟩:=(show ObjOk X.prog X.w H1 s1.heap a (.tup (ns.map V.int)) from I1.hok a _ hH);refine⟨"tuple","tuple.index",PySem.F.plainAttrs_tuple,PySem.F.slot_tuple_index,PySem.F.type_tuple_index,⟨ob,g1,g2⟩,λb e=>by cases e;exact⟨ob,g1,g3⟩,?_⟩;have h2:LA X.K (zh te Zv) σ H1 (λus H2=> ∃ (k:Int) (h2:HD),us= [.int k]/\k∈ns/\RelH X.K h2 H2/\Kept H1 H2/\Qd (.int (ns.idxOf k:Nat)) h2):=
  ⟨oW,h1,λds h2=> ∃k:Int,ds= [.int k]/\k∈ns/\Qd (.int (ns.idxOf k:Nat)) h2,rs.mono k1,rh1,by
   show te oW h1 λy h2=> ∃k:Int,[y]= [.int k]/\k∈ns/\Qd (.int (ns.idxOf k:Nat)) h2
   have:(λy h2=> ∃k:Int,y=D.int k/\k∈ns/\Qd (.int (ns.idxOf k:Nat)) h2)=λy h2=> ∃k:Int,[y]= [D.int k]/\k∈ns/\Qd (.int (ns.idxOf k:Nat)) h2:=by
    funext y h2;simp
   rw [<-this];exact q1,λds vs h' H' k rh' rd ⟨kk,e,hm,q⟩=>by
   subst e;obtain⟨v,e,r2⟩:=jD rd;cases (show v= .int kk from r2);exact⟨kk,h',e,hm,rh',k,q⟩⟩
 have hA:=(Bb he Ad hs:QA X [e] (zh te Zv)) cpos pins s1 σ H1 _ I1 h2;rw [hs] at hA ⊢;refine Calls.callWith_builtin (by show (false||(backTo cpos (starEach [] X.env)).any (·.1))=false;rw [hplain]<;>rfl) (Calls.evalArgs_plain ?_);refine thn hA λus s2 ⟨vs,H2,I2,r2,k,h2,ev,hm,rh2,k2,q2⟩=> ?_
 subst ev;obtain⟨u,rfl,ru⟩:=ZD r2;obtain⟨tk,rfl⟩:=ru;obtain⟨its2,rv2,ht2,_⟩:=I2.tuple (SqT.of (k2.tup _ _ hH));exact HT.PQ ht2 (Zx rv2) hm ⟨.int _,H2,I2.tok _,⟨_,rfl⟩,p (.int _) _ _ _ (k1.trans k2) rh2 rfl q2⟩
end
theorem Br:MtM X "list.insert" (λx vs H Q=> ∃ (l:Addr) (xs:List V) (k:Nat) (y:V),x= .ref l/\vs= [.int (k:Int),y]/\H l=some (.lst xs)/\k<=1000/\xs.length<sizeLine/\Q .non (upd H l (.lst (xs.take k++y::xs.drop k)))):=by
 intro pins s σ H x vs v us Q I rx rv h;obtain⟨l,xs,k,y,rfl,rfl,hH,hk,hz,q⟩:=h;cases rx;obtain⟨u,w',rfl,⟨t,rfl⟩,ry⟩:=FQ rv;obtain⟨z,its,n,r,hl,e⟩:=I.lstM hH;have hfit: ¬ (!cM (k:Int))=true:=by rw [mF (by omega) (by omega)];exact D2
 have hsz:its.toArray.size<=sizeLine:=by rw [D1];omega
 generalize har:its.toArray=ar at e hsz;obtain⟨kk,hkk⟩: ∃kk:Int,kk=(k:Int):=⟨_,rfl⟩;rw [<-hkk] at hfit ⊢;refine cL F.slot_list_insert ⟨_,e,rfl⟩ F.entry_list_insert (F.args_list_insert_3 _ _ _) (AutoListH.list_insert_list_int_val_1 l ar n kk t w' hfit hsz) ⟨e,?_⟩;subst har hkk;refine⟨.non,_,I.lset (its':=its.take k++w'::its.drop k) hH e ?_ ((r.take k).append (.cons ry (r.drop k))) ?_,rfl,q⟩
 ·have hk0: ¬ ((k:Int)<0):=by omega
  simp only [hk0,if_false,dE,D1];have e1:its.take (min k its.length)=its.take k:=by
   by_cases hh:k<=its.length
   ·rw [Q6 hh]
   ·rw [i8 (by omega),Y8,R5 (by omega)]
  have e2:its.drop (min k its.length)=its.drop k:=by
   by_cases hh:k<=its.length
   ·rw [Q6 hh]
   ·rw [i8 (by omega),List.drop_length,List.drop_of_length_le (by omega)]
  have e3:(its.drop k).take (its.length-min k its.length)=its.drop k:=R5 (by rw [S8];omega);apply Array.ext';simp only [N4,U4,List.extract_toArray,O4,aY,iK];rw [e1,e2,e3,P6];rfl
 ·rw [P2,R0,R7,S8];omega
section
variable {X:Cx}{o e i:Expr}{to te ti:TED}{apos cpos:Pos}
theorem jai (ho:QE X o to)(hi:QE X i ti)(he:QE X e te)(hbase:attributeBase o "insert" X.env (eval o X.env)=eval o X.env:=by rfl)
 (hfew:((backTo cpos (starEach [i,e] X.env)).all (λx=> !x.1)&&(backToKw cpos (keywordEach [] X.env)).all (λx=>x.1.isSome)&&decide ([i,e].length+([]:List U0).length+(if ([]:List U0).isEmpty then 0 else 1)<30))=true:=by rfl)
 (hline:(apos.endLine==cpos.line)=true:=by rfl)(hs:starEach [i,e] X.env=(false,eval i X.env)::starEach [e] X.env:=by rfl)(hs2:starEach [e] X.env=(false,eval e X.env)::starEach [] X.env:=by rfl)(hplain:(backTo cpos (starEach [e] X.env)).any (·.1)=false:=by rfl):
 QE X (.Call (.Attribute o "insert" apos) [i,e] [] cpos) (xX to ti te):=
 (AW PySem.F.plainAttrs_list PySem.F.slot_list_insert PySem.F.type_list_insert Br ho (Js hi (Js he pa_nil hs2) hs) hbase hfew hline hs hplain).imp
  λσ H Q ⟨oW,h,Qd,rs,rh,t,p⟩=>LE.bind rs rh t λd v h1 H1 k1 rs1 rh1 r1 ⟨a,e,q⟩=>by
   subst e;obtain⟨e1,vs,hH⟩:=(show v= .ref a/\ ∃vs,H1 a=some (.lst vs) from r1);subst e1;refine⟨.inl ⟨rfl,vs,SqL.of hH⟩,?_⟩;refine LE.bind rs1 rh1 q λdi vi h2 H2 k2 rs2 rh2 r2 q2=>LE.bind rs2 rh2 q2 λy u h3 H3 k3 rs3 rh3 r3 ⟨k,xs,ei,hk,hx,hz,q3⟩=> ?_
   subst ei;have ev:vi= .int (k:Int):=r2;obtain⟨ws,hW,r4⟩:=rh3 a xs hx;refine⟨a,ws,k,u,rfl,by rw [ev],hW,hk,by rw [<-r4.length];exact hz,p .non _ _ _ (k1.trans (k2.trans (k3.trans (.put hW)))) (rh3.put hW ((r4.take k).append (.cons r3 (r4.drop k)))) rfl q3⟩
end
def Kj (ta:TA):TE:=λσ H Q=>ta σ H λvs H1=> ∃j:Int,vs= [.int j]/\ ∀p,H1 p=none->Q (.ref p) (upd H1 p (.rng 0 j))
variable {a:Expr}{p pos:Pos}
theorem Ll {ta:TA}(hg:Gl X "range")(hm:X.mg "range" =none)(ha:PA X [a] ta)(hs:starEach [a] X.env= [(false,eval a X.env)]:=by rfl):PE X (.Call (.Name "range" p) [a] [] pos) (Kj ta):=by
 intro pins s σ H Q I h;refine nU (Zt I hg hm oF (C4 (thn (ha pos pins s σ H _ I h) λus s1 ⟨vs,H1,I1,r1,q1⟩=> ?_) hs rfl));obtain⟨j,e,q⟩:=q1;subst e;obtain⟨u,rfl,ru⟩:=ZD r1;obtain⟨t,rfl⟩:=ru;refine m8 ⟨.ref s1.heap.objs.size,_,I1.laid (o:= .rng 0 j) (λb ob q=>G7 _ q) (P0 _) ?_,rfl,q _ (I1.hok.fresh (P0 _))⟩;exact⟨_,_,_,D7 _ rfl⟩
theorem XT (hc:X.calm=true):CallR X (.type "list") (λxs H Q=> ∃ (p:Addr) (n:Nat),xs= [.ref p]/\H p=some (.rng 0 (n:Int))/\n<=1000/\ ∀l,H l=none->Q (.ref l) (upd H l (.lst ((G0 n).map λ(k:Nat)=>V.int (k:Int))))):=by
 intro pins s σ H xs us Q I r h;obtain⟨p,n,rfl,hH,hn,q⟩:=h;obtain⟨u,rfl,ru⟩:=ZD r;cases ru;obtain⟨t,u,v,e⟩:=(show ObjOk X.prog X.w H s.heap p (.rng 0 (n:Int)) from I.hok p _ hH);refine call_list_range (n:=n) (I.ok.hd hc) e (small_one (by decide) (by decide) (by omega) (by omega)) ?_ (R9 hn (by decide)) λh' tk acc c' kp e' hacc=> ?_
 ·rw [mP];try (split<;>omega)
 ·refine⟨.ref s.heap.objs.size,_,I.laid (t':=tk) (o:= .lst ((G0 n).map λ(k:Nat)=>V.int (k:Int))) (λb ob q=>kp b ob q) (P0 _) ?_,rfl,q _ (I.hok.fresh (P0 _))⟩;obtain⟨hs,hit⟩:=hacc;refine⟨by rw [G2,G5];exact R1 (jw hn),acc.toList,c',?_,by simpa using e'⟩;refine VA (by simp [hs]) λi x u hx hu=> ?_
  rw [P1] at hx;have hi:i<n:=by
   by_cases z:i<n
   ·exact z
   ·rw [N3 (by simpa using z)] at hx;cases hx
  rw [T5 hi] at hx;cases hx;obtain⟨t,e⟩:=hit i u (by simpa using hu);exact⟨t,by rw [e];simp⟩
def Kk (ta:TAD):TED:=λσ h Q=>ta σ h λds h1=> ∃n:Nat,ds= [.int (n:Int)]/\n<=1000/\ ∀p,h1 p=none->Q (.lst p) (wb h1 p ((G0 n).map λ(k:Nat)=>D.int (k:Int)))
theorem Gr {K:PySem.W.Frag}{H:Hp}(f:Nat->Int): ∀l:List Nat,RelDs K H (l.map λk=>D.int (f k)) (l.map λk=>V.int (f k))
 | []=> .nil
 |k::l=> .cons rfl (Gr f l)
theorem Kept.drop2 {H:Hp}{p q:Addr}{o o':HO}(hp:H p=none)(hq:upd H p o q=none):Kept H (upd (upd H p o) q o'):=(Kept.new hp).trans (.new hq)
variable {p2:Pos}
theorem uK {ta:TAD}{pos2:Pos}(hc:X.calm=true)(hg:Gl X "list")(hm:X.mg "list" =none)(hg2:Gl X "range")(hm2:X.mg "range" =none)(ha:QA X [a] ta)(hs:starEach [a] X.env= [(false,eval a X.env)]:=by rfl)
 (h1:starEach [.Call (.Name "range" p2) [a] [] pos2] X.env=(false,eval (.Call (.Name "range" p2) [a] [] pos2) X.env)::starEach [] X.env:=by rfl)(h2:(backTo pos (starEach [] X.env)).any (·.1)=false:=by rfl):
 QE X (.Call (.Name "list" p) [.Call (.Name "range" p2) [a] [] pos2] [] pos) (Kk ta):=
 (Gg (XT hc) hg hm (by decide +kernel) (Js (Ll hg2 hm2 ha hs) pa_nil h1) (by decide) (by decide) h1 h2).imp
  λσ H Q ⟨oW,h,Qd,rs,rh,t,post⟩=>LA.bind rs rh t λds vs h1 H1 k1 rs1 rh1 r1 ⟨n,e,hn,q⟩=>by
   subst e;obtain⟨v,e,r2⟩:=jD r1;cases (show v= .int (n:Int) from r2);refine⟨n,e,λc hcn=>⟨c,n,rfl,jy,hn,λl hl=> ?_⟩⟩;have rh2:=(rh1.new (o:= .rng 0 (n:Int)) hcn);exact post (.lst l) (.ref l) _ _ (k1.trans (.drop2 hcn hl)) (rh2.newL hl (Gr (λk=>(k:Int)) (G0 n))) ⟨rfl,_,jy⟩ (q l (rh2.free hl))
structure JE (X:Cx)(e:Expr)(t:TED):Prop where
 to:QE X e t
structure JT (X:Cx)(e:Expr)(t:TTD):Prop where
 to:QT X e t
structure JW (X:Cx)(e:Expr)(t:TTD):Prop where
 to:QW X e t
structure JA (X:Cx)(e:List Expr)(t:TAD):Prop where
 to:QA X e t
structure JS (X:Cx)(e:Stmt)(t:TSD):Prop where
 to:QS X e t
structure JSs (X:Cx)(e:List Stmt)(t:TSD):Prop where
 to:QSs X e t
structure JG (X:Cx)(e:Expr)(t:TGD):Prop where
 to:QG X e t
structure JI (X:Cx)(tg e:Expr)(t:TID):Prop where
 to:QI X tg e t
structure JO (X:Cx)(e:Option Expr)(t:TOD):Prop where
 to:QO X e t
section
variable {X:Cx}{a b c e:Expr}{es rest:List Expr}{ta tb tc te:TED}{t u:TAD}{tt tu:TTD}{pos:Pos}{f r r':RD2}
theorem jv (i:Nat){x:Str}(hN:X.N[i]? =some x:=by rfl)(hv:Vis X.env.scope x:=by first|exact M5 rfl|exact F6 (M5 rfl)|exact F6 (F6 rfl))(hd:(x==("__debug__" :Str))=false:=by decide)(hcd:(x==("__classdict__" :Str))=false:=by decide):JE X (.Name x pos) (Rj i):=⟨qv (i:=i) (hN:=hN) (hv:=hv) (hd:=hd) (hcd:=hcd)⟩
theorem jF {i:Int}{j:Nat}:JE X (.Constant (.int i) j pos) (dC (.int i)):=⟨qJ⟩
theorem jbl {i:Bool}{j:Nat}:JE X (.Constant (.bool i) j pos) (dC (.bl i)):=⟨qbl⟩
theorem Lm {j:Nat}:JE X (.Constant .none j pos) (dC .non):=⟨qK⟩
theorem Mw {x:Str}{i:Int}{tk:Tok}(hg:Gl X x)(hm:X.mg x=some (.int i tk))(hd:(x==("__debug__" :Str))=false:=by decide):JE X (.Name x pos) (dC (.int i)):=⟨uh (hg:=hg) (hm:=hm) (hd:=hd)⟩
theorem jop {op:hZ}(ho:OpQ X (binaryOp op) f)(ha:JE X a ta)(hb:JE X b tb):JE X (.BinOp a op b pos) (dOp f ta tb):=⟨qop (ho:=ho) (ha:=ha.to) (hb:=hb.to)⟩
theorem km {op:dA}(ho:OpQ X (compareOp op) f)(ha:JE X a ta)(hb:JE X b tb)(hm:behindInMarks op b=false):JE X (.Compare a [op] [b] pos) (dOp f ta tb):=⟨qL (ho:=ho) (ha:=ha.to) (hb:=hb.to) (hm:=hm)⟩
theorem Bs {op:dA}(ho:OpQ X (compareOp op) f)(ha:JE X a ta)(hb:JE X b tb)(hm:behindInMarks op b=false):JT X (.Compare a [op] [b] pos) (WO (dOp f ta tb)):=⟨ui (ho:=ho) (ha:=ha.to) (hb:=hb.to) (hm:=hm)⟩
theorem Kl {op op':dA}(ho:OpQ X (compareOp op) r)(ho':OpQ X (compareOp op') r')(ha:JE X a ta)(hb:JE X b tb)(hc:JE X c tc)(hm:lastMarks [op,op'] [b,c]=false:=by with_unfolding_all rfl):JE X (.Compare a [op,op'] [b,c] pos) (Vx r r' ta tb tc):=⟨Hz (ho:=ho) (ho':=ho') (ha:=ha.to) (hb:=hb.to) (hc:=hc.to) (hm:=hm)⟩
theorem Bv {op op':dA}(ho:OpQ X (compareOp op) r)(ho':OpQ X (compareOp op') r')(ha:JE X a ta)(hb:JE X b tb)(hc:JE X c tc)(hm:lastMarks [op,op'] [b,c]=false:=by with_unfolding_all rfl):JT X (.Compare a [op,op'] [b,c] pos) (WO (Vx r r' ta tb tc)):=⟨Ef (ho:=ho) (ho':=ho') (ha:=ha.to) (hb:=hb.to) (hc:=hc.to) (hm:=hm)⟩
theorem wx (ha:JE X a ta)(he: ∀whole,isTrue a X.env whole=(do let v <-whole;standAt a.pos;holding [v] (truthy v)):=by intro _;rfl):JT X a (WO ta):=⟨uj (ha:=ha.to) (he:=he)⟩
theorem Ln (ha:JT X a tt):JW X (.BoolOp .And [a] pos) tt:=⟨ul (ha:=ha.to)⟩
theorem Mx (ha:JT X a tt):JW X (.BoolOp .Or [a] pos) tt:=⟨qM (ha:=ha.to)⟩
theorem Lo (ha:JT X a tt)(hb:JW X (.BoolOp .And (b::rest) pos) tu):JW X (.BoolOp .And (a::b::rest) pos) (Ec tt tu):=⟨um (ha:=ha.to) (hb:=hb.to)⟩
theorem Rn (ha:JT X a tt)(hb:JW X (.BoolOp .Or (b::rest) pos) tu):JW X (.BoolOp .Or (a::b::rest) pos) (Ho tt tu):=⟨qN (ha:=ha.to) (hb:=hb.to)⟩
theorem yy (ha:JT X a tt):JT X (.UnaryOp .Not a pos) (NZ tt):=⟨uo (ha:=ha.to)⟩
theorem Mz {op:BoolOp}(ha:JE X a ta):JE X (.BoolOp op [a] pos) ta:=⟨qO (ha:=ha.to)⟩
theorem PC (ha:JE X a ta)(hb:JE X (.BoolOp .And (b::rest) pos) tb):JE X (.BoolOp .And (a::b::rest) pos) (FY ta tb):=⟨qP (ha:=ha.to) (hb:=hb.to)⟩
theorem jor (ha:JE X a ta)(hb:JE X (.BoolOp .Or (b::rest) pos) tb):JE X (.BoolOp .Or (a::b::rest) pos) (ud ta tb):=⟨qor (ha:=ha.to) (hb:=hb.to)⟩
theorem jaj (ha:JE X a ta):JE X (.UnaryOp .Not a pos) (FZ ta):=⟨qQ (ha:=ha.to)⟩
theorem jif {c:Expr}(hc:JT X c tt)(ha:JE X a ta)(hb:JE X b tb):JE X (.IfExp c a b pos) (dIf tt ta tb):=⟨qif (hc:=hc.to) (ha:=ha.to) (hb:=hb.to)⟩
theorem Gs:JA X [] Zv:=⟨Ad⟩
theorem FG {k:Nat}(h:JA X es t):JE X (.Tuple es k pos) (uc t):=⟨qR (h:=h.to)⟩
theorem PR (h:JA X es t):JE X (.List es pos) (Te t):=⟨qS (h:=h.to)⟩
end
section
variable {X:Cx}{st:Stmt}{sts:List Stmt}{t u:TSD}{e:Expr}{te:TED}{pos:Pos}
theorem jN:JSs X [] Mq:=⟨HH⟩
theorem jd (h1:JS X st t)(h2:JSs X sts u):JSs X (st::sts) (FC t u):=⟨Ek (h1:=h1.to) (h2:=h2.to)⟩
theorem jf (h1:JS X st t):JSs X [st] t:=⟨HI (h1:=h1.to)⟩
theorem zT (he:JE X e te)(hs:swapsWith e none pos.line X.env=pure false:=by rfl):JS X (.Expr e pos) (Eg te):=⟨uu (he:=he.to) (hs:=hs)⟩
theorem jZ (he:JE X e te):JS X (.Return (some e) pos) (Lb te):=⟨qT (he:=he.to)⟩
theorem Zn {c:Expr}{a b:List Stmt}{tc:TTD}(hc:JT X c tc)(ha:JSs X a t)(hb:JSs X b u):JS X (.If c a b pos) (Tf tc t u):=⟨qU (hc:=hc.to) (ha:=ha.to) (hb:=hb.to)⟩
variable {i:Nat}{x:Str}
theorem jak {pos':Pos}(hN:X.N.Nodup)(hi:X.N[i]? =some x)(hx:Loc X.env.scope x)(he:JE X e te)(hs:swapsWith e (some (.Name x pos')) pos.line X.env=pure false:=by rfl)(hf:X.fn x=true\/X.env.scope.names.lookup x=some .local:=by first|exact .inl rfl|exact .inr rfl|assumption):JS X (.Assign [.Name x pos'] e pos) (FD i te):=⟨qV (hN:=hN) (hi:=hi) (hx:=hx) (he:=he.to) (hs:=hs) (hf:=hf)⟩
theorem EF (hN:X.N.Nodup)(hi:X.N[i]? =some x)(hx:Loc X.env.scope x)(hf:X.fn x=true\/X.env.scope.names.lookup x=some .local:=by first|exact .inl rfl|exact .inr rfl|assumption):JG X (.Name x pos) (gN i):=⟨El (hN:=hN) (hi:=hi) (hx:=hx) (hf:=hf)⟩
theorem Xj {j:Nat}{y:Str}{p1 p2:Pos}{k:Nat}(hc:X.calm=true)(hN:X.N.Nodup)(hi:X.N[i]? =some x)(hj:X.N[j]? =some y)(hx:Loc X.env.scope x)(hy:Loc X.env.scope y)(hf:X.fn x=true\/X.env.scope.names.lookup x=some .local:=by first|exact .inl rfl|exact .inr rfl|assumption)(hf2:X.fn y=true\/X.env.scope.names.lookup y=some .local:=by first|exact .inl rfl|exact .inr rfl|assumption):JG X (.Tuple [.Name x p1,.Name y p2] k pos) (gT2 i j):=⟨HJ (hc:=hc) (hN:=hN) (hi:=hi) (hj:=hj) (hx:=hx) (hy:=hy) (hf:=hf) (hf2:=hf2)⟩
theorem Bw {tg:Expr}{g:TGD}(he:JE X e te)(hg:JG X tg g)(hs:swapsWithSole [tg] e pos.line X.env=pure false:=by rfl)(hsw:swappedStores [tg] e X.env=pure none:=by rfl)(h1:(assignEach [tg] X.env).map (·.2)= [assign tg X.env]:=by rfl):JS X (.Assign [tg] e pos) (uq te g):=⟨qW (he:=he.to) (hg:=hg.to) (hs:=hs) (hsw:=hsw) (h1:=h1)⟩
theorem uL {j:Nat}{y:Str}{a b:Expr}{ta:TAD}{px py pt:Pos}{kt k2 pt2}(hc:X.calm=true)(hN:X.N.Nodup)(hi:X.N[i]? =some x)(hj:X.N[j]? =some y)(hij:i≠j)(hx:X.env.scope.names.lookup x=some .local)(hy:X.env.scope.names.lookup y=some .local)(ha:JA X [a,b] ta)(hw:swappedStores [.Tuple [.Name x px,.Name y py] kt pt] (.Tuple [a,b] k2 pt2) X.env=pure (some [x,y]))(hs:swapsWithSole [.Tuple [.Name x px,.Name y py] kt pt] (.Tuple [a,b] k2 pt2) pos.line X.env=pure false:=by rfl):JS X (.Assign [.Tuple [.Name x px,.Name y py] kt pt] (.Tuple [a,b] k2 pt2) pos) (ur i j ta):=⟨qX (hc:=hc) (hN:=hN) (hi:=hi) (hj:=hj) (hij:=hij) (hx:=hx) (hy:=hy) (ha:=ha.to) (hw:=hw) (hs:=hs)⟩
end
section
variable {X:Cx}{tg e iter elt:Expr}{te:TED}{ti:TID}{g:TGD}{tb:TSD}{tt:TTD}{pos:Pos}{ta:TAD}{scope:J6}{js:List Nat}{ifs:List Expr}
theorem EG (he:JE X e te):JI X tg e (iL te):=⟨Eo (he:=he.to)⟩
theorem uM {p:Pos}{a:Expr}(hg:Gl X "range")(hm:X.mg "range" =none)(ha:JA X [a] ta)(hs:starEach [a] X.env= [(false,eval a X.env)]:=by rfl):JI X tg (.Call (.Name "range" p) [a] [] pos) (iR1 ta):=⟨uA (hg:=hg) (hm:=hm) (ha:=ha.to) (hs:=hs)⟩
theorem Nz {body:List Stmt}(hp:gA (model X.prog X.w) X.A X.env X.xe)(hc:X.calm=true)(hi:JI X tg iter ti)(hg:JG X tg g)(hb:JSs X body tb)(hs: ∀x,foldedSetIterable iter X.env x=pure x:=by intro _;rfl):JS X (.For tg iter body [] pos) (kl ti g tb):=⟨qY (hp:=hp) (hc:=hc) (hi:=hi.to) (hg:=hg.to) (hb:=hb.to) (hs:=hs)⟩
theorem zH:PTs X [] (LT X.K vt):=Ep
theorem VB {c:Expr}(hc:JT X c tt):PTs X [c] (LT X.K tt):=Er (hc:=hc.to)
theorem jlc {i:Nat}{x:Str}{p:Pos}(hc:X.calm=true)(S:BlockOk X scope js)(hi:JI X (.Name x p) iter ti)(hj:i∈js)(hN:X.N.Nodup)(hx:X.N[i]? =some x)(hl:scope.names.lookup x=some .local\/scope.names.lookup x=some .cell)(ht: ∀X',jp X scope X'->PTs X' ifs (LT X'.K tt))(he: ∀X',jp X scope X'->JE X' elt te)(hs: ∀x,foldedSetIterable iter X.env x=pure x:=by intro _;rfl):JE X (.ListComp elt [⟨.Name x p,iter,ifs,0⟩] scope pos) (vL (bN i) js ti tt te):=⟨qlc (hc:=hc) (S:=S) (hi:=hi.to) (hj:=hj) (hN:=hN) (hx:=hx) (hl:=hl) (ht:=ht) (he:=λX' hX=>(he X' hX).to) (hs:=hs)⟩
theorem Am {i j:Nat}{x y:Str}{p1 p2 p3:Pos}{k:Nat}(hc:X.calm=true)(S:BlockOk X scope js)(hi:JI X (.Tuple [.Name x p1,.Name y p2] k p3) iter ti)(hj:i∈js)(hj2:j∈js)(hij:i≠j)(hN:X.N.Nodup)(hx:X.N[i]? =some x)(hy:X.N[j]? =some y)(hl:scope.names.lookup x=some .local\/scope.names.lookup x=some .cell)(hl2:scope.names.lookup y=some .local\/scope.names.lookup y=some .cell)(ht: ∀X',jp X scope X'->PTs X' ifs (LT X'.K tt))(he: ∀X',jp X scope X'->JE X' elt te)(hs: ∀x,foldedSetIterable iter X.env x=pure x:=by intro _;rfl):JE X (.ListComp elt [⟨.Tuple [.Name x p1,.Name y p2] k p3,iter,ifs,0⟩] scope pos) (vL (b2 i j) js ti tt te):=⟨qZ (hc:=hc) (S:=S) (hi:=hi.to) (hj:=hj) (hj2:=hj2) (hij:=hij) (hN:=hN) (hx:=hx) (hy:=hy) (hl:=hl) (hl2:=hl2) (ht:=ht) (he:=λX' hX=>(he X' hX).to) (hs:=hs)⟩
end
section
variable {X:Cx}{k:Nat}{f:Addr}{fd:D8}{ps:List Str}{spd:RDn}{x:Str}{p pos:Pos}{e:Expr}{es:List Expr}{t:TAD}
theorem uN (F:FnOk X.prog X.w X.K X.mg X.base CX0 k f fd ps (LSp X.K spd))(hr:Room k X.A)(hg:Gl X x)(hm:X.mg x=some (.ref f))(hk:PySem.W.keepIn X.K (.ref f)=true)(hb:Binds X.K fd ps [])(ha:JA X (e::es) t)(hdb:(x==("__debug__" :Str))=false:=by decide)(he:starEach (e::es) X.env=(false,eval e X.env)::starEach es X.env:=by rfl)(hpl:(backTo pos (starEach es X.env)).any (·.1)=false:=by rfl):JE X (.Call (.Name x p) (e::es) [] pos) (dCB spd t):=⟨uB (F:=F) (hr:=hr) (hg:=hg) (hm:=hm) (hk:=hk) (hb:=hb) (ha:=ha.to) (hdb:=hdb) (he:=he) (hpl:=hpl)⟩
theorem ze {id:String}{r:RDn}(hc:Jl X (.builtin id) r)(hg:Gl X x)(hm:X.mg x=none)(hv:bootBuiltins x=some (.builtin id))(ha:JA X (e::es) t)(hn:x≠ "__name__" :=by decide)(hdb:(x==("__debug__" :Str))=false:=by decide)(he:starEach (e::es) X.env=(false,eval e X.env)::starEach es X.env:=by rfl)(hpl:(backTo pos (starEach es X.env)).any (·.1)=false:=by rfl):JE X (.Call (.Name x p) (e::es) [] pos) (dCB r t):=⟨HN (hc:=hc) (hg:=hg) (hm:=hm) (hv:=hv) (ha:=ha.to) (hn:=hn) (hdb:=hdb) (he:=he) (hpl:=hpl)⟩
theorem jM {T:String}{r:RDn}(hc:Jl X (.type T) r)(hg:Gl X x)(hm:X.mg x=none)(hv:bootBuiltins x=some (.type T))(ha:JA X (e::es) t)(hn:x≠ "__name__" :=by decide)(hdb:(x==("__debug__" :Str))=false:=by decide)(he:starEach (e::es) X.env=(false,eval e X.env)::starEach es X.env:=by rfl)(hpl:(backTo pos (starEach es X.env)).any (·.1)=false:=by rfl):JE X (.Call (.Name x p) (e::es) [] pos) (dCB r t):=⟨Et (hc:=hc) (hg:=hg) (hm:=hm) (hv:=hv) (ha:=ha.to) (hn:=hn) (hdb:=hdb) (he:=he) (hpl:=hpl)⟩
end
section
variable {X:Cx}{iter elt:Expr}{te:TED}{ti:TID}{tt:TTD}{pos spos:Pos}{scope:J6}{js:List Nat}{ifs:List Expr}
theorem Ro {i k:Nat}{x y:Str}{p py:Pos}(hc:X.calm=true)(hN:X.N.Nodup)(hk:X.N[k]? =some y)(hy:Loc X.env.scope y)(S:BlockOk X scope js)(hi:JI X (.Name x p) iter ti)(hj:i∈js)(hx:X.N[i]? =some x)(hl:scope.names.lookup x=some .local\/scope.names.lookup x=some .cell)(ht: ∀X',jp X scope X'->PTs X' ifs (LT X'.K tt))(he: ∀X',jp X scope X'->JE X' elt te)(hsw:swapsWith (.ListComp elt [⟨.Name x p,iter,ifs,0⟩] scope pos) (some (.Name y py)) spos.line X.env=pure true:=by rfl)(hf:X.fn y=true\/X.env.scope.names.lookup y=some .local:=by first|exact .inl rfl|exact .inr rfl|assumption)(hs: ∀x,foldedSetIterable iter X.env x=pure x:=by intro _;rfl):JS X (.Assign [.Name y py] (.ListComp elt [⟨.Name x p,iter,ifs,0⟩] scope pos) spos) (FD k (vL (bN i) js ti tt te)):=⟨HP (hc:=hc) (hN:=hN) (hk:=hk) (hy:=hy) (S:=S) (hi:=hi.to) (hj:=hj) (hx:=hx) (hl:=hl) (ht:=ht) (he:=λX' hX=>(he X' hX).to) (hsw:=hsw) (hf:=hf) (hs:=hs)⟩
end
section
variable {X:Cx}{iter iter' elt:Expr}{te:TED}{ti ti':TID}{tt tt':TTD}{pos:Pos}{scope:J6}{js:List Nat}{ifs ifs':List Expr}
theorem xY {i i':Nat}{x y:Str}{p py:Pos}(hc:X.calm=true)(S:BlockOk X scope js)(hi:JI X (.Name x p) iter ti)(hj:i∈js)(hj':i'∈js)(hne:i≠i')(hN:X.N.Nodup)(hx:X.N[i]? =some x)(hy:X.N[i']? =some y)(hl:scope.names.lookup x=some .local\/scope.names.lookup x=some .cell)(hl':scope.names.lookup y=some .local\/scope.names.lookup y=some .cell)(ht: ∀X',jp X scope X'->PTs X' ifs (LT X'.K tt))(hi': ∀X',jp X scope X'->JI X' (.Name y py) iter' ti')(ht': ∀X',jp X scope X'->PTs X' ifs' (LT X'.K tt'))(he: ∀X',jp X scope X'->JE X' elt te)(hs: ∀x,foldedSetIterable iter X.env x=pure x:=by intro _;rfl)(hs': ∀env x,foldedSetIterable iter' env x=pure x:=by intro _ _;rfl):JE X (.ListComp elt [⟨.Name x p,iter,ifs,0⟩,⟨.Name y py,iter',ifs',0⟩] scope pos) (Mt (bN i) js ti tt i' ti' tt' te):=⟨jaa (hc:=hc) (S:=S) (hi:=hi.to) (hj:=hj) (hj':=hj') (hne:=hne) (hN:=hN) (hx:=hx) (hy:=hy) (hl:=hl) (hl':=hl') (ht:=ht) (hi':=λX' hX=>(hi' X' hX).to) (ht':=ht') (he:=λX' hX=>(he X' hX).to) (hs:=hs) (hs':=hs')⟩
end
section
variable {X:Cx}{a b e:Expr}{ta tb te:TED}{pos p2:Pos}
theorem jix (ha:JE X a ta)(hb:JE X b tb)(hs:XG b):JE X (.Subscript a b pos) (dOp ixD ta tb):=⟨qix (ha:=ha.to) (hb:=hb.to) (hs:=hs)⟩
end
theorem UO {ta:TED}{T:String}{t:Str}(hT:T∈ ["tuple","int","bool","list","str"])(hg:Gl X "isinstance")(hm:X.mg "isinstance" =none)(hg2:Gl X t)(hm2:X.mg t=none)(hv:bootBuiltins t=some (.type T))(ha:JE X a ta)(hn:t≠ "__name__" :=by decide)(hd:(t==("__debug__" :Str))=false:=by decide)(h1:starEach [a,.Name t p2] X.env=(false,eval a X.env)::starEach [.Name t p2] X.env:=by rfl)(h2:(backTo pos (starEach [.Name t p2] X.env)).any (·.1)=false:=by rfl):JE X (.Call (.Name "isinstance" p) [a,.Name t p2] [] pos) (dIs T ta):=⟨uH (hT:=hT) (hg:=hg) (hm:=hm) (hg2:=hg2) (hm2:=hm2) (hv:=hv) (ha:=ha.to) (hn:=hn) (hd:=hd) (h1:=h1) (h2:=h2)⟩
section
variable {X:Cx}{o e i:Expr}{to te ti:TED}{apos cpos pos:Pos}
theorem EH (ho:JE X o to)(he:JE X e te)(hbase:attributeBase o "append" X.env (eval o X.env)=eval o X.env:=by rfl)(hfew:((backTo cpos (starEach [e] X.env)).all (λx=> !x.1)&&(backToKw cpos (keywordEach [] X.env)).all (λx=>x.1.isSome)&&decide ([e].length+([]:List U0).length+(if ([]:List U0).isEmpty then 0 else 1)<30))=true:=by rfl)(hline:(apos.endLine==cpos.line)=true:=by rfl)(hs:starEach [e] X.env=(false,eval e X.env)::starEach [] X.env:=by rfl)(hplain:(backTo cpos (starEach [] X.env)).any (·.1)=false:=by rfl):JE X (.Call (.Attribute o "append" apos) [e] [] cpos) (xT to te):=⟨jae (ho:=ho.to) (he:=he.to) (hbase:=hbase) (hfew:=hfew) (hline:=hline) (hs:=hs) (hplain:=hplain)⟩
theorem Gt (ho:JE X o to)(hi:JE X i ti)(ha: ∀v,assign (.Subscript o i pos) X.env v=(do
 let ov <-holding [v] (eval o X.env)
 let iv <-holding [v,ov] (eval i X.env)
 standAt pos
 holding [v,ov,iv] (setItem ov iv v)
 release [v,ov,iv] []):=by intro _;rfl):JG X (.Subscript o i pos) (HX to ti):=⟨HY (ho:=ho.to) (hi:=hi.to) (ha:=ha)⟩
end
theorem jpt {e:Expr}{t:TTD}(h:JW X e t):JT X e t:=⟨qpt (h:=h.to)⟩
theorem XU:JO X none Bk:=⟨Ez⟩
variable {te:TED}
theorem WQ {e:Expr}(he:JE X e te):JO X (some e) (HZ te):=⟨EA (he:=he.to)⟩
theorem Gu {e:Expr}{lo hi:Option Expr}{tl th:TOD}(he:JE X e te)(hl:JO X lo tl)(hu:JO X hi th):JE X (.Subscript e (.Slice lo hi none p2) pos) (dSl te tl th):=⟨Ka (he:=he.to) (hl:=hl.to) (hu:=hu.to)⟩
theorem Lp {ta:TED}(ha:JE X a ta):JE X (.UnaryOp .USub a pos) (dUn xV ta):=⟨jag (ha:=ha.to)⟩
theorem jY {tg e:Expr}(he:JE X e te):JI X tg e (iS te):=⟨Ke (he:=he.to)⟩
theorem VC {st:Stmt}:JS X st Ak:=⟨Kf⟩
theorem jac {e:Expr}{es:List Expr}{t:TAD}(ha:JE X e te)(hr:JA X es t)(h:wg e=true:=by rfl):JA X (e::es) (zh te t):=⟨qac (ha:=ha.to) (hr:=hr.to) (h:=h)⟩
section
variable {X:Cx}{o e i:Expr}{to te ti:TED}{apos cpos:Pos}
theorem xZ (ho:JE X o to)(he:JE X e te)(hbase:attributeBase o "index" X.env (eval o X.env)=eval o X.env:=by rfl)(hfew:((backTo cpos (starEach [e] X.env)).all (λx=> !x.1)&&(backToKw cpos (keywordEach [] X.env)).all (λx=>x.1.isSome)&&decide ([e].length+([]:List U0).length+(if ([]:List U0).isEmpty then 0 else 1)<30))=true:=by rfl)(hline:(apos.endLine==cpos.line)=true:=by rfl)(hs:starEach [e] X.env=(false,eval e X.env)::starEach [] X.env:=by rfl)(hplain:(backTo cpos (starEach [] X.env)).any (·.1)=false:=by rfl):JE X (.Call (.Attribute o "index" apos) [e] [] cpos) (xW to te):=⟨jah (ho:=ho.to) (he:=he.to) (hbase:=hbase) (hfew:=hfew) (hline:=hline) (hs:=hs) (hplain:=hplain)⟩
theorem jal (ho:JE X o to)(hi:JE X i ti)(he:JE X e te)(hbase:attributeBase o "insert" X.env (eval o X.env)=eval o X.env:=by rfl)(hfew:((backTo cpos (starEach [i,e] X.env)).all (λx=> !x.1)&&(backToKw cpos (keywordEach [] X.env)).all (λx=>x.1.isSome)&&decide ([i,e].length+([]:List U0).length+(if ([]:List U0).isEmpty then 0 else 1)<30))=true:=by rfl)(hline:(apos.endLine==cpos.line)=true:=by rfl)(hs:starEach [i,e] X.env=(false,eval i X.env)::starEach [e] X.env:=by rfl)(hs2:starEach [e] X.env=(false,eval e X.env)::starEach [] X.env:=by rfl)(hplain:(backTo cpos (starEach [e] X.env)).any (·.1)=false:=by rfl):JE X (.Call (.Attribute o "insert" apos) [i,e] [] cpos) (xX to ti te):=⟨jai (ho:=ho.to) (hi:=hi.to) (he:=he.to) (hbase:=hbase) (hfew:=hfew) (hline:=hline) (hs:=hs) (hs2:=hs2) (hplain:=hplain)⟩
end
theorem EI {ta:TAD}{pos2:Pos}(hc:X.calm=true)(hg:Gl X "list")(hm:X.mg "list" =none)(hg2:Gl X "range")(hm2:X.mg "range" =none)(ha:JA X [a] ta)(hs:starEach [a] X.env= [(false,eval a X.env)]:=by rfl)(h1:starEach [.Call (.Name "range" p2) [a] [] pos2] X.env=(false,eval (.Call (.Name "range" p2) [a] [] pos2) X.env)::starEach [] X.env:=by rfl)(h2:(backTo pos (starEach [] X.env)).any (·.1)=false:=by rfl):JE X (.Call (.Name "list" p) [.Call (.Name "range" p2) [a] [] pos2] [] pos) (Kk ta):=⟨uK (hc:=hc) (hg:=hg) (hm:=hm) (hg2:=hg2) (hm2:=hm2) (ha:=ha.to) (hs:=hs) (h1:=h1) (h2:=h2)⟩
section
variable {P:S3}{w:N2}{K:PySem.W.Frag}{mg:Str->Option G3}{base:Heap}
theorem Fun.okJ {x qual:Str}{st:Stmt}{f:Addr}{fd:D8}{N ps:List Str}{k:Nat}{spd:RDn}(F:Fun K x qual st f fd)(S:FnScope N ps (je st))(len: ∀ds h Q,spd ds h Q->ds.length=ps.length)
 (tb:TSD)(hbody: ∀ (cdv:G3) (A:M7) (outer:List Env) (s:G6) (H:Hp) (E:XK),Room k (A.deeper (envOfC qual (je st) s.heap.objs.size f cdv))->JSs (FR CX0 P w K mg base N qual (je st) f cdv A outer s H E).nox (yh st) tb)
 (read: ∀ds h Q,spd ds h Q->tb (FF Q) (vy N ds) h):FnOk P w K mg base CX0 (k+1) f fd ps (LSp K spd):=F.okD S len tb (λcdv A outer s H E hr=>(hbody cdv A outer s H E hr).to) read
end
def Jr (r:List Int):D:= .tup (r.map D.int)
def jq (T:List (List Int)):D:= .tup (T.map Jr)
def VD (n:Nat)(r:List Int):Prop:=r.length=n/\ ∀x∈r,0<=x/\x<=1000000
def GoodTab (n:Nat)(T:List (List Int)):Prop:=T.length=n/\ ∀r∈T,VD n r
structure Sq (n e:Nat)(T:List (List Int)):Prop where
 len:T.length=n
 row: ∀r∈T,r.length=n
 nn: ∀r∈T,∀x∈r,0<=x
 bit: ∀r∈T,∀x∈r,x<2^e
variable {n:Nat}{T:List (List Int)}
theorem GoodTab.sq (g:GoodTab n T):Sq n 20 T:=⟨g.1,λr hr=>(g.2 r hr).1,λr hr x hx=>((g.2 r hr).2 x hx).1,λr hr x hx=>Int.lt_of_le_of_lt ((g.2 r hr).2 x hx).2 (by decide)⟩
variable {e f:Nat}
theorem Sq.mono (h:Sq n e T)(l:e<=f):Sq n f T:=⟨h.len,h.row,h.nn,λr hr x hx=>gX (h.bit r hr x hx) (by
 have:(2:Nat)^e<=2^f:=bJ (by decide) l;have h2:((2^e:Nat):Int)<=((2^f:Nat):Int):=by exact_mod_cast this
 simpa using h2)⟩
def ent (T:List (List Int))(i j:Nat):Int:=(T.getD i []).getD j 0
def mkT (n:Nat)(f:Nat->Nat->Int):List (List Int):=(G0 n).map λi=>(G0 n).map λj=>f i j
theorem wZ {i j:Nat}{f:Nat->Nat->Int}(hi:i<n)(hj:j<n):ent (mkT n f) i j=f i j:=by
 unfold ent mkT;simp [P5,hi,hj]
theorem zN {α:Type}(xs:List α)(d:α):xs=(G0 xs.length).map λi=>xs.getD i d:=by
 apply W1 (by simp);intro i h1 h2;simp [P5,h1]
theorem Sq.eq_mk (h:Sq n e T):T=mkT n (ent T):=by
 have h1:=zN T [];rw [h.len] at h1;unfold mkT
 conv=>lhs;rw [h1]
 apply S7;intro i hi;have hi':i<T.length:=by rw [h.len];exact G8.mp hi
 have hr:(T.getD i []).length=n:=by
  rw [P5,G1 hi'];exact h.row _ (S9 hi')
 have h2:=zN (T.getD i []) 0;rw [hr] at h2;exact h2
theorem Rq {f g:Nat->Nat->Int}(h: ∀i j,i<n->j<n->f i j=g i j):mkT n f=mkT n g:=by
 unfold mkT;apply S7;intro i hi;apply S7;intro j hj;exact h i j (G8.mp hi) (G8.mp hj)
theorem Sq.of_mk {f:Nat->Nat->Int}(h0: ∀i j,i<n->j<n->0<=f i j)(h1: ∀i j,i<n->j<n->f i j<2^e):Sq n e (mkT n f):=by
 have key: ∀r∈mkT n f,∃i,i<n/\r=(G0 n).map λj=>f i j:=λr hr=>by
  obtain⟨i,hi,e⟩:=D6.mp hr;exact⟨i,G8.mp hi,e.symm⟩
 refine⟨by simp [mkT],λr hr=> ?_,λr hr x hx=> ?_,λr hr x hx=> ?_⟩
 ·obtain⟨i,_,e⟩:=key r hr;rw [e];simp
 ·obtain⟨i,hi,e⟩:=key r hr;rw [e] at hx;obtain⟨j,hj,e2⟩:=D6.mp hx;rw [<-e2];exact h0 i j hi (G8.mp hj)
 ·obtain⟨i,hi,e⟩:=key r hr;rw [e] at hx;obtain⟨j,hj,e2⟩:=D6.mp hx;rw [<-e2];exact h1 i j hi (G8.mp hj)
theorem Sq.ent_nn (h:Sq n e T){i j:Nat}(hi:i<n)(hj:j<n):0<=ent T i j/\ent T i j<2^e:=by
 have hi':i<T.length:=by rw [h.len];exact hi
 have hr:T.getD i []=T[i]:=by rw [P5,G1 hi'];rfl
 have hm:T[i]∈T:=S9 hi';have hj':j<T[i].length:=by rw [h.row _ hm];exact hj
 have he:ent T i j=T[i][j]:=by unfold ent;rw [hr,P5,G1 hj'];rfl
 rw [he];exact⟨h.nn _ hm _ (S9 hj'),h.bit _ hm _ (S9 hj')⟩
variable {U:List (List Int)}
theorem Sq.ext (h:Sq n e T)(g:Sq n f U)(k: ∀i j,i<n->j<n->ent T i j=ent U i j):T=U:=by
 rw [h.eq_mk,g.eq_mk];exact Rq k
def jU (n:Nat)(f:Nat->Int):Int:=((G0 n).map f).sum
theorem vz (f:Nat->Int):jU 0 f=0:=rfl
theorem jJ (n:Nat)(f:Nat->Int):jU (n+1) f=jU n f+f n:=by
 unfold jU;rw [B3,S5,fE];simp
theorem zk {f g:Nat->Int}(h: ∀k,k<n->f k=g k):jU n f=jU n g:=by
 unfold jU;congr 1;apply S7;intro k hk;exact h k (G8.mp hk)
theorem Wk {f:Nat->Int}(h: ∀k,k<n->0<=f k):0<=jU n f:=by
 induction n with
 |zero=>exact U5 _
 |succ n ih=>rw [jJ];have:=ih λk hk=>h k (by omega);have:=h n (by omega);omega
theorem XV {f:Nat->Int}{b:Int}(h: ∀k,k<n->f k<=b):jU n f<=n*b:=by
 induction n with
 |zero=>simp [vz]
 |succ n ih=>
  rw [jJ];have h1:=ih λk hk=>h k (by omega);have h2:=h n (by omega)
  have:((n+1:Nat):Int)*b=(n:Int)*b+b:=by rw [aF,Int.add_mul];simp
  omega
theorem Bx (n:Nat)(f g:Nat->Int):jU n (λk=>f k+g k)=jU n f+jU n g:=by
 induction n with
 |zero=>rfl
 |succ n ih=>rw [jJ,jJ,jJ,ih];omega
theorem VE (n:Nat)(c:Int)(f:Nat->Int):jU n (λk=>c*f k)=c*jU n f:=by
 induction n with
 |zero=>simp [vz]
 |succ n ih=>rw [jJ,jJ,ih,Int.mul_add]
theorem MB (n:Nat)(c:Int)(f:Nat->Int):jU n (λk=>f k*c)=jU n f*c:=by
 rw [eS,<-VE];exact zk λk _=>eS _ _
theorem MC (m n:Nat)(f:Nat->Nat->Int):jU m (λi=>jU n (f i))=jU n (λj=>jU m λi=>f i j):=by
 induction m with
 |zero=>
  rw [vz]
  induction n with
  |zero=>rfl
  |succ n ih=>rw [jJ,<-ih,vz];rfl
 |succ m ih=>
  rw [jJ,ih,<-Bx];exact zk λj _=>(jJ m λi=>f i j).symm
theorem Gv {f:Nat->Int}{i:Nat}(hi:i<n)(h: ∀k,k<n->k≠i->f k=0):jU n f=f i:=by
 induction n with
 |zero=>omega
 |succ n ih=>
  rw [jJ]
  by_cases e:i=n
  ·subst e;have:jU i f=0:=by
    have:jU i f=jU i (λ_=>0*1):=zk λk hk=>by rw [h k (by omega) (by omega)];rfl
    rw [this,VE];simp
   omega
  ·rw [ih (by omega) λk hk hne=>h k (by omega) hne,h n (by omega) (by omega)];omega
theorem By {f:Nat->Int}(h: ∀k,k<n->0<=f k):0<jU n f↔ ∃k,k<n/\0<f k:=by
 induction n with
 |zero=>simp [vz]
 |succ n ih=>
  rw [jJ];have h1:=Wk λk (hk:k<n)=>h k (by omega)
  have h2:=h n (by omega);have ih':=ih λk hk=>h k (by omega)
  constructor
  ·intro z
   by_cases q:0<f n
   ·exact⟨n,by omega,q⟩
   ·obtain⟨k,a,b⟩:=ih'.mp (by omega);exact⟨k,by omega,b⟩
  ·rintro ⟨k,a,b⟩
   by_cases q:k=n
   ·subst q;omega
   ·have:=ih'.mpr ⟨k,by omega,b⟩;omega
def Zo (n:Nat)(T U:List (List Int)):List (List Int):=mkT n λi j=>jU n λk=>ent T i k*ent U k j
theorem Sq.mul (h:Sq n e T)(g:Sq n f U)(hn:n<=8):Sq n (e+f+3) (Zo n T U):=by
 have nn: ∀i j,i<n->j<n-> ∀k,k<n->0<=ent T i k*ent U k j:=λi j hi hj k hk=>fQ (h.ent_nn hi hk).1 (g.ent_nn hk hj).1
 refine Sq.of_mk (λi j hi hj=>Wk (nn i j hi hj)) λi j hi hj=> ?_
 have hle: ∀k,k<n->ent T i k*ent U k j<=2^e*2^f-1:=λk hk=>by
  have a:=h.ent_nn hi hk;have b:=g.ent_nn hk hj;have:ent T i k*ent U k j<2^e*2^f:=by
   have p:(0:Int)<2^f:=lB (by decide)
   calc ent T i k*ent U k j<=ent T i k*2^f:=Int.mul_le_mul_of_nonneg_left (nE b.2) a.1
    _<2^e*2^f:=Int.mul_lt_mul_of_pos_right a.2 p
  omega
 have s:=XV hle;have p:(0:Int)<2^e*2^f:=nY (lB (by decide)) (lB (by decide));have e1:(2:Int)^(e+f+3)=8*(2^e*2^f):=by rw [nZ,nZ];rw [eS];rfl
 rw [e1];have hn':(n:Int)<=8:=by omega
 have:(n:Int)*(2^e*2^f-1)<=8*(2^e*2^f-1):=Int.mul_le_mul_of_nonneg_right hn' (by omega);omega
theorem yH {i j:Nat}(hi:i<n)(hj:j<n):ent (Zo n T U) i j=jU n λk=>ent T i k*ent U k j:=wZ hi hj
def QY (n:Nat):List (List Int):=mkT n λi j=>if i=j then 1 else 0
theorem Sq.one (n:Nat):Sq n 1 (QY n):=Sq.of_mk (f:=λi j=>if i=j then 1 else 0) (λi j _ _=>by split<;>decide) λi j _ _=>by split<;>decide
theorem mul_assoc {g:Nat}{V:List (List Int)}(hT:Sq n e T)(hU:Sq n f U)(hV:Sq n g V)(hn:n<=8):Zo n (Zo n T U) V=Zo n T (Zo n U V):=by
 refine((hT.mul hU hn).mul hV hn).ext (hT.mul (hU.mul hV hn) hn) λi j hi hj=> ?_
 rw [yH hi hj,yH hi hj];have e1:(jU n λk=>ent (Zo n T U) i k*ent V k j)=jU n λk=>jU n λl=>ent T i l*ent U l k*ent V k j:=
  zk λk hk=>by rw [yH hi hk,<-MB]
 have e2:(jU n λl=>ent T i l*ent (Zo n U V) l j)=jU n λl=>jU n λk=>ent T i l*(ent U l k*ent V k j):=
  zk λl hl=>by rw [yH hl hj,<-VE]
 rw [e1,e2,MC];exact zk λl _=>zk λk _=>Int.mul_assoc _ _ _
theorem Rr (hT:Sq n e T)(hn:n<=8):Zo n (QY n) T=T:=by
 refine((Sq.one n).mul hT hn).ext hT λi j hi hj=> ?_
 rw [yH hi hj,Gv hi λk hk hne=>by rw [QY,wZ hi hk,if_neg (A4 hne)];simp];rw [QY,wZ hi hi,if_pos rfl];simp
theorem Lq (hT:Sq n e T)(hn:n<=8):Zo n T (QY n)=T:=by
 refine(hT.mul (Sq.one n) hn).ext hT λi j hi hj=> ?_
 rw [yH hi hj,Gv hj λk hk hne=>by rw [QY,wZ hk hj,if_neg hne];simp];rw [QY,wZ hj hj,if_pos rfl];simp
def zF (n:Nat)(T:List (List Int)):Nat->List (List Int)
 |0=>QY n
 |k+1=>Zo n (zF n T k) T
theorem Sq.pow (hT:Sq n e T)(hn:n<=8): ∀k,Sq n (k*(e+3)+1) (zF n T k)
 |0=>(Sq.one n).mono (by omega)
 |k+1=>((Sq.pow hT hn k).mul hT hn).mono (by rw [cB];omega)
def vj (n:Nat)(T:List (List Int)):List (List Int):=mkT n λi j=>ent T j i
def jO (n:Nat)(T:List (List Int)):List (List Int):=mkT n λi j=>if ent T i j=0 then 0 else 1
def Xk (n:Nat)(o:List Nat)(T:List (List Int)):List (List Int):=mkT n λi j=>ent T (o.idxOf i) (o.idxOf j)
theorem Sq.turn (h:Sq n e T):Sq n e (vj n T):=Sq.of_mk (λi j hi hj=>(h.ent_nn hj hi).1) λi j hi hj=>(h.ent_nn hj hi).2
theorem Sq.mark (T:List (List Int)):Sq n 1 (jO n T):=Sq.of_mk (f:=λi j=>if ent T i j=0 then 0 else 1) (λi j _ _=>by split<;>decide) λi j _ _=>by split<;>decide
structure Ord (n:Nat)(o:List Nat):Prop where
 len:o.length=n
 all: ∀i,i<n->i∈o
theorem Ord.lt {o:List Nat}(h:Ord n o){i:Nat}(hi:i<n):o.idxOf i<n:=by rw [<-h.len];exact C0.mpr (h.all i hi)
theorem Sq.ren {o:List Nat}(h:Sq n e T)(ho:Ord n o):Sq n e (Xk n o T):=Sq.of_mk (λi j hi hj=>(h.ent_nn (ho.lt hi) (ho.lt hj)).1) λi j hi hj=>(h.ent_nn (ho.lt hi) (ho.lt hj)).2
def jP (T:List (List Int)):Bool:=T.all λr=>r.all λx=>decide (x≠0)
theorem PU (n:Nat)(f:Nat->Nat->Int):jP (mkT n f)=true↔ ∀i j,i<n->j<n->f i j≠0:=by
 unfold jP mkT;simp only [A6,S1,G8,C6,decide_eq_true_eq];exact⟨λh i j hi hj=>h i hi j hj,λh i hi j hj=>h i j hi hj⟩
theorem Bz (h:Sq n e T):jP (jO n T)=jP T:=by
 have h1:jP T=jP (mkT n (ent T)):=by rw [<-h.eq_mk]
 rw [h1,T7,jO,PU,PU];constructor
 ·intro z i j hi hj w;exact z i j hi hj (by rw [if_pos w])
 ·intro z i j hi hj w;rw [if_neg (z i j hi hj)] at w;cases w
def MulOk (i j:Int):Prop:= ∃m n:Nat,i.natAbs<2^m/\j.natAbs<2^n/\m+n<=134217728
theorem MulOk.ok {i j:Int}(h:MulOk i j):IntMulOk i j:=by
 obtain⟨m,n,a,b,c⟩:=h;exact .of_le (PySem.intBits_le_iff.mpr a) (PySem.intBits_le_iff.mpr b) c
theorem EJ:OpR X (binaryOp .Mult) (rI MulOk λi j=> .int (i*j)):=opI λ_ _ _ _ _ _ _ hc q=>mul_int q hc.ok
def jam:RD2:=λx y h Q=>match x,y with
 | .int i,.int j=>MulOk i j/\Q (.int (i*j)) h
 |_,_=>False
theorem EK:OpQ X (binaryOp .Mult) jam:=XL (gd:=λi j=> .int (i*j)) EJ (λ_ _ _=>rfl) λx y h Q q=>by
 cases x<;>cases y<;>first|exact False.elim q|exact⟨_,_,rfl,rfl,q.1,q.2⟩
theorem VF {x:Int}(h0:0<=x)(h1:x<2^e):x.natAbs<2^e:=by
 have:((2^e:Nat):Int)=2^e:=by simp
 omega
theorem Lr {x y:Int}(hx:0<=x/\x<2^e)(hy:0<=y/\y<2^f)(h:e+f<=134217728):MulOk x y:=⟨e,f,VF hx.1 hx.2,VF hy.1 hy.2,h⟩
section
variable {α β:Type}{i i':Nat}{js:List Nat}{ti ti':TID}{te:TED}{σ:SD}{h:HD}{Q:KD}{j:ItD}
theorem lcA (xs:List α)(c g:α->D)(hz:xs.length<=1000)(hj:j h=some (xs.map c))(ht: ∀R:ItD->HD->Prop,R j h->ti σ h R)
 (he: ∀x∈xs,∀Q':KD,Q' (g x) h->te ((jI js σ).set i (some (c x))) h Q')(hq: ∀p,h p=none->Q (.lst p) (wb h p (xs.map g))):vL (bN i) js ti vt te σ h Q:=by
 refine ht _ ⟨xs.length,λk ys h'=>h'=h/\ys=(xs.take k).map g,⟨rfl,by simp⟩,?_⟩;rintro k ys h' ⟨rfl,rfl⟩;refine⟨by simp only [G2,R7];exact R1 (jw (by omega)),xs.map c,hj,by simp,λhl p hp=> ?_,λd hd=>⟨_,rfl,?_⟩⟩
 ·rw [R5 (by simpa using hl)];exact hq p hp
 ·unfold vt;dsimp only;rw [if_pos rfl];rw [P1] at hd;cases hx:xs[k]? with
  |none=>rw [hx] at hd;cases hd
  |some x=>
   rw [hx] at hd;cases hd;refine he x (P4 hx) _ ⟨h',Sub.refl _,rfl,?_⟩;rw [T8,hx];simp
theorem lcF (xs:List α)(c g:α->D)(p:α->Bool){tt:TTD}(hz:xs.length<=1000)(hj:j h=some (xs.map c))(ht: ∀R:ItD->HD->Prop,R j h->ti σ h R)
 (hp: ∀x∈xs,∀Q':Bool->HD->Prop,Q' (p x) h->tt ((jI js σ).set i (some (c x))) h Q')(he: ∀x∈xs,p x=true-> ∀Q':KD,Q' (g x) h->te ((jI js σ).set i (some (c x))) h Q')(hq: ∀a,h a=none->Q (.lst a) (wb h a ((xs.filter p).map g))):vL (bN i) js ti tt te σ h Q:=by
 refine ht _ ⟨xs.length,λk ys h'=>h'=h/\ys=((xs.take k).filter p).map g,⟨rfl,by simp⟩,?_⟩;rintro k ys h' ⟨rfl,rfl⟩;refine⟨?_,xs.map c,hj,by simp,λhl a ha=> ?_,λd hd=>⟨_,rfl,?_⟩⟩
 ·have:=C5 p (xs.take k);simp only [G2,R7] at this ⊢;exact R1 (jw (by omega))
 ·rw [R5 (by simpa using hl)];exact hq a ha
 ·rw [P1] at hd;cases hx:xs[k]? with
  |none=>rw [hx] at hd;cases hd
  |some x=>
   rw [hx] at hd;cases hd;refine hp x (P4 hx) _ ?_;cases hb:p x with
   |true=>
    rw [if_pos rfl];refine he x (P4 hx) hb _ ⟨h',Sub.refl _,rfl,?_⟩;rw [T8,hx];simp [hb]
   |false=>
    rw [if_neg D2];refine⟨h',Sub.refl _,rfl,?_⟩;rw [T8,hx];simp [hb]
theorem lcB (xs:List α)(c:α->D)(ys:α->List β)(c':β->D)(g:α->β->D)(hz:(xs.flatMap ys).length<=1000)(hj:j h=some (xs.map c))(ht: ∀R:ItD->HD->Prop,R j h->ti σ h R)
 (hin: ∀x∈xs,∀R:ItD->HD->Prop,R (λ_=>some ((ys x).map c')) h->ti' ((jI js σ).set i (some (c x))) h R)
 (he: ∀x∈xs,∀y∈ys x,∀Q':KD,Q' (g x y) h->te (((jI js σ).set i (some (c x))).set i' (some (c' y))) h Q')(hq: ∀p,h p=none->Q (.lst p) (wb h p (xs.flatMap λx=>(ys x).map (g x)))):Mt (bN i) js ti vt i' ti' vt te σ h Q:=by
 have len: ∀l:List α,(l.flatMap λx=>(ys x).map (g x)).length=(l.flatMap ys).length:=λl=>by
  induction l with
  |nil=>rfl
  |cons x l ih=>simp [C9,ih]
 have lek: ∀k,((xs.take k).flatMap ys).length<=(xs.flatMap ys).length:=λk=>by
  conv=>rhs;rw [<-R8 k xs,O9,P2]
  omega
 have lek1: ∀k x m,xs[k]? =some x->m<=(ys x).length->((xs.take k).flatMap ys).length+m<=(xs.flatMap ys).length:=λk x m hx hm=>by
  have:=lek (k+1);rw [T8,hx,O9,P2] at this;simp at this;simp;omega
 refine ht _ ⟨xs.length,λk zs h'=>h'=h/\zs=(xs.take k).flatMap λx=>(ys x).map (g x),⟨rfl,by simp⟩,?_⟩;rintro k zs h' ⟨rfl,rfl⟩;refine⟨by rw [len];exact R1 (jw (R9 (lek k) hz)),xs.map c,hj,by simp,λhl p hp=> ?_,λd hd=>⟨_,rfl,?_⟩⟩
 ·rw [R5 (by simpa using hl)];exact hq p hp
 ·unfold vt;dsimp only;rw [if_pos rfl];rw [P1] at hd;cases hx:xs[k]? with
  |none=>rw [hx] at hd;cases hd
  |some x=>
   rw [hx] at hd;cases hd;have xm:=P4 hx;refine hin x xm _ ⟨(ys x).length,λm zs h2=>h2=h'/\zs=((xs.take k).flatMap λx=>(ys x).map (g x))++((ys x).take m).map (g x),⟨rfl,by simp⟩,?_⟩;rintro m zs h2 ⟨rfl,rfl⟩;refine⟨?_,(ys x).map c',rfl,by simp,λhl=>⟨h2,Sub.refl _,rfl,?_⟩,λd hd=> ?_⟩
   ·rw [P2,len,G2,R7];have:=lek1 k x (min m (ys x).length) hx (V8 _ _);exact R1 (jw (by omega))
   ·have hm:(ys x).take m=ys x:=R5 (by simpa using hl);rw [hm,T8,hx,O9];simp
   ·rw [P1] at hd;cases hy:(ys x)[m]? with
    |none=>rw [hy] at hd;cases hd
    |some y=>
     rw [hy] at hd;cases hd
     first
      |rw [if_pos rfl]
      |(dsimp only;rw [if_pos rfl])
     refine he x xm y (P4 hy) _ ⟨h2,Sub.refl _,rfl,?_⟩;rw [T8,hy];simp
theorem QZ (xs:List α)(c g:α->D)(hz:xs.length<=1000)(hj:j h=some (xs.map c))(ht: ∀R:ItD->HD->Prop,R j h->ti σ h R)
 (he: ∀x∈xs,∀Q':KD,Q' (g x) h->te ((jI js σ).set i (some (c x))) h Q')(hq:Q (.tup (xs.map g)) h):dCB Yx (zh (vL (bN i) js ti vt te) Zv) σ h Q:=by
 show vL (bN i) js ti vt te σ h (λx h1=>Yx [x] h1 Q);exact lcA xs c g hz hj ht he λp hp=>(show ∃ys,wb h p (xs.map g) p=some ys/\Q (.tup ys) (UN (wb h p (xs.map g)) p) from ⟨_,jc,by rw [zw hp];exact hq⟩)
theorem uO (xs:List α)(c g:α->D)(p:α->Bool){tt:TTD}(hz:xs.length<=1000)(hj:j h=some (xs.map c))(ht: ∀R:ItD->HD->Prop,R j h->ti σ h R)
 (hp: ∀x∈xs,∀Q':Bool->HD->Prop,Q' (p x) h->tt ((jI js σ).set i (some (c x))) h Q')(he: ∀x∈xs,p x=true-> ∀Q':KD,Q' (g x) h->te ((jI js σ).set i (some (c x))) h Q')(hq:Q (.tup ((xs.filter p).map g)) h):dCB Yx (zh (vL (bN i) js ti tt te) Zv) σ h Q:=by
 show vL (bN i) js ti tt te σ h (λx h1=>Yx [x] h1 Q);exact lcF xs c g p hz hj ht hp he λa ha=>(show ∃ys,wb h a ((xs.filter p).map g) a=some ys/\Q (.tup ys) (UN (wb h a ((xs.filter p).map g)) a) from ⟨_,jc,by rw [zw ha];exact hq⟩)
theorem qc (xs:List α)(c:α->D)(g:α->Int)(hz:xs.length<=1000)(hj:j h=some (xs.map c))(ht: ∀R:ItD->HD->Prop,R j h->ti σ h R)
 (he: ∀x∈xs,∀Q':KD,Q' (.int (g x)) h->te ((jI js σ).set i (some (c x))) h Q')(hq:Q (.int (xs.map g).sum) h):dCB Ki (zh (vL (bN i) js ti vt te) Zv) σ h Q:=by
 show vL (bN i) js ti vt te σ h (λx h1=>Ki [x] h1 Q);exact lcA xs c (λx=> .int (g x)) hz hj ht he λp hp=>⟨p,xs.map g,rfl,by rw [jc,R3];rfl,by rw [zw hp];exact hq⟩
theorem qd (xs:List α)(c:α->D)(g:α->Bool)(hz:xs.length<=1000)(hj:j h=some (xs.map c))(ht: ∀R:ItD->HD->Prop,R j h->ti σ h R)
 (he: ∀x∈xs,∀Q':KD,Q' (.bl (g x)) h->te ((jI js σ).set i (some (c x))) h Q')(hq:Q (.bl (xs.all g)) h):dCB Lh (zh (vL (bN i) js ti vt te) Zv) σ h Q:=by
 show vL (bN i) js ti vt te σ h (λx h1=>Lh [x] h1 Q);exact lcA xs c (λx=> .bl (g x)) hz hj ht he λp hp=>⟨p,xs.map g,rfl,by rw [jc,R3];rfl,by rw [zw hp,A6];exact hq⟩
theorem jan (xs:List α)(c:α->D)(g:α->Bool)(hz:xs.length<=1000)(hj:j h=some (xs.map c))(ht: ∀R:ItD->HD->Prop,R j h->ti σ h R)
 (he: ∀x∈xs,∀Q':KD,Q' (.bl (g x)) h->te ((jI js σ).set i (some (c x))) h Q')(hq:Q (.bl (xs.any g)) h):dCB HW (zh (vL (bN i) js ti vt te) Zv) σ h Q:=by
 show vL (bN i) js ti vt te σ h (λx h1=>HW [x] h1 Q);exact lcA xs c (λx=> .bl (g x)) hz hj ht he λp hp=>⟨p,xs.map g,rfl,by rw [jc,R3];rfl,by rw [zw hp,aX];exact hq⟩
theorem qe (xs:List α)(c:α->D)(ys:α->List β)(c':β->D)(g:α->β->Bool)(hz:(xs.flatMap ys).length<=1000)(hj:j h=some (xs.map c))(ht: ∀R:ItD->HD->Prop,R j h->ti σ h R)
 (hin: ∀x∈xs,∀R:ItD->HD->Prop,R (λ_=>some ((ys x).map c')) h->ti' ((jI js σ).set i (some (c x))) h R)
 (he: ∀x∈xs,∀y∈ys x,∀Q':KD,Q' (.bl (g x y)) h->te (((jI js σ).set i (some (c x))).set i' (some (c' y))) h Q')(hq:Q (.bl (xs.all λx=>(ys x).all (g x))) h):dCB Lh (zh (Mt (bN i) js ti vt i' ti' vt te) Zv) σ h Q:=by
 show Mt (bN i) js ti vt i' ti' vt te σ h (λx h1=>Lh [x] h1 Q);refine lcB xs c ys c' (λx y=> .bl (g x y)) hz hj ht hin he λp hp=> ?_
 ·have e:(xs.flatMap λx=>(ys x).map λy=>D.bl (g x y))=(xs.flatMap λx=>(ys x).map (g x)).map D.bl:=by
   clear hz hj ht hin he hq
   induction xs with
   |nil=>rfl
   |cons x l ih=>simp [C9,ih,R3]
  refine⟨p,xs.flatMap λx=>(ys x).map (g x),rfl,by rw [jc,e],?_⟩;rw [zw hp];have e2:(xs.flatMap λx=>(ys x).map (g x)).all id=xs.all λx=>(ys x).all (g x):=by
   clear hz hj ht hin he hq e
   induction xs with
   |nil=>rfl
   |cons x l ih=>simp [C9,ih,A6]
  rw [e2];exact hq
end
end L2
namespace L2
open PySem PySem.Spec PyProof.Rows PySem.SeqAt
def uP (j:ItD):TID:=λ_ h R=>R j h
def jC (o:List Nat):D:= .tup (o.map λ(k:Nat)=>D.int (k:Int))
def Ordr (n:Nat)(o:List Nat):Prop:=o.Perm (G0 n)
variable {n:Nat}{o:List Nat}
theorem Ordr.ord (h:Ordr n o):Ord n o:=⟨by rw [h.length_eq,G5],λi hi=>h.mem_iff.mpr (G8.mpr hi)⟩
def zU (o:List Nat):List Int:=o.map λ(k:Nat)=>(k:Int)
theorem VG (o:List Nat):jC o= .tup ((zU o).map D.int):=by unfold jC zU;rw [R3];rfl
theorem Ls (o:List Nat)(i:Nat):(zU o).idxOf (i:Int)=o.idxOf i:=by
 induction o with
 |nil=>rfl
 |cons a o ih=>
  show ((a:Int)::zU o).idxOf (i:Int)=_;rw [lM,lM,ih]
  by_cases e:a=i
  ·subst e;simp
  ·have e1:(a==i)=false:=by simpa using e
   have e2:((a:Int)==(i:Int))=false:=by simp;omega
   rw [e1,e2]
variable {i:Nat}
theorem Rs (h:i∈o):(i:Int)∈zU o:=D6.mpr ⟨i,h,rfl⟩
theorem Gw: ∀n:Nat,(zU (G0 n)).Pairwise (· <= ·):=λn=>by
 unfold zU;rw [F4];exact List.pairwise_le_range.imp λh=>by omega
theorem Ordr.insert (h:Ordr n o)(k:Nat):Ordr (n+1) (o.take k++n::o.drop k):=by
 unfold Ordr;rw [B3];refine dQ.trans ?_;rw [R8];exact(oS n h).trans (List.perm_append_singleton n _).symm
theorem zV (h:HD): ∀ns:List Int,ToPs h (ns.map D.int) (ns.map W7)
 | []=>rfl
 |n::ns=>⟨_,_,rfl,rfl,zV h ns⟩
theorem yI: ∀ns:List Int,L8 (ns.map W7)=true
 | []=>rfl
 |n::ns=>by show (H0 (.int n)&&_)=true;rw [yI ns];rfl
theorem VH: ∀ns:List Int,B6 (ns.map W7) (ns.map W7)=true
 | []=>rfl
 |n::ns=>by show ((n==n)&&B6 _ _)=true;rw [VH ns];simp
theorem Zh: ∀ns:List Int,L0 (ns.map W7)<=1
 | []=>by simp [L0]
 |n::ns=>by
  have:=Zh ns;simp only [T3,L0,U6];omega
theorem wR (ns:List Int):shaped (.list (ns.map .int))=true:=by
 unfold shaped;have h1:H0 (.list (ns.map .int))=true:=by simp only [H0];exact yI ns
 have h2:=Zh ns;have h3:U6 (.list (ns.map .int))<=64:=by simp only [U6];omega
 rw [h1,decide_eq_true h3];rfl
def UJ (r:List Int):K5:= .tuple (r.map .int)
def BA (T:List (List Int)):K5:= .tuple (T.map UJ)
theorem Gx (h:HD): ∀T:List (List Int),ToPs h (T.map Jr) (T.map UJ)
 | []=>rfl
 |r::T=>⟨_,_,rfl,⟨_,rfl,zV h r⟩,Gx h T⟩
theorem PV (h:HD)(T:List (List Int)):ToP h (jq T) (BA T):=⟨_,rfl,Gx h T⟩
theorem ZJ: ∀T:List (List Int),L8 (T.map UJ)=true
 | []=>rfl
 |r::T=>by
  show (H0 (UJ r)&&_)=true;rw [ZJ T];have:H0 (UJ r)=true:=by unfold UJ;simp only [H0];exact yI r
  rw [this];rfl
theorem WR: ∀T:List (List Int),L0 (T.map UJ)<=3
 | []=>by simp [L0]
 |r::T=>by
  have:=WR T;have h2:=Zh r;simp only [T3,L0,U6,UJ];omega
theorem Xl (T:List (List Int)):shaped (BA T)=true:=by
 unfold shaped;have h1:H0 (BA T)=true:=by unfold BA;simp only [H0];exact ZJ T
 have h2:=WR T;have h3:U6 (BA T)<=64:=by unfold BA;simp only [U6];omega
 rw [h1,decide_eq_true h3];rfl
variable {e:Nat}{T:List (List Int)}
theorem yi (h:Sq n e T){i:Nat}(hi:i<n):atI (T.map Jr) (i:Int)=some (Jr (T.getD i [])):=by
 have hi':i<T.length:=by rw [h.len];exact hi
 exact zG (by rw [P1,P5,G1 hi'];rfl)
theorem Sq.getRow (h:Sq n e T){i:Nat}(hi:i<n):T.getD i []∈T:=by
 have hi':i<T.length:=by rw [h.len];exact hi
 rw [P5,G1 hi'];exact S9 hi'
theorem yj {r:List Int}(h:r.length=n){j:Nat}(hj:j<n):atI (r.map D.int) (j:Int)=some (.int (r.getD j 0)):=by
 have hj':j<r.length:=by rw [h];exact hj
 exact zG (by rw [P1,P5,G1 hj'];rfl)
theorem Gy (n:Nat)(f:Nat->Nat->Int):D.tup ((G0 n).map λi=>D.tup ((G0 n).map λj=>D.int (f i j)))=jq (mkT n f):=by
 unfold jq Jr mkT;rw [R3]
 congr 1
 apply S7;intro i _;simp [R3,X7]
theorem EL (T:List (List Int))(f:Int->Int):D.tup (T.map λr=>D.tup (r.map λx=>D.int (f x)))=jq (T.map λr=>r.map f):=by
 unfold jq Jr;rw [R3]
 congr 1
 apply S7;intro r _;simp [R3,X7]
theorem EM (h:Sq n e T):jO n T=T.map λr=>r.map λx=>if x≠0 then 1 else 0:=by
 conv=>rhs;rw [h.eq_mk]
 unfold jO mkT;rw [R3];apply S7;intro i _;simp only [C6,R3];apply S7;intro j _;simp only [C6]
 by_cases z:ent T i j=0
 ·rw [if_pos z,if_neg (by simpa using z)]
 ·rw [if_neg z,if_pos z]
theorem Lt (h:Sq n e T)(h6:n<=6):(T.flatMap λr=>r).length<=1000:=by
 have: ∀U:List (List Int),(∀r∈U,r.length=n)->(U.flatMap λr=>r).length=U.length*n:=λU=>by
  induction U with
  |nil=>intro _;simp
  |cons r U ih=>
   intro hU;rw [C9,P2,ih λr hr=>hU r (D5 _ hr),hU r D0,R0,cB];omega
 rw [this T h.row,h.len];have:=fS h6 h6;omega
variable {U:List (List Int)}
theorem Lu (h:Sq n e T):(T.map λr=>D.tup ((G0 n).map λj=>D.int (jU n λm=>r.getD m 0*ent U m j)))=(Zo n T U).map Jr:=by
 conv=>lhs;rw [zN T [],h.len]
 unfold Zo mkT;rw [R3,R3];apply S7;intro i _;simp only [C6,Jr,R3];rfl
theorem pow_add (h:Sq n e T)(hn:n<=8)(a:Nat): ∀b,zF n T (a+b)=Zo n (zF n T a) (zF n T b)
 |0=>by rw [show zF n T 0=QY n from rfl,Lq (h.pow hn a) hn];rfl
 |b+1=>by
  show Zo n (zF n T (a+b)) T=Zo n (zF n T a) (Zo n (zF n T b) T);rw [pow_add h hn a b,mul_assoc (h.pow hn a) (h.pow hn b) h hn]
theorem BB (h:Sq n e T)(hn:n<=8):zF n T 1=T:=Rr h hn
theorem VI (h:Sq n e T)(hn:n<=8)(b:Nat):zF n T (b+1)=Zo n T (zF n T b):=by
 rw [Y6,pow_add h hn,BB h hn]
variable {j:Nat}
theorem zP (hi:i<n)(hj:j<n):ent (vj n T) i j=ent T j i:=wZ hi hj
variable {f:Nat}
theorem Lv (h:Sq n e T)(g:Sq n f U)(hn:n<=8):vj n (Zo n T U)=Zo n (vj n U) (vj n T):=
 (h.mul g hn).turn.ext (g.turn.mul h.turn hn) λi j hi hj=>by
  rw [zP hi hj,yH hj hi,yH hi hj];exact zk λk hk=>by rw [zP hi hk,zP hk hj,eS]
theorem Lw (n:Nat):vj n (QY n)=QY n:=
 (Sq.one n).turn.ext (Sq.one n) λi j hi hj=>by
  rw [zP hi hj,QY,wZ hj hi,wZ hi hj]
  by_cases e:i=j
  ·rw [if_pos e,if_pos e.symm]
  ·rw [if_neg e,if_neg (λz=>e z.symm)]
theorem Rt (h:Sq n e T)(hn:n<=8): ∀k,vj n (zF n T k)=zF n (vj n T) k
 |0=>Lw n
 |k+1=>by
  rw [VI h hn,Lv h (h.pow hn k) hn,Rt h hn k];rfl
theorem Lx {a b:List Int}(h:a.Perm b):a.sum=b.sum:=by
 induction h with
 |nil=>rfl
 |cons x _ ih=>simp [ih]
 |swap x y l=>simp;omega
 |trans _ _ i1 i2=>rw [i1,i2]
theorem Ordr.nodup (h:Ordr n o):o.Nodup:=h.symm.nodup dR
theorem BC (h:Ordr n o)(f:Nat->Int):jU n (λm=>f (o.idxOf m))=jU n f:=by
 unfold jU;have h1:((G0 n).map λm=>f (o.idxOf m)).sum=(o.map λm=>f (o.idxOf m)).sum:=Lx (h.symm.map _);have hl:=h.ord.len;have h2:(o.map λm=>f (o.idxOf m))=(G0 n).map f:=by
  apply W1 (by simp [hl]);intro i a b;simp only [K7,F8];rw [h.nodup.idxOf_getElem]
 rw [h1,h2]
theorem vk (hi:i<n)(hj:j<n):ent (Xk n o T) i j=ent T (o.idxOf i) (o.idxOf j):=wZ hi hj
theorem EN (h : Sq n e T) (g : Sq n f U) (ho : Ordr n o) (hn : n ≤ 8) : Xk n o (Zo n T U) = Zo n (Xk n o T) (Xk n o U) :=
  ((h.mul g hn).ren ho.ord).ext ((h.ren ho.ord).mul (g.ren ho.ord) hn) fun i j hi hj => by
    rw [vk hi hj, yH (ho.ord.lt hi) (ho.ord.lt hj), yH hi hj, ← BC ho]
    exact zk fun k hk => by rw [vk hi hk, vk hk hj]
theorem EO (ho:Ordr n o){i j:Nat}(hi:i<n)(hj:j<n)(e:o.idxOf i=o.idxOf j):i=j:=by
 have a:o.idxOf i<o.length:=by rw [ho.ord.len];exact ho.ord.lt hi
 have b:o.idxOf j<o.length:=by rw [ho.ord.len];exact ho.ord.lt hj
 have c:=F7 a;have d:=F7 b;rw [<-c,<-d];simp only [e]
theorem EQ (ho : Ordr n o) : Xk n o (QY n) = QY n :=
  ((Sq.one n).ren ho.ord).ext (Sq.one n) fun i j hi hj => by
    rw [vk hi hj, QY, wZ (ho.ord.lt hi) (ho.ord.lt hj), wZ hi hj]
    by_cases e : i = j
    · rw [if_pos e, if_pos (by rw [e])]
    · rw [if_neg e, if_neg (fun z => e (EO ho hi hj z))]
theorem BD (h:Sq n e T)(ho:Ordr n o)(hn:n<=8): ∀k,Xk n o (zF n T k)=zF n (Xk n o T) k
 |0=>EQ ho
 |k+1=>by
  show Xk n o (Zo n (zF n T k) T)=Zo n (zF n (Xk n o T) k) (Xk n o T);rw [EN (h.pow hn k) h ho hn,BD h ho hn k]
theorem XW (hi:i<n)(hj:j<n):ent (jO n T) i j=if ent T i j=0 then 0 else 1:=wZ hi hj
theorem XX (h: ∀i j,i<n->j<n->(ent T i j=0↔ent U i j=0)):jO n T=jO n U:=Rq λi j hi hj=>by
 by_cases z:ent T i j=0
 ·rw [if_pos z,if_pos ((h i j hi hj).mp z)]
 ·rw [if_neg z,if_neg (λw=>z ((h i j hi hj).mpr w))]
theorem zW (hi:i<n)(hj:j<n):ent (jO n T) i j=0↔ent T i j=0:=by
 rw [XW hi hj]
 by_cases z:ent T i j=0
 ·rw [if_pos z];simp [z]
 ·rw [if_neg z];simp [z]
theorem BE (T:List (List Int)):jO n (jO n T)=jO n T:=XX λi j hi hj=>zW hi hj
theorem ya (h:Sq n e T)(g:Sq n f U)(hi:i<n)(hj:j<n):ent (Zo n T U) i j≠0↔ ∃k,k<n/\ent T i k≠0/\ent U k j≠0:=by
 rw [yH hi hj];have nn: ∀k,k<n->0<=ent T i k*ent U k j:=λk hk=>fQ (h.ent_nn hi hk).1 (g.ent_nn hk hj).1
 have s:=Wk nn;have p:=By nn;constructor
 ·intro z;obtain⟨k,hk,w⟩:=p.mp (by omega);refine⟨k,hk,λq=> ?_,λq=> ?_⟩
  ·rw [q] at w;simp at w
  ·rw [q] at w;simp at w
 ·rintro ⟨k,hk,a,b⟩ z;have c:=(h.ent_nn hi hk).1;have d:=(g.ent_nn hk hj).1;have:0<ent T i k*ent U k j:=nY (by omega) (by omega);have:=p.mpr ⟨k,hk,this⟩;omega
theorem Ru (h:Sq n e T)(g:Sq n f U):jO n (Zo n T U)=jO n (Zo n (jO n T) (jO n U)):=
 XX λi j hi hj=>by
  have a:=ya h g hi hj;have b:=ya (Sq.mark (n:=n) T) (Sq.mark (n:=n) U) hi hj;have c:(∃k,k<n/\ent T i k≠0/\ent U k j≠0)↔ ∃k,k<n/\ent (jO n T) i k≠0/\ent (jO n U) k j≠0:=
   ⟨λ⟨k,hk,x,y⟩=>⟨k,hk,λz=>x ((zW hi hk).mp z),λz=>y ((zW hk hj).mp z)⟩,λ⟨k,hk,x,y⟩=>⟨k,hk,λz=>x ((zW hi hk).mpr z),λz=>y ((zW hk hj).mpr z)⟩⟩
  exact⟨λz=>J0 λw=>(a.mpr (c.mpr (b.mp w))) z,λz=>J0 λw=>(b.mpr (c.mp (a.mp w))) z⟩
theorem vM (h:Sq n e T):jP T=true↔ ∀i j,i<n->j<n->ent T i j≠0:=by
 have h1:jP T=jP (mkT n (ent T)):=by rw [<-h.eq_mk]
 rw [h1,PU]
theorem BF {a:Nat}(h:Sq n e T)(hn:n<=8)(ha:0<a)(f:jP (zF n T a)=true):jP (zF n T (a+1))=true:=by
 rw [vM (h.pow hn _)] at f ⊢;intro i j hi hj;obtain⟨b,rfl⟩: ∃b,a=b+1:=⟨a-1,by omega⟩;have z:=f i j hi hj;rw [VI h hn b,ya h (h.pow hn b) hi hj] at z;obtain⟨k,hk,x,_⟩:=z;rw [VI h hn (b+1),ya h (h.pow hn (b+1)) hi hj];exact⟨k,hk,x,f k j hk hj⟩
theorem XY {a:Nat}(h:Sq n e T)(hn:n<=8)(ha:0<a)(f:jP (zF n T a)=true): ∀b,jP (zF n T (a+b))=true
 |0=>f
 |b+1=>BF (a:=a+b) h hn (by omega) (XY h hn ha f b)
theorem Ordr.map_idx (h:Ordr n o):o.map (λm=>o.idxOf m)=G0 n:=by
 have hl:=h.ord.len;apply W1 (by simp [hl]);intro i a b;simp only [K7,F8];rw [h.nodup.idxOf_getElem]
def Gz (n:Nat)(o:List Nat):List Nat:=(G0 n).map λi=>o.idxOf i
theorem Ordr.back (h:Ordr n o):Ordr n (Gz n o):=by
 have:=h.symm.map (λm=>o.idxOf m);rw [h.map_idx] at this;exact this
theorem Rv (h:Ordr n o){i:Nat}(hi:i<n):o.idxOf ((Gz n o).idxOf i)=i:=by
 have a:(Gz n o).idxOf i<(Gz n o).length:=by rw [h.back.ord.len];exact h.back.ord.lt hi
 have b:=F7 a;have c:(Gz n o)[(Gz n o).idxOf i]=o.idxOf ((Gz n o).idxOf i):=by simp only [Gz,K7,F8]
 rw [<-c];exact b
section
variable {prog:S3}{w:N2}{A:M7}{E:G3->G6->Prop}{s:G6}
variable {items:Array G3}
theorem BG {it t:Addr}{i n:Nat}{d1 d2:Option Addr}{s1 s2:Array (Option G3)}{P:PySem.Fin->G6->Prop}(a1:s.heap.get? it=some {cls:= .type "tuple_iterator",dict:=d1,data:= .fields #[.ref t,.int i 0],slots:=s1})(a2:s.heap.get? t=some {cls:= .type "tuple",dict:=d2,data:= .seq items n,slots:=s2})
 (more: ∀x h',items[i]? =some x->h'.IsTupleIter it t (i+1)->Y5 it s.heap h'->P (.done (.ret x)) {s with heap:=h'})
 (none_:items[i]? =none->wpAny (model prog w) A (do setField (.ref it) 0 .none;U7) P E s):wpAny (model prog w) A (Builtin.«tuple_iterator.__next__» ⟨[.ref it],[]⟩) P E s:=by
 obtain⟨hp,g,d,tk,os⟩:=s
 wp_walk
 rw [dE];cases hx:items[i]? with
 |none=>exact wpAny_bind (bD (none_ hx))
 |some x=>
  refine wpAny_bind (mJ a1 rfl (by simp) (P7 (more x _ hx ⟨_,X5 _ a1 ?_,rfl,?_⟩ (Z6 ..))))
  ·rfl
  ·simp [bH,rawInt]
theorem PX {Q:PySem.Fin->G6->Prop}(hh:A.handled=none)(hE: ∀h' e,(∀b o,s.heap.get? b=some o->h'.get? b=some o)->(∃o,h'.get? e=some o/\o.cls= .type "StopIteration")->E (.ref e) {s with heap:=h'}):wpAny (model prog w) A U7 Q E s:=by
 obtain⟨hp,g,d,tk,os⟩:=s;unfold U7
 wp_walk
 unfold raiseNew;refine wpAny_bind (wpAny_handled ?_);rw [hh];exact wpAny_bind (P7 (wpAny_throw (hE _ _ (λb o q=>G7 _ (G7 _ q)) ⟨_,D7 _ rfl,rfl⟩)))
theorem WS {it t:Addr}{i:Nat}{x:G3}{Q:G3->G6->Prop}(hit:s.heap.IsTupleIter it t i)(ht:s.heap.IsTuple t items)(hx:items[i]? =some x)
 (hQ: ∀h',h'.IsTupleIter it t (i+1)->Y5 it s.heap h'->Q x {s with heap:=h'}):wpAny (model prog w) A (O5 (.ref it)) Q E s:=by
 obtain⟨⟨c,d1,dt,s1⟩,ho,rfl,rfl⟩:=id hit;obtain⟨⟨c2,d2,dt2,s2⟩,hol,rfl,nl,rfl⟩:=ht;exact wpAny_bind (A9 hit.typeIs K9 (L5 K9 hit.typeIs cC (BG ho hol (λy h' e b1 b2=>⟨y,rfl,P7 (by rw [hx] at e;cases e;exact hQ h' b1 b2)⟩) λe=>by rw [hx] at e;cases e) (bR _)))
theorem wX {it t:Addr}{i:Nat}{Q:G3->G6->Prop}(hh:A.handled=none)(hit:s.heap.IsTupleIter it t i)(ht:s.heap.IsTuple t items)(hx:items[i]? =none)
 (hE: ∀h' e,lC it s.heap h'->(∃o,h'.get? e=some o/\o.cls= .type "StopIteration")->E (.ref e) {s with heap:=h'}):wpAny (model prog w) A (O5 (.ref it)) Q E s:=by
 obtain⟨⟨c,d1,dt,s1⟩,ho,rfl,rfl⟩:=id hit;obtain⟨⟨c2,d2,dt2,s2⟩,hol,rfl,nl,rfl⟩:=ht;refine wpAny_bind (A9 hit.typeIs K9 (L5 K9 hit.typeIs cC (BG ho hol (λy h' e b1 b2=>by rw [hx] at e;cases e) λ_=>wpAny_bind (mJ ho rfl (by simp) ?_)) (bR _)));exact PX (s:= {s with heap:=_}) hh λh' e grown stop=>hE h' e (λb o ne q=>grown b o ((Z6 ..).extBut b o ne q)) stop
end
variable {prog:S3}{w:N2}{A:M7}
theorem BH (hh:A.handled=none)(it t:Addr)(hne:t≠it)(items:Array G3):
 Draws prog w A it [it,t] items.size (λi v=>items[i]? =some v) (λi h=>h.IsTupleIter it t i/\h.IsTuple t items) where
 live:=λ_ _ st=>let ⟨o,ho,_⟩:=st.1;⟨o,ho⟩
 frame:=λ_ _ _ st hk=>⟨st.1.at λo e=>hk it (by simp) o e,st.2.at λo e=>hk t (by simp) o e⟩
 item:=λi s Q E hi st hQ=>WS st.1 st.2 (x:=items[i]) (by simp [hi]) λh' hit' hs'=>hQ _ h' s.toks (by simp [hi]) ⟨hit',st.2.extBut hs'.extBut hne⟩ hs'
 done:=λs Q E st hE=>wX hh st.1 st.2 (by simp) hE
theorem BI (hh:A.handled=none)(it t:Addr)(items:Array G3)(n:Nat)(hn:items.size<=n):
 Draws prog w A it [it,t] n (λ_ _=>False) (λi h=>i=n/\h.IsTupleIter it t n/\h.IsTuple t items) where
 live:=λ_ _ st=>let ⟨o,ho,_⟩:=st.2.1;⟨o,ho⟩
 frame:=λ_ _ _ st hk=>⟨st.1,st.2.1.at λo e=>hk it (by simp) o e,st.2.2.at λo e=>hk t (by simp) o e⟩
 item:=λi s Q E hi st hQ=>absurd st.1 (S0 hi)
 done:=λs Q E st hE=>wX hh st.2.1 st.2.2 (eT hn) hE
section
variable {prog:S3}{w:N2}{A:M7}{E:G3->G6->Prop}{s:G6}
theorem BJ {l:Addr}{its:Array G3}{P:PySem.Fin->G6->Prop}(at_:s.heap.IsTuple l its)
 (h: ∀h',gY h' (s.heap.objs.size+1) s.heap.objs.size 0 .none->h'.IsTupleIter s.heap.objs.size l 0->(∀b o,s.heap.get? b=some o->h'.get? b=some o)->P (.done (.ret (.ref (s.heap.objs.size+1)))) {s with heap:=h'}):
 wpAny (model prog w) A (Builtin.«enumerate.__new__» ⟨[.type "enumerate",.ref l],[]⟩) P E s:=by
 have fine:=mU;obtain⟨⟨c,dd,dt,sl⟩,there,rfl,n,rfl⟩:=id at_;obtain⟨hp,g,d,tk,os⟩:=s;have size: ∀o,(hp.push o).objs.size=hp.objs.size+1:=λo=>V9 ..
 have made:=D7 (hp.push {cls:= .type "tuple_iterator",data:= .fields #[.ref l,.int 0 0]}) (o:= {cls:= .type "enumerate",data:= .fields #[.none,.bool false,.ref hp.objs.size,rawInt 0,.none,.none]}) rfl;have fin:=h _ (by rw [<-size];exact made) ⟨_,G7 _ (D7 _ rfl),rfl,rfl⟩ λb o old=>G7 _ (G7 _ old)
 rw [<-size {cls:= .type "tuple_iterator",data:= .fields #[.ref l,.int 0 0]}] at fin
 wp_walk using A3 there
 refine lN λcalls=>P7 ?_
 split
 case h_1 c _ _ _ _ _=>cases c==J3 "enumerate" <;>(wp_walk using A3 there,J5 at_;exact fin)
 case h_2=>wp_walk using A3 there,J5 at_;exact fin
theorem XZ {l:Addr}{items:Array G3}{Q:G3->G6->Prop}(hL:s.heap.IsTuple l items)
 (h: ∀h',gY h' (s.heap.objs.size+1) s.heap.objs.size 0 .none->h'.IsTupleIter s.heap.objs.size l 0->(∀b o,s.heap.get? b=some o->h'.get? b=some o)->Q (.ref (s.heap.objs.size+1)) {s with heap:=h'}):
 wpAny (model prog w) A (call (.type "enumerate") [.ref l]) Q E s:=
 callType_new gZ (by decide) (F.typeCall_enumerate_1 _) (F.newCall_enumerate_1 _) (λ_=>F.args_object_init_2 _ _) fH
  (S:=λ_ R s=>s.heap.IsTuple l items/\ ∀h',gY h' (s.heap.objs.size+1) s.heap.objs.size 0 .none->h'.IsTupleIter s.heap.objs.size l 0->(∀b o,s.heap.get? b=some o->h'.get? b=some o)->R (.ok (.ret (.ref (s.heap.objs.size+1)))) {s with heap:=h'})
  (.of_wp λ_ _ _ _ _ ⟨tup,k⟩=>BJ tup λh' e i old=>⟨_,rfl,k h' e i old⟩) ⟨hL,λh' e i old=>⟨⟨_,e,rfl⟩,h h' e i old⟩⟩
end
section
variable {X:Cx}{pins:List (Addr×Obj)}{σ:List (Option V)}{H:Hp}{s:G6}{h':Heap}
theorem Inv.turnL {t':Nat}{ch:List Addr}(I:Inv X pins σ H s)(k: ∀b o,b ∉ ch->s.heap.get? b=some o->h'.get? b=some o)(hc: ∀b∈ch,Nx X pins H b):Inv X pins σ H {s with heap:=h',toks:=t'}:=by
 refine I.step (g':=s.gens) (d':=s.drawn) (ch:=ch) (λb hb=>let ⟨_,f1,_,f3,f4,f5⟩:=hc b hb;⟨f3,f1,f4,f5⟩) (λb o _ _ nb e _=>k b o nb e) (λb o _ _ nb e _=>⟨o.slots,k b o nb e⟩) (λ_ _ _ _ n=>n)
  (λb o nb e=>⟨o,k b o nb e⟩) (λ_ _ e=>e) (λ_ _ _ e=>e) (λb ps e=>⟨#[],by rw [e];simp⟩) (λm hm=> ?_) (λb u e=> ?_) I.bare
 ·obtain⟨o,es,ep,ho,r⟩:=hm;exact⟨o,es,ep,k _ o (λz=>(hc _ z).2.1 rfl) ho,r⟩
 ·refine(I.hok b u e).stay (λc v hb q=>k c v (λz=> ?_) q) (λ_ q=>q) λ_ _ q=>q
  have f:=(hc c z).1;rcases hb with w|w
  ·rw [w,e] at f;cases f
  ·rw [w] at f;cases f
theorem Inv.turnLaid {t':Nat}{ch:List Addr}{a:Addr}{o:HO}(I:Inv X pins σ H s)(k: ∀b u,b ∉ ch->s.heap.get? b=some u->h'.get? b=some u)(hc: ∀b∈ch,Nx X pins H b)(hp:s.heap.objs.size<=a)
 (new:ObjOk X.prog X.w (upd H a o) h' a o):Inv X pins σ (upd H a o) {s with heap:=h',toks:=t'}:=by
 have hn:=I.hok.fresh hp;refine I.step (g':=s.gens) (d':=s.drawn) (ch:=ch) (λb hb=>let ⟨_,f1,_,f3,f4,f5⟩:=hc b hb;⟨f3,f1,f4,f5⟩) (λb u _ _ nb e _=>k b u nb e) (λb u _ _ nb e _=>⟨u.slots,k b u nb e⟩)
  (λb u _ e n=>by rw [jx (S0 (T1 (P9 e) hp))];exact n) (λb u nb e=>⟨u,k b u nb e⟩) (λb xs q=>by rw [jx (jt q hn)];exact q) (λb u xs q=>by rw [jx (jt q hn)];exact q)
  (λb ps q=>⟨#[],by rw [jx (jt q hn),q];simp⟩) (λm hm=> ?_) (λb u e=> ?_) I.bare
 ·obtain⟨u,es,ep,ho,r⟩:=hm;exact⟨u,es,ep,k _ u (λz=>(hc _ z).2.1 rfl) ho,r⟩
 ·by_cases hb:b=a
  ·subst hb;rw [jy] at e;cases e;exact new
  ·rw [jx hb] at e;refine(I.hok b u e).stay (λc v hb q=>k c v (λz=> ?_) q) (λc q=>by rw [jx (jt q hn)];exact q) λc xs q=>by rw [jx (jt q hn)];exact q
   have f:=(hc c z).1;rcases hb with w|w
   ·rw [w,e] at f;cases f
   ·rw [w] at f;cases f
end
def Ite (K:PySem.W.Frag)(a:Addr):It:=
 ⟨λi H=> ∃xs x,SqT K H a xs/\xs[i]? =some x,λi H x H'=> ∃p v,H p=none/\(∀xs,SqT K H a xs->xs[i]? =some v)/\x= .ref p/\H'=upd H p (.tup [.int i,v]),λi H=> ∃xs,SqT K H a xs/\xs.length<=i⟩
variable {K:PySem.W.Frag}
theorem BK {P:S3}{es:List Expr}{k:Nat}{pos:Pos}(a it e:Addr)(hei:e≠it)(hae:a≠e)(hai:a≠it):Turn P w K (.Tuple es k pos) (Ite K a) [e,it] e (λi h=>(∃old,gY h e it i old)/\h.IsTupleIter it a i) where
 mem:=by simp
 obj:=λi h st b hb=>by
  rcases R6.mp hb with z|z
  ·subst z;obtain⟨old,q⟩:=st.1;exact⟨_,q,λv z=>by cases z⟩
  ·have z:=G9.mp z;subst z;obtain⟨o,q,c,d⟩:=st.2;exact⟨o,q,λv z=>by rw [d] at z;cases z⟩
 keep:=λi h h' st k=>⟨let ⟨old,q⟩:=st.1;⟨old,k e (by simp) _ q⟩,st.2.at λo q=>k it (by simp) o q⟩
 item:=by
  intro X hP hw hK hc i pins s σ H E I hf st hg;subst hP hw hK;obtain⟨xs,x,hq,hx⟩:=hg;obtain⟨its,rv,p,hz⟩:=I.tuple hq;obtain⟨u,hu,ru⟩:=rv.get hx;have hi:i<its.toArray.size:=by have:=(P3.mp hu).1;simpa using this
  obtain⟨old,he⟩:=st.1;have helt:e<s.heap.objs.size:=P9 he;refine aP (BH (prog:=X.prog) (w:=X.w) (A:=X.A.in1) (I.ok.hd hc) it a hai its.toArray) he ⟨st.2,p⟩ hi hei (by simp [hei,A4 hae]) λx' h' tk hx' ho hs' hT hsz hk=> ?_
  have ex:x'=u:=M0 (hx'.symm.trans (show its.toArray[i]? =some u by simpa using hu));subst ex;refine⟨_,rfl,Y1 ho λh2 he2 hs2=> ?_⟩;have hn:H s.heap.objs.size=none:=I.hok.fresh (P0 _);have hT2:h2.get? s.heap.objs.size=some {cls:= .type "tuple",data:= .seq #[.int i tk,x']}:=(hs2.2 _ (E4 helt)).trans hT;refine⟨.ref s.heap.objs.size,upd H s.heap.objs.size (.tup [.int i,x]),?_,rfl,⟨_,x,hn,λys hy=>by rw [I.tuple_inj hy hq];exact hx,rfl,rfl⟩,⟨⟨x',by simpa using he2⟩,hs'.1.at λo y=>(hs2.2 it (A4 hei)).trans y⟩,λb hb=> ?_⟩
  ·refine I.turnLaid (h':=h2) (t':=tk+1) (ch:= [e,it]) (λb u hb q=> ?_) hf (P0 _) ⟨by show 2<=sizeLine;decide,[.int i tk,x'],.cons ⟨tk,rfl⟩ (.cons ru .nil),⟨_,hT2,rfl,rfl,_,rfl⟩⟩;have b1:b≠e:=λz=>hb (by simp [z])
   have b2:b≠it:=λz=>hb (by simp [z])
   exact(hs2.2 b b1).trans (hk b u b1 b2 q)
  ·have f:=(hf b hb).1;have:b≠s.heap.objs.size:=λz=>by
    rcases R6.mp hb with w|w
    ·rw [<-w,z] at helt;exact absurd helt (N6 _)
    ·have w:=G9.mp w;obtain⟨o,ho',_⟩:=st.2;have:=P9 ho';rw [<-w,z] at this;exact absurd this (N6 _)
   rw [jx this];exact f
 done:=by
  intro X hP hw hK hc i pins s σ H E I hf st hg;subst hP hw hK;obtain⟨xs,hq,hx⟩:=hg;obtain⟨its,rv,p,hz⟩:=I.tuple hq;obtain⟨old,he⟩:=st.1;have hl:=rv.length;refine aZ (BI (prog:=X.prog) (w:=X.w) (A:=X.A.in1) (I.ok.hd hc) it a its.toArray i (by simp;omega)) he ⟨rfl,st.2,p⟩ λh' hx'=>⟨rfl,I.turnL (t':=s.toks) (ch:= [it]) (λb o hb q=>hx' b o (λz=>hb (by simp [z])) q) λb hb=>hf b (D5 _ hb)⟩
 self:=λ_ _ _ _ _ st h=>let ⟨_,q⟩:=st.1;U8 q h
section
variable {X:Cx}
def qg (K:PySem.W.Frag)(ta:TA):TI:=λσ H R=>ta σ H λvs H1=> ∃a,vs= [.ref a]/\(∃xs,SqT K H1 a xs)/\R (Ite K a) H1
theorem ER {es:List Expr}{k:Nat}{tp:Pos}{a:Expr}{ta:TA}{p pos:Pos}(hg:Gl X "enumerate")(hm:X.mg "enumerate" =none)(ha:PA X [a] ta)(hs:starEach [a] X.env= [(false,eval a X.env)]:=by rfl):
 PI X (.Tuple es k tp) (.Call (.Name "enumerate" p) [a] [] pos) (qg X.K ta):=by
 intro pins s σ H R I h;refine nU (Zt I hg hm (show bootBuiltins "enumerate" =some (.type "enumerate") by decide +kernel) (C4 (thn (ha pos pins s σ H _ I h) λus s1 ⟨vs,H1,I1,r1,q1⟩=> ?_) hs rfl));obtain⟨a,e,⟨xs,hq⟩,q⟩:=q1;subst e;cases r1 with
 |cons r rr=>
  cases rr;cases r;obtain⟨its,rv,p,hz⟩:=I1.tuple hq;have hlt:a<s1.heap.objs.size:=by obtain⟨o,ho,_⟩:=p;exact P9 ho
  refine XZ (show s1.heap.IsTuple a its.toArray from p) λh' he hit hk=> ?_
  refine U8 he ?_;refine⟨s1.heap.objs.size+1,[s1.heap.objs.size+1,s1.heap.objs.size],_,_,H1,rfl,I1.kept (t':=s1.toks) hk,BK a s1.heap.objs.size (s1.heap.objs.size+1) (E4 (L6 _)) (S0 (J9 hlt)) (S0 hlt),⟨⟨_,he⟩,hit⟩,λb hb=> ?_,q⟩;have hb':s1.heap.objs.size<=b:=by
   rcases R6.mp hb with w|w
   ·rw [w];exact dD _
   ·rw [G9.mp w];exact P0 _
  exact I1.fpOk hb' (I1.hok.fresh hb')
end
def UK (ds:List D):List D:=ds.zipIdx.map λp=> .tup [.int (p.2:Int),p.1]
def iE (ta:TAD):TID:=λσ h R=>ta σ h λxs h1=> ∃ds,xs= [.tup ds]/\R (λ_=>some (UK ds)) h1
theorem Vi {ds:List D}{d:D}(h:(UK ds)[i]? =some d): ∃x,ds[i]? =some x/\d= .tup [.int (i:Int),x]:=by
 unfold UK at h;rw [P1,Y2] at h;cases q:ds[i]? with
 |none=>rw [q] at h;cases h
 |some x=>
  rw [q] at h;refine⟨x,rfl,?_⟩;have h':some (D.tup [.int ((0+i:Nat):Int),x])=some d:=h;rw [A7] at h';exact(M0 h').symm
theorem wS (ds:List D):(UK ds).length=ds.length:=by simp [UK]
section
variable {K:PySem.W.Frag}
theorem BL {H:Hp}{a:Addr}{vs:List V}{ds:List D}(hv:H a=some (.tup vs))(r:RelDs K H ds vs):FE K H (λ_=>some (UK ds)) (Ite K a):=λH' h' k rh ds' e i=>by
 cases e;have hv':=k.tup _ _ hv;have r':=r.mono k;refine⟨λd hd=> ?_,λhl=>⟨vs,SqT.of hv',by rw [<-r.length,<-wS];exact hl⟩⟩;obtain⟨x,hx,ed⟩:=Vi hd;subst ed;obtain⟨v,e1,e2⟩:=r'.get hx;refine⟨⟨vs,v,SqT.of hv',e1⟩,λx' H'' ⟨p,v',hp,hx',ex,eH⟩=> ?_⟩;subst ex eH;have ev:v'=v:=by have:=hx' vs (SqT.of hv');rw [e1] at this;exact(M0 this).symm
 subst ev;have k2:Kept H' (upd H' p (.tup [.int i,v'])):= .new hp;exact⟨k2,RelH.new rh hp,p,[.int i,v'],rfl,jy,_,_,rfl,rfl,_,_,rfl,e2.mono k2,rfl⟩
theorem ES {ta:TAD}: ∀σ H R,LI K (iE ta) σ H R->qg K (LA K ta) σ H R:=λσ H R ⟨oW,h,Rd,rs,rh,q,p⟩=>
 LA.bind rs rh q λds vs h1 H1 k1 rs1 rh1 r1 ⟨es,e,q1⟩=>by
  subst e;obtain⟨v,e,r2⟩:=jD r1;obtain⟨a,ws,e',hv,r⟩:=(show ∃a vs,v= .ref a/\H1 a=some (.tup vs)/\RelDs K H1 es vs from r2);subst e';exact⟨a,e,⟨ws,SqT.of hv⟩,p _ _ _ _ k1 rh1 (BL hv r) q1⟩
end
section
variable {X:Cx}
theorem Qa {es:List Expr}{k:Nat}{tp:Pos}{a:Expr}{ta:TAD}{p pos:Pos}(hg:Gl X "enumerate")(hm:X.mg "enumerate" =none)(ha:JA X [a] ta)(hs:starEach [a] X.env= [(false,eval a X.env)]:=by rfl):
 JI X (.Tuple es k tp) (.Call (.Name "enumerate" p) [a] [] pos) (iE ta):=⟨(ER hg hm ha.to hs).imp ES⟩
end
def BM (c:TTD)(tb:TSD):TSD:=λD σ h=> ∃W:Nat->SD->HD->Prop,(∃m,W m σ h)/\ ∀m oV h',W m oV h'->c oV h' λb h1=>
 if b=true then tb {D with nx:=λoY h2=> ∃m' h3,m'<m/\Sub h3 h2/\W m' oY h3,ct:=λoY h2=> ∃m' h3,m'<m/\Sub h3 h2/\W m' oY h3,bk:=D.nx} oV h1 else D.nx oV h1
theorem Ly {c:TTD}{tb:TSD}: ∀D σ H,LS K (BM c tb) D σ H->OZ (LT K c) (LS K tb) D σ H:=λD σ H ⟨oW,h,Dd,rs,rh,⟨W,⟨m0,w0⟩,turn⟩,nx,rt,bk,ct⟩=>by
 refine⟨λm oV H'=>Kept H H'/\ ∃oZ h',RelS K H' oZ oV/\RelH K h' H'/\W m oZ h',⟨m0,.refl _,oW,h,rs,rh,w0⟩,?_⟩;rintro m oV H' ⟨kp,oZ,h',rs',rh',w⟩;refine LT.bind rs' rh' (turn m oZ h' w) λb h1 H1 k1 rs1 rh1 q1=> ?_
 cases b with
 |false=>
  rw [if_neg D2] at q1 ⊢;exact nx _ _ _ _ (kp.trans k1) rs1 rh1 q1
 |true=>
  rw [if_pos rfl] at q1 ⊢;have kk:Kept H H1:=kp.trans k1;refine⟨λoY H2=>Kept H H2/\ ∃m',m'<m/\ ∃o8 h2,RelS K H2 o8 oY/\RelH K h2 H2/\W m' o8 h2,λoY H2 ⟨k2,m',hm,a,b,c,d,e⟩=>⟨m',hm,k2,a,b,c,d,e⟩,?_⟩;exact⟨oZ,h1,_,rs1,rh1,q1,λa b c d k4 rs4 rh4 ⟨m',h4,hm,sb,w4⟩=>⟨kk.trans k4,m',hm,a,h4,rs4,rh4.sub sb,w4⟩,jT rt kk,λa b c d k4 rs4 rh4 q4=>nx a b c d (kk.trans k4) rs4 rh4 q4,λa b c d k4 rs4 rh4 ⟨m',h4,hm,sb,w4⟩=>⟨kk.trans k4,m',hm,a,h4,rs4,rh4.sub sb,w4⟩⟩
section
variable {X:Cx}{pos:Pos}
theorem GA {c:Expr}{body:List Stmt}{tc:TTD}{tb:TSD}(hp:gA (model X.prog X.w) X.A X.env X.xe)(hc:JT X c tc)(hb:JSs X body tb):JS X (.While c body [] pos) (BM tc tb):=⟨(FL hp hc.to hb.to).imp Ly⟩
end
theorem Wl {c:TTD}{tb:TSD}{E:EndsD}{σ:SD}{h:HD}(W:Nat->SD->HD->Prop)(m:Nat)(w0:W m σ h)
 (turn: ∀m oV h',W m oV h'->c oV h' λb h1=>if b=true then tb {E with nx:=λoY h2=> ∃m' h3,m'<m/\Sub h3 h2/\W m' oY h3,ct:=λoY h2=> ∃m' h3,m'<m/\Sub h3 h2/\W m' oY h3,bk:=E.nx} oV h1 else E.nx oV h1):BM c tb E σ h:=⟨W,⟨m,w0⟩,turn⟩
def Off (W:List Addr)(h h':Heap):Prop:=h'.objs.size=h.objs.size/\ ∀b o,b ∉ W->h.get? b=some o->h'.get? b=some o
theorem Off.refl (W:List Addr)(h:Heap):Off W h h:=⟨rfl,λ_ _ _ e=>e⟩
theorem Off.of {c:Addr}{W:List Addr}{h h':Heap}(x:Y5 c h h')(m:c∈W):Off W h h':=⟨x.1,λb o n e=>x.extBut b o (λq=>n (q ▸ m)) e⟩
theorem Off.trans {W:List Addr}{h h' h'':Heap}(x:Off W h h')(y:Off W h' h''):Off W h h'':=⟨y.1.trans x.1,λb o n e=>y.2 b o n (x.2 b o n e)⟩
abbrev BN (f0:G3)(b1:Bool)(TI TO:Addr):Obj:= {cls:= .type "zip",dict:=none,data:= .fields #[f0,.bool b1,.bool false,.ref TI,.ref TO],slots:= #[]}
def ZipAt (h:Heap)(z TI TO:Addr):Prop:= ∃f0 b1,h.get? z=some (BN f0 b1 TI TO)/\(f0= .none\/ ∃a t,f0= .int a t)
theorem ZipAt.off {h h':Heap}{z TI TO:Addr}{W:List Addr}(Z:ZipAt h z TI TO)(o:Off W h h')(n:z ∉ W):ZipAt h' z TI TO:=let ⟨f,b,e,q⟩:=Z;⟨f,b,o.2 _ _ n e,q⟩
section
variable {prog:S3}{w:N2}{A:M7}{E:G3->G6->Prop}{s:G6}{z TI TO i1 i2:Addr}
theorem Lz {Q:Bool->G6->Prop}(Z:ZipAt s.heap z TI TO)(k: ∀b h',ZipAt h' z TI TO->Off [z] s.heap h'->Q b {s with heap:=h'}):wpAny (model prog w) A (gP (.ref z)) Q E s:=by
 obtain⟨f0,b1,hz,hf⟩:=id Z;have stay:=λb=>k b s.heap Z (Off.refl _ _)
 rcases hf with rfl|⟨a,t,rfl⟩
 ·wp_walk
  exact stay true
 ·have read: ∀ {P:Option Obj->G6->Prop} {E':G3->G6->Prop},P (s.heap.get? a.toNat) s->wpAny (model prog w) A (loadIfAlive a.toNat) P E' s:=λp _ _ _=>p
  wp_walk using read
  cases s.heap.get? a.toNat with
  |none=>exact P7 (stay true)
  |some o=>
   wp_walk
   cases b1 with
   |true=>exact P7 (stay false)
   |false=>exact wpAny_bind <| aK hz (by simp) λh' z' same=>P7 (k false h' ⟨_,_,z',.inr ⟨a,t,rfl⟩⟩ (.of same (by simp)))
structure ZApart (z TI TO i1 i2:Addr):Prop where
 z1:z≠i1
 z2:z≠i2
 zO:z≠TO
 zI:z≠TI
 O1:TO≠i1
 O2:TO≠i2
 OI:TO≠TI
 I1:TI≠i1
 I2:TI≠i2
abbrev Km (z:Addr)(h:Heap)(E:G3->G6->Prop):G3->G6->Prop:=λe s'=>(∀o,h.get? z=some o->s'.heap.get? z=some o)/\ ∀h',lC z s'.heap h'->E e {s' with heap:=h'}
theorem BO {Q:G3->G6->Prop}(ap:ZApart z TI TO i1 i2)(Z:ZipAt s.heap z TI TO)(hTI:Q0 s.heap TI (.ref i1) (.ref i2))(hTO: ∃a b,Q0 s.heap TO a b)
 (go: ∀o7,Off [z] s.heap o7->(∃o,o7.get? z=some o/\o.cls= .type "zip")->wpAny (model prog w) A (O5 (.ref i1)) (λx oX=>Off [i1] o7 oX.heap/\ ∀o9,Off [TO] oX.heap o9->
  wpAny (model prog w) A (O5 (.ref i2)) (λy o6=>Off [i2] o9 o6.heap/\ ∀pB,(∀b o,b ∉ [z,TO]->o6.heap.get? b=some o->pB.get? b=some o)->Q0 pB o6.heap.objs.size x y->
   ZipAt pB z TI TO->Q0 pB TI (.ref i1) (.ref i2)->(∃a b,Q0 pB TO a b)->Q (.ref o6.heap.objs.size) {o6 with heap:=pB}) (Km z o9 E) {oX with heap:=o9}) (Km z o7 E) {s with heap:=o7}):
 wpAny (model prog w) A (Builtin.«zip.__next__» ⟨[.ref z],[]⟩) (λfin s'=> ∃v,fin= .done (.ret v)/\Q v s') E s:=by
 obtain⟨f0,b1,hz,hf⟩:=id Z;have ask:=λ{P:Bool->G6->Prop} {E':G3->G6->Prop} (k: ∀b h',ZipAt h' z TI TO->Off [z] s.heap h'->P b {s with heap:=h'})=>Lz (prog:=prog) (w:=w) (A:=A) (E:=E') Z k
 wp_walk using ask
 intro b h₀ pU pR;have p8:=pR.2 _ _ (by simp [ap.zI.symm]) hTI;obtain⟨a',b',p9⟩: ∃a b,Q0 h₀ TO a b:=let ⟨a,b,e⟩:=hTO;⟨a,b,pR.2 _ _ (by simp [ap.zO.symm]) e⟩;cases b with
 |false=>
  have d1:=go h₀ pR (let ⟨_,_,e,_⟩:=pU;⟨_,e,rfl⟩);rw [if_neg (by decide)];refine wpAny_bind ?_;rw [<-Array.forIn_toList];simp only [bQ,mK];refine wpAny_bind (wpAny_bind (A2 ?_));refine wpAny_bind (m:=O5 (.ref i1)) (S6 d1 (λx oX d=>P7 (P7 ?_)) λe s' f=>f.2 s'.heap λ_ _ _ e=>e);obtain⟨o1,d2⟩:=d;refine wpAny_bind (wpAny_bind (A2 ?_));refine wpAny_bind (m:=O5 (.ref i2)) (S6 (d2 oX.heap (.refl _ _)) (λy o6 d=>P7 (P7 (P7 ?_))) λe s' f=>f.2 s'.heap λ_ _ _ e=>e);obtain⟨o2,fin⟩:=d;show wpAny _ _ (newTuple [x,y] >>= _) _ _ _;have n1: ∀ {b},b≠i1->b ∉ [i1]:=λh=>by simpa using h
  have n2: ∀ {b},b≠i2->b ∉ [i2]:=λh=>by simpa using h
  have rH:=(pU.off o1 (n1 ap.z1)).off o2 (n2 ap.z2);have keep: ∀ {b o},b≠i1->b≠i2->h₀.get? b=some o->(o6.heap.push {cls:= .type "tuple",data:= .seq #[x,y]}).get? b=some o:=λq1 q2 e=>G7 _ (o2.2 _ _ (n2 q2) (o1.2 _ _ (n1 q1) e))
  refine wpAny_bind (mL (P7 ⟨_,rfl,fin _ (λb o _ e=>G7 _ e) (D7 _ rfl) ?_ (keep ap.I1 ap.I2 p8) ⟨_,_,keep ap.O1 ap.O2 p9⟩⟩));exact let ⟨f,b,e,q⟩:=rH;⟨f,b,G7 _ e,q⟩
 |true=>
  obtain⟨f0',b1',rJ,_⟩:=pU;have note:=λ{P:Unit->G6->Prop} {E':G3->G6->Prop} (k: ∀h',h'.get? z=some (BN .ellipsis b1' TI TO)->Y5 z h₀ h'->P () {s with heap:=h'})=>
   aK (prog:=prog) (w:=w) (A:=A) (E:=E') (s:= {s with heap:=h₀}) (k:=0) (x:= .ellipsis) rJ (by simp) k
  wp_walk using note
  intro o7 pV pH;have pJ:Off [z] s.heap o7:=pR.trans (.of pH (by simp));have rK:=pH.extBut _ _ ap.zO.symm p9;have rL:=pH.extBut _ _ ap.zI.symm p8;have fell: ∀ {h:Heap} {e:G3} {s':G6},h.get? z=some (BN .ellipsis b1' TI TO)->Km z h E e s'->wpAny (model prog w) A (setField (.ref z) 0 .none) (λ_ s''=>E e s'') E s':=λhz' f=>
   aK (f.1 _ hz') (by simp) λh' _ same=>f.2 h' same.extBut
  have draw:=λ{P:G3->G6->Prop} {E':G3->G6->Prop} (k: ∀x oX,_->P x oX) (f: ∀e s',Km z o7 E e s'->E' e s')=>S6 (go o7 pJ ⟨_,pV,rfl⟩) k f
  wp_walk using mV,draw
  case f=>exact λe s' f=>fell pV f
  intro x oX ⟨o1,go2⟩;have rM:=o1.2 _ _ (by simp [ap.z1]) pV;have rN:Q0 oX.heap TO a' b':=o1.2 _ _ (by simp [ap.O1]) rK;have rO:=o1.2 _ _ (by simp [ap.I1]) rL;have lay:=λ{P:Unit->G6->Prop} {E':G3->G6->Prop}=>fT (prog:=prog) (w:=w) (A:=A) (E:=E') (s:=oX) (k:=0) (x:=x) (Q:=P) rN
  wp_walk using lay
  intro o9 pW pK
  replace pW:Q0 o9 TO x b':=pW
  have rA:=pK.extBut _ _ ap.zO rM;have rP:=pK.extBut _ _ ap.OI.symm rO;have draw2:=λ{P:G3->G6->Prop} {E':G3->G6->Prop} (k: ∀y o6,_->P y o6) (f: ∀e s',Km z o9 E e s'->E' e s')=>S6 (go2 o9 (.of pK (by simp))) k f
  wp_walk using mV,draw2
  case f=>exact λe s' f=>fell rA f
  intro y o6 ⟨o2,fin⟩;have rQ:=o2.2 _ _ (by simp [ap.z2]) rA;have rR:Q0 o6.heap TO x b':=o2.2 _ _ (by simp [ap.O2]) pW;have rS:=o2.2 _ _ (by simp [ap.I2]) rP;have lay2:=λ{P:Unit->G6->Prop} {E':G3->G6->Prop}=>fT (prog:=prog) (w:=w) (A:=A) (E:=E') (s:=o6) (k:=1) (x:=y) (Q:=P) rR
  wp_walk using lay2
  intro pM pX pS
  replace pX:Q0 pM TO x y:=pX
  have rB:=pS.extBut _ _ ap.zO rQ;have rT:=pS.extBut _ _ ap.OI.symm rS
  wp_walk
  have size:pM.objs.size=o6.heap.objs.size:=pS.1;have zp:=G7 {cls:= .type "tuple",data:= .seq #[x,y]} rB;have zu:=X5 (bH λv=>v.setIfInBounds 0 (rawInt pM.objs.size)) zp rfl;have zu':=X5 (bH λv=>v.setIfInBounds 1 (V3 false)) zu rfl;have away: ∀ {b o},b≠z->(pM.push {cls:= .type "tuple",data:= .seq #[x,y]}).get? b=some o->
   (((pM.push {cls:= .type "tuple",data:= .seq #[x,y]}).update z (bH λv=>v.setIfInBounds 0 (rawInt pM.objs.size))).update z (bH λv=>v.setIfInBounds 1 (V3 false))).get? b=some o:=λn e=>
   (Z6 ..).extBut _ _ n ((Z6 ..).extBut _ _ n e)
  have new:=away (b:=pM.objs.size) (λq=>N6 _ (q ▸ P9 rB)) (D7 _ rfl);refine⟨_,rfl,?_⟩;have done:=fin _ (λb o n e=>away (λq=>n (by simp [q])) (G7 _ (pS.extBut _ _ (λq=>n (by simp [q])) e))) (size ▸ new) ⟨_,_,zu',.inr ⟨_,_,rfl⟩⟩ (away ap.zI.symm (G7 _ rT)) ⟨_,_,away ap.zO.symm (G7 _ pX)⟩;rw [<-size] at done;exact done
theorem ET {tg : Expr} {v : G3} {Q : Unit → G6 → Prop} (Z : ZipAt s.heap z TI TO) (k : ∀ h', ZipAt h' z TI TO → Off [z] s.heap h' → Q () { s with heap := h' }) : wpAny (model prog w) A (letOwnedTupleGo tg (.ref z) v) Q E s := by
  obtain ⟨f0, b1, hz, hf⟩ := id Z
  have stay := k s.heap Z (.refl _ _)
  have gone : wpAny (model prog w) A (updateField z 0 .none) Q E s := aK (k := 0) (x := .none) hz (by simp) fun h' z' same => k h' ⟨_, _, z', .inl rfl⟩ (.of same (by simp))
  unfold letOwnedTupleGo
  cases tg <;> first
    | exact P7 stay
    | (cases v <;> wp_walk <;> first
        | exact stay
        | (split
           · exact wpAny_bind (bD gone)
           · exact P7 stay))
theorem LB {Q:Option G3->G6->Prop}(Z:ZipAt s.heap z TI TO)
 (h:wpAny (model prog w) A.in1 (Builtin.«zip.__next__» ⟨[.ref z],[]⟩) (λfin s'=> ∃v,fin= .done (.ret v)/\Q (some v) s') (λe s'=>s'.TypeIs e "StopIteration" /\Q none s') s):wpAny (model prog w) A (pyNext (.ref z)) Q E s:=by
 obtain⟨_,_,hz,_⟩:=Z;have ty:s.TypeIs (.ref z) "zip" :=⟨_,hz,rfl⟩;have asked:=L5 lO ty F.entry_zip_next h (F.args_zip_next_1 _);exact wpAny_bind (mW (A9 (name:= "__next__") ty lO (S6 asked (λ_ _ q=>P7 q) λe s' q=>wpAny_bind (i9 (b:=true) q.1 isSubtype_stop (P7 q.2)))))
theorem LD {l1 l2:Addr}{xs ys:Array G3}{P:PySem.Fin->G6->Prop}(t1:s.heap.IsTuple l1 xs)(t2:s.heap.IsTuple l2 ys)
 (h: ∀h' n,n=s.heap.objs.size->ZipAt h' (n+4) (n+2) (n+3)->Q0 h' (n+2) (.ref n) (.ref (n+1))->(∃a b,Q0 h' (n+3) a b)->h'.IsTupleIter n l1 0->h'.IsTupleIter (n+1) l2 0->
  (∀b o,s.heap.get? b=some o->h'.get? b=some o)->P (.done (.ret (.ref (n+4)))) {s with heap:=h'}):
 wpAny (model prog w) A (Builtin.«zip.__new__» ⟨[.type "zip",.ref l1,.ref l2],[]⟩) P E s:=by
 have fine:=sub_zip;obtain⟨hp,g,d,tk,os⟩:=s;have first:nF (Shared.heap ⟨hp,g,d,tk,os⟩) l1 xs:=t1
 have second: ∀o,nF (Shared.heap ⟨hp.push o,g,d,tk,os⟩) l2 ys:=λo=>Heap.IsTuple.push t2 o
 wp_walk using J5 first,J5 (second _)
 have size: ∀ (q:Heap) o,(q.push o).objs.size=q.objs.size+1:=λq o=>V9 ..
 have n2: ∀o1 o2,((hp.push o1).push o2).objs.size=hp.objs.size+2:=λ_ _=>by rw [size,size]
 have n3: ∀o1 o2 o3,(((hp.push o1).push o2).push o3).objs.size=hp.objs.size+3:=λ_ _ _=>by rw [size,n2]
 have n4: ∀o1 o2 o3 o4,((((hp.push o1).push o2).push o3).push o4).objs.size=hp.objs.size+4:=λ_ _ _ _=>by rw [size,n3]
 have up: ∀ {q:Heap} {b o} o',q.get? b=some o->(q.push o').get? b=some o:=λo' e=>G7 o' e
 show P (.done (.ret (.ref (Heap.objs (((((hp.push _).push _).push _).push _))).size))) _;rw [n4];have at1:=D7 (hp.push {cls:= .type "tuple_iterator",data:= .fields #[.ref l1,.int 0 0]}) (o:= {cls:= .type "tuple_iterator",data:= .fields #[.ref l2,.int 0 0]}) rfl;rw [size] at at1;have top: ∀ (q:Heap) (o:Obj) (m:Nat),q.objs.size=m->o.isFreed=false->(q.push o).get? m=some o:=λq o m e f=>e ▸ D7 q f
 refine h _ hp.objs.size rfl ⟨.none,false,(top _ _ _ (n4 ..) rfl).trans ?_,.inl rfl⟩ ((up _ (up _ (top _ _ _ (n2 ..) rfl))).trans ?_) ⟨.none,.none,up _ (top _ _ _ (n3 ..) rfl)⟩ ⟨_,up _ (up _ (up _ (up _ (D7 _ rfl)))),rfl,rfl⟩ ⟨_,up _ (up _ (up _ at1)),rfl,rfl⟩ λb o e=>up _ (up _ (up _ (up _ (up _ e))))
 ·simp only [size,K6];rfl
 ·simp only [size];rfl
theorem VJ {T newId initId:String}{pos:List G3}{kw:List (Str×G3)}{Made:G3->G6->Prop}{Q:G3->G6->Prop}(ft:oI T newId initId)(fits:checkTypeCall T ⟨pos,kw⟩=pure ())
 (made:wpAny (model prog w) A.in1 (call (.builtin newId) (.type T::pos) kw) Made E s)
 (begun: ∀o oX,Made o oX->oX.TypeIs o T/\wpAny (model prog w) A.in1 (callSpecial? o "__init__" pos kw) (λr o6=>r=some .none/\Q o o6) E oX):
 wpAny (model prog w) A (call (.type T) pos kw) Q E s:=by
 have f1:=ft.notType;have f2:=ft.canCreate;have f3:=ft.made;have f4:=ft.sub;obtain⟨_,_,f5⟩:=ft.mro;have first:=λ{Q':G3->G6->Prop} (k: ∀o oX,Made o oX->Q' o oX)=>S6 (E':=E) made k λ_ _ z=>z
 refine gS (lI (P7 ⟨Code.quiet_builtin _ (by decide +kernel),codeAny_builtin F.entry_type_call ?_⟩));rw [Around.under_plain (weight_type_call_type T pos kw) (units_type_call_type T pos kw)]
 wp_walk using first
 intro o oX m;obtain⟨ty,then_⟩:=begun o oX m;refine wpAny_bind (i9 (b:=true) ty f4 (wpAny_bind (A2 (S6 then_ (λr o6 q=> ?_) λ_ _ z=>z))));obtain⟨rfl,q⟩:=q;exact P7 q
theorem Yy {T newId:String}{o:G3}{pos:List G3}{kw:List (Str×G3)}{Q:Option G3->G6->Prop}(ft:oI T newId "object.__init__")(other:(some newId !=some "object.__new__")=true)(ty:s.TypeIs o T)
 (fits:argsOk "object.__init__" ⟨o::pos,kw⟩)(q:Q (some .none) s):wpAny (model prog w) A (callSpecial? o "__init__" pos kw) Q E s:=by
 have f1:=ft.init.lookup;have f2:=ft.made;refine A9 ty ft.init (wpAny_call_entry_kw ft.init ty F.entry_object_init ?_ fits);cases e:(!pos.isEmpty|| !kw.isEmpty)<;>(wp_walk;exact⟨_,rfl,q⟩)
theorem GC {l1 l2:Addr}{xs ys:Array G3}{Q:G3->G6->Prop}(t1:s.heap.IsTuple l1 xs)(t2:s.heap.IsTuple l2 ys)
 (h: ∀h' n,n=s.heap.objs.size->ZipAt h' (n+4) (n+2) (n+3)->Q0 h' (n+2) (.ref n) (.ref (n+1))->(∃a b,Q0 h' (n+3) a b)->h'.IsTupleIter n l1 0->h'.IsTupleIter (n+1) l2 0->
  (∀b o,s.heap.get? b=some o->h'.get? b=some o)->Q (.ref (n+4)) {s with heap:=h'}):wpAny (model prog w) A (call (.type "zip") [.ref l1,.ref l2]) Q E s:=
 VJ (Made:=λo oX=>oX.TypeIs o "zip" /\Q o oX) nG (F.typeCall_zip_2 _ _)
  (gS (fU F.called_zip.plain F.entry_zip_new (lA (F.newCall_zip_2 _ _) (LD t1 t2 λh' n en zp i o a b k=>⟨let ⟨_,_,e,_⟩:=zp;⟨_,e,rfl⟩,h h' n en zp i o a b k⟩))))
  λ_ _ ⟨ty,q⟩=>⟨ty,Yy nG (by decide) ty (F.args_object_init_3 _ _ _) ⟨rfl,q⟩⟩
end
def Itz (K : PySem.W.Frag) (a b : Addr) : It :=
  ⟨fun i H => ∃ xs ys x y, SqT K H a xs ∧ SqT K H b ys ∧ xs[i]? = some x ∧ ys[i]? = some y,
   fun i H x H' => ∃ p v u, H p = none ∧ (∀ xs, SqT K H a xs → xs[i]? = some v) ∧ (∀ ys, SqT K H b ys → ys[i]? = some u) ∧ x = .ref p ∧ H' = upd H p (.tup [v, u]),
   fun i H => ∃ xs ys, SqT K H a xs ∧ SqT K H b ys ∧ (xs.length ≤ i ∨ ys.length ≤ i)⟩
theorem GD {Q:Option G3->G6->Prop}{E:G3->G6->Prop}{s:G6}{z TI TO i1 i2 l1 l2:Addr}{xs ys:Array G3}(calm:A.handled=none)(ap:ZApart z TI TO i1 i2)(n1:l1 ∉ [z,TO,i1,i2])(n2:l2 ∉ [z,TO,i1,i2])(i12:i1≠i2)
 (Z:ZipAt s.heap z TI TO)(hTI:Q0 s.heap TI (.ref i1) (.ref i2))(hTO: ∃a b,Q0 s.heap TO a b)(t1:s.heap.IsTuple l1 xs)(t2:s.heap.IsTuple l2 ys)(at1:s.heap.IsTupleIter i1 l1 i)(at2:s.heap.IsTupleIter i2 l2 i)
 (pair: ∀x y h' tk,xs[i]? =some x->ys[i]? =some y->(∀b o,b ∉ [z,TO,i1,i2]->s.heap.get? b=some o->h'.get? b=some o)->Q0 h' s.heap.objs.size x y->ZipAt h' z TI TO->Q0 h' TI (.ref i1) (.ref i2)->(∃a b,Q0 h' TO a b)->
  h'.IsTupleIter i1 l1 (i+1)->h'.IsTupleIter i2 l2 (i+1)->Q (some (.ref s.heap.objs.size)) {s with heap:=h',toks:=tk})
 (ended:(xs.size<=i\/ys.size<=i)-> ∀h' tk,(∀b o,b ∉ [z,TO,i1,i2]->s.heap.get? b=some o->h'.get? b=some o)->Q none {s with heap:=h',toks:=tk}):wpAny (model prog w) A (pyNext (.ref z)) Q E s:=by
 have sub: ∀ {b:Addr} {W:List Addr},b ∉ [z,TO,i1,i2]->(∀c∈W,c∈ [z,TO,i1,i2])->b ∉ W:=λn m q=>n (m _ q)
 have z': ∀c∈ [z],c∈ [z,TO,i1,i2]:=by simp
 have o': ∀c∈ [TO],c∈ [z,TO,i1,i2]:=by simp
 have a': ∀c∈ [i1],c∈ [z,TO,i1,i2]:=by simp
 have b': ∀c∈ [i2],c∈ [z,TO,i1,i2]:=by simp
 have zo: ∀c∈ [z,TO],c∈ [z,TO,i1,i2]:=by simp
 refine LB Z (BO ap Z hTI hTO λo7 pJ isz=> ?_);have u1:o7.IsTuple l1 xs:=t1.at λo e=>pJ.2 _ _ (sub n1 z') e
 have v1:o7.IsTupleIter i1 l1 i:=at1.at λo e=>pJ.2 _ _ (by simp [ap.z1.symm]) e
 have stop: ∀ {h h':Heap} {it e:Addr},z≠it->lC it h h'->(∃o,h.get? z=some o/\o.cls= .type "zip")->(∃o,h'.get? e=some o/\o.cls= .type "StopIteration")->e≠z:=λnz x ⟨o,e1,c1⟩ ⟨o2,e2,c2⟩ q=>by
  subst q;rw [x _ _ nz e1] at e2;cases e2;rw [c1] at c2;simp at c2
 cases hx:xs[i]? with
 |none=>
  refine wX (s:= {s with heap:=o7}) calm v1 u1 hx λh' e grown st=>⟨λo q=>grown _ _ ap.z1 q,λh2 k=>⟨?_,ended (.inl (cQ.mp hx)) _ _ λb o n q=>k _ _ (λy=>sub n z' (by simp [y])) (grown _ _ (λy=>sub n a' (by simp [y])) (pJ.2 _ _ (sub n z') q))⟩⟩
  have ne:=stop ap.z1 grown isz st;obtain⟨o,q,c⟩:=st;exact⟨o,k _ _ ne q,c⟩
 |some x=>
  refine WS (s:= {s with heap:=o7}) v1 u1 hx λh1' w1 pH=>⟨.of pH (by simp),λo9 pN=> ?_⟩
  have all: ∀ {b o},b ∉ [z,TO,i1,i2]->s.heap.get? b=some o->o9.get? b=some o:=λn e=>pN.2 _ _ (sub n o') (pH.extBut _ _ (λy=>sub n a' (by simp [y])) (pJ.2 _ _ (sub n z') e))
  have u2:o9.IsTuple l2 ys:=t2.at λo e=>all n2 e
  have v2:o9.IsTupleIter i2 l2 i:=at2.at λo e=>pN.2 _ _ (by simp [ap.O2.symm]) (pH.extBut _ _ i12.symm (pJ.2 _ _ (by simp [ap.z2.symm]) e))
  have w2:o9.IsTupleIter i1 l1 (i+1):=w1.at λo e=>pN.2 _ _ (by simp [ap.O1.symm]) e
  have isz2: ∃o,o9.get? z=some o/\o.cls= .type "zip" :=let ⟨o,e,c⟩:=isz;⟨o,pN.2 _ _ (by simp [ap.zO]) (pH.extBut _ _ ap.z1 e),c⟩;cases hy:ys[i]? with
  |none=>
   refine wX (s:= {s with heap:=o9}) calm v2 u2 hy λh' e grown st=>⟨λo q=>grown _ _ ap.z2 q,λh3 k=>⟨?_,ended (.inr (cQ.mp hy)) _ _ λb o n q=>k _ _ (λy=>sub n z' (by simp [y])) (grown _ _ (λy=>sub n b' (by simp [y])) (all n q))⟩⟩
   have ne:=stop ap.z2 grown isz2 st;obtain⟨o,q,c⟩:=st;exact⟨o,k _ _ ne q,c⟩
  |some y=>
   refine WS (s:= {s with heap:=o9}) v2 u2 hy λh2' w3 pK=>⟨.of pK (by simp),λpB kept new zip its out=> ?_⟩
   have size:h2'.objs.size=s.heap.objs.size:=by rw [pK.1,pN.1,pH.1,pJ.1]
   have done:=pair x y pB s.toks hx hy (λb o n e=>kept _ _ (sub n zo) (pK.extBut _ _ (λy=>sub n b' (by simp [y])) (all n e))) (size ▸ new) zip its out
    (w2.at λo e=>kept _ _ (by simp [ap.z1.symm,ap.O1.symm]) (pK.extBut _ _ i12 e)) (w3.at λo e=>kept _ _ (by simp [ap.z2.symm,ap.O2.symm]) e)
   rw [<-size] at done;exact done
theorem MD (n:Nat):ZApart (n+4) (n+2) (n+3) n (n+1):=by
 have d: ∀ {i j:Nat},i≠j->n+i≠n+j:=λh q=>h (Nat.add_left_cancel q)
 exact⟨d (j:=0) (by decide),d (by decide),d (by decide),d (by decide),d (j:=0) (by decide),d (by decide),d (by decide),d (j:=0) (by decide),d (by decide)⟩
theorem GE {c:Nat}(h:c<n):c ∉ [n+4,n+3,n,n+1]:=by
 simp only [R6,C8,or_false,not_or];omega
theorem LF {c:Nat}(h:c∈ [n+4,n+2,n+3,n,n+1]):n<=c:=by
 simp only [R6,C8,or_false] at h;omega
theorem Rw {E:G3->G6->Prop}{s:G6}{z TI TO:Addr}{Q:G3->G6->Prop}(Z:ZipAt s.heap z TI TO)(h:Q (.ref z) s):wpAny (model prog w) A (pyIter (.ref z)) Q E s:=by
 obtain⟨_,_,hz,_⟩:=Z;have ty:s.TypeIs (.ref z) "zip" :=⟨_,hz,rfl⟩;exact wpAny_pyIter_slot ty lQ (L5 lQ ty F.entry_zip_iter (P7 ⟨_,rfl,_,_,ty,F.slot_zip_next.lookup,h⟩) (F.args_zip_iter_1 _))
theorem LH {P:S3}(tg:Expr)(l1 l2 z TI TO i1 i2:Addr)(ap:ZApart z TI TO i1 i2)(n1:l1 ∉ [z,TO,i1,i2])(n2:l2 ∉ [z,TO,i1,i2])(i12:i1≠i2):
 Turn P w K tg (Itz K l1 l2) [z,TI,TO,i1,i2] z (λi h=>ZipAt h z TI TO/\Q0 h TI (.ref i1) (.ref i2)/\(∃a b,Q0 h TO a b)/\h.IsTupleIter i1 l1 i/\h.IsTupleIter i2 l2 i):=by
 have inW: ∀ {b:Addr},b ∉ [z,TI,TO,i1,i2]->b ∉ [z,TO,i1,i2]:=λn q=>n (by simp only [R6] at q ⊢;rcases q with q|q|q|q|q<;>simp [q] at*)
 have there: ∀ {i:Nat} {h:Heap},(ZipAt h z TI TO/\Q0 h TI (.ref i1) (.ref i2)/\(∃a b,Q0 h TO a b)/\h.IsTupleIter i1 l1 i/\h.IsTupleIter i2 l2 i)-> ∀b∈ [z,TI,TO,i1,i2],∃o,h.get? b=some o/\ ∀v,o.data≠ .cell v:=λ⟨⟨_,_,a1,_⟩,a2,⟨_,_,a3⟩,⟨o4,a4,_,d4⟩,⟨o5,a5,_,d5⟩⟩ b hb=>by
  simp only [R6,C8,or_false] at hb;rcases hb with e|e|e|e|e<;>subst e
  ·exact⟨_,a1,λv z=>by cases z⟩
  ·exact⟨_,a2,λv z=>by cases z⟩
  ·exact⟨_,a3,λv z=>by cases z⟩
  ·exact⟨o4,a4,λv z=>by rw [d4] at z;cases z⟩
  ·exact⟨o5,a5,λv z=>by rw [d5] at z;cases z⟩
 refine⟨by simp,λi h st=>there st,λi h h' ⟨⟨f,b,a1,qf⟩,a2,⟨x,y,a3⟩,a4,a5⟩ q=>⟨⟨f,b,q z (by simp) _ a1,qf⟩,q TI (by simp) _ a2,⟨x,y,q TO (by simp) _ a3⟩,a4.at λo e=>q i1 (by simp) o e,a5.at λo e=>q i2 (by simp) o e⟩,?_,?_,λ_ _ _ _ _ st h=>Rw st.1 h⟩
 ·intro X hP hw hK hc i pins s σ H E I hf st hg;subst hP hw hK;obtain⟨xs,ys,x,y,hq,hq2,hx,hy⟩:=hg;obtain⟨its,rv,p,_⟩:=I.tuple hq;obtain⟨jts,rw',p2,_⟩:=I.tuple hq2;obtain⟨u,hu,ru⟩:=rv.get hx;obtain⟨v,hv,rv'⟩:=rw'.get hy;obtain⟨a1,a2,a3,a4,a5⟩:=id st;have lt: ∀b∈ [z,TI,TO,i1,i2],b≠s.heap.objs.size:=λb hb=>let ⟨_,e,_⟩:=there st b hb;S0 (P9 e)
  have l1':i<its.toArray.size:=by have:=(P3.mp hu).1;simpa using this
  have l2':i<jts.toArray.size:=by have:=(P3.mp hv).1;simpa using this
  refine GD (I.ok.hd hc) ap n1 n2 i12 a1 a2 a3 p p2 a4 a5 (λx' y' h' tk hx' hy' kept new zip it out w1 w2=>⟨_,rfl,?_⟩) λends=>absurd ends (by omega)
  have ex:x'=u:=by simp only [fI] at hx';rw [hu] at hx';cases hx';rfl
  have ey:y'=v:=by simp only [fI] at hy';rw [hv] at hy';cases hy';rfl
  subst ex ey;refine ET (s:= {s with heap:=h',toks:=tk}) zip λh2 zip2 off=> ?_
  have hn:H s.heap.objs.size=none:=I.hok.fresh (P0 _);have nz: ∀ {b},b≠z->b ∉ [z]:=λh=>by simpa using h
  have T2:Q0 h2 s.heap.objs.size x' y':=off.2 _ _ (nz (lt z (by simp)).symm) new;refine⟨.ref s.heap.objs.size,upd H s.heap.objs.size (.tup [x,y]),?_,rfl,⟨_,x,y,hn,λws hw=>by rw [I.tuple_inj hw hq];exact hx,λws hw=>by rw [I.tuple_inj hw hq2];exact hy,rfl,rfl⟩,
   ⟨zip2,off.2 _ _ (nz ap.zI.symm) it,let ⟨a,b,e⟩:=out;⟨a,b,off.2 _ _ (nz ap.zO.symm) e⟩,w1.at λo e=>off.2 _ _ (nz ap.z1.symm) e,w2.at λo e=>off.2 _ _ (nz ap.z2.symm) e⟩,λb hb=> ?_⟩
  ·refine I.turnLaid (h':=h2) (t':=tk) (ch:= [z,TI,TO,i1,i2]) (λb u hb q=>off.2 _ _ (λy=>inW hb (by simp only [G9] at y;simp [y])) (kept b u (inW hb) q)) hf (P0 _) ⟨by show 2<=sizeLine;decide,[x',y'],.cons ru (.cons rv' .nil),⟨_,T2,rfl,rfl,_,rfl⟩⟩
  ·rw [jx (lt b hb)];exact(hf b hb).1
 ·intro X hP hw hK hc i pins s σ H E I hf st hg;subst hP hw hK;obtain⟨xs,ys,hq,hq2,hl⟩:=hg;obtain⟨its,rv,p,_⟩:=I.tuple hq;obtain⟨jts,rw',p2,_⟩:=I.tuple hq2;have e1:=rv.length;have e2:=rw'.length;obtain⟨a1,a2,a3,a4,a5⟩:=id st;refine GD (I.ok.hd hc) ap n1 n2 i12 a1 a2 a3 p p2 a4 a5 (λx' y' h' tk hx' hy' _ _ _ _ _ _ _=> ?_) λ_ h' tk kept=>⟨rfl,I.turnL (ch:= [z,TI,TO,i1,i2]) (λb o hb q=>kept b o (inW hb) q) hf⟩
  have b1:=(cR.mp hx').1;have b2:=(cR.mp hy').1;simp only [D1] at b1 b2;omega
section
variable {X:Cx}
def qh (K:PySem.W.Frag)(ta:TA):TI:=λσ H R=>ta σ H λvs H1=> ∃a b,vs= [.ref a,.ref b]/\(∃xs,SqT K H1 a xs)/\(∃ys,SqT K H1 b ys)/\R (Itz K a b) H1
theorem Kn {tg:Expr}{a b:Expr}{ta:TA}{p pos:Pos}(hg:Gl X "zip")(hm:X.mg "zip" =none)(ha:PA X [a,b] ta)(hs:starEach [a,b] X.env= [(false,eval a X.env),(false,eval b X.env)]:=by rfl)(hs2:starEach [b] X.env= [(false,eval b X.env)]:=by rfl):
 PI X tg (.Call (.Name "zip" p) [a,b] [] pos) (qh X.K ta):=by
 intro pins s σ H R I h;refine nU (Zt I hg hm boot_zip (C4 (thn (ha pos pins s σ H _ I h) λus s1 ⟨vs,H1,I1,r1,q1⟩=> ?_) (by rw [hs,hs2]) (by rw [hs2];rfl)));obtain⟨a,b,e,⟨xs,hq⟩,⟨ys,hq2⟩,q⟩:=q1;subst e;cases r1 with
 |cons r rr=>
  cases rr with
  |cons r' rr=>
   cases rr;cases r;cases r';obtain⟨its,rv,p,_⟩:=I1.tuple hq;obtain⟨jts,rw',p2,_⟩:=I1.tuple hq2;have la:a<s1.heap.objs.size:=by obtain⟨o,ho,_⟩:=p;exact P9 ho
   have lb:b<s1.heap.objs.size:=by obtain⟨o,ho,_⟩:=p2;exact P9 ho
   refine GC (show s1.heap.IsTuple a its.toArray from p) (show s1.heap.IsTuple b jts.toArray from p2) λh' n en z1 z2 z3 z4 z5 hk=> ?_
   subst en;refine Rw z1 ⟨s1.heap.objs.size+4,[s1.heap.objs.size+4,s1.heap.objs.size+2,s1.heap.objs.size+3,s1.heap.objs.size,s1.heap.objs.size+1],_,_,H1,rfl,I1.kept (t':=s1.toks) hk,
    LH _ a b _ _ _ _ _ (MD _) (GE la) (GE lb) (S0 (L6 _)),⟨z1,z2,z3,z4,z5⟩,λc hc=> ?_,q⟩
   have hb':s1.heap.objs.size<=c:=LF hc;exact I1.fpOk hb' (I1.hok.fresh hb')
end
def PY (ds es:List D):List D:=(ds.zip es).map λp=> .tup [p.1,p.2]
def iZ (ta:TAD):TID:=λσ h R=>ta σ h λxs h1=> ∃ds es,xs= [.tup ds,.tup es]/\R (λ_=>some (PY ds es)) h1
theorem LJ {ds es:List D}{d:D}(h:(PY ds es)[i]? =some d): ∃x y,ds[i]? =some x/\es[i]? =some y/\d= .tup [x,y]:=by
 unfold PY at h;rw [P1] at h;cases q:(ds.zip es)[i]? with
 |none=>rw [q] at h;cases h
 |some p=>
  rw [q] at h;obtain⟨x,y⟩:=p;rw [List.getElem?_zip_eq_some] at q;exact⟨x,y,q.1,q.2,(M0 h).symm⟩
section
variable {K:PySem.W.Frag}
theorem LK {H:Hp}{a b:Addr}{vs us:List V}{ds es:List D}(hv:H a=some (.tup vs))(r:RelDs K H ds vs)(hu:H b=some (.tup us))(ru:RelDs K H es us):FE K H (λ_=>some (PY ds es)) (Itz K a b):=λH' h' k rh ds' e i=>by
 cases e;have hv':=k.tup _ _ hv;have hu':=k.tup _ _ hu;have r':=r.mono k;have ru':=ru.mono k;refine⟨λd hd=> ?_,λhl=>⟨vs,us,SqT.of hv',SqT.of hu',?_⟩⟩
 ·obtain⟨x,y,hx,hy,ed⟩:=LJ hd;subst ed;obtain⟨v,e1,e2⟩:=r'.get hx;obtain⟨u,e3,e4⟩:=ru'.get hy;refine⟨⟨vs,us,v,u,SqT.of hv',SqT.of hu',e1,e3⟩,λx' H'' ⟨p,v',u',hp,hx',hy',ex,eH⟩=> ?_⟩;subst ex eH;have ev:v'=v:=by have:=hx' vs (SqT.of hv');rw [e1] at this;exact(M0 this).symm
  have eu:u'=u:=by have:=hy' us (SqT.of hu');rw [e3] at this;exact(M0 this).symm
  subst ev eu;have k2:Kept H' (upd H' p (.tup [v',u'])):= .new hp;exact⟨k2,RelH.new rh hp,p,[v',u'],rfl,jy,_,_,rfl,e2.mono k2,_,_,rfl,e4.mono k2,rfl⟩
 ·have l1:=r.length;have l2:=ru.length;unfold PY at hl;rw [G2,X3] at hl;omega
theorem Ko {ta:TAD}: ∀σ H R,LI K (iZ ta) σ H R->qh K (LA K ta) σ H R:=λσ H R ⟨oW,h,Rd,rs,rh,q,p⟩=>
 LA.bind rs rh q λds vs h1 H1 k1 rs1 rh1 r1 ⟨es,fs,e,q1⟩=>by
  subst e;obtain⟨v,w,e,r2,r3⟩:=yG r1;obtain⟨a,ws,e',hv,r⟩:=(show ∃a vs,v= .ref a/\H1 a=some (.tup vs)/\RelDs K H1 es vs from r2);obtain⟨b,us,e'',hu,r'⟩:=(show ∃a vs,w= .ref a/\H1 a=some (.tup vs)/\RelDs K H1 fs vs from r3);subst e' e'';exact⟨a,b,e,⟨ws,SqT.of hv⟩,⟨us,SqT.of hu⟩,p _ _ _ _ k1 rh1 (LK hv r hu r') q1⟩
end
section
variable {X:Cx}
theorem Rx {tg:Expr}{a b:Expr}{ta:TAD}{p pos:Pos}(hg:Gl X "zip")(hm:X.mg "zip" =none)(ha:JA X [a,b] ta)(hs:starEach [a,b] X.env= [(false,eval a X.env),(false,eval b X.env)]:=by rfl)(hs2:starEach [b] X.env= [(false,eval b X.env)]:=by rfl):
 JI X tg (.Call (.Name "zip" p) [a,b] [] pos) (iZ ta):=⟨(Kn hg hm ha.to hs hs2).imp Ko⟩
end
def inE (neg:Bool):RD2:=λx y h Q=> ∃ (p:K5) (ps:List K5),ToP h x p/\(ToP h y (.list ps)\/ToP h y (.tuple ps))/\p.canLay0=true/\L8 ps=true/\p.depth<=60/\Q (.bl (neg !=ps.any λz=>M8 z p)) h
section
variable {X:Cx}
theorem LL (hu:X.A.units+64<cLine):OpQ X (compareOp .In) (inE false):=by
 intro pins s σ H x y v u Q I rx ry h;obtain⟨dx,dy,h,Qd,r1,r2,rh,⟨p,ps,t1,t2,c1,c2,c3,qq⟩,post⟩:=h;obtain⟨as,a1⟩:=wQ I rh t1 r1 rx;have hu':X.A.units+1+min (L0 ps) p.depth<cLine:=by have:=V8 (L0 ps) p.depth;omega
 have q':Qd (.bl (ps.any λz=>M8 z p)) h:=by simpa using qq
 rcases t2 with t2|t2
 ·obtain⟨bs,b1⟩:=wQ I rh t2 r2 ry;exact in_list_reads b1 a1 c2 c1 hu' ⟨.bl _,H,I,rfl,post (.bl _) _ _ _ (.refl H) rh rfl q'⟩
 ·obtain⟨bs,b1⟩:=wQ I rh t2 r2 ry;exact in_tuple_reads b1 a1 c2 c1 hu' ⟨.bl _,H,I,rfl,post (.bl _) _ _ _ (.refl H) rh rfl q'⟩
theorem Qb (hu:X.A.units+64<cLine):OpQ X (compareOp .NotIn) (inE true):=by
 intro pins s σ H x y v u Q I rx ry h;obtain⟨dx,dy,h,Qd,r1,r2,rh,⟨p,ps,t1,t2,c1,c2,c3,qq⟩,post⟩:=h;obtain⟨as,a1⟩:=wQ I rh t1 r1 rx;have hu':X.A.units+1+min (L0 ps) p.depth<cLine:=by have:=V8 (L0 ps) p.depth;omega
 have q':Qd (.bl (!ps.any λz=>M8 z p)) h:=by simpa using qq
 rcases t2 with t2|t2
 ·obtain⟨bs,b1⟩:=wQ I rh t2 r2 ry;exact notIn_list_reads b1 a1 c2 c1 hu' ⟨.bl _,H,I,rfl,post (.bl _) _ _ _ (.refl H) rh rfl q'⟩
 ·obtain⟨bs,b1⟩:=wQ I rh t2 r2 ry;exact notIn_tuple_reads b1 a1 c2 c1 hu' ⟨.bl _,H,I,rfl,post (.bl _) _ _ _ (.refl H) rh rfl q'⟩
theorem Ry {neg:Bool}{i:Int}{ns:List Int}{h:HD}{Q:KD}(q:Q (.bl (neg !=decide (i∈ns))) h):inE neg (.int i) (.tup (ns.map D.int)) h Q:=by
 refine⟨.int i,ns.map .int,rfl,.inr ⟨_,rfl,zV h ns⟩,rfl,yI ns,by simp [U6],?_⟩;have e:((ns.map W7).any λz=>M8 z (.int i))=decide (i∈ns):=by
  rw [T7,aX,W3,decide_eq_true_eq];constructor
  ·rintro ⟨x,hx,e⟩;have e':(x==i)=true:=e;have:x=i:=by simpa using e'
   rw [<-this];exact hx
  ·intro hi;exact⟨i,hi,show (i==i)=true by simp⟩
 rw [e];exact q
end
def uQ (i:Nat)(f:Int->Int->Int)(te:TED):TSD:=λD σ h=> ∃x:Int,σ[i]? =some (some (.int x))/\te σ h λy h1=> ∃j:Int,y= .int j/\D.nx (σ.set i (some (.int (f x j)))) h1
theorem An {f:Int->Int->Int}{te:TED}: ∀D σ H,LS K (uQ i f te) D σ H->xD i (LE K te) (ipI f) D σ H:=λD σ H ⟨oW,h,Dd,rs,rh,⟨x,hx,q⟩,nx,rt,bk,ct⟩=>by
 obtain⟨v,e1,r1⟩:=rs.2 i _ hx;cases (show v= .int x from r1);exact⟨_,e1,LE.bind rs rh q λd u h1 H1 k1 rs1 rh1 r1 ⟨j,e,q1⟩=>by
  subst e;cases (show u= .int j from r1);exact⟨x,j,rfl,rfl,nx _ _ _ _ k1 (rs1.set (d:= .int (f x j)) rfl i) rh1 q1⟩⟩
section
variable {X:Cx}{i:Nat}{x:Str}{e:Expr}{te:TED}{pos pos':Pos}
theorem EU (hN:X.N.Nodup)(hi:X.N[i]? =some x)(hx:Loc X.env.scope x)(he:JE X e te)(hf:X.fn x=true\/X.env.scope.names.lookup x=some .local:=by first|exact .inl rfl|exact .inr rfl|assumption):JS X (.AugAssign (.Name x pos') .Add e pos) (uQ i (λa b=>a+b) te):=⟨(OY hN hi hx he.to TK hf).imp An⟩
theorem EV (hN:X.N.Nodup)(hi:X.N[i]? =some x)(hx:Loc X.env.scope x)(he:JE X e te)(hf:X.fn x=true\/X.env.scope.names.lookup x=some .local:=by first|exact .inl rfl|exact .inr rfl|assumption):JS X (.AugAssign (.Name x pos') .Sub e pos) (uQ i (λa b=>a-b) te):=⟨(OY hN hi hx he.to TL hf).imp An⟩
end
end L2
namespace L2
open PySem PySem.Spec PyProof.Rows
section
variable {prog:S3}{w:N2}{A:M7}{E:G3->G6->Prop}{s:G6}
theorem yJ: ∀ {vs:List G3} {ns:List Int},A5 vs ns-> ∀ {i:Nat} {v:G3},vs[i]? =some v-> ∃t,v= .int (ns.getD i 0) t/\i<ns.length
 |_,_,.nil,_,_,hv=>by simp at hv
 |_,_,.cons _ t _,0,_,hv=>⟨t,by simpa using hv.symm,by simp⟩
 |_,_,.cons _ _ r,i+1,_,hv=>by
  obtain⟨t,e,lt⟩:=yJ r (i:=i) (by simpa using hv);exact⟨t,by simpa using e,by simpa using lt⟩
theorem Wm {l:Addr}{o:Obj}(here:l<s.heap.objs.size): ∀b∈ [s.heap.objs.size,l],b<(s.heap.push o).objs.size:=λb hb=>by
 rw [V9];simp only [R6,C8,or_false] at hb;rcases hb with e|e<;>subst e
 ·exact L6 _
 ·exact J9 here
theorem Wn {o:Obj}{h':Heap}(k: ∀b u,b ∉ [s.heap.objs.size]->(s.heap.push o).get? b=some u->h'.get? b=some u): ∀b u,s.heap.get? b=some u->h'.get? b=some u:=λb u e=>
 k b u (λm=>absurd (P9 e) (by rw [G9.mp m];exact N6 _)) (G7 _ e)
end
section
variable {X:Cx}
theorem BP (hc:X.calm=true):CallR X (.builtin "min") (λxs H Q=> ∃ (a:Addr) (ns:List Int),xs= [.ref a]/\ns≠ []/\(SqL X.K H a (ns.map V.int)\/SqT X.K H a (ns.map V.int))/\ ∀m∈ns,(∀x∈ns,m<=x)->Q (.int m) H):=by
 intro pins s σ H xs us Q I r h;obtain⟨a,ns,rfl,hne,hS,q⟩:=h;obtain⟨u,rfl,ru⟩:=ZD r;cases ru;have fin: ∀ {its:List G3} (hi:A5 its ns) (v:G3) (h':Heap) (tk:Nat),its.toArray[argBest (λi j=>decide (ns.getD i 0<ns.getD j 0)) (its.toArray.size-1)]? =some v->(∀b o,s.heap.get? b=some o->h'.get? b=some o)->EP X pins σ Q v {s with heap:=h',toks:=tk}:=λ{its} hi v h' tk hv kept=>by
  obtain⟨t,rfl,lt⟩:=yJ hi (show its[_]? =some v by simpa using hv);refine⟨.int _,H,I.kept kept,⟨t,rfl⟩,q _ (getD_mem lt) λx hx=> ?_⟩;obtain⟨j,hj,rfl⟩:=mem_getD hx;exact(argBest_lt (λi=>ns.getD i 0) (its.toArray.size-1)).2 j (by rw [D1,hi.length];omega)
 refine call_min_walk ?_;rcases hS with hS|hS
 ·obtain⟨its,rv,pl,_⟩:=I.list hS;have hi:=Zx rv;obtain⟨o,e,r⟩:=id pl.isList;have W:=eQ (prog:=X.prog) (w:=X.w) (A:=X.A.in1) (I.ok.hd hc) s.heap.objs.size a (S0 (P9 e)) its.toArray;exact A1 pl.isList ⟨_,_,_,_,_,_,_,rfl,W,⟨⟨_,D7 _ rfl,rfl,rfl⟩,⟨o,G7 _ e,r⟩⟩,Wm (P9 e),by rw [D1,hi.length];exact V7.mpr hne,CmpOf.ints_lt (λi=>ns.getD i 0) (λi v hv=>(yJ hi (by simpa using hv)).imp λ_ z=>z.1),λv h' tk hv k=>fin hi v h' tk hv (Wn k)⟩
 ·obtain⟨its,rv,pl,_⟩:=I.tuple hS;have hi:=Zx rv;obtain⟨o,e,r⟩:=id pl;have W:=n5 (prog:=X.prog) (w:=X.w) (A:=X.A.in1) (I.ok.hd hc) s.heap.objs.size a (S0 (P9 e)) its.toArray;exact J5 (show s.heap.IsTuple a its.toArray from pl) ⟨_,_,_,_,_,_,_,rfl,W,⟨⟨_,D7 _ rfl,rfl,rfl⟩,⟨o,G7 _ e,r⟩⟩,Wm (P9 e),by rw [D1,hi.length];exact V7.mpr hne,CmpOf.ints_lt (λi=>ns.getD i 0) (λi v hv=>(yJ hi (by simpa using hv)).imp λ_ z=>z.1),λv h' tk hv k=>fin hi v h' tk hv (Wn k)⟩
theorem BQ (hc:X.calm=true):CallR X (.builtin "max") (λxs H Q=> ∃ (a:Addr) (ns:List Int),xs= [.ref a]/\ns≠ []/\(SqL X.K H a (ns.map V.int)\/SqT X.K H a (ns.map V.int))/\ ∀m∈ns,(∀x∈ns,x<=m)->Q (.int m) H):=by
 intro pins s σ H xs us Q I r h;obtain⟨a,ns,rfl,hne,hS,q⟩:=h;obtain⟨u,rfl,ru⟩:=ZD r;cases ru;have fin: ∀ {its:List G3} (hi:A5 its ns) (v:G3) (h':Heap) (tk:Nat),its.toArray[argBest (λi j=>decide (ns.getD i 0>ns.getD j 0)) (its.toArray.size-1)]? =some v->(∀b o,s.heap.get? b=some o->h'.get? b=some o)->EP X pins σ Q v {s with heap:=h',toks:=tk}:=λ{its} hi v h' tk hv kept=>by
  obtain⟨t,rfl,lt⟩:=yJ hi (show its[_]? =some v by simpa using hv);refine⟨.int _,H,I.kept kept,⟨t,rfl⟩,q _ (getD_mem lt) λx hx=> ?_⟩;obtain⟨j,hj,rfl⟩:=mem_getD hx;exact(argBest_gt (λi=>ns.getD i 0) (its.toArray.size-1)).2 j (by rw [D1,hi.length];omega)
 refine call_max_walk ?_;rcases hS with hS|hS
 ·obtain⟨its,rv,pl,_⟩:=I.list hS;have hi:=Zx rv;obtain⟨o,e,r⟩:=id pl.isList;have W:=eQ (prog:=X.prog) (w:=X.w) (A:=X.A.in1) (I.ok.hd hc) s.heap.objs.size a (S0 (P9 e)) its.toArray;exact A1 pl.isList ⟨_,_,_,_,_,_,_,rfl,W,⟨⟨_,D7 _ rfl,rfl,rfl⟩,⟨o,G7 _ e,r⟩⟩,Wm (P9 e),by rw [D1,hi.length];exact V7.mpr hne,CmpOf.ints_gt (λi=>ns.getD i 0) (λi v hv=>(yJ hi (by simpa using hv)).imp λ_ z=>z.1),λv h' tk hv k=>fin hi v h' tk hv (Wn k)⟩
 ·obtain⟨its,rv,pl,_⟩:=I.tuple hS;have hi:=Zx rv;obtain⟨o,e,r⟩:=id pl;have W:=n5 (prog:=X.prog) (w:=X.w) (A:=X.A.in1) (I.ok.hd hc) s.heap.objs.size a (S0 (P9 e)) its.toArray;exact J5 (show s.heap.IsTuple a its.toArray from pl) ⟨_,_,_,_,_,_,_,rfl,W,⟨⟨_,D7 _ rfl,rfl,rfl⟩,⟨o,G7 _ e,r⟩⟩,Wm (P9 e),by rw [D1,hi.length];exact V7.mpr hne,CmpOf.ints_gt (λi=>ns.getD i 0) (λi v hv=>(yJ hi (by simpa using hv)).imp λ_ z=>z.1),λv h' tk hv k=>fin hi v h' tk hv (Wn k)⟩
def EW (B:List Int->Int->Prop):RDn:=λds h Q=> ∃ (ns:List Int) (h':HD),ns≠ []/\Sub h' h/\(ds= [.tup (ns.map D.int)]\/ ∃a,ds= [.lst a]/\h a=some (ns.map D.int))/\ ∀m∈ns,B ns m->Q (.int m) h'
abbrev jao:RDn:=EW λns m=> ∀x∈ns,m<=x
abbrev uR:RDn:=EW λns m=> ∀x∈ns,x<=m
theorem Rz {B:List Int->Int->Prop}{f:G3}(c:CallR X f (λxs H Q=> ∃ (a:Addr) (ns:List Int),xs= [.ref a]/\ns≠ []/\(SqL X.K H a (ns.map V.int)\/SqT X.K H a (ns.map V.int))/\ ∀m∈ns,B ns m->Q (.int m) H)):Jl X f (EW B):=
 c.imp λxs H Q ⟨ds,h,Qd,r,rh,⟨ns,h',hne,hs,e,q⟩,p⟩=>by
  rcases e with e|⟨a,e,ha⟩
  ·subst e;obtain⟨v,e,r1⟩:=jD r;obtain⟨a,vs,e1,hH,r2⟩:=(show ∃a vs,v= .ref a/\H a=some (.tup vs)/\RelDs X.K H (ns.map D.int) vs from r1);rw [jW r2] at hH;subst e e1;exact⟨a,ns,rfl,hne,.inr (SqT.of hH),λm m1 m2=>p (.int m) _ _ _ (.refl H) (rh.sub hs) rfl (q m m1 m2)⟩
  ·subst e;obtain⟨v,e,r1⟩:=jD r;obtain⟨vs,hH,r2⟩:=rh a _ ha;have e1:v= .ref a:=r1.1;rw [jW r2] at hH;subst e e1;exact⟨a,ns,rfl,hne,.inl (SqL.of hH),λm m1 m2=>p (.int m) _ _ _ (.refl H) (rh.sub hs) rfl (q m m1 m2)⟩
theorem EX (hc:X.calm=true):Jl X (.builtin "min") jao:=Rz (BP hc)
theorem PZ (hc:X.calm=true):Jl X (.builtin "max") uR:=Rz (BQ hc)
end
def Xm (r:List Int):Int:=(r.min?).getD 0
theorem Xn {r:List Int}(h:r≠ []):Xm r∈r/\ ∀x∈r,Xm r<=x:=by
 cases e:r.min? with
 |none=>exact absurd (List.min?_eq_none_iff.mp e) h
 |some m=>
  have:=List.min?_eq_some_iff.mp e;unfold Xm;rw [e];exact this
section
variable {α β:Type}{i i':Nat}{js:List Nat}{ti ti':TID}{te:TED}{σ:SD}{h:HD}{Q:KD}{j:ItD}
theorem jap (xs:List α)(c:α->D)(g:α->Int)(hz:xs.length<=1000)(hj:j h=some (xs.map c))(ht: ∀R:ItD->HD->Prop,R j h->ti σ h R)
 (he: ∀x∈xs,∀Q':KD,Q' (.int (g x)) h->te ((jI js σ).set i (some (c x))) h Q')(hne:xs≠ [])(hq: ∀m∈xs.map g,(∀x∈xs.map g,x<=m)->Q (.int m) h):dCB uR (zh (vL (bN i) js ti vt te) Zv) σ h Q:=by
 show vL (bN i) js ti vt te σ h (λx h1=>uR [x] h1 Q);exact lcA xs c (λx=> .int (g x)) hz hj ht he λp hp=>⟨xs.map g,h,λz=>hne (List.map_eq_nil_iff.mp z),Sub.newAt (Sub.refl h) hp,.inr ⟨p,rfl,by rw [jc,R3];rfl⟩,hq⟩
end
end L2
namespace L2
open PySem PySem.Spec PyProof.Rows PySem.SeqAt
theorem LM {X:Cx}(hu:X.A.units+64<cLine):MtM X "list.index" (λx vs H Q=> ∃ (a:Addr) (y:V) (dy:D) (h:HD) (p:K5) (ps:List K5) (j:Nat) (z:K5),x= .ref a/\vs= [y]/\RelD X.K H dy y/\RelH X.K h H/\ToP h (.lst a) (.list ps)/\ToP h dy p/\p.canLay0=true/\L8 ps=true/\p.depth<=60/\j<1000000/\ps[j]? =some z/\M8 z p=true/\(∀m y,m<j->ps[m]? =some y->M8 y p=false)/\Q (.int (j:Int)) H):=by
 intro pins s σ H x vs v us Q I rx rv h;obtain⟨a,y,dy,h,p,ps,j,z,rfl,rfl,rd,rh,t1,t2,c1,c2,c3,hj,hz,hit,hno,q⟩:=h;cases rx;obtain⟨u,rfl,ru⟩:=ZD rv;obtain⟨a',ds,ea,ha,ts⟩:=(show ∃a' ds,D.lst a= .lst a'/\h a'=some ds/\ToPs h ds ps from t1);cases ea;obtain⟨ws,hH,_⟩:=rh a ds ha;obtain⟨as,r1⟩:=wQ I rh t1 (show RelD X.K H (.lst a) (.ref a) from ⟨rfl,ws,hH⟩) (show RelV (.ref a) (.ref a) from rfl);obtain⟨bs,r2⟩:=wQ I rh t2 rd ru;cases r1 with
 |list h1 h2 h3 h4=>
  rename_i o its n cs;have em:=readsAll_map ps _ _ c2 h4;have gm: ∀m (hm:m<its.size),ps[m]? =some (readOf s.heap its[m]):=λm hm=>by
   rw [<-em,P1,N9,Array.getElem?_eq_getElem hm];rfl
  have hlen:its.size=ps.length:=by rw [<-em,G2,M9]
  have hjs:j<its.size:=by rw [hlen];exact(P3.mp hz).1
  have hu':X.A.units+1+min (L0 ps) p.depth<cLine:=by have:=V8 (L0 ps) p.depth;omega
  obtain⟨oc,od,odt,osl⟩:=o;simp only at h2 h3;subst h2 h3;refine cL F.slot_list_index ⟨_,h1,rfl⟩ F.entry_list_index (F.args_list_index_2 _ _) (list_indexAt a its n od osl u (λy=>M8 (readOf s.heap y) p) j hjs (by omega) ?_ ?_) ⟨h1,items_eqAt h4 r2 c2 c1 hu',?_⟩
  ·have:=gm j hjs;rw [hz] at this;injection this with this
   rw [<-this];exact hit
  ·intro m hm hmj;exact hno m _ hmj (gm m hm)
  ·exact⟨.int (j:Int),H,I.tok _,⟨_,rfl⟩,q⟩
def jaq (to te:TED):TED:=λσ h Q=>to σ h λx h1=> ∃a,x= .lst a/\te σ h1 λy h2=> ∃ (p:K5) (ps:List K5) (j:Nat) (z:K5),ToP h2 (.lst a) (.list ps)/\ToP h2 y p/\p.canLay0=true/\L8 ps=true/\p.depth<=60/\j<1000000/\ps[j]? =some z/\M8 z p=true/\(∀m y,m<j->ps[m]? =some y->M8 y p=false)/\Q (.int (j:Int)) h2
section
variable {X:Cx}{o e i:Expr}{to te ti:TED}{apos cpos:Pos}
theorem qi (hu : X.A.units + 64 < cLine) (ho : JE X o to) (he : JE X e te) (hbase : attributeBase o "index" X.env (eval o X.env) = eval o X.env := by rfl)
    (hfew : ((backTo cpos (starEach [e] X.env)).all (fun x => !x.1) && (backToKw cpos (keywordEach [] X.env)).all (fun x => x.1.isSome) && decide ([e].length + ([] : List U0).length + (if ([] : List U0).isEmpty then 0 else 1) < 30)) = true := by rfl)
    (hline : (apos.endLine == cpos.line) = true := by rfl) (hs : starEach [e] X.env = (false, eval e X.env) :: starEach [] X.env := by rfl) (hplain : (backTo cpos (starEach [] X.env)).any (·.1) = false := by rfl) :
    JE X (.Call (.Attribute o "index" apos) [e] [] cpos) (jaq to te) :=
  ⟨(AW PySem.F.plainAttrs_list PySem.F.slot_list_index PySem.F.type_list_index (LM hu) ho.to (Js he.to pa_nil hs) hbase hfew hline hs hplain).imp
    fun σ H Q ⟨oW, h, Qd, rs, rh, t, p⟩ => LE.bind rs rh t fun d v h1 H1 k1 rs1 rh1 r1 ⟨a, e, q⟩ => by
      subst e
      obtain ⟨e1, vs, hH⟩ := (show v = .ref a ∧ ∃ vs, H1 a = some (.lst vs) from r1)
      subst e1
      refine ⟨.inl ⟨rfl, vs, SqL.of hH⟩, ?_⟩
      refine LE.bind rs1 rh1 q fun y u h2 H2 k2 rs2 rh2 r2 ⟨pd, ps, j, z, t1, t2, c1, c2, c3, hj, hz, hit, hno, q2⟩ => ?_
      exact ⟨a, u, y, h2, pd, ps, j, z, rfl, rfl, r2, rh2, t1, t2, c1, c2, c3, hj, hz, hit, hno, p (.int _) _ _ _ (k1.trans k2) rh2 rfl q2⟩⟩
end
variable {i:Nat}{h:HD}{Q:KD}
theorem EY {js:List Nat}{ta:TAD}{tt:TTD}{te:TED}{σ:SD}{h1:HD}(n:Nat)(W:Nat->List D->HD->Prop)(hn:n<=1000)(ht: ∀R:List D->HD->Prop,R [.int (n:Int)] h1->ta σ h R)
 (w0:W 0 [] h1)(wl: ∀k ys h',W k ys h'->ys.length<=k)(turn: ∀k ys h',k<n->W k ys h'->tt ((jI js σ).set i (some (.int (k:Int)))) h' λb h3=>if b=true then te ((jI js σ).set i (some (.int (k:Int)))) h3 λy h4=> ∃h5,Sub h5 h4/\(k+1<=n/\W (k+1) (ys++ [y]) h5) else ∃h5,Sub h5 h3/\(k+1<=n/\W (k+1) ys h5))
 (done: ∀ys h',W n ys h'-> ∀p,h' p=none->Q (.lst p) (wb h' p ys)):vL (bN i) js (iR1 ta) tt te σ h Q:=by
 refine ht _ ⟨(n:Int),rfl,by omega,by omega,n,λk ys h'=>k<=n/\W k ys h',⟨T4 _,w0⟩,?_⟩;rintro k ys h' ⟨hk,w⟩;refine⟨R9 (wl k ys h' w) (R1 (jw (by omega))),_,rfl,by simp,λhl p hp=> ?_,λd hd=>⟨_,rfl,?_⟩⟩
 ·have:k=n:=by simp at hl;omega
  subst this;exact done _ _ w p hp
 ·obtain⟨hi',e⟩:=Vy hd;have hk2:k<n:=by omega
  subst e;exact turn k ys h' hk2 w
section
variable {α:Type}{i i':Nat}{js:List Nat}{ti:TID}{te:TED}{σ:SD}{h:HD}{Q:KD}{j:ItD}
theorem qj (xs:List α)(c c' g:α->D)(hz:xs.length<=1000)(hj:j h=some (xs.map λx=> .tup [c x,c' x]))(ht: ∀R:ItD->HD->Prop,R j h->ti σ h R)
 (he: ∀x∈xs,∀Q':KD,Q' (g x) h->te (((jI js σ).set i (some (c x))).set i' (some (c' x))) h Q')(hq: ∀p,h p=none->Q (.lst p) (wb h p (xs.map g))):vL (b2 i i') js ti vt te σ h Q:=by
 refine ht _ ⟨xs.length,λk ys h'=>h'=h/\ys=(xs.take k).map g,⟨rfl,by simp⟩,?_⟩;rintro k ys h' ⟨rfl,rfl⟩;refine⟨by simp only [G2,R7];exact R1 (jw (by omega)),_,hj,by simp,λhl p hp=> ?_,λd hd=> ?_⟩
 ·rw [R5 (by simpa using hl)];exact hq p hp
 ·rw [P1] at hd;cases hx:xs[k]? with
  |none=>rw [hx] at hd;cases hd
  |some x=>
   rw [hx] at hd;cases hd;refine⟨_,⟨_,_,rfl,rfl⟩,?_⟩;unfold vt;dsimp only;rw [if_pos rfl];refine he x (P4 hx) _ ⟨h',Sub.refl _,rfl,?_⟩;rw [T8,hx];simp
theorem LP (xs:List α)(c c':α->D)(g:α->Bool)(hz:xs.length<=1000)(hj:j h=some (xs.map λx=> .tup [c x,c' x]))(ht: ∀R:ItD->HD->Prop,R j h->ti σ h R)
 (he: ∀x∈xs,∀Q':KD,Q' (.bl (g x)) h->te (((jI js σ).set i (some (c x))).set i' (some (c' x))) h Q')(hq:Q (.bl (xs.all g)) h):dCB Lh (zh (vL (b2 i i') js ti vt te) Zv) σ h Q:=by
 show vL (b2 i i') js ti vt te σ h (λx h1=>Lh [x] h1 Q);exact qj xs c c' (λx=> .bl (g x)) hz hj ht he λp hp=>⟨p,xs.map g,rfl,by rw [jc,R3];rfl,by rw [zw hp,A6];exact hq⟩
end
def IsS (n:Nat)(S:List Nat):Prop:= ∃p:Nat->Bool,S=(G0 n).filter p
variable {n:Nat}{S:List Nat}
theorem IsS.lt (h:IsS n S){i:Nat}(hi:i∈S):i<n:=by
 obtain⟨p,rfl⟩:=h;exact G8.mp (T6.mp hi).1
theorem IsS.len (h:IsS n S):S.length<=n:=by
 obtain⟨p,rfl⟩:=h;have:=C5 p (G0 n)
 rwa [G5] at this
theorem IsS.rise (h:IsS n S):S.Pairwise (· < ·):=by
 obtain⟨p,rfl⟩:=h;exact List.pairwise_lt_range.filter p
def jL (n:Nat)(T:List (List Int))(S:List Nat):List Nat:=(G0 n).filter λj=>S.any λi=>decide (ent T i j≠0)
theorem IsS.step (T:List (List Int))(S:List Nat):IsS n (jL n T S):=⟨_,rfl⟩
def itF {α:Type}(f:α->α)(x:α):Nat->α
 |0=>x
 |k+1=>f (itF f x k)
variable {α:Type}
theorem Da (f:α->α)(x:α)(a:Nat): ∀b,itF f x (a+b)=itF f (itF f x a) b
 |0=>rfl
 |b+1=>by show f (itF f x (a+b))=f (itF f (itF f x a) b);rw [Da f x a b]
theorem GF {α:Type}{f:α->α}{x:α}{a p:Nat}(e:itF f x (a+p)=itF f x a)(r:Nat): ∀q,itF f x (a+p*q+r)=itF f x (a+r)
 |0=>by simp
 |q+1=>by
  have h1:a+p*(q+1)+r=(a+p)+(p*q+r):=by rw [W8];omega
  rw [h1,Da,e,<-Da,<-K6,GF e r q]
theorem BR {α:Type}{f:α->α}{x:α}{a m k:Nat}(e:itF f x m=itF f x a)(ha:a<m)(hk:a<=k):itF f x (a+(k-a)%(m-a))=itF f x k:=by
 have e':itF f x (a+(m-a))=itF f x a:=by rw [show a+(m-a)=m by omega];exact e
 have h:=GF e' ((k-a)%(m-a)) ((k-a) / (m-a));have h2:=Q7 (k-a) (m-a);rw [show a+(m-a)*((k-a) / (m-a))+(k-a)%(m-a)=k by omega] at h;exact h.symm
theorem IsS.it {T:List (List Int)}(h:IsS n S): ∀k,IsS n (itF (jL n T) S k)
 |0=>h
 |_+1=>IsS.step _ _
theorem VL [DecidableEq α]: ∀ {l m:List α},l.Nodup->(∀x∈l,x∈m)->l.length<=m.length
 | [],_,_,_=>T4 _
 |a::l,m,nd,h=>by
  have hm:=h a D0;have h2:l.length<=(m.erase a).length:=VL (K3.mp nd).2 λx hx=>by
   have hxa:x≠a:=λe=>(K3.mp nd).1 (e ▸ hx)
   exact(fV hxa).mpr (h x (D5 _ hx))
  rw [dL hm] at h2;have:=eU hm;simp only [R0];omega
def UP:Nat->List (List Nat)
 |0=> [[]]
 |n+1=>UP n++(UP n).map (· ++ [n])
theorem GH: ∀n,(UP n).length=2^n
 |0=>rfl
 |n+1=>by
  show (UP n++(UP n).map (· ++ [n])).length=_;rw [P2,G2,GH n,nH];omega
theorem VM (p:Nat->Bool): ∀n,(G0 n).filter p∈UP n
 |0=>by simp [UP]
 |n+1=>by
  rw [B3,A8];show _∈UP n++(UP n).map (· ++ [n]);cases e:p n with
  |true=>
   refine D9.mpr (.inr (D6.mpr ⟨_,VM p n,?_⟩));simp [e]
  |false=>
   refine D9.mpr (.inl ?_);have: [n].filter p= []:=by simp [e]
   rw [this,B7];exact VM p n
theorem LQ (h6:n<=6){l:List (List Nat)}(nd:l.Nodup)(hS: ∀S∈l,IsS n S):l.length<=64:=by
 have h:=VL nd (m:=UP n) λS hs=>by obtain⟨p,rfl⟩:=hS S hs;exact VM p n
 rw [GH] at h;exact R9 h (bJ (by decide) h6:2^n<=2^6)
def PD (S:List Nat):K5:=UJ (zU S)
theorem VN (h:HD)(S:List Nat):ToP h (jC S) (PD S):=by rw [VG];exact⟨_,rfl,zV h _⟩
theorem VO (h:HD): ∀Ss:List (List Nat),ToPs h (Ss.map jC) (Ss.map PD)
 | []=>rfl
 |S::Ss=>⟨_,_,rfl,VN h S,VO h Ss⟩
theorem Zi (r:List Int):(UJ r).canLay0=true:=by unfold UJ;simp only [H0];exact yI r
theorem ZK: ∀Ss:List (List Nat),L8 (Ss.map PD)=true
 | []=>rfl
 |S::Ss=>by show (H0 (PD S)&&_)=true;rw [ZK Ss];rw [show (PD S).canLay0=true from Zi _];rfl
theorem VP (r:List Int):(UJ r).depth<=2:=by unfold UJ;simp only [U6];have:=Zh r;omega
theorem WT: ∀a b:List Int,B6 (a.map W7) (b.map W7)=decide (a=b)
 | [],[]=>by simp [B6]
 | [],_::_=>by simp [B6]
 |_::_,[]=>by simp [B6]
 |x::a,y::b=>by
  show ((x==y)&&B6 (a.map .int) (b.map .int))=_;rw [WT a b,T7];simp
theorem BS (a b:List Int):M8 (UJ a) (UJ b)=decide (a=b):=WT a b
theorem BT {a b:List Nat}(h:zU a=zU b):a=b:=by
 have:=congrArg (dS mZ) h;unfold zU at this;simpa [R3,X7] using this
theorem Qc (a b:List Nat):M8 (PD a) (PD b)=decide (a=b):=by
 unfold PD;rw [BS,T7,decide_eq_true_eq,decide_eq_true_eq];exact⟨BT,λe=>by rw [e]⟩
theorem ME (r:List Int):shaped (UJ r)=true:=by
 unfold shaped;rw [Zi,decide_eq_true (by have:=VP r;omega)];rfl
theorem EZ {neg:Bool}{Ss:List (List Nat)}{a:Addr}(ha:h a=some (Ss.map jC))(q:Q (.bl (neg !=decide (S∈Ss))) h):inE neg (jC S) (.lst a) h Q:=by
 refine⟨PD S,Ss.map PD,VN h S,.inl ⟨a,_,rfl,ha,VO h Ss⟩,Zi _,ZK Ss,R9 (VP _) (by decide),?_⟩;have e:((Ss.map PD).any λz=>M8 z (PD S))=decide (S∈Ss):=by
  rw [T7,aX,W3,decide_eq_true_eq];constructor
  ·rintro ⟨x,hx,e⟩;have:x=S:=by simpa [C6,Qc] using e
   rw [<-this];exact hx
  ·intro hi;exact⟨S,hi,by simp [C6,Qc]⟩
 rw [e];exact q
theorem Sa {Ss:List (List Nat)}{a:Addr}(ha:h a=some (Ss.map jC))(hS:S∈Ss)(hl:Ss.length<=1000)(q:Q (.int ((Ss.idxOf S:Nat):Int)) h):
 ∃ (p:K5) (ps:List K5) (j:Nat) (z:K5),ToP h (.lst a) (.list ps)/\ToP h (jC S) p/\p.canLay0=true/\L8 ps=true/\p.depth<=60/\j<1000000/\ps[j]? =some z/\M8 z p=true/\(∀m y,m<j->ps[m]? =some y->M8 y p=false)/\Q (.int (j:Int)) h:=by
 have hj:=C0.mpr hS;refine⟨PD S,Ss.map PD,Ss.idxOf S,PD S,⟨a,_,rfl,ha,VO h Ss⟩,VN h S,Zi _,ZK Ss,R9 (VP _) (by decide),by omega,?_,by rw [Qc,decide_eq_true rfl],λm y hm hy=> ?_,q⟩
 ·rw [P1,G1 hj,F7 hj];rfl
 ·rw [P1] at hy;have hml:m<Ss.length:=by omega
  rw [G1 hml] at hy;cases hy;rw [Qc];have:=eZ (p:=(· ==S)) (xs:=Ss) hm;simpa using this
theorem Wo {α:Type}{f:Nat->α}{L:Nat}(h:1<=L):atI ((G0 L).map f) (-1)=some (f (L-1)):=by
 unfold atI ixN;rw [G2,G5,if_neg (by decide),if_pos (by omega)];show ((G0 L).map f)[(-1+(L:Int)).toNat]? =_;rw [show (-1+(L:Int)).toNat=L-1 by omega,P1,T5 (by omega)];rfl
theorem VQ {α:Type}{f:Nat->α}{L:Nat}(h:i<L):atI ((G0 L).map f) (i:Int)=some (f i):=
 zG (by rw [P1,T5 h];rfl)
theorem BU (xs:List α):UI xs (some 1) none=xs.drop 1:=by
 unfold UI;cases xs with
 |nil=>simp
 |cons x xs=>simp [HT.sIx]
theorem BV (S:List Nat):PY (S.map λ(k:Nat)=>D.int (k:Int)) (UI (S.map λ(k:Nat)=>D.int (k:Int)) (some 1) none)=(S.zip (S.drop 1)).map λp=>D.tup [.int (p.1:Int),.int (p.2:Int)]:=by
 rw [BU];unfold PY;rw [<-gM,nI,R3];rfl
theorem RA: ∀ {S:List Nat},S.Pairwise (· < ·)-> ∀p∈S.zip (S.drop 1),p.1<p.2
 | [],_,p,hp=>by simp at hp
 | [a],_,p,hp=>by simp at hp
 |a::b::l,h,p,hp=>by
  have h':=W9.mp h;rcases R6.mp (show p∈(a,b)::(b::l).zip ((b::l).drop 1) from hp) with e|e
  ·subst e;exact h'.1 b D0
  ·exact RA h'.2 p e
theorem LU {js:List Nat}{ta:TAD}{tt:TTD}{te:TED}{σ:SD}{h1:HD}(n:Nat)(W:Nat->List D->HD->Prop)(hn:n<=1000)(ht: ∀R:List D->HD->Prop,R [.int (n:Int)] h1->ta σ h R)
 (w0:W 0 [] h1)(wl: ∀k ys h',W k ys h'->ys.length<=k)(turn: ∀k ys h',k<n->W k ys h'->tt ((jI js σ).set i (some (.int (k:Int)))) h' λb h3=>if b=true then te ((jI js σ).set i (some (.int (k:Int)))) h3 λy h4=> ∃h5,Sub h5 h4/\(k+1<=n/\W (k+1) (ys++ [y]) h5) else ∃h5,Sub h5 h3/\(k+1<=n/\W (k+1) ys h5))
 (done: ∀ys h',W n ys h'->Q (.tup ys) h'):dCB Yx (zh (vL (bN i) js (iR1 ta) tt te) Zv) σ h Q:=by
 show vL (bN i) js (iR1 ta) tt te σ h (λx h1=>Yx [x] h1 Q);exact EY n W hn ht w0 wl turn λys h' w p hp=>(show ∃zs,wb h' p ys p=some zs/\Q (.tup zs) (UN (wb h' p ys) p) from ⟨_,jc,by rw [zw hp];exact done ys h' w⟩)
structure Enc {α:Type}[DecidableEq α](e:α->D)(p:α->K5):Prop where
 to: ∀ (h:HD) a,ToP h (e a) (p a)
 lay: ∀a,(p a).canLay0=true
 dp: ∀a,(p a).depth<=60
 eq: ∀a b,M8 (p a) (p b)=decide (a=b)
section
variable {α:Type}[DecidableEq α]{e:α->D}{p:α->K5}
theorem Enc.tos (E:Enc e p)(h:HD): ∀as:List α,ToPs h (as.map e) (as.map p)
 | []=>rfl
 |a::as=>⟨_,_,rfl,E.to h a,E.tos h as⟩
theorem Enc.lays (E:Enc e p): ∀as:List α,L8 (as.map p)=true
 | []=>rfl
 |a::as=>by show (H0 (p a)&&_)=true;rw [E.lays as,E.lay a];rfl
theorem Kp (E:Enc e p){neg:Bool}{x:α}{as:List α}{a:Addr}{h:HD}{Q:KD}(ha:h a=some (as.map e))(q: ∀b:Bool,(b=true↔x∈as)->Q (.bl (neg !=b)) h):inE neg (e x) (.lst a) h Q:=by
 refine⟨p x,as.map p,E.to h x,.inl ⟨a,_,rfl,ha,E.tos h as⟩,E.lay x,E.lays as,E.dp x,q _ ?_⟩;rw [aX,W3];constructor
 ·rintro ⟨y,hy,z⟩;have:y=x:=by simpa [C6,E.eq] using z
  rw [<-this];exact hy
 ·intro hi;exact⟨x,hi,by simp [C6,E.eq]⟩
theorem Kq (E:Enc e p){x:α}{as:List α}{a:Addr}{h:HD}(ha:h a=some (as.map e))(hx:x∈as)(hl:as.length<=100000):
 ∃ (j:Nat) (q:K5) (qs:List K5) (z:K5),as[j]? =some x/\ToP h (.lst a) (.list qs)/\ToP h (e x) q/\q.canLay0=true/\L8 qs=true/\q.depth<=60/\j<1000000/\qs[j]? =some z/\M8 z q=true/\(∀m y,m<j->qs[m]? =some y->M8 y q=false):=by
 have hj:=C0.mpr hx;have ex:as[as.idxOf x]? =some x:=by rw [G1 hj,F7 hj]
 refine⟨as.idxOf x,p x,as.map p,p x,ex,⟨a,_,rfl,ha,E.tos h as⟩,E.to h x,E.lay x,E.lays as,E.dp x,by omega,?_,by rw [E.eq,decide_eq_true rfl],λm y hm hy=> ?_⟩
 ·rw [P1,ex];rfl
 ·rw [P1] at hy;have hml:m<as.length:=by omega
  rw [G1 hml] at hy;cases hy;rw [E.eq];have:=eZ (p:=(· ==x)) (xs:=as) hm;simpa using this
end
theorem yK: ∀a b:List (List Int),B6 (a.map UJ) (b.map UJ)=decide (a=b)
 | [],[]=>by simp [B6]
 | [],_::_=>by simp [B6]
 |_::_,[]=>by simp [B6]
 |x::a,y::b=>by
  show (M8 (UJ x) (UJ y)&&B6 (a.map UJ) (b.map UJ))=_;rw [yK a b,BS,T7];simp
theorem qk:Enc jq BA:=⟨PV,λT=>by unfold BA;simp only [H0];exact ZJ T,λT=>by unfold BA;simp only [U6];have:=WR T;omega,yK⟩
def mk1 (n:Nat)(T:List (List Int))(M:List (List Int)):List (List Int):=jO n (Zo n M T)
def zX (n:Nat)(T:List (List Int))(i:Nat):List (List Int):=itF (mk1 n T) (jO n T) i
theorem VR (n:Nat)(T:List (List Int)): ∀i,∃M,zX n T i=jO n M
 |0=>⟨T,rfl⟩
 |_+1=>⟨_,rfl⟩
theorem yL (n:Nat)(T:List (List Int))(i:Nat):Sq n 1 (zX n T i):=by
 obtain⟨M,e⟩:=VR n T i;rw [e];exact Sq.mark M
theorem Wp {e:Nat}{T:List (List Int)}(h:Sq n e T)(hn:n<=8): ∀i,zX n T i=jO n (zF n T (i+1))
 |0=>by
  show jO n T=jO n (Zo n (QY n) T);rw [Rr h hn]
 |i+1=>by
  show jO n (Zo n (zX n T i) T)=jO n (Zo n (zF n T (i+1)) T);rw [Wp h hn i,Ru (Sq.mark (n:=n) _) h,Ru (h.pow hn (i+1)) h,BE]
def RP (n:Nat)(T:List (List Int))(k i j:Nat):Prop:=ent (zF n T k) i j≠0
section
variable {n e:Nat}{T:List (List Int)}
theorem zJ (h:Sq n e T)(hn:n<=8)(a b:Nat){i j:Nat}(hi:i<n)(hj:j<n):RP n T (a+b) i j↔ ∃k,k<n/\RP n T a i k/\RP n T b k j:=by
 unfold RP;rw [pow_add h hn a b];exact ya (h.pow hn a) (h.pow hn b) hi hj
theorem Jw (h:Sq n e T)(hn:n<=8){c x:Nat}(hx:x<n)(l:RP n T c x x): ∀q,RP n T (c*(q+1)) x x
 |0=>by rw [A7,Nat.mul_one];exact l
 |q+1=>by
  rw [W8];exact(zJ h hn _ _ hx hx).mpr ⟨x,hx,Jw h hn hx l q,l⟩
theorem zc {i j:Nat}(hi:i<n)(hj:j<n):RP n T 0 i j↔i=j:=by
 unfold RP;show ent (QY n) i j≠0↔_;unfold QY;rw [wZ hi hj]
 by_cases z:i=j
 ·simp [z]
 ·simp [z]
theorem GI (h:Sq n e T)(hn:n<=8): ∀ (m:Nat) {i j:Nat},i<n->j<n->RP n T m i j-> ∃v:Nat->Nat,v 0=i/\v m=j/\(∀t,t<=m->v t<n)/\ ∀t,t<m->RP n T 1 (v t) (v (t+1))
 |0,i,j,hi,hj,r=>by
  have:=(zc hi hj).mp r;exact⟨λ_=>i,rfl,this,λ_ _=>hi,λt ht=>by omega⟩
 |m+1,i,j,hi,hj,r=>by
  obtain⟨k,hk,r1,r2⟩:=(zJ h hn m 1 hi hj).mp r;obtain⟨v,v0,vm,vl,vr⟩:=GI h hn m hi hk r1;refine⟨λt=>if t<=m then v t else j,?_,?_,λt _=> ?_,λt ht=> ?_⟩
  ·simp [v0]
  ·show (if m+1<=m then v (m+1) else j)=j;rw [if_neg (by omega)]
  ·show (if t<=m then v t else j)<n;split
   ·exact vl t (by assumption)
   ·exact hj
  ·show RP n T 1 (if t<=m then v t else j) (if t+1<=m then v (t+1) else j);rw [if_pos (by omega)]
   by_cases z:t+1<=m
   ·rw [if_pos z];exact vr t (by omega)
   ·rw [if_neg z,show t=m by omega,vm];exact r2
theorem yk (h:Sq n e T)(hn:n<=8){m:Nat}{v:Nat->Nat}(vl: ∀t,t<=m->v t<n)(vr: ∀t,t<m->RP n T 1 (v t) (v (t+1)))(a:Nat): ∀b,a+b<=m->RP n T b (v a) (v (a+b))
 |0,hb=>(zc (vl a (by omega)) (vl a (by omega))).mpr rfl
 |b+1,hb=>(zJ h hn b 1 (vl a (by omega)) (vl _ hb)).mpr ⟨v (a+b),vl _ (by omega),yk h hn vl vr a b (by omega),vr (a+b) (by omega)⟩
theorem Ao {n:Nat}{v:Nat->Nat}(hv: ∀t,t<=n->v t<n): ∃a b,a<b/\b<=n/\v a=v b:=by
 by_cases z: ∃a b,a<b/\b<=n/\v a=v b
 ·exact z
 ·exfalso;have nd:((G0 (n+1)).map v).Nodup:=by
   unfold g7;rw [F4];refine List.Pairwise.imp_of_mem (λ{a b} _ hb hab=> ?_) (List.pairwise_lt_range (n:=n+1));intro e;exact z ⟨a,b,hab,by have:=G8.mp hb;omega,e⟩
  have:=VL nd (m:=G0 n) λx hx=>by
   obtain⟨t,ht,e⟩:=D6.mp hx;rw [<-e];exact G8.mpr (hv t (by have:=G8.mp ht;omega))
  simp at this;omega
theorem Sb (h:Sq n e T)(h6:n<=6){m i j:Nat}(hm:n<=m)(hi:i<n)(hj:j<n)(r:RP n T m i j):RP n T (m+60) i j:=by
 have hn:n<=8:=by omega
 obtain⟨v,v0,vm,vl,vr⟩:=GI h hn m hi hj r;obtain⟨a,b,hab,hbn,eq⟩:=Ao (n:=n) (v:=v) λt ht=>vl t (by omega)
 have ha:=vl a (by omega);have p1:RP n T a i (v a):=by have:=yk h hn vl vr 0 a (by omega);rw [v0,A7] at this;exact this
 have p2:RP n T (b-a) (v a) (v a):=by
  have:=yk h hn vl vr a (b-a) (by omega);rw [show a+(b-a)=b by omega,<-eq] at this;exact this
 have p3:RP n T (m-a) (v a) j:=by
  have:=yk h hn vl vr a (m-a) (by omega);rw [show a+(m-a)=m by omega,vm] at this;exact this
 have p4:RP n T 60 (v a) (v a):=by
  have hc:b-a=1\/b-a=2\/b-a=3\/b-a=4\/b-a=5\/b-a=6:=by omega
  rcases hc with c|c|c|c|c|c<;>rw [c] at p2
  ·exact Jw h hn ha p2 59
  ·exact Jw h hn ha p2 29
  ·exact Jw h hn ha p2 19
  ·exact Jw h hn ha p2 14
  ·exact Jw h hn ha p2 11
  ·exact Jw h hn ha p2 9
 have p5:RP n T (60+(m-a)) (v a) j:=(zJ h hn _ _ ha hj).mpr ⟨v a,ha,p4,p3⟩;have p6:RP n T (a+(60+(m-a))) i j:=(zJ h hn _ _ hi hj).mpr ⟨v a,ha,p1,p5⟩;rw [show a+(60+(m-a))=m+60 by omega] at p6;exact p6
end
theorem Zj {f g:Nat->Int}(h: ∀k,k<n->f k<=g k):jU n f<=jU n g:=by
 induction n with
 |zero=>exact U5 _
 |succ n ih=>rw [jJ,jJ];have:=ih λk hk=>h k (by omega);have:=h n (by omega);omega
theorem Xo {f g:Nat->Int}(h: ∀k,k<n->f k<=g k)(e:jU n g<=jU n f): ∀k,k<n->f k=g k:=by
 induction n with
 |zero=>intro k hk;omega
 |succ n ih=>
  rw [jJ,jJ] at e;have a:=Zj λk (hk:k<n)=>h k (by omega)
  have b:=h n (by omega);intro k hk
  by_cases z:k=n
  ·subst z;omega
  ·exact ih (λk hk=>h k (by omega)) (by omega) k (by omega)
section
variable {n e:Nat}{T:List (List Int)}
def tot (n:Nat)(T:List (List Int))(k:Nat):Int:=jU n λi=>jU n λj=>ent (jO n (zF n T k)) i j
theorem WU {M:List (List Int)}{i j:Nat}(hi:i<n)(hj:j<n):ent (jO n M) i j=if ent M i j=0 then 0 else 1:=wZ hi hj
theorem Sc (h:Sq n e T)(h6:n<=6){m:Nat}(hm:n<=m): ∀i j,i<n->j<n->ent (jO n (zF n T m)) i j<=ent (jO n (zF n T (m+60))) i j:=λi j hi hj=>by
 rw [WU hi hj,WU hi hj]
 by_cases z:ent (zF n T m) i j=0
 ·rw [if_pos z];split<;>omega
 ·rw [if_neg z,if_neg (Sb h h6 hm hi hj z)];exact U5 _
theorem LV (h:Sq n e T)(h6:n<=6){m:Nat}(hm:n<=m):jO n (zF n T m)=jO n (zF n T (m+60))\/tot n T m+1<=tot n T (m+60):=by
 have le:=Sc h h6 hm;have a:tot n T m<=tot n T (m+60):=Zj λi hi=>Zj λj hj=>le i j hi hj
 by_cases z:tot n T (m+60)<=tot n T m
 ·left;refine(Sq.mark (n:=n) _).ext (Sq.mark (n:=n) _) λi j hi hj=> ?_
  have b:=Xo (λi hi=>Zj λj hj=>le i j hi hj) z i hi;exact Xo (λj hj=>le i j hi hj) (by rw [b];exact U5 _) j hj
 ·right;omega
theorem GJ (k:Nat)(h6:n<=6):0<=tot n T k/\tot n T k<=36:=by
 have r: ∀i,i<n->0<=(jU n λj=>ent (jO n (zF n T k)) i j)/\(jU n λj=>ent (jO n (zF n T k)) i j)<=6:=λi hi=>by
  have a: ∀j,j<n->0<=ent (jO n (zF n T k)) i j/\ent (jO n (zF n T k)) i j<=1:=λj hj=>by
   rw [WU hi hj];split<;>omega
  refine⟨Wk λj hj=>(a j hj).1,?_⟩;have:=XV (f:=λj=>ent (jO n (zF n T k)) i j) λj hj=>(a j hj).2
  omega
 refine⟨Wk λi hi=>(r i hi).1,?_⟩;have b:=XV (f:=λi=>jU n λj=>ent (jO n (zF n T k)) i j) λi hi=>(r i hi).2
 unfold tot;omega
theorem MF (h:Sq n e T)(h6:n<=6): ∃t,t<=36/\jO n (zF n T (n+60*t))=jO n (zF n T (n+60*(t+1))):=by
 by_cases z: ∃t,t<=36/\jO n (zF n T (n+60*t))=jO n (zF n T (n+60*(t+1)))
 ·exact z
 ·exfalso;have g: ∀t:Nat,t<=37->(t:Int)<=tot n T (n+60*t):=by
   intro t
   induction t with
   |zero=>intro _;exact(GJ _ h6).1
   |succ t ih=>
    intro ht;have a:=ih (by omega);rcases LV h h6 (m:=n+60*t) (by omega) with b|b
    ·exact(z ⟨t,by omega,by rw [b];rfl⟩).elim
    ·have e1:n+60*t+60=n+60*(t+1):=by omega
     rw [e1] at b;omega
  have a:=g 37 (P0 _);have b:=(GJ (T:=T) (n+60*37) h6).2;omega
theorem BW (h:Sq n e T)(h1:1<=n)(h6:n<=6){L:Nat}(nd:((G0 L).map (zX n T)).Nodup):L<=2225:=by
 by_cases z:L<=2225
 ·exact z
 ·exfalso;obtain⟨t,ht,eq⟩:=MF h h6;have e1:zX n T (n+60*t-1)=zX n T (n+60*t+59):=by
   rw [Wp h (by omega),Wp h (by omega),show n+60*t-1+1=n+60*t by omega,show n+60*t+59+1=n+60*(t+1) by omega];exact eq
  have inj:=nd;unfold g7 at inj;rw [F4] at inj;have h2:=O6.mp inj (n+60*t-1) (n+60*t+59) (by simp;omega) (by simp;omega) (by omega);simp only [F8] at h2;exact h2 e1
structure Course (n:Nat)(T:List (List Int))(L J:Nat):Prop where
 nd:((G0 L).map (zX n T)).Nodup
 lt:J<L
 eq:zX n T L=zX n T J
theorem uS {L a b:Nat}{f:Nat->List (List Int)}(nd:((G0 L).map f).Nodup)(hab:a<b)(hb:b<L):f a≠f b:=by
 unfold g7 at nd;rw [F4] at nd;have h2:=O6.mp nd a b (by simp;omega) (by simp;omega) hab;simpa using h2
end
structure Grid (n:Nat)(h0 h:HD)(p R:Addr)(rs:List Addr):Prop where
 at_:h R=some (rs.map D.lst)
 len:rs.length=n
 nR:R ∉ rs
 fR:h0 R=none
 np:p ∉ rs
 nRp:R≠p
 row: ∀a∈rs,h0 a=none/\ ∃r,h a=some (r.map D.int)/\VD n r
theorem Db (h:i<n):ixN n (i:Int)=some i:=by
 unfold ixN;simp;omega
theorem call_divmodB {X:Cx}:CallR X (.builtin "divmod") (λxs H Q=> ∃i j,xs= [.int i,.int j]/\(0<j/\j<2^200)/\ ∀p,H p=none->Q (.ref p) (upd H p (.tup [.int (i / j),.int (i%j)]))):=by
 intro pins s σ H xs us Q I r h;obtain⟨i,j,rfl,⟨h1,h2⟩,q⟩:=h;obtain⟨u,w',rfl,⟨t,rfl⟩,⟨t',rfl⟩⟩:=FQ r;refine divmod_int (by omega) ?_ (.inl (PyProof.noPylong_of_log2 ?_))
 ·rw [cG i (by omega),cH i (by omega)];have hn:H s.heap.objs.size=none:=I.hok.fresh (P0 _);refine⟨.ref s.heap.objs.size,_,?_,rfl,q _ hn⟩;refine I.laid (λb o e=>G7 _ e) (P0 _) ⟨by simp only [R0,M1];rw [nV];decide,[.int (i / j) s.toks,.int (i%j) (s.toks+1)],.cons ⟨_,rfl⟩ (.cons ⟨_,rfl⟩ .nil),?_⟩;exact⟨_,D7 s.heap rfl,rfl,rfl,0,rfl⟩
 ·have h3:j.natAbs<2^200:=VF (by omega) h2;have h4:=(Nat.log2_lt (by omega:j.natAbs≠0)).mpr h3;omega
def Sd:RDn:=λds h Q=> ∃i j:Int,ds= [.int i,.int j]/\(0<j/\j<2^200)/\Q (.tup [.int (i / j),.int (i%j)]) h
theorem MG {X:Cx}:Jl X (.builtin "divmod") Sd:=call_divmodB.imp λxs H Q ⟨ds,h,Qd,r,rh,⟨i,j,e,c,q⟩,p⟩=>by
 subst e;obtain⟨v,w,e,r1,r2⟩:=yG r;cases (show v= .int i from r1);cases (show w= .int j from r2);exact⟨i,j,e,c,λa ha=>p (.tup [.int (i / j),.int (i%j)]) _ _ _ (.new ha) (rh.new ha) ⟨a,_,rfl,jy,.cons rfl (.cons rfl .nil)⟩ q⟩
theorem BX {T:List (List Int)}{L J:Nat}(c:Course n T L J){i:Nat}(hi:J<=i):zX n T (J+(i-J)%(L-J))=zX n T i:=BR c.eq c.lt hi
theorem Se {A B:List (List Int)}(q:Q (.bl (decide (A=B))) h):eqE (jq A) (jq B) h Q:=
 ⟨_,_,PV _ _,PV _ _,Xl _,Xl _,by rw [show M8 (BA A) (BA B)=decide (A=B) from yK A B];exact q⟩
theorem Xp {prog:S3}{w:N2}{A:M7}(hh:A.handled=none)(it t:Addr)(items:Array G3)(n:Nat)(hn:items.size<=n):
 Draws prog w A it [it,t] n (λ_ _=>False) (λi h=>i=n/\h.IsListIter it t n/\h.IsList t items) where
 live:=λ_ _ st=>let ⟨o,ho,_⟩:=st.2.1;⟨o,ho⟩
 frame:=λ_ _ _ st hk=>⟨st.1,st.2.1.at λo e=>hk it (by simp) o e,st.2.2.at λo e=>hk t (by simp) o e⟩
 item:=λi s Q E hi st hQ=>absurd st.1 (S0 hi)
 done:=λs Q E st hE=>wpAny_nextOf_list_end hh st.2.1 st.2.2 (eT hn) hE
def uU (K:PySem.W.Frag)(a:Addr):It:=
 ⟨λi H=> ∃xs x,SqL K H a xs/\xs[i]? =some x,λi H x H'=> ∃p v,H p=none/\(∀xs,SqL K H a xs->xs[i]? =some v)/\x= .ref p/\H'=upd H p (.tup [.int i,v]),λi H=> ∃xs,SqL K H a xs/\xs.length<=i⟩
theorem MJ {P:S3}{w:N2}{K:PySem.W.Frag}{es:List Expr}{k:Nat}{pos:Pos}(a it e:Addr)(hei:e≠it)(hae:a≠e)(hai:a≠it):Turn P w K (.Tuple es k pos) (uU K a) [e,it] e (λi h=>(∃old,gY h e it i old)/\h.IsListIter it a i) where
 mem:=by simp
 obj:=λi h st b hb=>by
  rcases R6.mp hb with z|z
  ·subst z;obtain⟨old,q⟩:=st.1;exact⟨_,q,λv z=>by cases z⟩
  ·have z:=G9.mp z;subst z;obtain⟨o,q,c,d⟩:=st.2;exact⟨o,q,λv z=>by rw [d] at z;cases z⟩
 keep:=λi h h' st k=>⟨let ⟨old,q⟩:=st.1;⟨old,k e (by simp) _ q⟩,st.2.at λo q=>k it (by simp) o q⟩
 item:=by
  intro X hP hw hK hc i pins s σ H E I hf st hg;subst hP hw hK;obtain⟨xs,x,hq,hx⟩:=hg;obtain⟨its,rv,p,hz⟩:=I.list hq;obtain⟨u,hu,ru⟩:=rv.get hx;have hi:i<its.toArray.size:=by have:=(P3.mp hu).1;simpa using this
  obtain⟨old,he⟩:=st.1;have helt:e<s.heap.objs.size:=P9 he;refine aP (Draws.list (prog:=X.prog) (w:=X.w) (A:=X.A.in1) (I.ok.hd hc) it a hai its.toArray) he ⟨st.2,p.isList⟩ hi hei (by simp [hei,A4 hae]) λx' h' tk hx' ho hs' hT hsz hk=> ?_
  have ex:x'=u:=M0 (hx'.symm.trans (show its.toArray[i]? =some u by simpa using hu));subst ex;refine⟨_,rfl,Y1 ho λh2 he2 hs2=> ?_⟩;have hn:H s.heap.objs.size=none:=I.hok.fresh (P0 _);have hT2:h2.get? s.heap.objs.size=some {cls:= .type "tuple",data:= .seq #[.int i tk,x']}:=(hs2.2 _ (E4 helt)).trans hT;refine⟨.ref s.heap.objs.size,upd H s.heap.objs.size (.tup [.int i,x]),?_,rfl,⟨_,x,hn,λys hy=>by rw [I.list_inj hy hq];exact hx,rfl,rfl⟩,⟨⟨x',by simpa using he2⟩,hs'.1.at λo y=>(hs2.2 it (A4 hei)).trans y⟩,λb hb=> ?_⟩
  ·refine I.turnLaid (h':=h2) (t':=tk+1) (ch:= [e,it]) (λb u hb q=> ?_) hf (P0 _) ⟨by show 2<=sizeLine;decide,[.int i tk,x'],.cons ⟨tk,rfl⟩ (.cons ru .nil),⟨_,hT2,rfl,rfl,_,rfl⟩⟩;have b1:b≠e:=λz=>hb (by simp [z])
   have b2:b≠it:=λz=>hb (by simp [z])
   exact(hs2.2 b b1).trans (hk b u b1 b2 q)
  ·have f:=(hf b hb).1;have:b≠s.heap.objs.size:=λz=>by
    rcases R6.mp hb with w|w
    ·rw [<-w,z] at helt;exact absurd helt (N6 _)
    ·have w:=G9.mp w;obtain⟨o,ho',_⟩:=st.2;have:=P9 ho';rw [<-w,z] at this;exact absurd this (N6 _)
   rw [jx this];exact f
 done:=by
  intro X hP hw hK hc i pins s σ H E I hf st hg;subst hP hw hK;obtain⟨xs,hq,hx⟩:=hg;obtain⟨its,rv,p,hz⟩:=I.list hq;obtain⟨old,he⟩:=st.1;have hl:=rv.length;refine aZ (Xp (prog:=X.prog) (w:=X.w) (A:=X.A.in1) (I.ok.hd hc) it a its.toArray i (by simp;omega)) he ⟨rfl,st.2,p.isList⟩ λh' hx'=>⟨rfl,I.turnL (t':=s.toks) (ch:= [it]) (λb o hb q=>hx' b o (λz=>hb (by simp [z])) q) λb hb=>hf b (D5 _ hb)⟩
 self:=λ_ _ _ _ _ st h=>let ⟨_,q⟩:=st.1;U8 q h
section
variable {X:Cx}
def Kr (K:PySem.W.Frag)(ta:TA):TI:=λσ H R=>ta σ H λvs H1=> ∃a,vs= [.ref a]/\(∃xs,SqL K H1 a xs)/\R (uU K a) H1
theorem LW {es:List Expr}{k:Nat}{tp:Pos}{a:Expr}{ta:TA}{p pos:Pos}(hg:Gl X "enumerate")(hm:X.mg "enumerate" =none)(ha:PA X [a] ta)(hs:starEach [a] X.env= [(false,eval a X.env)]:=by rfl):
 PI X (.Tuple es k tp) (.Call (.Name "enumerate" p) [a] [] pos) (Kr X.K ta):=by
 intro pins s σ H R I h;refine nU (Zt I hg hm (show bootBuiltins "enumerate" =some (.type "enumerate") by decide +kernel) (C4 (thn (ha pos pins s σ H _ I h) λus s1 ⟨vs,H1,I1,r1,q1⟩=> ?_) hs rfl));obtain⟨a,e,⟨xs,hq⟩,q⟩:=q1;subst e;cases r1 with
 |cons r rr=>
  cases rr;cases r;obtain⟨its,rv,p,hz⟩:=I1.list hq;have hlt:a<s1.heap.objs.size:=by obtain⟨o,ho,_⟩:=p.isList;exact P9 ho
  refine call_enumerate_list p.isList λh' he hit _ hk=> ?_
  refine U8 he ?_;refine⟨s1.heap.objs.size+1,[s1.heap.objs.size+1,s1.heap.objs.size],_,_,H1,rfl,I1.kept (t':=s1.toks) hk,MJ a s1.heap.objs.size (s1.heap.objs.size+1) (E4 (L6 _)) (S0 (J9 hlt)) (S0 hlt),⟨⟨_,he⟩,hit⟩,λb hb=> ?_,q⟩;have hb':s1.heap.objs.size<=b:=by
   rcases R6.mp hb with w|w
   ·rw [w];exact dD _
   ·rw [G9.mp w];exact P0 _
  exact I1.fpOk hb' (I1.hok.fresh hb')
end
def iEL (ta:TAD):TID:=λσ h R=>ta σ h λxs h1=> ∃a,xs= [.lst a]/\R (λh=>(h a).map UK) h1
section
variable {K:PySem.W.Frag}
theorem MK (H:Hp)(a:Addr):FE K H (λh=>(h a).map UK) (uU K a):=λH' h' k rh ds' e i=>by
 have e:(h' a).map UK=some ds':=e;cases hd:h' a with
 |none=>rw [hd] at e;cases e
 |some ds=>
  rw [hd] at e;cases e;obtain⟨vs,hv',r'⟩:=rh a ds hd;refine⟨λd hd=> ?_,λhl=>⟨vs,SqL.of hv',by rw [<-r'.length,<-wS];exact hl⟩⟩;obtain⟨x,hx,ed⟩:=Vi hd;subst ed;obtain⟨v,e1,e2⟩:=r'.get hx;refine⟨⟨vs,v,SqL.of hv',e1⟩,λx' H'' ⟨p,v',hp,hx',ex,eH⟩=> ?_⟩;subst ex eH;have ev:v'=v:=by have:=hx' vs (SqL.of hv');rw [e1] at this;exact(M0 this).symm
  subst ev;have k2:Kept H' (upd H' p (.tup [.int i,v'])):= .new hp;exact⟨k2,RelH.new rh hp,p,[.int i,v'],rfl,jy,_,_,rfl,rfl,_,_,rfl,e2.mono k2,rfl⟩
theorem LX {ta:TAD}: ∀σ H R,LI K (iEL ta) σ H R->Kr K (LA K ta) σ H R:=λσ H R ⟨oW,h,Rd,rs,rh,q,p⟩=>
 LA.bind rs rh q λds vs h1 H1 k1 rs1 rh1 r1 ⟨a,e,q1⟩=>by
  subst e;obtain⟨v,e,r2⟩:=jD r1;obtain⟨e',ws,hv⟩:=(show v= .ref a/\ ∃vs,H1 a=some (.lst vs) from r2);subst e';exact⟨a,e,⟨ws,SqL.of hv⟩,p _ _ _ _ k1 rh1 (MK H1 a) q1⟩
end
section
variable {X:Cx}
theorem LY {es:List Expr}{k:Nat}{tp:Pos}{a:Expr}{ta:TAD}{p pos:Pos}(hg:Gl X "enumerate")(hm:X.mg "enumerate" =none)(ha:JA X [a] ta)(hs:starEach [a] X.env= [(false,eval a X.env)]:=by rfl):
 JI X (.Tuple es k tp) (.Call (.Name "enumerate" p) [a] [] pos) (iEL ta):=⟨(LW hg hm ha.to hs).imp LX⟩
end
def wy (d:D)(a b:Int):Bool:=match d with
 | .int x=>decide (a<=x)&&decide (x<=b)
 |_=>false
def vn (d:D)(m:Int):Bool:=match d with
 | .tup es=>es.all λx=>wy x 0 (m-1)
 |_=>false
def qm (d:D)(m lo hi:Int):Bool:=match d with
 | .tup es=>(es.all λx=>wy x 0 (m-1))&&(decide (lo<=(es.length:Int))&&decide ((es.length:Int)<=hi))
 |_=>false
def BY:D->Nat
 | .int x=>x.toNat
 |_=>0
def Jd:D->List Nat
 | .tup es=>es.map BY
 |_=> []
theorem LZ {d:D}{m:Nat}{lo hi:Int}(h:qm d m lo hi=true):d=jC (Jd d)/\(∀i∈Jd d,i<m)/\lo<=((Jd d).length:Int)/\((Jd d).length:Int)<=hi:=by
 cases d with
 |tup es=>
  simp only [qm,M6,S1,decide_eq_true_eq] at h;obtain⟨h1,h2,h3⟩:=h;have key: ∀x∈es,x= .int ((BY x:Nat):Int)/\BY x<m:=λx hx=>by
   have:=h1 x hx;cases x with
   |int y=>
    simp only [wy,M6,decide_eq_true_eq] at this;refine⟨by show D.int y=D.int ((y.toNat:Nat):Int);rw [bY this.1],by show y.toNat<m;omega⟩
   |_=>exact dU this
  refine⟨?_,λi hi=> ?_,by simpa [Jd] using h2,by simpa [Jd] using h3⟩
  ·show D.tup es=D.tup ((es.map BY).map λ(k:Nat)=>D.int (k:Int));rw [R3]
   congr 1
   conv=>lhs;rw [<-bK es]
   exact S7 λx hx=>(key x hx).1
  ·obtain⟨x,hx,e⟩:=D6.mp hi;rw [<-e];exact(key x hx).2
 |_=>exact dU h
end L2
set_option maxRecDepth 35000
namespace L2
open PySem PySem.Spec PyProof.Rows PySem.SeqAt
theorem ML {d:D}{m:Nat}(h:vn d m=true):d=jC (Jd d)/\ ∀i∈Jd d,i<m:=by
 cases d with
 |tup es=>
  have:=LZ (d:= .tup es) (m:=m) (lo:=0) (hi:=(es.length:Int)) (by
   show ((es.all λx=>wy x 0 ((m:Int)-1))&&(decide ((0:Int)<=(es.length:Int))&&decide ((es.length:Int)<=(es.length:Int))))=true;rw [show (es.all λx=>wy x 0 ((m:Int)-1))=true from h,decide_eq_true (by omega),decide_eq_true (by omega)];rfl)
  exact⟨this.1,this.2.1⟩
 |_=>exact dU h
def Qe (T:List (List Int))(W:List Nat):Bool:= !W.isEmpty&&(W.zip (W.drop 1)).all λp=>decide (ent T p.1 p.2>0)
def UQ (T:List (List Int))(n:Nat)(d:D):Bool:=vn d n&&Qe T (Jd d)
section
variable {α:Type}{i i':Nat}{js:List Nat}{ti:TID}{te:TED}{σ:SD}{h:HD}{Q:KD}{j:ItD}
theorem uV (xs:List α)(c c' g:α->D)(p:α->Bool){tt:TTD}(hz:xs.length<=1000)(hj:j h=some (xs.map λx=> .tup [c x,c' x]))(ht: ∀R:ItD->HD->Prop,R j h->ti σ h R)
 (hp: ∀x∈xs,∀Q':Bool->HD->Prop,Q' (p x) h->tt (((jI js σ).set i (some (c x))).set i' (some (c' x))) h Q')(he: ∀x∈xs,p x=true-> ∀Q':KD,Q' (g x) h->te (((jI js σ).set i (some (c x))).set i' (some (c' x))) h Q')(hq: ∀a,h a=none->Q (.lst a) (wb h a ((xs.filter p).map g))):vL (b2 i i') js ti tt te σ h Q:=by
 refine ht _ ⟨xs.length,λk ys h'=>h'=h/\ys=((xs.take k).filter p).map g,⟨rfl,by simp⟩,?_⟩;rintro k ys h' ⟨rfl,rfl⟩;refine⟨?_,_,hj,by simp,λhl a ha=> ?_,λd hd=> ?_⟩
 ·have:=C5 p (xs.take k);simp only [G2,R7] at this ⊢;exact R1 (jw (by omega))
 ·rw [R5 (by simpa using hl)];exact hq a ha
 ·rw [P1] at hd;cases hx:xs[k]? with
  |none=>rw [hx] at hd;cases hd
  |some x=>
   rw [hx] at hd;cases hd;refine⟨_,⟨_,_,rfl,rfl⟩,?_⟩;refine hp x (P4 hx) _ ?_;cases hb:p x with
   |true=>
    rw [if_pos rfl];refine he x (P4 hx) hb _ ⟨_,Sub.refl _,rfl,?_⟩;rw [T8,hx];simp [hb]
   |false=>
    rw [if_neg (by decide)];refine⟨_,Sub.refl _,rfl,?_⟩;rw [T8,hx];simp [hb]
end
def Itv (K:PySem.W.Frag)(a:Addr)(n:Nat):It:=
 ⟨λi H=>i<n/\ ∃xs x,SqL K H a xs/\xs[n-1-i]? =some x,λi H x H'=>H'=H/\ ∀xs,SqL K H a xs->xs[n-1-i]? =some x,λi _=>n<=i⟩
theorem Oa {P:S3}{w:N2}{K:PySem.W.Frag}{tg:Expr}(a it:Addr)(n:Nat):Turn P w K tg (Itv K a n) [it] it (λi h=>i<=n/\h.IsRevIter it a ((n:Int)-1-(i:Int))) where
 mem:=by simp
 obj:=λi h st b hb=>by
  have e:b=it:=by simpa using hb
  subst e;obtain⟨_,o,e,c,d⟩:=st;exact⟨o,e,λv z=>by rw [d] at z;cases z⟩
 keep:=λi h h' st k=>⟨st.1,st.2.at λo e=>k it (by simp) o e⟩
 item:=by
  intro X hP hw hK hc i pins s σ H E I hf st hg;subst hP hw hK;obtain⟨hi,xs,x,hq,hx⟩:=hg;obtain⟨its,rv,p,hz⟩:=I.list hq;obtain⟨u,hu,ru⟩:=rv.get hx;obtain⟨f0,f1,f2,f3,f4,f5⟩:=hf it (by simp);have st2:s.heap.IsRevIter it a (((n-1-i:Nat):Nat):Int):=by
   have:=st.2;rw [show ((n:Int)-1-(i:Int))=(((n-1-i:Nat):Nat):Int) by omega] at this;exact this
  refine wpAny_pyNext_rev_item st2 p.isList (x:=u) (by simpa using hu) λh' st' sb=> ?_
  have I1:Inv X pins σ H {s with heap:=h'}:=I.turned (t':=s.toks) (λb o hb e=>(sb.2 b hb).trans e) f0 f1 f3 f4 f5;obtain⟨o,e,c,d⟩:=id st';refine⟨u,rfl,FM (s:= {s with heap:=h'}) e c d (by decide) ⟨x,H,I1,ru,⟨rfl,λys hy=>by rw [I.list_inj hy hq];exact hx⟩,⟨by omega,?_⟩,λb hb=>(hf b hb).1⟩⟩;rw [show ((n:Int)-1-((i+1:Nat):Int))=(((n-1-i:Nat):Nat):Int)-1 by omega];exact st'
 done:=by
  intro X hP hw hK hc i pins s σ H E I hf st hg;subst hP hw hK;have hg:n<=i:=hg;obtain⟨f0,f1,f2,f3,f4,f5⟩:=hf it (by simp);have st2:s.heap.IsRevIter it a (-1):=by
   have:=st.2;rw [show ((n:Int)-1-(i:Int))= -1 by have:=st.1;omega] at this;exact this
  exact wpAny_pyNext_rev_end (I.ok.hd hc) st2 λh' eb=>⟨rfl,I.turned (t':=s.toks) (λb o hb e=>eb b o hb e) f0 f1 f3 f4 f5⟩
 self:=λ_ _ _ _ _ st h=>fX st.2 h
section
variable {X:Cx}
def qo (K:PySem.W.Frag)(ta:TA):TI:=λσ H R=>ta σ H λvs H1=> ∃a xs,vs= [.ref a]/\SqL K H1 a xs/\R (Itv K a xs.length) H1
theorem Ks {tg:Expr}{a:Expr}{ta:TA}{p pos:Pos}(hg:Gl X "reversed")(hm:X.mg "reversed" =none)(ha:PA X [a] ta)(hs:starEach [a] X.env= [(false,eval a X.env)]:=by rfl):
 PI X tg (.Call (.Name "reversed" p) [a] [] pos) (qo X.K ta):=by
 intro pins s σ H R I h;refine nU (Zt I hg hm (show bootBuiltins "reversed" =some (.type "reversed") by decide +kernel) (C4 (thn (ha pos pins s σ H _ I h) λus s1 ⟨vs,H1,I1,r1,q1⟩=> ?_) hs rfl));obtain⟨a,xs,e,hq,q⟩:=q1;subst e;cases r1 with
 |cons r rr=>
  cases rr;cases r;obtain⟨its,rv,p,hz⟩:=I1.list hq;have hl:=rv.length;refine call_reversed_list p.isList ?_;have hr:(s1.heap.push (revObj a ((its.toArray.size:Int)-1))).IsRevIter s1.heap.objs.size a ((xs.length:Int)-1-((0:Nat):Int)):=by
   rw [show ((xs.length:Int)-1-((0:Nat):Int))=((its.toArray.size:Int)-1) by simp;omega];exact⟨_,D7 _ rfl,rfl,rfl⟩
  refine fX hr ?_;refine⟨s1.heap.objs.size,[s1.heap.objs.size],_,_,H1,rfl,I1.kept (t':=s1.toks) λb o e=>G7 _ e,Oa a _ xs.length,⟨T4 _,hr⟩,λb hb=> ?_,q⟩;have e:b=s1.heap.objs.size:=by simpa using hb
  subst e;exact I1.fpOk (P0 _) (I1.hok.fresh (P0 _))
end
def qp (a:Addr)(n:Nat):ItD:=λh=>(h a).bind λds=>if ds.length=n then some ds.reverse else none
def iV (ta:TAD):TID:=λσ h R=>ta σ h λxs h1=> ∃a ds,xs= [.lst a]/\h1 a=some ds/\R (qp a ds.length) h1
section
variable {K:PySem.W.Frag}
theorem Ob (H:Hp)(a:Addr)(n:Nat):FE K H (qp a n) (Itv K a n):=λH' h' k rh ds' e i=>by
 have e:(h' a).bind (λds=>if ds.length=n then some ds.reverse else none)=some ds':=e;cases hd:h' a with
 |none=>rw [hd] at e;cases e
 |some ds=>
  rw [hd] at e;have e:(if ds.length=n then some ds.reverse else none)=some ds':=e
  by_cases hn:ds.length=n
  ·rw [if_pos hn] at e;cases e;obtain⟨vs,hv',r'⟩:=rh a ds hd;refine⟨λd hd=> ?_,λhl=>by show n<=i;rw [S2] at hl;omega⟩;have hi:i<ds.length:=by have:=(P3.mp hd).1;rwa [S2] at this
   rw [J1 hi,hn] at hd;obtain⟨v,e1,e2⟩:=r'.get hd;refine⟨⟨by omega,vs,v,SqL.of hv',e1⟩,λx' H'' ⟨eH,hx'⟩=> ?_⟩;subst eH;have ev:x'=v:=by have:=hx' vs (SqL.of hv');rw [e1] at this;exact(M0 this).symm
   subst ev;exact⟨.refl _,rh,e2⟩
  ·rw [if_neg hn] at e;cases e
theorem Kt {ta:TAD}: ∀σ H R,LI K (iV ta) σ H R->qo K (LA K ta) σ H R:=λσ H R ⟨oW,h,Rd,rs,rh,q,p⟩=>
 LA.bind rs rh q λds vs h1 H1 k1 rs1 rh1 r1 ⟨a,es,e,he,q1⟩=>by
  subst e;obtain⟨v,e,r2⟩:=jD r1;have e':v= .ref a:=r2.1;obtain⟨ws,hv,rw'⟩:=rh1 a es he;subst e';rw [rw'.length] at q1;exact⟨a,ws,e,SqL.of hv,p _ _ _ _ k1 rh1 (Ob H1 a _) q1⟩
end
section
variable {X:Cx}
theorem Ku {tg:Expr}{a:Expr}{ta:TAD}{p pos:Pos}(hg:Gl X "reversed")(hm:X.mg "reversed" =none)(ha:JA X [a] ta)(hs:starEach [a] X.env= [(false,eval a X.env)]:=by rfl):
 JI X tg (.Call (.Name "reversed" p) [a] [] pos) (iV ta):=⟨(Ks hg hm ha.to hs).imp Kt⟩
end
def yU (T:List (List Int))(n p:Nat):List Nat:=(G0 n).filter λj=>decide (ent T p j>0)
def cnt (T:List (List Int))(n o:Nat):Nat->Nat->Int
 |0,p=>if p=o then 1 else 0
 |t+1,p=>((yU T n p).map (cnt T n o t)).sum
def MM (T:List (List Int))(n o t:Nat):List Int:=(G0 n).map (cnt T n o t)
section
variable {T:List (List Int)}{n o:Nat}
theorem RB {p j:Nat}(h:j∈yU T n p):j<n:=G8.mp (T6.mp h).1
theorem Sf (p:Nat):(yU T n p).length<=n:=by
 have:=C5 (λj=>decide (ent T p j>0)) (G0 n)
 rwa [G5] at this
theorem RC: ∀ {l:List Int},(∀x∈l,0<=x)->0<=l.sum
 | [],_=>by simp
 |x::l,h=>by
  have:=h x D0;have:=RC λy hy=>h y (D5 _ hy)
  rw [aB];omega
theorem VS: ∀ (t p:Nat),0<=cnt T n o t p
 |0,p=>by show 0<=(if p=o then (1:Int) else 0);split<;>decide
 |t+1,p=>RC λx hx=>by obtain⟨j,_,rfl⟩:=D6.mp hx;exact VS t j
theorem BZ: ∀ {l:List Nat} {f:Nat->Int},(∀j,0<=f j)->0<(l.map f).sum-> ∃j∈l,0<f j
 | [],_,_,h=>by simp at h
 |x::l,f,nn,h=>by
  by_cases z:0<f x
  ·exact⟨x,D0,z⟩
  ·have:0<(l.map f).sum:=by
    rw [T3,aB] at h;have:=nn x;omega
   obtain⟨j,hj,hp⟩:=BZ nn this;exact⟨j,D5 _ hj,hp⟩
def jar (T:List (List Int))(n o t p:Nat):Nat:=(yU T n p).findIdx λj=>decide (cnt T n o t j>0)
def nxt (T:List (List Int))(n o t p:Nat):Nat:=(yU T n p).getD (jar T n o t p) 0
end
def Cnts (h:HD)(A:Addr)(T:List (List Int))(n o k:Nat):Prop:= ∃rs:List Addr,h A=some (rs.map D.lst)/\rs.length=k+1/\ ∀t a,rs[t]? =some a->h a=some ((MM T n o t).map D.int)
theorem Cnts.at {h:HD}{A:Addr}{T:List (List Int)}{n o k:Nat}(c:Cnts h A T n o k){t:Nat}(ht:t<=k): ∃ (rs:List Addr) (a:Addr),h A=some (rs.map D.lst)/\atI (rs.map D.lst) (t:Int)=some (.lst a)/\h a=some ((MM T n o t).map D.int):=by
 obtain⟨rs,hA,hl,hr⟩:=c;have hi:t<rs.length:=by omega
 exact⟨rs,rs[t],hA,zG (by rw [P1,G1 hi];rfl),hr t _ (G1 hi)⟩
theorem Qf {T:List (List Int)}{n o t p:Nat}(hp:p<n):atI ((MM T n o t).map D.int) (p:Int)=some (.int (cnt T n o t p)):=
 zG (by unfold MM;rw [R3,P1,T5 hp];rfl)
theorem Ca {b:D->SD->SD->Prop}{js:List Nat}{ti:TID}{tt:TTD}{te:TED}{σ:SD}{h:HD}{Q:KD}(x:ti σ h λj h1=>dCB Ki (zh (vL b js (uP j) tt te) Zv) σ h1 Q):dCB Ki (zh (vL b js ti tt te) Zv) σ h Q:=x
theorem Qg {α:Type}{xs:List α}{x:α}(h1:1<=xs.length)(h:xs[xs.length-1]? =some x):atI xs (-1)=some x:=by
 unfold atI ixN;rw [if_neg (by decide),if_pos (by omega)];show xs[(-1+(xs.length:Int)).toNat]? =_;rw [show (-1+(xs.length:Int)).toNat=xs.length-1 by omega];exact h
end L2
namespace L2
open PySem PySem.Spec PyProof.Rows PySem.W
abbrev TXD:=SD->HD->(Str->HD->Prop)->Prop
abbrev RDx:=List D->HD->(Str->HD->Prop)->Prop
abbrev N1:List Str:= ["_law_call","_law_found","_law_e","_law_word"]
end L2
namespace L2
open PySem PySem.Spec PyProof.Rows PySem.SeqAt
theorem Wq {α:Type}{p q:α->Bool}: ∀ {l:List α},(∀x∈l,p x=true->q x=true)->(∃x,x∈l/\p x=false/\q x=true)->l.countP p+1<=l.countP q
 | [],_,⟨_,hx,_⟩=>by cases hx
 |a::l,hm,⟨x,hx,h1,h2⟩=>by
  have hm': ∀x∈l,p x=true->q x=true:=λy hy=>hm y (D5 _ hy)
  have le:l.countP p<=l.countP q:=List.countP_mono_left hm';rw [j5,j5]
  by_cases z:x=a
  ·subst z;rw [h1,h2];simp;omega
  ·have hx':x∈l:=(R6.mp hx).resolve_left z;have:=Wq hm' ⟨x,hx',h1,h2⟩
   by_cases w:p a=true
   ·rw [w,hm a D0 w];simp;omega
   ·rw [show p a=false by simpa using w];simp;omega
theorem Sg {n:Nat}(P:Nat->Nat->Bool)(up: ∀m i,i<n->P m i=true->P (m+1) i=true)(st: ∀m,(∀i,i<n->P (m+1) i=P m i)-> ∀i,i<n->P (m+2) i=P (m+1) i)
 (M:Nat)(hM: ∀m,M<=m-> ∀i,i<n->P m i=true)(ne: ∃i,i<n/\P 0 i=true): ∀i,i<n->P (n-1) i=true:=by
 have key: ∀m,(∀i,i<n->P m i=true)\/m+1<=(G0 n).countP (P m):=by
  intro m
  induction m with
  |zero=>
   obtain⟨i,hi,e⟩:=ne;exact .inr (gE.mpr ⟨i,G8.mpr hi,e⟩)
  |succ m ih=>
   rcases ih with ih|ih
   ·exact .inl λi hi=>up m i hi (ih i hi)
   ·by_cases eq: ∀i,i<n->P (m+1) i=P m i
    ·left;have go: ∀t i,i<n->P (m+t+1) i=P (m+t) i:=by
      intro t
      induction t with
      |zero=>exact eq
      |succ t iht=>exact st (m+t) iht
     have all: ∀t i,i<n->P (m+t) i=P m i:=by
      intro t
      induction t with
      |zero=>intro i _;rfl
      |succ t iht=>intro i hi;rw [<-iht i hi];exact go t i hi
     intro i hi;rw [eq i hi,<-all M i hi];exact hM (m+M) (by omega) i hi
    ·right;have ⟨i,hi⟩: ∃i,i<n/\P (m+1) i≠P m i:=F5 λw=>eq λi hi=>F5 λw2=>w ⟨i,hi,w2⟩
     have hf:P m i=false:=by
      cases hp:P m i with
      |false=>rfl
      |true=>exact absurd ((up m i hi.1 hp).trans hp.symm) hi.2
     have ht:P (m+1) i=true:=by
      cases hp:P (m+1) i with
      |true=>rfl
      |false=>exact absurd (hp.trans hf.symm) hi.2
     have:=Wq (l:=G0 n) (p:=P m) (q:=P (m+1)) (λx hx=>up m x (G8.mp hx)) ⟨i,G8.mpr hi.1,hf,ht⟩;omega
 intro i hi;rcases key (n-1) with h|h
 ·exact h i hi
 ·have hle:(G0 n).countP (P (n-1))<=(G0 n).length:=fJ;rw [G5] at hle;have:(G0 n).countP (P (n-1))=(G0 n).length:=by rw [G5];omega
  exact fL.mp this i (G8.mpr hi)
section
variable {n e:Nat}{T:List (List Int)}
instance (k i j:Nat):Decidable (RP n T k i j):=inferInstanceAs (Decidable (ent (zF n T k) i j≠0))
theorem VT (h:Sq n e T)(hn:n<=8)(n2:2<=n){K:Nat}(f: ∀i j,i<n->j<n->RP n T K i j)(f1: ∀i j,i<n->j<n->RP n T (K+1) i j): ∃s c,1<=s/\s<=n-1/\c<n/\RP n T s c c:=by
 refine F5 λz=> ?_
 have drop: ∀m i j,i<n->j<n->n<=m->RP n T m i j->RP n T (m-n) i j:=by
  intro m i j hi hj hm r;obtain⟨v,v0,vm,vl,vr⟩:=GI h hn m hi hj r;obtain⟨a,b,hab,hbn,eq⟩:=Ao (n:=n) (v:=v) λt ht=>vl t (by omega)
  have ha:=vl a (by omega);have p2:RP n T (b-a) (v a) (v a):=by
   have:=yk h hn vl vr a (b-a) (by omega);rw [show a+(b-a)=b by omega,<-eq] at this;exact this
  have hba:b-a=n:=by
   by_cases w:b-a<=n-1
   ·exact absurd ⟨b-a,v a,by omega,w,ha,p2⟩ z
   ·omega
  have a0:a=0:=by omega
  have bn:b=n:=by omega
  subst a0;subst bn;have p3:=yk h hn vl vr b (m-b) (by omega);rw [show b+(m-b)=m by omega,vm,<-eq,v0] at p3;exact p3
 have h0:0<n:=by omega
 have mod0: ∀m,RP n T m 0 0->m%n=0:=by
  intro m
  induction m using bS with
  |_ m ih=>
   intro r
   by_cases w:m<n
   ·by_cases y:m=0
    ·subst y;exact nJ n
    ·exact absurd ⟨m,0,by omega,by omega,h0,r⟩ z
   ·rw [Nat.mod_eq_sub_mod (by omega)];exact ih (m-n) (by omega) (drop m 0 0 h0 h0 (by omega) r)
 have a:=e6 (mod0 K (f 0 0 h0 h0));have b:=e6 (mod0 (K+1) (f1 0 0 h0 h0));have c:=(dF a).mp b;have:=Nat.le_of_dvd (by decide) c;omega
theorem jas (h:Sq n e T)(n1:1<=n)(h6:n<=6){K:Nat}(hK:1<=K)(f:jP (zF n T K)=true): ∃k,1<=k/\k<=30/\jP (zF n T k)=true:=by
 have hn:n<=8:=by omega
 have all: ∀m,K<=m-> ∀i j,i<n->j<n->RP n T m i j:=λm hm=>by
  have:=XY h hn (a:=K) (by omega) f (m-K);rw [show K+(m-K)=m by omega] at this;exact(vM (h.pow hn m)).mp this
 have pre: ∀j,j<n-> ∃k,k<n/\RP n T 1 k j:=λj hj=>by
  have:=all (K-1+1) (by omega) 0 j (by omega) hj;obtain⟨k,hk,_,r⟩:=(zJ h hn (K-1) 1 (by omega) hj).mp this;exact⟨k,hk,r⟩
 have keep: ∀i m t,i<n->(∀j,j<n->RP n T m i j)-> ∀j,j<n->RP n T (m+t) i j:=by
  intro i m t hi r
  induction t with
  |zero=>exact r
  |succ t ih=>intro j hj;obtain⟨k,hk,r1⟩:=pre j hj;exact(zJ h hn (m+t) 1 hi hj).mpr ⟨k,hk,ih k hk,r1⟩
 by_cases n2:2<=n
 ·obtain⟨s,c,s1,sn,hc,rc⟩:=VT h hn n2 (all K (P0 _)) (all (K+1) (by omega));have e1: ∀m,s*(m+1)=s+s*m:=λm=>by rw [W8];omega
  have A:=Sg (n:=n) (λm j=>decide (RP n T (s*m) c j)) (λm j hj r=>decide_eq_true (by rw [e1];exact(zJ h hn s (s*m) hc hj).mpr ⟨c,hc,rc,of_decide_eq_true r⟩))
   (λm eq j hj=>by
    have key: ∀m,RP n T (s*(m+1)) c j↔ ∃k,k<n/\RP n T (s*m) c k/\RP n T s k j:=λm=>by rw [W8];exact zJ h hn (s*m) s hc hj
    have eq2: ∀k,k<n->(RP n T (s*(m+1)) c k↔RP n T (s*m) c k):=λk hk=>by simpa using eq k hk
    have:RP n T (s*(m+1+1)) c j↔RP n T (s*(m+1)) c j:=by
     rw [key (m+1),key m];exact⟨λ⟨k,hk,a,b⟩=>⟨k,hk,(eq2 k hk).mp a,b⟩,λ⟨k,hk,a,b⟩=>⟨k,hk,(eq2 k hk).mpr a,b⟩⟩
    simpa using this) K (λm hm j hj=>decide_eq_true (all _ (R9 hm (e7 m s1)) c j hc hj)) ⟨c,hc,decide_eq_true (by rw [e8];exact(zc hc hc).mpr rfl)⟩
  have any_iff: ∀m i,((G0 (m+1)).any (λt=>decide (RP n T t i c))=true)↔ ∃t,t<=m/\RP n T t i c:=λm i=>by
   rw [W3];exact⟨λ⟨t,ht,r⟩=>⟨t,by have:=G8.mp ht;omega,of_decide_eq_true r⟩,λ⟨t,ht,r⟩=>⟨t,G8.mpr (by omega),decide_eq_true r⟩⟩
  have stp: ∀m i,i<n->((∃t,t<=m+1/\RP n T t i c)↔(i=c\/ ∃k,k<n/\RP n T 1 i k/\ ∃t,t<=m/\RP n T t k c)):=λm i hi=>by
   constructor
   ·rintro ⟨t,ht,r⟩;cases t with
    |zero=>exact .inl ((zc hi hc).mp r)
    |succ t=>
     rw [Y6] at r;obtain⟨k,hk,a,b⟩:=(zJ h hn 1 t hi hc).mp r;exact .inr ⟨k,hk,a,t,by omega,b⟩
   ·rintro (r|⟨k,hk,a,t,ht,b⟩)
    ·exact⟨0,by omega,(zc hi hc).mpr r⟩
    ·exact⟨1+t,by omega,(zJ h hn 1 t hi hc).mpr ⟨k,hk,a,b⟩⟩
  have beq: ∀ {a b:Bool},(a=true↔b=true)->a=b:=λ{a b} h=>by cases a<;>cases b<;>simp_all
  have B:=Sg (n:=n) (λm i=>(G0 (m+1)).any (λt=>decide (RP n T t i c))) (λm i hi r=>by
   obtain⟨t,ht,r⟩:=(any_iff m i).mp r;exact(any_iff (m+1) i).mpr ⟨t,by omega,r⟩)
   (λm eq i hi=>beq (by
    have eq2: ∀k,k<n->((∃t,t<=m+1/\RP n T t k c)↔ ∃t,t<=m/\RP n T t k c):=λk hk=>by
     rw [<-any_iff (m+1) k,<-any_iff m k];have:=eq k hk;rw [this]
    rw [any_iff (m+2) i,any_iff (m+1) i,stp (m+1) i hi,stp m i hi];exact⟨λw=>w.elim .inl λ⟨k,hk,a,b⟩=> .inr ⟨k,hk,a,(eq2 k hk).mp b⟩,λw=>w.elim .inl λ⟨k,hk,a,b⟩=> .inr ⟨k,hk,a,(eq2 k hk).mpr b⟩⟩))
   K (λm hm i hi=>(any_iff m i).mpr ⟨K,hm,all K (P0 _) i c hi hc⟩) ⟨c,hc,(any_iff 0 c).mpr ⟨0,P0 _,(zc hc hc).mpr rfl⟩⟩
  refine⟨(n-1)+s*(n-1),by omega,?_,(vM (h.pow hn _)).mpr λi j hi hj=> ?_⟩
  ·have a:=fS (show s<=5 by omega) (show n-1<=5 by omega);omega
  ·obtain⟨t,ht,r⟩:=(any_iff (n-1) i).mp (B i hi);have row: ∀j,j<n->RP n T (t+s*(n-1)) i j:=λj hj=>(zJ h hn t (s*(n-1)) hi hj).mpr ⟨c,hc,r,of_decide_eq_true (A j hj)⟩
   have:=keep i (t+s*(n-1)) (n-1-t) hi row j hj;rw [show t+s*(n-1)+(n-1-t)=n-1+s*(n-1) by omega] at this;exact this
 ·have hn1:n=1:=by omega
  refine⟨1,P0 _,by decide,(vM (h.pow hn 1)).mpr λi j hi hj=> ?_⟩;obtain⟨k,hk,r⟩:=pre j hj;rw [show i=k by omega];exact r
end
theorem Draws.behind {prog:S3}{w:N2}{A:M7}{it:Addr}{fp:List Addr}{n:Nat}{P:Nat->G3->Prop}{St:Nat->Heap->Prop}(D:Draws prog w A it fp n P St):
 Draws prog w A it fp (n+1) (λj v=>P (j-1) v) (λj h=>1<=j/\St (j-1) h) where
 live:=λ_ _ st=>D.live _ _ st.2
 frame:=λ_ _ _ st hk=>⟨st.1,D.frame _ _ _ st.2 hk⟩
 item:=λi s Q E hi st hQ=>D.item (i-1) s Q E (by have:=st.1;omega) st.2 λv h' tk a b c=>hQ v h' tk a ⟨by omega,by have:=st.1;rw [show i+1-1=i-1+1 by omega];exact b⟩ c
 done:=λs Q E st hE=>D.done s Q E st.2 hE
theorem MN (a b c:G3):argsOk "object.__init__" ⟨[a,b],[(aT "start",c)]⟩:=by
 unfold argsOk;rw [signature?_of (id:= "object.__init__") (n:= "__tini__".toList) (o:= "tcejbo".toList) (by kernel_rfl) F.owner_object];kernel_rfl
section
variable {prog:S3}{w:N2}{A:M7}{E:G3->G6->Prop}{s:G6}
theorem MO {l:Addr}{its:Array G3}{t:Tok}{P:PySem.Fin->G6->Prop}(at_:s.heap.IsList l its)
 (h: ∀h',gY h' (s.heap.objs.size+1) s.heap.objs.size 1 .none->h'.IsListIter s.heap.objs.size l 0->(∀b o,s.heap.get? b=some o->h'.get? b=some o)->P (.done (.ret (.ref (s.heap.objs.size+1)))) {s with heap:=h'}):
 wpAny (model prog w) A (Builtin.«enumerate.__new__» ⟨[.type "enumerate",.ref l],[(aT "start",.int 1 t)]⟩) P E s:=by
 have fine:=mU;obtain⟨⟨c,dd,dt,sl⟩,there,rfl,n,rfl⟩:=id at_;obtain⟨hp,g,d,tk,os⟩:=s;have size: ∀o,(hp.push o).objs.size=hp.objs.size+1:=λo=>V9 ..
 have made:=D7 (hp.push {cls:= .type "list_iterator",data:= .fields #[.ref l,.int 0 0]}) (o:= {cls:= .type "enumerate",data:= .fields #[.none,.bool false,.ref hp.objs.size,rawInt 1,.none,.none]}) rfl;have fin:=h _ (by rw [<-size];exact made) ⟨_,G7 _ (D7 _ rfl),rfl,rfl⟩ λb o old=>G7 _ (G7 _ old)
 rw [<-size {cls:= .type "list_iterator",data:= .fields #[.ref l,.int 0 0]}] at fin
 wp_walk using A3 there
 refine lN λcalls=>P7 ?_
 split
 case h_1 c _ _ _ _ _=>cases c==J3 "enumerate" <;>(wp_walk using A3 there,A1 at_;exact fin)
 case h_2=>wp_walk using A3 there,A1 at_;exact fin
theorem MP {l:Addr}{its:Array G3}{t:Tok}{Q:G3->G6->Prop}(at_:s.heap.IsList l its)
 (h: ∀h',gY h' (s.heap.objs.size+1) s.heap.objs.size 1 .none->h'.IsListIter s.heap.objs.size l 0->(∀b o,s.heap.get? b=some o->h'.get? b=some o)->Q (.ref (s.heap.objs.size+1)) {s with heap:=h'}):
 wpAny (model prog w) A (call (.type "enumerate") [.ref l] [(aT "start",.int 1 t)]) Q E s:=by
 have ft:=gZ;refine VJ (Made:=λo oX=>oX.TypeIs o "enumerate" /\Q o oX) ft (by kernel_rfl) (gS (fU ft.plain fH (lA (a:=()) (by kernel_rfl) (MO at_ λh' e i k=>⟨⟨_,e,rfl⟩,h h' e i k⟩)))) λo oX ⟨ty,q⟩=>⟨ty,?_⟩
 exact Yy ft (by decide) ty (MN _ _ _) ⟨rfl,q⟩
end
theorem GK {M:l8}{A:M7}{E:G3->G6->Prop}{s:G6}{env:Env}{pos:Pos}{T:String}{e:Expr}{nm:Str}{ev:Expr}{kp:Pos}{Q:G3->G6->Prop}
 (h:wpAny M A (spliced (backTo pos (starEach [e] env))) (λvs oX=>wpAny M A (evalAll ((backToKw pos (keywordEach [⟨some nm,ev,kp⟩] env)).map (·.2))) (λkvs o6=>wpAny M A (call (.type T) vs ([nm].zip kvs)) Q E o6) E oX) E s)
 (he:starEach [e] env= [(false,eval e env)]:=by rfl):
 wpAny M A (callWith pos (.type T) [] (backTo pos (starEach [e] env)) (backToKw pos (keywordEach [⟨some nm,ev,kp⟩] env))) Q E s:=
 PySem.W.callWith_of (P:=λ_=>True) (by rw [he];rfl) (λ_ _=>⟨.machine,.inr (.inl rfl),PySem.W.Looks.of_pure rfl⟩)
  (evalArgs_kw2 rfl (S6 h (λ_ _ q=>S6 q (λ_ _ r=>⟨trivial,r⟩) λ_ _ z=>z) λ_ _ z=>z) he)
def MQ (ds:List D):List D:=ds.zipIdx.map λp=> .tup [.int ((p.2+1:Nat):Int),p.1]
theorem Oc {ds:List D}{i:Nat}{d:D}(h:(MQ ds)[i]? =some d): ∃x,ds[i]? =some x/\d= .tup [.int ((i+1:Nat):Int),x]:=by
 unfold MQ at h;rw [P1,Y2] at h;cases hx:ds[i]? with
 |none=>rw [hx] at h;cases h
 |some x=>rw [hx] at h;simp only [Option.map_some,K0,A7] at h;exact⟨x,rfl,h.symm⟩
theorem Dc (ds:List D):(MQ ds).length=ds.length:=by simp [MQ]
def uW (K:PySem.W.Frag)(a:Addr):It:=
 ⟨λi H=> ∃xs x,SqL K H a xs/\xs[i]? =some x,λi H x H'=> ∃p v,H p=none/\(∀xs,SqL K H a xs->xs[i]? =some v)/\x= .ref p/\H'=upd H p (.tup [.int ((i+1:Nat):Int),v]),λi H=> ∃xs,SqL K H a xs/\xs.length<=i⟩
theorem MR {P:S3}{w:N2}{K:PySem.W.Frag}{es:List Expr}{k:Nat}{pos:Pos}(a it e:Addr)(hei:e≠it)(hae:a≠e)(hai:a≠it):Turn P w K (.Tuple es k pos) (uW K a) [e,it] e (λi h=>(∃old,gY h e it ((i+1:Nat):Int) old)/\h.IsListIter it a i) where
 mem:=by simp
 obj:=λi h st b hb=>by
  rcases R6.mp hb with z|z
  ·subst z;obtain⟨old,q⟩:=st.1;exact⟨_,q,λv z=>by cases z⟩
  ·have z:=G9.mp z;subst z;obtain⟨o,q,c,d⟩:=st.2;exact⟨o,q,λv z=>by rw [d] at z;cases z⟩
 keep:=λi h h' st k=>⟨let ⟨old,q⟩:=st.1;⟨old,k e (by simp) _ q⟩,st.2.at λo q=>k it (by simp) o q⟩
 item:=by
  intro X hP hw hK hc i pins s σ H E I hf st hg;subst hP hw hK;obtain⟨xs,x,hq,hx⟩:=hg;obtain⟨its,rv,p,hz⟩:=I.list hq;obtain⟨u,hu,ru⟩:=rv.get hx;have hi:i<its.toArray.size:=by have:=(P3.mp hu).1;simpa using this
  obtain⟨old,he⟩:=st.1;have helt:e<s.heap.objs.size:=P9 he;refine aP (i:=i+1) (Draws.behind (Draws.list (prog:=X.prog) (w:=X.w) (A:=X.A.in1) (I.ok.hd hc) it a hai its.toArray)) he ⟨by omega,st.2,p.isList⟩ (by omega) hei (by simp [hei,A4 hae]) λx' h' tk hx' ho hs' hT hsz hk=> ?_
  have ex:x'=u:=M0 ((show its.toArray[i]? =some x' from hx').symm.trans (show its.toArray[i]? =some u by simpa using hu));subst ex;refine⟨_,rfl,Y1 ho λh2 he2 hs2=> ?_⟩;have hn:H s.heap.objs.size=none:=I.hok.fresh (P0 _);have hT2:h2.get? s.heap.objs.size=some {cls:= .type "tuple",data:= .seq #[.int ((i+1:Nat):Int) tk,x']}:=(hs2.2 _ (E4 helt)).trans hT;refine⟨.ref s.heap.objs.size,upd H s.heap.objs.size (.tup [.int ((i+1:Nat):Int),x]),?_,rfl,⟨_,x,hn,λys hy=>by rw [I.list_inj hy hq];exact hx,rfl,rfl⟩,⟨⟨x',by simpa using he2⟩,hs'.2.1.at λo y=>(hs2.2 it (A4 hei)).trans y⟩,λb hb=> ?_⟩
  ·refine I.turnLaid (h':=h2) (t':=tk+1) (ch:= [e,it]) (λb u hb q=> ?_) hf (P0 _) ⟨by show 2<=sizeLine;decide,[.int ((i+1:Nat):Int) tk,x'],.cons ⟨tk,rfl⟩ (.cons ru .nil),⟨_,hT2,rfl,rfl,_,rfl⟩⟩;have b1:b≠e:=λz=>hb (by simp [z])
   have b2:b≠it:=λz=>hb (by simp [z])
   exact(hs2.2 b b1).trans (hk b u b1 b2 q)
  ·have f:=(hf b hb).1;have:b≠s.heap.objs.size:=λz=>by
    rcases R6.mp hb with w|w
    ·rw [<-w,z] at helt;exact absurd helt (N6 _)
    ·have w:=G9.mp w;obtain⟨o,ho',_⟩:=st.2;have:=P9 ho';rw [<-w,z] at this;exact absurd this (N6 _)
   rw [jx this];exact f
 done:=by
  intro X hP hw hK hc i pins s σ H E I hf st hg;subst hP hw hK;obtain⟨xs,hq,hx⟩:=hg;obtain⟨its,rv,p,hz⟩:=I.list hq;obtain⟨old,he⟩:=st.1;have hl:=rv.length;refine aZ (Xp (prog:=X.prog) (w:=X.w) (A:=X.A.in1) (I.ok.hd hc) it a its.toArray i (by simp;omega)) he ⟨rfl,st.2,p.isList⟩ λh' hx'=>⟨rfl,I.turnL (t':=s.toks) (ch:= [it]) (λb o hb q=>hx' b o (λz=>hb (by simp [z])) q) λb hb=>hf b (D5 _ hb)⟩
 self:=λ_ _ _ _ _ st h=>let ⟨_,q⟩:=st.1;U8 q h
section
variable {X:Cx}
def Kv (K:PySem.W.Frag)(ta:TA):TI:=λσ H R=>ta σ H λvs H1=> ∃a,vs= [.ref a]/\(∃xs,SqL K H1 a xs)/\R (uW K a) H1
theorem Od {es:List Expr}{k:Nat}{tp:Pos}{a:Expr}{ta:TA}{p pos kp cp:Pos}{kk:Nat}(hg:Gl X "enumerate")(hm:X.mg "enumerate" =none)(ha:PA X [a] ta)(hs:starEach [a] X.env= [(false,eval a X.env)]:=by rfl):
 PI X (.Tuple es k tp) (.Call (.Name "enumerate" p) [a] [⟨some "start",.Constant (.int 1) kk cp,kp⟩] pos) (Kv X.K ta):=by
 intro pins s σ H R I h;refine wpAny_bind (Zt I hg hm (show bootBuiltins "enumerate" =some (.type "enumerate") by decide +kernel) (GK (thn (ha pos pins s σ H _ I h) λus s1 ⟨vs,H1,I1,r1,q1⟩=> ?_) hs));refine kws_cons (gR (kws_nil ?_));obtain⟨a,e,⟨xs,hq⟩,q⟩:=q1;subst e;cases r1 with
 |cons r rr=>
  cases rr;cases r;obtain⟨its,rv,p,hz⟩:=I1.list hq;have hlt:a<s1.heap.objs.size:=by obtain⟨o,ho,_⟩:=p.isList;exact P9 ho
  refine MP p.isList λh' he hit hk=> ?_
  refine U8 he ?_;refine⟨s1.heap.objs.size+1,[s1.heap.objs.size+1,s1.heap.objs.size],_,_,H1,rfl,I1.kept (t':=_) hk,MR a s1.heap.objs.size (s1.heap.objs.size+1) (E4 (L6 _)) (S0 (J9 hlt)) (S0 hlt),⟨⟨_,he⟩,hit⟩,λb hb=> ?_,q⟩;have hb':s1.heap.objs.size<=b:=by
   rcases R6.mp hb with w|w
   ·rw [w];exact dD _
   ·rw [G9.mp w];exact P0 _
  exact I1.fpOk hb' (I1.hok.fresh hb')
end
def iES (ta:TAD):TID:=λσ h R=>ta σ h λxs h1=> ∃a,xs= [.lst a]/\R (λh=>(h a).map MQ) h1
section
variable {K:PySem.W.Frag}
theorem MS (H:Hp)(a:Addr):FE K H (λh=>(h a).map MQ) (uW K a):=λH' h' k rh ds' e i=>by
 have e:(h' a).map MQ=some ds':=e;cases hd:h' a with
 |none=>rw [hd] at e;cases e
 |some ds=>
  rw [hd] at e;cases e;obtain⟨vs,hv',r'⟩:=rh a ds hd;refine⟨λd hd=> ?_,λhl=>⟨vs,SqL.of hv',by rw [<-r'.length,<-Dc];exact hl⟩⟩;obtain⟨x,hx,ed⟩:=Oc hd;subst ed;obtain⟨v,e1,e2⟩:=r'.get hx;refine⟨⟨vs,v,SqL.of hv',e1⟩,λx' H'' ⟨p,v',hp,hx',ex,eH⟩=> ?_⟩;subst ex eH;have ev:v'=v:=by have:=hx' vs (SqL.of hv');rw [e1] at this;exact(M0 this).symm
  subst ev;have k2:Kept H' (upd H' p (.tup [.int ((i+1:Nat):Int),v'])):= .new hp;exact⟨k2,RelH.new rh hp,p,[.int ((i+1:Nat):Int),v'],rfl,jy,_,_,rfl,rfl,_,_,rfl,e2.mono k2,rfl⟩
theorem Oe {ta:TAD}: ∀σ H R,LI K (iES ta) σ H R->Kv K (LA K ta) σ H R:=λσ H R ⟨oW,h,Rd,rs,rh,q,p⟩=>
 LA.bind rs rh q λds vs h1 H1 k1 rs1 rh1 r1 ⟨a,e,q1⟩=>by
  subst e;obtain⟨v,e,r2⟩:=jD r1;obtain⟨e',ws,hv⟩:=(show v= .ref a/\ ∃vs,H1 a=some (.lst vs) from r2);subst e';exact⟨a,e,⟨ws,SqL.of hv⟩,p _ _ _ _ k1 rh1 (MS H1 a) q1⟩
end
section
variable {X:Cx}
theorem RD {es:List Expr}{k:Nat}{tp:Pos}{a:Expr}{ta:TAD}{p pos kp cp:Pos}{kk:Nat}(hg:Gl X "enumerate")(hm:X.mg "enumerate" =none)(ha:JA X [a] ta)(hs:starEach [a] X.env= [(false,eval a X.env)]:=by rfl):
 JI X (.Tuple es k tp) (.Call (.Name "enumerate" p) [a] [⟨some "start",.Constant (.int 1) kk cp,kp⟩] pos) (iES ta):=⟨(Od hg hm ha.to hs).imp Oe⟩
end
end L2
namespace L2
open PySem PySem.Spec PyProof.Rows
def TrV (K:PySem.W.Frag)(H:Hp):V->Bool->Prop
 | .bl b,c=>c=b
 | .int i,c=>c=(i !=0)
 | .non,c=>c=false
 | .ref a,c=> ∃xs,SqL K H a xs/\c= !xs.isEmpty
 |_,_=>False
def TrD (h:HD):D->Bool->Prop
 | .bl b,c=>c=b
 | .int i,c=>c=(i !=0)
 | .non,c=>c=false
 | .lst a,c=> ∃ds,h a=some ds/\c= !ds.isEmpty
 |_,_=>False
theorem TrD.to {K:PySem.W.Frag}{H:Hp}{h:HD}{d:D}{v:V}{c:Bool}(t:TrD h d c)(r:RelD K H d v)(rh:RelH K h H):TrV K H v c:=by
 cases d<;>try exact t.elim
 ·have e:v= .non:=r;subst e;exact t
 ·have e:v= .bl _:=r;subst e;exact t
 ·have e:v= .int _:=r;subst e;exact t
 ·obtain⟨e,_⟩:=r;subst e;obtain⟨ds,hd,e⟩:=t;obtain⟨vs,hv,r'⟩:=rh _ ds hd;refine⟨vs,SqL.of hv,?_⟩;rw [e];have:=r'.length;cases ds<;>cases vs<;>first|rfl|(simp at this)
section
variable {X:Cx}{pins:List (Addr×Obj)}{σ:St}{H:Hp}{s:G6}{E:G3->G6->Prop}
theorem Inv.trv {v:V}{u:G3}{c:Bool}{Q:Bool->G6->Prop}(I:Inv X pins σ H s)(r:RelV v u)(t:TrV X.K H v c)(q: ∀s',Inv X pins σ H s'->Q c s'):wpAny (model X.prog X.w) X.A (truthy u) Q E s:=by
 cases v<;>try exact t.elim
 ·have e:u=gQ:=r;subst e;have e:c=false:=t;subst e;exact truthy_none (q _ I)
 ·have e:u=V3 _:=r;subst e;have e:c=_:=t;subst e;exact B8 (q _ I)
 ·obtain⟨t',e⟩:=r;subst e;have e:c=_:=t;subst e;exact truthy_int (q _ I)
 ·have e:u=aO _:=r;subst e;obtain⟨xs,hx,e⟩:=t;obtain⟨its,rv,p,hz⟩:=I.list hx;have hl:=rv.length;have e2:c= !its.toArray.isEmpty:=by
   rw [e];cases xs<;>cases its<;>first|rfl|(simp at hl)
  refine wpAny_truthy_list p.isList ?_ ?_
  ·have:xs.length<=16777216:=R9 hz (by decide);simp only [D1];have e3:((2:Int)^63)=9223372036854775808:=by decide
   rw [e3];omega
  ·rw [<-e2];exact q _ (I.tok _)
end
section
variable {X:Cx}{a b:Expr}{rest:List Expr}{pos:Pos}
def qr (K:PySem.W.Frag)(t:TE):TT:=λσ H Q=>t σ H λx H1=> ∃c,TrV K H1 x c/\Q c H1
theorem Kw {e:Expr}{t:TE}(h:PE X e t)(he: ∀whole,isTrue e X.env whole=(do let v <-whole;standAt e.pos;holding [v] (truthy v)):=by intro _;rfl):PT X e (qr X.K t):=by
 intro pins s σ H Q I hw;refine m5 (thn (h pins s σ H _ I hw) λv s1 ⟨x,H1,I1,r1,q1⟩=> ?_) (he _);obtain⟨c,t1,q⟩:=q1;exact I1.trv r1 t1 λs' I'=>⟨H1,I',q⟩
def qu (t:TED):TTD:=λσ h Q=>t σ h λx h1=> ∃c,TrD h1 x c/\Q c h1
variable {K:PySem.W.Frag}
theorem Kx {t:TED}: ∀σ H Q,LT K (qu t) σ H Q->qr K (LE K t) σ H Q:=λσ H Q ⟨oW,h,Qd,rs,rh,t,p⟩=>
 LE.bind rs rh t λd v h1 H1 k1 rs1 rh1 r1 ⟨k,e,q⟩=>⟨k,e.to r1 rh1,p k h1 H1 k1 rh1 q⟩
theorem xa {ta:TED}(ha:JE X a ta)(he: ∀whole,isTrue a X.env whole=(do let v <-whole;standAt a.pos;holding [v] (truthy v)):=by intro _;rfl):JT X a (qu ta):=⟨(Kw ha.to he).imp Kx⟩
end
end L2
namespace L2
open PySem PySem.Spec PyProof.Rows PySem.SeqAt
section
variable {n e:Nat}{T:List (List Int)}
theorem ZL (h:Sq n e T)(hn:n<=8){c x:Nat}(hx:x<n)(l:RP n T c x x): ∀q,RP n T (c*q) x x
 |0=>by rw [e8];exact(zc hx hx).mpr rfl
 |q+1=>Jw h hn hx l q
theorem zd (h:Sq n e T)(hn:n<=8){a b i j k:Nat}(hi:i<n)(hk:k<n)(hj:j<n)(x:RP n T a i k)(y:RP n T b k j):RP n T (a+b) i j:=(zJ h hn a b hi hj).mpr ⟨k,hk,x,y⟩
theorem vN (h:Sq n e T)(hn:n<=8){k:Nat}:jP (zF n T k)=true↔ ∀i j,i<n->j<n->RP n T k i j:=vM (h.pow hn k)
theorem WV (h:Sq n e T)(hn:n<=8){c:Nat->Nat}(cl: ∀t,c t<n)(st: ∀t,RP n T 1 (c t) (c (t+1)))(t:Nat): ∀s,RP n T s (c t) (c (t+s))
 |0=>(zc (cl t) (cl t)).mpr rfl
 |s+1=>zd h hn (cl _) (cl (t+s)) (cl _) (WV h hn cl st t s) (st (t+s))
theorem Cb (h:Sq n e T)(hn:n<=8)(n1:1<=n){c:Nat->Nat}(cl: ∀t,c t<n)(st: ∀t,RP n T 1 (c t) (c (t+1)))(per: ∀t,c (t+n)=c t)(all: ∀i,i<n-> ∃t,t<n/\c t=i)
 (ch:RP n T 1 (c (n-1)) (c (n-1))\/RP n T 1 (c (n-1)) (c 1)): ∃K,1<=K/\jP (zF n T K)=true:=by
 -- rounds at the last place,of each length from (n-1)*(n-2) on
 have base: ∀m,(n-1)*(n-2)<=m->RP n T m (c (n-1)) (c (n-1)):=by
  intro m hm;have r1:RP n T n (c (n-1)) (c (n-1)):=by
   have:=WV h hn cl st (n-1) n
   rwa [per] at this
  rcases ch with z|z
  ·have:=ZL h hn (cl _) z m
   rwa [fY] at this
  ·by_cases n2:n=1
   ·have e0:c 1=c (n-1):=by rw [n2];have:=per 0;rw [n2] at this;simpa using this
    rw [e0] at z;have:=ZL h hn (cl _) z m
    rwa [fY] at this
   have r2:RP n T (n-1) (c (n-1)) (c (n-1)):=by
    have:=zd h hn (cl _) (cl 1) (cl _) z (WV h hn cl st 1 (n-2))
    rwa [show 1+(n-2)=n-1 by omega] at this
   have q0:=Q7 m (n-1);have ql:m%(n-1)<n-1:=F9 _ (by omega);have qn:n-2<=m / (n-1):=(fM (by omega)).mpr (by rw [aU];exact hm);have e:m=n*(m%(n-1))+(n-1)*(m / (n-1)-m%(n-1)):=by
    have a1:(n-1)*(m / (n-1)-m%(n-1))+(n-1)*(m%(n-1))=(n-1)*(m / (n-1)):=by rw [<-aQ,g8 (by omega)]
    have a2:n*(m%(n-1))=(n-1)*(m%(n-1))+m%(n-1):=by
     conv=>lhs;rw [show n=(n-1)+1 by omega,n8,fY]
     rfl
    omega
   rw [e];exact zd h hn (cl _) (cl _) (cl _) (ZL h hn (cl _) r1 _) (ZL h hn (cl _) r2 _)
 refine⟨2*n+(n-1)*(n-2),by omega,(vN h hn).mpr λi j hi hj=> ?_⟩;obtain⟨a,ha,ea⟩:=all i hi;obtain⟨b,hb,eb⟩:=all j hj;subst ea eb;have g1:=WV h hn cl st a (n-1-a);rw [show a+(n-1-a)=n-1 by omega] at g1;have g2:=WV h hn cl st (n-1) (b+1);rw [show n-1+(b+1)=b+n by omega,per] at g2;have g3:=base (2*n+(n-1)*(n-2)-(n-1-a)-(b+1)) (by omega);have:=zd h hn (cl _) (cl _) (cl _) (zd h hn (cl _) (cl _) (cl _) g1 g3) g2
 rwa [show n-1-a+(2*n+(n-1)*(n-2)-(n-1-a)-(b+1))+(b+1)=2*n+(n-1)*(n-2) by omega] at this
theorem yt (h:Sq n e T)(hn:n<=8){i j:Nat}:RP n T 1 i j↔ent T i j≠0:=by unfold RP;rw [BB h hn]
theorem MT (h:Sq n e T)(hn:n<=8)(n1:1<=n){o:List Nat}(ho:Ordr n o)(st: ∀t,t<n->ent T (o.getD t 0) (o.getD ((t+1)%n) 0)≠0)
 (ch:ent T (o.getD (n-1) 0) (o.getD (n-1) 0)≠0\/ent T (o.getD (n-1) 0) (o.getD (1%n) 0)≠0): ∃K,1<=K/\jP (zF n T K)=true:=by
 have gl: ∀t,o.getD (t%n) 0<n:=λt=>by
  have ht:t%n<o.length:=by rw [ho.ord.len];exact F9 _ n1
  rw [P5,G1 ht];exact G8.mp (ho.mem_iff.mp (S9 ht))
 refine Cb h hn n1 (c:=λt=>o.getD (t%n) 0) gl (λt=>(yt h hn).mpr ?_) (λt=>by show o.getD ((t+n)%n) 0=_;rw [dG]) (λi hi=> ?_) ?_
 ·have:=st (t%n) (F9 _ n1)
  rwa [show (t%n+1)%n=(t+1)%n by rw [dH,n9,<-dH]] at this
 ·have hm:=ho.mem_iff.mpr (G8.mpr hi);have hl:=C0.mpr hm;have hl':o.idxOf i<n:=by rw [<-ho.ord.len];exact hl
  refine⟨o.idxOf i,hl',?_⟩;show o.getD (o.idxOf i%n) 0=i;rw [O0 hl',P5,G1 hl,F7 hl];rfl
 ·rcases ch with z|z
  ·refine .inl ((yt h hn).mpr ?_);show ent T (o.getD ((n-1)%n) 0) (o.getD ((n-1)%n) 0)≠0;rw [O0 (by omega)];exact z
  ·refine .inr ((yt h hn).mpr ?_);show ent T (o.getD ((n-1)%n) 0) (o.getD (1%n) 0)≠0;rw [O0 (show n-1<n by omega)];exact z
end
structure GQ (n:Nat)(h0 h:HD)(p R:Addr)(rs:List Addr)(f:Nat->Nat->Int):Prop where
 at_:h R=some (rs.map D.lst)
 len:rs.length=n
 nR:R ∉ rs
 nd:rs.Nodup
 fR:h0 R=none
 np:p ∉ rs
 Rp:R≠p
 row: ∀i a,rs[i]? =some a->h0 a=none/\h a=some ((G0 n).map λj=>D.int (f i j))
 nn: ∀i j,0<=f i j/\f i j<=1000000
def xb:D->Int
 | .int x=>x
 |_=>0
section
variable {n:Nat}{h0 h:HD}{p R:Addr}{rs:List Addr}{f:Nat->Nat->Int}
theorem GQ.of_grid (g:Grid n h0 h p R rs)(nd:rs.Nodup): ∃f,GQ n h0 h p R rs f:=by
 have one: ∀i a,rs[i]? =some a-> ∃r,h a=some (r.map D.int)/\VD n r:=λi a ha=>(g.row a (P4 ha)).2
 have val: ∀i a (r:List Int),rs[i]? =some a->h a=some (r.map D.int)-> ∀j,xb (((h (rs.getD i 0)).getD []).getD j (.int 0))=r.getD j 0:=λi a r ha hr j=>by
  rw [show rs.getD i 0=a by rw [P5,ha];rfl,hr];show xb ((r.map D.int).getD j (.int 0))=_;rw [P5,P5,P1];cases r[j]? <;>rfl
 refine⟨λi j=>if i<rs.length then xb (((h (rs.getD i 0)).getD []).getD j (.int 0)) else 0,g.at_,g.len,g.nR,nd,g.fR,g.np,g.nRp,λi a ha=>⟨(g.row a (P4 ha)).1,?_⟩,λi j=> ?_⟩
 ·obtain⟨r,hr,gr⟩:=one i a ha;have hi:=(P3.mp ha).1;rw [hr]
  congr 1
  conv=>lhs;rw [zN r 0,gr.1,R3]
  refine S7 λj _=> ?_
  show D.int (r.getD j 0)=D.int (if i<rs.length then _ else 0);rw [if_pos hi,val i a r ha hr j]
 ·by_cases hi:i<rs.length
  ·show 0<=(if i<rs.length then _ else (0:Int))/\_;rw [if_pos hi];have ha:=G1 hi;obtain⟨r,hr,gr⟩:=one i _ ha;rw [val i _ r ha hr j];rw [P5];cases hj:r[j]? with
   |none=>exact⟨U5 _,by decide⟩
   |some x=>exact gr.2 x (P4 hj)
  ·show 0<=(if i<rs.length then _ else (0:Int))/\(if i<rs.length then _ else (0:Int))<=_;rw [if_neg hi];exact⟨U5 _,by decide⟩
theorem GQ.pen (g:GQ n h0 h p R rs f)(ds:List D):GQ n h0 (wb h p ds) p R rs f:=
 ⟨jz g.Rp g.at_,g.len,g.nR,g.nd,g.fR,g.np,g.Rp,λi a ha=>⟨(g.row i a ha).1,jz (λz=>g.np (z ▸ P4 ha)) (g.row i a ha).2⟩,g.nn⟩
theorem GQ.new (g:GQ n h0 h p R rs f){q:Addr}(fq:h q=none)(ds:List D):GQ n h0 (wb h q ds) p R rs f:=
 ⟨ju g.at_ fq,g.len,g.nR,g.nd,g.fR,g.np,g.Rp,λi a ha=>⟨(g.row i a ha).1,ju (g.row i a ha).2 fq⟩,g.nn⟩
theorem GQ.put (g:GQ n h0 h p R rs f){i j:Nat}{a:Addr}{v:Int}(ha:rs[i]? =some a)(v0:0<=v)(v1:v<=1000000):GQ n h0 (wb h a (((G0 n).map λj=>D.int (f i j)).set j (.int v))) p R rs (λx y=>if x=i/\y=j then v else f x y):=by
 have hm:=P4 ha;refine⟨jz (λz=>g.nR (z ▸ hm)) g.at_,g.len,g.nR,g.nd,g.fR,g.np,g.Rp,λx b hb=>⟨(g.row x b hb).1,?_⟩,λx y=> ?_⟩
 ·by_cases z:b=a
  ·subst z;have hx:i=x:=(iM (P3.mp ha).1 g.nd).mp (ha.trans hb.symm);subst hx;rw [jc];congr 1;apply W1
   ·simp
   ·intro m h1 h2;rw [j6];simp only [K7,F8]
    by_cases e:j=m
    ·subst e;simp
    ·rw [if_neg e,if_neg (λz=>e z.2.symm)]
  ·rw [jz z (g.row x b hb).2];congr 1;refine S7 λy _=> ?_
   have: ¬(x=i/\y=j):=λw=>z (by obtain⟨w1,_⟩:=w;subst w1;rw [ha] at hb;injection hb with hb;exact hb.symm)
   rw [if_neg this]
 ·show 0<=(if x=i/\y=j then v else f x y)/\(if x=i/\y=j then v else f x y)<=1000000;split
  ·exact⟨v0,v1⟩
  ·exact g.nn x y
theorem GQ.pick (g:GQ n h0 h p R rs f){i:Nat}(hi:i<n): ∃a,rs[i]? =some a/\atI (rs.map D.lst) (i:Int)=some (.lst a)/\h a=some ((G0 n).map λj=>D.int (f i j))/\h0 a=none/\a≠p:=by
 have hi':i<rs.length:=by rw [g.len];exact hi
 have ha:=G1 hi';exact⟨rs[i],ha,zG (by rw [P1,ha];rfl),(g.row i _ ha).2,(g.row i _ ha).1,λz=>g.np (z ▸ S9 hi')⟩
theorem GQ.tab (g:GQ n h0 h p R rs f):(rs.map λa=>D.tup ((h a).getD []))=(G0 n).map λi=>D.tup ((G0 n).map λj=>D.int (f i j)):=by
 apply W1
 ·simp [g.len]
 ·intro m h1 h2;simp only [K7,F8];have hm:m<rs.length:=by simpa using h1
  rw [(g.row m rs[m] (G1 hm)).2];rfl
end
variable {n:Nat}
theorem GoodTab.of_mk {f:Nat->Nat->Int}(nn: ∀i j,0<=f i j/\f i j<=1000000):GoodTab n (mkT n f):=by
 refine⟨by unfold mkT;rw [G2,G5],λr hr=> ?_⟩;obtain⟨i,_,rfl⟩:=D6.mp hr;refine⟨by rw [G2,G5],λx hx=> ?_⟩;obtain⟨j,_,rfl⟩:=D6.mp hx;exact nn i j
theorem Wr {o:List Nat}(ho:Ordr n o){i:Nat}(hi:i<n):o.getD i 0<n/\atI (o.map λ(k:Nat)=>D.int (k:Int)) (i:Int)=some (.int ((o.getD i 0:Nat):Int)):=by
 have hi':i<o.length:=by rw [ho.ord.len];exact hi
 rw [P5,G1 hi'];exact⟨G8.mp (ho.mem_iff.mp (S9 hi')),zG (by rw [P1,G1 hi'];rfl)⟩
theorem Cc {o:List Nat}(ho:Ordr n o)(n1:1<=n):o.getD (n-1) 0<n/\atI (o.map λ(k:Nat)=>D.int (k:Int)) (-1)=some (.int ((o.getD (n-1) 0:Nat):Int)):=by
 have hl:o.length=n:=ho.ord.len;have hi':n-1<o.length:=by omega
 refine⟨(Wr ho (by omega)).1,Qg (by rw [G2];omega) ?_⟩;rw [G2,hl,P1,G1 hi',P5,G1 hi'];rfl
def gT3 (i j k:Nat):TGD:=λd σ h Q=> ∃x y z,d= .tup [x,y,z]/\Q (((σ.set i (some x)).set j (some y)).set k (some z)) h
theorem xf {K:PySem.W.Frag}(i j k:Nat): ∀v σ H Q,LG K (gT3 i j k) v σ H Q->Td K 3 (YR (wM i) (YR (wM j) (YR (wM k) Tc))) v σ H Q:=λv σ H Q ⟨d,oW,h,Qd,r,rs,rh,⟨x,y,z,e,q⟩,p⟩=>by
 subst e;obtain⟨a,vs,e,hH,rr⟩:=(show ∃a vs,v= .ref a/\H a=some (.tup vs)/\RelDs K H [x,y,z] vs from r);subst e;obtain⟨v1,vr,e1,r1,rr⟩:=(show ∃v r,vs=v::r/\RelD K H x v/\RelDs K H [y,z] r from rr);obtain⟨v2,v3,e2,r2,r3⟩:=yG rr;subst e1 e2;exact⟨a,[v1,v2,v3],rfl,SqT.of hH,rfl,v1,[v2,v3],rfl,v2,[v3],rfl,v3,[],rfl,rfl,p _ _ _ _ (.refl H) (((rs.set r1 i).set r2 j).set r3 k) rh q⟩
section
variable {X:Cx}{pos:Pos}
theorem Ky {i j l:Nat}{x y z:Str}{p1 p2 p3:Pos}{k:Nat}(hc:X.calm=true)(hN:X.N.Nodup)(hi:X.N[i]? =some x)(hj:X.N[j]? =some y)(hl:X.N[l]? =some z)(hx:Loc X.env.scope x)(hy:Loc X.env.scope y)(hz:Loc X.env.scope z)
 (hf:X.fn x=true\/X.env.scope.names.lookup x=some .local:=by first|exact .inl rfl|exact .inr rfl|assumption)(hf2:X.fn y=true\/X.env.scope.names.lookup y=some .local:=by first|exact .inl rfl|exact .inr rfl|assumption)(hf3:X.fn z=true\/X.env.scope.names.lookup z=some .local:=by first|exact .inl rfl|exact .inr rfl|assumption):
 JG X (.Tuple [.Name x p1,.Name y p2,.Name z p3] k pos) (gT3 i j l):=⟨(Rf hc (yu (vg hN hi hx hf) (yu (vg hN hj hy hf2) (yu (vg hN hl hz hf3) XE)))).imp (xf i j l)⟩
end
section
variable {α:Type}{i i':Nat}{js:List Nat}{ti:TID}{te:TED}{σ:SD}{h:HD}{Q:KD}{j:ItD}
theorem xg (xs:List α)(c c':α->D)(g:α->Bool)(hz:xs.length<=1000)(hj:j h=some (xs.map λx=> .tup [c x,c' x]))(ht: ∀R:ItD->HD->Prop,R j h->ti σ h R)
 (he: ∀x∈xs,∀Q':KD,Q' (.bl (g x)) h->te (((jI js σ).set i (some (c x))).set i' (some (c' x))) h Q')(hq:Q (.bl (xs.any g)) h):dCB HW (zh (vL (b2 i i') js ti vt te) Zv) σ h Q:=by
 show vL (b2 i i') js ti vt te σ h (λx h1=>HW [x] h1 Q);exact qj xs c c' (λx=> .bl (g x)) hz hj ht he λp hp=>⟨p,xs.map g,rfl,by rw [jc,R3];rfl,by rw [zw hp,aX];exact hq⟩
end
theorem Of (r s:List Int):PY (r.map D.int) (s.map D.int)=(r.zip s).map λp=> .tup [.int p.1,.int p.2]:=by
 unfold PY;rw [nI,R3];rfl
def vA (f:Nat->Bool):Nat->Nat
 |0=>0
 |L+1=>if f L=true then L+1 else vA f L
theorem WW (f:Nat->Bool): ∀L,vA f L<=L/\(vA f L≠0->f (vA f L-1)=true)/\ ∀m,vA f L<=m->m<L->f m=false
 |0=>⟨P0 _,λh=>absurd rfl h,λm _ h=>absurd h (bT _)⟩
 |L+1=>by
  obtain⟨a,b,c⟩:=WW f L;unfold vA
  by_cases z:f L=true
  ·rw [if_pos z];exact⟨P0 _,λ_=>z,λm h1 h2=>by omega⟩
  ·rw [if_neg z];refine⟨by omega,b,λm h1 h2=> ?_⟩
   by_cases w:m=L
   ·subst w;simpa using z
   ·exact c m h1 (by omega)
theorem Og {f:Nat->Bool}{L:Nat}{m:Int}(h1:m∈(0:Int)::((G0 L).filter f).map λi=>((i+1:Nat):Int))(h2: ∀x∈(0:Int)::((G0 L).filter f).map (λi=>((i+1:Nat):Int)),x<=m):m=(vA f L:Int):=by
 obtain⟨a,b,c⟩:=WW f L;have n1:((vA f L:Nat):Int)<=m:=h2 _ (by
  by_cases z:vA f L=0
  ·rw [z];exact D0
  ·refine D5 _ (D6.mpr ⟨vA f L-1,T6.mpr ⟨G8.mpr (by omega),b z⟩,?_⟩);rw [show vA f L-1+1=vA f L by omega])
 rcases R6.mp h1 with e|e
 ·have:(0:Int)<=((vA f L:Nat):Int):=by omega
  omega
 ·obtain⟨i,hi,e⟩:=D6.mp e;obtain⟨hi,fi⟩:=T6.mp hi;have:i<vA f L:=j7 λz=>by rw [c i z (G8.mp hi)] at fi;cases fi
  omega
def MU (T:List (List Int)):Bool:=T.all λr=>T.all λs=>(r.zip s).any λp=>decide (p.1≠0)&&decide (p.2≠0)
theorem Cd {e:Nat}{T:List (List Int)}(h:Sq n e T)(n1:1<=n)(f:jP T=true):MU T=true:=by
 unfold MU;unfold jP at f;rw [S1] at f ⊢;intro r hr;rw [S1];intro s hs;have lr:=h.row r hr;have ls:=h.row s hs;have fr:=f r hr;have fs:=f s hs
 match r,s,lr,ls,fr,fs with
 | [],_,lr,_,_,_=>simp at lr;omega
 |_::_,[],_,ls,_,_=>simp at ls;omega
 |x::r,y::s,_,_,fr,fs=>
  rw [bG,M6] at fr fs;rw [K8,gK,fr.1,fs.1];rfl
theorem RE (L:Nat)(f:Nat->D):MQ ((G0 L).map f)=(G0 L).map λm=>D.tup [.int ((m+1:Nat):Int),f m]:=by
 refine U9 λi=> ?_
 unfold MQ;rw [P1,Y2,P1,P1]
 by_cases z:i<L
 ·rw [T5 z];simp
 ·rw [N3 (by rw [G5];omega)];rfl
theorem Kz (P:Nat->Nat->Bool)(up: ∀m i,i<n->P m i=true->P (m+1) i=true)(st: ∀m,(∀i,i<n->P (m+1) i=P m i)-> ∀i,i<n->P (m+2) i=P (m+1) i)
 (M:Nat)(hM: ∀m,M<=m-> ∀i,i<n->P m i=true){s:Nat}(c0:s<=(G0 n).countP (P 0)): ∀i,i<n->P (n-s) i=true:=by
 have key: ∀m,(∀i,i<n->P m i=true)\/m+s<=(G0 n).countP (P m):=by
  intro m
  induction m with
  |zero=>exact .inr (by omega)
  |succ m ih=>
   rcases ih with ih|ih
   ·exact .inl λi hi=>up m i hi (ih i hi)
   ·by_cases eq: ∀i,i<n->P (m+1) i=P m i
    ·left;have go: ∀t i,i<n->P (m+t+1) i=P (m+t) i:=by
      intro t
      induction t with
      |zero=>exact eq
      |succ t iht=>exact st (m+t) iht
     have all: ∀t i,i<n->P (m+t) i=P m i:=by
      intro t
      induction t with
      |zero=>intro i _;rfl
      |succ t iht=>intro i hi;rw [<-iht i hi];exact go t i hi
     intro i hi;rw [eq i hi,<-all M i hi];exact hM (m+M) (by omega) i hi
    ·right;have ⟨i,hi⟩: ∃i,i<n/\P (m+1) i≠P m i:=F5 λw=>eq λi hi=>F5 λw2=>w ⟨i,hi,w2⟩
     have hf:P m i=false:=by
      cases hp:P m i with
      |false=>rfl
      |true=>exact absurd ((up m i hi.1 hp).trans hp.symm) hi.2
     have ht:P (m+1) i=true:=by
      cases hp:P (m+1) i with
      |true=>rfl
      |false=>exact absurd (hp.trans hf.symm) hi.2
     have:=Wq (l:=G0 n) (p:=P m) (q:=P (m+1)) (λx hx=>up m x (G8.mp hx)) ⟨i,G8.mpr hi.1,hf,ht⟩;omega
 have hle: ∀m,(G0 n).countP (P m)<=n:=λm=>by
  have:(G0 n).countP (P m)<=(G0 n).length:=fJ
  rwa [G5] at this
 have:=hle 0;intro i hi;rcases key (n-s) with h|h
 ·exact h i hi
 ·have hl:=hle (n-s);have:(G0 n).countP (P (n-s))=(G0 n).length:=by rw [G5];omega
  exact fL.mp this i (G8.mpr hi)
theorem GL {n:Nat}: ∀ {vs:List Nat},vs.Nodup->(∀v∈vs,v<n)->vs.length<=(G0 n).countP λi=>decide (i∈vs)
 | [],_,_=>T4 _
 |v::vs,nd,lt=>by
  rw [K3] at nd;have ih:=GL (n:=n) nd.2 λw hw=>lt w (D5 _ hw)
  have:=Wq (l:=G0 n) (p:=λi=>decide (i∈vs)) (q:=λi=>decide (i∈v::vs)) (λx _ hx=>decide_eq_true (D5 _ (of_decide_eq_true hx))) ⟨v,G8.mpr (lt v D0),decide_eq_false nd.1,decide_eq_true D0⟩;rw [R0];omega
section
variable {n e:Nat}{T:List (List Int)}
theorem bEq {a b:Bool}(h:a=true↔b=true):a=b:=by cases a<;>cases b<;>simp_all
theorem GM (h:Sq n e T)(hn:n<=8){K:Nat}(all: ∀m,K<=m-> ∀i j,i<n->j<n->RP n T m i j){s c:Nat}(s1:1<=s)(hc:c<n)(rc:RP n T s c c): ∀j,j<n->RP n T (s*(n-1)) c j:=by
 have e1: ∀m,s*(m+1)=s+s*m:=λm=>by rw [W8];omega
 have A:=Sg (n:=n) (λm j=>decide (RP n T (s*m) c j)) (λm j hj r=>decide_eq_true (by rw [e1];exact(zJ h hn s (s*m) hc hj).mpr ⟨c,hc,rc,of_decide_eq_true r⟩))
  (λm eq j hj=>by
   have key: ∀m,RP n T (s*(m+1)) c j↔ ∃k,k<n/\RP n T (s*m) c k/\RP n T s k j:=λm=>by rw [W8];exact zJ h hn (s*m) s hc hj
   have eq2: ∀k,k<n->(RP n T (s*(m+1)) c k↔RP n T (s*m) c k):=λk hk=>by simpa using eq k hk
   have:RP n T (s*(m+1+1)) c j↔RP n T (s*(m+1)) c j:=by
    rw [key (m+1),key m];exact⟨λ⟨k,hk,a,b⟩=>⟨k,hk,(eq2 k hk).mp a,b⟩,λ⟨k,hk,a,b⟩=>⟨k,hk,(eq2 k hk).mpr a,b⟩⟩
   simpa using this) K (λm hm j hj=>decide_eq_true (all _ (R9 hm (e7 m s1)) c j hc hj)) ⟨c,hc,decide_eq_true (by rw [e8];exact(zc hc hc).mpr rfl)⟩
 exact λj hj=>of_decide_eq_true (A j hj)
theorem Sh (h:Sq n e T)(hn:n<=8){K:Nat}(all: ∀m,K<=m-> ∀i j,i<n->j<n->RP n T m i j)(S:Nat->Bool){s:Nat}(s1:1<=s)(c0:s<=(G0 n).countP S): ∀i,i<n-> ∃t c,t<=n-s/\c<n/\S c=true/\RP n T t i c:=by
 classical
 have exS: ∃c,c<n/\S c=true:=by
  obtain⟨c,hc,e⟩:=gE.mp (show 0<(G0 n).countP S by omega);exact⟨c,G8.mp hc,e⟩
 obtain⟨rC,rD,rV⟩:=exS
 let R:Nat->Nat->Prop:=λm i=> ∃t c,t<=m/\c<n/\S c=true/\RP n T t i c
 have stp: ∀m i,i<n->(R (m+1) i↔(S i=true\/ ∃k,k<n/\RP n T 1 i k/\R m k)):=λm i hi=>by
  constructor
  ·rintro ⟨t,c,ht,hc,ec,r⟩;cases t with
   |zero=>rw [(zc hi hc).mp r];exact .inl ec
   |succ t=>
    rw [Y6] at r;obtain⟨k,hk,a,b⟩:=(zJ h hn 1 t hi hc).mp r;exact .inr ⟨k,hk,a,t,c,by omega,hc,ec,b⟩
  ·rintro (r|⟨k,hk,a,t,c,ht,hc,ec,b⟩)
   ·exact⟨0,i,by omega,hi,r,(zc hi hi).mpr rfl⟩
   ·exact⟨1+t,c,by omega,hc,ec,(zJ h hn 1 t hi hc).mpr ⟨k,hk,a,b⟩⟩
 have A:=Kz (n:=n) (s:=s) (λm i=>decide (R m i)) (λm i hi r=>by
  have r:=of_decide_eq_true r;obtain⟨t,c,ht,x⟩:=r;exact decide_eq_true ⟨t,c,by omega,x⟩) (λm eq i hi=>bEq (by
  rw [decide_eq_true_iff,decide_eq_true_iff,stp (m+1) i hi,stp m i hi];have eq2: ∀k,k<n->(R (m+1) k↔R m k):=λk hk=>by
   have:=eq k hk;rw [T7,decide_eq_true_iff,decide_eq_true_iff] at this;exact this
  exact⟨λz=>z.imp id λ⟨k,hk,a,b⟩=>⟨k,hk,a,(eq2 k hk).mp b⟩,λz=>z.imp id λ⟨k,hk,a,b⟩=>⟨k,hk,a,(eq2 k hk).mpr b⟩⟩)) K (λm hm i hi=>decide_eq_true ⟨m,rC,P0 _,rD,rV,all m hm i rC hi rD⟩) (by
  have e:(G0 n).countP (λi=>decide (R 0 i))=(G0 n).countP S:=List.countP_congr λi hi=>by
   have hi:=G8.mp hi;rw [decide_eq_true_iff];constructor
   ·rintro ⟨t,c,ht,hc,ec,r⟩;rw [show t=0 by omega] at r;rw [(zc hi hc).mp r];exact ec
   ·exact λr=>⟨0,i,P0 _,hi,r,(zc hi hi).mpr rfl⟩
  rw [e];exact c0)
 exact λi hi=>of_decide_eq_true (A i hi)
theorem Ce (h:Sq n e T)(hn:n<=8){K:Nat}(all: ∀m,K<=m-> ∀i j,i<n->j<n->RP n T m i j)(S:Nat->Bool){s q:Nat}(s1:1<=s)(q1:1<=q)(c0:s<=(G0 n).countP S)(rd: ∀c,c<n->S c=true->RP n T q c c)(on: ∀c,c<n->S c=true-> ∃d,d<n/\S d=true/\RP n T 1 c d):
 jP (zF n T (n-s+q*(n-1)))=true:=(vN h hn).mpr λi j hi hj=>by
 obtain⟨t,c,ht,hc,ec,r⟩:=Sh h hn all S s1 c0 i hi;have stay: ∀d,∃c',c'<n/\S c'=true/\RP n T (t+d) i c':=by
  intro d
  induction d with
  |zero=>exact⟨c,hc,ec,r⟩
  |succ d ih=>
   obtain⟨c',hc',ec',r'⟩:=ih;obtain⟨d',hd',ed',rd'⟩:=on c' hc' ec';exact⟨d',hd',ed',zd (a:=t+d) (b:=1) h hn hi hc' hd' r' rd'⟩
 obtain⟨c',hc',ec',r'⟩:=stay (n-s-t);rw [show t+(n-s-t)=n-s by omega] at r';exact zd h hn hi hc' hj r' (GM h hn all q1 hc' (rd c' hc' ec') j hj)
theorem Cf (h:Sq n e T)(hn:n<=8)(n2:2<=n){K:Nat}(all: ∀m,K<=m-> ∀i j,i<n->j<n->RP n T m i j): ∃m,1<=m/\m<=(n-1)*(n-1)+1/\jP (zF n T m)=true:=by
 obtain⟨s0,c0,s01,s0n,hc0,rc0⟩:=VT h hn n2 (all K (P0 _)) (all (K+1) (by omega));have least: ∀s,(1<=s/\s<=n-1/\ ∃c,c<n/\RP n T s c c)-> ∃s c,1<=s/\s<=n-1/\c<n/\RP n T s c c/\ ∀t d,1<=t->t<s->d<n-> ¬RP n T t d d:=by
  intro s
  induction s using bS with
  |_ s ih=>
   rintro ⟨s1,sn,c,hc,rc⟩
   by_cases z: ∃t d,1<=t/\t<s/\d<n/\RP n T t d d
   ·obtain⟨t,d,t1,ts,hd,rd⟩:=z;exact ih t ts ⟨t1,by omega,d,hd,rd⟩
   ·exact⟨s,c,s1,sn,hc,rc,λt d t1 ts hd rd=>z ⟨t,d,t1,ts,hd,rd⟩⟩
 obtain⟨s,c,s1,sn,hc,rc,mn⟩:=least s0 ⟨s01,s0n,c0,hc0,rc0⟩;obtain⟨v,v0,vs,vl,vr⟩:=GI h hn s hc hc rc;have nd:((G0 s).map v).Nodup:=by
  unfold g7;rw [F4,O6];intro a b ha hb hab;rw [G5] at ha hb;rw [F8,F8];intro ev;have:=yk h hn vl vr a (b-a) (by omega);rw [show a+(b-a)=b by omega,<-ev] at this;exact mn (b-a) (v a) (by omega) (by omega) (vl a (by omega)) this
 have cn:=GL (n:=n) nd (λx hx=>by obtain⟨t,ht,rfl⟩:=D6.mp hx;exact vl t (by have:=G8.mp ht;omega));rw [G2,G5] at cn;have mem: ∀x,decide (x∈(G0 s).map v)=true↔ ∃t,t<s/\v t=x:=λx=>by
  rw [decide_eq_true_iff,D6];exact⟨λ⟨t,ht,e⟩=>⟨t,G8.mp ht,e⟩,λ⟨t,ht,e⟩=>⟨t,G8.mpr ht,e⟩⟩
 have F:=Ce h hn all (λx=>decide (x∈(G0 s).map v)) s1 s1 cn (λx hx ex=>by
  obtain⟨t,ht,rfl⟩:=(mem x).mp ex;have a:=yk h hn vl vr t (s-t) (by omega);rw [show t+(s-t)=s by omega,vs,<-v0] at a;have b:=yk h hn vl vr 0 t (by omega);rw [A7] at b;have:=zd h hn (vl t (by omega)) (vl 0 (by omega)) (vl t (by omega)) a b
  rwa [show s-t+t=s by omega] at this) (λx hx ex=>by
  obtain⟨t,ht,rfl⟩:=(mem x).mp ex
  by_cases z:t+1<s
  ·exact⟨v (t+1),vl _ (by omega),(mem _).mpr ⟨t+1,z,rfl⟩,vr t ht⟩
  ·refine⟨v 0,vl _ (by omega),(mem _).mpr ⟨0,by omega,rfl⟩,?_⟩;have:=vr t ht
   rwa [show t+1=s by omega,vs,<-v0] at this)
 refine⟨n-s+s*(n-1),by omega,?_,F⟩;obtain⟨a,rfl⟩: ∃a,n=a+2:=⟨n-2,by omega⟩;have x1:s*(a+2-1)=s*a+s:=by rw [show a+2-1=a+1 by omega,W8]
 have x2:(a+2-1)*(a+2-1)=(a+1)*a+(a+1):=by rw [show a+2-1=a+1 by omega,W8]
 have x3:s*a<=(a+1)*a:=Nat.mul_le_mul_right a (by omega);rw [x1,x2];omega
theorem MV (h:Sq n e T)(hn:n<=8){K:Nat}(all: ∀m,K<=m-> ∀i j,i<n->j<n->RP n T m i j){d:Nat}(d1:1<=d)(cd:d<=(G0 n).countP λi=>decide (ent T i i≠0)):jP (zF n T (n-d+(n-1)))=true:=by
 have:=Ce h hn all (λi=>decide (ent T i i≠0)) d1 (P0 1) cd (λc hc ec=>(yt h hn).mpr (of_decide_eq_true ec)) (λc hc ec=>⟨c,hc,ec,(yt h hn).mpr (of_decide_eq_true ec)⟩)
 rwa [fY] at this
theorem Oh (h:Sq n e T)(hn:n<=8)(n1:1<=n){K:Nat}(K1:1<=K)(all: ∀m,K<=m-> ∀i j,i<n->j<n->RP n T m i j)(sy: ∀i j,i<n->j<n->RP n T 1 i j->RP n T 1 j i):jP (zF n T (2*(n-1)))=true:=(vN h hn).mpr λi j hi hj=>by
 have x:=all (1+(K-1)) (by omega) i i hi hi;obtain⟨c,hc,a,_⟩:=(zJ h hn 1 (K-1) hi hi).mp x;exact GM h hn all (by decide) hi (zd h hn hi hc hi a (sy i c hi hc a)) j hj
end
def wz (f:Nat->Int):List Nat->Int->Nat×Int
 | [],m=>(0,m)
 |j::l,m=>if f j<=m then wz f l (m-f j) else (j,m)
theorem Zk {f:Nat->Int}(nn: ∀j,0<=f j): ∀ {l:List Nat} {m:Int},0<=m->m<(l.map f).sum-> ∃l1 l2,l=l1++(wz f l m).1::l2/\m=(l1.map f).sum+(wz f l m).2/\0<=(wz f l m).2/\(wz f l m).2<f (wz f l m).1
 | [],m,h0,h=>by simp at h;omega
 |j::l,m,h0,h=>by
  unfold wz
  by_cases z:f j<=m
  ·rw [if_pos z];rw [T3,aB] at h;obtain⟨l1,l2,e,s,a,b⟩:=Zk nn (l:=l) (m:=m-f j) (by omega) (by omega);exact⟨j::l1,l2,by rw [J4,<-e],by rw [T3,aB];omega,a,b⟩
  ·rw [if_neg z];exact⟨[],l,rfl,by simp,h0,by show m<f j;omega⟩
section
variable (T:List (List Int))(n o:Nat)
def wn:Nat->Nat->Int->List Nat
 |0,p,_=> [p]
 |t+1,p,m=>p::wn t (wz (cnt T n o t) (yU T n p) m).1 (wz (cnt T n o t) (yU T n p) m).2
def gpN (k one:Nat)(m:Int):Nat->Nat×Int
 |0=>(one,m)
 |i+1=>wz (cnt T n o (k-1-i)) (yU T n (gpN k one m i).1) (gpN k one m i).2
def gwN (k one:Nat)(m:Int)(i:Nat):List Nat:=(G0 (i+1)).map λt=>(gpN T n o k one m t).1
end
section
variable {T:List (List Int)}{n o:Nat}
theorem GN (k p:Nat)(m:Int): ∀i,gpN T n o (k+1) p m (i+1)=gpN T n o k (wz (cnt T n o k) (yU T n p) m).1 (wz (cnt T n o k) (yU T n p) m).2 i
 |0=>by
  show wz (cnt T n o (k+1-1-0)) (yU T n p) m=(_,_);rw [show k+1-1-0=k by omega]
 |i+1=>by
  show wz (cnt T n o (k+1-1-(i+1))) (yU T n (gpN T n o (k+1) p m (i+1)).1) (gpN T n o (k+1) p m (i+1)).2=wz (cnt T n o (k-1-i)) _ _;rw [GN k p m i,show k+1-1-(i+1)=k-1-i by omega]
theorem Cg: ∀ (k p:Nat) (m:Int),gwN T n o k p m k=wn T n o k p m
 |0,p,m=>rfl
 |k+1,p,m=>by
  unfold gwN;rw [E5,T3,R3];show p::_=p::_
  congr 1
  rw [<-Cg k];unfold gwN;refine S7 λi _=> ?_
  show (gpN T n o (k+1) p m (i+1)).1=_;rw [GN]
theorem Ch {k one:Nat}{m:Int}(h1:one<n)(h0:0<=m)(h:m<cnt T n o k one): ∀i,i<=k->(gpN T n o k one m i).1<n/\0<=(gpN T n o k one m i).2/\(gpN T n o k one m i).2<cnt T n o (k-i) (gpN T n o k one m i).1
 |0,_=>⟨h1,h0,h⟩
 |i+1,hi=>by
  obtain⟨a,b,c⟩:=Ch h1 h0 h i (by omega);rw [show k-i=(k-1-i)+1 by omega] at c;obtain⟨l1,l2,e,s,x,y⟩:=Zk (f:=cnt T n o (k-1-i)) (λj=>VS _ j) b c;refine⟨RB (p:=(gpN T n o k one m i).1) (by rw [e];simp [gpN]),x,?_⟩;rw [show k-(i+1)=k-1-i by omega];exact y
theorem De (t p:Nat)(m:Int): ∃r,wn T n o t p m=p::r/\r.length=t:=by
 induction t generalizing p m with
 |zero=>exact⟨[],rfl,rfl⟩
 |succ t ih=>
  obtain⟨r,e,l⟩:=ih (wz (cnt T n o t) (yU T n p) m).1 (wz (cnt T n o t) (yU T n p) m).2;exact⟨_,rfl,by rw [e,R0,l]⟩
theorem KA {k one:Nat}{m:Int}(h1:one<n)(h0:0<=m)(h:m<cnt T n o k one): ∀x∈wn T n o k one m,x<n:=λx hx=>by
 rw [<-Cg] at hx;obtain⟨t,ht,rfl⟩:=D6.mp hx;exact(Ch h1 h0 h t (by have:=G8.mp ht;omega)).1
theorem KB (t p:Nat)(m:Int):(wn T n o t p m).length=t+1:=by
 obtain⟨r,e,l⟩:=De (T:=T) (n:=n) (o:=o) t p m;rw [e,R0,l]
theorem Ci: ∀ (t p:Nat) {m:Int},0<=m->m<cnt T n o t p->(wn T n o t p m)[t]? =some o
 |0,p,m,h0,h=>by
  have h':m<if p=o then 1 else 0:=h
  by_cases z:p=o
  ·rw [z];rfl
  ·rw [if_neg z] at h';omega
 |t+1,p,m,h0,h=>by
  obtain⟨l1,l2,e,s,a,b⟩:=Zk (f:=cnt T n o t) (λj=>VS t j) h0 h;exact Ci t _ a b
theorem Cj: ∀ (t p:Nat) {m:Int},0<=m->m<cnt T n o t p->Qe T (wn T n o t p m)=true
 |0,p,m,h0,h=>rfl
 |t+1,p,m,h0,h=>by
  obtain⟨l1,l2,e,s,a,b⟩:=Zk (f:=cnt T n o t) (λj=>VS t j) h0 h;have ih:=Cj t _ a b;show Qe T (p::wn T n o t (wz (cnt T n o t) (yU T n p) m).1 (wz (cnt T n o t) (yU T n p) m).2)=true;generalize (wz (cnt T n o t) (yU T n p) m).1=j at*
  generalize (wz (cnt T n o t) (yU T n p) m).2=m' at*
  obtain⟨r,er,lr⟩:=De (T:=T) (n:=n) (o:=o) t j m';have hj:ent T p j>0:=of_decide_eq_true (T6.mp (show j∈yU T n p by rw [e];simp)).2;rw [er] at ih ⊢;unfold Qe at ih ⊢;simp only [List.drop_succ_cons,aY,K8,bG,List.isEmpty_cons,Bool.not_false,bI] at ih ⊢;rw [decide_eq_true hj,ih];rfl
end
section
variable {X:Cx}{iter iter' elt:Expr}{ti ti':TID}{tt tt':TTD}{te:TED}{pos:Pos}{scope:J6}{js:List Nat}{ifs ifs':List Expr}
theorem jat {i j l:Nat}{x y z:Str}{p1 p2 p3 pz:Pos}{k:Nat}(hc:X.calm=true)(S:BlockOk X scope js)(hi:QI X (.Tuple [.Name x p1,.Name y p2] k p3) iter ti)(mi:i∈js)(mj:j∈js)(ml:l∈js)(hij:i≠j)(hil:i≠l)(hjl:j≠l)(hN:X.N.Nodup)(hx:X.N[i]? =some x)(hy:X.N[j]? =some y)(hz:X.N[l]? =some z)
 (h1:scope.names.lookup x=some .local\/scope.names.lookup x=some .cell)(h2:scope.names.lookup y=some .local\/scope.names.lookup y=some .cell)(h3:scope.names.lookup z=some .local\/scope.names.lookup z=some .cell)
 (ht: ∀X',jp X scope X'->PTs X' ifs (LT X'.K tt))(hi': ∀X',jp X scope X'->QI X' (.Name z pz) iter' ti')(ht': ∀X',jp X scope X'->PTs X' ifs' (LT X'.K tt'))(he: ∀X',jp X scope X'->QE X' elt te)
 (hs: ∀x,foldedSetIterable iter X.env x=pure x:=by intro _;rfl)(hs': ∀env x,foldedSetIterable iter' env x=pure x:=by intro _ _;rfl):
 QE X (.ListComp elt [⟨.Tuple [.Name x p1,.Name y p2] k p3,iter,ifs,0⟩,⟨.Name z pz,iter',ifs',0⟩] scope pos) (Mt (b2 i j) js ti tt l ti' tt' te):=
 (show PE X _ (Hn js (LI X.K ti) (Td X.K 2 (YR (wM i) (YR (wM j) Tc))) (LT X.K tt) (LI X.K ti') (wM l) (LT X.K tt') (LE X.K te)) from Ac hc S hi (λX' hX=>by
  obtain⟨C,s₀,H₀,ex,rfl⟩:=hX;exact Rf hc (yu (ww hN hx h1) (yu (ww hN hy h2) XE))) (λX' hX=>by have:=ht X' hX;obtain⟨C,s₀,H₀,ex,rfl⟩:=hX;exact this) (λX' hX=>by have:=hi' X' hX;obtain⟨C,s₀,H₀,ex,rfl⟩:=hX;exact this)
  (λX' hX=>by obtain⟨C,s₀,H₀,ex,rfl⟩:=hX;exact ww hN hz h3) (λX' hX=>by have:=ht' X' hX;obtain⟨C,s₀,H₀,ex,rfl⟩:=hX;exact this)
  (λX' hX=>by have:=he X' hX;obtain⟨C,s₀,H₀,ex,rfl⟩:=hX;exact this) hs hs').imp (Be (HQ mi mj ml hij hil hjl))
theorem jau {i j l:Nat}{x y z:Str}{p1 p2 p3 pz:Pos}{k:Nat}(hc:X.calm=true)(S:BlockOk X scope js)(hi:JI X (.Tuple [.Name x p1,.Name y p2] k p3) iter ti)(mi:i∈js)(mj:j∈js)(ml:l∈js)(hij:i≠j)(hil:i≠l)(hjl:j≠l)(hN:X.N.Nodup)(hx:X.N[i]? =some x)(hy:X.N[j]? =some y)(hz:X.N[l]? =some z)
 (h1:scope.names.lookup x=some .local\/scope.names.lookup x=some .cell)(h2:scope.names.lookup y=some .local\/scope.names.lookup y=some .cell)(h3:scope.names.lookup z=some .local\/scope.names.lookup z=some .cell)
 (ht: ∀X',jp X scope X'->PTs X' ifs (LT X'.K tt))(hi': ∀X',jp X scope X'->JI X' (.Name z pz) iter' ti')(ht': ∀X',jp X scope X'->PTs X' ifs' (LT X'.K tt'))(he: ∀X',jp X scope X'->JE X' elt te)
 (hs: ∀x,foldedSetIterable iter X.env x=pure x:=by intro _;rfl)(hs': ∀env x,foldedSetIterable iter' env x=pure x:=by intro _ _;rfl):
 JE X (.ListComp elt [⟨.Tuple [.Name x p1,.Name y p2] k p3,iter,ifs,0⟩,⟨.Name z pz,iter',ifs',0⟩] scope pos) (Mt (b2 i j) js ti tt l ti' tt' te):=⟨jat hc S hi.to mi mj ml hij hil hjl hN hx hy hz h1 h2 h3 ht (λX' hX=>(hi' X' hX).to) ht' (λX' hX=>(he X' hX).to) hs hs'⟩
end
section
variable {α β:Type}{i i2 i':Nat}{js:List Nat}{ti ti':TID}{te:TED}{σ:SD}{h:HD}{Q:KD}{j:ItD}
theorem lcT (xs:List α)(c c2:α->D)(ys:α->List β)(c':β->D)(g:α->β->D)(hz:(xs.flatMap ys).length<=1000)(hj:j h=some (xs.map λx=> .tup [c x,c2 x]))(ht: ∀R:ItD->HD->Prop,R j h->ti σ h R)
 (hin: ∀x∈xs,∀R:ItD->HD->Prop,R (λ_=>some ((ys x).map c')) h->ti' (((jI js σ).set i (some (c x))).set i2 (some (c2 x))) h R)
 (he: ∀x∈xs,∀y∈ys x,∀Q':KD,Q' (g x y) h->te ((((jI js σ).set i (some (c x))).set i2 (some (c2 x))).set i' (some (c' y))) h Q')(hq: ∀p,h p=none->Q (.lst p) (wb h p (xs.flatMap λx=>(ys x).map (g x)))):Mt (b2 i i2) js ti vt i' ti' vt te σ h Q:=by
 have len: ∀l:List α,(l.flatMap λx=>(ys x).map (g x)).length=(l.flatMap ys).length:=λl=>by
  induction l with
  |nil=>rfl
  |cons x l ih=>simp [C9,ih]
 have lek: ∀k,((xs.take k).flatMap ys).length<=(xs.flatMap ys).length:=λk=>by
  conv=>rhs;rw [<-R8 k xs,O9,P2]
  omega
 have lek1: ∀k x m,xs[k]? =some x->m<=(ys x).length->((xs.take k).flatMap ys).length+m<=(xs.flatMap ys).length:=λk x m hx hm=>by
  have:=lek (k+1);rw [T8,hx,O9,P2] at this;simp at this;simp;omega
 refine ht _ ⟨xs.length,λk zs h'=>h'=h/\zs=(xs.take k).flatMap λx=>(ys x).map (g x),⟨rfl,by simp⟩,?_⟩;rintro k zs h' ⟨rfl,rfl⟩;refine⟨by rw [len];exact R1 (jw (R9 (lek k) hz)),_,hj,by simp,λhl p hp=> ?_,λd hd=> ?_⟩
 ·rw [R5 (by simpa using hl)];exact hq p hp
 ·rw [P1] at hd;cases hx:xs[k]? with
  |none=>rw [hx] at hd;cases hd
  |some x=>
   rw [hx] at hd;injection hd with hd
   refine⟨_,⟨c x,c2 x,hd.symm,rfl⟩,?_⟩;unfold vt;dsimp only;rw [if_pos rfl];have xm:=P4 hx;refine hin x xm _ ⟨(ys x).length,λm zs h2=>h2=h'/\zs=((xs.take k).flatMap λx=>(ys x).map (g x))++((ys x).take m).map (g x),⟨rfl,by simp⟩,?_⟩;rintro m zs h2 ⟨rfl,rfl⟩;refine⟨?_,(ys x).map c',rfl,by simp,λhl=>⟨h2,Sub.refl _,rfl,?_⟩,λd hd=> ?_⟩
   ·rw [P2,len,G2,R7];have:=lek1 k x (min m (ys x).length) hx (V8 _ _);exact R1 (jw (by omega))
   ·have hm:(ys x).take m=ys x:=R5 (by simpa using hl);rw [hm,T8,hx,O9];simp
   ·rw [P1] at hd;cases hy:(ys x)[m]? with
    |none=>rw [hy] at hd;cases hd
    |some y=>
     rw [hy] at hd;cases hd
     first
      |rw [if_pos rfl]
      |(dsimp only;rw [if_pos rfl])
     refine he x xm y (P4 hy) _ ⟨h2,Sub.refl _,rfl,?_⟩;rw [T8,hy];simp
theorem jav (xs:List α)(c c2:α->D)(ys:α->List β)(c':β->D)(g:α->β->Bool)(hz:(xs.flatMap ys).length<=1000)(hj:j h=some (xs.map λx=> .tup [c x,c2 x]))(ht: ∀R:ItD->HD->Prop,R j h->ti σ h R)
 (hin: ∀x∈xs,∀R:ItD->HD->Prop,R (λ_=>some ((ys x).map c')) h->ti' (((jI js σ).set i (some (c x))).set i2 (some (c2 x))) h R)
 (he: ∀x∈xs,∀y∈ys x,∀Q':KD,Q' (.bl (g x y)) h->te ((((jI js σ).set i (some (c x))).set i2 (some (c2 x))).set i' (some (c' y))) h Q')(hq:Q (.bl (xs.all λx=>(ys x).all (g x))) h):dCB Lh (zh (Mt (b2 i i2) js ti vt i' ti' vt te) Zv) σ h Q:=by
 show Mt (b2 i i2) js ti vt i' ti' vt te σ h (λx h1=>Lh [x] h1 Q);refine lcT xs c c2 ys c' (λx y=> .bl (g x y)) hz hj ht hin he λp hp=> ?_
 have e:(xs.flatMap λx=>(ys x).map λy=>D.bl (g x y))=(xs.flatMap λx=>(ys x).map (g x)).map D.bl:=by
  clear hz hj ht hin he hq
  induction xs with
  |nil=>rfl
  |cons x l ih=>simp [C9,ih,R3]
 refine⟨p,xs.flatMap λx=>(ys x).map (g x),rfl,by rw [jc,e],?_⟩;have e2:(xs.flatMap λx=>(ys x).map (g x)).all id=xs.all λx=>(ys x).all (g x):=by
  clear hz hj ht hin he hq e
  induction xs with
  |nil=>rfl
  |cons x l ih=>rw [C9,List.all_append,ih,bG,A6];rfl
 rw [zw hp]
 first
  |(rw [e2];exact hq)
  |(show Q (.bl ((xs.flatMap λx=>(ys x).map (g x)).all λb=>b)) h;rw [show ((xs.flatMap λx=>(ys x).map (g x)).all λb=>b)=_ from e2];exact hq)
end
end L2
namespace L2
theorem IsS.ext {n:Nat}{S S':List Nat}(h:IsS n S)(h':IsS n S')(m: ∀j,j∈S↔j∈S'):S=S':=by
 obtain⟨p,rfl⟩:=h;obtain⟨q,rfl⟩:=h';refine a9 λj hj=> ?_
 have:=m j;rw [T6,T6] at this;have e:p j=true↔q j=true:=⟨λz=>(this.mp ⟨hj,z⟩).2,λz=>(this.mpr ⟨hj,z⟩).2⟩;cases hp:p j<;>cases hq:q j<;>simp_all
inductive Made (L:List Nat):Nat->Prop
 |z:Made L 0
 |s {n l:Nat}:Made L n->l∈L->Made L (n+l)
theorem RF: ∀ (L:List Nat) (g d:Nat),d∣L.foldl aG g↔d∣g/\ ∀l∈L,d∣l
 | [],g,d=>by simp
 |x::L,g,d=>by
  show d∣L.foldl aG (aG g x)↔_;rw [RF L,Nat.dvd_gcd_iff];simp only [R6,forall_eq_or_imp];exact⟨λ⟨⟨a,b⟩,c⟩=>⟨a,b,c⟩,λ⟨a,b,c⟩=>⟨⟨a,b⟩,c⟩⟩
end L2
namespace HT
open PySem PyProof.Rows
section
variable {prog:S3}{w:N2}{A:M7}{E:G3->G6->Prop}{σ α β:Type}{J:G6->Prop}
def Tm (prog:S3)(w:N2)(A:M7)(E:G3->G6->Prop)(J:G6->Prop){σ α:Type}(m:StateT σ Sem α)(Q:α->σ->Prop)(st:σ):Prop:=
 ∀s,J s->wpAny (model prog w) A (m.run st) (λr s'=>Q r.1 r.2/\J s') E s
theorem Tm.pure {a:α}{Q:α->σ->Prop}{st:σ}(h:Q a st):Tm prog w A E J (Pure.pure a:StateT σ Sem α) Q st:=λs j=>by
 rw [StateT.run_pure];exact P7 ⟨h,j⟩
theorem Tm.bind {m:StateT σ Sem α}{f:α->StateT σ Sem β}{Q:β->σ->Prop}{st:σ}(h:Tm prog w A E J m (λa st'=>Tm prog w A E J (f a) Q st') st):Tm prog w A E J (m >>= f) Q st:=λs j=>by
 rw [StateT.run_bind];exact wpAny_bind (S6 (h s j) (λr s' x=>x.1 s' x.2) λ_ _ e=>e)
theorem Tm.get {Q:σ->σ->Prop}{st:σ}(h:Q st st):Tm prog w A E J (MonadState.get:StateT σ Sem σ) Q st:=λs j=>by
 show wpAny _ _ ((StateT.get:StateT σ Sem σ).run st) _ _ _;exact P7 ⟨h,j⟩
theorem Tm.mono {m:StateT σ Sem α}{Q Q':α->σ->Prop}{st:σ}(h:Tm prog w A E J m Q st)(q: ∀a st',Q a st'->Q' a st'):Tm prog w A E J m Q' st:=λs j=>
 S6 (h s j) (λr s' x=>⟨q _ _ x.1,x.2⟩) λ_ _ e=>e
theorem Tm.range' {f:Nat->β->StateT σ Sem (ForInStep β)}(I:Nat->β->σ->Prop){Q:β->σ->Prop}{b:Nat}(step: ∀i c st,i<b->I i c st->Tm prog w A E J (f i c) (λr st'=>match r with| .done c'=>Q c' st'| .yield c'=>I (i+1) c' st') st)(fin: ∀c st,I b c st->Q c st):
 ∀ (k i:Nat) (c:β) (st:σ),i+k=b->I i c st->Tm prog w A E J (forIn (nW i k) c f) Q st
 |0,i,c,st,e,h=>by
  rw [List.range'_zero,mK];exact .pure (fin c st (by rw [<-e];exact h))
 |k+1,i,c,st,e,h=>by
  rw [dP,bQ];refine .bind ((step i c st (by omega) h).mono λr st' x=> ?_);cases r with
  |done c'=>exact .pure x
  |yield c'=>exact Tm.range' I step fin k (i+1) c' st' (by omega) x
theorem Tm.range {f:Nat->β->StateT σ Sem (ForInStep β)}(I:Nat->β->σ->Prop){Q:β->σ->Prop}{a b:Nat}{c:β}{st:σ}(hab:a<=b)(h:I a c st)(step: ∀i c st,i<b->I i c st->Tm prog w A E J (f i c) (λr st'=>match r with| .done c'=>Q c' st'| .yield c'=>I (i+1) c' st') st)(fin: ∀c st,I b c st->Q c st):
 Tm prog w A E J (forIn [a:b] c f) Q st:=λs j=>by
 rw [Y0];have e:([a:b]:Std.Legacy.Range).size=b-a:=by simp [nP]
 rw [e];exact Tm.range' I step fin (b-a) a c st (by omega) h s j
end
section
variable {prog:S3}{w:N2}{A:M7}{E:G3->G6->Prop}{J:G6->Prop}{κ:SortKind}{U:P8->Prop}{R:P8->P8->Bool}
def Qh (prog:S3)(w:N2)(A:M7)(J:G6->Prop)(κ:SortKind)(U:P8->Prop)(R:P8->P8->Bool):Prop:=
 ∀x y,U x->U y-> ∀s,J s->wpAny (model prog w) A (keyLt' κ x.1 y.1) (λb s'=>b=R x y/\J s') (λ_ _=>False) s
theorem Tm.lt {x y:P8}{st:T9}{Q:Option Bool->T9->Prop}(a:Qh prog w A J κ U R)(k:kindOf st=κ)(hx:U x)(hy:U y)(q:Q (some (R x y)) st):Tm prog w A E J (lt' x y) Q st:=by
 rw [lt'_eq];refine .bind (.get ?_);rw [k];intro s j;rw [StateT.run_bind];refine wpAny_bind ?_;show wpAny _ _ ((StateT.lift _:StateT T9 Sem _).run st) _ _ _;rw [StateT.run_lift];refine wpAny_bind (mW (S6 (a x y hx hy s j) (λb s' x=> ?_) λ_ _ e=>e.elim));obtain⟨rfl,j'⟩:=x;exact P7 (Tm.pure (prog:=prog) (w:=w) (A:=A) (E:=E) (J:=J) q s' j')
theorem Tm.elem {arr:Array P8}{i:Nat}{x:P8}{st:T9}{Q:P8->T9->Prop}(e:arr[i]? =some x)(q:Q x st):Tm prog w A E J (elem' arr i) Q st:=by
 rw [elem'_eq,e];exact .pure q
theorem KC {n lo hi:Nat}{g:Nat->Bool}{st:T9}{f:Nat->Option (Option Nat)×Nat×Nat->StateT T9 Sem (ForInStep (Option (Option Nat)×Nat×Nat))}(anti: ∀i j,i<=j->j<n->g j=true->g i=true)
 (h1:lo<=hi)(h2:hi<=n)(a1: ∀i,i<lo->g i=true)(a2: ∀i,hi<=i->i<n->g i=false)
 (stop: ∀i l,Tm prog w A E J (f i (none,l,l)) (λr st'=>st'=st/\r= .done (none,l,l)) st)
 (step: ∀i l u,l<u->u<=n->Tm prog w A E J (f i (none,l,u)) (λr st'=>st'=st/\r=if g (l+(u-l) / 2)=true then .yield (none,l+(u-l) / 2+1,u) else .yield (none,l,l+(u-l) / 2)) st):
 Tm prog w A E J (forIn [0:n] (none,lo,hi) f) (λc st'=>st'=st/\c.1=none/\c.2.2<=n/\(∀i,i<c.2.2->g i=true)/\ ∀i,c.2.2<=i->i<n->g i=false) st:=by
 have no: ∀i j,i<=j->j<n->g i=false->g j=false:=λi j hij hj z=>by
  cases hb:g j with
  |false=>rfl
  |true=>rw [anti i j hij hj hb] at z;cases z
 refine Tm.range (λi c st'=>st'=st/\c.1=none/\c.2.1<=c.2.2/\c.2.2<=n/\(∀i,i<c.2.1->g i=true)/\(∀i,c.2.2<=i->i<n->g i=false)/\c.2.2-c.2.1+i<=n) (T4 _) ⟨rfl,rfl,h1,h2,a1,a2,by dsimp only;omega⟩ ?_ ?_
 ·rintro i ⟨r,l,u⟩ _ hi ⟨rfl,hr,b1,b2,b3,b4,b5⟩;dsimp only at hr b1 b2 b3 b4 b5;subst hr
  by_cases z:l=u
  ·subst z;refine(stop i l).mono ?_;rintro _ _ ⟨rfl,rfl⟩;exact⟨rfl,rfl,b2,b3,b4⟩
  ·refine(step i l u (by omega) b2).mono ?_;rintro _ _ ⟨rfl,rfl⟩;cases hg:g (l+(u-l) / 2) with
   |true=>
    rw [if_pos rfl];exact⟨rfl,rfl,by dsimp only;omega,b2,λj hj=>anti j _ (by dsimp only at hj;omega) (by omega) hg,b4,by dsimp only;omega⟩
   |false=>
    rw [if_neg (by decide)];exact⟨rfl,rfl,by dsimp only;omega,by dsimp only;omega,b3,λj hj hn=>no _ j hj hn hg,by dsimp only;omega⟩
 ·rintro ⟨r,l,u⟩ _ ⟨rfl,hr,b1,b2,b3,b4,b5⟩;dsimp only at hr b1 b2 b3 b4 b5 ⊢;exact⟨rfl,hr,b2,λj hj=>b3 j (by omega),b4⟩
def gal:Bool->P8->Array P8->Nat->Nat->Nat->StateT T9 Sem (Option Nat):=sortPriv% PySem.Builtin.gallop
def byd (R:P8->P8->Bool)(left:Bool)(key:P8)(arr:Array P8)(base i:Nat):Bool:=
 match arr[base+i]? with
 |some x=>if left=true then R x key else !R key x
 |none=>false
theorem Ck {left:Bool}{key:P8}{arr:Array P8}{base n hint:Nat}{st:T9}{Q:Option Nat->T9->Prop}(a:Qh prog w A J κ U R)(k:kindOf st=κ)(uk:U key)(ua: ∀i,i<n-> ∃x,arr[base+i]? =some x/\U x)
 (anti: ∀i j,i<=j->j<n->byd R left key arr base j=true->byd R left key arr base i=true)(hh:hint<n)
 (q: ∀m,m<=n->(∀i,i<m->byd R left key arr base i=true)->(∀i,m<=i->i<n->byd R left key arr base i=false)->Q (some m) st):Tm prog w A E J (gal left key arr base n hint) Q st:=by
 have ask: ∀i (Q':Option Bool->T9->Prop),i<n->Q' (some (byd R left key arr base i)) st->Tm prog w A E J (do let x <-elem' arr (base+i);if left=true then lt' x key else do let b <-lt' key x;Pure.pure (b.map λz=> !z)) Q' st:=λi Q' hi q'=>by
  obtain⟨x,ex,ux⟩:=ua i hi;refine .bind (.elem ex ?_);unfold byd at q';rw [ex] at q';cases left with
  |true=>exact .lt a k ux uk q'
  |false=>exact .bind (.lt a k uk ux (.pure q'))
 have no: ∀i j,i<=j->j<n->byd R left key arr base i=false->byd R left key arr base j=false:=λi j hij hj z=>by
  cases hb:byd R left key arr base j with
  |false=>rfl
  |true=>rw [anti i j hij hj hb] at z;cases z
 unfold gal;refine .bind (ask hint _ hh ?_);dsimp only;cases hb:byd R left key arr base hint with
 |true=>
  rw [if_pos rfl];refine .bind (Tm.mono (Tm.range (λi c st'=>st'=st/\c.1=none/\c.2.1<c.2.2/\hint+c.2.1<n/\byd R left key arr base (hint+c.2.1)=true/\i+1<=c.2.2)
   (Q:=λc st'=>st'=st/\c.1=none/\c.2.1<c.2.2/\hint+c.2.1<n/\byd R left key arr base (hint+c.2.1)=true/\(n-hint<=c.2.2\/byd R left key arr base (hint+c.2.2)=false)) (T4 _) ⟨rfl,rfl,by decide,by omega,by simpa using hb,by decide⟩ ?_ ?_) ?_)
  ·rintro i ⟨r,lo,of⟩ _ hi ⟨rfl,hr,h1,h2,h3,h4⟩;dsimp only at hr h1 h2 h3 h4 ⊢;subst hr
   by_cases z:of>=n-hint
   ·rw [if_pos z];exact .pure ⟨rfl,rfl,h1,h2,h3,.inl z⟩
   ·rw [if_neg z];refine .bind (ask (hint+of) _ (by omega) ?_);dsimp only;cases hc:byd R left key arr base (hint+of) with
    |true=>exact .pure ⟨rfl,rfl,by dsimp only;omega,by dsimp only;omega,hc,by dsimp only;omega⟩
    |false=>exact .pure ⟨rfl,rfl,h1,h2,h3,.inr hc⟩
  ·rintro ⟨r,lo,of⟩ _ ⟨rfl,hr,h1,h2,h3,h4⟩;exact⟨rfl,hr,h1,h2,h3,.inl (by dsimp only at h4 ⊢;omega)⟩
  ·rintro ⟨r,lo,of⟩ _ ⟨rfl,hr,h1,h2,h3,h4⟩;dsimp only at hr h1 h2 h3 h4 ⊢;subst hr;dsimp only;refine .bind (Tm.mono (KC (g:=byd R left key arr base) anti (by omega) (by omega) (λi hi=>anti i _ (by omega) h2 h3) (λi hi hn=> ?_) (λi l=> ?_) (λi l u hl hu=> ?_)) ?_)
   ·rcases h4 with z|z
    ·omega
    ·exact no (hint+of) i (by omega) hn z
   ·rw [if_pos (P0 l)];exact .pure ⟨rfl,rfl⟩
   ·rw [if_neg (show ¬l>=u by omega)];refine .bind (ask (l+(u-l) / 2) _ (by omega) ?_);dsimp only;cases byd R left key arr base (l+(u-l) / 2)<;>exact .pure ⟨rfl,rfl⟩
   ·rintro ⟨r,l,u⟩ _ ⟨rfl,hr,b2,b3,b4⟩;dsimp only at hr b2 b3 b4 ⊢;subst hr;exact .pure (q u b2 b3 b4)
 |false=>
  rw [if_neg (by decide)];refine .bind (Tm.mono (Tm.range (λi c st'=>st'=st/\c.1=none/\c.2.1<c.2.2/\c.2.1<=hint/\byd R left key arr base (hint-c.2.1)=false/\i+1<=c.2.2)
   (Q:=λc st'=>st'=st/\c.1=none/\c.2.1<c.2.2/\c.2.1<=hint/\byd R left key arr base (hint-c.2.1)=false/\(hint+1<=c.2.2\/byd R left key arr base (hint-c.2.2)=true)) (T4 _) ⟨rfl,rfl,by decide,by dsimp only;omega,by simpa using hb,by decide⟩ ?_ ?_) ?_)
  ·rintro i ⟨r,lo,of⟩ _ hi ⟨rfl,hr,h1,h2,h3,h4⟩;dsimp only at hr h1 h2 h3 h4 ⊢;subst hr
   by_cases z:of>=hint+1
   ·rw [if_pos z];exact .pure ⟨rfl,rfl,h1,h2,h3,.inl z⟩
   ·rw [if_neg z];refine .bind (ask (hint-of) _ (by omega) ?_);dsimp only;cases hc:byd R left key arr base (hint-of) with
    |false=>exact .pure ⟨rfl,rfl,by dsimp only;omega,by dsimp only;omega,hc,by dsimp only;omega⟩
    |true=>exact .pure ⟨rfl,rfl,h1,h2,h3,.inr hc⟩
  ·rintro ⟨r,lo,of⟩ _ ⟨rfl,hr,h1,h2,h3,h4⟩;exact⟨rfl,hr,h1,h2,h3,.inl (by dsimp only at h4 ⊢;omega)⟩
  ·rintro ⟨r,lo,of⟩ _ ⟨rfl,hr,h1,h2,h3,h4⟩;dsimp only at hr h1 h2 h3 h4 ⊢;subst hr;dsimp only;refine .bind (Tm.mono (KC (g:=byd R left key arr base) anti (by omega) (by omega) (λi hi=> ?_) (λi hi hn=>no _ i hi hn h3) (λi l=> ?_) (λi l u hl hu=> ?_)) ?_)
   ·rcases h4 with z|z
    ·omega
    ·exact anti i (hint-of) (by omega) (by omega) z
   ·rw [if_pos (P0 l)];exact .pure ⟨rfl,rfl⟩
   ·rw [if_neg (show ¬l>=u by omega)];refine .bind (ask (l+(u-l) / 2) _ (by omega) ?_);dsimp only;cases byd R left key arr base (l+(u-l) / 2)<;>exact .pure ⟨rfl,rfl⟩
   ·rintro ⟨r,l,u⟩ _ ⟨rfl,hr,b2,b3,b4⟩;dsimp only at hr b2 b3 b4 ⊢;subst hr;exact .pure (q u b2 b3 b4)
end
section
variable {κ:Type}{U:κ->Prop}{R:κ->κ->Bool}{al bl:List κ}
structure Ordd (U:κ->Prop)(R:κ->κ->Bool):Prop where
 asym: ∀x y,U x->U y->R x y=true->R y x=false
 neg: ∀x y z,U x->U y->U z->R x z=true->R x y=true\/R y z=true
theorem Ordd.refl (o:Ordd U R){x:κ}(u:U x):R x x=false:=by
 cases h:R x x with
 |false=>rfl
 |true=>have:=o.asym x x u u h;rw [h] at this;exact this
theorem Ordd.trans (o:Ordd U R){x y z:κ}(ux:U x)(uy:U y)(uz:U z)(a:R y x=false)(b:R z y=false):R z x=false:=by
 cases h:R z x with
 |false=>rfl
 |true=>
  rcases o.neg z y x uz uy ux h with z|z
  ·rw [b] at z;cases z
  ·rw [a] at z;cases z
abbrev Srt (R:κ->κ->Bool)(l:List κ):Prop:=l.Pairwise λx y=>R y x=false
structure MI (R:κ->κ->Bool)(al bl:List κ)(ia ib:Nat)(out:List κ):Prop where
 perm:out.Perm (al.take ia++bl.take ib)
 srt:Srt R out
 ra: ∀x∈out,∀y∈al.drop ia,R y x=false
 rb: ∀x∈out,∀y∈bl.drop ib,R y x=false
theorem zY {l:List κ}{i:Nat}{y:κ}(h:l[i]? =some y):l.drop i=y::l.drop (i+1):=by
 obtain⟨hi,e⟩:=P3.mp h;rw [cX hi,e]
theorem VU {l:List κ}{i:Nat}{y:κ}(h:l[i]? =some y):l.take (i+1)=l.take i++ [y]:=by
 rw [T8,h];rfl
theorem MI.start (al bl:List κ):MI R al bl 0 0 []:=⟨.refl _,.nil,λx hx=>(C8 hx).elim,λx hx=>(C8 hx).elim⟩
variable {ia ib:Nat}
theorem MI.pushB {out:List κ}{y:κ}(m:MI R al bl ia ib out)(o:Ordd U R)(ua: ∀x∈al,U x)(ub: ∀x∈bl,U x)(sa:Srt R al)(sb:Srt R bl)(hy:bl[ib]? =some y)(lt: ∀z,al[ia]? =some z->R y z=true):MI R al bl ia (ib+1) (out++ [y]):=by
 have dy:=zY hy;have uy:=ub y (P4 hy);have sdb:Srt R (bl.drop ib):=sb.sublist (E6 _ _);rw [dy] at sdb;refine⟨?_,?_,λx hx z hz=> ?_,λx hx z hz=> ?_⟩
 ·rw [VU hy,<-P6];exact m.perm.append_right _
 ·refine T0.mpr ⟨m.srt,N8 _ _,λx hx z hz=> ?_⟩;rw [G9.mp hz];exact m.rb x hx y (by rw [dy];exact D0 ..)
 ·rcases D9.mp hx with w|w
  ·exact m.ra x w z hz
  ·rw [G9.mp w];cases e:al[ia]? with
   |none=>rw [B1 (cY.mp e)] at hz;cases hz
   |some a0=>
    have da:=zY e;have ua0:=ua a0 (P4 e);have sda:Srt R (al.drop ia):=sa.sublist (E6 _ _);rw [da] at sda hz;have l0:=o.asym y a0 uy ua0 (lt a0 e);rcases R6.mp hz with v|v
    ·rw [v];exact l0
    ·exact o.trans uy ua0 (ua z (N7 v)) l0 ((W9.mp sda).1 z v)
 ·rcases D9.mp hx with w|w
  ·exact m.rb x w z (by rw [dy];exact D5 _ hz)
  ·rw [G9.mp w];exact(W9.mp sdb).1 z hz
theorem MI.pushA {out:List κ}{y:κ}(m:MI R al bl ia ib out)(o:Ordd U R)(ua: ∀x∈al,U x)(ub: ∀x∈bl,U x)(sa:Srt R al)(sb:Srt R bl)(hy:al[ia]? =some y)(ge: ∀z,bl[ib]? =some z->R z y=false):MI R al bl (ia+1) ib (out++ [y]):=by
 have dy:=zY hy;have uy:=ua y (P4 hy);have sda:Srt R (al.drop ia):=sa.sublist (E6 _ _);rw [dy] at sda;refine⟨?_,?_,λx hx z hz=> ?_,λx hx z hz=> ?_⟩
 ·rw [VU hy];refine(m.perm.append_right [y]).trans ?_;rw [P6,P6];exact(X6).append_left _
 ·refine T0.mpr ⟨m.srt,N8 _ _,λx hx z hz=> ?_⟩;rw [G9.mp hz];exact m.ra x hx y (by rw [dy];exact D0 ..)
 ·rcases D9.mp hx with w|w
  ·exact m.ra x w z (by rw [dy];exact D5 _ hz)
  ·rw [G9.mp w];exact(W9.mp sda).1 z hz
 ·rcases D9.mp hx with w|w
  ·exact m.rb x w z hz
  ·rw [G9.mp w];cases e:bl[ib]? with
   |none=>rw [B1 (cY.mp e)] at hz;cases hz
   |some b0=>
    have db:=zY e;have ub0:=ub b0 (P4 e);have sdb:Srt R (bl.drop ib):=sb.sublist (E6 _ _);rw [db] at sdb hz;have l0:=ge b0 e;rcases R6.mp hz with v|v
    ·rw [v];exact l0
    ·exact o.trans uy ub0 (ub z (N7 v)) l0 ((W9.mp sdb).1 z v)
theorem MI.manyA (o:Ordd U R)(ua: ∀x∈al,U x)(ub: ∀x∈bl,U x)(sa:Srt R al)(sb:Srt R bl): ∀ (k:Nat) {ia:Nat} {out:List κ},MI R al bl ia ib out->ia+k<=al.length->(∀i,i<k-> ∀y,al[ia+i]? =some y-> ∀z,bl[ib]? =some z->R z y=false)->MI R al bl (ia+k) ib (out++(al.drop ia).take k)
 |0,ia,out,m,_,_=>by rw [cS,B7];exact m
 |k+1,ia,out,m,hk,h=>by
  obtain⟨y,hy⟩: ∃y,al[ia]? =some y:=⟨_,G1 (by omega)⟩;have m1:=m.pushA o ua ub sa sb hy (h 0 (by omega) y hy);have:=MI.manyA o ua ub sa sb k m1 (by omega) (λi hi y hy=>h (i+1) (by omega) y (by rw [show ia+(i+1)=ia+1+i by omega];exact hy));rw [show ia+(k+1)=ia+1+k by omega,zY hy,gF,j8];exact this
theorem MI.manyB (o:Ordd U R)(ua: ∀x∈al,U x)(ub: ∀x∈bl,U x)(sa:Srt R al)(sb:Srt R bl): ∀ (k:Nat) {ib:Nat} {out:List κ},MI R al bl ia ib out->ib+k<=bl.length->(∀i,i<k-> ∀y,bl[ib+i]? =some y-> ∀z,al[ia]? =some z->R y z=true)->MI R al bl ia (ib+k) (out++(bl.drop ib).take k)
 |0,ib,out,m,_,_=>by rw [cS,B7];exact m
 |k+1,ib,out,m,hk,h=>by
  obtain⟨y,hy⟩: ∃y,bl[ib]? =some y:=⟨_,G1 (by omega)⟩;have m1:=m.pushB o ua ub sa sb hy (h 0 (by omega) y hy);have:=MI.manyB o ua ub sa sb k m1 (by omega) (λi hi y hy=>h (i+1) (by omega) y (by rw [show ib+(i+1)=ib+1+i by omega];exact hy));rw [show ib+(k+1)=ib+1+k by omega,zY hy,gF,j8];exact this
theorem MI.all {out:List κ}(m:MI R al bl al.length bl.length out):out.Perm (al++bl)/\Srt R out:=by
 have:=m.perm;rw [Y8,Y8] at this;exact⟨this,m.srt⟩
theorem MI.done {out:List κ}(m:MI R al bl ia ib out)(o:Ordd U R)(ua: ∀x∈al,U x)(ub: ∀x∈bl,U x)(sa:Srt R al)(sb:Srt R bl)(ha:ia<=al.length)(hb:ib<=bl.length)(h:ia=al.length\/ib=bl.length):(out++al.drop ia++bl.drop ib).Perm (al++bl)/\Srt R (out++al.drop ia++bl.drop ib):=by
 have m1:=MI.manyA o ua ub sa sb (al.length-ia) m (by omega) (λi hi y hy z hz=>by
  have:=(P3.mp hz).1;omega)
 rw [show ia+(al.length-ia)=al.length by omega,R5 (by rw [S8];exact P0 _)] at m1;have m2:=MI.manyB o ua ub sa sb (bl.length-ib) m1 (by omega) (λi hi y hy z hz=>by
  have:=(P3.mp hz).1;omega)
 rw [show ib+(bl.length-ib)=bl.length by omega,R5 (l:=bl.drop ib) (by rw [S8];exact P0 _)] at m2;exact m2.all
theorem MI.lastA {out:List κ}(m:MI R al bl ia ib out)(o:Ordd U R)(ua: ∀x∈al,U x)(ub: ∀x∈bl,U x)(sa:Srt R al)(sb:Srt R bl)(ha:ia+1=al.length)(hb:ib<=bl.length)(h: ∀y∈bl,∀z,al[al.length-1]? =some z->R y z=true):(out++bl.drop ib++al.drop ia).Perm (al++bl)/\Srt R (out++bl.drop ib++al.drop ia):=by
 have m2:=MI.manyB o ua ub sa sb (bl.length-ib) m (by omega) (λi hi y hy z hz=>h y (P4 hy) z (by rw [<-ha];exact hz));rw [show ib+(bl.length-ib)=bl.length by omega,R5 (by rw [S8];exact P0 _)] at m2;have m1:=MI.manyA o ua ub sa sb (al.length-ia) m2 (by omega) (λi hi y hy z hz=>by
  have:=(P3.mp hz).1;omega)
 rw [show ia+(al.length-ia)=al.length by omega,R5 (l:=al.drop ia) (by rw [S8];exact P0 _)] at m1;exact m1.all
end
section
variable {prog:S3}{w:N2}{A:M7}{E:G3->G6->Prop}{J:G6->Prop}{κ:SortKind}{U:P8->Prop}{R:P8->P8->Bool}
theorem Tm.rule {σ:Type}{x:String}{Q:Unit->σ->Prop}{st:σ}(q:Q () st):Tm prog w A E J (liftM (PySem.rule x):StateT σ Sem Unit) Q st:=λs j=>by
 show wpAny _ _ ((StateT.lift _:StateT σ Sem _).run st) _ _ _;rw [StateT.run_lift];exact wpAny_bind (bD (P7 ⟨q,j⟩))
theorem Tm.modify {σ:Type}{f:σ->σ}{Q:Unit->σ->Prop}{st:σ}(q:Q () (f st)):Tm prog w A E J (_root_.modify f:StateT σ Sem PUnit) Q st:=λs j=>by
 rw [StateT.run_modify];exact P7 ⟨q,j⟩
def mLo:Array P8->Array P8->StateT T9 Sem (Array P8):=sortPriv% PySem.Builtin.mergeLo
def Gal (st st':T9):Prop:=kindOf st'=kindOf st/\arrOf st'=arrOf st/\pendingOf st'=pendingOf st/\failedOf st'=failedOf st
theorem Gal.refl (st:T9):Gal st st:=⟨rfl,rfl,rfl,rfl⟩
theorem Vj (a:Array P8)(i:Nat):(a.extract i).toList=a.toList.drop i:=by
 rw [V0,O4];exact R5 (by simp)
theorem RG (a:Array P8)(i k:Nat):(a.extract i (i+k)).toList=(a.toList.drop i).take k:=by
 rw [V0,O4,dW]
def Zp (R:P8->P8->Bool)(a b c:Array P8):Prop:=c.toList.Perm (a.toList++b.toList)/\Srt R c.toList
structure Two (U:P8->Prop)(R:P8->P8->Bool)(a b:Array P8):Prop where
 o:Ordd U R
 ua: ∀x∈a.toList,U x
 ub: ∀x∈b.toList,U x
 sa:Srt R a.toList
 sb:Srt R b.toList
 last: ∀y∈b.toList,∀z,a.toList[a.toList.length-1]? =some z->R y z=true
abbrev MA (R:P8->P8->Bool)(a b:Array P8)(ia ib:Nat)(out:Array P8):Prop:=MI R a.toList b.toList ia ib out.toList
section
variable {a b out:Array P8}{ia ib:Nat}
theorem MA.done (t:Two U R a b)(m:MA R a b ia ib out)(ha:ia<=a.size)(hb:ib<=b.size)(h:ia=a.size\/ib=b.size):Zp R a b (out++a.extract ia++b.extract ib):=by
 have:=MI.done m t.o t.ua t.ub t.sa t.sb (by simpa using ha) (by simpa using hb) (by simpa using h);unfold Zp;rw [N4,N4,Vj,Vj];exact this
theorem MA.lastA (t:Two U R a b)(m:MA R a b ia ib out)(ha:ia+1=a.size)(hb:ib<=b.size):Zp R a b (out++b.extract ib++a.extract ia):=by
 have:=MI.lastA m t.o t.ua t.ub t.sa t.sb (by simpa using ha) (by simpa using hb) t.last;unfold Zp;rw [N4,N4,Vj,Vj];exact this
theorem MA.pushB (t:Two U R a b){y:P8}(m:MA R a b ia ib out)(hy:b.toList[ib]? =some y)(lt: ∀z,a.toList[ia]? =some z->R y z=true):MA R a b ia (ib+1) (out.push y):=by
 have:=MI.pushB m t.o t.ua t.ub t.sa t.sb hy lt;show MI R _ _ _ _ (out.push y).toList;rw [U4];exact this
theorem MA.pushA (t:Two U R a b){y:P8}(m:MA R a b ia ib out)(hy:a.toList[ia]? =some y)(ge: ∀z,b.toList[ib]? =some z->R z y=false):MA R a b (ia+1) ib (out.push y):=by
 have:=MI.pushA m t.o t.ua t.ub t.sa t.sb hy ge;show MI R _ _ _ _ (out.push y).toList;rw [U4];exact this
theorem MA.manyA (t:Two U R a b)(m:MA R a b ia ib out)(k:Nat)(hk:ia+k<=a.size)(h: ∀i,i<k-> ∀y,a.toList[ia+i]? =some y-> ∀z,b.toList[ib]? =some z->R z y=false):MA R a b (ia+k) ib (out++a.extract ia (ia+k)):=by
 have:=MI.manyA t.o t.ua t.ub t.sa t.sb k m (by simpa using hk) h;show MI R _ _ _ _ (out++a.extract ia (ia+k)).toList;rw [N4,RG];exact this
theorem MA.manyB (t:Two U R a b)(m:MA R a b ia ib out)(k:Nat)(hk:ib+k<=b.size)(h: ∀i,i<k-> ∀y,b.toList[ib+i]? =some y-> ∀z,a.toList[ia]? =some z->R y z=true):MA R a b ia (ib+k) (out++b.extract ib (ib+k)):=by
 have:=MI.manyB t.o t.ua t.ub t.sa t.sb k m (by simpa using hk) h;show MI R _ _ _ _ (out++b.extract ib (ib+k)).toList;rw [N4,RG];exact this
end
variable {arr:Array P8}{base:Nat}
theorem Je {left:Bool}{key x:P8}{i:Nat}(h:arr.toList[base+i]? =some x):byd R left key arr base i=if left=true then R x key else !R key x:=by
 unfold byd;rw [<-N9,h]
theorem VV {l:List P8}(s:Srt R l)(o:Ordd U R)(u: ∀x∈l,U x){i j:Nat}{x y:P8}(hij:i<=j)(hx:l[i]? =some x)(hy:l[j]? =some y):R y x=false:=by
 by_cases z:i=j
 ·subst z;rw [hx] at hy;injection hy with hy;subst hy
  exact o.refl (u x (P4 hx))
 ·obtain⟨h1,e1⟩:=P3.mp hx;obtain⟨h2,e2⟩:=P3.mp hy;have:=O6.mp s i j h1 h2 (by omega);rw [e1,e2] at this;exact this
theorem VW {i:Nat}(h:i<arr.size): ∃x,arr.toList[i]? =some x/\arr[i]? =some x:=⟨arr[i],by simp [h],by simp [h]⟩
theorem qw {y:P8}{n hint:Nat}{st:T9}{Q:Option Nat->T9->Prop}(ak:Qh prog w A J κ U R)(kd:kindOf st=κ)(o:Ordd U R)(u: ∀x∈arr.toList,U x)(s:Srt R arr.toList)(uy:U y)(hn:base+n<=arr.size)(hh:hint<n)
 (q: ∀k,k<=n->(∀i,i<k-> ∀x,arr.toList[base+i]? =some x->R y x=false)->(∀i,k<=i->i<n-> ∀x,arr.toList[base+i]? =some x->R y x=true)->Q (some k) st):Tm prog w A E J (gal false y arr base n hint) Q st:=by
 refine Ck ak kd uy (λi hi=> ?_) (λi j hij hj h=> ?_) hh (λk k1 k2 k3=>q k k1 (λi hi x hx=> ?_) (λi h1 h2 x hx=> ?_))
 ·obtain⟨x,lx,ex⟩:=VW (show base+i<arr.size by omega);exact⟨x,ex,u x (P4 lx)⟩
 ·obtain⟨x,lx,_⟩:=VW (show base+i<arr.size by omega);obtain⟨z,lz,_⟩:=VW (show base+j<arr.size by omega);rw [Je lz] at h;rw [Je lx];have hz:R y z=false:=by simpa using h
  have:=o.trans (u x (P4 lx)) (u z (P4 lz)) uy (VV s o u (by omega) lx lz) hz;simp [this]
 ·have:=k2 i hi;rw [Je hx] at this;simpa using this
 ·have:=k3 i h1 h2;rw [Je hx] at this;simpa using this
theorem qx {y:P8}{n hint:Nat}{st:T9}{Q:Option Nat->T9->Prop}(ak:Qh prog w A J κ U R)(kd:kindOf st=κ)(o:Ordd U R)(u: ∀x∈arr.toList,U x)(s:Srt R arr.toList)(uy:U y)(hn:base+n<=arr.size)(hh:hint<n)
 (q: ∀k,k<=n->(∀i,i<k-> ∀x,arr.toList[base+i]? =some x->R x y=true)->(∀i,k<=i->i<n-> ∀x,arr.toList[base+i]? =some x->R x y=false)->Q (some k) st):Tm prog w A E J (gal true y arr base n hint) Q st:=by
 refine Ck ak kd uy (λi hi=> ?_) (λi j hij hj h=> ?_) hh (λk k1 k2 k3=>q k k1 (λi hi x hx=> ?_) (λi h1 h2 x hx=> ?_))
 ·obtain⟨x,lx,ex⟩:=VW (show base+i<arr.size by omega);exact⟨x,ex,u x (P4 lx)⟩
 ·obtain⟨x,lx,_⟩:=VW (show base+i<arr.size by omega);obtain⟨z,lz,_⟩:=VW (show base+j<arr.size by omega);rw [Je lz] at h;rw [Je lx];have hz:R z y=true:=by simpa using h
  rcases o.neg z x y (u z (P4 lz)) (u x (P4 lx)) uy hz with v|v
  ·rw [VV s o u (by omega) lx lz] at v;cases v
  ·simp [v]
 ·have:=k2 i hi;rw [Je hx] at this;simpa using this
 ·have:=k3 i h1 h2;rw [Je hx] at this;simpa using this
section
variable {σ α β γ:Type}{c:Prop}[Decidable c]{t e:StateT σ Sem α}{Q:α->σ->Prop}{st:σ}{x y:β}{z:γ}
theorem Tm.if2 (T:c->Tm prog w A E J t Q st)(F: ¬c->Tm prog w A E J e Q st):Tm prog w A E J (if c then t else e) Q st:=by
 split
 ·exact T ‹_›
 ·exact F ‹_›
theorem Tm.eq2 {x y:Nat}(T:x=y->Tm prog w A E J t Q st)(F: ¬x=y->Tm prog w A E J e Q st):Tm prog w A E J (if (x==y)=true then t else e) Q st:=
 .if2 (λh=>T (eq_of_beq h)) λh=>F λg=>h (beq_iff_eq.mpr g)
theorem Tm.both {f:β->StateT σ Sem α}(he:e=f y)(ht:t=f x)(H: ∀m,Tm prog w A E J (f m) Q st):Tm prog w A E J (if c then t else e) Q st:=by
 subst he ht;exact .if2 (λ_=>H _) λ_=>H _
theorem Tm.join {f:β->γ->StateT σ Sem α}{I:β->γ->Prop}(he:e=f x z)(G: ∀m o,I m o->Tm prog w A E J (f m o) Q st)(T:c->(∀m o,I m o->Tm prog w A E J (f m o) Q st)->Tm prog w A E J t Q st)(F: ¬c->I x z):Tm prog w A E J (if c then t else e) Q st:=by
 subst he;exact .if2 (λh=>T h G) λh=>G _ _ (F h)
end
theorem ko {A B C D F:Type}{P:A×B×C×D×F->Prop}(h: ∀a b c d f,P (a,b,c,d,f)): ∀c,P c:=λc=>h c.1 c.2.1 c.2.2.1 c.2.2.2.1 c.2.2.2.2
theorem kq {A B C D F G:Type}{P:A×B×C×D×F×G->Prop}(h: ∀a b c d f g,P (a,b,c,d,f,g)): ∀c,P c:=λc=>h c.1 c.2.1 c.2.2.1 c.2.2.2.1 c.2.2.2.2.1 c.2.2.2.2.2
theorem kr {A B C D F G H:Type}{P:A×B×C×D×F×G×H->Prop}(h: ∀a b c d f g k,P (a,b,c,d,f,g,k)): ∀c,P c:=λc=>h c.1 c.2.1 c.2.2.1 c.2.2.2.1 c.2.2.2.2.1 c.2.2.2.2.2.1 c.2.2.2.2.2.2
theorem vo {a:Array P8}(u: ∀x∈a.toList,U x){i:Nat}(h:i<a.size){P:Prop}(q: ∀y,a[i]? =some y->a.toList[i]? =some y->U y->P):P:=q a[i] (by simp [h]) (by simp [h]) (u _ (by simp))
structure LoI (R:P8->P8->Bool)(a b:Array P8)(st st':T9)(n:Nat)(out:Array P8)(ia ib:Nat):Prop where
 g:Gal st st'
 m:MA R a b ia ib out
 a:ia+1<a.size
 b:ib<b.size
 n:n<=ia+ib
def LoO (R:P8->P8->Bool)(a b:Array P8)(st st':T9)(n:Nat)(r:Option (Array P8))(out:Array P8)(ia ib:Nat):Prop:=Gal st st'/\match r with|some c=>Zp R a b c|none=>LoI R a b st st' n out ia ib
section
variable {a b out:Array P8}{st st':T9}{n k ia ib:Nat}
theorem LoI.more (h:LoI R a b st st' n out ia ib)(l:k<=n):LoI R a b st st' k out ia ib:=⟨h.g,h.m,h.a,h.b,R9 l h.n⟩
theorem LoI.here (h:LoI R a b st st' n out ia ib):LoI R a b st st' (ia+ib) out ia ib:=⟨h.g,h.m,h.a,h.b,P0 _⟩
theorem LoI.at {s:T9}(h:LoI R a b st st' n out ia ib)(g:Gal st s)(l:k<=n):LoI R a b st s k out ia ib:=⟨g,h.m,h.a,h.b,R9 l h.n⟩
theorem LoI.never {P:Prop}(h:LoI R a b st st' n out ia ib)(l:a.size+b.size<=n):P:=absurd (R9 l h.n) (Nat.not_le_of_lt (Nat.add_lt_add (E7 h.a) h.b))
end
theorem KF {a b:Array P8}{st:T9}{Q:Array P8->T9->Prop}(ak:Qh prog w A J κ U R)(kd:kindOf st=κ)(t:Two U R a b)
 (na:1<=a.size)(nb:1<=b.size)(first: ∀y z,b.toList[0]? =some y->a.toList[0]? =some z->R y z=true)
 (q: ∀c st',Gal st st'->Zp R a b c->Q c st'):Tm prog w A E J (mLo a b) Q st:=by
 refine .bind (.rule (.bind (vo t.ub nb λb0 eb0 lb0 ub0=> .elem eb0 ?_)));have m0:MA R a b 0 1 #[b0]:=MA.pushB t (out:= #[]) (MI.start _ _) lb0 (λz hz=>first _ z lb0 hz);refine .eq2 (x:=1) (y:=b.size) (λz1=> .pure (q _ _ (Gal.refl st) (MA.done t m0 (T4 _) nb (.inr z1)))) λz1=> .eq2 (x:=0+1) (y:=a.size) (λz2=> .pure (q _ _ (Gal.refl st) (MA.lastA t m0 z2 nb))) λz2=> .bind (.get ?_)
 refine .bind (Tm.mono (Tm.range (λi c st'=>LoI R a b st st' (i+1) c.2.1 c.2.2.1 c.2.2.2.1)
  (Q:=λc st'=> ∃r,c.1=some r/\Gal st st'/\Zp R a b r) (T4 _) ⟨Gal.refl st,m0,C1 na z2,C1 nb z1,P0 _⟩ ?_ ?_) ?_)
 ·intro i c st1 hi;revert c;refine ko λr out ia ib mg h=> ?_
  refine .bind (Tm.mono (Tm.range (λj c st'=>LoI R a b st st' (ia+ib+j) c.2.1 c.2.2.1 c.2.2.2.1)
   (Q:=λc st'=>LoO R a b st st' (ia+ib+1) c.1 c.2.1 c.2.2.1 c.2.2.2.1) (T4 _) h.here ?_ ?_) ?_)
  ·intro j c st2 hj;revert c;refine kq λr out ja jb ac bc h=> ?_
   refine .bind (vo t.ub h.b λy ey ly uy=> .elem ey (.bind (vo t.ua (E7 h.a) λx ex lx ux=> .elem ex (.bind (.lt ak (h.g.1.trans kd) uy ux (.if2 (c:=R y x=true) (λhb=> .bind (.elem ey ?_)) λhb=> .bind (.elem ex ?_)))))))
   ·have m1:=MA.pushB t h.m ly (λz hz=>by rw [lx] at hz;injection hz with hz;rw [<-hz];exact hb);refine .eq2 (x:=jb+1) (y:=b.size) (λc1=> .pure ⟨h.g,MA.done t m1 (R1 (E7 h.a)) h.b (.inr c1)⟩) λc1=> ?_
    have d:LoI R a b st st2 (ia+ib+(j+1)) (out.push y) ja (jb+1):=⟨h.g,m1,h.a,C1 (bA h.b) c1,bE h.n⟩;exact .if2 (λ_=> .pure ⟨h.g,d.more (Z7 (X4 _ _) _)⟩) λ_=> .pure d
   ·have m1:=MA.pushA t h.m lx (λz hz=>by rw [ly] at hz;injection hz with hz;rw [<-hz];exact X8.mpr hb);refine .eq2 (x:=ja+1+1) (y:=a.size) (λc1=> .pure ⟨h.g,MA.lastA t m1 c1 (R1 h.b)⟩) λc1=> ?_
    have d:LoI R a b st st2 (ia+ib+(j+1)) (out.push x) (ja+1) jb:=⟨h.g,m1,C1 (bA h.a) c1,h.b,R9 (bE h.n) (K4 (Nat.succ_add _ _).symm)⟩;exact .if2 (λ_=> .pure ⟨h.g,d.more (Z7 (X4 _ _) _)⟩) λ_=> .pure d
  ·exact λc st2 h=>h.never (X4 _ _)
  ·intro c st2;revert c;refine kq λr out ja jb ac bc h'=> ?_
   cases r with
   |some r=>exact .pure ⟨r,rfl,h'⟩
   |none=>
   replace h':=h'.2
   refine .bind (.rule (.bind (Tm.mono (Tm.range (λj c st'=>LoI R a b st st' (ja+jb+j) c.2.1 c.2.2.1 c.2.2.2.1)
    (Q:=λc st'=>LoO R a b st st' (ja+jb) c.1 c.2.1 c.2.2.1 c.2.2.2.1) (T4 _) h'.here ?_ ?_) ?_)))
   ·clear h;intro j c st2 hj;revert c;refine kr λr out pa pb mg ac bc h=> ?_
    refine vo t.ub h.b λy ey ly uy=> ?_
    have g2:0<a.size-pa:=iN (E7 h.a);have g1:pa+(a.size-pa)<=a.size:=K4 (bZ (R1 (E7 h.a)));refine Tm.both (y:=mg) (x:=mg-1) (by rfl) (by rfl) λmg=> ?_
    refine .bind (Tm.modify (.bind (.elem ey (.bind (qw (base:=pa) (n:=a.size-pa) ak (h.g.1.trans kd) t.o t.ua t.sa uy g1 g2 λk k1 k2 k3=> ?_)))));refine Tm.join (I:=λo ia=>MA R a b ia pb o/\ia+1<a.size/\pa<=ia/\ ∀x,a.toList[ia]? =some x->R y x=true) (x:=out) (z:=pa) (by rfl) ?_ ?_ ?_
    ·refine λo qa i1=> ?_
     have M2:=MA.pushB t i1.1 ly i1.2.2.2;have p1:=E7 i1.2.1;refine .bind (.elem ey (.eq2 (x:=pb+1) (y:=b.size) (λc3=> .pure ⟨h.g,MA.done t M2 (R1 p1) (K4 c3) (.inr c3)⟩) λc3=> ?_));have c8:pb+1<b.size:=C1 (bA h.b) c3;have g2:=iN c8;refine .bind (vo t.ua p1 λx ex lx ux=> .elem ex (.bind (qx (base:=pb+1) (n:=b.size-(pb+1)) ak (h.g.1.trans kd) t.o t.ub t.sb ux (K4 (bZ (R1 c8))) g2 λk' q1 q2 q3=> ?_)));dsimp only;generalize ep:pb+1=p2 at M2 q1 q2 q3 c8 g2 ⊢;generalize eo:o.push y=o2 at M2 ⊢;refine Tm.join (I:=λo ib=>MA R a b qa ib o/\ib<b.size/\p2<=ib/\ ∀x',b.toList[ib]? =some x'->R x' x=false) (x:=o2) (z:=p2) (by rfl) ?_ ?_ ?_
     ·refine λo qb i2=> ?_
      have M4:=MA.pushA t i2.1 lx i2.2.2.2;refine .bind (.elem ex (.eq2 (x:=qa+1+1) (y:=a.size) (λc5=> .pure ⟨h.g,MA.lastA t M4 c5 (R1 i2.2.1)⟩) λc5=> ?_));have n1:ja+jb+j<=pa+pb:=h.n;have n2:ja+jb+(j+1)<=qa+1+qb:=by have:=i1.2.2.1;have:=i2.2.2.1;omega
      have d:LoI R a b st st2 (ja+jb+(j+1)) (o.push x) (qa+1) qb:=⟨h.g,M4,C1 (bA i1.2.1) c5,i2.2.1,n2⟩;exact .if2 (λ_=> .pure ⟨h.g,d.at h.g (Y9 _ _)⟩) λ_=> .pure (d.at h.g (P0 _))
     ·intro kz' H;have g3:p2+k'<=b.size:=R9 (Z7 q1 _) (K4 (bZ (R1 c8)));have M3:=MA.manyB t M2 k' g3 (λi hi y' hy z hz=>by rw [lx] at hz;injection hz with hz;rw [<-hz];exact q2 i hi y' hy);exact .eq2 (x:=p2+k') (y:=b.size) (λc4=> .pure ⟨h.g,MA.done t M3 (R1 p1) g3 (.inr c4)⟩) λc4=>H _ _ ⟨M3,C1 g3 c4,Y9 _ _,λz hz=>q3 k' (P0 _) (by omega) z hz⟩
     ·exact λkz'=>⟨M2,c8,P0 _,λz hz=>q3 0 (Y7 kz') g2 z hz⟩
    ·intro kz H;have g3:pa+k<=a.size:=R9 (Z7 k1 _) g1;have m1:=MA.manyA t h.m k g3 (λi hi x hx z hz=>by rw [ly] at hz;injection hz with hz;rw [<-hz];exact k2 i hi x hx);exact .eq2 (x:=pa+k+1) (y:=a.size) (λc1=> .pure ⟨h.g,MA.lastA t m1 c1 (R1 h.b)⟩) λc1=> .eq2 (x:=pa+k) (y:=a.size) (λc2=> .pure ⟨h.g,MA.done t m1 g3 (R1 h.b) (.inl c2)⟩) λc2=>H _ _ ⟨m1,C1 (C1 g3 c2) c1,Y9 _ _,λx hx=>k3 k (P0 _) (by omega) x hx⟩
    ·exact λkz=>⟨h.m,h.a,P0 _,λx hx=>k3 0 (Y7 kz) g2 x hx⟩
   ·exact λc st3 h=>h.never (X4 _ _)
   ·intro c st3;revert c;refine kr λr out pa pb mg ac bc h3=> ?_
    cases r with
    |some r=>exact .pure ⟨r,rfl,h3⟩
    |none=>exact .bind (Tm.modify (.pure (h3.2.at h3.1 (R9 (bE h.n) h'.n))))
 ·exact λc st1 h=>h.never (Y9 _ _)
 ·intro c st1;revert c;refine ko λr out ia ib mg h=> ?_
  obtain⟨c,rfl,gl,wh⟩:=h;exact .pure (q c st1 gl wh)
end
section
variable {prog:S3}{w:N2}{A:M7}{E:G3->G6->Prop}{J:G6->Prop}{κ:SortKind}{U:P8->Prop}{R:P8->P8->Bool}
abbrev Flp (R:P8->P8->Bool):P8->P8->Bool:=λx y=>R y x
theorem Ordd.flip (o:Ordd U R):Ordd U (Flp R):=⟨λx y ux uy h=>o.asym y x uy ux h,λx y z ux uy uz h=>(o.neg z y x uz uy ux h).symm⟩
variable {l:List P8}
theorem we (s:Srt R l):Srt (Flp R) l.reverse:=bB.mpr s
theorem RH (s:Srt (Flp R) l):Srt R l.reverse:=bB.mpr s
variable {n:Nat}
theorem Cl (h1:1<=n)(hn:n<=l.length):l.reverse[l.length-n]? =l[n-1]? :=by
 rw [J1 (by omega)]
 congr 1;omega
theorem yA {z:P8}(hn:n<=l.length)(h:l.reverse[l.length-n]? =some z):1<=n/\l[n-1]? =some z:=by
 have:=(P3.mp h).1;rw [S2] at this;have n1:1<=n:=by omega
 exact⟨n1,by rw [<-Cl n1 hn];exact h⟩
theorem Ws (l:List P8){n:Nat}(hn:n<=l.length):l.reverse.drop (l.length-n)=(l.take n).reverse:=by
 rw [List.drop_reverse]
 congr 2;omega
def MH (R:P8->P8->Bool)(a b:Array P8)(na nb:Nat)(out:Array P8):Prop:=MI (Flp R) b.toList.reverse a.toList.reverse (b.toList.length-nb) (a.toList.length-na) out.toList
structure TwoH (U:P8->Prop)(R:P8->P8->Bool)(a b:Array P8):Prop where
 o:Ordd U R
 ua: ∀x∈a.toList,U x
 ub: ∀x∈b.toList,U x
 sa:Srt R a.toList
 sb:Srt R b.toList
 first: ∀z∈a.toList,∀y,b.toList[0]? =some y->R y z=true
section
variable {a b out:Array P8}{na nb:Nat}
theorem TwoH.fa (t:TwoH U R a b): ∀x∈a.toList.reverse,U x:=λx hx=>t.ua x (O3.mp hx)
theorem TwoH.fb (t:TwoH U R a b): ∀x∈b.toList.reverse,U x:=λx hx=>t.ub x (O3.mp hx)
theorem MH.start (a b:Array P8):MH R a b a.toList.length b.toList.length #[]:=by
 unfold MH;rw [cE,cE];exact MI.start _ _
theorem MH.pushA (t:TwoH U R a b){y:P8}(m:MH R a b na nb out)(h1:1<=na)(hn:na<=a.toList.length)(hb:nb<=b.toList.length)(hy:a.toList[na-1]? =some y)(lt: ∀z,1<=nb->b.toList[nb-1]? =some z->R z y=true):MH R a b (na-1) nb (out.push y):=by
 have:=MI.pushB m t.o.flip t.fb t.fa (we t.sb) (we t.sa) (by rw [Cl h1 hn];exact hy) (λz hz=>lt z (yA hb hz).1 (yA hb hz).2);unfold MH;rw [U4,show a.toList.length-(na-1)=a.toList.length-na+1 by omega];exact this
theorem MH.pushB (t:TwoH U R a b){y:P8}(m:MH R a b na nb out)(h1:1<=nb)(hn:nb<=b.toList.length)(ha:na<=a.toList.length)(hy:b.toList[nb-1]? =some y)(ge: ∀z,1<=na->a.toList[na-1]? =some z->R y z=false):MH R a b na (nb-1) (out.push y):=by
 have:=MI.pushA m t.o.flip t.fb t.fa (we t.sb) (we t.sa) (by rw [Cl h1 hn];exact hy) (λz hz=>ge z (yA ha hz).1 (yA ha hz).2);unfold MH;rw [U4,show b.toList.length-(nb-1)=b.toList.length-nb+1 by omega];exact this
theorem Wt (a:Array P8)(n:Nat):(a.extract 0 n).toList=a.toList.take n:=by
 rw [V0,O4,aY,iK]
theorem MH.done (t:TwoH U R a b)(m:MH R a b na nb out)(ha:na<=a.toList.length)(hb:nb<=b.toList.length)(h:na=0\/nb=0):Zp R a b (a.extract 0 na++b.extract 0 nb++out.reverse):=by
 have:=MI.done m t.o.flip t.fb t.fa (we t.sb) (we t.sa) (by rw [S2];omega) (by rw [S2];omega) (by rw [S2,S2];omega);rw [Ws _ ha,Ws _ hb] at this;have e:(a.extract 0 na++b.extract 0 nb++out.reverse).toList=(out.toList++(b.toList.take nb).reverse++(a.toList.take na).reverse).reverse:=by
  rw [N4,N4,Wt,Wt,bL];simp [P6]
 unfold Zp;rw [e];refine⟨(E8 _).trans (this.1.trans ?_),RH this.2⟩;exact(j9 (E8 _) (E8 _)).trans X6
theorem MH.firstB (t:TwoH U R a b)(m:MH R a b na nb out)(ha:na<=a.toList.length)(hb:nb=1)(hb':1<=b.toList.length):Zp R a b (b.extract 0 nb++a.extract 0 na++out.reverse):=by
 subst hb;have:=MI.lastA m t.o.flip t.fb t.fa (we t.sb) (we t.sa) (by rw [S2];omega) (by rw [S2];omega) (λz hz y hy=>by
  rw [S2] at hy;have:=(yA hb' hy).2;exact t.first z (O3.mp hz) y (by simpa using this))
 rw [Ws _ ha,Ws _ hb'] at this;have e:(b.extract 0 1++a.extract 0 na++out.reverse).toList=(out.toList++(a.toList.take na).reverse++(b.toList.take 1).reverse).reverse:=by
  rw [N4,N4,Wt,Wt,bL];simp [P6]
 unfold Zp;rw [e];refine⟨(E8 _).trans (this.1.trans ?_),RH this.2⟩;exact(j9 (E8 _) (E8 _)).trans X6
theorem RI (l:List P8){p n:Nat}(h1:p<=n)(hn:n<=l.length):(l.reverse.drop (l.length-n)).take (n-p)=((l.drop p).take (n-p)).reverse:=by
 rw [Ws l hn,List.take_reverse,R7,fZ,Q6 hn,show n-(n-p)=p by omega]
theorem Cm (a:Array P8){p n:Nat}(h:p<=n):(a.extract p n).reverse.toList=((a.toList.drop p).take (n-p)).reverse:=by
 rw [bL,V0,O4]
theorem MH.manyA (t:TwoH U R a b)(m:MH R a b na nb out)(p:Nat)(hp:p<=na)(hn:na<=a.toList.length)(hb:nb<=b.toList.length)(h: ∀i,p<=i->i<na-> ∀y,a.toList[i]? =some y-> ∀z,1<=nb->b.toList[nb-1]? =some z->R z y=true):MH R a b p nb (out++(a.extract p na).reverse):=by
 have:=MI.manyB t.o.flip t.fb t.fa (we t.sb) (we t.sa) (na-p) m (by rw [S2];omega) (λi hi y hy z hz=>by
  rw [J1 (by omega)] at hy;exact h _ (by omega) (by omega) y hy z (yA hb hz).1 (yA hb hz).2)
 rw [RI _ hp hn] at this;unfold MH;rw [N4,Cm _ hp,show a.toList.length-p=a.toList.length-na+(na-p) by omega];exact this
theorem MH.manyB (t:TwoH U R a b)(m:MH R a b na nb out)(p:Nat)(hp:p<=nb)(hn:nb<=b.toList.length)(ha:na<=a.toList.length)(h: ∀i,p<=i->i<nb-> ∀y,b.toList[i]? =some y-> ∀z,1<=na->a.toList[na-1]? =some z->R y z=false):MH R a b na p (out++(b.extract p nb).reverse):=by
 have:=MI.manyA t.o.flip t.fb t.fa (we t.sb) (we t.sa) (nb-p) m (by rw [S2];omega) (λi hi y hy z hz=>by
  rw [J1 (by omega)] at hy;exact h _ (by omega) (by omega) y hy z (yA ha hz).1 (yA ha hz).2)
 rw [RI _ hp hn] at this;unfold MH;rw [N4,Cm _ hp,show b.toList.length-p=b.toList.length-nb+(nb-p) by omega];exact this
end
def mHi:Array P8->Array P8->StateT T9 Sem (Array P8):=sortPriv% PySem.Builtin.mergeHi
section
variable {arr:Array P8}{y:P8}{n hint:Nat}{st:T9}{Q:Option Nat->T9->Prop}
theorem xh (ak:Qh prog w A J κ U R)(kd:kindOf st=κ)(o:Ordd U R)(u: ∀x∈arr.toList,U x)(s:Srt R arr.toList)(uy:U y)(hn:n<=arr.size)(hh:hint<n)
 (q: ∀k,k<=n->(∀i,i<k-> ∀x,arr.toList[i]? =some x->R y x=false)->(∀i,k<=i->i<n-> ∀x,arr.toList[i]? =some x->R y x=true)->Q (some k) st):Tm prog w A E J (gal false y arr 0 n hint) Q st:=
 qw ak kd o u s uy (by rw [A7];exact hn) hh λk h k2 k3=>q k h (λi hi x hx=>k2 i hi x (by rw [A7];exact hx)) λi hi hj x hx=>k3 i hi hj x (by rw [A7];exact hx)
theorem xi (ak:Qh prog w A J κ U R)(kd:kindOf st=κ)(o:Ordd U R)(u: ∀x∈arr.toList,U x)(s:Srt R arr.toList)(uy:U y)(hn:n<=arr.size)(hh:hint<n)
 (q: ∀k,k<=n->(∀i,i<k-> ∀x,arr.toList[i]? =some x->R x y=true)->(∀i,k<=i->i<n-> ∀x,arr.toList[i]? =some x->R x y=false)->Q (some k) st):Tm prog w A E J (gal true y arr 0 n hint) Q st:=
 qx ak kd o u s uy (by rw [A7];exact hn) hh λk h k2 k3=>q k h (λi hi x hx=>k2 i hi x (by rw [A7];exact hx)) λi hi hj x hx=>k3 i hi hj x (by rw [A7];exact hx)
end
structure HiI (R:P8->P8->Bool)(a b:Array P8)(st st':T9)(n N na nb:Nat)(out:Array P8):Prop where
 g:Gal st st'
 m:MH R a b na nb out
 a':na<=a.size
 b':nb<=b.size
 a:1<=na
 b:2<=nb
 n:n+na+nb<=N
def HiO (R:P8->P8->Bool)(a b:Array P8)(st st':T9)(n N:Nat)(r:Option (Array P8))(na nb:Nat)(out:Array P8):Prop:=Gal st st'/\match r with|some c=>Zp R a b c|none=>HiI R a b st st' n N na nb out
section
variable {a b out:Array P8}{st st' s:T9}{n N k M na nb:Nat}
theorem HiI.at (h:HiI R a b st st' n N na nb out)(g:Gal st s)(l:n+na+nb<=N->k+na+nb<=M):HiI R a b st s k M na nb out:=⟨g,h.m,h.a',h.b',h.a,h.b,l h.n⟩
theorem HiI.here (h:HiI R a b st st' n N na nb out):HiI R a b st st' 0 (na+nb) na nb out:=h.at h.g λ_=>by omega
theorem HiI.never {P:Prop}(h:HiI R a b st st' n N na nb out)(l:N<=n):P:=by have:=h.n;have:=h.a;omega
theorem HiI.le (h:HiI R a b st st' n N na nb out):na+nb<=a.size+b.size:=mM h.a' h.b'
theorem HiI.a1 (h:HiI R a b st st' n N na nb out):na-1<a.size:=T1 (aL h.a Y3) h.a'
theorem HiI.b1 (h:HiI R a b st st' n N na nb out):nb-1<b.size:=T1 (aL (E7 h.b) Y3) h.b'
end
theorem Ap (h:2<=n)(c: ¬n-1=1):2<=n-1:=by omega
theorem Cn (c: ¬n-1=0):1<=n-1:=aM c
theorem KG {a b:Array P8}{st:T9}{Q:Array P8->T9->Prop}(ak:Qh prog w A J κ U R)(kd:kindOf st=κ)(t:TwoH U R a b)
 (na:1<=a.size)(nb:1<=b.size)(last: ∀y z,b.toList[b.size-1]? =some y->a.toList[a.size-1]? =some z->R y z=true)
 (q: ∀c st',Gal st st'->Zp R a b c->Q c st'):Tm prog w A E J (mHi a b) Q st:=by
 refine .bind (.rule (.bind (vo t.ua (aL na Y3) λa0 ea0 la0 ua0=> .elem ea0 ?_)));have m0:MH R a b (a.size-1) b.size #[a0]:=MH.pushA t (MH.start (R:=R) a b) na (P0 _) (P0 _) la0 (λz _ hz=>last z a0 hz la0);have n1:a.size-1<=a.size:=oJ _ _;refine .eq2 (x:=a.size-1) (y:=0) (λz1=> .pure (q _ _ (Gal.refl st) (MH.done t m0 n1 (P0 _) (.inl z1)))) λz1=> .eq2 (x:=b.size) (y:=1) (λz2=> .pure (q _ _ (Gal.refl st) (MH.firstB t m0 n1 z2 nb))) λz2=> .bind (.get ?_)
 refine .bind (Tm.mono (Tm.range (λi c st'=>HiI R a b st st' (i+1) (a.size+b.size) c.2.1 c.2.2.1 c.2.2.2.1)
  (Q:=λc st'=> ∃r,c.1=some r/\Gal st st'/\Zp R a b r) (T4 _) ⟨Gal.refl st,m0,n1,P0 _,Cn z1,by dsimp only;omega,by dsimp only;omega⟩ ?_ ?_) ?_)
 ·intro i c st1 hi;revert c;refine ko λr ia ib out mg h=> ?_
  refine .bind (Tm.mono (Tm.range (λj c st'=>HiI R a b st st' j (ia+ib) c.2.1 c.2.2.1 c.2.2.2.1)
   (Q:=λc st'=>HiO R a b st st' 1 (ia+ib) c.1 c.2.1 c.2.2.1 c.2.2.2.1) (T4 _) h.here ?_ ?_) ?_)
  ·intro j c st2 hj;revert c;refine kq λr ja jb out ac bc h=> ?_
   refine .bind (vo t.ub h.b1 λy ey ly uy=> .elem ey (.bind (vo t.ua h.a1 λx ex lx ux=> .elem ex (.bind (.lt ak (h.g.1.trans kd) uy ux (.if2 (c:=R y x=true) (λhb=> .bind (.elem ex ?_)) λhb=> .bind (.elem ey ?_)))))))
   ·have m1:=MH.pushA t h.m h.a h.a' h.b' lx (λz _ hz=>by rw [ly] at hz;injection hz with hz;rw [<-hz];exact hb);refine .eq2 (x:=ja-1) (y:=0) (λc1=> .pure ⟨h.g,MH.done t m1 (R1 h.a1) h.b' (.inl c1)⟩) λc1=> ?_
    have d:HiI R a b st st2 (j+1) (ia+ib) (ja-1) jb (out.push x):=⟨h.g,m1,R1 h.a1,h.b',Cn c1,h.b,by have:j+ja+jb<=ia+ib:=h.n;have:1<=ja:=h.a;have:2<=jb:=h.b;omega⟩;exact .if2 (λ_=> .pure ⟨h.g,d.at h.g λ_=>by omega⟩) λ_=> .pure d
   ·have m1:=MH.pushB t h.m (R1 h.b) h.b' h.a' ly (λz _ hz=>by rw [lx] at hz;injection hz with hz;rw [<-hz];exact X8.mpr hb);refine .eq2 (x:=jb-1) (y:=1) (λc1=> .pure ⟨h.g,MH.firstB t m1 h.a' c1 nb⟩) λc1=> ?_
    have d:HiI R a b st st2 (j+1) (ia+ib) ja (jb-1) (out.push y):=⟨h.g,m1,h.a',R1 h.b1,h.a,Ap h.b c1,by have:j+ja+jb<=ia+ib:=h.n;have:1<=ja:=h.a;have:2<=jb:=h.b;omega⟩;exact .if2 (λ_=> .pure ⟨h.g,d.at h.g λ_=>by omega⟩) λ_=> .pure d
  ·exact λc st2 h'=>h'.never h.le
  ·intro c st2;revert c;refine kq λr ja jb out ac bc h'=> ?_
   cases r with
   |some r=>exact .pure ⟨r,rfl,h'⟩
   |none=>
   replace h':=h'.2
   refine .bind (.rule (.bind (Tm.mono (Tm.range (λj c st'=>HiI R a b st st' j (ja+jb) c.2.1 c.2.2.1 c.2.2.2.1)
    (Q:=λc st'=>HiO R a b st st' 0 (ja+jb) c.1 c.2.1 c.2.2.1 c.2.2.2.1) (T4 _) h'.here ?_ ?_) ?_)))
   ·clear h;intro j c st2 hj;revert c;refine kr λr pa pb out mg ac bc h=> ?_
    refine vo t.ub h.b1 λy ey ly uy=> ?_
    refine Tm.both (y:=mg) (x:=mg-1) (by rfl) (by rfl) λmg=> ?_
    refine .bind (Tm.modify (.bind (.elem ey (.bind (xh (n:=pa) ak (h.g.1.trans kd) t.o t.ua t.sa uy h.a' (aL h.a Y3) λk k1 k2 k3=> ?_)))));dsimp only;generalize eac:pa-k=ac;refine Tm.join (I:=λna o=>MH R a b na pb o/\1<=na/\na<=pa/\ ∀z,a.toList[na-1]? =some z->R y z=false) (x:=pa) (z:=out) (by rfl) ?_ ?_ ?_
    ·refine λqa o i1=> ?_
     have la:=R9 i1.2.2.1 h.a';have M2:=MH.pushB t i1.1 (R1 h.b) h.b' la ly (λz _ hz=>i1.2.2.2 z hz);refine .bind (.elem ey (.eq2 (x:=pb-1) (y:=1) (λc3=> .pure ⟨h.g,MH.firstB t M2 la c3 nb⟩) λc3=> ?_));have c8:=Ap h.b c3;have lb:=R1 h.b1;have n1:j+pa+pb<=ja+jb:=h.n;have n2:pb=pb-1+1:=(g8 (R1 h.b)).symm;refine .bind (vo t.ua (T1 (aL i1.2.1 Y3) la) λx ex lx ux=> .elem ex (.bind (xi (n:=pb-1) ak (h.g.1.trans kd) t.o t.ub t.sb ux lb (aL (E7 c8) Y3) λk' q1 q2 q3=> ?_)));dsimp only;dsimp only at c8 lb;generalize ep:pb-1=p2 at M2 q1 q2 q3 c8 lb n2 ⊢;generalize eo:o.push y=o2 at M2 ⊢;generalize ebc:p2-k'=bc;refine Tm.join (I:=λnb o=>MH R a b qa nb o/\2<=nb/\nb<=p2/\ ∀z,b.toList[nb-1]? =some z->R z x=true) (x:=p2) (z:=o2) (by rfl) ?_ ?_ ?_
     ·refine λqb o i2=> ?_
      have lb':=R9 i2.2.2.1 lb;have M4:=MH.pushA t i2.1 i1.2.1 la lb' lx (λz _ hz=>i2.2.2.2 z hz);have la':=R9 (oJ qa 1) la;refine .bind (.elem ex (.eq2 (x:=qa-1) (y:=0) (λc5=> .pure ⟨h.g,MH.done t M4 la' lb' (.inl c5)⟩) λc5=> ?_));have n3:j+1+(qa-1)+qb<=ja+jb:=by have:=i1.2.1;have:=i1.2.2.1;have:=i2.2.2.1;omega
      have d:HiI R a b st st2 (j+1) (ja+jb) (qa-1) qb (o.push x):=⟨h.g,M4,la',lb',Cn c5,i2.2.1,n3⟩;exact .if2 (λ_=> .pure ⟨h.g,d.at h.g λ_=>by omega⟩) λ_=> .pure (d.at h.g id)
     ·intro kz' H;have M3:=MH.manyB t M2 k' q1 lb la (λi hi1 hi2 y' hy z hz1 hz=>by rw [lx] at hz;injection hz with hz;rw [<-hz];exact q3 i hi1 hi2 y' hy);exact .eq2 (x:=k') (y:=1) (λc4=> .pure ⟨h.g,MH.firstB t M3 la c4 nb⟩) λc4=> .eq2 (x:=k') (y:=0) (λc7=> .pure ⟨h.g,MH.done t M3 la (R9 q1 lb) (.inr c7)⟩) λc7=>H _ _ ⟨M3,by omega,q1,λz hz=>q2 (k'-1) (aL (aM c7) Y3) z hz⟩
     ·exact λkz'=>⟨M2,c8,P0 _,λz hz=>q2 (p2-1) (by omega) z hz⟩
    ·intro kz H;have m1:=MH.manyA t h.m k k1 h.a' h.b' (λi hi1 hi2 x hx z hz1 hz=>by rw [ly] at hz;injection hz with hz;rw [<-hz];exact k3 i hi1 hi2 x hx);exact .eq2 (x:=k) (y:=0) (λc1=> .pure ⟨h.g,MH.done t m1 (R9 k1 h.a') h.b' (.inl c1)⟩) λc1=>H _ _ ⟨m1,aM c1,k1,λz hz=>k2 (k-1) (aL (aM c1) Y3) z hz⟩
    ·exact λkz=>⟨h.m,h.a,P0 _,λz hz=>k2 (pa-1) (by have:1<=pa:=h.a;omega) z hz⟩
   ·exact λc st3 h=>h.never h'.le
   ·intro c st3;revert c;refine kr λr pa pb out mg ac bc h3=> ?_
    cases r with
    |some r=>exact .pure ⟨r,rfl,h3⟩
    |none=>exact .bind (Tm.modify (.pure (h3.2.at h3.1 λl=>by have n1:i+1+ia+ib<=a.size+b.size:=h.n;have n2:1+ja+jb<=ia+ib:=h'.n;dsimp only at l ⊢;omega)))
 ·exact λc st1 h=>h.never (Y9 _ _)
 ·intro c st1;revert c;refine ko λr ia ib out mg h=> ?_
  obtain⟨c,rfl,gl,wh⟩:=h;exact .pure (q c st1 gl wh)
end
section
variable {prog:S3}{w:N2}{A:M7}{E:G3->G6->Prop}{J:G6->Prop}{κ:SortKind}{U:P8->Prop}{R:P8->P8->Bool}
def seg (l:List P8)(p n:Nat):List P8:=(l.drop p).take n
variable {n:Nat}
theorem Xq {l:List P8}{p i:Nat}(hi:i<n):(seg l p n)[i]? =l[p+i]? :=by
 unfold seg;rw [Z9 hi,X0]
theorem VX {l:List P8}{p:Nat}(h:p+n<=l.length):(seg l p n).length=n:=by
 unfold seg;rw [R7,S8];omega
theorem Dg {l:List P8}{p:Nat}{x:P8}(h:x∈seg l p n):x∈l:=N7 (B9 h)
theorem qy {left:Bool}{arr:Array P8}{y:P8}{base hint:Nat}{st:T9}{Q:Option Nat->T9->Prop}(ak:Qh prog w A J κ U R)(kd:kindOf st=κ)(o:Ordd U R)(u: ∀x∈arr.toList,U x)(s:Srt R (seg arr.toList base n))(uy:U y)(hn:base+n<=arr.size)(hh:hint<n)
 (q: ∀k,k<=n->(∀x∈(seg arr.toList base n).take k,(if left=true then R x y else !R y x)=true)->(∀x∈(seg arr.toList base n).drop k,(if left=true then R x y else !R y x)=false)->Q (some k) st):Tm prog w A E J (gal left y arr base n hint) Q st:=by
 have ln:arr.toList.length=arr.size:=by simp
 have sl:(seg arr.toList base n).length=n:=VX (by omega);have us: ∀x∈seg arr.toList base n,U x:=λx hx=>u x (Dg hx)
 refine Ck ak kd uy (λi hi=> ?_) (λi j hij hj h=> ?_) hh (λk k1 k2 k3=>q k k1 (λx hx=> ?_) (λx hx=> ?_))
 ·obtain⟨x,lx,ex⟩:=VW (show base+i<arr.size by omega);exact⟨x,ex,u x (P4 lx)⟩
 ·obtain⟨x,lx,_⟩:=VW (show base+i<arr.size by omega);obtain⟨z,lz,_⟩:=VW (show base+j<arr.size by omega);have ux:=u x (P4 lx);have uz:=u z (P4 lz);have le:=VV s o us hij (by rw [Xq (by omega)];exact lx) (by rw [Xq hj];exact lz);rw [Je lz] at h;rw [Je lx];cases left with
  |true=>
   have hz:R z y=true:=by simpa using h
   rcases o.neg z x y uz ux uy hz with v|v
   ·rw [le] at v;cases v
   ·simp [v]
  |false=>
   have hz:R y z=false:=by simpa using h
   have:=o.trans ux uz uy le hz;simp [this]
 ·obtain⟨i,hi,e⟩:=A0 hx;rw [R7,sl] at hi;have lx:arr.toList[base+i]? =some x:=by
   rw [<-Xq (n:=n) (by omega),G1 (by omega),<-e,iO]
  have:=k2 i (by omega);rw [Je lx] at this;exact this
 ·obtain⟨i,hi,e⟩:=A0 hx;rw [S8,sl] at hi;have lx:arr.toList[base+(k+i)]? =some x:=by
   rw [<-Xq (n:=n) (by omega),G1 (by omega),<-e,dI]
  have:=k3 (k+i) (by omega) (by omega);rw [Je lx] at this;exact this
theorem RJ: ∀ (m:List P8) (arr:Array P8) (p d:Nat),p+d+m.length<=arr.size->((m.zipIdx d).foldl (λ(c:Array P8) (x:P8×Nat)=>c.setIfInBounds (p+x.2) x.1) arr).toList=arr.toList.take (p+d)++m++arr.toList.drop (p+d+m.length)
 | [],arr,p,d,_=>by simp
 |x::m,arr,p,d,h=>by
  rw [R0] at h;rw [List.zipIdx_cons,lF];rw [RJ m _ p (d+1) (by rw [dM];omega)];have hl:arr.toList.length=arr.size:=by simp
  rw [cT];have e1:(arr.toList.set (p+d) x).take (p+(d+1))=arr.toList.take (p+d)++ [x]:=by
   rw [show p+(d+1)=p+d+1 by omega,T8,aS (by omega)];rw [List.take_set_of_le (P0 _)];rfl
  have e2:(arr.toList.set (p+d) x).drop (p+(d+1)+m.length)=arr.toList.drop (p+d+(m.length+1)):=by
   rw [List.drop_set_of_lt (by omega),show p+(d+1)+m.length=p+d+(m.length+1) by omega]
  rw [e1,e2,R0];simp [P6]
end
section
variable {prog:S3}{w:N2}{A:M7}{E:G3->G6->Prop}{J:G6->Prop}{κ:SortKind}{U:P8->Prop}{R:P8->P8->Bool}
theorem Tm.set {σ:Type}{st st':σ}{Q:PUnit->σ->Prop}(q:Q ⟨⟩ st'):Tm prog w A E J (MonadStateOf.set st':StateT σ Sem PUnit) Q st:=λs j=>by
 show wpAny _ _ ((StateT.set st':StateT σ Sem PUnit).run st) _ _ _;exact P7 ⟨q,j⟩
theorem Co (a:Array P8){p n:Nat}(h:p<=n):(a.extract p n).toList=seg a.toList p (n-p):=by
 rw [V0,O4];rfl
theorem Cp (o:Ordd U R){l:List P8}(u: ∀x∈l,U x)(s:Srt R l){z:P8}(hz:l[l.length-1]? =some z){x:P8}(hx:x∈l):R z x=false:=by
 obtain⟨i,hi,e⟩:=A0 hx;exact VV s o u (show i<=l.length-1 by omega) (by rw [G1 hi,e]) hz
theorem RK (o:Ordd U R){l:List P8}(u: ∀x∈l,U x)(s:Srt R l){z:P8}(hz:l[0]? =some z){x:P8}(hx:x∈l):R x z=false:=by
 obtain⟨i,hi,e⟩:=A0 hx;exact VV s o u (T4 _) hz (by rw [G1 hi,e])
theorem VY (o:Ordd U R){X Y c:List P8}{k k2:Nat}{y0 x9:P8}(uX: ∀x∈X,U x)(uY: ∀x∈Y,U x)(sX:Srt R X)(sY:Srt R Y)(hy:Y[0]? =some y0)(hx:X[X.length-1]? =some x9)
 (f1: ∀x∈X.take k,R y0 x=false)(g2: ∀y∈Y.drop k2,R y x9=false)(hp:c.Perm (X.drop k++Y.take k2))(sc:Srt R c):(X.take k++c++Y.drop k2).Perm (X++Y)/\Srt R (X.take k++c++Y.drop k2):=by
 have uy0:=uY y0 (P4 hy);have ux9:=uX x9 (P4 hx);constructor
 ·have e:X++Y=X.take k++(X.drop k++Y.take k2)++Y.drop k2:=by
   rw [<-P6,R8,P6,R8]
  rw [e];exact(hp.append_left _).append_right _
 ·have inX: ∀x∈X.take k,∀z∈X.drop k,R z x=false:=λx hx z hz=>by
   have:Srt R (X.take k++X.drop k):=by rw [R8];exact sX
   exact(T0.mp this).2.2 x hx z hz
  have inY: ∀x∈Y.take k2,∀z∈Y.drop k2,R z x=false:=λx hx z hz=>by
   have:Srt R (Y.take k2++Y.drop k2):=by rw [R8];exact sY
   exact(T0.mp this).2.2 x hx z hz
  have xy: ∀x∈X.take k,∀y∈Y,R y x=false:=λx hx y hy'=>o.trans (uX x (B9 hx)) uy0 (uY y hy') (f1 x hx) (RK o uY sY hy hy')
  have yx: ∀x∈X,∀y∈Y.drop k2,R y x=false:=λx hx' y hy'=>o.trans (uX x hx') ux9 (uY y (N7 hy')) (Cp o uX sX hx hx') (g2 y hy')
  have xc: ∀x∈X.take k,∀z∈c,R z x=false:=λx hx z hz=>by
   rcases D9.mp (hp.mem_iff.mp hz) with v|v
   ·exact inX x hx z v
   ·exact xy x hx z (B9 v)
  refine T0.mpr ⟨T0.mpr ⟨sX.sublist (Q9 _ _),sc,xc⟩,sY.sublist (E6 _ _),λx hx y hy=> ?_⟩;rcases D9.mp hx with v|v
  ·exact xy x v y (N7 hy)
  ·rcases D9.mp (hp.mem_iff.mp v) with v|v
   ·exact yx x (N7 v) y hy
   ·exact inY x v y hy
theorem GO (l:List P8){p n m:Nat}:l=l.take p++(seg l p n++seg l (p+n) m)++l.drop (p+n+m):=by
 unfold seg;have e1:(l.drop (p+n)).take m++l.drop (p+n+m)=l.drop (p+n):=by
  rw [show l.drop (p+n+m)=(l.drop (p+n)).drop m by rw [Q1],R8]
 have e2:(l.drop p).take n++l.drop (p+n)=l.drop p:=by
  rw [show l.drop (p+n)=(l.drop p).drop n by rw [Q1],R8]
 rw [P6,P6,e1,e2,R8]
theorem KH {st:T9}{Q:Bool->T9->Prop}{i sa na pw sb nb pw2:Nat}(ak:Qh prog w A J κ U R)(kd:kindOf st=κ)(o:Ordd U R)(u: ∀x∈(arrOf st).toList,U x)(p1:(pendingOf st)[i]? =some (sa,na,pw))(p2:(pendingOf st)[i+1]? =some (sb,nb,pw2))
 (hs:sa+na=sb)(n1:1<=na)(n2:1<=nb)(hz:sb+nb<=(arrOf st).size)(s1:Srt R (seg (arrOf st).toList sa na))(s2:Srt R (seg (arrOf st).toList sb nb))(hf:failedOf st=none)
 (q: ∀st' Z,kindOf st'=κ->failedOf st'=none->pendingOf st'=((pendingOf st).setIfInBounds i (sa,na+nb,pw)).eraseIdxIfInBounds (i+1)->(arrOf st').toList=(arrOf st).toList.take sa++Z++(arrOf st).toList.drop (sb+nb)->Z.Perm (seg (arrOf st).toList sa na++seg (arrOf st).toList sb nb)->Srt R Z->Q true st'):
 Tm prog w A E J (mergeAt' i) Q st:=by
 have ln:(arrOf st).toList.length=(arrOf st).size:=by simp
 unfold mergeAt';refine .bind (.get ?_);dsimp only;rw [p1,p2];dsimp only;refine .bind (Tm.set ?_);subst hs;have lX:(seg (arrOf st).toList sa na).length=na:=VX (by omega);have lY:(seg (arrOf st).toList (sa+na) nb).length=nb:=VX (by omega);have uX: ∀x∈seg (arrOf st).toList sa na,U x:=λx hx=>u x (Dg hx)
 have uY: ∀x∈seg (arrOf st).toList (sa+na) nb,U x:=λx hx=>u x (Dg hx)
 obtain⟨y0,ly0,ey0⟩:=VW (arr:=arrOf st) (show sa+na<(arrOf st).size by omega);obtain⟨x9,lx9,ex9⟩:=VW (arr:=arrOf st) (show sa+(na-1)<(arrOf st).size by omega);have hy:(seg (arrOf st).toList (sa+na) nb)[0]? =some y0:=by rw [Xq (by omega)];exact ly0
 have hx:(seg (arrOf st).toList sa na)[(seg (arrOf st).toList sa na).length-1]? =some x9:=by rw [lX,Xq (by omega)];exact lx9
 have uy0:=u y0 (P4 ly0);have ux9:=u x9 (P4 lx9);have c3:=GO (arrOf st).toList (p:=sa) (n:=na) (m:=nb);have same: ∀ (st':T9),arrOf st'=arrOf st-> ∀k k2,(∀x∈(seg (arrOf st).toList sa na).take k,R y0 x=false)->(∀y∈(seg (arrOf st).toList (sa+na) nb).drop k2,R y x9=false)->(na<=k\/k2=0)->Srt R (seg (arrOf st).toList sa na++seg (arrOf st).toList (sa+na) nb):=λst' e k k2 f1 g2 h=>by
  have pl:(((seg (arrOf st).toList sa na).drop k++(seg (arrOf st).toList (sa+na) nb).take k2)).Perm ((seg (arrOf st).toList sa na).drop k++(seg (arrOf st).toList (sa+na) nb).take k2):= .refl _;have sc:Srt R ((seg (arrOf st).toList sa na).drop k++(seg (arrOf st).toList (sa+na) nb).take k2):=by
   rcases h with h|h
   ·rw [B1 (by omega),C7];exact s2.sublist (Q9 _ _)
   ·rw [h,cS,B7];exact s1.sublist (E6 _ _)
  have:=(VY o uX uY s1 s2 hy hx f1 g2 pl sc).2;rw [<-P6,R8,P6,R8] at this;exact this
 refine .bind (.elem ey0 (.bind (qy (left:=false) ak kd o u s1 uy0 (show sa+na<=(arrOf st).size by omega) (by omega) λk k1 f1 f2=> ?_)));have f1: ∀x∈(seg (arrOf st).toList sa na).take k,R y0 x=false:=λx hx=>by simpa using f1 x hx
 have f2: ∀x∈(seg (arrOf st).toList sa na).drop k,R y0 x=true:=λx hx=>by simpa using f2 x hx
 dsimp only
 by_cases z1:na-k=0
 ·rw [if_pos (by simpa using z1)];refine .pure (q _ (seg (arrOf st).toList sa na++seg (arrOf st).toList (sa+na) nb) kd hf rfl c3 (.refl _) (same st rfl k nb f1 (λy hy=> ?_) (.inl (by omega))));rw [B1 (by omega)] at hy;cases hy
 rw [if_neg (by simpa using z1)];refine .bind (.elem (show _=some x9 by rw [show sa+k+(na-k)-1=sa+(na-1) by omega];exact ex9) (.bind (qy (left:=true) ak kd o u s2 ux9 (show sa+na+nb<=(arrOf st).size by omega) (by omega) λk2 j1 g1 g2=> ?_)));have g1: ∀y∈(seg (arrOf st).toList (sa+na) nb).take k2,R y x9=true:=λx hx=>by simpa using g1 x hx
 have g2: ∀y∈(seg (arrOf st).toList (sa+na) nb).drop k2,R y x9=false:=λx hx=>by simpa using g2 x hx
 dsimp only
 by_cases z2:k2=0
 ·rw [if_pos (by simpa using z2)];exact .pure (q _ _ kd hf rfl c3 (.refl _) (same st rfl k k2 f1 g2 (.inr z2)))
 rw [if_neg (by simpa using z2)];have eX:((arrOf st).extract (sa+k) (sa+na)).toList=(seg (arrOf st).toList sa na).drop k:=by
  rw [Co _ (by omega)];unfold seg;rw [fZ,Q1,show sa+na-(sa+k)=na-k by omega]
 have eY:((arrOf st).extract (sa+na) (sa+na+k2)).toList=(seg (arrOf st).toList (sa+na) nb).take k2:=by
  rw [Co _ (by omega)];unfold seg;rw [f7,show sa+na+k2-(sa+na)=min k2 nb by omega]
 have sx:((arrOf st).extract (sa+k) (sa+na)).size=na-k:=by rw [<-M9,eX,S8,lX]
 have sy:((arrOf st).extract (sa+na) (sa+na+k2)).size=k2:=by rw [<-M9,eY,R7,lY];omega
 have hx2: ∀z,((seg (arrOf st).toList sa na).drop k)[((seg (arrOf st).toList sa na).drop k).length-1]? =some z->z=x9:=λz hz'=>by
  rw [S8,X0,lX,show k+(na-k-1)=na-1 by omega] at hz';rw [lX] at hx;rw [hx] at hz';injection hz' with hz';exact hz'.symm
 have hy2: ∀z,((seg (arrOf st).toList (sa+na) nb).take k2)[0]? =some z->z=y0:=λz hz'=>by
  rw [Z9 (by omega),hy] at hz';injection hz' with hz';exact hz'.symm
 have put: ∀c:Array P8,Zp R ((arrOf st).extract (sa+k) (sa+na)) ((arrOf st).extract (sa+na) (sa+na+k2)) c->(c.toList.zipIdx.foldl (λ(d:Array P8) (x:P8×Nat)=>d.setIfInBounds (sa+k+x.2) x.1) (arrOf st)).toList=(arrOf st).toList.take sa++((seg (arrOf st).toList sa na).take k++c.toList++(seg (arrOf st).toList (sa+na) nb).drop k2)++(arrOf st).toList.drop (sa+na+nb):=λc wh=>by
  have lc:c.toList.length=na-k+k2:=by
   rw [wh.1.length_eq,P2,M9,M9,sx,sy]
  have:=RJ c.toList (arrOf st) (sa+k) 0 (by omega);rw [this,lc,Z0,show sa+k+(na-k+k2)=sa+na+k2 by omega];have e1:(arrOf st).toList.take (sa+k)=(arrOf st).toList.take sa++(seg (arrOf st).toList sa na).take k:=by
   unfold seg;rw [f7,Q6 k1,List.take_add]
  have e2:(arrOf st).toList.drop (sa+na+k2)=(seg (arrOf st).toList (sa+na) nb).drop k2++(arrOf st).toList.drop (sa+na+nb):=by
   unfold seg;have h1:((arrOf st).toList.drop (sa+na)).drop k2=(((arrOf st).toList.drop (sa+na)).take nb++((arrOf st).toList.drop (sa+na)).drop nb).drop k2:=by rw [R8]
   rw [J7 (by rw [R7,S8];omega),Q1,Q1] at h1;exact h1
  rw [e1,e2];simp [P6]
 have jr: ∀c:Array P8,Zp R ((arrOf st).extract (sa+k) (sa+na)) ((arrOf st).extract (sa+na) (sa+na+k2)) c->_:=λc wh=>VY o (c:=c.toList) uX uY s1 s2 hy hx f1 g2 (by have:=wh.1;rw [eX,eY] at this;exact this) wh.2
 by_cases z3:na-k<=k2
 ·rw [if_pos z3];refine .bind (KF ak kd ⟨o,λx hx=> ?_,λx hx=> ?_,?_,?_,λy hy z hz'=> ?_⟩ (by rw [sx];omega) (by rw [sy];omega) (λy z hy' hz'=> ?_) λc st' gl wh=> .bind (Tm.modify (.bind (.get (.pure ?_)))))
  ·rw [eX] at hx;exact uX x (N7 hx)
  ·rw [eY] at hx;exact uY x (B9 hx)
  ·rw [eX];exact s1.sublist (E6 _ _)
  ·rw [eY];exact s2.sublist (Q9 _ _)
  ·rw [eY] at hy;rw [eX] at hz';rw [hx2 z hz'];exact g1 y hy
  ·rw [eY] at hy';rw [eX] at hz';rw [hy2 y hy'];exact f2 z (P4 hz')
  ·have e:failedOf st'=none:=gl.2.2.2.trans hf;show Q (failedOf st').isNone _;rw [e];refine q _ _ (gl.1.trans kd) e gl.2.2.1 ?_ (jr c wh).1 (jr c wh).2;have ea:arrOf st'=arrOf st:=gl.2.1;show (c.toList.zipIdx.foldl _ (arrOf st')).toList=_;rw [ea];exact put c wh
 ·rw [if_neg z3];refine .bind (KG ak kd ⟨o,λx hx=> ?_,λx hx=> ?_,?_,?_,λz hz' y hy'=> ?_⟩ (by rw [sx];omega) (by rw [sy];omega) (λy z hy' hz'=> ?_) λc st' gl wh=> .bind (Tm.modify (.bind (.get (.pure ?_)))))
  ·rw [eX] at hx;exact uX x (N7 hx)
  ·rw [eY] at hx;exact uY x (B9 hx)
  ·rw [eX];exact s1.sublist (E6 _ _)
  ·rw [eY];exact s2.sublist (Q9 _ _)
  ·rw [eY] at hy';rw [eX] at hz';rw [hy2 y hy'];exact f2 z hz'
  ·rw [eY] at hy';rw [eX,sx] at hz';have:=hx2 z (by rw [S8,lX];exact hz');rw [this];exact g1 y (P4 hy')
  ·have e:failedOf st'=none:=gl.2.2.2.trans hf;show Q (failedOf st').isNone _;rw [e];refine q _ _ (gl.1.trans kd) e gl.2.2.1 ?_ (jr c wh).1 (jr c wh).2;have ea:arrOf st'=arrOf st:=gl.2.1;show (c.toList.zipIdx.foldl _ (arrOf st')).toList=_;rw [ea];exact put c wh
end
section
variable {prog:S3}{w:N2}{A:M7}{E:G3->G6->Prop}{J:G6->Prop}{κ:SortKind}{U:P8->Prop}{R:P8->P8->Bool}
def Lies (st:T9)(P Z S:List P8):Prop:=(arrOf st).toList=P++Z++S
def Arr (st st':T9):Prop:=kindOf st'=kindOf st/\pendingOf st'=pendingOf st/\failedOf st'=failedOf st/\gallopOf st'=gallopOf st
theorem Arr.refl (st:T9):Arr st st:=⟨rfl,rfl,rfl,rfl⟩
theorem Oi (xs:Array P8)(P Z S:List P8)(h:xs.toList=P++Z++S):(mirror xs P.length (P.length+Z.length) ((P.length+Z.length-P.length) / 2)).toList=P++Z.reverse++S:=by
 have hl:xs.size=P.length+Z.length+S.length:=by rw [<-M9,h];simp [K6]
 refine U9 λk=> ?_
 rw [N9,getElem?_mirror_all (by omega)]
 by_cases c:P.length<=k/\k<P.length+Z.length
 ·rw [if_pos c,<-N9,h,P6,P6];have e1:(P++(Z++S))[P.length+(P.length+Z.length)-1-k]? =Z[P.length+Z.length-1-k]? :=by
   rw [D3 (by omega),R4 (by omega)]
   congr 1;omega
  have e2:(P++(Z.reverse++S))[k]? =Z[P.length+Z.length-1-k]? :=by
   rw [D3 (by omega),R4 (by rw [S2];omega),J1 (by omega)]
   congr 1;omega
  rw [e1,e2]
 ·rw [if_neg c,<-N9,h,P6,P6]
  by_cases d:k<P.length
  ·rw [R4 d,R4 d]
  ·have e1:(P++(Z++S))[k]? =S[k-P.length-Z.length]? :=by
    rw [D3 (by omega),D3 (by omega)]
   have e2:(P++(Z.reverse++S))[k]? =S[k-P.length-Z.length]? :=by
    rw [D3 (by omega),D3 (by rw [S2];omega),S2]
   rw [e1,e2]
theorem Tm.rev {st:T9}{P Z S:List P8}{i j:Nat}{Q:Unit->T9->Prop}(h:Lies st P Z S)(hi:i=P.length)(hj:j=P.length+Z.length)(q: ∀st',Arr st st'->Lies st' P Z.reverse S->Q () st'):Tm prog w A E J (reverseSlice' i j) Q st:=by
 rw [reverseSlice'_eq];subst hi hj;exact .modify (q _ ⟨rfl,rfl,rfl,rfl⟩ (Oi _ P Z S h))
theorem Tm.ltAt {st:T9}{x y:P8}{i j:Nat}{Q:Option Bool->T9->Prop}(ak:Qh prog w A J κ U R)(kd:kindOf st=κ)(hx:(arrOf st).toList[i]? =some x)(hy:(arrOf st).toList[j]? =some y)(ux:U x)(uy:U y)(q:Q (some (R x y)) st):Tm prog w A E J (ltAt' i j) Q st:=by
 rw [ltAt'_eq];exact .bind (.get (.bind (.elem (by rw [<-N9];exact hx) (.bind (.elem (by rw [<-N9];exact hy) (.lt ak kd ux uy q))))))
abbrev Dsc (R:P8->P8->Bool)(l:List P8):Prop:=l.Pairwise λx y=>R x y=false
theorem Si {l:List P8}(d:Dsc R l):Srt R l.reverse:=bB.mpr d
theorem Oj (o:Ordd U R){l:List P8}{x y:P8}(u: ∀z∈l++ [x],U z)(uy:U y)(s:Srt R (l++ [x]))(h:R y x=false):Srt R (l++ [x]++ [y]):=by
 refine T0.mpr ⟨s,N8 _ _,λz hz v hv=> ?_⟩;rw [G9.mp hv];have ux:=u x (by simp);rcases D9.mp hz with w|w
 ·exact o.trans (u z hz) ux uy ((T0.mp s).2.2 z w x (by simp)) h
 ·rw [G9.mp w];exact h
theorem Ol {l m:List P8}(s:Dsc R (l++m))(alike: ∀x∈m,∀y∈m,R x y=false):Dsc R (l++m.reverse):=by
 obtain⟨a,b,c⟩:=T0.mp s;refine T0.mpr ⟨a,?_,λx hx y hy=>c x hx y (O3.mp hy)⟩;rw [O6];intro i j hi hj _;exact alike _ (O3.mp (S9 hi)) _ (O3.mp (S9 hj))
end
section
variable {prog:S3}{w:N2}{A:M7}{E:G3->G6->Prop}{J:G6->Prop}{κ:SortKind}{U:P8->Prop}{R:P8->P8->Bool}
theorem Arr.trans {a b c:T9}(x:Arr a b)(y:Arr b c):Arr a c:=⟨y.1.trans x.1,y.2.1.trans x.2.1,y.2.2.1.trans x.2.2.1,y.2.2.2.trans x.2.2.2⟩
variable {P Z:List P8}
theorem Lies.rest {st:T9}{S:List P8}(h:Lies st P Z S){i:Nat}:(arrOf st).toList[P.length+Z.length+i]? =S[i]? :=by
 rw [h,D3 (by rw [P2];omega),P2]
 congr 1;omega
theorem Lies.end {st:T9}{W S:List P8}{x:P8}(h:Lies st P (W++ [x]) S):(arrOf st).toList[P.length+W.length]? =some x:=by
 rw [h,P6,D3 (by omega),P6,D3 (by omega)];simp
theorem Xr {l:List P8}(h:1<=l.length): ∃W x,l=W++ [x]:=by
 rcases List.eq_nil_or_concat l with e|⟨W,x,e⟩
 ·subst e;simp at h
 ·exact⟨W,x,by rw [e,List.concat_eq_append]⟩
structure Fall (R:P8->P8->Bool)(T Z1 Z2:List P8)(n:Nat):Prop where
 len:(Z1++Z2).length=n
 perm:(Z1++Z2).Perm (T.take n)
 dsc:Dsc R (Z1++Z2)
 alike: ∀x∈Z2,∀y∈Z2,R x y=false
 ne:1<=Z2.length
variable {T:List P8}{n:Nat}
theorem Fall.turn {Z1 Z2:List P8}(f:Fall R T Z1 Z2 n):Fall R T Z1 Z2.reverse n:=
 ⟨by have:=f.len;simp only [P2,S2] at this ⊢;exact this,((E8 Z2).append_left Z1).trans f.perm,Ol f.dsc f.alike,λx hx y hy=>f.alike x (O3.mp hx) y (O3.mp hy),by rw [S2];exact f.ne⟩
theorem Fall.mem {Z1 Z2:List P8}(f:Fall R T Z1 Z2 n){x:P8}(h:x∈Z1++Z2):x∈T:=B9 (f.perm.mem_iff.mp h)
theorem Wu {y:P8}(h:Z.Perm (T.take n))(hy:T[n]? =some y):(Z++ [y]).Perm (T.take (n+1)):=by
 rw [VU hy];exact h.append_right _
theorem Fall.below (o:Ordd U R){T Z1 Z2:List P8}{n:Nat}{x y:P8}(u: ∀x∈T,U x)(f:Fall R T Z1 Z2 n)(hx:x∈Z2)(hy:T[n]? =some y)(h:R y x=true):Fall R T (Z1++Z2) [y] (n+1):=by
 have uy:=u y (P4 hy);have ux:=u x (f.mem (D9.mpr (.inr hx)));have xy:=o.asym y x uy ux h;refine⟨by rw [P2,f.len];rfl,Wu f.perm hy,?_,λa ha b hb=> ?_,by simp⟩
 ·refine T0.mpr ⟨f.dsc,N8 _ _,λz hz v hv=> ?_⟩;rw [G9.mp hv];have uz:=u z (f.mem hz);have zx:R z x=false:=by
   rcases D9.mp hz with w|w
   ·exact(T0.mp f.dsc).2.2 z w x hx
   ·exact f.alike z w x hx
  exact o.trans uy ux uz xy zx
 ·rw [G9.mp ha,G9.mp hb];exact o.refl uy
theorem Fall.like (o:Ordd U R){T Z1 Z2:List P8}{n:Nat}{x y:P8}(u: ∀x∈T,U x)(f:Fall R T Z1 Z2 n)(hx:x∈Z2)(hy:T[n]? =some y)(h:R y x=false)(h':R x y=false):Fall R T Z1 (Z2++ [y]) (n+1):=by
 have uy:=u y (P4 hy);have ux:=u x (f.mem (D9.mpr (.inr hx)));have zy: ∀z∈Z1++Z2,R z y=false:=λz hz=>by
  have uz:=u z (f.mem hz);have zx:R z x=false:=by
   rcases D9.mp hz with w|w
   ·exact(T0.mp f.dsc).2.2 z w x hx
   ·exact f.alike z w x hx
  exact o.trans uy ux uz h' zx
 have yz: ∀z∈Z2,R y z=false:=λz hz=>o.trans (u z (f.mem (D9.mpr (.inr hz)))) ux uy (f.alike x hx z hz) h
 refine⟨by rw [<-P6,P2,f.len];rfl,by rw [<-P6];exact Wu f.perm hy,?_,λa ha b hb=> ?_,by simp⟩
 ·rw [<-P6];refine T0.mpr ⟨f.dsc,N8 _ _,λz hz v hv=> ?_⟩;rw [G9.mp hv];exact zy z hz
 ·rcases D9.mp ha with p|p<;>rcases D9.mp hb with r|r
  ·exact f.alike a p b r
  ·rw [G9.mp r];exact zy a (D9.mpr (.inr p))
  ·rw [G9.mp p];exact yz b r
  ·rw [G9.mp p,G9.mp r];exact o.refl uy
theorem Lies.more {st:T9}{m:Nat}{y:P8}(L:Lies st P Z (T.drop m))(hy:T[m]? =some y):Lies st P (Z++ [y]) (T.drop (m+1)):=by
 unfold Lies at L ⊢;rw [L,zY hy];simp
theorem Lies.part {st:T9}{Z1 Z2 S:List P8}:Lies st P (Z1++Z2) S↔Lies st (P++Z1) Z2 S:=by
 unfold Lies;simp only [P6]
theorem Lies.two {st:T9}{m:Nat}{y:P8}(L:Lies st P Z (T.drop m))(lz:Z.length=m)(m1:1<=m)(hy:T[m]? =some y):(arrOf st).toList[P.length+m]? =some y/\ ∃W x,Z=W++ [x]/\(arrOf st).toList[P.length+m-1]? =some x:=by
 have a:=L.rest (i:=0);rw [X0,lz,Z0,Z0,hy] at a;obtain⟨W,x,e⟩:=Xr (l:=Z) (by omega);subst e;refine⟨a,W,x,rfl,?_⟩;rw [<-L.end]
 congr 1
 rw [P2,L7] at lz;omega
section
variable {σ ρ τ α:Type}{st:σ}
theorem Tm.rangeN {f:Nat->Option ρ×τ->StateT σ Sem (ForInStep (Option ρ×τ))}(I:Nat->τ->σ->Prop){Q:τ->σ->Prop}{Q':Option ρ×τ->σ->Prop}{a b:Nat}{c:τ}(hab:a<=b)(h:I a c st)(step: ∀i c st,i<b->I i c st->Tm prog w A E J (f i (none,c)) (λr st'=>match r with| .done c'=>c'.1=none/\Q c'.2 st'| .yield c'=>c'.1=none/\I (i+1) c'.2 st') st)(fin: ∀c st,I b c st->Q c st)(q: ∀c st,Q c st->Q' (none,c) st):Tm prog w A E J (forIn [a:b] ((none:Option ρ),c) f) Q' st:=by
 refine Tm.mono (Tm.range (λi c st=>c.1=none/\I i c.2 st) (Q:=λc st=>c.1=none/\Q c.2 st) hab ⟨rfl,h⟩ ?_ λc st h=>⟨h.1,fin _ _ h.2⟩) ?_
 ·rintro i ⟨_,c⟩ st hi ⟨rfl,h⟩;exact(step i c st hi h).mono λr st' x=>by cases r<;>exact x
 ·rintro ⟨_,c⟩ st ⟨rfl,h⟩;exact q c st h
theorem Tm.fork {c:Prop}[Decidable c]{t e:StateT σ Sem α}{Q:α->σ->Prop}(I:σ->Prop)(G: ∀s,I s->Tm prog w A E J e Q s)(T:c->(∀s,I s->Tm prog w A E J e Q s)->Tm prog w A E J t Q st)(F: ¬c->I st):Tm prog w A E J (if c then t else e) Q st:=
 .if2 (λh=>T h G) λh=>G _ (F h)
end
section
variable {st:T9}{P T Z:List P8}{m:Nat}
theorem Cq {f:Nat->Option (Option Nat)×Nat->StateT T9 Sem (ForInStep (Option (Option Nat)×Nat))}{G:Nat->Option Bool->StateT T9 Sem (ForInStep (Option (Option Nat)×Nat))}{Q:Option (Option Nat)×Nat->T9->Prop}(ak:Qh prog w A J κ U R)(kd:kindOf st=κ)(o:Ordd U R)(u: ∀x∈T,U x)
 (hf: ∀i n,f i (none,n)=ltAt' (P.length+n) (P.length+n-1) >>= G n)(hG: ∀n,G n (some true)=Pure.pure (.done (none,n))/\G n (some false)=Pure.pure (.yield (none,n+1)))
 (m1:1<=m)(m2:m<=T.length)(L:Lies st P Z (T.drop m))(p:Z.Perm (T.take m))(s:Srt R Z)
 (q: ∀n Z',1<=n->n<=T.length->Lies st P Z' (T.drop n)->Z'.Perm (T.take n)->Srt R Z'->(∀y,T[n]? =some y-> ∃W x,Z'=W++ [x]/\R y x=true)->Q (none,n) st):Tm prog w A E J (forIn [m:T.length] ((none:Option (Option Nat)),m) f) Q st:=by
 refine Tm.rangeN (λi c s=>s=st/\c=i/\1<=i/\ ∃Z,Lies st P Z (T.drop i)/\Z.Perm (T.take i)/\Srt R Z) (Q:=λn s=>s=st/\Q (none,n) st) m2 ⟨rfl,rfl,m1,Z,L,p,s⟩ ?_ ?_ λc s h=>h.1 ▸ h.2
 ·rintro _ i _ hi ⟨rfl,rfl,i1,Z,L,p,s⟩;have hy:=G1 hi;obtain⟨ay,W,x,rfl,ax⟩:=L.two (by rw [p.length_eq,R7,Q6 (R1 hi)]) i1 hy;have uy:=u _ (S9 hi);have uZ: ∀z∈W++ [x],U z:=λz hz=>u z (B9 (p.mem_iff.mp hz))
  rw [hf];refine .bind (.ltAt ak kd ay ax uy (uZ x (by simp)) ?_);cases hb:R T[i] x with
  |true=>
   rw [(hG _).1];exact .pure ⟨rfl,rfl,q i _ i1 (R1 hi) L p s λy h=>⟨W,x,rfl,by rw [hy] at h;injection h with h;rw [<-h];exact hb⟩⟩
  |false=>
   rw [(hG _).2];exact .pure ⟨rfl,rfl,rfl,bE (T4 _),_,L.more hy,Wu p hy,Oj o uZ uy s hb⟩
 ·rintro _ _ ⟨rfl,rfl,i1,Z,L,p,s⟩;exact⟨rfl,q _ Z i1 (P0 _) L p s λy h=>absurd (P3.mp h).1 (N6 _)⟩
end
def Fell (R:P8->P8->Bool)(P T:List P8)(st st':T9)(n k:Nat):Prop:=Arr st st'/\ ∃Z1 Z2,Lies st' P (Z1++Z2) (T.drop n)/\Fall R T Z1 Z2 n/\Z2.length=k+1
theorem Fell.rev {st s2:T9}{k:Nat}{Q:Unit->T9->Prop}(h:Fell R P T st s2 n k)(q: ∀s3,Fell R P T st s3 n k->Q () s3):Tm prog w A E J (reverseSlice' (P.length+n-(k+1)) (P.length+n)) Q s2:=by
 obtain⟨ar,Z1,Z2,L,F,l⟩:=h;have l12:=F.len;rw [P2] at l12;exact .rev (Lies.part.mp L) (by rw [P2];omega) (by rw [P2];omega) λs3 ar3 L3=>q s3 ⟨ar.trans ar3,Z1,_,Lies.part.mpr L3,F.turn,by rw [S2];exact l⟩
theorem Om {st:T9}{Q:Option Nat->T9->Prop}(ak:Qh prog w A J κ U R)(kd:kindOf st=κ)(o:Ordd U R)(u: ∀x∈T,U x)(h:Lies st P [] T)(h1:1<=T.length)
 (q: ∀n st' Z,1<=n->n<=T.length->Arr st st'->Lies st' P Z (T.drop n)->Z.Perm (T.take n)->Srt R Z->Q (some n) st'):Tm prog w A E J (countRun' P.length T.length) Q st:=by
 refine .bind (Cq (m:=1) (Z:=T.take 1) ak kd o u (by exact λi n=>rfl) (by exact λn=>⟨rfl,rfl⟩) (P0 _) h1 ?_ (.refl _) ?_ λn Z n1 n2 L p sr br=> ?_)
 ·unfold Lies at h ⊢;rw [h,B7,P6,R8]
 ·match T,h1 with
  |x::r,_=>exact N8 _ _
 refine .eq2 (x:=n) (y:=T.length) (λz1=> .pure (q n _ _ n1 n2 (Arr.refl _) L p sr)) λz1=> ?_
 have n3:n<T.length:=C1 n2 z1;have hy:=G1 n3;have uZ: ∀z∈Z,U z:=λz hz=>u z (B9 (p.mem_iff.mp hz))
 obtain⟨W,x,e,yx⟩:=br _ hy;have lz:Z.length=n:=by rw [p.length_eq,R7,Q6 n2]
 have xin:x∈Z:=by rw [e];simp
 have xl:Z[Z.length-1]? =some x:=by rw [e];simp
 have F0:(∀p∈Z,∀r∈Z,R p r=false)->Fall R T [] Z n:=λal=>⟨lz,p,O6.mpr λi j hi hj _=>al _ (S9 hi) _ (S9 hj),al,by rw [lz];exact n1⟩
 refine Tm.fork (λs=>Fell R P T st s (n+1) 0) ?_ ?_ ?_
 ·intro s1 F1;refine .bind (.rule (.bind (Tm.rangeN (λi c s=>c.1=i/\Fell R P T st s c.1 c.2) (Q:=λc s=>c.1<=T.length/\Fell R P T st s c.1 c.2) n3 ⟨rfl,F1⟩ ?_ (λc s h=>⟨K4 h.1,h.2⟩) ?_)))
  ·intro i c s2 hi h2;have hc:c.1<T.length:=by rw [h2.1];exact hi
   have hy:=G1 hc;have uy:=u _ (S9 hc);obtain⟨e1,ar2,Z1,Z2,L2,F2,l2⟩:=h2;have l12:=F2.len;obtain⟨ay,W,x,eW,ax⟩:=L2.two l12 (by rw [<-l12,P2,l2];exact X4 _ _) hy;have xin:x∈Z2:=by
    obtain⟨V,v,e⟩:=Xr F2.ne;have e':=congrArg List.getLast? eW;rw [e,<-P6,f8,f8] at e';injection e' with e'
    rw [e,<-e'];simp
   have ux:=u x (F2.mem (D9.mpr (.inr xin)));refine .bind (.ltAt ak (ar2.1.trans kd) ay ax uy ux (.if2 (c:=R _ x=true) (λhb=> ?_) λhb=> .bind (.ltAt ak (ar2.1.trans kd) ax ay ux uy (.if2 (c:=R x _=true) (λhc'=> .pure ⟨rfl,R1 hc,ar2,Z1,Z2,L2,F2,l2⟩) λhc'=> ?_))))
   ·refine Tm.fork (λs=>Fell R P T st s (c.1+1) 0) (λs h=> .pure ⟨rfl,congrArg oT e1,h⟩) (λzq H=> .bind ?_) λzq=>⟨ar2,Z1++Z2,[T[c.1]],L2.more hy,F2.below o u xin hy hb,rfl⟩
    have l12':=l12;rw [P2] at l12';exact .rev (Lies.part.mp L2) (by rw [P2];dsimp only;omega) (by rw [P2];dsimp only;omega) λs3 ar3 L3=>H s3 ⟨ar2.trans ar3,Z1++Z2.reverse,[T[c.1]],(Lies.part.mpr L3).more hy,F2.turn.below o u (O3.mpr xin) hy hb,rfl⟩
   ·refine .pure ⟨rfl,congrArg oT e1,ar2,Z1,Z2++ [T[c.1]],?_,F2.like o u xin hy (X8.mpr hb) (X8.mpr hc'),by rw [P2,l2];rfl⟩;rw [<-P6];exact L2.more hy
  ·intro c s2 h2;refine Tm.fork (λs=> ∃k,Fell R P T st s c.1 k) ?_ (λzq H=> .bind (h2.2.rev λs h=>H s ⟨_,h⟩)) λzq=>⟨_,h2.2⟩
   intro s3 h3;obtain⟨k,ar3,Z1,Z2,L3,F3,l3⟩:=h3;have m1:1<=c.1:=by rw [<-F3.len,P2,l3];exact X4 _ _
   exact .bind (.rev L3 rfl (by rw [F3.len]) λs4 ar4 L4=> .bind (Cq ak ((ar3.trans ar4).1.trans kd) o u (by exact λi n=>rfl) (by exact λn=>⟨rfl,rfl⟩) m1 h2.1 L4 ((E8 _).trans F3.perm) (Si F3.dsc) λn Z n1 n2 L p sr _=> .pure (q n s4 Z n1 n2 (ar3.trans ar4) L p sr)))
 ·intro z2 H;obtain⟨x0,V,eV⟩: ∃x0 V,Z=x0::V:=by
   match Z,xin with
   |a::r,_=>exact⟨a,r,rfl⟩
  have ux:=uZ x xin;have ux0:=uZ x0 (by rw [eV];simp);have a0:(arrOf st).toList[P.length]? =some x0:=by rw [L,eV];simp
  have a1:(arrOf st).toList[P.length+n-1]? =some x:=by
   obtain⟨_,W',x',e',ax⟩:=L.two lz n1 hy;rw [e] at e';rw [ax,(List.append_inj' e' rfl).2 |> λh=>(List.cons.inj h).1]
  exact .bind (.ltAt ak kd a0 a1 ux0 ux (.if2 (c:=R x0 x=true) (λ_=> .pure (q n _ _ n1 n2 (Arr.refl _) L p sr)) λhr0=> .bind (.rev L rfl (by rw [lz]) λs1 ar1 L1=>H s1 ⟨ar1,_,_,L1.more hy,Fall.below o u (Z1:= []) (Fall.turn (F0 λp hp r hr=>o.trans (uZ r hr) ux (uZ p hp) (Cp o uZ sr xl hr) (X8.mpr λv=>(o.neg p x0 x (uZ p hp) ux0 ux v).elim (λv=>by rw [RK o uZ sr (z:=x0) (by rw [eV];rfl) hp] at v;cases v) hr0))) (O3.mpr xin) hy yx,rfl⟩)))
 ·intro z2;have w0:W= []:=W5 (by rw [e,P2,L7] at lz;omega);have f: ∀z∈Z,z=x:=λz hz=>by rw [e,w0] at hz;exact G9.mp hz
  exact⟨Arr.refl st,_,_,L.more hy,Fall.below o u (Z1:= []) (F0 λp hp r hr=>by rw [f p hp,f r hr];exact o.refl (uZ x xin)) xin hy yx,rfl⟩
end
section
variable {prog:S3}{w:N2}{A:M7}{E:G3->G6->Prop}{J:G6->Prop}{κ:SortKind}{U:P8->Prop}{R:P8->P8->Bool}
theorem On (xs:Array P8)(P Z S:List P8)(y:P8)(l:Nat)(hl:l<=Z.length)(h:xs.toList=P++Z++y::S):(bubble xs (P.length+Z.length) (Z.length-l)).toList=P++(Z.take l++ [y]++Z.drop l)++S:=by
 have hz:xs.size=P.length+Z.length+(S.length+1):=by rw [<-M9,h];simp [K6]
 have at_: ∀k,xs[k]? =(P++Z++y::S)[k]? :=λk=>by rw [<-N9,h]
 refine U9 λk=> ?_
 rw [N9,getElem?_bubble (by omega) _ (by omega)];have lt:(Z.take l).length=l:=by rw [R7];omega
 by_cases c:k=P.length+Z.length-(Z.length-l)
 ·rw [if_pos c,at_];have e1:(P++Z++y::S)[P.length+Z.length]? =some y:=by
   rw [D3 (by rw [P2];omega),P2,cE];rfl
  have e2:(P++(Z.take l++ [y]++Z.drop l)++S)[k]? =some y:=by
   rw [P6,D3 (by omega),P6,P6,D3 (by rw [lt];omega),lt,show k-P.length-l=0 by omega];rfl
  rw [e1,e2]
 ·rw [if_neg c]
  by_cases d:P.length+Z.length-(Z.length-l)<k/\k<=P.length+Z.length
  ·rw [if_pos d,at_];have e1:(P++Z++y::S)[k-1]? =Z[k-1-P.length]? :=by
    rw [P6,D3 (by omega),R4 (by omega)]
   have e2:(P++(Z.take l++ [y]++Z.drop l)++S)[k]? =Z[k-1-P.length]? :=by
    rw [P6,D3 (by omega),R4 (by simp only [P2,R7,S8,L7];omega),D3 (by rw [P2,lt];simp;omega),P2,lt,X0]
    congr 1;simp;omega
   rw [e1,e2]
  ·rw [if_neg d,at_]
   by_cases f:k<P.length+l
   ·have e1:(P++Z++y::S)[k]? =(P++Z.take l)[k]? :=by
     have:P++Z++y::S=P++Z.take l++(Z.drop l++y::S):=by
      rw [P6,P6,<-P6 (Z.take l),R8]
     rw [this,R4 (by rw [P2,lt];omega)]
    have e2:(P++(Z.take l++ [y]++Z.drop l)++S)[k]? =(P++Z.take l)[k]? :=by
     have:P++(Z.take l++ [y]++Z.drop l)++S=P++Z.take l++([y]++Z.drop l++S):=by simp [P6]
     rw [this,R4 (by rw [P2,lt];omega)]
    rw [e1,e2]
   ·have e1:(P++Z++y::S)[k]? =S[k-P.length-Z.length-1]? :=by
     rw [D3 (by rw [P2];omega),P2,List.getElem?_cons,if_neg (by omega)]
     congr 1;omega
    have e2:(P++(Z.take l++ [y]++Z.drop l)++S)[k]? =S[k-P.length-Z.length-1]? :=by
     rw [D3 (by simp only [P2,R7,S8,L7];omega)]
     congr 1;simp only [P2,R7,S8,L7];omega
    rw [e1,e2]
theorem Sj (o:Ordd U R){Z:List P8}{y:P8}{l:Nat}(u: ∀z∈Z,U z)(uy:U y)(s:Srt R Z)(a: ∀z∈Z.take l,R y z=false)(b: ∀z∈Z.drop l,R y z=true):Srt R (Z.take l++ [y]++Z.drop l):=by
 have s':Srt R (Z.take l++Z.drop l):=by rw [R8];exact s
 obtain⟨s1,s2,s3⟩:=T0.mp s';refine T0.mpr ⟨T0.mpr ⟨s1,N8 _ _,λx hx z hz=> ?_⟩,s2,λx hx z hz=> ?_⟩
 ·rw [G9.mp hz];exact a x hx
 ·rcases D9.mp hx with v|v
  ·exact s3 x v z hz
  ·rw [G9.mp v];exact o.asym y z uy (u z (N7 hz)) (b z hz)
theorem KI {st:T9}{Q:Bool->T9->Prop}{P T Z:List P8}{n k:Nat}(ak:Qh prog w A J κ U R)(kd:kindOf st=κ)(o:Ordd U R)(u: ∀x∈T,U x)(h:Lies st P Z (T.drop k))(hp:Z.Perm (T.take k))(hs:Srt R Z)(k1:1<=k)(kn:k<=n)(hn:n<=T.length)
 (q: ∀st' Z',Arr st st'->Lies st' P Z' (T.drop n)->Z'.Perm (T.take n)->Srt R Z'->Q true st'):Tm prog w A E J (binarySort' P.length n k) Q st:=by
 unfold binarySort';refine .bind (Tm.mono (Tm.range (λi c s1=>Arr st s1/\c.1=none/\1<=i/\ ∃Z,Lies s1 P Z (T.drop i)/\Z.Perm (T.take i)/\Srt R Z) (Q:=λc s1=>Arr st s1/\c.1=none/\ ∃Z,Lies s1 P Z (T.drop n)/\Z.Perm (T.take n)/\Srt R Z) (by omega) ⟨Arr.refl st,rfl,by omega,Z,by rw [lR k1];exact h,by rw [lR k1];exact hp,hs⟩ ?_ ?_) ?_)
 ·rintro i ⟨r,c2⟩ s1 hi ⟨ar,hr,i1,Z,L,p,s⟩;dsimp only at hr ⊢;subst hr;obtain⟨y,hy⟩: ∃y,T[i]? =some y:=⟨_,G1 (by omega)⟩;have uy:=u y (P4 hy);have lz:Z.length=i:=by rw [p.length_eq,R7];omega
  have uZ: ∀z∈Z,U z:=λz hz=>u z (B9 (p.mem_iff.mp hz))
  have ay:(arrOf s1).toList[P.length+i]? =some y:=by
   have:=L.rest (i:=0);rw [X0,lz] at this;rw [Z0] at this;rw [this];exact hy
  have az: ∀m,m<i-> ∃z,Z[m]? =some z/\(arrOf s1).toList[P.length+m]? =some z:=λm hm=>by
   refine⟨Z[m],G1 (by omega),?_⟩;rw [L,P6,D3 (by omega),R4 (by omega),dW,G1 (by omega)]
  refine .bind (Tm.mono (Tm.range (λj c s2=>s2=s1/\c.1=none/\c.2.1<=c.2.2/\c.2.2<=i/\(∀z∈Z.take c.2.1,R y z=false)/\(∀z∈Z.drop c.2.2,R y z=true)/\c.2.2-c.2.1+j<=i) (Q:=λc s2=>s2=s1/\c.1=none/\c.2.1<=i/\(∀z∈Z.take c.2.1,R y z=false)/\(∀z∈Z.drop c.2.1,R y z=true)) (T4 _) ⟨rfl,rfl,T4 _,P0 _,λz hz=> ?_,λz hz=> ?_,by dsimp only;omega⟩ ?_ ?_) ?_)
  ·dsimp only at hz;rw [cS] at hz;cases hz
  ·dsimp only at hz;rw [B1 (by omega)] at hz;cases hz
  ·rintro j ⟨r,l,v⟩ _ hj ⟨rfl,hr,b1,b2,b3,b4,b5⟩;dsimp only at hr b1 b2 b3 b4 b5 ⊢;subst hr
   by_cases c1:l>=v
   ·rw [if_pos c1];have:l=v:=by omega
    subst this;exact .pure ⟨rfl,rfl,b2,b3,b4⟩
   rw [if_neg c1];obtain⟨z,hz,ez⟩:=az ((l+v) / 2) (by omega);have uz:=uZ z (P4 hz);refine .bind (.ltAt ak (ar.1.trans kd) ay ez uy uz ?_);dsimp only;cases hb:R y z with
   |true=>
    rw [if_pos rfl];refine .pure ⟨rfl,rfl,by dsimp only;omega,by dsimp only;omega,b3,λx hx=> ?_,by dsimp only;omega⟩;dsimp only at hx;have zx:R x z=false:=by
     obtain⟨t,ht,e⟩:=A0 hx;rw [S8] at ht;exact VV s o uZ (show (l+v) / 2<=(l+v) / 2+t by omega) hz (by rw [G1 (by omega),<-e,dI])
    rcases o.neg y x z uy (uZ x (N7 hx)) uz hb with w|w
    ·exact w
    ·rw [zx] at w;cases w
   |false=>
    rw [if_neg (by decide)];refine .pure ⟨rfl,rfl,by dsimp only;omega,b2,λx hx=> ?_,b4,by dsimp only;omega⟩;dsimp only at hx;have xz:R z x=false:=by
     obtain⟨t,ht,e⟩:=A0 hx;rw [R7] at ht;exact VV s o uZ (show t<=(l+v) / 2 by omega) (by rw [G1 (by omega),<-e,iO]) hz
    exact o.trans (uZ x (B9 hx)) uz uy xz hb
  ·rintro ⟨r,l,v⟩ _ ⟨rfl,hr,b1,b2,b3,b4,b5⟩;dsimp only at hr b1 b2 b3 b4 b5 ⊢;have:l=v:=by omega
   subst this;exact⟨rfl,hr,b2,b3,b4⟩
  ·rintro ⟨r,l,v⟩ s2 ⟨rfl,hr,b2,b3,b4⟩;dsimp only at hr b2 b3 b4 ⊢;subst hr;dsimp only;refine .bind ?_;show Tm prog w A E J (moveDown' (P.length+i) (P.length+l)) _ _;rw [moveDown'_eq];refine .modify (.pure ⟨ar.trans ⟨rfl,rfl,rfl,rfl⟩,rfl,by omega,Z.take l++ [y]++Z.drop l,?_,?_,Sj o uZ uy s b3 b4⟩)
   ·have:=On (arrOf s2) P Z (T.drop (i+1)) y l (by omega) (by rw [<-zY hy];exact L);rw [lz] at this;rw [show P.length+i-(P.length+l)=i-l by omega];exact this
   ·refine fF ?_ (Wu p hy);rw [P6];have e:Z++ [y]=Z.take l++(Z.drop l++ [y]):=by rw [<-P6,R8]
    rw [e];exact(X6).append_left _
 ·rintro ⟨r,c2⟩ s1 ⟨ar,hr,i1,Z,L,p,s⟩;exact⟨ar,hr,Z,L,p,s⟩
 ·rintro ⟨r,c2⟩ s1 ⟨ar,hr,Z,L,p,s⟩;dsimp only at hr ⊢;subst hr;exact .pure (q s1 Z ar L p s)
end
section
variable {prog:S3}{w:N2}{A:M7}{E:G3->G6->Prop}{J:G6->Prop}{κ:SortKind}{U:P8->Prop}{R:P8->P8->Bool}
def Stk (R:P8->P8->Bool)(l:List P8):List (Nat×Nat×Nat)->Nat->Nat->Prop
 | [],s,e=>s=e
 |(p,n,_)::rest,s,e=>p=s/\1<=n/\Srt R (seg l p n)/\Stk R l rest (s+n) e
variable {l:List P8}
theorem Stk.le: ∀ {pl:List (Nat×Nat×Nat)} {s e:Nat},Stk R l pl s e->s+pl.length<=e
 | [],s,e,h=>by cases h;simp
 |(p,n,_)::rest,s,e,⟨_,n1,_,h⟩=>by have:=Stk.le h;simp only [R0];omega
theorem Oo {l':List P8}{p n e:Nat}(h:l.take e=l'.take e)(he:p+n<=e):seg l p n=seg l' p n:=by
 have cut: ∀k:List P8,seg k p n=seg (k.take e) p n:=λk=>by
  unfold seg;rw [fZ,f7,Q6 (by omega)]
 rw [cut l,cut l',h]
theorem Stk.same {l':List P8}: ∀ {pl:List (Nat×Nat×Nat)} {s e:Nat},Stk R l pl s e->l.take e=l'.take e->Stk R l' pl s e
 | [],s,e,h,_=>h
 |(p,n,_)::rest,s,e,⟨a,b,c,d⟩,h=>by
  have:=d.le;exact⟨a,b,by rw [<-Oo h (by omega)];exact c,d.same h⟩
theorem Stk.shift {l':List P8}: ∀ {pl:List (Nat×Nat×Nat)} {s e:Nat},Stk R l pl s e->l.drop s=l'.drop s->Stk R l' pl s e
 | [],s,e,h,_=>h
 |(p,n,_)::rest,s,e,⟨a,b,c,d⟩,h=>by
  subst a;refine⟨rfl,b,by unfold seg at c ⊢;rw [<-h];exact c,d.shift ?_⟩;rw [<-Q1,<-Q1,h]
theorem Stk.append: ∀ {a b:List (Nat×Nat×Nat)} {s e:Nat},Stk R l (a++b) s e↔ ∃m,Stk R l a s m/\Stk R l b m e
 | [],b,s,e=>⟨λh=>⟨s,rfl,h⟩,λ⟨m,h,h'⟩=>by cases h;exact h'⟩
 |(p,n,w)::a,b,s,e=>by
  constructor
  ·rintro ⟨x,y,z,h⟩;obtain⟨m,h1,h2⟩:=Stk.append.mp h;exact⟨m,⟨x,y,z,h1⟩,h2⟩
  ·rintro ⟨m,⟨x,y,z,h1⟩,h2⟩;exact⟨x,y,z,Stk.append.mpr ⟨m,h1,h2⟩⟩
structure Bt (R:P8->P8->Bool)(κ:SortKind)(l0:List P8)(lo:Nat)(st:T9):Prop where
 kind:kindOf st=κ
 failed:failedOf st=none
 perm:(arrOf st).toList.Perm l0
 stk:Stk R (arrOf st).toList (pendingOf st).toList 0 lo
variable {l0:List P8}{lo:Nat}
theorem Bt.size {st:T9}(b:Bt R κ l0 lo st):(arrOf st).size=l0.length:=by rw [<-M9,b.perm.length_eq]
theorem Bt.merge {st:T9}{Q:Bool->T9->Prop}{i:Nat}(ak:Qh prog w A J κ U R)(o:Ordd U R)(u: ∀x∈l0,U x)(b:Bt R κ l0 lo st)(hlo:lo<=l0.length)(hi:i+1<(pendingOf st).size)
 (q: ∀st',Bt R κ l0 lo st'->(pendingOf st').size+1=(pendingOf st).size->(arrOf st').toList.drop lo=(arrOf st).toList.drop lo->Q true st'):Tm prog w A E J (mergeAt' i) Q st:=by
 have lp:(pendingOf st).toList.length=(pendingOf st).size:=by simp
 obtain⟨⟨sa,na,pw⟩,hx⟩: ∃x,(pendingOf st).toList[i]? =some x:=⟨_,G1 (by omega)⟩;obtain⟨⟨sb,nb,pw2⟩,hy⟩: ∃y,(pendingOf st).toList[i+1]? =some y:=⟨_,G1 (by omega)⟩;have e:(pendingOf st).toList=(pendingOf st).toList.take i++(sa,na,pw)::(sb,nb,pw2)::(pendingOf st).toList.drop (i+2):=by
  rw [<-zY hy,<-zY hx,R8]
 have stk:=b.stk;rw [e] at stk;obtain⟨m,k1,em,n1,s1,eb,n2,s2,k2⟩:=Stk.append.mp stk;subst em;subst eb;have le:=k2.le;have sz:=b.size;have hz:sa+na+nb<=(arrOf st).size:=by omega
 have ln:(arrOf st).toList.length=(arrOf st).size:=by simp
 refine KH ak b.kind o (λx hx=>u x (b.perm.mem_iff.mp hx)) (by rw [<-N9];exact hx) (by rw [<-N9];exact hy) rfl n1 n2 hz s1 s2 b.failed λst' Z kd hf hp ha pz sz'=> ?_
 have hpl:(pendingOf st').toList=(pendingOf st).toList.take i++(sa,na+nb,pw)::(pendingOf st).toList.drop (i+2):=by
  rw [hp,Array.eraseIdxIfInBounds_eq,dif_pos (by rw [dM];exact hi),Array.toList_eraseIdx,cT];generalize (pendingOf st).toList.drop (i+2)=B at e ⊢;have li:((pendingOf st).toList.take i).length=i:=by rw [R7];omega
  generalize (pendingOf st).toList.take i=A at e li ⊢;rw [e];subst li;simp [List.set_append,List.eraseIdx_append];intro z;omega
 have lZ:Z.length=na+nb:=by rw [pz.length_eq,P2,VX (by omega),VX (by omega)]
 have lt:((arrOf st).toList.take sa).length=sa:=by rw [R7];omega
 refine q st' ⟨kd,hf,?_,?_⟩ ?_ ?_
 ·rw [ha];refine fF ?_ b.perm;have c3:=GO (arrOf st).toList (p:=sa) (n:=na) (m:=nb);have pp:=(pz.append_left ((arrOf st).toList.take sa)).append_right ((arrOf st).toList.drop (sa+na+nb));rw [<-c3] at pp;exact pp
 ·rw [hpl,ha];refine Stk.append.mpr ⟨sa,k1.same ?_,rfl,by omega,?_,?_⟩
  ·rw [P6,J8 (by omega),R5 (l:=(arrOf st).toList.take sa) (by omega)]
  ·unfold seg;rw [P6,J7 (by omega),B1 (by omega),C7,J8 (by omega),R5 (by omega)];exact sz'
  ·rw [<-K6];refine k2.shift ?_;have:((arrOf st).toList.take sa++Z).length=sa+na+nb:=by rw [P2,lt,lZ];omega
   rw [J7 (by omega),B1 (as:=(arrOf st).toList.take sa++Z) (by omega),C7]
 ·rw [<-M9,<-M9,hpl];have:(pendingOf st).toList.length=((pendingOf st).toList.take i++(sa,na,pw)::(sa+na,nb,pw2)::(pendingOf st).toList.drop (i+2)).length:=congrArg W4 e;rw [this];simp only [P2,R0];omega
 ·rw [ha];have c1:((arrOf st).toList.take sa++Z).length=sa+na+nb:=by rw [P2,lt,lZ];omega
  have c2:sa+na+nb<=lo:=by omega
  rw [List.drop_append,B1 (as:=(arrOf st).toList.take sa++Z) (by omega),C7,Q1,c1]
  congr 1;omega
theorem Bt.run {Z:List P8}{n:Nat}{s1 s2:T9}(b:Bt R κ l0 lo s1)(hlo:lo<=l0.length)(ar:Arr s1 s2)(L:Lies s2 ((arrOf s1).toList.take lo) Z (((arrOf s1).toList.drop lo).drop n))(p:Z.Perm (((arrOf s1).toList.drop lo).take n))(sr:Srt R Z)(hn:n<=l0.length-lo):Bt R κ l0 lo s2/\Srt R (seg (arrOf s2).toList lo n):=by
 have ln:(arrOf s1).toList.length=l0.length:=b.perm.length_eq;have lP:((arrOf s1).toList.take lo).length=lo:=by rw [R7];omega
 have lZ:Z.length=n:=by rw [p.length_eq,R7,S8];omega
 have e:(arrOf s2).toList=(arrOf s1).toList.take lo++Z++((arrOf s1).toList.drop lo).drop n:=L;refine⟨⟨ar.1.trans b.kind,ar.2.2.1.trans b.failed,?_,?_⟩,?_⟩
 ·rw [e];refine fF ?_ b.perm;have pp:=(p.append_left ((arrOf s1).toList.take lo)).append_right (((arrOf s1).toList.drop lo).drop n);rw [P6 _ (((arrOf s1).toList.drop lo).take n),R8,R8] at pp;exact pp
 ·rw [ar.2.1];refine b.stk.same ?_;rw [e,P6,J8 (by omega),R5 (l:=(arrOf s1).toList.take lo) (by omega)]
 ·rw [e];unfold seg;rw [P6,J7 (by omega),B1 (by omega),C7,J8 (by omega),R5 (by omega)];exact sr
theorem Bt.push {n:Nat}{s:T9}(b:Bt R κ l0 lo s)(n1:1<=n)(g:Srt R (seg (arrOf s).toList lo n)):Bt R κ l0 (lo+n) (setPending s ((pendingOf s).push (lo,n,0))):=by
 refine⟨b.kind,b.failed,b.perm,?_⟩;show Stk R (arrOf s).toList ((pendingOf s).push (lo,n,0)).toList 0 (lo+n);rw [U4];exact Stk.append.mpr ⟨lo,b.stk,rfl,n1,g,rfl⟩
theorem Stk.mod {f:Nat×Nat×Nat->Nat×Nat×Nat}(hf: ∀x,(f x).1=x.1/\(f x).2.1=x.2.1): ∀ {pl:List (Nat×Nat×Nat)} {k s e:Nat},Stk R l pl s e->Stk R l (pl.modify k f) s e
 | [],k,s,e,h=>by rw [List.modify_nil];exact h
 |(p,n,w)::rest,0,s,e,⟨a,b,c,d⟩=>by
  rw [List.modify_zero_cons];have e1:=(hf (p,n,w)).1;have e2:=(hf (p,n,w)).2;generalize f (p,n,w)=x at e1 e2;obtain⟨p',n',w'⟩:=x;dsimp only at e1 e2;subst e1 e2;exact⟨a,b,c,d⟩
 |(p,n,w)::rest,k+1,s,e,⟨a,b,c,d⟩=>by
  rw [List.modify_succ_cons];exact⟨a,b,c,d.mod hf⟩
theorem Bt.mod {k:Nat}{s:T9}{f:Nat×Nat×Nat->Nat×Nat×Nat}(b:Bt R κ l0 lo s)(hf: ∀x,(f x).1=x.1/\(f x).2.1=x.2.1):Bt R κ l0 lo (setPending s ((pendingOf s).modify k f)):=by
 refine⟨b.kind,b.failed,b.perm,?_⟩;show Stk R (arrOf s).toList ((pendingOf s).modify k f).toList 0 lo;rw [Array.toList_modify];exact b.stk.mod hf
theorem Op (c:Bool)(x:Nat):(if c=true then x-1 else x)<=x:=by cases c<;>simp
theorem Sk {st:T9}{Q:Unit->T9->Prop}(ak:Qh prog w A J κ U R)(o:Ordd U R)(u: ∀x∈l0,U x)(kd:kindOf st=κ)(hf:failedOf st=none)(hp:pendingOf st= #[])(hl:(arrOf st).toList=l0)
 (q: ∀st',failedOf st'=none->(arrOf st').toList.Perm l0->Srt R (arrOf st').toList->Q () st'):Tm prog w A E J sortRuns' Q st:=by
 have b0:Bt R κ l0 0 st:=⟨kd,hf,by rw [hl],by rw [hp];rfl⟩;rw [sortRuns'_eq];refine .bind (.get ?_);dsimp only;rw [b0.size];generalize minRun' l0.length l0.length 0=mr;refine .bind (Tm.mono (Tm.range (λi c s1=>c.1=none/\c.2<=l0.length/\i<=c.2/\Bt R κ l0 c.2 s1) (Q:=λc s1=>c.1=none/\Bt R κ l0 l0.length s1) (T4 _) ⟨rfl,T4 _,T4 _,b0⟩ ?_ ?_) ?_)
 ·rintro i ⟨r,lo⟩ s1 hi ⟨hr,h1,h2,b⟩;dsimp only at hr h1 h2 b ⊢;subst hr
  by_cases z1:lo>=l0.length
  ·rw [if_pos z1];have:lo=l0.length:=by omega
   subst this;exact .pure ⟨rfl,b⟩
  rw [if_neg z1];have ln:(arrOf s1).toList.length=l0.length:=b.perm.length_eq;have lP:((arrOf s1).toList.take lo).length=lo:=by rw [R7];omega
  have lT:((arrOf s1).toList.drop lo).length=l0.length-lo:=by rw [S8,ln]
  have uT: ∀x∈(arrOf s1).toList.drop lo,U x:=λx hx=>u x (b.perm.mem_iff.mp (N7 hx))
  have ct:=λ{Q}=>Om (prog:=prog) (w:=w) (A:=A) (E:=E) (J:=J) (Q:=Q) (st:=s1) (P:=(arrOf s1).toList.take lo) (T:=(arrOf s1).toList.drop lo) ak b.kind o uT (by unfold Lies;rw [B7,R8]) (by omega)
  rw [lP,lT] at ct;refine .bind (ct λn s2 Z n1 n2 ar L p sr=> ?_);dsimp only
  by_cases z2:n<mr
  ·rw [if_pos z2];have bn:=λ{Q}=>KI (prog:=prog) (w:=w) (A:=A) (E:=E) (J:=J) (Q:=Q) (st:=s2) (P:=(arrOf s1).toList.take lo) (T:=(arrOf s1).toList.drop lo) (n:=min (l0.length-lo) mr) ak (ar.1.trans b.kind) o uT L p sr n1 (by omega) (by omega)
   rw [lP] at bn;refine .bind (.rule (.bind (bn λs3 Z3 ar3 L3 p3 sr3=> ?_)));obtain⟨B,G⟩:=b.run h1 (ar.trans ar3) L3 p3 sr3 (by omega);have N1:1<=min (l0.length-lo) mr:=by omega
   rw [if_neg (by decide)];refine .bind (.get ?_);split
   ·refine .bind (Tm.mono (Tm.range (λj c s4=>c.1=none/\Bt R κ l0 lo s4/\Srt R (seg (arrOf s4).toList lo (min (l0.length-lo) mr))) (Q:=λc s4=>c.1=none/\Bt R κ l0 lo s4/\Srt R (seg (arrOf s4).toList lo (min (l0.length-lo) mr))) (T4 _) ⟨rfl,B,G⟩ ?_ (λ_ _ h=>h)) ?_)
    ·rintro j ⟨r,c⟩ s4 hj ⟨hr,B4,G4⟩;dsimp only at hr ⊢;subst hr;refine .bind (.get ?_);split
     ·rename_i older heq;split
      ·exact .pure ⟨rfl,B4,G4⟩
      ·have two:(pendingOf s4).size>1:=J0 λz=>by rw [if_neg z] at heq;cases heq
       refine .bind (Bt.merge ak o u B4 h1 (by omega) λs5 B5 _ dr=> ?_);refine .pure ⟨rfl,B5,?_⟩;unfold seg at G4 ⊢;rw [dr];exact G4
     ·exact .pure ⟨rfl,B4,G4⟩
    ·rintro ⟨r,c⟩ s4 ⟨hr,B4,G4⟩;dsimp only at hr ⊢;subst hr;dsimp only;refine .bind (.modify (.bind (.modify (.pure ⟨rfl,?_,?_,Bt.push (Bt.mod B4 λx=>⟨rfl,rfl⟩) N1 G4⟩))))
     ·dsimp only;omega
     ·dsimp only;omega
   ·refine .bind (.modify (.pure ⟨rfl,?_,?_,Bt.push B N1 G⟩))
    ·dsimp only;omega
    ·dsimp only;omega
  ·rw [if_neg z2];obtain⟨B,G⟩:=b.run h1 ar L p sr n2;have N1:=n1;refine .bind (.get ?_);split
   ·refine .bind (Tm.mono (Tm.range (λj c s4=>c.1=none/\Bt R κ l0 lo s4/\Srt R (seg (arrOf s4).toList lo (n))) (Q:=λc s4=>c.1=none/\Bt R κ l0 lo s4/\Srt R (seg (arrOf s4).toList lo (n))) (T4 _) ⟨rfl,B,G⟩ ?_ (λ_ _ h=>h)) ?_)
    ·rintro j ⟨r,c⟩ s4 hj ⟨hr,B4,G4⟩;dsimp only at hr ⊢;subst hr;refine .bind (.get ?_);split
     ·rename_i older heq;split
      ·exact .pure ⟨rfl,B4,G4⟩
      ·have two:(pendingOf s4).size>1:=J0 λz=>by rw [if_neg z] at heq;cases heq
       refine .bind (Bt.merge ak o u B4 h1 (by omega) λs5 B5 _ dr=> ?_);refine .pure ⟨rfl,B5,?_⟩;unfold seg at G4 ⊢;rw [dr];exact G4
     ·exact .pure ⟨rfl,B4,G4⟩
    ·rintro ⟨r,c⟩ s4 ⟨hr,B4,G4⟩;dsimp only at hr ⊢;subst hr;dsimp only;refine .bind (.modify (.bind (.modify (.pure ⟨rfl,?_,?_,Bt.push (Bt.mod B4 λx=>⟨rfl,rfl⟩) N1 G4⟩))))
     ·dsimp only;omega
     ·dsimp only;omega
   ·refine .bind (.modify (.pure ⟨rfl,?_,?_,Bt.push B N1 G⟩))
    ·dsimp only;omega
    ·dsimp only;omega
 ·rintro ⟨r,lo⟩ s1 ⟨hr,h1,h2,b⟩;dsimp only at hr h1 h2 b;have:lo=l0.length:=by omega
  subst this;exact⟨hr,b⟩
 ·rintro ⟨r,lo⟩ s1 ⟨hr,b⟩;dsimp only at hr ⊢;subst hr;dsimp only;have le0:=b.stk.le;have lp0:(pendingOf s1).toList.length=(pendingOf s1).size:=by simp
  refine .bind (Tm.mono (Tm.range (λj c s4=>c.1=none/\Bt R κ l0 l0.length s4/\(pendingOf s4).size+j<=l0.length) (Q:=λc s4=>c.1=none/\Bt R κ l0 l0.length s4/\(pendingOf s4).size<=1) (T4 _) ⟨rfl,b,by omega⟩ ?_ (λc s4 ⟨x,y,z⟩=>⟨x,y,by omega⟩)) ?_)
  ·rintro j ⟨r,c⟩ s4 hj ⟨hr,B4,z4⟩;dsimp only at hr ⊢;subst hr;refine .bind (.get ?_)
   by_cases c1:(pendingOf s4).size<=1
   ·rw [if_pos c1];exact .pure ⟨rfl,B4,c1⟩
   rw [if_neg c1];refine .bind (Bt.merge ak o u B4 (P0 _) (aI (Nat.add_le_add_right (Op _ _) 1) (by omega)) λs5 B5 z5 _=> ?_);exact .pure ⟨rfl,B5,by omega⟩
  ·rintro ⟨r,c⟩ s4 ⟨hr,B4,z4⟩;dsimp only at hr ⊢;subst hr;refine .pure (q s4 B4.failed B4.perm ?_);have stk:=B4.stk;have ln:(arrOf s4).toList.length=l0.length:=B4.perm.length_eq;have lp:(pendingOf s4).toList.length=(pendingOf s4).size:=by simp
   generalize (pendingOf s4).toList=pl at stk lp
   match pl,stk,lp with
   | [],e,_=>
    have:l0.length=0:=e.symm;have:(arrOf s4).toList= []:=W0.mp (by omega);rw [this];exact .nil
   | [(p,n,_)],⟨e1,_,sr,e2⟩,_=>
    subst e1;have en:n=l0.length:=by have:0+n=l0.length:=e2;omega
    unfold seg at sr;rw [aY,R5 (by omega)] at sr;exact sr
   |_::_::_,_,h=>simp only [R0] at h;omega
end
section
variable {prog:S3}{w:N2}{A:M7}{E:G3->G6->Prop}{s:G6}{κ:SortKind}{U:P8->Prop}{R:P8->P8->Bool}
def KJ (s:G6)(a:Addr)(h':Heap):Prop:= ∀b o,b≠a->s.heap.get? b=some o->h'.get? b=some o
def Only (s:G6)(h':Heap):G6->Prop:=λs'=> ∃tk,s'= {s with heap:=h',toks:=tk}
theorem Oq {M:l8}{α β:Type}{c:Prop}[Decidable c]{m m':Sem α}{F:α->Sem β}{Q:β->G6->Prop}(h:wpAny M A ((if c then m else m') >>= F) Q E s):wpAny M A (if c then m >>= F else m' >>= F) Q E s:=by
 by_cases z:c
 ·rw [if_pos z] at h ⊢;exact h
 ·rw [if_neg z] at h ⊢;exact h
theorem WX (vs:List G3):(vs.toArray.zip vs.toArray).toList=vs.map λv=>(v,v):=by
 rw [Array.toList_zip];show vs.zip vs=_
 induction vs with
 |nil=>rfl
 |cons v vs ih=>rw [K8,ih,T3]
theorem Os {a:Addr}{vs:List G3}{n:Nat}{P:Fin->G6->Prop}(ho:s.heap.get? a=some (seqObj "list" vs.toArray n))(hz:vs.length<=sizeLine)
 (hk:2<=vs.length-> ∀h',KJ s a h'->wpAny (model prog w) A (keyKind' vs.toArray) (λk s'=>k=κ/\Only s h' s') (λ_ _=>False) {s with heap:=h'})(ak: ∀h',KJ s a h'->Qh prog w A (Only s h') κ U R)(o:Ordd U R)(u: ∀v∈vs,U (v,v))
 (q: ∀ (out:List G3) (c tk:Nat) (h':Heap),KJ s a h'->h'.get? a=some (seqObj "list" out.toArray c)->out.Perm vs->(out.map λv=>(v,v)).Pairwise (λx y=>R y x=false)->P (.done (.ret .none)) {s with heap:=h',toks:=tk}):
 wpAny (model prog w) A (Builtin.«list.sort» ⟨[.ref a],[]⟩) P E s:=by
 have alt:=P9 ho;have sv:vs.toArray.size=vs.length:=D1 ..;rw [list_sort_plain];refine wpAny_bind (nK ho rfl ?_);obtain⟨c1,ho1⟩: ∃c,(s.heap.update a (V5 λ_=>(#[]:Array G3))).get? a=some (seqObj "list" #[] c):=⟨_,lS ho λ_=> #[]⟩;refine wpAny_bind (mX ho rfl ?_ (by rw [sv];exact hz) (T4 _));refine wpAny_bind (oA ho1 rfl ?_);refine wpAny_bind (mL ?_ hz);refine wpAny_bind (gO ?_ (T4 _));refine A2 ?_;have past:KJ s a (((s.heap.update a (V5 λ_=>(#[]:Array G3))).push {cls:= .type "tuple",data:= .seq vs.toArray.toList.toArray}).push {cls:= .type "list",data:= .seq ([]:List G3).toArray}):=λb x ne e=>by
  refine G7 _ (G7 _ ?_);rw [b9 _ _ _ _ ne];exact e
 have ho3:=G7 ({cls:= .type "list",data:= .seq ([]:List G3).toArray}:Obj) (G7 ({cls:= .type "tuple",data:= .seq vs.toArray.toList.toArray}:Obj) ho1);revert past ho3;generalize ((s.heap.update a (V5 λ_=>(#[]:Array G3))).push ({cls:= .type "tuple",data:= .seq vs.toArray.toList.toArray}:Obj)).push ({cls:= .type "list",data:= .seq ([]:List G3).toArray}:Obj)=H3;intro past ho3;have kd:wpAny (model prog w) A (if vs.toArray.size<2 then pure general' else keyKind' vs.toArray) (λk s0=>(2<=vs.length->k=κ)/\Only s H3 s0) (λ_ _=>False) {s with heap:=H3}:=by
  by_cases c:vs.toArray.size<2
  ·rw [if_pos c];exact P7 ⟨λz=>by omega,s.toks,rfl⟩
  ·rw [if_neg c];exact S6 (hk (by omega) H3 past) (λk s0 x=>⟨λ_=>x.1,x.2⟩) λ_ _ e=>e
 have rn: ∀k s0,(2<=vs.length->k=κ)->Only s H3 s0->wpAny (model prog w) A ((if vs.toArray.size<2 then pure () else sortRuns':StateT T9 Sem Unit).run (SortSt.mk' k (vs.toArray.zip vs.toArray) #[] 7 none)) (λr s'=>(failedOf r.2=none/\(arrOf r.2).toList.Perm (vs.map λv=>(v,v))/\Srt R (arrOf r.2).toList)/\Only s H3 s') E s0:=by
  intro k s0 ek j
  by_cases c:vs.toArray.size<2
  ·rw [if_pos c,StateT.run_pure];refine P7 ⟨⟨rfl,?_,?_⟩,j⟩
   ·show (vs.toArray.zip vs.toArray).toList.Perm _;rw [WX]
   ·show Srt R (vs.toArray.zip vs.toArray).toList;rw [WX];rw [sv] at c
    match vs,c with
    | [],_=>exact List.Pairwise.nil
    | [v],_=>exact N8 _ _
  ·rw [if_neg c];have ek:=ek (by omega);subst ek;refine Sk (E:=E) (ak H3 past) o (l0:=vs.map λv=>(v,v)) (st:=SortSt.mk' k (vs.toArray.zip vs.toArray) #[] 7 none) (λx hx=> ?_) rfl rfl rfl (WX vs) (Q:=λ_ st'=>failedOf st'=none/\(arrOf st').toList.Perm (vs.map λv=>(v,v))/\Srt R (arrOf st').toList) (λst' a1 a2 a3=>⟨a1,a2,a3⟩) s0 j;obtain⟨v,hv,rfl⟩:=D6.mp hx;exact u v hv
 dsimp only;refine Oq (wpAny_bind (S6 kd (λk s0 x=> ?_) λ_ _ e=>e.elim));refine wpAny_bind (S6 (rn k s0 x.1 x.2) ?_ λ_ _ e=>e);rintro ⟨⟨⟩,st'⟩ s1 ⟨⟨hf,hp,hs⟩,tk,rfl⟩;dsimp only;have eo:((arrOf st').map λx=>x.2)=((arrOf st').toList.map λx=>x.2).toArray:=by
  rw [<-Array.toList_map,Array.toArray_toList]
 have two:(arrOf st').toList=((arrOf st').toList.map λx=>x.2).map λv=>(v,v):=by
  rw [R3];refine(bK _).symm.trans (S7 λx hx=> ?_);obtain⟨v,_,rfl⟩:=D6.mp (hp.mem_iff.mp hx);rfl
 have po:((arrOf st').toList.map λx=>x.2).Perm vs:=by
  have:=hp.map λx=>x.2
  rw [R3] at this;refine this.trans ?_;rw [show ((λx:P8=>x.2)∘λv:G3=>(v,v))=id from rfl,bK]
 rw [two] at hs;rw [eo];generalize (arrOf st').toList.map (λx=>x.2)=out at hs po;obtain⟨c2,ho4⟩: ∃c,(H3.update a (V5 λ_=>out.toArray)).get? a=some (seqObj "list" out.toArray c):=⟨_,lS ho3 λ_=>out.toArray⟩;refine wpAny_bind (oA (s:= {s with heap:=H3,toks:=tk}) ho3 rfl ?_);refine wpAny_bind (mX (s:= {s with heap:=H3,toks:=tk}) ho3 rfl ?_ (T4 _) (by rw [D1,po.length_eq];exact Nat.le_succ_of_le hz));rw [hf];simp only [bne_self_eq_false,gW,if_false];refine P7 (q out c2 tk _ (λb x ne e=> ?_) ho4 po hs);rw [b9 _ _ _ _ ne];exact past b x ne e
abbrev VZ (h h':Heap):Prop:= ∀b o,h.get? b=some o->h'.get? b=some o
theorem MW {l:Addr}{vs:List G3}{Q:G3->G6->Prop}(hl:s.heap.IsList l vs.toArray)(hz:vs.length<sizeLine)
 (hk:2<=vs.length-> ∀h',VZ s.heap h'->wpAny (model prog w) A.in1.in1 (keyKind' vs.toArray) (λk s'=>k=κ/\Only s h' s') (λ_ _=>False) {s with heap:=h'})(ak: ∀h',VZ s.heap h'->Qh prog w A.in1.in1 (Only s h') κ U R)(o:Ordd U R)(u: ∀v∈vs,U (v,v))
 (q: ∀ (h1 h':Heap) (tk c:Nat) (out:List G3),VZ s.heap h1->VZ h1 h'->h'.get? h1.objs.size=some (seqObj "list" out.toArray c)->out.Perm vs->(out.map λv=>(v,v)).Pairwise (λx y=>R y x=false)->Q (.ref h1.objs.size) {s with heap:=h',toks:=tk}):
 wpAny (model prog w) A (call (.builtin "sorted") [.ref l]) Q E s:=by
 refine Calls.call_function_entry nX nB nC (nD _) (wpAny_bind (P7 (wpAny_bind (collect_list hl ?_ (by omega)))));have k1:VZ s.heap ((s.heap.push (seqObj "list" #[] 0)).update s.heap.objs.size (V5 (· ++vs.toArray))):=λb x e=>by
  rw [b9 _ _ _ _ (S0 (P9 e))];exact G7 _ e
 revert k1;generalize (s.heap.push (seqObj "list" #[] 0)).update s.heap.objs.size (V5 (· ++vs.toArray))=H1;intro k1;have fresh:(H1.push (seqObj "list" vs.toArray 0)).get? H1.objs.size=some (seqObj "list" vs.toArray 0):=D7 _ rfl;have kp: ∀h',KJ {s with heap:=H1.push (seqObj "list" vs.toArray 0)} H1.objs.size h'->VZ H1 h':=λh' p b x e=>p b x (S0 (P9 e)) (G7 _ e)
 refine wpAny_bind (gO (wpAny_bind (A2 (L5 mH ⟨_,fresh,rfl⟩ lL (Os (s:= {s with heap:=H1.push (seqObj "list" vs.toArray 0)}) (κ:=κ) (U:=U) (R:=R) fresh (R1 hz) (λh2 h' p=>hk h2 h' λb x e=>kp h' p b x (k1 b x e)) (λh' p=>ak h' λb x e=>kp h' p b x (k1 b x e)) o u λout c tk h' p e1 e2 e3=>⟨_,rfl,?_⟩) (mI _)))) (R1 hz));exact P7 ⟨_,rfl,q H1 h' tk c out k1 (kp h' p) e1 e2 e3⟩
end
theorem WY: ∀a b:List Int,zg a b=true->zg b a=false
 | [],[],h=>rfl
 | [],_::_,_=>rfl
 |_::_,[],h=>by cases h
 |x::xs,y::ys,h=>by
  unfold zg at h ⊢
  by_cases e:x=y
  ·subst e;rw [if_pos rfl] at h ⊢;exact WY xs ys h
  ·rw [if_neg e] at h;rw [if_neg (A4 e)];have:=of_decide_eq_true h;exact decide_eq_false (by omega)
theorem Ua: ∀a b c:List Int,zg a c=true->zg a b=true\/zg b c=true
 | [],[],c,h=> .inr h
 | [],_::_,_,_=> .inl rfl
 |_::_,_,[],h=>by cases h
 |x::xs,[],z::zs,h=> .inr rfl
 |x::xs,y::ys,z::zs,h=>by
  unfold zg at h ⊢
  by_cases e:x=z
  ·subst e;rw [if_pos rfl] at h
   by_cases f:x=y
   ·subst f;rw [if_pos rfl,if_pos rfl];exact Ua xs ys zs h
   ·rw [if_neg f,if_neg (A4 f)]
    by_cases g:x<y
    ·exact .inl (decide_eq_true g)
    ·exact .inr (decide_eq_true (by omega))
  ·rw [if_neg e] at h;have lt:=of_decide_eq_true h
   by_cases f:x=y
   ·subst f;rw [if_neg e];exact .inr h
   ·rw [if_neg f]
    by_cases g:x<y
    ·exact .inl (decide_eq_true g)
    ·refine .inr ?_;rw [if_neg (by omega)];exact decide_eq_true (by omega)
theorem Ub: ∀a b:List Int,zg a b=false->zg b a=false->a=b
 | [],[],_,_=>rfl
 | [],_::_,h,_=>by cases h
 |_::_,[],_,h=>by cases h
 |x::xs,y::ys,h,h'=>by
  unfold zg at h h'
  by_cases e:x=y
  ·subst e;rw [if_pos rfl] at h h';rw [Ub xs ys h h']
  ·rw [if_neg e] at h;rw [if_neg (A4 e)] at h';have:=of_decide_eq_false h;have:=of_decide_eq_false h';omega
theorem Cr {U:P8->Prop}(key:G3->List Int):Ordd U (λx y=>zg (key x.1) (key y.1)):=⟨λx y _ _ h=>WY _ _ h,λx y z _ _ _ h=>Ua _ _ _ h⟩
def IT (h:Heap)(v:G3)(ns:List Int):Prop:= ∃a its,v= .ref a/\gH h a its/\A5 its.toList ns
theorem IT.keeps {h h':Heap}{v:G3}{ns:List Int}(x:IT h v ns)(k:VZ h h'):IT h' v ns:=let ⟨a,its,e,t,i⟩:=x;⟨a,its,e,t.keeps k,i⟩
theorem RL: ∀ {vs:List G3} {ns ms:List Int},A5 vs ns->A5 vs ms->ns=ms
 |_,_,_,.nil,.nil=>rfl
 |_,_,_,.cons n t a,.cons _ _ b=>by rw [RL a b]
theorem IT.one {h:Heap}{v:G3}{ns ms:List Int}(x:IT h v ns)(y:IT h v ms):ns=ms:=by
 obtain⟨a,its,rfl,⟨o,e,c,n,d⟩,i⟩:=x;obtain⟨a',its',e2,⟨o',e',c',n',d'⟩,i'⟩:=y;cases e2;rw [e] at e';cases e';rw [d] at d';cases d';exact RL i i'
open Classical in
noncomputable def zZ (h:Heap)(v:G3):List Int:=if e: ∃ns,IT h v ns then e.choose else []
theorem IT.nums {h:Heap}{v:G3}{ns:List Int}(x:IT h v ns):zZ h v=ns:=by
 have e: ∃ns,IT h v ns:=⟨ns,x⟩;unfold zZ;rw [dif_pos e];exact e.choose_spec.one x
section
variable {prog:S3}{w:N2}{A:M7}{E:G3->G6->Prop}{s:G6}
theorem Wv {α β:Type}{M:l8}{f:α->Sem β}(r:α->β): ∀ (l:List α) {Q:List β->G6->Prop},(∀v∈l,∀Q':β->G6->Prop,Q' (r v) s->wpAny M A (f v) Q' E s)->Q (l.map r) s->wpAny M A (l.mapM f) Q E s
 | [],_,_,q=>by
  rw [List.mapM_nil];exact P7 q
 |v::l,Q,hf,q=>by
  rw [List.mapM_cons];refine wpAny_bind (hf v D0 _ (wpAny_bind ?_));exact Wv r l (λu hu=>hf u (D5 _ hu)) (P7 q)
def wj (h:Heap):G3->Option G3
 | .ref a=>match h.get? a with
  |some o=>match o.data with
   | .seq xs _=>xs[0]?
   |_=>none
  |none=>none
 |_=>none
variable {v:G3}{ns:List Int}
theorem Ot {Q:Option G3->G6->Prop}(x:IT s.heap v ns)(q:Q (wj s.heap v) s):wpAny (model prog w) A (firstOfTuple' v) Q E s:=by
 obtain⟨a,its,rfl,⟨o,e,c,n,d⟩,i⟩:=x;have fe:wj s.heap (.ref a)=its[0]? :=by
  unfold wj;dsimp only;rw [e];dsimp only;rw [d]
 rw [PySem.W.kas_first_eq];refine wpAny_bind (PySem.W.Looks.here (show PySem.W.Looks (model prog w) s.heap (typeOf (.ref a)) o.cls from (PySem.W.Looks.ld e).andThen .now) ?_);rw [c,if_neg (by decide)];refine wpAny_bind (nK e d (P7 ?_));rw [<-fe];exact q
variable {h:Heap}
theorem MX (x:IT h v []):wj h v=none:=by
 obtain⟨a,its,rfl,⟨o,e,c,n,d⟩,i⟩:=x;unfold wj;dsimp only;rw [e];dsimp only;rw [d];dsimp only;obtain⟨l⟩:=its;cases i;rfl
theorem Xs {n:Int}(x:IT h v (n::ns)): ∃t,wj h v=some (.int n t):=by
 obtain⟨a,its,rfl,⟨o,e,c,k,d⟩,i⟩:=x;obtain⟨l⟩:=its;cases i with
 |cons _ t i=>exact⟨t,by unfold wj;dsimp only;rw [e];dsimp only;rw [d];rfl⟩
theorem Ou (x:IT h v ns):(wj h v).isSome= !ns.isEmpty:=by
 cases ns with
 |nil=>rw [MX x];rfl
 |cons n ns=>obtain⟨t,e⟩:=Xs x;rw [e];rfl
noncomputable def Cs (h:Heap)(vs:List G3):SortKind:=
 if (vs.all λv=> !(zZ h v).isEmpty)=true then tuples' true else if ((vs[0]?.map λv=> !(zZ h v).isEmpty)=some true) then general' else oneType'
theorem Ct {vs:List G3}(h2:2<=vs.length)(x: ∀v∈vs,∃ns,IT h v ns){Q:SortKind->G6->Prop}(e:VZ h s.heap)(q:Q (Cs h vs) s):wpAny (model prog w) A (keyKind' vs.toArray) Q E s:=by
 have fr: ∀v∈vs,(wj s.heap v).isSome= !(zZ h v).isEmpty:=λv hv=>by
  obtain⟨ns,t⟩:=x v hv;rw [t.nums,Ou (t.keeps e)]
 rw [keyKind'_eq,dJ,map_eq_pure_bind];refine wpAny_bind (wpAny_bind (Wv (wj s.heap) vs (λv hv Q' q'=> ?_) (P7 ?_)))
 ·obtain⟨ns,t⟩:=x v hv;exact Ot (t.keeps e) q'
 have all_:((vs.map (wj s.heap)).toArray.all λo=>o.isSome)=vs.all λv=> !(zZ h v).isEmpty:=by
  rw [dX,A6];rw [T7,S1,S1];exact⟨λz v hv=>by rw [<-fr v hv];exact z v hv,λz v hv=>by show (wj s.heap v).isSome=true;rw [fr v hv];exact z v hv⟩
 rw [all_];unfold Cs at q
 by_cases a1:(vs.all λv=> !(zZ h v).isEmpty)=true
 ·rw [if_pos a1] at q;rw [if_pos a1];refine wpAny_bind (bD ?_);obtain⟨fs,efs,nums,ne⟩: ∃fs:List G3,vs.map (wj s.heap)=fs.map some/\(∀f∈fs,∃n t,f=bC n t)/\fs.length=vs.length:=by
   have go: ∀l:List G3,(∀v∈l,v∈vs)-> ∃fs:List G3,l.map (wj s.heap)=fs.map some/\(∀f∈fs,∃n t,f=bC n t)/\fs.length=l.length:=by
    intro l
    induction l with
    |nil=>exact λ_=>⟨[],rfl,λf hf=>absurd hf C8,rfl⟩
    |cons v l ih=>
     intro sub;obtain⟨fs,e1,e2,e3⟩:=ih λu hu=>sub u (D5 _ hu)
     have hv:=sub v D0;obtain⟨ns,t⟩:=x v hv;have ne:=S1.mp a1 v hv;rw [t.nums] at ne;cases ns with
     |nil=>cases ne
     |cons n ns=>
      obtain⟨tk,ef⟩:=Xs (t.keeps e);refine⟨.int n tk::fs,by rw [T3,T3,ef,e1],λf hf=> ?_,by rw [R0,R0,e3]⟩;rcases R6.mp hf with rfl|hf
      ·exact⟨n,tk,rfl⟩
      ·exact e2 f hf
   exact go vs λ_ hv=>hv
  rw [efs];have fm:((fs.map some).toArray.filterMap id)=fs.toArray:=by simp
  rw [fm,lU,dJ,map_eq_pure_bind];refine wpAny_bind (wpAny_bind (wpAny_bind (Wv (λ_=>J3 "int") fs (λf hf Q' q'=> ?_) (P7 ?_))))
  ·obtain⟨n,t,rfl⟩:=nums f hf;exact P7 q'
  ·match fs,ne with
   | [],ne=>rw [M1] at ne;omega
   |f::fs,_=>
    have h0:(dS (λ_=>J3 "int") (f::fs)).toArray[0]? =some (J3 "int"):=by simp
    have h1:((dS (λ_=>J3 "int") (f::fs)).toArray.all λy=>y==J3 "int")=true:=by
     rw [dX,A6,S1];exact λ_ _=>rfl
    rw [h0];simp only [h1,if_true];exact P7 (P7 q)
 rw [if_neg a1] at q;rw [if_neg a1]
 match vs,h2,x,fr,q with
 |v::vs,h2,x,fr,q=>
  have h0:((dS (wj s.heap) (v::vs)).toArray[0]?.bind id).isSome= !(zZ h v).isEmpty:=by
   rw [<-fr v D0];simp
  rw [h0];have h0':(((v::vs)[0]?.map λv=> !(zZ h v).isEmpty)=some true)↔(!(zZ h v).isEmpty)=true:=by simp
  by_cases a2:(!(zZ h v).isEmpty)=true
  ·rw [if_pos (h0'.mpr a2)] at q;rw [if_pos a2];exact P7 q
  rw [if_neg λz=>a2 (h0'.mp z)] at q;rw [if_neg a2];rw [lU,dJ,map_eq_pure_bind];refine wpAny_bind (wpAny_bind (wpAny_bind (Wv (λ_=>J3 "tuple") (v::vs) (λf hf Q' q'=> ?_) (P7 ?_))))
  ·obtain⟨ns,t⟩:=x f hf;obtain⟨a,its,rfl,⟨o,e1,c,n,d⟩,i⟩:=t.keeps e;refine PySem.W.Looks.here (show PySem.W.Looks (model prog w) s.heap (typeOf (.ref a)) o.cls from (PySem.W.Looks.ld e1).andThen .now) ?_;rw [c];exact q'
  ·have h3:(dS (λ_=>J3 "tuple") (v::vs)).toArray[0]? =some (J3 "tuple"):=by simp
   have h1:((dS (λ_=>J3 "tuple") (v::vs)).toArray.all λy=>y==J3 "tuple")=true:=by
    rw [dX,A6,S1];exact λ_ _=>rfl
   rw [h3];simp only [h1,if_true];exact P7 (P7 q)
theorem RM {fin:Bool}{Q:Bool->G6->Prop}{m n:Nat}(ef:fin=decide (m<n)): ∀ {vs us:List G3} {ns ms:List Int} (i:Nat),A5 vs ns->A5 us ms->ns.length+n=ms.length+m->Q (zg ns ms) s->PySem.W.KatLex prog w A true fin Q (vs.zip us) i s
 |_,_,_,_,i,.nil,.nil,l,q=>by
  subst ef;rw [dB];refine PySem.W.kat_nil ?_;rw [decide_eq_false (by rw [M1] at l;omega)];exact q
 |_,_,_,_,i,.nil,.cons c u y,l,q=>by
  subst ef;rw [dB];refine PySem.W.kat_nil ?_;rw [decide_eq_true (by rw [M1,R0] at l;omega)];exact q
 |_,_,_,_,i,.cons a t x,.nil,l,q=>by
  subst ef;rw [gU];refine PySem.W.kat_nil ?_;rw [decide_eq_false (by rw [M1,R0] at l;omega)];exact q
 |_,_,_,_,i,.cons a t x,.cons c u y,l,q=>by
  rw [K8];rw [Xb] at q;obtain⟨e,he,hiff⟩:=Rh A s a t c u;refine PySem.W.kat_cons (he prog w _ _ ?_);refine PySem.W.kat_go (λz=>PySem.W.kat_yes ?_) λz=>PySem.W.kat_no ?_
  ·rw [if_pos (hiff.mp z)] at q;exact RM ef (i+1) x y (by rw [R0,R0] at l;omega) q
  ·rw [if_neg λz'=>by rw [hiff.mpr z'] at z;cases z] at q;cases (true&&i==0) with
   |true=>exact oneLt_int q
   |false=>exact PySem.W.kat_one _ _ (gC q)
theorem KK {u:G3}{ms:List Int}{Q:Bool->G6->Prop}(hu:A.units<cLine)(x:IT s.heap v ns)(y:IT s.heap u ms)(q:Q (zg ns ms) s):wpAny (model prog w) A (oneLt' true v u) Q E s:=by
 obtain⟨a,its,rfl,⟨⟨cls,dd,data,sl⟩,e1,c,n,d⟩,i⟩:=x;obtain⟨b,its2,rfl,⟨⟨cls2,dd2,data2,sl2⟩,e2,c2,n2,d2⟩,i2⟩:=y;simp only at c d c2 d2;subst c d c2 d2;rw [oneLt'_eq];simp only [if_true];refine wpAny_bind (wpAny_cRoomFor hu (wpAny_bind (wpAny_callSpecialIfBound?_slot ⟨_,e1,rfl⟩ PySem.F.slot_tuple_lt (cL PySem.F.slot_tuple_lt ⟨_,e1,rfl⟩ PySem.F.entry_tuple_lt (PySem.F.args_tuple_lt_2 _ _) (Wh a b its its2 n n2 dd dd2 sl sl2 ns ms i i2) ⟨e1,e2,?_⟩))));exact B8 q
theorem KL {u:G3}{ms:List Int}{Q:Bool->G6->Prop}(hu:A.units<cLine)(x:IT s.heap v ns)(y:IT s.heap u ms)(q:Q (zg ns ms) s):wpAny (model prog w) A (oneLt' false v u) Q E s:=by
 obtain⟨a,its,rfl,t,i⟩:=x;obtain⟨b,its2,rfl,t2,i2⟩:=y;exact PySem.W.kat_one _ _ (Mk t t2 i i2 hu q)
theorem Cu {vs:List G3}(hu:A.units<cLine){h':Heap}(k:VZ s.heap h'):Qh prog w A (Only s h') (Cs s.heap vs) (λx=> ∃ns,IT s.heap x.1 ns) (λx y=>zg (zZ s.heap x.1) (zZ s.heap y.1)):=by
 rintro ⟨x,x'⟩ ⟨y,y'⟩ ⟨ns,tx⟩ ⟨ms,ty⟩ s1 ⟨tk,rfl⟩;dsimp only at tx ty ⊢;have q:(zg ns ms=zg (zZ s.heap x) (zZ s.heap y)/\Only s h' {s with heap:=h',toks:=tk}):=⟨by rw [tx.nums,ty.nums],tk,rfl⟩;have kx:=tx.keeps k;have ky:=ty.keeps k;unfold Cs
 by_cases a1:(vs.all λv=> !(zZ s.heap v).isEmpty)=true
 ·rw [if_pos a1];obtain⟨a,its,rfl,⟨o,e1,c,n,d⟩,i⟩:=kx;obtain⟨b,its2,rfl,⟨o2,e2,c2,n2,d2⟩,i2⟩:=ky;refine PySem.W.kat_lt e1 d e2 d2 (RM rfl 0 i i2 ?_ q);have z1:=i.length;have z2:=i2.length;rw [M9] at z1 z2;omega
 rw [if_neg a1]
 by_cases a2:(vs[0]?.map λv=> !(zZ s.heap v).isEmpty)=some true
 ·rw [if_pos a2];show wpAny _ _ (oneLt' false x y) _ _ _;exact KL hu kx ky q
 ·rw [if_neg a2,keyLt'_oneType];exact KK hu kx ky q
theorem Dh {l:Addr}{vs:List G3}{Q:G3->G6->Prop}(hu:A.in1.in1.units<cLine)(hl:s.heap.IsList l vs.toArray)(hz:vs.length<sizeLine)(x: ∀v∈vs,∃ns,IT s.heap v ns)
 (q: ∀ (h1 h':Heap) (tk c:Nat) (out:List G3),VZ s.heap h1->VZ h1 h'->h'.get? h1.objs.size=some (seqObj "list" out.toArray c)->out.Perm vs->out.Pairwise (λx y=>zg (zZ s.heap y) (zZ s.heap x)=false)->Q (.ref h1.objs.size) {s with heap:=h',toks:=tk}):
 wpAny (model prog w) A (call (.builtin "sorted") [.ref l]) Q E s:=by
 refine MW (κ:=Cs s.heap vs) (U:=λx=> ∃ns,IT s.heap x.1 ns) (R:=λx y=>zg (zZ s.heap x.1) (zZ s.heap y.1)) hl hz (λh2 h' k=> ?_) (λh' k=>Cu hu k) (Cr _) x λh1 h' tk c out k1 k2 e1 e2 e3=>q h1 h' tk c out k1 k2 e1 e2 ?_
 ·exact Ct (s:= {s with heap:=h'}) h2 x k ⟨rfl,s.toks,rfl⟩
 ·rw [F4] at e3;exact e3
end
end HT
namespace L2
open PySem PySem.Spec PyProof.Rows PySem.SeqAt HT
theorem Uc {α β:Type}{f:α->β}: ∀ {out:List β} {l:List α},out.Perm (l.map f)-> ∃l':List α,l'.Perm l/\l'.map f=out
 | [],l,p=>by
  have e:=p.length_eq;rw [G2,M1] at e;exact⟨[],by rw [W5 e.symm],rfl⟩
 |x::out,l,p=>by
  obtain⟨y,hy,rfl⟩:=D6.mp (p.mem_iff.mp D0);obtain⟨l1,l2,rfl⟩:=g9 hy;have p2:out.Perm ((l1++l2).map f):=by
   refine oK (a:=f y) (p.trans ?_);rw [S5,S5,T3];exact dQ
  obtain⟨l',a,b⟩:=Uc p2;exact⟨y::l',(a.cons y).trans dQ.symm,by rw [T3,b]⟩
def xj (H:Hp)(v:V)(ns:List Int):Prop:= ∃a,v= .ref a/\H a=some (.tup (ns.map V.int))
theorem GP {X:Cx}{k:Nat}(hr:Room k X.A):CallR X (.builtin "sorted") (λxs H Q=> ∃ (a:Addr) (ps:List (V×List Int)),xs= [.ref a]/\SqL X.K H a (ps.map (·.1))/\ps.length<sizeLine/\(∀p∈ps,xj H p.1 p.2)/\ ∀ (q:Addr) (ps':List (V×List Int)),H q=none->ps'.Perm ps->(ps'.map (·.2)).Pairwise (λx y=>HT.zg y x=false)->Q (.ref q) (upd H q (.lst (ps'.map (·.1))))):=by
 intro pins s σ H xs us Q I r h;obtain⟨a,ps,rfl,hS,hz,ht,q⟩:=h;obtain⟨u,rfl,ru⟩:=ZD r;cases ru;obtain⟨its,rv,pl,hz'⟩:=I.list hS;obtain⟨zs,e1,e2,e3⟩: ∃zs:List (G3×V×List Int),its=zs.map (·.1)/\ps=zs.map (·.2)/\ ∀z∈zs,RelV z.2.1 z.1:=by
  clear hS q hz ht hz' pl
  induction ps generalizing its with
  |nil=>cases rv;exact⟨[],rfl,rfl,λz hz=>by cases hz⟩
  |cons p ps ih=>
   rw [T3] at rv;cases rv with
   |cons r1 r2=>
    obtain⟨zs,e1,e2,e3⟩:=ih _ r2;exact⟨(_,p)::zs,by rw [T3,<-e1],by rw [T3,<-e2],λz hz=>by
     rcases R6.mp hz with rfl|hz
     ·exact r1
     ·exact e3 z hz⟩
 subst e1 e2;have it: ∀z∈zs,IT s.heap z.1 z.2.2:=λz hm=>by
  obtain⟨b,eb,hb⟩:=ht z.2 (bX hm);have rz:=e3 z hm;rw [eb] at rz;have rz:z.1= .ref b:=rz;obtain⟨_,us,r2,p⟩:=I.hok b _ hb;exact⟨b,us.toArray,rz,p.tup,Zx r2⟩
 have hu:X.A.in1.in1.units<cLine:=by
  have:=hr.un;show X.A.units+1+1<cLine;omega
 rw [G2] at hz;refine HT.Dh hu pl.isList (by rw [G2];exact hz) (λv hv=> ?_) λh1 h' tk c out k1 k2 e4 pm srt=> ?_
 ·obtain⟨z,hm,rfl⟩:=D6.mp hv;exact⟨_,it z hm⟩
 obtain⟨zs',pz,rfl⟩:=Uc pm;have I1:=I.kept (t':=s.toks) k1;have vv: ∀l:List (G3×V×List Int),(∀z∈l,z∈zs)->Vals ((l.map (·.2)).map (·.1)) (l.map (·.1)):=λl=>by
  induction l with
  |nil=>exact λ_=> .nil
  |cons z l ih=>exact λsub=> .cons (e3 z (sub z D0)) (ih λy hy=>sub y (D5 _ hy))
 refine⟨.ref _,_,I1.laid (t':=tk) (o:= .lst ((zs'.map (·.2)).map (·.1))) k2 (P0 _) ⟨?_,_,c,vv zs' λz hm=>pz.mem_iff.mp hm,e4⟩,rfl,q _ (zs'.map (·.2)) (I1.hok.fresh (P0 _)) (pz.map _) ?_⟩
 ·rw [G2,G2,pz.length_eq];exact R1 hz
 ·rw [F4,F4];rw [F4] at srt;refine srt.imp_of_mem λ{y z} hy hz e=> ?_
  rw [<- (it y (pz.mem_iff.mp hy)).nums,<- (it z (pz.mem_iff.mp hz)).nums];exact e
abbrev tI (ns:List Int):D:= .tup (ns.map D.int)
def Sl:RDn:=λds h Q=> ∃ (a:Addr) (nss:List (List Int)),ds= [.lst a]/\h a=some (nss.map tI)/\nss.length<sizeLine/\ ∀ (p:Addr) (mss:List (List Int)),h p=none->mss.Perm nss->mss.Pairwise (λx y=>HT.zg y x=false)->Q (.lst p) (wb h p (mss.map tI))
theorem Cv {K:PySem.W.Frag}{H:Hp}: ∀ {nss:List (List Int)} {vs:List V},RelDs K H (nss.map tI) vs-> ∃ps:List (V×List Int),vs=ps.map (·.1)/\nss=ps.map (·.2)/\ ∀p∈ps,xj H p.1 p.2
 | [],vs,r=>⟨[],r,rfl,λp hp=>by cases hp⟩
 |ns::nss,vs,r=>by
  obtain⟨v,us,e,r1,r2⟩:=(show ∃v r,vs=v::r/\RelD K H (tI ns) v/\RelDs K H (nss.map tI) r from r);obtain⟨ps,e1,e2,e3⟩:=Cv r2;obtain⟨a,ws,e4,hH,r4⟩:=(show ∃a vs,v= .ref a/\H a=some (.tup vs)/\RelDs K H (ns.map D.int) vs from r1);rw [jW r4] at hH;exact⟨(v,ns)::ps,by rw [e,e1];rfl,by rw [e2];rfl,λp hp=>by
   rcases R6.mp hp with rfl|hp
   ·exact⟨a,e4,hH⟩
   ·exact e3 p hp⟩
theorem Cw {K:PySem.W.Frag}{H:Hp}: ∀ {ps:List (V×List Int)},(∀p∈ps,xj H p.1 p.2)->RelDs K H ((ps.map (·.2)).map tI) (ps.map (·.1))
 | [],_=> .nil
 |p::ps,h=> .cons (by
  obtain⟨a,e,hH⟩:=h p D0;exact⟨a,_,e,hH,vx _⟩) (Cw λq hq=>h q (D5 _ hq))
theorem MY {X:Cx}{k:Nat}(hr:Room k X.A):Jl X (.builtin "sorted") Sl:=(GP hr).imp λxs H Q ⟨ds,h,Qd,r,rh,⟨a,nss,e,hd,hz,q⟩,p⟩=>by
 subst e;obtain⟨v,e,r1⟩:=jD r;obtain⟨vs,hH,r2⟩:=rh a _ hd;have e1:v= .ref a:=r1.1;subst e e1;obtain⟨ps,rfl,rfl,ht⟩:=Cv r2;refine⟨a,ps,rfl,SqL.of hH,by rw [G2] at hz;exact hz,ht,λc ps' hc pm srt=> ?_⟩;exact p (.lst c) _ _ _ (.new hc) (rh.newL hc (Cw λx hx=>ht x (pm.mem_iff.mp hx))) ⟨rfl,_,jy⟩ (q c _ (rh.free hc) (pm.map _) srt)
abbrev toI (S:List Nat):List Int:=S.map λ(k:Nat)=>(k:Int)
theorem Sm {S S':List Nat}(h:toI S=toI S'):S=S':=by
 have:=congrArg (dS mZ) h;rw [R3,R3] at this;have e:(mZ∘λ(k:Nat)=>(k:Int))=id:=by funext k;exact dE k
 rw [e,bK,bK] at this;exact this
theorem Aq (S:List Nat):tI (toI S)=jC S:=by
 show D.tup _=D.tup _;rw [R3];rfl
def leS (a b:List Nat):Bool:= !HT.zg (toI b) (toI a)
theorem Cy (a b c:List Nat)(h:leS a b=true)(h':leS b c=true):leS a c=true:=by
 unfold leS at*
 cases e:HT.zg (toI c) (toI a) with
 |false=>rfl
 |true=>
  rcases Ua _ (toI b) _ e with z|z
  ·rw [z] at h';cases h'
  ·rw [z] at h;cases h
theorem Cz (a b:List Nat):(leS a b||leS b a)=true:=by
 unfold leS;cases e:HT.zg (toI b) (toI a) with
 |false=>rfl
 |true=>rw [WY _ _ e];rfl
theorem Ov {a b:List Nat}(h:leS a b=true)(h':leS b a=true):a=b:=by
 unfold leS at*
 refine Sm (Ub _ _ ?_ ?_)
 ·cases e:HT.zg (toI a) (toI b) with
  |false=>rfl
  |true=>rw [e] at h';cases h'
 ·cases e:HT.zg (toI b) (toI a) with
  |false=>rfl
  |true=>rw [e] at h;cases h
def CA (l:List (List Nat)):List (List Nat):=l.mergeSort leS
theorem Zl (l:List (List Nat)):(CA l).Perm l:=List.mergeSort_perm _ _
theorem MZ (l:List (List Nat)):(CA l).Pairwise λa b=>leS a b=true:=List.pairwise_mergeSort Cy Cz l
theorem CB {l P:List (List Nat)}(p:P.Perm l)(r:P.Pairwise λa b=>leS a b=true):P=CA l:=
 aC (λa b _ _ x y=>Ov x y) r (MZ l) (p.trans (Zl l).symm)
theorem CC {l:List (List Nat)}{mss:List (List Int)}(p:mss.Perm (l.map toI))(r:mss.Pairwise λx y=>HT.zg y x=false):mss.map tI=(CA l).map jC:=by
 obtain⟨P,pP,rfl⟩:=Uc p;rw [F4] at r;rw [<-CB pP (r.imp λe=>by unfold leS;rw [e];rfl),R3];exact S7 λS _=>Aq S
end L2
namespace L2
open PySem PySem.Spec PyProof.Rows PySem.SeqAt
theorem RN: ∀l:List Int,L8 (l.map W7)=true
 | []=>rfl
 |x::l=>by show (H0 (.int x)&&_)=true;rw [RN l];rfl
variable {h:HD}
theorem Sn {neg:Bool}{x:Nat}{S:List Nat}{Q:KD}(q: ∀b:Bool,(b=true↔x∈S)->Q (.bl (neg !=b)) h):inE neg (.int (x:Int)) (jC S) h Q:=by
 refine⟨.int x,(zU S).map W7,rfl,.inr (VN h S),rfl,RN _,(by show (0:Nat)<=60;decide),q _ ?_⟩;rw [W3];constructor
 ·rintro ⟨z,hz,e⟩;obtain⟨m,hm,rfl⟩:=D6.mp hz;obtain⟨y,hy,rfl⟩:=D6.mp (show m∈S.map λ(k:Nat)=>(k:Int) from hm);have:(y:Int)=x:=by simpa [M8] using e
  have:y=x:=by omega
  exact this ▸ hy
 ·intro z;exact⟨.int x,D6.mpr ⟨_,D6.mpr ⟨x,z,rfl⟩,rfl⟩,by simp [M8]⟩
theorem Qi {h':HD}{a:Addr}(sb:Sub h h')(e:h' a=none):h a=none:=by
 cases z:h a with
 |none=>rfl
 |some ds=>rw [sb a ds z] at e;cases e
theorem Sub.over {h':HD}{a:Addr}{ds:List D}(sb:Sub h h')(e:h a=none):Sub h (wb h' a ds):=⟨λb xs k=>jz (λz=>by subst z;rw [e] at k;cases k) (sb b xs k),sb.dc⟩
theorem So {x:Nat}{S:List Nat}{Q:KD}(q:Q (.bl (!decide (x∈S))) h):inE true (.int (x:Int)) (jC S) h Q:=Sn λbo hb=>by
 have:(true !=bo)= !decide (x∈S):=by
  cases bo with
  |true=>rw [decide_eq_true (hb.mp rfl)];rfl
  |false=>rw [decide_eq_false λz=>by have:=hb.mpr z;cases this];rfl
 rw [this];exact q
structure GB (n:Nat)(h0 h:HD)(R:Addr)(rs:List Addr)(f:Nat->Nat->Bool):Prop where
 at_:h R=some (rs.map D.lst)
 len:rs.length=n
 nR:R ∉ rs
 nd:rs.Nodup
 sb:Sub h0 h
 row: ∀i a,rs[i]? =some a->h0 a=none/\h a=some ((G0 n).map λj=>D.bl (f i j))
section
variable {n:Nat}{h0 h:HD}{R:Addr}{rs:List Addr}{f g:Nat->Nat->Bool}
theorem GB.put (G:GB n h0 h R rs f){i j:Nat}{a:Addr}{v:Bool}(ha:rs[i]? =some a):GB n h0 (wb h a (((G0 n).map λj=>D.bl (f i j)).set j (.bl v))) R rs (λx y=>if x=i/\y=j then v else f x y):=by
 have hm:=P4 ha;have il:=(P3.mp ha).1;refine⟨jz (λz=>G.nR (z ▸ hm)) G.at_,G.len,G.nR,G.nd,G.sb.over (G.row i a ha).1,λx b hb=>⟨(G.row x b hb).1,?_⟩⟩
 by_cases z:x=i
 ·subst z;have eb:b=a:=by rw [ha] at hb;injection hb with hb;exact hb.symm
  subst eb;rw [jc];refine congrArg some (W1 (by simp) λm h1 h2=> ?_);rw [j6];simp only [K7,F8]
  by_cases e:j=m
  ·subst e;simp
  ·rw [if_neg e,if_neg λw=>e w.2.symm]
 ·have ne:b≠a:=λw=>z ((iM (P3.mp hb).1 G.nd).mp (hb.trans (by rw [w];exact ha.symm)))
  rw [jz ne (G.row x b hb).2];exact congrArg some (S7 λy _=>by rw [if_neg λw=>z w.1])
theorem GB.pick (G:GB n h0 h R rs f){i:Nat}(hi:i<n): ∃a,rs[i]? =some a/\atI (rs.map D.lst) (i:Int)=some (.lst a)/\h a=some ((G0 n).map λj=>D.bl (f i j)):=by
 have hi':i<rs.length:=by rw [G.len];exact hi
 exact⟨rs[i],G1 hi',zG (by rw [P1,G1 hi'];rfl),(G.row i _ (G1 hi')).2⟩
theorem GB.as (G:GB n h0 h R rs f)(e: ∀i j,i<n->j<n->f i j=g i j):GB n h0 h R rs g:=
 ⟨G.at_,G.len,G.nR,G.nd,G.sb,λi a ha=>⟨(G.row i a ha).1,by
  have hi:i<n:=by rw [<-G.len];exact(P3.mp ha).1
  rw [(G.row i a ha).2];exact congrArg some (S7 λj hj=>by rw [e i j hi (G8.mp hj)])⟩⟩
theorem GB.up (G:GB n h0 h R rs f){h':HD}(s:Sub h h'):GB n h0 h' R rs f:=⟨s _ _ G.at_,G.len,G.nR,G.nd,G.sb.trans s,λi a ha=>⟨(G.row i a ha).1,s _ _ (G.row i a ha).2⟩⟩
end
variable {n j:Nat}
theorem RO {f:Nat->Bool}(hj:j<n):atI ((G0 n).map λj=>D.bl (f j)) (j:Int)=some (.bl (f j)):=VQ hj
def wk (T:List (List Int)):Nat->Nat->Nat->Bool
 |0,i,j=>decide (i=j)|| !decide (ent T i j=0)
 |b+1,i,j=>wk T b i j||(wk T b i b&&wk T b b j)
theorem Qj (T:List (List Int)): ∀b i,wk T b i i=true
 |0,i=>by unfold wk;rw [decide_eq_true rfl];rfl
 |b+1,i=>by unfold wk;rw [Qj T b i];rfl
theorem Ar (T:List (List Int))(b i:Nat):wk T (b+1) i b=wk T b i b:=by
 show (wk T b i b||(wk T b i b&&wk T b b b))=_;cases wk T b i b<;>rfl
theorem As (T:List (List Int))(b j:Nat):wk T (b+1) b j=wk T b b j:=by
 show (wk T b b j||(wk T b b b&&wk T b b j))=_;cases wk T b b j<;>cases wk T b b b<;>rfl
variable {T:List (List Int)}{i:Nat}
theorem RQ (h:ent T i j≠0): ∀b,wk T b i j=true
 |0=>by unfold wk;rw [decide_eq_false h];simp
 |b+1=>by unfold wk;rw [RQ h b];rfl
theorem wk_by {b:Nat}:wk T (b+1) i j=true↔wk T b i j=true\/(wk T b i b=true/\wk T b b j=true):=by
 show (wk T b i j||(wk T b i b&&wk T b b j))=true↔_;rw [aE,M6]
theorem yW: ∀ {b i k j:Nat},k<b->wk T b i k=true->wk T b k j=true->wk T b i j=true
 |b+1,i,k,j,hk,x,y=>by
  by_cases e:k=b
  ·subst e;rw [Ar] at x;rw [As] at y;exact wk_by.mpr (.inr ⟨x,y⟩)
  ·have lt:k<b:=by omega
   rcases wk_by.mp x with x|⟨x1,x2⟩
   ·rcases wk_by.mp y with y|⟨y1,y2⟩
    ·exact wk_by.mpr (.inl (yW lt x y))
    ·exact wk_by.mpr (.inr ⟨yW lt x y1,y2⟩)
   ·rcases wk_by.mp y with y|⟨y1,y2⟩
    ·exact wk_by.mpr (.inr ⟨x1,yW lt x2 y⟩)
    ·exact wk_by.mpr (.inr ⟨x1,y2⟩)
theorem Vk {P:Nat->Nat->Prop}(r: ∀i,P i i)(a: ∀i j,ent T i j≠0->P i j)(t: ∀i k j,P i k->P k j->P i j): ∀ {b i j:Nat},wk T b i j=true->P i j
 |0,i,j,h=>by
  have h:(decide (i=j)|| !decide (ent T i j=0))=true:=h;rw [aE] at h;rcases h with h|h
  ·rw [of_decide_eq_true h];exact r j
  ·exact a i j λz=>by rw [decide_eq_true z] at h;cases h
 |b+1,i,j,h=>by
  rcases wk_by.mp h with h|⟨h1,h2⟩
  ·exact Vk r a t h
  ·exact t _ _ _ (Vk r a t h1) (Vk r a t h2)
theorem Sr {e:Nat}(h:Sq n e T)(i j:Nat)(z:ent T i j≠0):j<n:=by
 by_cases hj:j<n
 ·exact hj
 ·exfalso;apply z;unfold ent
  by_cases hi:i<T.length
  ·have hr:=h.row (T.getD i []) (by rw [P5,G1 hi];exact S9 hi);rw [P5,N3 (by rw [hr];omega)];rfl
  ·rw [P5 (l:=T),N3 (by omega)];rfl
def fW (T:List (List Int))(b i j x y:Nat):Bool:=if x<i\/(x=i/\y<j) then wk T (b+1) x y else wk T b x y
theorem KM (T:List (List Int))(b i j x:Nat):fW T b i j x b=wk T b x b:=by
 unfold fW;rw [Ar]
 by_cases c:x<i\/(x=i/\b<j)
 ·rw [if_pos c]
 ·rw [if_neg c]
theorem KN (T:List (List Int))(b i j y:Nat):fW T b i j b y=wk T b b y:=by
 unfold fW;rw [As]
 by_cases c:b<i\/(b=i/\y<j)
 ·rw [if_pos c]
 ·rw [if_neg c]
theorem KO {b:Nat}(h1:wk T b i b=true)(h2:wk T b b j=true)(x y:Nat):(if x=i/\y=j then true else fW T b i j x y)=fW T b i (j+1) x y:=by
 by_cases e:x=i/\y=j
 ·obtain⟨rfl,rfl⟩:=e;unfold fW;rw [if_pos ⟨rfl,rfl⟩,if_pos (.inr ⟨rfl,L6 _⟩)];exact(wk_by.mpr (.inr ⟨h1,h2⟩)).symm
 ·rw [if_neg e];unfold fW
  by_cases c:x<i\/(x=i/\y<j)
  ·rw [if_pos c,if_pos (by omega)]
  ·rw [if_neg c,if_neg (by omega)]
theorem CF {b:Nat}(h: ¬ (wk T b i b=true/\wk T b b j=true))(x y:Nat):fW T b i j x y=fW T b i (j+1) x y:=by
 unfold fW
 by_cases c:x<i\/(x=i/\y<j)
 ·rw [if_pos c,if_pos (by omega)]
 ·rw [if_neg c]
  by_cases e:x=i/\y=j
  ·obtain⟨rfl,rfl⟩:=e;rw [if_pos (by omega),T7,wk_by];exact⟨.inl,λz=>z.resolve_right h⟩
  ·rw [if_neg (by omega)]
theorem Su (T:List (List Int))(b i x y:Nat)(hy:y<n):fW T b i n x y=fW T b (i+1) 0 x y:=by
 unfold fW
 by_cases c:x<i\/(x=i/\y<n)
 ·rw [if_pos c,if_pos (by omega)]
 ·rw [if_neg c,if_neg (by omega)]
theorem KP (T:List (List Int))(b x y:Nat)(hx:x<n):fW T b n 0 x y=wk T (b+1) x y:=by
 unfold fW;rw [if_pos (.inl hx)]
theorem Sv (T:List (List Int))(b x y:Nat):wk T b x y=fW T b 0 0 x y:=by
 unfold fW;rw [if_neg (by omega)]
section
variable {X:Cx}{iter iter' elt:Expr}{te:TED}{ti ti':TID}{tt tt':TTD}{pos spos:Pos}{scope:J6}{js:List Nat}{ifs ifs':List Expr}
theorem Sw {i i' k:Nat}{x z y:Str}{p pz py:Pos}(hc:X.calm=true)(hN:X.N.Nodup)(hk:X.N[k]? =some y)(hy:Loc X.env.scope y)(S:BlockOk X scope js)(hi:JI X (.Name x p) iter ti)(hj:i∈js)(hj':i'∈js)(hne:i≠i')(hx:X.N[i]? =some x)(hz:X.N[i']? =some z)
 (hl:scope.names.lookup x=some .local\/scope.names.lookup x=some .cell)(hl':scope.names.lookup z=some .local\/scope.names.lookup z=some .cell)
 (ht: ∀X',jp X scope X'->PTs X' ifs (LT X'.K tt))(hi': ∀X',jp X scope X'->JI X' (.Name z pz) iter' ti')(ht': ∀X',jp X scope X'->PTs X' ifs' (LT X'.K tt'))(he: ∀X',jp X scope X'->JE X' elt te)
 (hsw:swapsWith (.ListComp elt [⟨.Name x p,iter,ifs,0⟩,⟨.Name z pz,iter',ifs',0⟩] scope pos) (some (.Name y py)) spos.line X.env=pure true:=by rfl)
 (hf:X.fn y=true\/X.env.scope.names.lookup y=some .local:=by first|exact .inl rfl|exact .inr rfl|assumption)(hs: ∀x,foldedSetIterable iter X.env x=pure x:=by intro _;rfl)(hs': ∀env x,foldedSetIterable iter' env x=pure x:=by intro _ _;rfl):
 JS X (.Assign [.Name y py] (.ListComp elt [⟨.Name x p,iter,ifs,0⟩,⟨.Name z pz,iter',ifs',0⟩] scope pos) spos) (FD k (Mt (bN i) js ti tt i' ti' tt' te)):=by
 have base:PS X (.Assign [.Name y py] (.ListComp elt [⟨.Name x p,iter,ifs,0⟩,⟨.Name z pz,iter',ifs',0⟩] scope pos) spos) (OX (Hn js (LI X.K ti) (wM i) (LT X.K tt) (LI X.K ti') (wM i') (LT X.K tt') (LE X.K te)) (wM k)):=
  NW hc S hi.to rfl (λX' hX=>by obtain⟨C,s₀,H₀,ex,rfl⟩:=hX;exact ww hN hx hl) (λX' hX=>by have:=ht X' hX;obtain⟨C,s₀,H₀,ex,rfl⟩:=hX;exact this)
   (λenv acc=>Mp (.ListComp elt [⟨.Name x p,iter,ifs,0⟩,⟨.Name z pz,iter',ifs',0⟩] scope pos) iter' env acc) (λ_ _ _=>NY ..)
   (λX' hX D=>by
    have a:=(hi' X' hX).to;have b:=ht' X' hX;have c:=(he X' hX).to;obtain⟨C,s₀,H₀,ex,rfl⟩:=hX;exact NX (g:=wM i') hc rfl a (ww hN hz hl') b c (hs' _))
   (vg hN hk hy hf) hsw hs
 exact⟨base.imp λD σ H h=>by
  obtain⟨oW,hd,Qd,rs,rh,t,p⟩:=Bc (K:=X.K) D σ H h;exact Be (Ae hj hj' hne) σ H _ ⟨oW,hd,Qd,rs,rh,t,p⟩⟩
end
def Sx (g:Nat->Nat->Bool)(w:List Nat)(j:Nat):Bool:=g (w.getLastD 0) j&&(decide (w.headD 0<j)&& !decide (j∈w))
def ks (g:Nat->Nat->Bool)(n:Nat)(w:List Nat):List (List Nat):=((G0 n).filter (Sx g w)).map λj=>w++ [j]
def lev (g:Nat->Nat->Bool)(n:Nat):Nat->List (List Nat)
 |0=>(G0 n).map λi=> [i]
 |t+1=>(lev g n t).flatMap (ks g n)
variable {α:Type}
theorem yM {p q:α->Bool}(h: ∀a,p a=true->q a=true): ∀l:List α,(l.filter p).Sublist (l.filter q)
 | []=> .slnil
 |a::l=>by
  cases e:p a with
  |true=>rw [E2 e,E2 (h a e)];exact(yM h l).cons₂ a
  |false=>
   rw [K2 (by rw [e];exact D2)];cases e':q a with
   |true=>rw [E2 e'];exact(yM h l).cons a
   |false=>rw [K2 (by rw [e'];exact D2)];exact yM h l
theorem Ud {β:Type}{f g:α->List β}(h: ∀a,(f a).Sublist (g a)): ∀ {l m:List α},l.Sublist m->(l.flatMap f).Sublist (m.flatMap g)
 |_,_,.slnil=> .slnil
 |_,_,.cons a s=>by rw [C9];exact(Ud h s).trans (List.sublist_append_right _ _)
 |_,_,.cons₂ a s=>by rw [C9,C9];exact(h a).append (Ud h s)
variable {g:Nat->Nat->Bool}
theorem Vl {g':Nat->Nat->Bool}(h: ∀i j,g i j=true->g' i j=true)(n:Nat): ∀t,(lev g n t).Sublist (lev g' n t)
 |0=>List.Sublist.refl _
 |t+1=>Ud (λw=>(yM (λj e=>by
  unfold Sx at*
  rw [M6] at*
  exact⟨h _ _ e.1,e.2⟩) (G0 n)).map _) (Vl h n t)
def ku:Nat->Nat->Bool:=λ_ _=>true
theorem Sy: ∀n,n<=6-> ∀t,t<=6->(lev ku n t).length<=144:=by decide +kernel
variable {t:Nat}
theorem CG (h6:n<=6)(ht:t<=6):(lev g n t).length<=144:=R9 (Vl (λ_ _ _=>rfl) n t).length_le (Sy n h6 t ht)
theorem Ow (n:Nat)(h6:n<=6):lev ku n n= []:=by
 have: ∀n,n<=6->lev ku n n= []:=by decide +kernel
 exact this n h6
theorem Sz (h6:n<=6):lev g n n= []:=W5 (Nat.le_zero.mp (by rw [<-M1 (α:=List Nat),<-Ow n h6];exact(Vl (λ_ _ _=>rfl) n n).length_le))
theorem KQ (h:lev g n t= []):lev g n (t+1)= []:=by
 show (lev g n t).flatMap _= [];rw [h];rfl
structure LevOk (n t:Nat)(w:List Nat):Prop where
 len:w.length=t+1
 lt: ∀i∈w,i<n
 nd:w.Nodup
 low: ∀i∈w,w.headD 0<=i
theorem Xt: ∀ {t:Nat} {w:List Nat},w∈lev g n t->LevOk n t w
 |0,w,h=>by
  obtain⟨i,hi,rfl⟩:=D6.mp h;exact⟨rfl,λj hj=>by rw [G9.mp hj];exact G8.mp hi,N8 _ _,λj hj=>by rw [G9.mp hj];exact P0 _⟩
 |t+1,w,h=>by
  obtain⟨v,hv,hw⟩:=dY.mp h;have o:=Xt hv;obtain⟨j,hj,rfl⟩:=D6.mp hw;obtain⟨hj1,hj2⟩:=T6.mp hj;unfold Sx at hj2;rw [M6,M6] at hj2;obtain⟨_,h3,h4⟩:=hj2;have h3:=of_decide_eq_true h3;have h4:j ∉ v:=λz=>by rw [decide_eq_true z] at h4;cases h4
  have hd:(v++ [j]).headD 0=v.headD 0:=by
   cases v with
   |nil=>have:=o.len;cases this
   |cons a v=>rfl
  refine⟨by rw [P2,o.len];rfl,λi hi=> ?_,?_,λi hi=> ?_⟩
  ·rcases D9.mp hi with z|z
   ·exact o.lt i z
   ·rw [G9.mp z];exact G8.mp hj1
  ·exact V1.mpr ⟨o.nd,N8 _ _,λa ha b hb e=>by rw [G9.mp hb] at e;subst e;exact h4 ha⟩
  ·rw [hd];rcases D9.mp hi with z|z
   ·exact o.low i z
   ·rw [G9.mp z];exact R1 h3
def Xu (g:Nat->Nat->Bool)(n:Nat):Nat->List (List Nat)
 |0=> []
 |t+1=>Xu g n t++(lev g n t).filter λw=>g (w.getLastD 0) (w.headD 0)
def Jm (T:List (List Int))(i j:Nat):Bool:=decide (ent T i j>0)
def rounds (T:List (List Int))(n:Nat):List (List Nat):=CA (Xu (Jm T) n n)
theorem GR {g':Nat->Nat->Bool}(h: ∀i j,g i j=true->g' i j=true)(n:Nat): ∀t,(Xu g n t).length<=(Xu g' n t).length
 |0=>P0 _
 |t+1=>by
  show (Xu g n t++_).length<=(Xu g' n t++_).length;rw [P2,P2];exact mM (GR h n t) (((Vl h n t).filter _).trans (yM (λw e=>h _ _ e) _)).length_le
theorem SA: ∀n,n<=6-> ∀t,t<=6->(Xu ku n t).length<=415:=by decide +kernel
theorem RR (h6:n<=6)(ht:t<=6):(Xu g n t).length<=415:=R9 (GR (λ_ _ _=>rfl) n t) (SA n h6 t ht)
theorem GS: ∀ {t:Nat} (k:Nat),lev g n t= []->Xu g n (t+k)=Xu g n t/\lev g n (t+k)= []
 |t,0,h=>⟨rfl,h⟩
 |t,k+1,h=>by
  obtain⟨a,b⟩:=GS k h;refine⟨?_,KQ b⟩;show Xu g n (t+k)++(lev g n (t+k)).filter _=_;rw [b,a,fG,B7]
variable {w:List Nat}
theorem RS (h:w.length=t+1):atI (w.map λ(k:Nat)=>D.int (k:Int)) 0=some (.int ((w.headD 0:Nat):Int)):=by
 cases w with
 |nil=>cases h
 |cons a w=>exact zG (j:=0) rfl
theorem At (h:w.length=t+1):atI (w.map λ(k:Nat)=>D.int (k:Int)) (-1)=some (.int ((w.getLastD 0:Nat):Int)):=by
 refine Qg (by rw [G2];omega) ?_;rw [G2,P1,O7,O8,G1 (by omega)];rfl
theorem CH (h:w.length=t+1):w.getLastD 0∈w:=by
 rw [O7,O8,G1 (by omega)];exact S9 _
theorem Ox (h:w.length=t+1):w.headD 0∈w:=by
 cases w with
 |nil=>cases h
 |cons a w=>exact D0
variable {β:Type}
theorem CI (f:α->List β){xs:List α}{k:Nat}{x:α}(h:xs[k]? =some x):(xs.take (k+1)).flatMap f=(xs.take k).flatMap f++f x:=by
 rw [T8,h,O9];simp
theorem CJ (p:α->Bool)(g:α->β){xs:List α}{k:Nat}{x:α}(h:xs[k]? =some x):((xs.take (k+1)).filter p).map g=((xs.take k).filter p).map g++if p x=true then [g x] else []:=by
 rw [T8,h,A8,S5]
 congr 1
 by_cases c:p x=true
 ·rw [if_pos c];simp [c]
 ·rw [if_neg c];simp [c]
theorem Yz (f:α->List β)(xs:List α)(k:Nat):((xs.take k).flatMap f).length<=(xs.flatMap f).length:=by
 conv=>rhs;rw [<-R8 k xs,O9,P2]
 omega
section
variable {α β:Type}{i i':Nat}{js:List Nat}{ti ti':TID}{tt':TTD}{te:TED}{σ:SD}{h:HD}{Q:KD}{j:ItD}
theorem KR (xs:List α)(c:α->D)(ys:α->List β)(c':β->D)(p:α->β->Bool)(g:α->β->D)(hz:(xs.flatMap λx=>((ys x).filter (p x)).map (g x)).length<=sizeLine)(hj: ∀h',Sub h h'->j h'=some (xs.map c))(ht: ∀R:ItD->HD->Prop,R j h->ti σ h R)
 (hin: ∀x∈xs,∀h',Sub h h'-> ∀R:ItD->HD->Prop,(∀j' h2,Sub h' h2->(∀h3,Sub h2 h3->j' h3=some ((ys x).map c'))->R j' h2)->ti' ((jI js σ).set i (some (c x))) h' R)
 (hp: ∀x∈xs,∀y∈ys x,∀h',Sub h h'-> ∀Q':Bool->HD->Prop,Q' (p x y) h'->tt' (((jI js σ).set i (some (c x))).set i' (some (c' y))) h' Q')
 (he: ∀x∈xs,∀y∈ys x,p x y=true-> ∀h',Sub h h'-> ∀Q':KD,Q' (g x y) h'->te (((jI js σ).set i (some (c x))).set i' (some (c' y))) h' Q')
 (hq: ∀a h',Sub h h'->h' a=none->Q (.lst a) (wb h' a (xs.flatMap λx=>((ys x).filter (p x)).map (g x)))):Mt (bN i) js ti vt i' ti' tt' te σ h Q:=by
 refine ht _ ⟨xs.length,λk zs h'=>Sub h h'/\zs=(xs.take k).flatMap λx=>((ys x).filter (p x)).map (g x),⟨Sub.refl h,rfl⟩,?_⟩;rintro k zs h1 ⟨s1,rfl⟩;refine⟨R9 (Yz _ xs k) hz,xs.map c,hj h1 s1,by rw [G2];exact P0 _,λhl a ha=> ?_,λd hd=> ?_⟩
 ·rw [G2] at hl;rw [R5 hl];exact hq a h1 s1 ha
 rw [P1] at hd;cases ex:xs[k]? with
 |none=>rw [ex] at hd;cases hd
 |some x=>
  rw [ex] at hd;injection hd with hd
  subst hd;have mx:=P4 ex;refine⟨_,rfl,?_⟩;unfold vt;refine vq ?_;refine hin x mx h1 s1 _ λj' h2 s2 hj'=>⟨(ys x).length,λm zs h'=>Sub h2 h'/\zs=((xs.take k).flatMap λx=>((ys x).filter (p x)).map (g x))++(((ys x).take m).filter (p x)).map (g x),⟨Sub.refl h2,by simp⟩,?_⟩
  rintro m zs h3 ⟨s3,rfl⟩;have s03:Sub h h3:=(s1.trans s2).trans s3;have tk:=CI (λx=>((ys x).filter (p x)).map (g x)) ex;refine⟨?_,(ys x).map c',hj' h3 s3,by rw [G2];exact P0 _,λhl=> ?_,λd hd=> ?_⟩
  ·refine R9 ?_ (R9 (Yz (λx=>((ys x).filter (p x)).map (g x)) xs (k+1)) hz);rw [tk,P2,P2,G2,G2];have:=(Q9 m (ys x)).filter (p x) |>.length_le;omega
  ·rw [G2] at hl;refine⟨h3,Sub.refl _,s03,?_⟩;rw [tk,R5 hl]
  ·rw [P1] at hd;cases ey:(ys x)[m]? with
   |none=>rw [ey] at hd;cases hd
   |some y=>
    rw [ey] at hd;injection hd with hd
    subst hd;have my:=P4 ey;have tf:=CJ (p x) (g x) ey;refine hp x mx y my h3 s03 _ ?_
    by_cases cp:p x y=true
    ·rw [if_pos cp] at tf ⊢;refine he x mx y my cp h3 s03 _ ⟨h3,Sub.refl _,s3,?_⟩;rw [tf,P6]
    ·rw [if_neg cp] at tf ⊢;refine⟨h3,Sub.refl _,s3,?_⟩;rw [tf,B7]
end
end L2
namespace L2
open PySem PySem.Spec PyProof.Rows PySem.SeqAt HT
open Classical in
noncomputable def readOf (h:Heap)(v:G3):K5:=if e: ∃p as,p.canLay0=true/\Reads h v p as then e.choose else .none
end L2
namespace L2
open PySem PySem.Spec PyProof.Rows
def s5:Nat->Nat
 |0=>0
 |d+1=>5*s5 d+1
def f5 (N:Nat):Nat->Nat->Nat
 |0,a=>a
 |d+1,a=>(f5 N d a*5+1)%N
theorem RT: ∀ (fuel k n:Nat),3<=k-> ∃m,3<=m/\SetTable.sizeAbove.go n fuel (2^k)=2^m/\(n<2^(k+fuel)->n<2^m)
 |0,k,n,h=>⟨k,h,rfl,λz=>z⟩
 |fuel+1,k,n,h=>by
  unfold SetTable.sizeAbove.go
  by_cases c:2^k<=n
  ·rw [if_pos c,<-nH];obtain⟨m,a,b,d⟩:=RT fuel (k+1) n (by omega);exact⟨m,a,b,λz=>d (by rw [Nat.add_right_comm,K6];exact z)⟩
  ·rw [if_neg c];exact⟨k,h,rfl,λ_=>by omega⟩
theorem above {n:Nat}(h:n<2^67): ∃m,aN n=2^m/\n<aN n/\8<=aN n:=by
 obtain⟨m,a,b,c⟩:=RT 64 3 n (by decide);have b:aN n=2^m:=b;refine⟨m,b,by rw [b];exact c h,?_⟩;rw [b];exact bJ (show 0<2 by decide) a
end L2
namespace L2
open PySem PySem.Spec PyProof.Rows HT
def SB (h h':Heap):Prop:= ∀ (b:Addr) (o:Obj),o.cls= .type "tuple" ->h.get? b=some o->h'.get? b=some o
structure MemK (prog:S3)(w:N2)(K:Type)[DecidableEq K] where
 is:Heap->K->Addr->Prop
 hash:K->Int
 inj: ∀ {h:Heap} {x y:K} {a:Addr},is h x a->is h y a->x=y
 keep: ∀ {h h':Heap} {x:K} {a:Addr},SB h h'->is h x a->is h' x a
 hashed: ∀ {A:M7} {E:G3->G6->Prop} {s:G6} {x:K} {a:Addr} {Q:Int->G6->Prop},A.units+8<cLine->is s.heap x a->(∀tk,Q (hash x) {s with toks:=tk})->wpAny (model prog w) A (pyHash (.ref a)) Q E s
 same: ∀ {A:M7} {E:G3->G6->Prop} {s:G6} {x y:K} {a b:Addr} {Q:Bool->G6->Prop},A.units+8<cLine->is s.heap x a->is s.heap y b->Q (decide (x=y)) s->wpAny (model prog w) A (eqBool (.ref a) (.ref b)) Q E s
 quiet: ∀ {A:M7} {E:G3->G6->Prop} {s:G6} {x:K} {a:Addr} {Q:Bool->G6->Prop},is s.heap x a->Q true s->wpAny (model prog w) A (eqIsQuiet 8 (.ref a)) Q E s
 cls: ∀ {A:M7} {E:G3->G6->Prop} {s:G6} {x:K} {a:Addr} {Q:Bool->G6->Prop},is s.heap x a->Q false s->wpAny (model prog w) A (ofAClassStatement 8 (.ref a)) Q E s
 byv: ∀ {A:M7} {E:G3->G6->Prop} {s:G6} {x:K} {a:Addr} {Q:Bool->G6->Prop},is s.heap x a->Q true s->wpAny (model prog w) A (hashByValue 8 (.ref a)) Q E s
section
variable {prog:S3}{w:N2}{A:M7}{E:G3->G6->Prop}{s:G6}{K:Type}[DecidableEq K]
theorem GT: ∀ {xs ys:List K},xs.Nodup->(∀x∈xs,x∈ys)->xs.length<=ys.length
 | [],_,_,_=>T4 _
 |x::xs,ys,nd,h=>by
  obtain⟨n1,n2⟩:=K3.mp nd;have le:=GT (ys:=ys.erase x) n2 λy hy=>(fV (λ(e:y=x)=>n1 (by rw [<-e];exact hy))).mpr (h y (.tail _ hy))
  rw [dL (h x (.head _))] at le;have pos:=eU (h x (.head _));rw [R0];omega
end
end L2
namespace L2
open PySem PySem.Spec PyProof.Rows PySem.SeqAt HT
def pcS (T:List (List Int))(n p:Nat):List Nat:=(G0 n).filter λj=>wk T n p j&&wk T n j p
def UR (T:List (List Int))(n:Nat):List (List Nat):=((G0 n).filter λp=>decide ((pcS T n p).headD 0=p)).map (pcS T n)
section
variable {T:List (List Int)}{n e:Nat}
theorem KS (p:Nat):IsS n (pcS T n p):=⟨_,rfl⟩
variable {p:Nat}
theorem mem_pc {j:Nat}:j∈pcS T n p↔j<n/\wk T n p j=true/\wk T n j p=true:=by
 unfold pcS;rw [T6,G8,M6]
theorem CK (hp:p<n):p∈pcS T n p:=mem_pc.mpr ⟨hp,Qj T n p,Qj T n p⟩
theorem SC {q:Nat}(hp:p<n)(h:q∈pcS T n p):pcS T n q=pcS T n p:=by
 obtain⟨hq,h1,h2⟩:=mem_pc.mp h;refine(KS q).ext (KS p) λj=> ?_
 rw [mem_pc,mem_pc];exact⟨λ⟨a,b,c⟩=>⟨a,yW hq h1 b,yW hq c h2⟩,λ⟨a,b,c⟩=>⟨a,yW hp h2 b,yW hp c h1⟩⟩
theorem CL (hp:p<n): ∃r,pcS T n p=(pcS T n p).headD 0::r:=by
 cases h:pcS T n p with
 |nil=>have:=CK (T:=T) hp;rw [h] at this;cases this
 |cons x r=>exact⟨r,rfl⟩
theorem SE (hp:p<n):(pcS T n p).headD 0<n/\pcS T n ((pcS T n p).headD 0)=pcS T n p:=by
 obtain⟨r,h⟩:=CL (T:=T) hp;have m:(pcS T n p).headD 0∈pcS T n p:=by
  generalize (pcS T n p).headD 0=x at h;rw [h];exact D0
 exact⟨(mem_pc.mp m).1,SC hp m⟩
theorem mem_pcs {S:List Nat}:S∈UR T n↔ ∃p,p<n/\S=pcS T n p:=by
 unfold UR;rw [D6];constructor
 ·rintro ⟨p,hp,rfl⟩;exact⟨p,G8.mp (T6.mp hp).1,rfl⟩
 ·rintro ⟨p,hp,rfl⟩;obtain⟨a,b⟩:=SE (T:=T) hp;exact⟨(pcS T n p).headD 0,T6.mpr ⟨G8.mpr a,decide_eq_true (by rw [b])⟩,b⟩
end
end L2
namespace L2
open PySem PySem.Spec PyProof.Rows PySem.W
structure DefIn (K:Frag)(x:Str)(st:Stmt)(f:Addr)(fd:D8):Prop where
 at_:nsIn K mainGlobals x=some (some (.ref f))
 fn:Fun K x x st f fd
variable {K:Frag}{h base:Heap}{mg:Str->Option G3}{x:Str}{st:Stmt}{f:Addr}{fd:D8}{P:S3}{w:N2}{n:Nat}{ps:List Str}
theorem KT {oc:G3}{od an:Option Addr}{osl:Array (Option G3)}{kV doc pm cdv ct:G3}(a:nsIn K mainGlobals x=some (some (.ref f)))(l:K.lookup f=some ⟨oc,od,.func (fnOf x x (Jt st) (yh st) (je st) .none kV doc pm an cdv ct),osl⟩)
 (c:codeIn K cdv x=true)(k:keepIn K (.ref f)=true):DefIn K x st f (fnOf x x (Jt st) (yh st) (je st) .none kV doc pm an cdv ct):=⟨a,Hk l c k⟩
abbrev xk (x:Str)(st:Stmt)(ps:List Str):Prop:= ∀ (kV doc pm:G3) (an:Option Addr) (cdv ct:G3) (us:List G3),us.length=ps.length->bindArgs (fnOf x x (Jt st) (yh st) (je st) .none kV doc pm an cdv ct) ⟨us,[]⟩=pure (ps.zip us)
theorem DefIn.nm (d:DefIn K x st f fd)(X:K.In h)(G:h.Ns mainGlobals mg):mg x=some (.ref f):=mg_of X G d.at_
theorem DefIn.cal {sp:RDn}(d:DefIn K x st f fd)(l:OpenLaw)(w:N2)(base:Heap)(X:K.In h)(G:h.Ns mainGlobals mg)(ok:FnOk l.prog w K mg base CX0 n f fd ps (LSp K sp))(b:xk x st ps:=by first|(exact λ_ _ _ _ _ _ us hl=>match us,hl with| [_],_=>rfl)|(exact λ_ _ _ _ _ _ us hl=>match us,hl with| [_,_],_=>rfl)|(exact λ_ _ _ _ _ _ us hl=>match us,hl with| [_,_,_],_=>rfl)|(exact λ_ _ _ _ _ _ us hl=>match us,hl with| [_,_,_,_],_=>rfl)|(exact λ_ _ _ _ _ _ us hl=>match us,hl with| [_,_,_,_,_],_=>rfl)):jg l.prog w K mg base n x ps sp:=⟨_,_,ok,d.fn.binds b,d.fn.kp,d.nm X G⟩
def zsB (K:Frag):Bool:= ["len","max","min","divmod","all","any","repr","sum","sorted","int","tuple","list","set","bool","isinstance","range","zip","enumerate","reversed"].all λx=>nsIn K mainGlobals (aT x)==some none
theorem xn (X:K.In h)(G:h.Ns mainGlobals mg)(e:zsB K=true):Zs mg:=by
 unfold zsB at e;rw [S1] at e;have m:=λ(x:String) hx=>mg_none_of X G (beq_iff_eq.mp (e x hx))
 exact⟨m "len" (by decide),m "max" (by decide),m "min" (by decide),m "divmod" (by decide),m "all" (by decide),m "any" (by decide),m "repr" (by decide),m "sum" (by decide),m "sorted" (by decide),m "int" (by decide),m "tuple" (by decide),m "list" (by decide),m "set" (by decide),m "bool" (by decide),m "isinstance" (by decide),m "range" (by decide),m "zip" (by decide),m "enumerate" (by decide),m "reversed" (by decide)⟩
end L2
namespace L2
variable {n:Nat}
theorem RU {e:Nat}{T:List (List Int)}(h:Sq n e T)(hn:n<=8){o:Nat}(ho:o<n): ∀ (t:Nat) {p:Nat},p<n->(0<cnt T n o t p↔RP n T t p o)
 |0,p,hp=>by
  rw [zc hp ho];show 0<(if p=o then (1:Int) else 0)↔_
  by_cases z:p=o
  ·rw [if_pos z];exact⟨λ_=>z,λ_=>by decide⟩
  ·rw [if_neg z];exact⟨λw=>absurd w (by decide),λw=>absurd w z⟩
 |t+1,p,hp=>by
  rw [Y6 t 1,zJ h hn 1 t hp ho,Y6 1 t];constructor
  ·intro w;obtain⟨j,hj,c⟩:=BZ (λj=>VS t j) w;have jl:=RB hj;exact⟨j,jl,(yt h hn).mpr (by have:=of_decide_eq_true (T6.mp hj).2;omega),(RU h hn ho t jl).mp c⟩
  ·rintro ⟨j,hj,a,c⟩;have c:=(RU h hn ho t hj).mpr c;have a:=(yt h hn).mp a;have nn:=(h.ent_nn hp hj).1;have jm:j∈yU T n p:=T6.mpr ⟨G8.mpr hj,decide_eq_true (by omega)⟩;obtain⟨l1,l2,e⟩:=g9 jm;show 0<((yU T n p).map (cnt T n o t)).sum;rw [e,S5,T3,fE,aB];have x1:0<=(l1.map (cnt T n o t)).sum:=RC λx hx=>by obtain⟨y,_,rfl⟩:=D6.mp hx;exact VS t y
   have x2:0<=(l2.map (cnt T n o t)).sum:=RC λx hx=>by obtain⟨y,_,rfl⟩:=D6.mp hx;exact VS t y
   omega
variable {g:Nat->Nat->Bool}
theorem Au: ∀ {t:Nat} {w:List Nat},w∈lev g n t-> ∀i x y,w[i]? =some x->w[i+1]? =some y->g x y=true
 |0,w,h=>λi x y e1 e2=>by
  obtain⟨z,_,rfl⟩:=D6.mp h;rw [N3 (by simp)] at e2;cases e2
 |t+1,w,h=>λi x y e1 e2=>by
  obtain⟨v,hv,hw⟩:=dY.mp h;obtain⟨j,hj,rfl⟩:=D6.mp hw;have fj:=(T6.mp hj).2;unfold Sx at fj;rw [M6] at fj;rcases V2 (i+1) v.length with z|z
  ·rw [R4 (by omega)] at e1;rw [R4 z] at e2;exact Au hv i x y e1 e2
  ·have hi:i+1=v.length:=by
    have:=(P3.mp e2).1;rw [P2,L7] at this;omega
   rw [R4 (by omega)] at e1;rw [D3 (by omega),hi,cE] at e2;injection e2 with e2
   subst e2;have lx:v.getLastD 0=x:=by
    rw [O7,O8,show v.length-1=i by omega,e1];rfl
   rw [<-lx];exact fj.1
theorem RV {w:List Nat}: ∀ {t:Nat},w∈Xu g n t-> ∃s,s<t/\w∈lev g n s/\g (w.getLastD 0) (w.headD 0)=true
 |t+1,h=>by
  rcases D9.mp h with z|z
  ·obtain⟨s,a,b⟩:=RV z;exact⟨s,by omega,b⟩
  ·obtain⟨a,b⟩:=T6.mp z;exact⟨t,by omega,a,b⟩
section
variable {n e:Nat}{T:List (List Int)}
theorem RW (h:Sq n e T)(hn:n<=8){w:List Nat}(hw:w∈rounds T n):1<=w.length/\w.length<=n/\(∀t,w.getD (t%w.length) 0<n)/\ ∀t,RP n T 1 (w.getD (t%w.length) 0) (w.getD ((t+1)%w.length) 0):=by
 obtain⟨s,hs,lv,back⟩:=RV ((Zl _).mem_iff.mp hw);have o:=Xt lv;have l1:1<=w.length:=by rw [o.len];omega
 refine⟨l1,by rw [o.len];omega,λt=> ?_,λt=> ?_⟩
 ·have:=F9 t l1;rw [P5,G1 this];exact o.lt _ (S9 this)
 ·have m1:=F9 t l1;have e1:w.getD (t%w.length) 0=w[t%w.length]:=by rw [P5,G1 m1];rfl
  rw [yt h hn];rcases V2 (t%w.length+1) w.length with z|z
  ·have e2:(t+1)%w.length=t%w.length+1:=by rw [dH,O0 (show 1<w.length by omega),O0 z]
   have e3:w.getD ((t+1)%w.length) 0=w[t%w.length+1]:=by rw [e2,P5,G1 z];rfl
   rw [e1,e3];have:=of_decide_eq_true (Au lv (t%w.length) _ _ (G1 m1) (G1 z));omega
  ·have e2:(t+1)%w.length=0:=by
    rw [<-Q7 t w.length,show w.length*(t / w.length)+t%w.length+1=w.length*(t / w.length+1) by rw [aQ];omega];exact iP _ _
   have la:w.getLastD 0=w[t%w.length]:=by
    rw [O7,O8,show w.length-1=t%w.length by omega,G1 m1];rfl
   have he:w.headD 0=w.getD 0 0:=by cases w<;>rfl
   rw [e1,e2,<-he,<-la];have:=of_decide_eq_true back;omega
theorem Oy (h:Sq n e T)(hn:n<=8){w:List Nat}(hw:w∈rounds T n){p:Nat}(hp:p∈w):RP n T w.length p p:=by
 obtain⟨l1,_,cl,st⟩:=RW h hn hw;obtain⟨i,hi,e⟩:=A0 hp;have:=WV h hn (c:=λt=>w.getD (t%w.length) 0) cl st i w.length;have e1:w.getD (i%w.length) 0=p:=by rw [O0 hi,P5,G1 hi,e];rfl
 have e2:w.getD ((i+w.length)%w.length) 0=p:=by rw [dG,e1]
 rw [e1,e2] at this;exact this
end
theorem CM {g:Nat->Nat->Bool}{n:Nat}: ∀ {t:Nat} {w:List Nat},w.length=t+1->(∀i∈w,i<n)->w.Nodup->(∀i∈w,w.headD 0<=i)->(∀i x y,w[i]? =some x->w[i+1]? =some y->g x y=true)->w∈lev g n t
 |0,w,hl,lt,_,_,_=>by
  obtain⟨a,rfl⟩:=e9.mp hl;exact D6.mpr ⟨a,G8.mpr (lt a (by simp)),rfl⟩
 |t+1,w,hl,lt,nd,low,go=>by
  obtain⟨v,j,rfl⟩: ∃v j,w=v++ [j]:=⟨w.dropLast,w.getLast (by intro z;rw [z] at hl;cases hl),(List.dropLast_concat_getLast _).symm⟩;have lv:v.length=t+1:=by rw [P2,L7] at hl;omega
  have hd:(v++ [j]).headD 0=v.headD 0:=by cases v with|nil=>cases lv|cons a r=>rfl
  have nv:=V1.mp nd;have jn:j ∉ v:=λz=>nv.2.2 j z j (by simp) rfl
  have hh:v.headD 0∈v:=by cases v with|nil=>cases lv|cons a r=>exact D0 ..
  rw [hd] at low;have mv:=CM (g:=g) (n:=n) lv (λi hi=>lt i (N0 _ hi)) nv.1 (λi hi=>low i (N0 _ hi)) λi x y e1 e2=>go i x y (by rw [R4 (P3.mp e1).1];exact e1) (by rw [R4 (P3.mp e2).1];exact e2)
  refine dY.mpr ⟨v,mv,D6.mpr ⟨j,T6.mpr ⟨G8.mpr (lt j (by simp)),?_⟩,rfl⟩⟩;have la:v[t]? =some (v.getLastD 0):=by rw [O7,O8,lv,Nat.add_sub_cancel,G1 (by omega)];rfl
  have g1:=go t _ j (by rw [R4 (by omega)];exact la) (by rw [D3 (by omega),lv,cE];rfl);have lj:=low j (by simp);have ne:v.headD 0≠j:=λz=>jn (z ▸ hh)
  unfold Sx;rw [g1,decide_eq_true (show v.headD 0<j by omega),decide_eq_false jn];rfl
theorem CN {s:Nat}{w:List Nat}(h:w∈lev g n s)(b:g (w.getLastD 0) (w.headD 0)=true): ∀t,s<t->w∈Xu g n t
 |t+1,ht=>by
  rcases V2 s t with z|z
  ·exact N0 _ (CN h b t z)
  ·have:t=s:=by omega
   subst this;exact D4 _ (T6.mpr ⟨h,b⟩)
theorem Di {w:List Nat}(nd:w.Nodup)(lt: ∀i∈w,i<n):w.length<=n:=by
 have:=GT (ys:=G0 n) nd λx hx=>G8.mpr (lt x hx)
 rwa [G5] at this
section
variable {n e:Nat}{T:List (List Int)}
theorem Na {w:List Nat}(ne:w≠ [])(lt: ∀i∈w,i<n)(nd:w.Nodup)(low: ∀i∈w,w.headD 0<=i)(go: ∀i x y,w[i]? =some x->w[i+1]? =some y->ent T x y>0)(back:ent T (w.getLastD 0) (w.headD 0)>0):w∈rounds T n:=by
 obtain⟨t,ht⟩: ∃t,w.length=t+1:=⟨w.length-1,by have:=V7.mpr ne;omega⟩;have:=Di nd lt;exact(Zl _).mem_iff.mpr (CN (CM (g:=Jm T) ht lt nd low λi x y e1 e2=>decide_eq_true (go i x y e1 e2)) (decide_eq_true back) n (by omega))
theorem CO (h:Sq n e T){i j:Nat}(hi:i<n)(hj:j<n)(z:ent T i j≠0):ent T i j>0:=by have:=(h.ent_nn hi hj).1;omega
theorem Nb (h:Sq n e T)(hn:n<=8){m:Nat}(m1:1<=m){v:Nat->Nat}(vl: ∀t,v t<n)(per: ∀t,v (t+m)=v t)(inj: ∀a b,a<m->b<m->v a=v b->a=b)(st: ∀t,RP n T 1 (v t) (v (t+1))): ∃s,(G0 m).map (λt=>v (s+t))∈rounds T n:=by
 obtain⟨s,hs⟩: ∃s,∀t,v s<=v t:=by
  have key: ∀k,∃s,∀t,t<k+1->v s<=v t:=λk=>by
   induction k with
   |zero=>exact⟨0,λt ht=>by rw [show t=0 by omega];exact P0 _⟩
   |succ k ih=>
    obtain⟨s,hs⟩:=ih;rcases V2 (v (k+1)) (v s) with z|z
    ·exact⟨k+1,λt ht=>by
      rcases V2 t (k+1) with y|y
      ·have:=hs t y;omega
      ·rw [show t=k+1 by omega];exact P0 _⟩
    ·exact⟨s,λt ht=>by
      rcases V2 t (k+1) with y|y
      ·exact hs t y
      ·rw [show t=k+1 by omega];exact z⟩
  obtain⟨s,hs⟩:=key m;have red: ∀t,v t=v (t%m):=λt=>by
   have: ∀q r,v (r+q*m)=v r:=λq r=>by
    induction q with
    |zero=>rw [iQ,Z0]
    |succ q ih=>rw [cB,<-K6,per,ih]
   have e:=this (t / m) (t%m);rw [aU,lV] at e;exact e
  exact⟨s,λt=>by rw [red t];exact hs _ (by have:=F9 t m1;omega)⟩
 have red: ∀t,v t=v (t%m):=λt=>by
  have: ∀q r,v (r+q*m)=v r:=λq r=>by
   induction q with
   |zero=>rw [iQ,Z0]
   |succ q ih=>rw [cB,<-K6,per,ih]
  have e:=this (t / m) (t%m);rw [aU,lV] at e;exact e
 have hd:((G0 m).map λt=>v (s+t)).headD 0=v s:=by
  obtain⟨k,rfl⟩: ∃k,m=k+1:=⟨m-1,by omega⟩;rw [E5];rfl
 refine⟨s,Na ?_ (λi hi=>by obtain⟨t,_,rfl⟩:=D6.mp hi;exact vl _) ?_ (λi hi=>by obtain⟨t,_,rfl⟩:=D6.mp hi;rw [hd];exact hs _) (λi x y e1 e2=> ?_) ?_⟩
 ·intro z;have:=congrArg W4 z;rw [G2,G5] at this;simp at this;omega
 ·refine F4.mpr ((dR (n:=m)).imp_of_mem λ{a b} ha hb ne z=> ?_);have ha:=G8.mp ha;have hb:=G8.mp hb;have z:v (s+a)=v (s+b):=z;rw [red (s+a),red (s+b)] at z;have:=inj _ _ (F9 _ m1) (F9 _ m1) z;refine ne ?_;have d1:=Q7 (s+a) m;have d2:=Q7 (s+b) m;rcases iR ((s+a) / m) ((s+b) / m) with c|c|c
  ·have:=gG m (show (s+a) / m+1<=(s+b) / m from c);rw [aQ] at this;omega
  ·rw [c] at d1;omega
  ·have:=gG m (show (s+b) / m+1<=(s+a) / m from c);rw [aQ] at this;omega
 ·have h1:=(P3.mp e2).1;rw [G2,G5] at h1;rw [P1,T5 (by omega)] at e1 e2;injection e1 with e1
  injection e2 with e2
  subst e1;subst e2;exact CO h (vl _) (vl _) ((yt h hn).mp (st (s+i)))
 ·have la:((G0 m).map λt=>v (s+t)).getLastD 0=v (s+(m-1)):=by
   rw [O7,O8,G2,G5,P1,T5 (by omega)];rfl
  rw [hd,la];have:=st (s+(m-1));rw [show s+(m-1)+1=s+m by omega,per] at this;exact CO h (vl _) (vl _) ((yt h hn).mp this)
def Jn (T:List (List Int))(n:Nat):Nat:=((rounds T n).map W4).foldl aG 0
theorem CP {w:List Nat}(hw:w∈rounds T n):Jn T n∣w.length:=((RF _ 0 (Jn T n)).mp (Nat.dvd_refl _)).2 _ (bX hw)
theorem Jx (h:Sq n e T)(hn:n<=8): ∀ (m:Nat) {p:Nat},p<n->RP n T m p p->Jn T n∣m:=by
 intro m
 induction m using bS with
 |_ m ih=>
  intro p hp r;rcases X1 m with z|m1
  ·rw [z];exact Nat.dvd_zero _
  obtain⟨v,v0,vm,vl,vr⟩:=GI h hn m hp hp r
  by_cases c: ∃a b,a<b/\b<m/\v a=v b
  ·obtain⟨a,b,ab,bm,e1⟩:=c;have r1:=yk h hn vl vr a (b-a) (by omega);rw [show a+(b-a)=b by omega,<-e1] at r1;have r2:=yk h hn vl vr 0 a (by omega);rw [A7,v0] at r2;have r3:=yk h hn vl vr b (m-b) (by omega);rw [show b+(m-b)=m by omega,vm,<-e1] at r3;have d1:=ih (b-a) (by omega) (vl a (by omega)) r1;have d2:=ih (a+(m-b)) (by omega) hp (zd h hn hp (vl a (by omega)) hp r2 r3);have:=Nat.dvd_add d1 d2
   rwa [show b-a+(a+(m-b))=m by omega] at this
  ·obtain⟨s,hs⟩:=Nb h hn (T:=T) (n:=n) m1 (v:=λt=>v (t%m)) (λt=>vl _ (by have:=F9 t m1;omega)) (λt=>by show v ((t+m)%m)=_;rw [dG]) (λa b ha hb z=>by
    have z:v (a%m)=v (b%m):=z;rw [O0 ha,O0 hb] at z;rcases iR a b with y|y|y
    ·exact absurd ⟨a,b,y,hb,z⟩ c
    ·exact y
    ·exact absurd ⟨b,a,y,ha,z.symm⟩ c) (λt=>by
    show RP n T 1 (v (t%m)) (v ((t+1)%m));have lt:=F9 t m1;have:=vr (t%m) lt;rcases V2 (t%m+1) m with z|z
    ·rw [show (t+1)%m=t%m+1 by rw [dH,O0 (show 1<m by omega),O0 z]];exact this
    ·have e2:(t+1)%m=0:=by
      rw [<-Q7 t m,show m*(t / m)+t%m+1=m*(t / m+1) by rw [aQ];omega];exact iP _ _
     rw [e2,v0,<-vm,show m=t%m+1 by omega];rw [show t%(t%m+1)=t%m by rw [show t%m+1=m by omega]];exact this)
   have:=CP hs
   rwa [G2,G5] at this
theorem xo (h:Sq n e T)(hn:n<=8){i j:Nat}(hi:i<n)(w:wk T n i j=true):j<n/\ ∃k,RP n T k i j:=
 Vk (P:=λi j=>i<n->j<n/\ ∃k,RP n T k i j) (λi hi=>⟨hi,0,(zc hi hi).mpr rfl⟩) (λi j z hi=>⟨Sr h i j z,1,(yt h hn).mpr z⟩) (λi k j a b hi=>by
  obtain⟨hk,k1,r1⟩:=a hi;obtain⟨hj,k2,r2⟩:=b hk;exact⟨hj,k1+k2,zd h hn hi hk hj r1 r2⟩) w hi
theorem SF (h:Sq n e T)(hn:n<=8): ∀ (k:Nat) {i j:Nat},i<n->j<n->RP n T k i j->wk T n i j=true
 |0,i,j,hi,hj,r=>by rw [(zc hi hj).mp r];exact Qj T n j
 |k+1,i,j,hi,hj,r=>by
  obtain⟨x,hx,a,b⟩:=(zJ h hn k 1 hi hj).mp r;exact yW hx (SF h hn k hi hx a) (RQ ((yt h hn).mp b) n)
theorem Ue (h:Sq n e T)(hn:n<=8)(one:(UR T n).length=1){i j:Nat}(hi:i<n)(hj:j<n): ∃k,RP n T k i j:=by
 obtain⟨S,e1⟩:=e9.mp one;have a:pcS T n i∈UR T n:=mem_pcs.mpr ⟨i,hi,rfl⟩;have b:pcS T n j∈UR T n:=mem_pcs.mpr ⟨j,hj,rfl⟩;rw [e1] at a b;have:j∈pcS T n i:=by rw [G9.mp a,<-G9.mp b];exact CK hj
 exact(xo h hn hi (mem_pc.mp this).2.1).2
theorem SG (h:Sq n e T)(hn:n<=8)(n1:1<=n)(all: ∀i j,i<n->j<n-> ∃k,RP n T k i j):(UR T n).length=1:=by
 have same: ∀p,p<n->pcS T n p=G0 n:=λp hp=>List.filter_eq_self.mpr λj hj=>by
  have hj:=G8.mp hj;obtain⟨k,r⟩:=all p j hp hj;obtain⟨k',r'⟩:=all j p hj hp;rw [SF h hn k hp hj r,SF h hn k' hj hp r'];rfl
 have hd:(G0 n).headD 0=0:=by
  obtain⟨k,rfl⟩: ∃k,n=k+1:=⟨n-1,by omega⟩;rw [E5];rfl
 unfold UR;rw [G2];have e1:((G0 n).filter λp=>decide ((pcS T n p).headD 0=p))= [0]:=by
  have:((G0 n).filter λp=>decide ((pcS T n p).headD 0=p))=(G0 n).filter λp=>decide (p=0):=a9 λp hp=>by
   rw [same p (G8.mp hp),hd];exact decide_eq_decide.mpr ⟨Eq.symm,Eq.symm⟩
  rw [this];obtain⟨k,rfl⟩: ∃k,n=k+1:=⟨n-1,by omega⟩;rw [E5,E2 (by decide),lW,fC.mpr (by intro a _;simp),U2]
 rw [e1];rfl
end
end L2
namespace L2
open PySem PySem.Spec PyProof.Rows
section
variable {n e:Nat}{T:List (List Int)}
theorem CQ (h:Sq n e T)(hn:n<=8){p:Nat}(hp:p<n): ∀ (m j:Nat),j∈itF (jL n T) [p] m↔j<n/\RP n T m p j
 |0,j=>by
  show j∈ [p]↔_;rw [G9];exact⟨λe=>⟨e ▸ hp,(zc hp (e ▸ hp)).mpr e.symm⟩,λ⟨hj,r⟩=>((zc hp hj).mp r).symm⟩
 |m+1,j=>by
  show j∈jL n T (itF (jL n T) [p] m)↔_;unfold jL;rw [T6,G8,W3];constructor
  ·rintro ⟨hj,i,hi,r⟩;obtain⟨hi,ri⟩:=(CQ h hn hp m i).mp hi;exact⟨hj,(zJ h hn m 1 hp hj).mpr ⟨i,hi,ri,(yt h hn).mpr (of_decide_eq_true r)⟩⟩
  ·rintro ⟨hj,r⟩;obtain⟨i,hi,a,b⟩:=(zJ h hn m 1 hp hj).mp r;exact⟨hj,i,(CQ h hn hp m i).mpr ⟨hi,a⟩,decide_eq_true ((yt h hn).mp b)⟩
end
theorem Dj {n i:Nat}(hi:i<n):IsS n [i]:=by
 refine⟨λj=>decide (j=i),?_⟩
 induction n with
 |zero=>omega
 |succ n ih=>
  rw [B3,A8]
  by_cases z:i<n
  ·rw [<-ih z];have: ¬n=i:=by omega
   simp [this]
  ·have e:i=n:=by omega
   subst e;have:(G0 i).filter (λj=>decide (j=i))= []:=fC.mpr λj hj=>by have:=G8.mp hj;simp;omega
   rw [this];simp
end L2
namespace L2
section
variable {n e:Nat}{T U:List (List Int)}
theorem Av {o:List Nat}(ho:Ordr n o){i:Nat}(hi:i<n):o.idxOf i<n/\o.getD (o.idxOf i) 0=i:=by
 have hm:i∈o:=ho.mem_iff.mpr (G8.mpr hi);have hl:o.length=n:=by have:=ho.length_eq;rwa [G5] at this
 have:=C0.mpr hm;refine⟨by omega,?_⟩;rw [P5,G1 this,F7 this];rfl
theorem YA {o:List Nat}(ho:Ordr n o){i:Nat}(hi:i<n):o.getD i 0<n/\o.idxOf (o.getD i 0)=i:=by
 have hl:o.length=n:=by have:=ho.length_eq;rwa [G5] at this
 have e1:o.getD i 0=o[i]'(by omega):=by rw [P5,G1 (show i<o.length by omega)];rfl
 have nd:o.Nodup:=ho.nodup_iff.mpr dR;have lt:=G8.mp (ho.mem_iff.mp (S9 (show i<o.length by omega)));rw [e1];exact⟨lt,nd.idxOf_getElem i (by omega)⟩
end
end L2
set_option maxRecDepth 35000
namespace L2
section
variable {n e:Nat}{T:List (List Int)}
def Df (n:Nat)(T:List (List Int))(x d:Nat):Prop:= ∃q,RP n T q x x/\RP n T (q+d) x x
theorem Aw (h:Sq n e T)(hn:n<=8){x a b:Nat}(hx:x<n)(da:Df n T x a)(db:Df n T x b)(l:b<=a):Df n T x (a-b):=by
 obtain⟨q,a1,a2⟩:=da;obtain⟨r,b1,b2⟩:=db;refine⟨q+(r+b),zd h hn hx hx hx a1 b2,?_⟩;rw [show q+(r+b)+(a-b)=q+a+r by omega];exact zd h hn hx hx hx a2 b1
theorem CS (h:Sq n e T)(hn:n<=8){x:Nat}(hx:x<n): ∀ (m:Nat) {a b:Nat},a+b<=m->Df n T x a->Df n T x b->Df n T x (aG a b)
 |0,a,b,l,da,db=>by
  have:a=0:=by omega
  subst this;rw [iT];exact db
 |m+1,a,b,l,da,db=>by
  rcases X1 a with z|pa
  ·subst z;rw [iT];exact db
  rcases X1 b with z|pb
  ·subst z;rw [hO];exact da
  rcases nM b a with c|c
  ·have:=CS h hn hx m (a:=a-b) (b:=b) (by omega) (Aw h hn hx da db c) db
   rwa [Nat.gcd_sub_self_left c] at this
  ·have:=CS h hn hx m (a:=a) (b:=b-a) (by omega) da (Aw h hn hx db da c)
   rwa [Nat.gcd_sub_self_right c] at this
theorem CT (h:Sq n e T)(hn:n<=8){x:Nat}(hx:x<n): ∀ (L:List Nat) (g:Nat),Df n T x g->(∀l∈L,Df n T x l)->Df n T x (L.foldl aG g)
 | [],_,dg,_=>dg
 |l::L,g,dg,dl=>CT h hn hx L (aG g l) (CS h hn hx _ (P0 _) dg (dl l D0)) λk hk=>dl k (D5 _ hk)
theorem SH (h:Sq n e T)(hn:n<=8)(one:(UR T n).length=1){x:Nat}(hx:x<n):Df n T x (Jn T n):=by
 have z0:RP n T 0 x x:=(zc hx hx).mpr rfl;refine CT h hn hx _ 0 ⟨0,z0,z0⟩ λl hl=> ?_
 obtain⟨w,hw,rfl⟩:=D6.mp hl;obtain⟨w1,_,wl,_⟩:=RW h hn hw;have hm:w.getD 0 0∈w:=by
  cases w with
  |nil=>simp at w1
  |cons a r=>exact D0
 have hy:w.getD 0 0<n:=by have:=wl 0;rwa [nJ] at this
 obtain⟨a,ra⟩:=Ue h hn one hx hy;obtain⟨b,rb⟩:=Ue h hn one hy hx;refine⟨a+b,zd h hn hx hy hx ra rb,?_⟩;rw [show a+b+w.length=a+w.length+b by omega];exact zd h hn hx hy hx (zd h hn hx hy hy ra (Oy h hn hw hm)) rb
theorem Oz (h:Sq n e T)(hn:n<=8)(one:(UR T n).length=1){x:Nat}(hx:x<n): ∃B,∀m,B<=m->Jn T n∣m->RP n T m x x:=by
 obtain⟨q,r1,r2⟩:=SH h hn one hx;obtain⟨c,hc⟩:=Jx h hn q hx r1;refine⟨Jn T n*(c*c),λm hm ⟨t,ht⟩=> ?_⟩;rcases X1 (Jn T n) with z|d0
 ·rw [z,iQ] at ht;rw [ht];exact(zc hx hx).mpr rfl
 have tc:c*c<=t:=Nat.le_of_mul_le_mul_left (by rw [<-ht];exact hm) d0;rcases X1 c with z|c0
 ·rw [z,e8] at hc;subst hc;rw [A7] at r2;rw [ht];exact ZL h hn hx r2 t
 have e1:=Q7 t c;have e2:=F9 t c0;have e3:c<=t / c:=(fM c0).mpr tc;have:m=q*(t / c-t%c)+(q+Jn T n)*(t%c):=by
  rw [n8];have:q*(t / c-t%c)+q*(t%c)=q*(t / c):=by rw [<-aQ];congr 1;omega
  rw [<-K6,this,ht,hc,Nat.mul_assoc,<-aQ,e1]
 rw [this];exact zd h hn hx hx hx (ZL h hn hx r1 _) (ZL h hn hx r2 _)
theorem WZ {P:Nat->Nat->Prop}(up: ∀i a b,a<=b->P i a->P i b): ∀n,(∀i,i<n-> ∃B,P i B)-> ∃B,∀i,i<n->P i B
 |0,_=>⟨0,λi hi=>by omega⟩
 |n+1,g=>by
  obtain⟨B,hB⟩:=WZ up n λi hi=>g i (by omega)
  obtain⟨C,hC⟩:=g n (by omega);refine⟨B+C,λi hi=> ?_⟩;rcases V2 i n with c|c
  ·exact up i B _ (by omega) (hB i c)
  ·have:i=n:=by omega
   subst this;exact up i C _ (by omega) hC
theorem SI {a l b d:Nat}(h1:d∣a+b)(h2:d∣l+b):a%d=l%d:=by
 have key: ∀a l:Nat,a<=l->d∣a+b->d∣l+b->a%d=l%d:=λa l c h1 h2=>by
  obtain⟨t,rfl⟩:=Nat.exists_eq_add_of_le c;have:d∣t:=(dF h1).mp (by rw [show a+b+t=a+t+b by omega];exact h2);rw [dH,Nat.mod_eq_zero_of_dvd this,Z0,n9]
 rcases nM a l with c|c
 ·exact key a l c h1 h2
 ·exact(key l a c h2 h1).symm
theorem OA (h:Sq n e T)(hn:n<=8)(one:(UR T n).length=1): ∃B,∀i,i<n-> ∀j,j<n-> ∀k l,B<=k->RP n T l i j->l%Jn T n=k%Jn T n->RP n T k i j:=by
 refine WZ (P:=λi B=> ∀j,j<n-> ∀k l,B<=k->RP n T l i j->l%Jn T n=k%Jn T n->RP n T k i j) (λi a b ab g j hj k l hk=>g j hj k l (by omega)) n λi hi=> ?_
 refine WZ (P:=λj B=> ∀k l,B<=k->RP n T l i j->l%Jn T n=k%Jn T n->RP n T k i j) (λj a b ab g k l hk=>g k l (by omega)) n λj hj=> ?_
 obtain⟨B,hB⟩:=Oz h hn one hi;obtain⟨a,ra⟩:=Ue h hn one hi hj;obtain⟨b,rb⟩:=Ue h hn one hj hi;refine⟨B+a,λk l hk rl el=> ?_⟩;have d1:=Jx h hn _ hi (zd h hn hi hj hi rl rb);have d2:=Jx h hn _ hi (zd h hn hi hj hi ra rb);have ea:a%Jn T n=k%Jn T n:=by
  rw [<-el];exact SI d2 d1
 have:=zd h hn hi hi hj (hB (k-a) (by omega) ((Nat.dvd_iff_mod_eq_zero ..).mpr (Nat.sub_mod_eq_zero_of_mod_eq ea.symm))) ra
 rwa [show k-a+a=k by omega] at this
theorem Dk (h:Sq n e T)(hn:n<=8)(one:(UR T n).length=1)(d1:Jn T n=1): ∃B,∀k,B<=k-> ∀i j,i<n->j<n->RP n T k i j:=by
 obtain⟨B,hB⟩:=OA h hn one;refine⟨B,λk hk i j hi hj=> ?_⟩;obtain⟨l,r⟩:=Ue h hn one hi hj;exact hB i hi j hj k l hk r (by rw [d1,oB,oB])
theorem Dl (h:Sq n e T)(hn:n<=8)(n1:1<=n){K:Nat}(all: ∀m,K<=m-> ∀i j,i<n->j<n->RP n T m i j):(UR T n).length=1/\Jn T n=1:=by
 refine⟨SG h hn n1 λi j hi hj=>⟨K,all K (P0 _) i j hi hj⟩,?_⟩;have a:=Jx h hn _ (show 0<n by omega) (all K (P0 _) 0 0 (by omega) (by omega));have b:=Jx h hn _ (show 0<n by omega) (all (K+1) (by omega) 0 0 (by omega) (by omega));exact Nat.dvd_one.mp ((dF a).mp b)
end
end L2
namespace L2
open PySem PySem.Spec PyProof.Rows
section
variable {X:Cx}{k i:Nat}{ps N Pn:List Str}{spd:RDn}{x:Str}{p pos pos':Pos}{e e2 e3 e4 iter elt:Expr}{es ifs:List Expr}{t:TAD}{te te2 te3 te4:TED}{ti:TID}{tt:TTD}{scope sc:J6}{c:Expr}
theorem jk (C:jg X.prog X.w X.K X.mg X.base k x ps spd)(hr:Room k X.A)(ha:JA X (e::es) t)(hg:Gl X x:=by rfl)(hdb:(x==("__debug__" :Str))=false:=by decide)(he:starEach (e::es) X.env=(false,eval e X.env)::starEach es X.env:=by rfl)(hpl:(backTo pos (starEach es X.env)).any (·.1)=false:=by rfl):JE X (.Call (.Name x p) (e::es) [] pos) (dCB spd t):=by
 obtain⟨g,gd,F,hb,hk,hm⟩:=C;exact uN F hr hg hm hk hb ha hdb he hpl
theorem j1 (a:JE X e te)(h:wg e=true:=by rfl):JA X [e] (zh te Zv):=jac a Gs h
theorem j2 (a:JE X e te)(b:JE X e2 te2)(h:wg e=true:=by rfl)(h2:wg e2=true:=by rfl):JA X [e,e2] (zh te (zh te2 Zv)):=jac a (j1 b h2) h
theorem j3 (a:JE X e te)(b:JE X e2 te2)(c:JE X e3 te3)(h:wg e=true:=by rfl)(h2:wg e2=true:=by rfl)(h3:wg e3=true:=by rfl):JA X [e,e2,e3] (zh te (zh te2 (zh te3 Zv))):=jac a (j2 b c h2 h3) h
theorem j4 (a:JE X e te)(b:JE X e2 te2)(c:JE X e3 te3)(d:JE X e4 te4)(h:wg e=true:=by rfl)(h2:wg e2=true:=by rfl)(h3:wg e3=true:=by rfl)(h4:wg e4=true:=by rfl):JA X [e,e2,e3,e4] (zh te (zh te2 (zh te3 (zh te4 Zv)))):=jac a (j3 b c d h2 h3 h4) h
theorem Jo (Z:Zs X.mg)(a:JE X e te)(hg:Gl X "len" :=by rfl)(h:wg e=true:=by rfl)(he:starEach [e] X.env=(false,eval e X.env)::starEach [] X.env:=by rfl)(hpl:(backTo pos (starEach [] X.env)).any (·.1)=false:=by rfl):JE X (.Call (.Name "len" p) [e] [] pos) (dCB Ew (zh te Zv)):=ze HU hg Z.len PySem.boot_len (j1 a h) (by decide) (by decide) he hpl
theorem jse (i:Nat)(S:FnScope X.N Pn sc)(he:JE X e te)(hi:X.N[i]? =some x:=by rfl)(hx:Loc X.env.scope x:=by first|exact M5 rfl|exact F6 rfl)(hs:swapsWith e (some (.Name x pos')) pos.line X.env=pure false:=by rfl)(hf:X.fn x=true\/X.env.scope.names.lookup x=some .local:=by first|exact .inl rfl|exact .inr rfl|assumption):JS X (.Assign [.Name x pos'] e pos) (FD i te):=jak S.nd hi hx he hs hf
theorem jgn (i:Nat)(S:FnScope X.N Pn sc)(hi:X.N[i]? =some x:=by rfl)(hx:Loc X.env.scope x:=by first|exact M5 rfl|exact F6 rfl)(hf:X.fn x=true\/X.env.scope.names.lookup x=some .local:=by first|exact .inl rfl|exact .inr rfl|assumption):JG X (.Name x pos) (gN i):=EF S.nd hi hx hf
theorem jl1 (i:Nat)(S:FnScope X.N Pn sc)(hi:JI X (.Name x p) iter ti)(ht: ∀C s₀ H₀ ex,JT (ZF X scope C s₀ H₀ ex) c tt)(he: ∀C s₀ H₀ ex,JE (ZF X scope C s₀ H₀ ex) elt te)(hc:X.calm=true:=by rfl)(hB:Rl X.N X.env.scope.names scope [i]=true:=by rfl)(hx:X.N[i]? =some x:=by rfl)(hl:scope.names.lookup x=some .local\/scope.names.lookup x=some .cell:=by first|exact M5 rfl|exact F6 rfl)(hs: ∀x,foldedSetIterable iter X.env x=pure x:=by intro _;rfl):JE X (.ListComp elt [⟨.Name x p,iter,[c],0⟩] scope pos) (vL (bN i) [i] ti tt te):=
 jlc hc (jG hB) hi (G9.mpr rfl) S.nd hx hl (λX' hX=>by obtain⟨C,s₀,H₀,ex,rfl⟩:=hX;exact VB (ht C s₀ H₀ ex)) (λX' hX=>by obtain⟨C,s₀,H₀,ex,rfl⟩:=hX;exact he C s₀ H₀ ex) hs
theorem jl0 (i:Nat)(S:FnScope X.N Pn sc)(hi:JI X (.Name x p) iter ti)(he: ∀C s₀ H₀ ex,JE (ZF X scope C s₀ H₀ ex) elt te)(hc:X.calm=true:=by rfl)(hB:Rl X.N X.env.scope.names scope [i]=true:=by rfl)(hx:X.N[i]? =some x:=by rfl)(hl:scope.names.lookup x=some .local\/scope.names.lookup x=some .cell:=by first|exact M5 rfl|exact F6 rfl)(hs: ∀x,foldedSetIterable iter X.env x=pure x:=by intro _;rfl):JE X (.ListComp elt [⟨.Name x p,iter,[],0⟩] scope pos) (vL (bN i) [i] ti vt te):=
 jlc hc (jG hB) hi (G9.mpr rfl) S.nd hx hl (λX' hX=>zH) (λX' hX=>by obtain⟨C,s₀,H₀,ex,rfl⟩:=hX;exact he C s₀ H₀ ex) hs
theorem fsc {N P:List Str}(a:sc.kind= .function:=by rfl)(b:sc.isCoroutine=false:=by rfl)(c:sc.isGenerator=false:=by rfl)(d:N.Nodup:=by decide +kernel)(e:N.take P.length=P:=by rfl)(f: ∀x∈P,sc.names.lookup x=some .local\/sc.names.lookup x=some .cell:=by decide +kernel)(g: ∀y∈sc.names,y.2≠ .free:=by decide +kernel):FnScope N P sc:=⟨a,b,c,d,e,f,g⟩
theorem jc1 {op:dA}{f:RD2}(ho:OpQ X (compareOp op) f)(ha:JE X e te)(hb:JE X e2 te2)(hm:behindInMarks op e2=false:=by exact Ab _):JE X (.Compare e [op] [e2] pos) (dOp f te te2):=km ho ha hb hm
theorem jt1 {op:dA}{f:RD2}(ho:OpQ X (compareOp op) f)(ha:JE X e te)(hb:JE X e2 te2)(hm:behindInMarks op e2=false:=by exact Ab _):JT X (.Compare e [op] [e2] pos) (WO (dOp f te te2)):=Bs ho ha hb hm
theorem ji1 (ha:JE X e te)(hb:JE X e2 te2)(hs:XG e2:=by exact λ_ _=>rfl):JE X (.Subscript e e2 pos) (dOp ixD te te2):=jix ha hb hs
theorem jrg {tg:Expr}(Z:Zs X.mg)(ha:JE X e te)(hg:Gl X "range" :=by rfl)(h:wg e=true:=by rfl)(hs:starEach [e] X.env= [(false,eval e X.env)]:=by rfl):JI X tg (.Call (.Name "range" p) [e] [] pos) (iR1 (zh te Zv)):=uM hg Z.range (j1 ha h) hs
end
section
variable {P:S3}{w:N2}{K:PySem.W.Frag}{mg:Str->Option G3}{base:Heap}{x qual:Str}{st:Stmt}{f:Addr}{fd:D8}{N ps:List Str}{k:Nat}
theorem Fun.okM {spd:RDn}(F:Fun K x qual st f fd)(S:FnScope N ps (je st)){tb:TSD}(hbody: ∀ {cdv:G3} {A:M7} {outer:List Env} {s:G6} {H:Hp} {E:XK},Room k (A.deeper (envOfC qual (je st) s.heap.objs.size f cdv))->JSs (FR CX0 P w K mg base N qual (je st) f cdv A outer s H E).nox (yh st) tb)
 (read: ∀ds h Q,spd ds h Q->ds.length=ps.length/\tb (FF Q) (vy N ds) h):FnOk P w K mg base CX0 (k+1) f fd ps (LSp K spd):=F.okJ S (λds h Q q=>(read ds h Q q).1) tb (λ_ _ _ _ _ _ hr=>hbody hr) λds h Q q=>(read ds h Q q).2
end
theorem jA {t u:TSD}{E:EndsD}{σ:SD}{h:HD}(pF:SD)(first: ∀K:SD->HD->Prop,K pF h->t {E with nx:=K} σ h)(rest:u E pF h):FC t u E σ h:=first (u E) rest
theorem sz0:0<=sizeLine:=by decide
theorem sz1:1<=sizeLine:=by decide
theorem sz2:2<=sizeLine:=by decide
theorem sz3:3<=sizeLine:=by decide
end L2
namespace My
open PySem L2
def top (i:Nat):Stmt:=PySem.Challenge.pw_firstpowers_k64_whole_slow_tables_and_bo.main.body.getD i (.Pass ⟨0,0,0,0⟩)
abbrev Ya:Stmt:=top 10
theorem Dm:FnScope ["thing"] ["thing"] (je Ya):=fsc
abbrev ZM:Stmt:=top 11
theorem GU:FnScope ["thing","least","most"] ["thing","least","most"] (je ZM):=fsc
abbrev Uf:Stmt:=top 12
theorem Nc:FnScope ["thing","least"] ["thing","least"] (je Uf):=fsc
abbrev Yb:Stmt:=top 13
theorem Do:FnScope ["thing","size"] ["thing","size"] (je Yb):=fsc
abbrev Jy:Stmt:=top 14
theorem Ww:FnScope ["thing","size","each"] ["thing","size"] (je Jy):=fsc
abbrev Dp:Stmt:=top 15
theorem Mg:FnScope ["row","one","other"] ["row"] (je Dp):=fsc
abbrev Qk:Stmt:=top 16
theorem CU:FnScope ["thing","size"] ["thing","size"] (je Qk):=fsc
abbrev Yc:Stmt:=top 17
theorem Dq:FnScope ["thing","size"] ["thing","size"] (je Yc):=fsc
abbrev vp:Stmt:=top 18
theorem Jz:FnScope ["thing","size","number"] ["thing","size"] (je vp):=fsc
abbrev yl:Stmt:=top 19
theorem vB:FnScope ["thing","row"] ["thing"] (je yl):=fsc
abbrev JB:Stmt:=top 20
theorem Ql:FnScope ["thing"] ["thing"] (je JB):=fsc
abbrev JC:Stmt:=top 21
theorem Qm:FnScope ["table","thing"] ["table","thing"] (je JC):=fsc
abbrev Yd:Stmt:=top 22
theorem Dr:FnScope ["table","thing"] ["table","thing"] (je Yd):=fsc
abbrev JD:Stmt:=top 23
theorem Qn:FnScope ["table","thing"] ["table","thing"] (je JD):=fsc
abbrev vO:Stmt:=top 24
theorem US:FnScope ["thing","least","most"] ["thing","least","most"] (je vO):=fsc
abbrev JF:Stmt:=top 27
theorem vP:FnScope ["table","some","head","place"] ["table","some"] (je JF):=fsc
abbrev ZN:Stmt:=top 28
theorem yX:FnScope ["table","some","k","sets","later","start"] ["table","some","k"] (je ZN):=fsc
abbrev JH:Stmt:=top 30
theorem wA:FnScope ["one","other","size","row","place","by"] ["one","other"] (je JH):=fsc
abbrev CV:Stmt:=top 32
theorem FA:FnScope ["table","row","number"] ["table"] (je CV):=fsc
abbrev Ds:Stmt:=top 33
theorem Qo:FnScope ["table","row","number"] ["table"] (je Ds):=fsc
abbrev Qp:Stmt:=top 34
theorem Ug:FnScope ["table","place","row"] ["table"] (je Qp):=fsc
abbrev Uh:Stmt:=top 35
theorem vC:FnScope ["table","order","olds","name","one","other"] ["table","order"] (je Uh):=fsc
abbrev vQ:Stmt:=top 38
theorem UT:FnScope ["ahead","table"] ["ahead","table"] (je vQ):=fsc
abbrev wB:Stmt:=top 39
theorem zl:FnScope ["table","told","later"] ["table"] (je wB):=fsc
abbrev Ye:Stmt:=top 40
theorem Ui:FnScope ["told","back","k","at"] ["told","back","k"] (je Ye):=fsc
abbrev ZO:Stmt:=top 41
theorem GV:FnScope ["table"] ["table"] (je ZO):=fsc
abbrev Yf:Stmt:=top 42
theorem UH:FnScope ["table","k","told","back"] ["table","k"] (je Yf):=fsc
abbrev Dt:Stmt:=top 45
theorem Mf:FnScope ["table","place","head","number"] ["table","place"] (je Dt):=fsc
abbrev yN:Stmt:=top 46
theorem Jk:FnScope ["table","thing","one","other"] ["table","thing"] (je yN):=fsc
abbrev zK:Stmt:=top 47
theorem Jp:FnScope ["table","one","other","k"] ["table","one","other","k"] (je zK):=fsc
abbrev ZP:Stmt:=top 48
theorem zL:FnScope ["table","other","k","size","counts","left","place","head"] ["table","other","k"] (je ZP):=fsc
abbrev JJ:Stmt:=top 49
theorem wK:FnScope ["table","place","ahead","number","ways","at"] ["table","place","ahead","number"] (je JJ):=fsc
abbrev ym:Stmt:=top 50
theorem zR:FnScope ["table","one","counts","number","walk","ahead","place"] ["table","one","counts","number"] (je ym):=fsc
abbrev JK:Stmt:=top 51
theorem Wx:FnScope ["table","one","other","k","counts"] ["table","one","other","k"] (je JK):=fsc
abbrev vR:Stmt:=top 53
theorem ZC:FnScope ["table","at","each"] ["table"] (je vR):=fsc
abbrev wC:Stmt:=top 54
theorem ZQ:FnScope ["table"] ["table"] (je wC):=fsc
abbrev wT:Stmt:=top 55
theorem Wy:FnScope ["table","thing","one","other","k"] ["table","thing","one","other","k"] (je wT):=fsc
abbrev yn:Stmt:=top 56
theorem vI:FnScope ["table","thing","one","k","other","walk"] ["table","thing","one","k"] (je yn):=fsc
abbrev yO:Stmt:=top 57
theorem Ji:FnScope ["table","thing","k","one","walks"] ["table","thing","k"] (je yO):=fsc
abbrev Yg:Stmt:=top 58
theorem Uj:FnScope ["thing","many","size","each"] ["thing","many","size"] (je Yg):=fsc
abbrev yo:Stmt:=top 59
theorem vJ:FnScope ["table","sets","ahead","later","head"] ["table","sets"] (je yo):=fsc
abbrev Qq:Stmt:=top 60
theorem UG:FnScope ["table","thing","k","one","other","sets","size"] ["table","thing","k"] (je Qq):=fsc
abbrev vS:Stmt:=top 61
theorem ZB:FnScope ["table","thing","k","walks","gap"] ["table","thing"] (je vS):=fsc
abbrev ZR:Stmt:=top 62
theorem Zf:FnScope ["table","one","row","numbers"] ["table"] (je ZR):=fsc
abbrev ZS:Stmt:=top 63
theorem Ze:FnScope ["table","k","one","other","steps"] ["table","k"] (je ZS):=fsc
abbrev ZT:Stmt:=top 64
theorem wu:FnScope ["table","k","places","walks","one","other"] ["table"] (je ZT):=fsc
abbrev JL:Stmt:=top 66
theorem wL:FnScope ["size","rows","last","one","other"] ["size"] (je JL):=fsc
abbrev yP:Stmt:=top 67
theorem YT:FnScope ["size"] ["size"] (je yP):=fsc
abbrev ZU:Stmt:=top 68
theorem yb:FnScope ["table","size","bounds","to_themselves","place"] ["table"] (je ZU):=fsc
abbrev Uk:Stmt:=top 70
theorem wW:FnScope ["table","size","come","by","one","other"] ["table"] (je Uk):=fsc
abbrev ZV:Stmt:=top 71
theorem wv:FnScope ["come","size","told","place","piece","other"] ["come"] (je ZV):=fsc
abbrev Qr:Stmt:=top 72
theorem CW:FnScope ["table"] ["table"] (je Qr):=fsc
abbrev Qs:Stmt:=top 73
theorem CY:FnScope ["table"] ["table"] (je Qs):=fsc
abbrev yQ:Stmt:=top 75
theorem Jj:FnScope ["one","other"] ["one","other"] (je yQ):=fsc
abbrev JM:Stmt:=top 76
theorem zQ:FnScope ["table","told","paths","place","path","head"] ["table"] (je JM):=fsc
abbrev CZ:Stmt:=top 77
theorem Qt:FnScope ["table","told","each"] ["table"] (je CZ):=fsc
abbrev zS:Stmt:=top 79
theorem yg:FnScope ["told","one","other","k","each"] ["told","one","other"] (je zS):=fsc
abbrev ZW:Stmt:=top 80
theorem Zg:FnScope ["table","one","other","number","with_it"] ["table"] (je ZW):=fsc
abbrev vT:Stmt:=top 81
theorem wa:FnScope ["table","told","places","one","other"] ["table"] (je vT):=fsc
abbrev Ul:Stmt:=top 82
theorem XC:FnScope ["table","k","each"] ["table"] (je Ul):=fsc
abbrev ZX:Stmt:=top 84
theorem GW:FnScope ["_law_script","_law_k"] ["_law_script","_law_k"] (je ZX):=fsc
abbrev Yh:Stmt:=top 85
theorem Um:FnScope ["_law_cell_here","_law_left"] ["_law_cell_here"] (je Yh):=fsc
abbrev ZY:Stmt:=top 86
theorem vf:FnScope ["_law_pen_here","_law_many","_law_left","_law_found","_law_stir"] ["_law_pen_here","_law_many"] (je ZY):=fsc
abbrev ZZ:Stmt:=top 87
theorem GX:FnScope ["_law_pen_here"] ["_law_pen_here"] (je ZZ):=fsc
abbrev JN:Stmt:=top 88
theorem vU:FnScope ["_law_pen_here","_law_many","_law_found","_law_what"] ["_law_pen_here","_law_many"] (je JN):=fsc
abbrev wU:Stmt:=top 89
theorem jE:FnScope ["_law_pen_here","_law_size_here","_law_order_here","_law_often","_law_rows","_law_at","_law_here","_law_there","_law_one","_law_other","_law_row"] ["_law_pen_here","_law_size_here"] (je wU):=fsc
abbrev wD:Stmt:=top 90
theorem wr:FnScope ["_law_table","_law_order_here","_law_k","_law_bound","_law_row"] ["_law_table","_law_order_here"] (je wD):=fsc
abbrev wV:Stmt:=top 91
theorem wE:FnScope ["_law_size_here","_law_table","_law_some"] ["_law_size_here"] (je wV):=fsc
abbrev Nd:Stmt:=top 92
theorem Wz:FnScope ["_law_script","_law_cell_here","_law_pen_here","_law_size_here","_law_table","_law_order_here","_law_even","_law_i","_law_j"] ["_law_script"] (je Nd):=fsc
section
variable {P:S3}{w:N2}{K:PySem.W.Frag}{mg:Str->Option G3}{base:Heap}
/-- no def is asked of the script's list: a thing -/
def Fa:D->Bool
 | .int _=>true
 |_=>false
/-- a row of so many numbers from 0 on -/
def kC:D->Bool
 | .int i=>decide (0<=i)
 |_=>false
def Ax (d:D)(k:Int):Bool:=match d with
 | .tup ds=>decide ((ds.length:Int)=k)&&ds.all kC
 |_=>false
/-! every part has a kind that is told,and no tuple is long -/
mutual
def okD:D->Bool
 | .scr _=>false| .exc _=>false| .fn _=>false| .dct _=>false
 | .tup ds=>decide (ds.length<=1000)&&okDs ds
 |_=>true
def okDs:List D->Bool
 | []=>true
 |d::ds=>okD d&&okDs ds
end
theorem RX: ∀ {ds:List D},okDs ds=true-> ∀d∈ds,okD d=true
 |d::ds,h,x,hx=>by
  have h':(okD d&&okDs ds)=true:=h;rw [M6] at h';rcases R6.mp hx with e|e
  ·subst e;exact h'.1
  ·exact RX h'.2 x e
theorem Fb: ∀ {ds:List D},(∀d∈ds,okD d=true)->okDs ds=true
 | [],_=>rfl
 |d::ds,h=>by
  show (okD d&&okDs ds)=true;rw [h d D0,Fb λx hx=>h x (D5 _ hx)];rfl
theorem Qu {ds:List D}(h:okD (.tup ds)=true):ds.length<=1000/\ ∀d∈ds,okD d=true:=by
 have h':(decide (ds.length<=1000)&&okDs ds)=true:=h;rw [M6] at h';exact⟨of_decide_eq_true h'.1,RX h'.2⟩
theorem Xv {ds:List D}(h:ds.length<=1000)(h2: ∀d∈ds,okD d=true):okD (.tup ds)=true:=by
 show (decide (ds.length<=1000)&&okDs ds)=true;rw [decide_eq_true h,Fb h2];rfl
theorem WA {d:D}(h:okD d=true): ∃n,Gm d=some n:=by
 cases d<;>first|exact⟨_,rfl⟩|cases h
/-- a table -/
def Th:D->Bool
 | .tup rs=>decide (1<=rs.length)&&decide (rs.length<=6)&&rs.all λr=>Ax r rs.length
 |_=>false
def vV:RDn:=λds h Q=> ∃d n,ds= [d]/\Gm d=some n/\Q (.bl (Fa d)) h
variable {n:Nat}{f:Addr}{fd:D8}
theorem Du (Z:Zs mg)(F:Fun K "is_whole" "is_whole" Ya f fd):FnOk P w K mg base CX0 (n+1) f fd ["thing"] (LSp K vV):=by
 refine F.okM Dm (λhr=>(jf (jZ (PC (UO (T:= "int") (by decide) rfl Z.isinstance rfl Z.int (by decide +kernel) (jv 0)) (Mz (jaj (UO (T:= "bool") (by decide) rfl Z.isinstance rfl Z.bool (by decide +kernel) (jv 0)))))))) ?_;rintro ds h Q ⟨d,nm,rfl,hn,q⟩;refine⟨rfl,?_⟩;simp only [Lb,FY,dIs,Rj,vy,T3,U2,R0,M1,J4,C7,E3,K0,D.bl.injEq,FZ,FF,exists_eq_left',hn];cases d<;>cases hn<;>exact⟨h,Sub.refl h,q⟩
def JP:RDn:=λds h Q=> ∃d,∃a b:Int,ds= [d,.int a,.int b]/\okD d=true/\Q (.bl (wy d a b)) h
theorem GY (Z:Zs mg)(F:Fun K "is_within" "is_within" ZM f fd)(vH:jg P w K mg base n "is_whole" ["thing"] vV):FnOk P w K mg base CX0 (n+1) f fd ["thing","least","most"] (LSp K JP):=by
 refine F.okM GU (λhr=>(jf (jZ (PC (jk vH hr (j1 (jv 0))) (Mz (Kl PL PL (jv 1) (jv 0) (jv 2))))))) ?_;rintro ds h Q ⟨d,a,b,rfl,ok,q⟩;refine⟨rfl,?_⟩;obtain⟨nm,hn⟩:=WA ok;refine⟨_,rfl,d,nm,rfl,hn,Fa d,rfl,?_⟩;cases d with
 |int x=>
  refine vq ⟨_,rfl,_,rfl,_,rfl,?_⟩;show if decide (a<=x)=true then _ else _
  by_cases h1:a<=x
  ·rw [decide_eq_true h1];simp only [wy,decide_eq_true h1,bI] at q;exact vq ⟨_,rfl,h,Sub.refl h,q⟩
  ·rw [decide_eq_false h1];simp only [wy,decide_eq_false h1,mC] at q;exact wO ⟨h,Sub.refl h,q⟩
 |_=>exact wO ⟨h,Sub.refl h,q⟩
def Xw:RDn:=λds h Q=> ∃k a:Int,ds= [.int k,.int a]/\Q (.bl (decide (a<=k))) h
theorem Nf (Z:Zs mg)(F:Fun K "is_from" "is_from" Uf f fd)(vH:jg P w K mg base n "is_whole" ["thing"] vV):FnOk P w K mg base CX0 (n+1) f fd ["thing","least"] (LSp K Xw):=by
 refine F.okM Nc (λhr=>(jf (jZ (PC (jk vH hr (j1 (jv 0))) (Mz (jc1 Lf (jv 0) (jv 1))))))) ?_;rintro ds h Q ⟨k,a,rfl,q⟩;refine⟨rfl,?_⟩;refine⟨_,rfl,.int k,"int",rfl,rfl,_,rfl,vq ⟨_,rfl,_,rfl,h,Sub.refl h,q⟩⟩
def vW:RDn:=λds h Q=> ∃d,∃n:Int,ds= [d,.int n]/\okD d=true/\Q (.bl (wy d 0 (n-1))) h
theorem Dv (Z:Zs mg)(F:Fun K "is_place" "is_place" Yb f fd)(We:jg P w K mg base n "is_within" ["thing","least","most"] JP):FnOk P w K mg base CX0 (n+1) f fd ["thing","size"] (LSp K vW):=by
 refine F.okM Do (λhr=>(jf (jZ (jk We hr (j3 (jv 0) jF (jop yr (jv 1) jF)))))) ?_;rintro ds h Q ⟨d,k,rfl,ok,q⟩;refine⟨rfl,?_⟩;exact⟨_,rfl,_,rfl,d,0,k-1,rfl,ok,h,Sub.refl h,q⟩
def yB:RDn:=λds h Q=> ∃d,∃n:Int,ds= [d,.int n]/\okD d=true/\Q (.bl (vn d n)) h
theorem Qw (Z:Zs mg)(F:Fun K "are_places" "are_places" Jy f fd)(yE:jg P w K mg base n "is_place" ["thing","size"] vW):FnOk P w K mg base CX0 (n+1) f fd ["thing","size"] (LSp K yB):=by
 refine F.okM Ww (λhr=>(jf (jZ (PC (UO (T:= "tuple") (by decide) rfl Z.isinstance rfl Z.tuple (by decide +kernel) (jv 0)) (Mz (ze (Ju rfl) rfl Z.all B0 (j1 (jl0 2 Ww (jY (jv 0)) (λ_ _ _ _=>(jk yE hr (j2 (jv 2) (jv 1)))))))))))) ?_;rintro ds h Q ⟨d,k,rfl,ok,q⟩;refine⟨rfl,?_⟩;obtain⟨nm,hn⟩:=WA ok;refine⟨_,rfl,nm,hn,?_⟩;cases d with
 |tup es=>
  cases hn;obtain⟨hl,ht⟩:=Qu ok;refine⟨_,rfl,vq ?_⟩;exact qd es (λx=>x) (λx=>wy x 0 (k-1)) hl (by rw [List.map_id']) (λR r=>⟨_,rfl,r⟩) (λx hx Q' q'=>⟨_,rfl,_,rfl,x,k,rfl,ht x hx,q'⟩) ⟨h,Sub.refl h,q⟩
 |_=>cases hn<;>exact⟨_,rfl,wO ⟨h,Sub.refl h,q⟩⟩
def RY:RDn:=λds h Q=> ∃S:List Nat,ds= [jC S]/\S.length<=1000/\Q (.bl ((S.zip (S.drop 1)).all λp=>decide ((p.1:Int)<(p.2:Int)))) h
theorem OB (Z:Zs mg)(F:Fun K "rises" "rises" Dp f fd):FnOk P w K mg base CX0 (n+1) f fd ["row"] (LSp K RY):=by
 refine F.okM Mg (λhr=>(jf (jZ (ze (Ju rfl) rfl Z.all B0 (j1 (Am (i:=1) (j:=2) (js:= [1,2]) rfl (jG (by rfl)) (Rx rfl Z.zip (j2 (jv 0) (Gu (jv 0) (WQ jF) XU))) (by decide) (by decide) (by decide) Mg.nd rfl rfl (by first|exact M5 rfl|exact F6 rfl) (by first|exact M5 rfl|exact F6 rfl) (λX' hX=>zH) (λX' hX=>by obtain⟨C,s₀,H₀,ex,rfl⟩:=hX;exact(jc1 Ld (jv 1) (jv 2))))))))) ?_;rintro ds h Q ⟨S,rfl,hl,q⟩;refine⟨rfl,?_⟩;refine LP (j:=λ_=>some (PY (S.map λ(k:Nat)=>D.int (k:Int)) (UI (S.map λ(k:Nat)=>D.int (k:Int)) (some 1) none))) (S.zip (S.drop 1)) (λp=> .int (p.1:Int)) (λp=> .int (p.2:Int)) (λp=>decide ((p.1:Int)<(p.2:Int))) (by rw [X3];omega) (congrArg some (BV S)) (λR r=>⟨_,rfl,_,rfl,_,rfl,_,_,rfl,r⟩) (λp hp Q' q'=>⟨_,rfl,_,rfl,q'⟩) ⟨h,Sub.refl h,q⟩
theorem OC {S:List Nat}(h:S.Pairwise (· < ·)):((S.zip (S.drop 1)).all λp=>decide ((p.1:Int)<(p.2:Int)))=true:=by
 rw [S1];intro p hp;have:=RA h p hp;exact decide_eq_true (by omega)
def jaw (n:Nat)(d:D):Prop:=(okD d=true/\vn d (n:Int)=false)\/ ∃S:List Nat,d=jC S/\(∀i∈S,i<n)/\S.length<=1000/\((S.zip (S.drop 1)).all λp=>decide ((p.1:Int)<(p.2:Int)))=false
def Uo:RDn:=λds h Q=> ∃d,∃n:Nat,ds= [d,.int (n:Int)]/\n<=6/\((∃S,d=jC S/\IsS n S/\Q (.bl true) h)\/(jaw n d/\Q (.bl false) h))
theorem Fc (Z:Zs mg)(F:Fun K "is_set" "is_set" Qk f fd)(Ta:jg P w K mg base n "rises" ["row"] RY)(yf:jg P w K mg base n "are_places" ["thing","size"] yB):FnOk P w K mg base CX0 (n+1) f fd ["thing","size"] (LSp K Uo):=by
 refine F.okM CU (λhr=>(jf (jZ (PC (jk yf hr (j2 (jv 0) (jv 1))) (Mz (jk Ta hr (j1 (jv 0)))))))) ?_;rintro ds h Q ⟨d,n,rfl,hn,q⟩;refine⟨rfl,?_⟩;have okO: ∀S:List Nat,S.length<=1000->okD (jC S)=true:=λS hS=>Xv (by rw [G2];exact hS) λd hd=>by obtain⟨x,_,rfl⟩:=D6.mp hd;rfl
 have plO: ∀S:List Nat,(∀i∈S,i<n)->vn (jC S) (n:Int)=true:=λS hS=>by
  show (S.map _).all _=true;rw [S1];intro x hx;obtain⟨i,hi,rfl⟩:=D6.mp hx;have:=hS i hi;show (decide ((0:Int)<=(i:Int))&&decide ((i:Int)<=(n:Int)-1))=true;rw [decide_eq_true (show (0:Int)<=(i:Int) by omega),decide_eq_true (show (i:Int)<=(n:Int)-1 by omega)];rfl
 rcases q with ⟨S,rfl,hS,q⟩|⟨⟨ok,bad⟩|⟨S,rfl,hS,hl,hr⟩,q⟩
 ·have hlen:=hS.len;refine⟨_,rfl,_,rfl,jC S,(n:Int),rfl,okO S (by omega),?_⟩;rw [plO S λi hi=>hS.lt hi];refine⟨_,rfl,vq ⟨_,rfl,S,rfl,by omega,?_⟩⟩;rw [OC hS.rise];exact⟨h,Sub.refl h,q⟩
 ·refine⟨_,rfl,_,rfl,d,(n:Int),rfl,ok,?_⟩;rw [bad];exact⟨_,rfl,wO ⟨h,Sub.refl h,q⟩⟩
 ·refine⟨_,rfl,_,rfl,jC S,(n:Int),rfl,okO S hl,?_⟩;rw [plO S hS];refine⟨_,rfl,vq ⟨_,rfl,S,rfl,hl,?_⟩⟩;rw [hr];exact⟨h,Sub.refl h,q⟩
theorem Xx: ∀ {a b:List K5},B6 a b=true->a.length=b.length
 | [],[],_=>rfl
 | [],_::_,h=>by simp [B6] at h
 |_::_,[],h=>by simp [B6] at h
 |x::a,y::b,h=>by
  have h2:(M8 x y&&B6 a b)=true:=h;rw [R0,R0,Xx (Bool.and_eq_true_iff.mp h2).2]
def jax (n:Nat)(d:D):Prop:=(okD d=true/\vn d (n:Int)=false)\/ ∃o:List Nat,d=jC o/\(∀x∈o,x<n)/\o.length<=60/\o.length≠n
def Up:RDn:=λds h Q=> ∃d,∃n:Nat,ds= [d,.int (n:Int)]/\n<=6/\((∃o,d=jC o/\Ordr n o/\Q (.bl true) h)\/(jax n d/\Q (.bl false) h))
theorem Dw (Z:Zs mg)(F:Fun K "is_order" "is_order" Yc f fd)(yf:jg P w K mg base n "are_places" ["thing","size"] yB):FnOk P w K mg base CX0 (n+1) f fd ["thing","size"] (LSp K Up):=by
 refine F.okM Dq (λhr=>(jf (jZ (PC (jk yf hr (j2 (jv 0) (jv 1))) (Mz (jc1 (Jc hr.units) (ze Gq rfl Z.sorted (by decide +kernel) (j1 (jv 0))) (EI rfl rfl Z.list rfl Z.range (j1 (jv 1))))))))) ?_;rintro ds h Q ⟨d,k,rfl,hk,q⟩;refine⟨rfl,?_⟩;rcases q with ⟨o,rfl,ho,q⟩|⟨⟨ok,bad⟩|⟨o,rfl,hlt,hle,hne⟩,q⟩
 ·have hlen:o.length=k:=ho.ord.len;have hle:o.length<=60:=by omega
  have hlt: ∀x∈o,x<k:=λx hx=>G8.mp (ho.mem_iff.mp hx)
  have okO:okD (jC o)=true:=Xv (by rw [G2];omega) λd hd=>by obtain⟨x,_,rfl⟩:=D6.mp hd;rfl
  have plO:vn (jC o) (k:Int)=true:=by
   show (o.map _).all _=true;rw [S1];intro x hx;obtain⟨i,hi,rfl⟩:=D6.mp hx;have:=hlt i hi;show (decide ((0:Int)<=(i:Int))&&decide ((i:Int)<=(k:Int)-1))=true;rw [decide_eq_true (show (0:Int)<=(i:Int) by omega),decide_eq_true (show (i:Int)<=(k:Int)-1 by omega)];rfl
  have hlc:(zU o).length<=60:=by unfold zU;rw [G2];exact hle
  refine⟨_,rfl,_,rfl,jC o,(k:Int),rfl,okO,?_⟩;rw [plO];refine⟨_,rfl,vq ⟨_,rfl,zU o,M5 (by rw [VG]),by omega,λp1 ns' e1 hp hpw=>⟨_,rfl,k,rfl,by omega,λp2 e2=> ?_⟩⟩⟩;have er:((G0 k).map λ(i:Nat)=>D.int (i:Int))=(zU (G0 k)).map D.int:=by unfold zU;rw [R3];rfl
  refine⟨.list (ns'.map .int),.list ((zU (G0 k)).map .int),⟨p1,_,rfl,ju jc e2,zV _ _⟩,⟨p2,_,rfl,by rw [jc,er],zV _ _⟩,wR _,wR _,h,Sub.newAt (Sub.newAt (Sub.refl h) e1) e2,?_⟩;have ee:M8 (.list (ns'.map .int)) (.list ((zU (G0 k)).map .int))=true:=by
   have es:ns'=zU (G0 k):=aC (le:=λ(x y:Int)=>x<=y) (λ_ _ _ _ a b=>Int.le_antisymm a b) hpw (Gw k) (hp.trans (ho.map _));rw [es];exact VH _
  rw [ee];exact q
 ·refine⟨_,rfl,_,rfl,d,(k:Int),rfl,ok,?_⟩;rw [bad];exact⟨_,rfl,wO ⟨h,Sub.refl h,q⟩⟩
 ·skip
  have okO:okD (jC o)=true:=Xv (by rw [G2];omega) λd hd=>by obtain⟨x,_,rfl⟩:=D6.mp hd;rfl
  have plO:vn (jC o) (k:Int)=true:=by
   show (o.map _).all _=true;rw [S1];intro x hx;obtain⟨i,hi,rfl⟩:=D6.mp hx;have:=hlt i hi;show (decide ((0:Int)<=(i:Int))&&decide ((i:Int)<=(k:Int)-1))=true;rw [decide_eq_true (show (0:Int)<=(i:Int) by omega),decide_eq_true (show (i:Int)<=(k:Int)-1 by omega)];rfl
  have hlc:(zU o).length<=60:=by unfold zU;rw [G2];exact hle
  refine⟨_,rfl,_,rfl,jC o,(k:Int),rfl,okO,?_⟩;rw [plO];refine⟨_,rfl,vq ⟨_,rfl,zU o,M5 (by rw [VG]),by omega,λp1 ns' e1 hp hpw=>⟨_,rfl,k,rfl,by omega,λp2 e2=> ?_⟩⟩⟩;have er:((G0 k).map λ(i:Nat)=>D.int (i:Int))=(zU (G0 k)).map D.int:=by unfold zU;rw [R3];rfl
  refine⟨.list (ns'.map .int),.list ((zU (G0 k)).map .int),⟨p1,_,rfl,ju jc e2,zV _ _⟩,⟨p2,_,rfl,by rw [jc,er],zV _ _⟩,wR _,wR _,h,Sub.newAt (Sub.newAt (Sub.refl h) e1) e2,?_⟩;have ee:M8 (.list (ns'.map .int)) (.list ((zU (G0 k)).map .int))=false:=by
   cases hb:M8 (.list (ns'.map .int)) (.list ((zU (G0 k)).map .int)) with
   |false=>rfl
   |true=>
    have:=Xx (show B6 (ns'.map .int) ((zU (G0 k)).map .int)=true from hb);rw [G2,G2,hp.length_eq] at this;unfold zU at this;rw [G2,G2,G5] at this;exact absurd this hne
  rw [ee];exact q
def JQ:RDn:=λds h Q=> ∃d k,ds= [d,.int k]/\okD d=true/\Q (.bl (Ax d k)) h
theorem Uq (Z:Zs mg)(F:Fun K "is_table_row" "is_table_row" vp f fd)(vH:jg P w K mg base n "is_whole" ["thing"] vV):FnOk P w K mg base CX0 (n+1) f fd ["thing","size"] (LSp K JQ):=by
 refine F.okM Jz (λhr=>(jd (Zn (jpt (Rn (yy (wx (UO (T:= "tuple") (by decide) rfl Z.isinstance rfl Z.tuple (by decide +kernel) (jv 0)))) (Mx (jt1 oq_ne (Jo Z (jv 0)) (jv 1))))) (jf (jZ jbl)) jN) (by exact(jf (jZ (ze (Ju rfl) rfl Z.all B0 (j1 (jl0 2 Jz (jY (jv 0)) (λ_ _ _ _=>(PC (jk vH hr (j1 (jv 2))) (Mz (jc1 Lf (jv 2) jF)))))))))))) ?_;rintro ds h Q ⟨d,k,rfl,ok,q⟩;refine⟨rfl,?_⟩;obtain⟨nm,hn⟩:=WA ok;simp only [FC,Tf,Ho,NZ,WO,dIs,Rj,vy,T3,U2,R0,M1,S4,J4,C7,E3,K0,D.bl.injEq,Lb,dC,FF,Mq,dCB,zh,Zv,dOp,Ew,aR,neD,exists_eq_left',hn];cases d with
 |tup es=>
  cases hn;obtain⟨hl,ht⟩:=Qu ok;simp only [HV]
  by_cases hk:(es.length:Int)=k
  ·simp only [hk];simp;refine Bj (ds:=es) (h1:=h) (j:=λ_=>some es) (λx=> .bl (kC x)) (R1 (jw hl)) rfl (λR r=>⟨.tup es,rfl,r⟩) (λd hd Q' q'=> ?_) (λp hp=> ?_)
   ·obtain⟨nn,hnn⟩:=WA (ht d hd);refine⟨d,rfl,d,nn,rfl,hnn,Fa d,rfl,?_⟩;cases d with
    |int i=>exact vq ⟨.int i,rfl,q'⟩
    |_=>exact wO q'
   ·refine⟨p,es.map kC,rfl,by rw [jc];simp,h,?_,?_⟩
    ·rw [zw hp];exact Sub.refl h
    ·simpa [Ax,hk,A6,X7] using q
  ·simp [hk];exact⟨h,Sub.refl h,by simpa [Ax,hk] using q⟩
 |_=>cases hn<;>exact⟨h,Sub.refl h,q⟩
def vD:RDn:=λds h Q=> ∃d,ds= [d]/\okD d=true/\Q (.bl (Th d)) h
theorem Yi (Z:Zs mg)(F:Fun K "has_table_form" "has_table_form" yl f fd)(UZ:jg P w K mg base n "is_table_row" ["thing","size"] JQ)(zm: ∃tk,mg "MOST_ROWS" =some (.int 6 tk)):FnOk P w K mg base CX0 (n+1) f fd ["thing"] (LSp K vD):=by
 obtain⟨tk_MOST_ROWS,m_MOST_ROWS⟩:=zm;refine F.okM vB (λhr=>(jd (Zn (jpt (Rn (yy (wx (UO (T:= "tuple") (by decide) rfl Z.isinstance rfl Z.tuple (by decide +kernel) (jv 0)))) (Mx (yy (Bv PL PL jF (Jo Z (jv 0)) (Mw rfl m_MOST_ROWS)))))) (jf (jZ jbl)) jN) (by exact(jf (jZ (ze (Ju rfl) rfl Z.all B0 (j1 (jl0 1 vB (jY (jv 0)) (λ_ _ _ _=>(jk UZ hr (j2 (jv 1) (Jo Z (jv 0))))))))))))) ?_;rintro ds h Q ⟨d,rfl,ok,q⟩;refine⟨rfl,?_⟩;obtain⟨nm,hn⟩:=WA ok;simp only [FC,Tf,Ho,NZ,WO,dIs,Rj,vy,T3,U2,R0,M1,S4,J4,C7,E3,K0,D.bl.injEq,Lb,dC,FF,Mq,dCB,zh,Zv,Vx,Ew,Af,exists_eq_left',hn];cases d with
 |tup es=>
  cases hn;obtain⟨hl,ht⟩:=Qu ok;simp only [HV]
  by_cases h1:1<=es.length
  ·by_cases h6:es.length<=6
   ·have h1':(1:Int)<=es.length:=by omega
    have h6':(es.length:Int)<=6:=by omega
    simp [h1',h6'];refine Bj (ds:=es) (h1:=h) (j:=λ_=>some es) (λx=> .bl (Ax x es.length)) (R1 (jw hl)) rfl (λR r=>⟨.tup es,rfl,r⟩) (λd hd Q' q'=> ?_) (λp hp=> ?_)
    ·exact⟨d,rfl,.tup es,rfl,d,es.length,rfl,ht d hd,q'⟩
    ·refine⟨p,es.map λx=>Ax x es.length,rfl,by rw [jc];simp,h,?_,?_⟩
     ·rw [zw hp];exact Sub.refl h
     ·simpa [Th,h1,h6,A6,X7] using q
   ·have h1':(1:Int)<=es.length:=by omega
    have h6': ¬ (es.length:Int)<=6:=by omega
    simp [h1',h6'];exact⟨h,Sub.refl h,by simpa [Th,h1,h6] using q⟩
  ·have h1': ¬ (1:Int)<=es.length:=by omega
   simp [h1'];exact⟨h,Sub.refl h,by simpa [Th,h1] using q⟩
 |_=>cases hn<;>exact⟨h,Sub.refl h,q⟩
theorem SJ {x:Int}(h:0<=x):kC (.int x)=true:=decide_eq_true h
variable {e:Nat}{T:List (List Int)}
theorem SK (h:Sq n e T){r:List Int}(hr:r∈T):Ax (Jr r) n=true:=by
 simp only [Ax,Jr,G2,h.row r hr,decide_true,bI,A6,S1,C6];intro x hx;exact SJ (h.nn r hr x hx)
theorem SL (h:Sq n e T)(h1:1<=n)(h6:n<=6):Th (jq T)=true:=by
 simp only [Th,jq,G2,h.len,decide_eq_true h1,decide_eq_true h6,bI,A6,S1,C6];intro r hr;exact SK h hr
theorem KU (h:Sq n e T)(h6:n<=6):okD (jq T)=true:=
 Xv (by rw [G2,h.len];omega) λd hd=>by
  obtain⟨r,hr,rfl⟩:=D6.mp hd;exact Xv (by rw [G2,h.row r hr];omega) λd hd=>by obtain⟨x,_,rfl⟩:=D6.mp hd;rfl
def jB:RDn:=λds h Q=> ∃T,∃n e:Nat,ds= [jq T]/\Sq n e T/\1<=n/\n<=6/\Q .non h
theorem Qx (Z:Zs mg)(F:Fun K "want_table" "want_table" JB f fd)(YZ:jg P w K mg base n "has_table_form" ["thing"] vD):FnOk P w K mg base CX0 (n+1) f fd ["thing"] (LSp K jB):=by
 refine F.okM Ql (λhr=>(jf (Zn (yy (wx (jk YZ hr (j1 (jv 0))))) (jf VC) jN))) ?_;rintro ds h Q ⟨T,k,b,rfl,hT,h1,h6,q⟩;refine⟨rfl,?_⟩;refine⟨_,rfl,jq T,rfl,KU hT h6,_,rfl,?_⟩;rw [SL hT h1 h6];exact wO ⟨h,Sub.refl h,q⟩
def WB:RDn:=λds h Q=> ∃T,∃n e p:Nat,ds= [jq T,.int (p:Int)]/\Sq n e T/\p<n/\Q .non h
theorem Qy (Z:Zs mg)(F:Fun K "want_place" "want_place" JC f fd)(yE:jg P w K mg base n "is_place" ["thing","size"] vW):FnOk P w K mg base CX0 (n+1) f fd ["table","thing"] (LSp K WB):=by
 refine F.okM Qm (λhr=>(jf (Zn (yy (wx (jk yE hr (j2 (jv 1) (Jo Z (jv 0)))))) (jf VC) jN))) ?_;rintro ds h Q ⟨T,n,bb,p,rfl,hT,hp,q⟩;refine⟨rfl,?_⟩;refine⟨_,rfl,_,rfl,.int (p:Int),_,rfl,rfl,_,rfl,?_⟩;have e0:wy (.int (p:Int)) 0 ((((T.map Jr).length:Nat):Int)-1)=true:=by
  rw [G2,hT.len];show (decide ((0:Int)<=(p:Int))&&decide ((p:Int)<=(n:Int)-1))=true;rw [decide_eq_true (by omega),decide_eq_true (by omega)];rfl
 rw [e0];exact wO ⟨h,Sub.refl h,q⟩
def Ur:RDn:=λds h Q=> ∃ (T:List (List Int)) (S:List Nat) (n:Nat),ds= [jq T,jC S]/\T.length=n/\IsS n S/\n<=6/\Q .non h
theorem Dx (Z:Zs mg)(F:Fun K "want_set" "want_set" Yd f fd)(QQ:jg P w K mg base n "is_set" ["thing","size"] Uo):FnOk P w K mg base CX0 (n+1) f fd ["table","thing"] (LSp K Ur):=by
 refine F.okM Dr (λhr=>(jf (Zn (yy (wx (jk QQ hr (j2 (jv 1) (Jo Z (jv 0)))))) (jf VC) jN))) ?_;rintro ds h Q ⟨T,S,k,rfl,hT,hS,h6,q⟩;refine⟨rfl,?_⟩;refine⟨_,rfl,_,rfl,_,k,by rw [G2,hT],h6,.inl ⟨S,rfl,hS,_,rfl,?_⟩⟩;exact wO ⟨h,Sub.refl h,q⟩
def WC:RDn:=λds h Q=> ∃ (T:List (List Int)) (o:List Nat) (n:Nat),ds= [jq T,jC o]/\T.length=n/\Ordr n o/\n<=6/\Q .non h
theorem Qz (Z:Zs mg)(F:Fun K "want_order" "want_order" JD f fd)(Nm:jg P w K mg base n "is_order" ["thing","size"] Up):FnOk P w K mg base CX0 (n+1) f fd ["table","thing"] (LSp K WC):=by
 refine F.okM Qn (λhr=>(jf (Zn (yy (wx (jk Nm hr (j2 (jv 1) (Jo Z (jv 0)))))) (jf VC) jN))) ?_;rintro ds h Q ⟨T,o,k,rfl,hT,ho,h6,q⟩;refine⟨rfl,?_⟩;refine⟨_,rfl,_,rfl,_,k,by rw [G2,hT],h6,.inl ⟨o,rfl,ho,_,rfl,?_⟩⟩;exact wO ⟨h,Sub.refl h,q⟩
def zC:RDn:=λds h Q=> ∃k lo hi:Int,ds= [.int k,.int lo,.int hi]/\lo<=k/\k<=hi/\Q .non h
theorem UU (Z:Zs mg)(F:Fun K "want_number" "want_number" vO f fd)(We:jg P w K mg base n "is_within" ["thing","least","most"] JP):FnOk P w K mg base CX0 (n+1) f fd ["thing","least","most"] (LSp K zC):=by
 refine F.okM US (λhr=>(jf (Zn (yy (wx (jk We hr (j3 (jv 0) (jv 1) (jv 2))))) (jf VC) jN))) ?_;rintro ds h Q ⟨k,lo,hi,rfl,h1,h2,q⟩;refine⟨rfl,?_⟩;refine⟨_,rfl,_,rfl,_,rfl,.int k,lo,hi,rfl,rfl,_,rfl,?_⟩;have e0:wy (.int k) lo hi=true:=by
  show (decide (lo<=k)&&decide (k<=hi))=true;rw [decide_eq_true h1,decide_eq_true h2];rfl
 rw [e0];exact wO ⟨h,Sub.refl h,q⟩
def vX:RDn:=λds h Q=> ∃T S,∃n e:Nat,ds= [jq T,jC S]/\Sq n e T/\IsS n S/\n<=6/\Q (jC (jL n T S)) h
theorem QB (Z:Zs mg)(F:Fun K "step_after" "step_after" JF f fd):FnOk P w K mg base CX0 (n+1) f fd ["table","some"] (LSp K vX):=by
 refine F.okM vP (λhr=>(jf (jZ (jM jH rfl Z.tuple (by decide +kernel) (j1 (jl1 2 vP (jrg Z (Jo Z (jv 0))) (λ_ _ _ _=>(wx (ze (Aj rfl) rfl Z.any (by decide +kernel) (j1 (jl0 3 vP (jY (jv 1)) (λ_ _ _ _=>(jc1 oq_ne (ji1 (ji1 (jv 0) (jv 3)) (jv 2)) jF))))))) (λ_ _ _ _=>(jv 2)))))))) ?_;rintro ds h Q ⟨T,S,k,b,rfl,hT,hS,h6,q⟩;refine⟨rfl,?_⟩;have hlen:=hS.len;refine uO (G0 k) (λj=> .int (j:Int)) (λj=> .int (j:Int)) (λj=>S.any λi=>decide (ent T i j≠0)) (by rw [G5];omega) rfl (λR r=>⟨_,rfl,(k:Int),by rw [G2,hT.len],by omega,by omega,r⟩) (λj hj Q' q'=> ?_) (λj hj hp Q' q'=>⟨_,rfl,q'⟩) ⟨h,Sub.refl h,q⟩;refine jan S (λi=> .int (i:Int)) (λi=>decide (ent T i j≠0)) (by omega) rfl (λR r=>⟨_,rfl,r⟩) (λi hi Q'' q''=> ?_) ⟨_,rfl,q'⟩;have hi':=hS.lt hi;refine⟨_,rfl,_,rfl,_,yi hT hi',_,rfl,_,yj (hT.row _ (Sq.getRow hT hi')) (G8.mp hj),?_⟩;have e:(!decide (((T.getD i []).getD j 0)=0))=decide (ent T i j≠0):=by simp [ent]
 rw [<-e] at q'';exact q''
def YB:RDn:=λds h Q=> ∃T S,∃n e k:Nat,ds= [jq T,jC S,.int (k:Int)]/\Sq n e T/\1<=n/\n<=6/\IsS n S/\k<=1000000000/\Q (jC (itF (jL n T) S k)) h
theorem GZ (Z:Zs mg)(F:Fun K "set_after" "set_after" ZN f fd)(jh:jg P w K mg base n "want_table" ["thing"] jB)(Np:jg P w K mg base n "want_set" ["table","thing"] Ur)(jR:jg P w K mg base n "want_number" ["thing","least","most"] zC)(JZ:jg P w K mg base n "step_after" ["table","some"] vX)(wq: ∃tk,mg "MOST_STEPS_afters" =some (.int 1000000000 tk)):FnOk P w K mg base CX0 (n+1) f fd ["table","some","k"] (LSp K YB):=by
 obtain⟨tk_MOST_STEPS_afters,m_MOST_STEPS_afters⟩:=wq;refine F.okM yX (λhr=>(jd (zT (jk jh hr (j1 (jv 0)))) (by exact(jd (zT (jk Np hr (j2 (jv 0) (jv 1)))) (by exact(jd (zT (jk jR hr (j3 (jv 2) jF (Mw rfl m_MOST_STEPS_afters)))) (by exact(jd (jse 3 yX (PR (j1 (jv 1)))) (by exact(jd (GA N5 (jt1 PL (Jo Z (jv 3)) (jv 2)) (jd (jse 4 yX (jk JZ hr (j2 (jv 0) (ji1 (jv 3) (Lp jF))))) (by exact(jd (Zn (Bs (LL hr.units) (jv 4) (jv 3) (by with_unfolding_all rfl)) (jd (jse 5 yX (qi hr.units (jv 3) (jv 4))) (by exact(jf (jZ (ji1 (jv 3) (jop wt (jv 5) (jop Zw (jop yr (jv 2) (jv 5)) (jop yr (Jo Z (jv 3)) (jv 5))))))))) jN) (by exact(jf (zT (EH (jv 3) (jv 4))))))))) (by exact(jf (jZ (ji1 (jv 3) (jv 2))))))))))))))) ?_;rintro ds h Q ⟨T,S,n,bb,k,rfl,hT,h1,h6,hS,hk,q⟩;refine⟨rfl,?_⟩;refine jA [some (jq T),some (jC S),some (.int (k:Int)),none,none,none] (λC hC=>⟨_,rfl,T,n,bb,rfl,hT,h1,h6,hC⟩) ?_;refine jA [some (jq T),some (jC S),some (.int (k:Int)),none,none,none] (λC hC=>⟨_,rfl,_,rfl,T,S,n,rfl,hT.len,hS,h6,hC⟩) ?_;refine jA [some (jq T),some (jC S),some (.int (k:Int)),none,none,none] (λC hC=>⟨_,rfl,(k:Int),0,1000000000,rfl,by omega,by omega,hC⟩) ?_;have itS: ∀j,IsS n (itF (jL n T) S j):=λj=>hS.it j
 refine ji (λoV h'=> ∃A,oV= [some (jq T),some (jC S),some (.int (k:Int)),some (.lst A),none,none]/\h A=none/\h' A=some ((G0 1).map λj=>jC (itF (jL n T) S j))/\Sub h h') (λC hC=> ?_) ?_
 ·exact⟨_,rfl,sz1,λA eA=>hC _ _ ⟨A,rfl,eA,jc,Sub.newAt (Sub.refl h) eA⟩⟩
 rintro _ h1' ⟨A,rfl,fA,kA,sbA⟩;refine ji (λoV h'=> ∃a b,oV= [some (jq T),some (jC S),some (.int (k:Int)),some (.lst A),a,b]/\h' A=some ((G0 (k+1)).map λj=>jC (itF (jL n T) S j))/\Sub h h') (λC hC=> ?_) ?_
 ·refine Wl (λm oV h'=> ∃L a b,oV= [some (jq T),some (jC S),some (.int (k:Int)),some (.lst A),a,b]/\h' A=some ((G0 L).map λj=>jC (itF (jL n T) S j))/\Sub h h'/\1<=L/\L<=k+1/\m=k+1-L/\((G0 L).map (itF (jL n T) S)).Nodup) k ⟨1,none,none,rfl,kA,sbA,by decide,by omega,by omega,by simp⟩ ?_;rintro m _ h2 ⟨L,a,b,rfl,kA2,sb2,hL1,hLk,hm,nd⟩;have hL64:L<=64:=by
   have:=LQ h6 nd λX hX=>by obtain⟨j,_,rfl⟩:=D6.mp hX;exact itS j
   simpa using this
  refine⟨_,rfl,_,kA2,_,rfl,_,rfl,Ny (λc=> ?_) (λc=> ?_)⟩
  rotate_left
  ·have c': ¬ (((G0 L).map λj=>jC (itF (jL n T) S j)).length:Int)<=(k:Int):=λz=>c (decide_eq_true z)
   rw [G2,G5] at c';have eL:L=k+1:=by omega
   subst eL;exact hC _ _ ⟨a,b,rfl,kA2,sb2⟩
  have c':(((G0 L).map λj=>jC (itF (jL n T) S j)).length:Int)<=(k:Int):=of_decide_eq_true c;rw [G2,G5] at c';have hLk2:L<=k:=by omega
  have eqL:jL n T (itF (jL n T) S (L-1))=itF (jL n T) S L:=by
   obtain⟨L',rfl⟩: ∃L',L=L'+1:=⟨L-1,by omega⟩;rfl
  refine ji (λoV h'=>oV= [some (jq T),some (jC S),some (.int (k:Int)),some (.lst A),some (jC (itF (jL n T) S L)),b]/\h2=h') (λC2 hC2=> ?_) ?_
  ·refine⟨_,rfl,_,rfl,_,_,kA2,Wo hL1,T,_,n,bb,rfl,hT,itS _,h6,hC2 _ _ ⟨?_,rfl⟩⟩;rw [eqL];rfl
  rintro _ _ ⟨rfl,rfl⟩;have kA3:h2 A=some (((G0 L).map (itF (jL n T) S)).map jC):=by rw [kA2,R3];rfl
  refine ji (λoV h'=>oV= [some (jq T),some (jC S),some (.int (k:Int)),some (.lst A),some (jC (itF (jL n T) S L)),b]/\h2=h'/\itF (jL n T) S L ∉ (G0 L).map (itF (jL n T) S)) (λC2 hC2=> ?_) ?_
  ·refine⟨_,rfl,_,rfl,EZ kA3 ⟨_,rfl,Ny (λc=> ?_) (λc=>hC2 _ _ ⟨rfl,rfl,λz=>c (by rw [decide_eq_true z];rfl)⟩)⟩⟩;have hin:itF (jL n T) S L∈(G0 L).map (itF (jL n T) S):=by
    cases z:decide (itF (jL n T) S L∈(G0 L).map (itF (jL n T) S)) with
    |true=>exact of_decide_eq_true z
    |false=>rw [z] at c;exact absurd c (by decide)
   have hjl:=C0.mpr hin;have hat:=F7 hjl;generalize hJ:((G0 L).map (itF (jL n T) S)).idxOf (itF (jL n T) S L)=J at hjl hat;have hJL:J<L:=by simpa using hjl
   have hJe:itF (jL n T) S L=itF (jL n T) S J:=by
    rw [<-hat];simp
   refine jA [some (jq T),some (jC S),some (.int (k:Int)),some (.lst A),some (jC (itF (jL n T) S L)),some (.int (J:Int))] (λC3 hC3=> ?_) ?_
   ·refine⟨_,rfl,A,rfl,_,rfl,?_⟩;obtain⟨pd,ps,jj,zz,t1,t2,c1,c2,c3,c4,c5,c6,c7,ej⟩:=Sa (Q:=λd _=>d= .int (J:Int)) kA3 hin (by simp;omega) (by rw [hJ]);have ejj:jj=J:=by injection ej with ej;omega
    subst ejj;exact⟨pd,ps,jj,zz,t1,t2,c1,c2,c3,c4,c5,c6,c7,hC3⟩
   have hpos:(0:Int)<(((G0 L).map λj=>jC (itF (jL n T) S j)).length:Int)-(J:Int):=by
    rw [G2,G5];omega
   have hix:(J:Int)+((k:Int)-(J:Int))%((((G0 L).map λj=>jC (itF (jL n T) S j)).length:Int)-(J:Int))=((J+(k-J)%(L-J):Nat):Int):=by
    rw [G2,G5,aF,Z4,bU (by omega),bU (by omega)]
   have hlt:J+(k-J)%(L-J)<L:=by
    have:=F9 (k-J) (show 0<L-J by omega);omega
   refine⟨_,rfl,_,rfl,_,rfl,_,rfl,_,rfl,_,kA2,_,rfl,hpos,_,jC (itF (jL n T) S (J+(k-J)%(L-J))),kA2,?_,h,sb2,?_⟩
   ·rw [hix];exact VQ hlt
   ·rw [BR hJe hJL (by omega)];exact q
  rintro _ _ ⟨rfl,rfl,hni⟩;refine⟨_,rfl,A,rfl,_,rfl,_,kA2,?_,k+1-(L+1),_,by omega,Sub.refl _,L+1,_,_,rfl,?_,?_,by omega,by omega,rfl,?_⟩
  ·rw [G2,G5];exact jw (by omega)
  ·rw [jc,B3,S5];rfl
  ·exact(sb2).over fA
  ·rw [B3,S5,V1];exact⟨nd,by simp,λx hx y hy=>by rw [G9.mp (show y∈ [itF (jL n T) S L] from hy)];intro e;exact hni (e ▸ hx)⟩
 rintro _ h3 ⟨a,b,rfl,kA3,sb3⟩;exact⟨_,rfl,_,rfl,_,_,kA3,VQ (by omega),h,sb3,q⟩
def WD:RDn:=λds h Q=> ∃T U,∃n e f:Nat,ds= [jq T,jq U]/\Sq n e T/\Sq n f U/\e+f<=1000000/\n<=6/\Q (jq (Zo n T U)) h
theorem QC (Z:Zs mg)(F:Fun K "multiplied" "multiplied" JH f fd):FnOk P w K mg base CX0 (n+1) f fd ["one","other"] (LSp K WD):=by
 refine F.okM wA (λhr=>(jd (jse 2 wA (Jo Z (jv 0))) (by exact(jf (jZ (jM jH rfl Z.tuple (by decide +kernel) (j1 (jl0 3 wA (jY (jv 0)) (λ_ _ _ _=>(jM jH rfl Z.tuple (by decide +kernel) (j1 (jl0 4 wA (jrg Z (jv 2)) (λ_ _ _ _=>(ze (Bq rfl) rfl Z.sum (by decide +kernel) (j1 (jl0 5 wA (jrg Z (jv 2)) (λ_ _ _ _=>(jop EK (ji1 (jv 3) (jv 5)) (ji1 (ji1 (jv 1) (jv 5)) (jv 4)))))))))))))))))))) ?_;rintro ds h Q ⟨T,U,k,b,f,rfl,hT,hU,hb,h6,q⟩;refine⟨rfl,?_⟩;refine ji (λoV h'=>oV= [some (jq T),some (jq U),some (.int (k:Int)),none,none,none]/\h=h') (λC hC=>⟨_,rfl,hC _ _ ⟨by rw [G2,hT.len];rfl,rfl⟩⟩) ?_;rintro _ _ ⟨rfl,rfl⟩;refine QZ T Jr (λr=> .tup ((G0 k).map λj=> .int (jU k λm=>r.getD m 0*ent U m j))) (by rw [hT.len];omega) rfl (λR r=>⟨_,rfl,r⟩) (λr hr Q' q'=> ?_) ⟨h,Sub.refl h,?_⟩
 ·refine QZ (G0 k) (λj=> .int (j:Int)) (λj=> .int (jU k λm=>r.getD m 0*ent U m j)) (by rw [G5];omega) rfl (λR rr=>⟨_,rfl,(k:Int),rfl,by omega,by omega,rr⟩) (λj hj Q'' q''=> ?_) q';refine qc (G0 k) (λm=> .int (m:Int)) (λm=>r.getD m 0*ent U m j) (by rw [G5];omega) rfl (λR rr=>⟨_,rfl,(k:Int),rfl,by omega,by omega,rr⟩) (λm hm Q3 q3=> ?_) q'';have hm':=G8.mp hm;have hj':=G8.mp hj;refine⟨_,rfl,_,rfl,_,yj (hT.row r hr) hm',_,rfl,_,rfl,_,yi hU hm',_,rfl,_,yj (hU.row _ (Sq.getRow hU hm')) hj',?_,q3⟩;refine Lr (e:=b) (f:=f) ?_ (hU.ent_nn hm' hj') (by omega);have hm2:m<r.length:=by rw [hT.row r hr];exact hm'
  have e1:r.getD m 0=r[m]:=by rw [P5,G1 hm2];rfl
  rw [e1];exact⟨hT.nn r hr _ (S9 hm2),hT.bit r hr _ (S9 hm2)⟩
 ·rw [Lu hT];exact q
def Fd:RDn:=λds h Q=> ∃T,∃n e:Nat,ds= [jq T]/\Sq n e T/\1<=n/\n<=6/\Q (.bl (jP T)) h
theorem SM (Z:Zs mg)(F:Fun K "full" "full" CV f fd)(jh:jg P w K mg base n "want_table" ["thing"] jB):FnOk P w K mg base CX0 (n+1) f fd ["table"] (LSp K Fd):=by
 refine F.okM FA (λhr=>(jd (zT (jk jh hr (j1 (jv 0)))) (by exact(jf (jZ (ze (Ju rfl) rfl Z.all B0 (j1 (xY (i:=1) (i':=2) (js:= [1,2]) rfl (jG (by rfl)) (jY (jv 0)) (by decide) (by decide) (by decide) FA.nd rfl rfl (by first|exact M5 rfl|exact F6 rfl) (by first|exact M5 rfl|exact F6 rfl) (λX' hX=>zH) (λX' hX=>by obtain⟨C,s₀,H₀,ex,rfl⟩:=hX;exact(jY (jv 1))) (λX' hX=>zH) (λX' hX=>by obtain⟨C,s₀,H₀,ex,rfl⟩:=hX;exact(jc1 oq_ne (jv 2) jF)))))))))) ?_;rintro ds h Q ⟨T,k,b,rfl,hT,h1,h6,q⟩;refine⟨rfl,?_⟩;refine jA [some (jq T),none,none] (λC hC=>⟨_,rfl,T,k,b,rfl,hT,h1,h6,hC⟩) ?_;refine qe T Jr (λr=>r) D.int (λ_ x=>decide (x≠0)) (Lt hT h6) rfl (λR r=>⟨_,rfl,r⟩) (λr hr R rr=>⟨_,rfl,rr⟩) (λr hr x hx Q' q'=>⟨_,rfl,?_⟩) ⟨h,Sub.refl h,q⟩;show Q' (.bl (!decide (x=0))) h;have e:(!decide (x=0))=decide (x≠0):=by simp
 rw [e];exact q'
def Vm:RDn:=λds h Q=> ∃T,∃n e:Nat,ds= [jq T]/\Sq n e T/\1<=n/\n<=6/\Q (jq (jO n T)) h
theorem OD (Z:Zs mg)(F:Fun K "marks" "marks" Ds f fd)(jh:jg P w K mg base n "want_table" ["thing"] jB):FnOk P w K mg base CX0 (n+1) f fd ["table"] (LSp K Vm):=by
 refine F.okM Qo (λhr=>(jd (zT (jk jh hr (j1 (jv 0)))) (by exact(jf (jZ (jM jH rfl Z.tuple (by decide +kernel) (j1 (jl0 1 Qo (jY (jv 0)) (λ_ _ _ _=>(jM jH rfl Z.tuple (by decide +kernel) (j1 (jl0 2 Qo (jY (jv 1)) (λ_ _ _ _=>(jif (jt1 oq_ne (jv 2) jF) jF jF)))))))))))))) ?_;rintro ds h Q ⟨T,k,b,rfl,hT,h1,h6,q⟩;refine⟨rfl,?_⟩;refine jA [some (jq T),none,none] (λC hC=>⟨_,rfl,T,k,b,rfl,hT,h1,h6,hC⟩) ?_;refine QZ T Jr (λr=> .tup (r.map λx=> .int (if x≠0 then 1 else 0))) (by rw [hT.len];omega) rfl (λR r=>⟨_,rfl,r⟩) (λr hr Q' q'=> ?_) ⟨h,Sub.refl h,?_⟩
 ·refine QZ r D.int (λx=> .int (if x≠0 then 1 else 0)) (by rw [hT.row r hr];omega) rfl (λR r=>⟨_,rfl,r⟩) (λx hx Q'' q''=>⟨_,rfl,_,rfl,?_⟩) q'
  by_cases z:x=0
  ·subst z;exact wO q''
  ·have e:(!decide (x=0))=true:=by simp [z]
   rw [e];rw [if_pos z] at q'';exact vq q''
 ·rw [EL,<-EM hT];exact q
def Us:RDn:=λds h Q=> ∃T,∃n e:Nat,ds= [jq T]/\Sq n e T/\1<=n/\n<=6/\Q (jq (vj n T)) h
theorem Fe (Z:Zs mg)(F:Fun K "turned" "turned" Qp f fd)(jh:jg P w K mg base n "want_table" ["thing"] jB):FnOk P w K mg base CX0 (n+1) f fd ["table"] (LSp K Us):=by
 refine F.okM Ug (λhr=>(jd (zT (jk jh hr (j1 (jv 0)))) (by exact(jf (jZ (jM jH rfl Z.tuple (by decide +kernel) (j1 (jl0 1 Ug (jrg Z (Jo Z (jv 0))) (λ_ _ _ _=>(jM jH rfl Z.tuple (by decide +kernel) (j1 (jl0 2 Ug (jY (jv 0)) (λ_ _ _ _=>(ji1 (jv 2) (jv 1))))))))))))))) ?_;rintro ds h Q ⟨T,k,b,rfl,hT,h1,h6,q⟩;refine⟨rfl,?_⟩;refine jA [some (jq T),none,none] (λC hC=>⟨_,rfl,T,k,b,rfl,hT,h1,h6,hC⟩) ?_;refine QZ (G0 k) (λj=> .int (j:Int)) (λj=> .tup (T.map λr=> .int (r.getD j 0))) (by rw [G5];omega) rfl (λR r=>⟨_,rfl,(k:Int),by rw [G2,hT.len],by omega,by omega,r⟩) (λj hj Q' q'=> ?_) ⟨h,Sub.refl h,?_⟩
 ·refine QZ T Jr (λr=> .int (r.getD j 0)) (by rw [hT.len];omega) rfl (λR r=>⟨_,rfl,r⟩) (λr hr Q'' q''=>⟨_,rfl,_,rfl,_,yj (hT.row r hr) (G8.mp hj),q''⟩) q'
 ·have e1: ∀j,T.map (λr=>D.int (r.getD j 0))=(G0 k).map λi=>D.int (ent T i j):=λj=>by
   conv=>lhs;rw [zN T [],hT.len]
   rw [R3];rfl
  have e2:((G0 k).map λj=>D.tup (T.map λr=> .int (r.getD j 0)))=(G0 k).map λj=>D.tup ((G0 k).map λi=>D.int (ent T i j)):=S7 λj _=>by rw [e1]
  rw [e2,Gy];exact q
def Xy:RDn:=λds h Q=> ∃T,∃n e:Nat,∃o,ds= [jq T,jC o]/\Sq n e T/\Ordr n o/\1<=n/\n<=6/\Q (jq (Xk n o T)) h
theorem Ng (Z:Zs mg)(F:Fun K "renamed" "renamed" Uh f fd)(jh:jg P w K mg base n "want_table" ["thing"] jB)(Pu:jg P w K mg base n "want_order" ["table","thing"] WC):FnOk P w K mg base CX0 (n+1) f fd ["table","order"] (LSp K Xy):=by
 refine F.okM vC (λhr=>(jd (zT (jk jh hr (j1 (jv 0)))) (by exact(jd (zT (jk Pu hr (j2 (jv 0) (jv 1)))) (by exact(jd (jse 2 vC (jl0 3 vC (jrg Z (Jo Z (jv 0))) (λ_ _ _ _=>(xZ (jv 1) (jv 3))))) (by exact(jf (jZ (jM jH rfl Z.tuple (by decide +kernel) (j1 (jl0 4 vC (jY (jv 2)) (λ_ _ _ _=>(jM jH rfl Z.tuple (by decide +kernel) (j1 (jl0 5 vC (jY (jv 2)) (λ_ _ _ _=>(ji1 (ji1 (jv 0) (jv 4)) (jv 5))))))))))))))))))) ?_;rintro ds h Q ⟨T,k,b,o,rfl,hT,ho,h1,h6,q⟩;refine⟨rfl,?_⟩;refine jA [some (jq T),some (jC o),none,none,none,none] (λC hC=>⟨_,rfl,T,k,b,rfl,hT,h1,h6,hC⟩) ?_;refine jA [some (jq T),some (jC o),none,none,none,none] (λC hC=>⟨_,rfl,_,rfl,T,o,k,rfl,hT.len,ho,h6,hC⟩) ?_;have lt: ∀i,i∈G0 k->o.idxOf i<k:=λi hi=>ho.ord.lt (G8.mp hi)
 refine ji (λoV h'=> ∃p,oV= [some (jq T),some (jC o),some (.lst p),none,none,none]/\h p=none/\h'=wb h p ((G0 k).map λi=> .int ((o.idxOf i:Nat):Int))) (λC hC=> ?_) ?_
 ·refine lcA (G0 k) (λj=> .int (j:Int)) (λi=> .int ((o.idxOf i:Nat):Int)) (by rw [G5];omega) rfl (λR r=>⟨_,rfl,(k:Int),by rw [G2,hT.len],by omega,by omega,r⟩) (λi hi Q' q'=> ?_) (λp hp=>hC _ _ ⟨p,rfl,hp,rfl⟩);refine⟨_,rfl,zU o,VG o,_,rfl,(i:Int),rfl,Rs (ho.mem_iff.mpr hi),?_⟩;rw [Ls];exact q'
 rintro _ _ ⟨p,rfl,hp,rfl⟩;refine QZ (j:=λh=>h p) (G0 k) (λi=> .int ((o.idxOf i:Nat):Int)) (λi=> .tup ((G0 k).map λj=> .int (ent T (o.idxOf i) (o.idxOf j)))) (by rw [G5];omega) jc (λR r=>⟨_,rfl,r⟩) (λi hi Q' q'=> ?_) ⟨h,Sub.newAt (Sub.refl h) hp,?_⟩
 ·refine QZ (j:=λh=>h p) (G0 k) (λi=> .int ((o.idxOf i:Nat):Int)) (λj=> .int (ent T (o.idxOf i) (o.idxOf j))) (by rw [G5];omega) jc (λR r=>⟨_,rfl,r⟩) (λj hj Q'' q''=> ?_) q';exact⟨_,rfl,_,rfl,_,yi hT (lt i hi),_,rfl,_,yj (hT.row _ (Sq.getRow hT (lt i hi))) (lt j hj),q''⟩
 ·rw [Gy];exact q
def Zy:RDn:=λds h Q=> ∃M T,∃n e:Nat,ds= [jq M,jq T]/\Sq n 1 M/\Sq n e T/\1<=n/\n<=6/\e<=1000/\Q (jq (mk1 n T M)) h
theorem UV (Z:Zs mg)(F:Fun K "marks_after" "marks_after" vQ f fd)(Yq:jg P w K mg base n "marks" ["table"] Vm)(Pr:jg P w K mg base n "multiplied" ["one","other"] WD):FnOk P w K mg base CX0 (n+1) f fd ["ahead","table"] (LSp K Zy):=by
 refine F.okM UT (λhr=>(jf (jZ (jk Yq hr (j1 (jk Pr hr (j2 (jv 0) (jv 1)))))))) ?_;rintro ds h Q ⟨M,T,n,b,rfl,hM,hT,h1,h6,hb,q⟩;refine⟨rfl,?_⟩;exact⟨_,rfl,_,rfl,M,T,n,1,b,rfl,hM,hT,by omega,h6,Zo n M T,n,_,rfl,hM.mul hT (by omega),h1,h6,h,Sub.refl h,q⟩
def wm:RDn:=λds h Q=> ∃T,∃n e:Nat,ds= [jq T]/\Sq n e T/\1<=n/\n<=6/\e<=1000/\ ∀A L J h',h A=none->h' A=some ((G0 L).map λi=>jq (zX n T i))->Sub h h'->Course n T L J->L<=2225->Q (.tup [.lst A,.int ((J:Nat):Int)]) h'
theorem Wa (Z:Zs mg)(F:Fun K "marks_and_return" "marks_and_return" wB f fd)(Yq:jg P w K mg base n "marks" ["table"] Vm)(WK:jg P w K mg base n "marks_after" ["ahead","table"] Zy):FnOk P w K mg base CX0 (n+1) f fd ["table"] (LSp K wm):=by
 refine F.okM zl (λhr=>(jd (jse 1 zl (PR (j1 (jk Yq hr (j1 (jv 0)))))) (by exact(jd (jse 2 zl (jk WK hr (j2 (ji1 (jv 1) (Lp jF)) (jv 0)))) (by exact(jd (GA N5 (Bs (Qb hr.units) (jv 2) (jv 1) (by with_unfolding_all rfl)) (jd (zT (EH (jv 1) (jv 2))) (by exact(jf (jse 2 zl (jk WK hr (j2 (jv 2) (jv 0)))))))) (by exact(jf (jZ (FG (j2 (jv 1) (qi hr.units (jv 1) (jv 2))))))))))))) ?_;rintro ds h Q ⟨T,n,bb,rfl,hT,h1,h6,hb,q⟩;refine⟨rfl,?_⟩;refine ji (λoV h'=> ∃A,oV= [some (jq T),some (.lst A),none]/\h A=none/\h' A=some ((G0 1).map λi=>jq (zX n T i))/\Sub h h') (λC hC=>⟨_,rfl,T,n,bb,rfl,hT,h1,h6,sz1,λA eA=>hC _ _ ⟨A,rfl,eA,jc,Sub.newAt (Sub.refl h) eA⟩⟩) ?_;rintro _ h1' ⟨A,rfl,fA,kA,sbA⟩;refine jA [some (jq T),some (.lst A),some (jq (zX n T 1))] (λC hC=>⟨_,rfl,_,_,kA,Wo (by decide),_,rfl,zX n T 0,T,n,bb,rfl,yL n T 0,hT,h1,h6,hb,hC⟩) ?_;refine ji (λoV h'=> ∃L,oV= [some (jq T),some (.lst A),some (jq (zX n T L))]/\h' A=some ((G0 L).map λi=>jq (zX n T i))/\Sub h h'/\L<=2225/\((G0 L).map (zX n T)).Nodup/\zX n T L∈(G0 L).map (zX n T)) (λC hC=> ?_) ?_
 ·refine Wl (λm oV h'=> ∃L,oV= [some (jq T),some (.lst A),some (jq (zX n T L))]/\h' A=some ((G0 L).map λi=>jq (zX n T i))/\Sub h h'/\m=2226-L/\((G0 L).map (zX n T)).Nodup) _ ⟨_,rfl,kA,sbA,rfl,by simp⟩ ?_;rintro m _ h2 ⟨L,rfl,kA2,sb2,hm,nd⟩;have hL:=BW hT h1 h6 nd;have kA3:h2 A=some (((G0 L).map (zX n T)).map jq):=by rw [kA2,R3];rfl
  refine⟨_,rfl,_,rfl,Kp qk kA3 λbo hbo=>⟨_,rfl,Ny (λc=> ?_) (λc=> ?_)⟩⟩
  rotate_left
  ·refine hC _ _ ⟨L,rfl,kA2,sb2,hL,nd,hbo.mp ?_⟩;cases bo with
   |true=>rfl
   |false=>exact absurd rfl c
  have hni:zX n T L ∉ (G0 L).map (zX n T):=λz=>by rw [hbo.mpr z] at c;exact absurd c (by decide)
  refine ji (λoV h'=>oV= [some (jq T),some (.lst A),some (jq (zX n T L))]/\h' A=some ((G0 (L+1)).map λi=>jq (zX n T i))/\Sub h h') (λC2 hC2=> ?_) ?_
  ·refine⟨_,rfl,A,rfl,_,rfl,_,kA2,?_,hC2 _ _ ⟨rfl,?_,?_⟩⟩
   ·rw [G2,G5];exact aI hL (by decide)
   ·rw [jc,B3,S5];rfl
   ·exact(sb2).over fA
  rintro _ h3 ⟨rfl,kA4,sb4⟩;refine⟨_,rfl,_,rfl,zX n T L,T,n,bb,rfl,yL n T L,hT,h1,h6,hb,2226-(L+1),_,by omega,Sub.refl _,L+1,rfl,kA4,sb4,rfl,?_⟩;rw [B3,S5,V1];exact⟨nd,by simp,λx hx y hy=>by rw [G9.mp (show y∈ [zX n T L] from hy)];intro e;exact hni (e ▸ hx)⟩
 rintro _ h3 ⟨L,rfl,kA3,sb3,hL,nd,hin⟩;have kA4:h3 A=some (((G0 L).map (zX n T)).map jq):=by rw [kA3,R3];rfl
 obtain⟨J,pd,ps,zz,hat,t1,t2,c1,c2,c3,c4,c5,c6,c7⟩:=Kq qk kA4 hin (by simp;omega);have hJL:J<L:=by have:=(P3.mp hat).1;simpa using this
 have hJe:zX n T L=zX n T J:=by
  rw [P1,T5 hJL] at hat;injection hat with hat
  exact hat.symm
 exact⟨_,rfl,_,rfl,A,rfl,_,rfl,pd,ps,J,zz,t1,t2,c1,c2,c3,c4,c5,c6,c7,sz2,h3,Sub.refl _,q A L J h3 fA kA3 sb3 ⟨nd,hJL,hJe⟩ hL⟩
def Ut:RDn:=λds h Q=> ∃T,∃n L J k:Nat,∃A,ds= [.lst A,.int (J:Int),.int (k:Int)]/\h A=some ((G0 L).map λi=>jq (zX n T i))/\Course n T L J/\1<=k/\Q (jq (zX n T (k-1))) h
theorem Dy (Z:Zs mg)(F:Fun K "marks_at" "marks_at" Ye f fd):FnOk P w K mg base CX0 (n+1) f fd ["told","back","k"] (LSp K Ut):=by
 refine F.okM Ui (λhr=>(jd (jse 3 Ui (jop yr (jv 2) jF)) (by exact(jd (Zn (jt1 Ld (jv 3) (Jo Z (jv 0))) (jf (jZ (ji1 (jv 0) (jv 3)))) jN) (by exact(jf (jZ (ji1 (jv 0) (jop wt (jv 1) (jop Zw (jop yr (jv 3) (jv 1)) (jop yr (Jo Z (jv 0)) (jv 1)))))))))))) ?_;rintro ds h Q ⟨T,n,L,J,k,A,rfl,kA,c,hk,q⟩;refine⟨rfl,?_⟩;have hJ:=c.lt;have hl:((((G0 L).map λi=>jq (zX n T i)).length:Nat):Int)=(L:Int):=by rw [G2,G5]
 have ek:(k:Int)-1=((k-1:Nat):Int):=by omega
 refine ji (λoV h'=>oV= [some (.lst A),some (.int (J:Int)),some (.int (k:Int)),some (.int ((k-1:Nat):Int))]/\h=h') (λC hC=>⟨_,rfl,hC _ _ ⟨by rw [<-ek];rfl,rfl⟩⟩) ?_;rintro _ _ ⟨rfl,rfl⟩;refine ji (λoV h'=>oV= [some (.lst A),some (.int (J:Int)),some (.int (k:Int)),some (.int ((k-1:Nat):Int))]/\h=h'/\L<=k-1) (λC hC=>⟨_,rfl,_,rfl,_,kA,_,rfl,Ny (λz=> ?_) (λz=>hC _ _ ⟨rfl,rfl,?_⟩)⟩) ?_
 ·have z':((k-1:Nat):Int)<((((G0 L).map λi=>jq (zX n T i)).length:Nat):Int):=of_decide_eq_true z;rw [hl] at z';exact⟨_,rfl,_,rfl,_,_,kA,VQ (by omega),h,Sub.refl h,q⟩
 ·have z': ¬ ((k-1:Nat):Int)<((((G0 L).map λi=>jq (zX n T i)).length:Nat):Int):=λw=>z (decide_eq_true w)
  rw [hl] at z';omega
 rintro _ _ ⟨rfl,rfl,hLk⟩;have hpos:(0:Int)<((((G0 L).map λi=>jq (zX n T i)).length:Nat):Int)-(J:Int):=by rw [hl];omega
 have hix:(J:Int)+(((k-1:Nat):Int)-(J:Int))%(((((G0 L).map λi=>jq (zX n T i)).length:Nat):Int)-(J:Int))=((J+(k-1-J)%(L-J):Nat):Int):=by
  rw [hl,aF,Z4,bU (by omega:J<=k-1),bU (by omega:J<=L)]
 have hlt:J+(k-1-J)%(L-J)<L:=by
  have:=F9 (k-1-J) (show 0<L-J by omega);omega
 refine⟨_,rfl,_,rfl,_,rfl,_,rfl,_,rfl,_,kA,_,rfl,hpos,_,jq (zX n T (J+(k-1-J)%(L-J))),kA,?_,h,Sub.refl h,?_⟩
 ·rw [hix];exact VQ hlt
 ·rw [BX c (by omega)];exact q
def yY:RDn:=λds h Q=> ∃T,∃n e:Nat,ds= [jq T]/\Sq n e T/\1<=n/\n<=6/\e<=1000/\ ∀A L J h',h A=none->h' A=some ((G0 L).map λi=>jq (zX n T i))->Sub h h'->Course n T L J->L<=2225->Q (.lst A) h'
theorem Pa (Z:Zs mg)(F:Fun K "all_marks" "all_marks" ZO f fd)(wF:jg P w K mg base n "marks_and_return" ["table"] wm):FnOk P w K mg base CX0 (n+1) f fd ["table"] (LSp K yY):=by
 refine F.okM GV (λhr=>(jf (jZ (ji1 (jk wF hr (j1 (jv 0))) jF)))) ?_;rintro ds h Q ⟨T,n,bb,rfl,hT,h1,h6,hb,q⟩;refine⟨rfl,?_⟩;exact⟨_,rfl,T,n,bb,rfl,hT,h1,h6,hb,λA L J h' fA kA sb c hL=>⟨_,rfl,h',Sub.refl _,q A L J h' fA kA sb c hL⟩⟩
def Uu:RDn:=λds h Q=> ∃T,∃n e k:Nat,ds= [jq T,.int (k:Int)]/\Sq n e T/\1<=n/\n<=6/\e<=1000/\1<=k/\k<=1000000000000000000000000000000/\Q (jq (zX n T (k-1))) h
theorem Dz (Z:Zs mg)(F:Fun K "marks_of" "marks_of" Yf f fd)(jh:jg P w K mg base n "want_table" ["thing"] jB)(jR:jg P w K mg base n "want_number" ["thing","least","most"] zC)(wF:jg P w K mg base n "marks_and_return" ["table"] wm)(Nn:jg P w K mg base n "marks_at" ["told","back","k"] Ut)(Zb: ∃tk,mg "MOST_POWER" =some (.int 1000000000000000000000000000000 tk)):FnOk P w K mg base CX0 (n+1) f fd ["table","k"] (LSp K Uu):=by
 obtain⟨tk_MOST_POWER,m_MOST_POWER⟩:=Zb;refine F.okM UH (λhr=>(jd (zT (jk jh hr (j1 (jv 0)))) (by exact(jd (zT (jk jR hr (j3 (jv 1) jF (Mw rfl m_MOST_POWER)))) (by exact(jd (Bw (jk wF hr (j1 (jv 0))) (Xj (i:=2) (j:=3) rfl UH.nd rfl rfl (M5 rfl) (M5 rfl))) (by exact(jf (jZ (jk Nn hr (j3 (jv 2) (jv 3) (jv 1)))))))))))) ?_;rintro ds h Q ⟨T,n,bb,k,rfl,hT,h1,h6,hb,hk,hk2,q⟩;refine⟨rfl,?_⟩;refine jA [some (jq T),some (.int (k:Int)),none,none] (λC hC=>⟨_,rfl,T,n,bb,rfl,hT,h1,h6,hC⟩) ?_;refine jA [some (jq T),some (.int (k:Int)),none,none] (λC hC=>⟨_,rfl,(k:Int),1,1000000000000000000000000000000,rfl,by omega,by omega,hC⟩) ?_;refine ji (λoV h'=> ∃A L J,oV= [some (jq T),some (.int (k:Int)),some (.lst A),some (.int ((J:Nat):Int))]/\h' A=some ((G0 L).map λi=>jq (zX n T i))/\Sub h h'/\Course n T L J) (λC hC=>⟨_,rfl,T,n,bb,rfl,hT,h1,h6,hb,λA L J h' fA kA sb c hL=>⟨_,_,rfl,hC _ _ ⟨A,L,J,rfl,kA,sb,c⟩⟩⟩) ?_;rintro _ h2 ⟨A,L,J,rfl,kA,sb,c⟩;exact⟨_,rfl,_,rfl,_,rfl,T,n,L,J,k,A,rfl,kA,c,hk,h,sb,q⟩
theorem SN {r:List Int}(h:r.length=n):UK (r.map D.int)=(G0 n).map λ(j:Nat)=>D.tup [.int (j:Int),.int (r.getD j 0)]:=by
 apply U9;intro i
 by_cases hi:i<n
 ·have hi':i<(UK (r.map D.int)).length:=by rw [wS,G2,h];exact hi
  obtain⟨x,hx,ed⟩:=Vi (G1 hi');rw [G1 hi',ed];rw [P1,T5 hi];rw [P1,G1 (by omega)] at hx;injection hx with hx
  rw [<-hx];show some (D.tup [D.int (i:Int),D.int r[i]])=some (D.tup [D.int (i:Int),D.int (r.getD i 0)]);rw [P5,G1 (show i<r.length by omega)];rfl
 ·rw [N3 (by rw [wS,G2];omega),N3 (by simp;omega)]
def Vn:RDn:=λds h Q=> ∃T,∃n e p:Nat,ds= [jq T,.int (p:Int)]/\Sq n e T/\n<=6/\p<n/\ ∀F,h F=none->Q (.lst F) (wb h F ((yU T n p).map λ(k:Nat)=>D.int (k:Int)))
theorem OE (Z:Zs mg)(F:Fun K "heads" "heads" Dt f fd):FnOk P w K mg base CX0 (n+1) f fd ["table","place"] (LSp K Vn):=by
 refine F.okM Mf (λhr=>(jf (jZ (Am (i:=2) (j:=3) (js:= [2,3]) rfl (jG (by rfl)) (Qa rfl Z.enumerate (j1 (ji1 (jv 0) (jv 1)))) (by decide) (by decide) (by decide) Mf.nd rfl rfl (by first|exact M5 rfl|exact F6 rfl) (by first|exact M5 rfl|exact F6 rfl) (λX' hX=>by obtain⟨C,s₀,H₀,ex,rfl⟩:=hX;exact VB (jt1 oq_ne (jv 3) jF)) (λX' hX=>by obtain⟨C,s₀,H₀,ex,rfl⟩:=hX;exact(jv 2)))))) ?_;rintro ds h Q ⟨T,n,bb,p,rfl,hT,n6,hp,q⟩;refine⟨rfl,?_⟩;refine uV (j:=λ_=>some (UK ((T.getD p []).map D.int))) (G0 n) (λj=> .int (j:Int)) (λj=> .int ((T.getD p []).getD j 0)) (λj=> .int (j:Int)) (λj=>decide (ent T p j>0)) (by rw [G5];omega) (congrArg some (SN (hT.row _ (Sq.getRow hT hp)))) (λR r=>⟨_,rfl,_,rfl,_,yi hT hp,_,rfl,r⟩) (λx hx Q' q'=>⟨_,rfl,_,rfl,?_⟩) (λx hx _ Q' q'=>⟨_,rfl,q'⟩) (λF eF=>⟨_,Sub.refl _,q F eF⟩);have hnn:=(hT.ent_nn hp (G8.mp hx)).1;have e4:(!decide (((T.getD p []).getD x 0)=0))=decide (ent T p x>0):=by
  show (!decide (ent T p x=0))=_
  by_cases z:ent T p x=0
  ·rw [z];rfl
  ·rw [decide_eq_false z,decide_eq_true (by omega)];rfl
 rw [<-e4] at q';exact q'
def Jf:RDn:=λds h Q=> ∃T d,∃n e:Nat,ds= [jq T,d]/\Sq n e T/\1<=n/\n<=6/\okD d=true/\Q (.bl (UQ T n d)) h
theorem YU (Z:Zs mg)(F:Fun K "has_walk_form" "has_walk_form" yN f fd)(yf:jg P w K mg base n "are_places" ["thing","size"] yB):FnOk P w K mg base CX0 (n+1) f fd ["table","thing"] (LSp K Jf):=by
 refine F.okM Jk (λhr=>(jd (Zn (jpt (Rn (yy (wx (jk yf hr (j2 (jv 1) (Jo Z (jv 0)))))) (Mx (jt1 (Jc hr.units) (jv 1) (FG Gs))))) (jf (jZ jbl)) jN) (by exact(jf (jZ (ze (Ju rfl) rfl Z.all B0 (j1 (Am (i:=2) (j:=3) (js:= [2,3]) rfl (jG (by rfl)) (Rx rfl Z.zip (j2 (jv 1) (Gu (jv 1) (WQ jF) XU))) (by decide) (by decide) (by decide) Jk.nd rfl rfl (by first|exact M5 rfl|exact F6 rfl) (by first|exact M5 rfl|exact F6 rfl) (λX' hX=>zH) (λX' hX=>by obtain⟨C,s₀,H₀,ex,rfl⟩:=hX;exact(jc1 oq_ne (ji1 (ji1 (jv 0) (jv 2)) (jv 3)) jF)))))))))) ?_;rintro ds h Q ⟨T,d,n,bb,rfl,hT,n1,n6,ok,q⟩;refine⟨rfl,?_⟩;have hlen:(((T.map Jr).length:Nat):Int)=(n:Int):=by rw [G2,hT.len]
 refine ji (λoV h'=> ∃W,d=jC W/\(∀i∈W,i<n)/\W.length<=1000/\UQ T n d=Qe T W/\W.isEmpty=false/\oV= [some (jq T),some (jC W),none,none]/\h=h') (λC hC=> ?_) ?_
 ·refine⟨_,rfl,_,rfl,d,_,rfl,ok,_,rfl,?_⟩;rw [hlen];cases hp:vn d n with
  |false=>
   have:UQ T n d=false:=by unfold UQ;rw [hp];rfl
   rw [this] at q;exact vq (vq ⟨h,Sub.refl h,q⟩)
  |true=>
   obtain⟨e1,hW⟩:=ML hp;have e2:UQ T n d=Qe T (Jd d):=by unfold UQ;rw [hp];rfl
   generalize Jd d=W at e1 hW e2;have hl:W.length<=1000:=by
    have:=(Qu (e1 ▸ ok)).1
    rwa [G2] at this
   refine wO ⟨_,rfl,sz0,?_⟩;rw [e1];refine⟨PD W,.tuple [],VN h W,⟨_,rfl,rfl⟩,ME _,rfl,_,rfl,?_⟩;cases W with
   |nil=>
    have:UQ T n d=false:=by rw [e2];rfl
    rw [this] at q;exact vq ⟨h,Sub.refl h,q⟩
   |cons w W=>exact wO (hC _ _ ⟨w::W,e1,hW,hl,e2,rfl,rfl,rfl⟩)
 rintro _ _ ⟨W,e1,hW,hl,e2,hne,rfl,rfl⟩;rw [e2] at q;have e3:Qe T W=(W.zip (W.drop 1)).all λp=>decide (ent T p.1 p.2>0):=by unfold Qe;rw [hne];rfl
 rw [e3] at q;refine LP (j:=λ_=>some (PY (W.map λ(k:Nat)=>D.int (k:Int)) (UI (W.map λ(k:Nat)=>D.int (k:Int)) (some 1) none))) (W.zip (W.drop 1)) (λp=> .int (p.1:Int)) (λp=> .int (p.2:Int)) (λp=>decide (ent T p.1 p.2>0)) (by rw [X3];omega) (congrArg some (BV W)) (λR r=>⟨_,rfl,_,rfl,_,rfl,_,_,rfl,r⟩) (λp hp Q' q'=> ?_) ⟨h,Sub.refl h,q⟩;have hi:=hW _ (aD hp).1;have hj:=hW _ (N7 (aD hp).2);refine⟨_,rfl,_,rfl,_,yi hT hi,_,rfl,_,yj (hT.row _ (Sq.getRow hT hi)) hj,?_⟩;have hnn:=(hT.ent_nn hi hj).1;have e4:(!decide (((T.getD p.1 []).getD p.2 0)=0))=decide (ent T p.1 p.2>0):=by
  show (!decide (ent T p.1 p.2=0))=_
  by_cases z:ent T p.1 p.2=0
  ·rw [z];rfl
  ·rw [decide_eq_false z,decide_eq_true (by omega)];rfl
 rw [<-e4] at q';exact q'
def wP:RDn:=λds h Q=> ∃T,∃n e one o k:Nat,ds= [jq T,.int (one:Int),.int (o:Int),.int (k:Int)]/\Sq n e T/\1<=n/\n<=6/\one<n/\o<n/\k<=40/\Q .non h
theorem Jq (Z:Zs mg)(F:Fun K "want_ends_and_steps" "want_ends_and_steps" zK f fd)(jh:jg P w K mg base n "want_table" ["thing"] jB)(YM:jg P w K mg base n "want_place" ["table","thing"] WB)(jR:jg P w K mg base n "want_number" ["thing","least","most"] zC)(wH: ∃tk,mg "MOST_STEPS_walks" =some (.int 40 tk)):FnOk P w K mg base CX0 (n+1) f fd ["table","one","other","k"] (LSp K wP):=by
 obtain⟨tk_MOST_STEPS_walks,m_MOST_STEPS_walks⟩:=wH;refine F.okM Jp (λhr=>(jd (zT (jk jh hr (j1 (jv 0)))) (by exact(jd (zT (jk YM hr (j2 (jv 0) (jv 1)))) (by exact(jd (zT (jk YM hr (j2 (jv 0) (jv 2)))) (by exact(jf (zT (jk jR hr (j3 (jv 3) jF (Mw rfl m_MOST_STEPS_walks)))))))))))) ?_;rintro ds h Q ⟨T,n,bb,one,o,k,rfl,hT,n1,n6,h1,ho,hk,q⟩;refine⟨rfl,?_⟩;refine jA [some (jq T),some (.int (one:Int)),some (.int (o:Int)),some (.int (k:Int))] (λC hC=>⟨_,rfl,T,n,bb,rfl,hT,n1,n6,hC⟩) ?_;refine jA [some (jq T),some (.int (one:Int)),some (.int (o:Int)),some (.int (k:Int))] (λC hC=>⟨_,rfl,_,rfl,T,n,bb,one,rfl,hT,h1,hC⟩) ?_;refine jA [some (jq T),some (.int (one:Int)),some (.int (o:Int)),some (.int (k:Int))] (λC hC=>⟨_,rfl,_,rfl,T,n,bb,o,rfl,hT,ho,hC⟩) ?_;exact⟨_,rfl,(k:Int),0,40,rfl,by omega,by omega,h,Sub.refl h,q⟩
def YC:RDn:=λds h Q=> ∃T,∃n e o k:Nat,ds= [jq T,.int (o:Int),.int (k:Int)]/\Sq n e T/\1<=n/\n<=6/\o<n/\k<=40/\ ∀A h',Sub h h'->Cnts h' A T n o k->Q (.lst A) h'
theorem Pb (Z:Zs mg)(F:Fun K "counts_to" "counts_to" ZP f fd)(UB:jg P w K mg base n "heads" ["table","place"] Vn):FnOk P w K mg base CX0 (n+1) f fd ["table","other","k"] (LSp K YC):=by
 refine F.okM zL (λhr=>(jd (jse 3 zL (Jo Z (jv 0))) (by exact(jd (jse 4 zL (PR (j1 (jl0 6 zL (jrg Z (jv 3)) (λ_ _ _ _=>(jif (jt1 (Jc hr.units) (jv 6) (jv 1)) jF jF)))))) (by exact(jd (Nz N5 rfl (jrg Z (jv 2)) (jgn 5 zL) (jf (zT (EH (jv 4) (jl0 6 zL (jrg Z (jv 3)) (λ_ _ _ _=>(ze (Bq rfl) rfl Z.sum (by decide +kernel) (j1 (jl0 7 zL (jY (jk UB hr (j2 (jv 0) (jv 6)))) (λ_ _ _ _=>(ji1 (ji1 (jv 4) (jv 5)) (jv 7)))))))))))) (by exact(jf (jZ (jv 4)))))))))) ?_;rintro ds h Q ⟨T,n,bb,o,k,rfl,hT,n1,n6,ho,hk,q⟩;refine⟨rfl,?_⟩;refine ji (λoV h'=>oV= [some (jq T),some (.int (o:Int)),some (.int (k:Int)),some (.int (n:Int)),none,none,none,none]/\h=h') (λC hC=>⟨_,rfl,hC _ _ ⟨by rw [G2,hT.len];rfl,rfl⟩⟩) ?_;rintro _ _ ⟨rfl,rfl⟩;refine ji (λoV h'=> ∃A,∃ (rs:List Addr),oV= [some (jq T),some (.int (o:Int)),some (.int (k:Int)),some (.int (n:Int)),some (.lst A),none,none,none]/\h A=none/\h' A=some (rs.map D.lst)/\rs.length=0+1/\(∀t a,rs[t]? =some a->h' a=some ((MM T n o t).map D.int))/\A ∉ rs/\Sub h h') (λC hC=> ?_) ?_
 ·simp only [FD,Te,zh,Zv];refine lcA (G0 n) (λj=> .int (j:Int)) (λj=> .int (cnt T n o 0 j)) (by rw [G5];omega) rfl (λR r=>⟨_,rfl,(n:Int),rfl,by omega,by omega,r⟩) (λj hj Q' q'=>⟨_,rfl,_,rfl,_,rfl,?_⟩) (λa ea=>⟨sz1,λA eA=>hC _ _ ⟨A,[a],rfl,?_,jc,rfl,?_,?_,Sub.newAt (Sub.newAt (Sub.refl h) ea) eA⟩⟩)
  ·by_cases z:j=o
   ·subst z;have:cnt T n j 0 j=1:=if_pos rfl;rw [this] at q';rw [decide_eq_true rfl];exact vq q'
   ·have:cnt T n o 0 j=0:=if_neg z;rw [this] at q';have e0:decide ((j:Int)=(o:Int))=false:=decide_eq_false (by omega);rw [e0];exact wO q'
  ·cases z:h A with
   |none=>rfl
   |some ds=>rw [ju z ea] at eA;cases eA
  ·intro t b e;cases t with
   |zero=>
    cases (show some a=some b from e);refine ju (L:=(MM T n o 0).map D.int) ?_ eA;rw [jc];unfold MM;rw [R3];rfl
   |succ t=>cases e
  ·intro z;rw [G9.mp z,jc] at eA;cases eA
 rintro _ h1 ⟨A,rs,rfl,fA,kA,lr,rows,nA,sb⟩;refine ji (λoV h'=> ∃a b c,∃ (rs:List Addr),oV= [some (jq T),some (.int (o:Int)),some (.int (k:Int)),some (.int (n:Int)),some (.lst A),a,b,c]/\h' A=some (rs.map D.lst)/\rs.length=k+1/\(∀t a,rs[t]? =some a->h' a=some ((MM T n o t).map D.int))/\A ∉ rs/\Sub h h') (λC hC=> ?_) (λoV h2 ⟨a,b,c,rs,e,kA,lr,rows,nA,sb⟩=>by subst e;exact⟨_,rfl,h2,Sub.refl _,q A h2 sb ⟨rs,kA,lr,rows⟩⟩);refine ZI k (λi oV h'=> ∃a b c,∃ (rs:List Addr),oV= [some (jq T),some (.int (o:Int)),some (.int (k:Int)),some (.int (n:Int)),some (.lst A),a,b,c]/\h' A=some (rs.map D.lst)/\rs.length=i+1/\(∀t a,rs[t]? =some a->h' a=some ((MM T n o t).map D.int))/\A ∉ rs/\Sub h h') (by omega) (λR r=>⟨_,rfl,r⟩) ⟨none,none,none,rs,rfl,kA,lr,rows,nA,sb⟩ (λoV h' z=>hC _ _ z) ?_;clear kA lr rows nA sb;rintro i _ h2 hi ⟨a,b,c,rs,rfl,kA,lr,rows,nA,sb⟩;have hil:i<rs.length:=by omega
 have hat:atI (rs.map D.lst) (i:Int)=some (.lst rs[i]):=zG (by rw [P1,G1 hil];rfl);have hrow:=rows i _ (G1 hil);refine⟨_,rfl,A,rfl,Rm (h1:=h2) n (λp ys h'=>ys=(G0 p).map (λp=>D.int (cnt T n o (i+1) p))/\h'=h2) (by omega) (λR r=>⟨_,rfl,r⟩) ⟨rfl,rfl⟩ (λp ys h' ⟨e,_⟩=>by rw [e,G2,G5]) ?_ ?_⟩
 ·rintro p ys h3 hp ⟨rfl,rfl⟩;refine Ca ⟨_,rfl,_,rfl,T,n,bb,p,rfl,hT,n6,hp,λF eF=> ?_⟩;refine qc (j:=λh=>h F) (yU T n p) (λj=> .int (j:Int)) (λj=>cnt T n o i j) (by have:=Sf (T:=T) (n:=n) p;omega) jc (λR r=>r) (λj hj Q' q'=>⟨_,rfl,_,rfl,_,_,ju kA eF,hat,_,rfl,_,_,ju hrow eF,Qf (RB hj),q'⟩) ⟨h3,Sub.newAt (Sub.refl _) eF,by omega,?_,rfl⟩;rw [B3,S5];rfl
 ·rintro ys h3 ⟨rfl,rfl⟩ r er;have nr:r≠A:=zB kA er;refine⟨_,ju kA er,?_,_,Sub.refl _,by omega,_,_,_,rs++ [r],rfl,?_,by rw [P2,lr];rfl,λt b e=> ?_,?_,?_⟩
  ·rw [G2];exact jw (by omega)
  ·rw [jc,S5];rfl
  ·by_cases z:t<rs.length
   ·rw [R4 z] at e;have hb:=rows t b e;have nb:b≠A:=λw=>nA (w ▸ P4 e)
    exact jz nb (ju hb er)
   ·rw [D3 (by omega)] at e;have zt:t-rs.length=0:=by
     have:=(P3.mp e).1;simp at this;omega
    rw [zt] at e;cases (show some r=some b from e);have:t=i+1:=by omega
    subst this;refine jz (M:=(MM T n o (i+1)).map D.int) nr ?_;rw [jc];unfold MM;rw [R3];rfl
  ·intro z;rcases D9.mp z with y|y
   ·exact nA y
   ·exact nr (G9.mp y).symm
  ·exact(Sub.newAt sb er).over fA
def WE:RDn:=λds h Q=> ∃T a,∃n e p o t:Nat,∃m:Int,ds= [jq T,.int (p:Int),.lst a,.int m]/\Sq n e T/\n<=6/\p<n/\h a=some ((MM T n o t).map D.int)/\0<=m/\m<cnt T n o (t+1) p/\Q (.tup [.int (((wz (cnt T n o t) (yU T n p) m).1:Nat):Int),.int (wz (cnt T n o t) (yU T n p) m).2]) h
theorem QD (Z:Zs mg)(F:Fun K "next_place" "next_place" JJ f fd)(UB:jg P w K mg base n "heads" ["table","place"] Vn):FnOk P w K mg base CX0 (n+1) f fd ["table","place","ahead","number"] (LSp K WE):=by
 refine F.okM wK (λhr=>(jd (jse 4 wK (jk UB hr (j2 (jv 0) (jv 1)))) (by exact(jd (jse 5 wK jF) (by exact(jd (GA N5 (jt1 Lf (jv 3) (ji1 (jv 2) (ji1 (jv 4) (jv 5)))) (jd (EV (i:=3) wK.nd rfl (M5 rfl) (ji1 (jv 2) (ji1 (jv 4) (jv 5)))) (by exact(jf (EU (i:=5) wK.nd rfl (M5 rfl) jF))))) (by exact(jf (jZ (FG (j2 (ji1 (jv 4) (jv 5)) (jv 3)))))))))))) ?_;rintro ds h Q ⟨T,a,n,bb,p,o,t,m,rfl,hT,n6,hp,ka,m0,hm,q⟩;refine⟨rfl,?_⟩;refine ji (λoV h'=> ∃F,oV= [some (jq T),some (.int (p:Int)),some (.lst a),some (.int m),some (.lst F),none]/\h' F=some ((yU T n p).map λ(k:Nat)=>D.int (k:Int))/\h' a=some ((MM T n o t).map D.int)/\Sub h h') (λC hC=>⟨_,rfl,_,rfl,T,n,bb,p,rfl,hT,n6,hp,λF eF=>hC _ _ ⟨F,rfl,jc,ju ka eF,Sub.newAt (Sub.refl h) eF⟩⟩) ?_;rintro _ h1 ⟨F,rfl,kF,ka1,sb⟩;refine jA [some (jq T),some (.int (p:Int)),some (.lst a),some (.int m),some (.lst F),some (.int 0)] (λC hC=>hC) ?_;have hat: ∀i j:Nat,(yU T n p)[i]? =some j->atI ((yU T n p).map λ(k:Nat)=>D.int (k:Int)) ((i:Nat):Int)=some (.int (j:Int)):=λi j hi=>zG (by rw [P1,hi];rfl)
 refine ji (λoV h'=> ∃ (i:Nat) (m':Int) (j:Nat),oV= [some (jq T),some (.int (p:Int)),some (.lst a),some (.int m'),some (.lst F),some (.int (i:Int))]/\h1=h'/\(yU T n p)[i]? =some j/\wz (cnt T n o t) (yU T n p) m=(j,m')) (λC hC=> ?_) ?_
 ·refine Wl (λw oV h'=> ∃ (i:Nat) (m':Int),oV= [some (jq T),some (.int (p:Int)),some (.lst a),some (.int m'),some (.lst F),some (.int (i:Int))]/\h1=h'/\w=(yU T n p).length-i/\0<=m'/\m'<(((yU T n p).drop i).map (cnt T n o t)).sum/\wz (cnt T n o t) (yU T n p) m=wz (cnt T n o t) ((yU T n p).drop i) m') _ ⟨0,m,rfl,rfl,rfl,m0,hm,rfl⟩ ?_;rintro w _ _ ⟨i,m',rfl,rfl,hw,m0',hm',pk⟩;have hil:i<(yU T n p).length:=j7 λz=>by rw [B1 z] at hm';simp at hm';omega
  have hj:=G1 hil;have ed:(yU T n p).drop i=(yU T n p)[i]::(yU T n p).drop (i+1):=cX hil;have jl:(yU T n p)[i]<n:=RB (S9 hil);generalize (yU T n p)[i]=j at hj ed jl;rw [ed] at hm' pk;rw [T3,aB] at hm';refine⟨_,rfl,_,rfl,_,rfl,_,rfl,_,_,kF,hat i j hj,_,_,ka1,Qf jl,?_⟩;refine⟨_,rfl,?_⟩;show if decide (cnt T n o t j<=m')=true then _ else _
  by_cases z:cnt T n o t j<=m'
  ·rw [decide_eq_true z];refine vq ?_;refine jA [some (jq T),some (.int (p:Int)),some (.lst a),some (.int (m'-cnt T n o t j)),some (.lst F),some (.int (i:Int))] (λC2 hC2=>⟨m',rfl,_,rfl,_,rfl,_,rfl,_,_,kF,hat i j hj,_,_,ka1,Qf jl,_,rfl,hC2⟩) ?_;refine⟨(i:Int),rfl,_,rfl,(yU T n p).length-(i+1),_,by omega,Sub.refl _,i+1,m'-cnt T n o t j,rfl,rfl,rfl,by omega,by omega,?_⟩;rw [pk];show wz (cnt T n o t) (j::(yU T n p).drop (i+1)) m'=_
   conv=>lhs;unfold wz
   rw [if_pos z]
  ·rw [decide_eq_false z];refine wO (hC _ _ ⟨i,m',j,rfl,rfl,hj,?_⟩);rw [pk]
   conv=>lhs;unfold wz
   rw [if_neg z]
 rintro _ _ ⟨i,m',j,rfl,rfl,hj,pk⟩;rw [pk] at q;exact⟨_,rfl,_,rfl,_,_,kF,hat _ _ hj,_,rfl,sz2,h,sb,q⟩
def vE:RDn:=λds h Q=> ∃T A,∃n e one o k:Nat,∃m:Int,ds= [jq T,.int (one:Int),.lst A,.int m]/\Sq n e T/\n<=6/\one<n/\k<=40/\Cnts h A T n o k/\0<=m/\m<cnt T n o k one/\Q (jC (wn T n o k one m)) h
theorem Yj (Z:Zs mg)(F:Fun K "walk_of_number" "walk_of_number" ym f fd)(Ps:jg P w K mg base n "next_place" ["table","place","ahead","number"] WE):FnOk P w K mg base CX0 (n+1) f fd ["table","one","counts","number"] (LSp K vE):=by
 refine F.okM zR (λhr=>(jd (jse 4 zR (PR (j1 (jv 1)))) (by exact(jd (Nz N5 rfl (Ku rfl Z.reversed (j1 (Gu (jv 2) XU (WQ (Lp jF))))) (jgn 5 zR) (jd (Bw (jk Ps hr (j4 (jv 0) (ji1 (jv 4) (Lp jF)) (jv 5) (jv 3))) (Xj (i:=6) (j:=3) rfl zR.nd rfl rfl (M5 rfl) (M5 rfl))) (by exact(jf (zT (EH (jv 4) (jv 6))))))) (by exact(jf (jZ (jM cq_tuple rfl Z.tuple (by decide +kernel) (j1 (jv 4)))))))))) ?_;rintro ds h Q ⟨T,A,n,bb,one,o,k,m,rfl,hT,n6,h1,hk,cA,m0,hm,q⟩;refine⟨rfl,?_⟩;refine ji (λoV h'=> ∃W,oV= [some (jq T),some (.int (one:Int)),some (.lst A),some (.int m),some (.lst W),none,none]/\h W=none/\h' W=some ((gwN T n o k one m 0).map λ(k:Nat)=>D.int (k:Int))/\Sub h h') (λC hC=>⟨_,rfl,sz1,λW eW=>hC _ _ ⟨W,rfl,eW,jc,Sub.newAt (Sub.refl h) eW⟩⟩) ?_;rintro _ h2 ⟨W,rfl,fW,kW,sb⟩;obtain⟨rs,kA,lr,rows⟩:=cA;have hcut:UI (rs.map D.lst) none (some (-1))=(rs.take k).map D.lst:=by
  unfold UI;have e1:HT.sIx (rs.map D.lst).length 0 none=0:=rfl;have e2:HT.sIx (rs.map D.lst).length (rs.map D.lst).length (some (-1))=k:=by
   show (if (-1:Int)<0 then ((-1:Int)+(((rs.map D.lst).length:Nat):Int)).toNat else min (-1:Int).toNat (rs.map D.lst).length)=k;rw [if_pos (by decide),G2,lr];omega
  rw [e1,e2,aY,iK,gL]
 refine ji (λoV h'=> ∃m' a b,oV= [some (jq T),some (.int (one:Int)),some (.lst A),some (.int m'),some (.lst W),a,b]/\h' W=some ((gwN T n o k one m k).map λ(k:Nat)=>D.int (k:Int))/\Sub h h') (λC hC=> ?_) ?_
 ·refine⟨_,rfl,_,rfl,_,sb _ _ kA,λp ep=>⟨p,_,rfl,jc,?_⟩⟩;have lt:((rs.take k).map D.lst).length=k:=by rw [G2,R7];omega
  rw [hcut,lt];refine Jv (((rs.take k).map D.lst).reverse) (λi oV h'=> ∃a b,oV= [some (jq T),some (.int (one:Int)),some (.lst A),some (.int (gpN T n o k one m i).2),some (.lst W),a,b]/\h' p=some ((rs.take k).map D.lst)/\h' W=some ((gwN T n o k one m i).map λ(k:Nat)=>D.int (k:Int))/\Sub h h') (λi oV h' ⟨_,_,_,kp,_⟩=> ?_) ⟨none,none,rfl,jc,ju kW ep,Sub.newAt sb ep⟩ (λoV h' ⟨a,b,e,_,kW,sb⟩=>hC _ _ ⟨_,a,b,e,by rw [S2,lt] at kW;exact kW,sb⟩) ?_
  ·show (h' p).bind _=_;rw [kp];show (if ((rs.take k).map D.lst).length=k then _ else _)=_;rw [if_pos lt]
  have nWp:W≠p:=λz=>by subst z;rw [kW] at ep;cases ep
  clear kW sb;rintro i d _ h3 hd ⟨a,b,rfl,kp,kW,sb⟩;have hi:i<k:=by have:=(P3.mp hd).1;rwa [S2,lt] at this
  rw [J1 (by rw [lt];exact hi),lt,P1,List.getElem?_take,if_pos (by omega)] at hd;have hil:k-1-i<rs.length:=by omega
  rw [G1 hil] at hd;cases hd;have hrow:=sb _ _ (rows _ _ (G1 hil));obtain⟨g1,g2,g3⟩:=Ch h1 m0 hm i (by omega);rw [show k-i=(k-1-i)+1 by omega] at g3;have hlast:atI ((gwN T n o k one m i).map λ(k:Nat)=>D.int (k:Int)) (-1)=some (.int (((gpN T n o k one m i).1:Nat):Int)):=by
   unfold gwN;rw [R3];exact Wo (f:=(λ(k:Nat)=>D.int (k:Int))∘λt=>(gpN T n o k one m t).1) (show 1<=i+1 by omega)
  refine ji (λoV h'=> ∃b,oV= [some (jq T),some (.int (one:Int)),some (.lst A),some (.int (gpN T n o k one m (i+1)).2),some (.lst W),b,some (.int (((gpN T n o k one m (i+1)).1:Nat):Int))]/\h3=h') (λC2 hC2=>⟨_,rfl,_,rfl,_,_,kW,hlast,_,rfl,_,rfl,T,rs[k-1-i],n,bb,(gpN T n o k one m i).1,o,k-1-i,(gpN T n o k one m i).2,rfl,hT,n6,g1,hrow,g2,g3,_,_,rfl,hC2 _ _ ⟨_,rfl,rfl⟩⟩) ?_;rintro _ _ ⟨b,rfl,rfl⟩;refine⟨_,rfl,W,rfl,_,rfl,_,kW,?_,_,Sub.refl _,by rw [S2,lt];omega,_,_,rfl,jz (A4 nWp) kp,?_,?_⟩
  ·rw [G2];unfold gwN;rw [G2,G5];exact jw (by omega)
  ·rw [jc];unfold gwN;rw [B3 (n:=i+1),S5,S5];rfl
  ·exact(sb).over fW
 rintro _ h3 ⟨m',a,b,rfl,kW,sb⟩;rw [Cg] at kW;exact⟨_,rfl,_,kW,h,sb,q⟩
def WF:RDn:=λds h Q=> ∃T,∃n e one o k:Nat,ds= [jq T,.int (one:Int),.int (o:Int),.int (k:Int)]/\Sq n e T/\1<=n/\n<=6/\one<n/\o<n/\k<=40/\Q (if 0<cnt T n o k one then jC (wn T n o k one 0) else .non) h
theorem QF (Z:Zs mg)(F:Fun K "first_walk" "first_walk" JK f fd)(Za:jg P w K mg base n "want_ends_and_steps" ["table","one","other","k"] wP)(DJ:jg P w K mg base n "counts_to" ["table","other","k"] YC)(Vb:jg P w K mg base n "walk_of_number" ["table","one","counts","number"] vE):FnOk P w K mg base CX0 (n+1) f fd ["table","one","other","k"] (LSp K WF):=by
 refine F.okM Wx (λhr=>(jd (zT (jk Za hr (j4 (jv 0) (jv 1) (jv 2) (jv 3)))) (by exact(jd (jse 4 Wx (jk DJ hr (j3 (jv 0) (jv 2) (jv 3)))) (by exact(jf (jZ (jif (jt1 Le (ji1 (ji1 (jv 4) (jv 3)) (jv 1)) jF) (jk Vb hr (j4 (jv 0) (jv 1) (jv 4) jF)) Lm)))))))) ?_;rintro ds h Q ⟨T,n,bb,one,o,k,rfl,hT,n1,n6,h1,ho,hk,q⟩;refine⟨rfl,?_⟩;refine jA [some (jq T),some (.int (one:Int)),some (.int (o:Int)),some (.int (k:Int)),none] (λC hC=>⟨_,rfl,_,rfl,_,rfl,_,rfl,T,n,bb,one,o,k,rfl,hT,n1,n6,h1,ho,hk,hC⟩) ?_;refine ji (λoV h'=> ∃A,oV= [some (jq T),some (.int (one:Int)),some (.int (o:Int)),some (.int (k:Int)),some (.lst A)]/\Sub h h'/\Cnts h' A T n o k) (λC hC=>⟨_,rfl,_,rfl,_,rfl,T,n,bb,o,k,rfl,hT,n1,n6,ho,hk,λA h2 sb cA=>hC _ _ ⟨A,rfl,sb,cA⟩⟩) ?_;rintro _ h2 ⟨A,rfl,sb,cA⟩;obtain⟨rs,a,kA,hat,ka⟩:=cA.at (P0 k);refine⟨_,rfl,_,rfl,_,_,kA,hat,_,rfl,_,_,ka,Qf h1,_,rfl,?_⟩;show if decide (cnt T n o k one>0)=true then _ else _
 by_cases z:0<cnt T n o k one
 ·rw [decide_eq_true z];rw [if_pos z] at q;exact vq ⟨_,rfl,_,rfl,_,rfl,T,A,n,bb,one,o,k,0,rfl,hT,n6,h1,hk,cA,by decide,z,h,sb,q⟩
 ·rw [decide_eq_false z];rw [if_neg z] at q;exact wO ⟨h,sb,q⟩
def Fst (n:Nat)(T:List (List Int)):Option Nat->Prop
 |none=> ∀k,1<=k->jP (zF n T k)=false
 |some k=>1<=k/\k<=30/\jP (zF n T k)=true/\ ∀j,1<=j->j<k->jP (zF n T j)=false
def qz:Option Nat->D
 |none=> .non
 |some k=> .int (k:Int)
section
variable {n e:Nat}{T:List (List Int)}
theorem Ay (h:Sq n e T)(n1:1<=n)(h6:n<=6): ∃o,Fst n T o:=by
 by_cases z: ∃k,1<=k/\jP (zF n T k)=true
 ·obtain⟨K,hK,f⟩:=z;obtain⟨k,k1,k30,fk⟩:=jas h n1 h6 hK f;clear f hK
  induction k using bS with
  |_ k ih=>
   by_cases w: ∃j,1<=j/\j<k/\jP (zF n T j)=true
   ·obtain⟨j,j1,jk,fj⟩:=w;exact ih j jk j1 (by omega) fj
   ·exact⟨some k,k1,k30,fk,λj j1 jk=>by
     cases hf:jP (zF n T j) with
     |false=>rfl
     |true=>exact absurd ⟨j,j1,jk,hf⟩ w⟩
 ·exact⟨none,λk hk=>by
   cases hf:jP (zF n T k) with
   |false=>rfl
   |true=>exact absurd ⟨k,hk,hf⟩ z⟩
theorem SO {o:Option Nat}(ho:Fst n T o){i:Nat}(hi:jP (zF n T (i+1))=true)(lo: ∀m,m<i->jP (zF n T (m+1))=false):o=some (i+1):=by
 cases o with
 |none=>have:=ho (i+1) (by omega);rw [hi] at this;cases this
 |some k=>
  obtain⟨k1,k30,fk,fl⟩:=ho;have a: ¬ (i+1<k):=λz=>by have:=fl (i+1) (by omega) z;rw [hi] at this;cases this
  have b: ¬ (k<i+1):=λz=>by have:=lo (k-1) (by omega);rw [show k-1+1=k by omega,fk] at this;cases this
  rw [show k=i+1 by omega]
theorem OF {o:Option Nat}(ho:Fst n T o)(lo: ∀m,m<30->jP (zF n T (m+1))=false):o=none:=by
 cases o with
 |none=>rfl
 |some k=>
  obtain⟨k1,k30,fk,fl⟩:=ho;have:=lo (k-1) (by omega);rw [show k-1+1=k by omega,fk] at this;cases this
theorem Zm (h:Sq n e T)(hn:n<=8)(i:Nat):jP (zX n T i)=jP (zF n T (i+1)):=by rw [Wp h hn,Bz (h.pow hn _)]
end
def zE:RDn:=λds h Q=> ∃T,∃n e:Nat,∃o,ds= [jq T]/\Sq n e T/\1<=n/\n<=6/\e<=1000/\Fst n T o/\Q (qz o) h
theorem UW (Z:Zs mg)(F:Fun K "first_power" "first_power" vR f fd)(yS:jg P w K mg base n "all_marks" ["table"] yY)(kc:jg P w K mg base n "full" ["table"] Fd):FnOk P w K mg base CX0 (n+1) f fd ["table"] (LSp K zE):=by
 refine F.okM ZC (λhr=>(jd (Nz N5 rfl (LY rfl Z.enumerate (j1 (jk yS hr (j1 (jv 0))))) (Xj (i:=1) (j:=2) rfl ZC.nd rfl rfl (M5 rfl) (M5 rfl)) (jf (Zn (wx (jk kc hr (j1 (jv 2)))) (jf (jZ (jop wt (jv 1) jF))) jN))) (by exact(jf (jZ Lm))))) ?_;rintro ds h Q ⟨T,k,b,o,rfl,hT,h1,h6,hb,ho,q⟩;refine⟨rfl,?_⟩;have hn:k<=8:=by omega
 refine ji (λoV h'=>o=none/\Sub h h') (λC hC=> ?_) ?_
 ·refine⟨_,rfl,T,k,b,rfl,hT,h1,h6,hb,λA L J h' fA kA sb hc hL=>⟨A,rfl,?_⟩⟩;refine Jv (j:=λh=>(h A).map UK) (UK ((G0 L).map λi=>jq (zX k T i))) (λi oV h2=> ∃a b',oV= [some (jq T),a,b']/\h'=h2/\ ∀m,m<i->jP (zF k T (m+1))=false) (λi oV h2 ⟨_,_,_,e,_⟩=>by rw [<-e];show (h' A).map UK=_;rw [kA];rfl) ⟨none,none,rfl,rfl,λm hm=>absurd hm (bT _)⟩ ?_ ?_
  ·rintro oV h2 ⟨a,b',e,eh,lo⟩;rw [wS,G2,G5] at lo;refine hC _ _ ⟨OF ho λm _=> ?_,eh ▸ sb⟩
   by_cases z:m<L
   ·exact lo m z
   ·have lt:=hc.lt;rw [<-Zm hT hn m,<-BX hc (show J<=m by omega),Zm hT hn];exact lo _ (by have:=F9 (m-J) (show 0<L-J by omega);omega)
  rintro i d _ _ hd ⟨a,b',rfl,rfl,lo⟩;obtain⟨x,hx,rfl⟩:=Vi hd;have hil:i+1<=(UK ((G0 L).map λi=>jq (zX k T i))).length:=(P3.mp hd).1;have hiL:i<L:=by rw [wS,G2,G5] at hil;exact hil
  rw [P1,T5 hiL] at hx;injection hx with hx
  subst hx;refine⟨_,_,rfl,_,rfl,zX k T i,k,1,rfl,yL k T i,h1,h6,_,rfl,?_⟩;rw [Zm hT hn];cases hf:jP (zF k T (i+1)) with
  |true=>
   refine vq ⟨_,rfl,h,sb,?_⟩;rw [SO ho hf lo] at q;exact q
  |false=>
   refine wO ⟨_,Sub.refl _,hil,_,_,rfl,rfl,λm hm=> ?_⟩
   by_cases z:m=i
   ·subst z;exact hf
   ·exact lo m (by omega)
 rintro _ h2 ⟨e,sb⟩;subst e;exact⟨h,sb,q⟩
def wo:RDn:=λds h Q=> ∃T,∃n e k:Nat,ds= [jq T]/\Sq n e T/\1<=n/\n<=6/\e<=1000/\Fst n T (some k)/\Q .non h
theorem Wb (Z:Zs mg)(F:Fun K "want_first_power" "want_first_power" wC f fd)(jQ:jg P w K mg base n "first_power" ["table"] zE):FnOk P w K mg base CX0 (n+1) f fd ["table"] (LSp K wo):=by
 refine F.okM ZQ (λhr=>(jf (Zn (jt1 ED (jk jQ hr (j1 (jv 0))) Lm) (jf VC) jN))) ?_;rintro ds h Q ⟨T,n,b,k,rfl,hT,h1,h6,hb,ho,q⟩;refine⟨rfl,?_⟩;exact⟨_,rfl,T,n,b,some k,rfl,hT,h1,h6,hb,ho,_,rfl,wO ⟨h,Sub.refl h,q⟩⟩
structure WalkOk (T:List (List Int))(n:Nat)(W:List Nat)(i j m:Nat):Prop where
 wd:UQ T n (jC W)=true
 lt: ∀x∈W,x<n
 len:W.length=m+1
 fst:W[0]? =some i
 lst:W[m]? =some j
def yZ:RDn:=λds h Q=> ∃T W,∃n e i j m:Nat,∃k:Int,ds= [jq T,jC W,.int (i:Int),.int (j:Int),.int k]/\Sq n e T/\1<=n/\n<=6/\m<=60/\WalkOk T n W i j m/\Q (.bl (decide ((m:Int)=k))) h
theorem WG (Z:Zs mg)(F:Fun K "is_walk_between" "is_walk_between" wT f fd)(UA:jg P w K mg base n "has_walk_form" ["table","thing"] Jf):FnOk P w K mg base CX0 (n+1) f fd ["table","thing","one","other","k"] (LSp K yZ):=by
 refine F.okM Wy (λhr=>(jf (jZ (PC (jk UA hr (j2 (jv 0) (jv 1))) (PC (jc1 oq_eq (Jo Z (jv 1)) (jop wt (jv 4) jF)) (PC (jc1 (Jc hr.units) (ji1 (jv 1) jF) (jv 2)) (Mz (jc1 (Jc hr.units) (ji1 (jv 1) (Lp jF)) (jv 3))))))))) ?_;rintro ds h Q ⟨T,W,n,b,i,j,m,k,rfl,hT,h1,h6,hm,w,q⟩;refine⟨rfl,?_⟩;have okW:okD (jC W)=true:=Xv (by rw [G2,w.len];omega) λd hd=>by obtain⟨x,_,rfl⟩:=D6.mp hd;rfl
 have a0:atI (W.map λ(k:Nat)=>D.int (k:Int)) 0=some (.int (i:Int)):=zG (j:=0) (by rw [P1,w.fst];rfl);have a1:atI (W.map λ(k:Nat)=>D.int (k:Int)) (-1)=some (.int (j:Int)):=Qg (by rw [G2,w.len];omega) (by rw [G2,w.len,P1,show m+1-1=m by omega,w.lst];rfl);refine⟨_,rfl,_,rfl,T,jC W,n,b,rfl,hT,h1,h6,okW,_,rfl,?_⟩;rw [w.wd];refine vq ⟨_,rfl,_,rfl,?_⟩;show ∃c,D.bl (decide ((((W.map λ(k:Nat)=>D.int (k:Int)).length:Nat):Int)=k+1))=D.bl c/\_;rw [G2,w.len,show decide ((((m+1:Nat):Nat):Int)=k+1)=decide ((m:Int)=k) from by rw [T7,decide_eq_true_iff,decide_eq_true_iff];omega]
 by_cases z:(m:Int)=k
 ·rw [decide_eq_true z] at q ⊢;refine⟨_,rfl,vq ⟨_,rfl,_,a0,_,rfl,?_⟩⟩;show ∃c,D.bl (decide ((i:Int)=(i:Int)))=D.bl c/\_;rw [decide_eq_true rfl];refine⟨_,rfl,vq ⟨_,rfl,_,a1,_,rfl,?_⟩⟩;show ∃h',_/\Q (.bl (decide ((j:Int)=(j:Int)))) h';rw [decide_eq_true rfl];exact⟨h,Sub.refl h,q⟩
 ·rw [decide_eq_false z] at q ⊢;exact⟨_,rfl,wO ⟨h,Sub.refl h,q⟩⟩
theorem QH (n:Nat)(f:Nat->D):UK ((G0 n).map f)=(G0 n).map λ(j:Nat)=>D.tup [.int (j:Int),f j]:=by
 refine U9 λi=> ?_
 unfold UK;rw [P1,Y2,P1,P1]
 by_cases z:i<n
 ·rw [T5 z];simp
 ·rw [N3 (by rw [G5];omega)];rfl
theorem Pc (n1:1<=n)(b:Bool):((G0 n).all λ_=>b)=b:=by
 cases b with
 |true=>rw [S1];exact λ_ _=>rfl
 |false=>
  rw [List.all_eq_false];exact⟨0,G8.mpr n1,by decide⟩
def DA (n:Nat)(f:Nat->List Nat):D:= .tup ((G0 n).map λj=>jC (f j))
def vF:RDn:=λds h Q=> ∃T f,∃n e i m:Nat,∃k:Int,ds= [jq T,DA n f,.int (i:Int),.int k]/\Sq n e T/\1<=n/\n<=6/\m<=60/\(∀j,j<n->WalkOk T n (f j) i j m)/\Q (.bl (decide ((m:Int)=k))) h
theorem Yk (Z:Zs mg)(F:Fun K "are_walks_from" "are_walks_from" yn f fd)(Yp:jg P w K mg base n "is_walk_between" ["table","thing","one","other","k"] yZ):FnOk P w K mg base CX0 (n+1) f fd ["table","thing","one","k"] (LSp K vF):=by
 refine F.okM vI (λhr=>(jd (Zn (jpt (Rn (yy (wx (UO (T:= "tuple") (by decide) rfl Z.isinstance rfl Z.tuple (by decide +kernel) (jv 1)))) (Mx (jt1 oq_ne (Jo Z (jv 1)) (Jo Z (jv 0)))))) (jf (jZ jbl)) jN) (by exact(jf (jZ (ze (Ju rfl) rfl Z.all B0 (j1 (Am (i:=4) (j:=5) (js:= [4,5]) rfl (jG (by rfl)) (Qa rfl Z.enumerate (j1 (jv 1))) (by decide) (by decide) (by decide) vI.nd rfl rfl (by first|exact M5 rfl|exact F6 rfl) (by first|exact M5 rfl|exact F6 rfl) (λX' hX=>zH) (λX' hX=>by obtain⟨C,s₀,H₀,ex,rfl⟩:=hX;exact(jk Yp hr (jac (jv 0) (by exact(j4 (jv 5) (jv 2) (jv 4) (jv 3)))))))))))))) ?_;rintro ds h Q ⟨T,f,n,b,i,m,k,rfl,hT,h1,h6,hm,w,q⟩;refine⟨rfl,?_⟩;refine jA [some (jq T),some (DA n f),some (.int (i:Int)),some (.int k),none,none] (λC hC=> ?_) ?_
 ·refine⟨_,rfl,_,rfl,_,rfl,wO ⟨_,rfl,_,rfl,?_⟩⟩;show ∃c,D.bl (!decide (((((G0 n).map λj=>jC (f j)).length:Nat):Int)=(((T.map Jr).length:Nat):Int)))=D.bl c/\_;rw [G2,G5,G2,hT.len,decide_eq_true rfl];exact⟨_,rfl,wO (hC)⟩
 refine LP (j:=λ_=>some (UK ((G0 n).map λj=>jC (f j)))) (G0 n) (λj=> .int (j:Int)) (λj=>jC (f j)) (λ_=>decide ((m:Int)=k)) (by rw [G5];omega) (congrArg some (QH n _)) (λR r=>⟨_,rfl,_,rfl,r⟩) (λj hj Q' q'=>⟨_,rfl,_,rfl,_,rfl,_,rfl,_,rfl,T,f j,n,b,i,j,m,k,rfl,hT,h1,h6,hm,w j (G8.mp hj),q'⟩) ⟨h,Sub.refl h,?_⟩;rw [Pc h1];exact q
def JR (n:Nat)(f:Nat->Nat->List Nat):D:= .tup ((G0 n).map λi=>DA n (f i))
def Jg:RDn:=λds h Q=> ∃T f,∃n e m:Nat,∃k:Int,ds= [jq T,JR n f,.int k]/\Sq n e T/\1<=n/\n<=6/\m<=60/\(∀i j,i<n->j<n->WalkOk T n (f i j) i j m)/\Q (.bl (decide ((m:Int)=k))) h
theorem YV (Z:Zs mg)(F:Fun K "are_all_walks" "are_all_walks" yO f fd)(YY:jg P w K mg base n "are_walks_from" ["table","thing","one","k"] vF):FnOk P w K mg base CX0 (n+1) f fd ["table","thing","k"] (LSp K Jg):=by
 refine F.okM Ji (λhr=>(jd (Zn (jpt (Rn (yy (wx (UO (T:= "tuple") (by decide) rfl Z.isinstance rfl Z.tuple (by decide +kernel) (jv 1)))) (Mx (jt1 oq_ne (Jo Z (jv 1)) (Jo Z (jv 0)))))) (jf (jZ jbl)) jN) (by exact(jf (jZ (ze (Ju rfl) rfl Z.all B0 (j1 (Am (i:=3) (j:=4) (js:= [3,4]) rfl (jG (by rfl)) (Qa rfl Z.enumerate (j1 (jv 1))) (by decide) (by decide) (by decide) Ji.nd rfl rfl (by first|exact M5 rfl|exact F6 rfl) (by first|exact M5 rfl|exact F6 rfl) (λX' hX=>zH) (λX' hX=>by obtain⟨C,s₀,H₀,ex,rfl⟩:=hX;exact(jk YY hr (j4 (jv 0) (jv 4) (jv 3) (jv 2)))))))))))) ?_;rintro ds h Q ⟨T,f,n,b,m,k,rfl,hT,h1,h6,hm,w,q⟩;refine⟨rfl,?_⟩;refine jA [some (jq T),some (JR n f),some (.int k),none,none] (λC hC=> ?_) ?_
 ·refine⟨_,rfl,_,rfl,_,rfl,wO ⟨_,rfl,_,rfl,?_⟩⟩;show ∃c,D.bl (!decide (((((G0 n).map λi=>DA n (f i)).length:Nat):Int)=(((T.map Jr).length:Nat):Int)))=D.bl c/\_;rw [G2,G5,G2,hT.len,decide_eq_true rfl];exact⟨_,rfl,wO (hC)⟩
 refine LP (j:=λ_=>some (UK ((G0 n).map λi=>DA n (f i)))) (G0 n) (λj=> .int (j:Int)) (λi=>DA n (f i)) (λ_=>decide ((m:Int)=k)) (by rw [G5];omega) (congrArg some (QH n _)) (λR r=>⟨_,rfl,_,rfl,r⟩) (λi hi Q' q'=>⟨_,rfl,_,rfl,_,rfl,_,rfl,T,f i,n,b,i,m,k,rfl,hT,h1,h6,hm,λj hj=>w i j (G8.mp hi) hj,q'⟩) ⟨h,Sub.refl h,?_⟩;rw [Pc h1];exact q
def Nh (k:Nat)(f:Nat->List Nat):D:= .tup ((G0 k).map λt=>jC (f t))
def Uv:RDn:=λds h Q=> ∃f,∃k n:Nat,ds= [Nh k f,.int (k:Int),.int (n:Int)]/\n<=6/\k<=60/\(∀t,t<k->IsS n (f t))/\Q (.bl true) h
theorem DB (Z:Zs mg)(F:Fun K "are_sets" "are_sets" Yg f fd)(QQ:jg P w K mg base n "is_set" ["thing","size"] Uo):FnOk P w K mg base CX0 (n+1) f fd ["thing","many","size"] (LSp K Uv):=by
 refine F.okM Uj (λhr=>(jf (jZ (PC (UO (T:= "tuple") (by decide) rfl Z.isinstance rfl Z.tuple (by decide +kernel) (jv 0)) (PC (jc1 oq_eq (Jo Z (jv 0)) (jv 1)) (Mz (ze (Ju rfl) rfl Z.all B0 (j1 (jl0 3 Uj (jY (jv 0)) (λ_ _ _ _=>(jk QQ hr (j2 (jv 3) (jv 2))))))))))))) ?_;rintro ds h Q ⟨f,k,n,rfl,h6,hk,w,q⟩;refine⟨rfl,?_⟩;refine⟨_,rfl,_,rfl,_,rfl,vq ⟨_,rfl,_,rfl,?_⟩⟩;show ∃c,D.bl (decide (((((G0 k).map λt=>jC (f t)).length:Nat):Int)=(k:Int)))=D.bl c/\_;rw [G2,G5,decide_eq_true rfl];refine⟨_,rfl,vq ?_⟩;refine qd (j:=λ_=>some ((G0 k).map λt=>jC (f t))) (G0 k) (λt=>jC (f t)) (λ_=>true) (by rw [G5];omega) rfl (λR r=>⟨_,rfl,r⟩) (λt ht Q' q'=>⟨_,rfl,_,rfl,_,n,rfl,h6,.inl ⟨f t,rfl,w t (G8.mp ht),q'⟩⟩) ⟨h,Sub.refl h,?_⟩;rw [show ((G0 k).all λ_=>true)=true from by rw [S1];exact λ_ _=>rfl];exact q
theorem SQ (k:Nat)(f:Nat->D):PY ((G0 k).map f) (UI ((G0 k).map f) (some 1) none)=(G0 (k-1)).map λt=>D.tup [f t,f (t+1)]:=by
 rw [BU];unfold PY;refine U9 λi=> ?_
 rw [P1,P1]
 by_cases z:i<k-1
 ·rw [T5 z];have h1:i<((G0 k).map f).length:=by rw [G2,G5];omega
  have h2:i<(((G0 k).map f).drop 1).length:=by rw [S8,G2,G5];omega
  rw [G1 (by rw [X3];omega),List.getElem_zip,dI];simp only [K7,F8,Option.map_some,Y6 1 i]
 ·rw [N3 (by rw [X3,S8,G2,G5];omega),N3 (by rw [G5];omega)];rfl
theorem Ff {neg:Bool}{x:Nat}{S:List Nat}{h:HD}{Q:KD}(q:Q (.bl (neg !=decide (x∈S))) h):inE neg (.int (x:Int)) (jC S) h Q:=by
 rw [VG];refine Ry ?_;have:decide ((x:Int)∈zU S)=decide (x∈S):=by
  rw [T7,decide_eq_true_iff,decide_eq_true_iff];constructor
  ·intro z;obtain⟨y,hy,e⟩:=D6.mp z;rw [show x=y by omega];exact hy
  ·exact Rs
 rw [this];exact q
def vG:RDn:=λds h Q=> ∃T S,∃n e k:Nat,ds= [jq T,Nh k (λt=>itF (jL n T) S t)]/\Sq n e T/\n<=6/\k<=60/\IsS n S/\Q (.bl true) h
theorem Yl (Z:Zs mg)(F:Fun K "take_in_arrows" "take_in_arrows" yo f fd)(JZ:jg P w K mg base n "step_after" ["table","some"] vX):FnOk P w K mg base CX0 (n+1) f fd ["table","sets"] (LSp K vG):=by
 refine F.okM vJ (λhr=>(jf (jZ (ze (Ju rfl) rfl Z.all B0 (j1 (jau (i:=2) (j:=3) (l:=4) (js:= [2,3,4]) rfl (jG (by rfl)) (Rx rfl Z.zip (j2 (jv 1) (Gu (jv 1) (WQ jF) XU))) (by decide) (by decide) (by decide) (by decide) (by decide) (by decide) vJ.nd rfl rfl rfl (by first|exact M5 rfl|exact F6 rfl) (by first|exact M5 rfl|exact F6 rfl) (by first|exact M5 rfl|exact F6 rfl) (λX' hX=>zH) (λX' hX=>by obtain⟨C,s₀,H₀,ex,rfl⟩:=hX;exact(jY (jk JZ hr (j2 (jv 0) (jv 2))))) (λX' hX=>zH) (λX' hX=>by obtain⟨C,s₀,H₀,ex,rfl⟩:=hX;exact(km (LL hr.units) (jv 4) (jv 3) (by with_unfolding_all rfl))))))))) ?_;rintro ds h Q ⟨T,S,n,b,k,rfl,hT,h6,hk,hS,q⟩;refine⟨rfl,?_⟩;refine jav (j:=λ_=>some (PY ((G0 k).map λt=>jC (itF (jL n T) S t)) (UI ((G0 k).map λt=>jC (itF (jL n T) S t)) (some 1) none))) (G0 (k-1)) (λt=>jC (itF (jL n T) S t)) (λt=>jC (itF (jL n T) S (t+1))) (λt=>itF (jL n T) S (t+1)) (λx=> .int (x:Int)) (λ_ _=>true) ?_ (congrArg some (SQ k _)) (λR r=>⟨_,rfl,_,rfl,_,rfl,_,_,rfl,r⟩) (λt ht R r=>⟨_,rfl,_,rfl,T,itF (jL n T) S t,n,b,rfl,hT,hS.it t,h6,r⟩) (λt ht x hx Q' q'=>⟨_,rfl,_,rfl,Ff ?_⟩) ⟨h,Sub.refl h,?_⟩
 ·have: ∀l:List Nat,(l.flatMap λt=>itF (jL n T) S (t+1)).length<=6*l.length:=by
   intro l
   induction l with
   |nil=>exact P0 _
   |cons t l ih=>
    rw [C9,P2,R0];have:=(hS.it (T:=T) (t+1)).len;omega
  have:=this (G0 (k-1));rw [G5] at this;omega
 ·rw [decide_eq_true hx];exact q'
 ·rw [show ((G0 (k-1)).all λt=>(itF (jL n T) S (t+1)).all λ_=>true)=true from by rw [S1];exact λ_ _=>by rw [S1];exact λ_ _=>rfl];exact q
section
variable {n e:Nat}{T:List (List Int)}
theorem Az (h:Sq n e T)(hn:n<=8){m i j:Nat}(hi:i<n)(hj:j<n):ent (zX n T m) i j≠0↔RP n T (m+1) i j:=by
 rw [Wp h hn];exact not_congr (zW hi hj)
theorem Uw (h:Sq n e T)(hn:n<=8){k:Nat}(ho:Fst n T (some k)){m:Nat}(hm:k<=m){i j:Nat}(hi:i<n)(hj:j<n):RP n T m i j:=by
 have:=XY h hn ho.1 ho.2.2.1 (m-k);rw [show k+(m-k)=m by omega] at this;exact(vN h hn).mp this i j hi hj
theorem RZ (h:Sq n e T)(hn:n<=8){k:Nat}(f:jP (zF n T k)=false): ∃i j,i<n/\j<n/\ ¬RP n T k i j:=by
 refine F5 λz=> ?_
 have:jP (zF n T k)=true:=(vN h hn).mpr λi j hi hj=>F5 λw=>z ⟨i,j,hi,hj,w⟩
 rw [f] at this;cases this
theorem Fst.to {U:List (List Int)}{e':Nat}(h:Sq n e T)(g:Sq n e' U)(hn:n<=8)(x: ∀k,(∀i j,i<n->j<n->RP n U k i j)↔ ∀i j,i<n->j<n->RP n T k i j){o:Option Nat}(ho:Fst n T o):Fst n U o:=by
 have e: ∀k,jP (zF n U k)=jP (zF n T k):=λk=>by
  rw [T7,vN g hn,vN h hn];exact x k
 cases o with
 |none=>exact λk hk=>(e k).trans (ho k hk)
 |some k=>exact⟨ho.1,ho.2.1,(e k).trans ho.2.2.1,λj j1 j2=>(e j).trans (ho.2.2.2 j j1 j2)⟩
theorem Fg (h:Sq n e T)(hn:n<=8){k i j:Nat}(hi:i<n)(hj:j<n):RP n (vj n T) k i j↔RP n T k j i:=by
 unfold RP;rw [<-Rt h hn,zP hi hj]
end
def Ti (n:Nat)(T:List (List Int))(k one o:Nat):D:= .tup [.int (one:Int),.int (o:Int),Nh k (λt=>itF (jL n T) [one] t)]
theorem Ym {x:Nat}(h:x<n):wy (.int (x:Int)) 0 ((n:Int)-1)=true:=by
 show (decide ((0:Int)<=(x:Int))&&decide ((x:Int)<=(n:Int)-1))=true;rw [decide_eq_true (show (0:Int)<=(x:Int) by omega),decide_eq_true (show (x:Int)<=(n:Int)-1 by omega)];rfl
def Pd:RDn:=λds h Q=> ∃T,∃n e k one o:Nat,ds= [jq T,Ti n T k one o,.int (k:Int)]/\Sq n e T/\1<=n/\n<=6/\1<=k/\k<=60/\one<n/\o<n/\ ¬RP n T (k-1) one o/\Q (.bl true) h
theorem Fh (Z:Zs mg)(F:Fun K "is_gap" "is_gap" Qq f fd)(Nl:jg P w K mg base n "are_sets" ["thing","many","size"] Uv)(yE:jg P w K mg base n "is_place" ["thing","size"] vW)(Va:jg P w K mg base n "take_in_arrows" ["table","sets"] vG):FnOk P w K mg base CX0 (n+1) f fd ["table","thing","k"] (LSp K Pd):=by
 refine F.okM UG (λhr=>(jd (Zn (jpt (Rn (yy (wx (UO (T:= "tuple") (by decide) rfl Z.isinstance rfl Z.tuple (by decide +kernel) (jv 1)))) (Mx (jt1 oq_ne (Jo Z (jv 1)) jF)))) (jf (jZ jbl)) jN) (by exact(jd (Bw (jv 1) (Ky (i:=3) (j:=4) (l:=5) rfl UG.nd rfl rfl rfl (M5 rfl) (M5 rfl) (M5 rfl))) (by exact(jd (jse 6 UG (Jo Z (jv 0))) (by exact(jd (Zn (jpt (Rn (yy (wx (jk yE hr (j2 (jv 3) (jv 6))))) (Rn (yy (wx (jk yE hr (j2 (jv 4) (jv 6))))) (Mx (yy (wx (jk Nl hr (j3 (jv 5) (jv 2) (jv 6))))))))) (jf (jZ jbl)) jN) (by exact(jf (jZ (PC (km (LL hr.units) (jv 3) (ji1 (jv 5) jF) (by with_unfolding_all rfl)) (PC (jk Va hr (j2 (jv 0) (jv 5))) (Mz (km (Qb hr.units) (jv 4) (ji1 (jv 5) (Lp jF)) (by with_unfolding_all rfl)))))))))))))))) ?_;rintro ds h Q ⟨T,n,b,k,one,o,rfl,hT,h1,h6,k1,k60,h2,ho,nr,q⟩;refine⟨rfl,?_⟩;have hn:n<=8:=by omega
 refine jA [some (jq T),some (Ti n T k one o),some (.int (k:Int)),none,none,none,none] (λC hC=>⟨_,rfl,_,rfl,_,rfl,wO ⟨_,rfl,_,rfl,wO (hC)⟩⟩) ?_;refine jA [some (jq T),some (Ti n T k one o),some (.int (k:Int)),some (.int (one:Int)),some (.int (o:Int)),some (Nh k (λt=>itF (jL n T) [one] t)),none] (λC hC=>⟨_,rfl,_,_,_,rfl,hC⟩) ?_;refine ji (λoV h'=>oV= [some (jq T),some (Ti n T k one o),some (.int (k:Int)),some (.int (one:Int)),some (.int (o:Int)),some (Nh k (λt=>itF (jL n T) [one] t)),some (.int (n:Int))]/\h=h') (λC hC=>⟨_,rfl,hC _ _ ⟨by rw [G2,hT.len];rfl,rfl⟩⟩) ?_;rintro _ _ ⟨rfl,rfl⟩;refine jA [some (jq T),some (Ti n T k one o),some (.int (k:Int)),some (.int (one:Int)),some (.int (o:Int)),some (Nh k (λt=>itF (jL n T) [one] t)),some (.int (n:Int))] (λC hC=>⟨_,rfl,_,rfl,.int (one:Int),(n:Int),rfl,rfl,?_⟩) ?_
 ·rw [Ym h2];refine⟨_,rfl,wO ⟨_,rfl,_,rfl,.int (o:Int),(n:Int),rfl,rfl,?_⟩⟩;rw [Ym ho];exact⟨_,rfl,wO ⟨_,rfl,_,rfl,_,rfl,λt=>itF (jL n T) [one] t,k,n,rfl,h6,k60,λt _=>IsS.it (Dj h2) t,_,rfl,wO (hC)⟩⟩
 have at0:atI ((G0 k).map λt=>jC (itF (jL n T) [one] t)) 0=some (jC [one]):=zG (j:=0) (by rw [P1,T5 (by omega)];rfl);have atL:atI ((G0 k).map λt=>jC (itF (jL n T) [one] t)) (-1)=some (jC (itF (jL n T) [one] (k-1))):=Wo k1;refine⟨_,rfl,_,rfl,_,at0,Ff ⟨_,rfl,?_⟩⟩;rw [decide_eq_true (show one∈ [one] from G9.mpr rfl)];refine vq ⟨_,rfl,_,rfl,T,[one],n,b,k,rfl,hT,h6,k60,Dj h2,_,rfl,vq ⟨_,rfl,_,rfl,_,atL,Ff ⟨h,Sub.refl h,?_⟩⟩⟩;rw [decide_eq_false (show ¬o∈itF (jL n T) [one] (k-1) from λz=>nr ((CQ hT hn h2 (k-1) o).mp z).2)];exact q
def OG (n:Nat)(T:List (List Int))(k:Nat)(g:D):Prop:=(k=1/\g= .non)\/ ∃one o,2<=k/\one<n/\o<n/\ ¬RP n T (k-1) one o/\g=Ti n T k one o
def Zz:RDn:=λds h Q=> ∃T f g,∃n e m:Nat,∃k:Int,ds= [jq T,.tup [.int k,JR n f,g]]/\Sq n e T/\1<=n/\n<=6/\1<=m/\m<=60/\(∀i j,i<n->j<n->WalkOk T n (f i j) i j m)/\(((m:Int)≠k/\Q (.bl false) h)\/((m:Int)=k/\OG n T m g/\Q (.bl true) h))
theorem UX (Z:Zs mg)(F:Fun K "first_holds" "first_holds" vS f fd)(jh:jg P w K mg base n "want_table" ["thing"] jB)(Uy:jg P w K mg base n "are_all_walks" ["table","thing","k"] Jg)(Fs:jg P w K mg base n "is_from" ["thing","least"] Xw)(OR:jg P w K mg base n "is_gap" ["table","thing","k"] Pd):FnOk P w K mg base CX0 (n+1) f fd ["table","thing"] (LSp K Zz):=by
 refine F.okM ZB (λhr=>(jd (zT (jk jh hr (j1 (jv 0)))) (by exact(jd (Zn (jpt (Rn (yy (wx (UO (T:= "tuple") (by decide) rfl Z.isinstance rfl Z.tuple (by decide +kernel) (jv 1)))) (Mx (jt1 oq_ne (Jo Z (jv 1)) jF)))) (jf (jZ jbl)) jN) (by exact(jd (Bw (jv 1) (Ky (i:=2) (j:=3) (l:=4) rfl ZB.nd rfl rfl rfl (M5 rfl) (M5 rfl) (M5 rfl))) (by exact(jd (Zn (jpt (Rn (yy (wx (jk Fs hr (j2 (jv 2) jF)))) (Mx (yy (wx (jk Uy hr (j3 (jv 0) (jv 3) (jv 2)))))))) (jf (jZ jbl)) jN) (by exact(jf (jZ (jif (jt1 oq_eq (jv 2) jF) (jc1 ED (jv 4) Lm) (jk OR hr (j3 (jv 0) (jv 4) (jv 2))))))))))))))) ?_;rintro ds h Q ⟨T,f,g,n,b,m,k,rfl,hT,h1,h6,m1,m60,w,q⟩;refine⟨rfl,?_⟩;refine jA [some (jq T),some (.tup [.int k,JR n f,g]),none,none,none] (λC hC=>⟨_,rfl,T,n,b,rfl,hT,h1,h6,hC⟩) ?_;refine jA [some (jq T),some (.tup [.int k,JR n f,g]),none,none,none] (λC hC=>⟨_,rfl,_,rfl,_,rfl,wO ⟨_,rfl,_,rfl,wO (hC)⟩⟩) ?_;refine jA [some (jq T),some (.tup [.int k,JR n f,g]),some (.int k),some (JR n f),some g] (λC hC=>⟨_,rfl,_,_,_,rfl,hC⟩) ?_;refine ji (λoV h'=>oV= [some (jq T),some (.tup [.int k,JR n f,g]),some (.int k),some (JR n f),some g]/\h=h'/\(m:Int)=k/\OG n T m g/\Q (.bl true) h) (λC hC=>⟨_,rfl,k,1,rfl,?_⟩) ?_
 ·by_cases z:(1:Int)<=k
  ·rw [decide_eq_true z];refine⟨_,rfl,wO ⟨_,rfl,_,rfl,_,rfl,T,f,n,b,m,k,rfl,hT,h1,h6,m60,w,_,rfl,?_⟩⟩;rcases q with ⟨ne,q⟩|⟨e,ig,q⟩
   ·rw [decide_eq_false ne];exact vq ⟨h,Sub.refl h,q⟩
   ·rw [decide_eq_true e];exact wO (hC _ _ ⟨rfl,rfl,e,ig,q⟩)
  ·rw [decide_eq_false z];rcases q with ⟨ne,q⟩|⟨e,ig,q⟩
   ·exact⟨_,rfl,vq (vq ⟨h,Sub.refl h,q⟩)⟩
   ·omega
 rintro _ _ ⟨rfl,rfl,e,ig,qt⟩;clear q;subst e;refine⟨_,rfl,?_⟩;show ∃c,D.bl (decide ((m:Int)=1))=D.bl c/\_;rcases ig with ⟨rfl,rfl⟩|⟨one,o,m2,h2,ho,nr,rfl⟩
 ·exact⟨_,rfl,vq ⟨_,rfl,h,Sub.refl h,qt⟩⟩
 ·rw [decide_eq_false (show ¬ (m:Int)=1 by omega)];exact⟨_,rfl,wO ⟨_,rfl,_,rfl,_,rfl,T,n,b,m,one,o,rfl,hT,h1,h6,m1,m60,h2,ho,nr,h,Sub.refl h,qt⟩⟩
def YD:RDn:=λds h Q=> ∃M,∃n e:Nat,ds= [jq M]/\Sq n e M/\n<=6/\(∃i j,i<n/\j<n/\ent M i j=0)/\ ∀i j:Nat,i<n->j<n->ent M i j=0->Q (.tup [.int (i:Int),.int (j:Int)]) h
theorem Pe (Z:Zs mg)(F:Fun K "nought_of" "nought_of" ZR f fd):FnOk P w K mg base CX0 (n+1) f fd ["table"] (LSp K YD):=by
 refine F.okM Zf (λhr=>(jd (jse 1 Zf (ji1 (Am (i:=2) (j:=3) (js:= [2,3]) rfl (jG (by rfl)) (Qa rfl Z.enumerate (j1 (jv 0))) (by decide) (by decide) (by decide) Zf.nd rfl rfl (by first|exact M5 rfl|exact F6 rfl) (by first|exact M5 rfl|exact F6 rfl) (λX' hX=>by obtain⟨C,s₀,H₀,ex,rfl⟩:=hX;exact VB (Bs (LL hr.units) jF (jv 3) (by with_unfolding_all rfl))) (λX' hX=>by obtain⟨C,s₀,H₀,ex,rfl⟩:=hX;exact(jv 2))) jF)) (by exact(jf (jZ (FG (j2 (jv 1) (xZ (ji1 (jv 0) (jv 1)) jF)))))))) ?_;rintro ds h Q ⟨M,n,b,rfl,hM,h6,⟨i0,j0,hi0,hj0,z0⟩,q⟩;refine⟨rfl,?_⟩;have rowz: ∀i,i<n->(decide ((0:Int)∈M.getD i [])=true↔ ∃j,j<n/\ent M i j=0):=λi hi=>by
  have hl:=hM.row _ (Sq.getRow hM hi);rw [decide_eq_true_iff];unfold ent;generalize M.getD i []=r at hl;constructor
  ·intro w;obtain⟨j,hj,ej⟩:=A0 w;exact⟨j,by omega,by rw [P5,G1 hj,ej];rfl⟩
  ·rintro ⟨j,hj,ej⟩;rw [<-ej,P5,G1 (by omega)];exact S9 _
 have en:UK (M.map Jr)=(G0 n).map λ(i:Nat)=>D.tup [.int (i:Int),Jr (M.getD i [])]:=by
  conv=>lhs;rw [zN M [],hM.len,R3]
  exact QH n (λi=>Jr (M.getD i []))
 refine ji (λoV h'=> ∃i:Nat,oV= [some (jq M),some (.int (i:Int)),none,none]/\Sub h h'/\i<n/\ ∃j,j<n/\ent M i j=0) (λC hC=> ?_) ?_
 ·unfold FD dOp;refine uV (j:=λ_=>some (UK (M.map Jr))) (G0 n) (λi=> .int (i:Int)) (λi=>Jr (M.getD i [])) (λi=> .int (i:Int)) (λi=>decide ((0:Int)∈M.getD i [])) (by rw [G5];omega) (congrArg some en) (λR r=>⟨_,rfl,_,rfl,r⟩) (λi hi Q' q'=>⟨_,rfl,Ry ⟨_,rfl,by rw [show ((false !=decide ((0:Int)∈M.getD i [])))=decide ((0:Int)∈M.getD i []) from by cases decide ((0:Int)∈M.getD i [])<;>rfl];exact q'⟩⟩) (λi hi _ Q' q'=>⟨_,rfl,q'⟩) (λF eF=> ?_);have ne:(G0 n).filter (λi=>decide ((0:Int)∈M.getD i []))≠ []:=λz=>by
   have:i0∈(G0 n).filter (λi=>decide ((0:Int)∈M.getD i [])):=T6.mpr ⟨G8.mpr hi0,(rowz i0 hi0).mpr ⟨j0,hj0,z0⟩⟩;rw [z] at this;cases this
  obtain⟨i,r,er⟩:=List.exists_cons_of_ne_nil ne;have im:i∈(G0 n).filter (λi=>decide ((0:Int)∈M.getD i [])):=by rw [er];exact D0
  obtain⟨hi,zi⟩:=T6.mp im;exact⟨_,_,jc,zG (j:=0) (by rw [P1,er];rfl),hC _ _ ⟨i,rfl,Sub.newAt (Sub.refl h) eF,G8.mp hi,(rowz i (G8.mp hi)).mp zi⟩⟩
 rintro _ h2 ⟨i,rfl,sb,hi,j,hj,zj⟩;have hl:=hM.row _ (Sq.getRow hM hi);have mem:(0:Int)∈M.getD i []:=of_decide_eq_true ((rowz i hi).mpr ⟨j,hj,zj⟩);have il:(M.getD i []).idxOf 0<(M.getD i []).length:=C0.mpr mem;have ez:ent M i ((M.getD i []).idxOf 0)=0:=by
  unfold ent;rw [P5,G1 il,F7 il];rfl
 exact⟨_,rfl,_,rfl,_,rfl,_,yi hM hi,M.getD i [],rfl,0,rfl,mem,sz2,h,sb,q i _ hi (by omega) ez⟩
def YE:RDn:=λds h Q=> ∃T,∃n e k:Nat,ds= [jq T,.int (k:Int)]/\Sq n e T/\1<=n/\n<=6/\e<=1000/\Fst n T (some k)/\ ∀g,OG n T k g->Q g h
theorem Pf (Z:Zs mg)(F:Fun K "gap_ahead" "gap_ahead" ZS f fd)(DL:jg P w K mg base n "nought_of" ["table"] YD)(No:jg P w K mg base n "marks_of" ["table","k"] Uu)(DO:jg P w K mg base n "set_after" ["table","some","k"] YB):FnOk P w K mg base CX0 (n+1) f fd ["table","k"] (LSp K YE):=by
 refine F.okM Ze (λhr=>(jd (Zn (jt1 oq_eq (jv 1) jF) (jf (jZ Lm)) jN) (by exact(jd (Bw (jk DL hr (j1 (jk No hr (j2 (jv 0) (jop yr (jv 1) jF))))) (Xj (i:=2) (j:=3) rfl Ze.nd rfl rfl (by first|exact F6 rfl|exact M5 rfl) (M5 rfl))) (by exact(jf (jZ (FG (j3 (jv 2) (jv 3) (jM jH rfl Z.tuple (by decide +kernel) (j1 (jl0 4 Ze (jrg Z (jv 1)) (λ_ _ _ _=>(jk DO hr (j3 (jv 0) (FG (j1 (jv 2))) (jv 4)))))))))))))))) ?_;rintro ds h Q ⟨T,n,b,k,rfl,hT,h1,h6,hb,hk,q⟩;refine⟨rfl,?_⟩;have hn:n<=8:=by omega
 have k1:=hk.1;have k30:=hk.2.1;refine ji (λoV h'=>oV= [some (jq T),some (.int (k:Int)),none,none,none]/\h=h'/\2<=k) (λC hC=>⟨_,rfl,?_⟩) ?_
 ·show ∃c,D.bl (decide ((k:Int)=1))=D.bl c/\_
  by_cases z:k=1
  ·rw [decide_eq_true (show (k:Int)=1 by omega)];exact⟨_,rfl,vq ⟨h,Sub.refl h,q _ (.inl ⟨z,rfl⟩)⟩⟩
  ·rw [decide_eq_false (show ¬ (k:Int)=1 by omega)];exact⟨_,rfl,wO (hC _ _ ⟨rfl,rfl,by omega⟩)⟩
 rintro _ _ ⟨rfl,rfl,k2⟩;obtain⟨i0,j0,hi0,hj0,nr0⟩:=RZ hT hn (hk.2.2.2 (k-1) (by omega) (by omega));have zr: ∀i j,i<n->j<n->(ent (zX n T (k-1-1)) i j=0↔ ¬RP n T (k-1) i j):=λi j hi hj=>by
  have:=Az hT hn hi hj (m:=k-1-1);rw [show k-1-1+1=k-1 by omega] at this;rw [<-this];exact oN.symm
 refine ji (λoV h'=> ∃i j:Nat,oV= [some (jq T),some (.int (k:Int)),some (.int (i:Int)),some (.int (j:Int)),none]/\h=h'/\i<n/\j<n/\ ¬RP n T (k-1) i j) (λC hC=>⟨_,rfl,_,rfl,T,n,b,k-1,?_,hT,h1,h6,hb,by omega,?_,zX n T (k-1-1),n,1,rfl,yL n T _,h6,⟨i0,j0,hi0,hj0,(zr i0 j0 hi0 hj0).mpr nr0⟩,λi j hi hj z=>⟨_,_,rfl,hC _ _ ⟨i,j,rfl,rfl,hi,hj,(zr i j hi hj).mp z⟩⟩⟩) ?_
 ·rw [show (k:Int)-1=((k-1:Nat):Int) by omega]
 ·exact R9 (show _<=100 by omega) (by decide)
 rintro _ _ ⟨i,j,rfl,rfl,hi,hj,nr⟩;refine⟨_,rfl,_,rfl,?_⟩;refine QZ (j:=λ_=>some ((G0 k).map λ(t:Nat)=>D.int (t:Int))) (G0 k) (λt=> .int (t:Int)) (λt=>jC (itF (jL n T) [i] t)) (by rw [G5];omega) rfl (λR r=>⟨_,rfl,(k:Int),rfl,by omega,by omega,r⟩) (λt ht Q' q'=>⟨_,rfl,_,rfl,sz1,_,rfl,T,[i],n,b,t,rfl,hT,h1,h6,Dj hi,by have:=G8.mp ht;omega,q'⟩) ⟨sz3,h,Sub.refl h,q _ (.inr ⟨i,j,k2,hi,hj,nr,rfl⟩)⟩
theorem OH {W:List Nat}(h: ∀i∈W,i<n)(w:Qe T W=true):UQ T n (jC W)=true:=by
 have e:Jd (jC W)=W:=by
  show (W.map λ(k:Nat)=>D.int (k:Int)).map BY=W;rw [R3]
  conv=>rhs;rw [<-bK W]
  rfl
 have p:vn (jC W) (n:Int)=true:=by
  show (W.map λ(k:Nat)=>D.int (k:Int)).all (λx=>wy x 0 ((n:Int)-1))=true;rw [S1];intro x hx;obtain⟨i,hi,rfl⟩:=D6.mp hx;exact Ym (h i hi)
 unfold UQ;rw [p,e,w];rfl
theorem xp (h:Sq n e T){i j k:Nat}(hi:i<n)(hj:j<n)(c:0<cnt T n j k i):WalkOk T n (wn T n j k i 0) i j k:=by
 refine⟨OH (KA hi (U5 _) c) (Cj k i (U5 _) c),KA hi (U5 _) c,KB k i 0,?_,Ci k i (U5 _) c⟩;obtain⟨r,er,_⟩:=De (T:=T) (n:=n) (o:=j) k i 0;rw [er];rfl
def YF:RDn:=λds h Q=> ∃T,∃n e:Nat,∃o,ds= [jq T]/\Sq n e T/\1<=n/\n<=6/\e<=1000/\Fst n T o/\((o=none/\Q .non h)\/ ∃k,o=some k/\ ∀g,OG n T k g->Q (.tup [.int (k:Int),JR n (λi j=>wn T n j k i 0),g]) h)
theorem Pg (Z:Zs mg)(F:Fun K "why_first" "why_first" ZT f fd)(jQ:jg P w K mg base n "first_power" ["table"] zE)(Pq:jg P w K mg base n "first_walk" ["table","one","other","k"] WF)(DK:jg P w K mg base n "gap_ahead" ["table","k"] YE):FnOk P w K mg base CX0 (n+1) f fd ["table"] (LSp K YF):=by
 refine F.okM wu (λhr=>(jd (jse 1 wu (jk jQ hr (j1 (jv 0)))) (by exact(jd (Zn (jt1 ED (jv 1) Lm) (jf (jZ Lm)) jN) (by exact(jd (jse 2 wu (EI rfl rfl Z.list rfl Z.range (j1 (Jo Z (jv 0))))) (by exact(jd (jse 3 wu (jM jH rfl Z.tuple (by decide +kernel) (j1 (jl0 4 wu (jY (jv 2)) (λ_ _ _ _=>(jM jH rfl Z.tuple (by decide +kernel) (j1 (jl0 5 wu (jY (jv 2)) (λ_ _ _ _=>(jk Pq hr (j4 (jv 0) (jv 4) (jv 5) (jv 1)))))))))))) (by exact(jf (jZ (FG (j3 (jv 1) (jv 3) (jk DK hr (j2 (jv 0) (jv 1)))))))))))))))) ?_;rintro ds h Q ⟨T,n,b,o,rfl,hT,h1,h6,hb,ho,q⟩;refine⟨rfl,?_⟩;have hn:n<=8:=by omega
 refine jA [some (jq T),some (qz o),none,none,none,none] (λC hC=>⟨_,rfl,T,n,b,o,rfl,hT,h1,h6,hb,ho,hC⟩) ?_;rcases q with ⟨rfl,q⟩|⟨k,rfl,q⟩
 ·refine ji (λ_ _=>False) (λC hC=>⟨_,rfl,_,rfl,vq ⟨h,Sub.refl h,q⟩⟩) (λ_ _ z=>z.elim)
 have k30:=ho.2.1;refine jA [some (jq T),some (.int (k:Int)),none,none,none,none] (λC hC=>⟨_,rfl,_,rfl,wO (hC)⟩) ?_;refine ji (λoV h'=> ∃P,oV= [some (jq T),some (.int (k:Int)),some (.lst P),none,none,none]/\h' P=some ((G0 n).map λ(k:Nat)=>D.int (k:Int))/\Sub h h') (λC hC=>⟨_,rfl,n,by rw [G2,hT.len],by omega,λP eP=>hC _ _ ⟨P,rfl,jc,Sub.newAt (Sub.refl h) eP⟩⟩) ?_;rintro _ h2 ⟨P,rfl,kP,sb⟩;refine jA [some (jq T),some (.int (k:Int)),some (.lst P),some (JR n (λi j=>wn T n j k i 0)),none,none] (λC hC=> ?_) ?_
 ·refine QZ (j:=λh=>h P) (G0 n) (λi=> .int (i:Int)) (λi=>DA n (λj=>wn T n j k i 0)) (by rw [G5];omega) kP (λR r=>⟨_,rfl,r⟩) (λi hi Q' q'=> ?_) (hC);have hi:=G8.mp hi;refine QZ (j:=λh=>h P) (G0 n) (λj=> .int (j:Int)) (λj=>jC (wn T n j k i 0)) (by rw [G5];omega) kP (λR r=>⟨_,rfl,r⟩) (λj hj Q2 q2=>⟨_,rfl,_,rfl,_,rfl,_,rfl,T,n,b,i,j,k,rfl,hT,h1,h6,hi,G8.mp hj,by omega,?_⟩) q';rw [if_pos ((RU hT hn (G8.mp hj) k hi).mpr (Uw hT hn ho (P0 _) hi (G8.mp hj)))];exact q2
 exact⟨_,rfl,_,rfl,_,rfl,_,rfl,T,n,b,k,rfl,hT,h1,h6,hb,ho,λg ig=>⟨sz3,h,sb,q g ig⟩⟩
def xq (n i:Nat):List Int:=if i+1=n then ((S4 n 0).set ((i+1)%n) 1).set (1%n) 1 else (S4 n 0).set ((i+1)%n) 1
def JU (n:Nat):List (List Int):=(G0 n).map (xq n)
def SR (n:Nat):List (List Int):=((G0 (n-1)).map λi=>(G0 n).map λj=>if j=i+1 then (1:Int) else 0)++ [(G0 n).map λj=>if j<2 then (1:Int) else 0]
theorem SS (h1:1<=n)(h6:n<=6):Sq n 1 (JU n):=by
 rcases (show n=1\/n=2\/n=3\/n=4\/n=5\/n=6 by omega) with e|e|e|e|e|e<;>subst e<;>exact⟨by decide +kernel,by decide +kernel,by decide +kernel,by decide +kernel⟩
theorem ST (h1:2<=n)(h6:n<=6):SR n=JU n:=by
 rcases (show n=2\/n=3\/n=4\/n=5\/n=6 by omega) with e|e|e|e|e<;>subst e<;>decide +kernel
def WH:RDn:=λds h Q=> ∃n:Nat,ds= [.int (n:Int)]/\2<=n/\n<=6/\Q (jq (JU n)) h
theorem QJ (Z:Zs mg)(F:Fun K "slow_table" "slow_table" JL f fd)(jR:jg P w K mg base n "want_number" ["thing","least","most"] zC)(zm: ∃tk,mg "MOST_ROWS" =some (.int 6 tk)):FnOk P w K mg base CX0 (n+1) f fd ["size"] (LSp K WH):=by
 obtain⟨tk_MOST_ROWS,m_MOST_ROWS⟩:=zm;refine F.okM wL (λhr=>(jd (zT (jk jR hr (j3 (jv 0) jF (Mw rfl m_MOST_ROWS)))) (by exact(jd (Ro (i:=3) (k:=1) (js:= [3]) rfl wL.nd rfl (M5 rfl) (jG (by rfl)) (jrg Z (jop yr (jv 0) jF)) (by decide) rfl (by first|exact M5 rfl|exact F6 rfl) (λX' hX=>zH) (λX' hX=>by obtain⟨C,s₀,H₀,ex,rfl⟩:=hX;exact(jM jH rfl Z.tuple (by decide +kernel) (j1 (jl0 4 wL (jrg Z (jv 0)) (λ_ _ _ _=>(jif (jt1 (Jc hr.units) (jv 4) (jop wt (jv 3) jF)) jF jF))))))) (by exact(jd (jse 2 wL (jM jH rfl Z.tuple (by decide +kernel) (j1 (jl0 4 wL (jrg Z (jv 0)) (λ_ _ _ _=>(jif (jt1 Ld (jv 4) jF) jF jF)))))) (by exact(jf (jZ (jop wt (jM cq_tuple rfl Z.tuple (by decide +kernel) (j1 (jv 1))) (FG (j1 (jv 2))))))))))))) ?_;rintro ds h Q ⟨k,rfl,h2,h6,q⟩;refine⟨rfl,?_⟩;refine jA [some (.int (k:Int)),none,none,none,none] (λC hC=>⟨_,rfl,(k:Int),2,6,rfl,by omega,by omega,hC⟩) ?_;refine ji (λoV h'=> ∃R,oV= [some (.int (k:Int)),some (.lst R),none,none,none]/\h R=none/\h'=wb h R (((G0 (k-1)).map λi=>(G0 k).map λj=>if j=i+1 then (1:Int) else 0).map Jr)) (λC hC=> ?_) ?_
 ·refine lcA (G0 (k-1)) (λi=> .int (i:Int)) (λi=>Jr ((G0 k).map λj=>if j=i+1 then (1:Int) else 0)) (by rw [G5];omega) rfl (λR r=>⟨_,rfl,((k-1:Nat):Int),by rw [show ((k-1:Nat):Int)=(k:Int)-1 by omega],by omega,by omega,r⟩) (λi hi Q' q'=> ?_) (λp hp=>hC _ _ ⟨p,rfl,hp,by rw [R3];rfl⟩);refine QZ (G0 k) (λj=> .int (j:Int)) (λj=> .int (if j=i+1 then 1 else 0)) (by rw [G5];omega) rfl (λR r=>⟨_,rfl,(k:Int),rfl,by omega,by omega,r⟩) (λj hj Q'' q''=>⟨_,rfl,_,rfl,_,rfl,?_⟩) ?_
  ·by_cases z:j=i+1
   ·subst z;rw [if_pos rfl] at q'';rw [decide_eq_true (by omega)];exact vq q''
   ·rw [if_neg z] at q'';rw [decide_eq_false (by omega)];exact wO q''
  ·unfold Jr at q';rw [R3] at q';exact q'
 rintro _ _ ⟨R,rfl,fR,rfl⟩;refine ji (λoV h'=>oV= [some (.int (k:Int)),some (.lst R),some (Jr ((G0 k).map λj=>if j<2 then (1:Int) else 0)),none,none]/\wb h R (((G0 (k-1)).map λi=>(G0 k).map λj=>if j=i+1 then (1:Int) else 0).map Jr)=h') (λC hC=> ?_) ?_
 ·refine QZ (G0 k) (λj=> .int (j:Int)) (λj=> .int (if j<2 then 1 else 0)) (by rw [G5];omega) rfl (λR r=>⟨_,rfl,(k:Int),rfl,by omega,by omega,r⟩) (λj hj Q'' q''=>⟨_,rfl,_,rfl,?_⟩) (hC _ _ ⟨by unfold Jr;rw [R3];rfl,rfl⟩);refine Ny (λc=> ?_) (λc=> ?_)
  ·have c':(j:Int)<2:=of_decide_eq_true c;rw [if_pos (by omega)] at q'';exact q''
  ·have c': ¬ (j:Int)<2:=λz=>c (decide_eq_true z)
   rw [if_neg (by omega)] at q'';exact q''
 rintro _ _ ⟨rfl,rfl⟩;refine⟨_,rfl,_,jc,_,rfl,sz1,?_,h,Sub.newAt (Sub.refl h) fR,?_⟩
 ·simp only [G2,G5,R0,M1];exact R1 (jw (by omega))
 ·have e:jq (SR k)= .tup (((G0 (k-1)).map λi=>(G0 k).map λj=>if j=i+1 then (1:Int) else 0).map Jr++ [Jr ((G0 k).map λj=>if j<2 then (1:Int) else 0)]):=by unfold jq SR;rw [S5];rfl
  rw [ST h2 h6] at e;rw [<-e];exact q
def wf:RDn:=λds h Q=> ∃n:Nat,ds= [.int (n:Int)]/\1<=n/\n<=6/\Q (.int (((n:Int)-1)*((n:Int)-1)+1)) h
theorem YW (Z:Zs mg)(F:Fun K "slowest_power" "slowest_power" yP f fd)(jR:jg P w K mg base n "want_number" ["thing","least","most"] zC)(zm: ∃tk,mg "MOST_ROWS" =some (.int 6 tk)):FnOk P w K mg base CX0 (n+1) f fd ["size"] (LSp K wf):=by
 obtain⟨tk_MOST_ROWS,m_MOST_ROWS⟩:=zm;refine F.okM YT (λhr=>(jd (zT (jk jR hr (j3 (jv 0) jF (Mw rfl m_MOST_ROWS)))) (by exact(jf (jZ (jop wt (jop WP (jop yr (jv 0) jF) (jop yr (jv 0) jF)) jF)))))) ?_;rintro ds h Q ⟨k,rfl,h1,h6,q⟩;refine⟨rfl,?_⟩;refine⟨_,rfl,(k:Int),1,6,rfl,by omega,by omega,_,rfl,_,rfl,M5 ⟨by omega,by omega⟩,h,Sub.refl h,q⟩
def yp (n:Nat)(T:List (List Int)):Nat:=((G0 n).filter λi=>decide (ent T i i≠0)).length
def FH (n:Nat)(T:List (List Int)):Bool:=decide (jO n T=jO n (vj n T))
def Ma (n:Nat)(T:List (List Int)):List Int:= [((n:Int)-1)*((n:Int)-1)+1]++(if 0<yp n T then [2*(n:Int)-(yp n T:Int)-1] else [])++(if FH n T=true then [2*(n:Int)-2] else [])
def Xz (n:Nat)(T:List (List Int)):Int:=if Xm (Ma n T)>1 then Xm (Ma n T) else 1
theorem Fi {l:List Int}{m:Int}(h1:m∈l)(h2: ∀x∈l,m<=x):m=Xm l:=by
 have ne:l≠ []:=λz=>by rw [z] at h1;cases h1
 have a:=Xn ne;have:=h2 _ a.1;have:=a.2 _ h1;omega
def YG:RDn:=λds h Q=> ∃T,∃n e k:Nat,ds= [jq T]/\Sq n e T/\1<=n/\n<=6/\e<=1000/\Fst n T (some k)/\Q (.int (Xz n T)) h
theorem Ph (Z:Zs mg)(F:Fun K "bound_for" "bound_for" ZU f fd)(jh:jg P w K mg base n "want_table" ["thing"] jB)(wG:jg P w K mg base n "want_first_power" ["table"] wo)(zM:jg P w K mg base n "slowest_power" ["size"] wf)(Yq:jg P w K mg base n "marks" ["table"] Vm)(QR:jg P w K mg base n "turned" ["table"] Us):FnOk P w K mg base CX0 (n+1) f fd ["table"] (LSp K YG):=by
 refine F.okM yb (λhr=>(jd (zT (jk jh hr (j1 (jv 0)))) (by exact(jd (zT (jk wG hr (j1 (jv 0)))) (by exact(jd (jse 1 yb (Jo Z (jv 0))) (by exact(jd (jse 2 yb (PR (j1 (jk zM hr (j1 (jv 1)))))) (by exact(jd (jse 3 yb (Jo Z (jl1 4 yb (jrg Z (jv 1)) (λ_ _ _ _=>(jt1 oq_ne (ji1 (ji1 (jv 0) (jv 4)) (jv 4)) jF)) (λ_ _ _ _=>(jv 4))))) (by exact(jd (Zn (jt1 Le (jv 3) jF) (jf (zT (EH (jv 2) (jop yr (jop yr (jop WP jF (jv 1)) (jv 3)) jF)))) jN) (by exact(jd (Zn (jt1 (Jc hr.units) (jk Yq hr (j1 (jv 0))) (jk Yq hr (j1 (jk QR hr (j1 (jv 0)))))) (jf (zT (EH (jv 2) (jop yr (jop WP jF (jv 1)) jF)))) jN) (by exact(jf (jZ (ze (Ai rfl) rfl Z.max (by decide +kernel) (j2 jF (ze (EX rfl) rfl Z.min (by decide +kernel) (j1 (jv 2)))))))))))))))))))))) ?_;rintro ds h Q ⟨T,n,b,k,rfl,hT,h1,h6,hb,ho,q⟩;refine⟨rfl,?_⟩;refine jA [some (jq T),none,none,none,none] (λC hC=>⟨_,rfl,T,n,b,rfl,hT,h1,h6,hC⟩) ?_;refine jA [some (jq T),none,none,none,none] (λC hC=>⟨_,rfl,T,n,b,k,rfl,hT,h1,h6,hb,ho,hC⟩) ?_;refine ji (λoV h'=>oV= [some (jq T),some (.int (n:Int)),none,none,none]/\h=h') (λC hC=>⟨_,rfl,hC _ _ ⟨by rw [G2,hT.len];rfl,rfl⟩⟩) ?_;rintro _ _ ⟨rfl,rfl⟩;refine ji (λoV h'=> ∃B,oV= [some (jq T),some (.int (n:Int)),some (.lst B),none,none]/\h B=none/\Sub h h'/\h' B=some (([((n:Int)-1)*((n:Int)-1)+1]:List Int).map D.int)) (λC hC=>⟨_,rfl,n,rfl,h1,h6,sz1,λB eB=>hC _ _ ⟨B,rfl,eB,Sub.newAt (Sub.refl h) eB,jc⟩⟩) ?_;rintro _ h2 ⟨B,rfl,fB,sb,kB⟩;refine ji (λoV h'=>oV= [some (jq T),some (.int (n:Int)),some (.lst B),some (.int (yp n T:Int)),none]/\Sub h h'/\h' B=some (([((n:Int)-1)*((n:Int)-1)+1]:List Int).map D.int)) (λC hC=> ?_) ?_
 ·show vL (bN 4) [4] (iR1 (zh (Rj 1) Zv)) (WO (dOp neD (dOp ixD (dOp ixD (Rj 0) (Rj 4)) (Rj 4)) (dC (D.int 0)))) (Rj 4) [some (jq T),some (.int (n:Int)),some (.lst B),none,none] h2 (λx h1=>Ew [x] h1 λy h3=>C ([some (jq T),some (.int (n:Int)),some (.lst B),none,none].set 3 (some y)) h3);refine lcF (G0 n) (λj=> .int (j:Int)) (λj=> .int (j:Int)) (λi=>decide (ent T i i≠0)) (by rw [G5];omega) rfl (λR r=>⟨_,rfl,(n:Int),rfl,by omega,by omega,r⟩) (λi hi Q' q'=> ?_) (λi hi _ Q' q'=>⟨_,rfl,q'⟩) (λp ep=> ?_)
  ·have hi':=G8.mp hi;refine⟨_,rfl,_,rfl,_,yi hT hi',_,rfl,_,yj (hT.row _ (Sq.getRow hT hi')) hi',_,rfl,?_⟩;have e4:(!decide (((T.getD i []).getD i 0)=0))=decide (ent T i i≠0):=by
    show (!decide (ent T i i=0))=_
    by_cases z:ent T i i=0<;>simp [z]
   rw [e4];exact q'
  ·exact⟨_,jc,hC _ _ ⟨by rw [G2];rfl,Sub.newAt sb ep,ju kB ep⟩⟩
 clear sb kB;rintro _ h3 ⟨rfl,sb,kB⟩;refine ji (λoV h'=>oV= [some (jq T),some (.int (n:Int)),some (.lst B),some (.int (yp n T:Int)),none]/\Sub h h'/\h' B=some (([((n:Int)-1)*((n:Int)-1)+1]++(if 0<yp n T then [2*(n:Int)-(yp n T:Int)-1] else [])).map D.int)) (λC hC=> ?_) ?_
 ·by_cases z:0<yp n T
  ·rw [if_pos z] at hC;refine⟨_,rfl,_,rfl,?_⟩;show if decide ((0:Int)<((yp n T:Nat):Int))=true then _ else _
   rw [decide_eq_true (show (0:Int)<((yp n T:Nat):Int) by omega)];exact vq ⟨_,rfl,B,rfl,_,rfl,.inl ⟨by decide,by decide⟩,_,rfl,_,kB,(by show 1<sizeLine;decide),hC _ _ ⟨rfl,((sb).over fB),jc⟩⟩
  ·rw [if_neg z,B7] at hC;refine⟨_,rfl,_,rfl,?_⟩;show if decide ((0:Int)<((yp n T:Nat):Int))=true then _ else _
   rw [decide_eq_false (show ¬ (0:Int)<((yp n T:Nat):Int) by omega)];exact wO (hC _ _ ⟨rfl,sb,kB⟩)
 clear sb kB;rintro _ h4 ⟨rfl,sb,kB⟩;have l2:([((n:Int)-1)*((n:Int)-1)+1]++(if 0<yp n T then [2*(n:Int)-(yp n T:Int)-1] else [])).length<=2:=by split<;>simp
 refine ji (λoV h'=>oV= [some (jq T),some (.int (n:Int)),some (.lst B),some (.int (yp n T:Int)),none]/\Sub h h'/\h' B=some ((Ma n T).map D.int)) (λC hC=> ?_) ?_
 ·refine⟨_,rfl,T,n,b,rfl,hT,h1,h6,_,rfl,T,n,b,rfl,hT,h1,h6,vj n T,n,b,rfl,hT.turn,h1,h6,?_⟩;refine Se ⟨_,rfl,?_⟩;show if FH n T=true then _ else _
  unfold Ma at hC;cases hs:FH n T with
  |true=>
   rw [hs,if_pos rfl] at hC;refine vq ⟨_,rfl,B,rfl,_,rfl,.inl ⟨by decide,by decide⟩,_,kB,?_,hC _ _ ⟨rfl,((sb).over fB),?_⟩⟩
   ·rw [G2];exact jw (by omega)
   ·rw [jc];simp
  |false=>
   rw [hs,if_neg (show ¬(false=true) by decide),B7] at hC;exact wO (hC _ _ ⟨rfl,sb,kB⟩)
 clear sb kB;rintro _ h5 ⟨rfl,sb,kB⟩;refine⟨_,rfl,Ma n T,h5,by unfold Ma;simp,Sub.refl _,.inr ⟨B,rfl,kB⟩,λm m1 m2=> ?_⟩;rw [Fi m1 m2];exact⟨h,sb,q⟩
def XA:RDn:=λds h Q=> ∃T,∃n e:Nat,ds= [jq T]/\Sq n e T/\n<=6/\ ∀R rs h',GB n h h' R rs (wk T n)->Q (.lst R) h'
theorem Ni (Z:Zs mg)(F:Fun K "reaches" "reaches" Uk f fd):FnOk P w K mg base CX0 (n+1) f fd ["table"] (LSp K XA):=by
 refine F.okM wW (λhr=>(jd (jse 1 wW (Jo Z (jv 0))) (by exact(jd (Ro (i:=4) (k:=2) (js:= [4]) rfl wW.nd rfl (M5 rfl) (jG (by rfl)) (jrg Z (jv 1)) (by decide) rfl (by first|exact M5 rfl|exact F6 rfl) (λX' hX=>zH) (λX' hX=>by obtain⟨C,s₀,H₀,ex,rfl⟩:=hX;exact(jl0 5 wW (jrg Z (jv 1)) (λ_ _ _ _=>(jor (jc1 (Jc hr.units) (jv 4) (jv 5)) (Mz (jc1 oq_ne (ji1 (ji1 (jv 0) (jv 4)) (jv 5)) jF))))))) (by exact(jd (Nz N5 rfl (jrg Z (jv 1)) (jgn 3 wW) (jf (Nz N5 rfl (jrg Z (jv 1)) (jgn 4 wW) (jf (Nz N5 rfl (jrg Z (jv 1)) (jgn 5 wW) (jf (Zn (jpt (Lo (wx (ji1 (ji1 (jv 2) (jv 4)) (jv 3))) (Ln (wx (ji1 (ji1 (jv 2) (jv 3)) (jv 5)))))) (jf (Bw jbl (Gt (ji1 (jv 2) (jv 4)) (jv 5)))) jN))))))) (by exact(jf (jZ (jv 2)))))))))) ?_;rintro ds h Q ⟨T,n,b,rfl,hT,h6,q⟩;refine⟨rfl,?_⟩;refine ji (λoV h'=>oV= [some (jq T),some (.int (n:Int)),none,none,none,none]/\h=h') (λC hC=>⟨_,rfl,hC _ _ ⟨by rw [G2,hT.len];rfl,rfl⟩⟩) ?_;rintro _ _ ⟨rfl,rfl⟩;refine ji (λoV h'=> ∃R rs u v w,oV= [some (jq T),some (.int (n:Int)),some (.lst R),u,v,w]/\GB n h h' R rs (wk T 0)) (λC hC=> ?_) ?_
 ·refine Rm (h1:=h) n (λi ys h'=> ∃rs,ys=rs.map D.lst/\rs.length=i/\Sub h h'/\rs.Nodup/\ ∀m a,rs[m]? =some a->h a=none/\h' a=some ((G0 n).map λj=>D.bl (wk T 0 m j))) (by omega) (λR r=>⟨_,rfl,r⟩) ⟨[],rfl,rfl,Sub.refl h,mN,by simp⟩ (λi ys h' ⟨rs,e,el,_⟩=>by rw [e,G2];exact el) ?_ ?_
  ·rintro i ys h3 hi ⟨rs,rfl,lrs,sb3,nd3,rows3⟩;refine lcA (G0 n) (λj=> .int (j:Int)) (λj=> .bl (wk T 0 i j)) (by rw [G5];omega) rfl (λR r=>⟨_,rfl,(n:Int),rfl,by omega,by omega,r⟩) (λj hj Q' q'=>⟨_,rfl,_,rfl,_,rfl,?_⟩) (λp5 e5=> ?_)
   ·have hj:=G8.mp hj;have q':Q' (.bl (decide (i=j)|| !decide (ent T i j=0))) h3:=q';have ed:decide ((i:Int)=(j:Int))=decide (i=j):=by rw [T7,decide_eq_true_iff,decide_eq_true_iff];omega
    rw [ed]
    by_cases c:i=j
    ·rw [decide_eq_true c] at q' ⊢;exact vq q'
    ·rw [decide_eq_false c] at q' ⊢;exact wO ⟨_,rfl,_,rfl,_,yi hT hi,_,rfl,_,yj (hT.row _ (Sq.getRow hT hi)) hj,q'⟩
   ·refine⟨_,Sub.refl _,by omega,rs++ [p5],by rw [S5];rfl,by rw [P2,lrs];rfl,Sub.newAt sb3 e5,?_,λm a ha=> ?_⟩
    ·rw [V1];refine⟨nd3,by simp,λa ha b hb z=> ?_⟩;rw [G9.mp hb] at z;subst z;obtain⟨m,hm⟩:=bM ha;rw [(rows3 m _ hm).2] at e5;cases e5
    ·by_cases hm:m<rs.length
     ·rw [R4 hm] at ha;exact⟨(rows3 m a ha).1,ju (rows3 m a ha).2 e5⟩
     ·rw [D3 (by omega)] at ha;have em:m-rs.length=0:=by
       have:=(P3.mp ha).1;simp at this;omega
      rw [em] at ha;have ea:p5=a:=by simpa using ha
      subst ea;have:m=i:=by omega
      subst this;exact⟨Qi sb3 e5,jc⟩
  ·rintro ys h3 ⟨rs,rfl,lrs,sb3,nd3,rows3⟩ R eR;refine hC _ _ ⟨R,rs,_,_,_,rfl,jc,lrs,λhR=> ?_,nd3,Sub.newAt sb3 eR,λi a ha=>⟨(rows3 i a ha).1,ju (rows3 i a ha).2 eR⟩⟩;obtain⟨m,hm⟩:=bM hR;rw [(rows3 m _ hm).2] at eR;cases eR
 rintro _ h3 ⟨R,rs,u,v,w,rfl,G⟩;refine ji (λoV h'=> ∃u v w,oV= [some (jq T),some (.int (n:Int)),some (.lst R),u,v,w]/\GB n h h' R rs (wk T n)) (λC hC=> ?_) ?_
 ·refine ZI n (λk oV h'=> ∃u v w,oV= [some (jq T),some (.int (n:Int)),some (.lst R),u,v,w]/\GB n h h' R rs (wk T k)) (by omega) (λR r=>⟨_,rfl,r⟩) ⟨u,v,w,rfl,G⟩ (λoV h' z=>hC _ _ z) ?_;clear G;rintro k _ h4 hk ⟨u,v,w,rfl,G⟩;refine ZI n (λi oV h'=> ∃v w,oV= [some (jq T),some (.int (n:Int)),some (.lst R),some (.int (k:Int)),v,w]/\GB n h h' R rs (fW T k i 0)) (by omega) (λR r=>⟨_,rfl,r⟩) ⟨v,w,rfl,G.as λx y _ _=>Sv T k x y⟩ (λoV h' ⟨v,w,e,G⟩=>⟨_,Sub.refl _,by omega,_,v,w,e,G.as λx y hx _=>KP T k x y hx⟩) ?_;clear G;rintro i _ h5 hi ⟨v,w,rfl,G⟩;refine ZI n (λj oV h'=> ∃w,oV= [some (jq T),some (.int (n:Int)),some (.lst R),some (.int (k:Int)),some (.int (i:Int)),w]/\GB n h h' R rs (fW T k i j)) (by omega) (λR r=>⟨_,rfl,r⟩) ⟨w,rfl,G⟩ (λoV h' ⟨w,e,G⟩=>⟨_,Sub.refl _,by omega,_,w,e,G.as λx y _ hy=>Su T k i x y hy⟩) ?_;clear G;rintro j _ h6' hj ⟨w,rfl,G⟩;obtain⟨a,ha,a1,a2⟩:=G.pick hi;obtain⟨c,hc,c1,c2⟩:=G.pick hk;refine⟨_,rfl,_,rfl,_,_,G.at_,a1,_,rfl,_,_,a2,RO hk,_,rfl,?_⟩;rw [KM];refine Ny (λz1=> ?_) λz1=> ?_
  ·refine⟨_,rfl,_,rfl,_,_,G.at_,c1,_,rfl,_,_,c2,RO hj,_,rfl,?_⟩;rw [KN];refine Ny (λz2=> ?_) λz2=> ?_
   ·exact⟨_,rfl,_,rfl,_,_,G.at_,a1,_,rfl,a,(j:Int),_,j,rfl,rfl,a2,Db (by rw [G2,G5];exact hj),_,Sub.refl _,by omega,_,rfl,(G.put ha).as λx y _ _=>KO z1 z2 x y⟩
   ·exact⟨_,Sub.refl _,by omega,_,rfl,G.as λx y _ _=>CF (λz=>z2 z.2) x y⟩
  ·exact⟨_,Sub.refl _,by omega,_,rfl,G.as λx y _ _=>CF (λz=>z1 z.1) x y⟩
 rintro _ h4 ⟨u,v,w,rfl,G⟩;exact⟨_,rfl,_,Sub.refl _,q R rs h4 G⟩
def YH:RDn:=λds h Q=> ∃R rs h0 T,∃n:Nat,ds= [.lst R]/\GB n h0 h R rs (wk T n)/\n<=6/\ ∀A h',h A=none->h' A=some ((UR T n).map jC)->Sub h h'->Q (.lst A) h'
theorem Pi (Z:Zs mg)(F:Fun K "pieces_by" "pieces_by" ZV f fd):FnOk P w K mg base CX0 (n+1) f fd ["come"] (LSp K YH):=by
 refine F.okM wv (λhr=>(jd (jse 1 wv (Jo Z (jv 0))) (by exact(jd (jse 2 wv (PR Gs)) (by exact(jd (Nz N5 rfl (jrg Z (jv 1)) (jgn 3 wv) (jd (jse 4 wv (jM jH rfl Z.tuple (by decide +kernel) (j1 (jl1 5 wv (jrg Z (jv 1)) (λ_ _ _ _=>(jpt (Lo (wx (ji1 (ji1 (jv 0) (jv 3)) (jv 5))) (Ln (wx (ji1 (ji1 (jv 0) (jv 5)) (jv 3))))))) (λ_ _ _ _=>(jv 5)))))) (by exact(jf (Zn (jt1 (Jc hr.units) (ji1 (jv 4) jF) (jv 3)) (jf (zT (EH (jv 2) (jv 4)))) jN))))) (by exact(jf (jZ (jv 2)))))))))) ?_;rintro ds h Q ⟨R,rs,h0,T,n,rfl,G,h6,q⟩;refine⟨rfl,?_⟩;refine ji (λoV h'=>oV= [some (.lst R),some (.int (n:Int)),none,none,none,none]/\h=h') (λC hC=> ?_) ?_
 ·exact⟨_,rfl,_,G.at_,hC _ _ ⟨by rw [G2,G.len];rfl,rfl⟩⟩
 rintro _ _ ⟨rfl,rfl⟩;refine ji (λoV h'=> ∃A,oV= [some (.lst R),some (.int (n:Int)),some (.lst A),none,none,none]/\h A=none/\Sub h h'/\h' A=some []) (λC hC=>⟨sz0,λA eA=>hC _ _ ⟨A,rfl,eA,Sub.newAt (Sub.refl h) eA,jc⟩⟩) ?_;rintro _ h1 ⟨A,rfl,nA,sb,kA⟩;refine ji (λoV h'=> ∃u v w,oV= [some (.lst R),some (.int (n:Int)),some (.lst A),u,v,w]/\Sub h h'/\h' A=some ((UR T n).map jC)) (λC hC=> ?_) ?_
 ·refine ZI n (λk oV h'=> ∃u v w,oV= [some (.lst R),some (.int (n:Int)),some (.lst A),u,v,w]/\Sub h h'/\h' A=some (((((G0 k).filter (λp=>decide ((pcS T n p).headD 0=p))).map (pcS T n))).map jC)) (by omega) (λR r=>⟨_,rfl,r⟩) ⟨_,_,_,rfl,sb,kA⟩ (λoV h' z=>hC _ _ z) ?_;clear sb kA;rintro k _ h2 hk ⟨u,v,w,rfl,sb,kA⟩;have GG:=G.up sb;obtain⟨a,ha,a1,a2⟩:=GG.pick hk;refine ji (λoV h'=> ∃w,oV= [some (.lst R),some (.int (n:Int)),some (.lst A),some (.int (k:Int)),some (jC (pcS T n k)),w]/\h2=h') (λC hC=> ?_) ?_
  ·refine LU n (λj ys h'=>h'=h2/\ys=((G0 j).filter λi=>wk T n k i&&wk T n i k).map λ(i:Nat)=>D.int (i:Int)) (by omega) (λR r=>⟨_,rfl,r⟩) ⟨rfl,rfl⟩ (λj ys h' w=> ?_) (λj ys h' hj w=> ?_) (λys h' w=> ?_)
   ·rw [w.2,G2];exact R9 (C5 _ _) (by rw [G5];exact P0 _)
   ·obtain⟨rfl,rfl⟩:=w;obtain⟨c,hc,c1,c2⟩:=GG.pick hj;refine⟨_,rfl,_,rfl,_,_,GG.at_,a1,_,rfl,_,_,a2,RO hj,_,rfl,Ny (λz1=> ?_) λz1=> ?_⟩
    ·refine⟨_,rfl,_,rfl,_,_,GG.at_,c1,_,rfl,_,_,c2,RO hk,_,rfl,Ny (λz2=> ?_) λz2=> ?_⟩
     ·refine⟨_,rfl,_,Sub.refl _,by omega,rfl,?_⟩;rw [B3,A8,S5,E2 (by rw [z1,z2];rfl)];rfl
     ·refine⟨_,Sub.refl _,by omega,rfl,?_⟩;rw [B3,A8,S5,K2 (by rw [M6];exact λz=>z2 z.2)];simp
    ·refine⟨_,Sub.refl _,by omega,rfl,?_⟩;rw [B3,A8,S5,K2 (by rw [M6];exact λz=>z1 z.1)];simp
   ·obtain⟨rfl,rfl⟩:=w;exact hC _ _ ⟨_,rfl,rfl⟩
  rintro _ _ ⟨w',rfl,rfl⟩;obtain⟨r,er⟩:=CL (T:=T) hk;have a0:((pcS T n k).map λ(i:Nat)=>D.int (i:Int))[0]? =some (.int (((pcS T n k).headD 0:Nat):Int)):=by
   cases z:pcS T n k with
   |nil=>rw [z] at er;cases er
   |cons x r=>rfl
  refine⟨_,rfl,_,zG (j:=0) a0,_,rfl,?_⟩;show ∃k_1,D.bl (decide ((((pcS T n k).headD 0:Nat):Int)=(k:Int)))= .bl k_1/\_;refine⟨_,rfl,Ny (λz=> ?_) λz=> ?_⟩
  ·have z:(pcS T n k).headD 0=k:=by have:=of_decide_eq_true z;omega
   refine⟨_,rfl,A,rfl,_,rfl,_,kA,?_,_,Sub.refl _,by omega,_,_,_,rfl,sb.over nA,?_⟩
   ·rw [G2,G2];exact jw (R9 (C5 _ _) (by rw [G5];omega))
   ·rw [jc,B3,A8,E2 (by rw [decide_eq_true_iff];exact z),fG,S5,S5];rfl
  ·have z: ¬ (pcS T n k).headD 0=k:=λe=>z (decide_eq_true (by omega))
   refine⟨_,Sub.refl _,by omega,_,_,_,rfl,sb,?_⟩;rw [kA,B3,A8,K2 (by rw [decide_eq_true_iff];exact z),fG,B7]
 rintro _ h4 ⟨u,v,w,rfl,sb4,k4⟩;exact⟨_,rfl,_,Sub.refl _,q A h4 nA k4 sb4⟩
def Pj:RDn:=λds h Q=> ∃T,∃n e:Nat,ds= [jq T]/\Sq n e T/\1<=n/\n<=6/\ ∀A h',h A=none->h' A=some ((UR T n).map jC)->Sub h h'->Q (.lst A) h'
theorem Fj (Z:Zs mg)(F:Fun K "pieces" "pieces" Qr f fd)(jh:jg P w K mg base n "want_table" ["thing"] jB)(DM:jg P w K mg base n "pieces_by" ["come"] YH)(Fu:jg P w K mg base n "reaches" ["table"] XA):FnOk P w K mg base CX0 (n+1) f fd ["table"] (LSp K Pj):=by
 refine F.okM CW (λhr=>(jd (zT (jk jh hr (j1 (jv 0)))) (by exact(jf (jZ (jk DM hr (j1 (jk Fu hr (j1 (jv 0)))))))))) ?_;rintro ds h Q ⟨T,n,b,rfl,hT,h1,h6,q⟩;refine⟨rfl,?_⟩;refine jA [some (jq T)] (λC hC=>⟨_,rfl,T,n,b,rfl,hT,h1,h6,hC⟩) ?_;exact⟨_,rfl,T,n,b,rfl,hT,h6,λR rs h2 G=>⟨R,rs,h,T,n,rfl,G,h6,λA h3 nA kA sb=>⟨_,Sub.refl _,q A h3 (Qi G.sb nA) kA ((G.sb).trans sb)⟩⟩⟩
def Pk:RDn:=λds h Q=> ∃T,∃n e:Nat,ds= [jq T]/\Sq n e T/\1<=n/\n<=6/\Q (.bl (decide ((UR T n).length=1))) h
theorem Fk (Z:Zs mg)(F:Fun K "joined" "joined" Qs f fd)(OT:jg P w K mg base n "pieces" ["table"] Pj):FnOk P w K mg base CX0 (n+1) f fd ["table"] (LSp K Pk):=by
 refine F.okM CY (λhr=>(jf (jZ (jc1 oq_eq (Jo Z (jk OT hr (j1 (jv 0)))) jF)))) ?_;rintro ds h Q ⟨T,n,b,rfl,hT,h1,h6,q⟩;refine⟨rfl,?_⟩;refine⟨_,rfl,T,n,b,rfl,hT,h1,h6,λA h2 nA kA sb=>⟨_,kA,?_⟩⟩;show ∃h0,Sub h0 h2/\Q (.bl (decide (((((UR T n).map jC).length:Nat):Int)=1))) h0;refine⟨h,sb,?_⟩;rw [G2,show decide ((((UR T n).length:Nat):Int)=1)=decide ((UR T n).length=1) from by rw [T7,decide_eq_true_iff,decide_eq_true_iff];omega];exact q
theorem ifT {c:Bool}{A B:Prop}(e:c=true)(a:A):if c=true then A else B:=by rw [if_pos e];exact a
theorem ifF {c:Bool}{A B:Prop}(e:c=false)(b:B):if c=true then A else B:=by subst e;exact b
def Jh:RDn:=λds h Q=> ∃a b:Nat,ds= [.int (a:Int),.int (b:Int)]/\Q (.int ((aG a b:Nat):Int)) h
theorem YX (Z:Zs mg)(F:Fun K "greatest_into" "greatest_into" yQ f fd):FnOk P w K mg base CX0 (n+1) f fd ["one","other"] (LSp K Jh):=by
 refine F.okM Jj (λhr=>(jd (GA N5 (jt1 oq_ne (jv 1) jF) (jf (uL (i:=0) (j:=1) rfl Jj.nd rfl rfl (by decide) rfl rfl (j2 (jv 1) (jop Zw (jv 0) (jv 1))) rfl))) (by exact(jf (jZ (jv 0)))))) ?_;rintro ds h Q ⟨a,b,rfl,q⟩;refine⟨rfl,?_⟩;refine ji (λoV h'=> ∃d,oV= [some (.int ((aG a b:Nat):Int)),d]/\h=h') (λC hC=> ?_) ?_
 ·refine Wl (λm oV h'=> ∃x:Nat,oV= [some (.int (x:Int)),some (.int (m:Int))]/\h=h'/\aG x m=aG a b) b ⟨a,rfl,rfl,rfl⟩ ?_;rintro m _ _ ⟨x,rfl,rfl,hg⟩;refine⟨_,rfl,_,rfl,?_⟩
  by_cases z:m=0
  ·subst z;rw [hO] at hg;subst hg;exact ifF (by decide) (hC _ _ ⟨_,rfl,rfl⟩)
  ·refine ifT (congrArg not (decide_eq_false (show ¬ (m:Int)=0 by omega))) ⟨_,rfl,_,rfl,_,rfl,(by omega:(0:Int)<(m:Int)),_,_,rfl,x%m,_,F9 _ (by omega),Sub.refl _,m,?_,rfl,?_⟩
   ·rw [Z4];rfl
   ·rw [nN,<-Nat.gcd_rec,nN];exact hg
 rintro _ _ ⟨d,rfl,rfl⟩;exact⟨_,rfl,h,Sub.refl h,q⟩
theorem Fl (w:List Nat):((yU T n (w.getLastD 0)).filter λj=>decide (w.headD 0<j)&& !decide (j∈w)).map (λj=>jC (w++ [j]))=(ks (Jm T) n w).map jC:=by
 unfold ks yU;rw [List.filter_filter,R3];have:(λj=>(decide (w.headD 0<j)&& !decide (j∈w))&&decide (ent T (w.getLastD 0) j>0))=Sx (Jm T) w:=by
  funext j
  unfold Sx Jm;rw [Bool.and_comm]
 rw [this];rfl
theorem Mb {t:Nat}:((lev (Jm T) n t).flatMap λw=>((yU T n (w.getLastD 0)).filter λj=>decide (w.headD 0<j)&& !decide (j∈w)).map λj=>jC (w++ [j]))=(lev (Jm T) n (t+1)).map jC:=by
 show _=((lev (Jm T) n t).flatMap (ks (Jm T) n)).map jC;rw [List.map_flatMap];exact congrArg (λf=>(lev (Jm T) n t).flatMap f) (funext λw=>Fl w)
def vY:RDn:=λds h Q=> ∃T,∃n e:Nat,ds= [jq T]/\Sq n e T/\1<=n/\n<=6/\ ∀A h',h A=none->h' A=some ((rounds T n).map jC)->Sub h h'->Q (.lst A) h'
theorem QK (Z:Zs mg)(F:Fun K "all_rounds" "all_rounds" JM f fd)(jh:jg P w K mg base n "want_table" ["thing"] jB)(UB:jg P w K mg base n "heads" ["table","place"] Vn):FnOk P w K mg base CX0 (n+1) f fd ["table"] (LSp K vY):=by
 refine F.okM zQ (λhr=>(jd (zT (jk jh hr (j1 (jv 0)))) (by exact(jd (jse 1 zQ (PR Gs)) (by exact(jd (Ro (i:=3) (k:=2) (js:= [3]) rfl zQ.nd rfl (M5 rfl) (jG (by rfl)) (jrg Z (Jo Z (jv 0))) (by decide) rfl (by first|exact M5 rfl|exact F6 rfl) (λX' hX=>zH) (λX' hX=>by obtain⟨C,s₀,H₀,ex,rfl⟩:=hX;exact(FG (j1 (jv 3))))) (by exact(jd (GA N5 (xa (jv 2)) (jd (jse 1 zQ (jop wt (jv 1) (jl1 4 zQ (jY (jv 2)) (λ_ _ _ _=>(jt1 oq_ne (ji1 (ji1 (jv 0) (ji1 (jv 4) (Lp jF))) (ji1 (jv 4) jF)) jF)) (λ_ _ _ _=>(jv 4))))) (by exact(jf (Sw (i:=4) (i':=5) (k:=2) (js:= [4,5]) rfl zQ.nd rfl (M5 rfl) (jG (by rfl)) (jY (jv 2)) (by decide) (by decide) (by decide) rfl rfl (by first|exact M5 rfl|exact F6 rfl) (by first|exact M5 rfl|exact F6 rfl) (λX' hX=>zH) (λX' hX=>by obtain⟨C,s₀,H₀,ex,rfl⟩:=hX;exact(jY (jk UB hr (j2 (jv 0) (ji1 (jv 4) (Lp jF)))))) (λX' hX=>by obtain⟨C,s₀,H₀,ex,rfl⟩:=hX;exact VB (jpt (Lo (jt1 Le (jv 5) (ji1 (jv 4) jF)) (Ln (Bs (Qb hr.units) (jv 5) (jv 4) (by with_unfolding_all rfl)))))) (λX' hX=>by obtain⟨C,s₀,H₀,ex,rfl⟩:=hX;exact(jop wt (jv 4) (FG (j1 (jv 5)))))))))) (by exact(jf (jZ (ze (MY hr) rfl Z.sorted (by decide +kernel) (j1 (jv 1)))))))))))))) ?_;rintro ds h Q ⟨T,n,b,rfl,hT,h1,h6,q⟩;refine⟨rfl,?_⟩;refine jA [some (jq T),none,none,none,none,none] (λC hC=>⟨_,rfl,T,n,b,rfl,hT,h1,h6,hC⟩) ?_;refine ji (λoV h'=> ∃A,oV= [some (jq T),some (.lst A),none,none,none,none]/\h' A=some []/\Sub h h') (λC hC=>⟨sz0,λA eA=>hC _ _ ⟨A,rfl,jc,Sub.newAt (Sub.refl h) eA⟩⟩) ?_;rintro _ h2 ⟨A,rfl,kA,sA⟩;refine ji (λoV h'=> ∃B c,oV= [some (jq T),some (.lst A),some (.lst B),c,none,none]/\h' A=some ((Xu (Jm T) n 0).map jC)/\h' B=some ((lev (Jm T) n 0).map jC)/\Sub h h') (λC hC=> ?_) ?_
 ·refine lcA (G0 n) (λj=> .int (j:Int)) (λi=>jC [i]) (by rw [G5];omega) rfl (λR r=>⟨_,rfl,(n:Int),by rw [G2,hT.len],by omega,by omega,r⟩) (λj hj Q' q'=>⟨_,rfl,sz1,q'⟩) (λB eB=>hC _ _ ⟨B,_,rfl,ju kA eB,?_,Sub.newAt sA eB⟩);rw [jc];show _=some (((G0 n).map λi=> [i]).map jC);rw [R3];rfl
 rintro _ h3 ⟨B,c,rfl,kA,kB,sb⟩;refine ji (λoV h'=> ∃A B c,oV= [some (jq T),some (.lst A),some (.lst B),c,none,none]/\h' A=some ((Xu (Jm T) n n).map jC)/\Sub h h') (λC hC=> ?_) ?_
 ·refine Wl (λm oV h'=> ∃ (t:Nat) (A B:Addr) (c:Option D),oV= [some (jq T),some (.lst A),some (.lst B),c,none,none]/\m=n-t/\t<=n/\h' A=some ((Xu (Jm T) n t).map jC)/\h' B=some ((lev (Jm T) n t).map jC)/\Sub h h') n ⟨0,A,B,c,rfl,rfl,T4 _,kA,kB,sb⟩ ?_;clear kA kB sb;rintro m _ h4 ⟨t,A,B,c,rfl,rfl,tn,kA,kB,sb⟩;refine⟨_,rfl,!((lev (Jm T) n t).map jC).isEmpty,⟨_,kB,rfl⟩,?_⟩
  by_cases z:(lev (Jm T) n t)= []
  ·rw [z];refine wO (hC _ _ ⟨A,B,c,rfl,?_,sb⟩);have:=(GS (n-t) z).1;rw [show t+(n-t)=n by omega] at this;rw [this];exact kA
  ·have tl:t<n:=by
    rcases V2 t n with w|w
    ·exact w
    ·have:t=n:=by omega
     subst this;exact absurd (Sz h6) z
   have ll:=CG (g:=Jm T) h6 (show t<=6 by omega);have rl:=RR (g:=Jm T) h6 (show t<=6 by omega);have l2:=CG (g:=Jm T) h6 (show t+1<=6 by omega);rw [show (!((lev (Jm T) n t).map jC).isEmpty)=true from by cases e:(lev (Jm T) n t) with|nil=>exact absurd e z|cons _ _=>rfl];refine vq ?_;refine ji (λoV h'=> ∃A,oV= [some (jq T),some (.lst A),some (.lst B),c,none,none]/\h' A=some ((Xu (Jm T) n (t+1)).map jC)/\h' B=some ((lev (Jm T) n t).map jC)/\Sub h h') (λC hC=>⟨_,rfl,?_⟩) ?_
   ·refine lcF (j:=λh=>h B) (lev (Jm T) n t) jC jC (λw=>Jm T (w.getLastD 0) (w.headD 0)) (by omega) kB (λR r=>⟨_,rfl,r⟩) (λw hw Q' q'=> ?_) (λw hw _ Q' q'=>⟨_,rfl,q'⟩) (λF eF=>⟨_,_,ju kA eF,jc,?_,λp e=>hC _ _ ⟨p,rfl,?_,ju (ju kB eF) e,(((sb).newAt eF).newAt e)⟩⟩)
    ·have o:=Xt hw;have he:=o.lt _ (CH o.len);have hh:=o.lt _ (Ox o.len);refine⟨_,rfl,_,rfl,_,At o.len,_,yi hT he,_,rfl,_,RS o.len,_,yj (hT.row _ (Sq.getRow hT he)) hh,?_⟩;have nn:=(hT.ent_nn he hh).1;have:(!decide (ent T (w.getLastD 0) (w.headD 0)=0))=Jm T (w.getLastD 0) (w.headD 0):=by
      unfold Jm;rw [T7,decide_eq_true_iff,Bool.not_eq_true',decide_eq_false_iff_not];omega
     rw [<-this] at q';exact⟨_,rfl,q'⟩
    ·have:=C5 (λw=>Jm T (w.getLastD 0) (w.headD 0)) (lev (Jm T) n t);rw [G2,G2];exact R1 (jw (by omega))
    ·rw [jc];show _=some (((Xu (Jm T) n t)++(lev (Jm T) n t).filter λw=>Jm T (w.getLastD 0) (w.headD 0)).map jC);rw [S5]
   clear kA kB sb;rintro _ h5 ⟨A,rfl,kA,kB,sb⟩;refine KR (j:=λh=>h B) (lev (Jm T) n t) jC (λw=>yU T n (w.getLastD 0)) (λ(j:Nat)=> .int (j:Int)) (λw j=>decide (w.headD 0<j)&& !decide (j∈w)) (λw j=>jC (w++ [j])) ?_ (λh' s=>s _ _ kB) (λR r=>⟨_,rfl,r⟩) (λw hw h' s R r=> ?_) (λw hw j hj h' s Q' q'=> ?_) (λw hw j hj _ h' s Q' q'=> ?_) (λa h' s ea=> ?_)
   ·rw [Mb,G2];exact R1 (jw (by omega))
   ·have o:=Xt hw;exact⟨_,rfl,_,rfl,_,At o.len,T,n,b,w.getLastD 0,rfl,hT,h6,o.lt _ (CH o.len),λF eF=>r _ _ (Sub.newAt (Sub.refl _) eF) λh3 s3=>s3 _ _ jc⟩
   ·have o:=Xt hw;refine⟨_,rfl,_,rfl,_,RS o.len,?_⟩;show ∃k,D.bl (decide (((w.headD 0:Nat):Int)<(j:Int)))=D.bl k/\_;rw [show decide (((w.headD 0:Nat):Int)<(j:Int))=decide (w.headD 0<j) from by rw [T7,decide_eq_true_iff,decide_eq_true_iff];omega];refine⟨_,rfl,?_⟩
    by_cases c:w.headD 0<j
    ·rw [decide_eq_true c] at q' ⊢;exact vq ⟨_,rfl,_,rfl,So ⟨_,rfl,q'⟩⟩
    ·rw [decide_eq_false c] at q' ⊢;exact wO q'
   ·have o:=Xt hw;have e:jC (w++ [j])= .tup ((w.map λ(k:Nat)=>D.int (k:Int))++ [.int (j:Int)]):=by unfold jC;rw [S5];rfl
    rw [e] at q';refine⟨_,rfl,_,rfl,sz1,?_,q'⟩;rw [G2,o.len];exact R1 (jw (by simp only [R0,M1];omega))
   ·rw [Mb];exact⟨n-(t+1),_,by omega,Sub.refl _,t+1,A,a,_,rfl,rfl,by omega,ju (s _ _ kA) ea,jc,(((sb).trans s).newAt ea)⟩
 clear kA kB sb;rintro _ h4 ⟨A,B,c,rfl,kA,sb⟩;refine⟨_,rfl,A,(Xu (Jm T) n n).map toI,rfl,?_,?_,λp mss hp pm sr=>⟨_,Sub.refl _,q p _ (Qi sb hp) (by rw [jc,CC pm sr];rfl) (Sub.newAt sb hp)⟩⟩
 ·rw [kA,R3];exact congrArg some (S7 λS _=>(Aq S).symm)
 ·rw [G2];have:=RR (g:=Jm T) h6 h6;exact jw (by omega)
/-- the greatest number that goes into the lengths of all rounds -/
def OJ (T:List (List Int))(n:Nat):Nat:=((rounds T n).map W4).foldl aG 0
def Fm:RDn:=λds h Q=> ∃T,∃n e:Nat,ds= [jq T]/\Sq n e T/\1<=n/\n<=6/\(UR T n).length=1/\Q (.int ((OJ T n:Nat):Int)) h
theorem SU (Z:Zs mg)(F:Fun K "beat" "beat" CZ f fd)(OS:jg P w K mg base n "joined" ["table"] Pk)(JY:jg P w K mg base n "all_rounds" ["table"] vY)(Uz:jg P w K mg base n "greatest_into" ["one","other"] Jh):FnOk P w K mg base CX0 (n+1) f fd ["table"] (LSp K Fm):=by
 refine F.okM Qt (λhr=>(jd (Zn (yy (wx (jk OS hr (j1 (jv 0))))) (jf VC) jN) (by exact(jd (jse 1 Qt jF) (by exact(jd (Nz N5 rfl (jY (jk JY hr (j1 (jv 0)))) (jgn 2 Qt) (jf (jse 1 Qt (jk Uz hr (j2 (jv 1) (Jo Z (jv 2))))))) (by exact(jf (jZ (jv 1)))))))))) ?_;rintro ds h Q ⟨T,n,b,rfl,hT,h1,h6,one,q⟩;refine⟨rfl,?_⟩;refine jA [some (jq T),none,none] (λC hC=>⟨_,rfl,T,n,b,rfl,hT,h1,h6,_,rfl,?_⟩) ?_
 ·rw [decide_eq_true one];exact wO (hC)
 refine jA [some (jq T),some (.int 0),none] (λC hC=>hC) ?_;refine ji (λoV h'=> ∃v,oV= [some (jq T),some (.int ((OJ T n:Nat):Int)),v]/\Sub h h') (λC hC=>⟨_,rfl,T,n,b,rfl,hT,h1,h6,λA h2 nA kA sb=> ?_⟩) (λ_ h' ⟨v,e,sb⟩=>by subst e;exact⟨_,rfl,_,sb,q⟩);refine Jv (j:=λh=>h A) ((rounds T n).map jC) (λi oV h'=> ∃v,oV= [some (jq T),some (.int (((((rounds T n).take i).map W4).foldl aG 0:Nat):Int)),v]/\h2=h') (λi oV h' ⟨_,_,z⟩=>by rw [<-z];exact kA) ⟨_,rfl,rfl⟩ (λoV h' ⟨v,e,z⟩=>hC _ _ ⟨v,by rw [e,G2,Y8];rfl,by rw [<-z];exact sb⟩) ?_;rintro i d _ _ hi ⟨v,rfl,rfl⟩;rw [P1] at hi;obtain⟨W,hW,rfl⟩:=Option.map_eq_some_iff.mp hi;have hil:=(P3.mp hW).1;refine⟨_,rfl,_,rfl,_,_,rfl,_,Sub.refl _,by rw [G2];omega,some (jC W),?_,rfl⟩;rw [T8,hW,S5,List.foldl_append,G2];rfl
def NA (n:Nat)(T:List (List Int))(i j m:Nat):Bool:=decide (ent (zX n T m) i j=0)
def wN (n:Nat)(T:List (List Int))(i j L:Nat):Nat:=vA (NA n T i j) L+1
def yc:RDn:=λds h Q=> ∃A T,∃n i j L:Nat,ds= [.lst A,.int (i:Int),.int (j:Int)]/\i<n/\j<n/\L<=100/\h A=some ((G0 L).map λm=>jq (zX n T m))/\Q (.int (wN n T i j L:Int)) h
theorem JV (Z:Zs mg)(F:Fun K "behind_last_nought" "behind_last_nought" zS f fd):FnOk P w K mg base CX0 (n+1) f fd ["told","one","other"] (LSp K yc):=by
 refine F.okM yg (λhr=>(jf (jZ (jop wt jF (ze (PZ rfl) rfl Z.max (by decide +kernel) (j1 (jop wt (PR (j1 jF)) (Am (i:=3) (j:=4) (js:= [3,4]) rfl (jG (by rfl)) (RD rfl Z.enumerate (j1 (jv 0))) (by decide) (by decide) (by decide) yg.nd rfl rfl (by first|exact M5 rfl|exact F6 rfl) (by first|exact M5 rfl|exact F6 rfl) (λX' hX=>by obtain⟨C,s₀,H₀,ex,rfl⟩:=hX;exact VB (jt1 oq_eq (ji1 (ji1 (jv 4) (jv 1)) (jv 2)) jF)) (λX' hX=>by obtain⟨C,s₀,H₀,ex,rfl⟩:=hX;exact(jv 3)))))))))) ?_;rintro ds h Q ⟨A,T,n,i,j,L,rfl,hi,hj,hL,kA,q⟩;refine⟨rfl,?_⟩;refine⟨sz1,λp1 e1=> ?_⟩;refine uV (j:=λh=>(h A).map MQ) (G0 L) (λm=> .int ((m+1:Nat):Int)) (λm=>jq (zX n T m)) (λm=> .int ((m+1:Nat):Int)) (λm=>NA n T i j m) (by rw [G5];omega) ?_ (λR r=>⟨_,rfl,A,rfl,r⟩) (λm hm Q' q'=> ?_) (λm hm _ Q' q'=>⟨_,rfl,q'⟩) (λF eF=> ?_)
 ·show (wb h p1 _ A).map MQ=_;rw [ju kA e1];exact congrArg some (RE L _)
 ·have sI:=yL n T m;exact⟨_,rfl,_,rfl,_,yi sI hi,_,rfl,_,yj (sI.row _ (Sq.getRow sI hi)) hj,_,rfl,q'⟩
 ·refine⟨_,_,ju jc eF,jc,?_,λp3 e3=>⟨(0:Int)::((G0 L).filter (NA n T i j)).map (λi=>((i+1:Nat):Int)),_,by simp,Sub.refl _,.inr ⟨p3,rfl,?_⟩,λm m1 m2=>⟨h,((((Sub.refl _).newAt e1).newAt eF).newAt e3),?_⟩⟩⟩
  ·have:=C5 (λm=>NA n T i j m) (G0 L);rw [G5] at this;exact R1 (jw (by rw [G2];simp only [R0,M1];omega))
  ·rw [jc,T3,R3];rfl
  ·rw [Og m1 m2];have e:(1:Int)+((vA (NA n T i j) L:Nat):Int)=((wN n T i j L:Nat):Int):=by unfold wN;omega
   rw [e];exact q
def YI:RDn:=λds h Q=> ∃T,∃n e:Nat,ds= [jq T]/\Sq n e T/\1<=n/\n<=6/\Q (.bl (MU T)) h
theorem Pl (Z:Zs mg)(F:Fun K "rows_meet" "rows_meet" ZW f fd):FnOk P w K mg base CX0 (n+1) f fd ["table"] (LSp K YI):=by
 refine F.okM Zg (λhr=>(jf (jZ (ze (Ju rfl) rfl Z.all B0 (j1 (xY (i:=1) (i':=2) (js:= [1,2]) rfl (jG (by rfl)) (jY (jv 0)) (by decide) (by decide) (by decide) Zg.nd rfl rfl (by first|exact M5 rfl|exact F6 rfl) (by first|exact M5 rfl|exact F6 rfl) (λX' hX=>zH) (λX' hX=>by obtain⟨C,s₀,H₀,ex,rfl⟩:=hX;exact(jY (jv 0))) (λX' hX=>zH) (λX' hX=>by obtain⟨C,s₀,H₀,ex,rfl⟩:=hX;exact(ze (Aj rfl) rfl Z.any (by decide +kernel) (j1 (Am (i:=3) (j:=4) (js:= [3,4]) rfl (jG (by rfl)) (Rx rfl Z.zip (j2 (jv 1) (jv 2))) (by decide) (by decide) (by decide) Zg.nd rfl rfl (by first|exact M5 rfl|exact F6 rfl) (by first|exact M5 rfl|exact F6 rfl) (λX' hX=>zH) (λX' hX=>by obtain⟨C,s₀,H₀,ex,rfl⟩:=hX;exact(PC (jc1 oq_ne (jv 3) jF) (Mz (jc1 oq_ne (jv 4) jF)))))))))))))) ?_;rintro ds h Q ⟨T,n,b,rfl,hT,h1,h6,q⟩;refine⟨rfl,?_⟩;refine qe T Jr (λ_=>T) Jr (λr s=>(r.zip s).any λp=>decide (p.1≠0)&&decide (p.2≠0)) ?_ rfl (λR r=>⟨_,rfl,r⟩) (λr hr R rr=>⟨_,rfl,rr⟩) (λr hr s hs Q' q'=> ?_) ⟨h,Sub.refl h,q⟩
 ·have:(T.flatMap λ_=>T).length=n*n:=by
   rw [List.length_flatMap,List.map_const',List.sum_replicate_nat,hT.len]
  rw [this];exact R9 (fS h6 h6) (by decide)
 ·refine xg (j:=λ_=>some (PY (r.map D.int) (s.map D.int))) (r.zip s) (λp=> .int p.1) (λp=> .int p.2) (λp=>decide (p.1≠0)&&decide (p.2≠0)) (by rw [X3,hT.row r hr,hT.row s hs];omega) (congrArg some (Of r s)) (λR rr=>⟨_,rfl,_,rfl,_,_,rfl,rr⟩) (λp hp Q2 q2=> ?_) q';refine⟨_,rfl,_,rfl,?_⟩
  by_cases z:p.1=0
  ·rw [show decide (p.1=0)=true from decide_eq_true z];refine wO ?_;rw [show decide (p.1≠0)=false from decide_eq_false (λw=>w z)] at q2;exact q2
  ·rw [show decide (p.1=0)=false from decide_eq_false z];refine vq ⟨_,rfl,?_⟩;rw [show decide (p.1≠0)=true from decide_eq_true z,bI] at q2;have:(!decide (p.2=0))=decide (p.2≠0):=by simp
   show Q2 (.bl (!decide (p.2=0))) h;rw [this];exact q2
section
variable {n e:Nat}{T:List (List Int)}
theorem YJ (h:Sq n e T)(hn:n<=8){k L J:Nat}(ho:Fst n T (some k))(c:Course n T L J):L=k:=by
 obtain⟨k1,k30,fk,fl⟩:=ho;have fs: ∀i,k-1<=i->jP (zX n T i)=true:=λi hi=>by
  rw [Zm h hn];have:=XY h hn k1 fk (i+1-k);rw [show k+(i+1-k)=i+1 by omega] at this;exact this
 have same: ∀i j,k-1<=i->k-1<=j->zX n T i=zX n T j:=λi j hi hj=>by
  obtain⟨M,eM⟩:=VR n T i;obtain⟨N,eN⟩:=VR n T j;refine(yL n T i).ext (yL n T j) λa b ha hb=> ?_
  have x1:=(vM (yL n T i)).mp (fs i hi) a b ha hb;have x2:=(vM (yL n T j)).mp (fs j hj) a b ha hb;rw [eM,XW ha hb] at x1 ⊢;rw [eN,XW ha hb] at x2 ⊢
  by_cases z1:ent M a b=0
  ·rw [if_pos z1] at x1;exact absurd rfl x1
  ·by_cases z2:ent N a b=0
   ·rw [if_pos z2] at x2;exact absurd rfl x2
   ·rw [if_neg z1,if_neg z2]
 have lt:=c.lt;have a1: ¬k<L:=λz=>uS c.nd (show k-1<k by omega) z (same _ _ (P0 _) (by omega))
 have a2: ¬L<k:=λz=>by
  have x:=fs (k-1) (P0 _);rw [<-BX c (show J<=k-1 by omega),Zm h hn] at x;have y:=F9 (k-1-J) (show 0<L-J by omega);have:=fl (J+(k-1-J)%(L-J)+1) (by omega) (by omega);rw [x] at this;cases this
 omega
end
def ZA:RDn:=λds h Q=> ∃T,∃n e k:Nat,ds= [jq T]/\Sq n e T/\1<=n/\n<=6/\e<=1000/\Fst n T (some k)/\Q (jq (mkT n λi j=>(wN n T i j k:Int))) h
theorem UY (Z:Zs mg)(F:Fun K "first_pairs" "first_pairs" vT f fd)(jh:jg P w K mg base n "want_table" ["thing"] jB)(wG:jg P w K mg base n "want_first_power" ["table"] wo)(yS:jg P w K mg base n "all_marks" ["table"] yY)(Zq:jg P w K mg base n "behind_last_nought" ["told","one","other"] yc):FnOk P w K mg base CX0 (n+1) f fd ["table"] (LSp K ZA):=by
 refine F.okM wa (λhr=>(jd (zT (jk jh hr (j1 (jv 0)))) (by exact(jd (zT (jk wG hr (j1 (jv 0)))) (by exact(jd (jse 1 wa (jk yS hr (j1 (jv 0)))) (by exact(jd (jse 2 wa (EI rfl rfl Z.list rfl Z.range (j1 (Jo Z (jv 0))))) (by exact(jf (jZ (jM jH rfl Z.tuple (by decide +kernel) (j1 (jl0 3 wa (jY (jv 2)) (λ_ _ _ _=>(jM jH rfl Z.tuple (by decide +kernel) (j1 (jl0 4 wa (jY (jv 2)) (λ_ _ _ _=>(jk Zq hr (j3 (jv 1) (jv 3) (jv 4)))))))))))))))))))))) ?_;rintro ds h Q ⟨T,n,b,k,rfl,hT,h1,h6,hb,ho,q⟩;refine⟨rfl,?_⟩;refine jA [some (jq T),none,none,none,none] (λC hC=>⟨_,rfl,T,n,b,rfl,hT,h1,h6,hC⟩) ?_;refine jA [some (jq T),none,none,none,none] (λC hC=>⟨_,rfl,T,n,b,k,rfl,hT,h1,h6,hb,ho,hC⟩) ?_;have k30:=ho.2.1;refine ji (λoV h'=> ∃A,oV= [some (jq T),some (.lst A),none,none,none]/\h' A=some ((G0 k).map λm=>jq (zX n T m))/\Sub h h') (λC hC=>⟨_,rfl,T,n,b,rfl,hT,h1,h6,hb,λA L J h' fA kA sb hc hL=>hC _ _ ⟨A,rfl,by rw [kA,YJ hT (by omega) ho hc],sb⟩⟩) ?_;rintro _ h2 ⟨A,rfl,kA,sb⟩;refine ji (λoV h'=> ∃P,oV= [some (jq T),some (.lst A),some (.lst P),none,none]/\h' A=some ((G0 k).map λm=>jq (zX n T m))/\h' P=some ((G0 n).map λ(k:Nat)=>D.int (k:Int))/\Sub h h') (λC hC=>⟨_,rfl,n,by rw [G2,hT.len],by omega,λP eP=>hC _ _ ⟨P,rfl,ju kA eP,jc,Sub.newAt sb eP⟩⟩) ?_;clear kA sb;rintro _ h3 ⟨P,rfl,kA,kP,sb⟩;refine QZ (j:=λh=>h P) (G0 n) (λi=> .int (i:Int)) (λi=> .tup ((G0 n).map λj=> .int (wN n T i j k:Int))) (by rw [G5];omega) kP (λR r=>⟨_,rfl,r⟩) (λi hi Q' q'=> ?_) ⟨h,sb,by rw [Gy];exact q⟩;refine QZ (j:=λh=>h P) (G0 n) (λj=> .int (j:Int)) (λj=> .int (wN n T i j k:Int)) (by rw [G5];omega) kP (λR r=>⟨_,rfl,r⟩) (λj hj Q2 q2=> ?_) q';exact⟨_,rfl,_,rfl,_,rfl,A,T,n,i,j,k,rfl,G8.mp hi,G8.mp hj,by omega,kA,q2⟩
def XB:RDn:=λds h Q=> ∃T,∃n e k:Nat,ds= [jq T]/\Sq n e T/\1<=n/\n<=6/\e<=1000/\Fst n T (some k)/\ ∀m:Nat,1<=m->m<=k->Q (.int (m:Int)) h
theorem Nj (Z:Zs mg)(F:Fun K "meeting" "meeting" Ul f fd)(yS:jg P w K mg base n "all_marks" ["table"] yY)(DN:jg P w K mg base n "rows_meet" ["table"] YI):FnOk P w K mg base CX0 (n+1) f fd ["table"] (LSp K XB):=by
 refine F.okM XC (λhr=>(jd (Nz N5 rfl (RD rfl Z.enumerate (j1 (jk yS hr (j1 (jv 0))))) (Xj (i:=1) (j:=2) rfl XC.nd rfl rfl (M5 rfl) (M5 rfl)) (jf (Zn (wx (jk DN hr (j1 (jv 2)))) (jf (jZ (jv 1))) jN))) (by exact(jf (jZ Lm))))) ?_;rintro ds h Q ⟨T,n,b,k,rfl,hT,h1,h6,hb,ho,q⟩;refine⟨rfl,?_⟩;have hn:n<=8:=by omega
 refine ji (λoV h'=>False) (λC hC=> ?_) (λoV h' z=>z.elim);refine⟨_,rfl,T,n,b,rfl,hT,h1,h6,hb,λA L J h' fA kA sb hc hL=>⟨A,rfl,?_⟩⟩;have eL:=YJ hT hn ho hc;subst eL;have fK:MU (zX n T (L-1))=true:=Cd (yL n T _) h1 (by rw [Zm hT hn,show L-1+1=L by have:=ho.1;omega];exact ho.2.2.1);refine Jv (j:=λh=>(h A).map MQ) ((G0 L).map λm=>D.tup [.int ((m+1:Nat):Int),jq (zX n T m)]) (λi oV h2=> ∃a b',oV= [some (jq T),a,b']/\h'=h2/\ ∀m,m<i->MU (zX n T m)=false) (λi oV h2 ⟨_,_,_,e,_⟩=>by rw [<-e];show (h' A).map MQ=_;rw [kA];exact congrArg some (RE L _)) ⟨none,none,rfl,rfl,λm hm=>absurd hm (bT _)⟩ ?_ ?_
 ·rintro oV h2 ⟨a,b',e,eh,lo⟩;rw [G2,G5] at lo;have:=lo (L-1) (by have:=ho.1;omega);rw [fK] at this;cases this
 rintro i d _ _ hd ⟨a,b',rfl,rfl,lo⟩;have hil:=(P3.mp hd).1;have hiL:i<L:=by rw [G2,G5] at hil;exact hil
 rw [P1,T5 hiL] at hd;injection hd with hd
 subst hd;refine⟨_,_,rfl,_,rfl,zX n T i,n,1,rfl,yL n T i,h1,h6,_,rfl,?_⟩;cases hf:MU (zX n T i) with
 |true=>exact vq ⟨_,rfl,h,sb,q (i+1) (by omega) (by omega)⟩
 |false=>
  refine wO ⟨_,Sub.refl _,hil,_,_,rfl,rfl,λm hm=> ?_⟩
  by_cases z:m=i
  ·subst z;exact hf
  ·exact lo m (by omega)
def YK:RDn:=λds h Q=> ∃ns k,ds= [.scr ns,.int k]/\0<=k/\ ∀n,Q (.int n) h
theorem Pm (Z:Zs mg)(F:Fun K "_law_cell" "_law_cell" ZX f fd):FnOk P w K mg base CX0 (n+1) f fd ["_law_script","_law_k"] (LSp K YK):=by
 refine F.okM GW (λhr=>(jd (Zn (jt1 Ld (jv 1) (Jo Z (jv 0))) (jf (jZ (ji1 (jv 0) (jv 1)))) jN) (by exact(jf (jZ jF))))) ?_;rintro ds h Q ⟨ns,k,rfl,h0,q⟩;refine⟨rfl,?_⟩;simp only [FC,Tf,WO,dOp,Rj,vy,T3,U2,R0,M1,J4,C7,aR,E3,K0,dCB,zh,Zv,Ew,Af,D.bl.injEq,Lb,ixD,FF,exists_eq_left',Mq,dC];refine Ny (λc=> ?_) (λ_=>⟨h,Sub.refl h,q 0⟩);have c':k<(ns.length:Int):=of_decide_eq_true c;have hk:k.toNat<ns.length:=by omega
 have ek:k=((k.toNat:Nat):Int):=by omega
 have z:=zG (G1 hk);rw [<-ek] at z;exact⟨ns[k.toNat],z,h,Sub.refl h,q _⟩
def Ux:RDn:=λds h Q=> ∃c,ds= [.int c]/\ ∀p l fl,h p=none->0<=l->(fl=0\/fl=1)->Q (.lst p) (wb h p [.int l,.int fl])
theorem DD (Z:Zs mg)(F:Fun K "_law_pen" "_law_pen" Yh f fd):FnOk P w K mg base CX0 (n+1) f fd ["_law_cell_here"] (LSp K Ux):=by
 refine F.okM Um (λhr=>(jd (jse 1 Um (ze (Ai rfl) rfl Z.max (by decide +kernel) (j2 (jv 0) (jop yr jF (jv 0))))) (by exact(jf (jZ (PR (j2 (jv 1) (jM Ah rfl Z.int (by decide +kernel) (j1 (jc1 Lf (jv 1) (jop HR jF jF))))))))))) ?_;rintro ds h Q ⟨c,rfl,q⟩;refine⟨rfl,?_⟩;simp only [FC,FD,dCB,zh,Rj,vy,T3,U2,R0,M1,S4,J4,C7,E3,K0,dOp,dC,xQ,Zv,uF,Lb,Te,List.set_cons_succ,List.set_cons_zero,aR,xS,Af,uE,FF,exists_eq_left'];refine⟨⟨by decide,by decide,by decide⟩,by decide,λp hp=>⟨_,Sub.refl _,q p _ _ hp ?_ ?_⟩⟩
 ·split<;>omega
 ·split<;>simp<;>omega
def ye:RDn:=λds h Q=> ∃p l fl m,ds= [.lst p,.int m]/\h p=some [.int l,.int fl]/\0<=l/\0<m/\m<2^200/\ ∀r l',0<=r->r<m->0<=l'->Q (.int r) (wb h p [.int l',.int fl])
theorem Po (Z:Zs mg)(F:Fun K "_law_draw" "_law_draw" ZY f fd):FnOk P w K mg base CX0 (n+1) f fd ["_law_pen_here","_law_many"] (LSp K ye):=by
 refine F.okM vf (λhr=>(jd (Zn (jt1 oq_eq (ji1 (jv 0) jF) jF) (jd (Bw (ze MG rfl Z.divmod (by decide +kernel) (j2 (ji1 (jv 0) jF) (jv 1))) (Xj (i:=2) (j:=3) rfl vf.nd rfl rfl (M5 rfl) (M5 rfl))) (by exact(jd (Bw (jv 2) (Gt (jv 0) jF)) (by exact(jf (jZ (jv 3))))))) jN) (by exact(jd (jse 4 vf (jop Zw (jop WP (jop wt (jop Zw (ji1 (jv 0) jF) jF) jF) jF) jF)) (by exact(jd (jse 4 vf (jop Zw (jop wt (jop WP (jv 4) (jv 4)) jF) jF)) (by exact(jd (Bw (jop Zw (jop wt (jop WP (jv 4) jF) jF) jF) (Gt (jv 0) jF)) (by exact(jf (jZ (jop Zw (jop Eu (ji1 (jv 0) jF) jF) (jv 1))))))))))))) ?_;rintro ds h Q ⟨p,l,fl,m,rfl,hp,h0,hm,hm2,q⟩;refine⟨rfl,?_⟩;refine jA [some (.lst p),some (.int m),none,none,none] (λC hC=>⟨_,rfl,_,_,hp,rfl,?_⟩) ?_
 ·show ∃k,D.bl (decide (fl=1))= .bl k/\_;refine⟨_,rfl,Ny (λ_=> ?_) λ_=>hC⟩;exact⟨_,rfl,_,_,hp,rfl,_,rfl,_,_,rfl,⟨hm,hm2⟩,_,_,rfl,_,rfl,_,rfl,p,0,_,0,rfl,rfl,hp,rfl,_,rfl,_,Sub.refl _,q (l%m) (l / m) (bV _ (nO hm)) (cU _ hm) (Int.ediv_nonneg h0 (nE hm))⟩
 refine ji (λoV h'=> ∃z:Int,oV= [some (.lst p),some (.int m),none,none,some (.int z)]/\(0<=z/\z<2147483629)/\h=h') (λC hC=>⟨_,rfl,_,_,hp,rfl,by decide,.inr ⟨by decide,by decide⟩,by decide,hC _ _ ⟨_,rfl,⟨bV _ (by decide),cU _ (by decide)⟩,rfl⟩⟩) ?_;rintro _ _ ⟨z,rfl,⟨z0,z1⟩,rfl⟩;refine ji (λoV h'=> ∃y:Int,oV= [some (.lst p),some (.int m),none,none,some (.int y)]/\h=h') (λC hC=>⟨_,rfl,_,rfl,.inl ⟨gX (by decide) z0,Int.lt_trans z1 (by decide)⟩,by decide,hC _ _ ⟨_,rfl,rfl⟩⟩) ?_;rintro _ _ ⟨y,rfl,rfl⟩;refine ji (λoV h'=> ∃x:Int,oV= [some (.lst p),some (.int m),none,none,some (.int y)]/\0<=x/\h'=wb h p [.int x,.int fl]) (λC hC=>⟨_,rfl,.inr ⟨by decide,by decide⟩,by decide,_,rfl,p,0,_,0,rfl,rfl,hp,rfl,hC _ _ ⟨_,rfl,bV _ (by decide),rfl⟩⟩) ?_;rintro _ _ ⟨x,rfl,x0,rfl⟩;exact⟨_,rfl,_,_,jc,rfl,⟨by decide,by decide⟩,_,rfl,hm,_,Sub.refl _,q (x / 32%m) x (bV _ (nO hm)) (cU _ hm) x0⟩
def YL:RDn:=λds h Q=> ∃p l fl,ds= [.lst p]/\h p=some [.int l,.int fl]/\0<=l/\ ∀ (k:Nat) l',1<=k->k<=6->0<=l'->Q (.int (k:Int)) (wb h p [.int l',.int fl])
theorem Pp (Z:Zs mg)(F:Fun K "_law_size" "_law_size" ZZ f fd)(jX:jg P w K mg base n "_law_draw" ["_law_pen_here","_law_many"] ye):FnOk P w K mg base CX0 (n+1) f fd ["_law_pen_here"] (LSp K YL):=by
 refine F.okM GX (λhr=>(jf (jZ (ji1 (PR (jac jF (by exact(jac jF (by exact(jac jF (by exact(jac jF (by exact(jac jF (by exact(jac jF (by exact(jac jF (by exact(jac jF (by exact(j4 jF jF jF jF)))))))))))))))))) (jk jX hr (j2 (jv 0) jF)))))) ?_;rintro ds h Q ⟨p,l,fl,rfl,hp,h0,q⟩;refine⟨rfl,?_⟩;simp only [Lb,dOp,Te,zh,dC,Zv,R0,M1,dCB,Rj,vy,T3,U2,J4,C7,E3,K0,ixD,FF,exists_eq_left'];refine⟨by decide,λp1 e1=>⟨p,l,fl,12,rfl,ju hp e1,h0,by decide,by decide,λr l' r0 r1 l0=> ?_⟩⟩;obtain⟨d,hd,ed⟩:=PP (xs:= [D.int 1,D.int 2,D.int 3,D.int 4,D.int 5,D.int 3,D.int 4,D.int 2,D.int 6,D.int 5,D.int 4,D.int 3]) r0 r1;refine⟨_,d,jz (zB hp e1) jc,ed,_,Sub.both (Sub.newAt (Sub.refl h) e1),?_⟩;have q': ∀k:Nat,1<=k->k<=6->Q (.int (k:Int)) (wb h p [.int l',.int fl]):=λk a b=>q k l' a b l0
 simp only [R6,C8,or_false] at hd;rcases hd with e|e|e|e|e|e|e|e|e|e|e|e<;>subst e
 ·exact q' 1 (by decide) (by decide)
 ·exact q' 2 (by decide) (by decide)
 ·exact q' 3 (by decide) (by decide)
 ·exact q' 4 (by decide) (by decide)
 ·exact q' 5 (by decide) (by decide)
 ·exact q' 3 (by decide) (by decide)
 ·exact q' 4 (by decide) (by decide)
 ·exact q' 2 (by decide) (by decide)
 ·exact q' 6 (by decide) (by decide)
 ·exact q' 5 (by decide) (by decide)
 ·exact q' 4 (by decide) (by decide)
 ·exact q' 3 (by decide) (by decide)
def vZ:RDn:=λds h Q=> ∃p l fl,∃k:Nat,ds= [.lst p,.int (k:Int)]/\h p=some [.int l,.int fl]/\0<=l/\k<=6/\ ∀o l',Ordr k o->0<=l'->Q (jC o) (wb h p [.int l',.int fl])
theorem QL (Z:Zs mg)(F:Fun K "_law_order" "_law_order" JN f fd)(jX:jg P w K mg base n "_law_draw" ["_law_pen_here","_law_many"] ye):FnOk P w K mg base CX0 (n+1) f fd ["_law_pen_here","_law_many"] (LSp K vZ):=by
 refine F.okM vU (λhr=>(jd (jse 2 vU (PR Gs)) (by exact(jd (Nz N5 rfl (jrg Z (jv 1)) (jgn 3 vU) (jf (zT (jal (jv 2) (jk jX hr (j2 (jv 0) (jop wt (jv 3) jF))) (jv 3))))) (by exact(jf (jZ (jM cq_tuple rfl Z.tuple (by decide +kernel) (j1 (jv 2)))))))))) ?_;rintro ds h Q ⟨p,l,fl,k,rfl,hp,h0,hk,q⟩;refine⟨rfl,?_⟩;refine ji (λoV h'=> ∃R,oV= [some (.lst p),some (.int (k:Int)),some (.lst R),none]/\R≠p/\h R=none/\h' R=some []/\h' p=some [.int l,.int fl]/\But p h h') (λC hC=> ?_) ?_
 ·exact⟨sz0,λR eR=>hC _ _ ⟨R,rfl,zB hp eR,eR,jc,ju hp eR,(But.refl p h).new eR⟩⟩
 rintro oV h1 ⟨R,rfl,nR,fR,kR,kp,bt⟩;refine ji (λoV h'=> ∃a l2 o,oV= [some (.lst p),some (.int (k:Int)),some (.lst R),a]/\0<=l2/\Ordr k o/\h' R=some (o.map λ(i:Nat)=>D.int (i:Int))/\h' p=some [.int l2,.int fl]/\But p h h') (λC hC=> ?_) ?_
 ·refine ZI k (λi oV h'=> ∃a l2 o,oV= [some (.lst p),some (.int (k:Int)),some (.lst R),a]/\0<=l2/\Ordr i o/\h' R=some (o.map λ(i:Nat)=>D.int (i:Int))/\h' p=some [.int l2,.int fl]/\But p h h') (by omega) (λR' r=>⟨_,rfl,r⟩) ⟨none,l,[],rfl,h0,oU,kR,kp,bt⟩ (λoV h' z=>hC _ _ z) ?_;rintro i _ h2 hi ⟨a,l2,o,rfl,l20,ho,kR2,kp2,bt2⟩;refine⟨_,rfl,R,rfl,_,rfl,_,rfl,p,l2,fl,(i:Int)+1,rfl,kp2,l20,by omega,by omega,λr l3 r0 r1 l30=> ?_⟩;have lo:o.length=i:=ho.ord.len;refine⟨_,rfl,r.toNat,_,by rw [bY r0],by omega,jz nR kR2,?_,_,Sub.refl _,by omega,_,l3,o.take r.toNat++i::o.drop r.toNat,rfl,l30,ho.insert r.toNat,?_,jz (A4 nR) jc,(bt2.put).putNew fR⟩
  ·rw [G2];exact aI (show o.length<=1000 by omega) (by decide)
  ·rw [jc,S5,T3,gL,gM]
 rintro _ h3 ⟨a,l2,o,rfl,l20,ho,kR3,kp3,bt3⟩;exact⟨_,rfl,_,kR3,_,bt3.sub kp3,q o l2 ho l20⟩
def va:RDn:=λds h Q=> ∃p l fl,∃k:Nat,ds= [.lst p,.int (k:Int)]/\h p=some [.int l,.int fl]/\0<=l/\1<=k/\k<=6/\ ∀T l',GoodTab k T->(∃K,1<=K/\jP (zF k T K)=true)->0<=l'->Q (jq T) (wb h p [.int l',.int fl])
theorem WI (Z:Zs mg)(F:Fun K "_law_good_table" "_law_good_table" wU f fd)(JX:jg P w K mg base n "_law_order" ["_law_pen_here","_law_many"] vZ)(jX:jg P w K mg base n "_law_draw" ["_law_pen_here","_law_many"] ye):FnOk P w K mg base CX0 (n+1) f fd ["_law_pen_here","_law_size_here"] (LSp K va):=by
 refine F.okM jE (λhr=>(jd (jse 2 jE (jk JX hr (j2 (jv 0) (jv 1)))) (by exact(jd (jse 3 jE (ji1 (PR (j3 jF jF jF)) (jk jX hr (j2 (jv 0) jF)))) (by exact(jd (Ro (i:=8) (k:=4) (js:= [8]) rfl jE.nd rfl (M5 rfl) (jG (by rfl)) (jrg Z (jv 1)) (by decide) rfl (by first|exact M5 rfl|exact F6 rfl) (λX' hX=>zH) (λX' hX=>by obtain⟨C,s₀,H₀,ex,rfl⟩:=hX;exact(jl0 9 jE (jrg Z (jv 1)) (λ_ _ _ _=>(jM Ah rfl Z.int (by decide +kernel) (j1 (jc1 oq_eq (jk jX hr (j2 (jv 0) (jv 3))) jF))))))) (by exact(jd (Nz N5 rfl (jrg Z (jv 1)) (jgn 5 jE) (jd (uL (i:=6) (j:=7) rfl jE.nd rfl rfl (by decide) rfl rfl (j2 (ji1 (jv 2) (jv 5)) (ji1 (jv 2) (jop Zw (jop wt (jv 5) jF) (jv 1)))) rfl) (by exact(jf (Bw (jop wt jF (jk jX hr (j2 (jv 0) jF))) (Gt (ji1 (jv 4) (jv 6)) (jv 7))))))) (by exact(jd (Bw jF (Gt (ji1 (jv 4) (ji1 (jv 2) (Lp jF))) (ji1 (jv 2) (ji1 (PR (j2 (jop Zw jF (jv 1)) (jop yr (jv 1) jF))) (jk jX hr (j2 (jv 0) jF)))))) (by exact(jf (jZ (jM jH rfl Z.tuple (by decide +kernel) (j1 (jl0 10 jE (jY (jv 4)) (λ_ _ _ _=>(jM cq_tuple rfl Z.tuple (by decide +kernel) (j1 (jv 10)))))))))))))))))))) ?_;rintro ds h Q ⟨p,l,fl,k,rfl,hp,h0,hk1,hk6,q⟩;refine⟨rfl,?_⟩;refine ji (λoV h'=> ∃o l2,oV= [some (.lst p),some (.int (k:Int)),some (jC o),none,none,none,none,none,none,none,none]/\Ordr k o/\0<=l2/\h' p=some [.int l2,.int fl]/\But p h h') (λC hC=>⟨_,rfl,_,rfl,p,l,fl,k,rfl,hp,h0,hk6,λo l2 ho l20=>hC _ _ ⟨o,l2,rfl,ho,l20,jc,But.upd⟩⟩) ?_;rintro _ h1 ⟨o,l2,rfl,ho,l20,kp,bt⟩;refine ji (λoV h'=> ∃oft l3,oV= [some (.lst p),some (.int (k:Int)),some (jC o),some (.int oft),none,none,none,none,none,none,none]/\0<oft/\oft<1000/\0<=l3/\h' p=some [.int l3,.int fl]/\But p h h') (λC hC=> ?_) ?_
 ·refine⟨sz3,λp1 e1=>⟨_,rfl,p,l2,fl,3,rfl,ju kp e1,l20,by decide,by decide,λr l3 r0 r1 l30=> ?_⟩⟩;obtain⟨oft,ho',eo⟩:=PP (xs:= [D.int 2,D.int 4,D.int 9]) r0 r1;refine⟨_,oft,jz (zB kp e1) jc,eo,?_⟩;obtain⟨x,rfl,x1,x2⟩: ∃x:Int,oft= .int x/\0<x/\x<1000:=by
   simp only [R6,C8,or_false] at ho';rcases ho' with e|e|e<;>exact⟨_,e,by decide,by decide⟩
  exact hC _ _ ⟨x,l3,rfl,x1,x2,l30,jc,(bt.new e1).put⟩
 rintro _ h2 ⟨oft,l3,rfl,of1,of2,l30,kp,bt⟩;refine ji (λoV h'=> ∃R rs l4,oV= [some (.lst p),some (.int (k:Int)),some (jC o),some (.int oft),some (.lst R),none,none,none,none,none,none]/\0<=l4/\h' p=some [.int l4,.int fl]/\But p h h'/\ ∃f,GQ k h h' p R rs f) (λC hC=> ?_) ?_
 ·refine Rm (h1:=h2) k (λi ys h'=> ∃rs l4,ys=rs.map D.lst/\rs.length=i/\0<=l4/\h' p=some [.int l4,.int fl]/\But p h h'/\p ∉ rs/\rs.Nodup/\ ∀a∈rs,h a=none/\ ∃r,h' a=some (r.map D.int)/\VD k r) (by omega) (λR r=>⟨_,rfl,r⟩) ⟨[],l3,rfl,rfl,l30,kp,bt,by simp,mN,by simp⟩ (λi ys h' ⟨rs,l4,e,el,_⟩=>by rw [e,G2];exact el) ?_ ?_
  ·rintro i ys h3 hi ⟨rs,l4,rfl,lrs,l40,kp3,bt3,nprs,nd3,rows3⟩;refine Rm (h1:=h3) k (λj zs h'=> ∃r l5,zs=r.map D.int/\r.length=j/\(∀x∈r,0<=x/\x<=1000000)/\0<=l5/\h' p=some [.int l5,.int fl]/\But p h h'/\(∀a∈rs,∃r,h' a=some (r.map D.int)/\VD k r)) (by omega) (λR r=>⟨_,rfl,r⟩) ⟨[],l4,rfl,rfl,by simp,l40,kp3,bt3,λa ha=>(rows3 a ha).2⟩ (λj zs h' ⟨r,l5,e,el,_⟩=>by rw [e,G2];exact el) ?_ ?_
   ·rintro j zs h4 hj ⟨r,l5,rfl,lr,gr,l50,kp4,bt4,rows4⟩;refine⟨_,rfl,_,rfl,p,l5,fl,oft,rfl,kp4,l50,of1,by omega,λx l6 x0 x1' l60=> ?_⟩;refine⟨_,Sub.refl _,by omega,r++ [if decide (x=1)=true then 1 else 0],l6,by rw [S5];rfl,by rw [P2,lr];rfl,?_,l60,jc,bt4.put,λa ha=> ?_⟩
    ·intro y hy;rcases D9.mp hy with z|z
     ·exact gr y z
     ·rw [G9.mp z];split<;>omega
    ·obtain⟨r',e',g'⟩:=rows4 a ha;exact⟨r',jz (λz=>nprs (z ▸ ha)) e',g'⟩
   ·rintro zs h4 ⟨r,l5,rfl,lr,gr,l50,kp4,bt4,rows4⟩ q4 e4;refine⟨_,Sub.refl _,by omega,rs++ [q4],l5,by rw [S5];rfl,by simp [lrs],l50,ju kp4 e4,bt4.new e4,?_,?_,λa ha=> ?_⟩
    rotate_left
    ·rw [V1];refine⟨nd3,by simp,λa ha b hb z=> ?_⟩;rw [G9.mp hb] at z;subst z;obtain⟨r',e',_⟩:=rows4 a ha;rw [e'] at e4;cases e4
    rotate_left
    ·intro z;rcases D9.mp z with y|y
     ·exact nprs y
     ·exact zB kp4 e4 (G9.mp y).symm
    ·rcases D9.mp ha with z|z
     ·obtain⟨r',e',g'⟩:=rows4 a z;exact⟨(rows3 a z).1,r',ju e' e4,g'⟩
     ·have:=G9.mp z;subst this;exact⟨Bo bt4 e4 (zB kp4 e4),r,jc,lr,gr⟩
  ·rintro ys h3 ⟨rs,l4,rfl,lrs,l40,kp3,bt3,nprs,nd3,rows3⟩ R eR;refine hC _ _ ⟨R,rs,l4,rfl,l40,ju kp3 eR,bt3.new eR,GQ.of_grid ⟨jc,lrs,?_,Bo bt3 eR (zB kp3 eR),nprs,zB kp3 eR,λa ha=>⟨(rows3 a ha).1,?_⟩⟩ nd3⟩
   ·intro hR;obtain⟨_,r,e',_⟩:=rows3 R hR;rw [e'] at eR;cases eR
   ·obtain⟨r,e',g'⟩:=(rows3 a ha).2;exact⟨r,ju e' eR,g'⟩
 rintro _ h3 ⟨R,rs,l4,rfl,l40,kp,bt,f0,g0⟩;refine ji (λoV h'=> ∃a b c l5 f,oV= [some (.lst p),some (.int (k:Int)),some (jC o),some (.int oft),some (.lst R),a,b,c,none,none,none]/\0<=l5/\h' p=some [.int l5,.int fl]/\But p h h'/\GQ k h h' p R rs f/\(∀t,t<k->1<=f (o.getD t 0) (o.getD ((t+1)%k) 0))) (λC hC=> ?_) ?_
 ·refine ZI k (λi oV h'=> ∃a b c l5 f,oV= [some (.lst p),some (.int (k:Int)),some (jC o),some (.int oft),some (.lst R),a,b,c,none,none,none]/\0<=l5/\h' p=some [.int l5,.int fl]/\But p h h'/\GQ k h h' p R rs f/\(∀t,t<i->1<=f (o.getD t 0) (o.getD ((t+1)%k) 0))) (by omega) (λR r=>⟨_,rfl,r⟩) ⟨none,none,none,l4,f0,rfl,l40,kp,bt,g0,λt ht=>absurd ht (bT _)⟩ (λoV h' z=>hC _ _ z) ?_;rintro i _ h4 hi ⟨a,b,c,l5,f,rfl,l50,kp,bt,g,rg⟩;obtain⟨hy1,ey1⟩:=Wr ho hi;obtain⟨hy2,ey2⟩:=Wr ho (F9 (i+1) (by omega:0<k));have em:((i:Int)+1)%(k:Int)=(((i+1)%k:Nat):Int):=by rw [Z4,aF];rfl
  rw [<-em] at ey2;refine jA [some (.lst p),some (.int (k:Int)),some (jC o),some (.int oft),some (.lst R),some (.int (i:Int)),some (.int ((o.getD i 0:Nat):Int)),some (.int ((o.getD ((i+1)%k) 0:Nat):Int)),none,none,none] (λC2 hC2=> ?_) ?_
  ·exact⟨_,rfl,_,rfl,_,ey1,_,rfl,_,rfl,_,rfl,(by omega:(0:Int)<(k:Int)),_,ey2,_,_,rfl,hC2⟩
  refine⟨_,rfl,p,l5,fl,3,rfl,kp,l50,by decide,by decide,λr l6 r0 r1 l60=> ?_⟩;have g2:=g.pen [.int l6,.int fl];obtain⟨a',ha',at',er',fa',na'⟩:=g2.pick hy1;refine⟨_,rfl,_,rfl,_,_,g2.at_,at',_,rfl,a',_,_,o.getD ((i+1)%k) 0,rfl,rfl,er',Db (by rw [G2,G5];exact hy2),_,Sub.refl _,by omega,_,_,_,l6,_,rfl,l60,jz (A4 na') jc,(bt.put).putNew fa',g2.put ha' (by omega) (by omega),λt ht=> ?_⟩;split
  ·omega
  ·rename_i z;refine rg t (J0 λw=>z ?_);have:t=i:=by omega
   subst this;exact⟨rfl,rfl⟩
 rintro _ h5 ⟨a,b,c,l5,f,rfl,l50,kp,bt,g,rg⟩;obtain⟨hz1,ez1⟩:=Cc ho hk1;obtain⟨a1,ha1,at1,er1,fa1,na1⟩:=g.pick hz1;refine ji (λoV h'=> ∃l6 f,oV= [some (.lst p),some (.int (k:Int)),some (jC o),some (.int oft),some (.lst R),a,b,c,none,none,none]/\0<=l6/\h' p=some [.int l6,.int fl]/\But p h h'/\GQ k h h' p R rs f/\(∀t,t<k->1<=f (o.getD t 0) (o.getD ((t+1)%k) 0))/\(1<=f (o.getD (k-1) 0) (o.getD (k-1) 0)\/1<=f (o.getD (k-1) 0) (o.getD (1%k) 0))) (λC hC=> ?_) ?_
 ·refine⟨_,rfl,_,rfl,_,ez1,_,_,g.at_,at1,_,rfl,_,rfl,(by omega:(0:Int)<(k:Int)),_,rfl,sz2,λq1 e1=>⟨_,rfl,p,l5,fl,2,rfl,ju kp e1,l50,by decide,by decide,λr l6 r0 r1' l60=> ?_⟩⟩;obtain⟨d,hd,ed⟩:=PP (xs:= [D.int ((1:Int)%(k:Int)),D.int ((k:Int)-1)]) r0 r1';obtain⟨w,rfl,hw,wc⟩: ∃w:Nat,d= .int (w:Int)/\w<k/\(w=k-1\/w=1%k):=by
   simp only [R6,C8,or_false] at hd;rcases hd with e|e
   ·exact⟨1%k,by rw [e,Z4];rfl,F9 _ (by omega),.inr rfl⟩
   ·exact⟨k-1,by rw [e];congr 1;omega,by omega,.inl rfl⟩
  obtain⟨hw2,ew2⟩:=Wr ho hw;have g':=(g.new e1 [D.int ((1:Int)%(k:Int)),D.int ((k:Int)-1)]).pen [.int l6,.int fl];have her:wb (wb h5 q1 [D.int ((1:Int)%(k:Int)),D.int ((k:Int)-1)]) p [.int l6,.int fl] a1=some ((G0 k).map λj=>D.int (f (o.getD (k-1) 0) j)):=jz na1 (ju er1 e1);refine⟨_,_,jz (zB kp e1) jc,ed,_,ew2,a1,_,_,o.getD w 0,rfl,rfl,her,Db (by rw [G2,G5];exact hw2),hC _ _ ⟨l6,_,rfl,l60,jz (A4 na1) jc,((bt.new e1).put).putNew fa1,g'.put ha1 (by decide) (by decide),λt ht=> ?_,?_⟩⟩
  ·split
   ·decide
   ·exact rg t ht
  ·rcases wc with rfl|rfl
   ·left;rw [if_pos ⟨rfl,rfl⟩];decide
   ·right;rw [if_pos ⟨rfl,rfl⟩];decide
 rintro _ h6 ⟨l6,f6,rfl,l60,kp,bt,g6,rg6,ch⟩;have gT:GoodTab k (mkT k f6):=GoodTab.of_mk g6.nn;have gl: ∀t,t<k->o.getD t 0<k:=λt ht=>(Wr ho ht).1
 have pr: ∃K,1<=K/\jP (zF k (mkT k f6) K)=true:=by
  refine MT gT.sq (by omega) hk1 ho (λt ht=> ?_) ?_
  ·rw [wZ (gl t ht) (gl _ (F9 _ (by omega)))];have:=rg6 t ht;omega
  ·rcases ch with z|z
   ·left;rw [wZ (gl _ (by omega)) (gl _ (by omega))];omega
   ·right;rw [wZ (gl _ (by omega)) (gl _ (F9 _ (by omega)))];omega
 refine QZ (j:=λh=>h R) rs D.lst (λa=> .tup ((h6 a).getD [])) (by rw [g6.len];omega) g6.at_ (λR r=>⟨_,rfl,r⟩) (λa ha Q' q'=> ?_) ⟨_,bt.sub kp,?_⟩
 ·obtain⟨i,hi⟩:=bM ha;have er:=(g6.row i a hi).2;rw [er] at q';exact⟨_,rfl,_,er,q'⟩
 ·rw [g6.tab,Gy];exact q _ l6 gT pr l60
section
variable {n e:Nat}{T:List (List Int)}
def AA (n:Nat)(T:List (List Int))(i j P:Nat):Prop:=1<=P/\(∀m,P<=m->RP n T m i j)/\(1<P-> ¬RP n T (P-1) i j)
theorem DE (h:Sq n e T)(hn:n<=8){k i j:Nat}(ho:Fst n T (some k))(hi:i<n)(hj:j<n):AA n T i j (wN n T i j k)/\wN n T i j k<=k:=by
 obtain⟨a,b,c⟩:=WW (NA n T i j) k;have k1:=ho.1;have zb: ∀m,NA n T i j m=false↔RP n T (m+1) i j:=λm=>by
  rw [<-Az h hn hi hj];unfold NA;exact decide_eq_false_iff_not
 have lt:vA (NA n T i j) k<k:=by
  refine C1 a λz=> ?_
  have:=b (by omega);rw [z,(zb (k-1)).mpr (Uw h hn ho (by omega) hi hj)] at this;cases this
 refine⟨⟨by unfold wN;omega,λm hm=> ?_,λhp z=> ?_⟩,by unfold wN;omega⟩
 ·unfold wN at hm
  by_cases w:k<=m
  ·exact Uw h hn ho w hi hj
  ·have:=(zb (m-1)).mp (c (m-1) (by omega) (by omega))
   rwa [show m-1+1=m by omega] at this
 ·unfold wN at hp z;have:=b (by omega);have z':RP n T (vA (NA n T i j) k-1+1) i j:=by rwa [show vA (NA n T i j) k-1+1=vA (NA n T i j) k+1-1 by omega]
  rw [(zb _).mpr z'] at this;cases this
theorem OK (h:Sq n e T)(hn:n<=8)(n1:1<=n){k:Nat}(ho:Fst n T (some k)): ∃i j,i<n/\j<n/\wN n T i j k=k:=by
 by_cases z:k=1
 ·obtain⟨x,y⟩:=DE h hn ho (i:=0) (j:=0) n1 n1;exact⟨0,0,n1,n1,by have:=x.1;omega⟩
 ·have k1:=ho.1;obtain⟨i,j,hi,hj,w⟩:=RZ h hn (ho.2.2.2 (k-1) (by omega) (by omega));obtain⟨x,y⟩:=DE h hn ho hi hj;refine⟨i,j,hi,hj,Nat.le_antisymm y (Y7 λv=>w (x.2.1 (k-1) (by omega)))⟩
theorem AB (h:Sq n e T){o:List Nat}(ho:Ordr n o)(hn:n<=8){k i j:Nat}(hi:i<n)(hj:j<n):RP n (Xk n o T) k i j↔RP n T k (o.idxOf i) (o.idxOf j):=by
 unfold RP;rw [<-BD h ho hn,vk hi hj]
end
def PF (l:List Int):Int:=l.foldr max 0
theorem DF: ∀ {l:List Int} {x:Int},x∈l->x<=PF l
 |y::l,x,h=>by
  show x<=max y (PF l);rcases R6.mp h with e|e
  ·omega
  ·have:=DF e;omega
theorem DG: ∀l:List Int,PF l=0\/PF l∈l
 | []=> .inl rfl
 |y::l=>by
  have e:PF (y::l)=max y (PF l):=rfl;rcases DG l with z|z
  ·by_cases w:y<=0
   ·left;omega
   ·right;rw [e,z,show max y 0=y by omega];exact D0
  ·by_cases w:y<=PF l
   ·right;rw [e,show max y (PF l)=PF l by omega];exact D5 _ z
   ·right;rw [e,show max y (PF l)=y by omega];exact D0
theorem SV {l:List Int}{m:Int}(h1:m∈l)(h2: ∀x∈l,x<=m)(nn: ∀x∈l,0<=x):m=PF l:=by
 have a:=DF h1;rcases DG l with z|z
 ·have:=nn m h1;omega
 ·have:=h2 _ z;omega
section
variable {n e:Nat}{T:List (List Int)}
theorem Mc (h:Sq n e T)(hn:n<=8){k m:Nat}(ho:Fst n T (some k))(m1:1<=m)(f:jP (zF n T m)=true):k<=m:=Y7 λz=>by
 have:=ho.2.2.2 m m1 z;rw [f] at this;cases this
theorem Fn (h:Sq 1 e T){k:Nat}(ho:Fst 1 T (some k)):k=1:=by
 have r:=Uw h (by decide) ho (show k<=(k-1)+1 by have:=ho.1;omega) (i:=0) (j:=0) (by decide) (by decide);obtain⟨c,hc,_,b⟩:=(zJ h (by decide) (k-1) 1 (by decide) (by decide)).mp r;have:c=0:=by omega
 subst this;have:=Mc h (by decide) ho (m:=1) (P0 _) ((vN h (by decide)).mpr λi j hi hj=>by rw [show i=0 by omega,show j=0 by omega];exact b);have:=ho.1;omega
theorem KW (h:Sq n e T)(n1:1<=n)(h6:n<=6){k:Nat}(ho:Fst n T (some k)):(k:Int)<=Xz n T/\Xz n T<=((n:Int)-1)*((n:Int)-1)+1:=by
 have hn:n<=8:=by omega
 have k1:=ho.1;have all: ∀m,k<=m-> ∀i j,i<n->j<n->RP n T m i j:=λm hm i j hi hj=>Uw h hn ho hm hi hj
 have lm:=Xn (r:=Ma n T) (by unfold Ma;simp);have in1:((n:Int)-1)*((n:Int)-1)+1∈Ma n T:=by unfold Ma;simp
 have sq0:0<=((n:Int)-1)*((n:Int)-1):=fQ (by omega) (by omega);have cast1:((n:Int)-1)=((n-1:Nat):Int):=by omega
 constructor
 ·have each: ∀x∈Ma n T,(k:Int)<=x\/k=1:=λx hx=>by
   by_cases n2:2<=n
   ·unfold Ma at hx;rcases D9.mp hx with hx|hx
    ·rcases D9.mp hx with hx|hx
     ·left;rw [G9.mp hx];obtain⟨m,m1,mb,fm⟩:=Cf h hn n2 all;have:=Mc h hn ho m1 fm;rw [cast1];have:((k:Nat):Int)<=(((n-1)*(n-1)+1:Nat):Int):=by omega
      rw [aF,lK] at this;exact this
     ·left
      by_cases z:0<yp n T
      ·rw [if_pos z] at hx;rw [G9.mp hx];have cd:yp n T<=(G0 n).countP λi=>decide (ent T i i≠0):=by unfold yp;rw [List.countP_eq_length_filter];exact P0 _
       have dn:yp n T<=n:=by
        unfold yp;have:=C5 (λi=>decide (ent T i i≠0)) (G0 n)
        rwa [G5] at this
       have:=Mc h hn ho (by omega) (MV h hn all z cd);omega
      ·rw [if_neg z] at hx;cases hx
    ·left
     by_cases z:FH n T=true
     ·rw [if_pos z] at hx;rw [G9.mp hx];have em:jO n T=jO n (vj n T):=of_decide_eq_true z;have sy: ∀i j,i<n->j<n->RP n T 1 i j->RP n T 1 j i:=λi j hi hj r=>by
       have r:=(yt h hn).mp r;refine(yt h hn).mpr λw=>r ?_
       have x:ent (jO n T) i j=ent (jO n (vj n T)) i j:=by rw [<-em]
       have y:ent (jO n (vj n T)) i j=0:=(zW hi hj).mpr (by rw [zP hi hj];exact w);rw [y] at x;exact(zW hi hj).mp x
      have:=Mc h hn ho (by omega) (Oh h hn n1 k1 all sy);omega
     ·rw [if_neg z] at hx;cases hx
   ·right;have:n=1:=by omega
    subst this;exact Fn h ho
  have:=each _ lm.1;unfold Xz;split
  ·rcases this with z|z
   ·exact z
   ·omega
  ·rcases this with z|z<;>omega
 ·have:=lm.2 _ in1;unfold Xz;split<;>omega
end
theorem Fo (h:Sq n e T)(hn:n<=8)(n1:1<=n){o:Option Nat}(ho:Fst n T o):o≠none↔(UR T n).length=1/\OJ T n=1:=by
 constructor
 ·intro z;cases o with
  |none=>exact absurd rfl z
  |some k=>exact Dl h hn n1 (K:=k) λm hm i j hi hj=>Uw h hn ho hm hi hj
 ·rintro ⟨one,d1⟩ rfl;obtain⟨B,hB⟩:=Dk h hn one d1;have:=ho (B+1) (by omega);rw [(vN h hn).mpr (hB (B+1) (by omega))] at this;cases this
theorem Fp (T:List (List Int)):yp n (vj n T)=yp n T:=by
 unfold yp;refine congrArg W4 (a9 λi hi=> ?_);have hi:=G8.mp hi;rw [zP hi hi]
variable {o:List Nat}
theorem OL (ho:Ordr n o)(T:List (List Int)):yp n (Xk n o T)=yp n T:=by
 unfold yp;rw [a9 (q:=(λi=>decide (ent T i i≠0))∘λm=>o.idxOf m) λi hi=>by
  have hi:=G8.mp hi;show decide (ent (Xk n o T) i i≠0)=decide (ent T (o.idxOf i) (o.idxOf i)≠0);rw [vk hi hi]]
 rw [<- (oO _ ho).length_eq,<-G2 (f:=λm=>o.idxOf m),<-lW,ho.map_idx]
theorem QM:FH n T=true↔ ∀i j,i<n->j<n->(ent T i j=0↔ent T j i=0):=by
 unfold FH;rw [decide_eq_true_iff];constructor
 ·intro e i j hi hj;rw [<-zW hi hj (T:=T),e,zW hi hj,zP hi hj]
 ·exact λx=>XX λi j hi hj=>by rw [zP hi hj];exact x i j hi hj
theorem OM (T:List (List Int)):FH n (vj n T)=FH n T:=by
 rw [T7,QM,QM];exact⟨λx i j hi hj=>by have:=x j i hj hi;rwa [zP hj hi,zP hi hj] at this,λx i j hi hj=>by rw [zP hi hj,zP hj hi];exact x j i hj hi⟩
theorem SW (ho:Ordr n o)(T:List (List Int)):FH n (Xk n o T)=FH n T:=by
 rw [T7,QM,QM];refine⟨λx i j hi hj=> ?_,λx i j hi hj=>by rw [vk hi hj,vk hj hi];exact x _ _ (Av ho hi).1 (Av ho hj).1⟩;have:=x _ _ (YA ho hi).1 (YA ho hj).1
 rwa [vk (YA ho hi).1 (YA ho hj).1,vk (YA ho hj).1 (YA ho hi).1,(YA ho hi).2,(YA ho hj).2] at this
theorem ON (T:List (List Int)):Xz n (vj n T)=Xz n T:=by
 unfold Xz Ma;rw [Fp,OM]
theorem SX (ho:Ordr n o)(T:List (List Int)):Xz n (Xk n o T)=Xz n T:=by
 unfold Xz Ma;rw [OL ho,SW ho]
theorem OO {k:Nat}(hT:Sq n e T)(hn:n<=8)(hk:Fst n T (some k)):Fst n (vj n T) (some k):=Fst.to hT hT.turn hn (λk=>⟨λx i j hi hj=>(Fg hT hn hj hi).mp (x j i hj hi),λx i j hi hj=>(Fg hT hn hi hj).mpr (x j i hj hi)⟩) hk
theorem SY {k:Nat}(hT:Sq n e T)(ho:Ordr n o)(hn:n<=8)(hk:Fst n T (some k)):Fst n (Xk n o T) (some k):=Fst.to hT (hT.ren ho.ord) hn (λk=>⟨λx i j hi hj=>by
 have:=(AB hT ho hn (ho.back.ord.lt hi) (ho.back.ord.lt hj)).mp (x _ _ (ho.back.ord.lt hi) (ho.back.ord.lt hj))
 rwa [Rv ho hi,Rv ho hj] at this,λx i j hi hj=>(AB hT ho hn hi hj).mpr (x _ _ (ho.ord.lt hi) (ho.ord.lt hj))⟩) hk
def yR:RDn:=λds h Q=> ∃T o,∃n e k:Nat,ds= [jq T,jC o]/\Sq n e T/\1<=n/\n<=6/\e<=1000/\Ordr n o/\Fst n T (some k)/\Q (.bl true) h
theorem Wc (Z:Zs mg)(F:Fun K "_law_bound_right" "_law_bound_right" wD f fd)(Wd:jg P w K mg base n "bound_for" ["table"] YG)(jQ:jg P w K mg base n "first_power" ["table"] zE)(QP:jg P w K mg base n "first_pairs" ["table"] ZA)(zM:jg P w K mg base n "slowest_power" ["size"] wf)(Ft:jg P w K mg base n "meeting" ["table"] XB)(QN:jg P w K mg base n "first_holds" ["table","thing"] Zz)(DP:jg P w K mg base n "why_first" ["table"] YF)(Fv:jg P w K mg base n "renamed" ["table","order"] Xy)(QR:jg P w K mg base n "turned" ["table"] Us):FnOk P w K mg base CX0 (n+1) f fd ["_law_table","_law_order_here"] (LSp K yR):=by
 refine F.okM wr (λhr=>(jd (uL (i:=2) (j:=3) rfl wr.nd rfl rfl (by decide) rfl rfl (j2 (jk jQ hr (j1 (jv 0))) (jk Wd hr (j1 (jv 0)))) rfl) (by exact(jd (Zn (jpt (Rn (yy (Bv PL PL (jv 2) (jv 3) (jk zM hr (j1 (Jo Z (jv 0)))))) (Mx (jt1 (Al hr.units) (ze (PZ rfl) rfl Z.max (by decide +kernel) (j1 (jl0 4 wr (jY (jk QP hr (j1 (jv 0)))) (λ_ _ _ _=>(ze (PZ rfl) rfl Z.max (by decide +kernel) (j1 (jv 4))))))) (jv 2))))) (jf (jZ jbl)) jN) (by exact(jd (Zn (jpt (Rn (yy (wx (jk QN hr (j2 (jv 0) (jk DP hr (j1 (jv 0))))))) (Mx (jt1 Le (jk Ft hr (j1 (jv 0))) (jv 2))))) (jf (jZ jbl)) jN) (by exact(jf (jZ (PC (jc1 (Jc hr.units) (jk Wd hr (j1 (jk QR hr (j1 (jv 0))))) (jv 3)) (Mz (jc1 (Jc hr.units) (jk Wd hr (j1 (jk Fv hr (j2 (jv 0) (jv 1))))) (jv 3))))))))))))) ?_;rintro ds h Q ⟨T,o,n,b,k,rfl,hT,h1,h6,hb,ho,hk,q⟩;refine⟨rfl,?_⟩;have hn:n<=8:=by omega
 have hlen:(((T.map Jr).length:Nat):Int)=(n:Int):=by rw [G2,hT.len]
 obtain⟨bk,bs⟩:=KW hT h1 h6 hk;have k1:=hk.1;have k30:=hk.2.1;have pl: ∀i j,i<n->j<n->AA n T i j (wN n T i j k)/\wN n T i j k<=k:=λi j hi hj=>DE hT hn hk hi hj
 have hP:Sq n 10 (mkT n λi j=>(wN n T i j k:Int)):=Sq.of_mk (λi j _ _=>by omega) λi j hi hj=>by
  have:=(pl i j hi hj).2;have e:(2:Int)^10=1024:=by decide
  rw [e];show (wN n T i j k:Int)<1024;omega
 have mrow: ∀i,i<n->((mkT n λi j=>(wN n T i j k:Int))).getD i []=(G0 n).map λj=>(wN n T i j k:Int):=λi hi=>by
  unfold mkT;rw [P5,P1,T5 hi];rfl
 refine jA [some (jq T),some (jC o),some (.int (k:Int)),some (.int (Xz n T)),none] (λC hC=>⟨_,rfl,T,n,b,some k,rfl,hT,h1,h6,hb,hk,_,rfl,T,n,b,k,rfl,hT,h1,h6,hb,hk,_,_,rfl,hC⟩) ?_;have top: ∀m:Int,m∈((mkT n λi j=>(wN n T i j k:Int))).map PF->(∀x∈((mkT n λi j=>(wN n T i j k:Int))).map PF,x<=m)->m=(k:Int):=λm m1 m2=>by
  have mem: ∀r,r∈(mkT n λi j=>(wN n T i j k:Int))↔ ∃i,i<n/\r=(G0 n).map λj=>(wN n T i j k:Int):=λr=>by
   unfold mkT;rw [D6];exact⟨λ⟨i,hi,e⟩=>⟨i,G8.mp hi,e.symm⟩,λ⟨i,hi,e⟩=>⟨i,G8.mpr hi,e.symm⟩⟩
  obtain⟨r,hr,rfl⟩:=D6.mp m1;obtain⟨i,hi,rfl⟩:=(mem r).mp hr;obtain⟨a,c,ha,hc,eac⟩:=OK hT hn h1 hk;have u1:(k:Int)<=PF ((G0 n).map λj=>(wN n T a j k:Int)):=DF (D6.mpr ⟨c,G8.mpr hc,by show ((wN n T a c k:Nat):Int)=_;rw [eac]⟩);have u2:=m2 _ (D6.mpr ⟨_,(mem _).mpr ⟨a,ha,rfl⟩,rfl⟩);have u3:PF ((G0 n).map λj=>(wN n T i j k:Int))<=(k:Int):=by
   rcases DG ((G0 n).map λj=>(wN n T i j k:Int)) with z|z
   ·omega
   ·obtain⟨j,hj,ej⟩:=D6.mp z;have:=(pl i j hi (G8.mp hj)).2;omega
  omega
 refine jA [some (jq T),some (jC o),some (.int (k:Int)),some (.int (Xz n T)),none] (λC hC=>⟨_,rfl,_,rfl,?_⟩) ?_
 ·show ∃c,D.bl (decide ((k:Int)<=Xz n T))= .bl c/\_;rw [decide_eq_true bk];refine⟨_,rfl,vq ⟨_,rfl,n,by show [D.int (((T.map Jr).length:Nat):Int)]=_;rw [hlen],h1,h6,?_⟩⟩;show ∃c,D.bl (decide (Xz n T<=((n:Int)-1)*((n:Int)-1)+1))= .bl c/\_;rw [decide_eq_true bs];refine⟨_,rfl,wO ?_⟩;refine jap (mkT n λi j=>(wN n T i j k:Int)) Jr PF (by rw [hP.len];omega) rfl (λR r=>⟨_,rfl,T,n,b,k,rfl,hT,h1,h6,hb,hk,r⟩) (λr hr Q' q'=> ?_) (λz=>by have:=hP.len;rw [z] at this;simp at this;omega) (λm m1 m2=>⟨_,rfl,?_⟩)
  ·have hl:=hP.row r hr;refine⟨_,rfl,r,_,λz=> ?_,Sub.refl _,.inl rfl,λm m1 m2=> ?_⟩
   ·rw [z] at hl;simp at hl;omega
   ·rw [SV m1 m2 λx hx=>(hP.nn r hr x hx)];exact q'
  ·show ∃c,D.bl (!decide (m=(k:Int)))= .bl c/\_;rw [decide_eq_true (top m m1 m2)];exact⟨_,rfl,wO (hC)⟩
 have wk: ∀i j,i<n->j<n->WalkOk T n (wn T n j k i 0) i j k:=λi j hi hj=>xp hT hi hj ((RU hT hn hj k hi).mpr (Uw hT hn hk (P0 _) hi hj))
 refine jA [some (jq T),some (jC o),some (.int (k:Int)),some (.int (Xz n T)),none] (λC hC=>⟨_,rfl,_,rfl,T,n,b,some k,rfl,hT,h1,h6,hb,hk,.inr ⟨k,rfl,λg ig=>⟨T,_,g,n,b,k,(k:Int),rfl,hT,h1,h6,k1,by omega,wk,.inr ⟨rfl,ig,_,rfl,wO ⟨_,rfl,T,n,b,k,rfl,hT,h1,h6,hb,hk,λm m1 mk=>⟨_,rfl,_,rfl,?_⟩⟩⟩⟩⟩⟩) ?_
 ·show if decide ((k:Int)<(m:Int))=true then _ else _
  rw [decide_eq_false (by omega)];exact wO (hC)
 refine⟨_,rfl,T,n,b,rfl,hT,h1,h6,vj n T,n,b,k,rfl,hT.turn,h1,h6,hb,OO hT hn hk,_,rfl,?_⟩;show ∃c,D.bl (decide (Xz n (vj n T)=Xz n T))= .bl c/\_;rw [decide_eq_true (ON T)];refine⟨_,rfl,vq ⟨_,rfl,_,rfl,T,n,b,o,rfl,hT,ho,h1,h6,Xk n o T,n,b,k,rfl,hT.ren ho.ord,h1,h6,hb,SY hT ho hn hk,_,rfl,?_⟩⟩;show ∃h',Sub h' h/\Q (.bl (decide (Xz n (Xk n o T)=Xz n T))) h';rw [decide_eq_true (SX ho T)];exact⟨h,Sub.refl h,q⟩
theorem OP {h:HD}{A B:Addr}{ns:List Int}{Q:KD}(k:h A=some (ns.map D.int))(k':h B=some (ns.map D.int))(q:Q (.bl true) h):eqE (.lst A) (.lst B) h Q:=
 ⟨.list (ns.map .int),.list (ns.map .int),⟨A,_,rfl,k,zV h ns⟩,⟨B,_,rfl,k',zV h ns⟩,wR _,wR _,by rw [show M8 (.list (ns.map .int)) (.list (ns.map .int))=true from (WT ns ns).trans (decide_eq_true rfl)];exact q⟩
theorem OQ (h2:2<=n)(h6:n<=6):Fst n (JU n) (some ((n-1)*(n-1)+1)):=by
 have x: ∀n,2<=n->n<=6->jP (zF n (JU n) ((n-1)*(n-1)+1))=true/\ ∀j,j<(n-1)*(n-1)+1->1<=j->jP (zF n (JU n) j)=false:=by
  intro n a b;rcases (show n=2\/n=3\/n=4\/n=5\/n=6 by omega) with e|e|e|e|e<;>subst e<;>decide +kernel
 refine⟨by omega,?_,(x n h2 h6).1,λj j1 j2=>(x n h2 h6).2 j j2 j1⟩;rcases (show n=2\/n=3\/n=4\/n=5\/n=6 by omega) with e|e|e|e|e<;>subst e<;>decide
theorem Fq (h2:2<=n)(h6:n<=6):((((n-1)*(n-1)+1:Nat)):Int)=((n:Int)-1)*((n:Int)-1)+1:=by
 rcases (show n=2\/n=3\/n=4\/n=5\/n=6 by omega) with e|e|e|e|e<;>subst e<;>decide
theorem Fr (h2:2<=n)(h6:n<=6):((Xu (Jm (JU n)) n n).map W4).Perm [n-1,n]:=by
 rcases (show n=2\/n=3\/n=4\/n=5\/n=6 by omega) with e|e|e|e|e<;>subst e<;>decide +kernel
theorem SZ {r:RDn}{b:D->SD->SD->Prop}{js:List Nat}{ti:TID}{tt:TTD}{te:TED}{σ:SD}{h:HD}{Q:KD}(x:ti σ h λj h1=>vL b js (λ_ _ R=>R j h1) tt te σ h1 λv h2=>r [v] h2 Q):dCB r (zh (vL b js ti tt te) Zv) σ h Q:=x
def vb:RDn:=λds h Q=> ∃n:Nat,ds= [.int (n:Int)]/\2<=n/\n<=6/\Q (.bl true) h
theorem WJ (Z:Zs mg)(F:Fun K "_law_slow_right" "_law_slow_right" wV f fd)(Pt:jg P w K mg base n "slow_table" ["size"] WH)(kb:jg P w K mg base n "beat" ["table"] Fm)(jQ:jg P w K mg base n "first_power" ["table"] zE)(zM:jg P w K mg base n "slowest_power" ["size"] wf)(JY:jg P w K mg base n "all_rounds" ["table"] vY):FnOk P w K mg base CX0 (n+1) f fd ["_law_size_here"] (LSp K vb):=by
 refine F.okM wE (λhr=>(jd (jse 1 wE (jk Pt hr (j1 (jv 0)))) (by exact(jd (Zn (jpt (Rn (jt1 (Al hr.units) (jk jQ hr (j1 (jv 1))) (jk zM hr (j1 (jv 0)))) (Mx (jt1 oq_ne (jk kb hr (j1 (jv 1))) jF)))) (jf (jZ jbl)) jN) (by exact(jf (jZ (jc1 (Jc hr.units) (ze Gq rfl Z.sorted (by decide +kernel) (j1 (jl0 2 wE (jY (jk JY hr (j1 (jv 1)))) (λ_ _ _ _=>(Jo Z (jv 2)))))) (PR (j2 (jop yr (jv 0) jF) (jv 0))))))))))) ?_;rintro ds h Q ⟨n,rfl,h2,h6,q⟩;refine⟨rfl,?_⟩;have h8:n<=8:=by omega
 have h1:1<=n:=by omega
 have hT:=SS h1 h6;have hk:=OQ h2 h6;obtain⟨one,bt⟩:=(Fo hT h8 h1 hk).mp (by intro z;cases z);refine jA [some (.int (n:Int)),some (jq (JU n)),none] (λC hC=>⟨_,rfl,n,rfl,h2,h6,hC⟩) ?_;refine jA [some (.int (n:Int)),some (jq (JU n)),none] (λC hC=>⟨_,rfl,JU n,n,1,_,rfl,hT,h1,h6,by decide,hk,_,rfl,n,rfl,h1,h6,?_⟩) ?_
 ·show ∃c,D.bl (!decide ((((n-1)*(n-1)+1:Nat):Int)=((n:Int)-1)*((n:Int)-1)+1))= .bl c/\_;rw [decide_eq_true (Fq h2 h6)];refine⟨_,rfl,wO ⟨_,rfl,JU n,n,1,rfl,hT,h1,h6,one,_,rfl,?_⟩⟩;show if (!decide (((OJ (JU n) n:Nat):Int)=1))=true then _ else _
  rw [decide_eq_true (by omega)];exact wO (hC)
 have perm:((rounds (JU n) n).map W4).Perm [n-1,n]:=((Zl _).map _).trans (Fr h2 h6);have rl:(rounds (JU n) n).length=2:=by have:=perm.length_eq;rw [G2] at this;exact this
 refine SZ ⟨_,rfl,JU n,n,1,rfl,hT,h1,h6,λA h' fA kA sb=> ?_⟩;refine lcA (j:=λh=>h A) (rounds (JU n) n) jC (λw=> .int ((w.length:Nat):Int)) (by rw [rl];decide) kA (λR r=>r) (λw hw Q' q'=>⟨_,rfl,?_⟩) (λP eP=> ?_)
 ·show Q' (.int (((w.map λ(k:Nat)=>D.int (k:Int)).length:Nat):Int)) h';rw [G2];exact q'
 ·refine⟨(rounds (JU n) n).map λw=>((w.length:Nat):Int),.inr ⟨P,rfl,by rw [jc,R3];rfl⟩,by rw [G2,rl];decide,λB ms eB pm rs=>⟨_,rfl,_,rfl,sz2,λE eE=> ?_⟩⟩;have e:ms= [(n:Int)-1,(n:Int)]:=by
   refine aC (le:=(· <= ·)) (λa b _ _ x y=>by omega) rs (by simp;omega) (pm.trans ?_);have:=perm.map λ(k:Nat)=>(k:Int)
   rw [R3] at this;rw [show ([(n:Int)-1,(n:Int)]:List Int)= [n-1,n].map λ(k:Nat)=>(k:Int) from by simp only [T3,U2];rw [show (n:Int)-1=((n-1:Nat):Int) by omega]];exact this
  subst e;exact OP (ns:= [(n:Int)-1,(n:Int)]) (ju jc eE) jc ⟨h,((sb.newAt eP).newAt eB).newAt eE,q⟩
theorem KY (Z:Zs mg)(F:Fun K "law" "law" Nd f fd)(DH:jg P w K mg base n "_law_cell" ["_law_script","_law_k"] YK)(Nk:jg P w K mg base n "_law_pen" ["_law_cell_here"] Ux)(DI:jg P w K mg base n "_law_size" ["_law_pen_here"] YL)(Yn:jg P w K mg base n "_law_good_table" ["_law_pen_here","_law_size_here"] va)(JX:jg P w K mg base n "_law_order" ["_law_pen_here","_law_many"] vZ)(vc:jg P w K mg base n "_law_bound_right" ["_law_table","_law_order_here"] yR)(jQ:jg P w K mg base n "first_power" ["table"] zE)(Yo:jg P w K mg base n "_law_slow_right" ["_law_size_here"] vb)(jX:jg P w K mg base n "_law_draw" ["_law_pen_here","_law_many"] ye):FnOk P w K mg base CX0 (n+1) f fd ["_law_script"] (LSp K Bl):=by
 refine F.okM Wz (λhr=>(jd (Nz N5 rfl (EG (jop wt (PR (j1 (jk DH hr (j2 (jv 0) jF)))) (Gu (jv 0) (WQ jF) (WQ jF)))) (jgn 1 Wz) (jd (jse 2 Wz (jk Nk hr (j1 (jv 1)))) (by exact(jd (jse 3 Wz (jk DI hr (j1 (jv 2)))) (by exact(jd (jse 4 Wz (jk Yn hr (j2 (jv 2) (jv 3)))) (by exact(jd (jse 5 Wz (jk JX hr (j2 (jv 2) (jv 3)))) (by exact(jd (jse 6 Wz (jM jH rfl Z.tuple (by decide +kernel) (j1 (jl0 7 Wz (jrg Z (jv 3)) (λ_ _ _ _=>(jM jH rfl Z.tuple (by decide +kernel) (j1 (jl0 8 Wz (jrg Z (jv 3)) (λ_ _ _ _=>(jop wt (ji1 (ji1 (jv 4) (jv 7)) (jv 8)) (ji1 (ji1 (jv 4) (jv 8)) (jv 7)))))))))))) (by exact(jd (Zn (jpt (Rn (yy (wx (jk vc hr (j2 (jv 4) (jv 5))))) (Mx (jpt (Lo (jt1 Lk (jk jQ hr (j1 (jv 6))) Lm) (Ln (yy (wx (jk vc hr (j2 (jv 6) (jv 5))))))))))) (jf (jZ jbl)) jN) (by exact(jf (Zn (yy (wx (jk Yo hr (j1 (jop wt jF (jk jX hr (j2 (jv 2) jF))))))) (jf (jZ jbl)) jN))))))))))))))) (by exact(jf (jZ jbl))))) ?_;rintro ds h Q ⟨ns,rfl,hh,hns,q⟩;refine⟨rfl,?_⟩;refine ji (λoV h'=>True) (λC hC=> ?_) (λoV h3 hV=>⟨h3,Sub.refl _,q h3⟩);refine⟨_,rfl,ns,0,rfl,(by decide),λn0=>⟨sz1,λp1 e1=>⟨_,rfl,_,rfl,_,rfl,λp2 e2=>⟨_,_,ju jc e2,jc,?_,λp3 e3=>⟨p3,rfl,?_⟩⟩⟩⟩⟩
 ·have:(UI ns (some 1) (some 3)).length<=ns.length:=by unfold UI;rw [R7,S8];omega
  rw [G2];exact R1 (jw (by simp only [R0,M1];omega))
 generalize hcs:([D.int n0]++(UI ns (some 1) (some 3)).map D.int)=cs;have hint: ∀d∈cs,∃c,d= .int c:=λd hd=>by
  rw [<-hcs] at hd;rcases D9.mp hd with z|z
  ·exact⟨n0,G9.mp z⟩
  ·obtain⟨x,_,e⟩:=D6.mp z;exact⟨x,e.symm⟩
 refine Jv cs (λi oV h'=> ∃a1 a2 a3 a4 a5 a6 a7 a8,oV= [some (.scr ns),a1,a2,a3,a4,a5,a6,a7,a8]/\h' p3=some cs) (λi oV h' ⟨_,_,_,_,_,_,_,_,_,k⟩=>k) ⟨_,_,_,_,_,_,_,_,rfl,jc⟩ (λoV h' _=>hC _ _ cI) ?_;rintro i d _ h4 hi ⟨b1,b2,b3,b4,b5,b6,b7,b8,rfl,k3⟩;obtain⟨c,rfl⟩:=hint d (P4 hi);have hil:i<cs.length:=(P3.mp hi).1;show FC _ _ _ [some (.scr ns),some (.int c),b2,b3,b4,b5,b6,b7,b8] h4;refine ji (λoV h'=> ∃p l fl,oV= [some (.scr ns),some (.int c),some (.lst p),b3,b4,b5,b6,b7,b8]/\h' p=some [.int l,.int fl]/\0<=l/\h' p3=some cs/\p3≠p) (λC hC=> ?_) ?_
 ·refine⟨_,rfl,c,rfl,λp l fl ep l0 _=>hC _ _ ⟨p,l,fl,rfl,jc,l0,ju k3 ep,A4 (zB k3 ep)⟩⟩
 rintro _ h5 ⟨p,l,fl,rfl,kp,l0,k3,n3⟩;refine ji (λoV h'=> ∃ (n:Nat) (l2:Int),oV= [some (.scr ns),some (.int c),some (.lst p),some (.int (n:Int)),b4,b5,b6,b7,b8]/\1<=n/\n<=6/\h' p=some [.int l2,.int fl]/\0<=l2/\h' p3=some cs) (λC hC=>⟨_,rfl,p,l,fl,rfl,kp,l0,λn l2 n1 n6 l20=>hC _ _ ⟨n,l2,rfl,n1,n6,jc,l20,jz n3 k3⟩⟩) ?_;clear kp l0 k3;rintro _ h6 ⟨n,l2,rfl,n1,n6,kp,l20,k3⟩;refine ji (λoV h'=> ∃ (T:List (List Int)) (l2:Int),oV= [some (.scr ns),some (.int c),some (.lst p),some (.int (n:Int)),some (jq T),b5,b6,b7,b8]/\GoodTab n T/\(∃K,1<=K/\jP (zF n T K)=true)/\h' p=some [.int l2,.int fl]/\0<=l2/\h' p3=some cs) (λC hC=>⟨_,rfl,_,rfl,p,l2,fl,n,rfl,kp,l20,n1,n6,λT l3 gT pr l30=>hC _ _ ⟨T,l3,rfl,gT,pr,jc,l30,jz n3 k3⟩⟩) ?_;clear kp l20 k3;rintro _ h7 ⟨T,l2,rfl,gT,⟨K,K1,fK⟩,kp,l20,k3⟩;have hn:n<=8:=by omega
 have hT:=gT.sq;obtain⟨r,hk⟩:=Ay hT n1 n6;obtain⟨k,rfl⟩: ∃k,r=some k:=by
  cases r with
  |none=>have:=hk K K1;rw [fK] at this;cases this
  |some k=>exact⟨k,rfl⟩
 refine ji (λoV h'=> ∃ (o:List Nat) (l2:Int),oV= [some (.scr ns),some (.int c),some (.lst p),some (.int (n:Int)),some (jq T),some (jC o),b6,b7,b8]/\Ordr n o/\h' p=some [.int l2,.int fl]/\0<=l2/\h' p3=some cs) (λC hC=>⟨_,rfl,_,rfl,p,l2,fl,n,rfl,kp,l20,n6,λo l3 ho l30=>hC _ _ ⟨o,l3,rfl,ho,jc,l30,jz n3 k3⟩⟩) ?_;clear kp l20 k3;rintro _ h8 ⟨o,l2,rfl,ho,kp,l20,k3⟩;have hE:Sq n 21 (mkT n λi j=>ent T i j+ent T j i):=Sq.of_mk (λi j hi hj=>by have:=(hT.ent_nn hi hj).1;have:=(hT.ent_nn hj hi).1;omega) λi j hi hj=>by
  have:=(hT.ent_nn hi hj).2;have:=(hT.ent_nn hj hi).2;have e1:(2:Int)^20=1048576:=by decide
  have e2:(2:Int)^21=2097152:=by decide
  omega
 refine ji (λoV h'=>oV= [some (.scr ns),some (.int c),some (.lst p),some (.int (n:Int)),some (jq T),some (jC o),some (jq (mkT n λi j=>ent T i j+ent T j i)),b7,b8]/\h8=h') (λC hC=> ?_) ?_
 ·refine QZ (j:=λ_=>some ((G0 n).map λ(i:Nat)=>D.int (i:Int))) (G0 n) (λi=> .int (i:Int)) (λi=> .tup ((G0 n).map λj=> .int (ent T i j+ent T j i))) (by rw [G5];omega) rfl (λR r=>⟨_,rfl,(n:Int),rfl,by omega,by omega,r⟩) (λi hi Q' q'=> ?_) (hC _ _ ⟨by rw [Gy n λi j=>ent T i j+ent T j i];rfl,rfl⟩);have hi:=G8.mp hi;refine QZ (j:=λ_=>some ((G0 n).map λ(i:Nat)=>D.int (i:Int))) (G0 n) (λi=> .int (i:Int)) (λj=> .int (ent T i j+ent T j i)) (by rw [G5];omega) rfl (λR r=>⟨_,rfl,(n:Int),rfl,by omega,by omega,r⟩) (λj hj Q2 q2=> ?_) q';have hj:=G8.mp hj;exact⟨_,rfl,_,rfl,_,yi hT hi,_,rfl,_,yj (hT.row _ (Sq.getRow hT hi)) hj,_,rfl,_,rfl,_,yi hT hj,_,rfl,_,yj (hT.row _ (Sq.getRow hT hj)) hi,q2⟩
 rintro _ _ ⟨rfl,rfl⟩;obtain⟨r,hr⟩:=Ay hE n1 n6;refine jA [some (.scr ns),some (.int c),some (.lst p),some (.int (n:Int)),some (jq T),some (jC o),some (jq (mkT n λi j=>ent T i j+ent T j i)),b7,b8] (λC hC=>⟨_,rfl,_,rfl,T,o,n,20,k,rfl,hT,n1,n6,by decide,ho,hk,_,rfl,wO ⟨_,rfl,(mkT n λi j=>ent T i j+ent T j i),n,21,r,rfl,hE,n1,n6,by decide,hr,?_⟩⟩) ?_
 ·cases r with
  |none=>exact⟨_,rfl,wO (wO (hC))⟩
  |some k'=>exact⟨_,rfl,vq ⟨_,rfl,_,rfl,(mkT n λi j=>ent T i j+ent T j i),o,n,21,k',rfl,hE,n1,n6,by decide,ho,hr,_,rfl,wO (hC)⟩⟩
 refine⟨_,rfl,p,l2,fl,5,rfl,kp,l20,by decide,by decide,λx l3 x0 x1 l30=>⟨(2+x).toNat,?_,by omega,by omega,_,rfl,wO ⟨_,Sub.refl _,hil,_,_,_,_,_,_,_,_,rfl,jz n3 k3⟩⟩⟩;rw [bY (by omega)]
end
theorem KZ {l:PySem.W.OpenLaw}{w:N2}{K:PySem.W.Frag}{h:Heap}{mg:Str->Option G3}{fa:Addr}(X:K.In h)(G:h.Ns mainGlobals mg)(hfa:mg "law" =some (.ref fa))
 (d0:DefIn K "is_whole" Ya fu0 eu0)
 (d1:DefIn K "is_within" ZM fu1 eu1)
 (d2:DefIn K "is_from" Uf fu2 eu2)
 (d3:DefIn K "is_place" Yb fu3 eu3)
 (d4:DefIn K "are_places" Jy fu4 eu4)
 (d5:DefIn K "rises" Dp fu5 eu5)
 (d6:DefIn K "is_set" Qk fu6 eu6)
 (d7:DefIn K "is_order" Yc fu7 eu7)
 (d8:DefIn K "is_table_row" vp fu8 eu8)
 (d9:DefIn K "has_table_form" yl fu9 eu9)
 (d10:DefIn K "want_table" JB fu10 eu10)
 (d11:DefIn K "want_place" JC fu11 eu11)
 (d12:DefIn K "want_set" Yd fu12 eu12)
 (d13:DefIn K "want_order" JD fu13 eu13)
 (d14:DefIn K "want_number" vO fu14 eu14)
 (d15:DefIn K "step_after" JF fu15 eu15)
 (d16:DefIn K "set_after" ZN fu16 eu16)
 (d17:DefIn K "multiplied" JH fu17 eu17)
 (d18:DefIn K "full" CV fu18 eu18)
 (d19:DefIn K "marks" Ds fu19 eu19)
 (d20:DefIn K "turned" Qp fu20 eu20)
 (d21:DefIn K "renamed" Uh fu21 eu21)
 (d22:DefIn K "marks_after" vQ fu22 eu22)
 (d23:DefIn K "marks_and_return" wB fu23 eu23)
 (d24:DefIn K "marks_at" Ye fu24 eu24)
 (d25:DefIn K "all_marks" ZO fu25 eu25)
 (d26:DefIn K "marks_of" Yf fu26 eu26)
 (d27:DefIn K "heads" Dt fu27 eu27)
 (d28:DefIn K "has_walk_form" yN fu28 eu28)
 (d29:DefIn K "want_ends_and_steps" zK fu29 eu29)
 (d30:DefIn K "counts_to" ZP fu30 eu30)
 (d31:DefIn K "next_place" JJ fu31 eu31)
 (d32:DefIn K "walk_of_number" ym fu32 eu32)
 (d33:DefIn K "first_walk" JK fu33 eu33)
 (d34:DefIn K "first_power" vR fu34 eu34)
 (d35:DefIn K "want_first_power" wC fu35 eu35)
 (d36:DefIn K "is_walk_between" wT fu36 eu36)
 (d37:DefIn K "are_walks_from" yn fu37 eu37)
 (d38:DefIn K "are_all_walks" yO fu38 eu38)
 (d39:DefIn K "are_sets" Yg fu39 eu39)
 (d40:DefIn K "take_in_arrows" yo fu40 eu40)
 (d41:DefIn K "is_gap" Qq fu41 eu41)
 (d42:DefIn K "first_holds" vS fu42 eu42)
 (d43:DefIn K "nought_of" ZR fu43 eu43)
 (d44:DefIn K "gap_ahead" ZS fu44 eu44)
 (d45:DefIn K "why_first" ZT fu45 eu45)
 (d46:DefIn K "slow_table" JL fu46 eu46)
 (d47:DefIn K "slowest_power" yP fu47 eu47)
 (d48:DefIn K "bound_for" ZU fu48 eu48)
 (d49:DefIn K "reaches" Uk fu49 eu49)
 (d50:DefIn K "pieces_by" ZV fu50 eu50)
 (d51:DefIn K "pieces" Qr fu51 eu51)
 (d52:DefIn K "joined" Qs fu52 eu52)
 (d53:DefIn K "greatest_into" yQ fu53 eu53)
 (d54:DefIn K "all_rounds" JM fu54 eu54)
 (d55:DefIn K "beat" CZ fu55 eu55)
 (d56:DefIn K "behind_last_nought" zS fu56 eu56)
 (d57:DefIn K "rows_meet" ZW fu57 eu57)
 (d58:DefIn K "first_pairs" vT fu58 eu58)
 (d59:DefIn K "meeting" Ul fu59 eu59)
 (d60:DefIn K "_law_cell" ZX fu60 eu60)
 (d61:DefIn K "_law_pen" Yh fu61 eu61)
 (d62:DefIn K "_law_draw" ZY fu62 eu62)
 (d63:DefIn K "_law_size" ZZ fu63 eu63)
 (d64:DefIn K "_law_order" JN fu64 eu64)
 (d65:DefIn K "_law_good_table" wU fu65 eu65)
 (d66:DefIn K "_law_bound_right" wD fu66 eu66)
 (d67:DefIn K "_law_slow_right" wV fu67 eu67)
 (d68:DefIn K "law" Nd fu68 eu68)
 {tk0:Tok}(v0:PySem.W.nsIn K mainGlobals "MOST_ROWS" =some (some (.int 6 tk0)))
 {tk1:Tok}(v1:PySem.W.nsIn K mainGlobals "MOST_STEPS_afters" =some (some (.int 1000000000 tk1)))
 {tk2:Tok}(v2:PySem.W.nsIn K mainGlobals "MOST_POWER" =some (some (.int 1000000000000000000000000000000 tk2)))
 {tk3:Tok}(v3:PySem.W.nsIn K mainGlobals "MOST_STEPS_walks" =some (some (.int 40 tk3)))
 (z:zsB K=true)
 : ∃fd:D8,(∀ (s:G6) (v:G3),l7 s fd ⟨[v],[]⟩ [("_law_script",v)])/\ ∀base:Heap,K.In base->base.Ns mainGlobals mg->Bm mg base->FnOk l.prog w K mg base CX0 13 fa fd ["_law_script"] (LSp K Bl):=by
 have e:=hfa.symm.trans (d68.nm X G);cases e;have zm: ∃tk,mg "MOST_ROWS" =some (.int 6 tk):=⟨_,PySem.W.mg_of X G v0⟩;have wq: ∃tk,mg "MOST_STEPS_afters" =some (.int 1000000000 tk):=⟨_,PySem.W.mg_of X G v1⟩;have Zb: ∃tk,mg "MOST_POWER" =some (.int 1000000000000000000000000000000 tk):=⟨_,PySem.W.mg_of X G v2⟩;have wH: ∃tk,mg "MOST_STEPS_walks" =some (.int 40 tk):=⟨_,PySem.W.mg_of X G v3⟩;have Z:=xn X G z;obtain⟨_,_,kV,dc,pm,an,cd,ct,_,rfl,_⟩:=d68.fn.ex;refine⟨PySem.W.fnOf "law" "law" (Jt Nd) (yh Nd) (je Nd) .none kV dc pm an cd ct,λs v=> .of_eq rfl,λbase _ _ B=> ?_⟩;have Yv:=λn=>d0.cal l w base X G (Du (n:=n+0) Z d0.fn)
 have UF:=λn=>d1.cal l w base X G (GY (n:=n+1) Z d1.fn (Yv (n+0)))
 have Fw:=λn=>d2.cal l w base X G (Nf (n:=n+1) Z d2.fn (Yv (n+0)))
 have Yt:=λn=>d3.cal l w base X G (Dv (n:=n+2) Z d3.fn (UF (n+0)))
 have Zc:=λn=>d4.cal l w base X G (Qw (n:=n+3) Z d4.fn (Yt (n+0)))
 have Tb:=λn=>d5.cal l w base X G (OB (n:=n+0) Z d5.fn)
 have Md:=λn=>d6.cal l w base X G (Fc (n:=n+4) Z d6.fn (Tb (n+3)) (Zc (n+0)))
 have Nt:=λn=>d7.cal l w base X G (Dw (n:=n+4) Z d7.fn (Zc (n+0)))
 have Xa:=λn=>d8.cal l w base X G (Uq (n:=n+1) Z d8.fn (Yv (n+0)))
 have Vd:=λn=>d9.cal l w base X G (Yi (n:=n+2) Z d9.fn (Xa (n+0)) zm)
 have jK:=λn=>d10.cal l w base X G (Qx (n:=n+3) Z d10.fn (Vd (n+0)))
 have PB:=λn=>d11.cal l w base X G (Qy (n:=n+3) Z d11.fn (Yt (n+0)))
 have Nw:=λn=>d12.cal l w base X G (Dx (n:=n+5) Z d12.fn (Md (n+0)))
 have Pz:=λn=>d13.cal l w base X G (Qz (n:=n+5) Z d13.fn (Nt (n+0)))
 have wJ:=λn=>d14.cal l w base X G (UU (n:=n+2) Z d14.fn (UF (n+0)))
 have YQ:=λn=>d15.cal l w base X G (QB (n:=n+0) Z d15.fn)
 have Rb:=λn=>d16.cal l w base X G (GZ (n:=n+6) Z d16.fn (jK (n+2)) (Nw (n+0)) (wJ (n+3)) (YQ (n+5)) wq)
 have Pw:=λn=>d17.cal l w base X G (QC (n:=n+0) Z d17.fn)
 have kf:=λn=>d18.cal l w base X G (SM (n:=n+4) Z d18.fn (jK (n+0)))
 have DW:=λn=>d19.cal l w base X G (OD (n:=n+4) Z d19.fn (jK (n+0)))
 have Me:=λn=>d20.cal l w base X G (Fe (n:=n+4) Z d20.fn (jK (n+0)))
 have Fz:=λn=>d21.cal l w base X G (Ng (n:=n+6) Z d21.fn (jK (n+2)) (Pz (n+0)))
 have QX:=λn=>d22.cal l w base X G (UV (n:=n+5) Z d22.fn (DW (n+0)) (Pw (n+4)))
 have vd:=λn=>d23.cal l w base X G (Wa (n:=n+6) Z d23.fn (DW (n+1)) (QX (n+0)))
 have Nu:=λn=>d24.cal l w base X G (Dy (n:=n+0) Z d24.fn)
 have Wf:=λn=>d25.cal l w base X G (Pa (n:=n+7) Z d25.fn (vd (n+0)))
 have Nv:=λn=>d26.cal l w base X G (Dz (n:=n+7) Z d26.fn (jK (n+3)) (wJ (n+4)) (vd (n+0)) (Nu (n+6)) Zb)
 have DV:=λn=>d27.cal l w base X G (OE (n:=n+0) Z d27.fn)
 have UE:=λn=>d28.cal l w base X G (YU (n:=n+4) Z d28.fn (Zc (n+0)))
 have Zd:=λn=>d29.cal l w base X G (Jq (n:=n+4) Z d29.fn (jK (n+0)) (PB (n+0)) (wJ (n+1)) wH)
 have DT:=λn=>d30.cal l w base X G (Pb (n:=n+1) Z d30.fn (DV (n+0)))
 have Px:=λn=>d31.cal l w base X G (QD (n:=n+1) Z d31.fn (DV (n+0)))
 have Vf:=λn=>d32.cal l w base X G (Yj (n:=n+2) Z d32.fn (Px (n+0)))
 have Pv:=λn=>d33.cal l w base X G (QF (n:=n+5) Z d33.fn (Zd (n+0)) (DT (n+3)) (Vf (n+2)))
 have wI:=λn=>d34.cal l w base X G (UW (n:=n+8) Z d34.fn (Wf (n+0)) (kf (n+3)))
 have ve:=λn=>d35.cal l w base X G (Wb (n:=n+9) Z d35.fn (wI (n+0)))
 have Yu:=λn=>d36.cal l w base X G (WG (n:=n+5) Z d36.fn (UE (n+0)))
 have Vc:=λn=>d37.cal l w base X G (Yk (n:=n+6) Z d37.fn (Yu (n+0)))
 have UC:=λn=>d38.cal l w base X G (YV (n:=n+7) Z d38.fn (Vc (n+0)))
 have Nr:=λn=>d39.cal l w base X G (DB (n:=n+5) Z d39.fn (Md (n+0)))
 have Ve:=λn=>d40.cal l w base X G (Yl (n:=n+1) Z d40.fn (YQ (n+0)))
 have OU:=λn=>d41.cal l w base X G (Fh (n:=n+6) Z d41.fn (Nr (n+0)) (Yt (n+3)) (Ve (n+4)))
 have QU:=λn=>d42.cal l w base X G (UX (n:=n+8) Z d42.fn (jK (n+4)) (UC (n+0)) (Fw (n+6)) (OU (n+1)))
 have DY:=λn=>d43.cal l w base X G (Pe (n:=n+0) Z d43.fn)
 have DU:=λn=>d44.cal l w base X G (Pf (n:=n+8) Z d44.fn (DY (n+7)) (Nv (n+0)) (Rb (n+1)))
 have Rc:=λn=>d45.cal l w base X G (Pg (n:=n+9) Z d45.fn (wI (n+0)) (Pv (n+3)) (DU (n+0)))
 have Py:=λn=>d46.cal l w base X G (QJ (n:=n+3) Z d46.fn (wJ (n+0)) zm)
 have yT:=λn=>d47.cal l w base X G (YW (n:=n+3) Z d47.fn (wJ (n+0)) zm)
 have DS:=λn=>d48.cal l w base X G (Ph (n:=n+10) Z d48.fn (jK (n+6)) (ve (n+0)) (yT (n+6)) (DW (n+5)) (Me (n+5)))
 have Fy:=λn=>d49.cal l w base X G (Ni (n:=n+0) Z d49.fn)
 have DZ:=λn=>d50.cal l w base X G (Pi (n:=n+0) Z d50.fn)
 have OW:=λn=>d51.cal l w base X G (Fj (n:=n+4) Z d51.fn (jK (n+0)) (DZ (n+3)) (Fy (n+3)))
 have OV:=λn=>d52.cal l w base X G (Fk (n:=n+5) Z d52.fn (OW (n+0)))
 have UD:=λn=>d53.cal l w base X G (YX (n:=n+0) Z d53.fn)
 have YO:=λn=>d54.cal l w base X G (QK (n:=n+4) Z d54.fn (jK (n+0)) (DV (n+3)))
 have ke:=λn=>d55.cal l w base X G (SU (n:=n+6) Z d55.fn (OV (n+0)) (YO (n+1)) (UD (n+5)))
 have Zr:=λn=>d56.cal l w base X G (JV (n:=n+0) Z d56.fn)
 have Ra:=λn=>d57.cal l w base X G (Pl (n:=n+0) Z d57.fn)
 have QV:=λn=>d58.cal l w base X G (UY (n:=n+10) Z d58.fn (jK (n+6)) (ve (n+0)) (Wf (n+2)) (Zr (n+9)))
 have Fx:=λn=>d59.cal l w base X G (Nj (n:=n+8) Z d59.fn (Wf (n+0)) (Ra (n+7)))
 have DQ:=λn=>d60.cal l w base X G (Pm (n:=n+0) Z d60.fn)
 have Nq:=λn=>d61.cal l w base X G (DD (n:=n+0) Z d61.fn)
 have Ja:=λn=>d62.cal l w base X G (Po (n:=n+0) Z d62.fn)
 have DR:=λn=>d63.cal l w base X G (Pp (n:=n+1) Z d63.fn (Ja (n+0)))
 have YN:=λn=>d64.cal l w base X G (QL (n:=n+1) Z d64.fn (Ja (n+0)))
 have Yr:=λn=>d65.cal l w base X G (WI (n:=n+2) Z d65.fn (YN (n+0)) (Ja (n+1)))
 have WL:=λn=>d66.cal l w base X G (Wc (n:=n+11) Z d66.fn (DS (n+0)) (wI (n+2)) (QV (n+0)) (yT (n+7)) (Fx (n+2)) (QU (n+2)) (Rc (n+1)) (Fz (n+4)) (Me (n+6)))
 have Ys:=λn=>d67.cal l w base X G (WJ (n:=n+9) Z d67.fn (Py (n+5)) (ke (n+2)) (wI (n+0)) (yT (n+5)) (YO (n+4)))
 exact KY (n:=12) Z d68.fn (DQ 11) (Nq 11) (DR 10) (Yr 9) (YN 10) (WL 0) (wI 3) (Ys 2) (Ja 11)
end My
namespace PySem.W.Fast
def tw11876077220526073380:=()
def tw14617024146265002860:=()
def tw3215257090928890423:=()
def tw137320424395918477:=()
def tw13489862689997931352:=()
def tw17641332004465169487:=()
def tw7613141513573395737:=()
def tw7216798380925451778:=()
def tw17114790990154050279:=()
def tw3831391350488570092:=()
def tw11063964230172387848:=()
def tw9113928964161782385:=()
def tw8433379203578100913:=()
def tw6150496428406591053:=()
def tw12671174228615066676:=()
def tw6846626166625315304:=()
def tw12679465915035491675:=()
def tw1742648213539722396:=()
def tw2896460896447278838:=()
def tw13045846021136643662:=()
def tw3159629390441695031:=()
def tw9415915832415656317:=()
def tw14923401667029794572:=()
def tw8632717320963461593:=()
def tw9133261424808785850:=()
def tw10415670790845757138:=()
def tw8271261973157040586:=()
def tw12027313198217334006:=()
def tw4377869190737918776:=()
def tw14832032980927858099:=()
def tw2101020135582159840:=()
def tw4461698907795338775:=()
def tw4277215023741527369:=()
def tw9629971275781644317:=()
def tw9869467358126252300:=()
def tw4917062088781845052:=()
def tw9615139073723635953:=()
def tw17819020805335785205:=()
def tw10773219923799991997:=()
def tw126239223605183117:=()
def tw18338462746056055623:=()
def tw4201968286455332887:=()
def tw5951496307261945042:=()
def tw15993005019627323602:=()
def tw7773429266092206295:=()
def tw5174037817526487238:=()
def tw7085874986355179618:=()
def tw15617263478833276204:=()
def tw421140463035433289:=()
def tw13000071645924195125:=()
def tw13486381210199381275:=()
def tw4622144807341575979:=()
def tw5027430502739497687:=()
def tw9330416433133129835:=()
def tw2606150627389109497:=()
def tw4507517212142111710:=()
def tw6049622176530248936:=()
def tw4142469296082067374:=()
def tw11319429145071099192:=()
def tw6083707754783972432:=()
def tw7136925081073886734:=()
def tw14553674286990691606:=()
def tw1391292728060336212:=()
def tw12317377754455286104:=()
def tw5817637266003665638:=()
def tw14141828521843839272:=()
def tw1126280648768939152:=()
def tw12334553090014554477:=()
def tw12430957285339262306:=()
def tw13198687601864107458:=()
def tw7996912074342990054:=()
def tw12599657220735286446:=()
def tw5954524749649022931:=()
def tw8072720765312182823:=()
def tw515499403407643900:=()
def tw3467183757598996811:=()
def tw11743297812870843034:=()
def tw13162247652962417525:=()
def tw15650972534497556831:=()
def tw5922047876114077397:=()
def tw18385903077418150498:=()
def tw132506297036130458:=()
def tw14556040957898406172:=()
def tw6011020836335683757:=()
def tw17418411608637941783:=()
def tw8427825241218017013:=()
def tw3249267525479626868:=()
def tw11764230442420486561:=()
def tw1801215611244580488:=()
def tw6995243869971028328:=()
def tw15055894213668030673:=()
def tw6695208288905471637:=()
def tw17346212431252794362:=()
def tw13896031216973598434:=()
def tw11611191629581777819:=()
def tw13507036537142574792:=()
def tw4404327614338433657:=()
def tw6838406540835726012:=()
def tw12732198720250123701:=()
def tw13503369004592598741:=()
def tw13159843935163196676:=()
def tw14358812605211907175:=()
def tw7768013382811230511:=()
def tw12973163583777944630:=()
def tw16685364970794487692:=()
def tw2077878157346630503:=()
def tw3145456426172268222:=()
def tw17134348480428800077:=()
def tw16091278584410882806:=()
def tw15988391215839908350:=()
def tw1403366390466500633:=()
def tw1904995496886626193:=()
def tw4040962814381088642:=()
def tw6344107135095900935:=()
def tw18333692319607517903:=()
def tw11793335858841343720:=()
def tw1838219569133836811:=()
def tw7835792786122720598:=()
def tw12648556974355209777:=()
def tw17463847022701615392:=()
def tw17781119060468724454:=()
def tw11827435626309059984:=()
def tw3629396346421446008:=()
def tw7948643492860860623:=()
def tw9647706607385723541:=()
def tw5935692453387030445:=()
def tw5581185127987086984:=()
def tw12281364322606720966:=()
def tw16248869770162045378:=()
def tw51844124966695594:=()
def tw4593027296508377378:=()
def tw12672121198083738892:=()
def tw12632257274054144707:=()
def tw4195770148009870592:=()
def tw7481853651948399302:=()
def tw2812579886027256827:=()
def tw11410220237762316115:=()
def tw15205434204589157544:=()
def tw12769170718682428880:=()
def tw10550995421443886790:=()
def tw7497259298546671720:=()
def tw16341076823951009493:=()
def tw3887388230136531403:=()
def tw8881870827042328116:=()
def tw17335209372328713231:=()
def tw276122309584755088:=()
def tw10672135290520518532:=()
def tw5773998878219511590:=()
def tw9265430479906399437:=()
def tw2191558219179457021:=()
def tw9900366366906866786:=()
def tw17327231667521824418:=()
def tw42237885348285172:=()
def tw97111102522578747:=()
def tw2243971963428069411:=()
def tw4640462394084066837:=()
def tw536282654859235306:=()
def tw11227319429210284340:=()
def tw2118425608599051882:=()
def tw4469334635710702287:=()
def tw10223799120389314665:=()
def tw6069455160073016798:=()
def tw11044332447109963725:=()
def tw367828266006544223:=()
def tw2879489670694989955:=()
def tw9090102944289197766:=()
def tw11676899372754541358:=()
def tw16737037177746611534:=()
def tw7604072781517030253:=()
def tw11181529259431986408:=()
def tw10968372977047383972:=()
def tw12537208483710925383:=()
def tw10144333150828819326:=()
def tw12317161351944284047:=()
def tw15068308201256544383:=()
def tw11673183338339872235:=()
def tw9717210227469803986:=()
def tw2334612083285734435:=()
def tw7327326949513865598:=()
def tw15800378761289586449:=()
def tw17812806874865197797:=()
def tw3177258134365999363:=()
def tw15815331200371678129:=()
def tw1691562465155521758:=()
def tw2021540790808429115:=()
def tw11489689198692683618:=()
def tw329037742543373187:=()
def tw1868904433790701142:=()
def tw5863473326565891010:=()
def tw10841709696872354185:=()
def tw9810924500707997843:=()
def tw5708381084485364559:=()
def tw11451445310118479481:=()
def tw17751707216109960871:=()
def tw8488291893018561573:=()
def tw2074924614734992191:=()
def tw11208047358713540607:=()
def tw16050488872539899079:=()
def tw2357772002931297419:=()
def tw6559400191804751478:=()
def tw313198505183684764:=()
def tw1055465432892327630:=()
def tw12918913365167517716:=()
def tw13138271971046489664:=()
def tw1130330927684067978:=()
def tw17809620816784588436:=()
def tw10706140902940559905:=()
def tw12400740626215862623:=()
def tw10944419750133697016:=()
def tw11017839028998984217:=()
def tw17009922388484862504:=()
def tw12634534424834029940:=()
def tw12599450830153545545:=()
def tw8786827154618542047:=()
def tw13181279741868494111:=()
def tw2354675188410304998:=()
def tw4228803698332264884:=()
def tw1075022274505640935:=()
def tw5778738077977414666:=()
def tw288342050358890171:=()
def tw13690003900460232768:=()
def tw15382611910791326998:=()
def tw14576269474643789814:=()
def tw2402268741296920373:=()
def tw12046538337508438891:=()
def tw17245385652799241561:=()
def tw14532047004331356814:=()
def tw13427536181584823926:=()
def tw10917022886213655263:=()
def tw15505155330325371806:=()
def tw2617229610036105269:=()
def tw13971623587265005255:=()
def tw9927969298995416206:=()
def tw11236187819710926427:=()
def tw4002007977622480917:=()
def tw15022825559727720490:=()
def tw1188610620176004311:=()
def tw7940056801764336055:=()
def tw9179056823023580052:=()
def tw749930632641292816:=()
def tw8611852429602420643:=()
def tw5396207276101773949:=()
def tw11897512918992043357:=()
def tw6845199325819504536:=()
def tw5305056142286539571:=()
def tw14995437348852906528:=()
def tw9349597491909147525:=()
def tw4212474829672502430:=()
def tw18129350581453224736:=()
def tw9378428701201739501:=()
def tw525002320317404394:=()
def tw16475613464902739105:=()
def tw10256804662577603631:=()
def tw5909978121087115432:=()
def tw4030488929373262375:=()
def tw1203969241945305743:=()
def tw2317743457890700485:=()
def tw6553892247104092485:=()
def tw16766189861040398729:=()
def tw9844892697928758548:=()
def tw15588765134331909806:=()
def tw9096034707758927629:=()
def tw3115619197753905340:=()
def tw5715927747532161011:=()
def tw16496717091676359756:=()
def tw3761581614420407076:=()
def tw5193363371026099312:=()
def tw14786349538434231476:=()
def tw10387236336169359405:=()
def tw9724868857646436214:=()
def tw11479055056614647533:=()
def tw8094742487455415645:=()
def tw17766842965497298907:=()
def tw11991261072844763675:=()
def tw13535595808501778177:=()
def tw1308730271164142255:=()
def tw6627497515512454507:=()
def tw11392887522628303670:=()
def tw154056314805100255:=()
def tw14059553445485857378:=()
def tw2541663416285621768:=()
def tw3993779833836608615:=()
def tw17294702463597150172:=()
def tw9521223311469500983:=()
def tw5384668676777956403:=()
def tw11446379093763770539:=()
def tw2237910976231046147:=()
def tw14827121667912506281:=()
def tw9362407188279467587:=()
def tw2359679860158022367:=()
def tw3504085910408459473:=()
def tw6754520478531728428:=()
def tw12062438385549505425:=()
def tw13222255590569346202:=()
def tw16386563177512985597:=()
def tw18337421990504769547:=()
def tw17379157505612117590:=()
def tw3095249572850434327:=()
def tw832273476026938129:=()
def tw17768325481694336256:=()
def tw8115088865286454715:=()
def tw3845647848921908571:=()
def tw5361141838806874372:=()
def tw7961635879558104635:=()
def tw15247798992364151297:=()
def tw4774676302982813593:=()
def tw8143112463449588102:=()
def tw1746409280817609091:=()
def tw14619973647553657355:=()
def tw1831322497213199621:=()
def tw1220931091864039627:=()
def tw4599736059168069611:=()
def tw5667375669345503011:=()
def tw6365423997936322017:=()
def tw6809520676940699209:=()
def tw7597117597223756965:=()
def tw15079009610390271092:=()
def tw8849553975743923675:=()
def tw1074305560871585089:=()
def tw2365030881075031944:=()
def tw14229848454441496827:=()
def tw9252864666099735343:=()
def tw7924273044287373432:=()
def tw12771587101665839038:=()
def tw4661572663847117407:=()
end PySem.W.Fast
open PySem PySem.W PyProof.Rows
set_option maxRecDepth 100000 in
set_option maxHeartbeats 0 in
theorem PySem.Challenge.cw_firstpowers_k64_whole_slow_tables_and_bo_holds : PySem.Challenge.rw_firstpowers_k64_whole_slow_tables_and_bo.Holds := by
  w_on; o_law; k_head; (case hw => w_witness2)
  k_fill
  refine L2.Lj (l := PySem.Challenge.rw_firstpowers_k64_whole_slow_tables_and_bo) (k := 13) (x := "_law_script") rfl rfl ⟨rfl, by decide, by decide, rfl⟩ (fun w h Y => PySem.W.kIn_of Y) ?B ?F
  case B => intro w; kernel_rfl
  case F =>
    intro w mg fa h KX G hmg
    refine' My.KZ KX G hmg ?d0 ?d1 ?d2 ?d3 ?d4 ?d5 ?d6 ?d7 ?d8 ?d9 ?d10 ?d11 ?d12 ?d13 ?d14 ?d15 ?d16 ?d17 ?d18 ?d19 ?d20 ?d21 ?d22 ?d23 ?d24 ?d25 ?d26 ?d27 ?d28 ?d29 ?d30 ?d31 ?d32 ?d33 ?d34 ?d35 ?d36 ?d37 ?d38 ?d39 ?d40 ?d41 ?d42 ?d43 ?d44 ?d45 ?d46 ?d47 ?d48 ?d49 ?d50 ?d51 ?d52 ?d53 ?d54 ?d55 ?d56 ?d57 ?d58 ?d59 ?d60 ?d61 ?d62 ?d63 ?d64 ?d65 ?d66 ?d67 ?d68 ?v0 ?v1 ?v2 ?v3 ?z
    case d0 | d1 | d2 | d3 | d4 | d5 | d6 | d7 | d8 | d9 | d10 | d11 | d12 | d13 | d14 | d15 | d16 | d17 | d18 | d19 | d20 | d21 | d22 | d23 | d24 | d25 | d26 | d27 | d28 | d29 | d30 | d31 | d32 | d33 | d34 | d35 | d36 | d37 | d38 | d39 | d40 | d41 | d42 | d43 | d44 | d45 | d46 | d47 | d48 | d49 | d50 | d51 | d52 | d53 | d54 | d55 | d56 | d57 | d58 | d59 | d60 | d61 | d62 | d63 | d64 | d65 | d66 | d67 | d68 => refine' L2.KT ?a ?l ?c ?k; (case a => k_is); (case l => k_is); (case c => k_is); (case k => k_is)
    case v0 | v1 | v2 | v3 => k_is
    case z => kernel_rfl
