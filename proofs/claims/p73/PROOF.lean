import PyProof.Rows.All
import Wide.All
import OpenK.AllK
import Wide.FinOn
import Lean
import PyProof.EqAt
import PyProof.EqKinds
import PyProof.TupleCall
import PyProof.Rows.TopTwo
import KE.KIsAll
import PyProof.ExcAttrAll.ValueError
import KE.KTryMore
import KE.KRevIter
import PyProof.SetRoads
import KE.KIntText
import PyProof.StrWalks
import PyProof.Rows.StrSplitJoin
import PyProof.StrLawsTight
import PySem.Challenge.RW_firstpowers_k73_tables_written
set_option Elab.async false
set_option linter.all false
set_option maxRecDepth 100000
set_option maxHeartbeats 8000000
open _root_ renaming List->G0,Option->G7,Nat->P5,Int->P7,decide_eq_true->R5,if_pos->S1,if_neg->S9,decide_eq_false->T6,exists_eq_left'->T7,of_decide_eq_true->N0,Bool->C3,Array->F3,String->F7,if_true->X5,decide_eq_true_iff->aC,beq_self_eq_true->aY,if_false->cH,decide_eq_true_eq->eG
open PySem.W renaming Frag->G1,keepIn->N8,kia_one->B4,fnOf->L4,hideAll_none->O5,hideAll_get->O9,cellsFrom_some->A7,hideAll->K7,codeIn->U5,nsIn->V5,of_hideAll->X8,kitOne->Y3,callWith_K->Y6,codeRec_of->Y7,methodObj->aI,tabIn->aS,mg_of->aT,instObj->bU,lookIn->cF,tabObj->cL,kitx_list->dM,kitx_dict->dN,plainGet->eM,OpenLaw->fJ,findIn->fQ,CodeHd->f8,hideAll_size->iP,kitx_float->i6,kitx_tuple->i7,ki_setBack->i8,mg_none_of->j9,hasDictIn->kH,plainOver->kI,specialIn->kJ,kitx_none->kK,kitx_bool->kL,krv_range->kM,eq_bytes->kN,ne_bytes->kO,kitx_int->kQ,kitx_str->kT,kitx_own->kU,ki_setAt->kW,krv_pick->kY,codeHdIn->kZ,takesIn->k5,krv_all->k6,InstAt->lA,tab_of->lE,mroIn->lF,WalkO->lG
open PySem renaming Value->G2,Shared->G3,Addr->G4,starEach->G6,wpAny_pure->P1,Expr->D2,FuncData->D4,wpAny->D5,Program->D6,model->D8,Around->R8,wpAny_mono->S3,compareOp->S5,Heap->S6,World->S7,foldedSetIterable->M4,mem_of_lookup->M8,Stmt->N2,Scope->N4,eval->N5,backTo->N6,binaryOp->N7,wpAny_newObj_type->B2,bootBuiltins->B5,cellsFrom->B6,PyData->C7,wpAny_truthy_bool->C9,behindInMarks->L0,wpAny_holding->L8,wpAny_execs_cons->O0,wpAny_Call_Name_kw->O1,wpAny_passesOwn->O4,attributeBase->O7,swapsWith->A2,Keyword->A8,wpAny_execs_nil->E2,letOwnedTupleGo->E3,wpAny_newFunctionEnv_cells->I0,keywordEach->J4,wpAny_call_entry->J7,swapsWithSole->K2,swappedStores->K3,codeAny->K8,sysModules->Q1,assignEach->Q3,wpAny_field->Q7,wpAny_callSpecial?_slot->Q8,sliceBounds->Q9,holding->U3,codeAny_mono->U4,codeAny_call_function->V6,TriplesOk->V9,assign->W2,rawInt->W3,builtinsNs->X9,wpAny_call->Y5,backToKw->Z1,call_meets->Z2,closureFor->Z3,wpAny_binaryOp_repeat_ref->aE,wpAny_pyIter_list->aJ,getItem->aL,wpAny_sequenceKey->aM,wpAny_standAt->aO,evalPart_none->aP,wpAny_getItem_list_slice->aR,noFill_tuple_add->aV,codeAmong->aW,IsPart->bG,wpAny_typeOf->bH,typeIs_int->bL,Model->bV,ofString_length->b8,wpAny_loadName_local->cA,wpAny_bindName->cB,CmpOp->cC,sizeLine_eq->cE,lookup_relabel_local->cJ,codeAny_call_builtin->cM,standAt->cQ,PassesOwn->cR,BindsTo->cS,Arguments->cT,callerA->cU,assignInOrder->cY,seq_tuple_add->cZ,evalPart_some->c5,Comprehension->c7,comprehension->c8,wpAny_Name->dD,int_text_length_le->dI,wpAny_Assign_Name->dL,leaving->dO,name_of_addr->dP,codeAny_func->dR,concat_meets->dS,seqIndex_neg->dU,wpAny_pyIter_enum->eL,seqSlot_of->eU,checkBuiltinCall->eY,bindL->e9,bindC->fA,wpAny_Slice->fB,seqIndex_of->fC,pushCells_keeps->fI,wpAny_Expr_any->fO,bindName->fP,bindArgs->fT,typeIs_str->fV,newFunctionEnv->fY,compEnvC->f6,compTurn->f7,boundAndCalled->gC,boot_len->gD,intBits_le_64->gH,call_list_seq->gJ,wpAny_attempt->gQ,lastMarks->g3,Fin->g5,strValues->g9,Within->hO,setItem->h7,Result->h9,callFunction->iB,interactive->iQ,rule->iR,IsRangeIter->iT,Operator->iU,subscripted->iV,intText?->i0,wpAny_rule->i3,pyNext->i4,wpAny_load->i5,call->i9,reduceHash->j0,seqRepeat?->j5,isInstance->j7,release->kG,truthy->k7,pyIter->k8,again->k9,Params->lB,stored->lC,cellOf->lD
open PySem.Heap renaming get?_push_of_some->G5,lt_size->P6,get?_push_size->R9,SameBut->X4,get?_update_other->bK,size_push->fZ
open Nat renaming le_refl->G8,lt_of_lt_of_le->P2,ne_of_lt->R3,le_trans->R4,le_of_lt->N3,lt_irrefl->N9,pow_le_pow_right->B3,ne_of_gt->H0,lt_of_le_of_lt->A9,lt_succ_self->J8,zero_le->U0,lt_trans->U7,lt_of_succ_le->U9,mul_le_mul->V4,min_le_right->V7,isDigit_of_mem_toDigits->X6,add_le_add->Z9,log2_lt->aN,le_of_eq->bM,mul_le_mul_left->cW,not_lt->dG,succ_mul->dX,mul_comm->dZ,lt_succ_of_lt->eF,toDigits->iE,sub_self->iF,le_succ->iW
open List renaming length_map->G9,mem_cons->P0,size_toArray->P3,mem_cons_self->P8,mem_cons_of_mem->P9,getElem?_eq_some_iff->D0,replicate->D1,mem_append_right->D3,getElem?_cons_zero->R0,length_cons->R1,getElem?_map->R6,all_eq_true->R7,mem_map->S0,getElem?_eq_getElem->S2,mem_singleton->S4,not_mem_nil->T0,length_nil->T1,mem_append->T2,length_append->T3,map_cons->T4,getElem?_cons_succ->T9,lookup_cons->M2,cons_append->M3,mem_of_getElem?->M5,nil_append->M9,getElem?_append_left->B7,map_nil->B9,mem_append_left->C4,getElem?_set_ne->C5,length_take->C6,range->C8,getElem?_append_right->F0,replicate_succ->F1,set_cons_succ->F8,set_cons_zero->F9,map_map->L5,filterMap_cons->L7,flatten_cons->O6,map_congr_left->A1,getElem?_set_self->A5,mem_filterMap->A6,length_singleton->E6,all_map->J9,length_reverse->K1,getElem?_take_of_lt->K4,of_mem_zip->K9,getElem?_replicate->Q5,length_eq_zero_iff->U1,getElem?_set->U8,take_add_one->V0,reverse_cons->V1,length_drop->V8,append_nil->W5,nodup_cons->W6,map_eq_nil_iff->X2,getD_eq_getElem?_getD->Z4,getElem_mem->aX,cons_ne_nil->bE,take_of_length_le->bP,forIn_cons->bW,length_replicate->bZ,getElem?_eq_none->b7,length->cG,map_id->cP,getElem?_range->cV,sum_cons->c9,filterMap_map->dE,take_sublist->dQ,append_assoc->dW,take_length->eZ,mem_filter->fF,map_append->fK,mem_range->fN,foldl->fW,any_cons->gK,all_cons->gL
open Bool renaming false_ne_true->P4,and_eq_true->D9,true_and->L9,false_and->A3,eq_false_iff->V2,eq_iff_iff->W4,or_eq_true->W8,or_eq_false_iff->cK,and_false->gE,false_or->gV
open PySem.Str renaming ofString->D7,join->V3,empty->g4
open Option.some renaming injEq->S8,inj->M1
open PySem.NameKind renaming free->T5,cell->O8
open PySem.PyData renaming eqv->T8,depthAll->C0,canLayAll0->E8,depth->K0,shown->bQ,showable->bX,shownAll->bY,canLay0->cO,showableAll->dH,hasDictAll->eJ,bool->fE,hasDict->gA,eqvAll->gZ,int->j6,str->j8
open PySem.Builtin.Slice renaming slicePlaces->M0,sliceAdjust->F4,sliceApplied->O2,sliceFields->aD,slicePartIndex->fG
open PySem.Builtin.Tuple renaming tupleExact->M6,tupleItemsOf->J0,tupleIsExact->Z5,tupleTooMany->Z6,tupleHashOf->aF
open PyProof.Rows renaming slot_tuple_getitem->M7,envOfC->B1,boot_all->O3,boot_isinstance->E5,callWith_type1->E7,entry_tuple_getitem->X0,AllBare->X3,assignInOrder_cons->Y0,slicePart_none->Y8,args_tuple_getitem->Y9,subscriptTail->aQ,subscriptTail_builtinR->bI,tupleItemsOf_->c4,Subscript_->dF,assignInOrder_nil->dJ,callWith_builtin1->eN,IntsAre->fL,tail_any->fU,slicePart_int->gI,IsTup->g0,part_short->hJ,mulOk_of->iJ,digit_range->i1,recsOf->i2
open Array renaming length_toList->B0,toList_append->X1,isEmpty_eq_false_iff->Z7,getElem?_eq_getElem->aG,getElem?_eq_none->bR,getElem?_toList->b9,isEmpty_iff->eI,toList->hZ
open Option renaming isSome_iff_exists->B8,map_eq_some_iff->E1,getD_none->eO
open PySem.Txt renaming split->F2,join->cN,mul->iC
open PySem.PassesOwn renaming never->L6
open Ne renaming symm->A0
open PySem.Builtin.Str renaming occurrences->A4,partsBetween->gY
open ForInStep renaming yield->E4
open True renaming intro->E9
open Sum renaming inr->J5,inl->aH
open PySem.Value renaming ref->J6,str->X7,int->aU,none->bF,type->dB,bool->fM,isStrOf->gG,isInt->iN,float->iO
open PySem.F renaming args_tuple_add_2->K5,entry_tuple_add->Q6,plainAttrs_list->U2,slot_tuple_add->U6,slot_int_rmul->W7,slot_list_count->aZ,slot_str_split->bS,plainAttrs_str->bT,args_int_rmul_2->dY,entry_int_rmul->eQ,fills_int_mul->fH,excBase_ValueError->gB,args_list_count_2->gF,slot_list_append->gM,type_list_append->gO,entry_list_count->gR,args_str_split_2->gX,slot_list_index->g6,type_list_index->g7,type_list_count->g8,entry_str_split->hG,type_str_split->iD,entry_bexc_ga->iI,slot_str_join->iK,type_str_join->iM,args_bexc_ga->iZ
open PySem.Builtin.List renaming listTooLong->K6,listFitsIndex->fX
open PyProof.Rows.LCg renaming lst->Q0
open PySem.SetTable renaming sizeAbove->Q4
open Or renaming inl->W0,inr->bO
open PySem.Around renaming frames_deeper->W1
open Int renaming emod_nonneg->W9,fdiv_eq_ediv_of_nonneg->Y1,fmod_eq_emod_of_nonneg->Y2,lt_of_lt_of_le->aA,emod_lt_of_pos->aB,toNat_of_nonneg->cX,toNat->e8,ediv_one->iA,ne_of_gt->iG,lt_trans->iH
open PySem.Calls renaming spliced_cons->Y4,spliced_nil->aK,evalArgs_plain->cI,Constant_str->gP
open PySem.Heap.IsSliceOf renaming new->Z0
open PySem.W.Looks renaming here->Z8,of_pure->dA,ld->iY
open PySem.Obj renaming mapSeq->bJ
namespace L2
open PySem PySem.Spec PyProof.Rows
abbrev Key:=Sum P7 Str
def Wz:Key->G2->C3
 | .inl k,v=>iN k v
 | .inr x,v=>gG x v
def Nw (w:S7):Key->P7
 | .inl k=>hashInt k
 | .inr x=>hashStr w x
theorem jA: ∀ {k:Key} {v:G2},Wz k v=true->(∃i t,k=aH i/\v=aU i t)\/(∃x t,k=J5 x/\v=X7 x t)
 | .inl i,v,h=>by
  obtain⟨t,e⟩:=Value.isInt_shape (k:=i) (v:=v) h;exact .inl ⟨i,t,rfl,e⟩
 | .inr x,v,h=>by
  obtain⟨t,e⟩:=Value.isStrOf_shape (x:=x) (v:=v) h;exact .inr ⟨x,t,rfl,e⟩
theorem Ye (i:P7)(t:Tok):Wz (.inl i) (.int i t)=true:=by simp [Wz,iN]
theorem Yf (x:Str)(t:Tok):Wz (.inr x) (.str x t)=true:=by simp [Wz,gG]
theorem Gs (a b:P7):decide ((aH a:Key)=aH b)=(a==b):=by
 by_cases e:a=b
 ·subst e;simp
 ·have h: ¬ (aH a:Key)=aH b:=λq=>e (Sum.inl.inj q)
  rw [T6 h];exact(beq_eq_false_iff_ne.mpr e).symm
theorem Gt (a b:Str):decide ((J5 a:Key)=J5 b)=decide (a=b):=by
 by_cases e:a=b
 ·subst e;simp
 ·have h: ¬ (J5 a:Key)=J5 b:=λq=>e (Sum.inr.inj q)
  rw [T6 h,T6 e]
theorem Gu (a:P7)(b:Str):decide ((aH a:Key)=J5 b)=false:=T6 (λq=>nomatch q)
theorem Gv (a:Str)(b:P7):decide ((J5 a:Key)=aH b)=false:=T6 (λq=>nomatch q)
def zm (prog:D6)(w:S7):PySem.KeyKind prog w Key where
 is:=Wz
 hash:=Nw w
 inj:=λv a b ha hb=>by
  rcases jA ha with ⟨i,t,rfl,rfl⟩|⟨x,t,rfl,rfl⟩
  ·rcases jA hb with ⟨j,u,rfl,e⟩|⟨y,u,rfl,e⟩
   ·injection e with e1 _;rw [e1]
   ·exact nomatch e
  ·rcases jA hb with ⟨j,u,rfl,e⟩|⟨y,u,rfl,e⟩
   ·exact nomatch e
   ·injection e with e1 _;rw [e1]
 byValue:=λk v h=>by
  rcases jA h with ⟨i,t,rfl,rfl⟩|⟨x,t,rfl,rfl⟩<;>rfl
 pyHash:=λhv h=>by
  rcases jA hv with ⟨i,t,rfl,rfl⟩|⟨x,t,rfl,rfl⟩
  ·exact wpAny_pyHash_int h
  ·exact wpAny_pyHash_str h
 eqBool:=λhu hv h=>by
  rcases jA hu with ⟨i,t,rfl,rfl⟩|⟨x,t,rfl,rfl⟩
  ·rcases jA hv with ⟨j,u,rfl,rfl⟩|⟨y,u,rfl,rfl⟩
   ·rw [Gs] at h;exact wpAny_eqBool_int h
   ·rw [Gu] at h;exact SeqAt.EqAt.int_str i t y u _ _ _ _ h
  ·rcases jA hv with ⟨j,u,rfl,rfl⟩|⟨y,u,rfl,rfl⟩
   ·rw [Gv] at h;exact SeqAt.EqAt.str_int x t j u _ _ _ _ h
   ·rw [Gt] at h;exact wpAny_eqBool_str h
 «strs» :=λk x t v h=>by
  rcases jA h with ⟨i,u,rfl,e⟩|⟨y,u,rfl,e⟩
  ·exact nomatch e
  ·injection e with e1 _
   subst e1;cases v<;>rfl
theorem ZB (prog:D6)(w:S7)(i:P7)(t:Tok):(zm prog w).is (.inl i) (.int i t)=true:=Ye i t
theorem ZC (prog:D6)(w:S7)(x:Str)(t:Tok):(zm prog w).is (.inr x) (.str x t)=true:=Yf x t
inductive V where
 |non|bl (b:C3)|int (i:P7)|str (x:Str)|byt (b:F3 UInt8)|flt (b:UInt64)|ref (a:G4)|ty (n:F7)
 deriving DecidableEq
def RelV:V->G2->Prop
 | .non,u=>u=bF
 | .bl b,u=>u=fM b
 | .int i,u=> ∃t,u=aU i t
 | .str x,u=> ∃t,u=X7 x t
 | .byt b,u=> ∃t,u=Value.bytes b t
 | .flt b,u=> ∃t,u=iO b t
 | .ref a,u=>u=J6 a
 | .ty n,u=>u=dB n
abbrev Vals:G0 V->G0 G2->Prop:=Paired RelV
theorem Vals.length {xs:G0 V}{us:G0 G2}(r:Vals xs us):xs.length=us.length:=Paired.length r
theorem Vals.get: ∀ {xs:G0 V} {us:G0 G2} {i:P5} {x:V},Vals xs us->xs[i]? =some x-> ∃u,us[i]? =some u/\RelV x u
 |_,_,_,_,.nil,e=>by simp at e
 |_,_,0,_,.cons r _,e=>by simp at e;subst e;exact⟨_,rfl,r⟩
 |_,_,i+1,x,.cons _ t,e=>by
  obtain⟨u,h1,h2⟩:=Vals.get (i:=i) (x:=x) t (by simpa using e);exact⟨u,by simpa using h1,h2⟩
variable {u:G2}
theorem Vals.set {x:V}(r:RelV x u): ∀ {xs:G0 V} {us:G0 G2} (i:P5),Vals xs us->Vals (xs.set i x) (us.set i u)
 |_,_,_,.nil=> .nil
 |_,_,0,.cons _ t=> .cons r t
 |_,_,i+1,.cons q t=> .cons q (Vals.set r i t)
theorem Vals.append: ∀ {xs ys:G0 V} {us ws:G0 G2},Vals xs us->Vals ys ws->Vals (xs++ys) (us++ws)
 |_,_,_,_,.nil,s=>s
 |_,_,_,_,.cons r t,s=> .cons r (Vals.append t s)
theorem Vals.take: ∀ {xs:G0 V} {us:G0 G2} (n:P5),Vals xs us->Vals (xs.take n) (us.take n)
 |_,_,0,_=> .nil
 |_,_,_+1,.nil=> .nil
 |_,_,n+1,.cons r t=> .cons r (Vals.take n t)
theorem Vals.drop: ∀ {xs:G0 V} {us:G0 G2} (n:P5),Vals xs us->Vals (xs.drop n) (us.drop n)
 |_,_,0,r=>r
 |_,_,_+1,.nil=> .nil
 |_,_,n+1,.cons _ t=>Vals.drop n t
def Rg:G7 V->G7 G2->Prop
 |some v,some u=>RelV v u
 |none,none=>True
 |_,_=>False
def KV {κ:Type}:G0 (κ×V)->G0 (κ×G2)->Prop:=Paired λ(p:κ×V) (q:κ×G2)=>p.1=q.1/\RelV p.2 q.2
def kV:Key->V
 | .inl i=> .int i
 | .inr x=> .str x
inductive HO where
 /-- a list -/
 |lst (xs:G0 V)
 /-- a tuple (never changes) -/
 |tup (xs:G0 V)
 /-- a dict whose keys are ints and texts;one whose keys are tuples of ints and texts (the empty one is both) -/
 |dK (kvs:G0 (Key×V))|dT (kvs:G0 (G0 Key×V))
 /-- a set of ints: its members,its size -/
 |set (S:P7->C3) (n:P5)
 /-- an instance of the class at C,its dict at dx,its attributes -/
 |ins (C dx:G4) (fs:G0 (Str×V))
 /-- the dict of the instance at x -/
 |own (x:G4)
 /-- the dict of an exception -/
 |xd (fs:G0 (Str×V))
 /-- a bound method,f of x -/
 |met (f x:G4)
 /-- a range object lo,lo+1,.. below hi -/
 |rng (lo hi:P7)
 /-- a thing that is known to the object (the script;a dict while a loop walks it):read,never written while it is so -/
 |frz (o:Obj) (u:HO)
 /-- a code object's table -/
 |tbl (ps:F3 G2)
 /-- any other thing,by what is true of its one object (a def of one's own: SetO a S n:=HO.ext λh=> ..) -/
 |ext (φ:S6->Prop)
abbrev Hp:=G4->G7 HO
def upd (H:Hp)(a:G4)(o:HO):Hp:=λb=>if b=a then some o else H b
variable {H:Hp}{a:G4}{o:HO}
theorem jf:upd H a o a=some o:=by unfold upd;rw [S1 rfl]
variable {b:G4}
theorem jd (h:b≠a):upd H a o b=H b:=by unfold upd;rw [S9 h]
theorem WA {u:HO}(h:H a=some o)(h':H b=some u)(d:o≠u):a≠b:=by
 intro e;subst e;rw [h] at h';exact d (M1 h')
theorem je (h:H a=some o)(h':H b=none):a≠b:=by
 intro e;subst e;rw [h] at h';cases h'
def IsTupN (h:S6)(a:G4)(items:F3 G2):Prop:= ∃o,h.get? a=some o/\o.cls= .type "tuple" /\o.dict=none/\ ∃n,o.data= .seq items n
theorem IsTupN.tup {h:S6}{a:G4}{items:F3 G2}(x:IsTupN h a items):g0 h a items:=let ⟨o,e,c,_,n,d⟩:=x;⟨o,e,c,n,d⟩
theorem IsTupN.new (h:S6)(items:F3 G2):IsTupN (h.push {cls:= .type "tuple",data:= .seq items}) h.objs.size items:=⟨_,R9 _ rfl,rfl,rfl,_,rfl⟩
section
variable (P:D6)(w:S7)
def ObjOk (H:Hp)(h:S6)(a:G4):HO->Prop
 | .lst xs=>xs.length<=sizeLine/\ ∃ (its:G0 G2) (n:P5),Vals xs its/\h.get? a=some {cls:= .type "list",data:= .seq its.toArray n}
 | .tup xs=>xs.length<=sizeLine/\ ∃its:G0 G2,Vals xs its/\IsTupN h a its.toArray
 | .dK kvs=>kvs.length<=sizeLine/\(a==Q1)=false/\ ∃vs,KV kvs vs/\h.DictOf (zm P w) a vs
 | .dT kvs=>kvs.length<=sizeLine/\(a==Q1)=false/\ ∃xs:G0 (G0 Key×G4×G2),
  Paired (λ(p:G0 Key×V) (q:G0 Key×G4×G2)=>p.1=q.1/\H q.2.1=some (.tup (p.1.map kV))/\RelV p.2 q.2.2) kvs xs/\
  ∃o es ep,h.get? a=some o/\o.ExactDict/\o.data= .dict es ep/\es.toList=xs.map (entryOfKey (tupleKind (zm P w)))/\(xs.map (·.1)).Nodup
 | .set S n=>h.SetOf (intKind P w) a S n
 | .ins C dx fs=>H dx=some (.own a)/\fs.length<=1000/\dx≠a/\h.get? a=some (bU C dx)/\
  ∃mA,h.Ns1 dx mA/\(∀f,Rg (fs.lookup f) (mA f))/\hO mA (fs.map (·.1))
 | .own _=> ∃o,h.get? a=some o
 | .xd fs=> ∃mA,h.Ns1 a mA/\ ∀f,Rg (fs.lookup f) (mA f)
 | .rng lo hi=> ∃t u v,h.get? a=some {cls:= .type "range",data:= .fields #[.int lo t,.int hi u,.int 1 v]}
 | .frz o u=>h.get? a=some o/\ObjOk H h a u
 | .tbl ps=>h.get? a=some {cls:= .none,data:= .fields ps}
 | .met f x=>h.get? a=some (aI (.ref f) (.ref x))
 | .ext φ=>φ h/\(∃o,h.get? a=some o)/\ ∀h1 h2:S6,φ h1->(∀o,h1.get? a=some o->h2.get? a=some o)->φ h2
def HOk (H:Hp)(h:S6):Prop:= ∀a o,H a=some o->ObjOk P w H h a o
end
section
variable {P:D6}{w:S7}{H H':Hp}{h h':S6}{a:G4}{o:HO}
theorem ObjOk.lt (x:ObjOk P w H h a o):a<h.objs.size:=by
 cases o with
 |lst xs=>obtain⟨_,_,_,_,e⟩:=x;exact P6 e
 |tup xs=>obtain⟨_,_,_,p⟩:=x;exact p.tup.lt
 |dK kvs=>obtain⟨_,_,_,_,o,_,_,e,_⟩:=x;exact P6 e
 |dT kvs=>obtain⟨_,_,_,_,o,_,_,e,_⟩:=x;exact P6 e
 |set S n=>obtain⟨o,_,_,_,e,_⟩:=x;exact P6 e
 |ins C dx fs=>obtain⟨_,_,_,e,_⟩:=x;exact P6 e
 |own y=>obtain⟨_,e⟩:=x;exact P6 e
 |xd fs=>obtain⟨_,⟨_,_,_,e,_⟩,_⟩:=x;exact P6 e
 |rng lo hi=>obtain⟨_,_,_,e⟩:=x;exact P6 e
 |frz ob u=>obtain⟨e,_⟩:=x;exact P6 e
 |tbl ps=>exact P6 (show h.get? a=some _ from x)
 |met f y=>exact P6 (show h.get? a=some _ from x)
 |ext φ=>obtain⟨_,⟨_,e⟩,_⟩:=x;exact P6 e
theorem Paired.mapP {α β:Type}{F G:α->β->Prop}: ∀ {mB:G0 α} {mC:G0 β},Paired F mB mC->(∀a b,F a b->G a b)->Paired G mB mC
 |_,_,.nil,_=> .nil
 |_,_,.cons r t,f=> .cons (f _ _ r) (Paired.mapP t f)
theorem ObjOk.stay (x:ObjOk P w H h a o)(k: ∀b u,(b=a\/H b=some (.own a))->h.get? b=some u->h'.get? b=some u)
 (ho: ∀b,H b=some (.own a)->H' b=some (.own a))(ht: ∀b xs,H b=some (.tup xs)->H' b=some (.tup xs)):ObjOk P w H' h' a o:=by
 induction o with
 |lst xs=>obtain⟨z,its,n,r,e⟩:=x;exact⟨z,its,n,r,k _ _ (.inl rfl) e⟩
 |tup xs=>obtain⟨z,its,r,ob,e,c⟩:=x;exact⟨z,its,r,ob,k _ _ (.inl rfl) e,c⟩
 |dK kvs=>obtain⟨z,y,vs,r,ob,es,ep,e,c⟩:=x;exact⟨z,y,vs,r,ob,es,ep,k _ _ (.inl rfl) e,c⟩
 |dT kvs=>
  obtain⟨z,y,xs,r,ob,es,ep,e,c⟩:=x;exact⟨z,y,xs,Paired.mapP r λp q z=>⟨z.1,ht _ _ z.2.1,z.2.2⟩,ob,es,ep,k _ _ (.inl rfl) e,c⟩
 |set S n=>obtain⟨ob,es,ep,t,e,c⟩:=x;exact⟨ob,es,ep,t,k _ _ (.inl rfl) e,c⟩
 |ins C dx fs=>
  obtain⟨d,z,ne,e,mA,⟨od,es,ep,e2,c⟩,r⟩:=x;exact⟨ho _ d,z,ne,k _ _ (.inl rfl) e,mA,⟨od,es,ep,k _ _ (.inr d) e2,c⟩,r⟩
 |own y=>obtain⟨ob,e⟩:=x;exact⟨ob,k _ _ (.inl rfl) e⟩
 |xd fs=>obtain⟨mA,⟨od,es,ep,e,c⟩,r⟩:=x;exact⟨mA,⟨od,es,ep,k _ _ (.inl rfl) e,c⟩,r⟩
 |rng lo hi=>obtain⟨t,u,v,e⟩:=x;exact⟨t,u,v,k _ _ (.inl rfl) e⟩
 |frz ob u ih=>obtain⟨e,q⟩:=x;exact⟨k _ _ (.inl rfl) e,ih q⟩
 |tbl ps=>
  have e:h.get? a=some {cls:= .none,data:= .fields ps}:=x;show h'.get? a=some {cls:= .none,data:= .fields ps};exact k a _ (.inl rfl) e
 |met f y=>
  have e:h.get? a=some (aI (.ref f) (.ref y)):=x;show h'.get? a=some (aI (.ref f) (.ref y));exact k a _ (.inl rfl) e
 |ext φ=>obtain⟨p,⟨o,e⟩,st⟩:=x;exact⟨st _ _ p λo q=>k _ _ (.inl rfl) q,⟨o,k _ _ (.inl rfl) e⟩,st⟩
theorem HOk.lt (x:HOk P w H h)(e:H a=some o):a<h.objs.size:=(x a o e).lt
theorem HOk.fresh (x:HOk P w H h)(e:h.objs.size<=a):H a=none:=by
 cases q:H a with
 |none=>rfl
 |some u=>exact absurd (P2 (x.lt q) e) (N9 _)
theorem HOk.kept (x:HOk P w H h)(k: ∀b u,h.get? b=some u->h'.get? b=some u):HOk P w H h':=λa o e=>
 (x a o e).stay (λb u _ q=>k b u q) (λ_ q=>q) λ_ _ q=>q
theorem HOk.laid (x:HOk P w H h)(k: ∀b u,h.get? b=some u->h'.get? b=some u)(hp:h.objs.size<=a)(new:ObjOk P w (upd H a o) h' a o):HOk P w (upd H a o) h':=λb u e=>by
 have hn:=x.fresh hp
 by_cases hb:b=a
 ·subst hb;rw [jf] at e;cases e;exact new
 ·rw [jd hb] at e;exact(x b u e).stay (λc v _ q=>k c v q) (λc q=>by rw [jd (je q hn)];exact q) λc xs q=>by rw [jd (je q hn)];exact q
end
def Rd (H:Hp)(a:G4)(u:HO):Prop:=H a=some u\/ ∃o,H a=some (.frz o u)
variable {P:D6}{w:S7}{h:S6}
theorem Rd.ok {u:HO}(r:Rd H a u)(x:HOk P w H h):ObjOk P w H h a u:=by
 rcases r with r|⟨o,r⟩
 ·exact x a u r
 ·obtain⟨_,q⟩:=x a _ r;exact q
def Mut:G7 HO->Prop
 |some (.lst _)=>True
 |some (.dK _)=>True
 |some (.dT _)=>True
 |some (.set _ _)=>True
 |some (.ins _ _ _)=>True
 |some (.ext _)=>True
 |_=>False
section
variable {P:D6}{w:S7}{H:Hp}{h h':S6}{x e:G4}{o':HO}
theorem HOk.write (ok:HOk P w H h)(mu:Mut (H x))(he:e=x\/H e=some (.own x))(k: ∀b u,b≠e->h.get? b=some u->h'.get? b=some u)(heo: ∃u,h'.get? e=some u)
 (new:ObjOk P w (upd H x o') h' x o'):HOk P w (upd H x o') h':=λb u q=>by
 have nown: ∀c y,H c=some (.own y)->c≠x:=λc y r z=>by subst z;rw [r] at mu;exact mu
 have ntup: ∀c xs,H c=some (.tup xs)->c≠x:=λc xs r z=>by subst z;rw [r] at mu;exact mu
 by_cases hb:b=x
 ·subst hb;rw [jf] at q;cases q;exact new
 ·rw [jd hb] at q
  by_cases hbe:b=e
  ·have q':H b=some (.own x):=by
    rcases he with z|z
    ·exact absurd (hbe.trans z) hb
    ·rw [hbe];exact z
   rw [q] at q';cases q';obtain⟨v,hv⟩:=heo;exact⟨v,by rw [hbe];exact hv⟩
  ·refine(ok b u q).stay (λc v hc r=>k c v ?_ r) (λc r=>by rw [jd (nown c b r)];exact r) λc xs r=>by rw [jd (ntup c xs r)];exact r
   rcases hc with rfl|hc
   ·exact hbe
   ·rintro rfl;rcases he with z|z
    ·exact nown c b hc z
    ·rw [hc] at z;cases z;exact hb rfl
end
structure Un (fs ex:G0 G4)(H H':Hp)(h h':S6):Prop where
 keep: ∀b o,h.get? b=some o->H b=none->b ∉ fs->b ∉ ex->h'.get? b=some o
 slot: ∀b o,h.get? b=some o->H b=none->b∈fs->b ∉ ex-> ∃sl,h'.get? b=some {o with slots:=sl}
 free: ∀b o,h.get? b=some o->H b=none->b ∉ ex->H' b=none
 there: ∀b o,h.get? b=some o->b ∉ ex-> ∃o',h'.get? b=some o'
 tups: ∀b xs,H b=some (.tup xs)->H' b=some (.tup xs)
 frzs: ∀b o u,H b=some (.frz o u)->H' b=some (.frz o u)
 tbls: ∀b ps,H b=some (.tbl ps)-> ∃more,H' b=some (.tbl (ps++more))
section
variable {fs fs' ex ex':G0 G4}{H H1 H2:Hp}{h h1 h2 h':S6}{a x e:G4}{o:HO}
theorem Un.any (u:Un fs ex H H1 h h1){b:G4}{ob:Obj}(q:h.get? b=some ob)(n:H b=none)(hx:b ∉ ex): ∃sl,h1.get? b=some {ob with slots:=sl}:=by
 by_cases hb:b∈fs
 ·exact u.slot b ob q n hb hx
 ·exact⟨ob.slots,u.keep b ob q n hb hx⟩
theorem Un.kept (k: ∀b u,h.get? b=some u->h'.get? b=some u):Un fs ex H H h h':=
 ⟨λb ob q _ _ _=>k b ob q,λb ob q _ _ _=>⟨ob.slots,k b ob q⟩,λ_ _ _ n _=>n,λb ob q _=>⟨ob,k b ob q⟩,λ_ _ q=>q,λ_ _ _ q=>q,λ_ ps q=>⟨#[],by rw [q];simp⟩⟩
theorem Un.refl:Un fs ex H H h h:=Un.kept λ_ _ q=>q
theorem Un.laid (k: ∀b u,h.get? b=some u->h'.get? b=some u)(hp:h.objs.size<=a)(hn:H a=none):Un fs ex H (upd H a o) h h' where
 keep:=λb u q _ _ _=>k b u q
 slot:=λb u q _ _ _=>⟨u.slots,k b u q⟩
 free:=λb u q n _=>by rw [jd (R3 (P2 (P6 q) hp))];exact n
 there:=λb u q _=>⟨u,k b u q⟩
 tups:=λb xs q=>by rw [jd (je q hn)];exact q
 frzs:=λb u xs q=>by rw [jd (je q hn)];exact q
 tbls:=λb ps q=>⟨#[],by rw [jd (je q hn),q];simp⟩
theorem Un.write (mu:Mut (H x))(he:e=x\/H e=some (.own x))(k: ∀b u,b≠e->h.get? b=some u->h'.get? b=some u)(heo: ∃u,h'.get? e=some u):Un fs ex H (upd H x o) h h':=by
 have hx: ∀b,H b=none->b≠x:=λb n z=>by subst z;rw [n] at mu;exact mu
 have hb: ∀b,H b=none->b≠e:=λb n z=>by
  subst z;rcases he with r|r
  ·exact hx b n r
  ·rw [n] at r;cases r
 have hm: ∀b u,H b=some u-> ¬Mut (some u)->b≠x:=λb u q nm z=>by subst z;rw [q] at mu;exact nm mu
 refine⟨λb u q n _ _=>k b u (hb b n) q,λb u q n _ _=>⟨u.slots,k b u (hb b n) q⟩,λb u q n _=>by rw [jd (hx b n)];exact n,λb u q _=> ?_,
  λb xs q=>by rw [jd (hm b _ q λz=>z)];exact q,λb u xs q=>by rw [jd (hm b _ q λz=>z)];exact q,λb ps q=>⟨#[],by rw [jd (hm b _ q λz=>z),q];simp⟩⟩
 by_cases hbe:b=e
 ·subst hbe;exact heo
 ·exact⟨u,k b u hbe q⟩
end
def trk (h:S6)(H:Hp):G0 G4:=(C8 h.objs.size).filter λa=>(H a).isSome
def VJ (h:S6)(H:Hp):S6:=K7 h (trk h H)
theorem Yg (h:S6)(H:Hp):(VJ h H).objs.size=h.objs.size:=iP _ _
theorem vY {o:Obj}(e:h.get? b=some o)(n:H b=none):(VJ h H).get? b=some o:=
 O9 _ e λhm=>by
  have q:(H b).isSome=true:=(fF.mp hm).2;rw [n] at q;simp at q
theorem Xu {o:Obj}(e:(VJ h H).get? b=some o):h.get? b=some o/\H b=none:=by
 have e':h.get? b=some o:=X8 (trk h H) e;refine⟨e',?_⟩;cases q:H b with
 |none=>rfl
 |some x=>
  have hm:b∈trk h H:=fF.mpr ⟨fN.mpr (P6 e'),by simp [q]⟩;have z:(VJ h H).get? b=none:=O5 (trk h H) hm;rw [z] at e;cases e
def Xv (g h:S6)(L:G4):G0 (G4×Obj):=(C8 h.objs.size).filterMap λa=>if a=L\/(g.get? a).isSome=true then none else (h.get? a).map λo=>(a,o)
def zu (g h:S6)(L d:G4):G0 (G4×Obj):=(Xv g h L).filter λp=>decide (p.1≠d)
structure Mod (K:G1)(mg:Str->G7 G2)(base:S6):Prop where
 kin:K.In base
 glob:base.Ns mainGlobals mg
 blt: ∃mb,base.Ns X9 mb/\ ∀x:Str,x≠ "__name__" ->mb x=B5 x
 nolimit:base.NoLimit
structure Cx where
 prog:D6
 w:S7
 K:G1
 mg:Str->G7 G2
 base:S6
 A:R8
 N:G0 Str
 s₀:G3
 H₀:Hp
 env:Env
 outer:G0 Env
 stack:G0 Env
 ex:G0 G4
 fn:Str->C3
 calm:C3
 pn:G0 (G4×Obj)
 xe:G2->G3->Prop
def frs (l:G0 Env):G0 G4:=l.filterMap (·.frame)
abbrev Cx.fs (X:Cx):G0 G4:=frs X.outer
def Vis (sc:N4)(x:Str):Prop:=sc.names.lookup x=some .local\/sc.names.lookup x=some .cell\/sc.names.lookup x=some .free
def Loc (sc:N4)(x:Str):Prop:=sc.names.lookup x=some .local\/sc.names.lookup x=some .cell
def Nx (env:Env)(h:S6)(m:Str->G7 G2)(x:Str)(u:G2):Prop:=
 (env.kindOf x=some .local/\m x=some u)\/((env.kindOf x=some .cell\/env.kindOf x=some .free)/\ ∃c,env.cells.lookup x=some c/\h.IsCell c (some u))
structure Cx.Ok (X:Cx):Prop where
 mod:Mod X.K X.mg X.base
 kind:X.env.scope.kind= .function
 glob:X.env.globals=mainGlobals
 blt:X.env.builtins=X9
 above:X.s₀.heap.objs.size<=X.env.locals
 inj: ∀x y c,X.env.cells.lookup x=some c->X.env.cells.lookup y=some c->x=y
 has: ∀x,(X.env.kindOf x=some .cell\/X.env.kindOf x=some .free)-> ∃c,X.env.cells.lookup x=some c
 cab: ∀x c,X.fn x=true->X.env.cells.lookup x=some c->X.s₀.heap.objs.size<=c
 hd:X.calm=true->X.A.handled=none
 frames:X.A.frames=some X.stack
 stk:X.stack=X.outer\/(X.stack=X.env::X.outer/\X.env.frame=some X.env.locals)
 exf: ∀b∈X.ex,b≠X.env.locals/\ ∀x c,X.env.cells.lookup x=some c->c≠b
 bs: ∀b o,X.base.get? b=some o->X.s₀.heap.get? b=some o/\X.H₀ b=none
 bsz:X.base.objs.size<=X.s₀.heap.objs.size
 noex: ∀b o,X.base.get? b=some o->b ∉ X.ex
 exfs: ∀b∈X.ex,b ∉ X.fs
 funs:X.s₀.heap.FunFrames X.base X.outer
 frf: ∀b∈X.fs,X.H₀ b=none
structure Inv (X:Cx)(pins:G0 (G4×Obj))(σ:G0 (G7 V))(H:Hp)(s:G3):Prop where
 ok:X.Ok
 os:s.os=X.s₀.os
 bare:X3 s.gens
 base:Un X.fs X.ex X.H₀ H X.s₀.heap s.heap
 loc: ∃m,s.heap.Ns X.env.locals m/\ ∀ (i:P5) (x:Str) (v:V),X.N[i]? =some x->σ[i]? =some (some v)->Vis X.env.scope x-> ∃u,RelV v u/\Nx X.env s.heap m x u
 cell: ∀x c,X.env.cells.lookup x=some c-> ∃v,s.heap.IsCell c v
 free:H X.env.locals=none
 freeC: ∀x c,X.env.cells.lookup x=some c->H c=none
 pin: ∀p∈X.pn++pins,s.heap.get? p.1=some p.2/\H p.1=none/\p.1≠X.env.locals/\p.1 ∉ X.fs/\ ∀v,p.2.data≠ .cell v
 hok:HOk X.prog X.w H s.heap
 len:σ.length=X.N.length
section
variable {X:Cx}{pins:G0 (G4×Obj)}{σ:G0 (G7 V)}{H H':Hp}{s:G3}{h':S6}
theorem Cx.Ok.nofr (ok:X.Ok){b:G4}{o:Obj}(e:X.base.get? b=some o):b ∉ X.fs:=λhb=>by
 have:=(ok.funs.mem hb).1;rw [e] at this;cases this
theorem Inv.bs (I:Inv X pins σ H s): ∀b o,X.base.get? b=some o->s.heap.get? b=some o/\H b=none:=λb o e=>
 ⟨I.base.keep b o (I.ok.bs b o e).1 (I.ok.bs b o e).2 (I.ok.nofr e) (I.ok.noex b o e),I.base.free b o (I.ok.bs b o e).1 (I.ok.bs b o e).2 (I.ok.noex b o e)⟩
theorem Inv.bk (I:Inv X pins σ H s): ∀b o,X.base.get? b=some o->s.heap.get? b=some o:=λb o e=>(I.bs b o e).1
theorem Inv.mod (I:Inv X pins σ H s):Mod X.K X.mg X.base:=I.ok.mod
theorem Inv.kIn (I:Inv X pins σ H s):X.K.In s.heap:=I.ok.mod.kin.keeps I.bk
theorem Inv.lt (I:Inv X pins σ H s):X.env.locals<s.heap.objs.size:=let ⟨_,hn,_⟩:=I.loc;hn.lt
theorem Inv.sz (I:Inv X pins σ H s):X.s₀.heap.objs.size<=s.heap.objs.size:=R4 I.ok.above (N3 I.lt)
theorem Inv.nofs (I:Inv X pins σ H s){a:G4}(h:s.heap.objs.size<=a):a ∉ X.fs:=λhb=>by
 obtain⟨_,o,ho,_⟩:=I.ok.funs.mem hb;exact absurd (P2 (P6 ho) (R4 I.sz h)) (N9 _)
theorem Inv.cne (I:Inv X pins σ H s): ∀x c,X.env.cells.lookup x=some c->c≠X.env.locals:=λx c e z=>by
 obtain⟨v,o,ho,hd⟩:=I.cell x c e;obtain⟨m,⟨o',es,ep,ho',hd',_⟩,_⟩:=I.loc;rw [z,ho'] at ho;cases ho;rw [hd'] at hd;cases hd
theorem Inv.funs (I:Inv X pins σ H s):s.heap.FunFrames X.base X.outer:=by
 have all: ∀ (l:G0 Env),(∀b∈frs l,b∈X.fs)->X.s₀.heap.FunFrames X.base l->s.heap.FunFrames X.base l:=by
  intro l
  induction l with
  |nil=>intro _ _;trivial
  |cons env r ih=>
   intro hs hl;obtain⟨hk,⟨L,o,hf,hn,ho,hd⟩,hr⟩:=hl;have hL:L∈X.fs:=hs L (by unfold frs;rw [L7,hf];exact P8);obtain⟨sl,e⟩:=I.base.slot L o ho (I.ok.frf L hL) hL λz=>I.ok.exfs L z hL
   exact⟨hk,⟨L,_,hf,hn,e,hd⟩,ih (λb hb=>hs b (by unfold frs;rw [L7,hf];exact P9 _ hb)) hr⟩
 exact all X.outer (λ_ hb=>hb) I.ok.funs
theorem Inv.stack (I:Inv X pins σ H s):s.heap.FunFrames X.base X.stack:=by
 rcases I.ok.stk with e|⟨e,hf⟩
 ·rw [e];exact I.funs
 ·rw [e];obtain⟨m,hn,_⟩:=I.loc;refine .cons (by rw [I.ok.kind];decide) hf hn ?_ I.funs;exact Heap.get?_none_of_le (R4 I.ok.bsz I.ok.above)
theorem Inv.stkSub (I:Inv X pins σ H s): ∀b∈frs X.stack,b∈X.env.locals::X.fs:=λb hb=>by
 rcases I.ok.stk with e|⟨e,hf⟩
 ·rw [e] at hb;exact P9 _ hb
 ·rw [e] at hb;unfold frs at hb;rw [L7,hf] at hb;exact hb
theorem Inv.stkFree (I:Inv X pins σ H s): ∀b∈frs X.stack,H b=none:=λb hb=>by
 rcases P0.mp (I.stkSub b hb) with e|hb
 ·rw [e];exact I.free
 ·obtain⟨_,o,ho,_⟩:=I.ok.funs.mem hb;exact I.base.free b o ho (I.ok.frf b hb) λz=>I.ok.exfs b z hb
variable {t':P5}
theorem Inv.step {g':F3 GenState}{d':Drawn}{ch:G0 G4}(I:Inv X pins σ H s)
 (hch: ∀b∈ch,(b∈X.ex\/X.s₀.heap.objs.size<=b)/\b≠X.env.locals/\(∀x c,X.env.cells.lookup x=some c->c≠b)/\ ∀p∈X.pn++pins,p.1≠b)
 (keep: ∀b o,b≠X.env.locals->b ∉ X.fs->b ∉ ch->s.heap.get? b=some o->H b=none->h'.get? b=some o)
 (slot: ∀b o,b≠X.env.locals->b∈X.fs->b ∉ ch->s.heap.get? b=some o->H b=none-> ∃sl,h'.get? b=some {o with slots:=sl})(free: ∀b o,b ∉ ch->s.heap.get? b=some o->H b=none->H' b=none)
 (there: ∀b o,b ∉ ch->s.heap.get? b=some o-> ∃o',h'.get? b=some o')
 (tups: ∀b xs,H b=some (.tup xs)->H' b=some (.tup xs))(frzs: ∀b o u,H b=some (.frz o u)->H' b=some (.frz o u))(tbls: ∀b ps,H b=some (.tbl ps)-> ∃more,H' b=some (.tbl (ps++more)))
 (ns: ∀m,s.heap.Ns X.env.locals m->h'.Ns X.env.locals m)(hok:HOk X.prog X.w H' h')(hg:X3 g'):
 Inv X pins σ H' {s with heap:=h',gens:=g',drawn:=d',toks:=t'}:=by
 have neL: ∀b o,X.s₀.heap.get? b=some o->b≠X.env.locals:=λb o e=>R3 (P2 (P6 e) I.ok.above)
 have neC: ∀b o,X.s₀.heap.get? b=some o->b ∉ X.ex->b ∉ ch:=λb o e hx hb=>by
  rcases (hch b hb).1 with z|z
  ·exact hx z
  ·exact absurd (P2 (P6 e) z) (N9 _)
 have cellK: ∀x c,X.env.cells.lookup x=some c-> ∀v,s.heap.IsCell c v->h'.IsCell c v:=λx c e v ⟨o,ho,hd⟩=>by
  have nch:c ∉ ch:=λz=>(hch c z).2.2.1 x c e rfl
  by_cases hc:c∈X.fs
  ·obtain⟨sl,q⟩:=slot c o (I.cne x c e) hc nch ho (I.freeC x c e);exact⟨_,q,hd⟩
  ·exact⟨o,keep c o (I.cne x c e) hc nch ho (I.freeC x c e),hd⟩
 refine⟨I.ok,I.os,hg,⟨λb o e n hb hx=> ?_,λb o e n hb hx=> ?_,λb o e n hx=> ?_,λb o e hx=> ?_,λb xs e=>tups b xs (I.base.tups b xs e),λb o xs e=>frzs b o xs (I.base.frzs b o xs e),λb ps e=> ?_⟩,?_,λx c e=> ?_,?_,λx c e=> ?_,λp hp=> ?_,hok,I.len⟩
 ·exact keep b o (neL b o e) hb (neC b o e hx) (I.base.keep b o e n hb hx) (I.base.free b o e n hx)
 ·obtain⟨sl,e1⟩:=I.base.slot b o e n hb hx;obtain⟨sl',e2⟩:=slot b _ (neL b o e) hb (neC b o e hx) e1 (I.base.free b o e n hx);exact⟨sl',e2⟩
 ·obtain⟨o',e1⟩:=I.base.there b o e hx;exact free b o' (neC b o e hx) e1 (I.base.free b o e n hx)
 ·obtain⟨o',e1⟩:=I.base.there b o e hx;exact there b o' (neC b o e hx) e1
 ·obtain⟨m1,e1⟩:=I.base.tbls b ps e;obtain⟨m2,e2⟩:=tbls b _ e1;exact⟨m1++m2,by rw [e2,Array.append_assoc]⟩
 ·obtain⟨m,hn,hl⟩:=I.loc;refine⟨m,ns m hn,λi x v e1 e2 e3=> ?_⟩;obtain⟨u,r,l⟩:=hl i x v e1 e2 e3;refine⟨u,r,?_⟩;rcases l with l|⟨k,c,e,z⟩
  ·exact .inl l
  ·exact .inr ⟨k,c,e,cellK x c e _ z⟩
 ·obtain⟨v,z⟩:=I.cell x c e;exact⟨v,cellK x c e v z⟩
 ·obtain⟨m,⟨o,_,_,ho,_⟩,_⟩:=I.loc;exact free _ o (λz=>(hch _ z).2.1 rfl) ho I.free
 ·obtain⟨v,o,ho,hd⟩:=I.cell x c e;exact free c o (λz=>(hch c z).2.2.1 x c e rfl) ho (I.freeC x c e)
 ·obtain⟨e,n,ne,nf,d⟩:=I.pin p hp;have nch:p.1 ∉ ch:=λz=>(hch p.1 z).2.2.2 p hp rfl
  exact⟨keep p.1 p.2 ne nf nch e n,free p.1 p.2 nch e n,ne,nf,d⟩
theorem Inv.un (I:Inv X pins σ H s)(u:Un X.fs [] H H' s.heap h')(hok:HOk X.prog X.w H' h'):Inv X pins σ H' {s with heap:=h',toks:=t'}:=by
 obtain⟨m,⟨o,es,ep,ho,r⟩,_⟩:=id I.loc;obtain⟨sl,hL⟩:=u.any ho I.free (by simp);exact I.step (g':=s.gens) (d':=s.drawn) (ch:= []) (λ_ z=>nomatch z) (λb o _ hb _ e n=>u.keep b o e n hb (by simp)) (λb o _ hb _ e n=>u.slot b o e n hb (by simp)) (λb o _ e n=>u.free b o e n (by simp)) (λb o _ e=>u.there b o e (by simp)) u.tups u.frzs u.tbls (λm' hm=>by
  obtain⟨o',es',ep',ho',r'⟩:=hm;rw [ho] at ho';cases ho';exact⟨_,es',ep',hL,r'⟩) hok I.bare
theorem Inv.call {g':F3 GenState}{d':Drawn}{ch:G0 G4}(I:Inv X pins σ H s)(u:Un (frs X.stack) ch H H' s.heap h')(hok:HOk X.prog X.w H' h')(hg:X3 g')
 (hch: ∀b∈ch,(b∈X.ex\/X.s₀.heap.objs.size<=b)/\b≠X.env.locals/\(∀x c,X.env.cells.lookup x=some c->c≠b)/\ ∀p∈X.pn++pins,p.1≠b):
 Inv X pins σ H' {s with heap:=h',gens:=g',drawn:=d',toks:=t'}:=by
 obtain⟨m,⟨o,es,ep,ho,r⟩,_⟩:=id I.loc;obtain⟨sl,hL⟩:=u.any ho I.free λz=>(hch _ z).2.1 rfl
 exact I.step (ch:=ch) hch (λb o hL hb hc e n=>u.keep b o e n (λz=>(P0.mp (I.stkSub b z)).elim hL hb) hc) (λb o _ _ hc e n=>u.any e n hc) (λb o hc e n=>u.free b o e n hc) (λb o hc e=>u.there b o e hc) u.tups u.frzs u.tbls (λm' hm=>by
  obtain⟨o',es',ep',ho',r'⟩:=hm;rw [ho] at ho';cases ho';exact⟨_,es',ep',hL,r'⟩) hok hg
theorem Inv.turned {it:G4}(I:Inv X pins σ H s)(k: ∀b o,b≠it->s.heap.get? b=some o->h'.get? b=some o)(hn:H it=none)(hL:it≠X.env.locals)
 (h1:it∈X.ex\/X.s₀.heap.objs.size<=it)(h2: ∀x c,X.env.cells.lookup x=some c->c≠it)(h3: ∀p∈X.pn++pins,p.1≠it):Inv X pins σ H {s with heap:=h',toks:=t'}:=by
 have nit: ∀b u,H b=some u->b≠it:=λb u e z=>by rw [z,hn] at e;cases e
 refine I.step (g':=s.gens) (d':=s.drawn) (ch:= [it]) (λb hb=> ?_) (λb o _ _ hc e _=>k b o (λz=>hc (by simp [z])) e) (λb o _ _ hc e _=>⟨o.slots,k b o (λz=>hc (by simp [z])) e⟩) (λ_ _ _ _ n=>n)
  (λb o hc e=>⟨o,k b o (λz=>hc (by simp [z])) e⟩) (λ_ _ e=>e) (λ_ _ _ e=>e) (λb ps e=>⟨#[],by rw [e];simp⟩) (λm hm=> ?_) (λb u e=> ?_) I.bare
 ·have e:b=it:=by simpa using hb
  subst e;exact⟨h1,hL,h2,h3⟩
 ·obtain⟨o,es,ep,ho,r⟩:=hm;exact⟨o,es,ep,k _ o (A0 hL) ho,r⟩
 ·refine(I.hok b u e).stay (λc v hc q=>k c v ?_ q) (λ_ q=>q) λ_ _ q=>q
  rcases hc with z|z
  ·rw [z];exact nit b u e
  ·exact nit c _ z
theorem Inv.tok (I:Inv X pins σ H s)(t:P5):Inv X pins σ H {s with toks:=t}:=I.un (h':=s.heap) (t':=t) Un.refl I.hok
theorem Inv.kept (I:Inv X pins σ H s)(k: ∀b u,s.heap.get? b=some u->h'.get? b=some u):Inv X pins σ H {s with heap:=h',toks:=t'}:=I.un (Un.kept k) (I.hok.kept k)
theorem Inv.laid {a:G4}{o:HO}(I:Inv X pins σ H s)(k: ∀b u,s.heap.get? b=some u->h'.get? b=some u)(hp:s.heap.objs.size<=a)(new:ObjOk X.prog X.w (upd H a o) h' a o):
 Inv X pins σ (upd H a o) {s with heap:=h',toks:=t'}:=I.un (Un.laid k hp (I.hok.fresh hp)) (I.hok.laid k hp new)
theorem Inv.write {x e:G4}{o:HO}(I:Inv X pins σ H s)(mu:Mut (H x))(he:e=x\/H e=some (.own x))(k: ∀b u,b≠e->s.heap.get? b=some u->h'.get? b=some u)(heo: ∃u,h'.get? e=some u)
 (new:ObjOk X.prog X.w (upd H x o) h' x o):Inv X pins σ (upd H x o) {s with heap:=h',toks:=t'}:=I.un (Un.write mu he k heo) (I.hok.write mu he k heo new)
theorem Inv.weak {lH:G0 (G7 V)}(I:Inv X pins σ H s)(hl:lH.length=σ.length)(w: ∀ (i:P5) v,lH[i]? =some (some v)->σ[i]? =some (some v)):Inv X pins lH H s:=
 ⟨I.ok,I.os,I.bare,I.base,let ⟨m,hn,hl'⟩:=I.loc;⟨m,hn,λi x v e1 e2 e3=>hl' i x v e1 (w i v e2) e3⟩,I.cell,I.free,I.freeC,I.pin,I.hok,hl.trans I.len⟩
theorem Inv.pins_of {pins':G0 (G4×Obj)}(I:Inv X pins σ H s)(h: ∀p∈pins',s.heap.get? p.1=some p.2/\H p.1=none/\p.1≠X.env.locals/\p.1 ∉ X.fs/\ ∀v,p.2.data≠ .cell v):Inv X pins' σ H s:=
 ⟨I.ok,I.os,I.bare,I.base,I.loc,I.cell,I.free,I.freeC,λp hp=>(T2.mp hp).elim (λz=>I.pin p (C4 _ z)) (h p),I.hok,I.len⟩
theorem vZ {N:G0 Str}(hN:N.Nodup){i j:P5}{x:Str}(a:N[i]? =some x)(b:N[j]? =some x):i=j:=by
 obtain⟨h1,e1⟩:=D0.mp a;obtain⟨h2,e2⟩:=D0.mp b;exact(List.getElem_inj hN).mp (e1.trans e2.symm)
theorem Yh {M:bV}{A:R8}{E:G2->G3->Prop}{i:P5}{x:Str}{v:V}{u:G2}{Q:Unit->G3->Prop}(I:Inv X pins σ H s)(hN:X.N.Nodup)(hi:X.N[i]? =some x)(hx:Loc X.env.scope x)(r:RelV v u)
 (h: ∀s',Inv X pins (σ.set i (some v)) H s'->(∃a,X4 a s.heap s'.heap/\(a=X.env.locals\/X.env.cells.lookup x=some a))->Q () s')(hf:X.fn x=true\/X.env.scope.names.lookup x=some .local:=by first|exact .inl rfl|exact .inr rfl|assumption):D5 M A (storeName X.env x u) Q E s:=by
 obtain⟨m,hn,hl⟩:=id I.loc;have hcls:(X.env.scope.kind== .class||(X.env.scope.kind== .module&&X.env.locals !=X.env.globals))=false:=by rw [I.ok.kind];rfl
 have lV:i<σ.length:=by rw [I.len];exact(D0.mp hi).1
 have cne:=I.cne;have tracked: ∀ {a:G4} {h':S6},(∃o,s.heap.get? a=some o/\H a=none)->X4 a s.heap h'->HOk X.prog X.w H h':=λ{a h'} ha hs b ob e=>by
  obtain⟨_,_,hfree⟩:=ha;refine(I.hok b ob e).stay (λc w' hc q=>(hs.2 c ?_).trans q) (λ_ q=>q) λ_ _ q=>q
  rintro rfl;rcases hc with rfl|hc
  ·rw [hfree] at e;cases e
  ·rw [hfree] at hc;cases hc
 rcases hx with hk|hk
 ·refine wpAny_storeName_local hk hn (λh' hn' hs=> ?_) hcls;obtain⟨oL,_,_,hoL,_⟩:=id hn;refine h _ ⟨I.ok,I.os,I.bare,⟨λb o e n hb hx=> ?_,λb o e n hb hx=> ?_,I.base.free,λb o e hx=> ?_,I.base.tups,I.base.frzs,I.base.tbls⟩,⟨_,hn',λj y v' e1 e2 e3=> ?_⟩,λy c e=> ?_,I.free,I.freeC,λp hp=> ?_,tracked ⟨oL,hoL,I.free⟩ hs,by simpa using I.len⟩ ⟨_,hs,.inl rfl⟩
  ·exact(hs.2 b (R3 (P2 (P6 e) I.ok.above))).trans (I.base.keep b o e n hb hx)
  ·obtain⟨sl,e1⟩:=I.base.slot b o e n hb hx;exact⟨sl,(hs.2 b (R3 (P2 (P6 e) I.ok.above))).trans e1⟩
  ·obtain⟨o',e1⟩:=I.base.there b o e hx;exact⟨o',(hs.2 b (R3 (P2 (P6 e) I.ok.above))).trans e1⟩
  ·by_cases hj:j=i
   ·subst hj;rw [hi] at e1;cases e1;rw [A5 lV] at e2;cases e2;exact⟨u,r,.inl ⟨hk,by simp⟩⟩
   ·rw [C5 (A0 hj)] at e2;obtain⟨u',r',q⟩:=hl j y v' e1 e2 e3;refine⟨u',r',?_⟩;rcases q with ⟨k,e⟩|⟨k,c,e,z⟩
    ·refine .inl ⟨k,?_⟩;have:y≠x:=λe=>hj (vZ hN e1 (e ▸ hi))
     simp [this,e]
    ·exact .inr ⟨k,c,e,z.sameBut hs (cne y c e)⟩
  ·obtain⟨w',z⟩:=I.cell y c e;exact⟨w',z.sameBut hs (cne y c e)⟩
  ·obtain⟨e,n,ne,nf,d⟩:=I.pin p hp;exact⟨(hs.2 p.1 ne).trans e,n,ne,nf,d⟩
 ·have hfn:X.fn x=true:=by
   rcases hf with z|z
   ·exact z
   ·rw [z] at hk;cases hk
  obtain⟨c,hc⟩:=I.ok.has x (.inl hk);obtain⟨w',z⟩:=I.cell x c hc;refine wpAny_storeName_cell I.ok.kind hk hc z (λh' hc' hs=> ?_);obtain⟨oc,hoc,hocd⟩:=id z;refine h {s with heap:=h'} ⟨I.ok,I.os,I.bare,⟨λb o e n hb hx=> ?_,λb o e n hb hx=> ?_,I.base.free,λb o e hx=> ?_,I.base.tups,I.base.frzs,I.base.tbls⟩,⟨m,hn.sameBut hs (A0 (cne x c hc)),λj y v' e1 e2 e3=> ?_⟩,λy c' e=> ?_,I.free,I.freeC,λp hp=> ?_,tracked ⟨oc,hoc,I.freeC x c hc⟩ hs,by simpa using I.len⟩ ⟨c,hs,.inr hc⟩
  ·exact(hs.2 b (R3 (P2 (P6 e) (I.ok.cab x c hfn hc)))).trans (I.base.keep b o e n hb hx)
  ·obtain⟨sl,e1⟩:=I.base.slot b o e n hb hx;exact⟨sl,(hs.2 b (R3 (P2 (P6 e) (I.ok.cab x c hfn hc)))).trans e1⟩
  ·obtain⟨o',e1⟩:=I.base.there b o e hx;exact⟨o',(hs.2 b (R3 (P2 (P6 e) (I.ok.cab x c hfn hc)))).trans e1⟩
  ·by_cases hj:j=i
   ·subst hj;rw [hi] at e1;cases e1;rw [A5 lV] at e2;cases e2;exact⟨u,r,.inr ⟨.inl hk,c,hc,hc'⟩⟩
   ·rw [C5 (A0 hj)] at e2;obtain⟨u',r',q⟩:=hl j y v' e1 e2 e3;refine⟨u',r',?_⟩;rcases q with q|⟨k,c',e,z'⟩
    ·exact .inl q
    ·refine .inr ⟨k,c',e,z'.sameBut hs ?_⟩;rintro rfl;exact hj (vZ hN e1 (I.ok.inj _ _ _ e hc ▸ hi))
  ·by_cases hcc:c'=c
   ·subst hcc;exact⟨_,hc'⟩
   ·obtain⟨w2,z2⟩:=I.cell y c' e;exact⟨w2,z2.sameBut hs hcc⟩
  ·obtain⟨e,n,ne,nf,d⟩:=I.pin p hp;refine⟨(hs.2 p.1 ?_).trans e,n,ne,nf,d⟩;intro q;rw [q,hoc] at e;have q':oc=p.2:=M1 e;exact d w' (by rw [<-q'];exact hocd)
theorem zB {M:bV}{A:R8}{E:G2->G3->Prop}{i:P5}{x:Str}{v:V}{u:G2}{Q:Unit->G3->Prop}(I:Inv X pins σ H s)(hN:X.N.Nodup)(hi:X.N[i]? =some x)(hx:Loc X.env.scope x)(r:RelV v u)
 (h: ∀s',Inv X pins (σ.set i (some v)) H s'->Q () s')(hf:X.fn x=true\/X.env.scope.names.lookup x=some .local:=by first|exact .inl rfl|exact .inr rfl|assumption):D5 M A (storeName X.env x u) Q E s:=
 Yh I hN hi hx r (λs' I' _=>h s' I') hf
theorem Inv.call' {s':G3}{ch:G0 G4}(I:Inv X pins σ H s)(ho:s'.os=s.os)(u:Un (frs X.stack) ch H H' s.heap s'.heap)(hok:HOk X.prog X.w H' s'.heap)(hg:X3 s'.gens)
 (hch: ∀b∈ch,(b∈X.ex\/X.s₀.heap.objs.size<=b)/\b≠X.env.locals/\(∀x c,X.env.cells.lookup x=some c->c≠b)/\ ∀p∈X.pn++pins,p.1≠b):Inv X pins σ H' s':=by
 obtain⟨h',g',d',t',o'⟩:=s';have e:o'=s.os:=ho;subst e;exact I.call (g':=g') (t':=t') (d':=d') u hok hg hch
end
abbrev XK:=G2->G7 G4->Hp->Prop
abbrev St:=G0 (G7 V)
abbrev VK:=V->Hp->Prop
abbrev TE:=St->Hp->VK->Prop
abbrev TT:=St->Hp->(C3->Hp->Prop)->Prop
abbrev TA:=St->Hp->(G0 V->Hp->Prop)->Prop
structure Ends where
 nx:St->Hp->Prop
 rt:VK
 bk:St->Hp->Prop:=λ_ _=>False
 ct:St->Hp->Prop:=λ_ _=>False
abbrev TS:=Ends->St->Hp->Prop
def EP (X:Cx)(pins:G0 (G4×Obj))(σ:St)(Q:VK)(u:G2)(s':G3):Prop:= ∃v H',Inv X pins σ H' s'/\RelV v u/\Q v H'
def TP (X:Cx)(pins:G0 (G4×Obj))(σ:St)(Q:C3->Hp->Prop)(b:C3)(s':G3):Prop:= ∃H',Inv X pins σ H' s'/\Q b H'
def AP (X:Cx)(pins:G0 (G4×Obj))(σ:St)(Q:G0 V->Hp->Prop)(us:G0 G2)(s':G3):Prop:= ∃vs H',Inv X pins σ H' s'/\Vals vs us/\Q vs H'
def SP (X:Cx)(pins:G0 (G4×Obj))(D:Ends)(f:Flow)(s':G3):Prop:=
 match f with
 | .next=> ∃lH H',Inv X pins lH H' s'/\D.nx lH H'
 | .brk=> ∃lH H',Inv X pins lH H' s'/\D.bk lH H'
 | .cont=> ∃lH H',Inv X pins lH H' s'/\D.ct lH H'
 | .ret u=> ∃v lH H',Inv X pins lH H' s'/\RelV v u/\D.rt v H'
def PE (X:Cx)(e:D2)(t:TE):Prop:=
 ∀ (pins:G0 (G4×Obj)) (s:G3) (σ:St) (H:Hp) (Q:VK),Inv X pins σ H s->t σ H Q->D5 (D8 X.prog X.w) X.A (N5 e X.env) (EP X pins σ Q) X.xe s
def PT (X:Cx)(e:D2)(t:TT):Prop:=
 ∀ (pins:G0 (G4×Obj)) (s:G3) (σ:St) (H:Hp) (Q:C3->Hp->Prop),Inv X pins σ H s->t σ H Q->D5 (D8 X.prog X.w) X.A (isTrue e X.env (N5 e X.env)) (TP X pins σ Q) X.xe s
def PW (X:Cx)(e:D2)(t:TT):Prop:=
 ∀ (whole:Sem G2) (pins:G0 (G4×Obj)) (s:G3) (σ:St) (H:Hp) (Q:C3->Hp->Prop),Inv X pins σ H s->t σ H Q->D5 (D8 X.prog X.w) X.A (isTrue e X.env whole) (TP X pins σ Q) X.xe s
variable {X:Cx}
theorem PW.pt {e:D2}{t:TT}(h:PW X e t):PT X e t:=h _
def PA (X:Cx)(es:G0 D2)(t:TA):Prop:=
 ∀ (pos:Pos) (pins:G0 (G4×Obj)) (s:G3) (σ:St) (H:Hp) (Q:G0 V->Hp->Prop),Inv X pins σ H s->t σ H Q->D5 (D8 X.prog X.w) X.A (spliced (N6 pos (G6 es X.env))) (AP X pins σ Q) X.xe s
def PS (X:Cx)(st:N2)(t:TS):Prop:=
 ∀ (pins:G0 (G4×Obj)) (s:G3) (σ:St) (H:Hp) (D:Ends),Inv X pins σ H s->t D σ H->D5 (D8 X.prog X.w) X.A (exec st X.env) (SP X pins D) X.xe s
def PSs (X:Cx)(st:G0 N2)(t:TS):Prop:=
 ∀ (pins:G0 (G4×Obj)) (s:G3) (σ:St) (H:Hp) (D:Ends),Inv X pins σ H s->t D σ H->D5 (D8 X.prog X.w) X.A (execs st X.env) (SP X pins D) X.xe s
variable {A:R8}{s:G3}
theorem thn {α:Type}{t:Sem α}{Q Q':α->G3->Prop}{M:bV}{E:G2->G3->Prop}(h:D5 M A t Q E s)(hQ: ∀a s,Q a s->Q' a s):D5 M A t Q' E s:=S3 h hQ λ_ _ x=>x
section
variable {X:Cx}
def MJ (i:P5):TE:=λσ H Q=> ∃v,σ[i]? =some (some v)/\Q v H
def tC (v:V):TE:=λ_ H Q=>Q v H
variable {x:Str}
theorem Gw {i:P5}{pos:Pos}(hN:X.N[i]? =some x)(hv:Vis X.env.scope x)(hd:(x==("__debug__" :Str))=false:=by decide)(hcd:(x==("__classdict__" :Str))=false:=by decide):PE X (.Name x pos) (MJ i):=by
 intro pins s σ H Q I h;obtain⟨v,e,h⟩:=h;obtain⟨m,hn,hl⟩:=I.loc;obtain⟨u,r,l⟩:=hl i x v hN e hv;have fin:EP X pins σ Q u s:=⟨v,H,I,r,h⟩;rcases l with ⟨hk,hm⟩|⟨hk,c,hc,hcell⟩
 ·exact dD (cA I.ok.kind hk hn hm fin) hd
 ·rcases hk with hk|hk
  ·exact dD (wpAny_loadName_cell I.ok.kind hk hc hcell fin) hd
  ·exact dD (wpAny_loadName_free I.ok.kind hk hc hcell fin hcd) hd
theorem pe_int {i j pos}:PE X (.Constant (.int i) j pos) (tC (.int i)):=λ_ _ _ H _ I h=>wpAny_Constant_int ⟨.int i,H,I.tok _,⟨_,rfl⟩,h⟩
theorem pe_bl {b j pos}:PE X (.Constant (.bool b) j pos) (tC (.bl b)):=λ_ _ _ H _ I h=>Constant_bool ⟨.bl b,H,I,rfl,h⟩
theorem pe_non {j pos}:PE X (.Constant .none j pos) (tC .non):=λ_ _ _ H _ I h=>Constant_none ⟨.non,H,I,rfl,h⟩
theorem pe_str {x j pos}:PE X (.Constant (.str x) j pos) (tC (.str x)):=λ_ _ _ H _ I h=>Calls.Constant_str ⟨.str x,H,I.tok _,⟨_,rfl⟩,h⟩
def Gl (X:Cx)(x:Str):Prop:=X.env.kindOf x=some .globalImplicit
variable {u:G2}
theorem ye {E:G2->G3->Prop}{pins:G0 (G4×Obj)}{s:G3}{σ:St}{H:Hp}{pos:Pos}{Q:G2->G3->Prop}(I:Inv X pins σ H s)(hg:Gl X x)(hm:X.mg x=some u)(h:Q u s)
 (hd:(x==("__debug__" :Str))=false:=by decide):D5 (D8 X.prog X.w) X.A (N5 (.Name x pos) X.env) Q E s:=
 Calls.Name_function_global I.ok.kind hg (Calls.loadGlobal_global (by rw [I.ok.glob];exact I.mod.glob.keeps I.bk) hm h) hd
theorem JB {E:G2->G3->Prop}{pins:G0 (G4×Obj)}{s:G3}{σ:St}{H:Hp}{pos:Pos}{Q:G2->G3->Prop}(I:Inv X pins σ H s)(hg:Gl X x)(hm:X.mg x=none)(hv:B5 x=some u)(h:Q u s)
 (hn:x≠ "__name__" :=by decide)(hd:(x==("__debug__" :Str))=false:=by decide):D5 (D8 X.prog X.w) X.A (N5 (.Name x pos) X.env) Q E s:=by
 obtain⟨mb,h1,h2⟩:=I.mod.blt;exact Calls.Name_function_global I.ok.kind hg (Calls.loadGlobal_builtin (by rw [I.ok.glob];exact I.mod.glob.keeps I.bk) hm (by rw [I.ok.blt];exact h1.keeps I.bk) ((h2 x hn).trans hv) h) hd
theorem ZD {v:V}{pos:Pos}(hg:Gl X x)(hm:X.mg x=some u)(r:RelV v u)(hd:(x==("__debug__" :Str))=false:=by decide):PE X (.Name x pos) (tC v):=
 λ_ _ _ H _ I h=>ye I hg hm ⟨v,H,I,r,h⟩ hd
theorem Yi {v:V}{pos:Pos}(hg:Gl X x)(hm:X.mg x=none)(hv:B5 x=some u)(r:RelV v u)(hn:x≠ "__name__" :=by decide)(hd:(x==("__debug__" :Str))=false:=by decide):PE X (.Name x pos) (tC v):=
 λ_ _ _ H _ I h=>JB I hg hm hv ⟨v,H,I,r,h⟩ hn hd
variable {a b:D2}{ta tb:TE}{pos:Pos}
def tB (t:TE):TT:=λσ H Q=>t σ H λx H1=> ∃c,x= .bl c/\Q c H1
theorem Gx {e:D2}{t:TE}(h:PE X e t)(he: ∀whole,isTrue e X.env whole=(do let v <-whole;cQ e.pos;U3 [v] (k7 v)):=by intro _;rfl):PT X e (tB t):=by
 intro pins s σ H Q I hw;refine isTrue_plain (thn (h pins s σ H _ I hw) λv s1 ⟨x,H1,I1,r1,q1⟩=> ?_) (he _);obtain⟨d,rfl,q⟩:=q1;cases r1;exact C9 ⟨H1,I1,q⟩
variable {tA tB':TT}{zu:G0 D2}
def tOr (t u:TT):TT:=λσ H Q=>t σ H λc H1=>if c=true then Q true H1 else u σ H1 Q
def MK (t:TT):TT:=λσ H Q=>t σ H λc H1=>Q (!c) H1
theorem Gy (ha:PT X a tA):PW X (.BoolOp .Or [a] pos) tA:=by
 intro wh pins s σ H Q I h;refine isTrue_or (thn (ha pins s σ H Q I h) λc s1 e=> ?_);cases c with
 |false=>exact isTrue_or_nil e
 |true=>exact e
theorem Rh (ha:PT X a tA)(hb:PW X (.BoolOp .Or (b::zu) pos) tB'):PW X (.BoolOp .Or (a::b::zu) pos) (tOr tA tB'):=by
 intro wh pins s σ H Q I h;refine isTrue_or (thn (ha pins s σ H _ I h) λc s1 ⟨H1,I1,q1⟩=> ?_);cases c with
 |true=>exact⟨H1,I1,q1⟩
 |false=>exact hb wh pins s1 σ H1 Q I1 q1
theorem Gz (ha:PT X a tA):PT X (.UnaryOp .Not a pos) (MK tA):=by
 intro pins s σ H Q I h;exact isTrue_not (ha pins s σ H (λc H1=>Q (!c) H1) I h)
def GA (ta tb:TE):TE:=λσ H Q=>ta σ H λx H1=> ∃c,x= .bl c/\if c=true then tb σ H1 Q else Q (.bl false) H1
def ML (ta tb:TE):TE:=λσ H Q=>ta σ H λx H1=> ∃c,x= .bl c/\if c=true then Q (.bl true) H1 else tb σ H1 Q
def GB (ta:TE):TE:=λσ H Q=>ta σ H λx H1=> ∃c,x= .bl c/\Q (.bl (!c)) H1
theorem GC {op}{t:TE}(h:PE X a t):PE X (.BoolOp op [a] pos) t:=λpins s σ H Q I hw=>BoolOp_one (h pins s σ H Q I hw)
theorem GD (ha:PE X a ta)(hb:PE X (.BoolOp .And (b::zu) pos) tb):PE X (.BoolOp .And (a::b::zu) pos) (GA ta tb):=by
 intro pins s σ H Q I h;refine BoolOp_and (thn (ha pins s σ H _ I h) λv s1 ⟨x,H1,I1,r1,q1⟩=> ?_);obtain⟨c,rfl,q1⟩:=q1;cases r1;refine C9 ?_;cases c with
 |true=>exact hb pins s1 σ H1 Q I1 q1
 |false=>exact⟨.bl false,H1,I1,rfl,q1⟩
theorem Ri (ha:PE X a ta)(hb:PE X (.BoolOp .Or (b::zu) pos) tb):PE X (.BoolOp .Or (a::b::zu) pos) (ML ta tb):=by
 intro pins s σ H Q I h;refine BoolOp_or (thn (ha pins s σ H _ I h) λv s1 ⟨x,H1,I1,r1,q1⟩=> ?_);obtain⟨c,rfl,q1⟩:=q1;cases r1;refine C9 ?_;cases c with
 |false=>exact hb pins s1 σ H1 Q I1 q1
 |true=>exact⟨.bl true,H1,I1,rfl,q1⟩
theorem GE (ha:PE X a ta):PE X (.UnaryOp .Not a pos) (GB ta):=by
 intro pins s σ H Q I h;refine UnaryOp_ (thn (ha pins s σ H _ I h) λv s1 ⟨x,H1,I1,r1,q1⟩=> ?_);obtain⟨c,rfl,q1⟩:=q1;cases r1;exact not_of (C9 ⟨.bl (!c),H1,I1,rfl,q1⟩)
def tIf (t:TT)(ta tb:TE):TE:=λσ H Q=>t σ H λc H1=>if c=true then ta σ H1 Q else tb σ H1 Q
theorem VL {c:D2}(hc:PT X c tA)(ha:PE X a ta)(hb:PE X b tb):PE X (.IfExp c a b pos) (tIf tA ta tb):=by
 intro pins s σ H Q I h;refine wpAny_IfExp (thn (hc pins s σ H _ I h) λd s1 ⟨H1,I1,q1⟩=> ?_);cases d with
 |true=>exact ha pins s1 σ H1 Q I1 q1
 |false=>exact hb pins s1 σ H1 Q I1 q1
end
def SqL (K:G1)(H:Hp)(a:G4)(xs:G0 V):Prop:=
 Rd H a (.lst xs)\/
  ∃ (o:Obj) (its:F3 G2) (n:P5),K.lookup a=some o/\o.cls= .type "list" /\o.dict=none/\o.data= .seq its n/\its.size<=sizeLine/\Vals xs its.toList
def SqT (K:G1)(H:Hp)(a:G4)(xs:G0 V):Prop:=
 Rd H a (.tup xs)\/
  ∃ (o:Obj) (its:F3 G2) (n:P5),K.lookup a=some o/\o.cls= .type "tuple" /\o.data= .seq its n/\its.size<=sizeLine/\Vals xs its.toList
def Ny:G2->G7 V
 | .none=>some .non
 | .bool b=>some (.bl b)
 | .int i _=>some (.int i)
 | .str x _=>some (.str x)
 | .bytes b _=>some (.byt b)
 | .float b _=>some (.flt b)
 | .ref a=>some (.ref a)
 | .type n=>some (.ty n)
 |_=>none
theorem RelV.abs {x:V}(r:RelV x u):Ny u=some x:=by
 cases x with
 |non=>cases r;rfl
 |bl _=>cases r;rfl
 |int _=>obtain⟨t,rfl⟩:=r;rfl
 |str _=>obtain⟨t,rfl⟩:=r;rfl
 |byt _=>obtain⟨t,rfl⟩:=r;rfl
 |flt _=>obtain⟨t,rfl⟩:=r;rfl
 |ref _=>cases r;rfl
 |ty _=>cases r;rfl
theorem RelV.inj {x y:V}(r:RelV x u)(q:RelV y u):x=y:=M1 (r.abs.symm.trans q.abs)
theorem Vals.inj: ∀ {xs ys:G0 V} {us:G0 G2},Vals xs us->Vals ys us->xs=ys
 |_,_,_,.nil,.nil=>rfl
 |_,_,_,.cons r t,.cons r' t'=>by rw [r.inj r',Vals.inj t t']
section
variable {X:Cx}{pins:G0 (G4×Obj)}{σ:St}{H:Hp}{s:G3}{a:G4}{xs ys:G0 V}
theorem SqL.of {K:G1}(h:H a=some (.lst xs)):SqL K H a xs:= .inl (.inl h)
theorem SqT.of {K:G1}(h:H a=some (.tup xs)):SqT K H a xs:= .inl (.inl h)
theorem Inv.list (I:Inv X pins σ H s)(h:SqL X.K H a xs): ∃its:G0 G2,Vals xs its/\PlainL s.heap a its.toArray/\xs.length<=sizeLine:=by
 rcases h with h|⟨o,its,n,hk,hc,hd,hs,hz,r⟩
 ·obtain⟨z,its,n,r,e⟩:=h.ok I.hok;exact⟨its,r,⟨_,n,e,rfl,rfl,rfl⟩,z⟩
 ·refine⟨its.toList,r,⟨o,n,I.kIn a o hk,hc,hd,by simpa using hs⟩,?_⟩;have e:=r.length;simp only [B0] at e;omega
theorem Inv.tuple (I:Inv X pins σ H s)(h:SqT X.K H a xs): ∃its:G0 G2,Vals xs its/\g0 s.heap a its.toArray/\xs.length<=sizeLine:=by
 rcases h with h|⟨o,its,n,hk,hc,hs,hz,r⟩
 ·obtain⟨z,its,r,p⟩:=h.ok I.hok;exact⟨its,r,p.tup,z⟩
 ·refine⟨its.toList,r,⟨o,I.kIn a o hk,hc,n,by simpa using hs⟩,?_⟩;have e:=r.length;simp only [B0] at e;omega
theorem Inv.list_inj (I:Inv X pins σ H s)(h:SqL X.K H a xs)(h':SqL X.K H a ys):xs=ys:=by
 obtain⟨its,r,⟨o,n,e,_,_,d⟩,_⟩:=I.list h;obtain⟨its',r',⟨o',n',e',_,_,d'⟩,_⟩:=I.list h';rw [e] at e';cases e';rw [d] at d';injection d' with d1 _
 have:its=its':=by simpa using congrArg hZ d1
 subst this;exact r.inj r'
theorem Inv.tuple_inj (I:Inv X pins σ H s)(h:SqT X.K H a xs)(h':SqT X.K H a ys):xs=ys:=by
 obtain⟨its,r,⟨o,e,_,n,d⟩,_⟩:=I.tuple h;obtain⟨its',r',⟨o',e',_,n',d'⟩,_⟩:=I.tuple h';rw [e] at e';cases e';rw [d] at d';injection d' with d1 _
 have:its=its':=by simpa using congrArg hZ d1
 subst this;exact r.inj r'
end
abbrev Cx.wish (X:Cx)(E:G2->G3->Prop):Cx:= {X with xe:=E}
abbrev Cx.nox (X:Cx):Cx:=X.wish λ_ _=>False
theorem Cx.Ok.wish (ok:X.Ok)(E:G2->G3->Prop):(X.wish E).Ok:=
 ⟨ok.mod,ok.kind,ok.glob,ok.blt,ok.above,ok.inj,ok.has,ok.cab,ok.hd,ok.frames,ok.stk,ok.exf,ok.bs,ok.bsz,ok.noex,ok.exfs,ok.funs,ok.frf⟩
theorem Cx.Ok.unwish {E:G2->G3->Prop}(ok:(X.wish E).Ok):X.Ok:=
 ⟨ok.mod,ok.kind,ok.glob,ok.blt,ok.above,ok.inj,ok.has,ok.cab,ok.hd,ok.frames,ok.stk,ok.exf,ok.bs,ok.bsz,ok.noex,ok.exfs,ok.funs,ok.frf⟩
section
variable {X:Cx}{pins:G0 (G4×Obj)}{σ:St}{H:Hp}{s:G3}{E:G2->G3->Prop}
theorem Inv.wish (I:Inv X pins σ H s)(E:G2->G3->Prop):Inv (X.wish E) pins σ H s:=⟨I.ok.wish E,I.os,I.bare,I.base,I.loc,I.cell,I.free,I.freeC,I.pin,I.hok,I.len⟩
theorem Inv.unwish (I:Inv (X.wish E) pins σ H s):Inv X pins σ H s:=⟨I.ok.unwish,I.os,I.bare,I.base,I.loc,I.cell,I.free,I.freeC,I.pin,I.hok,I.len⟩
theorem SP.unwish {D:Ends}{f:Flow}{s':G3}(h:SP (X.wish E) pins D f s'):SP X pins D f s':=by
 cases f with
 |next=>obtain⟨lH,H',I,q⟩:=h;exact⟨lH,H',I.unwish,q⟩
 |brk=>obtain⟨lH,H',I,q⟩:=h;exact⟨lH,H',I.unwish,q⟩
 |cont=>obtain⟨lH,H',I,q⟩:=h;exact⟨lH,H',I.unwish,q⟩
 |ret u=>obtain⟨v,lH,H',I,r,q⟩:=h;exact⟨v,lH,H',I.unwish,r,q⟩
theorem PSs.nox {st:G0 N2}{t:TS}(h:PSs X.nox st t):PSs X st t:=λpins s σ H D I hw=>
 S3 (h pins s σ H D (I.wish _) hw) (λ_ _ q=>q.unwish) λ_ _ z=>False.elim z
end
section
variable {X:Cx}{st:N2}{zu:G0 N2}{t u:TS}{e:D2}{te:TE}{pos:Pos}
def GF:TS:=λD σ H=>D.nx σ H
def MM (t u:TS):TS:=λD σ H=>t {D with nx:=u D} σ H
theorem pss_nil:PSs X [] GF:=λ_ _ σ H _ I h=>E2 ⟨σ,H,I,h⟩
theorem VM (h1:PS X st t)(h2:PSs X zu u):PSs X (st::zu) (MM t u):=by
 intro pins s σ H D I h;refine O0 (thn (h1 pins s σ H {D with nx:=u D} I h) λf s1 q=> ?_);cases f with
 |next=>
  obtain⟨lH,H',I',q⟩:=q;exact h2 pins s1 lH H' D I' q
 |ret v=>exact q
 |brk=>exact q
 |cont=>exact q
theorem Xw (h1:PS X st t):PSs X [st] t:=by
 intro pins s σ H D I h;refine O0 (thn (h1 pins s σ H D I h) λf s1 q=> ?_);cases f with
 |next=>exact E2 q
 |ret v=>exact q
 |brk=>exact q
 |cont=>exact q
theorem Inv.quiet {pins:G0 (G4×Obj)}{σ:St}{H:Hp}{s:G3}(I:Inv X pins σ H s):iQ X.env=false:=by simp [iQ,I.ok.kind]
def GG (te:TE):TS:=λD σ H=>te σ H λ_ H1=>D.nx σ H1
theorem Xx (he:PE X e te)(hs:A2 e none pos.line X.env=pure false:=by rfl):PS X (.Expr e pos) (GG te):=by
 intro pins s σ H D I h;exact fO (thn (he pins s σ H _ I h) λv s1 ⟨x,H1,I1,r1,q1⟩=>⟨σ,H1,I1,q1⟩) I.quiet hs
def MN (te:TE):TS:=λD σ H=>te σ H D.rt
theorem GH (he:PE X e te):PS X (.Return (some e) pos) (MN te):=by
 intro pins s σ H D I h;exact wpAny_Return_some (thn (he pins s σ H _ I h) λv s1 ⟨x,H1,I1,r1,q1⟩=>⟨x,σ,H1,I1,r1,q1⟩)
def MO (c:TT)(t u:TS):TS:=λD σ H=>c σ H λb H1=>if b=true then t D σ H1 else u D σ H1
theorem Rj {c:D2}{a b:G0 N2}{tc:TT}(hc:PT X c tc)(ha:PSs X a t)(hb:PSs X b u):PS X (.If c a b pos) (MO tc t u):=by
 intro pins s σ H D I h;refine wpAny_If (thn (hc pins s σ H _ I h) λd s1 ⟨H1,I1,q1⟩=> ?_);cases d with
 |true=>exact ha pins s1 σ H1 D I1 q1
 |false=>exact hb pins s1 σ H1 D I1 q1
end
abbrev TG:=V->St->Hp->(St->Hp->Prop)->Prop
abbrev TGs:=G0 V->St->Hp->(St->Hp->Prop)->Prop
def PG (X:Cx)(target:D2)(t:TG):Prop:=
 ∀ (pins:G0 (G4×Obj)) (s:G3) (σ:St) (H:Hp) (v:V) (u:G2) (Q:St->Hp->Prop),Inv X pins σ H s->RelV v u->t v σ H Q->
  D5 (D8 X.prog X.w) X.A (W2 target X.env u) (λ_ s'=> ∃lH H',Inv X pins lH H' s'/\Q lH H') X.xe s
def PGs (X:Cx)(ts:G0 D2)(t:TGs):Prop:=
 ∀ (pins:G0 (G4×Obj)) (s:G3) (σ:St) (H:Hp) (vs:G0 V) (us:G0 G2) (Q:St->Hp->Prop),Inv X pins σ H s->Vals vs us->t vs σ H Q->
  D5 (D8 X.prog X.w) X.A (cY ((Q3 ts X.env).map (·.2)) us) (λ_ s'=> ∃lH H',Inv X pins lH H' s'/\Q lH H') X.xe s
abbrev Rk:=V->V->V->Hp->(Hp->Prop)->Prop
def MP (X:Cx)(t:Rk):Prop:=
 ∀ (pins:G0 (G4×Obj)) (s:G3) (σ:St) (H:Hp) (o i v:V) (ov iv u:G2) (Q:Hp->Prop),Inv X pins σ H s->RelV o ov->RelV i iv->RelV v u->t o i v H Q->
  D5 (D8 X.prog X.w) X.A (h7 ov iv u) (λ_ s'=> ∃H',Inv X pins σ H' s'/\Q H') X.xe s
section
variable {X:Cx}{pos:Pos}
def vw (i:P5):TG:=λv σ H Q=>Q (σ.set i (some v)) H
theorem yf {i:P5}{x:Str}(hN:X.N.Nodup)(hi:X.N[i]? =some x)(hx:Loc X.env.scope x)(hf:X.fn x=true\/X.env.scope.names.lookup x=some .local:=by first|exact .inl rfl|exact .inr rfl|assumption):PG X (.Name x pos) (vw i):=by
 intro pins s σ H v u Q I r h;exact wpAny_assign_Name (zB I hN hi hx r (λs' I'=>⟨_,H,I',h⟩) hf)
def MQ:TGs:=λvs σ H Q=>vs= []/\Q σ H
def Xy (t:TG)(u:TGs):TGs:=λvs σ H Q=> ∃v r,vs=v::r/\t v σ H λlH H'=>u r lH H' Q
theorem Xz:PGs X [] MQ:=by
 intro pins s σ H vs us Q I r h;obtain⟨e,h⟩:=h;subst e;cases r;exact dJ ⟨σ,H,I,h⟩
theorem Wc {e:D2}{es:G0 D2}{t:TG}{u:TGs}(h1:PG X e t)(h2:PGs X es u)
 (hs:(Q3 (e::es) X.env).map (·.2)=W2 e X.env::(Q3 es X.env).map (·.2):=by rfl):PGs X (e::es) (Xy t u):=by
 intro pins s σ H vs us Q I r h;obtain⟨v,vr,e1,h⟩:=h;subst e1;cases r with
 |cons r rr=>
  rw [hs];refine Y0 (thn (h1 pins s σ H _ _ _ I r h) λ_ s1 ⟨lR,H1,I1,q1⟩=> ?_);exact h2 pins s1 lR H1 _ _ Q I1 rr q1
def MR (K:G1)(n:P5)(t:TGs):TG:=λv σ H Q=> ∃a xs,v= .ref a/\SqT K H a xs/\xs.length=n/\t xs σ H Q
theorem GI {es:G0 D2}{k:P5}{t:TGs}{n:P5}(hc:X.calm=true)(h:PGs X es t)
 (hn:(Q3 es X.env).length=n:=by rfl)(hst:(Q3 es X.env).findIdx? (·.1)=none:=by rfl):PG X (.Tuple es k pos) (MR X.K n t):=by
 intro pins s σ H v u Q I r hw;obtain⟨a,xs,e1,hq,hl,hw⟩:=hw;subst e1;cases r;obtain⟨its,rv,ht,hz⟩:=I.tuple hq;refine assign_Tuple_tuple (I.ok.hd hc) ht (by simp [hn,<-hl,rv.length]) hst λh' hx=> ?_
 have I1:Inv X pins σ H {s with heap:=h'}:=I.kept (t':=s.toks) λb o e=>hx b o (R3 (P6 e)) e
 exact h pins _ σ H xs _ Q I1 (by simpa using rv) hw
def Nz (to ti:TE)(t:Rk):TG:=λv σ H Q=>to σ H λo H1=>ti σ H1 λi H2=>t o i v H2 λH3=>Q σ H3
theorem GJ {o i:D2}{to ti:TE}{t:Rk}(ho:PE X o to)(hi:PE X i ti)(hs:MP X t)
 (ha: ∀v,W2 (.Subscript o i pos) X.env v=(do
  let ov <-U3 [v] (N5 o X.env)
  let iv <-U3 [v,ov] (N5 i X.env)
  cQ pos
  U3 [v,ov,iv] (h7 ov iv v)
  kG [v,ov,iv] []):=by intro _;rfl):PG X (.Subscript o i pos) (Nz to ti t):=by
 intro pins s σ H v u Q I r h;rw [ha];refine wpAny_bind (L8 (thn (ho pins s σ H _ I h) λov s1 ⟨x,H1,I1,r1,q1⟩=> ?_));refine wpAny_bind (L8 (thn (hi pins s1 σ H1 _ I1 q1) λiv s2 ⟨y,H2,I2,r2,q2⟩=> ?_));refine wpAny_bind (aO (wpAny_bind (L8 (thn (hs pins s2 σ H2 x y v ov iv u _ I2 r1 r2 r q2) λ_ s3 ⟨H3,I3,q3⟩=> ?_))));exact wpAny_release ⟨σ,H3,I3,q3⟩
def XA (te:TE)(g:TG):TS:=λD σ H=>te σ H λx H1=>g x σ H1 D.nx
theorem GK {tg e:D2}{te:TE}{g:TG}(he:PE X e te)(hg:PG X tg g)(hs:K2 [tg] e pos.line X.env=pure false:=by rfl)(hw:K3 [tg] e X.env=pure none:=by rfl)
 (h1:(Q3 [tg] X.env).map (·.2)= [W2 tg X.env]:=by rfl):PS X (.Assign [tg] e pos) (XA te g):=by
 intro pins s σ H D I h;refine wpAny_Assign_stores (thn (he pins s σ H _ I h) λv s1 ⟨x,H1,I1,r1,q1⟩=> ?_) hs hw;rw [h1];exact thn (hg pins s1 σ H1 x v _ I1 r1 q1) λ_ s2 q=>q
theorem GL {i:P5}{x:Str}{e:D2}{te:TE}{pos':Pos}(hN:X.N.Nodup)(hi:X.N[i]? =some x)(hx:Loc X.env.scope x)(he:PE X e te)(hs:A2 e (some (.Name x pos')) pos.line X.env=pure false:=by rfl)(hf:X.fn x=true\/X.env.scope.names.lookup x=some .local:=by first|exact .inl rfl|exact .inr rfl|assumption):
 PS X (.Assign [.Name x pos'] e pos) (XA te (vw i)):=by
 intro pins s σ H D I h;refine dL (thn (he pins s σ H _ I h) λv s1 ⟨y,H1,I1,r1,q1⟩=> ?_) hs;exact zB I1 hN hi hx r1 (λs2 I2=>⟨_,H1,I2,q1⟩) hf
def MS (i j:P5)(ta:TA):TS:=λD σ H=>ta σ H λvs H1=> ∃v w,vs= [v,w]/\D.nx ((σ.set i (some v)).set j (some w)) H1
theorem GM {i j:P5}{x y:Str}{a b:D2}{ta:TA}{px py pt:Pos}{kt k2 pt2}(hc:X.calm=true)(hN:X.N.Nodup)(hi:X.N[i]? =some x)(hj:X.N[j]? =some y)(hij:i≠j)
 (hx:X.env.scope.names.lookup x=some .local)(hy:X.env.scope.names.lookup y=some .local)(ha:PA X [a,b] ta)
 (hw:K3 [.Tuple [.Name x px,.Name y py] kt pt] (.Tuple [a,b] k2 pt2) X.env=pure (some [x,y]))
 (hs:K2 [.Tuple [.Name x px,.Name y py] kt pt] (.Tuple [a,b] k2 pt2) pos.line X.env=pure false:=by rfl):
 PS X (.Assign [.Tuple [.Name x px,.Name y py] kt pt] (.Tuple [a,b] k2 pt2) pos) (MS i j ta):=by
 intro pins s σ H D I h;rw [exec_Assign_arm];refine wpAny_bind (aO ?_);rw [hs];refine wpAny_bind (P1 ?_);rw [S9 (by decide)];refine wpAny_bind (Tuple_ (thn (ha _ pins s σ H _ I h) λus s1 ⟨vs,H1,I1,r1,q1⟩=> ?_));obtain⟨v,w,e1,q1⟩:=q1;subst e1;obtain⟨u1,u2,rfl,rv,rw'⟩: ∃u1 u2,us= [u1,u2]/\RelV v u1/\RelV w u2:=by
  cases r1 with
  |cons p q=>
   cases q with
   |cons p' q'=>
    cases q';exact⟨_,_,rfl,p,p'⟩
 refine B2 ?_ (by show 2<=sizeLine;decide);have I2:Inv X pins σ H1 {s1 with heap:=s1.heap.push {cls:= .type "tuple",data:= .seq [u1,u2].toArray}}:=I1.kept (t':=s1.toks) λb o e=>G5 _ e
 rw [hw];refine wpAny_bind (P1 ?_);show D5 (D8 X.prog X.w) X.A (do iR "assign.swapped-stores";let items <-unpackItems (.ref s1.heap.objs.size) 2 none;cY [λv=>fP X.env y v,λv=>fP X.env x v] items.reverse;pure Flow.next) _ _ _;refine wpAny_bind (i3 (wpAny_bind (unpackItems_tuple (items:= #[u1,u2]) (I.ok.hd hc) (IsTup.new s1.heap _) λh' hx'=> ?_)));have I3:=I2.kept (h':=h') (t':=s1.toks) λb o e=>hx' b o (R3 (P6 e)) e
 show D5 _ _ (cY [λv=>fP X.env y v,λv=>fP X.env x v] [u2,u1] >>= λ_=>pure Flow.next) _ _ _;refine wpAny_bind (Y0 (cB (zB I3 hN hj (.inl hy) rw' (λs2 I4=> ?_) (.inr hy))));refine Y0 (cB (zB I4 hN hi (.inl hx) rv (λs3 I5=>dJ (P1 ?_)) (.inr hx)));rw [List.set_comm _ _ (A0 hij)] at I5;exact⟨_,H1,I5,q1⟩
def UQ (c:TT)(tb:TS):TS:=λD σ H=> ∃W:P5->St->Hp->Prop,(∃m,W m σ H)/\ ∀m σ H,W m σ H->
 c σ H λb H1=>if b=true then ∃N:St->Hp->Prop,(∀lH H',N lH H'-> ∃m',m'<m/\W m' lH H')/\tb {D with nx:=N,ct:=N,bk:=D.nx} σ H1 else D.nx σ H1
theorem VN {c:D2}{body:G0 N2}{tc:TT}{tb:TS}(hp:cR (D8 X.prog X.w) X.A X.env X.xe)(hc:PT X c tc)(hb:PSs X body tb):PS X (.While c body [] pos) (UQ tc tb):=by
 intro pins s σ H D I h;obtain⟨W,⟨m0,w0⟩,turn⟩:=h;refine wpAny_While (codeAny_whileLoop (λn s'=> ∃lH H',Inv X pins lH H' s'/\W n lH H') ?_ m0 ⟨σ,H,I,w0⟩);rintro n s1 ⟨lR,H1,I1,w1⟩;refine O4 hp (thn (hc pins s1 lR H1 _ I1 (turn n lR H1 w1)) λb s2 ⟨H2,I2,q2⟩=> ?_);cases b with
 |true=>
  obtain⟨N,hN,q2⟩:=q2;rw [S1 rfl];refine O4 hp (thn (hb pins s2 lR H2 _ I2 q2) λf s3 q3=> ?_);cases f with
  |next=>
   obtain⟨lM,H3,I3,n3⟩:=q3;obtain⟨m',hm,w3⟩:=hN lM H3 n3;exact⟨m',hm,lM,H3,I3,w3⟩
  |cont=>
   obtain⟨lM,H3,I3,n3⟩:=q3;obtain⟨m',hm,w3⟩:=hN lM H3 n3;exact⟨m',hm,lM,H3,I3,w3⟩
  |brk=>exact q3
  |ret v=>exact q3
 |false=>
  rw [S9 P4];exact E2 ⟨lR,H2,I2,q2⟩
end
structure It where
 go:P5->Hp->Prop
 yld:P5->Hp->V->Hp->Prop
 stop:P5->Hp->Prop
def Yj (X:Cx)(pins:G0 (G4×Obj))(H:Hp)(b:G4):Prop:=
 H b=none/\b≠X.env.locals/\b ∉ X.fs/\(b∈X.ex\/X.s₀.heap.objs.size<=b)/\(∀x c,X.env.cells.lookup x=some c->c≠b)/\ ∀p∈X.pn++pins,p.1≠b
theorem Inv.fpOk {pins:G0 (G4×Obj)}{σ:St}{H':Hp}(I:Inv X pins σ H s)(hb:s.heap.objs.size<=b)(hn:H' b=none):Yj X pins H' b:=by
 refine⟨hn,H0 (P2 I.lt hb),I.nofs hb,.inr (R4 I.sz hb),λx c e z=> ?_,λp hp z=> ?_⟩
 ·obtain⟨v,q⟩:=I.cell x c e;exact absurd (P2 q.lt (by rw [z];exact hb)) (N9 _)
 ·exact absurd (P2 (P6 (I.pin p hp).1) (by rw [z];exact hb)) (N9 _)
structure Turn (P:D6)(w:S7)(K:G1)(tg:D2)(J:It)(fp:G0 G4)(it:G4)(tn:P5->S6->Prop):Prop where
 mem:it∈fp
 obj: ∀i h,tn i h-> ∀b∈fp,∃o,h.get? b=some o/\ ∀v,o.data≠ .cell v
 keep: ∀i h h',tn i h->(∀b∈fp,∀o,h.get? b=some o->h'.get? b=some o)->tn i h'
 item: ∀ (X:Cx),X.prog=P->X.w=w->X.K=K->X.calm=true-> ∀ (i:P5) (pins:G0 (G4×Obj)) (s:G3) (σ:St) (H:Hp) (E:G2->G3->Prop),Inv X pins σ H s->(∀b∈fp,Yj X pins H b)->tn i s.heap->J.go i H->
  D5 (D8 P w) X.A (i4 (.ref it)) (λr s1=> ∃u,r=some u/\
   D5 (D8 P w) X.A (E3 tg (.ref it) u) (λ_ s2=> ∃x H',Inv X pins σ H' s2/\RelV x u/\J.yld i H x H'/\tn (i+1) s2.heap/\ ∀b∈fp,H' b=none) E s1) E s
 done: ∀ (X:Cx),X.prog=P->X.w=w->X.K=K->X.calm=true-> ∀ (i:P5) (pins:G0 (G4×Obj)) (s:G3) (σ:St) (H:Hp) (E:G2->G3->Prop),Inv X pins σ H s->(∀b∈fp,Yj X pins H b)->tn i s.heap->J.stop i H->
  D5 (D8 P w) X.A (i4 (.ref it)) (λr s1=>r=none/\Inv X pins σ H s1) E s
 self: ∀ (A:R8) (i:P5) (s:G3) (Q:G2->G3->Prop) (E:G2->G3->Prop),tn i s.heap->Q (.ref it) s->D5 (D8 P w) A (k8 (.ref it)) Q E s
abbrev TI:=St->Hp->(It->Hp->Prop)->Prop
def PIE (X:Cx)(pins:G0 (G4×Obj))(σ:St)(tg:D2)(R:It->Hp->Prop)(itv:G2)(s2:G3):Prop:=
 ∃ (it:G4) (fp:G0 G4) (tn:P5->S6->Prop) (J:It) (H':Hp),itv= .ref it/\Inv X pins σ H' s2/\Turn X.prog X.w X.K tg J fp it tn/\tn 0 s2.heap/\(∀b∈fp,Yj X pins H' b)/\R J H'
def PI (X:Cx)(tg iter:D2)(wi:TI):Prop:=
 ∀ (pins:G0 (G4×Obj)) (s:G3) (σ:St) (H:Hp) (R:It->Hp->Prop),Inv X pins σ H s->wi σ H R->
  D5 (D8 X.prog X.w) X.A (N5 iter X.env) (λv s1=>D5 (D8 X.prog X.w) X.A (k8 v) (PIE X pins σ tg R) X.xe s1) X.xe s
variable {tg:D2}
theorem VO {M : bV} {E : G2 → G3 → Prop} {it : G4} {o : Obj} {n : F7} {vs : F3 G2} {Q : Unit → G3 → Prop} (ho : s.heap.get? it = some o) (hc : o.cls = .type n) (hd : o.data = .fields vs)
    (hn : ["enumerate", "zip", "dict_itemiterator", "dict_reverseitemiterator", "odict_iterator", "itertools.zip_longest", "itertools.pairwise"].contains n = false) (hQ : Q () s) : D5 M A (E3 tg (.ref it) u) Q E s := by
  unfold E3
  cases tg <;> first
    | exact P1 hQ
    | (cases u <;> first
        | exact P1 hQ
        | (refine wpAny_bind (i5 ho ?_)
           rw [hc, hd]
           show D5 M A (if (["enumerate", "zip", "dict_itemiterator", "dict_reverseitemiterator", "odict_iterator", "itertools.zip_longest", "itertools.pairwise"].contains n && vs[0]? == some (W3 _)) = true then _ else _) Q E s
           rw [S9 (by intro h; rw [hn, A3] at h; cases h)]
           exact P1 hQ))
def Itl (K:G1)(a:G4):It:=
 ⟨λi H=> ∃xs x,SqL K H a xs/\xs[i]? =some x,λi H x H'=>H'=H/\ ∀xs,SqL K H a xs->xs[i]? =some x,λi H=> ∃xs,SqL K H a xs/\xs.length<=i⟩
def Itt (K:G1)(a:G4):It:=
 ⟨λi H=> ∃xs x,SqT K H a xs/\xs[i]? =some x,λi H x H'=>H'=H/\ ∀xs,SqT K H a xs->xs[i]? =some x,λi H=> ∃xs,SqT K H a xs/\xs.length<=i⟩
def Itr (lo:P7)(n:P5):It:=⟨λi _=>i<n,λi H x H'=>H'=H/\x= .int (lo+i),λi _=>n<=i⟩
variable {K:G1}
theorem JC (a it:G4):Turn P w K tg (Itl K a) [it] it (λi h=>h.IsListIter it a i) where
 mem:=by simp
 obj:=λi h st b hb=>by
  have e:b=it:=by simpa using hb
  subst e;obtain⟨o,e,c,d⟩:=st;exact⟨o,e,λv z=>by rw [d] at z;cases z⟩
 keep:=λi h h' st k=>st.at λo e=>k it (by simp) o e
 item:=by
  intro X hP hw hK hc i pins s σ H E I hf st hg;subst hP hw hK;obtain⟨xs,x,hq,hx⟩:=hg;obtain⟨its,rv,p,hz⟩:=I.list hq;obtain⟨u,hu,ru⟩:=rv.get hx;obtain⟨f0,f1,f2,f3,f4,f5⟩:=hf it (by simp);refine wpAny_pyNext_list_item st p.isList (x:=u) (by simpa using hu) λh' st' sb=> ?_
  have I1:Inv X pins σ H {s with heap:=h'}:=I.turned (t':=s.toks) (λb o hb e=>(sb.2 b hb).trans e) f0 f1 f3 f4 f5;obtain⟨o,e,c,d⟩:=id st';exact⟨u,rfl,VO (s:= {s with heap:=h'}) e c d (by decide) ⟨x,H,I1,ru,⟨rfl,λys hy=>by rw [I.list_inj hy hq];exact hx⟩,st',λb hb=>(hf b hb).1⟩⟩
 done:=by
  intro X hP hw hK hc i pins s σ H E I hf st hg;subst hP hw hK;obtain⟨xs,hq,hx⟩:=hg;obtain⟨its,rv,p,hz⟩:=I.list hq;obtain⟨f0,f1,f2,f3,f4,f5⟩:=hf it (by simp);have hl:=rv.length;exact wpAny_pyNext_list_end (I.ok.hd hc) st p.isList (by simp;omega) λh' eb=>⟨rfl,I.turned (t':=s.toks) (λb o hb e=>eb b o hb e) f0 f1 f3 f4 f5⟩
 self:=λ_ _ _ _ _ st h=>wpAny_pyIter_listiter st h
theorem WB (a it:G4):Turn P w K tg (Itt K a) [it] it (λi h=>h.IsTupleIter it a i) where
 mem:=by simp
 obj:=λi h st b hb=>by
  have e:b=it:=by simpa using hb
  subst e;obtain⟨o,e,c,d⟩:=st;exact⟨o,e,λv z=>by rw [d] at z;cases z⟩
 keep:=λi h h' st k=>st.at λo e=>k it (by simp) o e
 item:=by
  intro X hP hw hK hc i pins s σ H E I hf st hg;subst hP hw hK;obtain⟨xs,x,hq,hx⟩:=hg;obtain⟨its,rv,p,hz⟩:=I.tuple hq;obtain⟨u,hu,ru⟩:=rv.get hx;obtain⟨f0,f1,f2,f3,f4,f5⟩:=hf it (by simp);refine wpAny_pyNext_tuple_item st (show s.heap.IsTuple a its.toArray from p) (x:=u) (by simpa using hu) λh' st' sb=> ?_
  have I1:Inv X pins σ H {s with heap:=h'}:=I.turned (t':=s.toks) (λb o hb e=>(sb.2 b hb).trans e) f0 f1 f3 f4 f5;obtain⟨o,e,c,d⟩:=id st';exact⟨u,rfl,VO (s:= {s with heap:=h'}) e c d (by decide) ⟨x,H,I1,ru,⟨rfl,λys hy=>by rw [I.tuple_inj hy hq];exact hx⟩,st',λb hb=>(hf b hb).1⟩⟩
 done:=by
  intro X hP hw hK hc i pins s σ H E I hf st hg;subst hP hw hK;obtain⟨xs,hq,hx⟩:=hg;obtain⟨its,rv,p,hz⟩:=I.tuple hq;obtain⟨f0,f1,f2,f3,f4,f5⟩:=hf it (by simp);have hl:=rv.length;exact wpAny_pyNext_tuple_end (I.ok.hd hc) st (show s.heap.IsTuple a its.toArray from p) (by simp;omega) λh' eb=>⟨rfl,I.turned (t':=s.toks) (λb o hb e=>eb b o hb e) f0 f1 f3 f4 f5⟩
 self:=λ_ _ _ _ _ st h=>wpAny_pyIter_tupleiter st h
theorem WC (it:G4)(lo:P7)(n:P5):Turn P w K tg (Itr lo n) [it] it (λi h=>iT h it (lo+(i:P5)*1) ((n:P7)-(i:P5)) 1) where
 mem:=by simp
 obj:=λi h st b hb=>by
  have e:b=it:=by simpa using hb
  subst e;exact⟨_,st,λv z=>by
   have z':Data.fields _=Data.cell v:=z;cases z'⟩
 keep:=λi h h' st k=>k it (by simp) _ st
 item:=by
  intro X hP hw hK hc i pins s σ H E I hf st hg;subst hP hw hK;obtain⟨f0,f1,f2,f3,f4,f5⟩:=hf it (by simp);have W:=Walks.range (prog:=X.prog) (w:=X.w) (I.ok.hd hc) it lo 1 n;refine W.item i s _ _ hg st λv h' tk hv st' kk=> ?_
  obtain⟨t,rfl⟩:=hv;have I1:Inv X pins σ H {s with heap:=h',toks:=tk}:=I.turned (λb o hb e=>kk b o (by simpa using hb) e) f0 f1 f3 f4 f5;refine⟨_,rfl,VO (s:= {s with heap:=h',toks:=tk}) (n:= "range_iterator") st' rfl rfl (by decide) ⟨.int (lo+i),H,I1,⟨t,?_⟩,⟨rfl,rfl⟩,st',λb hb=>(hf b hb).1⟩⟩;rw [Int.mul_one]
 done:=by
  intro X hP hw hK hc i pins s σ H E I hf st hg;subst hP hw hK;obtain⟨f0,f1,f2,f3,f4,f5⟩:=hf it (by simp);exact wpAny_pyNext_range_end (I.ok.hd hc) st (by have:n<=i:=hg;omega) λh' eb=>⟨rfl,I.turned (t':=s.toks) (λb o hb e=>eb b o hb e) f0 f1 f3 f4 f5⟩
 self:=λ_ _ _ _ _ st h=>wpAny_pyIter_rangeiter st h
section
variable {X:Cx}{tg:D2}
def GN (K:G1)(tl:TE):TI:=λσ H R=>tl σ H λx H1=> ∃a,x= .ref a/\(∃xs,SqL K H1 a xs)/\R (Itl K a) H1
theorem XB {l:D2}{tl:TE}(hl:PE X l tl):PI X tg l (GN X.K tl):=by
 intro pins s σ H R I h;refine thn (hl pins s σ H _ I h) λv s1 ⟨x,H1,I1,r1,q1⟩=> ?_
 obtain⟨a,e,⟨xs,hq⟩,q⟩:=q1;subst e;cases r1;obtain⟨its,rv,p,hz⟩:=I1.list hq;refine aJ p.isList ?_;refine⟨s1.heap.objs.size,[s1.heap.objs.size],_,_,H1,rfl,I1.kept (t':=s1.toks) λb o e=>G5 _ e,JC a _,⟨_,R9 _ rfl,rfl,rfl⟩,λb hb=> ?_,q⟩;have e:b=s1.heap.objs.size:=by simpa using hb
 subst e;exact I1.fpOk (G8 _) (I1.hok.fresh (G8 _))
variable {pins:G0 (G4×Obj)}
theorem VP {σ:St}{H:Hp}{s:G3}{R:It->Hp->Prop}{E:G2->G3->Prop}{lo hi:P7}{t u v:Tok}{tk:P5}(I:Inv X pins σ H s)(h1: -(2^62)<=lo)(h2:lo<2^62)(h3: -(2^62)<=hi)(h4:hi<2^62)
 (q:R (Itr lo (hi-lo).toNat) H):D5 (D8 X.prog X.w) X.A (k8 (.ref s.heap.objs.size)) (PIE X pins σ tg R) E {s with heap:=s.heap.push {cls:= .type "range",data:= .fields #[.int lo t,.int hi u,.int 1 v]},toks:=tk}:=by
 refine wpAny_pyIter_range (IsRange.new ..) (small_one h1 h2 h3 h4) ?_;have I1:Inv X pins σ H {s with heap:=s.heap.push {cls:= .type "range",data:= .fields #[.int lo t,.int hi u,.int 1 v]},toks:=tk}:=I.kept λb o e=>G5 _ e
 refine⟨(s.heap.push {cls:= .type "range",data:= .fields #[.int lo t,.int hi u,.int 1 v]}).objs.size,[(s.heap.push {cls:= .type "range",data:= .fields #[.int lo t,.int hi u,.int 1 v]}).objs.size],_,_,H,rfl,
  I1.kept (t':=tk) λb o e=>G5 _ e,WC _ lo (hi-lo).toNat,?_,λb hb=> ?_,q⟩
 ·have e1:lo+((0:P5):P7)*1=lo:=by simp
  have e2:(((hi-lo).toNat:P5):P7)-((0:P5):P7)=Builtin.Range.rangeSize lo hi 1:=by rw [rangeSize_one];split<;>omega
  show iT _ _ (lo+((0:P5):P7)*1) ((((hi-lo).toNat:P5):P7)-((0:P5):P7)) 1;rw [e1,e2];exact R9 _ rfl
 ·have e:b=(s.heap.push {cls:= .type "range",data:= .fields #[.int lo t,.int hi u,.int 1 v]}).objs.size:=by simpa using hb
  subst e;exact I1.fpOk (G8 _) (I1.hok.fresh (G8 _))
def GO (ta:TA):TI:=λσ H R=>ta σ H λvs H1=> ∃j:P7,vs= [.int j]/\ -(2^62)<=j/\j<2^62/\R (Itr 0 j.toNat) H1
theorem Yk {a:D2}{ta:TA}{p pos:Pos}(hg:Gl X "range")(hm:X.mg "range" =none)(ha:PA X [a] ta)(hs:G6 [a] X.env= [(false,N5 a X.env)]:=by rfl):PI X tg (.Call (.Name "range" p) [a] [] pos) (GO ta):=by
 intro pins s σ H R I h;refine Call_ (JB I hg hm boot_range (E7 (thn (ha pos pins s σ H _ I h) λus s1 ⟨vs,H1,I1,r1,q1⟩=> ?_) hs rfl));obtain⟨j,e,q1,q2,q⟩:=q1;subst e;cases r1 with
 |cons r rr=>
  cases rr;obtain⟨t,rfl⟩:=r;exact call_range_1 (VP I1 (by omega) (by omega) q1 q2 (by simpa using q))
def MT (wi:TI)(g:TG)(tb:TS):TS:=λD σ H=>wi σ H λJ H1=> ∃W:P5->P5->St->Hp->Prop,(∃m,W 0 m σ H1)/\ ∀i m σ H,W i m σ H->
 (J.stop i H/\D.nx σ H)\/(J.go i H/\ ∃N:St->Hp->Prop,(∀lH H',N lH H'-> ∃m',m'<m/\W (i+1) m' lH H')/\ ∀x H',J.yld i H x H'->g x σ H' λlK H2=>tb {D with nx:=N,ct:=N,bk:=D.nx} lK H2)
def yF (fp:G0 G4)(h:S6):G0 (G4×Obj):=fp.filterMap λb=>(h.get? b).map λo=>(b,o)
theorem wo {fp:G0 G4}{h:S6}{b:G4}{o:Obj}(hb:b∈fp)(e:h.get? b=some o):(b,o)∈yF fp h:=A6.mpr ⟨b,hb,by rw [e];rfl⟩
theorem JD {fp:G0 G4}{h:S6}{p:G4×Obj}(hp:p∈yF fp h):p.1∈fp/\h.get? p.1=some p.2:=by
 obtain⟨b,hb,e⟩:=A6.mp hp;cases q:h.get? b with
 |none=>rw [q] at e;cases e
 |some o=>
  rw [q] at e;have e':(b,o)=p:=M1 e;subst e';exact⟨hb,q⟩
theorem Inv.pinned {σ:St}{H:Hp}{s:G3}{fp:G0 G4}(I:Inv X pins σ H s)(hf: ∀b∈fp,Yj X pins H b)(ho: ∀b∈fp,∃o,s.heap.get? b=some o/\ ∀v,o.data≠ .cell v):Inv X (pins++yF fp s.heap) σ H s:=
 I.pins_of λp hp=>(T2.mp hp).elim (λz=>I.pin p (D3 _ z)) λz=>by
  obtain⟨hb,e⟩:=JD z;obtain⟨f0,f1,f2,_⟩:=hf p.1 hb;obtain⟨o,e',d⟩:=ho p.1 hb;rw [e] at e';cases e';exact⟨e,f0,f1,f2,d⟩
theorem Inv.unpinned {pl:G0 (G4×Obj)}{σ:St}{H:Hp}{s:G3}(I:Inv X (pins++pl) σ H s):Inv X pins σ H s:=I.pins_of λp hp=>I.pin p (D3 _ (C4 _ hp))
theorem GP {iter:D2}{body:G0 N2}{wi:TI}{g:TG}{tb:TS}{pos:Pos}(hp:cR (D8 X.prog X.w) X.A X.env X.xe)(hc:X.calm=true)(hi:PI X tg iter wi)(hg:PG X tg g)(hb:PSs X body tb)
 (hs: ∀x,M4 iter X.env x=pure x:=by intro _;rfl):PS X (.For tg iter body [] pos) (MT wi g tb):=by
 intro pins s σ H D I h;refine wpAny_For (thn (hi pins s σ H _ I h) λv s1 h1=>thn h1 λitv s2 h2=> ?_) hs;obtain⟨it,fp,tn,J,H2,e,I2,T,st2,f2,W,⟨m0,w0⟩,turn⟩:=h2;subst e
 -- what stays true of the iterator's objects through the loop
 have stat: ∀ {H':Hp},(∀b∈fp,H' b=none)-> ∀b∈fp,Yj X pins H' b:=λhn b hb=>⟨hn b hb,(f2 b hb).2⟩
 refine codeAny_forLoop_any (λn s'=> ∃i lH H',Inv X pins lH H' s'/\tn i s'.heap/\(∀b∈fp,H' b=none)/\W i n lH H') ?_ m0 ⟨0,σ,H2,I2,st2,λb hb=>(f2 b hb).1,w0⟩;rintro n s3 ⟨i,lM,H3,I3,st3,fr3,w3⟩;rcases turn i n lM H3 w3 with ⟨stop,qn⟩|⟨go,N,hN,step⟩
 ·refine O4 hp (thn (T.done X rfl rfl rfl hc i pins s3 lM H3 X.xe I3 (stat fr3) st3 stop) λr s4 ⟨hr,I4⟩=> ?_);subst hr;exact E2 ⟨lM,H3,I4,qn⟩
 ·refine O4 hp (thn (T.item X rfl rfl rfl hc i pins s3 lM H3 X.xe I3 (stat fr3) st3 go) λr s4 ⟨u,hr,h4⟩=> ?_);subst hr;refine O4 hp (thn h4 λ_ s5 ⟨x,H5,I5,r5,y5,st5,fr5⟩=> ?_);have I5':=I5.pinned (stat fr5) (T.obj _ _ st5);refine O4 hp (thn (hg _ s5 lM H5 x u _ I5' r5 (step x H5 y5)) λ_ s6 ⟨mI,H6,I6,q6⟩=> ?_);refine O4 hp (thn (hb _ s6 mI H6 _ I6 q6) λf s7 q7=> ?_);have k9: ∀ {lP:St} {H7:Hp},Inv X (pins++yF fp s5.heap) lP H7 s7->N lP H7-> ∃m,m<n/\ ∃i lH H',Inv X pins lH H' s7/\tn i s7.heap/\(∀b∈fp,H' b=none)/\W i m lH H':=λ{lP H7} I7 n7=>by
   obtain⟨m',hm,w7⟩:=hN lP H7 n7;refine⟨m',hm,i+1,lP,H7,I7.unpinned,T.keep _ _ _ st5 λb hb o e=>(I7.pin (b,o) (D3 _ (D3 _ (wo hb e)))).1,λb hb=> ?_,w7⟩;obtain⟨o,e,d⟩:=T.obj _ _ st5 b hb;exact(I7.pin (b,o) (D3 _ (D3 _ (wo hb e)))).2.1
  cases f with
  |next=>obtain⟨lP,H7,I7,n7⟩:=q7;exact k9 I7 n7
  |cont=>obtain⟨lP,H7,I7,n7⟩:=q7;exact k9 I7 n7
  |brk=>obtain⟨lP,H7,I7,q7⟩:=q7;exact⟨lP,H7,I7.unpinned,q7⟩
  |ret v=>obtain⟨x7,lP,H7,I7,r7,q7⟩:=q7;exact⟨x7,lP,H7,I7.unpinned,r7,q7⟩
end
abbrev R2:=V->V->Hp->VK->Prop
def OpR (X:Cx)(f:G2->G2->Sem G2)(r:R2):Prop:=
 ∀ (pins:G0 (G4×Obj)) (s:G3) (σ:St) (H:Hp) (x y:V) (v u:G2) (Q:VK),Inv X pins σ H s->RelV x v->RelV y u->r x y H Q->
  D5 (D8 X.prog X.w) X.A (f v u) (EP X pins σ Q) X.xe s
def UnR (X:Cx)(f:G2->Sem G2)(r:V->Hp->VK->Prop):Prop:=
 ∀ (pins:G0 (G4×Obj)) (s:G3) (σ:St) (H:Hp) (x:V) (v:G2) (Q:VK),Inv X pins σ H s->RelV x v->r x H Q->
  D5 (D8 X.prog X.w) X.A (f v) (EP X pins σ Q) X.xe s
def CallR (X:Cx)(f:G2)(r:G0 V->Hp->VK->Prop):Prop:=
 ∀ (pins:G0 (G4×Obj)) (s:G3) (σ:St) (H:Hp) (xs:G0 V) (us:G0 G2) (Q:VK),Inv X pins σ H s->Vals xs us->r xs H Q->
  D5 (D8 X.prog X.w) X.A (call f us) (EP X pins σ Q) X.xe s
def tOp (r:R2)(ta tb:TE):TE:=λσ H Q=>ta σ H λx H1=>tb σ H1 λy H2=>r x y H2 Q
def tUn (r:V->Hp->VK->Prop)(ta:TE):TE:=λσ H Q=>ta σ H λx H1=>r x H1 Q
def rI (C:P7->P7->Prop)(g:P7->P7->V):R2:=λx y H Q=> ∃i j,x= .int i/\y= .int j/\C i j/\Q (g i j) H
def rI0 (g:P7->P7->V):R2:=λx y H Q=> ∃i j,x= .int i/\y= .int j/\Q (g i j) H
def rU (g:P7->V):V->Hp->VK->Prop:=λx H Q=> ∃i,x= .int i/\Q (g i) H
section
variable {X:Cx}{a b c:D2}{ta tb tc:TE}{pos:Pos}
theorem Rl (ha:PE X a ta)(hb:PE X b tb){pins:G0 (G4×Obj)}{s:G3}{σ:St}{H:Hp}{R:V->V->Hp->Prop}(I:Inv X pins σ H s)
 (h:ta σ H λx H1=>tb σ H1 λy H2=>R x y H2){Q:G2->G3->Prop}{f:G2->G2->Sem G2}
 (hf: ∀v u s2 x y H2,Inv X pins σ H2 s2->RelV x v->RelV y u->R x y H2->D5 (D8 X.prog X.w) X.A (f v u) Q X.xe s2):
 D5 (D8 X.prog X.w) X.A (N5 a X.env) (λv lJ=>D5 (D8 X.prog X.w) X.A (N5 b X.env) (λu lU=>D5 (D8 X.prog X.w) X.A (f v u) Q X.xe lU) X.xe lJ) X.xe s:=by
 refine thn (ha pins s σ H _ I h) λv s1 ⟨x,H1,I1,r1,q1⟩=> ?_
 refine thn (hb pins s1 σ H1 _ I1 q1) λu s2 ⟨y,H2,I2,r2,q2⟩=> ?_
 exact hf v u s2 x y H2 I2 r1 r2 q2
theorem Rm {op:iU}{r:R2}(ho:OpR X (N7 op) r)(ha:PE X a ta)(hb:PE X b tb):PE X (.BinOp a op b pos) (tOp r ta tb):=by
 intro pins s σ H Q I h;exact wpAny_BinOp (Rl ha hb I h λv u s2 x y H2 I2 rx ry q=>ho pins s2 σ H2 x y v u Q I2 rx ry q)
theorem Rn {op:UnaryOp}{r:V->Hp->VK->Prop}(ho:UnR X (unaryOp op) r)(ha:PE X a ta):PE X (.UnaryOp op a pos) (tUn r ta):=by
 intro pins s σ H Q I h;exact UnaryOp_ (thn (ha pins s σ H _ I h) λv s1 ⟨x,H1,I1,r1,q1⟩=>ho pins s1 σ H1 x v Q I1 r1 q1)
theorem opI {f:G2->G2->Sem G2}{C:P7->P7->Prop}{g:P7->P7->P7}
 (iR: ∀ (i j:P7) (t u:Tok) (s:G3) (Q:G2->G3->Prop) (E:G2->G3->Prop),C i j->Q (.int (g i j) s.toks) {s with toks:=s.toks+1}->D5 (D8 X.prog X.w) X.A (f (.int i t) (.int j u)) Q E s):
 OpR X f (rI C λi j=> .int (g i j)):=by
 intro pins s σ H x y v u Q I rx ry h;obtain⟨i,j,rfl,rfl,hc,q⟩:=h;obtain⟨t,rfl⟩:=rx;obtain⟨t',rfl⟩:=ry;exact iR i j t t' s _ _ hc ⟨.int (g i j),H,I.tok _,⟨_,rfl⟩,q⟩
theorem MU {f:G2->G2->Sem G2}{g:P7->P7->P7}
 (iR: ∀ (i j:P7) (t u:Tok) (s:G3) (Q:G2->G3->Prop) (E:G2->G3->Prop),Q (.int (g i j) s.toks) {s with toks:=s.toks+1}->D5 (D8 X.prog X.w) X.A (f (.int i t) (.int j u)) Q E s):
 OpR X f (rI0 λi j=> .int (g i j)):=by
 intro pins s σ H x y v u Q I rx ry h;obtain⟨i,j,rfl,rfl,q⟩:=h;obtain⟨t,rfl⟩:=rx;obtain⟨t',rfl⟩:=ry;exact iR i j t t' s _ _ ⟨.int (g i j),H,I.tok _,⟨_,rfl⟩,q⟩
theorem Ra {f:G2->G2->Sem G2}{g:P7->P7->C3}
 (iR: ∀ (i j:P7) (t u:Tok) (s:G3) (Q:G2->G3->Prop) (E:G2->G3->Prop),Q (.bool (g i j)) s->D5 (D8 X.prog X.w) X.A (f (.int i t) (.int j u)) Q E s):
 OpR X f (rI0 λi j=> .bl (g i j)):=by
 intro pins s σ H x y v u Q I rx ry h;obtain⟨i,j,rfl,rfl,q⟩:=h;obtain⟨t,rfl⟩:=rx;obtain⟨t',rfl⟩:=ry;exact iR i j t t' s _ _ ⟨.bl (g i j),H,I,rfl,q⟩
def Rb (i j:P7):Prop:=0<j/\j<1073741824
def MV (i j:P7):Prop:=0<=j/\j<=1000000/\i.natAbs<2^64
def CMul (i j:P7):Prop:=(-(2^64)<i/\i<2^64)\/(-(2^64)<j/\j<2^64)
theorem CMul.ok {i j:P7}(h:CMul i j):IntMulOk i j:=by
 rcases h with ⟨h1,h2⟩|⟨h1,h2⟩
 ·exact .of_left (gH h1 h2)
 ·exact .of_right (gH h1 h2)
theorem op_add:OpR X (N7 .Add) (rI0 λi j=> .int (i+j)):=MU λ_ _ _ _ _ _ _ q=>add_int q
theorem GQ:OpR X (N7 .Sub) (rI0 λi j=> .int (i-j)):=MU λ_ _ _ _ _ _ _ q=>sub_int q
theorem op_mul:OpR X (N7 .Mult) (rI CMul λi j=> .int (i*j)):=opI λ_ _ _ _ _ _ _ hc q=>mul_int q hc.ok
theorem XC:OpR X (N7 .FloorDiv) (rI Rb λi j=> .int (i / j)):=opI λi j _ _ _ _ _ hc q=>by
 have h1:(0:P7)<j:=hc.1;have h2:j<1073741824:=hc.2;exact floordiv_int (by omega) (by rw [Y1 i (by omega)];exact q) (.inl (PyProof.noPylong_small (by omega)))
theorem GR:OpR X (N7 .Mod) (rI (λ_ j=>0<j) λi j=> .int (i%j)):=opI λi j _ _ _ _ _ hc q=>by
 have h1:(0:P7)<j:=hc;exact mod_int' (by omega) (by rw [Y2 i (by omega)];exact q)
theorem GT:OpR X (N7 .Pow) (rI MV λi j=> .int (i^j.toNat)):=opI λ_ _ _ _ _ _ _ hc q=>pow_int_small hc.1 hc.2.1 hc.2.2 q
theorem unI {f:G2->Sem G2}{g:P7->P7}
 (iR: ∀ (i:P7) (t:Tok) (s:G3) (Q:G2->G3->Prop) (E:G2->G3->Prop),Q (.int (g i) s.toks) {s with toks:=s.toks+1}->D5 (D8 X.prog X.w) X.A (f (.int i t)) Q E s):
 UnR X f (rU λi=> .int (g i)):=by
 intro pins s σ H x v Q I rx h;obtain⟨i,rfl,q⟩:=h;obtain⟨t,rfl⟩:=rx;exact iR i t s _ _ ⟨.int (g i),H,I.tok _,⟨_,rfl⟩,q⟩
theorem GV:UnR X (unaryOp .USub) (rU λi=> .int (-i)):=unI λ_ _ _ _ _ q=>neg_int q
end
def MW:V->V->C3
 | .non,.non=>true| .non,.int _=>true| .int _,.non=>true| .non,.bl _=>true| .bl _,.non=>true| .non,.str _=>true| .str _,.non=>true
 | .int _,.int _=>true| .bl _,.bl _=>true| .str _,.str _=>true| .byt _,.byt _=>true
 | .int _,.str _=>true| .str _,.int _=>true| .bl _,.str _=>true| .str _,.bl _=>true
 |_,_=>false
def rEq:R2:=λx y H Q=>MW x y=true/\Q (.bl (decide (x=y))) H
def rNe:R2:=λx y H Q=>MW x y=true/\Q (.bl (!decide (x=y))) H
theorem Yl {i j:P7}:decide (V.int i=V.int j)=(i==j):=by
 rw [W4];simp
theorem UR {i j:C3}:decide (V.bl i=V.bl j)=(i==j):=by
 rw [W4];simp
theorem Ym {i j:Str}:decide (V.str i=V.str j)=(i==j):=by
 rw [W4];simp
theorem Yn {i j:F3 UInt8}:decide (V.byt i=V.byt j)=(i.toList==j.toList):=by
 rw [W4];cases i;cases j;simp
section
variable {X:Cx}{a b c:D2}{ta tb tc:TE}{pos:Pos}
theorem jt {pins:G0 (G4×Obj)}{σ:St}{H:Hp}{s:G3}{Q:VK}{k k':C3}(I:Inv X pins σ H s)(q:Q (.bl k) H)(e:k=k'):EP X pins σ Q (.bool k') s:=by
 subst e;exact⟨.bl k,H,I,rfl,q⟩
theorem op_eq:OpR X (S5 .Eq) rEq:=by
 intro pins s σ H x y v u Q I rx ry h;obtain⟨hs,q⟩:=h;cases x with
 |non=>
  cases rx;cases y with
  |non=>cases ry;exact PySem.EqNone.eq_none_none (jt I q (by simp))
  |bl j=>cases ry;exact PySem.EqNone.eq_none_bool (jt I q (by simp))
  |int j=>obtain⟨t',rfl⟩:=ry;exact PySem.EqNone.eq_none_int (jt I q (by simp))
  |str j=>obtain⟨t',rfl⟩:=ry;exact PySem.EqNone.eq_none_str (jt I q (by simp))
  |_=>exact absurd (show false=true from hs) P4
 |bl i=>
  cases rx;cases y with
  |non=>cases ry;exact PySem.EqNone.eq_bool_none (jt I q (by simp))
  |bl j=>cases ry;exact eq_bool (jt I q UR)
  |str j=>obtain⟨t',rfl⟩:=ry;exact PySem.EqMixed.eq_bool_str (jt I q (by simp))
  |_=>exact absurd (show false=true from hs) P4
 |int i=>
  obtain⟨t,rfl⟩:=rx;cases y with
  |non=>cases ry;exact PySem.EqNone.eq_int_none (jt I q (by simp))
  |int j=>obtain⟨t',rfl⟩:=ry;exact eq_int (jt I q Yl)
  |str j=>obtain⟨t',rfl⟩:=ry;exact PySem.EqMixed.eq_int_str (jt I q (by simp))
  |_=>exact absurd (show false=true from hs) P4
 |str i=>
  obtain⟨t,rfl⟩:=rx;cases y with
  |non=>cases ry;exact PySem.EqNone.eq_str_none (jt I q (by simp))
  |bl j=>cases ry;exact PySem.EqMixed.eq_str_bool (jt I q (by simp))
  |int j=>obtain⟨t',rfl⟩:=ry;exact PySem.EqMixed.eq_str_int (jt I q (by simp))
  |str j=>obtain⟨t',rfl⟩:=ry;exact eq_str (jt I q Ym)
  |_=>exact absurd (show false=true from hs) P4
 |byt i=>
  obtain⟨t,rfl⟩:=rx;cases y with
  |byt j=>obtain⟨t',rfl⟩:=ry;exact kN (jt I q Yn)
  |_=>exact absurd (show false=true from hs) P4
 |_=>cases y<;>exact absurd (show false=true from hs) P4
theorem op_ne:OpR X (S5 .NotEq) rNe:=by
 intro pins s σ H x y v u Q I rx ry h;obtain⟨hs,q⟩:=h;cases x with
 |non=>
  cases rx;cases y with
  |non=>cases ry;exact PySem.EqNone.ne_none_none (jt I q (by simp))
  |bl j=>cases ry;exact PySem.EqNone.ne_none_bool (jt I q (by simp))
  |int j=>obtain⟨t',rfl⟩:=ry;exact PySem.EqNone.ne_none_int (jt I q (by simp))
  |str j=>obtain⟨t',rfl⟩:=ry;exact PySem.EqNone.ne_none_str (jt I q (by simp))
  |_=>exact absurd (show false=true from hs) P4
 |bl i=>
  cases rx;cases y with
  |non=>cases ry;exact PySem.EqNone.ne_bool_none (jt I q (by simp))
  |bl j=>cases ry;exact ne_bool (jt I q (congrArg not UR))
  |str j=>obtain⟨t',rfl⟩:=ry;exact PySem.EqMixed.ne_bool_str (jt I q (by simp))
  |_=>exact absurd (show false=true from hs) P4
 |int i=>
  obtain⟨t,rfl⟩:=rx;cases y with
  |non=>cases ry;exact PySem.EqNone.ne_int_none (jt I q (by simp))
  |int j=>obtain⟨t',rfl⟩:=ry;exact ne_int (jt I q (congrArg not Yl))
  |str j=>obtain⟨t',rfl⟩:=ry;exact PySem.EqMixed.ne_int_str (jt I q (by simp))
  |_=>exact absurd (show false=true from hs) P4
 |str i=>
  obtain⟨t,rfl⟩:=rx;cases y with
  |non=>cases ry;exact PySem.EqNone.ne_str_none (jt I q (by simp))
  |bl j=>cases ry;exact PySem.EqMixed.ne_str_bool (jt I q (by simp))
  |int j=>obtain⟨t',rfl⟩:=ry;exact PySem.EqMixed.ne_str_int (jt I q (by simp))
  |str j=>obtain⟨t',rfl⟩:=ry;exact ne_str (jt I q (congrArg not Ym))
  |_=>exact absurd (show false=true from hs) P4
 |byt i=>
  obtain⟨t,rfl⟩:=rx;cases y with
  |byt j=>obtain⟨t',rfl⟩:=ry;exact kO (jt I q (congrArg not Yn))
  |_=>exact absurd (show false=true from hs) P4
 |_=>cases y<;>exact absurd (show false=true from hs) P4
theorem Ro:OpR X (S5 .Lt) (rI0 λi j=> .bl (decide (i<j))):=Ra λ_ _ _ _ _ _ _ q=>lt_int q
theorem Rp:OpR X (S5 .LtE) (rI0 λi j=> .bl (decide (i<=j))):=Ra λ_ _ _ _ _ _ _ q=>le_int q
theorem Rq:OpR X (S5 .Gt) (rI0 λi j=> .bl (decide (j<i))):=Ra λ_ _ _ _ _ _ _ q=>gt_int q
theorem Rr:OpR X (S5 .GtE) (rI0 λi j=> .bl (decide (j<=i))):=Ra λ_ _ _ _ _ _ _ q=>ge_int q
theorem op_in_str:OpR X (S5 .In) (λx y H Q=> ∃i j,x= .str i/\y= .str j/\Q (.bl (!(A4 j i 0 j.length 1).isEmpty)) H):=by
 intro pins s σ H x y v u Q I rx ry h;obtain⟨i,j,rfl,rfl,q⟩:=h;obtain⟨t,rfl⟩:=rx;obtain⟨t',rfl⟩:=ry;exact in_str (jt I q rfl)
variable {r:R2}
theorem OpR.or {f:G2->G2->Sem G2}{r':R2}(h:OpR X f r)(h':OpR X f r'):OpR X f (λx y H Q=>r x y H Q\/r' x y H Q):=by
 intro pins s σ H x y v u Q I rx ry q;rcases q with q|q
 ·exact h pins s σ H x y v u Q I rx ry q
 ·exact h' pins s σ H x y v u Q I rx ry q
theorem Yo (b:D2){op:cC}(h:op≠ .In:=by decide)(h2:op≠ .NotIn:=by decide):L0 op b=false:=by
 have e1:(op==CmpOp.In)=false:=by cases op<;>first|rfl|exact absurd rfl h
 have e2:(op==CmpOp.NotIn)=false:=by cases op<;>first|rfl|exact absurd rfl h2
 cases b<;>simp [L0,e1,e2]
theorem XD {op:cC}(ho:OpR X (S5 op) r)(ha:PE X a ta)(hb:PE X b tb)(hm:L0 op b=false):PE X (.Compare a [op] [b] pos) (tOp r ta tb):=by
 intro pins s σ H Q I h;exact wpAny_Compare1 (Rl ha hb I h λv u s2 x y H2 I2 rx ry q=>ho pins s2 σ H2 x y v u Q I2 rx ry q) hm
def XE (t:TE):TT:=λσ H Q=>t σ H λx H'=> ∃k,x= .bl k/\Q k H'
theorem XF {op:cC}(ho:OpR X (S5 op) r)(ha:PE X a ta)(hb:PE X b tb)(hm:L0 op b=false):PT X (.Compare a [op] [b] pos) (XE (tOp r ta tb)):=by
 intro pins s σ H Q I h;refine wpAny_isTrue_Compare1 (thn (ha pins s σ H _ I h) λv s1 ⟨x,H1,I1,r1,q1⟩=>thn (hb pins s1 σ H1 _ I1 q1) λu s2 ⟨y,H2,I2,r2,q2⟩=>
  thn (ho pins s2 σ H2 x y v u _ I2 r1 r2 q2) λc s3 ⟨z,H3,I3,r3,k,e,q3⟩=> ?_) hm
 subst e;cases r3;exact C9 ⟨H3,I3,q3⟩
def US (r r':R2)(ta tb tc:TE):TE:=λσ H Q=>ta σ H λx H1=>tb σ H1 λy H2=>r x y H2 λz H3=> ∃k,z= .bl k/\
 (if k=true then tc σ H3 λw' H4=>r' y w' H4 Q else Q (.bl false) H3)
theorem VQ {op op':cC}{r':R2}(ho:OpR X (S5 op) r)(ho':OpR X (S5 op') r')(ha:PE X a ta)(hb:PE X b tb)(hc:PE X c tc)
 (hm:g3 [op,op'] [b,c]=false:=by with_unfolding_all rfl):PT X (.Compare a [op,op'] [b,c] pos) (XE (US r r' ta tb tc)):=by
 intro pins s σ H Q I h;refine isTrue_chain (thn (ha pins s σ H _ I h) λv s1 ⟨x,H1,I1,r1,q1⟩=>test_link (thn (hb pins s1 σ H1 _ I1 q1) λu s2 ⟨y,H2,I2,r2,q2⟩=>
  thn (ho pins s2 σ H2 x y v u _ I2 r1 r2 q2) λd s3 ⟨z,H3,I3,r3,k,e,q3⟩=> ?_)) hm
 subst e;cases r3;refine C9 ?_;cases k with
 |false=>
  obtain⟨k',e',q'⟩:=q3;cases e';exact ite_ff ⟨H3,I3,q'⟩
 |true=>
  refine ite_tt (test_last (thn (hc pins s3 σ H3 _ I3 q3) λw' s4 ⟨z',H4,I4,r4,q4⟩=>thn (ho' pins s4 σ H4 y z' u w' _ I4 r2 r4 q4) λd' s5 ⟨z2,H5,I5,r5,k2,e2,q5⟩=> ?_));subst e2;cases r5;exact C9 ⟨H5,I5,q5⟩
theorem vJ:(sizeLine:P5)<2^63:=by rw [cE];decide
theorem op_add_str:OpR X (N7 .Add) (λx y H Q=> ∃i j,x= .str i/\y= .str j/\i.length+j.length<=sizeLine/\Q (.str (i++j)) H):=by
 intro pins s σ H x y v u Q I rx ry h;obtain⟨i,j,rfl,rfl,hz,q⟩:=h;obtain⟨t,rfl⟩:=rx;obtain⟨t',rfl⟩:=ry;exact add_str (λt' tk=>⟨.str (i++j),H,I.tok _,⟨_,rfl⟩,q⟩) hz
theorem wP {x:V}{us:G0 G2}(r:Vals [x] us): ∃u,us= [u]/\RelV x u:=by
 cases r with
 |cons r1 r2=>cases r2;exact⟨_,rfl,r1⟩
theorem VR {x y:V}{us:G0 G2}(r:Vals [x,y] us): ∃u w',us= [u,w']/\RelV x u/\RelV y w':=by
 cases r with
 |cons r1 r2=>
  cases r2 with
  |cons r3 r4=>cases r4;exact⟨_,_,rfl,r1,r3⟩
theorem Yp (hc:X.calm=true):CallR X (.builtin "max") (λxs H Q=> ∃i j,xs= [.int i,.int j]/\Q (.int (if j>i then j else i)) H):=by
 intro pins s σ H xs us Q I r h;obtain⟨i,j,rfl,q⟩:=h;obtain⟨u,w',rfl,⟨t,rfl⟩,⟨t',rfl⟩⟩:=VR r;refine max_two_ints (I.ok.hd hc) λh' tk k=>⟨_,H,I.kept k,?_,q⟩
 by_cases hj:j>i
 ·rw [S1 hj,S1 hj];exact⟨_,rfl⟩
 ·rw [S9 hj,S9 hj];exact⟨_,rfl⟩
theorem call_int1:CallR X (.type "int") (λxs H Q=>(∃i,xs= [.int i]/\Q (.int i) H)\/ ∃k,xs= [.bl k]/\Q (.int (if k then 1 else 0)) H):=by
 intro pins s σ H xs us Q I r h;rcases h with ⟨i,rfl,q⟩|⟨k,rfl,q⟩
 ·obtain⟨u,rfl,t,rfl⟩:=wP r;exact call_int_int ⟨.int i,H,I,⟨_,rfl⟩,q⟩
 ·obtain⟨u,rfl,r1⟩:=wP r;cases r1;exact call_int_bool ⟨.int (if k then 1 else 0),H,I.tok _,⟨_,rfl⟩,q⟩
theorem call_str_int:CallR X (.type "str") (λxs H Q=> ∃i,xs= [.int i]/\i.natAbs.log2<1920/\Q (.str (toString i)) H):=by
 intro pins s σ H xs us Q I r h;obtain⟨i,rfl,hz,q⟩:=h;obtain⟨u,rfl,t,rfl⟩:=wP r;exact PySem.P.str_of_int hz ⟨.str _,H,I.tok _,⟨_,rfl⟩,q⟩
theorem call_divmod:CallR X (.builtin "divmod") (λxs H Q=> ∃i j,xs= [.int i,.int j]/\Rb i j/\ ∀p,H p=none->Q (.ref p) (upd H p (.tup [.int (i / j),.int (i%j)]))):=by
 intro pins s σ H xs us Q I r h;obtain⟨i,j,rfl,⟨h1,h2⟩,q⟩:=h;obtain⟨u,w',rfl,⟨t,rfl⟩,⟨t',rfl⟩⟩:=VR r;refine divmod_int (by omega) ?_ (.inl (PyProof.noPylong_small (by omega)));rw [Y1 i (by omega),Y2 i (by omega)];have hn:H s.heap.objs.size=none:=I.hok.fresh (G8 _);refine⟨.ref s.heap.objs.size,_,?_,rfl,q _ hn⟩;refine I.laid (λb o e=>G5 _ e) (G8 _) ⟨by simp only [R1,T1];rw [cE];decide,[.int (i / j) s.toks,.int (i%j) (s.toks+1)],.cons ⟨_,rfl⟩ (.cons ⟨_,rfl⟩ .nil),?_⟩;exact⟨_,R9 s.heap rfl,rfl,rfl,0,rfl⟩
end
structure ObjM (h:S6)(x dx C:G4)(mA:Str->G7 G2):Prop where
 obj:h.get? x=some (bU C dx)
 ns:h.Ns1 dx mA
 ne:dx≠x
theorem Yq {dx:G4}{mA:Str->G7 G2}(n:h.Ns1 dx mA): ∃od,h.get? dx=some od/\ ∀name,cF name od=some (mA name):=by
 obtain⟨o,es,ep,ho,hd,hk,_,hm⟩:=n;refine⟨o,ho,λname=> ?_⟩;have e:=hm name;unfold nsFind findBy at e;rw [<-Array.find?_toList] at e;unfold cF;rw [hd];dsimp only;split
 ·rename_i y q;rw [q] at e;exact congrArg some e
 ·rename_i q;rw [q] at e;have a:es.toList.any (·.refKey)=false:=by
   rw [List.any_eq_false];intro y hy;obtain⟨z,t,hkey⟩:=hk y (Array.mem_toList_iff.mp hy);simp [DictEntry.refKey,hkey]
  have a': ¬es.toList.any (·.refKey)=true:=by rw [a];exact P4
  rw [S9 a'];exact congrArg some e
theorem ObjM.look {x dx C:G4}{mA:Str->G7 G2}(I:ObjM h x dx C mA): ∃od,lA h x (bU C dx) C (some od)/\ ∀name,cF name od=some (mA name):=
 let ⟨od,ho,hl⟩:=Yq I.ns
 ⟨od,⟨I.obj,rfl,rfl,ho⟩,hl⟩
section
variable {P:D6}{w:S7}{H H':Hp}{h h':S6}{a C dx:G4}{fs fs':G0 (Str×V)}
theorem XG (hok:HOk P w H h)(e:H a=some (.ins C dx fs)): ∃mA,ObjM h a dx C mA/\(∀f,Rg (fs.lookup f) (mA f))/\hO mA (fs.map (·.1))/\fs.length<=1000/\H dx=some (.own a):=by
 obtain⟨d,z,ne,ob,mA,n,r,q⟩:=(show ObjOk P w H h a (.ins C dx fs) from hok a _ e);exact⟨mA,⟨ob,n,ne⟩,r,q,z,d⟩
end
structure Cls (K:G1)(C:G4):Prop where
 pg:eM K C g4=true
 hd:kH K C=true
 po:kI K C=true
 sa:fQ K (.ref C) "__setattr__" =some (some (.builtin "object.__setattr__"))
theorem Cls.get {C:G4}(c:Cls K C)(f:Str):eM K C f=true:=c.pg
section
variable {X:Cx}{pins:G0 (G4×Obj)}{σ:St}{H:Hp}{s:G3}{A:R8}{E:G2->G3->Prop}{Q:G2->G3->Prop}{c:G2}{b:C3}
inductive TyOf (K:G1)(H:Hp):V->G2->Prop where
 |non:TyOf K H .non (.type "NoneType")
 |bl (x:C3):TyOf K H (.bl x) (.type "bool")
 |int (i:P7):TyOf K H (.int i) (.type "int")
 |str (x:Str):TyOf K H (.str x) (.type "str")
 |flt (x:UInt64):TyOf K H (.flt x) (.type "float")
 |lst {a:G4} {xs:G0 V} (e:H a=some (.lst xs)):TyOf K H (.ref a) (.type "list")
 |frz {a:G4} {o:Obj} {xs:G0 V} (e:H a=some (.frz o (.lst xs))):TyOf K H (.ref a) (.type "list")
 |tup {a:G4} {xs:G0 V} (e:H a=some (.tup xs)):TyOf K H (.ref a) (.type "tuple")
 |dK {a:G4} {kvs:G0 (Key×V)} (e:H a=some (.dK kvs)):TyOf K H (.ref a) (.type "dict")
 |dT {a:G4} {kvs:G0 (G0 Key×V)} (e:H a=some (.dT kvs)):TyOf K H (.ref a) (.type "dict")
 |ins {a C dx:G4} {fs:G0 (Str×V)} (e:H a=some (.ins C dx fs)) (cl:Cls K C) (ha:fQ K (.ref C) "__class__" =some (some (.builtin "object.__class__")))
  (hn:kJ K (.builtin "object.__class__") "__get__" =some (some (.builtin "getset_descriptor.__get__"))) (htk:k5 K (.builtin "object.__class__")=some true)
  (hm:lF K C (.type "object")=some true):TyOf K H (.ref a) (.ref C)
theorem Yr {x:V}{u t:G2}(I:Inv X pins σ H s)(rx:RelV x u)(ty:TyOf X.K H x t)(e:Y3 X.K t c=some b)(h: ∀tk,Q (.bool b) {s with toks:=tk}):
 D5 (D8 X.prog X.w) A (call (.builtin "isinstance") [u,c]) Q E s:=by
 cases ty with
 |non=>cases (show u=bF from rx);exact B4 kK I.kIn E9 e (λz=>nomatch z) h
 |bl y=>cases (show u=fM y from rx);exact B4 kL I.kIn E9 e (λz=>nomatch z) h
 |int i=>obtain⟨t,q⟩:=(show ∃t,u=aU i t from rx);cases q;exact B4 kQ I.kIn E9 e (λz=>nomatch z) h
 |str y=>obtain⟨t,q⟩:=(show ∃t,u=X7 y t from rx);cases q;exact B4 kT I.kIn E9 e (λz=>nomatch z) h
 |flt y=>obtain⟨t,q⟩:=(show ∃t,u=iO y t from rx);cases q;exact B4 i6 I.kIn E9 e (λz=>nomatch z) h
 | @lst a xs ea=>
  cases (show u=J6 a from rx);obtain⟨_,_,n,_,h1⟩:=(show ObjOk X.prog X.w H s.heap a (.lst xs) from I.hok a _ ea);exact B4 dM I.kIn ⟨_,h1,rfl⟩ e (λz=>nomatch z) h
 | @frz a ob xs ea=>
  cases (show u=J6 a from rx);obtain⟨_,_,_,n,_,h1⟩:=(show ObjOk X.prog X.w H s.heap a (.frz ob (.lst xs)) from I.hok a _ ea);exact B4 dM I.kIn ⟨_,h1,rfl⟩ e (λz=>nomatch z) h
 | @tup a xs ea=>
  cases (show u=J6 a from rx);obtain⟨_,_,_,p⟩:=(show ObjOk X.prog X.w H s.heap a (.tup xs) from I.hok a _ ea);obtain⟨o,h1,h2,_⟩:=p;exact B4 i7 I.kIn ⟨o,h1,h2⟩ e (λz=>nomatch z) h
 | @dK a kvs ea=>
  cases (show u=J6 a from rx);obtain⟨_,_,vs,_,p⟩:=(show ObjOk X.prog X.w H s.heap a (.dK kvs) from I.hok a _ ea);obtain⟨o,es,ep,h1,h2,_⟩:=p;exact B4 dN I.kIn ⟨o,h1,h2.1⟩ e (λz=>nomatch z) h
 | @dT a kvs ea=>
  cases (show u=J6 a from rx);obtain⟨_,_,xs,_,o,es,ep,h1,h2,_⟩:=(show ObjOk X.prog X.w H s.heap a (.dT kvs) from I.hok a _ ea);exact B4 dN I.kIn ⟨o,h1,h2.1⟩ e (λz=>nomatch z) h
 | @ins a C dx fs ea cl ha hn htk hm=>
  cases (show u=J6 a from rx);obtain⟨mA,O,_⟩:=XG I.hok ea;obtain⟨od,J,_⟩:=O.look;exact B4 (kU (cl.get _) cl.hd ha hn htk hm) I.kIn J e (λz=>nomatch z) h
end
structure Room (k:P5)(A:R8):Prop where
 hd:A.handled=none
 dp:A.depth+3*k+5<recursionLimit
 un:A.units+16*k+200<cLine
 gd:A.guards=some []
variable {k:P5}
theorem Room.mono {j:P5}(r:Room k A)(h:j<=k):Room j A:=⟨r.hd,by have:=r.dp;omega,by have:=r.un;omega,r.gd⟩
theorem Room.deeper (r:Room (k+1) A)(env:Env):Room k (A.deeper env):=
 ⟨r.hd,by have:=r.dp;show A.depth+1+3*k+5<_;omega,by have:=r.un;show A.units+3+16*k+200<_;omega,r.gd⟩
theorem Room.depth (r:Room k A):A.depth<recursionLimit:=by have:=r.dp;omega
theorem Room.units (r:Room k A):A.units+64<cLine:=by have:=r.un;omega
def Rs:TA:=λ_ H Q=>Q [] H
def VS (ta:TE)(tr:TA):TA:=λσ H Q=>ta σ H λx H1=>tr σ H1 λxs H2=>Q (x::xs) H2
section
variable {X:Cx}{e:D2}{es:G0 D2}{te:TE}{t:TA}{pos:Pos}
theorem pa_nil:PA X [] Rs:=λ_ _ _ _ H Q I h=>aK ⟨[],H,I,.nil,h⟩
theorem jT (ha:PE X e te)(hr:PA X es t)(hs:G6 (e::es) X.env=(false,N5 e X.env)::G6 es X.env:=by rfl):PA X (e::es) (VS te t):=by
 intro pos pins s σ H Q I h;rw [hs];show D5 _ _ (spliced ((false,N5 e X.env)::N6 pos (G6 es X.env))) _ _ s;refine Y4 (thn (ha pins s σ H _ I h) λu s1 ⟨x,H1,I1,r1,q1⟩=> ?_);exact thn (hr pos pins s1 σ H1 _ I1 q1) λus s2 ⟨xs,H2,I2,r2,q2⟩=>⟨x::xs,H2,I2,.cons r1 r2,q2⟩
def MX (t:TA):TE:=λσ H Q=>t σ H λxs H1=>xs.length<=sizeLine/\ ∀p,H1 p=none->Q (.ref p) (upd H1 p (.tup xs))
def MY (t:TA):TE:=λσ H Q=>t σ H λxs H1=>xs.length<=sizeLine/\ ∀p,H1 p=none->Q (.ref p) (upd H1 p (.lst xs))
theorem GW {x1}(h:PA X es t):PE X (.Tuple es x1 pos) (MX t):=by
 intro pins s σ H Q I hq;refine wpAny_Tuple_spliced (thn (h pos pins s σ H _ I hq) λus s1 ⟨xs,H1,I1,r,z,q⟩=>⟨by rw [<-r.length];exact z,?_⟩);have hf:H1 s1.heap.objs.size=none:=I1.hok.fresh (G8 _);refine⟨.ref s1.heap.objs.size,upd H1 s1.heap.objs.size (.tup xs),I1.laid (t':=s1.toks) (λb u e=>G5 _ e) (G8 _) ?_,rfl,q _ hf⟩;exact⟨z,us,r,IsTupN.new _ _⟩
theorem GX (h:PA X es t):PE X (.List es pos) (MY t):=by
 intro pins s σ H Q I hq;refine wpAny_List_spliced (thn (h pos pins s σ H _ I hq) λus s1 ⟨xs,H1,I1,r,z,q⟩=>⟨by rw [<-r.length];exact z,?_⟩);have hf:H1 s1.heap.objs.size=none:=I1.hok.fresh (G8 _);refine⟨.ref s1.heap.objs.size,upd H1 s1.heap.objs.size (.lst xs),I1.laid (t':=s1.toks) (λb u e=>G5 _ e) (G8 _) ?_,rfl,q _ hf⟩;exact⟨z,us,0,r,R9 _ rfl⟩
end
abbrev Sp:=G0 V->Hp->VK->XK->Prop
abbrev CXT:=G0 Env->Hp->G3->XK->G2->G3->Prop
structure Env0 (P:D6)(w:S7)(K:G1)(mg:Str->G7 G2)(base:S6)(A:R8)(outer:G0 Env)(s:G3)(H:Hp):Prop where
 frames:A.frames=some outer
 mod:Mod K mg base
 bs: ∀b o,base.get? b=some o->s.heap.get? b=some o/\H b=none
 bsz:base.objs.size<=s.heap.objs.size
 funs:s.heap.FunFrames base outer
 frf: ∀b∈frs outer,H b=none
 hok:HOk P w H s.heap
 bare:X3 s.gens
def CE (outer:G0 Env)(P:D6)(w:S7)(H:Hp)(s:G3)(Q:VK)(u:G2)(s':G3):Prop:=
 ∃v H',s'.os=s.os/\X3 s'.gens/\Un (frs outer) [] H H' s.heap s'.heap/\HOk P w H' s'.heap/\RelV v u/\Q v H'
def CR (CX:CXT)(outer:G0 Env)(P:D6)(w:S7)(H:Hp)(s:G3)(Q:VK)(E:XK)(r:h9)(s':G3):Prop:=
 match r with
 | .ok (.ret u)=>CE outer P w H s Q u s'
 | .ok _=>False
 | .error e=>CX outer H s E e s'
structure FnOk (P:D6)(w:S7)(K:G1)(mg:Str->G7 G2)(base:S6)(CX:CXT)(k:P5)(f:G4)(fd:D4)(ps:G0 Str)(sp:Sp):Prop where
 len: ∀vs H Q E,sp vs H Q E->vs.length=ps.length
 run: ∀ (A:R8) (outer:G0 Env) (s:G3) (H:Hp) (args:Args) (us:G0 G2) (vs:G0 V) (Q:VK) (E:XK),Room k A->Env0 P w K mg base A outer s H->cS s fd args (ps.zip us)->Vals vs us->sp vs H Q E->
  K8 (D8 P w) A (.call (.ref f) args) (CR CX outer P w H s Q E) s
section
variable {X:Cx}{pins:G0 (G4×Obj)}{σ:St}{H:Hp}{s s':G3}
theorem Inv.env0 (I:Inv X pins σ H s):Env0 X.prog X.w X.K X.mg X.base X.A X.stack s H:=
 ⟨I.ok.frames,I.ok.mod,I.bs,R4 I.ok.bsz I.sz,I.stack,I.stkFree,I.hok,I.bare⟩
theorem Inv.after {Q:VK}{u:G2}(I:Inv X pins σ H s)(h:CE X.stack X.prog X.w H s Q u s'):EP X pins σ Q u s':=by
 obtain⟨v,H',os,bare,un,hok,r,q⟩:=h;obtain⟨hh,g,d,t,os'⟩:=s';obtain rfl:os'=s.os:=os;exact⟨v,H',I.call (h':=hh) (g':=g) (d':=d) (t':=t) (ch:= []) un hok bare (λb z=>absurd z (by simp)),r,q⟩
end
def XH (sp:Sp)(dvs:G0 V)(E:XK)(t:TA):TE:=λσ H Q=>t σ H λvs H1=>sp (vs++dvs) H1 Q E
def Binds (K:G1)(fd:D4)(ps:G0 Str)(ds:G0 G2):Prop:=
 ∀ (s:G3) (us:G0 G2),K.In s.heap->(us++ds).length=ps.length->cS s fd ⟨us,[]⟩ (ps.zip (us++ds))
theorem Binds.all {fd:D4}{ps:G0 Str}(h: ∀us:G0 G2,us.length=ps.length->fT fd ⟨us,[]⟩=pure (ps.zip us)):Binds K fd ps []:=λs us _ hl=>by
 rw [W5] at hl ⊢;exact .of_eq (h us hl)
def yG (CX:CXT)(X:Cx)(E:XK):Prop:= ∀ (pins:G0 (G4×Obj)) (σ:St) (H:Hp) (s:G3) (e:G2) (s':G3),Inv X pins σ H s->CX X.stack H s E e s'->X.xe e s'
section
variable {X:Cx}{CX:CXT}{k:P5}{f C:G4}{fd:D4}{ps:G0 Str}{sp:Sp}{dvs:G0 V}{ds:G0 G2}{E:XK}{x m:Str}{p pos apos:Pos}{e o:D2}{es:G0 D2}{ta:TE}{t:TA}
theorem GY {pins:G0 (G4×Obj)}{σ:St}{H:Hp}{s:G3}{Q:VK}{us:G0 G2}{vs:G0 V}(F:FnOk X.prog X.w X.K X.mg X.base CX k f fd ps sp)(hr:Room k X.A)(hb:Binds X.K fd ps ds)(hd:Vals dvs ds)(hx:yG CX X E)
 (I:Inv X pins σ H s)(r:Vals vs us)(h:sp (vs++dvs) H Q E):D5 (D8 X.prog X.w) X.A (call (.ref f) us) (EP X pins σ Q) X.xe s:=by
 have r2:Vals (vs++dvs) (us++ds):=r.append hd;have hl:(us++ds).length=ps.length:=by rw [<-r2.length];exact F.len _ _ _ _ h
 refine Y5 (U4 (F.run X.A X.stack s H ⟨us,[]⟩ (us++ds) (vs++dvs) Q E hr I.env0 (hb s us I.kIn hl) r2 h) λr s' hq=> ?_);cases r with
 |error e=>exact hx pins σ H s e s' I hq
 |ok fl=>
  cases fl with
  |ret u=>exact I.after hq
  |next=>exact False.elim hq
  |brk=>exact False.elim hq
  |cont=>exact False.elim hq
theorem Ys (F:FnOk X.prog X.w X.K X.mg X.base CX k f fd ps sp)(hr:Room k X.A)(hg:Gl X x)(hm:X.mg x=some (.ref f))(hk:N8 X.K (.ref f)=true)(hb:Binds X.K fd ps ds)(hd:Vals dvs ds)(hx:yG CX X E)
 (ha:PA X (e::es) t)(hdb:(x==("__debug__" :Str))=false:=by decide)(he:G6 (e::es) X.env=(false,N5 e X.env)::G6 es X.env:=by rfl)(hpl:(N6 pos (G6 es X.env)).any (·.1)=false:=by rfl):
 PE X (.Call (.Name x p) (e::es) [] pos) (XH sp dvs E t):=by
 intro pins s σ H Q I h;refine O1 (ye I hg hm ?_ hdb);refine Y6 (h₀:=X.base) I.ok.mod.kin hk (thn (ha pos pins s σ H _ I h) λus s1 ⟨vs,H1,I1,r,q⟩=>⟨I1.kIn,?_⟩) he hpl;exact GY F hr hb hd hx I1 r q
end
structure FnScope (N P:G0 Str)(sc:N4):Prop where
 kind:sc.kind= .function
 co:sc.isCoroutine=false
 gen:sc.isGenerator=false
 nd:N.Nodup
 pre:N.take P.length=P
 par: ∀x∈P,sc.names.lookup x=some .local\/sc.names.lookup x=some .cell
 nofree: ∀y∈sc.names,y.2≠ .free
variable {kindOf:Str->G7 NameKind}{x:Str}
theorem JF: ∀ {binds:G0 (Str×G2)} {m:Str->G7 G2},(∀v,(x,v) ∉ binds)->e9 kindOf binds m x=m x
 | [],_,_=>rfl
 |(n,v)::r,m,h=>by
  unfold e9;rw [JF λw hw=>h w (P9 _ hw)];split
  ·have:x≠n:=by rintro rfl;exact h v P8
   simp [this]
  ·rfl
theorem JH: ∀ {binds:G0 (Str×G2)} {m:Str->G7 G2},(∀v,(x,v) ∉ binds)->fA kindOf binds m x=m x
 | [],_,_=>rfl
 |(n,v)::r,m,h=>by
  unfold fA;rw [JH λw hw=>h w (P9 _ hw)];split
  ·rfl
  ·have:x≠n:=by rintro rfl;exact h v P8
   simp [this]
theorem yH {v:G2}: ∀ {P:G0 Str} {vs:G0 G2} {i:P5} {m:Str->G7 G2},P.Nodup->P[i]? =some x->vs[i]? =some v->kindOf x=some .local->
 e9 kindOf (P.zip vs) m x=some v
 | [],_,_,_,_,h,_,_=>by simp at h
 |_::_,[],_,_,_,_,h,_=>by simp at h
 |p::P,w::vs,0,m,nd,h1,h2,hk=>by
  simp at h1 h2;subst h1;subst h2;show e9 kindOf ((p,w)::P.zip vs) m p=_;unfold e9;rw [JF λv hv=>(W6.mp nd).1 (K9 hv).1,S1 hk];simp
 |p::P,w::vs,i+1,m,nd,h1,h2,hk=>by
  show e9 kindOf ((p,w)::P.zip vs) m x=_;unfold e9;exact yH (i:=i) (W6.mp nd).2 (by simpa using h1) (by simpa using h2) hk
theorem yI {v:G2}: ∀ {P:G0 Str} {vs:G0 G2} {i:P5} {m:Str->G7 G2},P.Nodup->P[i]? =some x->vs[i]? =some v->kindOf x≠some .local->
 fA kindOf (P.zip vs) m x=some v
 | [],_,_,_,_,h,_,_=>by simp at h
 |_::_,[],_,_,_,_,h,_=>by simp at h
 |p::P,w::vs,0,m,nd,h1,h2,hk=>by
  simp at h1 h2;subst h1;subst h2;show fA kindOf ((p,w)::P.zip vs) m p=_;unfold fA;rw [JH λv hv=>(W6.mp nd).1 (K9 hv).1,S9 hk];simp
 |p::P,w::vs,i+1,m,nd,h1,h2,hk=>by
  show fA kindOf ((p,w)::P.zip vs) m x=_;unfold fA;exact yI (i:=i) (W6.mp nd).2 (by simpa using h1) (by simpa using h2) hk
def za (N:G0 Str)(vs:G0 V):St:=vs.map some++D1 (N.length-vs.length) none
def vx (CX:CXT)(P:D6)(w:S7)(K:G1)(mg:Str->G7 G2)(base:S6)(N:G0 Str)(qual:Str)(scope:N4)(f:G4)(cd:G2)(A:R8)(outer:G0 Env)(s:G3)(H:Hp)(E:XK):Cx where
 prog:=P
 w:=w
 K:=K
 mg:=mg
 base:=base
 A:=A.deeper (B1 qual scope s.heap.objs.size f cd)
 N:=N
 s₀:=s
 H₀:=H
 env:=B1 qual scope s.heap.objs.size f cd
 outer:=outer
 stack:=B1 qual scope s.heap.objs.size f cd::outer
 ex:= []
 calm:=true
 fn:=λ_=>true
 pn:= []
 xe:=λe s'=>D5 (D8 P w) (A.deeper (B1 qual scope s.heap.objs.size f cd)) (dO (B1 qual scope s.heap.objs.size f cd) e) (λ_ s''=>CX outer H s E e s'') (λe' s''=>CX outer H s E e' s'') s'
theorem wq {sc:N4}{n:P5}(h:sc.names.lookup x=some .cell): ∃c,(B6 n sc.names []).lookup x=some c:=by
 have q:=A7 sc.names n [] (.inl h);exact B8.mp q
theorem JJ {CX:CXT}{mg:Str->G7 G2}{base:S6}{N ps:G0 Str}{qual:Str}{scope:N4}{f:G4}{cd:G2}{outer:G0 Env}{s1:G3}{E:XK}{us:G0 G2}{vs:G0 V}
 (S:FnScope N ps scope)(hd:A.handled=none)(e0:Env0 P w K mg base A outer s H)(hl:vs.length=ps.length)(r:Vals vs us)
 (x:InCallC s s.heap.objs.size (e9 (B1 qual scope s.heap.objs.size f cd).kindOf (ps.zip us) λ_=>none) (B6 (s.heap.objs.size+1) scope.names []) (fA (B1 qual scope s.heap.objs.size f cd).kindOf (ps.zip us) λ_=>none) s1):
 Inv (vx CX P w K mg base N qual scope f cd A outer s H E) [] (za N vs) H s1:=by
 have hpl:ps.length<=N.length:=by have:=congrArg cG S.pre;rw [C6] at this;omega
 obtain⟨h1,tk,rfl,hk⟩:=x.done;have noA: ∀b:G4,b ∉ (vx CX P w K mg base N qual scope f cd A outer s H E).ex:=λb z=>absurd (show b∈([]:G0 G4) from z) (by simp)
 refine⟨⟨e0.mod,S.kind,rfl,rfl,G8 _,λy z c h1 h2=> ?_,λy hy=> ?_,λy c _ h=> ?_,λ_=>hd,W1 e0.frames,.inr ⟨rfl,rfl⟩,λb z=>absurd z (noA b),e0.bs,e0.bsz,λb _ _=>noA b,λb z=>absurd z (noA b),e0.funs,e0.frf⟩,
  rfl,e0.bare,Un.kept hk,⟨_,x.toInCall.ns,λi y v h1 h2 h3=> ?_⟩,λy c h=>⟨_,x.cell y c h⟩,e0.hok.fresh (G8 _),λy c h=> ?_,λp hp=>absurd (show p∈([]:G0 (G4×Obj)) from hp) (by simp),e0.hok.kept hk,?_⟩
 ·exact dP x.apart (M8 h1) (M8 h2)
 ·have hy:scope.names.lookup y=some .cell\/scope.names.lookup y=some .free:=hy;rcases hy with hy|hy
  ·exact wq hy
  ·exact absurd rfl (S.nofree _ (M8 hy))
 ·exact N3 (x.above y c (M8 h))
 ·have hi:i<vs.length:=by
   unfold za at h2
   by_cases hi:i<vs.length
   ·exact hi
   ·rw [F0 (by simpa using hi)] at h2;rw [Q5] at h2;split at h2<;>cases h2
  have ha:vs[i]? =some v:=by
   unfold za at h2;rw [B7 (by simpa using hi),R6] at h2;cases e:vs[i]? with
   |none=>rw [e] at h2;cases h2
   |some a=>rw [e] at h2;cases h2;rfl
  obtain⟨u,hu,rv⟩:=r.get ha;have hp:ps[i]? =some y:=by
   rw [<-S.pre,K4 (by omega)];exact h1
  have ndP:ps.Nodup:=by rw [<-S.pre];exact S.nd.sublist (dQ _ _)
  refine⟨u,rv,?_⟩;rcases S.par y (M5 hp) with k|k
  ·exact .inl ⟨k,yH ndP hp hu k⟩
  ·obtain⟨c,e⟩:=wq (n:=s.heap.objs.size+1) k;refine .inr ⟨.inl k,c,e,?_⟩;have q:=x.cell y c e;rw [yI ndP hp hu (by show scope.names.lookup y≠_;rw [k];decide)] at q;exact q
 ·exact e0.hok.fresh (N3 (x.above y c (M8 h)))
 ·unfold za;show _=N.length;rw [T3,G9,bZ];omega
theorem XI {CX:CXT}{mg:Str->G7 G2}{base:S6}{f:G4}{name qual:Str}{params:cT}{body:G0 N2}{scope:N4}{dV kV doc pm cdv ct oc:G2}{an od:G7 G4}{osl:F3 (G7 G2)}{N ps:G0 Str}{sp:Sp}(lk:K.lookup f=some ⟨oc,od,.func (L4 name qual params body scope dV kV doc pm an cdv ct),osl⟩)(hcd:U5 K cdv qual=true)(S:FnScope N ps scope)
 (len: ∀vs H Q E,sp vs H Q E->vs.length=ps.length)
 (hbody: ∀ (A:R8) (outer:G0 Env) (s:G3) (H:Hp) (vs:G0 V) (Q:VK) (E:XK),Room k (A.deeper (B1 qual scope s.heap.objs.size f cdv))->sp vs H Q E->
  ∃t,PSs (vx CX P w K mg base N qual scope f cdv A outer s H E) body t/\t {nx:=λ_ H'=>Q .non H',rt:=Q} (za N vs) H):
 FnOk P w K mg base CX (k+1) f (L4 name qual params body scope dV kV doc pm an cdv ct) ps sp:=by
 refine⟨len,λA outer s H args us vs Q E hr e0 hb r hsp=> ?_⟩;have hl:=len _ _ _ _ hsp;have KX:K.In s.heap:=e0.mod.kin.keeps λb o e=>(e0.bs b o e).1
 have lim:s.heap.NoLimit:=e0.mod.nolimit.keeps λb o e=>(e0.bs b o e).1
 have hkind: ∀y∈ps.zip us,scope.names.lookup y.1=some .local\/(scope.names.lookup y.1=some .cell/\((B6 (s.heap.objs.size+1) scope.names []).lookup y.1).isSome=true):=λ⟨n,v⟩ hy=>by
  rcases S.par n (K9 hy).1 with q|q
  ·exact .inl q
  ·exact .inr ⟨q,A7 _ _ _ (.inl q)⟩
 refine V6 hr.depth (KX _ _ lk) rfl S.co S.gen rfl (Y7 KX hcd) (hb _ _ _ _ ?_);refine I0 S.kind hkind λenv he s1 x=> ?_
 subst he;refine⟨lim.keeps x.toInCall.keep,dR ?_⟩;obtain⟨t,ht,hq⟩:=hbody A outer s H vs Q E (hr.deeper _) hsp;have I:Inv (vx CX P w K mg base N qual scope f cdv A outer s H E) [] (za N vs) H s1:=JJ S hr.hd e0 hl r x;refine S3 (ht [] s1 (za N vs) H _ I hq) (λfl s' hs=> ?_) λe s' hs=>hs
 have fin: ∀ {lH:St} {H':Hp} {v:V} {u:G2},Inv (vx CX P w K mg base N qual scope f cdv A outer s H E) [] lH H' s'->RelV v u->Q v H'->CE outer P w H s Q u s':=
  λ{lH H' v u} J rv q=>⟨v,H',J.os,J.bare,J.base,J.hok,rv,q⟩
 cases fl with
 |ret u=>
  obtain⟨v,lH,H',J,rv,q⟩:=hs;exact fin J rv q
 |next=>
  obtain⟨lH,H',J,q⟩:=hs;exact fin (v:=V.non) (u:=bF) J rfl q
 |brk=>
  obtain⟨_,_,_,q⟩:=hs;exact False.elim q
 |cont=>
  obtain⟨_,_,_,q⟩:=hs;exact False.elim q
section
variable {X:Cx}{x:Str}{p pos:Pos}{e:D2}{es:G0 D2}{t:TA}{id T:F7}{r:G0 V->Hp->VK->Prop}
def tCB (r:G0 V->Hp->VK->Prop)(t:TA):TE:=λσ H Q=>t σ H λvs H1=>r vs H1 Q
theorem yD (hc:CallR X (.builtin id) r)(hg:Gl X x)(hm:X.mg x=none)(hv:B5 x=some (.builtin id))(ha:PA X (e::es) t)(hn:x≠ "__name__" :=by decide)(hdb:(x==("__debug__" :Str))=false:=by decide)
 (he:G6 (e::es) X.env=(false,N5 e X.env)::G6 es X.env:=by rfl)(hpl:(N6 pos (G6 es X.env)).any (·.1)=false:=by rfl):PE X (.Call (.Name x p) (e::es) [] pos) (tCB r t):=by
 intro pins s σ H Q I h;refine O1 (JB I hg hm hv ?_ hn hdb);exact eN (thn (ha pos pins s σ H _ I h) λus s1 ⟨vs,H1,I1,r1,q1⟩=>hc pins s1 σ H1 vs us Q I1 r1 q1) he hpl
theorem Yt (hc:CallR X (.type T) r)(hg:Gl X x)(hm:X.mg x=none)(hv:B5 x=some (.type T))(ha:PA X (e::es) t)(hn:x≠ "__name__" :=by decide)(hdb:(x==("__debug__" :Str))=false:=by decide)
 (he:G6 (e::es) X.env=(false,N5 e X.env)::G6 es X.env:=by rfl)(hpl:(N6 pos (G6 es X.env)).any (·.1)=false:=by rfl):PE X (.Call (.Name x p) (e::es) [] pos) (tCB r t):=by
 intro pins s σ H Q I h;refine O1 (JB I hg hm hv ?_ hn hdb);exact E7 (thn (ha pos pins s σ H _ I h) λus s1 ⟨vs,H1,I1,r1,q1⟩=>hc pins s1 σ H1 vs us Q I1 r1 q1) he hpl
end
end L2
namespace HT
open PySem PyProof.Rows
section
variable {prog:D6}{w:S7}{A:R8}{E:G2->G3->Prop}{s:G3}
theorem XJ {t b:G4}{vs ws:G0 G2}{Q:G2->G3->Prop}(ht:g0 s.heap t vs.toArray)(hb:g0 s.heap b ws.toArray)(hv:vs≠ [])
 (h1:ws= []->Q (.ref t) s)(h2:ws≠ []->Q (.ref s.heap.objs.size) {s with heap:=s.heap.push {cls:= .type "tuple",data:= .seq (vs++ws).toArray}})
 (hsz:vs.length+ws.length<=sizeLine):D5 (D8 prog w) A (N7 .Add (.ref t) (.ref b)) Q E s:=by
 obtain⟨⟨cls,dd,data,sl⟩,ho,hc,n,hd⟩:=id ht;obtain⟨⟨cls2,dd2,data2,sl2⟩,ho2,hc2,n2,hd2⟩:=id hb;simp only at hc hd hc2 hd2;subst hc hd hc2 hd2;have e:vs.toArray++ws.toArray=(vs++ws).toArray:=by simp
 by_cases hw:ws= []
 ·exact dS ⟨_,ho,rfl⟩ ⟨_,ho2,rfl⟩ aV cZ U6 Q6 (K5 _ _)
   (tuple_addW1 t b vs.toArray ws.toArray n n2 dd dd2 sl sl2 (by simpa using hv) (by simp [hw])) ⟨ho,ho2,h1 hw⟩
 ·refine dS ⟨_,ho,rfl⟩ ⟨_,ho2,rfl⟩ aV cZ U6 Q6 (K5 _ _)
   (tuple_addW2 t b vs.toArray ws.toArray n n2 dd dd2 sl sl2 (by simpa using hv) (by simpa using hw) (by rw [P3,P3];exact hsz)) ⟨ho,ho2,?_⟩
  rw [e];exact h2 hw
def sIx (n d:P5):G7 P7->P5
 |none=>d
 |some v=>if v<0 then (v+(n:P7)).toNat else min v.toNat n
theorem GZ (n d:P5)(hd:d<=n)(o:G7 P7):sIx n d o<=n:=by
 cases o with
 |none=>exact hd
 |some v=>
  show (if v<0 then (v+(n:P7)).toNat else min v.toNat n)<=n
  by_cases hv:v<0
  ·rw [S1 hv];omega
  ·rw [S9 hv];exact V7 _ _
theorem Yu (v:P7)(n d:P5):(if v<0 then max (v+(n:P7)) 0 else min v (n:P7))=((sIx n d (some v):P5):P7):=by
 show (if v<0 then max (v+(n:P7)) 0 else min v (n:P7))=(((if v<0 then (v+(n:P7)).toNat else min v.toNat n):P5):P7)
 by_cases hv:v<0
 ·simp only [S1 hv];omega
 ·simp only [S9 hv];omega
theorem WD (lo hi:G7 P7)(n:P5):F4 lo hi 1 (n:P7)=(((sIx n 0 lo:P5):P7),((sIx n n hi:P5):P7)):=by
 have h1: ¬ ((1:P7)<0):=by omega
 unfold F4;simp only [h1,cH];refine Prod.ext ?_ ?_
 ·cases lo with
  |none=>rfl
  |some v=>exact Yu v n 0
 ·cases hi with
  |none=>rfl
  |some v=>exact Yu v n n
theorem WE (i j:P5):M0 (i:P7) (j:P7) 1=j-i:=by
 unfold M0;have h1:(1:P7)>0:=by omega
 simp only [h1,X5,iA];split<;>omega
theorem vK {v:G2}{o:G7 P7}{Q:G7 P7->G3->Prop}(p:bG v o)(h:Q o s):D5 (D8 prog w) A (fG v) Q E s:=by
 cases p with
 |none=>exact Y8 h
 |int i t=>exact gI h
theorem zK {sl:G4}{vl vu:G2}{lo hi:G7 P7}{n:P5}{Q:P7×P7×P5->G3->Prop}(hs:s.heap.IsSliceOf sl vl vu .none)(pl:bG vl lo)(pu:bG vu hi)
 (h:Q (((sIx n 0 lo:P5):P7),1,sIx n n hi-sIx n 0 lo) s):D5 (D8 prog w) A (O2 (.ref sl) (pure (n:P7))) Q E s:=by
 obtain⟨os,hos,hcs,hds⟩:=id hs;unfold O2 aD;refine wpAny_bind (wpAny_bind (Q7 hos hds (x:=vl) rfl (wpAny_bind (Q7 hos hds (x:=vu) rfl (wpAny_bind (Q7 hos hds (x:= .none) rfl (P1 ?_)))))));refine wpAny_bind (Y8 ?_);show D5 _ _ (if ((1:P7)==0)=true then _ else _) _ _ s;rw [S9 (by decide)];refine wpAny_bind (vK pl (wpAny_bind (vK pu (wpAny_bind (P1 ?_)))));show D5 _ _ (match F4 lo hi 1 (n:P7) with|(lo,hi)=>pure (lo,(1:P7),M0 lo hi 1)) _ _ s;rw [WD lo hi n];show D5 _ _ (pure (((sIx n 0 lo:P5):P7),(1:P7),M0 ((sIx n 0 lo:P5):P7) ((sIx n n hi:P5):P7) 1)) _ _ s;rw [WE];exact P1 h
theorem VT (xs:F3 G2)(i k:P5):((C8 k).filterMap λ(m:P5)=>xs[((i:P7)+(m:P7)*1).toNat]?).toArray=((xs.toList.drop i).take k).toArray:=by
 have e:(λ(m:P5)=>xs[((i:P7)+(m:P7)*1).toNat]?)=λm=>xs[i+m]? :=by
  funext m
  have:((i:P7)+(m:P7)*1).toNat=i+m:=by omega
  rw [this]
 rw [e];have:=pick_run xs i k;rw [dE] at this;have e2:((λx=>xs[x]?)∘λx=>i+x)=λm=>xs[i+m]? :=rfl
 rw [e2] at this;rw [this]
theorem yg {t sl:G4}{items:F3 G2}{vl vu:G2}{lo hi:G7 P7}{Q:G2->G3->Prop}(ht:g0 s.heap t items)(hs:s.heap.IsSliceOf sl vl vu .none)(pl:bG vl lo)(pu:bG vu hi)
 (hw: ¬ (sIx items.size 0 lo=0/\sIx items.size items.size hi=items.size))
 (h:Q (.ref s.heap.objs.size) {s with heap:=s.heap.push {cls:= .type "tuple",data:= .seq ((items.toList.drop (sIx items.size 0 lo)).take (sIx items.size items.size hi-sIx items.size 0 lo)).toArray}})
 (hsz:items.size<=sizeLine):D5 (D8 prog w) A (aL (.ref t) (.ref sl)) Q E s:=by
 have htake:sizeOk (.seq ((items.toList.drop (sIx items.size 0 lo)).take (sIx items.size items.size hi-sIx items.size 0 lo)).toArray):=by
  show ((items.toList.drop (sIx items.size 0 lo)).take (sIx items.size items.size hi-sIx items.size 0 lo)).toArray.size<=sizeLine;rw [P3,C6,V8,B0];omega
 have hj:sIx items.size items.size hi<=items.size:=GZ _ _ (G8 _) hi;obtain⟨os,hos,hcs,hds⟩:=id hs;have hTs:s.TypeIs (.ref sl) "slice" :=⟨os,hos,hcs⟩;unfold aL
 try with_reducible refine L8 ?_
 first|refine wpAny_bind (P1 ?_)|skip
 refine wpAny_bind (aM ht.typeIs (by decide) ?_);refine wpAny_bind (Q8 (name:=D7 "__getitem__") ht.typeIs M7
  (J7 M7 ht.typeIs X0 ?_ (Y9 _ _)))
 show D5 _ _ (J0 (.ref t) >>= _) _ _ s;refine wpAny_bind (c4 ht ?_);refine wpAny_bind (bH hTs ?_);rw [S1 (by decide)];refine wpAny_bind (zK hs pl pu ?_);have hno: ¬ ((((sIx items.size 0 lo:P5):P7)==0&&(1:P7)==1&&(sIx items.size items.size hi-sIx items.size 0 lo)==items.size)=true):=by
  intro q;rw [D9,D9] at q;have q1:((sIx items.size 0 lo:P5):P7)=0:=eq_of_beq q.1.1;have q2:sIx items.size items.size hi-sIx items.size 0 lo=items.size:=eq_of_beq q.2;exact hw ⟨by omega,by omega⟩
 show D5 _ _ (if (((sIx items.size 0 lo:P5):P7)==0&&(1:P7)==1&&(sIx items.size items.size hi-sIx items.size 0 lo)==items.size)=true then _ else _) _ _ s;rw [S9 hno,VT]
 first
  |exact wpAny_bind (m:=M6 _) (B2 (P1 ⟨_,rfl,P1 h⟩) htake)
  |exact wpAny_bind (m:=M6 _) (B2 (wpAny_bind (P1 (P1 ⟨_,rfl,P1 h⟩))) htake)
  |exact wpAny_bind (wpAny_bind (m:=M6 _) (B2 (P1 (P1 ⟨_,rfl,P1 h⟩)) htake))
  |exact wpAny_bind (wpAny_bind (m:=M6 _) (B2 (P1 ⟨_,rfl,P1 h⟩) htake))
end
end HT
namespace L2
open PySem PySem.Spec PyProof.Rows
abbrev TO:=St->Hp->(G7 P7->Hp->Prop)->Prop
def PO (X:Cx)(e:G7 D2)(t:TO):Prop:=
 ∀ (pins:G0 (G4×Obj)) (s:G3) (σ:St) (H:Hp) (Q:G7 P7->Hp->Prop),Inv X pins σ H s->t σ H Q->
  D5 (D8 X.prog X.w) X.A (evalPart e X.env) (λu s'=> ∃o H',Inv X pins σ H' s'/\bG u o/\Q o H') X.xe s
def XL:TO:=λ_ H Q=>Q none H
def Rt (t:TE):TO:=λσ H Q=>t σ H λx H1=> ∃i,x= .int i/\Q (some i) H1
section
variable {X:Cx}{e:D2}{te:TE}{lo hi:G7 D2}{tl th:TO}{pos p2:Pos}
theorem po_none:PO X none XL:=by
 intro pins s σ H Q I h;rw [aP];exact P1 ⟨none,H,I,.none,h⟩
theorem XM (h:PE X e te):PO X (some e) (Rt te):=by
 intro pins s σ H Q I hw;rw [c5];refine thn (h pins s σ H _ I hw) λu s1 ⟨x,H1,I1,r1,q1⟩=> ?_
 obtain⟨i,rfl,q⟩:=q1;obtain⟨t,rfl⟩:=r1;exact⟨some i,H1,I1,.int i t,q⟩
def SlR (X:Cx)(r:V->G7 P7->G7 P7->Hp->VK->Prop):Prop:=
 ∀ (pins:G0 (G4×Obj)) (s:G3) (σ:St) (H:Hp) (x:V) (v vl vu:G2) (lo hi:G7 P7) (sl:G4) (Q:VK),Inv X pins σ H s->RelV x v->s.heap.IsSliceOf sl vl vu .none->bG vl lo->bG vu hi->r x lo hi H Q->
  ∃T id,typeLookup (.type T) "__getitem__" =pure (some (.builtin id))/\s.TypeIs v T/\D5 (D8 X.prog X.w) X.A (aL v (.ref sl)) (EP X pins σ Q) X.xe s
theorem SlR.or {r r':V->G7 P7->G7 P7->Hp->VK->Prop}(h:SlR X r)(h':SlR X r'):SlR X (λx lo hi H Q=>r x lo hi H Q\/r' x lo hi H Q):=by
 intro pins s σ H x v vl vu lo hi sl Q I rx hs pl pu q;rcases q with q|q
 ·exact h pins s σ H x v vl vu lo hi sl Q I rx hs pl pu q
 ·exact h' pins s σ H x v vl vu lo hi sl Q I rx hs pl pu q
def tSl (r:V->G7 P7->G7 P7->Hp->VK->Prop)(te:TE)(tl th:TO):TE:=λσ H Q=>te σ H λx H1=>tl σ H1 λl H2=>th σ H2 λu H3=>r x l u H3 Q
theorem VU {r:V->G7 P7->G7 P7->Hp->VK->Prop}(hr:SlR X r)(he:PE X e te)(hl:PO X lo tl)(hu:PO X hi th):PE X (.Subscript e (.Slice lo hi none p2) pos) (tSl r te tl th):=by
 intro pins s σ H Q I h;refine dF (thn (he pins s σ H _ I h) λv s1 ⟨x,H1,I1,r1,q1⟩=> ?_);refine fB (thn (hl pins s1 σ H1 _ I1 q1) λvl s2 ⟨l,H2,I2,pl,q2⟩=>thn (hu pins s2 σ H2 _ I2 q2) λvu s3 ⟨u,H3,I3,pu,q3⟩=> ?_);rw [aP];refine P1 ?_;have I4:Inv X pins σ H3 {s3 with heap:=s3.heap.push {cls:= .type "slice",data:= .fields #[vl,vu,.none]}}:=I3.kept (t':=s3.toks) λb ob q=>G5 _ q
 obtain⟨T,id,hT,ht,hg⟩:=hr pins {s3 with heap:=s3.heap.push {cls:= .type "slice",data:= .fields #[vl,vu,.none]}} σ H3 x v vl vu l u s3.heap.objs.size Q I4 r1 (Z0 ..) pl pu q3;show D5 (D8 X.prog X.w) X.A (aQ e (.Slice lo hi none p2) v (.ref s3.heap.objs.size)) (EP X pins σ Q) X.xe {s3 with heap:=s3.heap.push {cls:= .type "slice",data:= .fields #[vl,vu,.none]}};exact fU (ops:= [.ref s3.heap.objs.size,v]) ht hT hg (by with_unfolding_all rfl)
def VF (xs:G0 V)(lo hi:G7 P7):G0 V:=(xs.drop (HT.sIx xs.length 0 lo)).take (HT.sIx xs.length xs.length hi-HT.sIx xs.length 0 lo)
theorem yJ (xs:G0 V)(lo hi:G7 P7):(VF xs lo hi).length<=xs.length:=by
 unfold VF;rw [C6,V8];omega
def NA (K:G1):V->G7 P7->G7 P7->Hp->VK->Prop:=λx lo hi H Q=> ∃a xs,x= .ref a/\SqT K H a xs/\
 ¬ (HT.sIx xs.length 0 lo=0/\HT.sIx xs.length xs.length hi=xs.length)/\ ∀p,H p=none->Q (.ref p) (upd H p (.tup (VF xs lo hi)))
theorem sl_tup:SlR X (NA X.K):=by
 intro pins s σ H x v vl vu lo hi sl Q I rx hs pl pu h;obtain⟨a,xs,rfl,hx,hw,q⟩:=h;cases rx;obtain⟨its,r,ht,hz⟩:=I.tuple hx;have hlen:its.toArray.size=xs.length:=by rw [P3];exact r.length.symm
 refine⟨"tuple",_,PyProof.Rows.slot_tuple_getitem.lookup,ht.typeIs,?_⟩;refine HT.yg ht hs pl pu (by rw [hlen];exact hw) ?_ (by rw [hlen];exact hz);rw [hlen];refine⟨.ref s.heap.objs.size,_,I.laid (t':=s.toks) (o:= .tup (VF xs lo hi)) (λb ob q=>G5 _ q) (G8 _) ?_,rfl,q _ (I.hok.fresh (G8 _))⟩;exact⟨R4 (yJ xs lo hi) hz,_,(r.drop (HT.sIx xs.length 0 lo)).take (HT.sIx xs.length xs.length hi-HT.sIx xs.length 0 lo),IsTupN.new _ _⟩
def Ru (K:G1):R2:=λx y H Q=> ∃a b xs ys,x= .ref a/\y= .ref b/\SqT K H a xs/\SqT K H b ys/\xs≠ []/\xs.length+ys.length<=sizeLine/\
 (ys= []->Q (.ref a) H)/\(ys≠ []-> ∀p,H p=none->Q (.ref p) (upd H p (.tup (xs++ys))))
theorem Vals.nil_iff {xs:G0 V}{us:G0 G2}(r:Vals xs us):us= []↔xs= []:=by
 cases r with
 |nil=>simp
 |cons _ _=>simp
theorem op_catT:OpR X (N7 .Add) (Ru X.K):=by
 intro pins s σ H x y v u Q I rx ry h;obtain⟨a,b,xs,ys,rfl,rfl,ha,hb,hx,hz,q1,q2⟩:=h;cases rx;cases ry;obtain⟨its,r1,p1,_⟩:=I.tuple ha;obtain⟨its2,r2,p2,_⟩:=I.tuple hb;refine HT.XJ p1 p2 (λz=>hx (r1.nil_iff.mp z)) (λz=>⟨.ref a,H,I,rfl,q1 (r2.nil_iff.mp z)⟩) (λz=> ?_) (by rw [<-r1.length,<-r2.length];exact hz);refine⟨.ref s.heap.objs.size,_,I.laid (t':=s.toks) (o:= .tup (xs++ys)) (λb ob q=>G5 _ q) (G8 _) ?_,rfl,q2 (λw=>z (r2.nil_iff.mpr w)) _ (I.hok.fresh (G8 _))⟩;exact⟨by rw [T3];exact hz,_,r1.append r2,IsTupN.new _ _⟩
end
def ixN (n:P5)(i:P7):G7 P5:=if 0<=i then (if i<n then some i.toNat else none) else if-(n:P7)<=i then some (i+n).toNat else none
def atI {α:Type}(xs:G0 α)(i:P7):G7 α:=(ixN xs.length i).bind λj=>xs[j]?
theorem Yv {n:P5}{i:P7}{j:P5}(h:ixN n i=some j):seqIndex? i n=some j/\j<n/\ -(n:P7)<=i/\i<n:=by
 unfold ixN at h
 by_cases h0:0<=i
 ·rw [S1 h0] at h
  by_cases h1:i<n
  ·rw [S1 h1] at h;have e:i.toNat=j:=M1 h;exact⟨by rw [fC h0 h1,e],by omega,by omega,h1⟩
  ·rw [S9 h1] at h;cases h
 ·rw [S9 h0] at h
  by_cases h1: -(n:P7)<=i
  ·rw [S1 h1] at h;have e:(i+n).toNat=j:=M1 h;exact⟨by rw [dU (by omega) h1,e],by omega,h1,by omega⟩
  ·rw [S9 h1] at h;cases h
theorem ZE {α:Type}{xs:G0 α}{i:P7}{v:α}(h:atI xs i=some v): ∃j,seqIndex? i xs.length=some j/\xs[j]? =some v/\j<xs.length/\ -(xs.length:P7)<=i/\i<xs.length:=by
 unfold atI at h;cases e:ixN xs.length i with
 |none=>rw [e] at h;cases h
 |some j=>
  rw [e] at h;obtain⟨h1,h2,h3,h4⟩:=Yv e;exact⟨j,h1,h,h2,h3,h4⟩
theorem Ja {α:Type}{xs:G0 α}{j:P5}{v:α}(h:xs[j]? =some v):atI xs (j:P7)=some v:=by
 have hj:j<xs.length:=(D0.mp h).1;have e:ixN xs.length (j:P7)=some j:=by
  unfold ixN;rw [S1 (by omega),S1 (by omega)];simp
 unfold atI;rw [e];exact h
def yK (b:D2):Prop:= ∀o i,iV b false o i=operate [o,i] (aL o i)
def IxR (X:Cx)(r:R2):Prop:=
 ∀ (value slice:D2) (pins:G0 (G4×Obj)) (s:G3) (σ:St) (H:Hp) (x y:V) (v u:G2) (Q:VK),Inv X pins σ H s->RelV x v->RelV y u->r x y H Q->
  iV slice false v u=operate [v,u] (aL v u)->D5 (D8 X.prog X.w) X.A (aQ value slice v u) (EP X pins σ Q) X.xe s
def MtR (X:Cx)(id:F7)(r:V->G0 V->Hp->VK->Prop):Prop:=
 ∀ (pins:G0 (G4×Obj)) (s:G3) (σ:St) (H:Hp) (x:V) (xs:G0 V) (v:G2) (us:G0 G2) (Q:VK),Inv X pins σ H s->RelV x v->Vals xs us->r x xs H Q->
  D5 (D8 X.prog X.w) X.A (call (.builtin id) (v::us)) (EP X pins σ Q) X.xe s
section
variable {X:Cx}{a b:D2}{ta tb:TE}{pos:Pos}
theorem IxR.or {r r':R2}(h:IxR X r)(h':IxR X r'):IxR X (λx y H Q=>r x y H Q\/r' x y H Q):=by
 intro value slice pins s σ H x y v u Q I rx ry q hs;rcases q with q|q
 ·exact h value slice pins s σ H x y v u Q I rx ry q hs
 ·exact h' value slice pins s σ H x y v u Q I rx ry q hs
theorem Pa {r:R2}(hr:IxR X r)(ha:PE X a ta)(hb:PE X b tb)(hs:yK b):PE X (.Subscript a b pos) (tOp r ta tb):=by
 intro pins s σ H Q I h;exact dF (Rl ha hb I h λv u s2 x y H2 I2 rx ry q=>hr a b pins s2 σ H2 x y v u Q I2 rx ry q (hs _ _))
def MZ (K:G1):R2:=λx y H Q=> ∃p xs i v,x= .ref p/\y= .int i/\SqL K H p xs/\atI xs i=some v/\Q v H
def Na (K:G1):R2:=λx y H Q=> ∃p xs i v,x= .ref p/\y= .int i/\SqT K H p xs/\atI xs i=some v/\Q v H
def Nb:R2:=λx y H Q=> ∃z i c,x= .str z/\y= .int i/\z.length<=sizeLine/\atI z.cps.toList i=some c/\Q (.str ⟨#[c]⟩) H
theorem ix_list:IxR X (MZ X.K):=by
 intro value slice pins s σ H x y v u Q I rx ry h hs;obtain⟨p,xs,i,z,rfl,rfl,hq,he,q⟩:=h;cases rx;obtain⟨t,rfl⟩:=ry;obtain⟨its,r,pl,hz⟩:=I.list hq;obtain⟨j,h1,h2,h3,h4,h5⟩:=ZE he;obtain⟨w,ew,rw'⟩:=r.get h2;have hl:=r.length;have hn:=vJ;have fin:EP X pins σ Q w s:=⟨z,H,I,rw',q⟩
 by_cases h0:0<=i
 ·have hj:i.toNat=j:=by
   rw [fC h0 h5] at h1;exact M1 h1
  exact item_listR pl.isList h0 (by omega) (by rw [hj];simpa using ew) fin hs
 ·have hj:(i+(its.toArray.size:P7)).toNat=j:=by
   rw [dU (by omega) h4] at h1;rw [P3,<-hl];exact M1 h1
  exact bI (x:=w) pl.isList.typeIs slot_list_getitem.lookup
   (wpAny_getItem_list_neg (Q:=λr s'=>r=w/\EP X pins σ Q r s') pl.isList (by omega) (by rw [P3]<;>omega) (by omega) (by rw [hj];simpa using ew) ⟨rfl,fin⟩) hs
theorem ix_tup:IxR X (Na X.K):=by
 intro value slice pins s σ H x y v u Q I rx ry h hs;obtain⟨p,xs,i,z,rfl,rfl,hq,he,q⟩:=h;cases rx;obtain⟨t,rfl⟩:=ry;obtain⟨its,r,pl,hz⟩:=I.tuple hq;obtain⟨j,h1,h2,h3,h4,h5⟩:=ZE he;obtain⟨w,ew,rw'⟩:=r.get h2;have hl:=r.length;have hn:=vJ;have fin:EP X pins σ Q w s:=⟨z,H,I,rw',q⟩;exact bI (x:=w) pl.typeIs slot_tuple_getitem.lookup
  (getItem_tuple (j:=j) (Q:=λr s'=>r=w/\EP X pins σ Q r s') pl (by omega) (by omega) (by rw [P3,<-hl];exact h1) (by simpa using ew) ⟨rfl,fin⟩) hs
theorem UT:IxR X Nb:=by
 intro value slice pins s σ H x y v u Q I rx ry h hs;obtain⟨z,i,c,rfl,rfl,hz,he,q⟩:=h;obtain⟨t,rfl⟩:=rx;obtain⟨t',rfl⟩:=ry;obtain⟨j,h1,h2,h3,h4,h5⟩:=ZE he;have hl:z.cps.toList.length=z.length:=by simp [Str.length]
 rw [hl] at h1 h4 h5;have hn:=vJ;exact fU (fV s z t) slot_str_getitem.lookup (getItem_str (c:=c) (by
  have e1:decide (i< -(2^63:P7))=false:=T6 (by omega);have e2:decide (i>=2^63)=false:=T6 (by omega);rw [e1,e2,Bool.or_false]) (by rw [h1];simpa using h2) ⟨.str ⟨#[c]⟩,H,I.tok _,⟨_,rfl⟩,q⟩) hs
def rIx (K:G1):R2:=λx y H Q=>MZ K x y H Q\/Na K x y H Q\/Nb x y H Q
theorem Pb:IxR X (rIx X.K):=ix_list.or (ix_tup.or UT)
theorem WF (its:G0 G2)(n j:P5)(u:G2):bJ (·.setIfInBounds j u) {cls:= .type "list",data:= .seq its.toArray n}= {cls:= .type "list",data:= .seq (its.set j u).toArray n}:=by
 simp [bJ]
theorem Inv.lst {pins:G0 (G4×Obj)}{σ:St}{H:Hp}{s:G3}{p:G4}{xs:G0 V}(I:Inv X pins σ H s)(h:H p=some (.lst xs)):
 ∃ (its:G0 G2) (n:P5),Vals xs its/\s.heap.get? p=some {cls:= .type "list",data:= .seq its.toArray n}/\xs.length<=sizeLine:=by
 obtain⟨z,its,n,r,e⟩:=I.hok p _ h;exact⟨its,n,r,e,z⟩
theorem Inv.lstUpd {pins:G0 (G4×Obj)}{σ:St}{H:Hp}{s:G3}{p:G4}{xs ys:G0 V}{its its':G0 G2}{n n':P5}{f:Obj->Obj}(I:Inv X pins σ H s)(h:H p=some (.lst xs))
 (ho:s.heap.get? p=some {cls:= .type "list",data:= .seq its.toArray n})(hf:f {cls:= .type "list",data:= .seq its.toArray n}= {cls:= .type "list",data:= .seq its'.toArray n'})(r:Vals ys its')(hz:ys.length<=sizeLine)(t:P5):
 Inv X pins σ (upd H p (.lst ys)) {s with heap:=s.heap.update p f,toks:=t}:=by
 have e:(s.heap.update p f).get? p=some {cls:= .type "list",data:= .seq its'.toArray n'}:=by
  rw [Heap.get?_update_self f ho (by rw [hf]<;>rfl),hf]
 refine I.write (x:=p) (e:=p) (by rw [h];trivial) (.inl rfl) (λb u hb q=>(bK _ _ (A0 hb)).trans q) ⟨_,e⟩ ?_;exact⟨hz,its',n',r,e⟩
def Rv:V->V->V->Hp->(Hp->Prop)->Prop:=λo i v H Q=> ∃p xs k j,o= .ref p/\i= .int k/\H p=some (.lst xs)/\ixN xs.length k=some j/\Q (upd H p (.lst (xs.set j v)))
theorem VW:MP X Rv:=by
 intro pins s σ H o i v ov iv u Q I ro ri rv h;obtain⟨p,xs,k,j,rfl,rfl,hp,hj,q⟩:=h;cases ro;obtain⟨t,rfl⟩:=ri;obtain⟨its,n,r,ho,hz⟩:=I.lst hp;obtain⟨h1,h2,h3,h4⟩:=Yv hj;have hl:=r.length;have hn:=vJ;have I':Inv X pins σ (upd H p (.lst (xs.set j v))) {s with heap:=s.heap.update p (bJ (·.setIfInBounds j u))}:=
  I.lstUpd hp ho (WF its n j u) (r.set rv j) (by rw [List.length_set];exact hz) s.toks
 by_cases h0:0<=k
 ·have hk:k.toNat=j:=by
   rw [fC h0 h4] at h1;exact M1 h1
  exact kW ho h0 (by omega) (by rw [P3,<-hl];exact h4) (by rw [hk];exact⟨_,I',q⟩)
 ·have hk:(k+(its.toArray.size:P7)).toNat=j:=by
   rw [dU (by omega) h3] at h1;rw [P3,<-hl];exact M1 h1
  exact i8 ho (by omega) (by rw [P3,<-hl];exact h3) (by omega) (by rw [hk];exact⟨_,I',q⟩)
theorem JK (lo hi:G7 P7)(n:P5):(Q9 lo hi none n).1=((HT.sIx n 0 lo:P5):P7)/\(Q9 lo hi none n).2.1=((HT.sIx n n hi:P5):P7)/\(Q9 lo hi none n).2.2=1:=by
 refine⟨?_,?_,rfl⟩
 ·cases lo with
  |none=>simp [Q9,HT.sIx]
  |some i=>
   simp only [Q9,HT.sIx,eO,show (1:P7)>0 by decide,X5]
   by_cases h:i<0
   ·simp only [h,X5]<;>omega
   ·simp only [h,cH]<;>omega
 ·cases hi with
  |none=>simp [Q9,HT.sIx]
  |some i=>
   simp only [Q9,HT.sIx,eO,show (1:P7)>0 by decide,X5]
   by_cases h:i<0
   ·simp only [h,X5]<;>omega
   ·simp only [h,cH]<;>omega
theorem Jb (its:G0 G2)(lo hi:G7 P7):slicePick its.toArray lo hi none=((its.drop (HT.sIx its.length 0 lo)).take (HT.sIx its.length its.length hi-HT.sIx its.length 0 lo)).toArray:=by
 obtain⟨h1,h2,h3⟩:=JK lo hi its.toArray.size;unfold slicePick;rw [h1,h2,h3];simp only [sliceRange_one,pick_run,P3]<;>rfl
def NB (K:G1):V->G7 P7->G7 P7->Hp->VK->Prop:=λx lo hi H Q=> ∃a xs,x= .ref a/\SqL K H a xs/\ ∀p,H p=none->Q (.ref p) (upd H p (.lst (VF xs lo hi)))
theorem XN:SlR X (NB X.K):=by
 intro pins s σ H x v vl vu lo hi sl Q I rx hs pl pu h;obtain⟨a,xs,rfl,hx,q⟩:=h;cases rx;obtain⟨its,r,ht,hz⟩:=I.list hx;have hlen:=r.length;refine⟨"list",_,slot_list_getitem.lookup,ht.isList.typeIs,?_⟩;refine aR ht.isList hs pl pu .none (by simp) ?_ (by rw [P3]<;>omega);rw [Jb,<-hlen];refine⟨.ref s.heap.objs.size,_,I.laid (t':=s.toks) (o:= .lst (VF xs lo hi)) (λb ob q=>G5 _ q) (G8 _) ?_,rfl,q _ (I.hok.fresh (G8 _))⟩;exact⟨R4 (yJ xs lo hi) hz,_,0,(r.drop (HT.sIx xs.length 0 lo)).take (HT.sIx xs.length xs.length hi-HT.sIx xs.length 0 lo),R9 _ rfl⟩
theorem call_len_seq:CallR X (.builtin "len") (λxs H Q=> ∃p ys,xs= [.ref p]/\(SqL X.K H p ys\/SqT X.K H p ys)/\Q (.int ys.length) H):=by
 intro pins s σ H xs us Q I r h;obtain⟨p,ys,rfl,hq,q⟩:=h;obtain⟨u,rfl,rx⟩:=wP r;cases rx;have hn:=vJ;rcases hq with hq|hq
 ·obtain⟨its,r',pl,hz⟩:=I.list hq;have hlen:=r'.length;exact Calls.call_len_list pl.isList (by simp only [P3]<;>omega) ⟨.int ys.length,H,I.tok _,⟨s.toks+1,by rw [P3,hlen]⟩,q⟩
 ·obtain⟨its,r',pl,hz⟩:=I.tuple hq;have hlen:=r'.length;exact len_tuple pl (by simp only [P3]<;>omega) ⟨.int ys.length,H,I.tok _,⟨s.toks+1,by rw [P3,hlen]⟩,q⟩
theorem call_len_str:CallR X (.builtin "len") (λxs H Q=> ∃z,xs= [.str z]/\z.length<=sizeLine/\Q (.int z.length) H):=by
 intro pins s σ H xs us Q I r h;obtain⟨z,rfl,hz,q⟩:=h;obtain⟨u,rfl,t,rfl⟩:=wP r;have hn:=vJ;exact len_str (by omega) ⟨.int z.length,H,I.tok _,⟨_,rfl⟩,q⟩
theorem call_list_of:CallR X (.type "list") (λxs H Q=> ∃p ys,xs= [.ref p]/\(SqL X.K H p ys\/SqT X.K H p ys)/\ ∀l,H l=none->Q (.ref l) (upd H l (.lst ys))):=by
 intro pins s σ H xs us Q I r h;obtain⟨p,ys,rfl,hq,q⟩:=h;obtain⟨u,rfl,rx⟩:=wP r;cases rx;have fin: ∀ (its:G0 G2),Vals ys its->ys.length<=sizeLine-> ∀ (h':S6) (c':P5),(∀b o',s.heap.get? b=some o'->h'.get? b=some o')->
  h'.get? s.heap.objs.size=some {cls:= .type "list",dict:=none,data:= .seq its.toArray c',slots:= #[]}->EP X pins σ Q (.ref s.heap.objs.size) {s with heap:=h'}:=λits r' hz h' c' kp e=>
  ⟨.ref s.heap.objs.size,_,I.laid (t':=s.toks) kp (G8 _) (show ObjOk X.prog X.w _ h' _ (.lst ys) from ⟨hz,its,c',r',e⟩),rfl,q _ (I.hok.fresh (G8 _))⟩
 rcases hq with hq|hq
 ·obtain⟨its,r',pl,hz⟩:=I.list hq;have hlen:=r'.length;obtain⟨o,ho,hc,n,hd⟩:=pl.isList;exact gJ p (.inl rfl) ho hc hd (λh' c' kp e=>fin its r' hz h' c' kp e) (by simp only [P3]<;>omega)
 ·obtain⟨its,r',pl,hz⟩:=I.tuple hq;have hlen:=r'.length;obtain⟨o,ho,hc,n,hd⟩:=pl;exact gJ p (.inr rfl) ho hc hd (λh' c' kp e=>fin its r' hz h' c' kp e) (by simp only [P3]<;>omega)
theorem call_tuple_of:CallR X (.type "tuple") (λxs H Q=> ∃p ys,xs= [.ref p]/\((SqL X.K H p ys/\ ∀l,H l=none->Q (.ref l) (upd H l (.tup ys)))\/(SqT X.K H p ys/\Q (.ref p) H))):=by
 intro pins s σ H xs us Q I r h;obtain⟨p,ys,rfl,h⟩:=h;obtain⟨u,rfl,rx⟩:=wP r;cases rx;rcases h with ⟨hq,q⟩|⟨hq,q⟩
 ·obtain⟨its,r',pl,hz⟩:=I.list hq;have hlen:=r'.length;refine call_tuple_list pl.isList (λh' kp=> ?_) (by simp only [P3]<;>omega);have I1:Inv X pins σ H {s with heap:=h'}:=I.kept (t':=s.toks) kp;have I2:Inv X pins σ (upd H h'.objs.size (.tup ys)) {s with heap:=h'.push {cls:= .type "tuple",data:= .seq its.toArray}}:=
   I1.laid (t':=s.toks) (λb o e=>G5 _ e) (G8 _) (show ObjOk X.prog X.w _ _ _ (.tup ys) from ⟨hz,its,r',IsTupN.new _ _⟩)
  exact⟨.ref h'.objs.size,_,I2,rfl,q _ (I1.hok.fresh (G8 _))⟩
 ·obtain⟨its,r',pl,hz⟩:=I.tuple hq;exact call_tuple_same pl ⟨.ref p,H,I,rfl,q⟩
def tyV (K:G1)(T:F7)(x:V)(H:Hp):Prop:=match x with
 | .str _=>T= "str"
 | .int _=>T= "int"
 | .ref p=>(T= "list" /\ ∃xs,SqL K H p xs)\/(T= "tuple" /\ ∃o,K.lookup p=some o/\o.cls= .type "tuple" /\o.dict=none)\/
  (T= "dict" /\((∃kvs,H p=some (.dK kvs))\/ ∃kvs,H p=some (.dT kvs)))\/(T= "set" /\ ∃S n,H p=some (.set S n))
 |_=>False
theorem Pc {pins:G0 (G4×Obj)}{σ:St}{H:Hp}{s:G3}{T:F7}{x:V}{v:G2}(I:Inv X pins σ H s)(r:RelV x v)(ty:tyV X.K T x H):
 s.TypeIs v T/\ ∀a,v= .ref a-> ∃ob,s.heap.get? a=some ob/\ob.dict=none:=by
 cases x with
 |str z=>
  obtain⟨t,rfl⟩:=r;cases (show T= "str" from ty);exact⟨fV s z t,λ_ e=>nomatch e⟩
 |int i=>
  obtain⟨t,rfl⟩:=r;cases (show T= "int" from ty);exact⟨bL s i t,λ_ e=>nomatch e⟩
 |ref p=>
  cases r;rcases ty with ⟨rfl,xs,hq⟩|⟨rfl,o,hk,hc,hd⟩|⟨rfl,hk⟩|⟨rfl,S,n,hk⟩
  ·obtain⟨its,_,pl,_⟩:=I.list hq;refine⟨pl.isList.typeIs,λa e=> ?_⟩;cases e;obtain⟨o,n,e,c,hd,_⟩:=pl;exact⟨o,e,hd⟩
  ·refine⟨⟨o,I.kIn p o hk,hc⟩,λa e=> ?_⟩;cases e;exact⟨o,I.kIn _ o hk,hd⟩
  ·have z: ∃o,s.heap.get? p=some o/\o.ExactDict:=by
    rcases hk with ⟨kvs,hk⟩|⟨kvs,hk⟩
    ·obtain⟨_,_,_,_,o,_,_,e,ex,_⟩:=I.hok p _ hk;exact⟨o,e,ex⟩
    ·obtain⟨_,_,_,_,o,_,_,e,ex,_⟩:=I.hok p _ hk;exact⟨o,e,ex⟩
   obtain⟨o,e,ex⟩:=z;refine⟨⟨o,e,ex.1⟩,λa e2=> ?_⟩;cases e2;exact⟨o,e,ex.2.1⟩
  ·obtain⟨o,_,_,_,e,ex,_⟩:=I.hok p _ hk;refine⟨⟨o,e,ex.1⟩,λa e2=> ?_⟩;cases e2;exact⟨o,e,ex.2.1⟩
 |_=>exact False.elim ty
def tBM (K:G1)(T:F7)(r:V->G0 V->Hp->VK->Prop)(to:TE)(t:TA):TE:=λσ H Q=>to σ H λx H1=>tyV K T x H1/\t σ H1 λxs H2=>r x xs H2 Q
variable {o e:D2}{es:G0 D2}{to:TE}{t:TA}{name:Str}{apos cpos:Pos}{T id:F7}{r:V->G0 V->Hp->VK->Prop}
theorem Yw (pa:PlainAttrs T)(slot:Slot T name id)(hty:typeOf (.builtin id)=pure (.type "method_descriptor"))(hm:MtR X id r)(ho:PE X o to)(ha:PA X (e::es) t)
 (hbase:O7 o name X.env (N5 o X.env)=N5 o X.env:=by rfl)
 (hfew:((N6 cpos (G6 (e::es) X.env)).all (λx=> !x.1)&&(Z1 cpos (J4 [] X.env)).all (λx=>x.1.isSome)
  &&decide ((e::es).length+([]:G0 A8).length+(if ([]:G0 A8).isEmpty then 0 else 1)<30))=true:=by rfl)
 (hline:(apos.endLine==cpos.line)=true:=by rfl)(hs:G6 (e::es) X.env=(false,N5 e X.env)::G6 es X.env:=by rfl)(hplain:(N6 cpos (G6 es X.env)).any (·.1)=false:=by rfl):
 PE X (.Call (.Attribute o name apos) (e::es) [] cpos) (tBM X.K T r to t):=by
 intro pins s σ H Q I h;refine wpAny_Call_method_late hbase hfew hline rfl (thn (ho pins s σ H _ I h) λv s1 ⟨x,H1,I1,r1,ty,q1⟩=> ?_);obtain⟨h1,h2⟩:=Pc I1 r1 ty;refine⟨T,id,pa,slot,hty,h1,h2,?_⟩;have hA:=ha cpos pins s1 σ H1 _ I1 q1;rw [hs] at hA ⊢;refine Calls.callWith_builtin (by show (false||(N6 cpos (G6 es X.env)).any (·.1))=false;rw [hplain]<;>rfl) (cI ?_);exact thn hA λus s2 ⟨vs,H2,I2,r2,q2⟩=>hm pins s2 σ H2 x vs v us Q I2 r1 r2 q2
end
def MtM (X:Cx)(id:F7)(r:V->G0 V->Hp->VK->Prop):Prop:=
 ∀ (pins:G0 (G4×Obj)) (s:G3) (σ:St) (H:Hp) (x:V) (xs:G0 V) (v:G2) (us:G0 G2) (Q:VK),Inv X pins σ H s->RelV x v->Vals xs us->r x xs H Q->
  D5 (D8 X.prog X.w) X.A (call (.builtin id) (v::us)) (EP X pins σ Q) X.xe s
theorem Vals.one: ∀ {x:V} {us:G0 G2},Vals [x] us-> ∃u,us= [u]/\RelV x u
 |_,_,.cons r .nil=>⟨_,rfl,r⟩
theorem Vals.rep {xs:G0 V}{us:G0 G2}(h:Vals xs us): ∀k:P5,Vals (D1 k xs).flatten (D1 k us).flatten
 |0=> .nil
 |k+1=>by
  rw [F1,F1,O6,O6];exact Vals.append h (Vals.rep h k)
theorem yL (its:G0 G2): ∀ (k:P5) (acc:G0 G2),
 fW (λx1 x2=>x1++x2) acc.toArray (D1 k its.toArray)=(acc++(D1 k its).flatten).toArray
 |0,acc=>by simp
 |k+1,acc=>by
  have e:acc.toArray++its.toArray=(acc++its).toArray:=by simp
  have e2:(acc++its)++(D1 k its).flatten=acc++(D1 (k+1) its).flatten:=by
   rw [F1,O6,dW]
  rw [<-e2,<-yL its k (acc++its),<-e,F1,List.foldl_cons]
section
variable {X:Cx}{pins:G0 (G4×Obj)}{σ:St}{H:Hp}{s:G3}{l b:G4}{xs ys zs:G0 V}
theorem Inv.lset {its its':G0 G2}{n:P5}{f:F3 G2->F3 G2}{t':P5}(I:Inv X pins σ H s)(hH:H l=some (.lst xs))
 (e:s.heap.get? l=some {cls:= .type "list",data:= .seq its.toArray n})(hf:f its.toArray=its'.toArray)(hv:Vals ys its')(hz:ys.length<=sizeLine):
 Inv X pins σ (upd H l (.lst ys)) {s with heap:=s.heap.update l (bJ f),toks:=t'}:=by
 have q:=PySem.IsL.update e f;rw [hf] at q;refine I.write (x:=l) (e:=l) (by rw [hH];exact trivial) (.inl rfl) (λb' u hb hu=>(bK s.heap (bJ f) (A0 hb)).trans hu) ⟨_,q⟩ ?_;exact⟨hz,its',_,hv,q⟩
theorem Inv.lnew {its:G0 G2}{t':P5}(I:Inv X pins σ H s)(hv:Vals ys its)(hz:ys.length<=sizeLine):
 Inv X pins σ (upd H s.heap.objs.size (.lst ys)) {s with heap:=s.heap.push {cls:= .type "list",data:= .seq its.toArray},toks:=t'}:=
 I.laid (λ_ _ q=>G5 _ q) (G8 _) ⟨hz,its,0,hv,R9 _ rfl⟩
theorem Inv.fresh (I:Inv X pins σ H s):H s.heap.objs.size=none:=I.hok.fresh (G8 _)
theorem Inv.lstM (I:Inv X pins σ H s)(hH:H l=some (.lst xs)):xs.length<=sizeLine/\ ∃ (its:G0 G2) (n:P5),Vals xs its/\xs.length=its.length/\s.heap.get? l=some {cls:= .type "list",data:= .seq its.toArray n}:=by
 obtain⟨z,its,n,r,e⟩:=I.hok l _ hH;exact⟨z,its,n,r,r.length,e⟩
theorem VX {n:P5}(h:n<=sizeLine):K6 n=false:=by
 unfold K6;exact T6 (by omega)
end
section
variable {X:Cx}
def XO:V->G0 V->Hp->VK->Prop:=λx vs H Q=> ∃l xs y,x= .ref l/\vs= [y]/\H l=some (.lst xs)/\xs.length<sizeLine/\Q .non (upd H l (.lst (xs++ [y])))
theorem Yx:MtM X "list.append" XO:=by
 intro pins s σ H x vs v us Q I rx rv h;obtain⟨l,xs,y,rfl,rfl,hH,hz,q⟩:=h;cases rx;obtain⟨u,rfl,ru⟩:=rv.one;obtain⟨z,its,n,r,hl,e⟩:=I.lstM hH;refine Z2 F.slot_list_append ⟨_,e,rfl⟩ F.entry_list_append (F.args_list_append_2 _ _) (PySem.list_append l its.toArray n u (by rw [P3];omega)) ⟨e,?_⟩;refine⟨.non,_,I.lset (its':=its++ [u]) hH e (by simp) (r.append (.cons ru .nil)) ?_,rfl,q⟩;rw [T3,E6];omega
def NC:R2:=λx y H Q=> ∃l b xs zs,x= .ref l/\y= .ref b/\H l=some (.lst xs)/\H b=some (.lst zs)/\xs.length+zs.length<=sizeLine/\ ∀p,H p=none->Q (.ref p) (upd H p (.lst (xs++zs)))
theorem Pd:OpR X (N7 .Add) NC:=by
 intro pins s σ H x y v u Q I rx ry h;obtain⟨l,b,xs,zs,rfl,rfl,hH,hB,hz,q⟩:=h;cases rx;cases ry;obtain⟨z,its,n,r,hl,e⟩:=I.lstM hH;obtain⟨z2,its2,n2,r2,hl2,e2⟩:=I.lstM hB;refine PySem.P.add_list e e2 ?_ (by rw [P3,P3];omega);have ea:its.toArray++its2.toArray=(its++its2).toArray:=by simp
 rw [ea];exact⟨.ref _,_,I.lnew (t':=s.toks) (r.append r2) (by rw [T3];omega),rfl,q _ I.fresh⟩
def ND:R2:=λx y H Q=> ∃l k xs,x= .ref l/\y= .int k/\H l=some (.lst xs)/\ -(2^63)<=k/\k<2^63/\xs.length*k.toNat<=sizeLine/\
 ∀p,H p=none->Q (.ref p) (upd H p (.lst (D1 k.toNat xs).flatten))
theorem ZF {α:Type}(xs:G0 α)(k:P5):(D1 k xs).flatten.length=k*xs.length:=by
 induction k with
 |zero=>simp
 |succ k ih=>rw [F1,O6,T3,ih,dX,Nat.add_comm]
theorem Pe:OpR X (N7 .Mult) ND:=by
 intro pins s σ H x y v u Q I rx ry h;obtain⟨l,k,xs,rfl,rfl,hH,h1,h2,hz,q⟩:=h;cases rx;obtain⟨t,rfl⟩:=ry;obtain⟨z,its,n,r,hl,e⟩:=I.lstM hH;have hlen:its.toArray.size*k.toNat<=sizeLine:=by rw [P3,<-hl];exact hz
 have hcap: ¬its.toArray.size*k.toNat>(2^63-1) / 8:=by
  have:(sizeLine:P5)<=(2^63-1) / 8:=by decide
  omega
 have hfit: ¬ (!fX k)=true:=by
  rw [fitsIndex_both h1 h2];exact P4
 have hlong: ¬K6 (its.toArray.size*k.toNat)=true:=by
  rw [VX hlen];exact P4
 have hnew:fW (λx1 x2=>x1++x2) #[] (D1 (if its.toArray.isEmpty=true then 0 else k.toNat) its.toArray)=(D1 k.toNat its).flatten.toArray:=by
  have f0: ∀m:P5,fW (λx1 x2=>x1++x2) #[] (D1 m its.toArray)=(D1 m its).flatten.toArray:=λm=>by
   have:=yL its m [];rw [M9] at this;exact this
  rw [f0];cases its with
  |nil=>simp
  |cons a r'=>rw [S9 (by simp)]
 refine aE (T:= "list") (U:= "int") (by decide) ⟨_,e,rfl⟩ (λs'=>bL s' k t) noFill_list_mul fH W7 repeat_list F.slot_int_index.lookup
  (Z2 W7 (bL s k t) eQ (dY _ _) (int___rmul___int_list k t l its.toArray n)
   ⟨e,rfl,⟨_,e,rfl⟩,Z2 F.slot_list_mul ⟨_,e,rfl⟩ F.entry_list_mul (F.args_list_mul_2 _ _) (AutoListH.list___mul___list_int_3 l its.toArray n k t hfit hcap hlong) ⟨e,?_⟩⟩)
 rw [hnew];exact⟨.ref _,_,I.lnew (t':=s.toks) (r.rep k.toNat) (by rw [ZF,dZ];exact hz),rfl,q _ I.fresh⟩
end
end L2
namespace Att
open PySem PySem.W PySem.Calls PyProof.Rows
theorem yM {P:lB}{h:S6}: ∀ (ns:G0 P7) (vs:G0 G2),WellAll P h vs (ns.map WData.int)->fL vs ns:=by
 intro ns
 induction ns with
 |nil=>
  intro vs w;rw [B9] at w;cases w;exact .nil
 |cons n ns ih=>
  intro vs w;rw [T4] at w;cases w with
  |cons a b=>
   cases a;exact .cons _ _ (ih _ b)
theorem Yy {l:OpenLaw}{n:P5}(hn:l.most=some n){P:lB}{h:S6}{args:G0 WData}{vals:G0 G2}
 (hpre:l.row.toRowW.claim.pre args=true)(hwl:WellAll P h vals args):
 ∃a vs ns,vals= [J6 a]/\args= [WData.list (ns.map WData.int)]/\h.get? a=some {cls:= .type "list",data:= .seq vs.toArray}/\fL vs ns/\ns.length<=n:=by
 have hsh:WShape.hasAll [] args [.list .int]=true:=(pre_splitW hpre).1;have hc:l.pre.holds [] {args:=args}=true:=(pre_splitW hpre).2;obtain⟨d,r,rfl,h1,h2⟩:=hasAllW_cons hsh;obtain rfl:=hasAllW_nil h2;obtain⟨xs,rfl,h3⟩:=hasW_list h1;obtain⟨ns,rfl⟩:=items_int h3;have hlen:ns.length<=n:=by
  unfold OpenLaw.pre at hc;have h4:(WTm.not (.lt (.lit (.int (n:P7))) (.len (.arg 0)))).holds [] {args:= [.list (ns.map .int)]}=true:=by
   have h4:=(holds_andW hc).1;rw [hn] at h4;exact h4
  have h5:=condW_of h4 (w_not (w_lt w_lit (w_len_list (w_arg rfl))));rw [G9] at h5;refine Nat.le_of_not_lt λq=> ?_
  have q':(n:P7)<((ns.length:P5):P7):=by omega
  first
   |(rw [R5 q'] at h5;exact absurd h5 (by decide))
   |(simp at h5;omega)
 cases hwl with
 |cons w1 w2=>
  cases w2;cases w1 with
  |list ho hall=>exact⟨_,_,ns,rfl,rfl,ho,yM ns _ hall,hlen⟩
theorem Yz (l:OpenLaw)(args:G0 WData):l.row.toRowW.claim.post args (.bool true) args=true:=
 postW_of (r:=l.row.toRowW) (X:=(true==true))
  (show WShape.has [] (.bool true) .bool=true by first|rfl|decide|simp [WShape.has,WShape.arms,WShape.armsAll])
  (show (WTm.eq .res (.lit (.bool true))).value [] {args:=args,res:=some (.bool true),after:=args}=some (.bool (true==true)) from w_eq_bool (w_res rfl) w_lit) rfl
theorem attach_call {l:OpenLaw}{n:P5}{q:D6}{loose:G0 Str}{XP:(Str->G7 G2)->S6->Prop}{YP:S7->S6->Prop}{d:DefRec}
 (hn:l.most=some n)(hdf:d.params.defaults= [])
 (call: ∀ (w:S7) (s₀ lJ:G3) (mg mb:Str->G7 G2) (fa:G4) (o:Obj) (pm cd doc:G2) (a:G4) (vs:G0 G2) (ns:G0 P7),
  Ground q loose [] XP w s₀ mg mb lJ.heap->YP w lJ.heap->
  lJ.heap.get? fa=some o->o.data= .func (docDef d.name d.params d.body d.scope pm cd doc)->lJ.heap.CodeRec cd d.name->mg d.name=some (.ref fa)->
  lJ.heap.get? a=some {cls:= .type "list",data:= .seq vs.toArray}->fL vs ns->ns.length<=n->lJ.gens= #[]->
  K8 (D8 l.prog w) cU (.call (.ref fa) ⟨[.ref a],[]⟩) (λr s'=>r= .ok (.ret (.bool true))/\OldK lJ.heap s'.heap/\s'.os=lJ.os/\X3 s'.gens) lJ):
 WalkO q loose XP YP l.row.toRowW d [] (λf vs=>i9 f vs):=by
 intro w s₀ lJ mg mb G Y fa o pm cd doc dV kV ho hd hcd hD hmg hg args vals as hpre hlay hrd hwl hlo;obtain rfl:dV= .none:=Dflts.none hD hdf;obtain rfl:kV= .none:=Dflts.noKw hD;obtain⟨a,vs,ns,rfl,rfl,hobj,hints,hlen⟩:=Yy hn hpre hwl;refine enter_call (U4 (call w s₀ lJ mg mb fa o pm cd doc a vs ns G Y ho (fd_plain hd) hcd hmg hobj hints hlen hg) λr s' hq=> ?_);obtain⟨rfl,h2,h3,h4⟩:=hq;exact⟨.inl ⟨.bool true,.bool true,[],rfl,λ_=>rfl,.bool true,Yz l _,λ_=>⟨List.Pairwise.nil,λ_ hm=>(nomatch hm)⟩⟩,h2,h3,h4⟩
end Att
namespace L2
open PySem PySem.Spec PyProof.Rows
theorem JL: ∀ {vs:G0 G2} {ns:G0 P7},fL vs ns->Vals (ns.map V.int) vs
 |_,_,.nil=> .nil
 |_,_,.cons n t h=> .cons ⟨t,rfl⟩ (JL h)
def zS (s:N2):cT:=match s with
 | .FunctionDef _ a _ _ _ _ _ _ _ _=>a
 |_=> {posonlyargs:= [],args:= [],vararg:=none,kwonlyargs:= [],kw_defaults:= [],kwarg:=none,defaults:= []}
def jB (s:N2):G0 N2:=match s with
 | .FunctionDef _ _ b _ _ _ _ _ _ _=>b
 |_=> []
def ja (s:N2):N4:=match s with
 | .FunctionDef _ _ _ _ _ _ sc _ _ _=>sc
 |_=> {kind:= .function,names:= [],isGenerator:=false,isCoroutine:=false}
abbrev CX0:CXT:=λ_ _ _ _ _ _=>False
abbrev E0:XK:=λ_ _ _=>False
variable {X:Cx}
theorem XQ:yG CX0 X E0:=λ_ _ _ _ _ _ _ h=>h.elim
structure Fun (K:G1)(x qual:Str)(st:N2)(f:G4)(fd:D4):Prop where
 ex: ∃ (oc:G2) (od:G7 G4) (kV doc pm:G2) (an:G7 G4) (cdv ct:G2) (osl:F3 (G7 G2)),
  fd=L4 x qual (zS st) (jB st) (ja st) .none kV doc pm an cdv ct/\K.lookup f=some ⟨oc,od,.func fd,osl⟩/\U5 K cdv qual=true
 kp:N8 K (.ref f)=true
section
variable {P:D6}{w:S7}{K:G1}{mg:Str->G7 G2}{base:S6}
variable {qual:Str}
theorem Fun.ok {x:Str}{st:N2}{f:G4}{fd:D4}{N ps:G0 Str}{k:P5}{sp:Sp}(F:Fun K x qual st f fd)(S:FnScope N ps (ja st))(len: ∀vs H Q E,sp vs H Q E->vs.length=ps.length)
 (hbody: ∀ (cdv:G2) (A:R8) (outer:G0 Env) (s:G3) (H:Hp) (vs:G0 V) (Q:VK) (E:XK),Room k (A.deeper (B1 qual (ja st) s.heap.objs.size f cdv))->sp vs H Q E->
  ∃t,PSs (vx CX0 P w K mg base N qual (ja st) f cdv A outer s H E).nox (jB st) t/\t {nx:=λ_ H'=>Q .non H',rt:=Q} (za N vs) H):FnOk P w K mg base CX0 (k+1) f fd ps sp:=by
 obtain⟨oc,od,kV,doc,pm,an,cdv,ct,osl,rfl,lk,hcd⟩:=F.ex;refine XI lk hcd S len λA outer s H vs Q E hr hsp=> ?_
 obtain⟨t,h,q⟩:=hbody cdv A outer s H vs Q E hr hsp;exact⟨t,h.nox,q⟩
theorem Fun.binds {x:Str}{st:N2}{f:G4}{fd:D4}{ps:G0 Str}(F:Fun K x qual st f fd)
 (h: ∀ (kV doc pm:G2) (an:G7 G4) (cdv ct:G2) (us:G0 G2),us.length=ps.length->fT (L4 x qual (zS st) (jB st) (ja st) .none kV doc pm an cdv ct) ⟨us,[]⟩=pure (ps.zip us)):Binds K fd ps []:=by
 obtain⟨oc,od,kV,doc,pm,an,cdv,ct,osl,rfl,lk,hcd⟩:=F.ex;exact .all (h kV doc pm an cdv ct)
theorem Pf {x:Str}{st:N2}{f:G4}{oc:G2}{od an:G7 G4}{osl:F3 (G7 G2)}{kV doc pm cdv ct:G2}(l:K.lookup f=some ⟨oc,od,.func (L4 x qual (zS st) (jB st) (ja st) .none kV doc pm an cdv ct),osl⟩)
 (c:U5 K cdv qual=true)(k:N8 K (.ref f)=true):Fun K x qual st f (L4 x qual (zS st) (jB st) (ja st) .none kV doc pm an cdv ct):=⟨⟨oc,od,kV,doc,pm,an,cdv,ct,osl,rfl,l,c⟩,k⟩
end
theorem jQ {n:P5}(h:n<=1000):n<sizeLine:=A9 h (by decide)
theorem vy {A B:Prop}(h:B):if false=true then A else B:=by
 rw [S9 P4];exact h
theorem VY {A B:Prop}(h:A):if true=true then A else B:=by
 rw [S1 rfl];exact h
theorem Wd {c A B:Prop}[Decidable c](h1:c->A)(h2: ¬c->B):if c then A else B:=by
 by_cases h:c
 ·rw [S1 h];exact h1 h
 ·rw [S9 h];exact h2 h
section
variable {κ:Type}[DecidableEq κ]
def UU (kvs:G0 (κ×V))(k:κ)(v:V):G0 (κ×V):=
 if (kvs.any λkv=>decide (kv.1=k))=true then kvs.map (λkv=>if kv.1=k then (kv.1,v) else kv) else kvs++ [(k,v)]
theorem ZG (kvs:G0 (κ×V))(k:κ)(v:V):(UU kvs k v).length<=kvs.length+1:=by
 unfold UU;split
 ·rw [G9];omega
 ·rw [T3,R1,T1];omega
theorem KV.any {kvs:G0 (κ×V)}{vs:G0 (κ×G2)}(r:KV kvs vs)(k:κ):(kvs.any λkv=>decide (kv.1=k))=vs.any λkv=>decide (kv.1=k):=by
 unfold KV at r
 induction r with
 |nil=>rfl
 |cons h t ih=>rw [gK,gK,ih,h.1]
theorem KV.repl {kvs:G0 (κ×V)}{vs:G0 (κ×G2)}(r:KV kvs vs)(k:κ){y:V}{u:G2}(ry:RelV y u):
 KV (kvs.map λkv=>if kv.1=k then (kv.1,y) else kv) (vs.map λkv=>if kv.1=k then (kv.1,u) else kv):=by
 unfold KV at r ⊢
 induction r with
 |nil=>exact .nil
 | @cons p q ps qs h t ih=>
  rw [T4,T4];refine .cons ?_ ih;obtain⟨h1,h2⟩:=h
  by_cases e:p.1=k
  ·rw [S1 e,S1 (h1.symm.trans e)];exact⟨h1,ry⟩
  ·rw [S9 e,S9 (λz=>e (h1.trans z))];exact⟨h1,h2⟩
theorem KV.put {kvs:G0 (κ×V)}{vs:G0 (κ×G2)}(r:KV kvs vs)(k:κ){y:V}{u:G2}(ry:RelV y u):KV (UU kvs k y) (lC vs k u):=by
 unfold UU lC;rw [r.any k]
 by_cases e:(vs.any λkv=>decide (kv.1=k))=true
 ·rw [S1 e,S1 e];exact r.repl k ry
 ·rw [S9 e,S9 e];exact Paired.snoc r ⟨rfl,ry⟩
end
variable {P:D6}{w:S7}
theorem Rw {k:Key}{u:G2}(r:RelV (kV k) u):(zm P w).is k u=true:=by
 cases k with
 |inl i=>obtain⟨t,e⟩:=(show ∃t,u=aU i t from r);subst e;exact ZB P w i t
 |inr x=>obtain⟨t,e⟩:=(show ∃t,u=X7 x t from r);subst e;exact ZC P w x t
section
variable {P:D6}{w:S7}{H:Hp}{h:S6}{a:G4}
theorem Rx {u:HO}(ok:HOk P w H h)(e:Rd H a u):ObjOk P w H h a u:=e.ok ok
theorem Ry {kvs:G0 (Key×V)}(ok:HOk P w H h)(e:Rd H a (.dK kvs)):kvs.length<=sizeLine/\(a==Q1)=false/\ ∃vs,KV kvs vs/\h.DictOf (zm P w) a vs:=
 show ObjOk P w H h a (.dK kvs) from Rx ok e
theorem RA {kvs:G0 (Key×V)}(ok:HOk P w H h)(e:H a=some (.dK kvs)):kvs.length<=sizeLine/\(a==Q1)=false/\ ∃vs,KV kvs vs/\h.DictOf (zm P w) a vs:=Ry ok (.inl e)
end
section
variable {X:Cx}{pins:G0 (G4×Obj)}{σ:St}{H:Hp}{s:G3}{a:G4}{y v:V}{u r:G2}{o:G7 V}{A:R8}{E:G2->G3->Prop}
theorem Inv.big (I:Inv X pins σ H s):Q1<s.heap.objs.size:=by
 have h:mainGlobals<s.heap.objs.size:=(I.mod.glob.keeps I.bk).lt;exact U7 (by decide) h
theorem XR {h':S6}{t':P5}{ob:HO}(I:Inv X pins σ H s)(mu:Mut (H a))(hs:X4 a s.heap h')(he: ∃q,h'.get? a=some q)(new:ObjOk X.prog X.w (upd H a ob) h' a ob):
 Inv X pins σ (upd H a ob) {s with heap:=h',toks:=t'}:=
 I.write (x:=a) (e:=a) mu (.inl rfl) (λb q hb z=>(hs.2 b hb).trans z) he new
theorem Pg {P:D6}{w:S7}{H':Hp}{h':S6}{kvs:G0 (Key×V)}{vs:G0 (Key×G2)}(z:kvs.length<=sizeLine)(hd:(a==Q1)=false)(rel:KV kvs vs)(dd:h'.DictOf (zm P w) a vs):
 ObjOk P w H' h' a (.dK kvs):=⟨z,hd,vs,rel,dd⟩
end
variable {H:Hp}
theorem VZ (h:S6)(hb:Q1<h.objs.size):ObjOk P w H (h.push {cls:= .type "dict",data:= .dict #[]}) h.objs.size (.dK []):=
 ⟨U0 _,beq_eq_false_iff_ne.mpr (A0 (R3 hb)),[],.nil,Heap.DictOf.new h⟩
def YA:G0 (TE×TE)->St->Hp->(G0 (V×V)->Hp->Prop)->Prop
 | [],_,H,Q=>Q [] H
 |(tk,tv)::r,σ,H,Q=>tk σ H λx H1=>tv σ H1 λy H2=>YA r σ H2 λps H3=>Q ((x,y)::ps) H3
abbrev VV:G0 (V×V)->G0 (G2×G2)->Prop:=Paired λp q=>RelV p.1 q.1/\RelV p.2 q.2
def PPs (X:Cx)(pos:Pos)(keys:G0 (G7 D2))(values:G0 D2)(trs:G0 (TE×TE)):Prop:=
 ∀ (pins:G0 (G4×Obj)) (s:G3) (σ:St) (H:Hp) (Q:G0 (V×V)->Hp->Prop),Inv X pins σ H s->YA trs σ H Q->
  D5 (D8 X.prog X.w) X.A (evalPairs (pairTrees keys values X.env pos)) (λvs s'=> ∃ps H',Inv X pins σ H' s'/\VV ps vs/\Q ps H') X.xe s
variable {pos:Pos}
theorem XS:PPs X pos [] [] []:=λpins s σ H Q I h=>pairTrees_nil_walk ⟨[],H,I,.nil,h⟩
theorem Ua {k v:D2}{ks:G0 (G7 D2)}{vs:G0 D2}{tk tv:TE}{trs:G0 (TE×TE)}(hk:PE X k tk)(hv:PE X v tv)(hr:PPs X pos ks vs trs):
 PPs X pos (some k::ks) (v::vs) ((tk,tv)::trs):=λpins s σ H Q I h=>
 pairTrees_cons_walk (thn (hk pins s σ H _ I h) λu s1 ⟨x,H1,I1,rx,q1⟩=>thn (hv pins s1 σ H1 _ I1 q1) λw2 s2 ⟨y,H2,I2,ry,q2⟩=>
  thn (hr pins s2 σ H2 _ I2 q2) λws s3 ⟨ps,H3,I3,rel,q3⟩=>⟨(x,y)::ps,H3,I3,.cons ⟨rx,ry⟩ rel,q3⟩)
def JM (kvs more:G0 (Key×V)):G0 (Key×V):=more.foldl (λacc kv=>UU acc kv.1 kv.2) kvs
theorem KV.merge: ∀ {more:G0 (Key×V)} {rs:G0 (Key×G2)} {kvs:G0 (Key×V)} {vs:G0 (Key×G2)},KV more rs->KV kvs vs->KV (JM kvs more) (merged vs rs):=by
 intro more rs kvs vs r;unfold KV at r
 induction r generalizing kvs vs with
 |nil=>intro q;exact q
 | @cons p q ps qs h t ih=>
  intro r0;have e:KV (UU kvs p.1 p.2) (lC vs q.1 q.2):=by
   have:=r0.put p.1 h.2;rw [<-h.1];exact this
  exact ih e
theorem wQ: ∀ (more kvs:G0 (Key×V)),(JM kvs more).length<=kvs.length+more.length
 | [],kvs=>by show kvs.length<=kvs.length+0;omega
 |p::r,kvs=>by
  have h1:=wQ r (UU kvs p.1 p.2);have h2:=ZG kvs p.1 p.2;show (JM (UU kvs p.1 p.2) r).length<=_;rw [R1];omega
theorem vL {P:D6}{w:S7}: ∀ {kvs:G0 (Key×V)} {ws:G0 (G2×G2)},VV (kvs.map λkv=>(kV kv.1,kv.2)) ws-> ∃rs,Carries (zm P w) ws rs/\KV kvs rs
 | [],_,r=>by rw [B9] at r;cases r;exact⟨[],E9,.nil⟩
 |p::kvs,_,r=>by
  rw [T4] at r;cases r with
  | @cons a b as bs h t=>
   obtain⟨rs,c,q⟩:=vL (P:=P) (w:=w) t;obtain⟨b1,b2⟩:=b;exact⟨(p.1,b2)::rs,⟨Rw h.1,rfl,c⟩,.cons ⟨rfl,h.2⟩ q⟩
def RB (trs:G0 (TE×TE)):TE:=λσ H Q=> ∀p,H p=none->YA trs σ (upd H p (.dK [])) λps H2=>H2 p=some (.dK [])/\ ∃kvs:G0 (Key×V),ps=kvs.map (λkv=>(kV kv.1,kv.2))/\kvs.length<=15/\Q (.ref p) (upd H2 p (.dK (JM [] kvs)))
theorem XT {keys:G0 (G7 D2)}{values:G0 D2}{trs:G0 (TE×TE)}(h:PPs X pos keys values trs)(hall:keys.all (·.isSome)=true)(hl:keys.length=values.length)(h0:keys≠ [])
 (h15:keys.length<=15):PE X (.Dict keys values pos) (RB trs):=by
 intro pins s σ H Q I q;have hn:=I.hok.fresh (G8 s.heap.objs.size);have I1:=I.laid (a:=s.heap.objs.size) (o:= .dK []) (h':=s.heap.push {cls:= .type "dict",data:= .dict #[]}) (t':=s.toks) (λ_ _ q=>G5 _ q) (G8 _) (VZ s.heap I.big);refine wpAny_Dict_walk (knd:=zm X.prog X.w) hall hl h0 h15 (thn (h pins _ σ _ _ I1 (q _ hn)) λws s2 ⟨ps,H2,I2,rel,e,kvs,ep,lk,q2⟩=> ?_);subst ep;obtain⟨rs,c,rk⟩:=vL (P:=X.prog) (w:=X.w) rel;obtain⟨z,hd,vs0,r0,dd⟩:=RA I2.hok e;cases r0;refine⟨rs,c,dd,λh' dd' hs=>⟨.ref s.heap.objs.size,_,?_,rfl,q2⟩⟩;have hz:(JM [] kvs).length<=sizeLine:=by
  have h1:=wQ kvs [];rw [T1] at h1;rw [cE];omega
 have he: ∃q,h'.get? s.heap.objs.size=some q:=let ⟨q,_,_,hq,_⟩:=dd';⟨q,hq⟩;exact XR I2 (by rw [e];exact E9) hs he (Pg hz hd (rk.merge .nil) dd')
def zn (names:G0 (Str×NameKind))(env:Env)(cs:G0 (Str×G4)):G0 (Str×G4):=
 names.foldl (λcs p=>if p.2= .free then (match env.cells.lookup p.1 with|some c=>(p.1,c)::cs|none=>cs) else cs) cs
theorem jR (p:Str×NameKind)(l:G0 (Str×NameKind))(env:Env)(cs:G0 (Str×G4)):
 zn (p::l) env cs=zn l env (if p.2= .free then (match env.cells.lookup p.1 with|some c=>(p.1,c)::cs|none=>cs) else cs):=rfl
variable {env:Env}
theorem yN {f:Str×NameKind->G0 (Str×G4)->Sem (ForInStep (G0 (Str×G4)))}
 (h1: ∀p cs,p.2≠ .free->f p cs=pure (.yield cs))(h2: ∀p cs c,p.2= .free->env.cells.lookup p.1=some c->f p cs=pure (.yield ((p.1,c)::cs))):
 ∀ (l:G0 (Str×NameKind)) (cs:G0 (Str×G4)),(∀p∈l,p.2= .free-> ∃c,env.cells.lookup p.1=some c)->forIn l cs f=pure (zn l env cs)
 | [],cs,_=>rfl
 |p::l,cs,h=>by
  have ih:=yN h1 h2 l
  by_cases hp:p.2= .free
  ·obtain⟨c,hc⟩:=h p P8 hp;rw [bW,h2 p cs c hp hc,pure_bind];show forIn l ((p.1,c)::cs) f=_;rw [ih _ λq hq=>h q (P9 _ hq),jR,S1 hp,hc]
  ·rw [bW,h1 p cs hp,pure_bind];show forIn l cs f=_;rw [ih _ λq hq=>h q (P9 _ hq),jR,S9 hp]
variable {scope:N4}
theorem Jc (h: ∀p∈scope.names,p.2= .free-> ∃c,env.cells.lookup p.1=some c):Z3 scope env=pure (zn scope.names env []):=by
 simp only [Z3];rw [yN (env:=env) (λp cs hp=> ?_) (λp cs c hp hc=> ?_) _ _ h]
 ·rfl
 ·obtain⟨n,k⟩:=p;have hb:(k==T5)=false:=by simpa using hp
  simp only [hb,Bool.false_eq_true,cH]
 ·obtain⟨n,k⟩:=p;have hb:(k==T5)=true:=by simpa using hp
  have hc':env.cells.lookup n=some c:=hc;simp only [hb,X5,lD,hc',pure_bind]
theorem yO: ∀ (l:G0 (Str×NameKind)) (cs:G0 (Str×G4)),(∀p∈cs,env.cells.lookup p.1=some p.2)-> ∀p∈zn l env cs,env.cells.lookup p.1=some p.2
 | [],cs,h,p,hp=>h p hp
 |q::l,cs,h,p,hp=>by
  rw [jR] at hp;refine yO l _ (λr hr=> ?_) p hp
  by_cases hq:q.2= .free
  ·rw [S1 hq] at hr;cases e:env.cells.lookup q.1 with
   |none=>rw [e] at hr;exact h r hr
   |some c=>
    rw [e] at hr;rcases P0.mp hr with rfl|hr
    ·exact e
    ·exact h r hr
  ·rw [S9 hq] at hr;exact h r hr
theorem yP: ∀ (l:G0 (Str×NameKind)) (cs:G0 (Str×G4)),∀p∈cs,p∈zn l env cs
 | [],cs,p,hp=>hp
 |q::l,cs,p,hp=>by
  rw [jR];refine yP l _ p ?_
  by_cases hq:q.2= .free
  ·rw [S1 hq];cases e:env.cells.lookup q.1 with
   |none=>exact hp
   |some c=>exact P9 _ hp
  ·rw [S9 hq];exact hp
variable {x:Str}
theorem yQ {c:G4}(hc:env.cells.lookup x=some c): ∀ (l:G0 (Str×NameKind)) (cs:G0 (Str×G4)),(x,T5)∈l->(x,c)∈zn l env cs
 |q::l,cs,h=>by
  rw [jR];rcases P0.mp h with e|h
  ·subst e;rw [S1 rfl,hc];exact yP l _ _ P8
  ·exact yQ hc l _ h
variable {α:Type}
theorem jZ: ∀ {l:G0 (Str×α)} {x:Str} {c:α},l.lookup x=some c->(x,c)∈l
 | [],_,_,h=>by simp at h
 |(n,k)::r,x,c,h=>by
  rw [M2] at h;cases hx:x==n with
  |true=>
   rw [hx] at h;have e:x=n:=eq_of_beq hx;cases h;subst e;exact P8
  |false=>rw [hx] at h;exact P9 _ (jZ h)
theorem vM: ∀ {l:G0 (Str×α)} {x:Str} {c:α},(x,c)∈l-> ∃c',l.lookup x=some c'
 |(n,k)::r,x,c,h=>by
  rw [M2];cases hx:x==n with
  |true=>exact⟨_,rfl⟩
  |false=>
   rcases P0.mp h with e|h
   ·cases e;simp at hx
   ·exact vM h
theorem vN {l:G0 (Str×NameKind)}{c:G4}(h:(zn l env []).lookup x=some c):env.cells.lookup x=some c:=
 yO l [] (λ_ z=>nomatch z) (x,c) (jZ h)
theorem YB {l:G0 (Str×NameKind)}{c:G4}(hc:env.cells.lookup x=some c)(h:(x,T5)∈l):(zn l env []).lookup x=some c:=by
 obtain⟨c',e⟩:=vM (yQ hc l [] h);have:=vN e;rw [hc] at this;cases this;exact e
theorem zC {κ:Type}{f:Str×κ->Str×κ}{g:Str->κ->κ}(hf: ∀n k,f (n,k)=(n,g n k))(x:Str): ∀l:G0 (Str×κ),(l.map f).lookup x=(l.lookup x).map (g x)
 | []=>rfl
 |(n,k)::r=>by
  rw [T4,hf,M2,M2,zC hf x r];cases same:x==n with
  |false=>rfl
  |true=>rw [eq_of_beq same];rfl
theorem jE {names:G0 (Str×NameKind)}{k:NameKind}(found:
 (names.map λ(n,k)=>if (k==T5&&env.scope.kind== .function&&env.kindOf n==some .cell) then (n,O8) else (n,k)).lookup x=some k):
  names.lookup x=some k\/names.lookup x=some .free:=by
 rw [zC (g:=λn k=>if (k==T5&&env.scope.kind== .function&&env.kindOf n==some .cell) then .cell else k) (λn k=>by dsimp only;split<;>rfl)] at found;obtain⟨k0,was,now⟩:=E1.mp found;split at now
 ·rename_i c;simp only [D9,beq_iff_eq] at c;exact .inr (by rw [was,c.1.1])
 ·exact .inl (by rw [was,now])
theorem jX: ∀ (names:G0 (Str×NameKind)) (n:P5) (acc:G0 (Str×G4)) (p:Str×G4),p∈B6 n names acc->p∈acc\/(n<=p.2/\(p.1,O8)∈names)
 | [],_,_,_,h=> .inl h
 |(x,k)::r,n,acc,p,h=>by
  unfold B6 at h;split at h
  ·rename_i hk;rcases jX r (n+1) _ p h with z|⟨z1,z2⟩
   ·rcases P0.mp z with e|z
    ·subst e;have:k= .cell:=by simpa using hk
     subst this;exact .inr ⟨G8 _,P8⟩
    ·exact .inl z
   ·exact .inr ⟨by omega,P9 _ z2⟩
  ·rcases jX r n acc p h with z|⟨z1,z2⟩
   ·exact .inl z
   ·exact .inr ⟨z1,P9 _ z2⟩
theorem jx: ∀ (names:G0 (Str×NameKind)) (n:P5) (acc:G0 (Str×G4)),B6 n names acc=B6 n names []++acc
 | [],_,_=>rfl
 |(x,k)::r,n,acc=>by
  unfold B6;split
  ·rw [jx r (n+1) ((x,n)::acc),jx r (n+1) [(x,n)],dW];rfl
  ·exact jx r n acc
theorem yh (l l':G0 (Str×α))(x:Str):(l++l').lookup x=(match l.lookup x with|some c=>some c|none=>l'.lookup x):=by
 induction l with
 |nil=>rfl
 |cons p l ih=>
  obtain⟨n,c⟩:=p;rw [M3,M2,M2];cases x==n with
  |true=>rfl
  |false=>exact ih
theorem wD {names:G0 (Str×NameKind)}(here:names.lookup x=some .cell):
 (names.map λ(n,k)=>if (k==T5&&env.scope.kind== .function&&env.kindOf n==some .cell) then (n,O8) else (n,k)).lookup x=some .cell:=by
 rw [zC (g:=λn k=>if (k==T5&&env.scope.kind== .function&&env.kindOf n==some .cell) then .cell else k) (λn k=>by dsimp only;split<;>rfl),here];simp
section
variable {M:bV}{A:R8}{E:G2->G3->Prop}{s:G3}
theorem WG (h:S6)(names:G0 (Str×NameKind)):(∀n c,(n,c)∈B6 h.objs.size names []->(pushCells h names).IsCell c none/\h.objs.size<=c)/\(B6 h.objs.size names []).Pairwise λx y=>x.2≠y.2:=
 have laid:=cellsFrom_ok names h h.objs.size [] ⟨by simp,.nil⟩ (G8 _)
 ⟨laid.empty,laid.apart⟩
theorem JN {scope:N4}{globals:G4}{closure:G0 (Str×G4)}{qual:Str}{func:G7 G4}{code:G2}{outer:Env}{builtins:G4}{Q:Env->G3->Prop}
 (hQ: ∀h',h'.Ns s.heap.objs.size (λ_=>none)->(∀b o,s.heap.get? b=some o->h'.get? b=some o)->(∀n c,(n,c)∈B6 (s.heap.objs.size+1) scope.names []->h'.IsCell c none/\s.heap.objs.size+1<=c)->
  ((B6 (s.heap.objs.size+1) scope.names []).Pairwise λx y=>x.2≠y.2)->
  Q (newEnv scope s.heap.objs.size globals (B6 (s.heap.objs.size+1) scope.names closure) qual func code (some outer) builtins) {s with heap:=h'}):
 D5 M A (fY scope globals closure [] qual func code (some outer) builtins) Q E s:=by
 have names:=WG (s.heap.push {cls:= .type "dict",data:= .dict #[]}) scope.names;have first:(s.heap.push {cls:= .type "dict",data:= .dict #[]}).objs.size=s.heap.objs.size+1:=fZ ..
 rw [first] at names;unfold fY;refine wpAny_bind (wpAny_alloc (wpAny_bind (wpAny_layCells _ (λn k cs=>rfl) _ _ _ _ ?_)));simp only [Option.isSome_some,X5];rw [first];exact wpAny_bind (P1 (P1 (hQ _ ((Heap.Ns.new _ _).keeps (fI _ _)) (λb o here=>fI _ _ b o (G5 _ here)) names.1 names.2)))
end
def ju (X:Cx)(scope:N4)(C:G4):G0 (Str×G4):=B6 (C+1) scope.names (zn scope.names X.env [])
def yR (X:Cx)(scope:N4)(C:G4)(s₀:G3)(H₀:Hp)(ex:G0 G4):Cx:=
 {X with s₀:=s₀,H₀:=H₀,env:=f6 scope (ju X scope C) C X.env,outer:=X.stack,ex:=ex,fn:=λx=>scope.names.lookup x==some .cell,pn:= [],xe:=λ_ _=>False}
def jw (X:Cx)(scope:N4)(X':Cx):Prop:= ∃C s₀ H₀ ex,X'=yR X scope C s₀ H₀ ex
structure BlockOk (X:Cx)(scope:N4)(js:G0 P5):Prop where
 kind:scope.kind= .function
 locs: ∀p∈scope.names,p.2= .local->scope.names.lookup p.1=some .local
 cels: ∀p∈scope.names,p.2= .cell->scope.names.lookup p.1=some .cell
 free: ∀p∈scope.names,p.2= .free->X.env.scope.names.lookup p.1=some .cell\/X.env.scope.names.lookup p.1=some .free
 js: ∀ (i:P5) (x:Str),X.N[i]? =some x->(scope.names.lookup x=some .local\/scope.names.lookup x=some .cell)->i∈js
variable {js:G0 P5}
theorem zv (S:BlockOk X scope js){C:G4}{x:Str}{c:G4}(h:(ju X scope C).lookup x=some c):
 (scope.names.lookup x≠some .cell/\X.env.cells.lookup x=some c)\/(scope.names.lookup x=some .cell/\(x,c)∈B6 (C+1) scope.names []):=by
 unfold ju at h;rw [jx,yh] at h;cases e:(B6 (C+1) scope.names []).lookup x with
 |some d=>
  rw [e] at h;cases h;have m:=jZ e;rcases jX _ _ _ _ m with z|⟨_,z⟩
  ·exact absurd z (by simp)
  ·exact .inr ⟨S.cels _ z rfl,m⟩
 |none=>
  rw [e] at h;refine .inl ⟨λz=> ?_,vN h⟩;obtain⟨d,hd⟩:=wq (sc:=scope) (n:=C+1) z;rw [e] at hd;cases hd
theorem yp (S:BlockOk X scope js){C:G4}{x:Str}{c:G4}(hc:X.env.cells.lookup x=some c)(h:(x,T5)∈scope.names)(hn:scope.names.lookup x≠some .cell):(ju X scope C).lookup x=some c:=by
 unfold ju;rw [jx,yh];cases e:(B6 (C+1) scope.names []).lookup x with
 |some d=>
  rcases jX _ _ _ _ (jZ e) with z|⟨_,z⟩
  ·exact absurd z (by simp)
  ·exact absurd (S.cels _ z rfl) hn
 |none=>exact YB hc h
def zw:G0 P5->St->St
 | [],σ=>σ
 |j::js,σ=>zw js (σ.set j none)
theorem vO: ∀ (js:G0 P5) (σ:St),(zw js σ).length=σ.length
 | [],_=>rfl
 |j::js,σ=>by rw [zw,vO js];simp
theorem yS: ∀ (js:G0 P5) (σ:St) (i:P5) (v:V),(zw js σ)[i]? =some (some v)->σ[i]? =some (some v)
 | [],_,_,_,h=>h
 |j::js,σ,i,v,h=>by
  have h1:=yS js _ i v h
  by_cases e:i=j
  ·subst e;rw [U8] at h1;simp at h1
  ·rwa [C5 (A0 e)] at h1
theorem zT: ∀ (js:G0 P5) (σ:St) (i:P5) (v:V),i∈js-> ¬ (zw js σ)[i]? =some (some v)
 |j::js,σ,i,v,hm,h=>by
  rcases P0.mp hm with rfl|hm
  ·have h1:=yS js _ i v h;rw [U8] at h1;simp at h1
  ·exact zT js _ i v hm h
variable {a:G4}{o:HO}
theorem HOk.track {h:S6}(x:HOk P w H h)(hn:H a=none)(new:ObjOk P w (upd H a o) h a o):HOk P w (upd H a o) h:=λb u e=>by
 by_cases hb:b=a
 ·subst hb;rw [jf] at e;cases e;exact new
 ·rw [jd hb] at e;exact(x b u e).stay (λc v _ q=>q) (λc q=>by rw [jd (je q hn)];exact q) λc xs q=>by rw [jd (je q hn)];exact q
def Agree (σ lH:St):Prop:=lH.length=σ.length/\ ∀ (i:P5) (v:V),σ[i]? =some (some v)->lH[i]? =some (some v)
variable {σ:St}
theorem Agree.set {j:P5}(v:V)(h: ∀u,¬σ[j]? =some (some u)):Agree σ (σ.set j (some v)):=⟨by simp,λi u q=>by
 by_cases e:j=i
 ·subst e;exact absurd q (h u)
 ·rw [C5 e];exact q⟩
def PTs (X:Cx)(ifs:G0 D2)(t:TT):Prop:=
 ∀ (pins:G0 (G4×Obj)) (s:G3) (σ:St) (H:Hp) (Q:C3->Hp->Prop),Inv X pins σ H s->t σ H Q->
  D5 (D8 X.prog X.w) X.A (forIn ifs true λc r=>if r=true then do let ok <-isTrue c X.env (N5 c X.env);pure (E4 ok) else pure (E4 r)) (TP X pins σ Q) X.xe s
def Nc:TT:=λ_ H Q=>Q true H
theorem XU:PTs X [] Nc:=λ_ _ _ H _ I h=>wpAny_tests_nil ⟨H,I,h⟩
def We (iter target:D2)(ifs:G0 D2)(it:G2)(env:Env)(act:Sem Unit)(nxt:Code):Sem g5:=do
 cQ iter.pos
 match <-i4 it with
 |none=>pure (.done .next)
 |some v=>
  E3 target it v
  W2 target env v
  let mut ok:=true
  for c in ifs do
   if ok then ok <-isTrue c env (N5 c env)
  if ok then act
  k9 nxt
variable {elt iter:D2}{ifs:G0 D2}
theorem Ub {prog:D6}{A:R8}{R:h9->G3->Prop}{s:G3}{target:D2}{gens:G0 c7}{depth:P5}{it acc:G2}{act:Sem Unit}(I:P5->G3->Prop)
 (heq:f7 (.ListComp elt gens scope pos) depth it acc env=We iter target ifs it env act (.compLoop (.ListComp elt gens scope pos) depth it acc env))
 (turn: ∀n s,I n s->D5 (D8 prog w) A (i4 it) (λr lJ=>match r with
  |none=>R (.ok .next) lJ
  |some v=>D5 (D8 prog w) A (E3 target it v) (λ_ lJ=>D5 (D8 prog w) A (W2 target env v) (λ_ lU=>
   D5 (D8 prog w) A (forIn ifs true λc r=>if r=true then do let ok <-PySem.isTrue c env (N5 c env);pure (E4 ok) else pure (E4 r)) (λok lS=>
    if ok=true then D5 (D8 prog w) A act (λ_ mD=> ∃m,m<n/\I m mD) (λ_ _=>False) lS
    else ∃m,m<n/\I m lS) (λ_ _=>False) lU) (λ_ _=>False) lJ) (λ_ _=>False) lJ) (λ_ _=>False) s)
 (n:P5)(h:I n s):
 K8 (D8 prog w) A (.compLoop (.ListComp elt gens scope pos) depth it acc env) R s:=by
 refine codeAny_loop rfl I (λn s hI=> ?_) n h;show D5 _ A ((f7 (.ListComp elt gens scope pos) depth it acc env).onRaise (λx=>do noteFrame x env;theTreesLotGoes x)) _ _ s;refine wpAny_noted ?_;rw [heq];unfold We;refine wpAny_bind (aO (wpAny_bind (S3 (turn n s hI) (λr lJ lN=> ?_) λ_ _ h'=>h'.elim)));cases r with
 |none=>exact P1 lN
 |some v=>
  refine wpAny_bind (S3 lN (λ_ lJ lN=> ?_) λ_ _ h'=>h'.elim);refine wpAny_bind (S3 lN (λ_ lU mJ=>wpAny_bind (S3 mJ (λok lS mE=> ?_) λ_ _ h'=>h'.elim)) λ_ _ h'=>h'.elim);cases ok with
  |false=>exact P1 ⟨rfl,mE⟩
  |true=>exact wpAny_bind (S3 mE (λ_ mD lX=>P1 ⟨rfl,lX⟩) λ_ _ h'=>h'.elim)
abbrev TM:=St->Hp->G0 V->(G0 V->Hp->Prop)->Prop
def RC (X:Cx)(D:G4)(act:Sem Unit)(t:TM):Prop:=
 ∀ (pins:G0 (G4×Obj)) (s:G3) (σ:St) (H:Hp) (ys:G0 V) (us:G0 G2) (Q:G0 V->Hp->Prop),Inv X ([(D,Q0 us)]++pins) σ H s->Vals ys us->ys.length<=sizeLine->D∈X.ex->(∀x c,X.env.cells.lookup x=some c->c≠D)->(∀p∈X.pn++pins,p.1≠D)->t σ H ys Q->
  D5 (D8 X.prog X.w) X.A act (λ_ s'=> ∃ys' us' H',Vals ys' us'/\Inv X ([(D,Q0 us')]++pins) σ H' s'/\Q ys' H') (λ_ _=>False) s
def Nd (te:TE):TM:=λσ H ys Q=>te σ H λy H1=>Q (ys++ [y]) H1
def Wf (elt:D2)(env:Env)(acc:G2):Sem Unit:=do let _ <-call (.builtin "list.append") [acc,<-N5 elt env]
theorem Wg {D:G4}{te:TE}(hx:X.xe=λ_ _=>False)(he:PE X elt te):RC X D (Wf elt X.env (.ref D)) (Nd te):=by
 intro pins s σ H ys us Q I hv hz DX cD pD h;have q:=he _ s σ H _ I h;rw [hx] at q;unfold Wf;refine wpAny_bind (S3 q (λy s1 ⟨yv,H1,I1,r1,q1⟩=> ?_) λ_ _ z=>z);have zD:=I1.pin (D,Q0 us) (D3 _ (C4 _ P8));refine wpAny_bind (append_at (its:=us.toArray) (n:=us.length) zD.1 (λh11 hs11 hD11=>P1 ?_) (by rw [P3,<-hv.length];exact hz));have I10u:Inv X pins σ H1 s1:=I1.pins_of λp hp=>I1.pin p (D3 _ (D3 _ hp))
 have I11:Inv X pins σ H1 {s1 with heap:=h11}:=I10u.turned (t':=s1.toks) (it:=D) (λb o hb e=>hs11.extBut b o hb e) zD.2.1 zD.2.2.1 (.inl DX) cD pD;have eD:h11.get? D=some (Q0 (us++ [y])):=by rw [hD11];exact congrArg some (LCg.lst_snoc us y)
 refine⟨ys++ [yv],us++ [y],H1,hv.append (.cons r1 .nil),I11.pins_of λp hp=> ?_,q1⟩;rcases T2.mp hp with z|z
 ·rcases S4.mp z with rfl
  exact⟨eD,zD.2.1,zD.2.2.1,zD.2.2.2.1,λv z=>by cases z⟩
 ·exact I11.pin p (D3 _ z)
def RD (js : G0 P5) (wi : TI) (g : TG) (tt : TT) (tm : TM) : TE := fun σ H Q => wi σ H fun J H1 =>
  ∃ W : P5 → P5 → G0 V → Hp → Prop, (∃ m, W 0 m [] H1) ∧ ∀ i m ys H, W i m ys H → ys.length ≤ sizeLine ∧
    ((J.stop i H ∧ ∀ p, H p = none → Q (.ref p) (upd H p (.lst ys))) ∨
     (J.go i H ∧ ∀ x H', J.yld i H x H' → g x (zw js σ) H' fun lK H2 => Agree (zw js σ) lK ∧ tt lK H2 fun b H3 =>
        if b = true then tm lK H3 ys fun ys' H4 => ∃ m', m' < m ∧ W (i + 1) m' ys' H4 else ∃ m', m' < m ∧ W (i + 1) m' ys H3))
def tLC (js:G0 P5)(wi:TI)(g:TG)(tt:TT)(te:TE):TE:=RD js wi g tt (Nd te)
variable {e tg:D2}{wi:TI}{g:TG}{tt:TT}
theorem UV {zu:G0 c7}{pos0:Pos}{tm:TM}{use:G7 (G2->Sem Unit)}{Qv:G2->G3->Prop}(hc:X.calm=true)(S:BlockOk X scope js)(hi:PI X tg iter wi)
 (he0:e= .ListComp elt (⟨tg,iter,ifs,0⟩::zu) scope pos)
 (hg: ∀X',jw X scope X'->PG X' tg g)(ht: ∀X',jw X scope X'->PTs X' ifs tt)
 (act:Env->G2->Sem Unit)(hturn: ∀it acc env,f7 e 0 it acc env=We iter tg ifs it env (act env acc) (.compLoop e 0 it acc env))(he: ∀X',jw X scope X'-> ∀D,RC X' D (act X'.env (.ref D)) tm)
 (hs: ∀x,M4 iter X.env x=pure x){pins:G0 (G4×Obj)}{s:G3}{σ:St}{H:Hp}{Q:VK}(I:Inv X pins σ H s)(h:RD js wi g tt tm σ H Q)
 (fin: ∀ (D C:G4) (H':Hp) (s':G3) (m:Str->G7 G2),s'.heap.Ns C m->(∀h',X4 C s'.heap h'->Inv X pins σ H' {s' with heap:=h'})->H' C=none->C≠X.env.locals->C ∉ X.fs->X.s₀.heap.objs.size<=C->(∀x c,X.env.cells.lookup x=some c->c≠C)->(∀p∈X.pn++pins,p.1≠C)->
  Q (.ref D) H'->compPost (D8 X.prog X.w) X.A X.xe use Qv (.ref D) C (.ok .next) s'):
 D5 (D8 X.prog X.w) X.A (c8 e scope X.env pos0 (newList []) false (N5 iter X.env) use) Qv X.xe s:=by
 have hclos:=Jc (scope:=scope) (env:=X.env) (λp hp e=>I.ok.has p.1 (S.free p hp e));subst he0;refine wpAny_comprehension_free (use:=use) rfl hs hclos S.kind S.locs (thn (hi pins s σ H _ I h) λv s1 h1=>thn h1 λitv s2 h2=> ?_);obtain⟨it,fp,tn,J,H2,e,I2,T,st2,f2,W,⟨m0,w0⟩,turn⟩:=h2;subst e;refine B2 (JN (λlN lY l8 lT lZ=> ?_));dsimp only at lY l8 lT lZ ⊢;generalize hD:s2.heap.objs.size=D;generalize hH3:s2.heap.push {cls:= .type "list",dict:=none,data:= .seq ([]:G0 G2).toArray}=h3 at lY l8 lT lZ ⊢;have sz3:h3.objs.size=D+1:=by rw [<-hH3,fZ,hD]
 have up3: ∀b o,s2.heap.get? b=some o->h3.get? b=some o:=λb o e=>hH3 ▸ G5 _ e
 have I3:Inv X pins σ H2 {s2 with heap:=h3}:=I2.kept (t':=s2.toks) up3;have hD3:h3.get? D=some (Q0 []):=by rw [<-hH3,<-hD];exact R9 _ rfl
 have fD:Yj X pins H2 D:=I2.fpOk (by rw [hD];exact G8 _) (I2.hok.fresh (by rw [hD];exact G8 _));have obf: ∀b∈fp,∃o,s2.heap.get? b=some o/\ ∀v,o.data≠ .cell v:=T.obj _ _ st2;have ltf: ∀b∈fp,b<D:=λb hb=>by obtain⟨o,e,_⟩:=obf b hb;rw [<-hD];exact P6 e
 generalize hC:h3.objs.size=C at lY lT lZ ⊢;have CD:C=D+1:=hC.symm.trans sz3;have upC: ∀b o,h3.get? b=some o->lN.get? b=some o:=l8;generalize hX:yR X scope C {s2 with heap:=h3} H2 (fp++ [D])=X';have iX:jw X scope X':=⟨C,_,_,_,hX.symm⟩;have hf: ∀b∈fp++ [D],Yj X pins H2 b:=λb hb=>(T2.mp hb).elim (f2 b) λz=>by rw [S4.mp z];exact fD
 have cl: ∀x c,(ju X scope C).lookup x=some c->X.env.cells.lookup x=some c\/C<c:=λx c e=>by
  rcases zv S e with ⟨_,z⟩|⟨_,z⟩
  ·exact .inl z
  ·exact .inr (U9 (lT x c z).2)
 have olt: ∀x c,X.env.cells.lookup x=some c->c<C:=λx c e=>by obtain⟨v,q⟩:=I3.cell x c e;rw [<-hC];exact q.lt
 have ltb: ∀b∈fp++ [D],b<C:=λb hb=>(T2.mp hb).elim (λz=>by have:=ltf b z;rw [CD];exact eF this) λz=>by rw [S4.mp z,CD];exact J8 _
 have okX:X'.Ok:=by
  subst hX;refine⟨I.ok.mod,S.kind,I.ok.glob,I.ok.blt,bM hC,λx y c e1 e2=> ?_,λx hx=> ?_,λx c z e=> ?_,I.ok.hd,I.ok.frames,.inl rfl,λb hb=>⟨R3 (ltb b hb),λx c e=>(cl x c e).elim (λz=>(hf b hb).2.2.2.2.1 x c z) λz=>H0 (U7 (ltb b hb) z)⟩,
   I3.bs,R4 I.ok.bsz I3.sz,λb o e hb=> ?_,λb hb z=> ?_,I3.stack,I3.stkFree⟩
  ·rcases zv S e1 with ⟨_,z1⟩|⟨_,z1⟩<;>rcases zv S e2 with ⟨_,z2⟩|⟨_,z2⟩
   ·exact I.ok.inj x y c z1 z2
   ·exact absurd (U7 (olt x c z1) (U9 (lT y c z2).2)) (N9 _)
   ·exact absurd (U7 (olt y c z2) (U9 (lT x c z1).2)) (N9 _)
   ·exact dP lZ z1 z2
  ·have own:scope.names.lookup x=some .cell-> ∃c,(ju X scope C).lookup x=some c:=λz=>by
    obtain⟨c,hc⟩:=wq (sc:=scope) (n:=C+1) z;exact⟨c,by unfold ju;rw [jx,yh,hc]⟩
   have shr:scope.names.lookup x=some .free-> ∃c,(ju X scope C).lookup x=some c:=λz=>by
    have fm:=jZ z;obtain⟨c,hc⟩:=I.ok.has x (S.free _ fm rfl);exact⟨c,yp S hc fm (by rw [z];decide)⟩
   rcases hx with hx|hx
   ·rcases jE (env:=X.env) hx with z|z
    ·exact own z
    ·exact shr z
   ·rcases jE (env:=X.env) hx with z|z<;>exact shr z
  ·have z':scope.names.lookup x=some .cell:=by
    have z2:(scope.names.lookup x==some O8)=true:=z;simpa using z2
   rcases zv S e with ⟨n,_⟩|⟨_,m⟩
   ·exact absurd z' n
   ·show h3.objs.size<=c;rw [hC];exact N3 (U9 (lT x c m).2)
  ·rcases (hf b hb).2.2.2.1 with z|z
   ·exact I.ok.noex b o e z
   ·exact absurd (P2 (P6 e) (R4 I.ok.bsz z)) (N9 _)
  ·rcases P0.mp (I.stkSub b z) with q|q
   ·exact(hf b hb).2.1 q
   ·exact(hf b hb).2.2.1 q
 -- the block's first state
 have I4:Inv X' [(D,Q0 [])] (zw js σ) H2 {s2 with heap:=lN}:=by
  subst hX;have hDC:D≠C:=by rw [CD];exact R3 (J8 _)
  refine⟨okX,rfl,I2.bare,Un.kept (λb u e=>upC b u e),⟨_,lY,λi x v e1 e2 e3=> ?_⟩,λx c e=> ?_,I3.hok.fresh (bM hC),λx c e=>(cl x c e).elim (λz=>I2.freeC x c z) (λz=>I3.hok.fresh (by rw [<-hC] at z;exact N3 z)),λp hp=> ?_,I3.hok.kept upC,(vO js σ).trans I2.len⟩
  ·have fr:scope.names.lookup x=some .free:=by
    rcases e3 with e3|e3|e3
    ·rcases jE (env:=X.env) e3 with z|z
     ·exact absurd e2 (zT js σ i v (S.js i x e1 (.inl z)))
     ·exact z
    ·rcases jE (env:=X.env) e3 with z|z
     ·exact absurd e2 (zT js σ i v (S.js i x e1 (.inr z)))
     ·exact z
    ·rcases jE (env:=X.env) e3 with z|z<;>exact z
   have fm:=jZ fr;obtain⟨m,hm,hl⟩:=I2.loc;have vis:=S.free _ fm rfl;obtain⟨u,r,lk⟩:=hl i x v e1 (yS js σ i v e2) (.inr vis);have kd:(relabel scope X.env).names.lookup x=some .cell\/(relabel scope X.env).names.lookup x=some .free:=by
    rcases e3 with e3|e3|e3
    ·rcases jE (env:=X.env) e3 with z|z
     ·rw [fr] at z;cases z
     ·exfalso;have z2:=e3
      -- a local's kind stays
      exact absurd e2 (zT js σ i v (S.js i x e1 (.inl (by
       have q: ∀ (l:G0 (Str×NameKind)),(l.map λ(n,k)=>if (k==T5&&X.env.scope.kind== .function&&X.env.kindOf n==some .cell) then (n,O8) else (n,k)).lookup x=some .local->l.lookup x=some .local:=by
        intro l
        induction l with
        |nil=>intro h;simp at h
        |cons p l ih=>
         obtain⟨n,k'⟩:=p;intro h;have h':List.lookup x ((if (k'==T5&&X.env.scope.kind== .function&&X.env.kindOf n==some .cell)=true then (n,O8) else (n,k'))::(l.map λ(n,k)=>if (k==T5&&X.env.scope.kind== .function&&X.env.kindOf n==some .cell) then (n,O8) else (n,k)))=some .local:=h;rw [M2]
         by_cases hc:(k'==T5&&X.env.scope.kind== .function&&X.env.kindOf n==some .cell)=true
         ·rw [S1 hc,M2] at h';cases hx:x==n with
          |true=>rw [hx] at h';cases h'
          |false=>rw [hx] at h';exact ih h'
         ·rw [S9 hc,M2] at h';cases hx:x==n with
          |true=>rw [hx] at h';exact h'
          |false=>rw [hx] at h';exact ih h'
       exact q _ z2))))
    ·exact .inl e3
    ·exact .inr e3
   rcases lk with ⟨k,_⟩|⟨_,c,hc,hcell⟩
   ·have k':X.env.scope.names.lookup x=some .local:=k;rcases vis with z|z<;>(rw [k'] at z;cases z)
   ·refine⟨u,r,.inr ⟨kd,c,yp S hc fm (by rw [fr];decide),?_⟩⟩;obtain⟨o,ho,hd⟩:=hcell;exact⟨o,upC _ _ (up3 _ _ ho),hd⟩
  ·rcases zv S e with ⟨_,z⟩|⟨_,z⟩
   ·obtain⟨v,o,ho,hd⟩:=I2.cell x c z;exact⟨v,o,upC _ _ (up3 _ _ ho),hd⟩
   ·exact⟨none,(lT x c z).1⟩
  ·have hp':p∈ [(D,Q0 [])]:=hp;rcases S4.mp hp' with rfl
   refine⟨upC _ _ hD3,fD.1,hDC,λz=> ?_,λv z=>by cases z⟩;rcases P0.mp (I.stkSub D z) with q|q
   ·exact fD.2.1 q
   ·exact fD.2.2.1 q
 have st4:tn 0 lN:=T.keep _ _ _ st2 λb _ o e=>upC _ _ (up3 _ _ e)
 have eA:X'.A=X.A:=by rw [<-hX];rfl
 have eP:X'.prog=X.prog:=by rw [<-hX];rfl
 have eW:X'.w=X.w:=by rw [<-hX];rfl
 have eK:X'.K=X.K:=by rw [<-hX];rfl
 have eC:X'.calm=true:=by rw [<-hX];exact hc
 have eV:X'.env=f6 scope (ju X scope C) C X.env:=by rw [<-hX];rfl
 have eE:X'.xe=λ_ _=>False:=by rw [<-hX];rfl
 -- what stays true of the iterator's objects
 have stat: ∀ {us:G0 G2} {H':Hp},(∀b∈fp,H' b=none)-> ∀b∈fp,Yj X' [(D,Q0 us)] H' b:=λ{us H'} hn b hb=>by
  have q:=hf b (C4 _ hb);subst hX;refine⟨hn b hb,R3 (ltb b (C4 _ hb)),λz=> ?_,.inl (C4 _ hb),λx c e=>(cl x c e).elim (λz=>q.2.2.2.2.1 x c z) (λz=>H0 (U7 (ltb b (C4 _ hb)) z)),λp hp=> ?_⟩
  ·rcases P0.mp (I.stkSub b z) with r|r
   ·exact q.2.1 r
   ·exact q.2.2.1 r
  ·have hp':p∈ [(D,Q0 us)]:=hp;rcases S4.mp hp' with rfl
   exact H0 (ltf b hb)
 have loop: ∀lS:G3,lS= {s2 with heap:=lN}->
  K8 (D8 X.prog X.w) X.A (.compLoop (.ListComp elt (⟨tg,iter,ifs,0⟩::zu) scope pos) 0 (.ref it) (.ref D) (f6 scope (ju X scope C) C X.env))
   (compPost (D8 X.prog X.w) X.A X.xe use Qv (.ref D) C) lS:=by
  rintro lS rfl;refine Ub (act:=act (f6 scope (ju X scope C) C X.env) (.ref D)) (λn s'=> ∃i ys us H',Vals ys us/\Inv X' [(D,Q0 us)] (zw js σ) H' s'/\tn i s'.heap/\(∀b∈fp,H' b=none)/\W i n ys H') (hturn _ _ _) ?_ m0
   ⟨0,[],[],H2,.nil,I4,st4,λb hb=>(f2 b hb).1,w0⟩
  rintro n s5 ⟨i,ys,us,H5,hv5,I5,st5,fr5,w5⟩;obtain⟨hz,tr⟩:=turn i n ys H5 w5;rcases tr with ⟨stop,qn⟩|⟨go,step⟩
  ·have q:=T.done X' eP eW eK eC i _ s5 _ H5 (λ_ _=>False) I5 (stat fr5) st5 stop;rw [eA] at q;refine S3 q (λr s6 ⟨hr,I6⟩=> ?_) λ_ _ z=>z
   subst hr;obtain⟨m6,hm6,_⟩:=I6.loc;rw [eV] at hm6;have zD:=I6.pin (D,Q0 us) (D3 _ P8);have HD:H5 D=none:=zD.2.1;have oD:s6.heap.get? D=some (Q0 us):=zD.1;have hDC:D≠C:=by rw [CD];exact R3 (J8 _)
   have HC:H5 C=none:=by have z:=I6.free;rw [eV] at z;exact z
   have B:=I6.base;have os6:s6.os=s2.os:=by have z:=I6.os;rw [<-hX] at z;exact z
   have Bu:Un (frs X.stack) (fp++ [D]) H2 H5 h3 s6.heap:=by rw [<-hX] at B;exact B
   have neC: ∀b o,h3.get? b=some o->b≠C:=λb o e=>by rw [<-hC];exact R3 (P6 e)
   refine fin D C (upd H5 D (.lst ys)) s6 m6 hm6 (λh' hs'=> ?_) (by rw [jd (A0 hDC)];exact HC) ?_ ?_ ?_ (λx c e=>R3 (olt x c e)) ?_ (qn D HD)
   ·have hk5:HOk X.prog X.w H5 h':=λb u e=>by
     have z:=I6.hok b u e;rw [eP,eW] at z;refine z.stay (λc v hc q=>hs'.extBut c v ?_ q) (λ_ q=>q) λ_ _ q=>q
     rcases hc with rfl|hc
     ·exact je e HC
     ·exact je hc HC
    refine I3.call' (ch:=fp++ [D]) os6 ⟨λb o e n hb hx=> ?_,λb o e n hb hx=> ?_,λb o e n hx=> ?_,λb o e hx=> ?_,λb xs e=> ?_,λb o u e=> ?_,λb ps e=> ?_⟩ (hk5.track HD ?_) I6.bare λb hb=> ?_
    ·exact hs'.extBut b o (neC b o e) (Bu.keep b o e n hb hx)
    ·obtain⟨sl,q⟩:=Bu.slot b o e n hb hx;exact⟨sl,hs'.extBut b _ (neC b o e) q⟩
    ·rw [jd λz=>hx (by rw [z];exact D3 _ P8)];exact Bu.free b o e n hx
    ·obtain⟨o',q⟩:=Bu.there b o e hx;exact⟨o',hs'.extBut b _ (neC b o e) q⟩
    ·have z:=Bu.tups b xs e;rw [jd (je z HD)];exact z
    ·have z:=Bu.frzs b o u e;rw [jd (je z HD)];exact z
    ·obtain⟨more,z⟩:=Bu.tbls b ps e;exact⟨more,by rw [jd (je z HD)];exact z⟩
    ·exact⟨hz,us,us.length,hv5,hs'.extBut D _ hDC oD⟩
    ·have q:=hf b hb;exact⟨q.2.2.2.1,q.2.1,q.2.2.2.2.1,q.2.2.2.2.2⟩
   ·rw [<-hC];exact H0 I3.lt
   ·exact I3.nofs (bM hC)
   ·rw [<-hC];exact I3.sz
   ·intro p hp;have:=(I3.pin p hp).1;rw [<-hC];exact R3 (P6 this)
  ·have q:=T.item X' eP eW eK eC i _ s5 _ H5 (λ_ _=>False) I5 (stat fr5) st5 go;rw [eA] at q;refine S3 q (λr s6 ⟨u,hr,h6⟩=> ?_) λ_ _ z=>z
   subst hr;refine S3 h6 (λ_ s7 ⟨x,H7,I7,r7,y7,st7,fr7⟩=> ?_) λ_ _ z=>z
   have I7':=I7.pinned (stat fr7) (T.obj _ _ st7);have q7:=hg X' iX _ s7 _ H7 x u _ I7' r7 (step x H7 y7);rw [eP,eW,eA,eV,eE] at q7;refine S3 q7 (λ_ s8 ⟨l9,H8,I8,ag8,q8⟩=> ?_) λ_ _ z=>z
   have q9:=ht X' iX _ s8 l9 H8 _ I8 q8;rw [eP,eW,eA,eV,eE] at q9;refine S3 q9 (λok s9 ⟨H9,I9,q9⟩=> ?_) λ_ _ z=>z
   have keepT: ∀ {lH:St} {H':Hp} {s':G3} {us:G0 G2},Inv X' ([(D,Q0 us)]++yF fp s7.heap) lH H' s'->tn (i+1) s'.heap/\ ∀b∈fp,H' b=none:=λ{lH H' s' us} I'=>
    ⟨T.keep _ _ _ st7 λb hb o e=>(I'.pin (b,o) (D3 _ (D3 _ (wo hb e)))).1,λb hb=>by
     obtain⟨o,e,_⟩:=T.obj _ _ st7 b hb;exact(I'.pin (b,o) (D3 _ (D3 _ (wo hb e)))).2.1⟩
   cases ok with
   |false=>
    have q9: ∃m',m'<n/\W (i+1) m' ys H9:=q9;obtain⟨m',hm,w9⟩:=q9;obtain⟨t9,f9⟩:=keepT I9;exact⟨m',hm,i+1,ys,us,H9,hv5,(I9.unpinned).weak ag8.1.symm ag8.2,t9,f9,w9⟩
   |true=>
    have q9:tm l9 H9 ys λys' H4=> ∃m',m'<n/\W (i+1) m' ys' H4:=q9
    have DX:D∈X'.ex:=by rw [<-hX];exact D3 _ P8
    have pD: ∀p∈X'.pn++yF fp s7.heap,p.1≠D:=λp hp=>by
     have hp':p∈yF fp s7.heap:=by rw [<-hX] at hp;simpa [yR] using hp
     exact R3 (ltf _ (JD hp').1)
    have cD: ∀x c,X'.env.cells.lookup x=some c->c≠D:=λx c e=>by
     rw [eV] at e;exact(cl x c e).elim (λz=>fD.2.2.2.2.1 x c z) λz=>H0 (U7 (by rw [CD];exact J8 _) z)
    have q10:=he X' iX D _ s9 l9 H9 ys us _ I9 hv5 hz DX cD pD q9;rw [eP,eW,eA,eV] at q10;show D5 _ _ (act _ _) _ _ s9;refine S3 q10 (λ_ s10 ⟨ys',us',H10,hv10,I10,m',hm,w10⟩=> ?_) λ_ _ z=>z
    obtain⟨t10,f10⟩:=keepT I10;exact⟨m',hm,i+1,ys',us',H10,hv10,(I10.unpinned).weak ag8.1.symm ag8.2,t10,f10,w10⟩
 exact codeAny_compStart_list (loop _ rfl) (T.self X.A 0 _ _ _ st4 (loop _ rfl))
theorem RE {te:TE}(hc:X.calm=true)(S:BlockOk X scope js)(hi:PI X tg iter wi)
 (hg: ∀X',jw X scope X'->PG X' tg g)(ht: ∀X',jw X scope X'->PTs X' ifs tt)(he: ∀X',jw X scope X'->PE X' elt te)
 (hs: ∀x,M4 iter X.env x=pure x:=by intro _;rfl):PE X (.ListComp elt [⟨tg,iter,ifs,0⟩] scope pos) (tLC js wi g tt te):=by
 intro pins s σ H Q I h;rw [eval_ListComp];exact UV (use:=none) hc S hi rfl hg ht (Wf elt) (λ_ _ _=>rfl) (λX' hX D=>Wg (by obtain⟨_,_,_,_,rfl⟩:=hX;rfl) (he X' hX)) hs I h
  λD C H' s' m hn hk _ _ _ _ _ _ q=>⟨m,hn,λh' hs'=>⟨.ref D,H',hk h' hs',rfl,q⟩⟩
theorem XV {zu:G0 c7}{pos' spos:Pos}{g':TG}{tm:TM}(hc:X.calm=true)(S:BlockOk X scope js)(hi:PI X tg iter wi)
 (he0:e= .ListComp elt (⟨tg,iter,ifs,0⟩::zu) scope pos)(hg: ∀X',jw X scope X'->PG X' tg g)(ht: ∀X',jw X scope X'->PTs X' ifs tt)
 (act:Env->G2->Sem Unit)(hturn: ∀it acc env,f7 e 0 it acc env=We iter tg ifs it env (act env acc) (.compLoop e 0 it acc env))(he: ∀X',jw X scope X'-> ∀D,RC X' D (act X'.env (.ref D)) tm)
 (hg':PG X (.Name x pos') g')(hsw:A2 e (some (.Name x pos')) spos.line X.env=pure true)
 (hs: ∀x,M4 iter X.env x=pure x):PS X (.Assign [.Name x pos'] e spos) (XA (RD js wi g tt tm) g'):=by
 intro pins s σ H Dn I h;rw [exec_Assign_Name_used _ _ _ _ hsw];refine wpAny_bind (aO (wpAny_bind ?_));subst he0;rw [arm_evalThenUse_ListComp];show D5 _ X.A (do let _ <-c8 (.ListComp elt (⟨tg,iter,ifs,0⟩::zu) scope pos) scope X.env _ (newList []) false (N5 iter X.env) (some (W2 (.Name x pos') X.env))) _ _ s;refine wpAny_bind (S3 (UV (use:=some (W2 (.Name x pos') X.env)) (Qv:=λ_ s'=>SP X pins Dn .next s') hc S hi rfl hg ht act hturn he hs I h ?_) (λ_ s' hq=>P1 (P1 hq)) λ_ _ e=>e);intro D C H' s' m hn hk HC nL nf sz ncell npin q;show D5 _ X.A (W2 (.Name x pos') X.env (.ref D)) _ _ s';obtain⟨o,es,ep,ho,hd,hr⟩:=id hn;have I1:Inv X pins σ H' s':=hk s'.heap (Heap.SameBut.refl ..);have I2:Inv X (pins++ [(C,o)]) σ H' s':=I1.pins_of λp hp=>by
  rcases T2.mp hp with z|z
  ·exact I1.pin p (D3 _ z)
  ·rcases S4.mp z with rfl
   exact⟨ho,HC,nL,nf,λv z=>by rw [hd] at z;cases z⟩
 refine S3 (hg' _ s' σ H' (.ref D) (.ref D) _ I2 rfl q) (λ_ s3 ⟨lM,H3,I3,q3⟩=> ?_) λ_ _ z=>z
 have pC:=I3.pin (C,o) (D3 _ (D3 _ P8));refine⟨m,hn.at' λo' e'=> ?_,λh' hs'=> ?_⟩
 ·rw [ho] at e';cases e';exact pC.1
 ·exact⟨lM,H3,(I3.unpinned).turned (t':=s3.toks) (it:=C) (λb o hb e=>hs'.extBut b o hb e) pC.2.1 nL (.inr sz) ncell npin,q3⟩
theorem Uc {pos' spos:Pos}{g':TG}{te:TE}(hc:X.calm=true)(S:BlockOk X scope js)(hi:PI X tg iter wi)
 (hg: ∀X',jw X scope X'->PG X' tg g)(ht: ∀X',jw X scope X'->PTs X' ifs tt)(he: ∀X',jw X scope X'->PE X' elt te)
 (hg':PG X (.Name x pos') g')(hsw:A2 (.ListComp elt [⟨tg,iter,ifs,0⟩] scope pos) (some (.Name x pos')) spos.line X.env=pure true)
 (hs: ∀x,M4 iter X.env x=pure x:=by intro _;rfl):PS X (.Assign [.Name x pos'] (.ListComp elt [⟨tg,iter,ifs,0⟩] scope pos) spos) (XA (tLC js wi g tt te) g'):=
 XV hc S hi rfl hg ht (Wf elt) (λ_ _ _=>rfl) (λX' hX D=>Wg (by obtain⟨_,_,_,_,rfl⟩:=hX;rfl) (he X' hX)) hg' hsw hs
inductive D where
 |non|bl (b:C3)|int (i:P7)|str (x:Str)|tup (ds:G0 D)|lst (a:G4)|dic (x:Str) (i:P7)|dct (a:G4)|scr (ns:G0 P7)|exc (C:G4)|fn (a:G4)
def Scr (K:G1)(H:Hp)(a:G4)(ns:G0 P7):Prop:=
 (∃o,H a=some (.frz o (.lst (ns.map V.int))))\/
  ∃ (o:Obj) (its:F3 G2) (n:P5),K.lookup a=some o/\o.cls= .type "list" /\o.dict=none/\o.data= .seq its n/\its.size<=sizeLine/\Vals (ns.map V.int) its.toList
variable {K:G1}
theorem Scr.sq {ns:G0 P7}(h:Scr K H a ns):SqL K H a (ns.map V.int):=h.elim (λz=> .inl (.inr z)) .inr
mutual
def RelD (K:G1)(H:Hp):D->V->Prop
 | .non,v=>v= .non
 | .bl b,v=>v= .bl b
 | .int i,v=>v= .int i
 | .str x,v=>v= .str x
 | .tup ds,v=> ∃a vs,v= .ref a/\H a=some (.tup vs)/\RelDs K H ds vs
 | .lst a,v=>v= .ref a/\ ∃vs,H a=some (.lst vs)
 | .dic x i,v=> ∃a,v= .ref a/\H a=some (.dK [(J5 x,V.int i)])
 | .dct a,v=>v= .ref a
 | .scr ns,v=> ∃a,v= .ref a/\Scr K H a ns
 | .exc C,v=> ∃x o vs,v= .ref x/\H x=some (.frz o (.own 0))/\o.cls= .ref C/\o.data= .fields vs
 | .fn a,v=>v= .ref a/\N8 K (.ref a)=true
def RelDs (K:G1)(H:Hp):G0 D->G0 V->Prop
 | [],vs=>vs= []
 |d::ds,vs=> ∃v r,vs=v::r/\RelD K H d v/\RelDs K H ds r
end
structure Kept (H H':Hp):Prop where
 tup: ∀a xs,H a=some (.tup xs)->H' a=some (.tup xs)
 lst: ∀a xs,H a=some (.lst xs)-> ∃ys,H' a=some (.lst ys)
 dic: ∀a x i,H a=some (.dK [(J5 x,V.int i)])->H' a=some (.dK [(J5 x,V.int i)])
 frz: ∀a o u,H a=some (.frz o u)->H' a=some (.frz o u)
theorem Kept.refl (H:Hp):Kept H H:=⟨λ_ _ h=>h,λ_ xs h=>⟨xs,h⟩,λ_ _ _ h=>h,λ_ _ _ h=>h⟩
theorem Kept.trans {A B C:Hp}(x:Kept A B)(y:Kept B C):Kept A C:=
 ⟨λa xs h=>y.tup a xs (x.tup a xs h),λa xs h=>let ⟨_,e⟩:=x.lst a xs h;y.lst a _ e,λa k i h=>y.dic a k i (x.dic a k i h),λa o u h=>y.frz a o u (x.frz a o u h)⟩
variable {p:G4}
theorem Kept.new (h:H p=none):Kept H (upd H p o):=
 ⟨λa xs e=>by rw [jd (je e h)];exact e,λa xs e=>⟨xs,by rw [jd (je e h)];exact e⟩,λa k i e=>by rw [jd (je e h)];exact e,λa o u e=>by rw [jd (je e h)];exact e⟩
theorem Kept.put {xs ys:G0 V}(h:H p=some (.lst xs)):Kept H (upd H p (.lst ys)):=
 ⟨λa zs e=>by rw [jd (WA e h (by intro z;cases z))];exact e,λa zs e=>by
  by_cases q:a=p
  ·subst q;exact⟨ys,jf⟩
  ·exact⟨zs,by rw [jd q];exact e⟩,
  λa k i e=>by rw [jd (WA e h (by intro z;cases z))];exact e,λa o u e=>by rw [jd (WA e h (by intro z;cases z))];exact e⟩
def DObj (o:HO):Prop:=(∃kvs:G0 (P7×V),o= .dK (kvs.map λp=>((aH p.1:Key),p.2)))\/ ∃φ,o= .ext φ
theorem DObj.no (d:DObj o):(∀xs,o≠ .tup xs)/\(∀xs,o≠ .lst xs)/\(∀x i,o≠ .dK [(J5 x,V.int i)])/\(∀p u,o≠ .frz p u)/\ ∀ps,o≠ .tbl ps:=by
 rcases d with ⟨kvs,rfl⟩|⟨φ,rfl⟩
 ·refine⟨λ_ z=>(nomatch z),λ_ z=>(nomatch z),λx i z=> ?_,λ_ _ z=>(nomatch z),λ_ z=>(nomatch z)⟩;injection z with z
  cases kvs with
  |nil=>cases z
  |cons p r=>injection z with z _;injection z with z _;cases z
 ·exact⟨λ_ z=>(nomatch z),λ_ z=>(nomatch z),λ_ _ z=>(nomatch z),λ_ _ z=>(nomatch z),λ_ z=>(nomatch z)⟩
mutual
variable {H':Hp}
theorem RelD.mono (k:Kept H H'): ∀ {d:D} {v:V},RelD K H d v->RelD K H' d v
 | .non,_,h=>h
 | .bl _,_,h=>h
 | .int _,_,h=>h
 | .str _,_,h=>h
 | .tup ds,v,h=>by
  obtain⟨a,vs,e,h1,h2⟩:=(show ∃a vs,v= .ref a/\H a=some (.tup vs)/\RelDs K H ds vs from h);exact⟨a,vs,e,k.tup _ _ h1,RelDs.mono k h2⟩
 | .lst a,v,h=>by
  obtain⟨e,vs,h1⟩:=(show v= .ref a/\ ∃vs,H a=some (.lst vs) from h);exact⟨e,k.lst _ _ h1⟩
 | .dic x i,v,h=>by
  obtain⟨a,e,h1⟩:=(show ∃a,v= .ref a/\H a=some (.dK [(J5 x,V.int i)]) from h);exact⟨a,e,k.dic _ _ _ h1⟩
 | .dct a,v,h=>h
 | .scr ns,v,h=>by
  obtain⟨a,e,h1⟩:=(show ∃a,v= .ref a/\Scr K H a ns from h);exact⟨a,e,h1.elim (λ⟨o,z⟩=> .inl ⟨o,k.frz _ _ _ z⟩) .inr⟩
 | .exc C,v,h=>by
  obtain⟨x,o,vs,e,h1,r⟩:=(show ∃x o vs,v= .ref x/\H x=some (.frz o (.own 0))/\o.cls= .ref C/\o.data= .fields vs from h);exact⟨x,o,vs,e,k.frz _ _ _ h1,r⟩
 | .fn a,v,h=>h
theorem RelDs.mono (k:Kept H H'): ∀ {ds:G0 D} {vs:G0 V},RelDs K H ds vs->RelDs K H' ds vs
 | [],_,h=>h
 |d::ds,vs,h=>by
  obtain⟨v,r,e,h1,h2⟩:=(show ∃v r,vs=v::r/\RelD K H d v/\RelDs K H ds r from h);exact⟨v,r,e,RelD.mono k h1,RelDs.mono k h2⟩
end
section
variable {K:G1}{H:Hp}
theorem RelDs.nil:RelDs K H [] []:=rfl
theorem RelDs.cons {d:D}{v:V}{ds:G0 D}{vs:G0 V}(h:RelD K H d v)(t:RelDs K H ds vs):RelDs K H (d::ds) (v::vs):=⟨v,vs,rfl,h,t⟩
theorem RelDs.length: ∀ {ds:G0 D} {vs:G0 V},RelDs K H ds vs->ds.length=vs.length
 | [],_,h=>by cases (show _= [] from h);rfl
 |d::ds,vs,h=>by
  obtain⟨v,r,e,_,h2⟩:=(show ∃v r,vs=v::r/\RelD K H d v/\RelDs K H ds r from h);subst e;simp [RelDs.length h2]
theorem RelDs.append: ∀ {ds es:G0 D} {vs us:G0 V},RelDs K H ds vs->RelDs K H es us->RelDs K H (ds++es) (vs++us)
 | [],_,_,_,h,g=>by cases (show _= [] from h);exact g
 |d::ds,es,vs,us,h,g=>by
  obtain⟨v,r,e,h1,h2⟩:=(show ∃v r,vs=v::r/\RelD K H d v/\RelDs K H ds r from h);subst e;exact .cons h1 (RelDs.append h2 g)
theorem RelDs.get: ∀ {ds:G0 D} {vs:G0 V} {i:P5} {d:D},RelDs K H ds vs->ds[i]? =some d-> ∃v,vs[i]? =some v/\RelD K H d v
 |d'::ds,vs,i,d,h,e=>by
  obtain⟨v,r,q,h1,h2⟩:=(show ∃v r,vs=v::r/\RelD K H d' v/\RelDs K H ds r from h);subst q;cases i with
  |zero=>simp at e;subst e;exact⟨v,rfl,h1⟩
  |succ i=>
   obtain⟨u,q1,q2⟩:=RelDs.get h2 (i:=i) (d:=d) (by simpa using e);exact⟨u,by simpa using q1,q2⟩
theorem RelDs.take (n:P5): ∀ {ds:G0 D} {vs:G0 V},RelDs K H ds vs->RelDs K H (ds.take n) (vs.take n):=by
 induction n with
 |zero=>intro ds vs _;exact(rfl:RelDs K H [] [])
 |succ n ih=>
  intro ds vs h;cases ds with
  |nil=>cases (show vs= [] from h);exact .nil
  |cons d ds=>
   obtain⟨v,r,e,h1,h2⟩:=(show ∃v r,vs=v::r/\RelD K H d v/\RelDs K H ds r from h);subst e;exact .cons h1 (ih h2)
theorem RelDs.drop (n:P5): ∀ {ds:G0 D} {vs:G0 V},RelDs K H ds vs->RelDs K H (ds.drop n) (vs.drop n):=by
 induction n with
 |zero=>intro ds vs h;exact h
 |succ n ih=>
  intro ds vs h;cases ds with
  |nil=>cases (show vs= [] from h);exact .nil
  |cons d ds=>
   obtain⟨v,r,e,h1,h2⟩:=(show ∃v r,vs=v::r/\RelD K H d v/\RelDs K H ds r from h);subst e;exact ih h2
theorem RelDs.set {d:D}{v:V}(q:RelD K H d v): ∀ {ds:G0 D} {vs:G0 V} (i:P5),RelDs K H ds vs->RelDs K H (ds.set i d) (vs.set i v)
 | [],_,_,h=>by cases (show _= [] from h);exact .nil
 |e::ds,vs,i,h=>by
  obtain⟨u,r,z,h1,h2⟩:=(show ∃u r,vs=u::r/\RelD K H e u/\RelDs K H ds r from h);subst z;cases i with
  |zero=>exact .cons q h2
  |succ i=>exact .cons h1 (RelDs.set q i h2)
theorem yi: ∀ns:G0 P7,RelDs K H (ns.map D.int) (ns.map V.int)
 | []=> .nil
 |n::ns=> .cons rfl (yi ns)
end
inductive DC where
 |ik (kv:G0 (P7×D))
 |tk (ep:P5) (kv:G0 (G0 (G0 P7)×D))
structure HD where
 ls:G4->G7 (G0 D)
 dc:G4->G7 DC
instance:CoeFun HD λ_=>G4->G7 (G0 D):=⟨HD.ls⟩
def zt (h:HD)(a:G4)(ds:G0 D):HD:=⟨λb=>if b=a then some ds else h b,h.dc⟩
def Jd (h:HD)(a:G4):HD:=⟨λb=>if b=a then none else h b,h.dc⟩
variable {h:HD}{ds:G0 D}
theorem jb:zt h a ds a=some ds:=S1 rfl
theorem zb {b:G4}(e:b≠a):zt h a ds b=h b:=S9 e
theorem zx (e:h a=none):Jd (zt h a ds) a=h:=by
 obtain⟨l,d⟩:=h;refine congrArg (HD.mk · d) ?_
 funext b
 show (if b=a then none else if b=a then some ds else l b)=l b
 by_cases q:b=a
 ·subst q;rw [S1 rfl];exact e.symm
 ·rw [S9 q,S9 q]
def LN:G0 Str:= ["law","_law_right","_law_words","_law_other_words","_law_many_right","_law_all","_law_told_row","_law_all_right","_law_desk_right","_law_signs_right","_law_lists_right","_law_text_right"]
def TabK (K:G1)(P:G4):Prop:= ∃x∈LN,∃c,aS K x=some (c,P)
def CodesOk (H:Hp)(ps:F3 G2):Prop:=V9 ps.toList/\ ∀pos cv,aW pos ps.toList=some cv-> ∃ (c:G4) (o:Obj) (vs:F3 G2) (q:Str) (t:Tok),cv= .ref c/\H c=some (.frz o (.own 0))/\o.data= .fields vs/\vs[1]? =some (.str q t)
def CTabs (K:G1)(H:Hp):Prop:= ∀P,TabK K P-> ∃ps,H P=some (.tbl ps)/\CodesOk H ps
theorem CodesOk.mono {ps:F3 G2}(k: ∀a o u,H a=some (.frz o u)->H' a=some (.frz o u))(c:CodesOk H ps):CodesOk H' ps:=
 ⟨c.1,λpos cv e=>let ⟨c',o,vs,q,t,e1,e2,r⟩:=c.2 pos cv e;⟨c',o,vs,q,t,e1,k _ _ _ e2,r⟩⟩
theorem CTabs.mono (x:CTabs K H)(k: ∀a o u,H a=some (.frz o u)->H' a=some (.frz o u))(kt: ∀a ps,H a=some (.tbl ps)->H' a=some (.tbl ps)):CTabs K H':=λP hP=>
 let ⟨ps,e,c⟩:=x P hP;⟨ps,kt _ _ e,c.mono k⟩
theorem CTabs.new (x:CTabs K H)(e:H p=none):CTabs K (upd H p o):=
 x.mono (λa o' u h=>by rw [jd (je h e)];exact h) λa ps h=>by rw [jd (je h e)];exact h
theorem CTabs.put {xs:G0 V}(x:CTabs K H)(e:H p=some (.lst xs)):CTabs K (upd H p o):=
 x.mono (λa o' u h=>by rw [jd (WA h e (by intro z;cases z))];exact h) λa ps h=>by rw [jd (WA h e (by intro z;cases z))];exact h
def XW (T:G0 (G0 P7)):P7:=j0 (aF (T.map λr=>j0 (aF (r.map hashInt))))
def NE (a:G4)(ep:P5)(xs:G0 (G0 (G0 P7)×G4×V)):HO:= .ext λh=>(a==Q1)=false/\xs.length<=sizeLine/\ ∃ys:G0 (G0 (G0 P7)×G4×G2),Paired (λp q=>p.1=q.1/\p.2.1=q.2.1/\RelV p.2.2 q.2.2) xs ys/\
 ∃o es,h.get? a=some o/\o.ExactDict/\o.data= .dict es ep/\es.toList=ys.map λx=>⟨XW x.1,.ref x.2.1,x.2.2⟩
def DRel (K:G1)(H:Hp)(a:G4):DC->Prop
 | .ik kv=> ∃kvs:G0 (P7×V),H a=some (.dK (kvs.map λp=>((aH p.1:Key),p.2)))/\kv.map (·.1)=kvs.map (·.1)/\RelDs K H (kv.map (·.2)) (kvs.map (·.2))
 | .tk ep kv=> ∃xs:G0 (G0 (G0 P7)×G4×V),H a=some (NE a ep xs)/\(kv.map (·.1)).Nodup/\kv.map (·.1)=xs.map (·.1)/\(∀x∈xs,RelD K H (.tup (x.1.map λr=> .tup (r.map D.int))) (.ref x.2.1))/\RelDs K H (kv.map (·.2)) (xs.map (·.2.2))
theorem DRel.obj: ∀ {c:DC},DRel K H a c-> ∃o,H a=some o/\DObj o
 | .ik _,⟨kvs,e,_⟩=>⟨_,e,.inl ⟨kvs,rfl⟩⟩
 | .tk _ _,⟨xs,e,_⟩=>⟨_,e,.inr ⟨_,rfl⟩⟩
theorem DRel.mono (k:Kept H H')(z: ∀o,H a=some o->H' a=some o): ∀ {c:DC},DRel K H a c->DRel K H' a c
 | .ik _,⟨kvs,e,q,r⟩=>⟨kvs,z _ e,q,r.mono k⟩
 | .tk _ _,⟨xs,e,n,q,t,r⟩=>⟨xs,z _ e,n,q,λx hx=>(t x hx).mono k,r.mono k⟩
structure RelH (K:G1)(h:HD)(H:Hp):Prop where
 ls: ∀a ds,h a=some ds-> ∃vs,H a=some (.lst vs)/\RelDs K H ds vs
 tb:CTabs K H
 dc: ∀a c,h.dc a=some c->DRel K H a c
instance {K:G1}{h:HD}{H:Hp}:CoeFun (RelH K h H) λ_=> ∀a ds,h a=some ds-> ∃vs,H a=some (.lst vs)/\RelDs K H ds vs:=⟨RelH.ls⟩
structure Sub (h h':HD):Prop where
 ls: ∀a ds,h a=some ds->h' a=some ds
 dc: ∀a c,h.dc a=some c->h'.dc a=some c
instance {h h':HD}:CoeFun (Sub h h') λ_=> ∀a ds,h a=some ds->h' a=some ds:=⟨Sub.ls⟩
theorem Sub.refl (h:HD):Sub h h:=⟨λ_ _ e=>e,λ_ _ e=>e⟩
theorem Sub.trans {a b c:HD}(x:Sub a b)(y:Sub b c):Sub a c:=⟨λd ds e=>y d ds (x d ds e),λd ds e=>y.dc d ds (x.dc d ds e)⟩
theorem Sub.drop (h:HD)(a:G4):Sub (Jd h a) h:=⟨λb ds e=>by
 have e:(if b=a then none else h b)=some ds:=e;split at e
 ·cases e
 ·exact e,λ_ _ e=>e⟩
theorem Sub.new (e:h p=none):Sub h (zt h p ds):=⟨λa es q=>(by
 rw [zb];exact q;intro z;subst z;rw [e] at q;cases q),λ_ _ e=>e⟩
section
variable {K:G1}{h h':HD}{H:Hp}
theorem RelH.sub (r:RelH K h H)(s:Sub h' h):RelH K h' H:=⟨λa ds e=>r a ds (s a ds e),r.tb,λa c e=>r.dc a c (s.dc a c e)⟩
theorem RelH.free (r:RelH K h H){p:G4}(e:H p=none):h p=none:=by
 cases q:h p with
 |none=>rfl
 |some ds=>obtain⟨vs,z,_⟩:=r p ds q;rw [e] at z;cases z
theorem RelH.dcN (r:RelH K h H){p:G4}{o:HO}(e:H p=none): ∀a c,h.dc a=some c->DRel K (upd H p o) a c:=λa c q=>
 (r.dc a c q).mono (.new e) λu z=>by rw [jd (je z e)];exact z
theorem RelH.new (r:RelH K h H){p:G4}{o:HO}(e:H p=none):RelH K h (upd H p o):=⟨λa ds q=>by
 obtain⟨vs,z,w⟩:=r a ds q;exact⟨vs,by rw [jd (je z e)];exact z,w.mono (.new e)⟩,r.tb.new e,r.dcN e⟩
theorem RelH.newL (r:RelH K h H){p:G4}{ds:G0 D}{vs:G0 V}(e:H p=none)(q:RelDs K H ds vs):RelH K (zt h p ds) (upd H p (.lst vs)):=⟨λa es z=>by
 by_cases w:a=p
 ·subst w;rw [jb] at z;cases z;exact⟨vs,jf,q.mono (.new e)⟩
 ·rw [zb w] at z;obtain⟨us,z1,z2⟩:=r a es z;exact⟨us,by rw [jd w];exact z1,z2.mono (.new e)⟩,r.tb.new e,r.dcN e⟩
theorem RelH.put (r:RelH K h H){p:G4}{ds:G0 D}{vs us:G0 V}(e:H p=some (.lst us))(q:RelDs K H ds vs):RelH K (zt h p ds) (upd H p (.lst vs)):=⟨λa es z=>by
 by_cases w:a=p
 ·subst w;rw [jb] at z;cases z;exact⟨vs,jf,q.mono (.put e)⟩
 ·rw [zb w] at z;obtain⟨us,z1,z2⟩:=r a es z;exact⟨us,by rw [jd w];exact z1,z2.mono (.put e)⟩,r.tb.put e,λa c z=>(r.dc a c z).mono (.put e) λo w=>by
   obtain⟨u,w',d⟩:=(r.dc a c z).obj;rw [jd (WA w' e (d.no.2.1 _))];exact w⟩
end
abbrev SD:=G0 (G7 D)
def RelS (K:G1)(H:Hp)(lI:SD)(σ:St):Prop:=lI.length=σ.length/\ ∀ (i:P5) (d:D),lI[i]? =some (some d)-> ∃v,σ[i]? =some (some v)/\RelD K H d v
theorem RelS.mono {lI:SD}(r:RelS K H lI σ)(k:Kept H H'):RelS K H' lI σ:=⟨r.1,λi d e=>let ⟨v,a,b⟩:=r.2 i d e;⟨v,a,b.mono k⟩⟩
theorem RelS.set {lI:SD}{d:D}{v:V}(r:RelS K H lI σ)(q:RelD K H d v)(i:P5):RelS K H (lI.set i (some d)) (σ.set i (some v)):=⟨by simp [r.1],λj e h=>by
 by_cases z:i=j
 ·subst z;rw [U8] at h ⊢
  by_cases hl:i<lI.length
  ·rw [S1 rfl,S1 hl] at h;rw [S1 rfl,S1 (by rw [<-r.1];exact hl)];cases h;exact⟨v,rfl,q⟩
  ·rw [S1 rfl,S9 hl] at h;cases h
 ·rw [C5 z] at h ⊢;exact r.2 j e h⟩
theorem RelS.clear1 {lI:SD}(r:RelS K H lI σ)(i:P5):RelS K H (lI.set i none) (σ.set i none):=⟨by simp [r.1],λj e h=>by
 by_cases z:i=j
 ·subst z;rw [U8] at h;split at h
  ·split at h<;>cases h
  ·contradiction
 ·rw [C5 z] at h ⊢;exact r.2 j e h⟩
def zU:G0 P5->SD->SD
 | [],σ=>σ
 |j::js,σ=>zU js (σ.set j none)
theorem RelS.clear: ∀ (js:G0 P5) {lI:SD} {σ:St},RelS K H lI σ->RelS K H (zU js lI) (zw js σ)
 | [],_,_,r=>r
 |j::js,_,_,r=>RelS.clear js (r.clear1 j)
abbrev KD:=D->HD->Prop
abbrev TED:=SD->HD->KD->Prop
abbrev TTD:=SD->HD->(C3->HD->Prop)->Prop
abbrev TAD:=SD->HD->(G0 D->HD->Prop)->Prop
abbrev RD2:=D->D->HD->KD->Prop
abbrev RDn:=G0 D->HD->KD->Prop
structure EndsD where
 nx:SD->HD->Prop
 rt:KD
 bk:SD->HD->Prop:=λ_ _=>False
 ct:SD->HD->Prop:=λ_ _=>False
abbrev TSD:=EndsD->SD->HD->Prop
abbrev TGD:=D->SD->HD->(SD->HD->Prop)->Prop
def UW (K:G1)(H:Hp)(Qd:KD)(Q:VK):Prop:= ∀d v h' H',Kept H H'->RelH K h' H'->RelD K H' d v->Qd d h'->Q v H'
def LE (K:G1)(t:TED):TE:=λσ H Q=> ∃lI h Qd,RelS K H lI σ/\RelH K h H/\t lI h Qd/\UW K H Qd Q
def LT (K:G1)(t:TTD):TT:=λσ H Q=> ∃lI h Qd,RelS K H lI σ/\RelH K h H/\t lI h Qd/\ ∀b h' H',Kept H H'->RelH K h' H'->Qd b h'->Q b H'
def LA (K:G1)(t:TAD):TA:=λσ H Q=> ∃lI h Qd,RelS K H lI σ/\RelH K h H/\t lI h Qd/\ ∀ds vs h' H',Kept H H'->RelH K h' H'->RelDs K H' ds vs->Qd ds h'->Q vs H'
def LR (K:G1)(f:RD2):R2:=λx y H Q=> ∃dx dy h Qd,RelD K H dx x/\RelD K H dy y/\RelH K h H/\f dx dy h Qd/\UW K H Qd Q
def LC (K:G1)(f:RDn):G0 V->Hp->VK->Prop:=λxs H Q=> ∃ds h Qd,RelDs K H ds xs/\RelH K h H/\f ds h Qd/\UW K H Qd Q
def LG (K:G1)(g:TGD):TG:=λv σ H Q=> ∃d lI h Qd,RelD K H d v/\RelS K H lI σ/\RelH K h H/\g d lI h Qd/\ ∀lL h' lH H',Kept H H'->RelS K H' lL lH->RelH K h' H'->Qd lL h'->Q lH H'
def LS (K:G1)(t:TSD):TS:=λlQ σ H=> ∃lI h Dd,RelS K H lI σ/\RelH K h H/\t Dd lI h/\
 (∀lL h' lH H',Kept H H'->RelS K H' lL lH->RelH K h' H'->Dd.nx lL h'->lQ.nx lH H')/\UW K H Dd.rt lQ.rt/\
 (∀lL h' lH H',Kept H H'->RelS K H' lL lH->RelH K h' H'->Dd.bk lL h'->lQ.bk lH H')/\(∀lL h' lH H',Kept H H'->RelS K H' lL lH->RelH K h' H'->Dd.ct lL h'->lQ.ct lH H')
theorem PE.imp {t t':TE}(h:PE X e t)(i: ∀σ H Q,t' σ H Q->t σ H Q):PE X e t':=λpins s σ H Q I q=>h pins s σ H Q I (i σ H Q q)
theorem PT.imp {t t':TT}(h:PT X e t)(i: ∀σ H Q,t' σ H Q->t σ H Q):PT X e t':=λpins s σ H Q I q=>h pins s σ H Q I (i σ H Q q)
theorem PW.imp {t t':TT}(h:PW X e t)(i: ∀σ H Q,t' σ H Q->t σ H Q):PW X e t':=λwh pins s σ H Q I q=>h wh pins s σ H Q I (i σ H Q q)
theorem PA.imp {e:G0 D2}{t t':TA}(h:PA X e t)(i: ∀σ H Q,t' σ H Q->t σ H Q):PA X e t':=λpos pins s σ H Q I q=>h pos pins s σ H Q I (i σ H Q q)
theorem PS.imp {e:N2}{t t':TS}(h:PS X e t)(i: ∀D σ H,t' D σ H->t D σ H):PS X e t':=λpins s σ H D I q=>h pins s σ H D I (i D σ H q)
theorem PSs.imp {e:G0 N2}{t t':TS}(h:PSs X e t)(i: ∀D σ H,t' D σ H->t D σ H):PSs X e t':=λpins s σ H D I q=>h pins s σ H D I (i D σ H q)
theorem PG.imp {t t':TG}(h:PG X e t)(i: ∀v σ H Q,t' v σ H Q->t v σ H Q):PG X e t':=λpins s σ H v u Q I r q=>h pins s σ H v u Q I r (i v σ H Q q)
theorem OpR.imp {f:G2->G2->Sem G2}{r r':R2}(h:OpR X f r)(i: ∀x y H Q,r' x y H Q->r x y H Q):OpR X f r':=λpins s σ H x y v u Q I a b q=>h pins s σ H x y v u Q I a b (i x y H Q q)
theorem CallR.imp {f:G2}{r r':G0 V->Hp->VK->Prop}(h:CallR X f r)(i: ∀xs H Q,r' xs H Q->r xs H Q):CallR X f r':=λpins s σ H xs us Q I a q=>h pins s σ H xs us Q I a (i xs H Q q)
def Je (i:P5):TED:=λσ h Q=> ∃d,σ[i]? =some (some d)/\Q d h
def dC (d:D):TED:=λ_ h Q=>Q d h
def dOp (f:RD2)(ta tb:TED):TED:=λσ h Q=>ta σ h λx h1=>tb σ h1 λy h2=>f x y h2 Q
def yx:TAD:=λ_ h Q=>Q [] h
def jG (ta:TED)(tr:TAD):TAD:=λσ h Q=>ta σ h λx h1=>tr σ h1 λxs h2=>Q (x::xs) h2
def Gp (t:TAD):TED:=λσ h Q=>t σ h λds h1=>ds.length<=sizeLine/\Q (.tup ds) h1
def UX (t:TAD):TED:=λσ h Q=>t σ h λds h1=>ds.length<=sizeLine/\ ∀p,h1 p=none->Q (.lst p) (zt h1 p ds)
def dCB (r:RDn)(t:TAD):TED:=λσ h Q=>t σ h λds h1=>r ds h1 Q
def wE (t:TED):TTD:=λσ h Q=>t σ h λx h1=> ∃k,x= .bl k/\Q k h1
def vP (r r':RD2)(ta tb tc:TED):TED:=λσ h Q=>ta σ h λx h1=>tb σ h1 λy h2=>r x y h2 λz h3=> ∃k,z= .bl k/\
 (if k=true then tc σ h3 λw h4=>r' y w h4 Q else Q (.bl false) h3)
def XX (t u:TTD):TTD:=λσ h Q=>t σ h λc h1=>if c=true then Q true h1 else u σ h1 Q
def JP (t:TTD):TTD:=λσ h Q=>t σ h λc h1=>Q (!c) h1
def YC (ta tb:TED):TED:=λσ h Q=>ta σ h λx h1=> ∃c,x= .bl c/\if c=true then tb σ h1 Q else Q (.bl false) h1
def RF (ta tb:TED):TED:=λσ h Q=>ta σ h λx h1=> ∃c,x= .bl c/\if c=true then Q (.bl true) h1 else tb σ h1 Q
def YD (ta:TED):TED:=λσ h Q=>ta σ h λx h1=> ∃c,x= .bl c/\Q (.bl (!c)) h1
def dIf (t:TTD)(ta tb:TED):TED:=λσ h Q=>t σ h λc h1=>if c=true then ta σ h1 Q else tb σ h1 Q
section
variable {K:G1}
theorem Ph (i:P5): ∀σ H Q,LE K (Je i) σ H Q->MJ i σ H Q:=λσ H Q ⟨lI,h,Qd,rs,rh,⟨d,e,q⟩,p⟩=>let ⟨v,e1,e2⟩:=rs.2 i d e;⟨v,e1,p d v h H (.refl H) rh e2 q⟩
theorem Pi {d:D}{v:V}(r: ∀H,RelD K H d v): ∀σ H Q,LE K (dC d) σ H Q->tC v σ H Q:=λσ H Q ⟨lI,h,Qd,rs,rh,q,p⟩=>p d v h H (.refl H) rh (r H) q
variable {H:Hp}
theorem jn {H1:Hp}{Qd:KD}{Q:VK}(p:UW K H Qd Q)(k:Kept H H1):UW K H1 Qd Q:=λd v h' H' k'=>p d v h' H' (k.trans k')
variable {ta:TED}
theorem LE.bind {σ:St}{lI:SD}{h:HD}{kd:KD}{k:VK}(rs:RelS K H lI σ)(rh:RelH K h H)(t:ta lI h kd)(f: ∀d v h' H',Kept H H'->RelS K H' lI σ->RelH K h' H'->RelD K H' d v->kd d h'->k v H'):LE K ta σ H k:=
 ⟨lI,h,kd,rs,rh,t,λd v h' H' kp r1 r2 q=>f d v h' H' kp (rs.mono kp) r1 r2 q⟩
theorem LT.bind {ta:TTD}{σ:St}{lI:SD}{h:HD}{kd:C3->HD->Prop}{k:C3->Hp->Prop}(rs:RelS K H lI σ)(rh:RelH K h H)(t:ta lI h kd)(f: ∀b h' H',Kept H H'->RelS K H' lI σ->RelH K h' H'->kd b h'->k b H'):LT K ta σ H k:=
 ⟨lI,h,kd,rs,rh,t,λb h' H' kp r1 q=>f b h' H' kp (rs.mono kp) r1 q⟩
theorem LA.bind {ta:TAD}{σ:St}{lI:SD}{h:HD}{kd:G0 D->HD->Prop}{k:G0 V->Hp->Prop}(rs:RelS K H lI σ)(rh:RelH K h H)(t:ta lI h kd)(f: ∀ds vs h' H',Kept H H'->RelS K H' lI σ->RelH K h' H'->RelDs K H' ds vs->kd ds h'->k vs H'):LA K ta σ H k:=
 ⟨lI,h,kd,rs,rh,t,λd v h' H' kp r1 r2 q=>f d v h' H' kp (rs.mono kp) r1 r2 q⟩
variable {tb:TED}
theorem XY {f:RD2}: ∀σ H Q,LE K (dOp f ta tb) σ H Q->tOp (LR K f) (LE K ta) (LE K tb) σ H Q:=λσ H Q ⟨lI,h,Qd,rs,rh,t,p⟩=>
 LE.bind rs rh t λd v h1 H1 k1 rs1 rh1 r1 t1=>LE.bind rs1 rh1 t1 λd2 v2 h2 H2 k2 rs2 rh2 r2 t2=>⟨d,d2,h2,Qd,r1.mono k2,r2,rh2,t2,jn p (k1.trans k2)⟩
theorem Pj: ∀σ H Q,LA K yx σ H Q->Rs σ H Q:=λσ H Q ⟨lI,h,Qd,rs,rh,t,p⟩=>p [] [] h H (.refl H) rh rfl t
theorem XZ {tr:TAD}: ∀σ H Q,LA K (jG ta tr) σ H Q->VS (LE K ta) (LA K tr) σ H Q:=λσ H Q ⟨lI,h,Qd,rs,rh,t,p⟩=>
 LE.bind rs rh t λd v h1 H1 k1 rs1 rh1 r1 t1=>LA.bind rs1 rh1 t1 λds vs h2 H2 k2 rs2 rh2 r2 t2=>p _ _ h2 H2 (k1.trans k2) rh2 (.cons (r1.mono k2) r2) t2
theorem Pk {t:TAD}: ∀σ H Q,LE K (Gp t) σ H Q->MX (LA K t) σ H Q:=λσ H Q ⟨lI,h,Qd,rs,rh,t,p⟩=>
 LA.bind rs rh t λds vs h1 H1 k1 rs1 rh1 r1 ⟨z,q⟩=>⟨by rw [<-r1.length];exact z,λa ha=>p (.tup ds) (.ref a) h1 _ (k1.trans (.new ha)) (rh1.new ha) ⟨a,vs,rfl,jf,r1.mono (.new ha)⟩ q⟩
theorem Pm {t:TAD}: ∀σ H Q,LE K (UX t) σ H Q->MY (LA K t) σ H Q:=λσ H Q ⟨lI,h,Qd,rs,rh,t,p⟩=>
 LA.bind rs rh t λds vs h1 H1 k1 rs1 rh1 r1 ⟨z,q⟩=>⟨by rw [<-r1.length];exact z,λa ha=>p (.lst a) (.ref a) _ _ (k1.trans (.new ha)) (rh1.newL ha r1) ⟨rfl,vs,jf⟩ (q a (rh1.free ha))⟩
theorem Po {r:RDn}{t:TAD}: ∀σ H Q,LE K (dCB r t) σ H Q->tCB (LC K r) (LA K t) σ H Q:=λσ H Q ⟨lI,h,Qd,rs,rh,t,p⟩=>
 LA.bind rs rh t λds vs h1 H1 k1 rs1 rh1 r1 q=>⟨ds,h1,Qd,r1,rh1,q,jn p k1⟩
theorem YE {t:TED}: ∀σ H Q,LT K (wE t) σ H Q->XE (LE K t) σ H Q:=λσ H Q ⟨lI,h,Qd,rs,rh,t,p⟩=>
 LE.bind rs rh t λd v h1 H1 k1 rs1 rh1 r1 ⟨k,e,q⟩=>by subst e;exact⟨k,r1,p k h1 H1 k1 rh1 q⟩
theorem Ud {t:TED}: ∀σ H Q,LT K (wE t) σ H Q->tB (LE K t) σ H Q:=λσ H Q ⟨lI,h,Qd,rs,rh,t,p⟩=>
 LE.bind rs rh t λd v h1 H1 k1 rs1 rh1 r1 ⟨k,e,q⟩=>by subst e;exact⟨k,r1,p k h1 H1 k1 rh1 q⟩
theorem Ue {r r':RD2}{tc:TED}: ∀σ H Q,LE K (vP r r' ta tb tc) σ H Q->US (LR K r) (LR K r') (LE K ta) (LE K tb) (LE K tc) σ H Q:=λσ H Q ⟨lI,h,Qd,rs,rh,t,p⟩=>
 LE.bind rs rh t λd v h1 H1 k1 rs1 rh1 r1 t1=>LE.bind rs1 rh1 t1 λd2 v2 h2 H2 k2 rs2 rh2 r2 t2=>⟨d,d2,h2,_,r1.mono k2,r2,rh2,t2,λd3 v3 h3 H3 k3 rh3 r3 ⟨k,e,q⟩=>by
  subst e;refine⟨k,r3,?_⟩;cases k with
  |true=>
   rw [S1 rfl] at q ⊢;exact LE.bind (rs2.mono k3) rh3 q λd4 v4 h4 H4 k4 rs4 rh4 r4 t4=>⟨d2,d4,h4,Qd,(r2.mono k3).mono k4,r4,rh4,t4,jn p (k1.trans (k2.trans (k3.trans k4)))⟩
  |false=>
   rw [S9 P4] at q ⊢;exact p (.bl false) _ h3 H3 (k1.trans (k2.trans k3)) rh3 rfl q⟩
theorem RG {t u:TTD}: ∀σ H Q,LT K (XX t u) σ H Q->tOr (LT K t) (LT K u) σ H Q:=λσ H Q ⟨lI,h,Qd,rs,rh,t,p⟩=>
 LT.bind rs rh t λb h1 H1 k1 rs1 rh1 q=>by
  cases b with
  |true=>rw [S1 rfl] at q ⊢;exact p _ _ _ k1 rh1 q
  |false=>rw [S9 P4] at q ⊢;exact⟨lI,h1,Qd,rs1,rh1,q,λb h' H' k=>p b h' H' (k1.trans k)⟩
theorem Pp {t:TTD}: ∀σ H Q,LT K (JP t) σ H Q->MK (LT K t) σ H Q:=λσ H Q ⟨lI,h,Qd,rs,rh,t,p⟩=>
 LT.bind rs rh t λb h1 H1 k1 rs1 rh1 q=>p _ _ _ k1 rh1 q
theorem Pq: ∀σ H Q,LE K (YC ta tb) σ H Q->GA (LE K ta) (LE K tb) σ H Q:=λσ H Q ⟨lI,h,Qd,rs,rh,t,p⟩=>
 LE.bind rs rh t λd v h1 H1 k1 rs1 rh1 r1 ⟨c,e,q⟩=>by
  subst e;refine⟨c,r1,?_⟩;cases c with
  |true=>rw [S1 rfl] at q ⊢;exact⟨lI,h1,Qd,rs1,rh1,q,jn p k1⟩
  |false=>rw [S9 P4] at q ⊢;exact p (.bl false) _ _ _ k1 rh1 rfl q
theorem RH: ∀σ H Q,LE K (RF ta tb) σ H Q->ML (LE K ta) (LE K tb) σ H Q:=λσ H Q ⟨lI,h,Qd,rs,rh,t,p⟩=>
 LE.bind rs rh t λd v h1 H1 k1 rs1 rh1 r1 ⟨c,e,q⟩=>by
  subst e;refine⟨c,r1,?_⟩;cases c with
  |true=>rw [S1 rfl] at q ⊢;exact p (.bl true) _ _ _ k1 rh1 rfl q
  |false=>rw [S9 P4] at q ⊢;exact⟨lI,h1,Qd,rs1,rh1,q,jn p k1⟩
theorem Pr: ∀σ H Q,LE K (YD ta) σ H Q->GB (LE K ta) σ H Q:=λσ H Q ⟨lI,h,Qd,rs,rh,t,p⟩=>
 LE.bind rs rh t λd v h1 H1 k1 rs1 rh1 r1 ⟨c,e,q⟩=>by subst e;exact⟨c,r1,p (.bl (!c)) _ _ _ k1 rh1 rfl q⟩
theorem RI {t:TTD}: ∀σ H Q,LE K (dIf t ta tb) σ H Q->tIf (LT K t) (LE K ta) (LE K tb) σ H Q:=λσ H Q ⟨lI,h,Qd,rs,rh,t,p⟩=>
 LT.bind rs rh t λb h1 H1 k1 rs1 rh1 q=>by
  cases b with
  |true=>rw [S1 rfl] at q ⊢;exact⟨lI,h1,Qd,rs1,rh1,q,jn p k1⟩
  |false=>rw [S9 P4] at q ⊢;exact⟨lI,h1,Qd,rs1,rh1,q,jn p k1⟩
end
abbrev QE (X:Cx)(e:D2)(t:TED):Prop:=PE X e (LE X.K t)
abbrev QT (X:Cx)(e:D2)(t:TTD):Prop:=PT X e (LT X.K t)
abbrev QW (X:Cx)(e:D2)(t:TTD):Prop:=PW X e (LT X.K t)
abbrev QA (X:Cx)(es:G0 D2)(t:TAD):Prop:=PA X es (LA X.K t)
abbrev QS (X:Cx)(s:N2)(t:TSD):Prop:=PS X s (LS X.K t)
abbrev QSs (X:Cx)(s:G0 N2)(t:TSD):Prop:=PSs X s (LS X.K t)
abbrev QG (X:Cx)(e:D2)(t:TGD):Prop:=PG X e (LG X.K t)
abbrev OpQ (X:Cx)(f:G2->G2->Sem G2)(r:RD2):Prop:=OpR X f (LR X.K r)
abbrev wx (X:Cx)(f:G2)(r:RDn):Prop:=CallR X f (LC X.K r)
section
variable {X:Cx}{a b c e:D2}{es zu:G0 D2}{ta tb tc te:TED}{t u:TAD}{tt tu:TTD}{pos:Pos}{f r r':RD2}
theorem qv (i:P5){x:Str}(hN:X.N[i]? =some x:=by rfl)(hv:Vis X.env.scope x:=by first|exact W0 rfl|exact bO (W0 rfl)|exact bO (bO rfl))(hd:(x==("__debug__" :Str))=false:=by decide)
 (hcd:(x==("__classdict__" :Str))=false:=by decide):QE X (.Name x pos) (Je i):=(Gw hN hv hd hcd).imp (Ph i)
variable {j:P5}
theorem RJ {i:P7}:QE X (.Constant (.int i) j pos) (dC (.int i)):=pe_int.imp (Pi λ_=>rfl)
theorem qbl {i:C3}:QE X (.Constant (.bool i) j pos) (dC (.bl i)):=pe_bl.imp (Pi λ_=>rfl)
theorem NF:QE X (.Constant .none j pos) (dC .non):=pe_non.imp (Pi λ_=>rfl)
theorem NG {x:Str}:QE X (.Constant (.str x) j pos) (dC (.str x)):=pe_str.imp (Pi λ_=>rfl)
theorem RK {x:Str}{i:P7}{tk:Tok}(hg:Gl X x)(hm:X.mg x=some (.int i tk))(hd:(x==("__debug__" :Str))=false:=by decide):QE X (.Name x pos) (dC (.int i)):=
 (ZD (v:= .int i) hg hm ⟨tk,rfl⟩ hd).imp (Pi λ_=>rfl)
theorem qop {op:iU}(ho:OpQ X (N7 op) f)(ha:QE X a ta)(hb:QE X b tb):QE X (.BinOp a op b pos) (dOp f ta tb):=(Rm ho ha hb).imp XY
theorem NH {op:cC}(ho:OpQ X (S5 op) f)(ha:QE X a ta)(hb:QE X b tb)(hm:L0 op b=false):QE X (.Compare a [op] [b] pos) (dOp f ta tb):=(XD ho ha hb hm).imp XY
theorem RL {op:cC}(ho:OpQ X (S5 op) f)(ha:QE X a ta)(hb:QE X b tb)(hm:L0 op b=false):QT X (.Compare a [op] [b] pos) (wE (dOp f ta tb)):=
 (XF ho ha hb hm).imp λσ H Q h=>by
  obtain⟨lI,h,Qd,rs,rh,t,p⟩:=YE (t:=dOp f ta tb) σ H Q h;exact XY σ H _ ⟨lI,h,Qd,rs,rh,t,p⟩
theorem Qa {op op':cC}(ho:OpQ X (S5 op) r)(ho':OpQ X (S5 op') r')(ha:QE X a ta)(hb:QE X b tb)(hc:QE X c tc)(hm:g3 [op,op'] [b,c]=false:=by with_unfolding_all rfl):
 QT X (.Compare a [op,op'] [b,c] pos) (wE (vP r r' ta tb tc)):=(VQ ho ho' ha hb hc hm).imp λσ H Q h=>by
 obtain⟨lI,h,Qd,rs,rh,t,p⟩:=YE (t:=vP r r' ta tb tc) σ H Q h;exact Ue σ H _ ⟨lI,h,Qd,rs,rh,t,p⟩
theorem RM (ha:QE X a ta)(he: ∀whole,isTrue a X.env whole=(do let v <-whole;cQ a.pos;U3 [v] (k7 v)):=by intro _;rfl):QT X a (wE ta):=(Gx ha he).imp Ud
theorem NI (ha:QT X a tt):QW X (.BoolOp .Or [a] pos) tt:=Gy ha
theorem NJ (ha:QT X a tt)(hb:QW X (.BoolOp .Or (b::zu) pos) tu):QW X (.BoolOp .Or (a::b::zu) pos) (XX tt tu):=(Rh ha hb).imp RG
theorem RN (ha:QT X a tt):QT X (.UnaryOp .Not a pos) (JP tt):=(Gz ha).imp Pp
theorem NK {op:BoolOp}(ha:QE X a ta):QE X (.BoolOp op [a] pos) ta:=GC ha
theorem NL (ha:QE X a ta)(hb:QE X (.BoolOp .And (b::zu) pos) tb):QE X (.BoolOp .And (a::b::zu) pos) (YC ta tb):=(GD ha hb).imp Pq
theorem qor (ha:QE X a ta)(hb:QE X (.BoolOp .Or (b::zu) pos) tb):QE X (.BoolOp .Or (a::b::zu) pos) (RF ta tb):=(Ri ha hb).imp RH
theorem NM (ha:QE X a ta):QE X (.UnaryOp .Not a pos) (YD ta):=(GE ha).imp Pr
theorem qif {c:D2}(hc:QT X c tt)(ha:QE X a ta)(hb:QE X b tb):QE X (.IfExp c a b pos) (dIf tt ta tb):=(VL hc ha hb).imp RI
theorem Ps:QA X [] yx:=pa_nil.imp Pj
theorem Qb (ha:QE X e te)(hr:QA X es t)(hs:G6 (e::es) X.env=(false,N5 e X.env)::G6 es X.env:=by rfl):QA X (e::es) (jG te t):=(jT ha hr hs).imp XZ
theorem NN {k:P5}(h:QA X es t):QE X (.Tuple es k pos) (Gp t):=(GW h).imp Pk
theorem NO (h:QA X es t):QE X (.List es pos) (UX t):=(GX h).imp Pm
end
def vz:TSD:=λD σ h=>D.nx σ h
def zV (t u:TSD):TSD:=λD σ h=>t {D with nx:=u D} σ h
def Qc (te:TED):TSD:=λD σ h=>te σ h λ_ h1=>D.nx σ h1
def ZA (te:TED):TSD:=λD σ h=>te σ h D.rt
def VG (c:TTD)(t u:TSD):TSD:=λD σ h=>c σ h λb h1=>if b=true then t D σ h1 else u D σ h1
def Yc (i:P5)(te:TED):TSD:=λD σ h=>te σ h λd h1=>D.nx (σ.set i (some d)) h1
def RO (te:TED)(g:TGD):TSD:=λD σ h=>te σ h λx h1=>g x σ h1 D.nx
def Rc (i j:P5)(ta:TAD):TSD:=λD σ h=>ta σ h λds h1=> ∃v w,ds= [v,w]/\D.nx ((σ.set i (some v)).set j (some w)) h1
def gN (i:P5):TGD:=λd σ h Q=>Q (σ.set i (some d)) h
def gT2 (i j:P5):TGD:=λd σ h Q=> ∃x y,d= .tup [x,y]/\Q ((σ.set i (some x)).set j (some y)) h
section
variable {K:G1}
theorem LS.of {t:TSD}{lQ:Ends}{σ:St}{H:Hp}{lI:SD}{h:HD}{Dd:EndsD}(rs:RelS K H lI σ)(rh:RelH K h H)(q:t Dd lI h)
 (nx: ∀lL h' lH H',Kept H H'->RelS K H' lL lH->RelH K h' H'->Dd.nx lL h'->lQ.nx lH H')(rt:UW K H Dd.rt lQ.rt)
 (bk: ∀lL h' lH H',Kept H H'->RelS K H' lL lH->RelH K h' H'->Dd.bk lL h'->lQ.bk lH H')(ct: ∀lL h' lH H',Kept H H'->RelS K H' lL lH->RelH K h' H'->Dd.ct lL h'->lQ.ct lH H'):LS K t lQ σ H:=⟨lI,h,Dd,rs,rh,q,nx,rt,bk,ct⟩
theorem Qe: ∀D σ H,LS K vz D σ H->GF D σ H:=λD σ H ⟨lI,h,Dd,rs,rh,q,nx,_⟩=>nx lI h σ H (.refl H) rs rh q
theorem Pu {t u:TSD}: ∀D σ H,LS K (zV t u) D σ H->MM (LS K t) (LS K u) D σ H:=λD σ H ⟨lI,h,Dd,rs,rh,q,nx,rt,bk,ct⟩=>
 LS.of rs rh q (λlL h' lH H' k rs' rh' q'=>⟨lL,h',Dd,rs',rh',q',λa b c d k'=>nx a b c d (k.trans k'),jn rt k,λa b c d k'=>bk a b c d (k.trans k'),λa b c d k'=>ct a b c d (k.trans k')⟩) rt bk ct
variable {te:TED}
theorem Qf: ∀D σ H,LS K (Qc te) D σ H->GG (LE K te) D σ H:=λD σ H ⟨lI,h,Dd,rs,rh,q,nx,rt,bk,ct⟩=>
 LE.bind rs rh q λd v h1 H1 k1 rs1 rh1 r1 q1=>nx _ _ _ _ k1 rs1 rh1 q1
theorem Pv: ∀D σ H,LS K (ZA te) D σ H->MN (LE K te) D σ H:=λD σ H ⟨lI,h,Dd,rs,rh,q,nx,rt,bk,ct⟩=>⟨lI,h,Dd.rt,rs,rh,q,rt⟩
theorem RQ {c:TTD}{t u:TSD}: ∀D σ H,LS K (VG c t u) D σ H->MO (LT K c) (LS K t) (LS K u) D σ H:=λD σ H ⟨lI,h,Dd,rs,rh,q,nx,rt,bk,ct⟩=>
 LT.bind rs rh q λb h1 H1 k rs1 rh1 q1=>by
  cases b with
  |true=>rw [S1 rfl] at q1 ⊢;exact⟨lI,h1,Dd,rs1,rh1,q1,λa b c d k'=>nx a b c d (k.trans k'),jn rt k,λa b c d k'=>bk a b c d (k.trans k'),λa b c d k'=>ct a b c d (k.trans k')⟩
  |false=>rw [S9 P4] at q1 ⊢;exact⟨lI,h1,Dd,rs1,rh1,q1,λa b c d k'=>nx a b c d (k.trans k'),jn rt k,λa b c d k'=>bk a b c d (k.trans k'),λa b c d k'=>ct a b c d (k.trans k')⟩
theorem UY {i:P5}: ∀D σ H,LS K (Yc i te) D σ H->XA (LE K te) (vw i) D σ H:=λD σ H ⟨lI,h,Dd,rs,rh,q,nx,rt,bk,ct⟩=>
 LE.bind rs rh q λd v h1 H1 k1 rs1 rh1 r1 q1=>nx _ _ _ _ k1 (rs1.set r1 i) rh1 q1
theorem Pw {g:TGD}: ∀D σ H,LS K (RO te g) D σ H->XA (LE K te) (LG K g) D σ H:=λD σ H ⟨lI,h,Dd,rs,rh,q,nx,rt,bk,ct⟩=>
 LE.bind rs rh q λd v h1 H1 k1 rs1 rh1 r1 q1=>⟨d,lI,h1,_,r1,rs1,rh1,q1,λa b c e k'=>nx a b c e (k1.trans k')⟩
theorem Px {i j:P5}{ta:TAD}: ∀D σ H,LS K (Rc i j ta) D σ H->MS i j (LA K ta) D σ H:=λD σ H ⟨lI,h,Dd,rs,rh,q,nx,rt,bk,ct⟩=>
 LA.bind rs rh q λds vs h1 H1 k1 rs1 rh1 r1 ⟨x,y,e,q1⟩=>by
  subst e;obtain⟨v,r,e,r2,r3⟩:=(show ∃v r,vs=v::r/\RelD K H1 x v/\RelDs K H1 [y] r from r1);obtain⟨w,r',e',r4,r5⟩:=(show ∃v r',r=v::r'/\RelD K H1 y v/\RelDs K H1 [] r' from r3);cases (show r'= [] from r5);subst e' e;exact⟨v,w,rfl,nx _ _ _ _ k1 ((rs1.set r2 i).set r4 j) rh1 q1⟩
theorem Qg (i:P5): ∀v σ H Q,LG K (gN i) v σ H Q->vw i v σ H Q:=λv σ H Q ⟨d,lI,h,Qd,r,rs,rh,q,p⟩=>p _ _ _ _ (.refl H) (rs.set r i) rh q
theorem yT {H:Hp}{x y:D}{vs:G0 V}(r:RelDs K H [x,y] vs): ∃v w,vs= [v,w]/\RelD K H x v/\RelD K H y w:=by
 obtain⟨v,r1,e,r2,r3⟩:=(show ∃v r,vs=v::r/\RelD K H x v/\RelDs K H [y] r from r);obtain⟨w,z,e',r4,r5⟩:=(show ∃v z,r1=v::z/\RelD K H y v/\RelDs K H [] z from r3);cases (show z= [] from r5);subst e' e;exact⟨v,w,rfl,r2,r4⟩
theorem jr {H:Hp}{x:D}{vs:G0 V}(r:RelDs K H [x] vs): ∃v,vs= [v]/\RelD K H x v:=by
 obtain⟨v,r1,e,r2,r3⟩:=(show ∃v r,vs=v::r/\RelD K H x v/\RelDs K H [] r from r);cases (show r1= [] from r3);exact⟨v,e,r2⟩
theorem Py (i j:P5): ∀v σ H Q,LG K (gT2 i j) v σ H Q->MR K 2 (Xy (vw i) (Xy (vw j) MQ)) v σ H Q:=λv σ H Q ⟨d,lI,h,Qd,r,rs,rh,⟨x,y,e,q⟩,p⟩=>by
 subst e;obtain⟨a,vs,e,hH,r1⟩:=(show ∃a vs,v= .ref a/\H a=some (.tup vs)/\RelDs K H [x,y] vs from r);obtain⟨v1,v2,e1,r2,r3⟩:=yT r1;subst e e1;exact⟨a,[v1,v2],rfl,SqT.of hH,rfl,v1,[v2],rfl,v2,[],rfl,rfl,p _ _ _ _ (.refl H) ((rs.set r2 i).set r3 j) rh q⟩
end
section
variable {X:Cx}{st:N2}{sts:G0 N2}{t u:TSD}{e:D2}{te:TED}{pos:Pos}
theorem Pz:QSs X [] vz:=pss_nil.imp Qe
theorem Qh (h1:QS X st t)(h2:QSs X sts u):QSs X (st::sts) (zV t u):=(VM h1 h2).imp Pu
theorem PB (h1:QS X st t):QSs X [st] t:=Xw h1
theorem RR (he:QE X e te)(hs:A2 e none pos.line X.env=pure false:=by rfl):QS X (.Expr e pos) (Qc te):=(Xx he hs).imp Qf
theorem NP (he:QE X e te):QS X (.Return (some e) pos) (ZA te):=(GH he).imp Pv
theorem NQ {c:D2}{a b:G0 N2}{tc:TTD}(hc:QT X c tc)(ha:QSs X a t)(hb:QSs X b u):QS X (.If c a b pos) (VG tc t u):=(Rj hc ha hb).imp RQ
variable {i:P5}{x:Str}
theorem NR {pos':Pos}(hN:X.N.Nodup)(hi:X.N[i]? =some x)(hx:Loc X.env.scope x)(he:QE X e te)(hs:A2 e (some (.Name x pos')) pos.line X.env=pure false:=by rfl)
 (hf:X.fn x=true\/X.env.scope.names.lookup x=some .local:=by first|exact .inl rfl|exact .inr rfl|assumption):QS X (.Assign [.Name x pos'] e pos) (Yc i te):=(GL hN hi hx he hs hf).imp UY
theorem Qi (hN:X.N.Nodup)(hi:X.N[i]? =some x)(hx:Loc X.env.scope x)(hf:X.fn x=true\/X.env.scope.names.lookup x=some .local:=by first|exact .inl rfl|exact .inr rfl|assumption):QG X (.Name x pos) (gN i):=
 (yf hN hi hx hf).imp (Qg i)
theorem PC {j:P5}{y:Str}{p1 p2:Pos}{k:P5}(hc:X.calm=true)(hN:X.N.Nodup)(hi:X.N[i]? =some x)(hj:X.N[j]? =some y)(hx:Loc X.env.scope x)(hy:Loc X.env.scope y)
 (hf:X.fn x=true\/X.env.scope.names.lookup x=some .local:=by first|exact .inl rfl|exact .inr rfl|assumption)(hf2:X.fn y=true\/X.env.scope.names.lookup y=some .local:=by first|exact .inl rfl|exact .inr rfl|assumption):
 QG X (.Tuple [.Name x p1,.Name y p2] k pos) (gT2 i j):=(GI hc (Wc (yf hN hi hx hf) (Wc (yf hN hj hy hf2) Xz))).imp (Py i j)
theorem NS {tg:D2}{g:TGD}(he:QE X e te)(hg:QG X tg g)(hs:K2 [tg] e pos.line X.env=pure false:=by rfl)(hsw:K3 [tg] e X.env=pure none:=by rfl)
 (h1:(Q3 [tg] X.env).map (·.2)= [W2 tg X.env]:=by rfl):QS X (.Assign [tg] e pos) (RO te g):=(GK he hg hs hsw h1).imp Pw
theorem NT {j:P5}{y:Str}{a b:D2}{ta:TAD}{px py pt:Pos}{kt k2 pt2}(hc:X.calm=true)(hN:X.N.Nodup)(hi:X.N[i]? =some x)(hj:X.N[j]? =some y)(hij:i≠j)
 (hx:X.env.scope.names.lookup x=some .local)(hy:X.env.scope.names.lookup y=some .local)(ha:QA X [a,b] ta)
 (hw:K3 [.Tuple [.Name x px,.Name y py] kt pt] (.Tuple [a,b] k2 pt2) X.env=pure (some [x,y]))
 (hs:K2 [.Tuple [.Name x px,.Name y py] kt pt] (.Tuple [a,b] k2 pt2) pos.line X.env=pure false:=by rfl):
 QS X (.Assign [.Tuple [.Name x px,.Name y py] kt pt] (.Tuple [a,b] k2 pt2) pos) (Rc i j ta):=(GM hc hN hi hj hij hx hy ha hw hs).imp Px
end
abbrev ItD:=HD->G7 (G0 D)
def Qj (K:G1)(H:Hp)(j:ItD)(J:It):Prop:= ∀H' h',Kept H H'->RelH K h' H'-> ∀ds,j h'=some ds-> ∀i:P5,
 (∀d,ds[i]? =some d->J.go i H'/\ ∀x H'',J.yld i H' x H''->Kept H' H''/\RelH K h' H''/\RelD K H'' d x)/\(ds.length<=i->J.stop i H')
abbrev TID:=SD->HD->(ItD->HD->Prop)->Prop
def LI (K:G1)(t:TID):TI:=λσ H R=> ∃lI h Rd,RelS K H lI σ/\RelH K h H/\t lI h Rd/\ ∀j J h' H',Kept H H'->RelH K h' H'->Qj K H' j J->Rd j h'->R J H'
abbrev QI (X:Cx)(tg iter:D2)(t:TID):Prop:=PI X tg iter (LI X.K t)
theorem PI.imp {t t':TI}(h:PI X tg e t)(i: ∀σ H R,t' σ H R->t σ H R):PI X tg e t':=λpins s σ H R I q=>h pins s σ H R I (i σ H R q)
def iL (te:TED):TID:=λσ h R=>te σ h λx h1=> ∃a,x= .lst a/\R (λh=>h a) h1
def iR1 (ta:TAD):TID:=λσ h R=>ta σ h λds h1=> ∃n:P7,ds= [.int n]/\ -(2^62)<=n/\n<2^62/\R (λ_=>some ((C8 n.toNat).map λ(k:P5)=>D.int (k:P7))) h1
section
variable {K:G1}
theorem JQ (H:Hp)(a:G4):Qj K H (λh=>h a) (Itl K a):=λH' h' k rh ds e i=>by
 obtain⟨vs,hv,r⟩:=rh a ds e;refine⟨λd hd=> ?_,λhl=>⟨vs,SqL.of hv,by rw [<-r.length];exact hl⟩⟩;obtain⟨v,e1,e2⟩:=r.get hd;refine⟨⟨vs,v,SqL.of hv,e1⟩,λx H'' ⟨eH,hx⟩=> ?_⟩;subst eH;have:=hx vs (SqL.of hv);rw [e1] at this;cases this;exact⟨.refl _,rh,e2⟩
theorem Uf {H:Hp}{a:G4}{vs:G0 V}{ds:G0 D}(hv:H a=some (.tup vs))(r:RelDs K H ds vs):Qj K H (λ_=>some ds) (Itt K a):=λH' h' k rh ds' e i=>by
 cases e;have hv':=k.tup _ _ hv;have r':=r.mono k;refine⟨λd hd=> ?_,λhl=>⟨vs,SqT.of hv',by rw [<-r.length];exact hl⟩⟩;obtain⟨v,e1,e2⟩:=r'.get hd;refine⟨⟨vs,v,SqT.of hv',e1⟩,λx H'' ⟨eH,hx⟩=> ?_⟩;subst eH;have:=hx vs (SqT.of hv');rw [e1] at this;cases this;exact⟨.refl _,rh,e2⟩
theorem WH (H:Hp)(lo:P7)(n:P5)(ds:G0 D)(hd:ds=(C8 n).map λ(k:P5)=>D.int (lo+(k:P7))):Qj K H (λ_=>some ds) (Itr lo n):=λH' h' k rh ds' e i=>by
 cases e;subst hd;refine⟨λd hd=> ?_,λhl=>(show n<=i by simpa using hl)⟩;rw [R6] at hd;have hi:i<n:=by
  by_cases z:i<n
  ·exact z
  ·rw [b7 (by simpa using z)] at hd;cases hd
 rw [cV hi] at hd;cases hd;refine⟨hi,λx H'' ⟨eH,hx⟩=> ?_⟩;subst eH hx;exact⟨.refl _,rh,rfl⟩
theorem Qk {te:TED}: ∀σ H R,LI K (iL te) σ H R->GN K (LE K te) σ H R:=λσ H R ⟨lI,h,Rd,rs,rh,q,p⟩=>
 LE.bind rs rh q λd v h1 H1 k1 rs1 rh1 r1 ⟨a,e,q1⟩=>by
  subst e;obtain⟨e,vs,hv⟩:=(show v= .ref a/\ ∃vs,H1 a=some (.lst vs) from r1);exact⟨a,e,⟨vs,SqL.of hv⟩,p _ _ _ _ k1 rh1 (JQ H1 a) q1⟩
theorem RS {ta:TAD}: ∀σ H R,LI K (iR1 ta) σ H R->GO (LA K ta) σ H R:=λσ H R ⟨lI,h,Rd,rs,rh,q,p⟩=>
 LA.bind rs rh q λds vs h1 H1 k1 rs1 rh1 r1 ⟨n,e,b1,b2,q1⟩=>by
  subst e;obtain⟨v,e,r2⟩:=jr r1;cases (show v= .int n from r2);exact⟨n,e,b1,b2,p _ _ _ _ k1 rh1 (WH H1 0 n.toNat _ (by simp)) q1⟩
end
def PD (ti:TID)(g:TGD)(tb:TSD):TSD:=λD σ h=>ti σ h λj h1=> ∃ (n:P5) (W:P5->SD->HD->Prop),W 0 σ h1/\ ∀i lH h',W i lH h'-> ∃ds,j h'=some ds/\ds.length<=n/\(ds.length<=i->D.nx lH h')/\
 ∀d,ds[i]? =some d->g d lH h' λlK h2=>tb {D with nx:=λlM h3=> ∃h4,Sub h4 h3/\W (i+1) lM h4,ct:=λlM h3=> ∃h4,Sub h4 h3/\W (i+1) lM h4,bk:=D.nx} lK h2
theorem PF {ti:TID}{g:TGD}{tb:TSD}: ∀D σ H,LS K (PD ti g tb) D σ H->MT (LI K ti) (LG K g) (LS K tb) D σ H:=λD σ H ⟨lI,h,Dd,rs,rh,q,nx,rt,bk,ct⟩=>by
 refine⟨lI,h,_,rs,rh,q,λj J h1 H1 k1 rh1 jo ⟨n,W,w0,turn⟩=> ?_⟩;refine⟨λi m lH H'=>m=n-i/\Kept H1 H'/\ ∃lL h',RelS K H' lL lH/\RelH K h' H'/\W i lL h',⟨n-0,rfl,.refl _,lI,h1,rs.mono k1,rh1,w0⟩,?_⟩;rintro i m lH H' ⟨rfl,kp,lL,h',rs',rh',w⟩;obtain⟨ds,ej,hn,stop,go⟩:=turn i lL h' w;have jo':=jo H' h' kp rh' ds ej i
 by_cases hi:i<ds.length
 ·obtain⟨g1,y1⟩:=jo'.1 ds[i] (S2 hi);refine .inr ⟨g1,λlK H2=>Kept H1 H2/\ ∃lO h2,RelS K H2 lO lK/\RelH K h2 H2/\W (i+1) lO h2,λlK H2 ⟨k2,a,b,c,d,e⟩=>⟨n-(i+1),by omega,rfl,k2,a,b,c,d,e⟩,λx H'' y=> ?_⟩;obtain⟨k2,rh2,r2⟩:=y1 x H'' y;refine⟨ds[i],lL,h',_,r2,rs'.mono k2,rh2,go ds[i] (S2 hi),λmK h3 lM H3 k3 rs3 rh3 q3=> ?_⟩;have kk:Kept H H3:=k1.trans (kp.trans (k2.trans k3));have kk1:Kept H1 H3:=kp.trans (k2.trans k3);exact⟨mK,h3,_,rs3,rh3,q3,λa b c d k4 rs4 rh4 ⟨h4,sb,w4⟩=>⟨kk1.trans k4,a,h4,rs4,rh4.sub sb,w4⟩,jn rt kk,λa b c d k4 rs4 rh4 q4=>nx a b c d (kk.trans k4) rs4 rh4 q4,λa b c d k4 rs4 rh4 ⟨h4,sb,w4⟩=>⟨kk1.trans k4,a,h4,rs4,rh4.sub sb,w4⟩⟩
 ·exact .inl ⟨jo'.2 (dG.mp hi),nx _ _ _ _ (k1.trans kp) rs' rh' (stop (dG.mp hi))⟩
def ZH:TTD:=λ_ h Q=>Q true h
def Wh (bind:D->SD->SD->Prop)(js:G0 P5)(ti:TID)(tt:TTD)(te:TED):TED:=λσ h Q=>ti σ h λj h1=> ∃ (n:P5) (W:P5->G0 D->HD->Prop),W 0 [] h1/\ ∀i ys h',W i ys h'->ys.length<=sizeLine/\
 ∃ds,j h'=some ds/\ds.length<=n/\(ds.length<=i-> ∀p,h' p=none->Q (.lst p) (zt h' p ys))/\
  ∀d,ds[i]? =some d-> ∃lK,bind d (zU js σ) lK/\tt lK h' λb h3=>if b=true then te lK h3 λy h4=> ∃h5,Sub h5 h4/\W (i+1) (ys++ [y]) h5 else ∃h5,Sub h5 h3/\W (i+1) ys h5
def bN (i:P5):D->SD->SD->Prop:=λd σ lK=>lK=σ.set i (some d)
def b2 (i j:P5):D->SD->SD->Prop:=λd σ lK=> ∃x y,d= .tup [x,y]/\lK=(σ.set i (some x)).set j (some y)
theorem PH: ∀σ H Q,LT K ZH σ H Q->Nc σ H Q:=λσ H Q ⟨lI,h,Qd,rs,rh,q,p⟩=>p true h H (.refl H) rh q
def UZ (K:G1)(js:G0 P5)(bind:D->SD->SD->Prop)(g:TG):Prop:= ∀ (σ:St) (lI lO:SD) (H:Hp) (d:D) (v:V) (Q:St->Hp->Prop),RelS K H (zU js lI) (zw js σ)->RelD K H d v->bind d (zU js lI) lO->
 (∀lK,Agree (zw js σ) lK->RelS K H lO lK->Q lK H)->g v (zw js σ) H Q
theorem PJ {i:P5}(hi:i∈js):UZ K js (bN i) (vw i):=λσ lI lO H d v Q rs r b q=>by
 cases (show lO=_ from b);exact q _ (.set v λu=>zT js σ i u hi) (rs.set r i)
theorem PK {bind:D->SD->SD->Prop}{ti:TID}{tt:TTD}{te:TED}(hb:UZ K js bind g): ∀σ H Q,LE K (Wh bind js ti tt te) σ H Q->tLC js (LI K ti) g (LT K tt) (LE K te) σ H Q:=
 λσ H Q ⟨lI,h,Qd,rs,rh,q,p⟩=>by
  refine⟨lI,h,_,rs,rh,q,λj J h1 H1 k1 rh1 jo ⟨n,W,w0,turn⟩=> ?_⟩;refine⟨λi m ys H'=>m=n-i/\Kept H1 H'/\ ∃ds h',RelDs K H' ds ys/\RelH K h' H'/\W i ds h',⟨n-0,rfl,.refl _,[],h1,rfl,rh1,w0⟩,?_⟩;rintro i m ys H' ⟨rfl,kp,yd,h',ry,rh',w⟩;obtain⟨hz,ds,ej,hn,stop,go⟩:=turn i yd h' w;refine⟨by rw [<-ry.length];exact hz,?_⟩;have jo':=jo H' h' kp rh' ds ej i;have kk:Kept H H':=k1.trans kp
  by_cases hi:i<ds.length
  ·obtain⟨g1,y1⟩:=jo'.1 ds[i] (S2 hi);refine .inr ⟨g1,λx H'' y=> ?_⟩;obtain⟨k2,rh2,r2⟩:=y1 x H'' y;obtain⟨lO,bd,q2⟩:=go ds[i] (S2 hi);refine hb σ lI lO H'' ds[i] x _ (((rs.mono (kk.trans k2))).clear js) r2 bd λlK ag rs2=>⟨ag,?_⟩
   refine LT.bind rs2 rh2 q2 λb h3 H3 k3 rs3 rh3 q3=> ?_
   cases b with
   |true=>
    rw [S1 rfl] at q3 ⊢;refine LE.bind rs3 rh3 q3 λd4 v4 h4 H4 k4 rs4 rh4 r4 ⟨h5,sb,w5⟩=>⟨n-(i+1),by omega,rfl,kp.trans (k2.trans (k3.trans k4)),yd++ [d4],h5,(ry.mono (k2.trans (k3.trans k4))).append (.cons r4 .nil),rh4.sub sb,w5⟩
   |false=>
    rw [S9 P4] at q3 ⊢;obtain⟨h5,sb,w5⟩:=q3;exact⟨n-(i+1),by omega,rfl,kp.trans (k2.trans k3),yd,h5,ry.mono (k2.trans k3),rh3.sub sb,w5⟩
  ·refine .inl ⟨jo'.2 (dG.mp hi),λa ha=>p (.lst a) (.ref a) _ _ (kk.trans (.new ha)) (rh'.newL ha ry) ⟨rfl,ys,jf⟩ (stop (dG.mp hi) a (rh'.free ha))⟩
theorem Wi {C:G4}{s₀:G3}{H₀:Hp}{ex:G0 G4}{i:P5}{p:Pos}(hN:X.N.Nodup)(hx:X.N[i]? =some x)(hl:scope.names.lookup x=some .local\/scope.names.lookup x=some .cell):
 PG (yR X scope C s₀ H₀ ex) (.Name x p) (vw i):=by
 rcases hl with z|z
 ·exact yf hN hx (.inl (cJ z)) (.inr (cJ z))
 ·exact yf hN hx (.inr (wD z)) (.inl (by show (scope.names.lookup x==some O8)=true;rw [z];rfl))
section
variable {X:Cx}{tg e iter elt:D2}{te:TED}{ti:TID}{g:TGD}{tb:TSD}{tt:TTD}{pos:Pos}{ta:TAD}{scope:N4}{js:G0 P5}{ifs:G0 D2}
theorem Ql (he:QE X e te):QI X tg e (iL te):=(XB he).imp Qk
theorem RU {p:Pos}{a:D2}(hg:Gl X "range")(hm:X.mg "range" =none)(ha:QA X [a] ta)(hs:G6 [a] X.env= [(false,N5 a X.env)]:=by rfl):QI X tg (.Call (.Name "range" p) [a] [] pos) (iR1 ta):=(Yk hg hm ha hs).imp RS
theorem NU {body:G0 N2}(hp:cR (D8 X.prog X.w) X.A X.env X.xe)(hc:X.calm=true)(hi:QI X tg iter ti)(hg:QG X tg g)(hb:QSs X body tb)(hs: ∀x,M4 iter X.env x=pure x:=by intro _;rfl):
 QS X (.For tg iter body [] pos) (PD ti g tb):=(GP hp hc hi hg hb hs).imp PF
theorem Qm:PTs X [] (LT X.K ZH):=λpins s σ H Q I h=>XU pins s σ H Q I (PH σ H Q h)
theorem qlc {i:P5}{x:Str}{p:Pos}(hc:X.calm=true)(S:BlockOk X scope js)(hi:QI X (.Name x p) iter ti)(hj:i∈js)(hN:X.N.Nodup)(hx:X.N[i]? =some x)(hl:scope.names.lookup x=some .local\/scope.names.lookup x=some .cell)
 (ht: ∀X',jw X scope X'->PTs X' ifs (LT X'.K tt))(he: ∀X',jw X scope X'->QE X' elt te)(hs: ∀x,M4 iter X.env x=pure x:=by intro _;rfl):
 QE X (.ListComp elt [⟨.Name x p,iter,ifs,0⟩] scope pos) (Wh (bN i) js ti tt te):=
 (RE hc S hi (λX' hX=>by obtain⟨C,s₀,H₀,ex,rfl⟩:=hX;exact Wi hN hx hl) (λX' hX=>by have:=ht X' hX;obtain⟨C,s₀,H₀,ex,rfl⟩:=hX;exact this)
  (λX' hX=>by have:=he X' hX;obtain⟨C,s₀,H₀,ex,rfl⟩:=hX;exact this) hs).imp (PK (PJ hj))
end
def LSp (K:G1)(spd:RDn):Sp:=λvs H Q _=>LC K spd vs H Q
theorem YF {spd:RDn}{t:TAD}{E:XK}: ∀σ H Q,LE K (dCB spd t) σ H Q->XH (LSp K spd) [] E (LA K t) σ H Q:=λσ H Q ⟨lI,h,Qd,rs,rh,t,p⟩=>
 LA.bind rs rh t λds vs h1 H1 k1 rs1 rh1 r1 q=>by rw [W5];exact⟨ds,h1,Qd,r1,rh1,q,jn p k1⟩
section
variable {X:Cx}{k:P5}{f:G4}{fd:D4}{ps:G0 Str}{spd:RDn}{x:Str}{p pos:Pos}{e:D2}{es:G0 D2}{t:TAD}
theorem RV (F:FnOk X.prog X.w X.K X.mg X.base CX0 k f fd ps (LSp X.K spd))(hr:Room k X.A)(hg:Gl X x)(hm:X.mg x=some (.ref f))(hk:N8 X.K (.ref f)=true)(hb:Binds X.K fd ps [])
 (ha:QA X (e::es) t)(hdb:(x==("__debug__" :Str))=false:=by decide)(he:G6 (e::es) X.env=(false,N5 e X.env)::G6 es X.env:=by rfl)(hpl:(N6 pos (G6 es X.env)).any (·.1)=false:=by rfl):
 QE X (.Call (.Name x p) (e::es) [] pos) (dCB spd t):=(Ys F hr hg hm hk hb .nil XQ ha hdb he hpl).imp YF
theorem PL {id:F7}{r:RDn}(hc:wx X (.builtin id) r)(hg:Gl X x)(hm:X.mg x=none)(hv:B5 x=some (.builtin id))(ha:QA X (e::es) t)(hn:x≠ "__name__" :=by decide)(hdb:(x==("__debug__" :Str))=false:=by decide)
 (he:G6 (e::es) X.env=(false,N5 e X.env)::G6 es X.env:=by rfl)(hpl:(N6 pos (G6 es X.env)).any (·.1)=false:=by rfl):QE X (.Call (.Name x p) (e::es) [] pos) (dCB r t):=(yD hc hg hm hv ha hn hdb he hpl).imp Po
theorem Qn {T:F7}{r:RDn}(hc:wx X (.type T) r)(hg:Gl X x)(hm:X.mg x=none)(hv:B5 x=some (.type T))(ha:QA X (e::es) t)(hn:x≠ "__name__" :=by decide)(hdb:(x==("__debug__" :Str))=false:=by decide)
 (he:G6 (e::es) X.env=(false,N5 e X.env)::G6 es X.env:=by rfl)(hpl:(N6 pos (G6 es X.env)).any (·.1)=false:=by rfl):QE X (.Call (.Name x p) (e::es) [] pos) (dCB r t):=(Yt hc hg hm hv ha hn hdb he hpl).imp Po
end
def jC (N:G0 Str)(ds:G0 D):SD:=ds.map some++D1 (N.length-ds.length) none
theorem wt {N:G0 Str}{vs:G0 V}(r:RelDs K H ds vs):RelS K H (jC N ds) (za N vs):=by
 have hl:=r.length;refine⟨by unfold jC za;simp [hl],λi d e=> ?_⟩;unfold jC at e;unfold za
 by_cases hi:i<ds.length
 ·rw [B7 (by simpa using hi),R6] at e;cases q:ds[i]? with
  |none=>rw [q] at e;cases e
  |some d'=>
   rw [q] at e;cases e;obtain⟨v,e1,e2⟩:=r.get q;exact⟨v,by rw [B7 (by simpa [<-hl] using hi),R6,e1];rfl,e2⟩
 ·rw [F0 (by simpa using hi),Q5] at e;split at e<;>cases e
def vA (Q:KD):EndsD:= {nx:=λ_ h=> ∃h',Sub h' h/\Q .non h',rt:=λd h=> ∃h',Sub h' h/\Q d h'}
section
variable {P:D6}{w:S7}{K:G1}{mg:Str->G7 G2}{base:S6}
theorem Fun.okD {x qual:Str}{st:N2}{f:G4}{fd:D4}{N ps:G0 Str}{k:P5}{spd:RDn}(F:Fun K x qual st f fd)(S:FnScope N ps (ja st))(len: ∀ds h Q,spd ds h Q->ds.length=ps.length)
 (tb:TSD)(hbody: ∀ (cdv:G2) (A:R8) (outer:G0 Env) (s:G3) (H:Hp) (E:XK),Room k (A.deeper (B1 qual (ja st) s.heap.objs.size f cdv))->QSs (vx CX0 P w K mg base N qual (ja st) f cdv A outer s H E).nox (jB st) tb)
 (read: ∀ds h Q,spd ds h Q->tb (vA Q) (jC N ds) h):FnOk P w K mg base CX0 (k+1) f fd ps (LSp K spd):=by
 refine F.ok S (λvs H Q E h=> ?_) (λcdv A outer s H vs Q E hr h=> ?_)
 ·obtain⟨ds,h,Qd,r,rh,q,p⟩:=h;rw [<-r.length];exact len _ _ _ q
 ·obtain⟨ds,h,Qd,r,rh,q,p⟩:=h;refine⟨_,hbody cdv A outer s H E hr,jC N ds,h,vA Qd,wt r,rh,read ds h Qd q,λlL h' lH H' k rs' rh' ⟨h2,sb,q'⟩=>p .non .non h2 H' k (rh'.sub sb) rfl q',λd v h' H' k rh' r' ⟨h2,sb,q'⟩=>p d v h2 H' k (rh'.sub sb) r' q',λ_ _ _ _ _ _ _ z=>z.elim,λ_ _ _ _ _ _ _ z=>z.elim⟩
end
section
variable {X:Cx}{iter elt:D2}{te:TED}{ti:TID}{tt:TTD}{pos spos:Pos}{scope:N4}{js:G0 P5}{ifs:G0 D2}
theorem PM {i k:P5}{x y:Str}{p py:Pos}(hc:X.calm=true)(hN:X.N.Nodup)(hk:X.N[k]? =some y)(hy:Loc X.env.scope y)(S:BlockOk X scope js)(hi:QI X (.Name x p) iter ti)(hj:i∈js)(hx:X.N[i]? =some x)(hl:scope.names.lookup x=some .local\/scope.names.lookup x=some .cell)
 (ht: ∀X',jw X scope X'->PTs X' ifs (LT X'.K tt))(he: ∀X',jw X scope X'->QE X' elt te)
 (hsw:A2 (.ListComp elt [⟨.Name x p,iter,ifs,0⟩] scope pos) (some (.Name y py)) spos.line X.env=pure true:=by rfl)
 (hf:X.fn y=true\/X.env.scope.names.lookup y=some .local:=by first|exact .inl rfl|exact .inr rfl|assumption)(hs: ∀x,M4 iter X.env x=pure x:=by intro _;rfl):
 QS X (.Assign [.Name y py] (.ListComp elt [⟨.Name x p,iter,ifs,0⟩] scope pos) spos) (Yc k (Wh (bN i) js ti tt te)):=by
 have base:PS X (.Assign [.Name y py] (.ListComp elt [⟨.Name x p,iter,ifs,0⟩] scope pos) spos) (XA (tLC js (LI X.K ti) (vw i) (LT X.K tt) (LE X.K te)) (vw k)):=
  Uc hc S hi (λX' hX=>by obtain⟨C,s₀,H₀,ex,rfl⟩:=hX;exact Wi hN hx hl) (λX' hX=>by have:=ht X' hX;obtain⟨C,s₀,H₀,ex,rfl⟩:=hX;exact this)
   (λX' hX=>by have:=he X' hX;obtain⟨C,s₀,H₀,ex,rfl⟩:=hX;exact this) (yf hN hk hy hf) hsw hs
 exact base.imp λD σ H h=>by
  obtain⟨lI,hd,Qd,rs,rh,t,p⟩:=UY (K:=X.K) D σ H h;exact PK (PJ hj) σ H _ ⟨lI,hd,Qd,rs,rh,t,p⟩
end
def Nf:RD2:=λx y h Q=>match x,y with
 | .int i,.int j=>Q (.int (i+j)) h
 | .tup a,.tup b=>a.length+b.length<=sizeLine/\Q (.tup (a++b)) h
 | .lst a,.lst b=> ∃xs ys,h a=some xs/\h b=some ys/\xs.length+ys.length<=sizeLine/\ ∀p,h p=none->Q (.lst p) (zt h p (xs++ys))
 |_,_=>False
def Ng:RD2:=λx y h Q=>match x,y with
 | .int i,.int j=>Q (.int (i-j)) h
 |_,_=>False
def Nh:RD2:=λx y h Q=>match x,y with
 | .int i,.int j=>CMul i j/\Q (.int (i*j)) h
 | .lst a,.int k=> ∃xs,h a=some xs/\ -(2^63)<=k/\k<2^63/\xs.length*k.toNat<=sizeLine/\ ∀p,h p=none->Q (.lst p) (zt h p (D1 k.toNat xs).flatten)
 |_,_=>False
def NV:RD2:=λx y h Q=>match x,y with
 | .int i,.int j=>0<j/\Q (.int (i%j)) h
 |_,_=>False
def RX:RD2:=λx y h Q=>match x,y with
 | .int i,.int j=>Rb i j/\Q (.int (i / j)) h
 |_,_=>False
def RY:RD2:=λx y h Q=>match x,y with
 | .int i,.int j=>MV i j/\Q (.int (i^j.toNat)) h
 |_,_=>False
def Ug (p:P7->P7->C3):RD2:=λx y h Q=>match x,y with
 | .int i,.int j=>Q (.bl (p i j)) h
 |_,_=>False
def eqD:RD2:=λx y h Q=>match x,y with
 | .int i,.int j=>Q (.bl (decide (i=j))) h
 | .bl i,.bl j=>Q (.bl (decide (i=j))) h
 | .str i,.str j=>Q (.bl (decide (i=j))) h
 |_,_=>False
def neD:RD2:=λx y h Q=>match x,y with
 | .int i,.int j=>Q (.bl (!decide (i=j))) h
 | .bl i,.bl j=>Q (.bl (!decide (i=j))) h
 | .str i,.str j=>Q (.bl (!decide (i=j))) h
 |_,_=>False
section
variable {X:Cx}
theorem ZI {f:G2->G2->Sem G2}{C:P7->P7->Prop}{g:P7->P7->V}{gd:P7->P7->D}{r:RD2}(ho:OpR X f (rI C g))(hg: ∀i j H,RelD X.K H (gd i j) (g i j))
 (hr: ∀x y h Q,r x y h Q-> ∃i j,x= .int i/\y= .int j/\C i j/\Q (gd i j) h):OpQ X f r:=ho.imp λx y H Q ⟨dx,dy,h,Qd,rx,ry,rh,q,p⟩=>by
 obtain⟨i,j,e1,e2,c,q'⟩:=hr dx dy h Qd q;subst e1 e2;exact⟨i,j,rx,ry,c,p _ _ _ _ (.refl H) rh (hg i j H) q'⟩
theorem wR {f:G2->G2->Sem G2}{g:P7->P7->V}{gd:P7->P7->D}{r:RD2}(ho:OpR X f (rI0 g))(hg: ∀i j H,RelD X.K H (gd i j) (g i j))
 (hr: ∀x y h Q,r x y h Q-> ∃i j,x= .int i/\y= .int j/\Q (gd i j) h):OpQ X f r:=ho.imp λx y H Q ⟨dx,dy,h,Qd,rx,ry,rh,q,p⟩=>by
 obtain⟨i,j,e1,e2,q'⟩:=hr dx dy h Qd q;subst e1 e2;exact⟨i,j,rx,ry,p _ _ _ _ (.refl H) rh (hg i j H) q'⟩
theorem Xa:OpQ X (N7 .Sub) Ng:=wR (gd:=λi j=> .int (i-j)) GQ (λ_ _ _=>rfl) λx y h Q q=>by
 cases x<;>first|exact False.elim q|(cases y<;>first|exact False.elim q|exact⟨_,_,rfl,rfl,q⟩)
theorem yU:OpQ X (N7 .Mod) NV:=ZI (gd:=λi j=> .int (i%j)) GR (λ_ _ _=>rfl) λx y h Q q=>by
 cases x<;>first|exact False.elim q|(cases y<;>first|exact False.elim q|exact⟨_,_,rfl,rfl,q.1,q.2⟩)
theorem Qo:OpQ X (N7 .FloorDiv) RX:=ZI (gd:=λi j=> .int (i / j)) XC (λ_ _ _=>rfl) λx y h Q q=>by
 cases x<;>first|exact False.elim q|(cases y<;>first|exact False.elim q|exact⟨_,_,rfl,rfl,q.1,q.2⟩)
theorem Wj:OpQ X (N7 .Pow) RY:=ZI (gd:=λi j=> .int (i^j.toNat)) GT (λ_ _ _=>rfl) λx y h Q q=>by
 cases x<;>first|exact False.elim q|(cases y<;>first|exact False.elim q|exact⟨_,_,rfl,rfl,q.1,q.2⟩)
theorem Jf {p:P7->P7->C3}: ∀x y h Q,Ug p x y h Q-> ∃i j,x= .int i/\y= .int j/\Q (.bl (p i j)) h:=λx y h Q q=>by
 cases x<;>first|exact False.elim q|(cases y<;>first|exact False.elim q|exact⟨_,_,rfl,rfl,q⟩)
theorem PN:OpQ X (S5 .Lt) (Ug λi j=>decide (i<j)):=wR (gd:=λi j=> .bl (decide (i<j))) Ro (λ_ _ _=>rfl) Jf
theorem WI:OpQ X (S5 .LtE) (Ug λi j=>decide (i<=j)):=wR (gd:=λi j=> .bl (decide (i<=j))) Rp (λ_ _ _=>rfl) Jf
theorem RZ:OpQ X (S5 .Gt) (Ug λi j=>decide (j<i)):=wR (gd:=λi j=> .bl (decide (j<i))) Rq (λ_ _ _=>rfl) Jf
theorem YG:OpQ X (S5 .GtE) (Ug λi j=>decide (j<=i)):=wR (gd:=λi j=> .bl (decide (j<=i))) Rr (λ_ _ _=>rfl) Jf
theorem Gq {α:Type}[DecidableEq α]{f:α->V}(hf: ∀a b,f a=f b->a=b)(a b:α):decide (f a=f b)=decide (a=b):=by
 by_cases h:a=b
 ·subst h;simp
 ·rw [T6 h,T6 (λe=>h (hf a b e))]
theorem oq_eq:OpQ X (S5 .Eq) eqD:=op_eq.imp λx y H Q ⟨dx,dy,h,Qd,rx,ry,rh,q,p⟩=>by
 cases dx<;>first|exact False.elim q|(cases dy<;>first|exact False.elim q|skip)
 all_goals first
  |(cases (show x= .int _ from rx);cases (show y= .int _ from ry);refine⟨rfl,p _ _ _ _ (.refl H) rh ?_ q⟩;rw [Gq (f:=V.int) (λa b e=>by cases e;rfl)];rfl)
  |(cases (show x= .bl _ from rx);cases (show y= .bl _ from ry);refine⟨rfl,p _ _ _ _ (.refl H) rh ?_ q⟩;rw [Gq (f:=V.bl) (λa b e=>by cases e;rfl)];rfl)
  |(cases (show x= .str _ from rx);cases (show y= .str _ from ry);refine⟨rfl,p _ _ _ _ (.refl H) rh ?_ q⟩;rw [Gq (f:=V.str) (λa b e=>by cases e;rfl)];rfl)
theorem oq_ne:OpQ X (S5 .NotEq) neD:=op_ne.imp λx y H Q ⟨dx,dy,h,Qd,rx,ry,rh,q,p⟩=>by
 cases dx<;>first|exact False.elim q|(cases dy<;>first|exact False.elim q|skip)
 all_goals first
  |(cases (show x= .int _ from rx);cases (show y= .int _ from ry);refine⟨rfl,p _ _ _ _ (.refl H) rh ?_ q⟩;rw [Gq (f:=V.int) (λa b e=>by cases e;rfl)];rfl)
  |(cases (show x= .bl _ from rx);cases (show y= .bl _ from ry);refine⟨rfl,p _ _ _ _ (.refl H) rh ?_ q⟩;rw [Gq (f:=V.bl) (λa b e=>by cases e;rfl)];rfl)
  |(cases (show x= .str _ from rx);cases (show y= .str _ from ry);refine⟨rfl,p _ _ _ _ (.refl H) rh ?_ q⟩;rw [Gq (f:=V.str) (λa b e=>by cases e;rfl)];rfl)
def PP (K:G1):R2:=λx y H Q=> ∃a b xs ys,x= .ref a/\y= .ref b/\SqT K H a xs/\SqT K H b ys/\xs= []/\Q (.ref b) H
theorem op_catT0:OpR X (N7 .Add) (PP X.K):=by
 intro pins s σ H x y v u Q I rx ry h;obtain⟨a,b,xs,ys,rfl,rfl,ha,hb,hx,q⟩:=h;cases rx;cases ry;obtain⟨its,r1,p1,_⟩:=I.tuple ha;obtain⟨its2,r2,p2,_⟩:=I.tuple hb;have hv:its= []:=r1.nil_iff.mpr hx;obtain⟨⟨cls,dd,data,sl⟩,ho,hc,n,hd⟩:=id p1;obtain⟨⟨cls2,dd2,data2,sl2⟩,ho2,hc2,n2,hd2⟩:=id p2;simp only at hc hd hc2 hd2;subst hc hd hc2 hd2;exact dS ⟨_,ho,rfl⟩ ⟨_,ho2,rfl⟩ aV cZ U6 Q6 (K5 _ _)
  (tuple_addW0 a b its.toArray its2.toArray n n2 dd dd2 sl sl2 (by simp [hv])) ⟨ho,ho2,.ref b,H,I,rfl,q⟩
theorem jD:OpQ X (N7 .Add) Nf:=(op_add.or (op_catT.or (op_catT0.or Pd))).imp λx y H Q ⟨dx,dy,h,Qd,rx,ry,rh,q,p⟩=>by
 cases dx<;>first|exact False.elim q|(cases dy<;>first|exact False.elim q|skip)
 ·exact .inl ⟨_,_,rx,ry,p (.int _) _ _ _ (.refl H) rh rfl q⟩
 ·rename_i ds es;obtain⟨a,vs,e1,h1,r1⟩:=(show ∃a vs,x= .ref a/\H a=some (.tup vs)/\RelDs X.K H ds vs from rx);obtain⟨b,us,e2,h2,r2⟩:=(show ∃a vs,y= .ref a/\H a=some (.tup vs)/\RelDs X.K H es vs from ry);subst e1 e2;obtain⟨hz,q⟩:=q
  by_cases hv:vs= []
  ·subst hv;have e:ds= []:=U1.mp r1.length;subst e;exact .inr (.inr (.inl ⟨a,b,[],us,rfl,rfl,SqT.of h1,SqT.of h2,rfl,p (.tup es) _ _ _ (.refl H) rh ⟨b,us,rfl,h2,r2⟩ q⟩))
  ·refine .inr (.inl ⟨a,b,vs,us,rfl,rfl,SqT.of h1,SqT.of h2,hv,by rw [<-r1.length,<-r2.length];exact hz,λe=> ?_,λ_ c hc=> ?_⟩)
   ·subst e;have e:es= []:=U1.mp r2.length;subst e;rw [W5] at q;exact p (.tup ds) _ _ _ (.refl H) rh ⟨a,vs,rfl,h1,r1⟩ q
   ·exact p (.tup (ds++es)) _ _ _ (.new hc) (rh.new hc) ⟨c,vs++us,rfl,jf,(r1.append r2).mono (.new hc)⟩ q
 ·rename_i a b;obtain⟨xs,ys,h1,h2,hz,q⟩:=q;obtain⟨vs,e1,r1⟩:=rh a xs h1;obtain⟨us,e2,r2⟩:=rh b ys h2;refine .inr (.inr (.inr ⟨a,b,vs,us,rx.1,ry.1,e1,e2,by rw [<-r1.length,<-r2.length];exact hz,λc hc=> ?_⟩));exact p (.lst c) _ _ _ (.new hc) (rh.newL hc (r1.append r2)) ⟨rfl,_,jf⟩ (q c (rh.free hc))
theorem RelDs.flat {K:G1}{H:Hp}{ds:G0 D}{vs:G0 V}(r:RelDs K H ds vs): ∀k:P5,RelDs K H (D1 k ds).flatten (D1 k vs).flatten
 |0=>by simp;exact .nil
 |k+1=>by rw [F1,F1,O6,O6];exact r.append (RelDs.flat r k)
theorem oq_mul:OpQ X (N7 .Mult) Nh:=(op_mul.or Pe).imp λx y H Q ⟨dx,dy,h,Qd,rx,ry,rh,q,p⟩=>by
 cases dx<;>first|exact False.elim q|(cases dy<;>first|exact False.elim q|skip)
 ·exact .inl ⟨_,_,rx,ry,q.1,p (.int _) _ _ _ (.refl H) rh rfl q.2⟩
 ·obtain⟨xs,h1,b1,b2,hz,q⟩:=q;obtain⟨vs,e1,r1⟩:=rh _ xs h1;refine .inr ⟨_,_,vs,rx.1,ry,e1,b1,b2,by rw [<-r1.length];exact hz,λc hc=> ?_⟩;exact p (.lst c) _ _ _ (.new hc) (rh.newL hc (r1.flat _)) ⟨rfl,_,jf⟩ (q c (rh.free hc))
end
def ixD:RD2:=λx y h Q=>match x,y with
 | .tup ds,.int i=> ∃d,atI ds i=some d/\Q d h
 | .lst a,.int i=> ∃ds d,h a=some ds/\atI ds i=some d/\Q d h
 | .scr ns,.int i=> ∃n,atI ns i=some n/\Q (.int n) h
 |_,_=>False
theorem YH {vs:G0 V}(r:RelDs K H ds vs){i:P7}{d:D}(e:atI ds i=some d): ∃v,atI vs i=some v/\RelD K H d v:=by
 unfold atI at e ⊢;rw [<-r.length];cases q:ixN ds.length i with
 |none=>rw [q] at e;cases e
 |some j=>rw [q] at e;exact r.get e
theorem Qp {β:Type}(f:α->β){xs:G0 α}{i:P7}{x:α}(e:atI xs i=some x):atI (xs.map f) i=some (f x):=by
 unfold atI at e ⊢;rw [G9];cases q:ixN xs.length i with
 |none=>rw [q] at e;cases e
 |some j=>
  rw [q] at e;show (xs.map f)[j]? =_;rw [R6,(show xs[j]? =some x from e)];rfl
section
variable {X:Cx}{a b e:D2}{ta tb te:TED}{pos p2:Pos}
theorem Ma: ∀σ H Q,LE X.K (dOp ixD ta tb) σ H Q->tOp (rIx X.K) (LE X.K ta) (LE X.K tb) σ H Q:=λσ H Q ⟨lI,h,Qd,rs,rh,t,p⟩=>
 LE.bind rs rh t λdx x h1 H1 k1 rs1 rh1 r1 t1=>LE.bind rs1 rh1 t1 λdy y h2 H2 k2 rs2 rh2 ry q=>by
  have rx:=r1.mono k2;have kk:=k1.trans k2;cases dx<;>first|exact False.elim q|(cases dy<;>first|exact False.elim q|skip)
  ·rename_i ds i;obtain⟨d,e,q⟩:=q;obtain⟨a,vs,e1,hH,r⟩:=(show ∃a vs,x= .ref a/\H2 a=some (.tup vs)/\RelDs X.K H2 ds vs from rx);obtain⟨v,e2,rv⟩:=YH r e;exact .inr (.inl ⟨a,vs,i,v,e1,ry,SqT.of hH,e2,p _ _ _ _ kk rh2 rv q⟩)
  ·rename_i a i;obtain⟨ds,d,hd,e,q⟩:=q;obtain⟨vs,hH,r⟩:=rh2 a ds hd;obtain⟨v,e2,rv⟩:=YH r e;exact .inl ⟨a,vs,i,v,rx.1,ry,SqL.of hH,e2,p _ _ _ _ kk rh2 rv q⟩
  ·rename_i ns i;obtain⟨n,e,q⟩:=q;obtain⟨a,e1,hS⟩:=(show ∃a,x= .ref a/\Scr X.K H2 a ns from rx);exact .inl ⟨a,_,i,.int n,e1,ry,hS.sq,Qp V.int e,p (.int n) _ _ _ kk rh2 rfl q⟩
theorem qix (ha:QE X a ta)(hb:QE X b tb)(hs:yK b):QE X (.Subscript a b pos) (dOp ixD ta tb):=(Pa Pb ha hb hs).imp Ma
end
def Uh:RDn:=λds h Q=>match ds with
 | [.tup xs]=>Q (.int xs.length) h
 | [.lst a]=> ∃xs,h a=some xs/\Q (.int xs.length) h
 | [.scr ns]=>Q (.int ns.length) h
 |_=>False
def Mb:RDn:=λds h Q=>match ds with
 | [.int i]=>Q (.int i) h
 | [.bl k]=>Q (.int (if k then 1 else 0)) h
 |_=>False
def Mc:RDn:=λds h Q=>match ds with
 | [.int i,.int j]=>Q (.int (if j>i then j else i)) h
 |_=>False
def YI:RDn:=λds h Q=>match ds with
 | [.int i,.int j]=>Rb i j/\Q (.tup [.int (i / j),.int (i%j)]) h
 |_=>False
def Xb:RDn:=λds h Q=>match ds with
 | [.tup xs]=>Q (.tup xs) h
 | [.lst a]=> ∃xs,h a=some xs/\Q (.tup xs) h
 |_=>False
def Wk:RDn:=λds h Q=>match ds with
 | [.lst a]=> ∃xs,h a=some xs/\Q (.tup xs) (Jd h a)
 |_=>False
def PQ:RDn:=λds h Q=>match ds with
 | [.tup xs]=> ∀p,h p=none->Q (.lst p) (zt h p xs)
 | [.lst a]=> ∃xs,h a=some xs/\ ∀p,h p=none->Q (.lst p) (zt h p xs)
 |_=>False
section
variable {X:Cx}
theorem PR:wx X (.builtin "len") Uh:=call_len_seq.imp λxs H Q ⟨ds,h,Qd,r,rh,q,p⟩=>by
 unfold Uh at q;split at q
 ·rename_i es;obtain⟨v,e,r1⟩:=jr r;obtain⟨a,vs,e1,hH,r2⟩:=(show ∃a vs,v= .ref a/\H a=some (.tup vs)/\RelDs X.K H es vs from r1);subst e e1;exact⟨a,vs,rfl,.inr (SqT.of hH),by rw [<-r2.length];exact p (.int _) _ _ _ (.refl H) rh rfl q⟩
 ·rename_i a;obtain⟨es,hd,q⟩:=q;obtain⟨v,e,r1⟩:=jr r;obtain⟨vs,hH,r2⟩:=rh a es hd;have e1:v= .ref a:=r1.1;subst e e1;exact⟨a,vs,rfl,.inl (SqL.of hH),by rw [<-r2.length];exact p (.int _) _ _ _ (.refl H) rh rfl q⟩
 ·rename_i ns;obtain⟨v,e,r1⟩:=jr r;obtain⟨a,e1,hS⟩:=(show ∃a,v= .ref a/\Scr X.K H a ns from r1);subst e e1;exact⟨a,_,rfl,.inl hS.sq,by rw [G9];exact p (.int _) _ _ _ (.refl H) rh rfl q⟩
 ·exact q.elim
theorem Xc:wx X (.type "int") Mb:=call_int1.imp λxs H Q ⟨ds,h,Qd,r,rh,q,p⟩=>by
 unfold Mb at q;split at q
 ·rename_i i;obtain⟨v,e,r1⟩:=jr r;cases (show v= .int i from r1);exact .inl ⟨i,e,p (.int i) _ _ _ (.refl H) rh rfl q⟩
 ·rename_i k;obtain⟨v,e,r1⟩:=jr r;cases (show v= .bl k from r1);exact .inr ⟨k,e,p (.int _) _ _ _ (.refl H) rh rfl q⟩
 ·exact q.elim
theorem PU (hc:X.calm=true):wx X (.builtin "max") Mc:=(Yp hc).imp λxs H Q ⟨ds,h,Qd,r,rh,q,p⟩=>by
 unfold Mc at q;split at q
 ·rename_i i j;obtain⟨v,w,e,r1,r2⟩:=yT r;cases (show v= .int i from r1);cases (show w= .int j from r2);exact⟨i,j,e,p (.int _) _ _ _ (.refl H) rh rfl q⟩
 ·exact q.elim
theorem YJ:wx X (.builtin "divmod") YI:=call_divmod.imp λxs H Q ⟨ds,h,Qd,r,rh,q,p⟩=>by
 unfold YI at q;split at q
 ·rename_i i j;obtain⟨c,q⟩:=q;obtain⟨v,w,e,r1,r2⟩:=yT r;cases (show v= .int i from r1);cases (show w= .int j from r2);exact⟨i,j,e,c,λa ha=>p (.tup [.int (i / j),.int (i%j)]) _ _ _ (.new ha) (rh.new ha) ⟨a,_,rfl,jf,.cons rfl (.cons rfl .nil)⟩ q⟩
 ·exact q.elim
theorem cq_tuple:wx X (.type "tuple") Xb:=call_tuple_of.imp λxs H Q ⟨ds,h,Qd,r,rh,q,p⟩=>by
 unfold Xb at q;split at q
 ·rename_i es;obtain⟨v,e,r1⟩:=jr r;obtain⟨a,vs,e1,hH,r2⟩:=(show ∃a vs,v= .ref a/\H a=some (.tup vs)/\RelDs X.K H es vs from r1);subst e e1;exact⟨a,vs,rfl,.inr ⟨SqT.of hH,p (.tup es) _ _ _ (.refl H) rh ⟨a,vs,rfl,hH,r2⟩ q⟩⟩
 ·rename_i a;obtain⟨es,hd,q⟩:=q;obtain⟨v,e,r1⟩:=jr r;obtain⟨vs,hH,r2⟩:=rh a es hd;have e1:v= .ref a:=r1.1;subst e e1;exact⟨a,vs,rfl,.inl ⟨SqL.of hH,λc hc=>p (.tup es) _ _ _ (.new hc) (rh.new hc) ⟨c,vs,rfl,jf,r2.mono (.new hc)⟩ q⟩⟩
 ·exact q.elim
theorem JR:wx X (.type "tuple") Wk:=cq_tuple.imp λxs H Q ⟨ds,h,Qd,r,rh,q,p⟩=>by
 unfold Wk at q;split at q
 ·rename_i a;obtain⟨es,hd,q⟩:=q;exact⟨[.lst a],h,λd h'=>Qd d (Jd h' a),r,rh,⟨es,hd,q⟩,λd v h' H' k rh' rd q'=>p d v _ H' k (rh'.sub (Sub.drop h' a)) rd q'⟩
 ·exact q.elim
theorem YK:wx X (.type "list") PQ:=call_list_of.imp λxs H Q ⟨ds,h,Qd,r,rh,q,p⟩=>by
 unfold PQ at q;split at q
 ·rename_i es;obtain⟨v,e,r1⟩:=jr r;obtain⟨a,vs,e1,hH,r2⟩:=(show ∃a vs,v= .ref a/\H a=some (.tup vs)/\RelDs X.K H es vs from r1);subst e e1;exact⟨a,vs,rfl,.inr (SqT.of hH),λc hc=>p (.lst c) _ _ _ (.new hc) (rh.newL hc r2) ⟨rfl,_,jf⟩ (q c (rh.free hc))⟩
 ·rename_i a;obtain⟨es,hd,q⟩:=q;obtain⟨v,e,r1⟩:=jr r;obtain⟨vs,hH,r2⟩:=rh a es hd;have e1:v= .ref a:=r1.1;subst e e1;exact⟨a,vs,rfl,.inl (SqL.of hH),λc hc=>p (.lst c) _ _ _ (.new hc) (rh.newL hc r2) ⟨rfl,_,jf⟩ (q c (rh.free hc))⟩
 ·exact q.elim
end
def JU:D->G7 F7
 | .non=>some "NoneType" | .bl _=>some "bool" | .int _=>some "int" | .str _=>some "str" | .tup _=>some "tuple" | .lst _=>some "list" | .dic _ _=>some "dict" | .dct _=>none| .scr _=>none| .exc _=>none| .fn _=>none
def Qq (T:F7)(n:F7):C3:=n==T||(T== "int" &&n== "bool")
theorem Ui {d:D}{v:V}{n:F7}(r:RelD K H d v)(e:JU d=some n):TyOf K H v (.type n):=by
 cases d with
 |non=>cases (show v= .non from r);cases e;exact .non
 |bl b=>cases (show v= .bl b from r);cases e;exact .bl b
 |int i=>cases (show v= .int i from r);cases e;exact .int i
 |str x=>cases (show v= .str x from r);cases e;exact .str x
 |tup ds=>
  obtain⟨a,vs,e1,hH,_⟩:=(show ∃a vs,v= .ref a/\H a=some (.tup vs)/\RelDs K H ds vs from r);subst e1;cases e;exact .tup hH
 |lst a=>
  obtain⟨e1,vs,hH⟩:=(show v= .ref a/\ ∃vs,H a=some (.lst vs) from r);subst e1;cases e;exact .lst hH
 |dic x i=>
  obtain⟨a,e1,hH⟩:=(show ∃a,v= .ref a/\H a=some (.dK [(J5 x,V.int i)]) from r);subst e1;cases e;exact .dK hH
 |dct a=>cases e
 |scr ns=>cases e
 |exc C=>cases e
 |fn a=>cases e
def Qr:G0 F7:= ["NoneType","bool","int","str","tuple","list","dict"]
theorem WJ {d:D}{n:F7}(e:JU d=some n):n∈Qr:=by
 cases d<;>cases e<;>decide
def Md (K:G1):Prop:= ∀n∈Qr,∀T∈ ["tuple","int","bool","list","str"],Y3 K (.type n) (.type T)=some (Qq T n)
theorem Qs (K:G1):Md K:=by
 intro n hn T hT;simp only [Qr,P0,T0,or_false] at hn hT;rcases hn with rfl|rfl|rfl|rfl|rfl|rfl|rfl<;>rcases hT with rfl|rfl|rfl|rfl|rfl<;>with_unfolding_all rfl
theorem YL (T:F7):CallR X (.builtin "isinstance") (λxs H Q=> ∃x t b,xs= [x,.ty T]/\TyOf X.K H x t/\Y3 X.K t (.type T)=some b/\Q (.bl b) H):=by
 intro pins s σ H xs us Q I r h;obtain⟨x,t,b,rfl,ty,e,q⟩:=h;obtain⟨u,w',rfl,rx,rt⟩:=VR r;cases (show w'=dB T from rt);exact Yr I rx ty e λtk=>⟨.bl b,H,I.tok tk,rfl,q⟩
def dIs (T:F7)(ta:TED):TED:=λσ h Q=>ta σ h λx h1=> ∃n,JU x=some n/\Q (.bl (Qq T n)) h1
theorem Me {a:D2}{ta:TED}{T:F7}{t:Str}{p p2:Pos}(hT:T∈ ["tuple","int","bool","list","str"])(hg:Gl X "isinstance")(hm:X.mg "isinstance" =none)(hg2:Gl X t)(hm2:X.mg t=none)(hv:B5 t=some (.type T))(ha:QE X a ta)
 (hn:t≠ "__name__" :=by decide)(hd:(t==("__debug__" :Str))=false:=by decide)
 (h1:G6 [a,.Name t p2] X.env=(false,N5 a X.env)::G6 [.Name t p2] X.env:=by rfl)(h2:(N6 pos (G6 [.Name t p2] X.env)).any (·.1)=false:=by rfl):
 QE X (.Call (.Name "isinstance" p) [a,.Name t p2] [] pos) (dIs T ta):=
 (yD (YL T) hg hm E5 (jT ha (jT (Yi (v:= .ty T) hg2 hm2 hv rfl hn hd) pa_nil (by rfl)) h1) (by decide) (by decide) h1 h2).imp
  λσ H Q ⟨lI,h,Qd,rs,rh,t,p⟩=>LE.bind rs rh t λd v h1 H1 k1 rs1 rh1 r1 ⟨n,e,q⟩=>⟨v,.type n,Qq T n,rfl,Ui r1 e,Qs _ n (WJ e) T hT,p (.bl _) _ _ _ k1 rh1 rfl q⟩
theorem YM (bs:G0 C3):(C8 bs.length).all (λi=>bs.getD i false)=bs.all id:=by
 induction bs with
 |nil=>rfl
 |cons b bs ih=>
  rw [R1,List.range_succ_eq_map,gL,J9,gL];show (b&&_)=(b&&bs.all id);rw [<-ih];rfl
theorem YN {bs:G0 C3}{its:G0 G2}(r:Vals (bs.map V.bl) its){i:P5}{v:G2}(e:its[i]? =some v):v= .bool (bs.getD i false):=by
 have hl:=r.length;rw [G9] at hl;have hi:i<its.length:=(D0.mp e).1;have hb:(bs.map V.bl)[i]? =some (.bl bs[i]):=by rw [R6,S2 (by omega)];rfl
 obtain⟨u,e1,r1⟩:=r.get hb;rw [e] at e1;cases e1;rw [Z4,S2 (by omega)];exact r1
section
variable {X:Cx}
theorem Jg (hc:X.calm=true):CallR X (.builtin "all") (λxs H Q=> ∃ (a:G4) (bs:G0 C3),xs= [.ref a]/\SqL X.K H a (bs.map V.bl)/\Q (.bl (bs.all id)) H):=by
 intro pins s σ H xs us Q I r h;obtain⟨a,bs,rfl,hS,q⟩:=h;obtain⟨u,rfl,ru⟩:=wP r;cases ru;obtain⟨its,rv,pl,hz⟩:=I.list hS;have hl:=pl.isList;have hlt:a<s.heap.objs.size:=by obtain⟨_,e,_⟩:=hl;exact P6 e
 refine call_all_walk (aJ hl ?_);refine⟨s.heap.objs.size,_,_,_,_,_,λi=>bs.getD i false,rfl,Walks.list (A:=X.A.in1) (show X.A.in1.handled=none from I.ok.hd hc) s.heap.objs.size a (R3 hlt) its.toArray,⟨⟨_,R9 _ rfl,rfl,rfl⟩,hl.push _⟩,?_,λh' tk hk=> ?_⟩
 ·intro i v s' Q' E' hP hQ;have e:its[i]? =some v:=by simpa using hP
  rw [YN rv e];exact C9 hQ
 ·have hn:its.toArray.size=bs.length:=by rw [P3,<-rv.length,G9]
  rw [hn,YM];exact⟨.bl _,H,I.kept (t':=tk) (λb o e=>hk b o (λz=>by rw [S4.mp z] at e;exact absurd (P6 e) (N9 _)) (G5 _ e)),rfl,q⟩
theorem yV {K:G1}{H:Hp}: ∀ {bs:G0 C3} {vs:G0 V},RelDs K H (bs.map D.bl) vs->vs=bs.map V.bl
 | [],_,h=>h
 |b::bs,vs,h=>by
  obtain⟨v,r,e,h1,h2⟩:=(show ∃v r,vs=v::r/\RelD K H (.bl b) v/\RelDs K H (bs.map D.bl) r from h);rw [e,yV h2,(show v= .bl b from h1)];rfl
def Mf:RDn:=λds h Q=> ∃ (a:G4) (bs:G0 C3),ds= [.lst a]/\h a=some (bs.map D.bl)/\Q (.bl (bs.all id)) (Jd h a)
theorem JV (hc:X.calm=true):wx X (.builtin "all") Mf:=(Jg hc).imp λxs H Q ⟨ds,h,Qd,r,rh,⟨a,bs,e,hd,q⟩,p⟩=>by
 subst e;obtain⟨v,e,r1⟩:=jr r;obtain⟨vs,hH,r2⟩:=rh a _ hd;have e1:v= .ref a:=r1.1;rw [yV r2] at hH;subst e e1;exact⟨a,bs,rfl,SqL.of hH,p (.bl _) _ _ _ (.refl H) (rh.sub (Sub.drop h a)) rfl q⟩
end
def Ni (to:TED)(te:TED):TED:=λσ h Q=>to σ h λx h1=> ∃a,x= .lst a/\te σ h1 λy h2=> ∃xs,h2 a=some xs/\xs.length<sizeLine/\Q .non (zt h2 a (xs++ [y]))
section
variable {X:Cx}{o e i:D2}{to te ti:TED}{apos cpos pos:Pos}
theorem NW (ho:QE X o to)(he:QE X e te)(hbase:O7 o "append" X.env (N5 o X.env)=N5 o X.env:=by rfl)
 (hfew:((N6 cpos (G6 [e] X.env)).all (λx=> !x.1)&&(Z1 cpos (J4 [] X.env)).all (λx=>x.1.isSome)&&decide ([e].length+([]:G0 A8).length+(if ([]:G0 A8).isEmpty then 0 else 1)<30))=true:=by rfl)
 (hline:(apos.endLine==cpos.line)=true:=by rfl)(hs:G6 [e] X.env=(false,N5 e X.env)::G6 [] X.env:=by rfl)(hplain:(N6 cpos (G6 [] X.env)).any (·.1)=false:=by rfl):
 QE X (.Call (.Attribute o "append" apos) [e] [] cpos) (Ni to te):=
 (Yw U2 gM gO Yx ho (jT he pa_nil hs) hbase hfew hline hs hplain).imp
  λσ H Q ⟨lI,h,Qd,rs,rh,t,p⟩=>LE.bind rs rh t λd v h1 H1 k1 rs1 rh1 r1 ⟨a,e,q⟩=>by
   subst e;obtain⟨e1,vs,hH⟩:=(show v= .ref a/\ ∃vs,H1 a=some (.lst vs) from r1);subst e1;refine⟨.inl ⟨rfl,vs,SqL.of hH⟩,?_⟩;refine LE.bind rs1 rh1 q λy u h2 H2 k2 rs2 rh2 r2 ⟨xs,hx,hz,q2⟩=> ?_
   obtain⟨ws,hW,r3⟩:=rh2 a xs hx;refine⟨a,ws,u,rfl,rfl,hW,by rw [<-r3.length];exact hz,p .non _ _ _ (k1.trans (k2.trans (.put hW))) (rh2.put hW (r3.append (.cons r2 .nil))) rfl q2⟩
def PV (to ti:TED):TGD:=λd σ h Q=>to σ h λo h1=>ti σ h1 λi h2=> ∃a k xs j,o= .lst a/\i= .int k/\h2 a=some xs/\ixN xs.length k=some j/\Q σ (zt h2 a (xs.set j d))
theorem PX (ho:QE X o to)(hi:QE X i ti)
 (ha: ∀v,W2 (.Subscript o i pos) X.env v=(do
  let ov <-U3 [v] (N5 o X.env)
  let iv <-U3 [v,ov] (N5 i X.env)
  cQ pos
  U3 [v,ov,iv] (h7 ov iv v)
  kG [v,ov,iv] []):=by intro _;rfl):QG X (.Subscript o i pos) (PV to ti):=
 (GJ ho hi VW ha).imp λv σ H Q ⟨d,lI,h,Qd,r,rs,rh,q,p⟩=>
  LE.bind rs rh q λd1 v1 h1 H1 k1 rs1 rh1 r1 q1=>LE.bind rs1 rh1 q1 λd2 v2 h2 H2 k2 rs2 rh2 r2 ⟨a,k,xs,j,e1,e2,hx,hj,q2⟩=>by
   subst e1 e2;have e3:v1= .ref a:=(r1.mono k2).1;obtain⟨ws,hW,r3⟩:=rh2 a xs hx;refine⟨a,ws,k,j,e3,r2,hW,by rw [<-r3.length];exact hj,p _ _ _ _ (k1.trans (k2.trans (.put hW))) (rs2.mono (.put hW)) (rh2.put hW (RelDs.set ((r.mono k1).mono k2) j r3)) q2⟩
end
def YO (N:G0 Str)(sc:G0 (Str×NameKind))(scope:N4)(js:G0 P5):C3:=
 scope.kind== .function&&scope.names.all (λp=>p.2 != .cell||scope.names.lookup p.1==some .cell)&&scope.names.all (λp=>p.2 != .local||scope.names.lookup p.1==some .local)&&
 scope.names.all (λp=>p.2 != .free||sc.lookup p.1==some .cell||sc.lookup p.1==some .free)&&
 (C8 N.length).all λi=>(scope.names.lookup (N.getD i g4) !=some .local&&scope.names.lookup (N.getD i g4) !=some .cell)||js.contains i
theorem vQ (h:YO X.N X.env.scope.names scope js=true):BlockOk X scope js:=by
 unfold YO at h;simp only [D9] at h;obtain⟨⟨⟨⟨h1,h2⟩,h3⟩,h4⟩,h5⟩:=h;refine⟨eq_of_beq h1,λp hp e=> ?_,λp hp e=> ?_,λp hp e=> ?_,λi x e1 e2=> ?_⟩
 ·have:=R7.mp h3 p hp;rw [e] at this;simpa using this
 ·have:=R7.mp h2 p hp;rw [e] at this;simpa using this
 ·have:=R7.mp h4 p hp;rw [e] at this;simpa using this
 ·have hi:i<X.N.length:=(D0.mp e1).1;have:=R7.mp h5 i (fN.mpr hi);rw [Z4,e1,Option.getD_some] at this;rcases e2 with e2|e2<;>(rw [e2] at this;simpa using this)
theorem qpt {t:TTD}(h:QW X e t):QT X e t:=h.pt
theorem ZJ {i:P5}{ti:TID}{te:TED}{σ:SD}{h1:HD}{Q:KD}{j:ItD}(f:D->D)(hz:ds.length<=sizeLine)(hj:j h1=some ds)
 (ht: ∀R:ItD->HD->Prop,R j h1->ti σ h R)(he: ∀d∈ds,∀Q':KD,Q' (f d) h1->te ((zU js σ).set i (some d)) h1 Q')(hq: ∀p,h1 p=none->Q (.lst p) (zt h1 p (ds.map f))):Wh (bN i) js ti ZH te σ h Q:=by
 refine ht _ ⟨ds.length,λk ys h'=>h'=h1/\ys=(ds.take k).map f,⟨rfl,by simp⟩,?_⟩;rintro k ys h' ⟨rfl,rfl⟩;refine⟨by simp only [G9,C6];omega,ds,hj,G8 _,λhl p hp=> ?_,λd hd=>⟨_,rfl,?_⟩⟩
 ·rw [bP hl];exact hq p hp
 ·unfold ZH;dsimp only;rw [S1 rfl];refine he d (M5 hd) _ ⟨h',Sub.refl _,rfl,?_⟩;rw [V0,hd];simp
end L2
namespace HT
open PySem PySem.Spec PyProof.Rows
section
variable {prog:D6}{w:S7}{A:R8}{E:G2->G3->Prop}{s:G3}
theorem wF {t sl:G4}{items:F3 G2}{vl vu:G2}{lo hi:G7 P7}{Q:G2->G3->Prop}(ht:g0 s.heap t items)(hs:s.heap.IsSliceOf sl vl vu .none)(pl:bG vl lo)(pu:bG vu hi)
 (hw:sIx items.size 0 lo=0/\sIx items.size items.size hi=items.size)(h:Q (.ref t) s):D5 (D8 prog w) A (aL (.ref t) (.ref sl)) Q E s:=by
 obtain⟨os,hos,hcs,hds⟩:=id hs;have hTs:s.TypeIs (.ref sl) "slice" :=⟨os,hos,hcs⟩;unfold aL
 try with_reducible refine L8 ?_
 first|refine wpAny_bind (P1 ?_)|skip
 refine wpAny_bind (aM ht.typeIs (by decide) ?_);refine wpAny_bind (Q8 (name:=D7 "__getitem__") ht.typeIs M7
  (J7 M7 ht.typeIs X0 ?_ (Y9 _ _)))
 show D5 _ _ (J0 (.ref t) >>= _) _ _ s;refine wpAny_bind (c4 ht ?_);refine wpAny_bind (bH hTs ?_);rw [S1 (by decide)];refine wpAny_bind (zK hs pl pu ?_);have hyes:((((sIx items.size 0 lo:P5):P7)==0&&(1:P7)==1&&(sIx items.size items.size hi-sIx items.size 0 lo)==items.size)=true):=by
  rw [hw.1,hw.2];simp
 show D5 _ _ (if (((sIx items.size 0 lo:P5):P7)==0&&(1:P7)==1&&(sIx items.size items.size hi-sIx items.size 0 lo)==items.size)=true then _ else _) _ _ s;rw [S1 hyes];refine wpAny_bind (m:=Z5 (.ref t)) ?_;unfold Z5;refine wpAny_bind (bH ht.typeIs (P1 ?_));rw [S1 (by decide)];exact wpAny_bind (i3 (P1 ⟨_,rfl,P1 h⟩))
end
end HT
namespace L2
open PySem PySem.Spec PyProof.Rows
def NX (K:G1):V->G7 P7->G7 P7->Hp->VK->Prop:=λx lo hi H Q=> ∃a xs,x= .ref a/\SqT K H a xs/\(HT.sIx xs.length 0 lo=0/\HT.sIx xs.length xs.length hi=xs.length)/\Q (.ref a) H
variable {X:Cx}
theorem sl_whole:SlR X (NX X.K):=by
 intro pins s σ H x v vl vu lo hi sl Q I rx hs pl pu h;obtain⟨a,xs,rfl,hx,hw,q⟩:=h;cases rx;obtain⟨its,r,ht,hz⟩:=I.tuple hx;have hlen:its.toArray.size=xs.length:=by rw [P3];exact r.length.symm
 refine⟨"tuple",_,PyProof.Rows.slot_tuple_getitem.lookup,ht.typeIs,?_⟩;exact HT.wF ht hs pl pu (by rw [hlen];exact hw) ⟨.ref a,H,I,rfl,q⟩
def JY {α:Type}(xs:G0 α)(lo hi:G7 P7):G0 α:=(xs.drop (HT.sIx xs.length 0 lo)).take (HT.sIx xs.length xs.length hi-HT.sIx xs.length 0 lo)
abbrev TOD:=SD->HD->(G7 P7->HD->Prop)->Prop
def YQ:TOD:=λ_ h Q=>Q none h
def PY (t:TED):TOD:=λσ h Q=>t σ h λx h1=> ∃i,x= .int i/\Q (some i) h1
def LO (K:G1)(t:TOD):TO:=λσ H Q=> ∃lI h Qd,RelS K H lI σ/\RelH K h H/\t lI h Qd/\ ∀o h' H',Kept H H'->RelH K h' H'->Qd o h'->Q o H'
theorem LO.bind {K:G1}{ta:TOD}{σ:St}{H:Hp}{lI:SD}{h:HD}{kd:G7 P7->HD->Prop}{k:G7 P7->Hp->Prop}(rs:RelS K H lI σ)(rh:RelH K h H)(t:ta lI h kd)(f: ∀o h' H',Kept H H'->RelS K H' lI σ->RelH K h' H'->kd o h'->k o H'):LO K ta σ H k:=
 ⟨lI,h,kd,rs,rh,t,λo h' H' kp r1 q=>f o h' H' kp (rs.mono kp) r1 q⟩
theorem PO.imp {e:G7 D2}{t t':TO}(h:PO X e t)(i: ∀σ H Q,t' σ H Q->t σ H Q):PO X e t':=λpins s σ H Q I q=>h pins s σ H Q I (i σ H Q q)
abbrev QO (X:Cx)(e:G7 D2)(t:TOD):Prop:=PO X e (LO X.K t)
theorem Qt:QO X none YQ:=po_none.imp λσ H Q ⟨lI,h,Qd,rs,rh,q,p⟩=>p none h H (.refl H) rh q
theorem Qu {e:D2}{te:TED}(he:QE X e te):QO X (some e) (PY te):=(XM he).imp λσ H Q ⟨lI,h,Qd,rs,rh,q,p⟩=>
 LE.bind rs rh q λd v h1 H1 k1 rs1 rh1 r1 ⟨i,e,q1⟩=>by subst e;exact⟨i,r1,p _ _ _ k1 rh1 q1⟩
def slD:D->G7 P7->G7 P7->HD->KD->Prop:=λx lo hi h Q=>match x with
 | .tup ds=>Q (.tup (JY ds lo hi)) h
 | .scr ns=> ∀p,h p=none->Q (.lst p) (zt h p ((JY ns lo hi).map D.int))
 | .lst a=> ∃ds,h a=some ds/\ ∀p,h p=none->Q (.lst p) (zt h p (JY ds lo hi))
 |_=>False
def dSl (te:TED)(tl th:TOD):TED:=λσ h Q=>te σ h λx h1=>tl σ h1 λl h2=>th σ h2 λu h3=>slD x l u h3 Q
theorem Jh {K:G1}{H:Hp}{ds:G0 D}{vs:G0 V}(r:RelDs K H ds vs)(lo hi:G7 P7):RelDs K H (JY ds lo hi) (VF vs lo hi):=by
 unfold JY VF;rw [r.length];exact(r.drop _).take _
theorem Qw {α β:Type}(f:α->β)(xs:G0 α)(lo hi:G7 P7):JY (xs.map f) lo hi=(JY xs lo hi).map f:=by
 unfold JY;rw [G9,List.map_take,List.map_drop]
theorem PZ {e:D2}{te:TED}{lo hi:G7 D2}{tl th:TOD}{pos p2:Pos}(he:QE X e te)(hl:QO X lo tl)(hu:QO X hi th):QE X (.Subscript e (.Slice lo hi none p2) pos) (dSl te tl th):=
 (VU (sl_tup.or (sl_whole.or XN)) he hl hu).imp λσ H Q ⟨lI,h,Qd,rs,rh,q,p⟩=>
  LE.bind rs rh q λd v h1 H1 k1 rs1 rh1 r1 q1=>LO.bind rs1 rh1 q1 λl h2 H2 k2 rs2 rh2 q2=>LO.bind rs2 rh2 q2 λu h3 H3 k3 rs3 rh3 q3=>by
   have rv:=(r1.mono k2).mono k3;have kk:=k1.trans (k2.trans k3);cases d<;>first
    |exact False.elim q3
    |skip
   ·rename_i ds;obtain⟨a,vs,e1,hH,r⟩:=(show ∃a vs,v= .ref a/\H3 a=some (.tup vs)/\RelDs X.K H3 ds vs from rv)
    by_cases hw:HT.sIx vs.length 0 l=0/\HT.sIx vs.length vs.length u=vs.length
    ·refine .inr (.inl ⟨a,vs,e1,SqT.of hH,hw,p (.tup (JY ds l u)) _ _ _ kk rh3 ⟨a,vs,rfl,hH,?_⟩ q3⟩);have z:=Jh r l u;have e:VF vs l u=vs:=by unfold VF;rw [hw.1,hw.2];simp
     rwa [e] at z
    ·exact .inl ⟨a,vs,e1,SqT.of hH,hw,λc hc=>p (.tup (JY ds l u)) _ _ _ (kk.trans (.new hc)) (rh3.new hc) ⟨c,_,rfl,jf,(Jh r l u).mono (.new hc)⟩ q3⟩
   ·rename_i a;obtain⟨ds,hd,q3⟩:=q3;obtain⟨vs,hH,r⟩:=rh3 a ds hd;exact .inr (.inr ⟨a,vs,rv.1,SqL.of hH,λc hc=>p (.lst c) _ _ _ (kk.trans (.new hc)) (rh3.newL hc (Jh r l u)) ⟨rfl,_,jf⟩ (q3 c (rh3.free hc))⟩)
   ·rename_i ns;obtain⟨a,e1,hS⟩:=(show ∃a,v= .ref a/\Scr X.K H3 a ns from rv);refine .inr (.inr ⟨a,_,e1,hS.sq,λc hc=>p (.lst c) _ _ _ (kk.trans (.new hc)) (rh3.newL hc ?_) ⟨rfl,_,jf⟩ (q3 c (rh3.free hc))⟩);have z:=Jh (yi (K:=X.K) (H:=H3) ns) l u
    rwa [Qw] at z
end L2
namespace HT
open PySem PySem.Spec PyProof.Rows
open Sem (wp)
open Builtin
theorem yy:fillsNumberSlot (.type "tuple") "mul" =pure false:=
 PySem.fillsNumberSlot_seq (id:= "tuple.__mul__") (r:=some (.builtin "tuple.__rmul__")) F.slot_tuple_mul.lookup (by decide +kernel) F.slot_tuple_rmul.lookup (by decide +kernel)
theorem JZ:j5 (.type "tuple")=pure (some (.builtin "tuple.__mul__")):=by
 unfold j5;rw [eU (T:= "tuple") (name:= "__mul__") (id:= "tuple.__mul__") F.slot_tuple_mul.lookup (by decide +kernel),eU (T:= "tuple") (name:= "__rmul__") (id:= "tuple.__rmul__") F.slot_tuple_rmul.lookup (by decide +kernel)];rfl
section
variable {prog:D6}{w:S7}{A:R8}{E:G2->G3->Prop}{s:G3}
theorem Ji {k:P7}{t:Tok}{l:G4}{o:Obj}{its:F3 G2}{n:P5}{P:g5->G3->Prop}(at_:s.heap.get? l=some o)(tup:o.cls= .type "tuple")(dat:o.data= .seq its n)(h:P (.done (.ret .notImplemented)) s):D5 (D8 prog w) A (Builtin.«int.__rmul__» ⟨[.int k t,.ref l],[]⟩) P E s:=by
 obtain⟨c,dd,dt,sl⟩:=o;cases tup;cases dat;obtain⟨hp,g,d,tk,os⟩:=s
 wp_walk
 exact h
theorem ZK {l:G4}{its:F3 G2}{n:P5}{x:P7}{u:Tok}{dd:G7 G4}{sl:F3 (G7 G2)}{P:g5->G3->Prop}(at_:s.heap.get? l=some {cls:= .type "tuple",dict:=dd,data:= .seq its n,slots:=sl})(fits: -(2^63)<=x/\x<2^63)
 (same:(its.isEmpty||x==1)=true->P (.done (.ret (.ref l))) s)
 (gone:(its.isEmpty||x==1)=false->(decide (x<=0)||its.isEmpty)=true->P (.done (.ret (.ref s.heap.objs.size))) {s with heap:=s.heap.push {cls:= .type "tuple",data:= .seq #[]}})
 (more:(its.isEmpty||x==1)=false->(decide (x<=0)||its.isEmpty)=false-> ¬ (its.size:P7)*x>(2^63-1) / 8/\Z6 ((its.size:P7)*x)=false/\((D1 x.toNat its).foldl (· ++ ·) #[]).size<=sizeLine/\
  P (.done (.ret (.ref s.heap.objs.size))) {s with heap:=s.heap.push {cls:= .type "tuple",data:= .seq ((D1 x.toNat its).foldl (· ++ ·) #[])}}):
 D5 (D8 prog w) A (Builtin.«tuple.__mul__» ⟨[.ref l,.int x u],[]⟩) P E s:=by
 obtain⟨hp,g,d,tk,os⟩:=s
 wp_walk
 rw [S9 (by simp only [W8,eG];omega)]
 wp_walk
 cases c1:(its.isEmpty||x==1) with
 |true=>
  rw [S1 rfl]
  wp_walk
  exact same c1
 |false=>
  rw [S9 P4];cases c2:(decide (x<=0)||its.isEmpty) with
  |true=>
   rw [S1 rfl]
   wp_walk
   exact gone c1 c2
  |false=>
   obtain⟨m1,m2,m3,m4⟩:=more c1 c2;rw [S9 P4];dsimp only;rw [S9 m1,m2,S9 P4]
   wp_walk
   exact m4
end
end HT
namespace L2
open PySem PySem.Spec PyProof.Rows
def Mg (K:G1):R2:=λx y H Q=> ∃ (a:G4) (k:P7) (xs:G0 V),x= .ref a/\y= .int k/\SqT K H a xs/\ -(2^63)<=k/\k<2^63/\xs.length*k.toNat<=sizeLine/\
 ((xs= []\/k=1)->Q (.ref a) H)/\(¬ (xs= []\/k=1)-> ∀p,H p=none->Q (.ref p) (upd H p (.tup (D1 k.toNat xs).flatten)))
theorem yE {l:G0 G2}:l.toArray= #[]↔l= []:=by cases l<;>simp
theorem Qx {X:Cx}:OpR X (N7 .Mult) (Mg X.K):=by
 intro pins s σ H x y v u Q I rx ry h;obtain⟨a,k,xs,rfl,rfl,hH,h1,h2,hz,q1,q2⟩:=h;cases rx;obtain⟨t,rfl⟩:=ry;obtain⟨its,r,ht,_⟩:=I.tuple hH;obtain⟨⟨cls,dd,data,sl⟩,ho,hc,n,hd⟩:=id ht;simp only at hc hd;subst hc hd;have hl:=r.length;have hnew:(D1 k.toNat its.toArray).foldl (· ++ ·) #[]=(D1 k.toNat its).flatten.toArray:=by
  have:=yL its k.toNat [];rw [M9] at this;exact this
 have few:its.length*k.toNat<=sizeLine:=by rw [<-hl];exact hz
 have free:=I.hok.fresh (G8 _);refine aE (T:= "tuple") (U:= "int") (by decide) ⟨_,ho,rfl⟩ (λs'=>bL s' k t) HT.yy fH W7 HT.JZ F.slot_int_index.lookup
  (J7 W7 (bL s k t) eQ (HT.Ji ho rfl rfl ⟨_,rfl,rfl,⟨_,ho,rfl⟩,J7 F.slot_tuple_mul ⟨_,ho,rfl⟩ F.entry_tuple_mul (HT.ZK ho ⟨h1,h2⟩ (λc=> ?_) (λc c0=> ?_) (λc c0=> ?_)) (F.args_tuple_mul_2 _ _)⟩) (dY _ _))
 ·refine⟨_,rfl,.ref a,H,I,rfl,q1 ?_⟩;simp only [W8,beq_iff_eq,eI,yE] at c;exact c.imp (λe=>r.nil_iff.mp e) id
 ·simp only [cK,beq_eq_false_iff_ne,Z7,ne_eq,yE] at c;have k0:k.toNat=0:=by
   simp only [W8,eG,eI,yE] at c0;have:=c0.resolve_right c.1;omega
  have last:=q2 (λz=>z.elim (λe=>c.1 (r.nil_iff.mpr e)) c.2) _ free;rw [k0] at last;exact⟨_,rfl,.ref s.heap.objs.size,_,I.laid (t':=s.toks) (o:= .tup []) (λb ob q=>G5 _ q) (G8 _) ⟨by decide,[],.nil,IsTupN.new _ _⟩,rfl,last⟩
 ·simp only [cK,beq_eq_false_iff_ne,Z7,ne_eq,yE,decide_eq_false_iff_not] at c c0;have em:((its.toArray.size:P5):P7)*k=((its.length*k.toNat:P5):P7):=by rw [Int.natCast_mul,P3,show ((k.toNat:P5):P7)=k by omega]
  have cap:(sizeLine:P5)<=(2^63-1) / 8:=by decide
  rw [em,hnew];refine⟨by omega,by unfold Z6;exact T6 (by omega),by rw [P3,ZF,dZ];exact few,_,rfl,.ref s.heap.objs.size,_,I.laid (t':=s.toks) (o:= .tup (D1 k.toNat xs).flatten) (λb ob q=>G5 _ q) (G8 _) ⟨by rw [ZF,dZ];exact hz,_,r.rep k.toNat,IsTupN.new _ _⟩,rfl,q2 (λz=>z.elim (λe=>c.1 (r.nil_iff.mpr e)) c.2) _ free⟩
def Mh:RD2:=λx y h Q=>match x,y with
 | .tup ds,.int k=> -(2^63)<=k/\k<2^63/\ds.length*k.toNat<=sizeLine/\Q (.tup (D1 k.toNat ds).flatten) h
 |x,y=>Nh x y h Q
theorem yj {X:Cx}:OpQ X (N7 .Mult) Mh:=(oq_mul.or Qx).imp λx y H Q ⟨dx,dy,h,Qd,rx,ry,rh,q,p⟩=>by
 by_cases ht: ∃ds k,dx= .tup ds/\dy= .int k
 ·obtain⟨ds,k,e1,e2⟩:=ht;subst e1 e2;obtain⟨b1,b2,hz,q⟩:=q;obtain⟨a,vs,e,hH,r⟩:=(show ∃a vs,x= .ref a/\H a=some (.tup vs)/\RelDs X.K H ds vs from rx);refine .inr ⟨a,k,vs,e,ry,SqT.of hH,b1,b2,by rw [<-r.length];exact hz,λhs=> ?_,λ_ c hc=>p (.tup _) _ _ _ (.new hc) (rh.new hc) ⟨c,_,rfl,jf,(r.flat _).mono (.new hc)⟩ q⟩;refine p (.tup _) _ _ _ (.refl H) rh ⟨a,vs,rfl,hH,?_⟩ q;rcases hs with e0|e1
  ·subst e0;have:ds= []:=U1.mp r.length;subst this;simpa using r
  ·subst e1;simpa using r
 ·refine .inl ⟨dx,dy,h,Qd,rx,ry,rh,?_,p⟩;unfold Mh at q;split at q
  ·exact absurd ⟨_,_,rfl,rfl⟩ ht
  ·exact q
def Gr:D->HD->KD->Prop:=λx h Q=>match x with
 | .int i=>Q (.int (-i)) h
 |_=>False
def dUn (f:D->HD->KD->Prop)(ta:TED):TED:=λσ h Q=>ta σ h λx h1=>f x h1 Q
theorem Mi {X:Cx}{a:D2}{ta:TED}{pos:Pos}(ha:QE X a ta):QE X (.UnaryOp .USub a pos) (dUn Gr ta):=
 (Rn GV ha).imp λσ H Q ⟨lI,h,Qd,rs,rh,t,p⟩=>LE.bind rs rh t λd v h1 H1 k1 rs1 rh1 r1 q=>by
  cases d<;>first
   |exact False.elim q
   |exact⟨_,r1,p (.int _) _ _ _ k1 rh1 rfl q⟩
end L2
namespace HT
open PySem PySem.Spec PyProof.Rows
section
variable {prog:D6}{w:S7}{A:R8}{E:G2->G3->Prop}{s:G3}
theorem WK (n:P5):F4 none none (-1) (n:P7)=((n:P7)-1,-1):=rfl
theorem WL (n:P5):M0 ((n:P7)-1) (-1) (-1)=n:=by
 unfold M0;have h1: ¬ ((-1:P7)>0):=by omega
 simp only [h1,cH,show (- -1:P7)=1 by decide,iA];split<;>omega
theorem Uj (xs:F3 G2):((C8 xs.size).filterMap λ(k:P5)=>xs[((xs.size:P7)-1+(k:P7)*(-1)).toNat]?).toArray=xs.toList.reverse.toArray:=by
 have e:(λ(k:P5)=>xs[((xs.size:P7)-1+(k:P7)*(-1)).toNat]?)=(λk=>xs[xs.size-1-k]?):=by
  funext k
  have:((xs.size:P7)-1+(k:P7)*(-1)).toNat=xs.size-1-k:=by omega
  rw [this]
 rw [e];have h2:(C8 xs.size).filterMap (λk=>xs[xs.size-1-k]?)=((C8 xs.size).map (λk=>xs.size-1-k)).filterMap (xs[·]?):=by rw [dE];rfl
 rw [h2,kM,List.filterMap_reverse,k6]
theorem yk {t sl:G4}{items:F3 G2}{u:Tok}{Q:G2->G3->Prop}(ht:g0 s.heap t items)(hs:s.heap.IsSliceOf sl .none .none (.int (-1) u))
 (h:Q (.ref s.heap.objs.size) {s with heap:=s.heap.push {cls:= .type "tuple",data:= .seq items.toList.reverse.toArray}})
 (hsz:items.size<=sizeLine):D5 (D8 prog w) A (aL (.ref t) (.ref sl)) Q E s:=by
 have htake:sizeOk (.seq items.toList.reverse.toArray):=by
  show items.toList.reverse.toArray.size<=sizeLine;rw [P3,K1,B0];exact hsz
 obtain⟨os,hos,hcs,hds⟩:=id hs;have hTs:s.TypeIs (.ref sl) "slice" :=⟨os,hos,hcs⟩;unfold aL
 try with_reducible refine L8 ?_
 first|refine wpAny_bind (P1 ?_)|skip
 refine wpAny_bind (aM ht.typeIs (by decide) ?_);refine wpAny_bind (Q8 (name:=D7 "__getitem__") ht.typeIs M7
  (J7 M7 ht.typeIs X0 ?_ (Y9 _ _)))
 show D5 _ _ (J0 (.ref t) >>= _) _ _ s;refine wpAny_bind (c4 ht ?_);refine wpAny_bind (bH hTs ?_);rw [S1 (by decide)];have ap:D5 (D8 prog w) A.in1 (O2 (.ref sl) (pure (items.size:P7))) (λr s'=>r=((items.size:P7)-1,-1,items.size)/\s'=s) (λ_ _=>False) s:=by
  unfold O2 aD;refine wpAny_bind (wpAny_bind (Q7 hos hds (x:= .none) rfl (wpAny_bind (Q7 hos hds (x:= .none) rfl (wpAny_bind (Q7 hos hds (x:= .int (-1) u) rfl (P1 ?_)))))));refine wpAny_bind (gI ?_);show D5 _ _ (if ((-1:P7)==0)=true then _ else _) _ _ s;rw [S9 (by decide)];refine wpAny_bind (Y8 (wpAny_bind (Y8 (wpAny_bind (P1 ?_)))));show D5 _ _ (match F4 none none (-1) (items.size:P7) with|(lo,hi)=>pure (lo,(-1:P7),M0 lo hi (-1))) _ _ s;rw [WK];show D5 _ _ (pure ((items.size:P7)-1,(-1:P7),M0 ((items.size:P7)-1) (-1) (-1))) _ _ s;rw [WL];exact P1 ⟨rfl,rfl⟩
 refine wpAny_bind (S3 ap (λr s' e=> ?_) λ_ _ z=>z.elim);obtain⟨rfl,rfl⟩:=e;have hno: ¬ ((((items.size:P7)-1)==0&&(-1:P7)==1&&items.size==items.size)=true):=by
  rw [show ((-1:P7)==1)=false by decide];simp
 show D5 _ _ (if ((((items.size:P7)-1)==0&&(-1:P7)==1&&items.size==items.size)=true) then _ else _) _ _ s';rw [S9 hno,Uj]
 first
  |exact wpAny_bind (m:=M6 _) (B2 (P1 ⟨_,rfl,P1 h⟩) htake)
  |exact wpAny_bind (m:=M6 _) (B2 (wpAny_bind (P1 (P1 ⟨_,rfl,P1 h⟩))) htake)
  |exact wpAny_bind (wpAny_bind (m:=M6 _) (B2 (P1 (P1 ⟨_,rfl,P1 h⟩)) htake))
  |exact wpAny_bind (wpAny_bind (m:=M6 _) (B2 (P1 ⟨_,rfl,P1 h⟩) htake))
end
end HT
namespace L2
open PySem PySem.Spec PyProof.Rows
def Nj (te:TED):TED:=λσ h Q=>te σ h λx h1=> ∃ds,x= .tup ds/\Q (.tup ds.reverse) h1
theorem Vals.rev: ∀ {xs:G0 V} {us:G0 G2},Vals xs us->Vals xs.reverse us.reverse
 |_,_,.nil=> .nil
 |_,_,.cons r t=>by rw [V1,V1];exact(Vals.rev t).append (.cons r .nil)
variable {K:G1}
theorem RelDs.rev {H:Hp}: ∀ {ds:G0 D} {vs:G0 V},RelDs K H ds vs->RelDs K H ds.reverse vs.reverse
 | [],_,h=>by cases (show _= [] from h);exact .nil
 |d::ds,vs,h=>by
  obtain⟨v,r,e,h1,h2⟩:=(show ∃v r,vs=v::r/\RelD K H d v/\RelDs K H ds r from h);subst e;rw [V1,V1];exact(RelDs.rev h2).append (.cons h1 .nil)
variable {X:Cx}{e:D2}{te:TED}
theorem NY {pos p2 p3 p4:Pos}{j:P5}(he:QE X e te):QE X (.Subscript e (.Slice none none (some (.UnaryOp .USub (.Constant (.int 1) j p4) p3)) p2) pos) (Nj te):=by
 intro pins s σ H Q I h;obtain⟨lI,h,Qd,rs,rh,t,p⟩:=h;refine dF (thn (he pins s σ H _ I (LE.bind rs rh t λd v h1 H1 k1 rs1 rh1 r1 q1=>(show ∃lI h1 d,RelS X.K H1 lI σ/\RelH X.K h1 H1/\RelD X.K H1 d v/\Kept H H1/\ ∃ds,d= .tup ds/\Qd (.tup ds.reverse) h1 from ⟨lI,h1,d,rs1,rh1,r1,k1,q1⟩))) λv s1 ⟨x,H1,I1,r1,q1⟩=> ?_);obtain⟨mL,h1,d,rs1,rh1,rd,k1,ds,e1,q1⟩:=q1;subst e1;obtain⟨a,vs,e2,hH,r2⟩:=(show ∃a vs,x= .ref a/\H1 a=some (.tup vs)/\RelDs X.K H1 ds vs from rd);subst e2;cases r1;refine fB ?_;rw [aP];refine P1 ?_;refine P1 ?_;rw [c5];have hneg:LE X.K (dUn Gr (dC (.int 1))) σ H1 (λv H'=>v=V.int (-1)/\RelH X.K h1 H'/\Kept H1 H'):=
  ⟨mL,h1,λd h'=>d= .int (-1)/\h'=h1,rs1,rh1,⟨rfl,rfl⟩,λd v h' H' k rh' r' e=>by
   obtain⟨e1,e2⟩:=e;subst e1 e2;exact⟨r',rh',k⟩⟩
 refine thn ((Mi (RJ (X:=X) (i:=1) (j:=j) (pos:=p4)) (pos:=p3)) pins s1 σ H1 _ I1 hneg) λu s2 ⟨y,H2,I2,ry,ey,rh2,k2⟩=> ?_
 subst ey;obtain⟨tk,rfl⟩:=ry;have hH2:=k2.tup _ _ hH;have I4:Inv X pins σ H2 {s2 with heap:=s2.heap.push {cls:= .type "slice",data:= .fields #[.none,.none,.int (-1) tk]}}:=I2.kept (t':=s2.toks) λb ob q=>G5 _ q
 obtain⟨its,r,ht,hz⟩:=I4.tuple (SqT.of hH2);have hlen:its.toArray.size=vs.length:=by rw [P3];exact r.length.symm
 show D5 (D8 X.prog X.w) X.A (aQ e (.Slice none none (some (.UnaryOp .USub (.Constant (.int 1) j p4) p3)) p2) (.ref a) (.ref s2.heap.objs.size)) (EP X pins σ Q) X.xe {s2 with heap:=s2.heap.push {cls:= .type "slice",data:= .fields #[.none,.none,.int (-1) tk]}};refine fU (ops:= [.ref a,.ref s2.heap.objs.size]) ht.typeIs PyProof.Rows.slot_tuple_getitem.lookup ?_ (by with_unfolding_all rfl);refine HT.yk ht (Z0 ..) ?_ (by rw [hlen];exact hz);have hf:=I4.hok.fresh (G8 _);refine⟨.ref _,_,I4.laid (t':=s2.toks) (o:= .tup vs.reverse) (λb ob q=>G5 _ q) (G8 _) ⟨by rw [K1];exact hz,_,Vals.rev r,IsTupN.new _ _⟩,rfl,?_⟩;exact p (.tup ds.reverse) _ _ _ (k1.trans (k2.trans (.new hf))) (rh2.new hf) ⟨_,_,rfl,jf,((r2.mono k2).rev).mono (.new hf)⟩ q1
def Wl (x:Str)(i:P7):TED:=λ_ h Q=>Q (.dic x i) h
variable {p:G4}
theorem Uk {H:Hp}{a b:HO}:upd (upd H p a) p b=upd H p b:=by
 funext q;unfold upd;split<;>rfl
variable {x:Str}
theorem Da {i:P7}{j k:P5}{pos p1 p2:Pos}:QE X (.Dict [some (.Constant (.str x) j p1)] [.Constant (.int i) k p2] pos) (Wl x i):=by
 have h0:PPs X pos [some (.Constant (.str x) j p1)] [.Constant (.int i) k p2] [(tC (.str x),tC (.int i))]:=Ua pe_str pe_int XS;refine PE.imp (XT h0 rfl rfl (by simp) (by simp)) ?_;rintro σ H Q ⟨lI,h,Qd,rs,rh,t,p⟩ q hq;show upd H q (.dK []) q=some (.dK [])/\_;refine⟨jf,[((J5 x:Key),V.int i)],rfl,by simp,?_⟩;rw [Uk];exact p (.dic x i) (.ref q) h _ (.new hq) (rh.new hq) ⟨q,rfl,jf⟩ t
def ZL:G0 (G7 D2)->G0 D2->G7 (Str×P7)
 | [some (.Constant (.str x) _ _)],[.Constant (.int i) _ _]=>some (x,i)
 |_,_=>none
theorem Db {ks:G0 (G7 D2)}{vs:G0 D2}{pos:Pos}{i:P7}(h:ZL ks vs=some (x,i):=by rfl):QE X (.Dict ks vs pos) (Wl x i):=by
 unfold ZL at h;split at h
 ·cases h;exact Da
 ·cases h
def Dc (K:G1)(tl:TE):TI:=λσ H R=>tl σ H λx H1=> ∃a,x= .ref a/\((∃xs,SqL K H1 a xs/\R (Itl K a) H1)\/ ∃xs,SqT K H1 a xs/\R (Itt K a) H1)
theorem De {tg l:D2}{tl:TE}(hl:PE X l tl):PI X tg l (Dc X.K tl):=by
 intro pins s σ H R I h;refine thn (hl pins s σ H _ I h) λv s1 ⟨x,H1,I1,r1,q1⟩=> ?_
 obtain⟨a,e,q⟩:=q1;subst e;cases r1;rcases q with ⟨xs,hq,q⟩|⟨xs,hq,q⟩
 ·obtain⟨its,rv,p,hz⟩:=I1.list hq;refine aJ p.isList ?_;refine⟨s1.heap.objs.size,[s1.heap.objs.size],_,_,H1,rfl,I1.kept (t':=s1.toks) λb o e=>G5 _ e,JC a _,⟨_,R9 _ rfl,rfl,rfl⟩,λb hb=> ?_,q⟩;have e:b=s1.heap.objs.size:=by simpa using hb
  subst e;exact I1.fpOk (G8 _) (I1.hok.fresh (G8 _))
 ·obtain⟨its,rv,p,hz⟩:=I1.tuple hq;refine wpAny_pyIter_tuple (show s1.heap.IsTuple a its.toArray from p) ?_;refine⟨s1.heap.objs.size,[s1.heap.objs.size],_,_,H1,rfl,I1.kept (t':=s1.toks) λb o e=>G5 _ e,WB a _,⟨_,R9 _ rfl,rfl,rfl⟩,λb hb=> ?_,q⟩;have e:b=s1.heap.objs.size:=by simpa using hb
  subst e;exact I1.fpOk (G8 _) (I1.hok.fresh (G8 _))
def iS (te:TED):TID:=λσ h R=>te σ h λx h1=>match x with
 | .lst a=>R (λh=>h a) h1
 | .tup ds=>R (λ_=>some ds) h1
 | .scr ns=>R (λ_=>some (ns.map D.int)) h1
 |_=>False
theorem Ul {H:Hp}{a:G4}{ns:G0 P7}(hs:Scr K H a ns):Qj K H (λ_=>some (ns.map D.int)) (Itl K a):=λH' h' k rh ds' e i=>by
 cases e;have hs':Scr K H' a ns:=hs.elim (λ⟨o,z⟩=> .inl ⟨o,k.frz _ _ _ z⟩) .inr;refine⟨λd hd=> ?_,λhl=>⟨_,hs'.sq,by simpa using hl⟩⟩;obtain⟨v,e1,e2⟩:=(yi (K:=K) (H:=H') ns).get hd;refine⟨⟨_,v,hs'.sq,e1⟩,λx H'' ⟨eH,hx⟩=> ?_⟩;subst eH;have:=hx _ hs'.sq;rw [e1] at this;cases this;exact⟨.refl _,rh,e2⟩
theorem Df: ∀σ H R,LI K (iS te) σ H R->Dc K (LE K te) σ H R:=λσ H R ⟨lI,h,Rd,rs,rh,q,p⟩=>
 LE.bind rs rh q λd v h1 H1 k1 rs1 rh1 r1 q1=>by
  cases d<;>first
   |exact False.elim q1
   |skip
  ·rename_i ds;obtain⟨a,vs,e,hv,r⟩:=(show ∃a vs,v= .ref a/\H1 a=some (.tup vs)/\RelDs K H1 ds vs from r1);exact⟨a,e,.inr ⟨vs,SqT.of hv,p _ _ _ _ k1 rh1 (Uf hv r) q1⟩⟩
  ·rename_i a;obtain⟨e,vs,hv⟩:=(show v= .ref a/\ ∃vs,H1 a=some (.lst vs) from r1);exact⟨a,e,.inl ⟨vs,SqL.of hv,p _ _ _ _ k1 rh1 (JQ H1 a) q1⟩⟩
  ·rename_i ns;obtain⟨a,e,hS⟩:=(show ∃a,v= .ref a/\Scr K H1 a ns from r1);exact⟨a,e,.inl ⟨_,hS.sq,p _ _ _ _ k1 rh1 (Ul hS) q1⟩⟩
theorem Dg {tg:D2}(he:QE X e te):QI X tg e (iS te):=(De he).imp Df
def YR:TSD:=λ_ _ _=>False
theorem Dh {st:N2}:QS X st YR:=λ_ _ _ _ _ _ ⟨_,_,_,_,_,z,_⟩=>z.elim
structure Zs (mg:Str->G7 G2):Prop where
 len:mg "len" =none
 max:mg "max" =none
 min:mg "min" =none
 divmod:mg "divmod" =none
 all:mg "all" =none
 any:mg "any" =none
 repr:mg "repr" =none
 sum:mg "sum" =none
 sorted:mg "sorted" =none
 int:mg "int" =none
 tuple:mg "tuple" =none
 list:mg "list" =none
 set:mg "set" =none
 bool:mg "bool" =none
 isinstance:mg "isinstance" =none
 range:mg "range" =none
 zip:mg "zip" =none
 enumerate:mg "enumerate" =none
 reversed:mg "reversed" =none
def jz (P:D6)(w:S7)(K:G1)(mg:Str->G7 G2)(base:S6)(n:P5)(x:Str)(ps:G0 Str)(sp:RDn):Prop:=
 ∃ (g:G4) (gd:D4),FnOk P w K mg base CX0 n g gd ps (LSp K sp)/\Binds K gd ps []/\N8 K (.ref g)=true/\mg x=some (.ref g)
def YS:RDn:=λds h Q=> ∃ns,ds= [.scr ns]/\(∀a,h a=none)/\ns.length<=63/\ ∀h',Q (.bl true) h'
def Bm (mg:Str->G7 G2)(base:S6):Prop:= ∃bm ob,mg "__builtins__" =some (.ref bm)/\bm≠X9/\base.get? bm=some ob/\ob.cls= .type "module" /\ob.dict=some X9/\ob.data= .plain
def zi (K:G1):G0 (G4×G4):=LN.filterMap (aS K)
theorem TabK.mem {P:G4}(h:TabK K P): ∃c,(c,P)∈zi K:=let ⟨x,hx,c,e⟩:=h;⟨c,A6.mpr ⟨x,hx,e⟩⟩
theorem YT {P:D6}{w:S7}{mg mb:Str->G7 G2}{k:P5}{fa a:G4}{fd:D4}{lJ:G3}{vs:G0 G2}{ns:G0 P7}
 (KX:K.In lJ.heap)(hns:lJ.heap.Ns mainGlobals mg)(hb:lJ.heap.Ns X9 mb)(hbb: ∀x:Str,x≠ "__name__" ->mb x=B5 x)(hlim:lJ.heap.NoLimit)(hg:lJ.gens= #[])
 (ha:lJ.heap.get? a=some {cls:= .type "list",data:= .seq vs.toArray})(hi:fL vs ns)(hl:ns.length<=63)(hr:Room k cU)
 (hbm:Bm mg lJ.heap)(F: ∀base:S6,K.In base->base.Ns mainGlobals mg->Bm mg base->FnOk P w K mg base CX0 k fa fd [x] (LSp K YS))(hbind: ∀ (s:G3) (u:G2),cS s fd ⟨[u],[]⟩ [(x,u)])
 (hT: ∀p∈zi K,f8 lJ.heap p.1 p.2/\lJ.heap.get? p.2=some (cL #[])/\K.lookup p.2=none):
 K8 (D8 P w) cU (.call (.ref fa) ⟨[.ref a],[]⟩) (λr s'=>r= .ok (.ret (.bool true))/\OldK lJ.heap s'.heap/\s'.os=lJ.os/\X3 s'.gens) lJ:=by
 have rv:=JL hi;have lenV:=hi.length;have hz:ns.length<=sizeLine:=R4 hl (by decide);have hT': ∀b,b∈(zi K).map (·.2)-> ∃c,f8 lJ.heap c b/\lJ.heap.get? b=some (cL #[])/\K.lookup b=none:=λb hb=>by
  obtain⟨p,hp,rfl⟩:=S0.mp hb;exact⟨p.1,hT p hp⟩
 have core: ∀H:Hp,Scr K H a ns->HOk P w H lJ.heap->(∀b u,H b=some u->(b=a/\K.lookup a=none/\ ∃o xs,u= .frz o (.lst xs))\/(b∈(zi K).map (·.2)/\u= .tbl #[]))->(∀b,b∈(zi K).map (·.2)->H b=some (.tbl #[]))->
  K8 (D8 P w) cU (.call (.ref fa) ⟨[.ref a],[]⟩) (λr s'=>r= .ok (.ret (.bool true))/\OldK lJ.heap s'.heap/\s'.os=lJ.os/\X3 s'.gens) lJ:=by
  intro H hS hok hA hTt;have noA: ∀ {b:G4} {o:Obj} {es:F3 DictEntry} {ep:P5},lJ.heap.get? b=some o->o.data= .dict es ep->H b=none:=λ{b o es ep} e d=>by
   cases q:H b with
   |none=>rfl
   |some u=>
    rcases hA b u q with ⟨rfl,_,_⟩|⟨z,_⟩
    ·rw [ha] at e;cases e;have d':Data.seq vs.toArray _=Data.dict es ep:=d;cases d'
    ·obtain⟨c,_,e2,_⟩:=hT' b z;rw [e2] at e;cases e;have d':Data.fields _=Data.dict es ep:=d;cases d'
  have nsK: ∀ {b:G4} {m:Str->G7 G2},lJ.heap.Ns b m->(VJ lJ.heap H).Ns b m:=λ{b m} ⟨o,es,ep,e,d,r⟩=>⟨o,es,ep,vY e (noA e d),d,r⟩
  have hKb:K.In (VJ lJ.heap H):=λb o e=>vY (KX b o e) (by
   cases q:H b with
   |none=>rfl
   |some u=>
    rcases hA b u q with ⟨rfl,z,_⟩|⟨z,_⟩
    ·rw [z] at e;cases e
    ·obtain⟨c,_,_,z2⟩:=hT' b z;rw [z2] at e;cases e)
  have hM:Mod K mg (VJ lJ.heap H):=⟨hKb,nsK hns,⟨mb,nsK hb,hbb⟩,let ⟨mc,h1,h2⟩:=hlim;⟨mc,nsK h1,h2⟩⟩;have e0:Env0 P w K mg (VJ lJ.heap H) cU [] lJ H:=⟨rfl,hM,λb o e=>Xu e,bM (Yg _ _),trivial,λb hb=>absurd (show b∈([]:G0 G4) from hb) (by simp),hok,.of_eq hg⟩;have hsp:LSp K YS [.ref a] H (λv _=>v= .bl true) (λ_ _ _=>False):=by
   refine⟨[.scr ns],⟨λ_=>none,λ_=>none⟩,λd _=>d= .bl true,⟨.ref a,[],rfl,⟨a,rfl,hS⟩,rfl⟩,⟨λb ds e=>(by cases e),λp hp=> ?_,λb c e=>(by cases e)⟩,⟨ns,rfl,λ_=>rfl,hl,λ_=>rfl⟩,?_⟩
   ·obtain⟨c,hc⟩:=hp.mem;exact⟨#[],hTt p (List.mem_map_of_mem (f:=(·.2)) hc),trivial,λpos cv e=>(by cases e)⟩
   ·intro d v h' H' _ _ r e;subst e;exact r
  have hBm:Bm mg (VJ lJ.heap H):=by
   obtain⟨bm,ob,b1,b2,b3,b4,r⟩:=hbm;refine⟨bm,ob,b1,b2,vY b3 ?_,b4,r⟩;cases q:H bm with
   |none=>rfl
   |some u=>
    rcases hA bm u q with ⟨rfl,_,_⟩|⟨z,_⟩
    ·rw [ha] at b3;cases b3;exact absurd (Value.type.inj b4) (by decide)
    ·obtain⟨c,_,e2,_⟩:=hT' bm z;rw [e2] at b3;cases b3;cases b4
  refine U4 ((F _ hKb (nsK hns) hBm).run cU [] lJ H ⟨[.ref a],[]⟩ [.ref a] [.ref a] _ _ hr e0 (hbind lJ (.ref a)) (.cons rfl .nil) hsp) λr s' h=> ?_
  cases r with
  |error e=>exact False.elim h
  |ok fl=>
   cases fl with
   |next=>exact False.elim h
   |brk=>exact False.elim h
   |cont=>exact False.elim h
   |ret u=>
    obtain⟨v,H',os,bare,un,hok',r',q⟩:=h;have q':v= .bl true:=q;subst q';obtain rfl:u=fM true:=r';have one: ∀b o,lJ.heap.get? b=some o->s'.heap.get? b=some o\/(b∈(zi K).map (·.2)/\ ∃more,s'.heap.get? b=some (cL more)):=λb o e=>by
     cases q:H b with
     |none=>exact .inl (un.keep b o e q (by intro z;exact absurd (show b∈([]:G0 G4) from z) (by simp)) (by simp))
     |some u=>
      rcases hA b u q with ⟨rfl,_,ob,xs,rfl⟩|⟨z,rfl⟩
      ·have z2:=un.frzs _ ob _ q;obtain⟨e1,_⟩:=hok _ _ q;obtain⟨e2,_⟩:=hok' _ _ z2;rw [e] at e1;cases e1;exact .inl e2
      ·obtain⟨more,z2⟩:=un.tbls b _ q;exact .inr ⟨z,_,(show s'.heap.get? b=some _ from hok' b _ z2)⟩
    refine⟨rfl,⟨λb o e=> ?_,λb o e=> ?_⟩,os,bare⟩
    ·rcases one b o e with z|⟨z,more,z2⟩
     ·exact .inl z
     ·obtain⟨c,hc,e2,_⟩:=hT' b z;rw [e] at e2;cases e2;refine .inr (.inl ⟨(hc.tab e).isCodeTable,rfl,#[],more,rfl,?_⟩);rw [z2];simp
    ·rcases one b o e with z|⟨z,more,z2⟩
     ·exact⟨_,z⟩
     ·exact⟨_,z2⟩
 have nT:a ∉ (zi K).map (·.2):=λz=>by
  obtain⟨c,_,e2,_⟩:=hT' a z;rw [ha] at e2;cases e2
 have okT: ∀ {H:Hp} (b:G4),b∈(zi K).map (·.2)->ObjOk P w H lJ.heap b (.tbl #[]):=λb hb=>let ⟨_,_,e,_⟩:=hT' b hb;e
 cases hk:K.lookup a with
 |some o=>
  have e:=KX a o hk;rw [ha] at e;cases e;refine core (λb=>if b∈(zi K).map (·.2) then some (.tbl #[]) else none) (.inr ⟨_,vs.toArray,_,hk,rfl,rfl,rfl,by rw [P3,lenV];exact hz,by simpa using rv⟩) (λb u z=> ?_) (λb u z=> ?_) λb hb=>S1 hb
  ·by_cases hb:b∈(zi K).map (·.2)
   ·have z':=(S1 hb).symm.trans z;cases z';exact okT b hb
   ·have z':=(S9 hb).symm.trans z;cases z'
  ·by_cases hb:b∈(zi K).map (·.2)
   ·have z':=(S1 hb).symm.trans z;cases z';exact .inr ⟨hb,rfl⟩
   ·have z':=(S9 hb).symm.trans z;cases z'
 |none=>
  refine core (λb=>if b=a then some (.frz {cls:= .type "list",data:= .seq vs.toArray} (.lst (ns.map V.int))) else if b∈(zi K).map (·.2) then some (.tbl #[]) else none) (.inl ⟨{cls:= .type "list",data:= .seq vs.toArray},S1 rfl⟩) (λb u z=> ?_) (λb u z=> ?_) λb hb=> ?_
  ·by_cases hb:b=a
   ·have z':=(S1 hb).symm.trans z;cases z';subst hb;exact⟨ha,by rw [G9];exact hz,vs,_,rv,ha⟩
   ·have z':=(S9 hb).symm.trans z
    by_cases hb2:b∈(zi K).map (·.2)
    ·have z2:=(S1 hb2).symm.trans z';cases z2;exact okT b hb2
    ·have z2:=(S9 hb2).symm.trans z';cases z2
  ·by_cases hb:b=a
   ·have z':=(S1 hb).symm.trans z;cases z';exact .inl ⟨hb,hk,_,_,rfl⟩
   ·have z':=(S9 hb).symm.trans z
    by_cases hb2:b∈(zi K).map (·.2)
    ·have z2:=(S1 hb2).symm.trans z';cases z2;exact .inr ⟨hb2,rfl⟩
    ·have z2:=(S9 hb2).symm.trans z';cases z2
  ·have:b≠a:=λz=>nT (z ▸ hb)
   show (if b=a then _ else _)=_;rw [S9 this,S1 hb]
def Mj (q:D6)(K:G1):C3:=LN.all λx=>match aS K x with
 |some p=>(K.lookup p.2).isNone&&((i2 q).find? (λe=>e.name==x)).isSome
 |none=>true
theorem Um {l:fJ}{k:P5}{q:D6}{loose:G0 Str}{XP:(Str->G7 G2)->S6->Prop}{YP:S7->S6->Prop}{d:DefRec}{K:lB->G1}(hn:l.most=some 63)(hdf:d.params.defaults= [])(hr:Room k cU)
 (hY: ∀ (w:S7) (h:S6),YP w h->(K w.params).In h)(hB: ∀w:S7,Mj q (K w.params)=true)
 (F: ∀ (w:S7) (mg:Str->G7 G2) (fa:G4) (h:S6),(K w.params).In h->h.Ns mainGlobals mg->mg d.name=some (.ref fa)->
  ∃fd:D4,(∀ (s:G3) (u:G2),cS s fd ⟨[u],[]⟩ [(x,u)])/\ ∀base:S6,(K w.params).In base->base.Ns mainGlobals mg->Bm mg base->FnOk l.prog w (K w.params) mg base CX0 k fa fd [x] (LSp (K w.params) YS)):
 lG q loose XP YP l.row.toRowW d [] (λf vs=>i9 f vs):=by
 refine Att.attach_call hn hdf λw s₀ lJ mg mb fa o pm cd doc a vs ns G Y ho hd hcd hmg hobj hints hlen hg=> ?_
 have KX:=hY w _ Y;obtain⟨fd,hb,hF⟩:=F w mg fa _ KX G.T.g hmg;refine YT KX G.T.g G.T.b G.T.builtins G.T.nolimit hg hobj hints hlen hr G.T.bmain hF hb λp hp=> ?_
 obtain⟨x,hx,e⟩:=A6.mp hp;have z:=R7.mp (hB w) x hx;rw [e] at z;simp only [D9,Option.isNone_iff_eq_none] at z;obtain⟨dd,hdd⟩:=B8.mp z.2;have t:=lE (c:=p.1) (P:=p.2) G.T KX hdd e;exact⟨t.1,t.2,z.1⟩
def jJ:D2->C3
 | .Starred .. =>false
 |_=>true
theorem ZM {es:G0 D2}{env:Env}(h:jJ e=true):G6 (e::es) env=(false,N5 e env)::G6 es env:=by
 cases e<;>first|rfl|cases h
theorem qac {es:G0 D2}{t:TAD}(ha:QE X e te)(hr:QA X es t)(h:jJ e=true:=by rfl):QA X (e::es) (jG te t):=Qb ha hr (ZM h)
theorem zE {α:Type}{xs:G0 α}{i:P7}(h0:0<=i)(h1:i<xs.length): ∃x∈xs,atI xs i=some x:=by
 have hk:i.toNat<xs.length:=by omega
 have ek:i=((i.toNat:P5):P7):=by omega
 have z:=Ja (S2 hk);rw [<-ek] at z;exact⟨xs[i.toNat],aX hk,z⟩
variable {h h':HD}{L:G0 D}
theorem Sub.both (s:Sub h h'):Sub (zt h p L) (zt h' p L):=⟨λa ds e=>(by
 by_cases q:a=p
 ·subst q;rw [jb] at e ⊢;exact e
 ·rw [zb q] at e ⊢;exact s a ds e),s.dc⟩
theorem Sub.newAt (s:Sub h h')(e:h' p=none):Sub h (zt h' p L):=s.trans (.new e)
structure But (p:G4)(h h':HD):Prop where
 ls: ∀a ds,a≠p->h a=some ds->h' a=some ds
 dc: ∀a c,h.dc a=some c->h'.dc a=some c
instance {p:G4}{h h':HD}:CoeFun (But p h h') λ_=> ∀a ds,a≠p->h a=some ds->h' a=some ds:=⟨But.ls⟩
theorem But.refl (p:G4)(h:HD):But p h h:=⟨λ_ _ _ e=>e,λ_ _ e=>e⟩
variable {q:G4}
theorem But.new (s:But p h h')(e:h' q=none):But p h (zt h' q L):=⟨λa ds n z=>(by
 have:=s a ds n z;rw [zb (λw=>by subst w;rw [e] at this;cases this)];exact this),s.dc⟩
theorem But.put (s:But p h h'):But p h (zt h' p L):=⟨λa ds n z=>(by rw [zb n];exact s a ds n z),s.dc⟩
theorem But.putNew (s:But p h h')(e:h q=none):But p h (zt h' q L):=⟨λa ds n z=>(by
 rw [zb (λw=>by subst w;rw [e] at z;cases z)];exact s a ds n z),s.dc⟩
theorem But.sub (s:But p h h')(e:h' p=some L):Sub (zt h p L) h':=⟨λa ds z=>(by
 by_cases q:a=p
 ·subst q;rw [jb] at z;cases z;exact e
 ·rw [zb q] at z;exact s a ds q z),s.dc⟩
theorem But.upd:But p h (zt h p L):=⟨λa ds n z=>(by rw [zb n];exact z),λ_ _ e=>e⟩
theorem jp (e:h p=some L)(f:h q=none):q≠p:=λz=>by subst z;rw [e] at f;cases f
theorem jc {M:G0 D}(e:h p=some L)(f:h q=none):zt h q M p=some L:=by rw [zb (λz=>by subst z;rw [e] at f;cases f)];exact e
theorem jg {a b:G4}{M:G0 D}(n:b≠a)(e:h b=some M):zt h a L b=some M:=by rw [zb n];exact e
theorem YU {n:P5}{i:P5}{d:D}(h:((C8 n).map λ(k:P5)=>D.int (k:P7))[i]? =some d):i<n/\d= .int i:=by
 rw [R6] at h
 by_cases hi:i<n
 ·rw [cV hi] at h;cases h;exact⟨hi,rfl⟩
 ·rw [b7 (by simpa using hi)] at h;cases h
variable {E:EndsD}{σ:SD}
theorem jm {t u:TSD}(V:SD->HD->Prop)(first: ∀K:SD->HD->Prop,(∀lH h',V lH h'->K lH h')->t {E with nx:=K} σ h)(zu: ∀lH h',V lH h'->u E lH h'):zV t u E σ h:=first (u E) zu
theorem YV (b:But p h h')(e:h' q=none)(n:q≠p):h q=none:=by
 cases z:h q with
 |none=>rfl
 |some ds=>rw [b q ds n z] at e;cases e
def Nxt (E:EndsD)(V:SD->HD->Prop):EndsD:= {E with nx:=λlM h3=> ∃h4,Sub h4 h3/\V lM h4,ct:=λlM h3=> ∃h4,Sub h4 h3/\V lM h4,bk:=E.nx}
theorem ZN {ta:TAD}{g:TGD}{tb:TSD}{h1:HD}(n:P5)(W:P5->SD->HD->Prop)(hn:n<1000000)
 (ht: ∀R:G0 D->HD->Prop,R [.int (n:P7)] h1->ta σ h R)(w0:W 0 σ h1)(done: ∀lH h',W n lH h'->E.nx lH h')
 (turn: ∀i lH h',i<n->W i lH h'->g (.int (i:P7)) lH h' λlK h2=>tb (Nxt E λlM h4=>i+1<=n/\W (i+1) lM h4) lK h2):PD (iR1 ta) g tb E σ h:=by
 refine ht _ ⟨(n:P7),rfl,by omega,by omega,n,λi lH h'=>i<=n/\W i lH h',⟨U0 _,w0⟩,?_⟩;rintro i lH h' ⟨hi,w⟩;refine⟨_,rfl,by simp,λhl=> ?_,λd hd=> ?_⟩
 ·have:i=n:=by simp at hl;omega
  subst this;exact done _ _ w
 ·obtain⟨hi',e⟩:=YU hd;have hi2:i<n:=by omega
  subst e;exact turn i lH h' hi2 w
theorem Wm {ti:TID}{g:TGD}{tb:TSD}{h1:HD}{j:ItD}(ds:G0 D)(W:P5->SD->HD->Prop)
 (ht: ∀R:ItD->HD->Prop,R j h1->ti σ h R)(hj: ∀i lH h',W i lH h'->j h'=some ds)(w0:W 0 σ h1)(done: ∀lH h',W ds.length lH h'->E.nx lH h')
 (turn: ∀i d lH h',ds[i]? =some d->W i lH h'->g d lH h' λlK h2=>tb (Nxt E λlM h4=>i+1<=ds.length/\W (i+1) lM h4) lK h2):PD ti g tb E σ h:=by
 refine ht _ ⟨ds.length,λi lH h'=>i<=ds.length/\W i lH h',⟨U0 _,w0⟩,?_⟩;rintro i lH h' ⟨hi,w⟩;refine⟨ds,hj i lH h' w,G8 _,λhl=> ?_,λd hd=>turn i d lH h' hd w⟩;have:i=ds.length:=by omega
 subst this;exact done _ _ w
theorem Za {g:TGD}{tb:TSD}{h1:HD}{j:ItD}(ds:G0 D)(W:P5->SD->HD->Prop)
 (hj: ∀i lH h',W i lH h'->j h'=some ds)(w0:W 0 σ h1)(done: ∀lH h',W ds.length lH h'->E.nx lH h')
 (turn: ∀i d lH h',ds[i]? =some d->W i lH h'->g d lH h' λlK h2=>tb (Nxt E λlM h4=>i+1<=ds.length/\W (i+1) lM h4) lK h2):
 ∃ (n:P5) (W:P5->SD->HD->Prop),W 0 σ h1/\ ∀i lH h',W i lH h'-> ∃ds,j h'=some ds/\ds.length<=n/\(ds.length<=i->E.nx lH h')/\
  ∀d,ds[i]? =some d->g d lH h' λlK h2=>tb {E with nx:=λlM h3=> ∃h4,Sub h4 h3/\W (i+1) lM h4,ct:=λlM h3=> ∃h4,Sub h4 h3/\W (i+1) lM h4,bk:=E.nx} lK h2:=by
 refine⟨ds.length,λi lH h'=>i<=ds.length/\W i lH h',⟨U0 _,w0⟩,?_⟩;rintro i lH h' ⟨hi,w⟩;refine⟨ds,hj i lH h' w,G8 _,λhl=> ?_,λd hd=>turn i d lH h' hd w⟩;have:i=ds.length:=by omega
 subst this;exact done _ _ w
end L2
namespace L2
open PySem PySem.Spec PyProof.Rows PySem.SeqAt
mutual
def ToP (h:HD):D->C7->Prop
 |d,.none=>d= .non
 |d,.bool b=>d= .bl b
 |d,.int i=>d= .int i
 |d,.str x=>d= .str x
 |d,.tuple ps=> ∃ds,d= .tup ds/\ToPs h ds ps
 |d,.list ps=> ∃a ds,d= .lst a/\h a=some ds/\ToPs h ds ps
 |_,.dict _=>False
def ToPs (h:HD):G0 D->G0 C7->Prop
 |ds,[]=>ds= []
 |ds,p::ps=> ∃d r,ds=d::r/\ToP h d p/\ToPs h r ps
end
section
variable {X:Cx}{pins:G0 (G4×Obj)}{σ:St}{H:Hp}{s:G3}{h:HD}
mutual
theorem jM (I:Inv X pins σ H s)(rh:RelH X.K h H): ∀ {p:C7} {d:D} {v:V} {u:G2},ToP h d p->RelD X.K H d v->RelV v u-> ∃as,Reads s.heap u p as
 | .none,d,v,u,t,r,ru=>by cases (show d= .non from t);cases (show v= .non from r);cases (show u= .none from ru);exact⟨[],.none⟩
 | .bool b,d,v,u,t,r,ru=>by cases (show d= .bl b from t);cases (show v= .bl b from r);cases (show u= .bool b from ru);exact⟨[],.bool b⟩
 | .int i,d,v,u,t,r,ru=>by cases (show d= .int i from t);cases (show v= .int i from r);obtain⟨k,rfl⟩:=(show ∃t,u=aU i t from ru);exact⟨[],.int i k⟩
 | .str x,d,v,u,t,r,ru=>by cases (show d= .str x from t);cases (show v= .str x from r);obtain⟨k,rfl⟩:=(show ∃t,u=X7 x t from ru);exact⟨[],.str x k⟩
 | .tuple ps,d,v,u,t,r,ru=>by
  obtain⟨ds,e,ts⟩:=(show ∃ds,d= .tup ds/\ToPs h ds ps from t);subst e;obtain⟨a,vs,e,hH,rs⟩:=(show ∃a vs,v= .ref a/\H a=some (.tup vs)/\RelDs X.K H ds vs from r);subst e;cases (show u= .ref a from ru);obtain⟨its,rv,ht,_⟩:=I.tuple (SqT.of hH);obtain⟨o,ho,hc,n,hd⟩:=ht;obtain⟨as,q⟩:=reads_Ds I rh ts rs rv;exact⟨as,.tuple ho hc hd q⟩
 | .list ps,d,v,u,t,r,ru=>by
  obtain⟨a,ds,e,ha,ts⟩:=(show ∃a ds,d= .lst a/\h a=some ds/\ToPs h ds ps from t);subst e;obtain⟨vs,hH,rs⟩:=rh a ds ha;have e:v= .ref a:=r.1;subst e;cases (show u= .ref a from ru);obtain⟨its,rv,pl,_⟩:=I.list (SqL.of hH);obtain⟨o,ho,hc,n,hd⟩:=pl.isList;obtain⟨as,q⟩:=reads_Ds I rh ts rs rv;exact⟨a::as,.list ho hc hd q⟩
 | .dict _,_,_,_,t,_,_=>(show False from t).elim
theorem reads_Ds (I:Inv X pins σ H s)(rh:RelH X.K h H): ∀ {ps:G0 C7} {ds:G0 D} {vs:G0 V} {us:G0 G2},ToPs h ds ps->RelDs X.K H ds vs->Vals vs us-> ∃as,ReadsAll s.heap us ps as
 | [],ds,vs,us,t,r,rv=>by
  cases (show ds= [] from t);cases (show vs= [] from r);cases rv;exact⟨[],.nil⟩
 |p::ps,ds,vs,us,t,r,rv=>by
  obtain⟨d,dr,e,t1,t2⟩:=(show ∃d r,ds=d::r/\ToP h d p/\ToPs h r ps from t);subst e;obtain⟨v,vr,e,r1,r2⟩:=(show ∃v r,vs=v::r/\RelD X.K H d v/\RelDs X.K H dr r from r);subst e;cases rv with
  |cons ru rt=>
   obtain⟨as,q1⟩:=jM I rh t1 r1 ru;obtain⟨bs,q2⟩:=reads_Ds I rh t2 r2 rt;exact⟨as++bs,.cons q1 q2⟩
end
end
def eqE:RD2:=λx y h Q=>match x,y with
 | .int i,.int j=>Q (.bl (decide (i=j))) h
 | .bl i,.bl j=>Q (.bl (decide (i=j))) h
 | .str i,.str j=>Q (.bl (decide (i=j))) h
 |x,y=> ∃p q,ToP h x p/\ToP h y q/\shaped p=true/\shaped q=true/\Q (.bl (T8 p q)) h
def neE:RD2:=λx y h Q=>match x,y with
 | .int i,.int j=>Q (.bl (!decide (i=j))) h
 | .bl i,.bl j=>Q (.bl (!decide (i=j))) h
 | .str i,.str j=>Q (.bl (!decide (i=j))) h
 |x,y=> ∃p q,ToP h x p/\ToP h y q/\shaped p=true/\shaped q=true/\Q (.bl (!T8 p q)) h
section
variable {X:Cx}
def eqG:RD2:=λx y h Q=> ∃p q,ToP h x p/\ToP h y q/\shaped p=true/\shaped q=true/\Q (.bl (T8 p q)) h
def neG:RD2:=λx y h Q=> ∃p q,ToP h x p/\ToP h y q/\shaped p=true/\shaped q=true/\Q (.bl (!T8 p q)) h
theorem Di (hu:X.A.units+64<cLine):OpQ X (S5 .Eq) eqG:=by
 intro pins s σ H x y v u Q I rx ry h;obtain⟨dx,dy,h,Qd,r1,r2,rh,⟨p,q,t1,t2,s1,s2,qq⟩,post⟩:=h;obtain⟨as,a1⟩:=jM I rh t1 r1 rx;obtain⟨bs,b1⟩:=jM I rh t2 r2 ry;exact compareEq_shaped a1 b1 s1 s2 hu ⟨.bl _,H,I,rfl,post (.bl _) _ _ _ (.refl H) rh rfl qq⟩
theorem Dj (hu:X.A.units+64<cLine):OpQ X (S5 .NotEq) neG:=by
 intro pins s σ H x y v u Q I rx ry h;obtain⟨dx,dy,h,Qd,r1,r2,rh,⟨p,q,t1,t2,s1,s2,qq⟩,post⟩:=h;obtain⟨as,a1⟩:=jM I rh t1 r1 rx;obtain⟨bs,b1⟩:=jM I rh t2 r2 ry;exact compareNe_shaped a1 b1 s1 s2 hu ⟨.bl _,H,I,rfl,post (.bl _) _ _ _ (.refl H) rh rfl qq⟩
theorem OpQ.or' {f:G2->G2->Sem G2}{r r' r2:RD2}(h:OpQ X f r)(h':OpQ X f r')(i: ∀x y hh Q,r2 x y hh Q->r x y hh Q\/r' x y hh Q):OpQ X f r2:=λpins s σ H x y v u Q I rx ry ⟨dx,dy,hd,Qd,r1,r2',rh,q,p⟩=>
 (i dx dy hd Qd q).elim (λz=>h pins s σ H x y v u Q I rx ry ⟨dx,dy,hd,Qd,r1,r2',rh,z,p⟩) λz=>h' pins s σ H x y v u Q I rx ry ⟨dx,dy,hd,Qd,r1,r2',rh,z,p⟩
theorem Xd (hu:X.A.units+64<cLine):OpQ X (S5 .Eq) eqE:=oq_eq.or' (Di hu) λx y h Q q=>by
 unfold eqE at q;split at q
 ·exact .inl q
 ·exact .inl q
 ·exact .inl q
 ·exact .inr q
theorem Dk (hu:X.A.units+64<cLine):OpQ X (S5 .NotEq) neE:=oq_ne.or' (Dj hu) λx y h Q q=>by
 unfold neE at q;split at q
 ·exact .inl q
 ·exact .inl q
 ·exact .inl q
 ·exact .inr q
end
end L2
namespace L2
open PySem PySem.Spec PyProof.Rows
theorem wS {K:G1}{H:Hp}: ∀ {ns:G0 P7} {vs:G0 V},RelDs K H (ns.map D.int) vs->vs=ns.map V.int
 | [],_,h=>h
 |n::ns,vs,h=>by
  obtain⟨v,r,e,h1,h2⟩:=(show ∃v r,vs=v::r/\RelD K H (.int n) v/\RelDs K H (ns.map D.int) r from h);rw [e,wS h2,(show v= .int n from h1)];rfl
structure JE (X:Cx)(e:D2)(t:TED):Prop where
 to:QE X e t
structure JT (X:Cx)(e:D2)(t:TTD):Prop where
 to:QT X e t
structure JW (X:Cx)(e:D2)(t:TTD):Prop where
 to:QW X e t
structure JA (X:Cx)(e:G0 D2)(t:TAD):Prop where
 to:QA X e t
structure JS (X:Cx)(e:N2)(t:TSD):Prop where
 to:QS X e t
structure JSs (X:Cx)(e:G0 N2)(t:TSD):Prop where
 to:QSs X e t
structure JG (X:Cx)(e:D2)(t:TGD):Prop where
 to:QG X e t
structure JI (X:Cx)(tg e:D2)(t:TID):Prop where
 to:QI X tg e t
structure JO (X:Cx)(e:G7 D2)(t:TOD):Prop where
 to:QO X e t
section
variable {X:Cx}{a b c e:D2}{es zu:G0 D2}{ta tb tc te:TED}{t u:TAD}{tt tu:TTD}{pos:Pos}{f r r':RD2}
theorem jv (i:P5){x:Str}(hN:X.N[i]? =some x:=by rfl)(hv:Vis X.env.scope x:=by first|exact W0 rfl|exact bO (W0 rfl)|exact bO (bO rfl))(hd:(x==("__debug__" :Str))=false:=by decide)(hcd:(x==("__classdict__" :Str))=false:=by decide):JE X (.Name x pos) (Je i):=⟨qv (i:=i) (hN:=hN) (hv:=hv) (hd:=hd) (hcd:=hcd)⟩
variable {j:P5}
theorem jj {i:P7}:JE X (.Constant (.int i) j pos) (dC (.int i)):=⟨RJ⟩
theorem jbl {i:C3}:JE X (.Constant (.bool i) j pos) (dC (.bl i)):=⟨qbl⟩
theorem Dl:JE X (.Constant .none j pos) (dC .non):=⟨NF⟩
theorem zW {x:Str}:JE X (.Constant (.str x) j pos) (dC (.str x)):=⟨NG⟩
theorem Uo {x:Str}{i:P7}{tk:Tok}(hg:Gl X x)(hm:X.mg x=some (.int i tk))(hd:(x==("__debug__" :Str))=false:=by decide):JE X (.Name x pos) (dC (.int i)):=⟨RK (hg:=hg) (hm:=hm) (hd:=hd)⟩
theorem jop {op:iU}(ho:OpQ X (N7 op) f)(ha:JE X a ta)(hb:JE X b tb):JE X (.BinOp a op b pos) (dOp f ta tb):=⟨qop (ho:=ho) (ha:=ha.to) (hb:=hb.to)⟩
theorem Nk {op:cC}(ho:OpQ X (S5 op) f)(ha:JE X a ta)(hb:JE X b tb)(hm:L0 op b=false):JE X (.Compare a [op] [b] pos) (dOp f ta tb):=⟨NH (ho:=ho) (ha:=ha.to) (hb:=hb.to) (hm:=hm)⟩
theorem Qy {op:cC}(ho:OpQ X (S5 op) f)(ha:JE X a ta)(hb:JE X b tb)(hm:L0 op b=false):JT X (.Compare a [op] [b] pos) (wE (dOp f ta tb)):=⟨RL (ho:=ho) (ha:=ha.to) (hb:=hb.to) (hm:=hm)⟩
theorem ZO {op op':cC}(ho:OpQ X (S5 op) r)(ho':OpQ X (S5 op') r')(ha:JE X a ta)(hb:JE X b tb)(hc:JE X c tc)(hm:g3 [op,op'] [b,c]=false:=by with_unfolding_all rfl):JT X (.Compare a [op,op'] [b,c] pos) (wE (vP r r' ta tb tc)):=⟨Qa (ho:=ho) (ho':=ho') (ha:=ha.to) (hb:=hb.to) (hc:=hc.to) (hm:=hm)⟩
theorem wT (ha:JE X a ta)(he: ∀whole,isTrue a X.env whole=(do let v <-whole;cQ a.pos;U3 [v] (k7 v)):=by intro _;rfl):JT X a (wE ta):=⟨RM (ha:=ha.to) (he:=he)⟩
theorem Xe (ha:JT X a tt):JW X (.BoolOp .Or [a] pos) tt:=⟨NI (ha:=ha.to)⟩
theorem Xf (ha:JT X a tt)(hb:JW X (.BoolOp .Or (b::zu) pos) tu):JW X (.BoolOp .Or (a::b::zu) pos) (XX tt tu):=⟨NJ (ha:=ha.to) (hb:=hb.to)⟩
theorem wy (ha:JT X a tt):JT X (.UnaryOp .Not a pos) (JP tt):=⟨RN (ha:=ha.to)⟩
theorem VH {op:BoolOp}(ha:JE X a ta):JE X (.BoolOp op [a] pos) ta:=⟨NK (ha:=ha.to)⟩
theorem Qz (ha:JE X a ta)(hb:JE X (.BoolOp .And (b::zu) pos) tb):JE X (.BoolOp .And (a::b::zu) pos) (YC ta tb):=⟨NL (ha:=ha.to) (hb:=hb.to)⟩
theorem jor (ha:JE X a ta)(hb:JE X (.BoolOp .Or (b::zu) pos) tb):JE X (.BoolOp .Or (a::b::zu) pos) (RF ta tb):=⟨qor (ha:=ha.to) (hb:=hb.to)⟩
theorem Nl (ha:JE X a ta):JE X (.UnaryOp .Not a pos) (YD ta):=⟨NM (ha:=ha.to)⟩
theorem jif {c:D2}(hc:JT X c tt)(ha:JE X a ta)(hb:JE X b tb):JE X (.IfExp c a b pos) (dIf tt ta tb):=⟨qif (hc:=hc.to) (ha:=ha.to) (hb:=hb.to)⟩
theorem zX:JA X [] yx:=⟨Ps⟩
theorem zL {k:P5}(h:JA X es t):JE X (.Tuple es k pos) (Gp t):=⟨NN (h:=h.to)⟩
theorem yc (h:JA X es t):JE X (.List es pos) (UX t):=⟨NO (h:=h.to)⟩
end
section
variable {X:Cx}{st:N2}{sts:G0 N2}{t u:TSD}{e:D2}{te:TED}{pos:Pos}
theorem Wn:JSs X [] vz:=⟨Pz⟩
theorem jq (h1:JS X st t)(h2:JSs X sts u):JSs X (st::sts) (zV t u):=⟨Qh (h1:=h1.to) (h2:=h2.to)⟩
theorem jL (h1:JS X st t):JSs X [st] t:=⟨PB (h1:=h1.to)⟩
theorem Up (he:JE X e te)(hs:A2 e none pos.line X.env=pure false:=by rfl):JS X (.Expr e pos) (Qc te):=⟨RR (he:=he.to) (hs:=hs)⟩
theorem zY (he:JE X e te):JS X (.Return (some e) pos) (ZA te):=⟨NP (he:=he.to)⟩
theorem Re {c:D2}{a b:G0 N2}{tc:TTD}(hc:JT X c tc)(ha:JSs X a t)(hb:JSs X b u):JS X (.If c a b pos) (VG tc t u):=⟨NQ (hc:=hc.to) (ha:=ha.to) (hb:=hb.to)⟩
variable {i:P5}{x:Str}
theorem Nm {pos':Pos}(hN:X.N.Nodup)(hi:X.N[i]? =some x)(hx:Loc X.env.scope x)(he:JE X e te)(hs:A2 e (some (.Name x pos')) pos.line X.env=pure false:=by rfl)(hf:X.fn x=true\/X.env.scope.names.lookup x=some .local:=by first|exact .inl rfl|exact .inr rfl|assumption):JS X (.Assign [.Name x pos'] e pos) (Yc i te):=⟨NR (hN:=hN) (hi:=hi) (hx:=hx) (he:=he.to) (hs:=hs) (hf:=hf)⟩
theorem QB (hN:X.N.Nodup)(hi:X.N[i]? =some x)(hx:Loc X.env.scope x)(hf:X.fn x=true\/X.env.scope.names.lookup x=some .local:=by first|exact .inl rfl|exact .inr rfl|assumption):JG X (.Name x pos) (gN i):=⟨Qi (hN:=hN) (hi:=hi) (hx:=hx) (hf:=hf)⟩
theorem Xg {j:P5}{y:Str}{p1 p2:Pos}{k:P5}(hc:X.calm=true)(hN:X.N.Nodup)(hi:X.N[i]? =some x)(hj:X.N[j]? =some y)(hx:Loc X.env.scope x)(hy:Loc X.env.scope y)(hf:X.fn x=true\/X.env.scope.names.lookup x=some .local:=by first|exact .inl rfl|exact .inr rfl|assumption)(hf2:X.fn y=true\/X.env.scope.names.lookup y=some .local:=by first|exact .inl rfl|exact .inr rfl|assumption):JG X (.Tuple [.Name x p1,.Name y p2] k pos) (gT2 i j):=⟨PC (hc:=hc) (hN:=hN) (hi:=hi) (hj:=hj) (hx:=hx) (hy:=hy) (hf:=hf) (hf2:=hf2)⟩
theorem Mk {tg:D2}{g:TGD}(he:JE X e te)(hg:JG X tg g)(hs:K2 [tg] e pos.line X.env=pure false:=by rfl)(hsw:K3 [tg] e X.env=pure none:=by rfl)(h1:(Q3 [tg] X.env).map (·.2)= [W2 tg X.env]:=by rfl):JS X (.Assign [tg] e pos) (RO te g):=⟨NS (he:=he.to) (hg:=hg.to) (hs:=hs) (hsw:=hsw) (h1:=h1)⟩
theorem Nn {j:P5}{y:Str}{a b:D2}{ta:TAD}{px py pt:Pos}{kt k2 pt2}(hc:X.calm=true)(hN:X.N.Nodup)(hi:X.N[i]? =some x)(hj:X.N[j]? =some y)(hij:i≠j)(hx:X.env.scope.names.lookup x=some .local)(hy:X.env.scope.names.lookup y=some .local)(ha:JA X [a,b] ta)(hw:K3 [.Tuple [.Name x px,.Name y py] kt pt] (.Tuple [a,b] k2 pt2) X.env=pure (some [x,y]))(hs:K2 [.Tuple [.Name x px,.Name y py] kt pt] (.Tuple [a,b] k2 pt2) pos.line X.env=pure false:=by rfl):JS X (.Assign [.Tuple [.Name x px,.Name y py] kt pt] (.Tuple [a,b] k2 pt2) pos) (Rc i j ta):=⟨NT (hc:=hc) (hN:=hN) (hi:=hi) (hj:=hj) (hij:=hij) (hx:=hx) (hy:=hy) (ha:=ha.to) (hw:=hw) (hs:=hs)⟩
end
section
variable {X:Cx}{tg e iter elt:D2}{te:TED}{ti:TID}{g:TGD}{tb:TSD}{tt:TTD}{pos:Pos}{ta:TAD}{scope:N4}{js:G0 P5}{ifs:G0 D2}
theorem YW (he:JE X e te):JI X tg e (iL te):=⟨Ql (he:=he.to)⟩
theorem Ml {p:Pos}{a:D2}(hg:Gl X "range")(hm:X.mg "range" =none)(ha:JA X [a] ta)(hs:G6 [a] X.env= [(false,N5 a X.env)]:=by rfl):JI X tg (.Call (.Name "range" p) [a] [] pos) (iR1 ta):=⟨RU (hg:=hg) (hm:=hm) (ha:=ha.to) (hs:=hs)⟩
theorem QC {body:G0 N2}(hp:cR (D8 X.prog X.w) X.A X.env X.xe)(hc:X.calm=true)(hi:JI X tg iter ti)(hg:JG X tg g)(hb:JSs X body tb)(hs: ∀x,M4 iter X.env x=pure x:=by intro _;rfl):JS X (.For tg iter body [] pos) (PD ti g tb):=⟨NU (hp:=hp) (hc:=hc) (hi:=hi.to) (hg:=hg.to) (hb:=hb.to) (hs:=hs)⟩
theorem YX:PTs X [] (LT X.K ZH):=Qm
theorem jlc {i:P5}{x:Str}{p:Pos}(hc:X.calm=true)(S:BlockOk X scope js)(hi:JI X (.Name x p) iter ti)(hj:i∈js)(hN:X.N.Nodup)(hx:X.N[i]? =some x)(hl:scope.names.lookup x=some .local\/scope.names.lookup x=some .cell)(ht: ∀X',jw X scope X'->PTs X' ifs (LT X'.K tt))(he: ∀X',jw X scope X'->JE X' elt te)(hs: ∀x,M4 iter X.env x=pure x:=by intro _;rfl):JE X (.ListComp elt [⟨.Name x p,iter,ifs,0⟩] scope pos) (Wh (bN i) js ti tt te):=⟨qlc (hc:=hc) (S:=S) (hi:=hi.to) (hj:=hj) (hN:=hN) (hx:=hx) (hl:=hl) (ht:=ht) (he:=λX' hX=>(he X' hX).to) (hs:=hs)⟩
end
section
variable {X:Cx}{k:P5}{f:G4}{fd:D4}{ps:G0 Str}{spd:RDn}{x:Str}{p pos:Pos}{e:D2}{es:G0 D2}{t:TAD}
theorem Mm (F:FnOk X.prog X.w X.K X.mg X.base CX0 k f fd ps (LSp X.K spd))(hr:Room k X.A)(hg:Gl X x)(hm:X.mg x=some (.ref f))(hk:N8 X.K (.ref f)=true)(hb:Binds X.K fd ps [])(ha:JA X (e::es) t)(hdb:(x==("__debug__" :Str))=false:=by decide)(he:G6 (e::es) X.env=(false,N5 e X.env)::G6 es X.env:=by rfl)(hpl:(N6 pos (G6 es X.env)).any (·.1)=false:=by rfl):JE X (.Call (.Name x p) (e::es) [] pos) (dCB spd t):=⟨RV (F:=F) (hr:=hr) (hg:=hg) (hm:=hm) (hk:=hk) (hb:=hb) (ha:=ha.to) (hdb:=hdb) (he:=he) (hpl:=hpl)⟩
theorem zZ {id:F7}{r:RDn}(hc:wx X (.builtin id) r)(hg:Gl X x)(hm:X.mg x=none)(hv:B5 x=some (.builtin id))(ha:JA X (e::es) t)(hn:x≠ "__name__" :=by decide)(hdb:(x==("__debug__" :Str))=false:=by decide)(he:G6 (e::es) X.env=(false,N5 e X.env)::G6 es X.env:=by rfl)(hpl:(N6 pos (G6 es X.env)).any (·.1)=false:=by rfl):JE X (.Call (.Name x p) (e::es) [] pos) (dCB r t):=⟨PL (hc:=hc) (hg:=hg) (hm:=hm) (hv:=hv) (ha:=ha.to) (hn:=hn) (hdb:=hdb) (he:=he) (hpl:=hpl)⟩
theorem zc {T:F7}{r:RDn}(hc:wx X (.type T) r)(hg:Gl X x)(hm:X.mg x=none)(hv:B5 x=some (.type T))(ha:JA X (e::es) t)(hn:x≠ "__name__" :=by decide)(hdb:(x==("__debug__" :Str))=false:=by decide)(he:G6 (e::es) X.env=(false,N5 e X.env)::G6 es X.env:=by rfl)(hpl:(N6 pos (G6 es X.env)).any (·.1)=false:=by rfl):JE X (.Call (.Name x p) (e::es) [] pos) (dCB r t):=⟨Qn (hc:=hc) (hg:=hg) (hm:=hm) (hv:=hv) (ha:=ha.to) (hn:=hn) (hdb:=hdb) (he:=he) (hpl:=hpl)⟩
end
section
variable {X:Cx}{iter elt:D2}{te:TED}{ti:TID}{tt:TTD}{pos spos:Pos}{scope:N4}{js:G0 P5}{ifs:G0 D2}
theorem Dm {i k:P5}{x y:Str}{p py:Pos}(hc:X.calm=true)(hN:X.N.Nodup)(hk:X.N[k]? =some y)(hy:Loc X.env.scope y)(S:BlockOk X scope js)(hi:JI X (.Name x p) iter ti)(hj:i∈js)(hx:X.N[i]? =some x)(hl:scope.names.lookup x=some .local\/scope.names.lookup x=some .cell)(ht: ∀X',jw X scope X'->PTs X' ifs (LT X'.K tt))(he: ∀X',jw X scope X'->JE X' elt te)(hsw:A2 (.ListComp elt [⟨.Name x p,iter,ifs,0⟩] scope pos) (some (.Name y py)) spos.line X.env=pure true:=by rfl)(hf:X.fn y=true\/X.env.scope.names.lookup y=some .local:=by first|exact .inl rfl|exact .inr rfl|assumption)(hs: ∀x,M4 iter X.env x=pure x:=by intro _;rfl):JS X (.Assign [.Name y py] (.ListComp elt [⟨.Name x p,iter,ifs,0⟩] scope pos) spos) (Yc k (Wh (bN i) js ti tt te)):=⟨PM (hc:=hc) (hN:=hN) (hk:=hk) (hy:=hy) (S:=S) (hi:=hi.to) (hj:=hj) (hx:=hx) (hl:=hl) (ht:=ht) (he:=λX' hX=>(he X' hX).to) (hsw:=hsw) (hf:=hf) (hs:=hs)⟩
end
section
variable {X:Cx}{a b e:D2}{ta tb te:TED}{pos p2:Pos}
theorem jix (ha:JE X a ta)(hb:JE X b tb)(hs:yK b):JE X (.Subscript a b pos) (dOp ixD ta tb):=⟨qix (ha:=ha.to) (hb:=hb.to) (hs:=hs)⟩
end
variable {X:Cx}{pos:Pos}
theorem Jj {a:D2}{ta:TED}{T:F7}{t:Str}{p p2:Pos}(hT:T∈ ["tuple","int","bool","list","str"])(hg:Gl X "isinstance")(hm:X.mg "isinstance" =none)(hg2:Gl X t)(hm2:X.mg t=none)(hv:B5 t=some (.type T))(ha:JE X a ta)(hn:t≠ "__name__" :=by decide)(hd:(t==("__debug__" :Str))=false:=by decide)(h1:G6 [a,.Name t p2] X.env=(false,N5 a X.env)::G6 [.Name t p2] X.env:=by rfl)(h2:(N6 pos (G6 [.Name t p2] X.env)).any (·.1)=false:=by rfl):JE X (.Call (.Name "isinstance" p) [a,.Name t p2] [] pos) (dIs T ta):=⟨Me (hT:=hT) (hg:=hg) (hm:=hm) (hg2:=hg2) (hm2:=hm2) (hv:=hv) (ha:=ha.to) (hn:=hn) (hd:=hd) (h1:=h1) (h2:=h2)⟩
section
variable {X:Cx}{o e i:D2}{to te ti:TED}{apos cpos pos:Pos}
theorem Mn (ho:JE X o to)(he:JE X e te)(hbase:O7 o "append" X.env (N5 o X.env)=N5 o X.env:=by rfl)(hfew:((N6 cpos (G6 [e] X.env)).all (λx=> !x.1)&&(Z1 cpos (J4 [] X.env)).all (λx=>x.1.isSome)&&decide ([e].length+([]:G0 A8).length+(if ([]:G0 A8).isEmpty then 0 else 1)<30))=true:=by rfl)(hline:(apos.endLine==cpos.line)=true:=by rfl)(hs:G6 [e] X.env=(false,N5 e X.env)::G6 [] X.env:=by rfl)(hplain:(N6 cpos (G6 [] X.env)).any (·.1)=false:=by rfl):JE X (.Call (.Attribute o "append" apos) [e] [] cpos) (Ni to te):=⟨NW (ho:=ho.to) (he:=he.to) (hbase:=hbase) (hfew:=hfew) (hline:=hline) (hs:=hs) (hplain:=hplain)⟩
theorem Xh (ho:JE X o to)(hi:JE X i ti)(ha: ∀v,W2 (.Subscript o i pos) X.env v=(do
 let ov <-U3 [v] (N5 o X.env)
 let iv <-U3 [v,ov] (N5 i X.env)
 cQ pos
 U3 [v,ov,iv] (h7 ov iv v)
 kG [v,ov,iv] []):=by intro _;rfl):JG X (.Subscript o i pos) (PV to ti):=⟨PX (ho:=ho.to) (hi:=hi.to) (ha:=ha)⟩
end
variable {e:D2}
theorem jpt {t:TTD}(h:JW X e t):JT X e t:=⟨qpt (h:=h.to)⟩
theorem zF:JO X none YQ:=⟨Qt⟩
variable {te:TED}
theorem zd (he:JE X e te):JO X (some e) (PY te):=⟨Qu (he:=he.to)⟩
theorem wA {lo hi:G7 D2}{tl th:TOD}{p2:Pos}(he:JE X e te)(hl:JO X lo tl)(hu:JO X hi th):JE X (.Subscript e (.Slice lo hi none p2) pos) (dSl te tl th):=⟨PZ (he:=he.to) (hl:=hl.to) (hu:=hu.to)⟩
theorem No {a:D2}{ta:TED}(ha:JE X a ta):JE X (.UnaryOp .USub a pos) (dUn Gr ta):=⟨Mi (ha:=ha.to)⟩
theorem Np {p2 p3 p4:Pos}{j:P5}(he:JE X e te):JE X (.Subscript e (.Slice none none (some (.UnaryOp .USub (.Constant (.int 1) j p4) p3)) p2) pos) (Nj te):=⟨NY (he:=he.to)⟩
theorem Do {ks:G0 (G7 D2)}{vs:G0 D2}{x:Str}{i:P7}(h:ZL ks vs=some (x,i):=by rfl):JE X (.Dict ks vs pos) (Wl x i):=⟨Db (h:=h)⟩
theorem zM {tg:D2}(he:JE X e te):JI X tg e (iS te):=⟨Dg (he:=he.to)⟩
theorem vR {st:N2}:JS X st YR:=⟨Dh⟩
theorem jac {es:G0 D2}{t:TAD}(ha:JE X e te)(hr:JA X es t)(h:jJ e=true:=by rfl):JA X (e::es) (jG te t):=⟨qac (ha:=ha.to) (hr:=hr.to) (h:=h)⟩
section
variable {P:D6}{w:S7}{K:G1}{mg:Str->G7 G2}{base:S6}
theorem Fun.okJ {x qual:Str}{st:N2}{f:G4}{fd:D4}{N ps:G0 Str}{k:P5}{spd:RDn}(F:Fun K x qual st f fd)(S:FnScope N ps (ja st))(len: ∀ds h Q,spd ds h Q->ds.length=ps.length)
 (tb:TSD)(hbody: ∀ (cdv:G2) (A:R8) (outer:G0 Env) (s:G3) (H:Hp) (E:XK),Room k (A.deeper (B1 qual (ja st) s.heap.objs.size f cdv))->JSs (vx CX0 P w K mg base N qual (ja st) f cdv A outer s H E).nox (jB st) tb)
 (read: ∀ds h Q,spd ds h Q->tb (vA Q) (jC N ds) h):FnOk P w K mg base CX0 (k+1) f fd ps (LSp K spd):=F.okD S len tb (λcdv A outer s H E hr=>(hbody cdv A outer s H E hr).to) read
end
def wu (r:G0 P7):D:= .tup (r.map D.int)
def wO (T:G0 (G0 P7)):D:= .tup (T.map wu)
def yW (n:P5)(r:G0 P7):Prop:=r.length=n/\ ∀x∈r,0<=x/\x<=1000000
def GoodTab (n:P5)(T:G0 (G0 P7)):Prop:=T.length=n/\ ∀r∈T,yW n r
structure Sq (n e:P5)(T:G0 (G0 P7)):Prop where
 len:T.length=n
 row: ∀r∈T,r.length=n
 nn: ∀r∈T,∀x∈r,0<=x
 bit: ∀r∈T,∀x∈r,x<2^e
theorem GoodTab.sq {n:P5}{T:G0 (G0 P7)}(g:GoodTab n T):Sq n 20 T:=⟨g.1,λr hr=>(g.2 r hr).1,λr hr x hx=>((g.2 r hr).2 x hx).1,λr hr x hx=>Int.lt_of_le_of_lt ((g.2 r hr).2 x hx).2 (by decide)⟩
def ent (T:G0 (G0 P7))(i j:P5):P7:=(T.getD i []).getD j 0
def mkT (n:P5)(f:P5->P5->P7):G0 (G0 P7):=(C8 n).map λi=>(C8 n).map λj=>f i j
def Mo (n:P5)(f:P5->P7):P7:=((C8 n).map f).sum
def NZ (n:P5)(T U:G0 (G0 P7)):G0 (G0 P7):=mkT n λi j=>Mo n λk=>ent T i k*ent U k j
def Ba (n:P5):G0 (G0 P7):=mkT n λi j=>if i=j then 1 else 0
def Mp (n:P5)(T:G0 (G0 P7)):P5->G0 (G0 P7)
 |0=>Ba n
 |k+1=>NZ n (Mp n T k) T
theorem wa {x:P7}{e:P5}(h0:0<=x)(h1:x<2^e):x.natAbs<2^e:=by
 have:((2^e:P5):P7)=2^e:=by simp
 omega
section
variable {α β:Type}{i i':P5}{js:G0 P5}{ti ti':TID}{te:TED}{σ:SD}{h:HD}{Q:KD}{j:ItD}
theorem lcA (xs:G0 α)(c g:α->D)(hz:xs.length<=1000)(hj:j h=some (xs.map c))(ht: ∀R:ItD->HD->Prop,R j h->ti σ h R)
 (he: ∀x∈xs,∀Q':KD,Q' (g x) h->te ((zU js σ).set i (some (c x))) h Q')(hq: ∀p,h p=none->Q (.lst p) (zt h p (xs.map g))):Wh (bN i) js ti ZH te σ h Q:=by
 refine ht _ ⟨xs.length,λk ys h'=>h'=h/\ys=(xs.take k).map g,⟨rfl,by simp⟩,?_⟩;rintro k ys h' ⟨rfl,rfl⟩;refine⟨by simp only [G9,C6];exact N3 (jQ (by omega)),xs.map c,hj,by simp,λhl p hp=> ?_,λd hd=>⟨_,rfl,?_⟩⟩
 ·rw [bP (by simpa using hl)];exact hq p hp
 ·unfold ZH;dsimp only;rw [S1 rfl];rw [R6] at hd;cases hx:xs[k]? with
  |none=>rw [hx] at hd;cases hd
  |some x=>
   rw [hx] at hd;cases hd;refine he x (M5 hx) _ ⟨h',Sub.refl _,rfl,?_⟩;rw [V0,hx];simp
theorem Nq (xs:G0 α)(c g:α->D)(hz:xs.length<=1000)(hj:j h=some (xs.map c))(ht: ∀R:ItD->HD->Prop,R j h->ti σ h R)
 (he: ∀x∈xs,∀Q':KD,Q' (g x) h->te ((zU js σ).set i (some (c x))) h Q')(hq:Q (.tup (xs.map g)) h):dCB Wk (jG (Wh (bN i) js ti ZH te) yx) σ h Q:=by
 show Wh (bN i) js ti ZH te σ h (λx h1=>Wk [x] h1 Q);exact lcA xs c g hz hj ht he λp hp=>(show ∃ys,zt h p (xs.map g) p=some ys/\Q (.tup ys) (Jd (zt h p (xs.map g)) p) from ⟨_,jb,by rw [zx hp];exact hq⟩)
theorem Nr (xs:G0 α)(c:α->D)(g:α->C3)(hz:xs.length<=1000)(hj:j h=some (xs.map c))(ht: ∀R:ItD->HD->Prop,R j h->ti σ h R)
 (he: ∀x∈xs,∀Q':KD,Q' (.bl (g x)) h->te ((zU js σ).set i (some (c x))) h Q')(hq:Q (.bl (xs.all g)) h):dCB Mf (jG (Wh (bN i) js ti ZH te) yx) σ h Q:=by
 show Wh (bN i) js ti ZH te σ h (λx h1=>Mf [x] h1 Q);exact lcA xs c (λx=> .bl (g x)) hz hj ht he λp hp=>⟨p,xs.map g,rfl,by rw [jb,L5];rfl,by rw [zx hp,J9];exact hq⟩
end
end L2
namespace L2
open PySem PySem.Spec PyProof.Rows PySem.SeqAt
theorem Zb (h:HD): ∀ns:G0 P7,ToPs h (ns.map D.int) (ns.map j6)
 | []=>rfl
 |n::ns=>⟨_,_,rfl,rfl,Zb h ns⟩
def Nt (r:G0 P7):C7:= .tuple (r.map .int)
def Dp (T:G0 (G0 P7)):C7:= .tuple (T.map Nt)
theorem Zc (h:HD): ∀T:G0 (G0 P7),ToPs h (T.map wu) (T.map Nt)
 | []=>rfl
 |r::T=>⟨_,_,rfl,⟨_,rfl,Zb h r⟩,Zc h T⟩
theorem YY (h:HD)(T:G0 (G0 P7)):ToP h (wO T) (Dp T):=⟨_,rfl,Zc h T⟩
section
variable {X:Cx}{pins:G0 (G4×Obj)}{σ:G0 (G7 V)}{H:Hp}{s:G3}{h':S6}
theorem Inv.turnL {t':P5}{ch:G0 G4}(I:Inv X pins σ H s)(k: ∀b o,b ∉ ch->s.heap.get? b=some o->h'.get? b=some o)(hc: ∀b∈ch,Yj X pins H b):Inv X pins σ H {s with heap:=h',toks:=t'}:=by
 refine I.step (g':=s.gens) (d':=s.drawn) (ch:=ch) (λb hb=>let ⟨_,f1,_,f3,f4,f5⟩:=hc b hb;⟨f3,f1,f4,f5⟩) (λb o _ _ nb e _=>k b o nb e) (λb o _ _ nb e _=>⟨o.slots,k b o nb e⟩) (λ_ _ _ _ n=>n)
  (λb o nb e=>⟨o,k b o nb e⟩) (λ_ _ e=>e) (λ_ _ _ e=>e) (λb ps e=>⟨#[],by rw [e];simp⟩) (λm hm=> ?_) (λb u e=> ?_) I.bare
 ·obtain⟨o,es,ep,ho,r⟩:=hm;exact⟨o,es,ep,k _ o (λz=>(hc _ z).2.1 rfl) ho,r⟩
 ·refine(I.hok b u e).stay (λc v hb q=>k c v (λz=> ?_) q) (λ_ q=>q) λ_ _ q=>q
  have f:=(hc c z).1;rcases hb with w|w
  ·rw [w,e] at f;cases f
  ·rw [w] at f;cases f
theorem Inv.turnLaid {t':P5}{ch:G0 G4}{a:G4}{o:HO}(I:Inv X pins σ H s)(k: ∀b u,b ∉ ch->s.heap.get? b=some u->h'.get? b=some u)(hc: ∀b∈ch,Yj X pins H b)(hp:s.heap.objs.size<=a)
 (new:ObjOk X.prog X.w (upd H a o) h' a o):Inv X pins σ (upd H a o) {s with heap:=h',toks:=t'}:=by
 have hn:=I.hok.fresh hp;refine I.step (g':=s.gens) (d':=s.drawn) (ch:=ch) (λb hb=>let ⟨_,f1,_,f3,f4,f5⟩:=hc b hb;⟨f3,f1,f4,f5⟩) (λb u _ _ nb e _=>k b u nb e) (λb u _ _ nb e _=>⟨u.slots,k b u nb e⟩)
  (λb u _ e n=>by rw [jd (R3 (P2 (P6 e) hp))];exact n) (λb u nb e=>⟨u,k b u nb e⟩) (λb xs q=>by rw [jd (je q hn)];exact q) (λb u xs q=>by rw [jd (je q hn)];exact q)
  (λb ps q=>⟨#[],by rw [jd (je q hn),q];simp⟩) (λm hm=> ?_) (λb u e=> ?_) I.bare
 ·obtain⟨u,es,ep,ho,r⟩:=hm;exact⟨u,es,ep,k _ u (λz=>(hc _ z).2.1 rfl) ho,r⟩
 ·by_cases hb:b=a
  ·subst hb;rw [jf] at e;cases e;exact new
  ·rw [jd hb] at e;refine(I.hok b u e).stay (λc v hb q=>k c v (λz=> ?_) q) (λc q=>by rw [jd (je q hn)];exact q) λc xs q=>by rw [jd (je q hn)];exact q
   have f:=(hc c z).1;rcases hb with w|w
   ·rw [w,e] at f;cases f
   ·rw [w] at f;cases f
end
def YZ (ds:G0 D):G0 D:=ds.zipIdx.map λp=> .tup [.int (p.2:P7),p.1]
theorem Wo {ds:G0 D}{i:P5}{d:D}(h:(YZ ds)[i]? =some d): ∃x,ds[i]? =some x/\d= .tup [.int (i:P7),x]:=by
 unfold YZ at h;rw [R6,List.getElem?_zipIdx] at h;cases q:ds[i]? with
 |none=>rw [q] at h;cases h
 |some x=>
  rw [q] at h;refine⟨x,rfl,?_⟩;have h':some (D.tup [.int ((0+i:P5):P7),x])=some d:=h;rw [Nat.zero_add] at h';exact(M1 h').symm
theorem ZP (ds:G0 D):(YZ ds).length=ds.length:=by simp [YZ]
def Va (c:TTD)(tb:TSD):TSD:=λD σ h=> ∃W:P5->SD->HD->Prop,(∃m,W m σ h)/\ ∀m lH h',W m lH h'->c lH h' λb h1=>
 if b=true then tb {D with nx:=λlK h2=> ∃m' h3,m'<m/\Sub h3 h2/\W m' lK h3,ct:=λlK h2=> ∃m' h3,m'<m/\Sub h3 h2/\W m' lK h3,bk:=D.nx} lH h1 else D.nx lH h1
theorem Uq {K:G1}{c:TTD}{tb:TSD}: ∀D σ H,LS K (Va c tb) D σ H->UQ (LT K c) (LS K tb) D σ H:=λD σ H ⟨lI,h,Dd,rs,rh,⟨W,⟨m0,w0⟩,turn⟩,nx,rt,bk,ct⟩=>by
 refine⟨λm lH H'=>Kept H H'/\ ∃lL h',RelS K H' lL lH/\RelH K h' H'/\W m lL h',⟨m0,.refl _,lI,h,rs,rh,w0⟩,?_⟩;rintro m lH H' ⟨kp,lL,h',rs',rh',w⟩;refine LT.bind rs' rh' (turn m lL h' w) λb h1 H1 k1 rs1 rh1 q1=> ?_
 cases b with
 |false=>
  rw [S9 P4] at q1 ⊢;exact nx _ _ _ _ (kp.trans k1) rs1 rh1 q1
 |true=>
  rw [S1 rfl] at q1 ⊢;have kk:Kept H H1:=kp.trans k1;refine⟨λlK H2=>Kept H H2/\ ∃m',m'<m/\ ∃lO h2,RelS K H2 lO lK/\RelH K h2 H2/\W m' lO h2,λlK H2 ⟨k2,m',hm,a,b,c,d,e⟩=>⟨m',hm,k2,a,b,c,d,e⟩,?_⟩;exact⟨lL,h1,_,rs1,rh1,q1,λa b c d k4 rs4 rh4 ⟨m',h4,hm,sb,w4⟩=>⟨kk.trans k4,m',hm,a,h4,rs4,rh4.sub sb,w4⟩,jn rt kk,λa b c d k4 rs4 rh4 q4=>nx a b c d (kk.trans k4) rs4 rh4 q4,λa b c d k4 rs4 rh4 ⟨m',h4,hm,sb,w4⟩=>⟨kk.trans k4,m',hm,a,h4,rs4,rh4.sub sb,w4⟩⟩
section
variable {X:Cx}{pos:Pos}
theorem Dq {c:D2}{body:G0 N2}{tc:TTD}{tb:TSD}(hp:cR (D8 X.prog X.w) X.A X.env X.xe)(hc:JT X c tc)(hb:JSs X body tb):JS X (.While c body [] pos) (Va tc tb):=⟨(VN hp hc.to hb.to).imp Uq⟩
end
theorem Ur {c:TTD}{tb:TSD}{E:EndsD}{σ:SD}{h:HD}(W:P5->SD->HD->Prop)(m:P5)(w0:W m σ h)
 (turn: ∀m lH h',W m lH h'->c lH h' λb h1=>if b=true then tb {E with nx:=λlK h2=> ∃m' h3,m'<m/\Sub h3 h2/\W m' lK h3,ct:=λlK h2=> ∃m' h3,m'<m/\Sub h3 h2/\W m' lK h3,bk:=E.nx} lH h1 else E.nx lH h1):Va c tb E σ h:=⟨W,⟨m,w0⟩,turn⟩
def inE (neg:C3):RD2:=λx y h Q=> ∃ (p:C7) (ps:G0 C7),ToP h x p/\(ToP h y (.list ps)\/ToP h y (.tuple ps))/\p.canLay0=true/\E8 ps=true/\p.depth<=60/\Q (.bl (neg !=ps.any λz=>T8 z p)) h
section
variable {X:Cx}
theorem Mq (hu:X.A.units+64<cLine):OpQ X (S5 .In) (inE false):=by
 intro pins s σ H x y v u Q I rx ry h;obtain⟨dx,dy,h,Qd,r1,r2,rh,⟨p,ps,t1,t2,c1,c2,c3,qq⟩,post⟩:=h;obtain⟨as,a1⟩:=jM I rh t1 r1 rx;have hu':X.A.units+1+min (C0 ps) p.depth<cLine:=by have:=V7 (C0 ps) p.depth;omega
 have q':Qd (.bl (ps.any λz=>T8 z p)) h:=by simpa using qq
 rcases t2 with t2|t2
 ·obtain⟨bs,b1⟩:=jM I rh t2 r2 ry;exact in_list_reads b1 a1 c2 c1 hu' ⟨.bl _,H,I,rfl,post (.bl _) _ _ _ (.refl H) rh rfl q'⟩
 ·obtain⟨bs,b1⟩:=jM I rh t2 r2 ry;exact in_tuple_reads b1 a1 c2 c1 hu' ⟨.bl _,H,I,rfl,post (.bl _) _ _ _ (.refl H) rh rfl q'⟩
end
end L2
namespace L2
open PySem PySem.Spec PyProof.Rows
structure ShowOk (p:C7):Prop where
 sh:p.showable=true
 dp:p.depth<=60
 ln:p.shown.length<=sizeLine
mutual
theorem vS {h:HD}: ∀ {p:C7} {d:D},ToP h d p->p.hasDict=false
 | .none,_,_=>rfl
 | .bool _,_,_=>rfl
 | .int _,_,_=>rfl
 | .str _,_,_=>rfl
 | .tuple ps,d,t=>by
  obtain⟨ds,_,ts⟩:=(show ∃ds,d= .tup ds/\ToPs h ds ps from t);simpa only [gA] using noDict_ToPs ts
 | .list ps,d,t=>by
  obtain⟨a,ds,_,_,ts⟩:=(show ∃a ds,d= .lst a/\h a=some ds/\ToPs h ds ps from t);simpa only [gA] using noDict_ToPs ts
 | .dict _,_,t=>(show False from t).elim
theorem noDict_ToPs {h:HD}: ∀ {ps:G0 C7} {ds:G0 D},ToPs h ds ps->eJ ps=false
 | [],_,_=>rfl
 |p::ps,ds,t=>by
  obtain⟨d,r,_,t1,t2⟩:=(show ∃d r,ds=d::r/\ToP h d p/\ToPs h r ps from t);simp only [eJ,vS t1,noDict_ToPs t2,Bool.or_self]
end
def Mr:RDn:=λds h Q=> ∃d p,ds= [d]/\ToP h d p/\ShowOk p/\Q (.str p.shown) h
variable {k:P5}
theorem Wp {X:Cx}(hr:Room k X.A):wx X (.builtin "repr") Mr:=by
 intro pins s σ H xs us Q I r h;obtain⟨ds,h,Qd,rs,rh,⟨d,p,e,t,so,q⟩,post⟩:=h;subst e;obtain⟨v,e,r1⟩:=jr rs;subst e;obtain⟨u,rfl,ru⟩:=wP r;have fin: ∀t',EP X pins σ Q (.str p.shown t') {s with toks:=s.toks+1}:=λt'=>⟨.str p.shown,H,I.tok _,⟨_,rfl⟩,post (.str _) _ _ _ (.refl H) rh rfl q⟩
 have fin0: ∀t',EP X pins σ Q (.str p.shown t') s:=λt'=>⟨.str p.shown,H,I,⟨_,rfl⟩,post (.str _) _ _ _ (.refl H) rh rfl q⟩
 have big: ∀a,u= .ref a->D5 (D8 X.prog X.w) X.A (call (.builtin "repr") [.ref a]) (EP X pins σ Q) X.xe s:=λa e=>by
  obtain⟨as,rd⟩:=jM I rh t r1 ru;subst e;exact repr_of_reads' rd so.sh (PyData.noDict_hsm (vS t)) hr.gd (by have:=hr.units;have:=so.dp;omega) (λ_ _ e=>e)
   (λh' u' tk hk=>⟨.str p.shown,H,I.kept hk,⟨_,rfl⟩,post (.str _) _ _ _ (.refl H) rh rfl q⟩) so.ln
 cases p with
 |none=>
  cases (show d= .non from t);cases (show v= .non from r1);cases (show u= .none from ru);exact PySem.P.repr_of_none (fin _)
 |bool b=>
  cases (show d= .bl b from t);cases (show v= .bl b from r1);cases (show u= .bool b from ru);exact PySem.P.repr_of_bool (fin _)
 |int i=>
  cases (show d= .int i from t);cases (show v= .int i from r1);obtain⟨k,rfl⟩:=(show ∃t,u=aU i t from ru);exact PySem.P.repr_of_int (by simpa [bX] using so.sh) (fin _)
 |str x=>
  cases (show d= .str x from t);cases (show v= .str x from r1);obtain⟨k,rfl⟩:=(show ∃t,u=X7 x t from ru);exact PySem.P.repr_of_str (fin _) so.ln
 |tuple ps=>
  obtain⟨ds,e,ts⟩:=(show ∃ds,d= .tup ds/\ToPs h ds ps from t);subst e;obtain⟨a,vs,e,hH,rs⟩:=(show ∃a vs,v= .ref a/\H a=some (.tup vs)/\RelDs X.K H ds vs from r1);subst e;cases (show u= .ref a from ru);exact big a rfl
 |list ps=>
  obtain⟨a,ds,e,ha,ts⟩:=(show ∃a ds,d= .lst a/\h a=some ds/\ToPs h ds ps from t);subst e;have e:v= .ref a:=r1.1;subst e;cases (show u= .ref a from ru);exact big a rfl
 |dict _=>exact(show False from t).elim
variable {e:P5}
theorem Vb {x:P7}(h0:0<=x)(h1:x<2^e)(he:e<=1919):x.natAbs.log2<1920:=by
 have h2:x.natAbs<2^e:=wa h0 h1
 by_cases z:x.natAbs=0
 ·rw [z];decide
 ·have h3:=aN z |>.mpr (P2 h2 (B3 (by decide) (show e<=1920 by omega)));exact h3
theorem wB: ∀ {ps:G0 C7},(∀p∈ps,p.showable=true)->dH ps=true
 | [],_=>rfl
 |p::ps,h=>by
  simp only [dH,h p P8,wB λx hx=>h x (P9 _ hx),Bool.and_self]
theorem wb: ∀ps:G0 C7,bY ps=ps.map bQ
 | []=>rfl
 |p::ps=>by simp only [bY,T4,wb ps]
theorem yX: ∀ {ps:G0 C7},(∀p∈ps,p.depth<=k)->C0 ps<=k
 | [],_=>by simp [C0]
 |p::ps,h=>by
  simp only [C0];have:=h p P8;have:=yX λx hx=>h x (P9 _ hx)
  omega
theorem Xi {b:P5}: ∀ {l:G0 P5},(∀x∈l,x<=b)->l.sum<=b*l.length
 | [],_=>by simp
 |x::l,h=>by
  have h1:=h x P8;have h2:=Xi λy hy=>h y (P9 _ hy)
  simp only [c9,R1,Nat.mul_succ];omega
structure ShowB (p:C7)(k b:P5):Prop where
 sh:p.showable=true
 dp:p.depth<=k
 ln:p.shown.length<=b
theorem ShowB.ok {p:C7}{b:P5}(h:ShowB p k b)(hk:k<=60)(hb:b<=16777216):ShowOk p:=⟨h.sh,R4 h.dp hk,R4 h.ln hb⟩
theorem ShowB.mono {p:C7}{b k' b':P5}(h:ShowB p k b)(hk:k<=k')(hb:b<=b'):ShowB p k' b':=⟨h.sh,R4 h.dp hk,R4 h.ln hb⟩
theorem Vc {x:P7}(h0:0<=x)(h1:x<2^e)(he:e<=1919):ShowB (.int x) 0 (e+2):=by
 refine⟨by simpa [bX] using Vb h0 h1 he,by simp [K0],?_⟩;show (D7 (toString x)).length<=e+2;rw [b8];have h2:x.natAbs<2^e:=wa h0 h1;refine dI (by omega) ?_
 by_cases z:x.natAbs=0
 ·rw [z];exact Nat.succ_pos _
 ·exact(aN z).mpr (P2 h2 (B3 (by decide) (by omega)))
theorem ShowB.tup {ps:G0 C7}{k b:P5}(h: ∀p∈ps,ShowB p k b):ShowB (.tuple ps) (k+1) ((b+2)*ps.length+3):=by
 refine⟨?_,?_,?_⟩
 ·simpa only [bX] using wB λp hp=>(h p hp).sh
 ·simp only [K0];have:=yX λp hp=>(h p hp).dp;omega
 ·simp only [bQ];have h1:=tupleText_len_le (bY ps);rw [wb,G9,L5] at h1;have h2:((ps.map ((λx=>x.length)∘bQ))).sum<=b*ps.length:=by
   have:=Xi (b:=b) (l:=ps.map ((λx:Str=>x.length)∘bQ)) (λx hx=>by obtain⟨p,hp,e⟩:=S0.mp hx;rw [<-e];exact(h p hp).ln);rw [G9] at this;exact this
  rw [wb,Nat.add_mul];omega
theorem Vd {r:G0 P7}(h0: ∀x∈r,0<=x)(h1: ∀x∈r,x<2^e)(he:e<=1919):ShowB (.tuple (r.map .int)) 1 ((e+4)*r.length+3):=by
 have:=ShowB.tup (ps:=r.map j6) (k:=0) (b:=e+2) λp hp=>by obtain⟨x,hx,e⟩:=S0.mp hp;rw [<-e];exact Vc (h0 x hx) (h1 x hx) he
 rw [G9] at this;exact this
theorem Ve {n:P5}{T:G0 (G0 P7)}(h:Sq n e T)(h6:n<=6)(he:e<=1919):ShowB (Dp T) 2 (60*e+300):=by
 have:=ShowB.tup (ps:=T.map λr=>PyData.tuple (r.map .int)) (k:=1) (b:=(e+4)*6+3) λp hp=>by
  obtain⟨r,hr,ep⟩:=S0.mp hp;rw [<-ep];refine(Vd (h.nn r hr) (h.bit r hr) he).mono (G8 _) ?_;have:=cW (e+4) (show r.length<=6 by rw [h.row r hr];exact h6);omega
 rw [G9,h.len] at this;refine this.mono (G8 _) ?_;have:=cW ((e+4)*6+3+2) h6;omega
def Xj:RDn:=λds h Q=> ∃x y p,ds= [x,y]/\ToP h x p/\ToP h y p/\ShowOk p/\Q (.bl true) h
end L2
namespace L2
open PySem PySem.Spec PyProof.Rows PySem.SeqAt
theorem Us {X:Cx}(hu:X.A.units+64<cLine):MtM X "list.index" (λx vs H Q=> ∃ (a:G4) (y:V) (dy:D) (h:HD) (p:C7) (ps:G0 C7) (j:P5) (z:C7),x= .ref a/\vs= [y]/\RelD X.K H dy y/\RelH X.K h H/\ToP h (.lst a) (.list ps)/\ToP h dy p/\p.canLay0=true/\E8 ps=true/\p.depth<=60/\j<1000000/\ps[j]? =some z/\T8 z p=true/\(∀m y,m<j->ps[m]? =some y->T8 y p=false)/\Q (.int (j:P7)) H):=by
 intro pins s σ H x vs v us Q I rx rv h;obtain⟨a,y,dy,h,p,ps,j,z,rfl,rfl,rd,rh,t1,t2,c1,c2,c3,hj,hz,hit,hno,q⟩:=h;cases rx;obtain⟨u,rfl,ru⟩:=wP rv;obtain⟨a',ds,ea,ha,ts⟩:=(show ∃a' ds,D.lst a= .lst a'/\h a'=some ds/\ToPs h ds ps from t1);cases ea;obtain⟨ws,hH,_⟩:=rh a ds ha;obtain⟨as,r1⟩:=jM I rh t1 (show RelD X.K H (.lst a) (.ref a) from ⟨rfl,ws,hH⟩) (show RelV (.ref a) (.ref a) from rfl);obtain⟨bs,r2⟩:=jM I rh t2 rd ru;cases r1 with
 |list h1 h2 h3 h4=>
  rename_i o its n cs;have em:=readsAll_map ps _ _ c2 h4;have gm: ∀m (hm:m<its.size),ps[m]? =some (readOf s.heap its[m]):=λm hm=>by
   rw [<-em,R6,b9,aG hm];rfl
  have hlen:its.size=ps.length:=by rw [<-em,G9,B0]
  have hjs:j<its.size:=by rw [hlen];exact(D0.mp hz).1
  have hu':X.A.units+1+min (C0 ps) p.depth<cLine:=by have:=V7 (C0 ps) p.depth;omega
  obtain⟨oc,od,odt,osl⟩:=o;simp only at h2 h3;subst h2 h3;refine Z2 F.slot_list_index ⟨_,h1,rfl⟩ F.entry_list_index (F.args_list_index_2 _ _) (list_indexAt a its n od osl u (λy=>T8 (readOf s.heap y) p) j hjs (by omega) ?_ ?_) ⟨h1,items_eqAt h4 r2 c2 c1 hu',?_⟩
  ·have:=gm j hjs;rw [hz] at this;injection this with this
   rw [<-this];exact hit
  ·intro m hm hmj;exact hno m _ hmj (gm m hm)
  ·exact⟨.int (j:P7),H,I.tok _,⟨_,rfl⟩,q⟩
def Bb (to te:TED):TED:=λσ h Q=>to σ h λx h1=> ∃a,x= .lst a/\te σ h1 λy h2=> ∃ (p:C7) (ps:G0 C7) (j:P5) (z:C7),ToP h2 (.lst a) (.list ps)/\ToP h2 y p/\p.canLay0=true/\E8 ps=true/\p.depth<=60/\j<1000000/\ps[j]? =some z/\T8 z p=true/\(∀m y,m<j->ps[m]? =some y->T8 y p=false)/\Q (.int (j:P7)) h2
section
variable {X:Cx}{o e i:D2}{to te ti:TED}{apos cpos:Pos}
theorem Bc (hu : X.A.units + 64 < cLine) (ho : JE X o to) (he : JE X e te) (hbase : O7 o "index" X.env (N5 o X.env) = N5 o X.env := by rfl)
    (hfew : ((N6 cpos (G6 [e] X.env)).all (fun x => !x.1) && (Z1 cpos (J4 [] X.env)).all (fun x => x.1.isSome) && decide ([e].length + ([] : G0 A8).length + (if ([] : G0 A8).isEmpty then 0 else 1) < 30)) = true := by rfl)
    (hline : (apos.endLine == cpos.line) = true := by rfl) (hs : G6 [e] X.env = (false, N5 e X.env) :: G6 [] X.env := by rfl) (hplain : (N6 cpos (G6 [] X.env)).any (·.1) = false := by rfl) :
    JE X (.Call (.Attribute o "index" apos) [e] [] cpos) (Bb to te) :=
  ⟨(Yw U2 g6 g7 (Us hu) ho.to (jT he.to pa_nil hs) hbase hfew hline hs hplain).imp
    fun σ H Q ⟨lI, h, Qd, rs, rh, t, p⟩ => LE.bind rs rh t fun d v h1 H1 k1 rs1 rh1 r1 ⟨a, e, q⟩ => by
      subst e
      obtain ⟨e1, vs, hH⟩ := (show v = .ref a ∧ ∃ vs, H1 a = some (.lst vs) from r1)
      subst e1
      refine ⟨.inl ⟨rfl, vs, SqL.of hH⟩, ?_⟩
      refine LE.bind rs1 rh1 q fun y u h2 H2 k2 rs2 rh2 r2 ⟨pd, ps, j, z, t1, t2, c1, c2, c3, hj, hz, hit, hno, q2⟩ => ?_
      exact ⟨a, u, y, h2, pd, ps, j, z, rfl, rfl, r2, rh2, t1, t2, c1, c2, c3, hj, hz, hit, hno, p (.int _) _ _ _ (k1.trans k2) rh2 rfl q2⟩⟩
end
def RP (n:P5)(T:G0 (G0 P7))(k i j:P5):Prop:=ent (Mp n T k) i j≠0
theorem WM {prog:D6}{w:S7}{A:R8}(hh:A.handled=none)(it t:G4)(items:F3 G2)(n:P5)(hn:items.size<=n):
 Draws prog w A it [it,t] n (λ_ _=>False) (λi h=>i=n/\h.IsListIter it t n/\h.IsList t items) where
 live:=λ_ _ st=>let ⟨o,ho,_⟩:=st.2.1;⟨o,ho⟩
 frame:=λ_ _ _ st hk=>⟨st.1,st.2.1.at λo e=>hk it (by simp) o e,st.2.2.at λo e=>hk t (by simp) o e⟩
 item:=λi s Q E hi st hQ=>absurd st.1 (R3 hi)
 done:=λs Q E st hE=>wpAny_nextOf_list_end hh st.2.1 st.2.2 (bR hn) hE
def Ms (K:G1)(a:G4):It:=
 ⟨λi H=> ∃xs x,SqL K H a xs/\xs[i]? =some x,λi H x H'=> ∃p v,H p=none/\(∀xs,SqL K H a xs->xs[i]? =some v)/\x= .ref p/\H'=upd H p (.tup [.int i,v]),λi H=> ∃xs,SqL K H a xs/\xs.length<=i⟩
theorem WN {P:D6}{w:S7}{K:G1}{es:G0 D2}{k:P5}{pos:Pos}(a it e:G4)(hei:e≠it)(hae:a≠e)(hai:a≠it):Turn P w K (.Tuple es k pos) (Ms K a) [e,it] e (λi h=>(∃old,IsEnum h e it i old)/\h.IsListIter it a i) where
 mem:=by simp
 obj:=λi h st b hb=>by
  rcases P0.mp hb with z|z
  ·subst z;obtain⟨old,q⟩:=st.1;exact⟨_,q,λv z=>by cases z⟩
  ·have z:=S4.mp z;subst z;obtain⟨o,q,c,d⟩:=st.2;exact⟨o,q,λv z=>by rw [d] at z;cases z⟩
 keep:=λi h h' st k=>⟨let ⟨old,q⟩:=st.1;⟨old,k e (by simp) _ q⟩,st.2.at λo q=>k it (by simp) o q⟩
 item:=by
  intro X hP hw hK hc i pins s σ H E I hf st hg;subst hP hw hK;obtain⟨xs,x,hq,hx⟩:=hg;obtain⟨its,rv,p,hz⟩:=I.list hq;obtain⟨u,hu,ru⟩:=rv.get hx;have hi:i<its.toArray.size:=by have:=(D0.mp hu).1;simpa using this
  obtain⟨old,he⟩:=st.1;have helt:e<s.heap.objs.size:=P6 he;refine wpAny_pyNext_enum_itemD (Draws.list (prog:=X.prog) (w:=X.w) (A:=X.A.in1) (I.ok.hd hc) it a hai its.toArray) he ⟨st.2,p.isList⟩ hi hei (by simp [hei,A0 hae]) λx' h' tk hx' ho hs' hT hsz hk=> ?_
  have ex:x'=u:=M1 (hx'.symm.trans (show its.toArray[i]? =some u by simpa using hu));subst ex;refine⟨_,rfl,wpAny_letOwnedTupleGo_enum ho λh2 he2 hs2=> ?_⟩;have hn:H s.heap.objs.size=none:=I.hok.fresh (G8 _);have hT2:h2.get? s.heap.objs.size=some {cls:= .type "tuple",data:= .seq #[.int i tk,x']}:=(hs2.2 _ (H0 helt)).trans hT;refine⟨.ref s.heap.objs.size,upd H s.heap.objs.size (.tup [.int i,x]),?_,rfl,⟨_,x,hn,λys hy=>by rw [I.list_inj hy hq];exact hx,rfl,rfl⟩,⟨⟨x',by simpa using he2⟩,hs'.1.at λo y=>(hs2.2 it (A0 hei)).trans y⟩,λb hb=> ?_⟩
  ·refine I.turnLaid (h':=h2) (t':=tk+1) (ch:= [e,it]) (λb u hb q=> ?_) hf (G8 _) ⟨by show 2<=sizeLine;decide,[.int i tk,x'],.cons ⟨tk,rfl⟩ (.cons ru .nil),⟨_,hT2,rfl,rfl,_,rfl⟩⟩;have b1:b≠e:=λz=>hb (by simp [z])
   have b2:b≠it:=λz=>hb (by simp [z])
   exact(hs2.2 b b1).trans (hk b u b1 b2 q)
  ·have f:=(hf b hb).1;have:b≠s.heap.objs.size:=λz=>by
    rcases P0.mp hb with w|w
    ·rw [<-w,z] at helt;exact absurd helt (N9 _)
    ·have w:=S4.mp w;obtain⟨o,ho',_⟩:=st.2;have:=P6 ho';rw [<-w,z] at this;exact absurd this (N9 _)
   rw [jd this];exact f
 done:=by
  intro X hP hw hK hc i pins s σ H E I hf st hg;subst hP hw hK;obtain⟨xs,hq,hx⟩:=hg;obtain⟨its,rv,p,hz⟩:=I.list hq;obtain⟨old,he⟩:=st.1;have hl:=rv.length;refine wpAny_pyNext_enum_endD (WM (prog:=X.prog) (w:=X.w) (A:=X.A.in1) (I.ok.hd hc) it a its.toArray i (by simp;omega)) he ⟨rfl,st.2,p.isList⟩ λh' hx'=>⟨rfl,I.turnL (t':=s.toks) (ch:= [it]) (λb o hb q=>hx' b o (λz=>hb (by simp [z])) q) λb hb=>hf b (P9 _ hb)⟩
 self:=λ_ _ _ _ _ st h=>let ⟨_,q⟩:=st.1;eL q h
section
variable {X:Cx}
def Dr (K:G1)(ta:TA):TI:=λσ H R=>ta σ H λvs H1=> ∃a,vs= [.ref a]/\(∃xs,SqL K H1 a xs)/\R (Ms K a) H1
theorem Ut {es:G0 D2}{k:P5}{tp:Pos}{a:D2}{ta:TA}{p pos:Pos}(hg:Gl X "enumerate")(hm:X.mg "enumerate" =none)(ha:PA X [a] ta)(hs:G6 [a] X.env= [(false,N5 a X.env)]:=by rfl):
 PI X (.Tuple es k tp) (.Call (.Name "enumerate" p) [a] [] pos) (Dr X.K ta):=by
 intro pins s σ H R I h;refine Call_ (JB I hg hm (show B5 "enumerate" =some (.type "enumerate") by decide +kernel) (E7 (thn (ha pos pins s σ H _ I h) λus s1 ⟨vs,H1,I1,r1,q1⟩=> ?_) hs rfl));obtain⟨a,e,⟨xs,hq⟩,q⟩:=q1;subst e;cases r1 with
 |cons r rr=>
  cases rr;cases r;obtain⟨its,rv,p,hz⟩:=I1.list hq;have hlt:a<s1.heap.objs.size:=by obtain⟨o,ho,_⟩:=p.isList;exact P6 ho
  refine call_enumerate_list p.isList λh' he hit _ hk=> ?_
  refine eL he ?_;refine⟨s1.heap.objs.size+1,[s1.heap.objs.size+1,s1.heap.objs.size],_,_,H1,rfl,I1.kept (t':=s1.toks) hk,WN a s1.heap.objs.size (s1.heap.objs.size+1) (H0 (J8 _)) (R3 (eF hlt)) (R3 hlt),⟨⟨_,he⟩,hit⟩,λb hb=> ?_,q⟩;have hb':s1.heap.objs.size<=b:=by
   rcases P0.mp hb with w|w
   ·rw [w];exact iW _
   ·rw [S4.mp w];exact G8 _
  exact I1.fpOk hb' (I1.hok.fresh hb')
end
def iEL (ta:TAD):TID:=λσ h R=>ta σ h λxs h1=> ∃a,xs= [.lst a]/\R (λh=>(h a).map YZ) h1
section
variable {K:G1}
theorem WO (H:Hp)(a:G4):Qj K H (λh=>(h a).map YZ) (Ms K a):=λH' h' k rh ds' e i=>by
 have e:(h' a).map YZ=some ds':=e;cases hd:h' a with
 |none=>rw [hd] at e;cases e
 |some ds=>
  rw [hd] at e;cases e;obtain⟨vs,hv',r'⟩:=rh a ds hd;refine⟨λd hd=> ?_,λhl=>⟨vs,SqL.of hv',by rw [<-r'.length,<-ZP];exact hl⟩⟩;obtain⟨x,hx,ed⟩:=Wo hd;subst ed;obtain⟨v,e1,e2⟩:=r'.get hx;refine⟨⟨vs,v,SqL.of hv',e1⟩,λx' H'' ⟨p,v',hp,hx',ex,eH⟩=> ?_⟩;subst ex eH;have ev:v'=v:=by have:=hx' vs (SqL.of hv');rw [e1] at this;exact(M1 this).symm
  subst ev;have k2:Kept H' (upd H' p (.tup [.int i,v'])):= .new hp;exact⟨k2,RelH.new rh hp,p,[.int i,v'],rfl,jf,_,_,rfl,rfl,_,_,rfl,e2.mono k2,rfl⟩
theorem Uu {ta:TAD}: ∀σ H R,LI K (iEL ta) σ H R->Dr K (LA K ta) σ H R:=λσ H R ⟨lI,h,Rd,rs,rh,q,p⟩=>
 LA.bind rs rh q λds vs h1 H1 k1 rs1 rh1 r1 ⟨a,e,q1⟩=>by
  subst e;obtain⟨v,e,r2⟩:=jr r1;obtain⟨e',ws,hv⟩:=(show v= .ref a/\ ∃vs,H1 a=some (.lst vs) from r2);subst e';exact⟨a,e,⟨ws,SqL.of hv⟩,p _ _ _ _ k1 rh1 (WO H1 a) q1⟩
end
section
variable {X:Cx}
theorem Uv {es:G0 D2}{k:P5}{tp:Pos}{a:D2}{ta:TAD}{p pos:Pos}(hg:Gl X "enumerate")(hm:X.mg "enumerate" =none)(ha:JA X [a] ta)(hs:G6 [a] X.env= [(false,N5 a X.env)]:=by rfl):
 JI X (.Tuple es k tp) (.Call (.Name "enumerate" p) [a] [] pos) (iEL ta):=⟨(Ut hg hm ha.to hs).imp Uu⟩
end
end L2
set_option maxRecDepth 35000
namespace L2
open PySem PySem.Spec PyProof.Rows PySem.SeqAt
mutual
def smB:P5->D->C3
 |_,.non=>true
 |_,.bl _=>true
 |_,.int i=>decide (i.natAbs<2^100)
 |_,.str x=>decide (x=D7 "1")||decide (x=D7 "")||decide (x=D7 "0")
 |k+1,.tup ds=>decide (ds.length<=155)&&smBs k ds
 |_,_=>false
def smBs:P5->G0 D->C3
 |_,[]=>true
 |k,d::ds=>smB k d&&smBs k ds
end
theorem smBs_mem {k:P5}: ∀ {ds:G0 D},smBs k ds=true-> ∀d∈ds,smB k d=true
 |d::ds,h,x,hx=>by
  have h':(smB k d&&smBs k ds)=true:=h;rw [D9] at h';rcases P0.mp hx with e|e
  ·rw [e];exact h'.1
  ·exact smBs_mem h'.2 x e
theorem Uw {h:HD}{p:G4}:Sub (Jd h p) h:= .drop h p
def Mt (T:G0 (G0 P7))(n p:P5):G0 P5:=(C8 n).filter λj=>decide (ent T p j>0)
def cnt (T:G0 (G0 P7))(n o:P5):P5->P5->P7
 |0,p=>if p=o then 1 else 0
 |t+1,p=>((Mt T n p).map (cnt T n o t)).sum
section
variable {T:G0 (G0 P7)}{n o:P5}
def Bd (T:G0 (G0 P7))(n o t p:P5):P5:=(Mt T n p).findIdx λj=>decide (cnt T n o t j>0)
def nxt (T:G0 (G0 P7))(n o t p:P5):P5:=(Mt T n p).getD (Bd T n o t p) 0
end
end L2
namespace L2
open PySem PySem.Spec PyProof.Rows
theorem ObjOk.there {P:D6}{w:S7}{H:Hp}{h:S6}{a:G4}{o:HO}(x:ObjOk P w H h a o): ∃u,h.get? a=some u:=by
 cases o with
 |lst xs=>obtain⟨_,_,_,_,e⟩:=x;exact⟨_,e⟩
 |tup xs=>obtain⟨_,_,_,p⟩:=x;obtain⟨o,e,_⟩:=p;exact⟨_,e⟩
 |dK kvs=>obtain⟨_,_,_,_,o,_,_,e,_⟩:=x;exact⟨_,e⟩
 |dT kvs=>obtain⟨_,_,_,_,o,_,_,e,_⟩:=x;exact⟨_,e⟩
 |set S n=>obtain⟨o,_,_,_,e,_⟩:=x;exact⟨_,e⟩
 |ins C dx fs=>obtain⟨_,_,_,e,_⟩:=x;exact⟨_,e⟩
 |own y=>obtain⟨_,e⟩:=x;exact⟨_,e⟩
 |xd fs=>obtain⟨_,⟨_,_,_,e,_⟩,_⟩:=x;exact⟨_,e⟩
 |rng lo hi=>obtain⟨_,_,_,e⟩:=x;exact⟨_,e⟩
 |frz ob u=>obtain⟨e,_⟩:=x;exact⟨_,e⟩
 |tbl ps=>exact⟨_,(show h.get? a=some _ from x)⟩
 |met f y=>exact⟨_,(show h.get? a=some _ from x)⟩
 |ext φ=>obtain⟨_,⟨_,e⟩,_⟩:=x;exact⟨_,e⟩
theorem jI {h b b':S6}: ∀ {l:G0 Env},h.FunFrames b l->(∀a∈frs l,b'.get? a=none)->h.FunFrames b' l
 | [],_,_=>trivial
 |env::r,⟨hk,⟨L,o,hf,_,ho,hd⟩,hr⟩,n=>by
  refine⟨hk,⟨L,o,hf,n L ?_,ho,hd⟩,jI hr λa ha=>n a ?_⟩
  ·unfold frs;rw [L7,hf];exact .head _
  ·unfold frs;rw [L7,hf];exact .tail _ ha
structure Fly (h0:S6)(H:Hp)(h:S6)(x C:G4):Prop where
 ex: ∃ (oe:Obj) (vs:F3 G2) (a0:G2) (T:G4) (oT:Obj) (ts:F3 G2),h.get? x=some oe/\oe.cls= .ref C/\oe.data= .fields vs/\vs[0]? =some a0/\vs[1]? =some (.ref T)/\T≠x/\
  h.get? T=some oT/\oT.data= .fields ts/\ts[3]? =some .none/\H T=none/\h0.get? T=none
 nx:H x=none
 n0:h0.get? x=none
def CXR (P:D6)(w:S7):CXT:=λouter H s E e s'=> ∃x C H',e= .ref x/\s'.os=s.os/\X3 s'.gens/\Un (frs outer) [] H H' s.heap s'.heap/\HOk P w H' s'.heap/\Fly s.heap H' s'.heap x C/\E (.ref C) none H'
structure Rz0 (X:Cx):Prop where
 stk:X.stack=X.env::X.outer
 fr:X.env.frame=some X.env.locals
 ex:X.ex= []
structure Rz (X:Cx)(E:XK):Prop extends Rz0 X where
 xe: ∀e s',D5 (D8 X.prog X.w) X.A (dO X.env e) (λ_ s''=>CXR X.prog X.w X.outer X.H₀ X.s₀ E e s'') (λe' s''=>CXR X.prog X.w X.outer X.H₀ X.s₀ E e' s'') s'->X.xe e s'
section
variable {X:Cx}{pins:G0 (G4×Obj)}{σ:St}{H:Hp}{s:G3}{E:XK}{x C:G4}
theorem Vf (I:Inv X pins σ H s)(Z:Rz0 X){ys:G0 G4}(hy: ∀y∈ys,H y=none/\X.s₀.heap.get? y=none){h':S6}
 (kb: ∀b o,s.heap.get? b=some o->b ∉ ys->b ∉ frs (X.env::X.outer)->h'.get? b=some o)
 (up: ∀b o,s.heap.get? b=some o->b∈frs (X.env::X.outer)-> ∃sl,h'.get? b=some {o with slots:=sl}):
 Un X.fs [] X.H₀ H X.s₀.heap h'/\HOk X.prog X.w H h'/\
  ∀T oT ts,h'.get? T=some oT->oT.data= .fields ts->(∀o,s.heap.get? T=some o->T∈ys\/T∈frs (X.env::X.outer))->H T=none/\X.s₀.heap.get? T=none:=by
 have nex: ∀b,b ∉ X.ex:=λb=>by rw [Z.ex];simp
 have neL: ∀b o,X.s₀.heap.get? b=some o->b≠X.env.locals:=λb o e=>R3 (P2 (P6 e) I.ok.above)
 have mem: ∀b,b∈frs (X.env::X.outer)↔b=X.env.locals\/b∈X.fs:=λb=>by
  show b∈List.filterMap _ _↔_;rw [L7,Z.fr];exact P0
 have nys: ∀b o,X.s₀.heap.get? b=some o->b ∉ ys:=λb o e z=>by rw [(hy b z).2] at e;cases e
 have trf: ∀b u,H b=some u->b ∉ ys/\b ∉ frs (X.env::X.outer):=λb u e=>by
  refine⟨λz=> ?_,λz=> ?_⟩
  ·rw [(hy b z).1] at e;cases e
  ·have:=I.stkFree b (by rw [Z.stk];exact z);rw [this] at e;cases e
 refine⟨⟨λb o e n hb hx=> ?_,λb o e n hb hx=> ?_,λb o e n hx=>I.base.free b o e n (nex b),λb o e hx=> ?_,I.base.tups,I.base.frzs,I.base.tbls⟩,λa o e=> ?_,λT oT ts hT hd hn=>⟨?_,?_⟩⟩
 ·exact kb b o (I.base.keep b o e n hb (nex b)) (nys b o e) λz=>((mem b).mp z).elim (neL b o e) hb
 ·obtain⟨sl,e1⟩:=I.base.slot b o e n hb (nex b);obtain⟨sl',e2⟩:=up b _ e1 ((mem b).mpr (.inr hb));exact⟨sl',e2⟩
 ·obtain⟨o',e1⟩:=I.base.there b o e (nex b)
  by_cases hb:b∈frs (X.env::X.outer)
  ·obtain⟨sl,e2⟩:=up b o' e1 hb;exact⟨_,e2⟩
  ·exact⟨_,kb b o' e1 (nys b o e) hb⟩
 ·refine(I.hok a o e).stay (λb u hb q=> ?_) (λ_ q=>q) λ_ _ q=>q
  rcases hb with rfl|hb
  ·exact kb b u q (trf b _ e).1 (trf b _ e).2
  ·exact kb b u q (trf b _ hb).1 (trf b _ hb).2
 ·cases q:H T with
  |none=>rfl
  |some u=>
   obtain⟨o,e⟩:=(I.hok T u q).there;exact absurd (hn o e) λz=>z.elim (trf T u q).1 (trf T u q).2
 ·cases q:X.s₀.heap.get? T with
  |none=>rfl
  |some o=>
   exfalso;obtain⟨o',e1⟩:=I.base.there T o q (nex T);rcases hn o' e1 with z|z
   ·exact nys T o q z
   ·rcases (mem T).mp z with z'|z'
    ·exact neL T o q z'
    ·obtain⟨_,o2,e2,nd⟩:=(show s.heap.FunFrames X.base (X.env::X.outer) from Z.stk ▸ I.stack).mem z;obtain⟨sl,e3⟩:=up T o2 e2 z;rw [hT] at e3;cases e3;exact nd ts hd
theorem Vg {Q:Unit->G3->Prop}{M:bV}{EE:G2->G3->Prop}(I:Inv X pins σ H s)(Z:Rz X E)(fl:Fly X.s₀.heap H s.heap x C)
 (k: ∀h',Un X.fs [] X.H₀ H X.s₀.heap h'->HOk X.prog X.w H h'->Fly X.s₀.heap H h' x C->Q () {s with heap:=h'}):D5 M X.A (dO X.env (.ref x)) Q EE s:=by
 obtain⟨oe,vs,a0,T,oT,ts,he,hc,hd,h0,h1,hTx,hT,hTd,h3,hHT,h0T⟩:=fl.ex;have hfr:X.A.frames=some (X.env::X.outer):=by rw [I.ok.frames,Z.stk]
 have stk:s.heap.FunFrames X.base (X.env::X.outer):=Z.stk ▸ I.stack;have ff:s.heap.FunFrames (K7 s.heap (x::T::frs (X.env::X.outer))) (X.env::X.outer):=jI stk λa ha=>O5 _ (.tail _ (.tail _ ha))
 refine wpAny_leaves_onW (base:=K7 s.heap (x::T::frs (X.env::X.outer))) (cls:= .ref C) (a0:=a0) hfr Z.fr
  ⟨λb o e=>X8 _ e,O5 _ (.head _),ff,oe,vs,T,oT,ts,he,⟨hc,h0⟩,hd,h1,O5 _ (.tail _ (.head _)),hTx,hT,hTd,h3⟩ λh' hfl' hup=> ?_
 obtain⟨st,_,_,oe',vs',T',oT',ts',he',⟨hc',h0'⟩,hd',h1',hTB,hTx',hT',hTd',h3'⟩:=hfl';obtain⟨r1,r2,r3⟩:=Vf (ys:= [x,T]) (h':=h') I Z.toRz0 (λy hy=>by
  rcases P0.mp hy with rfl|hy
  ·exact⟨fl.nx,fl.n0⟩
  ·rcases P0.mp hy with rfl|hy
   ·exact⟨hHT,h0T⟩
   ·cases hy) (λb o e n1 n2=>st b o (O9 _ e λz=>by
    rcases P0.mp z with rfl|z
    ·exact n1 (.head _)
    ·rcases P0.mp z with rfl|z
     ·exact n1 (.tail _ (.head _))
     ·exact n2 z)) λb o e hb=>by
  obtain⟨_,o2,e2,nd⟩:=stk.mem hb;rw [e] at e2;cases e2;exact hup b o e nd
 obtain⟨q1,q2⟩:=r3 T' oT' ts' hT' hTd' λo e=>by
  by_cases z:T'∈frs (X.env::X.outer)
  ·exact .inr z
  ·refine .inl ?_
   by_cases z1:T'=x
   ·rw [z1];exact .head _
   ·by_cases z2:T'=T
    ·rw [z2];exact .tail _ (.head _)
    ·rw [O9 _ e (by simp only [P0,not_or];exact⟨z1,z2,z⟩)] at hTB;cases hTB
 exact k h' r1 r2 ⟨⟨oe',vs',a0,T',oT',ts',he',hc',hd',h0',h1',hTx',hT',hTd',h3',q1,q2⟩,fl.nx,fl.n0⟩
theorem WP {Q:Unit->G3->Prop}{M:bV}{EE:G2->G3->Prop}{h1:S6}{args:G0 G2}(I:Inv X pins σ H s)(Z:Rz X E)(hm:Heap.MadeExcOf s.heap h1 x (.ref C) args)
 (k: ∀h',Un X.fs [] X.H₀ H X.s₀.heap h'->HOk X.prog X.w H h'->Fly X.s₀.heap H h' x C->Q () {s with heap:=h'}):D5 M X.A (dO X.env (.ref x)) Q EE {s with heap:=h1}:=by
 have hfr:X.A.frames=some (X.env::X.outer):=by rw [I.ok.frames,Z.stk]
 have stk:s.heap.FunFrames X.base (X.env::X.outer):=Z.stk ▸ I.stack;have ff:s.heap.FunFrames (K7 s.heap (frs (X.env::X.outer))) (X.env::X.outer):=jI stk λa ha=>O5 _ ha
 refine wpAny_leaves_madeW (base:=K7 s.heap (frs (X.env::X.outer))) (h:=s.heap) (s:= {s with heap:=h1}) hfr Z.fr (λb o e=>X8 _ e) ff hm λh' t hfl' _ _ hup=> ?_
 obtain⟨st,_,_,oe',vs',T',oT',ts',he',⟨hc',h0'⟩,hd',h1',hTB,hTx',hT',hTd',h3'⟩:=hfl';obtain⟨r1,r2,r3⟩:=Vf (ys:= []) (h':=h') I Z.toRz0 (λy hy=>nomatch hy) (λb o e _ n2=>st b o (O9 _ e n2)) λb o e hb=>by
  obtain⟨_,o2,e2,nd⟩:=stk.mem hb;rw [e] at e2;cases e2;exact hup b o (hm.keeps b o e) nd
 obtain⟨q1,q2⟩:=r3 T' oT' ts' hT' hTd' λo e=>by
  by_cases z:T'∈frs (X.env::X.outer)
  ·exact .inr z
  ·rw [O9 _ e z] at hTB;cases hTB
 obtain⟨p1,p2⟩:=r3 x oe' vs' he' hd' λo e=>by rw [hm.new] at e;cases e
 exact k h' r1 r2 ⟨⟨oe',vs',_,T',oT',ts',he',hc',hd',h0',h1',hTx',hT',hTd',h3',q1,q2⟩,p1,p2⟩
theorem Mu (Z:Rz X E):yG (CXR X.prog X.w) X E:=by
 intro pins σ H s e s' I ⟨x,C,H',he,os,bare,un,hok,fl,q⟩;subst he;obtain⟨hh,g,d,t,os'⟩:=s';obtain rfl:os'=s.os:=os;have I':=I.call (h':=hh) (g':=g) (d':=d) (t':=t) (ch:= []) un hok bare (λb z=>absurd z (by simp));have nex: ∀b,b ∉ X.ex:=λb=>by rw [Z.ex];simp
 have f0: ∀b,s.heap.get? b=none->X.s₀.heap.get? b=none:=λb n=>by
  cases q:X.s₀.heap.get? b with
  |none=>rfl
  |some o=>obtain⟨o',e⟩:=I.base.there b o q (nex b);rw [n] at e;cases e
 have fl':Fly X.s₀.heap H' hh x C:=by
  obtain⟨⟨oe,vs,a0,T,oT,ts,a1,a2,a3,a4,a5,a6,a7,a8,a9,a10,a11⟩,nx,n0⟩:=fl;exact⟨⟨oe,vs,a0,T,oT,ts,a1,a2,a3,a4,a5,a6,a7,a8,a9,a10,f0 _ a11⟩,nx,f0 _ n0⟩
 exact Z.xe _ _ (Vg I' Z fl' λh' u hk f=>⟨x,C,H',rfl,I'.os,I'.bare,u,hk,f,q⟩)
end
end L2
namespace L2
open PySem PySem.Spec PyProof.Rows PySem.W
def yz (cells:G0 (Str×G4)):G0 (Str×NameKind)->G0 (Str×G4)->G0 (Str×G4)
 | [],cs=>cs
 |(n,k)::r,cs=>yz cells r (if k== .free then (match cells.lookup n with|some c=>(n,c)::cs|none=>cs) else cs)
theorem zG {env:Env}: ∀ (names:G0 (Str×NameKind)) (cs:G0 (Str×G4)),(∀n,(n,T5)∈names-> ∃c,env.cells.lookup n=some c)->
 (forIn names cs (λ(x:Str×NameKind) (r:G0 (Str×G4))=>do
  let (name,kind):=x
  if kind== .free then
   let c <-lD env name
   pure (E4 ((name,c)::r))
  else pure (E4 r)):Sem (G0 (Str×G4)))=pure (yz env.cells names cs)
 | [],cs,_=>rfl
 |(n,k)::r,cs,h=>by
  rw [bW]
  by_cases hk:(k==T5)=true
  ·have hk':k= .free:=eq_of_beq hk;subst hk';obtain⟨c,hc⟩:=h n (.head _);unfold yz;simp only [aY,X5,lD,hc,pure_bind];exact zG r _ λn hn=>h n (.tail _ hn)
  ·unfold yz;simp only [hk,cH,pure_bind];exact zG r _ λn hn=>h n (.tail _ hn)
variable {scope:N4}
theorem yY {env:Env}(h: ∀n,(n,T5)∈scope.names-> ∃c,env.cells.lookup n=some c):Z3 scope env=pure (yz env.cells scope.names []):=by
 have:=zG (env:=env) scope.names [] h;unfold Z3
 first
  |exact this
  |simpa using this
theorem zy {cells:G0 (Str×G4)}: ∀ (names:G0 (Str×NameKind)) (cs:G0 (Str×G4)),(∀x c,cs.lookup x=some c->cells.lookup x=some c)-> ∀x c,(yz cells names cs).lookup x=some c->cells.lookup x=some c
 | [],_,h,x,c,e=>h x c e
 |(n,k)::r,cs,h,x,c,e=>by
  unfold yz at e;refine zy r _ (λy d hy=> ?_) x c e;split at hy
  ·split at hy
   ·rename_i c' hc';rw [M2] at hy
    by_cases q:(y==n)=true
    ·rw [q] at hy;cases hy;rw [eq_of_beq q];exact hc'
    ·simp only [q] at hy;exact h y d hy
   ·exact h y d hy
  ·exact h y d hy
theorem yZ {cells:G0 (Str×G4)}: ∀ (names:G0 (Str×NameKind)) (cs:G0 (Str×G4)) (x:Str),((x,T5)∈names/\(∃c,cells.lookup x=some c)\/ ∃c,cs.lookup x=some c)-> ∃c,(yz cells names cs).lookup x=some c
 | [],_,x,h=>h.elim (λz=>nomatch z.1) id
 |(n,k)::r,cs,x,h=>by
  unfold yz;refine yZ r _ x ?_;rcases h with ⟨hm,c,hc⟩|⟨c,hc⟩
  ·rcases P0.mp hm with q|q
   ·cases q;right;simp only [aY,X5,hc];exact⟨c,by simp⟩
   ·exact .inl ⟨q,c,hc⟩
  ·right;split
   ·split
    ·rename_i c' hc'
     by_cases q:(x==n)=true
     ·exact⟨c',by rw [M2,q]⟩
     ·exact⟨c,by rw [M2];simp only [q];exact hc⟩
    ·exact⟨c,hc⟩
   ·exact⟨c,hc⟩
structure LamOk (sc:N4):Prop where
 kind:sc.kind= .function
 co:sc.isCoroutine=false
 gen:sc.isGenerator=false
 nocell: ∀y∈sc.names,y.2≠ .cell/\y.2≠ .local
def vB:cT:= {posonlyargs:= [],args:= [],vararg:=none,kwonlyargs:= [],kw_defaults:= [],kwarg:=none,defaults:= []}
theorem Zd {a0 b0:P5}{c:G2}: ∀l:G0 G2,V9 l->V9 (l++ [W3 a0,W3 b0,c]):=by
 intro l h
 fun_induction V9 l with
 |case1=>simp [V9,W3]
 |case2 a t b u x zu ih=>simp only [M3,V9];exact ih h
 |case3 l h1 h2=>exact h.elim
theorem WQ {p:Pos}{a0 b0:P5}{c cv:G2}: ∀l:G0 G2,V9 l->aW p (l++ [W3 a0,W3 b0,c])=some cv->aW p l=some cv\/cv=c:=by
 intro l h e
 fun_induction V9 l with
 |case1=>
  right;simp only [M9,aW,W3] at e;split at e
  ·exact(M1 e).symm
  ·cases e
 |case2 a t b u x zu ih=>
  simp only [M3,aW] at e ⊢;split at e
  ·rename_i hc;left;rw [S1 hc];exact e
  ·rename_i hc;rw [S9 hc];exact ih h e
 |case3 l h1 h2=>exact h.elim
def CodeF (H:Hp)(cv:G2)(q:Str):Prop:= ∃ (c:G4) (o:Obj) (vs:F3 G2) (t:Tok),cv= .ref c/\H c=some (.frz o (.own 0))/\o.data= .fields vs/\vs[1]? =some (.str q t)
variable {w:S7}{H:Hp}{q:Str}
theorem CodeF.rec {P:D6}{h:S6}{cv:G2}(x:CodeF H cv q)(ok:HOk P w H h):h.CodeRec cv q:=let ⟨c,o,vs,t,e,e2,r⟩:=x;⟨c,o,vs,t,e,(ok c _ e2).1,r⟩
section
variable {X:Cx}{pins:G0 (G4×Obj)}{σ:St}{H:Hp}{s:G3}
theorem Ux {M:bV}{A:R8}{E:G2->G3->Prop}{Q:G2->G3->Prop}{body:D2}{scope:N4}{pos:Pos}{c P:G4}{ps:F3 G2}{clos:G0 (Str×G4)}(I:Inv X pins σ H s)(B:Bm X.mg X.base)
 (hcode:X.env.code= .ref c)(hc:codeHdIn X.K c P=true)(hP:H P=some (.tbl ps))(hps:CodesOk H ps)(hcl:Z3 scope X.env=pure clos)
 (k: ∀ (f:G4) (q qual:Str) (pm cv ctv:G2) (H':Hp) (h':S6) (tk:Tok),Inv X pins σ H' {s with heap:=h',toks:=tk}->Kept H H'->(∀a o,H a=some o->(∀ps',o≠ .tbl ps')->H' a=some o)->
  (∀a ps',H a=some (.tbl ps')->a≠P->H' a=some (.tbl ps'))->(∃ps',H' P=some (.tbl ps')/\CodesOk H' ps')->
  h'.get? f=some {cls:= .type "function",data:= .func (kla_fn "<lambda>" qual vB body scope clos pm cv ctv)}->CodeF H' cv q->H' f=none->(∀x d,X.env.cells.lookup x=some d->d≠f)->f≠X.env.locals->f ∉ X.fs->Q (.ref f) {s with heap:=h',toks:=tk}):
 D5 M A (N5 (.Lambda vB body scope pos) X.env) Q E s:=by
 have hPg:s.heap.get? P=some (tabObj ps):=I.hok P _ hP;have C:CodeHd s.heap c P:=codeHd_of_K I.kIn hc;have hgs:s.heap.Ns mainGlobals X.mg:=I.mod.glob.keeps I.bk;obtain⟨bm,ob,b1,b2,b3,b4,b5,b6⟩:=B;have bb:=I.bs _ _ b3;have hgP:mainGlobals≠P:=λq=>by
  obtain⟨o,es,ep,e,hd,_⟩:=hgs;rw [q,hPg] at e;cases e;cases hd
 have hbP:bm≠P:=λq=>by rw [q,hP] at bb;cases bb.2
 have hbG:bm≠mainGlobals:=λq=>by
  obtain⟨o,es,ep,e,hd,_⟩:=hgs;rw [q,e] at bb;cases bb.1;rw [hd] at b6;cases b6
 have BA:s.heap.BuiltinsAt X.mg P:=⟨bm,ob,b1,b2,hbG,hbP,bb.1,b4,b5,b6⟩;have away: ∀f,s.heap.objs.size<=f->(∀x d,X.env.cells.lookup x=some d->d≠f)/\f≠X.env.locals/\f ∉ X.fs:=λf hf=>⟨λx d e z=>by
  obtain⟨v,o,ho,_⟩:=I.cell x d e;exact absurd (P2 (P6 ho) (z ▸ hf)) (N9 _),λz=>absurd (P2 I.lt (z ▸ hf)) (N9 _),I.nofs hf⟩
 refine kla_eval rfl ?_;cases hf:aW pos ps.toList with
 |none=>
  refine kla_makeFunction (mg:=X.mg) hcl I.ok.glob hgs hcode C hPg hps.1 hf hgP BA λc' ctv h' tk hx hge hlt hrec htb=> ?_
  have hP':P<s.heap.objs.size:=P6 hPg;have hcP:c'≠P:=H0 (P2 hP' hge);have hcn:H c'=none:=I.hok.fresh hge;obtain⟨c₂,oc,vs,t,e2,hoc,hd,hv⟩:=hrec;cases e2;have szle:s.heap.objs.size<=h'.objs.size:=N3 (A9 hge hlt);have kp: ∀ (o2:Obj) b o,b≠P->s.heap.get? b=some o->(h'.push o2).get? b=some o:=λo2 b o nb e=>G5 _ (hx b o nb e)
  have hnP: ∀b u,H b=some u->(∀ps',u≠ .tbl ps')->b≠P:=λb u e n z=>by rw [z,hP] at e;cases e;exact n _ rfl
  have look: ∀b,b≠P->b≠c'->upd (upd H c' (.frz oc (.own 0))) P (.tbl (ps++ #[W3 pos.line,W3 pos.col,.ref c'])) b=H b:=λb n1 n2=>by rw [jd n1,jd n2]
  have ncs: ∀b u,H b=some u->b≠c':=λb u e z=>by rw [z,hcn] at e;cases e
  have frzs: ∀b o u,H b=some (.frz o u)->upd (upd H c' (.frz oc (.own 0))) P (.tbl (ps++ #[W3 pos.line,W3 pos.col,.ref c'])) b=some (.frz o u):=λb o u e=>by
   rw [look b (hnP b _ e (by intro _ z;cases z)) (ncs b _ e)];exact e
  refine k h'.objs.size (X.env.qual++ "<lambda>") (X.env.qual++ "<lambda>") _ (.ref c') ctv (upd (upd H c' (.frz oc (.own 0))) P (.tbl (ps++ #[W3 pos.line,W3 pos.col,.ref c']))) _ tk ?_ ?_ ?_ ?_ ?_ (R9 _ rfl) ⟨c',oc,vs,t,rfl,by rw [jd hcP,jf],hd,hv⟩ ?_ (away _ szle).1 (away _ szle).2.1 (away _ szle).2.2
  ·refine I.un (t':=tk) ⟨λb o e n hb hx'=>kp _ b o (λz=>by rw [z,hP] at n;cases n) e,λb o e n hb hx'=>⟨o.slots,kp _ b o (λz=>by rw [z,hP] at n;cases n) e⟩,λb o e n hx'=> ?_,λb o e hx'=> ?_,λb xs e=> ?_,frzs,λb ps' e=> ?_⟩ λa o e=> ?_
   ·rw [look b (λz=>by rw [z,hP] at n;cases n) (R3 (P2 (P6 e) hge))];exact n
   ·by_cases z:b=P
    ·rw [z];exact⟨_,G5 _ htb⟩
    ·exact⟨_,kp _ b o z e⟩
   ·rw [look b (hnP b _ e (by intro _ z;cases z)) (ncs b _ e)];exact e
   ·by_cases z:b=P
    ·subst z;rw [hP] at e;cases e;exact⟨_,jf⟩
    ·exact⟨#[],by rw [look b z (ncs b _ e),e];simp⟩
   ·by_cases z:a=P
    ·subst z;rw [jf] at e;cases e;exact G5 _ htb
    ·rw [jd z] at e
     by_cases z2:a=c'
     ·subst z2;rw [jf] at e;cases e;exact⟨G5 _ hoc,⟨oc,G5 _ hoc⟩⟩
     ·rw [jd z2] at e;refine(I.hok a o e).stay (λb u hb q=> ?_) (λb q=> ?_) λb xs q=> ?_
      ·rcases hb with rfl|hb
       ·exact kp _ b u z q
       ·exact kp _ b u (hnP b _ hb (by intro _ z;cases z)) q
      ·rw [look b (hnP b _ q (by intro _ z;cases z)) (ncs b _ q)];exact q
      ·rw [look b (hnP b _ q (by intro _ z;cases z)) (ncs b _ q)];exact q
  ·refine⟨λa xs e=> ?_,λa xs e=>⟨xs,?_⟩,λa kk i e=> ?_,frzs⟩<;>(rw [look a (hnP a _ e (by intro _ z;cases z)) (ncs a _ e)];exact e)
  ·intro a o e n;rw [look a (hnP a _ e n) (ncs a _ e)];exact e
  ·intro a ps' e n;rw [look a n (ncs a _ e)];exact e
  ·refine⟨_,jf,?_,λp cv e=> ?_⟩
   ·simp only [X1];exact Zd _ hps.1
   ·simp only [X1] at e;rcases WQ ps.toList hps.1 e with e|e
    ·obtain⟨c1,o,vs',q',t',e1,e2,r⟩:=hps.2 p cv e;exact⟨c1,o,vs',q',t',e1,frzs _ _ _ e2,r⟩
    ·exact⟨c',oc,vs,_,t,e,by rw [jd hcP,jf],hd,hv⟩
  ·have:H h'.objs.size=none:=I.hok.fresh szle;rw [look _ (H0 (P2 hP' szle)) (H0 hlt)];exact this
 |some cv=>
  obtain⟨c1,o,vs,q,t,rfl,e2,hd,hv⟩:=hps.2 pos cv hf;obtain⟨ho,_⟩:=I.hok c1 _ e2;refine kla_makeFunctionHit (mg:=X.mg) hcl I.ok.glob hgs hcode C hPg hps.1 hf BA λctv h' tk hk hsz=> ?_
  exact k h'.objs.size q (X.env.qual++ "<lambda>") _ (.ref c1) ctv H _ tk (I.kept (t':=tk) λb u e=>G5 _ (hk b u e)) (.refl H) (λ_ _ e _=>e) (λ_ _ e _=>e) ⟨ps,hP,hps⟩ (R9 _ rfl) ⟨c1,o,vs,t,rfl,e2,hd,hv⟩
   (I.hok.fresh hsz) (away _ hsz).1 (away _ hsz).2.1 (away _ hsz).2.2
end
structure Cap (N:G0 Str)(σ:St)(sc:N4)(cl:G0 (Str×G4))(h:S6)(H:Hp):Prop where
 len:σ.length=N.length
 inj: ∀x y c,cl.lookup x=some c->cl.lookup y=some c->x=y
 has: ∀x,sc.names.lookup x=some .free-> ∃c,cl.lookup x=some c
 cell: ∀x c,cl.lookup x=some c->(∃v,h.IsCell c v)/\H c=none
 loc: ∀ (i:P5) (x:Str) (v:V),N[i]? =some x->σ[i]? =some (some v)->sc.names.lookup x=some .free-> ∃u c,RelV v u/\cl.lookup x=some c/\h.IsCell c (some u)
theorem ze {α β:Type}[BEq α][LawfulBEq α]: ∀ {l:G0 (α×β)} {x:α} {y:β},l.lookup x=some y->(x,y)∈l
 | [],_,_,h=>by cases h
 |(a,b)::r,x,y,h=>by
  rw [M2] at h
  by_cases q:(x==a)=true
  ·rw [q] at h;cases h;rw [eq_of_beq q];exact .head _
  ·simp only [q] at h;exact .tail _ (ze h)
def Vh (sc:N4)(env:Env):Prop:= ∀n,(n,T5)∈sc.names->env.kindOf n=some .cell\/env.kindOf n=some .free
variable {σ:St}{s:G3}
theorem Cap.of {X:Cx}{pins:G0 (G4×Obj)}{sc:N4}(I:Inv X pins σ H s)(hf:Vh sc X.env):Cap X.N σ sc (yz X.env.cells sc.names []) s.heap H where
 len:=I.len
 inj:=λx y c h1 h2=>I.ok.inj x y c (zy _ _ (λ_ _ z=>by cases z) _ _ h1) (zy _ _ (λ_ _ z=>by cases z) _ _ h2)
 has:=λx h=>yZ _ _ _ (.inl ⟨ze h,I.ok.has x (hf x (ze h))⟩)
 cell:=λx c h=>⟨I.cell x c (zy _ _ (λ_ _ z=>by cases z) _ _ h),I.freeC x c (zy _ _ (λ_ _ z=>by cases z) _ _ h)⟩
 loc:=λi x v h1 h2 h3=>by
  obtain⟨m,hn,hl⟩:=I.loc;have hk:=hf x (ze h3);obtain⟨u,r,l⟩:=hl i x v h1 h2 (.inr hk);obtain⟨c,hc⟩:=yZ (cells:=X.env.cells) sc.names [] x (.inl ⟨ze h3,I.ok.has x hk⟩);refine⟨u,c,r,hc,?_⟩;have hc':=zy _ _ (λ_ _ z=>by cases z) _ _ hc;rcases l with ⟨k,_⟩|⟨_,c2,e,z⟩
  ·rcases hk with k2|k2<;>(rw [k] at k2;cases k2)
  ·rw [hc'] at e;cases e;exact z
variable {cl:G0 (Str×G4)}
theorem Cap.step {N:G0 Str}{sc:N4}{h h':S6}{H':Hp}{fs:G0 G4}(C:Cap N σ sc cl h H)(u:Un fs [] H H' h h'):Cap N σ sc cl h' H':=by
 have k: ∀x c v,cl.lookup x=some c->h.IsCell c v->h'.IsCell c v:=λx c v e ⟨o,ho,hd⟩=>by
  obtain⟨sl,q⟩:=u.any ho (C.cell x c e).2 (by simp);exact⟨_,q,hd⟩
 exact⟨C.len,C.inj,C.has,λx c e=>by
  obtain⟨⟨v,z⟩,n⟩:=C.cell x c e;obtain⟨o,ho,_⟩:=id z;exact⟨⟨v,k x c v e z⟩,u.free c o ho n (by simp)⟩,λi x v h1 h2 h3=>let ⟨uu,c,r,e,z⟩:=C.loc i x v h1 h2 h3;⟨uu,c,r,e,k x c _ e z⟩⟩
def cxL (CX:CXT)(P:D6)(w:S7)(K:G1)(mg:Str->G7 G2)(base:S6)(N:G0 Str)(q:Str)(scope:N4)(f:G4)(cd:G2)(cl:G0 (Str×G4))(A:R8)(outer:G0 Env)(s:G3)(H:Hp)(E:XK):Cx where
 prog:=P
 w:=w
 K:=K
 mg:=mg
 base:=base
 A:=A.deeper (envX q scope s.heap.objs.size f cd cl)
 N:=N
 s₀:=s
 H₀:=H
 env:=envX q scope s.heap.objs.size f cd cl
 outer:=outer
 stack:=envX q scope s.heap.objs.size f cd cl::outer
 ex:= []
 calm:=true
 fn:=λ_=>false
 pn:= []
 xe:=λe s'=>D5 (D8 P w) (A.deeper (envX q scope s.heap.objs.size f cd cl)) (dO (envX q scope s.heap.objs.size f cd cl) e) (λ_ s''=>CX outer H s E e s'') (λe' s''=>CX outer H s E e' s'') s'
variable {mg:Str->G7 G2}{base:S6}
theorem QD {CX:CXT}{P:D6}{K:G1}{N:G0 Str}{f:G4}{cd:G2}{A:R8}{outer:G0 Env}{E:XK}{lN:S6}{tk:Tok}
 (L:LamOk scope)(hd:A.handled=none)(e0:Env0 P w K mg base A outer s H)(C:Cap N σ scope cl s.heap H)(hns:lN.Ns s.heap.objs.size (λ_=>none))(hk: ∀b o,s.heap.get? b=some o->lN.get? b=some o):
 Inv (cxL CX P w K mg base N q scope f cd cl A outer s H E) [] σ H {s with heap:=lN,toks:=tk}:=by
 have noA: ∀b:G4,b ∉ (cxL CX P w K mg base N q scope f cd cl A outer s H E).ex:=λb z=>absurd (show b∈([]:G0 G4) from z) (by simp)
 have nofr: ∀y,scope.names.lookup y=some .cell\/scope.names.lookup y=some .free->scope.names.lookup y=some .free:=λy hy=>hy.elim (λz=>absurd rfl (L.nocell _ (ze z)).1) id
 refine⟨⟨e0.mod,L.kind,rfl,rfl,G8 _,λy z c h1 h2=>C.inj y z c h1 h2,λy hy=>C.has y (nofr y hy),λy c z=>(by cases z),λ_=>hd,W1 e0.frames,.inr ⟨rfl,rfl⟩,λb z=>absurd z (noA b),e0.bs,e0.bsz,λb _ _=>noA b,λb z=>absurd z (noA b),e0.funs,e0.frf⟩,
  rfl,e0.bare,Un.kept hk,⟨_,hns,λi y v h1 h2 h3=> ?_⟩,λy c h=> ?_,e0.hok.fresh (G8 _),λy c h=>(C.cell y c h).2,λp hp=>absurd (show p∈([]:G0 (G4×Obj)) from hp) (by simp),e0.hok.kept hk,C.len⟩
 ·have h3':scope.names.lookup y=some .free:=by
   rcases h3 with z|z
   ·exact absurd rfl (L.nocell _ (ze z)).2
   ·exact nofr y z
  obtain⟨u,c,r,e,o,ho,hd'⟩:=C.loc i y v h1 h2 h3';exact⟨u,r,.inr ⟨.inr h3',c,e,o,hk _ _ ho,hd'⟩⟩
 ·obtain⟨⟨v,o,ho,hd'⟩,_⟩:=C.cell y c h;exact⟨v,o,hk _ _ ho,hd'⟩
theorem Vi {prog:D6}{A:R8}{R:h9->G3->Prop}{f:G4}{o:Obj}{qual:Str}{body:D2}{pm cd ctv:G2}(L:LamOk scope)(deep:A.depth<recursionLimit)
 (there:s.heap.get? f=some o)(lam:o.data= .func (kla_fn "<lambda>" qual vB body scope cl pm cd ctv))(named:s.heap.CodeRec cd q)(lim:s.heap.NoLimit)
 (go: ∀lN,lN.Ns s.heap.objs.size (λ_=>none)->(∀b o,s.heap.get? b=some o->lN.get? b=some o)->
  K8 (D8 prog w) A (.expr body (envX q scope s.heap.objs.size f cd cl)) R {s with heap:=lN,toks:=s.toks+0}):
 K8 (D8 prog w) A (.call (.ref f) ⟨[],[]⟩) R s:=by
 obtain⟨c,oc,vs,t,rfl,hoc,hdc,hq⟩:=named;obtain⟨h,g,d,tk,os⟩:=s;have frame:=λ{A':R8} {Q:Env->G3->Prop} {E:G2->G3->Prop} (k: ∀lN,_->_->Q _ _)=>wpAny_newFunctionEnv (M:=D8 prog w) (A:=A') (s:=⟨h,g,d,tk,os⟩) (E:=E) (scope:=scope) (globals:=mainGlobals) (closure:=cl) (binds:= []) (qual:=q++ ".<locals>.") (func:=some f) (code:= .ref c) (around:=none) (builtins:=X9) (Q:=Q) (λx hx=>(L.nocell x hx).1) (λx hx=>nomatch hx) k L.kind
 refine codeAny_of_tree ?_;show D5 _ A.in1 (callAny (.ref f) ⟨[],[]⟩) _ _ _
 wp_walk using i5 there
 rw [lam];have nothing:fT (kla_fn "<lambda>" qual vB body scope cl pm (.ref c) ctv) ⟨[],[]⟩=pure []:=rfl;show D5 _ _ (iB f (kla_fn "<lambda>" qual vB body scope cl pm (.ref c) ctv) ⟨[],[]⟩) _ _ _;unfold iB;rw [nothing];show D5 _ _ (field (.ref c) 1 >>= _) _ _ _;refine wpAny_bind (Q7 hoc hdc hq ?_)
 repeat refine wpAny_bind (P1 ?_)
 refine wpAny_bind (frame λlN empty same=>wpAny_bind (wpAny_enterFrame (lim.fresh _ same) deep ?_));simp only [kla_fn,L.co,L.gen];exact P1 ⟨rfl,go lN empty λb o old=>same.extBut _ _ (λz=>absurd (P6 old) (by rw [z];exact N9 _)) (G5 _ old)⟩
theorem QF {CX:CXT}{P:D6}{K:G1}{N:G0 Str}{qual:Str}{f:G4}{cd pm ctv:G2}{A:R8}{outer:G0 Env}{E:XK}{o:Obj}{body:D2}{t:TE}{Q:VK}{k:P5}
 (L:LamOk scope)(hr:Room (k+1) A)(e0:Env0 P w K mg base A outer s H)(C:Cap N σ scope cl s.heap H)(ho:s.heap.get? f=some o)(hd:o.data= .func (kla_fn "<lambda>" qual vB body scope cl pm cd ctv))(hc:CodeF H cd q)
 (hb:PE (cxL CX P w K mg base N q scope f cd cl A outer s H E) body t)(ht:t σ H Q):K8 (D8 P w) A (.call (.ref f) ⟨[],[]⟩) (CR CX outer P w H s Q E) s:=by
 have lim:s.heap.NoLimit:=e0.mod.nolimit.keeps λb o e=>(e0.bs b o e).1
 refine Vi L hr.depth ho hd (hc.rec e0.hok) lim λlN hns mM=> ?_
 have I:=QD (CX:=CX) (q:=q) (f:=f) (cd:=cd) (E:=E) (tk:=s.toks+0) L hr.hd e0 C hns mM;refine kla_codeExpr (S3 (hb [] _ σ H Q I ht) (λv s' hs=> ?_) λ_ _ y=>y);obtain⟨v',H',J,rv,q'⟩:=hs;exact⟨v',H',J.os,J.bare,J.base,J.hok,rv,q'⟩
abbrev TXD:=SD->HD->(Str->HD->Prop)->Prop
def WX (X:Cx)(E:XK)(H:Hp)(R:Str->HD->Prop):Prop:= ∀c C h' H',Kept H H'->RelH X.K h' H'->X.mg c=some (.ref C)->R c h'->E (.ref C) none H'
theorem WX.mono {X:Cx}{E:XK}{H':Hp}{R:Str->HD->Prop}(w:WX X E H R)(k:Kept H H'):WX X E H' R:=λc C h2 H2 k2=>w c C h2 H2 (k.trans k2)
structure JX (X:Cx)(sts:G0 N2)(t:TXD):Prop where
 to: ∀ (E:XK),Rz X E-> ∀ (pins:G0 (G4×Obj)) (s:G3) (σ:St) (H:Hp) (lI:SD) (h:HD) (R:Str->HD->Prop),Inv X pins σ H s->RelS X.K H lI σ->RelH X.K h H->t lI h R->WX X E H R->
  D5 (D8 X.prog X.w) X.A (execs sts X.env) (λ_ _=>False) X.xe s
structure JXE (X:Cx)(e:D2)(t:TXD):Prop where
 to: ∀ (E:XK),Rz X E-> ∀ (pins:G0 (G4×Obj)) (s:G3) (σ:St) (H:Hp) (lI:SD) (h:HD) (R:Str->HD->Prop),Inv X pins σ H s->RelS X.K H lI σ->RelH X.K h H->t lI h R->WX X E H R->
  D5 (D8 X.prog X.w) X.A (N5 e X.env) (λ_ _=>False) X.xe s
def xIf (t:TTD)(u:TXD):TXD:=λσ h R=>t σ h λk h'=>k=true/\u σ h' R
def xRz (c:Str):TXD:=λ_ h R=>R c h
abbrev RDx:=G0 D->HD->(Str->HD->Prop)->Prop
def Ds (spr:RDx)(t:TAD):TXD:=λσ h R=>t σ h λds h1=>spr ds h1 R
def Xk (mg:Str->G7 G2)(K:G1)(spr:RDx):Sp:=λvs H _ E=> ∃ds h R,RelDs K H ds vs/\RelH K h H/\spr ds h R/\ ∀c C h' H',Kept H H'->RelH K h' H'->mg c=some (.ref C)->R c h'->E (.ref C) none H'
def bmV:G0 G2:= [.type "ValueError",.type "Exception",.type "BaseException",.type "object"]
theorem Uy {K:Frag}(P:D6)(M:Mod K mg base): ∃loose mb,TopRead P loose mg mb base:=by
 obtain⟨mb,laid,boot⟩:=M.blt;obtain⟨o,es,ep,at_,isd,texts,finds⟩:=id M.glob;refine⟨es.toList.filterMap λe=>match e.key with| .str n _=>some n|_=>none,mb,M.glob,laid,M.nolimit,boot,λx _ out _ _ _=> ?_⟩;rw [<-finds x];cases hit:nsFind es x with
 |none=>rfl
 |some v=>
  refine absurd ?_ out;unfold nsFind findBy at hit;obtain⟨e,hf,_⟩:=E1.mp hit;have isx:e.key.isStr x=true:=Array.find?_some (p:=λ(e:DictEntry)=>e.key.isStr x) hf;have mem:=Array.mem_of_find?_eq_some hf;obtain⟨n,t,ek⟩:=texts e mem;rw [ek] at isx;have nx:n=x:=by simpa [Value.isStr] using isx
  exact A6.mpr ⟨e,by simpa using mem,by rw [ek,nx]⟩
def OwnX (K:G1)(mg:Str->G7 G2)(c:Str):Prop:= ∃C,mg c=some (.ref C)/\nsIn K mainGlobals c=some (some (.ref C))/\excIn K C bmV "ValueError.__new__" =true
theorem OwnX.at {K:Frag}{h:S6}{c:Str}(P:D6)(O:OwnX K mg c)(M:Mod K mg base)(kept: ∀b o,base.get? b=some o->h.get? b=some o): ∃C,mg c=some (.ref C)/\OwnCls c C bmV "ValueError.__new__" mg h:=
 let ⟨C,hm,hn,hx⟩:=O
 let ⟨_,_,T⟩:=Uy P M
 ⟨C,hm,(own_of_in M.kin T hn hx).keeps kept⟩
section
variable {X:Cx}{c:D2}{e:D2}{es:G0 D2}{st:N2}{a b zu:G0 N2}{t:TSD}{tt:TTD}{u:TXD}{ta:TAD}{pos p:Pos}
theorem Mv (hc:JT X c tt)(ha:JX X a u):JX X (.If c a b pos::zu) (xIf tt u):=⟨λE Z pins s σ H lI h R I rs rh ht w=>by
 refine O0 (S3 (wpAny_If (Q:=λ_ _=>False) (thn (hc.to pins s σ H (λk H'=>k=true/\ ∃h',Kept H H'/\RelS X.K H' lI σ/\RelH X.K h' H'/\u lI h' R) I
  ⟨lI,h,_,rs,rh,ht,λk h' H' kp rh' q=>⟨q.1,h',kp,rs.mono kp,rh',q.2⟩⟩) λd s1 q=> ?_)) (λ_ _ z=>z.elim) λ_ _ z=>z)
 obtain⟨H',I',rfl,h',kp,rs',rh',q⟩:=q;exact ha.to E Z pins s1 σ H' lI h' R I' rs' rh' q (w.mono kp)⟩
theorem QH (he:JXE X e u)(hs:A2 e none pos.line X.env=pure false:=by rfl):JX X (.Expr e pos::zu) u:=⟨λE Z pins s σ H lI h R I rs rh ht w=>
 O0 (fO (S3 (he.to E Z pins s σ H lI h R I rs rh ht w) (λ_ _ z=>z.elim) λ_ _ z=>z) I.quiet hs)⟩
theorem Uz {x:Str}{np cpos p2:Pos}{m:Str}{j:P5}(hg:Gl X x)(O:OwnX X.K X.mg x)(hcalm:X.calm=true)(hd:(x==("__debug__" :Str))=false:=by decide)
 (he:G6 [Expr.Constant (.str m) j p2] X.env=(false,N5 (.Constant (.str m) j p2) X.env)::G6 [] X.env:=by rfl):
 JX X (.Raise (some (.Call (.Name x np) [.Constant (.str m) j p2] [] cpos)) none pos::zu) (xRz x):=⟨λE Z pins s σ H lI h R I rs rh ht w=>by
 obtain⟨C,hm,own⟩:=O.at X.prog I.mod I.bk;refine O0 (S3 (?_:D5 _ _ _ (λ_ _=>False) _ _) (λ_ _ z=>z.elim) λ_ _ z=>z);obtain⟨_,_,_,_,_,_,_,_,_,_,_,_,_,_,_,_,_,isC,laid,noInit,tail⟩:=own.obj;refine' wpAny_Raise_call_subT gB (tail.hasType PySem.F.excBase_ValueError.hasBase) (I.ok.hd hcalm) (by rw [he];rfl) noInit (ye I hg hm ⟨rfl,?_⟩ hd)
 rotate_right 1
 rw [he];refine cI (Y4 (gP (k:=j) (pos:=p2) (aK ⟨rfl,(by show 1<=sizeLine;decide),isC,laid,tail,λh' e hme=> ?_⟩)));refine Z.xe _ _ (WP (s:= {s with toks:=s.toks+1}) (I.tok _) Z hme λh2 un hok fl=> ?_);exact⟨e,C,H,rfl,I.os,I.bare,un,hok,fl,w x C h H (.refl H) rh hm ht⟩⟩
theorem QJ {k:P5}{f:G4}{fd:D4}{ps:G0 Str}{spr:RDx}{x:Str}(F:FnOk X.prog X.w X.K X.mg X.base (CXR X.prog X.w) k f fd ps (Xk X.mg X.K spr))(hr:Room k X.A)(hg:Gl X x)(hm:X.mg x=some (.ref f))(hk:N8 X.K (.ref f)=true)(hb:Binds X.K fd ps [])
 (ha:JA X (e::es) ta)(hdb:(x==("__debug__" :Str))=false:=by decide)(he:G6 (e::es) X.env=(false,N5 e X.env)::G6 es X.env:=by rfl)(hpl:(N6 pos (G6 es X.env)).any (·.1)=false:=by rfl):
 JXE X (.Call (.Name x p) (e::es) [] pos) (Ds spr ta):=⟨λE Z pins s σ H lI h R I rs rh ht w=>by
 refine thn (Ys F hr hg hm hk hb .nil (Mu Z) ha.to hdb he hpl pins s σ H (λ_ _=>False) I
  ⟨lI,h,_,rs,rh,ht,λds vs h' H' kp rh' r q=>by show Xk X.mg X.K spr (vs++ []) H' (λ_ _=>False) E;rw [W5];exact⟨ds,h',R,r,rh',q,λc C h2 H2 k2=>w c C h2 H2 (kp.trans k2)⟩⟩) λ_ _ ⟨_,_,_,_,z⟩=>z⟩
end
section
variable {P:D6}{w:S7}{K:G1}{mg:Str->G7 G2}{base:S6}
theorem QK {N:G0 Str}{qual:Str}{scope:N4}{f:G4}{cd:G2}{A:R8}{outer:G0 Env}{s:G3}{H:Hp}{E:XK}:Rz (vx (CXR P w) P w K mg base N qual scope f cd A outer s H E) E:=⟨⟨rfl,rfl,rfl⟩,λ_ _ h=>h⟩
theorem Dt {N:G0 Str}{q:Str}{scope:N4}{f:G4}{cd:G2}{cl:G0 (Str×G4)}{A:R8}{outer:G0 Env}{s:G3}{H:Hp}{E:XK}:Rz (cxL (CXR P w) P w K mg base N q scope f cd cl A outer s H E) E:=⟨⟨rfl,rfl,rfl⟩,λ_ _ h=>h⟩
theorem Fun.okX {x qual:Str}{st:N2}{f:G4}{fd:D4}{N ps:G0 Str}{k:P5}{spr:RDx}(F:Fun K x qual st f fd)(S:FnScope N ps (ja st))(len: ∀ds h R,spr ds h R->ds.length=ps.length)
 (tb:TXD)(hbody: ∀ (cdv:G2) (A:R8) (outer:G0 Env) (s:G3) (H:Hp) (E:XK),Room k (A.deeper (B1 qual (ja st) s.heap.objs.size f cdv))->JX (vx (CXR P w) P w K mg base N qual (ja st) f cdv A outer s H E) (jB st) tb)
 (read: ∀ds h R,spr ds h R->tb (jC N ds) h R):FnOk P w K mg base (CXR P w) (k+1) f fd ps (Xk mg K spr):=by
 obtain⟨oc,od,kV,doc,pm,an,cdv,ct,osl,rfl,lk,hcd⟩:=F.ex;refine XI lk hcd S (λvs H Q E h=> ?_) λA outer s H vs Q E hr hsp=> ?_
 ·obtain⟨ds,h,R,r,rh,q,p⟩:=h;rw [<-r.length];exact len _ _ _ q
 ·obtain⟨ds,h,R,r,rh,q,p⟩:=hsp;refine⟨λ_ σ H'=>σ=za N vs/\H'=H,λpins s' σ H' D I ⟨e1,e2⟩=> ?_,rfl,rfl⟩;subst e1;subst e2;exact S3 ((hbody cdv A outer s H' E hr).to E QK pins s' _ H' (jC N ds) h R I (wt r) rh (read ds h R q) p) (λ_ _ z=>z.elim) λ_ _ z=>z
end
def Jk (P:D6)(w:S7)(K:G1)(mg:Str->G7 G2)(base:S6)(n:P5)(x:Str)(ps:G0 Str)(spr:RDx):Prop:=
 ∃ (g:G4) (gd:D4),FnOk P w K mg base (CXR P w) n g gd ps (Xk mg K spr)/\Binds K gd ps []/\N8 K (.ref g)=true/\mg x=some (.ref g)
end L2
namespace L2
open PySem PySem.Spec PyProof.Rows
structure RoomU (k:P5)(A:R8):Prop where
 dp:A.depth+3*k+5<recursionLimit
 un:A.units+16*k+200<cLine
 gd:A.guards=some []
variable {k:P5}{A:R8}
theorem Room.u (r:Room k A):RoomU k A:=⟨r.dp,r.un,r.gd⟩
theorem RoomU.deeper (r:RoomU (k+1) A)(env:Env):RoomU k (A.deeper env):=
 ⟨by have:=r.dp;show A.depth+1+3*k+5<_;omega,by have:=r.un;show A.units+3+16*k+200<_;omega,r.gd⟩
theorem RoomU.depth (r:RoomU k A):A.depth<recursionLimit:=by have:=r.dp;omega
theorem RoomU.units (r:RoomU k A):A.units+64<cLine:=by have:=r.un;omega
structure FnOkU (P:D6)(w:S7)(K:G1)(mg:Str->G7 G2)(base:S6)(CX:CXT)(k:P5)(f:G4)(fd:D4)(ps:G0 Str)(sp:Sp):Prop where
 len: ∀vs H Q E,sp vs H Q E->vs.length=ps.length
 run: ∀ (A:R8) (outer:G0 Env) (s:G3) (H:Hp) (args:Args) (us:G0 G2) (vs:G0 V) (Q:VK) (E:XK),RoomU k A->Env0 P w K mg base A outer s H->cS s fd args (ps.zip us)->Vals vs us->sp vs H Q E->
  K8 (D8 P w) A (.call (.ref f) args) (CR CX outer P w H s Q E) s
section
variable {X:Cx}{CX:CXT}{k:P5}{f C:G4}{fd:D4}{ps:G0 Str}{sp:Sp}{dvs:G0 V}{ds:G0 G2}{E:XK}{x m:Str}{p pos apos:Pos}{e o:D2}{es:G0 D2}{ta:TE}{t:TA}
theorem QL {pins:G0 (G4×Obj)}{σ:St}{H:Hp}{s:G3}{Q:VK}{us:G0 G2}{vs:G0 V}(F:FnOkU X.prog X.w X.K X.mg X.base CX k f fd ps sp)(hr:RoomU k X.A)(hb:Binds X.K fd ps ds)(hd:Vals dvs ds)(hx:yG CX X E)
 (I:Inv X pins σ H s)(r:Vals vs us)(h:sp (vs++dvs) H Q E):D5 (D8 X.prog X.w) X.A (call (.ref f) us) (EP X pins σ Q) X.xe s:=by
 have r2:Vals (vs++dvs) (us++ds):=r.append hd;have hl:(us++ds).length=ps.length:=by rw [<-r2.length];exact F.len _ _ _ _ h
 refine Y5 (U4 (F.run X.A X.stack s H ⟨us,[]⟩ (us++ds) (vs++dvs) Q E hr I.env0 (hb s us I.kIn hl) r2 h) λr s' hq=> ?_);cases r with
 |error e=>exact hx pins σ H s e s' I hq
 |ok fl=>
  cases fl with
  |ret u=>exact I.after hq
  |next=>exact False.elim hq
  |brk=>exact False.elim hq
  |cont=>exact False.elim hq
theorem UA (F:FnOkU X.prog X.w X.K X.mg X.base CX k f fd ps sp)(hr:RoomU k X.A)(hg:Gl X x)(hm:X.mg x=some (.ref f))(hk:N8 X.K (.ref f)=true)(hb:Binds X.K fd ps ds)(hd:Vals dvs ds)(hx:yG CX X E)
 (ha:PA X (e::es) t)(hdb:(x==("__debug__" :Str))=false:=by decide)(he:G6 (e::es) X.env=(false,N5 e X.env)::G6 es X.env:=by rfl)(hpl:(N6 pos (G6 es X.env)).any (·.1)=false:=by rfl):
 PE X (.Call (.Name x p) (e::es) [] pos) (XH sp dvs E t):=by
 intro pins s σ H Q I h;refine O1 (ye I hg hm ?_ hdb);refine Y6 (h₀:=X.base) I.ok.mod.kin hk (thn (ha pos pins s σ H _ I h) λus s1 ⟨vs,H1,I1,r,q⟩=>⟨I1.kIn,?_⟩) he hpl;exact QL F hr hb hd hx I1 r q
end
def Ze (CX:CXT)(P:D6)(w:S7)(K:G1)(mg:Str->G7 G2)(base:S6)(N:G0 Str)(qual:Str)(scope:N4)(f:G4)(cd:G2)(A:R8)(outer:G0 Env)(s:G3)(H:Hp)(E:XK):Cx where
 prog:=P
 w:=w
 K:=K
 mg:=mg
 base:=base
 A:=A.deeper (B1 qual scope s.heap.objs.size f cd)
 N:=N
 s₀:=s
 H₀:=H
 env:=B1 qual scope s.heap.objs.size f cd
 outer:=outer
 stack:=B1 qual scope s.heap.objs.size f cd::outer
 ex:= []
 calm:=false
 fn:=λ_=>true
 pn:= []
 xe:=λe s'=>D5 (D8 P w) (A.deeper (B1 qual scope s.heap.objs.size f cd)) (dO (B1 qual scope s.heap.objs.size f cd) e) (λ_ s''=>CX outer H s E e s'') (λe' s''=>CX outer H s E e' s'') s'
variable {base:S6}{qual:Str}{scope:N4}
theorem WR {CX:CXT}{P:D6}{w:S7}{K:G1}{mg:Str->G7 G2}{N ps:G0 Str}{f:G4}{cd:G2}{outer:G0 Env}{s s1:G3}{H:Hp}{E:XK}{us:G0 G2}{vs:G0 V}
 (S:FnScope N ps scope)(e0:Env0 P w K mg base A outer s H)(hl:vs.length=ps.length)(r:Vals vs us)
 (x:InCallC s s.heap.objs.size (e9 (B1 qual scope s.heap.objs.size f cd).kindOf (ps.zip us) λ_=>none) (B6 (s.heap.objs.size+1) scope.names []) (fA (B1 qual scope s.heap.objs.size f cd).kindOf (ps.zip us) λ_=>none) s1):
 Inv (Ze CX P w K mg base N qual scope f cd A outer s H E) [] (za N vs) H s1:=by
 have hpl:ps.length<=N.length:=by have:=congrArg cG S.pre;rw [C6] at this;omega
 obtain⟨h1,tk,rfl,hk⟩:=x.done;have noA: ∀b:G4,b ∉ (Ze CX P w K mg base N qual scope f cd A outer s H E).ex:=λb z=>absurd (show b∈([]:G0 G4) from z) (by simp)
 refine⟨⟨e0.mod,S.kind,rfl,rfl,G8 _,λy z c h1 h2=> ?_,λy hy=> ?_,λy c _ h=> ?_,λz=>(by cases z),W1 e0.frames,.inr ⟨rfl,rfl⟩,λb z=>absurd z (noA b),e0.bs,e0.bsz,λb _ _=>noA b,λb z=>absurd z (noA b),e0.funs,e0.frf⟩,
  rfl,e0.bare,Un.kept hk,⟨_,x.toInCall.ns,λi y v h1 h2 h3=> ?_⟩,λy c h=>⟨_,x.cell y c h⟩,e0.hok.fresh (G8 _),λy c h=> ?_,λp hp=>absurd (show p∈([]:G0 (G4×Obj)) from hp) (by simp),e0.hok.kept hk,?_⟩
 ·exact dP x.apart (M8 h1) (M8 h2)
 ·have hy:scope.names.lookup y=some .cell\/scope.names.lookup y=some .free:=hy;rcases hy with hy|hy
  ·exact wq hy
  ·exact absurd rfl (S.nofree _ (M8 hy))
 ·exact N3 (x.above y c (M8 h))
 ·have hi:i<vs.length:=by
   unfold za at h2
   by_cases hi:i<vs.length
   ·exact hi
   ·rw [F0 (by simpa using hi)] at h2;rw [Q5] at h2;split at h2<;>cases h2
  have ha:vs[i]? =some v:=by
   unfold za at h2;rw [B7 (by simpa using hi),R6] at h2;cases e:vs[i]? with
   |none=>rw [e] at h2;cases h2
   |some a=>rw [e] at h2;cases h2;rfl
  obtain⟨u,hu,rv⟩:=r.get ha;have hp:ps[i]? =some y:=by
   rw [<-S.pre,K4 (by omega)];exact h1
  have ndP:ps.Nodup:=by rw [<-S.pre];exact S.nd.sublist (dQ _ _)
  refine⟨u,rv,?_⟩;rcases S.par y (M5 hp) with k|k
  ·exact .inl ⟨k,yH ndP hp hu k⟩
  ·obtain⟨c,e⟩:=wq (n:=s.heap.objs.size+1) k;refine .inr ⟨.inl k,c,e,?_⟩;have q:=x.cell y c e;rw [yI ndP hp hu (by show scope.names.lookup y≠_;rw [k];decide)] at q;exact q
 ·exact e0.hok.fresh (N3 (x.above y c (M8 h)))
 ·unfold za;show _=N.length;rw [T3,G9,bZ];omega
theorem Du {CX:CXT}{P:D6}{w:S7}{K:G1}{mg:Str->G7 G2}{f:G4}{name:Str}{params:cT}{body:G0 N2}{dV kV doc pm cdv ct oc:G2}{an od:G7 G4}{osl:F3 (G7 G2)}{N ps:G0 Str}{sp:Sp}(lk:K.lookup f=some ⟨oc,od,.func (L4 name qual params body scope dV kV doc pm an cdv ct),osl⟩)(hcd:U5 K cdv qual=true)(S:FnScope N ps scope)
 (len: ∀vs H Q E,sp vs H Q E->vs.length=ps.length)
 (hbody: ∀ (A:R8) (outer:G0 Env) (s:G3) (H:Hp) (vs:G0 V) (Q:VK) (E:XK),RoomU k (A.deeper (B1 qual scope s.heap.objs.size f cdv))->sp vs H Q E->
  ∃t,PSs (Ze CX P w K mg base N qual scope f cdv A outer s H E) body t/\t {nx:=λ_ H'=>Q .non H',rt:=Q} (za N vs) H):
 FnOkU P w K mg base CX (k+1) f (L4 name qual params body scope dV kV doc pm an cdv ct) ps sp:=by
 refine⟨len,λA outer s H args us vs Q E hr e0 hb r hsp=> ?_⟩;have hl:=len _ _ _ _ hsp;have KX:K.In s.heap:=e0.mod.kin.keeps λb o e=>(e0.bs b o e).1
 have lim:s.heap.NoLimit:=e0.mod.nolimit.keeps λb o e=>(e0.bs b o e).1
 have hkind: ∀y∈ps.zip us,scope.names.lookup y.1=some .local\/(scope.names.lookup y.1=some .cell/\((B6 (s.heap.objs.size+1) scope.names []).lookup y.1).isSome=true):=λ⟨n,v⟩ hy=>by
  rcases S.par n (K9 hy).1 with q|q
  ·exact .inl q
  ·exact .inr ⟨q,A7 _ _ _ (.inl q)⟩
 refine V6 hr.depth (KX _ _ lk) rfl S.co S.gen rfl (Y7 KX hcd) (hb _ _ _ _ ?_);refine I0 S.kind hkind λenv he s1 x=> ?_
 subst he;refine⟨lim.keeps x.toInCall.keep,dR ?_⟩;obtain⟨t,ht,hq⟩:=hbody A outer s H vs Q E (hr.deeper _) hsp;have I:Inv (Ze CX P w K mg base N qual scope f cdv A outer s H E) [] (za N vs) H s1:=WR S e0 hl r x;refine S3 (ht [] s1 (za N vs) H _ I hq) (λfl s' hs=> ?_) λe s' hs=>hs
 have fin: ∀ {lH:St} {H':Hp} {v:V} {u:G2},Inv (Ze CX P w K mg base N qual scope f cdv A outer s H E) [] lH H' s'->RelV v u->Q v H'->CE outer P w H s Q u s':=
  λ{lH H' v u} J rv q=>⟨v,H',J.os,J.bare,J.base,J.hok,rv,q⟩
 cases fl with
 |ret u=>
  obtain⟨v,lH,H',J,rv,q⟩:=hs;exact fin J rv q
 |next=>
  obtain⟨lH,H',J,q⟩:=hs;exact fin (v:=V.non) (u:=bF) J rfl q
 |brk=>
  obtain⟨_,_,_,q⟩:=hs;exact False.elim q
 |cont=>
  obtain⟨_,_,_,q⟩:=hs;exact False.elim q
section
variable {P:D6}{w:S7}{K:G1}{mg:Str->G7 G2}{base:S6}
variable {qual:Str}
theorem Fun.okU {x:Str}{st:N2}{f:G4}{fd:D4}{N ps:G0 Str}{k:P5}{sp:Sp}(F:Fun K x qual st f fd)(S:FnScope N ps (ja st))(len: ∀vs H Q E,sp vs H Q E->vs.length=ps.length)
 (hbody: ∀ (cdv:G2) (A:R8) (outer:G0 Env) (s:G3) (H:Hp) (vs:G0 V) (Q:VK) (E:XK),RoomU k (A.deeper (B1 qual (ja st) s.heap.objs.size f cdv))->sp vs H Q E->
  ∃t,PSs (Ze CX0 P w K mg base N qual (ja st) f cdv A outer s H E).nox (jB st) t/\t {nx:=λ_ H'=>Q .non H',rt:=Q} (za N vs) H):FnOkU P w K mg base CX0 (k+1) f fd ps sp:=by
 obtain⟨oc,od,kV,doc,pm,an,cdv,ct,osl,rfl,lk,hcd⟩:=F.ex;refine Du lk hcd S len λA outer s H vs Q E hr hsp=> ?_
 obtain⟨t,h,q⟩:=hbody cdv A outer s H vs Q E hr hsp;exact⟨t,h.nox,q⟩
theorem Fun.okDU {x:Str}{st:N2}{f:G4}{fd:D4}{N ps:G0 Str}{k:P5}{spd:RDn}(F:Fun K x qual st f fd)(S:FnScope N ps (ja st))(len: ∀ds h Q,spd ds h Q->ds.length=ps.length)
 (tb:TSD)(hbody: ∀ (cdv:G2) (A:R8) (outer:G0 Env) (s:G3) (H:Hp) (E:XK),RoomU k (A.deeper (B1 qual (ja st) s.heap.objs.size f cdv))->QSs (Ze CX0 P w K mg base N qual (ja st) f cdv A outer s H E).nox (jB st) tb)
 (read: ∀ds h Q,spd ds h Q->tb (vA Q) (jC N ds) h):FnOkU P w K mg base CX0 (k+1) f fd ps (LSp K spd):=by
 refine F.okU S (λvs H Q E h=> ?_) (λcdv A outer s H vs Q E hr h=> ?_)
 ·obtain⟨ds,h,Qd,r,rh,q,p⟩:=h;rw [<-r.length];exact len _ _ _ q
 ·obtain⟨ds,h,Qd,r,rh,q,p⟩:=h;refine⟨_,hbody cdv A outer s H E hr,jC N ds,h,vA Qd,wt r,rh,read ds h Qd q,λlL h' lH H' k rs' rh' ⟨h2,sb,q'⟩=>p .non .non h2 H' k (rh'.sub sb) rfl q',λd v h' H' k rh' r' ⟨h2,sb,q'⟩=>p d v h2 H' k (rh'.sub sb) r' q',λ_ _ _ _ _ _ _ z=>z.elim,λ_ _ _ _ _ _ _ z=>z.elim⟩
theorem Fun.okJU {x:Str}{st:N2}{f:G4}{fd:D4}{N ps:G0 Str}{k:P5}{spd:RDn}(F:Fun K x qual st f fd)(S:FnScope N ps (ja st))(len: ∀ds h Q,spd ds h Q->ds.length=ps.length)
 (tb:TSD)(hbody: ∀ (cdv:G2) (A:R8) (outer:G0 Env) (s:G3) (H:Hp) (E:XK),RoomU k (A.deeper (B1 qual (ja st) s.heap.objs.size f cdv))->JSs (Ze CX0 P w K mg base N qual (ja st) f cdv A outer s H E).nox (jB st) tb)
 (read: ∀ds h Q,spd ds h Q->tb (vA Q) (jC N ds) h):FnOkU P w K mg base CX0 (k+1) f fd ps (LSp K spd):=F.okDU S len tb (λcdv A outer s H E hr=>(hbody cdv A outer s H E hr).to) read
end
structure FnOkS (P:D6)(w:S7)(K:G1)(mg:Str->G7 G2)(base:S6)(CX:CXT)(k:P5)(f:G4)(fd:D4)(ps:G0 Str)(sp:G3->Sp):Prop where
 len: ∀s vs H Q E,sp s vs H Q E->vs.length=ps.length
 run: ∀ (A:R8) (outer:G0 Env) (s:G3) (H:Hp) (args:Args) (us:G0 G2) (vs:G0 V) (Q:VK) (E:XK),Room k A->Env0 P w K mg base A outer s H->cS s fd args (ps.zip us)->Vals vs us->sp s vs H Q E->
  K8 (D8 P w) A (.call (.ref f) args) (CR CX outer P w H s Q E) s
section
variable {X:Cx}{CX:CXT}{k:P5}{f C:G4}{fd:D4}{ps:G0 Str}{sp:Sp}{dvs:G0 V}{ds:G0 G2}{E:XK}{x m:Str}{p pos apos:Pos}{e o:D2}{es:G0 D2}{ta:TE}{t:TA}
theorem QM {pins:G0 (G4×Obj)}{σ:St}{H:Hp}{s:G3}{Q:VK}{us:G0 G2}{vs:G0 V}{sp:G3->Sp}(F:FnOkS X.prog X.w X.K X.mg X.base CX k f fd ps sp)(hr:Room k X.A)(hb:Binds X.K fd ps ds)(hd:Vals dvs ds)(hx:yG CX X E)
 (I:Inv X pins σ H s)(r:Vals vs us)(h:sp s (vs++dvs) H Q E):D5 (D8 X.prog X.w) X.A (call (.ref f) us) (EP X pins σ Q) X.xe s:=by
 have r2:Vals (vs++dvs) (us++ds):=r.append hd;have hl:(us++ds).length=ps.length:=by rw [<-r2.length];exact F.len _ _ _ _ _ h
 refine Y5 (U4 (F.run X.A X.stack s H ⟨us,[]⟩ (us++ds) (vs++dvs) Q E hr I.env0 (hb s us I.kIn hl) r2 h) λr s' hq=> ?_);cases r with
 |error e=>exact hx pins σ H s e s' I hq
 |ok fl=>
  cases fl with
  |ret u=>exact I.after hq
  |next=>exact False.elim hq
  |brk=>exact False.elim hq
  |cont=>exact False.elim hq
end
theorem Dv {CX:CXT}{P:D6}{w:S7}{K:G1}{mg:Str->G7 G2}{f:G4}{name:Str}{params:cT}{body:G0 N2}{dV kV doc pm cdv ct oc:G2}{an od:G7 G4}{osl:F3 (G7 G2)}{N ps:G0 Str}{sp:G3->Sp}(lk:K.lookup f=some ⟨oc,od,.func (L4 name qual params body scope dV kV doc pm an cdv ct),osl⟩)(hcd:U5 K cdv qual=true)(S:FnScope N ps scope)
 (len: ∀s vs H Q E,sp s vs H Q E->vs.length=ps.length)
 (hbody: ∀ (A:R8) (outer:G0 Env) (s:G3) (H:Hp) (vs:G0 V) (Q:VK) (E:XK),Room k (A.deeper (B1 qual scope s.heap.objs.size f cdv))->sp s vs H Q E->
  ∀s1,Inv (vx CX P w K mg base N qual scope f cdv A outer s H E) [] (za N vs) H s1->D5 (D8 P w) (A.deeper (B1 qual scope s.heap.objs.size f cdv)) (execs body (B1 qual scope s.heap.objs.size f cdv)) (SP (vx CX P w K mg base N qual scope f cdv A outer s H E) [] {nx:=λ_ H'=>Q .non H',rt:=Q}) (vx CX P w K mg base N qual scope f cdv A outer s H E).xe s1):
 FnOkS P w K mg base CX (k+1) f (L4 name qual params body scope dV kV doc pm an cdv ct) ps sp:=by
 refine⟨len,λA outer s H args us vs Q E hr e0 hb r hsp=> ?_⟩;have hl:=len _ _ _ _ _ hsp;have KX:K.In s.heap:=e0.mod.kin.keeps λb o e=>(e0.bs b o e).1
 have lim:s.heap.NoLimit:=e0.mod.nolimit.keeps λb o e=>(e0.bs b o e).1
 have hkind: ∀y∈ps.zip us,scope.names.lookup y.1=some .local\/(scope.names.lookup y.1=some .cell/\((B6 (s.heap.objs.size+1) scope.names []).lookup y.1).isSome=true):=λ⟨n,v⟩ hy=>by
  rcases S.par n (K9 hy).1 with q|q
  ·exact .inl q
  ·exact .inr ⟨q,A7 _ _ _ (.inl q)⟩
 refine V6 hr.depth (KX _ _ lk) rfl S.co S.gen rfl (Y7 KX hcd) (hb _ _ _ _ ?_);refine I0 S.kind hkind λenv he s1 x=> ?_
 subst he;refine⟨lim.keeps x.toInCall.keep,dR ?_⟩;have ht:=hbody A outer s H vs Q E (hr.deeper _) hsp;have I:Inv (vx CX P w K mg base N qual scope f cdv A outer s H E) [] (za N vs) H s1:=JJ S hr.hd e0 hl r x;refine S3 (ht s1 I) (λfl s' hs=> ?_) λe s' hs=>hs
 have fin: ∀ {lH:St} {H':Hp} {v:V} {u:G2},Inv (vx CX P w K mg base N qual scope f cdv A outer s H E) [] lH H' s'->RelV v u->Q v H'->CE outer P w H s Q u s':=
  λ{lH H' v u} J rv q=>⟨v,H',J.os,J.bare,J.base,J.hok,rv,q⟩
 cases fl with
 |ret u=>
  obtain⟨v,lH,H',J,rv,q⟩:=hs;exact fin J rv q
 |next=>
  obtain⟨lH,H',J,q⟩:=hs;exact fin (v:=V.non) (u:=bF) J rfl q
 |brk=>
  obtain⟨_,_,_,q⟩:=hs;exact False.elim q
 |cont=>
  obtain⟨_,_,_,q⟩:=hs;exact False.elim q
section
variable {X:Cx}{k:P5}{f:G4}{fd:D4}{ps:G0 Str}{spd:RDn}{x:Str}{p pos:Pos}{e:D2}{es:G0 D2}{t:TAD}
theorem Dw (F:FnOkU X.prog X.w X.K X.mg X.base CX0 k f fd ps (LSp X.K spd))(hr:RoomU k X.A)(hg:Gl X x)(hm:X.mg x=some (.ref f))(hk:N8 X.K (.ref f)=true)(hb:Binds X.K fd ps [])
 (ha:JA X (e::es) t)(hdb:(x==("__debug__" :Str))=false:=by decide)(he:G6 (e::es) X.env=(false,N5 e X.env)::G6 es X.env:=by rfl)(hpl:(N6 pos (G6 es X.env)).any (·.1)=false:=by rfl):
 JE X (.Call (.Name x p) (e::es) [] pos) (dCB spd t):=⟨(UA F hr hg hm hk hb .nil XQ ha.to hdb he hpl).imp YF⟩
end
def Vj (P:D6)(w:S7)(K:G1)(mg:Str->G7 G2)(base:S6)(n:P5)(x:Str)(ps:G0 Str)(sp:RDn):Prop:=
 ∃ (g:G4) (gd:D4),FnOkU P w K mg base CX0 n g gd ps (LSp K sp)/\Binds K gd ps []/\N8 K (.ref g)=true/\mg x=some (.ref g)
end L2
namespace L2
open PySem PySem.Spec PyProof.Rows PySem.W PySem.Calls PySem.Builtin PySem.Builtin.ObjectAttr PySem.Builtin.Getset_descriptor
section
variable {prog:D6}{w:S7}{A:R8}{E:G2->G3->Prop}{s:G3}{K:Frag}{x D:G4}
structure ExcK (K:Frag)(D:G4):Prop where
 cls:(clsIn K D).isSome=true
 ga:findIn K (.ref D) "__getattribute__" =some (some (.builtin "BaseException.__getattribute__"))
 hk:findIn K (.ref D) "__getattr__" =some none
 ca:findIn K (.ref D) "__class__" =some (some (.builtin "object.__class__"))
 gt:specialIn K (.builtin "object.__class__") "__get__" =some (some (.builtin "getset_descriptor.__get__"))
 tk:takesIn K (.builtin "object.__class__")=some true
 ob:mroIn K D (.type "object")=some true
 be:mroIn K D (.type "BaseException")=some true
def ExcAt (x D:G4)(h:S6):Prop:= ∃o,h.get? x=some o/\o.cls= .ref D
theorem ExcAt.type {M:bV}{h:S6}(I:ExcAt x D h):Looks M h (typeOf (.ref x)) (.ref D):=let ⟨o,h1,h2⟩:=I;h2 ▸ (iY h1).andThen .now
theorem WS {tp:G2}{R:h9->G3->Prop}(X:K.In s.heap)(I:ExcAt x D s.heap)(ob:mroIn K D (.type "object")=some true)
 (h:R (.ok (.ret (.ref D))) s):K8 (D8 prog w) A (.call (.builtin "getset_descriptor.__get__") ⟨[.builtin "object.__class__",.ref x,tp],[]⟩) R s:=by
 obtain⟨hp,g,dr,t,os⟩:=s;have known:Looks (D8 prog w) hp (j7 (.ref x) (.type "object")) true:=I.type.andThen (looks_mroIn X ob);have passed:Looks (D8 prog w) hp (descrCheckInstance (.builtin "object.__class__") (.ref x)) ():=
  Looks.andThen (a:=(("__class__" :Str),dB "object")) (dA (congrArg (λp:F7×F7=>(pure (D7 p.2,dB p.1):Sem (Str×G2))) KF.owner_class)) (known.andThen .now)
 have shown:Looks (D8 prog w) hp (shownTypeOf (.ref x)) (.ref D):=I.type.andThen .now;have asked:=KF.slot_gs.check (D8 prog w) A.in1 (λe s'=>R (.error e) s') ⟨hp,g,dr,t,os⟩ (.builtin "object.__class__") [.ref x,tp] [];refine cM KF.slot_gs.plain KF.entry_gs (asked _ KF.type_class (KF.args_gs _ _ _) ?_);show D5 _ _ (descrGetArgs _ >>= _) _ _ _;rw [dga_obj];refine wpAny_bind (P1 (wpAny_bind (passed.at (P1 ⟨Code.quiet_builtin _ (by decide +kernel),codeAny_builtin KF.entry_class ?_⟩))));exact wpAny_bind (shown.at (P1 h))
theorem UB {M:bV}{h:S6}(X:K.In h)(Z:ExcK K D):Looks M h (find (.ref x) (.ref D) "__class__") (.bind (.builtin "getset_descriptor.__get__") (.builtin "object.__class__")):=by
 have L1:=looks_findIn (M:=M) X Z.ca;have L2:Looks M h (getOf (some (.builtin "object.__class__"))) (some (.builtin "getset_descriptor.__get__")):=looks_specialIn X Z.gt;have L3:=looks_takesIn (M:=M) X Z.tk;exact L1.andThen (L2.andThen ((show Looks M h (dataDescriptor? (some (.builtin "object.__class__")) (some (.builtin "getset_descriptor.__get__"))) (some (.builtin "getset_descriptor.__get__",.builtin "object.__class__")) from L3.andThen .now).andThen (Looks.tag .now)))
theorem QN {M:bV}{h:S6}(X:K.In h)(I:ExcAt x D h)(Z:ExcK K D)(n:G2):Looks M h (eY "BaseException.__getattribute__" ⟨[.ref x,n],[]⟩) ():=by
 have known:Looks M h (j7 (.ref x) (.type "BaseException")) true:=I.type.andThen (looks_mroIn X Z.be);have fits:=iZ (.ref x) n;unfold eY;rw [show builtinKind "BaseException.__getattribute__" =some .slot by decide +kernel,show splitId "BaseException.__getattribute__" =some ("BaseException","__getattribute__") by decide +kernel];exact known.andThen (dA fits)
theorem vC {tk:Tok}{R:h9->G3->Prop}(X:K.In s.heap)(I:ExcAt x D s.heap)(Z:ExcK K D)(h:R (.ok (.ret (.ref D))) s):
 K8 (D8 prog w) A (.call (.builtin "BaseException.__getattribute__") ⟨[.ref x,.str "__class__" tk],[]⟩) R s:=
 cM PySem.F.attr_ValueError.ga.plain iI (Z8 (QN X I Z _) (wpAny_bind (P1 (wpAny_bind (P1 (wpAny_bind (Z8 I.type (wpAny_bind (Z8 (UB X Z) (wpAny_bind (L8 (Y5 (WS X I Z.ob (P1 h))))))))))))))
theorem WT {Q:G7 G2->G3->Prop}(X:K.In s.heap)(I:ExcAt x D s.heap)(Z:ExcK K D)(h:Q (some (.ref D)) {s with toks:=s.toks+1}):D5 (D8 prog w) A (getAttr? (.ref x) "__class__") Q E s:=by
 have byReader:=PySem.F.attr_ValueError.ga.bind (.ref x);have asked: ∀ {A':R8} {P:G2->G3->Prop} {E':G2->G3->Prop},P (.ref D) {s with toks:=s.toks+1}->D5 (D8 prog w) A' (gC (.builtin "BaseException.__getattribute__") (.ref x) (.str "__class__" s.toks)) P E' {s with toks:=s.toks+1}:=λp=>by
  unfold gC;rw [byReader];exact wpAny_bind (P1 (Y5 (vC (s:= {s with toks:=s.toks+1}) X I Z p)))
 have own: ∀ {A':R8} {P:G2->G3->Prop} {E':G2->G3->Prop},P (.ref D) {s with toks:=s.toks+1}->D5 (D8 prog w) A' (getAttrByItsOwn (.ref x) (.str "__class__" s.toks) (.ref D) (.builtin "BaseException.__getattribute__") false false) P E' {s with toks:=s.toks+1}:=λp=>
  wpAny_bind (Z8 (s:= {s with toks:=s.toks+1}) (looks_findIn X Z.hk) (wpAny_bind (gQ (L8 (asked (P1 p))))))
 exact wpAny_bind (wpAny_mkText (wpAny_bind (gQ (L8 (wpAny_bind (Z8 (s:= {s with toks:=s.toks+1}) I.type (wpAny_bind (Z8 (s:= {s with toks:=s.toks+1}) (looks_findIn X Z.ga) (own (P1 h))))))))))
theorem UC (Z:ExcK K D):KitX K (.ref x) (.ref D) (ExcAt x D):=by
 have isClass: ∀ {h:S6},K.In h-> ∃o c,h.get? D=some o/\o.data= .cls c:=λX=>by
  obtain⟨c,hc⟩:=B8.mp Z.cls;revert hc;unfold clsIn;split
  ·rename_i ho;exact λ_=>⟨_,_,X _ _ ho,rfl⟩
  ·exact λz=>nomatch z
 refine⟨λ_ _ _ I=>I.type,λM h X _=> ?_,λh tp dd its n sl X htp=> ?_,λX I k=>WT X I Z k⟩
 ·obtain⟨o,c,ho,hd⟩:=isClass X;exact(iY ho).andThen (dA (by rw [hd]))
 ·obtain⟨o,c,ho,hd⟩:=isClass X;cases hq:(J6 D==J6 tp) with
  |false=>rfl
  |true=>
   cases (beq_iff_eq.mp hq);rw [htp] at ho;cases ho;cases hd
end
end L2
namespace L2
open PySem PySem.Spec PyProof.Rows PySem.SeqAt PySem.W
theorem UD {X:Cx}(hu:X.A.units+64<cLine):MtM X "list.count" (λx vs H Q=> ∃ (a:G4) (y:V) (dy:D) (h:HD) (p:C7) (ps:G0 C7),x= .ref a/\vs= [y]/\RelD X.K H dy y/\RelH X.K h H/\ToP h (.lst a) (.list ps)/\ToP h dy p/\p.canLay0=true/\E8 ps=true/\p.depth<=60/\Q (.int ((ps.countP λz=>T8 z p:P5):P7)) H):=by
 intro pins s σ H x vs v us Q I rx rv h;obtain⟨a,y,dy,h,p,ps,rfl,rfl,rd,rh,t1,t2,c1,c2,c3,q⟩:=h;cases rx;obtain⟨u,rfl,ru⟩:=wP rv;obtain⟨a',ds,ea,ha,ts⟩:=(show ∃a' ds,D.lst a= .lst a'/\h a'=some ds/\ToPs h ds ps from t1);cases ea;obtain⟨ws,hH,_⟩:=rh a ds ha;obtain⟨as,r1⟩:=jM I rh t1 (show RelD X.K H (.lst a) (.ref a) from ⟨rfl,ws,hH⟩) (show RelV (.ref a) (.ref a) from rfl);obtain⟨bs,r2⟩:=jM I rh t2 rd ru;cases r1 with
 |list h1 h2 h3 h4=>
  rename_i o its n cs;have em:=readsAll_map ps _ _ c2 h4;have hu':X.A.units+1+min (C0 ps) p.depth<cLine:=by have:=V7 (C0 ps) p.depth;omega
  obtain⟨oc,od,odt,osl⟩:=o;simp only at h2 h3;subst h2 h3;refine Z2 aZ ⟨_,h1,rfl⟩ gR (gF _ _) (list_countAt a its n od osl u (λy=>T8 (readOf s.heap y) p)) ⟨h1,items_eqAt h4 r2 c2 c1 hu',?_⟩;have e:its.toList.countP (λy=>T8 (readOf s.heap y) p)=ps.countP λz=>T8 z p:=by
   rw [<-em,List.countP_map];rfl
  exact⟨.int _,H,I.tok _,⟨_,by rw [e]⟩,q⟩
def Be (to te:TED):TED:=λσ h Q=>to σ h λx h1=> ∃a,x= .lst a/\te σ h1 λy h2=> ∃ (p:C7) (ps:G0 C7),ToP h2 (.lst a) (.list ps)/\ToP h2 y p/\p.canLay0=true/\E8 ps=true/\p.depth<=60/\Q (.int ((ps.countP λz=>T8 z p:P5):P7)) h2
section
variable {X:Cx}{o e i:D2}{to te ti:TED}{apos cpos:Pos}
theorem Bf (hu : X.A.units + 64 < cLine) (ho : JE X o to) (he : JE X e te) (hbase : O7 o "count" X.env (N5 o X.env) = N5 o X.env := by rfl)
    (hfew : ((N6 cpos (G6 [e] X.env)).all (fun x => !x.1) && (Z1 cpos (J4 [] X.env)).all (fun x => x.1.isSome) && decide ([e].length + ([] : G0 A8).length + (if ([] : G0 A8).isEmpty then 0 else 1) < 30)) = true := by rfl)
    (hline : (apos.endLine == cpos.line) = true := by rfl) (hs : G6 [e] X.env = (false, N5 e X.env) :: G6 [] X.env := by rfl) (hplain : (N6 cpos (G6 [] X.env)).any (·.1) = false := by rfl) :
    JE X (.Call (.Attribute o "count" apos) [e] [] cpos) (Be to te) :=
  ⟨(Yw U2 aZ g8 (UD hu) ho.to (jT he.to pa_nil hs) hbase hfew hline hs hplain).imp
    fun σ H Q ⟨lI, h, Qd, rs, rh, t, p⟩ => LE.bind rs rh t fun d v h1 H1 k1 rs1 rh1 r1 ⟨a, e, q⟩ => by
      subst e
      obtain ⟨e1, vs, hH⟩ := (show v = .ref a ∧ ∃ vs, H1 a = some (.lst vs) from r1)
      subst e1
      refine ⟨.inl ⟨rfl, vs, SqL.of hH⟩, ?_⟩
      refine LE.bind rs1 rh1 q fun y u h2 H2 k2 rs2 rh2 r2 ⟨pd, ps, t1, t2, c1, c2, c3, q2⟩ => ?_
      exact ⟨a, u, y, h2, pd, ps, rfl, rfl, r2, rh2, t1, t2, c1, c2, c3, p (.int _) _ _ _ (k1.trans k2) rh2 rfl q2⟩⟩
end
def Mw (K:Frag)(c:G2)(ta:TED):TED:=λσ h Q=>ta σ h λx h1=> ∃C b,x= .exc C/\ExcK K C/\kitOne K (.ref C) c=some b/\Q (.bl b) h1
theorem vT {X:Cx}{v:V}{c:G2}(rc: ∀u,RelV v u->u=c):CallR X (.builtin "isinstance") (λxs H Q=> ∃x C o b,xs= [.ref x,v]/\H x=some (.frz o (.own 0))/\o.cls= .ref C/\ExcK X.K C/\kitOne X.K (.ref C) c=some b/\Q (.bl b) H):=by
 intro pins s σ H xs us Q I r h;obtain⟨x,C,o,b,rfl,hx,hc,Z,e,q⟩:=h;obtain⟨u,w',rfl,rx,rt⟩:=VR r;cases rx;cases rc _ rt;exact kia_one (UC Z) I.kIn ⟨o,(I.hok x _ hx).1,hc⟩ e (λz=>nomatch z) λtk=>⟨.bl b,H,I.tok tk,rfl,q⟩
section
variable {X:Cx}{a:D2}{ta:TED}{t:Str}{p p2 pos:Pos}
theorem Vk {v:V}{c:G2}: ∀σ H Q,LE X.K (Mw X.K c ta) σ H Q->tCB (λxs H Q=> ∃x C o b,xs= [.ref x,v]/\H x=some (.frz o (.own 0))/\o.cls= .ref C/\ExcK X.K C/\kitOne X.K (.ref C) c=some b/\Q (.bl b) H) (VS (LE X.K ta) (VS (tC v) Rs)) σ H Q:=
 λσ H Q ⟨lI,h,Qd,rs,rh,t,p⟩=>LE.bind rs rh t λd u h1 H1 k1 rs1 rh1 r1 ⟨C,b,e,Z,k,q⟩=>by
  subst e;obtain⟨x,o,vs,e1,hx,hc,_⟩:=(show ∃x o vs,u= .ref x/\H1 x=some (.frz o (.own 0))/\o.cls= .ref C/\o.data= .fields vs from r1);subst e1;exact⟨x,C,o,b,rfl,hx,hc,Z,k,p (.bl b) _ _ _ k1 rh1 rfl q⟩
theorem WU {KK:Frag}{D:G4}(hg:Gl X "isinstance")(hm:X.mg "isinstance" =none)(hg2:Gl X t)(hm2:X.mg t=some (.ref D))(ha:JE X a ta)(hd:(t==("__debug__" :Str))=false:=by decide)
 (h1:G6 [a,.Name t p2] X.env=(false,N5 a X.env)::G6 [.Name t p2] X.env:=by rfl)(h2:(N6 pos (G6 [.Name t p2] X.env)).any (·.1)=false:=by rfl)(hK:X.K=KK:=by rfl):
 JE X (.Call (.Name "isinstance" p) [a,.Name t p2] [] pos) (Mw KK (.ref D) ta):=
 hK ▸ ⟨(yD (vT (v:= .ref D) λu r=>r) hg hm E5 (jT ha.to (jT (ZD (v:= .ref D) hg2 hm2 rfl hd) pa_nil (by rfl)) h1) (by decide) (by decide) h1 h2).imp Vk⟩
theorem Bg {KK:Frag}{T:F7}(hg:Gl X "isinstance")(hm:X.mg "isinstance" =none)(hg2:Gl X t)(hm2:X.mg t=none)(hv:B5 t=some (.type T))(ha:JE X a ta)(hn:t≠ "__name__" :=by decide)(hd:(t==("__debug__" :Str))=false:=by decide)
 (h1:G6 [a,.Name t p2] X.env=(false,N5 a X.env)::G6 [.Name t p2] X.env:=by rfl)(h2:(N6 pos (G6 [.Name t p2] X.env)).any (·.1)=false:=by rfl)(hK:X.K=KK:=by rfl):
 JE X (.Call (.Name "isinstance" p) [a,.Name t p2] [] pos) (Mw KK (.type T) ta):=
 hK ▸ ⟨(yD (vT (v:= .ty T) λu r=>r) hg hm E5 (jT ha.to (jT (Yi (v:= .ty T) hg2 hm2 hv rfl hn hd) pa_nil (by rfl)) h1) (by decide) (by decide) h1 h2).imp Vk⟩
end
end L2
namespace L2
open PySem PySem.Spec PyProof.Rows PySem.W
section
variable {X:Cx}{σ:St}{H:Hp}{s:G3}{x C:G4}
theorem Inv.relaid {B h':S6}{T:G4}{a0:G2}(I:Inv X [] σ H s)(Z:Rz0 X)(hpn:X.pn= [])(hx:H x=none/\X.s₀.heap.get? x=none)(hT:H T=none/\X.s₀.heap.get? T=none)
 (hB:B=hideAll s.heap (x::T::frs (X.env::X.outer)))(fl:Heap.FlyingW B (X.env::X.outer) x (.ref C) a0 h')(up:s.heap.UpToSlots h'):Inv X [] σ H {s with heap:=h'}/\Fly X.s₀.heap H h' x C:=by
 subst hB;have stk:s.heap.FunFrames X.base (X.env::X.outer):=Z.stk ▸ I.stack;obtain⟨st,_,_,oe',vs',T',oT',ts',he',⟨hc',h0'⟩,hd',h1',hTB,hTx',hT',hTd',h3'⟩:=fl;obtain⟨r1,r2,r3⟩:=Vf (ys:= [x,T]) (h':=h') I Z (λy hy=>by
  rcases P0.mp hy with rfl|hy
  ·exact hx
  ·rcases P0.mp hy with rfl|hy
   ·exact hT
   ·cases hy) (λb o e n1 n2=>st b o (hideAll_get _ e λz=>by
    rcases P0.mp z with rfl|z
    ·exact n1 (.head _)
    ·rcases P0.mp z with rfl|z
     ·exact n1 (.tail _ (.head _))
     ·exact n2 z)) λb o e hb=>by
  obtain⟨_,o2,e2,nd⟩:=stk.mem hb;rw [e] at e2;cases e2;exact up b o e nd
 obtain⟨q1,q2⟩:=r3 T' oT' ts' hT' hTd' λo e=>by
  by_cases z:T'∈frs (X.env::X.outer)
  ·exact .inr z
  ·refine .inl ?_
   by_cases z1:T'=x
   ·rw [z1];exact .head _
   ·by_cases z2:T'=T
    ·rw [z2];exact .tail _ (.head _)
    ·rw [hideAll_get _ e (by simp only [P0,not_or];exact⟨z1,z2,z⟩)] at hTB;cases hTB
 have cellK: ∀c v,s.heap.IsCell c v->h'.IsCell c v:=λc v ⟨o,ho,hd⟩=>by
  obtain⟨sl,e⟩:=up c o ho λws q=>by rw [hd] at q;cases q
  exact⟨_,e,hd⟩
 refine⟨⟨I.ok,I.os,I.bare,by rw [Z.ex];exact r1,?_,λy c e=> ?_,I.free,I.freeC,λp hp=> ?_,r2,I.len⟩,⟨⟨oe',vs',a0,T',oT',ts',he',hc',hd',h0',h1',hTx',hT',hTd',h3',q1,q2⟩,hx.1,hx.2⟩⟩
 ·obtain⟨m,hn,hl⟩:=I.loc;refine⟨m,up.ns hn,λi y v e1 e2 e3=> ?_⟩;obtain⟨u,r,l⟩:=hl i y v e1 e2 e3;exact⟨u,r,l.imp id λ⟨k,c,e,z⟩=>⟨k,c,e,cellK c _ z⟩⟩
 ·obtain⟨v,z⟩:=I.cell y c e;exact⟨v,cellK c v z⟩
 ·rw [hpn] at hp;cases hp
theorem Inv.track {oe:Obj}{vs:F3 G2}(I:Inv X [] σ H s)(hpn:X.pn= [])(hn:H x=none)(h0:X.s₀.heap.get? x=none)(hx:s.heap.get? x=some oe)(hd:oe.data= .fields vs):Inv X [] σ (upd H x (.frz oe (.own 0))) s:=by
 have ne: ∀b u,H b=some u->b≠x:=λb u e z=>by rw [z,hn] at e;cases e
 have ne0: ∀b o,X.s₀.heap.get? b=some o->b≠x:=λb o e z=>by rw [z,h0] at e;cases e
 have cn: ∀y c,X.env.cells.lookup y=some c->c≠x:=λy c e z=>by
  obtain⟨v,o,ho,hc⟩:=I.cell y c e;rw [z,hx] at ho;cases ho;rw [hd] at hc;cases hc
 refine⟨I.ok,I.os,I.bare,⟨I.base.keep,I.base.slot,λb o e n hx=> ?_,I.base.there,λb xs e=> ?_,λb o u e=> ?_,λb ps e=> ?_⟩,I.loc,I.cell,?_,λy c e=> ?_,λp hp=> ?_,λa o e=> ?_,I.len⟩
 ·rw [jd (ne0 b o e)];exact I.base.free b o e n hx
 ·have:=I.base.tups b xs e;rw [jd (ne b _ this)];exact this
 ·have:=I.base.frzs b o u e;rw [jd (ne b _ this)];exact this
 ·obtain⟨more,this⟩:=I.base.tbls b ps e;exact⟨more,by rw [jd (ne b _ this)];exact this⟩
 ·rw [jd (λz=> ?_)]
  ·exact I.free
  ·obtain⟨m,⟨o,es,ep,e,d,_⟩,_⟩:=I.loc;rw [z,hx] at e;cases e;rw [hd] at d;cases d
 ·rw [jd (cn y c e)];exact I.freeC y c e
 ·rw [hpn] at hp;cases hp
 ·by_cases z:a=x
  ·subst z;rw [jf] at e;cases e;exact⟨hx,⟨oe,hx⟩⟩
  ·rw [jd z] at e;exact(I.hok a o e).stay (λ_ _ _ q=>q) (λb q=>by rw [jd (ne b _ q)];exact q) λb xs q=>by rw [jd (ne b _ q)];exact q
theorem Vl {M:bV}{A:R8}{E:G2->G3->Prop}{i:P5}{y:Str}{v:V}{Q:Unit->G3->Prop}(I:Inv X [] σ H s)(hpn:X.pn= [])(hN:X.N.Nodup)(hi:X.N[i]? =some y)(hk:X.env.scope.names.lookup y=some .local)(hv:σ[i]? =some (some v))
 (h: ∀s',Inv X [] (σ.set i none) H s'->Q () s'):D5 M A (unbindName X.env y) Q E s:=by
 obtain⟨m,hn,hl⟩:=id I.loc;have hcls:(X.env.scope.kind== .class||(X.env.scope.kind== .module&&X.env.locals !=X.env.globals))=false:=by rw [I.ok.kind];rfl
 have lV:i<σ.length:=by rw [I.len];exact(D0.mp hi).1
 obtain⟨u,r,l⟩:=hl i y v hi hv (.inl hk);have hm:m y=some u:=by
  rcases l with ⟨_,e⟩|⟨k,_⟩
  ·exact e
  ·rcases k with k|k<;>(have k':X.env.scope.names.lookup y=_:=k;rw [hk] at k';cases k')
 refine wpAny_unbindName_local hk hn hm hcls λh' u' hn' hs=> ?_
 obtain⟨oL,_,_,hoL,_⟩:=id hn;have cne:=I.cne;refine h _ ⟨I.ok,I.os,I.bare,⟨λb o e n hb hx=> ?_,λb o e n hb hx=> ?_,I.base.free,λb o e hx=> ?_,I.base.tups,I.base.frzs,I.base.tbls⟩,⟨_,hn',λj z v' e1 e2 e3=> ?_⟩,λz c e=> ?_,I.free,I.freeC,λp hp=> ?_,λb ob e=> ?_,by simpa using I.len⟩
 ·exact(hs.2 b (R3 (P2 (P6 e) I.ok.above))).trans (I.base.keep b o e n hb hx)
 ·obtain⟨sl,e1⟩:=I.base.slot b o e n hb hx;exact⟨sl,(hs.2 b (R3 (P2 (P6 e) I.ok.above))).trans e1⟩
 ·obtain⟨o',e1⟩:=I.base.there b o e hx;exact⟨o',(hs.2 b (R3 (P2 (P6 e) I.ok.above))).trans e1⟩
 ·by_cases hj:j=i
  ·subst hj;rw [A5 lV] at e2;cases e2
  ·rw [C5 (A0 hj)] at e2;obtain⟨u2,r',q⟩:=hl j z v' e1 e2 e3;refine⟨u2,r',?_⟩;rcases q with ⟨k,e⟩|⟨k,c,e,q⟩
   ·refine .inl ⟨k,?_⟩;have:z≠y:=λe=>hj (vZ hN e1 (e ▸ hi))
    simp [this,e]
   ·exact .inr ⟨k,c,e,q.sameBut hs (cne z c e)⟩
 ·obtain⟨w',q⟩:=I.cell z c e;exact⟨w',q.sameBut hs (cne z c e)⟩
 ·rw [hpn] at hp;cases hp
 ·refine(I.hok b ob e).stay (λc w' hc q=>(hs.2 c ?_).trans q) (λ_ q=>q) λ_ _ q=>q
  rintro rfl;rcases hc with rfl|hc
  ·rw [I.free] at e;cases e
  ·rw [I.free] at hc;cases hc
end
def cxH (X:Cx)(x:G4):Cx:= {X with A:=X.A.mark (some (.ref x)),calm:=false,xe:=λ_ _=>False}
section
variable {X:Cx}{pins:G0 (G4×Obj)}{σ:St}{H:Hp}{s:G3}{x C:G4}
theorem Inv.suite (I:Inv X pins σ H s)(x:G4):Inv (cxH X x) pins σ H s:=
 ⟨⟨I.ok.mod,I.ok.kind,I.ok.glob,I.ok.blt,I.ok.above,I.ok.inj,I.ok.has,I.ok.cab,λz=>(by cases z),I.ok.frames,I.ok.stk,I.ok.exf,I.ok.bs,I.ok.bsz,I.ok.noex,I.ok.exfs,I.ok.funs,I.ok.frf⟩,I.os,I.bare,I.base,I.loc,I.cell,I.free,I.freeC,I.pin,I.hok,I.len⟩
theorem Inv.unsuite (I:Inv (cxH X x) pins σ H s)(ok:X.Ok):Inv X pins σ H s:=⟨ok,I.os,I.bare,I.base,I.loc,I.cell,I.free,I.freeC,I.pin,I.hok,I.len⟩
theorem UE {E:G2->G3->Prop}{n:Str}{i:P5}{PE:G4}{b0:N2}{suite:G0 N2}{t:TS}{D:Ends}{np pos:Pos}(Z:Rz0 X)(hpn:X.pn= [])(hN:X.N.Nodup)(hi:X.N[i]? =some n)(hl:X.env.scope.names.lookup n=some .local)
 (hg:Gl X "PowerError")(hm:X.mg "PowerError" =some (.ref PE))(hex:exmOne X.K (.ref C) (.ref PE)=some true)(I:Inv X [] σ H s)(fl:Fly X.s₀.heap H s.heap x C)(hs:PSs (cxH X x) (b0::suite) t)
 (ht: ∀oe vs,oe.cls= .ref C->oe.data= .fields vs->t {nx:=λ_ _=>False,rt:=D.rt} (σ.set i (some (.ref x))) (upd H x (.frz oe (.own 0)))):
 D5 (D8 X.prog X.w) X.A (noteFrame (.ref x) X.env) (λ_ lU=>D5 (D8 X.prog X.w) X.A (setFlight (.ref x) none) (λ_ lS=>D5 (D8 X.prog X.w) X.A (handleBy (.ref x) X.env [.ExceptHandler (some (.Name "PowerError" np)) (some n) (b0::suite) pos]) (SP X [] D) E lS) E lU) E s:=by
 obtain⟨oe0,vs0,a0,T,oT,ts,he,hc,hd,h0,h1,hTx,hT,hTd,h3,hHT,h0T⟩:=fl.ex;have hfr:X.A.frames=some (X.env::X.outer):=by rw [I.ok.frames,Z.stk]
 have stk:s.heap.FunFrames X.base (X.env::X.outer):=Z.stk ▸ I.stack;have ff:s.heap.FunFrames (hideAll s.heap (x::T::frs (X.env::X.outer))) (X.env::X.outer):=jI stk λa ha=>hideAll_none _ (.tail _ (.tail _ ha))
 refine wpAny_looks_onW (base:=hideAll s.heap (x::T::frs (X.env::X.outer))) (cls:= .ref C) (a0:=a0) hfr Z.fr
  ⟨λb o e=>of_hideAll _ e,hideAll_none _ (.head _),ff,oe0,vs0,T,oT,ts,he,⟨hc,h0⟩,hd,h1,hideAll_none _ (.tail _ (.head _)),hTx,hT,hTd,h3⟩ λh₄ mN mF=> ?_
 refine wpAny_landsW mN λlX mG mH=> ?_
 obtain⟨I5,F5⟩:=I.relaid Z hpn ⟨fl.nx,fl.n0⟩ ⟨hHT,h0T⟩ rfl mG (mF.trans mH);refine wpAny_handleBy_cons (codeAny_handlers_test (ye (X:=cxH X x) (I5.suite x) hg hm ?_)) (by intro q;cases q);have at5:ExcAt x C lX:=let ⟨oe,_,_,_,_,_,e,c,_⟩:=F5.ex;⟨oe,e,c⟩;refine(exm_one (M:=D8 X.prog X.w) (h:=lX) I5.kIn at5.type hex).here ?_;refine codeAny_handlers_suite_as ?_;refine lands_againW mG λh₆ mO mP=> ?_
 obtain⟨I6,F6⟩:=I.relaid Z hpn ⟨fl.nx,fl.n0⟩ ⟨hHT,h0T⟩ rfl mO (mF.trans (mH.trans mP));obtain⟨oe,vs,_,_,_,_,e6,c6,d6,_⟩:=F6.ex;have I7:=I6.track hpn F6.nx F6.n0 e6 d6;refine zB I7 hN hi (.inl hl) (v:= .ref x) rfl (λs8 I8=> ?_) (.inr hl);refine S3 (hs [] s8 _ _ _ (I8.suite x) (ht oe vs c6 d6)) (λf s9 q=> ?_) λ_ _ z=>z.elim
 cases f with
 |next=>obtain⟨_,_,_,z⟩:=q;exact z.elim
 |brk=>obtain⟨_,_,_,z⟩:=q;exact z.elim
 |cont=>obtain⟨_,_,_,z⟩:=q;exact z.elim
 |ret u=>
  obtain⟨v,lH,H3,J,rv,qq⟩:=q;have J1:Inv X [] lH H3 s9:=J.unsuite I.ok;refine wpAny_bind (cB (zB J1 hN hi (.inl hl) (v:= .non) rfl (λs10 J2=> ?_) (.inr hl)));unfold unbindBehindTheSuite;have hlt:i<lH.length:=by rw [J1.len];exact(D0.mp hi).1
  exact wpAny_onRaise (Vl J2 hpn hN hi hl (v:= .non) (by rw [A5 hlt]) λs11 J3=>⟨v,_,H3,J3,rv,qq⟩)
end
def CW:G0 (Str×Str):= [("NoTable","table"),("NoPlace","place"),("NoNumber","number"),("NoOrder","order"),("NoSet","set"),("NoWalk","walk"),("NoLengths","lengths"),("NoWay","way"),("Apart","apart"),("NoRow","row")]
def CN:G0 Str:= ["NoTable","NoPlace","NoNumber","NoOrder","NoSet","NoWalk","NoLengths","NoWay","Apart","NoRow"]
def wU (c:Str):Str:=(CW.lookup c).getD "other"
def Wq (P:D6)(w:S7)(K:G1)(mg:Str->G7 G2)(base:S6)(n:P5):G3->Sp:=λs vs H Q _=>
 ∃ (f:G4) (o:Obj) (qual:Str) (pm cv ctv:G2) (cl:G0 (Str×G4)) (q:Str) (N:G0 Str) (σ:St) (scope:N4) (body:D2) (h:HD) (Qd:KD),vs= [.ref f]/\s.heap.get? f=some o/\o.data= .func (kla_fn "<lambda>" qual vB body scope cl pm cv ctv)/\CodeF H cv q/\H f=none/\LamOk scope/\Cap N σ scope cl s.heap H/\RelH K h H/\UW K H Qd Q/\
 ((∃QT:VK,(∀ (A':R8) (outer':G0 Env) (s':G3) (E':XK),Room n (A'.deeper (envX q scope s'.heap.objs.size f cv cl))-> ∃t,PE (cxL CX0 P w K mg base N q scope f cv cl A' outer' s' H E') body t/\t σ H QT)/\
  ∀v H',QT v H'-> ∃d h',Kept H H'/\RelH K h' H'/\RelD K H' d v/\Qd (.tup [.str "told",d]) h')\/
  (∃RT:G4->Hp->Prop,(∀ (A':R8) (outer':G0 Env) (s':G3),Room n (A'.deeper (envX q scope s'.heap.objs.size f cv cl))-> ∀pins s2,Inv (cxL (CXR P w) P w K mg base N q scope f cv cl A' outer' s' H (λc _ H'=> ∃C,c= .ref C/\RT C H')) pins σ H s2->
   D5 (D8 P w) (A'.deeper (envX q scope s'.heap.objs.size f cv cl)) (N5 body (envX q scope s'.heap.objs.size f cv cl)) (λ_ _=>False) (cxL (CXR P w) P w K mg base N q scope f cv cl A' outer' s' H (λc _ H'=> ∃C,c= .ref C/\RT C H')).xe s2)/\
   ∀C H',RT C H'-> ∃c h',mg c=some (.ref C)/\c∈CN/\Kept H H'/\RelH K h' H'/\Qd (.tup [.str (wU c)]) h'))
abbrev N1:G0 Str:= ["_law_call","_law_found","_law_e","_law_word"]
theorem RoomU.mark {k:P5}{A:R8}{v:G7 G2}(r:RoomU k A):RoomU k (A.mark v):=⟨r.dp,r.un,r.gd⟩
theorem Vm {M:bV}{f:G4}(h:S6)(X: ∃o fd,h.get? f=some o/\o.data= .func fd): ∃k,(k=Keeper.frame\/k=Keeper.machine\/k=Keeper.boundFrame)/\Looks M h (keeperOf (.ref f)) k:=by
 obtain⟨o,fd,e,d⟩:=X;refine⟨.frame,.inl rfl,(iY (part:=none) e).andThen ?_⟩;rw [d];exact .now
theorem QP {P:D6}{w:S7}{K:G1}{mg:Str->G7 G2}{base:S6}{st:N2}{fs:G4}{fds:D4}{n:P5}{pe:G4}{p1 p2 p3 p4 p5 p6 p7 p8 p9 p10 p11:Pos}{j k:P5}{b0:N2}{suite:G0 N2}
 (F:Fun K "_law_said" "_law_said" st fs fds)(S:FnScope N1 ["_law_call"] (ja st))
 (hb:jB st= [.Try [.Assign [.Name "_law_found" p1] (.Call (.Name "_law_call" p2) [] [] p3) p4] [.ExceptHandler (some (.Name "PowerError" p5)) (some "_law_e") (b0::suite) p6] [] [] p7,.Return (some (.Tuple [.Constant (.str "told") j p8,.Name "_law_found" p9] k p10)) p11])
 (l0:(ja st).names.lookup ("_law_call" :Str)=some .local)(l1:(ja st).names.lookup ("_law_found" :Str)=some .local)(l2:(ja st).names.lookup ("_law_e" :Str)=some .local)(lp:(ja st).names.lookup ("PowerError" :Str)=some .globalImplicit)
 (hm:mg "PowerError" =some (.ref pe))(hex: ∀c∈CN,∀C,mg c=some (.ref C)->exmOne K (.ref C) (.ref pe)=some true)(tS:TSD)
 (hsuite: ∀ (cdv:G2) (A:R8) (outer:G0 Env) (s:G3) (H:Hp) (E:XK) (x:G4),RoomU n ((A.deeper (B1 "_law_said" (ja st) s.heap.objs.size fs cdv)).mark (some (.ref x)))->JSs (cxH (vx CX0 P w K mg base N1 "_law_said" (ja st) fs cdv A outer s H E) x) (b0::suite) tS)
 (hread: ∀c∈CN,∀ (C:G4) (h:HD) (Qd:KD),mg c=some (.ref C)->Qd (.tup [.str (wU c)]) h->tS {nx:=λ_ _=>False,rt:=λd h'=> ∃h2,Sub h2 h'/\Qd d h2} [none,none,some (.exc C),none] h):
 FnOkS P w K mg base CX0 (n+2) fs fds ["_law_call"] (Wq P w K mg base n):=by
 obtain⟨oc,od,kV,doc,pm,an,cdv,ct,osl,rfl,lk,hcd⟩:=F.ex;refine Dv lk hcd S (λs vs H Q E h=> ?_) λA outer s H vs Q E hr hsp s1 I=> ?_
 ·obtain⟨f,_,_,_,_,_,_,_,_,_,_,_,_,_,rfl,_⟩:=h;rfl
 obtain⟨f,o,qual,pmv,cv,ctv,cl,q,N,σ,scope,body,h,Qd,rfl,ho,hod,hcf,hHf,L,C,rh,post,alt⟩:=hsp;have un:=I.base;obtain⟨sl,ho1⟩:=un.any ho hHf (by intro z;cases z);have C1:Cap N σ scope cl s1.heap H:=C.step un;have hr0:Room (n+1) (A.deeper (B1 "_law_said" (ja st) s.heap.objs.size fs cdv)):=hr;rw [hb];have callee: ∀ {CX:CXT} {E':XK} {QT:VK} {t:TE} {Q2:G2->G3->Prop} {EE:G2->G3->Prop},PE (cxL CX P w K mg base N q scope f cv cl (A.deeper (B1 "_law_said" (ja st) s.heap.objs.size fs cdv)) (B1 "_law_said" (ja st) s.heap.objs.size fs cdv::outer) s1 H E') body t->t σ H QT->
  (∀r s2,CR CX (B1 "_law_said" (ja st) s.heap.objs.size fs cdv::outer) P w H s1 QT E' r s2->match r with| .ok (.ret v)=>Q2 v s2| .ok _=>False| .error e=>EE e s2)->
  D5 (D8 P w) (A.deeper (B1 "_law_said" (ja st) s.heap.objs.size fs cdv)) (N5 (.Call (.Name "_law_call" p2) [] [] p3) (B1 "_law_said" (ja st) s.heap.objs.size fs cdv)) Q2 EE s1:=by
  intro CX E' QT t Q2 EE hbt ht hk;refine O1 ?_;obtain⟨m,hn,hl⟩:=I.loc;obtain⟨u,ru,l⟩:=hl 0 "_law_call" (.ref f) rfl rfl (.inl l0);cases ru;have hmm:m "_law_call" =some (.ref f):=by
   rcases l with ⟨_,e⟩|⟨kk,_⟩
   ·exact e
   ·rcases kk with kk|kk<;>(have k':(ja st).names.lookup ("_law_call" :Str)=_:=kk;rw [l0] at k';cases k')
  refine dD (cA S.kind l0 hn hmm ?_) (by decide);refine callWith_of (P:=λh=> ∃o fd,h.get? f=some o/\o.data= .func fd) rfl Vm (evalArgs_nil3 ⟨⟨_,_,ho1,hod⟩,?_⟩);exact Y5 (U4 (QF (CX:=CX) (k:=n) L hr0 I.env0 C1 ho1 hod hcf hbt ht) hk)
 refine O0 (wpAny_Try_except ?_);refine O0 (dL ?_ rfl);rcases alt with ⟨QT,hT,hQ⟩|⟨RT,hR,hQ⟩
 ·obtain⟨t,hbt,ht⟩:=hT (A.deeper (B1 "_law_said" (ja st) s.heap.objs.size fs cdv)) (B1 "_law_said" (ja st) s.heap.objs.size fs cdv::outer) s1 E0 (hr0.deeper _);refine callee hbt ht λr s2 hq=> ?_
  cases r with
  |error e=>exact False.elim hq
  |ok fl=>
   cases fl with
   |next=>exact False.elim hq
   |brk=>exact False.elim hq
   |cont=>exact False.elim hq
   |ret u=>
    obtain⟨v,H',I2,rv,qt⟩:=I.after hq;obtain⟨d,h',kp,rh',rd,qd⟩:=hQ v H' qt;refine zB I2 (i:=1) (x:= "_law_found") S.nd rfl (.inl l1) rv (λs3 I3=> ?_) (.inr l1);refine E2 (E2 ?_);have hret:JSs (vx CX0 P w K mg base N1 "_law_said" (ja st) fs cdv A outer s H E) [.Return (some (.Tuple [.Constant (.str "told") j p8,.Name "_law_found" p9] k p10)) p11] (ZA (Gp (jG (dC (.str "told")) (jG (Je 1) yx)))):=
     jL (zY (zL (jac zW (jac (jv 1 rfl (.inl l1)) zX))))
    exact hret.to [] s3 _ H' _ I3 ⟨[none,some d,none,none],h',{nx:=λ_ _=>False,rt:=Qd},⟨rfl,λi d' e=>by
     match i,e with
     |0,e=>cases e
     |1,e=>cases e;exact⟨v,rfl,rd⟩
     |2,e=>cases e
     |3,e=>cases e
     |i+4,e=>simp at e⟩,rh',⟨_,rfl,(by show 2<=sizeLine;decide),qd⟩,λ_ _ _ _ _ _ _ z=>z.elim,jn post kp,λ_ _ _ _ _ _ _ z=>z.elim,λ_ _ _ _ _ _ _ z=>z.elim⟩
 ·refine callee (CX:=CXR P w) (E':=λc _ H'=> ∃C,c= .ref C/\RT C H') (QT:=λ_ _=>False) (t:=λlH H' _=>lH=σ/\H'=H)
   (λpins s2 lH H' Q' I' ⟨e1,e2⟩=> ?_) ⟨rfl,rfl⟩ λr s2 hq=> ?_
  ·subst e1;subst e2;exact S3 (hR _ _ s1 (hr0.deeper _) pins s2 I') (λ_ _ z=>z.elim) λ_ _ z=>z
  cases r with
  |ok fl=>
   cases fl with
   |next=>exact False.elim hq
   |brk=>exact False.elim hq
   |cont=>exact False.elim hq
   |ret u=>obtain⟨_,_,_,_,_,_,_,z⟩:=hq;exact z.elim
  |error e=>
   obtain⟨x,C',H',rfl,os,bare,un2,hok,fl,C2,eC,rt⟩:=hq;cases eC;obtain⟨c,h',hmc,hcn,kp,rh',qd⟩:=hQ C' H' rt;have I2:=I.call' (ch:= []) os un2 hok bare (λb z=>absurd z (by simp));have f0: ∀b,s1.heap.get? b=none->s.heap.get? b=none:=λb nb=>by
    cases qq:s.heap.get? b with
    |none=>rfl
    |some o=>obtain⟨o',e⟩:=I.base.there b o qq (by intro z;cases z);rw [nb] at e;cases e
   have fl':Fly s.heap H' s2.heap x C':=by
    obtain⟨⟨oe,vs,a0,T,oT,ts,a1,a2,a3,a4,a5,a6,a7,a8,a9,a10,a11⟩,nx,n0⟩:=fl;exact⟨⟨oe,vs,a0,T,oT,ts,a1,a2,a3,a4,a5,a6,a7,a8,a9,a10,f0 _ a11⟩,nx,f0 _ n0⟩
   have hsu:=hsuite cdv A outer s H E x (RoomU.mark ((hr0.mono (iW n)).u));refine S3 (UE (X:=vx CX0 P w K mg base N1 "_law_said" (ja st) fs cdv A outer s H E) (σ:=za N1 [V.ref f]) (i:=2) (n:= "_law_e") (C:=C') (t:=LS K tS) (D:= {nx:=λ_ _=>False,rt:=Q}) ⟨rfl,rfl,rfl⟩ rfl S.nd rfl l2 lp hm (hex c hcn C' hmc) I2 fl' hsu.to λoe vs hc hd=> ?_) (λ_ s3 h3=>S3 h3 (λ_ s4 h4=>S3 h4 (λfl s5 h5=> ?_) λ_ _ z=>z) λ_ _ z=>z) λ_ _ z=>z
   ·refine⟨[none,none,some (.exc C'),none],h',_,⟨rfl,λi d' e=> ?_⟩,rh'.new fl'.nx,hread c hcn C' h' Qd hmc qd,λ_ _ _ _ _ _ _ z=>z.elim,λd v h2 H2 k2 rh2 rd ⟨h3,sb,q3⟩=>post d v h3 H2 ((kp.trans (.new fl'.nx)).trans k2) (rh2.sub sb) rd q3,λ_ _ _ _ _ _ _ z=>z.elim,λ_ _ _ _ _ _ _ z=>z.elim⟩
    match i,e with
    |0,e=>cases e
    |1,e=>cases e
    |3,e=>cases e
    |i+4,e=>simp at e
    |2,e=>cases e;exact⟨.ref x,rfl,x,oe,vs,rfl,jf,hc,hd⟩
   ·cases fl with
    |next=>obtain⟨_,_,_,z⟩:=h5;exact z.elim
    |brk=>obtain⟨_,_,_,z⟩:=h5;exact z.elim
    |cont=>obtain⟨_,_,_,z⟩:=h5;exact z.elim
    |ret u=>exact h5
def Mx (tT:TED)(tR:TXD):TED:=λσ h Q=>tT σ h (λd h'=>Q (.tup [.str "told",d]) h')\/tR σ h (λc h'=>c∈CN/\Q (.tup [.str (wU c)]) h')
def Nu (sc:N4):C3:=sc.kind== .function&& !sc.isCoroutine&& !sc.isGenerator&&sc.names.all λy=>y.2 != .cell&&y.2 != .local
theorem Dx {sc:N4}(hk:sc.kind= .function)(h:Nu sc=true):LamOk sc:=by
 unfold Nu at h;simp only [D9,Bool.not_eq_true',R7,bne_iff_ne,ne_eq] at h;exact⟨hk,h.1.1.2,h.1.2,λy hy=>h.2 y hy⟩
def Dy (sc sc':N4):C3:=sc.names.all λy=>y.2 != .free||(sc'.names.lookup y.1==some .cell||sc'.names.lookup y.1==some .free)
theorem QQ {sc:N4}{env:Env}(h:Dy sc env.scope=true):Vh sc env:=λn hn=>by
 have:=R7.mp h _ hn;simp only [bne_self_eq_false,gV,W8,beq_iff_eq] at this;exact this
theorem Mz {X:Cx}{n:P5}{fs:G4}{fds:D4}{scope:N4}{body:D2}{lpos p pos:Pos}{tT:TED}{tR:TXD}{c P:G4}
 (F:FnOkS X.prog X.w X.K X.mg X.base CX0 (n+2) fs fds ["_law_call"] (Wq X.prog X.w X.K X.mg X.base n))(hr:Room (n+2) X.A)(hg:Gl X "_law_said")(hm:X.mg "_law_said" =some (.ref fs))(hk:keepIn X.K (.ref fs)=true)(hb:Binds X.K fds ["_law_call"] [])
 (B:Bm X.mg X.base)(hcode:X.env.code= .ref c)(hc:codeHdIn X.K c P=true)(hTK:TabK X.K P)(L:LamOk scope)(hfr:Vh scope X.env)
 (hT: ∀ (q:Str) (cv:G2) (cl:G0 (Str×G4)) (f:G4) (A:R8) (outer:G0 Env) (s:G3) (H:Hp) (E:XK),Room n (A.deeper (envX q scope s.heap.objs.size f cv cl))->JE (cxL CX0 X.prog X.w X.K X.mg X.base X.N q scope f cv cl A outer s H E) body tT)
 (hR: ∀ (q:Str) (cv:G2) (cl:G0 (Str×G4)) (f:G4) (A:R8) (outer:G0 Env) (s:G3) (H:Hp) (E:XK),Room n (A.deeper (envX q scope s.heap.objs.size f cv cl))->JXE (cxL (CXR X.prog X.w) X.prog X.w X.K X.mg X.base X.N q scope f cv cl A outer s H E) body tR)
 (he:G6 [Expr.Lambda vB body scope lpos] X.env=(false,N5 (.Lambda vB body scope lpos) X.env)::G6 [] X.env:=by rfl)(hpl:(N6 pos (G6 [] X.env)).any (·.1)=false:=by rfl):
 JE X (.Call (.Name "_law_said" p) [.Lambda vB body scope lpos] [] pos) (Mx tT tR):=⟨λpins s σ H Q I ⟨lI,h,Qd,rs,rh,alt,post⟩=>by
 refine O1 (ye I hg hm ?_ (by decide));refine Y6 (h₀:=X.base) I.ok.mod.kin hk ?_ he hpl;rw [he];obtain⟨ps,hP,hps⟩:=rh.tb P hTK;have hcl:Z3 scope X.env=pure (yz X.env.cells scope.names []):=yY λn hn=>I.ok.has n (hfr n hn)
 refine Y4 (Ux I B hcode hc hP hps hcl λf q qual pm cv ctv H1 h1 tk I1 kp lsts tbls Dp hf hcf hHf _ _ _=>aK ⟨I1.kIn,?_⟩);have rh1:RelH X.K h H1:=⟨λa ds e=>by
  obtain⟨vs,e1,e2⟩:=rh a ds e;exact⟨vs,lsts _ _ e1 (by intro _ z;cases z),e2.mono kp⟩,λP' hP'=>by
  by_cases z:P'=P
  ·subst z;exact Dp
  ·obtain⟨ps',e1,e2⟩:=rh.tb P' hP';exact⟨ps',tbls _ _ e1 z,e2.mono kp.frz⟩,λa c e=>(rh.dc a c e).mono kp λo w=>by
  obtain⟨u,w',d⟩:=(rh.dc a c e).obj;rw [w] at w';cases w';exact lsts _ _ w d.no.2.2.2.2⟩
 have rs1:RelS X.K H1 lI σ:=rs.mono kp;refine QM (us:= [.ref f]) (vs:= [.ref f]) (dvs:= []) (ds:= []) (E:=E0) F hr hb .nil XQ I1 (.cons rfl .nil) ?_;refine⟨f,_,qual,pm,cv,ctv,yz X.env.cells scope.names [],q,X.N,σ,scope,body,h,Qd,rfl,hf,rfl,hcf,hHf,L,Cap.of I1 hfr,rh1,jn post kp,?_⟩;rcases alt with t|t
 ·refine .inl ⟨λv H'=> ∃d h',Kept H1 H'/\RelH X.K h' H'/\RelD X.K H' d v/\Qd (.tup [.str "told",d]) h',λA' outer' s' E' hr'=>⟨_,(hT q cv _ f A' outer' s' H1 E' hr').to,lI,h,_,rs1,rh1,t,λd v h' H' k r1 r2 q=>⟨d,h',k,r1,r2,q⟩⟩,λv H' q=>q⟩
 ·refine .inr ⟨λC H'=> ∃c h',X.mg c=some (.ref C)/\c∈CN/\Kept H1 H'/\RelH X.K h' H'/\Qd (.tup [.str (wU c)]) h',λA' outer' s' hr' pins2 s2 I2=> ?_,λC H' q=>q⟩;exact(hR q cv _ f A' outer' s' H1 _ hr').to _ Dt pins2 s2 σ H1 lI h _ I2 rs1 rh1 t λc C h' H' k rh' hmc ⟨hcn,qq⟩=>⟨C,rfl,c,h',hmc,hcn,k,rh',qq⟩⟩
variable {K:Frag}{x:Str}
theorem UF {f c P:G4}{oc:G2}{od:G7 G4}{fd:D4}{osl:F3 (G7 G2)}(a:nsIn K mainGlobals x=some (some (.ref f)))(l:K.lookup f=some ⟨oc,od,.func fd,osl⟩)(t:tabIn K x=some (c,P)):fd.code= .ref c:=by
 unfold tabIn at t;rw [a] at t;simp only [l] at t;split at t
 ·rename_i c' hc';split at t
  ·split at t
   ·cases t;exact hc'
   ·cases t
  ·cases t
 ·cases t
def CN13:G0 Str:= ["NoTable","NoPlace","NoNumber","NoOrder","NoSet","NoWalk","NoLengths","NoWay","Apart","NoRow","NoTables","NoText","TooGreat"]
def adr (K:Frag)(x:Str):G7 G4:=match nsIn K mainGlobals x with
 |some (some (.ref a))=>some a
 |_=>none
def UG (K:Frag)(C:G4):C3:=(clsIn K C).isSome&&findIn K (.ref C) "__getattribute__" ==some (some (.builtin "BaseException.__getattribute__"))&&findIn K (.ref C) "__getattr__" ==some none
 &&findIn K (.ref C) "__class__" ==some (some (.builtin "object.__class__"))&&specialIn K (.builtin "object.__class__") "__get__" ==some (some (.builtin "getset_descriptor.__get__"))
 &&takesIn K (.builtin "object.__class__")==some true&&mroIn K C (.type "object")==some true&&mroIn K C (.type "BaseException")==some true
theorem QR {C:G4}(h:UG K C=true):ExcK K C:=by
 unfold UG at h;simp only [D9,beq_iff_eq] at h;obtain⟨⟨⟨⟨⟨⟨⟨a,b⟩,c⟩,d⟩,e⟩,f⟩,g⟩,i⟩:=h;exact⟨a,b,c,d,e,f,g,i⟩
def Xl (K:Frag)(c:Str):C3:=match adr K c,adr K "PowerError" with
 |some C,some pe=>excIn K C bmV "ValueError.__new__" &&UG K C&&kitOne K (.ref C) (.type "ValueError")==some true&&exmOne K (.ref C) (.ref pe)==some true&&CN13.all λd=>match adr K d with
  |some D=>kitOne K (.ref C) (.ref D)==some (c==d)
  |none=>false
 |_,_=>false
def MA (K:Frag):C3:=CN.all (Xl K)&&CN13.all (λd=>(adr K d).isSome)&&(adr K "PowerError").isSome&&nsIn K mainGlobals "ValueError" ==some none
structure Exc (K:Frag)(mg:Str->G7 G2):Prop where
 own: ∀c∈CN,OwnX K mg c
 ek: ∀c∈CN,∀C,mg c=some (.ref C)->ExcK K C
 kit: ∀c∈CN,∀d∈CN13,∀C D,mg c=some (.ref C)->mg d=some (.ref D)->kitOne K (.ref C) (.ref D)=some (c==d)
 val: ∀c∈CN,∀C,mg c=some (.ref C)->kitOne K (.ref C) (.type "ValueError")=some true
 pe: ∃pe,mg "PowerError" =some (.ref pe)/\ ∀c∈CN,∀C,mg c=some (.ref C)->exmOne K (.ref C) (.ref pe)=some true
 cls: ∀d∈CN13,∃D,mg d=some (.ref D)
 ve:mg "ValueError" =none
theorem Wr {h:S6}{mg:Str->G7 G2}{a:G4}(X:K.In h)(G:h.Ns mainGlobals mg)(e:adr K x=some a):mg x=some (.ref a):=by
 unfold adr at e;split at e
 ·rename_i q;cases e;exact mg_of X G q
 ·cases e
theorem Dz {a:G4}(e:adr K x=some a):nsIn K mainGlobals x=some (some (.ref a)):=by
 unfold adr at e;split at e
 ·rename_i q;cases e;exact q
 ·cases e
theorem DA {h:S6}{mg:Str->G7 G2}(X:K.In h)(G:h.Ns mainGlobals mg)(e:MA K=true):Exc K mg:=by
 unfold MA at e;simp only [D9,R7,beq_iff_eq] at e;obtain⟨⟨⟨e1,e2⟩,e3⟩,e4⟩:=e;obtain⟨pe,hpe⟩:=B8.mp e3;have A: ∀c∈CN,∃C,adr K c=some C/\mg c=some (.ref C)/\excIn K C bmV "ValueError.__new__" =true/\UG K C=true/\kitOne K (.ref C) (.type "ValueError")=some true/\exmOne K (.ref C) (.ref pe)=some true/\ ∀d∈CN13,∀D,adr K d=some D->kitOne K (.ref C) (.ref D)=some (c==d):=λc hc=>by
  have q:=e1 c hc;unfold Xl at q;rw [hpe] at q;split at q
  ·rename_i C pe' h1 h2;cases h2;simp only [D9,R7,beq_iff_eq] at q;obtain⟨⟨⟨⟨q1,q2⟩,q3⟩,q4⟩,q5⟩:=q;refine⟨C,h1,Wr X G h1,q1,q2,q3,q4,λd hd D hD=> ?_⟩;have:=q5 d hd;rw [hD] at this;simpa using this
  ·cases q
 have same: ∀ {c:Str} {C C':G4},mg c=some (.ref C)->mg c=some (.ref C')->C=C':=λa b=>by rw [a] at b;cases b;rfl
 refine⟨λc hc=> ?_,λc hc C h=> ?_,λc hc d hd C D h1 h2=> ?_,λc hc C h=> ?_,⟨pe,Wr X G hpe,λc hc C h=> ?_⟩,λd hd=> ?_,mg_none_of X G e4⟩
 ·obtain⟨C,a,m,q,_⟩:=A c hc;exact⟨C,m,Dz a,q⟩
 ·obtain⟨C',_,m,_,q,_⟩:=A c hc;cases same h m;exact QR q
 ·obtain⟨C',_,m,_,_,_,_,q⟩:=A c hc;cases same h1 m;obtain⟨D',hD⟩:=B8.mp (e2 d hd);cases same h2 (Wr X G hD);exact q d hd D hD
 ·obtain⟨C',_,m,_,_,q,_⟩:=A c hc;cases same h m;exact q
 ·obtain⟨C',_,m,_,_,_,q,_⟩:=A c hc;cases same h m;exact q
 ·obtain⟨D',hD⟩:=B8.mp (e2 d hd);exact⟨D',Wr X G hD⟩
section
variable {P:D6}{w:S7}{K:G1}{mg:Str->G7 G2}{base:S6}
theorem Fun.okJL {x qual:Str}{st:N2}{f c Pt:G4}{fd:D4}{N ps:G0 Str}{k:P5}{spd:RDn}(F:Fun K x qual st f fd)(a:nsIn K mainGlobals x=some (some (.ref f)))(T:tabIn K x=some (c,Pt))(S:FnScope N ps (ja st))(len: ∀ds h Q,spd ds h Q->ds.length=ps.length)
 (tb:TSD)(hbody: ∀ (A:R8) (outer:G0 Env) (s:G3) (H:Hp) (E:XK),Room k (A.deeper (B1 qual (ja st) s.heap.objs.size f (.ref c)))->JSs (vx CX0 P w K mg base N qual (ja st) f (.ref c) A outer s H E).nox (jB st) tb)
 (read: ∀ds h Q,spd ds h Q->tb (vA Q) (jC N ds) h):FnOk P w K mg base CX0 (k+1) f fd ps (LSp K spd):=by
 obtain⟨oc,od,kV,doc,pm,an,cdv,ct,osl,rfl,lk,hcd⟩:=F.ex;have e:cdv= .ref c:=UF a lk T;subst e;refine XI lk hcd S (λvs H Q E h=> ?_) λA outer s H vs Q E hr h=> ?_
 ·obtain⟨ds,h,Qd,r,rh,q,p⟩:=h;rw [<-r.length];exact len _ _ _ q
 ·obtain⟨ds,h,Qd,r,rh,q,p⟩:=h;refine⟨_,((hbody A outer s H E hr).to).nox,jC N ds,h,vA Qd,wt r,rh,read ds h Qd q,λlL h' lH H' k rs' rh' ⟨h2,sb,q'⟩=>p .non .non h2 H' k (rh'.sub sb) rfl q',λd v h' H' k rh' r' ⟨h2,sb,q'⟩=>p d v h2 H' k (rh'.sub sb) r' q',λ_ _ _ _ _ _ _ z=>z.elim,λ_ _ _ _ _ _ _ z=>z.elim⟩
end
def DB (P:D6)(w:S7)(K:G1)(mg:Str->G7 G2)(base:S6)(n:P5):Prop:=
 ∃ (g:G4) (gd:D4),FnOkS P w K mg base CX0 (n+2) g gd ["_law_call"] (Wq P w K mg base n)/\Binds K gd ["_law_call"] []/\N8 K (.ref g)=true/\mg "_law_said" =some (.ref g)
def QU (K:Frag)(x:Str):C3:=match tabIn K x with
 |some p=>codeHdIn K p.1 p.2
 |none=>false
theorem QV (h:QU K x=true): ∃c P,tabIn K x=some (c,P)/\codeHdIn K c P=true:=by
 unfold QU at h;split at h
 ·rename_i p e;exact⟨p.1,p.2,e,h⟩
 ·cases h
def Vn (mg:Str->G7 G2):RDn:=λds h Q=> ∃c C,ds= [.exc C]/\c∈CN/\mg c=some (.ref C)/\ ∀h',Sub h h'->Q (.str (wU c)) h'
end L2
namespace L2
open PySem PySem.Spec PyProof.Rows PySem.SeqAt
section
variable {n e:P5}{T:G0 (G0 P7)}
instance (k i j:P5):Decidable (RP n T k i j):=inferInstanceAs (Decidable (ent (Mp n T k) i j≠0))
end
end L2
namespace L2
open PySem PySem.Spec PyProof.Rows PySem.W
section
variable {X:Cx}{e a b iter:D2}{es:G0 D2}{u:TXD}{pos p:Pos}{zu:G0 N2}
theorem UH {sts:G0 N2}:JSs X sts YR:=⟨λpins s σ H D I h=>by obtain⟨_,_,_,_,_,f,_⟩:=h;exact False.elim f⟩
end
end L2
namespace L2
open PySem PySem.Spec PyProof.Rows PySem.SeqAt
theorem Sub.over {h h':HD}{a:G4}{ds:G0 D}(sb:Sub h h')(e:h a=none):Sub h (zt h' a ds):=⟨λb xs k=>jg (λz=>by subst z;rw [e] at k;cases k) (sb b xs k),sb.dc⟩
end L2
namespace L2
open PySem PySem.Spec PyProof.Rows PySem.SeqAt HT
open Classical in
noncomputable def readOf (h:S6)(v:G2):C7:=if e: ∃p as,p.canLay0=true/\Reads h v p as then e.choose else .none
end L2
namespace L2
open PySem PySem.Spec PyProof.Rows
def s5:P5->P5
 |0=>0
 |d+1=>5*s5 d+1
def f5 (N:P5):P5->P5->P5
 |0,a=>a
 |d+1,a=>(f5 N d a*5+1)%N
theorem Ws: ∀ (fuel k n:P5),3<=k-> ∃m,3<=m/\SetTable.sizeAbove.go n fuel (2^k)=2^m/\(n<2^(k+fuel)->n<2^m)
 |0,k,n,h=>⟨k,h,rfl,λz=>z⟩
 |fuel+1,k,n,h=>by
  unfold SetTable.sizeAbove.go
  by_cases c:2^k<=n
  ·rw [S1 c,<-Nat.pow_succ];obtain⟨m,a,b,d⟩:=Ws fuel (k+1) n (by omega);exact⟨m,a,b,λz=>d (by rw [Nat.add_right_comm,Nat.add_assoc];exact z)⟩
  ·rw [S9 c];exact⟨k,h,rfl,λ_=>by omega⟩
theorem above {n:P5}(h:n<2^67): ∃m,Q4 n=2^m/\n<Q4 n/\8<=Q4 n:=by
 obtain⟨m,a,b,c⟩:=Ws 64 3 n (by decide);have b:Q4 n=2^m:=b;refine⟨m,b,by rw [b];exact c h,?_⟩;rw [b];exact B3 (show 0<2 by decide) a
end L2
namespace L2
open PySem PySem.Spec PyProof.Rows HT
def QX (h h':S6):Prop:= ∀ (b:G4) (o:Obj),o.cls= .type "tuple" ->h.get? b=some o->h'.get? b=some o
structure MemK (prog:D6)(w:S7)(K:Type)[DecidableEq K] where
 is:S6->K->G4->Prop
 hash:K->P7
 inj: ∀ {h:S6} {x y:K} {a:G4},is h x a->is h y a->x=y
 keep: ∀ {h h':S6} {x:K} {a:G4},QX h h'->is h x a->is h' x a
 hashed: ∀ {A:R8} {E:G2->G3->Prop} {s:G3} {x:K} {a:G4} {Q:P7->G3->Prop},A.units+8<cLine->is s.heap x a->(∀tk,Q (hash x) {s with toks:=tk})->D5 (D8 prog w) A (pyHash (.ref a)) Q E s
 same: ∀ {A:R8} {E:G2->G3->Prop} {s:G3} {x y:K} {a b:G4} {Q:C3->G3->Prop},A.units+8<cLine->is s.heap x a->is s.heap y b->Q (decide (x=y)) s->D5 (D8 prog w) A (eqBool (.ref a) (.ref b)) Q E s
 quiet: ∀ {A:R8} {E:G2->G3->Prop} {s:G3} {x:K} {a:G4} {Q:C3->G3->Prop},is s.heap x a->Q true s->D5 (D8 prog w) A (eqIsQuiet 8 (.ref a)) Q E s
 cls: ∀ {A:R8} {E:G2->G3->Prop} {s:G3} {x:K} {a:G4} {Q:C3->G3->Prop},is s.heap x a->Q false s->D5 (D8 prog w) A (ofAClassStatement 8 (.ref a)) Q E s
 byv: ∀ {A:R8} {E:G2->G3->Prop} {s:G3} {x:K} {a:G4} {Q:C3->G3->Prop},is s.heap x a->Q true s->D5 (D8 prog w) A (hashByValue 8 (.ref a)) Q E s
end L2
namespace L2
open PySem PySem.Spec PyProof.Rows HT PySem.SeqAt
def DD (H:Hp):G0 V->G0 (G0 P7)->Prop
 | [],[]=>True
 |v::vs,r::T=>(∃c,v= .ref c/\H c=some (.tup (r.map V.int)))/\DD H vs T
 |_,_=>False
theorem rows_of {K:G1}{H:Hp}: ∀ {T:G0 (G0 P7)} {vs:G0 V},RelDs K H (T.map wu) vs->DD H vs T
 | [],vs,r=>by
  have:vs= []:=r;subst this;exact E9
 |row::T,vs,r=>by
  obtain⟨v,us,e,r1,r2⟩:=(show ∃v r,vs=v::r/\RelD K H (wu row) v/\RelDs K H (T.map wu) r from r);obtain⟨a,ws,e4,hH,r4⟩:=(show ∃a vs,v= .ref a/\H a=some (.tup vs)/\RelDs K H (row.map D.int) vs from r1);rw [wS r4] at hH;subst e;exact⟨⟨a,e4,hH⟩,rows_of r2⟩
end L2
namespace L2
open PySem PySem.Spec PyProof.Rows PySem.W
structure DefIn (K:Frag)(x:Str)(st:N2)(f:G4)(fd:D4):Prop where
 at_:nsIn K mainGlobals x=some (some (.ref f))
 fn:Fun K x x st f fd
variable {K:Frag}{h base:S6}{mg:Str->G7 G2}{x:Str}{st:N2}{f:G4}{fd:D4}{P:D6}{w:S7}{n:P5}{ps:G0 Str}
theorem DE {oc:G2}{od an:G7 G4}{osl:F3 (G7 G2)}{kV doc pm cdv ct:G2}(a:nsIn K mainGlobals x=some (some (.ref f)))(l:K.lookup f=some ⟨oc,od,.func (fnOf x x (zS st) (jB st) (ja st) .none kV doc pm an cdv ct),osl⟩)
 (c:codeIn K cdv x=true)(k:keepIn K (.ref f)=true):DefIn K x st f (fnOf x x (zS st) (jB st) (ja st) .none kV doc pm an cdv ct):=⟨a,Pf l c k⟩
abbrev DF (x:Str)(st:N2)(ps:G0 Str):Prop:= ∀ (kV doc pm:G2) (an:G7 G4) (cdv ct:G2) (us:G0 G2),us.length=ps.length->fT (fnOf x x (zS st) (jB st) (ja st) .none kV doc pm an cdv ct) ⟨us,[]⟩=pure (ps.zip us)
theorem DefIn.nm (d:DefIn K x st f fd)(X:K.In h)(G:h.Ns mainGlobals mg):mg x=some (.ref f):=mg_of X G d.at_
variable {C:G0 G2->Prop}
theorem ln1 (g: ∀a,C [a]): ∀us:G0 G2,us.length=1->C us
 | [_],_=>g _
theorem ln2 (g: ∀a b,C [a,b]): ∀us:G0 G2,us.length=2->C us
 | [_,_],_=>g _ _
theorem ln3 (g: ∀a b c,C [a,b,c]): ∀us:G0 G2,us.length=3->C us
 | [_,_,_],_=>g _ _ _
theorem ln4 (g: ∀a b c d,C [a,b,c,d]): ∀us:G0 G2,us.length=4->C us
 | [_,_,_,_],_=>g _ _ _ _
theorem ln5 (g: ∀a b c d e,C [a,b,c,d,e]): ∀us:G0 G2,us.length=5->C us
 | [_,_,_,_,_],_=>g _ _ _ _ _
theorem DefIn.cal {sp:RDn}(d:DefIn K x st f fd)(l:OpenLaw)(w:S7)(base:S6)(X:K.In h)(G:h.Ns mainGlobals mg)(ok:FnOk l.prog w K mg base CX0 n f fd ps (LSp K sp))(b:DF x st ps:=by first|exact λ_ _ _ _ _ _=>ln1 λ_=>rfl|exact λ_ _ _ _ _ _=>ln2 λ_ _=>rfl|exact λ_ _ _ _ _ _=>ln3 λ_ _ _=>rfl|exact λ_ _ _ _ _ _=>ln4 λ_ _ _ _=>rfl|exact λ_ _ _ _ _ _=>ln5 λ_ _ _ _ _=>rfl):jz l.prog w K mg base n x ps sp:=⟨_,_,ok,d.fn.binds b,d.fn.kp,d.nm X G⟩
theorem DefIn.rai {sp:RDx}(d:DefIn K x st f fd)(l:OpenLaw)(w:S7)(base:S6)(X:K.In h)(G:h.Ns mainGlobals mg)(ok:FnOk l.prog w K mg base (CXR l.prog w) n f fd ps (Xk mg K sp))(b:DF x st ps:=by first|exact λ_ _ _ _ _ _=>ln1 λ_=>rfl|exact λ_ _ _ _ _ _=>ln2 λ_ _=>rfl|exact λ_ _ _ _ _ _=>ln3 λ_ _ _=>rfl|exact λ_ _ _ _ _ _=>ln4 λ_ _ _ _=>rfl|exact λ_ _ _ _ _ _=>ln5 λ_ _ _ _ _=>rfl):Jk l.prog w K mg base n x ps sp:=⟨_,_,ok,d.fn.binds b,d.fn.kp,d.nm X G⟩
def zsB (K:Frag):C3:= ["len","max","min","divmod","all","any","repr","sum","sorted","int","tuple","list","set","bool","isinstance","range","zip","enumerate","reversed"].all λx=>nsIn K mainGlobals (D7 x)==some none
theorem MB (X:K.In h)(G:h.Ns mainGlobals mg)(e:zsB K=true):Zs mg:=by
 unfold zsB at e;rw [R7] at e;have m:=λ(x:F7) hx=>mg_none_of X G (beq_iff_eq.mp (e x hx))
 exact⟨m "len" (by decide),m "max" (by decide),m "min" (by decide),m "divmod" (by decide),m "all" (by decide),m "any" (by decide),m "repr" (by decide),m "sum" (by decide),m "sorted" (by decide),m "int" (by decide),m "tuple" (by decide),m "list" (by decide),m "set" (by decide),m "bool" (by decide),m "isinstance" (by decide),m "range" (by decide),m "zip" (by decide),m "enumerate" (by decide),m "reversed" (by decide)⟩
end L2
set_option maxRecDepth 35000
namespace L2
open PySem PySem.Spec PyProof.Rows
section
variable {X:Cx}{k i:P5}{ps N Pn:G0 Str}{spd:RDn}{x:Str}{p pos pos':Pos}{e e2 e3 e4 iter elt:D2}{es ifs:G0 D2}{t:TAD}{te te2 te3 te4:TED}{ti:TID}{tt:TTD}{scope sc:N4}{c:D2}
theorem jk (C:jz X.prog X.w X.K X.mg X.base k x ps spd)(hr:Room k X.A)(ha:JA X (e::es) t)(hg:Gl X x:=by rfl)(hdb:(x==("__debug__" :Str))=false:=by decide)(he:G6 (e::es) X.env=(false,N5 e X.env)::G6 es X.env:=by rfl)(hpl:(N6 pos (G6 es X.env)).any (·.1)=false:=by rfl):JE X (.Call (.Name x p) (e::es) [] pos) (dCB spd t):=by
 obtain⟨g,gd,F,hb,hk,hm⟩:=C;exact Mm F hr hg hm hk hb ha hdb he hpl
theorem jxk {spr:RDx}(C:Jk X.prog X.w X.K X.mg X.base k x ps spr)(hr:Room k X.A)(ha:JA X (e::es) t)(hg:Gl X x:=by rfl)(hdb:(x==("__debug__" :Str))=false:=by decide)(he:G6 (e::es) X.env=(false,N5 e X.env)::G6 es X.env:=by rfl)(hpl:(N6 pos (G6 es X.env)).any (·.1)=false:=by rfl):JXE X (.Call (.Name x p) (e::es) [] pos) (Ds spr t):=by
 obtain⟨g,gd,F,hb,hk,hm⟩:=C;exact QJ F hr hg hm hk hb ha hdb he hpl
theorem j1 (a:JE X e te)(h:jJ e=true:=by rfl):JA X [e] (jG te yx):=jac a zX h
theorem j2 (a:JE X e te)(b:JE X e2 te2)(h:jJ e=true:=by rfl)(h2:jJ e2=true:=by rfl):JA X [e,e2] (jG te (jG te2 yx)):=jac a (j1 b h2) h
theorem j3 (a:JE X e te)(b:JE X e2 te2)(c:JE X e3 te3)(h:jJ e=true:=by rfl)(h2:jJ e2=true:=by rfl)(h3:jJ e3=true:=by rfl):JA X [e,e2,e3] (jG te (jG te2 (jG te3 yx))):=jac a (j2 b c h2 h3) h
theorem j4 (a:JE X e te)(b:JE X e2 te2)(c:JE X e3 te3)(d:JE X e4 te4)(h:jJ e=true:=by rfl)(h2:jJ e2=true:=by rfl)(h3:jJ e3=true:=by rfl)(h4:jJ e4=true:=by rfl):JA X [e,e2,e3,e4] (jG te (jG te2 (jG te3 (jG te4 yx)))):=jac a (j3 b c d h2 h3 h4) h
theorem Vo (Z:Zs X.mg)(a:JE X e te)(hg:Gl X "len" :=by rfl)(h:jJ e=true:=by rfl)(he:G6 [e] X.env=(false,N5 e X.env)::G6 [] X.env:=by rfl)(hpl:(N6 pos (G6 [] X.env)).any (·.1)=false:=by rfl):JE X (.Call (.Name "len" p) [e] [] pos) (dCB Uh (jG te yx)):=zZ PR hg Z.len gD (j1 a h) (by decide) (by decide) he hpl
theorem jse (i:P5)(S:FnScope X.N Pn sc)(he:JE X e te)(hi:X.N[i]? =some x:=by rfl)(hx:Loc X.env.scope x:=by first|exact W0 rfl|exact bO rfl)(hs:A2 e (some (.Name x pos')) pos.line X.env=pure false:=by rfl)(hf:X.fn x=true\/X.env.scope.names.lookup x=some .local:=by first|exact .inl rfl|exact .inr rfl|assumption):JS X (.Assign [.Name x pos'] e pos) (Yc i te):=Nm S.nd hi hx he hs hf
theorem jgn (i:P5)(S:FnScope X.N Pn sc)(hi:X.N[i]? =some x:=by rfl)(hx:Loc X.env.scope x:=by first|exact W0 rfl|exact bO rfl)(hf:X.fn x=true\/X.env.scope.names.lookup x=some .local:=by first|exact .inl rfl|exact .inr rfl|assumption):JG X (.Name x pos) (gN i):=QB S.nd hi hx hf
theorem jl0 (i:P5)(S:FnScope X.N Pn sc)(hi:JI X (.Name x p) iter ti)(he: ∀C s₀ H₀ ex,JE (yR X scope C s₀ H₀ ex) elt te)(hc:X.calm=true:=by rfl)(hB:YO X.N X.env.scope.names scope [i]=true:=by rfl)(hx:X.N[i]? =some x:=by rfl)(hl:scope.names.lookup x=some .local\/scope.names.lookup x=some .cell:=by first|exact W0 rfl|exact bO rfl)(hs: ∀x,M4 iter X.env x=pure x:=by intro _;rfl):JE X (.ListComp elt [⟨.Name x p,iter,[],0⟩] scope pos) (Wh (bN i) [i] ti ZH te):=
 jlc hc (vQ hB) hi (S4.mpr rfl) S.nd hx hl (λX' hX=>YX) (λX' hX=>by obtain⟨C,s₀,H₀,ex,rfl⟩:=hX;exact he C s₀ H₀ ex) hs
theorem fsc {N P:G0 Str}(a:sc.kind= .function:=by rfl)(b:sc.isCoroutine=false:=by rfl)(c:sc.isGenerator=false:=by rfl)(d:N.Nodup:=by decide +kernel)(e:N.take P.length=P:=by rfl)(f: ∀x∈P,sc.names.lookup x=some .local\/sc.names.lookup x=some .cell:=by decide +kernel)(g: ∀y∈sc.names,y.2≠ .free:=by decide +kernel):FnScope N P sc:=⟨a,b,c,d,e,f,g⟩
theorem jc1 {op:cC}{f:RD2}(ho:OpQ X (S5 op) f)(ha:JE X e te)(hb:JE X e2 te2)(hm:L0 op e2=false:=by exact Yo _):JE X (.Compare e [op] [e2] pos) (dOp f te te2):=Nk ho ha hb hm
theorem jt1 {op:cC}{f:RD2}(ho:OpQ X (S5 op) f)(ha:JE X e te)(hb:JE X e2 te2)(hm:L0 op e2=false:=by exact Yo _):JT X (.Compare e [op] [e2] pos) (wE (dOp f te te2)):=Qy ho ha hb hm
theorem ji1 (ha:JE X e te)(hb:JE X e2 te2)(hs:yK e2:=by exact λ_ _=>rfl):JE X (.Subscript e e2 pos) (dOp ixD te te2):=jix ha hb hs
theorem jrg {tg:D2}(Z:Zs X.mg)(ha:JE X e te)(hg:Gl X "range" :=by rfl)(h:jJ e=true:=by rfl)(hs:G6 [e] X.env= [(false,N5 e X.env)]:=by rfl):JI X tg (.Call (.Name "range" p) [e] [] pos) (iR1 (jG te yx)):=Ml hg Z.range (j1 ha h) hs
end
section
variable {P:D6}{w:S7}{K:G1}{mg:Str->G7 G2}{base:S6}{x qual:Str}{st:N2}{f:G4}{fd:D4}{N ps:G0 Str}{k:P5}
theorem Fun.okM {spd:RDn}(F:Fun K x qual st f fd)(S:FnScope N ps (ja st)){tb:TSD}(hbody: ∀ {cdv:G2} {A:R8} {outer:G0 Env} {s:G3} {H:Hp} {E:XK},Room k (A.deeper (B1 qual (ja st) s.heap.objs.size f cdv))->JSs (vx CX0 P w K mg base N qual (ja st) f cdv A outer s H E).nox (jB st) tb)
 (read: ∀ds h Q,spd ds h Q->ds.length=ps.length/\tb (vA Q) (jC N ds) h):FnOk P w K mg base CX0 (k+1) f fd ps (LSp K spd):=F.okJ S (λds h Q q=>(read ds h Q q).1) tb (λ_ _ _ _ _ _ hr=>hbody hr) λds h Q q=>(read ds h Q q).2
theorem Fun.okMX {spr:RDx}(F:Fun K x qual st f fd)(S:FnScope N ps (ja st)){tb:TXD}(hbody: ∀ {cdv:G2} {A:R8} {outer:G0 Env} {s:G3} {H:Hp} {E:XK},Room k (A.deeper (B1 qual (ja st) s.heap.objs.size f cdv))->JX (vx (CXR P w) P w K mg base N qual (ja st) f cdv A outer s H E) (jB st) tb)
 (read: ∀ds h R,spr ds h R->ds.length=ps.length/\tb (jC N ds) h R):FnOk P w K mg base (CXR P w) (k+1) f fd ps (Xk mg K spr):=F.okX S (λds h Q q=>(read ds h Q q).1) tb (λ_ _ _ _ _ _ hr=>hbody hr) λds h Q q=>(read ds h Q q).2
end
theorem yq {t u:TSD}{E:EndsD}{σ:SD}{h:HD}(lR:SD)(first: ∀K:SD->HD->Prop,K lR h->t {E with nx:=K} σ h)(zu:u E lR h):zV t u E σ h:=first (u E) zu
theorem sz0:0<=sizeLine:=by decide
theorem sz1:1<=sizeLine:=by decide
theorem sz2:2<=sizeLine:=by decide
theorem sz3:3<=sizeLine:=by decide
theorem sz4:4<=sizeLine:=by decide
section
variable {X:Cx}{s0 s1 s2 s3 s4 s5 s6 s7:N2}{t0 t1 t2 t3 t4 t5 t6 t7:TSD}{c:D2}{tc:TTD}{pos:Pos}
theorem js2 (a:JS X s0 t0)(b:JS X s1 t1):JSs X [s0,s1] (zV t0 t1):=(jq a (jL b))
theorem js3 (a:JS X s0 t0)(b:JS X s1 t1)(c:JS X s2 t2):JSs X [s0,s1,s2] (zV t0 (zV t1 t2)):=(jq a (jq b (jL c)))
theorem js4 (a:JS X s0 t0)(b:JS X s1 t1)(c:JS X s2 t2)(d:JS X s3 t3):JSs X [s0,s1,s2,s3] (zV t0 (zV t1 (zV t2 t3))):=(jq a (jq b (jq c (jL d))))
theorem js5 (a:JS X s0 t0)(b:JS X s1 t1)(c:JS X s2 t2)(d:JS X s3 t3)(e:JS X s4 t4):JSs X [s0,s1,s2,s3,s4] (zV t0 (zV t1 (zV t2 (zV t3 t4)))):=(jq a (jq b (jq c (jq d (jL e)))))
theorem js7 (a:JS X s0 t0)(b:JS X s1 t1)(c:JS X s2 t2)(d:JS X s3 t3)(e:JS X s4 t4)(f:JS X s5 t5)(g:JS X s6 t6):JSs X [s0,s1,s2,s3,s4,s5,s6] (zV t0 (zV t1 (zV t2 (zV t3 (zV t4 (zV t5 t6)))))):=(jq a (jq b (jq c (jq d (jq e (jq f (jL g)))))))
theorem js8 (a:JS X s0 t0)(b:JS X s1 t1)(c:JS X s2 t2)(d:JS X s3 t3)(e:JS X s4 t4)(f:JS X s5 t5)(g:JS X s6 t6)(h:JS X s7 t7):JSs X [s0,s1,s2,s3,s4,s5,s6,s7] (zV t0 (zV t1 (zV t2 (zV t3 (zV t4 (zV t5 (zV t6 t7))))))):=(jq a (jq b (jq c (jq d (jq e (jq f (jq g (jL h))))))))
theorem Jl (hc:JT X c tc)(h:JS X s0 t0):JS X (.If c [s0] [] pos) (VG tc t0 vz):=Re hc (jL h) Wn
end
end L2
namespace L2
open PySem PySem.Spec PyProof.Rows PySem.SeqAt HT
def Bh (te:TED):TED:=λσ h Q=>te σ h λx h1=> ∃a xs,x= .lst a/\h1 a=some xs/\ ∀p,h1 p=none->Q (.lst p) (zt h1 p xs.reverse)
theorem Bi {X:Cx}{e:D2}{te:TED}{pos p2 p3 p4:Pos}{j:P5}(he:JE X e te):JE X (.Subscript e (.Slice none none (some (.UnaryOp .USub (.Constant (.int 1) j p4) p3)) p2) pos) (Bh te):=⟨by
 intro pins s σ H Q I h;obtain⟨lI,h,Qd,rs,rh,t,p⟩:=h;refine dF (thn (he.to pins s σ H _ I (LE.bind rs rh t λd v h1 H1 k1 rs1 rh1 r1 q1=>(show ∃h1 d,RelS X.K H1 lI σ/\RelH X.K h1 H1/\RelD X.K H1 d v/\Kept H H1/\ ∃a xs,d= .lst a/\h1 a=some xs/\ ∀p,h1 p=none->Qd (.lst p) (zt h1 p xs.reverse) from ⟨h1,d,rs1,rh1,r1,k1,q1⟩))) λv s1 ⟨x,H1,I1,r1,h1,d,rs1,rh1,rd,k1,a,xs,ed,hx,q1⟩=> ?_);subst ed;have ex:x= .ref a:=rd.1;subst ex;cases r1;refine fB ?_;rw [aP];refine P1 (P1 ?_);rw [c5];have hneg:LE X.K (dUn Gr (dC (.int 1))) σ H1 (λv H'=>v=V.int (-1)/\RelH X.K h1 H'/\Kept H1 H'):=
  ⟨lI,h1,λd h'=>d= .int (-1)/\h'=h1,rs1,rh1,⟨rfl,rfl⟩,λd v h' H' k rh' r' e=>by
   obtain⟨e1,e2⟩:=e;subst e1 e2;exact⟨r',rh',k⟩⟩
 refine thn ((Mi (RJ (X:=X) (i:=1) (j:=j) (pos:=p4)) (pos:=p3)) pins s1 σ H1 _ I1 hneg) λu s2 ⟨y,H2,I2,ry,ey,rh2,k2⟩=> ?_
 subst ey;obtain⟨tk,rfl⟩:=ry;have I4:Inv X pins σ H2 {s2 with heap:=s2.heap.push {cls:= .type "slice",data:= .fields #[.none,.none,.int (-1) tk]}}:=I2.kept (t':=s2.toks) λb ob q=>G5 _ q
 obtain⟨vs,hH,r3⟩:=rh2 a _ hx;obtain⟨its,r,ht,hz⟩:=I4.list (SqL.of hH);have hlen:its.toArray.size=vs.length:=by rw [P3];exact r.length.symm
 show D5 (D8 X.prog X.w) X.A (aQ e (.Slice none none (some (.UnaryOp .USub (.Constant (.int 1) j p4) p3)) p2) (.ref a) (.ref s2.heap.objs.size)) (EP X pins σ Q) X.xe {s2 with heap:=s2.heap.push {cls:= .type "slice",data:= .fields #[.none,.none,.int (-1) tk]}};refine fU (ops:= [.ref a,.ref s2.heap.objs.size]) ht.isList.typeIs slot_list_getitem.lookup ?_ (by with_unfolding_all rfl);refine aR (lo:=none) (hi:=none) (st:=some (-1)) ht.isList (Z0 ..) .none .none (.int (-1) tk) (by intro z;injection z with z;omega) ?_ (by rw [hlen];exact hz);have hf:=I4.hok.fresh (G8 _);rw [kY];refine⟨.ref _,_,I4.laid (t':=s2.toks) (o:= .lst vs.reverse) (λb ob q=>G5 _ q) (G8 _) ⟨by rw [K1];exact hz,_,0,Vals.rev r,R9 _ rfl⟩,rfl,?_⟩;exact p (.lst _) _ _ _ (k1.trans (k2.trans (.new hf))) (rh2.newL hf r3.rev) ⟨rfl,_,jf⟩ (q1 _ (rh2.free hf))⟩
end L2
namespace L2
open PySem PySem.Spec PyProof.Rows
def MC:RD2:=λx y h Q=>match x,y with
 | .str a,.str b=>a.length+b.length<=sizeLine/\Q (.str (a++b)) h
 |_,_=>False
def Bj:RD2:=λx y h Q=>match x,y with
 | .str a,.str b=> ∃c,a=⟨#[c]⟩/\Q (.bl (decide (c∈b.cps.toList))) h
 |_,_=>False
def MD:RD2:=λx y h Q=>match x,y with
 | .str a,.int n=>a.length*n.toNat<=16777216/\0<=n/\n<=16777216/\Q (.str (iC a n)) h
 |_,_=>False
def Bk:RD2:=λx y h Q=>match x,y with
 | .str a,.int i=> ∃c,a.length<=sizeLine/\atI a.cps.toList i=some c/\Q (.str ⟨#[c]⟩) h
 |_,_=>False
def ME:RDn:=λds h Q=> ∃z,ds= [.str z]/\z.length<=sizeLine/\Q (.int z.length) h
def MF:RDn:=λds h Q=> ∃i,ds= [.int i]/\i.natAbs.log2<1920/\Q (.str (toString i)) h
def MG:RDn:=λds h Q=> ∃z n,ds= [.str z]/\z.length<=640/\i0 z=some n/\Q (.int n) h
section
variable {X:Cx}
theorem Vp:OpQ X (N7 .Add) MC:=op_add_str.imp λx y H Q ⟨dx,dy,h,Qd,rx,ry,rh,q,p⟩=>by
 cases dx<;>first|exact False.elim q|(cases dy<;>first|exact False.elim q|skip)
 exact⟨_,_,rx,ry,q.1,p (.str _) _ _ _ (.refl H) rh rfl q.2⟩
theorem DG:OpQ X (S5 .In) Bj:=op_in_str.imp λx y H Q ⟨dx,dy,h,Qd,rx,ry,rh,q,p⟩=>by
 cases dx<;>first|exact False.elim q|(cases dy<;>first|exact False.elim q|skip)
 obtain⟨c,rfl,q⟩:=q;exact⟨_,_,rx,ry,by rw [StrLaws.found_one];exact p (.bl _) _ _ _ (.refl H) rh rfl q⟩
theorem op_mul_txt:OpR X (N7 .Mult) (λx y H Q=> ∃z n,x= .str z/\y= .int n/\z.length*n.toNat<=16777216/\0<=n/\n<=16777216/\Q (.str (iC z n)) H):=by
 intro pins s σ H x y v u Q I rx ry h;obtain⟨z,n,rfl,rfl,hz,h0,h1,q⟩:=h;obtain⟨t,rfl⟩:=rx;obtain⟨t',rfl⟩:=ry;exact SB.mul (iJ z.length n.toNat (G8 _) (by omega) (by omega) (by omega) hz) λt' k=>⟨.str _,H,I.kept λ_ _ e=>e,⟨_,rfl⟩,q⟩
theorem QY:OpQ X (N7 .Mult) MD:=op_mul_txt.imp λx y H Q ⟨dx,dy,h,Qd,rx,ry,rh,q,p⟩=>by
 cases dx<;>first|exact False.elim q|(cases dy<;>first|exact False.elim q|skip)
 exact⟨_,_,rx,ry,q.1,q.2.1,q.2.2.1,p (.str _) _ _ _ (.refl H) rh rfl q.2.2.2⟩
theorem QZ:wx X (.builtin "len") ME:=call_len_str.imp λxs H Q ⟨ds,h,Qd,r,rh,⟨z,e,hz,q⟩,p⟩=>by
 subst e;obtain⟨v,e,r1⟩:=jr r;subst e;exact⟨z,congrArg (λv=> [v]) r1,hz,p (.int _) _ _ _ (.refl H) rh rfl q⟩
theorem Vq:wx X (.type "str") MF:=call_str_int.imp λxs H Q ⟨ds,h,Qd,r,rh,⟨z,e,hz,q⟩,p⟩=>by
 subst e;obtain⟨v,e,r1⟩:=jr r;subst e;exact⟨z,congrArg (λv=> [v]) r1,hz,p (.str _) _ _ _ (.refl H) rh rfl q⟩
theorem call_int_txt:CallR X (.type "int") (λxs H Q=> ∃z n,xs= [.str z]/\z.length<=640/\i0 z=some n/\Q (.int n) H):=by
 intro pins s σ H xs us Q I r h;obtain⟨z,n,rfl,hz,hn,q⟩:=h;obtain⟨u,rfl,t,rfl⟩:=wP r;exact PySem.W.KIN.call_text hn hz ⟨.int n,H,I.tok _,⟨_,rfl⟩,q⟩
theorem Ga:wx X (.type "int") MG:=call_int_txt.imp λxs H Q ⟨ds,h,Qd,r,rh,⟨z,n,e,hz,hn,q⟩,p⟩=>by
 subst e;obtain⟨v,e,r1⟩:=jr r;subst e;exact⟨z,n,congrArg (λv=> [v]) r1,hz,hn,p (.int _) _ _ _ (.refl H) rh rfl q⟩
theorem MH {a b:D2}{ta tb:TED}{pos:Pos}(ha:JE X a ta)(hb:JE X b tb)(hs:yK b):JE X (.Subscript a b pos) (dOp Bk ta tb):=⟨(Pa UT ha.to hb.to hs).imp λσ H Q ⟨lI,h,Qd,rs,rh,t,p⟩=>
 LE.bind rs rh t λdx x h1 H1 k1 rs1 rh1 r1 t1=>LE.bind rs1 rh1 t1 λdy y h2 H2 k2 rs2 rh2 ry q=>by
  have rx:=r1.mono k2;cases dx<;>first|exact False.elim q|(cases dy<;>first|exact False.elim q|skip)
  obtain⟨c,hz,e,q⟩:=q;exact⟨_,_,c,rx,ry,hz,e,p (.str _) _ _ _ (k1.trans k2) rh2 rfl q⟩⟩
theorem DH {x:Str}{s:Str}{tk:Tok}{pos:Pos}(hg:Gl X x)(hm:X.mg x=some (.str s tk))(hd:(x==("__debug__" :Str))=false:=by decide):JE X (.Name x pos) (dC (.str s)):=
 ⟨(ZD hg hm (show RelV (.str s) (.str s tk) from ⟨_,rfl⟩) hd).imp λσ H Q ⟨lI,h,Qd,rs,rh,q,p⟩=>p (.str s) _ _ _ (.refl H) rh rfl q⟩
end
theorem vU {K:G1}{H:Hp}: ∀ {ys:G0 Str} {vs:G0 V},RelDs K H (ys.map D.str) vs->vs=ys.map V.str
 | [],vs,r=>r
 |y::ys,vs,r=>by
  obtain⟨v,t,rfl,r1,r2⟩:=(show ∃v t,vs=v::t/\RelD K H (.str y) v/\RelDs K H (ys.map D.str) t from r);rw [show v= .str y from r1,vU r2];rfl
theorem vV {K:G1}{H:Hp}: ∀ys:G0 Str,RelDs K H (ys.map D.str) (ys.map V.str)
 | []=> .nil
 |y::ys=> .cons rfl (vV ys)
theorem Zf: ∀ {ys:G0 Str} {us:G0 G2},Vals (ys.map V.str) us->StrsAre us ys
 | [],_,.nil=> .nil
 |y::ys,_,.cons r t=>by obtain⟨k,rfl⟩:=r;exact .cons y k (Zf t)
theorem va: ∀l:G0 (Str×Tok),Vals ((l.map (·.1)).map V.str) (g9 l)
 | []=> .nil
 |p::r=> .cons ⟨p.2,rfl⟩ (va r)
section
variable {X:Cx}
theorem Gb:MtM X "str.join" (λx vs H Q=> ∃z a ys,x= .str z/\vs= [.ref a]/\H a=some (.lst (ys.map V.str))/\(ys.map (·.length)).sum+ys.length*z.length<=16777216/\Q (.str (cN z ys)) H):=by
 intro pins s σ H x vs v us Q I rx rv h;obtain⟨z,a,ys,rfl,rfl,hH,hw,q⟩:=h;obtain⟨t,rfl⟩:=rx;obtain⟨u,rfl,ru⟩:=wP rv;cases ru;obtain⟨its,n,r,e,_⟩:=I.lst hH;exact join_list ⟨_,e,rfl,n,rfl⟩ (Zf r) hw λt' k=>⟨.str _,H,I.kept λ_ _ e=>e,⟨_,rfl⟩,q⟩
theorem UI:MtM X "str.split" (λx vs H Q=> ∃z y,x= .str z/\vs= [.str y]/\1<=y.length/\z.length+2<=sizeLine/\ ∀p,H p=none->Q (.ref p) (upd H p (.lst ((F2 z y).map V.str)))):=by
 intro pins s σ H x vs v us Q I rx rv h;obtain⟨z,y,rfl,rfl,hy,hz,q⟩:=h;obtain⟨t,rfl⟩:=rx;obtain⟨u,rfl,t',rfl⟩:=wP rv;have few:=split_weight z y hy;have laid: ∀ (l:G0 (Str×Tok)) (k:P5),l.map (·.1)=F2 z y->EP X pins σ Q (.ref s.heap.objs.size) {s with heap:=s.heap.push {cls:= .type "list",data:= .seq (g9 l).toArray},toks:=k}:=λl k e=>
  ⟨.ref _,_,I.laid (t':=k) (o:= .lst ((F2 z y).map V.str)) (λb ob q=>G5 _ q) (G8 _) ⟨by rw [G9];omega,g9 l,0,by rw [<-e];exact va l,R9 _ rfl⟩,rfl,q _ (I.hok.fresh (G8 _))⟩
 have ne:(y.length==0)=false:=beq_eq_false_iff_ne.mpr (by omega);have of: ∀ {S:PySem.Spec},Meets (Builtin.«str.split» ⟨[.str z t,.str y t'],[]⟩) S->S X.A (wants (EP X pins σ Q) X.xe) s->D5 (D8 X.prog X.w) X.A (call (.builtin "str.split") [.str z t,.str y t']) (EP X pins σ Q) X.xe s:=λm h=>
  Z2 bS (fV s z t) hG (gX _ _) m h
 by_cases c:(decide (z.length<y.length)||decide (Builtin.Str.strKind z<Builtin.Str.strKind y))=true
 ·exact of (meets_str_split_cannot_occur z y t t' c) (laid [(z,t)] s.toks (S1 c).symm)
 ·have c':=V2.mpr c;have cut:F2 z y=_:=S9 c
  by_cases f:(A4 z y 0 z.length (z.length+1)).isEmpty=true
  ·exact of (meets_str_split_not_found z y t t' c' ne f) (laid [(z,t)] s.toks (cut.trans (S1 f)).symm)
  ·have cut:=cut.trans (S9 f);have far:=congrArg cG cut;have w:=laid (numbered s.toks (gY z (A4 z y 0 z.length (z.length+1)) y.length));refine of (meets_str_split_sep z y t t' c' ne (V2.mpr f) (by omega) (by rw [<-far];omega)) ?_;have ww:=λk=>w k ((numbered_texts _ _).trans cut.symm)
   rw [<-strsFrom_eq] at ww;exact ww _
def DI (to te:TED):TED:=λσ h Q=>to σ h λx h1=> ∃z,x= .str z/\te σ h1 λy h2=> ∃a ys,y= .lst a/\h2 a=some (ys.map D.str)/\(ys.map (·.length)).sum+ys.length*z.length<=16777216/\Q (.str (cN z ys)) h2
def DJ (to te:TED):TED:=λσ h Q=>to σ h λx h1=> ∃z,x= .str z/\te σ h1 λw h2=> ∃y,w= .str y/\1<=y.length/\z.length+2<=sizeLine/\ ∀p,h2 p=none->Q (.lst p) (zt h2 p ((F2 z y).map D.str))
variable {o e:D2}{to te:TED}{apos cpos:Pos}
theorem DK (ho : JE X o to) (he : JE X e te) (hbase : O7 o "join" X.env (N5 o X.env) = N5 o X.env := by rfl)
    (hfew : ((N6 cpos (G6 [e] X.env)).all (fun x => !x.1) && (Z1 cpos (J4 [] X.env)).all (fun x => x.1.isSome) && decide ([e].length + ([] : G0 A8).length + (if ([] : G0 A8).isEmpty then 0 else 1) < 30)) = true := by rfl)
    (hline : (apos.endLine == cpos.line) = true := by rfl) (hs : G6 [e] X.env = (false, N5 e X.env) :: G6 [] X.env := by rfl) (hplain : (N6 cpos (G6 [] X.env)).any (·.1) = false := by rfl) :
    JE X (.Call (.Attribute o "join" apos) [e] [] cpos) (DI to te) :=
  ⟨(Yw bT iK iM Gb ho.to (jT he.to pa_nil hs) hbase hfew hline hs hplain).imp
    fun σ H Q ⟨lI, h, Qd, rs, rh, t, p⟩ => LE.bind rs rh t fun d v h1 H1 k1 rs1 rh1 r1 ⟨z, e, q⟩ => by
      subst e
      have ev : v = .str z := r1
      subst ev
      refine ⟨rfl, LE.bind rs1 rh1 q fun y u h2 H2 k2 rs2 rh2 r2 ⟨a, ys, e, hd, hw, q2⟩ => ?_⟩
      subst e
      obtain ⟨ws, hW, rW⟩ := rh2 a _ hd
      have eu : u = .ref a := r2.1
      subst eu
      exact ⟨z, a, ys, rfl, rfl, by rw [hW, vU rW], hw, p (.str _) _ _ _ (k1.trans k2) rh2 rfl q2⟩⟩
theorem Xm (ho : JE X o to) (he : JE X e te) (hbase : O7 o "split" X.env (N5 o X.env) = N5 o X.env := by rfl)
    (hfew : ((N6 cpos (G6 [e] X.env)).all (fun x => !x.1) && (Z1 cpos (J4 [] X.env)).all (fun x => x.1.isSome) && decide ([e].length + ([] : G0 A8).length + (if ([] : G0 A8).isEmpty then 0 else 1) < 30)) = true := by rfl)
    (hline : (apos.endLine == cpos.line) = true := by rfl) (hs : G6 [e] X.env = (false, N5 e X.env) :: G6 [] X.env := by rfl) (hplain : (N6 cpos (G6 [] X.env)).any (·.1) = false := by rfl) :
    JE X (.Call (.Attribute o "split" apos) [e] [] cpos) (DJ to te) :=
  ⟨(Yw bT bS iD UI ho.to (jT he.to pa_nil hs) hbase hfew hline hs hplain).imp
    fun σ H Q ⟨lI, h, Qd, rs, rh, t, p⟩ => LE.bind rs rh t fun d v h1 H1 k1 rs1 rh1 r1 ⟨z, e, q⟩ => by
      subst e
      have ev : v = .str z := r1
      subst ev
      refine ⟨rfl, LE.bind rs1 rh1 q fun y u h2 H2 k2 rs2 rh2 r2 ⟨w, e, hy, hz, q2⟩ => ?_⟩
      subst e
      have eu : u = .str w := r2
      subst eu
      exact ⟨z, w, rfl, rfl, hy, hz, fun a ha => p (.lst a) _ _ _ ((k1.trans k2).trans (.new ha)) (rh2.newL ha (vV _)) ⟨rfl, _, jf⟩ (q2 a (rh2.free ha))⟩⟩
def Its (z:Str):It:=⟨λi _=>i<z.cps.size,λi H x H'=>H'=H/\ ∃c,z.cps[i]? =some c/\x= .str ⟨#[c]⟩,λi _=>z.cps.size<=i⟩
theorem UJ {P:D6}{w:S7}{K:G1}{tg:D2}(it:G4)(z:Str)(t:Tok)(ty:F7)(hty:ty= "str_ascii_iterator" \/ty= "str_iterator"):Turn P w K tg (Its z) [it] it (λi h=>h.IsStrIter it ty z t i) where
 mem:=by simp
 obj:=λi h st b hb=>by
  have e:b=it:=by simpa using hb
  subst e;obtain⟨o,e,c,d⟩:=st;exact⟨o,e,λv z=>by rw [d] at z;cases z⟩
 keep:=λi h h' st k=>let ⟨o,e,r⟩:=st;⟨o,k it (by simp) o e,r⟩
 item:=by
  intro X hP hw hK hc i pins s σ H E I hf st hg;subst hP hw hK;obtain⟨f0,f1,f2,f3,f4,f5⟩:=hf it (by simp);have hx:z.cps[i]? =some z.cps[i]:=aG hg;have fin: ∀h',h'.IsStrIter it ty z t (i+1)->X4 it s.heap h'-> ∃u,(some (X7 ⟨#[z.cps[i]]⟩ s.toks):G7 G2)=some u/\
   D5 (D8 X.prog X.w) X.A (E3 tg (.ref it) u) (λ_ s2=> ∃x H',Inv X pins σ H' s2/\RelV x u/\(Its z).yld i H x H'/\s2.heap.IsStrIter it ty z t (i+1)/\ ∀b∈ [it],H' b=none) E {s with heap:=h',toks:=s.toks+1}:=λh' st' sb=>by
   have I1:Inv X pins σ H {s with heap:=h',toks:=s.toks+1}:=I.turned (λb o hb e=>(sb.2 b hb).trans e) f0 f1 f3 f4 f5;obtain⟨o,e,c,d⟩:=id st';exact⟨_,rfl,VO (s:= {s with heap:=h',toks:=s.toks+1}) e c d (by rcases hty with e|e<;>subst e<;>decide) ⟨.str ⟨#[z.cps[i]]⟩,H,I1,⟨_,rfl⟩,⟨rfl,_,hx,rfl⟩,st',λb hb=>(hf b hb).1⟩⟩
  rcases hty with e|e<;>subst e
  ·exact wpAny_pyNext_ascii_item st hx fin
  ·exact wpAny_pyNext_wide_item st hx fin
 done:=by
  intro X hP hw hK hc i pins s σ H E I hf st hg;subst hP hw hK;obtain⟨f0,f1,f2,f3,f4,f5⟩:=hf it (by simp);have hx:z.cps[i]? =none:=bR hg;have fin: ∀h',Heap.ExtBut it s.heap h'->((none:G7 G2)=none/\Inv X pins σ H {s with heap:=h'}):=λh' eb=>⟨rfl,I.turned (t':=s.toks) (λb o hb e=>eb b o hb e) f0 f1 f3 f4 f5⟩
  rcases hty with e|e<;>subst e
  ·exact wpAny_pyNext_ascii_end (I.ok.hd hc) st hx fin
  ·exact wpAny_pyNext_wide_end (I.ok.hd hc) st hx fin
 self:=λ_ _ _ _ _ st h=>by
  rcases hty with e|e<;>subst e
  ·exact wpAny_pyIter_striter_ascii st h
  ·exact wpAny_pyIter_striter_wide st h
def Bl (te:TE):TI:=λσ H R=>te σ H λx H1=> ∃z,x= .str z/\R (Its z) H1
theorem DL {tg:D2}{te:TE}(he:PE X e te):PI X tg e (Bl te):=by
 intro pins s σ H R I h;refine thn (he pins s σ H _ I h) λv s1 ⟨x,H1,I1,r1,z,ex,q⟩=> ?_
 subst ex;obtain⟨t,rfl⟩:=r1;have fin: ∀ty,(ty= "str_ascii_iterator" \/ty= "str_iterator")->PIE X pins σ tg R (.ref s1.heap.objs.size) {s1 with heap:=s1.heap.push {cls:= .type ty,data:= .fields #[.str z t,.int 0 0]}}:=λty hty=>
  ⟨s1.heap.objs.size,[s1.heap.objs.size],_,_,H1,rfl,I1.kept (t':=s1.toks) λb o e=>G5 _ e,UJ _ z t ty hty,⟨_,R9 _ rfl,rfl,rfl⟩,λb hb=>by
   have e:b=s1.heap.objs.size:=by simpa using hb
   subst e;exact I1.fpOk (G8 _) (I1.hok.fresh (G8 _)),q⟩
 by_cases c:z.cps.all (· <128)=true
 ·exact wpAny_pyIter_ascii c (fin _ (.inl rfl))
 ·exact wpAny_pyIter_wide (V2.mpr c) (fin _ (.inr rfl))
def DM (z:Str):G0 D:=z.cps.toList.map λ(c:P5)=>D.str ⟨#[c]⟩
def iSg (te:TED):TID:=λσ h R=>te σ h λx h1=> ∃z,x= .str z/\R (λ_=>some (DM z)) h1
theorem UK {K:G1}(H:Hp)(z:Str):Qj K H (λ_=>some (DM z)) (Its z):=λH' h' k rh ds' e i=>by
 cases e;have hl:(DM z).length=z.cps.size:=by unfold DM;rw [G9,B0]
 refine⟨λd hd=> ?_,λh=>by show z.cps.size<=i;omega⟩;have hi:i<z.cps.size:=by have:=(D0.mp hd).1;omega
 refine⟨hi,λx H'' ⟨eH,c,hc,hx⟩=> ?_⟩;subst eH hx;unfold DM at hd;rw [R6,b9,hc] at hd;cases hd;exact⟨.refl _,rh,rfl⟩
theorem DN {tg:D2}(he:JE X e te):JI X tg e (iSg te):=⟨(DL he.to).imp λσ H R ⟨lI,h,Rd,rs,rh,q,p⟩=>
 LE.bind rs rh q λd v h1 H1 k1 rs1 rh1 r1 ⟨z,e,q1⟩=>by
  subst e;exact⟨z,r1,p _ _ _ _ k1 rh1 (UK H1 z) q1⟩⟩
def Xn (to te:TED):TED:=λσ h Q=>DI to te σ h λx h'=> ∃a,Q x (Jd h' a)
theorem Wt (ho:JE X o to)(he:JE X e te)(hbase:O7 o "join" X.env (N5 o X.env)=N5 o X.env:=by rfl)
 (hfew:((N6 cpos (G6 [e] X.env)).all (λx=> !x.1)&&(Z1 cpos (J4 [] X.env)).all (λx=>x.1.isSome)&&decide ([e].length+([]:G0 A8).length+(if ([]:G0 A8).isEmpty then 0 else 1)<30))=true:=by rfl)
 (hline:(apos.endLine==cpos.line)=true:=by rfl)(hs:G6 [e] X.env=(false,N5 e X.env)::G6 [] X.env:=by rfl)(hplain:(N6 cpos (G6 [] X.env)).any (·.1)=false:=by rfl):
 JE X (.Call (.Attribute o "join" apos) [e] [] cpos) (Xn to te):=
 ⟨(DK ho he hbase hfew hline hs hplain).to.imp λσ H Q ⟨lI,h,Qd,rs,rh,t,p⟩=>⟨lI,h,_,rs,rh,t,λd v h' H' k rh' rd ⟨a,q⟩=>p d v (Jd h' a) H' k (rh'.sub Uw) rd q⟩⟩
theorem UL {α:Type}{i:P5}{js:G0 P5}{ti:TID}{σ:SD}{h:HD}{Q:KD}{j:ItD}{z:Str}(xs:G0 α)(c:α->D)(g:α->Str)(hz:xs.length<=1000)(hw:((xs.map g).map (·.length)).sum+(xs.map g).length*z.length<=16777216)(hj:j h=some (xs.map c))(ht: ∀R:ItD->HD->Prop,R j h->ti σ h R)
 (he: ∀x∈xs,∀Q':KD,Q' (.str (g x)) h->te ((zU js σ).set i (some (c x))) h Q')(hq:Q (.str (cN z (xs.map g))) h):Xn (dC (.str z)) (Wh (bN i) js ti ZH te) σ h Q:=
 ⟨z,rfl,lcA xs c (λx=> .str (g x)) hz hj ht he λp hp=>⟨p,xs.map g,rfl,by rw [jb,L5];rfl,hw,p,by rw [zx hp];exact hq⟩⟩
end
end L2
namespace L2
open PySem PySem.Spec PyProof.Rows PySem.NumText
structure Pl (b:P5)(z:Str):Prop where
 len:z.length<=b
 sg: ∀c∈z.cps.toList,32<=c/\c<=126
variable {b:P5}
theorem Pl.mono {a:P5}{z:Str}(h:Pl a z)(l:a<=b):Pl b z:=⟨R4 h.len l,h.sg⟩
theorem vb (a b:Str):(a++b).cps.toList=a.cps.toList++b.cps.toList:=by rw [Str.cps_append,X1]
theorem Pl.cat {a:P5}{x y:Str}(h:Pl a x)(g:Pl b y):Pl (a+b) (x++y):=
 ⟨by rw [Str.length_append];have:=h.len;have:=g.len;omega,λc hc=>by rw [vb] at hc;exact(T2.mp hc).elim (h.sg c) (g.sg c)⟩
theorem Pl.join {s:P5}{sep:Str}(hs:Pl s sep): ∀ {ys:G0 Str},(∀y∈ys,Pl b y)->Pl (ys.length*(b+s)) (V3 sep ys)
 | [],_=>⟨U0 _,λc hc=>by cases hc⟩
 | [x],h=>(h x P8).mono (by simp only [E6];omega)
 |x::y::r,h=>(((h x P8).cat hs).cat (Pl.join hs λz hz=>h z (P9 _ hz))).mono (by simp only [R1,dX];omega)
theorem Pl.lay {z:Str}(h:Pl b z):cO (.str z)=true:=by
 show z.cps.all (· <0x110000)=true;rw [<-Array.all_toList,R7];exact λc hc=>R5 (by have:=(h.sg c hc).2;omega)
theorem Pl.showB {z:Str}(h:Pl b z):ShowB (.str z) 0 (10*b+2):=by
 refine⟨rfl,by simp [K0],R4 (StrLaws.reprText_len z λc hc=> ?_) (by have:=h.len;omega)⟩;have:=(h.sg c hc).2;exact A9 this (by decide)
variable {c:P5}
theorem Wu: ∀ {a a' r r':G0 P5},c ∉ a->c ∉ a'->a++c::r=a'++c::r'->a=a'/\r=r'
 | [],[],_,_,_,_,e=>⟨rfl,by injection e⟩
 | [],x::a',_,_,_,h',e=>absurd (P0.mpr (.inl (by injection e))) h'
 |x::a,[],_,_,h,_,e=>absurd (P0.mpr (.inl (by injection e with e;exact e.symm))) h
 |x::a,y::a',r,r',h,h',e=>by
  injection e with e1 e2
  obtain⟨z1,z2⟩:=Wu (λm=>h (P9 _ m)) (λm=>h' (P9 _ m)) e2;exact⟨by rw [e1,z1],z2⟩
theorem ZQ {a b:Str}(h:a.cps.toList=b.cps.toList):a=b:=Str.ext' (Array.toList_inj.mp h)
theorem Jm (c:P5)(x y:Str)(r:G0 Str):(V3 ⟨#[c]⟩ (x::y::r)).cps.toList=x.cps.toList++c::(V3 ⟨#[c]⟩ (y::r)).cps.toList:=by
 show (x++⟨#[c]⟩++V3 ⟨#[c]⟩ (y::r)).cps.toList=_;rw [vb,vb];simp
theorem Zg {c:P5}: ∀ {xs ys:G0 Str},xs≠ []->ys≠ []->(∀x∈xs,c ∉ x.cps.toList)->(∀y∈ys,c ∉ y.cps.toList)->V3 ⟨#[c]⟩ xs=V3 ⟨#[c]⟩ ys->xs=ys
 | [],_,h,_,_,_,_=>absurd rfl h
 |_,[],_,h,_,_,_=>absurd rfl h
 | [x],[y],_,_,_,_,e=>by rw [show x=y from e]
 | [x],y::y'::r,_,_,h,_,e=>by
  have z:=congrArg (λs:Str=>s.cps.toList) e;simp only [Jm] at z;exact absurd (by rw [show x.cps.toList=_ from z];simp) (h x P8)
 |x::x'::r,[y],_,_,_,h,e=>by
  have z:=congrArg (λs:Str=>s.cps.toList) e;simp only [Jm] at z;exact absurd (by rw [show y.cps.toList=_ from z.symm];simp) (h y P8)
 |x::x'::r,y::y'::t,_,_,hx,hy,e=>by
  have z:=congrArg (λs:Str=>s.cps.toList) e;simp only [Jm] at z;obtain⟨z1,z2⟩:=Wu (hx x P8) (hy y P8) z;rw [ZQ z1,Zg (c:=c) (λz=>by cases z) (λz=>by cases z) (λw hw=>hx w (P9 _ hw)) (λw hw=>hy w (P9 _ hw)) (ZQ z2)]
theorem UM (z y:Str):F2 z y≠ []:=by
 unfold F2;split
 ·exact bE _ _
 ·split
  ·exact bE _ _
  ·obtain⟨p,r,e⟩:=StrLaws.partsFrom_ne z y.length 0 (A4 z y 0 z.length (z.length+1));rw [StrLaws.partsBetween_eq,e];exact bE _ _
theorem vW (c:P5){ys:G0 Str}(ne:ys≠ [])(hf: ∀y∈ys,c ∉ y.cps.toList):F2 (V3 ⟨#[c]⟩ ys) ⟨#[c]⟩=ys:=
 Zg (UM _ _) ne (StrLaws.split_free _ _) hf (StrLaws.join_split _ _)
def num (n:P7):Str:=D7 (toString n)
variable {n:P7}
theorem Wv (h0:0<=n):(num n).cps.toList=(iE 10 n.toNat).map Char.toNat:=by
 obtain⟨m,rfl⟩:=Int.eq_ofNat_of_zero_le h0;exact PySem.W.KIN.signs_num m
theorem ZR (h0:0<=n):AllDigits (num n).cps.toList:=λc hc=>by
 rw [Wv h0] at hc;obtain⟨ch,hch,e⟩:=S0.mp hc;rw [<-e];exact i1 (X6 (by decide) (by decide) hch)
theorem Xo (h0:0<=n):(num n).cps.toList≠ []:=by
 rw [Wv h0];intro e;have h:=toDigits_len_ge 10 n.toNat;rw [X2.mp e] at h;exact absurd h (by decide)
theorem Gc (h0:0<=n):((digitsVal (num n).cps.toList:P5):P7)=n:=by
 rw [Wv h0,PySem.W.KIN.val_back];exact cX h0
theorem Jn {k:P5}(h0:0<=n)(h1:n<2^k)(hk:0<k):(num n).length<=k+1:=by
 show (D7 (toString n)).length<=_;rw [b8];refine dI hk ?_;have h2:n.natAbs<2^k:=wa h0 h1
 by_cases z:n.natAbs=0
 ·rw [z];exact hk
 ·exact(aN z).mpr h2
theorem DO {k:P5}(h0:0<=n)(h1:n<2^k)(hk:0<k):Pl (k+1) (num n):=⟨Jn h0 h1 hk,λc hc=>by have:=ZR h0 c hc;omega⟩
def wrB (m:P5)(w:Str):C3:=(decide (1<=w.length)&&decide (w.length<=m))&&(w.cps.toList.all λc=>decide (c∈(D7 "0123456789").cps.toList))&&(decide (w= "0")|| !decide (w.cps.toList.head? =some 48))
def WV (w:Str):P7:=((digitsVal w.cps.toList:P5):P7)
theorem Nv (c:P5):c∈(D7 "0123456789").cps.toList↔48<=c/\c<=57:=by
 rw [show (D7 "0123456789").cps.toList= [48,49,50,51,52,53,54,55,56,57] from by decide +kernel];simp only [P0,T0,or_false];omega
theorem Vr {m:P5}{w:Str}(h:wrB m w=true):AllDigits w.cps.toList/\1<=w.length/\w.length<=m:=by
 unfold wrB at h;rw [D9,D9,D9] at h;obtain⟨⟨⟨a,b⟩,c⟩,_⟩:=h;exact⟨λx hx=>(Nv x).mp (N0 (R7.mp c x hx)),N0 a,N0 b⟩
theorem Gd {m:P5}{w:Str}(h:wrB m w=true)(hm:m<=640):i0 w=some (WV w):=by
 obtain⟨a,b,c⟩:=Vr h;refine intText_digits a (λe=> ?_) (by omega);have:w.cps.toList.length=0:=by rw [e];rfl
 rw [B0] at this;exact absurd (show w.length=0 from this) (by omega)
theorem Vs {c:P5}{r:G0 P5}{m:P5}(h:(iE 10 m).map Char.toNat=48::r):r= []:=by
 have hd:AllDigits (48::r):=λx hx=>by
  rw [<-h] at hx;obtain⟨ch,hch,e⟩:=S0.mp hx;rw [<-e];exact i1 (X6 (by decide) (by decide) hch)
 have e:=toDigits_all (48::r) hd;rw [<-h,PySem.W.KIN.val_back,h,List.dropWhile_cons] at e;have l:=congrArg cG h;rw [G9,e] at l;cases r with
 |nil=>rfl
 |cons x r=>
  exfalso;have le:=len_dropWhile (· ==48) (x::r);simp only [aY,X5] at l;generalize (x::r).dropWhile (· ==48)=t at le l;cases t with
  |nil=>simp at l
  |cons y t=>simp at l le;omega
theorem DP (h0:0<=n)(h1:n<10^10):wrB 12 (num n)=true:=by
 have hl:(num n).length<=12:=R4 (PySem.W.KT.len_num h0 h1) (by decide);have h2:1<=(num n).length:=by
  have:=List.length_pos_iff.mpr (Xo h0);rw [B0] at this;exact this
 unfold wrB;rw [R5 h2,R5 hl,L9,L9,D9];refine⟨R7.mpr λc hc=>R5 ((Nv c).mpr (ZR h0 c hc)),?_⟩
 by_cases hh:(num n).cps.toList.head? =some 48
 ·cases e:(num n).cps.toList with
  |nil=>exact absurd e (Xo h0)
  |cons c r=>
   rw [e] at hh;injection hh with hh
   subst hh;have e2:=e;rw [Wv h0] at e2;have:=Vs (c:=0) e2;subst this;rw [R5 (show num n=D7 "0" from ZQ (by rw [e];decide +kernel))];rfl
 ·rw [T6 hh];simp
def Yd (r:G0 P7):Str:=cN " " (r.map num)
def Jo (T:G0 (G0 P7)):Str:=cN "/" (T.map Yd)
theorem sp1:D7 " " =⟨#[32]⟩:=by decide +kernel
theorem sl1:D7 "/" =⟨#[47]⟩:=by decide +kernel
theorem vc (s:Str)(ys:G0 Str):cN s ys=V3 s ys:=StrLaws.glued_eq_join s ys
variable {e:P5}{T:G0 (G0 P7)}
theorem Vt {n:P5}(h:Sq n e T)(he:0<e){r:G0 P7}(hr:r∈T):Pl (n*(e+2)) (Yd r):=by
 have:=Pl.join (b:=e+1) (s:=1) (sep:=⟨#[32]⟩) ⟨by decide,by decide⟩ (ys:=r.map num) λy hy=>by
  obtain⟨x,hx,rfl⟩:=S0.mp hy;exact DO (h.nn r hr x hx) (h.bit r hr x hx) he
 rw [G9,h.row r hr] at this;unfold Yd;rw [vc,sp1];exact this
theorem Xp {n:P5}(h:Sq n e T)(he:0<e)(h6:n<=6):Pl (36*e+78) (Jo T):=by
 have:=Pl.join (b:=n*(e+2)) (s:=1) (sep:=⟨#[47]⟩) ⟨by decide,by decide⟩ (ys:=T.map Yd) λy hy=>by
  obtain⟨r,hr,rfl⟩:=S0.mp hy;exact Vt h he hr
 rw [G9,h.len] at this;unfold Jo;rw [vc,sl1];refine this.mono ?_;have a:n*(e+2)<=6*(e+2):=Nat.mul_le_mul_right _ h6;have b:n*(n*(e+2)+1)<=6*(6*(e+2)+1):=V4 h6 (by omega);omega
theorem Ww (h0:0<=n){c:P5}(hc:c<48):c ∉ (num n).cps.toList:=λh=>by have:=ZR h0 c h;omega
theorem Vu {n:P5}(h:Sq n e T)(h1:1<=n){r:G0 P7}(hr:r∈T):F2 (Yd r) " " =r.map num:=by
 unfold Yd;rw [vc,sp1];refine vW 32 (λz=> ?_) λy hy=> ?_
 ·have:=h.row r hr;rw [X2.mp z] at this;simp at this;omega
 ·obtain⟨x,hx,rfl⟩:=S0.mp hy;exact Ww (h.nn r hr x hx) (by decide)
theorem Wx {s:Str}: ∀ {ys:G0 Str},c∈(V3 s ys).cps.toList->c∈s.cps.toList\/ ∃y∈ys,c∈y.cps.toList
 | [],h=>by cases h
 | [x],h=> .inr ⟨x,P8,h⟩
 |x::y::r,h=>by
  have h:c∈(x++s++V3 s (y::r)).cps.toList:=h;rw [vb,vb] at h;rcases T2.mp h with h|h
  ·exact(T2.mp h).elim (λz=> .inr ⟨x,P8,z⟩) .inl
  ·rcases Wx h with z|⟨w,hw,z⟩
   ·exact .inl z
   ·exact .inr ⟨w,P9 _ hw,z⟩
theorem Vv {n:P5}(h:Sq n e T)(h1:1<=n):F2 (Jo T) "/" =T.map Yd:=by
 unfold Jo;rw [vc,sl1];refine vW 47 (λz=> ?_) λy hy=> ?_
 ·have:=h.len;rw [X2.mp z] at this;simp at this;omega
 ·obtain⟨r,hr,rfl⟩:=S0.mp hy;intro m;unfold Yd at m;rw [vc,sp1] at m;rcases Wx m with z|⟨w,hw,z⟩
  ·exact absurd z (by decide)
  ·obtain⟨x,hx,rfl⟩:=S0.mp hw;exact Ww (h.nn r hr x hx) (by decide) z
end L2
namespace My
open PySem L2
def top (i:P5):N2:=PySem.Challenge.pw_firstpowers_k73_tables_written.main.body.getD i (.Pass ⟨0,0,0,0⟩)
abbrev yl:N2:=top 17
theorem ZS:FnScope ["thing"] ["thing"] (ja yl):=fsc
abbrev zo:N2:=top 18
theorem wc:FnScope ["thing","size","number"] ["thing","size"] (ja zo):=fsc
abbrev jU:N2:=top 19
theorem zz:FnScope ["thing","row"] ["thing"] (ja jU):=fsc
abbrev zj:N2:=top 20
theorem wV:FnScope ["thing"] ["thing"] (ja zj):=fsc
abbrev zp:N2:=top 26
theorem wd:FnScope ["number","parts","part"] ["number"] (ja zp):=fsc
abbrev zf:N2:=top 27
theorem zN:FnScope ["word","most","sign"] ["word","most"] (ja zf):=fsc
abbrev jY:N2:=top 28
theorem jP:FnScope ["table","row","number"] ["table"] (ja jY):=fsc
abbrev we:N2:=top 29
theorem jF:FnScope ["text","rows","at","words","row","word"] ["text"] (ja we):=fsc
abbrev wG:N2:=top 31
theorem Zh:FnScope ["_law_script","_law_k"] ["_law_script","_law_k"] (ja wG):=fsc
abbrev ym:N2:=top 32
theorem vd:FnScope ["_law_cell_here","_law_left"] ["_law_cell_here"] (ja ym):=fsc
abbrev wH:N2:=top 33
theorem zl:FnScope ["_law_pen_here","_law_many","_law_left","_law_found","_law_stir"] ["_law_pen_here","_law_many"] (ja wH):=fsc
abbrev wf:N2:=top 34
theorem Jp:FnScope ["_law_thing"] ["_law_thing"] (ja wf):=fsc
abbrev wI:N2:=top 35
theorem jK:FnScope ["_law_e","_law_seen","_law_words"] ["_law_e"] (ja wI):=fsc
abbrev wJ:N2:=top 36
theorem yw:FnScope ["_law_call","_law_found","_law_e","_law_word"] ["_law_call"] (ja wJ):=fsc
abbrev wK:N2:=top 37
theorem Zi:FnScope ["_law_found","_law_due"] ["_law_found","_law_due"] (ja wK):=fsc
abbrev wL:N2:=top 38
theorem Zj:FnScope ["_law_pen_here"] ["_law_pen_here"] (ja wL):=fsc
abbrev wg:N2:=top 39
theorem jl:FnScope ["_law_pen_here","_law_size_here","_law_way","_law_often","_law_most","_law_rows","_law_one","_law_row","_law_other","_law_goes"] ["_law_pen_here","_law_size_here"] (ja wg):=fsc
abbrev zg:N2:=top 40
theorem jV:FnScope ["_law_thing","_law_row","_law_number"] ["_law_thing"] (ja zg):=fsc
abbrev jN:N2:=top 41
theorem ji:FnScope ["_law_pen_here","_law_table_here","_law_size_here","_law_at","_law_to","_law_off","_law_row","_law_rows","_law_here","_law_things"] ["_law_pen_here","_law_table_here"] (ja jN):=fsc
abbrev zh:N2:=top 42
theorem zO:FnScope ["_law_pen_here","_law_some"] ["_law_pen_here"] (ja zh):=fsc
abbrev wM:N2:=top 43
theorem wj:FnScope ["_law_table_here","_law_row","_law_number"] ["_law_table_here"] (ja wM):=fsc
abbrev ZT:N2:=top 44
theorem vf:FnScope ["_law_script","_law_cell_here","_law_pen_here","_law_table_here","_law_turn","_law_thing","_law_due"] ["_law_script"] (ja ZT):=fsc
section
variable {P:D6}{w:S7}{K:G1}{mg:Str->G7 G2}{base:S6}
/-- no def is asked of the script's list: a thing -/
def Vw:D->C3
 | .int _=>true
 |_=>false
/-- a row of so many numbers from 0 on -/
def VI:D->C3
 | .int i=>decide (0<=i)
 |_=>false
def Zk (d:D)(k:P7):C3:=match d with
 | .tup ds=>decide ((ds.length:P7)=k)&&ds.all VI
 |_=>false
/-! every part has a kind that is told,and no tuple is long -/
mutual
def okD:D->C3
 | .scr _=>false| .exc _=>false| .fn _=>false| .dct _=>false
 | .tup ds=>decide (ds.length<=1000)&&okDs ds
 |_=>true
def okDs:G0 D->C3
 | []=>true
 |d::ds=>okD d&&okDs ds
end
theorem Jq: ∀ {ds:G0 D},okDs ds=true-> ∀d∈ds,okD d=true
 |d::ds,h,x,hx=>by
  have h':(okD d&&okDs ds)=true:=h;rw [D9] at h';rcases P0.mp hx with e|e
  ·subst e;exact h'.1
  ·exact Jq h'.2 x e
theorem Vx: ∀ {ds:G0 D},(∀d∈ds,okD d=true)->okDs ds=true
 | [],_=>rfl
 |d::ds,h=>by
  show (okD d&&okDs ds)=true;rw [h d P8,Vx λx hx=>h x (P9 _ hx)];rfl
variable {ds:G0 D}
theorem Jr (h:okD (.tup ds)=true):ds.length<=1000/\ ∀d∈ds,okD d=true:=by
 have h':(decide (ds.length<=1000)&&okDs ds)=true:=h;rw [D9] at h';exact⟨N0 h'.1,Jq h'.2⟩
theorem Xq (h:ds.length<=1000)(h2: ∀d∈ds,okD d=true):okD (.tup ds)=true:=by
 show (decide (ds.length<=1000)&&okDs ds)=true;rw [R5 h,Vx h2];rfl
variable {d:D}
theorem wv (h:okD d=true): ∃n,JU d=some n:=by
 cases d<;>first|exact⟨_,rfl⟩|cases h
/-- a table -/
def vX:D->C3
 | .tup rs=>decide (1<=rs.length)&&decide (rs.length<=6)&&rs.all λr=>Zk r rs.length
 |_=>false
def zH:RDn:=λds h Q=> ∃d n,ds= [d]/\JU d=some n/\Q (.bl (Vw d)) h
variable {n:P5}{f:G4}{fd:D4}
theorem ZU (Z:Zs mg)(F:Fun K "is_whole" "is_whole" yl f fd):FnOk P w K mg base CX0 (n+1) f fd ["thing"] (LSp K zH):=by
 refine F.okM ZS (λhr=>(jL (zY (Qz (Jj (T:= "int") (by decide) rfl Z.isinstance rfl Z.int (by decide +kernel) (jv 0)) (VH (Nl (Jj (T:= "bool") (by decide) rfl Z.isinstance rfl Z.bool (by decide +kernel) (jv 0)))))))) ?_;rintro ds h Q ⟨d,nm,rfl,hn,q⟩;refine⟨rfl,?_⟩;simp only [ZA,YC,dIs,Je,jC,T4,B9,R1,T1,M3,M9,R0,S8,D.bl.injEq,YD,vA,T7,hn];cases d<;>cases hn<;>exact⟨h,Sub.refl h,q⟩
def wk:RDn:=λds h Q=> ∃d k,ds= [d,.int k]/\okD d=true/\Q (.bl (Zk d k)) h
theorem vg (Z:Zs mg)(F:Fun K "is_table_row" "is_table_row" zo f fd)(WZ:jz P w K mg base n "is_whole" ["thing"] zH):FnOk P w K mg base CX0 (n+1) f fd ["thing","size"] (LSp K wk):=by
 refine F.okM wc (λhr=>(js2 (Jl (jpt (Xf (wy (wT (Jj (T:= "tuple") (by decide) rfl Z.isinstance rfl Z.tuple (by decide +kernel) (jv 0)))) (Xe (jt1 oq_ne (Vo Z (jv 0)) (jv 1))))) (zY jbl)) (zY (zZ (JV rfl) rfl Z.all O3 (j1 (jl0 2 wc (zM (jv 0)) (λ_ _ _ _=>(Qz (jk WZ hr (j1 (jv 2))) (VH (jc1 YG (jv 2) jj)))))))))) ?_;rintro ds h Q ⟨d,k,rfl,ok,q⟩;refine⟨rfl,?_⟩;obtain⟨nm,hn⟩:=wv ok;simp only [zV,VG,XX,JP,wE,dIs,Je,jC,T4,B9,R1,T1,D1,M3,M9,R0,S8,D.bl.injEq,ZA,dC,vA,vz,dCB,jG,yx,dOp,Uh,T9,neD,T7,hn];cases d with
 |tup es=>
  cases hn;obtain⟨hl,ht⟩:=Jr ok;simp only [Qq]
  by_cases hk:(es.length:P7)=k
  ·simp only [hk];simp;refine ZJ (ds:=es) (h1:=h) (j:=λ_=>some es) (λx=> .bl (VI x)) (N3 (jQ hl)) rfl (λR r=>⟨.tup es,rfl,r⟩) (λd hd Q' q'=> ?_) (λp hp=> ?_)
   ·obtain⟨nn,hnn⟩:=wv (ht d hd);refine⟨d,rfl,d,nn,rfl,hnn,Vw d,rfl,?_⟩;cases d with
    |int i=>exact VY ⟨.int i,rfl,q'⟩
    |_=>exact vy q'
   ·refine⟨p,es.map VI,rfl,by rw [jb];simp,h,?_,?_⟩
    ·rw [zx hp];exact Sub.refl h
    ·simpa [Zk,hk,J9,Function.comp_def] using q
  ·simp [hk];exact⟨h,Sub.refl h,by simpa [Zk,hk] using q⟩
 |_=>cases hn<;>exact⟨h,Sub.refl h,q⟩
def jy:RDn:=λds h Q=> ∃d,ds= [d]/\okD d=true/\Q (.bl (vX d)) h
theorem yn (Z:Zs mg)(F:Fun K "has_table_form" "has_table_form" jU f fd)(vF:jz P w K mg base n "is_table_row" ["thing","size"] wk)(jO: ∃tk,mg "MOST_ROWS" =some (.int 6 tk)):FnOk P w K mg base CX0 (n+1) f fd ["thing"] (LSp K jy):=by
 obtain⟨tk_MOST_ROWS,m_MOST_ROWS⟩:=jO;refine F.okM zz (λhr=>(js2 (Jl (jpt (Xf (wy (wT (Jj (T:= "tuple") (by decide) rfl Z.isinstance rfl Z.tuple (by decide +kernel) (jv 0)))) (Xe (wy (ZO WI WI jj (Vo Z (jv 0)) (Uo rfl m_MOST_ROWS)))))) (zY jbl)) (zY (zZ (JV rfl) rfl Z.all O3 (j1 (jl0 1 zz (zM (jv 0)) (λ_ _ _ _=>(jk vF hr (j2 (jv 1) (Vo Z (jv 0))))))))))) ?_;rintro ds h Q ⟨d,rfl,ok,q⟩;refine⟨rfl,?_⟩;obtain⟨nm,hn⟩:=wv ok;simp only [zV,VG,XX,JP,wE,dIs,Je,jC,T4,B9,R1,T1,D1,M3,M9,R0,S8,D.bl.injEq,ZA,dC,vA,vz,dCB,jG,yx,vP,Uh,Ug,T7,hn];cases d with
 |tup es=>
  cases hn;obtain⟨hl,ht⟩:=Jr ok;simp only [Qq]
  by_cases h1:1<=es.length
  ·by_cases h6:es.length<=6
   ·have h1':(1:P7)<=es.length:=by omega
    have h6':(es.length:P7)<=6:=by omega
    simp [h1',h6'];refine ZJ (ds:=es) (h1:=h) (j:=λ_=>some es) (λx=> .bl (Zk x es.length)) (N3 (jQ hl)) rfl (λR r=>⟨.tup es,rfl,r⟩) (λd hd Q' q'=> ?_) (λp hp=> ?_)
    ·exact⟨d,rfl,.tup es,rfl,d,es.length,rfl,ht d hd,q'⟩
    ·refine⟨p,es.map λx=>Zk x es.length,rfl,by rw [jb];simp,h,?_,?_⟩
     ·rw [zx hp];exact Sub.refl h
     ·simpa [vX,h1,h6,J9,Function.comp_def] using q
   ·have h1':(1:P7)<=es.length:=by omega
    have h6': ¬ (es.length:P7)<=6:=by omega
    simp [h1',h6'];exact⟨h,Sub.refl h,by simpa [vX,h1,h6] using q⟩
  ·have h1': ¬ (1:P7)<=es.length:=by omega
   simp [h1'];exact⟨h,Sub.refl h,by simpa [vX,h1] using q⟩
 |_=>cases hn<;>exact⟨h,Sub.refl h,q⟩
theorem Ge {x:P7}(h:0<=x):VI (.int x)=true:=R5 h
variable {e:P5}{T:G0 (G0 P7)}
theorem Gf (h:Sq n e T){r:G0 P7}(hr:r∈T):Zk (wu r) n=true:=by
 simp only [Zk,wu,G9,h.row r hr,decide_true,L9,J9,R7,Function.comp_apply];intro x hx;exact Ge (h.nn r hr x hx)
theorem Gg (h:Sq n e T)(h1:1<=n)(h6:n<=6):vX (wO T)=true:=by
 simp only [vX,wO,G9,h.len,R5 h1,R5 h6,L9,J9,R7,Function.comp_apply];intro r hr;exact Gf h hr
theorem DQ (h:Sq n e T)(h6:n<=6):okD (wO T)=true:=
 Xq (by rw [G9,h.len];omega) λd hd=>by
  obtain⟨r,hr,rfl⟩:=S0.mp hd;exact Xq (by rw [G9,h.row r hr];omega) λd hd=>by obtain⟨x,_,rfl⟩:=S0.mp hd;rfl
def wW:RDn:=λds h Q=> ∃T,∃n e:P5,ds= [wO T]/\Sq n e T/\1<=n/\n<=6/\Q .non h
theorem Js (Z:Zs mg)(F:Fun K "want_table" "want_table" zj f fd)(jW:jz P w K mg base n "has_table_form" ["thing"] jy):FnOk P w K mg base CX0 (n+1) f fd ["thing"] (LSp K wW):=by
 refine F.okM wV (λhr=>(jL (Jl (wy (wT (jk jW hr (j1 (jv 0))))) vR))) ?_;rintro ds h Q ⟨T,k,b,rfl,hT,h1,h6,q⟩;refine⟨rfl,?_⟩;refine⟨_,rfl,wO T,rfl,DQ hT h6,_,rfl,?_⟩;rw [Gg hT h1 h6];exact vy ⟨h,Sub.refl h,q⟩
def wC:RDx:=λds h R=> ∃d,ds= [d]/\okD d=true/\vX d=false/\R "NoTable" h
theorem vD (Z:Zs mg)(Ex:Exc K mg)(F:Fun K "want_table" "want_table" zj f fd)(jW:jz P w K mg base n "has_table_form" ["thing"] jy):FnOk P w K mg base (CXR P w) (n+1) f fd ["thing"] (Xk mg K wC):=by
 refine F.okMX wV (λhr=>(Mv (wy (wT (jk jW hr (j1 (jv 0))))) (Uz rfl (Ex.own "NoTable" (by decide)) rfl))) ?_;rintro ds h R ⟨d,rfl,ok,bad,q⟩;refine⟨rfl,?_⟩;refine⟨_,rfl,d,rfl,ok,_,rfl,?_⟩;rw [bad];exact⟨rfl,q⟩
def wm:RDn:=λds h Q=> ∃n,ds= [.int n]/\0<=n/\n<2^200/\Q (.str (num n)) h
theorem vh (Z:Zs mg)(F:Fun K "number_shown" "number_shown" zp f fd)(VE: ∃tk,mg "PART" =some (.int 10000000000000000000000000000000000000000000000000000000000000000 tk))(Jy:mg "str" =none):FnOk P w K mg base CX0 (n+1) f fd ["number"] (LSp K wm):=by
 obtain⟨tk_PART,m_PART⟩:=VE;have m_str:=Jy;refine F.okM wd (λhr=>(js4 (jse 1 wd (yc zX)) (Dq L6 (jt1 YG (jv 0) (Uo rfl m_PART)) UH) (Up (Mn (jv 1) (zc Vq rfl m_str (by decide +kernel) (j1 (jv 0))))) (zY (DK zW (Bi (jv 1)))))) ?_;rintro ds h Q ⟨n,rfl,h0,h1,q⟩;refine⟨rfl,?_⟩;have lg:n.natAbs.log2<1920:=by
  by_cases z:n.natAbs=0
  ·rw [z];decide
  ·exact(aN z).mpr (P2 (wa h0 h1) (B3 (by decide) (by decide)))
 refine jm (λlH h'=> ∃P,lH= [some (.int n),some (.lst P),none]/\h' P=some []/\h P=none/\Sub h h') (λC hC=>⟨sz0,λP eP=>hC _ _ ⟨P,rfl,jb,eP,(Sub.refl h).newAt eP⟩⟩) ?_;rintro _ h2 ⟨P,rfl,kP,eP,sb⟩;refine yq [some (.int n),some (.lst P),none] (λC hC=>Ur (λ_ lH h'=>lH= [some (.int n),some (.lst P),none]/\h2=h') 0 ⟨rfl,rfl⟩ ?_) ?_
 ·rintro _ _ _ ⟨rfl,rfl⟩;have big:(2:P7)^200<10^64:=by decide +kernel
  have e64:(10:P7)^64=10000000000000000000000000000000000000000000000000000000000000000:=by decide +kernel
  exact⟨_,rfl,_,rfl,Wd (λt=>absurd (N0 t) (by omega)) λ_=>hC⟩
 refine jm (λlH h'=>lH= [some (.int n),some (.lst P),none]/\h' P=some [.str (num n)]/\Sub h h') (λC hC=>⟨_,rfl,P,rfl,_,rfl,n,rfl,lg,[],kP,sz1,hC _ _ ⟨rfl,jb,sb.over eP⟩⟩) ?_;rintro _ h3 ⟨rfl,kP,sb⟩;exact⟨_,rfl,_,rfl,P,_,rfl,kP,λR eR=>⟨R,[num n],rfl,jb,by have:=Jn h0 h1 (by decide);simp only [T4,B9,c9,List.sum_nil,E6];show _+0+1*0<=_;omega,h,sb.newAt eR,q⟩⟩
def zP:RDn:=λds h Q=> ∃w,∃m:P5,ds= [.str w,.int (m:P7)]/\w.length<=1000/\Q (.bl (wrB m w)) h
theorem yA (Z:Zs mg)(F:Fun K "writes_number" "writes_number" zf f fd)(vp: ∃tk,mg "FIGURES" =some (.str "0123456789" tk)):FnOk P w K mg base CX0 (n+1) f fd ["word","most"] (LSp K zP):=by
 obtain⟨tk_FIGURES,m_FIGURES⟩:=vp;refine F.okM zN (λhr=>(js2 (Jl (jpt (Xf (wy (ZO WI WI jj (zZ QZ rfl Z.len gD (j1 (jv 0))) (jv 1))) (Xe (wy (wT (zZ (JV rfl) rfl Z.all O3 (j1 (jl0 2 zN (DN (jv 0)) (λ_ _ _ _=>(Nk DG (jv 2) (DH rfl m_FIGURES) (by with_unfolding_all rfl))))))))))) (zY jbl)) (zY (jor (jc1 oq_eq (jv 0) zW) (VH (jc1 oq_ne (MH (jv 0) jj (λ_ _=>rfl)) zW)))))) ?_;rintro ds h Q ⟨w,m,rfl,hl,q⟩;refine⟨rfl,?_⟩;have hl':w.cps.toList.length=w.length:=B0;have line:w.length<=sizeLine:=N3 (jQ hl);refine jm (λlH h'=>lH= [some (.str w),some (.int (m:P7)),none]/\h=h'/\1<=w.length/\w.length<=m/\(w.cps.toList.all λc=>decide (c∈(D7 "0123456789").cps.toList))=true) (λC hC=>⟨_,rfl,w,rfl,line,_,rfl,Wd (λa=>⟨_,rfl,_,rfl,?_⟩) (λa=>⟨_,rfl,VY (VY ⟨h,Sub.refl h,?_⟩)⟩)⟩) ?_
 ·have a:=N0 a;show if (!decide ((w.length:P7)<=(m:P7)))=true then _ else _
  cases hb:decide ((w.length:P7)<=(m:P7)) with
  |true=>
   have b:=N0 hb;refine vy (Nr w.cps.toList (λc=> .str ⟨#[c]⟩) (λc=>decide (c∈(D7 "0123456789").cps.toList)) (by omega) rfl (λR r=>⟨_,rfl,w,rfl,r⟩) (λc hc Q' q'=>⟨_,rfl,c,rfl,q'⟩) ⟨_,rfl,?_⟩);show if (!w.cps.toList.all (λc=>decide (c∈(D7 "0123456789").cps.toList)))=true then _ else _
   cases hc:w.cps.toList.all (λc=>decide (c∈(D7 "0123456789").cps.toList)) with
   |true=>exact vy (hC _ _ ⟨rfl,rfl,by omega,by omega,hc⟩)
   |false=>exact VY ⟨h,Sub.refl h,by unfold wrB at q;rw [hc,gE,A3] at q;exact q⟩
  |false=>
   have b:=of_decide_eq_false hb;exact VY (VY ⟨h,Sub.refl h,by unfold wrB at q;rw [T6 (p:=w.length<=m) (by omega),gE,A3,A3] at q;exact q⟩)
 ·unfold wrB at q;have a: ¬1<=w.length:=λz=>a (R5 (by omega))
  rw [T6 a,A3,A3,A3] at q;exact q
 rintro _ _ ⟨rfl,rfl,a,b,c⟩;unfold wrB at q;rw [R5 a,R5 b,c,L9,L9,L9] at q;cases e:w.cps.toList with
 |nil=>rw [e] at hl';simp at hl';omega
 |cons x r=>
  have z0:D7 "0" =⟨#[48]⟩:=by decide +kernel
  refine⟨_,rfl,_,rfl,Wd (λz=>⟨h,Sub.refl h,?_⟩) λz=>⟨_,rfl,x,line,by rw [e];exact Ja (j:=0) rfl,h,Sub.refl h,?_⟩⟩
  ·rw [z,Bool.true_or] at q;exact q
  ·rw [V2.mpr z,gV] at q;show Q (.bl (!decide ((⟨#[x]⟩:Str)=D7 "0"))) h;rw [show decide ((⟨#[x]⟩:Str)=D7 "0")=decide (w.cps.toList.head? =some 48) from by rw [e,z0,List.head?_cons];simp];exact q
theorem wX {b:P5}: ∀ {ys:G0 Str},(∀y∈ys,y.length<=b)->(ys.map (·.length)).sum<=ys.length*b
 | [],_=>U0 _
 |y::ys,h=>by
  have:=wX λz hz=>h z (P9 _ hz)
  have:=h y P8;simp only [T4,c9,R1,dX];omega
theorem Wy {a b:P5}(h:a<=b):(2:P7)^a<=2^b:=by
 have:(2:P5)^a<=2^b:=B3 (by decide) h;have h2:((2^a:P5):P7)<=((2^b:P5):P7):=by exact_mod_cast this
 simpa using h2
def zq:RDn:=λds h Q=> ∃T,∃n e:P5,ds= [wO T]/\Sq n e T/\0<e/\e<=200/\1<=n/\n<=6/\Q (.str (Jo T)) h
theorem vE (Z:Zs mg)(F:Fun K "table_shown" "table_shown" jY f fd)(Zu:jz P w K mg base n "want_table" ["thing"] wW)(vG:jz P w K mg base n "number_shown" ["number"] wm):FnOk P w K mg base CX0 (n+1) f fd ["table"] (LSp K zq):=by
 refine F.okM jP (λhr=>(js2 (Up (jk Zu hr (j1 (jv 0)))) (zY (Wt zW (jl0 1 jP (zM (jv 0)) (λ_ _ _ _=>(Wt zW (jl0 2 jP (zM (jv 1)) (λ_ _ _ _=>(jk vG hr (j1 (jv 2)))))))))))) ?_;rintro ds h Q ⟨T,n,b,rfl,hT,he,hb,h1,h6,q⟩;refine⟨rfl,?_⟩;refine yq [some (wO T),none,none] (λC hC=>⟨_,rfl,T,n,b,rfl,hT,h1,h6,hC⟩) ?_;have wr: ∀r∈T,(Yd r).length<=1212:=λr hr=>R4 (Vt hT he hr).len (R4 (V4 h6 (show b+2<=202 by omega)) (by decide))
 refine UL T wu Yd (by rw [hT.len];omega) ?_ rfl (λR r=>⟨_,rfl,r⟩) (λr hr Q' q'=> ?_) ⟨h,Sub.refl h,q⟩
 ·exact R4 (Z9 (wX λy hy=>by obtain⟨r,hr,rfl⟩:=S0.mp hy;exact wr r hr) (G8 _)) (by rw [G9,hT.len];show n*1212+n*1<=_;omega)
 ·refine UL r D.int num (by rw [hT.row r hr];omega) ?_ rfl (λR r=>⟨_,rfl,r⟩) (λx hx Q'' q''=>⟨_,rfl,x,rfl,hT.nn r hr x hx,aA (hT.bit r hr x hx) (Wy hb),q''⟩) q';exact R4 (Z9 (wX λy hy=>by obtain⟨x,hx,rfl⟩:=S0.mp hy;exact Jn (hT.nn r hr x hx) (hT.bit r hr x hx) he) (G8 _)) (by rw [G9,hT.row r hr];show n*(b+1)+n*1<=_;have:n*(b+1)<=6*(200+1):=V4 h6 (by omega);omega)
def wn:RDx:=λds h R=> ∃d,ds= [d]/\okD d=true/\vX d=false/\R "NoTable" h
theorem vi (Z:Zs mg)(Ex:Exc K mg)(F:Fun K "table_shown" "table_shown" jY f fd)(CR_want_table:Jk P w K mg base n "want_table" ["thing"] wC):FnOk P w K mg base (CXR P w) (n+1) f fd ["table"] (Xk mg K wn):=by
 refine F.okMX jP (λhr=>(QH (jxk CR_want_table hr (j1 (jv 0))))) ?_;rintro ds h R ⟨d,rfl,ok,bad,q⟩;refine⟨rfl,?_⟩;exact⟨_,rfl,d,rfl,ok,bad,q⟩
def wz (z:Str):G0 (G0 Str):=(F2 z "/").map λr=>F2 r " "
/-- lists of words,each with its content -/
def Wds (h:HD)(as:G0 D)(wss:G0 (G0 Str)):Prop:=as.length=wss.length/\ ∀ (i:P5) (ws:G0 Str),wss[i]? =some ws-> ∃a,as[i]? =some (D.lst a)/\h a=some (ws.map D.str)
variable {h:HD}{as:G0 D}{wss:G0 (G0 Str)}
theorem Wds.sub {h':HD}(w:Wds h as wss)(s:Sub h h'):Wds h' as wss:=⟨w.1,λi ws e=>let ⟨a,e1,e2⟩:=w.2 i ws e;⟨a,e1,s.ls _ _ e2⟩⟩
theorem Wds.snoc {a:G4}{ws:G0 Str}(w:Wds h as wss)(e:h a=some (ws.map D.str)):Wds h (as++ [.lst a]) (wss++ [ws]):=by
 refine⟨by rw [T3,T3,w.1];rfl,λi us hi=> ?_⟩
 by_cases l:i<wss.length
 ·rw [B7 l] at hi;obtain⟨b,e1,e2⟩:=w.2 i us hi;exact⟨b,by rw [B7 (by rw [w.1];exact l)];exact e1,e2⟩
 ·rw [F0 (by omega)] at hi;have hi':i=wss.length:=by
   have:=(D0.mp hi).1;simp only [E6] at this;omega
  subst hi';rw [iF] at hi;cases hi;exact⟨a,by rw [F0 (by rw [w.1];exact G8 _),w.1,iF];rfl,e⟩
theorem Wds.mem (w:Wds h as wss)(hd:d∈as): ∃ws a,ws∈wss/\d= .lst a/\h a=some (ws.map D.str):=by
 obtain⟨i,hi,rfl⟩:=List.getElem_of_mem hd;have hw:i<wss.length:=by rw [<-w.1];exact hi
 obtain⟨a,e1,e2⟩:=w.2 i _ (S2 hw);rw [S2 hi] at e1;injection e1 with e1
 exact⟨_,a,aX hw,e1,e2⟩
def Gh:D->D
 | .str w=> .int (WV w)
 |_=> .non
def Rf (h:HD):D->D
 | .lst a=>match h a with
  |some ds=> .tup (ds.map Gh)
  |none=> .non
 |_=> .non
theorem Vy {a:G4}{ws:G0 Str}(e:h a=some (ws.map D.str)):Rf h (.lst a)=wu (ws.map WV):=by
 show (match h a with|some ds=>D.tup (ds.map Gh)|none=> .non)=_;rw [e];show D.tup ((ws.map D.str).map Gh)=D.tup ((ws.map WV).map D.int);rw [L5,L5];rfl
theorem rows_of (w:Wds h as wss):as.map (Rf h)=(wss.map (·.map WV)).map wu:=by
 refine List.ext_getElem? λi=> ?_
 rw [R6,R6,R6];cases e:wss[i]? with
 |none=>
  have:as[i]? =none:=by rw [List.getElem?_eq_none_iff] at e ⊢;rw [w.1];exact e
  rw [this];rfl
 |some ws=>
  obtain⟨a,e1,e2⟩:=w.2 i ws e;rw [e1];show some (Rf h (.lst a))=some (wu (ws.map WV));rw [Vy e2]
/-- a c8 over a list whose part changes the heap -/
theorem Gi {i:P5}{js:G0 P5}{ti:TID}{te:TED}{σ:SD}{Q:KD}(ds:G0 D)(V:G4->HD->Prop)(W:G4->P5->G0 D->HD->Prop)(hn:ds.length<=1000)(ht: ∀R:ItD->HD->Prop,(∀A h1,V A h1->R (λh=>h A) h1)->ti σ h R)
 (w0: ∀A h1,V A h1->W A 0 [] h1)(wl: ∀A k ys h',W A k ys h'->ys.length<=k/\h' A=some ds)(turn: ∀A k ys h' d,ds[k]? =some d->W A k ys h'->te ((zU js σ).set i (some d)) h' λy h4=> ∃h5,Sub h5 h4/\(k+1<=ds.length/\W A (k+1) (ys++ [y]) h5))
 (done: ∀A ys h',W A ds.length ys h'-> ∀p,h' p=none->Q (.lst p) (zt h' p ys)):Wh (bN i) js ti ZH te σ h Q:=by
 refine ht _ λA h1 hV=>⟨ds.length,λk ys h'=>k<=ds.length/\W A k ys h',⟨U0 _,w0 A h1 hV⟩,?_⟩
 rintro k ys h' ⟨hk,w⟩;obtain⟨l,kA⟩:=wl A k ys h' w;refine⟨R4 l (N3 (jQ (by omega))),ds,kA,G8 _,λhl p hp=> ?_,λd hd=>⟨_,rfl,?_⟩⟩
 ·have:k=ds.length:=by omega
  subst this;exact done A _ _ w p hp
 ·unfold ZH;dsimp only;rw [S1 rfl];exact turn A k ys h' d hd w
def wY:RDn:=λds h Q=> ∃z,ds= [.str z]/\z.length<=100000/\(wz z).length<=6/\(∀ws∈wz z,ws.length=(wz z).length/\ ∀w∈ws,wrB 12 w=true)/\Q (wO ((wz z).map (·.map WV))) h
theorem Jt (Z:Zs mg)(F:Fun K "table_read" "table_read" we f fd)(vo:jz P w K mg base n "writes_number" ["word","most"] zP)(Jy:mg "str" =none)(jO: ∃tk,mg "MOST_ROWS" =some (.int 6 tk))(zr: ∃tk,mg "MOST_FIGURES" =some (.int 12 tk)):FnOk P w K mg base CX0 (n+1) f fd ["text"] (LSp K wY):=by
 have m_str:=Jy;obtain⟨tk_MOST_ROWS,m_MOST_ROWS⟩:=jO;obtain⟨tk_MOST_FIGURES,m_MOST_FIGURES⟩:=zr;refine F.okM jF (λhr=>(js5 (Jl (wy (wT (Jj (T:= "str") (by decide) rfl Z.isinstance rfl m_str (by decide +kernel) (jv 0)))) vR) (Dm (i:=4) (k:=1) (js:= [4]) rfl jF.nd rfl (W0 rfl) (vQ (by rfl)) (zM (Xm (jv 0) zW)) (by decide) rfl (by first|exact W0 rfl|exact bO rfl) (λX' hX=>YX) (λX' hX=>by obtain⟨C,s₀,H₀,ex,rfl⟩:=hX;exact(Xm (jv 4) zW))) (Jl (jt1 RZ (Vo Z (jv 1)) (Uo rfl m_MOST_ROWS)) vR) (QC L6 rfl (Uv rfl Z.enumerate (j1 (jv 1))) (Xg (i:=2) (j:=3) rfl jF.nd rfl rfl (W0 rfl) (W0 rfl)) (jL (Jl (jpt (Xf (jt1 oq_ne (Vo Z (jv 3)) (Vo Z (jv 1))) (Xe (wy (wT (zZ (JV rfl) rfl Z.all O3 (j1 (jl0 5 jF (zM (jv 3)) (λ_ _ _ _=>(jk vo hr (j2 (jv 5) (Uo rfl m_MOST_FIGURES)))))))))))) vR))) (zY (zc JR rfl Z.tuple (by decide +kernel) (j1 (jl0 3 jF (zM (jv 1)) (λ_ _ _ _=>(zc JR rfl Z.tuple (by decide +kernel) (j1 (jl0 5 jF (zM (jv 3)) (λ_ _ _ _=>(zc Ga rfl Z.int (by decide +kernel) (j1 (jv 5)))))))))))))) ?_;rintro ds h Q ⟨z,rfl,hz,h6,gd,q⟩;refine⟨rfl,?_⟩;have lr:(wz z).length=(F2 z "/").length:=G9 ..;have line:z.length+2<=sizeLine:=by rw [cE];omega
 refine yq [some (.str z),none,none,none,none,none] (λC hC=>⟨_,rfl,"str",rfl,_,rfl,vy (hC)⟩) ?_;refine jm (λlH h'=> ∃R as,lH= [some (.str z),some (.lst R),none,none,none,none]/\h' R=some as/\Wds h' as (wz z)/\Sub h h') (λC hC=>Gi ((F2 z "/").map D.str) (λA h1=>h1 A=some ((F2 z "/").map D.str)/\Sub h h1) (λA k ys h'=>Wds h' ys ((wz z).take k)/\h' A=some ((F2 z "/").map D.str)/\Sub h h') (by rw [G9];omega) (λR r=>⟨_,rfl,z,rfl,_,rfl,by decide,line,λA eA=>r A _ ⟨jb,(Sub.refl h).newAt eA⟩⟩) (λA h1 ⟨k,s⟩=>⟨⟨rfl,λi ws e=>by cases e⟩,k,s⟩) (λA k ys h' ⟨w,kA,_⟩=>⟨by rw [w.1,C6];omega,kA⟩) ?_ λA ys h' ⟨w,_,s⟩ p ep=>hC _ _ ⟨p,ys,rfl,jb,by rw [G9,<-lr,eZ] at w;exact w.sub (.new ep),s.newAt ep⟩) ?_
 ·rintro A k ys h' d hd ⟨w,kA,s⟩;rw [R6] at hd;obtain⟨r,hr,rfl⟩:=E1.mp hd;have hk:=(D0.mp hr).1;have lr':=hJ (M5 hr);refine⟨_,rfl,r,rfl,_,rfl,by decide,by omega,λB eB=>⟨_,Sub.refl _,by rw [G9];exact hk,?_,jc kA eB,s.newAt eB⟩⟩;rw [V0,show (wz z)[k]? =some (F2 r " ") from by unfold wz;rw [R6,hr];rfl];exact(w.sub (.new eB)).snoc jb
 rintro _ h2 ⟨R,as,rfl,kR,w,sb⟩;have las:(as.length:P7)=((wz z).length:P7):=by rw [w.1]
 refine yq [some (.str z),some (.lst R),none,none,none,none] (λC hC=>⟨_,rfl,as,kR,_,rfl,?_⟩) ?_
 ·show if decide ((as.length:P7)>6)=true then _ else _
  rw [T6 (by omega)];exact vy (hC)
 refine jm (λlH h'=> ∃a b,lH= [some (.str z),some (.lst R),a,b,none,none]/\h2=h') (λC hC=>Wm (h1:=h2) (j:=λh=>(h R).map YZ) (YZ as) (λi lH h'=> ∃a b,lH= [some (.str z),some (.lst R),a,b,none,none]/\h2=h') (λR' r=>⟨_,rfl,R,rfl,r⟩) (λi lH h' ⟨_,_,_,e⟩=>by rw [<-e];show (h2 R).map YZ=_;rw [kR];rfl) ⟨none,none,rfl,rfl⟩ (λlH h' v=>hC _ _ v) ?_) ?_
 ·rintro i d _ _ hd ⟨a,b,rfl,rfl⟩;obtain⟨x,hx,rfl⟩:=Wo hd;have hil:i+1<=(YZ as).length:=(D0.mp hd).1;obtain⟨ws,B,hws,rfl,kB⟩:=w.mem (M5 hx);obtain⟨g1,g2⟩:=gd ws hws;refine⟨_,_,rfl,_,rfl,_,kB,_,rfl,as,kR,_,rfl,?_⟩;show if (!decide (((ws.map D.str).length:P7)=(as.length:P7)))=true then _ else _
  rw [G9,g1,las,R5 rfl];refine vy (Nr ws D.str (wrB 12) (by omega) kB (λR r=>⟨_,rfl,r⟩) (λv hv Q' q'=>⟨_,rfl,v,12,rfl,by obtain⟨_,_,l⟩:=Vr (g2 v hv);omega,q'⟩) ⟨_,rfl,?_⟩);rw [R7.mpr g2];exact vy ⟨_,Sub.refl _,hil,_,_,rfl,rfl⟩
 rintro _ _ ⟨a,b,rfl,rfl⟩;refine Nq as (λd=>d) (Rf h2) (by rw [w.1];omega) (by rw [List.map_id'];exact kR) (λR' r=>⟨_,rfl,r⟩) (λd hd Q' q'=> ?_) ⟨h,sb,?_⟩
 ·obtain⟨ws,B,hws,rfl,kB⟩:=w.mem hd;rw [Vy kB] at q';obtain⟨g1,g2⟩:=gd ws hws;refine Nq ws D.str (λv=> .int (WV v)) (by omega) kB (λR r=>⟨_,rfl,r⟩) (λv hv Q'' q''=>⟨_,rfl,v,_,rfl,by obtain⟨_,_,l⟩:=Vr (g2 v hv);omega,Gd (g2 v hv) (by decide),q''⟩) ?_;rw [show (ws.map λv=>D.int (WV v))=(ws.map WV).map D.int from by rw [L5];rfl];exact q'
 ·rw [rows_of w];exact q
def yr:RDn:=λds h Q=> ∃ns k,ds= [.scr ns,.int k]/\0<=k/\ ∀n,Q (.int n) h
theorem Zl (Z:Zs mg)(F:Fun K "_law_cell" "_law_cell" wG f fd):FnOk P w K mg base CX0 (n+1) f fd ["_law_script","_law_k"] (LSp K yr):=by
 refine F.okM Zh (λhr=>(js2 (Jl (jt1 PN (jv 1) (Vo Z (jv 0))) (zY (ji1 (jv 0) (jv 1)))) (zY jj))) ?_;rintro ds h Q ⟨ns,k,rfl,h0,q⟩;refine⟨rfl,?_⟩;simp only [zV,VG,wE,dOp,Je,jC,T4,B9,R1,T1,M3,M9,T9,R0,S8,dCB,jG,yx,Uh,Ug,D.bl.injEq,ZA,ixD,vA,T7,vz,dC];refine Wd (λc=> ?_) (λ_=>⟨h,Sub.refl h,q 0⟩);have c':k<(ns.length:P7):=N0 c;have hk:k.toNat<ns.length:=by omega
 have ek:k=((k.toNat:P5):P7):=by omega
 have z:=Ja (S2 hk);rw [<-ek] at z;exact⟨ns[k.toNat],z,h,Sub.refl h,q _⟩
def vj:RDn:=λds h Q=> ∃c,ds= [.int c]/\ ∀p l fl,h p=none->0<=l->(fl=0\/fl=1)->Q (.lst p) (zt h p [.int l,.int fl])
theorem ZV (Z:Zs mg)(F:Fun K "_law_pen" "_law_pen" ym f fd):FnOk P w K mg base CX0 (n+1) f fd ["_law_cell_here"] (LSp K vj):=by
 refine F.okM vd (λhr=>(js2 (jse 1 vd (zZ (PU rfl) rfl Z.max (by decide +kernel) (j2 (jv 0) (jop Xa jj (jv 0))))) (zY (yc (j2 (jv 1) (zc Xc rfl Z.int (by decide +kernel) (j1 (jc1 YG (jv 1) (jop Wj jj jj))))))))) ?_;rintro ds h Q ⟨c,rfl,q⟩;refine⟨rfl,?_⟩;simp only [zV,Yc,dCB,jG,Je,jC,T4,B9,R1,T1,D1,M3,M9,R0,S8,dOp,dC,Ng,yx,Mc,ZA,UX,F8,F9,T9,RY,Ug,Mb,vA,T7];refine⟨⟨by decide,by decide,by decide⟩,by decide,λp hp=>⟨_,Sub.refl _,q p _ _ hp ?_ ?_⟩⟩
 ·split<;>omega
 ·split<;>simp<;>omega
def jS:RDn:=λds h Q=> ∃p l fl m,ds= [.lst p,.int m]/\h p=some [.int l,.int fl]/\0<=l/\0<m/\m<1073741824/\ ∀r l',0<=r->r<m->0<=l'->Q (.int r) (zt h p [.int l',.int fl])
theorem Zm (Z:Zs mg)(F:Fun K "_law_draw" "_law_draw" wH f fd):FnOk P w K mg base CX0 (n+1) f fd ["_law_pen_here","_law_many"] (LSp K jS):=by
 refine F.okM zl (λhr=>(js5 (Re (jt1 oq_eq (ji1 (jv 0) jj) jj) (js3 (Mk (zZ YJ rfl Z.divmod (by decide +kernel) (j2 (ji1 (jv 0) jj) (jv 1))) (Xg (i:=2) (j:=3) rfl zl.nd rfl rfl (W0 rfl) (W0 rfl))) (Mk (jv 2) (Xh (jv 0) jj)) (zY (jv 3))) Wn) (jse 4 zl (jop yU (jop yj (jop jD (jop yU (ji1 (jv 0) jj) jj) jj) jj) jj)) (jse 4 zl (jop yU (jop jD (jop yj (jv 4) (jv 4)) jj) jj)) (Mk (jop yU (jop jD (jop yj (jv 4) jj) jj) jj) (Xh (jv 0) jj)) (zY (jop yU (jop Qo (ji1 (jv 0) jj) jj) (jv 1))))) ?_;rintro ds h Q ⟨p,l,fl,m,rfl,hp,h0,hm,hm2,q⟩;refine⟨rfl,?_⟩;refine yq [some (.lst p),some (.int m),none,none,none] (λC hC=>⟨_,rfl,_,_,hp,rfl,?_⟩) ?_
 ·show ∃k,D.bl (decide (fl=1))= .bl k/\_;refine⟨_,rfl,Wd (λ_=> ?_) λ_=>hC⟩;exact⟨_,rfl,_,_,hp,rfl,_,rfl,⟨hm,hm2⟩,_,_,rfl,_,rfl,_,rfl,p,0,_,0,rfl,rfl,hp,rfl,_,rfl,_,Sub.refl _,q (l%m) (l / m) (W9 _ (iG hm)) (aB _ hm) (Int.ediv_nonneg h0 (Int.le_of_lt hm))⟩
 refine jm (λlH h'=> ∃z:P7,lH= [some (.lst p),some (.int m),none,none,some (.int z)]/\(0<=z/\z<2147483629)/\h=h') (λC hC=>⟨_,rfl,_,_,hp,rfl,by decide,.inr ⟨by decide,by decide⟩,by decide,hC _ _ ⟨_,rfl,⟨W9 _ (by decide),aB _ (by decide)⟩,rfl⟩⟩) ?_;rintro _ _ ⟨z,rfl,⟨z0,z1⟩,rfl⟩;refine jm (λlH h'=> ∃y:P7,lH= [some (.lst p),some (.int m),none,none,some (.int y)]/\h=h') (λC hC=>⟨_,rfl,_,rfl,.inl ⟨aA (by decide) z0,iH z1 (by decide)⟩,by decide,hC _ _ ⟨_,rfl,rfl⟩⟩) ?_;rintro _ _ ⟨y,rfl,rfl⟩;refine jm (λlH h'=> ∃x:P7,lH= [some (.lst p),some (.int m),none,none,some (.int y)]/\0<=x/\h'=zt h p [.int x,.int fl]) (λC hC=>⟨_,rfl,.inr ⟨by decide,by decide⟩,by decide,_,rfl,p,0,_,0,rfl,rfl,hp,rfl,hC _ _ ⟨_,rfl,W9 _ (by decide),rfl⟩⟩) ?_;rintro _ _ ⟨x,rfl,x0,rfl⟩;exact⟨_,rfl,_,_,jb,rfl,⟨by decide,by decide⟩,_,rfl,hm,_,Sub.refl _,q (x / 32%m) x (W9 _ (iG hm)) (aB _ hm) x0⟩
theorem Ju (Z:Zs mg)(F:Fun K "_law_whole" "_law_whole" wf f fd):FnOk P w K mg base CX0 (n+1) f fd ["_law_thing"] (LSp K zH):=by
 refine F.okM Jp (λhr=>(jL (zY (Qz (Jj (T:= "int") (by decide) rfl Z.isinstance rfl Z.int (by decide +kernel) (jv 0)) (VH (Nl (Jj (T:= "bool") (by decide) rfl Z.isinstance rfl Z.bool (by decide +kernel) (jv 0)))))))) ?_;rintro ds h Q ⟨d,nm,rfl,hn,q⟩;refine⟨rfl,?_⟩;simp only [ZA,YC,dIs,Je,jC,T4,B9,R1,T1,M3,M9,R0,S8,D.bl.injEq,YD,vA,T7,hn];cases d<;>cases hn<;>exact⟨h,Sub.refl h,q⟩
def WW (c:Str)(n:P5):G0 D:=((CN13.map λd=>c==d).take n).map D.bl
def UN (c:Str):G0 C7:=(CN13.map λd=>c==d).map fE
def wordsD:G0 D:=(["table","place","number","order","set","walk","lengths","way","apart","row","tables","text","great"]:G0 Str).map D.str
theorem Vz: ∀bs:G0 C3,ToPs h (bs.map D.bl) (bs.map fE)
 | []=>rfl
 |b::bs=>⟨_,_,rfl,rfl,Vz bs⟩
theorem jH {l:G0 C3}{j:P5}(h:(l.take j).all (!·)=true){m:P5}{y:C7}(hm:m<j)(e:(l.map fE)[m]? =some y):T8 y (.bool true)=false:=by
 rw [R6] at e;obtain⟨b,e1,rfl⟩:=E1.mp e;have:=R7.mp h b (M5 (i:=m) (by rw [K4 hm];exact e1));cases b with
 |true=>cases this
 |false=>rfl
theorem MI {c:Str}(hc:c∈CN): ∃j:P5,j<10/\(UN c)[j]? =some (.bool true)/\(∀m y,m<j->(UN c)[m]? =some y->T8 y (.bool true)=false)/\atI wordsD (j:P7)=some (D.str (wU c))/\((UN c).countP λz=>T8 z (.bool true))=1:=by
 simp only [CN,P0,T0,or_false] at hc;rcases hc with rfl|rfl|rfl|rfl|rfl|rfl|rfl|rfl|rfl|rfl
 ·exact⟨0,by decide,rfl,λm y=>jH rfl,rfl,rfl⟩
 ·exact⟨1,by decide,rfl,λm y=>jH rfl,rfl,rfl⟩
 ·exact⟨2,by decide,rfl,λm y=>jH rfl,rfl,rfl⟩
 ·exact⟨3,by decide,rfl,λm y=>jH rfl,rfl,rfl⟩
 ·exact⟨4,by decide,rfl,λm y=>jH rfl,rfl,rfl⟩
 ·exact⟨5,by decide,rfl,λm y=>jH rfl,rfl,rfl⟩
 ·exact⟨6,by decide,rfl,λm y=>jH rfl,rfl,rfl⟩
 ·exact⟨7,by decide,rfl,λm y=>jH rfl,rfl,rfl⟩
 ·exact⟨8,by decide,rfl,λm y=>jH rfl,rfl,rfl⟩
 ·exact⟨9,by decide,rfl,λm y=>jH rfl,rfl,rfl⟩
theorem Jv (Z:Zs mg)(Ex:Exc K mg)(F:Fun K "_law_kind" "_law_kind" wI f fd):FnOkU P w K mg base CX0 (n+1) f fd ["_law_e"] (LSp K (Vn mg)):=by
 obtain⟨D_NoOrder,m_NoOrder⟩:=Ex.cls "NoOrder" (by decide);obtain⟨D_NoNumber,m_NoNumber⟩:=Ex.cls "NoNumber" (by decide);obtain⟨D_NoPlace,m_NoPlace⟩:=Ex.cls "NoPlace" (by decide);obtain⟨D_NoTable,m_NoTable⟩:=Ex.cls "NoTable" (by decide);obtain⟨D_NoLengths,m_NoLengths⟩:=Ex.cls "NoLengths" (by decide);obtain⟨D_NoWalk,m_NoWalk⟩:=Ex.cls "NoWalk" (by decide);obtain⟨D_NoSet,m_NoSet⟩:=Ex.cls "NoSet" (by decide);obtain⟨D_NoRow,m_NoRow⟩:=Ex.cls "NoRow" (by decide);obtain⟨D_Apart,m_Apart⟩:=Ex.cls "Apart" (by decide);obtain⟨D_NoWay,m_NoWay⟩:=Ex.cls "NoWay" (by decide);obtain⟨D_TooGreat,m_TooGreat⟩:=Ex.cls "TooGreat" (by decide);obtain⟨D_NoText,m_NoText⟩:=Ex.cls "NoText" (by decide);obtain⟨D_NoTables,m_NoTables⟩:=Ex.cls "NoTables" (by decide);refine F.okJU jK (λds h Q q=>by obtain⟨c,C,e,hc,hm,q⟩:=q;subst e;rfl) _ (λcdv A outer s H E hr=>(js7 (jse 1 jK (yc (j4 (WU rfl Z.isinstance rfl m_NoTable (jv 0)) (WU rfl Z.isinstance rfl m_NoPlace (jv 0)) (WU rfl Z.isinstance rfl m_NoNumber (jv 0)) (WU rfl Z.isinstance rfl m_NoOrder (jv 0))))) (jse 1 jK (jop jD (jv 1) (yc (j3 (WU rfl Z.isinstance rfl m_NoSet (jv 0)) (WU rfl Z.isinstance rfl m_NoWalk (jv 0)) (WU rfl Z.isinstance rfl m_NoLengths (jv 0)))))) (jse 1 jK (jop jD (jv 1) (yc (j3 (WU rfl Z.isinstance rfl m_NoWay (jv 0)) (WU rfl Z.isinstance rfl m_Apart (jv 0)) (WU rfl Z.isinstance rfl m_NoRow (jv 0)))))) (jse 1 jK (jop jD (jv 1) (yc (j3 (WU rfl Z.isinstance rfl m_NoTables (jv 0)) (WU rfl Z.isinstance rfl m_NoText (jv 0)) (WU rfl Z.isinstance rfl m_TooGreat (jv 0)))))) (Jl (jpt (Xf (wy (wT (Bg (T:= "ValueError") rfl Z.isinstance rfl Ex.ve (by decide +kernel) (jv 0)))) (Xe (jt1 oq_ne (Bf hr.units (jv 1) jbl) jj)))) (zY zW)) (jse 2 jK (yc (jac zW (by exact(jac zW (by exact(jac zW (by exact(jac zW (by exact(jac zW (by exact(jac zW (by exact(j4 zW zW zW zW))))))))))))))) (zY (ji1 (jop jD (jv 2) (yc (j3 zW zW zW))) (Bc hr.units (jv 1) jbl))))) ?_;intro ds h Q q;obtain⟨c,C,e,hc,hm,q⟩:=q;subst e;have kit: ∀d∈CN13,∀D,mg d=some (.ref D)->Y3 K (.ref C) (.ref D)=some (c==d):=λd hd D hD=>Ex.kit c hc d hd C D hm hD
 have ek:=Ex.ek c hc C hm;have kv:=Ex.val c hc C hm;refine jm (λlH h'=> ∃p,lH= [some (.exc C),some (.lst p),none]/\Sub h h'/\h' p=some (WW c 4)) (λC2 hC=>⟨_,rfl,C,_,rfl,ek,kit _ (by decide) _ m_NoTable,_,rfl,C,_,rfl,ek,kit _ (by decide) _ m_NoPlace,_,rfl,C,_,rfl,ek,kit _ (by decide) _ m_NoNumber,_,rfl,C,_,rfl,ek,kit _ (by decide) _ m_NoOrder,sz4,λp e=>hC _ _ ⟨p,rfl,Sub.newAt (Sub.refl h) e,jb⟩⟩) ?_;rintro _ h1 ⟨p,rfl,sb,k1⟩;refine jm (λlH h'=> ∃p,lH= [some (.exc C),some (.lst p),none]/\Sub h h'/\h' p=some (WW c 7)) (λC2 hC=>⟨_,rfl,_,rfl,C,_,rfl,ek,kit _ (by decide) _ m_NoSet,_,rfl,C,_,rfl,ek,kit _ (by decide) _ m_NoWalk,_,rfl,C,_,rfl,ek,kit _ (by decide) _ m_NoLengths,sz3,λp2 e2=>⟨_,_,jc k1 e2,jb,(by show 7<=sizeLine;decide),λp3 e3=>hC _ _ ⟨p3,rfl,Sub.newAt (Sub.newAt sb e2) e3,jb⟩⟩⟩) ?_;rintro _ h1 ⟨p,rfl,sb,k1⟩;refine jm (λlH h'=> ∃p,lH= [some (.exc C),some (.lst p),none]/\Sub h h'/\h' p=some (WW c 10)) (λC2 hC=>⟨_,rfl,_,rfl,C,_,rfl,ek,kit _ (by decide) _ m_NoWay,_,rfl,C,_,rfl,ek,kit _ (by decide) _ m_Apart,_,rfl,C,_,rfl,ek,kit _ (by decide) _ m_NoRow,sz3,λp2 e2=>⟨_,_,jc k1 e2,jb,(by show 10<=sizeLine;decide),λp3 e3=>hC _ _ ⟨p3,rfl,Sub.newAt (Sub.newAt sb e2) e3,jb⟩⟩⟩) ?_;rintro _ h1 ⟨p,rfl,sb,k1⟩;refine jm (λlH h'=> ∃p,lH= [some (.exc C),some (.lst p),none]/\Sub h h'/\h' p=some (WW c 13)) (λC2 hC=>⟨_,rfl,_,rfl,C,_,rfl,ek,kit _ (by decide) _ m_NoTables,_,rfl,C,_,rfl,ek,kit _ (by decide) _ m_NoText,_,rfl,C,_,rfl,ek,kit _ (by decide) _ m_TooGreat,sz3,λp2 e2=>⟨_,_,jc k1 e2,jb,(by show 13<=sizeLine;decide),λp3 e3=>hC _ _ ⟨p3,rfl,Sub.newAt (Sub.newAt sb e2) e3,jb⟩⟩⟩) ?_;rintro _ h1 ⟨p,rfl,sb,k1⟩;have hpG: ∀h':HD,h' p=some (WW c 13)->ToP h' (.lst p) (.list (UN c)):=λh' k=>⟨p,_,rfl,k,Vz _⟩
 obtain⟨j,hj,hz,hno,hw,hcnt⟩:=MI hc;refine yq [some (.exc C),some (.lst p),none] (λC2 hC=>⟨_,rfl,C,_,rfl,ek,kv,_,rfl,vy ⟨_,rfl,p,rfl,.bool true,_,hpG h1 k1,rfl,rfl,rfl,by simp [K0],_,rfl,?_⟩⟩) ?_
 ·rw [hcnt];exact vy (hC)
 refine jm (λlH h'=> ∃w,lH= [some (.exc C),some (.lst p),some (.lst w)]/\Sub h1 h'/\h' p=some (WW c 13)/\h' w=some (wordsD.take 10)) (λC2 hC=>⟨(by show 10<=sizeLine;decide),λw e=>hC _ _ ⟨w,rfl,Sub.newAt (Sub.refl h1) e,jc k1 e,jb⟩⟩) ?_;rintro _ h2 ⟨w,rfl,sb2,kp2,kw⟩;exact⟨_,rfl,sz3,λp4 e4=>⟨_,_,jc kw e4,jb,(by show 13<=sizeLine;decide),λp5 e5=>⟨_,rfl,p,rfl,.bool true,_,j,_,hpG _ (jc (jc kp2 e4) e5),rfl,rfl,rfl,by simp [K0],by omega,hz,rfl,hno,_,_,jb,hw,_,Sub.refl _,q _ (Sub.newAt (Sub.newAt (sb.trans sb2) e4) e5)⟩⟩⟩
theorem Gj (Z:Zs mg)(Ex:Exc K mg)(F:Fun K "_law_said" "_law_said" wJ f fd)(CU:Vj P w K mg base n "_law_kind" ["_law_e"] (Vn mg)):FnOkS P w K mg base CX0 (n+2) f fd ["_law_call"] (Wq P w K mg base n):=by
 obtain⟨gU,gdU,GU,bGU,kGU,mGU⟩:=CU;obtain⟨pe,hpe,hex⟩:=Ex.pe;refine QP F yw rfl rfl rfl rfl rfl hpe hex _ (λcdv A outer s H E x hr=>jq (Nm (i:=3) yw.nd rfl (W0 rfl) (Dw GU hr rfl mGU kGU bGU (jac (jv 2) zX))) (jq (Re (Qy (Mq hr.units) (jv 3) (zL (jac zW (jac zW zX))) (by with_unfolding_all rfl)) (jL vR) Wn) (jq (Re (Qy oq_eq (jv 3) zW (Yo _)) (jL vR) Wn) (jL (zY (zL (jac (jv 3) zX))))))) ?_;intro c hc C h Qd hm q;refine⟨_,rfl,c,C,rfl,hc,hm,λh' sb=> ?_⟩;refine⟨_,rfl,(by show 2<=sizeLine;decide),.str (wU c),[.str "tables",.str "text"],rfl,.inr ⟨_,rfl,⟨_,_,rfl,rfl,_,_,rfl,rfl,rfl⟩⟩,?_,by decide +kernel,by simp [K0],_,rfl,?_⟩
 ·simp only [CN,P0,T0,or_false] at hc;rcases hc with rfl|rfl|rfl|rfl|rfl|rfl|rfl|rfl|rfl|rfl<;>decide +kernel
 have e1:((false !=List.any [j8 "tables",j8 "text"] λz=>T8 z (.str (wU c))))=false:=by
  simp only [CN,P0,T0,or_false] at hc;rcases hc with rfl|rfl|rfl|rfl|rfl|rfl|rfl|rfl|rfl|rfl<;>rfl
 rw [e1];refine vy ⟨_,rfl,_,rfl,?_⟩;have e2:decide (wU c= "great")=false:=by
  simp only [CN,P0,T0,or_false] at hc;rcases hc with rfl|rfl|rfl|rfl|rfl|rfl|rfl|rfl|rfl|rfl<;>rfl
 rw [e2];exact vy ⟨_,rfl,(by show 1<=sizeLine;decide),h,sb,q⟩
theorem Zn (Z:Zs mg)(F:Fun K "_law_same" "_law_same" wK f fd):FnOk P w K mg base CX0 (n+1) f fd ["_law_found","_law_due"] (LSp K Xj):=by
 refine F.okM Zi (λhr=>(jL (zY (jc1 oq_eq (zZ (Wp hr) rfl Z.repr (by decide +kernel) (j1 (jv 0))) (zZ (Wp hr) rfl Z.repr (by decide +kernel) (j1 (jv 1))))))) ?_;rintro ds h Q ⟨x,y,pd,rfl,t1,t2,so,q⟩;refine⟨rfl,?_⟩;refine⟨_,rfl,x,pd,rfl,t1,so,_,rfl,y,pd,rfl,t2,so,h,Sub.refl h,?_⟩;rw [R5 rfl];exact q
def yt:RDn:=λds h Q=> ∃p l fl,ds= [.lst p]/\h p=some [.int l,.int fl]/\0<=l/\ ∀ (k:P5) l',1<=k->k<=6->0<=l'->Q (.int (k:P7)) (zt h p [.int l',.int fl])
theorem Zo (Z:Zs mg)(F:Fun K "_law_size" "_law_size" wL f fd)(jh:jz P w K mg base n "_law_draw" ["_law_pen_here","_law_many"] jS):FnOk P w K mg base CX0 (n+1) f fd ["_law_pen_here"] (LSp K yt):=by
 refine F.okM Zj (λhr=>(jL (zY (ji1 (yc (jac jj (by exact(jac jj (by exact(jac jj (by exact(jac jj (by exact(jac jj (by exact(jac jj (by exact(jac jj (by exact(jac jj (by exact(j4 jj jj jj jj)))))))))))))))))) (jk jh hr (j2 (jv 0) jj)))))) ?_;rintro ds h Q ⟨p,l,fl,rfl,hp,h0,q⟩;refine⟨rfl,?_⟩;simp only [ZA,dOp,UX,jG,dC,yx,R1,T1,dCB,Je,jC,T4,B9,M3,M9,R0,S8,ixD,vA,T7];refine⟨by decide,λp1 e1=>⟨p,l,fl,12,rfl,jc hp e1,h0,by decide,by decide,λr l' r0 r1 l0=> ?_⟩⟩;obtain⟨d,hd,ed⟩:=zE (xs:= [D.int 1,D.int 2,D.int 3,D.int 4,D.int 5,D.int 3,D.int 4,D.int 2,D.int 6,D.int 5,D.int 4,D.int 3]) r0 r1;refine⟨_,d,jg (jp hp e1) jb,ed,_,Sub.both (Sub.newAt (Sub.refl h) e1),?_⟩;have q': ∀k:P5,1<=k->k<=6->Q (.int (k:P7)) (zt h p [.int l',.int fl]):=λk a b=>q k l' a b l0
 simp only [P0,T0,or_false] at hd;rcases hd with e|e|e|e|e|e|e|e|e|e|e|e<;>subst e
 ·exact q' 1 (by decide) (by decide)
 ·exact q' 2 (by decide) (by decide)
 ·exact q' 3 (by decide) (by decide)
 ·exact q' 4 (by decide) (by decide)
 ·exact q' 5 (by decide) (by decide)
 ·exact q' 3 (by decide) (by decide)
 ·exact q' 4 (by decide) (by decide)
 ·exact q' 2 (by decide) (by decide)
 ·exact q' 6 (by decide) (by decide)
 ·exact q' 5 (by decide) (by decide)
 ·exact q' 4 (by decide) (by decide)
 ·exact q' 3 (by decide) (by decide)
def wZ:RDn:=λds h Q=> ∃p l fl,∃k:P5,ds= [.lst p,.int (k:P7)]/\h p=some [.int l,.int fl]/\0<=l/\1<=k/\k<=6/\ ∀T l',GoodTab k T->0<=l'->Q (wO T) (zt h p [.int l',.int fl])
theorem Jw (Z:Zs mg)(F:Fun K "_law_table" "_law_table" wg f fd)(jh:jz P w K mg base n "_law_draw" ["_law_pen_here","_law_many"] jS):FnOk P w K mg base CX0 (n+1) f fd ["_law_pen_here","_law_size_here"] (LSp K wZ):=by
 refine F.okM jl (λhr=>(js5 (Nn (i:=2) (j:=3) rfl jl.nd rfl rfl (by decide) rfl rfl (j2 (jk jh hr (j2 (jv 0) jj)) (ji1 (yc (j3 jj jj jj)) (jk jh hr (j2 (jv 0) jj)))) rfl) (jse 4 jl (ji1 (yc (j4 jj jj jj (jop Wj jj jj))) (jk jh hr (j2 (jv 0) jj)))) (jse 5 jl (yc zX)) (QC L6 rfl (jrg Z (jv 1)) (jgn 6 jl) (js3 (jse 7 jl (yc zX)) (QC L6 rfl (jrg Z (jv 1)) (jgn 8 jl) (js5 (jse 9 jl (jc1 oq_eq (jk jh hr (j2 (jv 0) (jv 3))) jj)) (Jl (jt1 PN (jv 2) jj) (jse 9 jl (jor (jc1 oq_eq (jv 8) (jop yU (jop jD (jv 6) jj) (jv 1))) (VH (Qz (jv 9) (VH (jc1 (Xd hr.units) (jk jh hr (j2 (jv 0) jj)) (jv 2)))))))) (Jl (jt1 oq_eq (jv 2) jj) (jse 9 jl (jor (Qz (jv 9) (VH (jc1 oq_eq (jop yU (jop Xa (jv 8) (jv 6)) jj) jj))) (VH (jc1 (Xd hr.units) (jv 8) (jop jD (jv 6) jj)))))) (Jl (jt1 oq_eq (jv 2) jj) (jse 9 jl (Qz (jv 9) (VH (jc1 YG (jv 8) (jv 6)))))) (Up (Mn (jv 7) (jop yj (zc Xc rfl Z.int (by decide +kernel) (j1 (jv 9))) (jop jD jj (jk jh hr (j2 (jv 0) (jv 4))))))))) (Up (Mn (jv 5) (zc cq_tuple rfl Z.tuple (by decide +kernel) (j1 (jv 7))))))) (zY (zc cq_tuple rfl Z.tuple (by decide +kernel) (j1 (jv 5)))))) ?_;rintro ds h Q ⟨p,l,fl,k,rfl,hp,h0,hk1,hk6,q⟩;refine⟨rfl,?_⟩;refine jm (λlH h'=> ∃way o l2,lH= [some (.lst p),some (.int (k:P7)),some (.int way),some (.int o),none,none,none,none,none,none]/\0<o/\o<1000/\0<=l2/\h' p=some [.int l2,.int fl]/\But p h h') (λC hC=>⟨_,rfl,p,l,fl,6,rfl,hp,h0,by decide,by decide,λway l1 w0 w1 l10=>⟨sz3,λp1 e1=>⟨_,rfl,p,l1,fl,3,rfl,jc jb e1,l10,by decide,by decide,λr l2 r0 r1 l20=> ?_⟩⟩⟩) ?_
 ·obtain⟨oft,ho,eo⟩:=zE (xs:= [D.int 2,D.int 3,D.int 5]) r0 r1;obtain⟨o,e,o1,o2⟩: ∃o:P7,oft= .int o/\0<o/\o<1000:=by
   simp only [P0,T0,or_false] at ho;rcases ho with e|e|e<;>exact⟨_,e,by decide,by decide⟩
  subst e;exact⟨_,_,jg (jp jb e1) jb,eo,_,_,rfl,hC _ _ ⟨way,o,l2,rfl,o1,o2,l20,jb,((But.upd).new e1).put⟩⟩
 rintro _ h1 ⟨way,o,l2,rfl,o1,o2,l20,kA,bA⟩;refine jm (λlH h'=> ∃m l3,lH= [some (.lst p),some (.int (k:P7)),some (.int way),some (.int o),some (.int m),none,none,none,none,none]/\0<m/\m<=1000000/\0<=l3/\h' p=some [.int l3,.int fl]/\But p h h') (λC hC=>⟨⟨by decide,by decide,by decide⟩,sz4,λp1 e1=>⟨_,rfl,p,l2,fl,4,rfl,jc kA e1,l20,by decide,by decide,λr l3 r0 r1 l30=> ?_⟩⟩) ?_
 ·obtain⟨most,ho,eo⟩:=zE (xs:= [D.int 1,D.int 1,D.int 3,D.int (10^e8 6)]) r0 r1;obtain⟨m,e,m1,m2⟩: ∃o:P7,most= .int o/\0<o/\o<=1000000:=by
   simp only [P0,T0,or_false] at ho;rcases ho with e|e|e|e<;>exact⟨_,e,by decide,by decide⟩
  subst e;exact⟨_,_,jg (jp kA e1) jb,eo,hC _ _ ⟨m,l3,rfl,m1,m2,l30,jb,(bA.new e1).put⟩⟩
 clear kA bA;rintro _ h2 ⟨m,l3,rfl,m1,m2,l30,kB,bB⟩;refine jm (λlH h'=> ∃R,lH= [some (.lst p),some (.int (k:P7)),some (.int way),some (.int o),some (.int m),some (.lst R),none,none,none,none]/\R≠p/\h R=none/\h' R=some []/\h' p=some [.int l3,.int fl]/\But p h h') (λC hC=>⟨sz0,λR eR=>hC _ _ ⟨R,rfl,jp kB eR,YV bB eR (jp kB eR),jb,jc kB eR,bB.new eR⟩⟩) ?_;clear kB bB;rintro _ h3 ⟨R,rfl,nR,fR,kR,kC,bC⟩;refine jm (λlH h'=> ∃a b c d l4 rows,lH= [some (.lst p),some (.int (k:P7)),some (.int way),some (.int o),some (.int m),some (.lst R),a,b,c,d]/\0<=l4/\h' p=some [.int l4,.int fl]/\h' R=some (rows.map wu)/\But p h h'/\GoodTab k rows) (λC hC=> ?_) (λlH h' ⟨a,b,c,d,l4,rows,e,l40,kD,kE,bD,g⟩=>by subst e;exact⟨_,rfl,_,kE,_,bD.sub kD,q rows l4 g l40⟩);refine ZN k (λi lH h'=> ∃a b c d l4 rows,lH= [some (.lst p),some (.int (k:P7)),some (.int way),some (.int o),some (.int m),some (.lst R),a,b,c,d]/\0<=l4/\h' p=some [.int l4,.int fl]/\h' R=some (rows.map wu)/\But p h h'/\rows.length=i/\ ∀r∈rows,yW k r) (by omega) (λR' r=>⟨_,rfl,r⟩)
  ⟨none,none,none,none,l3,[],rfl,l30,kC,kR,bC,rfl,λr hr=>nomatch hr⟩ (λlH h' z=>hC _ _ z) ?_
 clear kC kR bC;rintro i _ h4 hi ⟨a,b,c,d,l4,rows,rfl,l40,kD,kE,bD,g1,g2⟩;refine jm (λlH h'=> ∃S,lH= [some (.lst p),some (.int (k:P7)),some (.int way),some (.int o),some (.int m),some (.lst R),some (.int (i:P7)),some (.lst S),c,d]/\S≠p/\S≠R/\h S=none/\h' S=some []/\h' p=some [.int l4,.int fl]/\h' R=some (rows.map wu)/\But p h h') (λC hC=>⟨sz0,λS eS=>hC _ _ ⟨S,rfl,jp kD eS,jp kE eS,YV bD eS (jp kD eS),jb,jc kD eS,jc kE eS,bD.new eS⟩⟩) ?_;clear kD kE bD;rintro _ h5 ⟨S,rfl,nS,nSR,fS,kS,kD,kE,bD⟩;refine jm (λlH h'=> ∃c d l5 row,lH= [some (.lst p),some (.int (k:P7)),some (.int way),some (.int o),some (.int m),some (.lst R),some (.int (i:P7)),some (.lst S),c,d]/\0<=l5/\h' p=some [.int l5,.int fl]/\h' R=some (rows.map wu)/\h' S=some (row.map D.int)/\But p h h'/\yW k row) (λC hC=> ?_) ?_
 rotate_left
 ·rintro _ h6 ⟨c,d,l5,row,rfl,l50,kD,kE,kF,bD,g⟩;refine⟨_,rfl,R,rfl,_,rfl,_,kF,_,kE,?_,_,Sub.refl _,by omega,_,_,_,_,l5,rows++ [row],rfl,l50,jg (A0 nR) kD,?_,bD.putNew fR,by rw [T3,g1];rfl,?_⟩
  ·rw [G9];exact A9 (show rows.length<=1000 by omega) (by decide)
  ·rw [jb,fK];rfl
  ·intro r hr;rcases T2.mp hr with z|z
   ·exact g2 r z
   ·rw [S4.mp z];exact g
 refine ZN k (λj lH h'=> ∃c d l5 row,lH= [some (.lst p),some (.int (k:P7)),some (.int way),some (.int o),some (.int m),some (.lst R),some (.int (i:P7)),some (.lst S),c,d]/\0<=l5/\h' p=some [.int l5,.int fl]/\h' R=some (rows.map wu)/\h' S=some (row.map D.int)/\But p h h'/\row.length=j/\ ∀x∈row,0<=x/\x<=1000000) (by omega) (λR' r=>⟨_,rfl,r⟩)
  ⟨_,_,l4,[],rfl,l40,kD,kE,kS,bD,rfl,λr hr=>nomatch hr⟩ (λlH h' z=>hC _ _ z) ?_
 clear kD kE kS bD;rintro j _ h6 hj ⟨c,d,l5,row,rfl,l50,kD,kE,kF,bD,g1',g2'⟩;refine jm (λlH h'=> ∃ (g:C3) (l6:P7),lH= [some (.lst p),some (.int (k:P7)),some (.int way),some (.int o),some (.int m),some (.lst R),some (.int (i:P7)),some (.lst S),some (.int (j:P7)),some (.bl g)]/\0<=l6/\h' p=some [.int l6,.int fl]/\h' R=some (rows.map wu)/\h' S=some (row.map D.int)/\But p h h') (λC hC=>⟨_,rfl,_,rfl,p,l5,fl,o,rfl,kD,l50,o1,by omega,λr l6 r0 r1 l60=>hC _ _ ⟨_,l6,rfl,l60,jb,jg nR kE,jg nS kF,bD.put⟩⟩) ?_;clear kD kE kF bD;rintro _ _ ⟨g,l6,rfl,l60,kD,kE,kF,bD⟩;refine jm (λlH h'=> ∃ (g:C3) (l6:P7),lH= [some (.lst p),some (.int (k:P7)),some (.int way),some (.int o),some (.int m),some (.lst R),some (.int (i:P7)),some (.lst S),some (.int (j:P7)),some (.bl g)]/\0<=l6/\h' p=some [.int l6,.int fl]/\h' R=some (rows.map wu)/\h' S=some (row.map D.int)/\But p h h') (λC hC=>⟨_,rfl,_,rfl,Wd (λ_=>⟨_,rfl,_,rfl,_,rfl,by omega,_,rfl,Wd (λ_=>hC _ _ ⟨_,l6,rfl,l60,kD,kE,kF,bD⟩) λ_=>⟨_,rfl,_,rfl,Wd (λ_=>⟨_,rfl,p,l6,fl,2,rfl,kD,l60,by decide,by decide,λr l7 r0 r1 l70=>⟨_,rfl,hC _ _ ⟨_,l7,rfl,l70,jb,jg nR kE,jg nS kF,bD.put⟩⟩⟩) λ_=>hC _ _ ⟨_,l6,rfl,l60,kD,kE,kF,bD⟩⟩⟩) λ_=>hC _ _ ⟨_,l6,rfl,l60,kD,kE,kF,bD⟩⟩) ?_;clear kD kE kF bD;rintro _ _ ⟨g,l6,rfl,l60,kD,kE,kF,bD⟩;refine jm (λlH h'=> ∃ (g:C3) (l6:P7),lH= [some (.lst p),some (.int (k:P7)),some (.int way),some (.int o),some (.int m),some (.lst R),some (.int (i:P7)),some (.lst S),some (.int (j:P7)),some (.bl g)]/\0<=l6/\h' p=some [.int l6,.int fl]/\h' R=some (rows.map wu)/\h' S=some (row.map D.int)/\But p h h') (λC hC=>⟨_,rfl,_,rfl,Wd (λ_=>⟨_,rfl,_,rfl,Wd (λ_=>⟨_,rfl,_,rfl,by decide,_,rfl,Wd (λ_=>hC _ _ ⟨_,l6,rfl,l60,kD,kE,kF,bD⟩) λ_=>⟨_,rfl,_,rfl,hC _ _ ⟨_,l6,rfl,l60,kD,kE,kF,bD⟩⟩⟩) λ_=>⟨_,rfl,Wd (λ_=>hC _ _ ⟨_,l6,rfl,l60,kD,kE,kF,bD⟩) λ_=>⟨_,rfl,_,rfl,hC _ _ ⟨_,l6,rfl,l60,kD,kE,kF,bD⟩⟩⟩⟩) λ_=>hC _ _ ⟨_,l6,rfl,l60,kD,kE,kF,bD⟩⟩) ?_;clear kD kE kF bD;rintro _ _ ⟨g,l6,rfl,l60,kD,kE,kF,bD⟩;refine jm (λlH h'=> ∃ (g:C3) (l6:P7),lH= [some (.lst p),some (.int (k:P7)),some (.int way),some (.int o),some (.int m),some (.lst R),some (.int (i:P7)),some (.lst S),some (.int (j:P7)),some (.bl g)]/\0<=l6/\h' p=some [.int l6,.int fl]/\h' R=some (rows.map wu)/\h' S=some (row.map D.int)/\But p h h') (λC hC=>⟨_,rfl,_,rfl,Wd (λ_=>⟨_,rfl,_,rfl,Wd (λ_=>⟨_,rfl,_,rfl,hC _ _ ⟨_,l6,rfl,l60,kD,kE,kF,bD⟩⟩) λ_=>hC _ _ ⟨_,l6,rfl,l60,kD,kE,kF,bD⟩⟩) λ_=>hC _ _ ⟨_,l6,rfl,l60,kD,kE,kF,bD⟩⟩) ?_;clear kD kE kF bD;rintro _ _ ⟨g,l6,rfl,l60,kD,kE,kF,bD⟩;have gi: ∀x r:P7,0<=r->r<m->x=0\/x=1->CMul x (1+r)/\0<=x*(1+r)/\x*(1+r)<=1000000:=λx r r0 r1 hx=>by
  rcases hx with e|e<;>subst e
  ·exact⟨.inl ⟨by decide,by decide⟩,by omega,by omega⟩
  ·exact⟨.inl ⟨by decide,by decide⟩,by omega,by omega⟩
 refine⟨_,rfl,S,rfl,_,rfl,_,rfl,_,rfl,p,l6,fl,m,rfl,kD,l60,m1,by omega,λr l7 r0 r1 l70=> ?_⟩;have gg:=gi (if g=true then 1 else 0) r r0 r1 (by cases g<;>decide);refine⟨gg.1,_,jg nS kF,?_,_,Sub.refl _,by omega,_,_,l7,row++ [(if g=true then 1 else 0)*(1+r)],rfl,l70,jg (A0 nS) jb,jg (A0 nSR) (jg nR kE),?_,(bD.put).putNew fS,by rw [T3,g1'];rfl,?_⟩
 ·rw [G9];exact A9 (show row.length<=1000 by omega) (by decide)
 ·rw [jb,fK];rfl
 ·intro x hx;rcases T2.mp hx with z|z
  ·exact g2' x z
  ·rw [S4.mp z];exact gg.2
theorem yB (Z:Zs mg)(F:Fun K "_law_is_table" "_law_is_table" zg f fd)(Zr:jz P w K mg base n "_law_whole" ["_law_thing"] zH):FnOk P w K mg base CX0 (n+1) f fd ["_law_thing"] (LSp K jy):=by
 refine F.okM jV (λhr=>(js3 (Jl (jpt (Xf (wy (wT (Jj (T:= "tuple") (by decide) rfl Z.isinstance rfl Z.tuple (by decide +kernel) (jv 0)))) (Xe (wy (ZO WI WI jj (Vo Z (jv 0)) jj))))) (zY jbl)) (QC L6 rfl (zM (jv 0)) (jgn 1 jV) (js2 (Jl (jpt (Xf (wy (wT (Jj (T:= "tuple") (by decide) rfl Z.isinstance rfl Z.tuple (by decide +kernel) (jv 1)))) (Xe (jt1 oq_ne (Vo Z (jv 1)) (Vo Z (jv 0)))))) (zY jbl)) (Jl (wy (wT (zZ (JV rfl) rfl Z.all O3 (j1 (jl0 2 jV (zM (jv 1)) (λ_ _ _ _=>(Qz (jk Zr hr (j1 (jv 2))) (VH (jc1 YG (jv 2) jj))))))))) (zY jbl)))) (zY jbl))) ?_;rintro ds h Q ⟨d,rfl,ok,q⟩;refine⟨rfl,?_⟩;obtain⟨nm,hn⟩:=wv ok;refine jm (λlH h'=>h'=h/\lH= [some d,none,none]/\ ∃es,d= .tup es/\1<=es.length/\es.length<=6) (λC hC=> ?_) (λlH h' hV=> ?_)
 ·simp only [VG,XX,JP,wE,dIs,Je,jC,T4,B9,R1,T1,D1,M3,M9,R0,S8,D.bl.injEq,ZA,dC,vA,vz,vP,dCB,jG,yx,Uh,Ug,T7,hn];cases d with
  |tup es=>
   cases hn;simp only [Qq]
   by_cases h1:1<=es.length
   ·by_cases h6:es.length<=6
    ·have h1':(1:P7)<=es.length:=by omega
     have h6':(es.length:P7)<=6:=by omega
     simp [h1',h6'];exact hC _ _ ⟨rfl,rfl,es,rfl,h1,h6⟩
    ·have h1':(1:P7)<=es.length:=by omega
     have h6': ¬ (es.length:P7)<=6:=by omega
     simp [h1',h6'];exact⟨h,Sub.refl h,by simpa [vX,h1,h6] using q⟩
   ·have h1': ¬ (1:P7)<=es.length:=by omega
    simp [h1'];exact⟨h,Sub.refl h,by simpa [vX,h1] using q⟩
  |_=>cases hn<;>exact⟨h,Sub.refl h,q⟩
 obtain⟨eh,e,es,ed,h1,h6⟩:=hV;subst eh ed e;obtain⟨hl,ht⟩:=Jr ok;have qf: ∀r∈es,Zk r es.length=false->Q (.bl false) h':=λr hr z=>by
  have:vX (.tup es)=false:=by
   simp only [vX,R5 h1,R5 h6,L9];rw [List.all_eq_false];exact⟨r,hr,by simp [z]⟩
  rw [<-this];exact q
 refine jm (λlH h2=> ∃a b,lH= [some (.tup es),a,b]/\h2=h'/\ ∀r∈es,Zk r es.length=true) (λC hC=> ?_) (λlH h2 hV=> ?_)
 rotate_left
 ·obtain⟨a,b,e,e2,hr⟩:=hV;subst e e2;simp only [ZA,dC,vA];refine⟨_,Sub.refl _,?_⟩;have:vX (.tup es)=true:=by
   simp only [vX,R5 h1,R5 h6,L9];exact R7.mpr hr
  rw [<-this];exact q
 refine Wm (j:=λ_=>some es) es (λi lH h2=> ∃a b,lH= [some (.tup es),a,b]/\h2=h'/\ ∀r∈es.take i,Zk r es.length=true) (λR' r=>⟨_,rfl,r⟩) (λ_ _ _ _=>rfl) ⟨_,_,rfl,rfl,λr hr=>by simp at hr⟩
  (λlH h2 ⟨a,b,e,e2,hr⟩=>hC _ _ ⟨a,b,e,e2,λr z=>hr r (by rw [eZ];exact z)⟩) ?_
 rintro i r lH h2 hi ⟨a,b,e,e2,hr⟩;subst e e2;have rm:r∈es:=M5 hi;have hil:i<es.length:=(D0.mp hi).1;obtain⟨rn,hrn⟩:=wv (ht r rm);show zV _ _ _ [some (.tup es),some r,b] h2;refine jm (λlH h3=>h3=h2/\lH= [some (.tup es),some r,b]/\ ∃ns,r= .tup ns/\ns.length=es.length) (λC hC=> ?_) (λlH h3 hV=> ?_)
 ·simp only [VG,XX,JP,wE,dIs,Je,T9,R0,S8,D.bl.injEq,ZA,dC,Nxt,vA,vz,dOp,dCB,jG,yx,Uh,neD,T7,hrn];cases r with
  |tup ns=>
   cases hrn;simp only [Qq]
   by_cases hk:(ns.length:P7)=es.length
   ·simp [hk];exact hC _ _ ⟨rfl,rfl,ns,rfl,by omega⟩
   ·simp [hk];exact⟨h2,Sub.refl h2,qf _ rm (by simp [Zk,hk])⟩
  |_=>cases hrn<;>exact⟨h2,Sub.refl h2,qf _ rm rfl⟩
 obtain⟨eh,e,ns,er,hns⟩:=hV;subst eh e er;obtain⟨hl2,ht2⟩:=Jr (ht _ rm);simp only [VG,JP,wE,dCB,jG,yx,ZA,dC,Nxt,vA,vz];refine ZJ (ds:=ns) (h1:=h3) (j:=λ_=>some ns) (λx=> .bl (VI x)) (N3 (jQ hl2)) rfl (λR r=>⟨.tup ns,rfl,r⟩) (λd hd Q' q'=> ?_) (λp hp=> ?_)
 ·obtain⟨nn,hnn⟩:=wv (ht2 d hd);refine⟨d,rfl,d,nn,rfl,hnn,Vw d,rfl,?_⟩;cases d with
  |int i=>exact VY ⟨.int i,rfl,q'⟩
  |_=>exact vy q'
 ·refine⟨p,ns.map VI,rfl,by rw [jb];simp,_,rfl,?_⟩;have hrow:Zk (.tup ns) es.length=ns.all VI:=by simp [Zk,hns]
  have e1:(ns.map VI).all id=ns.all VI:=by rw [J9];rfl
  rw [zx hp,e1,<-hrow];cases hb:Zk (.tup ns) es.length with
  |true=>
   refine vy ⟨h3,Sub.refl _,by omega,_,_,rfl,rfl,?_⟩;intro r' hr';rw [V0,hi] at hr';rcases T2.mp hr' with z|z
   ·exact hr r' z
   ·simp at z;subst z;exact hb
  |false=>exact VY ⟨h3,Sub.refl _,qf _ rm hb⟩
mutual
def smB:D->C3
 | .int i=>decide (i.natAbs<2^200)
 | .scr _=>false| .exc _=>false| .fn _=>false| .dct _=>false
 | .tup ds=>decide (ds.length<=1000)&&smBs ds
 |_=>true
def smBs:G0 D->C3
 | []=>true
 |d::ds=>smB d&&smBs ds
end
theorem smBs_mem: ∀ {ds:G0 D},smBs ds=true-> ∀d∈ds,smB d=true
 |d::ds,h,x,hx=>by
  have h':(smB d&&smBs ds)=true:=h;rw [D9] at h';rcases P0.mp hx with e|e
  ·subst e;exact h'.1
  ·exact smBs_mem h'.2 x e
theorem VA: ∀ {ds:G0 D},(∀d∈ds,smB d=true)->smBs ds=true
 | [],_=>rfl
 |d::ds,h=>by
  show (smB d&&smBs ds)=true;rw [h d P8,VA λx hx=>h x (P9 _ hx)];rfl
theorem VB (h:smB (.tup ds)=true):ds.length<=1000/\ ∀d∈ds,smB d=true:=by
 have h':(decide (ds.length<=1000)&&smBs ds)=true:=h;rw [D9] at h';exact⟨N0 h'.1,smBs_mem h'.2⟩
theorem DR (h:ds.length<=1000)(h2: ∀d∈ds,smB d=true):smB (.tup ds)=true:=by
 show (decide (ds.length<=1000)&&smBs ds)=true;rw [R5 h,VA h2];rfl
mutual
theorem VC: ∀ {d:D},smB d=true->okD d=true
 | .non,_| .bl _,_| .int _,_| .str _,_| .lst _,_| .dic _ _,_=>rfl
 | .tup ds,h=>by
  have h':(decide (ds.length<=1000)&&smBs ds)=true:=h;rw [D9] at h';show (decide (ds.length<=1000)&&okDs ds)=true;rw [h'.1,smBs_ok h'.2];rfl
theorem smBs_ok: ∀ {ds:G0 D},smBs ds=true->okDs ds=true
 | [],_=>rfl
 |d::ds,h=>by
  have h':(smB d&&smBs ds)=true:=h;rw [D9] at h';show (okD d&&okDs ds)=true;rw [VC h'.1,smBs_ok h'.2];rfl
end
def Gk:D->P7
 | .int i=>i
 |_=>0
def Xr:D->G0 P7
 | .tup es=>es.map Gk
 |_=> []
def Xs:D->G0 (G0 P7)
 | .tup rs=>rs.map Xr
 |_=> []
theorem VD {k:P7}(h:Zk d k=true):d=wu (Xr d)/\((Xr d).length:P7)=k/\ ∀x∈Xr d,0<=x:=by
 cases d with
 |tup es=>
  have h':(decide ((es.length:P7)=k)&&es.all VI)=true:=h;rw [D9,aC,R7] at h';have num: ∀x∈es,x= .int (Gk x)/\0<=Gk x:=λx hx=>by
   have:=h'.2 x hx;cases x with
   |int i=>exact⟨rfl,N0 this⟩
   |_=>cases this
  refine⟨?_,?_,λx hx=> ?_⟩
  ·show D.tup es= .tup ((es.map Gk).map D.int);rw [L5];have:es.map (D.int∘Gk)=es.map id:=A1 λx hx=>(num x hx).1.symm
   rw [this,cP]
  ·show ((es.map Gk).length:P7)=k;rw [G9];exact h'.1
  ·obtain⟨y,hy,rfl⟩:=S0.mp (show x∈es.map Gk from hx);exact(num y hy).2
 |_=>cases h
theorem DS: ∀l:G0 P7,∃e:P5,∀x∈l,x<2^e
 | []=>⟨0,λ_ z=>nomatch z⟩
 |x::l=>by
  obtain⟨e,he⟩:=DS l;refine⟨max e x.natAbs,λy hy=> ?_⟩;rcases P0.mp hy with z|z
  ·subst z;have a:(y.natAbs:P7)<2^y.natAbs:=by exact_mod_cast Nat.lt_two_pow_self
   have b:(2:P7)^y.natAbs<=2^max e y.natAbs:=by exact_mod_cast B3 (by decide) (Nat.le_max_right _ _)
   omega
  ·have b:(2:P7)^e<=2^max e x.natAbs:=by exact_mod_cast B3 (by decide) (Nat.le_max_left _ _)
   have:=he y z;omega
theorem DT (h:vX d=true):d=wO (Xs d)/\(∃e,Sq (Xs d).length e (Xs d))/\1<=(Xs d).length/\(Xs d).length<=6:=by
 cases d with
 |tup rs=>
  have h':(decide (1<=rs.length)&&decide (rs.length<=6)&&rs.all λr=>Zk r rs.length)=true:=h;rw [D9,D9,aC,aC,R7] at h';obtain⟨⟨t1,t6⟩,ta⟩:=h';have len:(Xs (.tup rs)).length=rs.length:=G9 _;obtain⟨e,he⟩:=DS (Xs (.tup rs)).flatten;have row: ∀r∈Xs (.tup rs),∃q∈rs,r=Xr q:=λr hr=>by
   obtain⟨q,hq,rfl⟩:=S0.mp (show r∈rs.map Xr from hr);exact⟨q,hq,rfl⟩
  refine⟨?_,⟨e,rfl,λr hr=> ?_,λr hr x hx=> ?_,λr hr x hx=>he x (List.mem_flatten.mpr ⟨r,hr,hx⟩)⟩,by rw [len];exact t1,by rw [len];exact t6⟩
  ·show D.tup rs= .tup ((rs.map Xr).map wu);rw [L5];have:rs.map (wu∘Xr)=rs.map id:=A1 λx hx=>(VD (ta x hx)).1.symm
   rw [this,cP]
  ·obtain⟨q,hq,rfl⟩:=row r hr;have:=(VD (ta q hq)).2.1;rw [len];omega
  ·obtain⟨q,hq,rfl⟩:=row r hr;exact(VD (ta q hq)).2.2 x hx
 |_=>cases h
theorem DU (h:vX d=true)(s:smB d=true): ∃T,∃n:P5,d=wO T/\Sq n 200 T/\1<=n/\n<=6:=by
 obtain⟨e,⟨_,g⟩,h1,h6⟩:=DT h;refine⟨_,_,e,⟨g.len,g.row,g.nn,λr hr x hx=> ?_⟩,h1,h6⟩;rw [e] at s;have s1:=(VB s).2 (wu r) (S0.mpr ⟨r,hr,rfl⟩);have s2:decide (x.natAbs<2^200)=true:=(VB s1).2 (.int x) (S0.mpr ⟨x,hx,rfl⟩);have s3:=N0 s2;have:=g.nn r hr x hx;have c:((2^200:P5):P7)=2^200:=by simp
 omega
theorem Gm {x:D}{xs:G0 D}{lo hi:G7 P7}(h:x∈JY xs lo hi):x∈xs:=List.mem_of_mem_drop (List.mem_of_mem_take h)
theorem Gn {xs:G0 D}{lo hi:G7 P7}:(JY xs lo hi).length<=xs.length:=by unfold JY;rw [C6,V8];omega
def smN (n:P5)(ds:G0 D):Prop:=ds.length<=n/\ ∀d∈ds,smB d=true
variable {a:G0 D}
theorem smN.app {m:P5}{b:G0 D}(x:smN m a)(y:smN n b):smN (m+n) (a++b):=⟨by rw [T3];have:=x.1;have:=y.1;omega,λd hd=>(T2.mp hd).elim (x.2 d) (y.2 d)⟩
theorem smN.cut (x:smN n a)(lo hi:G7 P7):smN n (JY a lo hi):=⟨R4 Gn x.1,λd hd=>x.2 d (Gm hd)⟩
theorem smN.one (h:smB d=true):smN 1 [d]:=⟨G8 _,λx hx=>by rw [S4.mp hx];exact h⟩
theorem smN.rev (x:smN n a):smN n a.reverse:=⟨by rw [K1];exact x.1,λd hd=>x.2 d (List.mem_reverse.mp hd)⟩
theorem smN.tup {n:P5}{a:G0 D}(x:smN n a)(h:n<=1000:=by decide):smB (.tup a)=true:=DR (R4 x.1 h) x.2
theorem smN.sz {m:P5}{b:G0 D}(x:smN m a)(y:smN n b)(h:m+n<=1000:=by decide):a.length+b.length<=sizeLine:=N3 (jQ (by have:=x.1;have:=y.1;omega))
theorem Xt {r:G0 P7}(g:yW n r)(h:n<=6):smN 6 (r.map D.int):=⟨by rw [G9,g.1];exact h,λd hd=>by obtain⟨x,hx,rfl⟩:=S0.mp hd;exact R5 (P2 (show x.natAbs<1000001 by have:=g.2 x hx;omega) (by decide))⟩
theorem DV (g:GoodTab n T)(h:n<=6):smN 6 (T.map wu):=⟨by rw [G9,g.1];exact h,λd hd=>by obtain⟨x,hx,rfl⟩:=S0.mp hd;exact(Xt (g.2 x hx) h).tup⟩
def zk:RDn:=λds h Q=> ∃p l fl T,∃k:P5,ds= [.lst p,wO T]/\h p=some [.int l,.int fl]/\0<=l/\1<=k/\k<=6/\GoodTab k T/\ ∀d l',smB d=true->0<=l'->Q d (zt h p [.int l',.int fl])
theorem ya (Z:Zs mg)(F:Fun K "_law_bent_table" "_law_bent_table" jN f fd)(jh:jz P w K mg base n "_law_draw" ["_law_pen_here","_law_many"] jS):FnOk P w K mg base CX0 (n+1) f fd ["_law_pen_here","_law_table_here"] (LSp K zk):=by
 refine F.okM ji (λhr=>(js8 (jse 2 ji (Vo Z (jv 1))) (Nn (i:=3) (j:=4) rfl ji.nd rfl rfl (by decide) rfl rfl (j2 (jk jh hr (j2 (jv 0) (jv 2))) (jk jh hr (j2 (jv 0) (jv 2)))) rfl) (jse 5 ji (ji1 (yc (jac (No jj) (by exact(jac jbl (by exact(jac Dl (by exact(jac zW (by exact(jac (zL (j1 jj)) (by exact(jac (jop Wj jj jj) (by exact(j4 jbl jj (yc (j1 jj)) jj)))))))))))))) (jk jh hr (j2 (jv 0) jj)))) (jse 6 ji (ji1 (jv 1) (jv 3))) (jse 7 ji (yc (jac (jop jD (jop jD (wA (jv 6) zF (zd (jv 4))) (zL (j1 (jv 5)))) (wA (jv 6) (zd (jop jD (jv 4) jj)) zF)) (by exact(jac (jop jD (wA (jv 6) zF (zd (jv 4))) (wA (jv 6) (zd (jop jD (jv 4) jj)) zF)) (by exact(jac (jop jD (jv 6) (zL (j1 jj))) (by exact(j4 (zc YK rfl Z.list (by decide +kernel) (j1 (jv 6))) Dl jj (Np (jv 6))))))))))) (jse 8 ji (ji1 (jv 7) (ji1 (yc (jac jj (by exact(jac jj (by exact(jac jj (by exact(jac jj (by exact(jac jj (by exact(jac jj (by exact(j4 jj jj jj jj)))))))))))))) (jk jh hr (j2 (jv 0) jj))))) (jse 9 ji (yc (j4 (jop jD (jop jD (wA (jv 1) zF (zd (jv 3))) (zL (j1 (jv 8)))) (wA (jv 1) (zd (jop jD (jv 3) jj)) zF)) (jop jD (wA (jv 1) zF (zd (jv 3))) (wA (jv 1) (zd (jop jD (jv 3) jj)) zF)) (jop jD (jv 1) (wA (jv 1) zF (zd jj))) (zc YK rfl Z.list (by decide +kernel) (j1 (jv 1)))))) (zY (ji1 (jop jD (jv 9) (yc (j3 (zL (j1 (jv 1))) Dl (Np (jv 1))))) (ji1 (yc (jac jj (by exact(jac jj (by exact(jac jj (by exact(jac jj (by exact(jac jj (by exact(jac jj (by exact(jac jj (by exact(j4 jj jj jj jj)))))))))))))))) (jk jh hr (j2 (jv 0) jj))))))) ?_;rintro ds h Q ⟨p,l,fl,T,k,rfl,hp,h0,hk1,hk6,gT,q⟩;refine⟨rfl,?_⟩;have oT:=DV gT hk6;have hTl:((T.map wu).length:P7)=k:=by rw [G9,gT.1]
 refine jm (λlH h'=>lH= [some (.lst p),some (wO T),some (.int (k:P7)),none,none,none,none,none,none,none]/\h'=h) (λC hC=> ?_) (λlH h' hV=> ?_)
 ·simp only [Yc,dCB,jG,Je,jC,wO,T4,B9,R1,T1,D1,M3,M9,T9,R0,S8,yx,Uh,F8,F9,T7];rw [hTl];exact hC _ _ ⟨rfl,rfl⟩
 obtain⟨e,eh⟩:=hV;subst e eh;refine jm (λlH h2=> ∃ (a:P5) (b l2:P7),lH= [some (.lst p),some (wO T),some (.int (k:P7)),some (.int (a:P7)),some (.int b),none,none,none,none,none]/\a<k/\0<=l2/\h2 p=some [.int l2,.int fl]/\But p h' h2) (λC hC=> ?_) (λlH h2 hV=> ?_)
 ·simp only [Rc,jG,dCB,Je,R0,S8,T9,yx,F8,F9,T7];refine⟨p,l,fl,(k:P7),rfl,hp,h0,by omega,by omega,λa l1 a0 a1 l10=> ?_⟩;refine⟨p,l1,fl,(k:P7),rfl,jb,l10,by omega,by omega,λb l2 b0 b1 l20=> ?_⟩;exact⟨_,_,rfl,hC _ _ ⟨a.toNat,b,l2,by rw [cX a0],by omega,l20,jb,But.upd.put⟩⟩
 obtain⟨a,b,l2,e,ha,l20,kp,bp⟩:=hV;subst e;refine jm (λlH h2=> ∃ (off:D) (l3:P7),lH= [some (.lst p),some (wO T),some (.int (k:P7)),some (.int (a:P7)),some (.int b),some off,none,none,none,none]/\smB off=true/\0<=l3/\h2 p=some [.int l3,.int fl]/\But p h' h2) (λC hC=> ?_) (λlH h2 hV=> ?_)
 ·simp only [Yc,dOp,UX,jG,dUn,dC,Gr,Gp,yx,R1,T1,RY,dCB,Je,R0,S8,ixD,F8,F9,T7]
  repeat (first|intro _|refine⟨by decide,?_⟩|refine⟨⟨by decide,by decide,by decide⟩,?_⟩)
  rename_i p1 e1 p2 e2;refine⟨p,l2,fl,10,rfl,jc (jc kp e1) e2,l20,by decide,by decide,λr l3 r0 r1 l30=> ?_⟩;obtain⟨d,hd,ed⟩:=zE (xs:= [D.int (-1),D.bl true,D.non,D.str (D7 "0"),D.tup [D.int 0],D.int (10^e8 30),D.bl false,D.int 0,D.lst p1,D.int 1]) r0 r1;exact⟨_,d,jg (jp (jc kp e1) e2) jb,ed,hC _ _ ⟨d,l3,rfl,smBs_mem (by rfl) d hd,l30,jb,((bp.new e1).new e2).put⟩⟩
 obtain⟨off,l3,e,ooff,l30,kp,bp⟩:=hV;subst e;refine jm (λlH h3=> ∃r,lH= [some (.lst p),some (wO T),some (.int (k:P7)),some (.int (a:P7)),some (.int b),some off,some (wu r),none,none,none]/\yW k r/\h3=h2) (λC hC=> ?_) (λlH h3 hV=> ?_)
 ·simp only [Yc,dOp,Je,wO,T9,R0,S8,ixD,F8,F9,T7];have haT:a<T.length:=by rw [gT.1];exact ha
  have hr:T[a]? =some T[a]:=S2 haT;exact⟨wu T[a],Ja (by rw [R6,hr];rfl),hC _ _ ⟨T[a],rfl,gT.2 _ (aX haT),rfl⟩⟩
 obtain⟨r,e,gr,eh⟩:=hV;subst e eh;have oR:=Xt gr hk6;refine jm (λlH h4=> ∃RW ds,lH= [some (.lst p),some (wO T),some (.int (k:P7)),some (.int (a:P7)),some (.int b),some off,some (wu r),some (.lst RW),none,none]/\h4 RW=some ds/\ds.length=7/\(∀d∈ds,smB d=true)/\RW≠p/\h4 p=some [.int l3,.int fl]/\But p h' h4) (λC hC=> ?_) (λlH h4 hV=> ?_)
 ·refine⟨_,rfl,_,rfl,_,rfl,_,rfl,sz1,(oR.cut _ _).sz (smN.one ooff),_,rfl,_,rfl,_,rfl,((oR.cut _ _).app (smN.one ooff)).sz (oR.cut _ _),_,rfl,_,rfl,_,rfl,_,rfl,_,rfl,_,rfl,(oR.cut _ _).sz (oR.cut _ _),_,rfl,sz1,oR.sz (smN.one rfl),_,rfl,λp1 e1=>⟨_,rfl,_,rfl,(by show 7<=sizeLine;decide),λp2 e2=> ?_⟩⟩;refine hC _ _ ⟨p2,_,rfl,jb,rfl,?_,jp (jc kp e1) e2,jc (jc kp e1) e2,(bp.new e1).new e2⟩;intro d hd;simp only [P0,T0,or_false] at hd;rcases hd with e|e|e|e|e|e|e<;>subst e
  ·exact(((oR.cut _ _).app (smN.one ooff)).app (oR.cut _ _)).tup
  ·exact((oR.cut _ _).app (oR.cut _ _)).tup
  ·exact(oR.app (smN.one rfl)).tup
  ·rfl
  ·rfl
  ·rfl
  ·exact oR.rev.tup
 obtain⟨RW,rs,e,kRW,lRW,oRW,nRW,kp,bp⟩:=hV;subst e;refine jm (λlH h4=> ∃ (hr:D) (l4:P7),lH= [some (.lst p),some (wO T),some (.int (k:P7)),some (.int (a:P7)),some (.int b),some off,some (wu r),some (.lst RW),some hr,none]/\smB hr=true/\0<=l4/\h4 p=some [.int l4,.int fl]/\But p h' h4) (λC hC=> ?_) (λlH h4 hV=> ?_)
 ·simp only [Yc,dOp,Je,T9,R0,S8,UX,jG,dC,yx,R1,T1,dCB,ixD,F8,F9,T7];refine⟨by decide,λp1 e1=>⟨p,l3,fl,10,rfl,jc kp e1,l30,by decide,by decide,λx l4 r0 r1 l40=> ?_⟩⟩;obtain⟨ix,hix,eix⟩:=zE (xs:= [D.int 0,D.int 0,D.int 0,D.int 0,D.int 1,D.int 2,D.int 3,D.int 4,D.int 5,D.int 6]) r0 r1;refine⟨_,ix,jg (jp kp e1) jb,eix,?_⟩;obtain⟨y,e,y0,y1⟩: ∃y:P7,ix= .int y/\0<=y/\y<7:=by
   simp only [P0,T0,or_false] at hix;rcases hix with e|e|e|e|e|e|e|e|e|e<;>exact⟨_,e,by decide,by decide⟩
  subst e;obtain⟨d,hd,ed⟩:=zE (xs:=rs) y0 (by rw [lRW];exact y1);exact⟨rs,d,jg nRW (jc kRW e1),ed,hC _ _ ⟨d,l4,rfl,oRW d hd,l40,jb,(bp.new e1).put⟩⟩
 obtain⟨hr,l4,e,ohr,l40,kp,bp⟩:=hV;subst e;refine jm (λlH h5=> ∃TH ds,lH= [some (.lst p),some (wO T),some (.int (k:P7)),some (.int (a:P7)),some (.int b),some off,some (wu r),some (.lst RW),some hr,some (.lst TH)]/\h5 TH=some ds/\ds.length=4/\(∀d∈ds,smB d=true)/\h5 p=some [.int l4,.int fl]/\But p h' h5) (λC hC=> ?_) (λlH h5 hV=> ?_)
 ·refine⟨_,rfl,_,rfl,_,rfl,_,rfl,sz1,(oT.cut _ _).sz (smN.one ohr),_,rfl,_,rfl,_,rfl,((oT.cut _ _).app (smN.one ohr)).sz (oT.cut _ _),_,rfl,_,rfl,_,rfl,_,rfl,_,rfl,_,rfl,(oT.cut _ _).sz (oT.cut _ _),_,rfl,_,rfl,_,rfl,oT.sz (oT.cut _ _),_,rfl,λp1 e1=>⟨sz4,λp2 e2=> ?_⟩⟩;refine hC _ _ ⟨p2,_,rfl,jb,rfl,?_,jc (jc kp e1) e2,(bp.new e1).new e2⟩;intro d hd;simp only [P0,T0,or_false] at hd;rcases hd with e|e|e|e<;>subst e
  ·exact(((oT.cut _ _).app (smN.one ohr)).app (oT.cut _ _)).tup
  ·exact((oT.cut _ _).app (oT.cut _ _)).tup
  ·exact(oT.app (oT.cut _ _)).tup
  ·rfl
 obtain⟨TH,ts,e,kTH,lTH,oTH,kp,bp⟩:=hV;subst e;refine⟨_,rfl,_,rfl,sz1,_,rfl,_,rfl,sz3,λp1 e1=>⟨_,_,jc kTH e1,jb,?_,λp2 e2=>⟨(by decide),λp3 e3=> ?_⟩⟩⟩
 ·rw [lTH];show 4+3<=sizeLine;decide
 refine⟨_,rfl,p,l4,fl,11,rfl,jc (jc (jc kp e1) e2) e3,l40,by decide,by decide,λx l5 r0 r1 l50=> ?_⟩;obtain⟨ix,hix,eix⟩:=zE (xs:= [D.int 0,D.int 0,D.int 0,D.int 0,D.int 0,D.int 1,D.int 2,D.int 3,D.int 4,D.int 5,D.int 6]) r0 r1;refine⟨_,ix,jg (jp (jc (jc kp e1) e2) e3) jb,eix,?_⟩;obtain⟨y,e,y0,y1⟩: ∃y:P7,ix= .int y/\0<=y/\y<7:=by
  simp only [P0,T0,or_false] at hix;rcases hix with e|e|e|e|e|e|e|e|e|e|e<;>exact⟨_,e,by decide,by decide⟩
 subst e;obtain⟨d,hd,ed⟩:=zE (xs:=ts++ [D.tup [D.tup (T.map wu)],D.non,D.tup (T.map wu).reverse]) y0 (by rw [T3,lTH];exact y1);refine⟨_,d,jg (jp (jc kp e1) e2) (jc jb e3),ed,_,(((bp.new e1).new e2).new e3).put.sub jb,q d l5 ?_ l50⟩;rcases T2.mp hd with z|z
 ·exact oTH d z
 ·simp only [P0,T0,or_false] at z;rcases z with e|e|e<;>subst e
  ·exact(smN.one oT.tup).tup
  ·rfl
  ·exact oT.rev.tup
def zQ:RDn:=λds h Q=> ∃p l fl,ds= [.lst p]/\h p=some [.int l,.int fl]/\0<=l/\ ∀d l' h',okD d=true->vX d=false->But p h h'->h' p=some [.int l',.int fl]->0<=l'->Q d h'
theorem yC (Z:Zs mg)(F:Fun K "_law_no_table" "_law_no_table" zh f fd)(jh:jz P w K mg base n "_law_draw" ["_law_pen_here","_law_many"] jS):FnOk P w K mg base CX0 (n+1) f fd ["_law_pen_here"] (LSp K zQ):=by
 refine F.okM zO (λhr=>(js2 (jse 1 zO (yc (jac Dl (by exact(jac jj (by exact(jac (zL zX) (by exact(jac (yc zX) (by exact(jac (zL (j1 jj)) (by exact(jac (zL (j1 (zL zX))) (by exact(jac (zL (j2 (zL (j1 jj)) (zL (j1 jj)))) (by exact(jac (zL (j1 (zL (j2 jj jj)))) (by exact(jac (zL (j1 (zL (j1 (No jj))))) (by exact(j4 (zL (j1 (zL (j1 jbl)))) (yc (j1 (yc (j1 jj)))) (zL (j1 (zL (j1 Dl)))) zW))))))))))))))))))))) (zY (ji1 (jop jD (jv 1) (yc (jac (zL (j1 (zL (j1 jbl)))) (by exact(j4 (jop yj (zL (j1 (jop yj (zL (j1 jj)) jj))) jj) (zL (j1 (yc (j1 jj)))) (zL (j1 (zL (j1 (zL (j1 jj)))))) Do))))) (jk jh hr (j2 (jv 0) jj)))))) ?_;rintro ds h Q ⟨p,l,fl,rfl,hp,h0,q⟩;refine⟨rfl,?_⟩;simp only [zV,Yc,UX,jG,dC,Gp,yx,T1,R1,dUn,Gr,ZA,dOp,Je,jC,T4,B9,D1,M3,M9,F8,F9,T9,R0,S8,Mh,Wl,Nf,dCB,ixD,T7,vA]
 repeat (first|intro _|refine⟨by decide,?_⟩|refine⟨⟨by decide,by decide,by decide⟩,?_⟩)
 rename_i p1 e1 p2 e2 p3 e3 p4 e4 p5 e5 p6 e6;have k1:=jc (M:= []) hp e1;have k2:=jc (M:= [.int 1]) k1 e2;have k3:=jc (M:= [.lst p2]) k2 e3;refine⟨_,_,jc (jc jb e5) e6,jb,by simp only [R1,T1];decide,λp7 e7=> ?_⟩;refine⟨p,l,fl,18,rfl,jc (jc (jc (jc k3 e4) e5) e6) e7,h0,by decide,by decide,λr l' r0 r1 l0=> ?_⟩;obtain⟨d,hd,ed⟩:=zE (xs:= [D.non,D.int 0,D.tup [],D.lst p1,D.tup [D.int 0],D.tup [D.tup []],D.tup [D.tup [D.int 1],D.tup [D.int 1]],D.tup [D.tup [D.int 0,D.int 1]],D.tup [D.tup [D.int (-1)]],D.tup [D.tup [D.bl true]],D.lst p3,D.tup [D.tup [D.non]],D.str (D7 "1")]++ [D.tup [D.tup [D.bl false]],D.tup (D1 (e8 7) [D.tup (D1 (e8 7) [D.int 0]).flatten]).flatten,D.tup [D.lst p5],D.tup [D.tup [D.tup [D.int 0]]],D.dic (D7 "a") 1]) r0 r1;refine⟨_,d,jg (jp (jc (jc (jc k3 e4) e5) e6) e7) jb,ed,_,Sub.refl _,q d l' _ (Jq ?_ d hd) ?_ (((((((But.refl p h).new e1).new e2).new e3).new e4).new e5).new e6 |>.new e7).put jb l0⟩
 ·rfl
 ·simp only [T2,P0,T0,or_false] at hd;rcases hd with (e|e|e|e|e|e|e|e|e|e|e|e|e)|e|e|e|e|e<;>subst e<;>rfl
theorem lgN {n:P7}(h0:0<=n)(h1:n<2^200):n.natAbs.log2<1920:=by
 by_cases z:n.natAbs=0
 ·rw [z];decide
 ·exact(aN z).mpr (P2 (wa h0 h1) (B3 (by decide) (by decide)))
def yu:RDn:=λds h Q=> ∃T,∃n e:P5,ds= [wO T]/\Sq n e T/\0<e/\e<=200/\n<=6/\Q (.str (Jo T)) h
theorem Zp (Z:Zs mg)(F:Fun K "_law_text" "_law_text" wM f fd)(Jy:mg "str" =none):FnOk P w K mg base CX0 (n+1) f fd ["_law_table_here"] (LSp K yu):=by
 have m_str:=Jy;refine F.okM wj (λhr=>(jL (zY (Wt zW (jl0 1 wj (zM (jv 0)) (λ_ _ _ _=>(Wt zW (jl0 2 wj (zM (jv 1)) (λ_ _ _ _=>(zc Vq rfl m_str (by decide +kernel) (j1 (jv 2)))))))))))) ?_;rintro ds h Q ⟨T,n,b,rfl,hT,he,hb,h6,q⟩;refine⟨rfl,?_⟩;have wr: ∀r∈T,(Yd r).length<=1212:=λr hr=>R4 (Vt hT he hr).len (R4 (V4 h6 (show b+2<=202 by omega)) (by decide))
 refine UL T wu Yd (by rw [hT.len];omega) ?_ rfl (λR r=>⟨_,rfl,r⟩) (λr hr Q' q'=> ?_) ⟨h,Sub.refl h,q⟩
 ·exact R4 (Z9 (wX λy hy=>by obtain⟨r,hr,rfl⟩:=S0.mp hy;exact wr r hr) (G8 _)) (by rw [G9,hT.len];show n*1212+n*1<=_;omega)
 ·refine UL r D.int num (by rw [hT.row r hr];omega) ?_ rfl (λR r=>⟨_,rfl,r⟩) (λx hx Q'' q''=>⟨_,rfl,x,rfl,lgN (hT.nn r hr x hx) (aA (hT.bit r hr x hx) (Wy hb)),q''⟩) q';exact R4 (Z9 (wX λy hy=>by obtain⟨x,hx,rfl⟩:=S0.mp hy;exact Jn (hT.nn r hr x hx) (hT.bit r hr x hx) he) (G8 _)) (by rw [G9,hT.row r hr];show n*(b+1)+n*1<=_;have:n*(b+1)<=6*(200+1):=V4 h6 (by omega);omega)
theorem UO (s t:Str):T8 (.tuple [.str s,.str t]) (.tuple [.str s,.str t])=true:=by simp [T8,gZ]
theorem Go {b:P5}{t:Str}{Q:KD}(pl:Pl b t)(q:Q (.bl false) h):neE (.tup [.str "told",.str t]) (.tup [.str "told",.str t]) h Q:=by
 have sh:SeqAt.shaped (.tuple [.str "told",.str t])=true:=by
  refine Bool.and_eq_true_iff.mpr ⟨?_,R5 (by simp [K0,C0])⟩;show (cO (.str "told")&&(cO (.str t)&&true))=true;rw [pl.lay];decide +kernel
 refine⟨.tuple [.str "told",.str t],.tuple [.str "told",.str t],⟨_,rfl,_,_,rfl,rfl,_,_,rfl,rfl,rfl⟩,⟨_,rfl,_,_,rfl,rfl,_,_,rfl,rfl,rfl⟩,sh,sh,?_⟩;rw [UO];exact q
theorem Bn {w:Str}{Q:KD}(q:Q (.bl false) h)(hs:SeqAt.shaped (.tuple [.str w])=true:=by decide +kernel):neE (.tup [.str w]) (.tup [.str w]) h Q:=by
 refine⟨.tuple [.str w],.tuple [.str w],⟨_,rfl,_,_,rfl,rfl,rfl⟩,⟨_,rfl,_,_,rfl,rfl,rfl⟩,hs,hs,?_⟩;have e:T8 (.tuple [.str w]) (.tuple [.str w])=true:=by simp [T8,gZ]
 rw [e];exact q
theorem Jx (h:Sq n e T)(h1:1<=n):wz (Jo T)=T.map (·.map num):=by
 unfold wz;rw [Vv h h1,L5];exact A1 λr hr=>Vu h h1 hr
theorem UP (h:Sq n e T):(T.map (·.map num)).map (·.map WV)=T:=by
 rw [L5]
 conv=>rhs;rw [<-cP T]
 refine A1 λr hr=> ?_
 show (r.map num).map WV=r;rw [L5]
 conv=>rhs;rw [<-cP r]
 exact A1 λx hx=>Gc (h.nn r hr x hx)
theorem DW (Z:Zs mg)(B:Bm mg base)(a:V5 K mainGlobals "law" =some (some (.ref f)))(TX: ∃c P,aS K "law" =some (c,P)/\kZ K c P=true)(F:Fun K "law" "law" ZT f fd)(zI:jz P w K mg base (n+2) "table_shown" ["table"] zq)(ZW:jz P w K mg base (n+2) "_law_cell" ["_law_script","_law_k"] yr)(WY:jz P w K mg base (n+2) "_law_pen" ["_law_cell_here"] vj)(Zq:jz P w K mg base (n+2) "_law_table" ["_law_pen_here","_law_size_here"] wZ)(ZX:jz P w K mg base (n+2) "_law_size" ["_law_pen_here"] yt)(vn:jz P w K mg base (n+2) "_law_same" ["_law_found","_law_due"] Xj)(wN:jz P w K mg base (n+2) "_law_text" ["_law_table_here"] yu)(Zt:jz P w K mg base (n+2) "table_read" ["text"] wY)(zA:jz P w K mg base (n+2) "_law_bent_table" ["_law_pen_here","_law_table_here"] zk)(vm:jz P w K mg base (n+2) "_law_no_table" ["_law_pen_here"] zQ)(vk:jz P w K mg base (n+2) "_law_is_table" ["_law_thing"] jy)(CT_table_shown:jz P w K mg base n "table_shown" ["table"] zq)(CR_table_shown:Jk P w K mg base n "table_shown" ["table"] wn)(CS:DB P w K mg base n):FnOk P w K mg base CX0 ((n+2)+1) f fd ["_law_script"] (LSp K YS):=by
 obtain⟨gS,gdS,GS,bGS,kGS,mGS⟩:=CS;obtain⟨tc,tP,T,tH⟩:=TX;have hTK:TabK K tP:=⟨"law",by decide,tc,T⟩;refine F.okJL a T vf (λds h Q q=>by obtain⟨ns,e,hh,hns,q⟩:=q;subst e;rfl) _ (λA outer s H E hr=>(js3 (Jl (jpt (Xf (jt1 oq_ne (jk zI hr (j1 (zL (j2 (zL (j2 (jop Wj jj jj) jj)) (zL (j2 jj jj)))))) (jop Vp (jop Vp zW (jop QY zW jj)) zW)) (Xe (jt1 oq_ne (jk zI hr (j1 (zL (j1 (zL (j1 jj)))))) zW)))) (zY jbl)) (QC L6 rfl (YW (jop jD (yc (j1 (jk ZW hr (j2 (jv 0) jj)))) (wA (jv 0) (zd jj) (zd jj)))) (jgn 1 vf) (js4 (jse 2 vf (jk WY hr (j1 (jv 1)))) (jse 3 vf (jk Zq hr (j2 (jv 2) (jk ZX hr (j1 (jv 2)))))) (QC L6 rfl (jrg Z jj) (jgn 4 vf) (js2 (Jl (wy (wT (jk vn hr (j2 (jk zI hr (j1 (jv 3))) (jk wN hr (j1 (jv 3))))))) (zY jbl)) (Jl (wy (wT (jk vn hr (j2 (jk Zt hr (j1 (jk wN hr (j1 (jv 3))))) (jv 3))))) (zY jbl)))) (QC L6 rfl (YW (yc (j3 (jk zA hr (j2 (jv 2) (jv 3))) (jk vm hr (j1 (jv 2))) (jk zA hr (j2 (jv 2) (jv 3)))))) (jgn 5 vf) (js2 (jse 6 vf (jif (wT (jk vk hr (j1 (jv 5)))) (zL (j2 zW (jk wN hr (j1 (jv 5))))) (zL (j1 zW)))) (Jl (jt1 (Dk hr.units) (Mz GS hr rfl mGS kGS bGS B rfl tH hTK (Dx rfl (by decide +kernel)) (QQ (by show Dy _ (ja ZT)=true;decide +kernel)) (λ_ _ _ _ _ _ _ _ _ hr=>(jk CT_table_shown hr (j1 (jv 5)))) (λ_ _ _ _ _ _ _ _ _ hr=>(jxk CR_table_shown hr (j1 (jv 5))))) (jv 6)) (zY jbl)))))) (zY jbl))) ?_;intro ds h Q q;obtain⟨ns,e,hh,hns,q⟩:=q;subst e;have hA:Sq 2 100 [[(10:P7)^30,0],[0,7]]:=⟨by decide,by decide,by decide,by decide⟩;have hB:Sq 1 100 [[(0:P7)]]:=⟨by decide,by decide,by decide,by decide⟩;refine yq [some (.scr ns),none,none,none,none,none,none] (λC hC=>⟨⟨by decide,by decide,by decide⟩,sz2,sz2,sz2,[[10^30,0],[0,7]],2,100,rfl,hA,by decide,by decide,by decide,by decide,(by show 1*30<=_;decide),by decide,by decide,(by show _<=sizeLine;decide +kernel),(by show _<=sizeLine;decide +kernel),_,rfl,?_⟩) ?_
 ·have eA:Jo [[10^30,0],[0,7]]=(D7 "1" ++iC (D7 "0") 30)++D7 " 0/0 7" :=by decide +kernel
  have eB:Jo [[0]]=D7 "0" :=by decide +kernel
  show if (!decide (Jo [[10^30,0],[0,7]]=(D7 "1" ++iC (D7 "0") 30)++D7 " 0/0 7"))=true then _ else _
  rw [R5 eA];refine vy ⟨sz1,sz1,[[0]],1,100,rfl,hB,by decide,by decide,by decide,by decide,_,rfl,?_⟩;show if (!decide (Jo [[0]]=D7 "0"))=true then _ else _
  rw [R5 eB];exact vy (hC)
 refine jm (λlH h'=>True) (λC hC=> ?_) (λlH h3 hV=>⟨h3,Sub.refl _,q h3⟩);refine⟨_,rfl,ns,0,rfl,(by decide),λn0=>⟨sz1,λp1 e1=>⟨_,rfl,_,rfl,_,rfl,λp2 e2=>⟨_,_,jc jb e2,jb,?_,λp3 e3=>⟨p3,rfl,?_⟩⟩⟩⟩⟩
 ·have:(JY ns (some 1) (some 6)).length<=ns.length:=by unfold JY;rw [C6,V8];omega
  rw [G9];exact N3 (jQ (by simp only [R1,T1];omega))
 generalize hcs:([D.int n0]++(JY ns (some 1) (some 6)).map D.int)=cs;have hint: ∀d∈cs,∃c,d= .int c:=λd hd=>by
  rw [<-hcs] at hd;rcases T2.mp hd with z|z
  ·exact⟨n0,S4.mp z⟩
  ·obtain⟨x,_,e⟩:=S0.mp z;exact⟨x,e.symm⟩
 refine Za cs (λi lH h'=> ∃a1 a2 a3 a4 a5 a6,lH= [some (.scr ns),a1,a2,a3,a4,a5,a6]/\h' p3=some cs) (λi lH h' ⟨_,_,_,_,_,_,_,k⟩=>k) ⟨_,_,_,_,_,_,rfl,jb⟩ (λlH h' _=>hC _ _ E9) ?_;rintro i d _ h4 hi ⟨b1,b2,b3,b4,b5,b6,rfl,k3⟩;obtain⟨c,rfl⟩:=hint d (M5 hi);have hil:i<cs.length:=(D0.mp hi).1;show zV _ _ _ [some (.scr ns),some (.int c),b2,b3,b4,b5,b6] h4;refine jm (λlH h'=> ∃p l fl,lH= [some (.scr ns),some (.int c),some (.lst p),b3,b4,b5,b6]/\h' p=some [.int l,.int fl]/\0<=l/\h' p3=some cs/\p3≠p) (λC hC=> ?_) ?_
 ·refine⟨_,rfl,c,rfl,λp l fl ep l0 _=>hC _ _ ⟨p,l,fl,rfl,jb,l0,jc k3 ep,A0 (jp k3 ep)⟩⟩
 rintro _ h5 ⟨p,l,fl,rfl,kp,l0,k3,n3⟩;refine jm (λlH h'=> ∃n T l2,lH= [some (.scr ns),some (.int c),some (.lst p),some (wO T),b4,b5,b6]/\GoodTab n T/\1<=n/\n<=6/\h' p=some [.int l2,.int fl]/\0<=l2/\h' p3=some cs) (λC hC=>⟨_,rfl,_,rfl,p,l,fl,rfl,kp,l0,λn l2 n1 n6 l20=>⟨p,l2,fl,n,rfl,jb,l20,n1,n6,λT l3 gT l30=>hC _ _ ⟨n,T,l3,rfl,gT,n1,n6,jb,l30,jg n3 (jg n3 k3)⟩⟩⟩) ?_;clear kp l0 k3;rintro _ h6 ⟨n,T,l2,rfl,gT,n1,n6,kp,l20,k3⟩;have hT:=gT.sq;have pT:=Xp hT (by decide) n6;have soS:ShowOk (.str (Jo T)):=pT.showB.ok (by decide) (by decide);have soT:=(Ve hT n6 (by decide)).ok (by decide) (by decide);have eT:(wz (Jo T)).map (·.map WV)=T:=by rw [Jx hT n1];exact UP hT
 have lW:(wz (Jo T)).length=n:=by rw [Jx hT n1,G9,hT.len]
 have gW: ∀ws∈wz (Jo T),ws.length=(wz (Jo T)).length/\ ∀w∈ws,wrB 12 w=true:=λws hws=>by
  rw [lW];rw [Jx hT n1] at hws;obtain⟨r,hr,rfl⟩:=S0.mp hws;refine⟨by rw [G9,hT.row r hr],λw hw=> ?_⟩;obtain⟨x,hx,rfl⟩:=S0.mp hw;exact DP (hT.nn r hr x hx) (iH (hT.bit r hr x hx) (by decide))
 refine jm (λlH h'=> ∃b4,lH= [some (.scr ns),some (.int c),some (.lst p),some (wO T),b4,b5,b6]/\h6=h') (λC hC=> ?_) ?_
 ·refine ZN 2 (λt lH h'=> ∃b4,lH= [some (.scr ns),some (.int c),some (.lst p),some (wO T),b4,b5,b6]/\h6=h') (by decide) (λR r=>r) ⟨_,rfl,rfl⟩ (λlH h' v=>hC _ _ v) ?_;rintro t _ _ ht ⟨b4',rfl,rfl⟩;refine yq [some (.scr ns),some (.int c),some (.lst p),some (wO T),some (.int (t:P7)),b5,b6] (λC hC=>⟨_,rfl,T,n,20,rfl,hT,by decide,by decide,n1,n6,_,rfl,T,n,20,rfl,hT,by decide,by decide,n6,_,_,.str (Jo T),rfl,rfl,rfl,soS,_,rfl,vy (hC)⟩) ?_;exact⟨_,rfl,T,n,20,rfl,hT,by decide,by decide,n6,Jo T,rfl,R4 pT.len (by decide),by omega,gW,_,rfl,_,_,Dp T,rfl,by rw [eT];exact YY _ T,YY _ T,soT,_,rfl,vy ⟨_,Sub.refl _,ht,_,rfl,rfl⟩⟩
 rintro _ _ ⟨b4',rfl,rfl⟩;refine⟨_,rfl,_,rfl,p,l2,fl,T,n,rfl,kp,l20,n1,n6,gT,λd1 l3 s1 l30=>⟨_,rfl,p,l3,fl,rfl,jb,l30,λd2 l4 g ok2 bad2 bt kp4 l40=>⟨_,rfl,_,rfl,p,l4,fl,T,n,rfl,kp4,l40,n1,n6,gT,λd3 l5 s3 l50=>⟨sz3,λX eX=>⟨X,rfl,?_⟩⟩⟩⟩⟩;generalize hts: [d1,d2,d3]=ts;have good: ∀d∈ts,okD d=true/\(vX d=true->smB d=true):=λd hd=>by
  rw [<-hts] at hd;simp only [P0,T0,or_false] at hd;rcases hd with e|e|e<;>subst e
  ·exact⟨VC s1,λ_=>s1⟩
  ·exact⟨ok2,λz=>absurd (bad2.symm.trans z) P4⟩
  ·exact⟨VC s3,λ_=>s3⟩
 refine Za ts (λj lH h'=> ∃b4 b5 b6,lH= [some (.scr ns),some (.int c),some (.lst p),some (wO T),b4,b5,b6]/\h' X=some ts/\h' p3=some cs) (λj lH h' ⟨_,_,_,_,k,_⟩=>k) ⟨_,_,_,rfl,by rw [<-hts];exact jb,jc (jg n3 (bt.ls p3 cs n3 (jg n3 k3))) eX⟩ (λlH h' ⟨_,_,_,e,_,k⟩=>⟨_,Sub.refl _,hil,_,_,_,_,_,_,e,k⟩) ?_;clear kp l20 k3;rintro j d _ h8 hj ⟨b4,b5,b6,rfl,kX,k3⟩;have hjl:j<ts.length:=(D0.mp hj).1;obtain⟨okd,sd⟩:=good d (M5 hj);refine jm (λlH h'=> ∃due,lH= [some (.scr ns),some (.int c),some (.lst p),some (wO T),b4,some d,some due]/\h8=h'/\((∃U,∃m:P5,d=wO U/\Sq m 200 U/\1<=m/\m<=6/\due= .tup [.str "told",.str (Jo U)])\/(vX d=false/\due= .tup [.str "table"]))) (λC hC=>⟨_,rfl,d,rfl,okd,_,rfl,?_⟩) ?_
 ·cases hb:vX d with
  |true=>
   obtain⟨U,m,e,hU,m1,m6⟩:=DU hb (sd hb);exact VY ⟨_,rfl,U,m,200,by rw [e],hU,by decide,by decide,m6,sz2,hC _ _ ⟨_,rfl,rfl,.inl ⟨U,m,e,hU,m1,m6,rfl⟩⟩⟩
  |false=>exact vy ⟨sz1,hC _ _ ⟨_,rfl,rfl,.inr ⟨hb,rfl⟩⟩⟩
 rintro _ _ ⟨due,rfl,rfl,hd⟩;rcases hd with ⟨U,m,rfl,hU,m1,m6,rfl⟩|⟨bad,rfl⟩
 ·exact .inl ⟨_,rfl,U,m,200,rfl,hU,by decide,by decide,m1,m6,_,rfl,Go (Xp hU (by decide) m6) ⟨_,rfl,vy ⟨_,Sub.refl _,hjl,_,_,_,rfl,kX,k3⟩⟩⟩
 ·exact .inr ⟨_,rfl,d,rfl,okd,bad,by decide,_,rfl,Bn ⟨_,rfl,vy ⟨_,Sub.refl _,hjl,_,_,_,rfl,kX,k3⟩⟩⟩
end
theorem DY {l:fJ}{w:S7}{K:G1}{h:S6}{mg:Str->G7 G2}{fa:G4}(X:K.In h)(G:h.Ns mainGlobals mg)(hfa:mg "law" =some (.ref fa))
 (d0:DefIn K "is_whole" yl fu0 eu0)
 (d1:DefIn K "is_table_row" zo fu1 eu1)
 (d2:DefIn K "has_table_form" jU fu2 eu2)
 (d3:DefIn K "want_table" zj fu3 eu3)
 (d4:DefIn K "number_shown" zp fu4 eu4)
 (d5:DefIn K "writes_number" zf fu5 eu5)
 (d6:DefIn K "table_shown" jY fu6 eu6)
 (d7:DefIn K "table_read" we fu7 eu7)
 (d8:DefIn K "_law_cell" wG fu8 eu8)
 (d9:DefIn K "_law_pen" ym fu9 eu9)
 (d10:DefIn K "_law_draw" wH fu10 eu10)
 (d11:DefIn K "_law_whole" wf fu11 eu11)
 (d12:DefIn K "_law_kind" wI fu12 eu12)
 (d13:DefIn K "_law_said" wJ fu13 eu13)
 (d14:DefIn K "_law_same" wK fu14 eu14)
 (d15:DefIn K "_law_size" wL fu15 eu15)
 (d16:DefIn K "_law_table" wg fu16 eu16)
 (d17:DefIn K "_law_is_table" zg fu17 eu17)
 (d18:DefIn K "_law_bent_table" jN fu18 eu18)
 (d19:DefIn K "_law_no_table" zh fu19 eu19)
 (d20:DefIn K "_law_text" wM fu20 eu20)
 (d21:DefIn K "law" ZT fu21 eu21)
 {tk0:Tok}(v0:V5 K mainGlobals "MOST_ROWS" =some (some (.int 6 tk0)))
 {tk1:Tok}(v1:V5 K mainGlobals "PART" =some (some (.int 10000000000000000000000000000000000000000000000000000000000000000 tk1)))
 (v2:(V5 K mainGlobals "str" ==some none)=true)
 {tk3:Tok}(v3:V5 K mainGlobals "FIGURES" =some (some (.str "0123456789" tk3)))
 {tk4:Tok}(v4:V5 K mainGlobals "MOST_FIGURES" =some (some (.int 12 tk4)))
 (z:zsB K=true)
 (ex:MA K=true)
 (tb0:QU K "law" =true)
 : ∃fd:D4,(∀ (s:G3) (v:G2),cS s fd ⟨[v],[]⟩ [("_law_script",v)])/\ ∀base:S6,K.In base->base.Ns mainGlobals mg->Bm mg base->FnOk l.prog w K mg base CX0 8 fa fd ["_law_script"] (LSp K YS):=by
 have e:=hfa.symm.trans (d21.nm X G);cases e;have jO: ∃tk,mg "MOST_ROWS" =some (.int 6 tk):=⟨_,aT X G v0⟩;have VE: ∃tk,mg "PART" =some (.int 10000000000000000000000000000000000000000000000000000000000000000 tk):=⟨_,aT X G v1⟩;have Jy:mg "str" =none:=j9 X G (beq_iff_eq.mp v2);have vp: ∃tk,mg "FIGURES" =some (.str "0123456789" tk):=⟨_,aT X G v3⟩;have zr: ∃tk,mg "MOST_FIGURES" =some (.int 12 tk):=⟨_,aT X G v4⟩;have Z:=MB X G z;have Ex:Exc K mg:=DA X G ex;have DZ:=QV tb0;obtain⟨_,_,kV,dc,pm,an,cd,ct,_,rfl,_⟩:=d21.fn.ex;refine⟨L4 "law" "law" (zS ZT) (jB ZT) (ja ZT) .none kV dc pm an cd ct,λs v=> .of_eq rfl,λbase _ _ B=> ?_⟩;have Yb:=λn=>d0.cal l w base X G (ZU (n:=n+0) Z d0.fn)
 have vH:=λn=>d1.cal l w base X G (vg (n:=n+1) Z d1.fn (Yb (n+0)))
 have zR:=λn=>d2.cal l w base X G (yn (n:=n+2) Z d2.fn (vH (n+0)) jO)
 have Zy:=λn=>d3.cal l w base X G (Js (n:=n+3) Z d3.fn (zR (n+0)))
 have Zz:=λn=>d3.rai l w base X G (vD (n:=n+3) Z Ex d3.fn (zR (n+0)))
 have vI:=λn=>d4.cal l w base X G (vh (n:=n+0) Z d4.fn VE Jy)
 have vv:=λn=>d5.cal l w base X G (yA (n:=n+0) Z d5.fn vp)
 have yb:=λn=>d6.cal l w base X G (vE (n:=n+4) Z d6.fn (Zy (n+0)) (vI (n+3)))
 have Jz:=λn=>d6.rai l w base X G (vi (n:=n+4) Z Ex d6.fn (Zz (n+0)))
 have Zx:=λn=>d7.cal l w base X G (Jt (n:=n+1) Z d7.fn (vv (n+0)) Jy jO zr)
 have ZY:=λn=>d8.cal l w base X G (Zl (n:=n+0) Z d8.fn)
 have Ya:=λn=>d9.cal l w base X G (ZV (n:=n+0) Z d9.fn)
 have zJ:=λn=>d10.cal l w base X G (Zm (n:=n+0) Z d10.fn)
 have Zw:=λn=>d11.cal l w base X G (Ju (n:=n+0) Z d11.fn)
 have u_kind: ∀n,Vj l.prog w K mg base (n+1) "_law_kind" ["_law_e"] (Vn mg):=λn=>⟨_,_,Jv (n:=n) Z Ex d12.fn,d12.fn.binds (ps:= ["_law_e"]) λ_ _ _ _ _ _ us hl=>match us,hl with| [_],_=>rfl,d12.fn.kp,d12.nm X G⟩
 have s_said: ∀n,DB l.prog w K mg base (n+1):=λn=>⟨_,_,Gj (n:=n+1) Z Ex d13.fn (u_kind n),d13.fn.binds (ps:= ["_law_call"]) λ_ _ _ _ _ _ us hl=>match us,hl with| [_],_=>rfl,d13.fn.kp,d13.nm X G⟩
 have ZZ:=λn=>d14.cal l w base X G (Zn (n:=n+0) Z d14.fn)
 have Wa:=λn=>d15.cal l w base X G (Zo (n:=n+1) Z d15.fn (zJ (n+0)))
 have Zv:=λn=>d16.cal l w base X G (Jw (n:=n+1) Z d16.fn (zJ (n+0)))
 have vq:=λn=>d17.cal l w base X G (yB (n:=n+1) Z d17.fn (Zw (n+0)))
 have yo:=λn=>d18.cal l w base X G (ya (n:=n+1) Z d18.fn (zJ (n+0)))
 have vt:=λn=>d19.cal l w base X G (yC (n:=n+1) Z d19.fn (zJ (n+0)))
 have Wb:=λn=>d20.cal l w base X G (Zp (n:=n+0) Z d20.fn Jy)
 exact DW (n:=5) Z B d21.at_ DZ d21.fn (yb 2) (ZY 6) (Ya 6) (Zv 5) (Wa 5) (ZZ 6) (Wb 6) (Zx 5) (yo 5) (vt 5) (vq 5) (yb 0) (Jz 0) (s_said 4)
end My
namespace PySem.W.Fast
def tw4587432713295583501:=()
def tw12300815384396798709:=()
def tw4700915528320488631:=()
def tw8844000455491856944:=()
def tw14033551536520279006:=()
def tw18066251792764488549:=()
def tw2865830943123448905:=()
def tw17016456344223198920:=()
def tw7671825930598672311:=()
def tw13813935267343795007:=()
def tw10383165256565414366:=()
def tw4194699747082469787:=()
def tw5905863045890592629:=()
def tw10130884214660453121:=()
def tw9764994328838311951:=()
def tw11226903221371680744:=()
def tw1401940699859456851:=()
def tw13858960138568642847:=()
def tw10943546736252573214:=()
def tw11618149555437304075:=()
def tw3669743878231957654:=()
def tw15793435305161047060:=()
def tw16526180861695769661:=()
def tw14898368904932245507:=()
def tw11980112844586493649:=()
def tw7288223552795875888:=()
def tw4728866993722806506:=()
def tw13133670283597990209:=()
def tw14078265366025675335:=()
def tw10154207940864051536:=()
def tw6829621881823796739:=()
def tw4805656276813911806:=()
def tw11174417258049899679:=()
def tw3092159923050132991:=()
def tw10355596928879285015:=()
def tw17398407544368643347:=()
def tw16049692394835513642:=()
def tw2961937537674099032:=()
def tw296508084437832002:=()
def tw4713678984969679778:=()
def tw5859321461340828127:=()
def tw7084015810818134286:=()
def tw16928528826218363743:=()
def tw7976179037554868714:=()
def tw10541907443808979038:=()
def tw13002163700880997970:=()
def tw13275953351881404091:=()
def tw8054002705244266410:=()
def tw13726938351484836874:=()
def tw10076827416247858703:=()
def tw7340293292843875727:=()
def tw1414982403240236634:=()
def tw14982904435058192826:=()
def tw10709668076814528117:=()
def tw17597274161955975285:=()
def tw13509227930408869131:=()
def tw1913363337799562178:=()
def tw7227375221352743680:=()
def tw13075756898852087650:=()
def tw2965490671191741679:=()
def tw10082611749497226148:=()
def tw5215222684169259586:=()
def tw11346920598404660730:=()
def tw17830040898098860819:=()
def tw402207056267405322:=()
def tw402298071754264083:=()
def tw9901031252272937292:=()
def tw2519577889125240080:=()
def tw13696237717639022055:=()
def tw17755137214203517749:=()
def tw7237785772306558377:=()
def tw6917625048490774165:=()
def tw6946867221904073411:=()
def tw10037005929050539973:=()
def tw2214852483141624395:=()
def tw6250909606435895387:=()
def tw9479213649720023529:=()
def tw5532615229572237898:=()
def tw15350120966242610840:=()
def tw17061583371160140998:=()
def tw2019263448121229226:=()
def tw18372962435446571180:=()
def tw11049804485867194547:=()
def tw170928089533422596:=()
def tw12904131642317447620:=()
def tw10476434600399441620:=()
def tw9454190011701908404:=()
def tw2737476772277036615:=()
def tw4331306604859781892:=()
def tw7556606454756452363:=()
def tw4249364488381670393:=()
def tw6818802940279116144:=()
def tw15134904515408763476:=()
def tw15914181102389815752:=()
def tw2566743605564042410:=()
def tw5898010115658071079:=()
def tw18248505561921950408:=()
def tw69311617594187112:=()
def tw6134284711979035899:=()
def tw17458535835735994270:=()
def tw7725963664777655427:=()
def tw3615119905909179716:=()
def tw3051705235358402991:=()
def tw1929394978603569120:=()
def tw1191859441762280993:=()
def tw4954830283075487328:=()
def tw10943693063708516858:=()
def tw4174253447995301373:=()
def tw16346851489654075746:=()
def tw8770270452647601929:=()
def tw2210311503192212707:=()
def tw15250764393246218505:=()
def tw3722348091795639045:=()
def tw17995506913732699759:=()
def tw13217710809376028788:=()
def tw7498890448633104372:=()
def tw2117298577424260747:=()
def tw16797500703224826360:=()
def tw12664289009020957734:=()
def tw15291593078260790173:=()
def tw9173652663466685956:=()
def tw15434443518059048068:=()
def tw16115951368780752727:=()
def tw5085493948253490632:=()
def tw16348143058842515296:=()
def tw10498078498797769114:=()
def tw396221076664664185:=()
def tw2886071529149943657:=()
def tw12540105132780883964:=()
def tw2542912907148104689:=()
def tw15334262255822179864:=()
def tw7028536534651600458:=()
def tw16661675686278537361:=()
def tw14159908057959966665:=()
def tw7656894990119749571:=()
def tw10481465891665453554:=()
def tw16242417510174408949:=()
def tw8808628687742752196:=()
def tw5071116615947781118:=()
def tw4591842390859973985:=()
def tw9542424815391637432:=()
def tw17516201010226596074:=()
def tw5733369704582974159:=()
def tw279092945402669806:=()
def tw11532597812165391593:=()
def tw13710969882520878324:=()
def tw17857907156347663190:=()
def tw921683501550402226:=()
def tw8468321540659948548:=()
def tw10926878494929061456:=()
def tw8960247090744221772:=()
def tw6021818431773127373:=()
def tw4259874289328952210:=()
def tw17580088215217735287:=()
def tw2126535802271720664:=()
def tw11923489411713085875:=()
def tw1927833472974086744:=()
def tw1835229638131775702:=()
def tw9585760619842670252:=()
def tw3259996635781935320:=()
def tw3126818066075272841:=()
def tw16136204978781156251:=()
def tw1488912276454928330:=()
def tw14190045883733822322:=()
def tw2842482680514560900:=()
def tw11551189172443023682:=()
def tw2382247152440261066:=()
end PySem.W.Fast
open PySem PySem.W PyProof.Rows
set_option maxRecDepth 100000 in
set_option maxHeartbeats 0 in
theorem PySem.Challenge.cw_firstpowers_k73_tables_written_holds : PySem.Challenge.rw_firstpowers_k73_tables_written.Holds := by
  w_on; o_law; k_head; (case hw => w_witness2)
  k_fill
  refine L2.Um (l := PySem.Challenge.rw_firstpowers_k73_tables_written) (k := 8) (x := "_law_script") rfl rfl ⟨rfl, by decide, by decide, rfl⟩ (fun w h Y => PySem.W.km_in_of Y) ?B ?F
  case B => intro w; kernel_rfl
  case F =>
    intro w mg fa h KX G hmg
    refine' My.DY KX G hmg ?d0 ?d1 ?d2 ?d3 ?d4 ?d5 ?d6 ?d7 ?d8 ?d9 ?d10 ?d11 ?d12 ?d13 ?d14 ?d15 ?d16 ?d17 ?d18 ?d19 ?d20 ?d21 ?v0 ?v1 ?v2 ?v3 ?v4 ?z ?ex ?tb0
    case d0 | d1 | d2 | d3 | d4 | d5 | d6 | d7 | d8 | d9 | d10 | d11 | d12 | d13 | d14 | d15 | d16 | d17 | d18 | d19 | d20 | d21 => refine' L2.DE ?a ?l ?c ?k; (case a => k_is); (case l => k_is); (case c => k_is); (case k => k_is)
    case v0 | v1 | v3 | v4 => k_is
    case z | ex | tb0 | v2 => kernel_rfl
