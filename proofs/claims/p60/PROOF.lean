import PyProof.Rows.All
import Wide.All
import OpenK.AllK
import Wide.FinOn
import Lean
import PyProof.EqAt
import PyProof.EqKinds
import PyProof.TupleCall
import PyProof.Rows.TopTwo
import KE.KIsAll
import PyProof.ExcAttrAll.ValueError
import KE.KTryMore
import KE.KRevIter
import PyProof.SetRoads
import PySem.Challenge.RW_firstpowers_k60_tables_by_their_first_po
set_option Elab.async false
set_option linter.all false
set_option maxRecDepth 100000
set_option maxHeartbeats 8000000
open PySem renaming Value->G0,Shared->G2,wpAny_pure->P9,Program->R5,FuncData->S7,wpAny_mono->S9,World->T4,Around->T9,wpAny_truthy_bool->N8,Scope->H0,PyData->L0,wpAny_passesOwn->A4,wpAny_holding->E1,wpAny_pyIter_list->J5,wpAny_newObj_type->J7,wpAny_call_entry->K8,Keyword->U9,wpAny_standAt->W1,Comprehension->W3,wpAny_execs_nil->W8,wpAny_Call_Name_kw->Y1,call_meets->Y4,wpAny_binaryOp_repeat_ref->Z8,CmpOp->aC,noFill_tuple_add->aJ,wpAny_callSpecial?_slot->aK,IsPart->aQ,typeIs_int->aT,lookup_relabel_local->bG,PassesOwn->bM,seq_tuple_add->bU,tupleKind_room_in1->bZ,wpAny_rule->b7,wpAny_pyIter_tuple->b8,codeAny_mono->cC,concat_meets->cE,wpAny_sequenceKey->cF,wpAny_typeOf->cG,seqIndex_neg->cH,call_meetsIn->cK,wpAny_pyIter_enum->cO,wpAny_execs_cons->cX,wpAny_field->dG,seqIndex_of->dH,wpAny_loadPart'->dM,pushCells_keeps->dP,BindsTo->dY,wpAny_Name->eI,wpAny_is_plain->eS,intBits_le_64->fI,eval_ListComp->fK,wpAny_newList->fN,Model->fO,name_of_addr->fQ,IsRangeIter->fZ,Operator->f6,sizeLine_eq->f7,typeIs_str->gF,PlainAttrs->gG,Result->gK,Params->gL
open List renaming getElem?_eq_getElem->G1,length_append->G3,append_assoc->G6,length_map->G7,mem_of_getElem?->G8,mem_singleton->G9,range->P2,getElem?_eq_some_iff->P4,mem_append_right->P5,size_toArray->P6,getElem?_append_right->P7,mem_append->D0,getElem?_map->D1,mem_cons_self->D2,mem_cons_of_mem->D3,length_take->D4,length_cons->D5,take_append_drop->D6,mem_range->D7,map_map->R0,map_cons->R1,take_of_length_le->R3,getD_eq_getElem?_getD->R4,replicate->R6,pairwise_append->R8,getElem?_append_left->S2,mem_cons->S3,map_congr_left->S5,length_reverse->S6,length_drop->S8,take_add_one->T0,mem_map->T1,length_nil->T3,all_eq_true->T5,getElem_mem->T6,length_range->T7,mem_append_left->M1,mem_of_mem_drop->M5,map_append->M6,drop_eq_nil_of_le->N0,mem_of_mem_take->N2,pairwise_singleton->N4,nil_append->N7,flatMap_cons->N9,mem_reverse->B3,flatMap_append->B7,getElem?_set_ne->C0,lookup_cons->C1,drop_sublist->C4,reverse_perm->C6,replicate_succ->C7,append_nil->C8,nodup_cons->C9,pairwise_iff_getElem->F5,extract_eq_drop_take->F7,length_singleton->F8,drop_append_of_le_length->L5,take_append_of_le_length->L6,getElem?_cons_zero->L7,find?_cons->L8,getElem_of_mem->L9,all_map->O2,not_mem_nil->O7,drop_drop->A0,flatten_cons->A5,pairwise_map->A8,getElem?_range->E4,cons_append->E5,length_eq_zero_iff->E6,take_length->E7,getElem?_drop->J0,perm_append_comm->J3,getElem?_reverse->J4,take_sublist->J6,map_nil->K9,mem_map_of_mem->Q2,getElem?_take_of_lt->Q6,mem_filterMap->Q9,zip_cons_cons->U0,pairwise_cons->U2,getElem?_cons_succ->U6,getElem?_set_self->U7,getElem?_set->V2,pairwise_reverse->V6,eq_nil_of_length_eq_zero->W6,map->W7,filterMap_cons->X2,getElem_range->Z4,take_zero->Z5,getElem?_eq_none_iff->aA,zip_nil_left->aD,mapM_toArray->aF,getElem?_replicate->aI,any_eq_true->aL,all_toArray->aN,map_flatMap->aO,of_mem_zip->aZ,foldl_cons->a4,forIn_cons->a5,range_succ->a7,getElem?_eq_none->bA,min?_eq_some_iff->bB,countP_le_length->bC,countP_eq_length->bD,length->bE,drop_take->bJ,take_take->bK,getLast?_concat->bL,length_pos_iff->bQ,countP_pos_iff->bR,take_succ_cons->bS,any_cons->bV,zip_nil_right->bX,countP_congr->cP,getElem_take->cR,getElem_drop->cS,ext_getElem?->cT,nodup_append->cV,countP_cons->dA,append_cons->dB,perm_middle->dE,map_id->dJ,mem_filter->dL,sum_append->dR,countP_map->dS,foldl->eO,Nodup->e9,drop_zero->fC,all_cons->fL,any_map->fT
open Nat renaming le_refl->G5,le_of_lt->D8,le_trans->D9,lt_of_lt_of_le->R7,ne_of_lt->S0,zero_le->S1,lt_irrefl->M7,lt_of_le_of_ne->N6,le_of_eq->C3,lt_of_succ_lt->C5,zero_add->O3,min_le_right->O4,lt_succ_self->O6,lt_of_le_of_lt->O9,pow_le_pow_right->A7,ne_of_gt->E8,mul_succ->I0,le_add_left->J1,not_lt->K3,one_pos->K5,le_add_right->Q0,add_le_add_left->Q4,min_eq_left->Q8,sub_lt->U3,pos_of_ne_zero->U4,lt_trans->V0,lt_of_succ_le->V3,lt_succ_of_lt->V4,succ_le_of_lt->V5,le_of_not_lt->V8,succ_le_succ->W0,add_assoc->W4,add_sub_cancel'->X3,succ_mul->X4,mul_le_mul->Z0,add_sub_cancel_left->aM,add_comm->aU,dvd_of_mod_eq_zero->aV,le_mul_of_pos_left->aW,sub_self->aX,add_zero->aY,strongRecOn->a8,mul_comm->cJ,sub_pos_of_lt->cQ,pow_succ->cU,max_eq_left->dU,mul_zero->fU,sub_le->gH,succ->gM
open PyProof.Rows renaming Keyed->P0,SortSt->R9,slot_tuple_getitem->F4,callWith_type1->O0,IntsAre->O1,boot_all->V7,AllBare->aB,subscriptTail_builtinR->aR,lt_int->bO,entry_tuple_getitem->bP,args_tuple_getitem->bY,callWith_builtin1->cY,IsTup->dF,boot_isinstance->dQ,get?_update_seq->dW,oneTypeOnly'_eq->dX,slicePart_none->eL,tupleItemsOf_->fJ,listUpdate_at->fM,listItems_at->fV,seqEpoch_at->gB,recsOf->gC,boot_range->gD,Subscript_->gE
open PySem.Heap renaming get?_push_of_some->P1,lt_size->P8,get?_push_size->S4,size_push->Y6,SameBut->aP,get?_update_other->aS,get?_update_ne->bT
open Bool renaming false_ne_true->P3,eq_iff_iff->B0,and_eq_true->O5,eq_false_iff->J9,or_eq_true->a6,or_eq_false_iff->bH,true_and->bW,false_eq_true->b6,false_and->eJ
open Array renaming length_toList->T2,getElem?_toList->T8,toList_append->M0,toList_extract->A9,toList_push->J8,toList_reverse->W5,isEmpty_eq_false_iff->Y9,toList_setIfInBounds->Z6,size_setIfInBounds->aG,isEmpty_iff->cL,toList->fP
open PySem.PyData renaming eqv->M8,depthAll->M9,canLayAll0->B8,eqvAll->F9,canLay0->K4,int->U1,depth->X5,hasDictAll->cN,hasDict->eZ
open Option.some renaming inj->N3,injEq->K0
open PySem.Value renaming ref->N5,type->O8,int->K6,bool->X6,str->aH,isInt_shape->cA,none->dZ,isStrOf->fH,isInt->fX,float->fY
open PySem.NameKind renaming free->B1,cell->E3
open Sum renaming inl->B2,inr->K7
open Function renaming comp_apply->B6,comp_def->aE
open PySem.PassesOwn renaming never->B9
open Classical renaming byContradiction->F6
open Ne renaming symm->A1
open PySem.Builtin.Slice renaming slicePlaces->A2,sliceAdjust->Q1,sliceApplied->Y2,slicePartIndex->dN,sliceFields->fE
open Decidable renaming byContradiction->A3
open PyProof.Rows.LCg renaming lst->A6
open PySem.Builtin.Tuple renaming tupleExact->E2,tupleItemsOf->Y3,tupleIsExact->Y7,tupleTooMany->Y8,tupleHashOf->Z9,tupleCompareSizes->cW
open True renaming intro->E9
open PySem.Obj renaming mapSeq->K1
open Or renaming inl->K2,inr->V9
open Option renaming isSome_iff_exists->Q5,map_eq_some_iff->V1,isSome_some->Y5,getD_none->cZ
open PySem.Builtin.List renaming listTooLong->Q7,listFitsIndex->eQ
open PySem.SetTable renaming sizeAbove->U5
open PySem.Calls renaming callWith_builtin->U8,Name_function_global->X7,spliced_cons->Y0,evalArgs_plain->bF,spliced_nil->cB
open PySem.F renaming slot_int_rmul->W9,args_int_rmul_2->cI,entry_int_rmul->c9,fills_int_mul->dO
open ForInStep renaming yield->X0
open Int renaming emod_nonneg->X1,fdiv_eq_ediv_of_nonneg->X8,fmod_eq_emod_of_nonneg->X9,emod_lt_of_pos->Z7,le_refl->bI,lt_of_lt_of_le->b9,mul_comm->cM,pow_pos->dI,mul_nonneg->eT,le_of_lt->fS,ne_of_gt->fW,mul_pos->f8,pow_add->gA,toNat->gJ
open List.Perm renaming trans->a9,append->dD,cons_inv->gI
namespace L2
open PySem PySem.Spec PyProof.Rows
abbrev Key:=Sum Int Str
def Vx:Key->G0->Bool
 | .inl k,v=>fX k v
 | .inr x,v=>fH x v
def Fn (w:T4):Key->Int
 | .inl k=>hashInt k
 | .inr x=>hashStr w x
theorem jA: ∀ {k:Key} {v:G0},Vx k v=true->(∃i t,k=B2 i/\v=K6 i t)\/(∃x t,k=K7 x/\v=aH x t)
 | .inl i,v,h=>by
  obtain⟨t,e⟩:=cA (k:=i) (v:=v) h;exact .inl ⟨i,t,rfl,e⟩
 | .inr x,v,h=>by
  obtain⟨t,e⟩:=Value.isStrOf_shape (x:=x) (v:=v) h;exact .inr ⟨x,t,rfl,e⟩
theorem Ud (i:Int)(t:Tok):Vx (.inl i) (.int i t)=true:=by simp [Vx,fX]
theorem Ue (x:Str)(t:Tok):Vx (.inr x) (.str x t)=true:=by simp [Vx,fH]
theorem Rk (a b:Int):decide ((B2 a:Key)=B2 b)=(a==b):=by
 by_cases e:a=b
 ·subst e;simp
 ·have h: ¬ (B2 a:Key)=B2 b:=λq=>e (Sum.inl.inj q)
  rw [decide_eq_false h];exact(beq_eq_false_iff_ne.mpr e).symm
theorem Rl (a b:Str):decide ((K7 a:Key)=K7 b)=decide (a=b):=by
 by_cases e:a=b
 ·subst e;simp
 ·have h: ¬ (K7 a:Key)=K7 b:=λq=>e (Sum.inr.inj q)
  rw [decide_eq_false h,decide_eq_false e]
theorem Rm (a:Int)(b:Str):decide ((B2 a:Key)=K7 b)=false:=decide_eq_false (λq=>nomatch q)
theorem Rn (a:Str)(b:Int):decide ((K7 a:Key)=B2 b)=false:=decide_eq_false (λq=>nomatch q)
def jD (prog:R5)(w:T4):PySem.KeyKind prog w Key where
 is:=Vx
 hash:=Fn w
 inj:=λv a b ha hb=>by
  rcases jA ha with ⟨i,t,rfl,rfl⟩|⟨x,t,rfl,rfl⟩
  ·rcases jA hb with ⟨j,u,rfl,e⟩|⟨y,u,rfl,e⟩
   ·injection e with e1 _;rw [e1]
   ·exact nomatch e
  ·rcases jA hb with ⟨j,u,rfl,e⟩|⟨y,u,rfl,e⟩
   ·exact nomatch e
   ·injection e with e1 _;rw [e1]
 byValue:=λk v h=>by
  rcases jA h with ⟨i,t,rfl,rfl⟩|⟨x,t,rfl,rfl⟩<;>rfl
 pyHash:=λhv h=>by
  rcases jA hv with ⟨i,t,rfl,rfl⟩|⟨x,t,rfl,rfl⟩
  ·exact wpAny_pyHash_int h
  ·exact wpAny_pyHash_str h
 eqBool:=λhu hv h=>by
  rcases jA hu with ⟨i,t,rfl,rfl⟩|⟨x,t,rfl,rfl⟩
  ·rcases jA hv with ⟨j,u,rfl,rfl⟩|⟨y,u,rfl,rfl⟩
   ·rw [Rk] at h;exact wpAny_eqBool_int h
   ·rw [Rm] at h;exact SeqAt.EqAt.int_str i t y u _ _ _ _ h
  ·rcases jA hv with ⟨j,u,rfl,rfl⟩|⟨y,u,rfl,rfl⟩
   ·rw [Rn] at h;exact SeqAt.EqAt.str_int x t j u _ _ _ _ h
   ·rw [Rl] at h;exact wpAny_eqBool_str h
 «strs» :=λk x t v h=>by
  rcases jA h with ⟨i,u,rfl,e⟩|⟨y,u,rfl,e⟩
  ·exact nomatch e
  ·injection e with e1 _
   subst e1;cases v<;>rfl
theorem WW (prog:R5)(w:T4)(i:Int)(t:Tok):(jD prog w).is (.inl i) (.int i t)=true:=Ud i t
theorem WX (prog:R5)(w:T4)(x:Str)(t:Tok):(jD prog w).is (.inr x) (.str x t)=true:=Ue x t
inductive V where
 |non|bl (b:Bool)|int (i:Int)|str (x:Str)|byt (b:Array UInt8)|flt (b:UInt64)|ref (a:Addr)|ty (n:String)
 deriving DecidableEq
def RelV:V->G0->Prop
 | .non,u=>u=dZ
 | .bl b,u=>u=X6 b
 | .int i,u=> ∃t,u=K6 i t
 | .str x,u=> ∃t,u=aH x t
 | .byt b,u=> ∃t,u=Value.bytes b t
 | .flt b,u=> ∃t,u=fY b t
 | .ref a,u=>u=N5 a
 | .ty n,u=>u=O8 n
abbrev Vals:List V->List G0->Prop:=Paired RelV
theorem Vals.length {xs:List V}{us:List G0}(r:Vals xs us):xs.length=us.length:=Paired.length r
theorem Vals.get: ∀ {xs:List V} {us:List G0} {i:Nat} {x:V},Vals xs us->xs[i]? =some x-> ∃u,us[i]? =some u/\RelV x u
 |_,_,_,_,.nil,e=>by simp at e
 |_,_,0,_,.cons r _,e=>by simp at e;subst e;exact⟨_,rfl,r⟩
 |_,_,i+1,x,.cons _ t,e=>by
  obtain⟨u,h1,h2⟩:=Vals.get (i:=i) (x:=x) t (by simpa using e);exact⟨u,by simpa using h1,h2⟩
variable {u:G0}
theorem Vals.set {x:V}(r:RelV x u): ∀ {xs:List V} {us:List G0} (i:Nat),Vals xs us->Vals (xs.set i x) (us.set i u)
 |_,_,_,.nil=> .nil
 |_,_,0,.cons _ t=> .cons r t
 |_,_,i+1,.cons q t=> .cons q (Vals.set r i t)
theorem Vals.append: ∀ {xs ys:List V} {us ws:List G0},Vals xs us->Vals ys ws->Vals (xs++ys) (us++ws)
 |_,_,_,_,.nil,s=>s
 |_,_,_,_,.cons r t,s=> .cons r (Vals.append t s)
theorem Vals.take: ∀ {xs:List V} {us:List G0} (n:Nat),Vals xs us->Vals (xs.take n) (us.take n)
 |_,_,0,_=> .nil
 |_,_,_+1,.nil=> .nil
 |_,_,n+1,.cons r t=> .cons r (Vals.take n t)
theorem Vals.drop: ∀ {xs:List V} {us:List G0} (n:Nat),Vals xs us->Vals (xs.drop n) (us.drop n)
 |_,_,0,r=>r
 |_,_,_+1,.nil=> .nil
 |_,_,n+1,.cons _ t=>Vals.drop n t
def RelO:Option V->Option G0->Prop
 |some v,some u=>RelV v u
 |none,none=>True
 |_,_=>False
def KV {κ:Type}:List (κ×V)->List (κ×G0)->Prop:=Paired λ(p:κ×V) (q:κ×G0)=>p.1=q.1/\RelV p.2 q.2
def kV:Key->V
 | .inl i=> .int i
 | .inr x=> .str x
inductive HO where
 /-- a list -/
 |lst (xs:List V)
 /-- a tuple (never changes) -/
 |tup (xs:List V)
 /-- a dict whose keys are ints and texts;one whose keys are tuples of ints and texts (the empty one is both) -/
 |dK (kvs:List (Key×V))|dT (kvs:List (List Key×V))
 /-- a set of ints: its members,its size -/
 |set (S:Int->Bool) (n:Nat)
 /-- an instance of the class at C,its dict at dx,its attributes -/
 |ins (C dx:Addr) (fs:List (Str×V))
 /-- the dict of the instance at x -/
 |own (x:Addr)
 /-- the dict of an exception -/
 |xd (fs:List (Str×V))
 /-- a bound method,f of x -/
 |met (f x:Addr)
 /-- a range object lo,lo+1,.. below hi -/
 |rng (lo hi:Int)
 /-- a thing that is known to the object (the script;a dict while a loop walks it):read,never written while it is so -/
 |frz (o:Obj) (u:HO)
 /-- a code object's table -/
 |tbl (ps:Array G0)
 /-- any other thing,by what is true of its one object (a def of one's own: SetO a S n:=HO.ext λh=> ..) -/
 |ext (φ:Heap->Prop)
abbrev Hp:=Addr->Option HO
def upd (H:Hp)(a:Addr)(o:HO):Hp:=λb=>if b=a then some o else H b
variable {H:Hp}{a:Addr}{o:HO}
theorem jh:upd H a o a=some o:=by unfold upd;rw [if_pos rfl]
variable {b:Addr}
theorem jf (h:b≠a):upd H a o b=H b:=by unfold upd;rw [if_neg h]
theorem WY {u:HO}(h:H a=some o)(h':H b=some u)(d:o≠u):a≠b:=by
 intro e;subst e;rw [h] at h';exact d (N3 h')
theorem je (h:H a=some o)(h':H b=none):a≠b:=by
 intro e;subst e;rw [h] at h';cases h'
def IsTupN (h:Heap)(a:Addr)(items:Array G0):Prop:= ∃o,h.get? a=some o/\o.cls= .type "tuple" /\o.dict=none/\ ∃n,o.data= .seq items n
theorem IsTupN.tup {h:Heap}{a:Addr}{items:Array G0}(x:IsTupN h a items):dF h a items:=let ⟨o,e,c,_,n,d⟩:=x;⟨o,e,c,n,d⟩
theorem IsTupN.new (h:Heap)(items:Array G0):IsTupN (h.push {cls:= .type "tuple",data:= .seq items}) h.objs.size items:=⟨_,S4 _ rfl,rfl,rfl,_,rfl⟩
section
variable (P:R5)(w:T4)
def ObjOk (H:Hp)(h:Heap)(a:Addr):HO->Prop
 | .lst xs=>xs.length<=sizeLine/\ ∃ (its:List G0) (n:Nat),Vals xs its/\h.get? a=some {cls:= .type "list",data:= .seq its.toArray n}
 | .tup xs=>xs.length<=sizeLine/\ ∃its:List G0,Vals xs its/\IsTupN h a its.toArray
 | .dK kvs=>kvs.length<=sizeLine/\(a==sysModules)=false/\ ∃vs,KV kvs vs/\h.DictOf (jD P w) a vs
 | .dT kvs=>kvs.length<=sizeLine/\(a==sysModules)=false/\ ∃xs:List (List Key×Addr×G0),
  Paired (λ(p:List Key×V) (q:List Key×Addr×G0)=>p.1=q.1/\H q.2.1=some (.tup (p.1.map kV))/\RelV p.2 q.2.2) kvs xs/\
  ∃o es ep,h.get? a=some o/\o.ExactDict/\o.data= .dict es ep/\es.toList=xs.map (entryOfKey (tupleKind (jD P w)))/\(xs.map (·.1)).Nodup
 | .set S n=>h.SetOf (intKind P w) a S n
 | .ins C dx fs=>H dx=some (.own a)/\fs.length<=1000/\dx≠a/\h.get? a=some (PySem.W.instObj C dx)/\
  ∃mA,h.Ns1 dx mA/\(∀f,RelO (fs.lookup f) (mA f))/\PySem.Within mA (fs.map (·.1))
 | .own _=> ∃o,h.get? a=some o
 | .xd fs=> ∃mA,h.Ns1 a mA/\ ∀f,RelO (fs.lookup f) (mA f)
 | .rng lo hi=> ∃t u v,h.get? a=some {cls:= .type "range",data:= .fields #[.int lo t,.int hi u,.int 1 v]}
 | .frz o u=>h.get? a=some o/\ObjOk H h a u
 | .tbl ps=>h.get? a=some {cls:= .none,data:= .fields ps}
 | .met f x=>h.get? a=some (PySem.W.methodObj (.ref f) (.ref x))
 | .ext φ=>φ h/\(∃o,h.get? a=some o)/\ ∀h1 h2:Heap,φ h1->(∀o,h1.get? a=some o->h2.get? a=some o)->φ h2
def HOk (H:Hp)(h:Heap):Prop:= ∀a o,H a=some o->ObjOk P w H h a o
end
section
variable {P:R5}{w:T4}{H H':Hp}{h h':Heap}{a:Addr}{o:HO}
theorem ObjOk.lt (x:ObjOk P w H h a o):a<h.objs.size:=by
 cases o with
 |lst xs=>obtain⟨_,_,_,_,e⟩:=x;exact P8 e
 |tup xs=>obtain⟨_,_,_,p⟩:=x;exact p.tup.lt
 |dK kvs=>obtain⟨_,_,_,_,o,_,_,e,_⟩:=x;exact P8 e
 |dT kvs=>obtain⟨_,_,_,_,o,_,_,e,_⟩:=x;exact P8 e
 |set S n=>obtain⟨o,_,_,_,e,_⟩:=x;exact P8 e
 |ins C dx fs=>obtain⟨_,_,_,e,_⟩:=x;exact P8 e
 |own y=>obtain⟨_,e⟩:=x;exact P8 e
 |xd fs=>obtain⟨_,⟨_,_,_,e,_⟩,_⟩:=x;exact P8 e
 |rng lo hi=>obtain⟨_,_,_,e⟩:=x;exact P8 e
 |frz ob u=>obtain⟨e,_⟩:=x;exact P8 e
 |tbl ps=>exact P8 (show h.get? a=some _ from x)
 |met f y=>exact P8 (show h.get? a=some _ from x)
 |ext φ=>obtain⟨_,⟨_,e⟩,_⟩:=x;exact P8 e
theorem Paired.mapP {α β:Type}{F G:α->β->Prop}: ∀ {hO:List α} {hZ:List β},Paired F hO hZ->(∀a b,F a b->G a b)->Paired G hO hZ
 |_,_,.nil,_=> .nil
 |_,_,.cons r t,f=> .cons (f _ _ r) (Paired.mapP t f)
theorem ObjOk.stay (x:ObjOk P w H h a o)(k: ∀b u,(b=a\/H b=some (.own a))->h.get? b=some u->h'.get? b=some u)
 (ho: ∀b,H b=some (.own a)->H' b=some (.own a))(ht: ∀b xs,H b=some (.tup xs)->H' b=some (.tup xs)):ObjOk P w H' h' a o:=by
 induction o with
 |lst xs=>obtain⟨z,its,n,r,e⟩:=x;exact⟨z,its,n,r,k _ _ (.inl rfl) e⟩
 |tup xs=>obtain⟨z,its,r,ob,e,c⟩:=x;exact⟨z,its,r,ob,k _ _ (.inl rfl) e,c⟩
 |dK kvs=>obtain⟨z,y,vs,r,ob,es,ep,e,c⟩:=x;exact⟨z,y,vs,r,ob,es,ep,k _ _ (.inl rfl) e,c⟩
 |dT kvs=>
  obtain⟨z,y,xs,r,ob,es,ep,e,c⟩:=x;exact⟨z,y,xs,Paired.mapP r λp q z=>⟨z.1,ht _ _ z.2.1,z.2.2⟩,ob,es,ep,k _ _ (.inl rfl) e,c⟩
 |set S n=>obtain⟨ob,es,ep,t,e,c⟩:=x;exact⟨ob,es,ep,t,k _ _ (.inl rfl) e,c⟩
 |ins C dx fs=>
  obtain⟨d,z,ne,e,mA,⟨od,es,ep,e2,c⟩,r⟩:=x;exact⟨ho _ d,z,ne,k _ _ (.inl rfl) e,mA,⟨od,es,ep,k _ _ (.inr d) e2,c⟩,r⟩
 |own y=>obtain⟨ob,e⟩:=x;exact⟨ob,k _ _ (.inl rfl) e⟩
 |xd fs=>obtain⟨mA,⟨od,es,ep,e,c⟩,r⟩:=x;exact⟨mA,⟨od,es,ep,k _ _ (.inl rfl) e,c⟩,r⟩
 |rng lo hi=>obtain⟨t,u,v,e⟩:=x;exact⟨t,u,v,k _ _ (.inl rfl) e⟩
 |frz ob u ih=>obtain⟨e,q⟩:=x;exact⟨k _ _ (.inl rfl) e,ih q⟩
 |tbl ps=>
  have e:h.get? a=some {cls:= .none,data:= .fields ps}:=x;show h'.get? a=some {cls:= .none,data:= .fields ps};exact k a _ (.inl rfl) e
 |met f y=>
  have e:h.get? a=some (PySem.W.methodObj (.ref f) (.ref y)):=x;show h'.get? a=some (PySem.W.methodObj (.ref f) (.ref y));exact k a _ (.inl rfl) e
 |ext φ=>obtain⟨p,⟨o,e⟩,st⟩:=x;exact⟨st _ _ p λo q=>k _ _ (.inl rfl) q,⟨o,k _ _ (.inl rfl) e⟩,st⟩
theorem HOk.lt (x:HOk P w H h)(e:H a=some o):a<h.objs.size:=(x a o e).lt
theorem HOk.fresh (x:HOk P w H h)(e:h.objs.size<=a):H a=none:=by
 cases q:H a with
 |none=>rfl
 |some u=>exact absurd (R7 (x.lt q) e) (M7 _)
theorem HOk.kept (x:HOk P w H h)(k: ∀b u,h.get? b=some u->h'.get? b=some u):HOk P w H h':=λa o e=>
 (x a o e).stay (λb u _ q=>k b u q) (λ_ q=>q) λ_ _ q=>q
theorem HOk.laid (x:HOk P w H h)(k: ∀b u,h.get? b=some u->h'.get? b=some u)(hp:h.objs.size<=a)(new:ObjOk P w (upd H a o) h' a o):HOk P w (upd H a o) h':=λb u e=>by
 have hn:=x.fresh hp
 by_cases hb:b=a
 ·subst hb;rw [jh] at e;cases e;exact new
 ·rw [jf hb] at e;exact(x b u e).stay (λc v _ q=>k c v q) (λc q=>by rw [jf (je q hn)];exact q) λc xs q=>by rw [jf (je q hn)];exact q
end
def Rd (H:Hp)(a:Addr)(u:HO):Prop:=H a=some u\/ ∃o,H a=some (.frz o u)
variable {P:R5}{w:T4}{h:Heap}
theorem Rd.ok {u:HO}(r:Rd H a u)(x:HOk P w H h):ObjOk P w H h a u:=by
 rcases r with r|⟨o,r⟩
 ·exact x a u r
 ·obtain⟨_,q⟩:=x a _ r;exact q
def Mut:Option HO->Prop
 |some (.lst _)=>True
 |some (.dK _)=>True
 |some (.dT _)=>True
 |some (.set _ _)=>True
 |some (.ins _ _ _)=>True
 |some (.ext _)=>True
 |_=>False
section
variable {P:R5}{w:T4}{H:Hp}{h h':Heap}{x e:Addr}{o':HO}
theorem HOk.write (ok:HOk P w H h)(mu:Mut (H x))(he:e=x\/H e=some (.own x))(k: ∀b u,b≠e->h.get? b=some u->h'.get? b=some u)(heo: ∃u,h'.get? e=some u)
 (new:ObjOk P w (upd H x o') h' x o'):HOk P w (upd H x o') h':=λb u q=>by
 have nown: ∀c y,H c=some (.own y)->c≠x:=λc y r z=>by subst z;rw [r] at mu;exact mu
 have ntup: ∀c xs,H c=some (.tup xs)->c≠x:=λc xs r z=>by subst z;rw [r] at mu;exact mu
 by_cases hb:b=x
 ·subst hb;rw [jh] at q;cases q;exact new
 ·rw [jf hb] at q
  by_cases hbe:b=e
  ·have q':H b=some (.own x):=by
    rcases he with z|z
    ·exact absurd (hbe.trans z) hb
    ·rw [hbe];exact z
   rw [q] at q';cases q';obtain⟨v,hv⟩:=heo;exact⟨v,by rw [hbe];exact hv⟩
  ·refine(ok b u q).stay (λc v hc r=>k c v ?_ r) (λc r=>by rw [jf (nown c b r)];exact r) λc xs r=>by rw [jf (ntup c xs r)];exact r
   rcases hc with rfl|hc
   ·exact hbe
   ·rintro rfl;rcases he with z|z
    ·exact nown c b hc z
    ·rw [hc] at z;cases z;exact hb rfl
end
structure Un (fs ex:List Addr)(H H':Hp)(h h':Heap):Prop where
 keep: ∀b o,h.get? b=some o->H b=none->b ∉ fs->b ∉ ex->h'.get? b=some o
 slot: ∀b o,h.get? b=some o->H b=none->b∈fs->b ∉ ex-> ∃sl,h'.get? b=some {o with slots:=sl}
 free: ∀b o,h.get? b=some o->H b=none->b ∉ ex->H' b=none
 there: ∀b o,h.get? b=some o->b ∉ ex-> ∃o',h'.get? b=some o'
 tups: ∀b xs,H b=some (.tup xs)->H' b=some (.tup xs)
 frzs: ∀b o u,H b=some (.frz o u)->H' b=some (.frz o u)
 tbls: ∀b ps,H b=some (.tbl ps)-> ∃more,H' b=some (.tbl (ps++more))
section
variable {fs fs' ex ex':List Addr}{H H1 H2:Hp}{h h1 h2 h':Heap}{a x e:Addr}{o:HO}
theorem Un.any (u:Un fs ex H H1 h h1){b:Addr}{ob:Obj}(q:h.get? b=some ob)(n:H b=none)(hx:b ∉ ex): ∃sl,h1.get? b=some {ob with slots:=sl}:=by
 by_cases hb:b∈fs
 ·exact u.slot b ob q n hb hx
 ·exact⟨ob.slots,u.keep b ob q n hb hx⟩
theorem Un.kept (k: ∀b u,h.get? b=some u->h'.get? b=some u):Un fs ex H H h h':=
 ⟨λb ob q _ _ _=>k b ob q,λb ob q _ _ _=>⟨ob.slots,k b ob q⟩,λ_ _ _ n _=>n,λb ob q _=>⟨ob,k b ob q⟩,λ_ _ q=>q,λ_ _ _ q=>q,λ_ ps q=>⟨#[],by rw [q];simp⟩⟩
theorem Un.refl:Un fs ex H H h h:=Un.kept λ_ _ q=>q
theorem Un.laid (k: ∀b u,h.get? b=some u->h'.get? b=some u)(hp:h.objs.size<=a)(hn:H a=none):Un fs ex H (upd H a o) h h' where
 keep:=λb u q _ _ _=>k b u q
 slot:=λb u q _ _ _=>⟨u.slots,k b u q⟩
 free:=λb u q n _=>by rw [jf (S0 (R7 (P8 q) hp))];exact n
 there:=λb u q _=>⟨u,k b u q⟩
 tups:=λb xs q=>by rw [jf (je q hn)];exact q
 frzs:=λb u xs q=>by rw [jf (je q hn)];exact q
 tbls:=λb ps q=>⟨#[],by rw [jf (je q hn),q];simp⟩
theorem Un.write (mu:Mut (H x))(he:e=x\/H e=some (.own x))(k: ∀b u,b≠e->h.get? b=some u->h'.get? b=some u)(heo: ∃u,h'.get? e=some u):Un fs ex H (upd H x o) h h':=by
 have hx: ∀b,H b=none->b≠x:=λb n z=>by subst z;rw [n] at mu;exact mu
 have hb: ∀b,H b=none->b≠e:=λb n z=>by
  subst z;rcases he with r|r
  ·exact hx b n r
  ·rw [n] at r;cases r
 have hm: ∀b u,H b=some u-> ¬Mut (some u)->b≠x:=λb u q nm z=>by subst z;rw [q] at mu;exact nm mu
 refine⟨λb u q n _ _=>k b u (hb b n) q,λb u q n _ _=>⟨u.slots,k b u (hb b n) q⟩,λb u q n _=>by rw [jf (hx b n)];exact n,λb u q _=> ?_,
  λb xs q=>by rw [jf (hm b _ q λz=>z)];exact q,λb u xs q=>by rw [jf (hm b _ q λz=>z)];exact q,λb ps q=>⟨#[],by rw [jf (hm b _ q λz=>z),q];simp⟩⟩
 by_cases hbe:b=e
 ·subst hbe;exact heo
 ·exact⟨u,k b u hbe q⟩
end
def trk (h:Heap)(H:Hp):List Addr:=(P2 h.objs.size).filter λa=>(H a).isSome
def XZ (h:Heap)(H:Hp):Heap:=PySem.W.hideAll h (trk h H)
theorem Uf (h:Heap)(H:Hp):(XZ h H).objs.size=h.objs.size:=PySem.W.hideAll_size _ _
theorem Zk {o:Obj}(e:h.get? b=some o)(n:H b=none):(XZ h H).get? b=some o:=
 PySem.W.hideAll_get _ e λhm=>by
  have q:(H b).isSome=true:=(dL.mp hm).2;rw [n] at q;simp at q
theorem Pa {o:Obj}(e:(XZ h H).get? b=some o):h.get? b=some o/\H b=none:=by
 have e':h.get? b=some o:=PySem.W.of_hideAll (trk h H) e;refine⟨e',?_⟩;cases q:H b with
 |none=>rfl
 |some x=>
  have hm:b∈trk h H:=dL.mpr ⟨D7.mpr (P8 e'),by simp [q]⟩;have z:(XZ h H).get? b=none:=PySem.W.hideAll_none (trk h H) hm;rw [z] at e;cases e
def Pb (g h:Heap)(L:Addr):List (Addr×Obj):=(P2 h.objs.size).filterMap λa=>if a=L\/(g.get? a).isSome=true then none else (h.get? a).map λo=>(a,o)
def rest (g h:Heap)(L d:Addr):List (Addr×Obj):=(Pb g h L).filter λp=>decide (p.1≠d)
structure Mod (K:PySem.W.Frag)(mg:Str->Option G0)(base:Heap):Prop where
 kin:K.In base
 glob:base.Ns mainGlobals mg
 blt: ∃mb,base.Ns builtinsNs mb/\ ∀x:Str,x≠ "__name__" ->mb x=bootBuiltins x
 nolimit:base.NoLimit
structure Cx where
 prog:R5
 w:T4
 K:PySem.W.Frag
 mg:Str->Option G0
 base:Heap
 A:T9
 N:List Str
 s₀:G2
 H₀:Hp
 env:Env
 outer:List Env
 stack:List Env
 ex:List Addr
 fn:Str->Bool
 calm:Bool
 pn:List (Addr×Obj)
 xe:G0->G2->Prop
def frs (l:List Env):List Addr:=l.filterMap (·.frame)
abbrev Cx.fs (X:Cx):List Addr:=frs X.outer
def Vis (sc:H0)(x:Str):Prop:=sc.names.lookup x=some .local\/sc.names.lookup x=some .cell\/sc.names.lookup x=some .free
def Loc (sc:H0)(x:Str):Prop:=sc.names.lookup x=some .local\/sc.names.lookup x=some .cell
def Fo (env:Env)(h:Heap)(m:Str->Option G0)(x:Str)(u:G0):Prop:=
 (env.kindOf x=some .local/\m x=some u)\/((env.kindOf x=some .cell\/env.kindOf x=some .free)/\ ∃c,env.cells.lookup x=some c/\h.IsCell c (some u))
structure Cx.Ok (X:Cx):Prop where
 mod:Mod X.K X.mg X.base
 kind:X.env.scope.kind= .function
 glob:X.env.globals=mainGlobals
 blt:X.env.builtins=builtinsNs
 above:X.s₀.heap.objs.size<=X.env.locals
 inj: ∀x y c,X.env.cells.lookup x=some c->X.env.cells.lookup y=some c->x=y
 has: ∀x,(X.env.kindOf x=some .cell\/X.env.kindOf x=some .free)-> ∃c,X.env.cells.lookup x=some c
 cab: ∀x c,X.fn x=true->X.env.cells.lookup x=some c->X.s₀.heap.objs.size<=c
 hd:X.calm=true->X.A.handled=none
 frames:X.A.frames=some X.stack
 stk:X.stack=X.outer\/(X.stack=X.env::X.outer/\X.env.frame=some X.env.locals)
 exf: ∀b∈X.ex,b≠X.env.locals/\ ∀x c,X.env.cells.lookup x=some c->c≠b
 bs: ∀b o,X.base.get? b=some o->X.s₀.heap.get? b=some o/\X.H₀ b=none
 bsz:X.base.objs.size<=X.s₀.heap.objs.size
 noex: ∀b o,X.base.get? b=some o->b ∉ X.ex
 exfs: ∀b∈X.ex,b ∉ X.fs
 funs:X.s₀.heap.FunFrames X.base X.outer
 frf: ∀b∈X.fs,X.H₀ b=none
structure Inv (X:Cx)(pins:List (Addr×Obj))(σ:List (Option V))(H:Hp)(s:G2):Prop where
 ok:X.Ok
 os:s.os=X.s₀.os
 bare:aB s.gens
 base:Un X.fs X.ex X.H₀ H X.s₀.heap s.heap
 loc: ∃m,s.heap.Ns X.env.locals m/\ ∀ (i:Nat) (x:Str) (v:V),X.N[i]? =some x->σ[i]? =some (some v)->Vis X.env.scope x-> ∃u,RelV v u/\Fo X.env s.heap m x u
 cell: ∀x c,X.env.cells.lookup x=some c-> ∃v,s.heap.IsCell c v
 free:H X.env.locals=none
 freeC: ∀x c,X.env.cells.lookup x=some c->H c=none
 pin: ∀p∈X.pn++pins,s.heap.get? p.1=some p.2/\H p.1=none/\p.1≠X.env.locals/\p.1 ∉ X.fs/\ ∀v,p.2.data≠ .cell v
 hok:HOk X.prog X.w H s.heap
 len:σ.length=X.N.length
section
variable {X:Cx}{pins:List (Addr×Obj)}{σ:List (Option V)}{H H':Hp}{s:G2}{h':Heap}
theorem Cx.Ok.nofr (ok:X.Ok){b:Addr}{o:Obj}(e:X.base.get? b=some o):b ∉ X.fs:=λhb=>by
 have:=(ok.funs.mem hb).1;rw [e] at this;cases this
theorem Inv.bs (I:Inv X pins σ H s): ∀b o,X.base.get? b=some o->s.heap.get? b=some o/\H b=none:=λb o e=>
 ⟨I.base.keep b o (I.ok.bs b o e).1 (I.ok.bs b o e).2 (I.ok.nofr e) (I.ok.noex b o e),I.base.free b o (I.ok.bs b o e).1 (I.ok.bs b o e).2 (I.ok.noex b o e)⟩
theorem Inv.bk (I:Inv X pins σ H s): ∀b o,X.base.get? b=some o->s.heap.get? b=some o:=λb o e=>(I.bs b o e).1
theorem Inv.mod (I:Inv X pins σ H s):Mod X.K X.mg X.base:=I.ok.mod
theorem Inv.kIn (I:Inv X pins σ H s):X.K.In s.heap:=I.ok.mod.kin.keeps I.bk
theorem Inv.lt (I:Inv X pins σ H s):X.env.locals<s.heap.objs.size:=let ⟨_,hn,_⟩:=I.loc;hn.lt
theorem Inv.sz (I:Inv X pins σ H s):X.s₀.heap.objs.size<=s.heap.objs.size:=D9 I.ok.above (D8 I.lt)
theorem Inv.nofs (I:Inv X pins σ H s){a:Addr}(h:s.heap.objs.size<=a):a ∉ X.fs:=λhb=>by
 obtain⟨_,o,ho,_⟩:=I.ok.funs.mem hb;exact absurd (R7 (P8 ho) (D9 I.sz h)) (M7 _)
theorem Inv.cne (I:Inv X pins σ H s): ∀x c,X.env.cells.lookup x=some c->c≠X.env.locals:=λx c e z=>by
 obtain⟨v,o,ho,hd⟩:=I.cell x c e;obtain⟨m,⟨o',es,ep,ho',hd',_⟩,_⟩:=I.loc;rw [z,ho'] at ho;cases ho;rw [hd'] at hd;cases hd
theorem Inv.funs (I:Inv X pins σ H s):s.heap.FunFrames X.base X.outer:=by
 have all: ∀ (l:List Env),(∀b∈frs l,b∈X.fs)->X.s₀.heap.FunFrames X.base l->s.heap.FunFrames X.base l:=by
  intro l
  induction l with
  |nil=>intro _ _;trivial
  |cons env r ih=>
   intro hs hl;obtain⟨hk,⟨L,o,hf,hn,ho,hd⟩,hr⟩:=hl;have hL:L∈X.fs:=hs L (by unfold frs;rw [X2,hf];exact D2);obtain⟨sl,e⟩:=I.base.slot L o ho (I.ok.frf L hL) hL λz=>I.ok.exfs L z hL
   exact⟨hk,⟨L,_,hf,hn,e,hd⟩,ih (λb hb=>hs b (by unfold frs;rw [X2,hf];exact D3 _ hb)) hr⟩
 exact all X.outer (λ_ hb=>hb) I.ok.funs
theorem Inv.stack (I:Inv X pins σ H s):s.heap.FunFrames X.base X.stack:=by
 rcases I.ok.stk with e|⟨e,hf⟩
 ·rw [e];exact I.funs
 ·rw [e];obtain⟨m,hn,_⟩:=I.loc;refine .cons (by rw [I.ok.kind];decide) hf hn ?_ I.funs;exact Heap.get?_none_of_le (D9 I.ok.bsz I.ok.above)
theorem Inv.stkSub (I:Inv X pins σ H s): ∀b∈frs X.stack,b∈X.env.locals::X.fs:=λb hb=>by
 rcases I.ok.stk with e|⟨e,hf⟩
 ·rw [e] at hb;exact D3 _ hb
 ·rw [e] at hb;unfold frs at hb;rw [X2,hf] at hb;exact hb
theorem Inv.stkFree (I:Inv X pins σ H s): ∀b∈frs X.stack,H b=none:=λb hb=>by
 rcases S3.mp (I.stkSub b hb) with e|hb
 ·rw [e];exact I.free
 ·obtain⟨_,o,ho,_⟩:=I.ok.funs.mem hb;exact I.base.free b o ho (I.ok.frf b hb) λz=>I.ok.exfs b z hb
variable {t':Nat}
theorem Inv.step {g':Array GenState}{d':Drawn}{ch:List Addr}(I:Inv X pins σ H s)
 (hch: ∀b∈ch,(b∈X.ex\/X.s₀.heap.objs.size<=b)/\b≠X.env.locals/\(∀x c,X.env.cells.lookup x=some c->c≠b)/\ ∀p∈X.pn++pins,p.1≠b)
 (keep: ∀b o,b≠X.env.locals->b ∉ X.fs->b ∉ ch->s.heap.get? b=some o->H b=none->h'.get? b=some o)
 (slot: ∀b o,b≠X.env.locals->b∈X.fs->b ∉ ch->s.heap.get? b=some o->H b=none-> ∃sl,h'.get? b=some {o with slots:=sl})(free: ∀b o,b ∉ ch->s.heap.get? b=some o->H b=none->H' b=none)
 (there: ∀b o,b ∉ ch->s.heap.get? b=some o-> ∃o',h'.get? b=some o')
 (tups: ∀b xs,H b=some (.tup xs)->H' b=some (.tup xs))(frzs: ∀b o u,H b=some (.frz o u)->H' b=some (.frz o u))(tbls: ∀b ps,H b=some (.tbl ps)-> ∃more,H' b=some (.tbl (ps++more)))
 (ns: ∀m,s.heap.Ns X.env.locals m->h'.Ns X.env.locals m)(hok:HOk X.prog X.w H' h')(hg:aB g'):
 Inv X pins σ H' {s with heap:=h',gens:=g',drawn:=d',toks:=t'}:=by
 have neL: ∀b o,X.s₀.heap.get? b=some o->b≠X.env.locals:=λb o e=>S0 (R7 (P8 e) I.ok.above)
 have neC: ∀b o,X.s₀.heap.get? b=some o->b ∉ X.ex->b ∉ ch:=λb o e hx hb=>by
  rcases (hch b hb).1 with z|z
  ·exact hx z
  ·exact absurd (R7 (P8 e) z) (M7 _)
 have cellK: ∀x c,X.env.cells.lookup x=some c-> ∀v,s.heap.IsCell c v->h'.IsCell c v:=λx c e v ⟨o,ho,hd⟩=>by
  have nch:c ∉ ch:=λz=>(hch c z).2.2.1 x c e rfl
  by_cases hc:c∈X.fs
  ·obtain⟨sl,q⟩:=slot c o (I.cne x c e) hc nch ho (I.freeC x c e);exact⟨_,q,hd⟩
  ·exact⟨o,keep c o (I.cne x c e) hc nch ho (I.freeC x c e),hd⟩
 refine⟨I.ok,I.os,hg,⟨λb o e n hb hx=> ?_,λb o e n hb hx=> ?_,λb o e n hx=> ?_,λb o e hx=> ?_,λb xs e=>tups b xs (I.base.tups b xs e),λb o xs e=>frzs b o xs (I.base.frzs b o xs e),λb ps e=> ?_⟩,?_,λx c e=> ?_,?_,λx c e=> ?_,λp hp=> ?_,hok,I.len⟩
 ·exact keep b o (neL b o e) hb (neC b o e hx) (I.base.keep b o e n hb hx) (I.base.free b o e n hx)
 ·obtain⟨sl,e1⟩:=I.base.slot b o e n hb hx;obtain⟨sl',e2⟩:=slot b _ (neL b o e) hb (neC b o e hx) e1 (I.base.free b o e n hx);exact⟨sl',e2⟩
 ·obtain⟨o',e1⟩:=I.base.there b o e hx;exact free b o' (neC b o e hx) e1 (I.base.free b o e n hx)
 ·obtain⟨o',e1⟩:=I.base.there b o e hx;exact there b o' (neC b o e hx) e1
 ·obtain⟨m1,e1⟩:=I.base.tbls b ps e;obtain⟨m2,e2⟩:=tbls b _ e1;exact⟨m1++m2,by rw [e2,Array.append_assoc]⟩
 ·obtain⟨m,hn,hl⟩:=I.loc;refine⟨m,ns m hn,λi x v e1 e2 e3=> ?_⟩;obtain⟨u,r,l⟩:=hl i x v e1 e2 e3;refine⟨u,r,?_⟩;rcases l with l|⟨k,c,e,z⟩
  ·exact .inl l
  ·exact .inr ⟨k,c,e,cellK x c e _ z⟩
 ·obtain⟨v,z⟩:=I.cell x c e;exact⟨v,cellK x c e v z⟩
 ·obtain⟨m,⟨o,_,_,ho,_⟩,_⟩:=I.loc;exact free _ o (λz=>(hch _ z).2.1 rfl) ho I.free
 ·obtain⟨v,o,ho,hd⟩:=I.cell x c e;exact free c o (λz=>(hch c z).2.2.1 x c e rfl) ho (I.freeC x c e)
 ·obtain⟨e,n,ne,nf,d⟩:=I.pin p hp;have nch:p.1 ∉ ch:=λz=>(hch p.1 z).2.2.2 p hp rfl
  exact⟨keep p.1 p.2 ne nf nch e n,free p.1 p.2 nch e n,ne,nf,d⟩
theorem Inv.un (I:Inv X pins σ H s)(u:Un X.fs [] H H' s.heap h')(hok:HOk X.prog X.w H' h'):Inv X pins σ H' {s with heap:=h',toks:=t'}:=by
 obtain⟨m,⟨o,es,ep,ho,r⟩,_⟩:=id I.loc;obtain⟨sl,hL⟩:=u.any ho I.free (by simp);exact I.step (g':=s.gens) (d':=s.drawn) (ch:= []) (λ_ z=>nomatch z) (λb o _ hb _ e n=>u.keep b o e n hb (by simp)) (λb o _ hb _ e n=>u.slot b o e n hb (by simp)) (λb o _ e n=>u.free b o e n (by simp)) (λb o _ e=>u.there b o e (by simp)) u.tups u.frzs u.tbls (λm' hm=>by
  obtain⟨o',es',ep',ho',r'⟩:=hm;rw [ho] at ho';cases ho';exact⟨_,es',ep',hL,r'⟩) hok I.bare
theorem Inv.call {g':Array GenState}{d':Drawn}{ch:List Addr}(I:Inv X pins σ H s)(u:Un (frs X.stack) ch H H' s.heap h')(hok:HOk X.prog X.w H' h')(hg:aB g')
 (hch: ∀b∈ch,(b∈X.ex\/X.s₀.heap.objs.size<=b)/\b≠X.env.locals/\(∀x c,X.env.cells.lookup x=some c->c≠b)/\ ∀p∈X.pn++pins,p.1≠b):
 Inv X pins σ H' {s with heap:=h',gens:=g',drawn:=d',toks:=t'}:=by
 obtain⟨m,⟨o,es,ep,ho,r⟩,_⟩:=id I.loc;obtain⟨sl,hL⟩:=u.any ho I.free λz=>(hch _ z).2.1 rfl
 exact I.step (ch:=ch) hch (λb o hL hb hc e n=>u.keep b o e n (λz=>(S3.mp (I.stkSub b z)).elim hL hb) hc) (λb o _ _ hc e n=>u.any e n hc) (λb o hc e n=>u.free b o e n hc) (λb o hc e=>u.there b o e hc) u.tups u.frzs u.tbls (λm' hm=>by
  obtain⟨o',es',ep',ho',r'⟩:=hm;rw [ho] at ho';cases ho';exact⟨_,es',ep',hL,r'⟩) hok hg
theorem Inv.turned {it:Addr}(I:Inv X pins σ H s)(k: ∀b o,b≠it->s.heap.get? b=some o->h'.get? b=some o)(hn:H it=none)(hL:it≠X.env.locals)
 (h1:it∈X.ex\/X.s₀.heap.objs.size<=it)(h2: ∀x c,X.env.cells.lookup x=some c->c≠it)(h3: ∀p∈X.pn++pins,p.1≠it):Inv X pins σ H {s with heap:=h',toks:=t'}:=by
 have nit: ∀b u,H b=some u->b≠it:=λb u e z=>by rw [z,hn] at e;cases e
 refine I.step (g':=s.gens) (d':=s.drawn) (ch:= [it]) (λb hb=> ?_) (λb o _ _ hc e _=>k b o (λz=>hc (by simp [z])) e) (λb o _ _ hc e _=>⟨o.slots,k b o (λz=>hc (by simp [z])) e⟩) (λ_ _ _ _ n=>n)
  (λb o hc e=>⟨o,k b o (λz=>hc (by simp [z])) e⟩) (λ_ _ e=>e) (λ_ _ _ e=>e) (λb ps e=>⟨#[],by rw [e];simp⟩) (λm hm=> ?_) (λb u e=> ?_) I.bare
 ·have e:b=it:=by simpa using hb
  subst e;exact⟨h1,hL,h2,h3⟩
 ·obtain⟨o,es,ep,ho,r⟩:=hm;exact⟨o,es,ep,k _ o (A1 hL) ho,r⟩
 ·refine(I.hok b u e).stay (λc v hc q=>k c v ?_ q) (λ_ q=>q) λ_ _ q=>q
  rcases hc with z|z
  ·rw [z];exact nit b u e
  ·exact nit c _ z
theorem Inv.tok (I:Inv X pins σ H s)(t:Nat):Inv X pins σ H {s with toks:=t}:=I.un (h':=s.heap) (t':=t) Un.refl I.hok
theorem Inv.kept (I:Inv X pins σ H s)(k: ∀b u,s.heap.get? b=some u->h'.get? b=some u):Inv X pins σ H {s with heap:=h',toks:=t'}:=I.un (Un.kept k) (I.hok.kept k)
theorem Inv.laid {a:Addr}{o:HO}(I:Inv X pins σ H s)(k: ∀b u,s.heap.get? b=some u->h'.get? b=some u)(hp:s.heap.objs.size<=a)(new:ObjOk X.prog X.w (upd H a o) h' a o):
 Inv X pins σ (upd H a o) {s with heap:=h',toks:=t'}:=I.un (Un.laid k hp (I.hok.fresh hp)) (I.hok.laid k hp new)
theorem Inv.write {x e:Addr}{o:HO}(I:Inv X pins σ H s)(mu:Mut (H x))(he:e=x\/H e=some (.own x))(k: ∀b u,b≠e->s.heap.get? b=some u->h'.get? b=some u)(heo: ∃u,h'.get? e=some u)
 (new:ObjOk X.prog X.w (upd H x o) h' x o):Inv X pins σ (upd H x o) {s with heap:=h',toks:=t'}:=I.un (Un.write mu he k heo) (I.hok.write mu he k heo new)
theorem Inv.weak {gO:List (Option V)}(I:Inv X pins σ H s)(hl:gO.length=σ.length)(w: ∀ (i:Nat) v,gO[i]? =some (some v)->σ[i]? =some (some v)):Inv X pins gO H s:=
 ⟨I.ok,I.os,I.bare,I.base,let ⟨m,hn,hl'⟩:=I.loc;⟨m,hn,λi x v e1 e2 e3=>hl' i x v e1 (w i v e2) e3⟩,I.cell,I.free,I.freeC,I.pin,I.hok,hl.trans I.len⟩
theorem Inv.pins_of {pins':List (Addr×Obj)}(I:Inv X pins σ H s)(h: ∀p∈pins',s.heap.get? p.1=some p.2/\H p.1=none/\p.1≠X.env.locals/\p.1 ∉ X.fs/\ ∀v,p.2.data≠ .cell v):Inv X pins' σ H s:=
 ⟨I.ok,I.os,I.bare,I.base,I.loc,I.cell,I.free,I.freeC,λp hp=>(D0.mp hp).elim (λz=>I.pin p (M1 _ z)) (h p),I.hok,I.len⟩
theorem YT {N:List Str}(hN:N.Nodup){i j:Nat}{x:Str}(a:N[i]? =some x)(b:N[j]? =some x):i=j:=by
 obtain⟨h1,e1⟩:=P4.mp a;obtain⟨h2,e2⟩:=P4.mp b;exact(List.getElem_inj hN).mp (e1.trans e2.symm)
theorem Ug {M:fO}{A:T9}{E:G0->G2->Prop}{i:Nat}{x:Str}{v:V}{u:G0}{Q:Unit->G2->Prop}(I:Inv X pins σ H s)(hN:X.N.Nodup)(hi:X.N[i]? =some x)(hx:Loc X.env.scope x)(r:RelV v u)
 (h: ∀s',Inv X pins (σ.set i (some v)) H s'->(∃a,aP a s.heap s'.heap/\(a=X.env.locals\/X.env.cells.lookup x=some a))->Q () s')(hf:X.fn x=true\/X.env.scope.names.lookup x=some .local:=by first|exact .inl rfl|exact .inr rfl|assumption):wpAny M A (storeName X.env x u) Q E s:=by
 obtain⟨m,hn,hl⟩:=id I.loc;have hcls:(X.env.scope.kind== .class||(X.env.scope.kind== .module&&X.env.locals !=X.env.globals))=false:=by rw [I.ok.kind];rfl
 have iA:i<σ.length:=by rw [I.len];exact(P4.mp hi).1
 have cne:=I.cne;have tracked: ∀ {a:Addr} {h':Heap},(∃o,s.heap.get? a=some o/\H a=none)->aP a s.heap h'->HOk X.prog X.w H h':=λ{a h'} ha hs b ob e=>by
  obtain⟨_,_,hfree⟩:=ha;refine(I.hok b ob e).stay (λc w' hc q=>(hs.2 c ?_).trans q) (λ_ q=>q) λ_ _ q=>q
  rintro rfl;rcases hc with rfl|hc
  ·rw [hfree] at e;cases e
  ·rw [hfree] at hc;cases hc
 rcases hx with hk|hk
 ·refine wpAny_storeName_local hk hn (λh' hn' hs=> ?_) hcls;obtain⟨oL,_,_,hoL,_⟩:=id hn;refine h _ ⟨I.ok,I.os,I.bare,⟨λb o e n hb hx=> ?_,λb o e n hb hx=> ?_,I.base.free,λb o e hx=> ?_,I.base.tups,I.base.frzs,I.base.tbls⟩,⟨_,hn',λj y v' e1 e2 e3=> ?_⟩,λy c e=> ?_,I.free,I.freeC,λp hp=> ?_,tracked ⟨oL,hoL,I.free⟩ hs,by simpa using I.len⟩ ⟨_,hs,.inl rfl⟩
  ·exact(hs.2 b (S0 (R7 (P8 e) I.ok.above))).trans (I.base.keep b o e n hb hx)
  ·obtain⟨sl,e1⟩:=I.base.slot b o e n hb hx;exact⟨sl,(hs.2 b (S0 (R7 (P8 e) I.ok.above))).trans e1⟩
  ·obtain⟨o',e1⟩:=I.base.there b o e hx;exact⟨o',(hs.2 b (S0 (R7 (P8 e) I.ok.above))).trans e1⟩
  ·by_cases hj:j=i
   ·subst hj;rw [hi] at e1;cases e1;rw [U7 iA] at e2;cases e2;exact⟨u,r,.inl ⟨hk,by simp⟩⟩
   ·rw [C0 (A1 hj)] at e2;obtain⟨u',r',q⟩:=hl j y v' e1 e2 e3;refine⟨u',r',?_⟩;rcases q with ⟨k,e⟩|⟨k,c,e,z⟩
    ·refine .inl ⟨k,?_⟩;have:y≠x:=λe=>hj (YT hN e1 (e ▸ hi))
     simp [this,e]
    ·exact .inr ⟨k,c,e,z.sameBut hs (cne y c e)⟩
  ·obtain⟨w',z⟩:=I.cell y c e;exact⟨w',z.sameBut hs (cne y c e)⟩
  ·obtain⟨e,n,ne,nf,d⟩:=I.pin p hp;exact⟨(hs.2 p.1 ne).trans e,n,ne,nf,d⟩
 ·have hfn:X.fn x=true:=by
   rcases hf with z|z
   ·exact z
   ·rw [z] at hk;cases hk
  obtain⟨c,hc⟩:=I.ok.has x (.inl hk);obtain⟨w',z⟩:=I.cell x c hc;refine wpAny_storeName_cell I.ok.kind hk hc z (λh' hc' hs=> ?_);obtain⟨oc,hoc,hocd⟩:=id z;refine h {s with heap:=h'} ⟨I.ok,I.os,I.bare,⟨λb o e n hb hx=> ?_,λb o e n hb hx=> ?_,I.base.free,λb o e hx=> ?_,I.base.tups,I.base.frzs,I.base.tbls⟩,⟨m,hn.sameBut hs (A1 (cne x c hc)),λj y v' e1 e2 e3=> ?_⟩,λy c' e=> ?_,I.free,I.freeC,λp hp=> ?_,tracked ⟨oc,hoc,I.freeC x c hc⟩ hs,by simpa using I.len⟩ ⟨c,hs,.inr hc⟩
  ·exact(hs.2 b (S0 (R7 (P8 e) (I.ok.cab x c hfn hc)))).trans (I.base.keep b o e n hb hx)
  ·obtain⟨sl,e1⟩:=I.base.slot b o e n hb hx;exact⟨sl,(hs.2 b (S0 (R7 (P8 e) (I.ok.cab x c hfn hc)))).trans e1⟩
  ·obtain⟨o',e1⟩:=I.base.there b o e hx;exact⟨o',(hs.2 b (S0 (R7 (P8 e) (I.ok.cab x c hfn hc)))).trans e1⟩
  ·by_cases hj:j=i
   ·subst hj;rw [hi] at e1;cases e1;rw [U7 iA] at e2;cases e2;exact⟨u,r,.inr ⟨.inl hk,c,hc,hc'⟩⟩
   ·rw [C0 (A1 hj)] at e2;obtain⟨u',r',q⟩:=hl j y v' e1 e2 e3;refine⟨u',r',?_⟩;rcases q with q|⟨k,c',e,z'⟩
    ·exact .inl q
    ·refine .inr ⟨k,c',e,z'.sameBut hs ?_⟩;rintro rfl;exact hj (YT hN e1 (I.ok.inj _ _ _ e hc ▸ hi))
  ·by_cases hcc:c'=c
   ·subst hcc;exact⟨_,hc'⟩
   ·obtain⟨w2,z2⟩:=I.cell y c' e;exact⟨w2,z2.sameBut hs hcc⟩
  ·obtain⟨e,n,ne,nf,d⟩:=I.pin p hp;refine⟨(hs.2 p.1 ?_).trans e,n,ne,nf,d⟩;intro q;rw [q,hoc] at e;have q':oc=p.2:=N3 e;exact d w' (by rw [<-q'];exact hocd)
theorem YU {M:fO}{A:T9}{E:G0->G2->Prop}{i:Nat}{x:Str}{v:V}{u:G0}{Q:Unit->G2->Prop}(I:Inv X pins σ H s)(hN:X.N.Nodup)(hi:X.N[i]? =some x)(hx:Loc X.env.scope x)(r:RelV v u)
 (h: ∀s',Inv X pins (σ.set i (some v)) H s'->Q () s')(hf:X.fn x=true\/X.env.scope.names.lookup x=some .local:=by first|exact .inl rfl|exact .inr rfl|assumption):wpAny M A (storeName X.env x u) Q E s:=
 Ug I hN hi hx r (λs' I' _=>h s' I') hf
theorem Inv.call' {s':G2}{ch:List Addr}(I:Inv X pins σ H s)(ho:s'.os=s.os)(u:Un (frs X.stack) ch H H' s.heap s'.heap)(hok:HOk X.prog X.w H' s'.heap)(hg:aB s'.gens)
 (hch: ∀b∈ch,(b∈X.ex\/X.s₀.heap.objs.size<=b)/\b≠X.env.locals/\(∀x c,X.env.cells.lookup x=some c->c≠b)/\ ∀p∈X.pn++pins,p.1≠b):Inv X pins σ H' s':=by
 obtain⟨h',g',d',t',o'⟩:=s';have e:o'=s.os:=ho;subst e;exact I.call (g':=g') (t':=t') (d':=d') u hok hg hch
end
abbrev XK:=G0->Option Addr->Hp->Prop
abbrev St:=List (Option V)
abbrev VK:=V->Hp->Prop
abbrev TE:=St->Hp->VK->Prop
abbrev TT:=St->Hp->(Bool->Hp->Prop)->Prop
abbrev TA:=St->Hp->(List V->Hp->Prop)->Prop
structure Ends where
 nx:St->Hp->Prop
 rt:VK
 bk:St->Hp->Prop:=λ_ _=>False
 ct:St->Hp->Prop:=λ_ _=>False
abbrev TS:=Ends->St->Hp->Prop
def EP (X:Cx)(pins:List (Addr×Obj))(σ:St)(Q:VK)(u:G0)(s':G2):Prop:= ∃v H',Inv X pins σ H' s'/\RelV v u/\Q v H'
def TP (X:Cx)(pins:List (Addr×Obj))(σ:St)(Q:Bool->Hp->Prop)(b:Bool)(s':G2):Prop:= ∃H',Inv X pins σ H' s'/\Q b H'
def AP (X:Cx)(pins:List (Addr×Obj))(σ:St)(Q:List V->Hp->Prop)(us:List G0)(s':G2):Prop:= ∃vs H',Inv X pins σ H' s'/\Vals vs us/\Q vs H'
def SP (X:Cx)(pins:List (Addr×Obj))(D:Ends)(f:Flow)(s':G2):Prop:=
 match f with
 | .next=> ∃gO H',Inv X pins gO H' s'/\D.nx gO H'
 | .brk=> ∃gO H',Inv X pins gO H' s'/\D.bk gO H'
 | .cont=> ∃gO H',Inv X pins gO H' s'/\D.ct gO H'
 | .ret u=> ∃v gO H',Inv X pins gO H' s'/\RelV v u/\D.rt v H'
def PE (X:Cx)(e:Expr)(t:TE):Prop:=
 ∀ (pins:List (Addr×Obj)) (s:G2) (σ:St) (H:Hp) (Q:VK),Inv X pins σ H s->t σ H Q->wpAny (model X.prog X.w) X.A (eval e X.env) (EP X pins σ Q) X.xe s
def PT (X:Cx)(e:Expr)(t:TT):Prop:=
 ∀ (pins:List (Addr×Obj)) (s:G2) (σ:St) (H:Hp) (Q:Bool->Hp->Prop),Inv X pins σ H s->t σ H Q->wpAny (model X.prog X.w) X.A (isTrue e X.env (eval e X.env)) (TP X pins σ Q) X.xe s
def PW (X:Cx)(e:Expr)(t:TT):Prop:=
 ∀ (whole:Sem G0) (pins:List (Addr×Obj)) (s:G2) (σ:St) (H:Hp) (Q:Bool->Hp->Prop),Inv X pins σ H s->t σ H Q->wpAny (model X.prog X.w) X.A (isTrue e X.env whole) (TP X pins σ Q) X.xe s
variable {X:Cx}
theorem PW.pt {e:Expr}{t:TT}(h:PW X e t):PT X e t:=h _
def PA (X:Cx)(es:List Expr)(t:TA):Prop:=
 ∀ (pos:Pos) (pins:List (Addr×Obj)) (s:G2) (σ:St) (H:Hp) (Q:List V->Hp->Prop),Inv X pins σ H s->t σ H Q->wpAny (model X.prog X.w) X.A (spliced (backTo pos (starEach es X.env))) (AP X pins σ Q) X.xe s
def PS (X:Cx)(st:Stmt)(t:TS):Prop:=
 ∀ (pins:List (Addr×Obj)) (s:G2) (σ:St) (H:Hp) (D:Ends),Inv X pins σ H s->t D σ H->wpAny (model X.prog X.w) X.A (exec st X.env) (SP X pins D) X.xe s
def PSs (X:Cx)(st:List Stmt)(t:TS):Prop:=
 ∀ (pins:List (Addr×Obj)) (s:G2) (σ:St) (H:Hp) (D:Ends),Inv X pins σ H s->t D σ H->wpAny (model X.prog X.w) X.A (execs st X.env) (SP X pins D) X.xe s
variable {A:T9}{s:G2}
theorem thn {α:Type}{t:Sem α}{Q Q':α->G2->Prop}{M:fO}{E:G0->G2->Prop}(h:wpAny M A t Q E s)(hQ: ∀a s,Q a s->Q' a s):wpAny M A t Q' E s:=S9 h hQ λ_ _ x=>x
section
variable {X:Cx}
def Cy (i:Nat):TE:=λσ H Q=> ∃v,σ[i]? =some (some v)/\Q v H
def tC (v:V):TE:=λ_ H Q=>Q v H
variable {x:Str}
theorem Ro {i:Nat}{pos:Pos}(hN:X.N[i]? =some x)(hv:Vis X.env.scope x)(hd:(x==("__debug__" :Str))=false:=by decide)(hcd:(x==("__classdict__" :Str))=false:=by decide):PE X (.Name x pos) (Cy i):=by
 intro pins s σ H Q I h;obtain⟨v,e,h⟩:=h;obtain⟨m,hn,hl⟩:=I.loc;obtain⟨u,r,l⟩:=hl i x v hN e hv;have fin:EP X pins σ Q u s:=⟨v,H,I,r,h⟩;rcases l with ⟨hk,hm⟩|⟨hk,c,hc,hcell⟩
 ·exact eI (wpAny_loadName_local I.ok.kind hk hn hm fin) hd
 ·rcases hk with hk|hk
  ·exact eI (wpAny_loadName_cell I.ok.kind hk hc hcell fin) hd
  ·exact eI (wpAny_loadName_free I.ok.kind hk hc hcell fin hcd) hd
theorem pe_int {i j pos}:PE X (.Constant (.int i) j pos) (tC (.int i)):=λ_ _ _ H _ I h=>wpAny_Constant_int ⟨.int i,H,I.tok _,⟨_,rfl⟩,h⟩
theorem pe_bl {b j pos}:PE X (.Constant (.bool b) j pos) (tC (.bl b)):=λ_ _ _ H _ I h=>Constant_bool ⟨.bl b,H,I,rfl,h⟩
theorem pe_non {j pos}:PE X (.Constant .none j pos) (tC .non):=λ_ _ _ H _ I h=>Constant_none ⟨.non,H,I,rfl,h⟩
def Gl (X:Cx)(x:Str):Prop:=X.env.kindOf x=some .globalImplicit
variable {u:G0}
theorem Uh {E:G0->G2->Prop}{pins:List (Addr×Obj)}{s:G2}{σ:St}{H:Hp}{pos:Pos}{Q:G0->G2->Prop}(I:Inv X pins σ H s)(hg:Gl X x)(hm:X.mg x=some u)(h:Q u s)
 (hd:(x==("__debug__" :Str))=false:=by decide):wpAny (model X.prog X.w) X.A (eval (.Name x pos) X.env) Q E s:=
 X7 I.ok.kind hg (Calls.loadGlobal_global (by rw [I.ok.glob];exact I.mod.glob.keeps I.bk) hm h) hd
theorem JF {E:G0->G2->Prop}{pins:List (Addr×Obj)}{s:G2}{σ:St}{H:Hp}{pos:Pos}{Q:G0->G2->Prop}(I:Inv X pins σ H s)(hg:Gl X x)(hm:X.mg x=none)(hv:bootBuiltins x=some u)(h:Q u s)
 (hn:x≠ "__name__" :=by decide)(hd:(x==("__debug__" :Str))=false:=by decide):wpAny (model X.prog X.w) X.A (eval (.Name x pos) X.env) Q E s:=by
 obtain⟨mb,h1,h2⟩:=I.mod.blt;exact X7 I.ok.kind hg (Calls.loadGlobal_builtin (by rw [I.ok.glob];exact I.mod.glob.keeps I.bk) hm (by rw [I.ok.blt];exact h1.keeps I.bk) ((h2 x hn).trans hv) h) hd
theorem Pc {v:V}{pos:Pos}(hg:Gl X x)(hm:X.mg x=some u)(r:RelV v u)(hd:(x==("__debug__" :Str))=false:=by decide):PE X (.Name x pos) (tC v):=
 λ_ _ _ H _ I h=>Uh I hg hm ⟨v,H,I,r,h⟩ hd
theorem Pd {v:V}{pos:Pos}(hg:Gl X x)(hm:X.mg x=none)(hv:bootBuiltins x=some u)(r:RelV v u)(hn:x≠ "__name__" :=by decide)(hd:(x==("__debug__" :Str))=false:=by decide):PE X (.Name x pos) (tC v):=
 λ_ _ _ H _ I h=>JF I hg hm hv ⟨v,H,I,r,h⟩ hn hd
variable {a b:Expr}{ta tb:TE}{pos:Pos}
def tB (t:TE):TT:=λσ H Q=>t σ H λx H1=> ∃c,x= .bl c/\Q c H1
theorem Rp {e:Expr}{t:TE}(h:PE X e t)(he: ∀whole,isTrue e X.env whole=(do let v <-whole;standAt e.pos;holding [v] (truthy v)):=by intro _;rfl):PT X e (tB t):=by
 intro pins s σ H Q I hw;refine isTrue_plain (thn (h pins s σ H _ I hw) λv s1 ⟨x,H1,I1,r1,q1⟩=> ?_) (he _);obtain⟨d,rfl,q⟩:=q1;cases r1;exact N8 ⟨H1,I1,q⟩
variable {tA tB':TT}{rest:List Expr}
def tOr (t u:TT):TT:=λσ H Q=>t σ H λc H1=>if c=true then Q true H1 else u σ H1 Q
def Cz (t:TT):TT:=λσ H Q=>t σ H λc H1=>Q (!c) H1
theorem Rq (ha:PT X a tA):PW X (.BoolOp .Or [a] pos) tA:=by
 intro wh pins s σ H Q I h;refine isTrue_or (thn (ha pins s σ H Q I h) λc s1 e=> ?_);cases c with
 |false=>exact isTrue_or_nil e
 |true=>exact e
theorem Bd (ha:PT X a tA)(hb:PW X (.BoolOp .Or (b::rest) pos) tB'):PW X (.BoolOp .Or (a::b::rest) pos) (tOr tA tB'):=by
 intro wh pins s σ H Q I h;refine isTrue_or (thn (ha pins s σ H _ I h) λc s1 ⟨H1,I1,q1⟩=> ?_);cases c with
 |true=>exact⟨H1,I1,q1⟩
 |false=>exact hb wh pins s1 σ H1 Q I1 q1
theorem Rr (ha:PT X a tA):PT X (.UnaryOp .Not a pos) (Cz tA):=by
 intro pins s σ H Q I h;exact isTrue_not (ha pins s σ H (λc H1=>Q (!c) H1) I h)
def Rs (ta tb:TE):TE:=λσ H Q=>ta σ H λx H1=> ∃c,x= .bl c/\if c=true then tb σ H1 Q else Q (.bl false) H1
def CA (ta tb:TE):TE:=λσ H Q=>ta σ H λx H1=> ∃c,x= .bl c/\if c=true then Q (.bl true) H1 else tb σ H1 Q
def Rt (ta:TE):TE:=λσ H Q=>ta σ H λx H1=> ∃c,x= .bl c/\Q (.bl (!c)) H1
theorem Ru {op}{t:TE}(h:PE X a t):PE X (.BoolOp op [a] pos) t:=λpins s σ H Q I hw=>BoolOp_one (h pins s σ H Q I hw)
theorem Rv (ha:PE X a ta)(hb:PE X (.BoolOp .And (b::rest) pos) tb):PE X (.BoolOp .And (a::b::rest) pos) (Rs ta tb):=by
 intro pins s σ H Q I h;refine BoolOp_and (thn (ha pins s σ H _ I h) λv s1 ⟨x,H1,I1,r1,q1⟩=> ?_);obtain⟨c,rfl,q1⟩:=q1;cases r1;refine N8 ?_;cases c with
 |true=>exact hb pins s1 σ H1 Q I1 q1
 |false=>exact⟨.bl false,H1,I1,rfl,q1⟩
theorem Be (ha:PE X a ta)(hb:PE X (.BoolOp .Or (b::rest) pos) tb):PE X (.BoolOp .Or (a::b::rest) pos) (CA ta tb):=by
 intro pins s σ H Q I h;refine BoolOp_or (thn (ha pins s σ H _ I h) λv s1 ⟨x,H1,I1,r1,q1⟩=> ?_);obtain⟨c,rfl,q1⟩:=q1;cases r1;refine N8 ?_;cases c with
 |false=>exact hb pins s1 σ H1 Q I1 q1
 |true=>exact⟨.bl true,H1,I1,rfl,q1⟩
theorem Rw (ha:PE X a ta):PE X (.UnaryOp .Not a pos) (Rt ta):=by
 intro pins s σ H Q I h;refine UnaryOp_ (thn (ha pins s σ H _ I h) λv s1 ⟨x,H1,I1,r1,q1⟩=> ?_);obtain⟨c,rfl,q1⟩:=q1;cases r1;exact not_of (N8 ⟨.bl (!c),H1,I1,rfl,q1⟩)
def tIf (t:TT)(ta tb:TE):TE:=λσ H Q=>t σ H λc H1=>if c=true then ta σ H1 Q else tb σ H1 Q
theorem Qa {c:Expr}(hc:PT X c tA)(ha:PE X a ta)(hb:PE X b tb):PE X (.IfExp c a b pos) (tIf tA ta tb):=by
 intro pins s σ H Q I h;refine wpAny_IfExp (thn (hc pins s σ H _ I h) λd s1 ⟨H1,I1,q1⟩=> ?_);cases d with
 |true=>exact ha pins s1 σ H1 Q I1 q1
 |false=>exact hb pins s1 σ H1 Q I1 q1
end
def SqL (K:PySem.W.Frag)(H:Hp)(a:Addr)(xs:List V):Prop:=
 Rd H a (.lst xs)\/
  ∃ (o:Obj) (its:Array G0) (n:Nat),K.lookup a=some o/\o.cls= .type "list" /\o.dict=none/\o.data= .seq its n/\its.size<=sizeLine/\Vals xs its.toList
def SqT (K:PySem.W.Frag)(H:Hp)(a:Addr)(xs:List V):Prop:=
 Rd H a (.tup xs)\/
  ∃ (o:Obj) (its:Array G0) (n:Nat),K.lookup a=some o/\o.cls= .type "tuple" /\o.data= .seq its n/\its.size<=sizeLine/\Vals xs its.toList
def Fp:G0->Option V
 | .none=>some .non
 | .bool b=>some (.bl b)
 | .int i _=>some (.int i)
 | .str x _=>some (.str x)
 | .bytes b _=>some (.byt b)
 | .float b _=>some (.flt b)
 | .ref a=>some (.ref a)
 | .type n=>some (.ty n)
 |_=>none
theorem RelV.abs {x:V}(r:RelV x u):Fp u=some x:=by
 cases x with
 |non=>cases r;rfl
 |bl _=>cases r;rfl
 |int _=>obtain⟨t,rfl⟩:=r;rfl
 |str _=>obtain⟨t,rfl⟩:=r;rfl
 |byt _=>obtain⟨t,rfl⟩:=r;rfl
 |flt _=>obtain⟨t,rfl⟩:=r;rfl
 |ref _=>cases r;rfl
 |ty _=>cases r;rfl
theorem RelV.inj {x y:V}(r:RelV x u)(q:RelV y u):x=y:=N3 (r.abs.symm.trans q.abs)
theorem Vals.inj: ∀ {xs ys:List V} {us:List G0},Vals xs us->Vals ys us->xs=ys
 |_,_,_,.nil,.nil=>rfl
 |_,_,_,.cons r t,.cons r' t'=>by rw [r.inj r',Vals.inj t t']
section
variable {X:Cx}{pins:List (Addr×Obj)}{σ:St}{H:Hp}{s:G2}{a:Addr}{xs ys:List V}
theorem SqL.of {K:PySem.W.Frag}(h:H a=some (.lst xs)):SqL K H a xs:= .inl (.inl h)
theorem SqT.of {K:PySem.W.Frag}(h:H a=some (.tup xs)):SqT K H a xs:= .inl (.inl h)
theorem Inv.list (I:Inv X pins σ H s)(h:SqL X.K H a xs): ∃its:List G0,Vals xs its/\PlainL s.heap a its.toArray/\xs.length<=sizeLine:=by
 rcases h with h|⟨o,its,n,hk,hc,hd,hs,hz,r⟩
 ·obtain⟨z,its,n,r,e⟩:=h.ok I.hok;exact⟨its,r,⟨_,n,e,rfl,rfl,rfl⟩,z⟩
 ·refine⟨its.toList,r,⟨o,n,I.kIn a o hk,hc,hd,by simpa using hs⟩,?_⟩;have e:=r.length;simp only [T2] at e;omega
theorem Inv.tuple (I:Inv X pins σ H s)(h:SqT X.K H a xs): ∃its:List G0,Vals xs its/\dF s.heap a its.toArray/\xs.length<=sizeLine:=by
 rcases h with h|⟨o,its,n,hk,hc,hs,hz,r⟩
 ·obtain⟨z,its,r,p⟩:=h.ok I.hok;exact⟨its,r,p.tup,z⟩
 ·refine⟨its.toList,r,⟨o,I.kIn a o hk,hc,n,by simpa using hs⟩,?_⟩;have e:=r.length;simp only [T2] at e;omega
theorem Inv.list_inj (I:Inv X pins σ H s)(h:SqL X.K H a xs)(h':SqL X.K H a ys):xs=ys:=by
 obtain⟨its,r,⟨o,n,e,_,_,d⟩,_⟩:=I.list h;obtain⟨its',r',⟨o',n',e',_,_,d'⟩,_⟩:=I.list h';rw [e] at e';cases e';rw [d] at d';injection d' with d1 _
 have:its=its':=by simpa using congrArg fP d1
 subst this;exact r.inj r'
theorem Inv.tuple_inj (I:Inv X pins σ H s)(h:SqT X.K H a xs)(h':SqT X.K H a ys):xs=ys:=by
 obtain⟨its,r,⟨o,e,_,n,d⟩,_⟩:=I.tuple h;obtain⟨its',r',⟨o',e',_,n',d'⟩,_⟩:=I.tuple h';rw [e] at e';cases e';rw [d] at d';injection d' with d1 _
 have:its=its':=by simpa using congrArg fP d1
 subst this;exact r.inj r'
end
abbrev Cx.wish (X:Cx)(E:G0->G2->Prop):Cx:= {X with xe:=E}
abbrev Cx.nox (X:Cx):Cx:=X.wish λ_ _=>False
theorem Cx.Ok.wish (ok:X.Ok)(E:G0->G2->Prop):(X.wish E).Ok:=
 ⟨ok.mod,ok.kind,ok.glob,ok.blt,ok.above,ok.inj,ok.has,ok.cab,ok.hd,ok.frames,ok.stk,ok.exf,ok.bs,ok.bsz,ok.noex,ok.exfs,ok.funs,ok.frf⟩
theorem Cx.Ok.unwish {E:G0->G2->Prop}(ok:(X.wish E).Ok):X.Ok:=
 ⟨ok.mod,ok.kind,ok.glob,ok.blt,ok.above,ok.inj,ok.has,ok.cab,ok.hd,ok.frames,ok.stk,ok.exf,ok.bs,ok.bsz,ok.noex,ok.exfs,ok.funs,ok.frf⟩
section
variable {X:Cx}{pins:List (Addr×Obj)}{σ:St}{H:Hp}{s:G2}{E:G0->G2->Prop}
theorem Inv.wish (I:Inv X pins σ H s)(E:G0->G2->Prop):Inv (X.wish E) pins σ H s:=⟨I.ok.wish E,I.os,I.bare,I.base,I.loc,I.cell,I.free,I.freeC,I.pin,I.hok,I.len⟩
theorem Inv.unwish (I:Inv (X.wish E) pins σ H s):Inv X pins σ H s:=⟨I.ok.unwish,I.os,I.bare,I.base,I.loc,I.cell,I.free,I.freeC,I.pin,I.hok,I.len⟩
theorem SP.unwish {D:Ends}{f:Flow}{s':G2}(h:SP (X.wish E) pins D f s'):SP X pins D f s':=by
 cases f with
 |next=>obtain⟨gO,H',I,q⟩:=h;exact⟨gO,H',I.unwish,q⟩
 |brk=>obtain⟨gO,H',I,q⟩:=h;exact⟨gO,H',I.unwish,q⟩
 |cont=>obtain⟨gO,H',I,q⟩:=h;exact⟨gO,H',I.unwish,q⟩
 |ret u=>obtain⟨v,gO,H',I,r,q⟩:=h;exact⟨v,gO,H',I.unwish,r,q⟩
theorem PSs.nox {st:List Stmt}{t:TS}(h:PSs X.nox st t):PSs X st t:=λpins s σ H D I hw=>
 S9 (h pins s σ H D (I.wish _) hw) (λ_ _ q=>q.unwish) λ_ _ z=>False.elim z
end
section
variable {X:Cx}{st:Stmt}{rest:List Stmt}{t u:TS}{e:Expr}{te:TE}{pos:Pos}
def Rx:TS:=λD σ H=>D.nx σ H
def CB (t u:TS):TS:=λD σ H=>t {D with nx:=u D} σ H
theorem pss_nil:PSs X [] Rx:=λ_ _ σ H _ I h=>W8 ⟨σ,H,I,h⟩
theorem Qb (h1:PS X st t)(h2:PSs X rest u):PSs X (st::rest) (CB t u):=by
 intro pins s σ H D I h;refine cX (thn (h1 pins s σ H {D with nx:=u D} I h) λf s1 q=> ?_);cases f with
 |next=>
  obtain⟨gO,H',I',q⟩:=q;exact h2 pins s1 gO H' D I' q
 |ret v=>exact q
 |brk=>exact q
 |cont=>exact q
theorem Pe (h1:PS X st t):PSs X [st] t:=by
 intro pins s σ H D I h;refine cX (thn (h1 pins s σ H D I h) λf s1 q=> ?_);cases f with
 |next=>exact W8 q
 |ret v=>exact q
 |brk=>exact q
 |cont=>exact q
theorem Inv.quiet {pins:List (Addr×Obj)}{σ:St}{H:Hp}{s:G2}(I:Inv X pins σ H s):interactive X.env=false:=by simp [interactive,I.ok.kind]
def Ry (te:TE):TS:=λD σ H=>te σ H λ_ H1=>D.nx σ H1
theorem Pf (he:PE X e te)(hs:swapsWith e none pos.line X.env=pure false:=by rfl):PS X (.Expr e pos) (Ry te):=by
 intro pins s σ H D I h;exact wpAny_Expr_any (thn (he pins s σ H _ I h) λv s1 ⟨x,H1,I1,r1,q1⟩=>⟨σ,H1,I1,q1⟩) I.quiet hs
def CC (te:TE):TS:=λD σ H=>te σ H D.rt
theorem Rz (he:PE X e te):PS X (.Return (some e) pos) (CC te):=by
 intro pins s σ H D I h;exact wpAny_Return_some (thn (he pins s σ H _ I h) λv s1 ⟨x,H1,I1,r1,q1⟩=>⟨x,σ,H1,I1,r1,q1⟩)
def CF (c:TT)(t u:TS):TS:=λD σ H=>c σ H λb H1=>if b=true then t D σ H1 else u D σ H1
theorem Bf {c:Expr}{a b:List Stmt}{tc:TT}(hc:PT X c tc)(ha:PSs X a t)(hb:PSs X b u):PS X (.If c a b pos) (CF tc t u):=by
 intro pins s σ H D I h;refine wpAny_If (thn (hc pins s σ H _ I h) λd s1 ⟨H1,I1,q1⟩=> ?_);cases d with
 |true=>exact ha pins s1 σ H1 D I1 q1
 |false=>exact hb pins s1 σ H1 D I1 q1
end
abbrev TG:=V->St->Hp->(St->Hp->Prop)->Prop
abbrev TGs:=List V->St->Hp->(St->Hp->Prop)->Prop
def PG (X:Cx)(target:Expr)(t:TG):Prop:=
 ∀ (pins:List (Addr×Obj)) (s:G2) (σ:St) (H:Hp) (v:V) (u:G0) (Q:St->Hp->Prop),Inv X pins σ H s->RelV v u->t v σ H Q->
  wpAny (model X.prog X.w) X.A (assign target X.env u) (λ_ s'=> ∃gO H',Inv X pins gO H' s'/\Q gO H') X.xe s
def PGs (X:Cx)(ts:List Expr)(t:TGs):Prop:=
 ∀ (pins:List (Addr×Obj)) (s:G2) (σ:St) (H:Hp) (vs:List V) (us:List G0) (Q:St->Hp->Prop),Inv X pins σ H s->Vals vs us->t vs σ H Q->
  wpAny (model X.prog X.w) X.A (assignInOrder ((assignEach ts X.env).map (·.2)) us) (λ_ s'=> ∃gO H',Inv X pins gO H' s'/\Q gO H') X.xe s
abbrev Bg:=V->V->V->Hp->(Hp->Prop)->Prop
def CG (X:Cx)(t:Bg):Prop:=
 ∀ (pins:List (Addr×Obj)) (s:G2) (σ:St) (H:Hp) (o i v:V) (ov iv u:G0) (Q:Hp->Prop),Inv X pins σ H s->RelV o ov->RelV i iv->RelV v u->t o i v H Q->
  wpAny (model X.prog X.w) X.A (setItem ov iv u) (λ_ s'=> ∃H',Inv X pins σ H' s'/\Q H') X.xe s
section
variable {X:Cx}{pos:Pos}
def wg (i:Nat):TG:=λv σ H Q=>Q (σ.set i (some v)) H
theorem wP {i:Nat}{x:Str}(hN:X.N.Nodup)(hi:X.N[i]? =some x)(hx:Loc X.env.scope x)(hf:X.fn x=true\/X.env.scope.names.lookup x=some .local:=by first|exact .inl rfl|exact .inr rfl|assumption):PG X (.Name x pos) (wg i):=by
 intro pins s σ H v u Q I r h;exact wpAny_assign_Name (YU I hN hi hx r (λs' I'=>⟨_,H,I',h⟩) hf)
def CH:TGs:=λvs σ H Q=>vs= []/\Q σ H
def Pg (t:TG)(u:TGs):TGs:=λvs σ H Q=> ∃v r,vs=v::r/\t v σ H λgO H'=>u r gO H' Q
theorem Ph:PGs X [] CH:=by
 intro pins s σ H vs us Q I r h;obtain⟨e,h⟩:=h;subst e;cases r;exact assignInOrder_nil ⟨σ,H,I,h⟩
theorem YV {e:Expr}{es:List Expr}{t:TG}{u:TGs}(h1:PG X e t)(h2:PGs X es u)
 (hs:(assignEach (e::es) X.env).map (·.2)=assign e X.env::(assignEach es X.env).map (·.2):=by rfl):PGs X (e::es) (Pg t u):=by
 intro pins s σ H vs us Q I r h;obtain⟨v,vr,e1,h⟩:=h;subst e1;cases r with
 |cons r rr=>
  rw [hs];refine assignInOrder_cons (thn (h1 pins s σ H _ _ _ I r h) λ_ s1 ⟨gX,H1,I1,q1⟩=> ?_);exact h2 pins s1 gX H1 _ _ Q I1 rr q1
def CI (K:PySem.W.Frag)(n:Nat)(t:TGs):TG:=λv σ H Q=> ∃a xs,v= .ref a/\SqT K H a xs/\xs.length=n/\t xs σ H Q
theorem RA {es:List Expr}{k:Nat}{t:TGs}{n:Nat}(hc:X.calm=true)(h:PGs X es t)
 (hn:(assignEach es X.env).length=n:=by rfl)(hst:(assignEach es X.env).findIdx? (·.1)=none:=by rfl):PG X (.Tuple es k pos) (CI X.K n t):=by
 intro pins s σ H v u Q I r hw;obtain⟨a,xs,e1,hq,hl,hw⟩:=hw;subst e1;cases r;obtain⟨its,rv,ht,hz⟩:=I.tuple hq;refine assign_Tuple_tuple (I.ok.hd hc) ht (by simp [hn,<-hl,rv.length]) hst λh' hx=> ?_
 have I1:Inv X pins σ H {s with heap:=h'}:=I.kept (t':=s.toks) λb o e=>hx b o (S0 (P8 e)) e
 exact h pins _ σ H xs _ Q I1 (by simpa using rv) hw
def Fq (to ti:TE)(t:Bg):TG:=λv σ H Q=>to σ H λo H1=>ti σ H1 λi H2=>t o i v H2 λH3=>Q σ H3
theorem RB {o i:Expr}{to ti:TE}{t:Bg}(ho:PE X o to)(hi:PE X i ti)(hs:CG X t)
 (ha: ∀v,assign (.Subscript o i pos) X.env v=(do
  let ov <-holding [v] (eval o X.env)
  let iv <-holding [v,ov] (eval i X.env)
  standAt pos
  holding [v,ov,iv] (setItem ov iv v)
  release [v,ov,iv] []):=by intro _;rfl):PG X (.Subscript o i pos) (Fq to ti t):=by
 intro pins s σ H v u Q I r h;rw [ha];refine wpAny_bind (E1 (thn (ho pins s σ H _ I h) λov s1 ⟨x,H1,I1,r1,q1⟩=> ?_));refine wpAny_bind (E1 (thn (hi pins s1 σ H1 _ I1 q1) λiv s2 ⟨y,H2,I2,r2,q2⟩=> ?_));refine wpAny_bind (W1 (wpAny_bind (E1 (thn (hs pins s2 σ H2 x y v ov iv u _ I2 r1 r2 r q2) λ_ s3 ⟨H3,I3,q3⟩=> ?_))));exact wpAny_release ⟨σ,H3,I3,q3⟩
def Gy (te:TE)(g:TG):TS:=λD σ H=>te σ H λx H1=>g x σ H1 D.nx
theorem RC {tg e:Expr}{te:TE}{g:TG}(he:PE X e te)(hg:PG X tg g)(hs:swapsWithSole [tg] e pos.line X.env=pure false:=by rfl)(hw:swappedStores [tg] e X.env=pure none:=by rfl)
 (h1:(assignEach [tg] X.env).map (·.2)= [assign tg X.env]:=by rfl):PS X (.Assign [tg] e pos) (Gy te g):=by
 intro pins s σ H D I h;refine wpAny_Assign_stores (thn (he pins s σ H _ I h) λv s1 ⟨x,H1,I1,r1,q1⟩=> ?_) hs hw;rw [h1];exact thn (hg pins s1 σ H1 x v _ I1 r1 q1) λ_ s2 q=>q
theorem RD {i:Nat}{x:Str}{e:Expr}{te:TE}{pos':Pos}(hN:X.N.Nodup)(hi:X.N[i]? =some x)(hx:Loc X.env.scope x)(he:PE X e te)(hs:swapsWith e (some (.Name x pos')) pos.line X.env=pure false:=by rfl)(hf:X.fn x=true\/X.env.scope.names.lookup x=some .local:=by first|exact .inl rfl|exact .inr rfl|assumption):
 PS X (.Assign [.Name x pos'] e pos) (Gy te (wg i)):=by
 intro pins s σ H D I h;refine wpAny_Assign_Name (thn (he pins s σ H _ I h) λv s1 ⟨y,H1,I1,r1,q1⟩=> ?_) hs;exact YU I1 hN hi hx r1 (λs2 I2=>⟨_,H1,I2,q1⟩) hf
def Gz (c:TT)(tb:TS):TS:=λD σ H=> ∃W:Nat->St->Hp->Prop,(∃m,W m σ H)/\ ∀m σ H,W m σ H->
 c σ H λb H1=>if b=true then ∃N:St->Hp->Prop,(∀gO H',N gO H'-> ∃m',m'<m/\W m' gO H')/\tb {D with nx:=N,ct:=N,bk:=D.nx} σ H1 else D.nx σ H1
theorem Qc {c:Expr}{body:List Stmt}{tc:TT}{tb:TS}(hp:bM (model X.prog X.w) X.A X.env X.xe)(hc:PT X c tc)(hb:PSs X body tb):PS X (.While c body [] pos) (Gz tc tb):=by
 intro pins s σ H D I h;obtain⟨W,⟨m0,w0⟩,turn⟩:=h;refine wpAny_While (codeAny_whileLoop (λn s'=> ∃gO H',Inv X pins gO H' s'/\W n gO H') ?_ m0 ⟨σ,H,I,w0⟩);rintro n s1 ⟨gX,H1,I1,w1⟩;refine A4 hp (thn (hc pins s1 gX H1 _ I1 (turn n gX H1 w1)) λb s2 ⟨H2,I2,q2⟩=> ?_);cases b with
 |true=>
  obtain⟨N,hN,q2⟩:=q2;rw [if_pos rfl];refine A4 hp (thn (hb pins s2 gX H2 _ I2 q2) λf s3 q3=> ?_);cases f with
  |next=>
   obtain⟨gT,H3,I3,n3⟩:=q3;obtain⟨m',hm,w3⟩:=hN gT H3 n3;exact⟨m',hm,gT,H3,I3,w3⟩
  |cont=>
   obtain⟨gT,H3,I3,n3⟩:=q3;obtain⟨m',hm,w3⟩:=hN gT H3 n3;exact⟨m',hm,gT,H3,I3,w3⟩
  |brk=>exact q3
  |ret v=>exact q3
 |false=>
  rw [if_neg P3];exact W8 ⟨gX,H2,I2,q2⟩
end
structure It where
 go:Nat->Hp->Prop
 yld:Nat->Hp->V->Hp->Prop
 stop:Nat->Hp->Prop
def Ua (X:Cx)(pins:List (Addr×Obj))(H:Hp)(b:Addr):Prop:=
 H b=none/\b≠X.env.locals/\b ∉ X.fs/\(b∈X.ex\/X.s₀.heap.objs.size<=b)/\(∀x c,X.env.cells.lookup x=some c->c≠b)/\ ∀p∈X.pn++pins,p.1≠b
theorem Inv.fpOk {pins:List (Addr×Obj)}{σ:St}{H':Hp}(I:Inv X pins σ H s)(hb:s.heap.objs.size<=b)(hn:H' b=none):Ua X pins H' b:=by
 refine⟨hn,E8 (R7 I.lt hb),I.nofs hb,.inr (D9 I.sz hb),λx c e z=> ?_,λp hp z=> ?_⟩
 ·obtain⟨v,q⟩:=I.cell x c e;exact absurd (R7 q.lt (by rw [z];exact hb)) (M7 _)
 ·exact absurd (R7 (P8 (I.pin p hp).1) (by rw [z];exact hb)) (M7 _)
structure Turn (P:R5)(w:T4)(K:PySem.W.Frag)(tg:Expr)(J:It)(fp:List Addr)(it:Addr)(tn:Nat->Heap->Prop):Prop where
 mem:it∈fp
 obj: ∀i h,tn i h-> ∀b∈fp,∃o,h.get? b=some o/\ ∀v,o.data≠ .cell v
 keep: ∀i h h',tn i h->(∀b∈fp,∀o,h.get? b=some o->h'.get? b=some o)->tn i h'
 item: ∀ (X:Cx),X.prog=P->X.w=w->X.K=K->X.calm=true-> ∀ (i:Nat) (pins:List (Addr×Obj)) (s:G2) (σ:St) (H:Hp) (E:G0->G2->Prop),Inv X pins σ H s->(∀b∈fp,Ua X pins H b)->tn i s.heap->J.go i H->
  wpAny (model P w) X.A (pyNext (.ref it)) (λr s1=> ∃u,r=some u/\
   wpAny (model P w) X.A (letOwnedTupleGo tg (.ref it) u) (λ_ s2=> ∃x H',Inv X pins σ H' s2/\RelV x u/\J.yld i H x H'/\tn (i+1) s2.heap/\ ∀b∈fp,H' b=none) E s1) E s
 done: ∀ (X:Cx),X.prog=P->X.w=w->X.K=K->X.calm=true-> ∀ (i:Nat) (pins:List (Addr×Obj)) (s:G2) (σ:St) (H:Hp) (E:G0->G2->Prop),Inv X pins σ H s->(∀b∈fp,Ua X pins H b)->tn i s.heap->J.stop i H->
  wpAny (model P w) X.A (pyNext (.ref it)) (λr s1=>r=none/\Inv X pins σ H s1) E s
 self: ∀ (A:T9) (i:Nat) (s:G2) (Q:G0->G2->Prop) (E:G0->G2->Prop),tn i s.heap->Q (.ref it) s->wpAny (model P w) A (pyIter (.ref it)) Q E s
abbrev TI:=St->Hp->(It->Hp->Prop)->Prop
def PIE (X:Cx)(pins:List (Addr×Obj))(σ:St)(tg:Expr)(R:It->Hp->Prop)(itv:G0)(s2:G2):Prop:=
 ∃ (it:Addr) (fp:List Addr) (tn:Nat->Heap->Prop) (J:It) (H':Hp),itv= .ref it/\Inv X pins σ H' s2/\Turn X.prog X.w X.K tg J fp it tn/\tn 0 s2.heap/\(∀b∈fp,Ua X pins H' b)/\R J H'
def PI (X:Cx)(tg iter:Expr)(wi:TI):Prop:=
 ∀ (pins:List (Addr×Obj)) (s:G2) (σ:St) (H:Hp) (R:It->Hp->Prop),Inv X pins σ H s->wi σ H R->
  wpAny (model X.prog X.w) X.A (eval iter X.env) (λv s1=>wpAny (model X.prog X.w) X.A (pyIter v) (PIE X pins σ tg R) X.xe s1) X.xe s
variable {tg:Expr}
theorem Pi {M : fO} {E : G0 → G2 → Prop} {it : Addr} {o : Obj} {n : String} {vs : Array G0} {Q : Unit → G2 → Prop} (ho : s.heap.get? it = some o) (hc : o.cls = .type n) (hd : o.data = .fields vs)
    (hn : ["enumerate", "zip", "dict_itemiterator", "dict_reverseitemiterator", "odict_iterator", "itertools.zip_longest", "itertools.pairwise"].contains n = false) (hQ : Q () s) : wpAny M A (letOwnedTupleGo tg (.ref it) u) Q E s := by
  unfold letOwnedTupleGo
  cases tg <;> first
    | exact P9 hQ
    | (cases u <;> first
        | exact P9 hQ
        | (refine wpAny_bind (wpAny_load ho ?_)
           rw [hc, hd]
           show wpAny M A (if (["enumerate", "zip", "dict_itemiterator", "dict_reverseitemiterator", "odict_iterator", "itertools.zip_longest", "itertools.pairwise"].contains n && vs[0]? == some (rawInt _)) = true then _ else _) Q E s
           rw [if_neg (by intro h; rw [hn, eJ] at h; cases h)]
           exact P9 hQ))
def Itl (K:PySem.W.Frag)(a:Addr):It:=
 ⟨λi H=> ∃xs x,SqL K H a xs/\xs[i]? =some x,λi H x H'=>H'=H/\ ∀xs,SqL K H a xs->xs[i]? =some x,λi H=> ∃xs,SqL K H a xs/\xs.length<=i⟩
def Itt (K:PySem.W.Frag)(a:Addr):It:=
 ⟨λi H=> ∃xs x,SqT K H a xs/\xs[i]? =some x,λi H x H'=>H'=H/\ ∀xs,SqT K H a xs->xs[i]? =some x,λi H=> ∃xs,SqT K H a xs/\xs.length<=i⟩
def Itr (lo:Int)(n:Nat):It:=⟨λi _=>i<n,λi H x H'=>H'=H/\x= .int (lo+i),λi _=>n<=i⟩
variable {K:PySem.W.Frag}
theorem Wb (a it:Addr):Turn P w K tg (Itl K a) [it] it (λi h=>h.IsListIter it a i) where
 mem:=by simp
 obj:=λi h st b hb=>by
  have e:b=it:=by simpa using hb
  subst e;obtain⟨o,e,c,d⟩:=st;exact⟨o,e,λv z=>by rw [d] at z;cases z⟩
 keep:=λi h h' st k=>st.at λo e=>k it (by simp) o e
 item:=by
  intro X hP hw hK hc i pins s σ H E I hf st hg;subst hP hw hK;obtain⟨xs,x,hq,hx⟩:=hg;obtain⟨its,rv,p,hz⟩:=I.list hq;obtain⟨u,hu,ru⟩:=rv.get hx;obtain⟨f0,f1,f2,f3,f4,f5⟩:=hf it (by simp);refine wpAny_pyNext_list_item st p.isList (x:=u) (by simpa using hu) λh' st' sb=> ?_
  have I1:Inv X pins σ H {s with heap:=h'}:=I.turned (t':=s.toks) (λb o hb e=>(sb.2 b hb).trans e) f0 f1 f3 f4 f5;obtain⟨o,e,c,d⟩:=id st';exact⟨u,rfl,Pi (s:= {s with heap:=h'}) e c d (by decide) ⟨x,H,I1,ru,⟨rfl,λys hy=>by rw [I.list_inj hy hq];exact hx⟩,st',λb hb=>(hf b hb).1⟩⟩
 done:=by
  intro X hP hw hK hc i pins s σ H E I hf st hg;subst hP hw hK;obtain⟨xs,hq,hx⟩:=hg;obtain⟨its,rv,p,hz⟩:=I.list hq;obtain⟨f0,f1,f2,f3,f4,f5⟩:=hf it (by simp);have hl:=rv.length;exact wpAny_pyNext_list_end (I.ok.hd hc) st p.isList (by simp;omega) λh' eb=>⟨rfl,I.turned (t':=s.toks) (λb o hb e=>eb b o hb e) f0 f1 f3 f4 f5⟩
 self:=λ_ _ _ _ _ st h=>wpAny_pyIter_listiter st h
theorem Vy (a it:Addr):Turn P w K tg (Itt K a) [it] it (λi h=>h.IsTupleIter it a i) where
 mem:=by simp
 obj:=λi h st b hb=>by
  have e:b=it:=by simpa using hb
  subst e;obtain⟨o,e,c,d⟩:=st;exact⟨o,e,λv z=>by rw [d] at z;cases z⟩
 keep:=λi h h' st k=>st.at λo e=>k it (by simp) o e
 item:=by
  intro X hP hw hK hc i pins s σ H E I hf st hg;subst hP hw hK;obtain⟨xs,x,hq,hx⟩:=hg;obtain⟨its,rv,p,hz⟩:=I.tuple hq;obtain⟨u,hu,ru⟩:=rv.get hx;obtain⟨f0,f1,f2,f3,f4,f5⟩:=hf it (by simp);refine wpAny_pyNext_tuple_item st (show s.heap.IsTuple a its.toArray from p) (x:=u) (by simpa using hu) λh' st' sb=> ?_
  have I1:Inv X pins σ H {s with heap:=h'}:=I.turned (t':=s.toks) (λb o hb e=>(sb.2 b hb).trans e) f0 f1 f3 f4 f5;obtain⟨o,e,c,d⟩:=id st';exact⟨u,rfl,Pi (s:= {s with heap:=h'}) e c d (by decide) ⟨x,H,I1,ru,⟨rfl,λys hy=>by rw [I.tuple_inj hy hq];exact hx⟩,st',λb hb=>(hf b hb).1⟩⟩
 done:=by
  intro X hP hw hK hc i pins s σ H E I hf st hg;subst hP hw hK;obtain⟨xs,hq,hx⟩:=hg;obtain⟨its,rv,p,hz⟩:=I.tuple hq;obtain⟨f0,f1,f2,f3,f4,f5⟩:=hf it (by simp);have hl:=rv.length;exact wpAny_pyNext_tuple_end (I.ok.hd hc) st (show s.heap.IsTuple a its.toArray from p) (by simp;omega) λh' eb=>⟨rfl,I.turned (t':=s.toks) (λb o hb e=>eb b o hb e) f0 f1 f3 f4 f5⟩
 self:=λ_ _ _ _ _ st h=>wpAny_pyIter_tupleiter st h
theorem Vz (it:Addr)(lo:Int)(n:Nat):Turn P w K tg (Itr lo n) [it] it (λi h=>fZ h it (lo+(i:Nat)*1) ((n:Int)-(i:Nat)) 1) where
 mem:=by simp
 obj:=λi h st b hb=>by
  have e:b=it:=by simpa using hb
  subst e;exact⟨_,st,λv z=>by
   have z':Data.fields _=Data.cell v:=z;cases z'⟩
 keep:=λi h h' st k=>k it (by simp) _ st
 item:=by
  intro X hP hw hK hc i pins s σ H E I hf st hg;subst hP hw hK;obtain⟨f0,f1,f2,f3,f4,f5⟩:=hf it (by simp);have W:=Walks.range (prog:=X.prog) (w:=X.w) (I.ok.hd hc) it lo 1 n;refine W.item i s _ _ hg st λv h' tk hv st' kk=> ?_
  obtain⟨t,rfl⟩:=hv;have I1:Inv X pins σ H {s with heap:=h',toks:=tk}:=I.turned (λb o hb e=>kk b o (by simpa using hb) e) f0 f1 f3 f4 f5;refine⟨_,rfl,Pi (s:= {s with heap:=h',toks:=tk}) (n:= "range_iterator") st' rfl rfl (by decide) ⟨.int (lo+i),H,I1,⟨t,?_⟩,⟨rfl,rfl⟩,st',λb hb=>(hf b hb).1⟩⟩;rw [Int.mul_one]
 done:=by
  intro X hP hw hK hc i pins s σ H E I hf st hg;subst hP hw hK;obtain⟨f0,f1,f2,f3,f4,f5⟩:=hf it (by simp);exact wpAny_pyNext_range_end (I.ok.hd hc) st (by have:n<=i:=hg;omega) λh' eb=>⟨rfl,I.turned (t':=s.toks) (λb o hb e=>eb b o hb e) f0 f1 f3 f4 f5⟩
 self:=λ_ _ _ _ _ st h=>wpAny_pyIter_rangeiter st h
section
variable {X:Cx}{tg:Expr}
def RE (K:PySem.W.Frag)(tl:TE):TI:=λσ H R=>tl σ H λx H1=> ∃a,x= .ref a/\(∃xs,SqL K H1 a xs)/\R (Itl K a) H1
theorem Pj {l:Expr}{tl:TE}(hl:PE X l tl):PI X tg l (RE X.K tl):=by
 intro pins s σ H R I h;refine thn (hl pins s σ H _ I h) λv s1 ⟨x,H1,I1,r1,q1⟩=> ?_
 obtain⟨a,e,⟨xs,hq⟩,q⟩:=q1;subst e;cases r1;obtain⟨its,rv,p,hz⟩:=I1.list hq;refine J5 p.isList ?_;refine⟨s1.heap.objs.size,[s1.heap.objs.size],_,_,H1,rfl,I1.kept (t':=s1.toks) λb o e=>P1 _ e,Wb a _,⟨_,S4 _ rfl,rfl,rfl⟩,λb hb=> ?_,q⟩;have e:b=s1.heap.objs.size:=by simpa using hb
 subst e;exact I1.fpOk (G5 _) (I1.hok.fresh (G5 _))
variable {pins:List (Addr×Obj)}
theorem YW {σ:St}{H:Hp}{s:G2}{R:It->Hp->Prop}{E:G0->G2->Prop}{lo hi:Int}{t u v:Tok}{tk:Nat}(I:Inv X pins σ H s)(h1: -(2^62)<=lo)(h2:lo<2^62)(h3: -(2^62)<=hi)(h4:hi<2^62)
 (q:R (Itr lo (hi-lo).toNat) H):wpAny (model X.prog X.w) X.A (pyIter (.ref s.heap.objs.size)) (PIE X pins σ tg R) E {s with heap:=s.heap.push {cls:= .type "range",data:= .fields #[.int lo t,.int hi u,.int 1 v]},toks:=tk}:=by
 refine wpAny_pyIter_range (IsRange.new ..) (small_one h1 h2 h3 h4) ?_;have I1:Inv X pins σ H {s with heap:=s.heap.push {cls:= .type "range",data:= .fields #[.int lo t,.int hi u,.int 1 v]},toks:=tk}:=I.kept λb o e=>P1 _ e
 refine⟨(s.heap.push {cls:= .type "range",data:= .fields #[.int lo t,.int hi u,.int 1 v]}).objs.size,[(s.heap.push {cls:= .type "range",data:= .fields #[.int lo t,.int hi u,.int 1 v]}).objs.size],_,_,H,rfl,
  I1.kept (t':=tk) λb o e=>P1 _ e,Vz _ lo (hi-lo).toNat,?_,λb hb=> ?_,q⟩
 ·have e1:lo+((0:Nat):Int)*1=lo:=by simp
  have e2:(((hi-lo).toNat:Nat):Int)-((0:Nat):Int)=Builtin.Range.rangeSize lo hi 1:=by rw [rangeSize_one];split<;>omega
  show fZ _ _ (lo+((0:Nat):Int)*1) ((((hi-lo).toNat:Nat):Int)-((0:Nat):Int)) 1;rw [e1,e2];exact S4 _ rfl
 ·have e:b=(s.heap.push {cls:= .type "range",data:= .fields #[.int lo t,.int hi u,.int 1 v]}).objs.size:=by simpa using hb
  subst e;exact I1.fpOk (G5 _) (I1.hok.fresh (G5 _))
def RF (ta:TA):TI:=λσ H R=>ta σ H λvs H1=> ∃j:Int,vs= [.int j]/\ -(2^62)<=j/\j<2^62/\R (Itr 0 j.toNat) H1
def RG (ta:TA):TI:=λσ H R=>ta σ H λvs H1=> ∃i j:Int,vs= [.int i,.int j]/\(-(2^62)<=i/\i<2^62/\ -(2^62)<=j/\j<2^62)/\R (Itr i (j-i).toNat) H1
theorem Ui {a:Expr}{ta:TA}{p pos:Pos}(hg:Gl X "range")(hm:X.mg "range" =none)(ha:PA X [a] ta)(hs:starEach [a] X.env= [(false,eval a X.env)]:=by rfl):PI X tg (.Call (.Name "range" p) [a] [] pos) (RF ta):=by
 intro pins s σ H R I h;refine Call_ (JF I hg hm gD (O0 (thn (ha pos pins s σ H _ I h) λus s1 ⟨vs,H1,I1,r1,q1⟩=> ?_) hs rfl));obtain⟨j,e,q1,q2,q⟩:=q1;subst e;cases r1 with
 |cons r rr=>
  cases rr;obtain⟨t,rfl⟩:=r;exact call_range_1 (YW I1 (by omega) (by omega) q1 q2 (by simpa using q))
theorem Uj {a b:Expr}{ta:TA}{p pos:Pos}(hg:Gl X "range")(hm:X.mg "range" =none)(ha:PA X [a,b] ta)(hs:starEach [a,b] X.env= [(false,eval a X.env),(false,eval b X.env)]:=by rfl)(hs2:starEach [b] X.env= [(false,eval b X.env)]:=by rfl):
 PI X tg (.Call (.Name "range" p) [a,b] [] pos) (RG ta):=by
 intro pins s σ H R I h;refine Call_ (JF I hg hm gD (O0 (thn (ha pos pins s σ H _ I h) λus s1 ⟨vs,H1,I1,r1,q1⟩=> ?_) (by rw [hs,hs2]) (by rw [hs2];rfl)));obtain⟨i,j,e,⟨q1,q2,q3,q4⟩,q⟩:=q1;subst e;cases r1 with
 |cons r rr=>
  cases rr with
  |cons r' rr=>
   cases rr;obtain⟨t,rfl⟩:=r;obtain⟨t',rfl⟩:=r';exact call_range_2 (YW I1 q1 q2 q3 q4 q)
def CJ (wi:TI)(g:TG)(tb:TS):TS:=λD σ H=>wi σ H λJ H1=> ∃W:Nat->Nat->St->Hp->Prop,(∃m,W 0 m σ H1)/\ ∀i m σ H,W i m σ H->
 (J.stop i H/\D.nx σ H)\/(J.go i H/\ ∃N:St->Hp->Prop,(∀gO H',N gO H'-> ∃m',m'<m/\W (i+1) m' gO H')/\ ∀x H',J.yld i H x H'->g x σ H' λgQ H2=>tb {D with nx:=N,ct:=N,bk:=D.nx} gQ H2)
def wH (fp:List Addr)(h:Heap):List (Addr×Obj):=fp.filterMap λb=>(h.get? b).map λo=>(b,o)
theorem zl {fp:List Addr}{h:Heap}{b:Addr}{o:Obj}(hb:b∈fp)(e:h.get? b=some o):(b,o)∈wH fp h:=Q9.mpr ⟨b,hb,by rw [e];rfl⟩
theorem vI {fp:List Addr}{h:Heap}{p:Addr×Obj}(hp:p∈wH fp h):p.1∈fp/\h.get? p.1=some p.2:=by
 obtain⟨b,hb,e⟩:=Q9.mp hp;cases q:h.get? b with
 |none=>rw [q] at e;cases e
 |some o=>
  rw [q] at e;have e':(b,o)=p:=N3 e;subst e';exact⟨hb,q⟩
theorem Inv.pinned {σ:St}{H:Hp}{s:G2}{fp:List Addr}(I:Inv X pins σ H s)(hf: ∀b∈fp,Ua X pins H b)(ho: ∀b∈fp,∃o,s.heap.get? b=some o/\ ∀v,o.data≠ .cell v):Inv X (pins++wH fp s.heap) σ H s:=
 I.pins_of λp hp=>(D0.mp hp).elim (λz=>I.pin p (P5 _ z)) λz=>by
  obtain⟨hb,e⟩:=vI z;obtain⟨f0,f1,f2,_⟩:=hf p.1 hb;obtain⟨o,e',d⟩:=ho p.1 hb;rw [e] at e';cases e';exact⟨e,f0,f1,f2,d⟩
theorem Inv.unpinned {pl:List (Addr×Obj)}{σ:St}{H:Hp}{s:G2}(I:Inv X (pins++pl) σ H s):Inv X pins σ H s:=I.pins_of λp hp=>I.pin p (P5 _ (M1 _ hp))
theorem RH {iter:Expr}{body:List Stmt}{wi:TI}{g:TG}{tb:TS}{pos:Pos}(hp:bM (model X.prog X.w) X.A X.env X.xe)(hc:X.calm=true)(hi:PI X tg iter wi)(hg:PG X tg g)(hb:PSs X body tb)
 (hs: ∀x,foldedSetIterable iter X.env x=pure x:=by intro _;rfl):PS X (.For tg iter body [] pos) (CJ wi g tb):=by
 intro pins s σ H D I h;refine wpAny_For (thn (hi pins s σ H _ I h) λv s1 h1=>thn h1 λitv s2 h2=> ?_) hs;obtain⟨it,fp,tn,J,H2,e,I2,T,st2,f2,W,⟨m0,w0⟩,turn⟩:=h2;subst e
 -- what stays true of the iterator's objects through the loop
 have stat: ∀ {H':Hp},(∀b∈fp,H' b=none)-> ∀b∈fp,Ua X pins H' b:=λhn b hb=>⟨hn b hb,(f2 b hb).2⟩
 refine codeAny_forLoop_any (λn s'=> ∃i gO H',Inv X pins gO H' s'/\tn i s'.heap/\(∀b∈fp,H' b=none)/\W i n gO H') ?_ m0 ⟨0,σ,H2,I2,st2,λb hb=>(f2 b hb).1,w0⟩;rintro n s3 ⟨i,gT,H3,I3,st3,fr3,w3⟩;rcases turn i n gT H3 w3 with ⟨stop,qn⟩|⟨go,N,hN,step⟩
 ·refine A4 hp (thn (T.done X rfl rfl rfl hc i pins s3 gT H3 X.xe I3 (stat fr3) st3 stop) λr s4 ⟨hr,I4⟩=> ?_);subst hr;exact W8 ⟨gT,H3,I4,qn⟩
 ·refine A4 hp (thn (T.item X rfl rfl rfl hc i pins s3 gT H3 X.xe I3 (stat fr3) st3 go) λr s4 ⟨u,hr,h4⟩=> ?_);subst hr;refine A4 hp (thn h4 λ_ s5 ⟨x,H5,I5,r5,y5,st5,fr5⟩=> ?_);have I5':=I5.pinned (stat fr5) (T.obj _ _ st5);refine A4 hp (thn (hg _ s5 gT H5 x u _ I5' r5 (step x H5 y5)) λ_ s6 ⟨iF,H6,I6,q6⟩=> ?_);refine A4 hp (thn (hb _ s6 iF H6 _ I6 q6) λf s7 q7=> ?_);have again: ∀ {gV:St} {H7:Hp},Inv X (pins++wH fp s5.heap) gV H7 s7->N gV H7-> ∃m,m<n/\ ∃i gO H',Inv X pins gO H' s7/\tn i s7.heap/\(∀b∈fp,H' b=none)/\W i m gO H':=λ{gV H7} I7 n7=>by
   obtain⟨m',hm,w7⟩:=hN gV H7 n7;refine⟨m',hm,i+1,gV,H7,I7.unpinned,T.keep _ _ _ st5 λb hb o e=>(I7.pin (b,o) (P5 _ (P5 _ (zl hb e)))).1,λb hb=> ?_,w7⟩;obtain⟨o,e,d⟩:=T.obj _ _ st5 b hb;exact(I7.pin (b,o) (P5 _ (P5 _ (zl hb e)))).2.1
  cases f with
  |next=>obtain⟨gV,H7,I7,n7⟩:=q7;exact again I7 n7
  |cont=>obtain⟨gV,H7,I7,n7⟩:=q7;exact again I7 n7
  |brk=>obtain⟨gV,H7,I7,q7⟩:=q7;exact⟨gV,H7,I7.unpinned,q7⟩
  |ret v=>obtain⟨x7,gV,H7,I7,r7,q7⟩:=q7;exact⟨x7,gV,H7,I7.unpinned,r7,q7⟩
end
abbrev R2:=V->V->Hp->VK->Prop
def OpR (X:Cx)(f:G0->G0->Sem G0)(r:R2):Prop:=
 ∀ (pins:List (Addr×Obj)) (s:G2) (σ:St) (H:Hp) (x y:V) (v u:G0) (Q:VK),Inv X pins σ H s->RelV x v->RelV y u->r x y H Q->
  wpAny (model X.prog X.w) X.A (f v u) (EP X pins σ Q) X.xe s
def UnR (X:Cx)(f:G0->Sem G0)(r:V->Hp->VK->Prop):Prop:=
 ∀ (pins:List (Addr×Obj)) (s:G2) (σ:St) (H:Hp) (x:V) (v:G0) (Q:VK),Inv X pins σ H s->RelV x v->r x H Q->
  wpAny (model X.prog X.w) X.A (f v) (EP X pins σ Q) X.xe s
def CallR (X:Cx)(f:G0)(r:List V->Hp->VK->Prop):Prop:=
 ∀ (pins:List (Addr×Obj)) (s:G2) (σ:St) (H:Hp) (xs:List V) (us:List G0) (Q:VK),Inv X pins σ H s->Vals xs us->r xs H Q->
  wpAny (model X.prog X.w) X.A (call f us) (EP X pins σ Q) X.xe s
def tOp (r:R2)(ta tb:TE):TE:=λσ H Q=>ta σ H λx H1=>tb σ H1 λy H2=>r x y H2 Q
def tUn (r:V->Hp->VK->Prop)(ta:TE):TE:=λσ H Q=>ta σ H λx H1=>r x H1 Q
def rI (C:Int->Int->Prop)(g:Int->Int->V):R2:=λx y H Q=> ∃i j,x= .int i/\y= .int j/\C i j/\Q (g i j) H
def rI0 (g:Int->Int->V):R2:=λx y H Q=> ∃i j,x= .int i/\y= .int j/\Q (g i j) H
def rU (g:Int->V):V->Hp->VK->Prop:=λx H Q=> ∃i,x= .int i/\Q (g i) H
section
variable {X:Cx}{a b c:Expr}{ta tb tc:TE}{pos:Pos}
theorem Bh (ha:PE X a ta)(hb:PE X b tb){pins:List (Addr×Obj)}{s:G2}{σ:St}{H:Hp}{R:V->V->Hp->Prop}(I:Inv X pins σ H s)
 (h:ta σ H λx H1=>tb σ H1 λy H2=>R x y H2){Q:G0->G2->Prop}{f:G0->G0->Sem G0}
 (hf: ∀v u s2 x y H2,Inv X pins σ H2 s2->RelV x v->RelV y u->R x y H2->wpAny (model X.prog X.w) X.A (f v u) Q X.xe s2):
 wpAny (model X.prog X.w) X.A (eval a X.env) (λv gR=>wpAny (model X.prog X.w) X.A (eval b X.env) (λu g7=>wpAny (model X.prog X.w) X.A (f v u) Q X.xe g7) X.xe gR) X.xe s:=by
 refine thn (ha pins s σ H _ I h) λv s1 ⟨x,H1,I1,r1,q1⟩=> ?_
 refine thn (hb pins s1 σ H1 _ I1 q1) λu s2 ⟨y,H2,I2,r2,q2⟩=> ?_
 exact hf v u s2 x y H2 I2 r1 r2 q2
theorem Bi {op:f6}{r:R2}(ho:OpR X (binaryOp op) r)(ha:PE X a ta)(hb:PE X b tb):PE X (.BinOp a op b pos) (tOp r ta tb):=by
 intro pins s σ H Q I h;exact wpAny_BinOp (Bh ha hb I h λv u s2 x y H2 I2 rx ry q=>ho pins s2 σ H2 x y v u Q I2 rx ry q)
theorem Bj {op:UnaryOp}{r:V->Hp->VK->Prop}(ho:UnR X (unaryOp op) r)(ha:PE X a ta):PE X (.UnaryOp op a pos) (tUn r ta):=by
 intro pins s σ H Q I h;exact UnaryOp_ (thn (ha pins s σ H _ I h) λv s1 ⟨x,H1,I1,r1,q1⟩=>ho pins s1 σ H1 x v Q I1 r1 q1)
theorem opI {f:G0->G0->Sem G0}{C:Int->Int->Prop}{g:Int->Int->Int}
 (rule: ∀ (i j:Int) (t u:Tok) (s:G2) (Q:G0->G2->Prop) (E:G0->G2->Prop),C i j->Q (.int (g i j) s.toks) {s with toks:=s.toks+1}->wpAny (model X.prog X.w) X.A (f (.int i t) (.int j u)) Q E s):
 OpR X f (rI C λi j=> .int (g i j)):=by
 intro pins s σ H x y v u Q I rx ry h;obtain⟨i,j,rfl,rfl,hc,q⟩:=h;obtain⟨t,rfl⟩:=rx;obtain⟨t',rfl⟩:=ry;exact rule i j t t' s _ _ hc ⟨.int (g i j),H,I.tok _,⟨_,rfl⟩,q⟩
theorem CK {f:G0->G0->Sem G0}{g:Int->Int->Int}
 (rule: ∀ (i j:Int) (t u:Tok) (s:G2) (Q:G0->G2->Prop) (E:G0->G2->Prop),Q (.int (g i j) s.toks) {s with toks:=s.toks+1}->wpAny (model X.prog X.w) X.A (f (.int i t) (.int j u)) Q E s):
 OpR X f (rI0 λi j=> .int (g i j)):=by
 intro pins s σ H x y v u Q I rx ry h;obtain⟨i,j,rfl,rfl,q⟩:=h;obtain⟨t,rfl⟩:=rx;obtain⟨t',rfl⟩:=ry;exact rule i j t t' s _ _ ⟨.int (g i j),H,I.tok _,⟨_,rfl⟩,q⟩
theorem NQ {f:G0->G0->Sem G0}{g:Int->Int->Bool}
 (rule: ∀ (i j:Int) (t u:Tok) (s:G2) (Q:G0->G2->Prop) (E:G0->G2->Prop),Q (.bool (g i j)) s->wpAny (model X.prog X.w) X.A (f (.int i t) (.int j u)) Q E s):
 OpR X f (rI0 λi j=> .bl (g i j)):=by
 intro pins s σ H x y v u Q I rx ry h;obtain⟨i,j,rfl,rfl,q⟩:=h;obtain⟨t,rfl⟩:=rx;obtain⟨t',rfl⟩:=ry;exact rule i j t t' s _ _ ⟨.bl (g i j),H,I,rfl,q⟩
def CL (i j:Int):Prop:=0<j/\j<1073741824
def CM (i j:Int):Prop:=0<=j/\j<=1000000/\i.natAbs<2^64
def CMul (i j:Int):Prop:=(-(2^64)<i/\i<2^64)\/(-(2^64)<j/\j<2^64)
theorem CMul.ok {i j:Int}(h:CMul i j):IntMulOk i j:=by
 rcases h with ⟨h1,h2⟩|⟨h1,h2⟩
 ·exact .of_left (fI h1 h2)
 ·exact .of_right (fI h1 h2)
theorem op_add:OpR X (binaryOp .Add) (rI0 λi j=> .int (i+j)):=CK λ_ _ _ _ _ _ _ q=>add_int q
theorem RI:OpR X (binaryOp .Sub) (rI0 λi j=> .int (i-j)):=CK λ_ _ _ _ _ _ _ q=>sub_int q
theorem op_mul:OpR X (binaryOp .Mult) (rI CMul λi j=> .int (i*j)):=opI λ_ _ _ _ _ _ _ hc q=>mul_int q hc.ok
theorem Pk:OpR X (binaryOp .FloorDiv) (rI CL λi j=> .int (i / j)):=opI λi j _ _ _ _ _ hc q=>by
 have h1:(0:Int)<j:=hc.1;have h2:j<1073741824:=hc.2;exact floordiv_int (by omega) (by rw [X8 i (by omega)];exact q) (.inl (PyProof.noPylong_small (by omega)))
theorem RJ:OpR X (binaryOp .Mod) (rI (λ_ j=>0<j) λi j=> .int (i%j)):=opI λi j _ _ _ _ _ hc q=>by
 have h1:(0:Int)<j:=hc;exact mod_int' (by omega) (by rw [X9 i (by omega)];exact q)
theorem RK:OpR X (binaryOp .Pow) (rI CM λi j=> .int (i^j.toNat)):=opI λ_ _ _ _ _ _ _ hc q=>pow_int_small hc.1 hc.2.1 hc.2.2 q
theorem unI {f:G0->Sem G0}{g:Int->Int}
 (rule: ∀ (i:Int) (t:Tok) (s:G2) (Q:G0->G2->Prop) (E:G0->G2->Prop),Q (.int (g i) s.toks) {s with toks:=s.toks+1}->wpAny (model X.prog X.w) X.A (f (.int i t)) Q E s):
 UnR X f (rU λi=> .int (g i)):=by
 intro pins s σ H x v Q I rx h;obtain⟨i,rfl,q⟩:=h;obtain⟨t,rfl⟩:=rx;exact rule i t s _ _ ⟨.int (g i),H,I.tok _,⟨_,rfl⟩,q⟩
theorem RL:UnR X (unaryOp .USub) (rU λi=> .int (-i)):=unI λ_ _ _ _ _ q=>neg_int q
end
def CN:V->V->Bool
 | .non,.non=>true| .non,.int _=>true| .int _,.non=>true| .non,.bl _=>true| .bl _,.non=>true| .non,.str _=>true| .str _,.non=>true
 | .int _,.int _=>true| .bl _,.bl _=>true| .str _,.str _=>true| .byt _,.byt _=>true
 | .int _,.str _=>true| .str _,.int _=>true| .bl _,.str _=>true| .str _,.bl _=>true
 |_,_=>false
def rEq:R2:=λx y H Q=>CN x y=true/\Q (.bl (decide (x=y))) H
def rNe:R2:=λx y H Q=>CN x y=true/\Q (.bl (!decide (x=y))) H
theorem Uk {i j:Int}:decide (V.int i=V.int j)=(i==j):=by
 rw [B0];simp
theorem GA {i j:Bool}:decide (V.bl i=V.bl j)=(i==j):=by
 rw [B0];simp
theorem Ul {i j:Str}:decide (V.str i=V.str j)=(i==j):=by
 rw [B0];simp
theorem Um {i j:Array UInt8}:decide (V.byt i=V.byt j)=(i.toList==j.toList):=by
 rw [B0];cases i;cases j;simp
section
variable {X:Cx}{a b c:Expr}{ta tb tc:TE}{pos:Pos}
theorem jn {pins:List (Addr×Obj)}{σ:St}{H:Hp}{s:G2}{Q:VK}{k k':Bool}(I:Inv X pins σ H s)(q:Q (.bl k) H)(e:k=k'):EP X pins σ Q (.bool k') s:=by
 subst e;exact⟨.bl k,H,I,rfl,q⟩
theorem op_eq:OpR X (compareOp .Eq) rEq:=by
 intro pins s σ H x y v u Q I rx ry h;obtain⟨hs,q⟩:=h;cases x with
 |non=>
  cases rx;cases y with
  |non=>cases ry;exact PySem.EqNone.eq_none_none (jn I q (by simp))
  |bl j=>cases ry;exact PySem.EqNone.eq_none_bool (jn I q (by simp))
  |int j=>obtain⟨t',rfl⟩:=ry;exact PySem.EqNone.eq_none_int (jn I q (by simp))
  |str j=>obtain⟨t',rfl⟩:=ry;exact PySem.EqNone.eq_none_str (jn I q (by simp))
  |_=>exact absurd (show false=true from hs) P3
 |bl i=>
  cases rx;cases y with
  |non=>cases ry;exact PySem.EqNone.eq_bool_none (jn I q (by simp))
  |bl j=>cases ry;exact eq_bool (jn I q GA)
  |str j=>obtain⟨t',rfl⟩:=ry;exact PySem.EqMixed.eq_bool_str (jn I q (by simp))
  |_=>exact absurd (show false=true from hs) P3
 |int i=>
  obtain⟨t,rfl⟩:=rx;cases y with
  |non=>cases ry;exact PySem.EqNone.eq_int_none (jn I q (by simp))
  |int j=>obtain⟨t',rfl⟩:=ry;exact eq_int (jn I q Uk)
  |str j=>obtain⟨t',rfl⟩:=ry;exact PySem.EqMixed.eq_int_str (jn I q (by simp))
  |_=>exact absurd (show false=true from hs) P3
 |str i=>
  obtain⟨t,rfl⟩:=rx;cases y with
  |non=>cases ry;exact PySem.EqNone.eq_str_none (jn I q (by simp))
  |bl j=>cases ry;exact PySem.EqMixed.eq_str_bool (jn I q (by simp))
  |int j=>obtain⟨t',rfl⟩:=ry;exact PySem.EqMixed.eq_str_int (jn I q (by simp))
  |str j=>obtain⟨t',rfl⟩:=ry;exact eq_str (jn I q Ul)
  |_=>exact absurd (show false=true from hs) P3
 |byt i=>
  obtain⟨t,rfl⟩:=rx;cases y with
  |byt j=>obtain⟨t',rfl⟩:=ry;exact PySem.W.eq_bytes (jn I q Um)
  |_=>exact absurd (show false=true from hs) P3
 |_=>cases y<;>exact absurd (show false=true from hs) P3
theorem op_ne:OpR X (compareOp .NotEq) rNe:=by
 intro pins s σ H x y v u Q I rx ry h;obtain⟨hs,q⟩:=h;cases x with
 |non=>
  cases rx;cases y with
  |non=>cases ry;exact PySem.EqNone.ne_none_none (jn I q (by simp))
  |bl j=>cases ry;exact PySem.EqNone.ne_none_bool (jn I q (by simp))
  |int j=>obtain⟨t',rfl⟩:=ry;exact PySem.EqNone.ne_none_int (jn I q (by simp))
  |str j=>obtain⟨t',rfl⟩:=ry;exact PySem.EqNone.ne_none_str (jn I q (by simp))
  |_=>exact absurd (show false=true from hs) P3
 |bl i=>
  cases rx;cases y with
  |non=>cases ry;exact PySem.EqNone.ne_bool_none (jn I q (by simp))
  |bl j=>cases ry;exact ne_bool (jn I q (congrArg not GA))
  |str j=>obtain⟨t',rfl⟩:=ry;exact PySem.EqMixed.ne_bool_str (jn I q (by simp))
  |_=>exact absurd (show false=true from hs) P3
 |int i=>
  obtain⟨t,rfl⟩:=rx;cases y with
  |non=>cases ry;exact PySem.EqNone.ne_int_none (jn I q (by simp))
  |int j=>obtain⟨t',rfl⟩:=ry;exact ne_int (jn I q (congrArg not Uk))
  |str j=>obtain⟨t',rfl⟩:=ry;exact PySem.EqMixed.ne_int_str (jn I q (by simp))
  |_=>exact absurd (show false=true from hs) P3
 |str i=>
  obtain⟨t,rfl⟩:=rx;cases y with
  |non=>cases ry;exact PySem.EqNone.ne_str_none (jn I q (by simp))
  |bl j=>cases ry;exact PySem.EqMixed.ne_str_bool (jn I q (by simp))
  |int j=>obtain⟨t',rfl⟩:=ry;exact PySem.EqMixed.ne_str_int (jn I q (by simp))
  |str j=>obtain⟨t',rfl⟩:=ry;exact ne_str (jn I q (congrArg not Ul))
  |_=>exact absurd (show false=true from hs) P3
 |byt i=>
  obtain⟨t,rfl⟩:=rx;cases y with
  |byt j=>obtain⟨t',rfl⟩:=ry;exact PySem.W.ne_bytes (jn I q (congrArg not Um))
  |_=>exact absurd (show false=true from hs) P3
 |_=>cases y<;>exact absurd (show false=true from hs) P3
theorem Bk:OpR X (compareOp .Lt) (rI0 λi j=> .bl (decide (i<j))):=NQ λ_ _ _ _ _ _ _ q=>lt_int q
theorem Bl:OpR X (compareOp .LtE) (rI0 λi j=> .bl (decide (i<=j))):=NQ λ_ _ _ _ _ _ _ q=>le_int q
theorem Bn:OpR X (compareOp .Gt) (rI0 λi j=> .bl (decide (j<i))):=NQ λ_ _ _ _ _ _ _ q=>gt_int q
theorem Bo:OpR X (compareOp .GtE) (rI0 λi j=> .bl (decide (j<=i))):=NQ λ_ _ _ _ _ _ _ q=>ge_int q
theorem RM:OpR X (compareOp .Is) (λx y H Q=>y= .non/\Q (.bl (decide (x= .non))) H):=by
 intro pins s σ H x y v u Q I rx ry h;obtain⟨rfl,q⟩:=h;cases ry;refine is_none_gen (jn I q ?_);cases x<;>first
  |(cases rx;rfl)
  |(obtain⟨t,rfl⟩:=rx;rfl)
variable {r:R2}
theorem OpR.or {f:G0->G0->Sem G0}{r':R2}(h:OpR X f r)(h':OpR X f r'):OpR X f (λx y H Q=>r x y H Q\/r' x y H Q):=by
 intro pins s σ H x y v u Q I rx ry q;rcases q with q|q
 ·exact h pins s σ H x y v u Q I rx ry q
 ·exact h' pins s σ H x y v u Q I rx ry q
theorem GB (b:Expr){op:aC}(h:op≠ .In:=by decide)(h2:op≠ .NotIn:=by decide):behindInMarks op b=false:=by
 have e1:(op==CmpOp.In)=false:=by cases op<;>first|rfl|exact absurd rfl h
 have e2:(op==CmpOp.NotIn)=false:=by cases op<;>first|rfl|exact absurd rfl h2
 cases b<;>simp [behindInMarks,e1,e2]
theorem Pl {op:aC}(ho:OpR X (compareOp op) r)(ha:PE X a ta)(hb:PE X b tb)(hm:behindInMarks op b=false):PE X (.Compare a [op] [b] pos) (tOp r ta tb):=by
 intro pins s σ H Q I h;exact wpAny_Compare1 (Bh ha hb I h λv u s2 x y H2 I2 rx ry q=>ho pins s2 σ H2 x y v u Q I2 rx ry q) hm
def Pm (t:TE):TT:=λσ H Q=>t σ H λx H'=> ∃k,x= .bl k/\Q k H'
theorem Po {op:aC}(ho:OpR X (compareOp op) r)(ha:PE X a ta)(hb:PE X b tb)(hm:behindInMarks op b=false):PT X (.Compare a [op] [b] pos) (Pm (tOp r ta tb)):=by
 intro pins s σ H Q I h;refine wpAny_isTrue_Compare1 (thn (ha pins s σ H _ I h) λv s1 ⟨x,H1,I1,r1,q1⟩=>thn (hb pins s1 σ H1 _ I1 q1) λu s2 ⟨y,H2,I2,r2,q2⟩=>
  thn (ho pins s2 σ H2 x y v u _ I2 r1 r2 q2) λc s3 ⟨z,H3,I3,r3,k,e,q3⟩=> ?_) hm
 subst e;cases r3;exact N8 ⟨H3,I3,q3⟩
def Uo (r r':R2)(ta tb tc:TE):TE:=λσ H Q=>ta σ H λx H1=>tb σ H1 λy H2=>r x y H2 λz H3=> ∃k,z= .bl k/\
 (if k=true then tc σ H3 λw' H4=>r' y w' H4 Q else Q (.bl false) H3)
theorem Qe {op op':aC}{r':R2}(ho:OpR X (compareOp op) r)(ho':OpR X (compareOp op') r')(ha:PE X a ta)(hb:PE X b tb)(hc:PE X c tc)
 (hm:lastMarks [op,op'] [b,c]=false:=by with_unfolding_all rfl):PE X (.Compare a [op,op'] [b,c] pos) (Uo r r' ta tb tc):=by
 intro pins s σ H Q I h;refine Compare_chain (thn (ha pins s σ H _ I h) λv s1 ⟨x,H1,I1,r1,q1⟩=>chain_link (thn (hb pins s1 σ H1 _ I1 q1) λu s2 ⟨y,H2,I2,r2,q2⟩=>
  thn (ho pins s2 σ H2 x y v u _ I2 r1 r2 q2) λd s3 ⟨z,H3,I3,r3,k,e,q3⟩=> ?_)) hm
 subst e;cases r3;refine N8 ?_;cases k with
 |false=>exact ite_ff ⟨.bl false,H3,I3,rfl,q3⟩
 |true=>exact ite_tt (chain_last (thn (hc pins s3 σ H3 _ I3 q3) λw' s4 ⟨z',H4,I4,r4,q4⟩=>ho' pins s4 σ H4 y z' u w' Q I4 r2 r4 q4))
theorem Qf {op op':aC}{r':R2}(ho:OpR X (compareOp op) r)(ho':OpR X (compareOp op') r')(ha:PE X a ta)(hb:PE X b tb)(hc:PE X c tc)
 (hm:lastMarks [op,op'] [b,c]=false:=by with_unfolding_all rfl):PT X (.Compare a [op,op'] [b,c] pos) (Pm (Uo r r' ta tb tc)):=by
 intro pins s σ H Q I h;refine isTrue_chain (thn (ha pins s σ H _ I h) λv s1 ⟨x,H1,I1,r1,q1⟩=>test_link (thn (hb pins s1 σ H1 _ I1 q1) λu s2 ⟨y,H2,I2,r2,q2⟩=>
  thn (ho pins s2 σ H2 x y v u _ I2 r1 r2 q2) λd s3 ⟨z,H3,I3,r3,k,e,q3⟩=> ?_)) hm
 subst e;cases r3;refine N8 ?_;cases k with
 |false=>
  obtain⟨k',e',q'⟩:=q3;cases e';exact ite_ff ⟨H3,I3,q'⟩
 |true=>
  refine ite_tt (test_last (thn (hc pins s3 σ H3 _ I3 q3) λw' s4 ⟨z',H4,I4,r4,q4⟩=>thn (ho' pins s4 σ H4 y z' u w' _ I4 r2 r4 q4) λd' s5 ⟨z2,H5,I5,r5,k2,e2,q5⟩=> ?_));subst e2;cases r5;exact N8 ⟨H5,I5,q5⟩
theorem Wc:(sizeLine:Nat)<2^63:=by rw [f7];decide
theorem vJ {x:V}{us:List G0}(r:Vals [x] us): ∃u,us= [u]/\RelV x u:=by
 cases r with
 |cons r1 r2=>cases r2;exact⟨_,rfl,r1⟩
theorem Pp {x y:V}{us:List G0}(r:Vals [x,y] us): ∃u w',us= [u,w']/\RelV x u/\RelV y w':=by
 cases r with
 |cons r1 r2=>
  cases r2 with
  |cons r3 r4=>cases r4;exact⟨_,_,rfl,r1,r3⟩
theorem Up (hc:X.calm=true):CallR X (.builtin "max") (λxs H Q=> ∃i j,xs= [.int i,.int j]/\Q (.int (if j>i then j else i)) H):=by
 intro pins s σ H xs us Q I r h;obtain⟨i,j,rfl,q⟩:=h;obtain⟨u,w',rfl,⟨t,rfl⟩,⟨t',rfl⟩⟩:=Pp r;refine max_two_ints (I.ok.hd hc) λh' tk k=>⟨_,H,I.kept k,?_,q⟩
 by_cases hj:j>i
 ·rw [if_pos hj,if_pos hj];exact⟨_,rfl⟩
 ·rw [if_neg hj,if_neg hj];exact⟨_,rfl⟩
theorem call_int1:CallR X (.type "int") (λxs H Q=>(∃i,xs= [.int i]/\Q (.int i) H)\/ ∃k,xs= [.bl k]/\Q (.int (if k then 1 else 0)) H):=by
 intro pins s σ H xs us Q I r h;rcases h with ⟨i,rfl,q⟩|⟨k,rfl,q⟩
 ·obtain⟨u,rfl,t,rfl⟩:=vJ r;exact call_int_int ⟨.int i,H,I,⟨_,rfl⟩,q⟩
 ·obtain⟨u,rfl,r1⟩:=vJ r;cases r1;exact call_int_bool ⟨.int (if k then 1 else 0),H,I.tok _,⟨_,rfl⟩,q⟩
end
structure ObjM (h:Heap)(x dx C:Addr)(mA:Str->Option G0):Prop where
 obj:h.get? x=some (PySem.W.instObj C dx)
 ns:h.Ns1 dx mA
 ne:dx≠x
theorem Uq {dx:Addr}{mA:Str->Option G0}(n:h.Ns1 dx mA): ∃od,h.get? dx=some od/\ ∀name,PySem.W.lookIn name od=some (mA name):=by
 obtain⟨o,es,ep,ho,hd,hk,_,hm⟩:=n;refine⟨o,ho,λname=> ?_⟩;have e:=hm name;unfold nsFind findBy at e;rw [<-Array.find?_toList] at e;unfold PySem.W.lookIn;rw [hd];dsimp only;split
 ·rename_i y q;rw [q] at e;exact congrArg some e
 ·rename_i q;rw [q] at e;have a:es.toList.any (·.refKey)=false:=by
   rw [List.any_eq_false];intro y hy;obtain⟨z,t,hkey⟩:=hk y (Array.mem_toList_iff.mp hy);simp [DictEntry.refKey,hkey]
  have a': ¬es.toList.any (·.refKey)=true:=by rw [a];exact P3
  rw [if_neg a'];exact congrArg some e
theorem ObjM.look {x dx C:Addr}{mA:Str->Option G0}(I:ObjM h x dx C mA): ∃od,PySem.W.InstAt h x (PySem.W.instObj C dx) C (some od)/\ ∀name,PySem.W.lookIn name od=some (mA name):=
 let ⟨od,ho,hl⟩:=Uq I.ns
 ⟨od,⟨I.obj,rfl,rfl,ho⟩,hl⟩
section
variable {P:R5}{w:T4}{H H':Hp}{h h':Heap}{a C dx:Addr}{fs fs':List (Str×V)}
theorem Pq (hok:HOk P w H h)(e:H a=some (.ins C dx fs)): ∃mA,ObjM h a dx C mA/\(∀f,RelO (fs.lookup f) (mA f))/\PySem.Within mA (fs.map (·.1))/\fs.length<=1000/\H dx=some (.own a):=by
 obtain⟨d,z,ne,ob,mA,n,r,q⟩:=(show ObjOk P w H h a (.ins C dx fs) from hok a _ e);exact⟨mA,⟨ob,n,ne⟩,r,q,z,d⟩
end
structure Cls (K:PySem.W.Frag)(C:Addr):Prop where
 pg:PySem.W.plainGet K C Str.empty=true
 hd:PySem.W.hasDictIn K C=true
 po:PySem.W.plainOver K C=true
 sa:PySem.W.findIn K (.ref C) "__setattr__" =some (some (.builtin "object.__setattr__"))
theorem Cls.get {C:Addr}(c:Cls K C)(f:Str):PySem.W.plainGet K C f=true:=c.pg
section
variable {X:Cx}{pins:List (Addr×Obj)}{σ:St}{H:Hp}{s:G2}{A:T9}{E:G0->G2->Prop}{Q:G0->G2->Prop}{c:G0}{b:Bool}
inductive TyOf (K:PySem.W.Frag)(H:Hp):V->G0->Prop where
 |non:TyOf K H .non (.type "NoneType")
 |bl (x:Bool):TyOf K H (.bl x) (.type "bool")
 |int (i:Int):TyOf K H (.int i) (.type "int")
 |str (x:Str):TyOf K H (.str x) (.type "str")
 |flt (x:UInt64):TyOf K H (.flt x) (.type "float")
 |lst {a:Addr} {xs:List V} (e:H a=some (.lst xs)):TyOf K H (.ref a) (.type "list")
 |frz {a:Addr} {o:Obj} {xs:List V} (e:H a=some (.frz o (.lst xs))):TyOf K H (.ref a) (.type "list")
 |tup {a:Addr} {xs:List V} (e:H a=some (.tup xs)):TyOf K H (.ref a) (.type "tuple")
 |dK {a:Addr} {kvs:List (Key×V)} (e:H a=some (.dK kvs)):TyOf K H (.ref a) (.type "dict")
 |dT {a:Addr} {kvs:List (List Key×V)} (e:H a=some (.dT kvs)):TyOf K H (.ref a) (.type "dict")
 |ins {a C dx:Addr} {fs:List (Str×V)} (e:H a=some (.ins C dx fs)) (cl:Cls K C) (ha:PySem.W.findIn K (.ref C) "__class__" =some (some (.builtin "object.__class__")))
  (hn:PySem.W.specialIn K (.builtin "object.__class__") "__get__" =some (some (.builtin "getset_descriptor.__get__"))) (htk:PySem.W.takesIn K (.builtin "object.__class__")=some true)
  (hm:PySem.W.mroIn K C (.type "object")=some true):TyOf K H (.ref a) (.ref C)
theorem Ur {x:V}{u t:G0}(I:Inv X pins σ H s)(rx:RelV x u)(ty:TyOf X.K H x t)(e:PySem.W.kitOne X.K t c=some b)(h: ∀tk,Q (.bool b) {s with toks:=tk}):
 wpAny (model X.prog X.w) A (call (.builtin "isinstance") [u,c]) Q E s:=by
 cases ty with
 |non=>cases (show u=dZ from rx);exact PySem.W.kia_one PySem.W.kitx_none I.kIn E9 e (λz=>nomatch z) h
 |bl y=>cases (show u=X6 y from rx);exact PySem.W.kia_one PySem.W.kitx_bool I.kIn E9 e (λz=>nomatch z) h
 |int i=>obtain⟨t,q⟩:=(show ∃t,u=K6 i t from rx);cases q;exact PySem.W.kia_one PySem.W.kitx_int I.kIn E9 e (λz=>nomatch z) h
 |str y=>obtain⟨t,q⟩:=(show ∃t,u=aH y t from rx);cases q;exact PySem.W.kia_one PySem.W.kitx_str I.kIn E9 e (λz=>nomatch z) h
 |flt y=>obtain⟨t,q⟩:=(show ∃t,u=fY y t from rx);cases q;exact PySem.W.kia_one PySem.W.kitx_float I.kIn E9 e (λz=>nomatch z) h
 | @lst a xs ea=>
  cases (show u=N5 a from rx);obtain⟨_,_,n,_,h1⟩:=(show ObjOk X.prog X.w H s.heap a (.lst xs) from I.hok a _ ea);exact PySem.W.kia_one PySem.W.kitx_list I.kIn ⟨_,h1,rfl⟩ e (λz=>nomatch z) h
 | @frz a ob xs ea=>
  cases (show u=N5 a from rx);obtain⟨_,_,_,n,_,h1⟩:=(show ObjOk X.prog X.w H s.heap a (.frz ob (.lst xs)) from I.hok a _ ea);exact PySem.W.kia_one PySem.W.kitx_list I.kIn ⟨_,h1,rfl⟩ e (λz=>nomatch z) h
 | @tup a xs ea=>
  cases (show u=N5 a from rx);obtain⟨_,_,_,p⟩:=(show ObjOk X.prog X.w H s.heap a (.tup xs) from I.hok a _ ea);obtain⟨o,h1,h2,_⟩:=p;exact PySem.W.kia_one PySem.W.kitx_tuple I.kIn ⟨o,h1,h2⟩ e (λz=>nomatch z) h
 | @dK a kvs ea=>
  cases (show u=N5 a from rx);obtain⟨_,_,vs,_,p⟩:=(show ObjOk X.prog X.w H s.heap a (.dK kvs) from I.hok a _ ea);obtain⟨o,es,ep,h1,h2,_⟩:=p;exact PySem.W.kia_one PySem.W.kitx_dict I.kIn ⟨o,h1,h2.1⟩ e (λz=>nomatch z) h
 | @dT a kvs ea=>
  cases (show u=N5 a from rx);obtain⟨_,_,xs,_,o,es,ep,h1,h2,_⟩:=(show ObjOk X.prog X.w H s.heap a (.dT kvs) from I.hok a _ ea);exact PySem.W.kia_one PySem.W.kitx_dict I.kIn ⟨o,h1,h2.1⟩ e (λz=>nomatch z) h
 | @ins a C dx fs ea cl ha hn htk hm=>
  cases (show u=N5 a from rx);obtain⟨mA,O,_⟩:=Pq I.hok ea;obtain⟨od,J,_⟩:=O.look;exact PySem.W.kia_one (PySem.W.kitx_own (cl.get _) cl.hd ha hn htk hm) I.kIn J e (λz=>nomatch z) h
end
structure Room (k:Nat)(A:T9):Prop where
 hd:A.handled=none
 dp:A.depth+3*k+5<recursionLimit
 un:A.units+16*k+200<cLine
 gd:A.guards=some []
variable {k:Nat}
theorem Room.deeper (r:Room (k+1) A)(env:Env):Room k (A.deeper env):=
 ⟨r.hd,by have:=r.dp;show A.depth+1+3*k+5<_;omega,by have:=r.un;show A.units+3+16*k+200<_;omega,r.gd⟩
theorem Room.depth (r:Room k A):A.depth<recursionLimit:=by have:=r.dp;omega
theorem Room.units (r:Room k A):A.units+64<cLine:=by have:=r.un;omega
def CO:TA:=λ_ H Q=>Q [] H
def RN (ta:TE)(tr:TA):TA:=λσ H Q=>ta σ H λx H1=>tr σ H1 λxs H2=>Q (x::xs) H2
section
variable {X:Cx}{e:Expr}{es:List Expr}{te:TE}{t:TA}{pos:Pos}
theorem pa_nil:PA X [] CO:=λ_ _ _ _ H Q I h=>cB ⟨[],H,I,.nil,h⟩
theorem wQ (ha:PE X e te)(hr:PA X es t)(hs:starEach (e::es) X.env=(false,eval e X.env)::starEach es X.env:=by rfl):PA X (e::es) (RN te t):=by
 intro pos pins s σ H Q I h;rw [hs];show wpAny _ _ (spliced ((false,eval e X.env)::backTo pos (starEach es X.env))) _ _ s;refine Y0 (thn (ha pins s σ H _ I h) λu s1 ⟨x,H1,I1,r1,q1⟩=> ?_);exact thn (hr pos pins s1 σ H1 _ I1 q1) λus s2 ⟨xs,H2,I2,r2,q2⟩=>⟨x::xs,H2,I2,.cons r1 r2,q2⟩
def CP (t:TA):TE:=λσ H Q=>t σ H λxs H1=>xs.length<=sizeLine/\ ∀p,H1 p=none->Q (.ref p) (upd H1 p (.tup xs))
def CQ (t:TA):TE:=λσ H Q=>t σ H λxs H1=>xs.length<=sizeLine/\ ∀p,H1 p=none->Q (.ref p) (upd H1 p (.lst xs))
theorem RO {x1}(h:PA X es t):PE X (.Tuple es x1 pos) (CP t):=by
 intro pins s σ H Q I hq;refine wpAny_Tuple_spliced (thn (h pos pins s σ H _ I hq) λus s1 ⟨xs,H1,I1,r,z,q⟩=>⟨by rw [<-r.length];exact z,?_⟩);have hf:H1 s1.heap.objs.size=none:=I1.hok.fresh (G5 _);refine⟨.ref s1.heap.objs.size,upd H1 s1.heap.objs.size (.tup xs),I1.laid (t':=s1.toks) (λb u e=>P1 _ e) (G5 _) ?_,rfl,q _ hf⟩;exact⟨z,us,r,IsTupN.new _ _⟩
theorem RQ (h:PA X es t):PE X (.List es pos) (CQ t):=by
 intro pins s σ H Q I hq;refine wpAny_List_spliced (thn (h pos pins s σ H _ I hq) λus s1 ⟨xs,H1,I1,r,z,q⟩=>⟨by rw [<-r.length];exact z,?_⟩);have hf:H1 s1.heap.objs.size=none:=I1.hok.fresh (G5 _);refine⟨.ref s1.heap.objs.size,upd H1 s1.heap.objs.size (.lst xs),I1.laid (t':=s1.toks) (λb u e=>P1 _ e) (G5 _) ?_,rfl,q _ hf⟩;exact⟨z,us,0,r,S4 _ rfl⟩
end
abbrev Sp:=List V->Hp->VK->XK->Prop
abbrev CXT:=List Env->Hp->G2->XK->G0->G2->Prop
structure Env0 (P:R5)(w:T4)(K:PySem.W.Frag)(mg:Str->Option G0)(base:Heap)(A:T9)(outer:List Env)(s:G2)(H:Hp):Prop where
 frames:A.frames=some outer
 mod:Mod K mg base
 bs: ∀b o,base.get? b=some o->s.heap.get? b=some o/\H b=none
 bsz:base.objs.size<=s.heap.objs.size
 funs:s.heap.FunFrames base outer
 frf: ∀b∈frs outer,H b=none
 hok:HOk P w H s.heap
 bare:aB s.gens
def CE (outer:List Env)(P:R5)(w:T4)(H:Hp)(s:G2)(Q:VK)(u:G0)(s':G2):Prop:=
 ∃v H',s'.os=s.os/\aB s'.gens/\Un (frs outer) [] H H' s.heap s'.heap/\HOk P w H' s'.heap/\RelV v u/\Q v H'
def CR (CX:CXT)(outer:List Env)(P:R5)(w:T4)(H:Hp)(s:G2)(Q:VK)(E:XK)(r:gK)(s':G2):Prop:=
 match r with
 | .ok (.ret u)=>CE outer P w H s Q u s'
 | .ok _=>False
 | .error e=>CX outer H s E e s'
structure FnOk (P:R5)(w:T4)(K:PySem.W.Frag)(mg:Str->Option G0)(base:Heap)(CX:CXT)(k:Nat)(f:Addr)(fd:S7)(ps:List Str)(sp:Sp):Prop where
 len: ∀vs H Q E,sp vs H Q E->vs.length=ps.length
 run: ∀ (A:T9) (outer:List Env) (s:G2) (H:Hp) (args:Args) (us:List G0) (vs:List V) (Q:VK) (E:XK),Room k A->Env0 P w K mg base A outer s H->dY s fd args (ps.zip us)->Vals vs us->sp vs H Q E->
  codeAny (model P w) A (.call (.ref f) args) (CR CX outer P w H s Q E) s
section
variable {X:Cx}{pins:List (Addr×Obj)}{σ:St}{H:Hp}{s s':G2}
theorem Inv.env0 (I:Inv X pins σ H s):Env0 X.prog X.w X.K X.mg X.base X.A X.stack s H:=
 ⟨I.ok.frames,I.ok.mod,I.bs,D9 I.ok.bsz I.sz,I.stack,I.stkFree,I.hok,I.bare⟩
theorem Inv.after {Q:VK}{u:G0}(I:Inv X pins σ H s)(h:CE X.stack X.prog X.w H s Q u s'):EP X pins σ Q u s':=by
 obtain⟨v,H',os,bare,un,hok,r,q⟩:=h;obtain⟨hh,g,d,t,os'⟩:=s';obtain rfl:os'=s.os:=os;exact⟨v,H',I.call (h':=hh) (g':=g) (d':=d) (t':=t) (ch:= []) un hok bare (λb z=>absurd z (by simp)),r,q⟩
end
def RR (sp:Sp)(dvs:List V)(E:XK)(t:TA):TE:=λσ H Q=>t σ H λvs H1=>sp (vs++dvs) H1 Q E
def Binds (K:PySem.W.Frag)(fd:S7)(ps:List Str)(ds:List G0):Prop:=
 ∀ (s:G2) (us:List G0),K.In s.heap->(us++ds).length=ps.length->dY s fd ⟨us,[]⟩ (ps.zip (us++ds))
theorem Binds.all {fd:S7}{ps:List Str}(h: ∀us:List G0,us.length=ps.length->bindArgs fd ⟨us,[]⟩=pure (ps.zip us)):Binds K fd ps []:=λs us _ hl=>by
 rw [C8] at hl ⊢;exact .of_eq (h us hl)
def Us (CX:CXT)(X:Cx)(E:XK):Prop:= ∀ (pins:List (Addr×Obj)) (σ:St) (H:Hp) (s:G2) (e:G0) (s':G2),Inv X pins σ H s->CX X.stack H s E e s'->X.xe e s'
section
variable {X:Cx}{CX:CXT}{k:Nat}{f C:Addr}{fd:S7}{ps:List Str}{sp:Sp}{dvs:List V}{ds:List G0}{E:XK}{x m:Str}{p pos apos:Pos}{e o:Expr}{es:List Expr}{ta:TE}{t:TA}
theorem RS {pins:List (Addr×Obj)}{σ:St}{H:Hp}{s:G2}{Q:VK}{us:List G0}{vs:List V}(F:FnOk X.prog X.w X.K X.mg X.base CX k f fd ps sp)(hr:Room k X.A)(hb:Binds X.K fd ps ds)(hd:Vals dvs ds)(hx:Us CX X E)
 (I:Inv X pins σ H s)(r:Vals vs us)(h:sp (vs++dvs) H Q E):wpAny (model X.prog X.w) X.A (call (.ref f) us) (EP X pins σ Q) X.xe s:=by
 have r2:Vals (vs++dvs) (us++ds):=r.append hd;have hl:(us++ds).length=ps.length:=by rw [<-r2.length];exact F.len _ _ _ _ h
 refine wpAny_call (cC (F.run X.A X.stack s H ⟨us,[]⟩ (us++ds) (vs++dvs) Q E hr I.env0 (hb s us I.kIn hl) r2 h) λr s' hq=> ?_);cases r with
 |error e=>exact hx pins σ H s e s' I hq
 |ok fl=>
  cases fl with
  |ret u=>exact I.after hq
  |next=>exact False.elim hq
  |brk=>exact False.elim hq
  |cont=>exact False.elim hq
theorem Pr (F:FnOk X.prog X.w X.K X.mg X.base CX k f fd ps sp)(hr:Room k X.A)(hg:Gl X x)(hm:X.mg x=some (.ref f))(hk:PySem.W.keepIn X.K (.ref f)=true)(hb:Binds X.K fd ps ds)(hd:Vals dvs ds)(hx:Us CX X E)
 (ha:PA X (e::es) t)(hdb:(x==("__debug__" :Str))=false:=by decide)(he:starEach (e::es) X.env=(false,eval e X.env)::starEach es X.env:=by rfl)(hpl:(backTo pos (starEach es X.env)).any (·.1)=false:=by rfl):
 PE X (.Call (.Name x p) (e::es) [] pos) (RR sp dvs E t):=by
 intro pins s σ H Q I h;refine Y1 (Uh I hg hm ?_ hdb);refine PySem.W.callWith_K (h₀:=X.base) I.ok.mod.kin hk (thn (ha pos pins s σ H _ I h) λus s1 ⟨vs,H1,I1,r,q⟩=>⟨I1.kIn,?_⟩) he hpl;exact RS F hr hb hd hx I1 r q
end
structure FnScope (N P:List Str)(sc:H0):Prop where
 kind:sc.kind= .function
 co:sc.isCoroutine=false
 gen:sc.isGenerator=false
 nd:N.Nodup
 pre:N.take P.length=P
 par: ∀x∈P,sc.names.lookup x=some .local\/sc.names.lookup x=some .cell
 nofree: ∀y∈sc.names,y.2≠ .free
variable {kindOf:Str->Option NameKind}{x:Str}
theorem Wd: ∀ {binds:List (Str×G0)} {m:Str->Option G0},(∀v,(x,v) ∉ binds)->bindL kindOf binds m x=m x
 | [],_,_=>rfl
 |(n,v)::r,m,h=>by
  unfold bindL;rw [Wd λw hw=>h w (D3 _ hw)];split
  ·have:x≠n:=by rintro rfl;exact h v D2
   simp [this]
  ·rfl
theorem We: ∀ {binds:List (Str×G0)} {m:Str->Option G0},(∀v,(x,v) ∉ binds)->bindC kindOf binds m x=m x
 | [],_,_=>rfl
 |(n,v)::r,m,h=>by
  unfold bindC;rw [We λw hw=>h w (D3 _ hw)];split
  ·rfl
  ·have:x≠n:=by rintro rfl;exact h v D2
   simp [this]
theorem Wf {v:G0}: ∀ {P:List Str} {vs:List G0} {i:Nat} {m:Str->Option G0},P.Nodup->P[i]? =some x->vs[i]? =some v->kindOf x=some .local->
 bindL kindOf (P.zip vs) m x=some v
 | [],_,_,_,_,h,_,_=>by simp at h
 |_::_,[],_,_,_,_,h,_=>by simp at h
 |p::P,w::vs,0,m,nd,h1,h2,hk=>by
  simp at h1 h2;subst h1;subst h2;show bindL kindOf ((p,w)::P.zip vs) m p=_;unfold bindL;rw [Wd λv hv=>(C9.mp nd).1 (aZ hv).1,if_pos hk];simp
 |p::P,w::vs,i+1,m,nd,h1,h2,hk=>by
  show bindL kindOf ((p,w)::P.zip vs) m x=_;unfold bindL;exact Wf (i:=i) (C9.mp nd).2 (by simpa using h1) (by simpa using h2) hk
theorem Wg {v:G0}: ∀ {P:List Str} {vs:List G0} {i:Nat} {m:Str->Option G0},P.Nodup->P[i]? =some x->vs[i]? =some v->kindOf x≠some .local->
 bindC kindOf (P.zip vs) m x=some v
 | [],_,_,_,_,h,_,_=>by simp at h
 |_::_,[],_,_,_,_,h,_=>by simp at h
 |p::P,w::vs,0,m,nd,h1,h2,hk=>by
  simp at h1 h2;subst h1;subst h2;show bindC kindOf ((p,w)::P.zip vs) m p=_;unfold bindC;rw [We λv hv=>(C9.mp nd).1 (aZ hv).1,if_neg hk];simp
 |p::P,w::vs,i+1,m,nd,h1,h2,hk=>by
  show bindC kindOf ((p,w)::P.zip vs) m x=_;unfold bindC;exact Wg (i:=i) (C9.mp nd).2 (by simpa using h1) (by simpa using h2) hk
def start (N:List Str)(vs:List V):St:=vs.map some++R6 (N.length-vs.length) none
def Qg (CX:CXT)(P:R5)(w:T4)(K:PySem.W.Frag)(mg:Str->Option G0)(base:Heap)(N:List Str)(qual:Str)(scope:H0)(f:Addr)(cd:G0)(A:T9)(outer:List Env)(s:G2)(H:Hp)(E:XK):Cx where
 prog:=P
 w:=w
 K:=K
 mg:=mg
 base:=base
 A:=A.deeper (envOfC qual scope s.heap.objs.size f cd)
 N:=N
 s₀:=s
 H₀:=H
 env:=envOfC qual scope s.heap.objs.size f cd
 outer:=outer
 stack:=envOfC qual scope s.heap.objs.size f cd::outer
 ex:= []
 calm:=true
 fn:=λ_=>true
 pn:= []
 xe:=λe s'=>wpAny (model P w) (A.deeper (envOfC qual scope s.heap.objs.size f cd)) (leaving (envOfC qual scope s.heap.objs.size f cd) e) (λ_ s''=>CX outer H s E e s'') (λe' s''=>CX outer H s E e' s'') s'
theorem vy {sc:H0}{n:Nat}(h:sc.names.lookup x=some .cell): ∃c,(cellsFrom n sc.names []).lookup x=some c:=by
 have q:=PySem.W.cellsFrom_some sc.names n [] (.inl h);exact Q5.mp q
theorem Ut {CX:CXT}{mg:Str->Option G0}{base:Heap}{N ps:List Str}{qual:Str}{scope:H0}{f:Addr}{cd:G0}{outer:List Env}{s1:G2}{E:XK}{us:List G0}{vs:List V}
 (S:FnScope N ps scope)(hd:A.handled=none)(e0:Env0 P w K mg base A outer s H)(hl:vs.length=ps.length)(r:Vals vs us)
 (x:InCallC s s.heap.objs.size (bindL (envOfC qual scope s.heap.objs.size f cd).kindOf (ps.zip us) λ_=>none) (cellsFrom (s.heap.objs.size+1) scope.names []) (bindC (envOfC qual scope s.heap.objs.size f cd).kindOf (ps.zip us) λ_=>none) s1):
 Inv (Qg CX P w K mg base N qual scope f cd A outer s H E) [] (start N vs) H s1:=by
 have hpl:ps.length<=N.length:=by have:=congrArg bE S.pre;rw [D4] at this;omega
 obtain⟨h1,tk,rfl,hk⟩:=x.done;have noA: ∀b:Addr,b ∉ (Qg CX P w K mg base N qual scope f cd A outer s H E).ex:=λb z=>absurd (show b∈([]:List Addr) from z) (by simp)
 refine⟨⟨e0.mod,S.kind,rfl,rfl,G5 _,λy z c h1 h2=> ?_,λy hy=> ?_,λy c _ h=> ?_,λ_=>hd,Around.frames_deeper e0.frames,.inr ⟨rfl,rfl⟩,λb z=>absurd z (noA b),e0.bs,e0.bsz,λb _ _=>noA b,λb z=>absurd z (noA b),e0.funs,e0.frf⟩,
  rfl,e0.bare,Un.kept hk,⟨_,x.toInCall.ns,λi y v h1 h2 h3=> ?_⟩,λy c h=>⟨_,x.cell y c h⟩,e0.hok.fresh (G5 _),λy c h=> ?_,λp hp=>absurd (show p∈([]:List (Addr×Obj)) from hp) (by simp),e0.hok.kept hk,?_⟩
 ·exact fQ x.apart (PySem.mem_of_lookup h1) (PySem.mem_of_lookup h2)
 ·have hy:scope.names.lookup y=some .cell\/scope.names.lookup y=some .free:=hy;rcases hy with hy|hy
  ·exact vy hy
  ·exact absurd rfl (S.nofree _ (PySem.mem_of_lookup hy))
 ·exact D8 (x.above y c (PySem.mem_of_lookup h))
 ·have hi:i<vs.length:=by
   unfold start at h2
   by_cases hi:i<vs.length
   ·exact hi
   ·rw [P7 (by simpa using hi)] at h2;rw [aI] at h2;split at h2<;>cases h2
  have ha:vs[i]? =some v:=by
   unfold start at h2;rw [S2 (by simpa using hi),D1] at h2;cases e:vs[i]? with
   |none=>rw [e] at h2;cases h2
   |some a=>rw [e] at h2;cases h2;rfl
  obtain⟨u,hu,rv⟩:=r.get ha;have hp:ps[i]? =some y:=by
   rw [<-S.pre,Q6 (by omega)];exact h1
  have ndP:ps.Nodup:=by rw [<-S.pre];exact S.nd.sublist (J6 _ _)
  refine⟨u,rv,?_⟩;rcases S.par y (G8 hp) with k|k
  ·exact .inl ⟨k,Wf ndP hp hu k⟩
  ·obtain⟨c,e⟩:=vy (n:=s.heap.objs.size+1) k;refine .inr ⟨.inl k,c,e,?_⟩;have q:=x.cell y c e;rw [Wg ndP hp hu (by show scope.names.lookup y≠_;rw [k];decide)] at q;exact q
 ·exact e0.hok.fresh (D8 (x.above y c (PySem.mem_of_lookup h)))
 ·unfold start;show _=N.length;rw [G3,G7,List.length_replicate];omega
theorem Bp {CX:CXT}{mg:Str->Option G0}{base:Heap}{f:Addr}{name qual:Str}{params:Arguments}{body:List Stmt}{scope:H0}{dV kV doc pm cdv ct oc:G0}{an od:Option Addr}{osl:Array (Option G0)}{N ps:List Str}{sp:Sp}(lk:K.lookup f=some ⟨oc,od,.func (PySem.W.fnOf name qual params body scope dV kV doc pm an cdv ct),osl⟩)(hcd:PySem.W.codeIn K cdv qual=true)(S:FnScope N ps scope)
 (len: ∀vs H Q E,sp vs H Q E->vs.length=ps.length)
 (hbody: ∀ (A:T9) (outer:List Env) (s:G2) (H:Hp) (vs:List V) (Q:VK) (E:XK),Room k (A.deeper (envOfC qual scope s.heap.objs.size f cdv))->sp vs H Q E->
  ∃t,PSs (Qg CX P w K mg base N qual scope f cdv A outer s H E) body t/\t {nx:=λ_ H'=>Q .non H',rt:=Q} (start N vs) H):
 FnOk P w K mg base CX (k+1) f (PySem.W.fnOf name qual params body scope dV kV doc pm an cdv ct) ps sp:=by
 refine⟨len,λA outer s H args us vs Q E hr e0 hb r hsp=> ?_⟩;have hl:=len _ _ _ _ hsp;have KX:K.In s.heap:=e0.mod.kin.keeps λb o e=>(e0.bs b o e).1
 have lim:s.heap.NoLimit:=e0.mod.nolimit.keeps λb o e=>(e0.bs b o e).1
 have hkind: ∀y∈ps.zip us,scope.names.lookup y.1=some .local\/(scope.names.lookup y.1=some .cell/\((cellsFrom (s.heap.objs.size+1) scope.names []).lookup y.1).isSome=true):=λ⟨n,v⟩ hy=>by
  rcases S.par n (aZ hy).1 with q|q
  ·exact .inl q
  ·exact .inr ⟨q,PySem.W.cellsFrom_some _ _ _ (.inl q)⟩
 refine codeAny_call_function hr.depth (KX _ _ lk) rfl S.co S.gen rfl (PySem.W.codeRec_of KX hcd) (hb _ _ _ _ ?_);refine wpAny_newFunctionEnv_cells S.kind hkind λenv he s1 x=> ?_
 subst he;refine⟨lim.keeps x.toInCall.keep,codeAny_func ?_⟩;obtain⟨t,ht,hq⟩:=hbody A outer s H vs Q E (hr.deeper _) hsp;have I:Inv (Qg CX P w K mg base N qual scope f cdv A outer s H E) [] (start N vs) H s1:=Ut S hr.hd e0 hl r x;refine S9 (ht [] s1 (start N vs) H _ I hq) (λfl s' hs=> ?_) λe s' hs=>hs
 have fin: ∀ {gO:St} {H':Hp} {v:V} {u:G0},Inv (Qg CX P w K mg base N qual scope f cdv A outer s H E) [] gO H' s'->RelV v u->Q v H'->CE outer P w H s Q u s':=
  λ{gO H' v u} J rv q=>⟨v,H',J.os,J.bare,J.base,J.hok,rv,q⟩
 cases fl with
 |ret u=>
  obtain⟨v,gO,H',J,rv,q⟩:=hs;exact fin J rv q
 |next=>
  obtain⟨gO,H',J,q⟩:=hs;exact fin (v:=V.non) (u:=dZ) J rfl q
 |brk=>
  obtain⟨_,_,_,q⟩:=hs;exact False.elim q
 |cont=>
  obtain⟨_,_,_,q⟩:=hs;exact False.elim q
section
variable {X:Cx}{x:Str}{p pos:Pos}{e:Expr}{es:List Expr}{t:TA}{id T:String}{r:List V->Hp->VK->Prop}
def tCB (r:List V->Hp->VK->Prop)(t:TA):TE:=λσ H Q=>t σ H λvs H1=>r vs H1 Q
theorem Zl (hc:CallR X (.builtin id) r)(hg:Gl X x)(hm:X.mg x=none)(hv:bootBuiltins x=some (.builtin id))(ha:PA X (e::es) t)(hn:x≠ "__name__" :=by decide)(hdb:(x==("__debug__" :Str))=false:=by decide)
 (he:starEach (e::es) X.env=(false,eval e X.env)::starEach es X.env:=by rfl)(hpl:(backTo pos (starEach es X.env)).any (·.1)=false:=by rfl):PE X (.Call (.Name x p) (e::es) [] pos) (tCB r t):=by
 intro pins s σ H Q I h;refine Y1 (JF I hg hm hv ?_ hn hdb);exact cY (thn (ha pos pins s σ H _ I h) λus s1 ⟨vs,H1,I1,r1,q1⟩=>hc pins s1 σ H1 vs us Q I1 r1 q1) he hpl
theorem Uu (hc:CallR X (.type T) r)(hg:Gl X x)(hm:X.mg x=none)(hv:bootBuiltins x=some (.type T))(ha:PA X (e::es) t)(hn:x≠ "__name__" :=by decide)(hdb:(x==("__debug__" :Str))=false:=by decide)
 (he:starEach (e::es) X.env=(false,eval e X.env)::starEach es X.env:=by rfl)(hpl:(backTo pos (starEach es X.env)).any (·.1)=false:=by rfl):PE X (.Call (.Name x p) (e::es) [] pos) (tCB r t):=by
 intro pins s σ H Q I h;refine Y1 (JF I hg hm hv ?_ hn hdb);exact O0 (thn (ha pos pins s σ H _ I h) λus s1 ⟨vs,H1,I1,r1,q1⟩=>hc pins s1 σ H1 vs us Q I1 r1 q1) he hpl
end
end L2
namespace HT
open PySem PyProof.Rows
def jF:List Int->List Int->Bool
 | [],[]=>false
 | [],_::_=>true
 |_::_,[]=>false
 |x::xs,y::ys=>if x=y then jF xs ys else decide (x<y)
theorem JH (x y:Int)(xs ys:List Int):jF (x::xs) (y::ys)=if x=y then jF xs ys else decide (x<y):=rfl
theorem Zm:jF [] []=false:=rfl
theorem Js (y:Int)(ys:List Int):jF [] (y::ys)=true:=rfl
theorem Jt (x:Int)(xs:List Int):jF (x::xs) []=false:=rfl
theorem YX (A:T9)(s:G2)(a:Int)(t:Tok)(c:Int)(u:Tok): ∃e,SeqAt.EqAt A s (.int a t) (.int c u) e/\(e=true↔a=c):=
 ⟨(a==c),SeqAt.EqAt.int_int a t c u,by simp⟩
theorem Qh (A:T9)(s:G2)(a:Int)(t:Tok)(c:Int)(u:Tok)(prog:R5)(w:T4)(E:G0->G2->Prop)(Q:G0->G2->Prop)(h:Q (.bool (decide (a<c))) s):
 wpAny (model prog w) A (richCompare .Lt (.int a t) (.int c u)) Q E s:=
 (bO h:wpAny (model prog w) A (compareOp .Lt (.int a t) (.int c u)) Q E s)
section
open PySem.SeqAt
open PySem.AutoSeq1 (wpAny_loadPart')
open PySem.MeetsSeq PySem.MeetsSeq2 PySem.MeetsSeq3
theorem yj (l b:Addr)(items items2:Array G0)(n n2:Nat)(dd dd2:Option Addr)(sl sl2:Array (Option G0))(ns ms:List Int)(hi:O1 items.toList ns)(hj:O1 items2.toList ms):
 Meets (Builtin.«tuple.__lt__» ⟨[.ref l,.ref b],[]⟩)
  (λ_ R s=>s.heap.get? l=some {cls:= .type "tuple",dict:=dd,data:= .seq items n,slots:=sl}/\s.heap.get? b=some {cls:= .type "tuple",dict:=dd2,data:= .seq items2 n2,slots:=sl2}/\
   R (.ok (.ret (.bool (jF ns ms)))) s):=
 .of_wp λprog w A R s h=>by
  obtain⟨hp,g,d,tk,os⟩:=s;obtain⟨hl,hb,h⟩:=h;have f2:=AutoSeq1.sub_tuple_tuple;have z1:items.size=ns.length:=by rw [<-hi.length];simp
  have z2:items2.size=ms.length:=by rw [<-hj.length];simp
  wp_walk using dM hl,dM hb,wpAny_forIn_list _ (λrest b s'=>b.1=none/\s'=⟨hp,g,d,tk,os⟩/\ ∃ (vs ws:List G0) (ns' ms':List Int),rest=vs.zip ws/\
   O1 vs ns'/\O1 ws ms'/\ns'.length+items2.size=ms'.length+items.size/\R (.ok (.ret (.bool (jF ns' ms')))) ⟨hp,g,d,tk,os⟩) _
  case turn=>
   rintro ⟨y,x⟩ rest b s' ⟨hb',rfl,vs,ws,ns',ms',hz,hvi,hwi,hlen,hR⟩;cases hvi with
   |nil=>rw [aD] at hz;cases hz
   |cons a t hvi'=>
    cases hwi with
    |nil=>rw [bX] at hz;cases hz
    |cons c u hwi'=>
     rw [U0] at hz;injection hz with hyx hrest
     injection hyx with hy hx
     subst hy hx;rw [JH] at hR;simp only [D5] at hlen;obtain⟨e,he,hiff⟩:=YX A.in1 ⟨hp,g,d,tk,os⟩ a t c u;refine wpAny_bind (he prog w _ _ ?_);cases e with
     |true=>
      rw [if_pos (hiff.mp rfl)] at hR
      wp_walk
      exact⟨rfl,rfl,_,_,_,_,hrest,hvi',hwi',by omega,hR⟩
     |false=>
      rw [if_neg (λq=>absurd (hiff.mpr q) P3)] at hR;have hri:=Qh A.in1 ⟨hp,g,d,tk,os⟩ a t c u prog w
      wp_walk using hri
      exact⟨_,rfl,by simpa using hR⟩
  case fin=>
   rintro ⟨b1,b2⟩ s' ⟨hb',rfl,vs,ws,ns',ms',hz,hvi,hwi,hlen,hR⟩;simp only at hb';subst hb';have hv:jF ns' ms'=decide (items.size<items2.size):=by
    cases hvi with
    |nil=>
     cases hwi with
     |nil=>
      simp only [T3] at hlen;rw [Zm];exact(decide_eq_false (by omega)).symm
     |cons c u hw=>
      simp only [T3,D5] at hlen;rw [Js];exact(decide_eq_true (by omega)).symm
    |cons a t hv=>
     cases hwi with
     |nil=>
      simp only [T3,D5] at hlen;rw [Jt];exact(decide_eq_false (by omega)).symm
     |cons c u hw=>
      rw [U0] at hz;cases hz
   rw [hv] at hR
   wp_walk
   exact⟨_,rfl,by simpa [cW] using hR⟩
  case h=>
   exact⟨rfl,rfl,items.toList,items2.toList,ns,ms,rfl,hi,hj,by omega,h⟩
end
section
variable {prog:R5}{w:T4}{A:T9}{E:G0->G2->Prop}{s:G2}
theorem VA {l b:Addr}{items items2:Array G0}{ns ms:List Int}{Q:G0->G2->Prop}(hl:dF s.heap l items)(hb:dF s.heap b items2)(hi:O1 items.toList ns)(hj:O1 items2.toList ms)
 (hu:A.units<cLine)(h:Q (.bool (jF ns ms)) s):wpAny (model prog w) A (compareOp .Lt (.ref l) (.ref b)) Q E s:=by
 obtain⟨⟨cls,dd,data,sl⟩,ho,hc,n,hd⟩:=id hl;obtain⟨⟨cls2,dd2,data2,sl2⟩,ho2,hc2,n2,hd2⟩:=id hb;simp only at hc hd hc2 hd2;subst hc hd hc2 hd2;exact richCompare_meets_room (op:= .Lt) ⟨_,ho,rfl⟩ ⟨_,ho2,rfl⟩ PySem.F.slot_tuple_lt PySem.F.entry_tuple_lt (PySem.F.args_tuple_lt_2 _ _) (yj l b items items2 n n2 dd dd2 sl sl2 ns ms hi hj)
  ⟨ho,ho2,show X6 (jF ns ms)≠Value.notImplemented/\Q (.bool (jF ns ms)) s from ⟨(λx=>nomatch x),h⟩⟩ hu
theorem Ps {t b:Addr}{vs ws:List G0}{Q:G0->G2->Prop}(ht:dF s.heap t vs.toArray)(hb:dF s.heap b ws.toArray)(hv:vs≠ [])
 (h1:ws= []->Q (.ref t) s)(h2:ws≠ []->Q (.ref s.heap.objs.size) {s with heap:=s.heap.push {cls:= .type "tuple",data:= .seq (vs++ws).toArray}})
 (hsz:vs.length+ws.length<=sizeLine):wpAny (model prog w) A (binaryOp .Add (.ref t) (.ref b)) Q E s:=by
 obtain⟨⟨cls,dd,data,sl⟩,ho,hc,n,hd⟩:=id ht;obtain⟨⟨cls2,dd2,data2,sl2⟩,ho2,hc2,n2,hd2⟩:=id hb;simp only at hc hd hc2 hd2;subst hc hd hc2 hd2;have e:vs.toArray++ws.toArray=(vs++ws).toArray:=by simp
 by_cases hw:ws= []
 ·exact cE ⟨_,ho,rfl⟩ ⟨_,ho2,rfl⟩ aJ bU PySem.F.slot_tuple_add PySem.F.entry_tuple_add (PySem.F.args_tuple_add_2 _ _)
   (tuple_addW1 t b vs.toArray ws.toArray n n2 dd dd2 sl sl2 (by simpa using hv) (by simp [hw])) ⟨ho,ho2,h1 hw⟩
 ·refine cE ⟨_,ho,rfl⟩ ⟨_,ho2,rfl⟩ aJ bU PySem.F.slot_tuple_add PySem.F.entry_tuple_add (PySem.F.args_tuple_add_2 _ _)
   (tuple_addW2 t b vs.toArray ws.toArray n n2 dd dd2 sl sl2 (by simpa using hv) (by simpa using hw) (by rw [P6,P6];exact hsz)) ⟨ho,ho2,?_⟩
  rw [e];exact h2 hw
def sIx (n d:Nat):Option Int->Nat
 |none=>d
 |some v=>if v<0 then (v+(n:Int)).toNat else min v.toNat n
theorem RT (n d:Nat)(hd:d<=n)(o:Option Int):sIx n d o<=n:=by
 cases o with
 |none=>exact hd
 |some v=>
  show (if v<0 then (v+(n:Int)).toNat else min v.toNat n)<=n
  by_cases hv:v<0
  ·rw [if_pos hv];omega
  ·rw [if_neg hv];exact O4 _ _
theorem Uv (v:Int)(n d:Nat):(if v<0 then max (v+(n:Int)) 0 else min v (n:Int))=((sIx n d (some v):Nat):Int):=by
 show (if v<0 then max (v+(n:Int)) 0 else min v (n:Int))=(((if v<0 then (v+(n:Int)).toNat else min v.toNat n):Nat):Int)
 by_cases hv:v<0
 ·simp only [if_pos hv];omega
 ·simp only [if_neg hv];omega
theorem VB (lo hi:Option Int)(n:Nat):Q1 lo hi 1 (n:Int)=(((sIx n 0 lo:Nat):Int),((sIx n n hi:Nat):Int)):=by
 have h1: ¬ ((1:Int)<0):=by omega
 unfold Q1;simp only [h1,if_false];refine Prod.ext ?_ ?_
 ·cases lo with
  |none=>rfl
  |some v=>exact Uv v n 0
 ·cases hi with
  |none=>rfl
  |some v=>exact Uv v n n
theorem VC (i j:Nat):A2 (i:Int) (j:Int) 1=j-i:=by
 unfold A2;have h1:(1:Int)>0:=by omega
 simp only [h1,if_true,Int.ediv_one];split<;>omega
theorem JJ {v:G0}{o:Option Int}{Q:Option Int->G2->Prop}(p:aQ v o)(h:Q o s):wpAny (model prog w) A (dN v) Q E s:=by
 cases p with
 |none=>exact eL h
 |int i t=>exact slicePart_int h
theorem wc {sl:Addr}{vl vu:G0}{lo hi:Option Int}{n:Nat}{Q:Int×Int×Nat->G2->Prop}(hs:s.heap.IsSliceOf sl vl vu .none)(pl:aQ vl lo)(pu:aQ vu hi)
 (h:Q (((sIx n 0 lo:Nat):Int),1,sIx n n hi-sIx n 0 lo) s):wpAny (model prog w) A (Y2 (.ref sl) (pure (n:Int))) Q E s:=by
 obtain⟨os,hos,hcs,hds⟩:=id hs;unfold Y2 fE;refine wpAny_bind (wpAny_bind (dG hos hds (x:=vl) rfl (wpAny_bind (dG hos hds (x:=vu) rfl (wpAny_bind (dG hos hds (x:= .none) rfl (P9 ?_)))))));refine wpAny_bind (eL ?_);show wpAny _ _ (if ((1:Int)==0)=true then _ else _) _ _ s;rw [if_neg (by decide)];refine wpAny_bind (JJ pl (wpAny_bind (JJ pu (wpAny_bind (P9 ?_)))));show wpAny _ _ (match Q1 lo hi 1 (n:Int) with|(lo,hi)=>pure (lo,(1:Int),A2 lo hi 1)) _ _ s;rw [VB lo hi n];show wpAny _ _ (pure (((sIx n 0 lo:Nat):Int),(1:Int),A2 ((sIx n 0 lo:Nat):Int) ((sIx n n hi:Nat):Int) 1)) _ _ s;rw [VC];exact P9 h
theorem Qi (xs:Array G0)(i k:Nat):((P2 k).filterMap λ(m:Nat)=>xs[((i:Int)+(m:Int)*1).toNat]?).toArray=((xs.toList.drop i).take k).toArray:=by
 have e:(λ(m:Nat)=>xs[((i:Int)+(m:Int)*1).toNat]?)=λm=>xs[i+m]? :=by
  funext m
  have:((i:Int)+(m:Int)*1).toNat=i+m:=by omega
  rw [this]
 rw [e];have:=pick_run xs i k;rw [List.filterMap_map] at this;have e2:((λx=>xs[x]?)∘λx=>i+x)=λm=>xs[i+m]? :=rfl
 rw [e2] at this;rw [this]
theorem yM {t sl:Addr}{items:Array G0}{vl vu:G0}{lo hi:Option Int}{Q:G0->G2->Prop}(ht:dF s.heap t items)(hs:s.heap.IsSliceOf sl vl vu .none)(pl:aQ vl lo)(pu:aQ vu hi)
 (hw: ¬ (sIx items.size 0 lo=0/\sIx items.size items.size hi=items.size))
 (h:Q (.ref s.heap.objs.size) {s with heap:=s.heap.push {cls:= .type "tuple",data:= .seq ((items.toList.drop (sIx items.size 0 lo)).take (sIx items.size items.size hi-sIx items.size 0 lo)).toArray}})
 (hsz:items.size<=sizeLine):wpAny (model prog w) A (getItem (.ref t) (.ref sl)) Q E s:=by
 have htake:sizeOk (.seq ((items.toList.drop (sIx items.size 0 lo)).take (sIx items.size items.size hi-sIx items.size 0 lo)).toArray):=by
  show ((items.toList.drop (sIx items.size 0 lo)).take (sIx items.size items.size hi-sIx items.size 0 lo)).toArray.size<=sizeLine;rw [P6,D4,S8,T2];omega
 have hj:sIx items.size items.size hi<=items.size:=RT _ _ (G5 _) hi;obtain⟨os,hos,hcs,hds⟩:=id hs;have hTs:s.TypeIs (.ref sl) "slice" :=⟨os,hos,hcs⟩;unfold getItem
 try with_reducible refine E1 ?_
 first|refine wpAny_bind (P9 ?_)|skip
 refine wpAny_bind (cF ht.typeIs (by decide) ?_);refine wpAny_bind (aK (name:=Str.ofString "__getitem__") ht.typeIs F4
  (K8 F4 ht.typeIs bP ?_ (bY _ _)))
 show wpAny _ _ (Y3 (.ref t) >>= _) _ _ s;refine wpAny_bind (fJ ht ?_);refine wpAny_bind (cG hTs ?_);rw [if_pos (by decide)];refine wpAny_bind (wc hs pl pu ?_);have hno: ¬ ((((sIx items.size 0 lo:Nat):Int)==0&&(1:Int)==1&&(sIx items.size items.size hi-sIx items.size 0 lo)==items.size)=true):=by
  intro q;rw [O5,O5] at q;have q1:((sIx items.size 0 lo:Nat):Int)=0:=eq_of_beq q.1.1;have q2:sIx items.size items.size hi-sIx items.size 0 lo=items.size:=eq_of_beq q.2;exact hw ⟨by omega,by omega⟩
 show wpAny _ _ (if (((sIx items.size 0 lo:Nat):Int)==0&&(1:Int)==1&&(sIx items.size items.size hi-sIx items.size 0 lo)==items.size)=true then _ else _) _ _ s;rw [if_neg hno,Qi]
 first
  |exact wpAny_bind (m:=E2 _) (J7 (P9 ⟨_,rfl,P9 h⟩) htake)
  |exact wpAny_bind (m:=E2 _) (J7 (wpAny_bind (P9 (P9 ⟨_,rfl,P9 h⟩))) htake)
  |exact wpAny_bind (wpAny_bind (m:=E2 _) (J7 (P9 (P9 ⟨_,rfl,P9 h⟩)) htake))
  |exact wpAny_bind (wpAny_bind (m:=E2 _) (J7 (P9 ⟨_,rfl,P9 h⟩) htake))
end
end HT
namespace L2
open PySem PySem.Spec PyProof.Rows
abbrev TO:=St->Hp->(Option Int->Hp->Prop)->Prop
def PO (X:Cx)(e:Option Expr)(t:TO):Prop:=
 ∀ (pins:List (Addr×Obj)) (s:G2) (σ:St) (H:Hp) (Q:Option Int->Hp->Prop),Inv X pins σ H s->t σ H Q->
  wpAny (model X.prog X.w) X.A (evalPart e X.env) (λu s'=> ∃o H',Inv X pins σ H' s'/\aQ u o/\Q o H') X.xe s
def Bq (t:TE):TO:=λσ H Q=>t σ H λx H1=> ∃i,x= .int i/\Q (some i) H1
section
variable {X:Cx}{e:Expr}{te:TE}{lo hi:Option Expr}{tl th:TO}{pos p2:Pos}
theorem Pt (h:PE X e te):PO X (some e) (Bq te):=by
 intro pins s σ H Q I hw;rw [evalPart_some];refine thn (h pins s σ H _ I hw) λu s1 ⟨x,H1,I1,r1,q1⟩=> ?_
 obtain⟨i,rfl,q⟩:=q1;obtain⟨t,rfl⟩:=r1;exact⟨some i,H1,I1,.int i t,q⟩
def SlR (X:Cx)(r:V->Option Int->Option Int->Hp->VK->Prop):Prop:=
 ∀ (pins:List (Addr×Obj)) (s:G2) (σ:St) (H:Hp) (x:V) (v vl vu:G0) (lo hi:Option Int) (sl:Addr) (Q:VK),Inv X pins σ H s->RelV x v->s.heap.IsSliceOf sl vl vu .none->aQ vl lo->aQ vu hi->r x lo hi H Q->
  ∃T id,typeLookup (.type T) "__getitem__" =pure (some (.builtin id))/\s.TypeIs v T/\wpAny (model X.prog X.w) X.A (getItem v (.ref sl)) (EP X pins σ Q) X.xe s
theorem SlR.or {r r':V->Option Int->Option Int->Hp->VK->Prop}(h:SlR X r)(h':SlR X r'):SlR X (λx lo hi H Q=>r x lo hi H Q\/r' x lo hi H Q):=by
 intro pins s σ H x v vl vu lo hi sl Q I rx hs pl pu q;rcases q with q|q
 ·exact h pins s σ H x v vl vu lo hi sl Q I rx hs pl pu q
 ·exact h' pins s σ H x v vl vu lo hi sl Q I rx hs pl pu q
def tSl (r:V->Option Int->Option Int->Hp->VK->Prop)(te:TE)(tl th:TO):TE:=λσ H Q=>te σ H λx H1=>tl σ H1 λl H2=>th σ H2 λu H3=>r x l u H3 Q
theorem Qj {r:V->Option Int->Option Int->Hp->VK->Prop}(hr:SlR X r)(he:PE X e te)(hl:PO X lo tl)(hu:PO X hi th):PE X (.Subscript e (.Slice lo hi none p2) pos) (tSl r te tl th):=by
 intro pins s σ H Q I h;refine gE (thn (he pins s σ H _ I h) λv s1 ⟨x,H1,I1,r1,q1⟩=> ?_);refine wpAny_Slice (thn (hl pins s1 σ H1 _ I1 q1) λvl s2 ⟨l,H2,I2,pl,q2⟩=>thn (hu pins s2 σ H2 _ I2 q2) λvu s3 ⟨u,H3,I3,pu,q3⟩=> ?_);rw [evalPart_none];refine P9 ?_;have I4:Inv X pins σ H3 {s3 with heap:=s3.heap.push {cls:= .type "slice",data:= .fields #[vl,vu,.none]}}:=I3.kept (t':=s3.toks) λb ob q=>P1 _ q
 obtain⟨T,id,hT,ht,hg⟩:=hr pins {s3 with heap:=s3.heap.push {cls:= .type "slice",data:= .fields #[vl,vu,.none]}} σ H3 x v vl vu l u s3.heap.objs.size Q I4 r1 (Heap.IsSliceOf.new ..) pl pu q3;show wpAny (model X.prog X.w) X.A (subscriptTail e (.Slice lo hi none p2) v (.ref s3.heap.objs.size)) (EP X pins σ Q) X.xe {s3 with heap:=s3.heap.push {cls:= .type "slice",data:= .fields #[vl,vu,.none]}};exact tail_any (ops:= [.ref s3.heap.objs.size,v]) ht hT hg (by with_unfolding_all rfl)
def XW (xs:List V)(lo hi:Option Int):List V:=(xs.drop (HT.sIx xs.length 0 lo)).take (HT.sIx xs.length xs.length hi-HT.sIx xs.length 0 lo)
theorem vK (xs:List V)(lo hi:Option Int):(XW xs lo hi).length<=xs.length:=by
 unfold XW;rw [D4,S8];omega
def Fr (K:PySem.W.Frag):V->Option Int->Option Int->Hp->VK->Prop:=λx lo hi H Q=> ∃a xs,x= .ref a/\SqT K H a xs/\
 ¬ (HT.sIx xs.length 0 lo=0/\HT.sIx xs.length xs.length hi=xs.length)/\ ∀p,H p=none->Q (.ref p) (upd H p (.tup (XW xs lo hi)))
theorem sl_tup:SlR X (Fr X.K):=by
 intro pins s σ H x v vl vu lo hi sl Q I rx hs pl pu h;obtain⟨a,xs,rfl,hx,hw,q⟩:=h;cases rx;obtain⟨its,r,ht,hz⟩:=I.tuple hx;have hlen:its.toArray.size=xs.length:=by rw [P6];exact r.length.symm
 refine⟨"tuple",_,PyProof.Rows.slot_tuple_getitem.lookup,ht.typeIs,?_⟩;refine HT.yM ht hs pl pu (by rw [hlen];exact hw) ?_ (by rw [hlen];exact hz);rw [hlen];refine⟨.ref s.heap.objs.size,_,I.laid (t':=s.toks) (o:= .tup (XW xs lo hi)) (λb ob q=>P1 _ q) (G5 _) ?_,rfl,q _ (I.hok.fresh (G5 _))⟩;exact⟨D9 (vK xs lo hi) hz,_,(r.drop (HT.sIx xs.length 0 lo)).take (HT.sIx xs.length xs.length hi-HT.sIx xs.length 0 lo),IsTupN.new _ _⟩
def Br (K:PySem.W.Frag):R2:=λx y H Q=> ∃a b xs ys,x= .ref a/\y= .ref b/\SqT K H a xs/\SqT K H b ys/\xs≠ []/\xs.length+ys.length<=sizeLine/\
 (ys= []->Q (.ref a) H)/\(ys≠ []-> ∀p,H p=none->Q (.ref p) (upd H p (.tup (xs++ys))))
theorem Vals.nil_iff {xs:List V}{us:List G0}(r:Vals xs us):us= []↔xs= []:=by
 cases r with
 |nil=>simp
 |cons _ _=>simp
theorem op_catT:OpR X (binaryOp .Add) (Br X.K):=by
 intro pins s σ H x y v u Q I rx ry h;obtain⟨a,b,xs,ys,rfl,rfl,ha,hb,hx,hz,q1,q2⟩:=h;cases rx;cases ry;obtain⟨its,r1,p1,_⟩:=I.tuple ha;obtain⟨its2,r2,p2,_⟩:=I.tuple hb;refine HT.Ps p1 p2 (λz=>hx (r1.nil_iff.mp z)) (λz=>⟨.ref a,H,I,rfl,q1 (r2.nil_iff.mp z)⟩) (λz=> ?_) (by rw [<-r1.length,<-r2.length];exact hz);refine⟨.ref s.heap.objs.size,_,I.laid (t':=s.toks) (o:= .tup (xs++ys)) (λb ob q=>P1 _ q) (G5 _) ?_,rfl,q2 (λw=>z (r2.nil_iff.mpr w)) _ (I.hok.fresh (G5 _))⟩;exact⟨by rw [G3];exact hz,_,r1.append r2,IsTupN.new _ _⟩
end
def ixN (n:Nat)(i:Int):Option Nat:=if 0<=i then (if i<n then some i.toNat else none) else if-(n:Int)<=i then some (i+n).toNat else none
def atI {α:Type}(xs:List α)(i:Int):Option α:=(ixN xs.length i).bind λj=>xs[j]?
theorem Uw {n:Nat}{i:Int}{j:Nat}(h:ixN n i=some j):seqIndex? i n=some j/\j<n/\ -(n:Int)<=i/\i<n:=by
 unfold ixN at h
 by_cases h0:0<=i
 ·rw [if_pos h0] at h
  by_cases h1:i<n
  ·rw [if_pos h1] at h;have e:i.toNat=j:=N3 h;exact⟨by rw [dH h0 h1,e],by omega,by omega,h1⟩
  ·rw [if_neg h1] at h;cases h
 ·rw [if_neg h0] at h
  by_cases h1: -(n:Int)<=i
  ·rw [if_pos h1] at h;have e:(i+n).toNat=j:=N3 h;exact⟨by rw [cH (by omega) h1,e],by omega,h1,by omega⟩
  ·rw [if_neg h1] at h;cases h
theorem WZ {α:Type}{xs:List α}{i:Int}{v:α}(h:atI xs i=some v): ∃j,seqIndex? i xs.length=some j/\xs[j]? =some v/\j<xs.length/\ -(xs.length:Int)<=i/\i<xs.length:=by
 unfold atI at h;cases e:ixN xs.length i with
 |none=>rw [e] at h;cases h
 |some j=>
  rw [e] at h;obtain⟨h1,h2,h3,h4⟩:=Uw e;exact⟨j,h1,h,h2,h3,h4⟩
theorem Ya {α:Type}{xs:List α}{j:Nat}{v:α}(h:xs[j]? =some v):atI xs (j:Int)=some v:=by
 have hj:j<xs.length:=(P4.mp h).1;have e:ixN xs.length (j:Int)=some j:=by
  unfold ixN;rw [if_pos (by omega),if_pos (by omega)];simp
 unfold atI;rw [e];exact h
def Zn (b:Expr):Prop:= ∀o i,subscripted b false o i=operate [o,i] (getItem o i)
def IxR (X:Cx)(r:R2):Prop:=
 ∀ (value slice:Expr) (pins:List (Addr×Obj)) (s:G2) (σ:St) (H:Hp) (x y:V) (v u:G0) (Q:VK),Inv X pins σ H s->RelV x v->RelV y u->r x y H Q->
  subscripted slice false v u=operate [v,u] (getItem v u)->wpAny (model X.prog X.w) X.A (subscriptTail value slice v u) (EP X pins σ Q) X.xe s
def MtR (X:Cx)(id:String)(r:V->List V->Hp->VK->Prop):Prop:=
 ∀ (pins:List (Addr×Obj)) (s:G2) (σ:St) (H:Hp) (x:V) (xs:List V) (v:G0) (us:List G0) (Q:VK),Inv X pins σ H s->RelV x v->Vals xs us->r x xs H Q->
  wpAny (model X.prog X.w) X.A (call (.builtin id) (v::us)) (EP X pins σ Q) X.xe s
section
variable {X:Cx}{a b:Expr}{ta tb:TE}{pos:Pos}
theorem IxR.or {r r':R2}(h:IxR X r)(h':IxR X r'):IxR X (λx y H Q=>r x y H Q\/r' x y H Q):=by
 intro value slice pins s σ H x y v u Q I rx ry q hs;rcases q with q|q
 ·exact h value slice pins s σ H x y v u Q I rx ry q hs
 ·exact h' value slice pins s σ H x y v u Q I rx ry q hs
theorem Bs {r:R2}(hr:IxR X r)(ha:PE X a ta)(hb:PE X b tb)(hs:Zn b):PE X (.Subscript a b pos) (tOp r ta tb):=by
 intro pins s σ H Q I h;exact gE (Bh ha hb I h λv u s2 x y H2 I2 rx ry q=>hr a b pins s2 σ H2 x y v u Q I2 rx ry q (hs _ _))
def CS (K:PySem.W.Frag):R2:=λx y H Q=> ∃p xs i v,x= .ref p/\y= .int i/\SqL K H p xs/\atI xs i=some v/\Q v H
def CT (K:PySem.W.Frag):R2:=λx y H Q=> ∃p xs i v,x= .ref p/\y= .int i/\SqT K H p xs/\atI xs i=some v/\Q v H
def CU:R2:=λx y H Q=> ∃z i c,x= .str z/\y= .int i/\z.length<=sizeLine/\atI z.cps.toList i=some c/\Q (.str ⟨#[c]⟩) H
theorem ix_list:IxR X (CS X.K):=by
 intro value slice pins s σ H x y v u Q I rx ry h hs;obtain⟨p,xs,i,z,rfl,rfl,hq,he,q⟩:=h;cases rx;obtain⟨t,rfl⟩:=ry;obtain⟨its,r,pl,hz⟩:=I.list hq;obtain⟨j,h1,h2,h3,h4,h5⟩:=WZ he;obtain⟨w,ew,rw'⟩:=r.get h2;have hl:=r.length;have hn:=Wc;have fin:EP X pins σ Q w s:=⟨z,H,I,rw',q⟩
 by_cases h0:0<=i
 ·have hj:i.toNat=j:=by
   rw [dH h0 h5] at h1;exact N3 h1
  exact item_listR pl.isList h0 (by omega) (by rw [hj];simpa using ew) fin hs
 ·have hj:(i+(its.toArray.size:Int)).toNat=j:=by
   rw [cH (by omega) h4] at h1;rw [P6,<-hl];exact N3 h1
  exact aR (x:=w) pl.isList.typeIs slot_list_getitem.lookup
   (wpAny_getItem_list_neg (Q:=λr s'=>r=w/\EP X pins σ Q r s') pl.isList (by omega) (by rw [P6]<;>omega) (by omega) (by rw [hj];simpa using ew) ⟨rfl,fin⟩) hs
theorem ix_tup:IxR X (CT X.K):=by
 intro value slice pins s σ H x y v u Q I rx ry h hs;obtain⟨p,xs,i,z,rfl,rfl,hq,he,q⟩:=h;cases rx;obtain⟨t,rfl⟩:=ry;obtain⟨its,r,pl,hz⟩:=I.tuple hq;obtain⟨j,h1,h2,h3,h4,h5⟩:=WZ he;obtain⟨w,ew,rw'⟩:=r.get h2;have hl:=r.length;have hn:=Wc;have fin:EP X pins σ Q w s:=⟨z,H,I,rw',q⟩;exact aR (x:=w) pl.typeIs slot_tuple_getitem.lookup
  (getItem_tuple (j:=j) (Q:=λr s'=>r=w/\EP X pins σ Q r s') pl (by omega) (by omega) (by rw [P6,<-hl];exact h1) (by simpa using ew) ⟨rfl,fin⟩) hs
theorem RU:IxR X CU:=by
 intro value slice pins s σ H x y v u Q I rx ry h hs;obtain⟨z,i,c,rfl,rfl,hz,he,q⟩:=h;obtain⟨t,rfl⟩:=rx;obtain⟨t',rfl⟩:=ry;obtain⟨j,h1,h2,h3,h4,h5⟩:=WZ he;have hl:z.cps.toList.length=z.length:=by simp [Str.length]
 rw [hl] at h1 h4 h5;have hn:=Wc;exact tail_any (gF s z t) slot_str_getitem.lookup (getItem_str (c:=c) (by
  have e1:decide (i< -(2^63:Int))=false:=decide_eq_false (by omega);have e2:decide (i>=2^63)=false:=decide_eq_false (by omega);rw [e1,e2,Bool.or_false]) (by rw [h1];simpa using h2) ⟨.str ⟨#[c]⟩,H,I.tok _,⟨_,rfl⟩,q⟩) hs
def rIx (K:PySem.W.Frag):R2:=λx y H Q=>CS K x y H Q\/CT K x y H Q\/CU x y H Q
theorem RV:IxR X (rIx X.K):=ix_list.or (ix_tup.or RU)
theorem VD (its:List G0)(n j:Nat)(u:G0):K1 (·.setIfInBounds j u) {cls:= .type "list",data:= .seq its.toArray n}= {cls:= .type "list",data:= .seq (its.set j u).toArray n}:=by
 simp [K1]
theorem Inv.lst {pins:List (Addr×Obj)}{σ:St}{H:Hp}{s:G2}{p:Addr}{xs:List V}(I:Inv X pins σ H s)(h:H p=some (.lst xs)):
 ∃ (its:List G0) (n:Nat),Vals xs its/\s.heap.get? p=some {cls:= .type "list",data:= .seq its.toArray n}/\xs.length<=sizeLine:=by
 obtain⟨z,its,n,r,e⟩:=I.hok p _ h;exact⟨its,n,r,e,z⟩
theorem Inv.lstUpd {pins:List (Addr×Obj)}{σ:St}{H:Hp}{s:G2}{p:Addr}{xs ys:List V}{its its':List G0}{n n':Nat}{f:Obj->Obj}(I:Inv X pins σ H s)(h:H p=some (.lst xs))
 (ho:s.heap.get? p=some {cls:= .type "list",data:= .seq its.toArray n})(hf:f {cls:= .type "list",data:= .seq its.toArray n}= {cls:= .type "list",data:= .seq its'.toArray n'})(r:Vals ys its')(hz:ys.length<=sizeLine)(t:Nat):
 Inv X pins σ (upd H p (.lst ys)) {s with heap:=s.heap.update p f,toks:=t}:=by
 have e:(s.heap.update p f).get? p=some {cls:= .type "list",data:= .seq its'.toArray n'}:=by
  rw [Heap.get?_update_self f ho (by rw [hf]<;>rfl),hf]
 refine I.write (x:=p) (e:=p) (by rw [h];trivial) (.inl rfl) (λb u hb q=>(aS _ _ (A1 hb)).trans q) ⟨_,e⟩ ?_;exact⟨hz,its',n',r,e⟩
def Bv:V->V->V->Hp->(Hp->Prop)->Prop:=λo i v H Q=> ∃p xs k j,o= .ref p/\i= .int k/\H p=some (.lst xs)/\ixN xs.length k=some j/\Q (upd H p (.lst (xs.set j v)))
theorem Qk:CG X Bv:=by
 intro pins s σ H o i v ov iv u Q I ro ri rv h;obtain⟨p,xs,k,j,rfl,rfl,hp,hj,q⟩:=h;cases ro;obtain⟨t,rfl⟩:=ri;obtain⟨its,n,r,ho,hz⟩:=I.lst hp;obtain⟨h1,h2,h3,h4⟩:=Uw hj;have hl:=r.length;have hn:=Wc;have I':Inv X pins σ (upd H p (.lst (xs.set j v))) {s with heap:=s.heap.update p (K1 (·.setIfInBounds j u))}:=
  I.lstUpd hp ho (VD its n j u) (r.set rv j) (by rw [List.length_set];exact hz) s.toks
 by_cases h0:0<=k
 ·have hk:k.toNat=j:=by
   rw [dH h0 h4] at h1;exact N3 h1
  exact PySem.W.ki_setAt ho h0 (by omega) (by rw [P6,<-hl];exact h4) (by rw [hk];exact⟨_,I',q⟩)
 ·have hk:(k+(its.toArray.size:Int)).toNat=j:=by
   rw [cH (by omega) h3] at h1;rw [P6,<-hl];exact N3 h1
  exact PySem.W.ki_setBack ho (by omega) (by rw [P6,<-hl];exact h3) (by omega) (by rw [hk];exact⟨_,I',q⟩)
theorem Wh (lo hi:Option Int)(n:Nat):(sliceBounds lo hi none n).1=((HT.sIx n 0 lo:Nat):Int)/\(sliceBounds lo hi none n).2.1=((HT.sIx n n hi:Nat):Int)/\(sliceBounds lo hi none n).2.2=1:=by
 refine⟨?_,?_,rfl⟩
 ·cases lo with
  |none=>simp [sliceBounds,HT.sIx]
  |some i=>
   simp only [sliceBounds,HT.sIx,cZ,show (1:Int)>0 by decide,if_true]
   by_cases h:i<0
   ·simp only [h,if_true]<;>omega
   ·simp only [h,if_false]<;>omega
 ·cases hi with
  |none=>simp [sliceBounds,HT.sIx]
  |some i=>
   simp only [sliceBounds,HT.sIx,cZ,show (1:Int)>0 by decide,if_true]
   by_cases h:i<0
   ·simp only [h,if_true]<;>omega
   ·simp only [h,if_false]<;>omega
theorem Zo (its:List G0)(lo hi:Option Int):slicePick its.toArray lo hi none=((its.drop (HT.sIx its.length 0 lo)).take (HT.sIx its.length its.length hi-HT.sIx its.length 0 lo)).toArray:=by
 obtain⟨h1,h2,h3⟩:=Wh lo hi its.toArray.size;unfold slicePick;rw [h1,h2,h3];simp only [sliceRange_one,pick_run,P6]<;>rfl
def Fs (K:PySem.W.Frag):V->Option Int->Option Int->Hp->VK->Prop:=λx lo hi H Q=> ∃a xs,x= .ref a/\SqL K H a xs/\ ∀p,H p=none->Q (.ref p) (upd H p (.lst (XW xs lo hi)))
theorem Pu:SlR X (Fs X.K):=by
 intro pins s σ H x v vl vu lo hi sl Q I rx hs pl pu h;obtain⟨a,xs,rfl,hx,q⟩:=h;cases rx;obtain⟨its,r,ht,hz⟩:=I.list hx;have hlen:=r.length;refine⟨"list",_,slot_list_getitem.lookup,ht.isList.typeIs,?_⟩;refine wpAny_getItem_list_slice ht.isList hs pl pu .none (by simp) ?_ (by rw [P6]<;>omega);rw [Zo,<-hlen];refine⟨.ref s.heap.objs.size,_,I.laid (t':=s.toks) (o:= .lst (XW xs lo hi)) (λb ob q=>P1 _ q) (G5 _) ?_,rfl,q _ (I.hok.fresh (G5 _))⟩;exact⟨D9 (vK xs lo hi) hz,_,0,(r.drop (HT.sIx xs.length 0 lo)).take (HT.sIx xs.length xs.length hi-HT.sIx xs.length 0 lo),S4 _ rfl⟩
theorem call_len_seq:CallR X (.builtin "len") (λxs H Q=> ∃p ys,xs= [.ref p]/\(SqL X.K H p ys\/SqT X.K H p ys)/\Q (.int ys.length) H):=by
 intro pins s σ H xs us Q I r h;obtain⟨p,ys,rfl,hq,q⟩:=h;obtain⟨u,rfl,rx⟩:=vJ r;cases rx;have hn:=Wc;rcases hq with hq|hq
 ·obtain⟨its,r',pl,hz⟩:=I.list hq;have hlen:=r'.length;exact Calls.call_len_list pl.isList (by simp only [P6]<;>omega) ⟨.int ys.length,H,I.tok _,⟨s.toks+1,by rw [P6,hlen]⟩,q⟩
 ·obtain⟨its,r',pl,hz⟩:=I.tuple hq;have hlen:=r'.length;exact len_tuple pl (by simp only [P6]<;>omega) ⟨.int ys.length,H,I.tok _,⟨s.toks+1,by rw [P6,hlen]⟩,q⟩
theorem call_tuple_of:CallR X (.type "tuple") (λxs H Q=> ∃p ys,xs= [.ref p]/\((SqL X.K H p ys/\ ∀l,H l=none->Q (.ref l) (upd H l (.tup ys)))\/(SqT X.K H p ys/\Q (.ref p) H))):=by
 intro pins s σ H xs us Q I r h;obtain⟨p,ys,rfl,h⟩:=h;obtain⟨u,rfl,rx⟩:=vJ r;cases rx;rcases h with ⟨hq,q⟩|⟨hq,q⟩
 ·obtain⟨its,r',pl,hz⟩:=I.list hq;have hlen:=r'.length;refine call_tuple_list pl.isList (λh' kp=> ?_) (by simp only [P6]<;>omega);have I1:Inv X pins σ H {s with heap:=h'}:=I.kept (t':=s.toks) kp;have I2:Inv X pins σ (upd H h'.objs.size (.tup ys)) {s with heap:=h'.push {cls:= .type "tuple",data:= .seq its.toArray}}:=
   I1.laid (t':=s.toks) (λb o e=>P1 _ e) (G5 _) (show ObjOk X.prog X.w _ _ _ (.tup ys) from ⟨hz,its,r',IsTupN.new _ _⟩)
  exact⟨.ref h'.objs.size,_,I2,rfl,q _ (I1.hok.fresh (G5 _))⟩
 ·obtain⟨its,r',pl,hz⟩:=I.tuple hq;exact call_tuple_same pl ⟨.ref p,H,I,rfl,q⟩
def tyV (K:PySem.W.Frag)(T:String)(x:V)(H:Hp):Prop:=match x with
 | .str _=>T= "str"
 | .int _=>T= "int"
 | .ref p=>(T= "list" /\ ∃xs,SqL K H p xs)\/(T= "tuple" /\ ∃o,K.lookup p=some o/\o.cls= .type "tuple" /\o.dict=none)\/
  (T= "dict" /\((∃kvs,H p=some (.dK kvs))\/ ∃kvs,H p=some (.dT kvs)))\/(T= "set" /\ ∃S n,H p=some (.set S n))
 |_=>False
theorem GC {pins:List (Addr×Obj)}{σ:St}{H:Hp}{s:G2}{T:String}{x:V}{v:G0}(I:Inv X pins σ H s)(r:RelV x v)(ty:tyV X.K T x H):
 s.TypeIs v T/\ ∀a,v= .ref a-> ∃ob,s.heap.get? a=some ob/\ob.dict=none:=by
 cases x with
 |str z=>
  obtain⟨t,rfl⟩:=r;cases (show T= "str" from ty);exact⟨gF s z t,λ_ e=>nomatch e⟩
 |int i=>
  obtain⟨t,rfl⟩:=r;cases (show T= "int" from ty);exact⟨aT s i t,λ_ e=>nomatch e⟩
 |ref p=>
  cases r;rcases ty with ⟨rfl,xs,hq⟩|⟨rfl,o,hk,hc,hd⟩|⟨rfl,hk⟩|⟨rfl,S,n,hk⟩
  ·obtain⟨its,_,pl,_⟩:=I.list hq;refine⟨pl.isList.typeIs,λa e=> ?_⟩;cases e;obtain⟨o,n,e,c,hd,_⟩:=pl;exact⟨o,e,hd⟩
  ·refine⟨⟨o,I.kIn p o hk,hc⟩,λa e=> ?_⟩;cases e;exact⟨o,I.kIn _ o hk,hd⟩
  ·have z: ∃o,s.heap.get? p=some o/\o.ExactDict:=by
    rcases hk with ⟨kvs,hk⟩|⟨kvs,hk⟩
    ·obtain⟨_,_,_,_,o,_,_,e,ex,_⟩:=I.hok p _ hk;exact⟨o,e,ex⟩
    ·obtain⟨_,_,_,_,o,_,_,e,ex,_⟩:=I.hok p _ hk;exact⟨o,e,ex⟩
   obtain⟨o,e,ex⟩:=z;refine⟨⟨o,e,ex.1⟩,λa e2=> ?_⟩;cases e2;exact⟨o,e,ex.2.1⟩
  ·obtain⟨o,_,_,_,e,ex,_⟩:=I.hok p _ hk;refine⟨⟨o,e,ex.1⟩,λa e2=> ?_⟩;cases e2;exact⟨o,e,ex.2.1⟩
 |_=>exact False.elim ty
def Ft (K:PySem.W.Frag)(T:String)(r:V->List V->Hp->VK->Prop)(to:TE):TE:=λσ H Q=>to σ H λx H1=>tyV K T x H1/\r x [] H1 Q
def tBM (K:PySem.W.Frag)(T:String)(r:V->List V->Hp->VK->Prop)(to:TE)(t:TA):TE:=λσ H Q=>to σ H λx H1=>tyV K T x H1/\t σ H1 λxs H2=>r x xs H2 Q
variable {o e:Expr}{es:List Expr}{to:TE}{t:TA}{name:Str}{apos cpos:Pos}{T id:String}{r:V->List V->Hp->VK->Prop}
theorem RW (pa:gG T)(slot:Slot T name id)(hty:typeOf (.builtin id)=pure (.type "method_descriptor"))(hm:MtR X id r)(ho:PE X o to)
 (hbase:attributeBase o name X.env (eval o X.env)=eval o X.env:=by rfl)(hline:(apos.endLine==cpos.line)=true:=by rfl):PE X (.Call (.Attribute o name apos) [] [] cpos) (Ft X.K T r to):=by
 intro pins s σ H Q I h;refine wpAny_Call_method0_late hbase hline (thn (ho pins s σ H _ I h) λv s1 ⟨x,H1,I1,r1,ty,q1⟩=> ?_);obtain⟨h1,h2⟩:=GC I1 r1 ty;exact⟨T,id,pa,slot,hty,h1,h2,U8 rfl (PySem.evalArgs_none (hm pins s1 σ H1 x [] v [] Q I1 r1 .nil q1))⟩
theorem Pv (pa:gG T)(slot:Slot T name id)(hty:typeOf (.builtin id)=pure (.type "method_descriptor"))(hm:MtR X id r)(ho:PE X o to)(ha:PA X (e::es) t)
 (hbase:attributeBase o name X.env (eval o X.env)=eval o X.env:=by rfl)
 (hfew:((backTo cpos (starEach (e::es) X.env)).all (λx=> !x.1)&&(backToKw cpos (keywordEach [] X.env)).all (λx=>x.1.isSome)
  &&decide ((e::es).length+([]:List U9).length+(if ([]:List U9).isEmpty then 0 else 1)<30))=true:=by rfl)
 (hline:(apos.endLine==cpos.line)=true:=by rfl)(hs:starEach (e::es) X.env=(false,eval e X.env)::starEach es X.env:=by rfl)(hplain:(backTo cpos (starEach es X.env)).any (·.1)=false:=by rfl):
 PE X (.Call (.Attribute o name apos) (e::es) [] cpos) (tBM X.K T r to t):=by
 intro pins s σ H Q I h;refine wpAny_Call_method_late hbase hfew hline rfl (thn (ho pins s σ H _ I h) λv s1 ⟨x,H1,I1,r1,ty,q1⟩=> ?_);obtain⟨h1,h2⟩:=GC I1 r1 ty;refine⟨T,id,pa,slot,hty,h1,h2,?_⟩;have hA:=ha cpos pins s1 σ H1 _ I1 q1;rw [hs] at hA ⊢;refine U8 (by show (false||(backTo cpos (starEach es X.env)).any (·.1))=false;rw [hplain]<;>rfl) (bF ?_);exact thn hA λus s2 ⟨vs,H2,I2,r2,q2⟩=>hm pins s2 σ H2 x vs v us Q I2 r1 r2 q2
end
def MtM (X:Cx)(id:String)(r:V->List V->Hp->VK->Prop):Prop:=
 ∀ (pins:List (Addr×Obj)) (s:G2) (σ:St) (H:Hp) (x:V) (xs:List V) (v:G0) (us:List G0) (Q:VK),Inv X pins σ H s->RelV x v->Vals xs us->r x xs H Q->
  wpAny (model X.prog X.w) X.A (call (.builtin id) (v::us)) (EP X pins σ Q) X.xe s
theorem Vals.one: ∀ {x:V} {us:List G0},Vals [x] us-> ∃u,us= [u]/\RelV x u
 |_,_,.cons r .nil=>⟨_,rfl,r⟩
theorem Vals.zero: ∀ {us:List G0},Vals [] us->us= []
 |_,.nil=>rfl
theorem Vals.rep {xs:List V}{us:List G0}(h:Vals xs us): ∀k:Nat,Vals (R6 k xs).flatten (R6 k us).flatten
 |0=> .nil
 |k+1=>by
  rw [C7,C7,A5,A5];exact Vals.append h (Vals.rep h k)
theorem vL (its:List G0): ∀ (k:Nat) (acc:List G0),
 eO (λx1 x2=>x1++x2) acc.toArray (R6 k its.toArray)=(acc++(R6 k its).flatten).toArray
 |0,acc=>by simp
 |k+1,acc=>by
  have e:acc.toArray++its.toArray=(acc++its).toArray:=by simp
  have e2:(acc++its)++(R6 k its).flatten=acc++(R6 (k+1) its).flatten:=by
   rw [C7,A5,G6]
  rw [<-e2,<-vL its k (acc++its),<-e,C7,a4]
section
variable {X:Cx}{pins:List (Addr×Obj)}{σ:St}{H:Hp}{s:G2}{l b:Addr}{xs ys zs:List V}
theorem Inv.lset {its its':List G0}{n:Nat}{f:Array G0->Array G0}{t':Nat}(I:Inv X pins σ H s)(hH:H l=some (.lst xs))
 (e:s.heap.get? l=some {cls:= .type "list",data:= .seq its.toArray n})(hf:f its.toArray=its'.toArray)(hv:Vals ys its')(hz:ys.length<=sizeLine):
 Inv X pins σ (upd H l (.lst ys)) {s with heap:=s.heap.update l (K1 f),toks:=t'}:=by
 have q:=PySem.IsL.update e f;rw [hf] at q;refine I.write (x:=l) (e:=l) (by rw [hH];exact trivial) (.inl rfl) (λb' u hb hu=>(aS s.heap (K1 f) (A1 hb)).trans hu) ⟨_,q⟩ ?_;exact⟨hz,its',_,hv,q⟩
theorem Inv.lnew {its:List G0}{t':Nat}(I:Inv X pins σ H s)(hv:Vals ys its)(hz:ys.length<=sizeLine):
 Inv X pins σ (upd H s.heap.objs.size (.lst ys)) {s with heap:=s.heap.push {cls:= .type "list",data:= .seq its.toArray},toks:=t'}:=
 I.laid (λ_ _ q=>P1 _ q) (G5 _) ⟨hz,its,0,hv,S4 _ rfl⟩
theorem Inv.fresh (I:Inv X pins σ H s):H s.heap.objs.size=none:=I.hok.fresh (G5 _)
theorem Inv.lstM (I:Inv X pins σ H s)(hH:H l=some (.lst xs)):xs.length<=sizeLine/\ ∃ (its:List G0) (n:Nat),Vals xs its/\xs.length=its.length/\s.heap.get? l=some {cls:= .type "list",data:= .seq its.toArray n}:=by
 obtain⟨z,its,n,r,e⟩:=I.hok l _ hH;exact⟨z,its,n,r,r.length,e⟩
theorem Ql {n:Nat}(h:n<=sizeLine):Q7 n=false:=by
 unfold Q7;exact decide_eq_false (by omega)
end
section
variable {X:Cx}
def Pw:V->List V->Hp->VK->Prop:=λx vs H Q=> ∃l xs y,x= .ref l/\vs= [y]/\H l=some (.lst xs)/\xs.length<sizeLine/\Q .non (upd H l (.lst (xs++ [y])))
theorem Ux:MtM X "list.append" Pw:=by
 intro pins s σ H x vs v us Q I rx rv h;obtain⟨l,xs,y,rfl,rfl,hH,hz,q⟩:=h;cases rx;obtain⟨u,rfl,ru⟩:=rv.one;obtain⟨z,its,n,r,hl,e⟩:=I.lstM hH;refine Y4 F.slot_list_append ⟨_,e,rfl⟩ F.entry_list_append (F.args_list_append_2 _ _) (PySem.list_append l its.toArray n u (by rw [P6];omega)) ⟨e,?_⟩;refine⟨.non,_,I.lset (its':=its++ [u]) hH e (by simp) (r.append (.cons ru .nil)) ?_,rfl,q⟩;rw [G3,F8];omega
def Fu:R2:=λx y H Q=> ∃l b xs zs,x= .ref l/\y= .ref b/\H l=some (.lst xs)/\H b=some (.lst zs)/\xs.length+zs.length<=sizeLine/\ ∀p,H p=none->Q (.ref p) (upd H p (.lst (xs++zs)))
theorem RX:OpR X (binaryOp .Add) Fu:=by
 intro pins s σ H x y v u Q I rx ry h;obtain⟨l,b,xs,zs,rfl,rfl,hH,hB,hz,q⟩:=h;cases rx;cases ry;obtain⟨z,its,n,r,hl,e⟩:=I.lstM hH;obtain⟨z2,its2,n2,r2,hl2,e2⟩:=I.lstM hB;refine PySem.P.add_list e e2 ?_ (by rw [P6,P6];omega);have ea:its.toArray++its2.toArray=(its++its2).toArray:=by simp
 rw [ea];exact⟨.ref _,_,I.lnew (t':=s.toks) (r.append r2) (by rw [G3];omega),rfl,q _ I.fresh⟩
def Fv:R2:=λx y H Q=> ∃l k xs,x= .ref l/\y= .int k/\H l=some (.lst xs)/\ -(2^63)<=k/\k<2^63/\xs.length*k.toNat<=sizeLine/\
 ∀p,H p=none->Q (.ref p) (upd H p (.lst (R6 k.toNat xs).flatten))
theorem Yb {α:Type}(xs:List α)(k:Nat):(R6 k xs).flatten.length=k*xs.length:=by
 induction k with
 |zero=>simp
 |succ k ih=>rw [C7,A5,G3,ih,X4,aU]
theorem RY:OpR X (binaryOp .Mult) Fv:=by
 intro pins s σ H x y v u Q I rx ry h;obtain⟨l,k,xs,rfl,rfl,hH,h1,h2,hz,q⟩:=h;cases rx;obtain⟨t,rfl⟩:=ry;obtain⟨z,its,n,r,hl,e⟩:=I.lstM hH;have hlen:its.toArray.size*k.toNat<=sizeLine:=by rw [P6,<-hl];exact hz
 have hcap: ¬its.toArray.size*k.toNat>(2^63-1) / 8:=by
  have:(sizeLine:Nat)<=(2^63-1) / 8:=by decide
  omega
 have hfit: ¬ (!eQ k)=true:=by
  rw [fitsIndex_both h1 h2];exact P3
 have hlong: ¬Q7 (its.toArray.size*k.toNat)=true:=by
  rw [Ql hlen];exact P3
 have hnew:eO (λx1 x2=>x1++x2) #[] (R6 (if its.toArray.isEmpty=true then 0 else k.toNat) its.toArray)=(R6 k.toNat its).flatten.toArray:=by
  have f0: ∀m:Nat,eO (λx1 x2=>x1++x2) #[] (R6 m its.toArray)=(R6 m its).flatten.toArray:=λm=>by
   have:=vL its m [];rw [N7] at this;exact this
  rw [f0];cases its with
  |nil=>simp
  |cons a r'=>rw [if_neg (by simp)]
 refine Z8 (T:= "list") (U:= "int") (by decide) ⟨_,e,rfl⟩ (λs'=>aT s' k t) noFill_list_mul dO W9 repeat_list F.slot_int_index.lookup
  (Y4 W9 (aT s k t) c9 (cI _ _) (int___rmul___int_list k t l its.toArray n)
   ⟨e,rfl,⟨_,e,rfl⟩,Y4 F.slot_list_mul ⟨_,e,rfl⟩ F.entry_list_mul (F.args_list_mul_2 _ _) (AutoListH.list___mul___list_int_3 l its.toArray n k t hfit hcap hlong) ⟨e,?_⟩⟩)
 rw [hnew];exact⟨.ref _,_,I.lnew (t':=s.toks) (r.rep k.toNat) (by rw [Yb,cJ];exact hz),rfl,q _ I.fresh⟩
end
end L2
namespace Att
open PySem PySem.W PySem.Calls PyProof.Rows
theorem vM {P:gL}{h:Heap}: ∀ (ns:List Int) (vs:List G0),WellAll P h vs (ns.map WData.int)->O1 vs ns:=by
 intro ns
 induction ns with
 |nil=>
  intro vs w;rw [K9] at w;cases w;exact .nil
 |cons n ns ih=>
  intro vs w;rw [R1] at w;cases w with
  |cons a b=>
   cases a;exact .cons _ _ (ih _ b)
theorem Uy {l:OpenLaw}{n:Nat}(hn:l.most=some n){P:gL}{h:Heap}{args:List WData}{vals:List G0}
 (hpre:l.row.toRowW.claim.pre args=true)(hwl:WellAll P h vals args):
 ∃a vs ns,vals= [N5 a]/\args= [WData.list (ns.map WData.int)]/\h.get? a=some {cls:= .type "list",data:= .seq vs.toArray}/\O1 vs ns/\ns.length<=n:=by
 have hsh:WShape.hasAll [] args [.list .int]=true:=(pre_splitW hpre).1;have hc:l.pre.holds [] {args:=args}=true:=(pre_splitW hpre).2;obtain⟨d,r,rfl,h1,h2⟩:=hasAllW_cons hsh;obtain rfl:=hasAllW_nil h2;obtain⟨xs,rfl,h3⟩:=hasW_list h1;obtain⟨ns,rfl⟩:=items_int h3;have hlen:ns.length<=n:=by
  unfold OpenLaw.pre at hc;have h4:(WTm.not (.lt (.lit (.int (n:Int))) (.len (.arg 0)))).holds [] {args:= [.list (ns.map .int)]}=true:=by
   have h4:=(holds_andW hc).1;rw [hn] at h4;exact h4
  have h5:=condW_of h4 (w_not (w_lt w_lit (w_len_list (w_arg rfl))));rw [G7] at h5;refine V8 λq=> ?_
  have q':(n:Int)<((ns.length:Nat):Int):=by omega
  first
   |(rw [decide_eq_true q'] at h5;exact absurd h5 (by decide))
   |(simp at h5;omega)
 cases hwl with
 |cons w1 w2=>
  cases w2;cases w1 with
  |list ho hall=>exact⟨_,_,ns,rfl,rfl,ho,vM ns _ hall,hlen⟩
theorem Uz (l:OpenLaw)(args:List WData):l.row.toRowW.claim.post args (.bool true) args=true:=
 postW_of (r:=l.row.toRowW) (X:=(true==true))
  (show WShape.has [] (.bool true) .bool=true by first|rfl|decide|simp [WShape.has,WShape.arms,WShape.armsAll])
  (show (WTm.eq .res (.lit (.bool true))).value [] {args:=args,res:=some (.bool true),after:=args}=some (.bool (true==true)) from w_eq_bool (w_res rfl) w_lit) rfl
theorem attach_call {l:OpenLaw}{n:Nat}{q:R5}{loose:List Str}{XP:(Str->Option G0)->Heap->Prop}{YP:T4->Heap->Prop}{d:DefRec}
 (hn:l.most=some n)(hdf:d.params.defaults= [])
 (call: ∀ (w:T4) (s₀ gR:G2) (mg mb:Str->Option G0) (fa:Addr) (o:Obj) (pm cd doc:G0) (a:Addr) (vs:List G0) (ns:List Int),
  Ground q loose [] XP w s₀ mg mb gR.heap->YP w gR.heap->
  gR.heap.get? fa=some o->o.data= .func (docDef d.name d.params d.body d.scope pm cd doc)->gR.heap.CodeRec cd d.name->mg d.name=some (.ref fa)->
  gR.heap.get? a=some {cls:= .type "list",data:= .seq vs.toArray}->O1 vs ns->ns.length<=n->gR.gens= #[]->
  codeAny (model l.prog w) callerA (.call (.ref fa) ⟨[.ref a],[]⟩) (λr s'=>r= .ok (.ret (.bool true))/\OldK gR.heap s'.heap/\s'.os=gR.os/\aB s'.gens) gR):
 WalkO q loose XP YP l.row.toRowW d [] (λf vs=>PySem.call f vs):=by
 intro w s₀ gR mg mb G Y fa o pm cd doc dV kV ho hd hcd hD hmg hg args vals as hpre hlay hrd hwl hlo;obtain rfl:dV= .none:=Dflts.none hD hdf;obtain rfl:kV= .none:=Dflts.noKw hD;obtain⟨a,vs,ns,rfl,rfl,hobj,hints,hlen⟩:=Uy hn hpre hwl;refine enter_call (cC (call w s₀ gR mg mb fa o pm cd doc a vs ns G Y ho (fd_plain hd) hcd hmg hobj hints hlen hg) λr s' hq=> ?_);obtain⟨rfl,h2,h3,h4⟩:=hq;exact⟨.inl ⟨.bool true,.bool true,[],rfl,λ_=>rfl,.bool true,Uz l _,λ_=>⟨List.Pairwise.nil,λ_ hm=>(nomatch hm)⟩⟩,h2,h3,h4⟩
end Att
namespace L2
open PySem PySem.Spec PyProof.Rows
theorem Wi: ∀ {vs:List G0} {ns:List Int},O1 vs ns->Vals (ns.map V.int) vs
 |_,_,.nil=> .nil
 |_,_,.cons n t h=> .cons ⟨t,rfl⟩ (Wi h)
def Only (H:Hp):Prop:= ∀b,H b=none\/ ∃o xs,H b=some (.frz o (.lst xs))
def wk (s:Stmt):Arguments:=match s with
 | .FunctionDef _ a _ _ _ _ _ _ _ _=>a
 |_=> {posonlyargs:= [],args:= [],vararg:=none,kwonlyargs:= [],kw_defaults:= [],kwarg:=none,defaults:= []}
def zc (s:Stmt):List Stmt:=match s with
 | .FunctionDef _ _ b _ _ _ _ _ _ _=>b
 |_=> []
def jc (s:Stmt):H0:=match s with
 | .FunctionDef _ _ _ _ _ _ sc _ _ _=>sc
 |_=> {kind:= .function,names:= [],isGenerator:=false,isCoroutine:=false}
abbrev CX0:CXT:=λ_ _ _ _ _ _=>False
abbrev E0:XK:=λ_ _ _=>False
variable {X:Cx}
theorem Bw:Us CX0 X E0:=λ_ _ _ _ _ _ _ h=>h.elim
structure Fun (K:PySem.W.Frag)(x qual:Str)(st:Stmt)(f:Addr)(fd:S7):Prop where
 ex: ∃ (oc:G0) (od:Option Addr) (kV doc pm:G0) (an:Option Addr) (cdv ct:G0) (osl:Array (Option G0)),
  fd=PySem.W.fnOf x qual (wk st) (zc st) (jc st) .none kV doc pm an cdv ct/\K.lookup f=some ⟨oc,od,.func fd,osl⟩/\PySem.W.codeIn K cdv qual=true
 kp:PySem.W.keepIn K (.ref f)=true
section
variable {P:R5}{w:T4}{K:PySem.W.Frag}{mg:Str->Option G0}{base:Heap}
variable {qual:Str}
theorem Fun.ok {x:Str}{st:Stmt}{f:Addr}{fd:S7}{N ps:List Str}{k:Nat}{sp:Sp}(F:Fun K x qual st f fd)(S:FnScope N ps (jc st))(len: ∀vs H Q E,sp vs H Q E->vs.length=ps.length)
 (hbody: ∀ (cdv:G0) (A:T9) (outer:List Env) (s:G2) (H:Hp) (vs:List V) (Q:VK) (E:XK),Room k (A.deeper (envOfC qual (jc st) s.heap.objs.size f cdv))->sp vs H Q E->
  ∃t,PSs (Qg CX0 P w K mg base N qual (jc st) f cdv A outer s H E).nox (zc st) t/\t {nx:=λ_ H'=>Q .non H',rt:=Q} (start N vs) H):FnOk P w K mg base CX0 (k+1) f fd ps sp:=by
 obtain⟨oc,od,kV,doc,pm,an,cdv,ct,osl,rfl,lk,hcd⟩:=F.ex;refine Bp lk hcd S len λA outer s H vs Q E hr hsp=> ?_
 obtain⟨t,h,q⟩:=hbody cdv A outer s H vs Q E hr hsp;exact⟨t,h.nox,q⟩
theorem Fun.binds {x:Str}{st:Stmt}{f:Addr}{fd:S7}{ps:List Str}(F:Fun K x qual st f fd)
 (h: ∀ (kV doc pm:G0) (an:Option Addr) (cdv ct:G0) (us:List G0),us.length=ps.length->bindArgs (PySem.W.fnOf x qual (wk st) (zc st) (jc st) .none kV doc pm an cdv ct) ⟨us,[]⟩=pure (ps.zip us)):Binds K fd ps []:=by
 obtain⟨oc,od,kV,doc,pm,an,cdv,ct,osl,rfl,lk,hcd⟩:=F.ex;exact .all (h kV doc pm an cdv ct)
theorem RZ {x:Str}{st:Stmt}{f:Addr}{oc:G0}{od an:Option Addr}{osl:Array (Option G0)}{kV doc pm cdv ct:G0}(l:K.lookup f=some ⟨oc,od,.func (PySem.W.fnOf x qual (wk st) (zc st) (jc st) .none kV doc pm an cdv ct),osl⟩)
 (c:PySem.W.codeIn K cdv qual=true)(k:PySem.W.keepIn K (.ref f)=true):Fun K x qual st f (PySem.W.fnOf x qual (wk st) (zc st) (jc st) .none kV doc pm an cdv ct):=⟨⟨oc,od,kV,doc,pm,an,cdv,ct,osl,rfl,l,c⟩,k⟩
end
theorem jP {n:Nat}(h:n<=1000):n<sizeLine:=O9 h (by decide)
theorem XX {A B:Prop}(h:B):if false=true then A else B:=by
 rw [if_neg P3];exact h
theorem Px {A B:Prop}(h:A):if true=true then A else B:=by
 rw [if_pos rfl];exact h
theorem Ma {c A B:Prop}[Decidable c](h1:c->A)(h2: ¬c->B):if c then A else B:=by
 by_cases h:c
 ·rw [if_pos h];exact h1 h
 ·rw [if_neg h];exact h2 h
section
variable {κ:Type}[DecidableEq κ]
def Wj (kvs:List (κ×V))(k:κ):Option V:=(kvs.find? λkv=>decide (kv.1=k)).map (·.2)
def Yc (kvs:List (κ×V))(k:κ)(v:V):List (κ×V):=
 if (kvs.any λkv=>decide (kv.1=k))=true then kvs.map (λkv=>if kv.1=k then (kv.1,v) else kv) else kvs++ [(k,v)]
theorem vz {p:κ×V}{r:List (κ×V)}{k:κ}(e:p.1=k):Wj (p::r) k=some p.2:=by simp [Wj,L8,e]
theorem vA {p:κ×V}{r:List (κ×V)}{k:κ}(e: ¬p.1=k):Wj (p::r) k=Wj r k:=by simp [Wj,L8,e]
theorem vB (k:κ): ∀kvs:List (κ×V),(kvs.any λkv=>decide (kv.1=k))=(Wj kvs k).isSome
 | []=>rfl
 |p::r=>by
  rw [bV]
  by_cases e:p.1=k
  ·simp only [vz e,decide_eq_true e,Bool.true_or,Y5]
  ·rw [vA e,decide_eq_false e,Bool.false_or];exact vB k r
theorem vN (kvs:List (κ×V))(k:κ)(v:V):(Yc kvs k v).length<=kvs.length+1:=by
 unfold Yc;split
 ·rw [G7];omega
 ·rw [G3,D5,T3];omega
theorem Qm {kvs:List (κ×V)}{k:κ}(v:V)(h:Wj kvs k=none):Yc kvs k v=kvs++ [(k,v)]:=by
 unfold Yc;rw [vB,h];exact if_neg (by decide)
theorem RelO.isSome_eq {o:Option V}{u:Option G0}(r:RelO o u):o.isSome=u.isSome:=by
 cases o with
 |none=>cases u with
  |none=>rfl
  |some _=>exact(show False from r).elim
 |some _=>cases u with
  |none=>exact(show False from r).elim
  |some _=>rfl
theorem RelO.getD {o:Option V}{u:Option G0}{d:V}{d':G0}(r:RelO o u)(rd:RelV d d'):RelV (o.getD d) (u.getD d'):=by
 cases o with
 |none=>cases u with
  |none=>exact rd
  |some _=>exact(show False from r).elim
 |some _=>cases u with
  |none=>exact(show False from r).elim
  |some _=>exact r
theorem KV.val {kvs:List (κ×V)}{vs:List (κ×G0)}(r:KV kvs vs)(k:κ):RelO (Wj kvs k) (valueAt vs k):=by
 unfold KV at r
 induction r with
 |nil=>exact E9
 | @cons p q ps qs h t ih=>
  obtain⟨h1,h2⟩:=h
  by_cases e:p.1=k
  ·have e':q.1=k:=h1.symm.trans e;have b:valueAt (q::qs) k=some q.2:=by simp [valueAt,L8,e']
   rw [vz e,b];exact h2
  ·have e': ¬q.1=k:=λz=>e (h1.trans z)
   have b:valueAt (q::qs) k=valueAt qs k:=by simp [valueAt,L8,e']
   rw [vA e,b];exact ih
theorem KV.any {kvs:List (κ×V)}{vs:List (κ×G0)}(r:KV kvs vs)(k:κ):(kvs.any λkv=>decide (kv.1=k))=vs.any λkv=>decide (kv.1=k):=by
 unfold KV at r
 induction r with
 |nil=>rfl
 |cons h t ih=>rw [bV,bV,ih,h.1]
theorem KV.repl {kvs:List (κ×V)}{vs:List (κ×G0)}(r:KV kvs vs)(k:κ){y:V}{u:G0}(ry:RelV y u):
 KV (kvs.map λkv=>if kv.1=k then (kv.1,y) else kv) (vs.map λkv=>if kv.1=k then (kv.1,u) else kv):=by
 unfold KV at r ⊢
 induction r with
 |nil=>exact .nil
 | @cons p q ps qs h t ih=>
  rw [R1,R1];refine .cons ?_ ih;obtain⟨h1,h2⟩:=h
  by_cases e:p.1=k
  ·rw [if_pos e,if_pos (h1.symm.trans e)];exact⟨h1,ry⟩
  ·rw [if_neg e,if_neg (λz=>e (h1.trans z))];exact⟨h1,h2⟩
theorem KV.put {kvs:List (κ×V)}{vs:List (κ×G0)}(r:KV kvs vs)(k:κ){y:V}{u:G0}(ry:RelV y u):KV (Yc kvs k y) (stored vs k u):=by
 unfold Yc stored;rw [r.any k]
 by_cases e:(vs.any λkv=>decide (kv.1=k))=true
 ·rw [if_pos e,if_pos e];exact r.repl k ry
 ·rw [if_neg e,if_neg e];exact Paired.snoc r ⟨rfl,ry⟩
theorem KV.length {kvs:List (κ×V)}{vs:List (κ×G0)}(r:KV kvs vs):kvs.length=vs.length:=Paired.length r
end
variable {P:R5}{w:T4}
theorem Py {k:Key}{u:G0}(r:RelV (kV k) u):(jD P w).is k u=true:=by
 cases k with
 |inl i=>obtain⟨t,e⟩:=(show ∃t,u=K6 i t from r);subst e;exact WW P w i t
 |inr x=>obtain⟨t,e⟩:=(show ∃t,u=aH x t from r);subst e;exact WX P w x t
theorem Wk: ∀ {ks:List Key} {us:List G0},Vals (ks.map kV) us->ItemsAre (jD P w) ks us
 | [],_,r=>by rw [K9] at r;cases r;exact .nil
 |k::ks,_,r=>by
  rw [R1] at r;cases r with
  |cons h t=>exact .cons (Py h) (Wk t)
abbrev KT (H:Hp):List (List Key×V)->List (List Key×Addr×G0)->Prop:=Paired λp q=>p.1=q.1/\H q.2.1=some (.tup (p.1.map kV))/\RelV p.2 q.2.2
variable {H:Hp}{kvs:List (List Key×V)}{xs:List (List Key×Addr×G0)}
theorem KT.val (r:KT H kvs xs)(k:List Key):RelO (Wj kvs k) ((atKey xs k).map (·.2)):=by
 induction r with
 |nil=>exact E9
 | @cons p q ps qs h t ih=>
  obtain⟨h1,_,h2⟩:=h
  by_cases e:p.1=k
  ·have e':q.1=k:=h1.symm.trans e;have b:atKey (q::qs) k=some q.2:=by simp [atKey,L8,e']
   rw [vz e,b];exact h2
  ·have e': ¬q.1=k:=λz=>e (h1.trans z)
   have b:atKey (q::qs) k=atKey qs k:=by simp [atKey,L8,e']
   rw [vA e,b];exact ih
theorem KT.repl (r:KT H kvs xs)(k:List Key){y:V}{u:G0}(ry:RelV y u):
 KT H (kvs.map λkv=>if kv.1=k then (kv.1,y) else kv) (xs.map (putAt k u)):=by
 induction r with
 |nil=>exact .nil
 | @cons p q ps qs h t ih=>
  rw [R1,R1];refine .cons ?_ ih;obtain⟨h1,h2,h3⟩:=h;unfold putAt
  by_cases e:p.1=k
  ·rw [if_pos e,if_pos (h1.symm.trans e)];exact⟨h1,h2,ry⟩
  ·rw [if_neg e,if_neg (λz=>e (h1.trans z))];exact⟨h1,h2,h3⟩
theorem KT.put (r:KT H kvs xs)(k:List Key){b:Addr}{y:V}{u:G0}(hb:H b=some (.tup (k.map kV)))(ry:RelV y u):
 KT H (Yc kvs k y) (storedH xs k b u):=by
 have e:(kvs.any λkv=>decide (kv.1=k))=(atKey xs k).isSome:=by
  rw [vB,(r.val k).isSome_eq,Option.isSome_map]
 unfold Yc storedH;rw [e]
 by_cases q:(atKey xs k).isSome=true
 ·rw [if_pos q,if_pos q];exact r.repl k ry
 ·rw [if_neg q,if_neg q];exact Paired.snoc r ⟨rfl,hb,ry⟩
theorem KT.keeps {H':Hp}(r:KT H kvs xs)(ht: ∀b ys,H b=some (.tup ys)->H' b=some (.tup ys)):KT H' kvs xs:=
 Paired.mapP r λ_ _ z=>⟨z.1,ht _ _ z.2.1,z.2.2⟩
section
variable {P:R5}{w:T4}{H:Hp}{h:Heap}{a:Addr}
theorem Mb {u:HO}(ok:HOk P w H h)(e:Rd H a u):ObjOk P w H h a u:=e.ok ok
theorem Pz {kvs:List (Key×V)}(ok:HOk P w H h)(e:Rd H a (.dK kvs)):kvs.length<=sizeLine/\(a==sysModules)=false/\ ∃vs,KV kvs vs/\h.DictOf (jD P w) a vs:=
 show ObjOk P w H h a (.dK kvs) from Mb ok e
theorem PB {kvs:List (Key×V)}(ok:HOk P w H h)(e:H a=some (.dK kvs)):kvs.length<=sizeLine/\(a==sysModules)=false/\ ∃vs,KV kvs vs/\h.DictOf (jD P w) a vs:=Pz ok (.inl e)
theorem UA {ks:List Key}(ok:HOk P w H h)(e:H a=some (.tup (ks.map kV))):(tupleKind (jD P w)).is h ks a:=by
 obtain⟨_,its,r,o,h1,h2,_,n,h3⟩:=(show ObjOk P w H h a (.tup (ks.map kV)) from ok a _ e);exact⟨o,its.toArray,n,h1,h2,h3,by simpa using Wk r⟩
theorem PC {kvs:List (List Key×V)}(ok:HOk P w H h)(e:Rd H a (.dT kvs)):kvs.length<=sizeLine/\(a==sysModules)=false/\
 ∃xs,KT H kvs xs/\h.DictOfH (tupleKind (jD P w)) a xs:=by
 obtain⟨z,y,xs,r,o,es,ep,h1,h2,h3,h4,h5⟩:=(show ObjOk P w H h a (.dT kvs) from Mb ok e);refine⟨z,y,xs,r,o,es,ep,h1,h2,h3,h4,λx hx=> ?_,h5⟩;have all: ∀ {l:List (List Key×V)} {m:List (List Key×Addr×G0)},KT H l m-> ∀x∈m,(tupleKind (jD P w)).is h x.1 x.2.1:=by
  intro l m q
  induction q with
  |nil=>intro x hx;exact nomatch hx
  | @cons p q ps qs hq t ih=>
   intro x hx;rcases S3.mp hx with e|hx
   ·subst e;exact UA ok (by rw [<-hq.1];exact hq.2.1)
   ·exact ih x hx
 exact all r x hx
theorem Bx {kvs:List (List Key×V)}(ok:HOk P w H h)(e:H a=some (.dT kvs)):kvs.length<=sizeLine/\(a==sysModules)=false/\
 ∃xs,KT H kvs xs/\h.DictOfH (tupleKind (jD P w)) a xs:=PC ok (.inl e)
end
def DGet (H:Hp)(a:Addr)(y:V)(r:Option V):Prop:=
 (∃kvs k,Rd H a (.dK kvs)/\y=kV k/\r=Wj kvs k)\/ ∃kvs k b,Rd H a (.dT kvs)/\y= .ref b/\H b=some (.tup (k.map kV))/\r=Wj kvs k
def DPut (H:Hp)(a:Addr)(y v:V)(H':Hp):Prop:=
 (∃kvs k,H a=some (.dK kvs)/\y=kV k/\kvs.length<sizeLine/\H'=upd H a (.dK (Yc kvs k v)))\/
 ∃kvs k b,H a=some (.dT kvs)/\y= .ref b/\H b=some (.tup (k.map kV))/\kvs.length<sizeLine/\H'=upd H a (.dT (Yc kvs k v))
variable {a:Addr}
theorem DGet.k {kvs:List (Key×V)}{k:Key}(e:H a=some (.dK kvs)):DGet H a (kV k) (Wj kvs k):= .inl ⟨kvs,k,.inl e,rfl,rfl⟩
theorem DPut.k {kvs:List (Key×V)}{k:Key}{v:V}(e:H a=some (.dK kvs))(hl:kvs.length<sizeLine):DPut H a (kV k) v (upd H a (.dK (Yc kvs k v))):= .inl ⟨kvs,k,e,rfl,hl,rfl⟩
section
variable {X:Cx}{pins:List (Addr×Obj)}{σ:St}{H:Hp}{s:G2}{a:Addr}{y v:V}{u r:G0}{o:Option V}{A:T9}{E:G0->G2->Prop}
theorem Inv.big (I:Inv X pins σ H s):sysModules<s.heap.objs.size:=by
 have h:mainGlobals<s.heap.objs.size:=(I.mod.glob.keeps I.bk).lt;exact V0 (by decide) h
theorem UB {h':Heap}{t':Nat}{ob:HO}(I:Inv X pins σ H s)(mu:Mut (H a))(hs:aP a s.heap h')(he: ∃q,h'.get? a=some q)(new:ObjOk X.prog X.w (upd H a ob) h' a ob):
 Inv X pins σ (upd H a ob) {s with heap:=h',toks:=t'}:=
 I.write (x:=a) (e:=a) mu (.inl rfl) (λb q hb z=>(hs.2 b hb).trans z) he new
theorem Mc {P:R5}{w:T4}{H':Hp}{h':Heap}{kvs:List (Key×V)}{vs:List (Key×G0)}(z:kvs.length<=sizeLine)(hd:(a==sysModules)=false)(rel:KV kvs vs)(dd:h'.DictOf (jD P w) a vs):
 ObjOk P w H' h' a (.dK kvs):=⟨z,hd,vs,rel,dd⟩
theorem UC {H':Hp}{Q:Unit->G2->Prop}(hu:A.units+1<cLine)(I:Inv X pins σ H s)(g:DPut H a y v H')(ry:RelV y u)(rv:RelV v r)(h: ∀s',Inv X pins σ H' s'->Q () s'):
 wpAny (model X.prog X.w) A (setItem (.ref a) u r) Q E s:=by
 rcases g with ⟨kvs,k,e,ey,l,eH⟩|⟨kvs,k,b,e,ey,eb,l,eH⟩
 ·subst ey eH;obtain⟨z,hd,vs,rel,dd⟩:=PB I.hok e;have hz:vs.length<=sizeLine:=by rw [<-rel.length];exact z
  have hl:(Yc kvs k v).length<=sizeLine:=by have:=vN kvs k v;omega
  refine wpAny_setItem_pairs (hsz:=hz) (Py ry) dd λh' dd' hs=>h _ ?_
  have he: ∃q,h'.get? a=some q:=let ⟨q,_,_,hq,_⟩:=dd';⟨q,hq⟩;exact UB I (by rw [e];exact E9) hs he (Mc hl hd (rel.put k rv) dd')
 ·subst ey eH;cases (show u=N5 b from ry);obtain⟨z,hd,xs,rel,dd⟩:=Bx I.hok e;have hz:xs.length<=sizeLine:=by rw [<-Paired.length rel];exact z
  have hl:(Yc kvs k v).length<=sizeLine:=by have:=vN kvs k v;omega
  refine wpAny_setItem_heap (hsz:=hz) (bZ hu) (UA I.hok eb) dd λh' dd' hs=>h _ ?_
  obtain⟨q,es,ep,hq,h2,h3,h4,_,h5⟩:=dd';refine UB I (by rw [e];exact E9) hs ⟨q,hq⟩ ⟨hl,hd,_,(rel.put k eb rv).keeps λc ys ec=> ?_,q,es,ep,hq,h2,h3,h4,h5⟩;rw [jf (WY ec e (λz=>nomatch z))];exact ec
end
def By (td ty tv:TE):TS:=λD σ H=>tv σ H λv H1=>td σ H1 λx H2=>ty σ H2 λy H3=> ∃a H4,x= .ref a/\DPut H3 a y v H4/\D.nx σ H4
section
variable {X:Cx}{o i e value:Expr}{pos pos' tpos:Pos}{td ty tv:TE}
theorem PD (hu:X.A.units+1<cLine)(ho:PE X o td)(hi:PE X i ty)(hv:PE X value tv)(hs:swapsWith value (some (.Subscript o i pos')) pos.line X.env=pure false):
 PS X (.Assign [.Subscript o i pos'] value pos) (By td ty tv):=by
 intro pins s σ H D I h;refine wpAny_Assign_Subscript (thn (hv pins s σ H _ I h) λr s1 ⟨v,H1,I1,rv,q1⟩=>thn (ho pins s1 σ H1 _ I1 q1) λu s2 ⟨x,H2,I2,rx,q2⟩=>thn (hi pins s2 σ H2 _ I2 q2) λiv s3 ⟨y,H3,I3,ry,a,H4,ex,g,q3⟩=> ?_) hs;subst ex;obtain rfl:u=N5 a:=rx;exact UC hu I3 g ry rv λs4 I4=>⟨σ,H4,I4,q3⟩
end
theorem Qn (h:Heap)(hb:sysModules<h.objs.size):ObjOk P w H (h.push {cls:= .type "dict",data:= .dict #[]}) h.objs.size (.dK []):=
 ⟨S1 _,beq_eq_false_iff_ne.mpr (A1 (S0 hb)),[],.nil,Heap.DictOf.new h⟩
def Md:TE:=λ_ H Q=> ∀p,H p=none->Q (.ref p) (upd H p (.dK []))
section
variable {X:Cx}{pos:Pos}
theorem pe_dnewK:PE X (.Dict [] [] pos) Md:=λpins s σ H Q I h=>
 wpAny_Dict_empty ⟨.ref s.heap.objs.size,_,I.laid (a:=s.heap.objs.size) (o:= .dK []) (t':=s.toks) (λ_ _ q=>P1 _ q) (G5 _) (Qn s.heap I.big),rfl,h _ (I.hok.fresh (G5 _))⟩
end
structure M2 (X:Cx)(o:Expr)(m:Str)(apos:Pos)(e f:Expr)(cpos:Pos):Prop where
 base:attributeBase o m X.env (eval o X.env)=eval o X.env
 few:((backTo cpos (starEach [e,f] X.env)).all (λx=> !x.1)&&(backToKw cpos (keywordEach [] X.env)).all (λx=>x.1.isSome)
  &&decide (([e,f]:List Expr).length+([]:List U9).length+(if ([]:List U9).isEmpty then 0 else 1)<30))=true
 line:(apos.endLine==cpos.line)=true
 trees:backTo cpos (starEach [e,f] X.env)= [(false,eval e X.env),(false,eval f X.env)]
def IsD (H:Hp)(a:Addr):Prop:=(∃kvs,Rd H a (.dK kvs))\/ ∃kvs,Rd H a (.dT kvs)
theorem Me {pins:List (Addr×Obj)}{σ:St}{s:G2}(I:Inv X pins σ H s)(d:IsD H a):
 s.TypeIs (.ref a) "dict" /\(∀b,N5 a= .ref b-> ∃ob,s.heap.get? b=some ob/\ob.dict=none)/\(a==sysModules)=false:=by
 rcases d with ⟨kvs,e⟩|⟨kvs,e⟩
 ·obtain⟨_,hd,vs,_,dd⟩:=Pz I.hok e;refine⟨dd.typeIs,λb q=> ?_,hd⟩;cases q;obtain⟨ob,_,_,h1,h2,_⟩:=dd;exact⟨ob,h1,h2.2.1⟩
 ·obtain⟨_,hd,xs,_,dd⟩:=PC I.hok e;refine⟨dd.typeIs,λb q=> ?_,hd⟩;cases q;obtain⟨ob,_,_,h1,h2,_⟩:=dd;exact⟨ob,h1,h2.2.1⟩
section
variable {X:Cx}{pins:List (Addr×Obj)}{σ:St}{H:Hp}{s:G2}{a:Addr}{y d:V}{u r:G0}{o:Option V}{A:T9}{E:G0->G2->Prop}
theorem Mf {Q:G0->G2->Prop}(hu:A.units+1<cLine)(I:Inv X pins σ H s)(g:DGet H a y o)(ry:RelV y u)(rd:RelV d r)(h: ∀w' s',Inv X pins σ H s'->RelV (o.getD d) w'->Q w' s'):
 wpAny (model X.prog X.w) A (call (.builtin "dict.get") [.ref a,u,r]) Q E s:=by
 rcases g with ⟨kvs,k,e,ey,l⟩|⟨kvs,k,b,e,ey,eb,l⟩
 ·subst ey;obtain⟨z,hd,vs,rel,dd⟩:=Pz I.hok e;refine cK PySem.F.slot_dict_get dd.typeIs PySem.F.entry_dict_get (PySem.F.args_dict_get_3 _ _ _) (meets_dict_get_default (jD X.prog X.w) a (Py ry) hd r) ⟨_,dd.mapOf,h _ _ (I.tok _) ?_⟩;rw [l];exact(rel.val k).getD rd
 ·subst ey;cases (show u=N5 b from ry);obtain⟨z,hd,xs,rel,dd⟩:=PC I.hok e;refine cK PySem.F.slot_dict_get dd.typeIs PySem.F.entry_dict_get (PySem.F.args_dict_get_3 _ _ _) (meetsH_dict_get_default (tupleKind (jD X.prog X.w)) a b hd r) ⟨bZ hu,k,xs,UA I.hok eb,dd,h _ _ (I.tok _) ?_⟩;rw [l];exact(rel.val k).getD rd
end
def Mg (td ty tx:TE):TE:=λσ H Q=>td σ H λx H1=> ∃a,x= .ref a/\IsD H1 a/\ty σ H1 λy H2=>tx σ H2 λz H3=> ∃o,DGet H3 a y o/\Q (o.getD z) H3
section
variable {X:Cx}{o e f:Expr}{apos cpos:Pos}{td ty tx:TE}
theorem Qo (hu:X.A.units+1<cLine)(ho:PE X o td)(he:PE X e ty)(hf:PE X f tx)(m:M2 X o "get" apos e f cpos):PE X (.Call (.Attribute o "get" apos) [e,f] [] cpos) (Mg td ty tx):=by
 intro pins s σ H Q I h;refine wpAny_Call_method m.base m.few m.line PySem.F.plainAttrs_dict PySem.F.slot_dict_get PySem.F.type_dict_get (thn (ho pins s σ H _ I h) λu s1 ⟨x,H1,I1,rx,a,ex,d,q1⟩=> ?_);subst ex;obtain rfl:u=N5 a:=rx;obtain⟨t1,t2,_⟩:=Me I1 d;refine⟨t1,t2,?_⟩;rw [m.trees];refine U8 rfl (bF (Y0 (thn (he pins s1 σ H1 _ I1 q1) λiv s2 ⟨y,H2,I2,ry,q2⟩=>
  Y0 (thn (hf pins s2 σ H2 _ I2 q2) λfv s3 ⟨z,H3,I3,rz,ov,g,q3⟩=>cB ?_))))
 exact Mf hu I3 g ry rz λw' s4 I4 rw'=>⟨_,H3,I4,rw',q3⟩
end
def zB (names:List (Str×NameKind))(env:Env)(cs:List (Str×Addr)):List (Str×Addr):=
 names.foldl (λcs p=>if p.2= .free then (match env.cells.lookup p.1 with|some c=>(p.1,c)::cs|none=>cs) else cs) cs
theorem jZ (p:Str×NameKind)(l:List (Str×NameKind))(env:Env)(cs:List (Str×Addr)):
 zB (p::l) env cs=zB l env (if p.2= .free then (match env.cells.lookup p.1 with|some c=>(p.1,c)::cs|none=>cs) else cs):=rfl
variable {env:Env}
theorem vO {f:Str×NameKind->List (Str×Addr)->Sem (ForInStep (List (Str×Addr)))}
 (h1: ∀p cs,p.2≠ .free->f p cs=pure (.yield cs))(h2: ∀p cs c,p.2= .free->env.cells.lookup p.1=some c->f p cs=pure (.yield ((p.1,c)::cs))):
 ∀ (l:List (Str×NameKind)) (cs:List (Str×Addr)),(∀p∈l,p.2= .free-> ∃c,env.cells.lookup p.1=some c)->forIn l cs f=pure (zB l env cs)
 | [],cs,_=>rfl
 |p::l,cs,h=>by
  have ih:=vO h1 h2 l
  by_cases hp:p.2= .free
  ·obtain⟨c,hc⟩:=h p D2 hp;rw [a5,h2 p cs c hp hc,pure_bind];show forIn l ((p.1,c)::cs) f=_;rw [ih _ λq hq=>h q (D3 _ hq),jZ,if_pos hp,hc]
  ·rw [a5,h1 p cs hp,pure_bind];show forIn l cs f=_;rw [ih _ λq hq=>h q (D3 _ hq),jZ,if_neg hp]
variable {scope:H0}
theorem Zp (h: ∀p∈scope.names,p.2= .free-> ∃c,env.cells.lookup p.1=some c):closureFor scope env=pure (zB scope.names env []):=by
 simp only [closureFor];rw [vO (env:=env) (λp cs hp=> ?_) (λp cs c hp hc=> ?_) _ _ h]
 ·rfl
 ·obtain⟨n,k⟩:=p;have hb:(k==B1)=false:=by simpa using hp
  simp only [hb,b6,if_false]
 ·obtain⟨n,k⟩:=p;have hb:(k==B1)=true:=by simpa using hp
  have hc':env.cells.lookup n=some c:=hc;simp only [hb,if_true,cellOf,hc',pure_bind]
theorem vP: ∀ (l:List (Str×NameKind)) (cs:List (Str×Addr)),(∀p∈cs,env.cells.lookup p.1=some p.2)-> ∀p∈zB l env cs,env.cells.lookup p.1=some p.2
 | [],cs,h,p,hp=>h p hp
 |q::l,cs,h,p,hp=>by
  rw [jZ] at hp;refine vP l _ (λr hr=> ?_) p hp
  by_cases hq:q.2= .free
  ·rw [if_pos hq] at hr;cases e:env.cells.lookup q.1 with
   |none=>rw [e] at hr;exact h r hr
   |some c=>
    rw [e] at hr;rcases S3.mp hr with rfl|hr
    ·exact e
    ·exact h r hr
  ·rw [if_neg hq] at hr;exact h r hr
theorem vQ: ∀ (l:List (Str×NameKind)) (cs:List (Str×Addr)),∀p∈cs,p∈zB l env cs
 | [],cs,p,hp=>hp
 |q::l,cs,p,hp=>by
  rw [jZ];refine vQ l _ p ?_
  by_cases hq:q.2= .free
  ·rw [if_pos hq];cases e:env.cells.lookup q.1 with
   |none=>exact hp
   |some c=>exact D3 _ hp
  ·rw [if_neg hq];exact hp
variable {x:Str}
theorem vR {c:Addr}(hc:env.cells.lookup x=some c): ∀ (l:List (Str×NameKind)) (cs:List (Str×Addr)),(x,B1)∈l->(x,c)∈zB l env cs
 |q::l,cs,h=>by
  rw [jZ];rcases S3.mp h with e|h
  ·subst e;rw [if_pos rfl,hc];exact vQ l _ _ D2
  ·exact vR hc l _ h
theorem zm {α:Type}: ∀ {l:List (Str×α)} {x:Str} {c:α},l.lookup x=some c->(x,c)∈l
 | [],_,_,h=>by simp at h
 |(n,k)::r,x,c,h=>by
  rw [C1] at h;cases hx:x==n with
  |true=>
   rw [hx] at h;have e:x=n:=eq_of_beq hx;cases h;subst e;exact D2
  |false=>rw [hx] at h;exact D3 _ (zm h)
theorem JK {α:Type}: ∀ {l:List (Str×α)} {x:Str} {c:α},(x,c)∈l-> ∃c',l.lookup x=some c'
 |(n,k)::r,x,c,h=>by
  rw [C1];cases hx:x==n with
  |true=>exact⟨_,rfl⟩
  |false=>
   rcases S3.mp h with e|h
   ·cases e;simp at hx
   ·exact JK h
theorem JL {l:List (Str×NameKind)}{c:Addr}(h:(zB l env []).lookup x=some c):env.cells.lookup x=some c:=
 vP l [] (λ_ z=>nomatch z) (x,c) (zm h)
theorem UD {l:List (Str×NameKind)}{c:Addr}(hc:env.cells.lookup x=some c)(h:(x,B1)∈l):(zB l env []).lookup x=some c:=by
 obtain⟨c',e⟩:=JK (vR hc l [] h);have:=JL e;rw [hc] at this;cases this;exact e
theorem zN {κ:Type}{f:Str×κ->Str×κ}{g:Str->κ->κ}(hf: ∀n k,f (n,k)=(n,g n k))(x:Str): ∀l:List (Str×κ),(l.map f).lookup x=(l.lookup x).map (g x)
 | []=>rfl
 |(n,k)::r=>by
  rw [R1,hf,C1,C1,zN hf x r];cases same:x==n with
  |false=>rfl
  |true=>rw [eq_of_beq same];rfl
theorem jC {names:List (Str×NameKind)}{k:NameKind}(found:
 (names.map λ(n,k)=>if (k==B1&&env.scope.kind== .function&&env.kindOf n==some .cell) then (n,E3) else (n,k)).lookup x=some k):
  names.lookup x=some k\/names.lookup x=some .free:=by
 rw [zN (g:=λn k=>if (k==B1&&env.scope.kind== .function&&env.kindOf n==some .cell) then .cell else k) (λn k=>by dsimp only;split<;>rfl)] at found;obtain⟨k0,was,now⟩:=V1.mp found;split at now
 ·rename_i c;simp only [O5,beq_iff_eq] at c;exact .inr (by rw [was,c.1.1])
 ·exact .inl (by rw [was,now])
theorem zg: ∀ (names:List (Str×NameKind)) (n:Nat) (acc:List (Str×Addr)) (p:Str×Addr),p∈cellsFrom n names acc->p∈acc\/(n<=p.2/\(p.1,E3)∈names)
 | [],_,_,_,h=> .inl h
 |(x,k)::r,n,acc,p,h=>by
  unfold cellsFrom at h;split at h
  ·rename_i hk;rcases zg r (n+1) _ p h with z|⟨z1,z2⟩
   ·rcases S3.mp z with e|z
    ·subst e;have:k= .cell:=by simpa using hk
     subst this;exact .inr ⟨G5 _,D2⟩
    ·exact .inl z
   ·exact .inr ⟨by omega,D3 _ z2⟩
  ·rcases zg r n acc p h with z|⟨z1,z2⟩
   ·exact .inl z
   ·exact .inr ⟨z1,D3 _ z2⟩
theorem jz: ∀ (names:List (Str×NameKind)) (n:Nat) (acc:List (Str×Addr)),cellsFrom n names acc=cellsFrom n names []++acc
 | [],_,_=>rfl
 |(x,k)::r,n,acc=>by
  unfold cellsFrom;split
  ·rw [jz r (n+1) ((x,n)::acc),jz r (n+1) [(x,n)],G6];rfl
  ·exact jz r n acc
theorem yN {α:Type}(l l':List (Str×α))(x:Str):(l++l').lookup x=(match l.lookup x with|some c=>some c|none=>l'.lookup x):=by
 induction l with
 |nil=>rfl
 |cons p l ih=>
  obtain⟨n,c⟩:=p;rw [E5,C1,C1];cases x==n with
  |true=>rfl
  |false=>exact ih
theorem wR {names:List (Str×NameKind)}(here:names.lookup x=some .cell):
 (names.map λ(n,k)=>if (k==B1&&env.scope.kind== .function&&env.kindOf n==some .cell) then (n,E3) else (n,k)).lookup x=some .cell:=by
 rw [zN (g:=λn k=>if (k==B1&&env.scope.kind== .function&&env.kindOf n==some .cell) then .cell else k) (λn k=>by dsimp only;split<;>rfl),here];simp
section
variable {M:fO}{A:T9}{E:G0->G2->Prop}{s:G2}
theorem VE (h:Heap)(names:List (Str×NameKind)):(∀n c,(n,c)∈cellsFrom h.objs.size names []->(pushCells h names).IsCell c none/\h.objs.size<=c)/\(cellsFrom h.objs.size names []).Pairwise λx y=>x.2≠y.2:=
 have laid:=cellsFrom_ok names h h.objs.size [] ⟨by simp,.nil⟩ (G5 _)
 ⟨laid.empty,laid.apart⟩
theorem Wl {scope:H0}{globals:Addr}{closure:List (Str×Addr)}{qual:Str}{func:Option Addr}{code:G0}{outer:Env}{builtins:Addr}{Q:Env->G2->Prop}
 (hQ: ∀h',h'.Ns s.heap.objs.size (λ_=>none)->(∀b o,s.heap.get? b=some o->h'.get? b=some o)->(∀n c,(n,c)∈cellsFrom (s.heap.objs.size+1) scope.names []->h'.IsCell c none/\s.heap.objs.size+1<=c)->
  ((cellsFrom (s.heap.objs.size+1) scope.names []).Pairwise λx y=>x.2≠y.2)->
  Q (newEnv scope s.heap.objs.size globals (cellsFrom (s.heap.objs.size+1) scope.names closure) qual func code (some outer) builtins) {s with heap:=h'}):
 wpAny M A (newFunctionEnv scope globals closure [] qual func code (some outer) builtins) Q E s:=by
 have names:=VE (s.heap.push {cls:= .type "dict",data:= .dict #[]}) scope.names;have first:(s.heap.push {cls:= .type "dict",data:= .dict #[]}).objs.size=s.heap.objs.size+1:=Y6 ..
 rw [first] at names;unfold newFunctionEnv;refine wpAny_bind (wpAny_alloc (wpAny_bind (wpAny_layCells _ (λn k cs=>rfl) _ _ _ _ ?_)));simp only [Y5,if_true];rw [first];exact wpAny_bind (P9 (P9 (hQ _ ((Heap.Ns.new _ _).keeps (dP _ _)) (λb o here=>dP _ _ b o (P1 _ here)) names.1 names.2)))
end
def ju (X:Cx)(scope:H0)(C:Addr):List (Str×Addr):=cellsFrom (C+1) scope.names (zB scope.names X.env [])
def vS (X:Cx)(scope:H0)(C:Addr)(s₀:G2)(H₀:Hp)(ex:List Addr):Cx:=
 {X with s₀:=s₀,H₀:=H₀,env:=compEnvC scope (ju X scope C) C X.env,outer:=X.stack,ex:=ex,fn:=λx=>scope.names.lookup x==some .cell,pn:= [],xe:=λ_ _=>False}
def jg (X:Cx)(scope:H0)(X':Cx):Prop:= ∃C s₀ H₀ ex,X'=vS X scope C s₀ H₀ ex
structure BlockOk (X:Cx)(scope:H0)(js:List Nat):Prop where
 kind:scope.kind= .function
 locs: ∀p∈scope.names,p.2= .local->scope.names.lookup p.1=some .local
 cels: ∀p∈scope.names,p.2= .cell->scope.names.lookup p.1=some .cell
 free: ∀p∈scope.names,p.2= .free->X.env.scope.names.lookup p.1=some .cell\/X.env.scope.names.lookup p.1=some .free
 js: ∀ (i:Nat) (x:Str),X.N[i]? =some x->(scope.names.lookup x=some .local\/scope.names.lookup x=some .cell)->i∈js
variable {js:List Nat}
theorem zI (S:BlockOk X scope js){C:Addr}{x:Str}{c:Addr}(h:(ju X scope C).lookup x=some c):
 (scope.names.lookup x≠some .cell/\X.env.cells.lookup x=some c)\/(scope.names.lookup x=some .cell/\(x,c)∈cellsFrom (C+1) scope.names []):=by
 unfold ju at h;rw [jz,yN] at h;cases e:(cellsFrom (C+1) scope.names []).lookup x with
 |some d=>
  rw [e] at h;cases h;have m:=zm e;rcases zg _ _ _ _ m with z|⟨_,z⟩
  ·exact absurd z (by simp)
  ·exact .inr ⟨S.cels _ z rfl,m⟩
 |none=>
  rw [e] at h;refine .inl ⟨λz=> ?_,JL h⟩;obtain⟨d,hd⟩:=vy (sc:=scope) (n:=C+1) z;rw [e] at hd;cases hd
theorem va (S:BlockOk X scope js){C:Addr}{x:Str}{c:Addr}(hc:X.env.cells.lookup x=some c)(h:(x,B1)∈scope.names)(hn:scope.names.lookup x≠some .cell):(ju X scope C).lookup x=some c:=by
 unfold ju;rw [jz,yN];cases e:(cellsFrom (C+1) scope.names []).lookup x with
 |some d=>
  rcases zg _ _ _ _ (zm e) with z|⟨_,z⟩
  ·exact absurd z (by simp)
  ·exact absurd (S.cels _ z rfl) hn
 |none=>exact UD hc h
def zf:List Nat->St->St
 | [],σ=>σ
 |j::js,σ=>zf js (σ.set j none)
theorem JM: ∀ (js:List Nat) (σ:St),(zf js σ).length=σ.length
 | [],_=>rfl
 |j::js,σ=>by rw [zf,JM js];simp
theorem vT: ∀ (js:List Nat) (σ:St) (i:Nat) (v:V),(zf js σ)[i]? =some (some v)->σ[i]? =some (some v)
 | [],_,_,_,h=>h
 |j::js,σ,i,v,h=>by
  have h1:=vT js _ i v h
  by_cases e:i=j
  ·subst e;rw [V2] at h1;simp at h1
  ·rwa [C0 (A1 e)] at h1
theorem zn: ∀ (js:List Nat) (σ:St) (i:Nat) (v:V),i∈js-> ¬ (zf js σ)[i]? =some (some v)
 |j::js,σ,i,v,hm,h=>by
  rcases S3.mp hm with rfl|hm
  ·have h1:=vT js _ i v h;rw [V2] at h1;simp at h1
  ·exact zn js _ i v hm h
theorem HOk.track {h:Heap}{o:HO}(x:HOk P w H h)(hn:H a=none)(new:ObjOk P w (upd H a o) h a o):HOk P w (upd H a o) h:=λb u e=>by
 by_cases hb:b=a
 ·subst hb;rw [jh] at e;cases e;exact new
 ·rw [jf hb] at e;exact(x b u e).stay (λc v _ q=>q) (λc q=>by rw [jf (je q hn)];exact q) λc xs q=>by rw [jf (je q hn)];exact q
def Agree (σ gO:St):Prop:=gO.length=σ.length/\ ∀ (i:Nat) (v:V),σ[i]? =some (some v)->gO[i]? =some (some v)
theorem Agree.set {σ:St}{j:Nat}(v:V)(h: ∀u,¬σ[j]? =some (some u)):Agree σ (σ.set j (some v)):=⟨by simp,λi u q=>by
 by_cases e:j=i
 ·subst e;exact absurd q (h u)
 ·rw [C0 e];exact q⟩
def PTs (X:Cx)(ifs:List Expr)(t:TT):Prop:=
 ∀ (pins:List (Addr×Obj)) (s:G2) (σ:St) (H:Hp) (Q:Bool->Hp->Prop),Inv X pins σ H s->t σ H Q->
  wpAny (model X.prog X.w) X.A (forIn ifs true λc r=>if r=true then do let ok <-isTrue c X.env (eval c X.env);pure (X0 ok) else pure (X0 r)) (TP X pins σ Q) X.xe s
def CV:TT:=λ_ H Q=>Q true H
theorem PF:PTs X [] CV:=λ_ _ _ H _ I h=>wpAny_tests_nil ⟨H,I,h⟩
theorem PH {c:Expr}{t:TT}(hc:PT X c t):PTs X [c] t:=λpins s σ H Q I h=>wpAny_tests_one (hc pins s σ H Q I h)
def JN (iter target:Expr)(ifs:List Expr)(it:G0)(env:Env)(act:Sem Unit)(nxt:Code):Sem PySem.Fin:=do
 standAt iter.pos
 match <-pyNext it with
 |none=>pure (.done .next)
 |some v=>
  letOwnedTupleGo target it v
  assign target env v
  let mut ok:=true
  for c in ifs do
   if ok then ok <-isTrue c env (eval c env)
  if ok then act
  again nxt
variable {elt iter:Expr}{pos:Pos}{ifs:List Expr}
theorem YY {prog:R5}{A:T9}{R:gK->G2->Prop}{s:G2}{target:Expr}{gens:List W3}{depth:Nat}{it acc:G0}{act:Sem Unit}(I:Nat->G2->Prop)
 (heq:compTurn (.ListComp elt gens scope pos) depth it acc env=JN iter target ifs it env act (.compLoop (.ListComp elt gens scope pos) depth it acc env))
 (turn: ∀n s,I n s->wpAny (model prog w) A (pyNext it) (λr gR=>match r with
  |none=>R (.ok .next) gR
  |some v=>wpAny (model prog w) A (letOwnedTupleGo target it v) (λ_ gR=>wpAny (model prog w) A (assign target env v) (λ_ g7=>
   wpAny (model prog w) A (forIn ifs true λc r=>if r=true then do let ok <-PySem.isTrue c env (eval c env);pure (X0 ok) else pure (X0 r)) (λok g4=>
    if ok=true then wpAny (model prog w) A act (λ_ iB=> ∃m,m<n/\I m iB) (λ_ _=>False) g4
    else ∃m,m<n/\I m g4) (λ_ _=>False) g7) (λ_ _=>False) gR) (λ_ _=>False) gR) (λ_ _=>False) s)
 (n:Nat)(h:I n s):
 codeAny (model prog w) A (.compLoop (.ListComp elt gens scope pos) depth it acc env) R s:=by
 refine codeAny_loop rfl I (λn s hI=> ?_) n h;show wpAny _ A ((compTurn (.ListComp elt gens scope pos) depth it acc env).onRaise (λx=>do noteFrame x env;theTreesLotGoes x)) _ _ s;refine wpAny_noted ?_;rw [heq];unfold JN;refine wpAny_bind (W1 (wpAny_bind (S9 (turn n s hI) (λr gR gY=> ?_) λ_ _ h'=>h'.elim)));cases r with
 |none=>exact P9 gY
 |some v=>
  refine wpAny_bind (S9 gY (λ_ gR gY=> ?_) λ_ _ h'=>h'.elim);refine wpAny_bind (S9 gY (λ_ g7 iG=>wpAny_bind (S9 iG (λok g4 iC=> ?_) λ_ _ h'=>h'.elim)) λ_ _ h'=>h'.elim);cases ok with
  |false=>exact P9 ⟨rfl,iC⟩
  |true=>exact wpAny_bind (S9 iC (λ_ iB iH=>P9 ⟨rfl,iH⟩) λ_ _ h'=>h'.elim)
abbrev TM:=St->Hp->List V->(List V->Hp->Prop)->Prop
def NR (X:Cx)(D:Addr)(act:Sem Unit)(t:TM):Prop:=
 ∀ (pins:List (Addr×Obj)) (s:G2) (σ:St) (H:Hp) (ys:List V) (us:List G0) (Q:List V->Hp->Prop),Inv X ([(D,A6 us)]++pins) σ H s->Vals ys us->ys.length<=sizeLine->D∈X.ex->(∀x c,X.env.cells.lookup x=some c->c≠D)->(∀p∈X.pn++pins,p.1≠D)->t σ H ys Q->
  wpAny (model X.prog X.w) X.A act (λ_ s'=> ∃ys' us' H',Vals ys' us'/\Inv X ([(D,A6 us')]++pins) σ H' s'/\Q ys' H') (λ_ _=>False) s
def Mh (te:TE):TM:=λσ H ys Q=>te σ H λy H1=>Q (ys++ [y]) H1
def JP (elt:Expr)(env:Env)(acc:G0):Sem Unit:=do let _ <-call (.builtin "list.append") [acc,<-eval elt env]
variable {te:TE}
theorem Zq {D:Addr}(hx:X.xe=λ_ _=>False)(he:PE X elt te):NR X D (JP elt X.env (.ref D)) (Mh te):=by
 intro pins s σ H ys us Q I hv hz DX cD pD h;have q:=he _ s σ H _ I h;rw [hx] at q;unfold JP;refine wpAny_bind (S9 q (λy s1 ⟨yv,H1,I1,r1,q1⟩=> ?_) λ_ _ z=>z);have zD:=I1.pin (D,A6 us) (P5 _ (M1 _ D2));refine wpAny_bind (append_at (its:=us.toArray) (n:=us.length) zD.1 (λh11 hs11 hD11=>P9 ?_) (by rw [P6,<-hv.length];exact hz));have I10u:Inv X pins σ H1 s1:=I1.pins_of λp hp=>I1.pin p (P5 _ (P5 _ hp))
 have I11:Inv X pins σ H1 {s1 with heap:=h11}:=I10u.turned (t':=s1.toks) (it:=D) (λb o hb e=>hs11.extBut b o hb e) zD.2.1 zD.2.2.1 (.inl DX) cD pD;have eD:h11.get? D=some (A6 (us++ [y])):=by rw [hD11];exact congrArg some (LCg.lst_snoc us y)
 refine⟨ys++ [yv],us++ [y],H1,hv.append (.cons r1 .nil),I11.pins_of λp hp=> ?_,q1⟩;rcases D0.mp hp with z|z
 ·rcases G9.mp z with rfl
  exact⟨eD,zD.2.1,zD.2.2.1,zD.2.2.2.1,λv z=>by cases z⟩
 ·exact I11.pin p (P5 _ z)
def NS (js : List Nat) (wi : TI) (g : TG) (tt : TT) (tm : TM) : TE := fun σ H Q => wi σ H fun J H1 =>
  ∃ W : Nat → Nat → List V → Hp → Prop, (∃ m, W 0 m [] H1) ∧ ∀ i m ys H, W i m ys H → ys.length ≤ sizeLine ∧
    ((J.stop i H ∧ ∀ p, H p = none → Q (.ref p) (upd H p (.lst ys))) ∨
     (J.go i H ∧ ∀ x H', J.yld i H x H' → g x (zf js σ) H' fun gQ H2 => Agree (zf js σ) gQ ∧ tt gQ H2 fun b H3 =>
        if b = true then tm gQ H3 ys fun ys' H4 => ∃ m', m' < m ∧ W (i + 1) m' ys' H4 else ∃ m', m' < m ∧ W (i + 1) m' ys H3))
def tLC (js:List Nat)(wi:TI)(g:TG)(tt:TT)(te:TE):TE:=NS js wi g tt (Mh te)
variable {tg:Expr}{wi:TI}{g:TG}{tt:TT}
theorem UE {e:Expr}{rest:List W3}{pos0:Pos}{tm:TM}{use:Option (G0->Sem Unit)}{Qv:G0->G2->Prop}(hc:X.calm=true)(S:BlockOk X scope js)(hi:PI X tg iter wi)
 (he0:e= .ListComp elt (⟨tg,iter,ifs,0⟩::rest) scope pos)
 (hg: ∀X',jg X scope X'->PG X' tg g)(ht: ∀X',jg X scope X'->PTs X' ifs tt)
 (act:Env->G0->Sem Unit)(hturn: ∀it acc env,compTurn e 0 it acc env=JN iter tg ifs it env (act env acc) (.compLoop e 0 it acc env))(he: ∀X',jg X scope X'-> ∀D,NR X' D (act X'.env (.ref D)) tm)
 (hs: ∀x,foldedSetIterable iter X.env x=pure x){pins:List (Addr×Obj)}{s:G2}{σ:St}{H:Hp}{Q:VK}(I:Inv X pins σ H s)(h:NS js wi g tt tm σ H Q)
 (fin: ∀ (D C:Addr) (H':Hp) (s':G2) (m:Str->Option G0),s'.heap.Ns C m->(∀h',aP C s'.heap h'->Inv X pins σ H' {s' with heap:=h'})->H' C=none->C≠X.env.locals->C ∉ X.fs->X.s₀.heap.objs.size<=C->(∀x c,X.env.cells.lookup x=some c->c≠C)->(∀p∈X.pn++pins,p.1≠C)->
  Q (.ref D) H'->compPost (model X.prog X.w) X.A X.xe use Qv (.ref D) C (.ok .next) s'):
 wpAny (model X.prog X.w) X.A (comprehension e scope X.env pos0 (newList []) false (eval iter X.env) use) Qv X.xe s:=by
 have hclos:=Zp (scope:=scope) (env:=X.env) (λp hp e=>I.ok.has p.1 (S.free p hp e));subst he0;refine wpAny_comprehension_free (use:=use) rfl hs hclos S.kind S.locs (thn (hi pins s σ H _ I h) λv s1 h1=>thn h1 λitv s2 h2=> ?_);obtain⟨it,fp,tn,J,H2,e,I2,T,st2,f2,W,⟨m0,w0⟩,turn⟩:=h2;subst e;refine J7 (Wl (λgY g8 hJ gZ g9=> ?_));dsimp only at g8 hJ gZ g9 ⊢;generalize hD:s2.heap.objs.size=D;generalize hH3:s2.heap.push {cls:= .type "list",dict:=none,data:= .seq ([]:List G0).toArray}=h3 at g8 hJ gZ g9 ⊢;have sz3:h3.objs.size=D+1:=by rw [<-hH3,Y6,hD]
 have up3: ∀b o,s2.heap.get? b=some o->h3.get? b=some o:=λb o e=>hH3 ▸ P1 _ e
 have I3:Inv X pins σ H2 {s2 with heap:=h3}:=I2.kept (t':=s2.toks) up3;have hD3:h3.get? D=some (A6 []):=by rw [<-hH3,<-hD];exact S4 _ rfl
 have fD:Ua X pins H2 D:=I2.fpOk (by rw [hD];exact G5 _) (I2.hok.fresh (by rw [hD];exact G5 _));have obf: ∀b∈fp,∃o,s2.heap.get? b=some o/\ ∀v,o.data≠ .cell v:=T.obj _ _ st2;have ltf: ∀b∈fp,b<D:=λb hb=>by obtain⟨o,e,_⟩:=obf b hb;rw [<-hD];exact P8 e
 generalize hC:h3.objs.size=C at g8 gZ g9 ⊢;have CD:C=D+1:=hC.symm.trans sz3;have upC: ∀b o,h3.get? b=some o->gY.get? b=some o:=hJ;generalize hX:vS X scope C {s2 with heap:=h3} H2 (fp++ [D])=X';have iX:jg X scope X':=⟨C,_,_,_,hX.symm⟩;have hf: ∀b∈fp++ [D],Ua X pins H2 b:=λb hb=>(D0.mp hb).elim (f2 b) λz=>by rw [G9.mp z];exact fD
 have cl: ∀x c,(ju X scope C).lookup x=some c->X.env.cells.lookup x=some c\/C<c:=λx c e=>by
  rcases zI S e with ⟨_,z⟩|⟨_,z⟩
  ·exact .inl z
  ·exact .inr (V3 (gZ x c z).2)
 have olt: ∀x c,X.env.cells.lookup x=some c->c<C:=λx c e=>by obtain⟨v,q⟩:=I3.cell x c e;rw [<-hC];exact q.lt
 have ltb: ∀b∈fp++ [D],b<C:=λb hb=>(D0.mp hb).elim (λz=>by have:=ltf b z;rw [CD];exact V4 this) λz=>by rw [G9.mp z,CD];exact O6 _
 have okX:X'.Ok:=by
  subst hX;refine⟨I.ok.mod,S.kind,I.ok.glob,I.ok.blt,C3 hC,λx y c e1 e2=> ?_,λx hx=> ?_,λx c z e=> ?_,I.ok.hd,I.ok.frames,.inl rfl,λb hb=>⟨S0 (ltb b hb),λx c e=>(cl x c e).elim (λz=>(hf b hb).2.2.2.2.1 x c z) λz=>E8 (V0 (ltb b hb) z)⟩,
   I3.bs,D9 I.ok.bsz I3.sz,λb o e hb=> ?_,λb hb z=> ?_,I3.stack,I3.stkFree⟩
  ·rcases zI S e1 with ⟨_,z1⟩|⟨_,z1⟩<;>rcases zI S e2 with ⟨_,z2⟩|⟨_,z2⟩
   ·exact I.ok.inj x y c z1 z2
   ·exact absurd (V0 (olt x c z1) (V3 (gZ y c z2).2)) (M7 _)
   ·exact absurd (V0 (olt y c z2) (V3 (gZ x c z1).2)) (M7 _)
   ·exact fQ g9 z1 z2
  ·have own:scope.names.lookup x=some .cell-> ∃c,(ju X scope C).lookup x=some c:=λz=>by
    obtain⟨c,hc⟩:=vy (sc:=scope) (n:=C+1) z;exact⟨c,by unfold ju;rw [jz,yN,hc]⟩
   have shr:scope.names.lookup x=some .free-> ∃c,(ju X scope C).lookup x=some c:=λz=>by
    have fm:=zm z;obtain⟨c,hc⟩:=I.ok.has x (S.free _ fm rfl);exact⟨c,va S hc fm (by rw [z];decide)⟩
   rcases hx with hx|hx
   ·rcases jC (env:=X.env) hx with z|z
    ·exact own z
    ·exact shr z
   ·rcases jC (env:=X.env) hx with z|z<;>exact shr z
  ·have z':scope.names.lookup x=some .cell:=by
    have z2:(scope.names.lookup x==some E3)=true:=z;simpa using z2
   rcases zI S e with ⟨n,_⟩|⟨_,m⟩
   ·exact absurd z' n
   ·show h3.objs.size<=c;rw [hC];exact D8 (V3 (gZ x c m).2)
  ·rcases (hf b hb).2.2.2.1 with z|z
   ·exact I.ok.noex b o e z
   ·exact absurd (R7 (P8 e) (D9 I.ok.bsz z)) (M7 _)
  ·rcases S3.mp (I.stkSub b z) with q|q
   ·exact(hf b hb).2.1 q
   ·exact(hf b hb).2.2.1 q
 -- the block's first state
 have I4:Inv X' [(D,A6 [])] (zf js σ) H2 {s2 with heap:=gY}:=by
  subst hX;have hDC:D≠C:=by rw [CD];exact S0 (O6 _)
  refine⟨okX,rfl,I2.bare,Un.kept (λb u e=>upC b u e),⟨_,g8,λi x v e1 e2 e3=> ?_⟩,λx c e=> ?_,I3.hok.fresh (C3 hC),λx c e=>(cl x c e).elim (λz=>I2.freeC x c z) (λz=>I3.hok.fresh (by rw [<-hC] at z;exact D8 z)),λp hp=> ?_,I3.hok.kept upC,(JM js σ).trans I2.len⟩
  ·have fr:scope.names.lookup x=some .free:=by
    rcases e3 with e3|e3|e3
    ·rcases jC (env:=X.env) e3 with z|z
     ·exact absurd e2 (zn js σ i v (S.js i x e1 (.inl z)))
     ·exact z
    ·rcases jC (env:=X.env) e3 with z|z
     ·exact absurd e2 (zn js σ i v (S.js i x e1 (.inr z)))
     ·exact z
    ·rcases jC (env:=X.env) e3 with z|z<;>exact z
   have fm:=zm fr;obtain⟨m,hm,hl⟩:=I2.loc;have vis:=S.free _ fm rfl;obtain⟨u,r,lk⟩:=hl i x v e1 (vT js σ i v e2) (.inr vis);have kd:(relabel scope X.env).names.lookup x=some .cell\/(relabel scope X.env).names.lookup x=some .free:=by
    rcases e3 with e3|e3|e3
    ·rcases jC (env:=X.env) e3 with z|z
     ·rw [fr] at z;cases z
     ·exfalso;have z2:=e3
      -- a local's kind stays
      exact absurd e2 (zn js σ i v (S.js i x e1 (.inl (by
       have q: ∀ (l:List (Str×NameKind)),(l.map λ(n,k)=>if (k==B1&&X.env.scope.kind== .function&&X.env.kindOf n==some .cell) then (n,E3) else (n,k)).lookup x=some .local->l.lookup x=some .local:=by
        intro l
        induction l with
        |nil=>intro h;simp at h
        |cons p l ih=>
         obtain⟨n,k'⟩:=p;intro h;have h':List.lookup x ((if (k'==B1&&X.env.scope.kind== .function&&X.env.kindOf n==some .cell)=true then (n,E3) else (n,k'))::(l.map λ(n,k)=>if (k==B1&&X.env.scope.kind== .function&&X.env.kindOf n==some .cell) then (n,E3) else (n,k)))=some .local:=h;rw [C1]
         by_cases hc:(k'==B1&&X.env.scope.kind== .function&&X.env.kindOf n==some .cell)=true
         ·rw [if_pos hc,C1] at h';cases hx:x==n with
          |true=>rw [hx] at h';cases h'
          |false=>rw [hx] at h';exact ih h'
         ·rw [if_neg hc,C1] at h';cases hx:x==n with
          |true=>rw [hx] at h';exact h'
          |false=>rw [hx] at h';exact ih h'
       exact q _ z2))))
    ·exact .inl e3
    ·exact .inr e3
   rcases lk with ⟨k,_⟩|⟨_,c,hc,hcell⟩
   ·have k':X.env.scope.names.lookup x=some .local:=k;rcases vis with z|z<;>(rw [k'] at z;cases z)
   ·refine⟨u,r,.inr ⟨kd,c,va S hc fm (by rw [fr];decide),?_⟩⟩;obtain⟨o,ho,hd⟩:=hcell;exact⟨o,upC _ _ (up3 _ _ ho),hd⟩
  ·rcases zI S e with ⟨_,z⟩|⟨_,z⟩
   ·obtain⟨v,o,ho,hd⟩:=I2.cell x c z;exact⟨v,o,upC _ _ (up3 _ _ ho),hd⟩
   ·exact⟨none,(gZ x c z).1⟩
  ·have hp':p∈ [(D,A6 [])]:=hp;rcases G9.mp hp' with rfl
   refine⟨upC _ _ hD3,fD.1,hDC,λz=> ?_,λv z=>by cases z⟩;rcases S3.mp (I.stkSub D z) with q|q
   ·exact fD.2.1 q
   ·exact fD.2.2.1 q
 have st4:tn 0 gY:=T.keep _ _ _ st2 λb _ o e=>upC _ _ (up3 _ _ e)
 have eA:X'.A=X.A:=by rw [<-hX];rfl
 have eP:X'.prog=X.prog:=by rw [<-hX];rfl
 have eW:X'.w=X.w:=by rw [<-hX];rfl
 have eK:X'.K=X.K:=by rw [<-hX];rfl
 have eC:X'.calm=true:=by rw [<-hX];exact hc
 have eV:X'.env=compEnvC scope (ju X scope C) C X.env:=by rw [<-hX];rfl
 have eE:X'.xe=λ_ _=>False:=by rw [<-hX];rfl
 -- what stays true of the iterator's objects
 have stat: ∀ {us:List G0} {H':Hp},(∀b∈fp,H' b=none)-> ∀b∈fp,Ua X' [(D,A6 us)] H' b:=λ{us H'} hn b hb=>by
  have q:=hf b (M1 _ hb);subst hX;refine⟨hn b hb,S0 (ltb b (M1 _ hb)),λz=> ?_,.inl (M1 _ hb),λx c e=>(cl x c e).elim (λz=>q.2.2.2.2.1 x c z) (λz=>E8 (V0 (ltb b (M1 _ hb)) z)),λp hp=> ?_⟩
  ·rcases S3.mp (I.stkSub b z) with r|r
   ·exact q.2.1 r
   ·exact q.2.2.1 r
  ·have hp':p∈ [(D,A6 us)]:=hp;rcases G9.mp hp' with rfl
   exact E8 (ltf b hb)
 have loop: ∀g4:G2,g4= {s2 with heap:=gY}->
  codeAny (model X.prog X.w) X.A (.compLoop (.ListComp elt (⟨tg,iter,ifs,0⟩::rest) scope pos) 0 (.ref it) (.ref D) (compEnvC scope (ju X scope C) C X.env))
   (compPost (model X.prog X.w) X.A X.xe use Qv (.ref D) C) g4:=by
  rintro g4 rfl;refine YY (act:=act (compEnvC scope (ju X scope C) C X.env) (.ref D)) (λn s'=> ∃i ys us H',Vals ys us/\Inv X' [(D,A6 us)] (zf js σ) H' s'/\tn i s'.heap/\(∀b∈fp,H' b=none)/\W i n ys H') (hturn _ _ _) ?_ m0
   ⟨0,[],[],H2,.nil,I4,st4,λb hb=>(f2 b hb).1,w0⟩
  rintro n s5 ⟨i,ys,us,H5,hv5,I5,st5,fr5,w5⟩;obtain⟨hz,tr⟩:=turn i n ys H5 w5;rcases tr with ⟨stop,qn⟩|⟨go,step⟩
  ·have q:=T.done X' eP eW eK eC i _ s5 _ H5 (λ_ _=>False) I5 (stat fr5) st5 stop;rw [eA] at q;refine S9 q (λr s6 ⟨hr,I6⟩=> ?_) λ_ _ z=>z
   subst hr;obtain⟨m6,hm6,_⟩:=I6.loc;rw [eV] at hm6;have zD:=I6.pin (D,A6 us) (P5 _ D2);have HD:H5 D=none:=zD.2.1;have oD:s6.heap.get? D=some (A6 us):=zD.1;have hDC:D≠C:=by rw [CD];exact S0 (O6 _)
   have HC:H5 C=none:=by have z:=I6.free;rw [eV] at z;exact z
   have B:=I6.base;have os6:s6.os=s2.os:=by have z:=I6.os;rw [<-hX] at z;exact z
   have Bu:Un (frs X.stack) (fp++ [D]) H2 H5 h3 s6.heap:=by rw [<-hX] at B;exact B
   have neC: ∀b o,h3.get? b=some o->b≠C:=λb o e=>by rw [<-hC];exact S0 (P8 e)
   refine fin D C (upd H5 D (.lst ys)) s6 m6 hm6 (λh' hs'=> ?_) (by rw [jf (A1 hDC)];exact HC) ?_ ?_ ?_ (λx c e=>S0 (olt x c e)) ?_ (qn D HD)
   ·have hk5:HOk X.prog X.w H5 h':=λb u e=>by
     have z:=I6.hok b u e;rw [eP,eW] at z;refine z.stay (λc v hc q=>hs'.extBut c v ?_ q) (λ_ q=>q) λ_ _ q=>q
     rcases hc with rfl|hc
     ·exact je e HC
     ·exact je hc HC
    refine I3.call' (ch:=fp++ [D]) os6 ⟨λb o e n hb hx=> ?_,λb o e n hb hx=> ?_,λb o e n hx=> ?_,λb o e hx=> ?_,λb xs e=> ?_,λb o u e=> ?_,λb ps e=> ?_⟩ (hk5.track HD ?_) I6.bare λb hb=> ?_
    ·exact hs'.extBut b o (neC b o e) (Bu.keep b o e n hb hx)
    ·obtain⟨sl,q⟩:=Bu.slot b o e n hb hx;exact⟨sl,hs'.extBut b _ (neC b o e) q⟩
    ·rw [jf λz=>hx (by rw [z];exact P5 _ D2)];exact Bu.free b o e n hx
    ·obtain⟨o',q⟩:=Bu.there b o e hx;exact⟨o',hs'.extBut b _ (neC b o e) q⟩
    ·have z:=Bu.tups b xs e;rw [jf (je z HD)];exact z
    ·have z:=Bu.frzs b o u e;rw [jf (je z HD)];exact z
    ·obtain⟨more,z⟩:=Bu.tbls b ps e;exact⟨more,by rw [jf (je z HD)];exact z⟩
    ·exact⟨hz,us,us.length,hv5,hs'.extBut D _ hDC oD⟩
    ·have q:=hf b hb;exact⟨q.2.2.2.1,q.2.1,q.2.2.2.2.1,q.2.2.2.2.2⟩
   ·rw [<-hC];exact E8 I3.lt
   ·exact I3.nofs (C3 hC)
   ·rw [<-hC];exact I3.sz
   ·intro p hp;have:=(I3.pin p hp).1;rw [<-hC];exact S0 (P8 this)
  ·have q:=T.item X' eP eW eK eC i _ s5 _ H5 (λ_ _=>False) I5 (stat fr5) st5 go;rw [eA] at q;refine S9 q (λr s6 ⟨u,hr,h6⟩=> ?_) λ_ _ z=>z
   subst hr;refine S9 h6 (λ_ s7 ⟨x,H7,I7,r7,y7,st7,fr7⟩=> ?_) λ_ _ z=>z
   have I7':=I7.pinned (stat fr7) (T.obj _ _ st7);have q7:=hg X' iX _ s7 _ H7 x u _ I7' r7 (step x H7 y7);rw [eP,eW,eA,eV,eE] at q7;refine S9 q7 (λ_ s8 ⟨g6,H8,I8,ag8,q8⟩=> ?_) λ_ _ z=>z
   have q9:=ht X' iX _ s8 g6 H8 _ I8 q8;rw [eP,eW,eA,eV,eE] at q9;refine S9 q9 (λok s9 ⟨H9,I9,q9⟩=> ?_) λ_ _ z=>z
   have keepT: ∀ {gO:St} {H':Hp} {s':G2} {us:List G0},Inv X' ([(D,A6 us)]++wH fp s7.heap) gO H' s'->tn (i+1) s'.heap/\ ∀b∈fp,H' b=none:=λ{gO H' s' us} I'=>
    ⟨T.keep _ _ _ st7 λb hb o e=>(I'.pin (b,o) (P5 _ (P5 _ (zl hb e)))).1,λb hb=>by
     obtain⟨o,e,_⟩:=T.obj _ _ st7 b hb;exact(I'.pin (b,o) (P5 _ (P5 _ (zl hb e)))).2.1⟩
   cases ok with
   |false=>
    have q9: ∃m',m'<n/\W (i+1) m' ys H9:=q9;obtain⟨m',hm,w9⟩:=q9;obtain⟨t9,f9⟩:=keepT I9;exact⟨m',hm,i+1,ys,us,H9,hv5,(I9.unpinned).weak ag8.1.symm ag8.2,t9,f9,w9⟩
   |true=>
    have q9:tm g6 H9 ys λys' H4=> ∃m',m'<n/\W (i+1) m' ys' H4:=q9
    have DX:D∈X'.ex:=by rw [<-hX];exact P5 _ D2
    have pD: ∀p∈X'.pn++wH fp s7.heap,p.1≠D:=λp hp=>by
     have hp':p∈wH fp s7.heap:=by rw [<-hX] at hp;simpa [vS] using hp
     exact S0 (ltf _ (vI hp').1)
    have cD: ∀x c,X'.env.cells.lookup x=some c->c≠D:=λx c e=>by
     rw [eV] at e;exact(cl x c e).elim (λz=>fD.2.2.2.2.1 x c z) λz=>E8 (V0 (by rw [CD];exact O6 _) z)
    have q10:=he X' iX D _ s9 g6 H9 ys us _ I9 hv5 hz DX cD pD q9;rw [eP,eW,eA,eV] at q10;show wpAny _ _ (act _ _) _ _ s9;refine S9 q10 (λ_ s10 ⟨ys',us',H10,hv10,I10,m',hm,w10⟩=> ?_) λ_ _ z=>z
    obtain⟨t10,f10⟩:=keepT I10;exact⟨m',hm,i+1,ys',us',H10,hv10,(I10.unpinned).weak ag8.1.symm ag8.2,t10,f10,w10⟩
 exact codeAny_compStart_list (loop _ rfl) (T.self X.A 0 _ _ _ st4 (loop _ rfl))
theorem Bz (hc:X.calm=true)(S:BlockOk X scope js)(hi:PI X tg iter wi)
 (hg: ∀X',jg X scope X'->PG X' tg g)(ht: ∀X',jg X scope X'->PTs X' ifs tt)(he: ∀X',jg X scope X'->PE X' elt te)
 (hs: ∀x,foldedSetIterable iter X.env x=pure x:=by intro _;rfl):PE X (.ListComp elt [⟨tg,iter,ifs,0⟩] scope pos) (tLC js wi g tt te):=by
 intro pins s σ H Q I h;rw [fK];exact UE (use:=none) hc S hi rfl hg ht (JP elt) (λ_ _ _=>rfl) (λX' hX D=>Zq (by obtain⟨_,_,_,_,rfl⟩:=hX;rfl) (he X' hX)) hs I h
  λD C H' s' m hn hk _ _ _ _ _ _ q=>⟨m,hn,λh' hs'=>⟨.ref D,H',hk h' hs',rfl,q⟩⟩
theorem UF {e:Expr}{rest:List W3}{pos' spos:Pos}{g':TG}{tm:TM}(hc:X.calm=true)(S:BlockOk X scope js)(hi:PI X tg iter wi)
 (he0:e= .ListComp elt (⟨tg,iter,ifs,0⟩::rest) scope pos)(hg: ∀X',jg X scope X'->PG X' tg g)(ht: ∀X',jg X scope X'->PTs X' ifs tt)
 (act:Env->G0->Sem Unit)(hturn: ∀it acc env,compTurn e 0 it acc env=JN iter tg ifs it env (act env acc) (.compLoop e 0 it acc env))(he: ∀X',jg X scope X'-> ∀D,NR X' D (act X'.env (.ref D)) tm)
 (hg':PG X (.Name x pos') g')(hsw:swapsWith e (some (.Name x pos')) spos.line X.env=pure true)
 (hs: ∀x,foldedSetIterable iter X.env x=pure x):PS X (.Assign [.Name x pos'] e spos) (Gy (NS js wi g tt tm) g'):=by
 intro pins s σ H Dn I h;rw [exec_Assign_Name_used _ _ _ _ hsw];refine wpAny_bind (W1 (wpAny_bind ?_));subst he0;rw [arm_evalThenUse_ListComp];show wpAny _ X.A (do let _ <-comprehension (.ListComp elt (⟨tg,iter,ifs,0⟩::rest) scope pos) scope X.env _ (newList []) false (eval iter X.env) (some (assign (.Name x pos') X.env))) _ _ s;refine wpAny_bind (S9 (UE (use:=some (assign (.Name x pos') X.env)) (Qv:=λ_ s'=>SP X pins Dn .next s') hc S hi rfl hg ht act hturn he hs I h ?_) (λ_ s' hq=>P9 (P9 hq)) λ_ _ e=>e);intro D C H' s' m hn hk HC nL nf sz ncell npin q;show wpAny _ X.A (assign (.Name x pos') X.env (.ref D)) _ _ s';obtain⟨o,es,ep,ho,hd,hr⟩:=id hn;have I1:Inv X pins σ H' s':=hk s'.heap (Heap.SameBut.refl ..);have I2:Inv X (pins++ [(C,o)]) σ H' s':=I1.pins_of λp hp=>by
  rcases D0.mp hp with z|z
  ·exact I1.pin p (P5 _ z)
  ·rcases G9.mp z with rfl
   exact⟨ho,HC,nL,nf,λv z=>by rw [hd] at z;cases z⟩
 refine S9 (hg' _ s' σ H' (.ref D) (.ref D) _ I2 rfl q) (λ_ s3 ⟨gT,H3,I3,q3⟩=> ?_) λ_ _ z=>z
 have pC:=I3.pin (C,o) (P5 _ (P5 _ D2));refine⟨m,hn.at' λo' e'=> ?_,λh' hs'=> ?_⟩
 ·rw [ho] at e';cases e';exact pC.1
 ·exact⟨gT,H3,(I3.unpinned).turned (t':=s3.toks) (it:=C) (λb o hb e=>hs'.extBut b o hb e) pC.2.1 nL (.inr sz) ncell npin,q3⟩
theorem Qp {pos' spos:Pos}{g':TG}(hc:X.calm=true)(S:BlockOk X scope js)(hi:PI X tg iter wi)
 (hg: ∀X',jg X scope X'->PG X' tg g)(ht: ∀X',jg X scope X'->PTs X' ifs tt)(he: ∀X',jg X scope X'->PE X' elt te)
 (hg':PG X (.Name x pos') g')(hsw:swapsWith (.ListComp elt [⟨tg,iter,ifs,0⟩] scope pos) (some (.Name x pos')) spos.line X.env=pure true)
 (hs: ∀x,foldedSetIterable iter X.env x=pure x:=by intro _;rfl):PS X (.Assign [.Name x pos'] (.ListComp elt [⟨tg,iter,ifs,0⟩] scope pos) spos) (Gy (tLC js wi g tt te) g'):=
 UF hc S hi rfl hg ht (JP elt) (λ_ _ _=>rfl) (λX' hX D=>Zq (by obtain⟨_,_,_,_,rfl⟩:=hX;rfl) (he X' hX)) hg' hsw hs
def VF (e iter:Expr)(env:Env)(acc:G0):Sem Unit:=do
 let x <-eval iter env
 standAt iter.pos
 let x <-foldedSetIterable iter env x
 let _ <-runOwn (.compStart e 1 (<-holding [x] (pyIter x)) acc env) env
def mIn (wi : TI) (g : TG) (tt : TT) (tm : TM) : TM := fun σ H ys Q => wi σ H fun J H1 =>
  ∃ W : Nat → Nat → List V → Hp → Prop, (∃ m, W 0 m ys H1) ∧ ∀ i m ys H, W i m ys H → ys.length ≤ sizeLine ∧
    ((J.stop i H ∧ Q ys H) ∨
     (J.go i H ∧ ∀ x H', J.yld i H x H' → g x σ H' fun gQ H2 => Agree σ gQ ∧ tt gQ H2 fun b H3 =>
        if b = true then tm gQ H3 ys fun ys' H4 => ∃ m', m' < m ∧ W (i + 1) m' ys' H4 else ∃ m', m' < m ∧ W (i + 1) m' ys H3))
theorem yk {prog:R5}{A:T9}{R:gK->G2->Prop}{s:G2}{g0 g1:W3}{it acc:G0}(ha:g1.is_async=0)
 (h0:codeAny (model prog w) A (.compLoop (.ListComp elt [g0,g1] scope pos) 1 it acc env) R s)
 (h:wpAny (model prog w) A (pyIter it) (λit' s'=>codeAny (model prog w) A (.compLoop (.ListComp elt [g0,g1] scope pos) 1 it' acc env) R s')
  (notedBy (model prog w) A env λx s'=>R (.error x) s') s):
 codeAny (model prog w) A (.compStart (.ListComp elt [g0,g1] scope pos) 1 it acc env) R s:=by
 obtain⟨tg,iter,ifs,as⟩:=g1;cases (show as=0 from ha);refine codeAny_of_tree (wpAny_notedAt ?_);obtain⟨hp,g,d,tk,os⟩:=s;unfold compStart
 wp_walk
 refine wpAny_askSetting ?_;split
 ·exact P9 ⟨rfl,h0⟩
 ·exact wpAny_bind (b7 (wpAny_bind (W1 (wpAny_bind (S9 h (λ_ _ on=>P9 ⟨rfl,on⟩) λ_ _ x=>x)))))
theorem UG {D:Addr}{g0:W3}(hc:X.calm=true)(hx:X.xe=λ_ _=>False)
 (hi:PI X tg iter wi)(hg:PG X tg g)(ht:PTs X ifs tt)(he:PE X elt te)(hs: ∀x,foldedSetIterable iter X.env x=pure x):
 NR X D (VF (.ListComp elt [g0,⟨tg,iter,ifs,0⟩] scope pos) iter X.env (.ref D)) (mIn wi g tt (Mh te)):=by
 intro pins s σ H ys us Q I hv hz DX cD pD h;have q:=hi _ s σ H _ I h;rw [hx] at q;unfold VF;refine wpAny_bind (S9 q (λv s1 h1=>wpAny_bind (W1 (wpAny_bind (wpAny_of_eq (hs v) (wpAny_bind (E1 (S9 h1 (λitv s2 h2=> ?_) λ_ _ z=>z))))))) λ_ _ z=>z);obtain⟨it,fp,tn,J,H2,e,I2,T,st2,f2,W,⟨m0,w0⟩,turn⟩:=h2;subst e;refine wpAny_bind (wpAny_runOwn ?_);have neD: ∀b∈fp,b≠D:=λb hb=>by
  have z:=(f2 b hb).2.2.2.2.2 (D,A6 us) (P5 _ (M1 _ D2));exact A1 z
 have stat: ∀ {us':List G0} {H':Hp},(∀b∈fp,H' b=none)-> ∀b∈fp,Ua X ([(D,A6 us')]++pins) H' b:=λ{us' H'} hn b hb=>by
  have q:=f2 b hb;refine⟨hn b hb,q.2.1,q.2.2.1,q.2.2.2.1,q.2.2.2.2.1,λp hp=> ?_⟩;rcases D0.mp hp with z|z
  ·exact q.2.2.2.2.2 p (M1 _ z)
  ·rcases D0.mp z with z|z
   ·rcases G9.mp z with rfl
    exact A1 (neD b hb)
   ·exact q.2.2.2.2.2 p (P5 _ (P5 _ z))
 have loop:codeAny (model X.prog X.w) X.A (.compLoop (.ListComp elt [g0,⟨tg,iter,ifs,0⟩] scope pos) 1 (.ref it) (.ref D) X.env)
  (λr s'=>match r with| .ok f=>wpAny (model X.prog X.w) X.A (pure ()) (λ_ s'=> ∃ys' us' H',Vals ys' us'/\Inv X ([(D,A6 us')]++pins) σ H' s'/\Q ys' H') (λ_ _=>False) s'| .error e=>cameBackBy (model X.prog X.w) X.A X.env (λ_ _=>False) e s') s2:=by
  refine YY (act:=JP elt X.env (.ref D)) (λn s'=> ∃i ys us H',Vals ys us/\Inv X ([(D,A6 us)]++pins) σ H' s'/\tn i s'.heap/\(∀b∈fp,H' b=none)/\W i n ys H') rfl ?_ m0
   ⟨0,ys,us,H2,hv,I2,st2,λb hb=>(f2 b hb).1,w0⟩
  rintro n s5 ⟨i,ys,us,H5,hv5,I5,st5,fr5,w5⟩;obtain⟨hz,tr⟩:=turn i n ys H5 w5;rcases tr with ⟨stop,qn⟩|⟨go,step⟩
  ·refine S9 (T.done X rfl rfl rfl hc i _ s5 _ H5 (λ_ _=>False) I5 (stat fr5) st5 stop) (λr s6 ⟨hr,I6⟩=> ?_) λ_ _ z=>z
   subst hr;exact P9 ⟨ys,us,H5,hv5,I6,qn⟩
  ·refine S9 (T.item X rfl rfl rfl hc i _ s5 _ H5 (λ_ _=>False) I5 (stat fr5) st5 go) (λr s6 ⟨u,hr,h6⟩=> ?_) λ_ _ z=>z
   subst hr;refine S9 h6 (λ_ s7 ⟨x,H7,I7,r7,y7,st7,fr7⟩=> ?_) λ_ _ z=>z
   have I7':=I7.pinned (stat fr7) (T.obj _ _ st7);have q7:=hg _ s7 _ H7 x u _ I7' r7 (step x H7 y7);rw [hx] at q7;refine S9 q7 (λ_ s8 ⟨g6,H8,I8,ag8,q8⟩=> ?_) λ_ _ z=>z
   have q9:=ht _ s8 g6 H8 _ I8 q8;rw [hx] at q9;refine S9 q9 (λok s9 ⟨H9,I9,q9⟩=> ?_) λ_ _ z=>z
   have keepT: ∀ {gO:St} {H':Hp} {s':G2} {us:List G0},Inv X (([(D,A6 us)]++pins)++wH fp s7.heap) gO H' s'->tn (i+1) s'.heap/\ ∀b∈fp,H' b=none:=λ{gO H' s' us} I'=>
    ⟨T.keep _ _ _ st7 λb hb o e=>(I'.pin (b,o) (P5 _ (P5 _ (zl hb e)))).1,λb hb=>by
     obtain⟨o,e,_⟩:=T.obj _ _ st7 b hb;exact(I'.pin (b,o) (P5 _ (P5 _ (zl hb e)))).2.1⟩
   cases ok with
   |false=>
    have q9: ∃m',m'<n/\W (i+1) m' ys H9:=q9;obtain⟨m',hm,w9⟩:=q9;obtain⟨t9,f9⟩:=keepT I9;exact⟨m',hm,i+1,ys,us,H9,hv5,(I9.unpinned).weak ag8.1.symm ag8.2,t9,f9,w9⟩
   |true=>
    have q9:Mh te g6 H9 ys λys' H4=> ∃m',m'<n/\W (i+1) m' ys' H4:=q9
    have pD': ∀p∈X.pn++(pins++wH fp s7.heap),p.1≠D:=λp hp=>by
     rcases D0.mp hp with z|z
     ·exact pD p (M1 _ z)
     ·rcases D0.mp z with z|z
      ·exact pD p (P5 _ z)
      ·exact neD _ (vI z).1
    rw [G6] at I9;have q10:=Zq (D:=D) hx he (pins++wH fp s7.heap) s9 g6 H9 ys us _ I9 hv5 hz DX cD pD' q9;show wpAny _ _ (JP _ _ _) _ _ s9;refine S9 q10 (λ_ s10 ⟨ys',us',H10,hv10,I10,m',hm,w10⟩=> ?_) λ_ _ z=>z
    rw [<-G6] at I10;obtain⟨t10,f10⟩:=keepT I10;exact⟨m',hm,i+1,ys',us',H10,hv10,(I10.unpinned).weak ag8.1.symm ag8.2,t10,f10,w10⟩
 exact yk rfl loop (T.self X.A 0 _ _ _ st2 loop)
theorem UH (elt iter tg iter' tg':Expr)(ifs ifs':List Expr)(scope:H0)(pos:Pos)(it acc:G0)(env:Env):
 compTurn (.ListComp elt [⟨tg,iter,ifs,0⟩,⟨tg',iter',ifs',0⟩] scope pos) 0 it acc env=
  JN iter tg ifs it env (VF (.ListComp elt [⟨tg,iter,ifs,0⟩,⟨tg',iter',ifs',0⟩] scope pos) iter' env acc) (.compLoop (.ListComp elt [⟨tg,iter,ifs,0⟩,⟨tg',iter',ifs',0⟩] scope pos) 0 it acc env):=by
 unfold JN VF;simp only [bind_assoc,pure_bind];rfl
def NT (js:List Nat)(wi:TI)(g:TG)(tt:TT)(wi':TI)(g':TG)(tt':TT)(te:TE):TE:=NS js wi g tt (mIn wi' g' tt' (Mh te))
theorem Mi {iter' tg':Expr}{ifs':List Expr}{wi':TI}{g':TG}{tt':TT}(hc:X.calm=true)(S:BlockOk X scope js)(hi:PI X tg iter wi)
 (hg: ∀X',jg X scope X'->PG X' tg g)(ht: ∀X',jg X scope X'->PTs X' ifs tt)(hi': ∀X',jg X scope X'->PI X' tg' iter' wi')
 (hg': ∀X',jg X scope X'->PG X' tg' g')(ht': ∀X',jg X scope X'->PTs X' ifs' tt')(he: ∀X',jg X scope X'->PE X' elt te)
 (hs: ∀x,foldedSetIterable iter X.env x=pure x:=by intro _;rfl)(hs': ∀env x,foldedSetIterable iter' env x=pure x:=by intro _ _;rfl):
 PE X (.ListComp elt [⟨tg,iter,ifs,0⟩,⟨tg',iter',ifs',0⟩] scope pos) (NT js wi g tt wi' g' tt' te):=by
 intro pins s σ H Q I h;rw [fK];exact UE (use:=none) hc S hi rfl hg ht (λenv acc=>VF (.ListComp elt [⟨tg,iter,ifs,0⟩,⟨tg',iter',ifs',0⟩] scope pos) iter' env acc) (λ_ _ _=>UH ..)
  (λX' hX D=>UG (by obtain⟨_,_,_,_,rfl⟩:=hX;exact hc) (by obtain⟨_,_,_,_,rfl⟩:=hX;rfl) (hi' X' hX) (hg' X' hX) (ht' X' hX) (he X' hX) (hs' _)) hs I h
  λD C H' s' m hn hk _ _ _ _ _ _ q=>⟨m,hn,λh' hs'=>⟨.ref D,H',hk h' hs',rfl,q⟩⟩
inductive D where
 |non|bl (b:Bool)|int (i:Int)|str (x:Str)|tup (ds:List D)|lst (a:Addr)|dic (x:Str) (i:Int)|dct (a:Addr)|scr (ns:List Int)|exc (C:Addr)|fn (a:Addr)
def Scr (K:PySem.W.Frag)(H:Hp)(a:Addr)(ns:List Int):Prop:=
 (∃o,H a=some (.frz o (.lst (ns.map V.int))))\/
  ∃ (o:Obj) (its:Array G0) (n:Nat),K.lookup a=some o/\o.cls= .type "list" /\o.dict=none/\o.data= .seq its n/\its.size<=sizeLine/\Vals (ns.map V.int) its.toList
theorem Scr.sq {K:PySem.W.Frag}{ns:List Int}(h:Scr K H a ns):SqL K H a (ns.map V.int):=h.elim (λz=> .inl (.inr z)) .inr
mutual
def RelD (K:PySem.W.Frag)(H:Hp):D->V->Prop
 | .non,v=>v= .non
 | .bl b,v=>v= .bl b
 | .int i,v=>v= .int i
 | .str x,v=>v= .str x
 | .tup ds,v=> ∃a vs,v= .ref a/\H a=some (.tup vs)/\RelDs K H ds vs
 | .lst a,v=>v= .ref a/\ ∃vs,H a=some (.lst vs)
 | .dic x i,v=> ∃a,v= .ref a/\H a=some (.dK [(K7 x,V.int i)])
 | .dct a,v=>v= .ref a
 | .scr ns,v=> ∃a,v= .ref a/\Scr K H a ns
 | .exc C,v=> ∃x o vs,v= .ref x/\H x=some (.frz o (.own 0))/\o.cls= .ref C/\o.data= .fields vs
 | .fn a,v=>v= .ref a/\PySem.W.keepIn K (.ref a)=true
def RelDs (K:PySem.W.Frag)(H:Hp):List D->List V->Prop
 | [],vs=>vs= []
 |d::ds,vs=> ∃v r,vs=v::r/\RelD K H d v/\RelDs K H ds r
end
structure Kept (H H':Hp):Prop where
 tup: ∀a xs,H a=some (.tup xs)->H' a=some (.tup xs)
 lst: ∀a xs,H a=some (.lst xs)-> ∃ys,H' a=some (.lst ys)
 dic: ∀a x i,H a=some (.dK [(K7 x,V.int i)])->H' a=some (.dK [(K7 x,V.int i)])
 frz: ∀a o u,H a=some (.frz o u)->H' a=some (.frz o u)
theorem Kept.refl (H:Hp):Kept H H:=⟨λ_ _ h=>h,λ_ xs h=>⟨xs,h⟩,λ_ _ _ h=>h,λ_ _ _ h=>h⟩
theorem Kept.trans {A B C:Hp}(x:Kept A B)(y:Kept B C):Kept A C:=
 ⟨λa xs h=>y.tup a xs (x.tup a xs h),λa xs h=>let ⟨_,e⟩:=x.lst a xs h;y.lst a _ e,λa k i h=>y.dic a k i (x.dic a k i h),λa o u h=>y.frz a o u (x.frz a o u h)⟩
theorem Kept.new {H:Hp}{p:Addr}{o:HO}(h:H p=none):Kept H (upd H p o):=
 ⟨λa xs e=>by rw [jf (je e h)];exact e,λa xs e=>⟨xs,by rw [jf (je e h)];exact e⟩,λa k i e=>by rw [jf (je e h)];exact e,λa o u e=>by rw [jf (je e h)];exact e⟩
theorem Kept.put {H:Hp}{p:Addr}{xs ys:List V}(h:H p=some (.lst xs)):Kept H (upd H p (.lst ys)):=
 ⟨λa zs e=>by rw [jf (WY e h (by intro z;cases z))];exact e,λa zs e=>by
  by_cases q:a=p
  ·subst q;exact⟨ys,jh⟩
  ·exact⟨zs,by rw [jf q];exact e⟩,
  λa k i e=>by rw [jf (WY e h (by intro z;cases z))];exact e,λa o u e=>by rw [jf (WY e h (by intro z;cases z))];exact e⟩
def DObj (o:HO):Prop:=(∃kvs:List (Int×V),o= .dK (kvs.map λp=>((B2 p.1:Key),p.2)))\/ ∃φ,o= .ext φ
theorem DObj.no {o:HO}(d:DObj o):(∀xs,o≠ .tup xs)/\(∀xs,o≠ .lst xs)/\(∀x i,o≠ .dK [(K7 x,V.int i)])/\(∀p u,o≠ .frz p u)/\ ∀ps,o≠ .tbl ps:=by
 rcases d with ⟨kvs,rfl⟩|⟨φ,rfl⟩
 ·refine⟨λ_ z=>(nomatch z),λ_ z=>(nomatch z),λx i z=> ?_,λ_ _ z=>(nomatch z),λ_ z=>(nomatch z)⟩;injection z with z
  cases kvs with
  |nil=>cases z
  |cons p r=>injection z with z _;injection z with z _;cases z
 ·exact⟨λ_ z=>(nomatch z),λ_ z=>(nomatch z),λ_ _ z=>(nomatch z),λ_ _ z=>(nomatch z),λ_ z=>(nomatch z)⟩
theorem Kept.putD {H:Hp}{p:Addr}{o o':HO}(h:H p=some o)(d:DObj o):Kept H (upd H p o'):=by
 obtain⟨d1,d2,d3,d4,_⟩:=d.no;have ne: ∀ {a:Addr} {u:HO},H a=some u->o≠u->a≠p:=λe n z=>by subst z;rw [h] at e;injection e with e;exact n e
 exact⟨λa xs e=>by rw [jf (ne e (d1 xs))];exact e,λa xs e=>⟨xs,by rw [jf (ne e (d2 xs))];exact e⟩,λa x i e=>by rw [jf (ne e (d3 x i))];exact e,λa q u e=>by rw [jf (ne e (d4 q u))];exact e⟩
mutual
theorem RelD.mono {K:PySem.W.Frag}{H H':Hp}(k:Kept H H'): ∀ {d:D} {v:V},RelD K H d v->RelD K H' d v
 | .non,_,h=>h
 | .bl _,_,h=>h
 | .int _,_,h=>h
 | .str _,_,h=>h
 | .tup ds,v,h=>by
  obtain⟨a,vs,e,h1,h2⟩:=(show ∃a vs,v= .ref a/\H a=some (.tup vs)/\RelDs K H ds vs from h);exact⟨a,vs,e,k.tup _ _ h1,RelDs.mono k h2⟩
 | .lst a,v,h=>by
  obtain⟨e,vs,h1⟩:=(show v= .ref a/\ ∃vs,H a=some (.lst vs) from h);exact⟨e,k.lst _ _ h1⟩
 | .dic x i,v,h=>by
  obtain⟨a,e,h1⟩:=(show ∃a,v= .ref a/\H a=some (.dK [(K7 x,V.int i)]) from h);exact⟨a,e,k.dic _ _ _ h1⟩
 | .dct a,v,h=>h
 | .scr ns,v,h=>by
  obtain⟨a,e,h1⟩:=(show ∃a,v= .ref a/\Scr K H a ns from h);exact⟨a,e,h1.elim (λ⟨o,z⟩=> .inl ⟨o,k.frz _ _ _ z⟩) .inr⟩
 | .exc C,v,h=>by
  obtain⟨x,o,vs,e,h1,r⟩:=(show ∃x o vs,v= .ref x/\H x=some (.frz o (.own 0))/\o.cls= .ref C/\o.data= .fields vs from h);exact⟨x,o,vs,e,k.frz _ _ _ h1,r⟩
 | .fn a,v,h=>h
theorem RelDs.mono {K:PySem.W.Frag}{H H':Hp}(k:Kept H H'): ∀ {ds:List D} {vs:List V},RelDs K H ds vs->RelDs K H' ds vs
 | [],_,h=>h
 |d::ds,vs,h=>by
  obtain⟨v,r,e,h1,h2⟩:=(show ∃v r,vs=v::r/\RelD K H d v/\RelDs K H ds r from h);exact⟨v,r,e,RelD.mono k h1,RelDs.mono k h2⟩
end
section
variable {K:PySem.W.Frag}{H:Hp}
theorem RelDs.nil:RelDs K H [] []:=rfl
theorem RelDs.cons {d:D}{v:V}{ds:List D}{vs:List V}(h:RelD K H d v)(t:RelDs K H ds vs):RelDs K H (d::ds) (v::vs):=⟨v,vs,rfl,h,t⟩
theorem RelDs.length: ∀ {ds:List D} {vs:List V},RelDs K H ds vs->ds.length=vs.length
 | [],_,h=>by cases (show _= [] from h);rfl
 |d::ds,vs,h=>by
  obtain⟨v,r,e,_,h2⟩:=(show ∃v r,vs=v::r/\RelD K H d v/\RelDs K H ds r from h);subst e;simp [RelDs.length h2]
theorem RelDs.append: ∀ {ds es:List D} {vs us:List V},RelDs K H ds vs->RelDs K H es us->RelDs K H (ds++es) (vs++us)
 | [],_,_,_,h,g=>by cases (show _= [] from h);exact g
 |d::ds,es,vs,us,h,g=>by
  obtain⟨v,r,e,h1,h2⟩:=(show ∃v r,vs=v::r/\RelD K H d v/\RelDs K H ds r from h);subst e;exact .cons h1 (RelDs.append h2 g)
theorem RelDs.get: ∀ {ds:List D} {vs:List V} {i:Nat} {d:D},RelDs K H ds vs->ds[i]? =some d-> ∃v,vs[i]? =some v/\RelD K H d v
 |d'::ds,vs,i,d,h,e=>by
  obtain⟨v,r,q,h1,h2⟩:=(show ∃v r,vs=v::r/\RelD K H d' v/\RelDs K H ds r from h);subst q;cases i with
  |zero=>simp at e;subst e;exact⟨v,rfl,h1⟩
  |succ i=>
   obtain⟨u,q1,q2⟩:=RelDs.get h2 (i:=i) (d:=d) (by simpa using e);exact⟨u,by simpa using q1,q2⟩
theorem RelDs.take (n:Nat): ∀ {ds:List D} {vs:List V},RelDs K H ds vs->RelDs K H (ds.take n) (vs.take n):=by
 induction n with
 |zero=>intro ds vs _;exact(rfl:RelDs K H [] [])
 |succ n ih=>
  intro ds vs h;cases ds with
  |nil=>cases (show vs= [] from h);exact .nil
  |cons d ds=>
   obtain⟨v,r,e,h1,h2⟩:=(show ∃v r,vs=v::r/\RelD K H d v/\RelDs K H ds r from h);subst e;exact .cons h1 (ih h2)
theorem RelDs.drop (n:Nat): ∀ {ds:List D} {vs:List V},RelDs K H ds vs->RelDs K H (ds.drop n) (vs.drop n):=by
 induction n with
 |zero=>intro ds vs h;exact h
 |succ n ih=>
  intro ds vs h;cases ds with
  |nil=>cases (show vs= [] from h);exact .nil
  |cons d ds=>
   obtain⟨v,r,e,h1,h2⟩:=(show ∃v r,vs=v::r/\RelD K H d v/\RelDs K H ds r from h);subst e;exact ih h2
theorem RelDs.set {d:D}{v:V}(q:RelD K H d v): ∀ {ds:List D} {vs:List V} (i:Nat),RelDs K H ds vs->RelDs K H (ds.set i d) (vs.set i v)
 | [],_,_,h=>by cases (show _= [] from h);exact .nil
 |e::ds,vs,i,h=>by
  obtain⟨u,r,z,h1,h2⟩:=(show ∃u r,vs=u::r/\RelD K H e u/\RelDs K H ds r from h);subst z;cases i with
  |zero=>exact .cons q h2
  |succ i=>exact .cons h1 (RelDs.set q i h2)
theorem wz: ∀ns:List Int,RelDs K H (ns.map D.int) (ns.map V.int)
 | []=> .nil
 |n::ns=> .cons rfl (wz ns)
end
inductive DC where
 |ik (kv:List (Int×D))
 |tk (kv:List (List (List Int)×D))
structure HD where
 ls:Addr->Option (List D)
 dc:Addr->Option DC
instance:CoeFun HD λ_=>Addr->Option (List D):=⟨HD.ls⟩
def wS (h:HD)(a:Addr)(ds:List D):HD:=⟨λb=>if b=a then some ds else h b,h.dc⟩
def Yd (h:HD)(a:Addr):HD:=⟨λb=>if b=a then none else h b,h.dc⟩
theorem jd {h:HD}{a:Addr}{ds:List D}:wS h a ds a=some ds:=if_pos rfl
theorem vU {h:HD}{a b:Addr}{ds:List D}(e:b≠a):wS h a ds b=h b:=if_neg e
theorem wl {h:HD}{a:Addr}{ds:List D}(e:h a=none):Yd (wS h a ds) a=h:=by
 obtain⟨l,d⟩:=h;refine congrArg (HD.mk · d) ?_
 funext b
 show (if b=a then none else if b=a then some ds else l b)=l b
 by_cases q:b=a
 ·subst q;rw [if_pos rfl];exact e.symm
 ·rw [if_neg q,if_neg q]
def LN:List Str:= ["law","_law_right","_law_words","_law_other_words","_law_many_right","_law_all","_law_told_row","_law_all_right","_law_desk_right","_law_signs_right","_law_lists_right","_law_text_right"]
def TabK (K:PySem.W.Frag)(P:Addr):Prop:= ∃x∈LN,∃c,PySem.W.tabIn K x=some (c,P)
def CodesOk (H:Hp)(ps:Array G0):Prop:=TriplesOk ps.toList/\ ∀pos cv,codeAmong pos ps.toList=some cv-> ∃ (c:Addr) (o:Obj) (vs:Array G0) (q:Str) (t:Tok),cv= .ref c/\H c=some (.frz o (.own 0))/\o.data= .fields vs/\vs[1]? =some (.str q t)
def CTabs (K:PySem.W.Frag)(H:Hp):Prop:= ∀P,TabK K P-> ∃ps,H P=some (.tbl ps)/\CodesOk H ps
theorem CodesOk.mono {H H':Hp}{ps:Array G0}(k: ∀a o u,H a=some (.frz o u)->H' a=some (.frz o u))(c:CodesOk H ps):CodesOk H' ps:=
 ⟨c.1,λpos cv e=>let ⟨c',o,vs,q,t,e1,e2,r⟩:=c.2 pos cv e;⟨c',o,vs,q,t,e1,k _ _ _ e2,r⟩⟩
theorem CTabs.mono {K:PySem.W.Frag}{H H':Hp}(x:CTabs K H)(k: ∀a o u,H a=some (.frz o u)->H' a=some (.frz o u))(kt: ∀a ps,H a=some (.tbl ps)->H' a=some (.tbl ps)):CTabs K H':=λP hP=>
 let ⟨ps,e,c⟩:=x P hP;⟨ps,kt _ _ e,c.mono k⟩
theorem CTabs.new {K:PySem.W.Frag}{H:Hp}{p:Addr}{o:HO}(x:CTabs K H)(e:H p=none):CTabs K (upd H p o):=
 x.mono (λa o' u h=>by rw [jf (je h e)];exact h) λa ps h=>by rw [jf (je h e)];exact h
theorem CTabs.put {K:PySem.W.Frag}{H:Hp}{p:Addr}{o:HO}{xs:List V}(x:CTabs K H)(e:H p=some (.lst xs)):CTabs K (upd H p o):=
 x.mono (λa o' u h=>by rw [jf (WY h e (by intro z;cases z))];exact h) λa ps h=>by rw [jf (WY h e (by intro z;cases z))];exact h
def PJ (T:List (List Int)):Int:=reduceHash (Z9 (T.map λr=>reduceHash (Z9 (r.map hashInt))))
def Fw (a:Addr)(xs:List (List (List Int)×Addr×V)):HO:= .ext λh=>(a==sysModules)=false/\xs.length<=sizeLine/\ ∃ys:List (List (List Int)×Addr×G0),Paired (λp q=>p.1=q.1/\p.2.1=q.2.1/\RelV p.2.2 q.2.2) xs ys/\
 ∃o es ep,h.get? a=some o/\o.ExactDict/\o.data= .dict es ep/\es.toList=ys.map λx=>⟨PJ x.1,.ref x.2.1,x.2.2⟩
def DRel (K:PySem.W.Frag)(H:Hp)(a:Addr):DC->Prop
 | .ik kv=> ∃kvs:List (Int×V),H a=some (.dK (kvs.map λp=>((B2 p.1:Key),p.2)))/\kv.map (·.1)=kvs.map (·.1)/\RelDs K H (kv.map (·.2)) (kvs.map (·.2))
 | .tk kv=> ∃xs:List (List (List Int)×Addr×V),H a=some (Fw a xs)/\(kv.map (·.1)).Nodup/\kv.map (·.1)=xs.map (·.1)/\(∀x∈xs,RelD K H (.tup (x.1.map λr=> .tup (r.map D.int))) (.ref x.2.1))/\RelDs K H (kv.map (·.2)) (xs.map (·.2.2))
theorem DRel.obj {K:PySem.W.Frag}{H:Hp}{a:Addr}: ∀ {c:DC},DRel K H a c-> ∃o,H a=some o/\DObj o
 | .ik _,⟨kvs,e,_⟩=>⟨_,e,.inl ⟨kvs,rfl⟩⟩
 | .tk _,⟨xs,e,_⟩=>⟨_,e,.inr ⟨_,rfl⟩⟩
theorem DRel.mono {K:PySem.W.Frag}{H H':Hp}{a:Addr}(k:Kept H H')(z: ∀o,H a=some o->H' a=some o): ∀ {c:DC},DRel K H a c->DRel K H' a c
 | .ik _,⟨kvs,e,q,r⟩=>⟨kvs,z _ e,q,r.mono k⟩
 | .tk _,⟨xs,e,n,q,t,r⟩=>⟨xs,z _ e,n,q,λx hx=>(t x hx).mono k,r.mono k⟩
structure RelH (K:PySem.W.Frag)(h:HD)(H:Hp):Prop where
 ls: ∀a ds,h a=some ds-> ∃vs,H a=some (.lst vs)/\RelDs K H ds vs
 tb:CTabs K H
 dc: ∀a c,h.dc a=some c->DRel K H a c
instance {K:PySem.W.Frag}{h:HD}{H:Hp}:CoeFun (RelH K h H) λ_=> ∀a ds,h a=some ds-> ∃vs,H a=some (.lst vs)/\RelDs K H ds vs:=⟨RelH.ls⟩
structure Sub (h h':HD):Prop where
 ls: ∀a ds,h a=some ds->h' a=some ds
 dc: ∀a c,h.dc a=some c->h'.dc a=some c
instance {h h':HD}:CoeFun (Sub h h') λ_=> ∀a ds,h a=some ds->h' a=some ds:=⟨Sub.ls⟩
theorem Sub.refl (h:HD):Sub h h:=⟨λ_ _ e=>e,λ_ _ e=>e⟩
theorem Sub.trans {a b c:HD}(x:Sub a b)(y:Sub b c):Sub a c:=⟨λd ds e=>y d ds (x d ds e),λd ds e=>y.dc d ds (x.dc d ds e)⟩
theorem Sub.drop (h:HD)(a:Addr):Sub (Yd h a) h:=⟨λb ds e=>by
 have e:(if b=a then none else h b)=some ds:=e;split at e
 ·cases e
 ·exact e,λ_ _ e=>e⟩
theorem Sub.new {h:HD}{p:Addr}{ds:List D}(e:h p=none):Sub h (wS h p ds):=⟨λa es q=>(by
 rw [vU];exact q;intro z;subst z;rw [e] at q;cases q),λ_ _ e=>e⟩
section
variable {K:PySem.W.Frag}{h h':HD}{H:Hp}
theorem RelH.sub (r:RelH K h H)(s:Sub h' h):RelH K h' H:=⟨λa ds e=>r a ds (s a ds e),r.tb,λa c e=>r.dc a c (s.dc a c e)⟩
theorem RelH.free (r:RelH K h H){p:Addr}(e:H p=none):h p=none:=by
 cases q:h p with
 |none=>rfl
 |some ds=>obtain⟨vs,z,_⟩:=r p ds q;rw [e] at z;cases z
theorem RelH.freeC (r:RelH K h H){p:Addr}(e:H p=none):h.dc p=none:=by
 cases q:h.dc p with
 |none=>rfl
 |some c=>obtain⟨o,z,_⟩:=(r.dc p c q).obj;rw [e] at z;cases z
theorem RelH.dcN (r:RelH K h H){p:Addr}{o:HO}(e:H p=none): ∀a c,h.dc a=some c->DRel K (upd H p o) a c:=λa c q=>
 (r.dc a c q).mono (.new e) λu z=>by rw [jf (je z e)];exact z
theorem RelH.new (r:RelH K h H){p:Addr}{o:HO}(e:H p=none):RelH K h (upd H p o):=⟨λa ds q=>by
 obtain⟨vs,z,w⟩:=r a ds q;exact⟨vs,by rw [jf (je z e)];exact z,w.mono (.new e)⟩,r.tb.new e,r.dcN e⟩
theorem RelH.newL (r:RelH K h H){p:Addr}{ds:List D}{vs:List V}(e:H p=none)(q:RelDs K H ds vs):RelH K (wS h p ds) (upd H p (.lst vs)):=⟨λa es z=>by
 by_cases w:a=p
 ·subst w;rw [jd] at z;cases z;exact⟨vs,jh,q.mono (.new e)⟩
 ·rw [vU w] at z;obtain⟨us,z1,z2⟩:=r a es z;exact⟨us,by rw [jf w];exact z1,z2.mono (.new e)⟩,r.tb.new e,r.dcN e⟩
theorem RelH.put (r:RelH K h H){p:Addr}{ds:List D}{vs us:List V}(e:H p=some (.lst us))(q:RelDs K H ds vs):RelH K (wS h p ds) (upd H p (.lst vs)):=⟨λa es z=>by
 by_cases w:a=p
 ·subst w;rw [jd] at z;cases z;exact⟨vs,jh,q.mono (.put e)⟩
 ·rw [vU w] at z;obtain⟨us,z1,z2⟩:=r a es z;exact⟨us,by rw [jf w];exact z1,z2.mono (.put e)⟩,r.tb.put e,λa c z=>(r.dc a c z).mono (.put e) λo w=>by
   obtain⟨u,w',d⟩:=(r.dc a c z).obj;rw [jf (WY w' e (d.no.2.1 _))];exact w⟩
end
def GD (h:HD)(p:Addr)(c:DC):HD:=⟨h.ls,λb=>if b=p then some c else h.dc b⟩
theorem yl {h:HD}{p:Addr}{c:DC}:(GD h p c).dc p=some c:=if_pos rfl
theorem Zr {h:HD}{a p:Addr}{c:DC}(e:a≠p):(GD h p c).dc a=h.dc a:=if_neg e
theorem Sub.newC {h:HD}{p:Addr}{c:DC}(e:h.dc p=none):Sub h (GD h p c):=⟨λ_ _ e=>e,λa d q=>by
 rw [Zr];exact q;intro z;subst z;rw [e] at q;cases q⟩
section
variable {K:PySem.W.Frag}{h:HD}{H:Hp}
theorem RelH.newC (r:RelH K h H){p:Addr}{o:HO}{c:DC}(e:H p=none)(d:DRel K (upd H p o) p c):RelH K (GD h p c) (upd H p o):=⟨(r.new e).ls,r.tb.new e,λa k z=>by
 by_cases w:a=p
 ·subst w;rw [yl] at z;cases z;exact d
 ·rw [Zr w] at z;exact r.dcN e a k z⟩
theorem RelH.putC (r:RelH K h H){p:Addr}{o o':HO}{c:DC}(e:H p=some o)(ob:DObj o)(d:DRel K (upd H p o') p c):RelH K (GD h p c) (upd H p o'):=by
 obtain⟨d1,d2,d3,d4,d5⟩:=ob.no;have ne: ∀ {a:Addr} {u:HO},H a=some u->o≠u->a≠p:=λq n z=>by subst z;rw [e] at q;injection q with q;exact n q
 refine⟨λa ds z=> ?_,r.tb.mono (λa q u z=>by rw [jf (ne z (d4 q u))];exact z) (λa ps z=>by rw [jf (ne z (d5 ps))];exact z),λa k z=> ?_⟩
 ·obtain⟨vs,z1,z2⟩:=r a ds z;exact⟨vs,by rw [jf (ne z1 (d2 vs))];exact z1,z2.mono (.putD e ob)⟩
 ·by_cases w:a=p
  ·subst w;rw [yl] at z;cases z;exact d
  ·rw [Zr w] at z;exact(r.dc a k z).mono (.putD e ob) λu q=>by rw [jf w];exact q
end
abbrev SD:=List (Option D)
def RelS (K:PySem.W.Frag)(H:Hp)(gP:SD)(σ:St):Prop:=gP.length=σ.length/\ ∀ (i:Nat) (d:D),gP[i]? =some (some d)-> ∃v,σ[i]? =some (some v)/\RelD K H d v
theorem RelS.mono {K:PySem.W.Frag}{H H':Hp}{gP:SD}{σ:St}(r:RelS K H gP σ)(k:Kept H H'):RelS K H' gP σ:=⟨r.1,λi d e=>let ⟨v,a,b⟩:=r.2 i d e;⟨v,a,b.mono k⟩⟩
theorem RelS.set {K:PySem.W.Frag}{H:Hp}{gP:SD}{σ:St}{d:D}{v:V}(r:RelS K H gP σ)(q:RelD K H d v)(i:Nat):RelS K H (gP.set i (some d)) (σ.set i (some v)):=⟨by simp [r.1],λj e h=>by
 by_cases z:i=j
 ·subst z;rw [V2] at h ⊢
  by_cases hl:i<gP.length
  ·rw [if_pos rfl,if_pos hl] at h;rw [if_pos rfl,if_pos (by rw [<-r.1];exact hl)];cases h;exact⟨v,rfl,q⟩
  ·rw [if_pos rfl,if_neg hl] at h;cases h
 ·rw [C0 z] at h ⊢;exact r.2 j e h⟩
theorem RelS.clear1 {K:PySem.W.Frag}{H:Hp}{gP:SD}{σ:St}(r:RelS K H gP σ)(i:Nat):RelS K H (gP.set i none) (σ.set i none):=⟨by simp [r.1],λj e h=>by
 by_cases z:i=j
 ·subst z;rw [V2] at h;split at h
  ·split at h<;>cases h
  ·contradiction
 ·rw [C0 z] at h ⊢;exact r.2 j e h⟩
def jH:List Nat->SD->SD
 | [],σ=>σ
 |j::js,σ=>jH js (σ.set j none)
theorem RelS.clear {K:PySem.W.Frag}{H:Hp}: ∀ (js:List Nat) {gP:SD} {σ:St},RelS K H gP σ->RelS K H (jH js gP) (zf js σ)
 | [],_,_,r=>r
 |j::js,_,_,r=>RelS.clear js (r.clear1 j)
abbrev KD:=D->HD->Prop
abbrev TED:=SD->HD->KD->Prop
abbrev TTD:=SD->HD->(Bool->HD->Prop)->Prop
abbrev TAD:=SD->HD->(List D->HD->Prop)->Prop
abbrev RD2:=D->D->HD->KD->Prop
abbrev RDn:=List D->HD->KD->Prop
structure EndsD where
 nx:SD->HD->Prop
 rt:KD
 bk:SD->HD->Prop:=λ_ _=>False
 ct:SD->HD->Prop:=λ_ _=>False
abbrev TSD:=EndsD->SD->HD->Prop
abbrev TGD:=D->SD->HD->(SD->HD->Prop)->Prop
def PK (K:PySem.W.Frag)(H:Hp)(Qd:KD)(Q:VK):Prop:= ∀d v h' H',Kept H H'->RelH K h' H'->RelD K H' d v->Qd d h'->Q v H'
def LE (K:PySem.W.Frag)(t:TED):TE:=λσ H Q=> ∃gP h Qd,RelS K H gP σ/\RelH K h H/\t gP h Qd/\PK K H Qd Q
def LT (K:PySem.W.Frag)(t:TTD):TT:=λσ H Q=> ∃gP h Qd,RelS K H gP σ/\RelH K h H/\t gP h Qd/\ ∀b h' H',Kept H H'->RelH K h' H'->Qd b h'->Q b H'
def LA (K:PySem.W.Frag)(t:TAD):TA:=λσ H Q=> ∃gP h Qd,RelS K H gP σ/\RelH K h H/\t gP h Qd/\ ∀ds vs h' H',Kept H H'->RelH K h' H'->RelDs K H' ds vs->Qd ds h'->Q vs H'
def LR (K:PySem.W.Frag)(f:RD2):R2:=λx y H Q=> ∃dx dy h Qd,RelD K H dx x/\RelD K H dy y/\RelH K h H/\f dx dy h Qd/\PK K H Qd Q
def LC (K:PySem.W.Frag)(f:RDn):List V->Hp->VK->Prop:=λxs H Q=> ∃ds h Qd,RelDs K H ds xs/\RelH K h H/\f ds h Qd/\PK K H Qd Q
def LG (K:PySem.W.Frag)(g:TGD):TG:=λv σ H Q=> ∃d gP h Qd,RelD K H d v/\RelS K H gP σ/\RelH K h H/\g d gP h Qd/\ ∀gS h' gO H',Kept H H'->RelS K H' gS gO->RelH K h' H'->Qd gS h'->Q gO H'
def LS (K:PySem.W.Frag)(t:TSD):TS:=λgW σ H=> ∃gP h Dd,RelS K H gP σ/\RelH K h H/\t Dd gP h/\
 (∀gS h' gO H',Kept H H'->RelS K H' gS gO->RelH K h' H'->Dd.nx gS h'->gW.nx gO H')/\PK K H Dd.rt gW.rt/\
 (∀gS h' gO H',Kept H H'->RelS K H' gS gO->RelH K h' H'->Dd.bk gS h'->gW.bk gO H')/\(∀gS h' gO H',Kept H H'->RelS K H' gS gO->RelH K h' H'->Dd.ct gS h'->gW.ct gO H')
theorem PE.imp {X:Cx}{e:Expr}{t t':TE}(h:PE X e t)(i: ∀σ H Q,t' σ H Q->t σ H Q):PE X e t':=λpins s σ H Q I q=>h pins s σ H Q I (i σ H Q q)
theorem PT.imp {X:Cx}{e:Expr}{t t':TT}(h:PT X e t)(i: ∀σ H Q,t' σ H Q->t σ H Q):PT X e t':=λpins s σ H Q I q=>h pins s σ H Q I (i σ H Q q)
theorem PW.imp {X:Cx}{e:Expr}{t t':TT}(h:PW X e t)(i: ∀σ H Q,t' σ H Q->t σ H Q):PW X e t':=λwh pins s σ H Q I q=>h wh pins s σ H Q I (i σ H Q q)
theorem PA.imp {X:Cx}{e:List Expr}{t t':TA}(h:PA X e t)(i: ∀σ H Q,t' σ H Q->t σ H Q):PA X e t':=λpos pins s σ H Q I q=>h pos pins s σ H Q I (i σ H Q q)
theorem PS.imp {X:Cx}{e:Stmt}{t t':TS}(h:PS X e t)(i: ∀D σ H,t' D σ H->t D σ H):PS X e t':=λpins s σ H D I q=>h pins s σ H D I (i D σ H q)
theorem PSs.imp {X:Cx}{e:List Stmt}{t t':TS}(h:PSs X e t)(i: ∀D σ H,t' D σ H->t D σ H):PSs X e t':=λpins s σ H D I q=>h pins s σ H D I (i D σ H q)
theorem PG.imp {X:Cx}{e:Expr}{t t':TG}(h:PG X e t)(i: ∀v σ H Q,t' v σ H Q->t v σ H Q):PG X e t':=λpins s σ H v u Q I r q=>h pins s σ H v u Q I r (i v σ H Q q)
theorem OpR.imp {X:Cx}{f:G0->G0->Sem G0}{r r':R2}(h:OpR X f r)(i: ∀x y H Q,r' x y H Q->r x y H Q):OpR X f r':=λpins s σ H x y v u Q I a b q=>h pins s σ H x y v u Q I a b (i x y H Q q)
theorem CallR.imp {X:Cx}{f:G0}{r r':List V->Hp->VK->Prop}(h:CallR X f r)(i: ∀xs H Q,r' xs H Q->r xs H Q):CallR X f r':=λpins s σ H xs us Q I a q=>h pins s σ H xs us Q I a (i xs H Q q)
def GE (i:Nat):TED:=λσ h Q=> ∃d,σ[i]? =some (some d)/\Q d h
def dC (d:D):TED:=λ_ h Q=>Q d h
def dOp (f:RD2)(ta tb:TED):TED:=λσ h Q=>ta σ h λx h1=>tb σ h1 λy h2=>f x y h2 Q
def Wm:TAD:=λ_ h Q=>Q [] h
def zh (ta:TED)(tr:TAD):TAD:=λσ h Q=>ta σ h λx h1=>tr σ h1 λxs h2=>Q (x::xs) h2
def BA (t:TAD):TED:=λσ h Q=>t σ h λds h1=>ds.length<=sizeLine/\Q (.tup ds) h1
def NU (t:TAD):TED:=λσ h Q=>t σ h λds h1=>ds.length<=sizeLine/\ ∀p,h1 p=none->Q (.lst p) (wS h1 p ds)
def dCB (r:RDn)(t:TAD):TED:=λσ h Q=>t σ h λds h1=>r ds h1 Q
def vp (t:TED):TTD:=λσ h Q=>t σ h λx h1=> ∃k,x= .bl k/\Q k h1
def vV (r r':RD2)(ta tb tc:TED):TED:=λσ h Q=>ta σ h λx h1=>tb σ h1 λy h2=>r x y h2 λz h3=> ∃k,z= .bl k/\
 (if k=true then tc σ h3 λw h4=>r' y w h4 Q else Q (.bl false) h3)
def Mj (t u:TTD):TTD:=λσ h Q=>t σ h λc h1=>if c=true then Q true h1 else u σ h1 Q
def UI (t:TTD):TTD:=λσ h Q=>t σ h λc h1=>Q (!c) h1
def Qq (ta tb:TED):TED:=λσ h Q=>ta σ h λx h1=> ∃c,x= .bl c/\if c=true then tb σ h1 Q else Q (.bl false) h1
def BB (ta tb:TED):TED:=λσ h Q=>ta σ h λx h1=> ∃c,x= .bl c/\if c=true then Q (.bl true) h1 else tb σ h1 Q
def Qr (ta:TED):TED:=λσ h Q=>ta σ h λx h1=> ∃c,x= .bl c/\Q (.bl (!c)) h1
def dIf (t:TTD)(ta tb:TED):TED:=λσ h Q=>t σ h λc h1=>if c=true then ta σ h1 Q else tb σ h1 Q
section
variable {K:PySem.W.Frag}
theorem Mk (i:Nat): ∀σ H Q,LE K (GE i) σ H Q->Cy i σ H Q:=λσ H Q ⟨gP,h,Qd,rs,rh,⟨d,e,q⟩,p⟩=>let ⟨v,e1,e2⟩:=rs.2 i d e;⟨v,e1,p d v h H (.refl H) rh e2 q⟩
theorem NV {d:D}{v:V}(r: ∀H,RelD K H d v): ∀σ H Q,LE K (dC d) σ H Q->tC v σ H Q:=λσ H Q ⟨gP,h,Qd,rs,rh,q,p⟩=>p d v h H (.refl H) rh (r H) q
variable {H:Hp}
theorem jm {H1:Hp}{Qd:KD}{Q:VK}(p:PK K H Qd Q)(k:Kept H H1):PK K H1 Qd Q:=λd v h' H' k'=>p d v h' H' (k.trans k')
variable {ta:TED}
theorem LE.bind {σ:St}{gP:SD}{h:HD}{kd:KD}{k:VK}(rs:RelS K H gP σ)(rh:RelH K h H)(t:ta gP h kd)(f: ∀d v h' H',Kept H H'->RelS K H' gP σ->RelH K h' H'->RelD K H' d v->kd d h'->k v H'):LE K ta σ H k:=
 ⟨gP,h,kd,rs,rh,t,λd v h' H' kp r1 r2 q=>f d v h' H' kp (rs.mono kp) r1 r2 q⟩
theorem LT.bind {ta:TTD}{σ:St}{gP:SD}{h:HD}{kd:Bool->HD->Prop}{k:Bool->Hp->Prop}(rs:RelS K H gP σ)(rh:RelH K h H)(t:ta gP h kd)(f: ∀b h' H',Kept H H'->RelS K H' gP σ->RelH K h' H'->kd b h'->k b H'):LT K ta σ H k:=
 ⟨gP,h,kd,rs,rh,t,λb h' H' kp r1 q=>f b h' H' kp (rs.mono kp) r1 q⟩
theorem LA.bind {ta:TAD}{σ:St}{gP:SD}{h:HD}{kd:List D->HD->Prop}{k:List V->Hp->Prop}(rs:RelS K H gP σ)(rh:RelH K h H)(t:ta gP h kd)(f: ∀ds vs h' H',Kept H H'->RelS K H' gP σ->RelH K h' H'->RelDs K H' ds vs->kd ds h'->k vs H'):LA K ta σ H k:=
 ⟨gP,h,kd,rs,rh,t,λd v h' H' kp r1 r2 q=>f d v h' H' kp (rs.mono kp) r1 r2 q⟩
variable {tb:TED}
theorem PL {f:RD2}: ∀σ H Q,LE K (dOp f ta tb) σ H Q->tOp (LR K f) (LE K ta) (LE K tb) σ H Q:=λσ H Q ⟨gP,h,Qd,rs,rh,t,p⟩=>
 LE.bind rs rh t λd v h1 H1 k1 rs1 rh1 r1 t1=>LE.bind rs1 rh1 t1 λd2 v2 h2 H2 k2 rs2 rh2 r2 t2=>⟨d,d2,h2,Qd,r1.mono k2,r2,rh2,t2,jm p (k1.trans k2)⟩
theorem Ml: ∀σ H Q,LA K Wm σ H Q->CO σ H Q:=λσ H Q ⟨gP,h,Qd,rs,rh,t,p⟩=>p [] [] h H (.refl H) rh rfl t
theorem PM {tr:TAD}: ∀σ H Q,LA K (zh ta tr) σ H Q->RN (LE K ta) (LA K tr) σ H Q:=λσ H Q ⟨gP,h,Qd,rs,rh,t,p⟩=>
 LE.bind rs rh t λd v h1 H1 k1 rs1 rh1 r1 t1=>LA.bind rs1 rh1 t1 λds vs h2 H2 k2 rs2 rh2 r2 t2=>p _ _ h2 H2 (k1.trans k2) rh2 (.cons (r1.mono k2) r2) t2
theorem Mm {t:TAD}: ∀σ H Q,LE K (BA t) σ H Q->CP (LA K t) σ H Q:=λσ H Q ⟨gP,h,Qd,rs,rh,t,p⟩=>
 LA.bind rs rh t λds vs h1 H1 k1 rs1 rh1 r1 ⟨z,q⟩=>⟨by rw [<-r1.length];exact z,λa ha=>p (.tup ds) (.ref a) h1 _ (k1.trans (.new ha)) (rh1.new ha) ⟨a,vs,rfl,jh,r1.mono (.new ha)⟩ q⟩
theorem Mn {t:TAD}: ∀σ H Q,LE K (NU t) σ H Q->CQ (LA K t) σ H Q:=λσ H Q ⟨gP,h,Qd,rs,rh,t,p⟩=>
 LA.bind rs rh t λds vs h1 H1 k1 rs1 rh1 r1 ⟨z,q⟩=>⟨by rw [<-r1.length];exact z,λa ha=>p (.lst a) (.ref a) _ _ (k1.trans (.new ha)) (rh1.newL ha r1) ⟨rfl,vs,jh⟩ (q a (rh1.free ha))⟩
theorem Mo {r:RDn}{t:TAD}: ∀σ H Q,LE K (dCB r t) σ H Q->tCB (LC K r) (LA K t) σ H Q:=λσ H Q ⟨gP,h,Qd,rs,rh,t,p⟩=>
 LA.bind rs rh t λds vs h1 H1 k1 rs1 rh1 r1 q=>⟨ds,h1,Qd,r1,rh1,q,jm p k1⟩
theorem UJ {t:TED}: ∀σ H Q,LT K (vp t) σ H Q->Pm (LE K t) σ H Q:=λσ H Q ⟨gP,h,Qd,rs,rh,t,p⟩=>
 LE.bind rs rh t λd v h1 H1 k1 rs1 rh1 r1 ⟨k,e,q⟩=>by subst e;exact⟨k,r1,p k h1 H1 k1 rh1 q⟩
theorem Qs {t:TED}: ∀σ H Q,LT K (vp t) σ H Q->tB (LE K t) σ H Q:=λσ H Q ⟨gP,h,Qd,rs,rh,t,p⟩=>
 LE.bind rs rh t λd v h1 H1 k1 rs1 rh1 r1 ⟨k,e,q⟩=>by subst e;exact⟨k,r1,p k h1 H1 k1 rh1 q⟩
theorem YZ {r r':RD2}{tc:TED}: ∀σ H Q,LE K (vV r r' ta tb tc) σ H Q->Uo (LR K r) (LR K r') (LE K ta) (LE K tb) (LE K tc) σ H Q:=λσ H Q ⟨gP,h,Qd,rs,rh,t,p⟩=>
 LE.bind rs rh t λd v h1 H1 k1 rs1 rh1 r1 t1=>LE.bind rs1 rh1 t1 λd2 v2 h2 H2 k2 rs2 rh2 r2 t2=>⟨d,d2,h2,_,r1.mono k2,r2,rh2,t2,λd3 v3 h3 H3 k3 rh3 r3 ⟨k,e,q⟩=>by
  subst e;refine⟨k,r3,?_⟩;cases k with
  |true=>
   rw [if_pos rfl] at q ⊢;exact LE.bind (rs2.mono k3) rh3 q λd4 v4 h4 H4 k4 rs4 rh4 r4 t4=>⟨d2,d4,h4,Qd,(r2.mono k3).mono k4,r4,rh4,t4,jm p (k1.trans (k2.trans (k3.trans k4)))⟩
  |false=>
   rw [if_neg P3] at q ⊢;exact p (.bl false) _ h3 H3 (k1.trans (k2.trans k3)) rh3 rfl q⟩
theorem BC {t u:TTD}: ∀σ H Q,LT K (Mj t u) σ H Q->tOr (LT K t) (LT K u) σ H Q:=λσ H Q ⟨gP,h,Qd,rs,rh,t,p⟩=>
 LT.bind rs rh t λb h1 H1 k1 rs1 rh1 q=>by
  cases b with
  |true=>rw [if_pos rfl] at q ⊢;exact p _ _ _ k1 rh1 q
  |false=>rw [if_neg P3] at q ⊢;exact⟨gP,h1,Qd,rs1,rh1,q,λb h' H' k=>p b h' H' (k1.trans k)⟩
theorem Mp {t:TTD}: ∀σ H Q,LT K (UI t) σ H Q->Cz (LT K t) σ H Q:=λσ H Q ⟨gP,h,Qd,rs,rh,t,p⟩=>
 LT.bind rs rh t λb h1 H1 k1 rs1 rh1 q=>p _ _ _ k1 rh1 q
theorem Mq: ∀σ H Q,LE K (Qq ta tb) σ H Q->Rs (LE K ta) (LE K tb) σ H Q:=λσ H Q ⟨gP,h,Qd,rs,rh,t,p⟩=>
 LE.bind rs rh t λd v h1 H1 k1 rs1 rh1 r1 ⟨c,e,q⟩=>by
  subst e;refine⟨c,r1,?_⟩;cases c with
  |true=>rw [if_pos rfl] at q ⊢;exact⟨gP,h1,Qd,rs1,rh1,q,jm p k1⟩
  |false=>rw [if_neg P3] at q ⊢;exact p (.bl false) _ _ _ k1 rh1 rfl q
theorem BD: ∀σ H Q,LE K (BB ta tb) σ H Q->CA (LE K ta) (LE K tb) σ H Q:=λσ H Q ⟨gP,h,Qd,rs,rh,t,p⟩=>
 LE.bind rs rh t λd v h1 H1 k1 rs1 rh1 r1 ⟨c,e,q⟩=>by
  subst e;refine⟨c,r1,?_⟩;cases c with
  |true=>rw [if_pos rfl] at q ⊢;exact p (.bl true) _ _ _ k1 rh1 rfl q
  |false=>rw [if_neg P3] at q ⊢;exact⟨gP,h1,Qd,rs1,rh1,q,jm p k1⟩
theorem Mr: ∀σ H Q,LE K (Qr ta) σ H Q->Rt (LE K ta) σ H Q:=λσ H Q ⟨gP,h,Qd,rs,rh,t,p⟩=>
 LE.bind rs rh t λd v h1 H1 k1 rs1 rh1 r1 ⟨c,e,q⟩=>by subst e;exact⟨c,r1,p (.bl (!c)) _ _ _ k1 rh1 rfl q⟩
theorem BE {t:TTD}: ∀σ H Q,LE K (dIf t ta tb) σ H Q->tIf (LT K t) (LE K ta) (LE K tb) σ H Q:=λσ H Q ⟨gP,h,Qd,rs,rh,t,p⟩=>
 LT.bind rs rh t λb h1 H1 k1 rs1 rh1 q=>by
  cases b with
  |true=>rw [if_pos rfl] at q ⊢;exact⟨gP,h1,Qd,rs1,rh1,q,jm p k1⟩
  |false=>rw [if_neg P3] at q ⊢;exact⟨gP,h1,Qd,rs1,rh1,q,jm p k1⟩
end
abbrev QE (X:Cx)(e:Expr)(t:TED):Prop:=PE X e (LE X.K t)
abbrev QT (X:Cx)(e:Expr)(t:TTD):Prop:=PT X e (LT X.K t)
abbrev QW (X:Cx)(e:Expr)(t:TTD):Prop:=PW X e (LT X.K t)
abbrev QA (X:Cx)(es:List Expr)(t:TAD):Prop:=PA X es (LA X.K t)
abbrev QS (X:Cx)(s:Stmt)(t:TSD):Prop:=PS X s (LS X.K t)
abbrev QSs (X:Cx)(s:List Stmt)(t:TSD):Prop:=PSs X s (LS X.K t)
abbrev QG (X:Cx)(e:Expr)(t:TGD):Prop:=PG X e (LG X.K t)
abbrev OpQ (X:Cx)(f:G0->G0->Sem G0)(r:RD2):Prop:=OpR X f (LR X.K r)
abbrev wT (X:Cx)(f:G0)(r:RDn):Prop:=CallR X f (LC X.K r)
section
variable {X:Cx}{a b c e:Expr}{es rest:List Expr}{ta tb tc te:TED}{t u:TAD}{tt tu:TTD}{pos:Pos}{f r r':RD2}
theorem qv (i:Nat){x:Str}(hN:X.N[i]? =some x:=by rfl)(hv:Vis X.env.scope x:=by first|exact K2 rfl|exact V9 (K2 rfl)|exact V9 (V9 rfl))(hd:(x==("__debug__" :Str))=false:=by decide)
 (hcd:(x==("__classdict__" :Str))=false:=by decide):QE X (.Name x pos) (GE i):=(Ro hN hv hd hcd).imp (Mk i)
theorem Fx {i:Int}{j:Nat}:QE X (.Constant (.int i) j pos) (dC (.int i)):=pe_int.imp (NV λ_=>rfl)
theorem qbl {i:Bool}{j:Nat}:QE X (.Constant (.bool i) j pos) (dC (.bl i)):=pe_bl.imp (NV λ_=>rfl)
theorem Fy {j:Nat}:QE X (.Constant .none j pos) (dC .non):=pe_non.imp (NV λ_=>rfl)
theorem BF {x:Str}{i:Int}{tk:Tok}(hg:Gl X x)(hm:X.mg x=some (.int i tk))(hd:(x==("__debug__" :Str))=false:=by decide):QE X (.Name x pos) (dC (.int i)):=
 (Pc (v:= .int i) hg hm ⟨tk,rfl⟩ hd).imp (NV λ_=>rfl)
theorem qop {op:f6}(ho:OpQ X (binaryOp op) f)(ha:QE X a ta)(hb:QE X b tb):QE X (.BinOp a op b pos) (dOp f ta tb):=(Bi ho ha hb).imp PL
theorem Fz {op:aC}(ho:OpQ X (compareOp op) f)(ha:QE X a ta)(hb:QE X b tb)(hm:behindInMarks op b=false):QE X (.Compare a [op] [b] pos) (dOp f ta tb):=(Pl ho ha hb hm).imp PL
theorem BG {op:aC}(ho:OpQ X (compareOp op) f)(ha:QE X a ta)(hb:QE X b tb)(hm:behindInMarks op b=false):QT X (.Compare a [op] [b] pos) (vp (dOp f ta tb)):=
 (Po ho ha hb hm).imp λσ H Q h=>by
  obtain⟨gP,h,Qd,rs,rh,t,p⟩:=UJ (t:=dOp f ta tb) σ H Q h;exact PL σ H _ ⟨gP,h,Qd,rs,rh,t,p⟩
theorem Ms {op op':aC}(ho:OpQ X (compareOp op) r)(ho':OpQ X (compareOp op') r')(ha:QE X a ta)(hb:QE X b tb)(hc:QE X c tc)(hm:lastMarks [op,op'] [b,c]=false:=by with_unfolding_all rfl):
 QE X (.Compare a [op,op'] [b,c] pos) (vV r r' ta tb tc):=(Qe ho ho' ha hb hc hm).imp YZ
theorem PN {op op':aC}(ho:OpQ X (compareOp op) r)(ho':OpQ X (compareOp op') r')(ha:QE X a ta)(hb:QE X b tb)(hc:QE X c tc)(hm:lastMarks [op,op'] [b,c]=false:=by with_unfolding_all rfl):
 QT X (.Compare a [op,op'] [b,c] pos) (vp (vV r r' ta tb tc)):=(Qf ho ho' ha hb hc hm).imp λσ H Q h=>by
 obtain⟨gP,h,Qd,rs,rh,t,p⟩:=UJ (t:=vV r r' ta tb tc) σ H Q h;exact YZ σ H _ ⟨gP,h,Qd,rs,rh,t,p⟩
theorem BH (ha:QE X a ta)(he: ∀whole,isTrue a X.env whole=(do let v <-whole;standAt a.pos;holding [v] (truthy v)):=by intro _;rfl):QT X a (vp ta):=(Rp ha he).imp Qs
theorem FA (ha:QT X a tt):QW X (.BoolOp .Or [a] pos) tt:=Rq ha
theorem FB (ha:QT X a tt)(hb:QW X (.BoolOp .Or (b::rest) pos) tu):QW X (.BoolOp .Or (a::b::rest) pos) (Mj tt tu):=(Bd ha hb).imp BC
theorem BI (ha:QT X a tt):QT X (.UnaryOp .Not a pos) (UI tt):=(Rr ha).imp Mp
theorem FC {op:BoolOp}(ha:QE X a ta):QE X (.BoolOp op [a] pos) ta:=Ru ha
theorem FD (ha:QE X a ta)(hb:QE X (.BoolOp .And (b::rest) pos) tb):QE X (.BoolOp .And (a::b::rest) pos) (Qq ta tb):=(Rv ha hb).imp Mq
theorem qor (ha:QE X a ta)(hb:QE X (.BoolOp .Or (b::rest) pos) tb):QE X (.BoolOp .Or (a::b::rest) pos) (BB ta tb):=(Be ha hb).imp BD
theorem FE (ha:QE X a ta):QE X (.UnaryOp .Not a pos) (Qr ta):=(Rw ha).imp Mr
theorem qif {c:Expr}(hc:QT X c tt)(ha:QE X a ta)(hb:QE X b tb):QE X (.IfExp c a b pos) (dIf tt ta tb):=(Qa hc ha hb).imp BE
theorem Mt:QA X [] Wm:=pa_nil.imp Ml
theorem PP (ha:QE X e te)(hr:QA X es t)(hs:starEach (e::es) X.env=(false,eval e X.env)::starEach es X.env:=by rfl):QA X (e::es) (zh te t):=(wQ ha hr hs).imp PM
theorem FF {k:Nat}(h:QA X es t):QE X (.Tuple es k pos) (BA t):=(RO h).imp Mm
theorem FG (h:QA X es t):QE X (.List es pos) (NU t):=(RQ h).imp Mn
end
def Ye:TSD:=λD σ h=>D.nx σ h
def vq (t u:TSD):TSD:=λD σ h=>t {D with nx:=u D} σ h
def PQ (te:TED):TSD:=λD σ h=>te σ h λ_ h1=>D.nx σ h1
def GF (te:TED):TSD:=λD σ h=>te σ h D.rt
def PR (c:TTD)(t u:TSD):TSD:=λD σ h=>c σ h λb h1=>if b=true then t D σ h1 else u D σ h1
def XY (i:Nat)(te:TED):TSD:=λD σ h=>te σ h λd h1=>D.nx (σ.set i (some d)) h1
def BJ (te:TED)(g:TGD):TSD:=λD σ h=>te σ h λx h1=>g x σ h1 D.nx
def gN (i:Nat):TGD:=λd σ h Q=>Q (σ.set i (some d)) h
def gT2 (i j:Nat):TGD:=λd σ h Q=> ∃x y,d= .tup [x,y]/\Q ((σ.set i (some x)).set j (some y)) h
section
variable {K:PySem.W.Frag}
theorem LS.of {t:TSD}{gW:Ends}{σ:St}{H:Hp}{gP:SD}{h:HD}{Dd:EndsD}(rs:RelS K H gP σ)(rh:RelH K h H)(q:t Dd gP h)
 (nx: ∀gS h' gO H',Kept H H'->RelS K H' gS gO->RelH K h' H'->Dd.nx gS h'->gW.nx gO H')(rt:PK K H Dd.rt gW.rt)
 (bk: ∀gS h' gO H',Kept H H'->RelS K H' gS gO->RelH K h' H'->Dd.bk gS h'->gW.bk gO H')(ct: ∀gS h' gO H',Kept H H'->RelS K H' gS gO->RelH K h' H'->Dd.ct gS h'->gW.ct gO H'):LS K t gW σ H:=⟨gP,h,Dd,rs,rh,q,nx,rt,bk,ct⟩
theorem PU: ∀D σ H,LS K Ye D σ H->Rx D σ H:=λD σ H ⟨gP,h,Dd,rs,rh,q,nx,_⟩=>nx gP h σ H (.refl H) rs rh q
theorem Mu {t u:TSD}: ∀D σ H,LS K (vq t u) D σ H->CB (LS K t) (LS K u) D σ H:=λD σ H ⟨gP,h,Dd,rs,rh,q,nx,rt,bk,ct⟩=>
 LS.of rs rh q (λgS h' gO H' k rs' rh' q'=>⟨gS,h',Dd,rs',rh',q',λa b c d k'=>nx a b c d (k.trans k'),jm rt k,λa b c d k'=>bk a b c d (k.trans k'),λa b c d k'=>ct a b c d (k.trans k')⟩) rt bk ct
variable {te:TED}
theorem PV: ∀D σ H,LS K (PQ te) D σ H->Ry (LE K te) D σ H:=λD σ H ⟨gP,h,Dd,rs,rh,q,nx,rt,bk,ct⟩=>
 LE.bind rs rh q λd v h1 H1 k1 rs1 rh1 r1 q1=>nx _ _ _ _ k1 rs1 rh1 q1
theorem Mv: ∀D σ H,LS K (GF te) D σ H->CC (LE K te) D σ H:=λD σ H ⟨gP,h,Dd,rs,rh,q,nx,rt,bk,ct⟩=>⟨gP,h,Dd.rt,rs,rh,q,rt⟩
theorem BK {c:TTD}{t u:TSD}: ∀D σ H,LS K (PR c t u) D σ H->CF (LT K c) (LS K t) (LS K u) D σ H:=λD σ H ⟨gP,h,Dd,rs,rh,q,nx,rt,bk,ct⟩=>
 LT.bind rs rh q λb h1 H1 k rs1 rh1 q1=>by
  cases b with
  |true=>rw [if_pos rfl] at q1 ⊢;exact⟨gP,h1,Dd,rs1,rh1,q1,λa b c d k'=>nx a b c d (k.trans k'),jm rt k,λa b c d k'=>bk a b c d (k.trans k'),λa b c d k'=>ct a b c d (k.trans k')⟩
  |false=>rw [if_neg P3] at q1 ⊢;exact⟨gP,h1,Dd,rs1,rh1,q1,λa b c d k'=>nx a b c d (k.trans k'),jm rt k,λa b c d k'=>bk a b c d (k.trans k'),λa b c d k'=>ct a b c d (k.trans k')⟩
theorem UK {i:Nat}: ∀D σ H,LS K (XY i te) D σ H->Gy (LE K te) (wg i) D σ H:=λD σ H ⟨gP,h,Dd,rs,rh,q,nx,rt,bk,ct⟩=>
 LE.bind rs rh q λd v h1 H1 k1 rs1 rh1 r1 q1=>nx _ _ _ _ k1 (rs1.set r1 i) rh1 q1
theorem Mw {g:TGD}: ∀D σ H,LS K (BJ te g) D σ H->Gy (LE K te) (LG K g) D σ H:=λD σ H ⟨gP,h,Dd,rs,rh,q,nx,rt,bk,ct⟩=>
 LE.bind rs rh q λd v h1 H1 k1 rs1 rh1 r1 q1=>⟨d,gP,h1,_,r1,rs1,rh1,q1,λa b c e k'=>nx a b c e (k1.trans k')⟩
theorem PX (i:Nat): ∀v σ H Q,LG K (gN i) v σ H Q->wg i v σ H Q:=λv σ H Q ⟨d,gP,h,Qd,r,rs,rh,q,p⟩=>p _ _ _ _ (.refl H) (rs.set r i) rh q
theorem ym {H:Hp}{x y:D}{vs:List V}(r:RelDs K H [x,y] vs): ∃v w,vs= [v,w]/\RelD K H x v/\RelD K H y w:=by
 obtain⟨v,r1,e,r2,r3⟩:=(show ∃v r,vs=v::r/\RelD K H x v/\RelDs K H [y] r from r);obtain⟨w,z,e',r4,r5⟩:=(show ∃v z,r1=v::z/\RelD K H y v/\RelDs K H [] z from r3);cases (show z= [] from r5);subst e' e;exact⟨v,w,rfl,r2,r4⟩
theorem jx {H:Hp}{x:D}{vs:List V}(r:RelDs K H [x] vs): ∃v,vs= [v]/\RelD K H x v:=by
 obtain⟨v,r1,e,r2,r3⟩:=(show ∃v r,vs=v::r/\RelD K H x v/\RelDs K H [] r from r);cases (show r1= [] from r3);exact⟨v,e,r2⟩
theorem Mx (i j:Nat): ∀v σ H Q,LG K (gT2 i j) v σ H Q->CI K 2 (Pg (wg i) (Pg (wg j) CH)) v σ H Q:=λv σ H Q ⟨d,gP,h,Qd,r,rs,rh,⟨x,y,e,q⟩,p⟩=>by
 subst e;obtain⟨a,vs,e,hH,r1⟩:=(show ∃a vs,v= .ref a/\H a=some (.tup vs)/\RelDs K H [x,y] vs from r);obtain⟨v1,v2,e1,r2,r3⟩:=ym r1;subst e e1;exact⟨a,[v1,v2],rfl,SqT.of hH,rfl,v1,[v2],rfl,v2,[],rfl,rfl,p _ _ _ _ (.refl H) ((rs.set r2 i).set r3 j) rh q⟩
end
section
variable {X:Cx}{st:Stmt}{sts:List Stmt}{t u:TSD}{e:Expr}{te:TED}{pos:Pos}
theorem Mz:QSs X [] Ye:=pss_nil.imp PU
theorem PY (h1:QS X st t)(h2:QSs X sts u):QSs X (st::sts) (vq t u):=(Qb h1 h2).imp Mu
theorem MB (h1:QS X st t):QSs X [st] t:=Pe h1
theorem BL (he:QE X e te)(hs:swapsWith e none pos.line X.env=pure false:=by rfl):QS X (.Expr e pos) (PQ te):=(Pf he hs).imp PV
theorem FH (he:QE X e te):QS X (.Return (some e) pos) (GF te):=(Rz he).imp Mv
theorem FI {c:Expr}{a b:List Stmt}{tc:TTD}(hc:QT X c tc)(ha:QSs X a t)(hb:QSs X b u):QS X (.If c a b pos) (PR tc t u):=(Bf hc ha hb).imp BK
theorem FJ {i:Nat}{x:Str}{pos':Pos}(hN:X.N.Nodup)(hi:X.N[i]? =some x)(hx:Loc X.env.scope x)(he:QE X e te)(hs:swapsWith e (some (.Name x pos')) pos.line X.env=pure false:=by rfl)
 (hf:X.fn x=true\/X.env.scope.names.lookup x=some .local:=by first|exact .inl rfl|exact .inr rfl|assumption):QS X (.Assign [.Name x pos'] e pos) (XY i te):=(RD hN hi hx he hs hf).imp UK
theorem PZ {i:Nat}{x:Str}(hN:X.N.Nodup)(hi:X.N[i]? =some x)(hx:Loc X.env.scope x)(hf:X.fn x=true\/X.env.scope.names.lookup x=some .local:=by first|exact .inl rfl|exact .inr rfl|assumption):QG X (.Name x pos) (gN i):=
 (wP hN hi hx hf).imp (PX i)
theorem MC {i j:Nat}{x y:Str}{p1 p2:Pos}{k:Nat}(hc:X.calm=true)(hN:X.N.Nodup)(hi:X.N[i]? =some x)(hj:X.N[j]? =some y)(hx:Loc X.env.scope x)(hy:Loc X.env.scope y)
 (hf:X.fn x=true\/X.env.scope.names.lookup x=some .local:=by first|exact .inl rfl|exact .inr rfl|assumption)(hf2:X.fn y=true\/X.env.scope.names.lookup y=some .local:=by first|exact .inl rfl|exact .inr rfl|assumption):
 QG X (.Tuple [.Name x p1,.Name y p2] k pos) (gT2 i j):=(RA hc (YV (wP hN hi hx hf) (YV (wP hN hj hy hf2) Ph))).imp (Mx i j)
theorem FK {tg:Expr}{g:TGD}(he:QE X e te)(hg:QG X tg g)(hs:swapsWithSole [tg] e pos.line X.env=pure false:=by rfl)(hsw:swappedStores [tg] e X.env=pure none:=by rfl)
 (h1:(assignEach [tg] X.env).map (·.2)= [assign tg X.env]:=by rfl):QS X (.Assign [tg] e pos) (BJ te g):=(RC he hg hs hsw h1).imp Mw
end
abbrev ItD:=HD->Option (List D)
def Re (K:PySem.W.Frag)(H:Hp)(j:ItD)(J:It):Prop:= ∀H' h',Kept H H'->RelH K h' H'-> ∀ds,j h'=some ds-> ∀i:Nat,
 (∀d,ds[i]? =some d->J.go i H'/\ ∀x H'',J.yld i H' x H''->Kept H' H''/\RelH K h' H''/\RelD K H'' d x)/\(ds.length<=i->J.stop i H')
abbrev TID:=SD->HD->(ItD->HD->Prop)->Prop
def LI (K:PySem.W.Frag)(t:TID):TI:=λσ H R=> ∃gP h Rd,RelS K H gP σ/\RelH K h H/\t gP h Rd/\ ∀j J h' H',Kept H H'->RelH K h' H'->Re K H' j J->Rd j h'->R J H'
abbrev QI (X:Cx)(tg iter:Expr)(t:TID):Prop:=PI X tg iter (LI X.K t)
theorem PI.imp {X:Cx}{tg e:Expr}{t t':TI}(h:PI X tg e t)(i: ∀σ H R,t' σ H R->t σ H R):PI X tg e t':=λpins s σ H R I q=>h pins s σ H R I (i σ H R q)
def iL (te:TED):TID:=λσ h R=>te σ h λx h1=> ∃a,x= .lst a/\R (λh=>h a) h1
def iR1 (ta:TAD):TID:=λσ h R=>ta σ h λds h1=> ∃n:Int,ds= [.int n]/\ -(2^62)<=n/\n<2^62/\R (λ_=>some ((P2 n.toNat).map λ(k:Nat)=>D.int (k:Int))) h1
def iR2 (ta:TAD):TID:=λσ h R=>ta σ h λds h1=> ∃m n:Int,ds= [.int m,.int n]/\(-(2^62)<=m/\m<2^62/\ -(2^62)<=n/\n<2^62)/\R (λ_=>some ((P2 (n-m).toNat).map λ(k:Nat)=>D.int (m+(k:Int)))) h1
section
variable {K:PySem.W.Frag}
theorem Wn (H:Hp)(a:Addr):Re K H (λh=>h a) (Itl K a):=λH' h' k rh ds e i=>by
 obtain⟨vs,hv,r⟩:=rh a ds e;refine⟨λd hd=> ?_,λhl=>⟨vs,SqL.of hv,by rw [<-r.length];exact hl⟩⟩;obtain⟨v,e1,e2⟩:=r.get hd;refine⟨⟨vs,v,SqL.of hv,e1⟩,λx H'' ⟨eH,hx⟩=> ?_⟩;subst eH;have:=hx vs (SqL.of hv);rw [e1] at this;cases this;exact⟨.refl _,rh,e2⟩
theorem Qt {H:Hp}{a:Addr}{vs:List V}{ds:List D}(hv:H a=some (.tup vs))(r:RelDs K H ds vs):Re K H (λ_=>some ds) (Itt K a):=λH' h' k rh ds' e i=>by
 cases e;have hv':=k.tup _ _ hv;have r':=r.mono k;refine⟨λd hd=> ?_,λhl=>⟨vs,SqT.of hv',by rw [<-r.length];exact hl⟩⟩;obtain⟨v,e1,e2⟩:=r'.get hd;refine⟨⟨vs,v,SqT.of hv',e1⟩,λx H'' ⟨eH,hx⟩=> ?_⟩;subst eH;have:=hx vs (SqT.of hv');rw [e1] at this;cases this;exact⟨.refl _,rh,e2⟩
theorem JQ (H:Hp)(lo:Int)(n:Nat)(ds:List D)(hd:ds=(P2 n).map λ(k:Nat)=>D.int (lo+(k:Int))):Re K H (λ_=>some ds) (Itr lo n):=λH' h' k rh ds' e i=>by
 cases e;subst hd;refine⟨λd hd=> ?_,λhl=>(show n<=i by simpa using hl)⟩;rw [D1] at hd;have hi:i<n:=by
  by_cases z:i<n
  ·exact z
  ·rw [bA (by simpa using z)] at hd;cases hd
 rw [E4 hi] at hd;cases hd;refine⟨hi,λx H'' ⟨eH,hx⟩=> ?_⟩;subst eH hx;exact⟨.refl _,rh,rfl⟩
theorem Da {te:TED}: ∀σ H R,LI K (iL te) σ H R->RE K (LE K te) σ H R:=λσ H R ⟨gP,h,Rd,rs,rh,q,p⟩=>
 LE.bind rs rh q λd v h1 H1 k1 rs1 rh1 r1 ⟨a,e,q1⟩=>by
  subst e;obtain⟨e,vs,hv⟩:=(show v= .ref a/\ ∃vs,H1 a=some (.lst vs) from r1);exact⟨a,e,⟨vs,SqL.of hv⟩,p _ _ _ _ k1 rh1 (Wn H1 a) q1⟩
theorem BM {ta:TAD}: ∀σ H R,LI K (iR1 ta) σ H R->RF (LA K ta) σ H R:=λσ H R ⟨gP,h,Rd,rs,rh,q,p⟩=>
 LA.bind rs rh q λds vs h1 H1 k1 rs1 rh1 r1 ⟨n,e,b1,b2,q1⟩=>by
  subst e;obtain⟨v,e,r2⟩:=jx r1;cases (show v= .int n from r2);exact⟨n,e,b1,b2,p _ _ _ _ k1 rh1 (JQ H1 0 n.toNat _ (by simp)) q1⟩
theorem BN {ta:TAD}: ∀σ H R,LI K (iR2 ta) σ H R->RG (LA K ta) σ H R:=λσ H R ⟨gP,h,Rd,rs,rh,q,p⟩=>
 LA.bind rs rh q λds vs h1 H1 k1 rs1 rh1 r1 ⟨m,n,e,b,q1⟩=>by
  subst e;obtain⟨v,w,e,r2,r3⟩:=ym r1;cases (show v= .int m from r2);cases (show w= .int n from r3);exact⟨m,n,e,b,p _ _ _ _ k1 rh1 (JQ H1 m (n-m).toNat _ rfl) q1⟩
end
def Rf (ti:TID)(g:TGD)(tb:TSD):TSD:=λD σ h=>ti σ h λj h1=> ∃ (n:Nat) (W:Nat->SD->HD->Prop),W 0 σ h1/\ ∀i gO h',W i gO h'-> ∃ds,j h'=some ds/\ds.length<=n/\(ds.length<=i->D.nx gO h')/\
 ∀d,ds[i]? =some d->g d gO h' λgQ h2=>tb {D with nx:=λgT h3=> ∃h4,Sub h4 h3/\W (i+1) gT h4,ct:=λgT h3=> ∃h4,Sub h4 h3/\W (i+1) gT h4,bk:=D.nx} gQ h2
theorem MD {K:PySem.W.Frag}{ti:TID}{g:TGD}{tb:TSD}: ∀D σ H,LS K (Rf ti g tb) D σ H->CJ (LI K ti) (LG K g) (LS K tb) D σ H:=λD σ H ⟨gP,h,Dd,rs,rh,q,nx,rt,bk,ct⟩=>by
 refine⟨gP,h,_,rs,rh,q,λj J h1 H1 k1 rh1 jo ⟨n,W,w0,turn⟩=> ?_⟩;refine⟨λi m gO H'=>m=n-i/\Kept H1 H'/\ ∃gS h',RelS K H' gS gO/\RelH K h' H'/\W i gS h',⟨n-0,rfl,.refl _,gP,h1,rs.mono k1,rh1,w0⟩,?_⟩;rintro i m gO H' ⟨rfl,kp,gS,h',rs',rh',w⟩;obtain⟨ds,ej,hn,stop,go⟩:=turn i gS h' w;have jo':=jo H' h' kp rh' ds ej i
 by_cases hi:i<ds.length
 ·obtain⟨g1,y1⟩:=jo'.1 ds[i] (G1 hi);refine .inr ⟨g1,λgQ H2=>Kept H1 H2/\ ∃gU h2,RelS K H2 gU gQ/\RelH K h2 H2/\W (i+1) gU h2,λgQ H2 ⟨k2,a,b,c,d,e⟩=>⟨n-(i+1),by omega,rfl,k2,a,b,c,d,e⟩,λx H'' y=> ?_⟩;obtain⟨k2,rh2,r2⟩:=y1 x H'' y;refine⟨ds[i],gS,h',_,r2,rs'.mono k2,rh2,go ds[i] (G1 hi),λiI h3 gT H3 k3 rs3 rh3 q3=> ?_⟩;have kk:Kept H H3:=k1.trans (kp.trans (k2.trans k3));have kk1:Kept H1 H3:=kp.trans (k2.trans k3);exact⟨iI,h3,_,rs3,rh3,q3,λa b c d k4 rs4 rh4 ⟨h4,sb,w4⟩=>⟨kk1.trans k4,a,h4,rs4,rh4.sub sb,w4⟩,jm rt kk,λa b c d k4 rs4 rh4 q4=>nx a b c d (kk.trans k4) rs4 rh4 q4,λa b c d k4 rs4 rh4 ⟨h4,sb,w4⟩=>⟨kk1.trans k4,a,h4,rs4,rh4.sub sb,w4⟩⟩
 ·exact .inl ⟨jo'.2 (K3.mp hi),nx _ _ _ _ (k1.trans kp) rs' rh' (stop (K3.mp hi))⟩
def vb:TTD:=λ_ h Q=>Q true h
def Wo (bind:D->SD->SD->Prop)(js:List Nat)(ti:TID)(tt:TTD)(te:TED):TED:=λσ h Q=>ti σ h λj h1=> ∃ (n:Nat) (W:Nat->List D->HD->Prop),W 0 [] h1/\ ∀i ys h',W i ys h'->ys.length<=sizeLine/\
 ∃ds,j h'=some ds/\ds.length<=n/\(ds.length<=i-> ∀p,h' p=none->Q (.lst p) (wS h' p ys))/\
  ∀d,ds[i]? =some d-> ∃gQ,bind d (jH js σ) gQ/\tt gQ h' λb h3=>if b=true then te gQ h3 λy h4=> ∃h5,Sub h5 h4/\W (i+1) (ys++ [y]) h5 else ∃h5,Sub h5 h3/\W (i+1) ys h5
def bN (i:Nat):D->SD->SD->Prop:=λd σ gQ=>gQ=σ.set i (some d)
def b2 (i j:Nat):D->SD->SD->Prop:=λd σ gQ=> ∃x y,d= .tup [x,y]/\gQ=(σ.set i (some x)).set j (some y)
theorem ME {K:PySem.W.Frag}: ∀σ H Q,LT K vb σ H Q->CV σ H Q:=λσ H Q ⟨gP,h,Qd,rs,rh,q,p⟩=>p true h H (.refl H) rh q
def GG (K:PySem.W.Frag)(js:List Nat)(bind:D->SD->SD->Prop)(g:TG):Prop:= ∀ (σ:St) (gP gU:SD) (H:Hp) (d:D) (v:V) (Q:St->Hp->Prop),RelS K H (jH js gP) (zf js σ)->RelD K H d v->bind d (jH js gP) gU->
 (∀gQ,Agree (zf js σ) gQ->RelS K H gU gQ->Q gQ H)->g v (zf js σ) H Q
theorem MF {K:PySem.W.Frag}{js:List Nat}{i:Nat}(hi:i∈js):GG K js (bN i) (wg i):=λσ gP gU H d v Q rs r b q=>by
 cases (show gU=_ from b);exact q _ (.set v λu=>zn js σ i u hi) (rs.set r i)
theorem MG {K:PySem.W.Frag}{bind:D->SD->SD->Prop}{js:List Nat}{ti:TID}{tt:TTD}{te:TED}{g:TG}(hb:GG K js bind g): ∀σ H Q,LE K (Wo bind js ti tt te) σ H Q->tLC js (LI K ti) g (LT K tt) (LE K te) σ H Q:=
 λσ H Q ⟨gP,h,Qd,rs,rh,q,p⟩=>by
  refine⟨gP,h,_,rs,rh,q,λj J h1 H1 k1 rh1 jo ⟨n,W,w0,turn⟩=> ?_⟩;refine⟨λi m ys H'=>m=n-i/\Kept H1 H'/\ ∃ds h',RelDs K H' ds ys/\RelH K h' H'/\W i ds h',⟨n-0,rfl,.refl _,[],h1,rfl,rh1,w0⟩,?_⟩;rintro i m ys H' ⟨rfl,kp,yd,h',ry,rh',w⟩;obtain⟨hz,ds,ej,hn,stop,go⟩:=turn i yd h' w;refine⟨by rw [<-ry.length];exact hz,?_⟩;have jo':=jo H' h' kp rh' ds ej i;have kk:Kept H H':=k1.trans kp
  by_cases hi:i<ds.length
  ·obtain⟨g1,y1⟩:=jo'.1 ds[i] (G1 hi);refine .inr ⟨g1,λx H'' y=> ?_⟩;obtain⟨k2,rh2,r2⟩:=y1 x H'' y;obtain⟨gU,bd,q2⟩:=go ds[i] (G1 hi);refine hb σ gP gU H'' ds[i] x _ (((rs.mono (kk.trans k2))).clear js) r2 bd λgQ ag rs2=>⟨ag,?_⟩
   refine LT.bind rs2 rh2 q2 λb h3 H3 k3 rs3 rh3 q3=> ?_
   cases b with
   |true=>
    rw [if_pos rfl] at q3 ⊢;refine LE.bind rs3 rh3 q3 λd4 v4 h4 H4 k4 rs4 rh4 r4 ⟨h5,sb,w5⟩=>⟨n-(i+1),by omega,rfl,kp.trans (k2.trans (k3.trans k4)),yd++ [d4],h5,(ry.mono (k2.trans (k3.trans k4))).append (.cons r4 .nil),rh4.sub sb,w5⟩
   |false=>
    rw [if_neg P3] at q3 ⊢;obtain⟨h5,sb,w5⟩:=q3;exact⟨n-(i+1),by omega,rfl,kp.trans (k2.trans k3),yd,h5,ry.mono (k2.trans k3),rh3.sub sb,w5⟩
  ·refine .inl ⟨jo'.2 (K3.mp hi),λa ha=>p (.lst a) (.ref a) _ _ (kk.trans (.new ha)) (rh'.newL ha ry) ⟨rfl,ys,jh⟩ (stop (K3.mp hi) a (rh'.free ha))⟩
theorem wA {X:Cx}{scope:H0}{C:Addr}{s₀:G2}{H₀:Hp}{ex:List Addr}{i:Nat}{x:Str}{p:Pos}(hN:X.N.Nodup)(hx:X.N[i]? =some x)(hl:scope.names.lookup x=some .local\/scope.names.lookup x=some .cell):
 PG (vS X scope C s₀ H₀ ex) (.Name x p) (wg i):=by
 rcases hl with z|z
 ·exact wP hN hx (.inl (bG z)) (.inr (bG z))
 ·exact wP hN hx (.inr (wR z)) (.inl (by show (scope.names.lookup x==some E3)=true;rw [z];rfl))
section
variable {X:Cx}{tg e iter elt:Expr}{te:TED}{ti:TID}{g:TGD}{tb:TSD}{tt:TTD}{pos:Pos}{ta:TAD}{scope:H0}{js:List Nat}{ifs:List Expr}
theorem Db (he:QE X e te):QI X tg e (iL te):=(Pj he).imp Da
theorem BO {p:Pos}{a:Expr}(hg:Gl X "range")(hm:X.mg "range" =none)(ha:QA X [a] ta)(hs:starEach [a] X.env= [(false,eval a X.env)]:=by rfl):QI X tg (.Call (.Name "range" p) [a] [] pos) (iR1 ta):=(Ui hg hm ha hs).imp BM
theorem FL {body:List Stmt}(hp:bM (model X.prog X.w) X.A X.env X.xe)(hc:X.calm=true)(hi:QI X tg iter ti)(hg:QG X tg g)(hb:QSs X body tb)(hs: ∀x,foldedSetIterable iter X.env x=pure x:=by intro _;rfl):
 QS X (.For tg iter body [] pos) (Rf ti g tb):=(RH hp hc hi hg hb hs).imp MD
theorem Dc:PTs X [] (LT X.K vb):=λpins s σ H Q I h=>PF pins s σ H Q I (ME σ H Q h)
theorem De {c:Expr}(hc:QT X c tt):PTs X [c] (LT X.K tt):=PH hc
theorem qlc {i:Nat}{x:Str}{p:Pos}(hc:X.calm=true)(S:BlockOk X scope js)(hi:QI X (.Name x p) iter ti)(hj:i∈js)(hN:X.N.Nodup)(hx:X.N[i]? =some x)(hl:scope.names.lookup x=some .local\/scope.names.lookup x=some .cell)
 (ht: ∀X',jg X scope X'->PTs X' ifs (LT X'.K tt))(he: ∀X',jg X scope X'->QE X' elt te)(hs: ∀x,foldedSetIterable iter X.env x=pure x:=by intro _;rfl):
 QE X (.ListComp elt [⟨.Name x p,iter,ifs,0⟩] scope pos) (Wo (bN i) js ti tt te):=
 (Bz hc S hi (λX' hX=>by obtain⟨C,s₀,H₀,ex,rfl⟩:=hX;exact wA hN hx hl) (λX' hX=>by have:=ht X' hX;obtain⟨C,s₀,H₀,ex,rfl⟩:=hX;exact this)
  (λX' hX=>by have:=he X' hX;obtain⟨C,s₀,H₀,ex,rfl⟩:=hX;exact this) hs).imp (MG (MF hj))
end
def LSp (K:PySem.W.Frag)(spd:RDn):Sp:=λvs H Q _=>LC K spd vs H Q
theorem Df {K:PySem.W.Frag}{spd:RDn}{t:TAD}{E:XK}: ∀σ H Q,LE K (dCB spd t) σ H Q->RR (LSp K spd) [] E (LA K t) σ H Q:=λσ H Q ⟨gP,h,Qd,rs,rh,t,p⟩=>
 LA.bind rs rh t λds vs h1 H1 k1 rs1 rh1 r1 q=>by rw [C8];exact⟨ds,h1,Qd,r1,rh1,q,jm p k1⟩
section
variable {X:Cx}{k:Nat}{f:Addr}{fd:S7}{ps:List Str}{spd:RDn}{x:Str}{p pos:Pos}{e:Expr}{es:List Expr}{t:TAD}
theorem BP (F:FnOk X.prog X.w X.K X.mg X.base CX0 k f fd ps (LSp X.K spd))(hr:Room k X.A)(hg:Gl X x)(hm:X.mg x=some (.ref f))(hk:PySem.W.keepIn X.K (.ref f)=true)(hb:Binds X.K fd ps [])
 (ha:QA X (e::es) t)(hdb:(x==("__debug__" :Str))=false:=by decide)(he:starEach (e::es) X.env=(false,eval e X.env)::starEach es X.env:=by rfl)(hpl:(backTo pos (starEach es X.env)).any (·.1)=false:=by rfl):
 QE X (.Call (.Name x p) (e::es) [] pos) (dCB spd t):=(Pr F hr hg hm hk hb .nil Bw ha hdb he hpl).imp Df
theorem MJ {id:String}{r:RDn}(hc:wT X (.builtin id) r)(hg:Gl X x)(hm:X.mg x=none)(hv:bootBuiltins x=some (.builtin id))(ha:QA X (e::es) t)(hn:x≠ "__name__" :=by decide)(hdb:(x==("__debug__" :Str))=false:=by decide)
 (he:starEach (e::es) X.env=(false,eval e X.env)::starEach es X.env:=by rfl)(hpl:(backTo pos (starEach es X.env)).any (·.1)=false:=by rfl):QE X (.Call (.Name x p) (e::es) [] pos) (dCB r t):=(Zl hc hg hm hv ha hn hdb he hpl).imp Mo
theorem Dg {T:String}{r:RDn}(hc:wT X (.type T) r)(hg:Gl X x)(hm:X.mg x=none)(hv:bootBuiltins x=some (.type T))(ha:QA X (e::es) t)(hn:x≠ "__name__" :=by decide)(hdb:(x==("__debug__" :Str))=false:=by decide)
 (he:starEach (e::es) X.env=(false,eval e X.env)::starEach es X.env:=by rfl)(hpl:(backTo pos (starEach es X.env)).any (·.1)=false:=by rfl):QE X (.Call (.Name x p) (e::es) [] pos) (dCB r t):=(Uu hc hg hm hv ha hn hdb he hpl).imp Mo
end
def wd (N:List Str)(ds:List D):SD:=ds.map some++R6 (N.length-ds.length) none
theorem VG {K:PySem.W.Frag}{H:Hp}{N:List Str}{ds:List D}{vs:List V}(r:RelDs K H ds vs):RelS K H (wd N ds) (start N vs):=by
 have hl:=r.length;refine⟨by unfold wd start;simp [hl],λi d e=> ?_⟩;unfold wd at e;unfold start
 by_cases hi:i<ds.length
 ·rw [S2 (by simpa using hi),D1] at e;cases q:ds[i]? with
  |none=>rw [q] at e;cases e
  |some d'=>
   rw [q] at e;cases e;obtain⟨v,e1,e2⟩:=r.get q;exact⟨v,by rw [S2 (by simpa [<-hl] using hi),D1,e1];rfl,e2⟩
 ·rw [P7 (by simpa using hi),aI] at e;split at e<;>cases e
def Qu (Q:KD):EndsD:= {nx:=λ_ h=> ∃h',Sub h' h/\Q .non h',rt:=λd h=> ∃h',Sub h' h/\Q d h'}
section
variable {P:R5}{w:T4}{K:PySem.W.Frag}{mg:Str->Option G0}{base:Heap}
theorem Fun.okD {x qual:Str}{st:Stmt}{f:Addr}{fd:S7}{N ps:List Str}{k:Nat}{spd:RDn}(F:Fun K x qual st f fd)(S:FnScope N ps (jc st))(len: ∀ds h Q,spd ds h Q->ds.length=ps.length)
 (tb:TSD)(hbody: ∀ (cdv:G0) (A:T9) (outer:List Env) (s:G2) (H:Hp) (E:XK),Room k (A.deeper (envOfC qual (jc st) s.heap.objs.size f cdv))->QSs (Qg CX0 P w K mg base N qual (jc st) f cdv A outer s H E).nox (zc st) tb)
 (read: ∀ds h Q,spd ds h Q->tb (Qu Q) (wd N ds) h):FnOk P w K mg base CX0 (k+1) f fd ps (LSp K spd):=by
 refine F.ok S (λvs H Q E h=> ?_) (λcdv A outer s H vs Q E hr h=> ?_)
 ·obtain⟨ds,h,Qd,r,rh,q,p⟩:=h;rw [<-r.length];exact len _ _ _ q
 ·obtain⟨ds,h,Qd,r,rh,q,p⟩:=h;refine⟨_,hbody cdv A outer s H E hr,wd N ds,h,Qu Qd,VG r,rh,read ds h Qd q,λgS h' gO H' k rs' rh' ⟨h2,sb,q'⟩=>p .non .non h2 H' k (rh'.sub sb) rfl q',λd v h' H' k rh' r' ⟨h2,sb,q'⟩=>p d v h2 H' k (rh'.sub sb) r' q',λ_ _ _ _ _ _ _ z=>z.elim,λ_ _ _ _ _ _ _ z=>z.elim⟩
end
section
variable {X:Cx}{iter elt:Expr}{te:TED}{ti:TID}{tt:TTD}{pos spos:Pos}{scope:H0}{js:List Nat}{ifs:List Expr}
theorem MK {i k:Nat}{x y:Str}{p py:Pos}(hc:X.calm=true)(hN:X.N.Nodup)(hk:X.N[k]? =some y)(hy:Loc X.env.scope y)(S:BlockOk X scope js)(hi:QI X (.Name x p) iter ti)(hj:i∈js)(hx:X.N[i]? =some x)(hl:scope.names.lookup x=some .local\/scope.names.lookup x=some .cell)
 (ht: ∀X',jg X scope X'->PTs X' ifs (LT X'.K tt))(he: ∀X',jg X scope X'->QE X' elt te)
 (hsw:swapsWith (.ListComp elt [⟨.Name x p,iter,ifs,0⟩] scope pos) (some (.Name y py)) spos.line X.env=pure true:=by rfl)
 (hf:X.fn y=true\/X.env.scope.names.lookup y=some .local:=by first|exact .inl rfl|exact .inr rfl|assumption)(hs: ∀x,foldedSetIterable iter X.env x=pure x:=by intro _;rfl):
 QS X (.Assign [.Name y py] (.ListComp elt [⟨.Name x p,iter,ifs,0⟩] scope pos) spos) (XY k (Wo (bN i) js ti tt te)):=by
 have base:PS X (.Assign [.Name y py] (.ListComp elt [⟨.Name x p,iter,ifs,0⟩] scope pos) spos) (Gy (tLC js (LI X.K ti) (wg i) (LT X.K tt) (LE X.K te)) (wg k)):=
  Qp hc S hi (λX' hX=>by obtain⟨C,s₀,H₀,ex,rfl⟩:=hX;exact wA hN hx hl) (λX' hX=>by have:=ht X' hX;obtain⟨C,s₀,H₀,ex,rfl⟩:=hX;exact this)
   (λX' hX=>by have:=he X' hX;obtain⟨C,s₀,H₀,ex,rfl⟩:=hX;exact this) (wP hN hk hy hf) hsw hs
 exact base.imp λD σ H h=>by
  obtain⟨gP,hd,Qd,rs,rh,t,p⟩:=UK (K:=X.K) D σ H h;exact MG (MF hj) σ H _ ⟨gP,hd,Qd,rs,rh,t,p⟩
end
def dIn (i':Nat)(ti:TID)(tt:TTD)(te:TED)(V:List D->HD->Prop)(ys:List D):SD->HD->Prop:=λσ h=>ti σ h λj h1=> ∃ (n:Nat) (W:Nat->List D->HD->Prop),W 0 ys h1/\ ∀i ys h',W i ys h'->ys.length<=sizeLine/\
 ∃ds,j h'=some ds/\ds.length<=n/\(ds.length<=i->V ys h')/\
  ∀d,ds[i]? =some d->tt (σ.set i' (some d)) h' λb h3=>if b=true then te (σ.set i' (some d)) h3 λy h4=> ∃h5,Sub h5 h4/\W (i+1) (ys++ [y]) h5 else ∃h5,Sub h5 h3/\W (i+1) ys h5
def GH (bind:D->SD->SD->Prop)(js:List Nat)(ti:TID)(tt:TTD)(i':Nat)(ti':TID)(tt':TTD)(te:TED):TED:=λσ h Q=>ti σ h λj h1=> ∃ (n:Nat) (W:Nat->List D->HD->Prop),W 0 [] h1/\ ∀i ys h',W i ys h'->ys.length<=sizeLine/\
 ∃ds,j h'=some ds/\ds.length<=n/\(ds.length<=i-> ∀p,h' p=none->Q (.lst p) (wS h' p ys))/\
  ∀d,ds[i]? =some d-> ∃gQ,bind d (jH js σ) gQ/\tt gQ h' λb h3=>if b=true then dIn i' ti' tt' te (λys' h6=> ∃h5,Sub h5 h6/\W (i+1) ys' h5) ys gQ h3 else ∃h5,Sub h5 h3/\W (i+1) ys h5
def UL (K:PySem.W.Frag)(js:List Nat)(i':Nat)(bind:D->SD->SD->Prop)(g:TG):Prop:= ∀ (σ:St) (gP gU:SD) (H:Hp) (d:D) (v:V) (Q:St->Hp->Prop),RelS K H (jH js gP) (zf js σ)->RelD K H d v->bind d (jH js gP) gU->
 (∀gQ,Agree (zf js σ) gQ->(∀u,¬gQ[i']? =some (some u))->RelS K H gU gQ->Q gQ H)->g v (zf js σ) H Q
theorem GI {K:PySem.W.Frag}{js:List Nat}{i i':Nat}(hi:i∈js)(hi':i'∈js)(hne:i≠i'):UL K js i' (bN i) (wg i):=λσ gP gU H d v Q rs r b q=>by
 cases (show gU=_ from b);refine q _ (.set v λu=>zn js σ i u hi) (λu z=> ?_) (rs.set r i);rw [C0 hne] at z;exact zn js σ i' u hi' z
theorem GJ {K:PySem.W.Frag}{bind:D->SD->SD->Prop}{js:List Nat}{i':Nat}{ti ti':TID}{tt tt':TTD}{te:TED}{g:TG}(hb:UL K js i' bind g): ∀σ H Q,LE K (GH bind js ti tt i' ti' tt' te) σ H Q->NT js (LI K ti) g (LT K tt) (LI K ti') (wg i') (LT K tt') (LE K te) σ H Q:=
 λσ H Q ⟨gP,h,Qd,rs,rh,q,p⟩=>by
  refine⟨gP,h,_,rs,rh,q,λj J h1 H1 k1 rh1 jo ⟨n,W,w0,turn⟩=> ?_⟩;refine⟨λi m ys H'=>m=n-i/\Kept H1 H'/\ ∃ds h',RelDs K H' ds ys/\RelH K h' H'/\W i ds h',⟨n-0,rfl,.refl _,[],h1,rfl,rh1,w0⟩,?_⟩;rintro i m ys H' ⟨rfl,kp,yd,h',ry,rh',w⟩;obtain⟨hz,ds,ej,hn,stop,go⟩:=turn i yd h' w;refine⟨by rw [<-ry.length];exact hz,?_⟩;have jo':=jo H' h' kp rh' ds ej i;have kk:Kept H H':=k1.trans kp
  by_cases hi:i<ds.length
  ·obtain⟨g1,y1⟩:=jo'.1 ds[i] (G1 hi);refine .inr ⟨g1,λx H'' y=> ?_⟩;obtain⟨k2,rh2,r2⟩:=y1 x H'' y;obtain⟨gU,bd,q2⟩:=go ds[i] (G1 hi);refine hb σ gP gU H'' ds[i] x _ (((rs.mono (kk.trans k2))).clear js) r2 bd λgQ ag un rs2=>⟨ag,?_⟩
   refine LT.bind rs2 rh2 q2 λb h3 H3 k3 rs3 rh3 q3=> ?_
   cases b with
   |true=>
    rw [if_pos rfl] at q3 ⊢
    -- the second clause
    refine⟨gU,h3,_,rs3,rh3,q3,λj2 J2 h4 H4 k4 rh4 jo2 ⟨n2,W2,w20,turn2⟩=> ?_⟩;refine⟨λi2 m2 ys2 H5=>m2=n2-i2/\Kept H4 H5/\ ∃ds h5,RelDs K H5 ds ys2/\RelH K h5 H5/\W2 i2 ds h5,⟨n2-0,rfl,.refl _,yd,h4,ry.mono (k2.trans (k3.trans k4)),rh4,w20⟩,?_⟩;rintro i2 m2 ys2 H5 ⟨rfl,kp5,yd5,h5,ry5,rh5,w5⟩;obtain⟨hz5,ds5,ej5,hn5,stop5,go5⟩:=turn2 i2 yd5 h5 w5;refine⟨by rw [<-ry5.length];exact hz5,?_⟩;have jo5:=jo2 H5 h5 kp5 rh5 ds5 ej5 i2;have kk5:Kept H1 H5:=kp.trans (k2.trans (k3.trans (k4.trans kp5)))
    by_cases hi5:i2<ds5.length
    ·obtain⟨g5,y5⟩:=jo5.1 ds5[i2] (G1 hi5);refine .inr ⟨g5,λx6 H6 yy6=> ?_⟩;obtain⟨k6,rh6,r6⟩:=y5 x6 H6 yy6;refine⟨.set x6 un,?_⟩;have rs6:=(rs3.mono (k4.trans (kp5.trans k6))).set r6 i';refine LT.bind rs6 rh6 (go5 ds5[i2] (G1 hi5)) λb h7 H7 k7 rs7 rh7 q7=> ?_
     cases b with
     |true=>
      rw [if_pos rfl] at q7 ⊢;exact LE.bind rs7 rh7 q7 λd8 v8 h8 H8 k8 rs8 rh8 r8 ⟨h9,sb,w9⟩=>⟨n2-(i2+1),by omega,rfl,kp5.trans (k6.trans (k7.trans k8)),yd5++ [d8],h9,(ry5.mono (k6.trans (k7.trans k8))).append (.cons r8 .nil),rh8.sub sb,w9⟩
     |false=>
      rw [if_neg P3] at q7 ⊢;obtain⟨h9,sb,w9⟩:=q7;exact⟨n2-(i2+1),by omega,rfl,kp5.trans (k6.trans k7),yd5,h9,ry5.mono (k6.trans k7),rh7.sub sb,w9⟩
    ·obtain⟨h9,sb,w9⟩:=stop5 (K3.mp hi5);exact .inl ⟨jo5.2 (K3.mp hi5),n-(i+1),by omega,rfl,kk5,yd5,h9,ry5,rh5.sub sb,w9⟩
   |false=>
    rw [if_neg P3] at q3 ⊢;obtain⟨h5,sb,w5⟩:=q3;exact⟨n-(i+1),by omega,rfl,kp.trans (k2.trans k3),yd,h5,ry.mono (k2.trans k3),rh3.sub sb,w5⟩
  ·refine .inl ⟨jo'.2 (K3.mp hi),λa ha=>p (.lst a) (.ref a) _ _ (kk.trans (.new ha)) (rh'.newL ha ry) ⟨rfl,ys,jh⟩ (stop (K3.mp hi) a (rh'.free ha))⟩
section
variable {X:Cx}{iter iter' elt:Expr}{te:TED}{ti ti':TID}{tt tt':TTD}{pos:Pos}{scope:H0}{js:List Nat}{ifs ifs':List Expr}
theorem FM {i i':Nat}{x y:Str}{p py:Pos}(hc:X.calm=true)(S:BlockOk X scope js)(hi:QI X (.Name x p) iter ti)(hj:i∈js)(hj':i'∈js)(hne:i≠i')(hN:X.N.Nodup)(hx:X.N[i]? =some x)(hy:X.N[i']? =some y)
 (hl:scope.names.lookup x=some .local\/scope.names.lookup x=some .cell)(hl':scope.names.lookup y=some .local\/scope.names.lookup y=some .cell)
 (ht: ∀X',jg X scope X'->PTs X' ifs (LT X'.K tt))(hi': ∀X',jg X scope X'->QI X' (.Name y py) iter' ti')(ht': ∀X',jg X scope X'->PTs X' ifs' (LT X'.K tt'))(he: ∀X',jg X scope X'->QE X' elt te)
 (hs: ∀x,foldedSetIterable iter X.env x=pure x:=by intro _;rfl)(hs': ∀env x,foldedSetIterable iter' env x=pure x:=by intro _ _;rfl):
 QE X (.ListComp elt [⟨.Name x p,iter,ifs,0⟩,⟨.Name y py,iter',ifs',0⟩] scope pos) (GH (bN i) js ti tt i' ti' tt' te):=
 (show PE X _ (NT js (LI X.K ti) (wg i) (LT X.K tt) (LI X.K ti') (wg i') (LT X.K tt') (LE X.K te)) from Mi hc S hi (λX' hX=>by obtain⟨C,s₀,H₀,ex,rfl⟩:=hX;exact wA hN hx hl) (λX' hX=>by have:=ht X' hX;obtain⟨C,s₀,H₀,ex,rfl⟩:=hX;exact this) (λX' hX=>by have:=hi' X' hX;obtain⟨C,s₀,H₀,ex,rfl⟩:=hX;exact this)
  (λX' hX=>by obtain⟨C,s₀,H₀,ex,rfl⟩:=hX;exact wA hN hy hl') (λX' hX=>by have:=ht' X' hX;obtain⟨C,s₀,H₀,ex,rfl⟩:=hX;exact this)
  (λX' hX=>by have:=he X' hX;obtain⟨C,s₀,H₀,ex,rfl⟩:=hX;exact this) hs hs').imp (GJ (GI hj hj' hne))
end
def BQ:RD2:=λx y h Q=>match x,y with
 | .int i,.int j=>Q (.int (i+j)) h
 | .tup a,.tup b=>a.length+b.length<=sizeLine/\Q (.tup (a++b)) h
 | .lst a,.lst b=> ∃xs ys,h a=some xs/\h b=some ys/\xs.length+ys.length<=sizeLine/\ ∀p,h p=none->Q (.lst p) (wS h p (xs++ys))
 |_,_=>False
def CW:RD2:=λx y h Q=>match x,y with
 | .int i,.int j=>Q (.int (i-j)) h
 |_,_=>False
def CY:RD2:=λx y h Q=>match x,y with
 | .int i,.int j=>CMul i j/\Q (.int (i*j)) h
 | .lst a,.int k=> ∃xs,h a=some xs/\ -(2^63)<=k/\k<2^63/\xs.length*k.toNat<=sizeLine/\ ∀p,h p=none->Q (.lst p) (wS h p (R6 k.toNat xs).flatten)
 |_,_=>False
def FN:RD2:=λx y h Q=>match x,y with
 | .int i,.int j=>0<j/\Q (.int (i%j)) h
 |_,_=>False
def BR:RD2:=λx y h Q=>match x,y with
 | .int i,.int j=>CL i j/\Q (.int (i / j)) h
 |_,_=>False
def CZ:RD2:=λx y h Q=>match x,y with
 | .int i,.int j=>CM i j/\Q (.int (i^j.toNat)) h
 |_,_=>False
def GK (p:Int->Int->Bool):RD2:=λx y h Q=>match x,y with
 | .int i,.int j=>Q (.bl (p i j)) h
 |_,_=>False
def eqD:RD2:=λx y h Q=>match x,y with
 | .int i,.int j=>Q (.bl (decide (i=j))) h
 | .bl i,.bl j=>Q (.bl (decide (i=j))) h
 | .str i,.str j=>Q (.bl (decide (i=j))) h
 |_,_=>False
def neD:RD2:=λx y h Q=>match x,y with
 | .int i,.int j=>Q (.bl (!decide (i=j))) h
 | .bl i,.bl j=>Q (.bl (!decide (i=j))) h
 | .str i,.str j=>Q (.bl (!decide (i=j))) h
 |_,_=>False
section
variable {X:Cx}
theorem Zt {f:G0->G0->Sem G0}{C:Int->Int->Prop}{g:Int->Int->V}{gd:Int->Int->D}{r:RD2}(ho:OpR X f (rI C g))(hg: ∀i j H,RelD X.K H (gd i j) (g i j))
 (hr: ∀x y h Q,r x y h Q-> ∃i j,x= .int i/\y= .int j/\C i j/\Q (gd i j) h):OpQ X f r:=ho.imp λx y H Q ⟨dx,dy,h,Qd,rx,ry,rh,q,p⟩=>by
 obtain⟨i,j,e1,e2,c,q'⟩:=hr dx dy h Qd q;subst e1 e2;exact⟨i,j,rx,ry,c,p _ _ _ _ (.refl H) rh (hg i j H) q'⟩
theorem yn {f:G0->G0->Sem G0}{g:Int->Int->V}{gd:Int->Int->D}{r:RD2}(ho:OpR X f (rI0 g))(hg: ∀i j H,RelD X.K H (gd i j) (g i j))
 (hr: ∀x y h Q,r x y h Q-> ∃i j,x= .int i/\y= .int j/\Q (gd i j) h):OpQ X f r:=ho.imp λx y H Q ⟨dx,dy,h,Qd,rx,ry,rh,q,p⟩=>by
 obtain⟨i,j,e1,e2,q'⟩:=hr dx dy h Qd q;subst e1 e2;exact⟨i,j,rx,ry,p _ _ _ _ (.refl H) rh (hg i j H) q'⟩
theorem GL:OpQ X (binaryOp .Sub) CW:=yn (gd:=λi j=> .int (i-j)) RI (λ_ _ _=>rfl) λx y h Q q=>by
 cases x<;>cases y<;>first|exact False.elim q|exact⟨_,_,rfl,rfl,q⟩
theorem Wp:OpQ X (binaryOp .Mod) FN:=Zt (gd:=λi j=> .int (i%j)) RJ (λ_ _ _=>rfl) λx y h Q q=>by
 cases x<;>cases y<;>first|exact False.elim q|exact⟨_,_,rfl,rfl,q.1,q.2⟩
theorem Dh:OpQ X (binaryOp .FloorDiv) BR:=Zt (gd:=λi j=> .int (i / j)) Pk (λ_ _ _=>rfl) λx y h Q q=>by
 cases x<;>cases y<;>first|exact False.elim q|exact⟨_,_,rfl,rfl,q.1,q.2⟩
theorem GM:OpQ X (binaryOp .Pow) CZ:=Zt (gd:=λi j=> .int (i^j.toNat)) RK (λ_ _ _=>rfl) λx y h Q q=>by
 cases x<;>cases y<;>first|exact False.elim q|exact⟨_,_,rfl,rfl,q.1,q.2⟩
theorem Zu {p:Int->Int->Bool}: ∀x y h Q,GK p x y h Q-> ∃i j,x= .int i/\y= .int j/\Q (.bl (p i j)) h:=λx y h Q q=>by
 cases x<;>cases y<;>first|exact False.elim q|exact⟨_,_,rfl,rfl,q⟩
theorem BS:OpQ X (compareOp .Lt) (GK λi j=>decide (i<j)):=yn (gd:=λi j=> .bl (decide (i<j))) Bk (λ_ _ _=>rfl) Zu
theorem Qw:OpQ X (compareOp .LtE) (GK λi j=>decide (i<=j)):=yn (gd:=λi j=> .bl (decide (i<=j))) Bl (λ_ _ _=>rfl) Zu
theorem Di:OpQ X (compareOp .Gt) (GK λi j=>decide (j<i)):=yn (gd:=λi j=> .bl (decide (j<i))) Bn (λ_ _ _=>rfl) Zu
theorem ML:OpQ X (compareOp .GtE) (GK λi j=>decide (j<=i)):=yn (gd:=λi j=> .bl (decide (j<=i))) Bo (λ_ _ _=>rfl) Zu
theorem Rg {α:Type}[DecidableEq α]{f:α->V}(hf: ∀a b,f a=f b->a=b)(a b:α):decide (f a=f b)=decide (a=b):=by
 by_cases h:a=b
 ·subst h;simp
 ·rw [decide_eq_false h,decide_eq_false (λe=>h (hf a b e))]
theorem MM:OpQ X (compareOp .Eq) eqD:=op_eq.imp λx y H Q ⟨dx,dy,h,Qd,rx,ry,rh,q,p⟩=>by
 cases dx<;>cases dy<;>first
  |exact False.elim q
  |(cases (show x= .int _ from rx);cases (show y= .int _ from ry);refine⟨rfl,p _ _ _ _ (.refl H) rh ?_ q⟩;rw [Rg (f:=V.int) (λa b e=>by cases e;rfl)];rfl)
  |(cases (show x= .bl _ from rx);cases (show y= .bl _ from ry);refine⟨rfl,p _ _ _ _ (.refl H) rh ?_ q⟩;rw [Rg (f:=V.bl) (λa b e=>by cases e;rfl)];rfl)
  |(cases (show x= .str _ from rx);cases (show y= .str _ from ry);refine⟨rfl,p _ _ _ _ (.refl H) rh ?_ q⟩;rw [Rg (f:=V.str) (λa b e=>by cases e;rfl)];rfl)
theorem Dj:OpQ X (compareOp .NotEq) neD:=op_ne.imp λx y H Q ⟨dx,dy,h,Qd,rx,ry,rh,q,p⟩=>by
 cases dx<;>cases dy<;>first
  |exact False.elim q
  |(cases (show x= .int _ from rx);cases (show y= .int _ from ry);refine⟨rfl,p _ _ _ _ (.refl H) rh ?_ q⟩;rw [Rg (f:=V.int) (λa b e=>by cases e;rfl)];rfl)
  |(cases (show x= .bl _ from rx);cases (show y= .bl _ from ry);refine⟨rfl,p _ _ _ _ (.refl H) rh ?_ q⟩;rw [Rg (f:=V.bl) (λa b e=>by cases e;rfl)];rfl)
  |(cases (show x= .str _ from rx);cases (show y= .str _ from ry);refine⟨rfl,p _ _ _ _ (.refl H) rh ?_ q⟩;rw [Rg (f:=V.str) (λa b e=>by cases e;rfl)];rfl)
def MN (K:PySem.W.Frag):R2:=λx y H Q=> ∃a b xs ys,x= .ref a/\y= .ref b/\SqT K H a xs/\SqT K H b ys/\xs= []/\Q (.ref b) H
theorem op_catT0:OpR X (binaryOp .Add) (MN X.K):=by
 intro pins s σ H x y v u Q I rx ry h;obtain⟨a,b,xs,ys,rfl,rfl,ha,hb,hx,q⟩:=h;cases rx;cases ry;obtain⟨its,r1,p1,_⟩:=I.tuple ha;obtain⟨its2,r2,p2,_⟩:=I.tuple hb;have hv:its= []:=r1.nil_iff.mpr hx;obtain⟨⟨cls,dd,data,sl⟩,ho,hc,n,hd⟩:=id p1;obtain⟨⟨cls2,dd2,data2,sl2⟩,ho2,hc2,n2,hd2⟩:=id p2;simp only at hc hd hc2 hd2;subst hc hd hc2 hd2;exact cE ⟨_,ho,rfl⟩ ⟨_,ho2,rfl⟩ aJ bU PySem.F.slot_tuple_add PySem.F.entry_tuple_add (PySem.F.args_tuple_add_2 _ _)
  (tuple_addW0 a b its.toArray its2.toArray n n2 dd dd2 sl sl2 (by simp [hv])) ⟨ho,ho2,.ref b,H,I,rfl,q⟩
theorem zJ:OpQ X (binaryOp .Add) BQ:=(op_add.or (op_catT.or (op_catT0.or RX))).imp λx y H Q ⟨dx,dy,h,Qd,rx,ry,rh,q,p⟩=>by
 cases dx<;>cases dy<;>first
  |exact False.elim q
  |skip
 ·exact .inl ⟨_,_,rx,ry,p (.int _) _ _ _ (.refl H) rh rfl q⟩
 ·rename_i ds es;obtain⟨a,vs,e1,h1,r1⟩:=(show ∃a vs,x= .ref a/\H a=some (.tup vs)/\RelDs X.K H ds vs from rx);obtain⟨b,us,e2,h2,r2⟩:=(show ∃a vs,y= .ref a/\H a=some (.tup vs)/\RelDs X.K H es vs from ry);subst e1 e2;obtain⟨hz,q⟩:=q
  by_cases hv:vs= []
  ·subst hv;have e:ds= []:=E6.mp r1.length;subst e;exact .inr (.inr (.inl ⟨a,b,[],us,rfl,rfl,SqT.of h1,SqT.of h2,rfl,p (.tup es) _ _ _ (.refl H) rh ⟨b,us,rfl,h2,r2⟩ q⟩))
  ·refine .inr (.inl ⟨a,b,vs,us,rfl,rfl,SqT.of h1,SqT.of h2,hv,by rw [<-r1.length,<-r2.length];exact hz,λe=> ?_,λ_ c hc=> ?_⟩)
   ·subst e;have e:es= []:=E6.mp r2.length;subst e;rw [C8] at q;exact p (.tup ds) _ _ _ (.refl H) rh ⟨a,vs,rfl,h1,r1⟩ q
   ·exact p (.tup (ds++es)) _ _ _ (.new hc) (rh.new hc) ⟨c,vs++us,rfl,jh,(r1.append r2).mono (.new hc)⟩ q
 ·rename_i a b;obtain⟨xs,ys,h1,h2,hz,q⟩:=q;obtain⟨vs,e1,r1⟩:=rh a xs h1;obtain⟨us,e2,r2⟩:=rh b ys h2;refine .inr (.inr (.inr ⟨a,b,vs,us,rx.1,ry.1,e1,e2,by rw [<-r1.length,<-r2.length];exact hz,λc hc=> ?_⟩));exact p (.lst c) _ _ _ (.new hc) (rh.newL hc (r1.append r2)) ⟨rfl,_,jh⟩ (q c (rh.free hc))
theorem RelDs.flat {K:PySem.W.Frag}{H:Hp}{ds:List D}{vs:List V}(r:RelDs K H ds vs): ∀k:Nat,RelDs K H (R6 k ds).flatten (R6 k vs).flatten
 |0=>by simp;exact .nil
 |k+1=>by rw [C7,C7,A5,A5];exact r.append (RelDs.flat r k)
theorem oq_mul:OpQ X (binaryOp .Mult) CY:=(op_mul.or RY).imp λx y H Q ⟨dx,dy,h,Qd,rx,ry,rh,q,p⟩=>by
 cases dx<;>cases dy<;>first
  |exact False.elim q
  |skip
 ·exact .inl ⟨_,_,rx,ry,q.1,p (.int _) _ _ _ (.refl H) rh rfl q.2⟩
 ·obtain⟨xs,h1,b1,b2,hz,q⟩:=q;obtain⟨vs,e1,r1⟩:=rh _ xs h1;refine .inr ⟨_,_,vs,rx.1,ry,e1,b1,b2,by rw [<-r1.length];exact hz,λc hc=> ?_⟩;exact p (.lst c) _ _ _ (.new hc) (rh.newL hc (r1.flat _)) ⟨rfl,_,jh⟩ (q c (rh.free hc))
end
def ixD:RD2:=λx y h Q=>match x,y with
 | .tup ds,.int i=> ∃d,atI ds i=some d/\Q d h
 | .lst a,.int i=> ∃ds d,h a=some ds/\atI ds i=some d/\Q d h
 | .scr ns,.int i=> ∃n,atI ns i=some n/\Q (.int n) h
 |_,_=>False
theorem UM {K:PySem.W.Frag}{H:Hp}{ds:List D}{vs:List V}(r:RelDs K H ds vs){i:Int}{d:D}(e:atI ds i=some d): ∃v,atI vs i=some v/\RelD K H d v:=by
 unfold atI at e ⊢;rw [<-r.length];cases q:ixN ds.length i with
 |none=>rw [q] at e;cases e
 |some j=>rw [q] at e;exact r.get e
theorem Dk {α β:Type}(f:α->β){xs:List α}{i:Int}{x:α}(e:atI xs i=some x):atI (xs.map f) i=some (f x):=by
 unfold atI at e ⊢;rw [G7];cases q:ixN xs.length i with
 |none=>rw [q] at e;cases e
 |some j=>
  rw [q] at e;show (xs.map f)[j]? =_;rw [D1,(show xs[j]? =some x from e)];rfl
section
variable {X:Cx}{a b e:Expr}{ta tb te:TED}{pos p2:Pos}
theorem BT: ∀σ H Q,LE X.K (dOp ixD ta tb) σ H Q->tOp (rIx X.K) (LE X.K ta) (LE X.K tb) σ H Q:=λσ H Q ⟨gP,h,Qd,rs,rh,t,p⟩=>
 LE.bind rs rh t λdx x h1 H1 k1 rs1 rh1 r1 t1=>LE.bind rs1 rh1 t1 λdy y h2 H2 k2 rs2 rh2 ry q=>by
  have rx:=r1.mono k2;have kk:=k1.trans k2;cases dx<;>cases dy<;>first
   |exact False.elim q
   |skip
  ·rename_i ds i;obtain⟨d,e,q⟩:=q;obtain⟨a,vs,e1,hH,r⟩:=(show ∃a vs,x= .ref a/\H2 a=some (.tup vs)/\RelDs X.K H2 ds vs from rx);obtain⟨v,e2,rv⟩:=UM r e;exact .inr (.inl ⟨a,vs,i,v,e1,ry,SqT.of hH,e2,p _ _ _ _ kk rh2 rv q⟩)
  ·rename_i a i;obtain⟨ds,d,hd,e,q⟩:=q;obtain⟨vs,hH,r⟩:=rh2 a ds hd;obtain⟨v,e2,rv⟩:=UM r e;exact .inl ⟨a,vs,i,v,rx.1,ry,SqL.of hH,e2,p _ _ _ _ kk rh2 rv q⟩
  ·rename_i ns i;obtain⟨n,e,q⟩:=q;obtain⟨a,e1,hS⟩:=(show ∃a,x= .ref a/\Scr X.K H2 a ns from rx);exact .inl ⟨a,_,i,.int n,e1,ry,hS.sq,Dk V.int e,p (.int n) _ _ _ kk rh2 rfl q⟩
theorem qix (ha:QE X a ta)(hb:QE X b tb)(hs:Zn b):QE X (.Subscript a b pos) (dOp ixD ta tb):=(Bs RV ha hb hs).imp BT
end
def Rh:RDn:=λds h Q=>match ds with
 | [.tup xs]=>Q (.int xs.length) h
 | [.lst a]=> ∃xs,h a=some xs/\Q (.int xs.length) h
 | [.scr ns]=>Q (.int ns.length) h
 |_=>False
def BU:RDn:=λds h Q=>match ds with
 | [.int i]=>Q (.int i) h
 | [.bl k]=>Q (.int (if k then 1 else 0)) h
 |_=>False
def BV:RDn:=λds h Q=>match ds with
 | [.int i,.int j]=>Q (.int (if j>i then j else i)) h
 |_=>False
def GN:RDn:=λds h Q=>match ds with
 | [.tup xs]=>Q (.tup xs) h
 | [.lst a]=> ∃xs,h a=some xs/\Q (.tup xs) h
 |_=>False
def Va:RDn:=λds h Q=>match ds with
 | [.lst a]=> ∃xs,h a=some xs/\Q (.tup xs) (Yd h a)
 |_=>False
section
variable {X:Cx}
theorem MO:wT X (.builtin "len") Rh:=call_len_seq.imp λxs H Q ⟨ds,h,Qd,r,rh,q,p⟩=>by
 unfold Rh at q;split at q
 ·rename_i es;obtain⟨v,e,r1⟩:=jx r;obtain⟨a,vs,e1,hH,r2⟩:=(show ∃a vs,v= .ref a/\H a=some (.tup vs)/\RelDs X.K H es vs from r1);subst e e1;exact⟨a,vs,rfl,.inr (SqT.of hH),by rw [<-r2.length];exact p (.int _) _ _ _ (.refl H) rh rfl q⟩
 ·rename_i a;obtain⟨es,hd,q⟩:=q;obtain⟨v,e,r1⟩:=jx r;obtain⟨vs,hH,r2⟩:=rh a es hd;have e1:v= .ref a:=r1.1;subst e e1;exact⟨a,vs,rfl,.inl (SqL.of hH),by rw [<-r2.length];exact p (.int _) _ _ _ (.refl H) rh rfl q⟩
 ·rename_i ns;obtain⟨v,e,r1⟩:=jx r;obtain⟨a,e1,hS⟩:=(show ∃a,v= .ref a/\Scr X.K H a ns from r1);subst e e1;exact⟨a,_,rfl,.inl hS.sq,by rw [G7];exact p (.int _) _ _ _ (.refl H) rh rfl q⟩
 ·exact q.elim
theorem GO:wT X (.type "int") BU:=call_int1.imp λxs H Q ⟨ds,h,Qd,r,rh,q,p⟩=>by
 unfold BU at q;split at q
 ·rename_i i;obtain⟨v,e,r1⟩:=jx r;cases (show v= .int i from r1);exact .inl ⟨i,e,p (.int i) _ _ _ (.refl H) rh rfl q⟩
 ·rename_i k;obtain⟨v,e,r1⟩:=jx r;cases (show v= .bl k from r1);exact .inr ⟨k,e,p (.int _) _ _ _ (.refl H) rh rfl q⟩
 ·exact q.elim
theorem MP (hc:X.calm=true):wT X (.builtin "max") BV:=(Up hc).imp λxs H Q ⟨ds,h,Qd,r,rh,q,p⟩=>by
 unfold BV at q;split at q
 ·rename_i i j;obtain⟨v,w,e,r1,r2⟩:=ym r;cases (show v= .int i from r1);cases (show w= .int j from r2);exact⟨i,j,e,p (.int _) _ _ _ (.refl H) rh rfl q⟩
 ·exact q.elim
theorem cq_tuple:wT X (.type "tuple") GN:=call_tuple_of.imp λxs H Q ⟨ds,h,Qd,r,rh,q,p⟩=>by
 unfold GN at q;split at q
 ·rename_i es;obtain⟨v,e,r1⟩:=jx r;obtain⟨a,vs,e1,hH,r2⟩:=(show ∃a vs,v= .ref a/\H a=some (.tup vs)/\RelDs X.K H es vs from r1);subst e e1;exact⟨a,vs,rfl,.inr ⟨SqT.of hH,p (.tup es) _ _ _ (.refl H) rh ⟨a,vs,rfl,hH,r2⟩ q⟩⟩
 ·rename_i a;obtain⟨es,hd,q⟩:=q;obtain⟨v,e,r1⟩:=jx r;obtain⟨vs,hH,r2⟩:=rh a es hd;have e1:v= .ref a:=r1.1;subst e e1;exact⟨a,vs,rfl,.inl ⟨SqL.of hH,λc hc=>p (.tup es) _ _ _ (.new hc) (rh.new hc) ⟨c,vs,rfl,jh,r2.mono (.new hc)⟩ q⟩⟩
 ·exact q.elim
theorem zo:wT X (.type "tuple") Va:=cq_tuple.imp λxs H Q ⟨ds,h,Qd,r,rh,q,p⟩=>by
 unfold Va at q;split at q
 ·rename_i a;obtain⟨es,hd,q⟩:=q;exact⟨[.lst a],h,λd h'=>Qd d (Yd h' a),r,rh,⟨es,hd,q⟩,λd v h' H' k rh' rd q'=>p d v _ H' k (rh'.sub (Sub.drop h' a)) rd q'⟩
 ·exact q.elim
end
def Wq:D->Option String
 | .non=>some "NoneType" | .bl _=>some "bool" | .int _=>some "int" | .str _=>some "str" | .tup _=>some "tuple" | .lst _=>some "list" | .dic _ _=>some "dict" | .dct _=>none| .scr _=>none| .exc _=>none| .fn _=>none
def MQ (T:String)(n:String):Bool:=n==T||(T== "int" &&n== "bool")
theorem Qx {K:PySem.W.Frag}{H:Hp}{d:D}{v:V}{n:String}(r:RelD K H d v)(e:Wq d=some n):TyOf K H v (.type n):=by
 cases d with
 |non=>cases (show v= .non from r);cases e;exact .non
 |bl b=>cases (show v= .bl b from r);cases e;exact .bl b
 |int i=>cases (show v= .int i from r);cases e;exact .int i
 |str x=>cases (show v= .str x from r);cases e;exact .str x
 |tup ds=>
  obtain⟨a,vs,e1,hH,_⟩:=(show ∃a vs,v= .ref a/\H a=some (.tup vs)/\RelDs K H ds vs from r);subst e1;cases e;exact .tup hH
 |lst a=>
  obtain⟨e1,vs,hH⟩:=(show v= .ref a/\ ∃vs,H a=some (.lst vs) from r);subst e1;cases e;exact .lst hH
 |dic x i=>
  obtain⟨a,e1,hH⟩:=(show ∃a,v= .ref a/\H a=some (.dK [(K7 x,V.int i)]) from r);subst e1;cases e;exact .dK hH
 |dct a=>cases e
 |scr ns=>cases e
 |exc C=>cases e
 |fn a=>cases e
def Dl:List String:= ["NoneType","bool","int","str","tuple","list","dict"]
theorem VH {d:D}{n:String}(e:Wq d=some n):n∈Dl:=by
 cases d<;>cases e<;>decide
def BW (K:PySem.W.Frag):Prop:= ∀n∈Dl,∀T∈ ["tuple","int","bool","list","str"],PySem.W.kitOne K (.type n) (.type T)=some (MQ T n)
theorem Dm (K:PySem.W.Frag):BW K:=by
 intro n hn T hT;simp only [Dl,S3,O7,or_false] at hn hT;rcases hn with rfl|rfl|rfl|rfl|rfl|rfl|rfl<;>rcases hT with rfl|rfl|rfl|rfl|rfl<;>with_unfolding_all rfl
theorem UN {X:Cx}(T:String):CallR X (.builtin "isinstance") (λxs H Q=> ∃x t b,xs= [x,.ty T]/\TyOf X.K H x t/\PySem.W.kitOne X.K t (.type T)=some b/\Q (.bl b) H):=by
 intro pins s σ H xs us Q I r h;obtain⟨x,t,b,rfl,ty,e,q⟩:=h;obtain⟨u,w',rfl,rx,rt⟩:=Pp r;cases (show w'=O8 T from rt);exact Ur I rx ty e λtk=>⟨.bl b,H,I.tok tk,rfl,q⟩
def dIs (T:String)(ta:TED):TED:=λσ h Q=>ta σ h λx h1=> ∃n,Wq x=some n/\Q (.bl (MQ T n)) h1
theorem BX {X:Cx}{a:Expr}{ta:TED}{T:String}{t:Str}{p p2 pos:Pos}(hT:T∈ ["tuple","int","bool","list","str"])(hg:Gl X "isinstance")(hm:X.mg "isinstance" =none)(hg2:Gl X t)(hm2:X.mg t=none)(hv:bootBuiltins t=some (.type T))(ha:QE X a ta)
 (hn:t≠ "__name__" :=by decide)(hd:(t==("__debug__" :Str))=false:=by decide)
 (h1:starEach [a,.Name t p2] X.env=(false,eval a X.env)::starEach [.Name t p2] X.env:=by rfl)(h2:(backTo pos (starEach [.Name t p2] X.env)).any (·.1)=false:=by rfl):
 QE X (.Call (.Name "isinstance" p) [a,.Name t p2] [] pos) (dIs T ta):=
 (Zl (UN T) hg hm dQ (wQ ha (wQ (Pd (v:= .ty T) hg2 hm2 hv rfl hn hd) pa_nil (by rfl)) h1) (by decide) (by decide) h1 h2).imp
  λσ H Q ⟨gP,h,Qd,rs,rh,t,p⟩=>LE.bind rs rh t λd v h1 H1 k1 rs1 rh1 r1 ⟨n,e,q⟩=>⟨v,.type n,MQ T n,rfl,Qx r1 e,Dm _ n (VH e) T hT,p (.bl _) _ _ _ k1 rh1 rfl q⟩
theorem UO (bs:List Bool):(P2 bs.length).all (λi=>bs.getD i false)=bs.all id:=by
 induction bs with
 |nil=>rfl
 |cons b bs ih=>
  rw [D5,List.range_succ_eq_map,fL,O2,fL];show (b&&_)=(b&&bs.all id);rw [<-ih];rfl
theorem UP {bs:List Bool}{its:List G0}(r:Vals (bs.map V.bl) its){i:Nat}{v:G0}(e:its[i]? =some v):v= .bool (bs.getD i false):=by
 have hl:=r.length;rw [G7] at hl;have hi:i<its.length:=(P4.mp e).1;have hb:(bs.map V.bl)[i]? =some (.bl bs[i]):=by rw [D1,G1 (by omega)];rfl
 obtain⟨u,e1,r1⟩:=r.get hb;rw [e] at e1;cases e1;rw [R4,G1 (by omega)];exact r1
section
variable {X:Cx}
theorem Zv (hc:X.calm=true):CallR X (.builtin "all") (λxs H Q=> ∃ (a:Addr) (bs:List Bool),xs= [.ref a]/\SqL X.K H a (bs.map V.bl)/\Q (.bl (bs.all id)) H):=by
 intro pins s σ H xs us Q I r h;obtain⟨a,bs,rfl,hS,q⟩:=h;obtain⟨u,rfl,ru⟩:=vJ r;cases ru;obtain⟨its,rv,pl,hz⟩:=I.list hS;have hl:=pl.isList;have hlt:a<s.heap.objs.size:=by obtain⟨_,e,_⟩:=hl;exact P8 e
 refine call_all_walk (J5 hl ?_);refine⟨s.heap.objs.size,_,_,_,_,_,λi=>bs.getD i false,rfl,Walks.list (A:=X.A.in1) (show X.A.in1.handled=none from I.ok.hd hc) s.heap.objs.size a (S0 hlt) its.toArray,⟨⟨_,S4 _ rfl,rfl,rfl⟩,hl.push _⟩,?_,λh' tk hk=> ?_⟩
 ·intro i v s' Q' E' hP hQ;have e:its[i]? =some v:=by simpa using hP
  rw [UP rv e];exact N8 hQ
 ·have hn:its.toArray.size=bs.length:=by rw [P6,<-rv.length,G7]
  rw [hn,UO];exact⟨.bl _,H,I.kept (t':=tk) (λb o e=>hk b o (λz=>by rw [G9.mp z] at e;exact absurd (P8 e) (M7 _)) (P1 _ e)),rfl,q⟩
theorem vW {K:PySem.W.Frag}{H:Hp}: ∀ {bs:List Bool} {vs:List V},RelDs K H (bs.map D.bl) vs->vs=bs.map V.bl
 | [],_,h=>h
 |b::bs,vs,h=>by
  obtain⟨v,r,e,h1,h2⟩:=(show ∃v r,vs=v::r/\RelD K H (.bl b) v/\RelDs K H (bs.map D.bl) r from h);rw [e,vW h2,(show v= .bl b from h1)];rfl
def BY:RDn:=λds h Q=> ∃ (a:Addr) (bs:List Bool),ds= [.lst a]/\h a=some (bs.map D.bl)/\Q (.bl (bs.all id)) (Yd h a)
theorem UQ (hc:X.calm=true):wT X (.builtin "all") BY:=(Zv hc).imp λxs H Q ⟨ds,h,Qd,r,rh,⟨a,bs,e,hd,q⟩,p⟩=>by
 subst e;obtain⟨v,e,r1⟩:=jx r;obtain⟨vs,hH,r2⟩:=rh a _ hd;have e1:v= .ref a:=r1.1;rw [vW r2] at hH;subst e e1;exact⟨a,bs,rfl,SqL.of hH,p (.bl _) _ _ _ (.refl H) (rh.sub (Sub.drop h a)) rfl q⟩
end
def Fa (to:TED)(te:TED):TED:=λσ h Q=>to σ h λx h1=> ∃a,x= .lst a/\te σ h1 λy h2=> ∃xs,h2 a=some xs/\xs.length<sizeLine/\Q .non (wS h2 a (xs++ [y]))
section
variable {X:Cx}{o e i:Expr}{to te ti:TED}{apos cpos pos:Pos}
theorem FO (ho:QE X o to)(he:QE X e te)(hbase:attributeBase o "append" X.env (eval o X.env)=eval o X.env:=by rfl)
 (hfew:((backTo cpos (starEach [e] X.env)).all (λx=> !x.1)&&(backToKw cpos (keywordEach [] X.env)).all (λx=>x.1.isSome)&&decide ([e].length+([]:List U9).length+(if ([]:List U9).isEmpty then 0 else 1)<30))=true:=by rfl)
 (hline:(apos.endLine==cpos.line)=true:=by rfl)(hs:starEach [e] X.env=(false,eval e X.env)::starEach [] X.env:=by rfl)(hplain:(backTo cpos (starEach [] X.env)).any (·.1)=false:=by rfl):
 QE X (.Call (.Attribute o "append" apos) [e] [] cpos) (Fa to te):=
 (Pv PySem.F.plainAttrs_list PySem.F.slot_list_append PySem.F.type_list_append Ux ho (wQ he pa_nil hs) hbase hfew hline hs hplain).imp
  λσ H Q ⟨gP,h,Qd,rs,rh,t,p⟩=>LE.bind rs rh t λd v h1 H1 k1 rs1 rh1 r1 ⟨a,e,q⟩=>by
   subst e;obtain⟨e1,vs,hH⟩:=(show v= .ref a/\ ∃vs,H1 a=some (.lst vs) from r1);subst e1;refine⟨.inl ⟨rfl,vs,SqL.of hH⟩,?_⟩;refine LE.bind rs1 rh1 q λy u h2 H2 k2 rs2 rh2 r2 ⟨xs,hx,hz,q2⟩=> ?_
   obtain⟨ws,hW,r3⟩:=rh2 a xs hx;refine⟨a,ws,u,rfl,rfl,hW,by rw [<-r3.length];exact hz,p .non _ _ _ (k1.trans (k2.trans (.put hW))) (rh2.put hW (r3.append (.cons r2 .nil))) rfl q2⟩
def MR (to ti:TED):TGD:=λd σ h Q=>to σ h λo h1=>ti σ h1 λi h2=> ∃a k xs j,o= .lst a/\i= .int k/\h2 a=some xs/\ixN xs.length k=some j/\Q σ (wS h2 a (xs.set j d))
theorem MS (ho:QE X o to)(hi:QE X i ti)
 (ha: ∀v,assign (.Subscript o i pos) X.env v=(do
  let ov <-holding [v] (eval o X.env)
  let iv <-holding [v,ov] (eval i X.env)
  standAt pos
  holding [v,ov,iv] (setItem ov iv v)
  release [v,ov,iv] []):=by intro _;rfl):QG X (.Subscript o i pos) (MR to ti):=
 (RB ho hi Qk ha).imp λv σ H Q ⟨d,gP,h,Qd,r,rs,rh,q,p⟩=>
  LE.bind rs rh q λd1 v1 h1 H1 k1 rs1 rh1 r1 q1=>LE.bind rs1 rh1 q1 λd2 v2 h2 H2 k2 rs2 rh2 r2 ⟨a,k,xs,j,e1,e2,hx,hj,q2⟩=>by
   subst e1 e2;have e3:v1= .ref a:=(r1.mono k2).1;obtain⟨ws,hW,r3⟩:=rh2 a xs hx;refine⟨a,ws,k,j,e3,r2,hW,by rw [<-r3.length];exact hj,p _ _ _ _ (k1.trans (k2.trans (.put hW))) (rs2.mono (.put hW)) (rh2.put hW (RelDs.set ((r.mono k1).mono k2) j r3)) q2⟩
end
def UR (N:List Str)(sc:List (Str×NameKind))(scope:H0)(js:List Nat):Bool:=
 scope.kind== .function&&scope.names.all (λp=>p.2 != .cell||scope.names.lookup p.1==some .cell)&&scope.names.all (λp=>p.2 != .local||scope.names.lookup p.1==some .local)&&
 scope.names.all (λp=>p.2 != .free||sc.lookup p.1==some .cell||sc.lookup p.1==some .free)&&
 (P2 N.length).all λi=>(scope.names.lookup (N.getD i Str.empty) !=some .local&&scope.names.lookup (N.getD i Str.empty) !=some .cell)||js.contains i
theorem wB {X:Cx}{scope:H0}{js:List Nat}(h:UR X.N X.env.scope.names scope js=true):BlockOk X scope js:=by
 unfold UR at h;simp only [O5] at h;obtain⟨⟨⟨⟨h1,h2⟩,h3⟩,h4⟩,h5⟩:=h;refine⟨eq_of_beq h1,λp hp e=> ?_,λp hp e=> ?_,λp hp e=> ?_,λi x e1 e2=> ?_⟩
 ·have:=T5.mp h3 p hp;rw [e] at this;simpa using this
 ·have:=T5.mp h2 p hp;rw [e] at this;simpa using this
 ·have:=T5.mp h4 p hp;rw [e] at this;simpa using this
 ·have hi:i<X.N.length:=(P4.mp e1).1;have:=T5.mp h5 i (D7.mpr hi);rw [R4,e1,Option.getD_some] at this;rcases e2 with e2|e2<;>(rw [e2] at this;simpa using this)
theorem qpt {X:Cx}{e:Expr}{t:TTD}(h:QW X e t):QT X e t:=h.pt
theorem US {i:Nat}{js:List Nat}{ti:TID}{te:TED}{σ:SD}{h h1:HD}{Q:KD}{ds:List D}{j:ItD}(f:D->D)(hz:ds.length<=sizeLine)(hj:j h1=some ds)
 (ht: ∀R:ItD->HD->Prop,R j h1->ti σ h R)(he: ∀d∈ds,∀Q':KD,Q' (f d) h1->te ((jH js σ).set i (some d)) h1 Q')(hq: ∀p,h1 p=none->Q (.lst p) (wS h1 p (ds.map f))):Wo (bN i) js ti vb te σ h Q:=by
 refine ht _ ⟨ds.length,λk ys h'=>h'=h1/\ys=(ds.take k).map f,⟨rfl,by simp⟩,?_⟩;rintro k ys h' ⟨rfl,rfl⟩;refine⟨by simp only [G7,D4];omega,ds,hj,G5 _,λhl p hp=> ?_,λd hd=>⟨_,rfl,?_⟩⟩
 ·rw [R3 hl];exact hq p hp
 ·unfold vb;dsimp only;rw [if_pos rfl];refine he d (G8 hd) _ ⟨h',Sub.refl _,rfl,?_⟩;rw [T0,hd];simp
end L2
namespace HT
open PySem PySem.Spec PyProof.Rows
section
variable {prog:R5}{w:T4}{A:T9}{E:G0->G2->Prop}{s:G2}
theorem wU {t sl:Addr}{items:Array G0}{vl vu:G0}{lo hi:Option Int}{Q:G0->G2->Prop}(ht:dF s.heap t items)(hs:s.heap.IsSliceOf sl vl vu .none)(pl:aQ vl lo)(pu:aQ vu hi)
 (hw:sIx items.size 0 lo=0/\sIx items.size items.size hi=items.size)(h:Q (.ref t) s):wpAny (model prog w) A (getItem (.ref t) (.ref sl)) Q E s:=by
 obtain⟨os,hos,hcs,hds⟩:=id hs;have hTs:s.TypeIs (.ref sl) "slice" :=⟨os,hos,hcs⟩;unfold getItem
 try with_reducible refine E1 ?_
 first|refine wpAny_bind (P9 ?_)|skip
 refine wpAny_bind (cF ht.typeIs (by decide) ?_);refine wpAny_bind (aK (name:=Str.ofString "__getitem__") ht.typeIs F4
  (K8 F4 ht.typeIs bP ?_ (bY _ _)))
 show wpAny _ _ (Y3 (.ref t) >>= _) _ _ s;refine wpAny_bind (fJ ht ?_);refine wpAny_bind (cG hTs ?_);rw [if_pos (by decide)];refine wpAny_bind (wc hs pl pu ?_);have hyes:((((sIx items.size 0 lo:Nat):Int)==0&&(1:Int)==1&&(sIx items.size items.size hi-sIx items.size 0 lo)==items.size)=true):=by
  rw [hw.1,hw.2];simp
 show wpAny _ _ (if (((sIx items.size 0 lo:Nat):Int)==0&&(1:Int)==1&&(sIx items.size items.size hi-sIx items.size 0 lo)==items.size)=true then _ else _) _ _ s;rw [if_pos hyes];refine wpAny_bind (m:=Y7 (.ref t)) ?_;unfold Y7;refine wpAny_bind (cG ht.typeIs (P9 ?_));rw [if_pos (by decide)];exact wpAny_bind (b7 (P9 ⟨_,rfl,P9 h⟩))
end
end HT
namespace L2
open PySem PySem.Spec PyProof.Rows
def FP (K:PySem.W.Frag):V->Option Int->Option Int->Hp->VK->Prop:=λx lo hi H Q=> ∃a xs,x= .ref a/\SqT K H a xs/\(HT.sIx xs.length 0 lo=0/\HT.sIx xs.length xs.length hi=xs.length)/\Q (.ref a) H
variable {X:Cx}
theorem sl_whole:SlR X (FP X.K):=by
 intro pins s σ H x v vl vu lo hi sl Q I rx hs pl pu h;obtain⟨a,xs,rfl,hx,hw,q⟩:=h;cases rx;obtain⟨its,r,ht,hz⟩:=I.tuple hx;have hlen:its.toArray.size=xs.length:=by rw [P6];exact r.length.symm
 refine⟨"tuple",_,PyProof.Rows.slot_tuple_getitem.lookup,ht.typeIs,?_⟩;exact HT.wU ht hs pl pu (by rw [hlen];exact hw) ⟨.ref a,H,I,rfl,q⟩
def VI {α:Type}(xs:List α)(lo hi:Option Int):List α:=(xs.drop (HT.sIx xs.length 0 lo)).take (HT.sIx xs.length xs.length hi-HT.sIx xs.length 0 lo)
abbrev TOD:=SD->HD->(Option Int->HD->Prop)->Prop
def MT (t:TED):TOD:=λσ h Q=>t σ h λx h1=> ∃i,x= .int i/\Q (some i) h1
def LO (K:PySem.W.Frag)(t:TOD):TO:=λσ H Q=> ∃gP h Qd,RelS K H gP σ/\RelH K h H/\t gP h Qd/\ ∀o h' H',Kept H H'->RelH K h' H'->Qd o h'->Q o H'
theorem LO.bind {K:PySem.W.Frag}{ta:TOD}{σ:St}{H:Hp}{gP:SD}{h:HD}{kd:Option Int->HD->Prop}{k:Option Int->Hp->Prop}(rs:RelS K H gP σ)(rh:RelH K h H)(t:ta gP h kd)(f: ∀o h' H',Kept H H'->RelS K H' gP σ->RelH K h' H'->kd o h'->k o H'):LO K ta σ H k:=
 ⟨gP,h,kd,rs,rh,t,λo h' H' kp r1 q=>f o h' H' kp (rs.mono kp) r1 q⟩
theorem PO.imp {e:Option Expr}{t t':TO}(h:PO X e t)(i: ∀σ H Q,t' σ H Q->t σ H Q):PO X e t':=λpins s σ H Q I q=>h pins s σ H Q I (i σ H Q q)
abbrev QO (X:Cx)(e:Option Expr)(t:TOD):Prop:=PO X e (LO X.K t)
theorem Do {e:Expr}{te:TED}(he:QE X e te):QO X (some e) (MT te):=(Pt he).imp λσ H Q ⟨gP,h,Qd,rs,rh,q,p⟩=>
 LE.bind rs rh q λd v h1 H1 k1 rs1 rh1 r1 ⟨i,e,q1⟩=>by subst e;exact⟨i,r1,p _ _ _ k1 rh1 q1⟩
def slD:D->Option Int->Option Int->HD->KD->Prop:=λx lo hi h Q=>match x with
 | .tup ds=>Q (.tup (VI ds lo hi)) h
 | .scr ns=> ∀p,h p=none->Q (.lst p) (wS h p ((VI ns lo hi).map D.int))
 | .lst a=> ∃ds,h a=some ds/\ ∀p,h p=none->Q (.lst p) (wS h p (VI ds lo hi))
 |_=>False
def dSl (te:TED)(tl th:TOD):TED:=λσ h Q=>te σ h λx h1=>tl σ h1 λl h2=>th σ h2 λu h3=>slD x l u h3 Q
theorem Zw {K:PySem.W.Frag}{H:Hp}{ds:List D}{vs:List V}(r:RelDs K H ds vs)(lo hi:Option Int):RelDs K H (VI ds lo hi) (XW vs lo hi):=by
 unfold VI XW;rw [r.length];exact(r.drop _).take _
theorem Dp {α β:Type}(f:α->β)(xs:List α)(lo hi:Option Int):VI (xs.map f) lo hi=(VI xs lo hi).map f:=by
 unfold VI;rw [G7,List.map_take,List.map_drop]
theorem MU {e:Expr}{te:TED}{lo hi:Option Expr}{tl th:TOD}{pos p2:Pos}(he:QE X e te)(hl:QO X lo tl)(hu:QO X hi th):QE X (.Subscript e (.Slice lo hi none p2) pos) (dSl te tl th):=
 (Qj (sl_tup.or (sl_whole.or Pu)) he hl hu).imp λσ H Q ⟨gP,h,Qd,rs,rh,q,p⟩=>
  LE.bind rs rh q λd v h1 H1 k1 rs1 rh1 r1 q1=>LO.bind rs1 rh1 q1 λl h2 H2 k2 rs2 rh2 q2=>LO.bind rs2 rh2 q2 λu h3 H3 k3 rs3 rh3 q3=>by
   have rv:=(r1.mono k2).mono k3;have kk:=k1.trans (k2.trans k3);cases d<;>first
    |exact False.elim q3
    |skip
   ·rename_i ds;obtain⟨a,vs,e1,hH,r⟩:=(show ∃a vs,v= .ref a/\H3 a=some (.tup vs)/\RelDs X.K H3 ds vs from rv)
    by_cases hw:HT.sIx vs.length 0 l=0/\HT.sIx vs.length vs.length u=vs.length
    ·refine .inr (.inl ⟨a,vs,e1,SqT.of hH,hw,p (.tup (VI ds l u)) _ _ _ kk rh3 ⟨a,vs,rfl,hH,?_⟩ q3⟩);have z:=Zw r l u;have e:XW vs l u=vs:=by unfold XW;rw [hw.1,hw.2];simp
     rwa [e] at z
    ·exact .inl ⟨a,vs,e1,SqT.of hH,hw,λc hc=>p (.tup (VI ds l u)) _ _ _ (kk.trans (.new hc)) (rh3.new hc) ⟨c,_,rfl,jh,(Zw r l u).mono (.new hc)⟩ q3⟩
   ·rename_i a;obtain⟨ds,hd,q3⟩:=q3;obtain⟨vs,hH,r⟩:=rh3 a ds hd;exact .inr (.inr ⟨a,vs,rv.1,SqL.of hH,λc hc=>p (.lst c) _ _ _ (kk.trans (.new hc)) (rh3.newL hc (Zw r l u)) ⟨rfl,_,jh⟩ (q3 c (rh3.free hc))⟩)
   ·rename_i ns;obtain⟨a,e1,hS⟩:=(show ∃a,v= .ref a/\Scr X.K H3 a ns from rv);refine .inr (.inr ⟨a,_,e1,hS.sq,λc hc=>p (.lst c) _ _ _ (kk.trans (.new hc)) (rh3.newL hc ?_) ⟨rfl,_,jh⟩ (q3 c (rh3.free hc))⟩);have z:=Zw (wz (K:=X.K) (H:=H3) ns) l u
    rwa [Dp] at z
end L2
namespace HT
open PySem PySem.Spec PyProof.Rows
open Sem (wp)
open Builtin
theorem vt:fillsNumberSlot (.type "tuple") "mul" =pure false:=
 PySem.fillsNumberSlot_seq (id:= "tuple.__mul__") (r:=some (.builtin "tuple.__rmul__")) F.slot_tuple_mul.lookup (by decide +kernel) F.slot_tuple_rmul.lookup (by decide +kernel)
theorem Wr:seqRepeat? (.type "tuple")=pure (some (.builtin "tuple.__mul__")):=by
 unfold seqRepeat?;rw [PySem.seqSlot_of (T:= "tuple") (name:= "__mul__") (id:= "tuple.__mul__") F.slot_tuple_mul.lookup (by decide +kernel),PySem.seqSlot_of (T:= "tuple") (name:= "__rmul__") (id:= "tuple.__rmul__") F.slot_tuple_rmul.lookup (by decide +kernel)];rfl
section
variable {prog:R5}{w:T4}{A:T9}{E:G0->G2->Prop}{s:G2}
theorem Zx {k:Int}{t:Tok}{l:Addr}{o:Obj}{its:Array G0}{n:Nat}{P:PySem.Fin->G2->Prop}(at_:s.heap.get? l=some o)(tup:o.cls= .type "tuple")(dat:o.data= .seq its n)(h:P (.done (.ret .notImplemented)) s):wpAny (model prog w) A (Builtin.«int.__rmul__» ⟨[.int k t,.ref l],[]⟩) P E s:=by
 obtain⟨c,dd,dt,sl⟩:=o;cases tup;cases dat;obtain⟨hp,g,d,tk,os⟩:=s
 wp_walk
 exact h
theorem Yf {l:Addr}{its:Array G0}{n:Nat}{x:Int}{u:Tok}{dd:Option Addr}{sl:Array (Option G0)}{P:PySem.Fin->G2->Prop}(at_:s.heap.get? l=some {cls:= .type "tuple",dict:=dd,data:= .seq its n,slots:=sl})(fits: -(2^63)<=x/\x<2^63)
 (same:(its.isEmpty||x==1)=true->P (.done (.ret (.ref l))) s)
 (gone:(its.isEmpty||x==1)=false->(decide (x<=0)||its.isEmpty)=true->P (.done (.ret (.ref s.heap.objs.size))) {s with heap:=s.heap.push {cls:= .type "tuple",data:= .seq #[]}})
 (more:(its.isEmpty||x==1)=false->(decide (x<=0)||its.isEmpty)=false-> ¬ (its.size:Int)*x>(2^63-1) / 8/\Y8 ((its.size:Int)*x)=false/\((R6 x.toNat its).foldl (· ++ ·) #[]).size<=sizeLine/\
  P (.done (.ret (.ref s.heap.objs.size))) {s with heap:=s.heap.push {cls:= .type "tuple",data:= .seq ((R6 x.toNat its).foldl (· ++ ·) #[])}}):
 wpAny (model prog w) A (Builtin.«tuple.__mul__» ⟨[.ref l,.int x u],[]⟩) P E s:=by
 obtain⟨hp,g,d,tk,os⟩:=s
 wp_walk
 rw [if_neg (by simp only [a6,decide_eq_true_eq];omega)]
 wp_walk
 cases c1:(its.isEmpty||x==1) with
 |true=>
  rw [if_pos rfl]
  wp_walk
  exact same c1
 |false=>
  rw [if_neg P3];cases c2:(decide (x<=0)||its.isEmpty) with
  |true=>
   rw [if_pos rfl]
   wp_walk
   exact gone c1 c2
  |false=>
   obtain⟨m1,m2,m3,m4⟩:=more c1 c2;rw [if_neg P3];dsimp only;rw [if_neg m1,m2,if_neg P3]
   wp_walk
   exact m4
end
end HT
namespace L2
open PySem PySem.Spec PyProof.Rows
def BZ (K:PySem.W.Frag):R2:=λx y H Q=> ∃ (a:Addr) (k:Int) (xs:List V),x= .ref a/\y= .int k/\SqT K H a xs/\ -(2^63)<=k/\k<2^63/\xs.length*k.toNat<=sizeLine/\
 ((xs= []\/k=1)->Q (.ref a) H)/\(¬ (xs= []\/k=1)-> ∀p,H p=none->Q (.ref p) (upd H p (.tup (R6 k.toNat xs).flatten)))
theorem vC {l:List G0}:l.toArray= #[]↔l= []:=by cases l<;>simp
variable {X:Cx}
theorem Dq:OpR X (binaryOp .Mult) (BZ X.K):=by
 intro pins s σ H x y v u Q I rx ry h;obtain⟨a,k,xs,rfl,rfl,hH,h1,h2,hz,q1,q2⟩:=h;cases rx;obtain⟨t,rfl⟩:=ry;obtain⟨its,r,ht,_⟩:=I.tuple hH;obtain⟨⟨cls,dd,data,sl⟩,ho,hc,n,hd⟩:=id ht;simp only at hc hd;subst hc hd;have hl:=r.length;have hnew:(R6 k.toNat its.toArray).foldl (· ++ ·) #[]=(R6 k.toNat its).flatten.toArray:=by
  have:=vL its k.toNat [];rw [N7] at this;exact this
 have few:its.length*k.toNat<=sizeLine:=by rw [<-hl];exact hz
 have free:=I.hok.fresh (G5 _);refine Z8 (T:= "tuple") (U:= "int") (by decide) ⟨_,ho,rfl⟩ (λs'=>aT s' k t) HT.vt dO W9 HT.Wr F.slot_int_index.lookup
  (K8 W9 (aT s k t) c9 (HT.Zx ho rfl rfl ⟨_,rfl,rfl,⟨_,ho,rfl⟩,K8 F.slot_tuple_mul ⟨_,ho,rfl⟩ F.entry_tuple_mul (HT.Yf ho ⟨h1,h2⟩ (λc=> ?_) (λc c0=> ?_) (λc c0=> ?_)) (F.args_tuple_mul_2 _ _)⟩) (cI _ _))
 ·refine⟨_,rfl,.ref a,H,I,rfl,q1 ?_⟩;simp only [a6,beq_iff_eq,cL,vC] at c;exact c.imp (λe=>r.nil_iff.mp e) id
 ·simp only [bH,beq_eq_false_iff_ne,Y9,ne_eq,vC] at c;have k0:k.toNat=0:=by
   simp only [a6,decide_eq_true_eq,cL,vC] at c0;have:=c0.resolve_right c.1;omega
  have last:=q2 (λz=>z.elim (λe=>c.1 (r.nil_iff.mpr e)) c.2) _ free;rw [k0] at last;exact⟨_,rfl,.ref s.heap.objs.size,_,I.laid (t':=s.toks) (o:= .tup []) (λb ob q=>P1 _ q) (G5 _) ⟨by decide,[],.nil,IsTupN.new _ _⟩,rfl,last⟩
 ·simp only [bH,beq_eq_false_iff_ne,Y9,ne_eq,vC,decide_eq_false_iff_not] at c c0;have em:((its.toArray.size:Nat):Int)*k=((its.length*k.toNat:Nat):Int):=by rw [Int.natCast_mul,P6,show ((k.toNat:Nat):Int)=k by omega]
  have cap:(sizeLine:Nat)<=(2^63-1) / 8:=by decide
  rw [em,hnew];refine⟨by omega,by unfold Y8;exact decide_eq_false (by omega),by rw [P6,Yb,cJ];exact few,_,rfl,.ref s.heap.objs.size,_,I.laid (t':=s.toks) (o:= .tup (R6 k.toNat xs).flatten) (λb ob q=>P1 _ q) (G5 _) ⟨by rw [Yb,cJ];exact hz,_,r.rep k.toNat,IsTupN.new _ _⟩,rfl,q2 (λz=>z.elim (λe=>c.1 (r.nil_iff.mpr e)) c.2) _ free⟩
def Fb:RD2:=λx y h Q=>match x,y with
 | .tup ds,.int k=> -(2^63)<=k/\k<2^63/\ds.length*k.toNat<=sizeLine/\Q (.tup (R6 k.toNat ds).flatten) h
 |x,y=>CY x y h Q
theorem Yg:OpQ X (binaryOp .Mult) Fb:=(oq_mul.or Dq).imp λx y H Q ⟨dx,dy,h,Qd,rx,ry,rh,q,p⟩=>by
 by_cases ht: ∃ds k,dx= .tup ds/\dy= .int k
 ·obtain⟨ds,k,e1,e2⟩:=ht;subst e1 e2;obtain⟨b1,b2,hz,q⟩:=q;obtain⟨a,vs,e,hH,r⟩:=(show ∃a vs,x= .ref a/\H a=some (.tup vs)/\RelDs X.K H ds vs from rx);refine .inr ⟨a,k,vs,e,ry,SqT.of hH,b1,b2,by rw [<-r.length];exact hz,λhs=> ?_,λ_ c hc=>p (.tup _) _ _ _ (.new hc) (rh.new hc) ⟨c,_,rfl,jh,(r.flat _).mono (.new hc)⟩ q⟩;refine p (.tup _) _ _ _ (.refl H) rh ⟨a,vs,rfl,hH,?_⟩ q;rcases hs with e0|e1
  ·subst e0;have:ds= []:=E6.mp r.length;subst this;simpa using r
  ·subst e1;simpa using r
 ·refine .inl ⟨dx,dy,h,Qd,rx,ry,rh,?_,p⟩;unfold Fb at q;split at q
  ·exact absurd ⟨_,_,rfl,rfl⟩ ht
  ·exact q
def Fc:D->HD->KD->Prop:=λx h Q=>match x with
 | .int i=>Q (.int (-i)) h
 |_=>False
def dUn (f:D->HD->KD->Prop)(ta:TED):TED:=λσ h Q=>ta σ h λx h1=>f x h1 Q
theorem FQ {a:Expr}{ta:TED}{pos:Pos}(ha:QE X a ta):QE X (.UnaryOp .USub a pos) (dUn Fc ta):=
 (Bj RL ha).imp λσ H Q ⟨gP,h,Qd,rs,rh,t,p⟩=>LE.bind rs rh t λd v h1 H1 k1 rs1 rh1 r1 q=>by
  cases d<;>first
   |exact False.elim q
   |exact⟨_,r1,p (.int _) _ _ _ k1 rh1 rfl q⟩
def MV (K:PySem.W.Frag)(tl:TE):TI:=λσ H R=>tl σ H λx H1=> ∃a,x= .ref a/\((∃xs,SqL K H1 a xs/\R (Itl K a) H1)\/ ∃xs,SqT K H1 a xs/\R (Itt K a) H1)
theorem MW {tg l:Expr}{tl:TE}(hl:PE X l tl):PI X tg l (MV X.K tl):=by
 intro pins s σ H R I h;refine thn (hl pins s σ H _ I h) λv s1 ⟨x,H1,I1,r1,q1⟩=> ?_
 obtain⟨a,e,q⟩:=q1;subst e;cases r1;rcases q with ⟨xs,hq,q⟩|⟨xs,hq,q⟩
 ·obtain⟨its,rv,p,hz⟩:=I1.list hq;refine J5 p.isList ?_;refine⟨s1.heap.objs.size,[s1.heap.objs.size],_,_,H1,rfl,I1.kept (t':=s1.toks) λb o e=>P1 _ e,Wb a _,⟨_,S4 _ rfl,rfl,rfl⟩,λb hb=> ?_,q⟩;have e:b=s1.heap.objs.size:=by simpa using hb
  subst e;exact I1.fpOk (G5 _) (I1.hok.fresh (G5 _))
 ·obtain⟨its,rv,p,hz⟩:=I1.tuple hq;refine b8 (show s1.heap.IsTuple a its.toArray from p) ?_;refine⟨s1.heap.objs.size,[s1.heap.objs.size],_,_,H1,rfl,I1.kept (t':=s1.toks) λb o e=>P1 _ e,Vy a _,⟨_,S4 _ rfl,rfl,rfl⟩,λb hb=> ?_,q⟩;have e:b=s1.heap.objs.size:=by simpa using hb
  subst e;exact I1.fpOk (G5 _) (I1.hok.fresh (G5 _))
def iS (te:TED):TID:=λσ h R=>te σ h λx h1=>match x with
 | .lst a=>R (λh=>h a) h1
 | .tup ds=>R (λ_=>some ds) h1
 | .scr ns=>R (λ_=>some (ns.map D.int)) h1
 |_=>False
variable {K:PySem.W.Frag}
theorem Qy {H:Hp}{a:Addr}{ns:List Int}(hs:Scr K H a ns):Re K H (λ_=>some (ns.map D.int)) (Itl K a):=λH' h' k rh ds' e i=>by
 cases e;have hs':Scr K H' a ns:=hs.elim (λ⟨o,z⟩=> .inl ⟨o,k.frz _ _ _ z⟩) .inr;refine⟨λd hd=> ?_,λhl=>⟨_,hs'.sq,by simpa using hl⟩⟩;obtain⟨v,e1,e2⟩:=(wz (K:=K) (H:=H') ns).get hd;refine⟨⟨_,v,hs'.sq,e1⟩,λx H'' ⟨eH,hx⟩=> ?_⟩;subst eH;have:=hx _ hs'.sq;rw [e1] at this;cases this;exact⟨.refl _,rh,e2⟩
theorem MX {te:TED}: ∀σ H R,LI K (iS te) σ H R->MV K (LE K te) σ H R:=λσ H R ⟨gP,h,Rd,rs,rh,q,p⟩=>
 LE.bind rs rh q λd v h1 H1 k1 rs1 rh1 r1 q1=>by
  cases d<;>first
   |exact False.elim q1
   |skip
  ·rename_i ds;obtain⟨a,vs,e,hv,r⟩:=(show ∃a vs,v= .ref a/\H1 a=some (.tup vs)/\RelDs K H1 ds vs from r1);exact⟨a,e,.inr ⟨vs,SqT.of hv,p _ _ _ _ k1 rh1 (Qt hv r) q1⟩⟩
  ·rename_i a;obtain⟨e,vs,hv⟩:=(show v= .ref a/\ ∃vs,H1 a=some (.lst vs) from r1);exact⟨a,e,.inl ⟨vs,SqL.of hv,p _ _ _ _ k1 rh1 (Wn H1 a) q1⟩⟩
  ·rename_i ns;obtain⟨a,e,hS⟩:=(show ∃a,v= .ref a/\Scr K H1 a ns from r1);exact⟨a,e,.inl ⟨_,hS.sq,p _ _ _ _ k1 rh1 (Qy hS) q1⟩⟩
theorem MY {tg e:Expr}{te:TED}(he:QE X e te):QI X tg e (iS te):=(MW he).imp MX
def GP:TSD:=λ_ _ _=>False
theorem MZ {st:Stmt}:QS X st GP:=λ_ _ _ _ _ _ ⟨_,_,_,_,_,z,_⟩=>z.elim
structure Zs (mg:Str->Option G0):Prop where
 len:mg "len" =none
 max:mg "max" =none
 min:mg "min" =none
 divmod:mg "divmod" =none
 all:mg "all" =none
 any:mg "any" =none
 repr:mg "repr" =none
 sum:mg "sum" =none
 sorted:mg "sorted" =none
 int:mg "int" =none
 tuple:mg "tuple" =none
 list:mg "list" =none
 set:mg "set" =none
 bool:mg "bool" =none
 isinstance:mg "isinstance" =none
 range:mg "range" =none
 zip:mg "zip" =none
 enumerate:mg "enumerate" =none
 reversed:mg "reversed" =none
def jp (P:R5)(w:T4)(K:PySem.W.Frag)(mg:Str->Option G0)(base:Heap)(n:Nat)(x:Str)(ps:List Str)(sp:RDn):Prop:=
 ∃ (g:Addr) (gd:S7),FnOk P w K mg base CX0 n g gd ps (LSp K sp)/\Binds K gd ps []/\PySem.W.keepIn K (.ref g)=true/\mg x=some (.ref g)
def UT:RDn:=λds h Q=> ∃ns,ds= [.scr ns]/\(∀a,h a=none)/\ns.length<=63/\ ∀h',Q (.bl true) h'
def Bm (mg:Str->Option G0)(base:Heap):Prop:= ∃bm ob,mg "__builtins__" =some (.ref bm)/\bm≠builtinsNs/\base.get? bm=some ob/\ob.cls= .type "module" /\ob.dict=some builtinsNs/\ob.data= .plain
def zv (K:PySem.W.Frag):List (Addr×Addr):=LN.filterMap (PySem.W.tabIn K)
theorem TabK.mem {P:Addr}(h:TabK K P): ∃c,(c,P)∈zv K:=let ⟨x,hx,c,e⟩:=h;⟨c,Q9.mpr ⟨x,hx,e⟩⟩
theorem UU {P:R5}{w:T4}{mg mb:Str->Option G0}{k:Nat}{fa a:Addr}{fd:S7}{x:Str}{gR:G2}{vs:List G0}{ns:List Int}
 (KX:K.In gR.heap)(hns:gR.heap.Ns mainGlobals mg)(hb:gR.heap.Ns builtinsNs mb)(hbb: ∀x:Str,x≠ "__name__" ->mb x=bootBuiltins x)(hlim:gR.heap.NoLimit)(hg:gR.gens= #[])
 (ha:gR.heap.get? a=some {cls:= .type "list",data:= .seq vs.toArray})(hi:O1 vs ns)(hl:ns.length<=63)(hr:Room k callerA)
 (hbm:Bm mg gR.heap)(F: ∀base:Heap,K.In base->base.Ns mainGlobals mg->Bm mg base->FnOk P w K mg base CX0 k fa fd [x] (LSp K UT))(hbind: ∀ (s:G2) (u:G0),dY s fd ⟨[u],[]⟩ [(x,u)])
 (hT: ∀p∈zv K,PySem.W.CodeHd gR.heap p.1 p.2/\gR.heap.get? p.2=some (PySem.W.tabObj #[])/\K.lookup p.2=none):
 codeAny (model P w) callerA (.call (.ref fa) ⟨[.ref a],[]⟩) (λr s'=>r= .ok (.ret (.bool true))/\OldK gR.heap s'.heap/\s'.os=gR.os/\aB s'.gens) gR:=by
 have rv:=Wi hi;have lenV:=hi.length;have hz:ns.length<=sizeLine:=D9 hl (by decide);have hT': ∀b,b∈(zv K).map (·.2)-> ∃c,PySem.W.CodeHd gR.heap c b/\gR.heap.get? b=some (PySem.W.tabObj #[])/\K.lookup b=none:=λb hb=>by
  obtain⟨p,hp,rfl⟩:=T1.mp hb;exact⟨p.1,hT p hp⟩
 have core: ∀H:Hp,Scr K H a ns->HOk P w H gR.heap->(∀b u,H b=some u->(b=a/\K.lookup a=none/\ ∃o xs,u= .frz o (.lst xs))\/(b∈(zv K).map (·.2)/\u= .tbl #[]))->(∀b,b∈(zv K).map (·.2)->H b=some (.tbl #[]))->
  codeAny (model P w) callerA (.call (.ref fa) ⟨[.ref a],[]⟩) (λr s'=>r= .ok (.ret (.bool true))/\OldK gR.heap s'.heap/\s'.os=gR.os/\aB s'.gens) gR:=by
  intro H hS hok hA hTt;have noA: ∀ {b:Addr} {o:Obj} {es:Array DictEntry} {ep:Nat},gR.heap.get? b=some o->o.data= .dict es ep->H b=none:=λ{b o es ep} e d=>by
   cases q:H b with
   |none=>rfl
   |some u=>
    rcases hA b u q with ⟨rfl,_,_⟩|⟨z,_⟩
    ·rw [ha] at e;cases e;have d':Data.seq vs.toArray _=Data.dict es ep:=d;cases d'
    ·obtain⟨c,_,e2,_⟩:=hT' b z;rw [e2] at e;cases e;have d':Data.fields _=Data.dict es ep:=d;cases d'
  have nsK: ∀ {b:Addr} {m:Str->Option G0},gR.heap.Ns b m->(XZ gR.heap H).Ns b m:=λ{b m} ⟨o,es,ep,e,d,r⟩=>⟨o,es,ep,Zk e (noA e d),d,r⟩
  have hKb:K.In (XZ gR.heap H):=λb o e=>Zk (KX b o e) (by
   cases q:H b with
   |none=>rfl
   |some u=>
    rcases hA b u q with ⟨rfl,z,_⟩|⟨z,_⟩
    ·rw [z] at e;cases e
    ·obtain⟨c,_,_,z2⟩:=hT' b z;rw [z2] at e;cases e)
  have hM:Mod K mg (XZ gR.heap H):=⟨hKb,nsK hns,⟨mb,nsK hb,hbb⟩,let ⟨mc,h1,h2⟩:=hlim;⟨mc,nsK h1,h2⟩⟩;have e0:Env0 P w K mg (XZ gR.heap H) callerA [] gR H:=⟨rfl,hM,λb o e=>Pa e,C3 (Uf _ _),trivial,λb hb=>absurd (show b∈([]:List Addr) from hb) (by simp),hok,.of_eq hg⟩;have hsp:LSp K UT [.ref a] H (λv _=>v= .bl true) (λ_ _ _=>False):=by
   refine⟨[.scr ns],⟨λ_=>none,λ_=>none⟩,λd _=>d= .bl true,⟨.ref a,[],rfl,⟨a,rfl,hS⟩,rfl⟩,⟨λb ds e=>(by cases e),λp hp=> ?_,λb c e=>(by cases e)⟩,⟨ns,rfl,λ_=>rfl,hl,λ_=>rfl⟩,?_⟩
   ·obtain⟨c,hc⟩:=hp.mem;exact⟨#[],hTt p (Q2 (f:=(·.2)) hc),trivial,λpos cv e=>(by cases e)⟩
   ·intro d v h' H' _ _ r e;subst e;exact r
  have hBm:Bm mg (XZ gR.heap H):=by
   obtain⟨bm,ob,b1,b2,b3,b4,r⟩:=hbm;refine⟨bm,ob,b1,b2,Zk b3 ?_,b4,r⟩;cases q:H bm with
   |none=>rfl
   |some u=>
    rcases hA bm u q with ⟨rfl,_,_⟩|⟨z,_⟩
    ·rw [ha] at b3;cases b3;exact absurd (Value.type.inj b4) (by decide)
    ·obtain⟨c,_,e2,_⟩:=hT' bm z;rw [e2] at b3;cases b3;cases b4
  refine cC ((F _ hKb (nsK hns) hBm).run callerA [] gR H ⟨[.ref a],[]⟩ [.ref a] [.ref a] _ _ hr e0 (hbind gR (.ref a)) (.cons rfl .nil) hsp) λr s' h=> ?_
  cases r with
  |error e=>exact False.elim h
  |ok fl=>
   cases fl with
   |next=>exact False.elim h
   |brk=>exact False.elim h
   |cont=>exact False.elim h
   |ret u=>
    obtain⟨v,H',os,bare,un,hok',r',q⟩:=h;have q':v= .bl true:=q;subst q';obtain rfl:u=X6 true:=r';have one: ∀b o,gR.heap.get? b=some o->s'.heap.get? b=some o\/(b∈(zv K).map (·.2)/\ ∃more,s'.heap.get? b=some (PySem.W.tabObj more)):=λb o e=>by
     cases q:H b with
     |none=>exact .inl (un.keep b o e q (by intro z;exact absurd (show b∈([]:List Addr) from z) (by simp)) (by simp))
     |some u=>
      rcases hA b u q with ⟨rfl,_,ob,xs,rfl⟩|⟨z,rfl⟩
      ·have z2:=un.frzs _ ob _ q;obtain⟨e1,_⟩:=hok _ _ q;obtain⟨e2,_⟩:=hok' _ _ z2;rw [e] at e1;cases e1;exact .inl e2
      ·obtain⟨more,z2⟩:=un.tbls b _ q;exact .inr ⟨z,_,(show s'.heap.get? b=some _ from hok' b _ z2)⟩
    refine⟨rfl,⟨λb o e=> ?_,λb o e=> ?_⟩,os,bare⟩
    ·rcases one b o e with z|⟨z,more,z2⟩
     ·exact .inl z
     ·obtain⟨c,hc,e2,_⟩:=hT' b z;rw [e] at e2;cases e2;refine .inr (.inl ⟨(hc.tab e).isCodeTable,rfl,#[],more,rfl,?_⟩);rw [z2];simp
    ·rcases one b o e with z|⟨z,more,z2⟩
     ·exact⟨_,z⟩
     ·exact⟨_,z2⟩
 have nT:a ∉ (zv K).map (·.2):=λz=>by
  obtain⟨c,_,e2,_⟩:=hT' a z;rw [ha] at e2;cases e2
 have okT: ∀ {H:Hp} (b:Addr),b∈(zv K).map (·.2)->ObjOk P w H gR.heap b (.tbl #[]):=λb hb=>let ⟨_,_,e,_⟩:=hT' b hb;e
 cases hk:K.lookup a with
 |some o=>
  have e:=KX a o hk;rw [ha] at e;cases e;refine core (λb=>if b∈(zv K).map (·.2) then some (.tbl #[]) else none) (.inr ⟨_,vs.toArray,_,hk,rfl,rfl,rfl,by rw [P6,lenV];exact hz,by simpa using rv⟩) (λb u z=> ?_) (λb u z=> ?_) λb hb=>if_pos hb
  ·by_cases hb:b∈(zv K).map (·.2)
   ·have z':=(if_pos hb).symm.trans z;cases z';exact okT b hb
   ·have z':=(if_neg hb).symm.trans z;cases z'
  ·by_cases hb:b∈(zv K).map (·.2)
   ·have z':=(if_pos hb).symm.trans z;cases z';exact .inr ⟨hb,rfl⟩
   ·have z':=(if_neg hb).symm.trans z;cases z'
 |none=>
  refine core (λb=>if b=a then some (.frz {cls:= .type "list",data:= .seq vs.toArray} (.lst (ns.map V.int))) else if b∈(zv K).map (·.2) then some (.tbl #[]) else none) (.inl ⟨{cls:= .type "list",data:= .seq vs.toArray},if_pos rfl⟩) (λb u z=> ?_) (λb u z=> ?_) λb hb=> ?_
  ·by_cases hb:b=a
   ·have z':=(if_pos hb).symm.trans z;cases z';subst hb;exact⟨ha,by rw [G7];exact hz,vs,_,rv,ha⟩
   ·have z':=(if_neg hb).symm.trans z
    by_cases hb2:b∈(zv K).map (·.2)
    ·have z2:=(if_pos hb2).symm.trans z';cases z2;exact okT b hb2
    ·have z2:=(if_neg hb2).symm.trans z';cases z2
  ·by_cases hb:b=a
   ·have z':=(if_pos hb).symm.trans z;cases z';exact .inl ⟨hb,hk,_,_,rfl⟩
   ·have z':=(if_neg hb).symm.trans z
    by_cases hb2:b∈(zv K).map (·.2)
    ·have z2:=(if_pos hb2).symm.trans z';cases z2;exact .inr ⟨hb2,rfl⟩
    ·have z2:=(if_neg hb2).symm.trans z';cases z2
  ·have:b≠a:=λz=>nT (z ▸ hb)
   show (if b=a then _ else _)=_;rw [if_neg this,if_pos hb]
def Ca (q:R5)(K:PySem.W.Frag):Bool:=LN.all λx=>match PySem.W.tabIn K x with
 |some p=>(K.lookup p.2).isNone&&((gC q).find? (λe=>e.name==x)).isSome
 |none=>true
theorem Qz {l:PySem.W.OpenLaw}{k:Nat}{q:R5}{loose:List Str}{XP:(Str->Option G0)->Heap->Prop}{YP:T4->Heap->Prop}{d:DefRec}{K:gL->PySem.W.Frag}{x:Str}(hn:l.most=some 63)(hdf:d.params.defaults= [])(hr:Room k callerA)
 (hY: ∀ (w:T4) (h:Heap),YP w h->(K w.params).In h)(hB: ∀w:T4,Ca q (K w.params)=true)
 (F: ∀ (w:T4) (mg:Str->Option G0) (fa:Addr) (h:Heap),(K w.params).In h->h.Ns mainGlobals mg->mg d.name=some (.ref fa)->
  ∃fd:S7,(∀ (s:G2) (u:G0),dY s fd ⟨[u],[]⟩ [(x,u)])/\ ∀base:Heap,(K w.params).In base->base.Ns mainGlobals mg->Bm mg base->FnOk l.prog w (K w.params) mg base CX0 k fa fd [x] (LSp (K w.params) UT)):
 PySem.W.WalkO q loose XP YP l.row.toRowW d [] (λf vs=>PySem.call f vs):=by
 refine Att.attach_call hn hdf λw s₀ gR mg mb fa o pm cd doc a vs ns G Y ho hd hcd hmg hobj hints hlen hg=> ?_
 have KX:=hY w _ Y;obtain⟨fd,hb,hF⟩:=F w mg fa _ KX G.T.g hmg;refine UU KX G.T.g G.T.b G.T.builtins G.T.nolimit hg hobj hints hlen hr G.T.bmain hF hb λp hp=> ?_
 obtain⟨x,hx,e⟩:=Q9.mp hp;have z:=T5.mp (hB w) x hx;rw [e] at z;simp only [O5,Option.isNone_iff_eq_none] at z;obtain⟨dd,hdd⟩:=Q5.mp z.2;have t:=PySem.W.tab_of (c:=p.1) (P:=p.2) G.T KX hdd e;exact⟨t.1,t.2,z.1⟩
def jL:Expr->Bool
 | .Starred .. =>false
 |_=>true
theorem Yh {e:Expr}{es:List Expr}{env:Env}(h:jL e=true):starEach (e::es) env=(false,eval e env)::starEach es env:=by
 cases e<;>first|rfl|cases h
theorem qac {e:Expr}{es:List Expr}{te:TED}{t:TAD}(ha:QE X e te)(hr:QA X es t)(h:jL e=true:=by rfl):QA X (e::es) (zh te t):=PP ha hr (Yh h)
variable {h:HD}{L:List D}
theorem Sub.newAt {h':HD}{p:Addr}(s:Sub h h')(e:h' p=none):Sub h (wS h' p L):=s.trans (.new e)
structure But (p:Addr)(h h':HD):Prop where
 ls: ∀a ds,a≠p->h a=some ds->h' a=some ds
 dc: ∀a c,h.dc a=some c->h'.dc a=some c
instance {p:Addr}{h h':HD}:CoeFun (But p h h') λ_=> ∀a ds,a≠p->h a=some ds->h' a=some ds:=⟨But.ls⟩
theorem yO {p q:Addr}(e:h p=some L)(f:h q=none):q≠p:=λz=>by subst z;rw [e] at f;cases f
theorem jE {p q:Addr}{M:List D}(e:h p=some L)(f:h q=none):wS h q M p=some L:=by rw [vU (λz=>by subst z;rw [e] at f;cases f)];exact e
theorem yo {a b:Addr}{M:List D}(n:b≠a)(e:h b=some M):wS h a L b=some M:=by rw [vU n];exact e
theorem UV {n:Nat}{i:Nat}{d:D}(h:((P2 n).map λ(k:Nat)=>D.int (k:Int))[i]? =some d):i<n/\d= .int i:=by
 rw [D1] at h
 by_cases hi:i<n
 ·rw [E4 hi] at h;cases h;exact⟨hi,rfl⟩
 ·rw [bA (by simpa using hi)] at h;cases h
variable {E:EndsD}{σ:SD}
theorem jq {t u:TSD}(V:SD->HD->Prop)(first: ∀K:SD->HD->Prop,(∀gO h',V gO h'->K gO h')->t {E with nx:=K} σ h)(rest: ∀gO h',V gO h'->u E gO h'):vq t u E σ h:=first (u E) rest
def Nxt (E:EndsD)(V:SD->HD->Prop):EndsD:= {E with nx:=λgT h3=> ∃h4,Sub h4 h3/\V gT h4,ct:=λgT h3=> ∃h4,Sub h4 h3/\V gT h4,bk:=E.nx}
theorem Yi {ta:TAD}{g:TGD}{tb:TSD}{h1:HD}(n:Nat)(W:Nat->SD->HD->Prop)(hn:n<1000000)
 (ht: ∀R:List D->HD->Prop,R [.int (n:Int)] h1->ta σ h R)(w0:W 0 σ h1)(done: ∀gO h',W n gO h'->E.nx gO h')
 (turn: ∀i gO h',i<n->W i gO h'->g (.int (i:Int)) gO h' λgQ h2=>tb (Nxt E λgT h4=>i+1<=n/\W (i+1) gT h4) gQ h2):Rf (iR1 ta) g tb E σ h:=by
 refine ht _ ⟨(n:Int),rfl,by omega,by omega,n,λi gO h'=>i<=n/\W i gO h',⟨S1 _,w0⟩,?_⟩;rintro i gO h' ⟨hi,w⟩;refine⟨_,rfl,by simp,λhl=> ?_,λd hd=> ?_⟩
 ·have:i=n:=by simp at hl;omega
  subst this;exact done _ _ w
 ·obtain⟨hi',e⟩:=UV hd;have hi2:i<n:=by omega
  subst e;exact turn i gO h' hi2 w
theorem Vb {ti:TID}{g:TGD}{tb:TSD}{h1:HD}{j:ItD}(ds:List D)(W:Nat->SD->HD->Prop)
 (ht: ∀R:ItD->HD->Prop,R j h1->ti σ h R)(hj: ∀i gO h',W i gO h'->j h'=some ds)(w0:W 0 σ h1)(done: ∀gO h',W ds.length gO h'->E.nx gO h')
 (turn: ∀i d gO h',ds[i]? =some d->W i gO h'->g d gO h' λgQ h2=>tb (Nxt E λgT h4=>i+1<=ds.length/\W (i+1) gT h4) gQ h2):Rf ti g tb E σ h:=by
 refine ht _ ⟨ds.length,λi gO h'=>i<=ds.length/\W i gO h',⟨S1 _,w0⟩,?_⟩;rintro i gO h' ⟨hi,w⟩;refine⟨ds,hj i gO h' w,G5 _,λhl=> ?_,λd hd=>turn i d gO h' hd w⟩;have:i=ds.length:=by omega
 subst this;exact done _ _ w
theorem vX {g:TGD}{tb:TSD}{h1:HD}{j:ItD}(ds:List D)(W:Nat->SD->HD->Prop)
 (hj: ∀i gO h',W i gO h'->j h'=some ds)(w0:W 0 σ h1)(done: ∀gO h',W ds.length gO h'->E.nx gO h')
 (turn: ∀i d gO h',ds[i]? =some d->W i gO h'->g d gO h' λgQ h2=>tb (Nxt E λgT h4=>i+1<=ds.length/\W (i+1) gT h4) gQ h2):
 ∃ (n:Nat) (W:Nat->SD->HD->Prop),W 0 σ h1/\ ∀i gO h',W i gO h'-> ∃ds,j h'=some ds/\ds.length<=n/\(ds.length<=i->E.nx gO h')/\
  ∀d,ds[i]? =some d->g d gO h' λgQ h2=>tb {E with nx:=λgT h3=> ∃h4,Sub h4 h3/\W (i+1) gT h4,ct:=λgT h3=> ∃h4,Sub h4 h3/\W (i+1) gT h4,bk:=E.nx} gQ h2:=by
 refine⟨ds.length,λi gO h'=>i<=ds.length/\W i gO h',⟨S1 _,w0⟩,?_⟩;rintro i gO h' ⟨hi,w⟩;refine⟨ds,hj i gO h' w,G5 _,λhl=> ?_,λd hd=>turn i d gO h' hd w⟩;have:i=ds.length:=by omega
 subst this;exact done _ _ w
end L2
namespace L2
open PySem PySem.Spec PyProof.Rows PySem.SeqAt
mutual
def ToP (h:HD):D->L0->Prop
 |d,.none=>d= .non
 |d,.bool b=>d= .bl b
 |d,.int i=>d= .int i
 |d,.str x=>d= .str x
 |d,.tuple ps=> ∃ds,d= .tup ds/\ToPs h ds ps
 |d,.list ps=> ∃a ds,d= .lst a/\h a=some ds/\ToPs h ds ps
 |_,.dict _=>False
def ToPs (h:HD):List D->List L0->Prop
 |ds,[]=>ds= []
 |ds,p::ps=> ∃d r,ds=d::r/\ToP h d p/\ToPs h r ps
end
section
variable {X:Cx}{pins:List (Addr×Obj)}{σ:St}{H:Hp}{s:G2}{h:HD}
mutual
theorem zd (I:Inv X pins σ H s)(rh:RelH X.K h H): ∀ {p:L0} {d:D} {v:V} {u:G0},ToP h d p->RelD X.K H d v->RelV v u-> ∃as,Reads s.heap u p as
 | .none,d,v,u,t,r,ru=>by cases (show d= .non from t);cases (show v= .non from r);cases (show u= .none from ru);exact⟨[],.none⟩
 | .bool b,d,v,u,t,r,ru=>by cases (show d= .bl b from t);cases (show v= .bl b from r);cases (show u= .bool b from ru);exact⟨[],.bool b⟩
 | .int i,d,v,u,t,r,ru=>by cases (show d= .int i from t);cases (show v= .int i from r);obtain⟨k,rfl⟩:=(show ∃t,u=K6 i t from ru);exact⟨[],.int i k⟩
 | .str x,d,v,u,t,r,ru=>by cases (show d= .str x from t);cases (show v= .str x from r);obtain⟨k,rfl⟩:=(show ∃t,u=aH x t from ru);exact⟨[],.str x k⟩
 | .tuple ps,d,v,u,t,r,ru=>by
  obtain⟨ds,e,ts⟩:=(show ∃ds,d= .tup ds/\ToPs h ds ps from t);subst e;obtain⟨a,vs,e,hH,rs⟩:=(show ∃a vs,v= .ref a/\H a=some (.tup vs)/\RelDs X.K H ds vs from r);subst e;cases (show u= .ref a from ru);obtain⟨its,rv,ht,_⟩:=I.tuple (SqT.of hH);obtain⟨o,ho,hc,n,hd⟩:=ht;obtain⟨as,q⟩:=reads_Ds I rh ts rs rv;exact⟨as,.tuple ho hc hd q⟩
 | .list ps,d,v,u,t,r,ru=>by
  obtain⟨a,ds,e,ha,ts⟩:=(show ∃a ds,d= .lst a/\h a=some ds/\ToPs h ds ps from t);subst e;obtain⟨vs,hH,rs⟩:=rh a ds ha;have e:v= .ref a:=r.1;subst e;cases (show u= .ref a from ru);obtain⟨its,rv,pl,_⟩:=I.list (SqL.of hH);obtain⟨o,ho,hc,n,hd⟩:=pl.isList;obtain⟨as,q⟩:=reads_Ds I rh ts rs rv;exact⟨a::as,.list ho hc hd q⟩
 | .dict _,_,_,_,t,_,_=>(show False from t).elim
theorem reads_Ds (I:Inv X pins σ H s)(rh:RelH X.K h H): ∀ {ps:List L0} {ds:List D} {vs:List V} {us:List G0},ToPs h ds ps->RelDs X.K H ds vs->Vals vs us-> ∃as,ReadsAll s.heap us ps as
 | [],ds,vs,us,t,r,rv=>by
  cases (show ds= [] from t);cases (show vs= [] from r);cases rv;exact⟨[],.nil⟩
 |p::ps,ds,vs,us,t,r,rv=>by
  obtain⟨d,dr,e,t1,t2⟩:=(show ∃d r,ds=d::r/\ToP h d p/\ToPs h r ps from t);subst e;obtain⟨v,vr,e,r1,r2⟩:=(show ∃v r,vs=v::r/\RelD X.K H d v/\RelDs X.K H dr r from r);subst e;cases rv with
  |cons ru rt=>
   obtain⟨as,q1⟩:=zd I rh t1 r1 ru;obtain⟨bs,q2⟩:=reads_Ds I rh t2 r2 rt;exact⟨as++bs,.cons q1 q2⟩
end
end
section
variable {X:Cx}
def isN:D->Bool
 | .non=>true
 |_=>false
def isV (neg:Bool):RD2:=λx y h Q=>match y with
 | .non=>Q (.bl (neg !=isN x)) h
 | .bl c=>match x with
  | .bl b=>Q (.bl (neg !=(b==c))) h
  | .non=>Q (.bl neg) h
  |_=>False
 |_=>False
theorem Dr {K:PySem.W.Frag}{H:Hp}{d:D}{v:V}(r:RelD K H d v):decide (v=V.non)=isN d:=by
 cases d with
 |non=>cases (show v= .non from r);rfl
 |bl b=>cases (show v= .bl b from r);rfl
 |int b=>cases (show v= .int b from r);rfl
 |str b=>cases (show v= .str b from r);rfl
 |tup ds=>obtain⟨a,vs,e,_⟩:=(show ∃a vs,v= .ref a/\H a=some (.tup vs)/\RelDs K H ds vs from r);subst e;rfl
 |lst a=>cases (show v= .ref a from r.1);rfl
 |dic x i=>obtain⟨a,e,_⟩:=(show ∃a,v= .ref a/\H a=some (.dK [(K7 x,V.int i)]) from r);subst e;rfl
 |dct a=>cases (show v= .ref a from r);rfl
 |scr ns=>obtain⟨a,e,_⟩:=(show ∃a,v= .ref a/\Scr K H a ns from r);subst e;rfl
 |exc C=>obtain⟨x,o,vs,e,_⟩:=(show ∃x o vs,v= .ref x/\H x=some (.frz o (.own 0))/\o.cls= .ref C/\o.data= .fields vs from r);subst e;rfl
 |fn a=>cases (show v= .ref a from r.1);rfl
theorem Cb:OpQ X (compareOp .Is) (isV false):=by
 intro pins s σ H x y v u Q I rx ry h;obtain⟨dx,dy,h,Qd,r1,r2,rh,q,post⟩:=h;cases dy with
 |non=>
  have e:y= .non:=r2;subst e;refine RM pins s σ H x .non v u Q I rx ry ⟨rfl,?_⟩;rw [Dr r1];have q':Qd (.bl (isN dx)) h:=by simpa [isV] using q
  exact post (.bl _) _ _ _ (.refl H) rh rfl q'
 |bl c=>
  have e:y= .bl c:=r2;subst e;cases (show u= .bool c from ry);cases dx<;>first
   |exact False.elim q
   |skip
  ·have e:x= .non:=r1;subst e;cases (show v= .none from rx);exact eS (by rfl) ⟨.bl false,H,I,rfl,post (.bl false) _ _ _ (.refl H) rh rfl q⟩
  ·rename_i b;have e:x= .bl b:=r1;subst e;cases (show v= .bool b from rx);have eb:(X6 b==X6 c)=(b==c):=by cases b<;>cases c<;>rfl
   refine eS (by rfl) ⟨.bl (b==c),H,I,by rw [eb];rfl,post (.bl (b==c)) _ _ _ (.refl H) rh rfl ?_⟩;simpa [isV] using q
 |_=>exact False.elim q
end
end L2
namespace HT
open PySem PySem.Spec PyProof.Rows
section
variable {prog:R5}{w:T4}{A:T9}{E:G0->G2->Prop}{s:G2}
theorem UW (k:Int){vs:List G0}{ns:List Int}(hi:O1 vs ns)(j:Nat)(h:j<ns.length): ∃t,vs[j]? =some (.int ns[j] t):=by
 induction hi generalizing j with
 |nil=>simp at h
 |cons n t r ih=>
  cases j with
  |zero=>exact⟨t,rfl⟩
  |succ j=>obtain⟨u,e⟩:=ih j (by simpa using h);exact⟨u,by simpa using e⟩
end
end HT
namespace L2
open PySem PySem.Spec PyProof.Rows
theorem Vc: ∀ {ns:List Int} {us:List G0},Vals (ns.map V.int) us->O1 us ns
 | [],_,r=>by cases r;exact .nil
 |n::ns,_,r=>by
  cases r with
  |cons r t=>obtain⟨k,rfl⟩:=r;exact .cons n k (Vc t)
theorem zi {K:PySem.W.Frag}{H:Hp}: ∀ {ns:List Int} {vs:List V},RelDs K H (ns.map D.int) vs->vs=ns.map V.int
 | [],_,h=>h
 |n::ns,vs,h=>by
  obtain⟨v,r,e,h1,h2⟩:=(show ∃v r,vs=v::r/\RelD K H (.int n) v/\RelDs K H (ns.map D.int) r from h);rw [e,zi h2,(show v= .int n from h1)];rfl
theorem JR (ns:List Int): ∀k,k<=ns.length->preSum (λi=>ns.getD i 0) k=(ns.take k).sum
 |0,_=>by simp [preSum]
 |k+1,h=>by
  have hk:k<ns.length:=by omega
  rw [preSum,JR ns k (by omega),T0,G1 hk,dR,R4,G1 hk];simp
variable {X:Cx}
theorem Zy (hc:X.calm=true):CallR X (.builtin "sum") (λxs H Q=> ∃ (a:Addr) (ns:List Int),xs= [.ref a]/\SqL X.K H a (ns.map V.int)/\Q (.int ns.sum) H):=by
 intro pins s σ H xs us Q I r h;obtain⟨a,ns,rfl,hS,q⟩:=h;obtain⟨u,rfl,ru⟩:=vJ r;cases ru;obtain⟨its,rv,pl,hz⟩:=I.list hS;have hl:=pl.isList;have hlt:a<s.heap.objs.size:=by obtain⟨_,e,_⟩:=hl;exact P8 e
 have hi:=Vc rv;have hn:its.length=ns.length:=hi.length;refine call_sum_walkAnyS (J5 hl ?_);refine⟨s.heap.objs.size,_,_,_,_,_,_,λi=>ns.getD i 0,rfl,(Walks.list (A:=X.A.in1) (show X.A.in1.handled=none from I.ok.hd hc) s.heap.objs.size a (S0 hlt) its.toArray).toS,⟨⟨_,S4 _ rfl,rfl,rfl⟩,hl.push _⟩,?_,?_,λs' t' hm=> ?_⟩
 ·intro b hb;simp only [S3,O7,or_false] at hb;show b<(s.heap.push _).objs.size;rw [Y6];rcases hb with e|e
  ·rw [e];exact O6 _
  ·rw [e];exact V4 hlt
 ·intro i v hP;have e:its[i]? =some v:=by simpa using hP
  have hil:i<ns.length:=by rw [<-hn];exact(P4.mp e).1
  obtain⟨t,e2⟩:=HT.UW 0 hi i hil;rw [e] at e2;cases e2;refine⟨t,?_⟩;show K6 ns[i] t=K6 (ns.getD i 0) t;rw [R4,G1 hil];rfl
 ·have e:preSum (λi=>ns.getD i 0) its.toArray.size=ns.sum:=by
   rw [P6,hn,JR ns _ (G5 _),E7]
  rw [e];obtain⟨h',g',d',tk',o'⟩:=s';obtain⟨m1,m2,m3,m4,_⟩:=hm;simp only at m1 m2 m3 m4;subst m2 m3 m4;refine⟨.int ns.sum,H,I.kept (t':=tk') (λb o e=>m1 b o (λz=> ?_) (P1 _ e)),⟨_,rfl⟩,q⟩;rw [G9.mp z] at e;exact absurd (P8 e) (M7 _)
def Cc:RDn:=λds h Q=> ∃ (a:Addr) (ns:List Int),ds= [.lst a]/\h a=some (ns.map D.int)/\Q (.int ns.sum) (Yd h a)
theorem UX (hc:X.calm=true):wT X (.builtin "sum") Cc:=(Zy hc).imp λxs H Q ⟨ds,h,Qd,r,rh,⟨a,ns,e,hd,q⟩,p⟩=>by
 subst e;obtain⟨v,e,r1⟩:=jx r;obtain⟨vs,hH,r2⟩:=rh a _ hd;have e1:v= .ref a:=r1.1;rw [zi r2] at hH;subst e e1;exact⟨a,ns,rfl,SqL.of hH,p (.int _) _ _ _ (.refl H) (rh.sub (Sub.drop h a)) rfl q⟩
structure JE (X:Cx)(e:Expr)(t:TED):Prop where
 to:QE X e t
structure JT (X:Cx)(e:Expr)(t:TTD):Prop where
 to:QT X e t
structure JW (X:Cx)(e:Expr)(t:TTD):Prop where
 to:QW X e t
structure JA (X:Cx)(e:List Expr)(t:TAD):Prop where
 to:QA X e t
structure JS (X:Cx)(e:Stmt)(t:TSD):Prop where
 to:QS X e t
structure JSs (X:Cx)(e:List Stmt)(t:TSD):Prop where
 to:QSs X e t
structure JG (X:Cx)(e:Expr)(t:TGD):Prop where
 to:QG X e t
structure JI (X:Cx)(tg e:Expr)(t:TID):Prop where
 to:QI X tg e t
structure JO (X:Cx)(e:Option Expr)(t:TOD):Prop where
 to:QO X e t
section
variable {X:Cx}{a b c e:Expr}{es rest:List Expr}{ta tb tc te:TED}{t u:TAD}{tt tu:TTD}{pos:Pos}{f r r':RD2}
theorem jv (i:Nat){x:Str}(hN:X.N[i]? =some x:=by rfl)(hv:Vis X.env.scope x:=by first|exact K2 rfl|exact V9 (K2 rfl)|exact V9 (V9 rfl))(hd:(x==("__debug__" :Str))=false:=by decide)(hcd:(x==("__classdict__" :Str))=false:=by decide):JE X (.Name x pos) (GE i):=⟨qv (i:=i) (hN:=hN) (hv:=hv) (hd:=hd) (hcd:=hcd)⟩
theorem jV {i:Int}{j:Nat}:JE X (.Constant (.int i) j pos) (dC (.int i)):=⟨Fx⟩
theorem jbl {i:Bool}{j:Nat}:JE X (.Constant (.bool i) j pos) (dC (.bl i)):=⟨qbl⟩
theorem Fd {j:Nat}:JE X (.Constant .none j pos) (dC .non):=⟨Fy⟩
theorem Na {x:Str}{i:Int}{tk:Tok}(hg:Gl X x)(hm:X.mg x=some (.int i tk))(hd:(x==("__debug__" :Str))=false:=by decide):JE X (.Name x pos) (dC (.int i)):=⟨BF (hg:=hg) (hm:=hm) (hd:=hd)⟩
theorem jop {op:f6}(ho:OpQ X (binaryOp op) f)(ha:JE X a ta)(hb:JE X b tb):JE X (.BinOp a op b pos) (dOp f ta tb):=⟨qop (ho:=ho) (ha:=ha.to) (hb:=hb.to)⟩
theorem FR {op:aC}(ho:OpQ X (compareOp op) f)(ha:JE X a ta)(hb:JE X b tb)(hm:behindInMarks op b=false):JE X (.Compare a [op] [b] pos) (dOp f ta tb):=⟨Fz (ho:=ho) (ha:=ha.to) (hb:=hb.to) (hm:=hm)⟩
theorem Ds {op:aC}(ho:OpQ X (compareOp op) f)(ha:JE X a ta)(hb:JE X b tb)(hm:behindInMarks op b=false):JT X (.Compare a [op] [b] pos) (vp (dOp f ta tb)):=⟨BG (ho:=ho) (ha:=ha.to) (hb:=hb.to) (hm:=hm)⟩
theorem Nb {op op':aC}(ho:OpQ X (compareOp op) r)(ho':OpQ X (compareOp op') r')(ha:JE X a ta)(hb:JE X b tb)(hc:JE X c tc)(hm:lastMarks [op,op'] [b,c]=false:=by with_unfolding_all rfl):JE X (.Compare a [op,op'] [b,c] pos) (vV r r' ta tb tc):=⟨Ms (ho:=ho) (ho':=ho') (ha:=ha.to) (hb:=hb.to) (hc:=hc.to) (hm:=hm)⟩
theorem Dt {op op':aC}(ho:OpQ X (compareOp op) r)(ho':OpQ X (compareOp op') r')(ha:JE X a ta)(hb:JE X b tb)(hc:JE X c tc)(hm:lastMarks [op,op'] [b,c]=false:=by with_unfolding_all rfl):JT X (.Compare a [op,op'] [b,c] pos) (vp (vV r r' ta tb tc)):=⟨PN (ho:=ho) (ho':=ho') (ha:=ha.to) (hb:=hb.to) (hc:=hc.to) (hm:=hm)⟩
theorem Ws (ha:JE X a ta)(he: ∀whole,isTrue a X.env whole=(do let v <-whole;standAt a.pos;holding [v] (truthy v)):=by intro _;rfl):JT X a (vp ta):=⟨BH (ha:=ha.to) (he:=he)⟩
theorem Fe (ha:JT X a tt):JW X (.BoolOp .Or [a] pos) tt:=⟨FA (ha:=ha.to)⟩
theorem Ff (ha:JT X a tt)(hb:JW X (.BoolOp .Or (b::rest) pos) tu):JW X (.BoolOp .Or (a::b::rest) pos) (Mj tt tu):=⟨FB (ha:=ha.to) (hb:=hb.to)⟩
theorem Yj (ha:JT X a tt):JT X (.UnaryOp .Not a pos) (UI tt):=⟨BI (ha:=ha.to)⟩
theorem Nc {op:BoolOp}(ha:JE X a ta):JE X (.BoolOp op [a] pos) ta:=⟨FC (ha:=ha.to)⟩
theorem NW (ha:JE X a ta)(hb:JE X (.BoolOp .And (b::rest) pos) tb):JE X (.BoolOp .And (a::b::rest) pos) (Qq ta tb):=⟨FD (ha:=ha.to) (hb:=hb.to)⟩
theorem jor (ha:JE X a ta)(hb:JE X (.BoolOp .Or (b::rest) pos) tb):JE X (.BoolOp .Or (a::b::rest) pos) (BB ta tb):=⟨qor (ha:=ha.to) (hb:=hb.to)⟩
theorem FS (ha:JE X a ta):JE X (.UnaryOp .Not a pos) (Qr ta):=⟨FE (ha:=ha.to)⟩
theorem jif {c:Expr}(hc:JT X c tt)(ha:JE X a ta)(hb:JE X b tb):JE X (.IfExp c a b pos) (dIf tt ta tb):=⟨qif (hc:=hc.to) (ha:=ha.to) (hb:=hb.to)⟩
theorem vY:JA X [] Wm:=⟨Mt⟩
theorem UY {k:Nat}(h:JA X es t):JE X (.Tuple es k pos) (BA t):=⟨FF (h:=h.to)⟩
theorem QB (h:JA X es t):JE X (.List es pos) (NU t):=⟨FG (h:=h.to)⟩
end
section
variable {X:Cx}{st:Stmt}{sts:List Stmt}{t u:TSD}{e:Expr}{te:TED}{pos:Pos}
theorem GQ:JSs X [] Ye:=⟨Mz⟩
theorem jM (h1:JS X st t)(h2:JSs X sts u):JSs X (st::sts) (vq t u):=⟨PY (h1:=h1.to) (h2:=h2.to)⟩
theorem jI (h1:JS X st t):JSs X [st] t:=⟨MB (h1:=h1.to)⟩
theorem VJ (he:JE X e te)(hs:swapsWith e none pos.line X.env=pure false:=by rfl):JS X (.Expr e pos) (PQ te):=⟨BL (he:=he.to) (hs:=hs)⟩
theorem wF (he:JE X e te):JS X (.Return (some e) pos) (GF te):=⟨FH (he:=he.to)⟩
theorem Fg {c:Expr}{a b:List Stmt}{tc:TTD}(hc:JT X c tc)(ha:JSs X a t)(hb:JSs X b u):JS X (.If c a b pos) (PR tc t u):=⟨FI (hc:=hc.to) (ha:=ha.to) (hb:=hb.to)⟩
theorem FT {i:Nat}{x:Str}{pos':Pos}(hN:X.N.Nodup)(hi:X.N[i]? =some x)(hx:Loc X.env.scope x)(he:JE X e te)(hs:swapsWith e (some (.Name x pos')) pos.line X.env=pure false:=by rfl)(hf:X.fn x=true\/X.env.scope.names.lookup x=some .local:=by first|exact .inl rfl|exact .inr rfl|assumption):JS X (.Assign [.Name x pos'] e pos) (XY i te):=⟨FJ (hN:=hN) (hi:=hi) (hx:=hx) (he:=he.to) (hs:=hs) (hf:=hf)⟩
theorem Du {i:Nat}{x:Str}(hN:X.N.Nodup)(hi:X.N[i]? =some x)(hx:Loc X.env.scope x)(hf:X.fn x=true\/X.env.scope.names.lookup x=some .local:=by first|exact .inl rfl|exact .inr rfl|assumption):JG X (.Name x pos) (gN i):=⟨PZ (hN:=hN) (hi:=hi) (hx:=hx) (hf:=hf)⟩
theorem GR {i j:Nat}{x y:Str}{p1 p2:Pos}{k:Nat}(hc:X.calm=true)(hN:X.N.Nodup)(hi:X.N[i]? =some x)(hj:X.N[j]? =some y)(hx:Loc X.env.scope x)(hy:Loc X.env.scope y)(hf:X.fn x=true\/X.env.scope.names.lookup x=some .local:=by first|exact .inl rfl|exact .inr rfl|assumption)(hf2:X.fn y=true\/X.env.scope.names.lookup y=some .local:=by first|exact .inl rfl|exact .inr rfl|assumption):JG X (.Tuple [.Name x p1,.Name y p2] k pos) (gT2 i j):=⟨MC (hc:=hc) (hN:=hN) (hi:=hi) (hj:=hj) (hx:=hx) (hy:=hy) (hf:=hf) (hf2:=hf2)⟩
theorem Cd {tg:Expr}{g:TGD}(he:JE X e te)(hg:JG X tg g)(hs:swapsWithSole [tg] e pos.line X.env=pure false:=by rfl)(hsw:swappedStores [tg] e X.env=pure none:=by rfl)(h1:(assignEach [tg] X.env).map (·.2)= [assign tg X.env]:=by rfl):JS X (.Assign [tg] e pos) (BJ te g):=⟨FK (he:=he.to) (hg:=hg.to) (hs:=hs) (hsw:=hsw) (h1:=h1)⟩
end
section
variable {X:Cx}{tg e iter elt:Expr}{te:TED}{ti:TID}{g:TGD}{tb:TSD}{tt:TTD}{pos:Pos}{ta:TAD}{scope:H0}{js:List Nat}{ifs:List Expr}
theorem Dv (he:JE X e te):JI X tg e (iL te):=⟨Db (he:=he.to)⟩
theorem Ce {p:Pos}{a:Expr}(hg:Gl X "range")(hm:X.mg "range" =none)(ha:JA X [a] ta)(hs:starEach [a] X.env= [(false,eval a X.env)]:=by rfl):JI X tg (.Call (.Name "range" p) [a] [] pos) (iR1 ta):=⟨BO (hg:=hg) (hm:=hm) (ha:=ha.to) (hs:=hs)⟩
theorem QC {body:List Stmt}(hp:bM (model X.prog X.w) X.A X.env X.xe)(hc:X.calm=true)(hi:JI X tg iter ti)(hg:JG X tg g)(hb:JSs X body tb)(hs: ∀x,foldedSetIterable iter X.env x=pure x:=by intro _;rfl):JS X (.For tg iter body [] pos) (Rf ti g tb):=⟨FL (hp:=hp) (hc:=hc) (hi:=hi.to) (hg:=hg.to) (hb:=hb.to) (hs:=hs)⟩
theorem vZ:PTs X [] (LT X.K vb):=Dc
theorem Dw {c:Expr}(hc:JT X c tt):PTs X [c] (LT X.K tt):=De (hc:=hc.to)
theorem jlc {i:Nat}{x:Str}{p:Pos}(hc:X.calm=true)(S:BlockOk X scope js)(hi:JI X (.Name x p) iter ti)(hj:i∈js)(hN:X.N.Nodup)(hx:X.N[i]? =some x)(hl:scope.names.lookup x=some .local\/scope.names.lookup x=some .cell)(ht: ∀X',jg X scope X'->PTs X' ifs (LT X'.K tt))(he: ∀X',jg X scope X'->JE X' elt te)(hs: ∀x,foldedSetIterable iter X.env x=pure x:=by intro _;rfl):JE X (.ListComp elt [⟨.Name x p,iter,ifs,0⟩] scope pos) (Wo (bN i) js ti tt te):=⟨qlc (hc:=hc) (S:=S) (hi:=hi.to) (hj:=hj) (hN:=hN) (hx:=hx) (hl:=hl) (ht:=ht) (he:=λX' hX=>(he X' hX).to) (hs:=hs)⟩
end
section
variable {X:Cx}{k:Nat}{f:Addr}{fd:S7}{ps:List Str}{spd:RDn}{x:Str}{p pos:Pos}{e:Expr}{es:List Expr}{t:TAD}
theorem Cf (F:FnOk X.prog X.w X.K X.mg X.base CX0 k f fd ps (LSp X.K spd))(hr:Room k X.A)(hg:Gl X x)(hm:X.mg x=some (.ref f))(hk:PySem.W.keepIn X.K (.ref f)=true)(hb:Binds X.K fd ps [])(ha:JA X (e::es) t)(hdb:(x==("__debug__" :Str))=false:=by decide)(he:starEach (e::es) X.env=(false,eval e X.env)::starEach es X.env:=by rfl)(hpl:(backTo pos (starEach es X.env)).any (·.1)=false:=by rfl):JE X (.Call (.Name x p) (e::es) [] pos) (dCB spd t):=⟨BP (F:=F) (hr:=hr) (hg:=hg) (hm:=hm) (hk:=hk) (hb:=hb) (ha:=ha.to) (hdb:=hdb) (he:=he) (hpl:=hpl)⟩
theorem we {id:String}{r:RDn}(hc:wT X (.builtin id) r)(hg:Gl X x)(hm:X.mg x=none)(hv:bootBuiltins x=some (.builtin id))(ha:JA X (e::es) t)(hn:x≠ "__name__" :=by decide)(hdb:(x==("__debug__" :Str))=false:=by decide)(he:starEach (e::es) X.env=(false,eval e X.env)::starEach es X.env:=by rfl)(hpl:(backTo pos (starEach es X.env)).any (·.1)=false:=by rfl):JE X (.Call (.Name x p) (e::es) [] pos) (dCB r t):=⟨MJ (hc:=hc) (hg:=hg) (hm:=hm) (hv:=hv) (ha:=ha.to) (hn:=hn) (hdb:=hdb) (he:=he) (hpl:=hpl)⟩
theorem zC {T:String}{r:RDn}(hc:wT X (.type T) r)(hg:Gl X x)(hm:X.mg x=none)(hv:bootBuiltins x=some (.type T))(ha:JA X (e::es) t)(hn:x≠ "__name__" :=by decide)(hdb:(x==("__debug__" :Str))=false:=by decide)(he:starEach (e::es) X.env=(false,eval e X.env)::starEach es X.env:=by rfl)(hpl:(backTo pos (starEach es X.env)).any (·.1)=false:=by rfl):JE X (.Call (.Name x p) (e::es) [] pos) (dCB r t):=⟨Dg (hc:=hc) (hg:=hg) (hm:=hm) (hv:=hv) (ha:=ha.to) (hn:=hn) (hdb:=hdb) (he:=he) (hpl:=hpl)⟩
end
section
variable {X:Cx}{iter elt:Expr}{te:TED}{ti:TID}{tt:TTD}{pos spos:Pos}{scope:H0}{js:List Nat}{ifs:List Expr}
theorem Nd {i k:Nat}{x y:Str}{p py:Pos}(hc:X.calm=true)(hN:X.N.Nodup)(hk:X.N[k]? =some y)(hy:Loc X.env.scope y)(S:BlockOk X scope js)(hi:JI X (.Name x p) iter ti)(hj:i∈js)(hx:X.N[i]? =some x)(hl:scope.names.lookup x=some .local\/scope.names.lookup x=some .cell)(ht: ∀X',jg X scope X'->PTs X' ifs (LT X'.K tt))(he: ∀X',jg X scope X'->JE X' elt te)(hsw:swapsWith (.ListComp elt [⟨.Name x p,iter,ifs,0⟩] scope pos) (some (.Name y py)) spos.line X.env=pure true:=by rfl)(hf:X.fn y=true\/X.env.scope.names.lookup y=some .local:=by first|exact .inl rfl|exact .inr rfl|assumption)(hs: ∀x,foldedSetIterable iter X.env x=pure x:=by intro _;rfl):JS X (.Assign [.Name y py] (.ListComp elt [⟨.Name x p,iter,ifs,0⟩] scope pos) spos) (XY k (Wo (bN i) js ti tt te)):=⟨MK (hc:=hc) (hN:=hN) (hk:=hk) (hy:=hy) (S:=S) (hi:=hi.to) (hj:=hj) (hx:=hx) (hl:=hl) (ht:=ht) (he:=λX' hX=>(he X' hX).to) (hsw:=hsw) (hf:=hf) (hs:=hs)⟩
end
section
variable {X:Cx}{iter iter' elt:Expr}{te:TED}{ti ti':TID}{tt tt':TTD}{pos:Pos}{scope:H0}{js:List Nat}{ifs ifs':List Expr}
theorem FU {i i':Nat}{x y:Str}{p py:Pos}(hc:X.calm=true)(S:BlockOk X scope js)(hi:JI X (.Name x p) iter ti)(hj:i∈js)(hj':i'∈js)(hne:i≠i')(hN:X.N.Nodup)(hx:X.N[i]? =some x)(hy:X.N[i']? =some y)(hl:scope.names.lookup x=some .local\/scope.names.lookup x=some .cell)(hl':scope.names.lookup y=some .local\/scope.names.lookup y=some .cell)(ht: ∀X',jg X scope X'->PTs X' ifs (LT X'.K tt))(hi': ∀X',jg X scope X'->JI X' (.Name y py) iter' ti')(ht': ∀X',jg X scope X'->PTs X' ifs' (LT X'.K tt'))(he: ∀X',jg X scope X'->JE X' elt te)(hs: ∀x,foldedSetIterable iter X.env x=pure x:=by intro _;rfl)(hs': ∀env x,foldedSetIterable iter' env x=pure x:=by intro _ _;rfl):JE X (.ListComp elt [⟨.Name x p,iter,ifs,0⟩,⟨.Name y py,iter',ifs',0⟩] scope pos) (GH (bN i) js ti tt i' ti' tt' te):=⟨FM (hc:=hc) (S:=S) (hi:=hi.to) (hj:=hj) (hj':=hj') (hne:=hne) (hN:=hN) (hx:=hx) (hy:=hy) (hl:=hl) (hl':=hl') (ht:=ht) (hi':=λX' hX=>(hi' X' hX).to) (ht':=ht') (he:=λX' hX=>(he X' hX).to) (hs:=hs) (hs':=hs')⟩
end
section
variable {X:Cx}{a b e:Expr}{ta tb te:TED}{pos p2:Pos}
theorem jix (ha:JE X a ta)(hb:JE X b tb)(hs:Zn b):JE X (.Subscript a b pos) (dOp ixD ta tb):=⟨qix (ha:=ha.to) (hb:=hb.to) (hs:=hs)⟩
end
theorem QD {a:Expr}{ta:TED}{T:String}{t:Str}{p p2 pos:Pos}(hT:T∈ ["tuple","int","bool","list","str"])(hg:Gl X "isinstance")(hm:X.mg "isinstance" =none)(hg2:Gl X t)(hm2:X.mg t=none)(hv:bootBuiltins t=some (.type T))(ha:JE X a ta)(hn:t≠ "__name__" :=by decide)(hd:(t==("__debug__" :Str))=false:=by decide)(h1:starEach [a,.Name t p2] X.env=(false,eval a X.env)::starEach [.Name t p2] X.env:=by rfl)(h2:(backTo pos (starEach [.Name t p2] X.env)).any (·.1)=false:=by rfl):JE X (.Call (.Name "isinstance" p) [a,.Name t p2] [] pos) (dIs T ta):=⟨BX (hT:=hT) (hg:=hg) (hm:=hm) (hg2:=hg2) (hm2:=hm2) (hv:=hv) (ha:=ha.to) (hn:=hn) (hd:=hd) (h1:=h1) (h2:=h2)⟩
section
variable {X:Cx}{o e i:Expr}{to te ti:TED}{apos cpos pos:Pos}
theorem Cg (ho:JE X o to)(he:JE X e te)(hbase:attributeBase o "append" X.env (eval o X.env)=eval o X.env:=by rfl)(hfew:((backTo cpos (starEach [e] X.env)).all (λx=> !x.1)&&(backToKw cpos (keywordEach [] X.env)).all (λx=>x.1.isSome)&&decide ([e].length+([]:List U9).length+(if ([]:List U9).isEmpty then 0 else 1)<30))=true:=by rfl)(hline:(apos.endLine==cpos.line)=true:=by rfl)(hs:starEach [e] X.env=(false,eval e X.env)::starEach [] X.env:=by rfl)(hplain:(backTo cpos (starEach [] X.env)).any (·.1)=false:=by rfl):JE X (.Call (.Attribute o "append" apos) [e] [] cpos) (Fa to te):=⟨FO (ho:=ho.to) (he:=he.to) (hbase:=hbase) (hfew:=hfew) (hline:=hline) (hs:=hs) (hplain:=hplain)⟩
theorem GS (ho:JE X o to)(hi:JE X i ti)(ha: ∀v,assign (.Subscript o i pos) X.env v=(do
 let ov <-holding [v] (eval o X.env)
 let iv <-holding [v,ov] (eval i X.env)
 standAt pos
 holding [v,ov,iv] (setItem ov iv v)
 release [v,ov,iv] []):=by intro _;rfl):JG X (.Subscript o i pos) (MR to ti):=⟨MS (ho:=ho.to) (hi:=hi.to) (ha:=ha)⟩
end
theorem jpt {e:Expr}{t:TTD}(h:JW X e t):JT X e t:=⟨qpt (h:=h.to)⟩
variable {te:TED}
theorem UZ {e:Expr}(he:JE X e te):JO X (some e) (MT te):=⟨Do (he:=he.to)⟩
theorem Nf {e:Expr}{lo hi:Option Expr}{tl th:TOD}{pos p2:Pos}(he:JE X e te)(hl:JO X lo tl)(hu:JO X hi th):JE X (.Subscript e (.Slice lo hi none p2) pos) (dSl te tl th):=⟨MU (he:=he.to) (hl:=hl.to) (hu:=hu.to)⟩
theorem FV {a:Expr}{ta:TED}{pos:Pos}(ha:JE X a ta):JE X (.UnaryOp .USub a pos) (dUn Fc ta):=⟨FQ (ha:=ha.to)⟩
theorem jQ {tg e:Expr}(he:JE X e te):JI X tg e (iS te):=⟨MY (he:=he.to)⟩
theorem GT {st:Stmt}:JS X st GP:=⟨MZ⟩
theorem jac {e:Expr}{es:List Expr}{t:TAD}(ha:JE X e te)(hr:JA X es t)(h:jL e=true:=by rfl):JA X (e::es) (zh te t):=⟨qac (ha:=ha.to) (hr:=hr.to) (h:=h)⟩
section
variable {P:R5}{w:T4}{K:PySem.W.Frag}{mg:Str->Option G0}{base:Heap}
theorem Fun.okJ {x qual:Str}{st:Stmt}{f:Addr}{fd:S7}{N ps:List Str}{k:Nat}{spd:RDn}(F:Fun K x qual st f fd)(S:FnScope N ps (jc st))(len: ∀ds h Q,spd ds h Q->ds.length=ps.length)
 (tb:TSD)(hbody: ∀ (cdv:G0) (A:T9) (outer:List Env) (s:G2) (H:Hp) (E:XK),Room k (A.deeper (envOfC qual (jc st) s.heap.objs.size f cdv))->JSs (Qg CX0 P w K mg base N qual (jc st) f cdv A outer s H E).nox (zc st) tb)
 (read: ∀ds h Q,spd ds h Q->tb (Qu Q) (wd N ds) h):FnOk P w K mg base CX0 (k+1) f fd ps (LSp K spd):=F.okD S len tb (λcdv A outer s H E hr=>(hbody cdv A outer s H E hr).to) read
end
def zH (r:List Int):D:= .tup (r.map D.int)
def jw (T:List (List Int)):D:= .tup (T.map zH)
structure Sq (n e:Nat)(T:List (List Int)):Prop where
 len:T.length=n
 row: ∀r∈T,r.length=n
 nn: ∀r∈T,∀x∈r,0<=x
 bit: ∀r∈T,∀x∈r,x<2^e
variable {n e f:Nat}{T:List (List Int)}
theorem Sq.mono (h:Sq n e T)(l:e<=f):Sq n f T:=⟨h.len,h.row,h.nn,λr hr x hx=>b9 (h.bit r hr x hx) (by
 have:(2:Nat)^e<=2^f:=A7 (by decide) l;have h2:((2^e:Nat):Int)<=((2^f:Nat):Int):=by exact_mod_cast this
 simpa using h2)⟩
def ent (T:List (List Int))(i j:Nat):Int:=(T.getD i []).getD j 0
def mkT (n:Nat)(f:Nat->Nat->Int):List (List Int):=(P2 n).map λi=>(P2 n).map λj=>f i j
theorem vc {i j:Nat}{f:Nat->Nat->Int}(hi:i<n)(hj:j<n):ent (mkT n f) i j=f i j:=by
 unfold ent mkT;simp [R4,hi,hj]
theorem zO {α:Type}(xs:List α)(d:α):xs=(P2 xs.length).map λi=>xs.getD i d:=by
 apply List.ext_getElem (by simp);intro i h1 h2;simp [R4,h1]
theorem Sq.eq_mk (h:Sq n e T):T=mkT n (ent T):=by
 have h1:=zO T [];rw [h.len] at h1;unfold mkT
 conv=>lhs;rw [h1]
 apply S5;intro i hi;have hi':i<T.length:=by rw [h.len];exact D7.mp hi
 have hr:(T.getD i []).length=n:=by
  rw [R4,G1 hi'];exact h.row _ (T6 hi')
 have h2:=zO (T.getD i []) 0;rw [hr] at h2;exact h2
theorem Vd {f g:Nat->Nat->Int}(h: ∀i j,i<n->j<n->f i j=g i j):mkT n f=mkT n g:=by
 unfold mkT;apply S5;intro i hi;apply S5;intro j hj;exact h i j (D7.mp hi) (D7.mp hj)
theorem Sq.of_mk {f:Nat->Nat->Int}(h0: ∀i j,i<n->j<n->0<=f i j)(h1: ∀i j,i<n->j<n->f i j<2^e):Sq n e (mkT n f):=by
 have key: ∀r∈mkT n f,∃i,i<n/\r=(P2 n).map λj=>f i j:=λr hr=>by
  obtain⟨i,hi,e⟩:=T1.mp hr;exact⟨i,D7.mp hi,e.symm⟩
 refine⟨by simp [mkT],λr hr=> ?_,λr hr x hx=> ?_,λr hr x hx=> ?_⟩
 ·obtain⟨i,_,e⟩:=key r hr;rw [e];simp
 ·obtain⟨i,hi,e⟩:=key r hr;rw [e] at hx;obtain⟨j,hj,e2⟩:=T1.mp hx;rw [<-e2];exact h0 i j hi (D7.mp hj)
 ·obtain⟨i,hi,e⟩:=key r hr;rw [e] at hx;obtain⟨j,hj,e2⟩:=T1.mp hx;rw [<-e2];exact h1 i j hi (D7.mp hj)
theorem Sq.ent_nn (h:Sq n e T){i j:Nat}(hi:i<n)(hj:j<n):0<=ent T i j/\ent T i j<2^e:=by
 have hi':i<T.length:=by rw [h.len];exact hi
 have hr:T.getD i []=T[i]:=by rw [R4,G1 hi'];rfl
 have hm:T[i]∈T:=T6 hi';have hj':j<T[i].length:=by rw [h.row _ hm];exact hj
 have he:ent T i j=T[i][j]:=by unfold ent;rw [hr,R4,G1 hj'];rfl
 rw [he];exact⟨h.nn _ hm _ (T6 hj'),h.bit _ hm _ (T6 hj')⟩
variable {U:List (List Int)}
theorem Sq.ext (h:Sq n e T)(g:Sq n f U)(k: ∀i j,i<n->j<n->ent T i j=ent U i j):T=U:=by
 rw [h.eq_mk,g.eq_mk];exact Vd k
def jt (n:Nat)(f:Nat->Int):Int:=((P2 n).map f).sum
theorem zK (f:Nat->Int):jt 0 f=0:=rfl
theorem jl (n:Nat)(f:Nat->Int):jt (n+1) f=jt n f+f n:=by
 unfold jt;rw [a7,M6,dR];simp
theorem jN {f g:Nat->Int}(h: ∀k,k<n->f k=g k):jt n f=jt n g:=by
 unfold jt;congr 1;apply S5;intro k hk;exact h k (D7.mp hk)
theorem yp {f:Nat->Int}(h: ∀k,k<n->0<=f k):0<=jt n f:=by
 induction n with
 |zero=>exact bI _
 |succ n ih=>rw [jl];have:=ih λk hk=>h k (by omega);have:=h n (by omega);omega
theorem Zz {f:Nat->Int}{b:Int}(h: ∀k,k<n->f k<=b):jt n f<=n*b:=by
 induction n with
 |zero=>simp [zK]
 |succ n ih=>
  rw [jl];have h1:=ih λk hk=>h k (by omega);have h2:=h n (by omega)
  have:((n+1:Nat):Int)*b=(n:Int)*b+b:=by rw [Int.natCast_add,Int.add_mul];simp
  omega
theorem Xa (n:Nat)(f g:Nat->Int):jt n (λk=>f k+g k)=jt n f+jt n g:=by
 induction n with
 |zero=>rfl
 |succ n ih=>rw [jl,jl,jl,ih];omega
theorem Ja (n:Nat)(c:Int)(f:Nat->Int):jt n (λk=>c*f k)=c*jt n f:=by
 induction n with
 |zero=>simp [zK]
 |succ n ih=>rw [jl,jl,ih,Int.mul_add]
theorem VL (n:Nat)(c:Int)(f:Nat->Int):jt n (λk=>f k*c)=jt n f*c:=by
 rw [cM,<-Ja];exact jN λk _=>cM _ _
theorem VM (m n:Nat)(f:Nat->Nat->Int):jt m (λi=>jt n (f i))=jt n (λj=>jt m λi=>f i j):=by
 induction m with
 |zero=>
  rw [zK]
  induction n with
  |zero=>rfl
  |succ n ih=>rw [jl,<-ih,zK];rfl
 |succ m ih=>
  rw [jl,ih,<-Xa];exact jN λj _=>(jl m λi=>f i j).symm
theorem Wt {f:Nat->Int}{i:Nat}(hi:i<n)(h: ∀k,k<n->k≠i->f k=0):jt n f=f i:=by
 induction n with
 |zero=>omega
 |succ n ih=>
  rw [jl]
  by_cases e:i=n
  ·subst e;have:jt i f=0:=by
    have:jt i f=jt i (λ_=>0*1):=jN λk hk=>by rw [h k (by omega) (by omega)];rfl
    rw [this,Ja];simp
   omega
  ·rw [ih (by omega) λk hk hne=>h k (by omega) hne,h n (by omega) (by omega)];omega
theorem Xb {f:Nat->Int}(h: ∀k,k<n->0<=f k):0<jt n f↔ ∃k,k<n/\0<f k:=by
 induction n with
 |zero=>simp [zK]
 |succ n ih=>
  rw [jl];have h1:=yp λk (hk:k<n)=>h k (by omega)
  have h2:=h n (by omega);have ih':=ih λk hk=>h k (by omega)
  constructor
  ·intro z
   by_cases q:0<f n
   ·exact⟨n,by omega,q⟩
   ·obtain⟨k,a,b⟩:=ih'.mp (by omega);exact⟨k,by omega,b⟩
  ·rintro ⟨k,a,b⟩
   by_cases q:k=n
   ·subst q;omega
   ·have:=ih'.mpr ⟨k,by omega,b⟩;omega
def wm (n:Nat)(T U:List (List Int)):List (List Int):=mkT n λi j=>jt n λk=>ent T i k*ent U k j
theorem Sq.mul (h:Sq n e T)(g:Sq n f U)(hn:n<=8):Sq n (e+f+3) (wm n T U):=by
 have nn: ∀i j,i<n->j<n-> ∀k,k<n->0<=ent T i k*ent U k j:=λi j hi hj k hk=>eT (h.ent_nn hi hk).1 (g.ent_nn hk hj).1
 refine Sq.of_mk (λi j hi hj=>yp (nn i j hi hj)) λi j hi hj=> ?_
 have hle: ∀k,k<n->ent T i k*ent U k j<=2^e*2^f-1:=λk hk=>by
  have a:=h.ent_nn hi hk;have b:=g.ent_nn hk hj;have:ent T i k*ent U k j<2^e*2^f:=by
   have p:(0:Int)<2^f:=dI (by decide)
   calc ent T i k*ent U k j<=ent T i k*2^f:=Int.mul_le_mul_of_nonneg_left (fS b.2) a.1
    _<2^e*2^f:=Int.mul_lt_mul_of_pos_right a.2 p
  omega
 have s:=Zz hle;have p:(0:Int)<2^e*2^f:=f8 (dI (by decide)) (dI (by decide));have e1:(2:Int)^(e+f+3)=8*(2^e*2^f):=by rw [gA,gA];rw [cM];rfl
 rw [e1];have hn':(n:Int)<=8:=by omega
 have:(n:Int)*(2^e*2^f-1)<=8*(2^e*2^f-1):=Int.mul_le_mul_of_nonneg_right hn' (by omega);omega
theorem wV {i j:Nat}(hi:i<n)(hj:j<n):ent (wm n T U) i j=jt n λk=>ent T i k*ent U k j:=vc hi hj
def Ub (n:Nat):List (List Int):=mkT n λi j=>if i=j then 1 else 0
theorem Sq.one (n:Nat):Sq n 1 (Ub n):=Sq.of_mk (f:=λi j=>if i=j then 1 else 0) (λi j _ _=>by split<;>decide) λi j _ _=>by split<;>decide
theorem mul_assoc {g:Nat}{V:List (List Int)}(hT:Sq n e T)(hU:Sq n f U)(hV:Sq n g V)(hn:n<=8):wm n (wm n T U) V=wm n T (wm n U V):=by
 refine((hT.mul hU hn).mul hV hn).ext (hT.mul (hU.mul hV hn) hn) λi j hi hj=> ?_
 rw [wV hi hj,wV hi hj];have e1:(jt n λk=>ent (wm n T U) i k*ent V k j)=jt n λk=>jt n λl=>ent T i l*ent U l k*ent V k j:=
  jN λk hk=>by rw [wV hi hk,<-VL]
 have e2:(jt n λl=>ent T i l*ent (wm n U V) l j)=jt n λl=>jt n λk=>ent T i l*(ent U l k*ent V k j):=
  jN λl hl=>by rw [wV hl hj,<-Ja]
 rw [e1,e2,VM];exact jN λl _=>jN λk _=>Int.mul_assoc _ _ _
theorem Ve (hT:Sq n e T)(hn:n<=8):wm n (Ub n) T=T:=by
 refine((Sq.one n).mul hT hn).ext hT λi j hi hj=> ?_
 rw [wV hi hj,Wt hi λk hk hne=>by rw [Ub,vc hi hk,if_neg (A1 hne)];simp];rw [Ub,vc hi hi,if_pos rfl];simp
theorem QF (hT:Sq n e T)(hn:n<=8):wm n T (Ub n)=T:=by
 refine(hT.mul (Sq.one n) hn).ext hT λi j hi hj=> ?_
 rw [wV hi hj,Wt hj λk hk hne=>by rw [Ub,vc hk hj,if_neg hne];simp];rw [Ub,vc hj hj,if_pos rfl];simp
def jX (n:Nat)(T:List (List Int)):Nat->List (List Int)
 |0=>Ub n
 |k+1=>wm n (jX n T k) T
theorem Sq.pow (hT:Sq n e T)(hn:n<=8): ∀k,Sq n (k*(e+3)+1) (jX n T k)
 |0=>(Sq.one n).mono (by omega)
 |k+1=>((Sq.pow hT hn k).mul hT hn).mono (by rw [X4];omega)
def ji (n:Nat)(T:List (List Int)):List (List Int):=mkT n λi j=>if ent T i j=0 then 0 else 1
theorem Sq.mark (T:List (List Int)):Sq n 1 (ji n T):=Sq.of_mk (f:=λi j=>if ent T i j=0 then 0 else 1) (λi j _ _=>by split<;>decide) λi j _ _=>by split<;>decide
def jy (T:List (List Int)):Bool:=T.all λr=>r.all λx=>decide (x≠0)
theorem Yk (n:Nat)(f:Nat->Nat->Int):jy (mkT n f)=true↔ ∀i j,i<n->j<n->f i j≠0:=by
 unfold jy mkT;simp only [O2,T5,D7,B6,decide_eq_true_eq];exact⟨λh i j hi hj=>h i hi j hj,λh i hi j hj=>h i j hi hj⟩
theorem Xc (h:Sq n e T):jy (ji n T)=jy T:=by
 have h1:jy T=jy (mkT n (ent T)):=by rw [<-h.eq_mk]
 rw [h1,B0,ji,Yk,Yk];constructor
 ·intro z i j hi hj w;exact z i j hi hj (by rw [if_pos w])
 ·intro z i j hi hj w;rw [if_neg (z i j hi hj)] at w;cases w
def MulOk (i j:Int):Prop:= ∃m n:Nat,i.natAbs<2^m/\j.natAbs<2^n/\m+n<=134217728
theorem MulOk.ok {i j:Int}(h:MulOk i j):IntMulOk i j:=by
 obtain⟨m,n,a,b,c⟩:=h;exact .of_le (PySem.intBits_le_iff.mpr a) (PySem.intBits_le_iff.mpr b) c
theorem Dx:OpR X (binaryOp .Mult) (rI MulOk λi j=> .int (i*j)):=opI λ_ _ _ _ _ _ _ hc q=>mul_int q hc.ok
def FW:RD2:=λx y h Q=>match x,y with
 | .int i,.int j=>MulOk i j/\Q (.int (i*j)) h
 |_,_=>False
theorem Xd:OpQ X (binaryOp .Mult) FW:=Zt (gd:=λi j=> .int (i*j)) Dx (λ_ _ _=>rfl) λx y h Q q=>by
 cases x<;>cases y<;>first|exact False.elim q|exact⟨_,_,rfl,rfl,q.1,q.2⟩
theorem Jb {x:Int}(h0:0<=x)(h1:x<2^e):x.natAbs<2^e:=by
 have:((2^e:Nat):Int)=2^e:=by simp
 omega
theorem Vf {x y:Int}(hx:0<=x/\x<2^e)(hy:0<=y/\y<2^f)(h:e+f<=134217728):MulOk x y:=⟨e,f,Jb hx.1 hx.2,Jb hy.1 hy.2,h⟩
section
variable {α β:Type}{i i':Nat}{js:List Nat}{ti ti':TID}{te:TED}{σ:SD}{h:HD}{Q:KD}{j:ItD}
theorem lcA (xs:List α)(c g:α->D)(hz:xs.length<=1000)(hj:j h=some (xs.map c))(ht: ∀R:ItD->HD->Prop,R j h->ti σ h R)
 (he: ∀x∈xs,∀Q':KD,Q' (g x) h->te ((jH js σ).set i (some (c x))) h Q')(hq: ∀p,h p=none->Q (.lst p) (wS h p (xs.map g))):Wo (bN i) js ti vb te σ h Q:=by
 refine ht _ ⟨xs.length,λk ys h'=>h'=h/\ys=(xs.take k).map g,⟨rfl,by simp⟩,?_⟩;rintro k ys h' ⟨rfl,rfl⟩;refine⟨by simp only [G7,D4];exact D8 (jP (by omega)),xs.map c,hj,by simp,λhl p hp=> ?_,λd hd=>⟨_,rfl,?_⟩⟩
 ·rw [R3 (by simpa using hl)];exact hq p hp
 ·unfold vb;dsimp only;rw [if_pos rfl];rw [D1] at hd;cases hx:xs[k]? with
  |none=>rw [hx] at hd;cases hd
  |some x=>
   rw [hx] at hd;cases hd;refine he x (G8 hx) _ ⟨h',Sub.refl _,rfl,?_⟩;rw [T0,hx];simp
theorem lcF (xs:List α)(c g:α->D)(p:α->Bool){tt:TTD}(hz:xs.length<=1000)(hj:j h=some (xs.map c))(ht: ∀R:ItD->HD->Prop,R j h->ti σ h R)
 (hp: ∀x∈xs,∀Q':Bool->HD->Prop,Q' (p x) h->tt ((jH js σ).set i (some (c x))) h Q')(he: ∀x∈xs,p x=true-> ∀Q':KD,Q' (g x) h->te ((jH js σ).set i (some (c x))) h Q')(hq: ∀a,h a=none->Q (.lst a) (wS h a ((xs.filter p).map g))):Wo (bN i) js ti tt te σ h Q:=by
 refine ht _ ⟨xs.length,λk ys h'=>h'=h/\ys=((xs.take k).filter p).map g,⟨rfl,by simp⟩,?_⟩;rintro k ys h' ⟨rfl,rfl⟩;refine⟨?_,xs.map c,hj,by simp,λhl a ha=> ?_,λd hd=>⟨_,rfl,?_⟩⟩
 ·have:=List.length_filter_le p (xs.take k);simp only [G7,D4] at this ⊢;exact D8 (jP (by omega))
 ·rw [R3 (by simpa using hl)];exact hq a ha
 ·rw [D1] at hd;cases hx:xs[k]? with
  |none=>rw [hx] at hd;cases hd
  |some x=>
   rw [hx] at hd;cases hd;refine hp x (G8 hx) _ ?_;cases hb:p x with
   |true=>
    rw [if_pos rfl];refine he x (G8 hx) hb _ ⟨h',Sub.refl _,rfl,?_⟩;rw [T0,hx];simp [hb]
   |false=>
    rw [if_neg P3];refine⟨h',Sub.refl _,rfl,?_⟩;rw [T0,hx];simp [hb]
theorem lcB (xs:List α)(c:α->D)(ys:α->List β)(c':β->D)(g:α->β->D)(hz:(xs.flatMap ys).length<=1000)(hj:j h=some (xs.map c))(ht: ∀R:ItD->HD->Prop,R j h->ti σ h R)
 (hin: ∀x∈xs,∀R:ItD->HD->Prop,R (λ_=>some ((ys x).map c')) h->ti' ((jH js σ).set i (some (c x))) h R)
 (he: ∀x∈xs,∀y∈ys x,∀Q':KD,Q' (g x y) h->te (((jH js σ).set i (some (c x))).set i' (some (c' y))) h Q')(hq: ∀p,h p=none->Q (.lst p) (wS h p (xs.flatMap λx=>(ys x).map (g x)))):GH (bN i) js ti vb i' ti' vb te σ h Q:=by
 have len: ∀l:List α,(l.flatMap λx=>(ys x).map (g x)).length=(l.flatMap ys).length:=λl=>by
  induction l with
  |nil=>rfl
  |cons x l ih=>simp [N9,ih]
 have lek: ∀k,((xs.take k).flatMap ys).length<=(xs.flatMap ys).length:=λk=>by
  conv=>rhs;rw [<-D6 k xs,B7,G3]
  omega
 have lek1: ∀k x m,xs[k]? =some x->m<=(ys x).length->((xs.take k).flatMap ys).length+m<=(xs.flatMap ys).length:=λk x m hx hm=>by
  have:=lek (k+1);rw [T0,hx,B7,G3] at this;simp at this;simp;omega
 refine ht _ ⟨xs.length,λk zs h'=>h'=h/\zs=(xs.take k).flatMap λx=>(ys x).map (g x),⟨rfl,by simp⟩,?_⟩;rintro k zs h' ⟨rfl,rfl⟩;refine⟨by rw [len];exact D8 (jP (D9 (lek k) hz)),xs.map c,hj,by simp,λhl p hp=> ?_,λd hd=>⟨_,rfl,?_⟩⟩
 ·rw [R3 (by simpa using hl)];exact hq p hp
 ·unfold vb;dsimp only;rw [if_pos rfl];rw [D1] at hd;cases hx:xs[k]? with
  |none=>rw [hx] at hd;cases hd
  |some x=>
   rw [hx] at hd;cases hd;have xm:=G8 hx;refine hin x xm _ ⟨(ys x).length,λm zs h2=>h2=h'/\zs=((xs.take k).flatMap λx=>(ys x).map (g x))++((ys x).take m).map (g x),⟨rfl,by simp⟩,?_⟩;rintro m zs h2 ⟨rfl,rfl⟩;refine⟨?_,(ys x).map c',rfl,by simp,λhl=>⟨h2,Sub.refl _,rfl,?_⟩,λd hd=> ?_⟩
   ·rw [G3,len,G7,D4];have:=lek1 k x (min m (ys x).length) hx (O4 _ _);exact D8 (jP (by omega))
   ·have hm:(ys x).take m=ys x:=R3 (by simpa using hl);rw [hm,T0,hx,B7];simp
   ·rw [D1] at hd;cases hy:(ys x)[m]? with
    |none=>rw [hy] at hd;cases hd
    |some y=>
     rw [hy] at hd;cases hd
     first
      |rw [if_pos rfl]
      |(dsimp only;rw [if_pos rfl])
     refine he x xm y (G8 hy) _ ⟨h2,Sub.refl _,rfl,?_⟩;rw [T0,hy];simp
theorem Dy (xs:List α)(c g:α->D)(hz:xs.length<=1000)(hj:j h=some (xs.map c))(ht: ∀R:ItD->HD->Prop,R j h->ti σ h R)
 (he: ∀x∈xs,∀Q':KD,Q' (g x) h->te ((jH js σ).set i (some (c x))) h Q')(hq:Q (.tup (xs.map g)) h):dCB Va (zh (Wo (bN i) js ti vb te) Wm) σ h Q:=by
 show Wo (bN i) js ti vb te σ h (λx h1=>Va [x] h1 Q);exact lcA xs c g hz hj ht he λp hp=>(show ∃ys,wS h p (xs.map g) p=some ys/\Q (.tup ys) (Yd (wS h p (xs.map g)) p) from ⟨_,jd,by rw [wl hp];exact hq⟩)
theorem Fh (xs:List α)(c:α->D)(g:α->Int)(hz:xs.length<=1000)(hj:j h=some (xs.map c))(ht: ∀R:ItD->HD->Prop,R j h->ti σ h R)
 (he: ∀x∈xs,∀Q':KD,Q' (.int (g x)) h->te ((jH js σ).set i (some (c x))) h Q')(hq:Q (.int (xs.map g).sum) h):dCB Cc (zh (Wo (bN i) js ti vb te) Wm) σ h Q:=by
 show Wo (bN i) js ti vb te σ h (λx h1=>Cc [x] h1 Q);exact lcA xs c (λx=> .int (g x)) hz hj ht he λp hp=>⟨p,xs.map g,rfl,by rw [jd,R0];rfl,by rw [wl hp];exact hq⟩
theorem FX (xs:List α)(c:α->D)(ys:α->List β)(c':β->D)(g:α->β->Bool)(hz:(xs.flatMap ys).length<=1000)(hj:j h=some (xs.map c))(ht: ∀R:ItD->HD->Prop,R j h->ti σ h R)
 (hin: ∀x∈xs,∀R:ItD->HD->Prop,R (λ_=>some ((ys x).map c')) h->ti' ((jH js σ).set i (some (c x))) h R)
 (he: ∀x∈xs,∀y∈ys x,∀Q':KD,Q' (.bl (g x y)) h->te (((jH js σ).set i (some (c x))).set i' (some (c' y))) h Q')(hq:Q (.bl (xs.all λx=>(ys x).all (g x))) h):dCB BY (zh (GH (bN i) js ti vb i' ti' vb te) Wm) σ h Q:=by
 show GH (bN i) js ti vb i' ti' vb te σ h (λx h1=>BY [x] h1 Q);refine lcB xs c ys c' (λx y=> .bl (g x y)) hz hj ht hin he λp hp=> ?_
 ·have e:(xs.flatMap λx=>(ys x).map λy=>D.bl (g x y))=(xs.flatMap λx=>(ys x).map (g x)).map D.bl:=by
   clear hz hj ht hin he hq
   induction xs with
   |nil=>rfl
   |cons x l ih=>simp [N9,ih,R0]
  refine⟨p,xs.flatMap λx=>(ys x).map (g x),rfl,by rw [jd,e],?_⟩;rw [wl hp];have e2:(xs.flatMap λx=>(ys x).map (g x)).all id=xs.all λx=>(ys x).all (g x):=by
   clear hz hj ht hin he hq e
   induction xs with
   |nil=>rfl
   |cons x l ih=>simp [N9,ih,O2]
  rw [e2];exact hq
end
end L2
namespace L2
open PySem PySem.Spec PyProof.Rows PySem.SeqAt
theorem yq (h:HD): ∀ns:List Int,ToPs h (ns.map D.int) (ns.map U1)
 | []=>rfl
 |n::ns=>⟨_,_,rfl,rfl,yq h ns⟩
theorem zP: ∀ns:List Int,B8 (ns.map U1)=true
 | []=>rfl
 |n::ns=>by show (K4 (.int n)&&_)=true;rw [zP ns];rfl
theorem JU: ∀ns:List Int,M9 (ns.map U1)<=1
 | []=>by simp [M9]
 |n::ns=>by
  have:=JU ns;simp only [R1,M9,X5];omega
def ZZ (r:List Int):L0:= .tuple (r.map .int)
def NX (T:List (List Int)):L0:= .tuple (T.map ZZ)
theorem Jc (h:HD): ∀T:List (List Int),ToPs h (T.map zH) (T.map ZZ)
 | []=>rfl
 |r::T=>⟨_,_,rfl,⟨_,rfl,yq h r⟩,Jc h T⟩
theorem Dz (h:HD)(T:List (List Int)):ToP h (jw T) (NX T):=⟨_,rfl,Jc h T⟩
theorem Jd: ∀T:List (List Int),B8 (T.map ZZ)=true
 | []=>rfl
 |r::T=>by
  show (K4 (ZZ r)&&_)=true;rw [Jd T];have:K4 (ZZ r)=true:=by unfold ZZ;simp only [K4];exact zP r
  rw [this];rfl
theorem JV: ∀T:List (List Int),M9 (T.map ZZ)<=3
 | []=>by simp [M9]
 |r::T=>by
  have:=JV T;have h2:=JU r;simp only [R1,M9,X5,ZZ];omega
variable {n e:Nat}{T:List (List Int)}
theorem Xe (h:Sq n e T){i:Nat}(hi:i<n):atI (T.map zH) (i:Int)=some (zH (T.getD i [])):=by
 have hi':i<T.length:=by rw [h.len];exact hi
 exact Ya (by rw [D1,R4,G1 hi'];rfl)
theorem Sq.getRow (h:Sq n e T){i:Nat}(hi:i<n):T.getD i []∈T:=by
 have hi':i<T.length:=by rw [h.len];exact hi
 rw [R4,G1 hi'];exact T6 hi'
theorem ZA {r:List Int}(h:r.length=n){j:Nat}(hj:j<n):atI (r.map D.int) (j:Int)=some (.int (r.getD j 0)):=by
 have hj':j<r.length:=by rw [h];exact hj
 exact Ya (by rw [D1,R4,G1 hj'];rfl)
theorem Xf (T:List (List Int))(f:Int->Int):D.tup (T.map λr=>D.tup (r.map λx=>D.int (f x)))=jw (T.map λr=>r.map f):=by
 unfold jw zH;rw [R0]
 congr 1
 apply S5;intro r _;simp [R0,aE]
theorem Xg (h:Sq n e T):ji n T=T.map λr=>r.map λx=>if x≠0 then 1 else 0:=by
 conv=>rhs;rw [h.eq_mk]
 unfold ji mkT;rw [R0];apply S5;intro i _;simp only [B6,R0];apply S5;intro j _;simp only [B6]
 by_cases z:ent T i j=0
 ·rw [if_pos z,if_neg (by simpa using z)]
 ·rw [if_neg z,if_pos z]
theorem QH (h:Sq n e T)(h6:n<=6):(T.flatMap λr=>r).length<=1000:=by
 have: ∀U:List (List Int),(∀r∈U,r.length=n)->(U.flatMap λr=>r).length=U.length*n:=λU=>by
  induction U with
  |nil=>intro _;simp
  |cons r U ih=>
   intro hU;rw [N9,G3,ih λr hr=>hU r (D3 _ hr),hU r D2,D5,X4];omega
 rw [this T h.row,h.len];have:=Z0 h6 h6;omega
variable {U:List (List Int)}
theorem Vg (h:Sq n e T):(T.map λr=>D.tup ((P2 n).map λj=>D.int (jt n λm=>r.getD m 0*ent U m j)))=(wm n T U).map zH:=by
 conv=>lhs;rw [zO T [],h.len]
 unfold wm mkT;rw [R0,R0];apply S5;intro i _;simp only [B6,zH,R0];rfl
theorem pow_add (h:Sq n e T)(hn:n<=8)(a:Nat): ∀b,jX n T (a+b)=wm n (jX n T a) (jX n T b)
 |0=>by rw [show jX n T 0=Ub n from rfl,QF (h.pow hn a) hn];rfl
 |b+1=>by
  show wm n (jX n T (a+b)) T=wm n (jX n T a) (wm n (jX n T b) T);rw [pow_add h hn a b,mul_assoc (h.pow hn a) (h.pow hn b) h hn]
theorem DA (h:Sq n e T)(hn:n<=8):jX n T 1=T:=Ve h hn
theorem Wu (h:Sq n e T)(hn:n<=8)(b:Nat):jX n T (b+1)=wm n T (jX n T b):=by
 rw [aU,pow_add h hn,DA h hn]
variable {i:Nat}
theorem QJ {j:Nat}(hi:i<n)(hj:j<n):ent (ji n T) i j=if ent T i j=0 then 0 else 1:=vc hi hj
theorem Vh (h: ∀i j,i<n->j<n->(ent T i j=0↔ent U i j=0)):ji n T=ji n U:=Vd λi j hi hj=>by
 by_cases z:ent T i j=0
 ·rw [if_pos z,if_pos ((h i j hi hj).mp z)]
 ·rw [if_neg z,if_neg (λw=>z ((h i j hi hj).mpr w))]
theorem wn {j:Nat}(hi:i<n)(hj:j<n):ent (ji n T) i j=0↔ent T i j=0:=by
 rw [QJ hi hj]
 by_cases z:ent T i j=0
 ·rw [if_pos z];simp [z]
 ·rw [if_neg z];simp [z]
theorem Wv (T:List (List Int)):ji n (ji n T)=ji n T:=Vh λi j hi hj=>wn hi hj
theorem za {f j:Nat}(h:Sq n e T)(g:Sq n f U)(hi:i<n)(hj:j<n):ent (wm n T U) i j≠0↔ ∃k,k<n/\ent T i k≠0/\ent U k j≠0:=by
 rw [wV hi hj];have nn: ∀k,k<n->0<=ent T i k*ent U k j:=λk hk=>eT (h.ent_nn hi hk).1 (g.ent_nn hk hj).1
 have s:=yp nn;have p:=Xb nn;constructor
 ·intro z;obtain⟨k,hk,w⟩:=p.mp (by omega);refine⟨k,hk,λq=> ?_,λq=> ?_⟩
  ·rw [q] at w;simp at w
  ·rw [q] at w;simp at w
 ·rintro ⟨k,hk,a,b⟩ z;have c:=(h.ent_nn hi hk).1;have d:=(g.ent_nn hk hj).1;have:0<ent T i k*ent U k j:=f8 (by omega) (by omega);have:=p.mpr ⟨k,hk,this⟩;omega
theorem vD {f:Nat}(h:Sq n e T)(g:Sq n f U):ji n (wm n T U)=ji n (wm n (ji n T) (ji n U)):=
 Vh λi j hi hj=>by
  have a:=za h g hi hj;have b:=za (Sq.mark (n:=n) T) (Sq.mark (n:=n) U) hi hj;have c:(∃k,k<n/\ent T i k≠0/\ent U k j≠0)↔ ∃k,k<n/\ent (ji n T) i k≠0/\ent (ji n U) k j≠0:=
   ⟨λ⟨k,hk,x,y⟩=>⟨k,hk,λz=>x ((wn hi hk).mp z),λz=>y ((wn hk hj).mp z)⟩,λ⟨k,hk,x,y⟩=>⟨k,hk,λz=>x ((wn hi hk).mpr z),λz=>y ((wn hk hj).mpr z)⟩⟩
  exact⟨λz=>A3 λw=>(a.mpr (c.mpr (b.mp w))) z,λz=>A3 λw=>(b.mpr (c.mp (a.mp w))) z⟩
theorem yr (h:Sq n e T):jy T=true↔ ∀i j,i<n->j<n->ent T i j≠0:=by
 have h1:jy T=jy (mkT n (ent T)):=by rw [<-h.eq_mk]
 rw [h1,Yk]
theorem Xh {a:Nat}(h:Sq n e T)(hn:n<=8)(ha:0<a)(f:jy (jX n T a)=true):jy (jX n T (a+1))=true:=by
 rw [yr (h.pow hn _)] at f ⊢;intro i j hi hj;obtain⟨b,rfl⟩: ∃b,a=b+1:=⟨a-1,by omega⟩;have z:=f i j hi hj;rw [Wu h hn b,za h (h.pow hn b) hi hj] at z;obtain⟨k,hk,x,_⟩:=z;rw [Wu h hn (b+1),za h (h.pow hn (b+1)) hi hj];exact⟨k,hk,x,f k j hk hj⟩
theorem Yl {a:Nat}(h:Sq n e T)(hn:n<=8)(ha:0<a)(f:jy (jX n T a)=true): ∀b,jy (jX n T (a+b))=true
 |0=>f
 |b+1=>Xh (a:=a+b) h hn (by omega) (Yl h hn ha f b)
section
variable {X:Cx}{pins:List (Addr×Obj)}{σ:List (Option V)}{H:Hp}{s:G2}{h':Heap}
theorem Inv.turnL {t':Nat}{ch:List Addr}(I:Inv X pins σ H s)(k: ∀b o,b ∉ ch->s.heap.get? b=some o->h'.get? b=some o)(hc: ∀b∈ch,Ua X pins H b):Inv X pins σ H {s with heap:=h',toks:=t'}:=by
 refine I.step (g':=s.gens) (d':=s.drawn) (ch:=ch) (λb hb=>let ⟨_,f1,_,f3,f4,f5⟩:=hc b hb;⟨f3,f1,f4,f5⟩) (λb o _ _ nb e _=>k b o nb e) (λb o _ _ nb e _=>⟨o.slots,k b o nb e⟩) (λ_ _ _ _ n=>n)
  (λb o nb e=>⟨o,k b o nb e⟩) (λ_ _ e=>e) (λ_ _ _ e=>e) (λb ps e=>⟨#[],by rw [e];simp⟩) (λm hm=> ?_) (λb u e=> ?_) I.bare
 ·obtain⟨o,es,ep,ho,r⟩:=hm;exact⟨o,es,ep,k _ o (λz=>(hc _ z).2.1 rfl) ho,r⟩
 ·refine(I.hok b u e).stay (λc v hb q=>k c v (λz=> ?_) q) (λ_ q=>q) λ_ _ q=>q
  have f:=(hc c z).1;rcases hb with w|w
  ·rw [w,e] at f;cases f
  ·rw [w] at f;cases f
theorem Inv.turnLaid {t':Nat}{ch:List Addr}{a:Addr}{o:HO}(I:Inv X pins σ H s)(k: ∀b u,b ∉ ch->s.heap.get? b=some u->h'.get? b=some u)(hc: ∀b∈ch,Ua X pins H b)(hp:s.heap.objs.size<=a)
 (new:ObjOk X.prog X.w (upd H a o) h' a o):Inv X pins σ (upd H a o) {s with heap:=h',toks:=t'}:=by
 have hn:=I.hok.fresh hp;refine I.step (g':=s.gens) (d':=s.drawn) (ch:=ch) (λb hb=>let ⟨_,f1,_,f3,f4,f5⟩:=hc b hb;⟨f3,f1,f4,f5⟩) (λb u _ _ nb e _=>k b u nb e) (λb u _ _ nb e _=>⟨u.slots,k b u nb e⟩)
  (λb u _ e n=>by rw [jf (S0 (R7 (P8 e) hp))];exact n) (λb u nb e=>⟨u,k b u nb e⟩) (λb xs q=>by rw [jf (je q hn)];exact q) (λb u xs q=>by rw [jf (je q hn)];exact q)
  (λb ps q=>⟨#[],by rw [jf (je q hn),q];simp⟩) (λm hm=> ?_) (λb u e=> ?_) I.bare
 ·obtain⟨u,es,ep,ho,r⟩:=hm;exact⟨u,es,ep,k _ u (λz=>(hc _ z).2.1 rfl) ho,r⟩
 ·by_cases hb:b=a
  ·subst hb;rw [jh] at e;cases e;exact new
  ·rw [jf hb] at e;refine(I.hok b u e).stay (λc v hb q=>k c v (λz=> ?_) q) (λc q=>by rw [jf (je q hn)];exact q) λc xs q=>by rw [jf (je q hn)];exact q
   have f:=(hc c z).1;rcases hb with w|w
   ·rw [w,e] at f;cases f
   ·rw [w] at f;cases f
end
def Xi (ds:List D):List D:=ds.zipIdx.map λp=> .tup [.int (p.2:Int),p.1]
theorem Vi {ds:List D}{d:D}(h:(Xi ds)[i]? =some d): ∃x,ds[i]? =some x/\d= .tup [.int (i:Int),x]:=by
 unfold Xi at h;rw [D1,List.getElem?_zipIdx] at h;cases q:ds[i]? with
 |none=>rw [q] at h;cases h
 |some x=>
  rw [q] at h;refine⟨x,rfl,?_⟩;have h':some (D.tup [.int ((0+i:Nat):Int),x])=some d:=h;rw [O3] at h';exact(N3 h').symm
theorem wW (ds:List D):(Xi ds).length=ds.length:=by simp [Xi]
def Xj (c:TTD)(tb:TSD):TSD:=λD σ h=> ∃W:Nat->SD->HD->Prop,(∃m,W m σ h)/\ ∀m gO h',W m gO h'->c gO h' λb h1=>
 if b=true then tb {D with nx:=λgQ h2=> ∃m' h3,m'<m/\Sub h3 h2/\W m' gQ h3,ct:=λgQ h2=> ∃m' h3,m'<m/\Sub h3 h2/\W m' gQ h3,bk:=D.nx} gO h1 else D.nx gO h1
theorem QK {K:PySem.W.Frag}{c:TTD}{tb:TSD}: ∀D σ H,LS K (Xj c tb) D σ H->Gz (LT K c) (LS K tb) D σ H:=λD σ H ⟨gP,h,Dd,rs,rh,⟨W,⟨m0,w0⟩,turn⟩,nx,rt,bk,ct⟩=>by
 refine⟨λm gO H'=>Kept H H'/\ ∃gS h',RelS K H' gS gO/\RelH K h' H'/\W m gS h',⟨m0,.refl _,gP,h,rs,rh,w0⟩,?_⟩;rintro m gO H' ⟨kp,gS,h',rs',rh',w⟩;refine LT.bind rs' rh' (turn m gS h' w) λb h1 H1 k1 rs1 rh1 q1=> ?_
 cases b with
 |false=>
  rw [if_neg P3] at q1 ⊢;exact nx _ _ _ _ (kp.trans k1) rs1 rh1 q1
 |true=>
  rw [if_pos rfl] at q1 ⊢;have kk:Kept H H1:=kp.trans k1;refine⟨λgQ H2=>Kept H H2/\ ∃m',m'<m/\ ∃gU h2,RelS K H2 gU gQ/\RelH K h2 H2/\W m' gU h2,λgQ H2 ⟨k2,m',hm,a,b,c,d,e⟩=>⟨m',hm,k2,a,b,c,d,e⟩,?_⟩;exact⟨gS,h1,_,rs1,rh1,q1,λa b c d k4 rs4 rh4 ⟨m',h4,hm,sb,w4⟩=>⟨kk.trans k4,m',hm,a,h4,rs4,rh4.sub sb,w4⟩,jm rt kk,λa b c d k4 rs4 rh4 q4=>nx a b c d (kk.trans k4) rs4 rh4 q4,λa b c d k4 rs4 rh4 ⟨m',h4,hm,sb,w4⟩=>⟨kk.trans k4,m',hm,a,h4,rs4,rh4.sub sb,w4⟩⟩
section
variable {X:Cx}{pos:Pos}
theorem Ng {c:Expr}{body:List Stmt}{tc:TTD}{tb:TSD}(hp:bM (model X.prog X.w) X.A X.env X.xe)(hc:JT X c tc)(hb:JSs X body tb):JS X (.While c body [] pos) (Xj tc tb):=⟨(Qc hp hc.to hb.to).imp QK⟩
end
theorem QL {c:TTD}{tb:TSD}{E:EndsD}{σ:SD}{h:HD}(W:Nat->SD->HD->Prop)(m:Nat)(w0:W m σ h)
 (turn: ∀m gO h',W m gO h'->c gO h' λb h1=>if b=true then tb {E with nx:=λgQ h2=> ∃m' h3,m'<m/\Sub h3 h2/\W m' gQ h3,ct:=λgQ h2=> ∃m' h3,m'<m/\Sub h3 h2/\W m' gQ h3,bk:=E.nx} gO h1 else E.nx gO h1):Xj c tb E σ h:=⟨W,⟨m,w0⟩,turn⟩
def inE (neg:Bool):RD2:=λx y h Q=> ∃ (p:L0) (ps:List L0),ToP h x p/\(ToP h y (.list ps)\/ToP h y (.tuple ps))/\p.canLay0=true/\B8 ps=true/\p.depth<=60/\Q (.bl (neg !=ps.any λz=>M8 z p)) h
section
variable {X:Cx}
theorem Ch (hu:X.A.units+64<cLine):OpQ X (compareOp .In) (inE false):=by
 intro pins s σ H x y v u Q I rx ry h;obtain⟨dx,dy,h,Qd,r1,r2,rh,⟨p,ps,t1,t2,c1,c2,c3,qq⟩,post⟩:=h;obtain⟨as,a1⟩:=zd I rh t1 r1 rx;have hu':X.A.units+1+min (M9 ps) p.depth<cLine:=by have:=O4 (M9 ps) p.depth;omega
 have q':Qd (.bl (ps.any λz=>M8 z p)) h:=by simpa using qq
 rcases t2 with t2|t2
 ·obtain⟨bs,b1⟩:=zd I rh t2 r2 ry;exact in_list_reads b1 a1 c2 c1 hu' ⟨.bl _,H,I,rfl,post (.bl _) _ _ _ (.refl H) rh rfl q'⟩
 ·obtain⟨bs,b1⟩:=zd I rh t2 r2 ry;exact in_tuple_reads b1 a1 c2 c1 hu' ⟨.bl _,H,I,rfl,post (.bl _) _ _ _ (.refl H) rh rfl q'⟩
theorem QM (hu:X.A.units+64<cLine):OpQ X (compareOp .NotIn) (inE true):=by
 intro pins s σ H x y v u Q I rx ry h;obtain⟨dx,dy,h,Qd,r1,r2,rh,⟨p,ps,t1,t2,c1,c2,c3,qq⟩,post⟩:=h;obtain⟨as,a1⟩:=zd I rh t1 r1 rx;have hu':X.A.units+1+min (M9 ps) p.depth<cLine:=by have:=O4 (M9 ps) p.depth;omega
 have q':Qd (.bl (!ps.any λz=>M8 z p)) h:=by simpa using qq
 rcases t2 with t2|t2
 ·obtain⟨bs,b1⟩:=zd I rh t2 r2 ry;exact notIn_list_reads b1 a1 c2 c1 hu' ⟨.bl _,H,I,rfl,post (.bl _) _ _ _ (.refl H) rh rfl q'⟩
 ·obtain⟨bs,b1⟩:=zd I rh t2 r2 ry;exact notIn_tuple_reads b1 a1 c2 c1 hu' ⟨.bl _,H,I,rfl,post (.bl _) _ _ _ (.refl H) rh rfl q'⟩
theorem Ci {tg:Expr}{p pos:Pos}{a b:Expr}{ta:TAD}(hg:Gl X "range")(hm:X.mg "range" =none)(ha:JA X [a,b] ta)(hs:starEach [a,b] X.env= [(false,eval a X.env),(false,eval b X.env)]:=by rfl)(hs2:starEach [b] X.env= [(false,eval b X.env)]:=by rfl):JI X tg (.Call (.Name "range" p) [a,b] [] pos) (iR2 ta):=⟨(Uj hg hm ha.to hs hs2).imp BN⟩
end
end L2
namespace L2
open PySem PySem.Spec PyProof.Rows
section
variable {prog:R5}{w:T4}{A:T9}{E:G0->G2->Prop}{s:G2}
theorem yt: ∀ {vs:List G0} {ns:List Int},O1 vs ns-> ∀ {i:Nat} {v:G0},vs[i]? =some v-> ∃t,v= .int (ns.getD i 0) t/\i<ns.length
 |_,_,.nil,_,_,hv=>by simp at hv
 |_,_,.cons _ t _,0,_,hv=>⟨t,by simpa using hv.symm,by simp⟩
 |_,_,.cons _ _ r,i+1,_,hv=>by
  obtain⟨t,e,lt⟩:=yt r (i:=i) (by simpa using hv);exact⟨t,by simpa using e,by simpa using lt⟩
theorem Ww {l:Addr}{o:Obj}(here:l<s.heap.objs.size): ∀b∈ [s.heap.objs.size,l],b<(s.heap.push o).objs.size:=λb hb=>by
 rw [Y6];simp only [S3,O7,or_false] at hb;rcases hb with e|e<;>subst e
 ·exact O6 _
 ·exact V4 here
theorem Wx {o:Obj}{h':Heap}(k: ∀b u,b ∉ [s.heap.objs.size]->(s.heap.push o).get? b=some u->h'.get? b=some u): ∀b u,s.heap.get? b=some u->h'.get? b=some u:=λb u e=>
 k b u (λm=>absurd (P8 e) (by rw [G9.mp m];exact M7 _)) (P1 _ e)
end
section
variable {X:Cx}
theorem Xk (hc:X.calm=true):CallR X (.builtin "min") (λxs H Q=> ∃ (a:Addr) (ns:List Int),xs= [.ref a]/\ns≠ []/\(SqL X.K H a (ns.map V.int)\/SqT X.K H a (ns.map V.int))/\ ∀m∈ns,(∀x∈ns,m<=x)->Q (.int m) H):=by
 intro pins s σ H xs us Q I r h;obtain⟨a,ns,rfl,hne,hS,q⟩:=h;obtain⟨u,rfl,ru⟩:=vJ r;cases ru;have fin: ∀ {its:List G0} (hi:O1 its ns) (v:G0) (h':Heap) (tk:Nat),its.toArray[argBest (λi j=>decide (ns.getD i 0<ns.getD j 0)) (its.toArray.size-1)]? =some v->(∀b o,s.heap.get? b=some o->h'.get? b=some o)->EP X pins σ Q v {s with heap:=h',toks:=tk}:=λ{its} hi v h' tk hv kept=>by
  obtain⟨t,rfl,lt⟩:=yt hi (show its[_]? =some v by simpa using hv);refine⟨.int _,H,I.kept kept,⟨t,rfl⟩,q _ (getD_mem lt) λx hx=> ?_⟩;obtain⟨j,hj,rfl⟩:=mem_getD hx;exact(argBest_lt (λi=>ns.getD i 0) (its.toArray.size-1)).2 j (by rw [P6,hi.length];omega)
 refine call_min_walk ?_;rcases hS with hS|hS
 ·obtain⟨its,rv,pl,_⟩:=I.list hS;have hi:=Vc rv;obtain⟨o,e,r⟩:=id pl.isList;have W:=Walks.list (prog:=X.prog) (w:=X.w) (A:=X.A.in1) (I.ok.hd hc) s.heap.objs.size a (S0 (P8 e)) its.toArray;exact J5 pl.isList ⟨_,_,_,_,_,_,_,rfl,W,⟨⟨_,S4 _ rfl,rfl,rfl⟩,⟨o,P1 _ e,r⟩⟩,Ww (P8 e),by rw [P6,hi.length];exact bQ.mpr hne,CmpOf.ints_lt (λi=>ns.getD i 0) (λi v hv=>(yt hi (by simpa using hv)).imp λ_ z=>z.1),λv h' tk hv k=>fin hi v h' tk hv (Wx k)⟩
 ·obtain⟨its,rv,pl,_⟩:=I.tuple hS;have hi:=Vc rv;obtain⟨o,e,r⟩:=id pl;have W:=Walks.tuple (prog:=X.prog) (w:=X.w) (A:=X.A.in1) (I.ok.hd hc) s.heap.objs.size a (S0 (P8 e)) its.toArray;exact b8 (show s.heap.IsTuple a its.toArray from pl) ⟨_,_,_,_,_,_,_,rfl,W,⟨⟨_,S4 _ rfl,rfl,rfl⟩,⟨o,P1 _ e,r⟩⟩,Ww (P8 e),by rw [P6,hi.length];exact bQ.mpr hne,CmpOf.ints_lt (λi=>ns.getD i 0) (λi v hv=>(yt hi (by simpa using hv)).imp λ_ z=>z.1),λv h' tk hv k=>fin hi v h' tk hv (Wx k)⟩
def Nh (B:List Int->Int->Prop):RDn:=λds h Q=> ∃ (ns:List Int) (h':HD),ns≠ []/\Sub h' h/\(ds= [.tup (ns.map D.int)]\/ ∃a,ds= [.lst a]/\h a=some (ns.map D.int))/\ ∀m∈ns,B ns m->Q (.int m) h'
abbrev NY:RDn:=Nh λns m=> ∀x∈ns,m<=x
theorem QN {B:List Int->Int->Prop}{f:G0}(c:CallR X f (λxs H Q=> ∃ (a:Addr) (ns:List Int),xs= [.ref a]/\ns≠ []/\(SqL X.K H a (ns.map V.int)\/SqT X.K H a (ns.map V.int))/\ ∀m∈ns,B ns m->Q (.int m) H)):wT X f (Nh B):=
 c.imp λxs H Q ⟨ds,h,Qd,r,rh,⟨ns,h',hne,hs,e,q⟩,p⟩=>by
  rcases e with e|⟨a,e,ha⟩
  ·subst e;obtain⟨v,e,r1⟩:=jx r;obtain⟨a,vs,e1,hH,r2⟩:=(show ∃a vs,v= .ref a/\H a=some (.tup vs)/\RelDs X.K H (ns.map D.int) vs from r1);rw [zi r2] at hH;subst e e1;exact⟨a,ns,rfl,hne,.inr (SqT.of hH),λm m1 m2=>p (.int m) _ _ _ (.refl H) (rh.sub hs) rfl (q m m1 m2)⟩
  ·subst e;obtain⟨v,e,r1⟩:=jx r;obtain⟨vs,hH,r2⟩:=rh a _ ha;have e1:v= .ref a:=r1.1;rw [zi r2] at hH;subst e e1;exact⟨a,ns,rfl,hne,.inl (SqL.of hH),λm m1 m2=>p (.int m) _ _ _ (.refl H) (rh.sub hs) rfl (q m m1 m2)⟩
theorem Xl (hc:X.calm=true):wT X (.builtin "min") NY:=QN (Xk hc)
end
structure ShowOk (p:L0):Prop where
 sh:p.showable=true
 dp:p.depth<=60
 ln:p.shown.length<=sizeLine
mutual
theorem JX {h:HD}: ∀ {p:L0} {d:D},ToP h d p->p.hasDict=false
 | .none,_,_=>rfl
 | .bool _,_,_=>rfl
 | .int _,_,_=>rfl
 | .str _,_,_=>rfl
 | .tuple ps,d,t=>by
  obtain⟨ds,_,ts⟩:=(show ∃ds,d= .tup ds/\ToPs h ds ps from t);simpa only [eZ] using noDict_ToPs ts
 | .list ps,d,t=>by
  obtain⟨a,ds,_,_,ts⟩:=(show ∃a ds,d= .lst a/\h a=some ds/\ToPs h ds ps from t);simpa only [eZ] using noDict_ToPs ts
 | .dict _,_,t=>(show False from t).elim
theorem noDict_ToPs {h:HD}: ∀ {ps:List L0} {ds:List D},ToPs h ds ps->cN ps=false
 | [],_,_=>rfl
 |p::ps,ds,t=>by
  obtain⟨d,r,_,t1,t2⟩:=(show ∃d r,ds=d::r/\ToP h d p/\ToPs h r ps from t);simp only [cN,JX t1,noDict_ToPs t2,Bool.or_self]
end
def Cj:RDn:=λds h Q=> ∃d p,ds= [d]/\ToP h d p/\ShowOk p/\Q (.str p.shown) h
theorem Vj {X:Cx}{k:Nat}(hr:Room k X.A):wT X (.builtin "repr") Cj:=by
 intro pins s σ H xs us Q I r h;obtain⟨ds,h,Qd,rs,rh,⟨d,p,e,t,so,q⟩,post⟩:=h;subst e;obtain⟨v,e,r1⟩:=jx rs;subst e;obtain⟨u,rfl,ru⟩:=vJ r;have fin: ∀t',EP X pins σ Q (.str p.shown t') {s with toks:=s.toks+1}:=λt'=>⟨.str p.shown,H,I.tok _,⟨_,rfl⟩,post (.str _) _ _ _ (.refl H) rh rfl q⟩
 have fin0: ∀t',EP X pins σ Q (.str p.shown t') s:=λt'=>⟨.str p.shown,H,I,⟨_,rfl⟩,post (.str _) _ _ _ (.refl H) rh rfl q⟩
 have big: ∀a,u= .ref a->wpAny (model X.prog X.w) X.A (call (.builtin "repr") [.ref a]) (EP X pins σ Q) X.xe s:=λa e=>by
  obtain⟨as,rd⟩:=zd I rh t r1 ru;subst e;exact repr_of_reads' rd so.sh (PyData.noDict_hsm (JX t)) hr.gd (by have:=hr.units;have:=so.dp;omega) (λ_ _ e=>e)
   (λh' u' tk hk=>⟨.str p.shown,H,I.kept hk,⟨_,rfl⟩,post (.str _) _ _ _ (.refl H) rh rfl q⟩) so.ln
 cases p with
 |none=>
  cases (show d= .non from t);cases (show v= .non from r1);cases (show u= .none from ru);exact PySem.P.repr_of_none (fin _)
 |bool b=>
  cases (show d= .bl b from t);cases (show v= .bl b from r1);cases (show u= .bool b from ru);exact PySem.P.repr_of_bool (fin _)
 |int i=>
  cases (show d= .int i from t);cases (show v= .int i from r1);obtain⟨k,rfl⟩:=(show ∃t,u=K6 i t from ru);exact PySem.P.repr_of_int (by simpa [PyData.showable] using so.sh) (fin _)
 |str x=>
  cases (show d= .str x from t);cases (show v= .str x from r1);obtain⟨k,rfl⟩:=(show ∃t,u=aH x t from ru);exact PySem.P.repr_of_str (fin _) so.ln
 |tuple ps=>
  obtain⟨ds,e,ts⟩:=(show ∃ds,d= .tup ds/\ToPs h ds ps from t);subst e;obtain⟨a,vs,e,hH,rs⟩:=(show ∃a vs,v= .ref a/\H a=some (.tup vs)/\RelDs X.K H ds vs from r1);subst e;cases (show u= .ref a from ru);exact big a rfl
 |list ps=>
  obtain⟨a,ds,e,ha,ts⟩:=(show ∃a ds,d= .lst a/\h a=some ds/\ToPs h ds ps from t);subst e;have e:v= .ref a:=r1.1;subst e;cases (show u= .ref a from ru);exact big a rfl
 |dict _=>exact(show False from t).elim
theorem QP {ta:TAD}{g:TGD}{tb:TSD}{E:EndsD}{σ:SD}{h h1:HD}(m:Int)(n:Nat)(W:Nat->SD->HD->Prop)(hm:0<=m)(hm2:m<1000000)(hn:n<1000000)
 (ht: ∀R:List D->HD->Prop,R [.int m,.int (m+(n:Int))] h1->ta σ h R)(w0:W 0 σ h1)(done: ∀gO h',W n gO h'->E.nx gO h')
 (turn: ∀i gO h',i<n->W i gO h'->g (.int (m+(i:Int))) gO h' λgQ h2=>tb (Nxt E λgT h4=>i+1<=n/\W (i+1) gT h4) gQ h2):Rf (iR2 ta) g tb E σ h:=by
 refine ht _ ⟨m,m+(n:Int),rfl,⟨by omega,by omega,by omega,by omega⟩,n,λi gO h'=>i<=n/\W i gO h',⟨S1 _,w0⟩,?_⟩;rintro i gO h' ⟨hi,w⟩;have en:(m+(n:Int)-m).toNat=n:=by omega
 refine⟨_,rfl,by simp [en],λhl=> ?_,λd hd=> ?_⟩
 ·have:i=n:=by simp [en] at hl;omega
  subst this;exact done _ _ w
 ·rw [en,D1] at hd;cases hx:(P2 n)[i]? with
  |none=>rw [hx] at hd;cases hd
  |some y=>
   rw [hx] at hd;cases hd;obtain⟨hi2,e⟩:=P4.mp hx;simp at hi2 e;subst e;exact turn i gO h' hi2 w
def GU:RDn:=λds h Q=> ∃x y p,ds= [x,y]/\ToP h x p/\ToP h y p/\ShowOk p/\Q (.bl true) h
theorem DB {r:List Int}{h:HD}{Q:KD}(hne:r≠ [])(q: ∀m∈r,(∀x∈r,m<=x)->Q (.int m) h):NY [zH r] h Q:=⟨r,h,hne,Sub.refl h,.inl rfl,q⟩
def vd (r:List Int):Int:=(r.min?).getD 0
theorem Xm {r:List Int}{m:Int}(h:m∈r)(l: ∀x∈r,m<=x):m=vd r:=by
 unfold vd;rw [bB.mpr ⟨h,l⟩];rfl
theorem JY {r:List Int}(h:r≠ []):vd r∈r/\ ∀x∈r,vd r<=x:=by
 cases e:r.min? with
 |none=>exact absurd (List.min?_eq_none_iff.mp e) h
 |some m=>
  have:=bB.mp e;unfold vd;rw [e];exact this
theorem ZB {n e:Nat}{T:List (List Int)}(h:Sq n e T)(ne: ∀r∈T,r≠ []){m:Int}(m1:m∈T.map vd)(m2: ∀x∈T.map vd,m<=x):decide (m>0)=jy T:=by
 rw [B0,decide_eq_true_eq];unfold jy;simp only [T5,decide_eq_true_eq];constructor
 ·intro hm r hr x hx;have a:=m2 _ (T1.mpr ⟨r,hr,rfl⟩);have b:=(JY (ne r hr)).2 x hx;omega
 ·intro z;obtain⟨r,hr,rfl⟩:=T1.mp m1;have a:=(JY (ne r hr)).1;have b:=z r hr _ a;have c:=h.nn r hr _ a;omega
section
variable {α β:Type}{i i':Nat}{js:List Nat}{ti ti':TID}{te:TED}{σ:SD}{h:HD}{Q:KD}{j:ItD}
theorem FY (xs:List α)(c:α->D)(g:α->Int)(hz:xs.length<=1000)(hj:j h=some (xs.map c))(ht: ∀R:ItD->HD->Prop,R j h->ti σ h R)
 (he: ∀x∈xs,∀Q':KD,Q' (.int (g x)) h->te ((jH js σ).set i (some (c x))) h Q')(hne:xs≠ [])(hq: ∀m∈xs.map g,(∀x∈xs.map g,m<=x)->Q (.int m) h):dCB NY (zh (Wo (bN i) js ti vb te) Wm) σ h Q:=by
 show Wo (bN i) js ti vb te σ h (λx h1=>NY [x] h1 Q);exact lcA xs c (λx=> .int (g x)) hz hj ht he λp hp=>⟨xs.map g,h,λz=>hne (List.map_eq_nil_iff.mp z),Sub.newAt (Sub.refl h) hp,.inr ⟨p,rfl,by rw [jd,R0];rfl⟩,hq⟩
end
end L2
namespace L2
open PySem PySem.Spec PyProof.Rows PySem.SeqAt
theorem QQ {X:Cx}(hu:X.A.units+64<cLine):MtM X "list.index" (λx vs H Q=> ∃ (a:Addr) (y:V) (dy:D) (h:HD) (p:L0) (ps:List L0) (j:Nat) (z:L0),x= .ref a/\vs= [y]/\RelD X.K H dy y/\RelH X.K h H/\ToP h (.lst a) (.list ps)/\ToP h dy p/\p.canLay0=true/\B8 ps=true/\p.depth<=60/\j<1000000/\ps[j]? =some z/\M8 z p=true/\(∀m y,m<j->ps[m]? =some y->M8 y p=false)/\Q (.int (j:Int)) H):=by
 intro pins s σ H x vs v us Q I rx rv h;obtain⟨a,y,dy,h,p,ps,j,z,rfl,rfl,rd,rh,t1,t2,c1,c2,c3,hj,hz,hit,hno,q⟩:=h;cases rx;obtain⟨u,rfl,ru⟩:=vJ rv;obtain⟨a',ds,ea,ha,ts⟩:=(show ∃a' ds,D.lst a= .lst a'/\h a'=some ds/\ToPs h ds ps from t1);cases ea;obtain⟨ws,hH,_⟩:=rh a ds ha;obtain⟨as,r1⟩:=zd I rh t1 (show RelD X.K H (.lst a) (.ref a) from ⟨rfl,ws,hH⟩) (show RelV (.ref a) (.ref a) from rfl);obtain⟨bs,r2⟩:=zd I rh t2 rd ru;cases r1 with
 |list h1 h2 h3 h4=>
  rename_i o its n cs;have em:=readsAll_map ps _ _ c2 h4;have gm: ∀m (hm:m<its.size),ps[m]? =some (readOf s.heap its[m]):=λm hm=>by
   rw [<-em,D1,T8,Array.getElem?_eq_getElem hm];rfl
  have hlen:its.size=ps.length:=by rw [<-em,G7,T2]
  have hjs:j<its.size:=by rw [hlen];exact(P4.mp hz).1
  have hu':X.A.units+1+min (M9 ps) p.depth<cLine:=by have:=O4 (M9 ps) p.depth;omega
  obtain⟨oc,od,odt,osl⟩:=o;simp only at h2 h3;subst h2 h3;refine Y4 F.slot_list_index ⟨_,h1,rfl⟩ F.entry_list_index (F.args_list_index_2 _ _) (list_indexAt a its n od osl u (λy=>M8 (readOf s.heap y) p) j hjs (by omega) ?_ ?_) ⟨h1,items_eqAt h4 r2 c2 c1 hu',?_⟩
  ·have:=gm j hjs;rw [hz] at this;injection this with this
   rw [<-this];exact hit
  ·intro m hm hmj;exact hno m _ hmj (gm m hm)
  ·exact⟨.int (j:Int),H,I.tok _,⟨_,rfl⟩,q⟩
def FZ (to te:TED):TED:=λσ h Q=>to σ h λx h1=> ∃a,x= .lst a/\te σ h1 λy h2=> ∃ (p:L0) (ps:List L0) (j:Nat) (z:L0),ToP h2 (.lst a) (.list ps)/\ToP h2 y p/\p.canLay0=true/\B8 ps=true/\p.depth<=60/\j<1000000/\ps[j]? =some z/\M8 z p=true/\(∀m y,m<j->ps[m]? =some y->M8 y p=false)/\Q (.int (j:Int)) h2
section
variable {X:Cx}{o e i:Expr}{to te ti:TED}{apos cpos:Pos}
theorem La (hu : X.A.units + 64 < cLine) (ho : JE X o to) (he : JE X e te) (hbase : attributeBase o "index" X.env (eval o X.env) = eval o X.env := by rfl)
    (hfew : ((backTo cpos (starEach [e] X.env)).all (fun x => !x.1) && (backToKw cpos (keywordEach [] X.env)).all (fun x => x.1.isSome) && decide ([e].length + ([] : List U9).length + (if ([] : List U9).isEmpty then 0 else 1) < 30)) = true := by rfl)
    (hline : (apos.endLine == cpos.line) = true := by rfl) (hs : starEach [e] X.env = (false, eval e X.env) :: starEach [] X.env := by rfl) (hplain : (backTo cpos (starEach [] X.env)).any (·.1) = false := by rfl) :
    JE X (.Call (.Attribute o "index" apos) [e] [] cpos) (FZ to te) :=
  ⟨(Pv PySem.F.plainAttrs_list PySem.F.slot_list_index PySem.F.type_list_index (QQ hu) ho.to (wQ he.to pa_nil hs) hbase hfew hline hs hplain).imp
    fun σ H Q ⟨gP, h, Qd, rs, rh, t, p⟩ => LE.bind rs rh t fun d v h1 H1 k1 rs1 rh1 r1 ⟨a, e, q⟩ => by
      subst e
      obtain ⟨e1, vs, hH⟩ := (show v = .ref a ∧ ∃ vs, H1 a = some (.lst vs) from r1)
      subst e1
      refine ⟨.inl ⟨rfl, vs, SqL.of hH⟩, ?_⟩
      refine LE.bind rs1 rh1 q fun y u h2 H2 k2 rs2 rh2 r2 ⟨pd, ps, j, z, t1, t2, c1, c2, c3, hj, hz, hit, hno, q2⟩ => ?_
      exact ⟨a, u, y, h2, pd, ps, j, z, rfl, rfl, r2, rh2, t1, t2, c1, c2, c3, hj, hz, hit, hno, p (.int _) _ _ _ (k1.trans k2) rh2 rfl q2⟩⟩
end
def itF {α:Type}(f:α->α)(x:α):Nat->α
 |0=>x
 |k+1=>f (itF f x k)
variable {α:Type}
theorem Ym (f:α->α)(x:α)(a:Nat): ∀b,itF f x (a+b)=itF f (itF f x a) b
 |0=>rfl
 |b+1=>by show f (itF f x (a+b))=f (itF f (itF f x a) b);rw [Ym f x a b]
theorem Wy {α:Type}{f:α->α}{x:α}{a p:Nat}(e:itF f x (a+p)=itF f x a)(r:Nat): ∀q,itF f x (a+p*q+r)=itF f x (a+r)
 |0=>by simp
 |q+1=>by
  have h1:a+p*(q+1)+r=(a+p)+(p*q+r):=by rw [I0];omega
  rw [h1,Ym,e,<-Ym,<-W4,Wy e r q]
theorem DD {α:Type}{f:α->α}{x:α}{a m k:Nat}(e:itF f x m=itF f x a)(ha:a<m)(hk:a<=k):itF f x (a+(k-a)%(m-a))=itF f x k:=by
 have e':itF f x (a+(m-a))=itF f x a:=by rw [show a+(m-a)=m by omega];exact e
 have h:=Wy e' ((k-a)%(m-a)) ((k-a) / (m-a));have h2:=Nat.div_add_mod (k-a) (m-a);rw [show a+(m-a)*((k-a) / (m-a))+(k-a)%(m-a)=k by omega] at h;exact h.symm
theorem Wz [DecidableEq α]: ∀ {l m:List α},l.Nodup->(∀x∈l,x∈m)->l.length<=m.length
 | [],_,_,_=>S1 _
 |a::l,m,nd,h=>by
  have hm:=h a D2;have h2:l.length<=(m.erase a).length:=Wz (C9.mp nd).2 λx hx=>by
   have hxa:x≠a:=λe=>(C9.mp nd).1 (e ▸ hx)
   exact(List.mem_erase_of_ne hxa).mpr (h x (D3 _ hx))
  rw [List.length_erase_of_mem hm] at h2;have:=List.length_pos_of_mem hm;simp only [D5];omega
theorem JZ: ∀a b:List Int,F9 (a.map U1) (b.map U1)=decide (a=b)
 | [],[]=>by simp [F9]
 | [],_::_=>by simp [F9]
 |_::_,[]=>by simp [F9]
 |x::a,y::b=>by
  show ((x==y)&&F9 (a.map .int) (b.map .int))=_;rw [JZ a b,B0];simp
theorem DE (a b:List Int):M8 (ZZ a) (ZZ b)=decide (a=b):=JZ a b
theorem Xn {α:Type}{f:Nat->α}{L:Nat}(h:1<=L):atI ((P2 L).map f) (-1)=some (f (L-1)):=by
 unfold atI ixN;rw [G7,T7,if_neg (by decide),if_pos (by omega)];show ((P2 L).map f)[(-1+(L:Int)).toNat]? =_;rw [show (-1+(L:Int)).toNat=L-1 by omega,D1,E4 (by omega)];rfl
structure Enc {α:Type}[DecidableEq α](e:α->D)(p:α->L0):Prop where
 to: ∀ (h:HD) a,ToP h (e a) (p a)
 lay: ∀a,(p a).canLay0=true
 dp: ∀a,(p a).depth<=60
 eq: ∀a b,M8 (p a) (p b)=decide (a=b)
section
variable {α:Type}[DecidableEq α]{e:α->D}{p:α->L0}
theorem Enc.tos (E:Enc e p)(h:HD): ∀as:List α,ToPs h (as.map e) (as.map p)
 | []=>rfl
 |a::as=>⟨_,_,rfl,E.to h a,E.tos h as⟩
theorem Enc.lays (E:Enc e p): ∀as:List α,B8 (as.map p)=true
 | []=>rfl
 |a::as=>by show (K4 (p a)&&_)=true;rw [E.lays as,E.lay a];rfl
theorem Ni (E:Enc e p){neg:Bool}{x:α}{as:List α}{a:Addr}{h:HD}{Q:KD}(ha:h a=some (as.map e))(q: ∀b:Bool,(b=true↔x∈as)->Q (.bl (neg !=b)) h):inE neg (e x) (.lst a) h Q:=by
 refine⟨p x,as.map p,E.to h x,.inl ⟨a,_,rfl,ha,E.tos h as⟩,E.lay x,E.lays as,E.dp x,q _ ?_⟩;rw [fT,aL];constructor
 ·rintro ⟨y,hy,z⟩;have:y=x:=by simpa [B6,E.eq] using z
  rw [<-this];exact hy
 ·intro hi;exact⟨x,hi,by simp [B6,E.eq]⟩
theorem Nj (E:Enc e p){x:α}{as:List α}{a:Addr}{h:HD}(ha:h a=some (as.map e))(hx:x∈as)(hl:as.length<=100000):
 ∃ (j:Nat) (q:L0) (qs:List L0) (z:L0),as[j]? =some x/\ToP h (.lst a) (.list qs)/\ToP h (e x) q/\q.canLay0=true/\B8 qs=true/\q.depth<=60/\j<1000000/\qs[j]? =some z/\M8 z q=true/\(∀m y,m<j->qs[m]? =some y->M8 y q=false):=by
 have hj:=List.idxOf_lt_length_iff.mpr hx;have ex:as[as.idxOf x]? =some x:=by rw [G1 hj,List.getElem_idxOf hj]
 refine⟨as.idxOf x,p x,as.map p,p x,ex,⟨a,_,rfl,ha,E.tos h as⟩,E.to h x,E.lay x,E.lays as,E.dp x,by omega,?_,by rw [E.eq,decide_eq_true rfl],λm y hm hy=> ?_⟩
 ·rw [D1,ex];rfl
 ·rw [D1] at hy;have hml:m<as.length:=by omega
  rw [G1 hml] at hy;cases hy;rw [E.eq];have:=List.not_of_lt_findIdx (p:=(· ==x)) (xs:=as) hm;simpa using this
end
theorem wo: ∀a b:List (List Int),F9 (a.map ZZ) (b.map ZZ)=decide (a=b)
 | [],[]=>by simp [F9]
 | [],_::_=>by simp [F9]
 |_::_,[]=>by simp [F9]
 |x::a,y::b=>by
  show (M8 (ZZ x) (ZZ y)&&F9 (a.map ZZ) (b.map ZZ))=_;rw [wo a b,DE,B0];simp
theorem Fi:Enc jw NX:=⟨Dz,λT=>by unfold NX;simp only [K4];exact Jd T,λT=>by unfold NX;simp only [X5];have:=JV T;omega,wo⟩
def mk1 (n:Nat)(T:List (List Int))(M:List (List Int)):List (List Int):=ji n (wm n M T)
def zp (n:Nat)(T:List (List Int))(i:Nat):List (List Int):=itF (mk1 n T) (ji n T) i
theorem Xo (n:Nat)(T:List (List Int)): ∀i,∃M,zp n T i=ji n M
 |0=>⟨T,rfl⟩
 |_+1=>⟨_,rfl⟩
theorem ZC (n:Nat)(T:List (List Int))(i:Nat):Sq n 1 (zp n T i):=by
 obtain⟨M,e⟩:=Xo n T i;rw [e];exact Sq.mark M
variable {n:Nat}
theorem vE {e:Nat}{T:List (List Int)}(h:Sq n e T)(hn:n<=8): ∀i,zp n T i=ji n (jX n T (i+1))
 |0=>by
  show ji n T=ji n (wm n (Ub n) T);rw [Ve h hn]
 |i+1=>by
  show ji n (wm n (zp n T i) T)=ji n (wm n (jX n T (i+1)) T);rw [vE h hn i,vD (Sq.mark (n:=n) _) h,vD (h.pow hn (i+1)) h,Wv]
def RP (n:Nat)(T:List (List Int))(k i j:Nat):Prop:=ent (jX n T k) i j≠0
section
variable {n e:Nat}{T:List (List Int)}
theorem jW (h:Sq n e T)(hn:n<=8)(a b:Nat){i j:Nat}(hi:i<n)(hj:j<n):RP n T (a+b) i j↔ ∃k,k<n/\RP n T a i k/\RP n T b k j:=by
 unfold RP;rw [pow_add h hn a b];exact za (h.pow hn a) (h.pow hn b) hi hj
theorem wX (h:Sq n e T)(hn:n<=8){c x:Nat}(hx:x<n)(l:RP n T c x x): ∀q,RP n T (c*(q+1)) x x
 |0=>by rw [O3,Nat.mul_one];exact l
 |q+1=>by
  rw [I0];exact(jW h hn _ _ hx hx).mpr ⟨x,hx,wX h hn hx l q,l⟩
theorem zr {i j:Nat}(hi:i<n)(hj:j<n):RP n T 0 i j↔i=j:=by
 unfold RP;show ent (Ub n) i j≠0↔_;unfold Ub;rw [vc hi hj]
 by_cases z:i=j
 ·simp [z]
 ·simp [z]
theorem Vk (h:Sq n e T)(hn:n<=8): ∀ (m:Nat) {i j:Nat},i<n->j<n->RP n T m i j-> ∃v:Nat->Nat,v 0=i/\v m=j/\(∀t,t<=m->v t<n)/\ ∀t,t<m->RP n T 1 (v t) (v (t+1))
 |0,i,j,hi,hj,r=>by
  have:=(zr hi hj).mp r;exact⟨λ_=>i,rfl,this,λ_ _=>hi,λt ht=>by omega⟩
 |m+1,i,j,hi,hj,r=>by
  obtain⟨k,hk,r1,r2⟩:=(jW h hn m 1 hi hj).mp r;obtain⟨v,v0,vm,vl,vr⟩:=Vk h hn m hi hk r1;refine⟨λt=>if t<=m then v t else j,?_,?_,λt _=> ?_,λt ht=> ?_⟩
  ·simp [v0]
  ·show (if m+1<=m then v (m+1) else j)=j;rw [if_neg (by omega)]
  ·show (if t<=m then v t else j)<n;split
   ·exact vl t (by assumption)
   ·exact hj
  ·show RP n T 1 (if t<=m then v t else j) (if t+1<=m then v (t+1) else j);rw [if_pos (by omega)]
   by_cases z:t+1<=m
   ·rw [if_pos z];exact vr t (by omega)
   ·rw [if_neg z,show t=m by omega,vm];exact r2
theorem zQ (h:Sq n e T)(hn:n<=8){m:Nat}{v:Nat->Nat}(vl: ∀t,t<=m->v t<n)(vr: ∀t,t<m->RP n T 1 (v t) (v (t+1)))(a:Nat): ∀b,a+b<=m->RP n T b (v a) (v (a+b))
 |0,hb=>(zr (vl a (by omega)) (vl a (by omega))).mpr rfl
 |b+1,hb=>(jW h hn b 1 (vl a (by omega)) (vl _ hb)).mpr ⟨v (a+b),vl _ (by omega),zQ h hn vl vr a b (by omega),vr (a+b) (by omega)⟩
theorem GV {n:Nat}{v:Nat->Nat}(hv: ∀t,t<=n->v t<n): ∃a b,a<b/\b<=n/\v a=v b:=by
 by_cases z: ∃a b,a<b/\b<=n/\v a=v b
 ·exact z
 ·exfalso;have nd:((P2 (n+1)).map v).Nodup:=by
   unfold e9;rw [A8];refine List.Pairwise.imp_of_mem (λ{a b} _ hb hab=> ?_) (List.pairwise_lt_range (n:=n+1));intro e;exact z ⟨a,b,hab,by have:=D7.mp hb;omega,e⟩
  have:=Wz nd (m:=P2 n) λx hx=>by
   obtain⟨t,ht,e⟩:=T1.mp hx;rw [<-e];exact D7.mpr (hv t (by have:=D7.mp ht;omega))
  simp at this;omega
theorem DF (h:Sq n e T)(h6:n<=6){m i j:Nat}(hm:n<=m)(hi:i<n)(hj:j<n)(r:RP n T m i j):RP n T (m+60) i j:=by
 have hn:n<=8:=by omega
 obtain⟨v,v0,vm,vl,vr⟩:=Vk h hn m hi hj r;obtain⟨a,b,hab,hbn,eq⟩:=GV (n:=n) (v:=v) λt ht=>vl t (by omega)
 have ha:=vl a (by omega);have p1:RP n T a i (v a):=by have:=zQ h hn vl vr 0 a (by omega);rw [v0,O3] at this;exact this
 have p2:RP n T (b-a) (v a) (v a):=by
  have:=zQ h hn vl vr a (b-a) (by omega);rw [show a+(b-a)=b by omega,<-eq] at this;exact this
 have p3:RP n T (m-a) (v a) j:=by
  have:=zQ h hn vl vr a (m-a) (by omega);rw [show a+(m-a)=m by omega,vm] at this;exact this
 have p4:RP n T 60 (v a) (v a):=by
  have hc:b-a=1\/b-a=2\/b-a=3\/b-a=4\/b-a=5\/b-a=6:=by omega
  rcases hc with c|c|c|c|c|c<;>rw [c] at p2
  ·exact wX h hn ha p2 59
  ·exact wX h hn ha p2 29
  ·exact wX h hn ha p2 19
  ·exact wX h hn ha p2 14
  ·exact wX h hn ha p2 11
  ·exact wX h hn ha p2 9
 have p5:RP n T (60+(m-a)) (v a) j:=(jW h hn _ _ ha hj).mpr ⟨v a,ha,p4,p3⟩;have p6:RP n T (a+(60+(m-a))) i j:=(jW h hn _ _ hi hj).mpr ⟨v a,ha,p1,p5⟩;rw [show a+(60+(m-a))=m+60 by omega] at p6;exact p6
end
theorem wC {f g:Nat->Int}(h: ∀k,k<n->f k<=g k):jt n f<=jt n g:=by
 induction n with
 |zero=>exact bI _
 |succ n ih=>rw [jl,jl];have:=ih λk hk=>h k (by omega);have:=h n (by omega);omega
theorem Za {f g:Nat->Int}(h: ∀k,k<n->f k<=g k)(e:jt n g<=jt n f): ∀k,k<n->f k=g k:=by
 induction n with
 |zero=>intro k hk;omega
 |succ n ih=>
  rw [jl,jl] at e;have a:=wC λk (hk:k<n)=>h k (by omega)
  have b:=h n (by omega);intro k hk
  by_cases z:k=n
  ·subst z;omega
  ·exact ih (λk hk=>h k (by omega)) (by omega) k (by omega)
section
variable {n e:Nat}{T:List (List Int)}
def tot (n:Nat)(T:List (List Int))(k:Nat):Int:=jt n λi=>jt n λj=>ent (ji n (jX n T k)) i j
theorem yP {M:List (List Int)}{i j:Nat}(hi:i<n)(hj:j<n):ent (ji n M) i j=if ent M i j=0 then 0 else 1:=vc hi hj
theorem DG (h:Sq n e T)(h6:n<=6){m:Nat}(hm:n<=m): ∀i j,i<n->j<n->ent (ji n (jX n T m)) i j<=ent (ji n (jX n T (m+60))) i j:=λi j hi hj=>by
 rw [yP hi hj,yP hi hj]
 by_cases z:ent (jX n T m) i j=0
 ·rw [if_pos z];split<;>omega
 ·rw [if_neg z,if_neg (DF h h6 hm hi hj z)];exact bI _
theorem QR (h:Sq n e T)(h6:n<=6){m:Nat}(hm:n<=m):ji n (jX n T m)=ji n (jX n T (m+60))\/tot n T m+1<=tot n T (m+60):=by
 have le:=DG h h6 hm;have a:tot n T m<=tot n T (m+60):=wC λi hi=>wC λj hj=>le i j hi hj
 by_cases z:tot n T (m+60)<=tot n T m
 ·left;refine(Sq.mark (n:=n) _).ext (Sq.mark (n:=n) _) λi j hi hj=> ?_
  have b:=Za (λi hi=>wC λj hj=>le i j hi hj) z i hi;exact Za (λj hj=>le i j hi hj) (by rw [b];exact bI _) j hj
 ·right;omega
theorem WA (k:Nat)(h6:n<=6):0<=tot n T k/\tot n T k<=36:=by
 have r: ∀i,i<n->0<=(jt n λj=>ent (ji n (jX n T k)) i j)/\(jt n λj=>ent (ji n (jX n T k)) i j)<=6:=λi hi=>by
  have a: ∀j,j<n->0<=ent (ji n (jX n T k)) i j/\ent (ji n (jX n T k)) i j<=1:=λj hj=>by
   rw [yP hi hj];split<;>omega
  refine⟨yp λj hj=>(a j hj).1,?_⟩;have:=Zz (f:=λj=>ent (ji n (jX n T k)) i j) λj hj=>(a j hj).2
  omega
 refine⟨yp λi hi=>(r i hi).1,?_⟩;have b:=Zz (f:=λi=>jt n λj=>ent (ji n (jX n T k)) i j) λi hi=>(r i hi).2
 unfold tot;omega
theorem VN (h:Sq n e T)(h6:n<=6): ∃t,t<=36/\ji n (jX n T (n+60*t))=ji n (jX n T (n+60*(t+1))):=by
 by_cases z: ∃t,t<=36/\ji n (jX n T (n+60*t))=ji n (jX n T (n+60*(t+1)))
 ·exact z
 ·exfalso;have g: ∀t:Nat,t<=37->(t:Int)<=tot n T (n+60*t):=by
   intro t
   induction t with
   |zero=>intro _;exact(WA _ h6).1
   |succ t ih=>
    intro ht;have a:=ih (by omega);rcases QR h h6 (m:=n+60*t) (by omega) with b|b
    ·exact(z ⟨t,by omega,by rw [b];rfl⟩).elim
    ·have e1:n+60*t+60=n+60*(t+1):=by omega
     rw [e1] at b;omega
  have a:=g 37 (G5 _);have b:=(WA (T:=T) (n+60*37) h6).2;omega
theorem Xp (h:Sq n e T)(h1:1<=n)(h6:n<=6){L:Nat}(nd:((P2 L).map (zp n T)).Nodup):L<=2225:=by
 by_cases z:L<=2225
 ·exact z
 ·exfalso;obtain⟨t,ht,eq⟩:=VN h h6;have e1:zp n T (n+60*t-1)=zp n T (n+60*t+59):=by
   rw [vE h (by omega),vE h (by omega),show n+60*t-1+1=n+60*t by omega,show n+60*t+59+1=n+60*(t+1) by omega];exact eq
  have inj:=nd;unfold e9 at inj;rw [A8] at inj;have h2:=F5.mp inj (n+60*t-1) (n+60*t+59) (by simp;omega) (by simp;omega) (by omega);simp only [Z4] at h2;exact h2 e1
structure Course (n:Nat)(T:List (List Int))(L J:Nat):Prop where
 nd:((P2 L).map (zp n T)).Nodup
 lt:J<L
 eq:zp n T L=zp n T J
end
theorem call_divmodB {X:Cx}:CallR X (.builtin "divmod") (λxs H Q=> ∃i j,xs= [.int i,.int j]/\(0<j/\j<2^200)/\ ∀p,H p=none->Q (.ref p) (upd H p (.tup [.int (i / j),.int (i%j)]))):=by
 intro pins s σ H xs us Q I r h;obtain⟨i,j,rfl,⟨h1,h2⟩,q⟩:=h;obtain⟨u,w',rfl,⟨t,rfl⟩,⟨t',rfl⟩⟩:=Pp r;refine divmod_int (by omega) ?_ (.inl (PyProof.noPylong_of_log2 ?_))
 ·rw [X8 i (by omega),X9 i (by omega)];have hn:H s.heap.objs.size=none:=I.hok.fresh (G5 _);refine⟨.ref s.heap.objs.size,_,?_,rfl,q _ hn⟩;refine I.laid (λb o e=>P1 _ e) (G5 _) ⟨by simp only [D5,T3];rw [f7];decide,[.int (i / j) s.toks,.int (i%j) (s.toks+1)],.cons ⟨_,rfl⟩ (.cons ⟨_,rfl⟩ .nil),?_⟩;exact⟨_,S4 s.heap rfl,rfl,rfl,0,rfl⟩
 ·have h3:j.natAbs<2^200:=Jb (by omega) h2;have h4:=(Nat.log2_lt (by omega:j.natAbs≠0)).mpr h3;omega
def DH:RDn:=λds h Q=> ∃i j:Int,ds= [.int i,.int j]/\(0<j/\j<2^200)/\Q (.tup [.int (i / j),.int (i%j)]) h
theorem VO {X:Cx}:wT X (.builtin "divmod") DH:=call_divmodB.imp λxs H Q ⟨ds,h,Qd,r,rh,⟨i,j,e,c,q⟩,p⟩=>by
 subst e;obtain⟨v,w,e,r1,r2⟩:=ym r;cases (show v= .int i from r1);cases (show w= .int j from r2);exact⟨i,j,e,c,λa ha=>p (.tup [.int (i / j),.int (i%j)]) _ _ _ (.new ha) (rh.new ha) ⟨a,_,rfl,jh,.cons rfl (.cons rfl .nil)⟩ q⟩
theorem Nk {T:List (List Int)}{L J:Nat}(c:Course n T L J){i:Nat}(hi:J<=i):zp n T (J+(i-J)%(L-J))=zp n T i:=DD c.eq c.lt hi
theorem VP {prog:R5}{w:T4}{A:T9}(hh:A.handled=none)(it t:Addr)(items:Array G0)(n:Nat)(hn:items.size<=n):
 Draws prog w A it [it,t] n (λ_ _=>False) (λi h=>i=n/\h.IsListIter it t n/\h.IsList t items) where
 live:=λ_ _ st=>let ⟨o,ho,_⟩:=st.2.1;⟨o,ho⟩
 frame:=λ_ _ _ st hk=>⟨st.1,st.2.1.at λo e=>hk it (by simp) o e,st.2.2.at λo e=>hk t (by simp) o e⟩
 item:=λi s Q E hi st hQ=>absurd st.1 (S0 hi)
 done:=λs Q E st hE=>wpAny_nextOf_list_end hh st.2.1 st.2.2 (Array.getElem?_eq_none hn) hE
def Ck (K:PySem.W.Frag)(a:Addr):It:=
 ⟨λi H=> ∃xs x,SqL K H a xs/\xs[i]? =some x,λi H x H'=> ∃p v,H p=none/\(∀xs,SqL K H a xs->xs[i]? =some v)/\x= .ref p/\H'=upd H p (.tup [.int i,v]),λi H=> ∃xs,SqL K H a xs/\xs.length<=i⟩
theorem VQ {P:R5}{w:T4}{K:PySem.W.Frag}{es:List Expr}{k:Nat}{pos:Pos}(a it e:Addr)(hei:e≠it)(hae:a≠e)(hai:a≠it):Turn P w K (.Tuple es k pos) (Ck K a) [e,it] e (λi h=>(∃old,IsEnum h e it i old)/\h.IsListIter it a i) where
 mem:=by simp
 obj:=λi h st b hb=>by
  rcases S3.mp hb with z|z
  ·subst z;obtain⟨old,q⟩:=st.1;exact⟨_,q,λv z=>by cases z⟩
  ·have z:=G9.mp z;subst z;obtain⟨o,q,c,d⟩:=st.2;exact⟨o,q,λv z=>by rw [d] at z;cases z⟩
 keep:=λi h h' st k=>⟨let ⟨old,q⟩:=st.1;⟨old,k e (by simp) _ q⟩,st.2.at λo q=>k it (by simp) o q⟩
 item:=by
  intro X hP hw hK hc i pins s σ H E I hf st hg;subst hP hw hK;obtain⟨xs,x,hq,hx⟩:=hg;obtain⟨its,rv,p,hz⟩:=I.list hq;obtain⟨u,hu,ru⟩:=rv.get hx;have hi:i<its.toArray.size:=by have:=(P4.mp hu).1;simpa using this
  obtain⟨old,he⟩:=st.1;have helt:e<s.heap.objs.size:=P8 he;refine wpAny_pyNext_enum_itemD (Draws.list (prog:=X.prog) (w:=X.w) (A:=X.A.in1) (I.ok.hd hc) it a hai its.toArray) he ⟨st.2,p.isList⟩ hi hei (by simp [hei,A1 hae]) λx' h' tk hx' ho hs' hT hsz hk=> ?_
  have ex:x'=u:=N3 (hx'.symm.trans (show its.toArray[i]? =some u by simpa using hu));subst ex;refine⟨_,rfl,wpAny_letOwnedTupleGo_enum ho λh2 he2 hs2=> ?_⟩;have hn:H s.heap.objs.size=none:=I.hok.fresh (G5 _);have hT2:h2.get? s.heap.objs.size=some {cls:= .type "tuple",data:= .seq #[.int i tk,x']}:=(hs2.2 _ (E8 helt)).trans hT;refine⟨.ref s.heap.objs.size,upd H s.heap.objs.size (.tup [.int i,x]),?_,rfl,⟨_,x,hn,λys hy=>by rw [I.list_inj hy hq];exact hx,rfl,rfl⟩,⟨⟨x',by simpa using he2⟩,hs'.1.at λo y=>(hs2.2 it (A1 hei)).trans y⟩,λb hb=> ?_⟩
  ·refine I.turnLaid (h':=h2) (t':=tk+1) (ch:= [e,it]) (λb u hb q=> ?_) hf (G5 _) ⟨by show 2<=sizeLine;decide,[.int i tk,x'],.cons ⟨tk,rfl⟩ (.cons ru .nil),⟨_,hT2,rfl,rfl,_,rfl⟩⟩;have b1:b≠e:=λz=>hb (by simp [z])
   have b2:b≠it:=λz=>hb (by simp [z])
   exact(hs2.2 b b1).trans (hk b u b1 b2 q)
  ·have f:=(hf b hb).1;have:b≠s.heap.objs.size:=λz=>by
    rcases S3.mp hb with w|w
    ·rw [<-w,z] at helt;exact absurd helt (M7 _)
    ·have w:=G9.mp w;obtain⟨o,ho',_⟩:=st.2;have:=P8 ho';rw [<-w,z] at this;exact absurd this (M7 _)
   rw [jf this];exact f
 done:=by
  intro X hP hw hK hc i pins s σ H E I hf st hg;subst hP hw hK;obtain⟨xs,hq,hx⟩:=hg;obtain⟨its,rv,p,hz⟩:=I.list hq;obtain⟨old,he⟩:=st.1;have hl:=rv.length;refine wpAny_pyNext_enum_endD (VP (prog:=X.prog) (w:=X.w) (A:=X.A.in1) (I.ok.hd hc) it a its.toArray i (by simp;omega)) he ⟨rfl,st.2,p.isList⟩ λh' hx'=>⟨rfl,I.turnL (t':=s.toks) (ch:= [it]) (λb o hb q=>hx' b o (λz=>hb (by simp [z])) q) λb hb=>hf b (D3 _ hb)⟩
 self:=λ_ _ _ _ _ st h=>let ⟨_,q⟩:=st.1;cO q h
section
variable {X:Cx}
def Nl (K:PySem.W.Frag)(ta:TA):TI:=λσ H R=>ta σ H λvs H1=> ∃a,vs= [.ref a]/\(∃xs,SqL K H1 a xs)/\R (Ck K a) H1
theorem QU {es:List Expr}{k:Nat}{tp:Pos}{a:Expr}{ta:TA}{p pos:Pos}(hg:Gl X "enumerate")(hm:X.mg "enumerate" =none)(ha:PA X [a] ta)(hs:starEach [a] X.env= [(false,eval a X.env)]:=by rfl):
 PI X (.Tuple es k tp) (.Call (.Name "enumerate" p) [a] [] pos) (Nl X.K ta):=by
 intro pins s σ H R I h;refine Call_ (JF I hg hm (show bootBuiltins "enumerate" =some (.type "enumerate") by decide +kernel) (O0 (thn (ha pos pins s σ H _ I h) λus s1 ⟨vs,H1,I1,r1,q1⟩=> ?_) hs rfl));obtain⟨a,e,⟨xs,hq⟩,q⟩:=q1;subst e;cases r1 with
 |cons r rr=>
  cases rr;cases r;obtain⟨its,rv,p,hz⟩:=I1.list hq;have hlt:a<s1.heap.objs.size:=by obtain⟨o,ho,_⟩:=p.isList;exact P8 ho
  refine call_enumerate_list p.isList λh' he hit _ hk=> ?_
  refine cO he ?_;refine⟨s1.heap.objs.size+1,[s1.heap.objs.size+1,s1.heap.objs.size],_,_,H1,rfl,I1.kept (t':=s1.toks) hk,VQ a s1.heap.objs.size (s1.heap.objs.size+1) (E8 (O6 _)) (S0 (V4 hlt)) (S0 hlt),⟨⟨_,he⟩,hit⟩,λb hb=> ?_,q⟩;have hb':s1.heap.objs.size<=b:=by
   rcases S3.mp hb with w|w
   ·rw [w];exact Nat.le_succ _
   ·rw [G9.mp w];exact G5 _
  exact I1.fpOk hb' (I1.hok.fresh hb')
end
def iEL (ta:TAD):TID:=λσ h R=>ta σ h λxs h1=> ∃a,xs= [.lst a]/\R (λh=>(h a).map Xi) h1
section
variable {K:PySem.W.Frag}
theorem VR (H:Hp)(a:Addr):Re K H (λh=>(h a).map Xi) (Ck K a):=λH' h' k rh ds' e i=>by
 have e:(h' a).map Xi=some ds':=e;cases hd:h' a with
 |none=>rw [hd] at e;cases e
 |some ds=>
  rw [hd] at e;cases e;obtain⟨vs,hv',r'⟩:=rh a ds hd;refine⟨λd hd=> ?_,λhl=>⟨vs,SqL.of hv',by rw [<-r'.length,<-wW];exact hl⟩⟩;obtain⟨x,hx,ed⟩:=Vi hd;subst ed;obtain⟨v,e1,e2⟩:=r'.get hx;refine⟨⟨vs,v,SqL.of hv',e1⟩,λx' H'' ⟨p,v',hp,hx',ex,eH⟩=> ?_⟩;subst ex eH;have ev:v'=v:=by have:=hx' vs (SqL.of hv');rw [e1] at this;exact(N3 this).symm
  subst ev;have k2:Kept H' (upd H' p (.tup [.int i,v'])):= .new hp;exact⟨k2,RelH.new rh hp,p,[.int i,v'],rfl,jh,_,_,rfl,rfl,_,_,rfl,e2.mono k2,rfl⟩
theorem QV {ta:TAD}: ∀σ H R,LI K (iEL ta) σ H R->Nl K (LA K ta) σ H R:=λσ H R ⟨gP,h,Rd,rs,rh,q,p⟩=>
 LA.bind rs rh q λds vs h1 H1 k1 rs1 rh1 r1 ⟨a,e,q1⟩=>by
  subst e;obtain⟨v,e,r2⟩:=jx r1;obtain⟨e',ws,hv⟩:=(show v= .ref a/\ ∃vs,H1 a=some (.lst vs) from r2);subst e';exact⟨a,e,⟨ws,SqL.of hv⟩,p _ _ _ _ k1 rh1 (VR H1 a) q1⟩
end
section
variable {X:Cx}
theorem QX {es:List Expr}{k:Nat}{tp:Pos}{a:Expr}{ta:TAD}{p pos:Pos}(hg:Gl X "enumerate")(hm:X.mg "enumerate" =none)(ha:JA X [a] ta)(hs:starEach [a] X.env= [(false,eval a X.env)]:=by rfl):
 JI X (.Tuple es k tp) (.Call (.Name "enumerate" p) [a] [] pos) (iEL ta):=⟨(QU hg hm ha.to hs).imp QV⟩
end
section
variable {n e f:Nat}{M T U:List (List Int)}
theorem Xq (h:Sq n e T)(g:Sq n f U):ji n (wm n T (ji n U))=ji n (wm n T U):=by
 rw [vD h (Sq.mark (n:=n) U),Wv,<-vD h g]
end
def ZD (d:D)(a b:Int):Bool:=match d with
 | .int x=>decide (a<=x)&&decide (x<=b)
 |_=>false
end L2
set_option maxRecDepth 35000
namespace L2
open PySem PySem.Spec PyProof.Rows PySem.SeqAt
def Cl (T:List (List Int))(n p:Nat):List Nat:=(P2 n).filter λj=>decide (ent T p j>0)
def cnt (T:List (List Int))(n o:Nat):Nat->Nat->Int
 |0,p=>if p=o then 1 else 0
 |t+1,p=>((Cl T n p).map (cnt T n o t)).sum
section
variable {T:List (List Int)}{n o:Nat}
def Lb (T:List (List Int))(n o t p:Nat):Nat:=(Cl T n p).findIdx λj=>decide (cnt T n o t j>0)
def nxt (T:List (List Int))(n o t p:Nat):Nat:=(Cl T n p).getD (Lb T n o t p) 0
end
end L2
namespace L2
open PySem PySem.Spec PyProof.Rows
theorem ObjOk.there {P:R5}{w:T4}{H:Hp}{h:Heap}{a:Addr}{o:HO}(x:ObjOk P w H h a o): ∃u,h.get? a=some u:=by
 cases o with
 |lst xs=>obtain⟨_,_,_,_,e⟩:=x;exact⟨_,e⟩
 |tup xs=>obtain⟨_,_,_,p⟩:=x;obtain⟨o,e,_⟩:=p;exact⟨_,e⟩
 |dK kvs=>obtain⟨_,_,_,_,o,_,_,e,_⟩:=x;exact⟨_,e⟩
 |dT kvs=>obtain⟨_,_,_,_,o,_,_,e,_⟩:=x;exact⟨_,e⟩
 |set S n=>obtain⟨o,_,_,_,e,_⟩:=x;exact⟨_,e⟩
 |ins C dx fs=>obtain⟨_,_,_,e,_⟩:=x;exact⟨_,e⟩
 |own y=>obtain⟨_,e⟩:=x;exact⟨_,e⟩
 |xd fs=>obtain⟨_,⟨_,_,_,e,_⟩,_⟩:=x;exact⟨_,e⟩
 |rng lo hi=>obtain⟨_,_,_,e⟩:=x;exact⟨_,e⟩
 |frz ob u=>obtain⟨e,_⟩:=x;exact⟨_,e⟩
 |tbl ps=>exact⟨_,(show h.get? a=some _ from x)⟩
 |met f y=>exact⟨_,(show h.get? a=some _ from x)⟩
 |ext φ=>obtain⟨_,⟨_,e⟩,_⟩:=x;exact⟨_,e⟩
end L2
namespace L2
open PySem PySem.Spec PyProof.Rows PySem.W
abbrev TXD:=SD->HD->(Str->HD->Prop)->Prop
abbrev RDx:=List D->HD->(Str->HD->Prop)->Prop
end L2
namespace L2
open PySem PySem.Spec PyProof.Rows PySem.SeqAt PySem.W
theorem QY {X:Cx}(hu:X.A.units+64<cLine):MtM X "list.count" (λx vs H Q=> ∃ (a:Addr) (y:V) (dy:D) (h:HD) (p:L0) (ps:List L0),x= .ref a/\vs= [y]/\RelD X.K H dy y/\RelH X.K h H/\ToP h (.lst a) (.list ps)/\ToP h dy p/\p.canLay0=true/\B8 ps=true/\p.depth<=60/\Q (.int ((ps.countP λz=>M8 z p:Nat):Int)) H):=by
 intro pins s σ H x vs v us Q I rx rv h;obtain⟨a,y,dy,h,p,ps,rfl,rfl,rd,rh,t1,t2,c1,c2,c3,q⟩:=h;cases rx;obtain⟨u,rfl,ru⟩:=vJ rv;obtain⟨a',ds,ea,ha,ts⟩:=(show ∃a' ds,D.lst a= .lst a'/\h a'=some ds/\ToPs h ds ps from t1);cases ea;obtain⟨ws,hH,_⟩:=rh a ds ha;obtain⟨as,r1⟩:=zd I rh t1 (show RelD X.K H (.lst a) (.ref a) from ⟨rfl,ws,hH⟩) (show RelV (.ref a) (.ref a) from rfl);obtain⟨bs,r2⟩:=zd I rh t2 rd ru;cases r1 with
 |list h1 h2 h3 h4=>
  rename_i o its n cs;have em:=readsAll_map ps _ _ c2 h4;have hu':X.A.units+1+min (M9 ps) p.depth<cLine:=by have:=O4 (M9 ps) p.depth;omega
  obtain⟨oc,od,odt,osl⟩:=o;simp only at h2 h3;subst h2 h3;refine Y4 PySem.F.slot_list_count ⟨_,h1,rfl⟩ PySem.F.entry_list_count (PySem.F.args_list_count_2 _ _) (list_countAt a its n od osl u (λy=>M8 (readOf s.heap y) p)) ⟨h1,items_eqAt h4 r2 c2 c1 hu',?_⟩;have e:its.toList.countP (λy=>M8 (readOf s.heap y) p)=ps.countP λz=>M8 z p:=by
   rw [<-em,dS];rfl
  exact⟨.int _,H,I.tok _,⟨_,by rw [e]⟩,q⟩
def Lc (to te:TED):TED:=λσ h Q=>to σ h λx h1=> ∃a,x= .lst a/\te σ h1 λy h2=> ∃ (p:L0) (ps:List L0),ToP h2 (.lst a) (.list ps)/\ToP h2 y p/\p.canLay0=true/\B8 ps=true/\p.depth<=60/\Q (.int ((ps.countP λz=>M8 z p:Nat):Int)) h2
section
variable {X:Cx}{o e i:Expr}{to te ti:TED}{apos cpos:Pos}
theorem Ld (hu : X.A.units + 64 < cLine) (ho : JE X o to) (he : JE X e te) (hbase : attributeBase o "count" X.env (eval o X.env) = eval o X.env := by rfl)
    (hfew : ((backTo cpos (starEach [e] X.env)).all (fun x => !x.1) && (backToKw cpos (keywordEach [] X.env)).all (fun x => x.1.isSome) && decide ([e].length + ([] : List U9).length + (if ([] : List U9).isEmpty then 0 else 1) < 30)) = true := by rfl)
    (hline : (apos.endLine == cpos.line) = true := by rfl) (hs : starEach [e] X.env = (false, eval e X.env) :: starEach [] X.env := by rfl) (hplain : (backTo cpos (starEach [] X.env)).any (·.1) = false := by rfl) :
    JE X (.Call (.Attribute o "count" apos) [e] [] cpos) (Lc to te) :=
  ⟨(Pv PySem.F.plainAttrs_list PySem.F.slot_list_count PySem.F.type_list_count (QY hu) ho.to (wQ he.to pa_nil hs) hbase hfew hline hs hplain).imp
    fun σ H Q ⟨gP, h, Qd, rs, rh, t, p⟩ => LE.bind rs rh t fun d v h1 H1 k1 rs1 rh1 r1 ⟨a, e, q⟩ => by
      subst e
      obtain ⟨e1, vs, hH⟩ := (show v = .ref a ∧ ∃ vs, H1 a = some (.lst vs) from r1)
      subst e1
      refine ⟨.inl ⟨rfl, vs, SqL.of hH⟩, ?_⟩
      refine LE.bind rs1 rh1 q fun y u h2 H2 k2 rs2 rh2 r2 ⟨pd, ps, t1, t2, c1, c2, c3, q2⟩ => ?_
      exact ⟨a, u, y, h2, pd, ps, rfl, rfl, r2, rh2, t1, t2, c1, c2, c3, p (.int _) _ _ _ (k1.trans k2) rh2 rfl q2⟩⟩
end
end L2
namespace L2
open PySem PySem.Spec PyProof.Rows PySem.W
abbrev N1:List Str:= ["_law_call","_law_found","_law_e","_law_word"]
end L2
namespace L2
open PySem PySem.Spec PyProof.Rows PySem.SeqAt
theorem yu {α:Type}{p q:α->Bool}: ∀ {l:List α},(∀x∈l,p x=true->q x=true)->(∃x,x∈l/\p x=false/\q x=true)->l.countP p+1<=l.countP q
 | [],_,⟨_,hx,_⟩=>by cases hx
 |a::l,hm,⟨x,hx,h1,h2⟩=>by
  have hm': ∀x∈l,p x=true->q x=true:=λy hy=>hm y (D3 _ hy)
  have le:l.countP p<=l.countP q:=List.countP_mono_left hm';rw [dA,dA]
  by_cases z:x=a
  ·subst z;rw [h1,h2];simp;omega
  ·have hx':x∈l:=(S3.mp hx).resolve_left z;have:=yu hm' ⟨x,hx',h1,h2⟩
   by_cases w:p a=true
   ·rw [w,hm a D2 w];simp;omega
   ·rw [show p a=false by simpa using w];simp;omega
theorem DI {n:Nat}(P:Nat->Nat->Bool)(up: ∀m i,i<n->P m i=true->P (m+1) i=true)(st: ∀m,(∀i,i<n->P (m+1) i=P m i)-> ∀i,i<n->P (m+2) i=P (m+1) i)
 (M:Nat)(hM: ∀m,M<=m-> ∀i,i<n->P m i=true)(ne: ∃i,i<n/\P 0 i=true): ∀i,i<n->P (n-1) i=true:=by
 have key: ∀m,(∀i,i<n->P m i=true)\/m+1<=(P2 n).countP (P m):=by
  intro m
  induction m with
  |zero=>
   obtain⟨i,hi,e⟩:=ne;exact .inr (bR.mpr ⟨i,D7.mpr hi,e⟩)
  |succ m ih=>
   rcases ih with ih|ih
   ·exact .inl λi hi=>up m i hi (ih i hi)
   ·by_cases eq: ∀i,i<n->P (m+1) i=P m i
    ·left;have go: ∀t i,i<n->P (m+t+1) i=P (m+t) i:=by
      intro t
      induction t with
      |zero=>exact eq
      |succ t iht=>exact st (m+t) iht
     have all: ∀t i,i<n->P (m+t) i=P m i:=by
      intro t
      induction t with
      |zero=>intro i _;rfl
      |succ t iht=>intro i hi;rw [<-iht i hi];exact go t i hi
     intro i hi;rw [eq i hi,<-all M i hi];exact hM (m+M) (by omega) i hi
    ·right;have ⟨i,hi⟩: ∃i,i<n/\P (m+1) i≠P m i:=F6 λw=>eq λi hi=>F6 λw2=>w ⟨i,hi,w2⟩
     have hf:P m i=false:=by
      cases hp:P m i with
      |false=>rfl
      |true=>exact absurd ((up m i hi.1 hp).trans hp.symm) hi.2
     have ht:P (m+1) i=true:=by
      cases hp:P (m+1) i with
      |true=>rfl
      |false=>exact absurd (hp.trans hf.symm) hi.2
     have:=yu (l:=P2 n) (p:=P m) (q:=P (m+1)) (λx hx=>up m x (D7.mp hx)) ⟨i,D7.mpr hi.1,hf,ht⟩;omega
 intro i hi;rcases key (n-1) with h|h
 ·exact h i hi
 ·have hle:(P2 n).countP (P (n-1))<=(P2 n).length:=bC;rw [T7] at hle;have:(P2 n).countP (P (n-1))=(P2 n).length:=by rw [T7];omega
  exact bD.mp this i (D7.mpr hi)
section
variable {n e:Nat}{T:List (List Int)}
instance (k i j:Nat):Decidable (RP n T k i j):=inferInstanceAs (Decidable (ent (jX n T k) i j≠0))
theorem Je (h:Sq n e T)(hn:n<=8)(n2:2<=n){K:Nat}(f: ∀i j,i<n->j<n->RP n T K i j)(f1: ∀i j,i<n->j<n->RP n T (K+1) i j): ∃s c,1<=s/\s<=n-1/\c<n/\RP n T s c c:=by
 refine F6 λz=> ?_
 have drop: ∀m i j,i<n->j<n->n<=m->RP n T m i j->RP n T (m-n) i j:=by
  intro m i j hi hj hm r;obtain⟨v,v0,vm,vl,vr⟩:=Vk h hn m hi hj r;obtain⟨a,b,hab,hbn,eq⟩:=GV (n:=n) (v:=v) λt ht=>vl t (by omega)
  have ha:=vl a (by omega);have p2:RP n T (b-a) (v a) (v a):=by
   have:=zQ h hn vl vr a (b-a) (by omega);rw [show a+(b-a)=b by omega,<-eq] at this;exact this
  have hba:b-a=n:=by
   by_cases w:b-a<=n-1
   ·exact absurd ⟨b-a,v a,by omega,w,ha,p2⟩ z
   ·omega
  have a0:a=0:=by omega
  have bn:b=n:=by omega
  subst a0;subst bn;have p3:=zQ h hn vl vr b (m-b) (by omega);rw [show b+(m-b)=m by omega,vm,<-eq,v0] at p3;exact p3
 have h0:0<n:=by omega
 have mod0: ∀m,RP n T m 0 0->m%n=0:=by
  intro m
  induction m using a8 with
  |_ m ih=>
   intro r
   by_cases w:m<n
   ·by_cases y:m=0
    ·subst y;exact Nat.zero_mod n
    ·exact absurd ⟨m,0,by omega,by omega,h0,r⟩ z
   ·rw [Nat.mod_eq_sub_mod (by omega)];exact ih (m-n) (by omega) (drop m 0 0 h0 h0 (by omega) r)
 have a:=aV (mod0 K (f 0 0 h0 h0));have b:=aV (mod0 (K+1) (f1 0 0 h0 h0));have c:=(Nat.dvd_add_right a).mp b;have:=Nat.le_of_dvd (by decide) c;omega
theorem Le (h:Sq n e T)(n1:1<=n)(h6:n<=6){K:Nat}(hK:1<=K)(f:jy (jX n T K)=true): ∃k,1<=k/\k<=30/\jy (jX n T k)=true:=by
 have hn:n<=8:=by omega
 have all: ∀m,K<=m-> ∀i j,i<n->j<n->RP n T m i j:=λm hm=>by
  have:=Yl h hn (a:=K) (by omega) f (m-K);rw [show K+(m-K)=m by omega] at this;exact(yr (h.pow hn m)).mp this
 have pre: ∀j,j<n-> ∃k,k<n/\RP n T 1 k j:=λj hj=>by
  have:=all (K-1+1) (by omega) 0 j (by omega) hj;obtain⟨k,hk,_,r⟩:=(jW h hn (K-1) 1 (by omega) hj).mp this;exact⟨k,hk,r⟩
 have keep: ∀i m t,i<n->(∀j,j<n->RP n T m i j)-> ∀j,j<n->RP n T (m+t) i j:=by
  intro i m t hi r
  induction t with
  |zero=>exact r
  |succ t ih=>intro j hj;obtain⟨k,hk,r1⟩:=pre j hj;exact(jW h hn (m+t) 1 hi hj).mpr ⟨k,hk,ih k hk,r1⟩
 by_cases n2:2<=n
 ·obtain⟨s,c,s1,sn,hc,rc⟩:=Je h hn n2 (all K (G5 _)) (all (K+1) (by omega));have e1: ∀m,s*(m+1)=s+s*m:=λm=>by rw [I0];omega
  have A:=DI (n:=n) (λm j=>decide (RP n T (s*m) c j)) (λm j hj r=>decide_eq_true (by rw [e1];exact(jW h hn s (s*m) hc hj).mpr ⟨c,hc,rc,of_decide_eq_true r⟩))
   (λm eq j hj=>by
    have key: ∀m,RP n T (s*(m+1)) c j↔ ∃k,k<n/\RP n T (s*m) c k/\RP n T s k j:=λm=>by rw [I0];exact jW h hn (s*m) s hc hj
    have eq2: ∀k,k<n->(RP n T (s*(m+1)) c k↔RP n T (s*m) c k):=λk hk=>by simpa using eq k hk
    have:RP n T (s*(m+1+1)) c j↔RP n T (s*(m+1)) c j:=by
     rw [key (m+1),key m];exact⟨λ⟨k,hk,a,b⟩=>⟨k,hk,(eq2 k hk).mp a,b⟩,λ⟨k,hk,a,b⟩=>⟨k,hk,(eq2 k hk).mpr a,b⟩⟩
    simpa using this) K (λm hm j hj=>decide_eq_true (all _ (D9 hm (aW m s1)) c j hc hj)) ⟨c,hc,decide_eq_true (by rw [fU];exact(zr hc hc).mpr rfl)⟩
  have any_iff: ∀m i,((P2 (m+1)).any (λt=>decide (RP n T t i c))=true)↔ ∃t,t<=m/\RP n T t i c:=λm i=>by
   rw [aL];exact⟨λ⟨t,ht,r⟩=>⟨t,by have:=D7.mp ht;omega,of_decide_eq_true r⟩,λ⟨t,ht,r⟩=>⟨t,D7.mpr (by omega),decide_eq_true r⟩⟩
  have stp: ∀m i,i<n->((∃t,t<=m+1/\RP n T t i c)↔(i=c\/ ∃k,k<n/\RP n T 1 i k/\ ∃t,t<=m/\RP n T t k c)):=λm i hi=>by
   constructor
   ·rintro ⟨t,ht,r⟩;cases t with
    |zero=>exact .inl ((zr hi hc).mp r)
    |succ t=>
     rw [aU] at r;obtain⟨k,hk,a,b⟩:=(jW h hn 1 t hi hc).mp r;exact .inr ⟨k,hk,a,t,by omega,b⟩
   ·rintro (r|⟨k,hk,a,t,ht,b⟩)
    ·exact⟨0,by omega,(zr hi hc).mpr r⟩
    ·exact⟨1+t,by omega,(jW h hn 1 t hi hc).mpr ⟨k,hk,a,b⟩⟩
  have beq: ∀ {a b:Bool},(a=true↔b=true)->a=b:=λ{a b} h=>by cases a<;>cases b<;>simp_all
  have B:=DI (n:=n) (λm i=>(P2 (m+1)).any (λt=>decide (RP n T t i c))) (λm i hi r=>by
   obtain⟨t,ht,r⟩:=(any_iff m i).mp r;exact(any_iff (m+1) i).mpr ⟨t,by omega,r⟩)
   (λm eq i hi=>beq (by
    have eq2: ∀k,k<n->((∃t,t<=m+1/\RP n T t k c)↔ ∃t,t<=m/\RP n T t k c):=λk hk=>by
     rw [<-any_iff (m+1) k,<-any_iff m k];have:=eq k hk;rw [this]
    rw [any_iff (m+2) i,any_iff (m+1) i,stp (m+1) i hi,stp m i hi];exact⟨λw=>w.elim .inl λ⟨k,hk,a,b⟩=> .inr ⟨k,hk,a,(eq2 k hk).mp b⟩,λw=>w.elim .inl λ⟨k,hk,a,b⟩=> .inr ⟨k,hk,a,(eq2 k hk).mpr b⟩⟩))
   K (λm hm i hi=>(any_iff m i).mpr ⟨K,hm,all K (G5 _) i c hi hc⟩) ⟨c,hc,(any_iff 0 c).mpr ⟨0,G5 _,(zr hc hc).mpr rfl⟩⟩
  refine⟨(n-1)+s*(n-1),by omega,?_,(yr (h.pow hn _)).mpr λi j hi hj=> ?_⟩
  ·have a:=Z0 (show s<=5 by omega) (show n-1<=5 by omega);omega
  ·obtain⟨t,ht,r⟩:=(any_iff (n-1) i).mp (B i hi);have row: ∀j,j<n->RP n T (t+s*(n-1)) i j:=λj hj=>(jW h hn t (s*(n-1)) hi hj).mpr ⟨c,hc,r,of_decide_eq_true (A j hj)⟩
   have:=keep i (t+s*(n-1)) (n-1-t) hi row j hj;rw [show t+s*(n-1)+(n-1-t)=n-1+s*(n-1) by omega] at this;exact this
 ·have hn1:n=1:=by omega
  refine⟨1,G5 _,by decide,(yr (h.pow hn 1)).mpr λi j hi hj=> ?_⟩;obtain⟨k,hk,r⟩:=pre j hj;rw [show i=k by omega];exact r
end
section
variable {n e:Nat}{T:List (List Int)}
theorem Yn (h:Sq n e T)(hn:n<=8){a b i j k:Nat}(hi:i<n)(hk:k<n)(hj:j<n)(x:RP n T a i k)(y:RP n T b k j):RP n T (a+b) i j:=(jW h hn a b hi hj).mpr ⟨k,hk,x,y⟩
theorem Yo (h:Sq n e T)(hn:n<=8){k:Nat}:jy (jX n T k)=true↔ ∀i j,i<n->j<n->RP n T k i j:=yr (h.pow hn k)
end
theorem Nm {n:Nat}(P:Nat->Nat->Bool)(up: ∀m i,i<n->P m i=true->P (m+1) i=true)(st: ∀m,(∀i,i<n->P (m+1) i=P m i)-> ∀i,i<n->P (m+2) i=P (m+1) i)
 (M:Nat)(hM: ∀m,M<=m-> ∀i,i<n->P m i=true){s:Nat}(c0:s<=(P2 n).countP (P 0)): ∀i,i<n->P (n-s) i=true:=by
 have key: ∀m,(∀i,i<n->P m i=true)\/m+s<=(P2 n).countP (P m):=by
  intro m
  induction m with
  |zero=>exact .inr (by omega)
  |succ m ih=>
   rcases ih with ih|ih
   ·exact .inl λi hi=>up m i hi (ih i hi)
   ·by_cases eq: ∀i,i<n->P (m+1) i=P m i
    ·left;have go: ∀t i,i<n->P (m+t+1) i=P (m+t) i:=by
      intro t
      induction t with
      |zero=>exact eq
      |succ t iht=>exact st (m+t) iht
     have all: ∀t i,i<n->P (m+t) i=P m i:=by
      intro t
      induction t with
      |zero=>intro i _;rfl
      |succ t iht=>intro i hi;rw [<-iht i hi];exact go t i hi
     intro i hi;rw [eq i hi,<-all M i hi];exact hM (m+M) (by omega) i hi
    ·right;have ⟨i,hi⟩: ∃i,i<n/\P (m+1) i≠P m i:=F6 λw=>eq λi hi=>F6 λw2=>w ⟨i,hi,w2⟩
     have hf:P m i=false:=by
      cases hp:P m i with
      |false=>rfl
      |true=>exact absurd ((up m i hi.1 hp).trans hp.symm) hi.2
     have ht:P (m+1) i=true:=by
      cases hp:P (m+1) i with
      |true=>rfl
      |false=>exact absurd (hp.trans hf.symm) hi.2
     have:=yu (l:=P2 n) (p:=P m) (q:=P (m+1)) (λx hx=>up m x (D7.mp hx)) ⟨i,D7.mpr hi.1,hf,ht⟩;omega
 have hle: ∀m,(P2 n).countP (P m)<=n:=λm=>by
  have:(P2 n).countP (P m)<=(P2 n).length:=bC
  rwa [T7] at this
 have:=hle 0;intro i hi;rcases key (n-s) with h|h
 ·exact h i hi
 ·have hl:=hle (n-s);have:(P2 n).countP (P (n-s))=(P2 n).length:=by rw [T7];omega
  exact bD.mp this i (D7.mpr hi)
theorem WB {n:Nat}: ∀ {vs:List Nat},vs.Nodup->(∀v∈vs,v<n)->vs.length<=(P2 n).countP λi=>decide (i∈vs)
 | [],_,_=>S1 _
 |v::vs,nd,lt=>by
  rw [C9] at nd;have ih:=WB (n:=n) nd.2 λw hw=>lt w (D3 _ hw)
  have:=yu (l:=P2 n) (p:=λi=>decide (i∈vs)) (q:=λi=>decide (i∈v::vs)) (λx _ hx=>decide_eq_true (D3 _ (of_decide_eq_true hx))) ⟨v,D7.mpr (lt v D2),decide_eq_false nd.1,decide_eq_true D2⟩;rw [D5];omega
section
variable {n e:Nat}{T:List (List Int)}
theorem bEq {a b:Bool}(h:a=true↔b=true):a=b:=by cases a<;>cases b<;>simp_all
theorem Xr (h:Sq n e T)(hn:n<=8){K:Nat}(all: ∀m,K<=m-> ∀i j,i<n->j<n->RP n T m i j){s c:Nat}(s1:1<=s)(hc:c<n)(rc:RP n T s c c): ∀j,j<n->RP n T (s*(n-1)) c j:=by
 have e1: ∀m,s*(m+1)=s+s*m:=λm=>by rw [I0];omega
 have A:=DI (n:=n) (λm j=>decide (RP n T (s*m) c j)) (λm j hj r=>decide_eq_true (by rw [e1];exact(jW h hn s (s*m) hc hj).mpr ⟨c,hc,rc,of_decide_eq_true r⟩))
  (λm eq j hj=>by
   have key: ∀m,RP n T (s*(m+1)) c j↔ ∃k,k<n/\RP n T (s*m) c k/\RP n T s k j:=λm=>by rw [I0];exact jW h hn (s*m) s hc hj
   have eq2: ∀k,k<n->(RP n T (s*(m+1)) c k↔RP n T (s*m) c k):=λk hk=>by simpa using eq k hk
   have:RP n T (s*(m+1+1)) c j↔RP n T (s*(m+1)) c j:=by
    rw [key (m+1),key m];exact⟨λ⟨k,hk,a,b⟩=>⟨k,hk,(eq2 k hk).mp a,b⟩,λ⟨k,hk,a,b⟩=>⟨k,hk,(eq2 k hk).mpr a,b⟩⟩
   simpa using this) K (λm hm j hj=>decide_eq_true (all _ (D9 hm (aW m s1)) c j hc hj)) ⟨c,hc,decide_eq_true (by rw [fU];exact(zr hc hc).mpr rfl)⟩
 exact λj hj=>of_decide_eq_true (A j hj)
theorem DJ (h:Sq n e T)(hn:n<=8){K:Nat}(all: ∀m,K<=m-> ∀i j,i<n->j<n->RP n T m i j)(S:Nat->Bool){s:Nat}(s1:1<=s)(c0:s<=(P2 n).countP S): ∀i,i<n-> ∃t c,t<=n-s/\c<n/\S c=true/\RP n T t i c:=by
 classical
 have exS: ∃c,c<n/\S c=true:=by
  obtain⟨c,hc,e⟩:=bR.mp (show 0<(P2 n).countP S by omega);exact⟨c,D7.mp hc,e⟩
 obtain⟨iD,iE,iJ⟩:=exS
 let R:Nat->Nat->Prop:=λm i=> ∃t c,t<=m/\c<n/\S c=true/\RP n T t i c
 have stp: ∀m i,i<n->(R (m+1) i↔(S i=true\/ ∃k,k<n/\RP n T 1 i k/\R m k)):=λm i hi=>by
  constructor
  ·rintro ⟨t,c,ht,hc,ec,r⟩;cases t with
   |zero=>rw [(zr hi hc).mp r];exact .inl ec
   |succ t=>
    rw [aU] at r;obtain⟨k,hk,a,b⟩:=(jW h hn 1 t hi hc).mp r;exact .inr ⟨k,hk,a,t,c,by omega,hc,ec,b⟩
  ·rintro (r|⟨k,hk,a,t,c,ht,hc,ec,b⟩)
   ·exact⟨0,i,by omega,hi,r,(zr hi hi).mpr rfl⟩
   ·exact⟨1+t,c,by omega,hc,ec,(jW h hn 1 t hi hc).mpr ⟨k,hk,a,b⟩⟩
 have A:=Nm (n:=n) (s:=s) (λm i=>decide (R m i)) (λm i hi r=>by
  have r:=of_decide_eq_true r;obtain⟨t,c,ht,x⟩:=r;exact decide_eq_true ⟨t,c,by omega,x⟩) (λm eq i hi=>bEq (by
  rw [decide_eq_true_iff,decide_eq_true_iff,stp (m+1) i hi,stp m i hi];have eq2: ∀k,k<n->(R (m+1) k↔R m k):=λk hk=>by
   have:=eq k hk;rw [B0,decide_eq_true_iff,decide_eq_true_iff] at this;exact this
  exact⟨λz=>z.imp id λ⟨k,hk,a,b⟩=>⟨k,hk,a,(eq2 k hk).mp b⟩,λz=>z.imp id λ⟨k,hk,a,b⟩=>⟨k,hk,a,(eq2 k hk).mpr b⟩⟩)) K (λm hm i hi=>decide_eq_true ⟨m,iD,G5 _,iE,iJ,all m hm i iD hi iE⟩) (by
  have e:(P2 n).countP (λi=>decide (R 0 i))=(P2 n).countP S:=cP λi hi=>by
   have hi:=D7.mp hi;rw [decide_eq_true_iff];constructor
   ·rintro ⟨t,c,ht,hc,ec,r⟩;rw [show t=0 by omega] at r;rw [(zr hi hc).mp r];exact ec
   ·exact λr=>⟨0,i,G5 _,hi,r,(zr hi hi).mpr rfl⟩
  rw [e];exact c0)
 exact λi hi=>of_decide_eq_true (A i hi)
theorem DK (h:Sq n e T)(hn:n<=8){K:Nat}(all: ∀m,K<=m-> ∀i j,i<n->j<n->RP n T m i j)(S:Nat->Bool){s q:Nat}(s1:1<=s)(q1:1<=q)(c0:s<=(P2 n).countP S)(rd: ∀c,c<n->S c=true->RP n T q c c)(on: ∀c,c<n->S c=true-> ∃d,d<n/\S d=true/\RP n T 1 c d):
 jy (jX n T (n-s+q*(n-1)))=true:=(Yo h hn).mpr λi j hi hj=>by
 obtain⟨t,c,ht,hc,ec,r⟩:=DJ h hn all S s1 c0 i hi;have stay: ∀d,∃c',c'<n/\S c'=true/\RP n T (t+d) i c':=by
  intro d
  induction d with
  |zero=>exact⟨c,hc,ec,r⟩
  |succ d ih=>
   obtain⟨c',hc',ec',r'⟩:=ih;obtain⟨d',hd',ed',rd'⟩:=on c' hc' ec';exact⟨d',hd',ed',Yn (a:=t+d) (b:=1) h hn hi hc' hd' r' rd'⟩
 obtain⟨c',hc',ec',r'⟩:=stay (n-s-t);rw [show t+(n-s-t)=n-s by omega] at r';exact Yn h hn hi hc' hj r' (Xr h hn all q1 hc' (rd c' hc' ec') j hj)
theorem Xs (h:Sq n e T)(hn:n<=8)(n2:2<=n){K:Nat}(all: ∀m,K<=m-> ∀i j,i<n->j<n->RP n T m i j): ∃m,1<=m/\m<=(n-1)*(n-1)+1/\jy (jX n T m)=true:=by
 obtain⟨s0,c0,s01,s0n,hc0,rc0⟩:=Je h hn n2 (all K (G5 _)) (all (K+1) (by omega));have least: ∀s,(1<=s/\s<=n-1/\ ∃c,c<n/\RP n T s c c)-> ∃s c,1<=s/\s<=n-1/\c<n/\RP n T s c c/\ ∀t d,1<=t->t<s->d<n-> ¬RP n T t d d:=by
  intro s
  induction s using a8 with
  |_ s ih=>
   rintro ⟨s1,sn,c,hc,rc⟩
   by_cases z: ∃t d,1<=t/\t<s/\d<n/\RP n T t d d
   ·obtain⟨t,d,t1,ts,hd,rd⟩:=z;exact ih t ts ⟨t1,by omega,d,hd,rd⟩
   ·exact⟨s,c,s1,sn,hc,rc,λt d t1 ts hd rd=>z ⟨t,d,t1,ts,hd,rd⟩⟩
 obtain⟨s,c,s1,sn,hc,rc,mn⟩:=least s0 ⟨s01,s0n,c0,hc0,rc0⟩;obtain⟨v,v0,vs,vl,vr⟩:=Vk h hn s hc hc rc;have nd:((P2 s).map v).Nodup:=by
  unfold e9;rw [A8,F5];intro a b ha hb hab;rw [T7] at ha hb;rw [Z4,Z4];intro ev;have:=zQ h hn vl vr a (b-a) (by omega);rw [show a+(b-a)=b by omega,<-ev] at this;exact mn (b-a) (v a) (by omega) (by omega) (vl a (by omega)) this
 have cn:=WB (n:=n) nd (λx hx=>by obtain⟨t,ht,rfl⟩:=T1.mp hx;exact vl t (by have:=D7.mp ht;omega));rw [G7,T7] at cn;have mem: ∀x,decide (x∈(P2 s).map v)=true↔ ∃t,t<s/\v t=x:=λx=>by
  rw [decide_eq_true_iff,T1];exact⟨λ⟨t,ht,e⟩=>⟨t,D7.mp ht,e⟩,λ⟨t,ht,e⟩=>⟨t,D7.mpr ht,e⟩⟩
 have F:=DK h hn all (λx=>decide (x∈(P2 s).map v)) s1 s1 cn (λx hx ex=>by
  obtain⟨t,ht,rfl⟩:=(mem x).mp ex;have a:=zQ h hn vl vr t (s-t) (by omega);rw [show t+(s-t)=s by omega,vs,<-v0] at a;have b:=zQ h hn vl vr 0 t (by omega);rw [O3] at b;have:=Yn h hn (vl t (by omega)) (vl 0 (by omega)) (vl t (by omega)) a b
  rwa [show s-t+t=s by omega] at this) (λx hx ex=>by
  obtain⟨t,ht,rfl⟩:=(mem x).mp ex
  by_cases z:t+1<s
  ·exact⟨v (t+1),vl _ (by omega),(mem _).mpr ⟨t+1,z,rfl⟩,vr t ht⟩
  ·refine⟨v 0,vl _ (by omega),(mem _).mpr ⟨0,by omega,rfl⟩,?_⟩;have:=vr t ht
   rwa [show t+1=s by omega,vs,<-v0] at this)
 refine⟨n-s+s*(n-1),by omega,?_,F⟩;obtain⟨a,rfl⟩: ∃a,n=a+2:=⟨n-2,by omega⟩;have x1:s*(a+2-1)=s*a+s:=by rw [show a+2-1=a+1 by omega,I0]
 have x2:(a+2-1)*(a+2-1)=(a+1)*a+(a+1):=by rw [show a+2-1=a+1 by omega,I0]
 have x3:s*a<=(a+1)*a:=Nat.mul_le_mul_right a (by omega);rw [x1,x2];omega
end
end L2
namespace HT
open PySem PyProof.Rows
section
variable {prog:R5}{w:T4}{A:T9}{E:G0->G2->Prop}{σ α β:Type}{J:G2->Prop}
def Tm (prog:R5)(w:T4)(A:T9)(E:G0->G2->Prop)(J:G2->Prop){σ α:Type}(m:StateT σ Sem α)(Q:α->σ->Prop)(st:σ):Prop:=
 ∀s,J s->wpAny (model prog w) A (m.run st) (λr s'=>Q r.1 r.2/\J s') E s
theorem Tm.pure {a:α}{Q:α->σ->Prop}{st:σ}(h:Q a st):Tm prog w A E J (Pure.pure a:StateT σ Sem α) Q st:=λs j=>by
 rw [StateT.run_pure];exact P9 ⟨h,j⟩
theorem Tm.bind {m:StateT σ Sem α}{f:α->StateT σ Sem β}{Q:β->σ->Prop}{st:σ}(h:Tm prog w A E J m (λa st'=>Tm prog w A E J (f a) Q st') st):Tm prog w A E J (m >>= f) Q st:=λs j=>by
 rw [StateT.run_bind];exact wpAny_bind (S9 (h s j) (λr s' x=>x.1 s' x.2) λ_ _ e=>e)
theorem Tm.get {Q:σ->σ->Prop}{st:σ}(h:Q st st):Tm prog w A E J (MonadState.get:StateT σ Sem σ) Q st:=λs j=>by
 show wpAny _ _ ((StateT.get:StateT σ Sem σ).run st) _ _ _;exact P9 ⟨h,j⟩
theorem Tm.mono {m:StateT σ Sem α}{Q Q':α->σ->Prop}{st:σ}(h:Tm prog w A E J m Q st)(q: ∀a st',Q a st'->Q' a st'):Tm prog w A E J m Q' st:=λs j=>
 S9 (h s j) (λr s' x=>⟨q _ _ x.1,x.2⟩) λ_ _ e=>e
theorem Tm.range' {f:Nat->β->StateT σ Sem (ForInStep β)}(I:Nat->β->σ->Prop){Q:β->σ->Prop}{b:Nat}(step: ∀i c st,i<b->I i c st->Tm prog w A E J (f i c) (λr st'=>match r with| .done c'=>Q c' st'| .yield c'=>I (i+1) c' st') st)(fin: ∀c st,I b c st->Q c st):
 ∀ (k i:Nat) (c:β) (st:σ),i+k=b->I i c st->Tm prog w A E J (forIn (List.range' i k) c f) Q st
 |0,i,c,st,e,h=>by
  rw [List.range'_zero,List.forIn_nil];exact .pure (fin c st (by rw [<-e];exact h))
 |k+1,i,c,st,e,h=>by
  rw [List.range'_succ,a5];refine .bind ((step i c st (by omega) h).mono λr st' x=> ?_);cases r with
  |done c'=>exact .pure x
  |yield c'=>exact Tm.range' I step fin k (i+1) c' st' (by omega) x
theorem Tm.range {f:Nat->β->StateT σ Sem (ForInStep β)}(I:Nat->β->σ->Prop){Q:β->σ->Prop}{a b:Nat}{c:β}{st:σ}(hab:a<=b)(h:I a c st)(step: ∀i c st,i<b->I i c st->Tm prog w A E J (f i c) (λr st'=>match r with| .done c'=>Q c' st'| .yield c'=>I (i+1) c' st') st)(fin: ∀c st,I b c st->Q c st):
 Tm prog w A E J (forIn [a:b] c f) Q st:=λs j=>by
 rw [Std.Legacy.Range.forIn_eq_forIn_range'];have e:([a:b]:Std.Legacy.Range).size=b-a:=by simp [Std.Legacy.Range.size]
 rw [e];exact Tm.range' I step fin (b-a) a c st (by omega) h s j
end
section
variable {prog:R5}{w:T4}{A:T9}{E:G0->G2->Prop}{J:G2->Prop}{κ:SortKind}{U:P0->Prop}{R:P0->P0->Bool}
def Wa (prog:R5)(w:T4)(A:T9)(J:G2->Prop)(κ:SortKind)(U:P0->Prop)(R:P0->P0->Bool):Prop:=
 ∀x y,U x->U y-> ∀s,J s->wpAny (model prog w) A (keyLt' κ x.1 y.1) (λb s'=>b=R x y/\J s') (λ_ _=>False) s
theorem Tm.lt {x y:P0}{st:R9}{Q:Option Bool->R9->Prop}(a:Wa prog w A J κ U R)(k:kindOf st=κ)(hx:U x)(hy:U y)(q:Q (some (R x y)) st):Tm prog w A E J (lt' x y) Q st:=by
 rw [lt'_eq];refine .bind (.get ?_);rw [k];intro s j;rw [StateT.run_bind];refine wpAny_bind ?_;show wpAny _ _ ((StateT.lift _:StateT R9 Sem _).run st) _ _ _;rw [StateT.run_lift];refine wpAny_bind (wpAny_attempt (S9 (a x y hx hy s j) (λb s' x=> ?_) λ_ _ e=>e.elim));obtain⟨rfl,j'⟩:=x;exact P9 (Tm.pure (prog:=prog) (w:=w) (A:=A) (E:=E) (J:=J) q s' j')
theorem Tm.elem {arr:Array P0}{i:Nat}{x:P0}{st:R9}{Q:P0->R9->Prop}(e:arr[i]? =some x)(q:Q x st):Tm prog w A E J (elem' arr i) Q st:=by
 rw [elem'_eq,e];exact .pure q
theorem Nn {n lo hi:Nat}{g:Nat->Bool}{st:R9}{f:Nat->Option (Option Nat)×Nat×Nat->StateT R9 Sem (ForInStep (Option (Option Nat)×Nat×Nat))}(anti: ∀i j,i<=j->j<n->g j=true->g i=true)
 (h1:lo<=hi)(h2:hi<=n)(a1: ∀i,i<lo->g i=true)(a2: ∀i,hi<=i->i<n->g i=false)
 (stop: ∀i l,Tm prog w A E J (f i (none,l,l)) (λr st'=>st'=st/\r= .done (none,l,l)) st)
 (step: ∀i l u,l<u->u<=n->Tm prog w A E J (f i (none,l,u)) (λr st'=>st'=st/\r=if g (l+(u-l) / 2)=true then .yield (none,l+(u-l) / 2+1,u) else .yield (none,l,l+(u-l) / 2)) st):
 Tm prog w A E J (forIn [0:n] (none,lo,hi) f) (λc st'=>st'=st/\c.1=none/\c.2.2<=n/\(∀i,i<c.2.2->g i=true)/\ ∀i,c.2.2<=i->i<n->g i=false) st:=by
 have no: ∀i j,i<=j->j<n->g i=false->g j=false:=λi j hij hj z=>by
  cases hb:g j with
  |false=>rfl
  |true=>rw [anti i j hij hj hb] at z;cases z
 refine Tm.range (λi c st'=>st'=st/\c.1=none/\c.2.1<=c.2.2/\c.2.2<=n/\(∀i,i<c.2.1->g i=true)/\(∀i,c.2.2<=i->i<n->g i=false)/\c.2.2-c.2.1+i<=n) (S1 _) ⟨rfl,rfl,h1,h2,a1,a2,by dsimp only;omega⟩ ?_ ?_
 ·rintro i ⟨r,l,u⟩ _ hi ⟨rfl,hr,b1,b2,b3,b4,b5⟩;dsimp only at hr b1 b2 b3 b4 b5;subst hr
  by_cases z:l=u
  ·subst z;refine(stop i l).mono ?_;rintro _ _ ⟨rfl,rfl⟩;exact⟨rfl,rfl,b2,b3,b4⟩
  ·refine(step i l u (by omega) b2).mono ?_;rintro _ _ ⟨rfl,rfl⟩;cases hg:g (l+(u-l) / 2) with
   |true=>
    rw [if_pos rfl];exact⟨rfl,rfl,by dsimp only;omega,b2,λj hj=>anti j _ (by dsimp only at hj;omega) (by omega) hg,b4,by dsimp only;omega⟩
   |false=>
    rw [if_neg (by decide)];exact⟨rfl,rfl,by dsimp only;omega,by dsimp only;omega,b3,λj hj hn=>no _ j hj hn hg,by dsimp only;omega⟩
 ·rintro ⟨r,l,u⟩ _ ⟨rfl,hr,b1,b2,b3,b4,b5⟩;dsimp only at hr b1 b2 b3 b4 b5 ⊢;exact⟨rfl,hr,b2,λj hj=>b3 j (by omega),b4⟩
def gal:Bool->P0->Array P0->Nat->Nat->Nat->StateT R9 Sem (Option Nat):=sortPriv% PySem.Builtin.gallop
def byd (R:P0->P0->Bool)(left:Bool)(key:P0)(arr:Array P0)(base i:Nat):Bool:=
 match arr[base+i]? with
 |some x=>if left=true then R x key else !R key x
 |none=>false
theorem Xt {left:Bool}{key:P0}{arr:Array P0}{base n hint:Nat}{st:R9}{Q:Option Nat->R9->Prop}(a:Wa prog w A J κ U R)(k:kindOf st=κ)(uk:U key)(ua: ∀i,i<n-> ∃x,arr[base+i]? =some x/\U x)
 (anti: ∀i j,i<=j->j<n->byd R left key arr base j=true->byd R left key arr base i=true)(hh:hint<n)
 (q: ∀m,m<=n->(∀i,i<m->byd R left key arr base i=true)->(∀i,m<=i->i<n->byd R left key arr base i=false)->Q (some m) st):Tm prog w A E J (gal left key arr base n hint) Q st:=by
 have ask: ∀i (Q':Option Bool->R9->Prop),i<n->Q' (some (byd R left key arr base i)) st->Tm prog w A E J (do let x <-elem' arr (base+i);if left=true then lt' x key else do let b <-lt' key x;Pure.pure (b.map λz=> !z)) Q' st:=λi Q' hi q'=>by
  obtain⟨x,ex,ux⟩:=ua i hi;refine .bind (.elem ex ?_);unfold byd at q';rw [ex] at q';cases left with
  |true=>exact .lt a k ux uk q'
  |false=>exact .bind (.lt a k uk ux (.pure q'))
 have no: ∀i j,i<=j->j<n->byd R left key arr base i=false->byd R left key arr base j=false:=λi j hij hj z=>by
  cases hb:byd R left key arr base j with
  |false=>rfl
  |true=>rw [anti i j hij hj hb] at z;cases z
 unfold gal;refine .bind (ask hint _ hh ?_);dsimp only;cases hb:byd R left key arr base hint with
 |true=>
  rw [if_pos rfl];refine .bind (Tm.mono (Tm.range (λi c st'=>st'=st/\c.1=none/\c.2.1<c.2.2/\hint+c.2.1<n/\byd R left key arr base (hint+c.2.1)=true/\i+1<=c.2.2)
   (Q:=λc st'=>st'=st/\c.1=none/\c.2.1<c.2.2/\hint+c.2.1<n/\byd R left key arr base (hint+c.2.1)=true/\(n-hint<=c.2.2\/byd R left key arr base (hint+c.2.2)=false)) (S1 _) ⟨rfl,rfl,by decide,by omega,by simpa using hb,by decide⟩ ?_ ?_) ?_)
  ·rintro i ⟨r,lo,of⟩ _ hi ⟨rfl,hr,h1,h2,h3,h4⟩;dsimp only at hr h1 h2 h3 h4 ⊢;subst hr
   by_cases z:of>=n-hint
   ·rw [if_pos z];exact .pure ⟨rfl,rfl,h1,h2,h3,.inl z⟩
   ·rw [if_neg z];refine .bind (ask (hint+of) _ (by omega) ?_);dsimp only;cases hc:byd R left key arr base (hint+of) with
    |true=>exact .pure ⟨rfl,rfl,by dsimp only;omega,by dsimp only;omega,hc,by dsimp only;omega⟩
    |false=>exact .pure ⟨rfl,rfl,h1,h2,h3,.inr hc⟩
  ·rintro ⟨r,lo,of⟩ _ ⟨rfl,hr,h1,h2,h3,h4⟩;exact⟨rfl,hr,h1,h2,h3,.inl (by dsimp only at h4 ⊢;omega)⟩
  ·rintro ⟨r,lo,of⟩ _ ⟨rfl,hr,h1,h2,h3,h4⟩;dsimp only at hr h1 h2 h3 h4 ⊢;subst hr;dsimp only;refine .bind (Tm.mono (Nn (g:=byd R left key arr base) anti (by omega) (by omega) (λi hi=>anti i _ (by omega) h2 h3) (λi hi hn=> ?_) (λi l=> ?_) (λi l u hl hu=> ?_)) ?_)
   ·rcases h4 with z|z
    ·omega
    ·exact no (hint+of) i (by omega) hn z
   ·rw [if_pos (G5 l)];exact .pure ⟨rfl,rfl⟩
   ·rw [if_neg (show ¬l>=u by omega)];refine .bind (ask (l+(u-l) / 2) _ (by omega) ?_);dsimp only;cases byd R left key arr base (l+(u-l) / 2)<;>exact .pure ⟨rfl,rfl⟩
   ·rintro ⟨r,l,u⟩ _ ⟨rfl,hr,b2,b3,b4⟩;dsimp only at hr b2 b3 b4 ⊢;subst hr;exact .pure (q u b2 b3 b4)
 |false=>
  rw [if_neg (by decide)];refine .bind (Tm.mono (Tm.range (λi c st'=>st'=st/\c.1=none/\c.2.1<c.2.2/\c.2.1<=hint/\byd R left key arr base (hint-c.2.1)=false/\i+1<=c.2.2)
   (Q:=λc st'=>st'=st/\c.1=none/\c.2.1<c.2.2/\c.2.1<=hint/\byd R left key arr base (hint-c.2.1)=false/\(hint+1<=c.2.2\/byd R left key arr base (hint-c.2.2)=true)) (S1 _) ⟨rfl,rfl,by decide,by dsimp only;omega,by simpa using hb,by decide⟩ ?_ ?_) ?_)
  ·rintro i ⟨r,lo,of⟩ _ hi ⟨rfl,hr,h1,h2,h3,h4⟩;dsimp only at hr h1 h2 h3 h4 ⊢;subst hr
   by_cases z:of>=hint+1
   ·rw [if_pos z];exact .pure ⟨rfl,rfl,h1,h2,h3,.inl z⟩
   ·rw [if_neg z];refine .bind (ask (hint-of) _ (by omega) ?_);dsimp only;cases hc:byd R left key arr base (hint-of) with
    |false=>exact .pure ⟨rfl,rfl,by dsimp only;omega,by dsimp only;omega,hc,by dsimp only;omega⟩
    |true=>exact .pure ⟨rfl,rfl,h1,h2,h3,.inr hc⟩
  ·rintro ⟨r,lo,of⟩ _ ⟨rfl,hr,h1,h2,h3,h4⟩;exact⟨rfl,hr,h1,h2,h3,.inl (by dsimp only at h4 ⊢;omega)⟩
  ·rintro ⟨r,lo,of⟩ _ ⟨rfl,hr,h1,h2,h3,h4⟩;dsimp only at hr h1 h2 h3 h4 ⊢;subst hr;dsimp only;refine .bind (Tm.mono (Nn (g:=byd R left key arr base) anti (by omega) (by omega) (λi hi=> ?_) (λi hi hn=>no _ i hi hn h3) (λi l=> ?_) (λi l u hl hu=> ?_)) ?_)
   ·rcases h4 with z|z
    ·omega
    ·exact anti i (hint-of) (by omega) (by omega) z
   ·rw [if_pos (G5 l)];exact .pure ⟨rfl,rfl⟩
   ·rw [if_neg (show ¬l>=u by omega)];refine .bind (ask (l+(u-l) / 2) _ (by omega) ?_);dsimp only;cases byd R left key arr base (l+(u-l) / 2)<;>exact .pure ⟨rfl,rfl⟩
   ·rintro ⟨r,l,u⟩ _ ⟨rfl,hr,b2,b3,b4⟩;dsimp only at hr b2 b3 b4 ⊢;subst hr;exact .pure (q u b2 b3 b4)
end
section
variable {κ:Type}{U:κ->Prop}{R:κ->κ->Bool}{al bl:List κ}
structure Ordd (U:κ->Prop)(R:κ->κ->Bool):Prop where
 asym: ∀x y,U x->U y->R x y=true->R y x=false
 neg: ∀x y z,U x->U y->U z->R x z=true->R x y=true\/R y z=true
theorem Ordd.refl (o:Ordd U R){x:κ}(u:U x):R x x=false:=by
 cases h:R x x with
 |false=>rfl
 |true=>have:=o.asym x x u u h;rw [h] at this;exact this
theorem Ordd.trans (o:Ordd U R){x y z:κ}(ux:U x)(uy:U y)(uz:U z)(a:R y x=false)(b:R z y=false):R z x=false:=by
 cases h:R z x with
 |false=>rfl
 |true=>
  rcases o.neg z y x uz uy ux h with z|z
  ·rw [b] at z;cases z
  ·rw [a] at z;cases z
abbrev Srt (R:κ->κ->Bool)(l:List κ):Prop:=l.Pairwise λx y=>R y x=false
structure MI (R:κ->κ->Bool)(al bl:List κ)(ia ib:Nat)(out:List κ):Prop where
 perm:out.Perm (al.take ia++bl.take ib)
 srt:Srt R out
 ra: ∀x∈out,∀y∈al.drop ia,R y x=false
 rb: ∀x∈out,∀y∈bl.drop ib,R y x=false
theorem jJ {l:List κ}{i:Nat}{y:κ}(h:l[i]? =some y):l.drop i=y::l.drop (i+1):=by
 obtain⟨hi,e⟩:=P4.mp h;rw [List.drop_eq_getElem_cons hi,e]
theorem Jf {l:List κ}{i:Nat}{y:κ}(h:l[i]? =some y):l.take (i+1)=l.take i++ [y]:=by
 rw [T0,h];rfl
theorem MI.start (al bl:List κ):MI R al bl 0 0 []:=⟨.refl _,.nil,λx hx=>(O7 hx).elim,λx hx=>(O7 hx).elim⟩
variable {ia ib:Nat}
theorem MI.pushB {out:List κ}{y:κ}(m:MI R al bl ia ib out)(o:Ordd U R)(ua: ∀x∈al,U x)(ub: ∀x∈bl,U x)(sa:Srt R al)(sb:Srt R bl)(hy:bl[ib]? =some y)(lt: ∀z,al[ia]? =some z->R y z=true):MI R al bl ia (ib+1) (out++ [y]):=by
 have dy:=jJ hy;have uy:=ub y (G8 hy);have sdb:Srt R (bl.drop ib):=sb.sublist (C4 _ _);rw [dy] at sdb;refine⟨?_,?_,λx hx z hz=> ?_,λx hx z hz=> ?_⟩
 ·rw [Jf hy,<-G6];exact m.perm.append_right _
 ·refine R8.mpr ⟨m.srt,N4 _ _,λx hx z hz=> ?_⟩;rw [G9.mp hz];exact m.rb x hx y (by rw [dy];exact D2 ..)
 ·rcases D0.mp hx with w|w
  ·exact m.ra x w z hz
  ·rw [G9.mp w];cases e:al[ia]? with
   |none=>rw [N0 (aA.mp e)] at hz;cases hz
   |some a0=>
    have da:=jJ e;have ua0:=ua a0 (G8 e);have sda:Srt R (al.drop ia):=sa.sublist (C4 _ _);rw [da] at sda hz;have l0:=o.asym y a0 uy ua0 (lt a0 e);rcases S3.mp hz with v|v
    ·rw [v];exact l0
    ·exact o.trans uy ua0 (ua z (M5 v)) l0 ((U2.mp sda).1 z v)
 ·rcases D0.mp hx with w|w
  ·exact m.rb x w z (by rw [dy];exact D3 _ hz)
  ·rw [G9.mp w];exact(U2.mp sdb).1 z hz
theorem MI.pushA {out:List κ}{y:κ}(m:MI R al bl ia ib out)(o:Ordd U R)(ua: ∀x∈al,U x)(ub: ∀x∈bl,U x)(sa:Srt R al)(sb:Srt R bl)(hy:al[ia]? =some y)(ge: ∀z,bl[ib]? =some z->R z y=false):MI R al bl (ia+1) ib (out++ [y]):=by
 have dy:=jJ hy;have uy:=ua y (G8 hy);have sda:Srt R (al.drop ia):=sa.sublist (C4 _ _);rw [dy] at sda;refine⟨?_,?_,λx hx z hz=> ?_,λx hx z hz=> ?_⟩
 ·rw [Jf hy];refine(m.perm.append_right [y]).trans ?_;rw [G6,G6];exact(J3).append_left _
 ·refine R8.mpr ⟨m.srt,N4 _ _,λx hx z hz=> ?_⟩;rw [G9.mp hz];exact m.ra x hx y (by rw [dy];exact D2 ..)
 ·rcases D0.mp hx with w|w
  ·exact m.ra x w z (by rw [dy];exact D3 _ hz)
  ·rw [G9.mp w];exact(U2.mp sda).1 z hz
 ·rcases D0.mp hx with w|w
  ·exact m.rb x w z hz
  ·rw [G9.mp w];cases e:bl[ib]? with
   |none=>rw [N0 (aA.mp e)] at hz;cases hz
   |some b0=>
    have db:=jJ e;have ub0:=ub b0 (G8 e);have sdb:Srt R (bl.drop ib):=sb.sublist (C4 _ _);rw [db] at sdb hz;have l0:=ge b0 e;rcases S3.mp hz with v|v
    ·rw [v];exact l0
    ·exact o.trans uy ub0 (ub z (M5 v)) l0 ((U2.mp sdb).1 z v)
theorem MI.manyA (o:Ordd U R)(ua: ∀x∈al,U x)(ub: ∀x∈bl,U x)(sa:Srt R al)(sb:Srt R bl): ∀ (k:Nat) {ia:Nat} {out:List κ},MI R al bl ia ib out->ia+k<=al.length->(∀i,i<k-> ∀y,al[ia+i]? =some y-> ∀z,bl[ib]? =some z->R z y=false)->MI R al bl (ia+k) ib (out++(al.drop ia).take k)
 |0,ia,out,m,_,_=>by rw [Z5,C8];exact m
 |k+1,ia,out,m,hk,h=>by
  obtain⟨y,hy⟩: ∃y,al[ia]? =some y:=⟨_,G1 (by omega)⟩;have m1:=m.pushA o ua ub sa sb hy (h 0 (by omega) y hy);have:=MI.manyA o ua ub sa sb k m1 (by omega) (λi hi y hy=>h (i+1) (by omega) y (by rw [show ia+(i+1)=ia+1+i by omega];exact hy));rw [show ia+(k+1)=ia+1+k by omega,jJ hy,bS,dB];exact this
theorem MI.manyB (o:Ordd U R)(ua: ∀x∈al,U x)(ub: ∀x∈bl,U x)(sa:Srt R al)(sb:Srt R bl): ∀ (k:Nat) {ib:Nat} {out:List κ},MI R al bl ia ib out->ib+k<=bl.length->(∀i,i<k-> ∀y,bl[ib+i]? =some y-> ∀z,al[ia]? =some z->R y z=true)->MI R al bl ia (ib+k) (out++(bl.drop ib).take k)
 |0,ib,out,m,_,_=>by rw [Z5,C8];exact m
 |k+1,ib,out,m,hk,h=>by
  obtain⟨y,hy⟩: ∃y,bl[ib]? =some y:=⟨_,G1 (by omega)⟩;have m1:=m.pushB o ua ub sa sb hy (h 0 (by omega) y hy);have:=MI.manyB o ua ub sa sb k m1 (by omega) (λi hi y hy=>h (i+1) (by omega) y (by rw [show ib+(i+1)=ib+1+i by omega];exact hy));rw [show ib+(k+1)=ib+1+k by omega,jJ hy,bS,dB];exact this
theorem MI.all {out:List κ}(m:MI R al bl al.length bl.length out):out.Perm (al++bl)/\Srt R out:=by
 have:=m.perm;rw [E7,E7] at this;exact⟨this,m.srt⟩
theorem MI.done {out:List κ}(m:MI R al bl ia ib out)(o:Ordd U R)(ua: ∀x∈al,U x)(ub: ∀x∈bl,U x)(sa:Srt R al)(sb:Srt R bl)(ha:ia<=al.length)(hb:ib<=bl.length)(h:ia=al.length\/ib=bl.length):(out++al.drop ia++bl.drop ib).Perm (al++bl)/\Srt R (out++al.drop ia++bl.drop ib):=by
 have m1:=MI.manyA o ua ub sa sb (al.length-ia) m (by omega) (λi hi y hy z hz=>by
  have:=(P4.mp hz).1;omega)
 rw [show ia+(al.length-ia)=al.length by omega,R3 (by rw [S8];exact G5 _)] at m1;have m2:=MI.manyB o ua ub sa sb (bl.length-ib) m1 (by omega) (λi hi y hy z hz=>by
  have:=(P4.mp hz).1;omega)
 rw [show ib+(bl.length-ib)=bl.length by omega,R3 (l:=bl.drop ib) (by rw [S8];exact G5 _)] at m2;exact m2.all
theorem MI.lastA {out:List κ}(m:MI R al bl ia ib out)(o:Ordd U R)(ua: ∀x∈al,U x)(ub: ∀x∈bl,U x)(sa:Srt R al)(sb:Srt R bl)(ha:ia+1=al.length)(hb:ib<=bl.length)(h: ∀y∈bl,∀z,al[al.length-1]? =some z->R y z=true):(out++bl.drop ib++al.drop ia).Perm (al++bl)/\Srt R (out++bl.drop ib++al.drop ia):=by
 have m2:=MI.manyB o ua ub sa sb (bl.length-ib) m (by omega) (λi hi y hy z hz=>h y (G8 hy) z (by rw [<-ha];exact hz));rw [show ib+(bl.length-ib)=bl.length by omega,R3 (by rw [S8];exact G5 _)] at m2;have m1:=MI.manyA o ua ub sa sb (al.length-ia) m2 (by omega) (λi hi y hy z hz=>by
  have:=(P4.mp hz).1;omega)
 rw [show ia+(al.length-ia)=al.length by omega,R3 (l:=al.drop ia) (by rw [S8];exact G5 _)] at m1;exact m1.all
end
section
variable {prog:R5}{w:T4}{A:T9}{E:G0->G2->Prop}{J:G2->Prop}{κ:SortKind}{U:P0->Prop}{R:P0->P0->Bool}
theorem Tm.rule {σ:Type}{x:String}{Q:Unit->σ->Prop}{st:σ}(q:Q () st):Tm prog w A E J (liftM (PySem.rule x):StateT σ Sem Unit) Q st:=λs j=>by
 show wpAny _ _ ((StateT.lift _:StateT σ Sem _).run st) _ _ _;rw [StateT.run_lift];exact wpAny_bind (b7 (P9 ⟨q,j⟩))
theorem Tm.modify {σ:Type}{f:σ->σ}{Q:Unit->σ->Prop}{st:σ}(q:Q () (f st)):Tm prog w A E J (_root_.modify f:StateT σ Sem PUnit) Q st:=λs j=>by
 rw [StateT.run_modify];exact P9 ⟨q,j⟩
def mLo:Array P0->Array P0->StateT R9 Sem (Array P0):=sortPriv% PySem.Builtin.mergeLo
def Gal (st st':R9):Prop:=kindOf st'=kindOf st/\arrOf st'=arrOf st/\pendingOf st'=pendingOf st/\failedOf st'=failedOf st
theorem Gal.refl (st:R9):Gal st st:=⟨rfl,rfl,rfl,rfl⟩
theorem vF (a:Array P0)(i:Nat):(a.extract i).toList=a.toList.drop i:=by
 rw [A9,F7];exact R3 (by simp)
theorem Vl (a:Array P0)(i k:Nat):(a.extract i (i+k)).toList=(a.toList.drop i).take k:=by
 rw [A9,F7,aM]
def wG (R:P0->P0->Bool)(a b c:Array P0):Prop:=c.toList.Perm (a.toList++b.toList)/\Srt R c.toList
structure Two (U:P0->Prop)(R:P0->P0->Bool)(a b:Array P0):Prop where
 o:Ordd U R
 ua: ∀x∈a.toList,U x
 ub: ∀x∈b.toList,U x
 sa:Srt R a.toList
 sb:Srt R b.toList
 last: ∀y∈b.toList,∀z,a.toList[a.toList.length-1]? =some z->R y z=true
abbrev MA (R:P0->P0->Bool)(a b:Array P0)(ia ib:Nat)(out:Array P0):Prop:=MI R a.toList b.toList ia ib out.toList
section
variable {a b out:Array P0}{ia ib:Nat}
theorem MA.done (t:Two U R a b)(m:MA R a b ia ib out)(ha:ia<=a.size)(hb:ib<=b.size)(h:ia=a.size\/ib=b.size):wG R a b (out++a.extract ia++b.extract ib):=by
 have:=MI.done m t.o t.ua t.ub t.sa t.sb (by simpa using ha) (by simpa using hb) (by simpa using h);unfold wG;rw [M0,M0,vF,vF];exact this
theorem MA.lastA (t:Two U R a b)(m:MA R a b ia ib out)(ha:ia+1=a.size)(hb:ib<=b.size):wG R a b (out++b.extract ib++a.extract ia):=by
 have:=MI.lastA m t.o t.ua t.ub t.sa t.sb (by simpa using ha) (by simpa using hb) t.last;unfold wG;rw [M0,M0,vF,vF];exact this
theorem MA.pushB (t:Two U R a b){y:P0}(m:MA R a b ia ib out)(hy:b.toList[ib]? =some y)(lt: ∀z,a.toList[ia]? =some z->R y z=true):MA R a b ia (ib+1) (out.push y):=by
 have:=MI.pushB m t.o t.ua t.ub t.sa t.sb hy lt;show MI R _ _ _ _ (out.push y).toList;rw [J8];exact this
theorem MA.pushA (t:Two U R a b){y:P0}(m:MA R a b ia ib out)(hy:a.toList[ia]? =some y)(ge: ∀z,b.toList[ib]? =some z->R z y=false):MA R a b (ia+1) ib (out.push y):=by
 have:=MI.pushA m t.o t.ua t.ub t.sa t.sb hy ge;show MI R _ _ _ _ (out.push y).toList;rw [J8];exact this
theorem MA.manyA (t:Two U R a b)(m:MA R a b ia ib out)(k:Nat)(hk:ia+k<=a.size)(h: ∀i,i<k-> ∀y,a.toList[ia+i]? =some y-> ∀z,b.toList[ib]? =some z->R z y=false):MA R a b (ia+k) ib (out++a.extract ia (ia+k)):=by
 have:=MI.manyA t.o t.ua t.ub t.sa t.sb k m (by simpa using hk) h;show MI R _ _ _ _ (out++a.extract ia (ia+k)).toList;rw [M0,Vl];exact this
theorem MA.manyB (t:Two U R a b)(m:MA R a b ia ib out)(k:Nat)(hk:ib+k<=b.size)(h: ∀i,i<k-> ∀y,b.toList[ib+i]? =some y-> ∀z,a.toList[ia]? =some z->R y z=true):MA R a b ia (ib+k) (out++b.extract ib (ib+k)):=by
 have:=MI.manyB t.o t.ua t.ub t.sa t.sb k m (by simpa using hk) h;show MI R _ _ _ _ (out++b.extract ib (ib+k)).toList;rw [M0,Vl];exact this
end
variable {arr:Array P0}{base:Nat}
theorem wf {left:Bool}{key x:P0}{i:Nat}(h:arr.toList[base+i]? =some x):byd R left key arr base i=if left=true then R x key else !R key x:=by
 unfold byd;rw [<-T8,h]
theorem Jg {l:List P0}(s:Srt R l)(o:Ordd U R)(u: ∀x∈l,U x){i j:Nat}{x y:P0}(hij:i<=j)(hx:l[i]? =some x)(hy:l[j]? =some y):R y x=false:=by
 by_cases z:i=j
 ·subst z;rw [hx] at hy;injection hy with hy;subst hy
  exact o.refl (u x (G8 hx))
 ·obtain⟨h1,e1⟩:=P4.mp hx;obtain⟨h2,e2⟩:=P4.mp hy;have:=F5.mp s i j h1 h2 (by omega);rw [e1,e2] at this;exact this
theorem Jh {i:Nat}(h:i<arr.size): ∃x,arr.toList[i]? =some x/\arr[i]? =some x:=⟨arr[i],by simp [h],by simp [h]⟩
theorem Fj {y:P0}{n hint:Nat}{st:R9}{Q:Option Nat->R9->Prop}(ak:Wa prog w A J κ U R)(kd:kindOf st=κ)(o:Ordd U R)(u: ∀x∈arr.toList,U x)(s:Srt R arr.toList)(uy:U y)(hn:base+n<=arr.size)(hh:hint<n)
 (q: ∀k,k<=n->(∀i,i<k-> ∀x,arr.toList[base+i]? =some x->R y x=false)->(∀i,k<=i->i<n-> ∀x,arr.toList[base+i]? =some x->R y x=true)->Q (some k) st):Tm prog w A E J (gal false y arr base n hint) Q st:=by
 refine Xt ak kd uy (λi hi=> ?_) (λi j hij hj h=> ?_) hh (λk k1 k2 k3=>q k k1 (λi hi x hx=> ?_) (λi h1 h2 x hx=> ?_))
 ·obtain⟨x,lx,ex⟩:=Jh (show base+i<arr.size by omega);exact⟨x,ex,u x (G8 lx)⟩
 ·obtain⟨x,lx,_⟩:=Jh (show base+i<arr.size by omega);obtain⟨z,lz,_⟩:=Jh (show base+j<arr.size by omega);rw [wf lz] at h;rw [wf lx];have hz:R y z=false:=by simpa using h
  have:=o.trans (u x (G8 lx)) (u z (G8 lz)) uy (Jg s o u (by omega) lx lz) hz;simp [this]
 ·have:=k2 i hi;rw [wf hx] at this;simpa using this
 ·have:=k3 i h1 h2;rw [wf hx] at this;simpa using this
theorem Fk {y:P0}{n hint:Nat}{st:R9}{Q:Option Nat->R9->Prop}(ak:Wa prog w A J κ U R)(kd:kindOf st=κ)(o:Ordd U R)(u: ∀x∈arr.toList,U x)(s:Srt R arr.toList)(uy:U y)(hn:base+n<=arr.size)(hh:hint<n)
 (q: ∀k,k<=n->(∀i,i<k-> ∀x,arr.toList[base+i]? =some x->R x y=true)->(∀i,k<=i->i<n-> ∀x,arr.toList[base+i]? =some x->R x y=false)->Q (some k) st):Tm prog w A E J (gal true y arr base n hint) Q st:=by
 refine Xt ak kd uy (λi hi=> ?_) (λi j hij hj h=> ?_) hh (λk k1 k2 k3=>q k k1 (λi hi x hx=> ?_) (λi h1 h2 x hx=> ?_))
 ·obtain⟨x,lx,ex⟩:=Jh (show base+i<arr.size by omega);exact⟨x,ex,u x (G8 lx)⟩
 ·obtain⟨x,lx,_⟩:=Jh (show base+i<arr.size by omega);obtain⟨z,lz,_⟩:=Jh (show base+j<arr.size by omega);rw [wf lz] at h;rw [wf lx];have hz:R z y=true:=by simpa using h
  rcases o.neg z x y (u z (G8 lz)) (u x (G8 lx)) uy hz with v|v
  ·rw [Jg s o u (by omega) lx lz] at v;cases v
  ·simp [v]
 ·have:=k2 i hi;rw [wf hx] at this;simpa using this
 ·have:=k3 i h1 h2;rw [wf hx] at this;simpa using this
section
variable {σ α β γ:Type}{c:Prop}[Decidable c]{t e:StateT σ Sem α}{Q:α->σ->Prop}{st:σ}{x y:β}{z:γ}
theorem Tm.if2 (T:c->Tm prog w A E J t Q st)(F: ¬c->Tm prog w A E J e Q st):Tm prog w A E J (if c then t else e) Q st:=by
 split
 ·exact T ‹_›
 ·exact F ‹_›
theorem Tm.eq2 {x y:Nat}(T:x=y->Tm prog w A E J t Q st)(F: ¬x=y->Tm prog w A E J e Q st):Tm prog w A E J (if (x==y)=true then t else e) Q st:=
 .if2 (λh=>T (eq_of_beq h)) λh=>F λg=>h (beq_iff_eq.mpr g)
theorem Tm.both {f:β->StateT σ Sem α}(he:e=f y)(ht:t=f x)(H: ∀m,Tm prog w A E J (f m) Q st):Tm prog w A E J (if c then t else e) Q st:=by
 subst he ht;exact .if2 (λ_=>H _) λ_=>H _
theorem Tm.join {f:β->γ->StateT σ Sem α}{I:β->γ->Prop}(he:e=f x z)(G: ∀m o,I m o->Tm prog w A E J (f m o) Q st)(T:c->(∀m o,I m o->Tm prog w A E J (f m o) Q st)->Tm prog w A E J t Q st)(F: ¬c->I x z):Tm prog w A E J (if c then t else e) Q st:=by
 subst he;exact .if2 (λh=>T h G) λh=>G _ _ (F h)
end
theorem NZ {A B C D F:Type}{P:A×B×C×D×F->Prop}(h: ∀a b c d f,P (a,b,c,d,f)): ∀c,P c:=λc=>h c.1 c.2.1 c.2.2.1 c.2.2.2.1 c.2.2.2.2
theorem Ba {A B C D F G:Type}{P:A×B×C×D×F×G->Prop}(h: ∀a b c d f g,P (a,b,c,d,f,g)): ∀c,P c:=λc=>h c.1 c.2.1 c.2.2.1 c.2.2.2.1 c.2.2.2.2.1 c.2.2.2.2.2
theorem Bb {A B C D F G H:Type}{P:A×B×C×D×F×G×H->Prop}(h: ∀a b c d f g k,P (a,b,c,d,f,g,k)): ∀c,P c:=λc=>h c.1 c.2.1 c.2.2.1 c.2.2.2.1 c.2.2.2.2.1 c.2.2.2.2.2.1 c.2.2.2.2.2.2
theorem zE {a:Array P0}(u: ∀x∈a.toList,U x){i:Nat}(h:i<a.size){P:Prop}(q: ∀y,a[i]? =some y->a.toList[i]? =some y->U y->P):P:=q a[i] (by simp [h]) (by simp [h]) (u _ (by simp))
structure LoI (R:P0->P0->Bool)(a b:Array P0)(st st':R9)(n:Nat)(out:Array P0)(ia ib:Nat):Prop where
 g:Gal st st'
 m:MA R a b ia ib out
 a:ia+1<a.size
 b:ib<b.size
 n:n<=ia+ib
def LoO (R:P0->P0->Bool)(a b:Array P0)(st st':R9)(n:Nat)(r:Option (Array P0))(out:Array P0)(ia ib:Nat):Prop:=Gal st st'/\match r with|some c=>wG R a b c|none=>LoI R a b st st' n out ia ib
section
variable {a b out:Array P0}{st st':R9}{n k ia ib:Nat}
theorem LoI.more (h:LoI R a b st st' n out ia ib)(l:k<=n):LoI R a b st st' k out ia ib:=⟨h.g,h.m,h.a,h.b,D9 l h.n⟩
theorem LoI.here (h:LoI R a b st st' n out ia ib):LoI R a b st st' (ia+ib) out ia ib:=⟨h.g,h.m,h.a,h.b,G5 _⟩
theorem LoI.at {s:R9}(h:LoI R a b st st' n out ia ib)(g:Gal st s)(l:k<=n):LoI R a b st s k out ia ib:=⟨g,h.m,h.a,h.b,D9 l h.n⟩
theorem LoI.never {P:Prop}(h:LoI R a b st st' n out ia ib)(l:a.size+b.size<=n):P:=absurd (D9 l h.n) (Nat.not_le_of_lt (Nat.add_lt_add (C5 h.a) h.b))
end
theorem No {a b:Array P0}{st:R9}{Q:Array P0->R9->Prop}(ak:Wa prog w A J κ U R)(kd:kindOf st=κ)(t:Two U R a b)
 (na:1<=a.size)(nb:1<=b.size)(first: ∀y z,b.toList[0]? =some y->a.toList[0]? =some z->R y z=true)
 (q: ∀c st',Gal st st'->wG R a b c->Q c st'):Tm prog w A E J (mLo a b) Q st:=by
 refine .bind (.rule (.bind (zE t.ub nb λb0 eb0 lb0 ub0=> .elem eb0 ?_)));have m0:MA R a b 0 1 #[b0]:=MA.pushB t (out:= #[]) (MI.start _ _) lb0 (λz hz=>first _ z lb0 hz);refine .eq2 (x:=1) (y:=b.size) (λz1=> .pure (q _ _ (Gal.refl st) (MA.done t m0 (S1 _) nb (.inr z1)))) λz1=> .eq2 (x:=0+1) (y:=a.size) (λz2=> .pure (q _ _ (Gal.refl st) (MA.lastA t m0 z2 nb))) λz2=> .bind (.get ?_)
 refine .bind (Tm.mono (Tm.range (λi c st'=>LoI R a b st st' (i+1) c.2.1 c.2.2.1 c.2.2.2.1)
  (Q:=λc st'=> ∃r,c.1=some r/\Gal st st'/\wG R a b r) (S1 _) ⟨Gal.refl st,m0,N6 na z2,N6 nb z1,G5 _⟩ ?_ ?_) ?_)
 ·intro i c st1 hi;revert c;refine NZ λr out ia ib mg h=> ?_
  refine .bind (Tm.mono (Tm.range (λj c st'=>LoI R a b st st' (ia+ib+j) c.2.1 c.2.2.1 c.2.2.2.1)
   (Q:=λc st'=>LoO R a b st st' (ia+ib+1) c.1 c.2.1 c.2.2.1 c.2.2.2.1) (S1 _) h.here ?_ ?_) ?_)
  ·intro j c st2 hj;revert c;refine Ba λr out ja jb ac bc h=> ?_
   refine .bind (zE t.ub h.b λy ey ly uy=> .elem ey (.bind (zE t.ua (C5 h.a) λx ex lx ux=> .elem ex (.bind (.lt ak (h.g.1.trans kd) uy ux (.if2 (c:=R y x=true) (λhb=> .bind (.elem ey ?_)) λhb=> .bind (.elem ex ?_)))))))
   ·have m1:=MA.pushB t h.m ly (λz hz=>by rw [lx] at hz;injection hz with hz;rw [<-hz];exact hb);refine .eq2 (x:=jb+1) (y:=b.size) (λc1=> .pure ⟨h.g,MA.done t m1 (D8 (C5 h.a)) h.b (.inr c1)⟩) λc1=> ?_
    have d:LoI R a b st st2 (ia+ib+(j+1)) (out.push y) ja (jb+1):=⟨h.g,m1,h.a,N6 (V5 h.b) c1,W0 h.n⟩;exact .if2 (λ_=> .pure ⟨h.g,d.more (Q4 (J1 _ _) _)⟩) λ_=> .pure d
   ·have m1:=MA.pushA t h.m lx (λz hz=>by rw [ly] at hz;injection hz with hz;rw [<-hz];exact J9.mpr hb);refine .eq2 (x:=ja+1+1) (y:=a.size) (λc1=> .pure ⟨h.g,MA.lastA t m1 c1 (D8 h.b)⟩) λc1=> ?_
    have d:LoI R a b st st2 (ia+ib+(j+1)) (out.push x) (ja+1) jb:=⟨h.g,m1,N6 (V5 h.a) c1,h.b,D9 (W0 h.n) (C3 (Nat.succ_add _ _).symm)⟩;exact .if2 (λ_=> .pure ⟨h.g,d.more (Q4 (J1 _ _) _)⟩) λ_=> .pure d
  ·exact λc st2 h=>h.never (J1 _ _)
  ·intro c st2;revert c;refine Ba λr out ja jb ac bc h'=> ?_
   cases r with
   |some r=>exact .pure ⟨r,rfl,h'⟩
   |none=>
   replace h':=h'.2
   refine .bind (.rule (.bind (Tm.mono (Tm.range (λj c st'=>LoI R a b st st' (ja+jb+j) c.2.1 c.2.2.1 c.2.2.2.1)
    (Q:=λc st'=>LoO R a b st st' (ja+jb) c.1 c.2.1 c.2.2.1 c.2.2.2.1) (S1 _) h'.here ?_ ?_) ?_)))
   ·clear h;intro j c st2 hj;revert c;refine Bb λr out pa pb mg ac bc h=> ?_
    refine zE t.ub h.b λy ey ly uy=> ?_
    have g2:0<a.size-pa:=cQ (C5 h.a);have g1:pa+(a.size-pa)<=a.size:=C3 (X3 (D8 (C5 h.a)));refine Tm.both (y:=mg) (x:=mg-1) (by rfl) (by rfl) λmg=> ?_
    refine .bind (Tm.modify (.bind (.elem ey (.bind (Fj (base:=pa) (n:=a.size-pa) ak (h.g.1.trans kd) t.o t.ua t.sa uy g1 g2 λk k1 k2 k3=> ?_)))));refine Tm.join (I:=λo ia=>MA R a b ia pb o/\ia+1<a.size/\pa<=ia/\ ∀x,a.toList[ia]? =some x->R y x=true) (x:=out) (z:=pa) (by rfl) ?_ ?_ ?_
    ·refine λo qa i1=> ?_
     have M2:=MA.pushB t i1.1 ly i1.2.2.2;have p1:=C5 i1.2.1;refine .bind (.elem ey (.eq2 (x:=pb+1) (y:=b.size) (λc3=> .pure ⟨h.g,MA.done t M2 (D8 p1) (C3 c3) (.inr c3)⟩) λc3=> ?_));have c8:pb+1<b.size:=N6 (V5 h.b) c3;have g2:=cQ c8;refine .bind (zE t.ua p1 λx ex lx ux=> .elem ex (.bind (Fk (base:=pb+1) (n:=b.size-(pb+1)) ak (h.g.1.trans kd) t.o t.ub t.sb ux (C3 (X3 (D8 c8))) g2 λk' q1 q2 q3=> ?_)));dsimp only;generalize ep:pb+1=p2 at M2 q1 q2 q3 c8 g2 ⊢;generalize eo:o.push y=o2 at M2 ⊢;refine Tm.join (I:=λo ib=>MA R a b qa ib o/\ib<b.size/\p2<=ib/\ ∀x',b.toList[ib]? =some x'->R x' x=false) (x:=o2) (z:=p2) (by rfl) ?_ ?_ ?_
     ·refine λo qb i2=> ?_
      have M4:=MA.pushA t i2.1 lx i2.2.2.2;refine .bind (.elem ex (.eq2 (x:=qa+1+1) (y:=a.size) (λc5=> .pure ⟨h.g,MA.lastA t M4 c5 (D8 i2.2.1)⟩) λc5=> ?_));have n1:ja+jb+j<=pa+pb:=h.n;have n2:ja+jb+(j+1)<=qa+1+qb:=by have:=i1.2.2.1;have:=i2.2.2.1;omega
      have d:LoI R a b st st2 (ja+jb+(j+1)) (o.push x) (qa+1) qb:=⟨h.g,M4,N6 (V5 i1.2.1) c5,i2.2.1,n2⟩;exact .if2 (λ_=> .pure ⟨h.g,d.at h.g (Q0 _ _)⟩) λ_=> .pure (d.at h.g (G5 _))
     ·intro kz' H;have g3:p2+k'<=b.size:=D9 (Q4 q1 _) (C3 (X3 (D8 c8)));have M3:=MA.manyB t M2 k' g3 (λi hi y' hy z hz=>by rw [lx] at hz;injection hz with hz;rw [<-hz];exact q2 i hi y' hy);exact .eq2 (x:=p2+k') (y:=b.size) (λc4=> .pure ⟨h.g,MA.done t M3 (D8 p1) g3 (.inr c4)⟩) λc4=>H _ _ ⟨M3,N6 g3 c4,Q0 _ _,λz hz=>q3 k' (G5 _) (by omega) z hz⟩
     ·exact λkz'=>⟨M2,c8,G5 _,λz hz=>q3 0 (V8 kz') g2 z hz⟩
    ·intro kz H;have g3:pa+k<=a.size:=D9 (Q4 k1 _) g1;have m1:=MA.manyA t h.m k g3 (λi hi x hx z hz=>by rw [ly] at hz;injection hz with hz;rw [<-hz];exact k2 i hi x hx);exact .eq2 (x:=pa+k+1) (y:=a.size) (λc1=> .pure ⟨h.g,MA.lastA t m1 c1 (D8 h.b)⟩) λc1=> .eq2 (x:=pa+k) (y:=a.size) (λc2=> .pure ⟨h.g,MA.done t m1 g3 (D8 h.b) (.inl c2)⟩) λc2=>H _ _ ⟨m1,N6 (N6 g3 c2) c1,Q0 _ _,λx hx=>k3 k (G5 _) (by omega) x hx⟩
    ·exact λkz=>⟨h.m,h.a,G5 _,λx hx=>k3 0 (V8 kz) g2 x hx⟩
   ·exact λc st3 h=>h.never (J1 _ _)
   ·intro c st3;revert c;refine Bb λr out pa pb mg ac bc h3=> ?_
    cases r with
    |some r=>exact .pure ⟨r,rfl,h3⟩
    |none=>exact .bind (Tm.modify (.pure (h3.2.at h3.1 (D9 (W0 h.n) h'.n))))
 ·exact λc st1 h=>h.never (Q0 _ _)
 ·intro c st1;revert c;refine NZ λr out ia ib mg h=> ?_
  obtain⟨c,rfl,gl,wh⟩:=h;exact .pure (q c st1 gl wh)
end
section
variable {prog:R5}{w:T4}{A:T9}{E:G0->G2->Prop}{J:G2->Prop}{κ:SortKind}{U:P0->Prop}{R:P0->P0->Bool}
abbrev Flp (R:P0->P0->Bool):P0->P0->Bool:=λx y=>R y x
theorem Ordd.flip (o:Ordd U R):Ordd U (Flp R):=⟨λx y ux uy h=>o.asym y x uy ux h,λx y z ux uy uz h=>(o.neg z y x uz uy ux h).symm⟩
variable {l:List P0}
theorem jK (s:Srt R l):Srt (Flp R) l.reverse:=V6.mpr s
theorem Vm (s:Srt (Flp R) l):Srt R l.reverse:=V6.mpr s
variable {n:Nat}
theorem Xu (h1:1<=n)(hn:n<=l.length):l.reverse[l.length-n]? =l[n-1]? :=by
 rw [J4 (by omega)]
 congr 1;omega
theorem zj {z:P0}(hn:n<=l.length)(h:l.reverse[l.length-n]? =some z):1<=n/\l[n-1]? =some z:=by
 have:=(P4.mp h).1;rw [S6] at this;have n1:1<=n:=by omega
 exact⟨n1,by rw [<-Xu n1 hn];exact h⟩
theorem yw (l:List P0){n:Nat}(hn:n<=l.length):l.reverse.drop (l.length-n)=(l.take n).reverse:=by
 rw [List.drop_reverse]
 congr 2;omega
def MH (R:P0->P0->Bool)(a b:Array P0)(na nb:Nat)(out:Array P0):Prop:=MI (Flp R) b.toList.reverse a.toList.reverse (b.toList.length-nb) (a.toList.length-na) out.toList
structure TwoH (U:P0->Prop)(R:P0->P0->Bool)(a b:Array P0):Prop where
 o:Ordd U R
 ua: ∀x∈a.toList,U x
 ub: ∀x∈b.toList,U x
 sa:Srt R a.toList
 sb:Srt R b.toList
 first: ∀z∈a.toList,∀y,b.toList[0]? =some y->R y z=true
section
variable {a b out:Array P0}{na nb:Nat}
theorem TwoH.fa (t:TwoH U R a b): ∀x∈a.toList.reverse,U x:=λx hx=>t.ua x (B3.mp hx)
theorem TwoH.fb (t:TwoH U R a b): ∀x∈b.toList.reverse,U x:=λx hx=>t.ub x (B3.mp hx)
theorem MH.start (a b:Array P0):MH R a b a.toList.length b.toList.length #[]:=by
 unfold MH;rw [aX,aX];exact MI.start _ _
theorem MH.pushA (t:TwoH U R a b){y:P0}(m:MH R a b na nb out)(h1:1<=na)(hn:na<=a.toList.length)(hb:nb<=b.toList.length)(hy:a.toList[na-1]? =some y)(lt: ∀z,1<=nb->b.toList[nb-1]? =some z->R z y=true):MH R a b (na-1) nb (out.push y):=by
 have:=MI.pushB m t.o.flip t.fb t.fa (jK t.sb) (jK t.sa) (by rw [Xu h1 hn];exact hy) (λz hz=>lt z (zj hb hz).1 (zj hb hz).2);unfold MH;rw [J8,show a.toList.length-(na-1)=a.toList.length-na+1 by omega];exact this
theorem MH.pushB (t:TwoH U R a b){y:P0}(m:MH R a b na nb out)(h1:1<=nb)(hn:nb<=b.toList.length)(ha:na<=a.toList.length)(hy:b.toList[nb-1]? =some y)(ge: ∀z,1<=na->a.toList[na-1]? =some z->R y z=false):MH R a b na (nb-1) (out.push y):=by
 have:=MI.pushA m t.o.flip t.fb t.fa (jK t.sb) (jK t.sa) (by rw [Xu h1 hn];exact hy) (λz hz=>ge z (zj ha hz).1 (zj ha hz).2);unfold MH;rw [J8,show b.toList.length-(nb-1)=b.toList.length-nb+1 by omega];exact this
theorem yy (a:Array P0)(n:Nat):(a.extract 0 n).toList=a.toList.take n:=by
 rw [A9,F7,fC,Nat.sub_zero]
theorem MH.done (t:TwoH U R a b)(m:MH R a b na nb out)(ha:na<=a.toList.length)(hb:nb<=b.toList.length)(h:na=0\/nb=0):wG R a b (a.extract 0 na++b.extract 0 nb++out.reverse):=by
 have:=MI.done m t.o.flip t.fb t.fa (jK t.sb) (jK t.sa) (by rw [S6];omega) (by rw [S6];omega) (by rw [S6,S6];omega);rw [yw _ ha,yw _ hb] at this;have e:(a.extract 0 na++b.extract 0 nb++out.reverse).toList=(out.toList++(b.toList.take nb).reverse++(a.toList.take na).reverse).reverse:=by
  rw [M0,M0,yy,yy,W5];simp [G6]
 unfold wG;rw [e];refine⟨(C6 _).trans (this.1.trans ?_),Vm this.2⟩;exact(dD (C6 _) (C6 _)).trans J3
theorem MH.firstB (t:TwoH U R a b)(m:MH R a b na nb out)(ha:na<=a.toList.length)(hb:nb=1)(hb':1<=b.toList.length):wG R a b (b.extract 0 nb++a.extract 0 na++out.reverse):=by
 subst hb;have:=MI.lastA m t.o.flip t.fb t.fa (jK t.sb) (jK t.sa) (by rw [S6];omega) (by rw [S6];omega) (λz hz y hy=>by
  rw [S6] at hy;have:=(zj hb' hy).2;exact t.first z (B3.mp hz) y (by simpa using this))
 rw [yw _ ha,yw _ hb'] at this;have e:(b.extract 0 1++a.extract 0 na++out.reverse).toList=(out.toList++(a.toList.take na).reverse++(b.toList.take 1).reverse).reverse:=by
  rw [M0,M0,yy,yy,W5];simp [G6]
 unfold wG;rw [e];refine⟨(C6 _).trans (this.1.trans ?_),Vm this.2⟩;exact(dD (C6 _) (C6 _)).trans J3
theorem Vn (l:List P0){p n:Nat}(h1:p<=n)(hn:n<=l.length):(l.reverse.drop (l.length-n)).take (n-p)=((l.drop p).take (n-p)).reverse:=by
 rw [yw l hn,List.take_reverse,D4,bJ,Q8 hn,show n-(n-p)=p by omega]
theorem Xv (a:Array P0){p n:Nat}(h:p<=n):(a.extract p n).reverse.toList=((a.toList.drop p).take (n-p)).reverse:=by
 rw [W5,A9,F7]
theorem MH.manyA (t:TwoH U R a b)(m:MH R a b na nb out)(p:Nat)(hp:p<=na)(hn:na<=a.toList.length)(hb:nb<=b.toList.length)(h: ∀i,p<=i->i<na-> ∀y,a.toList[i]? =some y-> ∀z,1<=nb->b.toList[nb-1]? =some z->R z y=true):MH R a b p nb (out++(a.extract p na).reverse):=by
 have:=MI.manyB t.o.flip t.fb t.fa (jK t.sb) (jK t.sa) (na-p) m (by rw [S6];omega) (λi hi y hy z hz=>by
  rw [J4 (by omega)] at hy;exact h _ (by omega) (by omega) y hy z (zj hb hz).1 (zj hb hz).2)
 rw [Vn _ hp hn] at this;unfold MH;rw [M0,Xv _ hp,show a.toList.length-p=a.toList.length-na+(na-p) by omega];exact this
theorem MH.manyB (t:TwoH U R a b)(m:MH R a b na nb out)(p:Nat)(hp:p<=nb)(hn:nb<=b.toList.length)(ha:na<=a.toList.length)(h: ∀i,p<=i->i<nb-> ∀y,b.toList[i]? =some y-> ∀z,1<=na->a.toList[na-1]? =some z->R y z=false):MH R a b na p (out++(b.extract p nb).reverse):=by
 have:=MI.manyA t.o.flip t.fb t.fa (jK t.sb) (jK t.sa) (nb-p) m (by rw [S6];omega) (λi hi y hy z hz=>by
  rw [J4 (by omega)] at hy;exact h _ (by omega) (by omega) y hy z (zj ha hz).1 (zj ha hz).2)
 rw [Vn _ hp hn] at this;unfold MH;rw [M0,Xv _ hp,show b.toList.length-p=b.toList.length-nb+(nb-p) by omega];exact this
end
def mHi:Array P0->Array P0->StateT R9 Sem (Array P0):=sortPriv% PySem.Builtin.mergeHi
section
variable {arr:Array P0}{y:P0}{n hint:Nat}{st:R9}{Q:Option Nat->R9->Prop}
theorem Cm (ak:Wa prog w A J κ U R)(kd:kindOf st=κ)(o:Ordd U R)(u: ∀x∈arr.toList,U x)(s:Srt R arr.toList)(uy:U y)(hn:n<=arr.size)(hh:hint<n)
 (q: ∀k,k<=n->(∀i,i<k-> ∀x,arr.toList[i]? =some x->R y x=false)->(∀i,k<=i->i<n-> ∀x,arr.toList[i]? =some x->R y x=true)->Q (some k) st):Tm prog w A E J (gal false y arr 0 n hint) Q st:=
 Fj ak kd o u s uy (by rw [O3];exact hn) hh λk h k2 k3=>q k h (λi hi x hx=>k2 i hi x (by rw [O3];exact hx)) λi hi hj x hx=>k3 i hi hj x (by rw [O3];exact hx)
theorem Cn (ak:Wa prog w A J κ U R)(kd:kindOf st=κ)(o:Ordd U R)(u: ∀x∈arr.toList,U x)(s:Srt R arr.toList)(uy:U y)(hn:n<=arr.size)(hh:hint<n)
 (q: ∀k,k<=n->(∀i,i<k-> ∀x,arr.toList[i]? =some x->R x y=true)->(∀i,k<=i->i<n-> ∀x,arr.toList[i]? =some x->R x y=false)->Q (some k) st):Tm prog w A E J (gal true y arr 0 n hint) Q st:=
 Fk ak kd o u s uy (by rw [O3];exact hn) hh λk h k2 k3=>q k h (λi hi x hx=>k2 i hi x (by rw [O3];exact hx)) λi hi hj x hx=>k3 i hi hj x (by rw [O3];exact hx)
end
structure HiI (R:P0->P0->Bool)(a b:Array P0)(st st':R9)(n N na nb:Nat)(out:Array P0):Prop where
 g:Gal st st'
 m:MH R a b na nb out
 a':na<=a.size
 b':nb<=b.size
 a:1<=na
 b:2<=nb
 n:n+na+nb<=N
def HiO (R:P0->P0->Bool)(a b:Array P0)(st st':R9)(n N:Nat)(r:Option (Array P0))(na nb:Nat)(out:Array P0):Prop:=Gal st st'/\match r with|some c=>wG R a b c|none=>HiI R a b st st' n N na nb out
section
variable {a b out:Array P0}{st st' s:R9}{n N k M na nb:Nat}
theorem HiI.at (h:HiI R a b st st' n N na nb out)(g:Gal st s)(l:n+na+nb<=N->k+na+nb<=M):HiI R a b st s k M na nb out:=⟨g,h.m,h.a',h.b',h.a,h.b,l h.n⟩
theorem HiI.here (h:HiI R a b st st' n N na nb out):HiI R a b st st' 0 (na+nb) na nb out:=h.at h.g λ_=>by omega
theorem HiI.never {P:Prop}(h:HiI R a b st st' n N na nb out)(l:N<=n):P:=by have:=h.n;have:=h.a;omega
theorem HiI.le (h:HiI R a b st st' n N na nb out):na+nb<=a.size+b.size:=Nat.add_le_add h.a' h.b'
theorem HiI.a1 (h:HiI R a b st st' n N na nb out):na-1<a.size:=R7 (U3 h.a K5) h.a'
theorem HiI.b1 (h:HiI R a b st st' n N na nb out):nb-1<b.size:=R7 (U3 (C5 h.b) K5) h.b'
end
theorem GW (h:2<=n)(c: ¬n-1=1):2<=n-1:=by omega
theorem Xw (c: ¬n-1=0):1<=n-1:=U4 c
theorem Np {a b:Array P0}{st:R9}{Q:Array P0->R9->Prop}(ak:Wa prog w A J κ U R)(kd:kindOf st=κ)(t:TwoH U R a b)
 (na:1<=a.size)(nb:1<=b.size)(last: ∀y z,b.toList[b.size-1]? =some y->a.toList[a.size-1]? =some z->R y z=true)
 (q: ∀c st',Gal st st'->wG R a b c->Q c st'):Tm prog w A E J (mHi a b) Q st:=by
 refine .bind (.rule (.bind (zE t.ua (U3 na K5) λa0 ea0 la0 ua0=> .elem ea0 ?_)));have m0:MH R a b (a.size-1) b.size #[a0]:=MH.pushA t (MH.start (R:=R) a b) na (G5 _) (G5 _) la0 (λz _ hz=>last z a0 hz la0);have n1:a.size-1<=a.size:=gH _ _;refine .eq2 (x:=a.size-1) (y:=0) (λz1=> .pure (q _ _ (Gal.refl st) (MH.done t m0 n1 (G5 _) (.inl z1)))) λz1=> .eq2 (x:=b.size) (y:=1) (λz2=> .pure (q _ _ (Gal.refl st) (MH.firstB t m0 n1 z2 nb))) λz2=> .bind (.get ?_)
 refine .bind (Tm.mono (Tm.range (λi c st'=>HiI R a b st st' (i+1) (a.size+b.size) c.2.1 c.2.2.1 c.2.2.2.1)
  (Q:=λc st'=> ∃r,c.1=some r/\Gal st st'/\wG R a b r) (S1 _) ⟨Gal.refl st,m0,n1,G5 _,Xw z1,by dsimp only;omega,by dsimp only;omega⟩ ?_ ?_) ?_)
 ·intro i c st1 hi;revert c;refine NZ λr ia ib out mg h=> ?_
  refine .bind (Tm.mono (Tm.range (λj c st'=>HiI R a b st st' j (ia+ib) c.2.1 c.2.2.1 c.2.2.2.1)
   (Q:=λc st'=>HiO R a b st st' 1 (ia+ib) c.1 c.2.1 c.2.2.1 c.2.2.2.1) (S1 _) h.here ?_ ?_) ?_)
  ·intro j c st2 hj;revert c;refine Ba λr ja jb out ac bc h=> ?_
   refine .bind (zE t.ub h.b1 λy ey ly uy=> .elem ey (.bind (zE t.ua h.a1 λx ex lx ux=> .elem ex (.bind (.lt ak (h.g.1.trans kd) uy ux (.if2 (c:=R y x=true) (λhb=> .bind (.elem ex ?_)) λhb=> .bind (.elem ey ?_)))))))
   ·have m1:=MH.pushA t h.m h.a h.a' h.b' lx (λz _ hz=>by rw [ly] at hz;injection hz with hz;rw [<-hz];exact hb);refine .eq2 (x:=ja-1) (y:=0) (λc1=> .pure ⟨h.g,MH.done t m1 (D8 h.a1) h.b' (.inl c1)⟩) λc1=> ?_
    have d:HiI R a b st st2 (j+1) (ia+ib) (ja-1) jb (out.push x):=⟨h.g,m1,D8 h.a1,h.b',Xw c1,h.b,by have:j+ja+jb<=ia+ib:=h.n;have:1<=ja:=h.a;have:2<=jb:=h.b;omega⟩;exact .if2 (λ_=> .pure ⟨h.g,d.at h.g λ_=>by omega⟩) λ_=> .pure d
   ·have m1:=MH.pushB t h.m (D8 h.b) h.b' h.a' ly (λz _ hz=>by rw [lx] at hz;injection hz with hz;rw [<-hz];exact J9.mpr hb);refine .eq2 (x:=jb-1) (y:=1) (λc1=> .pure ⟨h.g,MH.firstB t m1 h.a' c1 nb⟩) λc1=> ?_
    have d:HiI R a b st st2 (j+1) (ia+ib) ja (jb-1) (out.push y):=⟨h.g,m1,h.a',D8 h.b1,h.a,GW h.b c1,by have:j+ja+jb<=ia+ib:=h.n;have:1<=ja:=h.a;have:2<=jb:=h.b;omega⟩;exact .if2 (λ_=> .pure ⟨h.g,d.at h.g λ_=>by omega⟩) λ_=> .pure d
  ·exact λc st2 h'=>h'.never h.le
  ·intro c st2;revert c;refine Ba λr ja jb out ac bc h'=> ?_
   cases r with
   |some r=>exact .pure ⟨r,rfl,h'⟩
   |none=>
   replace h':=h'.2
   refine .bind (.rule (.bind (Tm.mono (Tm.range (λj c st'=>HiI R a b st st' j (ja+jb) c.2.1 c.2.2.1 c.2.2.2.1)
    (Q:=λc st'=>HiO R a b st st' 0 (ja+jb) c.1 c.2.1 c.2.2.1 c.2.2.2.1) (S1 _) h'.here ?_ ?_) ?_)))
   ·clear h;intro j c st2 hj;revert c;refine Bb λr pa pb out mg ac bc h=> ?_
    refine zE t.ub h.b1 λy ey ly uy=> ?_
    refine Tm.both (y:=mg) (x:=mg-1) (by rfl) (by rfl) λmg=> ?_
    refine .bind (Tm.modify (.bind (.elem ey (.bind (Cm (n:=pa) ak (h.g.1.trans kd) t.o t.ua t.sa uy h.a' (U3 h.a K5) λk k1 k2 k3=> ?_)))));dsimp only;generalize eac:pa-k=ac;refine Tm.join (I:=λna o=>MH R a b na pb o/\1<=na/\na<=pa/\ ∀z,a.toList[na-1]? =some z->R y z=false) (x:=pa) (z:=out) (by rfl) ?_ ?_ ?_
    ·refine λqa o i1=> ?_
     have la:=D9 i1.2.2.1 h.a';have M2:=MH.pushB t i1.1 (D8 h.b) h.b' la ly (λz _ hz=>i1.2.2.2 z hz);refine .bind (.elem ey (.eq2 (x:=pb-1) (y:=1) (λc3=> .pure ⟨h.g,MH.firstB t M2 la c3 nb⟩) λc3=> ?_));have c8:=GW h.b c3;have lb:=D8 h.b1;have n1:j+pa+pb<=ja+jb:=h.n;have n2:pb=pb-1+1:=(Nat.sub_add_cancel (D8 h.b)).symm;refine .bind (zE t.ua (R7 (U3 i1.2.1 K5) la) λx ex lx ux=> .elem ex (.bind (Cn (n:=pb-1) ak (h.g.1.trans kd) t.o t.ub t.sb ux lb (U3 (C5 c8) K5) λk' q1 q2 q3=> ?_)));dsimp only;dsimp only at c8 lb;generalize ep:pb-1=p2 at M2 q1 q2 q3 c8 lb n2 ⊢;generalize eo:o.push y=o2 at M2 ⊢;generalize ebc:p2-k'=bc;refine Tm.join (I:=λnb o=>MH R a b qa nb o/\2<=nb/\nb<=p2/\ ∀z,b.toList[nb-1]? =some z->R z x=true) (x:=p2) (z:=o2) (by rfl) ?_ ?_ ?_
     ·refine λqb o i2=> ?_
      have lb':=D9 i2.2.2.1 lb;have M4:=MH.pushA t i2.1 i1.2.1 la lb' lx (λz _ hz=>i2.2.2.2 z hz);have la':=D9 (gH qa 1) la;refine .bind (.elem ex (.eq2 (x:=qa-1) (y:=0) (λc5=> .pure ⟨h.g,MH.done t M4 la' lb' (.inl c5)⟩) λc5=> ?_));have n3:j+1+(qa-1)+qb<=ja+jb:=by have:=i1.2.1;have:=i1.2.2.1;have:=i2.2.2.1;omega
      have d:HiI R a b st st2 (j+1) (ja+jb) (qa-1) qb (o.push x):=⟨h.g,M4,la',lb',Xw c5,i2.2.1,n3⟩;exact .if2 (λ_=> .pure ⟨h.g,d.at h.g λ_=>by omega⟩) λ_=> .pure (d.at h.g id)
     ·intro kz' H;have M3:=MH.manyB t M2 k' q1 lb la (λi hi1 hi2 y' hy z hz1 hz=>by rw [lx] at hz;injection hz with hz;rw [<-hz];exact q3 i hi1 hi2 y' hy);exact .eq2 (x:=k') (y:=1) (λc4=> .pure ⟨h.g,MH.firstB t M3 la c4 nb⟩) λc4=> .eq2 (x:=k') (y:=0) (λc7=> .pure ⟨h.g,MH.done t M3 la (D9 q1 lb) (.inr c7)⟩) λc7=>H _ _ ⟨M3,by omega,q1,λz hz=>q2 (k'-1) (U3 (U4 c7) K5) z hz⟩
     ·exact λkz'=>⟨M2,c8,G5 _,λz hz=>q2 (p2-1) (by omega) z hz⟩
    ·intro kz H;have m1:=MH.manyA t h.m k k1 h.a' h.b' (λi hi1 hi2 x hx z hz1 hz=>by rw [ly] at hz;injection hz with hz;rw [<-hz];exact k3 i hi1 hi2 x hx);exact .eq2 (x:=k) (y:=0) (λc1=> .pure ⟨h.g,MH.done t m1 (D9 k1 h.a') h.b' (.inl c1)⟩) λc1=>H _ _ ⟨m1,U4 c1,k1,λz hz=>k2 (k-1) (U3 (U4 c1) K5) z hz⟩
    ·exact λkz=>⟨h.m,h.a,G5 _,λz hz=>k2 (pa-1) (by have:1<=pa:=h.a;omega) z hz⟩
   ·exact λc st3 h=>h.never h'.le
   ·intro c st3;revert c;refine Bb λr pa pb out mg ac bc h3=> ?_
    cases r with
    |some r=>exact .pure ⟨r,rfl,h3⟩
    |none=>exact .bind (Tm.modify (.pure (h3.2.at h3.1 λl=>by have n1:i+1+ia+ib<=a.size+b.size:=h.n;have n2:1+ja+jb<=ia+ib:=h'.n;dsimp only at l ⊢;omega)))
 ·exact λc st1 h=>h.never (Q0 _ _)
 ·intro c st1;revert c;refine NZ λr ia ib out mg h=> ?_
  obtain⟨c,rfl,gl,wh⟩:=h;exact .pure (q c st1 gl wh)
end
section
variable {prog:R5}{w:T4}{A:T9}{E:G0->G2->Prop}{J:G2->Prop}{κ:SortKind}{U:P0->Prop}{R:P0->P0->Bool}
def seg (l:List P0)(p n:Nat):List P0:=(l.drop p).take n
variable {n:Nat}
theorem Zb {l:List P0}{p i:Nat}(hi:i<n):(seg l p n)[i]? =l[p+i]? :=by
 unfold seg;rw [Q6 hi,J0]
theorem Ji {l:List P0}{p:Nat}(h:p+n<=l.length):(seg l p n).length=n:=by
 unfold seg;rw [D4,S8];omega
theorem Yp {l:List P0}{p:Nat}{x:P0}(h:x∈seg l p n):x∈l:=M5 (N2 h)
theorem Fl {left:Bool}{arr:Array P0}{y:P0}{base hint:Nat}{st:R9}{Q:Option Nat->R9->Prop}(ak:Wa prog w A J κ U R)(kd:kindOf st=κ)(o:Ordd U R)(u: ∀x∈arr.toList,U x)(s:Srt R (seg arr.toList base n))(uy:U y)(hn:base+n<=arr.size)(hh:hint<n)
 (q: ∀k,k<=n->(∀x∈(seg arr.toList base n).take k,(if left=true then R x y else !R y x)=true)->(∀x∈(seg arr.toList base n).drop k,(if left=true then R x y else !R y x)=false)->Q (some k) st):Tm prog w A E J (gal left y arr base n hint) Q st:=by
 have ln:arr.toList.length=arr.size:=by simp
 have sl:(seg arr.toList base n).length=n:=Ji (by omega);have us: ∀x∈seg arr.toList base n,U x:=λx hx=>u x (Yp hx)
 refine Xt ak kd uy (λi hi=> ?_) (λi j hij hj h=> ?_) hh (λk k1 k2 k3=>q k k1 (λx hx=> ?_) (λx hx=> ?_))
 ·obtain⟨x,lx,ex⟩:=Jh (show base+i<arr.size by omega);exact⟨x,ex,u x (G8 lx)⟩
 ·obtain⟨x,lx,_⟩:=Jh (show base+i<arr.size by omega);obtain⟨z,lz,_⟩:=Jh (show base+j<arr.size by omega);have ux:=u x (G8 lx);have uz:=u z (G8 lz);have le:=Jg s o us hij (by rw [Zb (by omega)];exact lx) (by rw [Zb hj];exact lz);rw [wf lz] at h;rw [wf lx];cases left with
  |true=>
   have hz:R z y=true:=by simpa using h
   rcases o.neg z x y uz ux uy hz with v|v
   ·rw [le] at v;cases v
   ·simp [v]
  |false=>
   have hz:R y z=false:=by simpa using h
   have:=o.trans ux uz uy le hz;simp [this]
 ·obtain⟨i,hi,e⟩:=L9 hx;rw [D4,sl] at hi;have lx:arr.toList[base+i]? =some x:=by
   rw [<-Zb (n:=n) (by omega),G1 (by omega),<-e,cR]
  have:=k2 i (by omega);rw [wf lx] at this;exact this
 ·obtain⟨i,hi,e⟩:=L9 hx;rw [S8,sl] at hi;have lx:arr.toList[base+(k+i)]? =some x:=by
   rw [<-Zb (n:=n) (by omega),G1 (by omega),<-e,cS]
  have:=k3 (k+i) (by omega) (by omega);rw [wf lx] at this;exact this
theorem Vo: ∀ (m:List P0) (arr:Array P0) (p d:Nat),p+d+m.length<=arr.size->((m.zipIdx d).foldl (λ(c:Array P0) (x:P0×Nat)=>c.setIfInBounds (p+x.2) x.1) arr).toList=arr.toList.take (p+d)++m++arr.toList.drop (p+d+m.length)
 | [],arr,p,d,_=>by simp
 |x::m,arr,p,d,h=>by
  rw [D5] at h;rw [List.zipIdx_cons,a4];rw [Vo m _ p (d+1) (by rw [aG];omega)];have hl:arr.toList.length=arr.size:=by simp
  rw [Z6];have e1:(arr.toList.set (p+d) x).take (p+(d+1))=arr.toList.take (p+d)++ [x]:=by
   rw [show p+(d+1)=p+d+1 by omega,T0,U7 (by omega)];rw [List.take_set_of_le (G5 _)];rfl
  have e2:(arr.toList.set (p+d) x).drop (p+(d+1)+m.length)=arr.toList.drop (p+d+(m.length+1)):=by
   rw [List.drop_set_of_lt (by omega),show p+(d+1)+m.length=p+d+(m.length+1) by omega]
  rw [e1,e2,D5];simp [G6]
end
section
variable {prog:R5}{w:T4}{A:T9}{E:G0->G2->Prop}{J:G2->Prop}{κ:SortKind}{U:P0->Prop}{R:P0->P0->Bool}
theorem Tm.set {σ:Type}{st st':σ}{Q:PUnit->σ->Prop}(q:Q ⟨⟩ st'):Tm prog w A E J (MonadStateOf.set st':StateT σ Sem PUnit) Q st:=λs j=>by
 show wpAny _ _ ((StateT.set st':StateT σ Sem PUnit).run st) _ _ _;exact P9 ⟨q,j⟩
theorem Xx (a:Array P0){p n:Nat}(h:p<=n):(a.extract p n).toList=seg a.toList p (n-p):=by
 rw [A9,F7];rfl
theorem Xy (o:Ordd U R){l:List P0}(u: ∀x∈l,U x)(s:Srt R l){z:P0}(hz:l[l.length-1]? =some z){x:P0}(hx:x∈l):R z x=false:=by
 obtain⟨i,hi,e⟩:=L9 hx;exact Jg s o u (show i<=l.length-1 by omega) (by rw [G1 hi,e]) hz
theorem Vp (o:Ordd U R){l:List P0}(u: ∀x∈l,U x)(s:Srt R l){z:P0}(hz:l[0]? =some z){x:P0}(hx:x∈l):R x z=false:=by
 obtain⟨i,hi,e⟩:=L9 hx;exact Jg s o u (S1 _) hz (by rw [G1 hi,e])
theorem Jj (o:Ordd U R){X Y c:List P0}{k k2:Nat}{y0 x9:P0}(uX: ∀x∈X,U x)(uY: ∀x∈Y,U x)(sX:Srt R X)(sY:Srt R Y)(hy:Y[0]? =some y0)(hx:X[X.length-1]? =some x9)
 (f1: ∀x∈X.take k,R y0 x=false)(g2: ∀y∈Y.drop k2,R y x9=false)(hp:c.Perm (X.drop k++Y.take k2))(sc:Srt R c):(X.take k++c++Y.drop k2).Perm (X++Y)/\Srt R (X.take k++c++Y.drop k2):=by
 have uy0:=uY y0 (G8 hy);have ux9:=uX x9 (G8 hx);constructor
 ·have e:X++Y=X.take k++(X.drop k++Y.take k2)++Y.drop k2:=by
   rw [<-G6,D6,G6,D6]
  rw [e];exact(hp.append_left _).append_right _
 ·have inX: ∀x∈X.take k,∀z∈X.drop k,R z x=false:=λx hx z hz=>by
   have:Srt R (X.take k++X.drop k):=by rw [D6];exact sX
   exact(R8.mp this).2.2 x hx z hz
  have inY: ∀x∈Y.take k2,∀z∈Y.drop k2,R z x=false:=λx hx z hz=>by
   have:Srt R (Y.take k2++Y.drop k2):=by rw [D6];exact sY
   exact(R8.mp this).2.2 x hx z hz
  have xy: ∀x∈X.take k,∀y∈Y,R y x=false:=λx hx y hy'=>o.trans (uX x (N2 hx)) uy0 (uY y hy') (f1 x hx) (Vp o uY sY hy hy')
  have yx: ∀x∈X,∀y∈Y.drop k2,R y x=false:=λx hx' y hy'=>o.trans (uX x hx') ux9 (uY y (M5 hy')) (Xy o uX sX hx hx') (g2 y hy')
  have xc: ∀x∈X.take k,∀z∈c,R z x=false:=λx hx z hz=>by
   rcases D0.mp (hp.mem_iff.mp hz) with v|v
   ·exact inX x hx z v
   ·exact xy x hx z (N2 v)
  refine R8.mpr ⟨R8.mpr ⟨sX.sublist (J6 _ _),sc,xc⟩,sY.sublist (C4 _ _),λx hx y hy=> ?_⟩;rcases D0.mp hx with v|v
  ·exact xy x v y (M5 hy)
  ·rcases D0.mp (hp.mem_iff.mp v) with v|v
   ·exact yx x (M5 v) y hy
   ·exact inY x v y hy
theorem WC (l:List P0){p n m:Nat}:l=l.take p++(seg l p n++seg l (p+n) m)++l.drop (p+n+m):=by
 unfold seg;have e1:(l.drop (p+n)).take m++l.drop (p+n+m)=l.drop (p+n):=by
  rw [show l.drop (p+n+m)=(l.drop (p+n)).drop m by rw [A0],D6]
 have e2:(l.drop p).take n++l.drop (p+n)=l.drop p:=by
  rw [show l.drop (p+n)=(l.drop p).drop n by rw [A0],D6]
 rw [G6,G6,e1,e2,D6]
theorem Nq {st:R9}{Q:Bool->R9->Prop}{i sa na pw sb nb pw2:Nat}(ak:Wa prog w A J κ U R)(kd:kindOf st=κ)(o:Ordd U R)(u: ∀x∈(arrOf st).toList,U x)(p1:(pendingOf st)[i]? =some (sa,na,pw))(p2:(pendingOf st)[i+1]? =some (sb,nb,pw2))
 (hs:sa+na=sb)(n1:1<=na)(n2:1<=nb)(hz:sb+nb<=(arrOf st).size)(s1:Srt R (seg (arrOf st).toList sa na))(s2:Srt R (seg (arrOf st).toList sb nb))(hf:failedOf st=none)
 (q: ∀st' Z,kindOf st'=κ->failedOf st'=none->pendingOf st'=((pendingOf st).setIfInBounds i (sa,na+nb,pw)).eraseIdxIfInBounds (i+1)->(arrOf st').toList=(arrOf st).toList.take sa++Z++(arrOf st).toList.drop (sb+nb)->Z.Perm (seg (arrOf st).toList sa na++seg (arrOf st).toList sb nb)->Srt R Z->Q true st'):
 Tm prog w A E J (mergeAt' i) Q st:=by
 have ln:(arrOf st).toList.length=(arrOf st).size:=by simp
 unfold mergeAt';refine .bind (.get ?_);dsimp only;rw [p1,p2];dsimp only;refine .bind (Tm.set ?_);subst hs;have lX:(seg (arrOf st).toList sa na).length=na:=Ji (by omega);have lY:(seg (arrOf st).toList (sa+na) nb).length=nb:=Ji (by omega);have uX: ∀x∈seg (arrOf st).toList sa na,U x:=λx hx=>u x (Yp hx)
 have uY: ∀x∈seg (arrOf st).toList (sa+na) nb,U x:=λx hx=>u x (Yp hx)
 obtain⟨y0,ly0,ey0⟩:=Jh (arr:=arrOf st) (show sa+na<(arrOf st).size by omega);obtain⟨x9,lx9,ex9⟩:=Jh (arr:=arrOf st) (show sa+(na-1)<(arrOf st).size by omega);have hy:(seg (arrOf st).toList (sa+na) nb)[0]? =some y0:=by rw [Zb (by omega)];exact ly0
 have hx:(seg (arrOf st).toList sa na)[(seg (arrOf st).toList sa na).length-1]? =some x9:=by rw [lX,Zb (by omega)];exact lx9
 have uy0:=u y0 (G8 ly0);have ux9:=u x9 (G8 lx9);have c3:=WC (arrOf st).toList (p:=sa) (n:=na) (m:=nb);have same: ∀ (st':R9),arrOf st'=arrOf st-> ∀k k2,(∀x∈(seg (arrOf st).toList sa na).take k,R y0 x=false)->(∀y∈(seg (arrOf st).toList (sa+na) nb).drop k2,R y x9=false)->(na<=k\/k2=0)->Srt R (seg (arrOf st).toList sa na++seg (arrOf st).toList (sa+na) nb):=λst' e k k2 f1 g2 h=>by
  have pl:(((seg (arrOf st).toList sa na).drop k++(seg (arrOf st).toList (sa+na) nb).take k2)).Perm ((seg (arrOf st).toList sa na).drop k++(seg (arrOf st).toList (sa+na) nb).take k2):= .refl _;have sc:Srt R ((seg (arrOf st).toList sa na).drop k++(seg (arrOf st).toList (sa+na) nb).take k2):=by
   rcases h with h|h
   ·rw [N0 (by omega),N7];exact s2.sublist (J6 _ _)
   ·rw [h,Z5,C8];exact s1.sublist (C4 _ _)
  have:=(Jj o uX uY s1 s2 hy hx f1 g2 pl sc).2;rw [<-G6,D6,G6,D6] at this;exact this
 refine .bind (.elem ey0 (.bind (Fl (left:=false) ak kd o u s1 uy0 (show sa+na<=(arrOf st).size by omega) (by omega) λk k1 f1 f2=> ?_)));have f1: ∀x∈(seg (arrOf st).toList sa na).take k,R y0 x=false:=λx hx=>by simpa using f1 x hx
 have f2: ∀x∈(seg (arrOf st).toList sa na).drop k,R y0 x=true:=λx hx=>by simpa using f2 x hx
 dsimp only
 by_cases z1:na-k=0
 ·rw [if_pos (by simpa using z1)];refine .pure (q _ (seg (arrOf st).toList sa na++seg (arrOf st).toList (sa+na) nb) kd hf rfl c3 (.refl _) (same st rfl k nb f1 (λy hy=> ?_) (.inl (by omega))));rw [N0 (by omega)] at hy;cases hy
 rw [if_neg (by simpa using z1)];refine .bind (.elem (show _=some x9 by rw [show sa+k+(na-k)-1=sa+(na-1) by omega];exact ex9) (.bind (Fl (left:=true) ak kd o u s2 ux9 (show sa+na+nb<=(arrOf st).size by omega) (by omega) λk2 j1 g1 g2=> ?_)));have g1: ∀y∈(seg (arrOf st).toList (sa+na) nb).take k2,R y x9=true:=λx hx=>by simpa using g1 x hx
 have g2: ∀y∈(seg (arrOf st).toList (sa+na) nb).drop k2,R y x9=false:=λx hx=>by simpa using g2 x hx
 dsimp only
 by_cases z2:k2=0
 ·rw [if_pos (by simpa using z2)];exact .pure (q _ _ kd hf rfl c3 (.refl _) (same st rfl k k2 f1 g2 (.inr z2)))
 rw [if_neg (by simpa using z2)];have eX:((arrOf st).extract (sa+k) (sa+na)).toList=(seg (arrOf st).toList sa na).drop k:=by
  rw [Xx _ (by omega)];unfold seg;rw [bJ,A0,show sa+na-(sa+k)=na-k by omega]
 have eY:((arrOf st).extract (sa+na) (sa+na+k2)).toList=(seg (arrOf st).toList (sa+na) nb).take k2:=by
  rw [Xx _ (by omega)];unfold seg;rw [bK,show sa+na+k2-(sa+na)=min k2 nb by omega]
 have sx:((arrOf st).extract (sa+k) (sa+na)).size=na-k:=by rw [<-T2,eX,S8,lX]
 have sy:((arrOf st).extract (sa+na) (sa+na+k2)).size=k2:=by rw [<-T2,eY,D4,lY];omega
 have hx2: ∀z,((seg (arrOf st).toList sa na).drop k)[((seg (arrOf st).toList sa na).drop k).length-1]? =some z->z=x9:=λz hz'=>by
  rw [S8,J0,lX,show k+(na-k-1)=na-1 by omega] at hz';rw [lX] at hx;rw [hx] at hz';injection hz' with hz';exact hz'.symm
 have hy2: ∀z,((seg (arrOf st).toList (sa+na) nb).take k2)[0]? =some z->z=y0:=λz hz'=>by
  rw [Q6 (by omega),hy] at hz';injection hz' with hz';exact hz'.symm
 have put: ∀c:Array P0,wG R ((arrOf st).extract (sa+k) (sa+na)) ((arrOf st).extract (sa+na) (sa+na+k2)) c->(c.toList.zipIdx.foldl (λ(d:Array P0) (x:P0×Nat)=>d.setIfInBounds (sa+k+x.2) x.1) (arrOf st)).toList=(arrOf st).toList.take sa++((seg (arrOf st).toList sa na).take k++c.toList++(seg (arrOf st).toList (sa+na) nb).drop k2)++(arrOf st).toList.drop (sa+na+nb):=λc wh=>by
  have lc:c.toList.length=na-k+k2:=by
   rw [wh.1.length_eq,G3,T2,T2,sx,sy]
  have:=Vo c.toList (arrOf st) (sa+k) 0 (by omega);rw [this,lc,aY,show sa+k+(na-k+k2)=sa+na+k2 by omega];have e1:(arrOf st).toList.take (sa+k)=(arrOf st).toList.take sa++(seg (arrOf st).toList sa na).take k:=by
   unfold seg;rw [bK,Q8 k1,List.take_add]
  have e2:(arrOf st).toList.drop (sa+na+k2)=(seg (arrOf st).toList (sa+na) nb).drop k2++(arrOf st).toList.drop (sa+na+nb):=by
   unfold seg;have h1:((arrOf st).toList.drop (sa+na)).drop k2=(((arrOf st).toList.drop (sa+na)).take nb++((arrOf st).toList.drop (sa+na)).drop nb).drop k2:=by rw [D6]
   rw [L5 (by rw [D4,S8];omega),A0,A0] at h1;exact h1
  rw [e1,e2];simp [G6]
 have jr: ∀c:Array P0,wG R ((arrOf st).extract (sa+k) (sa+na)) ((arrOf st).extract (sa+na) (sa+na+k2)) c->_:=λc wh=>Jj o (c:=c.toList) uX uY s1 s2 hy hx f1 g2 (by have:=wh.1;rw [eX,eY] at this;exact this) wh.2
 by_cases z3:na-k<=k2
 ·rw [if_pos z3];refine .bind (No ak kd ⟨o,λx hx=> ?_,λx hx=> ?_,?_,?_,λy hy z hz'=> ?_⟩ (by rw [sx];omega) (by rw [sy];omega) (λy z hy' hz'=> ?_) λc st' gl wh=> .bind (Tm.modify (.bind (.get (.pure ?_)))))
  ·rw [eX] at hx;exact uX x (M5 hx)
  ·rw [eY] at hx;exact uY x (N2 hx)
  ·rw [eX];exact s1.sublist (C4 _ _)
  ·rw [eY];exact s2.sublist (J6 _ _)
  ·rw [eY] at hy;rw [eX] at hz';rw [hx2 z hz'];exact g1 y hy
  ·rw [eY] at hy';rw [eX] at hz';rw [hy2 y hy'];exact f2 z (G8 hz')
  ·have e:failedOf st'=none:=gl.2.2.2.trans hf;show Q (failedOf st').isNone _;rw [e];refine q _ _ (gl.1.trans kd) e gl.2.2.1 ?_ (jr c wh).1 (jr c wh).2;have ea:arrOf st'=arrOf st:=gl.2.1;show (c.toList.zipIdx.foldl _ (arrOf st')).toList=_;rw [ea];exact put c wh
 ·rw [if_neg z3];refine .bind (Np ak kd ⟨o,λx hx=> ?_,λx hx=> ?_,?_,?_,λz hz' y hy'=> ?_⟩ (by rw [sx];omega) (by rw [sy];omega) (λy z hy' hz'=> ?_) λc st' gl wh=> .bind (Tm.modify (.bind (.get (.pure ?_)))))
  ·rw [eX] at hx;exact uX x (M5 hx)
  ·rw [eY] at hx;exact uY x (N2 hx)
  ·rw [eX];exact s1.sublist (C4 _ _)
  ·rw [eY];exact s2.sublist (J6 _ _)
  ·rw [eY] at hy';rw [eX] at hz';rw [hy2 y hy'];exact f2 z hz'
  ·rw [eY] at hy';rw [eX,sx] at hz';have:=hx2 z (by rw [S8,lX];exact hz');rw [this];exact g1 y (G8 hy')
  ·have e:failedOf st'=none:=gl.2.2.2.trans hf;show Q (failedOf st').isNone _;rw [e];refine q _ _ (gl.1.trans kd) e gl.2.2.1 ?_ (jr c wh).1 (jr c wh).2;have ea:arrOf st'=arrOf st:=gl.2.1;show (c.toList.zipIdx.foldl _ (arrOf st')).toList=_;rw [ea];exact put c wh
end
section
variable {prog:R5}{w:T4}{A:T9}{E:G0->G2->Prop}{J:G2->Prop}{κ:SortKind}{U:P0->Prop}{R:P0->P0->Bool}
def Lies (st:R9)(P Z S:List P0):Prop:=(arrOf st).toList=P++Z++S
def Arr (st st':R9):Prop:=kindOf st'=kindOf st/\pendingOf st'=pendingOf st/\failedOf st'=failedOf st/\gallopOf st'=gallopOf st
theorem Arr.refl (st:R9):Arr st st:=⟨rfl,rfl,rfl,rfl⟩
theorem QZ (xs:Array P0)(P Z S:List P0)(h:xs.toList=P++Z++S):(mirror xs P.length (P.length+Z.length) ((P.length+Z.length-P.length) / 2)).toList=P++Z.reverse++S:=by
 have hl:xs.size=P.length+Z.length+S.length:=by rw [<-T2,h];simp [W4]
 refine cT λk=> ?_
 rw [T8,getElem?_mirror_all (by omega)]
 by_cases c:P.length<=k/\k<P.length+Z.length
 ·rw [if_pos c,<-T8,h,G6,G6];have e1:(P++(Z++S))[P.length+(P.length+Z.length)-1-k]? =Z[P.length+Z.length-1-k]? :=by
   rw [P7 (by omega),S2 (by omega)]
   congr 1;omega
  have e2:(P++(Z.reverse++S))[k]? =Z[P.length+Z.length-1-k]? :=by
   rw [P7 (by omega),S2 (by rw [S6];omega),J4 (by omega)]
   congr 1;omega
  rw [e1,e2]
 ·rw [if_neg c,<-T8,h,G6,G6]
  by_cases d:k<P.length
  ·rw [S2 d,S2 d]
  ·have e1:(P++(Z++S))[k]? =S[k-P.length-Z.length]? :=by
    rw [P7 (by omega),P7 (by omega)]
   have e2:(P++(Z.reverse++S))[k]? =S[k-P.length-Z.length]? :=by
    rw [P7 (by omega),P7 (by rw [S6];omega),S6]
   rw [e1,e2]
theorem Tm.rev {st:R9}{P Z S:List P0}{i j:Nat}{Q:Unit->R9->Prop}(h:Lies st P Z S)(hi:i=P.length)(hj:j=P.length+Z.length)(q: ∀st',Arr st st'->Lies st' P Z.reverse S->Q () st'):Tm prog w A E J (reverseSlice' i j) Q st:=by
 rw [reverseSlice'_eq];subst hi hj;exact .modify (q _ ⟨rfl,rfl,rfl,rfl⟩ (QZ _ P Z S h))
theorem Tm.ltAt {st:R9}{x y:P0}{i j:Nat}{Q:Option Bool->R9->Prop}(ak:Wa prog w A J κ U R)(kd:kindOf st=κ)(hx:(arrOf st).toList[i]? =some x)(hy:(arrOf st).toList[j]? =some y)(ux:U x)(uy:U y)(q:Q (some (R x y)) st):Tm prog w A E J (ltAt' i j) Q st:=by
 rw [ltAt'_eq];exact .bind (.get (.bind (.elem (by rw [<-T8];exact hx) (.bind (.elem (by rw [<-T8];exact hy) (.lt ak kd ux uy q))))))
abbrev Dsc (R:P0->P0->Bool)(l:List P0):Prop:=l.Pairwise λx y=>R x y=false
theorem DL {l:List P0}(d:Dsc R l):Srt R l.reverse:=V6.mpr d
theorem Ga (o:Ordd U R){l:List P0}{x y:P0}(u: ∀z∈l++ [x],U z)(uy:U y)(s:Srt R (l++ [x]))(h:R y x=false):Srt R (l++ [x]++ [y]):=by
 refine R8.mpr ⟨s,N4 _ _,λz hz v hv=> ?_⟩;rw [G9.mp hv];have ux:=u x (by simp);rcases D0.mp hz with w|w
 ·exact o.trans (u z hz) ux uy ((R8.mp s).2.2 z w x (by simp)) h
 ·rw [G9.mp w];exact h
theorem Gb {l m:List P0}(s:Dsc R (l++m))(alike: ∀x∈m,∀y∈m,R x y=false):Dsc R (l++m.reverse):=by
 obtain⟨a,b,c⟩:=R8.mp s;refine R8.mpr ⟨a,?_,λx hx y hy=>c x hx y (B3.mp hy)⟩;rw [F5];intro i j hi hj _;exact alike _ (B3.mp (T6 hi)) _ (B3.mp (T6 hj))
end
section
variable {prog:R5}{w:T4}{A:T9}{E:G0->G2->Prop}{J:G2->Prop}{κ:SortKind}{U:P0->Prop}{R:P0->P0->Bool}
theorem Arr.trans {a b c:R9}(x:Arr a b)(y:Arr b c):Arr a c:=⟨y.1.trans x.1,y.2.1.trans x.2.1,y.2.2.1.trans x.2.2.1,y.2.2.2.trans x.2.2.2⟩
variable {P Z:List P0}
theorem Lies.rest {st:R9}{S:List P0}(h:Lies st P Z S){i:Nat}:(arrOf st).toList[P.length+Z.length+i]? =S[i]? :=by
 rw [h,P7 (by rw [G3];omega),G3]
 congr 1;omega
theorem Lies.end {st:R9}{W S:List P0}{x:P0}(h:Lies st P (W++ [x]) S):(arrOf st).toList[P.length+W.length]? =some x:=by
 rw [h,G6,P7 (by omega),G6,P7 (by omega)];simp
theorem Zc {l:List P0}(h:1<=l.length): ∃W x,l=W++ [x]:=by
 rcases List.eq_nil_or_concat l with e|⟨W,x,e⟩
 ·subst e;simp at h
 ·exact⟨W,x,by rw [e,List.concat_eq_append]⟩
structure Fall (R:P0->P0->Bool)(T Z1 Z2:List P0)(n:Nat):Prop where
 len:(Z1++Z2).length=n
 perm:(Z1++Z2).Perm (T.take n)
 dsc:Dsc R (Z1++Z2)
 alike: ∀x∈Z2,∀y∈Z2,R x y=false
 ne:1<=Z2.length
variable {T:List P0}{n:Nat}
theorem Fall.turn {Z1 Z2:List P0}(f:Fall R T Z1 Z2 n):Fall R T Z1 Z2.reverse n:=
 ⟨by have:=f.len;simp only [G3,S6] at this ⊢;exact this,((C6 Z2).append_left Z1).trans f.perm,Gb f.dsc f.alike,λx hx y hy=>f.alike x (B3.mp hx) y (B3.mp hy),by rw [S6];exact f.ne⟩
theorem Fall.mem {Z1 Z2:List P0}(f:Fall R T Z1 Z2 n){x:P0}(h:x∈Z1++Z2):x∈T:=N2 (f.perm.mem_iff.mp h)
theorem yA {y:P0}(h:Z.Perm (T.take n))(hy:T[n]? =some y):(Z++ [y]).Perm (T.take (n+1)):=by
 rw [Jf hy];exact h.append_right _
theorem Fall.below (o:Ordd U R){T Z1 Z2:List P0}{n:Nat}{x y:P0}(u: ∀x∈T,U x)(f:Fall R T Z1 Z2 n)(hx:x∈Z2)(hy:T[n]? =some y)(h:R y x=true):Fall R T (Z1++Z2) [y] (n+1):=by
 have uy:=u y (G8 hy);have ux:=u x (f.mem (D0.mpr (.inr hx)));have xy:=o.asym y x uy ux h;refine⟨by rw [G3,f.len];rfl,yA f.perm hy,?_,λa ha b hb=> ?_,by simp⟩
 ·refine R8.mpr ⟨f.dsc,N4 _ _,λz hz v hv=> ?_⟩;rw [G9.mp hv];have uz:=u z (f.mem hz);have zx:R z x=false:=by
   rcases D0.mp hz with w|w
   ·exact(R8.mp f.dsc).2.2 z w x hx
   ·exact f.alike z w x hx
  exact o.trans uy ux uz xy zx
 ·rw [G9.mp ha,G9.mp hb];exact o.refl uy
theorem Fall.like (o:Ordd U R){T Z1 Z2:List P0}{n:Nat}{x y:P0}(u: ∀x∈T,U x)(f:Fall R T Z1 Z2 n)(hx:x∈Z2)(hy:T[n]? =some y)(h:R y x=false)(h':R x y=false):Fall R T Z1 (Z2++ [y]) (n+1):=by
 have uy:=u y (G8 hy);have ux:=u x (f.mem (D0.mpr (.inr hx)));have zy: ∀z∈Z1++Z2,R z y=false:=λz hz=>by
  have uz:=u z (f.mem hz);have zx:R z x=false:=by
   rcases D0.mp hz with w|w
   ·exact(R8.mp f.dsc).2.2 z w x hx
   ·exact f.alike z w x hx
  exact o.trans uy ux uz h' zx
 have yz: ∀z∈Z2,R y z=false:=λz hz=>o.trans (u z (f.mem (D0.mpr (.inr hz)))) ux uy (f.alike x hx z hz) h
 refine⟨by rw [<-G6,G3,f.len];rfl,by rw [<-G6];exact yA f.perm hy,?_,λa ha b hb=> ?_,by simp⟩
 ·rw [<-G6];refine R8.mpr ⟨f.dsc,N4 _ _,λz hz v hv=> ?_⟩;rw [G9.mp hv];exact zy z hz
 ·rcases D0.mp ha with p|p<;>rcases D0.mp hb with r|r
  ·exact f.alike a p b r
  ·rw [G9.mp r];exact zy a (D0.mpr (.inr p))
  ·rw [G9.mp p];exact yz b r
  ·rw [G9.mp p,G9.mp r];exact o.refl uy
theorem Lies.more {st:R9}{m:Nat}{y:P0}(L:Lies st P Z (T.drop m))(hy:T[m]? =some y):Lies st P (Z++ [y]) (T.drop (m+1)):=by
 unfold Lies at L ⊢;rw [L,jJ hy];simp
theorem Lies.part {st:R9}{Z1 Z2 S:List P0}:Lies st P (Z1++Z2) S↔Lies st (P++Z1) Z2 S:=by
 unfold Lies;simp only [G6]
theorem Lies.two {st:R9}{m:Nat}{y:P0}(L:Lies st P Z (T.drop m))(lz:Z.length=m)(m1:1<=m)(hy:T[m]? =some y):(arrOf st).toList[P.length+m]? =some y/\ ∃W x,Z=W++ [x]/\(arrOf st).toList[P.length+m-1]? =some x:=by
 have a:=L.rest (i:=0);rw [J0,lz,aY,aY,hy] at a;obtain⟨W,x,e⟩:=Zc (l:=Z) (by omega);subst e;refine⟨a,W,x,rfl,?_⟩;rw [<-L.end]
 congr 1
 rw [G3,F8] at lz;omega
section
variable {σ ρ τ α:Type}{st:σ}
theorem Tm.rangeN {f:Nat->Option ρ×τ->StateT σ Sem (ForInStep (Option ρ×τ))}(I:Nat->τ->σ->Prop){Q:τ->σ->Prop}{Q':Option ρ×τ->σ->Prop}{a b:Nat}{c:τ}(hab:a<=b)(h:I a c st)(step: ∀i c st,i<b->I i c st->Tm prog w A E J (f i (none,c)) (λr st'=>match r with| .done c'=>c'.1=none/\Q c'.2 st'| .yield c'=>c'.1=none/\I (i+1) c'.2 st') st)(fin: ∀c st,I b c st->Q c st)(q: ∀c st,Q c st->Q' (none,c) st):Tm prog w A E J (forIn [a:b] ((none:Option ρ),c) f) Q' st:=by
 refine Tm.mono (Tm.range (λi c st=>c.1=none/\I i c.2 st) (Q:=λc st=>c.1=none/\Q c.2 st) hab ⟨rfl,h⟩ ?_ λc st h=>⟨h.1,fin _ _ h.2⟩) ?_
 ·rintro i ⟨_,c⟩ st hi ⟨rfl,h⟩;exact(step i c st hi h).mono λr st' x=>by cases r<;>exact x
 ·rintro ⟨_,c⟩ st ⟨rfl,h⟩;exact q c st h
theorem Tm.fork {c:Prop}[Decidable c]{t e:StateT σ Sem α}{Q:α->σ->Prop}(I:σ->Prop)(G: ∀s,I s->Tm prog w A E J e Q s)(T:c->(∀s,I s->Tm prog w A E J e Q s)->Tm prog w A E J t Q st)(F: ¬c->I st):Tm prog w A E J (if c then t else e) Q st:=
 .if2 (λh=>T h G) λh=>G _ (F h)
end
section
variable {st:R9}{P T Z:List P0}{m:Nat}
theorem Xz {f:Nat->Option (Option Nat)×Nat->StateT R9 Sem (ForInStep (Option (Option Nat)×Nat))}{G:Nat->Option Bool->StateT R9 Sem (ForInStep (Option (Option Nat)×Nat))}{Q:Option (Option Nat)×Nat->R9->Prop}(ak:Wa prog w A J κ U R)(kd:kindOf st=κ)(o:Ordd U R)(u: ∀x∈T,U x)
 (hf: ∀i n,f i (none,n)=ltAt' (P.length+n) (P.length+n-1) >>= G n)(hG: ∀n,G n (some true)=Pure.pure (.done (none,n))/\G n (some false)=Pure.pure (.yield (none,n+1)))
 (m1:1<=m)(m2:m<=T.length)(L:Lies st P Z (T.drop m))(p:Z.Perm (T.take m))(s:Srt R Z)
 (q: ∀n Z',1<=n->n<=T.length->Lies st P Z' (T.drop n)->Z'.Perm (T.take n)->Srt R Z'->(∀y,T[n]? =some y-> ∃W x,Z'=W++ [x]/\R y x=true)->Q (none,n) st):Tm prog w A E J (forIn [m:T.length] ((none:Option (Option Nat)),m) f) Q st:=by
 refine Tm.rangeN (λi c s=>s=st/\c=i/\1<=i/\ ∃Z,Lies st P Z (T.drop i)/\Z.Perm (T.take i)/\Srt R Z) (Q:=λn s=>s=st/\Q (none,n) st) m2 ⟨rfl,rfl,m1,Z,L,p,s⟩ ?_ ?_ λc s h=>h.1 ▸ h.2
 ·rintro _ i _ hi ⟨rfl,rfl,i1,Z,L,p,s⟩;have hy:=G1 hi;obtain⟨ay,W,x,rfl,ax⟩:=L.two (by rw [p.length_eq,D4,Q8 (D8 hi)]) i1 hy;have uy:=u _ (T6 hi);have uZ: ∀z∈W++ [x],U z:=λz hz=>u z (N2 (p.mem_iff.mp hz))
  rw [hf];refine .bind (.ltAt ak kd ay ax uy (uZ x (by simp)) ?_);cases hb:R T[i] x with
  |true=>
   rw [(hG _).1];exact .pure ⟨rfl,rfl,q i _ i1 (D8 hi) L p s λy h=>⟨W,x,rfl,by rw [hy] at h;injection h with h;rw [<-h];exact hb⟩⟩
  |false=>
   rw [(hG _).2];exact .pure ⟨rfl,rfl,rfl,W0 (S1 _),_,L.more hy,yA p hy,Ga o uZ uy s hb⟩
 ·rintro _ _ ⟨rfl,rfl,i1,Z,L,p,s⟩;exact⟨rfl,q _ Z i1 (G5 _) L p s λy h=>absurd (P4.mp h).1 (M7 _)⟩
end
def Fell (R:P0->P0->Bool)(P T:List P0)(st st':R9)(n k:Nat):Prop:=Arr st st'/\ ∃Z1 Z2,Lies st' P (Z1++Z2) (T.drop n)/\Fall R T Z1 Z2 n/\Z2.length=k+1
theorem Fell.rev {st s2:R9}{k:Nat}{Q:Unit->R9->Prop}(h:Fell R P T st s2 n k)(q: ∀s3,Fell R P T st s3 n k->Q () s3):Tm prog w A E J (reverseSlice' (P.length+n-(k+1)) (P.length+n)) Q s2:=by
 obtain⟨ar,Z1,Z2,L,F,l⟩:=h;have l12:=F.len;rw [G3] at l12;exact .rev (Lies.part.mp L) (by rw [G3];omega) (by rw [G3];omega) λs3 ar3 L3=>q s3 ⟨ar.trans ar3,Z1,_,Lies.part.mpr L3,F.turn,by rw [S6];exact l⟩
theorem Gc {st:R9}{Q:Option Nat->R9->Prop}(ak:Wa prog w A J κ U R)(kd:kindOf st=κ)(o:Ordd U R)(u: ∀x∈T,U x)(h:Lies st P [] T)(h1:1<=T.length)
 (q: ∀n st' Z,1<=n->n<=T.length->Arr st st'->Lies st' P Z (T.drop n)->Z.Perm (T.take n)->Srt R Z->Q (some n) st'):Tm prog w A E J (countRun' P.length T.length) Q st:=by
 refine .bind (Xz (m:=1) (Z:=T.take 1) ak kd o u (by exact λi n=>rfl) (by exact λn=>⟨rfl,rfl⟩) (G5 _) h1 ?_ (.refl _) ?_ λn Z n1 n2 L p sr br=> ?_)
 ·unfold Lies at h ⊢;rw [h,C8,G6,D6]
 ·match T,h1 with
  |x::r,_=>exact N4 _ _
 refine .eq2 (x:=n) (y:=T.length) (λz1=> .pure (q n _ _ n1 n2 (Arr.refl _) L p sr)) λz1=> ?_
 have n3:n<T.length:=N6 n2 z1;have hy:=G1 n3;have uZ: ∀z∈Z,U z:=λz hz=>u z (N2 (p.mem_iff.mp hz))
 obtain⟨W,x,e,yx⟩:=br _ hy;have lz:Z.length=n:=by rw [p.length_eq,D4,Q8 n2]
 have xin:x∈Z:=by rw [e];simp
 have xl:Z[Z.length-1]? =some x:=by rw [e];simp
 have F0:(∀p∈Z,∀r∈Z,R p r=false)->Fall R T [] Z n:=λal=>⟨lz,p,F5.mpr λi j hi hj _=>al _ (T6 hi) _ (T6 hj),al,by rw [lz];exact n1⟩
 refine Tm.fork (λs=>Fell R P T st s (n+1) 0) ?_ ?_ ?_
 ·intro s1 F1;refine .bind (.rule (.bind (Tm.rangeN (λi c s=>c.1=i/\Fell R P T st s c.1 c.2) (Q:=λc s=>c.1<=T.length/\Fell R P T st s c.1 c.2) n3 ⟨rfl,F1⟩ ?_ (λc s h=>⟨C3 h.1,h.2⟩) ?_)))
  ·intro i c s2 hi h2;have hc:c.1<T.length:=by rw [h2.1];exact hi
   have hy:=G1 hc;have uy:=u _ (T6 hc);obtain⟨e1,ar2,Z1,Z2,L2,F2,l2⟩:=h2;have l12:=F2.len;obtain⟨ay,W,x,eW,ax⟩:=L2.two l12 (by rw [<-l12,G3,l2];exact J1 _ _) hy;have xin:x∈Z2:=by
    obtain⟨V,v,e⟩:=Zc F2.ne;have e':=congrArg List.getLast? eW;rw [e,<-G6,bL,bL] at e';injection e' with e'
    rw [e,<-e'];simp
   have ux:=u x (F2.mem (D0.mpr (.inr xin)));refine .bind (.ltAt ak (ar2.1.trans kd) ay ax uy ux (.if2 (c:=R _ x=true) (λhb=> ?_) λhb=> .bind (.ltAt ak (ar2.1.trans kd) ax ay ux uy (.if2 (c:=R x _=true) (λhc'=> .pure ⟨rfl,D8 hc,ar2,Z1,Z2,L2,F2,l2⟩) λhc'=> ?_))))
   ·refine Tm.fork (λs=>Fell R P T st s (c.1+1) 0) (λs h=> .pure ⟨rfl,congrArg gM e1,h⟩) (λzq H=> .bind ?_) λzq=>⟨ar2,Z1++Z2,[T[c.1]],L2.more hy,F2.below o u xin hy hb,rfl⟩
    have l12':=l12;rw [G3] at l12';exact .rev (Lies.part.mp L2) (by rw [G3];dsimp only;omega) (by rw [G3];dsimp only;omega) λs3 ar3 L3=>H s3 ⟨ar2.trans ar3,Z1++Z2.reverse,[T[c.1]],(Lies.part.mpr L3).more hy,F2.turn.below o u (B3.mpr xin) hy hb,rfl⟩
   ·refine .pure ⟨rfl,congrArg gM e1,ar2,Z1,Z2++ [T[c.1]],?_,F2.like o u xin hy (J9.mpr hb) (J9.mpr hc'),by rw [G3,l2];rfl⟩;rw [<-G6];exact L2.more hy
  ·intro c s2 h2;refine Tm.fork (λs=> ∃k,Fell R P T st s c.1 k) ?_ (λzq H=> .bind (h2.2.rev λs h=>H s ⟨_,h⟩)) λzq=>⟨_,h2.2⟩
   intro s3 h3;obtain⟨k,ar3,Z1,Z2,L3,F3,l3⟩:=h3;have m1:1<=c.1:=by rw [<-F3.len,G3,l3];exact J1 _ _
   exact .bind (.rev L3 rfl (by rw [F3.len]) λs4 ar4 L4=> .bind (Xz ak ((ar3.trans ar4).1.trans kd) o u (by exact λi n=>rfl) (by exact λn=>⟨rfl,rfl⟩) m1 h2.1 L4 ((C6 _).trans F3.perm) (DL F3.dsc) λn Z n1 n2 L p sr _=> .pure (q n s4 Z n1 n2 (ar3.trans ar4) L p sr)))
 ·intro z2 H;obtain⟨x0,V,eV⟩: ∃x0 V,Z=x0::V:=by
   match Z,xin with
   |a::r,_=>exact⟨a,r,rfl⟩
  have ux:=uZ x xin;have ux0:=uZ x0 (by rw [eV];simp);have a0:(arrOf st).toList[P.length]? =some x0:=by rw [L,eV];simp
  have a1:(arrOf st).toList[P.length+n-1]? =some x:=by
   obtain⟨_,W',x',e',ax⟩:=L.two lz n1 hy;rw [e] at e';rw [ax,(List.append_inj' e' rfl).2 |> λh=>(List.cons.inj h).1]
  exact .bind (.ltAt ak kd a0 a1 ux0 ux (.if2 (c:=R x0 x=true) (λ_=> .pure (q n _ _ n1 n2 (Arr.refl _) L p sr)) λhr0=> .bind (.rev L rfl (by rw [lz]) λs1 ar1 L1=>H s1 ⟨ar1,_,_,L1.more hy,Fall.below o u (Z1:= []) (Fall.turn (F0 λp hp r hr=>o.trans (uZ r hr) ux (uZ p hp) (Xy o uZ sr xl hr) (J9.mpr λv=>(o.neg p x0 x (uZ p hp) ux0 ux v).elim (λv=>by rw [Vp o uZ sr (z:=x0) (by rw [eV];rfl) hp] at v;cases v) hr0))) (B3.mpr xin) hy yx,rfl⟩)))
 ·intro z2;have w0:W= []:=W6 (by rw [e,G3,F8] at lz;omega);have f: ∀z∈Z,z=x:=λz hz=>by rw [e,w0] at hz;exact G9.mp hz
  exact⟨Arr.refl st,_,_,L.more hy,Fall.below o u (Z1:= []) (F0 λp hp r hr=>by rw [f p hp,f r hr];exact o.refl (uZ x xin)) xin hy yx,rfl⟩
end
section
variable {prog:R5}{w:T4}{A:T9}{E:G0->G2->Prop}{J:G2->Prop}{κ:SortKind}{U:P0->Prop}{R:P0->P0->Bool}
theorem Gd (xs:Array P0)(P Z S:List P0)(y:P0)(l:Nat)(hl:l<=Z.length)(h:xs.toList=P++Z++y::S):(bubble xs (P.length+Z.length) (Z.length-l)).toList=P++(Z.take l++ [y]++Z.drop l)++S:=by
 have hz:xs.size=P.length+Z.length+(S.length+1):=by rw [<-T2,h];simp [W4]
 have at_: ∀k,xs[k]? =(P++Z++y::S)[k]? :=λk=>by rw [<-T8,h]
 refine cT λk=> ?_
 rw [T8,getElem?_bubble (by omega) _ (by omega)];have lt:(Z.take l).length=l:=by rw [D4];omega
 by_cases c:k=P.length+Z.length-(Z.length-l)
 ·rw [if_pos c,at_];have e1:(P++Z++y::S)[P.length+Z.length]? =some y:=by
   rw [P7 (by rw [G3];omega),G3,aX];rfl
  have e2:(P++(Z.take l++ [y]++Z.drop l)++S)[k]? =some y:=by
   rw [G6,P7 (by omega),G6,G6,P7 (by rw [lt];omega),lt,show k-P.length-l=0 by omega];rfl
  rw [e1,e2]
 ·rw [if_neg c]
  by_cases d:P.length+Z.length-(Z.length-l)<k/\k<=P.length+Z.length
  ·rw [if_pos d,at_];have e1:(P++Z++y::S)[k-1]? =Z[k-1-P.length]? :=by
    rw [G6,P7 (by omega),S2 (by omega)]
   have e2:(P++(Z.take l++ [y]++Z.drop l)++S)[k]? =Z[k-1-P.length]? :=by
    rw [G6,P7 (by omega),S2 (by simp only [G3,D4,S8,F8];omega),P7 (by rw [G3,lt];simp;omega),G3,lt,J0]
    congr 1;simp;omega
   rw [e1,e2]
  ·rw [if_neg d,at_]
   by_cases f:k<P.length+l
   ·have e1:(P++Z++y::S)[k]? =(P++Z.take l)[k]? :=by
     have:P++Z++y::S=P++Z.take l++(Z.drop l++y::S):=by
      rw [G6,G6,<-G6 (Z.take l),D6]
     rw [this,S2 (by rw [G3,lt];omega)]
    have e2:(P++(Z.take l++ [y]++Z.drop l)++S)[k]? =(P++Z.take l)[k]? :=by
     have:P++(Z.take l++ [y]++Z.drop l)++S=P++Z.take l++([y]++Z.drop l++S):=by simp [G6]
     rw [this,S2 (by rw [G3,lt];omega)]
    rw [e1,e2]
   ·have e1:(P++Z++y::S)[k]? =S[k-P.length-Z.length-1]? :=by
     rw [P7 (by rw [G3];omega),G3,List.getElem?_cons,if_neg (by omega)]
     congr 1;omega
    have e2:(P++(Z.take l++ [y]++Z.drop l)++S)[k]? =S[k-P.length-Z.length-1]? :=by
     rw [P7 (by simp only [G3,D4,S8,F8];omega)]
     congr 1;simp only [G3,D4,S8,F8];omega
    rw [e1,e2]
theorem DM (o:Ordd U R){Z:List P0}{y:P0}{l:Nat}(u: ∀z∈Z,U z)(uy:U y)(s:Srt R Z)(a: ∀z∈Z.take l,R y z=false)(b: ∀z∈Z.drop l,R y z=true):Srt R (Z.take l++ [y]++Z.drop l):=by
 have s':Srt R (Z.take l++Z.drop l):=by rw [D6];exact s
 obtain⟨s1,s2,s3⟩:=R8.mp s';refine R8.mpr ⟨R8.mpr ⟨s1,N4 _ _,λx hx z hz=> ?_⟩,s2,λx hx z hz=> ?_⟩
 ·rw [G9.mp hz];exact a x hx
 ·rcases D0.mp hx with v|v
  ·exact s3 x v z hz
  ·rw [G9.mp v];exact o.asym y z uy (u z (M5 hz)) (b z hz)
theorem Nr {st:R9}{Q:Bool->R9->Prop}{P T Z:List P0}{n k:Nat}(ak:Wa prog w A J κ U R)(kd:kindOf st=κ)(o:Ordd U R)(u: ∀x∈T,U x)(h:Lies st P Z (T.drop k))(hp:Z.Perm (T.take k))(hs:Srt R Z)(k1:1<=k)(kn:k<=n)(hn:n<=T.length)
 (q: ∀st' Z',Arr st st'->Lies st' P Z' (T.drop n)->Z'.Perm (T.take n)->Srt R Z'->Q true st'):Tm prog w A E J (binarySort' P.length n k) Q st:=by
 unfold binarySort';refine .bind (Tm.mono (Tm.range (λi c s1=>Arr st s1/\c.1=none/\1<=i/\ ∃Z,Lies s1 P Z (T.drop i)/\Z.Perm (T.take i)/\Srt R Z) (Q:=λc s1=>Arr st s1/\c.1=none/\ ∃Z,Lies s1 P Z (T.drop n)/\Z.Perm (T.take n)/\Srt R Z) (by omega) ⟨Arr.refl st,rfl,by omega,Z,by rw [dU k1];exact h,by rw [dU k1];exact hp,hs⟩ ?_ ?_) ?_)
 ·rintro i ⟨r,c2⟩ s1 hi ⟨ar,hr,i1,Z,L,p,s⟩;dsimp only at hr ⊢;subst hr;obtain⟨y,hy⟩: ∃y,T[i]? =some y:=⟨_,G1 (by omega)⟩;have uy:=u y (G8 hy);have lz:Z.length=i:=by rw [p.length_eq,D4];omega
  have uZ: ∀z∈Z,U z:=λz hz=>u z (N2 (p.mem_iff.mp hz))
  have ay:(arrOf s1).toList[P.length+i]? =some y:=by
   have:=L.rest (i:=0);rw [J0,lz] at this;rw [aY] at this;rw [this];exact hy
  have az: ∀m,m<i-> ∃z,Z[m]? =some z/\(arrOf s1).toList[P.length+m]? =some z:=λm hm=>by
   refine⟨Z[m],G1 (by omega),?_⟩;rw [L,G6,P7 (by omega),S2 (by omega),aM,G1 (by omega)]
  refine .bind (Tm.mono (Tm.range (λj c s2=>s2=s1/\c.1=none/\c.2.1<=c.2.2/\c.2.2<=i/\(∀z∈Z.take c.2.1,R y z=false)/\(∀z∈Z.drop c.2.2,R y z=true)/\c.2.2-c.2.1+j<=i) (Q:=λc s2=>s2=s1/\c.1=none/\c.2.1<=i/\(∀z∈Z.take c.2.1,R y z=false)/\(∀z∈Z.drop c.2.1,R y z=true)) (S1 _) ⟨rfl,rfl,S1 _,G5 _,λz hz=> ?_,λz hz=> ?_,by dsimp only;omega⟩ ?_ ?_) ?_)
  ·dsimp only at hz;rw [Z5] at hz;cases hz
  ·dsimp only at hz;rw [N0 (by omega)] at hz;cases hz
  ·rintro j ⟨r,l,v⟩ _ hj ⟨rfl,hr,b1,b2,b3,b4,b5⟩;dsimp only at hr b1 b2 b3 b4 b5 ⊢;subst hr
   by_cases c1:l>=v
   ·rw [if_pos c1];have:l=v:=by omega
    subst this;exact .pure ⟨rfl,rfl,b2,b3,b4⟩
   rw [if_neg c1];obtain⟨z,hz,ez⟩:=az ((l+v) / 2) (by omega);have uz:=uZ z (G8 hz);refine .bind (.ltAt ak (ar.1.trans kd) ay ez uy uz ?_);dsimp only;cases hb:R y z with
   |true=>
    rw [if_pos rfl];refine .pure ⟨rfl,rfl,by dsimp only;omega,by dsimp only;omega,b3,λx hx=> ?_,by dsimp only;omega⟩;dsimp only at hx;have zx:R x z=false:=by
     obtain⟨t,ht,e⟩:=L9 hx;rw [S8] at ht;exact Jg s o uZ (show (l+v) / 2<=(l+v) / 2+t by omega) hz (by rw [G1 (by omega),<-e,cS])
    rcases o.neg y x z uy (uZ x (M5 hx)) uz hb with w|w
    ·exact w
    ·rw [zx] at w;cases w
   |false=>
    rw [if_neg (by decide)];refine .pure ⟨rfl,rfl,by dsimp only;omega,b2,λx hx=> ?_,b4,by dsimp only;omega⟩;dsimp only at hx;have xz:R z x=false:=by
     obtain⟨t,ht,e⟩:=L9 hx;rw [D4] at ht;exact Jg s o uZ (show t<=(l+v) / 2 by omega) (by rw [G1 (by omega),<-e,cR]) hz
    exact o.trans (uZ x (N2 hx)) uz uy xz hb
  ·rintro ⟨r,l,v⟩ _ ⟨rfl,hr,b1,b2,b3,b4,b5⟩;dsimp only at hr b1 b2 b3 b4 b5 ⊢;have:l=v:=by omega
   subst this;exact⟨rfl,hr,b2,b3,b4⟩
  ·rintro ⟨r,l,v⟩ s2 ⟨rfl,hr,b2,b3,b4⟩;dsimp only at hr b2 b3 b4 ⊢;subst hr;dsimp only;refine .bind ?_;show Tm prog w A E J (moveDown' (P.length+i) (P.length+l)) _ _;rw [moveDown'_eq];refine .modify (.pure ⟨ar.trans ⟨rfl,rfl,rfl,rfl⟩,rfl,by omega,Z.take l++ [y]++Z.drop l,?_,?_,DM o uZ uy s b3 b4⟩)
   ·have:=Gd (arrOf s2) P Z (T.drop (i+1)) y l (by omega) (by rw [<-jJ hy];exact L);rw [lz] at this;rw [show P.length+i-(P.length+l)=i-l by omega];exact this
   ·refine a9 ?_ (yA p hy);rw [G6];have e:Z++ [y]=Z.take l++(Z.drop l++ [y]):=by rw [<-G6,D6]
    rw [e];exact(J3).append_left _
 ·rintro ⟨r,c2⟩ s1 ⟨ar,hr,i1,Z,L,p,s⟩;exact⟨ar,hr,Z,L,p,s⟩
 ·rintro ⟨r,c2⟩ s1 ⟨ar,hr,Z,L,p,s⟩;dsimp only at hr ⊢;subst hr;exact .pure (q s1 Z ar L p s)
end
section
variable {prog:R5}{w:T4}{A:T9}{E:G0->G2->Prop}{J:G2->Prop}{κ:SortKind}{U:P0->Prop}{R:P0->P0->Bool}
def Stk (R:P0->P0->Bool)(l:List P0):List (Nat×Nat×Nat)->Nat->Nat->Prop
 | [],s,e=>s=e
 |(p,n,_)::rest,s,e=>p=s/\1<=n/\Srt R (seg l p n)/\Stk R l rest (s+n) e
variable {l:List P0}
theorem Stk.le: ∀ {pl:List (Nat×Nat×Nat)} {s e:Nat},Stk R l pl s e->s+pl.length<=e
 | [],s,e,h=>by cases h;simp
 |(p,n,_)::rest,s,e,⟨_,n1,_,h⟩=>by have:=Stk.le h;simp only [D5];omega
theorem Ge {l':List P0}{p n e:Nat}(h:l.take e=l'.take e)(he:p+n<=e):seg l p n=seg l' p n:=by
 have cut: ∀k:List P0,seg k p n=seg (k.take e) p n:=λk=>by
  unfold seg;rw [bJ,bK,Q8 (by omega)]
 rw [cut l,cut l',h]
theorem Stk.same {l':List P0}: ∀ {pl:List (Nat×Nat×Nat)} {s e:Nat},Stk R l pl s e->l.take e=l'.take e->Stk R l' pl s e
 | [],s,e,h,_=>h
 |(p,n,_)::rest,s,e,⟨a,b,c,d⟩,h=>by
  have:=d.le;exact⟨a,b,by rw [<-Ge h (by omega)];exact c,d.same h⟩
theorem Stk.shift {l':List P0}: ∀ {pl:List (Nat×Nat×Nat)} {s e:Nat},Stk R l pl s e->l.drop s=l'.drop s->Stk R l' pl s e
 | [],s,e,h,_=>h
 |(p,n,_)::rest,s,e,⟨a,b,c,d⟩,h=>by
  subst a;refine⟨rfl,b,by unfold seg at c ⊢;rw [<-h];exact c,d.shift ?_⟩;rw [<-A0,<-A0,h]
theorem Stk.append: ∀ {a b:List (Nat×Nat×Nat)} {s e:Nat},Stk R l (a++b) s e↔ ∃m,Stk R l a s m/\Stk R l b m e
 | [],b,s,e=>⟨λh=>⟨s,rfl,h⟩,λ⟨m,h,h'⟩=>by cases h;exact h'⟩
 |(p,n,w)::a,b,s,e=>by
  constructor
  ·rintro ⟨x,y,z,h⟩;obtain⟨m,h1,h2⟩:=Stk.append.mp h;exact⟨m,⟨x,y,z,h1⟩,h2⟩
  ·rintro ⟨m,⟨x,y,z,h1⟩,h2⟩;exact⟨x,y,z,Stk.append.mpr ⟨m,h1,h2⟩⟩
structure Bt (R:P0->P0->Bool)(κ:SortKind)(l0:List P0)(lo:Nat)(st:R9):Prop where
 kind:kindOf st=κ
 failed:failedOf st=none
 perm:(arrOf st).toList.Perm l0
 stk:Stk R (arrOf st).toList (pendingOf st).toList 0 lo
variable {l0:List P0}{lo:Nat}
theorem Bt.size {st:R9}(b:Bt R κ l0 lo st):(arrOf st).size=l0.length:=by rw [<-T2,b.perm.length_eq]
theorem Bt.merge {st:R9}{Q:Bool->R9->Prop}{i:Nat}(ak:Wa prog w A J κ U R)(o:Ordd U R)(u: ∀x∈l0,U x)(b:Bt R κ l0 lo st)(hlo:lo<=l0.length)(hi:i+1<(pendingOf st).size)
 (q: ∀st',Bt R κ l0 lo st'->(pendingOf st').size+1=(pendingOf st).size->(arrOf st').toList.drop lo=(arrOf st).toList.drop lo->Q true st'):Tm prog w A E J (mergeAt' i) Q st:=by
 have lp:(pendingOf st).toList.length=(pendingOf st).size:=by simp
 obtain⟨⟨sa,na,pw⟩,hx⟩: ∃x,(pendingOf st).toList[i]? =some x:=⟨_,G1 (by omega)⟩;obtain⟨⟨sb,nb,pw2⟩,hy⟩: ∃y,(pendingOf st).toList[i+1]? =some y:=⟨_,G1 (by omega)⟩;have e:(pendingOf st).toList=(pendingOf st).toList.take i++(sa,na,pw)::(sb,nb,pw2)::(pendingOf st).toList.drop (i+2):=by
  rw [<-jJ hy,<-jJ hx,D6]
 have stk:=b.stk;rw [e] at stk;obtain⟨m,k1,em,n1,s1,eb,n2,s2,k2⟩:=Stk.append.mp stk;subst em;subst eb;have le:=k2.le;have sz:=b.size;have hz:sa+na+nb<=(arrOf st).size:=by omega
 have ln:(arrOf st).toList.length=(arrOf st).size:=by simp
 refine Nq ak b.kind o (λx hx=>u x (b.perm.mem_iff.mp hx)) (by rw [<-T8];exact hx) (by rw [<-T8];exact hy) rfl n1 n2 hz s1 s2 b.failed λst' Z kd hf hp ha pz sz'=> ?_
 have hpl:(pendingOf st').toList=(pendingOf st).toList.take i++(sa,na+nb,pw)::(pendingOf st).toList.drop (i+2):=by
  rw [hp,Array.eraseIdxIfInBounds_eq,dif_pos (by rw [aG];exact hi),Array.toList_eraseIdx,Z6];generalize (pendingOf st).toList.drop (i+2)=B at e ⊢;have li:((pendingOf st).toList.take i).length=i:=by rw [D4];omega
  generalize (pendingOf st).toList.take i=A at e li ⊢;rw [e];subst li;simp [List.set_append,List.eraseIdx_append];intro z;omega
 have lZ:Z.length=na+nb:=by rw [pz.length_eq,G3,Ji (by omega),Ji (by omega)]
 have lt:((arrOf st).toList.take sa).length=sa:=by rw [D4];omega
 refine q st' ⟨kd,hf,?_,?_⟩ ?_ ?_
 ·rw [ha];refine a9 ?_ b.perm;have c3:=WC (arrOf st).toList (p:=sa) (n:=na) (m:=nb);have pp:=(pz.append_left ((arrOf st).toList.take sa)).append_right ((arrOf st).toList.drop (sa+na+nb));rw [<-c3] at pp;exact pp
 ·rw [hpl,ha];refine Stk.append.mpr ⟨sa,k1.same ?_,rfl,by omega,?_,?_⟩
  ·rw [G6,L6 (by omega),R3 (l:=(arrOf st).toList.take sa) (by omega)]
  ·unfold seg;rw [G6,L5 (by omega),N0 (by omega),N7,L6 (by omega),R3 (by omega)];exact sz'
  ·rw [<-W4];refine k2.shift ?_;have:((arrOf st).toList.take sa++Z).length=sa+na+nb:=by rw [G3,lt,lZ];omega
   rw [L5 (by omega),N0 (as:=(arrOf st).toList.take sa++Z) (by omega),N7]
 ·rw [<-T2,<-T2,hpl];have:(pendingOf st).toList.length=((pendingOf st).toList.take i++(sa,na,pw)::(sa+na,nb,pw2)::(pendingOf st).toList.drop (i+2)).length:=congrArg bE e;rw [this];simp only [G3,D5];omega
 ·rw [ha];have c1:((arrOf st).toList.take sa++Z).length=sa+na+nb:=by rw [G3,lt,lZ];omega
  have c2:sa+na+nb<=lo:=by omega
  rw [List.drop_append,N0 (as:=(arrOf st).toList.take sa++Z) (by omega),N7,A0,c1]
  congr 1;omega
theorem Bt.run {Z:List P0}{n:Nat}{s1 s2:R9}(b:Bt R κ l0 lo s1)(hlo:lo<=l0.length)(ar:Arr s1 s2)(L:Lies s2 ((arrOf s1).toList.take lo) Z (((arrOf s1).toList.drop lo).drop n))(p:Z.Perm (((arrOf s1).toList.drop lo).take n))(sr:Srt R Z)(hn:n<=l0.length-lo):Bt R κ l0 lo s2/\Srt R (seg (arrOf s2).toList lo n):=by
 have ln:(arrOf s1).toList.length=l0.length:=b.perm.length_eq;have lP:((arrOf s1).toList.take lo).length=lo:=by rw [D4];omega
 have lZ:Z.length=n:=by rw [p.length_eq,D4,S8];omega
 have e:(arrOf s2).toList=(arrOf s1).toList.take lo++Z++((arrOf s1).toList.drop lo).drop n:=L;refine⟨⟨ar.1.trans b.kind,ar.2.2.1.trans b.failed,?_,?_⟩,?_⟩
 ·rw [e];refine a9 ?_ b.perm;have pp:=(p.append_left ((arrOf s1).toList.take lo)).append_right (((arrOf s1).toList.drop lo).drop n);rw [G6 _ (((arrOf s1).toList.drop lo).take n),D6,D6] at pp;exact pp
 ·rw [ar.2.1];refine b.stk.same ?_;rw [e,G6,L6 (by omega),R3 (l:=(arrOf s1).toList.take lo) (by omega)]
 ·rw [e];unfold seg;rw [G6,L5 (by omega),N0 (by omega),N7,L6 (by omega),R3 (by omega)];exact sr
theorem Bt.push {n:Nat}{s:R9}(b:Bt R κ l0 lo s)(n1:1<=n)(g:Srt R (seg (arrOf s).toList lo n)):Bt R κ l0 (lo+n) (setPending s ((pendingOf s).push (lo,n,0))):=by
 refine⟨b.kind,b.failed,b.perm,?_⟩;show Stk R (arrOf s).toList ((pendingOf s).push (lo,n,0)).toList 0 (lo+n);rw [J8];exact Stk.append.mpr ⟨lo,b.stk,rfl,n1,g,rfl⟩
theorem Stk.mod {f:Nat×Nat×Nat->Nat×Nat×Nat}(hf: ∀x,(f x).1=x.1/\(f x).2.1=x.2.1): ∀ {pl:List (Nat×Nat×Nat)} {k s e:Nat},Stk R l pl s e->Stk R l (pl.modify k f) s e
 | [],k,s,e,h=>by rw [List.modify_nil];exact h
 |(p,n,w)::rest,0,s,e,⟨a,b,c,d⟩=>by
  rw [List.modify_zero_cons];have e1:=(hf (p,n,w)).1;have e2:=(hf (p,n,w)).2;generalize f (p,n,w)=x at e1 e2;obtain⟨p',n',w'⟩:=x;dsimp only at e1 e2;subst e1 e2;exact⟨a,b,c,d⟩
 |(p,n,w)::rest,k+1,s,e,⟨a,b,c,d⟩=>by
  rw [List.modify_succ_cons];exact⟨a,b,c,d.mod hf⟩
theorem Bt.mod {k:Nat}{s:R9}{f:Nat×Nat×Nat->Nat×Nat×Nat}(b:Bt R κ l0 lo s)(hf: ∀x,(f x).1=x.1/\(f x).2.1=x.2.1):Bt R κ l0 lo (setPending s ((pendingOf s).modify k f)):=by
 refine⟨b.kind,b.failed,b.perm,?_⟩;show Stk R (arrOf s).toList ((pendingOf s).modify k f).toList 0 lo;rw [Array.toList_modify];exact b.stk.mod hf
theorem Gf (c:Bool)(x:Nat):(if c=true then x-1 else x)<=x:=by cases c<;>simp
theorem DN {st:R9}{Q:Unit->R9->Prop}(ak:Wa prog w A J κ U R)(o:Ordd U R)(u: ∀x∈l0,U x)(kd:kindOf st=κ)(hf:failedOf st=none)(hp:pendingOf st= #[])(hl:(arrOf st).toList=l0)
 (q: ∀st',failedOf st'=none->(arrOf st').toList.Perm l0->Srt R (arrOf st').toList->Q () st'):Tm prog w A E J sortRuns' Q st:=by
 have b0:Bt R κ l0 0 st:=⟨kd,hf,by rw [hl],by rw [hp];rfl⟩;rw [sortRuns'_eq];refine .bind (.get ?_);dsimp only;rw [b0.size];generalize minRun' l0.length l0.length 0=mr;refine .bind (Tm.mono (Tm.range (λi c s1=>c.1=none/\c.2<=l0.length/\i<=c.2/\Bt R κ l0 c.2 s1) (Q:=λc s1=>c.1=none/\Bt R κ l0 l0.length s1) (S1 _) ⟨rfl,S1 _,S1 _,b0⟩ ?_ ?_) ?_)
 ·rintro i ⟨r,lo⟩ s1 hi ⟨hr,h1,h2,b⟩;dsimp only at hr h1 h2 b ⊢;subst hr
  by_cases z1:lo>=l0.length
  ·rw [if_pos z1];have:lo=l0.length:=by omega
   subst this;exact .pure ⟨rfl,b⟩
  rw [if_neg z1];have ln:(arrOf s1).toList.length=l0.length:=b.perm.length_eq;have lP:((arrOf s1).toList.take lo).length=lo:=by rw [D4];omega
  have lT:((arrOf s1).toList.drop lo).length=l0.length-lo:=by rw [S8,ln]
  have uT: ∀x∈(arrOf s1).toList.drop lo,U x:=λx hx=>u x (b.perm.mem_iff.mp (M5 hx))
  have ct:=λ{Q}=>Gc (prog:=prog) (w:=w) (A:=A) (E:=E) (J:=J) (Q:=Q) (st:=s1) (P:=(arrOf s1).toList.take lo) (T:=(arrOf s1).toList.drop lo) ak b.kind o uT (by unfold Lies;rw [C8,D6]) (by omega)
  rw [lP,lT] at ct;refine .bind (ct λn s2 Z n1 n2 ar L p sr=> ?_);dsimp only
  by_cases z2:n<mr
  ·rw [if_pos z2];have bn:=λ{Q}=>Nr (prog:=prog) (w:=w) (A:=A) (E:=E) (J:=J) (Q:=Q) (st:=s2) (P:=(arrOf s1).toList.take lo) (T:=(arrOf s1).toList.drop lo) (n:=min (l0.length-lo) mr) ak (ar.1.trans b.kind) o uT L p sr n1 (by omega) (by omega)
   rw [lP] at bn;refine .bind (.rule (.bind (bn λs3 Z3 ar3 L3 p3 sr3=> ?_)));obtain⟨B,G⟩:=b.run h1 (ar.trans ar3) L3 p3 sr3 (by omega);have N1:1<=min (l0.length-lo) mr:=by omega
   rw [if_neg (by decide)];refine .bind (.get ?_);split
   ·refine .bind (Tm.mono (Tm.range (λj c s4=>c.1=none/\Bt R κ l0 lo s4/\Srt R (seg (arrOf s4).toList lo (min (l0.length-lo) mr))) (Q:=λc s4=>c.1=none/\Bt R κ l0 lo s4/\Srt R (seg (arrOf s4).toList lo (min (l0.length-lo) mr))) (S1 _) ⟨rfl,B,G⟩ ?_ (λ_ _ h=>h)) ?_)
    ·rintro j ⟨r,c⟩ s4 hj ⟨hr,B4,G4⟩;dsimp only at hr ⊢;subst hr;refine .bind (.get ?_);split
     ·rename_i older heq;split
      ·exact .pure ⟨rfl,B4,G4⟩
      ·have two:(pendingOf s4).size>1:=A3 λz=>by rw [if_neg z] at heq;cases heq
       refine .bind (Bt.merge ak o u B4 h1 (by omega) λs5 B5 _ dr=> ?_);refine .pure ⟨rfl,B5,?_⟩;unfold seg at G4 ⊢;rw [dr];exact G4
     ·exact .pure ⟨rfl,B4,G4⟩
    ·rintro ⟨r,c⟩ s4 ⟨hr,B4,G4⟩;dsimp only at hr ⊢;subst hr;dsimp only;refine .bind (.modify (.bind (.modify (.pure ⟨rfl,?_,?_,Bt.push (Bt.mod B4 λx=>⟨rfl,rfl⟩) N1 G4⟩))))
     ·dsimp only;omega
     ·dsimp only;omega
   ·refine .bind (.modify (.pure ⟨rfl,?_,?_,Bt.push B N1 G⟩))
    ·dsimp only;omega
    ·dsimp only;omega
  ·rw [if_neg z2];obtain⟨B,G⟩:=b.run h1 ar L p sr n2;have N1:=n1;refine .bind (.get ?_);split
   ·refine .bind (Tm.mono (Tm.range (λj c s4=>c.1=none/\Bt R κ l0 lo s4/\Srt R (seg (arrOf s4).toList lo (n))) (Q:=λc s4=>c.1=none/\Bt R κ l0 lo s4/\Srt R (seg (arrOf s4).toList lo (n))) (S1 _) ⟨rfl,B,G⟩ ?_ (λ_ _ h=>h)) ?_)
    ·rintro j ⟨r,c⟩ s4 hj ⟨hr,B4,G4⟩;dsimp only at hr ⊢;subst hr;refine .bind (.get ?_);split
     ·rename_i older heq;split
      ·exact .pure ⟨rfl,B4,G4⟩
      ·have two:(pendingOf s4).size>1:=A3 λz=>by rw [if_neg z] at heq;cases heq
       refine .bind (Bt.merge ak o u B4 h1 (by omega) λs5 B5 _ dr=> ?_);refine .pure ⟨rfl,B5,?_⟩;unfold seg at G4 ⊢;rw [dr];exact G4
     ·exact .pure ⟨rfl,B4,G4⟩
    ·rintro ⟨r,c⟩ s4 ⟨hr,B4,G4⟩;dsimp only at hr ⊢;subst hr;dsimp only;refine .bind (.modify (.bind (.modify (.pure ⟨rfl,?_,?_,Bt.push (Bt.mod B4 λx=>⟨rfl,rfl⟩) N1 G4⟩))))
     ·dsimp only;omega
     ·dsimp only;omega
   ·refine .bind (.modify (.pure ⟨rfl,?_,?_,Bt.push B N1 G⟩))
    ·dsimp only;omega
    ·dsimp only;omega
 ·rintro ⟨r,lo⟩ s1 ⟨hr,h1,h2,b⟩;dsimp only at hr h1 h2 b;have:lo=l0.length:=by omega
  subst this;exact⟨hr,b⟩
 ·rintro ⟨r,lo⟩ s1 ⟨hr,b⟩;dsimp only at hr ⊢;subst hr;dsimp only;have le0:=b.stk.le;have lp0:(pendingOf s1).toList.length=(pendingOf s1).size:=by simp
  refine .bind (Tm.mono (Tm.range (λj c s4=>c.1=none/\Bt R κ l0 l0.length s4/\(pendingOf s4).size+j<=l0.length) (Q:=λc s4=>c.1=none/\Bt R κ l0 l0.length s4/\(pendingOf s4).size<=1) (S1 _) ⟨rfl,b,by omega⟩ ?_ (λc s4 ⟨x,y,z⟩=>⟨x,y,by omega⟩)) ?_)
  ·rintro j ⟨r,c⟩ s4 hj ⟨hr,B4,z4⟩;dsimp only at hr ⊢;subst hr;refine .bind (.get ?_)
   by_cases c1:(pendingOf s4).size<=1
   ·rw [if_pos c1];exact .pure ⟨rfl,B4,c1⟩
   rw [if_neg c1];refine .bind (Bt.merge ak o u B4 (G5 _) (O9 (Nat.add_le_add_right (Gf _ _) 1) (by omega)) λs5 B5 z5 _=> ?_);exact .pure ⟨rfl,B5,by omega⟩
  ·rintro ⟨r,c⟩ s4 ⟨hr,B4,z4⟩;dsimp only at hr ⊢;subst hr;refine .pure (q s4 B4.failed B4.perm ?_);have stk:=B4.stk;have ln:(arrOf s4).toList.length=l0.length:=B4.perm.length_eq;have lp:(pendingOf s4).toList.length=(pendingOf s4).size:=by simp
   generalize (pendingOf s4).toList=pl at stk lp
   match pl,stk,lp with
   | [],e,_=>
    have:l0.length=0:=e.symm;have:(arrOf s4).toList= []:=E6.mp (by omega);rw [this];exact .nil
   | [(p,n,_)],⟨e1,_,sr,e2⟩,_=>
    subst e1;have en:n=l0.length:=by have:0+n=l0.length:=e2;omega
    unfold seg at sr;rw [fC,R3 (by omega)] at sr;exact sr
   |_::_::_,_,h=>simp only [D5] at h;omega
end
section
variable {prog:R5}{w:T4}{A:T9}{E:G0->G2->Prop}{s:G2}{κ:SortKind}{U:P0->Prop}{R:P0->P0->Bool}
def Nt (s:G2)(a:Addr)(h':Heap):Prop:= ∀b o,b≠a->s.heap.get? b=some o->h'.get? b=some o
def Only (s:G2)(h':Heap):G2->Prop:=λs'=> ∃tk,s'= {s with heap:=h',toks:=tk}
theorem Gg {M:fO}{α β:Type}{c:Prop}[Decidable c]{m m':Sem α}{F:α->Sem β}{Q:β->G2->Prop}(h:wpAny M A ((if c then m else m') >>= F) Q E s):wpAny M A (if c then m >>= F else m' >>= F) Q E s:=by
 by_cases z:c
 ·rw [if_pos z] at h ⊢;exact h
 ·rw [if_neg z] at h ⊢;exact h
theorem yQ (vs:List G0):(vs.toArray.zip vs.toArray).toList=vs.map λv=>(v,v):=by
 rw [Array.toList_zip];show vs.zip vs=_
 induction vs with
 |nil=>rfl
 |cons v vs ih=>rw [U0,ih,R1]
theorem Gh {a:Addr}{vs:List G0}{n:Nat}{P:Fin->G2->Prop}(ho:s.heap.get? a=some (seqObj "list" vs.toArray n))(hz:vs.length<=sizeLine)
 (hk:2<=vs.length-> ∀h',Nt s a h'->wpAny (model prog w) A (keyKind' vs.toArray) (λk s'=>k=κ/\Only s h' s') (λ_ _=>False) {s with heap:=h'})(ak: ∀h',Nt s a h'->Wa prog w A (Only s h') κ U R)(o:Ordd U R)(u: ∀v∈vs,U (v,v))
 (q: ∀ (out:List G0) (c tk:Nat) (h':Heap),Nt s a h'->h'.get? a=some (seqObj "list" out.toArray c)->out.Perm vs->(out.map λv=>(v,v)).Pairwise (λx y=>R y x=false)->P (.done (.ret .none)) {s with heap:=h',toks:=tk}):
 wpAny (model prog w) A (Builtin.«list.sort» ⟨[.ref a],[]⟩) P E s:=by
 have alt:=P8 ho;have sv:vs.toArray.size=vs.length:=P6 ..;rw [list_sort_plain];refine wpAny_bind (fV ho rfl ?_);obtain⟨c1,ho1⟩: ∃c,(s.heap.update a (K1 λ_=>(#[]:Array G0))).get? a=some (seqObj "list" #[] c):=⟨_,dW ho λ_=> #[]⟩;refine wpAny_bind (fM ho rfl ?_ (by rw [sv];exact hz) (S1 _));refine wpAny_bind (gB ho1 rfl ?_);refine wpAny_bind (wpAny_newTuple ?_ hz);refine wpAny_bind (fN ?_ (S1 _));refine E1 ?_;have past:Nt s a (((s.heap.update a (K1 λ_=>(#[]:Array G0))).push {cls:= .type "tuple",data:= .seq vs.toArray.toList.toArray}).push {cls:= .type "list",data:= .seq ([]:List G0).toArray}):=λb x ne e=>by
  refine P1 _ (P1 _ ?_);rw [bT _ _ _ _ ne];exact e
 have ho3:=P1 ({cls:= .type "list",data:= .seq ([]:List G0).toArray}:Obj) (P1 ({cls:= .type "tuple",data:= .seq vs.toArray.toList.toArray}:Obj) ho1);revert past ho3;generalize ((s.heap.update a (K1 λ_=>(#[]:Array G0))).push ({cls:= .type "tuple",data:= .seq vs.toArray.toList.toArray}:Obj)).push ({cls:= .type "list",data:= .seq ([]:List G0).toArray}:Obj)=H3;intro past ho3;have kd:wpAny (model prog w) A (if vs.toArray.size<2 then pure general' else keyKind' vs.toArray) (λk s0=>(2<=vs.length->k=κ)/\Only s H3 s0) (λ_ _=>False) {s with heap:=H3}:=by
  by_cases c:vs.toArray.size<2
  ·rw [if_pos c];exact P9 ⟨λz=>by omega,s.toks,rfl⟩
  ·rw [if_neg c];exact S9 (hk (by omega) H3 past) (λk s0 x=>⟨λ_=>x.1,x.2⟩) λ_ _ e=>e
 have rn: ∀k s0,(2<=vs.length->k=κ)->Only s H3 s0->wpAny (model prog w) A ((if vs.toArray.size<2 then pure () else sortRuns':StateT R9 Sem Unit).run (SortSt.mk' k (vs.toArray.zip vs.toArray) #[] 7 none)) (λr s'=>(failedOf r.2=none/\(arrOf r.2).toList.Perm (vs.map λv=>(v,v))/\Srt R (arrOf r.2).toList)/\Only s H3 s') E s0:=by
  intro k s0 ek j
  by_cases c:vs.toArray.size<2
  ·rw [if_pos c,StateT.run_pure];refine P9 ⟨⟨rfl,?_,?_⟩,j⟩
   ·show (vs.toArray.zip vs.toArray).toList.Perm _;rw [yQ]
   ·show Srt R (vs.toArray.zip vs.toArray).toList;rw [yQ];rw [sv] at c
    match vs,c with
    | [],_=>exact List.Pairwise.nil
    | [v],_=>exact N4 _ _
  ·rw [if_neg c];have ek:=ek (by omega);subst ek;refine DN (E:=E) (ak H3 past) o (l0:=vs.map λv=>(v,v)) (st:=SortSt.mk' k (vs.toArray.zip vs.toArray) #[] 7 none) (λx hx=> ?_) rfl rfl rfl (yQ vs) (Q:=λ_ st'=>failedOf st'=none/\(arrOf st').toList.Perm (vs.map λv=>(v,v))/\Srt R (arrOf st').toList) (λst' a1 a2 a3=>⟨a1,a2,a3⟩) s0 j;obtain⟨v,hv,rfl⟩:=T1.mp hx;exact u v hv
 dsimp only;refine Gg (wpAny_bind (S9 kd (λk s0 x=> ?_) λ_ _ e=>e.elim));refine wpAny_bind (S9 (rn k s0 x.1 x.2) ?_ λ_ _ e=>e);rintro ⟨⟨⟩,st'⟩ s1 ⟨⟨hf,hp,hs⟩,tk,rfl⟩;dsimp only;have eo:((arrOf st').map λx=>x.2)=((arrOf st').toList.map λx=>x.2).toArray:=by
  rw [<-Array.toList_map,Array.toArray_toList]
 have two:(arrOf st').toList=((arrOf st').toList.map λx=>x.2).map λv=>(v,v):=by
  rw [R0];refine(dJ _).symm.trans (S5 λx hx=> ?_);obtain⟨v,_,rfl⟩:=T1.mp (hp.mem_iff.mp hx);rfl
 have po:((arrOf st').toList.map λx=>x.2).Perm vs:=by
  have:=hp.map λx=>x.2
  rw [R0] at this;refine this.trans ?_;rw [show ((λx:P0=>x.2)∘λv:G0=>(v,v))=id from rfl,dJ]
 rw [two] at hs;rw [eo];generalize (arrOf st').toList.map (λx=>x.2)=out at hs po;obtain⟨c2,ho4⟩: ∃c,(H3.update a (K1 λ_=>out.toArray)).get? a=some (seqObj "list" out.toArray c):=⟨_,dW ho3 λ_=>out.toArray⟩;refine wpAny_bind (gB (s:= {s with heap:=H3,toks:=tk}) ho3 rfl ?_);refine wpAny_bind (fM (s:= {s with heap:=H3,toks:=tk}) ho3 rfl ?_ (S1 _) (by rw [P6,po.length_eq];exact Nat.le_succ_of_le hz));rw [hf];simp only [bne_self_eq_false,b6,if_false];refine P9 (q out c2 tk _ (λb x ne e=> ?_) ho4 po hs);rw [bT _ _ _ _ ne];exact past b x ne e
abbrev Gi (h h':Heap):Prop:= ∀b o,h.get? b=some o->h'.get? b=some o
end
theorem Zd: ∀a b:List Int,jF a b=true->jF b a=false
 | [],[],h=>rfl
 | [],_::_,_=>rfl
 |_::_,[],h=>by cases h
 |x::xs,y::ys,h=>by
  unfold jF at h ⊢
  by_cases e:x=y
  ·subst e;rw [if_pos rfl] at h ⊢;exact Zd xs ys h
  ·rw [if_neg e] at h;rw [if_neg (A1 e)];have:=of_decide_eq_true h;exact decide_eq_false (by omega)
theorem WD: ∀a b c:List Int,jF a c=true->jF a b=true\/jF b c=true
 | [],[],c,h=> .inr h
 | [],_::_,_,_=> .inl rfl
 |_::_,_,[],h=>by cases h
 |x::xs,[],z::zs,h=> .inr rfl
 |x::xs,y::ys,z::zs,h=>by
  unfold jF at h ⊢
  by_cases e:x=z
  ·subst e;rw [if_pos rfl] at h
   by_cases f:x=y
   ·subst f;rw [if_pos rfl,if_pos rfl];exact WD xs ys zs h
   ·rw [if_neg f,if_neg (A1 f)]
    by_cases g:x<y
    ·exact .inl (decide_eq_true g)
    ·exact .inr (decide_eq_true (by omega))
  ·rw [if_neg e] at h;have lt:=of_decide_eq_true h
   by_cases f:x=y
   ·subst f;rw [if_neg e];exact .inr h
   ·rw [if_neg f]
    by_cases g:x<y
    ·exact .inl (decide_eq_true g)
    ·refine .inr ?_;rw [if_neg (by omega)];exact decide_eq_true (by omega)
theorem Jk: ∀a b:List Int,jF a b=false->jF b a=false->a=b
 | [],[],_,_=>rfl
 | [],_::_,h,_=>by cases h
 |_::_,[],_,h=>by cases h
 |x::xs,y::ys,h,h'=>by
  unfold jF at h h'
  by_cases e:x=y
  ·subst e;rw [if_pos rfl] at h h';rw [Jk xs ys h h']
  ·rw [if_neg e] at h;rw [if_neg (A1 e)] at h';have:=of_decide_eq_false h;have:=of_decide_eq_false h';omega
theorem XA {U:P0->Prop}(key:G0->List Int):Ordd U (λx y=>jF (key x.1) (key y.1)):=⟨λx y _ _ h=>Zd _ _ h,λx y z _ _ _ h=>WD _ _ _ h⟩
def IT (h:Heap)(v:G0)(ns:List Int):Prop:= ∃a its,v= .ref a/\dF h a its/\O1 its.toList ns
theorem IT.keeps {h h':Heap}{v:G0}{ns:List Int}(x:IT h v ns)(k:Gi h h'):IT h' v ns:=let ⟨a,its,e,t,i⟩:=x;⟨a,its,e,t.keeps k,i⟩
theorem Vq: ∀ {vs:List G0} {ns ms:List Int},O1 vs ns->O1 vs ms->ns=ms
 |_,_,_,.nil,.nil=>rfl
 |_,_,_,.cons n t a,.cons _ _ b=>by rw [Vq a b]
theorem IT.one {h:Heap}{v:G0}{ns ms:List Int}(x:IT h v ns)(y:IT h v ms):ns=ms:=by
 obtain⟨a,its,rfl,⟨o,e,c,n,d⟩,i⟩:=x;obtain⟨a',its',e2,⟨o',e',c',n',d'⟩,i'⟩:=y;cases e2;rw [e] at e';cases e';rw [d] at d';cases d';exact Vq i i'
open Classical in
noncomputable def jR (h:Heap)(v:G0):List Int:=if e: ∃ns,IT h v ns then e.choose else []
theorem IT.nums {h:Heap}{v:G0}{ns:List Int}(x:IT h v ns):jR h v=ns:=by
 have e: ∃ns,IT h v ns:=⟨ns,x⟩;unfold jR;rw [dif_pos e];exact e.choose_spec.one x
section
variable {prog:R5}{w:T4}{A:T9}{E:G0->G2->Prop}{s:G2}
theorem yB {α β:Type}{M:fO}{f:α->Sem β}(r:α->β): ∀ (l:List α) {Q:List β->G2->Prop},(∀v∈l,∀Q':β->G2->Prop,Q' (r v) s->wpAny M A (f v) Q' E s)->Q (l.map r) s->wpAny M A (l.mapM f) Q E s
 | [],_,_,q=>by
  rw [List.mapM_nil];exact P9 q
 |v::l,Q,hf,q=>by
  rw [List.mapM_cons];refine wpAny_bind (hf v D2 _ (wpAny_bind ?_));exact yB r l (λu hu=>hf u (D3 _ hu)) (P9 q)
def jO (h:Heap):G0->Option G0
 | .ref a=>match h.get? a with
  |some o=>match o.data with
   | .seq xs _=>xs[0]?
   |_=>none
  |none=>none
 |_=>none
variable {v:G0}{ns:List Int}
theorem Gj {Q:Option G0->G2->Prop}(x:IT s.heap v ns)(q:Q (jO s.heap v) s):wpAny (model prog w) A (firstOfTuple' v) Q E s:=by
 obtain⟨a,its,rfl,⟨o,e,c,n,d⟩,i⟩:=x;have fe:jO s.heap (.ref a)=its[0]? :=by
  unfold jO;dsimp only;rw [e];dsimp only;rw [d]
 rw [PySem.W.kas_first_eq];refine wpAny_bind (PySem.W.Looks.here (show PySem.W.Looks (model prog w) s.heap (typeOf (.ref a)) o.cls from (PySem.W.Looks.ld e).andThen .now) ?_);rw [c,if_neg (by decide)];refine wpAny_bind (fV e d (P9 ?_));rw [<-fe];exact q
variable {h:Heap}
theorem VS (x:IT h v []):jO h v=none:=by
 obtain⟨a,its,rfl,⟨o,e,c,n,d⟩,i⟩:=x;unfold jO;dsimp only;rw [e];dsimp only;rw [d];dsimp only;obtain⟨l⟩:=its;cases i;rfl
theorem Ze {n:Int}(x:IT h v (n::ns)): ∃t,jO h v=some (.int n t):=by
 obtain⟨a,its,rfl,⟨o,e,c,k,d⟩,i⟩:=x;obtain⟨l⟩:=its;cases i with
 |cons _ t i=>exact⟨t,by unfold jO;dsimp only;rw [e];dsimp only;rw [d];rfl⟩
theorem Gk (x:IT h v ns):(jO h v).isSome= !ns.isEmpty:=by
 cases ns with
 |nil=>rw [VS x];rfl
 |cons n ns=>obtain⟨t,e⟩:=Ze x;rw [e];rfl
noncomputable def XB (h:Heap)(vs:List G0):SortKind:=
 if (vs.all λv=> !(jR h v).isEmpty)=true then tuples' true else if ((vs[0]?.map λv=> !(jR h v).isEmpty)=some true) then general' else oneType'
theorem XC {vs:List G0}(h2:2<=vs.length)(x: ∀v∈vs,∃ns,IT h v ns){Q:SortKind->G2->Prop}(e:Gi h s.heap)(q:Q (XB h vs) s):wpAny (model prog w) A (keyKind' vs.toArray) Q E s:=by
 have fr: ∀v∈vs,(jO s.heap v).isSome= !(jR h v).isEmpty:=λv hv=>by
  obtain⟨ns,t⟩:=x v hv;rw [t.nums,Gk (t.keeps e)]
 rw [keyKind'_eq,aF,map_eq_pure_bind];refine wpAny_bind (wpAny_bind (yB (jO s.heap) vs (λv hv Q' q'=> ?_) (P9 ?_)))
 ·obtain⟨ns,t⟩:=x v hv;exact Gj (t.keeps e) q'
 have all_:((vs.map (jO s.heap)).toArray.all λo=>o.isSome)=vs.all λv=> !(jR h v).isEmpty:=by
  rw [aN,O2];rw [B0,T5,T5];exact⟨λz v hv=>by rw [<-fr v hv];exact z v hv,λz v hv=>by show (jO s.heap v).isSome=true;rw [fr v hv];exact z v hv⟩
 rw [all_];unfold XB at q
 by_cases a1:(vs.all λv=> !(jR h v).isEmpty)=true
 ·rw [if_pos a1] at q;rw [if_pos a1];refine wpAny_bind (b7 ?_);obtain⟨fs,efs,nums,ne⟩: ∃fs:List G0,vs.map (jO s.heap)=fs.map some/\(∀f∈fs,∃n t,f=K6 n t)/\fs.length=vs.length:=by
   have go: ∀l:List G0,(∀v∈l,v∈vs)-> ∃fs:List G0,l.map (jO s.heap)=fs.map some/\(∀f∈fs,∃n t,f=K6 n t)/\fs.length=l.length:=by
    intro l
    induction l with
    |nil=>exact λ_=>⟨[],rfl,λf hf=>absurd hf O7,rfl⟩
    |cons v l ih=>
     intro sub;obtain⟨fs,e1,e2,e3⟩:=ih λu hu=>sub u (D3 _ hu)
     have hv:=sub v D2;obtain⟨ns,t⟩:=x v hv;have ne:=T5.mp a1 v hv;rw [t.nums] at ne;cases ns with
     |nil=>cases ne
     |cons n ns=>
      obtain⟨tk,ef⟩:=Ze (t.keeps e);refine⟨.int n tk::fs,by rw [R1,R1,ef,e1],λf hf=> ?_,by rw [D5,D5,e3]⟩;rcases S3.mp hf with rfl|hf
      ·exact⟨n,tk,rfl⟩
      ·exact e2 f hf
   exact go vs λ_ hv=>hv
  rw [efs];have fm:((fs.map some).toArray.filterMap id)=fs.toArray:=by simp
  rw [fm,dX,aF,map_eq_pure_bind];refine wpAny_bind (wpAny_bind (wpAny_bind (yB (λ_=>O8 "int") fs (λf hf Q' q'=> ?_) (P9 ?_))))
  ·obtain⟨n,t,rfl⟩:=nums f hf;exact P9 q'
  ·match fs,ne with
   | [],ne=>rw [T3] at ne;omega
   |f::fs,_=>
    have h0:(W7 (λ_=>O8 "int") (f::fs)).toArray[0]? =some (O8 "int"):=by simp
    have h1:((W7 (λ_=>O8 "int") (f::fs)).toArray.all λy=>y==O8 "int")=true:=by
     rw [aN,O2,T5];exact λ_ _=>rfl
    rw [h0];simp only [h1,if_true];exact P9 (P9 q)
 rw [if_neg a1] at q;rw [if_neg a1]
 match vs,h2,x,fr,q with
 |v::vs,h2,x,fr,q=>
  have h0:((W7 (jO s.heap) (v::vs)).toArray[0]?.bind id).isSome= !(jR h v).isEmpty:=by
   rw [<-fr v D2];simp
  rw [h0];have h0':(((v::vs)[0]?.map λv=> !(jR h v).isEmpty)=some true)↔(!(jR h v).isEmpty)=true:=by simp
  by_cases a2:(!(jR h v).isEmpty)=true
  ·rw [if_pos (h0'.mpr a2)] at q;rw [if_pos a2];exact P9 q
  rw [if_neg λz=>a2 (h0'.mp z)] at q;rw [if_neg a2];rw [dX,aF,map_eq_pure_bind];refine wpAny_bind (wpAny_bind (wpAny_bind (yB (λ_=>O8 "tuple") (v::vs) (λf hf Q' q'=> ?_) (P9 ?_))))
  ·obtain⟨ns,t⟩:=x f hf;obtain⟨a,its,rfl,⟨o,e1,c,n,d⟩,i⟩:=t.keeps e;refine PySem.W.Looks.here (show PySem.W.Looks (model prog w) s.heap (typeOf (.ref a)) o.cls from (PySem.W.Looks.ld e1).andThen .now) ?_;rw [c];exact q'
  ·have h3:(W7 (λ_=>O8 "tuple") (v::vs)).toArray[0]? =some (O8 "tuple"):=by simp
   have h1:((W7 (λ_=>O8 "tuple") (v::vs)).toArray.all λy=>y==O8 "tuple")=true:=by
    rw [aN,O2,T5];exact λ_ _=>rfl
   rw [h3];simp only [h1,if_true];exact P9 (P9 q)
theorem Vr {fin:Bool}{Q:Bool->G2->Prop}{m n:Nat}(ef:fin=decide (m<n)): ∀ {vs us:List G0} {ns ms:List Int} (i:Nat),O1 vs ns->O1 us ms->ns.length+n=ms.length+m->Q (jF ns ms) s->PySem.W.KatLex prog w A true fin Q (vs.zip us) i s
 |_,_,_,_,i,.nil,.nil,l,q=>by
  subst ef;rw [aD];refine PySem.W.kat_nil ?_;rw [decide_eq_false (by rw [T3] at l;omega)];exact q
 |_,_,_,_,i,.nil,.cons c u y,l,q=>by
  subst ef;rw [aD];refine PySem.W.kat_nil ?_;rw [decide_eq_true (by rw [T3,D5] at l;omega)];exact q
 |_,_,_,_,i,.cons a t x,.nil,l,q=>by
  subst ef;rw [bX];refine PySem.W.kat_nil ?_;rw [decide_eq_false (by rw [T3,D5] at l;omega)];exact q
 |_,_,_,_,i,.cons a t x,.cons c u y,l,q=>by
  rw [U0];rw [JH] at q;obtain⟨e,he,hiff⟩:=YX A s a t c u;refine PySem.W.kat_cons (he prog w _ _ ?_);refine PySem.W.kat_go (λz=>PySem.W.kat_yes ?_) λz=>PySem.W.kat_no ?_
  ·rw [if_pos (hiff.mp z)] at q;exact Vr ef (i+1) x y (by rw [D5,D5] at l;omega) q
  ·rw [if_neg λz'=>by rw [hiff.mpr z'] at z;cases z] at q;cases (true&&i==0) with
   |true=>exact oneLt_int q
   |false=>exact PySem.W.kat_one _ _ (bO q)
theorem Nu {u:G0}{ms:List Int}{Q:Bool->G2->Prop}(hu:A.units<cLine)(x:IT s.heap v ns)(y:IT s.heap u ms)(q:Q (jF ns ms) s):wpAny (model prog w) A (oneLt' true v u) Q E s:=by
 obtain⟨a,its,rfl,⟨⟨cls,dd,data,sl⟩,e1,c,n,d⟩,i⟩:=x;obtain⟨b,its2,rfl,⟨⟨cls2,dd2,data2,sl2⟩,e2,c2,n2,d2⟩,i2⟩:=y;simp only at c d c2 d2;subst c d c2 d2;rw [oneLt'_eq];simp only [if_true];refine wpAny_bind (wpAny_cRoomFor hu (wpAny_bind (wpAny_callSpecialIfBound?_slot ⟨_,e1,rfl⟩ PySem.F.slot_tuple_lt (Y4 PySem.F.slot_tuple_lt ⟨_,e1,rfl⟩ PySem.F.entry_tuple_lt (PySem.F.args_tuple_lt_2 _ _) (yj a b its its2 n n2 dd dd2 sl sl2 ns ms i i2) ⟨e1,e2,?_⟩))));exact N8 q
theorem Nv {u:G0}{ms:List Int}{Q:Bool->G2->Prop}(hu:A.units<cLine)(x:IT s.heap v ns)(y:IT s.heap u ms)(q:Q (jF ns ms) s):wpAny (model prog w) A (oneLt' false v u) Q E s:=by
 obtain⟨a,its,rfl,t,i⟩:=x;obtain⟨b,its2,rfl,t2,i2⟩:=y;exact PySem.W.kat_one _ _ (VA t t2 i i2 hu q)
theorem XD {vs:List G0}(hu:A.units<cLine){h':Heap}(k:Gi s.heap h'):Wa prog w A (Only s h') (XB s.heap vs) (λx=> ∃ns,IT s.heap x.1 ns) (λx y=>jF (jR s.heap x.1) (jR s.heap y.1)):=by
 rintro ⟨x,x'⟩ ⟨y,y'⟩ ⟨ns,tx⟩ ⟨ms,ty⟩ s1 ⟨tk,rfl⟩;dsimp only at tx ty ⊢;have q:(jF ns ms=jF (jR s.heap x) (jR s.heap y)/\Only s h' {s with heap:=h',toks:=tk}):=⟨by rw [tx.nums,ty.nums],tk,rfl⟩;have kx:=tx.keeps k;have ky:=ty.keeps k;unfold XB
 by_cases a1:(vs.all λv=> !(jR s.heap v).isEmpty)=true
 ·rw [if_pos a1];obtain⟨a,its,rfl,⟨o,e1,c,n,d⟩,i⟩:=kx;obtain⟨b,its2,rfl,⟨o2,e2,c2,n2,d2⟩,i2⟩:=ky;refine PySem.W.kat_lt e1 d e2 d2 (Vr rfl 0 i i2 ?_ q);have z1:=i.length;have z2:=i2.length;rw [T2] at z1 z2;omega
 rw [if_neg a1]
 by_cases a2:(vs[0]?.map λv=> !(jR s.heap v).isEmpty)=some true
 ·rw [if_pos a2];show wpAny _ _ (oneLt' false x y) _ _ _;exact Nv hu kx ky q
 ·rw [if_neg a2,keyLt'_oneType];exact Nu hu kx ky q
end
end HT
namespace L2
open PySem PySem.Spec PyProof.Rows PySem.SeqAt HT
theorem WE {α β:Type}{f:α->β}: ∀ {out:List β} {l:List α},out.Perm (l.map f)-> ∃l':List α,l'.Perm l/\l'.map f=out
 | [],l,p=>by
  have e:=p.length_eq;rw [G7,T3] at e;exact⟨[],by rw [W6 e.symm],rfl⟩
 |x::out,l,p=>by
  obtain⟨y,hy,rfl⟩:=T1.mp (p.mem_iff.mp D2);obtain⟨l1,l2,rfl⟩:=List.append_of_mem hy;have p2:out.Perm ((l1++l2).map f):=by
   refine gI (a:=f y) (p.trans ?_);rw [M6,M6,R1];exact dE
  obtain⟨l',a,b⟩:=WE p2;exact⟨y::l',(a.cons y).trans dE.symm,by rw [R1,b]⟩
def Fm (H:Hp)(v:V)(ns:List Int):Prop:= ∃a,v= .ref a/\H a=some (.tup (ns.map V.int))
abbrev tI (ns:List Int):D:= .tup (ns.map D.int)
theorem XE {K:PySem.W.Frag}{H:Hp}: ∀ {ps:List (V×List Int)},(∀p∈ps,Fm H p.1 p.2)->RelDs K H ((ps.map (·.2)).map tI) (ps.map (·.1))
 | [],_=> .nil
 |p::ps,h=> .cons (by
  obtain⟨a,e,hH⟩:=h p D2;exact⟨a,_,e,hH,wz _⟩) (XE λq hq=>h q (D3 _ hq))
end L2
namespace L2
open PySem PySem.Spec PyProof.Rows PySem.SeqAt
theorem zR {h h':HD}{a:Addr}(sb:Sub h h')(e:h' a=none):h a=none:=by
 cases z:h a with
 |none=>rfl
 |some ds=>rw [sb a ds z] at e;cases e
theorem Sub.over {h h':HD}{a:Addr}{ds:List D}(sb:Sub h h')(e:h a=none):Sub h (wS h' a ds):=⟨λb xs k=>yo (λz=>by subst z;rw [e] at k;cases k) (sb b xs k),sb.dc⟩
section
variable {X:Cx}{iter iter' elt:Expr}{te:TED}{ti ti':TID}{tt tt':TTD}{pos spos:Pos}{scope:H0}{js:List Nat}{ifs ifs':List Expr}
theorem DO {i i' k:Nat}{x z y:Str}{p pz py:Pos}(hc:X.calm=true)(hN:X.N.Nodup)(hk:X.N[k]? =some y)(hy:Loc X.env.scope y)(S:BlockOk X scope js)(hi:JI X (.Name x p) iter ti)(hj:i∈js)(hj':i'∈js)(hne:i≠i')(hx:X.N[i]? =some x)(hz:X.N[i']? =some z)
 (hl:scope.names.lookup x=some .local\/scope.names.lookup x=some .cell)(hl':scope.names.lookup z=some .local\/scope.names.lookup z=some .cell)
 (ht: ∀X',jg X scope X'->PTs X' ifs (LT X'.K tt))(hi': ∀X',jg X scope X'->JI X' (.Name z pz) iter' ti')(ht': ∀X',jg X scope X'->PTs X' ifs' (LT X'.K tt'))(he: ∀X',jg X scope X'->JE X' elt te)
 (hsw:swapsWith (.ListComp elt [⟨.Name x p,iter,ifs,0⟩,⟨.Name z pz,iter',ifs',0⟩] scope pos) (some (.Name y py)) spos.line X.env=pure true:=by rfl)
 (hf:X.fn y=true\/X.env.scope.names.lookup y=some .local:=by first|exact .inl rfl|exact .inr rfl|assumption)(hs: ∀x,foldedSetIterable iter X.env x=pure x:=by intro _;rfl)(hs': ∀env x,foldedSetIterable iter' env x=pure x:=by intro _ _;rfl):
 JS X (.Assign [.Name y py] (.ListComp elt [⟨.Name x p,iter,ifs,0⟩,⟨.Name z pz,iter',ifs',0⟩] scope pos) spos) (XY k (GH (bN i) js ti tt i' ti' tt' te)):=by
 have base:PS X (.Assign [.Name y py] (.ListComp elt [⟨.Name x p,iter,ifs,0⟩,⟨.Name z pz,iter',ifs',0⟩] scope pos) spos) (Gy (NT js (LI X.K ti) (wg i) (LT X.K tt) (LI X.K ti') (wg i') (LT X.K tt') (LE X.K te)) (wg k)):=
  UF hc S hi.to rfl (λX' hX=>by obtain⟨C,s₀,H₀,ex,rfl⟩:=hX;exact wA hN hx hl) (λX' hX=>by have:=ht X' hX;obtain⟨C,s₀,H₀,ex,rfl⟩:=hX;exact this)
   (λenv acc=>VF (.ListComp elt [⟨.Name x p,iter,ifs,0⟩,⟨.Name z pz,iter',ifs',0⟩] scope pos) iter' env acc) (λ_ _ _=>UH ..)
   (λX' hX D=>by
    have a:=(hi' X' hX).to;have b:=ht' X' hX;have c:=(he X' hX).to;obtain⟨C,s₀,H₀,ex,rfl⟩:=hX;exact UG (g:=wg i') hc rfl a (wA hN hz hl') b c (hs' _))
   (wP hN hk hy hf) hsw hs
 exact⟨base.imp λD σ H h=>by
  obtain⟨gP,hd,Qd,rs,rh,t,p⟩:=UK (K:=X.K) D σ H h;exact GJ (GI hj hj' hne) σ H _ ⟨gP,hd,Qd,rs,rh,t,p⟩⟩
end
end L2
namespace L2
open PySem PySem.Spec PyProof.Rows PySem.SeqAt HT
open Classical in
noncomputable def readOf (h:Heap)(v:G0):L0:=if e: ∃p as,p.canLay0=true/\Reads h v p as then e.choose else .none
end L2
namespace L2
open PySem PySem.Spec PyProof.Rows PySem.SeqAt
section
variable {α:Type}{i:Nat}{js:List Nat}{ti:TID}{te:TED}{σ:SD}{h:HD}{Q:KD}
theorem Nw (xs:List α)(c g:α->D)(P:Addr->HD->Prop)(hz:xs.length<=1000)(ht: ∀R:ItD->HD->Prop,(∀A h1,P A h1->R (λh=>h A) h1)->ti σ h R)(hP: ∀A h1,P A h1->h1 A=some (xs.map c))(he: ∀A h1,P A h1-> ∀x∈xs,∀Q':KD,Q' (g x) h1->te ((jH js σ).set i (some (c x))) h1 Q')(hq: ∀A h1,P A h1-> ∀p,h1 p=none->Q (.lst p) (wS h1 p (xs.map g))):Wo (bN i) js ti vb te σ h Q:=
 ht _ λA h1 hp=>(lcA (ti:=λ_ h R=>R (λh=>h A) h) (j:=λh=>h A) xs c g hz (hP A h1 hp) (λR r=>r) (he A h1 hp) (hq A h1 hp):Wo (bN i) js (λ_ h R=>R (λh=>h A) h) vb te σ h1 Q)
end
end L2
namespace L2
open PySem PySem.Spec PyProof.Rows
def s5:Nat->Nat
 |0=>0
 |d+1=>5*s5 d+1
def f5 (N:Nat):Nat->Nat->Nat
 |0,a=>a
 |d+1,a=>(f5 N d a*5+1)%N
theorem Vs: ∀ (fuel k n:Nat),3<=k-> ∃m,3<=m/\SetTable.sizeAbove.go n fuel (2^k)=2^m/\(n<2^(k+fuel)->n<2^m)
 |0,k,n,h=>⟨k,h,rfl,λz=>z⟩
 |fuel+1,k,n,h=>by
  unfold SetTable.sizeAbove.go
  by_cases c:2^k<=n
  ·rw [if_pos c,<-cU];obtain⟨m,a,b,d⟩:=Vs fuel (k+1) n (by omega);exact⟨m,a,b,λz=>d (by rw [Nat.add_right_comm,W4];exact z)⟩
  ·rw [if_neg c];exact⟨k,h,rfl,λ_=>by omega⟩
theorem above {n:Nat}(h:n<2^67): ∃m,U5 n=2^m/\n<U5 n/\8<=U5 n:=by
 obtain⟨m,a,b,c⟩:=Vs 64 3 n (by decide);have b:U5 n=2^m:=b;refine⟨m,b,by rw [b];exact c h,?_⟩;rw [b];exact A7 (show 0<2 by decide) a
end L2
namespace L2
open PySem PySem.Spec PyProof.Rows HT
def DP (h h':Heap):Prop:= ∀ (b:Addr) (o:Obj),o.cls= .type "tuple" ->h.get? b=some o->h'.get? b=some o
structure MemK (prog:R5)(w:T4)(K:Type)[DecidableEq K] where
 is:Heap->K->Addr->Prop
 hash:K->Int
 inj: ∀ {h:Heap} {x y:K} {a:Addr},is h x a->is h y a->x=y
 keep: ∀ {h h':Heap} {x:K} {a:Addr},DP h h'->is h x a->is h' x a
 hashed: ∀ {A:T9} {E:G0->G2->Prop} {s:G2} {x:K} {a:Addr} {Q:Int->G2->Prop},A.units+8<cLine->is s.heap x a->(∀tk,Q (hash x) {s with toks:=tk})->wpAny (model prog w) A (pyHash (.ref a)) Q E s
 same: ∀ {A:T9} {E:G0->G2->Prop} {s:G2} {x y:K} {a b:Addr} {Q:Bool->G2->Prop},A.units+8<cLine->is s.heap x a->is s.heap y b->Q (decide (x=y)) s->wpAny (model prog w) A (eqBool (.ref a) (.ref b)) Q E s
 quiet: ∀ {A:T9} {E:G0->G2->Prop} {s:G2} {x:K} {a:Addr} {Q:Bool->G2->Prop},is s.heap x a->Q true s->wpAny (model prog w) A (eqIsQuiet 8 (.ref a)) Q E s
 cls: ∀ {A:T9} {E:G0->G2->Prop} {s:G2} {x:K} {a:Addr} {Q:Bool->G2->Prop},is s.heap x a->Q false s->wpAny (model prog w) A (ofAClassStatement 8 (.ref a)) Q E s
 byv: ∀ {A:T9} {E:G0->G2->Prop} {s:G2} {x:K} {a:Addr} {Q:Bool->G2->Prop},is s.heap x a->Q true s->wpAny (model prog w) A (hashByValue 8 (.ref a)) Q E s
end L2
namespace L2
open PySem PySem.Spec PyProof.Rows PySem.W
structure DefIn (K:Frag)(x:Str)(st:Stmt)(f:Addr)(fd:S7):Prop where
 at_:nsIn K mainGlobals x=some (some (.ref f))
 fn:Fun K x x st f fd
variable {K:Frag}{h base:Heap}{mg:Str->Option G0}{x:Str}{st:Stmt}{f:Addr}{fd:S7}{P:R5}{w:T4}{n:Nat}{ps:List Str}
theorem Nx {oc:G0}{od an:Option Addr}{osl:Array (Option G0)}{kV doc pm cdv ct:G0}(a:nsIn K mainGlobals x=some (some (.ref f)))(l:K.lookup f=some ⟨oc,od,.func (fnOf x x (wk st) (zc st) (jc st) .none kV doc pm an cdv ct),osl⟩)
 (c:codeIn K cdv x=true)(k:keepIn K (.ref f)=true):DefIn K x st f (fnOf x x (wk st) (zc st) (jc st) .none kV doc pm an cdv ct):=⟨a,RZ l c k⟩
abbrev Co (x:Str)(st:Stmt)(ps:List Str):Prop:= ∀ (kV doc pm:G0) (an:Option Addr) (cdv ct:G0) (us:List G0),us.length=ps.length->bindArgs (fnOf x x (wk st) (zc st) (jc st) .none kV doc pm an cdv ct) ⟨us,[]⟩=pure (ps.zip us)
theorem DefIn.nm (d:DefIn K x st f fd)(X:K.In h)(G:h.Ns mainGlobals mg):mg x=some (.ref f):=mg_of X G d.at_
theorem DefIn.cal {sp:RDn}(d:DefIn K x st f fd)(l:OpenLaw)(w:T4)(base:Heap)(X:K.In h)(G:h.Ns mainGlobals mg)(ok:FnOk l.prog w K mg base CX0 n f fd ps (LSp K sp))(b:Co x st ps:=by first|(exact λ_ _ _ _ _ _ us hl=>match us,hl with| [_],_=>rfl)|(exact λ_ _ _ _ _ _ us hl=>match us,hl with| [_,_],_=>rfl)|(exact λ_ _ _ _ _ _ us hl=>match us,hl with| [_,_,_],_=>rfl)|(exact λ_ _ _ _ _ _ us hl=>match us,hl with| [_,_,_,_],_=>rfl)|(exact λ_ _ _ _ _ _ us hl=>match us,hl with| [_,_,_,_,_],_=>rfl)):jp l.prog w K mg base n x ps sp:=⟨_,_,ok,d.fn.binds b,d.fn.kp,d.nm X G⟩
def zsB (K:Frag):Bool:= ["len","max","min","divmod","all","any","repr","sum","sorted","int","tuple","list","set","bool","isinstance","range","zip","enumerate","reversed"].all λx=>nsIn K mainGlobals (Str.ofString x)==some none
theorem Cp (X:K.In h)(G:h.Ns mainGlobals mg)(e:zsB K=true):Zs mg:=by
 unfold zsB at e;rw [T5] at e;have m:=λ(x:String) hx=>mg_none_of X G (beq_iff_eq.mp (e x hx))
 exact⟨m "len" (by decide),m "max" (by decide),m "min" (by decide),m "divmod" (by decide),m "all" (by decide),m "any" (by decide),m "repr" (by decide),m "sum" (by decide),m "sorted" (by decide),m "int" (by decide),m "tuple" (by decide),m "list" (by decide),m "set" (by decide),m "bool" (by decide),m "isinstance" (by decide),m "range" (by decide),m "zip" (by decide),m "enumerate" (by decide),m "reversed" (by decide)⟩
end L2
namespace L2
open PySem PySem.Spec PyProof.Rows
def kvV (kvs:List (Int×V)):List (Key×V):=kvs.map λp=>((B2 p.1:Key),p.2)
def Jr {α:Type}(kv:List (Int×α))(k:Int):Option α:=(kv.find? λp=>decide (p.1=k)).map (·.2)
def Yq {α:Type}(kv:List (Int×α))(k:Int)(d:α):List (Int×α):=if (Jr kv k).isSome then kv.map (λp=>if p.1=k then (p.1,d) else p) else kv++ [(k,d)]
section
variable {α:Type}{kv r:List (Int×α)}{p:Int×α}{k:Int}
theorem ZE (e:p.1=k):Jr (p::r) k=some p.2:=by simp [Jr,L8,e]
theorem ZF (e: ¬p.1=k):Jr (p::r) k=Jr r k:=by simp [Jr,L8,e]
end
section
variable {K:PySem.W.Frag}{H:Hp}{k:Int}
theorem vG: ∀ {kv:List (Int×D)} {kvs:List (Int×V)},kv.map (·.1)=kvs.map (·.1)->RelDs K H (kv.map (·.2)) (kvs.map (·.2))->(∀d,Jr kv k=some d-> ∃v,Wj (kvV kvs) (B2 k)=some v/\RelD K H d v)/\(Jr kv k=none->Wj (kvV kvs) (B2 k)=none)
 | [],[],_,_=>⟨λ_ z=>(nomatch z),λ_=>rfl⟩
 |p::r,[],e,_=>by cases e
 | [],q::s,e,_=>by cases e
 |p::r,q::s,e,h=>by
  rw [R1,R1] at e;injection e with e1 e2
  obtain⟨v,t,z,h1,h2⟩:=(show ∃v t,q.2::s.map (·.2)=v::t/\RelD K H p.2 v/\RelDs K H (r.map (·.2)) t from h);injection z with z1 z2
  subst z1;subst z2
  by_cases c:p.1=k
  ·rw [ZE c];refine⟨λd z=> ?_,λz=>by cases z⟩;injection z with z
   subst z;exact⟨q.2,vz (by show (B2 q.1:Key)=_;rw [<-e1,c]),h1⟩
  ·rw [ZF c];have n: ¬ (B2 q.1:Key)=B2 k:=λz=>by injection z with z;exact c (e1.trans z)
   show (∀d,_-> ∃v,Wj ((B2 q.1,q.2)::kvV s) _=_/\_)/\(_->Wj ((B2 q.1,q.2)::kvV s) _=_);rw [vA n];exact vG e2 h2
theorem Gm {kv:List (Int×D)}{kvs:List (Int×V)}{d:D}{v:V}(e:kv.map (·.1)=kvs.map (·.1))(r:RelDs K H (kv.map (·.2)) (kvs.map (·.2)))(rd:RelD K H d v): ∃kvs',Yc (kvV kvs) (B2 k) v=kvV kvs'/\(Yq kv k d).map (·.1)=kvs'.map (·.1)/\RelDs K H ((Yq kv k d).map (·.2)) (kvs'.map (·.2)):=by
 have g:=vG (k:=k) e r
 by_cases c:(Jr kv k).isSome
 ·obtain⟨d0,hd0⟩:=Q5.mp c;obtain⟨v0,hv0,_⟩:=g.1 d0 hd0;refine⟨kvs.map λp=>if p.1=k then (p.1,v) else p,?_,?_,?_⟩
  ·unfold Yc;rw [vB,hv0];show W7 _ (kvV kvs)=_;unfold kvV;rw [R0,R0];refine S5 λp _=> ?_
   show (if (B2 p.1:Key)=B2 k then _ else _)=_
   by_cases z:p.1=k
   ·rw [if_pos (by rw [z])];show _=((B2 (if p.1=k then (p.1,v) else p).1:Key),(if p.1=k then (p.1,v) else p).2);rw [if_pos z]
   ·rw [if_neg (λw=>z (by injection w))];show _=((B2 (if p.1=k then (p.1,v) else p).1:Key),(if p.1=k then (p.1,v) else p).2);rw [if_neg z]
  ·unfold Yq;rw [if_pos c,R0,R0];have a1:kv.map ((·.1)∘λp=>if p.1=k then (p.1,d) else p)=kv.map (·.1):=S5 λp _=>by show (if p.1=k then (p.1,d) else p).1=p.1;split<;>rfl
   have a2:kvs.map ((·.1)∘λp=>if p.1=k then (p.1,v) else p)=kvs.map (·.1):=S5 λp _=>by show (if p.1=k then (p.1,v) else p).1=p.1;split<;>rfl
   rw [a1,a2,e]
  ·unfold Yq;rw [if_pos c];clear g c hd0 hv0
   induction kv generalizing kvs with
   |nil=>cases kvs with
    |nil=>exact .nil
    |cons q s=>cases e
   |cons p t ih=>cases kvs with
    |nil=>cases e
    |cons q s=>
     rw [R1,R1] at e;injection e with e1 e2
     obtain⟨u,w,z,h1,h2⟩:=(show ∃v t',q.2::s.map (·.2)=v::t'/\RelD K H p.2 v/\RelDs K H (t.map (·.2)) t' from r);injection z with z1 z2
     subst z1;subst z2;refine⟨(if q.1=k then (q.1,v) else q).2,_,rfl,?_,ih e2 h2⟩;show RelD K H (if p.1=k then (p.1,d) else p).2 _
     by_cases z:p.1=k
     ·rw [if_pos z,if_pos (e1 ▸ z)];exact rd
     ·rw [if_neg z,if_neg (e1 ▸ z)];exact h1
 ·have hn:Jr kv k=none:=by simpa using c
  refine⟨kvs++ [(k,v)],?_,?_,?_⟩
  ·rw [Qm v (g.2 hn)];unfold kvV;rw [M6];rfl
  ·unfold Yq;rw [if_neg c,M6,M6,e];rfl
  ·unfold Yq;rw [if_neg c,M6,M6];exact r.append (.cons rd .nil)
theorem Gn {α:Type}{kv:List (Int×α)}{d:α}:(Yq kv k d).length<=kv.length+1:=by
 unfold Yq;split
 ·rw [G7];omega
 ·rw [G3];exact G5 _
end
def Ny:TED:=λ_ h Q=> ∀p,h.dc p=none->Q (.dct p) (GD h p (.ik []))
section
variable {X:Cx}
theorem Nz {pos:Pos}:JE X (.Dict [] [] pos) Ny:=⟨pe_dnewK.imp λσ H Q ⟨gP,h,Qd,rs,rh,t,p⟩ q hq=>
 p (.dct q) (.ref q) _ _ (.new hq) (rh.newC (c:= .ik []) hq ⟨[],jh,rfl,.nil⟩) rfl (t q (rh.freeC hq))⟩
def Cq (td ty tv:TED):TSD:=λE σ h=>tv σ h λv h1=>td σ h1 λx h2=>ty σ h2 λy h3=> ∃a k kv,x= .dct a/\y= .int k/\h3.dc a=some (.ik kv)/\kv.length<1000/\E.nx σ (GD h3 a (.ik (Yq kv k v)))
theorem Cr {k : Nat} {o i value : Expr} {td ty tv : TED} {pos pos' : Pos} (hr : Room k X.A) (ho : JE X o td) (hi : JE X i ty) (hv : JE X value tv) (hs : swapsWith value (some (.Subscript o i pos')) pos.line X.env = pure false := by rfl) : JS X (.Assign [.Subscript o i pos'] value pos) (Cq td ty tv) :=
  ⟨(PD (by have := hr.un; omega) ho.to hi.to hv.to hs).imp fun D σ H ⟨gP, h, Dd, rs, rh, t, nx, _⟩ => LE.bind rs rh t fun d v h1 H1 k1 rs1 rh1 r1 t1 => LE.bind rs1 rh1 t1 fun d2 v2 h2 H2 k2 rs2 rh2 r2 t2 => LE.bind rs2 rh2 t2 fun d3 v3 h3 H3 k3 rs3 rh3 r3 ⟨a, x, kv, e1, e2, e, hl, q⟩ => by
    subst e1 e2
    cases (show v2 = .ref a from r2)
    cases (show v3 = .int x from r3)
    obtain ⟨kvs, hH, ek, rv⟩ := (show ∃ kvs : List (Int × V), _ from rh3.dc a _ e)
    obtain ⟨kvs', p1, p2, p3⟩ := Gm (k := x) ek rv ((r1.mono k2).mono k3)
    have ob : DObj (.dK (kvV kvs)) := .inl ⟨kvs, rfl⟩
    have hl' : (kvV kvs).length < sizeLine := by
      unfold kvV
      rw [G7, show kvs.length = kv.length by have := congrArg bE ek; simpa using this.symm]
      exact R7 hl (by decide)
    refine ⟨a, _, rfl, .k (k := B2 x) hH hl', nx gP _ σ _ (k1.trans (k2.trans (k3.trans (.putD hH ob)))) (rs3.mono (.putD hH ob)) (rh3.putC (c := .ik (Yq kv x d)) hH ob ⟨kvs', ?_, p2, p3.mono (.putD hH ob)⟩) q⟩
    rw [jh]
    exact congrArg (fun z => some (HO.dK z)) p1⟩
def NA (td ty tx:TED):TED:=λσ h Q=>td σ h λx h1=> ∃a kv0,x= .dct a/\h1.dc a=some (.ik kv0)/\ty σ h1 λy h2=>tx σ h2 λz h3=> ∃k kv,y= .int k/\h3.dc a=some (.ik kv)/\Q ((Jr kv k).getD z) h3
theorem NB {k : Nat} {o e f : Expr} {td ty tx : TED} {apos cpos : Pos} (hr : Room k X.A) (ho : JE X o td) (he : JE X e ty) (hf : JE X f tx) (m : M2 X o "get" apos e f cpos := by exact ⟨rfl, rfl, rfl, rfl⟩) : JE X (.Call (.Attribute o "get" apos) [e, f] [] cpos) (NA td ty tx) :=
  ⟨(Qo (by have := hr.un; omega) ho.to he.to hf.to m).imp fun σ H Q ⟨gP, h, Qd, rs, rh, t, post⟩ => LE.bind rs rh t fun d v h1 H1 k1 rs1 rh1 r1 ⟨a, kv0, e1, z1, t1⟩ => by
    subst e1
    cases (show v = .ref a from r1)
    obtain ⟨kvs0, hH0, _⟩ := (show ∃ kvs : List (Int × V), _ from rh1.dc a _ z1)
    refine ⟨a, rfl, .inl ⟨_, .inl hH0⟩, LE.bind rs1 rh1 t1 fun d2 v2 h2 H2 k2 rs2 rh2 r2 t2 => LE.bind rs2 rh2 t2 fun d3 v3 h3 H3 k3 rs3 rh3 r3 ⟨x, kv, e2, e, q⟩ => ?_⟩
    subst e2
    cases (show v2 = .int x from r2)
    obtain ⟨kvs, hH, ek, rv⟩ := (show ∃ kvs : List (Int × V), _ from rh3.dc a _ e)
    refine ⟨_, .k (k := B2 x) hH, post ((Jr kv x).getD d3) _ _ _ (k1.trans (k2.trans k3)) rh3 ?_ q⟩
    show RelD X.K H3 ((Jr kv x).getD d3) ((Wj (kvV kvs) (B2 x)).getD v3)
    cases g : Jr kv x with
    | none => rw [(vG ek rv).2 g]; exact r3
    | some d => obtain ⟨u, hu, ru⟩ := (vG ek rv).1 d g; rw [hu]; exact ru⟩
theorem NC {P:R5}{w:T4}{k:Int}{v:G0}(h:(jD P w).is (B2 k) v=true):RelV (.int k) v:=cA h
end
theorem Sub.overC {h h':HD}{a:Addr}{c:DC}(sb:Sub h h')(e:h.dc a=none):Sub h (GD h' a c):=⟨sb.ls,λb xs z=>by
 rw [Zr (λw=>by subst w;rw [e] at z;cases z)];exact sb.dc b xs z⟩
end L2
set_option maxRecDepth 35000
namespace L2
open PySem PySem.Spec PyProof.Rows
section
variable {X:Cx}{k i:Nat}{ps N Pn:List Str}{spd:RDn}{x:Str}{p pos pos':Pos}{e e2 e3 e4 iter elt:Expr}{es ifs:List Expr}{t:TAD}{te te2 te3 te4:TED}{ti:TID}{tt:TTD}{scope sc:H0}{c:Expr}
theorem jk (C:jp X.prog X.w X.K X.mg X.base k x ps spd)(hr:Room k X.A)(ha:JA X (e::es) t)(hg:Gl X x:=by rfl)(hdb:(x==("__debug__" :Str))=false:=by decide)(he:starEach (e::es) X.env=(false,eval e X.env)::starEach es X.env:=by rfl)(hpl:(backTo pos (starEach es X.env)).any (·.1)=false:=by rfl):JE X (.Call (.Name x p) (e::es) [] pos) (dCB spd t):=by
 obtain⟨g,gd,F,hb,hk,hm⟩:=C;exact Cf F hr hg hm hk hb ha hdb he hpl
theorem j1 (a:JE X e te)(h:jL e=true:=by rfl):JA X [e] (zh te Wm):=jac a vY h
theorem j2 (a:JE X e te)(b:JE X e2 te2)(h:jL e=true:=by rfl)(h2:jL e2=true:=by rfl):JA X [e,e2] (zh te (zh te2 Wm)):=jac a (j1 b h2) h
theorem j3 (a:JE X e te)(b:JE X e2 te2)(c:JE X e3 te3)(h:jL e=true:=by rfl)(h2:jL e2=true:=by rfl)(h3:jL e3=true:=by rfl):JA X [e,e2,e3] (zh te (zh te2 (zh te3 Wm))):=jac a (j2 b c h2 h3) h
theorem j4 (a:JE X e te)(b:JE X e2 te2)(c:JE X e3 te3)(d:JE X e4 te4)(h:jL e=true:=by rfl)(h2:jL e2=true:=by rfl)(h3:jL e3=true:=by rfl)(h4:jL e4=true:=by rfl):JA X [e,e2,e3,e4] (zh te (zh te2 (zh te3 (zh te4 Wm)))):=jac a (j3 b c d h2 h3 h4) h
theorem DQ (Z:Zs X.mg)(a:JE X e te)(hg:Gl X "len" :=by rfl)(h:jL e=true:=by rfl)(he:starEach [e] X.env=(false,eval e X.env)::starEach [] X.env:=by rfl)(hpl:(backTo pos (starEach [] X.env)).any (·.1)=false:=by rfl):JE X (.Call (.Name "len" p) [e] [] pos) (dCB Rh (zh te Wm)):=we MO hg Z.len PySem.boot_len (j1 a h) (by decide) (by decide) he hpl
theorem jse (i:Nat)(S:FnScope X.N Pn sc)(he:JE X e te)(hi:X.N[i]? =some x:=by rfl)(hx:Loc X.env.scope x:=by first|exact K2 rfl|exact V9 rfl)(hs:swapsWith e (some (.Name x pos')) pos.line X.env=pure false:=by rfl)(hf:X.fn x=true\/X.env.scope.names.lookup x=some .local:=by first|exact .inl rfl|exact .inr rfl|assumption):JS X (.Assign [.Name x pos'] e pos) (XY i te):=FT S.nd hi hx he hs hf
theorem jgn (i:Nat)(S:FnScope X.N Pn sc)(hi:X.N[i]? =some x:=by rfl)(hx:Loc X.env.scope x:=by first|exact K2 rfl|exact V9 rfl)(hf:X.fn x=true\/X.env.scope.names.lookup x=some .local:=by first|exact .inl rfl|exact .inr rfl|assumption):JG X (.Name x pos) (gN i):=Du S.nd hi hx hf
theorem jl0 (i:Nat)(S:FnScope X.N Pn sc)(hi:JI X (.Name x p) iter ti)(he: ∀C s₀ H₀ ex,JE (vS X scope C s₀ H₀ ex) elt te)(hc:X.calm=true:=by rfl)(hB:UR X.N X.env.scope.names scope [i]=true:=by rfl)(hx:X.N[i]? =some x:=by rfl)(hl:scope.names.lookup x=some .local\/scope.names.lookup x=some .cell:=by first|exact K2 rfl|exact V9 rfl)(hs: ∀x,foldedSetIterable iter X.env x=pure x:=by intro _;rfl):JE X (.ListComp elt [⟨.Name x p,iter,[],0⟩] scope pos) (Wo (bN i) [i] ti vb te):=
 jlc hc (wB hB) hi (G9.mpr rfl) S.nd hx hl (λX' hX=>vZ) (λX' hX=>by obtain⟨C,s₀,H₀,ex,rfl⟩:=hX;exact he C s₀ H₀ ex) hs
theorem fsc {N P:List Str}(a:sc.kind= .function:=by rfl)(b:sc.isCoroutine=false:=by rfl)(c:sc.isGenerator=false:=by rfl)(d:N.Nodup:=by decide +kernel)(e:N.take P.length=P:=by rfl)(f: ∀x∈P,sc.names.lookup x=some .local\/sc.names.lookup x=some .cell:=by decide +kernel)(g: ∀y∈sc.names,y.2≠ .free:=by decide +kernel):FnScope N P sc:=⟨a,b,c,d,e,f,g⟩
theorem jc1 {op:aC}{f:RD2}(ho:OpQ X (compareOp op) f)(ha:JE X e te)(hb:JE X e2 te2)(hm:behindInMarks op e2=false:=by exact GB _):JE X (.Compare e [op] [e2] pos) (dOp f te te2):=FR ho ha hb hm
theorem jt1 {op:aC}{f:RD2}(ho:OpQ X (compareOp op) f)(ha:JE X e te)(hb:JE X e2 te2)(hm:behindInMarks op e2=false:=by exact GB _):JT X (.Compare e [op] [e2] pos) (vp (dOp f te te2)):=Ds ho ha hb hm
theorem ji1 (ha:JE X e te)(hb:JE X e2 te2)(hs:Zn e2:=by exact λ_ _=>rfl):JE X (.Subscript e e2 pos) (dOp ixD te te2):=jix ha hb hs
theorem jrg {tg:Expr}(Z:Zs X.mg)(ha:JE X e te)(hg:Gl X "range" :=by rfl)(h:jL e=true:=by rfl)(hs:starEach [e] X.env= [(false,eval e X.env)]:=by rfl):JI X tg (.Call (.Name "range" p) [e] [] pos) (iR1 (zh te Wm)):=Ce hg Z.range (j1 ha h) hs
end
section
variable {P:R5}{w:T4}{K:PySem.W.Frag}{mg:Str->Option G0}{base:Heap}{x qual:Str}{st:Stmt}{f:Addr}{fd:S7}{N ps:List Str}{k:Nat}
theorem Fun.okM {spd:RDn}(F:Fun K x qual st f fd)(S:FnScope N ps (jc st)){tb:TSD}(hbody: ∀ {cdv:G0} {A:T9} {outer:List Env} {s:G2} {H:Hp} {E:XK},Room k (A.deeper (envOfC qual (jc st) s.heap.objs.size f cdv))->JSs (Qg CX0 P w K mg base N qual (jc st) f cdv A outer s H E).nox (zc st) tb)
 (read: ∀ds h Q,spd ds h Q->ds.length=ps.length/\tb (Qu Q) (wd N ds) h):FnOk P w K mg base CX0 (k+1) f fd ps (LSp K spd):=F.okJ S (λds h Q q=>(read ds h Q q).1) tb (λ_ _ _ _ _ _ hr=>hbody hr) λds h Q q=>(read ds h Q q).2
end
theorem ve {t u:TSD}{E:EndsD}{σ:SD}{h:HD}(gX:SD)(first: ∀K:SD->HD->Prop,K gX h->t {E with nx:=K} σ h)(rest:u E gX h):vq t u E σ h:=first (u E) rest
theorem sz0:0<=sizeLine:=by decide
theorem sz1:1<=sizeLine:=by decide
theorem sz2:2<=sizeLine:=by decide
theorem sz3:3<=sizeLine:=by decide
theorem sz4:4<=sizeLine:=by decide
section
variable {X:Cx}{s0 s1 s2 s3 s4 s5 s6 s7:Stmt}{t0 t1 t2 t3 t4 t5 t6 t7:TSD}{c:Expr}{tc:TTD}{pos:Pos}
theorem js2 (a:JS X s0 t0)(b:JS X s1 t1):JSs X [s0,s1] (vq t0 t1):=(jM a (jI b))
theorem js3 (a:JS X s0 t0)(b:JS X s1 t1)(c:JS X s2 t2):JSs X [s0,s1,s2] (vq t0 (vq t1 t2)):=(jM a (jM b (jI c)))
theorem js4 (a:JS X s0 t0)(b:JS X s1 t1)(c:JS X s2 t2)(d:JS X s3 t3):JSs X [s0,s1,s2,s3] (vq t0 (vq t1 (vq t2 t3))):=(jM a (jM b (jM c (jI d))))
theorem js5 (a:JS X s0 t0)(b:JS X s1 t1)(c:JS X s2 t2)(d:JS X s3 t3)(e:JS X s4 t4):JSs X [s0,s1,s2,s3,s4] (vq t0 (vq t1 (vq t2 (vq t3 t4)))):=(jM a (jM b (jM c (jM d (jI e)))))
theorem js6 (a:JS X s0 t0)(b:JS X s1 t1)(c:JS X s2 t2)(d:JS X s3 t3)(e:JS X s4 t4)(f:JS X s5 t5):JSs X [s0,s1,s2,s3,s4,s5] (vq t0 (vq t1 (vq t2 (vq t3 (vq t4 t5))))):=(jM a (jM b (jM c (jM d (jM e (jI f))))))
theorem Go (hc:JT X c tc)(h:JS X s0 t0):JS X (.If c [s0] [] pos) (PR tc t0 Ye):=Fg hc (jI h) GQ
end
end L2
namespace L2
open PySem PySem.Spec PyProof.Rows HT
def Vt:Hp->List (Addr×HO)->Hp
 |H,[]=>H
 |H,p::ps=>Vt (upd H p.1 p.2) ps
theorem wD: ∀ {ps:List (Addr×HO)} {H:Hp} {b:Addr},b ∉ ps.map (·.1)->Vt H ps b=H b
 | [],_,_,_=>rfl
 |p::ps,H,b,n=>by
  rw [R1,S3,not_or] at n;exact(wD (H:=upd H p.1 p.2) n.2).trans (jf n.1)
theorem Yr: ∀ {ps:List (Addr×HO)} {H:Hp},(ps.map (·.1)).Nodup-> ∀p∈ps,Vt H ps p.1=some p.2
 |p::ps,H,nd,q,hq=>by
  rw [R1,C9] at nd;rcases S3.mp hq with e|e
  ·subst e;exact(wD (H:=upd H q.1 q.2) nd.1).trans jh
  ·exact Yr (H:=upd H p.1 p.2) nd.2 q e
theorem Vu: ∀ {ps qs:List (Addr×HO)} {H:Hp},Vt H (ps++qs)=Vt (Vt H ps) qs
 | [],_,_=>rfl
 |p::ps,qs,H=>Vu (ps:=ps) (H:=upd H p.1 p.2)
theorem zk {ps:List (Addr×HO)}{H:Hp}(fr: ∀p∈ps,H p.1=none){b:Addr}{o:HO}(e:H b=some o):Vt H ps b=some o:=by
 rw [wD];exact e;intro z;obtain⟨p,hp,rfl⟩:=T1.mp z;rw [fr p hp] at e;cases e
theorem Cs {ps:List (Addr×HO)}{H:Hp}(fr: ∀p∈ps,H p.1=none):Kept H (Vt H ps):=
 ⟨λ_ _ e=>zk fr e,λ_ xs e=>⟨xs,zk fr e⟩,λ_ _ _ e=>zk fr e,λ_ _ _ e=>zk fr e⟩
theorem RelH.newM {K:PySem.W.Frag}{h:HD}: ∀ {ps:List (Addr×HO)} {H:Hp},RelH K h H->(ps.map (·.1)).Nodup->(∀p∈ps,H p.1=none)->RelH K h (Vt H ps)
 | [],_,r,_,_=>r
 |p::ps,H,r,nd,fr=>by
  rw [R1,C9] at nd;refine RelH.newM (ps:=ps) (H:=upd H p.1 p.2) (r.new (fr p D2)) nd.2 λq hq=> ?_
  have ne:q.1≠p.1:=λz=>nd.1 (z ▸ Q2 (f:=(·.1)) hq)
  rw [jf ne];exact fr q (D3 _ hq)
theorem HOk.bare {P:R5}{w:T4}{H:Hp}{h:Heap}{a:Addr}(x:HOk P w H h)(e:h.get? a=none):H a=none:=by
 cases q:H a with
 |none=>rfl
 |some u=>obtain⟨v,z⟩:=(x a u q).there;rw [e] at z;cases z
section
variable {X:Cx}{pins:List (Addr×Obj)}{σ:St}{H:Hp}{s:G2}{h':Heap}
theorem Inv.laidM {ps:List (Addr×HO)}{t':Nat}(I:Inv X pins σ H s)(k: ∀b u,s.heap.get? b=some u->h'.get? b=some u)(nd:(ps.map (·.1)).Nodup)(hp: ∀p∈ps,s.heap.get? p.1=none)
 (new: ∀p∈ps,ObjOk X.prog X.w (Vt H ps) h' p.1 p.2):Inv X pins σ (Vt H ps) {s with heap:=h',toks:=t'}:=by
 have fr: ∀p∈ps,H p.1=none:=λp hq=>I.hok.bare (hp p hq)
 refine I.un ⟨λb u q _ _ _=>k b u q,λb u q _ _ _=>⟨u.slots,k b u q⟩,λb u q n _=> ?_,λb u q _=>⟨u,k b u q⟩,λb xs q=>zk fr q,λb u xs q=>zk fr q,λb ps' q=>⟨#[],by rw [zk fr q];simp⟩⟩ λb u e=> ?_
 ·rw [wD];exact n;intro z;obtain⟨p,hq,rfl⟩:=T1.mp z;rw [hp p hq] at q;cases q
 ·by_cases hb:b∈ps.map (·.1)
  ·obtain⟨p,hq,rfl⟩:=T1.mp hb;rw [Yr nd p hq] at e;cases e;exact new p hq
  ·rw [wD hb] at e;exact(I.hok b u e).stay (λc v _ q=>k c v q) (λc q=>zk fr q) λc xs q=>zk fr q
end
abbrev Zf (a:Addr):Obj:= {cls:= .type "dict_items",data:= .fields #[.ref a]}
section
variable {X:Cx}
def ND:V->List V->Hp->VK->Prop:=λx vs H Q=> ∃a kv,x= .ref a/\vs= []/\H a=some (.dK kv)/\ ∀p,H p=none->Q (.ref p) (upd H p (.frz (Zf a) (.own 0)))
theorem Gp:MtR X "dict.items" ND:=by
 intro pins s σ H x vs v us Q I rx rv ⟨a,kv,e1,e2,e,q⟩;subst e1 e2;cases rx;have hus:=rv.zero;subst hus;obtain⟨z,hd,vs,rel,dd⟩:=PB I.hok e;refine cK PySem.F.slot_dict_items dd.typeIs PySem.F.entry_dict_items (PySem.F.args_dict_items_1 _) (meets_dict_items (jD X.prog X.w) a hd) ⟨⟨vs,dd⟩,?_⟩;have new:(s.heap.push (Zf a)).get? s.heap.objs.size=some (Zf a):=S4 _ rfl;exact⟨.ref s.heap.objs.size,_,I.laid (t':=s.toks) (a:=s.heap.objs.size) (o:= .frz (Zf a) (.own 0)) (λb u e=>P1 _ e) (G5 _) ⟨new,⟨_,new⟩⟩,rfl,q _ (I.hok.fresh (G5 _))⟩
theorem Zg {α β:Type}{R:α->β->Prop}: ∀ {xs:List α} {ys:List β} {i:Nat} {x:α} {y:β},Paired R xs ys->xs[i]? =some x->ys[i]? =some y->R x y
 |_,_,0,_,_,.cons r _,e1,e2=>by simp at e1 e2;subst e1 e2;exact r
 |_,_,i+1,_,_,.cons _ t,e1,e2=>Zg t (by simpa using e1) (by simpa using e2)
 |_,_,_,_,_,.nil,e1,_=>by cases e1
theorem Ys {α β:Type}{l:List α}{m:List β}(h:l.length=m.length):(l.zip m).map (·.1)=l:=List.map_fst_zip (C3 h)
theorem Yt {α β:Type}{l:List α}{m:List β}(h:l.length=m.length):(l.zip m).map (·.2)=m:=List.map_snd_zip (C3 h.symm)
theorem ZG {k:Nat}(hc:X.calm=true)(hr:Room k X.A):CallR X (.builtin "sorted") (λxs H Q=> ∃ (p a:Addr) (kns:List (Int×Int)),xs= [.ref p]/\H p=some (.frz (Zf a) (.own 0))/\H a=some (.dK (kvV (kns.map λx=>(x.1,V.int x.2))))/\kns.length<1000/\
 ∀ (ps:List (Addr×HO)) (q:Addr) (ts:List (V×List Int)),(ps.map (·.1)).Nodup->(∀x∈ps,H x.1=none)->Vt H ps q=none->(∀x∈ts,Fm (Vt H ps) x.1 x.2)->(ts.map (·.2)).Perm (kns.map λx=> [x.1,x.2])->(ts.map (·.2)).Pairwise (λx y=>HT.jF y x=false)->Q (.ref q) (upd (Vt H ps) q (.lst (ts.map (·.1))))):=by
 intro pins s σ H xs us Q I r h;obtain⟨p,a,kns,rfl,hp,ha,few,q⟩:=h;obtain⟨u,rfl,ru⟩:=vJ r;cases ru;have hu:X.A.in1.in1.units<cLine:=by
  have:=hr.un;show X.A.units+1+1<cLine;omega
 obtain⟨z,hd,vs,rel,o,es,ep,ho,r1⟩:=PB I.hok ha;have dd:s.heap.DictAt (jD X.prog X.w) a vs ep:=⟨o,es,ho,r1⟩;have hl:vs.length=kns.length:=by rw [<-rel.length];unfold kvV;rw [G7,G7]
 have hv:s.heap.IsItemsView p a:=⟨_,(I.hok p _ hp).1,rfl,rfl⟩;refine Calls.call_function_entry kind_sorted plain_sorted entry_sorted (args_sorted1 _) (wpAny_bind (P9 (wpAny_bind (PySem.W.kdx_collect (I.ok.hd hc) hv dd (by rw [hl];exact D9 (D8 few) (by decide)) λh1 tk as kept len G=> ?_))));have la:as.length=kns.length:=len.trans hl;have tup: ∀z∈as.zip kns,∃key x,RelV (.int z.2.1) key/\RelV (.int z.2.2) x/\h1.get? z.1=some {cls:= .type "tuple",data:= .seq #[key,x]}:=λz hz=>by
  obtain⟨j,hj⟩:=List.mem_iff_getElem?.mp hz;have e1:as[j]? =some z.1:=by have:=congrArg (λl=>l[j]?) (Ys la);simp only [D1,hj] at this;exact this.symm
  have e2:kns[j]? =some z.2:=by have:=congrArg (λl=>l[j]?) (Yt la);simp only [D1,hj] at this;exact this.symm
  obtain⟨key,kk,x,e3,e4,e5⟩:=G.pairs j z.1 e1;have e6:(kvV (kns.map λx=>(x.1,V.int x.2)))[j]? =some ((B2 z.2.1:Key),V.int z.2.2):=by
   unfold kvV;rw [R0,D1,e2];rfl
  obtain⟨g1,g2⟩:=Zg rel e6 e3;have g1:(B2 z.2.1:Key)=kk:=g1;subst g1;exact⟨key,x,NC e4,g2,e5⟩
 have IT1: ∀z∈as.zip kns,IT h1 (.ref z.1) [z.2.1,z.2.2]:=λz hz=>by
  obtain⟨key,x,⟨t1,rfl⟩,⟨t2,rfl⟩,e⟩:=tup z hz;exact⟨z.1,_,rfl,⟨_,e,rfl,_,rfl⟩,.cons _ _ (.cons _ _ .nil)⟩
 have er:as.map N5=(as.zip kns).map λz=>N5 z.1:=by
  conv=>lhs;rw [<-Ys la]
  rw [R0];rfl
 have hz:(as.map N5).length<=sizeLine:=by rw [G7,la];exact D9 (D8 few) (by decide)
 have fresh:(h1.push (seqObj "list" (as.map N5).toArray 0)).get? h1.objs.size=some (seqObj "list" (as.map N5).toArray 0):=S4 _ rfl;have kp: ∀h',Nt {s with heap:=h1.push (seqObj "list" (as.map N5).toArray 0),toks:=tk} h1.objs.size h'->Gi h1 h':=λh' p b x e=>p b x (S0 (P8 e)) (P1 _ e)
 have it: ∀v∈as.map N5,∃ns,IT h1 v ns:=λv hv=>by
  rw [er] at hv;obtain⟨z,hz,rfl⟩:=T1.mp hv;exact⟨_,IT1 z hz⟩
 refine wpAny_bind (fN (wpAny_bind (E1 (K8 slot_list_sort ⟨_,fresh,rfl⟩ entry_list_sort (Gh (s:= {s with heap:=h1.push (seqObj "list" (as.map N5).toArray 0),toks:=tk}) (κ:=XB h1 (as.map N5)) (U:=λx=> ∃ns,IT h1 x.1 ns) (R:=λx y=>HT.jF (jR h1 x.1) (jR h1 y.1)) fresh hz
  (λh2 h' p=>XC (s:= {s with heap:=h',toks:=tk}) h2 it (kp h' p) ⟨rfl,tk,rfl⟩) (λh' p=>XD (s:= {s with heap:=h1}) hu (kp h' p)) (XA _) it λout c tk' h' p' e1 e2 e3=>⟨_,rfl,?_⟩) (args_list_sort _)))) hz)
 refine P9 ⟨_,rfl,?_⟩;rw [er] at e2;obtain⟨zs,pz,rfl⟩:=WE e2;have inz: ∀z∈zs,z∈as.zip kns:=λz hz=>pz.mem_iff.mp hz
 have k2:=kp h' p';generalize hps:(as.zip kns).map (λz=>(z.1,HO.tup [V.int z.2.1,V.int z.2.2]))=ps;have kps:ps.map (·.1)=as:=by rw [<-hps,R0];exact Ys la
 have nd:as.Nodup:=G.rise.imp λ{x y} l=>S0 l
 have ndq:((ps++ [(h1.objs.size,HO.lst (zs.map λz=>V.ref z.1))]).map (·.1)).Nodup:=by
  rw [M6,kps,cV];refine⟨nd,by simp,λx hx y hy e=> ?_⟩;have:y=h1.objs.size:=by simpa using hy
  exact absurd (G.there hx) (by rw [e,this];exact M7 _)
 have big: ∀p∈ps++ [(h1.objs.size,HO.lst (zs.map λz=>V.ref z.1))],s.heap.get? p.1=none:=λp hp=>by
  cases e:s.heap.get? p.1 with
  |none=>rfl
  |some u=>
  rcases D0.mp hp with w|w
  ·exact absurd (G.above p.1 (kps ▸ Q2 w)) (K3.mpr (D8 (P8 e)))
  ·rw [G9.mp w] at e;exact absurd (P8 (kept _ _ e)) (M7 _)
 have I2:=I.laidM (t':=tk') (h':=h') (ps:=ps++ [(h1.objs.size,HO.lst (zs.map λz=>V.ref z.1))]) (λb u e=>k2 b u (kept b u e)) ndq big (λp hp=>by
  rcases D0.mp hp with w|w
  ·rw [<-hps] at w;obtain⟨z,hz,rfl⟩:=T1.mp w;obtain⟨key,x,ry1,ry2,e⟩:=tup z hz;exact⟨by show 2<=sizeLine;decide,[key,x],.cons ry1 (.cons ry2 .nil),_,k2 _ _ e,rfl,rfl,0,rfl⟩
  ·rw [G9.mp w];refine⟨?_,_,c,?_,e1⟩
   ·rw [G7,pz.length_eq,List.length_zip,la,Nat.min_self];exact D9 (D8 few) (by decide)
   ·have vv: ∀l:List (Addr×Int×Int),Vals (l.map λz=>V.ref z.1) (l.map λz=>N5 z.1):=λl=>by
     induction l with
     |nil=>exact .nil
     |cons z l ih=>exact .cons rfl ih
    exact vv zs)
 rw [Vu] at I2;have fr: ∀x∈ps,H x.1=none:=λx hx=>I.hok.bare (big x (M1 _ hx))
 have ndp:(ps.map (·.1)).Nodup:=kps ▸ nd;have ino:h1.objs.size ∉ ps.map (·.1):=λw=>by
  rw [kps] at w;exact absurd (G.there w) (M7 _)
 have e7:(zs.map λz=>((V.ref z.1,[z.2.1,z.2.2]):V×List Int)).map (·.1)=zs.map λz=>V.ref z.1:=by rw [R0];rfl
 have e8:(zs.map λz=>((V.ref z.1,[z.2.1,z.2.2]):V×List Int)).map (·.2)=zs.map λz=> [z.2.1,z.2.2]:=by rw [R0];rfl
 refine⟨.ref h1.objs.size,_,I2,rfl,?_⟩;have fin:=q ps h1.objs.size (zs.map λz=>(V.ref z.1,[z.2.1,z.2.2])) ndp fr (by rw [wD ino];exact I.hok.bare (big _ (P5 _ (G9.mpr rfl)))) (λx hx=> ?_) ?_ ?_
 ·rw [e7] at fin;exact fin
 ·obtain⟨z,hz,rfl⟩:=T1.mp hx;refine⟨z.1,rfl,?_⟩;exact Yr ndp (z.1,HO.tup [V.int z.2.1,V.int z.2.2]) (hps ▸ Q2 (f:=λz:Addr×Int×Int=>(z.1,HO.tup [V.int z.2.1,V.int z.2.2])) (inz z hz))
 ·rw [e8];have:=(pz.map λz:Addr×Int×Int=> [z.2.1,z.2.2]);rw [show (as.zip kns).map (λz:Addr×Int×Int=> [z.2.1,z.2.2])=kns.map λx=> [x.1,x.2] by rw [<-Yt la,R0,Yt la];rfl] at this;exact this
 ·rw [e8];rw [A8,A8] at e3;rw [A8];refine e3.imp_of_mem λ{x y} hx hy e=> ?_
  rw [(IT1 x (inz x hx)).nums,(IT1 y (inz y hy)).nums] at e;exact e
def Lf (td:TED):TED:=λσ h Q=>td σ h λx h1=> ∃ (a:Addr) (kns:List (Int×Int)),x= .dct a/\h1.dc a=some (.ik (kns.map λx=>(x.1,D.int x.2)))/\kns.length<1000/\ ∀ (p:Addr) (mss:List (List Int)),h1 p=none->mss.Perm (kns.map λx=> [x.1,x.2])->mss.Pairwise (λx y=>HT.jF y x=false)->Q (.lst p) (wS h1 p (mss.map tI))
theorem Lg {k : Nat} {o : Expr} {td : TED} {p apos cpos pos : Pos} (hr : Room k X.A) (hc : X.calm = true) (hg : Gl X "sorted") (hm : X.mg "sorted" = none) (ho : JE X o td) (hbase : attributeBase o "items" X.env (eval o X.env) = eval o X.env := by rfl) (hline : (apos.endLine == cpos.line) = true := by rfl)
    (h1 : starEach [.Call (.Attribute o "items" apos) [] [] cpos] X.env = (false, eval (.Call (.Attribute o "items" apos) [] [] cpos) X.env) :: starEach [] X.env := by rfl) (h2 : (backTo pos (starEach [] X.env)).any (·.1) = false := by rfl) :
    JE X (.Call (.Name "sorted" p) [.Call (.Attribute o "items" apos) [] [] cpos] [] pos) (Lf td) :=
  ⟨(Zl (ZG hc hr) hg hm (by decide +kernel) (wQ (RW PySem.F.plainAttrs_dict PySem.F.slot_dict_items PySem.F.type_dict_items Gp ho.to hbase hline) pa_nil h1) (by decide) (by decide) h1 h2).imp
    fun σ H Q ⟨gP, h, Qd, rs, rh, t, post⟩ => LE.bind rs rh t fun d v h1 H1 k1 rs1 rh1 r1 ⟨a, kns, e, hd, few, q⟩ => by
      subst e
      cases (show v = .ref a from r1)
      obtain ⟨kvs, hH, ek, rv⟩ := (show ∃ kvs : List (Int × V), _ from rh1.dc a _ hd)
      have ekv : kvs = kns.map fun x => (x.1, V.int x.2) := by
        clear hd hH q few
        induction kns generalizing kvs with
        | nil => cases kvs with
          | nil => rfl
          | cons _ _ => cases ek
        | cons y kns ih => cases kvs with
          | nil => cases ek
          | cons w kvs =>
            rw [R1, R1, R1] at ek
            injection ek with e1 e2
            obtain ⟨u, tl, z, g1, g2⟩ := (show ∃ v t, w.2 :: kvs.map (·.2) = v :: t ∧ RelD X.K H1 (.int y.2) v ∧ RelDs X.K H1 ((kns.map fun x => (x.1, D.int x.2)).map (·.2)) t from rv)
            injection z with z1 z2
            subst z1 z2
            rw [R1, ← ih kvs e2 g2]
            have g1 : w.2 = V.int y.2 := g1
            rw [← g1]
            obtain ⟨w1, w2⟩ := w
            have e1 : y.1 = w1 := e1
            subst e1
            rfl
      subst ekv
      refine ⟨.inr (.inr (.inl ⟨rfl, .inl ⟨_, hH⟩⟩)), a, _, rfl, rfl, hH, fun c hcn => ?_⟩
      have rh2 := rh1.new (o := .frz (Zf a) (.own 0)) hcn
      refine ⟨c, a, kns, rfl, jh, by rw [jf (je hH hcn)]; exact hH, few, fun ps l ts nd fr hl ht pm srt => ?_⟩
      have rh3 := rh2.newM nd fr
      exact post (.lst l) (.ref l) _ _ (k1.trans ((Kept.new hcn).trans ((Cs fr).trans (.new hl)))) (rh3.newL hl (XE ht)) ⟨rfl, _, jh⟩ (q l (ts.map (·.2)) (rh3.free hl) pm srt)⟩
end
end L2
namespace L2
open PySem PySem.Spec PyProof.Rows
def VT (n:Nat)(H:List (List Int)):Nat->List (List Int)->Int->Int
 |0,_,_=>0
 |m+1,F,k=>if jy F=true then k else VT n H m (ji n (wm n F H)) (k+1)
def zS (n:Nat)(T:List (List Int)):Int:=VT n (ji n T) ((n-1)*(n-1)+1) (ji n T) 1
section
variable {α β:Type}
def zT (ts:List α):Nat->List (List α)
 |0=> [[]]
 |m+1=>(zT ts m).flatMap λr=>ts.map λt=>r++ [t]
theorem yR (ts:List α): ∀m,(zT ts m).length=ts.length^m
 |0=>rfl
 |m+1=>by
  have: ∀l:List (List α),(l.flatMap λr=>ts.map λt=>r++ [t]).length=l.length*ts.length:=λl=>by
   induction l with
   |nil=>simp
   |cons x l ih=>rw [N9,G3,ih,G7,D5,X4];omega
  show ((zT ts m).flatMap _).length=_;rw [this,yR ts m,cU]
theorem vf (ts:List α): ∀ {m:Nat} {r:List α},r∈zT ts m->r.length=m/\ ∀x∈r,x∈ts
 |0,r,h=>by
  rw [G9.mp h];exact⟨rfl,λx hx=>by cases hx⟩
 |m+1,r,h=>by
  obtain⟨q,hq,h2⟩:=List.mem_flatMap.mp h;obtain⟨t,ht,rfl⟩:=T1.mp h2;obtain⟨l,a⟩:=vf ts hq;refine⟨by rw [G3,l];rfl,λx hx=> ?_⟩;rcases D0.mp hx with z|z
  ·exact a x z
  ·rw [G9.mp z];exact ht
theorem Yu (f:α->β)(ts:List α): ∀m,zT (ts.map f) m=(zT ts m).map (W7 f)
 |0=>rfl
 |m+1=>by
  show (zT (ts.map f) m).flatMap _=((zT ts m).flatMap _).map _;rw [Yu f ts m,aO,List.flatMap_map]
  congr 1
  funext r
  rw [R0,R0];exact S5 λt _=>by simp
end
def rwB:Nat->List (List Int)
 |0=> [[]]
 |m+1=>(rwB m).map (· ++ [0])++(rwB m).map (· ++ [1])
theorem Yv: ∀m,(rwB m).length=2^m
 |0=>rfl
 |m+1=>by rw [rwB,G3,G7,G7,Yv m,cU];omega
theorem XF: ∀ {m:Nat} {r:List Int},r∈rwB m->r.length=m/\ ∀x∈r,x∈ [0,1]
 |0,r,h=>by
  rw [G9.mp h];exact⟨rfl,λx hx=>by cases hx⟩
 |m+1,r,h=>by
  have key: ∀q∈rwB m,∀b:Int,b∈ [0,1]->(q++ [b]).length=m+1/\ ∀x∈q++ [b],x∈ [0,1]:=λq hq b hb=>by
   obtain⟨l,a⟩:=XF hq;refine⟨by rw [G3,l];rfl,λx hx=> ?_⟩;rcases D0.mp hx with z|z
   ·exact a x z
   ·rw [G9.mp z];exact hb
  rcases D0.mp h with z|z
  ·obtain⟨q,hq,rfl⟩:=T1.mp z;exact key q hq 0 (by decide)
  ·obtain⟨q,hq,rfl⟩:=T1.mp z;exact key q hq 1 (by decide)
def wj (s:Nat):List (List (List Int)):=zT (zT [0,1] s) s
def yC (s:Nat):List (List (List Int)):=zT (rwB s) s
variable {s:Nat}
theorem XG {T:List (List Int)}(l:T.length=s)(r: ∀x∈T,x.length=s/\ ∀y∈x,y∈ [(0:Int),1]):Sq s 1 T:=
 have b: ∀x∈T,∀y∈x,0<=y/\y<2^1:=λx hx y hy=>by
  have:=(r x hx).2 y hy;simp only [S3,O7,or_false] at this;rcases this with rfl|rfl<;>decide
 ⟨l,λx hx=>(r x hx).1,λx hx y hy=>(b x hx y hy).1,λx hx y hy=>(b x hx y hy).2⟩
theorem Gq {T:List (List Int)}(h:T∈wj s):Sq s 1 T:=XG (vf _ h).1 λx hx=>vf _ ((vf _ h).2 x hx)
theorem Gr {T:List (List Int)}(h:T∈yC s):Sq s 1 T:=XG (vf _ h).1 λx hx=>XF ((vf _ h).2 x hx)
theorem ZH (h3:s<=3):(wj s).length<=512/\(yC s).length<=512:=by
 unfold wj yC;rw [yR,yR,yR,Yv]
 match s,h3 with
 |0,_=>decide
 |1,_=>decide
 |2,_=>decide
 |3,_=>decide
def Ri (s:Nat)(kv:List (Int×Int))(T:List (List Int)):List (Int×Int):=Yq kv (zS s T) ((Jr kv (zS s T)).getD 0+1)
def Uc (s:Nat)(l:List (List (List Int))):List (Int×Int):=l.foldl (Ri s) []
theorem Yw {s:Nat}: ∀ (l:List (List (List Int))) (kv:List (Int×Int)),(l.foldl (Ri s) kv).length<=kv.length+l.length
 | [],kv=>G5 _
 |T::l,kv=>by
  have:=Yw (s:=s) l (Ri s kv T);have p:(Ri s kv T).length<=kv.length+1:=Gn;rw [a4,D5];omega
def dnI (p:Int×Int):Int×D:=(p.1,.int p.2)
theorem Yx: ∀ (kv:List (Int×Int)) (k:Int),Jr (kv.map dnI) k=(Jr kv k).map D.int
 | [],k=>rfl
 |p::r,k=>by
  by_cases e:p.1=k
  ·rw [R1,ZE (p:=dnI p) e,ZE e];rfl
  ·rw [R1,ZF (p:=dnI p) e,ZF e];exact Yx r k
theorem DR (kv:List (Int×Int))(k c:Int):Yq (kv.map dnI) k (.int c)=(Yq kv k c).map dnI:=by
 unfold Yq;rw [Yx];cases e:Jr kv k with
 |none=>simp [dnI]
 |some d=>
  simp only [Option.map_some,Y5,if_true];rw [R0,R0];refine S5 λp _=> ?_
  show (if p.1=k then (p.1,D.int c) else dnI p)=dnI (if p.1=k then (p.1,c) else p);split<;>rfl
def VU (s:Nat):List (List Int):=((P2 7).filter λ(k:Nat)=>decide ((k:Int)∈(yC s).map (zS s))).map λ(k:Nat)=> [(k:Int),(((yC s).map (zS s)).count (k:Int):Nat)]
theorem Lh:Uc 1 (wj 1)= [(0,1),(1,1)]:=by decide +kernel
theorem Li:Uc 2 (wj 2)= [(0,13),(2,2),(1,1)]:=by decide +kernel
theorem Lj:Uc 3 (wj 3)= [(0,373),(2,72),(4,18),(5,6),(3,42),(1,1)]:=by decide +kernel
theorem Ct:VU 1= [[0,1],[1,1]]:=by decide +kernel
theorem Cu:VU 2= [[0,13],[1,1],[2,2]]:=by decide +kernel
theorem NE:(yC 3).map (zS 3)= [0,0,0,0,0,0,0,0,0,0,0,0,0,0,0,0,0,0,0,0,0,0,0,0,0,0,0,0,0,0,0,0,0,0,0,0,0,0,0,0,0,0,0,0,0,0,0,0,0,0,0,0,0,0,0,0,0,0,0,0,0,0,0,0,0,0,0,0,0,0,0,0,0,0,0,0,0,0,0,0,0,0,0,0,0,0,0,0,0,0,0,0,0,0,0,0,0,0,0,0,0,0,0,0,0,0,0,0,0,0,0,0,0,0,0,0,0,0,0,0,0,0,0,0,0,0,0,0,0,0,0,0,0,0,0,0,0,0,0,0,0,0,0,0,0,0,0,0,0,0,0,0,0,0,0,0,0,0,0,0,0,0,0,5,0,4,0,3,0,5,0,4,0,3,4,3,0,4,0,3,0,3,0,3,0,3,2,2,0,2,2,2,0,0,0,0,0,0,0,0,0,0,0,0,0,0,0,0,0,0,0,0,0,0,0,0,0,0,0,0,0,0,0,0,0,4,0,3,0,3,0,2,0,3,4,3,0,2,2,2,0,3,0,2,0,2,0,2,0,3,2,2,0,2,2,2,0,0,0,0,0,0,0,0,0,0,0,5,0,0,4,3,0,0,0,0,0,0,0,0,0,0,4,3,0,0,3,2,0,0,0,0,0,0,0,2,0,0,5,4,0,0,3,2,0,0,0,4,0,0,0,2,0,0,3,3,0,0,3,2,0,0,0,0,0,0,0,0,0,0,4,3,0,0,3,3,0,0,0,0,0,0,0,0,0,0,3,2,0,0,2,2,0,0,0,4,0,0,0,2,0,0,3,3,0,0,2,2,0,0,0,2,0,0,0,2,0,0,2,2,0,0,2,2,0,0,0,0,0,0,0,0,0,0,5,4,0,4,3,3,0,0,0,0,0,0,0,0,0,4,3,3,0,2,2,2,0,5,0,4,0,3,0,2,0,4,4,2,0,3,3,2,0,3,0,3,0,2,0,2,0,3,2,2,0,2,2,2,0,0,0,0,0,0,0,0,0,2,3,2,0,2,2,2,0,0,0,0,0,0,0,0,0,2,3,2,0,2,2,2,0,3,0,3,0,3,0,2,0,2,3,2,0,2,2,2,0,2,0,2,0,2,0,2,0,2,2,2,0,2,2,1]:=by decide +kernel
theorem Cv:VU 3= [[0,373],[1,1],[2,72],[3,42],[4,18],[5,6]]:=by unfold VU;rw [NE];decide +kernel
theorem ZI {l m:List (List Int)}(p:l.Perm m)(a:l.Pairwise λx y=>HT.jF y x=false)(b:m.Pairwise λx y=>HT.jF y x=false):l=m:=
 p.eq_of_pairwise (λx y _ _ e1 e2=>(HT.Jk _ _ e2 e1)) a b
theorem NF (h1:1<=s)(h3:s<=3){mss:List (List Int)}(p:mss.Perm ((Uc s (wj s)).map λx=> [x.1,x.2]))(a:mss.Pairwise λx y=>HT.jF y x=false):mss=VU s:=by
 have c:s=1\/s=2\/s=3:=by omega
 rcases c with rfl|rfl|rfl
 ·rw [Lh] at p;rw [Ct];exact ZI p a (by decide)
 ·rw [Li] at p;rw [Cu];exact ZI (p.trans (by decide)) a (by decide)
 ·rw [Lj] at p;rw [Cv];exact ZI (p.trans (by decide)) a (by decide)
section
variable {α β:Type}{i i':Nat}{js:List Nat}{ti ti':TID}{te:TED}{σ:SD}{h:HD}{Q:KD}{j:ItD}
theorem Lk (j':ItD)(xs:List α)(c:α->D)(ys:α->List β)(c':β->D)(g:α->β->D)(hz:(xs.flatMap ys).length<=1000)(hj:j h=some (xs.map c))(ht: ∀R:ItD->HD->Prop,R j h->ti σ h R)
 (hin: ∀x∈xs,∀R:ItD->HD->Prop,R j' h->ti' ((jH js σ).set i (some (c x))) h R)
 (hj': ∀x∈xs,j' h=some ((ys x).map c'))(he: ∀x∈xs,∀y∈ys x,∀Q':KD,Q' (g x y) h->te (((jH js σ).set i (some (c x))).set i' (some (c' y))) h Q')(hq: ∀p,h p=none->Q (.lst p) (wS h p (xs.flatMap λx=>(ys x).map (g x)))):GH (bN i) js ti vb i' ti' vb te σ h Q:=by
 have len: ∀l:List α,(l.flatMap λx=>(ys x).map (g x)).length=(l.flatMap ys).length:=λl=>by
  induction l with
  |nil=>rfl
  |cons x l ih=>simp [N9,ih]
 have lek: ∀k,((xs.take k).flatMap ys).length<=(xs.flatMap ys).length:=λk=>by
  conv=>rhs;rw [<-D6 k xs,B7,G3]
  omega
 have lek1: ∀k x m,xs[k]? =some x->m<=(ys x).length->((xs.take k).flatMap ys).length+m<=(xs.flatMap ys).length:=λk x m hx hm=>by
  have:=lek (k+1);rw [T0,hx,B7,G3] at this;simp at this;simp;omega
 refine ht _ ⟨xs.length,λk zs h'=>h'=h/\zs=(xs.take k).flatMap λx=>(ys x).map (g x),⟨rfl,by simp⟩,?_⟩;rintro k zs h' ⟨rfl,rfl⟩;refine⟨by rw [len];exact D8 (jP (D9 (lek k) hz)),xs.map c,hj,by simp,λhl p hp=> ?_,λd hd=>⟨_,rfl,?_⟩⟩
 ·rw [R3 (by simpa using hl)];exact hq p hp
 ·unfold vb;dsimp only;rw [if_pos rfl];rw [D1] at hd;cases hx:xs[k]? with
  |none=>rw [hx] at hd;cases hd
  |some x=>
   rw [hx] at hd;cases hd;have xm:=G8 hx;refine hin x xm _ ⟨(ys x).length,λm zs h2=>h2=h'/\zs=((xs.take k).flatMap λx=>(ys x).map (g x))++((ys x).take m).map (g x),⟨rfl,by simp⟩,?_⟩;rintro m zs h2 ⟨rfl,rfl⟩;refine⟨?_,(ys x).map c',hj' x xm,by simp,λhl=>⟨h2,Sub.refl _,rfl,?_⟩,λd hd=> ?_⟩
   ·rw [G3,len,G7,D4];have:=lek1 k x (min m (ys x).length) hx (O4 _ _);exact D8 (jP (by omega))
   ·have hm:(ys x).take m=ys x:=R3 (by simpa using hl);rw [hm,T0,hx,B7];simp
   ·rw [D1] at hd;cases hy:(ys x)[m]? with
    |none=>rw [hy] at hd;cases hd
    |some y=>
     rw [hy] at hd;cases hd
     first
      |rw [if_pos rfl]
      |(dsimp only;rw [if_pos rfl])
     refine he x xm y (G8 hy) _ ⟨h2,Sub.refl _,rfl,?_⟩;rw [T0,hy];simp
end
end L2
namespace My
open PySem L2
def top (i:Nat):Stmt:=PySem.Challenge.pw_firstpowers_k60_tables_by_their_first_po.main.body.getD i (.Pass ⟨0,0,0,0⟩)
abbrev yS:Stmt:=top 6
theorem Yy:FnScope ["thing"] ["thing"] (jc yS):=fsc
abbrev wY:Stmt:=top 7
theorem WF:FnScope ["thing","least","most"] ["thing","least","most"] (jc wY):=fsc
abbrev zF:Stmt:=top 8
theorem wq:FnScope ["thing","size","number"] ["thing","size"] (jc zF):=fsc
abbrev ze:Stmt:=top 9
theorem zL:FnScope ["thing","row"] ["thing"] (jc ze):=fsc
abbrev wr:Stmt:=top 10
theorem ZJ:FnScope ["thing"] ["thing"] (jc wr):=fsc
abbrev zU:Stmt:=top 11
theorem Ju:FnScope ["thing","least","most"] ["thing","least","most"] (jc zU):=fsc
abbrev wt:Stmt:=top 13
theorem jS:FnScope ["one","other","size","row","place","by"] ["one","other"] (jc wt):=fsc
abbrev XH:Stmt:=top 15
theorem XV:FnScope ["table","row","number"] ["table"] (jc XH):=fsc
abbrev Yz:Stmt:=top 16
theorem ZK:FnScope ["table","row","number"] ["table"] (jc Yz):=fsc
abbrev zV:Stmt:=top 18
theorem Jv:FnScope ["ahead","table"] ["ahead","table"] (jc zV):=fsc
abbrev jT:Stmt:=top 19
theorem jB:FnScope ["table","told","later"] ["table"] (jc jT):=fsc
abbrev wZ:Stmt:=top 20
theorem WG:FnScope ["table"] ["table"] (jc wZ):=fsc
abbrev zW:Stmt:=top 22
theorem wO:FnScope ["table","at","each"] ["table"] (jc zW):=fsc
abbrev yT:Stmt:=top 25
theorem wb:FnScope ["things","many","told","step","row","thing"] ["things","many"] (jc yT):=fsc
abbrev jY:Stmt:=top 26
theorem yD:FnScope ["size"] ["size"] (jc jY):=fsc
abbrev yU:Stmt:=top 27
theorem zt:FnScope ["size","counts","table","k","told"] ["size"] (jc yU):=fsc
abbrev ya:Stmt:=top 29
theorem WH:FnScope ["_law_script","_law_k"] ["_law_script","_law_k"] (jc ya):=fsc
abbrev yV:Stmt:=top 30
theorem Jl:FnScope ["_law_cell_here","_law_left"] ["_law_cell_here"] (jc yV):=fsc
abbrev yb:Stmt:=top 31
theorem zA:FnScope ["_law_pen_here","_law_many","_law_left","_law_found","_law_stir"] ["_law_pen_here","_law_many"] (jc yb):=fsc
abbrev yc:Stmt:=top 32
theorem WI:FnScope ["_law_found","_law_due"] ["_law_found","_law_due"] (jc yc):=fsc
abbrev wu:Stmt:=top 33
theorem jG:FnScope ["_law_one","_law_other","_law_size","_law_rows","_law_row","_law_place","_law_k"] ["_law_one","_law_other"] (jc wu):=fsc
abbrev zX:Stmt:=top 34
theorem zG:FnScope ["_law_table","_law_row","_law_number"] ["_law_table"] (jc zX):=fsc
abbrev zY:Stmt:=top 35
theorem wI:FnScope ["_law_table","_law_row"] ["_law_table"] (jc zY):=fsc
abbrev ye:Stmt:=top 36
theorem jj:FnScope ["_law_size","_law_rows","_law_turn","_law_found","_law_longer","_law_table","_law_row"] ["_law_size"] (jc ye):=fsc
abbrev yf:Stmt:=top 37
theorem zb:FnScope ["_law_table","_law_here","_law_found","_law_k"] ["_law_table"] (jc yf):=fsc
abbrev wv:Stmt:=top 38
theorem jU:FnScope ["_law_size","_law_powers","_law_due","_law_found","_law_table","_law_k"] ["_law_size"] (jc wv):=fsc
abbrev VV:Stmt:=top 39
theorem XI:FnScope ["_law_script","_law_cell_here","_law_pen_here"] ["_law_script"] (jc VV):=fsc
section
variable {P:R5}{w:T4}{K:PySem.W.Frag}{mg:Str->Option G0}{base:Heap}
/-- no def is asked of the script's list: a thing -/
def XJ:D->Bool
 | .int _=>true
 |_=>false
/-- a row of so many numbers from 0 on -/
def Bc:D->Bool
 | .int i=>decide (0<=i)
 |_=>false
def GX (d:D)(k:Int):Bool:=match d with
 | .tup ds=>decide ((ds.length:Int)=k)&&ds.all Bc
 |_=>false
/-! every part has a kind that is told,and no tuple is long -/
mutual
def okD:D->Bool
 | .scr _=>false| .exc _=>false| .fn _=>false| .dct _=>false
 | .tup ds=>decide (ds.length<=1000)&&okDs ds
 |_=>true
def okDs:List D->Bool
 | []=>true
 |d::ds=>okD d&&okDs ds
end
theorem Vv: ∀ {ds:List D},okDs ds=true-> ∀d∈ds,okD d=true
 |d::ds,h,x,hx=>by
  have h':(okD d&&okDs ds)=true:=h;rw [O5] at h';rcases S3.mp hx with e|e
  ·subst e;exact h'.1
  ·exact Vv h'.2 x e
theorem XL: ∀ {ds:List D},(∀d∈ds,okD d=true)->okDs ds=true
 | [],_=>rfl
 |d::ds,h=>by
  show (okD d&&okDs ds)=true;rw [h d D2,XL λx hx=>h x (D3 _ hx)];rfl
theorem XM {ds:List D}(h:okD (.tup ds)=true):ds.length<=1000/\ ∀d∈ds,okD d=true:=by
 have h':(decide (ds.length<=1000)&&okDs ds)=true:=h;rw [O5] at h';exact⟨of_decide_eq_true h'.1,Vv h'.2⟩
theorem GY {ds:List D}(h:ds.length<=1000)(h2: ∀d∈ds,okD d=true):okD (.tup ds)=true:=by
 show (decide (ds.length<=1000)&&okDs ds)=true;rw [decide_eq_true h,XL h2];rfl
theorem vH {d:D}(h:okD d=true): ∃n,Wq d=some n:=by
 cases d<;>first|exact⟨_,rfl⟩|cases h
/-- a table -/
def Rj:D->Bool
 | .tup rs=>decide (1<=rs.length)&&decide (rs.length<=6)&&rs.all λr=>GX r rs.length
 |_=>false
def yg:RDn:=λds h Q=> ∃d n,ds= [d]/\Wq d=some n/\Q (.bl (XJ d)) h
variable {n:Nat}{f:Addr}{fd:S7}
theorem YA (Z:Zs mg)(F:Fun K "is_whole" "is_whole" yS f fd):FnOk P w K mg base CX0 (n+1) f fd ["thing"] (LSp K yg):=by
 refine F.okM Yy (λhr=>(jI (wF (NW (QD (T:= "int") (by decide) rfl Z.isinstance rfl Z.int (by decide +kernel) (jv 0)) (Nc (FS (QD (T:= "bool") (by decide) rfl Z.isinstance rfl Z.bool (by decide +kernel) (jv 0)))))))) ?_;rintro ds h Q ⟨d,nm,rfl,hn,q⟩;refine⟨rfl,?_⟩;simp only [GF,Qq,dIs,GE,wd,R1,K9,D5,T3,E5,N7,L7,K0,D.bl.injEq,Qr,Qu,exists_eq_left',hn];cases d<;>cases hn<;>exact⟨h,Sub.refl h,q⟩
def vg:RDn:=λds h Q=> ∃d,∃a b:Int,ds= [d,.int a,.int b]/\okD d=true/\Q (.bl (ZD d a b)) h
theorem WJ (Z:Zs mg)(F:Fun K "is_within" "is_within" wY f fd)(yY:jp P w K mg base n "is_whole" ["thing"] yg):FnOk P w K mg base CX0 (n+1) f fd ["thing","least","most"] (LSp K vg):=by
 refine F.okM WF (λhr=>(jI (wF (NW (jk yY hr (j1 (jv 0))) (Nc (Nb Qw Qw (jv 1) (jv 0) (jv 2))))))) ?_;rintro ds h Q ⟨d,a,b,rfl,ok,q⟩;refine⟨rfl,?_⟩;obtain⟨nm,hn⟩:=vH ok;refine⟨_,rfl,d,nm,rfl,hn,XJ d,rfl,?_⟩;cases d with
 |int x=>
  refine Px ⟨_,rfl,_,rfl,_,rfl,?_⟩;show if decide (a<=x)=true then _ else _
  by_cases h1:a<=x
  ·rw [decide_eq_true h1];simp only [ZD,decide_eq_true h1,bW] at q;exact Px ⟨_,rfl,h,Sub.refl h,q⟩
  ·rw [decide_eq_false h1];simp only [ZD,decide_eq_false h1,eJ] at q;exact XX ⟨h,Sub.refl h,q⟩
 |_=>exact XX ⟨h,Sub.refl h,q⟩
def ww:RDn:=λds h Q=> ∃d k,ds= [d,.int k]/\okD d=true/\Q (.bl (GX d k)) h
theorem Jm (Z:Zs mg)(F:Fun K "is_table_row" "is_table_row" zF f fd)(yY:jp P w K mg base n "is_whole" ["thing"] yg):FnOk P w K mg base CX0 (n+1) f fd ["thing","size"] (LSp K ww):=by
 refine F.okM wq (λhr=>(js2 (Go (jpt (Ff (Yj (Ws (QD (T:= "tuple") (by decide) rfl Z.isinstance rfl Z.tuple (by decide +kernel) (jv 0)))) (Fe (jt1 Dj (DQ Z (jv 0)) (jv 1))))) (wF jbl)) (wF (we (UQ rfl) rfl Z.all V7 (j1 (jl0 2 wq (jQ (jv 0)) (λ_ _ _ _=>(NW (jk yY hr (j1 (jv 2))) (Nc (jc1 ML (jv 2) jV)))))))))) ?_;rintro ds h Q ⟨d,k,rfl,ok,q⟩;refine⟨rfl,?_⟩;obtain⟨nm,hn⟩:=vH ok;simp only [vq,PR,Mj,UI,vp,dIs,GE,wd,R1,K9,D5,T3,R6,E5,N7,L7,K0,D.bl.injEq,GF,dC,Qu,Ye,dCB,zh,Wm,dOp,Rh,U6,neD,exists_eq_left',hn];cases d with
 |tup es=>
  cases hn;obtain⟨hl,ht⟩:=XM ok;simp only [MQ]
  by_cases hk:(es.length:Int)=k
  ·simp only [hk];simp;refine US (ds:=es) (h1:=h) (j:=λ_=>some es) (λx=> .bl (Bc x)) (D8 (jP hl)) rfl (λR r=>⟨.tup es,rfl,r⟩) (λd hd Q' q'=> ?_) (λp hp=> ?_)
   ·obtain⟨nn,hnn⟩:=vH (ht d hd);refine⟨d,rfl,d,nn,rfl,hnn,XJ d,rfl,?_⟩;cases d with
    |int i=>exact Px ⟨.int i,rfl,q'⟩
    |_=>exact XX q'
   ·refine⟨p,es.map Bc,rfl,by rw [jd];simp,h,?_,?_⟩
    ·rw [wl hp];exact Sub.refl h
    ·simpa [GX,hk,O2,aE] using q
  ·simp [hk];exact⟨h,Sub.refl h,by simpa [GX,hk] using q⟩
 |_=>cases hn<;>exact⟨h,Sub.refl h,q⟩
def zM:RDn:=λds h Q=> ∃d,ds= [d]/\okD d=true/\Q (.bl (Rj d)) h
theorem yW (Z:Zs mg)(F:Fun K "has_table_form" "has_table_form" ze f fd)(JC:jp P w K mg base n "is_table_row" ["thing","size"] ww)(yi: ∃tk,mg "MOST_ROWS" =some (.int 6 tk)):FnOk P w K mg base CX0 (n+1) f fd ["thing"] (LSp K zM):=by
 obtain⟨tk_MOST_ROWS,m_MOST_ROWS⟩:=yi;refine F.okM zL (λhr=>(js2 (Go (jpt (Ff (Yj (Ws (QD (T:= "tuple") (by decide) rfl Z.isinstance rfl Z.tuple (by decide +kernel) (jv 0)))) (Fe (Yj (Dt Qw Qw jV (DQ Z (jv 0)) (Na rfl m_MOST_ROWS)))))) (wF jbl)) (wF (we (UQ rfl) rfl Z.all V7 (j1 (jl0 1 zL (jQ (jv 0)) (λ_ _ _ _=>(jk JC hr (j2 (jv 1) (DQ Z (jv 0))))))))))) ?_;rintro ds h Q ⟨d,rfl,ok,q⟩;refine⟨rfl,?_⟩;obtain⟨nm,hn⟩:=vH ok;simp only [vq,PR,Mj,UI,vp,dIs,GE,wd,R1,K9,D5,T3,R6,E5,N7,L7,K0,D.bl.injEq,GF,dC,Qu,Ye,dCB,zh,Wm,vV,Rh,GK,exists_eq_left',hn];cases d with
 |tup es=>
  cases hn;obtain⟨hl,ht⟩:=XM ok;simp only [MQ]
  by_cases h1:1<=es.length
  ·by_cases h6:es.length<=6
   ·have h1':(1:Int)<=es.length:=by omega
    have h6':(es.length:Int)<=6:=by omega
    simp [h1',h6'];refine US (ds:=es) (h1:=h) (j:=λ_=>some es) (λx=> .bl (GX x es.length)) (D8 (jP hl)) rfl (λR r=>⟨.tup es,rfl,r⟩) (λd hd Q' q'=> ?_) (λp hp=> ?_)
    ·exact⟨d,rfl,.tup es,rfl,d,es.length,rfl,ht d hd,q'⟩
    ·refine⟨p,es.map λx=>GX x es.length,rfl,by rw [jd];simp,h,?_,?_⟩
     ·rw [wl hp];exact Sub.refl h
     ·simpa [Rj,h1,h6,O2,aE] using q
   ·have h1':(1:Int)<=es.length:=by omega
    have h6': ¬ (es.length:Int)<=6:=by omega
    simp [h1',h6'];exact⟨h,Sub.refl h,by simpa [Rj,h1,h6] using q⟩
  ·have h1': ¬ (1:Int)<=es.length:=by omega
   simp [h1'];exact⟨h,Sub.refl h,by simpa [Rj,h1] using q⟩
 |_=>cases hn<;>exact⟨h,Sub.refl h,q⟩
theorem DS {x:Int}(h:0<=x):Bc (.int x)=true:=decide_eq_true h
theorem DT {e:Nat}{T:List (List Int)}(h:Sq n e T){r:List Int}(hr:r∈T):GX (zH r) n=true:=by
 simp only [GX,zH,G7,h.row r hr,decide_true,bW,O2,T5,B6];intro x hx;exact DS (h.nn r hr x hx)
theorem DU {e:Nat}{T:List (List Int)}(h:Sq n e T)(h1:1<=n)(h6:n<=6):Rj (jw T)=true:=by
 simp only [Rj,jw,G7,h.len,decide_eq_true h1,decide_eq_true h6,bW,O2,T5,B6];intro r hr;exact DT h hr
theorem NG {e:Nat}{T:List (List Int)}(h:Sq n e T)(h6:n<=6):okD (jw T)=true:=
 GY (by rw [G7,h.len];omega) λd hd=>by
  obtain⟨r,hr,rfl⟩:=T1.mp hd;exact GY (by rw [G7,h.row r hr];omega) λd hd=>by obtain⟨x,_,rfl⟩:=T1.mp hd;rfl
def zZ:RDn:=λds h Q=> ∃T,∃n e:Nat,ds= [jw T]/\Sq n e T/\1<=n/\n<=6/\Q .non h
theorem ZL (Z:Zs mg)(F:Fun K "want_table" "want_table" wr f fd)(vw:jp P w K mg base n "has_table_form" ["thing"] zM):FnOk P w K mg base CX0 (n+1) f fd ["thing"] (LSp K zZ):=by
 refine F.okM ZJ (λhr=>(jI (Go (Yj (Ws (jk vw hr (j1 (jv 0))))) GT))) ?_;rintro ds h Q ⟨T,k,b,rfl,hT,h1,h6,q⟩;refine⟨rfl,?_⟩;refine⟨_,rfl,jw T,rfl,NG hT h6,_,rfl,?_⟩;rw [DU hT h1 h6];exact XX ⟨h,Sub.refl h,q⟩
def wJ:RDn:=λds h Q=> ∃k lo hi:Int,ds= [.int k,.int lo,.int hi]/\lo<=k/\k<=hi/\Q .non h
theorem Jw (Z:Zs mg)(F:Fun K "want_number" "want_number" zU f fd)(YJ:jp P w K mg base n "is_within" ["thing","least","most"] vg):FnOk P w K mg base CX0 (n+1) f fd ["thing","least","most"] (LSp K wJ):=by
 refine F.okM Ju (λhr=>(jI (Go (Yj (Ws (jk YJ hr (j3 (jv 0) (jv 1) (jv 2))))) GT))) ?_;rintro ds h Q ⟨k,lo,hi,rfl,h1,h2,q⟩;refine⟨rfl,?_⟩;refine⟨_,rfl,_,rfl,_,rfl,.int k,lo,hi,rfl,rfl,_,rfl,?_⟩;have e0:ZD (.int k) lo hi=true:=by
  show (decide (lo<=k)&&decide (k<=hi))=true;rw [decide_eq_true h1,decide_eq_true h2];rfl
 rw [e0];exact XX ⟨h,Sub.refl h,q⟩
def yE:RDn:=λds h Q=> ∃T U,∃n e f:Nat,ds= [jw T,jw U]/\Sq n e T/\Sq n f U/\e+f<=1000000/\n<=6/\Q (jw (wm n T U)) h
theorem ZM (Z:Zs mg)(F:Fun K "multiplied" "multiplied" wt f fd):FnOk P w K mg base CX0 (n+1) f fd ["one","other"] (LSp K yE):=by
 refine F.okM jS (λhr=>(js2 (jse 2 jS (DQ Z (jv 0))) (wF (zC zo rfl Z.tuple (by decide +kernel) (j1 (jl0 3 jS (jQ (jv 0)) (λ_ _ _ _=>(zC zo rfl Z.tuple (by decide +kernel) (j1 (jl0 4 jS (jrg Z (jv 2)) (λ_ _ _ _=>(we (UX rfl) rfl Z.sum (by decide +kernel) (j1 (jl0 5 jS (jrg Z (jv 2)) (λ_ _ _ _=>(jop Xd (ji1 (jv 3) (jv 5)) (ji1 (ji1 (jv 1) (jv 5)) (jv 4)))))))))))))))))) ?_;rintro ds h Q ⟨T,U,k,b,f,rfl,hT,hU,hb,h6,q⟩;refine⟨rfl,?_⟩;refine jq (λgO h'=>gO= [some (jw T),some (jw U),some (.int (k:Int)),none,none,none]/\h=h') (λC hC=>⟨_,rfl,hC _ _ ⟨by rw [G7,hT.len];rfl,rfl⟩⟩) ?_;rintro _ _ ⟨rfl,rfl⟩;refine Dy T zH (λr=> .tup ((P2 k).map λj=> .int (jt k λm=>r.getD m 0*ent U m j))) (by rw [hT.len];omega) rfl (λR r=>⟨_,rfl,r⟩) (λr hr Q' q'=> ?_) ⟨h,Sub.refl h,?_⟩
 ·refine Dy (P2 k) (λj=> .int (j:Int)) (λj=> .int (jt k λm=>r.getD m 0*ent U m j)) (by rw [T7];omega) rfl (λR rr=>⟨_,rfl,(k:Int),rfl,by omega,by omega,rr⟩) (λj hj Q'' q''=> ?_) q';refine Fh (P2 k) (λm=> .int (m:Int)) (λm=>r.getD m 0*ent U m j) (by rw [T7];omega) rfl (λR rr=>⟨_,rfl,(k:Int),rfl,by omega,by omega,rr⟩) (λm hm Q3 q3=> ?_) q'';have hm':=D7.mp hm;have hj':=D7.mp hj;refine⟨_,rfl,_,rfl,_,ZA (hT.row r hr) hm',_,rfl,_,rfl,_,Xe hU hm',_,rfl,_,ZA (hU.row _ (Sq.getRow hU hm')) hj',?_,q3⟩;refine Vf (e:=b) (f:=f) ?_ (hU.ent_nn hm' hj') (by omega);have hm2:m<r.length:=by rw [hT.row r hr];exact hm'
  have e1:r.getD m 0=r[m]:=by rw [R4,G1 hm2];rfl
  rw [e1];exact⟨hT.nn r hr _ (T6 hm2),hT.bit r hr _ (T6 hm2)⟩
 ·rw [Vg hT];exact q
def XN:RDn:=λds h Q=> ∃T,∃n e:Nat,ds= [jw T]/\Sq n e T/\1<=n/\n<=6/\Q (.bl (jy T)) h
theorem DV (Z:Zs mg)(F:Fun K "full" "full" XH f fd)(wy:jp P w K mg base n "want_table" ["thing"] zZ):FnOk P w K mg base CX0 (n+1) f fd ["table"] (LSp K XN):=by
 refine F.okM XV (λhr=>(js2 (VJ (jk wy hr (j1 (jv 0)))) (wF (we (UQ rfl) rfl Z.all V7 (j1 (FU (i:=1) (i':=2) (js:= [1,2]) rfl (wB (by rfl)) (jQ (jv 0)) (by decide) (by decide) (by decide) XV.nd rfl rfl (by first|exact K2 rfl|exact V9 rfl) (by first|exact K2 rfl|exact V9 rfl) (λX' hX=>vZ) (λX' hX=>by obtain⟨C,s₀,H₀,ex,rfl⟩:=hX;exact(jQ (jv 1))) (λX' hX=>vZ) (λX' hX=>by obtain⟨C,s₀,H₀,ex,rfl⟩:=hX;exact(jc1 Dj (jv 2) jV)))))))) ?_;rintro ds h Q ⟨T,k,b,rfl,hT,h1,h6,q⟩;refine⟨rfl,?_⟩;refine ve [some (jw T),none,none] (λC hC=>⟨_,rfl,T,k,b,rfl,hT,h1,h6,hC⟩) ?_;refine FX T zH (λr=>r) D.int (λ_ x=>decide (x≠0)) (QH hT h6) rfl (λR r=>⟨_,rfl,r⟩) (λr hr R rr=>⟨_,rfl,rr⟩) (λr hr x hx Q' q'=>⟨_,rfl,?_⟩) ⟨h,Sub.refl h,q⟩;show Q' (.bl (!decide (x=0))) h;have e:(!decide (x=0))=decide (x≠0):=by simp
 rw [e];exact q'
def ZN:RDn:=λds h Q=> ∃T,∃n e:Nat,ds= [jw T]/\Sq n e T/\1<=n/\n<=6/\Q (jw (ji n T)) h
theorem Gs (Z:Zs mg)(F:Fun K "marks" "marks" Yz f fd)(wy:jp P w K mg base n "want_table" ["thing"] zZ):FnOk P w K mg base CX0 (n+1) f fd ["table"] (LSp K ZN):=by
 refine F.okM ZK (λhr=>(js2 (VJ (jk wy hr (j1 (jv 0)))) (wF (zC zo rfl Z.tuple (by decide +kernel) (j1 (jl0 1 ZK (jQ (jv 0)) (λ_ _ _ _=>(zC zo rfl Z.tuple (by decide +kernel) (j1 (jl0 2 ZK (jQ (jv 1)) (λ_ _ _ _=>(jif (jt1 Dj (jv 2) jV) jV jV)))))))))))) ?_;rintro ds h Q ⟨T,k,b,rfl,hT,h1,h6,q⟩;refine⟨rfl,?_⟩;refine ve [some (jw T),none,none] (λC hC=>⟨_,rfl,T,k,b,rfl,hT,h1,h6,hC⟩) ?_;refine Dy T zH (λr=> .tup (r.map λx=> .int (if x≠0 then 1 else 0))) (by rw [hT.len];omega) rfl (λR r=>⟨_,rfl,r⟩) (λr hr Q' q'=> ?_) ⟨h,Sub.refl h,?_⟩
 ·refine Dy r D.int (λx=> .int (if x≠0 then 1 else 0)) (by rw [hT.row r hr];omega) rfl (λR r=>⟨_,rfl,r⟩) (λx hx Q'' q''=>⟨_,rfl,_,rfl,?_⟩) q'
  by_cases z:x=0
  ·subst z;exact XX q''
  ·have e:(!decide (x=0))=true:=by simp [z]
   rw [e];rw [if_pos z] at q'';exact Px q''
 ·rw [Xf,<-Xg hT];exact q
def wK:RDn:=λds h Q=> ∃M T,∃n e:Nat,ds= [jw M,jw T]/\Sq n 1 M/\Sq n e T/\1<=n/\n<=6/\e<=1000/\Q (jw (mk1 n T M)) h
theorem Jx (Z:Zs mg)(F:Fun K "marks_after" "marks_after" zV f fd)(YK:jp P w K mg base n "marks" ["table"] ZN)(WS:jp P w K mg base n "multiplied" ["one","other"] yE):FnOk P w K mg base CX0 (n+1) f fd ["ahead","table"] (LSp K wK):=by
 refine F.okM Jv (λhr=>(jI (wF (jk YK hr (j1 (jk WS hr (j2 (jv 0) (jv 1)))))))) ?_;rintro ds h Q ⟨M,T,n,b,rfl,hM,hT,h1,h6,hb,q⟩;refine⟨rfl,?_⟩;exact⟨_,rfl,_,rfl,M,T,n,1,b,rfl,hM,hT,by omega,h6,wm n M T,n,_,rfl,hM.mul hT (by omega),h1,h6,h,Sub.refl h,q⟩
def zu:RDn:=λds h Q=> ∃T,∃n e:Nat,ds= [jw T]/\Sq n e T/\1<=n/\n<=6/\e<=1000/\ ∀A L J h',h A=none->h' A=some ((P2 L).map λi=>jw (zp n T i))->Sub h h'->Course n T L J->L<=2225->Q (.tup [.lst A,.int ((J:Nat):Int)]) h'
theorem yh (Z:Zs mg)(F:Fun K "marks_and_return" "marks_and_return" jT f fd)(YK:jp P w K mg base n "marks" ["table"] ZN)(yJ:jp P w K mg base n "marks_after" ["ahead","table"] wK):FnOk P w K mg base CX0 (n+1) f fd ["table"] (LSp K zu):=by
 refine F.okM jB (λhr=>(js4 (jse 1 jB (QB (j1 (jk YK hr (j1 (jv 0)))))) (jse 2 jB (jk yJ hr (j2 (ji1 (jv 1) (FV jV)) (jv 0)))) (Ng B9 (Ds (QM hr.units) (jv 2) (jv 1) (by with_unfolding_all rfl)) (js2 (VJ (Cg (jv 1) (jv 2))) (jse 2 jB (jk yJ hr (j2 (jv 2) (jv 0)))))) (wF (UY (j2 (jv 1) (La hr.units (jv 1) (jv 2))))))) ?_;rintro ds h Q ⟨T,n,bb,rfl,hT,h1,h6,hb,q⟩;refine⟨rfl,?_⟩;refine jq (λgO h'=> ∃A,gO= [some (jw T),some (.lst A),none]/\h A=none/\h' A=some ((P2 1).map λi=>jw (zp n T i))/\Sub h h') (λC hC=>⟨_,rfl,T,n,bb,rfl,hT,h1,h6,sz1,λA eA=>hC _ _ ⟨A,rfl,eA,jd,Sub.newAt (Sub.refl h) eA⟩⟩) ?_;rintro _ h1' ⟨A,rfl,fA,kA,sbA⟩;refine ve [some (jw T),some (.lst A),some (jw (zp n T 1))] (λC hC=>⟨_,rfl,_,_,kA,Xn (by decide),_,rfl,zp n T 0,T,n,bb,rfl,ZC n T 0,hT,h1,h6,hb,hC⟩) ?_;refine jq (λgO h'=> ∃L,gO= [some (jw T),some (.lst A),some (jw (zp n T L))]/\h' A=some ((P2 L).map λi=>jw (zp n T i))/\Sub h h'/\L<=2225/\((P2 L).map (zp n T)).Nodup/\zp n T L∈(P2 L).map (zp n T)) (λC hC=> ?_) ?_
 ·refine QL (λm gO h'=> ∃L,gO= [some (jw T),some (.lst A),some (jw (zp n T L))]/\h' A=some ((P2 L).map λi=>jw (zp n T i))/\Sub h h'/\m=2226-L/\((P2 L).map (zp n T)).Nodup) _ ⟨_,rfl,kA,sbA,rfl,by simp⟩ ?_;rintro m _ h2 ⟨L,rfl,kA2,sb2,hm,nd⟩;have hL:=Xp hT h1 h6 nd;have kA3:h2 A=some (((P2 L).map (zp n T)).map jw):=by rw [kA2,R0];rfl
  refine⟨_,rfl,_,rfl,Ni Fi kA3 λbo hbo=>⟨_,rfl,Ma (λc=> ?_) (λc=> ?_)⟩⟩
  rotate_left
  ·refine hC _ _ ⟨L,rfl,kA2,sb2,hL,nd,hbo.mp ?_⟩;cases bo with
   |true=>rfl
   |false=>exact absurd rfl c
  have hni:zp n T L ∉ (P2 L).map (zp n T):=λz=>by rw [hbo.mpr z] at c;exact absurd c (by decide)
  refine jq (λgO h'=>gO= [some (jw T),some (.lst A),some (jw (zp n T L))]/\h' A=some ((P2 (L+1)).map λi=>jw (zp n T i))/\Sub h h') (λC2 hC2=> ?_) ?_
  ·refine⟨_,rfl,A,rfl,_,rfl,_,kA2,?_,hC2 _ _ ⟨rfl,?_,?_⟩⟩
   ·rw [G7,T7];exact O9 hL (by decide)
   ·rw [jd,a7,M6];rfl
   ·exact(sb2).over fA
  rintro _ h3 ⟨rfl,kA4,sb4⟩;refine⟨_,rfl,_,rfl,zp n T L,T,n,bb,rfl,ZC n T L,hT,h1,h6,hb,2226-(L+1),_,by omega,Sub.refl _,L+1,rfl,kA4,sb4,rfl,?_⟩;rw [a7,M6,cV];exact⟨nd,by simp,λx hx y hy=>by rw [G9.mp (show y∈ [zp n T L] from hy)];intro e;exact hni (e ▸ hx)⟩
 rintro _ h3 ⟨L,rfl,kA3,sb3,hL,nd,hin⟩;have kA4:h3 A=some (((P2 L).map (zp n T)).map jw):=by rw [kA3,R0];rfl
 obtain⟨J,pd,ps,zz,hat,t1,t2,c1,c2,c3,c4,c5,c6,c7⟩:=Nj Fi kA4 hin (by simp;omega);have hJL:J<L:=by have:=(P4.mp hat).1;simpa using this
 have hJe:zp n T L=zp n T J:=by
  rw [D1,E4 hJL] at hat;injection hat with hat
  exact hat.symm
 exact⟨_,rfl,_,rfl,A,rfl,_,rfl,pd,ps,J,zz,t1,t2,c1,c2,c3,c4,c5,c6,c7,sz2,h3,Sub.refl _,q A L J h3 fA kA3 sb3 ⟨nd,hJL,hJe⟩ hL⟩
def vh:RDn:=λds h Q=> ∃T,∃n e:Nat,ds= [jw T]/\Sq n e T/\1<=n/\n<=6/\e<=1000/\ ∀A L J h',h A=none->h' A=some ((P2 L).map λi=>jw (zp n T i))->Sub h h'->Course n T L J->L<=2225->Q (.lst A) h'
theorem WK (Z:Zs mg)(F:Fun K "all_marks" "all_marks" wZ f fd)(yK:jp P w K mg base n "marks_and_return" ["table"] zu):FnOk P w K mg base CX0 (n+1) f fd ["table"] (LSp K vh):=by
 refine F.okM WG (λhr=>(jI (wF (ji1 (jk yK hr (j1 (jv 0))) jV)))) ?_;rintro ds h Q ⟨T,n,bb,rfl,hT,h1,h6,hb,q⟩;refine⟨rfl,?_⟩;exact⟨_,rfl,T,n,bb,rfl,hT,h1,h6,hb,λA L J h' fA kA sb c hL=>⟨_,rfl,h',Sub.refl _,q A L J h' fA kA sb c hL⟩⟩
def Fst (n:Nat)(T:List (List Int)):Option Nat->Prop
 |none=> ∀k,1<=k->jy (jX n T k)=false
 |some k=>1<=k/\k<=30/\jy (jX n T k)=true/\ ∀j,1<=j->j<k->jy (jX n T j)=false
def Cw:Option Nat->D
 |none=> .non
 |some k=> .int (k:Int)
section
variable {n e:Nat}{T:List (List Int)}
theorem NH (h:Sq n e T)(n1:1<=n)(h6:n<=6): ∃o,Fst n T o:=by
 by_cases z: ∃k,1<=k/\jy (jX n T k)=true
 ·obtain⟨K,hK,f⟩:=z;obtain⟨k,k1,k30,fk⟩:=Le h n1 h6 hK f;clear f hK
  induction k using a8 with
  |_ k ih=>
   by_cases w: ∃j,1<=j/\j<k/\jy (jX n T j)=true
   ·obtain⟨j,j1,jk,fj⟩:=w;exact ih j jk j1 (by omega) fj
   ·exact⟨some k,k1,k30,fk,λj j1 jk=>by
     cases hf:jy (jX n T j) with
     |false=>rfl
     |true=>exact absurd ⟨j,j1,jk,hf⟩ w⟩
 ·exact⟨none,λk hk=>by
   cases hf:jy (jX n T k) with
   |false=>rfl
   |true=>exact absurd ⟨k,hk,hf⟩ z⟩
theorem DW {o:Option Nat}(ho:Fst n T o){i:Nat}(hi:jy (jX n T (i+1))=true)(lo: ∀m,m<i->jy (jX n T (m+1))=false):o=some (i+1):=by
 cases o with
 |none=>have:=ho (i+1) (by omega);rw [hi] at this;cases this
 |some k=>
  obtain⟨k1,k30,fk,fl⟩:=ho;have a: ¬ (i+1<k):=λz=>by have:=fl (i+1) (by omega) z;rw [hi] at this;cases this
  have b: ¬ (k<i+1):=λz=>by have:=lo (k-1) (by omega);rw [show k-1+1=k by omega,fk] at this;cases this
  rw [show k=i+1 by omega]
theorem Gt {o:Option Nat}(ho:Fst n T o)(lo: ∀m,m<30->jy (jX n T (m+1))=false):o=none:=by
 cases o with
 |none=>rfl
 |some k=>
  obtain⟨k1,k30,fk,fl⟩:=ho;have:=lo (k-1) (by omega);rw [show k-1+1=k by omega,fk] at this;cases this
theorem wE (h:Sq n e T)(hn:n<=8)(i:Nat):jy (zp n T i)=jy (jX n T (i+1)):=by rw [vE h hn,Xc (h.pow hn _)]
end
def wL:RDn:=λds h Q=> ∃T,∃n e:Nat,∃o,ds= [jw T]/\Sq n e T/\1<=n/\n<=6/\e<=1000/\Fst n T o/\Q (Cw o) h
theorem Jy (Z:Zs mg)(F:Fun K "first_power" "first_power" zW f fd)(YI:jp P w K mg base n "all_marks" ["table"] vh)(NO:jp P w K mg base n "full" ["table"] XN):FnOk P w K mg base CX0 (n+1) f fd ["table"] (LSp K wL):=by
 refine F.okM wO (λhr=>(js2 (QC B9 rfl (QX rfl Z.enumerate (j1 (jk YI hr (j1 (jv 0))))) (GR (i:=1) (j:=2) rfl wO.nd rfl rfl (K2 rfl) (K2 rfl)) (jI (Go (Ws (jk NO hr (j1 (jv 2)))) (wF (jop zJ (jv 1) jV))))) (wF Fd))) ?_;rintro ds h Q ⟨T,k,b,o,rfl,hT,h1,h6,hb,ho,q⟩;refine⟨rfl,?_⟩;have hn:k<=8:=by omega
 refine jq (λgO h'=>o=none/\Sub h h') (λC hC=> ?_) ?_
 ·refine⟨_,rfl,T,k,b,rfl,hT,h1,h6,hb,λA L J h' fA kA sb hc hL=>⟨A,rfl,?_⟩⟩;refine vX (j:=λh=>(h A).map Xi) (Xi ((P2 L).map λi=>jw (zp k T i))) (λi gO h2=> ∃a b',gO= [some (jw T),a,b']/\h'=h2/\ ∀m,m<i->jy (jX k T (m+1))=false) (λi gO h2 ⟨_,_,_,e,_⟩=>by rw [<-e];show (h' A).map Xi=_;rw [kA];rfl) ⟨none,none,rfl,rfl,λm hm=>absurd hm (Nat.not_lt_zero _)⟩ ?_ ?_
  ·rintro gO h2 ⟨a,b',e,eh,lo⟩;rw [wW,G7,T7] at lo;refine hC _ _ ⟨Gt ho λm _=> ?_,eh ▸ sb⟩
   by_cases z:m<L
   ·exact lo m z
   ·have lt:=hc.lt;rw [<-wE hT hn m,<-Nk hc (show J<=m by omega),wE hT hn];exact lo _ (by have:=Nat.mod_lt (m-J) (show 0<L-J by omega);omega)
  rintro i d _ _ hd ⟨a,b',rfl,rfl,lo⟩;obtain⟨x,hx,rfl⟩:=Vi hd;have hil:i+1<=(Xi ((P2 L).map λi=>jw (zp k T i))).length:=(P4.mp hd).1;have hiL:i<L:=by rw [wW,G7,T7] at hil;exact hil
  rw [D1,E4 hiL] at hx;injection hx with hx
  subst hx;refine⟨_,_,rfl,_,rfl,zp k T i,k,1,rfl,ZC k T i,h1,h6,_,rfl,?_⟩;rw [wE hT hn];cases hf:jy (jX k T (i+1)) with
  |true=>
   refine Px ⟨_,rfl,h,sb,?_⟩;rw [DW ho hf lo] at q;exact q
  |false=>
   refine XX ⟨_,Sub.refl _,hil,_,_,rfl,rfl,λm hm=> ?_⟩
   by_cases z:m=i
   ·subst z;exact hf
   ·exact lo m (by omega)
 rintro _ h2 ⟨e,sb⟩;subst e;exact⟨h,sb,q⟩
variable {h:HD}
theorem NI {i k:Nat}{te:TED}{E:EndsD}{σ:SD}{d:D}(x:te (σ.set i (some d)) h λv h1=>E.nx ((σ.set i (some d)).set k (some v)) h1):gN i d σ h (λgQ h2=>XY k te E gQ h2):=x
def Ll:D->ItD
 | .lst a=>λh=>h a
 | .tup ds=>λ_=>some ds
 |_=>λ_=>none
theorem DY (ts:List D)(k:Nat):((zT ts k).flatMap λr=>ts.map λt=>D.tup (r++ [t]))=(zT ts (k+1)).map D.tup:=by
 show _=((zT ts k).flatMap _).map D.tup;rw [aO]
 congr 1
 funext r
 rw [R0];rfl
theorem XO {α:Type}{ts:List α}(h8:ts.length<=8): ∀ {k:Nat},k<3->((zT ts k).flatMap λ_=>ts).length<=1000:=λ{k} hk=>by
 have: ∀l:List (List α),(l.flatMap λ_=>ts).length=l.length*ts.length:=λl=>by
  induction l with
  |nil=>simp
  |cons x l ih=>rw [N9,G3,ih,D5,X4];omega
 rw [this,yR];have a:ts.length^k<=8^2:=D9 (Nat.pow_le_pow_left h8 k) (A7 (by decide) (by omega));have:=Z0 a h8;omega
def Jn:RDn:=λds h Q=> ∃x ts,∃m:Nat,ds= [x,.int (m:Int)]/\(x= .tup ts\/ ∃a,x= .lst a/\h a=some ts)/\m<=3/\ts.length<=8/\ ∀A h',h A=none->h' A=some ((zT ts m).map D.tup)->Sub h h'->Q (.lst A) h'
theorem YB (Z:Zs mg)(F:Fun K "all_rows" "all_rows" yT f fd):FnOk P w K mg base CX0 (n+1) f fd ["things","many"] (LSp K Jn):=by
 refine F.okM wb (λhr=>(js3 (jse 2 wb (QB (j1 (UY vY)))) (QC B9 rfl (jrg Z (jv 1)) (jgn 3 wb) (jI (DO (i:=4) (i':=5) (k:=2) (js:= [4,5]) rfl wb.nd rfl (K2 rfl) (wB (by rfl)) (jQ (jv 2)) (by decide) (by decide) (by decide) rfl rfl (by first|exact K2 rfl|exact V9 rfl) (by first|exact K2 rfl|exact V9 rfl) (λX' hX=>vZ) (λX' hX=>by obtain⟨C,s₀,H₀,ex,rfl⟩:=hX;exact(jQ (jv 0))) (λX' hX=>vZ) (λX' hX=>by obtain⟨C,s₀,H₀,ex,rfl⟩:=hX;exact(jop zJ (jv 4) (UY (j1 (jv 5)))))))) (wF (jv 2)))) ?_;rintro ds h Q ⟨x,ts,m,rfl,hx,h3,h8,q⟩;refine⟨rfl,?_⟩;refine jq (λgO h'=> ∃A,gO= [some x,some (.int (m:Int)),some (.lst A),none,none,none]/\h A=none/\h' A=some ((zT ts 0).map D.tup)/\Sub h h') (λC hC=>⟨sz0,sz1,λA eA=>hC _ _ ⟨A,rfl,eA,jd,Sub.new eA⟩⟩) ?_;rintro _ h1 ⟨A,rfl,fA,kA,sb⟩;refine jq (λgO h'=> ∃A a b c,gO= [some x,some (.int (m:Int)),some (.lst A),a,b,c]/\h A=none/\h' A=some ((zT ts m).map D.tup)/\Sub h h') (λC hC=> ?_) ?_
 ·refine Yi (h1:=h1) m (λk gO h'=> ∃A a b c,gO= [some x,some (.int (m:Int)),some (.lst A),a,b,c]/\h A=none/\h' A=some ((zT ts k).map D.tup)/\Sub h h') (by omega) (λR r=>⟨_,rfl,r⟩) ⟨A,none,none,none,rfl,fA,kA,sb⟩ (λgO h' z=>hC _ _ z) ?_;clear kA sb fA;rintro k _ h2 hk ⟨A,a,b,c,rfl,fA,kA,sb⟩;refine NI ?_;refine Lk (j:=λh=>h A) (Ll x) (zT ts k) D.tup (λ_=>ts) id (λr t=> .tup (r++ [t])) (XO h8 (by omega)) kA (λR r=>⟨_,rfl,r⟩) (λr hr R rr=> ?_) (λr hr=> ?_) (λr hr t ht Q' q'=>⟨_,rfl,_,rfl,sz1,?_,q'⟩) (λB eB=>⟨_,Sub.refl _,hk,B,_,_,_,rfl,zR sb eB,?_,Sub.newAt sb eB⟩)
  ·rcases hx with rfl|⟨a,rfl,ka⟩<;>exact⟨_,rfl,rr⟩
  ·rw [dJ];rcases hx with rfl|⟨a,rfl,ka⟩
   ·rfl
   ·exact sb _ _ ka
  ·rw [(vf ts hr).1];exact D9 (show k+1<=6 by omega) (by decide)
  ·rw [jd,DY]
 rintro _ h2 ⟨A,a,b,c,rfl,fA,kA,sb⟩;exact⟨_,rfl,_,Sub.refl _,q A _ fA kA sb⟩
theorem XQ (s:Nat):(zT ((zT [D.int 0,D.int 1] s).map D.tup) s).map D.tup=(wj s).map jw:=by
 have e1:(zT [D.int 0,D.int 1] s).map D.tup=(zT [(0:Int),1] s).map zH:=by
  rw [show [D.int 0,D.int 1]= [(0:Int),1].map D.int from rfl,Yu,R0];rfl
 rw [e1,Yu,R0];rfl
def zw:RDn:=λds h Q=> ∃s:Nat,ds= [.int (s:Int)]/\s<=3/\ ∀A h',h A=none->h' A=some ((wj s).map jw)->Sub h h'->Q (.lst A) h'
theorem yF (Z:Zs mg)(F:Fun K "all_mark_tables" "all_mark_tables" jY f fd)(Zh:jp P w K mg base n "all_rows" ["things","many"] Jn):FnOk P w K mg base CX0 (n+1) f fd ["size"] (LSp K zw):=by
 refine F.okM yD (λhr=>(jI (wF (jk Zh hr (j2 (jk Zh hr (j2 (UY (j2 jV jV)) (jv 0))) (jv 0)))))) ?_;rintro ds h Q ⟨s,rfl,h3,q⟩;refine⟨rfl,?_⟩;refine⟨sz2,_,rfl,_,_,s,rfl,.inl rfl,h3,by decide,λA h' fA kA sb=>⟨_,rfl,_,_,s,rfl,.inr ⟨A,rfl,kA⟩,h3,?_,λB h'' fB kB sb'=>⟨_,Sub.refl _,q B h'' (zR sb fB) (by rw [kB,XQ]) (sb.trans sb')⟩⟩⟩;rw [G7,yR];exact A7 (j:=3) (by decide) h3
def Lm:Option Nat->Int
 |none=>0
 |some k=>(k:Int)
section
variable {n e:Nat}{T:List (List Int)}
theorem WL (h:Sq n e T)(i:Nat):ji n (wm n (zp n T i) (ji n T))=zp n T (i+1):=Xq (ZC n T i) h
theorem Vw (h:Sq n e T): ∀ (d m i:Nat),d<m->jy (zp n T (i+d))=true->(∀j,i<=j->j<i+d->jy (zp n T j)=false)->VT n (ji n T) m (zp n T i) ((i:Int)+1)=((i+d:Nat):Int)+1
 |0,m+1,i,_,f,_=>by show (if _ then _ else _)=_;rw [if_pos (show jy (zp n T i)=true from f)];rfl
 |d+1,m+1,i,hd,f,lo=>by
  show (if _ then _ else _)=_;rw [if_neg (by rw [lo i (G5 _) (by omega)];exact P3),WL h];have:=Vw h d m (i+1) (by omega) (by rw [show i+1+d=i+(d+1) by omega];exact f) λj h1 h2=>lo j (by omega) (by omega)
  rw [show ((i:Int)+1+1)=((i+1:Nat):Int)+1 by omega,this];omega
theorem XR (h:Sq n e T): ∀ (m i:Nat) (c:Int),(∀j,i<=j->j<i+m->jy (zp n T j)=false)->VT n (ji n T) m (zp n T i) c=0
 |0,_,_,_=>rfl
 |m+1,i,c,lo=>by
  show (if _ then _ else _)=_;rw [if_neg (by rw [lo i (G5 _) (by omega)];exact P3),WL h];exact XR h m (i+1) _ λj h1 h2=>lo j (by omega) (by omega)
theorem XS (h:Sq n e T)(n1:1<=n)(h6:n<=6){k:Nat}(ho:Fst n T (some k)):k<=(n-1)*(n-1)+1:=by
 have hn:n<=8:=by omega
 obtain⟨k1,k30,fk,fl⟩:=ho;have all: ∀m,k<=m-> ∀i j,i<n->j<n->RP n T m i j:=λm hm=>by
  have:=Yl h hn (a:=k) (by omega) fk (m-k);rw [show k+(m-k)=m by omega] at this;exact(Yo h hn).mp this
 have low: ∀m,1<=m->jy (jX n T m)=true->k<=m:=λm m1 f=>V8 λz=>by
  have:=fl m m1 z;rw [f] at this;cases this
 by_cases n2:2<=n
 ·obtain⟨m,m1,mb,fm⟩:=Xs h hn n2 all;exact D9 (low m m1 fm) mb
 ·have n1':n=1:=by omega
  subst n1';obtain⟨c,hc,_,b⟩:=(jW h hn (k-1) 1 (show 0<1 by decide) (show 0<1 by decide)).mp (all ((k-1)+1) (by omega) 0 0 (by decide) (by decide));have:c=0:=by omega
  subst this;exact low 1 (G5 _) ((Yo h hn).mpr λi j hi hj=>by rw [show i=0 by omega,show j=0 by omega];exact b)
theorem Gu (h:Sq n e T)(n1:1<=n)(h6:n<=6){o:Option Nat}(ho:Fst n T o):zS n T=Lm o:=by
 have hn:n<=8:=by omega
 cases o with
 |none=>exact XR h _ 0 1 λj _ _=>by rw [wE h hn];exact ho (j+1) (by omega)
 |some k=>
  have kb:=XS h n1 h6 ho;obtain⟨k1,k30,fk,fl⟩:=ho;have:=Vw h (k-1) ((n-1)*(n-1)+1) 0 (by omega) (by rw [wE h hn,show 0+(k-1)+1=k by omega];exact fk) λj _ hj=>by rw [wE h hn];exact fl (j+1) (by omega) (by omega)
  refine Eq.trans this ?_;show ((0+(k-1):Nat):Int)+1=(k:Int);omega
end
theorem Gv (s:Nat)(l:List (List (List Int)))(T:List (List Int)):Uc s (l++ [T])=Ri s (Uc s l) T:=by
 unfold Uc;rw [List.foldl_append];rfl
theorem DZ (s:Nat)(kv:List (Int×Int))(T:List (List Int)):Yq (kv.map dnI) (zS s T) (.int ((Jr kv (zS s T)).getD 0+1))=(Ri s kv T).map dnI:=DR kv _ _
theorem Ra (kv:List (Int×Int))(k:Int):(Jr (kv.map dnI) k).getD (.int 0)= .int ((Jr kv k).getD 0):=by
 rw [Yx];cases Jr kv k<;>rfl
def Jo:RDn:=λds h Q=> ∃s:Nat,ds= [.int (s:Int)]/\1<=s/\s<=3/\ ∀A h',h A=none->h' A=some ((VU s).map tI)->Sub h h'->Q (.lst A) h'
theorem YC (Z:Zs mg)(F:Fun K "by_first" "by_first" yU f fd)(ZT:jp P w K mg base n "want_number" ["thing","least","most"] wJ)(yX:jp P w K mg base n "all_mark_tables" ["size"] zw)(ZS:jp P w K mg base n "first_power" ["table"] wL)(wa: ∃tk,mg "MOST_LISTED" =some (.int 3 tk)):FnOk P w K mg base CX0 (n+1) f fd ["size"] (LSp K Jo):=by
 obtain⟨tk_MOST_LISTED,m_MOST_LISTED⟩:=wa;refine F.okM zt (λhr=>(js4 (VJ (jk ZT hr (j3 (jv 0) jV (Na rfl m_MOST_LISTED)))) (jse 1 zt Nz) (QC B9 rfl (jQ (jk yX hr (j1 (jv 0)))) (jgn 2 zt) (js3 (jse 3 zt (jk ZS hr (j1 (jv 2)))) (jse 4 zt (jif (jt1 Cb (jv 3) Fd) jV (jv 3))) (Cr hr (jv 1) (jv 4) (jop zJ (NB hr (jv 1) (jv 4) jV) jV)))) (wF (Lg hr rfl rfl Z.sorted (jv 1))))) ?_;rintro ds h Q ⟨s,rfl,h1,h3,q⟩;refine⟨rfl,?_⟩;refine ve [some (.int (s:Int)),none,none,none,none] (λC hC=>⟨_,rfl,(s:Int),1,3,rfl,by omega,by omega,hC⟩) ?_;refine jq (λgO h'=> ∃cd,gO= [some (.int (s:Int)),some (.dct cd),none,none,none]/\h'.dc cd=some (.ik [])/\h.dc cd=none/\Sub h h') (λC hC p ep=>hC _ _ ⟨p,rfl,yl,ep,Sub.newC ep⟩) ?_;rintro _ h2 ⟨cd,rfl,kc,fc,sb⟩;refine jq (λgO h'=> ∃a b c,gO= [some (.int (s:Int)),some (.dct cd),a,b,c]/\h'.dc cd=some (.ik ((Uc s (wj s)).map dnI))/\Sub h h') (λC hC=>⟨_,rfl,s,rfl,h3,λA h' fA kA sbA=> ?_⟩) ?_
 ·refine vX (j:=λh=>h A) ((wj s).map jw) (λi gO h'=> ∃a b c,gO= [some (.int (s:Int)),some (.dct cd),a,b,c]/\h'.dc cd=some (.ik ((Uc s ((wj s).take i)).map dnI))/\h' A=some ((wj s).map jw)/\Sub h h') (λi gO h' ⟨_,_,_,_,_,z,_⟩=>z) ⟨none,none,none,rfl,sbA.dc _ _ kc,kA,sb.trans sbA⟩ (λgO h' ⟨a,b,c,es,kc,_,sb⟩=>hC _ _ ⟨a,b,c,es,by rw [kc,G7,E7],sb⟩) ?_;clear kc sb;rintro i d _ h4 hd ⟨a,b,c,rfl,kc,kA,sb⟩;rw [D1] at hd;obtain⟨T,hT,rfl⟩:=V1.mp hd;have sq:=Gq (G8 hT);obtain⟨o,ho⟩:=NH sq h1 (by omega);have so:=Gu sq h1 (by omega) ho;have il:i<(wj s).length:=(P4.mp hT).1;refine jq (λgO h'=>gO= [some (.int (s:Int)),some (.dct cd),some (jw T),some (Cw o),c]/\h4=h') (λC' hC'=>⟨_,rfl,T,s,1,o,rfl,sq,h1,by omega,by decide,ho,hC' _ _ ⟨rfl,rfl⟩⟩) ?_;rintro _ _ ⟨rfl,rfl⟩;refine jq (λgO h'=>gO= [some (.int (s:Int)),some (.dct cd),some (jw T),some (Cw o),some (.int (zS s T))]/\h4=h') (λC' hC'=>⟨_,rfl,_,rfl,?_⟩) ?_
  ·rw [so] at hC';cases o with
   |none=>exact Px (hC' _ _ ⟨rfl,rfl⟩)
   |some k=>exact XX ⟨_,rfl,hC' _ _ ⟨rfl,rfl⟩⟩
  rintro _ _ ⟨rfl,rfl⟩;have few:(Uc s ((wj s).take i)).length<1000:=by
   have:=Yw (s:=s) ((wj s).take i) [];have b:=(ZH h3).1;rw [D4] at this;exact O9 this (by simp only [T3];omega)
  refine⟨_,rfl,cd,_,rfl,kc,_,rfl,_,_,rfl,kc,?_⟩;rw [Ra];refine⟨_,rfl,_,rfl,cd,_,_,rfl,rfl,kc,by rw [G7];exact few,_,Sub.refl _,by rw [G7];exact il,_,_,_,rfl,?_,kA,sb.overC fc⟩;rw [yl,DZ,T0,hT];show _=some (DC.ik ((Uc s (_++ [T])).map dnI));rw [Gv]
 clear kc sb;rintro _ h4 ⟨a,b,c,rfl,kc,sb⟩;have few:(Uc s (wj s)).length<1000:=by
  have:=Yw (s:=s) (wj s) [];have b:=(ZH h3).1;exact O9 this (by simp only [T3];omega)
 exact⟨_,rfl,cd,_,rfl,kc,few,λp mss fp pm srt=>⟨_,Sub.refl _,q p _ (zR sb fp) (by rw [jd,NF h1 h3 pm srt]) (sb.newAt fp)⟩⟩
def vi:RDn:=λds h Q=> ∃ns k,ds= [.scr ns,.int k]/\0<=k/\ ∀n,Q (.int n) h
theorem WM (Z:Zs mg)(F:Fun K "_law_cell" "_law_cell" ya f fd):FnOk P w K mg base CX0 (n+1) f fd ["_law_script","_law_k"] (LSp K vi):=by
 refine F.okM WH (λhr=>(js2 (Go (jt1 BS (jv 1) (DQ Z (jv 0))) (wF (ji1 (jv 0) (jv 1)))) (wF jV))) ?_;rintro ds h Q ⟨ns,k,rfl,h0,q⟩;refine⟨rfl,?_⟩;simp only [vq,PR,vp,dOp,GE,wd,R1,K9,D5,T3,E5,N7,U6,L7,K0,dCB,zh,Wm,Rh,GK,D.bl.injEq,GF,ixD,Qu,exists_eq_left',Ye,dC];refine Ma (λc=> ?_) (λ_=>⟨h,Sub.refl h,q 0⟩);have c':k<(ns.length:Int):=of_decide_eq_true c;have hk:k.toNat<ns.length:=by omega
 have ek:k=((k.toNat:Nat):Int):=by omega
 have z:=Ya (G1 hk);rw [<-ek] at z;exact⟨ns[k.toNat],z,h,Sub.refl h,q _⟩
def Jp:RDn:=λds h Q=> ∃c,ds= [.int c]/\ ∀p l fl,h p=none->0<=l->(fl=0\/fl=1)->Q (.lst p) (wS h p [.int l,.int fl])
theorem YD (Z:Zs mg)(F:Fun K "_law_pen" "_law_pen" yV f fd):FnOk P w K mg base CX0 (n+1) f fd ["_law_cell_here"] (LSp K Jp):=by
 refine F.okM Jl (λhr=>(js2 (jse 1 Jl (we (MP rfl) rfl Z.max (by decide +kernel) (j2 (jv 0) (jop GL jV (jv 0))))) (wF (QB (j2 (jv 1) (zC GO rfl Z.int (by decide +kernel) (j1 (jc1 ML (jv 1) (jop GM jV jV))))))))) ?_;rintro ds h Q ⟨c,rfl,q⟩;refine⟨rfl,?_⟩;simp only [vq,XY,dCB,zh,GE,wd,R1,K9,D5,T3,R6,E5,N7,L7,K0,dOp,dC,CW,Wm,BV,GF,NU,List.set_cons_succ,List.set_cons_zero,U6,CZ,GK,BU,Qu,exists_eq_left'];refine⟨⟨by decide,by decide,by decide⟩,by decide,λp hp=>⟨_,Sub.refl _,q p _ _ hp ?_ ?_⟩⟩
 ·split<;>omega
 ·split<;>simp<;>omega
def vj:RDn:=λds h Q=> ∃p l fl m,ds= [.lst p,.int m]/\h p=some [.int l,.int fl]/\0<=l/\0<m/\m<2^200/\ ∀r l',0<=r->r<m->0<=l'->Q (.int r) (wS h p [.int l',.int fl])
theorem WN (Z:Zs mg)(F:Fun K "_law_draw" "_law_draw" yb f fd):FnOk P w K mg base CX0 (n+1) f fd ["_law_pen_here","_law_many"] (LSp K vj):=by
 refine F.okM zA (λhr=>(js5 (Fg (jt1 MM (ji1 (jv 0) jV) jV) (js3 (Cd (we VO rfl Z.divmod (by decide +kernel) (j2 (ji1 (jv 0) jV) (jv 1))) (GR (i:=2) (j:=3) rfl zA.nd rfl rfl (K2 rfl) (K2 rfl))) (Cd (jv 2) (GS (jv 0) jV)) (wF (jv 3))) GQ) (jse 4 zA (jop Wp (jop Yg (jop zJ (jop Wp (ji1 (jv 0) jV) jV) jV) jV) jV)) (jse 4 zA (jop Wp (jop zJ (jop Yg (jv 4) (jv 4)) jV) jV)) (Cd (jop Wp (jop zJ (jop Yg (jv 4) jV) jV) jV) (GS (jv 0) jV)) (wF (jop Wp (jop Dh (ji1 (jv 0) jV) jV) (jv 1))))) ?_;rintro ds h Q ⟨p,l,fl,m,rfl,hp,h0,hm,hm2,q⟩;refine⟨rfl,?_⟩;refine ve [some (.lst p),some (.int m),none,none,none] (λC hC=>⟨_,rfl,_,_,hp,rfl,?_⟩) ?_
 ·show ∃k,D.bl (decide (fl=1))= .bl k/\_;refine⟨_,rfl,Ma (λ_=> ?_) λ_=>hC⟩;exact⟨_,rfl,_,_,hp,rfl,_,rfl,_,_,rfl,⟨hm,hm2⟩,_,_,rfl,_,rfl,_,rfl,p,0,_,0,rfl,rfl,hp,rfl,_,rfl,_,Sub.refl _,q (l%m) (l / m) (X1 _ (fW hm)) (Z7 _ hm) (Int.ediv_nonneg h0 (fS hm))⟩
 refine jq (λgO h'=> ∃z:Int,gO= [some (.lst p),some (.int m),none,none,some (.int z)]/\(0<=z/\z<2147483629)/\h=h') (λC hC=>⟨_,rfl,_,_,hp,rfl,by decide,.inr ⟨by decide,by decide⟩,by decide,hC _ _ ⟨_,rfl,⟨X1 _ (by decide),Z7 _ (by decide)⟩,rfl⟩⟩) ?_;rintro _ _ ⟨z,rfl,⟨z0,z1⟩,rfl⟩;refine jq (λgO h'=> ∃y:Int,gO= [some (.lst p),some (.int m),none,none,some (.int y)]/\h=h') (λC hC=>⟨_,rfl,_,rfl,.inl ⟨b9 (by decide) z0,Int.lt_trans z1 (by decide)⟩,by decide,hC _ _ ⟨_,rfl,rfl⟩⟩) ?_;rintro _ _ ⟨y,rfl,rfl⟩;refine jq (λgO h'=> ∃x:Int,gO= [some (.lst p),some (.int m),none,none,some (.int y)]/\0<=x/\h'=wS h p [.int x,.int fl]) (λC hC=>⟨_,rfl,.inr ⟨by decide,by decide⟩,by decide,_,rfl,p,0,_,0,rfl,rfl,hp,rfl,hC _ _ ⟨_,rfl,X1 _ (by decide),rfl⟩⟩) ?_;rintro _ _ ⟨x,rfl,x0,rfl⟩;exact⟨_,rfl,_,_,jd,rfl,⟨by decide,by decide⟩,_,rfl,hm,_,Sub.refl _,q (x / 32%m) x (X1 _ (fW hm)) (Z7 _ hm) x0⟩
theorem WO (Z:Zs mg)(F:Fun K "_law_same" "_law_same" yc f fd):FnOk P w K mg base CX0 (n+1) f fd ["_law_found","_law_due"] (LSp K GU):=by
 refine F.okM WI (λhr=>(jI (wF (jc1 MM (we (Vj hr) rfl Z.repr (by decide +kernel) (j1 (jv 0))) (we (Vj hr) rfl Z.repr (by decide +kernel) (j1 (jv 1))))))) ?_;rintro ds h Q ⟨x,y,pd,rfl,t1,t2,so,q⟩;refine⟨rfl,?_⟩;refine⟨_,rfl,x,pd,rfl,t1,so,_,rfl,y,pd,rfl,t2,so,h,Sub.refl h,?_⟩;rw [decide_eq_true rfl];exact q
def yG:RDn:=λds h Q=> ∃T U,∃n e f:Nat,ds= [jw T,jw U]/\Sq n e T/\Sq n f U/\e+f<=1000000/\n<=6/\Q (jw (wm n T U)) h
theorem ZO (Z:Zs mg)(F:Fun K "_law_times" "_law_times" wu f fd):FnOk P w K mg base CX0 (n+1) f fd ["_law_one","_law_other"] (LSp K yG):=by
 refine F.okM jG (λhr=>(js4 (jse 2 jG (DQ Z (jv 0))) (jse 3 jG (QB vY)) (QC B9 rfl (jQ (jv 0)) (jgn 4 jG) (jI (VJ (Cg (jv 3) (zC zo rfl Z.tuple (by decide +kernel) (j1 (jl0 5 jG (jrg Z (jv 2)) (λ_ _ _ _=>(we (UX rfl) rfl Z.sum (by decide +kernel) (j1 (jl0 6 jG (jrg Z (jv 2)) (λ_ _ _ _=>(jop Xd (ji1 (jv 4) (jv 6)) (ji1 (ji1 (jv 1) (jv 6)) (jv 5))))))))))))))) (wF (zC cq_tuple rfl Z.tuple (by decide +kernel) (j1 (jv 3)))))) ?_;rintro ds h Q ⟨T,U,k,b,f,rfl,hT,hU,hb,h6,q⟩;refine⟨rfl,?_⟩;refine jq (λgO h'=>gO= [some (jw T),some (jw U),some (.int (k:Int)),none,none,none,none]/\h=h') (λC hC=>⟨_,rfl,hC _ _ ⟨by rw [G7,hT.len];rfl,rfl⟩⟩) ?_;rintro _ _ ⟨rfl,rfl⟩;refine jq (λgO h'=> ∃R,gO= [some (jw T),some (jw U),some (.int (k:Int)),some (.lst R),none,none,none]/\h R=none/\h' R=some []/\Sub h h') (λC hC=> ?_) ?_
 ·exact⟨sz0,λR eR=>hC _ _ ⟨R,rfl,eR,jd,Sub.newAt (Sub.refl h) eR⟩⟩
 rintro _ h1 ⟨R,rfl,fR,kR,sb⟩;refine jq (λgO h'=> ∃a b c,gO= [some (jw T),some (jw U),some (.int (k:Int)),some (.lst R),a,b,c]/\h' R=some ((wm k T U).map zH)/\Sub h h') (λC hC=> ?_) ?_
 ·refine Vb (j:=λ_=>some (T.map zH)) (T.map zH) (λi gO h'=> ∃a b c,gO= [some (jw T),some (jw U),some (.int (k:Int)),some (.lst R),a,b,c]/\h' R=some ((T.take i).map λr=>D.tup ((P2 k).map λj=> .int (jt k λm=>r.getD m 0*ent U m j)))/\Sub h h') (λR' r=>⟨_,rfl,r⟩) (λ_ _ _ _=>rfl) ⟨_,_,_,rfl,kR,sb⟩ ?_ ?_
  ·rintro gO h' ⟨a,b,c,e,kR2,sb2⟩;refine hC _ _ ⟨a,b,c,e,?_,sb2⟩;rw [G7,E7,Vg hT] at kR2;exact kR2
  rintro i d _ h2 hd ⟨a,b',c,rfl,kR2,sb2⟩;rw [D1] at hd;cases hx:T[i]? with
  |none=>rw [hx] at hd;cases hd
  |some r=>
   rw [hx] at hd;cases hd;have hr:=G8 hx;have hil:i<T.length:=(P4.mp hx).1;refine⟨_,rfl,R,rfl,?_⟩;refine Dy (P2 k) (λj=> .int (j:Int)) (λj=> .int (jt k λm=>r.getD m 0*ent U m j)) (by rw [T7];omega) rfl (λR rr=>⟨_,rfl,(k:Int),rfl,by omega,by omega,rr⟩) (λj hj Q'' q''=> ?_) ?_
   ·refine Fh (P2 k) (λm=> .int (m:Int)) (λm=>r.getD m 0*ent U m j) (by rw [T7];omega) rfl (λR rr=>⟨_,rfl,(k:Int),rfl,by omega,by omega,rr⟩) (λm hm Q3 q3=> ?_) q'';have hm':=D7.mp hm;have hj':=D7.mp hj;refine⟨_,rfl,_,rfl,_,ZA (hT.row r hr) hm',_,rfl,_,rfl,_,Xe hU hm',_,rfl,_,ZA (hU.row _ (Sq.getRow hU hm')) hj',?_,q3⟩;refine Vf (e:=b) (f:=f) ?_ (hU.ent_nn hm' hj') (by omega);have hm2:m<r.length:=by rw [hT.row r hr];exact hm'
    have e1:r.getD m 0=r[m]:=by rw [R4,G1 hm2];rfl
    rw [e1];exact⟨hT.nn r hr _ (T6 hm2),hT.bit r hr _ (T6 hm2)⟩
   ·refine⟨_,kR2,?_,_,Sub.refl _,by rw [G7];omega,_,_,_,rfl,?_,?_⟩
    ·rw [G7,D4];exact O9 (show min i T.length<=1000 by rw [hT.len];omega) (by decide)
    ·rw [jd,T0,hx,M6];rfl
    ·exact(sb2).over fR
 rintro _ h3 ⟨a,b,c,rfl,kR3,sb3⟩;exact⟨_,rfl,_,kR3,_,sb3,q⟩
def wM:RDn:=λds h Q=> ∃T,∃n e:Nat,ds= [jw T]/\Sq n e T/\n<=6/\Q (jw (ji n T)) h
theorem Jz (Z:Zs mg)(F:Fun K "_law_marked" "_law_marked" zX f fd):FnOk P w K mg base CX0 (n+1) f fd ["_law_table"] (LSp K wM):=by
 refine F.okM zG (λhr=>(jI (wF (zC zo rfl Z.tuple (by decide +kernel) (j1 (jl0 1 zG (jQ (jv 0)) (λ_ _ _ _=>(zC zo rfl Z.tuple (by decide +kernel) (j1 (jl0 2 zG (jQ (jv 1)) (λ_ _ _ _=>(zC GO rfl Z.int (by decide +kernel) (j1 (jc1 Di (jv 2) jV)))))))))))))) ?_;rintro ds h Q ⟨T,k,b,rfl,hT,h6,q⟩;refine⟨rfl,?_⟩;refine Dy T zH (λr=> .tup (r.map λx=> .int (if x≠0 then 1 else 0))) (by rw [hT.len];omega) rfl (λR r=>⟨_,rfl,r⟩) (λr hr Q' q'=> ?_) ⟨h,Sub.refl h,?_⟩
 ·refine Dy r D.int (λx=> .int (if x≠0 then 1 else 0)) (by rw [hT.row r hr];omega) rfl (λR r=>⟨_,rfl,r⟩) (λx hx Q'' q''=>⟨_,rfl,?_⟩) q';show Q'' (.int (if decide (x>0)=true then 1 else 0)) h;have e:(if decide (x>0)=true then (1:Int) else 0)=if x≠0 then 1 else 0:=by
   have:=hT.nn r hr x hx
   by_cases z:x=0
   ·subst z;rfl
   ·rw [if_pos z,if_pos (decide_eq_true (by omega))]
  rw [e];exact q''
 ·rw [Xf,<-Xg hT];exact q
def wN:RDn:=λds h Q=> ∃T,∃n e:Nat,ds= [jw T]/\Sq n e T/\1<=n/\n<=6/\Q (.bl (jy T)) h
theorem JB (Z:Zs mg)(F:Fun K "_law_filled" "_law_filled" zY f fd):FnOk P w K mg base CX0 (n+1) f fd ["_law_table"] (LSp K wN):=by
 refine F.okM wI (λhr=>(jI (wF (jc1 Di (we (Xl rfl) rfl Z.min (by decide +kernel) (j1 (jl0 1 wI (jQ (jv 0)) (λ_ _ _ _=>(we (Xl rfl) rfl Z.min (by decide +kernel) (j1 (jv 1))))))) jV)))) ?_;rintro ds h Q ⟨T,k,b,rfl,hT,h1,h6,q⟩;refine⟨rfl,?_⟩;have ne: ∀r∈T,r≠ []:=λr hr z=>by have:=hT.row r hr;rw [z] at this;simp at this;omega
 refine FY T zH vd (by rw [hT.len];omega) rfl (λR r=>⟨_,rfl,r⟩) (λr hr Q' q'=>⟨_,rfl,DB (ne r hr) λm m1 m2=>by rw [Xm m1 m2];exact q'⟩) ?_ (λm m1 m2=>⟨h,Sub.refl h,?_⟩)
 ·intro z;have:=hT.len;rw [z] at this;simp at this;omega
 ·show Q (.bl (decide (m>0))) h;rw [ZB hT ne m1 m2];exact q
theorem NJ {i k:Nat}{t1 t2:TED}{E:EndsD}{σ:SD}{d:D}(x:t1 (σ.set i (some d)) h λv h1=>t2 (σ.set i (some d)) h1 λw h2=>BQ v w h2 λu h3=>E.nx ((σ.set i (some d)).set k (some u)) h3):gN i d σ h (λgQ h2=>XY k (dOp BQ t1 t2) E gQ h2):=x
theorem Rb (m:Nat):((rwB m).map λr=>D.tup (r.map D.int++ [.int 0]))++((rwB m).map λr=>D.tup (r.map D.int++ [.int 1]))=(rwB (m+1)).map zH:=by
 rw [rwB,M6,R0,R0]
 congr 1<;>exact S5 λr _=>by show _=D.tup (W7 D.int _);rw [M6];rfl
theorem Gw (rs:List (List Int))(k:Nat):((zT rs k).flatMap λT=>rs.map λr=>D.tup (T.map zH++ [zH r]))=(zT rs (k+1)).map jw:=by
 show _=((zT rs k).flatMap _).map jw;rw [aO]
 congr 1
 funext T
 rw [R0];exact S5 λr _=>by show _=D.tup (W7 zH _);rw [M6];rfl
theorem XT {m:Nat}(h:m<=3):(rwB m).length<=8:=by rw [Yv];exact A7 (j:=3) (by decide) h
def vk:RDn:=λds h Q=> ∃s:Nat,ds= [.int (s:Int)]/\s<=3/\ ∀A h',h A=none->h' A=some ((yC s).map jw)->Sub h h'->Q (.lst A) h'
theorem WP (Z:Zs mg)(F:Fun K "_law_bits" "_law_bits" ye f fd):FnOk P w K mg base CX0 (n+1) f fd ["_law_size"] (LSp K vk):=by
 refine F.okM jj (λhr=>(js5 (jse 1 jj (QB (j1 (UY vY)))) (QC B9 rfl (jrg Z (jv 0)) (jgn 2 jj) (jI (jse 1 jj (jop zJ (jl0 6 jj (jQ (jv 1)) (λ_ _ _ _=>(jop zJ (jv 6) (UY (j1 jV))))) (jl0 6 jj (jQ (jv 1)) (λ_ _ _ _=>(jop zJ (jv 6) (UY (j1 jV))))))))) (jse 3 jj (QB (j1 (UY vY)))) (QC B9 rfl (jrg Z (jv 0)) (jgn 2 jj) (js3 (jse 4 jj (QB vY)) (QC B9 rfl (jQ (jv 3)) (jgn 5 jj) (jI (jse 4 jj (jop zJ (jv 4) (jl0 6 jj (jQ (jv 1)) (λ_ _ _ _=>(jop zJ (jv 5) (UY (j1 (jv 6)))))))))) (jse 3 jj (jv 4)))) (wF (jv 3)))) ?_;rintro ds h Q ⟨s,rfl,h3,q⟩;refine⟨rfl,?_⟩;refine jq (λgO h'=> ∃A,gO= [some (.int (s:Int)),some (.lst A),none,none,none,none,none]/\h A=none/\h' A=some ((rwB 0).map zH)/\Sub h h') (λC hC=>⟨sz0,sz1,λA eA=>hC _ _ ⟨A,rfl,eA,jd,Sub.new eA⟩⟩) ?_;rintro _ h1 ⟨A,rfl,fA,kA,sb⟩;refine jq (λgO h'=> ∃A a b,gO= [some (.int (s:Int)),some (.lst A),a,none,none,none,b]/\h' A=some ((rwB s).map zH)/\Sub h h') (λC hC=> ?_) ?_
 ·refine Yi (h1:=h1) s (λk gO h'=> ∃A a b,gO= [some (.int (s:Int)),some (.lst A),a,none,none,none,b]/\h' A=some ((rwB k).map zH)/\Sub h h') (by omega) (λR r=>⟨_,rfl,r⟩) ⟨A,none,none,rfl,kA,sb⟩ (λgO h' z=>hC _ _ z) ?_;clear kA sb fA;rintro k _ h2 hk ⟨A,a,b,rfl,kA,sb⟩;have l8:=XT (m:=k) (by omega);have ln: ∀r∈rwB k,(r.map D.int).length+1<=sizeLine:=λr hr=>by rw [G7,(XF hr).1];exact D9 (show k+1<=6 by omega) (by decide)
  refine NJ ?_;refine lcA (j:=λh=>h A) (rwB k) zH (λr=>D.tup (r.map D.int++ [.int 0])) (by omega) kA (λR r=>⟨_,rfl,r⟩) (λr hr Q' q'=>⟨_,rfl,sz1,ln r hr,q'⟩) (λF eF=>lcA (j:=λh=>h A) (rwB k) zH (λr=>D.tup (r.map D.int++ [.int 1])) (by omega) (jE kA eF) (λR r=>⟨_,rfl,r⟩) (λr hr Q' q'=>⟨_,rfl,sz1,ln r hr,q'⟩) (λG eG=>⟨_,_,jE jd eG,jd,?_,λB eB=>⟨_,Sub.refl _,hk,B,_,_,rfl,?_,Sub.newAt (Sub.newAt (Sub.newAt sb eF) eG) eB⟩⟩))
  ·rw [G7,G7];exact D9 (show _<=16 by omega) (by decide)
  ·rw [jd,Rb]
 clear kA sb fA;rintro _ h2 ⟨A,a,b,rfl,kA,sb⟩;refine jq (λgO h'=> ∃F,gO= [some (.int (s:Int)),some (.lst A),a,some (.lst F),none,none,b]/\h F=none/\h' F=some ((zT (rwB s) 0).map jw)/\h' A=some ((rwB s).map zH)/\Sub h h') (λC hC=>⟨sz0,sz1,λF eF=>hC _ _ ⟨F,rfl,zR sb eF,jd,jE kA eF,Sub.newAt sb eF⟩⟩) ?_;clear kA sb;rintro _ h3' ⟨F,rfl,fF,kF,kA,sb⟩;have l8:=XT h3;refine jq (λgO h'=> ∃F a b c d,gO= [some (.int (s:Int)),some (.lst A),a,some (.lst F),b,c,d]/\h F=none/\h' F=some ((zT (rwB s) s).map jw)/\Sub h h') (λC hC=> ?_) ?_
 ·refine Yi (h1:=h3') s (λk gO h'=> ∃F a b c d,gO= [some (.int (s:Int)),some (.lst A),a,some (.lst F),b,c,d]/\h F=none/\h' F=some ((zT (rwB s) k).map jw)/\h' A=some ((rwB s).map zH)/\Sub h h') (by omega) (λR r=>⟨_,rfl,r⟩) ⟨F,_,_,_,_,rfl,fF,kF,kA,sb⟩ (λgO h' ⟨F,a,b,c,d,es,fF,kF,_,sb⟩=>hC _ _ ⟨F,a,b,c,d,es,fF,kF,sb⟩) ?_;clear kF kA sb fF;rintro k _ h4 hk ⟨F,a,b,c,d,rfl,fF,kF,kA,sb⟩;have lf:=XO (k:=k) l8 (by omega);refine jq (λgO h'=> ∃G,gO= [some (.int (s:Int)),some (.lst A),some (.int (k:Int)),some (.lst F),some (.lst G),c,d]/\h G=none/\h' G=some []/\h' F=some ((zT (rwB s) k).map jw)/\h' A=some ((rwB s).map zH)/\Sub h h') (λC' hC'=>⟨sz0,λG eG=>hC' _ _ ⟨G,rfl,zR sb eG,jd,jE kF eG,jE kA eG,Sub.newAt sb eG⟩⟩) ?_;clear kF kA sb;rintro _ h5 ⟨G,rfl,fG,kG,kF,kA,sb⟩;refine jq (λgO h'=> ∃G c d,gO= [some (.int (s:Int)),some (.lst A),some (.int (k:Int)),some (.lst F),some (.lst G),c,d]/\h G=none/\h' G=some ((zT (rwB s) (k+1)).map jw)/\h' A=some ((rwB s).map zH)/\Sub h h') (λC' hC'=> ?_) ?_
  ·refine Vb (h1:=h5) (j:=λh=>h F) ((zT (rwB s) k).map jw) (λi gO h'=> ∃G c d,gO= [some (.int (s:Int)),some (.lst A),some (.int (k:Int)),some (.lst F),some (.lst G),c,d]/\h G=none/\h' G=some (((zT (rwB s) k).take i).flatMap λT=>(rwB s).map λr=>D.tup (T.map zH++ [zH r]))/\h' F=some ((zT (rwB s) k).map jw)/\h' A=some ((rwB s).map zH)/\Sub h h') (λR r=>⟨_,rfl,r⟩) (λ_ _ _ ⟨_,_,_,_,_,_,z,_⟩=>z) ⟨G,c,d,rfl,fG,kG,kF,kA,sb⟩ (λgO h' ⟨G,c,d,es,fG,kG,_,kA,sb⟩=>hC' _ _ ⟨G,c,d,es,fG,by rw [kG,G7,E7,Gw],kA,sb⟩) ?_;clear kF kA kG sb fG;rintro i d0 _ h6 hd ⟨G,c,d,rfl,fG,kG,kF,kA,sb⟩;rw [D1] at hd;obtain⟨T,hT,rfl⟩:=V1.mp hd;have il:i+1<=((zT (rwB s) k).map jw).length:=by rw [G7];exact(P4.mp hT).1
   have tl:=(vf _ (G8 hT)).1;have fl: ∀l:List (List (List Int)),(l.flatMap λT=>(rwB s).map λr=>D.tup (T.map zH++ [zH r])).length=(l.flatMap λ_=>rwB s).length:=λl=>by
    induction l with
    |nil=>rfl
    |cons x l ih=>rw [N9,N9,G3,G3,G7,ih]
   have sp:(zT (rwB s) k).flatMap (λ_=>rwB s)=((zT (rwB s) k).take i).flatMap (λ_=>rwB s)++((zT (rwB s) k).drop i).flatMap (λ_=>rwB s):=by rw [<-B7,D6]
   have sl:=congrArg bE sp;rw [G3] at sl;refine⟨_,rfl,lcA (j:=λh=>h A) (rwB s) zH (λr=>D.tup (T.map zH++ [zH r])) (by omega) kA (λR r=>⟨_,rfl,r⟩) (λr hr Q' q'=>⟨_,rfl,_,rfl,sz1,?_,q'⟩) (λM eM=>⟨_,_,jE kG eM,jd,?_,λN eN=>⟨_,Sub.refl _,il,N,_,_,rfl,zR (Sub.newAt sb eM) eN,?_,jE (jE kF eM) eN,jE (jE kA eM) eN,Sub.newAt (Sub.newAt sb eM) eN⟩⟩)⟩
   ·rw [G7,tl];exact D9 (show k+1<=6 by omega) (by decide)
   ·rw [fl,G7];exact D9 (show _<=1100 by omega) (by decide)
   ·rw [jd,T0,hT,B7];show _=some (_++List.flatMap _ [T]);rw [N9,List.flatMap_nil,C8]
  clear kF kA kG sb fG;rintro _ h6 ⟨G,c,d,rfl,fG,kG,kA,sb⟩;exact⟨_,rfl,_,Sub.refl _,hk,G,_,_,_,_,rfl,fG,kG,kA,sb⟩
 clear kF kA sb fF;rintro _ h4 ⟨F,a,b,c,d,rfl,fF,kF,sb⟩;exact⟨_,rfl,_,Sub.refl _,q F _ fF kF sb⟩
def vn:RDn:=λds h Q=> ∃T,∃n e:Nat,ds= [jw T]/\Sq n e T/\1<=n/\n<=6/\Q (.int (zS n T)) h
theorem WQ (Z:Zs mg)(F:Fun K "_law_soon" "_law_soon" yf f fd)(yI:jp P w K mg base n "_law_marked" ["_law_table"] wM)(ZR:jp P w K mg base n "_law_filled" ["_law_table"] wN)(WR:jp P w K mg base n "_law_times" ["_law_one","_law_other"] yG):FnOk P w K mg base CX0 (n+1) f fd ["_law_table"] (LSp K vn):=by
 refine F.okM zb (λhr=>(js4 (jse 1 zb (jk yI hr (j1 (jv 0)))) (jse 2 zb (jv 1)) (QC B9 rfl (Ci rfl Z.range (j2 jV (jop zJ (jop GM (jop GL (DQ Z (jv 0)) jV) jV) jV))) (jgn 3 zb) (js2 (Go (Ws (jk ZR hr (j1 (jv 2)))) (wF (jv 3))) (jse 2 zb (jk yI hr (j1 (jk WR hr (j2 (jv 2) (jv 1)))))))) (wF jV))) ?_;rintro ds h Q ⟨T,k,b,rfl,hT,h1,h6,q⟩;refine⟨rfl,?_⟩;have hM:Sq k 1 (ji k T):=Sq.mark T;refine ve [some (jw T),some (jw (ji k T)),none,none] (λC hC=>⟨_,rfl,T,k,b,rfl,hT,h6,hC⟩) ?_;refine ve [some (jw T),some (jw (ji k T)),some (jw (ji k T)),none] (λC hC=>⟨_,rfl,hC⟩) ?_;refine jq (λgO h'=>h=h'/\zS k T=0) (λC hC=> ?_) ?_
 ·have hm:(k-1)*(k-1)+1<1000000:=by
   have:=Z0 (show k-1<=5 by omega) (show k-1<=5 by omega);omega
  refine QP 1 ((k-1)*(k-1)+1) (λi gO h'=> ∃F a,gO= [some (jw T),some (jw (ji k T)),some (jw F),a]/\h=h'/\Sq k 1 F/\i<=(k-1)*(k-1)+1/\VT k (ji k T) ((k-1)*(k-1)+1-i) F (1+(i:Int))=zS k T) (by decide) (by decide) hm (λR r=>⟨_,rfl,⟨by decide,by decide,?_⟩,?_⟩) ⟨_,_,rfl,rfl,hM,S1 _,rfl⟩ ?_ ?_
  ·rw [G7,hT.len];omega
  ·have e:(((T.map zH).length:Int)-1)^gJ 2+2=1+(((k-1)*(k-1)+1:Nat):Int):=by
    rw [G7,hT.len];have:((T.length:Int))=T.length:=rfl;rcases (show k=1\/k=2\/k=3\/k=4\/k=5\/k=6 by omega) with e|e|e|e|e|e<;>subst e<;>rfl
   have r':R [.int 1,.int ((((T.map zH).length:Int)-1)^gJ 2+2)] h:=by rw [e];exact r
   exact r'
  ·rintro _ _ ⟨F,a,rfl,rfl,hF,hi,hs⟩;refine hC _ _ ⟨rfl,?_⟩;rw [aX] at hs;exact hs.symm
  ·rintro i _ _ hi ⟨F,a,rfl,rfl,hF,_,hs⟩;have em:(k-1)*(k-1)+1-i=((k-1)*(k-1)+1-(i+1))+1:=by omega
   rw [em] at hs;have hs':(if jy F=true then (1+(i:Int)) else VT k (ji k T) ((k-1)*(k-1)+1-(i+1)) (ji k (wm k F (ji k T))) (1+(i:Int)+1))=zS k T:=hs;refine jq (λgO h'=>gO= [some (jw T),some (jw (ji k T)),some (jw F),some (.int (1+(i:Int)))]/\h=h'/\jy F=false) (λC2 hC2=>⟨_,rfl,F,k,1,rfl,hF,h1,h6,_,rfl,Ma (λc=> ?_) (λc=>hC2 _ _ ⟨rfl,rfl,by simpa using c⟩)⟩) ?_
   ·rw [if_pos c] at hs';exact⟨_,rfl,h,Sub.refl h,by rw [hs'];exact q⟩
   rintro _ _ ⟨rfl,rfl,c⟩;rw [c,if_neg P3] at hs';refine⟨_,rfl,_,rfl,F,ji k T,k,1,1,rfl,hF,hM,by omega,h6,wm k F (ji k T),k,5,rfl,hF.mul hM (by omega),h6,_,Sub.refl _,by omega,_,_,rfl,rfl,Sq.mark _,by omega,?_⟩;rw [<-hs'];congr 1
 rintro _ _ ⟨rfl,z⟩;exact⟨h,Sub.refl h,by rw [<-z];exact q⟩
theorem Rc {A : Addr} {ns : List Int} {k : Int} {Q : KD} (kA : h A = some (ns.map D.int)) (q : Q (.bl (decide (k ∈ ns))) h) : inE false (.int k) (.lst A) h Q := by
  refine ⟨.int k, ns.map U1, rfl, .inl ⟨A, _, rfl, kA, yq h ns⟩, rfl, zP ns, by simp [X5], ?_⟩
  have : (false != List.any (ns.map U1) fun z => M8 z (.int k)) = decide (k ∈ ns) := by
    rw [Bool.false_bne, fT, B0, aL, decide_eq_true_iff]
    exact ⟨fun ⟨x, hx, e⟩ => (by have : x = k := by simpa [M8] using e
                                 exact this ▸ hx), fun hk => ⟨k, hk, by simp [M8]⟩⟩
  rw [this]; exact q
theorem Gx (ns:List Int)(k:Int):(ns.map U1).countP (λz=>M8 z (.int k))=ns.count k:=by
 rw [dS];refine cP λx _=> ?_
 simp [M8]
theorem GZ {s:Nat}(h1:1<=s)(h3:s<=3):ShowOk (.list ((VU s).map ZZ)):=by
 have c:s=1\/s=2\/s=3:=by omega
 rcases c with rfl|rfl|rfl
 ·rw [Ct];exact⟨by decide +kernel,by decide +kernel,by decide +kernel⟩
 ·rw [Cu];exact⟨by decide +kernel,by decide +kernel,by decide +kernel⟩
 ·rw [Cv];exact⟨by decide +kernel,by decide +kernel,by decide +kernel⟩
theorem ZP {A:Addr}{nss:List (List Int)}(k:h A=some (nss.map tI)):ToP h (.lst A) (.list (nss.map ZZ)):=⟨A,_,rfl,k,Jc h nss⟩
theorem NK (s:Nat):(((P2 7).filter λ(k:Nat)=>decide ((k:Int)∈(yC s).map (zS s))).map λ(k:Nat)=>D.tup [.int (k:Int),.int ((((yC s).map (zS s)).count (k:Int):Nat):Int)])=(VU s).map tI:=by
 unfold VU;rw [R0];rfl
def yH:RDn:=λds h Q=> ∃s:Nat,ds= [.int (s:Int)]/\1<=s/\s<=3/\ ∀h',Sub h h'->Q (.bl true) h'
theorem ZQ (Z:Zs mg)(F:Fun K "_law_right" "_law_right" wv f fd)(YE:jp P w K mg base n "_law_bits" ["_law_size"] vk)(YH:jp P w K mg base n "_law_soon" ["_law_table"] vn)(Zi:jp P w K mg base n "by_first" ["size"] Jo)(Jq:jp P w K mg base n "_law_same" ["_law_found","_law_due"] GU):FnOk P w K mg base CX0 (n+1) f fd ["_law_size"] (LSp K yH):=by
 refine F.okM jU (λhr=>(js6 (jse 1 jU (jl0 4 jU (jQ (jk YE hr (j1 (jv 0)))) (λ_ _ _ _=>(jk YH hr (j1 (jv 4)))))) (Nd (i:=5) (k:=2) (js:= [5]) rfl jU.nd rfl (K2 rfl) (wB (by rfl)) (jrg Z jV) (by decide) rfl (by first|exact K2 rfl|exact V9 rfl) (λX' hX=>by obtain⟨C,s₀,H₀,ex,rfl⟩:=hX;exact Dw (Ds (Ch hr.units) (jv 5) (jv 1) (by with_unfolding_all rfl))) (λX' hX=>by obtain⟨C,s₀,H₀,ex,rfl⟩:=hX;exact(UY (j2 (jv 5) (Ld hr.units (jv 1) (jv 5)))))) (jse 3 jU (jk Zi hr (j1 (jv 0)))) (Go (Yj (Ws (jk Jq hr (j2 (jv 3) (jv 2))))) (wF jbl)) (VJ (Cg (jv 3) (UY vY))) (wF (jor (jc1 Di (jv 0) jV) (Nc (jk Jq hr (j2 (jk Zi hr (j1 (jv 0))) (jv 2)))))))) ?_;rintro ds h Q ⟨s,rfl,h1,h3,q⟩;refine⟨rfl,?_⟩;have few:=(ZH h3).2;refine jq (λgO h'=> ∃A,gO= [some (.int (s:Int)),some (.lst A),none,none,none,none]/\h' A=some (((yC s).map (zS s)).map D.int)/\Sub h h') (λC hC=> ?_) ?_
 ·refine Nw (yC s) jw (λT=>D.int (zS s T)) (λA h1=>h1 A=some ((yC s).map jw)/\Sub h h1) (by omega) (λR r=>⟨_,rfl,s,rfl,h3,λA h' fA kA sb=>r A h' ⟨kA,sb⟩⟩) (λA h1 z=>z.1) (λA h1' z T hT Q' q'=>⟨_,rfl,T,s,1,rfl,Gr hT,h1,by omega,q'⟩) (λA h1 z p ep=>hC _ _ ⟨p,rfl,by rw [jd,R0];rfl,Sub.newAt z.2 ep⟩)
 rintro _ h2 ⟨A,rfl,kA,sb⟩;refine jq (λgO h'=> ∃U,gO= [some (.int (s:Int)),some (.lst A),some (.lst U),none,none,none]/\h' U=some ((VU s).map tI)/\Sub h h') (λC hC=> ?_) ?_
 ·refine lcF (j:=λ_=>some ((P2 7).map λ(k:Nat)=>D.int (k:Int))) (P2 7) (λ(k:Nat)=>D.int (k:Int)) (λk=>D.tup [.int (k:Int),.int ((((yC s).map (zS s)).count (k:Int):Nat):Int)]) (λk=>decide ((k:Int)∈(yC s).map (zS s))) (by decide) rfl (λR r=>⟨7,rfl,by decide,by decide,r⟩) (λk hk Q' q'=>⟨_,rfl,_,rfl,Rc kA ⟨_,rfl,q'⟩⟩) (λk hk _ Q' q'=>⟨_,rfl,_,rfl,A,rfl,_,rfl,.int (k:Int),_,⟨A,_,rfl,kA,yq _ _⟩,rfl,rfl,zP _,by simp [X5],?_⟩) (λU eU=>hC _ _ ⟨U,rfl,by rw [jd,NK],Sub.newAt sb eU⟩);rw [Gx];exact⟨sz2,q'⟩
 clear kA sb;rintro _ h4 ⟨U,rfl,kU,sb⟩;refine jq (λgO h'=> ∃F,gO= [some (.int (s:Int)),some (.lst A),some (.lst U),some (.lst F),none,none]/\h' F=some ((VU s).map tI)/\h F=none/\F≠U/\h' U=some ((VU s).map tI)/\Sub h h') (λC hC=>⟨_,rfl,s,rfl,h1,h3,λF h' fF kF sb'=>hC _ _ ⟨F,rfl,kF,zR sb fF,yO kU fF,sb' _ _ kU,sb.trans sb'⟩⟩) ?_;clear kU sb;rintro _ h5 ⟨F,rfl,kF,fF,nF,kU,sb⟩;refine ve [some (.int (s:Int)),some (.lst A),some (.lst U),some (.lst F),none,none] (λC hC=>⟨_,rfl,_,rfl,_,_,_,rfl,ZP kF,ZP kU,GZ h1 h3,_,rfl,XX (hC)⟩) ?_;refine jq (λgO h'=>gO= [some (.int (s:Int)),some (.lst A),some (.lst U),some (.lst F),none,none]/\h' U=some ((VU s).map tI)/\Sub h h') (λC hC=>⟨_,rfl,_,rfl,sz0,_,kF,?_,hC _ _ ⟨rfl,yo (A1 nF) kU,sb.over fF⟩⟩) ?_
 ·have c:s=1\/s=2\/s=3:=by omega
  rcases c with rfl|rfl|rfl
  ·rw [Ct];decide
  ·rw [Cu];decide
  ·rw [Cv];decide
 clear kU kF sb;rintro _ h6 ⟨rfl,kU,sb⟩;refine⟨_,rfl,_,rfl,Ma (λ_=>⟨_,Sub.refl _,q _ sb⟩) λ_=>⟨_,rfl,s,rfl,h1,h3,λF2 h' fF2 kF2 sb'=>⟨_,rfl,_,_,_,rfl,ZP kF2,ZP (sb' _ _ kU),GZ h1 h3,_,Sub.refl _,q _ (sb.trans sb')⟩⟩⟩
theorem NL {i:Nat}(h:i<4): ∃s:Nat,atI [D.int 1,.int 2,.int 2,.int 3] (i:Int)=some (.int (s:Int))/\1<=s/\s<=3:=by
 match i,h with
 |0,_=>exact⟨1,rfl,by decide,by decide⟩
 |1,_=>exact⟨2,rfl,by decide,by decide⟩
 |2,_=>exact⟨2,rfl,by decide,by decide⟩
 |3,_=>exact⟨3,rfl,by decide,by decide⟩
theorem NM (Z:Zs mg)(F:Fun K "law" "law" VV f fd)(YF:jp P w K mg base n "_law_cell" ["_law_script","_law_k"] vi)(VW:jp P w K mg base n "_law_pen" ["_law_cell_here"] Jp)(wx:jp P w K mg base n "_law_right" ["_law_size"] yH)(YG:jp P w K mg base n "_law_draw" ["_law_pen_here","_law_many"] vj):FnOk P w K mg base CX0 (n+1) f fd ["_law_script"] (LSp K UT):=by
 refine F.okM XI (λhr=>(js2 (QC B9 rfl (Dv (jop zJ (QB (j1 (jk YF hr (j2 (jv 0) jV)))) (Nf (jv 0) (UZ jV) (UZ jV)))) (jgn 1 XI) (js2 (jse 2 XI (jk VW hr (j1 (jv 1)))) (Go (Yj (Ws (jk wx hr (j1 (ji1 (QB (j4 jV jV jV jV)) (jk YG hr (j2 (jv 2) jV))))))) (wF jbl)))) (wF (NW (jk wx hr (j1 jV)) (Nc (jk wx hr (j1 jV))))))) ?_;rintro ds h Q ⟨ns,rfl,hh,hns,q⟩;refine⟨rfl,?_⟩;refine jq (λgO h'=>True) (λC hC=> ?_) (λgO h3 hV=>⟨1,rfl,by decide,by decide,λh4 _=>⟨_,rfl,Px ⟨2,rfl,by decide,by decide,λh5 _=>⟨_,Sub.refl _,q h5⟩⟩⟩⟩);refine⟨_,rfl,ns,0,rfl,(by decide),λn0=>⟨sz1,λp1 e1=>⟨_,rfl,_,rfl,_,rfl,λp2 e2=>⟨_,_,jE jd e2,jd,?_,λp3 e3=>⟨p3,rfl,?_⟩⟩⟩⟩⟩
 ·have:(VI ns (some 1) (some 2)).length<=ns.length:=by unfold VI;rw [D4,S8];omega
  rw [G7];exact D8 (jP (by simp only [D5,T3];omega))
 generalize hcs:([D.int n0]++(VI ns (some 1) (some 2)).map D.int)=cs;have hint: ∀d∈cs,∃c,d= .int c:=λd hd=>by
  rw [<-hcs] at hd;rcases D0.mp hd with z|z
  ·exact⟨n0,G9.mp z⟩
  ·obtain⟨x,_,e⟩:=T1.mp z;exact⟨x,e.symm⟩
 refine vX cs (λi gO h'=> ∃a1 a2,gO= [some (.scr ns),a1,a2]/\h' p3=some cs) (λi gO h' ⟨_,_,_,k⟩=>k) ⟨_,_,rfl,jd⟩ (λgO h' _=>hC _ _ E9) ?_;rintro i d _ h4 hi ⟨b1,b2,rfl,k3⟩;obtain⟨c,rfl⟩:=hint d (G8 hi);have hil:i<cs.length:=(P4.mp hi).1;show vq _ _ _ [some (.scr ns),some (.int c),b2] h4;refine jq (λgO h'=> ∃p l fl,gO= [some (.scr ns),some (.int c),some (.lst p)]/\h' p=some [.int l,.int fl]/\0<=l/\h' p3=some cs/\p3≠p) (λC hC=> ?_) ?_
 ·refine⟨_,rfl,c,rfl,λp l fl ep l0 _=>hC _ _ ⟨p,l,fl,rfl,jd,l0,jE k3 ep,A1 (yO k3 ep)⟩⟩
 rintro _ h5 ⟨p,l,fl,rfl,kp,l0,k3,n3⟩;refine⟨sz4,λq1 f1=>⟨_,rfl,p,l,fl,4,rfl,jE kp f1,l0,by decide,by decide,λr l' r0 r4 l0'=> ?_⟩⟩;obtain⟨r,rfl⟩:=Int.eq_ofNat_of_zero_le r0;obtain⟨s,hs,s1,s3⟩:=NL (i:=r) (by omega);exact⟨_,_,yo (yO kp f1) jd,hs,s,rfl,s1,s3,λh' sb=>⟨_,rfl,XX ⟨_,Sub.refl _,hil,_,_,rfl,sb _ _ (yo n3 (jE k3 f1))⟩⟩⟩
end
theorem NN {l:PySem.W.OpenLaw}{w:T4}{K:PySem.W.Frag}{h:Heap}{mg:Str->Option G0}{fa:Addr}(X:K.In h)(G:h.Ns mainGlobals mg)(hfa:mg "law" =some (.ref fa))
 (d0:DefIn K "is_whole" yS fu0 eu0)
 (d1:DefIn K "is_within" wY fu1 eu1)
 (d2:DefIn K "is_table_row" zF fu2 eu2)
 (d3:DefIn K "has_table_form" ze fu3 eu3)
 (d4:DefIn K "want_table" wr fu4 eu4)
 (d5:DefIn K "want_number" zU fu5 eu5)
 (d6:DefIn K "multiplied" wt fu6 eu6)
 (d7:DefIn K "full" XH fu7 eu7)
 (d8:DefIn K "marks" Yz fu8 eu8)
 (d9:DefIn K "marks_after" zV fu9 eu9)
 (d10:DefIn K "marks_and_return" jT fu10 eu10)
 (d11:DefIn K "all_marks" wZ fu11 eu11)
 (d12:DefIn K "first_power" zW fu12 eu12)
 (d13:DefIn K "all_rows" yT fu13 eu13)
 (d14:DefIn K "all_mark_tables" jY fu14 eu14)
 (d15:DefIn K "by_first" yU fu15 eu15)
 (d16:DefIn K "_law_cell" ya fu16 eu16)
 (d17:DefIn K "_law_pen" yV fu17 eu17)
 (d18:DefIn K "_law_draw" yb fu18 eu18)
 (d19:DefIn K "_law_same" yc fu19 eu19)
 (d20:DefIn K "_law_times" wu fu20 eu20)
 (d21:DefIn K "_law_marked" zX fu21 eu21)
 (d22:DefIn K "_law_filled" zY fu22 eu22)
 (d23:DefIn K "_law_bits" ye fu23 eu23)
 (d24:DefIn K "_law_soon" yf fu24 eu24)
 (d25:DefIn K "_law_right" wv fu25 eu25)
 (d26:DefIn K "law" VV fu26 eu26)
 {tk0:Tok}(v0:PySem.W.nsIn K mainGlobals "MOST_ROWS" =some (some (.int 6 tk0)))
 {tk1:Tok}(v1:PySem.W.nsIn K mainGlobals "MOST_LISTED" =some (some (.int 3 tk1)))
 (z:zsB K=true)
 : ∃fd:S7,(∀ (s:G2) (v:G0),dY s fd ⟨[v],[]⟩ [("_law_script",v)])/\ ∀base:Heap,K.In base->base.Ns mainGlobals mg->Bm mg base->FnOk l.prog w K mg base CX0 12 fa fd ["_law_script"] (LSp K UT):=by
 have e:=hfa.symm.trans (d26.nm X G);cases e;have yi: ∃tk,mg "MOST_ROWS" =some (.int 6 tk):=⟨_,PySem.W.mg_of X G v0⟩;have wa: ∃tk,mg "MOST_LISTED" =some (.int 3 tk):=⟨_,PySem.W.mg_of X G v1⟩;have Z:=Cp X G z;obtain⟨_,_,kV,dc,pm,an,cd,ct,_,rfl,_⟩:=d26.fn.ex;refine⟨PySem.W.fnOf "law" "law" (wk VV) (zc VV) (jc VV) .none kV dc pm an cd ct,λs v=> .of_eq rfl,λbase _ _ B=> ?_⟩;have Zj:=λn=>d0.cal l w base X G (YA (n:=n+0) Z d0.fn)
 have YS:=λn=>d1.cal l w base X G (WJ (n:=n+1) Z d1.fn (Zj (n+0)))
 have JD:=λn=>d2.cal l w base X G (Jm (n:=n+1) Z d2.fn (Zj (n+0)))
 have vx:=λn=>d3.cal l w base X G (yW (n:=n+2) Z d3.fn (JD (n+0)) yi)
 have vo:=λn=>d4.cal l w base X G (ZL (n:=n+3) Z d4.fn (vx (n+0)))
 have ZY:=λn=>d5.cal l w base X G (Jw (n:=n+2) Z d5.fn (YS (n+0)))
 have WV:=λn=>d6.cal l w base X G (ZM (n:=n+0) Z d6.fn)
 have NP:=λn=>d7.cal l w base X G (DV (n:=n+4) Z d7.fn (vo (n+0)))
 have XU:=λn=>d8.cal l w base X G (Gs (n:=n+4) Z d8.fn (vo (n+0)))
 have ZX:=λn=>d9.cal l w base X G (Jx (n:=n+5) Z d9.fn (XU (n+0)) (WV (n+4)))
 have yL:=λn=>d10.cal l w base X G (yh (n:=n+6) Z d10.fn (XU (n+1)) (ZX (n+0)))
 have YR:=λn=>d11.cal l w base X G (WK (n:=n+7) Z d11.fn (yL (n+0)))
 have ZW:=λn=>d12.cal l w base X G (Jy (n:=n+8) Z d12.fn (YR (n+0)) (NP (n+3)))
 have VY:=λn=>d13.cal l w base X G (YB (n:=n+0) Z d13.fn)
 have yZ:=λn=>d14.cal l w base X G (yF (n:=n+1) Z d14.fn (VY (n+0)))
 have VZ:=λn=>d15.cal l w base X G (YC (n:=n+9) Z d15.fn (ZY (n+6)) (yZ (n+7)) (ZW (n+0)) wa)
 have YM:=λn=>d16.cal l w base X G (WM (n:=n+0) Z d16.fn)
 have VX:=λn=>d17.cal l w base X G (YD (n:=n+0) Z d17.fn)
 have YN:=λn=>d18.cal l w base X G (WN (n:=n+0) Z d18.fn)
 have YO:=λn=>d19.cal l w base X G (WO (n:=n+0) Z d19.fn)
 have WU:=λn=>d20.cal l w base X G (ZO (n:=n+0) Z d20.fn)
 have ZV:=λn=>d21.cal l w base X G (Jz (n:=n+0) Z d21.fn)
 have ZU:=λn=>d22.cal l w base X G (JB (n:=n+0) Z d22.fn)
 have YL:=λn=>d23.cal l w base X G (WP (n:=n+0) Z d23.fn)
 have YQ:=λn=>d24.cal l w base X G (WQ (n:=n+1) Z d24.fn (ZV (n+0)) (ZU (n+0)) (WU (n+0)))
 have WT:=λn=>d25.cal l w base X G (ZQ (n:=n+10) Z d25.fn (YL (n+9)) (YQ (n+8)) (VZ (n+0)) (YO (n+9)))
 exact NM (n:=11) Z d26.fn (YM 10) (VX 10) (WT 0) (YN 10)
end My
namespace PySem.W.Fast
def tw8787440710972847054:=()
def tw15847389946982609460:=()
def tw8114906027989680229:=()
def tw780197123715576636:=()
def tw14752765667635156268:=()
def tw12711037503056481324:=()
def tw2275010249978338184:=()
def tw304966709476859879:=()
def tw8173305690757453753:=()
def tw15150286624211304800:=()
def tw7826021645142039214:=()
def tw18217773906492339364:=()
def tw15292853743914635306:=()
def tw16921760503059787307:=()
def tw3653071201389310082:=()
def tw6222284797824788027:=()
def tw16478460641271701123:=()
def tw10456397457408387770:=()
def tw7200902741237415433:=()
def tw7237668669616275888:=()
def tw8887846067110335643:=()
def tw6980179381278669209:=()
def tw12425713533626158263:=()
def tw8954791858536156211:=()
def tw16573346365445664192:=()
def tw14395512202110088110:=()
def tw7879836974077353265:=()
def tw1166096382950661995:=()
def tw11268824487465481573:=()
def tw6238579281791399444:=()
def tw11289721855148730484:=()
def tw15990660704869504869:=()
def tw11721968286008826017:=()
def tw5679213168644323614:=()
def tw2072061979946265985:=()
def tw6174522004474872000:=()
def tw7358749770030334279:=()
def tw4179953786354797492:=()
def tw2918021729587720648:=()
def tw7537306475555847396:=()
def tw18373826253995951825:=()
def tw18334700434784355639:=()
def tw13159875041329402049:=()
def tw7145372406935590927:=()
def tw113467807690649114:=()
def tw788148433556116533:=()
def tw6460475235207536709:=()
def tw14165626327310271599:=()
def tw6024908737191507076:=()
def tw13109599353563474801:=()
def tw16196763792898700543:=()
def tw14820892175199629031:=()
def tw14387999440199212960:=()
def tw2846495951280164889:=()
def tw8958678955103887515:=()
def tw6220670898586141868:=()
def tw2997012724839034769:=()
def tw2336232696434875995:=()
def tw11852988977561030629:=()
def tw14459011254328682869:=()
def tw12335811997264160890:=()
def tw14133177133775509823:=()
def tw10259299316182136432:=()
def tw8892196657307917970:=()
def tw6564891932902756102:=()
def tw2860236505726245834:=()
def tw11606197138122446568:=()
def tw10127360852356790878:=()
def tw15305955412168112782:=()
def tw5406858083852208473:=()
def tw13150957715507539854:=()
def tw4341350265875631791:=()
def tw11747107287933980323:=()
def tw5349574972939843379:=()
def tw16254866267503171500:=()
def tw7186309914425402478:=()
def tw2495141429652519229:=()
def tw9245541588858226048:=()
def tw2811641259304657026:=()
def tw12274332502545307671:=()
def tw14184340963156985157:=()
def tw12031606813779136420:=()
def tw13050853864568988570:=()
def tw10977971802191396259:=()
def tw15069608587560231374:=()
def tw9461378956488758591:=()
def tw6259547179120125592:=()
def tw7515023029724811616:=()
def tw14127704854581737917:=()
def tw12526481842221306346:=()
def tw1205974451224108568:=()
def tw16821764012076484875:=()
def tw10919801422599296882:=()
def tw7347738121732670520:=()
def tw6854775650452952372:=()
end PySem.W.Fast
open PySem PySem.W PyProof.Rows
set_option maxRecDepth 100000 in
set_option maxHeartbeats 0 in
theorem PySem.Challenge.cw_firstpowers_k60_tables_by_their_first_po_holds : PySem.Challenge.rw_firstpowers_k60_tables_by_their_first_po.Holds := by
  w_on; o_law; k_head; (case hw => w_witness2)
  k_fill
  refine L2.Qz (l := PySem.Challenge.rw_firstpowers_k60_tables_by_their_first_po) (k := 12) (x := "_law_script") rfl rfl ⟨rfl, by decide, by decide, rfl⟩ (fun w h Y => PySem.W.kIn_of Y) ?B ?F
  case B => intro w; kernel_rfl
  case F =>
    intro w mg fa h KX G hmg
    refine' My.NN KX G hmg ?d0 ?d1 ?d2 ?d3 ?d4 ?d5 ?d6 ?d7 ?d8 ?d9 ?d10 ?d11 ?d12 ?d13 ?d14 ?d15 ?d16 ?d17 ?d18 ?d19 ?d20 ?d21 ?d22 ?d23 ?d24 ?d25 ?d26 ?v0 ?v1 ?z
    case d0 | d1 | d2 | d3 | d4 | d5 | d6 | d7 | d8 | d9 | d10 | d11 | d12 | d13 | d14 | d15 | d16 | d17 | d18 | d19 | d20 | d21 | d22 | d23 | d24 | d25 | d26 => refine' L2.Nx ?a ?l ?c ?k; (case a => k_is); (case l => k_is); (case c => k_is); (case k => k_is)
    case v0 | v1 => k_is
    case z => kernel_rfl
