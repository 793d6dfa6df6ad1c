import PyProof.Rows.All
import Wide.All
import OpenK.AllK
import Wide.FinOn
import Lean
import PyProof.EqAt
import PyProof.EqKinds
import PyProof.TupleCall
import PyProof.Rows.TopTwo
import KE.KIsAll
import PyProof.ExcAttrAll.ValueError
import KE.KTryMore
import KE.KRevIter
import PyProof.SetRoads
import PySem.Challenge.RW_firstpowers_k27_the_beat
set_option Elab.async false
set_option linter.all false
set_option maxRecDepth 100000
set_option maxHeartbeats 8000000
abbrev G0:= @List.length_map
abbrev G1:= @PySem.Heap.get?_push_of_some
abbrev G2:= @List.getElem?_eq_getElem
abbrev G3:= @PySem.wpAny_pure
abbrev G5:= @Nat.le_refl
abbrev G6:= @List.length_append
abbrev G7:= @List.mem_singleton
abbrev G8:= @List.append_assoc
abbrev G9:= @List.mem_of_getElem?
abbrev P0:= @List.getElem?_eq_some_iff
abbrev P1:= @PySem.Heap.lt_size
abbrev P2:= @Array.length_toList
abbrev P3:= @List.mem_cons
abbrev P4:= @List.getElem?_map
abbrev P5:= @Bool.false_ne_true
abbrev P6:= @List.length_cons
abbrev P7:= @Nat.le_trans
abbrev P8:= @List.getElem?_append_right
abbrev P9:= @List.mem_cons_self
abbrev D0:= @PySem.Heap.get?_push_size
abbrev D1:= @List.mem_append
abbrev D2:= @List.mem_append_right
abbrev D3:= @List.size_toArray
abbrev D4:= @Nat.le_of_lt
abbrev D5:= @List.mem_cons_of_mem
abbrev D6:= @List.mem_range
abbrev D7:= @Nat.lt_of_lt_of_le
abbrev D8:= @List.length_take
abbrev D9:= @List.take_of_length_le
abbrev R0:= @PySem.wpAny_mono
abbrev R1:= @decide_eq_true
abbrev R3:= @Nat.ne_of_lt
abbrev R4:= @Array.getElem?_toList
abbrev R5:= @List.length_range
abbrev R6:= @List.getD_eq_getElem?_getD
abbrev R7:= @List.mem_map
abbrev R8:= @List.take_append_drop
abbrev R9:= @decide_eq_false
abbrev S0:= @List.getElem?_append_left
abbrev S4:= @List.map_append
abbrev S5:= @List.getElem?_cons_zero
abbrev S6:= @List.pairwise_append
abbrev S7:= @Nat.lt_irrefl
abbrev S8:= @List.length_nil
abbrev S9:= @Nat.zero_le
abbrev T3:= @List.length_drop
abbrev T4:= @List.getElem?_cons_succ
abbrev T5:= @Bool.and_eq_true
abbrev T6:= @PySem.Heap.get?_update_self
abbrev T7:= @List.not_mem_nil
abbrev T8:= @List.length_reverse
abbrev T9:= @List.map_cons
abbrev M0:= @Array.toList_append
abbrev M5:= @PySem.Heap.SameBut.update
abbrev M6:= @decide_eq_true_iff
abbrev M7:= @PySem.PassesOwn.never
abbrev M8:= @List.all_eq_true
abbrev M9:= @List.map_map
abbrev N0:= @List.mem_filter
abbrev N2:= @Option.some.injEq
abbrev N3:= @List.getElem_mem
abbrev N4:= @PySem.wpAny_holding
abbrev N5:= @List.pairwise_singleton
abbrev N6:= @List.getElem?_eq_none
abbrev N7:= @List.pairwise_iff_getElem
abbrev N8:= @of_decide_eq_true
abbrev N9:= @PySem.wpAny_setState_of
abbrev B0:= @List.pairwise_map
abbrev B1:= @Bool.false_eq_true
abbrev B2:= @List.nil_append
abbrev B3:= @List.mem_of_mem_drop
abbrev B6:= @PySem.boot_len
abbrev B7:= @List.append_nil
abbrev B8:= @List.map_congr_left
abbrev B9:= @List.mem_append_left
abbrev C0:= @List.mem_of_mem_take
abbrev C3:= @List.lookup_cons
abbrev C4:= @Option.some.inj
abbrev C5:= @Bool.eq_iff_iff
abbrev C6:= @Array.getElem?_eq_some_iff
abbrev C7:= @PySem.mem_of_lookup
abbrev C8:= @PySem.wpAny_call_entry
abbrev C9:= @List.range_succ
abbrev F4:= @List.take_add_one
abbrev F7:= @Array.toList_push
abbrev F8:= @List.getElem?_set_ne
abbrev F9:= @Option.map_eq_some_iff
abbrev H0:= @List.drop_eq_nil_of_le
abbrev L0:= @Nat.lt_of_le_of_ne
abbrev L5:= @List.filter_append
abbrev L6:= @List.nodup_cons
abbrev L7:= @List.length_filter_le
abbrev L8:= @Nat.add_sub_cancel'
abbrev L9:= @List.mem_reverse
abbrev O0:= @PySem.wpAny_truthy_bool
abbrev O3:= @PySem.wpAny_callSpecial?_slot
abbrev O4:= @List.filter_cons_of_pos
abbrev O5:= @List.filter_cons_of_neg
abbrev O6:= @List.pairwise_cons
abbrev O7:= @PySem.W.kia_one
abbrev O8:= @List.eq_nil_of_length_eq_zero
abbrev O9:= @List.getElem?_range
abbrev A0:= @Option.isSome_iff_exists
abbrev A1:= @List.drop_sublist
abbrev A2:= @Nat.pow_succ
abbrev A3:= @Nat.lt_of_le_of_lt
abbrev A4:= @List.getElem?_drop
abbrev A5:= @PySem.wpAny_execs_cons
abbrev A6:= @List.cons_append
abbrev A7:= @Nat.lt_succ_self
abbrev A8:= @Nat.lt_or_ge
abbrev A9:= @List.take_sublist
abbrev E1:= @PyProof.Rows.slot_tuple_getitem
abbrev E2:= @List.replicate_succ
abbrev E3:= @decide_eq_true_eq
abbrev E4:= @Int.toNat_natCast
abbrev E5:= @Nat.lt_of_succ_lt
abbrev E6:= @List.reverse_perm
abbrev E7:= @Array.getElem?_eq_getElem
abbrev E8:= @List.length_singleton
abbrev E9:= @Nat.zero_add
abbrev I0:= @PySem.wpAny_Call_Name_kw
abbrev J0:= @List.length_erase_of_mem
abbrev J4:= @beq_self_eq_true
abbrev J5:= @List.drop_append_of_le_length
abbrev J6:= @List.take_append_of_le_length
abbrev J7:= @PySem.codeAny_call_builtin
abbrev J8:= @List.getElem?_of_mem
abbrev J9:= @Nat.ne_of_gt
abbrev K0:= @Bool.eq_false_iff
abbrev K1:= @PyProof.Rows.callWith_type1
abbrev K2:= @PySem.codeAny_builtin
abbrev K3:= @List.getElem_of_mem
abbrev K4:= @List.getElem?_set_self
abbrev K5:= @List.length_pos_of_mem
abbrev K6:= @PySem.F.slot_tuple_iterator_next
abbrev K7:= @Nat.not_lt
abbrev K8:= @Nat.le_add_right
abbrev K9:= @List.mem_filterMap
abbrev Q0:= @Nat.le_of_eq
abbrev Q1:= @PySem.wpAny_pyIter_tuple
abbrev Q3:= @Decidable.byContradiction
abbrev Q4:= @List.drop_drop
abbrev Q5:= @Classical.byContradiction
abbrev Q6:= @PySem.W.hideAll_none
abbrev Q7:= @List.mem_erase_of_ne
abbrev Q8:= @PySem.Around.under_plainId
abbrev Q9:= @Array.toList_extract
abbrev U0:= @PySem.wpAny_newObj_type
abbrev U1:= @PySem.wpAny_passesOwn
abbrev U2:= @PySem.wpAny_pyIter_list
abbrev U3:= @List.getElem?_take_of_lt
abbrev U4:= @List.flatten_cons
abbrev U5:= @PySem.Heap.SameBut.refl
abbrev U6:= @Bool.or_eq_true
abbrev U7:= @Nat.min_eq_left
abbrev U8:= @Nat.not_lt_zero
abbrev U9:= @List.ext_getElem?
abbrev V0:= @PySem.W.hideAll_get
abbrev V1:= @List.length_eq_zero_iff
abbrev V2:= @PySem.F.plainAttrs_list
abbrev V3:= @PySem.wpAny_askSetting
abbrev V4:= @PySem.wpAny_call
abbrev V5:= @beq_iff_eq
abbrev V6:= @PySem.isSubtype_type
abbrev V7:= @PySem.W.cellsFrom_some
abbrev V8:= @Nat.div_div_eq_div_mul
abbrev V9:= @PyProof.Rows.boot_isinstance
abbrev W0:= @List.getElem_range
abbrev W1:= @PySem.wpAny_execs_nil
abbrev W3:= @PySem.codeAny_mono
abbrev W4:= @List.map_nil
abbrev W5:= @List.all_map
abbrev W6:= @List.perm_append_comm
abbrev W7:= @Nat.le_add_left
abbrev W8:= @List.getElem?_reverse
abbrev W9:= @Nat.add_zero
abbrev X0:= @Array.getD_eq_getD_getElem?
abbrev X1:= @exists_eq_left'
abbrev X2:= @PySem.wpAny_newFunctionEnv_cells
abbrev X3:= @Array.getElem?_eq_none_iff
abbrev X4:= @Array.getElem_toList
abbrev X5:= @PySem.Calls.call_function_entry
abbrev X6:= @Nat.min_le_right
abbrev X7:= @or_false
abbrev X8:= @List.mem_map_of_mem
abbrev X9:= @Nat.add_le_add_left
abbrev Y0:= @PySem.F.args_tuple_add_2
abbrev Y1:= @Nat.lt_trans
abbrev Y2:= @PySem.AutoSeq1.wpAny_loadPart'
abbrev Y3:= @PySem.SetTable.toList_insertAt
abbrev Y4:= @Nat.mod_lt
abbrev Y5:= @Array.size_setIfInBounds
abbrev Y6:= @PySem.wpAny_standAt
abbrev Y7:= @PySem.Calls.spliced_cons
abbrev Y8:= @List.of_mem_zip
abbrev Y9:= @List.getElem?_replicate
abbrev Z0:= @List.zip_cons_cons
abbrev Z4:= @PySem.F.entry_tuple_add
abbrev Z5:= @List.forIn_cons
abbrev Z6:= @decide_eq_false_iff_not
abbrev Z7:= @Nat.pos_of_ne_zero
abbrev Z8:= @List.filter_nil
abbrev Z9:= @PySem.F.slot_tuple_add
abbrev G0a:= @Option.map_eq_none_iff
abbrev G0b:= @List.filter_eq_nil_iff
abbrev G0c:= @PySem.SetTable.insertAt_perm
abbrev G0d:= @List.getElem?_set
abbrev G0e:= @Nat.lt_of_succ_le
abbrev G0f:= @Nat.lt_succ_of_lt
abbrev G0g:= @List.nodup_append
abbrev G0h:= @Nat.succ_le_of_lt
abbrev G0i:= @Nat.sub_lt
abbrev G0j:= @PySem.Heap.size_push
abbrev G0k:= @Bool.and_false
abbrev G0l:= @PySem.codeAny_call_function
abbrev G0m:= @PyProof.Rows.callWith_builtin1
abbrev G0n:= @PySem.F.slot_tuple_lt
abbrev G0o:= @Nat.mul_comm
abbrev G0p:= @List.pairwise_reverse
abbrev G0q:= @Nat.pow_zero
abbrev G0r:= @Nat.succ_pos
abbrev G0s:= @List.take_length
abbrev G0t:= @List.any_eq_true
abbrev G0u:= @Nat.succ_le_succ
abbrev G0v:= @PySem.Around.frames_deeper
abbrev G0w:= @Array.toList_reverse
abbrev G0x:= @PySem.F.args_tuple_iterator_next_1
abbrev G0y:= @PySem.wpAny_rule
abbrev G0z:= @PySem.call_meets
abbrev G0A:= @beq_eq_false_iff_ne
abbrev G0B:= @List.filterMap_cons
abbrev G0C:= @List.foldl_cons
abbrev G0D:= @PySem.F.slot_int_rmul
abbrev G0E:= @PySem.F.entry_tuple_iterator_next
abbrev G0F:= @PySem.Heap.get?_update_ne
abbrev G0G:= @Int.emod_nonneg
abbrev G0H:= @PySem.Calls.Name_function_global
abbrev G0I:= @Int.fdiv_eq_ediv_of_nonneg
abbrev G0J:= @Int.fmod_eq_emod_of_nonneg
abbrev G0K:= @Array.isEmpty_eq_false_iff
abbrev G0L:= @List.length_eraseIdx_of_lt
abbrev G0M:= @Array.toList_setIfInBounds
abbrev G0N:= @PySem.W.of_hideAll
abbrev G0O:= @PyProof.Rows.assignInOrder_cons
abbrev G0P:= @PySem.W.callWith_K
abbrev G0Q:= @PySem.W.codeRec_of
abbrev G0R:= @of_decide_eq_false
abbrev G0S:= @Int.emod_lt_of_pos
abbrev G0T:= @PySem.wpAny_binaryOp_repeat_ref
abbrev G0U:= @List.getElem?_eq_none_iff
abbrev G0V:= @List.take_zero
abbrev G0W:= @List.getLastD_eq_getLast?
abbrev G0X:= @List.getLast?_eq_getElem?
abbrev G0Y:= @PySem.Calls.spliced_nil
abbrev G0Z:= @List.zip_nil_left
abbrev G00:= @Function.comp_def
abbrev G01:= @PySem.W.Looks.here
abbrev G02:= @Bool.not_eq_true'
abbrev G03:= @PySem.wpAny_storeSet_of
abbrev G04:= @Nat.lt_trichotomy
abbrev G05:= @List.mapM_toArray
abbrev G06:= @List.flatMap_cons
abbrev G07:= @PySem.F.args_tuple_lt_2
abbrev G08:= @PySem.wpAny_attempt
abbrev G09:= @PySem.F.slot_list_count
abbrev G1a:= @PySem.plainId_quiet
abbrev G1b:= @PySem.wpAny_newList
abbrev G1c:= @Nat.add_sub_cancel_left
abbrev G1d:= @Nat.add_assoc
abbrev G1e:= @PySem.noFill_tuple_add
abbrev G1f:= @Nat.le_of_not_lt
abbrev G1g:= @List.perm_middle
abbrev G1h:= @List.all_toArray
abbrev G1i:= @Int.natCast_emod
abbrev G1j:= @PySem.F.entry_tuple_lt
abbrev G1k:= @Array.getElem?_eq_none
abbrev G1l:= @List.length_replicate
abbrev G1m:= @PySem.wpAny_typeOf
abbrev G1n:= @PySem.codeAny_of_tree
abbrev G1o:= @PySem.W.kat_nil
abbrev G1p:= @Classical.em
abbrev G1q:= @PyProof.Rows.boot_all
abbrev G1r:= @if_false
abbrev G1s:= @PySem.typeIs_int
abbrev G1t:= @Array.mem_toList_iff
abbrev G1u:= @Bool.or_eq_false_iff
abbrev G1v:= @List.getLast?_concat
abbrev G1w:= @Nat.pow_le_pow_right
abbrev G1x:= @PySem.wpAny_bindName
abbrev G1y:= @List.drop_zero
abbrev G1z:= @List.drop_take
abbrev G1A:= @List.take_take
abbrev G1B:= @PyProof.Rows.lt_int
abbrev G1C:= @PySem.wpAny_field
abbrev G1D:= @List.length_pos_iff
abbrev G1E:= @List.reverse_append
abbrev G1F:= @List.take_succ_cons
abbrev G1G:= @List.map_id
abbrev G1H:= @List.flatMap_append
abbrev G1I:= @Nat.mul_add
abbrev G1J:= @Nat.div_one
abbrev G1K:= @Function.comp_apply
abbrev G1L:= @List.map_take
abbrev G1M:= @List.map_drop
abbrev G1N:= @Nat.mul_assoc
abbrev G1O:= @Nat.le_of_dvd
abbrev G1P:= @Bool.and_true
abbrev G1Q:= @PySem.wpAny_Name
abbrev G1R:= @PySem.wpAny_load
abbrev G1S:= @PySem.Walks.list
abbrev G1T:= @Nat.add_mul
abbrev G1U:= @Nat.pow_pos
namespace L2
open PySem PySem.Spec PyProof.Rows
abbrev Key:=Sum Int Str
def OT:Key->Value->Bool
 | .inl k,v=>Value.isInt k v
 | .inr x,v=>Value.isStrOf x v
def Ky (w:World):Key->Int
 | .inl k=>hashInt k
 | .inr x=>hashStr w x
theorem jU: ∀ {k:Key} {v:Value},OT k v=true->(∃i t,k=Sum.inl i/\v=Value.int i t)\/(∃x t,k=Sum.inr x/\v=Value.str x t)
 | .inl i,v,h=>by
  obtain⟨t,e⟩:=Value.isInt_shape (k:=i) (v:=v) h;exact .inl ⟨i,t,rfl,e⟩
 | .inr x,v,h=>by
  obtain⟨t,e⟩:=Value.isStrOf_shape (x:=x) (v:=v) h;exact .inr ⟨x,t,rfl,e⟩
theorem OU (a b:Int):decide ((Sum.inl a:Key)=Sum.inl b)=(a==b):=by
 by_cases e:a=b
 ·subst e;simp
 ·have h: ¬ (Sum.inl a:Key)=Sum.inl b:=λq=>e (Sum.inl.inj q)
  rw [R9 h];exact(G0A.mpr e).symm
theorem OV (a b:Str):decide ((Sum.inr a:Key)=Sum.inr b)=decide (a=b):=by
 by_cases e:a=b
 ·subst e;simp
 ·have h: ¬ (Sum.inr a:Key)=Sum.inr b:=λq=>e (Sum.inr.inj q)
  rw [R9 h,R9 e]
theorem OW (a:Int)(b:Str):decide ((Sum.inl a:Key)=Sum.inr b)=false:=R9 (λq=>nomatch q)
theorem OX (a:Str)(b:Int):decide ((Sum.inr a:Key)=Sum.inl b)=false:=R9 (λq=>nomatch q)
def PZ (prog:Program)(w:World):PySem.KeyKind prog w Key where
 is:=OT
 hash:=Ky w
 inj:=λv a b ha hb=>by
  rcases jU ha with ⟨i,t,rfl,rfl⟩|⟨x,t,rfl,rfl⟩
  ·rcases jU hb with ⟨j,u,rfl,e⟩|⟨y,u,rfl,e⟩
   ·injection e with e1 _;rw [e1]
   ·exact nomatch e
  ·rcases jU hb with ⟨j,u,rfl,e⟩|⟨y,u,rfl,e⟩
   ·exact nomatch e
   ·injection e with e1 _;rw [e1]
 byValue:=λk v h=>by
  rcases jU h with ⟨i,t,rfl,rfl⟩|⟨x,t,rfl,rfl⟩<;>rfl
 pyHash:=λhv h=>by
  rcases jU hv with ⟨i,t,rfl,rfl⟩|⟨x,t,rfl,rfl⟩
  ·exact wpAny_pyHash_int h
  ·exact wpAny_pyHash_str h
 eqBool:=λhu hv h=>by
  rcases jU hu with ⟨i,t,rfl,rfl⟩|⟨x,t,rfl,rfl⟩
  ·rcases jU hv with ⟨j,u,rfl,rfl⟩|⟨y,u,rfl,rfl⟩
   ·rw [OU] at h;exact wpAny_eqBool_int h
   ·rw [OW] at h;exact SeqAt.EqAt.int_str i t y u _ _ _ _ h
  ·rcases jU hv with ⟨j,u,rfl,rfl⟩|⟨y,u,rfl,rfl⟩
   ·rw [OX] at h;exact SeqAt.EqAt.str_int x t j u _ _ _ _ h
   ·rw [OV] at h;exact wpAny_eqBool_str h
 «strs» :=λk x t v h=>by
  rcases jU h with ⟨i,u,rfl,e⟩|⟨y,u,rfl,e⟩
  ·exact nomatch e
  ·injection e with e1 _
   subst e1;cases v<;>rfl
inductive V where
 |non|bl (b:Bool)|int (i:Int)|str (x:Str)|byt (b:Array UInt8)|flt (b:UInt64)|ref (a:Addr)|ty (n:String)
 deriving DecidableEq
def RelV:V->Value->Prop
 | .non,u=>u=Value.none
 | .bl b,u=>u=Value.bool b
 | .int i,u=> ∃t,u=Value.int i t
 | .str x,u=> ∃t,u=Value.str x t
 | .byt b,u=> ∃t,u=Value.bytes b t
 | .flt b,u=> ∃t,u=Value.float b t
 | .ref a,u=>u=Value.ref a
 | .ty n,u=>u=Value.type n
abbrev Vals:List V->List Value->Prop:=Paired RelV
theorem Vals.length {xs:List V}{us:List Value}(r:Vals xs us):xs.length=us.length:=Paired.length r
theorem Vals.get: ∀ {xs:List V} {us:List Value} {i:Nat} {x:V},Vals xs us->xs[i]? =some x-> ∃u,us[i]? =some u/\RelV x u
 |_,_,_,_,.nil,e=>by simp at e
 |_,_,0,_,.cons r _,e=>by simp at e;subst e;exact⟨_,rfl,r⟩
 |_,_,i+1,x,.cons _ t,e=>by
  obtain⟨u,h1,h2⟩:=Vals.get (i:=i) (x:=x) t (by simpa using e);exact⟨u,by simpa using h1,h2⟩
variable {u:Value}
theorem Vals.set {x:V}(r:RelV x u): ∀ {xs:List V} {us:List Value} (i:Nat),Vals xs us->Vals (xs.set i x) (us.set i u)
 |_,_,_,.nil=> .nil
 |_,_,0,.cons _ t=> .cons r t
 |_,_,i+1,.cons q t=> .cons q (Vals.set r i t)
theorem Vals.append: ∀ {xs ys:List V} {us ws:List Value},Vals xs us->Vals ys ws->Vals (xs++ys) (us++ws)
 |_,_,_,_,.nil,s=>s
 |_,_,_,_,.cons r t,s=> .cons r (Vals.append t s)
theorem Vals.take: ∀ {xs:List V} {us:List Value} (n:Nat),Vals xs us->Vals (xs.take n) (us.take n)
 |_,_,0,_=> .nil
 |_,_,_+1,.nil=> .nil
 |_,_,n+1,.cons r t=> .cons r (Vals.take n t)
theorem Vals.drop: ∀ {xs:List V} {us:List Value} (n:Nat),Vals xs us->Vals (xs.drop n) (us.drop n)
 |_,_,0,r=>r
 |_,_,_+1,.nil=> .nil
 |_,_,n+1,.cons _ t=>Vals.drop n t
def Te:Option V->Option Value->Prop
 |some v,some u=>RelV v u
 |none,none=>True
 |_,_=>False
def KV {κ:Type}:List (κ×V)->List (κ×Value)->Prop:=Paired λ(p:κ×V) (q:κ×Value)=>p.1=q.1/\RelV p.2 q.2
def kV:Key->V
 | .inl i=> .int i
 | .inr x=> .str x
inductive HO where
 /-- a list -/
 |lst (xs:List V)
 /-- a tuple (never changes) -/
 |tup (xs:List V)
 /-- a dict whose keys are ints and texts;one whose keys are tuples of ints and texts (the empty one is both) -/
 |dK (kvs:List (Key×V))|dT (kvs:List (List Key×V))
 /-- a set of ints: its members,its size -/
 |set (S:Int->Bool) (n:Nat)
 /-- an instance of the class at C,its dict at dx,its attributes -/
 |ins (C dx:Addr) (fs:List (Str×V))
 /-- the dict of the instance at x -/
 |own (x:Addr)
 /-- the dict of an exception -/
 |xd (fs:List (Str×V))
 /-- a bound method,f of x -/
 |met (f x:Addr)
 /-- a range object lo,lo+1,.. below hi -/
 |rng (lo hi:Int)
 /-- a thing that is known to the object (the script;a dict while a loop walks it):read,never written while it is so -/
 |frz (o:Obj) (u:HO)
 /-- a code object's table -/
 |tbl (ps:Array Value)
 /-- any other thing,by what is true of its one object (a def of one's own: SetO a S n:=HO.ext λh=> ..) -/
 |ext (φ:Heap->Prop)
abbrev Hp:=Addr->Option HO
def upd (H:Hp)(a:Addr)(o:HO):Hp:=λb=>if b=a then some o else H b
variable {H:Hp}{a:Addr}{o:HO}
theorem jp:upd H a o a=some o:=by unfold upd;rw [if_pos rfl]
variable {b:Addr}
theorem jl (h:b≠a):upd H a o b=H b:=by unfold upd;rw [if_neg h]
theorem Da {u:HO}(h:H a=some o)(h':H b=some u)(d:o≠u):a≠b:=by
 intro e;subst e;rw [h] at h';exact d (C4 h')
theorem jq (h:H a=some o)(h':H b=none):a≠b:=by
 intro e;subst e;rw [h] at h';cases h'
def IsTupN (h:Heap)(a:Addr)(items:Array Value):Prop:= ∃o,h.get? a=some o/\o.cls= .type "tuple" /\o.dict=none/\ ∃n,o.data= .seq items n
theorem IsTupN.tup {h:Heap}{a:Addr}{items:Array Value}(x:IsTupN h a items):IsTup h a items:=let ⟨o,e,c,_,n,d⟩:=x;⟨o,e,c,n,d⟩
theorem IsTupN.new (h:Heap)(items:Array Value):IsTupN (h.push {cls:= .type "tuple",data:= .seq items}) h.objs.size items:=⟨_,D0 _ rfl,rfl,rfl,_,rfl⟩
section
variable (P:Program)(w:World)
def ObjOk (H:Hp)(h:Heap)(a:Addr):HO->Prop
 | .lst xs=>xs.length<=sizeLine/\ ∃ (its:List Value) (n:Nat),Vals xs its/\h.get? a=some {cls:= .type "list",data:= .seq its.toArray n}
 | .tup xs=>xs.length<=sizeLine/\ ∃its:List Value,Vals xs its/\IsTupN h a its.toArray
 | .dK kvs=>kvs.length<=sizeLine/\(a==sysModules)=false/\ ∃vs,KV kvs vs/\h.DictOf (PZ P w) a vs
 | .dT kvs=>kvs.length<=sizeLine/\(a==sysModules)=false/\ ∃xs:List (List Key×Addr×Value),
  Paired (λ(p:List Key×V) (q:List Key×Addr×Value)=>p.1=q.1/\H q.2.1=some (.tup (p.1.map kV))/\RelV p.2 q.2.2) kvs xs/\
  ∃o es ep,h.get? a=some o/\o.ExactDict/\o.data= .dict es ep/\es.toList=xs.map (entryOfKey (tupleKind (PZ P w)))/\(xs.map (·.1)).Nodup
 | .set S n=>h.SetOf (intKind P w) a S n
 | .ins C dx fs=>H dx=some (.own a)/\fs.length<=1000/\dx≠a/\h.get? a=some (PySem.W.instObj C dx)/\
  ∃mA,h.Ns1 dx mA/\(∀f,Te (fs.lookup f) (mA f))/\PySem.Within mA (fs.map (·.1))
 | .own _=> ∃o,h.get? a=some o
 | .xd fs=> ∃mA,h.Ns1 a mA/\ ∀f,Te (fs.lookup f) (mA f)
 | .rng lo hi=> ∃t u v,h.get? a=some {cls:= .type "range",data:= .fields #[.int lo t,.int hi u,.int 1 v]}
 | .frz o u=>h.get? a=some o/\ObjOk H h a u
 | .tbl ps=>h.get? a=some {cls:= .none,data:= .fields ps}
 | .met f x=>h.get? a=some (PySem.W.methodObj (.ref f) (.ref x))
 | .ext φ=>φ h/\(∃o,h.get? a=some o)/\ ∀h1 h2:Heap,φ h1->(∀o,h1.get? a=some o->h2.get? a=some o)->φ h2
def HOk (H:Hp)(h:Heap):Prop:= ∀a o,H a=some o->ObjOk P w H h a o
end
section
variable {P:Program}{w:World}{H H':Hp}{h h':Heap}{a:Addr}{o:HO}
theorem ObjOk.lt (x:ObjOk P w H h a o):a<h.objs.size:=by
 cases o with
 |lst xs=>obtain⟨_,_,_,_,e⟩:=x;exact P1 e
 |tup xs=>obtain⟨_,_,_,p⟩:=x;exact p.tup.lt
 |dK kvs=>obtain⟨_,_,_,_,o,_,_,e,_⟩:=x;exact P1 e
 |dT kvs=>obtain⟨_,_,_,_,o,_,_,e,_⟩:=x;exact P1 e
 |set S n=>obtain⟨o,_,_,_,e,_⟩:=x;exact P1 e
 |ins C dx fs=>obtain⟨_,_,_,e,_⟩:=x;exact P1 e
 |own y=>obtain⟨_,e⟩:=x;exact P1 e
 |xd fs=>obtain⟨_,⟨_,_,_,e,_⟩,_⟩:=x;exact P1 e
 |rng lo hi=>obtain⟨_,_,_,e⟩:=x;exact P1 e
 |frz ob u=>obtain⟨e,_⟩:=x;exact P1 e
 |tbl ps=>exact P1 (show h.get? a=some _ from x)
 |met f y=>exact P1 (show h.get? a=some _ from x)
 |ext φ=>obtain⟨_,⟨_,e⟩,_⟩:=x;exact P1 e
theorem Paired.mapP {α β:Type}{F G:α->β->Prop}: ∀ {l₁:List α} {l₂:List β},Paired F l₁ l₂->(∀a b,F a b->G a b)->Paired G l₁ l₂
 |_,_,.nil,_=> .nil
 |_,_,.cons r t,f=> .cons (f _ _ r) (Paired.mapP t f)
theorem ObjOk.stay (x:ObjOk P w H h a o)(k: ∀b u,(b=a\/H b=some (.own a))->h.get? b=some u->h'.get? b=some u)
 (ho: ∀b,H b=some (.own a)->H' b=some (.own a))(ht: ∀b xs,H b=some (.tup xs)->H' b=some (.tup xs)):ObjOk P w H' h' a o:=by
 induction o with
 |lst xs=>obtain⟨z,its,n,r,e⟩:=x;exact⟨z,its,n,r,k _ _ (.inl rfl) e⟩
 |tup xs=>obtain⟨z,its,r,ob,e,c⟩:=x;exact⟨z,its,r,ob,k _ _ (.inl rfl) e,c⟩
 |dK kvs=>obtain⟨z,y,vs,r,ob,es,ep,e,c⟩:=x;exact⟨z,y,vs,r,ob,es,ep,k _ _ (.inl rfl) e,c⟩
 |dT kvs=>
  obtain⟨z,y,xs,r,ob,es,ep,e,c⟩:=x;exact⟨z,y,xs,Paired.mapP r λp q z=>⟨z.1,ht _ _ z.2.1,z.2.2⟩,ob,es,ep,k _ _ (.inl rfl) e,c⟩
 |set S n=>obtain⟨ob,es,ep,t,e,c⟩:=x;exact⟨ob,es,ep,t,k _ _ (.inl rfl) e,c⟩
 |ins C dx fs=>
  obtain⟨d,z,ne,e,mA,⟨od,es,ep,e2,c⟩,r⟩:=x;exact⟨ho _ d,z,ne,k _ _ (.inl rfl) e,mA,⟨od,es,ep,k _ _ (.inr d) e2,c⟩,r⟩
 |own y=>obtain⟨ob,e⟩:=x;exact⟨ob,k _ _ (.inl rfl) e⟩
 |xd fs=>obtain⟨mA,⟨od,es,ep,e,c⟩,r⟩:=x;exact⟨mA,⟨od,es,ep,k _ _ (.inl rfl) e,c⟩,r⟩
 |rng lo hi=>obtain⟨t,u,v,e⟩:=x;exact⟨t,u,v,k _ _ (.inl rfl) e⟩
 |frz ob u ih=>obtain⟨e,q⟩:=x;exact⟨k _ _ (.inl rfl) e,ih q⟩
 |tbl ps=>
  have e:h.get? a=some {cls:= .none,data:= .fields ps}:=x;show h'.get? a=some {cls:= .none,data:= .fields ps};exact k a _ (.inl rfl) e
 |met f y=>
  have e:h.get? a=some (PySem.W.methodObj (.ref f) (.ref y)):=x;show h'.get? a=some (PySem.W.methodObj (.ref f) (.ref y));exact k a _ (.inl rfl) e
 |ext φ=>obtain⟨p,⟨o,e⟩,st⟩:=x;exact⟨st _ _ p λo q=>k _ _ (.inl rfl) q,⟨o,k _ _ (.inl rfl) e⟩,st⟩
theorem HOk.lt (x:HOk P w H h)(e:H a=some o):a<h.objs.size:=(x a o e).lt
theorem HOk.fresh (x:HOk P w H h)(e:h.objs.size<=a):H a=none:=by
 cases q:H a with
 |none=>rfl
 |some u=>exact absurd (D7 (x.lt q) e) (S7 _)
theorem HOk.kept (x:HOk P w H h)(k: ∀b u,h.get? b=some u->h'.get? b=some u):HOk P w H h':=λa o e=>
 (x a o e).stay (λb u _ q=>k b u q) (λ_ q=>q) λ_ _ q=>q
theorem HOk.laid (x:HOk P w H h)(k: ∀b u,h.get? b=some u->h'.get? b=some u)(hp:h.objs.size<=a)(new:ObjOk P w (upd H a o) h' a o):HOk P w (upd H a o) h':=λb u e=>by
 have hn:=x.fresh hp
 by_cases hb:b=a
 ·subst hb;rw [jp] at e;cases e;exact new
 ·rw [jl hb] at e;exact(x b u e).stay (λc v _ q=>k c v q) (λc q=>by rw [jl (jq q hn)];exact q) λc xs q=>by rw [jl (jq q hn)];exact q
end
def Rd (H:Hp)(a:Addr)(u:HO):Prop:=H a=some u\/ ∃o,H a=some (.frz o u)
variable {P:Program}{w:World}{h:Heap}
theorem Rd.ok {u:HO}(r:Rd H a u)(x:HOk P w H h):ObjOk P w H h a u:=by
 rcases r with r|⟨o,r⟩
 ·exact x a u r
 ·obtain⟨_,q⟩:=x a _ r;exact q
def Mut:Option HO->Prop
 |some (.lst _)=>True
 |some (.dK _)=>True
 |some (.dT _)=>True
 |some (.set _ _)=>True
 |some (.ins _ _ _)=>True
 |some (.ext _)=>True
 |_=>False
section
variable {P:Program}{w:World}{H:Hp}{h h':Heap}{x e:Addr}{o':HO}
theorem HOk.write (ok:HOk P w H h)(mu:Mut (H x))(he:e=x\/H e=some (.own x))(k: ∀b u,b≠e->h.get? b=some u->h'.get? b=some u)(heo: ∃u,h'.get? e=some u)
 (new:ObjOk P w (upd H x o') h' x o'):HOk P w (upd H x o') h':=λb u q=>by
 have nown: ∀c y,H c=some (.own y)->c≠x:=λc y r z=>by subst z;rw [r] at mu;exact mu
 have ntup: ∀c xs,H c=some (.tup xs)->c≠x:=λc xs r z=>by subst z;rw [r] at mu;exact mu
 by_cases hb:b=x
 ·subst hb;rw [jp] at q;cases q;exact new
 ·rw [jl hb] at q
  by_cases hbe:b=e
  ·have q':H b=some (.own x):=by
    rcases he with z|z
    ·exact absurd (hbe.trans z) hb
    ·rw [hbe];exact z
   rw [q] at q';cases q';obtain⟨v,hv⟩:=heo;exact⟨v,by rw [hbe];exact hv⟩
  ·refine(ok b u q).stay (λc v hc r=>k c v ?_ r) (λc r=>by rw [jl (nown c b r)];exact r) λc xs r=>by rw [jl (ntup c xs r)];exact r
   rcases hc with rfl|hc
   ·exact hbe
   ·rintro rfl;rcases he with z|z
    ·exact nown c b hc z
    ·rw [hc] at z;cases z;exact hb rfl
end
structure Un (fs ex:List Addr)(H H':Hp)(h h':Heap):Prop where
 keep: ∀b o,h.get? b=some o->H b=none->b ∉ fs->b ∉ ex->h'.get? b=some o
 slot: ∀b o,h.get? b=some o->H b=none->b∈fs->b ∉ ex-> ∃sl,h'.get? b=some {o with slots:=sl}
 free: ∀b o,h.get? b=some o->H b=none->b ∉ ex->H' b=none
 there: ∀b o,h.get? b=some o->b ∉ ex-> ∃o',h'.get? b=some o'
 tups: ∀b xs,H b=some (.tup xs)->H' b=some (.tup xs)
 frzs: ∀b o u,H b=some (.frz o u)->H' b=some (.frz o u)
 tbls: ∀b ps,H b=some (.tbl ps)-> ∃more,H' b=some (.tbl (ps++more))
section
variable {fs fs' ex ex':List Addr}{H H1 H2:Hp}{h h1 h2 h':Heap}{a x e:Addr}{o:HO}
theorem Un.any (u:Un fs ex H H1 h h1){b:Addr}{ob:Obj}(q:h.get? b=some ob)(n:H b=none)(hx:b ∉ ex): ∃sl,h1.get? b=some {ob with slots:=sl}:=by
 by_cases hb:b∈fs
 ·exact u.slot b ob q n hb hx
 ·exact⟨ob.slots,u.keep b ob q n hb hx⟩
theorem Un.kept (k: ∀b u,h.get? b=some u->h'.get? b=some u):Un fs ex H H h h':=
 ⟨λb ob q _ _ _=>k b ob q,λb ob q _ _ _=>⟨ob.slots,k b ob q⟩,λ_ _ _ n _=>n,λb ob q _=>⟨ob,k b ob q⟩,λ_ _ q=>q,λ_ _ _ q=>q,λ_ ps q=>⟨#[],by rw [q];simp⟩⟩
theorem Un.refl:Un fs ex H H h h:=Un.kept λ_ _ q=>q
theorem Un.laid (k: ∀b u,h.get? b=some u->h'.get? b=some u)(hp:h.objs.size<=a)(hn:H a=none):Un fs ex H (upd H a o) h h' where
 keep:=λb u q _ _ _=>k b u q
 slot:=λb u q _ _ _=>⟨u.slots,k b u q⟩
 free:=λb u q n _=>by rw [jl (R3 (D7 (P1 q) hp))];exact n
 there:=λb u q _=>⟨u,k b u q⟩
 tups:=λb xs q=>by rw [jl (jq q hn)];exact q
 frzs:=λb u xs q=>by rw [jl (jq q hn)];exact q
 tbls:=λb ps q=>⟨#[],by rw [jl (jq q hn),q];simp⟩
theorem Un.write (mu:Mut (H x))(he:e=x\/H e=some (.own x))(k: ∀b u,b≠e->h.get? b=some u->h'.get? b=some u)(heo: ∃u,h'.get? e=some u):Un fs ex H (upd H x o) h h':=by
 have hx: ∀b,H b=none->b≠x:=λb n z=>by subst z;rw [n] at mu;exact mu
 have hb: ∀b,H b=none->b≠e:=λb n z=>by
  subst z;rcases he with r|r
  ·exact hx b n r
  ·rw [n] at r;cases r
 have hm: ∀b u,H b=some u-> ¬Mut (some u)->b≠x:=λb u q nm z=>by subst z;rw [q] at mu;exact nm mu
 refine⟨λb u q n _ _=>k b u (hb b n) q,λb u q n _ _=>⟨u.slots,k b u (hb b n) q⟩,λb u q n _=>by rw [jl (hx b n)];exact n,λb u q _=> ?_,
  λb xs q=>by rw [jl (hm b _ q λz=>z)];exact q,λb u xs q=>by rw [jl (hm b _ q λz=>z)];exact q,λb ps q=>⟨#[],by rw [jl (hm b _ q λz=>z),q];simp⟩⟩
 by_cases hbe:b=e
 ·subst hbe;exact heo
 ·exact⟨u,k b u hbe q⟩
end
def trk (h:Heap)(H:Hp):List Addr:=(List.range h.objs.size).filter λa=>(H a).isSome
def Nd (h:Heap)(H:Hp):Heap:=PySem.W.hideAll h (trk h H)
theorem Db (h:Heap)(H:Hp):(Nd h H).objs.size=h.objs.size:=PySem.W.hideAll_size _ _
theorem Yo {o:Obj}(e:h.get? b=some o)(n:H b=none):(Nd h H).get? b=some o:=
 V0 _ e λhm=>by
  have q:(H b).isSome=true:=(N0.mp hm).2;rw [n] at q;simp at q
theorem CV {o:Obj}(e:(Nd h H).get? b=some o):h.get? b=some o/\H b=none:=by
 have e':h.get? b=some o:=G0N (trk h H) e;refine⟨e',?_⟩;cases q:H b with
 |none=>rfl
 |some x=>
  have hm:b∈trk h H:=N0.mpr ⟨D6.mpr (P1 e'),by simp [q]⟩;have z:(Nd h H).get? b=none:=Q6 (trk h H) hm;rw [z] at e;cases e
def CY (g h:Heap)(L:Addr):List (Addr×Obj):=(List.range h.objs.size).filterMap λa=>if a=L\/(g.get? a).isSome=true then none else (h.get? a).map λo=>(a,o)
def rest (g h:Heap)(L d:Addr):List (Addr×Obj):=(CY g h L).filter λp=>decide (p.1≠d)
structure Mod (K:PySem.W.Frag)(mg:Str->Option Value)(base:Heap):Prop where
 kin:K.In base
 glob:base.Ns mainGlobals mg
 blt: ∃mb,base.Ns builtinsNs mb/\ ∀x:Str,x≠ "__name__" ->mb x=bootBuiltins x
 nolimit:base.NoLimit
structure Cx where
 prog:Program
 w:World
 K:PySem.W.Frag
 mg:Str->Option Value
 base:Heap
 A:Around
 N:List Str
 s₀:Shared
 H₀:Hp
 env:Env
 outer:List Env
 stack:List Env
 ex:List Addr
 fn:Str->Bool
 calm:Bool
 pn:List (Addr×Obj)
 xe:Value->Shared->Prop
def frs (l:List Env):List Addr:=l.filterMap (·.frame)
abbrev Cx.fs (X:Cx):List Addr:=frs X.outer
def Vis (sc:Scope)(x:Str):Prop:=sc.names.lookup x=some .local\/sc.names.lookup x=some .cell\/sc.names.lookup x=some .free
def Loc (sc:Scope)(x:Str):Prop:=sc.names.lookup x=some .local\/sc.names.lookup x=some .cell
def Kz (env:Env)(h:Heap)(m:Str->Option Value)(x:Str)(u:Value):Prop:=
 (env.kindOf x=some .local/\m x=some u)\/((env.kindOf x=some .cell\/env.kindOf x=some .free)/\ ∃c,env.cells.lookup x=some c/\h.IsCell c (some u))
structure Cx.Ok (X:Cx):Prop where
 mod:Mod X.K X.mg X.base
 kind:X.env.scope.kind= .function
 glob:X.env.globals=mainGlobals
 blt:X.env.builtins=builtinsNs
 above:X.s₀.heap.objs.size<=X.env.locals
 inj: ∀x y c,X.env.cells.lookup x=some c->X.env.cells.lookup y=some c->x=y
 has: ∀x,(X.env.kindOf x=some .cell\/X.env.kindOf x=some .free)-> ∃c,X.env.cells.lookup x=some c
 cab: ∀x c,X.fn x=true->X.env.cells.lookup x=some c->X.s₀.heap.objs.size<=c
 hd:X.calm=true->X.A.handled=none
 frames:X.A.frames=some X.stack
 stk:X.stack=X.outer\/(X.stack=X.env::X.outer/\X.env.frame=some X.env.locals)
 exf: ∀b∈X.ex,b≠X.env.locals/\ ∀x c,X.env.cells.lookup x=some c->c≠b
 bs: ∀b o,X.base.get? b=some o->X.s₀.heap.get? b=some o/\X.H₀ b=none
 bsz:X.base.objs.size<=X.s₀.heap.objs.size
 noex: ∀b o,X.base.get? b=some o->b ∉ X.ex
 exfs: ∀b∈X.ex,b ∉ X.fs
 funs:X.s₀.heap.FunFrames X.base X.outer
 frf: ∀b∈X.fs,X.H₀ b=none
structure Inv (X:Cx)(pins:List (Addr×Obj))(σ:List (Option V))(H:Hp)(s:Shared):Prop where
 ok:X.Ok
 os:s.os=X.s₀.os
 bare:AllBare s.gens
 base:Un X.fs X.ex X.H₀ H X.s₀.heap s.heap
 loc: ∃m,s.heap.Ns X.env.locals m/\ ∀ (i:Nat) (x:Str) (v:V),X.N[i]? =some x->σ[i]? =some (some v)->Vis X.env.scope x-> ∃u,RelV v u/\Kz X.env s.heap m x u
 cell: ∀x c,X.env.cells.lookup x=some c-> ∃v,s.heap.IsCell c v
 free:H X.env.locals=none
 freeC: ∀x c,X.env.cells.lookup x=some c->H c=none
 pin: ∀p∈X.pn++pins,s.heap.get? p.1=some p.2/\H p.1=none/\p.1≠X.env.locals/\p.1 ∉ X.fs/\ ∀v,p.2.data≠ .cell v
 hok:HOk X.prog X.w H s.heap
 len:σ.length=X.N.length
section
variable {X:Cx}{pins:List (Addr×Obj)}{σ:List (Option V)}{H H':Hp}{s:Shared}{h':Heap}
theorem Cx.Ok.nofr (ok:X.Ok){b:Addr}{o:Obj}(e:X.base.get? b=some o):b ∉ X.fs:=λhb=>by
 have:=(ok.funs.mem hb).1;rw [e] at this;cases this
theorem Inv.bs (I:Inv X pins σ H s): ∀b o,X.base.get? b=some o->s.heap.get? b=some o/\H b=none:=λb o e=>
 ⟨I.base.keep b o (I.ok.bs b o e).1 (I.ok.bs b o e).2 (I.ok.nofr e) (I.ok.noex b o e),I.base.free b o (I.ok.bs b o e).1 (I.ok.bs b o e).2 (I.ok.noex b o e)⟩
theorem Inv.bk (I:Inv X pins σ H s): ∀b o,X.base.get? b=some o->s.heap.get? b=some o:=λb o e=>(I.bs b o e).1
theorem Inv.mod (I:Inv X pins σ H s):Mod X.K X.mg X.base:=I.ok.mod
theorem Inv.kIn (I:Inv X pins σ H s):X.K.In s.heap:=I.ok.mod.kin.keeps I.bk
theorem Inv.lt (I:Inv X pins σ H s):X.env.locals<s.heap.objs.size:=let ⟨_,hn,_⟩:=I.loc;hn.lt
theorem Inv.sz (I:Inv X pins σ H s):X.s₀.heap.objs.size<=s.heap.objs.size:=P7 I.ok.above (D4 I.lt)
theorem Inv.nofs (I:Inv X pins σ H s){a:Addr}(h:s.heap.objs.size<=a):a ∉ X.fs:=λhb=>by
 obtain⟨_,o,ho,_⟩:=I.ok.funs.mem hb;exact absurd (D7 (P1 ho) (P7 I.sz h)) (S7 _)
theorem Inv.cne (I:Inv X pins σ H s): ∀x c,X.env.cells.lookup x=some c->c≠X.env.locals:=λx c e z=>by
 obtain⟨v,o,ho,hd⟩:=I.cell x c e;obtain⟨m,⟨o',es,ep,ho',hd',_⟩,_⟩:=I.loc;rw [z,ho'] at ho;cases ho;rw [hd'] at hd;cases hd
theorem Inv.funs (I:Inv X pins σ H s):s.heap.FunFrames X.base X.outer:=by
 have all: ∀ (l:List Env),(∀b∈frs l,b∈X.fs)->X.s₀.heap.FunFrames X.base l->s.heap.FunFrames X.base l:=by
  intro l
  induction l with
  |nil=>intro _ _;trivial
  |cons env r ih=>
   intro hs hl;obtain⟨hk,⟨L,o,hf,hn,ho,hd⟩,hr⟩:=hl;have hL:L∈X.fs:=hs L (by unfold frs;rw [List.filterMap_cons,hf];exact List.mem_cons_self);obtain⟨sl,e⟩:=I.base.slot L o ho (I.ok.frf L hL) hL λz=>I.ok.exfs L z hL
   exact⟨hk,⟨L,_,hf,hn,e,hd⟩,ih (λb hb=>hs b (by unfold frs;rw [List.filterMap_cons,hf];exact List.mem_cons_of_mem _ hb)) hr⟩
 exact all X.outer (λ_ hb=>hb) I.ok.funs
theorem Inv.stack (I:Inv X pins σ H s):s.heap.FunFrames X.base X.stack:=by
 rcases I.ok.stk with e|⟨e,hf⟩
 ·rw [e];exact I.funs
 ·rw [e];obtain⟨m,hn,_⟩:=I.loc;refine .cons (by rw [I.ok.kind];decide) hf hn ?_ I.funs;exact Heap.get?_none_of_le (P7 I.ok.bsz I.ok.above)
theorem Inv.stkSub (I:Inv X pins σ H s): ∀b∈frs X.stack,b∈X.env.locals::X.fs:=λb hb=>by
 rcases I.ok.stk with e|⟨e,hf⟩
 ·rw [e] at hb;exact D5 _ hb
 ·rw [e] at hb;unfold frs at hb;rw [G0B,hf] at hb;exact hb
theorem Inv.stkFree (I:Inv X pins σ H s): ∀b∈frs X.stack,H b=none:=λb hb=>by
 rcases P3.mp (I.stkSub b hb) with e|hb
 ·rw [e];exact I.free
 ·obtain⟨_,o,ho,_⟩:=I.ok.funs.mem hb;exact I.base.free b o ho (I.ok.frf b hb) λz=>I.ok.exfs b z hb
variable {t':Nat}
theorem Inv.step {g':Array GenState}{d':Drawn}{ch:List Addr}(I:Inv X pins σ H s)
 (hch: ∀b∈ch,(b∈X.ex\/X.s₀.heap.objs.size<=b)/\b≠X.env.locals/\(∀x c,X.env.cells.lookup x=some c->c≠b)/\ ∀p∈X.pn++pins,p.1≠b)
 (keep: ∀b o,b≠X.env.locals->b ∉ X.fs->b ∉ ch->s.heap.get? b=some o->H b=none->h'.get? b=some o)
 (slot: ∀b o,b≠X.env.locals->b∈X.fs->b ∉ ch->s.heap.get? b=some o->H b=none-> ∃sl,h'.get? b=some {o with slots:=sl})(free: ∀b o,b ∉ ch->s.heap.get? b=some o->H b=none->H' b=none)
 (there: ∀b o,b ∉ ch->s.heap.get? b=some o-> ∃o',h'.get? b=some o')
 (tups: ∀b xs,H b=some (.tup xs)->H' b=some (.tup xs))(frzs: ∀b o u,H b=some (.frz o u)->H' b=some (.frz o u))(tbls: ∀b ps,H b=some (.tbl ps)-> ∃more,H' b=some (.tbl (ps++more)))
 (ns: ∀m,s.heap.Ns X.env.locals m->h'.Ns X.env.locals m)(hok:HOk X.prog X.w H' h')(hg:AllBare g'):
 Inv X pins σ H' {s with heap:=h',gens:=g',drawn:=d',toks:=t'}:=by
 have neL: ∀b o,X.s₀.heap.get? b=some o->b≠X.env.locals:=λb o e=>R3 (D7 (P1 e) I.ok.above)
 have neC: ∀b o,X.s₀.heap.get? b=some o->b ∉ X.ex->b ∉ ch:=λb o e hx hb=>by
  rcases (hch b hb).1 with z|z
  ·exact hx z
  ·exact absurd (D7 (P1 e) z) (S7 _)
 have cellK: ∀x c,X.env.cells.lookup x=some c-> ∀v,s.heap.IsCell c v->h'.IsCell c v:=λx c e v ⟨o,ho,hd⟩=>by
  have nch:c ∉ ch:=λz=>(hch c z).2.2.1 x c e rfl
  by_cases hc:c∈X.fs
  ·obtain⟨sl,q⟩:=slot c o (I.cne x c e) hc nch ho (I.freeC x c e);exact⟨_,q,hd⟩
  ·exact⟨o,keep c o (I.cne x c e) hc nch ho (I.freeC x c e),hd⟩
 refine⟨I.ok,I.os,hg,⟨λb o e n hb hx=> ?_,λb o e n hb hx=> ?_,λb o e n hx=> ?_,λb o e hx=> ?_,λb xs e=>tups b xs (I.base.tups b xs e),λb o xs e=>frzs b o xs (I.base.frzs b o xs e),λb ps e=> ?_⟩,?_,λx c e=> ?_,?_,λx c e=> ?_,λp hp=> ?_,hok,I.len⟩
 ·exact keep b o (neL b o e) hb (neC b o e hx) (I.base.keep b o e n hb hx) (I.base.free b o e n hx)
 ·obtain⟨sl,e1⟩:=I.base.slot b o e n hb hx;obtain⟨sl',e2⟩:=slot b _ (neL b o e) hb (neC b o e hx) e1 (I.base.free b o e n hx);exact⟨sl',e2⟩
 ·obtain⟨o',e1⟩:=I.base.there b o e hx;exact free b o' (neC b o e hx) e1 (I.base.free b o e n hx)
 ·obtain⟨o',e1⟩:=I.base.there b o e hx;exact there b o' (neC b o e hx) e1
 ·obtain⟨m1,e1⟩:=I.base.tbls b ps e;obtain⟨m2,e2⟩:=tbls b _ e1;exact⟨m1++m2,by rw [e2,Array.append_assoc]⟩
 ·obtain⟨m,hn,hl⟩:=I.loc;refine⟨m,ns m hn,λi x v e1 e2 e3=> ?_⟩;obtain⟨u,r,l⟩:=hl i x v e1 e2 e3;refine⟨u,r,?_⟩;rcases l with l|⟨k,c,e,z⟩
  ·exact .inl l
  ·exact .inr ⟨k,c,e,cellK x c e _ z⟩
 ·obtain⟨v,z⟩:=I.cell x c e;exact⟨v,cellK x c e v z⟩
 ·obtain⟨m,⟨o,_,_,ho,_⟩,_⟩:=I.loc;exact free _ o (λz=>(hch _ z).2.1 rfl) ho I.free
 ·obtain⟨v,o,ho,hd⟩:=I.cell x c e;exact free c o (λz=>(hch c z).2.2.1 x c e rfl) ho (I.freeC x c e)
 ·obtain⟨e,n,ne,nf,d⟩:=I.pin p hp;have nch:p.1 ∉ ch:=λz=>(hch p.1 z).2.2.2 p hp rfl
  exact⟨keep p.1 p.2 ne nf nch e n,free p.1 p.2 nch e n,ne,nf,d⟩
theorem Inv.un (I:Inv X pins σ H s)(u:Un X.fs [] H H' s.heap h')(hok:HOk X.prog X.w H' h'):Inv X pins σ H' {s with heap:=h',toks:=t'}:=by
 obtain⟨m,⟨o,es,ep,ho,r⟩,_⟩:=id I.loc;obtain⟨sl,hL⟩:=u.any ho I.free (by simp);exact I.step (g':=s.gens) (d':=s.drawn) (ch:= []) (λ_ z=>nomatch z) (λb o _ hb _ e n=>u.keep b o e n hb (by simp)) (λb o _ hb _ e n=>u.slot b o e n hb (by simp)) (λb o _ e n=>u.free b o e n (by simp)) (λb o _ e=>u.there b o e (by simp)) u.tups u.frzs u.tbls (λm' hm=>by
  obtain⟨o',es',ep',ho',r'⟩:=hm;rw [ho] at ho';cases ho';exact⟨_,es',ep',hL,r'⟩) hok I.bare
theorem Inv.call {g':Array GenState}{d':Drawn}{ch:List Addr}(I:Inv X pins σ H s)(u:Un (frs X.stack) ch H H' s.heap h')(hok:HOk X.prog X.w H' h')(hg:AllBare g')
 (hch: ∀b∈ch,(b∈X.ex\/X.s₀.heap.objs.size<=b)/\b≠X.env.locals/\(∀x c,X.env.cells.lookup x=some c->c≠b)/\ ∀p∈X.pn++pins,p.1≠b):
 Inv X pins σ H' {s with heap:=h',gens:=g',drawn:=d',toks:=t'}:=by
 obtain⟨m,⟨o,es,ep,ho,r⟩,_⟩:=id I.loc;obtain⟨sl,hL⟩:=u.any ho I.free λz=>(hch _ z).2.1 rfl
 exact I.step (ch:=ch) hch (λb o hL hb hc e n=>u.keep b o e n (λz=>(P3.mp (I.stkSub b z)).elim hL hb) hc) (λb o _ _ hc e n=>u.any e n hc) (λb o hc e n=>u.free b o e n hc) (λb o hc e=>u.there b o e hc) u.tups u.frzs u.tbls (λm' hm=>by
  obtain⟨o',es',ep',ho',r'⟩:=hm;rw [ho] at ho';cases ho';exact⟨_,es',ep',hL,r'⟩) hok hg
theorem Inv.turned {it:Addr}(I:Inv X pins σ H s)(k: ∀b o,b≠it->s.heap.get? b=some o->h'.get? b=some o)(hn:H it=none)(hL:it≠X.env.locals)
 (h1:it∈X.ex\/X.s₀.heap.objs.size<=it)(h2: ∀x c,X.env.cells.lookup x=some c->c≠it)(h3: ∀p∈X.pn++pins,p.1≠it):Inv X pins σ H {s with heap:=h',toks:=t'}:=by
 have nit: ∀b u,H b=some u->b≠it:=λb u e z=>by rw [z,hn] at e;cases e
 refine I.step (g':=s.gens) (d':=s.drawn) (ch:= [it]) (λb hb=> ?_) (λb o _ _ hc e _=>k b o (λz=>hc (by simp [z])) e) (λb o _ _ hc e _=>⟨o.slots,k b o (λz=>hc (by simp [z])) e⟩) (λ_ _ _ _ n=>n)
  (λb o hc e=>⟨o,k b o (λz=>hc (by simp [z])) e⟩) (λ_ _ e=>e) (λ_ _ _ e=>e) (λb ps e=>⟨#[],by rw [e];simp⟩) (λm hm=> ?_) (λb u e=> ?_) I.bare
 ·have e:b=it:=by simpa using hb
  subst e;exact⟨h1,hL,h2,h3⟩
 ·obtain⟨o,es,ep,ho,r⟩:=hm;exact⟨o,es,ep,k _ o (Ne.symm hL) ho,r⟩
 ·refine(I.hok b u e).stay (λc v hc q=>k c v ?_ q) (λ_ q=>q) λ_ _ q=>q
  rcases hc with z|z
  ·rw [z];exact nit b u e
  ·exact nit c _ z
theorem Inv.tok (I:Inv X pins σ H s)(t:Nat):Inv X pins σ H {s with toks:=t}:=I.un (h':=s.heap) (t':=t) Un.refl I.hok
theorem Inv.kept (I:Inv X pins σ H s)(k: ∀b u,s.heap.get? b=some u->h'.get? b=some u):Inv X pins σ H {s with heap:=h',toks:=t'}:=I.un (Un.kept k) (I.hok.kept k)
theorem Inv.laid {a:Addr}{o:HO}(I:Inv X pins σ H s)(k: ∀b u,s.heap.get? b=some u->h'.get? b=some u)(hp:s.heap.objs.size<=a)(new:ObjOk X.prog X.w (upd H a o) h' a o):
 Inv X pins σ (upd H a o) {s with heap:=h',toks:=t'}:=I.un (Un.laid k hp (I.hok.fresh hp)) (I.hok.laid k hp new)
theorem Inv.write {x e:Addr}{o:HO}(I:Inv X pins σ H s)(mu:Mut (H x))(he:e=x\/H e=some (.own x))(k: ∀b u,b≠e->s.heap.get? b=some u->h'.get? b=some u)(heo: ∃u,h'.get? e=some u)
 (new:ObjOk X.prog X.w (upd H x o) h' x o):Inv X pins σ (upd H x o) {s with heap:=h',toks:=t'}:=I.un (Un.write mu he k heo) (I.hok.write mu he k heo new)
theorem Inv.weak {σ':List (Option V)}(I:Inv X pins σ H s)(hl:σ'.length=σ.length)(w: ∀ (i:Nat) v,σ'[i]? =some (some v)->σ[i]? =some (some v)):Inv X pins σ' H s:=
 ⟨I.ok,I.os,I.bare,I.base,let ⟨m,hn,hl'⟩:=I.loc;⟨m,hn,λi x v e1 e2 e3=>hl' i x v e1 (w i v e2) e3⟩,I.cell,I.free,I.freeC,I.pin,I.hok,hl.trans I.len⟩
theorem Inv.pins_of {pins':List (Addr×Obj)}(I:Inv X pins σ H s)(h: ∀p∈pins',s.heap.get? p.1=some p.2/\H p.1=none/\p.1≠X.env.locals/\p.1 ∉ X.fs/\ ∀v,p.2.data≠ .cell v):Inv X pins' σ H s:=
 ⟨I.ok,I.os,I.bare,I.base,I.loc,I.cell,I.free,I.freeC,λp hp=>(D1.mp hp).elim (λz=>I.pin p (B9 _ z)) (h p),I.hok,I.len⟩
theorem Yp {N:List Str}(hN:N.Nodup){i j:Nat}{x:Str}(a:N[i]? =some x)(b:N[j]? =some x):i=j:=by
 obtain⟨h1,e1⟩:=P0.mp a;obtain⟨h2,e2⟩:=P0.mp b;exact(List.getElem_inj hN).mp (e1.trans e2.symm)
theorem Dc {M:Model}{A:Around}{E:Value->Shared->Prop}{i:Nat}{x:Str}{v:V}{u:Value}{Q:Unit->Shared->Prop}(I:Inv X pins σ H s)(hN:X.N.Nodup)(hi:X.N[i]? =some x)(hx:Loc X.env.scope x)(r:RelV v u)
 (h: ∀s',Inv X pins (σ.set i (some v)) H s'->(∃a,Heap.SameBut a s.heap s'.heap/\(a=X.env.locals\/X.env.cells.lookup x=some a))->Q () s')(hf:X.fn x=true\/X.env.scope.names.lookup x=some .local:=by first|exact .inl rfl|exact .inr rfl|assumption):wpAny M A (storeName X.env x u) Q E s:=by
 obtain⟨m,hn,hl⟩:=id I.loc;have hcls:(X.env.scope.kind== .class||(X.env.scope.kind== .module&&X.env.locals !=X.env.globals))=false:=by rw [I.ok.kind];rfl
 have hiσ:i<σ.length:=by rw [I.len];exact(P0.mp hi).1
 have cne:=I.cne;have tracked: ∀ {a:Addr} {h':Heap},(∃o,s.heap.get? a=some o/\H a=none)->Heap.SameBut a s.heap h'->HOk X.prog X.w H h':=λ{a h'} ha hs b ob e=>by
  obtain⟨_,_,hfree⟩:=ha;refine(I.hok b ob e).stay (λc w' hc q=>(hs.2 c ?_).trans q) (λ_ q=>q) λ_ _ q=>q
  rintro rfl;rcases hc with rfl|hc
  ·rw [hfree] at e;cases e
  ·rw [hfree] at hc;cases hc
 rcases hx with hk|hk
 ·refine wpAny_storeName_local hk hn (λh' hn' hs=> ?_) hcls;obtain⟨oL,_,_,hoL,_⟩:=id hn;refine h _ ⟨I.ok,I.os,I.bare,⟨λb o e n hb hx=> ?_,λb o e n hb hx=> ?_,I.base.free,λb o e hx=> ?_,I.base.tups,I.base.frzs,I.base.tbls⟩,⟨_,hn',λj y v' e1 e2 e3=> ?_⟩,λy c e=> ?_,I.free,I.freeC,λp hp=> ?_,tracked ⟨oL,hoL,I.free⟩ hs,by simpa using I.len⟩ ⟨_,hs,.inl rfl⟩
  ·exact(hs.2 b (R3 (D7 (P1 e) I.ok.above))).trans (I.base.keep b o e n hb hx)
  ·obtain⟨sl,e1⟩:=I.base.slot b o e n hb hx;exact⟨sl,(hs.2 b (R3 (D7 (P1 e) I.ok.above))).trans e1⟩
  ·obtain⟨o',e1⟩:=I.base.there b o e hx;exact⟨o',(hs.2 b (R3 (D7 (P1 e) I.ok.above))).trans e1⟩
  ·by_cases hj:j=i
   ·subst hj;rw [hi] at e1;cases e1;rw [K4 hiσ] at e2;cases e2;exact⟨u,r,.inl ⟨hk,by simp⟩⟩
   ·rw [F8 (Ne.symm hj)] at e2;obtain⟨u',r',q⟩:=hl j y v' e1 e2 e3;refine⟨u',r',?_⟩;rcases q with ⟨k,e⟩|⟨k,c,e,z⟩
    ·refine .inl ⟨k,?_⟩;have:y≠x:=λe=>hj (Yp hN e1 (e ▸ hi))
     simp [this,e]
    ·exact .inr ⟨k,c,e,z.sameBut hs (cne y c e)⟩
  ·obtain⟨w',z⟩:=I.cell y c e;exact⟨w',z.sameBut hs (cne y c e)⟩
  ·obtain⟨e,n,ne,nf,d⟩:=I.pin p hp;exact⟨(hs.2 p.1 ne).trans e,n,ne,nf,d⟩
 ·have hfn:X.fn x=true:=by
   rcases hf with z|z
   ·exact z
   ·rw [z] at hk;cases hk
  obtain⟨c,hc⟩:=I.ok.has x (.inl hk);obtain⟨w',z⟩:=I.cell x c hc;refine wpAny_storeName_cell I.ok.kind hk hc z (λh' hc' hs=> ?_);obtain⟨oc,hoc,hocd⟩:=id z;refine h {s with heap:=h'} ⟨I.ok,I.os,I.bare,⟨λb o e n hb hx=> ?_,λb o e n hb hx=> ?_,I.base.free,λb o e hx=> ?_,I.base.tups,I.base.frzs,I.base.tbls⟩,⟨m,hn.sameBut hs (Ne.symm (cne x c hc)),λj y v' e1 e2 e3=> ?_⟩,λy c' e=> ?_,I.free,I.freeC,λp hp=> ?_,tracked ⟨oc,hoc,I.freeC x c hc⟩ hs,by simpa using I.len⟩ ⟨c,hs,.inr hc⟩
  ·exact(hs.2 b (R3 (D7 (P1 e) (I.ok.cab x c hfn hc)))).trans (I.base.keep b o e n hb hx)
  ·obtain⟨sl,e1⟩:=I.base.slot b o e n hb hx;exact⟨sl,(hs.2 b (R3 (D7 (P1 e) (I.ok.cab x c hfn hc)))).trans e1⟩
  ·obtain⟨o',e1⟩:=I.base.there b o e hx;exact⟨o',(hs.2 b (R3 (D7 (P1 e) (I.ok.cab x c hfn hc)))).trans e1⟩
  ·by_cases hj:j=i
   ·subst hj;rw [hi] at e1;cases e1;rw [K4 hiσ] at e2;cases e2;exact⟨u,r,.inr ⟨.inl hk,c,hc,hc'⟩⟩
   ·rw [F8 (Ne.symm hj)] at e2;obtain⟨u',r',q⟩:=hl j y v' e1 e2 e3;refine⟨u',r',?_⟩;rcases q with q|⟨k,c',e,z'⟩
    ·exact .inl q
    ·refine .inr ⟨k,c',e,z'.sameBut hs ?_⟩;rintro rfl;exact hj (Yp hN e1 (I.ok.inj _ _ _ e hc ▸ hi))
  ·by_cases hcc:c'=c
   ·subst hcc;exact⟨_,hc'⟩
   ·obtain⟨w2,z2⟩:=I.cell y c' e;exact⟨w2,z2.sameBut hs hcc⟩
  ·obtain⟨e,n,ne,nf,d⟩:=I.pin p hp;refine⟨(hs.2 p.1 ?_).trans e,n,ne,nf,d⟩;intro q;rw [q,hoc] at e;have q':oc=p.2:=C4 e;exact d w' (by rw [<-q'];exact hocd)
theorem wJ {M:Model}{A:Around}{E:Value->Shared->Prop}{i:Nat}{x:Str}{v:V}{u:Value}{Q:Unit->Shared->Prop}(I:Inv X pins σ H s)(hN:X.N.Nodup)(hi:X.N[i]? =some x)(hx:Loc X.env.scope x)(r:RelV v u)
 (h: ∀s',Inv X pins (σ.set i (some v)) H s'->Q () s')(hf:X.fn x=true\/X.env.scope.names.lookup x=some .local:=by first|exact .inl rfl|exact .inr rfl|assumption):wpAny M A (storeName X.env x u) Q E s:=
 Dc I hN hi hx r (λs' I' _=>h s' I') hf
theorem Inv.call' {s':Shared}{ch:List Addr}(I:Inv X pins σ H s)(ho:s'.os=s.os)(u:Un (frs X.stack) ch H H' s.heap s'.heap)(hok:HOk X.prog X.w H' s'.heap)(hg:AllBare s'.gens)
 (hch: ∀b∈ch,(b∈X.ex\/X.s₀.heap.objs.size<=b)/\b≠X.env.locals/\(∀x c,X.env.cells.lookup x=some c->c≠b)/\ ∀p∈X.pn++pins,p.1≠b):Inv X pins σ H' s':=by
 obtain⟨h',g',d',t',o'⟩:=s';have e:o'=s.os:=ho;subst e;exact I.call (g':=g') (t':=t') (d':=d') u hok hg hch
end
abbrev XK:=Value->Option Addr->Hp->Prop
abbrev St:=List (Option V)
abbrev VK:=V->Hp->Prop
abbrev TE:=St->Hp->VK->Prop
abbrev TT:=St->Hp->(Bool->Hp->Prop)->Prop
abbrev TA:=St->Hp->(List V->Hp->Prop)->Prop
structure Ends where
 nx:St->Hp->Prop
 rt:VK
 bk:St->Hp->Prop:=λ_ _=>False
 ct:St->Hp->Prop:=λ_ _=>False
abbrev TS:=Ends->St->Hp->Prop
def EP (X:Cx)(pins:List (Addr×Obj))(σ:St)(Q:VK)(u:Value)(s':Shared):Prop:= ∃v H',Inv X pins σ H' s'/\RelV v u/\Q v H'
def TP (X:Cx)(pins:List (Addr×Obj))(σ:St)(Q:Bool->Hp->Prop)(b:Bool)(s':Shared):Prop:= ∃H',Inv X pins σ H' s'/\Q b H'
def AP (X:Cx)(pins:List (Addr×Obj))(σ:St)(Q:List V->Hp->Prop)(us:List Value)(s':Shared):Prop:= ∃vs H',Inv X pins σ H' s'/\Vals vs us/\Q vs H'
def SP (X:Cx)(pins:List (Addr×Obj))(D:Ends)(f:Flow)(s':Shared):Prop:=
 match f with
 | .next=> ∃σ' H',Inv X pins σ' H' s'/\D.nx σ' H'
 | .brk=> ∃σ' H',Inv X pins σ' H' s'/\D.bk σ' H'
 | .cont=> ∃σ' H',Inv X pins σ' H' s'/\D.ct σ' H'
 | .ret u=> ∃v σ' H',Inv X pins σ' H' s'/\RelV v u/\D.rt v H'
def PE (X:Cx)(e:Expr)(t:TE):Prop:=
 ∀ (pins:List (Addr×Obj)) (s:Shared) (σ:St) (H:Hp) (Q:VK),Inv X pins σ H s->t σ H Q->wpAny (model X.prog X.w) X.A (eval e X.env) (EP X pins σ Q) X.xe s
def PT (X:Cx)(e:Expr)(t:TT):Prop:=
 ∀ (pins:List (Addr×Obj)) (s:Shared) (σ:St) (H:Hp) (Q:Bool->Hp->Prop),Inv X pins σ H s->t σ H Q->wpAny (model X.prog X.w) X.A (isTrue e X.env (eval e X.env)) (TP X pins σ Q) X.xe s
def PW (X:Cx)(e:Expr)(t:TT):Prop:=
 ∀ (whole:Sem Value) (pins:List (Addr×Obj)) (s:Shared) (σ:St) (H:Hp) (Q:Bool->Hp->Prop),Inv X pins σ H s->t σ H Q->wpAny (model X.prog X.w) X.A (isTrue e X.env whole) (TP X pins σ Q) X.xe s
variable {X:Cx}
theorem PW.pt {e:Expr}{t:TT}(h:PW X e t):PT X e t:=h _
def PA (X:Cx)(es:List Expr)(t:TA):Prop:=
 ∀ (pos:Pos) (pins:List (Addr×Obj)) (s:Shared) (σ:St) (H:Hp) (Q:List V->Hp->Prop),Inv X pins σ H s->t σ H Q->wpAny (model X.prog X.w) X.A (spliced (backTo pos (starEach es X.env))) (AP X pins σ Q) X.xe s
def PS (X:Cx)(st:Stmt)(t:TS):Prop:=
 ∀ (pins:List (Addr×Obj)) (s:Shared) (σ:St) (H:Hp) (D:Ends),Inv X pins σ H s->t D σ H->wpAny (model X.prog X.w) X.A (exec st X.env) (SP X pins D) X.xe s
def PSs (X:Cx)(st:List Stmt)(t:TS):Prop:=
 ∀ (pins:List (Addr×Obj)) (s:Shared) (σ:St) (H:Hp) (D:Ends),Inv X pins σ H s->t D σ H->wpAny (model X.prog X.w) X.A (execs st X.env) (SP X pins D) X.xe s
variable {A:Around}{s:Shared}
theorem thn {α:Type}{t:Sem α}{Q Q':α->Shared->Prop}{M:Model}{E:Value->Shared->Prop}(h:wpAny M A t Q E s)(hQ: ∀a s,Q a s->Q' a s):wpAny M A t Q' E s:=R0 h hQ λ_ _ x=>x
section
variable {X:Cx}
def Tf (i:Nat):TE:=λσ H Q=> ∃v,σ[i]? =some (some v)/\Q v H
def tC (v:V):TE:=λ_ H Q=>Q v H
variable {x:Str}
theorem BV {i:Nat}{pos:Pos}(hN:X.N[i]? =some x)(hv:Vis X.env.scope x)(hd:(x==("__debug__" :Str))=false:=by decide)(hcd:(x==("__classdict__" :Str))=false:=by decide):PE X (.Name x pos) (Tf i):=by
 intro pins s σ H Q I h;obtain⟨v,e,h⟩:=h;obtain⟨m,hn,hl⟩:=I.loc;obtain⟨u,r,l⟩:=hl i x v hN e hv;have fin:EP X pins σ Q u s:=⟨v,H,I,r,h⟩;rcases l with ⟨hk,hm⟩|⟨hk,c,hc,hcell⟩
 ·exact G1Q (wpAny_loadName_local I.ok.kind hk hn hm fin) hd
 ·rcases hk with hk|hk
  ·exact G1Q (wpAny_loadName_cell I.ok.kind hk hc hcell fin) hd
  ·exact G1Q (wpAny_loadName_free I.ok.kind hk hc hcell fin hcd) hd
theorem pe_int {i j pos}:PE X (.Constant (.int i) j pos) (tC (.int i)):=λ_ _ _ H _ I h=>wpAny_Constant_int ⟨.int i,H,I.tok _,⟨_,rfl⟩,h⟩
theorem pe_bl {b j pos}:PE X (.Constant (.bool b) j pos) (tC (.bl b)):=λ_ _ _ H _ I h=>Constant_bool ⟨.bl b,H,I,rfl,h⟩
theorem pe_str {x j pos}:PE X (.Constant (.str x) j pos) (tC (.str x)):=λ_ _ _ H _ I h=>Calls.Constant_str ⟨.str x,H,I.tok _,⟨_,rfl⟩,h⟩
def Gl (X:Cx)(x:Str):Prop:=X.env.kindOf x=some .globalImplicit
variable {u:Value}
theorem Jb {E:Value->Shared->Prop}{pins:List (Addr×Obj)}{s:Shared}{σ:St}{H:Hp}{pos:Pos}{Q:Value->Shared->Prop}(I:Inv X pins σ H s)(hg:Gl X x)(hm:X.mg x=some u)(h:Q u s)
 (hd:(x==("__debug__" :Str))=false:=by decide):wpAny (model X.prog X.w) X.A (eval (.Name x pos) X.env) Q E s:=
 G0H I.ok.kind hg (Calls.loadGlobal_global (by rw [I.ok.glob];exact I.mod.glob.keeps I.bk) hm h) hd
theorem Zi {E:Value->Shared->Prop}{pins:List (Addr×Obj)}{s:Shared}{σ:St}{H:Hp}{pos:Pos}{Q:Value->Shared->Prop}(I:Inv X pins σ H s)(hg:Gl X x)(hm:X.mg x=none)(hv:bootBuiltins x=some u)(h:Q u s)
 (hn:x≠ "__name__" :=by decide)(hd:(x==("__debug__" :Str))=false:=by decide):wpAny (model X.prog X.w) X.A (eval (.Name x pos) X.env) Q E s:=by
 obtain⟨mb,h1,h2⟩:=I.mod.blt;exact G0H I.ok.kind hg (Calls.loadGlobal_builtin (by rw [I.ok.glob];exact I.mod.glob.keeps I.bk) hm (by rw [I.ok.blt];exact h1.keeps I.bk) ((h2 x hn).trans hv) h) hd
theorem De {v:V}{pos:Pos}(hg:Gl X x)(hm:X.mg x=some u)(r:RelV v u)(hd:(x==("__debug__" :Str))=false:=by decide):PE X (.Name x pos) (tC v):=
 λ_ _ _ H _ I h=>Jb I hg hm ⟨v,H,I,r,h⟩ hd
theorem Df {v:V}{pos:Pos}(hg:Gl X x)(hm:X.mg x=none)(hv:bootBuiltins x=some u)(r:RelV v u)(hn:x≠ "__name__" :=by decide)(hd:(x==("__debug__" :Str))=false:=by decide):PE X (.Name x pos) (tC v):=
 λ_ _ _ H _ I h=>Zi I hg hm hv ⟨v,H,I,r,h⟩ hn hd
variable {a b:Expr}{ta tb:TE}{pos:Pos}
theorem Nf (b:Expr){op:CmpOp}(h:op≠ .In)(h2:op≠ .NotIn):behindInMarks op b=false:=by
 have e1:(op==CmpOp.In)=false:=by cases op<;>first|rfl|exact absurd rfl h
 have e2:(op==CmpOp.NotIn)=false:=by cases op<;>first|rfl|exact absurd rfl h2
 cases b<;>simp [behindInMarks,e1,e2]
def tB (t:TE):TT:=λσ H Q=>t σ H λx H1=> ∃c,x= .bl c/\Q c H1
theorem OY {e:Expr}{t:TE}(h:PE X e t)(he: ∀whole,isTrue e X.env whole=(do let v <-whole;standAt e.pos;holding [v] (truthy v)):=by intro _;rfl):PT X e (tB t):=by
 intro pins s σ H Q I hw;refine isTrue_plain (thn (h pins s σ H _ I hw) λv s1 ⟨x,H1,I1,r1,q1⟩=> ?_) (he _);obtain⟨d,rfl,q⟩:=q1;cases r1;exact O0 ⟨H1,I1,q⟩
variable {tA tB':TT}{rest:List Expr}
def HL (t u:TT):TT:=λσ H Q=>t σ H λc H1=>if c=true then u σ H1 Q else Q false H1
def tOr (t u:TT):TT:=λσ H Q=>t σ H λc H1=>if c=true then Q true H1 else u σ H1 Q
def HM (t:TT):TT:=λσ H Q=>t σ H λc H1=>Q (!c) H1
theorem CZ (ha:PT X a tA):PW X (.BoolOp .And [a] pos) tA:=by
 intro wh pins s σ H Q I h;refine isTrue_and (thn (ha pins s σ H Q I h) λc s1 e=> ?_);cases c with
 |true=>exact isTrue_and_nil e
 |false=>exact e
theorem OZ (ha:PT X a tA):PW X (.BoolOp .Or [a] pos) tA:=by
 intro wh pins s σ H Q I h;refine isTrue_or (thn (ha pins s σ H Q I h) λc s1 e=> ?_);cases c with
 |false=>exact isTrue_or_nil e
 |true=>exact e
theorem Aa (ha:PT X a tA)(hb:PW X (.BoolOp .And (b::rest) pos) tB'):PW X (.BoolOp .And (a::b::rest) pos) (HL tA tB'):=by
 intro wh pins s σ H Q I h;refine isTrue_and (thn (ha pins s σ H _ I h) λc s1 ⟨H1,I1,q1⟩=> ?_);cases c with
 |true=>exact hb wh pins s1 σ H1 Q I1 q1
 |false=>exact⟨H1,I1,q1⟩
theorem Tg (ha:PT X a tA)(hb:PW X (.BoolOp .Or (b::rest) pos) tB'):PW X (.BoolOp .Or (a::b::rest) pos) (tOr tA tB'):=by
 intro wh pins s σ H Q I h;refine isTrue_or (thn (ha pins s σ H _ I h) λc s1 ⟨H1,I1,q1⟩=> ?_);cases c with
 |true=>exact⟨H1,I1,q1⟩
 |false=>exact hb wh pins s1 σ H1 Q I1 q1
theorem Ab (ha:PT X a tA):PT X (.UnaryOp .Not a pos) (HM tA):=by
 intro pins s σ H Q I h;exact isTrue_not (ha pins s σ H (λc H1=>Q (!c) H1) I h)
def Ac (ta tb:TE):TE:=λσ H Q=>ta σ H λx H1=> ∃c,x= .bl c/\if c=true then tb σ H1 Q else Q (.bl false) H1
def HN (ta tb:TE):TE:=λσ H Q=>ta σ H λx H1=> ∃c,x= .bl c/\if c=true then Q (.bl true) H1 else tb σ H1 Q
def Ad (ta:TE):TE:=λσ H Q=>ta σ H λx H1=> ∃c,x= .bl c/\Q (.bl (!c)) H1
theorem Ae {op}{t:TE}(h:PE X a t):PE X (.BoolOp op [a] pos) t:=λpins s σ H Q I hw=>BoolOp_one (h pins s σ H Q I hw)
theorem Af (ha:PE X a ta)(hb:PE X (.BoolOp .And (b::rest) pos) tb):PE X (.BoolOp .And (a::b::rest) pos) (Ac ta tb):=by
 intro pins s σ H Q I h;refine BoolOp_and (thn (ha pins s σ H _ I h) λv s1 ⟨x,H1,I1,r1,q1⟩=> ?_);obtain⟨c,rfl,q1⟩:=q1;cases r1;refine O0 ?_;cases c with
 |true=>exact hb pins s1 σ H1 Q I1 q1
 |false=>exact⟨.bl false,H1,I1,rfl,q1⟩
theorem Th (ha:PE X a ta)(hb:PE X (.BoolOp .Or (b::rest) pos) tb):PE X (.BoolOp .Or (a::b::rest) pos) (HN ta tb):=by
 intro pins s σ H Q I h;refine BoolOp_or (thn (ha pins s σ H _ I h) λv s1 ⟨x,H1,I1,r1,q1⟩=> ?_);obtain⟨c,rfl,q1⟩:=q1;cases r1;refine O0 ?_;cases c with
 |false=>exact hb pins s1 σ H1 Q I1 q1
 |true=>exact⟨.bl true,H1,I1,rfl,q1⟩
theorem Ag (ha:PE X a ta):PE X (.UnaryOp .Not a pos) (Ad ta):=by
 intro pins s σ H Q I h;refine UnaryOp_ (thn (ha pins s σ H _ I h) λv s1 ⟨x,H1,I1,r1,q1⟩=> ?_);obtain⟨c,rfl,q1⟩:=q1;cases r1;exact not_of (O0 ⟨.bl (!c),H1,I1,rfl,q1⟩)
def tIf (t:TT)(ta tb:TE):TE:=λσ H Q=>t σ H λc H1=>if c=true then ta σ H1 Q else tb σ H1 Q
theorem Ng {c:Expr}(hc:PT X c tA)(ha:PE X a ta)(hb:PE X b tb):PE X (.IfExp c a b pos) (tIf tA ta tb):=by
 intro pins s σ H Q I h;refine wpAny_IfExp (thn (hc pins s σ H _ I h) λd s1 ⟨H1,I1,q1⟩=> ?_);cases d with
 |true=>exact ha pins s1 σ H1 Q I1 q1
 |false=>exact hb pins s1 σ H1 Q I1 q1
end
def SqL (K:PySem.W.Frag)(H:Hp)(a:Addr)(xs:List V):Prop:=
 Rd H a (.lst xs)\/
  ∃ (o:Obj) (its:Array Value) (n:Nat),K.lookup a=some o/\o.cls= .type "list" /\o.dict=none/\o.data= .seq its n/\its.size<=sizeLine/\Vals xs its.toList
def SqT (K:PySem.W.Frag)(H:Hp)(a:Addr)(xs:List V):Prop:=
 Rd H a (.tup xs)\/
  ∃ (o:Obj) (its:Array Value) (n:Nat),K.lookup a=some o/\o.cls= .type "tuple" /\o.data= .seq its n/\its.size<=sizeLine/\Vals xs its.toList
def KA:Value->Option V
 | .none=>some .non
 | .bool b=>some (.bl b)
 | .int i _=>some (.int i)
 | .str x _=>some (.str x)
 | .bytes b _=>some (.byt b)
 | .float b _=>some (.flt b)
 | .ref a=>some (.ref a)
 | .type n=>some (.ty n)
 |_=>none
theorem RelV.abs {x:V}(r:RelV x u):KA u=some x:=by
 cases x with
 |non=>cases r;rfl
 |bl _=>cases r;rfl
 |int _=>obtain⟨t,rfl⟩:=r;rfl
 |str _=>obtain⟨t,rfl⟩:=r;rfl
 |byt _=>obtain⟨t,rfl⟩:=r;rfl
 |flt _=>obtain⟨t,rfl⟩:=r;rfl
 |ref _=>cases r;rfl
 |ty _=>cases r;rfl
theorem RelV.inj {x y:V}(r:RelV x u)(q:RelV y u):x=y:=C4 (r.abs.symm.trans q.abs)
theorem Vals.inj: ∀ {xs ys:List V} {us:List Value},Vals xs us->Vals ys us->xs=ys
 |_,_,_,.nil,.nil=>rfl
 |_,_,_,.cons r t,.cons r' t'=>by rw [r.inj r',Vals.inj t t']
section
variable {X:Cx}{pins:List (Addr×Obj)}{σ:St}{H:Hp}{s:Shared}{a:Addr}{xs ys:List V}
theorem SqL.of {K:PySem.W.Frag}(h:H a=some (.lst xs)):SqL K H a xs:= .inl (.inl h)
theorem SqT.of {K:PySem.W.Frag}(h:H a=some (.tup xs)):SqT K H a xs:= .inl (.inl h)
theorem Inv.list (I:Inv X pins σ H s)(h:SqL X.K H a xs): ∃its:List Value,Vals xs its/\PlainL s.heap a its.toArray/\xs.length<=sizeLine:=by
 rcases h with h|⟨o,its,n,hk,hc,hd,hs,hz,r⟩
 ·obtain⟨z,its,n,r,e⟩:=h.ok I.hok;exact⟨its,r,⟨_,n,e,rfl,rfl,rfl⟩,z⟩
 ·refine⟨its.toList,r,⟨o,n,I.kIn a o hk,hc,hd,by simpa using hs⟩,?_⟩;have e:=r.length;simp only [P2] at e;omega
theorem Inv.tuple (I:Inv X pins σ H s)(h:SqT X.K H a xs): ∃its:List Value,Vals xs its/\IsTup s.heap a its.toArray/\xs.length<=sizeLine:=by
 rcases h with h|⟨o,its,n,hk,hc,hs,hz,r⟩
 ·obtain⟨z,its,r,p⟩:=h.ok I.hok;exact⟨its,r,p.tup,z⟩
 ·refine⟨its.toList,r,⟨o,I.kIn a o hk,hc,n,by simpa using hs⟩,?_⟩;have e:=r.length;simp only [P2] at e;omega
theorem Inv.list_inj (I:Inv X pins σ H s)(h:SqL X.K H a xs)(h':SqL X.K H a ys):xs=ys:=by
 obtain⟨its,r,⟨o,n,e,_,_,d⟩,_⟩:=I.list h;obtain⟨its',r',⟨o',n',e',_,_,d'⟩,_⟩:=I.list h';rw [e] at e';cases e';rw [d] at d';injection d' with d1 _
 have:its=its':=by simpa using congrArg Array.toList d1
 subst this;exact r.inj r'
theorem Inv.tuple_inj (I:Inv X pins σ H s)(h:SqT X.K H a xs)(h':SqT X.K H a ys):xs=ys:=by
 obtain⟨its,r,⟨o,e,_,n,d⟩,_⟩:=I.tuple h;obtain⟨its',r',⟨o',e',_,n',d'⟩,_⟩:=I.tuple h';rw [e] at e';cases e';rw [d] at d';injection d' with d1 _
 have:its=its':=by simpa using congrArg Array.toList d1
 subst this;exact r.inj r'
end
abbrev Cx.wish (X:Cx)(E:Value->Shared->Prop):Cx:= {X with xe:=E}
abbrev Cx.nox (X:Cx):Cx:=X.wish λ_ _=>False
theorem Cx.Ok.wish (ok:X.Ok)(E:Value->Shared->Prop):(X.wish E).Ok:=
 ⟨ok.mod,ok.kind,ok.glob,ok.blt,ok.above,ok.inj,ok.has,ok.cab,ok.hd,ok.frames,ok.stk,ok.exf,ok.bs,ok.bsz,ok.noex,ok.exfs,ok.funs,ok.frf⟩
theorem Cx.Ok.unwish {E:Value->Shared->Prop}(ok:(X.wish E).Ok):X.Ok:=
 ⟨ok.mod,ok.kind,ok.glob,ok.blt,ok.above,ok.inj,ok.has,ok.cab,ok.hd,ok.frames,ok.stk,ok.exf,ok.bs,ok.bsz,ok.noex,ok.exfs,ok.funs,ok.frf⟩
section
variable {X:Cx}{pins:List (Addr×Obj)}{σ:St}{H:Hp}{s:Shared}{E:Value->Shared->Prop}
theorem Inv.wish (I:Inv X pins σ H s)(E:Value->Shared->Prop):Inv (X.wish E) pins σ H s:=⟨I.ok.wish E,I.os,I.bare,I.base,I.loc,I.cell,I.free,I.freeC,I.pin,I.hok,I.len⟩
theorem Inv.unwish (I:Inv (X.wish E) pins σ H s):Inv X pins σ H s:=⟨I.ok.unwish,I.os,I.bare,I.base,I.loc,I.cell,I.free,I.freeC,I.pin,I.hok,I.len⟩
theorem SP.unwish {D:Ends}{f:Flow}{s':Shared}(h:SP (X.wish E) pins D f s'):SP X pins D f s':=by
 cases f with
 |next=>obtain⟨σ',H',I,q⟩:=h;exact⟨σ',H',I.unwish,q⟩
 |brk=>obtain⟨σ',H',I,q⟩:=h;exact⟨σ',H',I.unwish,q⟩
 |cont=>obtain⟨σ',H',I,q⟩:=h;exact⟨σ',H',I.unwish,q⟩
 |ret u=>obtain⟨v,σ',H',I,r,q⟩:=h;exact⟨v,σ',H',I.unwish,r,q⟩
theorem PSs.nox {st:List Stmt}{t:TS}(h:PSs X.nox st t):PSs X st t:=λpins s σ H D I hw=>
 R0 (h pins s σ H D (I.wish _) hw) (λ_ _ q=>q.unwish) λ_ _ z=>False.elim z
end
section
variable {X:Cx}{st:Stmt}{rest:List Stmt}{t u:TS}{e:Expr}{te:TE}{pos:Pos}
def Ah:TS:=λD σ H=>D.nx σ H
def HP (t u:TS):TS:=λD σ H=>t {D with nx:=u D} σ H
theorem pss_nil:PSs X [] Ah:=λ_ _ σ H _ I h=>W1 ⟨σ,H,I,h⟩
theorem Nh (h1:PS X st t)(h2:PSs X rest u):PSs X (st::rest) (HP t u):=by
 intro pins s σ H D I h;refine A5 (thn (h1 pins s σ H {D with nx:=u D} I h) λf s1 q=> ?_);cases f with
 |next=>
  obtain⟨σ',H',I',q⟩:=q;exact h2 pins s1 σ' H' D I' q
 |ret v=>exact q
 |brk=>exact q
 |cont=>exact q
theorem Fa (h1:PS X st t):PSs X [st] t:=by
 intro pins s σ H D I h;refine A5 (thn (h1 pins s σ H D I h) λf s1 q=> ?_);cases f with
 |next=>exact W1 q
 |ret v=>exact q
 |brk=>exact q
 |cont=>exact q
theorem Inv.quiet {pins:List (Addr×Obj)}{σ:St}{H:Hp}{s:Shared}(I:Inv X pins σ H s):interactive X.env=false:=by simp [interactive,I.ok.kind]
def Ai (te:TE):TS:=λD σ H=>te σ H λ_ H1=>D.nx σ H1
theorem Fb (he:PE X e te)(hs:swapsWith e none pos.line X.env=pure false:=by rfl):PS X (.Expr e pos) (Ai te):=by
 intro pins s σ H D I h;exact wpAny_Expr_any (thn (he pins s σ H _ I h) λv s1 ⟨x,H1,I1,r1,q1⟩=>⟨σ,H1,I1,q1⟩) I.quiet hs
def HQ (te:TE):TS:=λD σ H=>te σ H D.rt
theorem Aj (he:PE X e te):PS X (.Return (some e) pos) (HQ te):=by
 intro pins s σ H D I h;exact wpAny_Return_some (thn (he pins s σ H _ I h) λv s1 ⟨x,H1,I1,r1,q1⟩=>⟨x,σ,H1,I1,r1,q1⟩)
def HR (c:TT)(t u:TS):TS:=λD σ H=>c σ H λb H1=>if b=true then t D σ H1 else u D σ H1
theorem Ti {c:Expr}{a b:List Stmt}{tc:TT}(hc:PT X c tc)(ha:PSs X a t)(hb:PSs X b u):PS X (.If c a b pos) (HR tc t u):=by
 intro pins s σ H D I h;refine wpAny_If (thn (hc pins s σ H _ I h) λd s1 ⟨H1,I1,q1⟩=> ?_);cases d with
 |true=>exact ha pins s1 σ H1 D I1 q1
 |false=>exact hb pins s1 σ H1 D I1 q1
end
abbrev TG:=V->St->Hp->(St->Hp->Prop)->Prop
abbrev TGs:=List V->St->Hp->(St->Hp->Prop)->Prop
def PG (X:Cx)(target:Expr)(t:TG):Prop:=
 ∀ (pins:List (Addr×Obj)) (s:Shared) (σ:St) (H:Hp) (v:V) (u:Value) (Q:St->Hp->Prop),Inv X pins σ H s->RelV v u->t v σ H Q->
  wpAny (model X.prog X.w) X.A (assign target X.env u) (λ_ s'=> ∃σ' H',Inv X pins σ' H' s'/\Q σ' H') X.xe s
def PGs (X:Cx)(ts:List Expr)(t:TGs):Prop:=
 ∀ (pins:List (Addr×Obj)) (s:Shared) (σ:St) (H:Hp) (vs:List V) (us:List Value) (Q:St->Hp->Prop),Inv X pins σ H s->Vals vs us->t vs σ H Q->
  wpAny (model X.prog X.w) X.A (assignInOrder ((assignEach ts X.env).map (·.2)) us) (λ_ s'=> ∃σ' H',Inv X pins σ' H' s'/\Q σ' H') X.xe s
abbrev Tj:=V->V->V->Hp->(Hp->Prop)->Prop
def HS (X:Cx)(t:Tj):Prop:=
 ∀ (pins:List (Addr×Obj)) (s:Shared) (σ:St) (H:Hp) (o i v:V) (ov iv u:Value) (Q:Hp->Prop),Inv X pins σ H s->RelV o ov->RelV i iv->RelV v u->t o i v H Q->
  wpAny (model X.prog X.w) X.A (setItem ov iv u) (λ_ s'=> ∃H',Inv X pins σ H' s'/\Q H') X.xe s
section
variable {X:Cx}{pos:Pos}
def yi (i:Nat):TG:=λv σ H Q=>Q (σ.set i (some v)) H
theorem yX {i:Nat}{x:Str}(hN:X.N.Nodup)(hi:X.N[i]? =some x)(hx:Loc X.env.scope x)(hf:X.fn x=true\/X.env.scope.names.lookup x=some .local:=by first|exact .inl rfl|exact .inr rfl|assumption):PG X (.Name x pos) (yi i):=by
 intro pins s σ H v u Q I r h;exact wpAny_assign_Name (wJ I hN hi hx r (λs' I'=>⟨_,H,I',h⟩) hf)
def Tk:TGs:=λvs σ H Q=>vs= []/\Q σ H
def Dg (t:TG)(u:TGs):TGs:=λvs σ H Q=> ∃v r,vs=v::r/\t v σ H λσ' H'=>u r σ' H' Q
theorem Dh:PGs X [] Tk:=by
 intro pins s σ H vs us Q I r h;obtain⟨e,h⟩:=h;subst e;cases r;exact assignInOrder_nil ⟨σ,H,I,h⟩
theorem JV {e:Expr}{es:List Expr}{t:TG}{u:TGs}(h1:PG X e t)(h2:PGs X es u)
 (hs:(assignEach (e::es) X.env).map (·.2)=assign e X.env::(assignEach es X.env).map (·.2):=by rfl):PGs X (e::es) (Dg t u):=by
 intro pins s σ H vs us Q I r h;obtain⟨v,vr,e1,h⟩:=h;subst e1;cases r with
 |cons r rr=>
  rw [hs];refine G0O (thn (h1 pins s σ H _ _ _ I r h) λ_ s1 ⟨σ1,H1,I1,q1⟩=> ?_);exact h2 pins s1 σ1 H1 _ _ Q I1 rr q1
def Tl (K:PySem.W.Frag)(n:Nat)(t:TGs):TG:=λv σ H Q=> ∃a xs,v= .ref a/\SqT K H a xs/\xs.length=n/\t xs σ H Q
theorem BW {es:List Expr}{k:Nat}{t:TGs}{n:Nat}(hc:X.calm=true)(h:PGs X es t)
 (hn:(assignEach es X.env).length=n:=by rfl)(hst:(assignEach es X.env).findIdx? (·.1)=none:=by rfl):PG X (.Tuple es k pos) (Tl X.K n t):=by
 intro pins s σ H v u Q I r hw;obtain⟨a,xs,e1,hq,hl,hw⟩:=hw;subst e1;cases r;obtain⟨its,rv,ht,hz⟩:=I.tuple hq;refine assign_Tuple_tuple (I.ok.hd hc) ht (by simp [hn,<-hl,rv.length]) hst λh' hx=> ?_
 have I1:Inv X pins σ H {s with heap:=h'}:=I.kept (t':=s.toks) λb o e=>hx b o (R3 (P1 e)) e
 exact h pins _ σ H xs _ Q I1 (by simpa using rv) hw
def KB (to ti:TE)(t:Tj):TG:=λv σ H Q=>to σ H λo H1=>ti σ H1 λi H2=>t o i v H2 λH3=>Q σ H3
theorem Ak {o i:Expr}{to ti:TE}{t:Tj}(ho:PE X o to)(hi:PE X i ti)(hs:HS X t)
 (ha: ∀v,assign (.Subscript o i pos) X.env v=(do
  let ov <-holding [v] (eval o X.env)
  let iv <-holding [v,ov] (eval i X.env)
  standAt pos
  holding [v,ov,iv] (setItem ov iv v)
  release [v,ov,iv] []):=by intro _;rfl):PG X (.Subscript o i pos) (KB to ti t):=by
 intro pins s σ H v u Q I r h;rw [ha];refine wpAny_bind (N4 (thn (ho pins s σ H _ I h) λov s1 ⟨x,H1,I1,r1,q1⟩=> ?_));refine wpAny_bind (N4 (thn (hi pins s1 σ H1 _ I1 q1) λiv s2 ⟨y,H2,I2,r2,q2⟩=> ?_));refine wpAny_bind (Y6 (wpAny_bind (N4 (thn (hs pins s2 σ H2 x y v ov iv u _ I2 r1 r2 r q2) λ_ s3 ⟨H3,I3,q3⟩=> ?_))));exact wpAny_release ⟨σ,H3,I3,q3⟩
def BX (te:TE)(g:TG):TS:=λD σ H=>te σ H λx H1=>g x σ H1 D.nx
theorem Al {tg e:Expr}{te:TE}{g:TG}(he:PE X e te)(hg:PG X tg g)(hs:swapsWithSole [tg] e pos.line X.env=pure false:=by rfl)(hw:swappedStores [tg] e X.env=pure none:=by rfl)
 (h1:(assignEach [tg] X.env).map (·.2)= [assign tg X.env]:=by rfl):PS X (.Assign [tg] e pos) (BX te g):=by
 intro pins s σ H D I h;refine wpAny_Assign_stores (thn (he pins s σ H _ I h) λv s1 ⟨x,H1,I1,r1,q1⟩=> ?_) hs hw;rw [h1];exact thn (hg pins s1 σ H1 x v _ I1 r1 q1) λ_ s2 q=>q
theorem Am {i:Nat}{x:Str}{e:Expr}{te:TE}{pos':Pos}(hN:X.N.Nodup)(hi:X.N[i]? =some x)(hx:Loc X.env.scope x)(he:PE X e te)(hs:swapsWith e (some (.Name x pos')) pos.line X.env=pure false:=by rfl)(hf:X.fn x=true\/X.env.scope.names.lookup x=some .local:=by first|exact .inl rfl|exact .inr rfl|assumption):
 PS X (.Assign [.Name x pos'] e pos) (BX te (yi i)):=by
 intro pins s σ H D I h;refine wpAny_Assign_Name (thn (he pins s σ H _ I h) λv s1 ⟨y,H1,I1,r1,q1⟩=> ?_) hs;exact wJ I1 hN hi hx r1 (λs2 I2=>⟨_,H1,I2,q1⟩) hf
def HU (i j:Nat)(ta:TA):TS:=λD σ H=>ta σ H λvs H1=> ∃v w,vs= [v,w]/\D.nx ((σ.set i (some v)).set j (some w)) H1
theorem An {i j:Nat}{x y:Str}{a b:Expr}{ta:TA}{px py pt:Pos}{kt k2 pt2}(hc:X.calm=true)(hN:X.N.Nodup)(hi:X.N[i]? =some x)(hj:X.N[j]? =some y)(hij:i≠j)
 (hx:X.env.scope.names.lookup x=some .local)(hy:X.env.scope.names.lookup y=some .local)(ha:PA X [a,b] ta)
 (hw:swappedStores [.Tuple [.Name x px,.Name y py] kt pt] (.Tuple [a,b] k2 pt2) X.env=pure (some [x,y]))
 (hs:swapsWithSole [.Tuple [.Name x px,.Name y py] kt pt] (.Tuple [a,b] k2 pt2) pos.line X.env=pure false:=by rfl):
 PS X (.Assign [.Tuple [.Name x px,.Name y py] kt pt] (.Tuple [a,b] k2 pt2) pos) (HU i j ta):=by
 intro pins s σ H D I h;rw [exec_Assign_arm];refine wpAny_bind (Y6 ?_);rw [hs];refine wpAny_bind (G3 ?_);rw [if_neg (by decide)];refine wpAny_bind (Tuple_ (thn (ha _ pins s σ H _ I h) λus s1 ⟨vs,H1,I1,r1,q1⟩=> ?_));obtain⟨v,w,e1,q1⟩:=q1;subst e1;obtain⟨u1,u2,rfl,rv,rw'⟩: ∃u1 u2,us= [u1,u2]/\RelV v u1/\RelV w u2:=by
  cases r1 with
  |cons p q=>
   cases q with
   |cons p' q'=>
    cases q';exact⟨_,_,rfl,p,p'⟩
 refine U0 ?_ (by show 2<=sizeLine;decide);have I2:Inv X pins σ H1 {s1 with heap:=s1.heap.push {cls:= .type "tuple",data:= .seq [u1,u2].toArray}}:=I1.kept (t':=s1.toks) λb o e=>G1 _ e
 rw [hw];refine wpAny_bind (G3 ?_);show wpAny (model X.prog X.w) X.A (do rule "assign.swapped-stores";let items <-unpackItems (.ref s1.heap.objs.size) 2 none;assignInOrder [λv=>bindName X.env y v,λv=>bindName X.env x v] items.reverse;pure Flow.next) _ _ _;refine wpAny_bind (G0y (wpAny_bind (unpackItems_tuple (items:= #[u1,u2]) (I.ok.hd hc) (IsTup.new s1.heap _) λh' hx'=> ?_)));have I3:=I2.kept (h':=h') (t':=s1.toks) λb o e=>hx' b o (R3 (P1 e)) e
 show wpAny _ _ (assignInOrder [λv=>bindName X.env y v,λv=>bindName X.env x v] [u2,u1] >>= λ_=>pure Flow.next) _ _ _;refine wpAny_bind (G0O (G1x (wJ I3 hN hj (.inl hy) rw' (λs2 I4=> ?_) (.inr hy))));refine G0O (G1x (wJ I4 hN hi (.inl hx) rv (λs3 I5=>assignInOrder_nil (G3 ?_)) (.inr hx)));rw [List.set_comm _ _ (Ne.symm hij)] at I5;exact⟨_,H1,I5,q1⟩
def BY (c:TT)(tb:TS):TS:=λD σ H=> ∃W:Nat->St->Hp->Prop,(∃m,W m σ H)/\ ∀m σ H,W m σ H->
 c σ H λb H1=>if b=true then ∃N:St->Hp->Prop,(∀σ' H',N σ' H'-> ∃m',m'<m/\W m' σ' H')/\tb {D with nx:=N,ct:=N,bk:=D.nx} σ H1 else D.nx σ H1
theorem Ni {c:Expr}{body:List Stmt}{tc:TT}{tb:TS}(hp:PassesOwn (model X.prog X.w) X.A X.env X.xe)(hc:PT X c tc)(hb:PSs X body tb):PS X (.While c body [] pos) (BY tc tb):=by
 intro pins s σ H D I h;obtain⟨W,⟨m0,w0⟩,turn⟩:=h;refine wpAny_While (codeAny_whileLoop (λn s'=> ∃σ' H',Inv X pins σ' H' s'/\W n σ' H') ?_ m0 ⟨σ,H,I,w0⟩);rintro n s1 ⟨σ1,H1,I1,w1⟩;refine U1 hp (thn (hc pins s1 σ1 H1 _ I1 (turn n σ1 H1 w1)) λb s2 ⟨H2,I2,q2⟩=> ?_);cases b with
 |true=>
  obtain⟨N,hN,q2⟩:=q2;rw [if_pos rfl];refine U1 hp (thn (hb pins s2 σ1 H2 _ I2 q2) λf s3 q3=> ?_);cases f with
  |next=>
   obtain⟨σ3,H3,I3,n3⟩:=q3;obtain⟨m',hm,w3⟩:=hN σ3 H3 n3;exact⟨m',hm,σ3,H3,I3,w3⟩
  |cont=>
   obtain⟨σ3,H3,I3,n3⟩:=q3;obtain⟨m',hm,w3⟩:=hN σ3 H3 n3;exact⟨m',hm,σ3,H3,I3,w3⟩
  |brk=>exact q3
  |ret v=>exact q3
 |false=>
  rw [if_neg P5];exact W1 ⟨σ1,H2,I2,q2⟩
end
structure It where
 go:Nat->Hp->Prop
 yld:Nat->Hp->V->Hp->Prop
 stop:Nat->Hp->Prop
def PP (X:Cx)(pins:List (Addr×Obj))(H:Hp)(b:Addr):Prop:=
 H b=none/\b≠X.env.locals/\b ∉ X.fs/\(b∈X.ex\/X.s₀.heap.objs.size<=b)/\(∀x c,X.env.cells.lookup x=some c->c≠b)/\ ∀p∈X.pn++pins,p.1≠b
theorem Inv.fpOk {pins:List (Addr×Obj)}{σ:St}{H':Hp}(I:Inv X pins σ H s)(hb:s.heap.objs.size<=b)(hn:H' b=none):PP X pins H' b:=by
 refine⟨hn,J9 (D7 I.lt hb),I.nofs hb,.inr (P7 I.sz hb),λx c e z=> ?_,λp hp z=> ?_⟩
 ·obtain⟨v,q⟩:=I.cell x c e;exact absurd (D7 q.lt (by rw [z];exact hb)) (S7 _)
 ·exact absurd (D7 (P1 (I.pin p hp).1) (by rw [z];exact hb)) (S7 _)
structure Turn (P:Program)(w:World)(K:PySem.W.Frag)(tg:Expr)(J:It)(fp:List Addr)(it:Addr)(tn:Nat->Heap->Prop):Prop where
 mem:it∈fp
 obj: ∀i h,tn i h-> ∀b∈fp,∃o,h.get? b=some o/\ ∀v,o.data≠ .cell v
 keep: ∀i h h',tn i h->(∀b∈fp,∀o,h.get? b=some o->h'.get? b=some o)->tn i h'
 item: ∀ (X:Cx),X.prog=P->X.w=w->X.K=K->X.calm=true-> ∀ (i:Nat) (pins:List (Addr×Obj)) (s:Shared) (σ:St) (H:Hp) (E:Value->Shared->Prop),Inv X pins σ H s->(∀b∈fp,PP X pins H b)->tn i s.heap->J.go i H->
  wpAny (model P w) X.A (pyNext (.ref it)) (λr s1=> ∃u,r=some u/\
   wpAny (model P w) X.A (letOwnedTupleGo tg (.ref it) u) (λ_ s2=> ∃x H',Inv X pins σ H' s2/\RelV x u/\J.yld i H x H'/\tn (i+1) s2.heap/\ ∀b∈fp,H' b=none) E s1) E s
 done: ∀ (X:Cx),X.prog=P->X.w=w->X.K=K->X.calm=true-> ∀ (i:Nat) (pins:List (Addr×Obj)) (s:Shared) (σ:St) (H:Hp) (E:Value->Shared->Prop),Inv X pins σ H s->(∀b∈fp,PP X pins H b)->tn i s.heap->J.stop i H->
  wpAny (model P w) X.A (pyNext (.ref it)) (λr s1=>r=none/\Inv X pins σ H s1) E s
 self: ∀ (A:Around) (i:Nat) (s:Shared) (Q:Value->Shared->Prop) (E:Value->Shared->Prop),tn i s.heap->Q (.ref it) s->wpAny (model P w) A (pyIter (.ref it)) Q E s
abbrev TI:=St->Hp->(It->Hp->Prop)->Prop
def PIE (X:Cx)(pins:List (Addr×Obj))(σ:St)(tg:Expr)(R:It->Hp->Prop)(itv:Value)(s2:Shared):Prop:=
 ∃ (it:Addr) (fp:List Addr) (tn:Nat->Heap->Prop) (J:It) (H':Hp),itv= .ref it/\Inv X pins σ H' s2/\Turn X.prog X.w X.K tg J fp it tn/\tn 0 s2.heap/\(∀b∈fp,PP X pins H' b)/\R J H'
def PI (X:Cx)(tg iter:Expr)(wi:TI):Prop:=
 ∀ (pins:List (Addr×Obj)) (s:Shared) (σ:St) (H:Hp) (R:It->Hp->Prop),Inv X pins σ H s->wi σ H R->
  wpAny (model X.prog X.w) X.A (eval iter X.env) (λv s1=>wpAny (model X.prog X.w) X.A (pyIter v) (PIE X pins σ tg R) X.xe s1) X.xe s
variable {tg:Expr}
theorem Fc {M : Model} {E : Value → Shared → Prop} {it : Addr} {o : Obj} {n : String} {vs : Array Value} {Q : Unit → Shared → Prop} (ho : s.heap.get? it = some o) (hc : o.cls = .type n) (hd : o.data = .fields vs)
    (hn : ["enumerate", "zip", "dict_itemiterator", "dict_reverseitemiterator", "odict_iterator", "itertools.zip_longest", "itertools.pairwise"].contains n = false) (hQ : Q () s) : wpAny M A (letOwnedTupleGo tg (.ref it) u) Q E s := by
  unfold letOwnedTupleGo
  cases tg <;> first
    | exact G3 hQ
    | (cases u <;> first
        | exact G3 hQ
        | (refine wpAny_bind (G1R ho ?_)
           rw [hc, hd]
           show wpAny M A (if (["enumerate", "zip", "dict_itemiterator", "dict_reverseitemiterator", "odict_iterator", "itertools.zip_longest", "itertools.pairwise"].contains n && vs[0]? == some (rawInt _)) = true then _ else _) Q E s
           rw [if_neg (by intro h; rw [hn, Bool.false_and] at h; cases h)]
           exact G3 hQ))
def Itl (K:PySem.W.Frag)(a:Addr):It:=
 ⟨λi H=> ∃xs x,SqL K H a xs/\xs[i]? =some x,λi H x H'=>H'=H/\ ∀xs,SqL K H a xs->xs[i]? =some x,λi H=> ∃xs,SqL K H a xs/\xs.length<=i⟩
def Itt (K:PySem.W.Frag)(a:Addr):It:=
 ⟨λi H=> ∃xs x,SqT K H a xs/\xs[i]? =some x,λi H x H'=>H'=H/\ ∀xs,SqT K H a xs->xs[i]? =some x,λi H=> ∃xs,SqT K H a xs/\xs.length<=i⟩
def Itr (lo:Int)(n:Nat):It:=⟨λi _=>i<n,λi H x H'=>H'=H/\x= .int (lo+i),λi _=>n<=i⟩
variable {K:PySem.W.Frag}
theorem VB (a it:Addr):Turn P w K tg (Itl K a) [it] it (λi h=>h.IsListIter it a i) where
 mem:=by simp
 obj:=λi h st b hb=>by
  have e:b=it:=by simpa using hb
  subst e;obtain⟨o,e,c,d⟩:=st;exact⟨o,e,λv z=>by rw [d] at z;cases z⟩
 keep:=λi h h' st k=>st.at λo e=>k it (by simp) o e
 item:=by
  intro X hP hw hK hc i pins s σ H E I hf st hg;subst hP hw hK;obtain⟨xs,x,hq,hx⟩:=hg;obtain⟨its,rv,p,hz⟩:=I.list hq;obtain⟨u,hu,ru⟩:=rv.get hx;obtain⟨f0,f1,f2,f3,f4,f5⟩:=hf it (by simp);refine wpAny_pyNext_list_item st p.isList (x:=u) (by simpa using hu) λh' st' sb=> ?_
  have I1:Inv X pins σ H {s with heap:=h'}:=I.turned (t':=s.toks) (λb o hb e=>(sb.2 b hb).trans e) f0 f1 f3 f4 f5;obtain⟨o,e,c,d⟩:=id st';exact⟨u,rfl,Fc (s:= {s with heap:=h'}) e c d (by decide) ⟨x,H,I1,ru,⟨rfl,λys hy=>by rw [I.list_inj hy hq];exact hx⟩,st',λb hb=>(hf b hb).1⟩⟩
 done:=by
  intro X hP hw hK hc i pins s σ H E I hf st hg;subst hP hw hK;obtain⟨xs,hq,hx⟩:=hg;obtain⟨its,rv,p,hz⟩:=I.list hq;obtain⟨f0,f1,f2,f3,f4,f5⟩:=hf it (by simp);have hl:=rv.length;exact wpAny_pyNext_list_end (I.ok.hd hc) st p.isList (by simp;omega) λh' eb=>⟨rfl,I.turned (t':=s.toks) (λb o hb e=>eb b o hb e) f0 f1 f3 f4 f5⟩
 self:=λ_ _ _ _ _ st h=>wpAny_pyIter_listiter st h
theorem Gt (a it:Addr):Turn P w K tg (Itt K a) [it] it (λi h=>h.IsTupleIter it a i) where
 mem:=by simp
 obj:=λi h st b hb=>by
  have e:b=it:=by simpa using hb
  subst e;obtain⟨o,e,c,d⟩:=st;exact⟨o,e,λv z=>by rw [d] at z;cases z⟩
 keep:=λi h h' st k=>st.at λo e=>k it (by simp) o e
 item:=by
  intro X hP hw hK hc i pins s σ H E I hf st hg;subst hP hw hK;obtain⟨xs,x,hq,hx⟩:=hg;obtain⟨its,rv,p,hz⟩:=I.tuple hq;obtain⟨u,hu,ru⟩:=rv.get hx;obtain⟨f0,f1,f2,f3,f4,f5⟩:=hf it (by simp);refine wpAny_pyNext_tuple_item st (show s.heap.IsTuple a its.toArray from p) (x:=u) (by simpa using hu) λh' st' sb=> ?_
  have I1:Inv X pins σ H {s with heap:=h'}:=I.turned (t':=s.toks) (λb o hb e=>(sb.2 b hb).trans e) f0 f1 f3 f4 f5;obtain⟨o,e,c,d⟩:=id st';exact⟨u,rfl,Fc (s:= {s with heap:=h'}) e c d (by decide) ⟨x,H,I1,ru,⟨rfl,λys hy=>by rw [I.tuple_inj hy hq];exact hx⟩,st',λb hb=>(hf b hb).1⟩⟩
 done:=by
  intro X hP hw hK hc i pins s σ H E I hf st hg;subst hP hw hK;obtain⟨xs,hq,hx⟩:=hg;obtain⟨its,rv,p,hz⟩:=I.tuple hq;obtain⟨f0,f1,f2,f3,f4,f5⟩:=hf it (by simp);have hl:=rv.length;exact wpAny_pyNext_tuple_end (I.ok.hd hc) st (show s.heap.IsTuple a its.toArray from p) (by simp;omega) λh' eb=>⟨rfl,I.turned (t':=s.toks) (λb o hb e=>eb b o hb e) f0 f1 f3 f4 f5⟩
 self:=λ_ _ _ _ _ st h=>wpAny_pyIter_tupleiter st h
theorem Gu (it:Addr)(lo:Int)(n:Nat):Turn P w K tg (Itr lo n) [it] it (λi h=>IsRangeIter h it (lo+(i:Nat)*1) ((n:Int)-(i:Nat)) 1) where
 mem:=by simp
 obj:=λi h st b hb=>by
  have e:b=it:=by simpa using hb
  subst e;exact⟨_,st,λv z=>by
   have z':Data.fields _=Data.cell v:=z;cases z'⟩
 keep:=λi h h' st k=>k it (by simp) _ st
 item:=by
  intro X hP hw hK hc i pins s σ H E I hf st hg;subst hP hw hK;obtain⟨f0,f1,f2,f3,f4,f5⟩:=hf it (by simp);have W:=Walks.range (prog:=X.prog) (w:=X.w) (I.ok.hd hc) it lo 1 n;refine W.item i s _ _ hg st λv h' tk hv st' kk=> ?_
  obtain⟨t,rfl⟩:=hv;have I1:Inv X pins σ H {s with heap:=h',toks:=tk}:=I.turned (λb o hb e=>kk b o (by simpa using hb) e) f0 f1 f3 f4 f5;refine⟨_,rfl,Fc (s:= {s with heap:=h',toks:=tk}) (n:= "range_iterator") st' rfl rfl (by decide) ⟨.int (lo+i),H,I1,⟨t,?_⟩,⟨rfl,rfl⟩,st',λb hb=>(hf b hb).1⟩⟩;rw [Int.mul_one]
 done:=by
  intro X hP hw hK hc i pins s σ H E I hf st hg;subst hP hw hK;obtain⟨f0,f1,f2,f3,f4,f5⟩:=hf it (by simp);exact wpAny_pyNext_range_end (I.ok.hd hc) st (by have:n<=i:=hg;omega) λh' eb=>⟨rfl,I.turned (t':=s.toks) (λb o hb e=>eb b o hb e) f0 f1 f3 f4 f5⟩
 self:=λ_ _ _ _ _ st h=>wpAny_pyIter_rangeiter st h
section
variable {X:Cx}{tg:Expr}
def Ao (K:PySem.W.Frag)(tl:TE):TI:=λσ H R=>tl σ H λx H1=> ∃a,x= .ref a/\(∃xs,SqL K H1 a xs)/\R (Itl K a) H1
theorem Fd {l:Expr}{tl:TE}(hl:PE X l tl):PI X tg l (Ao X.K tl):=by
 intro pins s σ H R I h;refine thn (hl pins s σ H _ I h) λv s1 ⟨x,H1,I1,r1,q1⟩=> ?_
 obtain⟨a,e,⟨xs,hq⟩,q⟩:=q1;subst e;cases r1;obtain⟨its,rv,p,hz⟩:=I1.list hq;refine U2 p.isList ?_;refine⟨s1.heap.objs.size,[s1.heap.objs.size],_,_,H1,rfl,I1.kept (t':=s1.toks) λb o e=>G1 _ e,VB a _,⟨_,D0 _ rfl,rfl,rfl⟩,λb hb=> ?_,q⟩;have e:b=s1.heap.objs.size:=by simpa using hb
 subst e;exact I1.fpOk (G5 _) (I1.hok.fresh (G5 _))
variable {pins:List (Addr×Obj)}
theorem Qr {σ:St}{H:Hp}{s:Shared}{R:It->Hp->Prop}{E:Value->Shared->Prop}{lo hi:Int}{t u v:Tok}{tk:Nat}(I:Inv X pins σ H s)(h1: -(2^62)<=lo)(h2:lo<2^62)(h3: -(2^62)<=hi)(h4:hi<2^62)
 (q:R (Itr lo (hi-lo).toNat) H):wpAny (model X.prog X.w) X.A (pyIter (.ref s.heap.objs.size)) (PIE X pins σ tg R) E {s with heap:=s.heap.push {cls:= .type "range",data:= .fields #[.int lo t,.int hi u,.int 1 v]},toks:=tk}:=by
 refine wpAny_pyIter_range (IsRange.new ..) (small_one h1 h2 h3 h4) ?_;have I1:Inv X pins σ H {s with heap:=s.heap.push {cls:= .type "range",data:= .fields #[.int lo t,.int hi u,.int 1 v]},toks:=tk}:=I.kept λb o e=>G1 _ e
 refine⟨(s.heap.push {cls:= .type "range",data:= .fields #[.int lo t,.int hi u,.int 1 v]}).objs.size,[(s.heap.push {cls:= .type "range",data:= .fields #[.int lo t,.int hi u,.int 1 v]}).objs.size],_,_,H,rfl,
  I1.kept (t':=tk) λb o e=>G1 _ e,Gu _ lo (hi-lo).toNat,?_,λb hb=> ?_,q⟩
 ·have e1:lo+((0:Nat):Int)*1=lo:=by simp
  have e2:(((hi-lo).toNat:Nat):Int)-((0:Nat):Int)=Builtin.Range.rangeSize lo hi 1:=by rw [rangeSize_one];split<;>omega
  show IsRangeIter _ _ (lo+((0:Nat):Int)*1) ((((hi-lo).toNat:Nat):Int)-((0:Nat):Int)) 1;rw [e1,e2];exact D0 _ rfl
 ·have e:b=(s.heap.push {cls:= .type "range",data:= .fields #[.int lo t,.int hi u,.int 1 v]}).objs.size:=by simpa using hb
  subst e;exact I1.fpOk (G5 _) (I1.hok.fresh (G5 _))
def Ap (ta:TA):TI:=λσ H R=>ta σ H λvs H1=> ∃j:Int,vs= [.int j]/\ -(2^62)<=j/\j<2^62/\R (Itr 0 j.toNat) H1
def Aq (ta:TA):TI:=λσ H R=>ta σ H λvs H1=> ∃i j:Int,vs= [.int i,.int j]/\(-(2^62)<=i/\i<2^62/\ -(2^62)<=j/\j<2^62)/\R (Itr i (j-i).toNat) H1
theorem Di {a:Expr}{ta:TA}{p pos:Pos}(hg:Gl X "range")(hm:X.mg "range" =none)(ha:PA X [a] ta)(hs:starEach [a] X.env= [(false,eval a X.env)]:=by rfl):PI X tg (.Call (.Name "range" p) [a] [] pos) (Ap ta):=by
 intro pins s σ H R I h;refine Call_ (Zi I hg hm boot_range (K1 (thn (ha pos pins s σ H _ I h) λus s1 ⟨vs,H1,I1,r1,q1⟩=> ?_) hs rfl));obtain⟨j,e,q1,q2,q⟩:=q1;subst e;cases r1 with
 |cons r rr=>
  cases rr;obtain⟨t,rfl⟩:=r;exact call_range_1 (Qr I1 (by omega) (by omega) q1 q2 (by simpa using q))
theorem Dj {a b:Expr}{ta:TA}{p pos:Pos}(hg:Gl X "range")(hm:X.mg "range" =none)(ha:PA X [a,b] ta)(hs:starEach [a,b] X.env= [(false,eval a X.env),(false,eval b X.env)]:=by rfl)(hs2:starEach [b] X.env= [(false,eval b X.env)]:=by rfl):
 PI X tg (.Call (.Name "range" p) [a,b] [] pos) (Aq ta):=by
 intro pins s σ H R I h;refine Call_ (Zi I hg hm boot_range (K1 (thn (ha pos pins s σ H _ I h) λus s1 ⟨vs,H1,I1,r1,q1⟩=> ?_) (by rw [hs,hs2]) (by rw [hs2];rfl)));obtain⟨i,j,e,⟨q1,q2,q3,q4⟩,q⟩:=q1;subst e;cases r1 with
 |cons r rr=>
  cases rr with
  |cons r' rr=>
   cases rr;obtain⟨t,rfl⟩:=r;obtain⟨t',rfl⟩:=r';exact call_range_2 (Qr I1 q1 q2 q3 q4 q)
def HV (wi:TI)(g:TG)(tb:TS):TS:=λD σ H=>wi σ H λJ H1=> ∃W:Nat->Nat->St->Hp->Prop,(∃m,W 0 m σ H1)/\ ∀i m σ H,W i m σ H->
 (J.stop i H/\D.nx σ H)\/(J.go i H/\ ∃N:St->Hp->Prop,(∀σ' H',N σ' H'-> ∃m',m'<m/\W (i+1) m' σ' H')/\ ∀x H',J.yld i H x H'->g x σ H' λσ2 H2=>tb {D with nx:=N,ct:=N,bk:=D.nx} σ2 H2)
def yR (fp:List Addr)(h:Heap):List (Addr×Obj):=fp.filterMap λb=>(h.get? b).map λo=>(b,o)
theorem wb {fp:List Addr}{h:Heap}{b:Addr}{o:Obj}(hb:b∈fp)(e:h.get? b=some o):(b,o)∈yR fp h:=K9.mpr ⟨b,hb,by rw [e];rfl⟩
theorem Zj {fp:List Addr}{h:Heap}{p:Addr×Obj}(hp:p∈yR fp h):p.1∈fp/\h.get? p.1=some p.2:=by
 obtain⟨b,hb,e⟩:=K9.mp hp;cases q:h.get? b with
 |none=>rw [q] at e;cases e
 |some o=>
  rw [q] at e;have e':(b,o)=p:=C4 e;subst e';exact⟨hb,q⟩
theorem Inv.pinned {σ:St}{H:Hp}{s:Shared}{fp:List Addr}(I:Inv X pins σ H s)(hf: ∀b∈fp,PP X pins H b)(ho: ∀b∈fp,∃o,s.heap.get? b=some o/\ ∀v,o.data≠ .cell v):Inv X (pins++yR fp s.heap) σ H s:=
 I.pins_of λp hp=>(D1.mp hp).elim (λz=>I.pin p (D2 _ z)) λz=>by
  obtain⟨hb,e⟩:=Zj z;obtain⟨f0,f1,f2,_⟩:=hf p.1 hb;obtain⟨o,e',d⟩:=ho p.1 hb;rw [e] at e';cases e';exact⟨e,f0,f1,f2,d⟩
theorem Inv.unpinned {pl:List (Addr×Obj)}{σ:St}{H:Hp}{s:Shared}(I:Inv X (pins++pl) σ H s):Inv X pins σ H s:=I.pins_of λp hp=>I.pin p (D2 _ (B9 _ hp))
theorem Ar {iter:Expr}{body:List Stmt}{wi:TI}{g:TG}{tb:TS}{pos:Pos}(hp:PassesOwn (model X.prog X.w) X.A X.env X.xe)(hc:X.calm=true)(hi:PI X tg iter wi)(hg:PG X tg g)(hb:PSs X body tb)
 (hs: ∀x,foldedSetIterable iter X.env x=pure x:=by intro _;rfl):PS X (.For tg iter body [] pos) (HV wi g tb):=by
 intro pins s σ H D I h;refine wpAny_For (thn (hi pins s σ H _ I h) λv s1 h1=>thn h1 λitv s2 h2=> ?_) hs;obtain⟨it,fp,tn,J,H2,e,I2,T,st2,f2,W,⟨m0,w0⟩,turn⟩:=h2;subst e
 -- what stays true of the iterator's objects through the loop
 have stat: ∀ {H':Hp},(∀b∈fp,H' b=none)-> ∀b∈fp,PP X pins H' b:=λhn b hb=>⟨hn b hb,(f2 b hb).2⟩
 refine codeAny_forLoop_any (λn s'=> ∃i σ' H',Inv X pins σ' H' s'/\tn i s'.heap/\(∀b∈fp,H' b=none)/\W i n σ' H') ?_ m0 ⟨0,σ,H2,I2,st2,λb hb=>(f2 b hb).1,w0⟩;rintro n s3 ⟨i,σ3,H3,I3,st3,fr3,w3⟩;rcases turn i n σ3 H3 w3 with ⟨stop,qn⟩|⟨go,N,hN,step⟩
 ·refine U1 hp (thn (T.done X rfl rfl rfl hc i pins s3 σ3 H3 X.xe I3 (stat fr3) st3 stop) λr s4 ⟨hr,I4⟩=> ?_);subst hr;exact W1 ⟨σ3,H3,I4,qn⟩
 ·refine U1 hp (thn (T.item X rfl rfl rfl hc i pins s3 σ3 H3 X.xe I3 (stat fr3) st3 go) λr s4 ⟨u,hr,h4⟩=> ?_);subst hr;refine U1 hp (thn h4 λ_ s5 ⟨x,H5,I5,r5,y5,st5,fr5⟩=> ?_);have I5':=I5.pinned (stat fr5) (T.obj _ _ st5);refine U1 hp (thn (hg _ s5 σ3 H5 x u _ I5' r5 (step x H5 y5)) λ_ s6 ⟨σ6,H6,I6,q6⟩=> ?_);refine U1 hp (thn (hb _ s6 σ6 H6 _ I6 q6) λf s7 q7=> ?_);have again: ∀ {σ7:St} {H7:Hp},Inv X (pins++yR fp s5.heap) σ7 H7 s7->N σ7 H7-> ∃m,m<n/\ ∃i σ' H',Inv X pins σ' H' s7/\tn i s7.heap/\(∀b∈fp,H' b=none)/\W i m σ' H':=λ{σ7 H7} I7 n7=>by
   obtain⟨m',hm,w7⟩:=hN σ7 H7 n7;refine⟨m',hm,i+1,σ7,H7,I7.unpinned,T.keep _ _ _ st5 λb hb o e=>(I7.pin (b,o) (D2 _ (D2 _ (wb hb e)))).1,λb hb=> ?_,w7⟩;obtain⟨o,e,d⟩:=T.obj _ _ st5 b hb;exact(I7.pin (b,o) (D2 _ (D2 _ (wb hb e)))).2.1
  cases f with
  |next=>obtain⟨σ7,H7,I7,n7⟩:=q7;exact again I7 n7
  |cont=>obtain⟨σ7,H7,I7,n7⟩:=q7;exact again I7 n7
  |brk=>obtain⟨σ7,H7,I7,q7⟩:=q7;exact⟨σ7,H7,I7.unpinned,q7⟩
  |ret v=>obtain⟨x7,σ7,H7,I7,r7,q7⟩:=q7;exact⟨x7,σ7,H7,I7.unpinned,r7,q7⟩
end
abbrev R2:=V->V->Hp->VK->Prop
def OpR (X:Cx)(f:Value->Value->Sem Value)(r:R2):Prop:=
 ∀ (pins:List (Addr×Obj)) (s:Shared) (σ:St) (H:Hp) (x y:V) (v u:Value) (Q:VK),Inv X pins σ H s->RelV x v->RelV y u->r x y H Q->
  wpAny (model X.prog X.w) X.A (f v u) (EP X pins σ Q) X.xe s
def UnR (X:Cx)(f:Value->Sem Value)(r:V->Hp->VK->Prop):Prop:=
 ∀ (pins:List (Addr×Obj)) (s:Shared) (σ:St) (H:Hp) (x:V) (v:Value) (Q:VK),Inv X pins σ H s->RelV x v->r x H Q->
  wpAny (model X.prog X.w) X.A (f v) (EP X pins σ Q) X.xe s
def CallR (X:Cx)(f:Value)(r:List V->Hp->VK->Prop):Prop:=
 ∀ (pins:List (Addr×Obj)) (s:Shared) (σ:St) (H:Hp) (xs:List V) (us:List Value) (Q:VK),Inv X pins σ H s->Vals xs us->r xs H Q->
  wpAny (model X.prog X.w) X.A (call f us) (EP X pins σ Q) X.xe s
def tOp (r:R2)(ta tb:TE):TE:=λσ H Q=>ta σ H λx H1=>tb σ H1 λy H2=>r x y H2 Q
def tUn (r:V->Hp->VK->Prop)(ta:TE):TE:=λσ H Q=>ta σ H λx H1=>r x H1 Q
def rI (C:Int->Int->Prop)(g:Int->Int->V):R2:=λx y H Q=> ∃i j,x= .int i/\y= .int j/\C i j/\Q (g i j) H
def rI0 (g:Int->Int->V):R2:=λx y H Q=> ∃i j,x= .int i/\y= .int j/\Q (g i j) H
def rU (g:Int->V):V->Hp->VK->Prop:=λx H Q=> ∃i,x= .int i/\Q (g i) H
section
variable {X:Cx}{a b c:Expr}{ta tb tc:TE}{pos:Pos}
theorem Tn (ha:PE X a ta)(hb:PE X b tb){pins:List (Addr×Obj)}{s:Shared}{σ:St}{H:Hp}{R:V->V->Hp->Prop}(I:Inv X pins σ H s)
 (h:ta σ H λx H1=>tb σ H1 λy H2=>R x y H2){Q:Value->Shared->Prop}{f:Value->Value->Sem Value}
 (hf: ∀v u s2 x y H2,Inv X pins σ H2 s2->RelV x v->RelV y u->R x y H2->wpAny (model X.prog X.w) X.A (f v u) Q X.xe s2):
 wpAny (model X.prog X.w) X.A (eval a X.env) (λv s₁=>wpAny (model X.prog X.w) X.A (eval b X.env) (λu s₂=>wpAny (model X.prog X.w) X.A (f v u) Q X.xe s₂) X.xe s₁) X.xe s:=by
 refine thn (ha pins s σ H _ I h) λv s1 ⟨x,H1,I1,r1,q1⟩=> ?_
 refine thn (hb pins s1 σ H1 _ I1 q1) λu s2 ⟨y,H2,I2,r2,q2⟩=> ?_
 exact hf v u s2 x y H2 I2 r1 r2 q2
theorem To {op:Operator}{r:R2}(ho:OpR X (binaryOp op) r)(ha:PE X a ta)(hb:PE X b tb):PE X (.BinOp a op b pos) (tOp r ta tb):=by
 intro pins s σ H Q I h;exact wpAny_BinOp (Tn ha hb I h λv u s2 x y H2 I2 rx ry q=>ho pins s2 σ H2 x y v u Q I2 rx ry q)
theorem Tp {op:UnaryOp}{r:V->Hp->VK->Prop}(ho:UnR X (unaryOp op) r)(ha:PE X a ta):PE X (.UnaryOp op a pos) (tUn r ta):=by
 intro pins s σ H Q I h;exact UnaryOp_ (thn (ha pins s σ H _ I h) λv s1 ⟨x,H1,I1,r1,q1⟩=>ho pins s1 σ H1 x v Q I1 r1 q1)
variable {f:Value->Value->Sem Value}
theorem opI {C:Int->Int->Prop}{g:Int->Int->Int}
 (rule: ∀ (i j:Int) (t u:Tok) (s:Shared) (Q:Value->Shared->Prop) (E:Value->Shared->Prop),C i j->Q (.int (g i j) s.toks) {s with toks:=s.toks+1}->wpAny (model X.prog X.w) X.A (f (.int i t) (.int j u)) Q E s):
 OpR X f (rI C λi j=> .int (g i j)):=by
 intro pins s σ H x y v u Q I rx ry h;obtain⟨i,j,rfl,rfl,hc,q⟩:=h;obtain⟨t,rfl⟩:=rx;obtain⟨t',rfl⟩:=ry;exact rule i j t t' s _ _ hc ⟨.int (g i j),H,I.tok _,⟨_,rfl⟩,q⟩
theorem HW {g:Int->Int->Int}
 (rule: ∀ (i j:Int) (t u:Tok) (s:Shared) (Q:Value->Shared->Prop) (E:Value->Shared->Prop),Q (.int (g i j) s.toks) {s with toks:=s.toks+1}->wpAny (model X.prog X.w) X.A (f (.int i t) (.int j u)) Q E s):
 OpR X f (rI0 λi j=> .int (g i j)):=by
 intro pins s σ H x y v u Q I rx ry h;obtain⟨i,j,rfl,rfl,q⟩:=h;obtain⟨t,rfl⟩:=rx;obtain⟨t',rfl⟩:=ry;exact rule i j t t' s _ _ ⟨.int (g i j),H,I.tok _,⟨_,rfl⟩,q⟩
theorem SU {g:Int->Int->Bool}
 (rule: ∀ (i j:Int) (t u:Tok) (s:Shared) (Q:Value->Shared->Prop) (E:Value->Shared->Prop),Q (.bool (g i j)) s->wpAny (model X.prog X.w) X.A (f (.int i t) (.int j u)) Q E s):
 OpR X f (rI0 λi j=> .bl (g i j)):=by
 intro pins s σ H x y v u Q I rx ry h;obtain⟨i,j,rfl,rfl,q⟩:=h;obtain⟨t,rfl⟩:=rx;obtain⟨t',rfl⟩:=ry;exact rule i j t t' s _ _ ⟨.bl (g i j),H,I,rfl,q⟩
def HX (i j:Int):Prop:=0<j/\j<1073741824
def HY (i j:Int):Prop:=0<=j/\j<=1000000/\i.natAbs<2^64
def CMul (i j:Int):Prop:=(-(2^64)<i/\i<2^64)\/(-(2^64)<j/\j<2^64)
theorem CMul.ok {i j:Int}(h:CMul i j):IntMulOk i j:=by
 rcases h with ⟨h1,h2⟩|⟨h1,h2⟩
 ·exact .of_left (intBits_le_64 h1 h2)
 ·exact .of_right (intBits_le_64 h1 h2)
theorem op_add:OpR X (binaryOp .Add) (rI0 λi j=> .int (i+j)):=HW λ_ _ _ _ _ _ _ q=>add_int q
theorem As:OpR X (binaryOp .Sub) (rI0 λi j=> .int (i-j)):=HW λ_ _ _ _ _ _ _ q=>sub_int q
theorem op_mul:OpR X (binaryOp .Mult) (rI CMul λi j=> .int (i*j)):=opI λ_ _ _ _ _ _ _ hc q=>mul_int q hc.ok
theorem Fe:OpR X (binaryOp .FloorDiv) (rI HX λi j=> .int (i / j)):=opI λi j _ _ _ _ _ hc q=>by
 have h1:(0:Int)<j:=hc.1;have h2:j<1073741824:=hc.2;exact floordiv_int (by omega) (by rw [G0I i (by omega)];exact q) (.inl (PyProof.noPylong_small (by omega)))
theorem Au:OpR X (binaryOp .Mod) (rI (λ_ j=>0<j) λi j=> .int (i%j)):=opI λi j _ _ _ _ _ hc q=>by
 have h1:(0:Int)<j:=hc;exact mod_int' (by omega) (by rw [G0J i (by omega)];exact q)
theorem Av:OpR X (binaryOp .Pow) (rI HY λi j=> .int (i^j.toNat)):=opI λ_ _ _ _ _ _ _ hc q=>pow_int_small hc.1 hc.2.1 hc.2.2 q
theorem unI {f:Value->Sem Value}{g:Int->Int}
 (rule: ∀ (i:Int) (t:Tok) (s:Shared) (Q:Value->Shared->Prop) (E:Value->Shared->Prop),Q (.int (g i) s.toks) {s with toks:=s.toks+1}->wpAny (model X.prog X.w) X.A (f (.int i t)) Q E s):
 UnR X f (rU λi=> .int (g i)):=by
 intro pins s σ H x v Q I rx h;obtain⟨i,rfl,q⟩:=h;obtain⟨t,rfl⟩:=rx;exact rule i t s _ _ ⟨.int (g i),H,I.tok _,⟨_,rfl⟩,q⟩
theorem Aw:UnR X (unaryOp .USub) (rU λi=> .int (-i)):=unI λ_ _ _ _ _ q=>neg_int q
end
def HZ:V->V->Bool
 | .non,.non=>true| .non,.int _=>true| .int _,.non=>true| .non,.bl _=>true| .bl _,.non=>true| .non,.str _=>true| .str _,.non=>true
 | .int _,.int _=>true| .bl _,.bl _=>true| .str _,.str _=>true| .byt _,.byt _=>true
 | .int _,.str _=>true| .str _,.int _=>true| .bl _,.str _=>true| .str _,.bl _=>true
 |_,_=>false
def rEq:R2:=λx y H Q=>HZ x y=true/\Q (.bl (decide (x=y))) H
def rNe:R2:=λx y H Q=>HZ x y=true/\Q (.bl (!decide (x=y))) H
theorem Dk {i j:Int}:decide (V.int i=V.int j)=(i==j):=by
 rw [C5];simp
theorem BZ {i j:Bool}:decide (V.bl i=V.bl j)=(i==j):=by
 rw [C5];simp
theorem Dl {i j:Str}:decide (V.str i=V.str j)=(i==j):=by
 rw [C5];simp
theorem Dm {i j:Array UInt8}:decide (V.byt i=V.byt j)=(i.toList==j.toList):=by
 rw [C5];cases i;cases j;simp
section
variable {X:Cx}{a b c:Expr}{ta tb tc:TE}{pos:Pos}
theorem jM {pins:List (Addr×Obj)}{σ:St}{H:Hp}{s:Shared}{Q:VK}{k k':Bool}(I:Inv X pins σ H s)(q:Q (.bl k) H)(e:k=k'):EP X pins σ Q (.bool k') s:=by
 subst e;exact⟨.bl k,H,I,rfl,q⟩
theorem op_eq:OpR X (compareOp .Eq) rEq:=by
 intro pins s σ H x y v u Q I rx ry h;obtain⟨hs,q⟩:=h;cases x with
 |non=>
  cases rx;cases y with
  |non=>cases ry;exact PySem.EqNone.eq_none_none (jM I q (by simp))
  |bl j=>cases ry;exact PySem.EqNone.eq_none_bool (jM I q (by simp))
  |int j=>obtain⟨t',rfl⟩:=ry;exact PySem.EqNone.eq_none_int (jM I q (by simp))
  |str j=>obtain⟨t',rfl⟩:=ry;exact PySem.EqNone.eq_none_str (jM I q (by simp))
  |_=>exact absurd (show false=true from hs) P5
 |bl i=>
  cases rx;cases y with
  |non=>cases ry;exact PySem.EqNone.eq_bool_none (jM I q (by simp))
  |bl j=>cases ry;exact eq_bool (jM I q BZ)
  |str j=>obtain⟨t',rfl⟩:=ry;exact PySem.EqMixed.eq_bool_str (jM I q (by simp))
  |_=>exact absurd (show false=true from hs) P5
 |int i=>
  obtain⟨t,rfl⟩:=rx;cases y with
  |non=>cases ry;exact PySem.EqNone.eq_int_none (jM I q (by simp))
  |int j=>obtain⟨t',rfl⟩:=ry;exact eq_int (jM I q Dk)
  |str j=>obtain⟨t',rfl⟩:=ry;exact PySem.EqMixed.eq_int_str (jM I q (by simp))
  |_=>exact absurd (show false=true from hs) P5
 |str i=>
  obtain⟨t,rfl⟩:=rx;cases y with
  |non=>cases ry;exact PySem.EqNone.eq_str_none (jM I q (by simp))
  |bl j=>cases ry;exact PySem.EqMixed.eq_str_bool (jM I q (by simp))
  |int j=>obtain⟨t',rfl⟩:=ry;exact PySem.EqMixed.eq_str_int (jM I q (by simp))
  |str j=>obtain⟨t',rfl⟩:=ry;exact eq_str (jM I q Dl)
  |_=>exact absurd (show false=true from hs) P5
 |byt i=>
  obtain⟨t,rfl⟩:=rx;cases y with
  |byt j=>obtain⟨t',rfl⟩:=ry;exact PySem.W.eq_bytes (jM I q Dm)
  |_=>exact absurd (show false=true from hs) P5
 |_=>cases y<;>exact absurd (show false=true from hs) P5
theorem op_ne:OpR X (compareOp .NotEq) rNe:=by
 intro pins s σ H x y v u Q I rx ry h;obtain⟨hs,q⟩:=h;cases x with
 |non=>
  cases rx;cases y with
  |non=>cases ry;exact PySem.EqNone.ne_none_none (jM I q (by simp))
  |bl j=>cases ry;exact PySem.EqNone.ne_none_bool (jM I q (by simp))
  |int j=>obtain⟨t',rfl⟩:=ry;exact PySem.EqNone.ne_none_int (jM I q (by simp))
  |str j=>obtain⟨t',rfl⟩:=ry;exact PySem.EqNone.ne_none_str (jM I q (by simp))
  |_=>exact absurd (show false=true from hs) P5
 |bl i=>
  cases rx;cases y with
  |non=>cases ry;exact PySem.EqNone.ne_bool_none (jM I q (by simp))
  |bl j=>cases ry;exact ne_bool (jM I q (congrArg not BZ))
  |str j=>obtain⟨t',rfl⟩:=ry;exact PySem.EqMixed.ne_bool_str (jM I q (by simp))
  |_=>exact absurd (show false=true from hs) P5
 |int i=>
  obtain⟨t,rfl⟩:=rx;cases y with
  |non=>cases ry;exact PySem.EqNone.ne_int_none (jM I q (by simp))
  |int j=>obtain⟨t',rfl⟩:=ry;exact ne_int (jM I q (congrArg not Dk))
  |str j=>obtain⟨t',rfl⟩:=ry;exact PySem.EqMixed.ne_int_str (jM I q (by simp))
  |_=>exact absurd (show false=true from hs) P5
 |str i=>
  obtain⟨t,rfl⟩:=rx;cases y with
  |non=>cases ry;exact PySem.EqNone.ne_str_none (jM I q (by simp))
  |bl j=>cases ry;exact PySem.EqMixed.ne_str_bool (jM I q (by simp))
  |int j=>obtain⟨t',rfl⟩:=ry;exact PySem.EqMixed.ne_str_int (jM I q (by simp))
  |str j=>obtain⟨t',rfl⟩:=ry;exact ne_str (jM I q (congrArg not Dl))
  |_=>exact absurd (show false=true from hs) P5
 |byt i=>
  obtain⟨t,rfl⟩:=rx;cases y with
  |byt j=>obtain⟨t',rfl⟩:=ry;exact PySem.W.ne_bytes (jM I q (congrArg not Dm))
  |_=>exact absurd (show false=true from hs) P5
 |_=>cases y<;>exact absurd (show false=true from hs) P5
theorem Tq:OpR X (compareOp .Lt) (rI0 λi j=> .bl (decide (i<j))):=SU λ_ _ _ _ _ _ _ q=>lt_int q
theorem Tr:OpR X (compareOp .LtE) (rI0 λi j=> .bl (decide (i<=j))):=SU λ_ _ _ _ _ _ _ q=>le_int q
theorem Tt:OpR X (compareOp .Gt) (rI0 λi j=> .bl (decide (j<i))):=SU λ_ _ _ _ _ _ _ q=>gt_int q
theorem Tu:OpR X (compareOp .GtE) (rI0 λi j=> .bl (decide (j<=i))):=SU λ_ _ _ _ _ _ _ q=>ge_int q
variable {r:R2}
theorem OpR.or {f:Value->Value->Sem Value}{r':R2}(h:OpR X f r)(h':OpR X f r'):OpR X f (λx y H Q=>r x y H Q\/r' x y H Q):=by
 intro pins s σ H x y v u Q I rx ry q;rcases q with q|q
 ·exact h pins s σ H x y v u Q I rx ry q
 ·exact h' pins s σ H x y v u Q I rx ry q
theorem jE (b:Expr){op:CmpOp}(h:op≠ .In:=by decide)(h2:op≠ .NotIn:=by decide):behindInMarks op b=false:=by
 have e1:(op==CmpOp.In)=false:=by cases op<;>first|rfl|exact absurd rfl h
 have e2:(op==CmpOp.NotIn)=false:=by cases op<;>first|rfl|exact absurd rfl h2
 cases b<;>simp [behindInMarks,e1,e2]
theorem Ff {op:CmpOp}(ho:OpR X (compareOp op) r)(ha:PE X a ta)(hb:PE X b tb)(hm:behindInMarks op b=false):PE X (.Compare a [op] [b] pos) (tOp r ta tb):=by
 intro pins s σ H Q I h;exact wpAny_Compare1 (Tn ha hb I h λv u s2 x y H2 I2 rx ry q=>ho pins s2 σ H2 x y v u Q I2 rx ry q) hm
def Fg (t:TE):TT:=λσ H Q=>t σ H λx H'=> ∃k,x= .bl k/\Q k H'
theorem Fh {op:CmpOp}(ho:OpR X (compareOp op) r)(ha:PE X a ta)(hb:PE X b tb)(hm:behindInMarks op b=false):PT X (.Compare a [op] [b] pos) (Fg (tOp r ta tb)):=by
 intro pins s σ H Q I h;refine wpAny_isTrue_Compare1 (thn (ha pins s σ H _ I h) λv s1 ⟨x,H1,I1,r1,q1⟩=>thn (hb pins s1 σ H1 _ I1 q1) λu s2 ⟨y,H2,I2,r2,q2⟩=>
  thn (ho pins s2 σ H2 x y v u _ I2 r1 r2 q2) λc s3 ⟨z,H3,I3,r3,k,e,q3⟩=> ?_) hm
 subst e;cases r3;exact O0 ⟨H3,I3,q3⟩
def Ca (r r':R2)(ta tb tc:TE):TE:=λσ H Q=>ta σ H λx H1=>tb σ H1 λy H2=>r x y H2 λz H3=> ∃k,z= .bl k/\
 (if k=true then tc σ H3 λw' H4=>r' y w' H4 Q else Q (.bl false) H3)
theorem Nj {op op':CmpOp}{r':R2}(ho:OpR X (compareOp op) r)(ho':OpR X (compareOp op') r')(ha:PE X a ta)(hb:PE X b tb)(hc:PE X c tc)
 (hm:lastMarks [op,op'] [b,c]=false:=by with_unfolding_all rfl):PT X (.Compare a [op,op'] [b,c] pos) (Fg (Ca r r' ta tb tc)):=by
 intro pins s σ H Q I h;refine isTrue_chain (thn (ha pins s σ H _ I h) λv s1 ⟨x,H1,I1,r1,q1⟩=>test_link (thn (hb pins s1 σ H1 _ I1 q1) λu s2 ⟨y,H2,I2,r2,q2⟩=>
  thn (ho pins s2 σ H2 x y v u _ I2 r1 r2 q2) λd s3 ⟨z,H3,I3,r3,k,e,q3⟩=> ?_)) hm
 subst e;cases r3;refine O0 ?_;cases k with
 |false=>
  obtain⟨k',e',q'⟩:=q3;cases e';exact ite_ff ⟨H3,I3,q'⟩
 |true=>
  refine ite_tt (test_last (thn (hc pins s3 σ H3 _ I3 q3) λw' s4 ⟨z',H4,I4,r4,q4⟩=>thn (ho' pins s4 σ H4 y z' u w' _ I4 r2 r4 q4) λd' s5 ⟨z2,H5,I5,r5,k2,e2,q5⟩=> ?_));subst e2;cases r5;exact O0 ⟨H5,I5,q5⟩
theorem VC:(sizeLine:Nat)<2^63:=by rw [sizeLine_eq];decide
theorem vz {x:V}{us:List Value}(r:Vals [x] us): ∃u,us= [u]/\RelV x u:=by
 cases r with
 |cons r1 r2=>cases r2;exact⟨_,rfl,r1⟩
theorem Do {x y:V}{us:List Value}(r:Vals [x,y] us): ∃u w',us= [u,w']/\RelV x u/\RelV y w':=by
 cases r with
 |cons r1 r2=>
  cases r2 with
  |cons r3 r4=>cases r4;exact⟨_,_,rfl,r1,r3⟩
theorem Dp (hc:X.calm=true):CallR X (.builtin "max") (λxs H Q=> ∃i j,xs= [.int i,.int j]/\Q (.int (if j>i then j else i)) H):=by
 intro pins s σ H xs us Q I r h;obtain⟨i,j,rfl,q⟩:=h;obtain⟨u,w',rfl,⟨t,rfl⟩,⟨t',rfl⟩⟩:=Do r;refine max_two_ints (I.ok.hd hc) λh' tk k=>⟨_,H,I.kept k,?_,q⟩
 by_cases hj:j>i
 ·rw [if_pos hj,if_pos hj];exact⟨_,rfl⟩
 ·rw [if_neg hj,if_neg hj];exact⟨_,rfl⟩
theorem call_int1:CallR X (.type "int") (λxs H Q=>(∃i,xs= [.int i]/\Q (.int i) H)\/ ∃k,xs= [.bl k]/\Q (.int (if k then 1 else 0)) H):=by
 intro pins s σ H xs us Q I r h;rcases h with ⟨i,rfl,q⟩|⟨k,rfl,q⟩
 ·obtain⟨u,rfl,t,rfl⟩:=vz r;exact call_int_int ⟨.int i,H,I,⟨_,rfl⟩,q⟩
 ·obtain⟨u,rfl,r1⟩:=vz r;cases r1;exact call_int_bool ⟨.int (if k then 1 else 0),H,I.tok _,⟨_,rfl⟩,q⟩
end
structure ObjM (h:Heap)(x dx C:Addr)(mA:Str->Option Value):Prop where
 obj:h.get? x=some (PySem.W.instObj C dx)
 ns:h.Ns1 dx mA
 ne:dx≠x
theorem Dq {dx:Addr}{mA:Str->Option Value}(n:h.Ns1 dx mA): ∃od,h.get? dx=some od/\ ∀name,PySem.W.lookIn name od=some (mA name):=by
 obtain⟨o,es,ep,ho,hd,hk,_,hm⟩:=n;refine⟨o,ho,λname=> ?_⟩;have e:=hm name;unfold nsFind findBy at e;rw [<-Array.find?_toList] at e;unfold PySem.W.lookIn;rw [hd];dsimp only;split
 ·rename_i y q;rw [q] at e;exact congrArg some e
 ·rename_i q;rw [q] at e;have a:es.toList.any (·.refKey)=false:=by
   rw [List.any_eq_false];intro y hy;obtain⟨z,t,hkey⟩:=hk y (G1t.mp hy);simp [DictEntry.refKey,hkey]
  have a': ¬es.toList.any (·.refKey)=true:=by rw [a];exact P5
  rw [if_neg a'];exact congrArg some e
theorem ObjM.look {x dx C:Addr}{mA:Str->Option Value}(I:ObjM h x dx C mA): ∃od,PySem.W.InstAt h x (PySem.W.instObj C dx) C (some od)/\ ∀name,PySem.W.lookIn name od=some (mA name):=
 let ⟨od,ho,hl⟩:=Dq I.ns
 ⟨od,⟨I.obj,rfl,rfl,ho⟩,hl⟩
section
variable {P:Program}{w:World}{H H':Hp}{h h':Heap}{a C dx:Addr}{fs fs':List (Str×V)}
theorem Fi (hok:HOk P w H h)(e:H a=some (.ins C dx fs)): ∃mA,ObjM h a dx C mA/\(∀f,Te (fs.lookup f) (mA f))/\PySem.Within mA (fs.map (·.1))/\fs.length<=1000/\H dx=some (.own a):=by
 obtain⟨d,z,ne,ob,mA,n,r,q⟩:=(show ObjOk P w H h a (.ins C dx fs) from hok a _ e);exact⟨mA,⟨ob,n,ne⟩,r,q,z,d⟩
end
structure Cls (K:PySem.W.Frag)(C:Addr):Prop where
 pg:PySem.W.plainGet K C Str.empty=true
 hd:PySem.W.hasDictIn K C=true
 po:PySem.W.plainOver K C=true
 sa:PySem.W.findIn K (.ref C) "__setattr__" =some (some (.builtin "object.__setattr__"))
theorem Cls.get {C:Addr}(c:Cls K C)(f:Str):PySem.W.plainGet K C f=true:=c.pg
structure Con (K:PySem.W.Frag)(C:Addr)(f:Str)(v:V)(u:Value):Prop where
 at_:PySem.W.findIn K (.ref C) f=some (some u)
 rel:RelV v u
 get:PySem.W.specialIn K u "__get__" =some none
 cp:PySem.W.copiedNames.contains f=false
structure Meth (K:PySem.W.Frag)(C:Addr)(m:Str)(f:Addr):Prop where
 at_:PySem.W.findIn K (.ref C) m=some (some (.ref f))
 fn:PySem.W.isFn K (.ref f)=true
 kp:PySem.W.keepIn K (.ref f)=true
section
variable {X:Cx}{pins:List (Addr×Obj)}{σ:St}{H:Hp}{s:Shared}{A:Around}{E:Value->Shared->Prop}{Q:Value->Shared->Prop}{c:Value}{b:Bool}
inductive TyOf (K:PySem.W.Frag)(H:Hp):V->Value->Prop where
 |non:TyOf K H .non (.type "NoneType")
 |bl (x:Bool):TyOf K H (.bl x) (.type "bool")
 |int (i:Int):TyOf K H (.int i) (.type "int")
 |str (x:Str):TyOf K H (.str x) (.type "str")
 |flt (x:UInt64):TyOf K H (.flt x) (.type "float")
 |lst {a:Addr} {xs:List V} (e:H a=some (.lst xs)):TyOf K H (.ref a) (.type "list")
 |frz {a:Addr} {o:Obj} {xs:List V} (e:H a=some (.frz o (.lst xs))):TyOf K H (.ref a) (.type "list")
 |tup {a:Addr} {xs:List V} (e:H a=some (.tup xs)):TyOf K H (.ref a) (.type "tuple")
 |dK {a:Addr} {kvs:List (Key×V)} (e:H a=some (.dK kvs)):TyOf K H (.ref a) (.type "dict")
 |dT {a:Addr} {kvs:List (List Key×V)} (e:H a=some (.dT kvs)):TyOf K H (.ref a) (.type "dict")
 |ins {a C dx:Addr} {fs:List (Str×V)} (e:H a=some (.ins C dx fs)) (cl:Cls K C) (ha:PySem.W.findIn K (.ref C) "__class__" =some (some (.builtin "object.__class__")))
  (hn:PySem.W.specialIn K (.builtin "object.__class__") "__get__" =some (some (.builtin "getset_descriptor.__get__"))) (htk:PySem.W.takesIn K (.builtin "object.__class__")=some true)
  (hm:PySem.W.mroIn K C (.type "object")=some true):TyOf K H (.ref a) (.ref C)
theorem Dr {x:V}{u t:Value}(I:Inv X pins σ H s)(rx:RelV x u)(ty:TyOf X.K H x t)(e:PySem.W.kitOne X.K t c=some b)(h: ∀tk,Q (.bool b) {s with toks:=tk}):
 wpAny (model X.prog X.w) A (call (.builtin "isinstance") [u,c]) Q E s:=by
 cases ty with
 |non=>cases (show u=Value.none from rx);exact O7 PySem.W.kitx_none I.kIn True.intro e (λz=>nomatch z) h
 |bl y=>cases (show u=Value.bool y from rx);exact O7 PySem.W.kitx_bool I.kIn True.intro e (λz=>nomatch z) h
 |int i=>obtain⟨t,q⟩:=(show ∃t,u=Value.int i t from rx);cases q;exact O7 PySem.W.kitx_int I.kIn True.intro e (λz=>nomatch z) h
 |str y=>obtain⟨t,q⟩:=(show ∃t,u=Value.str y t from rx);cases q;exact O7 PySem.W.kitx_str I.kIn True.intro e (λz=>nomatch z) h
 |flt y=>obtain⟨t,q⟩:=(show ∃t,u=Value.float y t from rx);cases q;exact O7 PySem.W.kitx_float I.kIn True.intro e (λz=>nomatch z) h
 | @lst a xs ea=>
  cases (show u=Value.ref a from rx);obtain⟨_,_,n,_,h1⟩:=(show ObjOk X.prog X.w H s.heap a (.lst xs) from I.hok a _ ea);exact O7 PySem.W.kitx_list I.kIn ⟨_,h1,rfl⟩ e (λz=>nomatch z) h
 | @frz a ob xs ea=>
  cases (show u=Value.ref a from rx);obtain⟨_,_,_,n,_,h1⟩:=(show ObjOk X.prog X.w H s.heap a (.frz ob (.lst xs)) from I.hok a _ ea);exact O7 PySem.W.kitx_list I.kIn ⟨_,h1,rfl⟩ e (λz=>nomatch z) h
 | @tup a xs ea=>
  cases (show u=Value.ref a from rx);obtain⟨_,_,_,p⟩:=(show ObjOk X.prog X.w H s.heap a (.tup xs) from I.hok a _ ea);obtain⟨o,h1,h2,_⟩:=p;exact O7 PySem.W.kitx_tuple I.kIn ⟨o,h1,h2⟩ e (λz=>nomatch z) h
 | @dK a kvs ea=>
  cases (show u=Value.ref a from rx);obtain⟨_,_,vs,_,p⟩:=(show ObjOk X.prog X.w H s.heap a (.dK kvs) from I.hok a _ ea);obtain⟨o,es,ep,h1,h2,_⟩:=p;exact O7 PySem.W.kitx_dict I.kIn ⟨o,h1,h2.1⟩ e (λz=>nomatch z) h
 | @dT a kvs ea=>
  cases (show u=Value.ref a from rx);obtain⟨_,_,xs,_,o,es,ep,h1,h2,_⟩:=(show ObjOk X.prog X.w H s.heap a (.dT kvs) from I.hok a _ ea);exact O7 PySem.W.kitx_dict I.kIn ⟨o,h1,h2.1⟩ e (λz=>nomatch z) h
 | @ins a C dx fs ea cl ha hn htk hm=>
  cases (show u=Value.ref a from rx);obtain⟨mA,O,_⟩:=Fi I.hok ea;obtain⟨od,J,_⟩:=O.look;exact O7 (PySem.W.kitx_own (cl.get _) cl.hd ha hn htk hm) I.kIn J e (λz=>nomatch z) h
end
structure Room (k:Nat)(A:Around):Prop where
 hd:A.handled=none
 dp:A.depth+3*k+5<recursionLimit
 un:A.units+16*k+200<cLine
 gd:A.guards=some []
variable {k:Nat}
theorem Room.mono {j:Nat}(r:Room k A)(h:j<=k):Room j A:=⟨r.hd,by have:=r.dp;omega,by have:=r.un;omega,r.gd⟩
theorem Room.deeper (r:Room (k+1) A)(env:Env):Room k (A.deeper env):=
 ⟨r.hd,by have:=r.dp;show A.depth+1+3*k+5<_;omega,by have:=r.un;show A.units+3+16*k+200<_;omega,r.gd⟩
theorem Room.depth (r:Room k A):A.depth<recursionLimit:=by have:=r.dp;omega
theorem Room.units (r:Room k A):A.units+64<cLine:=by have:=r.un;omega
def Tv:TA:=λ_ H Q=>Q [] H
def Nk (ta:TE)(tr:TA):TA:=λσ H Q=>ta σ H λx H1=>tr σ H1 λxs H2=>Q (x::xs) H2
section
variable {X:Cx}{e:Expr}{es:List Expr}{te:TE}{t:TA}{pos:Pos}
theorem pa_nil:PA X [] Tv:=λ_ _ _ _ H Q I h=>G0Y ⟨[],H,I,.nil,h⟩
theorem zr (ha:PE X e te)(hr:PA X es t)(hs:starEach (e::es) X.env=(false,eval e X.env)::starEach es X.env:=by rfl):PA X (e::es) (Nk te t):=by
 intro pos pins s σ H Q I h;rw [hs];show wpAny _ _ (spliced ((false,eval e X.env)::backTo pos (starEach es X.env))) _ _ s;refine Y7 (thn (ha pins s σ H _ I h) λu s1 ⟨x,H1,I1,r1,q1⟩=> ?_);exact thn (hr pos pins s1 σ H1 _ I1 q1) λus s2 ⟨xs,H2,I2,r2,q2⟩=>⟨x::xs,H2,I2,.cons r1 r2,q2⟩
def Ka (t:TA):TE:=λσ H Q=>t σ H λxs H1=>xs.length<=sizeLine/\ ∀p,H1 p=none->Q (.ref p) (upd H1 p (.tup xs))
def Kb (t:TA):TE:=λσ H Q=>t σ H λxs H1=>xs.length<=sizeLine/\ ∀p,H1 p=none->Q (.ref p) (upd H1 p (.lst xs))
theorem Ax {x1}(h:PA X es t):PE X (.Tuple es x1 pos) (Ka t):=by
 intro pins s σ H Q I hq;refine wpAny_Tuple_spliced (thn (h pos pins s σ H _ I hq) λus s1 ⟨xs,H1,I1,r,z,q⟩=>⟨by rw [<-r.length];exact z,?_⟩);have hf:H1 s1.heap.objs.size=none:=I1.hok.fresh (G5 _);refine⟨.ref s1.heap.objs.size,upd H1 s1.heap.objs.size (.tup xs),I1.laid (t':=s1.toks) (λb u e=>G1 _ e) (G5 _) ?_,rfl,q _ hf⟩;exact⟨z,us,r,IsTupN.new _ _⟩
theorem Ay (h:PA X es t):PE X (.List es pos) (Kb t):=by
 intro pins s σ H Q I hq;refine wpAny_List_spliced (thn (h pos pins s σ H _ I hq) λus s1 ⟨xs,H1,I1,r,z,q⟩=>⟨by rw [<-r.length];exact z,?_⟩);have hf:H1 s1.heap.objs.size=none:=I1.hok.fresh (G5 _);refine⟨.ref s1.heap.objs.size,upd H1 s1.heap.objs.size (.lst xs),I1.laid (t':=s1.toks) (λb u e=>G1 _ e) (G5 _) ?_,rfl,q _ hf⟩;exact⟨z,us,0,r,D0 _ rfl⟩
end
abbrev Sp:=List V->Hp->VK->XK->Prop
abbrev CXT:=List Env->Hp->Shared->XK->Value->Shared->Prop
structure Env0 (P:Program)(w:World)(K:PySem.W.Frag)(mg:Str->Option Value)(base:Heap)(A:Around)(outer:List Env)(s:Shared)(H:Hp):Prop where
 frames:A.frames=some outer
 mod:Mod K mg base
 bs: ∀b o,base.get? b=some o->s.heap.get? b=some o/\H b=none
 bsz:base.objs.size<=s.heap.objs.size
 funs:s.heap.FunFrames base outer
 frf: ∀b∈frs outer,H b=none
 hok:HOk P w H s.heap
 bare:AllBare s.gens
def CE (outer:List Env)(P:Program)(w:World)(H:Hp)(s:Shared)(Q:VK)(u:Value)(s':Shared):Prop:=
 ∃v H',s'.os=s.os/\AllBare s'.gens/\Un (frs outer) [] H H' s.heap s'.heap/\HOk P w H' s'.heap/\RelV v u/\Q v H'
def CR (CX:CXT)(outer:List Env)(P:Program)(w:World)(H:Hp)(s:Shared)(Q:VK)(E:XK)(r:Result)(s':Shared):Prop:=
 match r with
 | .ok (.ret u)=>CE outer P w H s Q u s'
 | .ok _=>False
 | .error e=>CX outer H s E e s'
structure FnOk (P:Program)(w:World)(K:PySem.W.Frag)(mg:Str->Option Value)(base:Heap)(CX:CXT)(k:Nat)(f:Addr)(fd:FuncData)(ps:List Str)(sp:Sp):Prop where
 len: ∀vs H Q E,sp vs H Q E->vs.length=ps.length
 run: ∀ (A:Around) (outer:List Env) (s:Shared) (H:Hp) (args:Args) (us:List Value) (vs:List V) (Q:VK) (E:XK),Room k A->Env0 P w K mg base A outer s H->BindsTo s fd args (ps.zip us)->Vals vs us->sp vs H Q E->
  codeAny (model P w) A (.call (.ref f) args) (CR CX outer P w H s Q E) s
section
variable {X:Cx}{pins:List (Addr×Obj)}{σ:St}{H:Hp}{s s':Shared}
theorem Inv.env0 (I:Inv X pins σ H s):Env0 X.prog X.w X.K X.mg X.base X.A X.stack s H:=
 ⟨I.ok.frames,I.ok.mod,I.bs,P7 I.ok.bsz I.sz,I.stack,I.stkFree,I.hok,I.bare⟩
theorem Inv.after {Q:VK}{u:Value}(I:Inv X pins σ H s)(h:CE X.stack X.prog X.w H s Q u s'):EP X pins σ Q u s':=by
 obtain⟨v,H',os,bare,un,hok,r,q⟩:=h;obtain⟨hh,g,d,t,os'⟩:=s';obtain rfl:os'=s.os:=os;exact⟨v,H',I.call (h':=hh) (g':=g) (d':=d) (t':=t) (ch:= []) un hok bare (λb z=>absurd z (by simp)),r,q⟩
end
def Fj (sp:Sp)(dvs:List V)(E:XK)(t:TA):TE:=λσ H Q=>t σ H λvs H1=>sp (vs++dvs) H1 Q E
def Binds (K:PySem.W.Frag)(fd:FuncData)(ps:List Str)(ds:List Value):Prop:=
 ∀ (s:Shared) (us:List Value),K.In s.heap->(us++ds).length=ps.length->BindsTo s fd ⟨us,[]⟩ (ps.zip (us++ds))
theorem Binds.all {fd:FuncData}{ps:List Str}(h: ∀us:List Value,us.length=ps.length->bindArgs fd ⟨us,[]⟩=pure (ps.zip us)):Binds K fd ps []:=λs us _ hl=>by
 rw [B7] at hl ⊢;exact .of_eq (h us hl)
def Zk (CX:CXT)(X:Cx)(E:XK):Prop:= ∀ (pins:List (Addr×Obj)) (σ:St) (H:Hp) (s:Shared) (e:Value) (s':Shared),Inv X pins σ H s->CX X.stack H s E e s'->X.xe e s'
section
variable {X:Cx}{CX:CXT}{k:Nat}{f C:Addr}{fd:FuncData}{ps:List Str}{sp:Sp}{dvs:List V}{ds:List Value}{E:XK}{x m:Str}{p pos apos:Pos}{e o:Expr}{es:List Expr}{ta:TE}{t:TA}
theorem Az {pins:List (Addr×Obj)}{σ:St}{H:Hp}{s:Shared}{Q:VK}{us:List Value}{vs:List V}(F:FnOk X.prog X.w X.K X.mg X.base CX k f fd ps sp)(hr:Room k X.A)(hb:Binds X.K fd ps ds)(hd:Vals dvs ds)(hx:Zk CX X E)
 (I:Inv X pins σ H s)(r:Vals vs us)(h:sp (vs++dvs) H Q E):wpAny (model X.prog X.w) X.A (call (.ref f) us) (EP X pins σ Q) X.xe s:=by
 have r2:Vals (vs++dvs) (us++ds):=r.append hd;have hl:(us++ds).length=ps.length:=by rw [<-r2.length];exact F.len _ _ _ _ h
 refine V4 (W3 (F.run X.A X.stack s H ⟨us,[]⟩ (us++ds) (vs++dvs) Q E hr I.env0 (hb s us I.kIn hl) r2 h) λr s' hq=> ?_);cases r with
 |error e=>exact hx pins σ H s e s' I hq
 |ok fl=>
  cases fl with
  |ret u=>exact I.after hq
  |next=>exact False.elim hq
  |brk=>exact False.elim hq
  |cont=>exact False.elim hq
theorem Ds (F:FnOk X.prog X.w X.K X.mg X.base CX k f fd ps sp)(hr:Room k X.A)(hg:Gl X x)(hm:X.mg x=some (.ref f))(hk:PySem.W.keepIn X.K (.ref f)=true)(hb:Binds X.K fd ps ds)(hd:Vals dvs ds)(hx:Zk CX X E)
 (ha:PA X (e::es) t)(hdb:(x==("__debug__" :Str))=false:=by decide)(he:starEach (e::es) X.env=(false,eval e X.env)::starEach es X.env:=by rfl)(hpl:(backTo pos (starEach es X.env)).any (·.1)=false:=by rfl):
 PE X (.Call (.Name x p) (e::es) [] pos) (Fj sp dvs E t):=by
 intro pins s σ H Q I h;refine I0 (Jb I hg hm ?_ hdb);refine G0P (h₀:=X.base) I.ok.mod.kin hk (thn (ha pos pins s σ H _ I h) λus s1 ⟨vs,H1,I1,r,q⟩=>⟨I1.kIn,?_⟩) he hpl;exact Az F hr hb hd hx I1 r q
structure Mk (K:PySem.W.Frag)(C f:Addr):Prop where
 makes:PySem.W.makesIn K C=true
 init:PySem.W.findIn K (.ref C) "__init__" =some (some (.ref f))
 fn:PySem.W.isFn K (.ref f)=true
 kp:PySem.W.keepIn K (.ref C)=true
end
section
variable {X:Cx}{CX:CXT}{k:Nat}{f C:Addr}{fd:FuncData}{ps ks:List Str}{sp:Sp}{E:XK}{x m:Str}{p pos apos kpos:Pos}{e o:Expr}{es:List Expr}{kws:List Keyword}{te ta:TE}{t tk:TA}{nm:Option Str}
structure KBinds (K:PySem.W.Frag)(fd:FuncData)(ps ks:List Str)(g:List Value->List Value->List Value)(gV:List V->List V->List V):Prop where
 to: ∀ (s:Shared) (us ws:List Value),K.In s.heap->(g us ws).length=ps.length->BindsTo s fd ⟨us,ks.zip ws⟩ (ps.zip (g us ws))
 rel: ∀ {vs:List V} {us:List Value} {zs:List V} {ws:List Value},Vals vs us->Vals zs ws->Vals (gV vs zs) (g us ws)
variable {g:List Value->List Value->List Value}{gV:List V->List V->List V}
end
structure FnScope (N P:List Str)(sc:Scope):Prop where
 kind:sc.kind= .function
 co:sc.isCoroutine=false
 gen:sc.isGenerator=false
 nd:N.Nodup
 pre:N.take P.length=P
 par: ∀x∈P,sc.names.lookup x=some .local\/sc.names.lookup x=some .cell
 nofree: ∀y∈sc.names,y.2≠ .free
variable {kindOf:Str->Option NameKind}{x:Str}
theorem VD: ∀ {binds:List (Str×Value)} {m:Str->Option Value},(∀v,(x,v) ∉ binds)->bindL kindOf binds m x=m x
 | [],_,_=>rfl
 |(n,v)::r,m,h=>by
  unfold bindL;rw [VD λw hw=>h w (D5 _ hw)];split
  ·have:x≠n:=by rintro rfl;exact h v P9
   simp [this]
  ·rfl
theorem VE: ∀ {binds:List (Str×Value)} {m:Str->Option Value},(∀v,(x,v) ∉ binds)->bindC kindOf binds m x=m x
 | [],_,_=>rfl
 |(n,v)::r,m,h=>by
  unfold bindC;rw [VE λw hw=>h w (D5 _ hw)];split
  ·rfl
  ·have:x≠n:=by rintro rfl;exact h v P9
   simp [this]
theorem Zl {v:Value}: ∀ {P:List Str} {vs:List Value} {i:Nat} {m:Str->Option Value},P.Nodup->P[i]? =some x->vs[i]? =some v->kindOf x=some .local->
 bindL kindOf (P.zip vs) m x=some v
 | [],_,_,_,_,h,_,_=>by simp at h
 |_::_,[],_,_,_,_,h,_=>by simp at h
 |p::P,w::vs,0,m,nd,h1,h2,hk=>by
  simp at h1 h2;subst h1;subst h2;show bindL kindOf ((p,w)::P.zip vs) m p=_;unfold bindL;rw [VD λv hv=>(L6.mp nd).1 (Y8 hv).1,if_pos hk];simp
 |p::P,w::vs,i+1,m,nd,h1,h2,hk=>by
  show bindL kindOf ((p,w)::P.zip vs) m x=_;unfold bindL;exact Zl (i:=i) (L6.mp nd).2 (by simpa using h1) (by simpa using h2) hk
theorem Zm {v:Value}: ∀ {P:List Str} {vs:List Value} {i:Nat} {m:Str->Option Value},P.Nodup->P[i]? =some x->vs[i]? =some v->kindOf x≠some .local->
 bindC kindOf (P.zip vs) m x=some v
 | [],_,_,_,_,h,_,_=>by simp at h
 |_::_,[],_,_,_,_,h,_=>by simp at h
 |p::P,w::vs,0,m,nd,h1,h2,hk=>by
  simp at h1 h2;subst h1;subst h2;show bindC kindOf ((p,w)::P.zip vs) m p=_;unfold bindC;rw [VE λv hv=>(L6.mp nd).1 (Y8 hv).1,if_neg hk];simp
 |p::P,w::vs,i+1,m,nd,h1,h2,hk=>by
  show bindC kindOf ((p,w)::P.zip vs) m x=_;unfold bindC;exact Zm (i:=i) (L6.mp nd).2 (by simpa using h1) (by simpa using h2) hk
def start (N:List Str)(vs:List V):St:=vs.map some++List.replicate (N.length-vs.length) none
def Yq (CX:CXT)(P:Program)(w:World)(K:PySem.W.Frag)(mg:Str->Option Value)(base:Heap)(N:List Str)(qual:Str)(scope:Scope)(f:Addr)(cd:Value)(A:Around)(outer:List Env)(s:Shared)(H:Hp)(E:XK):Cx where
 prog:=P
 w:=w
 K:=K
 mg:=mg
 base:=base
 A:=A.deeper (envOfC qual scope s.heap.objs.size f cd)
 N:=N
 s₀:=s
 H₀:=H
 env:=envOfC qual scope s.heap.objs.size f cd
 outer:=outer
 stack:=envOfC qual scope s.heap.objs.size f cd::outer
 ex:= []
 calm:=true
 fn:=λ_=>true
 pn:= []
 xe:=λe s'=>wpAny (model P w) (A.deeper (envOfC qual scope s.heap.objs.size f cd)) (leaving (envOfC qual scope s.heap.objs.size f cd) e) (λ_ s''=>CX outer H s E e s'') (λe' s''=>CX outer H s E e' s'') s'
theorem yE {sc:Scope}{n:Nat}(h:sc.names.lookup x=some .cell): ∃c,(cellsFrom n sc.names []).lookup x=some c:=by
 have q:=V7 sc.names n [] (.inl h);exact A0.mp q
theorem VF {CX:CXT}{mg:Str->Option Value}{base:Heap}{N ps:List Str}{qual:Str}{scope:Scope}{f:Addr}{cd:Value}{outer:List Env}{s1:Shared}{E:XK}{us:List Value}{vs:List V}
 (S:FnScope N ps scope)(hd:A.handled=none)(e0:Env0 P w K mg base A outer s H)(hl:vs.length=ps.length)(r:Vals vs us)
 (x:InCallC s s.heap.objs.size (bindL (envOfC qual scope s.heap.objs.size f cd).kindOf (ps.zip us) λ_=>none) (cellsFrom (s.heap.objs.size+1) scope.names []) (bindC (envOfC qual scope s.heap.objs.size f cd).kindOf (ps.zip us) λ_=>none) s1):
 Inv (Yq CX P w K mg base N qual scope f cd A outer s H E) [] (start N vs) H s1:=by
 have hpl:ps.length<=N.length:=by have:=congrArg List.length S.pre;rw [D8] at this;omega
 obtain⟨h1,tk,rfl,hk⟩:=x.done;have noA: ∀b:Addr,b ∉ (Yq CX P w K mg base N qual scope f cd A outer s H E).ex:=λb z=>absurd (show b∈([]:List Addr) from z) (by simp)
 refine⟨⟨e0.mod,S.kind,rfl,rfl,G5 _,λy z c h1 h2=> ?_,λy hy=> ?_,λy c _ h=> ?_,λ_=>hd,G0v e0.frames,.inr ⟨rfl,rfl⟩,λb z=>absurd z (noA b),e0.bs,e0.bsz,λb _ _=>noA b,λb z=>absurd z (noA b),e0.funs,e0.frf⟩,
  rfl,e0.bare,Un.kept hk,⟨_,x.toInCall.ns,λi y v h1 h2 h3=> ?_⟩,λy c h=>⟨_,x.cell y c h⟩,e0.hok.fresh (G5 _),λy c h=> ?_,λp hp=>absurd (show p∈([]:List (Addr×Obj)) from hp) (by simp),e0.hok.kept hk,?_⟩
 ·exact name_of_addr x.apart (C7 h1) (C7 h2)
 ·have hy:scope.names.lookup y=some .cell\/scope.names.lookup y=some .free:=hy;rcases hy with hy|hy
  ·exact yE hy
  ·exact absurd rfl (S.nofree _ (C7 hy))
 ·exact D4 (x.above y c (C7 h))
 ·have hi:i<vs.length:=by
   unfold start at h2
   by_cases hi:i<vs.length
   ·exact hi
   ·rw [P8 (by simpa using hi)] at h2;rw [Y9] at h2;split at h2<;>cases h2
  have ha:vs[i]? =some v:=by
   unfold start at h2;rw [S0 (by simpa using hi),P4] at h2;cases e:vs[i]? with
   |none=>rw [e] at h2;cases h2
   |some a=>rw [e] at h2;cases h2;rfl
  obtain⟨u,hu,rv⟩:=r.get ha;have hp:ps[i]? =some y:=by
   rw [<-S.pre,U3 (by omega)];exact h1
  have ndP:ps.Nodup:=by rw [<-S.pre];exact S.nd.sublist (A9 _ _)
  refine⟨u,rv,?_⟩;rcases S.par y (G9 hp) with k|k
  ·exact .inl ⟨k,Zl ndP hp hu k⟩
  ·obtain⟨c,e⟩:=yE (n:=s.heap.objs.size+1) k;refine .inr ⟨.inl k,c,e,?_⟩;have q:=x.cell y c e;rw [Zm ndP hp hu (by show scope.names.lookup y≠_;rw [k];decide)] at q;exact q
 ·exact e0.hok.fresh (D4 (x.above y c (C7 h)))
 ·unfold start;show _=N.length;rw [G6,G0,G1l];omega
theorem Fk {CX:CXT}{mg:Str->Option Value}{base:Heap}{f:Addr}{name qual:Str}{params:Arguments}{body:List Stmt}{scope:Scope}{dV kV doc pm cdv ct oc:Value}{an od:Option Addr}{osl:Array (Option Value)}{N ps:List Str}{sp:Sp}(lk:K.lookup f=some ⟨oc,od,.func (PySem.W.fnOf name qual params body scope dV kV doc pm an cdv ct),osl⟩)(hcd:PySem.W.codeIn K cdv qual=true)(S:FnScope N ps scope)
 (len: ∀vs H Q E,sp vs H Q E->vs.length=ps.length)
 (hbody: ∀ (A:Around) (outer:List Env) (s:Shared) (H:Hp) (vs:List V) (Q:VK) (E:XK),Room k (A.deeper (envOfC qual scope s.heap.objs.size f cdv))->sp vs H Q E->
  ∃t,PSs (Yq CX P w K mg base N qual scope f cdv A outer s H E) body t/\t {nx:=λ_ H'=>Q .non H',rt:=Q} (start N vs) H):
 FnOk P w K mg base CX (k+1) f (PySem.W.fnOf name qual params body scope dV kV doc pm an cdv ct) ps sp:=by
 refine⟨len,λA outer s H args us vs Q E hr e0 hb r hsp=> ?_⟩;have hl:=len _ _ _ _ hsp;have KX:K.In s.heap:=e0.mod.kin.keeps λb o e=>(e0.bs b o e).1
 have lim:s.heap.NoLimit:=e0.mod.nolimit.keeps λb o e=>(e0.bs b o e).1
 have hkind: ∀y∈ps.zip us,scope.names.lookup y.1=some .local\/(scope.names.lookup y.1=some .cell/\((cellsFrom (s.heap.objs.size+1) scope.names []).lookup y.1).isSome=true):=λ⟨n,v⟩ hy=>by
  rcases S.par n (Y8 hy).1 with q|q
  ·exact .inl q
  ·exact .inr ⟨q,V7 _ _ _ (.inl q)⟩
 refine G0l hr.depth (KX _ _ lk) rfl S.co S.gen rfl (G0Q KX hcd) (hb _ _ _ _ ?_);refine X2 S.kind hkind λenv he s1 x=> ?_
 subst he;refine⟨lim.keeps x.toInCall.keep,codeAny_func ?_⟩;obtain⟨t,ht,hq⟩:=hbody A outer s H vs Q E (hr.deeper _) hsp;have I:Inv (Yq CX P w K mg base N qual scope f cdv A outer s H E) [] (start N vs) H s1:=VF S hr.hd e0 hl r x;refine R0 (ht [] s1 (start N vs) H _ I hq) (λfl s' hs=> ?_) λe s' hs=>hs
 have fin: ∀ {σ':St} {H':Hp} {v:V} {u:Value},Inv (Yq CX P w K mg base N qual scope f cdv A outer s H E) [] σ' H' s'->RelV v u->Q v H'->CE outer P w H s Q u s':=
  λ{σ' H' v u} J rv q=>⟨v,H',J.os,J.bare,J.base,J.hok,rv,q⟩
 cases fl with
 |ret u=>
  obtain⟨v,σ',H',J,rv,q⟩:=hs;exact fin J rv q
 |next=>
  obtain⟨σ',H',J,q⟩:=hs;exact fin (v:=V.non) (u:=Value.none) J rfl q
 |brk=>
  obtain⟨_,_,_,q⟩:=hs;exact False.elim q
 |cont=>
  obtain⟨_,_,_,q⟩:=hs;exact False.elim q
section
variable {X:Cx}{x:Str}{p pos:Pos}{e:Expr}{es:List Expr}{t:TA}{id T:String}{r:List V->Hp->VK->Prop}
def tCB (r:List V->Hp->VK->Prop)(t:TA):TE:=λσ H Q=>t σ H λvs H1=>r vs H1 Q
theorem yF (hc:CallR X (.builtin id) r)(hg:Gl X x)(hm:X.mg x=none)(hv:bootBuiltins x=some (.builtin id))(ha:PA X (e::es) t)(hn:x≠ "__name__" :=by decide)(hdb:(x==("__debug__" :Str))=false:=by decide)
 (he:starEach (e::es) X.env=(false,eval e X.env)::starEach es X.env:=by rfl)(hpl:(backTo pos (starEach es X.env)).any (·.1)=false:=by rfl):PE X (.Call (.Name x p) (e::es) [] pos) (tCB r t):=by
 intro pins s σ H Q I h;refine I0 (Zi I hg hm hv ?_ hn hdb);exact G0m (thn (ha pos pins s σ H _ I h) λus s1 ⟨vs,H1,I1,r1,q1⟩=>hc pins s1 σ H1 vs us Q I1 r1 q1) he hpl
theorem Zn (hc:CallR X (.type T) r)(hg:Gl X x)(hm:X.mg x=none)(hv:bootBuiltins x=some (.type T))(ha:PA X (e::es) t)(hn:x≠ "__name__" :=by decide)(hdb:(x==("__debug__" :Str))=false:=by decide)
 (he:starEach (e::es) X.env=(false,eval e X.env)::starEach es X.env:=by rfl)(hpl:(backTo pos (starEach es X.env)).any (·.1)=false:=by rfl):PE X (.Call (.Name x p) (e::es) [] pos) (tCB r t):=by
 intro pins s σ H Q I h;refine I0 (Zi I hg hm hv ?_ hn hdb);exact K1 (thn (ha pos pins s σ H _ I h) λus s1 ⟨vs,H1,I1,r1,q1⟩=>hc pins s1 σ H1 vs us Q I1 r1 q1) he hpl
end
end L2
namespace HT
open PySem PyProof.Rows
def jI:List Int->List Int->Bool
 | [],[]=>false
 | [],_::_=>true
 |_::_,[]=>false
 |x::xs,y::ys=>if x=y then jI xs ys else decide (x<y)
theorem Jc (x y:Int)(xs ys:List Int):jI (x::xs) (y::ys)=if x=y then jI xs ys else decide (x<y):=rfl
theorem Yr:jI [] []=false:=rfl
theorem Wr (y:Int)(ys:List Int):jI [] (y::ys)=true:=rfl
theorem Ws (x:Int)(xs:List Int):jI (x::xs) []=false:=rfl
theorem Qs (A:Around)(s:Shared)(a:Int)(t:Tok)(c:Int)(u:Tok): ∃e,SeqAt.EqAt A s (.int a t) (.int c u) e/\(e=true↔a=c):=
 ⟨(a==c),SeqAt.EqAt.int_int a t c u,by simp⟩
theorem Nl (A:Around)(s:Shared)(a:Int)(t:Tok)(c:Int)(u:Tok)(prog:Program)(w:World)(E:Value->Shared->Prop)(Q:Value->Shared->Prop)(h:Q (.bool (decide (a<c))) s):
 wpAny (model prog w) A (richCompare .Lt (.int a t) (.int c u)) Q E s:=
 (G1B h:wpAny (model prog w) A (compareOp .Lt (.int a t) (.int c u)) Q E s)
section
open PySem.SeqAt
open PySem.AutoSeq1 (wpAny_loadPart')
open PySem.MeetsSeq PySem.MeetsSeq2 PySem.MeetsSeq3
theorem vA (l b:Addr)(items items2:Array Value)(n n2:Nat)(dd dd2:Option Addr)(sl sl2:Array (Option Value))(ns ms:List Int)(hi:IntsAre items.toList ns)(hj:IntsAre items2.toList ms):
 Meets (Builtin.«tuple.__lt__» ⟨[.ref l,.ref b],[]⟩)
  (λ_ R s=>s.heap.get? l=some {cls:= .type "tuple",dict:=dd,data:= .seq items n,slots:=sl}/\s.heap.get? b=some {cls:= .type "tuple",dict:=dd2,data:= .seq items2 n2,slots:=sl2}/\
   R (.ok (.ret (.bool (jI ns ms)))) s):=
 .of_wp λprog w A R s h=>by
  obtain⟨hp,g,d,tk,os⟩:=s;obtain⟨hl,hb,h⟩:=h;have f2:=AutoSeq1.sub_tuple_tuple;have z1:items.size=ns.length:=by rw [<-hi.length];simp
  have z2:items2.size=ms.length:=by rw [<-hj.length];simp
  wp_walk using wpAny_loadPart' hl,wpAny_loadPart' hb,wpAny_forIn_list _ (λrest b s'=>b.1=none/\s'=⟨hp,g,d,tk,os⟩/\ ∃ (vs ws:List Value) (ns' ms':List Int),rest=vs.zip ws/\
   IntsAre vs ns'/\IntsAre ws ms'/\ns'.length+items2.size=ms'.length+items.size/\R (.ok (.ret (.bool (jI ns' ms')))) ⟨hp,g,d,tk,os⟩) _
  case turn=>
   rintro ⟨y,x⟩ rest b s' ⟨hb',rfl,vs,ws,ns',ms',hz,hvi,hwi,hlen,hR⟩;cases hvi with
   |nil=>rw [G0Z] at hz;cases hz
   |cons a t hvi'=>
    cases hwi with
    |nil=>rw [List.zip_nil_right] at hz;cases hz
    |cons c u hwi'=>
     rw [Z0] at hz;injection hz with hyx hrest
     injection hyx with hy hx
     subst hy hx;rw [Jc] at hR;simp only [P6] at hlen;obtain⟨e,he,hiff⟩:=Qs A.in1 ⟨hp,g,d,tk,os⟩ a t c u;refine wpAny_bind (he prog w _ _ ?_);cases e with
     |true=>
      rw [if_pos (hiff.mp rfl)] at hR
      wp_walk
      exact⟨rfl,rfl,_,_,_,_,hrest,hvi',hwi',by omega,hR⟩
     |false=>
      rw [if_neg (λq=>absurd (hiff.mpr q) P5)] at hR;have hri:=Nl A.in1 ⟨hp,g,d,tk,os⟩ a t c u prog w
      wp_walk using hri
      exact⟨_,rfl,by simpa using hR⟩
  case fin=>
   rintro ⟨b1,b2⟩ s' ⟨hb',rfl,vs,ws,ns',ms',hz,hvi,hwi,hlen,hR⟩;simp only at hb';subst hb';have hv:jI ns' ms'=decide (items.size<items2.size):=by
    cases hvi with
    |nil=>
     cases hwi with
     |nil=>
      simp only [S8] at hlen;rw [Yr];exact(R9 (by omega)).symm
     |cons c u hw=>
      simp only [S8,P6] at hlen;rw [Wr];exact(R1 (by omega)).symm
    |cons a t hv=>
     cases hwi with
     |nil=>
      simp only [S8,P6] at hlen;rw [Ws];exact(R9 (by omega)).symm
     |cons c u hw=>
      rw [Z0] at hz;cases hz
   rw [hv] at hR
   wp_walk
   exact⟨_,rfl,by simpa [Builtin.Tuple.tupleCompareSizes] using hR⟩
  case h=>
   exact⟨rfl,rfl,items.toList,items2.toList,ns,ms,rfl,hi,hj,by omega,h⟩
end
section
variable {prog:Program}{w:World}{A:Around}{E:Value->Shared->Prop}{s:Shared}
theorem Gv {l b:Addr}{items items2:Array Value}{ns ms:List Int}{Q:Value->Shared->Prop}(hl:IsTup s.heap l items)(hb:IsTup s.heap b items2)(hi:IntsAre items.toList ns)(hj:IntsAre items2.toList ms)
 (hu:A.units<cLine)(h:Q (.bool (jI ns ms)) s):wpAny (model prog w) A (compareOp .Lt (.ref l) (.ref b)) Q E s:=by
 obtain⟨⟨cls,dd,data,sl⟩,ho,hc,n,hd⟩:=id hl;obtain⟨⟨cls2,dd2,data2,sl2⟩,ho2,hc2,n2,hd2⟩:=id hb;simp only at hc hd hc2 hd2;subst hc hd hc2 hd2;exact richCompare_meets_room (op:= .Lt) ⟨_,ho,rfl⟩ ⟨_,ho2,rfl⟩ G0n G1j (G07 _ _) (vA l b items items2 n n2 dd dd2 sl sl2 ns ms hi hj)
  ⟨ho,ho2,show Value.bool (jI ns ms)≠Value.notImplemented/\Q (.bool (jI ns ms)) s from ⟨(λx=>nomatch x),h⟩⟩ hu
theorem Fl {t b:Addr}{vs ws:List Value}{Q:Value->Shared->Prop}(ht:IsTup s.heap t vs.toArray)(hb:IsTup s.heap b ws.toArray)(hv:vs≠ [])
 (h1:ws= []->Q (.ref t) s)(h2:ws≠ []->Q (.ref s.heap.objs.size) {s with heap:=s.heap.push {cls:= .type "tuple",data:= .seq (vs++ws).toArray}})
 (hsz:vs.length+ws.length<=sizeLine):wpAny (model prog w) A (binaryOp .Add (.ref t) (.ref b)) Q E s:=by
 obtain⟨⟨cls,dd,data,sl⟩,ho,hc,n,hd⟩:=id ht;obtain⟨⟨cls2,dd2,data2,sl2⟩,ho2,hc2,n2,hd2⟩:=id hb;simp only at hc hd hc2 hd2;subst hc hd hc2 hd2;have e:vs.toArray++ws.toArray=(vs++ws).toArray:=by simp
 by_cases hw:ws= []
 ·exact concat_meets ⟨_,ho,rfl⟩ ⟨_,ho2,rfl⟩ G1e seq_tuple_add Z9 Z4 (Y0 _ _)
   (tuple_addW1 t b vs.toArray ws.toArray n n2 dd dd2 sl sl2 (by simpa using hv) (by simp [hw])) ⟨ho,ho2,h1 hw⟩
 ·refine concat_meets ⟨_,ho,rfl⟩ ⟨_,ho2,rfl⟩ G1e seq_tuple_add Z9 Z4 (Y0 _ _)
   (tuple_addW2 t b vs.toArray ws.toArray n n2 dd dd2 sl sl2 (by simpa using hv) (by simpa using hw) (by rw [D3,D3];exact hsz)) ⟨ho,ho2,?_⟩
  rw [e];exact h2 hw
def sIx (n d:Nat):Option Int->Nat
 |none=>d
 |some v=>if v<0 then (v+(n:Int)).toNat else min v.toNat n
theorem AA (n d:Nat)(hd:d<=n)(o:Option Int):sIx n d o<=n:=by
 cases o with
 |none=>exact hd
 |some v=>
  show (if v<0 then (v+(n:Int)).toNat else min v.toNat n)<=n
  by_cases hv:v<0
  ·rw [if_pos hv];omega
  ·rw [if_neg hv];exact X6 _ _
theorem Dt (v:Int)(n d:Nat):(if v<0 then max (v+(n:Int)) 0 else min v (n:Int))=((sIx n d (some v):Nat):Int):=by
 show (if v<0 then max (v+(n:Int)) 0 else min v (n:Int))=(((if v<0 then (v+(n:Int)).toNat else min v.toNat n):Nat):Int)
 by_cases hv:v<0
 ·simp only [if_pos hv];omega
 ·simp only [if_neg hv];omega
theorem Gw (lo hi:Option Int)(n:Nat):Builtin.Slice.sliceAdjust lo hi 1 (n:Int)=(((sIx n 0 lo:Nat):Int),((sIx n n hi:Nat):Int)):=by
 have h1: ¬ ((1:Int)<0):=by omega
 unfold Builtin.Slice.sliceAdjust;simp only [h1,G1r];refine Prod.ext ?_ ?_
 ·cases lo with
  |none=>rfl
  |some v=>exact Dt v n 0
 ·cases hi with
  |none=>rfl
  |some v=>exact Dt v n n
theorem Gx (i j:Nat):Builtin.Slice.slicePlaces (i:Int) (j:Int) 1=j-i:=by
 unfold Builtin.Slice.slicePlaces;have h1:(1:Int)>0:=by omega
 simp only [h1,if_true,Int.ediv_one];split<;>omega
theorem WP {v:Value}{o:Option Int}{Q:Option Int->Shared->Prop}(p:IsPart v o)(h:Q o s):wpAny (model prog w) A (Builtin.Slice.slicePartIndex v) Q E s:=by
 cases p with
 |none=>exact slicePart_none h
 |int i t=>exact slicePart_int h
theorem ya {sl:Addr}{vl vu:Value}{lo hi:Option Int}{n:Nat}{Q:Int×Int×Nat->Shared->Prop}(hs:s.heap.IsSliceOf sl vl vu .none)(pl:IsPart vl lo)(pu:IsPart vu hi)
 (h:Q (((sIx n 0 lo:Nat):Int),1,sIx n n hi-sIx n 0 lo) s):wpAny (model prog w) A (Builtin.Slice.sliceApplied (.ref sl) (pure (n:Int))) Q E s:=by
 obtain⟨os,hos,hcs,hds⟩:=id hs;unfold Builtin.Slice.sliceApplied Builtin.Slice.sliceFields;refine wpAny_bind (wpAny_bind (G1C hos hds (x:=vl) rfl (wpAny_bind (G1C hos hds (x:=vu) rfl (wpAny_bind (G1C hos hds (x:= .none) rfl (G3 ?_)))))));refine wpAny_bind (slicePart_none ?_);show wpAny _ _ (if ((1:Int)==0)=true then _ else _) _ _ s;rw [if_neg (by decide)];refine wpAny_bind (WP pl (wpAny_bind (WP pu (wpAny_bind (G3 ?_)))));show wpAny _ _ (match Builtin.Slice.sliceAdjust lo hi 1 (n:Int) with|(lo,hi)=>pure (lo,(1:Int),Builtin.Slice.slicePlaces lo hi 1)) _ _ s;rw [Gw lo hi n];show wpAny _ _ (pure (((sIx n 0 lo:Nat):Int),(1:Int),Builtin.Slice.slicePlaces ((sIx n 0 lo:Nat):Int) ((sIx n n hi:Nat):Int) 1)) _ _ s;rw [Gx];exact G3 h
theorem Nm (xs:Array Value)(i k:Nat):((List.range k).filterMap λ(m:Nat)=>xs[((i:Int)+(m:Int)*1).toNat]?).toArray=((xs.toList.drop i).take k).toArray:=by
 have e:(λ(m:Nat)=>xs[((i:Int)+(m:Int)*1).toNat]?)=λm=>xs[i+m]? :=by
  funext m
  have:((i:Int)+(m:Int)*1).toNat=i+m:=by omega
  rw [this]
 rw [e];have:=pick_run xs i k;rw [List.filterMap_map] at this;have e2:((λx=>xs[x]?)∘λx=>i+x)=λm=>xs[i+m]? :=rfl
 rw [e2] at this;rw [this]
theorem Jd {t sl:Addr}{items:Array Value}{vl vu:Value}{lo hi:Option Int}{Q:Value->Shared->Prop}(ht:IsTup s.heap t items)(hs:s.heap.IsSliceOf sl vl vu .none)(pl:IsPart vl lo)(pu:IsPart vu hi)
 (hw: ¬ (sIx items.size 0 lo=0/\sIx items.size items.size hi=items.size))
 (h:Q (.ref s.heap.objs.size) {s with heap:=s.heap.push {cls:= .type "tuple",data:= .seq ((items.toList.drop (sIx items.size 0 lo)).take (sIx items.size items.size hi-sIx items.size 0 lo)).toArray}})
 (hsz:items.size<=sizeLine):wpAny (model prog w) A (getItem (.ref t) (.ref sl)) Q E s:=by
 have htake:sizeOk (.seq ((items.toList.drop (sIx items.size 0 lo)).take (sIx items.size items.size hi-sIx items.size 0 lo)).toArray):=by
  show ((items.toList.drop (sIx items.size 0 lo)).take (sIx items.size items.size hi-sIx items.size 0 lo)).toArray.size<=sizeLine;rw [D3,D8,T3,P2];omega
 have hj:sIx items.size items.size hi<=items.size:=AA _ _ (G5 _) hi;obtain⟨os,hos,hcs,hds⟩:=id hs;have hTs:s.TypeIs (.ref sl) "slice" :=⟨os,hos,hcs⟩;unfold getItem
 try with_reducible refine N4 ?_
 first|refine wpAny_bind (G3 ?_)|skip
 refine wpAny_bind (wpAny_sequenceKey ht.typeIs (by decide) ?_);refine wpAny_bind (O3 (name:=Str.ofString "__getitem__") ht.typeIs E1
  (C8 E1 ht.typeIs entry_tuple_getitem ?_ (args_tuple_getitem _ _)))
 show wpAny _ _ (Builtin.Tuple.tupleItemsOf (.ref t) >>= _) _ _ s;refine wpAny_bind (tupleItemsOf_ ht ?_);refine wpAny_bind (G1m hTs ?_);rw [if_pos (by decide)];refine wpAny_bind (ya hs pl pu ?_);have hno: ¬ ((((sIx items.size 0 lo:Nat):Int)==0&&(1:Int)==1&&(sIx items.size items.size hi-sIx items.size 0 lo)==items.size)=true):=by
  intro q;rw [T5,T5] at q;have q1:((sIx items.size 0 lo:Nat):Int)=0:=eq_of_beq q.1.1;have q2:sIx items.size items.size hi-sIx items.size 0 lo=items.size:=eq_of_beq q.2;exact hw ⟨by omega,by omega⟩
 show wpAny _ _ (if (((sIx items.size 0 lo:Nat):Int)==0&&(1:Int)==1&&(sIx items.size items.size hi-sIx items.size 0 lo)==items.size)=true then _ else _) _ _ s;rw [if_neg hno,Nm]
 first
  |exact wpAny_bind (m:=Builtin.Tuple.tupleExact _) (U0 (G3 ⟨_,rfl,G3 h⟩) htake)
  |exact wpAny_bind (m:=Builtin.Tuple.tupleExact _) (U0 (wpAny_bind (G3 (G3 ⟨_,rfl,G3 h⟩))) htake)
  |exact wpAny_bind (wpAny_bind (m:=Builtin.Tuple.tupleExact _) (U0 (G3 (G3 ⟨_,rfl,G3 h⟩)) htake))
  |exact wpAny_bind (wpAny_bind (m:=Builtin.Tuple.tupleExact _) (U0 (G3 ⟨_,rfl,G3 h⟩) htake))
end
end HT
namespace L2
open PySem PySem.Spec PyProof.Rows
abbrev TO:=St->Hp->(Option Int->Hp->Prop)->Prop
def PO (X:Cx)(e:Option Expr)(t:TO):Prop:=
 ∀ (pins:List (Addr×Obj)) (s:Shared) (σ:St) (H:Hp) (Q:Option Int->Hp->Prop),Inv X pins σ H s->t σ H Q->
  wpAny (model X.prog X.w) X.A (evalPart e X.env) (λu s'=> ∃o H',Inv X pins σ H' s'/\IsPart u o/\Q o H') X.xe s
def Tw (t:TE):TO:=λσ H Q=>t σ H λx H1=> ∃i,x= .int i/\Q (some i) H1
section
variable {X:Cx}{e:Expr}{te:TE}{lo hi:Option Expr}{tl th:TO}{pos p2:Pos}
theorem Fm (h:PE X e te):PO X (some e) (Tw te):=by
 intro pins s σ H Q I hw;rw [evalPart_some];refine thn (h pins s σ H _ I hw) λu s1 ⟨x,H1,I1,r1,q1⟩=> ?_
 obtain⟨i,rfl,q⟩:=q1;obtain⟨t,rfl⟩:=r1;exact⟨some i,H1,I1,.int i t,q⟩
def SlR (X:Cx)(r:V->Option Int->Option Int->Hp->VK->Prop):Prop:=
 ∀ (pins:List (Addr×Obj)) (s:Shared) (σ:St) (H:Hp) (x:V) (v vl vu:Value) (lo hi:Option Int) (sl:Addr) (Q:VK),Inv X pins σ H s->RelV x v->s.heap.IsSliceOf sl vl vu .none->IsPart vl lo->IsPart vu hi->r x lo hi H Q->
  ∃T id,typeLookup (.type T) "__getitem__" =pure (some (.builtin id))/\s.TypeIs v T/\wpAny (model X.prog X.w) X.A (getItem v (.ref sl)) (EP X pins σ Q) X.xe s
theorem SlR.or {r r':V->Option Int->Option Int->Hp->VK->Prop}(h:SlR X r)(h':SlR X r'):SlR X (λx lo hi H Q=>r x lo hi H Q\/r' x lo hi H Q):=by
 intro pins s σ H x v vl vu lo hi sl Q I rx hs pl pu q;rcases q with q|q
 ·exact h pins s σ H x v vl vu lo hi sl Q I rx hs pl pu q
 ·exact h' pins s σ H x v vl vu lo hi sl Q I rx hs pl pu q
def tSl (r:V->Option Int->Option Int->Hp->VK->Prop)(te:TE)(tl th:TO):TE:=λσ H Q=>te σ H λx H1=>tl σ H1 λl H2=>th σ H2 λu H3=>r x l u H3 Q
theorem Nn {r:V->Option Int->Option Int->Hp->VK->Prop}(hr:SlR X r)(he:PE X e te)(hl:PO X lo tl)(hu:PO X hi th):PE X (.Subscript e (.Slice lo hi none p2) pos) (tSl r te tl th):=by
 intro pins s σ H Q I h;refine Subscript_ (thn (he pins s σ H _ I h) λv s1 ⟨x,H1,I1,r1,q1⟩=> ?_);refine wpAny_Slice (thn (hl pins s1 σ H1 _ I1 q1) λvl s2 ⟨l,H2,I2,pl,q2⟩=>thn (hu pins s2 σ H2 _ I2 q2) λvu s3 ⟨u,H3,I3,pu,q3⟩=> ?_);rw [evalPart_none];refine G3 ?_;have I4:Inv X pins σ H3 {s3 with heap:=s3.heap.push {cls:= .type "slice",data:= .fields #[vl,vu,.none]}}:=I3.kept (t':=s3.toks) λb ob q=>G1 _ q
 obtain⟨T,id,hT,ht,hg⟩:=hr pins {s3 with heap:=s3.heap.push {cls:= .type "slice",data:= .fields #[vl,vu,.none]}} σ H3 x v vl vu l u s3.heap.objs.size Q I4 r1 (Heap.IsSliceOf.new ..) pl pu q3;show wpAny (model X.prog X.w) X.A (subscriptTail e (.Slice lo hi none p2) v (.ref s3.heap.objs.size)) (EP X pins σ Q) X.xe {s3 with heap:=s3.heap.push {cls:= .type "slice",data:= .fields #[vl,vu,.none]}};exact tail_any (ops:= [.ref s3.heap.objs.size,v]) ht hT hg (by with_unfolding_all rfl)
def MN (xs:List V)(lo hi:Option Int):List V:=(xs.drop (HT.sIx xs.length 0 lo)).take (HT.sIx xs.length xs.length hi-HT.sIx xs.length 0 lo)
theorem Zo (xs:List V)(lo hi:Option Int):(MN xs lo hi).length<=xs.length:=by
 unfold MN;rw [D8,T3];omega
def KC (K:PySem.W.Frag):V->Option Int->Option Int->Hp->VK->Prop:=λx lo hi H Q=> ∃a xs,x= .ref a/\SqT K H a xs/\
 ¬ (HT.sIx xs.length 0 lo=0/\HT.sIx xs.length xs.length hi=xs.length)/\ ∀p,H p=none->Q (.ref p) (upd H p (.tup (MN xs lo hi)))
theorem sl_tup:SlR X (KC X.K):=by
 intro pins s σ H x v vl vu lo hi sl Q I rx hs pl pu h;obtain⟨a,xs,rfl,hx,hw,q⟩:=h;cases rx;obtain⟨its,r,ht,hz⟩:=I.tuple hx;have hlen:its.toArray.size=xs.length:=by rw [D3];exact r.length.symm
 refine⟨"tuple",_,PyProof.Rows.slot_tuple_getitem.lookup,ht.typeIs,?_⟩;refine HT.Jd ht hs pl pu (by rw [hlen];exact hw) ?_ (by rw [hlen];exact hz);rw [hlen];refine⟨.ref s.heap.objs.size,_,I.laid (t':=s.toks) (o:= .tup (MN xs lo hi)) (λb ob q=>G1 _ q) (G5 _) ?_,rfl,q _ (I.hok.fresh (G5 _))⟩;exact⟨P7 (Zo xs lo hi) hz,_,(r.drop (HT.sIx xs.length 0 lo)).take (HT.sIx xs.length xs.length hi-HT.sIx xs.length 0 lo),IsTupN.new _ _⟩
def Tx (K:PySem.W.Frag):R2:=λx y H Q=> ∃a b xs ys,x= .ref a/\y= .ref b/\SqT K H a xs/\SqT K H b ys/\xs≠ []/\xs.length+ys.length<=sizeLine/\
 (ys= []->Q (.ref a) H)/\(ys≠ []-> ∀p,H p=none->Q (.ref p) (upd H p (.tup (xs++ys))))
theorem Vals.nil_iff {xs:List V}{us:List Value}(r:Vals xs us):us= []↔xs= []:=by
 cases r with
 |nil=>simp
 |cons _ _=>simp
theorem op_catT:OpR X (binaryOp .Add) (Tx X.K):=by
 intro pins s σ H x y v u Q I rx ry h;obtain⟨a,b,xs,ys,rfl,rfl,ha,hb,hx,hz,q1,q2⟩:=h;cases rx;cases ry;obtain⟨its,r1,p1,_⟩:=I.tuple ha;obtain⟨its2,r2,p2,_⟩:=I.tuple hb;refine HT.Fl p1 p2 (λz=>hx (r1.nil_iff.mp z)) (λz=>⟨.ref a,H,I,rfl,q1 (r2.nil_iff.mp z)⟩) (λz=> ?_) (by rw [<-r1.length,<-r2.length];exact hz);refine⟨.ref s.heap.objs.size,_,I.laid (t':=s.toks) (o:= .tup (xs++ys)) (λb ob q=>G1 _ q) (G5 _) ?_,rfl,q2 (λw=>z (r2.nil_iff.mpr w)) _ (I.hok.fresh (G5 _))⟩;exact⟨by rw [G6];exact hz,_,r1.append r2,IsTupN.new _ _⟩
end
def ixN (n:Nat)(i:Int):Option Nat:=if 0<=i then (if i<n then some i.toNat else none) else if-(n:Int)<=i then some (i+n).toNat else none
def atI {α:Type}(xs:List α)(i:Int):Option α:=(ixN xs.length i).bind λj=>xs[j]?
theorem Du {n:Nat}{i:Int}{j:Nat}(h:ixN n i=some j):seqIndex? i n=some j/\j<n/\ -(n:Int)<=i/\i<n:=by
 unfold ixN at h
 by_cases h0:0<=i
 ·rw [if_pos h0] at h
  by_cases h1:i<n
  ·rw [if_pos h1] at h;have e:i.toNat=j:=C4 h;exact⟨by rw [seqIndex_of h0 h1,e],by omega,by omega,h1⟩
  ·rw [if_neg h1] at h;cases h
 ·rw [if_neg h0] at h
  by_cases h1: -(n:Int)<=i
  ·rw [if_pos h1] at h;have e:(i+n).toNat=j:=C4 h;exact⟨by rw [seqIndex_neg (by omega) h1,e],by omega,h1,by omega⟩
  ·rw [if_neg h1] at h;cases h
theorem Xj {α:Type}{xs:List α}{i:Int}{v:α}(h:atI xs i=some v): ∃j,seqIndex? i xs.length=some j/\xs[j]? =some v/\j<xs.length/\ -(xs.length:Int)<=i/\i<xs.length:=by
 unfold atI at h;cases e:ixN xs.length i with
 |none=>rw [e] at h;cases h
 |some j=>
  rw [e] at h;obtain⟨h1,h2,h3,h4⟩:=Du e;exact⟨j,h1,h,h2,h3,h4⟩
theorem we {α:Type}{xs:List α}{j:Nat}{v:α}(h:xs[j]? =some v):atI xs (j:Int)=some v:=by
 have hj:j<xs.length:=(P0.mp h).1;have e:ixN xs.length (j:Int)=some j:=by
  unfold ixN;rw [if_pos (by omega),if_pos (by omega)];simp
 unfold atI;rw [e];exact h
def Xk (b:Expr):Prop:= ∀o i,subscripted b false o i=operate [o,i] (getItem o i)
def IxR (X:Cx)(r:R2):Prop:=
 ∀ (value slice:Expr) (pins:List (Addr×Obj)) (s:Shared) (σ:St) (H:Hp) (x y:V) (v u:Value) (Q:VK),Inv X pins σ H s->RelV x v->RelV y u->r x y H Q->
  subscripted slice false v u=operate [v,u] (getItem v u)->wpAny (model X.prog X.w) X.A (subscriptTail value slice v u) (EP X pins σ Q) X.xe s
def MtR (X:Cx)(id:String)(r:V->List V->Hp->VK->Prop):Prop:=
 ∀ (pins:List (Addr×Obj)) (s:Shared) (σ:St) (H:Hp) (x:V) (xs:List V) (v:Value) (us:List Value) (Q:VK),Inv X pins σ H s->RelV x v->Vals xs us->r x xs H Q->
  wpAny (model X.prog X.w) X.A (call (.builtin id) (v::us)) (EP X pins σ Q) X.xe s
section
variable {X:Cx}{a b:Expr}{ta tb:TE}{pos:Pos}
theorem IxR.or {r r':R2}(h:IxR X r)(h':IxR X r'):IxR X (λx y H Q=>r x y H Q\/r' x y H Q):=by
 intro value slice pins s σ H x y v u Q I rx ry q hs;rcases q with q|q
 ·exact h value slice pins s σ H x y v u Q I rx ry q hs
 ·exact h' value slice pins s σ H x y v u Q I rx ry q hs
theorem Ty {r:R2}(hr:IxR X r)(ha:PE X a ta)(hb:PE X b tb)(hs:Xk b):PE X (.Subscript a b pos) (tOp r ta tb):=by
 intro pins s σ H Q I h;exact Subscript_ (Tn ha hb I h λv u s2 x y H2 I2 rx ry q=>hr a b pins s2 σ H2 x y v u Q I2 rx ry q (hs _ _))
def Kc (K:PySem.W.Frag):R2:=λx y H Q=> ∃p xs i v,x= .ref p/\y= .int i/\SqL K H p xs/\atI xs i=some v/\Q v H
def Kd (K:PySem.W.Frag):R2:=λx y H Q=> ∃p xs i v,x= .ref p/\y= .int i/\SqT K H p xs/\atI xs i=some v/\Q v H
def Ke:R2:=λx y H Q=> ∃z i c,x= .str z/\y= .int i/\z.length<=sizeLine/\atI z.cps.toList i=some c/\Q (.str ⟨#[c]⟩) H
theorem ix_list:IxR X (Kc X.K):=by
 intro value slice pins s σ H x y v u Q I rx ry h hs;obtain⟨p,xs,i,z,rfl,rfl,hq,he,q⟩:=h;cases rx;obtain⟨t,rfl⟩:=ry;obtain⟨its,r,pl,hz⟩:=I.list hq;obtain⟨j,h1,h2,h3,h4,h5⟩:=Xj he;obtain⟨w,ew,rw'⟩:=r.get h2;have hl:=r.length;have hn:=VC;have fin:EP X pins σ Q w s:=⟨z,H,I,rw',q⟩
 by_cases h0:0<=i
 ·have hj:i.toNat=j:=by
   rw [seqIndex_of h0 h5] at h1;exact C4 h1
  exact item_listR pl.isList h0 (by omega) (by rw [hj];simpa using ew) fin hs
 ·have hj:(i+(its.toArray.size:Int)).toNat=j:=by
   rw [seqIndex_neg (by omega) h4] at h1;rw [D3,<-hl];exact C4 h1
  exact subscriptTail_builtinR (x:=w) pl.isList.typeIs slot_list_getitem.lookup
   (wpAny_getItem_list_neg (Q:=λr s'=>r=w/\EP X pins σ Q r s') pl.isList (by omega) (by rw [D3]<;>omega) (by omega) (by rw [hj];simpa using ew) ⟨rfl,fin⟩) hs
theorem ix_tup:IxR X (Kd X.K):=by
 intro value slice pins s σ H x y v u Q I rx ry h hs;obtain⟨p,xs,i,z,rfl,rfl,hq,he,q⟩:=h;cases rx;obtain⟨t,rfl⟩:=ry;obtain⟨its,r,pl,hz⟩:=I.tuple hq;obtain⟨j,h1,h2,h3,h4,h5⟩:=Xj he;obtain⟨w,ew,rw'⟩:=r.get h2;have hl:=r.length;have hn:=VC;have fin:EP X pins σ Q w s:=⟨z,H,I,rw',q⟩;exact subscriptTail_builtinR (x:=w) pl.typeIs slot_tuple_getitem.lookup
  (getItem_tuple (j:=j) (Q:=λr s'=>r=w/\EP X pins σ Q r s') pl (by omega) (by omega) (by rw [D3,<-hl];exact h1) (by simpa using ew) ⟨rfl,fin⟩) hs
theorem AB:IxR X Ke:=by
 intro value slice pins s σ H x y v u Q I rx ry h hs;obtain⟨z,i,c,rfl,rfl,hz,he,q⟩:=h;obtain⟨t,rfl⟩:=rx;obtain⟨t',rfl⟩:=ry;obtain⟨j,h1,h2,h3,h4,h5⟩:=Xj he;have hl:z.cps.toList.length=z.length:=by simp [Str.length]
 rw [hl] at h1 h4 h5;have hn:=VC;exact tail_any (typeIs_str s z t) slot_str_getitem.lookup (getItem_str (c:=c) (by
  have e1:decide (i< -(2^63:Int))=false:=R9 (by omega);have e2:decide (i>=2^63)=false:=R9 (by omega);rw [e1,e2,Bool.or_false]) (by rw [h1];simpa using h2) ⟨.str ⟨#[c]⟩,H,I.tok _,⟨_,rfl⟩,q⟩) hs
def rIx (K:PySem.W.Frag):R2:=λx y H Q=>Kc K x y H Q\/Kd K x y H Q\/Ke x y H Q
theorem AC:IxR X (rIx X.K):=ix_list.or (ix_tup.or AB)
theorem Gy (its:List Value)(n j:Nat)(u:Value):Obj.mapSeq (·.setIfInBounds j u) {cls:= .type "list",data:= .seq its.toArray n}= {cls:= .type "list",data:= .seq (its.set j u).toArray n}:=by
 simp [Obj.mapSeq]
theorem Inv.lst {pins:List (Addr×Obj)}{σ:St}{H:Hp}{s:Shared}{p:Addr}{xs:List V}(I:Inv X pins σ H s)(h:H p=some (.lst xs)):
 ∃ (its:List Value) (n:Nat),Vals xs its/\s.heap.get? p=some {cls:= .type "list",data:= .seq its.toArray n}/\xs.length<=sizeLine:=by
 obtain⟨z,its,n,r,e⟩:=I.hok p _ h;exact⟨its,n,r,e,z⟩
theorem Inv.lstUpd {pins:List (Addr×Obj)}{σ:St}{H:Hp}{s:Shared}{p:Addr}{xs ys:List V}{its its':List Value}{n n':Nat}{f:Obj->Obj}(I:Inv X pins σ H s)(h:H p=some (.lst xs))
 (ho:s.heap.get? p=some {cls:= .type "list",data:= .seq its.toArray n})(hf:f {cls:= .type "list",data:= .seq its.toArray n}= {cls:= .type "list",data:= .seq its'.toArray n'})(r:Vals ys its')(hz:ys.length<=sizeLine)(t:Nat):
 Inv X pins σ (upd H p (.lst ys)) {s with heap:=s.heap.update p f,toks:=t}:=by
 have e:(s.heap.update p f).get? p=some {cls:= .type "list",data:= .seq its'.toArray n'}:=by
  rw [T6 f ho (by rw [hf]<;>rfl),hf]
 refine I.write (x:=p) (e:=p) (by rw [h];trivial) (.inl rfl) (λb u hb q=>(Heap.get?_update_other _ _ (Ne.symm hb)).trans q) ⟨_,e⟩ ?_;exact⟨hz,its',n',r,e⟩
def Tz:V->V->V->Hp->(Hp->Prop)->Prop:=λo i v H Q=> ∃p xs k j,o= .ref p/\i= .int k/\H p=some (.lst xs)/\ixN xs.length k=some j/\Q (upd H p (.lst (xs.set j v)))
theorem No:HS X Tz:=by
 intro pins s σ H o i v ov iv u Q I ro ri rv h;obtain⟨p,xs,k,j,rfl,rfl,hp,hj,q⟩:=h;cases ro;obtain⟨t,rfl⟩:=ri;obtain⟨its,n,r,ho,hz⟩:=I.lst hp;obtain⟨h1,h2,h3,h4⟩:=Du hj;have hl:=r.length;have hn:=VC;have I':Inv X pins σ (upd H p (.lst (xs.set j v))) {s with heap:=s.heap.update p (Obj.mapSeq (·.setIfInBounds j u))}:=
  I.lstUpd hp ho (Gy its n j u) (r.set rv j) (by rw [List.length_set];exact hz) s.toks
 by_cases h0:0<=k
 ·have hk:k.toNat=j:=by
   rw [seqIndex_of h0 h4] at h1;exact C4 h1
  exact PySem.W.ki_setAt ho h0 (by omega) (by rw [D3,<-hl];exact h4) (by rw [hk];exact⟨_,I',q⟩)
 ·have hk:(k+(its.toArray.size:Int)).toNat=j:=by
   rw [seqIndex_neg (by omega) h3] at h1;rw [D3,<-hl];exact C4 h1
  exact PySem.W.ki_setBack ho (by omega) (by rw [D3,<-hl];exact h3) (by omega) (by rw [hk];exact⟨_,I',q⟩)
theorem VG (lo hi:Option Int)(n:Nat):(sliceBounds lo hi none n).1=((HT.sIx n 0 lo:Nat):Int)/\(sliceBounds lo hi none n).2.1=((HT.sIx n n hi:Nat):Int)/\(sliceBounds lo hi none n).2.2=1:=by
 refine⟨?_,?_,rfl⟩
 ·cases lo with
  |none=>simp [sliceBounds,HT.sIx]
  |some i=>
   simp only [sliceBounds,HT.sIx,Option.getD_none,show (1:Int)>0 by decide,if_true]
   by_cases h:i<0
   ·simp only [h,if_true]<;>omega
   ·simp only [h,G1r]<;>omega
 ·cases hi with
  |none=>simp [sliceBounds,HT.sIx]
  |some i=>
   simp only [sliceBounds,HT.sIx,Option.getD_none,show (1:Int)>0 by decide,if_true]
   by_cases h:i<0
   ·simp only [h,if_true]<;>omega
   ·simp only [h,G1r]<;>omega
theorem Ys (its:List Value)(lo hi:Option Int):slicePick its.toArray lo hi none=((its.drop (HT.sIx its.length 0 lo)).take (HT.sIx its.length its.length hi-HT.sIx its.length 0 lo)).toArray:=by
 obtain⟨h1,h2,h3⟩:=VG lo hi its.toArray.size;unfold slicePick;rw [h1,h2,h3];simp only [sliceRange_one,pick_run,D3]<;>rfl
def KG (K:PySem.W.Frag):V->Option Int->Option Int->Hp->VK->Prop:=λx lo hi H Q=> ∃a xs,x= .ref a/\SqL K H a xs/\ ∀p,H p=none->Q (.ref p) (upd H p (.lst (MN xs lo hi)))
theorem Fn:SlR X (KG X.K):=by
 intro pins s σ H x v vl vu lo hi sl Q I rx hs pl pu h;obtain⟨a,xs,rfl,hx,q⟩:=h;cases rx;obtain⟨its,r,ht,hz⟩:=I.list hx;have hlen:=r.length;refine⟨"list",_,slot_list_getitem.lookup,ht.isList.typeIs,?_⟩;refine wpAny_getItem_list_slice ht.isList hs pl pu .none (by simp) ?_ (by rw [D3]<;>omega);rw [Ys,<-hlen];refine⟨.ref s.heap.objs.size,_,I.laid (t':=s.toks) (o:= .lst (MN xs lo hi)) (λb ob q=>G1 _ q) (G5 _) ?_,rfl,q _ (I.hok.fresh (G5 _))⟩;exact⟨P7 (Zo xs lo hi) hz,_,0,(r.drop (HT.sIx xs.length 0 lo)).take (HT.sIx xs.length xs.length hi-HT.sIx xs.length 0 lo),D0 _ rfl⟩
theorem call_len_seq:CallR X (.builtin "len") (λxs H Q=> ∃p ys,xs= [.ref p]/\(SqL X.K H p ys\/SqT X.K H p ys)/\Q (.int ys.length) H):=by
 intro pins s σ H xs us Q I r h;obtain⟨p,ys,rfl,hq,q⟩:=h;obtain⟨u,rfl,rx⟩:=vz r;cases rx;have hn:=VC;rcases hq with hq|hq
 ·obtain⟨its,r',pl,hz⟩:=I.list hq;have hlen:=r'.length;exact Calls.call_len_list pl.isList (by simp only [D3]<;>omega) ⟨.int ys.length,H,I.tok _,⟨s.toks+1,by rw [D3,hlen]⟩,q⟩
 ·obtain⟨its,r',pl,hz⟩:=I.tuple hq;have hlen:=r'.length;exact len_tuple pl (by simp only [D3]<;>omega) ⟨.int ys.length,H,I.tok _,⟨s.toks+1,by rw [D3,hlen]⟩,q⟩
theorem call_tuple_of:CallR X (.type "tuple") (λxs H Q=> ∃p ys,xs= [.ref p]/\((SqL X.K H p ys/\ ∀l,H l=none->Q (.ref l) (upd H l (.tup ys)))\/(SqT X.K H p ys/\Q (.ref p) H))):=by
 intro pins s σ H xs us Q I r h;obtain⟨p,ys,rfl,h⟩:=h;obtain⟨u,rfl,rx⟩:=vz r;cases rx;rcases h with ⟨hq,q⟩|⟨hq,q⟩
 ·obtain⟨its,r',pl,hz⟩:=I.list hq;have hlen:=r'.length;refine call_tuple_list pl.isList (λh' kp=> ?_) (by simp only [D3]<;>omega);have I1:Inv X pins σ H {s with heap:=h'}:=I.kept (t':=s.toks) kp;have I2:Inv X pins σ (upd H h'.objs.size (.tup ys)) {s with heap:=h'.push {cls:= .type "tuple",data:= .seq its.toArray}}:=
   I1.laid (t':=s.toks) (λb o e=>G1 _ e) (G5 _) (show ObjOk X.prog X.w _ _ _ (.tup ys) from ⟨hz,its,r',IsTupN.new _ _⟩)
  exact⟨.ref h'.objs.size,_,I2,rfl,q _ (I1.hok.fresh (G5 _))⟩
 ·obtain⟨its,r',pl,hz⟩:=I.tuple hq;exact call_tuple_same pl ⟨.ref p,H,I,rfl,q⟩
def tyV (K:PySem.W.Frag)(T:String)(x:V)(H:Hp):Prop:=match x with
 | .str _=>T= "str"
 | .int _=>T= "int"
 | .ref p=>(T= "list" /\ ∃xs,SqL K H p xs)\/(T= "tuple" /\ ∃o,K.lookup p=some o/\o.cls= .type "tuple" /\o.dict=none)\/
  (T= "dict" /\((∃kvs,H p=some (.dK kvs))\/ ∃kvs,H p=some (.dT kvs)))\/(T= "set" /\ ∃S n,H p=some (.set S n))
 |_=>False
theorem AD {pins:List (Addr×Obj)}{σ:St}{H:Hp}{s:Shared}{T:String}{x:V}{v:Value}(I:Inv X pins σ H s)(r:RelV x v)(ty:tyV X.K T x H):
 s.TypeIs v T/\ ∀a,v= .ref a-> ∃ob,s.heap.get? a=some ob/\ob.dict=none:=by
 cases x with
 |str z=>
  obtain⟨t,rfl⟩:=r;cases (show T= "str" from ty);exact⟨typeIs_str s z t,λ_ e=>nomatch e⟩
 |int i=>
  obtain⟨t,rfl⟩:=r;cases (show T= "int" from ty);exact⟨G1s s i t,λ_ e=>nomatch e⟩
 |ref p=>
  cases r;rcases ty with ⟨rfl,xs,hq⟩|⟨rfl,o,hk,hc,hd⟩|⟨rfl,hk⟩|⟨rfl,S,n,hk⟩
  ·obtain⟨its,_,pl,_⟩:=I.list hq;refine⟨pl.isList.typeIs,λa e=> ?_⟩;cases e;obtain⟨o,n,e,c,hd,_⟩:=pl;exact⟨o,e,hd⟩
  ·refine⟨⟨o,I.kIn p o hk,hc⟩,λa e=> ?_⟩;cases e;exact⟨o,I.kIn _ o hk,hd⟩
  ·have z: ∃o,s.heap.get? p=some o/\o.ExactDict:=by
    rcases hk with ⟨kvs,hk⟩|⟨kvs,hk⟩
    ·obtain⟨_,_,_,_,o,_,_,e,ex,_⟩:=I.hok p _ hk;exact⟨o,e,ex⟩
    ·obtain⟨_,_,_,_,o,_,_,e,ex,_⟩:=I.hok p _ hk;exact⟨o,e,ex⟩
   obtain⟨o,e,ex⟩:=z;refine⟨⟨o,e,ex.1⟩,λa e2=> ?_⟩;cases e2;exact⟨o,e,ex.2.1⟩
  ·obtain⟨o,_,_,_,e,ex,_⟩:=I.hok p _ hk;refine⟨⟨o,e,ex.1⟩,λa e2=> ?_⟩;cases e2;exact⟨o,e,ex.2.1⟩
 |_=>exact False.elim ty
def tBM (K:PySem.W.Frag)(T:String)(r:V->List V->Hp->VK->Prop)(to:TE)(t:TA):TE:=λσ H Q=>to σ H λx H1=>tyV K T x H1/\t σ H1 λxs H2=>r x xs H2 Q
variable {o e:Expr}{es:List Expr}{to:TE}{t:TA}{name:Str}{apos cpos:Pos}{T id:String}{r:V->List V->Hp->VK->Prop}
theorem Np (pa:PlainAttrs T)(slot:Slot T name id)(hty:typeOf (.builtin id)=pure (.type "method_descriptor"))(hm:MtR X id r)(ho:PE X o to)(ha:PA X (e::es) t)
 (hbase:attributeBase o name X.env (eval o X.env)=eval o X.env:=by rfl)
 (hfew:((backTo cpos (starEach (e::es) X.env)).all (λx=> !x.1)&&(backToKw cpos (keywordEach [] X.env)).all (λx=>x.1.isSome)
  &&decide ((e::es).length+([]:List Keyword).length+(if ([]:List Keyword).isEmpty then 0 else 1)<30))=true:=by rfl)
 (hline:(apos.endLine==cpos.line)=true:=by rfl)(hs:starEach (e::es) X.env=(false,eval e X.env)::starEach es X.env:=by rfl)(hplain:(backTo cpos (starEach es X.env)).any (·.1)=false:=by rfl):
 PE X (.Call (.Attribute o name apos) (e::es) [] cpos) (tBM X.K T r to t):=by
 intro pins s σ H Q I h;refine wpAny_Call_method_late hbase hfew hline rfl (thn (ho pins s σ H _ I h) λv s1 ⟨x,H1,I1,r1,ty,q1⟩=> ?_);obtain⟨h1,h2⟩:=AD I1 r1 ty;refine⟨T,id,pa,slot,hty,h1,h2,?_⟩;have hA:=ha cpos pins s1 σ H1 _ I1 q1;rw [hs] at hA ⊢;refine Calls.callWith_builtin (by show (false||(backTo cpos (starEach es X.env)).any (·.1))=false;rw [hplain]<;>rfl) (Calls.evalArgs_plain ?_);exact thn hA λus s2 ⟨vs,H2,I2,r2,q2⟩=>hm pins s2 σ H2 x vs v us Q I2 r1 r2 q2
end
def MtM (X:Cx)(id:String)(r:V->List V->Hp->VK->Prop):Prop:=
 ∀ (pins:List (Addr×Obj)) (s:Shared) (σ:St) (H:Hp) (x:V) (xs:List V) (v:Value) (us:List Value) (Q:VK),Inv X pins σ H s->RelV x v->Vals xs us->r x xs H Q->
  wpAny (model X.prog X.w) X.A (call (.builtin id) (v::us)) (EP X pins σ Q) X.xe s
theorem Vals.one: ∀ {x:V} {us:List Value},Vals [x] us-> ∃u,us= [u]/\RelV x u
 |_,_,.cons r .nil=>⟨_,rfl,r⟩
theorem Vals.rep {xs:List V}{us:List Value}(h:Vals xs us): ∀k:Nat,Vals (List.replicate k xs).flatten (List.replicate k us).flatten
 |0=> .nil
 |k+1=>by
  rw [E2,E2,U4,U4];exact Vals.append h (Vals.rep h k)
theorem Zp (its:List Value): ∀ (k:Nat) (acc:List Value),
 List.foldl (λx1 x2=>x1++x2) acc.toArray (List.replicate k its.toArray)=(acc++(List.replicate k its).flatten).toArray
 |0,acc=>by simp
 |k+1,acc=>by
  have e:acc.toArray++its.toArray=(acc++its).toArray:=by simp
  have e2:(acc++its)++(List.replicate k its).flatten=acc++(List.replicate (k+1) its).flatten:=by
   rw [E2,U4,G8]
  rw [<-e2,<-Zp its k (acc++its),<-e,E2,G0C]
section
variable {X:Cx}{pins:List (Addr×Obj)}{σ:St}{H:Hp}{s:Shared}{l b:Addr}{xs ys zs:List V}
theorem Inv.lset {its its':List Value}{n:Nat}{f:Array Value->Array Value}{t':Nat}(I:Inv X pins σ H s)(hH:H l=some (.lst xs))
 (e:s.heap.get? l=some {cls:= .type "list",data:= .seq its.toArray n})(hf:f its.toArray=its'.toArray)(hv:Vals ys its')(hz:ys.length<=sizeLine):
 Inv X pins σ (upd H l (.lst ys)) {s with heap:=s.heap.update l (Obj.mapSeq f),toks:=t'}:=by
 have q:=PySem.IsL.update e f;rw [hf] at q;refine I.write (x:=l) (e:=l) (by rw [hH];exact trivial) (.inl rfl) (λb' u hb hu=>(Heap.get?_update_other s.heap (Obj.mapSeq f) (Ne.symm hb)).trans hu) ⟨_,q⟩ ?_;exact⟨hz,its',_,hv,q⟩
theorem Inv.lnew {its:List Value}{t':Nat}(I:Inv X pins σ H s)(hv:Vals ys its)(hz:ys.length<=sizeLine):
 Inv X pins σ (upd H s.heap.objs.size (.lst ys)) {s with heap:=s.heap.push {cls:= .type "list",data:= .seq its.toArray},toks:=t'}:=
 I.laid (λ_ _ q=>G1 _ q) (G5 _) ⟨hz,its,0,hv,D0 _ rfl⟩
theorem Inv.fresh (I:Inv X pins σ H s):H s.heap.objs.size=none:=I.hok.fresh (G5 _)
theorem Inv.lstM (I:Inv X pins σ H s)(hH:H l=some (.lst xs)):xs.length<=sizeLine/\ ∃ (its:List Value) (n:Nat),Vals xs its/\xs.length=its.length/\s.heap.get? l=some {cls:= .type "list",data:= .seq its.toArray n}:=by
 obtain⟨z,its,n,r,e⟩:=I.hok l _ hH;exact⟨z,its,n,r,r.length,e⟩
theorem Nq {n:Nat}(h:n<=sizeLine):Builtin.List.listTooLong n=false:=by
 unfold Builtin.List.listTooLong;exact R9 (by omega)
end
section
variable {X:Cx}
def Fo:V->List V->Hp->VK->Prop:=λx vs H Q=> ∃l xs y,x= .ref l/\vs= [y]/\H l=some (.lst xs)/\xs.length<sizeLine/\Q .non (upd H l (.lst (xs++ [y])))
theorem Dv:MtM X "list.append" Fo:=by
 intro pins s σ H x vs v us Q I rx rv h;obtain⟨l,xs,y,rfl,rfl,hH,hz,q⟩:=h;cases rx;obtain⟨u,rfl,ru⟩:=rv.one;obtain⟨z,its,n,r,hl,e⟩:=I.lstM hH;refine G0z F.slot_list_append ⟨_,e,rfl⟩ F.entry_list_append (F.args_list_append_2 _ _) (PySem.list_append l its.toArray n u (by rw [D3];omega)) ⟨e,?_⟩;refine⟨.non,_,I.lset (its':=its++ [u]) hH e (by simp) (r.append (.cons ru .nil)) ?_,rfl,q⟩;rw [G6,E8];omega
def KH:R2:=λx y H Q=> ∃l b xs zs,x= .ref l/\y= .ref b/\H l=some (.lst xs)/\H b=some (.lst zs)/\xs.length+zs.length<=sizeLine/\ ∀p,H p=none->Q (.ref p) (upd H p (.lst (xs++zs)))
theorem AE:OpR X (binaryOp .Add) KH:=by
 intro pins s σ H x y v u Q I rx ry h;obtain⟨l,b,xs,zs,rfl,rfl,hH,hB,hz,q⟩:=h;cases rx;cases ry;obtain⟨z,its,n,r,hl,e⟩:=I.lstM hH;obtain⟨z2,its2,n2,r2,hl2,e2⟩:=I.lstM hB;refine PySem.P.add_list e e2 ?_ (by rw [D3,D3];omega);have ea:its.toArray++its2.toArray=(its++its2).toArray:=by simp
 rw [ea];exact⟨.ref _,_,I.lnew (t':=s.toks) (r.append r2) (by rw [G6];omega),rfl,q _ I.fresh⟩
def KI:R2:=λx y H Q=> ∃l k xs,x= .ref l/\y= .int k/\H l=some (.lst xs)/\ -(2^63)<=k/\k<2^63/\xs.length*k.toNat<=sizeLine/\
 ∀p,H p=none->Q (.ref p) (upd H p (.lst (List.replicate k.toNat xs).flatten))
theorem Xl {α:Type}(xs:List α)(k:Nat):(List.replicate k xs).flatten.length=k*xs.length:=by
 induction k with
 |zero=>simp
 |succ k ih=>rw [E2,U4,G6,ih,Nat.succ_mul,Nat.add_comm]
theorem AF:OpR X (binaryOp .Mult) KI:=by
 intro pins s σ H x y v u Q I rx ry h;obtain⟨l,k,xs,rfl,rfl,hH,h1,h2,hz,q⟩:=h;cases rx;obtain⟨t,rfl⟩:=ry;obtain⟨z,its,n,r,hl,e⟩:=I.lstM hH;have hlen:its.toArray.size*k.toNat<=sizeLine:=by rw [D3,<-hl];exact hz
 have hcap: ¬its.toArray.size*k.toNat>(2^63-1) / 8:=by
  have:(sizeLine:Nat)<=(2^63-1) / 8:=by decide
  omega
 have hfit: ¬ (!Builtin.List.listFitsIndex k)=true:=by
  rw [fitsIndex_both h1 h2];exact P5
 have hlong: ¬Builtin.List.listTooLong (its.toArray.size*k.toNat)=true:=by
  rw [Nq hlen];exact P5
 have hnew:List.foldl (λx1 x2=>x1++x2) #[] (List.replicate (if its.toArray.isEmpty=true then 0 else k.toNat) its.toArray)=(List.replicate k.toNat its).flatten.toArray:=by
  have f0: ∀m:Nat,List.foldl (λx1 x2=>x1++x2) #[] (List.replicate m its.toArray)=(List.replicate m its).flatten.toArray:=λm=>by
   have:=Zp its m [];rw [B2] at this;exact this
  rw [f0];cases its with
  |nil=>simp
  |cons a r'=>rw [if_neg (by simp)]
 refine G0T (T:= "list") (U:= "int") (by decide) ⟨_,e,rfl⟩ (λs'=>G1s s' k t) noFill_list_mul F.fills_int_mul G0D repeat_list F.slot_int_index.lookup
  (G0z G0D (G1s s k t) F.entry_int_rmul (F.args_int_rmul_2 _ _) (int___rmul___int_list k t l its.toArray n)
   ⟨e,rfl,⟨_,e,rfl⟩,G0z F.slot_list_mul ⟨_,e,rfl⟩ F.entry_list_mul (F.args_list_mul_2 _ _) (AutoListH.list___mul___list_int_3 l its.toArray n k t hfit hcap hlong) ⟨e,?_⟩⟩)
 rw [hnew];exact⟨.ref _,_,I.lnew (t':=s.toks) (r.rep k.toNat) (by rw [Xl,G0o];exact hz),rfl,q _ I.fresh⟩
end
end L2
namespace Att
open PySem PySem.W PySem.Calls PyProof.Rows
theorem Zq {P:Params}{h:Heap}: ∀ (ns:List Int) (vs:List Value),WellAll P h vs (ns.map WData.int)->IntsAre vs ns:=by
 intro ns
 induction ns with
 |nil=>
  intro vs w;rw [W4] at w;cases w;exact .nil
 |cons n ns ih=>
  intro vs w;rw [T9] at w;cases w with
  |cons a b=>
   cases a;exact .cons _ _ (ih _ b)
theorem Dw {l:OpenLaw}{n:Nat}(hn:l.most=some n){P:Params}{h:Heap}{args:List WData}{vals:List Value}
 (hpre:l.row.toRowW.claim.pre args=true)(hwl:WellAll P h vals args):
 ∃a vs ns,vals= [Value.ref a]/\args= [WData.list (ns.map WData.int)]/\h.get? a=some {cls:= .type "list",data:= .seq vs.toArray}/\IntsAre vs ns/\ns.length<=n:=by
 have hsh:WShape.hasAll [] args [.list .int]=true:=(pre_splitW hpre).1;have hc:l.pre.holds [] {args:=args}=true:=(pre_splitW hpre).2;obtain⟨d,r,rfl,h1,h2⟩:=hasAllW_cons hsh;obtain rfl:=hasAllW_nil h2;obtain⟨xs,rfl,h3⟩:=hasW_list h1;obtain⟨ns,rfl⟩:=items_int h3;have hlen:ns.length<=n:=by
  unfold OpenLaw.pre at hc;have h4:(WTm.not (.lt (.lit (.int (n:Int))) (.len (.arg 0)))).holds [] {args:= [.list (ns.map .int)]}=true:=by
   have h4:=(holds_andW hc).1;rw [hn] at h4;exact h4
  have h5:=condW_of h4 (w_not (w_lt w_lit (w_len_list (w_arg rfl))));rw [G0] at h5;refine G1f λq=> ?_
  have q':(n:Int)<((ns.length:Nat):Int):=by omega
  first
   |(rw [R1 q'] at h5;exact absurd h5 (by decide))
   |(simp at h5;omega)
 cases hwl with
 |cons w1 w2=>
  cases w2;cases w1 with
  |list ho hall=>exact⟨_,_,ns,rfl,rfl,ho,Zq ns _ hall,hlen⟩
theorem Dx (l:OpenLaw)(args:List WData):l.row.toRowW.claim.post args (.bool true) args=true:=
 postW_of (r:=l.row.toRowW) (X:=(true==true))
  (show WShape.has [] (.bool true) .bool=true by first|rfl|decide|simp [WShape.has,WShape.arms,WShape.armsAll])
  (show (WTm.eq .res (.lit (.bool true))).value [] {args:=args,res:=some (.bool true),after:=args}=some (.bool (true==true)) from w_eq_bool (w_res rfl) w_lit) rfl
theorem attach_call {l:OpenLaw}{n:Nat}{q:Program}{loose:List Str}{XP:(Str->Option Value)->Heap->Prop}{YP:World->Heap->Prop}{d:DefRec}
 (hn:l.most=some n)(hdf:d.params.defaults= [])
 (call: ∀ (w:World) (s₀ s₁:Shared) (mg mb:Str->Option Value) (fa:Addr) (o:Obj) (pm cd doc:Value) (a:Addr) (vs:List Value) (ns:List Int),
  Ground q loose [] XP w s₀ mg mb s₁.heap->YP w s₁.heap->
  s₁.heap.get? fa=some o->o.data= .func (docDef d.name d.params d.body d.scope pm cd doc)->s₁.heap.CodeRec cd d.name->mg d.name=some (.ref fa)->
  s₁.heap.get? a=some {cls:= .type "list",data:= .seq vs.toArray}->IntsAre vs ns->ns.length<=n->s₁.gens= #[]->
  codeAny (model l.prog w) callerA (.call (.ref fa) ⟨[.ref a],[]⟩) (λr s'=>r= .ok (.ret (.bool true))/\OldK s₁.heap s'.heap/\s'.os=s₁.os/\AllBare s'.gens) s₁):
 WalkO q loose XP YP l.row.toRowW d [] (λf vs=>PySem.call f vs):=by
 intro w s₀ s₁ mg mb G Y fa o pm cd doc dV kV ho hd hcd hD hmg hg args vals as hpre hlay hrd hwl hlo;obtain rfl:dV= .none:=Dflts.none hD hdf;obtain rfl:kV= .none:=Dflts.noKw hD;obtain⟨a,vs,ns,rfl,rfl,hobj,hints,hlen⟩:=Dw hn hpre hwl;refine enter_call (W3 (call w s₀ s₁ mg mb fa o pm cd doc a vs ns G Y ho (fd_plain hd) hcd hmg hobj hints hlen hg) λr s' hq=> ?_);obtain⟨rfl,h2,h3,h4⟩:=hq;exact⟨.inl ⟨.bool true,.bool true,[],rfl,λ_=>rfl,.bool true,Dx l _,λ_=>⟨List.Pairwise.nil,λ_ hm=>(nomatch hm)⟩⟩,h2,h3,h4⟩
end Att
namespace L2
open PySem PySem.Spec PyProof.Rows
theorem VH: ∀ {vs:List Value} {ns:List Int},IntsAre vs ns->Vals (ns.map V.int) vs
 |_,_,.nil=> .nil
 |_,_,.cons n t h=> .cons ⟨t,rfl⟩ (VH h)
def Only (H:Hp):Prop:= ∀b,H b=none\/ ∃o xs,H b=some (.frz o (.lst xs))
def yk (s:Stmt):Arguments:=match s with
 | .FunctionDef _ a _ _ _ _ _ _ _ _=>a
 |_=> {posonlyargs:= [],args:= [],vararg:=none,kwonlyargs:= [],kw_defaults:= [],kwarg:=none,defaults:= []}
def jX (s:Stmt):List Stmt:=match s with
 | .FunctionDef _ _ b _ _ _ _ _ _ _=>b
 |_=> []
def je (s:Stmt):Scope:=match s with
 | .FunctionDef _ _ _ _ _ _ sc _ _ _=>sc
 |_=> {kind:= .function,names:= [],isGenerator:=false,isCoroutine:=false}
abbrev CX0:CXT:=λ_ _ _ _ _ _=>False
abbrev E0:XK:=λ_ _ _=>False
variable {X:Cx}
theorem Fp:Zk CX0 X E0:=λ_ _ _ _ _ _ _ h=>h.elim
structure Fun (K:PySem.W.Frag)(x qual:Str)(st:Stmt)(f:Addr)(fd:FuncData):Prop where
 ex: ∃ (oc:Value) (od:Option Addr) (kV doc pm:Value) (an:Option Addr) (cdv ct:Value) (osl:Array (Option Value)),
  fd=PySem.W.fnOf x qual (yk st) (jX st) (je st) .none kV doc pm an cdv ct/\K.lookup f=some ⟨oc,od,.func fd,osl⟩/\PySem.W.codeIn K cdv qual=true
 kp:PySem.W.keepIn K (.ref f)=true
section
variable {P:Program}{w:World}{K:PySem.W.Frag}{mg:Str->Option Value}{base:Heap}
variable {qual:Str}
theorem Fun.ok {x:Str}{st:Stmt}{f:Addr}{fd:FuncData}{N ps:List Str}{k:Nat}{sp:Sp}(F:Fun K x qual st f fd)(S:FnScope N ps (je st))(len: ∀vs H Q E,sp vs H Q E->vs.length=ps.length)
 (hbody: ∀ (cdv:Value) (A:Around) (outer:List Env) (s:Shared) (H:Hp) (vs:List V) (Q:VK) (E:XK),Room k (A.deeper (envOfC qual (je st) s.heap.objs.size f cdv))->sp vs H Q E->
  ∃t,PSs (Yq CX0 P w K mg base N qual (je st) f cdv A outer s H E).nox (jX st) t/\t {nx:=λ_ H'=>Q .non H',rt:=Q} (start N vs) H):FnOk P w K mg base CX0 (k+1) f fd ps sp:=by
 obtain⟨oc,od,kV,doc,pm,an,cdv,ct,osl,rfl,lk,hcd⟩:=F.ex;refine Fk lk hcd S len λA outer s H vs Q E hr hsp=> ?_
 obtain⟨t,h,q⟩:=hbody cdv A outer s H vs Q E hr hsp;exact⟨t,h.nox,q⟩
theorem Fun.binds {x:Str}{st:Stmt}{f:Addr}{fd:FuncData}{ps:List Str}(F:Fun K x qual st f fd)
 (h: ∀ (kV doc pm:Value) (an:Option Addr) (cdv ct:Value) (us:List Value),us.length=ps.length->bindArgs (PySem.W.fnOf x qual (yk st) (jX st) (je st) .none kV doc pm an cdv ct) ⟨us,[]⟩=pure (ps.zip us)):Binds K fd ps []:=by
 obtain⟨oc,od,kV,doc,pm,an,cdv,ct,osl,rfl,lk,hcd⟩:=F.ex;exact .all (h kV doc pm an cdv ct)
theorem AG {x:Str}{st:Stmt}{f:Addr}{oc:Value}{od an:Option Addr}{osl:Array (Option Value)}{kV doc pm cdv ct:Value}(l:K.lookup f=some ⟨oc,od,.func (PySem.W.fnOf x qual (yk st) (jX st) (je st) .none kV doc pm an cdv ct),osl⟩)
 (c:PySem.W.codeIn K cdv qual=true)(k:PySem.W.keepIn K (.ref f)=true):Fun K x qual st f (PySem.W.fnOf x qual (yk st) (jX st) (je st) .none kV doc pm an cdv ct):=⟨⟨oc,od,kV,doc,pm,an,cdv,ct,osl,rfl,l,c⟩,k⟩
end
theorem jA {n:Nat}(h:n<=1000):n<sizeLine:=A3 h (by decide)
section
variable {X:Cx}
theorem pv (i:Nat){x:Str}{pos:Pos}(hN:X.N[i]? =some x:=by rfl)(hv:Vis X.env.scope x:=by first|exact Or.inl rfl|exact Or.inr (Or.inl rfl)|exact Or.inr (Or.inr rfl))(hd:(x==("__debug__" :Str))=false:=by decide)
 (hcd:(x==("__classdict__" :Str))=false:=by decide):PE X (.Name x pos) (Tf i):=BV hN hv hd hcd
end
theorem Zr {A B:Prop}(h:B):if false=true then A else B:=by
 rw [if_neg P5];exact h
theorem MO {A B:Prop}(h:A):if true=true then A else B:=by
 rw [if_pos rfl];exact h
theorem Wq {c A B:Prop}[Decidable c](h1:c->A)(h2: ¬c->B):if c then A else B:=by
 by_cases h:c
 ·rw [if_pos h];exact h1 h
 ·rw [if_neg h];exact h2 h
structure M1 (X:Cx)(o:Expr)(m:Str)(apos:Pos)(e:Expr)(cpos:Pos):Prop where
 base:attributeBase o m X.env (eval o X.env)=eval o X.env
 few:((backTo cpos (starEach [e] X.env)).all (λx=> !x.1)&&(backToKw cpos (keywordEach [] X.env)).all (λx=>x.1.isSome)
  &&decide (([e]:List Expr).length+([]:List Keyword).length+(if ([]:List Keyword).isEmpty then 0 else 1)<30))=true
 line:(apos.endLine==cpos.line)=true
 trees:backTo cpos (starEach [e] X.env)= [(false,eval e X.env)]
structure M2 (X:Cx)(o:Expr)(m:Str)(apos:Pos)(e f:Expr)(cpos:Pos):Prop where
 base:attributeBase o m X.env (eval o X.env)=eval o X.env
 few:((backTo cpos (starEach [e,f] X.env)).all (λx=> !x.1)&&(backToKw cpos (keywordEach [] X.env)).all (λx=>x.1.isSome)
  &&decide (([e,f]:List Expr).length+([]:List Keyword).length+(if ([]:List Keyword).isEmpty then 0 else 1)<30))=true
 line:(apos.endLine==cpos.line)=true
 trees:backTo cpos (starEach [e,f] X.env)= [(false,eval e X.env),(false,eval f X.env)]
def wz (names:List (Str×NameKind))(env:Env)(cs:List (Str×Addr)):List (Str×Addr):=
 names.foldl (λcs p=>if p.2= .free then (match env.cells.lookup p.1 with|some c=>(p.1,c)::cs|none=>cs) else cs) cs
theorem zL (p:Str×NameKind)(l:List (Str×NameKind))(env:Env)(cs:List (Str×Addr)):
 wz (p::l) env cs=wz l env (if p.2= .free then (match env.cells.lookup p.1 with|some c=>(p.1,c)::cs|none=>cs) else cs):=rfl
variable {env:Env}
theorem Zt {f:Str×NameKind->List (Str×Addr)->Sem (ForInStep (List (Str×Addr)))}
 (h1: ∀p cs,p.2≠ .free->f p cs=pure (.yield cs))(h2: ∀p cs c,p.2= .free->env.cells.lookup p.1=some c->f p cs=pure (.yield ((p.1,c)::cs))):
 ∀ (l:List (Str×NameKind)) (cs:List (Str×Addr)),(∀p∈l,p.2= .free-> ∃c,env.cells.lookup p.1=some c)->forIn l cs f=pure (wz l env cs)
 | [],cs,_=>rfl
 |p::l,cs,h=>by
  have ih:=Zt h1 h2 l
  by_cases hp:p.2= .free
  ·obtain⟨c,hc⟩:=h p P9 hp;rw [Z5,h2 p cs c hp hc,pure_bind];show forIn l ((p.1,c)::cs) f=_;rw [ih _ λq hq=>h q (D5 _ hq),zL,if_pos hp,hc]
  ·rw [Z5,h1 p cs hp,pure_bind];show forIn l cs f=_;rw [ih _ λq hq=>h q (D5 _ hq),zL,if_neg hp]
variable {scope:Scope}
theorem Yt (h: ∀p∈scope.names,p.2= .free-> ∃c,env.cells.lookup p.1=some c):closureFor scope env=pure (wz scope.names env []):=by
 simp only [closureFor];rw [Zt (env:=env) (λp cs hp=> ?_) (λp cs c hp hc=> ?_) _ _ h]
 ·rfl
 ·obtain⟨n,k⟩:=p;have hb:(k==NameKind.free)=false:=by simpa using hp
  simp only [hb,B1,G1r]
 ·obtain⟨n,k⟩:=p;have hb:(k==NameKind.free)=true:=by simpa using hp
  have hc':env.cells.lookup n=some c:=hc;simp only [hb,if_true,cellOf,hc',pure_bind]
theorem Zu: ∀ (l:List (Str×NameKind)) (cs:List (Str×Addr)),(∀p∈cs,env.cells.lookup p.1=some p.2)-> ∀p∈wz l env cs,env.cells.lookup p.1=some p.2
 | [],cs,h,p,hp=>h p hp
 |q::l,cs,h,p,hp=>by
  rw [zL] at hp;refine Zu l _ (λr hr=> ?_) p hp
  by_cases hq:q.2= .free
  ·rw [if_pos hq] at hr;cases e:env.cells.lookup q.1 with
   |none=>rw [e] at hr;exact h r hr
   |some c=>
    rw [e] at hr;rcases P3.mp hr with rfl|hr
    ·exact e
    ·exact h r hr
  ·rw [if_neg hq] at hr;exact h r hr
theorem Zv: ∀ (l:List (Str×NameKind)) (cs:List (Str×Addr)),∀p∈cs,p∈wz l env cs
 | [],cs,p,hp=>hp
 |q::l,cs,p,hp=>by
  rw [zL];refine Zv l _ p ?_
  by_cases hq:q.2= .free
  ·rw [if_pos hq];cases e:env.cells.lookup q.1 with
   |none=>exact hp
   |some c=>exact D5 _ hp
  ·rw [if_neg hq];exact hp
variable {x:Str}
theorem Zw {c:Addr}(hc:env.cells.lookup x=some c): ∀ (l:List (Str×NameKind)) (cs:List (Str×Addr)),(x,NameKind.free)∈l->(x,c)∈wz l env cs
 |q::l,cs,h=>by
  rw [zL];rcases P3.mp h with e|h
  ·subst e;rw [if_pos rfl,hc];exact Zv l _ _ P9
  ·exact Zw hc l _ h
theorem wc {α:Type}: ∀ {l:List (Str×α)} {x:Str} {c:α},l.lookup x=some c->(x,c)∈l
 | [],_,_,h=>by simp at h
 |(n,k)::r,x,c,h=>by
  rw [C3] at h;cases hx:x==n with
  |true=>
   rw [hx] at h;have e:x=n:=eq_of_beq hx;cases h;subst e;exact P9
  |false=>rw [hx] at h;exact D5 _ (wc h)
theorem WQ {α:Type}: ∀ {l:List (Str×α)} {x:Str} {c:α},(x,c)∈l-> ∃c',l.lookup x=some c'
 |(n,k)::r,x,c,h=>by
  rw [C3];cases hx:x==n with
  |true=>exact⟨_,rfl⟩
  |false=>
   rcases P3.mp h with e|h
   ·cases e;simp at hx
   ·exact WQ h
theorem WR {l:List (Str×NameKind)}{c:Addr}(h:(wz l env []).lookup x=some c):env.cells.lookup x=some c:=
 Zu l [] (λ_ z=>nomatch z) (x,c) (wc h)
theorem Dy {l:List (Str×NameKind)}{c:Addr}(hc:env.cells.lookup x=some c)(h:(x,NameKind.free)∈l):(wz l env []).lookup x=some c:=by
 obtain⟨c',e⟩:=WQ (Zw hc l [] h);have:=WR e;rw [hc] at this;cases this;exact e
theorem wK {κ:Type}{f:Str×κ->Str×κ}{g:Str->κ->κ}(hf: ∀n k,f (n,k)=(n,g n k))(x:Str): ∀l:List (Str×κ),(l.map f).lookup x=(l.lookup x).map (g x)
 | []=>rfl
 |(n,k)::r=>by
  rw [T9,hf,C3,C3,wK hf x r];cases same:x==n with
  |false=>rfl
  |true=>rw [eq_of_beq same];rfl
theorem jW {names:List (Str×NameKind)}{k:NameKind}(found:
 (names.map λ(n,k)=>if (k==NameKind.free&&env.scope.kind== .function&&env.kindOf n==some .cell) then (n,NameKind.cell) else (n,k)).lookup x=some k):
  names.lookup x=some k\/names.lookup x=some .free:=by
 rw [wK (g:=λn k=>if (k==NameKind.free&&env.scope.kind== .function&&env.kindOf n==some .cell) then .cell else k) (λn k=>by dsimp only;split<;>rfl)] at found;obtain⟨k0,was,now⟩:=F9.mp found;split at now
 ·rename_i c;simp only [T5,V5] at c;exact .inr (by rw [was,c.1.1])
 ·exact .inl (by rw [was,now])
theorem zX: ∀ (names:List (Str×NameKind)) (n:Nat) (acc:List (Str×Addr)) (p:Str×Addr),p∈cellsFrom n names acc->p∈acc\/(n<=p.2/\(p.1,NameKind.cell)∈names)
 | [],_,_,_,h=> .inl h
 |(x,k)::r,n,acc,p,h=>by
  unfold cellsFrom at h;split at h
  ·rename_i hk;rcases zX r (n+1) _ p h with z|⟨z1,z2⟩
   ·rcases P3.mp z with e|z
    ·subst e;have:k= .cell:=by simpa using hk
     subst this;exact .inr ⟨G5 _,P9⟩
    ·exact .inl z
   ·exact .inr ⟨by omega,D5 _ z2⟩
  ·rcases zX r n acc p h with z|⟨z1,z2⟩
   ·exact .inl z
   ·exact .inr ⟨z1,D5 _ z2⟩
theorem jQ: ∀ (names:List (Str×NameKind)) (n:Nat) (acc:List (Str×Addr)),cellsFrom n names acc=cellsFrom n names []++acc
 | [],_,_=>rfl
 |(x,k)::r,n,acc=>by
  unfold cellsFrom;split
  ·rw [jQ r (n+1) ((x,n)::acc),jQ r (n+1) [(x,n)],G8];rfl
  ·exact jQ r n acc
theorem Je {α:Type}(l l':List (Str×α))(x:Str):(l++l').lookup x=(match l.lookup x with|some c=>some c|none=>l'.lookup x):=by
 induction l with
 |nil=>rfl
 |cons p l ih=>
  obtain⟨n,c⟩:=p;rw [A6,C3,C3];cases x==n with
  |true=>rfl
  |false=>exact ih
theorem yY {names:List (Str×NameKind)}(here:names.lookup x=some .cell):
 (names.map λ(n,k)=>if (k==NameKind.free&&env.scope.kind== .function&&env.kindOf n==some .cell) then (n,NameKind.cell) else (n,k)).lookup x=some .cell:=by
 rw [wK (g:=λn k=>if (k==NameKind.free&&env.scope.kind== .function&&env.kindOf n==some .cell) then .cell else k) (λn k=>by dsimp only;split<;>rfl),here];simp
section
variable {M:Model}{A:Around}{E:Value->Shared->Prop}{s:Shared}
theorem Gz (h:Heap)(names:List (Str×NameKind)):(∀n c,(n,c)∈cellsFrom h.objs.size names []->(pushCells h names).IsCell c none/\h.objs.size<=c)/\(cellsFrom h.objs.size names []).Pairwise λx y=>x.2≠y.2:=
 have laid:=cellsFrom_ok names h h.objs.size [] ⟨by simp,.nil⟩ (G5 _)
 ⟨laid.empty,laid.apart⟩
theorem VI {scope:Scope}{globals:Addr}{closure:List (Str×Addr)}{qual:Str}{func:Option Addr}{code:Value}{outer:Env}{builtins:Addr}{Q:Env->Shared->Prop}
 (hQ: ∀h',h'.Ns s.heap.objs.size (λ_=>none)->(∀b o,s.heap.get? b=some o->h'.get? b=some o)->(∀n c,(n,c)∈cellsFrom (s.heap.objs.size+1) scope.names []->h'.IsCell c none/\s.heap.objs.size+1<=c)->
  ((cellsFrom (s.heap.objs.size+1) scope.names []).Pairwise λx y=>x.2≠y.2)->
  Q (newEnv scope s.heap.objs.size globals (cellsFrom (s.heap.objs.size+1) scope.names closure) qual func code (some outer) builtins) {s with heap:=h'}):
 wpAny M A (newFunctionEnv scope globals closure [] qual func code (some outer) builtins) Q E s:=by
 have names:=Gz (s.heap.push {cls:= .type "dict",data:= .dict #[]}) scope.names;have first:(s.heap.push {cls:= .type "dict",data:= .dict #[]}).objs.size=s.heap.objs.size+1:=G0j ..
 rw [first] at names;unfold newFunctionEnv;refine wpAny_bind (wpAny_alloc (wpAny_bind (wpAny_layCells _ (λn k cs=>rfl) _ _ _ _ ?_)));simp only [Option.isSome_some,if_true];rw [first];exact wpAny_bind (G3 (G3 (hQ _ ((Heap.Ns.new _ _).keeps (pushCells_keeps _ _)) (λb o here=>pushCells_keeps _ _ b o (G1 _ here)) names.1 names.2)))
end
def jO (X:Cx)(scope:Scope)(C:Addr):List (Str×Addr):=cellsFrom (C+1) scope.names (wz scope.names X.env [])
def Yu (X:Cx)(scope:Scope)(C:Addr)(s₀:Shared)(H₀:Hp)(ex:List Addr):Cx:=
 {X with s₀:=s₀,H₀:=H₀,env:=compEnvC scope (jO X scope C) C X.env,outer:=X.stack,ex:=ex,fn:=λx=>scope.names.lookup x==some .cell,pn:= [],xe:=λ_ _=>False}
def jB (X:Cx)(scope:Scope)(X':Cx):Prop:= ∃C s₀ H₀ ex,X'=Yu X scope C s₀ H₀ ex
structure BlockOk (X:Cx)(scope:Scope)(js:List Nat):Prop where
 kind:scope.kind= .function
 locs: ∀p∈scope.names,p.2= .local->scope.names.lookup p.1=some .local
 cels: ∀p∈scope.names,p.2= .cell->scope.names.lookup p.1=some .cell
 free: ∀p∈scope.names,p.2= .free->X.env.scope.names.lookup p.1=some .cell\/X.env.scope.names.lookup p.1=some .free
 js: ∀ (i:Nat) (x:Str),X.N[i]? =some x->(scope.names.lookup x=some .local\/scope.names.lookup x=some .cell)->i∈js
variable {js:List Nat}
theorem wE (S:BlockOk X scope js){C:Addr}{x:Str}{c:Addr}(h:(jO X scope C).lookup x=some c):
 (scope.names.lookup x≠some .cell/\X.env.cells.lookup x=some c)\/(scope.names.lookup x=some .cell/\(x,c)∈cellsFrom (C+1) scope.names []):=by
 unfold jO at h;rw [jQ,Je] at h;cases e:(cellsFrom (C+1) scope.names []).lookup x with
 |some d=>
  rw [e] at h;cases h;have m:=wc e;rcases zX _ _ _ _ m with z|⟨_,z⟩
  ·exact absurd z (by simp)
  ·exact .inr ⟨S.cels _ z rfl,m⟩
 |none=>
  rw [e] at h;refine .inl ⟨λz=> ?_,WR h⟩;obtain⟨d,hd⟩:=yE (sc:=scope) (n:=C+1) z;rw [e] at hd;cases hd
theorem Jt (S:BlockOk X scope js){C:Addr}{x:Str}{c:Addr}(hc:X.env.cells.lookup x=some c)(h:(x,NameKind.free)∈scope.names)(hn:scope.names.lookup x≠some .cell):(jO X scope C).lookup x=some c:=by
 unfold jO;rw [jQ,Je];cases e:(cellsFrom (C+1) scope.names []).lookup x with
 |some d=>
  rcases zX _ _ _ _ (wc e) with z|⟨_,z⟩
  ·exact absurd z (by simp)
  ·exact absurd (S.cels _ z rfl) hn
 |none=>exact Dy hc h
def zW:List Nat->St->St
 | [],σ=>σ
 |j::js,σ=>zW js (σ.set j none)
theorem WS: ∀ (js:List Nat) (σ:St),(zW js σ).length=σ.length
 | [],_=>rfl
 |j::js,σ=>by rw [zW,WS js];simp
theorem Zx: ∀ (js:List Nat) (σ:St) (i:Nat) (v:V),(zW js σ)[i]? =some (some v)->σ[i]? =some (some v)
 | [],_,_,_,h=>h
 |j::js,σ,i,v,h=>by
  have h1:=Zx js _ i v h
  by_cases e:i=j
  ·subst e;rw [G0d] at h1;simp at h1
  ·rwa [F8 (Ne.symm e)] at h1
theorem zt: ∀ (js:List Nat) (σ:St) (i:Nat) (v:V),i∈js-> ¬ (zW js σ)[i]? =some (some v)
 |j::js,σ,i,v,hm,h=>by
  rcases P3.mp hm with rfl|hm
  ·have h1:=Zx js _ i v h;rw [G0d] at h1;simp at h1
  ·exact zt js _ i v hm h
theorem HOk.track {P:Program}{w:World}{H:Hp}{h:Heap}{a:Addr}{o:HO}(x:HOk P w H h)(hn:H a=none)(new:ObjOk P w (upd H a o) h a o):HOk P w (upd H a o) h:=λb u e=>by
 by_cases hb:b=a
 ·subst hb;rw [jp] at e;cases e;exact new
 ·rw [jl hb] at e;exact(x b u e).stay (λc v _ q=>q) (λc q=>by rw [jl (jq q hn)];exact q) λc xs q=>by rw [jl (jq q hn)];exact q
def Agree (σ σ':St):Prop:=σ'.length=σ.length/\ ∀ (i:Nat) (v:V),σ[i]? =some (some v)->σ'[i]? =some (some v)
theorem Agree.set {σ:St}{j:Nat}(v:V)(h: ∀u,¬σ[j]? =some (some u)):Agree σ (σ.set j (some v)):=⟨by simp,λi u q=>by
 by_cases e:j=i
 ·subst e;exact absurd q (h u)
 ·rw [F8 e];exact q⟩
theorem Agree.trans {a b c:St}(x:Agree a b)(y:Agree b c):Agree a c:=⟨y.1.trans x.1,λi v h=>y.2 i v (x.2 i v h)⟩
def PTs (X:Cx)(ifs:List Expr)(t:TT):Prop:=
 ∀ (pins:List (Addr×Obj)) (s:Shared) (σ:St) (H:Hp) (Q:Bool->Hp->Prop),Inv X pins σ H s->t σ H Q->
  wpAny (model X.prog X.w) X.A (forIn ifs true λc r=>if r=true then do let ok <-isTrue c X.env (eval c X.env);pure (ForInStep.yield ok) else pure (ForInStep.yield r)) (TP X pins σ Q) X.xe s
def Kf:TT:=λ_ H Q=>Q true H
theorem Fq:PTs X [] Kf:=λ_ _ _ H _ I h=>wpAny_tests_nil ⟨H,I,h⟩
theorem Fr {c:Expr}{t:TT}(hc:PT X c t):PTs X [c] t:=λpins s σ H Q I h=>wpAny_tests_one (hc pins s σ H Q I h)
def WT (iter target:Expr)(ifs:List Expr)(it:Value)(env:Env)(act:Sem Unit)(nxt:Code):Sem PySem.Fin:=do
 standAt iter.pos
 match <-pyNext it with
 |none=>pure (.done .next)
 |some v=>
  letOwnedTupleGo target it v
  assign target env v
  let mut ok:=true
  for c in ifs do
   if ok then ok <-isTrue c env (eval c env)
  if ok then act
  again nxt
variable {elt iter:Expr}{pos:Pos}{ifs:List Expr}
theorem Qt {prog:Program}{w:World}{A:Around}{R:Result->Shared->Prop}{s:Shared}{target:Expr}{gens:List Comprehension}{depth:Nat}{it acc:Value}{act:Sem Unit}(I:Nat->Shared->Prop)
 (heq:compTurn (.ListComp elt gens scope pos) depth it acc env=WT iter target ifs it env act (.compLoop (.ListComp elt gens scope pos) depth it acc env))
 (turn: ∀n s,I n s->wpAny (model prog w) A (pyNext it) (λr s₁=>match r with
  |none=>R (.ok .next) s₁
  |some v=>wpAny (model prog w) A (letOwnedTupleGo target it v) (λ_ s₁=>wpAny (model prog w) A (assign target env v) (λ_ s₂=>
   wpAny (model prog w) A (forIn ifs true λc r=>if r=true then do let ok <-PySem.isTrue c env (eval c env);pure (ForInStep.yield ok) else pure (ForInStep.yield r)) (λok s₃=>
    if ok=true then wpAny (model prog w) A act (λ_ s₅=> ∃m,m<n/\I m s₅) (λ_ _=>False) s₃
    else ∃m,m<n/\I m s₃) (λ_ _=>False) s₂) (λ_ _=>False) s₁) (λ_ _=>False) s₁) (λ_ _=>False) s)
 (n:Nat)(h:I n s):
 codeAny (model prog w) A (.compLoop (.ListComp elt gens scope pos) depth it acc env) R s:=by
 refine codeAny_loop rfl I (λn s hI=> ?_) n h;show wpAny _ A ((compTurn (.ListComp elt gens scope pos) depth it acc env).onRaise (λx=>do noteFrame x env;theTreesLotGoes x)) _ _ s;refine wpAny_noted ?_;rw [heq];unfold WT;refine wpAny_bind (Y6 (wpAny_bind (R0 (turn n s hI) (λr s₁ h₁=> ?_) λ_ _ h'=>h'.elim)));cases r with
 |none=>exact G3 h₁
 |some v=>
  refine wpAny_bind (R0 h₁ (λ_ s₁ h₁=> ?_) λ_ _ h'=>h'.elim);refine wpAny_bind (R0 h₁ (λ_ s₂ h₂=>wpAny_bind (R0 h₂ (λok s₃ h₃=> ?_) λ_ _ h'=>h'.elim)) λ_ _ h'=>h'.elim);cases ok with
  |false=>exact G3 ⟨rfl,h₃⟩
  |true=>exact wpAny_bind (R0 h₃ (λ_ s₅ h₅=>G3 ⟨rfl,h₅⟩) λ_ _ h'=>h'.elim)
abbrev TM:=St->Hp->List V->(List V->Hp->Prop)->Prop
def SV (X:Cx)(D:Addr)(act:Sem Unit)(t:TM):Prop:=
 ∀ (pins:List (Addr×Obj)) (s:Shared) (σ:St) (H:Hp) (ys:List V) (us:List Value) (Q:List V->Hp->Prop),Inv X ([(D,LCg.lst us)]++pins) σ H s->Vals ys us->ys.length<=sizeLine->D∈X.ex->(∀x c,X.env.cells.lookup x=some c->c≠D)->(∀p∈X.pn++pins,p.1≠D)->t σ H ys Q->
  wpAny (model X.prog X.w) X.A act (λ_ s'=> ∃ys' us' H',Vals ys' us'/\Inv X ([(D,LCg.lst us')]++pins) σ H' s'/\Q ys' H') (λ_ _=>False) s
def AH (te:TE):TM:=λσ H ys Q=>te σ H λy H1=>Q (ys++ [y]) H1
def WU (elt:Expr)(env:Env)(acc:Value):Sem Unit:=do let _ <-call (.builtin "list.append") [acc,<-eval elt env]
variable {te:TE}
theorem Yv {D:Addr}(hx:X.xe=λ_ _=>False)(he:PE X elt te):SV X D (WU elt X.env (.ref D)) (AH te):=by
 intro pins s σ H ys us Q I hv hz DX cD pD h;have q:=he _ s σ H _ I h;rw [hx] at q;unfold WU;refine wpAny_bind (R0 q (λy s1 ⟨yv,H1,I1,r1,q1⟩=> ?_) λ_ _ z=>z);have zD:=I1.pin (D,LCg.lst us) (D2 _ (B9 _ P9));refine wpAny_bind (append_at (its:=us.toArray) (n:=us.length) zD.1 (λh11 hs11 hD11=>G3 ?_) (by rw [D3,<-hv.length];exact hz));have I10u:Inv X pins σ H1 s1:=I1.pins_of λp hp=>I1.pin p (D2 _ (D2 _ hp))
 have I11:Inv X pins σ H1 {s1 with heap:=h11}:=I10u.turned (t':=s1.toks) (it:=D) (λb o hb e=>hs11.extBut b o hb e) zD.2.1 zD.2.2.1 (.inl DX) cD pD;have eD:h11.get? D=some (LCg.lst (us++ [y])):=by rw [hD11];exact congrArg some (LCg.lst_snoc us y)
 refine⟨ys++ [yv],us++ [y],H1,hv.append (.cons r1 .nil),I11.pins_of λp hp=> ?_,q1⟩;rcases D1.mp hp with z|z
 ·rcases G7.mp z with rfl
  exact⟨eD,zD.2.1,zD.2.2.1,zD.2.2.2.1,λv z=>by cases z⟩
 ·exact I11.pin p (D2 _ z)
def SW (js : List Nat) (wi : TI) (g : TG) (tt : TT) (tm : TM) : TE := fun σ H Q => wi σ H fun J H1 =>
  ∃ W : Nat → Nat → List V → Hp → Prop, (∃ m, W 0 m [] H1) ∧ ∀ i m ys H, W i m ys H → ys.length ≤ sizeLine ∧
    ((J.stop i H ∧ ∀ p, H p = none → Q (.ref p) (upd H p (.lst ys))) ∨
     (J.go i H ∧ ∀ x H', J.yld i H x H' → g x (zW js σ) H' fun σ2 H2 => Agree (zW js σ) σ2 ∧ tt σ2 H2 fun b H3 =>
        if b = true then tm σ2 H3 ys fun ys' H4 => ∃ m', m' < m ∧ W (i + 1) m' ys' H4 else ∃ m', m' < m ∧ W (i + 1) m' ys H3))
def tLC (js:List Nat)(wi:TI)(g:TG)(tt:TT)(te:TE):TE:=SW js wi g tt (AH te)
variable {tg:Expr}{wi:TI}{g:TG}{tt:TT}
theorem Cb {e:Expr}{rest:List Comprehension}{pos0:Pos}{tm:TM}{use:Option (Value->Sem Unit)}{Qv:Value->Shared->Prop}(hc:X.calm=true)(S:BlockOk X scope js)(hi:PI X tg iter wi)
 (he0:e= .ListComp elt (⟨tg,iter,ifs,0⟩::rest) scope pos)
 (hg: ∀X',jB X scope X'->PG X' tg g)(ht: ∀X',jB X scope X'->PTs X' ifs tt)
 (act:Env->Value->Sem Unit)(hturn: ∀it acc env,compTurn e 0 it acc env=WT iter tg ifs it env (act env acc) (.compLoop e 0 it acc env))(he: ∀X',jB X scope X'-> ∀D,SV X' D (act X'.env (.ref D)) tm)
 (hs: ∀x,foldedSetIterable iter X.env x=pure x){pins:List (Addr×Obj)}{s:Shared}{σ:St}{H:Hp}{Q:VK}(I:Inv X pins σ H s)(h:SW js wi g tt tm σ H Q)
 (fin: ∀ (D C:Addr) (H':Hp) (s':Shared) (m:Str->Option Value),s'.heap.Ns C m->(∀h',Heap.SameBut C s'.heap h'->Inv X pins σ H' {s' with heap:=h'})->H' C=none->C≠X.env.locals->C ∉ X.fs->X.s₀.heap.objs.size<=C->(∀x c,X.env.cells.lookup x=some c->c≠C)->(∀p∈X.pn++pins,p.1≠C)->
  Q (.ref D) H'->compPost (model X.prog X.w) X.A X.xe use Qv (.ref D) C (.ok .next) s'):
 wpAny (model X.prog X.w) X.A (comprehension e scope X.env pos0 (newList []) false (eval iter X.env) use) Qv X.xe s:=by
 have hclos:=Yt (scope:=scope) (env:=X.env) (λp hp e=>I.ok.has p.1 (S.free p hp e));subst he0;refine wpAny_comprehension_free (use:=use) rfl hs hclos S.kind S.locs (thn (hi pins s σ H _ I h) λv s1 h1=>thn h1 λitv s2 h2=> ?_);obtain⟨it,fp,tn,J,H2,e,I2,T,st2,f2,W,⟨m0,w0⟩,turn⟩:=h2;subst e;refine U0 (VI (λh₁ hns₁ hkp₁ hcl₁ hap₁=> ?_));dsimp only at hns₁ hkp₁ hcl₁ hap₁ ⊢;generalize hD:s2.heap.objs.size=D;generalize hH3:s2.heap.push {cls:= .type "list",dict:=none,data:= .seq ([]:List Value).toArray}=h3 at hns₁ hkp₁ hcl₁ hap₁ ⊢;have sz3:h3.objs.size=D+1:=by rw [<-hH3,G0j,hD]
 have up3: ∀b o,s2.heap.get? b=some o->h3.get? b=some o:=λb o e=>hH3 ▸ G1 _ e
 have I3:Inv X pins σ H2 {s2 with heap:=h3}:=I2.kept (t':=s2.toks) up3;have hD3:h3.get? D=some (LCg.lst []):=by rw [<-hH3,<-hD];exact D0 _ rfl
 have fD:PP X pins H2 D:=I2.fpOk (by rw [hD];exact G5 _) (I2.hok.fresh (by rw [hD];exact G5 _));have obf: ∀b∈fp,∃o,s2.heap.get? b=some o/\ ∀v,o.data≠ .cell v:=T.obj _ _ st2;have ltf: ∀b∈fp,b<D:=λb hb=>by obtain⟨o,e,_⟩:=obf b hb;rw [<-hD];exact P1 e
 generalize hC:h3.objs.size=C at hns₁ hcl₁ hap₁ ⊢;have CD:C=D+1:=hC.symm.trans sz3;have upC: ∀b o,h3.get? b=some o->h₁.get? b=some o:=hkp₁;generalize hX:Yu X scope C {s2 with heap:=h3} H2 (fp++ [D])=X';have iX:jB X scope X':=⟨C,_,_,_,hX.symm⟩;have hf: ∀b∈fp++ [D],PP X pins H2 b:=λb hb=>(D1.mp hb).elim (f2 b) λz=>by rw [G7.mp z];exact fD
 have cl: ∀x c,(jO X scope C).lookup x=some c->X.env.cells.lookup x=some c\/C<c:=λx c e=>by
  rcases wE S e with ⟨_,z⟩|⟨_,z⟩
  ·exact .inl z
  ·exact .inr (G0e (hcl₁ x c z).2)
 have olt: ∀x c,X.env.cells.lookup x=some c->c<C:=λx c e=>by obtain⟨v,q⟩:=I3.cell x c e;rw [<-hC];exact q.lt
 have ltb: ∀b∈fp++ [D],b<C:=λb hb=>(D1.mp hb).elim (λz=>by have:=ltf b z;rw [CD];exact G0f this) λz=>by rw [G7.mp z,CD];exact A7 _
 have okX:X'.Ok:=by
  subst hX;refine⟨I.ok.mod,S.kind,I.ok.glob,I.ok.blt,Q0 hC,λx y c e1 e2=> ?_,λx hx=> ?_,λx c z e=> ?_,I.ok.hd,I.ok.frames,.inl rfl,λb hb=>⟨R3 (ltb b hb),λx c e=>(cl x c e).elim (λz=>(hf b hb).2.2.2.2.1 x c z) λz=>J9 (Y1 (ltb b hb) z)⟩,
   I3.bs,P7 I.ok.bsz I3.sz,λb o e hb=> ?_,λb hb z=> ?_,I3.stack,I3.stkFree⟩
  ·rcases wE S e1 with ⟨_,z1⟩|⟨_,z1⟩<;>rcases wE S e2 with ⟨_,z2⟩|⟨_,z2⟩
   ·exact I.ok.inj x y c z1 z2
   ·exact absurd (Y1 (olt x c z1) (G0e (hcl₁ y c z2).2)) (S7 _)
   ·exact absurd (Y1 (olt y c z2) (G0e (hcl₁ x c z1).2)) (S7 _)
   ·exact name_of_addr hap₁ z1 z2
  ·have own:scope.names.lookup x=some .cell-> ∃c,(jO X scope C).lookup x=some c:=λz=>by
    obtain⟨c,hc⟩:=yE (sc:=scope) (n:=C+1) z;exact⟨c,by unfold jO;rw [jQ,Je,hc]⟩
   have shr:scope.names.lookup x=some .free-> ∃c,(jO X scope C).lookup x=some c:=λz=>by
    have fm:=wc z;obtain⟨c,hc⟩:=I.ok.has x (S.free _ fm rfl);exact⟨c,Jt S hc fm (by rw [z];decide)⟩
   rcases hx with hx|hx
   ·rcases jW (env:=X.env) hx with z|z
    ·exact own z
    ·exact shr z
   ·rcases jW (env:=X.env) hx with z|z<;>exact shr z
  ·have z':scope.names.lookup x=some .cell:=by
    have z2:(scope.names.lookup x==some NameKind.cell)=true:=z;simpa using z2
   rcases wE S e with ⟨n,_⟩|⟨_,m⟩
   ·exact absurd z' n
   ·show h3.objs.size<=c;rw [hC];exact D4 (G0e (hcl₁ x c m).2)
  ·rcases (hf b hb).2.2.2.1 with z|z
   ·exact I.ok.noex b o e z
   ·exact absurd (D7 (P1 e) (P7 I.ok.bsz z)) (S7 _)
  ·rcases P3.mp (I.stkSub b z) with q|q
   ·exact(hf b hb).2.1 q
   ·exact(hf b hb).2.2.1 q
 -- the block's first state
 have I4:Inv X' [(D,LCg.lst [])] (zW js σ) H2 {s2 with heap:=h₁}:=by
  subst hX;have hDC:D≠C:=by rw [CD];exact R3 (A7 _)
  refine⟨okX,rfl,I2.bare,Un.kept (λb u e=>upC b u e),⟨_,hns₁,λi x v e1 e2 e3=> ?_⟩,λx c e=> ?_,I3.hok.fresh (Q0 hC),λx c e=>(cl x c e).elim (λz=>I2.freeC x c z) (λz=>I3.hok.fresh (by rw [<-hC] at z;exact D4 z)),λp hp=> ?_,I3.hok.kept upC,(WS js σ).trans I2.len⟩
  ·have fr:scope.names.lookup x=some .free:=by
    rcases e3 with e3|e3|e3
    ·rcases jW (env:=X.env) e3 with z|z
     ·exact absurd e2 (zt js σ i v (S.js i x e1 (.inl z)))
     ·exact z
    ·rcases jW (env:=X.env) e3 with z|z
     ·exact absurd e2 (zt js σ i v (S.js i x e1 (.inr z)))
     ·exact z
    ·rcases jW (env:=X.env) e3 with z|z<;>exact z
   have fm:=wc fr;obtain⟨m,hm,hl⟩:=I2.loc;have vis:=S.free _ fm rfl;obtain⟨u,r,lk⟩:=hl i x v e1 (Zx js σ i v e2) (.inr vis);have kd:(relabel scope X.env).names.lookup x=some .cell\/(relabel scope X.env).names.lookup x=some .free:=by
    rcases e3 with e3|e3|e3
    ·rcases jW (env:=X.env) e3 with z|z
     ·rw [fr] at z;cases z
     ·exfalso;have z2:=e3
      -- a local's kind stays
      exact absurd e2 (zt js σ i v (S.js i x e1 (.inl (by
       have q: ∀ (l:List (Str×NameKind)),(l.map λ(n,k)=>if (k==NameKind.free&&X.env.scope.kind== .function&&X.env.kindOf n==some .cell) then (n,NameKind.cell) else (n,k)).lookup x=some .local->l.lookup x=some .local:=by
        intro l
        induction l with
        |nil=>intro h;simp at h
        |cons p l ih=>
         obtain⟨n,k'⟩:=p;intro h;have h':List.lookup x ((if (k'==NameKind.free&&X.env.scope.kind== .function&&X.env.kindOf n==some .cell)=true then (n,NameKind.cell) else (n,k'))::(l.map λ(n,k)=>if (k==NameKind.free&&X.env.scope.kind== .function&&X.env.kindOf n==some .cell) then (n,NameKind.cell) else (n,k)))=some .local:=h;rw [C3]
         by_cases hc:(k'==NameKind.free&&X.env.scope.kind== .function&&X.env.kindOf n==some .cell)=true
         ·rw [if_pos hc,C3] at h';cases hx:x==n with
          |true=>rw [hx] at h';cases h'
          |false=>rw [hx] at h';exact ih h'
         ·rw [if_neg hc,C3] at h';cases hx:x==n with
          |true=>rw [hx] at h';exact h'
          |false=>rw [hx] at h';exact ih h'
       exact q _ z2))))
    ·exact .inl e3
    ·exact .inr e3
   rcases lk with ⟨k,_⟩|⟨_,c,hc,hcell⟩
   ·have k':X.env.scope.names.lookup x=some .local:=k;rcases vis with z|z<;>(rw [k'] at z;cases z)
   ·refine⟨u,r,.inr ⟨kd,c,Jt S hc fm (by rw [fr];decide),?_⟩⟩;obtain⟨o,ho,hd⟩:=hcell;exact⟨o,upC _ _ (up3 _ _ ho),hd⟩
  ·rcases wE S e with ⟨_,z⟩|⟨_,z⟩
   ·obtain⟨v,o,ho,hd⟩:=I2.cell x c z;exact⟨v,o,upC _ _ (up3 _ _ ho),hd⟩
   ·exact⟨none,(hcl₁ x c z).1⟩
  ·have hp':p∈ [(D,LCg.lst [])]:=hp;rcases G7.mp hp' with rfl
   refine⟨upC _ _ hD3,fD.1,hDC,λz=> ?_,λv z=>by cases z⟩;rcases P3.mp (I.stkSub D z) with q|q
   ·exact fD.2.1 q
   ·exact fD.2.2.1 q
 have st4:tn 0 h₁:=T.keep _ _ _ st2 λb _ o e=>upC _ _ (up3 _ _ e)
 have eA:X'.A=X.A:=by rw [<-hX];rfl
 have eP:X'.prog=X.prog:=by rw [<-hX];rfl
 have eW:X'.w=X.w:=by rw [<-hX];rfl
 have eK:X'.K=X.K:=by rw [<-hX];rfl
 have eC:X'.calm=true:=by rw [<-hX];exact hc
 have eV:X'.env=compEnvC scope (jO X scope C) C X.env:=by rw [<-hX];rfl
 have eE:X'.xe=λ_ _=>False:=by rw [<-hX];rfl
 -- what stays true of the iterator's objects
 have stat: ∀ {us:List Value} {H':Hp},(∀b∈fp,H' b=none)-> ∀b∈fp,PP X' [(D,LCg.lst us)] H' b:=λ{us H'} hn b hb=>by
  have q:=hf b (B9 _ hb);subst hX;refine⟨hn b hb,R3 (ltb b (B9 _ hb)),λz=> ?_,.inl (B9 _ hb),λx c e=>(cl x c e).elim (λz=>q.2.2.2.2.1 x c z) (λz=>J9 (Y1 (ltb b (B9 _ hb)) z)),λp hp=> ?_⟩
  ·rcases P3.mp (I.stkSub b z) with r|r
   ·exact q.2.1 r
   ·exact q.2.2.1 r
  ·have hp':p∈ [(D,LCg.lst us)]:=hp;rcases G7.mp hp' with rfl
   exact J9 (ltf b hb)
 have loop: ∀s₃:Shared,s₃= {s2 with heap:=h₁}->
  codeAny (model X.prog X.w) X.A (.compLoop (.ListComp elt (⟨tg,iter,ifs,0⟩::rest) scope pos) 0 (.ref it) (.ref D) (compEnvC scope (jO X scope C) C X.env))
   (compPost (model X.prog X.w) X.A X.xe use Qv (.ref D) C) s₃:=by
  rintro s₃ rfl;refine Qt (act:=act (compEnvC scope (jO X scope C) C X.env) (.ref D)) (λn s'=> ∃i ys us H',Vals ys us/\Inv X' [(D,LCg.lst us)] (zW js σ) H' s'/\tn i s'.heap/\(∀b∈fp,H' b=none)/\W i n ys H') (hturn _ _ _) ?_ m0
   ⟨0,[],[],H2,.nil,I4,st4,λb hb=>(f2 b hb).1,w0⟩
  rintro n s5 ⟨i,ys,us,H5,hv5,I5,st5,fr5,w5⟩;obtain⟨hz,tr⟩:=turn i n ys H5 w5;rcases tr with ⟨stop,qn⟩|⟨go,step⟩
  ·have q:=T.done X' eP eW eK eC i _ s5 _ H5 (λ_ _=>False) I5 (stat fr5) st5 stop;rw [eA] at q;refine R0 q (λr s6 ⟨hr,I6⟩=> ?_) λ_ _ z=>z
   subst hr;obtain⟨m6,hm6,_⟩:=I6.loc;rw [eV] at hm6;have zD:=I6.pin (D,LCg.lst us) (D2 _ P9);have HD:H5 D=none:=zD.2.1;have oD:s6.heap.get? D=some (LCg.lst us):=zD.1;have hDC:D≠C:=by rw [CD];exact R3 (A7 _)
   have HC:H5 C=none:=by have z:=I6.free;rw [eV] at z;exact z
   have B:=I6.base;have os6:s6.os=s2.os:=by have z:=I6.os;rw [<-hX] at z;exact z
   have Bu:Un (frs X.stack) (fp++ [D]) H2 H5 h3 s6.heap:=by rw [<-hX] at B;exact B
   have neC: ∀b o,h3.get? b=some o->b≠C:=λb o e=>by rw [<-hC];exact R3 (P1 e)
   refine fin D C (upd H5 D (.lst ys)) s6 m6 hm6 (λh' hs'=> ?_) (by rw [jl (Ne.symm hDC)];exact HC) ?_ ?_ ?_ (λx c e=>R3 (olt x c e)) ?_ (qn D HD)
   ·have hk5:HOk X.prog X.w H5 h':=λb u e=>by
     have z:=I6.hok b u e;rw [eP,eW] at z;refine z.stay (λc v hc q=>hs'.extBut c v ?_ q) (λ_ q=>q) λ_ _ q=>q
     rcases hc with rfl|hc
     ·exact jq e HC
     ·exact jq hc HC
    refine I3.call' (ch:=fp++ [D]) os6 ⟨λb o e n hb hx=> ?_,λb o e n hb hx=> ?_,λb o e n hx=> ?_,λb o e hx=> ?_,λb xs e=> ?_,λb o u e=> ?_,λb ps e=> ?_⟩ (hk5.track HD ?_) I6.bare λb hb=> ?_
    ·exact hs'.extBut b o (neC b o e) (Bu.keep b o e n hb hx)
    ·obtain⟨sl,q⟩:=Bu.slot b o e n hb hx;exact⟨sl,hs'.extBut b _ (neC b o e) q⟩
    ·rw [jl λz=>hx (by rw [z];exact D2 _ P9)];exact Bu.free b o e n hx
    ·obtain⟨o',q⟩:=Bu.there b o e hx;exact⟨o',hs'.extBut b _ (neC b o e) q⟩
    ·have z:=Bu.tups b xs e;rw [jl (jq z HD)];exact z
    ·have z:=Bu.frzs b o u e;rw [jl (jq z HD)];exact z
    ·obtain⟨more,z⟩:=Bu.tbls b ps e;exact⟨more,by rw [jl (jq z HD)];exact z⟩
    ·exact⟨hz,us,us.length,hv5,hs'.extBut D _ hDC oD⟩
    ·have q:=hf b hb;exact⟨q.2.2.2.1,q.2.1,q.2.2.2.2.1,q.2.2.2.2.2⟩
   ·rw [<-hC];exact J9 I3.lt
   ·exact I3.nofs (Q0 hC)
   ·rw [<-hC];exact I3.sz
   ·intro p hp;have:=(I3.pin p hp).1;rw [<-hC];exact R3 (P1 this)
  ·have q:=T.item X' eP eW eK eC i _ s5 _ H5 (λ_ _=>False) I5 (stat fr5) st5 go;rw [eA] at q;refine R0 q (λr s6 ⟨u,hr,h6⟩=> ?_) λ_ _ z=>z
   subst hr;refine R0 h6 (λ_ s7 ⟨x,H7,I7,r7,y7,st7,fr7⟩=> ?_) λ_ _ z=>z
   have I7':=I7.pinned (stat fr7) (T.obj _ _ st7);have q7:=hg X' iX _ s7 _ H7 x u _ I7' r7 (step x H7 y7);rw [eP,eW,eA,eV,eE] at q7;refine R0 q7 (λ_ s8 ⟨σ8,H8,I8,ag8,q8⟩=> ?_) λ_ _ z=>z
   have q9:=ht X' iX _ s8 σ8 H8 _ I8 q8;rw [eP,eW,eA,eV,eE] at q9;refine R0 q9 (λok s9 ⟨H9,I9,q9⟩=> ?_) λ_ _ z=>z
   have keepT: ∀ {σ':St} {H':Hp} {s':Shared} {us:List Value},Inv X' ([(D,LCg.lst us)]++yR fp s7.heap) σ' H' s'->tn (i+1) s'.heap/\ ∀b∈fp,H' b=none:=λ{σ' H' s' us} I'=>
    ⟨T.keep _ _ _ st7 λb hb o e=>(I'.pin (b,o) (D2 _ (D2 _ (wb hb e)))).1,λb hb=>by
     obtain⟨o,e,_⟩:=T.obj _ _ st7 b hb;exact(I'.pin (b,o) (D2 _ (D2 _ (wb hb e)))).2.1⟩
   cases ok with
   |false=>
    have q9: ∃m',m'<n/\W (i+1) m' ys H9:=q9;obtain⟨m',hm,w9⟩:=q9;obtain⟨t9,f9⟩:=keepT I9;exact⟨m',hm,i+1,ys,us,H9,hv5,(I9.unpinned).weak ag8.1.symm ag8.2,t9,f9,w9⟩
   |true=>
    have q9:tm σ8 H9 ys λys' H4=> ∃m',m'<n/\W (i+1) m' ys' H4:=q9
    have DX:D∈X'.ex:=by rw [<-hX];exact D2 _ P9
    have pD: ∀p∈X'.pn++yR fp s7.heap,p.1≠D:=λp hp=>by
     have hp':p∈yR fp s7.heap:=by rw [<-hX] at hp;simpa [Yu] using hp
     exact R3 (ltf _ (Zj hp').1)
    have cD: ∀x c,X'.env.cells.lookup x=some c->c≠D:=λx c e=>by
     rw [eV] at e;exact(cl x c e).elim (λz=>fD.2.2.2.2.1 x c z) λz=>J9 (Y1 (by rw [CD];exact A7 _) z)
    have q10:=he X' iX D _ s9 σ8 H9 ys us _ I9 hv5 hz DX cD pD q9;rw [eP,eW,eA,eV] at q10;show wpAny _ _ (act _ _) _ _ s9;refine R0 q10 (λ_ s10 ⟨ys',us',H10,hv10,I10,m',hm,w10⟩=> ?_) λ_ _ z=>z
    obtain⟨t10,f10⟩:=keepT I10;exact⟨m',hm,i+1,ys',us',H10,hv10,(I10.unpinned).weak ag8.1.symm ag8.2,t10,f10,w10⟩
 exact codeAny_compStart_list (loop _ rfl) (T.self X.A 0 _ _ _ st4 (loop _ rfl))
theorem AI (hc:X.calm=true)(S:BlockOk X scope js)(hi:PI X tg iter wi)
 (hg: ∀X',jB X scope X'->PG X' tg g)(ht: ∀X',jB X scope X'->PTs X' ifs tt)(he: ∀X',jB X scope X'->PE X' elt te)
 (hs: ∀x,foldedSetIterable iter X.env x=pure x:=by intro _;rfl):PE X (.ListComp elt [⟨tg,iter,ifs,0⟩] scope pos) (tLC js wi g tt te):=by
 intro pins s σ H Q I h;rw [eval_ListComp];exact Cb (use:=none) hc S hi rfl hg ht (WU elt) (λ_ _ _=>rfl) (λX' hX D=>Yv (by obtain⟨_,_,_,_,rfl⟩:=hX;rfl) (he X' hX)) hs I h
  λD C H' s' m hn hk _ _ _ _ _ _ q=>⟨m,hn,λh' hs'=>⟨.ref D,H',hk h' hs',rfl,q⟩⟩
theorem Dz {e:Expr}{rest:List Comprehension}{pos' spos:Pos}{g':TG}{tm:TM}(hc:X.calm=true)(S:BlockOk X scope js)(hi:PI X tg iter wi)
 (he0:e= .ListComp elt (⟨tg,iter,ifs,0⟩::rest) scope pos)(hg: ∀X',jB X scope X'->PG X' tg g)(ht: ∀X',jB X scope X'->PTs X' ifs tt)
 (act:Env->Value->Sem Unit)(hturn: ∀it acc env,compTurn e 0 it acc env=WT iter tg ifs it env (act env acc) (.compLoop e 0 it acc env))(he: ∀X',jB X scope X'-> ∀D,SV X' D (act X'.env (.ref D)) tm)
 (hg':PG X (.Name x pos') g')(hsw:swapsWith e (some (.Name x pos')) spos.line X.env=pure true)
 (hs: ∀x,foldedSetIterable iter X.env x=pure x):PS X (.Assign [.Name x pos'] e spos) (BX (SW js wi g tt tm) g'):=by
 intro pins s σ H Dn I h;rw [exec_Assign_Name_used _ _ _ _ hsw];refine wpAny_bind (Y6 (wpAny_bind ?_));subst he0;rw [arm_evalThenUse_ListComp];show wpAny _ X.A (do let _ <-comprehension (.ListComp elt (⟨tg,iter,ifs,0⟩::rest) scope pos) scope X.env _ (newList []) false (eval iter X.env) (some (assign (.Name x pos') X.env))) _ _ s;refine wpAny_bind (R0 (Cb (use:=some (assign (.Name x pos') X.env)) (Qv:=λ_ s'=>SP X pins Dn .next s') hc S hi rfl hg ht act hturn he hs I h ?_) (λ_ s' hq=>G3 (G3 hq)) λ_ _ e=>e);intro D C H' s' m hn hk HC nL nf sz ncell npin q;show wpAny _ X.A (assign (.Name x pos') X.env (.ref D)) _ _ s';obtain⟨o,es,ep,ho,hd,hr⟩:=id hn;have I1:Inv X pins σ H' s':=hk s'.heap (U5 ..);have I2:Inv X (pins++ [(C,o)]) σ H' s':=I1.pins_of λp hp=>by
  rcases D1.mp hp with z|z
  ·exact I1.pin p (D2 _ z)
  ·rcases G7.mp z with rfl
   exact⟨ho,HC,nL,nf,λv z=>by rw [hd] at z;cases z⟩
 refine R0 (hg' _ s' σ H' (.ref D) (.ref D) _ I2 rfl q) (λ_ s3 ⟨σ3,H3,I3,q3⟩=> ?_) λ_ _ z=>z
 have pC:=I3.pin (C,o) (D2 _ (D2 _ P9));refine⟨m,hn.at' λo' e'=> ?_,λh' hs'=> ?_⟩
 ·rw [ho] at e';cases e';exact pC.1
 ·exact⟨σ3,H3,(I3.unpinned).turned (t':=s3.toks) (it:=C) (λb o hb e=>hs'.extBut b o hb e) pC.2.1 nL (.inr sz) ncell npin,q3⟩
theorem Nr {pos' spos:Pos}{g':TG}(hc:X.calm=true)(S:BlockOk X scope js)(hi:PI X tg iter wi)
 (hg: ∀X',jB X scope X'->PG X' tg g)(ht: ∀X',jB X scope X'->PTs X' ifs tt)(he: ∀X',jB X scope X'->PE X' elt te)
 (hg':PG X (.Name x pos') g')(hsw:swapsWith (.ListComp elt [⟨tg,iter,ifs,0⟩] scope pos) (some (.Name x pos')) spos.line X.env=pure true)
 (hs: ∀x,foldedSetIterable iter X.env x=pure x:=by intro _;rfl):PS X (.Assign [.Name x pos'] (.ListComp elt [⟨tg,iter,ifs,0⟩] scope pos) spos) (BX (tLC js wi g tt te) g'):=
 Dz hc S hi rfl hg ht (WU elt) (λ_ _ _=>rfl) (λX' hX D=>Yv (by obtain⟨_,_,_,_,rfl⟩:=hX;rfl) (he X' hX)) hg' hsw hs
def DA (e iter:Expr)(env:Env)(acc:Value):Sem Unit:=do
 let x <-eval iter env
 standAt iter.pos
 let x <-foldedSetIterable iter env x
 let _ <-runOwn (.compStart e 1 (<-holding [x] (pyIter x)) acc env) env
def mIn (wi : TI) (g : TG) (tt : TT) (tm : TM) : TM := fun σ H ys Q => wi σ H fun J H1 =>
  ∃ W : Nat → Nat → List V → Hp → Prop, (∃ m, W 0 m ys H1) ∧ ∀ i m ys H, W i m ys H → ys.length ≤ sizeLine ∧
    ((J.stop i H ∧ Q ys H) ∨
     (J.go i H ∧ ∀ x H', J.yld i H x H' → g x σ H' fun σ2 H2 => Agree σ σ2 ∧ tt σ2 H2 fun b H3 =>
        if b = true then tm σ2 H3 ys fun ys' H4 => ∃ m', m' < m ∧ W (i + 1) m' ys' H4 else ∃ m', m' < m ∧ W (i + 1) m' ys H3))
theorem vB {prog:Program}{w:World}{A:Around}{R:Result->Shared->Prop}{s:Shared}{g0 g1:Comprehension}{it acc:Value}(ha:g1.is_async=0)
 (h0:codeAny (model prog w) A (.compLoop (.ListComp elt [g0,g1] scope pos) 1 it acc env) R s)
 (h:wpAny (model prog w) A (pyIter it) (λit' s'=>codeAny (model prog w) A (.compLoop (.ListComp elt [g0,g1] scope pos) 1 it' acc env) R s')
  (notedBy (model prog w) A env λx s'=>R (.error x) s') s):
 codeAny (model prog w) A (.compStart (.ListComp elt [g0,g1] scope pos) 1 it acc env) R s:=by
 obtain⟨tg,iter,ifs,as⟩:=g1;cases (show as=0 from ha);refine G1n (wpAny_notedAt ?_);obtain⟨hp,g,d,tk,os⟩:=s;unfold compStart
 wp_walk
 refine V3 ?_;split
 ·exact G3 ⟨rfl,h0⟩
 ·exact wpAny_bind (G0y (wpAny_bind (Y6 (wpAny_bind (R0 h (λ_ _ on=>G3 ⟨rfl,on⟩) λ_ _ x=>x)))))
theorem Fs {D:Addr}{g0:Comprehension}(hc:X.calm=true)(hx:X.xe=λ_ _=>False)
 (hi:PI X tg iter wi)(hg:PG X tg g)(ht:PTs X ifs tt)(he:PE X elt te)(hs: ∀x,foldedSetIterable iter X.env x=pure x):
 SV X D (DA (.ListComp elt [g0,⟨tg,iter,ifs,0⟩] scope pos) iter X.env (.ref D)) (mIn wi g tt (AH te)):=by
 intro pins s σ H ys us Q I hv hz DX cD pD h;have q:=hi _ s σ H _ I h;rw [hx] at q;unfold DA;refine wpAny_bind (R0 q (λv s1 h1=>wpAny_bind (Y6 (wpAny_bind (wpAny_of_eq (hs v) (wpAny_bind (N4 (R0 h1 (λitv s2 h2=> ?_) λ_ _ z=>z))))))) λ_ _ z=>z);obtain⟨it,fp,tn,J,H2,e,I2,T,st2,f2,W,⟨m0,w0⟩,turn⟩:=h2;subst e;refine wpAny_bind (wpAny_runOwn ?_);have neD: ∀b∈fp,b≠D:=λb hb=>by
  have z:=(f2 b hb).2.2.2.2.2 (D,LCg.lst us) (D2 _ (B9 _ P9));exact Ne.symm z
 have stat: ∀ {us':List Value} {H':Hp},(∀b∈fp,H' b=none)-> ∀b∈fp,PP X ([(D,LCg.lst us')]++pins) H' b:=λ{us' H'} hn b hb=>by
  have q:=f2 b hb;refine⟨hn b hb,q.2.1,q.2.2.1,q.2.2.2.1,q.2.2.2.2.1,λp hp=> ?_⟩;rcases D1.mp hp with z|z
  ·exact q.2.2.2.2.2 p (B9 _ z)
  ·rcases D1.mp z with z|z
   ·rcases G7.mp z with rfl
    exact Ne.symm (neD b hb)
   ·exact q.2.2.2.2.2 p (D2 _ (D2 _ z))
 have loop:codeAny (model X.prog X.w) X.A (.compLoop (.ListComp elt [g0,⟨tg,iter,ifs,0⟩] scope pos) 1 (.ref it) (.ref D) X.env)
  (λr s'=>match r with| .ok f=>wpAny (model X.prog X.w) X.A (pure ()) (λ_ s'=> ∃ys' us' H',Vals ys' us'/\Inv X ([(D,LCg.lst us')]++pins) σ H' s'/\Q ys' H') (λ_ _=>False) s'| .error e=>cameBackBy (model X.prog X.w) X.A X.env (λ_ _=>False) e s') s2:=by
  refine Qt (act:=WU elt X.env (.ref D)) (λn s'=> ∃i ys us H',Vals ys us/\Inv X ([(D,LCg.lst us)]++pins) σ H' s'/\tn i s'.heap/\(∀b∈fp,H' b=none)/\W i n ys H') rfl ?_ m0
   ⟨0,ys,us,H2,hv,I2,st2,λb hb=>(f2 b hb).1,w0⟩
  rintro n s5 ⟨i,ys,us,H5,hv5,I5,st5,fr5,w5⟩;obtain⟨hz,tr⟩:=turn i n ys H5 w5;rcases tr with ⟨stop,qn⟩|⟨go,step⟩
  ·refine R0 (T.done X rfl rfl rfl hc i _ s5 _ H5 (λ_ _=>False) I5 (stat fr5) st5 stop) (λr s6 ⟨hr,I6⟩=> ?_) λ_ _ z=>z
   subst hr;exact G3 ⟨ys,us,H5,hv5,I6,qn⟩
  ·refine R0 (T.item X rfl rfl rfl hc i _ s5 _ H5 (λ_ _=>False) I5 (stat fr5) st5 go) (λr s6 ⟨u,hr,h6⟩=> ?_) λ_ _ z=>z
   subst hr;refine R0 h6 (λ_ s7 ⟨x,H7,I7,r7,y7,st7,fr7⟩=> ?_) λ_ _ z=>z
   have I7':=I7.pinned (stat fr7) (T.obj _ _ st7);have q7:=hg _ s7 _ H7 x u _ I7' r7 (step x H7 y7);rw [hx] at q7;refine R0 q7 (λ_ s8 ⟨σ8,H8,I8,ag8,q8⟩=> ?_) λ_ _ z=>z
   have q9:=ht _ s8 σ8 H8 _ I8 q8;rw [hx] at q9;refine R0 q9 (λok s9 ⟨H9,I9,q9⟩=> ?_) λ_ _ z=>z
   have keepT: ∀ {σ':St} {H':Hp} {s':Shared} {us:List Value},Inv X (([(D,LCg.lst us)]++pins)++yR fp s7.heap) σ' H' s'->tn (i+1) s'.heap/\ ∀b∈fp,H' b=none:=λ{σ' H' s' us} I'=>
    ⟨T.keep _ _ _ st7 λb hb o e=>(I'.pin (b,o) (D2 _ (D2 _ (wb hb e)))).1,λb hb=>by
     obtain⟨o,e,_⟩:=T.obj _ _ st7 b hb;exact(I'.pin (b,o) (D2 _ (D2 _ (wb hb e)))).2.1⟩
   cases ok with
   |false=>
    have q9: ∃m',m'<n/\W (i+1) m' ys H9:=q9;obtain⟨m',hm,w9⟩:=q9;obtain⟨t9,f9⟩:=keepT I9;exact⟨m',hm,i+1,ys,us,H9,hv5,(I9.unpinned).weak ag8.1.symm ag8.2,t9,f9,w9⟩
   |true=>
    have q9:AH te σ8 H9 ys λys' H4=> ∃m',m'<n/\W (i+1) m' ys' H4:=q9
    have pD': ∀p∈X.pn++(pins++yR fp s7.heap),p.1≠D:=λp hp=>by
     rcases D1.mp hp with z|z
     ·exact pD p (B9 _ z)
     ·rcases D1.mp z with z|z
      ·exact pD p (D2 _ z)
      ·exact neD _ (Zj z).1
    rw [G8] at I9;have q10:=Yv (D:=D) hx he (pins++yR fp s7.heap) s9 σ8 H9 ys us _ I9 hv5 hz DX cD pD' q9;show wpAny _ _ (WU _ _ _) _ _ s9;refine R0 q10 (λ_ s10 ⟨ys',us',H10,hv10,I10,m',hm,w10⟩=> ?_) λ_ _ z=>z
    rw [<-G8] at I10;obtain⟨t10,f10⟩:=keepT I10;exact⟨m',hm,i+1,ys',us',H10,hv10,(I10.unpinned).weak ag8.1.symm ag8.2,t10,f10,w10⟩
 exact vB rfl loop (T.self X.A 0 _ _ _ st2 loop)
theorem Ft (elt iter tg iter' tg':Expr)(ifs ifs':List Expr)(scope:Scope)(pos:Pos)(it acc:Value)(env:Env):
 compTurn (.ListComp elt [⟨tg,iter,ifs,0⟩,⟨tg',iter',ifs',0⟩] scope pos) 0 it acc env=
  WT iter tg ifs it env (DA (.ListComp elt [⟨tg,iter,ifs,0⟩,⟨tg',iter',ifs',0⟩] scope pos) iter' env acc) (.compLoop (.ListComp elt [⟨tg,iter,ifs,0⟩,⟨tg',iter',ifs',0⟩] scope pos) 0 it acc env):=by
 unfold WT DA;simp only [bind_assoc,pure_bind];rfl
def Kg (js:List Nat)(wi:TI)(g:TG)(tt:TT)(wi':TI)(g':TG)(tt':TT)(te:TE):TE:=SW js wi g tt (mIn wi' g' tt' (AH te))
inductive D where
 |non|bl (b:Bool)|int (i:Int)|str (x:Str)|tup (ds:List D)|lst (a:Addr)|dic (x:Str) (i:Int)|dni (x:Int) (i:Int)|scr (ns:List Int)|exc (C:Addr)|fn (a:Addr)
def Scr (K:PySem.W.Frag)(H:Hp)(a:Addr)(ns:List Int):Prop:=
 (∃o,H a=some (.frz o (.lst (ns.map V.int))))\/
  ∃ (o:Obj) (its:Array Value) (n:Nat),K.lookup a=some o/\o.cls= .type "list" /\o.dict=none/\o.data= .seq its n/\its.size<=sizeLine/\Vals (ns.map V.int) its.toList
theorem Scr.sq {K:PySem.W.Frag}{H:Hp}{a:Addr}{ns:List Int}(h:Scr K H a ns):SqL K H a (ns.map V.int):=h.elim (λz=> .inl (.inr z)) .inr
mutual
def RelD (K:PySem.W.Frag)(H:Hp):D->V->Prop
 | .non,v=>v= .non
 | .bl b,v=>v= .bl b
 | .int i,v=>v= .int i
 | .str x,v=>v= .str x
 | .tup ds,v=> ∃a vs,v= .ref a/\H a=some (.tup vs)/\RelDs K H ds vs
 | .lst a,v=>v= .ref a/\ ∃vs,H a=some (.lst vs)
 | .dic x i,v=> ∃a,v= .ref a/\H a=some (.dK [(Sum.inr x,V.int i)])
 | .dni x i,v=> ∃a,v= .ref a/\H a=some (.dK [(Sum.inl x,V.int i)])
 | .scr ns,v=> ∃a,v= .ref a/\Scr K H a ns
 | .exc C,v=> ∃x o vs,v= .ref x/\H x=some (.frz o (.own 0))/\o.cls= .ref C/\o.data= .fields vs
 | .fn a,v=>v= .ref a/\PySem.W.keepIn K (.ref a)=true
def RelDs (K:PySem.W.Frag)(H:Hp):List D->List V->Prop
 | [],vs=>vs= []
 |d::ds,vs=> ∃v r,vs=v::r/\RelD K H d v/\RelDs K H ds r
end
structure Kept (H H':Hp):Prop where
 tup: ∀a xs,H a=some (.tup xs)->H' a=some (.tup xs)
 lst: ∀a xs,H a=some (.lst xs)-> ∃ys,H' a=some (.lst ys)
 dic: ∀a k,H a=some (.dK k)->H' a=some (.dK k)
 frz: ∀a o u,H a=some (.frz o u)->H' a=some (.frz o u)
theorem Kept.refl (H:Hp):Kept H H:=⟨λ_ _ h=>h,λ_ xs h=>⟨xs,h⟩,λ_ _ h=>h,λ_ _ _ h=>h⟩
theorem Kept.trans {A B C:Hp}(x:Kept A B)(y:Kept B C):Kept A C:=
 ⟨λa xs h=>y.tup a xs (x.tup a xs h),λa xs h=>let ⟨_,e⟩:=x.lst a xs h;y.lst a _ e,λa k h=>y.dic a k (x.dic a k h),λa o u h=>y.frz a o u (x.frz a o u h)⟩
theorem Kept.new {H:Hp}{p:Addr}{o:HO}(h:H p=none):Kept H (upd H p o):=
 ⟨λa xs e=>by rw [jl (jq e h)];exact e,λa xs e=>⟨xs,by rw [jl (jq e h)];exact e⟩,λa k e=>by rw [jl (jq e h)];exact e,λa o u e=>by rw [jl (jq e h)];exact e⟩
theorem Kept.put {H:Hp}{p:Addr}{xs ys:List V}(h:H p=some (.lst xs)):Kept H (upd H p (.lst ys)):=
 ⟨λa zs e=>by rw [jl (Da e h (by intro z;cases z))];exact e,λa zs e=>by
  by_cases q:a=p
  ·subst q;exact⟨ys,jp⟩
  ·exact⟨zs,by rw [jl q];exact e⟩,
  λa k e=>by rw [jl (Da e h (by intro z;cases z))];exact e,λa o u e=>by rw [jl (Da e h (by intro z;cases z))];exact e⟩
mutual
theorem RelD.mono {K:PySem.W.Frag}{H H':Hp}(k:Kept H H'): ∀ {d:D} {v:V},RelD K H d v->RelD K H' d v
 | .non,_,h=>h
 | .bl _,_,h=>h
 | .int _,_,h=>h
 | .str _,_,h=>h
 | .tup ds,v,h=>by
  obtain⟨a,vs,e,h1,h2⟩:=(show ∃a vs,v= .ref a/\H a=some (.tup vs)/\RelDs K H ds vs from h);exact⟨a,vs,e,k.tup _ _ h1,RelDs.mono k h2⟩
 | .lst a,v,h=>by
  obtain⟨e,vs,h1⟩:=(show v= .ref a/\ ∃vs,H a=some (.lst vs) from h);exact⟨e,k.lst _ _ h1⟩
 | .dic x i,v,h=>by
  obtain⟨a,e,h1⟩:=(show ∃a,v= .ref a/\H a=some (.dK [(Sum.inr x,V.int i)]) from h);exact⟨a,e,k.dic _ _ h1⟩
 | .dni x i,v,h=>by
  obtain⟨a,e,h1⟩:=(show ∃a,v= .ref a/\H a=some (.dK [(Sum.inl x,V.int i)]) from h);exact⟨a,e,k.dic _ _ h1⟩
 | .scr ns,v,h=>by
  obtain⟨a,e,h1⟩:=(show ∃a,v= .ref a/\Scr K H a ns from h);exact⟨a,e,h1.elim (λ⟨o,z⟩=> .inl ⟨o,k.frz _ _ _ z⟩) .inr⟩
 | .exc C,v,h=>by
  obtain⟨x,o,vs,e,h1,r⟩:=(show ∃x o vs,v= .ref x/\H x=some (.frz o (.own 0))/\o.cls= .ref C/\o.data= .fields vs from h);exact⟨x,o,vs,e,k.frz _ _ _ h1,r⟩
 | .fn a,v,h=>h
theorem RelDs.mono {K:PySem.W.Frag}{H H':Hp}(k:Kept H H'): ∀ {ds:List D} {vs:List V},RelDs K H ds vs->RelDs K H' ds vs
 | [],_,h=>h
 |d::ds,vs,h=>by
  obtain⟨v,r,e,h1,h2⟩:=(show ∃v r,vs=v::r/\RelD K H d v/\RelDs K H ds r from h);exact⟨v,r,e,RelD.mono k h1,RelDs.mono k h2⟩
end
section
variable {K:PySem.W.Frag}{H:Hp}
theorem RelDs.nil:RelDs K H [] []:=rfl
theorem RelDs.cons {d:D}{v:V}{ds:List D}{vs:List V}(h:RelD K H d v)(t:RelDs K H ds vs):RelDs K H (d::ds) (v::vs):=⟨v,vs,rfl,h,t⟩
theorem RelDs.length: ∀ {ds:List D} {vs:List V},RelDs K H ds vs->ds.length=vs.length
 | [],_,h=>by cases (show _= [] from h);rfl
 |d::ds,vs,h=>by
  obtain⟨v,r,e,_,h2⟩:=(show ∃v r,vs=v::r/\RelD K H d v/\RelDs K H ds r from h);subst e;simp [RelDs.length h2]
theorem RelDs.append: ∀ {ds es:List D} {vs us:List V},RelDs K H ds vs->RelDs K H es us->RelDs K H (ds++es) (vs++us)
 | [],_,_,_,h,g=>by cases (show _= [] from h);exact g
 |d::ds,es,vs,us,h,g=>by
  obtain⟨v,r,e,h1,h2⟩:=(show ∃v r,vs=v::r/\RelD K H d v/\RelDs K H ds r from h);subst e;exact .cons h1 (RelDs.append h2 g)
theorem RelDs.get: ∀ {ds:List D} {vs:List V} {i:Nat} {d:D},RelDs K H ds vs->ds[i]? =some d-> ∃v,vs[i]? =some v/\RelD K H d v
 |d'::ds,vs,i,d,h,e=>by
  obtain⟨v,r,q,h1,h2⟩:=(show ∃v r,vs=v::r/\RelD K H d' v/\RelDs K H ds r from h);subst q;cases i with
  |zero=>simp at e;subst e;exact⟨v,rfl,h1⟩
  |succ i=>
   obtain⟨u,q1,q2⟩:=RelDs.get h2 (i:=i) (d:=d) (by simpa using e);exact⟨u,by simpa using q1,q2⟩
theorem RelDs.take (n:Nat): ∀ {ds:List D} {vs:List V},RelDs K H ds vs->RelDs K H (ds.take n) (vs.take n):=by
 induction n with
 |zero=>intro ds vs _;exact(rfl:RelDs K H [] [])
 |succ n ih=>
  intro ds vs h;cases ds with
  |nil=>cases (show vs= [] from h);exact .nil
  |cons d ds=>
   obtain⟨v,r,e,h1,h2⟩:=(show ∃v r,vs=v::r/\RelD K H d v/\RelDs K H ds r from h);subst e;exact .cons h1 (ih h2)
theorem RelDs.drop (n:Nat): ∀ {ds:List D} {vs:List V},RelDs K H ds vs->RelDs K H (ds.drop n) (vs.drop n):=by
 induction n with
 |zero=>intro ds vs h;exact h
 |succ n ih=>
  intro ds vs h;cases ds with
  |nil=>cases (show vs= [] from h);exact .nil
  |cons d ds=>
   obtain⟨v,r,e,h1,h2⟩:=(show ∃v r,vs=v::r/\RelD K H d v/\RelDs K H ds r from h);subst e;exact ih h2
theorem RelDs.set {d:D}{v:V}(q:RelD K H d v): ∀ {ds:List D} {vs:List V} (i:Nat),RelDs K H ds vs->RelDs K H (ds.set i d) (vs.set i v)
 | [],_,_,h=>by cases (show _= [] from h);exact .nil
 |e::ds,vs,i,h=>by
  obtain⟨u,r,z,h1,h2⟩:=(show ∃u r,vs=u::r/\RelD K H e u/\RelDs K H ds r from h);subst z;cases i with
  |zero=>exact .cons q h2
  |succ i=>exact .cons h1 (RelDs.set q i h2)
theorem wF: ∀ns:List Int,RelDs K H (ns.map D.int) (ns.map V.int)
 | []=> .nil
 |n::ns=> .cons rfl (wF ns)
end
abbrev HD:=Addr->Option (List D)
def zB (h:HD)(a:Addr)(ds:List D):HD:=λb=>if b=a then some ds else h b
def Wt (h:HD)(a:Addr):HD:=λb=>if b=a then none else h b
theorem jc {h:HD}{a:Addr}{ds:List D}:zB h a ds a=some ds:=if_pos rfl
theorem wf {h:HD}{a b:Addr}{ds:List D}(e:b≠a):zB h a ds b=h b:=if_neg e
theorem yl {h:HD}{a:Addr}{ds:List D}(e:h a=none):Wt (zB h a ds) a=h:=by
 funext b;unfold Wt zB;by_cases q:b=a
 ·subst q;simp [e]
 ·simp [q]
def LN:List Str:= ["law","_law_right","_law_words","_law_other_words","_law_many_right","_law_all","_law_told_row","_law_all_right","_law_desk_right","_law_signs_right","_law_lists_right","_law_text_right"]
def TabK (K:PySem.W.Frag)(P:Addr):Prop:= ∃x∈LN,∃c,PySem.W.tabIn K x=some (c,P)
def CodesOk (H:Hp)(ps:Array Value):Prop:=TriplesOk ps.toList/\ ∀pos cv,codeAmong pos ps.toList=some cv-> ∃ (c:Addr) (o:Obj) (vs:Array Value) (q:Str) (t:Tok),cv= .ref c/\H c=some (.frz o (.own 0))/\o.data= .fields vs/\vs[1]? =some (.str q t)
def CTabs (K:PySem.W.Frag)(H:Hp):Prop:= ∀P,TabK K P-> ∃ps,H P=some (.tbl ps)/\CodesOk H ps
theorem CodesOk.mono {H H':Hp}{ps:Array Value}(k: ∀a o u,H a=some (.frz o u)->H' a=some (.frz o u))(c:CodesOk H ps):CodesOk H' ps:=
 ⟨c.1,λpos cv e=>let ⟨c',o,vs,q,t,e1,e2,r⟩:=c.2 pos cv e;⟨c',o,vs,q,t,e1,k _ _ _ e2,r⟩⟩
theorem CTabs.mono {K:PySem.W.Frag}{H H':Hp}(x:CTabs K H)(k: ∀a o u,H a=some (.frz o u)->H' a=some (.frz o u))(kt: ∀a ps,H a=some (.tbl ps)->H' a=some (.tbl ps)):CTabs K H':=λP hP=>
 let ⟨ps,e,c⟩:=x P hP;⟨ps,kt _ _ e,c.mono k⟩
theorem CTabs.new {K:PySem.W.Frag}{H:Hp}{p:Addr}{o:HO}(x:CTabs K H)(e:H p=none):CTabs K (upd H p o):=
 x.mono (λa o' u h=>by rw [jl (jq h e)];exact h) λa ps h=>by rw [jl (jq h e)];exact h
theorem CTabs.put {K:PySem.W.Frag}{H:Hp}{p:Addr}{o:HO}{xs:List V}(x:CTabs K H)(e:H p=some (.lst xs)):CTabs K (upd H p o):=
 x.mono (λa o' u h=>by rw [jl (Da h e (by intro z;cases z))];exact h) λa ps h=>by rw [jl (Da h e (by intro z;cases z))];exact h
structure RelH (K:PySem.W.Frag)(h:HD)(H:Hp):Prop where
 ls: ∀a ds,h a=some ds-> ∃vs,H a=some (.lst vs)/\RelDs K H ds vs
 tb:CTabs K H
instance {K:PySem.W.Frag}{h:HD}{H:Hp}:CoeFun (RelH K h H) λ_=> ∀a ds,h a=some ds-> ∃vs,H a=some (.lst vs)/\RelDs K H ds vs:=⟨RelH.ls⟩
def Sub (h h':HD):Prop:= ∀a ds,h a=some ds->h' a=some ds
theorem Sub.refl (h:HD):Sub h h:=λ_ _ e=>e
theorem Sub.trans {a b c:HD}(x:Sub a b)(y:Sub b c):Sub a c:=λd ds e=>y d ds (x d ds e)
theorem Sub.drop (h:HD)(a:Addr):Sub (Wt h a) h:=λb ds e=>by
 unfold Wt at e;split at e
 ·cases e
 ·exact e
theorem Sub.new {h:HD}{p:Addr}{ds:List D}(e:h p=none):Sub h (zB h p ds):=λa es q=>by
 rw [wf];exact q;intro z;subst z;rw [e] at q;cases q
section
variable {K:PySem.W.Frag}{h h':HD}{H:Hp}
theorem RelH.sub (r:RelH K h H)(s:Sub h' h):RelH K h' H:=⟨λa ds e=>r a ds (s a ds e),r.tb⟩
theorem RelH.free (r:RelH K h H){p:Addr}(e:H p=none):h p=none:=by
 cases q:h p with
 |none=>rfl
 |some ds=>obtain⟨vs,z,_⟩:=r p ds q;rw [e] at z;cases z
theorem RelH.new (r:RelH K h H){p:Addr}{o:HO}(e:H p=none):RelH K h (upd H p o):=⟨λa ds q=>by
 obtain⟨vs,z,w⟩:=r a ds q;exact⟨vs,by rw [jl (jq z e)];exact z,w.mono (.new e)⟩,r.tb.new e⟩
theorem RelH.newL (r:RelH K h H){p:Addr}{ds:List D}{vs:List V}(e:H p=none)(q:RelDs K H ds vs):RelH K (zB h p ds) (upd H p (.lst vs)):=⟨λa es z=>by
 by_cases w:a=p
 ·subst w;rw [jc] at z;cases z;exact⟨vs,jp,q.mono (.new e)⟩
 ·rw [wf w] at z;obtain⟨us,z1,z2⟩:=r a es z;exact⟨us,by rw [jl w];exact z1,z2.mono (.new e)⟩,r.tb.new e⟩
theorem RelH.put (r:RelH K h H){p:Addr}{ds:List D}{vs us:List V}(e:H p=some (.lst us))(q:RelDs K H ds vs):RelH K (zB h p ds) (upd H p (.lst vs)):=⟨λa es z=>by
 by_cases w:a=p
 ·subst w;rw [jc] at z;cases z;exact⟨vs,jp,q.mono (.put e)⟩
 ·rw [wf w] at z;obtain⟨us,z1,z2⟩:=r a es z;exact⟨us,by rw [jl w];exact z1,z2.mono (.put e)⟩,r.tb.put e⟩
end
abbrev SD:=List (Option D)
def RelS (K:PySem.W.Frag)(H:Hp)(σd:SD)(σ:St):Prop:=σd.length=σ.length/\ ∀ (i:Nat) (d:D),σd[i]? =some (some d)-> ∃v,σ[i]? =some (some v)/\RelD K H d v
theorem RelS.mono {K:PySem.W.Frag}{H H':Hp}{σd:SD}{σ:St}(r:RelS K H σd σ)(k:Kept H H'):RelS K H' σd σ:=⟨r.1,λi d e=>let ⟨v,a,b⟩:=r.2 i d e;⟨v,a,b.mono k⟩⟩
theorem RelS.set {K:PySem.W.Frag}{H:Hp}{σd:SD}{σ:St}{d:D}{v:V}(r:RelS K H σd σ)(q:RelD K H d v)(i:Nat):RelS K H (σd.set i (some d)) (σ.set i (some v)):=⟨by simp [r.1],λj e h=>by
 by_cases z:i=j
 ·subst z;rw [G0d] at h ⊢
  by_cases hl:i<σd.length
  ·rw [if_pos rfl,if_pos hl] at h;rw [if_pos rfl,if_pos (by rw [<-r.1];exact hl)];cases h;exact⟨v,rfl,q⟩
  ·rw [if_pos rfl,if_neg hl] at h;cases h
 ·rw [F8 z] at h ⊢;exact r.2 j e h⟩
theorem RelS.clear1 {K:PySem.W.Frag}{H:Hp}{σd:SD}{σ:St}(r:RelS K H σd σ)(i:Nat):RelS K H (σd.set i none) (σ.set i none):=⟨by simp [r.1],λj e h=>by
 by_cases z:i=j
 ·subst z;rw [G0d] at h;split at h
  ·split at h<;>cases h
  ·contradiction
 ·rw [F8 z] at h ⊢;exact r.2 j e h⟩
def jP:List Nat->SD->SD
 | [],σ=>σ
 |j::js,σ=>jP js (σ.set j none)
theorem RelS.clear {K:PySem.W.Frag}{H:Hp}: ∀ (js:List Nat) {σd:SD} {σ:St},RelS K H σd σ->RelS K H (jP js σd) (zW js σ)
 | [],_,_,r=>r
 |j::js,_,_,r=>RelS.clear js (r.clear1 j)
abbrev KD:=D->HD->Prop
abbrev TED:=SD->HD->KD->Prop
abbrev TTD:=SD->HD->(Bool->HD->Prop)->Prop
abbrev TAD:=SD->HD->(List D->HD->Prop)->Prop
abbrev RD2:=D->D->HD->KD->Prop
abbrev RDn:=List D->HD->KD->Prop
structure EndsD where
 nx:SD->HD->Prop
 rt:KD
 bk:SD->HD->Prop:=λ_ _=>False
 ct:SD->HD->Prop:=λ_ _=>False
abbrev TSD:=EndsD->SD->HD->Prop
abbrev TGD:=D->SD->HD->(SD->HD->Prop)->Prop
def Cc (K:PySem.W.Frag)(H:Hp)(Qd:KD)(Q:VK):Prop:= ∀d v h' H',Kept H H'->RelH K h' H'->RelD K H' d v->Qd d h'->Q v H'
def LE (K:PySem.W.Frag)(t:TED):TE:=λσ H Q=> ∃σd h Qd,RelS K H σd σ/\RelH K h H/\t σd h Qd/\Cc K H Qd Q
def LT (K:PySem.W.Frag)(t:TTD):TT:=λσ H Q=> ∃σd h Qd,RelS K H σd σ/\RelH K h H/\t σd h Qd/\ ∀b h' H',Kept H H'->RelH K h' H'->Qd b h'->Q b H'
def LA (K:PySem.W.Frag)(t:TAD):TA:=λσ H Q=> ∃σd h Qd,RelS K H σd σ/\RelH K h H/\t σd h Qd/\ ∀ds vs h' H',Kept H H'->RelH K h' H'->RelDs K H' ds vs->Qd ds h'->Q vs H'
def LR (K:PySem.W.Frag)(f:RD2):R2:=λx y H Q=> ∃dx dy h Qd,RelD K H dx x/\RelD K H dy y/\RelH K h H/\f dx dy h Qd/\Cc K H Qd Q
def LC (K:PySem.W.Frag)(f:RDn):List V->Hp->VK->Prop:=λxs H Q=> ∃ds h Qd,RelDs K H ds xs/\RelH K h H/\f ds h Qd/\Cc K H Qd Q
def LG (K:PySem.W.Frag)(g:TGD):TG:=λv σ H Q=> ∃d σd h Qd,RelD K H d v/\RelS K H σd σ/\RelH K h H/\g d σd h Qd/\ ∀σd' h' σ' H',Kept H H'->RelS K H' σd' σ'->RelH K h' H'->Qd σd' h'->Q σ' H'
def LS (K:PySem.W.Frag)(t:TSD):TS:=λD₀ σ H=> ∃σd h Dd,RelS K H σd σ/\RelH K h H/\t Dd σd h/\
 (∀σd' h' σ' H',Kept H H'->RelS K H' σd' σ'->RelH K h' H'->Dd.nx σd' h'->D₀.nx σ' H')/\Cc K H Dd.rt D₀.rt/\
 (∀σd' h' σ' H',Kept H H'->RelS K H' σd' σ'->RelH K h' H'->Dd.bk σd' h'->D₀.bk σ' H')/\(∀σd' h' σ' H',Kept H H'->RelS K H' σd' σ'->RelH K h' H'->Dd.ct σd' h'->D₀.ct σ' H')
theorem PE.imp {X:Cx}{e:Expr}{t t':TE}(h:PE X e t)(i: ∀σ H Q,t' σ H Q->t σ H Q):PE X e t':=λpins s σ H Q I q=>h pins s σ H Q I (i σ H Q q)
theorem PT.imp {X:Cx}{e:Expr}{t t':TT}(h:PT X e t)(i: ∀σ H Q,t' σ H Q->t σ H Q):PT X e t':=λpins s σ H Q I q=>h pins s σ H Q I (i σ H Q q)
theorem PW.imp {X:Cx}{e:Expr}{t t':TT}(h:PW X e t)(i: ∀σ H Q,t' σ H Q->t σ H Q):PW X e t':=λwh pins s σ H Q I q=>h wh pins s σ H Q I (i σ H Q q)
theorem PA.imp {X:Cx}{e:List Expr}{t t':TA}(h:PA X e t)(i: ∀σ H Q,t' σ H Q->t σ H Q):PA X e t':=λpos pins s σ H Q I q=>h pos pins s σ H Q I (i σ H Q q)
theorem PS.imp {X:Cx}{e:Stmt}{t t':TS}(h:PS X e t)(i: ∀D σ H,t' D σ H->t D σ H):PS X e t':=λpins s σ H D I q=>h pins s σ H D I (i D σ H q)
theorem PSs.imp {X:Cx}{e:List Stmt}{t t':TS}(h:PSs X e t)(i: ∀D σ H,t' D σ H->t D σ H):PSs X e t':=λpins s σ H D I q=>h pins s σ H D I (i D σ H q)
theorem PG.imp {X:Cx}{e:Expr}{t t':TG}(h:PG X e t)(i: ∀v σ H Q,t' v σ H Q->t v σ H Q):PG X e t':=λpins s σ H v u Q I r q=>h pins s σ H v u Q I r (i v σ H Q q)
theorem OpR.imp {X:Cx}{f:Value->Value->Sem Value}{r r':R2}(h:OpR X f r)(i: ∀x y H Q,r' x y H Q->r x y H Q):OpR X f r':=λpins s σ H x y v u Q I a b q=>h pins s σ H x y v u Q I a b (i x y H Q q)
theorem CallR.imp {X:Cx}{f:Value}{r r':List V->Hp->VK->Prop}(h:CallR X f r)(i: ∀xs H Q,r' xs H Q->r xs H Q):CallR X f r':=λpins s σ H xs us Q I a q=>h pins s σ H xs us Q I a (i xs H Q q)
def MP (i:Nat):TED:=λσ h Q=> ∃d,σ[i]? =some (some d)/\Q d h
def dC (d:D):TED:=λ_ h Q=>Q d h
def dOp (f:RD2)(ta tb:TED):TED:=λσ h Q=>ta σ h λx h1=>tb σ h1 λy h2=>f x y h2 Q
def PQ:TAD:=λ_ h Q=>Q [] h
def vC (ta:TED)(tr:TAD):TAD:=λσ h Q=>ta σ h λx h1=>tr σ h1 λxs h2=>Q (x::xs) h2
def SX (t:TAD):TED:=λσ h Q=>t σ h λds h1=>ds.length<=sizeLine/\Q (.tup ds) h1
def AJ (t:TAD):TED:=λσ h Q=>t σ h λds h1=>ds.length<=sizeLine/\ ∀p,h1 p=none->Q (.lst p) (zB h1 p ds)
def dCB (r:RDn)(t:TAD):TED:=λσ h Q=>t σ h λds h1=>r ds h1 Q
def JL (t:TED):TTD:=λσ h Q=>t σ h λx h1=> ∃k,x= .bl k/\Q k h1
def VJ (r r':RD2)(ta tb tc:TED):TED:=λσ h Q=>ta σ h λx h1=>tb σ h1 λy h2=>r x y h2 λz h3=> ∃k,z= .bl k/\
 (if k=true then tc σ h3 λw h4=>r' y w h4 Q else Q (.bl false) h3)
def Fu (t u:TTD):TTD:=λσ h Q=>t σ h λc h1=>if c=true then u σ h1 Q else Q false h1
def AK (t u:TTD):TTD:=λσ h Q=>t σ h λc h1=>if c=true then Q true h1 else u σ h1 Q
def DB (t:TTD):TTD:=λσ h Q=>t σ h λc h1=>Q (!c) h1
def Nt (ta tb:TED):TED:=λσ h Q=>ta σ h λx h1=> ∃c,x= .bl c/\if c=true then tb σ h1 Q else Q (.bl false) h1
def TB (ta tb:TED):TED:=λσ h Q=>ta σ h λx h1=> ∃c,x= .bl c/\if c=true then Q (.bl true) h1 else tb σ h1 Q
def Nu (ta:TED):TED:=λσ h Q=>ta σ h λx h1=> ∃c,x= .bl c/\Q (.bl (!c)) h1
def dIf (t:TTD)(ta tb:TED):TED:=λσ h Q=>t σ h λc h1=>if c=true then ta σ h1 Q else tb σ h1 Q
section
variable {K:PySem.W.Frag}
theorem AL (i:Nat): ∀σ H Q,LE K (MP i) σ H Q->Tf i σ H Q:=λσ H Q ⟨σd,h,Qd,rs,rh,⟨d,e,q⟩,p⟩=>let ⟨v,e1,e2⟩:=rs.2 i d e;⟨v,e1,p d v h H (.refl H) rh e2 q⟩
theorem SY {d:D}{v:V}(r: ∀H,RelD K H d v): ∀σ H Q,LE K (dC d) σ H Q->tC v σ H Q:=λσ H Q ⟨σd,h,Qd,rs,rh,q,p⟩=>p d v h H (.refl H) rh (r H) q
variable {H:Hp}
theorem jF {H1:Hp}{Qd:KD}{Q:VK}(p:Cc K H Qd Q)(k:Kept H H1):Cc K H1 Qd Q:=λd v h' H' k'=>p d v h' H' (k.trans k')
variable {ta:TED}
theorem LE.bind {σ:St}{σd:SD}{h:HD}{kd:KD}{k:VK}(rs:RelS K H σd σ)(rh:RelH K h H)(t:ta σd h kd)(f: ∀d v h' H',Kept H H'->RelS K H' σd σ->RelH K h' H'->RelD K H' d v->kd d h'->k v H'):LE K ta σ H k:=
 ⟨σd,h,kd,rs,rh,t,λd v h' H' kp r1 r2 q=>f d v h' H' kp (rs.mono kp) r1 r2 q⟩
theorem LT.bind {ta:TTD}{σ:St}{σd:SD}{h:HD}{kd:Bool->HD->Prop}{k:Bool->Hp->Prop}(rs:RelS K H σd σ)(rh:RelH K h H)(t:ta σd h kd)(f: ∀b h' H',Kept H H'->RelS K H' σd σ->RelH K h' H'->kd b h'->k b H'):LT K ta σ H k:=
 ⟨σd,h,kd,rs,rh,t,λb h' H' kp r1 q=>f b h' H' kp (rs.mono kp) r1 q⟩
theorem LA.bind {ta:TAD}{σ:St}{σd:SD}{h:HD}{kd:List D->HD->Prop}{k:List V->Hp->Prop}(rs:RelS K H σd σ)(rh:RelH K h H)(t:ta σd h kd)(f: ∀ds vs h' H',Kept H H'->RelS K H' σd σ->RelH K h' H'->RelDs K H' ds vs->kd ds h'->k vs H'):LA K ta σ H k:=
 ⟨σd,h,kd,rs,rh,t,λd v h' H' kp r1 r2 q=>f d v h' H' kp (rs.mono kp) r1 r2 q⟩
variable {tb:TED}
theorem Fv {f:RD2}: ∀σ H Q,LE K (dOp f ta tb) σ H Q->tOp (LR K f) (LE K ta) (LE K tb) σ H Q:=λσ H Q ⟨σd,h,Qd,rs,rh,t,p⟩=>
 LE.bind rs rh t λd v h1 H1 k1 rs1 rh1 r1 t1=>LE.bind rs1 rh1 t1 λd2 v2 h2 H2 k2 rs2 rh2 r2 t2=>⟨d,d2,h2,Qd,r1.mono k2,r2,rh2,t2,jF p (k1.trans k2)⟩
theorem AM: ∀σ H Q,LA K PQ σ H Q->Tv σ H Q:=λσ H Q ⟨σd,h,Qd,rs,rh,t,p⟩=>p [] [] h H (.refl H) rh rfl t
theorem Fw {tr:TAD}: ∀σ H Q,LA K (vC ta tr) σ H Q->Nk (LE K ta) (LA K tr) σ H Q:=λσ H Q ⟨σd,h,Qd,rs,rh,t,p⟩=>
 LE.bind rs rh t λd v h1 H1 k1 rs1 rh1 r1 t1=>LA.bind rs1 rh1 t1 λds vs h2 H2 k2 rs2 rh2 r2 t2=>p _ _ h2 H2 (k1.trans k2) rh2 (.cons (r1.mono k2) r2) t2
theorem AN {t:TAD}: ∀σ H Q,LE K (SX t) σ H Q->Ka (LA K t) σ H Q:=λσ H Q ⟨σd,h,Qd,rs,rh,t,p⟩=>
 LA.bind rs rh t λds vs h1 H1 k1 rs1 rh1 r1 ⟨z,q⟩=>⟨by rw [<-r1.length];exact z,λa ha=>p (.tup ds) (.ref a) h1 _ (k1.trans (.new ha)) (rh1.new ha) ⟨a,vs,rfl,jp,r1.mono (.new ha)⟩ q⟩
theorem AO {t:TAD}: ∀σ H Q,LE K (AJ t) σ H Q->Kb (LA K t) σ H Q:=λσ H Q ⟨σd,h,Qd,rs,rh,t,p⟩=>
 LA.bind rs rh t λds vs h1 H1 k1 rs1 rh1 r1 ⟨z,q⟩=>⟨by rw [<-r1.length];exact z,λa ha=>p (.lst a) (.ref a) _ _ (k1.trans (.new ha)) (rh1.newL ha r1) ⟨rfl,vs,jp⟩ (q a (rh1.free ha))⟩
theorem AQ {r:RDn}{t:TAD}: ∀σ H Q,LE K (dCB r t) σ H Q->tCB (LC K r) (LA K t) σ H Q:=λσ H Q ⟨σd,h,Qd,rs,rh,t,p⟩=>
 LA.bind rs rh t λds vs h1 H1 k1 rs1 rh1 r1 q=>⟨ds,h1,Qd,r1,rh1,q,jF p k1⟩
theorem DC {t:TED}: ∀σ H Q,LT K (JL t) σ H Q->Fg (LE K t) σ H Q:=λσ H Q ⟨σd,h,Qd,rs,rh,t,p⟩=>
 LE.bind rs rh t λd v h1 H1 k1 rs1 rh1 r1 ⟨k,e,q⟩=>by subst e;exact⟨k,r1,p k h1 H1 k1 rh1 q⟩
theorem Nv {t:TED}: ∀σ H Q,LT K (JL t) σ H Q->tB (LE K t) σ H Q:=λσ H Q ⟨σd,h,Qd,rs,rh,t,p⟩=>
 LE.bind rs rh t λd v h1 H1 k1 rs1 rh1 r1 ⟨k,e,q⟩=>by subst e;exact⟨k,r1,p k h1 H1 k1 rh1 q⟩
theorem Nw {r r':RD2}{tc:TED}: ∀σ H Q,LE K (VJ r r' ta tb tc) σ H Q->Ca (LR K r) (LR K r') (LE K ta) (LE K tb) (LE K tc) σ H Q:=λσ H Q ⟨σd,h,Qd,rs,rh,t,p⟩=>
 LE.bind rs rh t λd v h1 H1 k1 rs1 rh1 r1 t1=>LE.bind rs1 rh1 t1 λd2 v2 h2 H2 k2 rs2 rh2 r2 t2=>⟨d,d2,h2,_,r1.mono k2,r2,rh2,t2,λd3 v3 h3 H3 k3 rh3 r3 ⟨k,e,q⟩=>by
  subst e;refine⟨k,r3,?_⟩;cases k with
  |true=>
   rw [if_pos rfl] at q ⊢;exact LE.bind (rs2.mono k3) rh3 q λd4 v4 h4 H4 k4 rs4 rh4 r4 t4=>⟨d2,d4,h4,Qd,(r2.mono k3).mono k4,r4,rh4,t4,jF p (k1.trans (k2.trans (k3.trans k4)))⟩
  |false=>
   rw [if_neg P5] at q ⊢;exact p (.bl false) _ h3 H3 (k1.trans (k2.trans k3)) rh3 rfl q⟩
variable {t:TTD}
theorem AR {u:TTD}: ∀σ H Q,LT K (Fu t u) σ H Q->HL (LT K t) (LT K u) σ H Q:=λσ H Q ⟨σd,h,Qd,rs,rh,t,p⟩=>
 LT.bind rs rh t λb h1 H1 k1 rs1 rh1 q=>by
  cases b with
  |true=>rw [if_pos rfl] at q ⊢;exact⟨σd,h1,Qd,rs1,rh1,q,λb h' H' k=>p b h' H' (k1.trans k)⟩
  |false=>rw [if_neg P5] at q ⊢;exact p _ _ _ k1 rh1 q
theorem TC {u:TTD}: ∀σ H Q,LT K (AK t u) σ H Q->tOr (LT K t) (LT K u) σ H Q:=λσ H Q ⟨σd,h,Qd,rs,rh,t,p⟩=>
 LT.bind rs rh t λb h1 H1 k1 rs1 rh1 q=>by
  cases b with
  |true=>rw [if_pos rfl] at q ⊢;exact p _ _ _ k1 rh1 q
  |false=>rw [if_neg P5] at q ⊢;exact⟨σd,h1,Qd,rs1,rh1,q,λb h' H' k=>p b h' H' (k1.trans k)⟩
theorem AS: ∀σ H Q,LT K (DB t) σ H Q->HM (LT K t) σ H Q:=λσ H Q ⟨σd,h,Qd,rs,rh,t,p⟩=>
 LT.bind rs rh t λb h1 H1 k1 rs1 rh1 q=>p _ _ _ k1 rh1 q
theorem AT: ∀σ H Q,LE K (Nt ta tb) σ H Q->Ac (LE K ta) (LE K tb) σ H Q:=λσ H Q ⟨σd,h,Qd,rs,rh,t,p⟩=>
 LE.bind rs rh t λd v h1 H1 k1 rs1 rh1 r1 ⟨c,e,q⟩=>by
  subst e;refine⟨c,r1,?_⟩;cases c with
  |true=>rw [if_pos rfl] at q ⊢;exact⟨σd,h1,Qd,rs1,rh1,q,jF p k1⟩
  |false=>rw [if_neg P5] at q ⊢;exact p (.bl false) _ _ _ k1 rh1 rfl q
theorem TD: ∀σ H Q,LE K (TB ta tb) σ H Q->HN (LE K ta) (LE K tb) σ H Q:=λσ H Q ⟨σd,h,Qd,rs,rh,t,p⟩=>
 LE.bind rs rh t λd v h1 H1 k1 rs1 rh1 r1 ⟨c,e,q⟩=>by
  subst e;refine⟨c,r1,?_⟩;cases c with
  |true=>rw [if_pos rfl] at q ⊢;exact p (.bl true) _ _ _ k1 rh1 rfl q
  |false=>rw [if_neg P5] at q ⊢;exact⟨σd,h1,Qd,rs1,rh1,q,jF p k1⟩
theorem AU: ∀σ H Q,LE K (Nu ta) σ H Q->Ad (LE K ta) σ H Q:=λσ H Q ⟨σd,h,Qd,rs,rh,t,p⟩=>
 LE.bind rs rh t λd v h1 H1 k1 rs1 rh1 r1 ⟨c,e,q⟩=>by subst e;exact⟨c,r1,p (.bl (!c)) _ _ _ k1 rh1 rfl q⟩
theorem TF: ∀σ H Q,LE K (dIf t ta tb) σ H Q->tIf (LT K t) (LE K ta) (LE K tb) σ H Q:=λσ H Q ⟨σd,h,Qd,rs,rh,t,p⟩=>
 LT.bind rs rh t λb h1 H1 k1 rs1 rh1 q=>by
  cases b with
  |true=>rw [if_pos rfl] at q ⊢;exact⟨σd,h1,Qd,rs1,rh1,q,jF p k1⟩
  |false=>rw [if_neg P5] at q ⊢;exact⟨σd,h1,Qd,rs1,rh1,q,jF p k1⟩
end
abbrev QE (X:Cx)(e:Expr)(t:TED):Prop:=PE X e (LE X.K t)
abbrev QT (X:Cx)(e:Expr)(t:TTD):Prop:=PT X e (LT X.K t)
abbrev QW (X:Cx)(e:Expr)(t:TTD):Prop:=PW X e (LT X.K t)
abbrev QA (X:Cx)(es:List Expr)(t:TAD):Prop:=PA X es (LA X.K t)
abbrev QS (X:Cx)(s:Stmt)(t:TSD):Prop:=PS X s (LS X.K t)
abbrev QSs (X:Cx)(s:List Stmt)(t:TSD):Prop:=PSs X s (LS X.K t)
abbrev QG (X:Cx)(e:Expr)(t:TGD):Prop:=PG X e (LG X.K t)
abbrev OpQ (X:Cx)(f:Value->Value->Sem Value)(r:RD2):Prop:=OpR X f (LR X.K r)
abbrev yZ (X:Cx)(f:Value)(r:RDn):Prop:=CallR X f (LC X.K r)
section
variable {X:Cx}{a b c e:Expr}{es rest:List Expr}{ta tb tc te:TED}{t u:TAD}{tt tu:TTD}{pos:Pos}{f r r':RD2}
theorem qv (i:Nat){x:Str}(hN:X.N[i]? =some x:=by rfl)(hv:Vis X.env.scope x:=by first|exact Or.inl rfl|exact Or.inr (Or.inl rfl)|exact Or.inr (Or.inr rfl))(hd:(x==("__debug__" :Str))=false:=by decide)
 (hcd:(x==("__classdict__" :Str))=false:=by decide):QE X (.Name x pos) (MP i):=(BV hN hv hd hcd).imp (AL i)
theorem KJ {i:Int}{j:Nat}:QE X (.Constant (.int i) j pos) (dC (.int i)):=pe_int.imp (SY λ_=>rfl)
theorem qbl {i:Bool}{j:Nat}:QE X (.Constant (.bool i) j pos) (dC (.bl i)):=pe_bl.imp (SY λ_=>rfl)
theorem KL {x:Str}{j:Nat}:QE X (.Constant (.str x) j pos) (dC (.str x)):=pe_str.imp (SY λ_=>rfl)
theorem TH {x:Str}{i:Int}{tk:Tok}(hg:Gl X x)(hm:X.mg x=some (.int i tk))(hd:(x==("__debug__" :Str))=false:=by decide):QE X (.Name x pos) (dC (.int i)):=
 (De (v:= .int i) hg hm ⟨tk,rfl⟩ hd).imp (SY λ_=>rfl)
theorem qop {op:Operator}(ho:OpQ X (binaryOp op) f)(ha:QE X a ta)(hb:QE X b tb):QE X (.BinOp a op b pos) (dOp f ta tb):=(To ho ha hb).imp Fv
theorem KM {op:CmpOp}(ho:OpQ X (compareOp op) f)(ha:QE X a ta)(hb:QE X b tb)(hm:behindInMarks op b=false):QE X (.Compare a [op] [b] pos) (dOp f ta tb):=(Ff ho ha hb hm).imp Fv
theorem TJ {op:CmpOp}(ho:OpQ X (compareOp op) f)(ha:QE X a ta)(hb:QE X b tb)(hm:behindInMarks op b=false):QT X (.Compare a [op] [b] pos) (JL (dOp f ta tb)):=
 (Fh ho ha hb hm).imp λσ H Q h=>by
  obtain⟨σd,h,Qd,rs,rh,t,p⟩:=DC (t:=dOp f ta tb) σ H Q h;exact Fv σ H _ ⟨σd,h,Qd,rs,rh,t,p⟩
theorem Fx {op op':CmpOp}(ho:OpQ X (compareOp op) r)(ho':OpQ X (compareOp op') r')(ha:QE X a ta)(hb:QE X b tb)(hc:QE X c tc)(hm:lastMarks [op,op'] [b,c]=false:=by with_unfolding_all rfl):
 QT X (.Compare a [op,op'] [b,c] pos) (JL (VJ r r' ta tb tc)):=(Nj ho ho' ha hb hc hm).imp λσ H Q h=>by
 obtain⟨σd,h,Qd,rs,rh,t,p⟩:=DC (t:=VJ r r' ta tb tc) σ H Q h;exact Nw σ H _ ⟨σd,h,Qd,rs,rh,t,p⟩
theorem TK (ha:QE X a ta)(he: ∀whole,isTrue a X.env whole=(do let v <-whole;standAt a.pos;holding [v] (truthy v)):=by intro _;rfl):QT X a (JL ta):=(OY ha he).imp Nv
theorem TL (ha:QT X a tt):QW X (.BoolOp .And [a] pos) tt:=CZ ha
theorem KN (ha:QT X a tt):QW X (.BoolOp .Or [a] pos) tt:=OZ ha
theorem TN (ha:QT X a tt)(hb:QW X (.BoolOp .And (b::rest) pos) tu):QW X (.BoolOp .And (a::b::rest) pos) (Fu tt tu):=(Aa ha hb).imp AR
theorem KO (ha:QT X a tt)(hb:QW X (.BoolOp .Or (b::rest) pos) tu):QW X (.BoolOp .Or (a::b::rest) pos) (AK tt tu):=(Tg ha hb).imp TC
theorem TQ (ha:QT X a tt):QT X (.UnaryOp .Not a pos) (DB tt):=(Ab ha).imp AS
theorem KP {op:BoolOp}(ha:QE X a ta):QE X (.BoolOp op [a] pos) ta:=Ae ha
theorem KQ (ha:QE X a ta)(hb:QE X (.BoolOp .And (b::rest) pos) tb):QE X (.BoolOp .And (a::b::rest) pos) (Nt ta tb):=(Af ha hb).imp AT
theorem qor (ha:QE X a ta)(hb:QE X (.BoolOp .Or (b::rest) pos) tb):QE X (.BoolOp .Or (a::b::rest) pos) (TB ta tb):=(Th ha hb).imp TD
theorem KR (ha:QE X a ta):QE X (.UnaryOp .Not a pos) (Nu ta):=(Ag ha).imp AU
theorem qif {c:Expr}(hc:QT X c tt)(ha:QE X a ta)(hb:QE X b tb):QE X (.IfExp c a b pos) (dIf tt ta tb):=(Ng hc ha hb).imp TF
theorem AV:QA X [] PQ:=pa_nil.imp AM
theorem Fy (ha:QE X e te)(hr:QA X es t)(hs:starEach (e::es) X.env=(false,eval e X.env)::starEach es X.env:=by rfl):QA X (e::es) (vC te t):=(zr ha hr hs).imp Fw
theorem KS {k:Nat}(h:QA X es t):QE X (.Tuple es k pos) (SX t):=(Ax h).imp AN
theorem KT (h:QA X es t):QE X (.List es pos) (AJ t):=(Ay h).imp AO
end
def GA:TSD:=λD σ h=>D.nx σ h
def Nx (t u:TSD):TSD:=λD σ h=>t {D with nx:=u D} σ h
def Fz (te:TED):TSD:=λD σ h=>te σ h λ_ h1=>D.nx σ h1
def MQ (te:TED):TSD:=λD σ h=>te σ h D.rt
def OH (c:TTD)(t u:TSD):TSD:=λD σ h=>c σ h λb h1=>if b=true then t D σ h1 else u D σ h1
def FA (i:Nat)(te:TED):TSD:=λD σ h=>te σ h λd h1=>D.nx (σ.set i (some d)) h1
def TR (te:TED)(g:TGD):TSD:=λD σ h=>te σ h λx h1=>g x σ h1 D.nx
def TU (i j:Nat)(ta:TAD):TSD:=λD σ h=>ta σ h λds h1=> ∃v w,ds= [v,w]/\D.nx ((σ.set i (some v)).set j (some w)) h1
def gN (i:Nat):TGD:=λd σ h Q=>Q (σ.set i (some d)) h
def gT2 (i j:Nat):TGD:=λd σ h Q=> ∃x y,d= .tup [x,y]/\Q ((σ.set i (some x)).set j (some y)) h
section
variable {K:PySem.W.Frag}
theorem LS.of {t:TSD}{D₀:Ends}{σ:St}{H:Hp}{σd:SD}{h:HD}{Dd:EndsD}(rs:RelS K H σd σ)(rh:RelH K h H)(q:t Dd σd h)
 (nx: ∀σd' h' σ' H',Kept H H'->RelS K H' σd' σ'->RelH K h' H'->Dd.nx σd' h'->D₀.nx σ' H')(rt:Cc K H Dd.rt D₀.rt)
 (bk: ∀σd' h' σ' H',Kept H H'->RelS K H' σd' σ'->RelH K h' H'->Dd.bk σd' h'->D₀.bk σ' H')(ct: ∀σd' h' σ' H',Kept H H'->RelS K H' σd' σ'->RelH K h' H'->Dd.ct σd' h'->D₀.ct σ' H'):LS K t D₀ σ H:=⟨σd,h,Dd,rs,rh,q,nx,rt,bk,ct⟩
theorem FB: ∀D σ H,LS K GA D σ H->Ah D σ H:=λD σ H ⟨σd,h,Dd,rs,rh,q,nx,_⟩=>nx σd h σ H (.refl H) rs rh q
theorem AW {t u:TSD}: ∀D σ H,LS K (Nx t u) D σ H->HP (LS K t) (LS K u) D σ H:=λD σ H ⟨σd,h,Dd,rs,rh,q,nx,rt,bk,ct⟩=>
 LS.of rs rh q (λσd' h' σ' H' k rs' rh' q'=>⟨σd',h',Dd,rs',rh',q',λa b c d k'=>nx a b c d (k.trans k'),jF rt k,λa b c d k'=>bk a b c d (k.trans k'),λa b c d k'=>ct a b c d (k.trans k')⟩) rt bk ct
variable {te:TED}
theorem FC: ∀D σ H,LS K (Fz te) D σ H->Ai (LE K te) D σ H:=λD σ H ⟨σd,h,Dd,rs,rh,q,nx,rt,bk,ct⟩=>
 LE.bind rs rh q λd v h1 H1 k1 rs1 rh1 r1 q1=>nx _ _ _ _ k1 rs1 rh1 q1
theorem AX: ∀D σ H,LS K (MQ te) D σ H->HQ (LE K te) D σ H:=λD σ H ⟨σd,h,Dd,rs,rh,q,nx,rt,bk,ct⟩=>⟨σd,h,Dd.rt,rs,rh,q,rt⟩
theorem TV {c:TTD}{t u:TSD}: ∀D σ H,LS K (OH c t u) D σ H->HR (LT K c) (LS K t) (LS K u) D σ H:=λD σ H ⟨σd,h,Dd,rs,rh,q,nx,rt,bk,ct⟩=>
 LT.bind rs rh q λb h1 H1 k rs1 rh1 q1=>by
  cases b with
  |true=>rw [if_pos rfl] at q1 ⊢;exact⟨σd,h1,Dd,rs1,rh1,q1,λa b c d k'=>nx a b c d (k.trans k'),jF rt k,λa b c d k'=>bk a b c d (k.trans k'),λa b c d k'=>ct a b c d (k.trans k')⟩
  |false=>rw [if_neg P5] at q1 ⊢;exact⟨σd,h1,Dd,rs1,rh1,q1,λa b c d k'=>nx a b c d (k.trans k'),jF rt k,λa b c d k'=>bk a b c d (k.trans k'),λa b c d k'=>ct a b c d (k.trans k')⟩
theorem DD {i:Nat}: ∀D σ H,LS K (FA i te) D σ H->BX (LE K te) (yi i) D σ H:=λD σ H ⟨σd,h,Dd,rs,rh,q,nx,rt,bk,ct⟩=>
 LE.bind rs rh q λd v h1 H1 k1 rs1 rh1 r1 q1=>nx _ _ _ _ k1 (rs1.set r1 i) rh1 q1
theorem AY {g:TGD}: ∀D σ H,LS K (TR te g) D σ H->BX (LE K te) (LG K g) D σ H:=λD σ H ⟨σd,h,Dd,rs,rh,q,nx,rt,bk,ct⟩=>
 LE.bind rs rh q λd v h1 H1 k1 rs1 rh1 r1 q1=>⟨d,σd,h1,_,r1,rs1,rh1,q1,λa b c e k'=>nx a b c e (k1.trans k')⟩
theorem AZ {i j:Nat}{ta:TAD}: ∀D σ H,LS K (TU i j ta) D σ H->HU i j (LA K ta) D σ H:=λD σ H ⟨σd,h,Dd,rs,rh,q,nx,rt,bk,ct⟩=>
 LA.bind rs rh q λds vs h1 H1 k1 rs1 rh1 r1 ⟨x,y,e,q1⟩=>by
  subst e;obtain⟨v,r,e,r2,r3⟩:=(show ∃v r,vs=v::r/\RelD K H1 x v/\RelDs K H1 [y] r from r1);obtain⟨w,r',e',r4,r5⟩:=(show ∃v r',r=v::r'/\RelD K H1 y v/\RelDs K H1 [] r' from r3);cases (show r'= [] from r5);subst e' e;exact⟨v,w,rfl,nx _ _ _ _ k1 ((rs1.set r2 i).set r4 j) rh1 q1⟩
theorem FD (i:Nat): ∀v σ H Q,LG K (gN i) v σ H Q->yi i v σ H Q:=λv σ H Q ⟨d,σd,h,Qd,r,rs,rh,q,p⟩=>p _ _ _ _ (.refl H) (rs.set r i) rh q
theorem ym {H:Hp}{x y:D}{vs:List V}(r:RelDs K H [x,y] vs): ∃v w,vs= [v,w]/\RelD K H x v/\RelD K H y w:=by
 obtain⟨v,r1,e,r2,r3⟩:=(show ∃v r,vs=v::r/\RelD K H x v/\RelDs K H [y] r from r);obtain⟨w,z,e',r4,r5⟩:=(show ∃v z,r1=v::z/\RelD K H y v/\RelDs K H [] z from r3);cases (show z= [] from r5);subst e' e;exact⟨v,w,rfl,r2,r4⟩
theorem jH {H:Hp}{x:D}{vs:List V}(r:RelDs K H [x] vs): ∃v,vs= [v]/\RelD K H x v:=by
 obtain⟨v,r1,e,r2,r3⟩:=(show ∃v r,vs=v::r/\RelD K H x v/\RelDs K H [] r from r);cases (show r1= [] from r3);exact⟨v,e,r2⟩
theorem Ea (i j:Nat): ∀v σ H Q,LG K (gT2 i j) v σ H Q->Tl K 2 (Dg (yi i) (Dg (yi j) Tk)) v σ H Q:=λv σ H Q ⟨d,σd,h,Qd,r,rs,rh,⟨x,y,e,q⟩,p⟩=>by
 subst e;obtain⟨a,vs,e,hH,r1⟩:=(show ∃a vs,v= .ref a/\H a=some (.tup vs)/\RelDs K H [x,y] vs from r);obtain⟨v1,v2,e1,r2,r3⟩:=ym r1;subst e e1;exact⟨a,[v1,v2],rfl,SqT.of hH,rfl,v1,[v2],rfl,v2,[],rfl,rfl,p _ _ _ _ (.refl H) ((rs.set r2 i).set r3 j) rh q⟩
end
section
variable {X:Cx}{st:Stmt}{sts:List Stmt}{t u:TSD}{e:Expr}{te:TED}{pos:Pos}
theorem Eb:QSs X [] GA:=pss_nil.imp FB
theorem FE (h1:QS X st t)(h2:QSs X sts u):QSs X (st::sts) (Nx t u):=(Nh h1 h2).imp AW
theorem Ec (h1:QS X st t):QSs X [st] t:=Fa h1
theorem TW (he:QE X e te)(hs:swapsWith e none pos.line X.env=pure false:=by rfl):QS X (.Expr e pos) (Fz te):=(Fb he hs).imp FC
theorem KU (he:QE X e te):QS X (.Return (some e) pos) (MQ te):=(Aj he).imp AX
theorem KW {c:Expr}{a b:List Stmt}{tc:TTD}(hc:QT X c tc)(ha:QSs X a t)(hb:QSs X b u):QS X (.If c a b pos) (OH tc t u):=(Ti hc ha hb).imp TV
variable {i:Nat}{x:Str}
theorem KY {pos':Pos}(hN:X.N.Nodup)(hi:X.N[i]? =some x)(hx:Loc X.env.scope x)(he:QE X e te)(hs:swapsWith e (some (.Name x pos')) pos.line X.env=pure false:=by rfl)
 (hf:X.fn x=true\/X.env.scope.names.lookup x=some .local:=by first|exact .inl rfl|exact .inr rfl|assumption):QS X (.Assign [.Name x pos'] e pos) (FA i te):=(Am hN hi hx he hs hf).imp DD
theorem FF (hN:X.N.Nodup)(hi:X.N[i]? =some x)(hx:Loc X.env.scope x)(hf:X.fn x=true\/X.env.scope.names.lookup x=some .local:=by first|exact .inl rfl|exact .inr rfl|assumption):QG X (.Name x pos) (gN i):=
 (yX hN hi hx hf).imp (FD i)
theorem Ed {j:Nat}{y:Str}{p1 p2:Pos}{k:Nat}(hc:X.calm=true)(hN:X.N.Nodup)(hi:X.N[i]? =some x)(hj:X.N[j]? =some y)(hx:Loc X.env.scope x)(hy:Loc X.env.scope y)
 (hf:X.fn x=true\/X.env.scope.names.lookup x=some .local:=by first|exact .inl rfl|exact .inr rfl|assumption)(hf2:X.fn y=true\/X.env.scope.names.lookup y=some .local:=by first|exact .inl rfl|exact .inr rfl|assumption):
 QG X (.Tuple [.Name x p1,.Name y p2] k pos) (gT2 i j):=(BW hc (JV (yX hN hi hx hf) (JV (yX hN hj hy hf2) Dh))).imp (Ea i j)
theorem KZ {tg:Expr}{g:TGD}(he:QE X e te)(hg:QG X tg g)(hs:swapsWithSole [tg] e pos.line X.env=pure false:=by rfl)(hsw:swappedStores [tg] e X.env=pure none:=by rfl)
 (h1:(assignEach [tg] X.env).map (·.2)= [assign tg X.env]:=by rfl):QS X (.Assign [tg] e pos) (TR te g):=(Al he hg hs hsw h1).imp AY
theorem ka {j:Nat}{y:Str}{a b:Expr}{ta:TAD}{px py pt:Pos}{kt k2 pt2}(hc:X.calm=true)(hN:X.N.Nodup)(hi:X.N[i]? =some x)(hj:X.N[j]? =some y)(hij:i≠j)
 (hx:X.env.scope.names.lookup x=some .local)(hy:X.env.scope.names.lookup y=some .local)(ha:QA X [a,b] ta)
 (hw:swappedStores [.Tuple [.Name x px,.Name y py] kt pt] (.Tuple [a,b] k2 pt2) X.env=pure (some [x,y]))
 (hs:swapsWithSole [.Tuple [.Name x px,.Name y py] kt pt] (.Tuple [a,b] k2 pt2) pos.line X.env=pure false:=by rfl):
 QS X (.Assign [.Tuple [.Name x px,.Name y py] kt pt] (.Tuple [a,b] k2 pt2) pos) (TU i j ta):=(An hc hN hi hj hij hx hy ha hw hs).imp AZ
end
abbrev ItD:=HD->Option (List D)
def OJ (K:PySem.W.Frag)(H:Hp)(j:ItD)(J:It):Prop:= ∀H' h',Kept H H'->RelH K h' H'-> ∀ds,j h'=some ds-> ∀i:Nat,
 (∀d,ds[i]? =some d->J.go i H'/\ ∀x H'',J.yld i H' x H''->Kept H' H''/\RelH K h' H''/\RelD K H'' d x)/\(ds.length<=i->J.stop i H')
abbrev TID:=SD->HD->(ItD->HD->Prop)->Prop
def LI (K:PySem.W.Frag)(t:TID):TI:=λσ H R=> ∃σd h Rd,RelS K H σd σ/\RelH K h H/\t σd h Rd/\ ∀j J h' H',Kept H H'->RelH K h' H'->OJ K H' j J->Rd j h'->R J H'
abbrev QI (X:Cx)(tg iter:Expr)(t:TID):Prop:=PI X tg iter (LI X.K t)
theorem PI.imp {X:Cx}{tg e:Expr}{t t':TI}(h:PI X tg e t)(i: ∀σ H R,t' σ H R->t σ H R):PI X tg e t':=λpins s σ H R I q=>h pins s σ H R I (i σ H R q)
def iL (te:TED):TID:=λσ h R=>te σ h λx h1=> ∃a,x= .lst a/\R (λh=>h a) h1
def iR1 (ta:TAD):TID:=λσ h R=>ta σ h λds h1=> ∃n:Int,ds= [.int n]/\ -(2^62)<=n/\n<2^62/\R (λ_=>some ((List.range n.toNat).map λ(k:Nat)=>D.int (k:Int))) h1
def iR2 (ta:TAD):TID:=λσ h R=>ta σ h λds h1=> ∃m n:Int,ds= [.int m,.int n]/\(-(2^62)<=m/\m<2^62/\ -(2^62)<=n/\n<2^62)/\R (λ_=>some ((List.range (n-m).toNat).map λ(k:Nat)=>D.int (m+(k:Int)))) h1
section
variable {K:PySem.W.Frag}
theorem VL (H:Hp)(a:Addr):OJ K H (λh=>h a) (Itl K a):=λH' h' k rh ds e i=>by
 obtain⟨vs,hv,r⟩:=rh a ds e;refine⟨λd hd=> ?_,λhl=>⟨vs,SqL.of hv,by rw [<-r.length];exact hl⟩⟩;obtain⟨v,e1,e2⟩:=r.get hd;refine⟨⟨vs,v,SqL.of hv,e1⟩,λx H'' ⟨eH,hx⟩=> ?_⟩;subst eH;have:=hx vs (SqL.of hv);rw [e1] at this;cases this;exact⟨.refl _,rh,e2⟩
theorem Ny {H:Hp}{a:Addr}{vs:List V}{ds:List D}(hv:H a=some (.tup vs))(r:RelDs K H ds vs):OJ K H (λ_=>some ds) (Itt K a):=λH' h' k rh ds' e i=>by
 cases e;have hv':=k.tup _ _ hv;have r':=r.mono k;refine⟨λd hd=> ?_,λhl=>⟨vs,SqT.of hv',by rw [<-r.length];exact hl⟩⟩;obtain⟨v,e1,e2⟩:=r'.get hd;refine⟨⟨vs,v,SqT.of hv',e1⟩,λx H'' ⟨eH,hx⟩=> ?_⟩;subst eH;have:=hx vs (SqT.of hv');rw [e1] at this;cases this;exact⟨.refl _,rh,e2⟩
theorem WV (H:Hp)(lo:Int)(n:Nat)(ds:List D)(hd:ds=(List.range n).map λ(k:Nat)=>D.int (lo+(k:Int))):OJ K H (λ_=>some ds) (Itr lo n):=λH' h' k rh ds' e i=>by
 cases e;subst hd;refine⟨λd hd=> ?_,λhl=>(show n<=i by simpa using hl)⟩;rw [P4] at hd;have hi:i<n:=by
  by_cases z:i<n
  ·exact z
  ·rw [N6 (by simpa using z)] at hd;cases hd
 rw [O9 hi] at hd;cases hd;refine⟨hi,λx H'' ⟨eH,hx⟩=> ?_⟩;subst eH hx;exact⟨.refl _,rh,rfl⟩
theorem FG {te:TED}: ∀σ H R,LI K (iL te) σ H R->Ao K (LE K te) σ H R:=λσ H R ⟨σd,h,Rd,rs,rh,q,p⟩=>
 LE.bind rs rh q λd v h1 H1 k1 rs1 rh1 r1 ⟨a,e,q1⟩=>by
  subst e;obtain⟨e,vs,hv⟩:=(show v= .ref a/\ ∃vs,H1 a=some (.lst vs) from r1);exact⟨a,e,⟨vs,SqL.of hv⟩,p _ _ _ _ k1 rh1 (VL H1 a) q1⟩
theorem TY {ta:TAD}: ∀σ H R,LI K (iR1 ta) σ H R->Ap (LA K ta) σ H R:=λσ H R ⟨σd,h,Rd,rs,rh,q,p⟩=>
 LA.bind rs rh q λds vs h1 H1 k1 rs1 rh1 r1 ⟨n,e,b1,b2,q1⟩=>by
  subst e;obtain⟨v,e,r2⟩:=jH r1;cases (show v= .int n from r2);exact⟨n,e,b1,b2,p _ _ _ _ k1 rh1 (WV H1 0 n.toNat _ (by simp)) q1⟩
theorem TZ {ta:TAD}: ∀σ H R,LI K (iR2 ta) σ H R->Aq (LA K ta) σ H R:=λσ H R ⟨σd,h,Rd,rs,rh,q,p⟩=>
 LA.bind rs rh q λds vs h1 H1 k1 rs1 rh1 r1 ⟨m,n,e,b,q1⟩=>by
  subst e;obtain⟨v,w,e,r2,r3⟩:=ym r1;cases (show v= .int m from r2);cases (show w= .int n from r3);exact⟨m,n,e,b,p _ _ _ _ k1 rh1 (WV H1 m (n-m).toNat _ rfl) q1⟩
end
def Ee (ti:TID)(g:TGD)(tb:TSD):TSD:=λD σ h=>ti σ h λj h1=> ∃ (n:Nat) (W:Nat->SD->HD->Prop),W 0 σ h1/\ ∀i σ' h',W i σ' h'-> ∃ds,j h'=some ds/\ds.length<=n/\(ds.length<=i->D.nx σ' h')/\
 ∀d,ds[i]? =some d->g d σ' h' λσ2 h2=>tb {D with nx:=λσ3 h3=> ∃h4,Sub h4 h3/\W (i+1) σ3 h4,ct:=λσ3 h3=> ∃h4,Sub h4 h3/\W (i+1) σ3 h4,bk:=D.nx} σ2 h2
theorem Ef {K:PySem.W.Frag}{ti:TID}{g:TGD}{tb:TSD}: ∀D σ H,LS K (Ee ti g tb) D σ H->HV (LI K ti) (LG K g) (LS K tb) D σ H:=λD σ H ⟨σd,h,Dd,rs,rh,q,nx,rt,bk,ct⟩=>by
 refine⟨σd,h,_,rs,rh,q,λj J h1 H1 k1 rh1 jo ⟨n,W,w0,turn⟩=> ?_⟩;refine⟨λi m σ' H'=>m=n-i/\Kept H1 H'/\ ∃σd' h',RelS K H' σd' σ'/\RelH K h' H'/\W i σd' h',⟨n-0,rfl,.refl _,σd,h1,rs.mono k1,rh1,w0⟩,?_⟩;rintro i m σ' H' ⟨rfl,kp,σd',h',rs',rh',w⟩;obtain⟨ds,ej,hn,stop,go⟩:=turn i σd' h' w;have jo':=jo H' h' kp rh' ds ej i
 by_cases hi:i<ds.length
 ·obtain⟨g1,y1⟩:=jo'.1 ds[i] (G2 hi);refine .inr ⟨g1,λσ2 H2=>Kept H1 H2/\ ∃σd2 h2,RelS K H2 σd2 σ2/\RelH K h2 H2/\W (i+1) σd2 h2,λσ2 H2 ⟨k2,a,b,c,d,e⟩=>⟨n-(i+1),by omega,rfl,k2,a,b,c,d,e⟩,λx H'' y=> ?_⟩;obtain⟨k2,rh2,r2⟩:=y1 x H'' y;refine⟨ds[i],σd',h',_,r2,rs'.mono k2,rh2,go ds[i] (G2 hi),λσd3 h3 σ3 H3 k3 rs3 rh3 q3=> ?_⟩;have kk:Kept H H3:=k1.trans (kp.trans (k2.trans k3));have kk1:Kept H1 H3:=kp.trans (k2.trans k3);exact⟨σd3,h3,_,rs3,rh3,q3,λa b c d k4 rs4 rh4 ⟨h4,sb,w4⟩=>⟨kk1.trans k4,a,h4,rs4,rh4.sub sb,w4⟩,jF rt kk,λa b c d k4 rs4 rh4 q4=>nx a b c d (kk.trans k4) rs4 rh4 q4,λa b c d k4 rs4 rh4 ⟨h4,sb,w4⟩=>⟨kk1.trans k4,a,h4,rs4,rh4.sub sb,w4⟩⟩
 ·exact .inl ⟨jo'.2 (K7.mp hi),nx _ _ _ _ (k1.trans kp) rs' rh' (stop (K7.mp hi))⟩
def Xm:TTD:=λ_ h Q=>Q true h
def Zy (bind:D->SD->SD->Prop)(js:List Nat)(ti:TID)(tt:TTD)(te:TED):TED:=λσ h Q=>ti σ h λj h1=> ∃ (n:Nat) (W:Nat->List D->HD->Prop),W 0 [] h1/\ ∀i ys h',W i ys h'->ys.length<=sizeLine/\
 ∃ds,j h'=some ds/\ds.length<=n/\(ds.length<=i-> ∀p,h' p=none->Q (.lst p) (zB h' p ys))/\
  ∀d,ds[i]? =some d-> ∃σ2,bind d (jP js σ) σ2/\tt σ2 h' λb h3=>if b=true then te σ2 h3 λy h4=> ∃h5,Sub h5 h4/\W (i+1) (ys++ [y]) h5 else ∃h5,Sub h5 h3/\W (i+1) ys h5
def bN (i:Nat):D->SD->SD->Prop:=λd σ σ2=>σ2=σ.set i (some d)
def b2 (i j:Nat):D->SD->SD->Prop:=λd σ σ2=> ∃x y,d= .tup [x,y]/\σ2=(σ.set i (some x)).set j (some y)
theorem Eg {K:PySem.W.Frag}: ∀σ H Q,LT K Xm σ H Q->Kf σ H Q:=λσ H Q ⟨σd,h,Qd,rs,rh,q,p⟩=>p true h H (.refl H) rh q
def DE (K:PySem.W.Frag)(js:List Nat)(bind:D->SD->SD->Prop)(g:TG):Prop:= ∀ (σ:St) (σd σd2:SD) (H:Hp) (d:D) (v:V) (Q:St->Hp->Prop),RelS K H (jP js σd) (zW js σ)->RelD K H d v->bind d (jP js σd) σd2->
 (∀σ2,Agree (zW js σ) σ2->RelS K H σd2 σ2->Q σ2 H)->g v (zW js σ) H Q
theorem Eh {K:PySem.W.Frag}{js:List Nat}{i:Nat}(hi:i∈js):DE K js (bN i) (yi i):=λσ σd σd2 H d v Q rs r b q=>by
 cases (show σd2=_ from b);exact q _ (.set v λu=>zt js σ i u hi) (rs.set r i)
theorem Ha {K:PySem.W.Frag}{js:List Nat}{i j:Nat}(hi:i∈js)(hj:j∈js)(hij:i≠j):DE K js (b2 i j) (Tl K 2 (Dg (yi i) (Dg (yi j) Tk))):=λσ σd σd2 H d v Q rs r b q=>by
 obtain⟨x,y,e,e2⟩:=b;subst e e2;obtain⟨a,vs,e,hH,r1⟩:=(show ∃a vs,v= .ref a/\H a=some (.tup vs)/\RelDs K H [x,y] vs from r);obtain⟨v1,v2,e1,r2,r3⟩:=ym r1;subst e e1;refine⟨a,[v1,v2],rfl,SqT.of hH,rfl,v1,[v2],rfl,v2,[],rfl,rfl,q _ (.trans (.set v1 λu=>zt js σ i u hi) (.set v2 λu z=> ?_)) ((rs.set r2 i).set r3 j)⟩;rw [F8 hij] at z;exact zt js σ j u hj z
theorem FH {K:PySem.W.Frag}{bind:D->SD->SD->Prop}{js:List Nat}{ti:TID}{tt:TTD}{te:TED}{g:TG}(hb:DE K js bind g): ∀σ H Q,LE K (Zy bind js ti tt te) σ H Q->tLC js (LI K ti) g (LT K tt) (LE K te) σ H Q:=
 λσ H Q ⟨σd,h,Qd,rs,rh,q,p⟩=>by
  refine⟨σd,h,_,rs,rh,q,λj J h1 H1 k1 rh1 jo ⟨n,W,w0,turn⟩=> ?_⟩;refine⟨λi m ys H'=>m=n-i/\Kept H1 H'/\ ∃ds h',RelDs K H' ds ys/\RelH K h' H'/\W i ds h',⟨n-0,rfl,.refl _,[],h1,rfl,rh1,w0⟩,?_⟩;rintro i m ys H' ⟨rfl,kp,yd,h',ry,rh',w⟩;obtain⟨hz,ds,ej,hn,stop,go⟩:=turn i yd h' w;refine⟨by rw [<-ry.length];exact hz,?_⟩;have jo':=jo H' h' kp rh' ds ej i;have kk:Kept H H':=k1.trans kp
  by_cases hi:i<ds.length
  ·obtain⟨g1,y1⟩:=jo'.1 ds[i] (G2 hi);refine .inr ⟨g1,λx H'' y=> ?_⟩;obtain⟨k2,rh2,r2⟩:=y1 x H'' y;obtain⟨σd2,bd,q2⟩:=go ds[i] (G2 hi);refine hb σ σd σd2 H'' ds[i] x _ (((rs.mono (kk.trans k2))).clear js) r2 bd λσ2 ag rs2=>⟨ag,?_⟩
   refine LT.bind rs2 rh2 q2 λb h3 H3 k3 rs3 rh3 q3=> ?_
   cases b with
   |true=>
    rw [if_pos rfl] at q3 ⊢;refine LE.bind rs3 rh3 q3 λd4 v4 h4 H4 k4 rs4 rh4 r4 ⟨h5,sb,w5⟩=>⟨n-(i+1),by omega,rfl,kp.trans (k2.trans (k3.trans k4)),yd++ [d4],h5,(ry.mono (k2.trans (k3.trans k4))).append (.cons r4 .nil),rh4.sub sb,w5⟩
   |false=>
    rw [if_neg P5] at q3 ⊢;obtain⟨h5,sb,w5⟩:=q3;exact⟨n-(i+1),by omega,rfl,kp.trans (k2.trans k3),yd,h5,ry.mono (k2.trans k3),rh3.sub sb,w5⟩
  ·refine .inl ⟨jo'.2 (K7.mp hi),λa ha=>p (.lst a) (.ref a) _ _ (kk.trans (.new ha)) (rh'.newL ha ry) ⟨rfl,ys,jp⟩ (stop (K7.mp hi) a (rh'.free ha))⟩
theorem yG {X:Cx}{scope:Scope}{C:Addr}{s₀:Shared}{H₀:Hp}{ex:List Addr}{i:Nat}{x:Str}{p:Pos}(hN:X.N.Nodup)(hx:X.N[i]? =some x)(hl:scope.names.lookup x=some .local\/scope.names.lookup x=some .cell):
 PG (Yu X scope C s₀ H₀ ex) (.Name x p) (yi i):=by
 rcases hl with z|z
 ·exact yX hN hx (.inl (lookup_relabel_local z)) (.inr (lookup_relabel_local z))
 ·exact yX hN hx (.inr (yY z)) (.inl (by show (scope.names.lookup x==some NameKind.cell)=true;rw [z];rfl))
section
variable {X:Cx}{tg e iter elt:Expr}{te:TED}{ti:TID}{g:TGD}{tb:TSD}{tt:TTD}{pos:Pos}{ta:TAD}{scope:Scope}{js:List Nat}{ifs:List Expr}
theorem FI (he:QE X e te):QI X tg e (iL te):=(Fd he).imp FG
theorem Hb {p:Pos}{a:Expr}(hg:Gl X "range")(hm:X.mg "range" =none)(ha:QA X [a] ta)(hs:starEach [a] X.env= [(false,eval a X.env)]:=by rfl):QI X tg (.Call (.Name "range" p) [a] [] pos) (iR1 ta):=(Di hg hm ha hs).imp TY
theorem kc {body:List Stmt}(hp:PassesOwn (model X.prog X.w) X.A X.env X.xe)(hc:X.calm=true)(hi:QI X tg iter ti)(hg:QG X tg g)(hb:QSs X body tb)(hs: ∀x,foldedSetIterable iter X.env x=pure x:=by intro _;rfl):
 QS X (.For tg iter body [] pos) (Ee ti g tb):=(Ar hp hc hi hg hb hs).imp Ef
theorem FJ:PTs X [] (LT X.K Xm):=λpins s σ H Q I h=>Fq pins s σ H Q I (Eg σ H Q h)
theorem FK {c:Expr}(hc:QT X c tt):PTs X [c] (LT X.K tt):=Fr hc
theorem qlc {i:Nat}{x:Str}{p:Pos}(hc:X.calm=true)(S:BlockOk X scope js)(hi:QI X (.Name x p) iter ti)(hj:i∈js)(hN:X.N.Nodup)(hx:X.N[i]? =some x)(hl:scope.names.lookup x=some .local\/scope.names.lookup x=some .cell)
 (ht: ∀X',jB X scope X'->PTs X' ifs (LT X'.K tt))(he: ∀X',jB X scope X'->QE X' elt te)(hs: ∀x,foldedSetIterable iter X.env x=pure x:=by intro _;rfl):
 QE X (.ListComp elt [⟨.Name x p,iter,ifs,0⟩] scope pos) (Zy (bN i) js ti tt te):=
 (AI hc S hi (λX' hX=>by obtain⟨C,s₀,H₀,ex,rfl⟩:=hX;exact yG hN hx hl) (λX' hX=>by have:=ht X' hX;obtain⟨C,s₀,H₀,ex,rfl⟩:=hX;exact this)
  (λX' hX=>by have:=he X' hX;obtain⟨C,s₀,H₀,ex,rfl⟩:=hX;exact this) hs).imp (FH (Eh hj))
theorem ke {i j:Nat}{x y:Str}{p1 p2 p3:Pos}{k:Nat}(hc:X.calm=true)(S:BlockOk X scope js)(hi:QI X (.Tuple [.Name x p1,.Name y p2] k p3) iter ti)(hj:i∈js)(hj2:j∈js)(hij:i≠j)(hN:X.N.Nodup)(hx:X.N[i]? =some x)(hy:X.N[j]? =some y)
 (hl:scope.names.lookup x=some .local\/scope.names.lookup x=some .cell)(hl2:scope.names.lookup y=some .local\/scope.names.lookup y=some .cell)
 (ht: ∀X',jB X scope X'->PTs X' ifs (LT X'.K tt))(he: ∀X',jB X scope X'->QE X' elt te)(hs: ∀x,foldedSetIterable iter X.env x=pure x:=by intro _;rfl):
 QE X (.ListComp elt [⟨.Tuple [.Name x p1,.Name y p2] k p3,iter,ifs,0⟩] scope pos) (Zy (b2 i j) js ti tt te):=
 (AI hc S hi (λX' hX=>by
  obtain⟨C,s₀,H₀,ex,rfl⟩:=hX;exact BW hc (JV (yG hN hx hl) (JV (yG hN hy hl2) Dh))) (λX' hX=>by have:=ht X' hX;obtain⟨C,s₀,H₀,ex,rfl⟩:=hX;exact this)
  (λX' hX=>by have:=he X' hX;obtain⟨C,s₀,H₀,ex,rfl⟩:=hX;exact this) hs).imp (FH (Ha hj hj2 hij))
end
def LSp (K:PySem.W.Frag)(spd:RDn):Sp:=λvs H Q _=>LC K spd vs H Q
theorem DF {K:PySem.W.Frag}{spd:RDn}{t:TAD}{E:XK}: ∀σ H Q,LE K (dCB spd t) σ H Q->Fj (LSp K spd) [] E (LA K t) σ H Q:=λσ H Q ⟨σd,h,Qd,rs,rh,t,p⟩=>
 LA.bind rs rh t λds vs h1 H1 k1 rs1 rh1 r1 q=>by rw [B7];exact⟨ds,h1,Qd,r1,rh1,q,jF p k1⟩
section
variable {X:Cx}{k:Nat}{f:Addr}{fd:FuncData}{ps:List Str}{spd:RDn}{x:Str}{p pos:Pos}{e:Expr}{es:List Expr}{t:TAD}
theorem Hc (F:FnOk X.prog X.w X.K X.mg X.base CX0 k f fd ps (LSp X.K spd))(hr:Room k X.A)(hg:Gl X x)(hm:X.mg x=some (.ref f))(hk:PySem.W.keepIn X.K (.ref f)=true)(hb:Binds X.K fd ps [])
 (ha:QA X (e::es) t)(hdb:(x==("__debug__" :Str))=false:=by decide)(he:starEach (e::es) X.env=(false,eval e X.env)::starEach es X.env:=by rfl)(hpl:(backTo pos (starEach es X.env)).any (·.1)=false:=by rfl):
 QE X (.Call (.Name x p) (e::es) [] pos) (dCB spd t):=(Ds F hr hg hm hk hb .nil Fp ha hdb he hpl).imp DF
theorem Ei {id:String}{r:RDn}(hc:yZ X (.builtin id) r)(hg:Gl X x)(hm:X.mg x=none)(hv:bootBuiltins x=some (.builtin id))(ha:QA X (e::es) t)(hn:x≠ "__name__" :=by decide)(hdb:(x==("__debug__" :Str))=false:=by decide)
 (he:starEach (e::es) X.env=(false,eval e X.env)::starEach es X.env:=by rfl)(hpl:(backTo pos (starEach es X.env)).any (·.1)=false:=by rfl):QE X (.Call (.Name x p) (e::es) [] pos) (dCB r t):=(yF hc hg hm hv ha hn hdb he hpl).imp AQ
theorem FL {T:String}{r:RDn}(hc:yZ X (.type T) r)(hg:Gl X x)(hm:X.mg x=none)(hv:bootBuiltins x=some (.type T))(ha:QA X (e::es) t)(hn:x≠ "__name__" :=by decide)(hdb:(x==("__debug__" :Str))=false:=by decide)
 (he:starEach (e::es) X.env=(false,eval e X.env)::starEach es X.env:=by rfl)(hpl:(backTo pos (starEach es X.env)).any (·.1)=false:=by rfl):QE X (.Call (.Name x p) (e::es) [] pos) (dCB r t):=(Zn hc hg hm hv ha hn hdb he hpl).imp AQ
end
def zu (N:List Str)(ds:List D):SD:=ds.map some++List.replicate (N.length-ds.length) none
theorem yH {K:PySem.W.Frag}{H:Hp}{N:List Str}{ds:List D}{vs:List V}(r:RelDs K H ds vs):RelS K H (zu N ds) (start N vs):=by
 have hl:=r.length;refine⟨by unfold zu start;simp [hl],λi d e=> ?_⟩;unfold zu at e;unfold start
 by_cases hi:i<ds.length
 ·rw [S0 (by simpa using hi),P4] at e;cases q:ds[i]? with
  |none=>rw [q] at e;cases e
  |some d'=>
   rw [q] at e;cases e;obtain⟨v,e1,e2⟩:=r.get q;exact⟨v,by rw [S0 (by simpa [<-hl] using hi),P4,e1];rfl,e2⟩
 ·rw [P8 (by simpa using hi),Y9] at e;split at e<;>cases e
def Qu (Q:KD):EndsD:= {nx:=λ_ h=> ∃h',Sub h' h/\Q .non h',rt:=λd h=> ∃h',Sub h' h/\Q d h'}
section
variable {P:Program}{w:World}{K:PySem.W.Frag}{mg:Str->Option Value}{base:Heap}
theorem Fun.okD {x qual:Str}{st:Stmt}{f:Addr}{fd:FuncData}{N ps:List Str}{k:Nat}{spd:RDn}(F:Fun K x qual st f fd)(S:FnScope N ps (je st))(len: ∀ds h Q,spd ds h Q->ds.length=ps.length)
 (tb:TSD)(hbody: ∀ (cdv:Value) (A:Around) (outer:List Env) (s:Shared) (H:Hp) (E:XK),Room k (A.deeper (envOfC qual (je st) s.heap.objs.size f cdv))->QSs (Yq CX0 P w K mg base N qual (je st) f cdv A outer s H E).nox (jX st) tb)
 (read: ∀ds h Q,spd ds h Q->tb (Qu Q) (zu N ds) h):FnOk P w K mg base CX0 (k+1) f fd ps (LSp K spd):=by
 refine F.ok S (λvs H Q E h=> ?_) (λcdv A outer s H vs Q E hr h=> ?_)
 ·obtain⟨ds,h,Qd,r,rh,q,p⟩:=h;rw [<-r.length];exact len _ _ _ q
 ·obtain⟨ds,h,Qd,r,rh,q,p⟩:=h;refine⟨_,hbody cdv A outer s H E hr,zu N ds,h,Qu Qd,yH r,rh,read ds h Qd q,λσd' h' σ' H' k rs' rh' ⟨h2,sb,q'⟩=>p .non .non h2 H' k (rh'.sub sb) rfl q',λd v h' H' k rh' r' ⟨h2,sb,q'⟩=>p d v h2 H' k (rh'.sub sb) r' q',λ_ _ _ _ _ _ _ z=>z.elim,λ_ _ _ _ _ _ _ z=>z.elim⟩
end
section
variable {X:Cx}{iter elt:Expr}{te:TED}{ti:TID}{tt:TTD}{pos spos:Pos}{scope:Scope}{js:List Nat}{ifs:List Expr}
theorem Ej {i k:Nat}{x y:Str}{p py:Pos}(hc:X.calm=true)(hN:X.N.Nodup)(hk:X.N[k]? =some y)(hy:Loc X.env.scope y)(S:BlockOk X scope js)(hi:QI X (.Name x p) iter ti)(hj:i∈js)(hx:X.N[i]? =some x)(hl:scope.names.lookup x=some .local\/scope.names.lookup x=some .cell)
 (ht: ∀X',jB X scope X'->PTs X' ifs (LT X'.K tt))(he: ∀X',jB X scope X'->QE X' elt te)
 (hsw:swapsWith (.ListComp elt [⟨.Name x p,iter,ifs,0⟩] scope pos) (some (.Name y py)) spos.line X.env=pure true:=by rfl)
 (hf:X.fn y=true\/X.env.scope.names.lookup y=some .local:=by first|exact .inl rfl|exact .inr rfl|assumption)(hs: ∀x,foldedSetIterable iter X.env x=pure x:=by intro _;rfl):
 QS X (.Assign [.Name y py] (.ListComp elt [⟨.Name x p,iter,ifs,0⟩] scope pos) spos) (FA k (Zy (bN i) js ti tt te)):=by
 have base:PS X (.Assign [.Name y py] (.ListComp elt [⟨.Name x p,iter,ifs,0⟩] scope pos) spos) (BX (tLC js (LI X.K ti) (yi i) (LT X.K tt) (LE X.K te)) (yi k)):=
  Nr hc S hi (λX' hX=>by obtain⟨C,s₀,H₀,ex,rfl⟩:=hX;exact yG hN hx hl) (λX' hX=>by have:=ht X' hX;obtain⟨C,s₀,H₀,ex,rfl⟩:=hX;exact this)
   (λX' hX=>by have:=he X' hX;obtain⟨C,s₀,H₀,ex,rfl⟩:=hX;exact this) (yX hN hk hy hf) hsw hs
 exact base.imp λD σ H h=>by
  obtain⟨σd,hd,Qd,rs,rh,t,p⟩:=DD (K:=X.K) D σ H h;exact FH (Eh hj) σ H _ ⟨σd,hd,Qd,rs,rh,t,p⟩
end
def dIn (i':Nat)(ti:TID)(tt:TTD)(te:TED)(V:List D->HD->Prop)(ys:List D):SD->HD->Prop:=λσ h=>ti σ h λj h1=> ∃ (n:Nat) (W:Nat->List D->HD->Prop),W 0 ys h1/\ ∀i ys h',W i ys h'->ys.length<=sizeLine/\
 ∃ds,j h'=some ds/\ds.length<=n/\(ds.length<=i->V ys h')/\
  ∀d,ds[i]? =some d->tt (σ.set i' (some d)) h' λb h3=>if b=true then te (σ.set i' (some d)) h3 λy h4=> ∃h5,Sub h5 h4/\W (i+1) (ys++ [y]) h5 else ∃h5,Sub h5 h3/\W (i+1) ys h5
def Hd (bind:D->SD->SD->Prop)(js:List Nat)(ti:TID)(tt:TTD)(i':Nat)(ti':TID)(tt':TTD)(te:TED):TED:=λσ h Q=>ti σ h λj h1=> ∃ (n:Nat) (W:Nat->List D->HD->Prop),W 0 [] h1/\ ∀i ys h',W i ys h'->ys.length<=sizeLine/\
 ∃ds,j h'=some ds/\ds.length<=n/\(ds.length<=i-> ∀p,h' p=none->Q (.lst p) (zB h' p ys))/\
  ∀d,ds[i]? =some d-> ∃σ2,bind d (jP js σ) σ2/\tt σ2 h' λb h3=>if b=true then dIn i' ti' tt' te (λys' h6=> ∃h5,Sub h5 h6/\W (i+1) ys' h5) ys σ2 h3 else ∃h5,Sub h5 h3/\W (i+1) ys h5
def DG (K:PySem.W.Frag)(js:List Nat)(i':Nat)(bind:D->SD->SD->Prop)(g:TG):Prop:= ∀ (σ:St) (σd σd2:SD) (H:Hp) (d:D) (v:V) (Q:St->Hp->Prop),RelS K H (jP js σd) (zW js σ)->RelD K H d v->bind d (jP js σd) σd2->
 (∀σ2,Agree (zW js σ) σ2->(∀u,¬σ2[i']? =some (some u))->RelS K H σd2 σ2->Q σ2 H)->g v (zW js σ) H Q
theorem Ek {K:PySem.W.Frag}{js:List Nat}{i i':Nat}(hi:i∈js)(hi':i'∈js)(hne:i≠i'):DG K js i' (bN i) (yi i):=λσ σd σd2 H d v Q rs r b q=>by
 cases (show σd2=_ from b);refine q _ (.set v λu=>zt js σ i u hi) (λu z=> ?_) (rs.set r i);rw [F8 hne] at z;exact zt js σ i' u hi' z
theorem El {K:PySem.W.Frag}{bind:D->SD->SD->Prop}{js:List Nat}{i':Nat}{ti ti':TID}{tt tt':TTD}{te:TED}{g:TG}(hb:DG K js i' bind g): ∀σ H Q,LE K (Hd bind js ti tt i' ti' tt' te) σ H Q->Kg js (LI K ti) g (LT K tt) (LI K ti') (yi i') (LT K tt') (LE K te) σ H Q:=
 λσ H Q ⟨σd,h,Qd,rs,rh,q,p⟩=>by
  refine⟨σd,h,_,rs,rh,q,λj J h1 H1 k1 rh1 jo ⟨n,W,w0,turn⟩=> ?_⟩;refine⟨λi m ys H'=>m=n-i/\Kept H1 H'/\ ∃ds h',RelDs K H' ds ys/\RelH K h' H'/\W i ds h',⟨n-0,rfl,.refl _,[],h1,rfl,rh1,w0⟩,?_⟩;rintro i m ys H' ⟨rfl,kp,yd,h',ry,rh',w⟩;obtain⟨hz,ds,ej,hn,stop,go⟩:=turn i yd h' w;refine⟨by rw [<-ry.length];exact hz,?_⟩;have jo':=jo H' h' kp rh' ds ej i;have kk:Kept H H':=k1.trans kp
  by_cases hi:i<ds.length
  ·obtain⟨g1,y1⟩:=jo'.1 ds[i] (G2 hi);refine .inr ⟨g1,λx H'' y=> ?_⟩;obtain⟨k2,rh2,r2⟩:=y1 x H'' y;obtain⟨σd2,bd,q2⟩:=go ds[i] (G2 hi);refine hb σ σd σd2 H'' ds[i] x _ (((rs.mono (kk.trans k2))).clear js) r2 bd λσ2 ag un rs2=>⟨ag,?_⟩
   refine LT.bind rs2 rh2 q2 λb h3 H3 k3 rs3 rh3 q3=> ?_
   cases b with
   |true=>
    rw [if_pos rfl] at q3 ⊢
    -- the second clause
    refine⟨σd2,h3,_,rs3,rh3,q3,λj2 J2 h4 H4 k4 rh4 jo2 ⟨n2,W2,w20,turn2⟩=> ?_⟩;refine⟨λi2 m2 ys2 H5=>m2=n2-i2/\Kept H4 H5/\ ∃ds h5,RelDs K H5 ds ys2/\RelH K h5 H5/\W2 i2 ds h5,⟨n2-0,rfl,.refl _,yd,h4,ry.mono (k2.trans (k3.trans k4)),rh4,w20⟩,?_⟩;rintro i2 m2 ys2 H5 ⟨rfl,kp5,yd5,h5,ry5,rh5,w5⟩;obtain⟨hz5,ds5,ej5,hn5,stop5,go5⟩:=turn2 i2 yd5 h5 w5;refine⟨by rw [<-ry5.length];exact hz5,?_⟩;have jo5:=jo2 H5 h5 kp5 rh5 ds5 ej5 i2;have kk5:Kept H1 H5:=kp.trans (k2.trans (k3.trans (k4.trans kp5)))
    by_cases hi5:i2<ds5.length
    ·obtain⟨g5,y5⟩:=jo5.1 ds5[i2] (G2 hi5);refine .inr ⟨g5,λx6 H6 yy6=> ?_⟩;obtain⟨k6,rh6,r6⟩:=y5 x6 H6 yy6;refine⟨.set x6 un,?_⟩;have rs6:=(rs3.mono (k4.trans (kp5.trans k6))).set r6 i';refine LT.bind rs6 rh6 (go5 ds5[i2] (G2 hi5)) λb h7 H7 k7 rs7 rh7 q7=> ?_
     cases b with
     |true=>
      rw [if_pos rfl] at q7 ⊢;exact LE.bind rs7 rh7 q7 λd8 v8 h8 H8 k8 rs8 rh8 r8 ⟨h9,sb,w9⟩=>⟨n2-(i2+1),by omega,rfl,kp5.trans (k6.trans (k7.trans k8)),yd5++ [d8],h9,(ry5.mono (k6.trans (k7.trans k8))).append (.cons r8 .nil),rh8.sub sb,w9⟩
     |false=>
      rw [if_neg P5] at q7 ⊢;obtain⟨h9,sb,w9⟩:=q7;exact⟨n2-(i2+1),by omega,rfl,kp5.trans (k6.trans k7),yd5,h9,ry5.mono (k6.trans k7),rh7.sub sb,w9⟩
    ·obtain⟨h9,sb,w9⟩:=stop5 (K7.mp hi5);exact .inl ⟨jo5.2 (K7.mp hi5),n-(i+1),by omega,rfl,kk5,yd5,h9,ry5,rh5.sub sb,w9⟩
   |false=>
    rw [if_neg P5] at q3 ⊢;obtain⟨h5,sb,w5⟩:=q3;exact⟨n-(i+1),by omega,rfl,kp.trans (k2.trans k3),yd,h5,ry.mono (k2.trans k3),rh3.sub sb,w5⟩
  ·refine .inl ⟨jo'.2 (K7.mp hi),λa ha=>p (.lst a) (.ref a) _ _ (kk.trans (.new ha)) (rh'.newL ha ry) ⟨rfl,ys,jp⟩ (stop (K7.mp hi) a (rh'.free ha))⟩
def kf:RD2:=λx y h Q=>match x,y with
 | .int i,.int j=>Q (.int (i+j)) h
 | .tup a,.tup b=>a.length+b.length<=sizeLine/\Q (.tup (a++b)) h
 | .lst a,.lst b=> ∃xs ys,h a=some xs/\h b=some ys/\xs.length+ys.length<=sizeLine/\ ∀p,h p=none->Q (.lst p) (zB h p (xs++ys))
 |_,_=>False
def Kh:RD2:=λx y h Q=>match x,y with
 | .int i,.int j=>Q (.int (i-j)) h
 |_,_=>False
def Ki:RD2:=λx y h Q=>match x,y with
 | .int i,.int j=>CMul i j/\Q (.int (i*j)) h
 | .lst a,.int k=> ∃xs,h a=some xs/\ -(2^63)<=k/\k<2^63/\xs.length*k.toNat<=sizeLine/\ ∀p,h p=none->Q (.lst p) (zB h p (List.replicate k.toNat xs).flatten)
 |_,_=>False
def kg:RD2:=λx y h Q=>match x,y with
 | .int i,.int j=>0<j/\Q (.int (i%j)) h
 |_,_=>False
def He:RD2:=λx y h Q=>match x,y with
 | .int i,.int j=>HX i j/\Q (.int (i / j)) h
 |_,_=>False
def Kj:RD2:=λx y h Q=>match x,y with
 | .int i,.int j=>HY i j/\Q (.int (i^j.toNat)) h
 |_,_=>False
def Cd (p:Int->Int->Bool):RD2:=λx y h Q=>match x,y with
 | .int i,.int j=>Q (.bl (p i j)) h
 |_,_=>False
def eqD:RD2:=λx y h Q=>match x,y with
 | .int i,.int j=>Q (.bl (decide (i=j))) h
 | .bl i,.bl j=>Q (.bl (decide (i=j))) h
 | .str i,.str j=>Q (.bl (decide (i=j))) h
 |_,_=>False
def neD:RD2:=λx y h Q=>match x,y with
 | .int i,.int j=>Q (.bl (!decide (i=j))) h
 | .bl i,.bl j=>Q (.bl (!decide (i=j))) h
 | .str i,.str j=>Q (.bl (!decide (i=j))) h
 |_,_=>False
section
variable {X:Cx}
theorem Xn {f:Value->Value->Sem Value}{C:Int->Int->Prop}{g:Int->Int->V}{gd:Int->Int->D}{r:RD2}(ho:OpR X f (rI C g))(hg: ∀i j H,RelD X.K H (gd i j) (g i j))
 (hr: ∀x y h Q,r x y h Q-> ∃i j,x= .int i/\y= .int j/\C i j/\Q (gd i j) h):OpQ X f r:=ho.imp λx y H Q ⟨dx,dy,h,Qd,rx,ry,rh,q,p⟩=>by
 obtain⟨i,j,e1,e2,c,q'⟩:=hr dx dy h Qd q;subst e1 e2;exact⟨i,j,rx,ry,c,p _ _ _ _ (.refl H) rh (hg i j H) q'⟩
theorem vD {f:Value->Value->Sem Value}{g:Int->Int->V}{gd:Int->Int->D}{r:RD2}(ho:OpR X f (rI0 g))(hg: ∀i j H,RelD X.K H (gd i j) (g i j))
 (hr: ∀x y h Q,r x y h Q-> ∃i j,x= .int i/\y= .int j/\Q (gd i j) h):OpQ X f r:=ho.imp λx y H Q ⟨dx,dy,h,Qd,rx,ry,rh,q,p⟩=>by
 obtain⟨i,j,e1,e2,q'⟩:=hr dx dy h Qd q;subst e1 e2;exact⟨i,j,rx,ry,p _ _ _ _ (.refl H) rh (hg i j H) q'⟩
theorem Qw:OpQ X (binaryOp .Sub) Kh:=vD (gd:=λi j=> .int (i-j)) As (λ_ _ _=>rfl) λx y h Q q=>by
 cases x<;>cases y<;>first|exact False.elim q|exact⟨_,_,rfl,rfl,q⟩
theorem yb:OpQ X (binaryOp .Mod) kg:=Xn (gd:=λi j=> .int (i%j)) Au (λ_ _ _=>rfl) λx y h Q q=>by
 cases x<;>cases y<;>first|exact False.elim q|exact⟨_,_,rfl,rfl,q.1,q.2⟩
theorem FM:OpQ X (binaryOp .FloorDiv) He:=Xn (gd:=λi j=> .int (i / j)) Fe (λ_ _ _=>rfl) λx y h Q q=>by
 cases x<;>cases y<;>first|exact False.elim q|exact⟨_,_,rfl,rfl,q.1,q.2⟩
theorem Ce:OpQ X (binaryOp .Pow) Kj:=Xn (gd:=λi j=> .int (i^j.toNat)) Av (λ_ _ _=>rfl) λx y h Q q=>by
 cases x<;>cases y<;>first|exact False.elim q|exact⟨_,_,rfl,rfl,q.1,q.2⟩
theorem Yw {p:Int->Int->Bool}: ∀x y h Q,Cd p x y h Q-> ∃i j,x= .int i/\y= .int j/\Q (.bl (p i j)) h:=λx y h Q q=>by
 cases x<;>cases y<;>first|exact False.elim q|exact⟨_,_,rfl,rfl,q⟩
theorem Em:OpQ X (compareOp .Lt) (Cd λi j=>decide (i<j)):=vD (gd:=λi j=> .bl (decide (i<j))) Tq (λ_ _ _=>rfl) Yw
theorem En:OpQ X (compareOp .LtE) (Cd λi j=>decide (i<=j)):=vD (gd:=λi j=> .bl (decide (i<=j))) Tr (λ_ _ _=>rfl) Yw
theorem DH:OpQ X (compareOp .Gt) (Cd λi j=>decide (j<i)):=vD (gd:=λi j=> .bl (decide (j<i))) Tt (λ_ _ _=>rfl) Yw
theorem FN:OpQ X (compareOp .GtE) (Cd λi j=>decide (j<=i)):=vD (gd:=λi j=> .bl (decide (j<=i))) Tu (λ_ _ _=>rfl) Yw
theorem OK {α:Type}[DecidableEq α]{f:α->V}(hf: ∀a b,f a=f b->a=b)(a b:α):decide (f a=f b)=decide (a=b):=by
 by_cases h:a=b
 ·subst h;simp
 ·rw [R9 h,R9 (λe=>h (hf a b e))]
theorem oq_eq:OpQ X (compareOp .Eq) eqD:=op_eq.imp λx y H Q ⟨dx,dy,h,Qd,rx,ry,rh,q,p⟩=>by
 cases dx<;>cases dy<;>first
  |exact False.elim q
  |(cases (show x= .int _ from rx);cases (show y= .int _ from ry);refine⟨rfl,p _ _ _ _ (.refl H) rh ?_ q⟩;rw [OK (f:=V.int) (λa b e=>by cases e;rfl)];rfl)
  |(cases (show x= .bl _ from rx);cases (show y= .bl _ from ry);refine⟨rfl,p _ _ _ _ (.refl H) rh ?_ q⟩;rw [OK (f:=V.bl) (λa b e=>by cases e;rfl)];rfl)
  |(cases (show x= .str _ from rx);cases (show y= .str _ from ry);refine⟨rfl,p _ _ _ _ (.refl H) rh ?_ q⟩;rw [OK (f:=V.str) (λa b e=>by cases e;rfl)];rfl)
theorem oq_ne:OpQ X (compareOp .NotEq) neD:=op_ne.imp λx y H Q ⟨dx,dy,h,Qd,rx,ry,rh,q,p⟩=>by
 cases dx<;>cases dy<;>first
  |exact False.elim q
  |(cases (show x= .int _ from rx);cases (show y= .int _ from ry);refine⟨rfl,p _ _ _ _ (.refl H) rh ?_ q⟩;rw [OK (f:=V.int) (λa b e=>by cases e;rfl)];rfl)
  |(cases (show x= .bl _ from rx);cases (show y= .bl _ from ry);refine⟨rfl,p _ _ _ _ (.refl H) rh ?_ q⟩;rw [OK (f:=V.bl) (λa b e=>by cases e;rfl)];rfl)
  |(cases (show x= .str _ from rx);cases (show y= .str _ from ry);refine⟨rfl,p _ _ _ _ (.refl H) rh ?_ q⟩;rw [OK (f:=V.str) (λa b e=>by cases e;rfl)];rfl)
def Eo (K:PySem.W.Frag):R2:=λx y H Q=> ∃a b xs ys,x= .ref a/\y= .ref b/\SqT K H a xs/\SqT K H b ys/\xs= []/\Q (.ref b) H
theorem op_catT0:OpR X (binaryOp .Add) (Eo X.K):=by
 intro pins s σ H x y v u Q I rx ry h;obtain⟨a,b,xs,ys,rfl,rfl,ha,hb,hx,q⟩:=h;cases rx;cases ry;obtain⟨its,r1,p1,_⟩:=I.tuple ha;obtain⟨its2,r2,p2,_⟩:=I.tuple hb;have hv:its= []:=r1.nil_iff.mpr hx;obtain⟨⟨cls,dd,data,sl⟩,ho,hc,n,hd⟩:=id p1;obtain⟨⟨cls2,dd2,data2,sl2⟩,ho2,hc2,n2,hd2⟩:=id p2;simp only at hc hd hc2 hd2;subst hc hd hc2 hd2;exact concat_meets ⟨_,ho,rfl⟩ ⟨_,ho2,rfl⟩ G1e seq_tuple_add Z9 Z4 (Y0 _ _)
  (tuple_addW0 a b its.toArray its2.toArray n n2 dd dd2 sl sl2 (by simp [hv])) ⟨ho,ho2,.ref b,H,I,rfl,q⟩
theorem za:OpQ X (binaryOp .Add) kf:=(op_add.or (op_catT.or (op_catT0.or AE))).imp λx y H Q ⟨dx,dy,h,Qd,rx,ry,rh,q,p⟩=>by
 cases dx<;>cases dy<;>first
  |exact False.elim q
  |skip
 ·exact .inl ⟨_,_,rx,ry,p (.int _) _ _ _ (.refl H) rh rfl q⟩
 ·rename_i ds es;obtain⟨a,vs,e1,h1,r1⟩:=(show ∃a vs,x= .ref a/\H a=some (.tup vs)/\RelDs X.K H ds vs from rx);obtain⟨b,us,e2,h2,r2⟩:=(show ∃a vs,y= .ref a/\H a=some (.tup vs)/\RelDs X.K H es vs from ry);subst e1 e2;obtain⟨hz,q⟩:=q
  by_cases hv:vs= []
  ·subst hv;have e:ds= []:=V1.mp r1.length;subst e;exact .inr (.inr (.inl ⟨a,b,[],us,rfl,rfl,SqT.of h1,SqT.of h2,rfl,p (.tup es) _ _ _ (.refl H) rh ⟨b,us,rfl,h2,r2⟩ q⟩))
  ·refine .inr (.inl ⟨a,b,vs,us,rfl,rfl,SqT.of h1,SqT.of h2,hv,by rw [<-r1.length,<-r2.length];exact hz,λe=> ?_,λ_ c hc=> ?_⟩)
   ·subst e;have e:es= []:=V1.mp r2.length;subst e;rw [B7] at q;exact p (.tup ds) _ _ _ (.refl H) rh ⟨a,vs,rfl,h1,r1⟩ q
   ·exact p (.tup (ds++es)) _ _ _ (.new hc) (rh.new hc) ⟨c,vs++us,rfl,jp,(r1.append r2).mono (.new hc)⟩ q
 ·rename_i a b;obtain⟨xs,ys,h1,h2,hz,q⟩:=q;obtain⟨vs,e1,r1⟩:=rh a xs h1;obtain⟨us,e2,r2⟩:=rh b ys h2;refine .inr (.inr (.inr ⟨a,b,vs,us,rx.1,ry.1,e1,e2,by rw [<-r1.length,<-r2.length];exact hz,λc hc=> ?_⟩));exact p (.lst c) _ _ _ (.new hc) (rh.newL hc (r1.append r2)) ⟨rfl,_,jp⟩ (q c (rh.free hc))
theorem RelDs.flat {K:PySem.W.Frag}{H:Hp}{ds:List D}{vs:List V}(r:RelDs K H ds vs): ∀k:Nat,RelDs K H (List.replicate k ds).flatten (List.replicate k vs).flatten
 |0=>by simp;exact .nil
 |k+1=>by rw [E2,E2,U4,U4];exact r.append (RelDs.flat r k)
theorem oq_mul:OpQ X (binaryOp .Mult) Ki:=(op_mul.or AF).imp λx y H Q ⟨dx,dy,h,Qd,rx,ry,rh,q,p⟩=>by
 cases dx<;>cases dy<;>first
  |exact False.elim q
  |skip
 ·exact .inl ⟨_,_,rx,ry,q.1,p (.int _) _ _ _ (.refl H) rh rfl q.2⟩
 ·obtain⟨xs,h1,b1,b2,hz,q⟩:=q;obtain⟨vs,e1,r1⟩:=rh _ xs h1;refine .inr ⟨_,_,vs,rx.1,ry,e1,b1,b2,by rw [<-r1.length];exact hz,λc hc=> ?_⟩;exact p (.lst c) _ _ _ (.new hc) (rh.newL hc (r1.flat _)) ⟨rfl,_,jp⟩ (q c (rh.free hc))
end
def ixD:RD2:=λx y h Q=>match x,y with
 | .tup ds,.int i=> ∃d,atI ds i=some d/\Q d h
 | .lst a,.int i=> ∃ds d,h a=some ds/\atI ds i=some d/\Q d h
 | .scr ns,.int i=> ∃n,atI ns i=some n/\Q (.int n) h
 |_,_=>False
theorem DI {K:PySem.W.Frag}{H:Hp}{ds:List D}{vs:List V}(r:RelDs K H ds vs){i:Int}{d:D}(e:atI ds i=some d): ∃v,atI vs i=some v/\RelD K H d v:=by
 unfold atI at e ⊢;rw [<-r.length];cases q:ixN ds.length i with
 |none=>rw [q] at e;cases e
 |some j=>rw [q] at e;exact r.get e
theorem FO {α β:Type}(f:α->β){xs:List α}{i:Int}{x:α}(e:atI xs i=some x):atI (xs.map f) i=some (f x):=by
 unfold atI at e ⊢;rw [G0];cases q:ixN xs.length i with
 |none=>rw [q] at e;cases e
 |some j=>
  rw [q] at e;show (xs.map f)[j]? =_;rw [P4,(show xs[j]? =some x from e)];rfl
section
variable {X:Cx}{a b e:Expr}{ta tb te:TED}{pos p2:Pos}
theorem Hf: ∀σ H Q,LE X.K (dOp ixD ta tb) σ H Q->tOp (rIx X.K) (LE X.K ta) (LE X.K tb) σ H Q:=λσ H Q ⟨σd,h,Qd,rs,rh,t,p⟩=>
 LE.bind rs rh t λdx x h1 H1 k1 rs1 rh1 r1 t1=>LE.bind rs1 rh1 t1 λdy y h2 H2 k2 rs2 rh2 ry q=>by
  have rx:=r1.mono k2;have kk:=k1.trans k2;cases dx<;>cases dy<;>first
   |exact False.elim q
   |skip
  ·rename_i ds i;obtain⟨d,e,q⟩:=q;obtain⟨a,vs,e1,hH,r⟩:=(show ∃a vs,x= .ref a/\H2 a=some (.tup vs)/\RelDs X.K H2 ds vs from rx);obtain⟨v,e2,rv⟩:=DI r e;exact .inr (.inl ⟨a,vs,i,v,e1,ry,SqT.of hH,e2,p _ _ _ _ kk rh2 rv q⟩)
  ·rename_i a i;obtain⟨ds,d,hd,e,q⟩:=q;obtain⟨vs,hH,r⟩:=rh2 a ds hd;obtain⟨v,e2,rv⟩:=DI r e;exact .inl ⟨a,vs,i,v,rx.1,ry,SqL.of hH,e2,p _ _ _ _ kk rh2 rv q⟩
  ·rename_i ns i;obtain⟨n,e,q⟩:=q;obtain⟨a,e1,hS⟩:=(show ∃a,x= .ref a/\Scr X.K H2 a ns from rx);exact .inl ⟨a,_,i,.int n,e1,ry,hS.sq,FO V.int e,p (.int n) _ _ _ kk rh2 rfl q⟩
theorem qix (ha:QE X a ta)(hb:QE X b tb)(hs:Xk b):QE X (.Subscript a b pos) (dOp ixD ta tb):=(Ty AC ha hb hs).imp Hf
end
def Ep:RDn:=λds h Q=>match ds with
 | [.tup xs]=>Q (.int xs.length) h
 | [.lst a]=> ∃xs,h a=some xs/\Q (.int xs.length) h
 | [.scr ns]=>Q (.int ns.length) h
 |_=>False
def Hg:RDn:=λds h Q=>match ds with
 | [.int i]=>Q (.int i) h
 | [.bl k]=>Q (.int (if k then 1 else 0)) h
 |_=>False
def Hh:RDn:=λds h Q=>match ds with
 | [.int i,.int j]=>Q (.int (if j>i then j else i)) h
 |_=>False
def Cf:RDn:=λds h Q=>match ds with
 | [.tup xs]=>Q (.tup xs) h
 | [.lst a]=> ∃xs,h a=some xs/\Q (.tup xs) h
 |_=>False
def Ju:RDn:=λds h Q=>match ds with
 | [.lst a]=> ∃xs,h a=some xs/\Q (.tup xs) (Wt h a)
 |_=>False
section
variable {X:Cx}
theorem zM:yZ X (.builtin "len") Ep:=call_len_seq.imp λxs H Q ⟨ds,h,Qd,r,rh,q,p⟩=>by
 unfold Ep at q;split at q
 ·rename_i es;obtain⟨v,e,r1⟩:=jH r;obtain⟨a,vs,e1,hH,r2⟩:=(show ∃a vs,v= .ref a/\H a=some (.tup vs)/\RelDs X.K H es vs from r1);subst e e1;exact⟨a,vs,rfl,.inr (SqT.of hH),by rw [<-r2.length];exact p (.int _) _ _ _ (.refl H) rh rfl q⟩
 ·rename_i a;obtain⟨es,hd,q⟩:=q;obtain⟨v,e,r1⟩:=jH r;obtain⟨vs,hH,r2⟩:=rh a es hd;have e1:v= .ref a:=r1.1;subst e e1;exact⟨a,vs,rfl,.inl (SqL.of hH),by rw [<-r2.length];exact p (.int _) _ _ _ (.refl H) rh rfl q⟩
 ·rename_i ns;obtain⟨v,e,r1⟩:=jH r;obtain⟨a,e1,hS⟩:=(show ∃a,v= .ref a/\Scr X.K H a ns from r1);subst e e1;exact⟨a,_,rfl,.inl hS.sq,by rw [G0];exact p (.int _) _ _ _ (.refl H) rh rfl q⟩
 ·exact q.elim
theorem Cg:yZ X (.type "int") Hg:=call_int1.imp λxs H Q ⟨ds,h,Qd,r,rh,q,p⟩=>by
 unfold Hg at q;split at q
 ·rename_i i;obtain⟨v,e,r1⟩:=jH r;cases (show v= .int i from r1);exact .inl ⟨i,e,p (.int i) _ _ _ (.refl H) rh rfl q⟩
 ·rename_i k;obtain⟨v,e,r1⟩:=jH r;cases (show v= .bl k from r1);exact .inr ⟨k,e,p (.int _) _ _ _ (.refl H) rh rfl q⟩
 ·exact q.elim
theorem Eq (hc:X.calm=true):yZ X (.builtin "max") Hh:=(Dp hc).imp λxs H Q ⟨ds,h,Qd,r,rh,q,p⟩=>by
 unfold Hh at q;split at q
 ·rename_i i j;obtain⟨v,w,e,r1,r2⟩:=ym r;cases (show v= .int i from r1);cases (show w= .int j from r2);exact⟨i,j,e,p (.int _) _ _ _ (.refl H) rh rfl q⟩
 ·exact q.elim
theorem cq_tuple:yZ X (.type "tuple") Cf:=call_tuple_of.imp λxs H Q ⟨ds,h,Qd,r,rh,q,p⟩=>by
 unfold Cf at q;split at q
 ·rename_i es;obtain⟨v,e,r1⟩:=jH r;obtain⟨a,vs,e1,hH,r2⟩:=(show ∃a vs,v= .ref a/\H a=some (.tup vs)/\RelDs X.K H es vs from r1);subst e e1;exact⟨a,vs,rfl,.inr ⟨SqT.of hH,p (.tup es) _ _ _ (.refl H) rh ⟨a,vs,rfl,hH,r2⟩ q⟩⟩
 ·rename_i a;obtain⟨es,hd,q⟩:=q;obtain⟨v,e,r1⟩:=jH r;obtain⟨vs,hH,r2⟩:=rh a es hd;have e1:v= .ref a:=r1.1;subst e e1;exact⟨a,vs,rfl,.inl ⟨SqL.of hH,λc hc=>p (.tup es) _ _ _ (.new hc) (rh.new hc) ⟨c,vs,rfl,jp,r2.mono (.new hc)⟩ q⟩⟩
 ·exact q.elim
theorem vE:yZ X (.type "tuple") Ju:=cq_tuple.imp λxs H Q ⟨ds,h,Qd,r,rh,q,p⟩=>by
 unfold Ju at q;split at q
 ·rename_i a;obtain⟨es,hd,q⟩:=q;exact⟨[.lst a],h,λd h'=>Qd d (Wt h' a),r,rh,⟨es,hd,q⟩,λd v h' H' k rh' rd q'=>p d v _ H' k (rh'.sub (Sub.drop h' a)) rd q'⟩
 ·exact q.elim
end
def VM:D->Option String
 | .non=>some "NoneType" | .bl _=>some "bool" | .int _=>some "int" | .str _=>some "str" | .tup _=>some "tuple" | .lst _=>some "list" | .dic _ _=>some "dict" | .dni _ _=>some "dict" | .scr _=>none| .exc _=>none| .fn _=>none
def Er (T:String)(n:String):Bool:=n==T||(T== "int" &&n== "bool")
theorem Nz {K:PySem.W.Frag}{H:Hp}{d:D}{v:V}{n:String}(r:RelD K H d v)(e:VM d=some n):TyOf K H v (.type n):=by
 cases d with
 |non=>cases (show v= .non from r);cases e;exact .non
 |bl b=>cases (show v= .bl b from r);cases e;exact .bl b
 |int i=>cases (show v= .int i from r);cases e;exact .int i
 |str x=>cases (show v= .str x from r);cases e;exact .str x
 |tup ds=>
  obtain⟨a,vs,e1,hH,_⟩:=(show ∃a vs,v= .ref a/\H a=some (.tup vs)/\RelDs K H ds vs from r);subst e1;cases e;exact .tup hH
 |lst a=>
  obtain⟨e1,vs,hH⟩:=(show v= .ref a/\ ∃vs,H a=some (.lst vs) from r);subst e1;cases e;exact .lst hH
 |dic x i=>
  obtain⟨a,e1,hH⟩:=(show ∃a,v= .ref a/\H a=some (.dK [(Sum.inr x,V.int i)]) from r);subst e1;cases e;exact .dK hH
 |dni x i=>
  obtain⟨a,e1,hH⟩:=(show ∃a,v= .ref a/\H a=some (.dK [(Sum.inl x,V.int i)]) from r);subst e1;cases e;exact .dK hH
 |scr ns=>cases e
 |exc C=>cases e
 |fn a=>cases e
def FP:List String:= ["NoneType","bool","int","str","tuple","list","dict"]
theorem GC {d:D}{n:String}(e:VM d=some n):n∈FP:=by
 cases d<;>cases e<;>decide
def Hi (K:PySem.W.Frag):Prop:= ∀n∈FP,∀T∈ ["tuple","int","bool","list","str"],PySem.W.kitOne K (.type n) (.type T)=some (Er T n)
theorem FQ (K:PySem.W.Frag):Hi K:=by
 intro n hn T hT;simp only [FP,P3,T7,X7] at hn hT;rcases hn with rfl|rfl|rfl|rfl|rfl|rfl|rfl<;>rcases hT with rfl|rfl|rfl|rfl|rfl<;>with_unfolding_all rfl
theorem DJ {X:Cx}(T:String):CallR X (.builtin "isinstance") (λxs H Q=> ∃x t b,xs= [x,.ty T]/\TyOf X.K H x t/\PySem.W.kitOne X.K t (.type T)=some b/\Q (.bl b) H):=by
 intro pins s σ H xs us Q I r h;obtain⟨x,t,b,rfl,ty,e,q⟩:=h;obtain⟨u,w',rfl,rx,rt⟩:=Do r;cases (show w'=Value.type T from rt);exact Dr I rx ty e λtk=>⟨.bl b,H,I.tok tk,rfl,q⟩
def dIs (T:String)(ta:TED):TED:=λσ h Q=>ta σ h λx h1=> ∃n,VM x=some n/\Q (.bl (Er T n)) h1
theorem Hj {X:Cx}{a:Expr}{ta:TED}{T:String}{t:Str}{p p2 pos:Pos}(hT:T∈ ["tuple","int","bool","list","str"])(hg:Gl X "isinstance")(hm:X.mg "isinstance" =none)(hg2:Gl X t)(hm2:X.mg t=none)(hv:bootBuiltins t=some (.type T))(ha:QE X a ta)
 (hn:t≠ "__name__" :=by decide)(hd:(t==("__debug__" :Str))=false:=by decide)
 (h1:starEach [a,.Name t p2] X.env=(false,eval a X.env)::starEach [.Name t p2] X.env:=by rfl)(h2:(backTo pos (starEach [.Name t p2] X.env)).any (·.1)=false:=by rfl):
 QE X (.Call (.Name "isinstance" p) [a,.Name t p2] [] pos) (dIs T ta):=
 (yF (DJ T) hg hm V9 (zr ha (zr (Df (v:= .ty T) hg2 hm2 hv rfl hn hd) pa_nil (by rfl)) h1) (by decide) (by decide) h1 h2).imp
  λσ H Q ⟨σd,h,Qd,rs,rh,t,p⟩=>LE.bind rs rh t λd v h1 H1 k1 rs1 rh1 r1 ⟨n,e,q⟩=>⟨v,.type n,Er T n,rfl,Nz r1 e,FQ _ n (GC e) T hT,p (.bl _) _ _ _ k1 rh1 rfl q⟩
theorem DK (bs:List Bool):(List.range bs.length).all (λi=>bs.getD i false)=bs.all id:=by
 induction bs with
 |nil=>rfl
 |cons b bs ih=>
  rw [P6,List.range_succ_eq_map,List.all_cons,W5,List.all_cons];show (b&&_)=(b&&bs.all id);rw [<-ih];rfl
theorem DL {bs:List Bool}{its:List Value}(r:Vals (bs.map V.bl) its){i:Nat}{v:Value}(e:its[i]? =some v):v= .bool (bs.getD i false):=by
 have hl:=r.length;rw [G0] at hl;have hi:i<its.length:=(P0.mp e).1;have hb:(bs.map V.bl)[i]? =some (.bl bs[i]):=by rw [P4,G2 (by omega)];rfl
 obtain⟨u,e1,r1⟩:=r.get hb;rw [e] at e1;cases e1;rw [R6,G2 (by omega)];exact r1
section
variable {X:Cx}
theorem Yx (hc:X.calm=true):CallR X (.builtin "all") (λxs H Q=> ∃ (a:Addr) (bs:List Bool),xs= [.ref a]/\SqL X.K H a (bs.map V.bl)/\Q (.bl (bs.all id)) H):=by
 intro pins s σ H xs us Q I r h;obtain⟨a,bs,rfl,hS,q⟩:=h;obtain⟨u,rfl,ru⟩:=vz r;cases ru;obtain⟨its,rv,pl,hz⟩:=I.list hS;have hl:=pl.isList;have hlt:a<s.heap.objs.size:=by obtain⟨_,e,_⟩:=hl;exact P1 e
 refine call_all_walk (U2 hl ?_);refine⟨s.heap.objs.size,_,_,_,_,_,λi=>bs.getD i false,rfl,G1S (A:=X.A.in1) (show X.A.in1.handled=none from I.ok.hd hc) s.heap.objs.size a (R3 hlt) its.toArray,⟨⟨_,D0 _ rfl,rfl,rfl⟩,hl.push _⟩,?_,λh' tk hk=> ?_⟩
 ·intro i v s' Q' E' hP hQ;have e:its[i]? =some v:=by simpa using hP
  rw [DL rv e];exact O0 hQ
 ·have hn:its.toArray.size=bs.length:=by rw [D3,<-rv.length,G0]
  rw [hn,DK];exact⟨.bl _,H,I.kept (t':=tk) (λb o e=>hk b o (λz=>by rw [G7.mp z] at e;exact absurd (P1 e) (S7 _)) (G1 _ e)),rfl,q⟩
theorem Zz {K:PySem.W.Frag}{H:Hp}: ∀ {bs:List Bool} {vs:List V},RelDs K H (bs.map D.bl) vs->vs=bs.map V.bl
 | [],_,h=>h
 |b::bs,vs,h=>by
  obtain⟨v,r,e,h1,h2⟩:=(show ∃v r,vs=v::r/\RelD K H (.bl b) v/\RelDs K H (bs.map D.bl) r from h);rw [e,Zz h2,(show v= .bl b from h1)];rfl
def kh:RDn:=λds h Q=> ∃ (a:Addr) (bs:List Bool),ds= [.lst a]/\h a=some (bs.map D.bl)/\Q (.bl (bs.all id)) (Wt h a)
theorem Ch (hc:X.calm=true):yZ X (.builtin "all") kh:=(Yx hc).imp λxs H Q ⟨ds,h,Qd,r,rh,⟨a,bs,e,hd,q⟩,p⟩=>by
 subst e;obtain⟨v,e,r1⟩:=jH r;obtain⟨vs,hH,r2⟩:=rh a _ hd;have e1:v= .ref a:=r1.1;rw [Zz r2] at hH;subst e e1;exact⟨a,bs,rfl,SqL.of hH,p (.bl _) _ _ _ (.refl H) (rh.sub (Sub.drop h a)) rfl q⟩
end
def Kk (to:TED)(te:TED):TED:=λσ h Q=>to σ h λx h1=> ∃a,x= .lst a/\te σ h1 λy h2=> ∃xs,h2 a=some xs/\xs.length<sizeLine/\Q .non (zB h2 a (xs++ [y]))
section
variable {X:Cx}{o e i:Expr}{to te ti:TED}{apos cpos pos:Pos}
theorem ki (ho:QE X o to)(he:QE X e te)(hbase:attributeBase o "append" X.env (eval o X.env)=eval o X.env:=by rfl)
 (hfew:((backTo cpos (starEach [e] X.env)).all (λx=> !x.1)&&(backToKw cpos (keywordEach [] X.env)).all (λx=>x.1.isSome)&&decide ([e].length+([]:List Keyword).length+(if ([]:List Keyword).isEmpty then 0 else 1)<30))=true:=by rfl)
 (hline:(apos.endLine==cpos.line)=true:=by rfl)(hs:starEach [e] X.env=(false,eval e X.env)::starEach [] X.env:=by rfl)(hplain:(backTo cpos (starEach [] X.env)).any (·.1)=false:=by rfl):
 QE X (.Call (.Attribute o "append" apos) [e] [] cpos) (Kk to te):=
 (Np V2 PySem.F.slot_list_append PySem.F.type_list_append Dv ho (zr he pa_nil hs) hbase hfew hline hs hplain).imp
  λσ H Q ⟨σd,h,Qd,rs,rh,t,p⟩=>LE.bind rs rh t λd v h1 H1 k1 rs1 rh1 r1 ⟨a,e,q⟩=>by
   subst e;obtain⟨e1,vs,hH⟩:=(show v= .ref a/\ ∃vs,H1 a=some (.lst vs) from r1);subst e1;refine⟨.inl ⟨rfl,vs,SqL.of hH⟩,?_⟩;refine LE.bind rs1 rh1 q λy u h2 H2 k2 rs2 rh2 r2 ⟨xs,hx,hz,q2⟩=> ?_
   obtain⟨ws,hW,r3⟩:=rh2 a xs hx;refine⟨a,ws,u,rfl,rfl,hW,by rw [<-r3.length];exact hz,p .non _ _ _ (k1.trans (k2.trans (.put hW))) (rh2.put hW (r3.append (.cons r2 .nil))) rfl q2⟩
def Es (to ti:TED):TGD:=λd σ h Q=>to σ h λo h1=>ti σ h1 λi h2=> ∃a k xs j,o= .lst a/\i= .int k/\h2 a=some xs/\ixN xs.length k=some j/\Q σ (zB h2 a (xs.set j d))
theorem Et (ho:QE X o to)(hi:QE X i ti)
 (ha: ∀v,assign (.Subscript o i pos) X.env v=(do
  let ov <-holding [v] (eval o X.env)
  let iv <-holding [v,ov] (eval i X.env)
  standAt pos
  holding [v,ov,iv] (setItem ov iv v)
  release [v,ov,iv] []):=by intro _;rfl):QG X (.Subscript o i pos) (Es to ti):=
 (Ak ho hi No ha).imp λv σ H Q ⟨d,σd,h,Qd,r,rs,rh,q,p⟩=>
  LE.bind rs rh q λd1 v1 h1 H1 k1 rs1 rh1 r1 q1=>LE.bind rs1 rh1 q1 λd2 v2 h2 H2 k2 rs2 rh2 r2 ⟨a,k,xs,j,e1,e2,hx,hj,q2⟩=>by
   subst e1 e2;have e3:v1= .ref a:=(r1.mono k2).1;obtain⟨ws,hW,r3⟩:=rh2 a xs hx;refine⟨a,ws,k,j,e3,r2,hW,by rw [<-r3.length];exact hj,p _ _ _ _ (k1.trans (k2.trans (.put hW))) (rs2.mono (.put hW)) (rh2.put hW (RelDs.set ((r.mono k1).mono k2) j r3)) q2⟩
end
def Ci (N:List Str)(sc:List (Str×NameKind))(scope:Scope)(js:List Nat):Bool:=
 scope.kind== .function&&scope.names.all (λp=>p.2 != .cell||scope.names.lookup p.1==some .cell)&&scope.names.all (λp=>p.2 != .local||scope.names.lookup p.1==some .local)&&
 scope.names.all (λp=>p.2 != .free||sc.lookup p.1==some .cell||sc.lookup p.1==some .free)&&
 (List.range N.length).all λi=>(scope.names.lookup (N.getD i Str.empty) !=some .local&&scope.names.lookup (N.getD i Str.empty) !=some .cell)||js.contains i
theorem jx {X:Cx}{scope:Scope}{js:List Nat}(h:Ci X.N X.env.scope.names scope js=true):BlockOk X scope js:=by
 unfold Ci at h;simp only [T5] at h;obtain⟨⟨⟨⟨h1,h2⟩,h3⟩,h4⟩,h5⟩:=h;refine⟨eq_of_beq h1,λp hp e=> ?_,λp hp e=> ?_,λp hp e=> ?_,λi x e1 e2=> ?_⟩
 ·have:=M8.mp h3 p hp;rw [e] at this;simpa using this
 ·have:=M8.mp h2 p hp;rw [e] at this;simpa using this
 ·have:=M8.mp h4 p hp;rw [e] at this;simpa using this
 ·have hi:i<X.N.length:=(P0.mp e1).1;have:=M8.mp h5 i (D6.mpr hi);rw [R6,e1,Option.getD_some] at this;rcases e2 with e2|e2<;>(rw [e2] at this;simpa using this)
theorem qpt {X:Cx}{e:Expr}{t:TTD}(h:QW X e t):QT X e t:=h.pt
theorem DM {i:Nat}{js:List Nat}{ti:TID}{te:TED}{σ:SD}{h h1:HD}{Q:KD}{ds:List D}{j:ItD}(f:D->D)(hz:ds.length<=sizeLine)(hj:j h1=some ds)
 (ht: ∀R:ItD->HD->Prop,R j h1->ti σ h R)(he: ∀d∈ds,∀Q':KD,Q' (f d) h1->te ((jP js σ).set i (some d)) h1 Q')(hq: ∀p,h1 p=none->Q (.lst p) (zB h1 p (ds.map f))):Zy (bN i) js ti Xm te σ h Q:=by
 refine ht _ ⟨ds.length,λk ys h'=>h'=h1/\ys=(ds.take k).map f,⟨rfl,by simp⟩,?_⟩;rintro k ys h' ⟨rfl,rfl⟩;refine⟨by simp only [G0,D8];omega,ds,hj,G5 _,λhl p hp=> ?_,λd hd=>⟨_,rfl,?_⟩⟩
 ·rw [D9 hl];exact hq p hp
 ·unfold Xm;dsimp only;rw [if_pos rfl];refine he d (G9 hd) _ ⟨h',Sub.refl _,rfl,?_⟩;rw [F4,hd];simp
end L2
namespace HT
open PySem PySem.Spec PyProof.Rows
section
variable {prog:Program}{w:World}{A:Around}{E:Value->Shared->Prop}{s:Shared}
theorem va {t sl:Addr}{items:Array Value}{vl vu:Value}{lo hi:Option Int}{Q:Value->Shared->Prop}(ht:IsTup s.heap t items)(hs:s.heap.IsSliceOf sl vl vu .none)(pl:IsPart vl lo)(pu:IsPart vu hi)
 (hw:sIx items.size 0 lo=0/\sIx items.size items.size hi=items.size)(h:Q (.ref t) s):wpAny (model prog w) A (getItem (.ref t) (.ref sl)) Q E s:=by
 obtain⟨os,hos,hcs,hds⟩:=id hs;have hTs:s.TypeIs (.ref sl) "slice" :=⟨os,hos,hcs⟩;unfold getItem
 try with_reducible refine N4 ?_
 first|refine wpAny_bind (G3 ?_)|skip
 refine wpAny_bind (wpAny_sequenceKey ht.typeIs (by decide) ?_);refine wpAny_bind (O3 (name:=Str.ofString "__getitem__") ht.typeIs E1
  (C8 E1 ht.typeIs entry_tuple_getitem ?_ (args_tuple_getitem _ _)))
 show wpAny _ _ (Builtin.Tuple.tupleItemsOf (.ref t) >>= _) _ _ s;refine wpAny_bind (tupleItemsOf_ ht ?_);refine wpAny_bind (G1m hTs ?_);rw [if_pos (by decide)];refine wpAny_bind (ya hs pl pu ?_);have hyes:((((sIx items.size 0 lo:Nat):Int)==0&&(1:Int)==1&&(sIx items.size items.size hi-sIx items.size 0 lo)==items.size)=true):=by
  rw [hw.1,hw.2];simp
 show wpAny _ _ (if (((sIx items.size 0 lo:Nat):Int)==0&&(1:Int)==1&&(sIx items.size items.size hi-sIx items.size 0 lo)==items.size)=true then _ else _) _ _ s;rw [if_pos hyes];refine wpAny_bind (m:=Builtin.Tuple.tupleIsExact (.ref t)) ?_;unfold Builtin.Tuple.tupleIsExact;refine wpAny_bind (G1m ht.typeIs (G3 ?_));rw [if_pos (by decide)];exact wpAny_bind (G0y (G3 ⟨_,rfl,G3 h⟩))
end
end HT
namespace L2
open PySem PySem.Spec PyProof.Rows
def kj (K:PySem.W.Frag):V->Option Int->Option Int->Hp->VK->Prop:=λx lo hi H Q=> ∃a xs,x= .ref a/\SqT K H a xs/\(HT.sIx xs.length 0 lo=0/\HT.sIx xs.length xs.length hi=xs.length)/\Q (.ref a) H
variable {X:Cx}
theorem sl_whole:SlR X (kj X.K):=by
 intro pins s σ H x v vl vu lo hi sl Q I rx hs pl pu h;obtain⟨a,xs,rfl,hx,hw,q⟩:=h;cases rx;obtain⟨its,r,ht,hz⟩:=I.tuple hx;have hlen:its.toArray.size=xs.length:=by rw [D3];exact r.length.symm
 refine⟨"tuple",_,PyProof.Rows.slot_tuple_getitem.lookup,ht.typeIs,?_⟩;exact HT.va ht hs pl pu (by rw [hlen];exact hw) ⟨.ref a,H,I,rfl,q⟩
def GD {α:Type}(xs:List α)(lo hi:Option Int):List α:=(xs.drop (HT.sIx xs.length 0 lo)).take (HT.sIx xs.length xs.length hi-HT.sIx xs.length 0 lo)
abbrev TOD:=SD->HD->(Option Int->HD->Prop)->Prop
def Eu (t:TED):TOD:=λσ h Q=>t σ h λx h1=> ∃i,x= .int i/\Q (some i) h1
def LO (K:PySem.W.Frag)(t:TOD):TO:=λσ H Q=> ∃σd h Qd,RelS K H σd σ/\RelH K h H/\t σd h Qd/\ ∀o h' H',Kept H H'->RelH K h' H'->Qd o h'->Q o H'
theorem LO.bind {K:PySem.W.Frag}{ta:TOD}{σ:St}{H:Hp}{σd:SD}{h:HD}{kd:Option Int->HD->Prop}{k:Option Int->Hp->Prop}(rs:RelS K H σd σ)(rh:RelH K h H)(t:ta σd h kd)(f: ∀o h' H',Kept H H'->RelS K H' σd σ->RelH K h' H'->kd o h'->k o H'):LO K ta σ H k:=
 ⟨σd,h,kd,rs,rh,t,λo h' H' kp r1 q=>f o h' H' kp (rs.mono kp) r1 q⟩
theorem PO.imp {e:Option Expr}{t t':TO}(h:PO X e t)(i: ∀σ H Q,t' σ H Q->t σ H Q):PO X e t':=λpins s σ H Q I q=>h pins s σ H Q I (i σ H Q q)
abbrev QO (X:Cx)(e:Option Expr)(t:TOD):Prop:=PO X e (LO X.K t)
theorem FR {e:Expr}{te:TED}(he:QE X e te):QO X (some e) (Eu te):=(Fm he).imp λσ H Q ⟨σd,h,Qd,rs,rh,q,p⟩=>
 LE.bind rs rh q λd v h1 H1 k1 rs1 rh1 r1 ⟨i,e,q1⟩=>by subst e;exact⟨i,r1,p _ _ _ k1 rh1 q1⟩
def slD:D->Option Int->Option Int->HD->KD->Prop:=λx lo hi h Q=>match x with
 | .tup ds=>Q (.tup (GD ds lo hi)) h
 | .scr ns=> ∀p,h p=none->Q (.lst p) (zB h p ((GD ns lo hi).map D.int))
 | .lst a=> ∃ds,h a=some ds/\ ∀p,h p=none->Q (.lst p) (zB h p (GD ds lo hi))
 |_=>False
def dSl (te:TED)(tl th:TOD):TED:=λσ h Q=>te σ h λx h1=>tl σ h1 λl h2=>th σ h2 λu h3=>slD x l u h3 Q
theorem Yy {K:PySem.W.Frag}{H:Hp}{ds:List D}{vs:List V}(r:RelDs K H ds vs)(lo hi:Option Int):RelDs K H (GD ds lo hi) (MN vs lo hi):=by
 unfold GD MN;rw [r.length];exact(r.drop _).take _
theorem FS {α β:Type}(f:α->β)(xs:List α)(lo hi:Option Int):GD (xs.map f) lo hi=(GD xs lo hi).map f:=by
 unfold GD;rw [G0,G1L,G1M]
theorem Ev {e:Expr}{te:TED}{lo hi:Option Expr}{tl th:TOD}{pos p2:Pos}(he:QE X e te)(hl:QO X lo tl)(hu:QO X hi th):QE X (.Subscript e (.Slice lo hi none p2) pos) (dSl te tl th):=
 (Nn (sl_tup.or (sl_whole.or Fn)) he hl hu).imp λσ H Q ⟨σd,h,Qd,rs,rh,q,p⟩=>
  LE.bind rs rh q λd v h1 H1 k1 rs1 rh1 r1 q1=>LO.bind rs1 rh1 q1 λl h2 H2 k2 rs2 rh2 q2=>LO.bind rs2 rh2 q2 λu h3 H3 k3 rs3 rh3 q3=>by
   have rv:=(r1.mono k2).mono k3;have kk:=k1.trans (k2.trans k3);cases d<;>first
    |exact False.elim q3
    |skip
   ·rename_i ds;obtain⟨a,vs,e1,hH,r⟩:=(show ∃a vs,v= .ref a/\H3 a=some (.tup vs)/\RelDs X.K H3 ds vs from rv)
    by_cases hw:HT.sIx vs.length 0 l=0/\HT.sIx vs.length vs.length u=vs.length
    ·refine .inr (.inl ⟨a,vs,e1,SqT.of hH,hw,p (.tup (GD ds l u)) _ _ _ kk rh3 ⟨a,vs,rfl,hH,?_⟩ q3⟩);have z:=Yy r l u;have e:MN vs l u=vs:=by unfold MN;rw [hw.1,hw.2];simp
     rwa [e] at z
    ·exact .inl ⟨a,vs,e1,SqT.of hH,hw,λc hc=>p (.tup (GD ds l u)) _ _ _ (kk.trans (.new hc)) (rh3.new hc) ⟨c,_,rfl,jp,(Yy r l u).mono (.new hc)⟩ q3⟩
   ·rename_i a;obtain⟨ds,hd,q3⟩:=q3;obtain⟨vs,hH,r⟩:=rh3 a ds hd;exact .inr (.inr ⟨a,vs,rv.1,SqL.of hH,λc hc=>p (.lst c) _ _ _ (kk.trans (.new hc)) (rh3.newL hc (Yy r l u)) ⟨rfl,_,jp⟩ (q3 c (rh3.free hc))⟩)
   ·rename_i ns;obtain⟨a,e1,hS⟩:=(show ∃a,v= .ref a/\Scr X.K H3 a ns from rv);refine .inr (.inr ⟨a,_,e1,hS.sq,λc hc=>p (.lst c) _ _ _ (kk.trans (.new hc)) (rh3.newL hc ?_) ⟨rfl,_,jp⟩ (q3 c (rh3.free hc))⟩);have z:=Yy (wF (K:=X.K) (H:=H3) ns) l u
    rwa [FS] at z
end L2
namespace HT
open PySem PySem.Spec PyProof.Rows
open Sem (wp)
open Builtin
theorem JM:fillsNumberSlot (.type "tuple") "mul" =pure false:=
 PySem.fillsNumberSlot_seq (id:= "tuple.__mul__") (r:=some (.builtin "tuple.__rmul__")) F.slot_tuple_mul.lookup (by decide +kernel) F.slot_tuple_rmul.lookup (by decide +kernel)
theorem VN:seqRepeat? (.type "tuple")=pure (some (.builtin "tuple.__mul__")):=by
 unfold seqRepeat?;rw [PySem.seqSlot_of (T:= "tuple") (name:= "__mul__") (id:= "tuple.__mul__") F.slot_tuple_mul.lookup (by decide +kernel),PySem.seqSlot_of (T:= "tuple") (name:= "__rmul__") (id:= "tuple.__rmul__") F.slot_tuple_rmul.lookup (by decide +kernel)];rfl
section
variable {prog:Program}{w:World}{A:Around}{E:Value->Shared->Prop}{s:Shared}
theorem Yz {k:Int}{t:Tok}{l:Addr}{o:Obj}{its:Array Value}{n:Nat}{P:PySem.Fin->Shared->Prop}(at_:s.heap.get? l=some o)(tup:o.cls= .type "tuple")(dat:o.data= .seq its n)(h:P (.done (.ret .notImplemented)) s):wpAny (model prog w) A (Builtin.«int.__rmul__» ⟨[.int k t,.ref l],[]⟩) P E s:=by
 obtain⟨c,dd,dt,sl⟩:=o;cases tup;cases dat;obtain⟨hp,g,d,tk,os⟩:=s
 wp_walk
 exact h
theorem Xo {l:Addr}{its:Array Value}{n:Nat}{x:Int}{u:Tok}{dd:Option Addr}{sl:Array (Option Value)}{P:PySem.Fin->Shared->Prop}(at_:s.heap.get? l=some {cls:= .type "tuple",dict:=dd,data:= .seq its n,slots:=sl})(fits: -(2^63)<=x/\x<2^63)
 (same:(its.isEmpty||x==1)=true->P (.done (.ret (.ref l))) s)
 (gone:(its.isEmpty||x==1)=false->(decide (x<=0)||its.isEmpty)=true->P (.done (.ret (.ref s.heap.objs.size))) {s with heap:=s.heap.push {cls:= .type "tuple",data:= .seq #[]}})
 (more:(its.isEmpty||x==1)=false->(decide (x<=0)||its.isEmpty)=false-> ¬ (its.size:Int)*x>(2^63-1) / 8/\Builtin.Tuple.tupleTooMany ((its.size:Int)*x)=false/\((List.replicate x.toNat its).foldl (· ++ ·) #[]).size<=sizeLine/\
  P (.done (.ret (.ref s.heap.objs.size))) {s with heap:=s.heap.push {cls:= .type "tuple",data:= .seq ((List.replicate x.toNat its).foldl (· ++ ·) #[])}}):
 wpAny (model prog w) A (Builtin.«tuple.__mul__» ⟨[.ref l,.int x u],[]⟩) P E s:=by
 obtain⟨hp,g,d,tk,os⟩:=s
 wp_walk
 rw [if_neg (by simp only [U6,E3];omega)]
 wp_walk
 cases c1:(its.isEmpty||x==1) with
 |true=>
  rw [if_pos rfl]
  wp_walk
  exact same c1
 |false=>
  rw [if_neg P5];cases c2:(decide (x<=0)||its.isEmpty) with
  |true=>
   rw [if_pos rfl]
   wp_walk
   exact gone c1 c2
  |false=>
   obtain⟨m1,m2,m3,m4⟩:=more c1 c2;rw [if_neg P5];dsimp only;rw [if_neg m1,m2,if_neg P5]
   wp_walk
   exact m4
end
end HT
namespace L2
open PySem PySem.Spec PyProof.Rows
def Hk (K:PySem.W.Frag):R2:=λx y H Q=> ∃ (a:Addr) (k:Int) (xs:List V),x= .ref a/\y= .int k/\SqT K H a xs/\ -(2^63)<=k/\k<2^63/\xs.length*k.toNat<=sizeLine/\
 ((xs= []\/k=1)->Q (.ref a) H)/\(¬ (xs= []\/k=1)-> ∀p,H p=none->Q (.ref p) (upd H p (.tup (List.replicate k.toNat xs).flatten)))
theorem JY {l:List Value}:l.toArray= #[]↔l= []:=by cases l<;>simp
variable {X:Cx}
theorem FT:OpR X (binaryOp .Mult) (Hk X.K):=by
 intro pins s σ H x y v u Q I rx ry h;obtain⟨a,k,xs,rfl,rfl,hH,h1,h2,hz,q1,q2⟩:=h;cases rx;obtain⟨t,rfl⟩:=ry;obtain⟨its,r,ht,_⟩:=I.tuple hH;obtain⟨⟨cls,dd,data,sl⟩,ho,hc,n,hd⟩:=id ht;simp only at hc hd;subst hc hd;have hl:=r.length;have hnew:(List.replicate k.toNat its.toArray).foldl (· ++ ·) #[]=(List.replicate k.toNat its).flatten.toArray:=by
  have:=Zp its k.toNat [];rw [B2] at this;exact this
 have few:its.length*k.toNat<=sizeLine:=by rw [<-hl];exact hz
 have free:=I.hok.fresh (G5 _);refine G0T (T:= "tuple") (U:= "int") (by decide) ⟨_,ho,rfl⟩ (λs'=>G1s s' k t) HT.JM F.fills_int_mul G0D HT.VN F.slot_int_index.lookup
  (C8 G0D (G1s s k t) F.entry_int_rmul (HT.Yz ho rfl rfl ⟨_,rfl,rfl,⟨_,ho,rfl⟩,C8 F.slot_tuple_mul ⟨_,ho,rfl⟩ F.entry_tuple_mul (HT.Xo ho ⟨h1,h2⟩ (λc=> ?_) (λc c0=> ?_) (λc c0=> ?_)) (F.args_tuple_mul_2 _ _)⟩) (F.args_int_rmul_2 _ _))
 ·refine⟨_,rfl,.ref a,H,I,rfl,q1 ?_⟩;simp only [U6,V5,Array.isEmpty_iff,JY] at c;exact c.imp (λe=>r.nil_iff.mp e) id
 ·simp only [G1u,G0A,G0K,ne_eq,JY] at c;have k0:k.toNat=0:=by
   simp only [U6,E3,Array.isEmpty_iff,JY] at c0;have:=c0.resolve_right c.1;omega
  have last:=q2 (λz=>z.elim (λe=>c.1 (r.nil_iff.mpr e)) c.2) _ free;rw [k0] at last;exact⟨_,rfl,.ref s.heap.objs.size,_,I.laid (t':=s.toks) (o:= .tup []) (λb ob q=>G1 _ q) (G5 _) ⟨by decide,[],.nil,IsTupN.new _ _⟩,rfl,last⟩
 ·simp only [G1u,G0A,G0K,ne_eq,JY,Z6] at c c0;have em:((its.toArray.size:Nat):Int)*k=((its.length*k.toNat:Nat):Int):=by rw [Int.natCast_mul,D3,show ((k.toNat:Nat):Int)=k by omega]
  have cap:(sizeLine:Nat)<=(2^63-1) / 8:=by decide
  rw [em,hnew];refine⟨by omega,by unfold Builtin.Tuple.tupleTooMany;exact decide_eq_false (by omega),by rw [List.size_toArray,Xl,Nat.mul_comm];exact few,_,rfl,.ref s.heap.objs.size,_,I.laid (t':=s.toks) (o:= .tup (List.replicate k.toNat xs).flatten) (λb ob q=>Heap.get?_push_of_some _ q) (Nat.le_refl _) ⟨by rw [Xl,Nat.mul_comm];exact hz,_,r.rep k.toNat,IsTupN.new _ _⟩,rfl,q2 (λz=>z.elim (λe=>c.1 (r.nil_iff.mpr e)) c.2) _ free⟩
def Kl:RD2:=λx y h Q=>match x,y with
 | .tup ds,.int k=> -(2^63)<=k/\k<2^63/\ds.length*k.toNat<=sizeLine/\Q (.tup (List.replicate k.toNat ds).flatten) h
 |x,y=>Ki x y h Q
theorem YA:OpQ X (binaryOp .Mult) Kl:=(oq_mul.or FT).imp λx y H Q ⟨dx,dy,h,Qd,rx,ry,rh,q,p⟩=>by
 by_cases ht: ∃ds k,dx= .tup ds/\dy= .int k
 ·obtain⟨ds,k,e1,e2⟩:=ht;subst e1 e2;obtain⟨b1,b2,hz,q⟩:=q;obtain⟨a,vs,e,hH,r⟩:=(show ∃a vs,x= .ref a/\H a=some (.tup vs)/\RelDs X.K H ds vs from rx);refine .inr ⟨a,k,vs,e,ry,SqT.of hH,b1,b2,by rw [<-r.length];exact hz,λhs=> ?_,λ_ c hc=>p (.tup _) _ _ _ (.new hc) (rh.new hc) ⟨c,_,rfl,jp,(r.flat _).mono (.new hc)⟩ q⟩;refine p (.tup _) _ _ _ (.refl H) rh ⟨a,vs,rfl,hH,?_⟩ q;rcases hs with e0|e1
  ·subst e0;have:ds= []:=V1.mp r.length;subst this;simpa using r
  ·subst e1;simpa using r
 ·refine .inl ⟨dx,dy,h,Qd,rx,ry,rh,?_,p⟩;unfold Kl at q;split at q
  ·exact absurd ⟨_,_,rfl,rfl⟩ ht
  ·exact q
def Km:D->HD->KD->Prop:=λx h Q=>match x with
 | .int i=>Q (.int (-i)) h
 |_=>False
def dUn (f:D->HD->KD->Prop)(ta:TED):TED:=λσ h Q=>ta σ h λx h1=>f x h1 Q
theorem km {a:Expr}{ta:TED}{pos:Pos}(ha:QE X a ta):QE X (.UnaryOp .USub a pos) (dUn Km ta):=
 (Tp Aw ha).imp λσ H Q ⟨σd,h,Qd,rs,rh,t,p⟩=>LE.bind rs rh t λd v h1 H1 k1 rs1 rh1 r1 q=>by
  cases d<;>first
   |exact False.elim q
   |exact⟨_,r1,p (.int _) _ _ _ k1 rh1 rfl q⟩
def Ew (K:PySem.W.Frag)(tl:TE):TI:=λσ H R=>tl σ H λx H1=> ∃a,x= .ref a/\((∃xs,SqL K H1 a xs/\R (Itl K a) H1)\/ ∃xs,SqT K H1 a xs/\R (Itt K a) H1)
theorem Ey {tg l:Expr}{tl:TE}(hl:PE X l tl):PI X tg l (Ew X.K tl):=by
 intro pins s σ H R I h;refine thn (hl pins s σ H _ I h) λv s1 ⟨x,H1,I1,r1,q1⟩=> ?_
 obtain⟨a,e,q⟩:=q1;subst e;cases r1;rcases q with ⟨xs,hq,q⟩|⟨xs,hq,q⟩
 ·obtain⟨its,rv,p,hz⟩:=I1.list hq;refine U2 p.isList ?_;refine⟨s1.heap.objs.size,[s1.heap.objs.size],_,_,H1,rfl,I1.kept (t':=s1.toks) λb o e=>G1 _ e,VB a _,⟨_,D0 _ rfl,rfl,rfl⟩,λb hb=> ?_,q⟩;have e:b=s1.heap.objs.size:=by simpa using hb
  subst e;exact I1.fpOk (G5 _) (I1.hok.fresh (G5 _))
 ·obtain⟨its,rv,p,hz⟩:=I1.tuple hq;refine Q1 (show s1.heap.IsTuple a its.toArray from p) ?_;refine⟨s1.heap.objs.size,[s1.heap.objs.size],_,_,H1,rfl,I1.kept (t':=s1.toks) λb o e=>G1 _ e,Gt a _,⟨_,D0 _ rfl,rfl,rfl⟩,λb hb=> ?_,q⟩;have e:b=s1.heap.objs.size:=by simpa using hb
  subst e;exact I1.fpOk (G5 _) (I1.hok.fresh (G5 _))
def iS (te:TED):TID:=λσ h R=>te σ h λx h1=>match x with
 | .lst a=>R (λh=>h a) h1
 | .tup ds=>R (λ_=>some ds) h1
 | .scr ns=>R (λ_=>some (ns.map D.int)) h1
 |_=>False
variable {K:PySem.W.Frag}
theorem NA {H:Hp}{a:Addr}{ns:List Int}(hs:Scr K H a ns):OJ K H (λ_=>some (ns.map D.int)) (Itl K a):=λH' h' k rh ds' e i=>by
 cases e;have hs':Scr K H' a ns:=hs.elim (λ⟨o,z⟩=> .inl ⟨o,k.frz _ _ _ z⟩) .inr;refine⟨λd hd=> ?_,λhl=>⟨_,hs'.sq,by simpa using hl⟩⟩;obtain⟨v,e1,e2⟩:=(wF (K:=K) (H:=H') ns).get hd;refine⟨⟨_,v,hs'.sq,e1⟩,λx H'' ⟨eH,hx⟩=> ?_⟩;subst eH;have:=hx _ hs'.sq;rw [e1] at this;cases this;exact⟨.refl _,rh,e2⟩
variable {te:TED}
theorem Ez: ∀σ H R,LI K (iS te) σ H R->Ew K (LE K te) σ H R:=λσ H R ⟨σd,h,Rd,rs,rh,q,p⟩=>
 LE.bind rs rh q λd v h1 H1 k1 rs1 rh1 r1 q1=>by
  cases d<;>first
   |exact False.elim q1
   |skip
  ·rename_i ds;obtain⟨a,vs,e,hv,r⟩:=(show ∃a vs,v= .ref a/\H1 a=some (.tup vs)/\RelDs K H1 ds vs from r1);exact⟨a,e,.inr ⟨vs,SqT.of hv,p _ _ _ _ k1 rh1 (Ny hv r) q1⟩⟩
  ·rename_i a;obtain⟨e,vs,hv⟩:=(show v= .ref a/\ ∃vs,H1 a=some (.lst vs) from r1);exact⟨a,e,.inl ⟨vs,SqL.of hv,p _ _ _ _ k1 rh1 (VL H1 a) q1⟩⟩
  ·rename_i ns;obtain⟨a,e,hS⟩:=(show ∃a,v= .ref a/\Scr K H1 a ns from r1);exact⟨a,e,.inl ⟨_,hS.sq,p _ _ _ _ k1 rh1 (NA hS) q1⟩⟩
theorem EA {tg e:Expr}(he:QE X e te):QI X tg e (iS te):=(Ey he).imp Ez
def Cj:TSD:=λ_ _ _=>False
theorem EB {st:Stmt}:QS X st Cj:=λ_ _ _ _ _ _ ⟨_,_,_,_,_,z,_⟩=>z.elim
structure Zs (mg:Str->Option Value):Prop where
 len:mg "len" =none
 max:mg "max" =none
 min:mg "min" =none
 divmod:mg "divmod" =none
 all:mg "all" =none
 any:mg "any" =none
 repr:mg "repr" =none
 sum:mg "sum" =none
 sorted:mg "sorted" =none
 int:mg "int" =none
 tuple:mg "tuple" =none
 list:mg "list" =none
 set:mg "set" =none
 bool:mg "bool" =none
 isinstance:mg "isinstance" =none
 range:mg "range" =none
 zip:mg "zip" =none
 enumerate:mg "enumerate" =none
 reversed:mg "reversed" =none
def jJ (P:Program)(w:World)(K:PySem.W.Frag)(mg:Str->Option Value)(base:Heap)(n:Nat)(x:Str)(ps:List Str)(sp:RDn):Prop:=
 ∃ (g:Addr) (gd:FuncData),FnOk P w K mg base CX0 n g gd ps (LSp K sp)/\Binds K gd ps []/\PySem.W.keepIn K (.ref g)=true/\mg x=some (.ref g)
def DN:RDn:=λds h Q=> ∃ns,ds= [.scr ns]/\(∀a,h a=none)/\ns.length<=63/\ ∀h',Q (.bl true) h'
def Bm (mg:Str->Option Value)(base:Heap):Prop:= ∃bm ob,mg "__builtins__" =some (.ref bm)/\bm≠builtinsNs/\base.get? bm=some ob/\ob.cls= .type "module" /\ob.dict=some builtinsNs/\ob.data= .plain
def wo (K:PySem.W.Frag):List (Addr×Addr):=LN.filterMap (PySem.W.tabIn K)
theorem TabK.mem {P:Addr}(h:TabK K P): ∃c,(c,P)∈wo K:=let ⟨x,hx,c,e⟩:=h;⟨c,K9.mpr ⟨x,hx,e⟩⟩
theorem DO {P:Program}{w:World}{mg mb:Str->Option Value}{k:Nat}{fa a:Addr}{fd:FuncData}{x:Str}{s₁:Shared}{vs:List Value}{ns:List Int}
 (KX:K.In s₁.heap)(hns:s₁.heap.Ns mainGlobals mg)(hb:s₁.heap.Ns builtinsNs mb)(hbb: ∀x:Str,x≠ "__name__" ->mb x=bootBuiltins x)(hlim:s₁.heap.NoLimit)(hg:s₁.gens= #[])
 (ha:s₁.heap.get? a=some {cls:= .type "list",data:= .seq vs.toArray})(hi:IntsAre vs ns)(hl:ns.length<=63)(hr:Room k callerA)
 (hbm:Bm mg s₁.heap)(F: ∀base:Heap,K.In base->base.Ns mainGlobals mg->Bm mg base->FnOk P w K mg base CX0 k fa fd [x] (LSp K DN))(hbind: ∀ (s:Shared) (u:Value),BindsTo s fd ⟨[u],[]⟩ [(x,u)])
 (hT: ∀p∈wo K,PySem.W.CodeHd s₁.heap p.1 p.2/\s₁.heap.get? p.2=some (PySem.W.tabObj #[])/\K.lookup p.2=none):
 codeAny (model P w) callerA (.call (.ref fa) ⟨[.ref a],[]⟩) (λr s'=>r= .ok (.ret (.bool true))/\OldK s₁.heap s'.heap/\s'.os=s₁.os/\AllBare s'.gens) s₁:=by
 have rv:=VH hi;have lenV:=hi.length;have hz:ns.length<=sizeLine:=P7 hl (by decide);have hT': ∀b,b∈(wo K).map (·.2)-> ∃c,PySem.W.CodeHd s₁.heap c b/\s₁.heap.get? b=some (PySem.W.tabObj #[])/\K.lookup b=none:=λb hb=>by
  obtain⟨p,hp,rfl⟩:=R7.mp hb;exact⟨p.1,hT p hp⟩
 have core: ∀H:Hp,Scr K H a ns->HOk P w H s₁.heap->(∀b u,H b=some u->(b=a/\K.lookup a=none/\ ∃o xs,u= .frz o (.lst xs))\/(b∈(wo K).map (·.2)/\u= .tbl #[]))->(∀b,b∈(wo K).map (·.2)->H b=some (.tbl #[]))->
  codeAny (model P w) callerA (.call (.ref fa) ⟨[.ref a],[]⟩) (λr s'=>r= .ok (.ret (.bool true))/\OldK s₁.heap s'.heap/\s'.os=s₁.os/\AllBare s'.gens) s₁:=by
  intro H hS hok hA hTt;have noA: ∀ {b:Addr} {o:Obj} {es:Array DictEntry} {ep:Nat},s₁.heap.get? b=some o->o.data= .dict es ep->H b=none:=λ{b o es ep} e d=>by
   cases q:H b with
   |none=>rfl
   |some u=>
    rcases hA b u q with ⟨rfl,_,_⟩|⟨z,_⟩
    ·rw [ha] at e;cases e;have d':Data.seq vs.toArray _=Data.dict es ep:=d;cases d'
    ·obtain⟨c,_,e2,_⟩:=hT' b z;rw [e2] at e;cases e;have d':Data.fields _=Data.dict es ep:=d;cases d'
  have nsK: ∀ {b:Addr} {m:Str->Option Value},s₁.heap.Ns b m->(Nd s₁.heap H).Ns b m:=λ{b m} ⟨o,es,ep,e,d,r⟩=>⟨o,es,ep,Yo e (noA e d),d,r⟩
  have hKb:K.In (Nd s₁.heap H):=λb o e=>Yo (KX b o e) (by
   cases q:H b with
   |none=>rfl
   |some u=>
    rcases hA b u q with ⟨rfl,z,_⟩|⟨z,_⟩
    ·rw [z] at e;cases e
    ·obtain⟨c,_,_,z2⟩:=hT' b z;rw [z2] at e;cases e)
  have hM:Mod K mg (Nd s₁.heap H):=⟨hKb,nsK hns,⟨mb,nsK hb,hbb⟩,let ⟨mc,h1,h2⟩:=hlim;⟨mc,nsK h1,h2⟩⟩;have e0:Env0 P w K mg (Nd s₁.heap H) callerA [] s₁ H:=⟨rfl,hM,λb o e=>CV e,Q0 (Db _ _),trivial,λb hb=>absurd (show b∈([]:List Addr) from hb) (by simp),hok,.of_eq hg⟩;have hsp:LSp K DN [.ref a] H (λv _=>v= .bl true) (λ_ _ _=>False):=by
   refine⟨[.scr ns],λ_=>none,λd _=>d= .bl true,⟨.ref a,[],rfl,⟨a,rfl,hS⟩,rfl⟩,⟨λb ds e=>(by cases e),λp hp=> ?_⟩,⟨ns,rfl,λ_=>rfl,hl,λ_=>rfl⟩,?_⟩
   ·obtain⟨c,hc⟩:=hp.mem;exact⟨#[],hTt p (X8 (f:=(·.2)) hc),trivial,λpos cv e=>(by cases e)⟩
   ·intro d v h' H' _ _ r e;subst e;exact r
  have hBm:Bm mg (Nd s₁.heap H):=by
   obtain⟨bm,ob,b1,b2,b3,b4,r⟩:=hbm;refine⟨bm,ob,b1,b2,Yo b3 ?_,b4,r⟩;cases q:H bm with
   |none=>rfl
   |some u=>
    rcases hA bm u q with ⟨rfl,_,_⟩|⟨z,_⟩
    ·rw [ha] at b3;cases b3;exact absurd (Value.type.inj b4) (by decide)
    ·obtain⟨c,_,e2,_⟩:=hT' bm z;rw [e2] at b3;cases b3;cases b4
  refine W3 ((F _ hKb (nsK hns) hBm).run callerA [] s₁ H ⟨[.ref a],[]⟩ [.ref a] [.ref a] _ _ hr e0 (hbind s₁ (.ref a)) (.cons rfl .nil) hsp) λr s' h=> ?_
  cases r with
  |error e=>exact False.elim h
  |ok fl=>
   cases fl with
   |next=>exact False.elim h
   |brk=>exact False.elim h
   |cont=>exact False.elim h
   |ret u=>
    obtain⟨v,H',os,bare,un,hok',r',q⟩:=h;have q':v= .bl true:=q;subst q';obtain rfl:u=Value.bool true:=r';have one: ∀b o,s₁.heap.get? b=some o->s'.heap.get? b=some o\/(b∈(wo K).map (·.2)/\ ∃more,s'.heap.get? b=some (PySem.W.tabObj more)):=λb o e=>by
     cases q:H b with
     |none=>exact .inl (un.keep b o e q (by intro z;exact absurd (show b∈([]:List Addr) from z) (by simp)) (by simp))
     |some u=>
      rcases hA b u q with ⟨rfl,_,ob,xs,rfl⟩|⟨z,rfl⟩
      ·have z2:=un.frzs _ ob _ q;obtain⟨e1,_⟩:=hok _ _ q;obtain⟨e2,_⟩:=hok' _ _ z2;rw [e] at e1;cases e1;exact .inl e2
      ·obtain⟨more,z2⟩:=un.tbls b _ q;exact .inr ⟨z,_,(show s'.heap.get? b=some _ from hok' b _ z2)⟩
    refine⟨rfl,⟨λb o e=> ?_,λb o e=> ?_⟩,os,bare⟩
    ·rcases one b o e with z|⟨z,more,z2⟩
     ·exact .inl z
     ·obtain⟨c,hc,e2,_⟩:=hT' b z;rw [e] at e2;cases e2;refine .inr (.inl ⟨(hc.tab e).isCodeTable,rfl,#[],more,rfl,?_⟩);rw [z2];simp
    ·rcases one b o e with z|⟨z,more,z2⟩
     ·exact⟨_,z⟩
     ·exact⟨_,z2⟩
 have nT:a ∉ (wo K).map (·.2):=λz=>by
  obtain⟨c,_,e2,_⟩:=hT' a z;rw [ha] at e2;cases e2
 have okT: ∀ {H:Hp} (b:Addr),b∈(wo K).map (·.2)->ObjOk P w H s₁.heap b (.tbl #[]):=λb hb=>let ⟨_,_,e,_⟩:=hT' b hb;e
 cases hk:K.lookup a with
 |some o=>
  have e:=KX a o hk;rw [ha] at e;cases e;refine core (λb=>if b∈(wo K).map (·.2) then some (.tbl #[]) else none) (.inr ⟨_,vs.toArray,_,hk,rfl,rfl,rfl,by rw [D3,lenV];exact hz,by simpa using rv⟩) (λb u z=> ?_) (λb u z=> ?_) λb hb=>if_pos hb
  ·by_cases hb:b∈(wo K).map (·.2)
   ·have z':=(if_pos hb).symm.trans z;cases z';exact okT b hb
   ·have z':=(if_neg hb).symm.trans z;cases z'
  ·by_cases hb:b∈(wo K).map (·.2)
   ·have z':=(if_pos hb).symm.trans z;cases z';exact .inr ⟨hb,rfl⟩
   ·have z':=(if_neg hb).symm.trans z;cases z'
 |none=>
  refine core (λb=>if b=a then some (.frz {cls:= .type "list",data:= .seq vs.toArray} (.lst (ns.map V.int))) else if b∈(wo K).map (·.2) then some (.tbl #[]) else none) (.inl ⟨{cls:= .type "list",data:= .seq vs.toArray},if_pos rfl⟩) (λb u z=> ?_) (λb u z=> ?_) λb hb=> ?_
  ·by_cases hb:b=a
   ·have z':=(if_pos hb).symm.trans z;cases z';subst hb;exact⟨ha,by rw [G0];exact hz,vs,_,rv,ha⟩
   ·have z':=(if_neg hb).symm.trans z
    by_cases hb2:b∈(wo K).map (·.2)
    ·have z2:=(if_pos hb2).symm.trans z';cases z2;exact okT b hb2
    ·have z2:=(if_neg hb2).symm.trans z';cases z2
  ·by_cases hb:b=a
   ·have z':=(if_pos hb).symm.trans z;cases z';exact .inl ⟨hb,hk,_,_,rfl⟩
   ·have z':=(if_neg hb).symm.trans z
    by_cases hb2:b∈(wo K).map (·.2)
    ·have z2:=(if_pos hb2).symm.trans z';cases z2;exact .inr ⟨hb2,rfl⟩
    ·have z2:=(if_neg hb2).symm.trans z';cases z2
  ·have:b≠a:=λz=>nT (z ▸ hb)
   show (if b=a then _ else _)=_;rw [if_neg this,if_pos hb]
def Hl (q:Program)(K:PySem.W.Frag):Bool:=LN.all λx=>match PySem.W.tabIn K x with
 |some p=>(K.lookup p.2).isNone&&((PyProof.Rows.recsOf q).find? (λe=>e.name==x)).isSome
 |none=>true
theorem NB {l:PySem.W.OpenLaw}{k:Nat}{q:Program}{loose:List Str}{XP:(Str->Option Value)->Heap->Prop}{YP:World->Heap->Prop}{d:DefRec}{K:Params->PySem.W.Frag}{x:Str}(hn:l.most=some 63)(hdf:d.params.defaults= [])(hr:Room k callerA)
 (hY: ∀ (w:World) (h:Heap),YP w h->(K w.params).In h)(hB: ∀w:World,Hl q (K w.params)=true)
 (F: ∀ (w:World) (mg:Str->Option Value) (fa:Addr) (h:Heap),(K w.params).In h->h.Ns mainGlobals mg->mg d.name=some (.ref fa)->
  ∃fd:FuncData,(∀ (s:Shared) (u:Value),BindsTo s fd ⟨[u],[]⟩ [(x,u)])/\ ∀base:Heap,(K w.params).In base->base.Ns mainGlobals mg->Bm mg base->FnOk l.prog w (K w.params) mg base CX0 k fa fd [x] (LSp (K w.params) DN)):
 PySem.W.WalkO q loose XP YP l.row.toRowW d [] (λf vs=>PySem.call f vs):=by
 refine Att.attach_call hn hdf λw s₀ s₁ mg mb fa o pm cd doc a vs ns G Y ho hd hcd hmg hobj hints hlen hg=> ?_
 have KX:=hY w _ Y;obtain⟨fd,hb,hF⟩:=F w mg fa _ KX G.T.g hmg;refine DO KX G.T.g G.T.b G.T.builtins G.T.nolimit hg hobj hints hlen hr G.T.bmain hF hb λp hp=> ?_
 obtain⟨x,hx,e⟩:=K9.mp hp;have z:=M8.mp (hB w) x hx;rw [e] at z;simp only [T5,Option.isNone_iff_eq_none] at z;obtain⟨dd,hdd⟩:=A0.mp z.2;have t:=PySem.W.tab_of (c:=p.1) (P:=p.2) G.T KX hdd e;exact⟨t.1,t.2,z.1⟩
def Xp:Expr->Bool
 | .Starred .. =>false
 |_=>true
theorem Xq {e:Expr}{es:List Expr}{env:Env}(h:Xp e=true):starEach (e::es) env=(false,eval e env)::starEach es env:=by
 cases e<;>first|rfl|cases h
theorem qac {e:Expr}{es:List Expr}{t:TAD}(ha:QE X e te)(hr:QA X es t)(h:Xp e=true:=by rfl):QA X (e::es) (vC te t):=Fy ha hr (Xq h)
theorem Jf {α:Type}{xs:List α}{i:Int}(h0:0<=i)(h1:i<xs.length): ∃x∈xs,atI xs i=some x:=by
 have hk:i.toNat<xs.length:=by omega
 have ek:i=((i.toNat:Nat):Int):=by omega
 have z:=we (G2 hk);rw [<-ek] at z;exact⟨xs[i.toNat],N3 hk,z⟩
variable {h h':HD}{p:Addr}{L:List D}
theorem Sub.both (s:Sub h h'):Sub (zB h p L) (zB h' p L):=λa ds e=>by
 by_cases q:a=p
 ·subst q;rw [jc] at e ⊢;exact e
 ·rw [wf q] at e ⊢;exact s a ds e
theorem Sub.newAt (s:Sub h h')(e:h' p=none):Sub h (zB h' p L):=s.trans (.new e)
def But (p:Addr)(h h':HD):Prop:= ∀a ds,a≠p->h a=some ds->h' a=some ds
theorem But.refl (p:Addr)(h:HD):But p h h:=λ_ _ _ e=>e
variable {q:Addr}
theorem But.new (s:But p h h')(e:h' q=none):But p h (zB h' q L):=λa ds n z=>by
 have:=s a ds n z;rw [wf (λw=>by subst w;rw [e] at this;cases this)];exact this
theorem But.put (s:But p h h'):But p h (zB h' p L):=λa ds n z=>by rw [wf n];exact s a ds n z
theorem But.putNew (s:But p h h')(e:h q=none):But p h (zB h' q L):=λa ds n z=>by
 rw [wf (λw=>by subst w;rw [e] at z;cases z)];exact s a ds n z
theorem But.sub (s:But p h h')(e:h' p=some L):Sub (zB h p L) h':=λa ds z=>by
 by_cases q:a=p
 ·subst q;rw [jc] at z;cases z;exact e
 ·rw [wf q] at z;exact s a ds q z
theorem But.upd:But p h (zB h p L):=λa ds n z=>by rw [wf n];exact z
theorem jy (e:h p=some L)(f:h q=none):q≠p:=λz=>by subst z;rw [e] at f;cases f
theorem jg {M:List D}(e:h p=some L)(f:h q=none):zB h q M p=some L:=by rw [wf (λz=>by subst z;rw [e] at f;cases f)];exact e
theorem jj {a b:Addr}{M:List D}(n:b≠a)(e:h b=some M):zB h a L b=some M:=by rw [wf n];exact e
theorem ZA {n:Nat}{i:Nat}{d:D}(h:((List.range n).map λ(k:Nat)=>D.int (k:Int))[i]? =some d):i<n/\d= .int i:=by
 rw [P4] at h
 by_cases hi:i<n
 ·rw [O9 hi] at h;cases h;exact⟨hi,rfl⟩
 ·rw [N6 (by simpa using hi)] at h;cases h
variable {E:EndsD}{σ:SD}
theorem ji {t u:TSD}(V:SD->HD->Prop)(first: ∀K:SD->HD->Prop,(∀σ' h',V σ' h'->K σ' h')->t {E with nx:=K} σ h)(rest: ∀σ' h',V σ' h'->u E σ' h'):Nx t u E σ h:=first (u E) rest
theorem YB (b:But p h h')(e:h' q=none)(n:q≠p):h q=none:=by
 cases z:h q with
 |none=>rfl
 |some ds=>rw [b q ds n z] at e;cases e
def Nxt (E:EndsD)(V:SD->HD->Prop):EndsD:= {E with nx:=λσ3 h3=> ∃h4,Sub h4 h3/\V σ3 h4,ct:=λσ3 h3=> ∃h4,Sub h4 h3/\V σ3 h4,bk:=E.nx}
variable {h1:HD}
theorem zR {ta:TAD}{g:TGD}{tb:TSD}(n:Nat)(W:Nat->SD->HD->Prop)(hn:n<1000000)
 (ht: ∀R:List D->HD->Prop,R [.int (n:Int)] h1->ta σ h R)(w0:W 0 σ h1)(done: ∀σ' h',W n σ' h'->E.nx σ' h')
 (turn: ∀i σ' h',i<n->W i σ' h'->g (.int (i:Int)) σ' h' λσ2 h2=>tb (Nxt E λσ3 h4=>i+1<=n/\W (i+1) σ3 h4) σ2 h2):Ee (iR1 ta) g tb E σ h:=by
 refine ht _ ⟨(n:Int),rfl,by omega,by omega,n,λi σ' h'=>i<=n/\W i σ' h',⟨S9 _,w0⟩,?_⟩;rintro i σ' h' ⟨hi,w⟩;refine⟨_,rfl,by simp,λhl=> ?_,λd hd=> ?_⟩
 ·have:i=n:=by simp at hl;omega
  subst this;exact done _ _ w
 ·obtain⟨hi',e⟩:=ZA hd;have hi2:i<n:=by omega
  subst e;exact turn i σ' h' hi2 w
theorem YC {ti:TID}{g:TGD}{tb:TSD}{j:ItD}(ds:List D)(W:Nat->SD->HD->Prop)
 (ht: ∀R:ItD->HD->Prop,R j h1->ti σ h R)(hj: ∀i σ' h',W i σ' h'->j h'=some ds)(w0:W 0 σ h1)(done: ∀σ' h',W ds.length σ' h'->E.nx σ' h')
 (turn: ∀i d σ' h',ds[i]? =some d->W i σ' h'->g d σ' h' λσ2 h2=>tb (Nxt E λσ3 h4=>i+1<=ds.length/\W (i+1) σ3 h4) σ2 h2):Ee ti g tb E σ h:=by
 refine ht _ ⟨ds.length,λi σ' h'=>i<=ds.length/\W i σ' h',⟨S9 _,w0⟩,?_⟩;rintro i σ' h' ⟨hi,w⟩;refine⟨ds,hj i σ' h' w,G5 _,λhl=> ?_,λd hd=>turn i d σ' h' hd w⟩;have:i=ds.length:=by omega
 subst this;exact done _ _ w
theorem VO {g:TGD}{tb:TSD}{j:ItD}(ds:List D)(W:Nat->SD->HD->Prop)
 (hj: ∀i σ' h',W i σ' h'->j h'=some ds)(w0:W 0 σ h1)(done: ∀σ' h',W ds.length σ' h'->E.nx σ' h')
 (turn: ∀i d σ' h',ds[i]? =some d->W i σ' h'->g d σ' h' λσ2 h2=>tb (Nxt E λσ3 h4=>i+1<=ds.length/\W (i+1) σ3 h4) σ2 h2):
 ∃ (n:Nat) (W:Nat->SD->HD->Prop),W 0 σ h1/\ ∀i σ' h',W i σ' h'-> ∃ds,j h'=some ds/\ds.length<=n/\(ds.length<=i->E.nx σ' h')/\
  ∀d,ds[i]? =some d->g d σ' h' λσ2 h2=>tb {E with nx:=λσ3 h3=> ∃h4,Sub h4 h3/\W (i+1) σ3 h4,ct:=λσ3 h3=> ∃h4,Sub h4 h3/\W (i+1) σ3 h4,bk:=E.nx} σ2 h2:=by
 refine⟨ds.length,λi σ' h'=>i<=ds.length/\W i σ' h',⟨S9 _,w0⟩,?_⟩;rintro i σ' h' ⟨hi,w⟩;refine⟨ds,hj i σ' h' w,G5 _,λhl=> ?_,λd hd=>turn i d σ' h' hd w⟩;have:i=ds.length:=by omega
 subst this;exact done _ _ w
theorem EC {i:Nat}{js:List Nat}{ta:TAD}{Q:KD}(n:Nat)(W:Nat->List D->HD->Prop)(hn:n<=1000)(ht: ∀R:List D->HD->Prop,R [.int (n:Int)] h1->ta σ h R)
 (w0:W 0 [] h1)(wl: ∀k ys h',W k ys h'->ys.length=k)(turn: ∀k ys h',k<n->W k ys h'->te ((jP js σ).set i (some (.int (k:Int)))) h' λy h4=> ∃h5,Sub h5 h4/\(k+1<=n/\W (k+1) (ys++ [y]) h5))
 (done: ∀ys h',W n ys h'-> ∀p,h' p=none->Q (.lst p) (zB h' p ys)):Zy (bN i) js (iR1 ta) Xm te σ h Q:=by
 refine ht _ ⟨(n:Int),rfl,by omega,by omega,n,λk ys h'=>k<=n/\W k ys h',⟨S9 _,w0⟩,?_⟩;rintro k ys h' ⟨hk,w⟩;refine⟨by rw [wl k ys h' w];exact D4 (jA (by omega)),_,rfl,by simp,λhl p hp=> ?_,λd hd=>⟨_,rfl,?_⟩⟩
 ·have:k=n:=by simp at hl;omega
  subst this;exact done ys h' w p hp
 ·obtain⟨hi',e⟩:=ZA hd;subst e;unfold Xm;dsimp only;rw [if_pos rfl];exact turn k ys h' (by omega) w
end L2
namespace L2
open PySem PySem.Spec PyProof.Rows PySem.SeqAt
mutual
def ToP (h:HD):D->PyData->Prop
 |d,.none=>d= .non
 |d,.bool b=>d= .bl b
 |d,.int i=>d= .int i
 |d,.str x=>d= .str x
 |d,.tuple ps=> ∃ds,d= .tup ds/\ToPs h ds ps
 |d,.list ps=> ∃a ds,d= .lst a/\h a=some ds/\ToPs h ds ps
 |_,.dict _=>False
def ToPs (h:HD):List D->List PyData->Prop
 |ds,[]=>ds= []
 |ds,p::ps=> ∃d r,ds=d::r/\ToP h d p/\ToPs h r ps
end
section
variable {X:Cx}{pins:List (Addr×Obj)}{σ:St}{H:Hp}{s:Shared}{h:HD}
mutual
theorem zb (I:Inv X pins σ H s)(rh:RelH X.K h H): ∀ {p:PyData} {d:D} {v:V} {u:Value},ToP h d p->RelD X.K H d v->RelV v u-> ∃as,Reads s.heap u p as
 | .none,d,v,u,t,r,ru=>by cases (show d= .non from t);cases (show v= .non from r);cases (show u= .none from ru);exact⟨[],.none⟩
 | .bool b,d,v,u,t,r,ru=>by cases (show d= .bl b from t);cases (show v= .bl b from r);cases (show u= .bool b from ru);exact⟨[],.bool b⟩
 | .int i,d,v,u,t,r,ru=>by cases (show d= .int i from t);cases (show v= .int i from r);obtain⟨k,rfl⟩:=(show ∃t,u=Value.int i t from ru);exact⟨[],.int i k⟩
 | .str x,d,v,u,t,r,ru=>by cases (show d= .str x from t);cases (show v= .str x from r);obtain⟨k,rfl⟩:=(show ∃t,u=Value.str x t from ru);exact⟨[],.str x k⟩
 | .tuple ps,d,v,u,t,r,ru=>by
  obtain⟨ds,e,ts⟩:=(show ∃ds,d= .tup ds/\ToPs h ds ps from t);subst e;obtain⟨a,vs,e,hH,rs⟩:=(show ∃a vs,v= .ref a/\H a=some (.tup vs)/\RelDs X.K H ds vs from r);subst e;cases (show u= .ref a from ru);obtain⟨its,rv,ht,_⟩:=I.tuple (SqT.of hH);obtain⟨o,ho,hc,n,hd⟩:=ht;obtain⟨as,q⟩:=reads_Ds I rh ts rs rv;exact⟨as,.tuple ho hc hd q⟩
 | .list ps,d,v,u,t,r,ru=>by
  obtain⟨a,ds,e,ha,ts⟩:=(show ∃a ds,d= .lst a/\h a=some ds/\ToPs h ds ps from t);subst e;obtain⟨vs,hH,rs⟩:=rh a ds ha;have e:v= .ref a:=r.1;subst e;cases (show u= .ref a from ru);obtain⟨its,rv,pl,_⟩:=I.list (SqL.of hH);obtain⟨o,ho,hc,n,hd⟩:=pl.isList;obtain⟨as,q⟩:=reads_Ds I rh ts rs rv;exact⟨a::as,.list ho hc hd q⟩
 | .dict _,_,_,_,t,_,_=>(show False from t).elim
theorem reads_Ds (I:Inv X pins σ H s)(rh:RelH X.K h H): ∀ {ps:List PyData} {ds:List D} {vs:List V} {us:List Value},ToPs h ds ps->RelDs X.K H ds vs->Vals vs us-> ∃as,ReadsAll s.heap us ps as
 | [],ds,vs,us,t,r,rv=>by
  cases (show ds= [] from t);cases (show vs= [] from r);cases rv;exact⟨[],.nil⟩
 |p::ps,ds,vs,us,t,r,rv=>by
  obtain⟨d,dr,e,t1,t2⟩:=(show ∃d r,ds=d::r/\ToP h d p/\ToPs h r ps from t);subst e;obtain⟨v,vr,e,r1,r2⟩:=(show ∃v r,vs=v::r/\RelD X.K H d v/\RelDs X.K H dr r from r);subst e;cases rv with
  |cons ru rt=>
   obtain⟨as,q1⟩:=zb I rh t1 r1 ru;obtain⟨bs,q2⟩:=reads_Ds I rh t2 r2 rt;exact⟨as++bs,.cons q1 q2⟩
end
end
def eqE:RD2:=λx y h Q=>match x,y with
 | .int i,.int j=>Q (.bl (decide (i=j))) h
 | .bl i,.bl j=>Q (.bl (decide (i=j))) h
 | .str i,.str j=>Q (.bl (decide (i=j))) h
 |x,y=> ∃p q,ToP h x p/\ToP h y q/\shaped p=true/\shaped q=true/\Q (.bl (PyData.eqv p q)) h
def neE:RD2:=λx y h Q=>match x,y with
 | .int i,.int j=>Q (.bl (!decide (i=j))) h
 | .bl i,.bl j=>Q (.bl (!decide (i=j))) h
 | .str i,.str j=>Q (.bl (!decide (i=j))) h
 |x,y=> ∃p q,ToP h x p/\ToP h y q/\shaped p=true/\shaped q=true/\Q (.bl (!PyData.eqv p q)) h
section
variable {X:Cx}
def eqG:RD2:=λx y h Q=> ∃p q,ToP h x p/\ToP h y q/\shaped p=true/\shaped q=true/\Q (.bl (PyData.eqv p q)) h
def neG:RD2:=λx y h Q=> ∃p q,ToP h x p/\ToP h y q/\shaped p=true/\shaped q=true/\Q (.bl (!PyData.eqv p q)) h
theorem ED (hu:X.A.units+64<cLine):OpQ X (compareOp .Eq) eqG:=by
 intro pins s σ H x y v u Q I rx ry h;obtain⟨dx,dy,h,Qd,r1,r2,rh,⟨p,q,t1,t2,s1,s2,qq⟩,post⟩:=h;obtain⟨as,a1⟩:=zb I rh t1 r1 rx;obtain⟨bs,b1⟩:=zb I rh t2 r2 ry;exact compareEq_shaped a1 b1 s1 s2 hu ⟨.bl _,H,I,rfl,post (.bl _) _ _ _ (.refl H) rh rfl qq⟩
theorem EF (hu:X.A.units+64<cLine):OpQ X (compareOp .NotEq) neG:=by
 intro pins s σ H x y v u Q I rx ry h;obtain⟨dx,dy,h,Qd,r1,r2,rh,⟨p,q,t1,t2,s1,s2,qq⟩,post⟩:=h;obtain⟨as,a1⟩:=zb I rh t1 r1 rx;obtain⟨bs,b1⟩:=zb I rh t2 r2 ry;exact compareNe_shaped a1 b1 s1 s2 hu ⟨.bl _,H,I,rfl,post (.bl _) _ _ _ (.refl H) rh rfl qq⟩
theorem OpQ.or' {f:Value->Value->Sem Value}{r r' r2:RD2}(h:OpQ X f r)(h':OpQ X f r')(i: ∀x y hh Q,r2 x y hh Q->r x y hh Q\/r' x y hh Q):OpQ X f r2:=λpins s σ H x y v u Q I rx ry ⟨dx,dy,hd,Qd,r1,r2',rh,q,p⟩=>
 (i dx dy hd Qd q).elim (λz=>h pins s σ H x y v u Q I rx ry ⟨dx,dy,hd,Qd,r1,r2',rh,z,p⟩) λz=>h' pins s σ H x y v u Q I rx ry ⟨dx,dy,hd,Qd,r1,r2',rh,z,p⟩
theorem VP (hu:X.A.units+64<cLine):OpQ X (compareOp .Eq) eqE:=oq_eq.or' (ED hu) λx y h Q q=>by
 unfold eqE at q;split at q
 ·exact .inl q
 ·exact .inl q
 ·exact .inl q
 ·exact .inr q
theorem Ck (hu:X.A.units+64<cLine):OpQ X (compareOp .NotEq) neE:=oq_ne.or' (EF hu) λx y h Q q=>by
 unfold neE at q;split at q
 ·exact .inl q
 ·exact .inl q
 ·exact .inl q
 ·exact .inr q
end
end L2
namespace L2
open PySem PySem.Spec PyProof.Rows
theorem Jv: ∀ {ns:List Int} {us:List Value},Vals (ns.map V.int) us->IntsAre us ns
 | [],_,r=>by cases r;exact .nil
 |n::ns,_,r=>by
  cases r with
  |cons r t=>obtain⟨k,rfl⟩:=r;exact .cons n k (Jv t)
theorem VQ: ∀ {ns:List Int} {us:List Value},IntsAre us ns->Vals (ns.map V.int) us
 |_,_,.nil=> .nil
 |_,_,.cons n t r=> .cons ⟨t,rfl⟩ (VQ r)
theorem jY {K:PySem.W.Frag}{H:Hp}: ∀ {ns:List Int} {vs:List V},RelDs K H (ns.map D.int) vs->vs=ns.map V.int
 | [],_,h=>h
 |n::ns,vs,h=>by
  obtain⟨v,r,e,h1,h2⟩:=(show ∃v r,vs=v::r/\RelD K H (.int n) v/\RelDs K H (ns.map D.int) r from h);rw [e,jY h2,(show v= .int n from h1)];rfl
def Kn (to ti te:TED):TED:=λσ h Q=>to σ h λx h1=> ∃a,x= .lst a/\ti σ h1 λi h2=>te σ h2 λy h3=> ∃ (k:Nat) (xs:List D),i= .int (k:Int)/\k<=1000/\h3 a=some xs/\xs.length<sizeLine/\Q .non (zB h3 a (xs.take k++y::xs.drop k))
variable {X:Cx}
theorem DP:MtM X "list.insert" (λx vs H Q=> ∃ (l:Addr) (xs:List V) (k:Nat) (y:V),x= .ref l/\vs= [.int (k:Int),y]/\H l=some (.lst xs)/\k<=1000/\xs.length<sizeLine/\Q .non (upd H l (.lst (xs.take k++y::xs.drop k)))):=by
 intro pins s σ H x vs v us Q I rx rv h;obtain⟨l,xs,k,y,rfl,rfl,hH,hk,hz,q⟩:=h;cases rx;obtain⟨u,w',rfl,⟨t,rfl⟩,ry⟩:=Do rv;obtain⟨z,its,n,r,hl,e⟩:=I.lstM hH;have hfit: ¬ (!Builtin.List.listFitsIndex (k:Int))=true:=by rw [fitsIndex_both (by omega) (by omega)];exact P5
 have hsz:its.toArray.size<=sizeLine:=by rw [D3];omega
 generalize har:its.toArray=ar at e hsz;obtain⟨kk,hkk⟩: ∃kk:Int,kk=(k:Int):=⟨_,rfl⟩;rw [<-hkk] at hfit ⊢;refine G0z F.slot_list_insert ⟨_,e,rfl⟩ F.entry_list_insert (F.args_list_insert_3 _ _ _) (AutoListH.list_insert_list_int_val_1 l ar n kk t w' hfit hsz) ⟨e,?_⟩;subst har hkk;refine⟨.non,_,I.lset (its':=its.take k++w'::its.drop k) hH e ?_ ((r.take k).append (.cons ry (r.drop k))) ?_,rfl,q⟩
 ·have hk0: ¬ ((k:Int)<0):=by omega
  simp only [hk0,G1r,E4,D3];have e1:its.take (min k its.length)=its.take k:=by
   by_cases hh:k<=its.length
   ·rw [U7 hh]
   ·rw [Nat.min_eq_right (by omega),G0s,D9 (by omega)]
  have e2:its.drop (min k its.length)=its.drop k:=by
   by_cases hh:k<=its.length
   ·rw [U7 hh]
   ·rw [Nat.min_eq_right (by omega),List.drop_length,List.drop_of_length_le (by omega)]
  have e3:(its.drop k).take (its.length-min k its.length)=its.drop k:=D9 (by rw [T3];omega);apply Array.ext';simp only [M0,F7,List.extract_toArray,List.extract_eq_drop_take,G1y,Nat.sub_zero];rw [e1,e2,e3,G8];rfl
 ·rw [G6,P6,D8,T3];omega
section
variable {X:Cx}{o e i:Expr}{to te ti:TED}{apos cpos:Pos}
theorem ko (ho:QE X o to)(hi:QE X i ti)(he:QE X e te)(hbase:attributeBase o "insert" X.env (eval o X.env)=eval o X.env:=by rfl)
 (hfew:((backTo cpos (starEach [i,e] X.env)).all (λx=> !x.1)&&(backToKw cpos (keywordEach [] X.env)).all (λx=>x.1.isSome)&&decide ([i,e].length+([]:List Keyword).length+(if ([]:List Keyword).isEmpty then 0 else 1)<30))=true:=by rfl)
 (hline:(apos.endLine==cpos.line)=true:=by rfl)(hs:starEach [i,e] X.env=(false,eval i X.env)::starEach [e] X.env:=by rfl)(hs2:starEach [e] X.env=(false,eval e X.env)::starEach [] X.env:=by rfl)(hplain:(backTo cpos (starEach [e] X.env)).any (·.1)=false:=by rfl):
 QE X (.Call (.Attribute o "insert" apos) [i,e] [] cpos) (Kn to ti te):=
 (Np V2 PySem.F.slot_list_insert PySem.F.type_list_insert DP ho (zr hi (zr he pa_nil hs2) hs) hbase hfew hline hs hplain).imp
  λσ H Q ⟨σd,h,Qd,rs,rh,t,p⟩=>LE.bind rs rh t λd v h1 H1 k1 rs1 rh1 r1 ⟨a,e,q⟩=>by
   subst e;obtain⟨e1,vs,hH⟩:=(show v= .ref a/\ ∃vs,H1 a=some (.lst vs) from r1);subst e1;refine⟨.inl ⟨rfl,vs,SqL.of hH⟩,?_⟩;refine LE.bind rs1 rh1 q λdi vi h2 H2 k2 rs2 rh2 r2 q2=>LE.bind rs2 rh2 q2 λy u h3 H3 k3 rs3 rh3 r3 ⟨k,xs,ei,hk,hx,hz,q3⟩=> ?_
   subst ei;have ev:vi= .int (k:Int):=r2;obtain⟨ws,hW,r4⟩:=rh3 a xs hx;refine⟨a,ws,k,u,rfl,by rw [ev],hW,hk,by rw [<-r4.length];exact hz,p .non _ _ _ (k1.trans (k2.trans (k3.trans (.put hW)))) (rh3.put hW ((r4.take k).append (.cons r3 (r4.drop k)))) rfl q3⟩
end
structure JE (X:Cx)(e:Expr)(t:TED):Prop where
 to:QE X e t
structure JT (X:Cx)(e:Expr)(t:TTD):Prop where
 to:QT X e t
structure JW (X:Cx)(e:Expr)(t:TTD):Prop where
 to:QW X e t
structure JA (X:Cx)(e:List Expr)(t:TAD):Prop where
 to:QA X e t
structure JS (X:Cx)(e:Stmt)(t:TSD):Prop where
 to:QS X e t
structure JSs (X:Cx)(e:List Stmt)(t:TSD):Prop where
 to:QSs X e t
structure JG (X:Cx)(e:Expr)(t:TGD):Prop where
 to:QG X e t
structure JI (X:Cx)(tg e:Expr)(t:TID):Prop where
 to:QI X tg e t
structure JO (X:Cx)(e:Option Expr)(t:TOD):Prop where
 to:QO X e t
section
variable {X:Cx}{a b c e:Expr}{es rest:List Expr}{ta tb tc te:TED}{t u:TAD}{tt tu:TTD}{pos:Pos}{f r r':RD2}
theorem jv (i:Nat){x:Str}(hN:X.N[i]? =some x:=by rfl)(hv:Vis X.env.scope x:=by first|exact Or.inl rfl|exact Or.inr (Or.inl rfl)|exact Or.inr (Or.inr rfl))(hd:(x==("__debug__" :Str))=false:=by decide)(hcd:(x==("__classdict__" :Str))=false:=by decide):JE X (.Name x pos) (MP i):=⟨qv (i:=i) (hN:=hN) (hv:=hv) (hd:=hd) (hcd:=hcd)⟩
theorem jD {i:Int}{j:Nat}:JE X (.Constant (.int i) j pos) (dC (.int i)):=⟨KJ⟩
theorem jbl {i:Bool}{j:Nat}:JE X (.Constant (.bool i) j pos) (dC (.bl i)):=⟨qbl⟩
theorem WW {x:Str}{j:Nat}:JE X (.Constant (.str x) j pos) (dC (.str x)):=⟨KL⟩
theorem Hm {x:Str}{i:Int}{tk:Tok}(hg:Gl X x)(hm:X.mg x=some (.int i tk))(hd:(x==("__debug__" :Str))=false:=by decide):JE X (.Name x pos) (dC (.int i)):=⟨TH (hg:=hg) (hm:=hm) (hd:=hd)⟩
theorem jop {op:Operator}(ho:OpQ X (binaryOp op) f)(ha:JE X a ta)(hb:JE X b tb):JE X (.BinOp a op b pos) (dOp f ta tb):=⟨qop (ho:=ho) (ha:=ha.to) (hb:=hb.to)⟩
theorem PR {op:CmpOp}(ho:OpQ X (compareOp op) f)(ha:JE X a ta)(hb:JE X b tb)(hm:behindInMarks op b=false):JE X (.Compare a [op] [b] pos) (dOp f ta tb):=⟨KM (ho:=ho) (ha:=ha.to) (hb:=hb.to) (hm:=hm)⟩
theorem zv {op:CmpOp}(ho:OpQ X (compareOp op) f)(ha:JE X a ta)(hb:JE X b tb)(hm:behindInMarks op b=false):JT X (.Compare a [op] [b] pos) (JL (dOp f ta tb)):=⟨TJ (ho:=ho) (ha:=ha.to) (hb:=hb.to) (hm:=hm)⟩
theorem FU {op op':CmpOp}(ho:OpQ X (compareOp op) r)(ho':OpQ X (compareOp op') r')(ha:JE X a ta)(hb:JE X b tb)(hc:JE X c tc)(hm:lastMarks [op,op'] [b,c]=false:=by with_unfolding_all rfl):JT X (.Compare a [op,op'] [b,c] pos) (JL (VJ r r' ta tb tc)):=⟨Fx (ho:=ho) (ho':=ho') (ha:=ha.to) (hb:=hb.to) (hc:=hc.to) (hm:=hm)⟩
theorem yn (ha:JE X a ta)(he: ∀whole,isTrue a X.env whole=(do let v <-whole;standAt a.pos;holding [v] (truthy v)):=by intro _;rfl):JT X a (JL ta):=⟨TK (ha:=ha.to) (he:=he)⟩
theorem DQ (ha:JT X a tt):JW X (.BoolOp .And [a] pos) tt:=⟨TL (ha:=ha.to)⟩
theorem EG (ha:JT X a tt):JW X (.BoolOp .Or [a] pos) tt:=⟨KN (ha:=ha.to)⟩
theorem GE (ha:JT X a tt)(hb:JW X (.BoolOp .And (b::rest) pos) tu):JW X (.BoolOp .And (a::b::rest) pos) (Fu tt tu):=⟨TN (ha:=ha.to) (hb:=hb.to)⟩
theorem OL (ha:JT X a tt)(hb:JW X (.BoolOp .Or (b::rest) pos) tu):JW X (.BoolOp .Or (a::b::rest) pos) (AK tt tu):=⟨KO (ha:=ha.to) (hb:=hb.to)⟩
theorem vF (ha:JT X a tt):JT X (.UnaryOp .Not a pos) (DB tt):=⟨TQ (ha:=ha.to)⟩
theorem Cl {op:BoolOp}(ha:JE X a ta):JE X (.BoolOp op [a] pos) ta:=⟨KP (ha:=ha.to)⟩
theorem EH (ha:JE X a ta)(hb:JE X (.BoolOp .And (b::rest) pos) tb):JE X (.BoolOp .And (a::b::rest) pos) (Nt ta tb):=⟨KQ (ha:=ha.to) (hb:=hb.to)⟩
theorem jor (ha:JE X a ta)(hb:JE X (.BoolOp .Or (b::rest) pos) tb):JE X (.BoolOp .Or (a::b::rest) pos) (TB ta tb):=⟨qor (ha:=ha.to) (hb:=hb.to)⟩
theorem kq (ha:JE X a ta):JE X (.UnaryOp .Not a pos) (Nu ta):=⟨KR (ha:=ha.to)⟩
theorem jif {c:Expr}(hc:JT X c tt)(ha:JE X a ta)(hb:JE X b tb):JE X (.IfExp c a b pos) (dIf tt ta tb):=⟨qif (hc:=hc.to) (ha:=ha.to) (hb:=hb.to)⟩
theorem jd:JA X [] PQ:=⟨AV⟩
theorem VR {k:Nat}(h:JA X es t):JE X (.Tuple es k pos) (SX t):=⟨KS (h:=h.to)⟩
theorem Jg (h:JA X es t):JE X (.List es pos) (AJ t):=⟨KT (h:=h.to)⟩
end
section
variable {X:Cx}{st:Stmt}{sts:List Stmt}{t u:TSD}{e:Expr}{te:TED}{pos:Pos}
theorem zl:JSs X [] GA:=⟨Eb⟩
theorem jf (h1:JS X st t)(h2:JSs X sts u):JSs X (st::sts) (Nx t u):=⟨FE (h1:=h1.to) (h2:=h2.to)⟩
theorem jh (h1:JS X st t):JSs X [st] t:=⟨Ec (h1:=h1.to)⟩
theorem YD (he:JE X e te)(hs:swapsWith e none pos.line X.env=pure false:=by rfl):JS X (.Expr e pos) (Fz te):=⟨TW (he:=he.to) (hs:=hs)⟩
theorem yc (he:JE X e te):JS X (.Return (some e) pos) (MQ te):=⟨KU (he:=he.to)⟩
theorem WY {c:Expr}{a b:List Stmt}{tc:TTD}(hc:JT X c tc)(ha:JSs X a t)(hb:JSs X b u):JS X (.If c a b pos) (OH tc t u):=⟨KW (hc:=hc.to) (ha:=ha.to) (hb:=hb.to)⟩
variable {i:Nat}{x:Str}
theorem wA {pos':Pos}(hN:X.N.Nodup)(hi:X.N[i]? =some x)(hx:Loc X.env.scope x)(he:JE X e te)(hs:swapsWith e (some (.Name x pos')) pos.line X.env=pure false:=by rfl)(hf:X.fn x=true\/X.env.scope.names.lookup x=some .local:=by first|exact .inl rfl|exact .inr rfl|assumption):JS X (.Assign [.Name x pos'] e pos) (FA i te):=⟨KY (hN:=hN) (hi:=hi) (hx:=hx) (he:=he.to) (hs:=hs) (hf:=hf)⟩
theorem zh (hN:X.N.Nodup)(hi:X.N[i]? =some x)(hx:Loc X.env.scope x)(hf:X.fn x=true\/X.env.scope.names.lookup x=some .local:=by first|exact .inl rfl|exact .inr rfl|assumption):JG X (.Name x pos) (gN i):=⟨FF (hN:=hN) (hi:=hi) (hx:=hx) (hf:=hf)⟩
theorem DR {j:Nat}{y:Str}{p1 p2:Pos}{k:Nat}(hc:X.calm=true)(hN:X.N.Nodup)(hi:X.N[i]? =some x)(hj:X.N[j]? =some y)(hx:Loc X.env.scope x)(hy:Loc X.env.scope y)(hf:X.fn x=true\/X.env.scope.names.lookup x=some .local:=by first|exact .inl rfl|exact .inr rfl|assumption)(hf2:X.fn y=true\/X.env.scope.names.lookup y=some .local:=by first|exact .inl rfl|exact .inr rfl|assumption):JG X (.Tuple [.Name x p1,.Name y p2] k pos) (gT2 i j):=⟨Ed (hc:=hc) (hN:=hN) (hi:=hi) (hj:=hj) (hx:=hx) (hy:=hy) (hf:=hf) (hf2:=hf2)⟩
theorem OM {tg:Expr}{g:TGD}(he:JE X e te)(hg:JG X tg g)(hs:swapsWithSole [tg] e pos.line X.env=pure false:=by rfl)(hsw:swappedStores [tg] e X.env=pure none:=by rfl)(h1:(assignEach [tg] X.env).map (·.2)= [assign tg X.env]:=by rfl):JS X (.Assign [tg] e pos) (TR te g):=⟨KZ (he:=he.to) (hg:=hg.to) (hs:=hs) (hsw:=hsw) (h1:=h1)⟩
theorem Ko {j:Nat}{y:Str}{a b:Expr}{ta:TAD}{px py pt:Pos}{kt k2 pt2}(hc:X.calm=true)(hN:X.N.Nodup)(hi:X.N[i]? =some x)(hj:X.N[j]? =some y)(hij:i≠j)(hx:X.env.scope.names.lookup x=some .local)(hy:X.env.scope.names.lookup y=some .local)(ha:JA X [a,b] ta)(hw:swappedStores [.Tuple [.Name x px,.Name y py] kt pt] (.Tuple [a,b] k2 pt2) X.env=pure (some [x,y]))(hs:swapsWithSole [.Tuple [.Name x px,.Name y py] kt pt] (.Tuple [a,b] k2 pt2) pos.line X.env=pure false:=by rfl):JS X (.Assign [.Tuple [.Name x px,.Name y py] kt pt] (.Tuple [a,b] k2 pt2) pos) (TU i j ta):=⟨ka (hc:=hc) (hN:=hN) (hi:=hi) (hj:=hj) (hij:=hij) (hx:=hx) (hy:=hy) (ha:=ha.to) (hw:=hw) (hs:=hs)⟩
end
section
variable {X:Cx}{tg e iter elt:Expr}{te:TED}{ti:TID}{g:TGD}{tb:TSD}{tt:TTD}{pos:Pos}{ta:TAD}{scope:Scope}{js:List Nat}{ifs:List Expr}
theorem FV (he:JE X e te):JI X tg e (iL te):=⟨FI (he:=he.to)⟩
theorem yj {p:Pos}{a:Expr}(hg:Gl X "range")(hm:X.mg "range" =none)(ha:JA X [a] ta)(hs:starEach [a] X.env= [(false,eval a X.env)]:=by rfl):JI X tg (.Call (.Name "range" p) [a] [] pos) (iR1 ta):=⟨Hb (hg:=hg) (hm:=hm) (ha:=ha.to) (hs:=hs)⟩
theorem VS {body:List Stmt}(hp:PassesOwn (model X.prog X.w) X.A X.env X.xe)(hc:X.calm=true)(hi:JI X tg iter ti)(hg:JG X tg g)(hb:JSs X body tb)(hs: ∀x,foldedSetIterable iter X.env x=pure x:=by intro _;rfl):JS X (.For tg iter body [] pos) (Ee ti g tb):=⟨kc (hp:=hp) (hc:=hc) (hi:=hi.to) (hg:=hg.to) (hb:=hb.to) (hs:=hs)⟩
theorem zS:PTs X [] (LT X.K Xm):=FJ
theorem wL {c:Expr}(hc:JT X c tt):PTs X [c] (LT X.K tt):=FK (hc:=hc.to)
theorem jlc {i:Nat}{x:Str}{p:Pos}(hc:X.calm=true)(S:BlockOk X scope js)(hi:JI X (.Name x p) iter ti)(hj:i∈js)(hN:X.N.Nodup)(hx:X.N[i]? =some x)(hl:scope.names.lookup x=some .local\/scope.names.lookup x=some .cell)(ht: ∀X',jB X scope X'->PTs X' ifs (LT X'.K tt))(he: ∀X',jB X scope X'->JE X' elt te)(hs: ∀x,foldedSetIterable iter X.env x=pure x:=by intro _;rfl):JE X (.ListComp elt [⟨.Name x p,iter,ifs,0⟩] scope pos) (Zy (bN i) js ti tt te):=⟨qlc (hc:=hc) (S:=S) (hi:=hi.to) (hj:=hj) (hN:=hN) (hx:=hx) (hl:=hl) (ht:=ht) (he:=λX' hX=>(he X' hX).to) (hs:=hs)⟩
theorem ku {i j:Nat}{x y:Str}{p1 p2 p3:Pos}{k:Nat}(hc:X.calm=true)(S:BlockOk X scope js)(hi:JI X (.Tuple [.Name x p1,.Name y p2] k p3) iter ti)(hj:i∈js)(hj2:j∈js)(hij:i≠j)(hN:X.N.Nodup)(hx:X.N[i]? =some x)(hy:X.N[j]? =some y)(hl:scope.names.lookup x=some .local\/scope.names.lookup x=some .cell)(hl2:scope.names.lookup y=some .local\/scope.names.lookup y=some .cell)(ht: ∀X',jB X scope X'->PTs X' ifs (LT X'.K tt))(he: ∀X',jB X scope X'->JE X' elt te)(hs: ∀x,foldedSetIterable iter X.env x=pure x:=by intro _;rfl):JE X (.ListComp elt [⟨.Tuple [.Name x p1,.Name y p2] k p3,iter,ifs,0⟩] scope pos) (Zy (b2 i j) js ti tt te):=⟨ke (hc:=hc) (S:=S) (hi:=hi.to) (hj:=hj) (hj2:=hj2) (hij:=hij) (hN:=hN) (hx:=hx) (hy:=hy) (hl:=hl) (hl2:=hl2) (ht:=ht) (he:=λX' hX=>(he X' hX).to) (hs:=hs)⟩
end
section
variable {X:Cx}{k:Nat}{f:Addr}{fd:FuncData}{ps:List Str}{spd:RDn}{x:Str}{p pos:Pos}{e:Expr}{es:List Expr}{t:TAD}
theorem jL (F:FnOk X.prog X.w X.K X.mg X.base CX0 k f fd ps (LSp X.K spd))(hr:Room k X.A)(hg:Gl X x)(hm:X.mg x=some (.ref f))(hk:PySem.W.keepIn X.K (.ref f)=true)(hb:Binds X.K fd ps [])(ha:JA X (e::es) t)(hdb:(x==("__debug__" :Str))=false:=by decide)(he:starEach (e::es) X.env=(false,eval e X.env)::starEach es X.env:=by rfl)(hpl:(backTo pos (starEach es X.env)).any (·.1)=false:=by rfl):JE X (.Call (.Name x p) (e::es) [] pos) (dCB spd t):=⟨Hc (F:=F) (hr:=hr) (hg:=hg) (hm:=hm) (hk:=hk) (hb:=hb) (ha:=ha.to) (hdb:=hdb) (he:=he) (hpl:=hpl)⟩
theorem jR {id:String}{r:RDn}(hc:yZ X (.builtin id) r)(hg:Gl X x)(hm:X.mg x=none)(hv:bootBuiltins x=some (.builtin id))(ha:JA X (e::es) t)(hn:x≠ "__name__" :=by decide)(hdb:(x==("__debug__" :Str))=false:=by decide)(he:starEach (e::es) X.env=(false,eval e X.env)::starEach es X.env:=by rfl)(hpl:(backTo pos (starEach es X.env)).any (·.1)=false:=by rfl):JE X (.Call (.Name x p) (e::es) [] pos) (dCB r t):=⟨Ei (hc:=hc) (hg:=hg) (hm:=hm) (hv:=hv) (ha:=ha.to) (hn:=hn) (hdb:=hdb) (he:=he) (hpl:=hpl)⟩
theorem wg {T:String}{r:RDn}(hc:yZ X (.type T) r)(hg:Gl X x)(hm:X.mg x=none)(hv:bootBuiltins x=some (.type T))(ha:JA X (e::es) t)(hn:x≠ "__name__" :=by decide)(hdb:(x==("__debug__" :Str))=false:=by decide)(he:starEach (e::es) X.env=(false,eval e X.env)::starEach es X.env:=by rfl)(hpl:(backTo pos (starEach es X.env)).any (·.1)=false:=by rfl):JE X (.Call (.Name x p) (e::es) [] pos) (dCB r t):=⟨FL (hc:=hc) (hg:=hg) (hm:=hm) (hv:=hv) (ha:=ha.to) (hn:=hn) (hdb:=hdb) (he:=he) (hpl:=hpl)⟩
end
section
variable {X:Cx}{iter elt:Expr}{te:TED}{ti:TID}{tt:TTD}{pos spos:Pos}{scope:Scope}{js:List Nat}{ifs:List Expr}
theorem VT {i k:Nat}{x y:Str}{p py:Pos}(hc:X.calm=true)(hN:X.N.Nodup)(hk:X.N[k]? =some y)(hy:Loc X.env.scope y)(S:BlockOk X scope js)(hi:JI X (.Name x p) iter ti)(hj:i∈js)(hx:X.N[i]? =some x)(hl:scope.names.lookup x=some .local\/scope.names.lookup x=some .cell)(ht: ∀X',jB X scope X'->PTs X' ifs (LT X'.K tt))(he: ∀X',jB X scope X'->JE X' elt te)(hsw:swapsWith (.ListComp elt [⟨.Name x p,iter,ifs,0⟩] scope pos) (some (.Name y py)) spos.line X.env=pure true:=by rfl)(hf:X.fn y=true\/X.env.scope.names.lookup y=some .local:=by first|exact .inl rfl|exact .inr rfl|assumption)(hs: ∀x,foldedSetIterable iter X.env x=pure x:=by intro _;rfl):JS X (.Assign [.Name y py] (.ListComp elt [⟨.Name x p,iter,ifs,0⟩] scope pos) spos) (FA k (Zy (bN i) js ti tt te)):=⟨Ej (hc:=hc) (hN:=hN) (hk:=hk) (hy:=hy) (S:=S) (hi:=hi.to) (hj:=hj) (hx:=hx) (hl:=hl) (ht:=ht) (he:=λX' hX=>(he X' hX).to) (hsw:=hsw) (hf:=hf) (hs:=hs)⟩
end
section
variable {X:Cx}{a b e:Expr}{ta tb te:TED}{pos p2:Pos}
theorem jix (ha:JE X a ta)(hb:JE X b tb)(hs:Xk b):JE X (.Subscript a b pos) (dOp ixD ta tb):=⟨qix (ha:=ha.to) (hb:=hb.to) (hs:=hs)⟩
end
theorem NC {a:Expr}{ta:TED}{T:String}{t:Str}{p p2 pos:Pos}(hT:T∈ ["tuple","int","bool","list","str"])(hg:Gl X "isinstance")(hm:X.mg "isinstance" =none)(hg2:Gl X t)(hm2:X.mg t=none)(hv:bootBuiltins t=some (.type T))(ha:JE X a ta)(hn:t≠ "__name__" :=by decide)(hd:(t==("__debug__" :Str))=false:=by decide)(h1:starEach [a,.Name t p2] X.env=(false,eval a X.env)::starEach [.Name t p2] X.env:=by rfl)(h2:(backTo pos (starEach [.Name t p2] X.env)).any (·.1)=false:=by rfl):JE X (.Call (.Name "isinstance" p) [a,.Name t p2] [] pos) (dIs T ta):=⟨Hj (hT:=hT) (hg:=hg) (hm:=hm) (hg2:=hg2) (hm2:=hm2) (hv:=hv) (ha:=ha.to) (hn:=hn) (hd:=hd) (h1:=h1) (h2:=h2)⟩
section
variable {X:Cx}{o e i:Expr}{to te ti:TED}{apos cpos pos:Pos}
theorem ON (ho:JE X o to)(he:JE X e te)(hbase:attributeBase o "append" X.env (eval o X.env)=eval o X.env:=by rfl)(hfew:((backTo cpos (starEach [e] X.env)).all (λx=> !x.1)&&(backToKw cpos (keywordEach [] X.env)).all (λx=>x.1.isSome)&&decide ([e].length+([]:List Keyword).length+(if ([]:List Keyword).isEmpty then 0 else 1)<30))=true:=by rfl)(hline:(apos.endLine==cpos.line)=true:=by rfl)(hs:starEach [e] X.env=(false,eval e X.env)::starEach [] X.env:=by rfl)(hplain:(backTo cpos (starEach [] X.env)).any (·.1)=false:=by rfl):JE X (.Call (.Attribute o "append" apos) [e] [] cpos) (Kk to te):=⟨ki (ho:=ho.to) (he:=he.to) (hbase:=hbase) (hfew:=hfew) (hline:=hline) (hs:=hs) (hplain:=hplain)⟩
theorem VU (ho:JE X o to)(hi:JE X i ti)(ha: ∀v,assign (.Subscript o i pos) X.env v=(do
 let ov <-holding [v] (eval o X.env)
 let iv <-holding [v,ov] (eval i X.env)
 standAt pos
 holding [v,ov,iv] (setItem ov iv v)
 release [v,ov,iv] []):=by intro _;rfl):JG X (.Subscript o i pos) (Es to ti):=⟨Et (ho:=ho.to) (hi:=hi.to) (ha:=ha)⟩
end
variable {e:Expr}
theorem jpt {t:TTD}(h:JW X e t):JT X e t:=⟨qpt (h:=h.to)⟩
variable {te:TED}
theorem DS (he:JE X e te):JO X (some e) (Eu te):=⟨FR (he:=he.to)⟩
theorem EI {lo hi:Option Expr}{tl th:TOD}{pos p2:Pos}(he:JE X e te)(hl:JO X lo tl)(hu:JO X hi th):JE X (.Subscript e (.Slice lo hi none p2) pos) (dSl te tl th):=⟨Ev (he:=he.to) (hl:=hl.to) (hu:=hu.to)⟩
theorem Hn {a:Expr}{ta:TED}{pos:Pos}(ha:JE X a ta):JE X (.UnaryOp .USub a pos) (dUn Km ta):=⟨km (ha:=ha.to)⟩
theorem wt {tg:Expr}(he:JE X e te):JI X tg e (iS te):=⟨EA (he:=he.to)⟩
theorem Qx {st:Stmt}:JS X st Cj:=⟨EB⟩
theorem jac {es:List Expr}{t:TAD}(ha:JE X e te)(hr:JA X es t)(h:Xp e=true:=by rfl):JA X (e::es) (vC te t):=⟨qac (ha:=ha.to) (hr:=hr.to) (h:=h)⟩
section
variable {X:Cx}{o e i:Expr}{to te ti:TED}{apos cpos:Pos}
theorem kH (ho:JE X o to)(hi:JE X i ti)(he:JE X e te)(hbase:attributeBase o "insert" X.env (eval o X.env)=eval o X.env:=by rfl)(hfew:((backTo cpos (starEach [i,e] X.env)).all (λx=> !x.1)&&(backToKw cpos (keywordEach [] X.env)).all (λx=>x.1.isSome)&&decide ([i,e].length+([]:List Keyword).length+(if ([]:List Keyword).isEmpty then 0 else 1)<30))=true:=by rfl)(hline:(apos.endLine==cpos.line)=true:=by rfl)(hs:starEach [i,e] X.env=(false,eval i X.env)::starEach [e] X.env:=by rfl)(hs2:starEach [e] X.env=(false,eval e X.env)::starEach [] X.env:=by rfl)(hplain:(backTo cpos (starEach [e] X.env)).any (·.1)=false:=by rfl):JE X (.Call (.Attribute o "insert" apos) [i,e] [] cpos) (Kn to ti te):=⟨ko (ho:=ho.to) (hi:=hi.to) (he:=he.to) (hbase:=hbase) (hfew:=hfew) (hline:=hline) (hs:=hs) (hs2:=hs2) (hplain:=hplain)⟩
end
section
variable {P:Program}{w:World}{K:PySem.W.Frag}{mg:Str->Option Value}{base:Heap}
theorem Fun.okJ {x qual:Str}{st:Stmt}{f:Addr}{fd:FuncData}{N ps:List Str}{k:Nat}{spd:RDn}(F:Fun K x qual st f fd)(S:FnScope N ps (je st))(len: ∀ds h Q,spd ds h Q->ds.length=ps.length)
 (tb:TSD)(hbody: ∀ (cdv:Value) (A:Around) (outer:List Env) (s:Shared) (H:Hp) (E:XK),Room k (A.deeper (envOfC qual (je st) s.heap.objs.size f cdv))->JSs (Yq CX0 P w K mg base N qual (je st) f cdv A outer s H E).nox (jX st) tb)
 (read: ∀ds h Q,spd ds h Q->tb (Qu Q) (zu N ds) h):FnOk P w K mg base CX0 (k+1) f fd ps (LSp K spd):=F.okD S len tb (λcdv A outer s H E hr=>(hbody cdv A outer s H E hr).to) read
end
def Wu (r:List Int):D:= .tup (r.map D.int)
def zo (T:List (List Int)):D:= .tup (T.map Wu)
def wM (n:Nat)(r:List Int):Prop:=r.length=n/\ ∀x∈r,0<=x/\x<=1000000
def GoodTab (n:Nat)(T:List (List Int)):Prop:=T.length=n/\ ∀r∈T,wM n r
structure Sq (n e:Nat)(T:List (List Int)):Prop where
 len:T.length=n
 row: ∀r∈T,r.length=n
 nn: ∀r∈T,∀x∈r,0<=x
 bit: ∀r∈T,∀x∈r,x<2^e
theorem GoodTab.sq {n:Nat}{T:List (List Int)}(g:GoodTab n T):Sq n 20 T:=⟨g.1,λr hr=>(g.2 r hr).1,λr hr x hx=>((g.2 r hr).2 x hx).1,λr hr x hx=>Int.lt_of_le_of_lt ((g.2 r hr).2 x hx).2 (by decide)⟩
def ent (T:List (List Int))(i j:Nat):Int:=(T.getD i []).getD j 0
def mkT (n:Nat)(f:Nat->Nat->Int):List (List Int):=(List.range n).map λi=>(List.range n).map λj=>f i j
theorem vG {α:Type}(xs:List α)(d:α):xs=(List.range xs.length).map λi=>xs.getD i d:=by
 apply List.ext_getElem (by simp);intro i h1 h2;simp [R6,h1]
theorem Sq.ent_nn {n e:Nat}{T:List (List Int)}(h:Sq n e T){i j:Nat}(hi:i<n)(hj:j<n):0<=ent T i j/\ent T i j<2^e:=by
 have hi':i<T.length:=by rw [h.len];exact hi
 have hr:T.getD i []=T[i]:=by rw [R6,G2 hi'];rfl
 have hm:T[i]∈T:=N3 hi';have hj':j<T[i].length:=by rw [h.row _ hm];exact hj
 have he:ent T i j=T[i][j]:=by unfold ent;rw [hr,List.getD_eq_getElem?_getD,List.getElem?_eq_getElem hj'];rfl
 rw [he];exact⟨h.nn _ hm _ (N3 hj'),h.bit _ hm _ (N3 hj')⟩
def Ho (n:Nat)(f:Nat->Int):Int:=((List.range n).map f).sum
def Kp (n:Nat)(T U:List (List Int)):List (List Int):=mkT n λi j=>Ho n λk=>ent T i k*ent U k j
def kI (n:Nat):List (List Int):=mkT n λi j=>if i=j then 1 else 0
def Hq (n:Nat)(T:List (List Int)):Nat->List (List Int)
 |0=>kI n
 |k+1=>Kp n (Hq n T k) T
def EJ (n:Nat)(T:List (List Int)):List (List Int):=mkT n λi j=>if ent T i j=0 then 0 else 1
structure Ord (n:Nat)(o:List Nat):Prop where
 len:o.length=n
 all: ∀i,i<n->i∈o
theorem DT {x:Int}{e:Nat}(h0:0<=x)(h1:x<2^e):x.natAbs<2^e:=by
 have:((2^e:Nat):Int)=2^e:=by simp
 omega
section
variable {α β:Type}{i i':Nat}{js:List Nat}{ti ti':TID}{te:TED}{σ:SD}{h:HD}{Q:KD}{j:ItD}
theorem lcA (xs:List α)(c g:α->D)(hz:xs.length<=1000)(hj:j h=some (xs.map c))(ht: ∀R:ItD->HD->Prop,R j h->ti σ h R)
 (he: ∀x∈xs,∀Q':KD,Q' (g x) h->te ((jP js σ).set i (some (c x))) h Q')(hq: ∀p,h p=none->Q (.lst p) (zB h p (xs.map g))):Zy (bN i) js ti Xm te σ h Q:=by
 refine ht _ ⟨xs.length,λk ys h'=>h'=h/\ys=(xs.take k).map g,⟨rfl,by simp⟩,?_⟩;rintro k ys h' ⟨rfl,rfl⟩;refine⟨by simp only [G0,D8];exact D4 (jA (by omega)),xs.map c,hj,by simp,λhl p hp=> ?_,λd hd=>⟨_,rfl,?_⟩⟩
 ·rw [D9 (by simpa using hl)];exact hq p hp
 ·unfold Xm;dsimp only;rw [if_pos rfl];rw [P4] at hd;cases hx:xs[k]? with
  |none=>rw [hx] at hd;cases hd
  |some x=>
   rw [hx] at hd;cases hd;refine he x (G9 hx) _ ⟨h',Sub.refl _,rfl,?_⟩;rw [F4,hx];simp
theorem lcF (xs:List α)(c g:α->D)(p:α->Bool){tt:TTD}(hz:xs.length<=1000)(hj:j h=some (xs.map c))(ht: ∀R:ItD->HD->Prop,R j h->ti σ h R)
 (hp: ∀x∈xs,∀Q':Bool->HD->Prop,Q' (p x) h->tt ((jP js σ).set i (some (c x))) h Q')(he: ∀x∈xs,p x=true-> ∀Q':KD,Q' (g x) h->te ((jP js σ).set i (some (c x))) h Q')(hq: ∀a,h a=none->Q (.lst a) (zB h a ((xs.filter p).map g))):Zy (bN i) js ti tt te σ h Q:=by
 refine ht _ ⟨xs.length,λk ys h'=>h'=h/\ys=((xs.take k).filter p).map g,⟨rfl,by simp⟩,?_⟩;rintro k ys h' ⟨rfl,rfl⟩;refine⟨?_,xs.map c,hj,by simp,λhl a ha=> ?_,λd hd=>⟨_,rfl,?_⟩⟩
 ·have:=L7 p (xs.take k);simp only [G0,D8] at this ⊢;exact D4 (jA (by omega))
 ·rw [D9 (by simpa using hl)];exact hq a ha
 ·rw [P4] at hd;cases hx:xs[k]? with
  |none=>rw [hx] at hd;cases hd
  |some x=>
   rw [hx] at hd;cases hd;refine hp x (G9 hx) _ ?_;cases hb:p x with
   |true=>
    rw [if_pos rfl];refine he x (G9 hx) hb _ ⟨h',Sub.refl _,rfl,?_⟩;rw [F4,hx];simp [hb]
   |false=>
    rw [if_neg P5];refine⟨h',Sub.refl _,rfl,?_⟩;rw [F4,hx];simp [hb]
theorem kJ (xs:List α)(c g:α->D)(hz:xs.length<=1000)(hj:j h=some (xs.map c))(ht: ∀R:ItD->HD->Prop,R j h->ti σ h R)
 (he: ∀x∈xs,∀Q':KD,Q' (g x) h->te ((jP js σ).set i (some (c x))) h Q')(hq:Q (.tup (xs.map g)) h):dCB Ju (vC (Zy (bN i) js ti Xm te) PQ) σ h Q:=by
 show Zy (bN i) js ti Xm te σ h (λx h1=>Ju [x] h1 Q);exact lcA xs c g hz hj ht he λp hp=>(show ∃ys,zB h p (xs.map g) p=some ys/\Q (.tup ys) (Wt (zB h p (xs.map g)) p) from ⟨_,jc,by rw [yl hp];exact hq⟩)
theorem EK (xs:List α)(c g:α->D)(p:α->Bool){tt:TTD}(hz:xs.length<=1000)(hj:j h=some (xs.map c))(ht: ∀R:ItD->HD->Prop,R j h->ti σ h R)
 (hp: ∀x∈xs,∀Q':Bool->HD->Prop,Q' (p x) h->tt ((jP js σ).set i (some (c x))) h Q')(he: ∀x∈xs,p x=true-> ∀Q':KD,Q' (g x) h->te ((jP js σ).set i (some (c x))) h Q')(hq:Q (.tup ((xs.filter p).map g)) h):dCB Ju (vC (Zy (bN i) js ti tt te) PQ) σ h Q:=by
 show Zy (bN i) js ti tt te σ h (λx h1=>Ju [x] h1 Q);exact lcF xs c g p hz hj ht hp he λa ha=>(show ∃ys,zB h a ((xs.filter p).map g) a=some ys/\Q (.tup ys) (Wt (zB h a ((xs.filter p).map g)) a) from ⟨_,jc,by rw [yl ha];exact hq⟩)
end
end L2
namespace L2
open PySem PySem.Spec PyProof.Rows PySem.SeqAt
def Hr (j:ItD):TID:=λ_ h R=>R j h
theorem ND {b:D->SD->SD->Prop}{js:List Nat}{ti:TID}{tt:TTD}{te:TED}{σ:SD}{h:HD}{Q:KD}(x:ti σ h λj h1=>Zy b js (Hr j) tt te σ h1 Q):Zy b js ti tt te σ h Q:=x
def jK (o:List Nat):D:= .tup (o.map λ(k:Nat)=>D.int (k:Int))
def Ordr (n:Nat)(o:List Nat):Prop:=o.Perm (List.range n)
variable {n:Nat}
theorem Ordr.ord {o:List Nat}(h:Ordr n o):Ord n o:=⟨by rw [h.length_eq,R5],λi hi=>h.mem_iff.mpr (D6.mpr hi)⟩
def Wv (o:List Nat):List Int:=o.map λ(k:Nat)=>(k:Int)
theorem FW (o:List Nat):jK o= .tup ((Wv o).map D.int):=by unfold jK Wv;rw [List.map_map];rfl
theorem Ordr.insert {o:List Nat}(h:Ordr n o)(k:Nat):Ordr (n+1) (o.take k++n::o.drop k):=by
 unfold Ordr;rw [C9];refine G1g.trans ?_;rw [R8];exact(List.Perm.cons n h).trans (List.perm_append_singleton n _).symm
theorem vH (h:HD): ∀ns:List Int,ToPs h (ns.map D.int) (ns.map PyData.int)
 | []=>rfl
 |n::ns=>⟨_,_,rfl,rfl,vH h ns⟩
theorem vb: ∀ns:List Int,PyData.canLayAll0 (ns.map PyData.int)=true
 | []=>rfl
 |n::ns=>by show (PyData.canLay0 (.int n)&&_)=true;rw [vb ns];rfl
theorem Jh: ∀ns:List Int,PyData.depthAll (ns.map PyData.int)<=1
 | []=>by simp [PyData.depthAll]
 |n::ns=>by
  have:=Jh ns;simp only [T9,PyData.depthAll,PyData.depth];omega
theorem ZB (ns:List Int):shaped (.list (ns.map .int))=true:=by
 unfold shaped;have h1:PyData.canLay0 (.list (ns.map .int))=true:=by simp only [PyData.canLay0];exact vb ns
 have h2:=Jh ns;have h3:PyData.depth (.list (ns.map .int))<=64:=by simp only [PyData.depth];omega
 rw [h1,R1 h3];rfl
def Cm (r:List Int):PyData:= .tuple (r.map .int)
def Kq (T:List (List Int)):PyData:= .tuple (T.map Cm)
theorem ZC {e:Nat}{T:List (List Int)}(h:Sq n e T){i:Nat}(hi:i<n):atI (T.map Wu) (i:Int)=some (Wu (T.getD i [])):=by
 have hi':i<T.length:=by rw [h.len];exact hi
 exact we (by rw [P4,R6,G2 hi'];rfl)
theorem Sq.getRow {e:Nat}{T:List (List Int)}(h:Sq n e T){i:Nat}(hi:i<n):T.getD i []∈T:=by
 have hi':i<T.length:=by rw [h.len];exact hi
 rw [R6,G2 hi'];exact N3 hi'
theorem ZD {r:List Int}(h:r.length=n){j:Nat}(hj:j<n):atI (r.map D.int) (j:Int)=some (.int (r.getD j 0)):=by
 have hj':j<r.length:=by rw [h];exact hj
 exact we (by rw [P4,R6,G2 hj'];rfl)
section
variable {prog:Program}{w:World}{A:Around}{E:Value->Shared->Prop}{s:Shared}
variable {items:Array Value}
theorem DU {it t:Addr}{i n:Nat}{d1 d2:Option Addr}{s1 s2:Array (Option Value)}{P:PySem.Fin->Shared->Prop}(a1:s.heap.get? it=some {cls:= .type "tuple_iterator",dict:=d1,data:= .fields #[.ref t,.int i 0],slots:=s1})(a2:s.heap.get? t=some {cls:= .type "tuple",dict:=d2,data:= .seq items n,slots:=s2})
 (more: ∀x h',items[i]? =some x->h'.IsTupleIter it t (i+1)->Heap.SameBut it s.heap h'->P (.done (.ret x)) {s with heap:=h'})
 (none_:items[i]? =none->wpAny (model prog w) A (do setField (.ref it) 0 .none;Builtin.SmallTypes.stopIteration) P E s):wpAny (model prog w) A (Builtin.«tuple_iterator.__next__» ⟨[.ref it],[]⟩) P E s:=by
 obtain⟨hp,g,d,tk,os⟩:=s
 wp_walk
 rw [E4];cases hx:items[i]? with
 |none=>exact wpAny_bind (G0y (none_ hx))
 |some x=>
  refine wpAny_bind (wpAny_setField a1 rfl (by simp) (G3 (more x _ hx ⟨_,T6 _ a1 ?_,rfl,?_⟩ (M5 ..))))
  ·rfl
  ·simp [Obj.mapFields,rawInt]
theorem ZE {Q:PySem.Fin->Shared->Prop}(hh:A.handled=none)(hE: ∀h' e,(∀b o,s.heap.get? b=some o->h'.get? b=some o)->(∃o,h'.get? e=some o/\o.cls= .type "StopIteration")->E (.ref e) {s with heap:=h'}):wpAny (model prog w) A Builtin.SmallTypes.stopIteration Q E s:=by
 obtain⟨hp,g,d,tk,os⟩:=s;unfold Builtin.SmallTypes.stopIteration
 wp_walk
 unfold raiseNew;refine wpAny_bind (wpAny_handled ?_);rw [hh];exact wpAny_bind (G3 (wpAny_throw (hE _ _ (λb o q=>G1 _ (G1 _ q)) ⟨_,D0 _ rfl,rfl⟩)))
theorem GF {it t:Addr}{i:Nat}{x:Value}{Q:Value->Shared->Prop}(hit:s.heap.IsTupleIter it t i)(ht:s.heap.IsTuple t items)(hx:items[i]? =some x)
 (hQ: ∀h',h'.IsTupleIter it t (i+1)->Heap.SameBut it s.heap h'->Q x {s with heap:=h'}):wpAny (model prog w) A (Builtin.SmallTypes.nextOf (.ref it)) Q E s:=by
 obtain⟨⟨c,d1,dt,s1⟩,ho,rfl,rfl⟩:=id hit;obtain⟨⟨c2,d2,dt2,s2⟩,hol,rfl,nl,rfl⟩:=ht;exact wpAny_bind (O3 hit.typeIs K6 (C8 K6 hit.typeIs G0E (DU ho hol (λy h' e b1 b2=>⟨y,rfl,G3 (by rw [hx] at e;cases e;exact hQ h' b1 b2)⟩) λe=>by rw [hx] at e;cases e) (G0x _)))
theorem yS {it t:Addr}{i:Nat}{Q:Value->Shared->Prop}(hh:A.handled=none)(hit:s.heap.IsTupleIter it t i)(ht:s.heap.IsTuple t items)(hx:items[i]? =none)
 (hE: ∀h' e,Heap.ExtBut it s.heap h'->(∃o,h'.get? e=some o/\o.cls= .type "StopIteration")->E (.ref e) {s with heap:=h'}):wpAny (model prog w) A (Builtin.SmallTypes.nextOf (.ref it)) Q E s:=by
 obtain⟨⟨c,d1,dt,s1⟩,ho,rfl,rfl⟩:=id hit;obtain⟨⟨c2,d2,dt2,s2⟩,hol,rfl,nl,rfl⟩:=ht;refine wpAny_bind (O3 hit.typeIs K6 (C8 K6 hit.typeIs G0E (DU ho hol (λy h' e b1 b2=>by rw [hx] at e;cases e) λ_=>wpAny_bind (wpAny_setField ho rfl (by simp) ?_)) (G0x _)));exact ZE (s:= {s with heap:=_}) hh λh' e grown stop=>hE h' e (λb o ne q=>grown b o ((M5 ..).extBut b o ne q)) stop
end
theorem DV {prog:Program}{w:World}{A:Around}(hh:A.handled=none)(it t:Addr)(hne:t≠it)(items:Array Value):
 Draws prog w A it [it,t] items.size (λi v=>items[i]? =some v) (λi h=>h.IsTupleIter it t i/\h.IsTuple t items) where
 live:=λ_ _ st=>let ⟨o,ho,_⟩:=st.1;⟨o,ho⟩
 frame:=λ_ _ _ st hk=>⟨st.1.at λo e=>hk it (by simp) o e,st.2.at λo e=>hk t (by simp) o e⟩
 item:=λi s Q E hi st hQ=>GF st.1 st.2 (x:=items[i]) (by simp [hi]) λh' hit' hs'=>hQ _ h' s.toks (by simp [hi]) ⟨hit',st.2.extBut hs'.extBut hne⟩ hs'
 done:=λs Q E st hE=>yS hh st.1 st.2 (by simp) hE
theorem DW {prog:Program}{w:World}{A:Around}(hh:A.handled=none)(it t:Addr)(items:Array Value)(n:Nat)(hn:items.size<=n):
 Draws prog w A it [it,t] n (λ_ _=>False) (λi h=>i=n/\h.IsTupleIter it t n/\h.IsTuple t items) where
 live:=λ_ _ st=>let ⟨o,ho,_⟩:=st.2.1;⟨o,ho⟩
 frame:=λ_ _ _ st hk=>⟨st.1,st.2.1.at λo e=>hk it (by simp) o e,st.2.2.at λo e=>hk t (by simp) o e⟩
 item:=λi s Q E hi st hQ=>absurd st.1 (R3 hi)
 done:=λs Q E st hE=>yS hh st.2.1 st.2.2 (G1k hn) hE
section
variable {prog:Program}{w:World}{A:Around}{E:Value->Shared->Prop}{s:Shared}
theorem DY {l:Addr}{its:Array Value}{P:PySem.Fin->Shared->Prop}(at_:s.heap.IsTuple l its)
 (h: ∀h',IsEnum h' (s.heap.objs.size+1) s.heap.objs.size 0 .none->h'.IsTupleIter s.heap.objs.size l 0->(∀b o,s.heap.get? b=some o->h'.get? b=some o)->P (.done (.ret (.ref (s.heap.objs.size+1)))) {s with heap:=h'}):
 wpAny (model prog w) A (Builtin.«enumerate.__new__» ⟨[.type "enumerate",.ref l],[]⟩) P E s:=by
 have fine:=sub_enumerate;obtain⟨⟨c,dd,dt,sl⟩,there,rfl,n,rfl⟩:=id at_;obtain⟨hp,g,d,tk,os⟩:=s;have size: ∀o,(hp.push o).objs.size=hp.objs.size+1:=λo=>G0j ..
 have made:=D0 (hp.push {cls:= .type "tuple_iterator",data:= .fields #[.ref l,.int 0 0]}) (o:= {cls:= .type "enumerate",data:= .fields #[.none,.bool false,.ref hp.objs.size,rawInt 0,.none,.none]}) rfl;have fin:=h _ (by rw [<-size];exact made) ⟨_,G1 _ (D0 _ rfl),rfl,rfl⟩ λb o old=>G1 _ (G1 _ old)
 rw [<-size {cls:= .type "tuple_iterator",data:= .fields #[.ref l,.int 0 0]}] at fin
 wp_walk using Y2 there
 refine wpAny_stack_any λcalls=>G3 ?_
 split
 case h_1 c _ _ _ _ _=>cases c==Value.type "enumerate" <;>(wp_walk using Y2 there,Q1 at_;exact fin)
 case h_2=>wp_walk using Y2 there,Q1 at_;exact fin
theorem YE {l:Addr}{items:Array Value}{Q:Value->Shared->Prop}(hL:s.heap.IsTuple l items)
 (h: ∀h',IsEnum h' (s.heap.objs.size+1) s.heap.objs.size 0 .none->h'.IsTupleIter s.heap.objs.size l 0->(∀b o,s.heap.get? b=some o->h'.get? b=some o)->Q (.ref (s.heap.objs.size+1)) {s with heap:=h'}):
 wpAny (model prog w) A (call (.type "enumerate") [.ref l]) Q E s:=
 callType_new F.called_enumerate (by decide) (F.typeCall_enumerate_1 _) (F.newCall_enumerate_1 _) (λ_=>F.args_object_init_2 _ _) F.entry_enumerate_new
  (S:=λ_ R s=>s.heap.IsTuple l items/\ ∀h',IsEnum h' (s.heap.objs.size+1) s.heap.objs.size 0 .none->h'.IsTupleIter s.heap.objs.size l 0->(∀b o,s.heap.get? b=some o->h'.get? b=some o)->R (.ok (.ret (.ref (s.heap.objs.size+1)))) {s with heap:=h'})
  (.of_wp λ_ _ _ _ _ ⟨tup,k⟩=>DY tup λh' e i old=>⟨_,rfl,k h' e i old⟩) ⟨hL,λh' e i old=>⟨⟨_,e,rfl⟩,h h' e i old⟩⟩
end
section
variable {X:Cx}{pins:List (Addr×Obj)}{σ:List (Option V)}{H:Hp}{s:Shared}{h':Heap}
theorem Inv.turnL {t':Nat}{ch:List Addr}(I:Inv X pins σ H s)(k: ∀b o,b ∉ ch->s.heap.get? b=some o->h'.get? b=some o)(hc: ∀b∈ch,PP X pins H b):Inv X pins σ H {s with heap:=h',toks:=t'}:=by
 refine I.step (g':=s.gens) (d':=s.drawn) (ch:=ch) (λb hb=>let ⟨_,f1,_,f3,f4,f5⟩:=hc b hb;⟨f3,f1,f4,f5⟩) (λb o _ _ nb e _=>k b o nb e) (λb o _ _ nb e _=>⟨o.slots,k b o nb e⟩) (λ_ _ _ _ n=>n)
  (λb o nb e=>⟨o,k b o nb e⟩) (λ_ _ e=>e) (λ_ _ _ e=>e) (λb ps e=>⟨#[],by rw [e];simp⟩) (λm hm=> ?_) (λb u e=> ?_) I.bare
 ·obtain⟨o,es,ep,ho,r⟩:=hm;exact⟨o,es,ep,k _ o (λz=>(hc _ z).2.1 rfl) ho,r⟩
 ·refine(I.hok b u e).stay (λc v hb q=>k c v (λz=> ?_) q) (λ_ q=>q) λ_ _ q=>q
  have f:=(hc c z).1;rcases hb with w|w
  ·rw [w,e] at f;cases f
  ·rw [w] at f;cases f
theorem Inv.turnLaid {t':Nat}{ch:List Addr}{a:Addr}{o:HO}(I:Inv X pins σ H s)(k: ∀b u,b ∉ ch->s.heap.get? b=some u->h'.get? b=some u)(hc: ∀b∈ch,PP X pins H b)(hp:s.heap.objs.size<=a)
 (new:ObjOk X.prog X.w (upd H a o) h' a o):Inv X pins σ (upd H a o) {s with heap:=h',toks:=t'}:=by
 have hn:=I.hok.fresh hp;refine I.step (g':=s.gens) (d':=s.drawn) (ch:=ch) (λb hb=>let ⟨_,f1,_,f3,f4,f5⟩:=hc b hb;⟨f3,f1,f4,f5⟩) (λb u _ _ nb e _=>k b u nb e) (λb u _ _ nb e _=>⟨u.slots,k b u nb e⟩)
  (λb u _ e n=>by rw [jl (R3 (D7 (P1 e) hp))];exact n) (λb u nb e=>⟨u,k b u nb e⟩) (λb xs q=>by rw [jl (jq q hn)];exact q) (λb u xs q=>by rw [jl (jq q hn)];exact q)
  (λb ps q=>⟨#[],by rw [jl (jq q hn),q];simp⟩) (λm hm=> ?_) (λb u e=> ?_) I.bare
 ·obtain⟨u,es,ep,ho,r⟩:=hm;exact⟨u,es,ep,k _ u (λz=>(hc _ z).2.1 rfl) ho,r⟩
 ·by_cases hb:b=a
  ·subst hb;rw [jp] at e;cases e;exact new
  ·rw [jl hb] at e;refine(I.hok b u e).stay (λc v hb q=>k c v (λz=> ?_) q) (λc q=>by rw [jl (jq q hn)];exact q) λc xs q=>by rw [jl (jq q hn)];exact q
   have f:=(hc c z).1;rcases hb with w|w
   ·rw [w,e] at f;cases f
   ·rw [w] at f;cases f
end
def Ite (K:PySem.W.Frag)(a:Addr):It:=
 ⟨λi H=> ∃xs x,SqT K H a xs/\xs[i]? =some x,λi H x H'=> ∃p v,H p=none/\(∀xs,SqT K H a xs->xs[i]? =some v)/\x= .ref p/\H'=upd H p (.tup [.int i,v]),λi H=> ∃xs,SqT K H a xs/\xs.length<=i⟩
theorem DZ {P:Program}{w:World}{K:PySem.W.Frag}{es:List Expr}{k:Nat}{pos:Pos}(a it e:Addr)(hei:e≠it)(hae:a≠e)(hai:a≠it):Turn P w K (.Tuple es k pos) (Ite K a) [e,it] e (λi h=>(∃old,IsEnum h e it i old)/\h.IsTupleIter it a i) where
 mem:=by simp
 obj:=λi h st b hb=>by
  rcases P3.mp hb with z|z
  ·subst z;obtain⟨old,q⟩:=st.1;exact⟨_,q,λv z=>by cases z⟩
  ·have z:=G7.mp z;subst z;obtain⟨o,q,c,d⟩:=st.2;exact⟨o,q,λv z=>by rw [d] at z;cases z⟩
 keep:=λi h h' st k=>⟨let ⟨old,q⟩:=st.1;⟨old,k e (by simp) _ q⟩,st.2.at λo q=>k it (by simp) o q⟩
 item:=by
  intro X hP hw hK hc i pins s σ H E I hf st hg;subst hP hw hK;obtain⟨xs,x,hq,hx⟩:=hg;obtain⟨its,rv,p,hz⟩:=I.tuple hq;obtain⟨u,hu,ru⟩:=rv.get hx;have hi:i<its.toArray.size:=by have:=(P0.mp hu).1;simpa using this
  obtain⟨old,he⟩:=st.1;have helt:e<s.heap.objs.size:=P1 he;refine wpAny_pyNext_enum_itemD (DV (prog:=X.prog) (w:=X.w) (A:=X.A.in1) (I.ok.hd hc) it a hai its.toArray) he ⟨st.2,p⟩ hi hei (by simp [hei,Ne.symm hae]) λx' h' tk hx' ho hs' hT hsz hk=> ?_
  have ex:x'=u:=C4 (hx'.symm.trans (show its.toArray[i]? =some u by simpa using hu));subst ex;refine⟨_,rfl,wpAny_letOwnedTupleGo_enum ho λh2 he2 hs2=> ?_⟩;have hn:H s.heap.objs.size=none:=I.hok.fresh (G5 _);have hT2:h2.get? s.heap.objs.size=some {cls:= .type "tuple",data:= .seq #[.int i tk,x']}:=(hs2.2 _ (J9 helt)).trans hT;refine⟨.ref s.heap.objs.size,upd H s.heap.objs.size (.tup [.int i,x]),?_,rfl,⟨_,x,hn,λys hy=>by rw [I.tuple_inj hy hq];exact hx,rfl,rfl⟩,⟨⟨x',by simpa using he2⟩,hs'.1.at λo y=>(hs2.2 it (Ne.symm hei)).trans y⟩,λb hb=> ?_⟩
  ·refine I.turnLaid (h':=h2) (t':=tk+1) (ch:= [e,it]) (λb u hb q=> ?_) hf (G5 _) ⟨by show 2<=sizeLine;decide,[.int i tk,x'],.cons ⟨tk,rfl⟩ (.cons ru .nil),⟨_,hT2,rfl,rfl,_,rfl⟩⟩;have b1:b≠e:=λz=>hb (by simp [z])
   have b2:b≠it:=λz=>hb (by simp [z])
   exact(hs2.2 b b1).trans (hk b u b1 b2 q)
  ·have f:=(hf b hb).1;have:b≠s.heap.objs.size:=λz=>by
    rcases P3.mp hb with w|w
    ·rw [<-w,z] at helt;exact absurd helt (S7 _)
    ·have w:=G7.mp w;obtain⟨o,ho',_⟩:=st.2;have:=P1 ho';rw [<-w,z] at this;exact absurd this (S7 _)
   rw [jl this];exact f
 done:=by
  intro X hP hw hK hc i pins s σ H E I hf st hg;subst hP hw hK;obtain⟨xs,hq,hx⟩:=hg;obtain⟨its,rv,p,hz⟩:=I.tuple hq;obtain⟨old,he⟩:=st.1;have hl:=rv.length;refine wpAny_pyNext_enum_endD (DW (prog:=X.prog) (w:=X.w) (A:=X.A.in1) (I.ok.hd hc) it a its.toArray i (by simp;omega)) he ⟨rfl,st.2,p⟩ λh' hx'=>⟨rfl,I.turnL (t':=s.toks) (ch:= [it]) (λb o hb q=>hx' b o (λz=>hb (by simp [z])) q) λb hb=>hf b (D5 _ hb)⟩
 self:=λ_ _ _ _ _ st h=>let ⟨_,q⟩:=st.1;wpAny_pyIter_enum q h
section
variable {X:Cx}
def Kr (K:PySem.W.Frag)(ta:TA):TI:=λσ H R=>ta σ H λvs H1=> ∃a,vs= [.ref a]/\(∃xs,SqT K H1 a xs)/\R (Ite K a) H1
theorem FX {es:List Expr}{k:Nat}{tp:Pos}{a:Expr}{ta:TA}{p pos:Pos}(hg:Gl X "enumerate")(hm:X.mg "enumerate" =none)(ha:PA X [a] ta)(hs:starEach [a] X.env= [(false,eval a X.env)]:=by rfl):
 PI X (.Tuple es k tp) (.Call (.Name "enumerate" p) [a] [] pos) (Kr X.K ta):=by
 intro pins s σ H R I h;refine Call_ (Zi I hg hm (show bootBuiltins "enumerate" =some (.type "enumerate") by decide +kernel) (K1 (thn (ha pos pins s σ H _ I h) λus s1 ⟨vs,H1,I1,r1,q1⟩=> ?_) hs rfl));obtain⟨a,e,⟨xs,hq⟩,q⟩:=q1;subst e;cases r1 with
 |cons r rr=>
  cases rr;cases r;obtain⟨its,rv,p,hz⟩:=I1.tuple hq;have hlt:a<s1.heap.objs.size:=by obtain⟨o,ho,_⟩:=p;exact P1 ho
  refine YE (show s1.heap.IsTuple a its.toArray from p) λh' he hit hk=> ?_
  refine wpAny_pyIter_enum he ?_;refine⟨s1.heap.objs.size+1,[s1.heap.objs.size+1,s1.heap.objs.size],_,_,H1,rfl,I1.kept (t':=s1.toks) hk,DZ a s1.heap.objs.size (s1.heap.objs.size+1) (J9 (A7 _)) (R3 (G0f hlt)) (R3 hlt),⟨⟨_,he⟩,hit⟩,λb hb=> ?_,q⟩;have hb':s1.heap.objs.size<=b:=by
   rcases P3.mp hb with w|w
   ·rw [w];exact Nat.le_succ _
   ·rw [G7.mp w];exact G5 _
  exact I1.fpOk hb' (I1.hok.fresh hb')
end
def Xr (ds:List D):List D:=ds.zipIdx.map λp=> .tup [.int (p.2:Int),p.1]
def iE (ta:TAD):TID:=λσ h R=>ta σ h λxs h1=> ∃ds,xs= [.tup ds]/\R (λ_=>some (Xr ds)) h1
theorem YF {ds:List D}{i:Nat}{d:D}(h:(Xr ds)[i]? =some d): ∃x,ds[i]? =some x/\d= .tup [.int (i:Int),x]:=by
 unfold Xr at h;rw [P4,List.getElem?_zipIdx] at h;cases q:ds[i]? with
 |none=>rw [q] at h;cases h
 |some x=>
  rw [q] at h;refine⟨x,rfl,?_⟩;have h':some (D.tup [.int ((0+i:Nat):Int),x])=some d:=h;rw [E9] at h';exact(C4 h').symm
theorem wN (ds:List D):(Xr ds).length=ds.length:=by simp [Xr]
section
variable {K:PySem.W.Frag}
theorem Ra {H:Hp}{a:Addr}{vs:List V}{ds:List D}(hv:H a=some (.tup vs))(r:RelDs K H ds vs):OJ K H (λ_=>some (Xr ds)) (Ite K a):=λH' h' k rh ds' e i=>by
 cases e;have hv':=k.tup _ _ hv;have r':=r.mono k;refine⟨λd hd=> ?_,λhl=>⟨vs,SqT.of hv',by rw [<-r.length,<-wN];exact hl⟩⟩;obtain⟨x,hx,ed⟩:=YF hd;subst ed;obtain⟨v,e1,e2⟩:=r'.get hx;refine⟨⟨vs,v,SqT.of hv',e1⟩,λx' H'' ⟨p,v',hp,hx',ex,eH⟩=> ?_⟩;subst ex eH;have ev:v'=v:=by have:=hx' vs (SqT.of hv');rw [e1] at this;exact(C4 this).symm
 subst ev;have k2:Kept H' (upd H' p (.tup [.int i,v'])):= .new hp;exact⟨k2,RelH.new rh hp,p,[.int i,v'],rfl,jp,_,_,rfl,rfl,_,_,rfl,e2.mono k2,rfl⟩
theorem FY {ta:TAD}: ∀σ H R,LI K (iE ta) σ H R->Kr K (LA K ta) σ H R:=λσ H R ⟨σd,h,Rd,rs,rh,q,p⟩=>
 LA.bind rs rh q λds vs h1 H1 k1 rs1 rh1 r1 ⟨es,e,q1⟩=>by
  subst e;obtain⟨v,e,r2⟩:=jH r1;obtain⟨a,ws,e',hv,r⟩:=(show ∃a vs,v= .ref a/\H1 a=some (.tup vs)/\RelDs K H1 es vs from r2);subst e';exact⟨a,e,⟨ws,SqT.of hv⟩,p _ _ _ _ k1 rh1 (Ra hv r) q1⟩
end
section
variable {X:Cx}
theorem Xs {es:List Expr}{k:Nat}{tp:Pos}{a:Expr}{ta:TAD}{p pos:Pos}(hg:Gl X "enumerate")(hm:X.mg "enumerate" =none)(ha:JA X [a] ta)(hs:starEach [a] X.env= [(false,eval a X.env)]:=by rfl):
 JI X (.Tuple es k tp) (.Call (.Name "enumerate" p) [a] [] pos) (iE ta):=⟨(FX hg hm ha.to hs).imp FY⟩
end
def Rb (c:TTD)(tb:TSD):TSD:=λD σ h=> ∃W:Nat->SD->HD->Prop,(∃m,W m σ h)/\ ∀m σ' h',W m σ' h'->c σ' h' λb h1=>
 if b=true then tb {D with nx:=λσ2 h2=> ∃m' h3,m'<m/\Sub h3 h2/\W m' σ2 h3,ct:=λσ2 h2=> ∃m' h3,m'<m/\Sub h3 h2/\W m' σ2 h3,bk:=D.nx} σ' h1 else D.nx σ' h1
theorem NE {K:PySem.W.Frag}{c:TTD}{tb:TSD}: ∀D σ H,LS K (Rb c tb) D σ H->BY (LT K c) (LS K tb) D σ H:=λD σ H ⟨σd,h,Dd,rs,rh,⟨W,⟨m0,w0⟩,turn⟩,nx,rt,bk,ct⟩=>by
 refine⟨λm σ' H'=>Kept H H'/\ ∃σd' h',RelS K H' σd' σ'/\RelH K h' H'/\W m σd' h',⟨m0,.refl _,σd,h,rs,rh,w0⟩,?_⟩;rintro m σ' H' ⟨kp,σd',h',rs',rh',w⟩;refine LT.bind rs' rh' (turn m σd' h' w) λb h1 H1 k1 rs1 rh1 q1=> ?_
 cases b with
 |false=>
  rw [if_neg P5] at q1 ⊢;exact nx _ _ _ _ (kp.trans k1) rs1 rh1 q1
 |true=>
  rw [if_pos rfl] at q1 ⊢;have kk:Kept H H1:=kp.trans k1;refine⟨λσ2 H2=>Kept H H2/\ ∃m',m'<m/\ ∃σd2 h2,RelS K H2 σd2 σ2/\RelH K h2 H2/\W m' σd2 h2,λσ2 H2 ⟨k2,m',hm,a,b,c,d,e⟩=>⟨m',hm,k2,a,b,c,d,e⟩,?_⟩;exact⟨σd',h1,_,rs1,rh1,q1,λa b c d k4 rs4 rh4 ⟨m',h4,hm,sb,w4⟩=>⟨kk.trans k4,m',hm,a,h4,rs4,rh4.sub sb,w4⟩,jF rt kk,λa b c d k4 rs4 rh4 q4=>nx a b c d (kk.trans k4) rs4 rh4 q4,λa b c d k4 rs4 rh4 ⟨m',h4,hm,sb,w4⟩=>⟨kk.trans k4,m',hm,a,h4,rs4,rh4.sub sb,w4⟩⟩
section
variable {X:Cx}{pos:Pos}
theorem Rc {c:Expr}{body:List Stmt}{tc:TTD}{tb:TSD}(hp:PassesOwn (model X.prog X.w) X.A X.env X.xe)(hc:JT X c tc)(hb:JSs X body tb):JS X (.While c body [] pos) (Rb tc tb):=⟨(Ni hp hc.to hb.to).imp NE⟩
end
theorem YG {c:TTD}{tb:TSD}{E:EndsD}{σ:SD}{h:HD}(W:Nat->SD->HD->Prop)(m:Nat)(w0:W m σ h)
 (turn: ∀m σ' h',W m σ' h'->c σ' h' λb h1=>if b=true then tb {E with nx:=λσ2 h2=> ∃m' h3,m'<m/\Sub h3 h2/\W m' σ2 h3,ct:=λσ2 h2=> ∃m' h3,m'<m/\Sub h3 h2/\W m' σ2 h3,bk:=E.nx} σ' h1 else E.nx σ' h1):Rb c tb E σ h:=⟨W,⟨m,w0⟩,turn⟩
section
variable {prog:Program}{w:World}{A:Around}{E:Value->Shared->Prop}{s:Shared}{z TI TO i1 i2:Addr}
structure ZApart (z TI TO i1 i2:Addr):Prop where
 z1:z≠i1
 z2:z≠i2
 zO:z≠TO
 zI:z≠TI
 O1:TO≠i1
 O2:TO≠i2
 OI:TO≠TI
 I1:TI≠i1
 I2:TI≠i2
theorem ZF {T newId initId:String}{pos:List Value}{kw:List (Str×Value)}{Made:Value->Shared->Prop}{Q:Value->Shared->Prop}(ft:TypeCalled T newId initId)(fits:checkTypeCall T ⟨pos,kw⟩=pure ())
 (made:wpAny (model prog w) A.in1 (call (.builtin newId) (.type T::pos) kw) Made E s)
 (begun: ∀o s₁,Made o s₁->s₁.TypeIs o T/\wpAny (model prog w) A.in1 (callSpecial? o "__init__" pos kw) (λr s₂=>r=some .none/\Q o s₂) E s₁):
 wpAny (model prog w) A (call (.type T) pos kw) Q E s:=by
 have f1:=ft.notType;have f2:=ft.canCreate;have f3:=ft.made;have f4:=ft.sub;obtain⟨_,_,f5⟩:=ft.mro;have first:=λ{Q':Value->Shared->Prop} (k: ∀o s₁,Made o s₁->Q' o s₁)=>R0 (E':=E) made k λ_ _ z=>z
 refine V4 (G1n (G3 ⟨Code.quiet_builtin _ (by decide +kernel),K2 F.entry_type_call ?_⟩));rw [Around.under_plain (weight_type_call_type T pos kw) (units_type_call_type T pos kw)]
 wp_walk using first
 intro o s₁ m;obtain⟨ty,then_⟩:=begun o s₁ m;refine wpAny_bind (wpAny_isInstance (b:=true) ty f4 (wpAny_bind (N4 (R0 then_ (λr s₂ q=> ?_) λ_ _ z=>z))));obtain⟨rfl,q⟩:=q;exact G3 q
end
def inE (neg:Bool):RD2:=λx y h Q=> ∃ (p:PyData) (ps:List PyData),ToP h x p/\(ToP h y (.list ps)\/ToP h y (.tuple ps))/\p.canLay0=true/\PyData.canLayAll0 ps=true/\p.depth<=60/\Q (.bl (neg !=ps.any λz=>PyData.eqv z p)) h
section
variable {X:Cx}
theorem EL (hu:X.A.units+64<cLine):OpQ X (compareOp .In) (inE false):=by
 intro pins s σ H x y v u Q I rx ry h;obtain⟨dx,dy,h,Qd,r1,r2,rh,⟨p,ps,t1,t2,c1,c2,c3,qq⟩,post⟩:=h;obtain⟨as,a1⟩:=zb I rh t1 r1 rx;have hu':X.A.units+1+min (PyData.depthAll ps) p.depth<cLine:=by have:=X6 (PyData.depthAll ps) p.depth;omega
 have q':Qd (.bl (ps.any λz=>PyData.eqv z p)) h:=by simpa using qq
 rcases t2 with t2|t2
 ·obtain⟨bs,b1⟩:=zb I rh t2 r2 ry;exact in_list_reads b1 a1 c2 c1 hu' ⟨.bl _,H,I,rfl,post (.bl _) _ _ _ (.refl H) rh rfl q'⟩
 ·obtain⟨bs,b1⟩:=zb I rh t2 r2 ry;exact in_tuple_reads b1 a1 c2 c1 hu' ⟨.bl _,H,I,rfl,post (.bl _) _ _ _ (.refl H) rh rfl q'⟩
theorem Qy (hu:X.A.units+64<cLine):OpQ X (compareOp .NotIn) (inE true):=by
 intro pins s σ H x y v u Q I rx ry h;obtain⟨dx,dy,h,Qd,r1,r2,rh,⟨p,ps,t1,t2,c1,c2,c3,qq⟩,post⟩:=h;obtain⟨as,a1⟩:=zb I rh t1 r1 rx;have hu':X.A.units+1+min (PyData.depthAll ps) p.depth<cLine:=by have:=X6 (PyData.depthAll ps) p.depth;omega
 have q':Qd (.bl (!ps.any λz=>PyData.eqv z p)) h:=by simpa using qq
 rcases t2 with t2|t2
 ·obtain⟨bs,b1⟩:=zb I rh t2 r2 ry;exact notIn_list_reads b1 a1 c2 c1 hu' ⟨.bl _,H,I,rfl,post (.bl _) _ _ _ (.refl H) rh rfl q'⟩
 ·obtain⟨bs,b1⟩:=zb I rh t2 r2 ry;exact notIn_tuple_reads b1 a1 c2 c1 hu' ⟨.bl _,H,I,rfl,post (.bl _) _ _ _ (.refl H) rh rfl q'⟩
theorem EM {tg:Expr}{p pos:Pos}{a b:Expr}{ta:TAD}(hg:Gl X "range")(hm:X.mg "range" =none)(ha:JA X [a,b] ta)(hs:starEach [a,b] X.env= [(false,eval a X.env),(false,eval b X.env)]:=by rfl)(hs2:starEach [b] X.env= [(false,eval b X.env)]:=by rfl):JI X tg (.Call (.Name "range" p) [a,b] [] pos) (iR2 ta):=⟨(Dj hg hm ha.to hs hs2).imp TZ⟩
end
end L2
namespace L2
open PySem PySem.Spec PyProof.Rows
section
variable {prog:Program}{w:World}{A:Around}{E:Value->Shared->Prop}{s:Shared}
theorem yo: ∀ {vs:List Value} {ns:List Int},IntsAre vs ns-> ∀ {i:Nat} {v:Value},vs[i]? =some v-> ∃t,v= .int (ns.getD i 0) t/\i<ns.length
 |_,_,.nil,_,_,hv=>by simp at hv
 |_,_,.cons _ t _,0,_,hv=>⟨t,by simpa using hv.symm,by simp⟩
 |_,_,.cons _ _ r,i+1,_,hv=>by
  obtain⟨t,e,lt⟩:=yo r (i:=i) (by simpa using hv);exact⟨t,by simpa using e,by simpa using lt⟩
theorem VV {l:Addr}{o:Obj}(here:l<s.heap.objs.size): ∀b∈ [s.heap.objs.size,l],b<(s.heap.push o).objs.size:=λb hb=>by
 rw [G0j];simp only [P3,T7,X7] at hb;rcases hb with e|e<;>subst e
 ·exact A7 _
 ·exact G0f here
theorem VW {o:Obj}{h':Heap}(k: ∀b u,b ∉ [s.heap.objs.size]->(s.heap.push o).get? b=some u->h'.get? b=some u): ∀b u,s.heap.get? b=some u->h'.get? b=some u:=λb u e=>
 k b u (λm=>absurd (P1 e) (by rw [G7.mp m];exact S7 _)) (G1 _ e)
end
section
variable {X:Cx}
theorem Re (hc:X.calm=true):CallR X (.builtin "max") (λxs H Q=> ∃ (a:Addr) (ns:List Int),xs= [.ref a]/\ns≠ []/\(SqL X.K H a (ns.map V.int)\/SqT X.K H a (ns.map V.int))/\ ∀m∈ns,(∀x∈ns,x<=m)->Q (.int m) H):=by
 intro pins s σ H xs us Q I r h;obtain⟨a,ns,rfl,hne,hS,q⟩:=h;obtain⟨u,rfl,ru⟩:=vz r;cases ru;have fin: ∀ {its:List Value} (hi:IntsAre its ns) (v:Value) (h':Heap) (tk:Nat),its.toArray[argBest (λi j=>decide (ns.getD i 0>ns.getD j 0)) (its.toArray.size-1)]? =some v->(∀b o,s.heap.get? b=some o->h'.get? b=some o)->EP X pins σ Q v {s with heap:=h',toks:=tk}:=λ{its} hi v h' tk hv kept=>by
  obtain⟨t,rfl,lt⟩:=yo hi (show its[_]? =some v by simpa using hv);refine⟨.int _,H,I.kept kept,⟨t,rfl⟩,q _ (getD_mem lt) λx hx=> ?_⟩;obtain⟨j,hj,rfl⟩:=mem_getD hx;exact(argBest_gt (λi=>ns.getD i 0) (its.toArray.size-1)).2 j (by rw [D3,hi.length];omega)
 refine call_max_walk ?_;rcases hS with hS|hS
 ·obtain⟨its,rv,pl,_⟩:=I.list hS;have hi:=Jv rv;obtain⟨o,e,r⟩:=id pl.isList;have W:=G1S (prog:=X.prog) (w:=X.w) (A:=X.A.in1) (I.ok.hd hc) s.heap.objs.size a (R3 (P1 e)) its.toArray;exact U2 pl.isList ⟨_,_,_,_,_,_,_,rfl,W,⟨⟨_,D0 _ rfl,rfl,rfl⟩,⟨o,G1 _ e,r⟩⟩,VV (P1 e),by rw [D3,hi.length];exact G1D.mpr hne,CmpOf.ints_gt (λi=>ns.getD i 0) (λi v hv=>(yo hi (by simpa using hv)).imp λ_ z=>z.1),λv h' tk hv k=>fin hi v h' tk hv (VW k)⟩
 ·obtain⟨its,rv,pl,_⟩:=I.tuple hS;have hi:=Jv rv;obtain⟨o,e,r⟩:=id pl;have W:=Walks.tuple (prog:=X.prog) (w:=X.w) (A:=X.A.in1) (I.ok.hd hc) s.heap.objs.size a (R3 (P1 e)) its.toArray;exact Q1 (show s.heap.IsTuple a its.toArray from pl) ⟨_,_,_,_,_,_,_,rfl,W,⟨⟨_,D0 _ rfl,rfl,rfl⟩,⟨o,G1 _ e,r⟩⟩,VV (P1 e),by rw [D3,hi.length];exact G1D.mpr hne,CmpOf.ints_gt (λi=>ns.getD i 0) (λi v hv=>(yo hi (by simpa using hv)).imp λ_ z=>z.1),λv h' tk hv k=>fin hi v h' tk hv (VW k)⟩
def EN (B:List Int->Int->Prop):RDn:=λds h Q=> ∃ (ns:List Int) (h':HD),ns≠ []/\Sub h' h/\(ds= [.tup (ns.map D.int)]\/ ∃a,ds= [.lst a]/\h a=some (ns.map D.int))/\ ∀m∈ns,B ns m->Q (.int m) h'
abbrev kK:RDn:=EN λns m=> ∀x∈ns,x<=m
theorem NF {B:List Int->Int->Prop}{f:Value}(c:CallR X f (λxs H Q=> ∃ (a:Addr) (ns:List Int),xs= [.ref a]/\ns≠ []/\(SqL X.K H a (ns.map V.int)\/SqT X.K H a (ns.map V.int))/\ ∀m∈ns,B ns m->Q (.int m) H)):yZ X f (EN B):=
 c.imp λxs H Q ⟨ds,h,Qd,r,rh,⟨ns,h',hne,hs,e,q⟩,p⟩=>by
  rcases e with e|⟨a,e,ha⟩
  ·subst e;obtain⟨v,e,r1⟩:=jH r;obtain⟨a,vs,e1,hH,r2⟩:=(show ∃a vs,v= .ref a/\H a=some (.tup vs)/\RelDs X.K H (ns.map D.int) vs from r1);rw [jY r2] at hH;subst e e1;exact⟨a,ns,rfl,hne,.inr (SqT.of hH),λm m1 m2=>p (.int m) _ _ _ (.refl H) (rh.sub hs) rfl (q m m1 m2)⟩
  ·subst e;obtain⟨v,e,r1⟩:=jH r;obtain⟨vs,hH,r2⟩:=rh a _ ha;have e1:v= .ref a:=r1.1;rw [jY r2] at hH;subst e e1;exact⟨a,ns,rfl,hne,.inl (SqL.of hH),λm m1 m2=>p (.int m) _ _ _ (.refl H) (rh.sub hs) rfl (q m m1 m2)⟩
theorem Rf (hc:X.calm=true):yZ X (.builtin "max") kK:=NF (Re hc)
end
structure ShowOk (p:PyData):Prop where
 sh:p.showable=true
 dp:p.depth<=60
 ln:p.shown.length<=sizeLine
mutual
theorem WZ {h:HD}: ∀ {p:PyData} {d:D},ToP h d p->p.hasDict=false
 | .none,_,_=>rfl
 | .bool _,_,_=>rfl
 | .int _,_,_=>rfl
 | .str _,_,_=>rfl
 | .tuple ps,d,t=>by
  obtain⟨ds,_,ts⟩:=(show ∃ds,d= .tup ds/\ToPs h ds ps from t);simpa only [PyData.hasDict] using noDict_ToPs ts
 | .list ps,d,t=>by
  obtain⟨a,ds,_,_,ts⟩:=(show ∃a ds,d= .lst a/\h a=some ds/\ToPs h ds ps from t);simpa only [PyData.hasDict] using noDict_ToPs ts
 | .dict _,_,t=>(show False from t).elim
theorem noDict_ToPs {h:HD}: ∀ {ps:List PyData} {ds:List D},ToPs h ds ps->PyData.hasDictAll ps=false
 | [],_,_=>rfl
 |p::ps,ds,t=>by
  obtain⟨d,r,_,t1,t2⟩:=(show ∃d r,ds=d::r/\ToP h d p/\ToPs h r ps from t);simp only [PyData.hasDictAll,WZ t1,noDict_ToPs t2,Bool.or_self]
end
def Hs:RDn:=λds h Q=> ∃d p,ds= [d]/\ToP h d p/\ShowOk p/\Q (.str p.shown) h
theorem Qz {X:Cx}{k:Nat}(hr:Room k X.A):yZ X (.builtin "repr") Hs:=by
 intro pins s σ H xs us Q I r h;obtain⟨ds,h,Qd,rs,rh,⟨d,p,e,t,so,q⟩,post⟩:=h;subst e;obtain⟨v,e,r1⟩:=jH rs;subst e;obtain⟨u,rfl,ru⟩:=vz r;have fin: ∀t',EP X pins σ Q (.str p.shown t') {s with toks:=s.toks+1}:=λt'=>⟨.str p.shown,H,I.tok _,⟨_,rfl⟩,post (.str _) _ _ _ (.refl H) rh rfl q⟩
 have fin0: ∀t',EP X pins σ Q (.str p.shown t') s:=λt'=>⟨.str p.shown,H,I,⟨_,rfl⟩,post (.str _) _ _ _ (.refl H) rh rfl q⟩
 have big: ∀a,u= .ref a->wpAny (model X.prog X.w) X.A (call (.builtin "repr") [.ref a]) (EP X pins σ Q) X.xe s:=λa e=>by
  obtain⟨as,rd⟩:=zb I rh t r1 ru;subst e;exact repr_of_reads' rd so.sh (PyData.noDict_hsm (WZ t)) hr.gd (by have:=hr.units;have:=so.dp;omega) (λ_ _ e=>e)
   (λh' u' tk hk=>⟨.str p.shown,H,I.kept hk,⟨_,rfl⟩,post (.str _) _ _ _ (.refl H) rh rfl q⟩) so.ln
 cases p with
 |none=>
  cases (show d= .non from t);cases (show v= .non from r1);cases (show u= .none from ru);exact PySem.P.repr_of_none (fin _)
 |bool b=>
  cases (show d= .bl b from t);cases (show v= .bl b from r1);cases (show u= .bool b from ru);exact PySem.P.repr_of_bool (fin _)
 |int i=>
  cases (show d= .int i from t);cases (show v= .int i from r1);obtain⟨k,rfl⟩:=(show ∃t,u=Value.int i t from ru);exact PySem.P.repr_of_int (by simpa [PyData.showable] using so.sh) (fin _)
 |str x=>
  cases (show d= .str x from t);cases (show v= .str x from r1);obtain⟨k,rfl⟩:=(show ∃t,u=Value.str x t from ru);exact PySem.P.repr_of_str (fin _) so.ln
 |tuple ps=>
  obtain⟨ds,e,ts⟩:=(show ∃ds,d= .tup ds/\ToPs h ds ps from t);subst e;obtain⟨a,vs,e,hH,rs⟩:=(show ∃a vs,v= .ref a/\H a=some (.tup vs)/\RelDs X.K H ds vs from r1);subst e;cases (show u= .ref a from ru);exact big a rfl
 |list ps=>
  obtain⟨a,ds,e,ha,ts⟩:=(show ∃a ds,d= .lst a/\h a=some ds/\ToPs h ds ps from t);subst e;have e:v= .ref a:=r1.1;subst e;cases (show u= .ref a from ru);exact big a rfl
 |dict _=>exact(show False from t).elim
structure ShowB (p:PyData)(k b:Nat):Prop where
 sh:p.showable=true
 dp:p.depth<=k
 ln:p.shown.length<=b
def Cn:RDn:=λds h Q=> ∃x y p,ds= [x,y]/\ToP h x p/\ToP h y p/\ShowOk p/\Q (.bl true) h
end L2
namespace HT
open PySem PySem.Spec PyProof.Rows
open AutoSeq1 (wpAny_loadPart')
section
variable {prog:Program}{w:World}{A:Around}{E:Value->Shared->Prop}{s:Shared}
structure RangeOf (h:Heap)(r:Addr)(a b c:Int)(n:Nat):Prop where
 at_: ∃t u v,IsRange h r a b c t u v
 small:Builtin.Range.small a b c=true
 many:Builtin.Range.rangeSize a b c=n
 fits:n<=2^24
end
end HT
namespace L2
open PySem PySem.Spec PyProof.Rows PySem.SeqAt
theorem NG {X:Cx}(hu:X.A.units+64<cLine):MtM X "list.index" (λx vs H Q=> ∃ (a:Addr) (y:V) (dy:D) (h:HD) (p:PyData) (ps:List PyData) (j:Nat) (z:PyData),x= .ref a/\vs= [y]/\RelD X.K H dy y/\RelH X.K h H/\ToP h (.lst a) (.list ps)/\ToP h dy p/\p.canLay0=true/\PyData.canLayAll0 ps=true/\p.depth<=60/\j<1000000/\ps[j]? =some z/\PyData.eqv z p=true/\(∀m y,m<j->ps[m]? =some y->PyData.eqv y p=false)/\Q (.int (j:Int)) H):=by
 intro pins s σ H x vs v us Q I rx rv h;obtain⟨a,y,dy,h,p,ps,j,z,rfl,rfl,rd,rh,t1,t2,c1,c2,c3,hj,hz,hit,hno,q⟩:=h;cases rx;obtain⟨u,rfl,ru⟩:=vz rv;obtain⟨a',ds,ea,ha,ts⟩:=(show ∃a' ds,D.lst a= .lst a'/\h a'=some ds/\ToPs h ds ps from t1);cases ea;obtain⟨ws,hH,_⟩:=rh a ds ha;obtain⟨as,r1⟩:=zb I rh t1 (show RelD X.K H (.lst a) (.ref a) from ⟨rfl,ws,hH⟩) (show RelV (.ref a) (.ref a) from rfl);obtain⟨bs,r2⟩:=zb I rh t2 rd ru;cases r1 with
 |list h1 h2 h3 h4=>
  rename_i o its n cs;have em:=readsAll_map ps _ _ c2 h4;have gm: ∀m (hm:m<its.size),ps[m]? =some (readOf s.heap its[m]):=λm hm=>by
   rw [<-em,P4,R4,E7 hm];rfl
  have hlen:its.size=ps.length:=by rw [<-em,G0,P2]
  have hjs:j<its.size:=by rw [hlen];exact(P0.mp hz).1
  have hu':X.A.units+1+min (PyData.depthAll ps) p.depth<cLine:=by have:=X6 (PyData.depthAll ps) p.depth;omega
  obtain⟨oc,od,odt,osl⟩:=o;simp only at h2 h3;subst h2 h3;refine G0z F.slot_list_index ⟨_,h1,rfl⟩ F.entry_list_index (F.args_list_index_2 _ _) (list_indexAt a its n od osl u (λy=>PyData.eqv (readOf s.heap y) p) j hjs (by omega) ?_ ?_) ⟨h1,items_eqAt h4 r2 c2 c1 hu',?_⟩
  ·have:=gm j hjs;rw [hz] at this;injection this with this
   rw [<-this];exact hit
  ·intro m hm hmj;exact hno m _ hmj (gm m hm)
  ·exact⟨.int (j:Int),H,I.tok _,⟨_,rfl⟩,q⟩
def kL (to te:TED):TED:=λσ h Q=>to σ h λx h1=> ∃a,x= .lst a/\te σ h1 λy h2=> ∃ (p:PyData) (ps:List PyData) (j:Nat) (z:PyData),ToP h2 (.lst a) (.list ps)/\ToP h2 y p/\p.canLay0=true/\PyData.canLayAll0 ps=true/\p.depth<=60/\j<1000000/\ps[j]? =some z/\PyData.eqv z p=true/\(∀m y,m<j->ps[m]? =some y->PyData.eqv y p=false)/\Q (.int (j:Int)) h2
section
variable {X:Cx}{o e i:Expr}{to te ti:TED}{apos cpos:Pos}
theorem kM (hu : X.A.units + 64 < cLine) (ho : JE X o to) (he : JE X e te) (hbase : attributeBase o "index" X.env (eval o X.env) = eval o X.env := by rfl)
    (hfew : ((backTo cpos (starEach [e] X.env)).all (fun x => !x.1) && (backToKw cpos (keywordEach [] X.env)).all (fun x => x.1.isSome) && decide ([e].length + ([] : List Keyword).length + (if ([] : List Keyword).isEmpty then 0 else 1) < 30)) = true := by rfl)
    (hline : (apos.endLine == cpos.line) = true := by rfl) (hs : starEach [e] X.env = (false, eval e X.env) :: starEach [] X.env := by rfl) (hplain : (backTo cpos (starEach [] X.env)).any (·.1) = false := by rfl) :
    JE X (.Call (.Attribute o "index" apos) [e] [] cpos) (kL to te) :=
  ⟨(Np V2 PySem.F.slot_list_index PySem.F.type_list_index (NG hu) ho.to (zr he.to pa_nil hs) hbase hfew hline hs hplain).imp
    fun σ H Q ⟨σd, h, Qd, rs, rh, t, p⟩ => LE.bind rs rh t fun d v h1 H1 k1 rs1 rh1 r1 ⟨a, e, q⟩ => by
      subst e
      obtain ⟨e1, vs, hH⟩ := (show v = .ref a ∧ ∃ vs, H1 a = some (.lst vs) from r1)
      subst e1
      refine ⟨.inl ⟨rfl, vs, SqL.of hH⟩, ?_⟩
      refine LE.bind rs1 rh1 q fun y u h2 H2 k2 rs2 rh2 r2 ⟨pd, ps, j, z, t1, t2, c1, c2, c3, hj, hz, hit, hno, q2⟩ => ?_
      exact ⟨a, u, y, h2, pd, ps, j, z, rfl, rfl, r2, rh2, t1, t2, c1, c2, c3, hj, hz, hit, hno, p (.int _) _ _ _ (k1.trans k2) rh2 rfl q2⟩⟩
end
variable {i:Nat}
theorem FZ {js:List Nat}{ta:TAD}{tt:TTD}{te:TED}{σ:SD}{h h1:HD}{Q:KD}(n:Nat)(W:Nat->List D->HD->Prop)(hn:n<=1000)(ht: ∀R:List D->HD->Prop,R [.int (n:Int)] h1->ta σ h R)
 (w0:W 0 [] h1)(wl: ∀k ys h',W k ys h'->ys.length<=k)(turn: ∀k ys h',k<n->W k ys h'->tt ((jP js σ).set i (some (.int (k:Int)))) h' λb h3=>if b=true then te ((jP js σ).set i (some (.int (k:Int)))) h3 λy h4=> ∃h5,Sub h5 h4/\(k+1<=n/\W (k+1) (ys++ [y]) h5) else ∃h5,Sub h5 h3/\(k+1<=n/\W (k+1) ys h5))
 (done: ∀ys h',W n ys h'-> ∀p,h' p=none->Q (.lst p) (zB h' p ys)):Zy (bN i) js (iR1 ta) tt te σ h Q:=by
 refine ht _ ⟨(n:Int),rfl,by omega,by omega,n,λk ys h'=>k<=n/\W k ys h',⟨S9 _,w0⟩,?_⟩;rintro k ys h' ⟨hk,w⟩;refine⟨P7 (wl k ys h' w) (D4 (jA (by omega))),_,rfl,by simp,λhl p hp=> ?_,λd hd=>⟨_,rfl,?_⟩⟩
 ·have:k=n:=by simp at hl;omega
  subst this;exact done _ _ w p hp
 ·obtain⟨hi',e⟩:=ZA hd;have hk2:k<n:=by omega
  subst e;exact turn k ys h' hk2 w
def IsS (n:Nat)(S:List Nat):Prop:= ∃p:Nat->Bool,S=(List.range n).filter p
variable {n:Nat}{S:List Nat}
theorem IsS.lt (h:IsS n S){i:Nat}(hi:i∈S):i<n:=by
 obtain⟨p,rfl⟩:=h;exact D6.mp (N0.mp hi).1
theorem IsS.len (h:IsS n S):S.length<=n:=by
 obtain⟨p,rfl⟩:=h;have:=L7 p (List.range n)
 rwa [R5] at this
theorem IsS.rise (h:IsS n S):S.Pairwise (· < ·):=by
 obtain⟨p,rfl⟩:=h;exact List.pairwise_lt_range.filter p
def Xt (n:Nat)(T:List (List Int))(S:List Nat):List Nat:=(List.range n).filter λj=>S.any λi=>decide (ent T i j≠0)
theorem IsS.step (T:List (List Int))(S:List Nat):IsS n (Xt n T S):=⟨_,rfl⟩
def itF {α:Type}(f:α->α)(x:α):Nat->α
 |0=>x
 |k+1=>f (itF f x k)
theorem VX {α:Type}[DecidableEq α]: ∀ {l m:List α},l.Nodup->(∀x∈l,x∈m)->l.length<=m.length
 | [],_,_,_=>S9 _
 |a::l,m,nd,h=>by
  have hm:=h a P9;have h2:l.length<=(m.erase a).length:=VX (L6.mp nd).2 λx hx=>by
   have hxa:x≠a:=λe=>(L6.mp nd).1 (e ▸ hx)
   exact(Q7 hxa).mpr (h x (D5 _ hx))
  rw [J0 hm] at h2;have:=K5 hm;simp only [P6];omega
def GH (S:List Nat):PyData:=Cm (Wv S)
theorem Xu (h:HD)(S:List Nat):ToP h (jK S) (GH S):=by rw [FW];exact⟨_,rfl,vH h _⟩
theorem VY (h:HD): ∀Ss:List (List Nat),ToPs h (Ss.map jK) (Ss.map GH)
 | []=>rfl
 |S::Ss=>⟨_,_,rfl,Xu h S,VY h Ss⟩
theorem GI (r:List Int):(Cm r).canLay0=true:=by unfold Cm;simp only [PyData.canLay0];exact vb r
theorem VZ (r:List Int):(Cm r).depth<=2:=by unfold Cm;simp only [PyData.depth];have:=Jh r;omega
theorem Ya: ∀a b:List Int,PyData.eqvAll (a.map PyData.int) (b.map PyData.int)=decide (a=b)
 | [],[]=>by simp [PyData.eqvAll]
 | [],_::_=>by simp [PyData.eqvAll]
 |_::_,[]=>by simp [PyData.eqvAll]
 |x::a,y::b=>by
  show ((x==y)&&PyData.eqvAll (a.map .int) (b.map .int))=_;rw [Ya a b,C5];simp
theorem La (a b:List Int):PyData.eqv (Cm a) (Cm b)=decide (a=b):=Ya a b
theorem Rg {a b:List Nat}(h:Wv a=Wv b):a=b:=by
 have:=congrArg (List.map Int.toNat) h;unfold Wv at this;simpa [M9,G00] using this
theorem Lb (a b:List Nat):PyData.eqv (GH a) (GH b)=decide (a=b):=by
 unfold GH;rw [La,C5,E3,E3];exact⟨Rg,λe=>by rw [e]⟩
theorem Lc {α:Type}{f:Nat->α}{L:Nat}(h:i<L):atI ((List.range L).map f) (i:Int)=some (f i):=
 we (by rw [P4,O9 h];rfl)
theorem GJ {e:Nat}{T:List (List Int)}(hT:Sq n e T)(hS:IsS n S){j:Nat}(hj:j<n){m:Int}(m1:m∈0::S.map λi=>ent T i j)(m2: ∀x∈0::S.map λi=>ent T i j,x<=m):decide (m>0)=S.any λi=>decide (ent T i j≠0):=by
 rw [C5,E3,G0t];constructor
 ·intro z;rcases P3.mp m1 with e|e
  ·omega
  ·obtain⟨i,hi,rfl⟩:=R7.mp e;exact⟨i,hi,R1 (by omega)⟩
 ·rintro ⟨i,hi,z⟩;have z':=N8 z;have a:=(hT.ent_nn (hS.lt hi) hj).1;have b:=m2 _ (D5 _ (R7.mpr ⟨i,hi,rfl⟩));omega
theorem NH {js:List Nat}{ta:TAD}{tt:TTD}{te:TED}{σ:SD}{h h1:HD}{Q:KD}(n:Nat)(W:Nat->List D->HD->Prop)(hn:n<=1000)(ht: ∀R:List D->HD->Prop,R [.int (n:Int)] h1->ta σ h R)
 (w0:W 0 [] h1)(wl: ∀k ys h',W k ys h'->ys.length<=k)(turn: ∀k ys h',k<n->W k ys h'->tt ((jP js σ).set i (some (.int (k:Int)))) h' λb h3=>if b=true then te ((jP js σ).set i (some (.int (k:Int)))) h3 λy h4=> ∃h5,Sub h5 h4/\(k+1<=n/\W (k+1) (ys++ [y]) h5) else ∃h5,Sub h5 h3/\(k+1<=n/\W (k+1) ys h5))
 (done: ∀ys h',W n ys h'->Q (.tup ys) h'):dCB Ju (vC (Zy (bN i) js (iR1 ta) tt te) PQ) σ h Q:=by
 show Zy (bN i) js (iR1 ta) tt te σ h (λx h1=>Ju [x] h1 Q);exact FZ n W hn ht w0 wl turn λys h' w p hp=>(show ∃zs,zB h' p ys p=some zs/\Q (.tup zs) (Wt (zB h' p ys) p) from ⟨_,jc,by rw [yl hp];exact done ys h' w⟩)
structure Enc {α:Type}[DecidableEq α](e:α->D)(p:α->PyData):Prop where
 to: ∀ (h:HD) a,ToP h (e a) (p a)
 lay: ∀a,(p a).canLay0=true
 dp: ∀a,(p a).depth<=60
 eq: ∀a b,PyData.eqv (p a) (p b)=decide (a=b)
section
variable {α:Type}[DecidableEq α]{e:α->D}{p:α->PyData}
theorem Enc.lays (E:Enc e p): ∀as:List α,PyData.canLayAll0 (as.map p)=true
 | []=>rfl
 |a::as=>by show (PyData.canLay0 (p a)&&_)=true;rw [E.lays as,E.lay a];rfl
end
def mk1 (n:Nat)(T:List (List Int))(M:List (List Int)):List (List Int):=EJ n (Kp n M T)
def Ht (n:Nat)(T:List (List Int))(i:Nat):List (List Int):=itF (mk1 n T) (EJ n T) i
def RP (n:Nat)(T:List (List Int))(k i j:Nat):Prop:=ent (Hq n T k) i j≠0
section
variable {n e:Nat}{T:List (List Int)}
structure Course (n:Nat)(T:List (List Int))(L J:Nat):Prop where
 nd:((List.range L).map (Ht n T)).Nodup
 lt:J<L
 eq:Ht n T L=Ht n T J
end
structure Grid (n:Nat)(h0 h:HD)(p R:Addr)(rs:List Addr):Prop where
 at_:h R=some (rs.map D.lst)
 len:rs.length=n
 nR:R ∉ rs
 fR:h0 R=none
 np:p ∉ rs
 nRp:R≠p
 row: ∀a∈rs,h0 a=none/\ ∃r,h a=some (r.map D.int)/\wM n r
section
variable {n:Nat}{h0 h:HD}{p R:Addr}{rs:List Addr}
theorem Grid.pen (g:Grid n h0 h p R rs)(ds:List D):Grid n h0 (zB h p ds) p R rs:=
 ⟨jj g.nRp g.at_,g.len,g.nR,g.fR,g.np,g.nRp,λa ha=>⟨(g.row a ha).1,let ⟨r,e,gr⟩:=(g.row a ha).2;⟨r,jj (λz=>g.np (z ▸ ha)) e,gr⟩⟩⟩
theorem Grid.pick (g:Grid n h0 h p R rs){i:Nat}(hi:i<n): ∃a r,atI (rs.map D.lst) (i:Int)=some (.lst a)/\a∈rs/\h a=some (r.map D.int)/\wM n r/\h0 a=none/\a≠p:=by
 have hi':i<rs.length:=by rw [g.len];exact hi
 have hm:=N3 hi';obtain⟨f,r,e,gr⟩:=g.row _ hm;exact⟨rs[i],r,we (by rw [P4,G2 hi'];rfl),hm,e,gr,f,λz=>g.np (z ▸ hm)⟩
theorem Grid.set (g:Grid n h0 h p R rs){a:Addr}{r:List Int}(ha:a∈rs)(e:h a=some (r.map D.int))(gr:wM n r){j:Nat}{v:Int}(v0:0<=v)(v1:v<=1000000):Grid n h0 (zB h a ((r.map D.int).set j (.int v))) p R rs:=by
 refine⟨jj (λz=>g.nR (z ▸ ha)) g.at_,g.len,g.nR,g.fR,g.np,g.nRp,λb hb=>⟨(g.row b hb).1,?_⟩⟩
 by_cases z:b=a
 ·subst z;refine⟨r.set j v,by rw [jc,List.map_set],by rw [List.length_set];exact gr.1,λx hx=> ?_⟩;rcases List.mem_or_eq_of_mem_set hx with y|y
  ·exact gr.2 x y
  ·subst y;exact⟨v0,v1⟩
 ·obtain⟨r',e',gr'⟩:=(g.row b hb).2;exact⟨r',jj z e',gr'⟩
theorem Grid.tab (g:Grid n h0 h p R rs): ∃T,GoodTab n T/\(rs.map λa=>D.tup ((h a).getD []))=T.map Wu:=by
 have key: ∀l:List Addr,(∀a∈l,∃r,h a=some (r.map D.int)/\wM n r)-> ∃T:List (List Int),T.length=l.length/\(∀r∈T,wM n r)/\(l.map λa=>D.tup ((h a).getD []))=T.map Wu:=by
  intro l
  induction l with
  |nil=>intro _;exact⟨[],rfl,by simp,rfl⟩
  |cons a l ih=>
   intro hl;obtain⟨T,a1,a2,a3⟩:=ih λb hb=>hl b (D5 _ hb)
   obtain⟨r,e,gr⟩:=hl a P9;refine⟨r::T,by simp [a1],λx hx=> ?_,?_⟩
   ·rcases P3.mp hx with z|z
    ·subst z;exact gr
    ·exact a2 x z
   ·rw [T9,T9,a3,e];rfl
 obtain⟨T,a1,a2,a3⟩:=key rs λa ha=>(g.row a ha).2
 exact⟨T,⟨by rw [a1,g.len],a2⟩,a3⟩
end
theorem Ld {js:List Nat}{ti:TID}{te:TED}{σ:SD}{h h1:HD}{Q:KD}(ds:List D)(W:Nat->List D->HD->Prop)(hn:ds.length<=1000)(ht: ∀R:ItD->HD->Prop,R (λ_=>some ds) h1->ti σ h R)
 (w0:W 0 [] h1)(wl: ∀k ys h',W k ys h'->ys.length<=k)(turn: ∀k ys h' d,ds[k]? =some d->W k ys h'->te ((jP js σ).set i (some d)) h' λy h4=> ∃h5,Sub h5 h4/\(k+1<=ds.length/\W (k+1) (ys++ [y]) h5))
 (done: ∀ys h',W ds.length ys h'-> ∀p,h' p=none->Q (.lst p) (zB h' p ys)):Zy (bN i) js ti Xm te σ h Q:=by
 refine ht _ ⟨ds.length,λk ys h'=>k<=ds.length/\W k ys h',⟨S9 _,w0⟩,?_⟩;rintro k ys h' ⟨hk,w⟩;refine⟨P7 (wl k ys h' w) (D4 (jA (by omega))),ds,rfl,G5 _,λhl p hp=> ?_,λd hd=>⟨_,rfl,?_⟩⟩
 ·have:k=ds.length:=by omega
  subst this;exact done _ _ w p hp
 ·unfold Xm;dsimp only;rw [if_pos rfl];exact turn k ys h' d hd w
theorem Le {o:List Nat}(ho:Ordr n o){i:Nat}(hi:i<n): ∃k,k<n/\atI (o.map λ(k:Nat)=>D.int (k:Int)) (i:Int)=some (.int (k:Int)):=by
 have hi':i<o.length:=by rw [ho.ord.len];exact hi
 refine⟨o[i],D6.mp (ho.mem_iff.mp (N3 hi')),we (by rw [P4,G2 hi'];rfl)⟩
theorem YH (h:i<n):ixN n (i:Int)=some i:=by
 unfold ixN;simp;omega
theorem call_divmodB {X:Cx}:CallR X (.builtin "divmod") (λxs H Q=> ∃i j,xs= [.int i,.int j]/\(0<j/\j<2^200)/\ ∀p,H p=none->Q (.ref p) (upd H p (.tup [.int (i / j),.int (i%j)]))):=by
 intro pins s σ H xs us Q I r h;obtain⟨i,j,rfl,⟨h1,h2⟩,q⟩:=h;obtain⟨u,w',rfl,⟨t,rfl⟩,⟨t',rfl⟩⟩:=Do r;refine divmod_int (by omega) ?_ (.inl (PyProof.noPylong_of_log2 ?_))
 ·rw [G0I i (by omega),G0J i (by omega)];have hn:H s.heap.objs.size=none:=I.hok.fresh (G5 _);refine⟨.ref s.heap.objs.size,_,?_,rfl,q _ hn⟩;refine I.laid (λb o e=>G1 _ e) (G5 _) ⟨by simp only [P6,S8];rw [sizeLine_eq];decide,[.int (i / j) s.toks,.int (i%j) (s.toks+1)],.cons ⟨_,rfl⟩ (.cons ⟨_,rfl⟩ .nil),?_⟩;exact⟨_,D0 s.heap rfl,rfl,rfl,0,rfl⟩
 ·have h3:j.natAbs<2^200:=DT (by omega) h2;have h4:=(Nat.log2_lt (by omega:j.natAbs≠0)).mpr h3;omega
def Lf:RDn:=λds h Q=> ∃i j:Int,ds= [.int i,.int j]/\(0<j/\j<2^200)/\Q (.tup [.int (i / j),.int (i%j)]) h
theorem GK {X:Cx}:yZ X (.builtin "divmod") Lf:=call_divmodB.imp λxs H Q ⟨ds,h,Qd,r,rh,⟨i,j,e,c,q⟩,p⟩=>by
 subst e;obtain⟨v,w,e,r1,r2⟩:=ym r;cases (show v= .int i from r1);cases (show w= .int j from r2);exact⟨i,j,e,c,λa ha=>p (.tup [.int (i / j),.int (i%j)]) _ _ _ (.new ha) (rh.new ha) ⟨a,_,rfl,jp,.cons rfl (.cons rfl .nil)⟩ q⟩
structure TabsOk (n:Nat)(Ts:List (List (List Int))):Prop where
 n1:1<=n
 n3:n<=3
 l1:1<=Ts.length
 l3:Ts.length<=3
 sq: ∀T∈Ts,Sq n 20 T
end L2
set_option maxRecDepth 35000
namespace L2
open PySem PySem.Spec PyProof.Rows PySem.SeqAt
def Sm (k b:Nat)(d:D):Prop:= ∃p:PyData,(∀h,ToP h d p)/\ShowB p k b/\p.canLay0=true
def bnd:Nat->Nat
 |0=>200
 |k+1=>(bnd k+2)*155+3
def SmK (k:Nat)(d:D):Prop:=Sm k (bnd k) d
structure SmN (n:Nat)(ds:List D):Prop where
 len:ds.length<=n
 sm: ∀d∈ds,SmK 1 d
section
variable {α:Type}{i i':Nat}{js:List Nat}{ti:TID}{te:TED}{σ:SD}{h:HD}{Q:KD}{j:ItD}
theorem kN (xs:List α)(c c' g:α->D)(p:α->Bool){tt:TTD}(hz:xs.length<=1000)(hj:j h=some (xs.map λx=> .tup [c x,c' x]))(ht: ∀R:ItD->HD->Prop,R j h->ti σ h R)
 (hp: ∀x∈xs,∀Q':Bool->HD->Prop,Q' (p x) h->tt (((jP js σ).set i (some (c x))).set i' (some (c' x))) h Q')(he: ∀x∈xs,p x=true-> ∀Q':KD,Q' (g x) h->te (((jP js σ).set i (some (c x))).set i' (some (c' x))) h Q')(hq: ∀a,h a=none->Q (.lst a) (zB h a ((xs.filter p).map g))):Zy (b2 i i') js ti tt te σ h Q:=by
 refine ht _ ⟨xs.length,λk ys h'=>h'=h/\ys=((xs.take k).filter p).map g,⟨rfl,by simp⟩,?_⟩;rintro k ys h' ⟨rfl,rfl⟩;refine⟨?_,_,hj,by simp,λhl a ha=> ?_,λd hd=> ?_⟩
 ·have:=L7 p (xs.take k);simp only [G0,D8] at this ⊢;exact D4 (jA (by omega))
 ·rw [D9 (by simpa using hl)];exact hq a ha
 ·rw [P4] at hd;cases hx:xs[k]? with
  |none=>rw [hx] at hd;cases hd
  |some x=>
   rw [hx] at hd;cases hd;refine⟨_,⟨_,_,rfl,rfl⟩,?_⟩;refine hp x (G9 hx) _ ?_;cases hb:p x with
   |true=>
    rw [if_pos rfl];refine he x (G9 hx) hb _ ⟨_,Sub.refl _,rfl,?_⟩;rw [F4,hx];simp [hb]
   |false=>
    rw [if_neg (by decide)];refine⟨_,Sub.refl _,rfl,?_⟩;rw [F4,hx];simp [hb]
end
def Co (T:List (List Int))(n p:Nat):List Nat:=(List.range n).filter λj=>decide (ent T p j>0)
def cnt (T:List (List Int))(n o:Nat):Nat->Nat->Int
 |0,p=>if p=o then 1 else 0
 |t+1,p=>((Co T n p).map (cnt T n o t)).sum
section
variable {T:List (List Int)}{n o:Nat}
def kO (T:List (List Int))(n o t p:Nat):Nat:=(Co T n p).findIdx λj=>decide (cnt T n o t j>0)
def nxt (T:List (List Int))(n o t p:Nat):Nat:=(Co T n p).getD (kO T n o t p) 0
end
theorem NI {α:Type}{xs:List α}{x:α}(h1:1<=xs.length)(h:xs[xs.length-1]? =some x):atI xs (-1)=some x:=by
 unfold atI ixN;rw [if_neg (by decide),if_pos (by omega)];show xs[(-1+(xs.length:Int)).toNat]? =_;rw [show (-1+(xs.length:Int)).toNat=xs.length-1 by omega];exact h
end L2
namespace L2
open PySem PySem.Spec PyProof.Rows
theorem ObjOk.there {P:Program}{w:World}{H:Hp}{h:Heap}{a:Addr}{o:HO}(x:ObjOk P w H h a o): ∃u,h.get? a=some u:=by
 cases o with
 |lst xs=>obtain⟨_,_,_,_,e⟩:=x;exact⟨_,e⟩
 |tup xs=>obtain⟨_,_,_,p⟩:=x;obtain⟨o,e,_⟩:=p;exact⟨_,e⟩
 |dK kvs=>obtain⟨_,_,_,_,o,_,_,e,_⟩:=x;exact⟨_,e⟩
 |dT kvs=>obtain⟨_,_,_,_,o,_,_,e,_⟩:=x;exact⟨_,e⟩
 |set S n=>obtain⟨o,_,_,_,e,_⟩:=x;exact⟨_,e⟩
 |ins C dx fs=>obtain⟨_,_,_,e,_⟩:=x;exact⟨_,e⟩
 |own y=>obtain⟨_,e⟩:=x;exact⟨_,e⟩
 |xd fs=>obtain⟨_,⟨_,_,_,e,_⟩,_⟩:=x;exact⟨_,e⟩
 |rng lo hi=>obtain⟨_,_,_,e⟩:=x;exact⟨_,e⟩
 |frz ob u=>obtain⟨e,_⟩:=x;exact⟨_,e⟩
 |tbl ps=>exact⟨_,(show h.get? a=some _ from x)⟩
 |met f y=>exact⟨_,(show h.get? a=some _ from x)⟩
 |ext φ=>obtain⟨_,⟨_,e⟩,_⟩:=x;exact⟨_,e⟩
theorem zf {h b b':Heap}: ∀ {l:List Env},h.FunFrames b l->(∀a∈frs l,b'.get? a=none)->h.FunFrames b' l
 | [],_,_=>trivial
 |env::r,⟨hk,⟨L,o,hf,_,ho,hd⟩,hr⟩,n=>by
  refine⟨hk,⟨L,o,hf,n L ?_,ho,hd⟩,zf hr λa ha=>n a ?_⟩
  ·unfold frs;rw [List.filterMap_cons,hf];exact .head _
  ·unfold frs;rw [List.filterMap_cons,hf];exact .tail _ ha
structure Fly (h0:Heap)(H:Hp)(h:Heap)(x C:Addr):Prop where
 ex: ∃ (oe:Obj) (vs:Array Value) (a0:Value) (T:Addr) (oT:Obj) (ts:Array Value),h.get? x=some oe/\oe.cls= .ref C/\oe.data= .fields vs/\vs[0]? =some a0/\vs[1]? =some (.ref T)/\T≠x/\
  h.get? T=some oT/\oT.data= .fields ts/\ts[3]? =some .none/\H T=none/\h0.get? T=none
 nx:H x=none
 n0:h0.get? x=none
def CXR (P:Program)(w:World):CXT:=λouter H s E e s'=> ∃x C H',e= .ref x/\s'.os=s.os/\AllBare s'.gens/\Un (frs outer) [] H H' s.heap s'.heap/\HOk P w H' s'.heap/\Fly s.heap H' s'.heap x C/\E (.ref C) none H'
structure Rz0 (X:Cx):Prop where
 stk:X.stack=X.env::X.outer
 fr:X.env.frame=some X.env.locals
 ex:X.ex= []
structure Rz (X:Cx)(E:XK):Prop extends Rz0 X where
 xe: ∀e s',wpAny (model X.prog X.w) X.A (leaving X.env e) (λ_ s''=>CXR X.prog X.w X.outer X.H₀ X.s₀ E e s'') (λe' s''=>CXR X.prog X.w X.outer X.H₀ X.s₀ E e' s'') s'->X.xe e s'
section
variable {X:Cx}{pins:List (Addr×Obj)}{σ:St}{H:Hp}{s:Shared}{E:XK}{x C:Addr}
theorem Rh (I:Inv X pins σ H s)(Z:Rz0 X){ys:List Addr}(hy: ∀y∈ys,H y=none/\X.s₀.heap.get? y=none){h':Heap}
 (kb: ∀b o,s.heap.get? b=some o->b ∉ ys->b ∉ frs (X.env::X.outer)->h'.get? b=some o)
 (up: ∀b o,s.heap.get? b=some o->b∈frs (X.env::X.outer)-> ∃sl,h'.get? b=some {o with slots:=sl}):
 Un X.fs [] X.H₀ H X.s₀.heap h'/\HOk X.prog X.w H h'/\
  ∀T oT ts,h'.get? T=some oT->oT.data= .fields ts->(∀o,s.heap.get? T=some o->T∈ys\/T∈frs (X.env::X.outer))->H T=none/\X.s₀.heap.get? T=none:=by
 have nex: ∀b,b ∉ X.ex:=λb=>by rw [Z.ex];simp
 have neL: ∀b o,X.s₀.heap.get? b=some o->b≠X.env.locals:=λb o e=>R3 (D7 (P1 e) I.ok.above)
 have mem: ∀b,b∈frs (X.env::X.outer)↔b=X.env.locals\/b∈X.fs:=λb=>by
  show b∈List.filterMap _ _↔_;rw [G0B,Z.fr];exact P3
 have nys: ∀b o,X.s₀.heap.get? b=some o->b ∉ ys:=λb o e z=>by rw [(hy b z).2] at e;cases e
 have trf: ∀b u,H b=some u->b ∉ ys/\b ∉ frs (X.env::X.outer):=λb u e=>by
  refine⟨λz=> ?_,λz=> ?_⟩
  ·rw [(hy b z).1] at e;cases e
  ·have:=I.stkFree b (by rw [Z.stk];exact z);rw [this] at e;cases e
 refine⟨⟨λb o e n hb hx=> ?_,λb o e n hb hx=> ?_,λb o e n hx=>I.base.free b o e n (nex b),λb o e hx=> ?_,I.base.tups,I.base.frzs,I.base.tbls⟩,λa o e=> ?_,λT oT ts hT hd hn=>⟨?_,?_⟩⟩
 ·exact kb b o (I.base.keep b o e n hb (nex b)) (nys b o e) λz=>((mem b).mp z).elim (neL b o e) hb
 ·obtain⟨sl,e1⟩:=I.base.slot b o e n hb (nex b);obtain⟨sl',e2⟩:=up b _ e1 ((mem b).mpr (.inr hb));exact⟨sl',e2⟩
 ·obtain⟨o',e1⟩:=I.base.there b o e (nex b)
  by_cases hb:b∈frs (X.env::X.outer)
  ·obtain⟨sl,e2⟩:=up b o' e1 hb;exact⟨_,e2⟩
  ·exact⟨_,kb b o' e1 (nys b o e) hb⟩
 ·refine(I.hok a o e).stay (λb u hb q=> ?_) (λ_ q=>q) λ_ _ q=>q
  rcases hb with rfl|hb
  ·exact kb b u q (trf b _ e).1 (trf b _ e).2
  ·exact kb b u q (trf b _ hb).1 (trf b _ hb).2
 ·cases q:H T with
  |none=>rfl
  |some u=>
   obtain⟨o,e⟩:=(I.hok T u q).there;exact absurd (hn o e) λz=>z.elim (trf T u q).1 (trf T u q).2
 ·cases q:X.s₀.heap.get? T with
  |none=>rfl
  |some o=>
   exfalso;obtain⟨o',e1⟩:=I.base.there T o q (nex T);rcases hn o' e1 with z|z
   ·exact nys T o q z
   ·rcases (mem T).mp z with z'|z'
    ·exact neL T o q z'
    ·obtain⟨_,o2,e2,nd⟩:=(show s.heap.FunFrames X.base (X.env::X.outer) from Z.stk ▸ I.stack).mem z;obtain⟨sl,e3⟩:=up T o2 e2 z;rw [hT] at e3;cases e3;exact nd ts hd
theorem Ri {Q:Unit->Shared->Prop}{M:Model}{EE:Value->Shared->Prop}(I:Inv X pins σ H s)(Z:Rz X E)(fl:Fly X.s₀.heap H s.heap x C)
 (k: ∀h',Un X.fs [] X.H₀ H X.s₀.heap h'->HOk X.prog X.w H h'->Fly X.s₀.heap H h' x C->Q () {s with heap:=h'}):wpAny M X.A (leaving X.env (.ref x)) Q EE s:=by
 obtain⟨oe,vs,a0,T,oT,ts,he,hc,hd,h0,h1,hTx,hT,hTd,h3,hHT,h0T⟩:=fl.ex;have hfr:X.A.frames=some (X.env::X.outer):=by rw [I.ok.frames,Z.stk]
 have stk:s.heap.FunFrames X.base (X.env::X.outer):=Z.stk ▸ I.stack;have ff:s.heap.FunFrames (PySem.W.hideAll s.heap (x::T::frs (X.env::X.outer))) (X.env::X.outer):=zf stk λa ha=>Q6 _ (.tail _ (.tail _ ha))
 refine wpAny_leaves_onW (base:=PySem.W.hideAll s.heap (x::T::frs (X.env::X.outer))) (cls:= .ref C) (a0:=a0) hfr Z.fr
  ⟨λb o e=>G0N _ e,Q6 _ (.head _),ff,oe,vs,T,oT,ts,he,⟨hc,h0⟩,hd,h1,Q6 _ (.tail _ (.head _)),hTx,hT,hTd,h3⟩ λh' hfl' hup=> ?_
 obtain⟨st,_,_,oe',vs',T',oT',ts',he',⟨hc',h0'⟩,hd',h1',hTB,hTx',hT',hTd',h3'⟩:=hfl';obtain⟨r1,r2,r3⟩:=Rh (ys:= [x,T]) (h':=h') I Z.toRz0 (λy hy=>by
  rcases P3.mp hy with rfl|hy
  ·exact⟨fl.nx,fl.n0⟩
  ·rcases P3.mp hy with rfl|hy
   ·exact⟨hHT,h0T⟩
   ·cases hy) (λb o e n1 n2=>st b o (V0 _ e λz=>by
    rcases P3.mp z with rfl|z
    ·exact n1 (.head _)
    ·rcases P3.mp z with rfl|z
     ·exact n1 (.tail _ (.head _))
     ·exact n2 z)) λb o e hb=>by
  obtain⟨_,o2,e2,nd⟩:=stk.mem hb;rw [e] at e2;cases e2;exact hup b o e nd
 obtain⟨q1,q2⟩:=r3 T' oT' ts' hT' hTd' λo e=>by
  by_cases z:T'∈frs (X.env::X.outer)
  ·exact .inr z
  ·refine .inl ?_
   by_cases z1:T'=x
   ·rw [z1];exact .head _
   ·by_cases z2:T'=T
    ·rw [z2];exact .tail _ (.head _)
    ·rw [V0 _ e (by simp only [P3,not_or];exact⟨z1,z2,z⟩)] at hTB;cases hTB
 exact k h' r1 r2 ⟨⟨oe',vs',a0,T',oT',ts',he',hc',hd',h0',h1',hTx',hT',hTd',h3',q1,q2⟩,fl.nx,fl.n0⟩
theorem GL {Q:Unit->Shared->Prop}{M:Model}{EE:Value->Shared->Prop}{h1:Heap}{args:List Value}(I:Inv X pins σ H s)(Z:Rz X E)(hm:Heap.MadeExcOf s.heap h1 x (.ref C) args)
 (k: ∀h',Un X.fs [] X.H₀ H X.s₀.heap h'->HOk X.prog X.w H h'->Fly X.s₀.heap H h' x C->Q () {s with heap:=h'}):wpAny M X.A (leaving X.env (.ref x)) Q EE {s with heap:=h1}:=by
 have hfr:X.A.frames=some (X.env::X.outer):=by rw [I.ok.frames,Z.stk]
 have stk:s.heap.FunFrames X.base (X.env::X.outer):=Z.stk ▸ I.stack;have ff:s.heap.FunFrames (PySem.W.hideAll s.heap (frs (X.env::X.outer))) (X.env::X.outer):=zf stk λa ha=>Q6 _ ha
 refine wpAny_leaves_madeW (base:=PySem.W.hideAll s.heap (frs (X.env::X.outer))) (h:=s.heap) (s:= {s with heap:=h1}) hfr Z.fr (λb o e=>G0N _ e) ff hm λh' t hfl' _ _ hup=> ?_
 obtain⟨st,_,_,oe',vs',T',oT',ts',he',⟨hc',h0'⟩,hd',h1',hTB,hTx',hT',hTd',h3'⟩:=hfl';obtain⟨r1,r2,r3⟩:=Rh (ys:= []) (h':=h') I Z.toRz0 (λy hy=>nomatch hy) (λb o e _ n2=>st b o (V0 _ e n2)) λb o e hb=>by
  obtain⟨_,o2,e2,nd⟩:=stk.mem hb;rw [e] at e2;cases e2;exact hup b o (hm.keeps b o e) nd
 obtain⟨q1,q2⟩:=r3 T' oT' ts' hT' hTd' λo e=>by
  by_cases z:T'∈frs (X.env::X.outer)
  ·exact .inr z
  ·rw [V0 _ e z] at hTB;cases hTB
 obtain⟨p1,p2⟩:=r3 x oe' vs' he' hd' λo e=>by rw [hm.new] at e;cases e
 exact k h' r1 r2 ⟨⟨oe',vs',_,T',oT',ts',he',hc',hd',h0',h1',hTx',hT',hTd',h3',q1,q2⟩,p1,p2⟩
theorem Hu (Z:Rz X E):Zk (CXR X.prog X.w) X E:=by
 intro pins σ H s e s' I ⟨x,C,H',he,os,bare,un,hok,fl,q⟩;subst he;obtain⟨hh,g,d,t,os'⟩:=s';obtain rfl:os'=s.os:=os;have I':=I.call (h':=hh) (g':=g) (d':=d) (t':=t) (ch:= []) un hok bare (λb z=>absurd z (by simp));have nex: ∀b,b ∉ X.ex:=λb=>by rw [Z.ex];simp
 have f0: ∀b,s.heap.get? b=none->X.s₀.heap.get? b=none:=λb n=>by
  cases q:X.s₀.heap.get? b with
  |none=>rfl
  |some o=>obtain⟨o',e⟩:=I.base.there b o q (nex b);rw [n] at e;cases e
 have fl':Fly X.s₀.heap H' hh x C:=by
  obtain⟨⟨oe,vs,a0,T,oT,ts,a1,a2,a3,a4,a5,a6,a7,a8,a9,a10,a11⟩,nx,n0⟩:=fl;exact⟨⟨oe,vs,a0,T,oT,ts,a1,a2,a3,a4,a5,a6,a7,a8,a9,a10,f0 _ a11⟩,nx,f0 _ n0⟩
 exact Z.xe _ _ (Ri I' Z fl' λh' u hk f=>⟨x,C,H',rfl,I'.os,I'.bare,u,hk,f,q⟩)
end
end L2
namespace L2
open PySem PySem.Spec PyProof.Rows PySem.W
def JN (cells:List (Str×Addr)):List (Str×NameKind)->List (Str×Addr)->List (Str×Addr)
 | [],cs=>cs
 |(n,k)::r,cs=>JN cells r (if k== .free then (match cells.lookup n with|some c=>(n,c)::cs|none=>cs) else cs)
theorem wO {env:Env}: ∀ (names:List (Str×NameKind)) (cs:List (Str×Addr)),(∀n,(n,NameKind.free)∈names-> ∃c,env.cells.lookup n=some c)->
 (forIn names cs (λ(x:Str×NameKind) (r:List (Str×Addr))=>do
  let (name,kind):=x
  if kind== .free then
   let c <-cellOf env name
   pure (ForInStep.yield ((name,c)::r))
  else pure (ForInStep.yield r)):Sem (List (Str×Addr)))=pure (JN env.cells names cs)
 | [],cs,_=>rfl
 |(n,k)::r,cs,h=>by
  rw [Z5]
  by_cases hk:(k==NameKind.free)=true
  ·have hk':k= .free:=eq_of_beq hk;subst hk';obtain⟨c,hc⟩:=h n (.head _);unfold JN;simp only [J4,if_true,cellOf,hc,pure_bind];exact wO r _ λn hn=>h n (.tail _ hn)
  ·unfold JN;simp only [hk,G1r,pure_bind];exact wO r _ λn hn=>h n (.tail _ hn)
variable {scope:Scope}
theorem ZG {env:Env}(h: ∀n,(n,NameKind.free)∈scope.names-> ∃c,env.cells.lookup n=some c):closureFor scope env=pure (JN env.cells scope.names []):=by
 have:=wO (env:=env) scope.names [] h;unfold closureFor
 first
  |exact this
  |simpa using this
theorem wG {cells:List (Str×Addr)}: ∀ (names:List (Str×NameKind)) (cs:List (Str×Addr)),(∀x c,cs.lookup x=some c->cells.lookup x=some c)-> ∀x c,(JN cells names cs).lookup x=some c->cells.lookup x=some c
 | [],_,h,x,c,e=>h x c e
 |(n,k)::r,cs,h,x,c,e=>by
  unfold JN at e;refine wG r _ (λy d hy=> ?_) x c e;split at hy
  ·split at hy
   ·rename_i c' hc';rw [C3] at hy
    by_cases q:(y==n)=true
    ·rw [q] at hy;cases hy;rw [eq_of_beq q];exact hc'
    ·simp only [q] at hy;exact h y d hy
   ·exact h y d hy
  ·exact h y d hy
theorem ZH {cells:List (Str×Addr)}: ∀ (names:List (Str×NameKind)) (cs:List (Str×Addr)) (x:Str),((x,NameKind.free)∈names/\(∃c,cells.lookup x=some c)\/ ∃c,cs.lookup x=some c)-> ∃c,(JN cells names cs).lookup x=some c
 | [],_,x,h=>h.elim (λz=>nomatch z.1) id
 |(n,k)::r,cs,x,h=>by
  unfold JN;refine ZH r _ x ?_;rcases h with ⟨hm,c,hc⟩|⟨c,hc⟩
  ·rcases P3.mp hm with q|q
   ·cases q;right;simp only [J4,if_true,hc];exact⟨c,by simp⟩
   ·exact .inl ⟨q,c,hc⟩
  ·right;split
   ·split
    ·rename_i c' hc'
     by_cases q:(x==n)=true
     ·exact⟨c',by rw [C3,q]⟩
     ·exact⟨c,by rw [C3];simp only [q];exact hc⟩
    ·exact⟨c,hc⟩
   ·exact⟨c,hc⟩
structure LamOk (sc:Scope):Prop where
 kind:sc.kind= .function
 co:sc.isCoroutine=false
 gen:sc.isGenerator=false
 nocell: ∀y∈sc.names,y.2≠ .cell/\y.2≠ .local
def Ww:Arguments:= {posonlyargs:= [],args:= [],vararg:=none,kwonlyargs:= [],kw_defaults:= [],kwarg:=none,defaults:= []}
theorem Ua {a0 b0:Nat}{c:Value}: ∀l:List Value,TriplesOk l->TriplesOk (l++ [rawInt a0,rawInt b0,c]):=by
 intro l h
 fun_induction TriplesOk l with
 |case1=>simp [TriplesOk,rawInt]
 |case2 a t b u x rest ih=>simp only [A6,TriplesOk];exact ih h
 |case3 l h1 h2=>exact h.elim
theorem GM {p:Pos}{a0 b0:Nat}{c cv:Value}: ∀l:List Value,TriplesOk l->codeAmong p (l++ [rawInt a0,rawInt b0,c])=some cv->codeAmong p l=some cv\/cv=c:=by
 intro l h e
 fun_induction TriplesOk l with
 |case1=>
  right;simp only [B2,codeAmong,rawInt] at e;split at e
  ·exact(C4 e).symm
  ·cases e
 |case2 a t b u x rest ih=>
  simp only [A6,codeAmong] at e ⊢;split at e
  ·rename_i hc;left;rw [if_pos hc];exact e
  ·rename_i hc;rw [if_neg hc];exact ih h e
 |case3 l h1 h2=>exact h.elim
def CodeF (H:Hp)(cv:Value)(q:Str):Prop:= ∃ (c:Addr) (o:Obj) (vs:Array Value) (t:Tok),cv= .ref c/\H c=some (.frz o (.own 0))/\o.data= .fields vs/\vs[1]? =some (.str q t)
variable {w:World}{H:Hp}{q:Str}
theorem CodeF.rec {P:Program}{h:Heap}{cv:Value}(x:CodeF H cv q)(ok:HOk P w H h):h.CodeRec cv q:=let ⟨c,o,vs,t,e,e2,r⟩:=x;⟨c,o,vs,t,e,(ok c _ e2).1,r⟩
section
variable {X:Cx}{pins:List (Addr×Obj)}{σ:St}{H:Hp}{s:Shared}
theorem NJ {M:Model}{A:Around}{E:Value->Shared->Prop}{Q:Value->Shared->Prop}{body:Expr}{scope:Scope}{pos:Pos}{c P:Addr}{ps:Array Value}{clos:List (Str×Addr)}(I:Inv X pins σ H s)(B:Bm X.mg X.base)
 (hcode:X.env.code= .ref c)(hc:codeHdIn X.K c P=true)(hP:H P=some (.tbl ps))(hps:CodesOk H ps)(hcl:closureFor scope X.env=pure clos)
 (k: ∀ (f:Addr) (q qual:Str) (pm cv ctv:Value) (H':Hp) (h':Heap) (tk:Tok),Inv X pins σ H' {s with heap:=h',toks:=tk}->Kept H H'->(∀a xs,H a=some (.lst xs)->H' a=some (.lst xs))->
  (∀a ps',H a=some (.tbl ps')->a≠P->H' a=some (.tbl ps'))->(∃ps',H' P=some (.tbl ps')/\CodesOk H' ps')->
  h'.get? f=some {cls:= .type "function",data:= .func (kla_fn "<lambda>" qual Ww body scope clos pm cv ctv)}->CodeF H' cv q->H' f=none->(∀x d,X.env.cells.lookup x=some d->d≠f)->f≠X.env.locals->f ∉ X.fs->Q (.ref f) {s with heap:=h',toks:=tk}):
 wpAny M A (eval (.Lambda Ww body scope pos) X.env) Q E s:=by
 have hPg:s.heap.get? P=some (tabObj ps):=I.hok P _ hP;have C:CodeHd s.heap c P:=codeHd_of_K I.kIn hc;have hgs:s.heap.Ns mainGlobals X.mg:=I.mod.glob.keeps I.bk;obtain⟨bm,ob,b1,b2,b3,b4,b5,b6⟩:=B;have bb:=I.bs _ _ b3;have hgP:mainGlobals≠P:=λq=>by
  obtain⟨o,es,ep,e,hd,_⟩:=hgs;rw [q,hPg] at e;cases e;cases hd
 have hbP:bm≠P:=λq=>by rw [q,hP] at bb;cases bb.2
 have hbG:bm≠mainGlobals:=λq=>by
  obtain⟨o,es,ep,e,hd,_⟩:=hgs;rw [q,e] at bb;cases bb.1;rw [hd] at b6;cases b6
 have BA:s.heap.BuiltinsAt X.mg P:=⟨bm,ob,b1,b2,hbG,hbP,bb.1,b4,b5,b6⟩;have away: ∀f,s.heap.objs.size<=f->(∀x d,X.env.cells.lookup x=some d->d≠f)/\f≠X.env.locals/\f ∉ X.fs:=λf hf=>⟨λx d e z=>by
  obtain⟨v,o,ho,_⟩:=I.cell x d e;exact absurd (D7 (P1 ho) (z ▸ hf)) (S7 _),λz=>absurd (D7 I.lt (z ▸ hf)) (S7 _),I.nofs hf⟩
 refine kla_eval rfl ?_;cases hf:codeAmong pos ps.toList with
 |none=>
  refine kla_makeFunction (mg:=X.mg) hcl I.ok.glob hgs hcode C hPg hps.1 hf hgP BA λc' ctv h' tk hx hge hlt hrec htb=> ?_
  have hP':P<s.heap.objs.size:=P1 hPg;have hcP:c'≠P:=J9 (D7 hP' hge);have hcn:H c'=none:=I.hok.fresh hge;obtain⟨c₂,oc,vs,t,e2,hoc,hd,hv⟩:=hrec;cases e2;have szle:s.heap.objs.size<=h'.objs.size:=D4 (A3 hge hlt);have kp: ∀ (o2:Obj) b o,b≠P->s.heap.get? b=some o->(h'.push o2).get? b=some o:=λo2 b o nb e=>G1 _ (hx b o nb e)
  have hnP: ∀b u,H b=some u->(∀ps',u≠ .tbl ps')->b≠P:=λb u e n z=>by rw [z,hP] at e;cases e;exact n _ rfl
  have look: ∀b,b≠P->b≠c'->upd (upd H c' (.frz oc (.own 0))) P (.tbl (ps++ #[rawInt pos.line,rawInt pos.col,.ref c'])) b=H b:=λb n1 n2=>by rw [jl n1,jl n2]
  have ncs: ∀b u,H b=some u->b≠c':=λb u e z=>by rw [z,hcn] at e;cases e
  have frzs: ∀b o u,H b=some (.frz o u)->upd (upd H c' (.frz oc (.own 0))) P (.tbl (ps++ #[rawInt pos.line,rawInt pos.col,.ref c'])) b=some (.frz o u):=λb o u e=>by
   rw [look b (hnP b _ e (by intro _ z;cases z)) (ncs b _ e)];exact e
  refine k h'.objs.size (X.env.qual++ "<lambda>") (X.env.qual++ "<lambda>") _ (.ref c') ctv (upd (upd H c' (.frz oc (.own 0))) P (.tbl (ps++ #[rawInt pos.line,rawInt pos.col,.ref c']))) _ tk ?_ ?_ ?_ ?_ ?_ (D0 _ rfl) ⟨c',oc,vs,t,rfl,by rw [jl hcP,jp],hd,hv⟩ ?_ (away _ szle).1 (away _ szle).2.1 (away _ szle).2.2
  ·refine I.un (t':=tk) ⟨λb o e n hb hx'=>kp _ b o (λz=>by rw [z,hP] at n;cases n) e,λb o e n hb hx'=>⟨o.slots,kp _ b o (λz=>by rw [z,hP] at n;cases n) e⟩,λb o e n hx'=> ?_,λb o e hx'=> ?_,λb xs e=> ?_,frzs,λb ps' e=> ?_⟩ λa o e=> ?_
   ·rw [look b (λz=>by rw [z,hP] at n;cases n) (R3 (D7 (P1 e) hge))];exact n
   ·by_cases z:b=P
    ·rw [z];exact⟨_,G1 _ htb⟩
    ·exact⟨_,kp _ b o z e⟩
   ·rw [look b (hnP b _ e (by intro _ z;cases z)) (ncs b _ e)];exact e
   ·by_cases z:b=P
    ·subst z;rw [hP] at e;cases e;exact⟨_,jp⟩
    ·exact⟨#[],by rw [look b z (ncs b _ e),e];simp⟩
   ·by_cases z:a=P
    ·subst z;rw [jp] at e;cases e;exact G1 _ htb
    ·rw [jl z] at e
     by_cases z2:a=c'
     ·subst z2;rw [jp] at e;cases e;exact⟨G1 _ hoc,⟨oc,G1 _ hoc⟩⟩
     ·rw [jl z2] at e;refine(I.hok a o e).stay (λb u hb q=> ?_) (λb q=> ?_) λb xs q=> ?_
      ·rcases hb with rfl|hb
       ·exact kp _ b u z q
       ·exact kp _ b u (hnP b _ hb (by intro _ z;cases z)) q
      ·rw [look b (hnP b _ q (by intro _ z;cases z)) (ncs b _ q)];exact q
      ·rw [look b (hnP b _ q (by intro _ z;cases z)) (ncs b _ q)];exact q
  ·refine⟨λa xs e=> ?_,λa xs e=>⟨xs,?_⟩,λa kk e=> ?_,frzs⟩<;>(rw [look a (hnP a _ e (by intro _ z;cases z)) (ncs a _ e)];exact e)
  ·intro a xs e;rw [look a (hnP a _ e (by intro _ z;cases z)) (ncs a _ e)];exact e
  ·intro a ps' e n;rw [look a n (ncs a _ e)];exact e
  ·refine⟨_,jp,?_,λp cv e=> ?_⟩
   ·simp only [M0];exact Ua _ hps.1
   ·simp only [M0] at e;rcases GM ps.toList hps.1 e with e|e
    ·obtain⟨c1,o,vs',q',t',e1,e2,r⟩:=hps.2 p cv e;exact⟨c1,o,vs',q',t',e1,frzs _ _ _ e2,r⟩
    ·exact⟨c',oc,vs,_,t,e,by rw [jl hcP,jp],hd,hv⟩
  ·have:H h'.objs.size=none:=I.hok.fresh szle;rw [look _ (J9 (D7 hP' szle)) (J9 hlt)];exact this
 |some cv=>
  obtain⟨c1,o,vs,q,t,rfl,e2,hd,hv⟩:=hps.2 pos cv hf;obtain⟨ho,_⟩:=I.hok c1 _ e2;refine kla_makeFunctionHit (mg:=X.mg) hcl I.ok.glob hgs hcode C hPg hps.1 hf BA λctv h' tk hk hsz=> ?_
  exact k h'.objs.size q (X.env.qual++ "<lambda>") _ (.ref c1) ctv H _ tk (I.kept (t':=tk) λb u e=>G1 _ (hk b u e)) (.refl H) (λ_ _ e=>e) (λ_ _ e _=>e) ⟨ps,hP,hps⟩ (D0 _ rfl) ⟨c1,o,vs,t,rfl,e2,hd,hv⟩
   (I.hok.fresh hsz) (away _ hsz).1 (away _ hsz).2.1 (away _ hsz).2.2
end
structure Cap (N:List Str)(σ:St)(sc:Scope)(cl:List (Str×Addr))(h:Heap)(H:Hp):Prop where
 len:σ.length=N.length
 inj: ∀x y c,cl.lookup x=some c->cl.lookup y=some c->x=y
 has: ∀x,sc.names.lookup x=some .free-> ∃c,cl.lookup x=some c
 cell: ∀x c,cl.lookup x=some c->(∃v,h.IsCell c v)/\H c=none
 loc: ∀ (i:Nat) (x:Str) (v:V),N[i]? =some x->σ[i]? =some (some v)->sc.names.lookup x=some .free-> ∃u c,RelV v u/\cl.lookup x=some c/\h.IsCell c (some u)
theorem wj {α β:Type}[BEq α][LawfulBEq α]: ∀ {l:List (α×β)} {x:α} {y:β},l.lookup x=some y->(x,y)∈l
 | [],_,_,h=>by cases h
 |(a,b)::r,x,y,h=>by
  rw [C3] at h
  by_cases q:(x==a)=true
  ·rw [q] at h;cases h;rw [eq_of_beq q];exact .head _
  ·simp only [q] at h;exact .tail _ (wj h)
def Rj (sc:Scope)(env:Env):Prop:= ∀n,(n,NameKind.free)∈sc.names->env.kindOf n=some .cell\/env.kindOf n=some .free
variable {σ:St}{s:Shared}
theorem Cap.of {X:Cx}{pins:List (Addr×Obj)}{sc:Scope}(I:Inv X pins σ H s)(hf:Rj sc X.env):Cap X.N σ sc (JN X.env.cells sc.names []) s.heap H where
 len:=I.len
 inj:=λx y c h1 h2=>I.ok.inj x y c (wG _ _ (λ_ _ z=>by cases z) _ _ h1) (wG _ _ (λ_ _ z=>by cases z) _ _ h2)
 has:=λx h=>ZH _ _ _ (.inl ⟨wj h,I.ok.has x (hf x (wj h))⟩)
 cell:=λx c h=>⟨I.cell x c (wG _ _ (λ_ _ z=>by cases z) _ _ h),I.freeC x c (wG _ _ (λ_ _ z=>by cases z) _ _ h)⟩
 loc:=λi x v h1 h2 h3=>by
  obtain⟨m,hn,hl⟩:=I.loc;have hk:=hf x (wj h3);obtain⟨u,r,l⟩:=hl i x v h1 h2 (.inr hk);obtain⟨c,hc⟩:=ZH (cells:=X.env.cells) sc.names [] x (.inl ⟨wj h3,I.ok.has x hk⟩);refine⟨u,c,r,hc,?_⟩;have hc':=wG _ _ (λ_ _ z=>by cases z) _ _ hc;rcases l with ⟨k,_⟩|⟨_,c2,e,z⟩
  ·rcases hk with k2|k2<;>(rw [k] at k2;cases k2)
  ·rw [hc'] at e;cases e;exact z
variable {cl:List (Str×Addr)}
theorem Cap.step {N:List Str}{sc:Scope}{h h':Heap}{H':Hp}{fs:List Addr}(C:Cap N σ sc cl h H)(u:Un fs [] H H' h h'):Cap N σ sc cl h' H':=by
 have k: ∀x c v,cl.lookup x=some c->h.IsCell c v->h'.IsCell c v:=λx c v e ⟨o,ho,hd⟩=>by
  obtain⟨sl,q⟩:=u.any ho (C.cell x c e).2 (by simp);exact⟨_,q,hd⟩
 exact⟨C.len,C.inj,C.has,λx c e=>by
  obtain⟨⟨v,z⟩,n⟩:=C.cell x c e;obtain⟨o,ho,_⟩:=id z;exact⟨⟨v,k x c v e z⟩,u.free c o ho n (by simp)⟩,λi x v h1 h2 h3=>let ⟨uu,c,r,e,z⟩:=C.loc i x v h1 h2 h3;⟨uu,c,r,e,k x c _ e z⟩⟩
def cxL (CX:CXT)(P:Program)(w:World)(K:PySem.W.Frag)(mg:Str->Option Value)(base:Heap)(N:List Str)(q:Str)(scope:Scope)(f:Addr)(cd:Value)(cl:List (Str×Addr))(A:Around)(outer:List Env)(s:Shared)(H:Hp)(E:XK):Cx where
 prog:=P
 w:=w
 K:=K
 mg:=mg
 base:=base
 A:=A.deeper (envX q scope s.heap.objs.size f cd cl)
 N:=N
 s₀:=s
 H₀:=H
 env:=envX q scope s.heap.objs.size f cd cl
 outer:=outer
 stack:=envX q scope s.heap.objs.size f cd cl::outer
 ex:= []
 calm:=true
 fn:=λ_=>false
 pn:= []
 xe:=λe s'=>wpAny (model P w) (A.deeper (envX q scope s.heap.objs.size f cd cl)) (leaving (envX q scope s.heap.objs.size f cd cl) e) (λ_ s''=>CX outer H s E e s'') (λe' s''=>CX outer H s E e' s'') s'
variable {mg:Str->Option Value}{base:Heap}
theorem Lg {CX:CXT}{P:Program}{K:PySem.W.Frag}{N:List Str}{f:Addr}{cd:Value}{A:Around}{outer:List Env}{E:XK}{h₁:Heap}{tk:Tok}
 (L:LamOk scope)(hd:A.handled=none)(e0:Env0 P w K mg base A outer s H)(C:Cap N σ scope cl s.heap H)(hns:h₁.Ns s.heap.objs.size (λ_=>none))(hk: ∀b o,s.heap.get? b=some o->h₁.get? b=some o):
 Inv (cxL CX P w K mg base N q scope f cd cl A outer s H E) [] σ H {s with heap:=h₁,toks:=tk}:=by
 have noA: ∀b:Addr,b ∉ (cxL CX P w K mg base N q scope f cd cl A outer s H E).ex:=λb z=>absurd (show b∈([]:List Addr) from z) (by simp)
 have nofr: ∀y,scope.names.lookup y=some .cell\/scope.names.lookup y=some .free->scope.names.lookup y=some .free:=λy hy=>hy.elim (λz=>absurd rfl (L.nocell _ (wj z)).1) id
 refine⟨⟨e0.mod,L.kind,rfl,rfl,G5 _,λy z c h1 h2=>C.inj y z c h1 h2,λy hy=>C.has y (nofr y hy),λy c z=>(by cases z),λ_=>hd,G0v e0.frames,.inr ⟨rfl,rfl⟩,λb z=>absurd z (noA b),e0.bs,e0.bsz,λb _ _=>noA b,λb z=>absurd z (noA b),e0.funs,e0.frf⟩,
  rfl,e0.bare,Un.kept hk,⟨_,hns,λi y v h1 h2 h3=> ?_⟩,λy c h=> ?_,e0.hok.fresh (G5 _),λy c h=>(C.cell y c h).2,λp hp=>absurd (show p∈([]:List (Addr×Obj)) from hp) (by simp),e0.hok.kept hk,C.len⟩
 ·have h3':scope.names.lookup y=some .free:=by
   rcases h3 with z|z
   ·exact absurd rfl (L.nocell _ (wj z)).2
   ·exact nofr y z
  obtain⟨u,c,r,e,o,ho,hd'⟩:=C.loc i y v h1 h2 h3';exact⟨u,r,.inr ⟨.inr h3',c,e,o,hk _ _ ho,hd'⟩⟩
 ·obtain⟨⟨v,o,ho,hd'⟩,_⟩:=C.cell y c h;exact⟨v,o,hk _ _ ho,hd'⟩
theorem Rk {prog:Program}{A:Around}{R:Result->Shared->Prop}{f:Addr}{o:Obj}{qual:Str}{body:Expr}{pm cd ctv:Value}(L:LamOk scope)(deep:A.depth<recursionLimit)
 (there:s.heap.get? f=some o)(lam:o.data= .func (kla_fn "<lambda>" qual Ww body scope cl pm cd ctv))(named:s.heap.CodeRec cd q)(lim:s.heap.NoLimit)
 (go: ∀h₁,h₁.Ns s.heap.objs.size (λ_=>none)->(∀b o,s.heap.get? b=some o->h₁.get? b=some o)->
  codeAny (model prog w) A (.expr body (envX q scope s.heap.objs.size f cd cl)) R {s with heap:=h₁,toks:=s.toks+0}):
 codeAny (model prog w) A (.call (.ref f) ⟨[],[]⟩) R s:=by
 obtain⟨c,oc,vs,t,rfl,hoc,hdc,hq⟩:=named;obtain⟨h,g,d,tk,os⟩:=s;have frame:=λ{A':Around} {Q:Env->Shared->Prop} {E:Value->Shared->Prop} (k: ∀h₁,_->_->Q _ _)=>wpAny_newFunctionEnv (M:=model prog w) (A:=A') (s:=⟨h,g,d,tk,os⟩) (E:=E) (scope:=scope) (globals:=mainGlobals) (closure:=cl) (binds:= []) (qual:=q++ ".<locals>.") (func:=some f) (code:= .ref c) (around:=none) (builtins:=builtinsNs) (Q:=Q) (λx hx=>(L.nocell x hx).1) (λx hx=>nomatch hx) k L.kind
 refine G1n ?_;show wpAny _ A.in1 (callAny (.ref f) ⟨[],[]⟩) _ _ _
 wp_walk using G1R there
 rw [lam];have nothing:bindArgs (kla_fn "<lambda>" qual Ww body scope cl pm (.ref c) ctv) ⟨[],[]⟩=pure []:=rfl;show wpAny _ _ (callFunction f (kla_fn "<lambda>" qual Ww body scope cl pm (.ref c) ctv) ⟨[],[]⟩) _ _ _;unfold callFunction;rw [nothing];show wpAny _ _ (field (.ref c) 1 >>= _) _ _ _;refine wpAny_bind (G1C hoc hdc hq ?_)
 repeat refine wpAny_bind (G3 ?_)
 refine wpAny_bind (frame λh₁ empty same=>wpAny_bind (wpAny_enterFrame (lim.fresh _ same) deep ?_));simp only [kla_fn,L.co,L.gen];exact G3 ⟨rfl,go h₁ empty λb o old=>same.extBut _ _ (λz=>absurd (P1 old) (by rw [z];exact S7 _)) (G1 _ old)⟩
theorem Lh {CX:CXT}{P:Program}{K:PySem.W.Frag}{N:List Str}{qual:Str}{f:Addr}{cd pm ctv:Value}{A:Around}{outer:List Env}{E:XK}{o:Obj}{body:Expr}{t:TE}{Q:VK}{k:Nat}
 (L:LamOk scope)(hr:Room (k+1) A)(e0:Env0 P w K mg base A outer s H)(C:Cap N σ scope cl s.heap H)(ho:s.heap.get? f=some o)(hd:o.data= .func (kla_fn "<lambda>" qual Ww body scope cl pm cd ctv))(hc:CodeF H cd q)
 (hb:PE (cxL CX P w K mg base N q scope f cd cl A outer s H E) body t)(ht:t σ H Q):codeAny (model P w) A (.call (.ref f) ⟨[],[]⟩) (CR CX outer P w H s Q E) s:=by
 have lim:s.heap.NoLimit:=e0.mod.nolimit.keeps λb o e=>(e0.bs b o e).1
 refine Rk L hr.depth ho hd (hc.rec e0.hok) lim λh₁ hns hk₁=> ?_
 have I:=Lg (CX:=CX) (q:=q) (f:=f) (cd:=cd) (E:=E) (tk:=s.toks+0) L hr.hd e0 C hns hk₁;refine kla_codeExpr (R0 (hb [] _ σ H Q I ht) (λv s' hs=> ?_) λ_ _ y=>y);obtain⟨v',H',J,rv,q'⟩:=hs;exact⟨v',H',J.os,J.bare,J.base,J.hok,rv,q'⟩
abbrev TXD:=SD->HD->(Str->HD->Prop)->Prop
def WX (X:Cx)(E:XK)(H:Hp)(R:Str->HD->Prop):Prop:= ∀c C h' H',Kept H H'->RelH X.K h' H'->X.mg c=some (.ref C)->R c h'->E (.ref C) none H'
theorem WX.mono {X:Cx}{E:XK}{H':Hp}{R:Str->HD->Prop}(w:WX X E H R)(k:Kept H H'):WX X E H' R:=λc C h2 H2 k2=>w c C h2 H2 (k.trans k2)
structure JX (X:Cx)(sts:List Stmt)(t:TXD):Prop where
 to: ∀ (E:XK),Rz X E-> ∀ (pins:List (Addr×Obj)) (s:Shared) (σ:St) (H:Hp) (σd:SD) (h:HD) (R:Str->HD->Prop),Inv X pins σ H s->RelS X.K H σd σ->RelH X.K h H->t σd h R->WX X E H R->
  wpAny (model X.prog X.w) X.A (execs sts X.env) (λ_ _=>False) X.xe s
structure JXE (X:Cx)(e:Expr)(t:TXD):Prop where
 to: ∀ (E:XK),Rz X E-> ∀ (pins:List (Addr×Obj)) (s:Shared) (σ:St) (H:Hp) (σd:SD) (h:HD) (R:Str->HD->Prop),Inv X pins σ H s->RelS X.K H σd σ->RelH X.K h H->t σd h R->WX X E H R->
  wpAny (model X.prog X.w) X.A (eval e X.env) (λ_ _=>False) X.xe s
def xIf (t:TTD)(u:TXD):TXD:=λσ h R=>t σ h λk h'=>k=true/\u σ h' R
def xRz (c:Str):TXD:=λ_ h R=>R c h
abbrev RDx:=List D->HD->(Str->HD->Prop)->Prop
def Hv (spr:RDx)(t:TAD):TXD:=λσ h R=>t σ h λds h1=>spr ds h1 R
def NK (mg:Str->Option Value)(K:PySem.W.Frag)(spr:RDx):Sp:=λvs H _ E=> ∃ds h R,RelDs K H ds vs/\RelH K h H/\spr ds h R/\ ∀c C h' H',Kept H H'->RelH K h' H'->mg c=some (.ref C)->R c h'->E (.ref C) none H'
def bmV:List Value:= [.type "ValueError",.type "Exception",.type "BaseException",.type "object"]
theorem NL {K:Frag}(P:Program)(M:Mod K mg base): ∃loose mb,TopRead P loose mg mb base:=by
 obtain⟨mb,laid,boot⟩:=M.blt;obtain⟨o,es,ep,at_,isd,texts,finds⟩:=id M.glob;refine⟨es.toList.filterMap λe=>match e.key with| .str n _=>some n|_=>none,mb,M.glob,laid,M.nolimit,boot,λx _ out _ _ _=> ?_⟩;rw [<-finds x];cases hit:nsFind es x with
 |none=>rfl
 |some v=>
  refine absurd ?_ out;unfold nsFind findBy at hit;obtain⟨e,hf,_⟩:=F9.mp hit;have isx:e.key.isStr x=true:=Array.find?_some (p:=λ(e:DictEntry)=>e.key.isStr x) hf;have mem:=Array.mem_of_find?_eq_some hf;obtain⟨n,t,ek⟩:=texts e mem;rw [ek] at isx;have nx:n=x:=by simpa [Value.isStr] using isx
  exact K9.mpr ⟨e,by simpa using mem,by rw [ek,nx]⟩
def OwnX (K:PySem.W.Frag)(mg:Str->Option Value)(c:Str):Prop:= ∃C,mg c=some (.ref C)/\nsIn K mainGlobals c=some (some (.ref C))/\excIn K C bmV "ValueError.__new__" =true
theorem OwnX.at {K:Frag}{h:Heap}{c:Str}(P:Program)(O:OwnX K mg c)(M:Mod K mg base)(kept: ∀b o,base.get? b=some o->h.get? b=some o): ∃C,mg c=some (.ref C)/\OwnCls c C bmV "ValueError.__new__" mg h:=
 let ⟨C,hm,hn,hx⟩:=O
 let ⟨_,_,T⟩:=NL P M
 ⟨C,hm,(own_of_in M.kin T hn hx).keeps kept⟩
section
variable {X:Cx}{c:Expr}{e:Expr}{es:List Expr}{st:Stmt}{a b rest:List Stmt}{t:TSD}{tt:TTD}{u:TXD}{ta:TAD}{pos p:Pos}
theorem EO (hc:JT X c tt)(ha:JX X a u):JX X (.If c a b pos::rest) (xIf tt u):=⟨λE Z pins s σ H σd h R I rs rh ht w=>by
 refine A5 (R0 (wpAny_If (Q:=λ_ _=>False) (thn (hc.to pins s σ H (λk H'=>k=true/\ ∃h',Kept H H'/\RelS X.K H' σd σ/\RelH X.K h' H'/\u σd h' R) I
  ⟨σd,h,_,rs,rh,ht,λk h' H' kp rh' q=>⟨q.1,h',kp,rs.mono kp,rh',q.2⟩⟩) λd s1 q=> ?_)) (λ_ _ z=>z.elim) λ_ _ z=>z)
 obtain⟨H',I',rfl,h',kp,rs',rh',q⟩:=q;exact ha.to E Z pins s1 σ H' σd h' R I' rs' rh' q (w.mono kp)⟩
theorem Li (he:JXE X e u)(hs:swapsWith e none pos.line X.env=pure false:=by rfl):JX X (.Expr e pos::rest) u:=⟨λE Z pins s σ H σd h R I rs rh ht w=>
 A5 (wpAny_Expr_any (R0 (he.to E Z pins s σ H σd h R I rs rh ht w) (λ_ _ z=>z.elim) λ_ _ z=>z) I.quiet hs)⟩
theorem EQ (he:JXE X e u):JX X (.Return (some e) pos::rest) u:=⟨λE Z pins s σ H σd h R I rs rh ht w=>
 A5 (wpAny_Return_some (R0 (he.to E Z pins s σ H σd h R I rs rh ht w) (λ_ _ z=>z.elim) λ_ _ z=>z))⟩
theorem QB {x:Str}{np cpos p2:Pos}{m:Str}{j:Nat}(hg:Gl X x)(O:OwnX X.K X.mg x)(hcalm:X.calm=true)(hd:(x==("__debug__" :Str))=false:=by decide)
 (he:starEach [Expr.Constant (.str m) j p2] X.env=(false,eval (.Constant (.str m) j p2) X.env)::starEach [] X.env:=by rfl):
 JX X (.Raise (some (.Call (.Name x np) [.Constant (.str m) j p2] [] cpos)) none pos::rest) (xRz x):=⟨λE Z pins s σ H σd h R I rs rh ht w=>by
 obtain⟨C,hm,own⟩:=O.at X.prog I.mod I.bk;refine A5 (R0 (?_:wpAny _ _ _ (λ_ _=>False) _ _) (λ_ _ z=>z.elim) λ_ _ z=>z);obtain⟨_,_,_,_,_,_,_,_,_,_,_,_,_,_,_,_,_,isC,laid,noInit,tail⟩:=own.obj;refine' wpAny_Raise_call_subT PySem.F.excBase_ValueError (tail.hasType PySem.F.excBase_ValueError.hasBase) (I.ok.hd hcalm) (by rw [he];rfl) noInit (Jb I hg hm ⟨rfl,?_⟩ hd)
 rotate_right 1
 rw [he];refine Calls.evalArgs_plain (Y7 (PySem.Calls.Constant_str (k:=j) (pos:=p2) (G0Y ⟨rfl,(by show 1<=sizeLine;decide),isC,laid,tail,λh' e hme=> ?_⟩)));refine Z.xe _ _ (GL (s:= {s with toks:=s.toks+1}) (I.tok _) Z hme λh2 un hok fl=> ?_);exact⟨e,C,H,rfl,I.os,I.bare,un,hok,fl,w x C h H (.refl H) rh hm ht⟩⟩
theorem YI {k:Nat}{f:Addr}{fd:FuncData}{ps:List Str}{spr:RDx}{x:Str}(F:FnOk X.prog X.w X.K X.mg X.base (CXR X.prog X.w) k f fd ps (NK X.mg X.K spr))(hr:Room k X.A)(hg:Gl X x)(hm:X.mg x=some (.ref f))(hk:PySem.W.keepIn X.K (.ref f)=true)(hb:Binds X.K fd ps [])
 (ha:JA X (e::es) ta)(hdb:(x==("__debug__" :Str))=false:=by decide)(he:starEach (e::es) X.env=(false,eval e X.env)::starEach es X.env:=by rfl)(hpl:(backTo pos (starEach es X.env)).any (·.1)=false:=by rfl):
 JXE X (.Call (.Name x p) (e::es) [] pos) (Hv spr ta):=⟨λE Z pins s σ H σd h R I rs rh ht w=>by
 refine thn (Ds F hr hg hm hk hb .nil (Hu Z) ha.to hdb he hpl pins s σ H (λ_ _=>False) I
  ⟨σd,h,_,rs,rh,ht,λds vs h' H' kp rh' r q=>by show NK X.mg X.K spr (vs++ []) H' (λ_ _=>False) E;rw [B7];exact⟨ds,h',R,r,rh',q,λc C h2 H2 k2=>w c C h2 H2 (kp.trans k2)⟩⟩) λ_ _ ⟨_,_,_,_,z⟩=>z⟩
end
section
variable {P:Program}{w:World}{K:PySem.W.Frag}{mg:Str->Option Value}{base:Heap}
theorem Lj {N:List Str}{qual:Str}{scope:Scope}{f:Addr}{cd:Value}{A:Around}{outer:List Env}{s:Shared}{H:Hp}{E:XK}:Rz (Yq (CXR P w) P w K mg base N qual scope f cd A outer s H E) E:=⟨⟨rfl,rfl,rfl⟩,λ_ _ h=>h⟩
theorem ER {N:List Str}{q:Str}{scope:Scope}{f:Addr}{cd:Value}{cl:List (Str×Addr)}{A:Around}{outer:List Env}{s:Shared}{H:Hp}{E:XK}:Rz (cxL (CXR P w) P w K mg base N q scope f cd cl A outer s H E) E:=⟨⟨rfl,rfl,rfl⟩,λ_ _ h=>h⟩
theorem Fun.okX {x qual:Str}{st:Stmt}{f:Addr}{fd:FuncData}{N ps:List Str}{k:Nat}{spr:RDx}(F:Fun K x qual st f fd)(S:FnScope N ps (je st))(len: ∀ds h R,spr ds h R->ds.length=ps.length)
 (tb:TXD)(hbody: ∀ (cdv:Value) (A:Around) (outer:List Env) (s:Shared) (H:Hp) (E:XK),Room k (A.deeper (envOfC qual (je st) s.heap.objs.size f cdv))->JX (Yq (CXR P w) P w K mg base N qual (je st) f cdv A outer s H E) (jX st) tb)
 (read: ∀ds h R,spr ds h R->tb (zu N ds) h R):FnOk P w K mg base (CXR P w) (k+1) f fd ps (NK mg K spr):=by
 obtain⟨oc,od,kV,doc,pm,an,cdv,ct,osl,rfl,lk,hcd⟩:=F.ex;refine Fk lk hcd S (λvs H Q E h=> ?_) λA outer s H vs Q E hr hsp=> ?_
 ·obtain⟨ds,h,R,r,rh,q,p⟩:=h;rw [<-r.length];exact len _ _ _ q
 ·obtain⟨ds,h,R,r,rh,q,p⟩:=hsp;refine⟨λ_ σ H'=>σ=start N vs/\H'=H,λpins s' σ H' D I ⟨e1,e2⟩=> ?_,rfl,rfl⟩;subst e1;subst e2;exact R0 ((hbody cdv A outer s H' E hr).to E Lj pins s' _ H' (zu N ds) h R I (yH r) rh (read ds h R q) p) (λ_ _ z=>z.elim) λ_ _ z=>z
end
def ZI (P:Program)(w:World)(K:PySem.W.Frag)(mg:Str->Option Value)(base:Heap)(n:Nat)(x:Str)(ps:List Str)(spr:RDx):Prop:=
 ∃ (g:Addr) (gd:FuncData),FnOk P w K mg base (CXR P w) n g gd ps (NK mg K spr)/\Binds K gd ps []/\PySem.W.keepIn K (.ref g)=true/\mg x=some (.ref g)
end L2
namespace L2
open PySem PySem.Spec PyProof.Rows
structure RoomU (k:Nat)(A:Around):Prop where
 dp:A.depth+3*k+5<recursionLimit
 un:A.units+16*k+200<cLine
 gd:A.guards=some []
variable {k:Nat}{A:Around}
theorem Room.u (r:Room k A):RoomU k A:=⟨r.dp,r.un,r.gd⟩
theorem RoomU.deeper (r:RoomU (k+1) A)(env:Env):RoomU k (A.deeper env):=
 ⟨by have:=r.dp;show A.depth+1+3*k+5<_;omega,by have:=r.un;show A.units+3+16*k+200<_;omega,r.gd⟩
theorem RoomU.depth (r:RoomU k A):A.depth<recursionLimit:=by have:=r.dp;omega
theorem RoomU.units (r:RoomU k A):A.units+64<cLine:=by have:=r.un;omega
structure FnOkU (P:Program)(w:World)(K:PySem.W.Frag)(mg:Str->Option Value)(base:Heap)(CX:CXT)(k:Nat)(f:Addr)(fd:FuncData)(ps:List Str)(sp:Sp):Prop where
 len: ∀vs H Q E,sp vs H Q E->vs.length=ps.length
 run: ∀ (A:Around) (outer:List Env) (s:Shared) (H:Hp) (args:Args) (us:List Value) (vs:List V) (Q:VK) (E:XK),RoomU k A->Env0 P w K mg base A outer s H->BindsTo s fd args (ps.zip us)->Vals vs us->sp vs H Q E->
  codeAny (model P w) A (.call (.ref f) args) (CR CX outer P w H s Q E) s
section
variable {X:Cx}{CX:CXT}{k:Nat}{f C:Addr}{fd:FuncData}{ps:List Str}{sp:Sp}{dvs:List V}{ds:List Value}{E:XK}{x m:Str}{p pos apos:Pos}{e o:Expr}{es:List Expr}{ta:TE}{t:TA}
theorem Lk {pins:List (Addr×Obj)}{σ:St}{H:Hp}{s:Shared}{Q:VK}{us:List Value}{vs:List V}(F:FnOkU X.prog X.w X.K X.mg X.base CX k f fd ps sp)(hr:RoomU k X.A)(hb:Binds X.K fd ps ds)(hd:Vals dvs ds)(hx:Zk CX X E)
 (I:Inv X pins σ H s)(r:Vals vs us)(h:sp (vs++dvs) H Q E):wpAny (model X.prog X.w) X.A (call (.ref f) us) (EP X pins σ Q) X.xe s:=by
 have r2:Vals (vs++dvs) (us++ds):=r.append hd;have hl:(us++ds).length=ps.length:=by rw [<-r2.length];exact F.len _ _ _ _ h
 refine V4 (W3 (F.run X.A X.stack s H ⟨us,[]⟩ (us++ds) (vs++dvs) Q E hr I.env0 (hb s us I.kIn hl) r2 h) λr s' hq=> ?_);cases r with
 |error e=>exact hx pins σ H s e s' I hq
 |ok fl=>
  cases fl with
  |ret u=>exact I.after hq
  |next=>exact False.elim hq
  |brk=>exact False.elim hq
  |cont=>exact False.elim hq
theorem NM (F:FnOkU X.prog X.w X.K X.mg X.base CX k f fd ps sp)(hr:RoomU k X.A)(hg:Gl X x)(hm:X.mg x=some (.ref f))(hk:PySem.W.keepIn X.K (.ref f)=true)(hb:Binds X.K fd ps ds)(hd:Vals dvs ds)(hx:Zk CX X E)
 (ha:PA X (e::es) t)(hdb:(x==("__debug__" :Str))=false:=by decide)(he:starEach (e::es) X.env=(false,eval e X.env)::starEach es X.env:=by rfl)(hpl:(backTo pos (starEach es X.env)).any (·.1)=false:=by rfl):
 PE X (.Call (.Name x p) (e::es) [] pos) (Fj sp dvs E t):=by
 intro pins s σ H Q I h;refine I0 (Jb I hg hm ?_ hdb);refine G0P (h₀:=X.base) I.ok.mod.kin hk (thn (ha pos pins s σ H _ I h) λus s1 ⟨vs,H1,I1,r,q⟩=>⟨I1.kIn,?_⟩) he hpl;exact Lk F hr hb hd hx I1 r q
end
def Ub (CX:CXT)(P:Program)(w:World)(K:PySem.W.Frag)(mg:Str->Option Value)(base:Heap)(N:List Str)(qual:Str)(scope:Scope)(f:Addr)(cd:Value)(A:Around)(outer:List Env)(s:Shared)(H:Hp)(E:XK):Cx where
 prog:=P
 w:=w
 K:=K
 mg:=mg
 base:=base
 A:=A.deeper (envOfC qual scope s.heap.objs.size f cd)
 N:=N
 s₀:=s
 H₀:=H
 env:=envOfC qual scope s.heap.objs.size f cd
 outer:=outer
 stack:=envOfC qual scope s.heap.objs.size f cd::outer
 ex:= []
 calm:=false
 fn:=λ_=>true
 pn:= []
 xe:=λe s'=>wpAny (model P w) (A.deeper (envOfC qual scope s.heap.objs.size f cd)) (leaving (envOfC qual scope s.heap.objs.size f cd) e) (λ_ s''=>CX outer H s E e s'') (λe' s''=>CX outer H s E e' s'') s'
variable {mg:Str->Option Value}{base:Heap}{qual:Str}{scope:Scope}
theorem GN {CX:CXT}{P:Program}{w:World}{K:PySem.W.Frag}{N ps:List Str}{f:Addr}{cd:Value}{outer:List Env}{s s1:Shared}{H:Hp}{E:XK}{us:List Value}{vs:List V}
 (S:FnScope N ps scope)(e0:Env0 P w K mg base A outer s H)(hl:vs.length=ps.length)(r:Vals vs us)
 (x:InCallC s s.heap.objs.size (bindL (envOfC qual scope s.heap.objs.size f cd).kindOf (ps.zip us) λ_=>none) (cellsFrom (s.heap.objs.size+1) scope.names []) (bindC (envOfC qual scope s.heap.objs.size f cd).kindOf (ps.zip us) λ_=>none) s1):
 Inv (Ub CX P w K mg base N qual scope f cd A outer s H E) [] (start N vs) H s1:=by
 have hpl:ps.length<=N.length:=by have:=congrArg List.length S.pre;rw [D8] at this;omega
 obtain⟨h1,tk,rfl,hk⟩:=x.done;have noA: ∀b:Addr,b ∉ (Ub CX P w K mg base N qual scope f cd A outer s H E).ex:=λb z=>absurd (show b∈([]:List Addr) from z) (by simp)
 refine⟨⟨e0.mod,S.kind,rfl,rfl,G5 _,λy z c h1 h2=> ?_,λy hy=> ?_,λy c _ h=> ?_,λz=>(by cases z),G0v e0.frames,.inr ⟨rfl,rfl⟩,λb z=>absurd z (noA b),e0.bs,e0.bsz,λb _ _=>noA b,λb z=>absurd z (noA b),e0.funs,e0.frf⟩,
  rfl,e0.bare,Un.kept hk,⟨_,x.toInCall.ns,λi y v h1 h2 h3=> ?_⟩,λy c h=>⟨_,x.cell y c h⟩,e0.hok.fresh (G5 _),λy c h=> ?_,λp hp=>absurd (show p∈([]:List (Addr×Obj)) from hp) (by simp),e0.hok.kept hk,?_⟩
 ·exact name_of_addr x.apart (C7 h1) (C7 h2)
 ·have hy:scope.names.lookup y=some .cell\/scope.names.lookup y=some .free:=hy;rcases hy with hy|hy
  ·exact yE hy
  ·exact absurd rfl (S.nofree _ (C7 hy))
 ·exact D4 (x.above y c (C7 h))
 ·have hi:i<vs.length:=by
   unfold start at h2
   by_cases hi:i<vs.length
   ·exact hi
   ·rw [P8 (by simpa using hi)] at h2;rw [Y9] at h2;split at h2<;>cases h2
  have ha:vs[i]? =some v:=by
   unfold start at h2;rw [S0 (by simpa using hi),P4] at h2;cases e:vs[i]? with
   |none=>rw [e] at h2;cases h2
   |some a=>rw [e] at h2;cases h2;rfl
  obtain⟨u,hu,rv⟩:=r.get ha;have hp:ps[i]? =some y:=by
   rw [<-S.pre,U3 (by omega)];exact h1
  have ndP:ps.Nodup:=by rw [<-S.pre];exact S.nd.sublist (A9 _ _)
  refine⟨u,rv,?_⟩;rcases S.par y (G9 hp) with k|k
  ·exact .inl ⟨k,Zl ndP hp hu k⟩
  ·obtain⟨c,e⟩:=yE (n:=s.heap.objs.size+1) k;refine .inr ⟨.inl k,c,e,?_⟩;have q:=x.cell y c e;rw [Zm ndP hp hu (by show scope.names.lookup y≠_;rw [k];decide)] at q;exact q
 ·exact e0.hok.fresh (D4 (x.above y c (C7 h)))
 ·unfold start;show _=N.length;rw [G6,G0,G1l];omega
theorem ES {CX:CXT}{P:Program}{w:World}{K:PySem.W.Frag}{f:Addr}{name:Str}{params:Arguments}{body:List Stmt}{dV kV doc pm cdv ct oc:Value}{an od:Option Addr}{osl:Array (Option Value)}{N ps:List Str}{sp:Sp}(lk:K.lookup f=some ⟨oc,od,.func (PySem.W.fnOf name qual params body scope dV kV doc pm an cdv ct),osl⟩)(hcd:PySem.W.codeIn K cdv qual=true)(S:FnScope N ps scope)
 (len: ∀vs H Q E,sp vs H Q E->vs.length=ps.length)
 (hbody: ∀ (A:Around) (outer:List Env) (s:Shared) (H:Hp) (vs:List V) (Q:VK) (E:XK),RoomU k (A.deeper (envOfC qual scope s.heap.objs.size f cdv))->sp vs H Q E->
  ∃t,PSs (Ub CX P w K mg base N qual scope f cdv A outer s H E) body t/\t {nx:=λ_ H'=>Q .non H',rt:=Q} (start N vs) H):
 FnOkU P w K mg base CX (k+1) f (PySem.W.fnOf name qual params body scope dV kV doc pm an cdv ct) ps sp:=by
 refine⟨len,λA outer s H args us vs Q E hr e0 hb r hsp=> ?_⟩;have hl:=len _ _ _ _ hsp;have KX:K.In s.heap:=e0.mod.kin.keeps λb o e=>(e0.bs b o e).1
 have lim:s.heap.NoLimit:=e0.mod.nolimit.keeps λb o e=>(e0.bs b o e).1
 have hkind: ∀y∈ps.zip us,scope.names.lookup y.1=some .local\/(scope.names.lookup y.1=some .cell/\((cellsFrom (s.heap.objs.size+1) scope.names []).lookup y.1).isSome=true):=λ⟨n,v⟩ hy=>by
  rcases S.par n (Y8 hy).1 with q|q
  ·exact .inl q
  ·exact .inr ⟨q,V7 _ _ _ (.inl q)⟩
 refine G0l hr.depth (KX _ _ lk) rfl S.co S.gen rfl (G0Q KX hcd) (hb _ _ _ _ ?_);refine X2 S.kind hkind λenv he s1 x=> ?_
 subst he;refine⟨lim.keeps x.toInCall.keep,codeAny_func ?_⟩;obtain⟨t,ht,hq⟩:=hbody A outer s H vs Q E (hr.deeper _) hsp;have I:Inv (Ub CX P w K mg base N qual scope f cdv A outer s H E) [] (start N vs) H s1:=GN S e0 hl r x;refine R0 (ht [] s1 (start N vs) H _ I hq) (λfl s' hs=> ?_) λe s' hs=>hs
 have fin: ∀ {σ':St} {H':Hp} {v:V} {u:Value},Inv (Ub CX P w K mg base N qual scope f cdv A outer s H E) [] σ' H' s'->RelV v u->Q v H'->CE outer P w H s Q u s':=
  λ{σ' H' v u} J rv q=>⟨v,H',J.os,J.bare,J.base,J.hok,rv,q⟩
 cases fl with
 |ret u=>
  obtain⟨v,σ',H',J,rv,q⟩:=hs;exact fin J rv q
 |next=>
  obtain⟨σ',H',J,q⟩:=hs;exact fin (v:=V.non) (u:=Value.none) J rfl q
 |brk=>
  obtain⟨_,_,_,q⟩:=hs;exact False.elim q
 |cont=>
  obtain⟨_,_,_,q⟩:=hs;exact False.elim q
section
variable {P:Program}{w:World}{K:PySem.W.Frag}{mg:Str->Option Value}{base:Heap}
variable {qual:Str}
theorem Fun.okU {x:Str}{st:Stmt}{f:Addr}{fd:FuncData}{N ps:List Str}{k:Nat}{sp:Sp}(F:Fun K x qual st f fd)(S:FnScope N ps (je st))(len: ∀vs H Q E,sp vs H Q E->vs.length=ps.length)
 (hbody: ∀ (cdv:Value) (A:Around) (outer:List Env) (s:Shared) (H:Hp) (vs:List V) (Q:VK) (E:XK),RoomU k (A.deeper (envOfC qual (je st) s.heap.objs.size f cdv))->sp vs H Q E->
  ∃t,PSs (Ub CX0 P w K mg base N qual (je st) f cdv A outer s H E).nox (jX st) t/\t {nx:=λ_ H'=>Q .non H',rt:=Q} (start N vs) H):FnOkU P w K mg base CX0 (k+1) f fd ps sp:=by
 obtain⟨oc,od,kV,doc,pm,an,cdv,ct,osl,rfl,lk,hcd⟩:=F.ex;refine ES lk hcd S len λA outer s H vs Q E hr hsp=> ?_
 obtain⟨t,h,q⟩:=hbody cdv A outer s H vs Q E hr hsp;exact⟨t,h.nox,q⟩
theorem Fun.okDU {x:Str}{st:Stmt}{f:Addr}{fd:FuncData}{N ps:List Str}{k:Nat}{spd:RDn}(F:Fun K x qual st f fd)(S:FnScope N ps (je st))(len: ∀ds h Q,spd ds h Q->ds.length=ps.length)
 (tb:TSD)(hbody: ∀ (cdv:Value) (A:Around) (outer:List Env) (s:Shared) (H:Hp) (E:XK),RoomU k (A.deeper (envOfC qual (je st) s.heap.objs.size f cdv))->QSs (Ub CX0 P w K mg base N qual (je st) f cdv A outer s H E).nox (jX st) tb)
 (read: ∀ds h Q,spd ds h Q->tb (Qu Q) (zu N ds) h):FnOkU P w K mg base CX0 (k+1) f fd ps (LSp K spd):=by
 refine F.okU S (λvs H Q E h=> ?_) (λcdv A outer s H vs Q E hr h=> ?_)
 ·obtain⟨ds,h,Qd,r,rh,q,p⟩:=h;rw [<-r.length];exact len _ _ _ q
 ·obtain⟨ds,h,Qd,r,rh,q,p⟩:=h;refine⟨_,hbody cdv A outer s H E hr,zu N ds,h,Qu Qd,yH r,rh,read ds h Qd q,λσd' h' σ' H' k rs' rh' ⟨h2,sb,q'⟩=>p .non .non h2 H' k (rh'.sub sb) rfl q',λd v h' H' k rh' r' ⟨h2,sb,q'⟩=>p d v h2 H' k (rh'.sub sb) r' q',λ_ _ _ _ _ _ _ z=>z.elim,λ_ _ _ _ _ _ _ z=>z.elim⟩
theorem Fun.okJU {x:Str}{st:Stmt}{f:Addr}{fd:FuncData}{N ps:List Str}{k:Nat}{spd:RDn}(F:Fun K x qual st f fd)(S:FnScope N ps (je st))(len: ∀ds h Q,spd ds h Q->ds.length=ps.length)
 (tb:TSD)(hbody: ∀ (cdv:Value) (A:Around) (outer:List Env) (s:Shared) (H:Hp) (E:XK),RoomU k (A.deeper (envOfC qual (je st) s.heap.objs.size f cdv))->JSs (Ub CX0 P w K mg base N qual (je st) f cdv A outer s H E).nox (jX st) tb)
 (read: ∀ds h Q,spd ds h Q->tb (Qu Q) (zu N ds) h):FnOkU P w K mg base CX0 (k+1) f fd ps (LSp K spd):=F.okDU S len tb (λcdv A outer s H E hr=>(hbody cdv A outer s H E hr).to) read
end
structure FnOkS (P:Program)(w:World)(K:PySem.W.Frag)(mg:Str->Option Value)(base:Heap)(CX:CXT)(k:Nat)(f:Addr)(fd:FuncData)(ps:List Str)(sp:Shared->Sp):Prop where
 len: ∀s vs H Q E,sp s vs H Q E->vs.length=ps.length
 run: ∀ (A:Around) (outer:List Env) (s:Shared) (H:Hp) (args:Args) (us:List Value) (vs:List V) (Q:VK) (E:XK),Room k A->Env0 P w K mg base A outer s H->BindsTo s fd args (ps.zip us)->Vals vs us->sp s vs H Q E->
  codeAny (model P w) A (.call (.ref f) args) (CR CX outer P w H s Q E) s
section
variable {X:Cx}{CX:CXT}{k:Nat}{f C:Addr}{fd:FuncData}{ps:List Str}{sp:Sp}{dvs:List V}{ds:List Value}{E:XK}{x m:Str}{p pos apos:Pos}{e o:Expr}{es:List Expr}{ta:TE}{t:TA}
theorem Ll {pins:List (Addr×Obj)}{σ:St}{H:Hp}{s:Shared}{Q:VK}{us:List Value}{vs:List V}{sp:Shared->Sp}(F:FnOkS X.prog X.w X.K X.mg X.base CX k f fd ps sp)(hr:Room k X.A)(hb:Binds X.K fd ps ds)(hd:Vals dvs ds)(hx:Zk CX X E)
 (I:Inv X pins σ H s)(r:Vals vs us)(h:sp s (vs++dvs) H Q E):wpAny (model X.prog X.w) X.A (call (.ref f) us) (EP X pins σ Q) X.xe s:=by
 have r2:Vals (vs++dvs) (us++ds):=r.append hd;have hl:(us++ds).length=ps.length:=by rw [<-r2.length];exact F.len _ _ _ _ _ h
 refine V4 (W3 (F.run X.A X.stack s H ⟨us,[]⟩ (us++ds) (vs++dvs) Q E hr I.env0 (hb s us I.kIn hl) r2 h) λr s' hq=> ?_);cases r with
 |error e=>exact hx pins σ H s e s' I hq
 |ok fl=>
  cases fl with
  |ret u=>exact I.after hq
  |next=>exact False.elim hq
  |brk=>exact False.elim hq
  |cont=>exact False.elim hq
end
theorem ET {CX:CXT}{P:Program}{w:World}{K:PySem.W.Frag}{f:Addr}{name:Str}{params:Arguments}{body:List Stmt}{dV kV doc pm cdv ct oc:Value}{an od:Option Addr}{osl:Array (Option Value)}{N ps:List Str}{sp:Shared->Sp}(lk:K.lookup f=some ⟨oc,od,.func (PySem.W.fnOf name qual params body scope dV kV doc pm an cdv ct),osl⟩)(hcd:PySem.W.codeIn K cdv qual=true)(S:FnScope N ps scope)
 (len: ∀s vs H Q E,sp s vs H Q E->vs.length=ps.length)
 (hbody: ∀ (A:Around) (outer:List Env) (s:Shared) (H:Hp) (vs:List V) (Q:VK) (E:XK),Room k (A.deeper (envOfC qual scope s.heap.objs.size f cdv))->sp s vs H Q E->
  ∀s1,Inv (Yq CX P w K mg base N qual scope f cdv A outer s H E) [] (start N vs) H s1->wpAny (model P w) (A.deeper (envOfC qual scope s.heap.objs.size f cdv)) (execs body (envOfC qual scope s.heap.objs.size f cdv)) (SP (Yq CX P w K mg base N qual scope f cdv A outer s H E) [] {nx:=λ_ H'=>Q .non H',rt:=Q}) (Yq CX P w K mg base N qual scope f cdv A outer s H E).xe s1):
 FnOkS P w K mg base CX (k+1) f (PySem.W.fnOf name qual params body scope dV kV doc pm an cdv ct) ps sp:=by
 refine⟨len,λA outer s H args us vs Q E hr e0 hb r hsp=> ?_⟩;have hl:=len _ _ _ _ _ hsp;have KX:K.In s.heap:=e0.mod.kin.keeps λb o e=>(e0.bs b o e).1
 have lim:s.heap.NoLimit:=e0.mod.nolimit.keeps λb o e=>(e0.bs b o e).1
 have hkind: ∀y∈ps.zip us,scope.names.lookup y.1=some .local\/(scope.names.lookup y.1=some .cell/\((cellsFrom (s.heap.objs.size+1) scope.names []).lookup y.1).isSome=true):=λ⟨n,v⟩ hy=>by
  rcases S.par n (Y8 hy).1 with q|q
  ·exact .inl q
  ·exact .inr ⟨q,V7 _ _ _ (.inl q)⟩
 refine G0l hr.depth (KX _ _ lk) rfl S.co S.gen rfl (G0Q KX hcd) (hb _ _ _ _ ?_);refine X2 S.kind hkind λenv he s1 x=> ?_
 subst he;refine⟨lim.keeps x.toInCall.keep,codeAny_func ?_⟩;have ht:=hbody A outer s H vs Q E (hr.deeper _) hsp;have I:Inv (Yq CX P w K mg base N qual scope f cdv A outer s H E) [] (start N vs) H s1:=VF S hr.hd e0 hl r x;refine R0 (ht s1 I) (λfl s' hs=> ?_) λe s' hs=>hs
 have fin: ∀ {σ':St} {H':Hp} {v:V} {u:Value},Inv (Yq CX P w K mg base N qual scope f cdv A outer s H E) [] σ' H' s'->RelV v u->Q v H'->CE outer P w H s Q u s':=
  λ{σ' H' v u} J rv q=>⟨v,H',J.os,J.bare,J.base,J.hok,rv,q⟩
 cases fl with
 |ret u=>
  obtain⟨v,σ',H',J,rv,q⟩:=hs;exact fin J rv q
 |next=>
  obtain⟨σ',H',J,q⟩:=hs;exact fin (v:=V.non) (u:=Value.none) J rfl q
 |brk=>
  obtain⟨_,_,_,q⟩:=hs;exact False.elim q
 |cont=>
  obtain⟨_,_,_,q⟩:=hs;exact False.elim q
section
variable {X:Cx}{k:Nat}{f:Addr}{fd:FuncData}{ps:List Str}{spd:RDn}{x:Str}{p pos:Pos}{e:Expr}{es:List Expr}{t:TAD}
theorem EU (F:FnOkU X.prog X.w X.K X.mg X.base CX0 k f fd ps (LSp X.K spd))(hr:RoomU k X.A)(hg:Gl X x)(hm:X.mg x=some (.ref f))(hk:PySem.W.keepIn X.K (.ref f)=true)(hb:Binds X.K fd ps [])
 (ha:JA X (e::es) t)(hdb:(x==("__debug__" :Str))=false:=by decide)(he:starEach (e::es) X.env=(false,eval e X.env)::starEach es X.env:=by rfl)(hpl:(backTo pos (starEach es X.env)).any (·.1)=false:=by rfl):
 JE X (.Call (.Name x p) (e::es) [] pos) (dCB spd t):=⟨(NM F hr hg hm hk hb .nil Fp ha.to hdb he hpl).imp DF⟩
end
def Rl (P:Program)(w:World)(K:PySem.W.Frag)(mg:Str->Option Value)(base:Heap)(n:Nat)(x:Str)(ps:List Str)(sp:RDn):Prop:=
 ∃ (g:Addr) (gd:FuncData),FnOkU P w K mg base CX0 n g gd ps (LSp K sp)/\Binds K gd ps []/\PySem.W.keepIn K (.ref g)=true/\mg x=some (.ref g)
end L2
namespace L2
open PySem PySem.Spec PyProof.Rows PySem.W PySem.Calls PySem.Builtin PySem.Builtin.ObjectAttr PySem.Builtin.Getset_descriptor
section
variable {prog:Program}{w:World}{A:Around}{E:Value->Shared->Prop}{s:Shared}{K:Frag}{x D:Addr}
structure ExcK (K:Frag)(D:Addr):Prop where
 cls:(clsIn K D).isSome=true
 ga:findIn K (.ref D) "__getattribute__" =some (some (.builtin "BaseException.__getattribute__"))
 hk:findIn K (.ref D) "__getattr__" =some none
 ca:findIn K (.ref D) "__class__" =some (some (.builtin "object.__class__"))
 gt:specialIn K (.builtin "object.__class__") "__get__" =some (some (.builtin "getset_descriptor.__get__"))
 tk:takesIn K (.builtin "object.__class__")=some true
 ob:mroIn K D (.type "object")=some true
 be:mroIn K D (.type "BaseException")=some true
def ExcAt (x D:Addr)(h:Heap):Prop:= ∃o,h.get? x=some o/\o.cls= .ref D
theorem ExcAt.type {M:Model}{h:Heap}(I:ExcAt x D h):Looks M h (typeOf (.ref x)) (.ref D):=let ⟨o,h1,h2⟩:=I;h2 ▸ (Looks.ld h1).andThen .now
theorem GO {tp:Value}{R:Result->Shared->Prop}(X:K.In s.heap)(I:ExcAt x D s.heap)(ob:mroIn K D (.type "object")=some true)
 (h:R (.ok (.ret (.ref D))) s):codeAny (model prog w) A (.call (.builtin "getset_descriptor.__get__") ⟨[.builtin "object.__class__",.ref x,tp],[]⟩) R s:=by
 obtain⟨hp,g,dr,t,os⟩:=s;have known:Looks (model prog w) hp (isInstance (.ref x) (.type "object")) true:=I.type.andThen (looks_mroIn X ob);have passed:Looks (model prog w) hp (descrCheckInstance (.builtin "object.__class__") (.ref x)) ():=
  Looks.andThen (a:=(("__class__" :Str),Value.type "object")) (Looks.of_pure (congrArg (λp:String×String=>(pure (Str.ofString p.2,Value.type p.1):Sem (Str×Value))) KF.owner_class)) (known.andThen .now)
 have shown:Looks (model prog w) hp (shownTypeOf (.ref x)) (.ref D):=I.type.andThen .now;have asked:=KF.slot_gs.check (model prog w) A.in1 (λe s'=>R (.error e) s') ⟨hp,g,dr,t,os⟩ (.builtin "object.__class__") [.ref x,tp] [];refine J7 KF.slot_gs.plain KF.entry_gs (asked _ KF.type_class (KF.args_gs _ _ _) ?_);show wpAny _ _ (descrGetArgs _ >>= _) _ _ _;rw [dga_obj];refine wpAny_bind (G3 (wpAny_bind (passed.at (G3 ⟨Code.quiet_builtin _ (by decide +kernel),K2 KF.entry_class ?_⟩))));exact wpAny_bind (shown.at (G3 h))
theorem NN {M:Model}{h:Heap}(X:K.In h)(Z:ExcK K D):Looks M h (find (.ref x) (.ref D) "__class__") (.bind (.builtin "getset_descriptor.__get__") (.builtin "object.__class__")):=by
 have L1:=looks_findIn (M:=M) X Z.ca;have L2:Looks M h (getOf (some (.builtin "object.__class__"))) (some (.builtin "getset_descriptor.__get__")):=looks_specialIn X Z.gt;have L3:=looks_takesIn (M:=M) X Z.tk;exact L1.andThen (L2.andThen ((show Looks M h (dataDescriptor? (some (.builtin "object.__class__")) (some (.builtin "getset_descriptor.__get__"))) (some (.builtin "getset_descriptor.__get__",.builtin "object.__class__")) from L3.andThen .now).andThen (Looks.tag .now)))
theorem Lm {M:Model}{h:Heap}(X:K.In h)(I:ExcAt x D h)(Z:ExcK K D)(n:Value):Looks M h (checkBuiltinCall "BaseException.__getattribute__" ⟨[.ref x,n],[]⟩) ():=by
 have known:Looks M h (isInstance (.ref x) (.type "BaseException")) true:=I.type.andThen (looks_mroIn X Z.be);have fits:=PySem.F.args_bexc_ga (.ref x) n;unfold checkBuiltinCall;rw [show builtinKind "BaseException.__getattribute__" =some .slot by decide +kernel,show splitId "BaseException.__getattribute__" =some ("BaseException","__getattribute__") by decide +kernel];exact known.andThen (Looks.of_pure fits)
theorem Wx {tk:Tok}{R:Result->Shared->Prop}(X:K.In s.heap)(I:ExcAt x D s.heap)(Z:ExcK K D)(h:R (.ok (.ret (.ref D))) s):
 codeAny (model prog w) A (.call (.builtin "BaseException.__getattribute__") ⟨[.ref x,.str "__class__" tk],[]⟩) R s:=
 J7 PySem.F.attr_ValueError.ga.plain PySem.F.entry_bexc_ga (G01 (Lm X I Z _) (wpAny_bind (G3 (wpAny_bind (G3 (wpAny_bind (G01 I.type (wpAny_bind (G01 (NN X Z) (wpAny_bind (N4 (V4 (GO X I Z.ob (G3 h))))))))))))))
theorem GP {Q:Option Value->Shared->Prop}(X:K.In s.heap)(I:ExcAt x D s.heap)(Z:ExcK K D)(h:Q (some (.ref D)) {s with toks:=s.toks+1}):wpAny (model prog w) A (getAttr? (.ref x) "__class__") Q E s:=by
 have byReader:=PySem.F.attr_ValueError.ga.bind (.ref x);have asked: ∀ {A':Around} {P:Value->Shared->Prop} {E':Value->Shared->Prop},P (.ref D) {s with toks:=s.toks+1}->wpAny (model prog w) A' (boundAndCalled (.builtin "BaseException.__getattribute__") (.ref x) (.str "__class__" s.toks)) P E' {s with toks:=s.toks+1}:=λp=>by
  unfold boundAndCalled;rw [byReader];exact wpAny_bind (G3 (V4 (Wx (s:= {s with toks:=s.toks+1}) X I Z p)))
 have own: ∀ {A':Around} {P:Value->Shared->Prop} {E':Value->Shared->Prop},P (.ref D) {s with toks:=s.toks+1}->wpAny (model prog w) A' (getAttrByItsOwn (.ref x) (.str "__class__" s.toks) (.ref D) (.builtin "BaseException.__getattribute__") false false) P E' {s with toks:=s.toks+1}:=λp=>
  wpAny_bind (G01 (s:= {s with toks:=s.toks+1}) (looks_findIn X Z.hk) (wpAny_bind (G08 (N4 (asked (G3 p))))))
 exact wpAny_bind (wpAny_mkText (wpAny_bind (G08 (N4 (wpAny_bind (G01 (s:= {s with toks:=s.toks+1}) I.type (wpAny_bind (G01 (s:= {s with toks:=s.toks+1}) (looks_findIn X Z.ga) (own (G3 h))))))))))
theorem NO (Z:ExcK K D):KitX K (.ref x) (.ref D) (ExcAt x D):=by
 have isClass: ∀ {h:Heap},K.In h-> ∃o c,h.get? D=some o/\o.data= .cls c:=λX=>by
  obtain⟨c,hc⟩:=A0.mp Z.cls;revert hc;unfold clsIn;split
  ·rename_i ho;exact λ_=>⟨_,_,X _ _ ho,rfl⟩
  ·exact λz=>nomatch z
 refine⟨λ_ _ _ I=>I.type,λM h X _=> ?_,λh tp dd its n sl X htp=> ?_,λX I k=>GP X I Z k⟩
 ·obtain⟨o,c,ho,hd⟩:=isClass X;exact(Looks.ld ho).andThen (Looks.of_pure (by rw [hd]))
 ·obtain⟨o,c,ho,hd⟩:=isClass X;cases hq:(Value.ref D==Value.ref tp) with
  |false=>rfl
  |true=>
   cases (V5.mp hq);rw [htp] at ho;cases ho;cases hd
end
end L2
namespace L2
open PySem PySem.Spec PyProof.Rows PySem.SeqAt PySem.W
theorem NP {X:Cx}(hu:X.A.units+64<cLine):MtM X "list.count" (λx vs H Q=> ∃ (a:Addr) (y:V) (dy:D) (h:HD) (p:PyData) (ps:List PyData),x= .ref a/\vs= [y]/\RelD X.K H dy y/\RelH X.K h H/\ToP h (.lst a) (.list ps)/\ToP h dy p/\p.canLay0=true/\PyData.canLayAll0 ps=true/\p.depth<=60/\Q (.int ((ps.countP λz=>PyData.eqv z p:Nat):Int)) H):=by
 intro pins s σ H x vs v us Q I rx rv h;obtain⟨a,y,dy,h,p,ps,rfl,rfl,rd,rh,t1,t2,c1,c2,c3,q⟩:=h;cases rx;obtain⟨u,rfl,ru⟩:=vz rv;obtain⟨a',ds,ea,ha,ts⟩:=(show ∃a' ds,D.lst a= .lst a'/\h a'=some ds/\ToPs h ds ps from t1);cases ea;obtain⟨ws,hH,_⟩:=rh a ds ha;obtain⟨as,r1⟩:=zb I rh t1 (show RelD X.K H (.lst a) (.ref a) from ⟨rfl,ws,hH⟩) (show RelV (.ref a) (.ref a) from rfl);obtain⟨bs,r2⟩:=zb I rh t2 rd ru;cases r1 with
 |list h1 h2 h3 h4=>
  rename_i o its n cs;have em:=readsAll_map ps _ _ c2 h4;have hu':X.A.units+1+min (PyData.depthAll ps) p.depth<cLine:=by have:=X6 (PyData.depthAll ps) p.depth;omega
  obtain⟨oc,od,odt,osl⟩:=o;simp only at h2 h3;subst h2 h3;refine G0z G09 ⟨_,h1,rfl⟩ PySem.F.entry_list_count (PySem.F.args_list_count_2 _ _) (list_countAt a its n od osl u (λy=>PyData.eqv (readOf s.heap y) p)) ⟨h1,items_eqAt h4 r2 c2 c1 hu',?_⟩;have e:its.toList.countP (λy=>PyData.eqv (readOf s.heap y) p)=ps.countP λz=>PyData.eqv z p:=by
   rw [<-em,List.countP_map];rfl
  exact⟨.int _,H,I.tok _,⟨_,by rw [e]⟩,q⟩
def kP (to te:TED):TED:=λσ h Q=>to σ h λx h1=> ∃a,x= .lst a/\te σ h1 λy h2=> ∃ (p:PyData) (ps:List PyData),ToP h2 (.lst a) (.list ps)/\ToP h2 y p/\p.canLay0=true/\PyData.canLayAll0 ps=true/\p.depth<=60/\Q (.int ((ps.countP λz=>PyData.eqv z p:Nat):Int)) h2
section
variable {X:Cx}{o e i:Expr}{to te ti:TED}{apos cpos:Pos}
theorem kQ (hu : X.A.units + 64 < cLine) (ho : JE X o to) (he : JE X e te) (hbase : attributeBase o "count" X.env (eval o X.env) = eval o X.env := by rfl)
    (hfew : ((backTo cpos (starEach [e] X.env)).all (fun x => !x.1) && (backToKw cpos (keywordEach [] X.env)).all (fun x => x.1.isSome) && decide ([e].length + ([] : List Keyword).length + (if ([] : List Keyword).isEmpty then 0 else 1) < 30)) = true := by rfl)
    (hline : (apos.endLine == cpos.line) = true := by rfl) (hs : starEach [e] X.env = (false, eval e X.env) :: starEach [] X.env := by rfl) (hplain : (backTo cpos (starEach [] X.env)).any (·.1) = false := by rfl) :
    JE X (.Call (.Attribute o "count" apos) [e] [] cpos) (kP to te) :=
  ⟨(Np V2 G09 PySem.F.type_list_count (NP hu) ho.to (zr he.to pa_nil hs) hbase hfew hline hs hplain).imp
    fun σ H Q ⟨σd, h, Qd, rs, rh, t, p⟩ => LE.bind rs rh t fun d v h1 H1 k1 rs1 rh1 r1 ⟨a, e, q⟩ => by
      subst e
      obtain ⟨e1, vs, hH⟩ := (show v = .ref a ∧ ∃ vs, H1 a = some (.lst vs) from r1)
      subst e1
      refine ⟨.inl ⟨rfl, vs, SqL.of hH⟩, ?_⟩
      refine LE.bind rs1 rh1 q fun y u h2 H2 k2 rs2 rh2 r2 ⟨pd, ps, t1, t2, c1, c2, c3, q2⟩ => ?_
      exact ⟨a, u, y, h2, pd, ps, rfl, rfl, r2, rh2, t1, t2, c1, c2, c3, p (.int _) _ _ _ (k1.trans k2) rh2 rfl q2⟩⟩
end
def Hw (K:Frag)(c:Value)(ta:TED):TED:=λσ h Q=>ta σ h λx h1=> ∃C b,x= .exc C/\ExcK K C/\kitOne K (.ref C) c=some b/\Q (.bl b) h1
theorem Yb {X:Cx}{v:V}{c:Value}(rc: ∀u,RelV v u->u=c):CallR X (.builtin "isinstance") (λxs H Q=> ∃x C o b,xs= [.ref x,v]/\H x=some (.frz o (.own 0))/\o.cls= .ref C/\ExcK X.K C/\kitOne X.K (.ref C) c=some b/\Q (.bl b) H):=by
 intro pins s σ H xs us Q I r h;obtain⟨x,C,o,b,rfl,hx,hc,Z,e,q⟩:=h;obtain⟨u,w',rfl,rx,rt⟩:=Do r;cases rx;cases rc _ rt;exact kia_one (NO Z) I.kIn ⟨o,(I.hok x _ hx).1,hc⟩ e (λz=>nomatch z) λtk=>⟨.bl b,H,I.tok tk,rfl,q⟩
section
variable {X:Cx}{a:Expr}{ta:TED}{t:Str}{p p2 pos:Pos}
theorem Rm {v:V}{c:Value}: ∀σ H Q,LE X.K (Hw X.K c ta) σ H Q->tCB (λxs H Q=> ∃x C o b,xs= [.ref x,v]/\H x=some (.frz o (.own 0))/\o.cls= .ref C/\ExcK X.K C/\kitOne X.K (.ref C) c=some b/\Q (.bl b) H) (Nk (LE X.K ta) (Nk (tC v) Tv)) σ H Q:=
 λσ H Q ⟨σd,h,Qd,rs,rh,t,p⟩=>LE.bind rs rh t λd u h1 H1 k1 rs1 rh1 r1 ⟨C,b,e,Z,k,q⟩=>by
  subst e;obtain⟨x,o,vs,e1,hx,hc,_⟩:=(show ∃x o vs,u= .ref x/\H1 x=some (.frz o (.own 0))/\o.cls= .ref C/\o.data= .fields vs from r1);subst e1;exact⟨x,C,o,b,rfl,hx,hc,Z,k,p (.bl b) _ _ _ k1 rh1 rfl q⟩
theorem GR {KK:Frag}{D:Addr}(hg:Gl X "isinstance")(hm:X.mg "isinstance" =none)(hg2:Gl X t)(hm2:X.mg t=some (.ref D))(ha:JE X a ta)(hd:(t==("__debug__" :Str))=false:=by decide)
 (h1:starEach [a,.Name t p2] X.env=(false,eval a X.env)::starEach [.Name t p2] X.env:=by rfl)(h2:(backTo pos (starEach [.Name t p2] X.env)).any (·.1)=false:=by rfl)(hK:X.K=KK:=by rfl):
 JE X (.Call (.Name "isinstance" p) [a,.Name t p2] [] pos) (Hw KK (.ref D) ta):=
 hK ▸ ⟨(yF (Yb (v:= .ref D) λu r=>r) hg hm V9 (zr ha.to (zr (De (v:= .ref D) hg2 hm2 rfl hd) pa_nil (by rfl)) h1) (by decide) (by decide) h1 h2).imp Rm⟩
theorem kT {KK:Frag}{T:String}(hg:Gl X "isinstance")(hm:X.mg "isinstance" =none)(hg2:Gl X t)(hm2:X.mg t=none)(hv:bootBuiltins t=some (.type T))(ha:JE X a ta)(hn:t≠ "__name__" :=by decide)(hd:(t==("__debug__" :Str))=false:=by decide)
 (h1:starEach [a,.Name t p2] X.env=(false,eval a X.env)::starEach [.Name t p2] X.env:=by rfl)(h2:(backTo pos (starEach [.Name t p2] X.env)).any (·.1)=false:=by rfl)(hK:X.K=KK:=by rfl):
 JE X (.Call (.Name "isinstance" p) [a,.Name t p2] [] pos) (Hw KK (.type T) ta):=
 hK ▸ ⟨(yF (Yb (v:= .ty T) λu r=>r) hg hm V9 (zr ha.to (zr (Df (v:= .ty T) hg2 hm2 hv rfl hn hd) pa_nil (by rfl)) h1) (by decide) (by decide) h1 h2).imp Rm⟩
end
end L2
namespace L2
open PySem PySem.Spec PyProof.Rows PySem.W
section
variable {X:Cx}{σ:St}{H:Hp}{s:Shared}{x C:Addr}
theorem Inv.relaid {B h':Heap}{T:Addr}{a0:Value}(I:Inv X [] σ H s)(Z:Rz0 X)(hpn:X.pn= [])(hx:H x=none/\X.s₀.heap.get? x=none)(hT:H T=none/\X.s₀.heap.get? T=none)
 (hB:B=hideAll s.heap (x::T::frs (X.env::X.outer)))(fl:Heap.FlyingW B (X.env::X.outer) x (.ref C) a0 h')(up:s.heap.UpToSlots h'):Inv X [] σ H {s with heap:=h'}/\Fly X.s₀.heap H h' x C:=by
 subst hB;have stk:s.heap.FunFrames X.base (X.env::X.outer):=Z.stk ▸ I.stack;obtain⟨st,_,_,oe',vs',T',oT',ts',he',⟨hc',h0'⟩,hd',h1',hTB,hTx',hT',hTd',h3'⟩:=fl;obtain⟨r1,r2,r3⟩:=Rh (ys:= [x,T]) (h':=h') I Z (λy hy=>by
  rcases P3.mp hy with rfl|hy
  ·exact hx
  ·rcases P3.mp hy with rfl|hy
   ·exact hT
   ·cases hy) (λb o e n1 n2=>st b o (hideAll_get _ e λz=>by
    rcases P3.mp z with rfl|z
    ·exact n1 (.head _)
    ·rcases P3.mp z with rfl|z
     ·exact n1 (.tail _ (.head _))
     ·exact n2 z)) λb o e hb=>by
  obtain⟨_,o2,e2,nd⟩:=stk.mem hb;rw [e] at e2;cases e2;exact up b o e nd
 obtain⟨q1,q2⟩:=r3 T' oT' ts' hT' hTd' λo e=>by
  by_cases z:T'∈frs (X.env::X.outer)
  ·exact .inr z
  ·refine .inl ?_
   by_cases z1:T'=x
   ·rw [z1];exact .head _
   ·by_cases z2:T'=T
    ·rw [z2];exact .tail _ (.head _)
    ·rw [hideAll_get _ e (by simp only [P3,not_or];exact⟨z1,z2,z⟩)] at hTB;cases hTB
 have cellK: ∀c v,s.heap.IsCell c v->h'.IsCell c v:=λc v ⟨o,ho,hd⟩=>by
  obtain⟨sl,e⟩:=up c o ho λws q=>by rw [hd] at q;cases q
  exact⟨_,e,hd⟩
 refine⟨⟨I.ok,I.os,I.bare,by rw [Z.ex];exact r1,?_,λy c e=> ?_,I.free,I.freeC,λp hp=> ?_,r2,I.len⟩,⟨⟨oe',vs',a0,T',oT',ts',he',hc',hd',h0',h1',hTx',hT',hTd',h3',q1,q2⟩,hx.1,hx.2⟩⟩
 ·obtain⟨m,hn,hl⟩:=I.loc;refine⟨m,up.ns hn,λi y v e1 e2 e3=> ?_⟩;obtain⟨u,r,l⟩:=hl i y v e1 e2 e3;exact⟨u,r,l.imp id λ⟨k,c,e,z⟩=>⟨k,c,e,cellK c _ z⟩⟩
 ·obtain⟨v,z⟩:=I.cell y c e;exact⟨v,cellK c v z⟩
 ·rw [hpn] at hp;cases hp
theorem Inv.track {oe:Obj}{vs:Array Value}(I:Inv X [] σ H s)(hpn:X.pn= [])(hn:H x=none)(h0:X.s₀.heap.get? x=none)(hx:s.heap.get? x=some oe)(hd:oe.data= .fields vs):Inv X [] σ (upd H x (.frz oe (.own 0))) s:=by
 have ne: ∀b u,H b=some u->b≠x:=λb u e z=>by rw [z,hn] at e;cases e
 have ne0: ∀b o,X.s₀.heap.get? b=some o->b≠x:=λb o e z=>by rw [z,h0] at e;cases e
 have cn: ∀y c,X.env.cells.lookup y=some c->c≠x:=λy c e z=>by
  obtain⟨v,o,ho,hc⟩:=I.cell y c e;rw [z,hx] at ho;cases ho;rw [hd] at hc;cases hc
 refine⟨I.ok,I.os,I.bare,⟨I.base.keep,I.base.slot,λb o e n hx=> ?_,I.base.there,λb xs e=> ?_,λb o u e=> ?_,λb ps e=> ?_⟩,I.loc,I.cell,?_,λy c e=> ?_,λp hp=> ?_,λa o e=> ?_,I.len⟩
 ·rw [jl (ne0 b o e)];exact I.base.free b o e n hx
 ·have:=I.base.tups b xs e;rw [jl (ne b _ this)];exact this
 ·have:=I.base.frzs b o u e;rw [jl (ne b _ this)];exact this
 ·obtain⟨more,this⟩:=I.base.tbls b ps e;exact⟨more,by rw [jl (ne b _ this)];exact this⟩
 ·rw [jl (λz=> ?_)]
  ·exact I.free
  ·obtain⟨m,⟨o,es,ep,e,d,_⟩,_⟩:=I.loc;rw [z,hx] at e;cases e;rw [hd] at d;cases d
 ·rw [jl (cn y c e)];exact I.freeC y c e
 ·rw [hpn] at hp;cases hp
 ·by_cases z:a=x
  ·subst z;rw [jp] at e;cases e;exact⟨hx,⟨oe,hx⟩⟩
  ·rw [jl z] at e;exact(I.hok a o e).stay (λ_ _ _ q=>q) (λb q=>by rw [jl (ne b _ q)];exact q) λb xs q=>by rw [jl (ne b _ q)];exact q
theorem Rn {M:Model}{A:Around}{E:Value->Shared->Prop}{i:Nat}{y:Str}{v:V}{Q:Unit->Shared->Prop}(I:Inv X [] σ H s)(hpn:X.pn= [])(hN:X.N.Nodup)(hi:X.N[i]? =some y)(hk:X.env.scope.names.lookup y=some .local)(hv:σ[i]? =some (some v))
 (h: ∀s',Inv X [] (σ.set i none) H s'->Q () s'):wpAny M A (unbindName X.env y) Q E s:=by
 obtain⟨m,hn,hl⟩:=id I.loc;have hcls:(X.env.scope.kind== .class||(X.env.scope.kind== .module&&X.env.locals !=X.env.globals))=false:=by rw [I.ok.kind];rfl
 have hiσ:i<σ.length:=by rw [I.len];exact(P0.mp hi).1
 obtain⟨u,r,l⟩:=hl i y v hi hv (.inl hk);have hm:m y=some u:=by
  rcases l with ⟨_,e⟩|⟨k,_⟩
  ·exact e
  ·rcases k with k|k<;>(have k':X.env.scope.names.lookup y=_:=k;rw [hk] at k';cases k')
 refine wpAny_unbindName_local hk hn hm hcls λh' u' hn' hs=> ?_
 obtain⟨oL,_,_,hoL,_⟩:=id hn;have cne:=I.cne;refine h _ ⟨I.ok,I.os,I.bare,⟨λb o e n hb hx=> ?_,λb o e n hb hx=> ?_,I.base.free,λb o e hx=> ?_,I.base.tups,I.base.frzs,I.base.tbls⟩,⟨_,hn',λj z v' e1 e2 e3=> ?_⟩,λz c e=> ?_,I.free,I.freeC,λp hp=> ?_,λb ob e=> ?_,by simpa using I.len⟩
 ·exact(hs.2 b (R3 (D7 (P1 e) I.ok.above))).trans (I.base.keep b o e n hb hx)
 ·obtain⟨sl,e1⟩:=I.base.slot b o e n hb hx;exact⟨sl,(hs.2 b (R3 (D7 (P1 e) I.ok.above))).trans e1⟩
 ·obtain⟨o',e1⟩:=I.base.there b o e hx;exact⟨o',(hs.2 b (R3 (D7 (P1 e) I.ok.above))).trans e1⟩
 ·by_cases hj:j=i
  ·subst hj;rw [K4 hiσ] at e2;cases e2
  ·rw [F8 (Ne.symm hj)] at e2;obtain⟨u2,r',q⟩:=hl j z v' e1 e2 e3;refine⟨u2,r',?_⟩;rcases q with ⟨k,e⟩|⟨k,c,e,q⟩
   ·refine .inl ⟨k,?_⟩;have:z≠y:=λe=>hj (Yp hN e1 (e ▸ hi))
    simp [this,e]
   ·exact .inr ⟨k,c,e,q.sameBut hs (cne z c e)⟩
 ·obtain⟨w',q⟩:=I.cell z c e;exact⟨w',q.sameBut hs (cne z c e)⟩
 ·rw [hpn] at hp;cases hp
 ·refine(I.hok b ob e).stay (λc w' hc q=>(hs.2 c ?_).trans q) (λ_ q=>q) λ_ _ q=>q
  rintro rfl;rcases hc with rfl|hc
  ·rw [I.free] at e;cases e
  ·rw [I.free] at hc;cases hc
end
def cxH (X:Cx)(x:Addr):Cx:= {X with A:=X.A.mark (some (.ref x)),calm:=false,xe:=λ_ _=>False}
section
variable {X:Cx}{pins:List (Addr×Obj)}{σ:St}{H:Hp}{s:Shared}{x C:Addr}
theorem Inv.suite (I:Inv X pins σ H s)(x:Addr):Inv (cxH X x) pins σ H s:=
 ⟨⟨I.ok.mod,I.ok.kind,I.ok.glob,I.ok.blt,I.ok.above,I.ok.inj,I.ok.has,I.ok.cab,λz=>(by cases z),I.ok.frames,I.ok.stk,I.ok.exf,I.ok.bs,I.ok.bsz,I.ok.noex,I.ok.exfs,I.ok.funs,I.ok.frf⟩,I.os,I.bare,I.base,I.loc,I.cell,I.free,I.freeC,I.pin,I.hok,I.len⟩
theorem Inv.unsuite (I:Inv (cxH X x) pins σ H s)(ok:X.Ok):Inv X pins σ H s:=⟨ok,I.os,I.bare,I.base,I.loc,I.cell,I.free,I.freeC,I.pin,I.hok,I.len⟩
theorem NQ {E:Value->Shared->Prop}{n:Str}{i:Nat}{PE:Addr}{b0:Stmt}{suite:List Stmt}{t:TS}{D:Ends}{np pos:Pos}(Z:Rz0 X)(hpn:X.pn= [])(hN:X.N.Nodup)(hi:X.N[i]? =some n)(hl:X.env.scope.names.lookup n=some .local)
 (hg:Gl X "PowerError")(hm:X.mg "PowerError" =some (.ref PE))(hex:exmOne X.K (.ref C) (.ref PE)=some true)(I:Inv X [] σ H s)(fl:Fly X.s₀.heap H s.heap x C)(hs:PSs (cxH X x) (b0::suite) t)
 (ht: ∀oe vs,oe.cls= .ref C->oe.data= .fields vs->t {nx:=λ_ _=>False,rt:=D.rt} (σ.set i (some (.ref x))) (upd H x (.frz oe (.own 0)))):
 wpAny (model X.prog X.w) X.A (noteFrame (.ref x) X.env) (λ_ s₂=>wpAny (model X.prog X.w) X.A (setFlight (.ref x) none) (λ_ s₃=>wpAny (model X.prog X.w) X.A (handleBy (.ref x) X.env [.ExceptHandler (some (.Name "PowerError" np)) (some n) (b0::suite) pos]) (SP X [] D) E s₃) E s₂) E s:=by
 obtain⟨oe0,vs0,a0,T,oT,ts,he,hc,hd,h0,h1,hTx,hT,hTd,h3,hHT,h0T⟩:=fl.ex;have hfr:X.A.frames=some (X.env::X.outer):=by rw [I.ok.frames,Z.stk]
 have stk:s.heap.FunFrames X.base (X.env::X.outer):=Z.stk ▸ I.stack;have ff:s.heap.FunFrames (hideAll s.heap (x::T::frs (X.env::X.outer))) (X.env::X.outer):=zf stk λa ha=>hideAll_none _ (.tail _ (.tail _ ha))
 refine wpAny_looks_onW (base:=hideAll s.heap (x::T::frs (X.env::X.outer))) (cls:= .ref C) (a0:=a0) hfr Z.fr
  ⟨λb o e=>of_hideAll _ e,hideAll_none _ (.head _),ff,oe0,vs0,T,oT,ts,he,⟨hc,h0⟩,hd,h1,hideAll_none _ (.tail _ (.head _)),hTx,hT,hTd,h3⟩ λh₄ hheld₄ hup₄=> ?_
 refine wpAny_landsW hheld₄ λh₅ hfl₅ hup₅=> ?_
 obtain⟨I5,F5⟩:=I.relaid Z hpn ⟨fl.nx,fl.n0⟩ ⟨hHT,h0T⟩ rfl hfl₅ (hup₄.trans hup₅);refine wpAny_handleBy_cons (codeAny_handlers_test (Jb (X:=cxH X x) (I5.suite x) hg hm ?_)) (by intro q;cases q);have at5:ExcAt x C h₅:=let ⟨oe,_,_,_,_,_,e,c,_⟩:=F5.ex;⟨oe,e,c⟩;refine(exm_one (M:=model X.prog X.w) (h:=h₅) I5.kIn at5.type hex).here ?_;refine codeAny_handlers_suite_as ?_;refine lands_againW hfl₅ λh₆ hfl₆ hup₆=> ?_
 obtain⟨I6,F6⟩:=I.relaid Z hpn ⟨fl.nx,fl.n0⟩ ⟨hHT,h0T⟩ rfl hfl₆ (hup₄.trans (hup₅.trans hup₆));obtain⟨oe,vs,_,_,_,_,e6,c6,d6,_⟩:=F6.ex;have I7:=I6.track hpn F6.nx F6.n0 e6 d6;refine wJ I7 hN hi (.inl hl) (v:= .ref x) rfl (λs8 I8=> ?_) (.inr hl);refine R0 (hs [] s8 _ _ _ (I8.suite x) (ht oe vs c6 d6)) (λf s9 q=> ?_) λ_ _ z=>z.elim
 cases f with
 |next=>obtain⟨_,_,_,z⟩:=q;exact z.elim
 |brk=>obtain⟨_,_,_,z⟩:=q;exact z.elim
 |cont=>obtain⟨_,_,_,z⟩:=q;exact z.elim
 |ret u=>
  obtain⟨v,σ',H3,J,rv,qq⟩:=q;have J1:Inv X [] σ' H3 s9:=J.unsuite I.ok;refine wpAny_bind (G1x (wJ J1 hN hi (.inl hl) (v:= .non) rfl (λs10 J2=> ?_) (.inr hl)));unfold unbindBehindTheSuite;have hlt:i<σ'.length:=by rw [J1.len];exact(P0.mp hi).1
  exact wpAny_onRaise (Rn J2 hpn hN hi hl (v:= .non) (by rw [K4 hlt]) λs11 J3=>⟨v,_,H3,J3,rv,qq⟩)
end
def CW:List (Str×Str):= [("NoTable","table"),("NoPlace","place"),("NoNumber","number"),("NoOrder","order"),("NoSet","set"),("NoWalk","walk"),("NoLengths","lengths"),("NoWay","way"),("Apart","apart"),("NoRow","row")]
def CN:List Str:= ["NoTable","NoPlace","NoNumber","NoOrder","NoSet","NoWalk","NoLengths","NoWay","Apart","NoRow"]
def vI (c:Str):Str:=(CW.lookup c).getD "other"
def QC (P:Program)(w:World)(K:PySem.W.Frag)(mg:Str->Option Value)(base:Heap)(n:Nat):Shared->Sp:=λs vs H Q _=>
 ∃ (f:Addr) (o:Obj) (qual:Str) (pm cv ctv:Value) (cl:List (Str×Addr)) (q:Str) (N:List Str) (σ:St) (scope:Scope) (body:Expr) (h:HD) (Qd:KD),vs= [.ref f]/\s.heap.get? f=some o/\o.data= .func (kla_fn "<lambda>" qual Ww body scope cl pm cv ctv)/\CodeF H cv q/\H f=none/\LamOk scope/\Cap N σ scope cl s.heap H/\RelH K h H/\Cc K H Qd Q/\
 ((∃QT:VK,(∀ (A':Around) (outer':List Env) (s':Shared) (E':XK),Room n (A'.deeper (envX q scope s'.heap.objs.size f cv cl))-> ∃t,PE (cxL CX0 P w K mg base N q scope f cv cl A' outer' s' H E') body t/\t σ H QT)/\
  ∀v H',QT v H'-> ∃d h',Kept H H'/\RelH K h' H'/\RelD K H' d v/\Qd (.tup [.str "told",d]) h')\/
  (∃RT:Addr->Hp->Prop,(∀ (A':Around) (outer':List Env) (s':Shared),Room n (A'.deeper (envX q scope s'.heap.objs.size f cv cl))-> ∀pins s2,Inv (cxL (CXR P w) P w K mg base N q scope f cv cl A' outer' s' H (λc _ H'=> ∃C,c= .ref C/\RT C H')) pins σ H s2->
   wpAny (model P w) (A'.deeper (envX q scope s'.heap.objs.size f cv cl)) (eval body (envX q scope s'.heap.objs.size f cv cl)) (λ_ _=>False) (cxL (CXR P w) P w K mg base N q scope f cv cl A' outer' s' H (λc _ H'=> ∃C,c= .ref C/\RT C H')).xe s2)/\
   ∀C H',RT C H'-> ∃c h',mg c=some (.ref C)/\c∈CN/\Kept H H'/\RelH K h' H'/\Qd (.tup [.str (vI c)]) h'))
abbrev N1:List Str:= ["_law_call","_law_found","_law_e","_law_word"]
theorem RoomU.mark {k:Nat}{A:Around}{v:Option Value}(r:RoomU k A):RoomU k (A.mark v):=⟨r.dp,r.un,r.gd⟩
theorem Ro {M:Model}{f:Addr}(h:Heap)(X: ∃o fd,h.get? f=some o/\o.data= .func fd): ∃k,(k=Keeper.frame\/k=Keeper.machine\/k=Keeper.boundFrame)/\Looks M h (keeperOf (.ref f)) k:=by
 obtain⟨o,fd,e,d⟩:=X;refine⟨.frame,.inl rfl,(Looks.ld (part:=none) e).andThen ?_⟩;rw [d];exact .now
variable {mg:Str->Option Value}
theorem Ln {P:Program}{w:World}{K:PySem.W.Frag}{base:Heap}{st:Stmt}{fs:Addr}{fds:FuncData}{n:Nat}{pe:Addr}{p1 p2 p3 p4 p5 p6 p7 p8 p9 p10 p11:Pos}{j k:Nat}{b0:Stmt}{suite:List Stmt}
 (F:Fun K "_law_said" "_law_said" st fs fds)(S:FnScope N1 ["_law_call"] (je st))
 (hb:jX st= [.Try [.Assign [.Name "_law_found" p1] (.Call (.Name "_law_call" p2) [] [] p3) p4] [.ExceptHandler (some (.Name "PowerError" p5)) (some "_law_e") (b0::suite) p6] [] [] p7,.Return (some (.Tuple [.Constant (.str "told") j p8,.Name "_law_found" p9] k p10)) p11])
 (l0:(je st).names.lookup ("_law_call" :Str)=some .local)(l1:(je st).names.lookup ("_law_found" :Str)=some .local)(l2:(je st).names.lookup ("_law_e" :Str)=some .local)(lp:(je st).names.lookup ("PowerError" :Str)=some .globalImplicit)
 (hm:mg "PowerError" =some (.ref pe))(hex: ∀c∈CN,∀C,mg c=some (.ref C)->exmOne K (.ref C) (.ref pe)=some true)(tS:TSD)
 (hsuite: ∀ (cdv:Value) (A:Around) (outer:List Env) (s:Shared) (H:Hp) (E:XK) (x:Addr),RoomU n ((A.deeper (envOfC "_law_said" (je st) s.heap.objs.size fs cdv)).mark (some (.ref x)))->JSs (cxH (Yq CX0 P w K mg base N1 "_law_said" (je st) fs cdv A outer s H E) x) (b0::suite) tS)
 (hread: ∀c∈CN,∀ (C:Addr) (h:HD) (Qd:KD),mg c=some (.ref C)->Qd (.tup [.str (vI c)]) h->tS {nx:=λ_ _=>False,rt:=λd h'=> ∃h2,Sub h2 h'/\Qd d h2} [none,none,some (.exc C),none] h):
 FnOkS P w K mg base CX0 (n+2) fs fds ["_law_call"] (QC P w K mg base n):=by
 obtain⟨oc,od,kV,doc,pm,an,cdv,ct,osl,rfl,lk,hcd⟩:=F.ex;refine ET lk hcd S (λs vs H Q E h=> ?_) λA outer s H vs Q E hr hsp s1 I=> ?_
 ·obtain⟨f,_,_,_,_,_,_,_,_,_,_,_,_,_,rfl,_⟩:=h;rfl
 obtain⟨f,o,qual,pmv,cv,ctv,cl,q,N,σ,scope,body,h,Qd,rfl,ho,hod,hcf,hHf,L,C,rh,post,alt⟩:=hsp;have un:=I.base;obtain⟨sl,ho1⟩:=un.any ho hHf (by intro z;cases z);have C1:Cap N σ scope cl s1.heap H:=C.step un;have hr0:Room (n+1) (A.deeper (envOfC "_law_said" (je st) s.heap.objs.size fs cdv)):=hr;rw [hb];have callee: ∀ {CX:CXT} {E':XK} {QT:VK} {t:TE} {Q2:Value->Shared->Prop} {EE:Value->Shared->Prop},PE (cxL CX P w K mg base N q scope f cv cl (A.deeper (envOfC "_law_said" (je st) s.heap.objs.size fs cdv)) (envOfC "_law_said" (je st) s.heap.objs.size fs cdv::outer) s1 H E') body t->t σ H QT->
  (∀r s2,CR CX (envOfC "_law_said" (je st) s.heap.objs.size fs cdv::outer) P w H s1 QT E' r s2->match r with| .ok (.ret v)=>Q2 v s2| .ok _=>False| .error e=>EE e s2)->
  wpAny (model P w) (A.deeper (envOfC "_law_said" (je st) s.heap.objs.size fs cdv)) (eval (.Call (.Name "_law_call" p2) [] [] p3) (envOfC "_law_said" (je st) s.heap.objs.size fs cdv)) Q2 EE s1:=by
  intro CX E' QT t Q2 EE hbt ht hk;refine I0 ?_;obtain⟨m,hn,hl⟩:=I.loc;obtain⟨u,ru,l⟩:=hl 0 "_law_call" (.ref f) rfl rfl (.inl l0);cases ru;have hmm:m "_law_call" =some (.ref f):=by
   rcases l with ⟨_,e⟩|⟨kk,_⟩
   ·exact e
   ·rcases kk with kk|kk<;>(have k':(je st).names.lookup ("_law_call" :Str)=_:=kk;rw [l0] at k';cases k')
  refine G1Q (wpAny_loadName_local S.kind l0 hn hmm ?_) (by decide);refine callWith_of (P:=λh=> ∃o fd,h.get? f=some o/\o.data= .func fd) rfl Ro (evalArgs_nil3 ⟨⟨_,_,ho1,hod⟩,?_⟩);exact V4 (W3 (Lh (CX:=CX) (k:=n) L hr0 I.env0 C1 ho1 hod hcf hbt ht) hk)
 refine A5 (wpAny_Try_except ?_);refine A5 (wpAny_Assign_Name ?_ rfl);rcases alt with ⟨QT,hT,hQ⟩|⟨RT,hR,hQ⟩
 ·obtain⟨t,hbt,ht⟩:=hT (A.deeper (envOfC "_law_said" (je st) s.heap.objs.size fs cdv)) (envOfC "_law_said" (je st) s.heap.objs.size fs cdv::outer) s1 E0 (hr0.deeper _);refine callee hbt ht λr s2 hq=> ?_
  cases r with
  |error e=>exact False.elim hq
  |ok fl=>
   cases fl with
   |next=>exact False.elim hq
   |brk=>exact False.elim hq
   |cont=>exact False.elim hq
   |ret u=>
    obtain⟨v,H',I2,rv,qt⟩:=I.after hq;obtain⟨d,h',kp,rh',rd,qd⟩:=hQ v H' qt;refine wJ I2 (i:=1) (x:= "_law_found") S.nd rfl (.inl l1) rv (λs3 I3=> ?_) (.inr l1);refine W1 (W1 ?_);have hret:JSs (Yq CX0 P w K mg base N1 "_law_said" (je st) fs cdv A outer s H E) [.Return (some (.Tuple [.Constant (.str "told") j p8,.Name "_law_found" p9] k p10)) p11] (MQ (SX (vC (dC (.str "told")) (vC (MP 1) PQ)))):=
     jh (yc (VR (jac WW (jac (jv 1 rfl (.inl l1)) jd))))
    exact hret.to [] s3 _ H' _ I3 ⟨[none,some d,none,none],h',{nx:=λ_ _=>False,rt:=Qd},⟨rfl,λi d' e=>by
     match i,e with
     |0,e=>cases e
     |1,e=>cases e;exact⟨v,rfl,rd⟩
     |2,e=>cases e
     |3,e=>cases e
     |i+4,e=>simp at e⟩,rh',⟨_,rfl,(by show 2<=sizeLine;decide),qd⟩,λ_ _ _ _ _ _ _ z=>z.elim,jF post kp,λ_ _ _ _ _ _ _ z=>z.elim,λ_ _ _ _ _ _ _ z=>z.elim⟩
 ·refine callee (CX:=CXR P w) (E':=λc _ H'=> ∃C,c= .ref C/\RT C H') (QT:=λ_ _=>False) (t:=λσ' H' _=>σ'=σ/\H'=H)
   (λpins s2 σ' H' Q' I' ⟨e1,e2⟩=> ?_) ⟨rfl,rfl⟩ λr s2 hq=> ?_
  ·subst e1;subst e2;exact R0 (hR _ _ s1 (hr0.deeper _) pins s2 I') (λ_ _ z=>z.elim) λ_ _ z=>z
  cases r with
  |ok fl=>
   cases fl with
   |next=>exact False.elim hq
   |brk=>exact False.elim hq
   |cont=>exact False.elim hq
   |ret u=>obtain⟨_,_,_,_,_,_,_,z⟩:=hq;exact z.elim
  |error e=>
   obtain⟨x,C',H',rfl,os,bare,un2,hok,fl,C2,eC,rt⟩:=hq;cases eC;obtain⟨c,h',hmc,hcn,kp,rh',qd⟩:=hQ C' H' rt;have I2:=I.call' (ch:= []) os un2 hok bare (λb z=>absurd z (by simp));have f0: ∀b,s1.heap.get? b=none->s.heap.get? b=none:=λb nb=>by
    cases qq:s.heap.get? b with
    |none=>rfl
    |some o=>obtain⟨o',e⟩:=I.base.there b o qq (by intro z;cases z);rw [nb] at e;cases e
   have fl':Fly s.heap H' s2.heap x C':=by
    obtain⟨⟨oe,vs,a0,T,oT,ts,a1,a2,a3,a4,a5,a6,a7,a8,a9,a10,a11⟩,nx,n0⟩:=fl;exact⟨⟨oe,vs,a0,T,oT,ts,a1,a2,a3,a4,a5,a6,a7,a8,a9,a10,f0 _ a11⟩,nx,f0 _ n0⟩
   have hsu:=hsuite cdv A outer s H E x (RoomU.mark ((hr0.mono (Nat.le_succ n)).u));refine R0 (NQ (X:=Yq CX0 P w K mg base N1 "_law_said" (je st) fs cdv A outer s H E) (σ:=start N1 [V.ref f]) (i:=2) (n:= "_law_e") (C:=C') (t:=LS K tS) (D:= {nx:=λ_ _=>False,rt:=Q}) ⟨rfl,rfl,rfl⟩ rfl S.nd rfl l2 lp hm (hex c hcn C' hmc) I2 fl' hsu.to λoe vs hc hd=> ?_) (λ_ s3 h3=>R0 h3 (λ_ s4 h4=>R0 h4 (λfl s5 h5=> ?_) λ_ _ z=>z) λ_ _ z=>z) λ_ _ z=>z
   ·refine⟨[none,none,some (.exc C'),none],h',_,⟨rfl,λi d' e=> ?_⟩,rh'.new fl'.nx,hread c hcn C' h' Qd hmc qd,λ_ _ _ _ _ _ _ z=>z.elim,λd v h2 H2 k2 rh2 rd ⟨h3,sb,q3⟩=>post d v h3 H2 ((kp.trans (.new fl'.nx)).trans k2) (rh2.sub sb) rd q3,λ_ _ _ _ _ _ _ z=>z.elim,λ_ _ _ _ _ _ _ z=>z.elim⟩
    match i,e with
    |0,e=>cases e
    |1,e=>cases e
    |3,e=>cases e
    |i+4,e=>simp at e
    |2,e=>cases e;exact⟨.ref x,rfl,x,oe,vs,rfl,jp,hc,hd⟩
   ·cases fl with
    |next=>obtain⟨_,_,_,z⟩:=h5;exact z.elim
    |brk=>obtain⟨_,_,_,z⟩:=h5;exact z.elim
    |cont=>obtain⟨_,_,_,z⟩:=h5;exact z.elim
    |ret u=>exact h5
def Hx (tT:TED)(tR:TXD):TED:=λσ h Q=>tT σ h (λd h'=>Q (.tup [.str "told",d]) h')\/tR σ h (λc h'=>c∈CN/\Q (.tup [.str (vI c)]) h')
def Ks (sc:Scope):Bool:=sc.kind== .function&& !sc.isCoroutine&& !sc.isGenerator&&sc.names.all λy=>y.2 != .cell&&y.2 != .local
theorem EV {sc:Scope}(hk:sc.kind= .function)(h:Ks sc=true):LamOk sc:=by
 unfold Ks at h;simp only [T5,G02,M8,bne_iff_ne,ne_eq] at h;exact⟨hk,h.1.1.2,h.1.2,λy hy=>h.2 y hy⟩
def EW (sc sc':Scope):Bool:=sc.names.all λy=>y.2 != .free||(sc'.names.lookup y.1==some .cell||sc'.names.lookup y.1==some .free)
theorem Lo {sc:Scope}{env:Env}(h:EW sc env.scope=true):Rj sc env:=λn hn=>by
 have:=M8.mp h _ hn;simp only [bne_self_eq_false,Bool.false_or,U6,V5] at this;exact this
theorem Hy {X:Cx}{n:Nat}{fs:Addr}{fds:FuncData}{scope:Scope}{body:Expr}{lpos p pos:Pos}{tT:TED}{tR:TXD}{c P:Addr}
 (F:FnOkS X.prog X.w X.K X.mg X.base CX0 (n+2) fs fds ["_law_call"] (QC X.prog X.w X.K X.mg X.base n))(hr:Room (n+2) X.A)(hg:Gl X "_law_said")(hm:X.mg "_law_said" =some (.ref fs))(hk:keepIn X.K (.ref fs)=true)(hb:Binds X.K fds ["_law_call"] [])
 (B:Bm X.mg X.base)(hcode:X.env.code= .ref c)(hc:codeHdIn X.K c P=true)(hTK:TabK X.K P)(L:LamOk scope)(hfr:Rj scope X.env)
 (hT: ∀ (q:Str) (cv:Value) (cl:List (Str×Addr)) (f:Addr) (A:Around) (outer:List Env) (s:Shared) (H:Hp) (E:XK),Room n (A.deeper (envX q scope s.heap.objs.size f cv cl))->JE (cxL CX0 X.prog X.w X.K X.mg X.base X.N q scope f cv cl A outer s H E) body tT)
 (hR: ∀ (q:Str) (cv:Value) (cl:List (Str×Addr)) (f:Addr) (A:Around) (outer:List Env) (s:Shared) (H:Hp) (E:XK),Room n (A.deeper (envX q scope s.heap.objs.size f cv cl))->JXE (cxL (CXR X.prog X.w) X.prog X.w X.K X.mg X.base X.N q scope f cv cl A outer s H E) body tR)
 (he:starEach [Expr.Lambda Ww body scope lpos] X.env=(false,eval (.Lambda Ww body scope lpos) X.env)::starEach [] X.env:=by rfl)(hpl:(backTo pos (starEach [] X.env)).any (·.1)=false:=by rfl):
 JE X (.Call (.Name "_law_said" p) [.Lambda Ww body scope lpos] [] pos) (Hx tT tR):=⟨λpins s σ H Q I ⟨σd,h,Qd,rs,rh,alt,post⟩=>by
 refine I0 (Jb I hg hm ?_ (by decide));refine G0P (h₀:=X.base) I.ok.mod.kin hk ?_ he hpl;rw [he];obtain⟨ps,hP,hps⟩:=rh.tb P hTK;have hcl:closureFor scope X.env=pure (JN X.env.cells scope.names []):=ZG λn hn=>I.ok.has n (hfr n hn)
 refine Y7 (NJ I B hcode hc hP hps hcl λf q qual pm cv ctv H1 h1 tk I1 kp lsts tbls Kq hf hcf hHf _ _ _=>G0Y ⟨I1.kIn,?_⟩);have rh1:RelH X.K h H1:=⟨λa ds e=>by
  obtain⟨vs,e1,e2⟩:=rh a ds e;exact⟨vs,lsts _ _ e1,e2.mono kp⟩,λP' hP'=>by
  by_cases z:P'=P
  ·subst z;exact Kq
  ·obtain⟨ps',e1,e2⟩:=rh.tb P' hP';exact⟨ps',tbls _ _ e1 z,e2.mono kp.frz⟩⟩
 have rs1:RelS X.K H1 σd σ:=rs.mono kp;refine Ll (us:= [.ref f]) (vs:= [.ref f]) (dvs:= []) (ds:= []) (E:=E0) F hr hb .nil Fp I1 (.cons rfl .nil) ?_;refine⟨f,_,qual,pm,cv,ctv,JN X.env.cells scope.names [],q,X.N,σ,scope,body,h,Qd,rfl,hf,rfl,hcf,hHf,L,Cap.of I1 hfr,rh1,jF post kp,?_⟩;rcases alt with t|t
 ·refine .inl ⟨λv H'=> ∃d h',Kept H1 H'/\RelH X.K h' H'/\RelD X.K H' d v/\Qd (.tup [.str "told",d]) h',λA' outer' s' E' hr'=>⟨_,(hT q cv _ f A' outer' s' H1 E' hr').to,σd,h,_,rs1,rh1,t,λd v h' H' k r1 r2 q=>⟨d,h',k,r1,r2,q⟩⟩,λv H' q=>q⟩
 ·refine .inr ⟨λC H'=> ∃c h',X.mg c=some (.ref C)/\c∈CN/\Kept H1 H'/\RelH X.K h' H'/\Qd (.tup [.str (vI c)]) h',λA' outer' s' hr' pins2 s2 I2=> ?_,λC H' q=>q⟩;exact(hR q cv _ f A' outer' s' H1 _ hr').to _ ER pins2 s2 σ H1 σd h _ I2 rs1 rh1 t λc C h' H' k rh' hmc ⟨hcn,qq⟩=>⟨C,rfl,c,h',hmc,hcn,k,rh',qq⟩⟩
variable {K:Frag}{x:Str}
theorem NR {f c P:Addr}{oc:Value}{od:Option Addr}{fd:FuncData}{osl:Array (Option Value)}(a:nsIn K mainGlobals x=some (some (.ref f)))(l:K.lookup f=some ⟨oc,od,.func fd,osl⟩)(t:tabIn K x=some (c,P)):fd.code= .ref c:=by
 unfold tabIn at t;rw [a] at t;simp only [l] at t;split at t
 ·rename_i c' hc';split at t
  ·split at t
   ·cases t;exact hc'
   ·cases t
  ·cases t
 ·cases t
def CN13:List Str:= ["NoTable","NoPlace","NoNumber","NoOrder","NoSet","NoWalk","NoLengths","NoWay","Apart","NoRow","NoTables","NoText","TooGreat"]
def adr (K:Frag)(x:Str):Option Addr:=match nsIn K mainGlobals x with
 |some (some (.ref a))=>some a
 |_=>none
def NS (K:Frag)(C:Addr):Bool:=(clsIn K C).isSome&&findIn K (.ref C) "__getattribute__" ==some (some (.builtin "BaseException.__getattribute__"))&&findIn K (.ref C) "__getattr__" ==some none
 &&findIn K (.ref C) "__class__" ==some (some (.builtin "object.__class__"))&&specialIn K (.builtin "object.__class__") "__get__" ==some (some (.builtin "getset_descriptor.__get__"))
 &&takesIn K (.builtin "object.__class__")==some true&&mroIn K C (.type "object")==some true&&mroIn K C (.type "BaseException")==some true
theorem Lp {C:Addr}(h:NS K C=true):ExcK K C:=by
 unfold NS at h;simp only [T5,V5] at h;obtain⟨⟨⟨⟨⟨⟨⟨a,b⟩,c⟩,d⟩,e⟩,f⟩,g⟩,i⟩:=h;exact⟨a,b,c,d,e,f,g,i⟩
def Cp (K:Frag)(c:Str):Bool:=match adr K c,adr K "PowerError" with
 |some C,some pe=>excIn K C bmV "ValueError.__new__" &&NS K C&&kitOne K (.ref C) (.type "ValueError")==some true&&exmOne K (.ref C) (.ref pe)==some true&&CN13.all λd=>match adr K d with
  |some D=>kitOne K (.ref C) (.ref D)==some (c==d)
  |none=>false
 |_,_=>false
def Hz (K:Frag):Bool:=CN.all (Cp K)&&CN13.all (λd=>(adr K d).isSome)&&(adr K "PowerError").isSome&&nsIn K mainGlobals "ValueError" ==some none
structure Exc (K:Frag)(mg:Str->Option Value):Prop where
 own: ∀c∈CN,OwnX K mg c
 ek: ∀c∈CN,∀C,mg c=some (.ref C)->ExcK K C
 kit: ∀c∈CN,∀d∈CN13,∀C D,mg c=some (.ref C)->mg d=some (.ref D)->kitOne K (.ref C) (.ref D)=some (c==d)
 val: ∀c∈CN,∀C,mg c=some (.ref C)->kitOne K (.ref C) (.type "ValueError")=some true
 pe: ∃pe,mg "PowerError" =some (.ref pe)/\ ∀c∈CN,∀C,mg c=some (.ref C)->exmOne K (.ref C) (.ref pe)=some true
 cls: ∀d∈CN13,∃D,mg d=some (.ref D)
 ve:mg "ValueError" =none
theorem QD {h:Heap}{a:Addr}(X:K.In h)(G:h.Ns mainGlobals mg)(e:adr K x=some a):mg x=some (.ref a):=by
 unfold adr at e;split at e
 ·rename_i q;cases e;exact mg_of X G q
 ·cases e
theorem EX {a:Addr}(e:adr K x=some a):nsIn K mainGlobals x=some (some (.ref a)):=by
 unfold adr at e;split at e
 ·rename_i q;cases e;exact q
 ·cases e
theorem EY {h:Heap}(X:K.In h)(G:h.Ns mainGlobals mg)(e:Hz K=true):Exc K mg:=by
 unfold Hz at e;simp only [T5,M8,V5] at e;obtain⟨⟨⟨e1,e2⟩,e3⟩,e4⟩:=e;obtain⟨pe,hpe⟩:=A0.mp e3;have A: ∀c∈CN,∃C,adr K c=some C/\mg c=some (.ref C)/\excIn K C bmV "ValueError.__new__" =true/\NS K C=true/\kitOne K (.ref C) (.type "ValueError")=some true/\exmOne K (.ref C) (.ref pe)=some true/\ ∀d∈CN13,∀D,adr K d=some D->kitOne K (.ref C) (.ref D)=some (c==d):=λc hc=>by
  have q:=e1 c hc;unfold Cp at q;rw [hpe] at q;split at q
  ·rename_i C pe' h1 h2;cases h2;simp only [T5,M8,V5] at q;obtain⟨⟨⟨⟨q1,q2⟩,q3⟩,q4⟩,q5⟩:=q;refine⟨C,h1,QD X G h1,q1,q2,q3,q4,λd hd D hD=> ?_⟩;have:=q5 d hd;rw [hD] at this;simpa using this
  ·cases q
 have same: ∀ {c:Str} {C C':Addr},mg c=some (.ref C)->mg c=some (.ref C')->C=C':=λa b=>by rw [a] at b;cases b;rfl
 refine⟨λc hc=> ?_,λc hc C h=> ?_,λc hc d hd C D h1 h2=> ?_,λc hc C h=> ?_,⟨pe,QD X G hpe,λc hc C h=> ?_⟩,λd hd=> ?_,mg_none_of X G e4⟩
 ·obtain⟨C,a,m,q,_⟩:=A c hc;exact⟨C,m,EX a,q⟩
 ·obtain⟨C',_,m,_,q,_⟩:=A c hc;cases same h m;exact Lp q
 ·obtain⟨C',_,m,_,_,_,_,q⟩:=A c hc;cases same h1 m;obtain⟨D',hD⟩:=A0.mp (e2 d hd);cases same h2 (QD X G hD);exact q d hd D hD
 ·obtain⟨C',_,m,_,_,q,_⟩:=A c hc;cases same h m;exact q
 ·obtain⟨C',_,m,_,_,_,q,_⟩:=A c hc;cases same h m;exact q
 ·obtain⟨D',hD⟩:=A0.mp (e2 d hd);exact⟨D',QD X G hD⟩
def xOr (t u:TXD):TXD:=λσ h R=>t σ h R\/u σ h R
theorem HA {X:Cx}{sts:List Stmt}{t u:TXD}(a:JX X sts t)(b:JX X sts u):JX X sts (xOr t u):=⟨λE Z pins s σ H σd h R I rs rh ht w=>ht.elim (λq=>a.to E Z pins s σ H σd h R I rs rh q w) λq=>b.to E Z pins s σ H σd h R I rs rh q w⟩
section
variable {P:Program}{w:World}{K:PySem.W.Frag}{mg:Str->Option Value}{base:Heap}
theorem Fun.okJL {x qual:Str}{st:Stmt}{f c Pt:Addr}{fd:FuncData}{N ps:List Str}{k:Nat}{spd:RDn}(F:Fun K x qual st f fd)(a:nsIn K mainGlobals x=some (some (.ref f)))(T:tabIn K x=some (c,Pt))(S:FnScope N ps (je st))(len: ∀ds h Q,spd ds h Q->ds.length=ps.length)
 (tb:TSD)(hbody: ∀ (A:Around) (outer:List Env) (s:Shared) (H:Hp) (E:XK),Room k (A.deeper (envOfC qual (je st) s.heap.objs.size f (.ref c)))->JSs (Yq CX0 P w K mg base N qual (je st) f (.ref c) A outer s H E).nox (jX st) tb)
 (read: ∀ds h Q,spd ds h Q->tb (Qu Q) (zu N ds) h):FnOk P w K mg base CX0 (k+1) f fd ps (LSp K spd):=by
 obtain⟨oc,od,kV,doc,pm,an,cdv,ct,osl,rfl,lk,hcd⟩:=F.ex;have e:cdv= .ref c:=NR a lk T;subst e;refine Fk lk hcd S (λvs H Q E h=> ?_) λA outer s H vs Q E hr h=> ?_
 ·obtain⟨ds,h,Qd,r,rh,q,p⟩:=h;rw [<-r.length];exact len _ _ _ q
 ·obtain⟨ds,h,Qd,r,rh,q,p⟩:=h;refine⟨_,((hbody A outer s H E hr).to).nox,zu N ds,h,Qu Qd,yH r,rh,read ds h Qd q,λσd' h' σ' H' k rs' rh' ⟨h2,sb,q'⟩=>p .non .non h2 H' k (rh'.sub sb) rfl q',λd v h' H' k rh' r' ⟨h2,sb,q'⟩=>p d v h2 H' k (rh'.sub sb) r' q',λ_ _ _ _ _ _ _ z=>z.elim,λ_ _ _ _ _ _ _ z=>z.elim⟩
end
def EZ (P:Program)(w:World)(K:PySem.W.Frag)(mg:Str->Option Value)(base:Heap)(n:Nat):Prop:=
 ∃ (g:Addr) (gd:FuncData),FnOkS P w K mg base CX0 (n+2) g gd ["_law_call"] (QC P w K mg base n)/\Binds K gd ["_law_call"] []/\PySem.W.keepIn K (.ref g)=true/\mg "_law_said" =some (.ref g)
def Lq (K:Frag)(x:Str):Bool:=match tabIn K x with
 |some p=>codeHdIn K p.1 p.2
 |none=>false
theorem Lr (h:Lq K x=true): ∃c P,tabIn K x=some (c,P)/\codeHdIn K c P=true:=by
 unfold Lq at h;split at h
 ·rename_i p e;exact⟨p.1,p.2,e,h⟩
 ·cases h
def Rq (mg:Str->Option Value):RDn:=λds h Q=> ∃c C,ds= [.exc C]/\c∈CN/\mg c=some (.ref C)/\ ∀h',Sub h h'->Q (.str (vI c)) h'
end L2
namespace L2
open PySem PySem.Spec PyProof.Rows PySem.SeqAt
section
variable {n e:Nat}{T:List (List Int)}
instance (k i j:Nat):Decidable (RP n T k i j):=inferInstanceAs (Decidable (ent (Hq n T k) i j≠0))
end
end L2
namespace L2
open PySem PySem.Spec PyProof.Rows PySem.W
section
variable {X:Cx}{e a b iter:Expr}{es:List Expr}{u:TXD}{pos p:Pos}{rest:List Stmt}
theorem Rr (he:JXE X e u)(hs:starEach (e::es) X.env=(false,eval e X.env)::starEach es X.env)(E:XK)(Z:Rz X E)(pins:List (Addr×Obj))(s:Shared)(σ:St)(H:Hp)(σd:SD)(h:HD)(R:Str->HD->Prop)(I:Inv X pins σ H s)(rs:RelS X.K H σd σ)(rh:RelH X.K h H)(ht:u σd h R)(w:WX X E H R):
 wpAny (model X.prog X.w) X.A (spliced (backTo pos (starEach (e::es) X.env))) (λ_ _=>False) X.xe s:=by
 rw [hs];show wpAny _ _ (spliced ((false,eval e X.env)::backTo pos (starEach es X.env))) _ _ s;exact Y7 (R0 (he.to E Z pins s σ H σd h R I rs rh ht w) (λ_ _ z=>z.elim) λ_ _ z=>z)
theorem Ls {x:Str}{id:String}(hg:Gl X x)(hm:X.mg x=none)(hv:bootBuiltins x=some (.builtin id))(ha:JXE X e u)(hn:x≠ "__name__" :=by decide)(hdb:(x==("__debug__" :Str))=false:=by decide)
 (he:starEach (e::es) X.env=(false,eval e X.env)::starEach es X.env:=by rfl)(hpl:(backTo pos (starEach es X.env)).any (·.1)=false:=by rfl):JXE X (.Call (.Name x p) (e::es) [] pos) u:=⟨λE Z pins s σ H σd h R I rs rh ht w=>
 I0 (Zi I hg hm hv (G0m (R0 (Rr ha he E Z pins s σ H σd h R I rs rh ht w) (λ_ _ z=>z.elim) λ_ _ z=>z) he hpl) hn hdb)⟩
end
end L2
namespace L2
open PySem PySem.Spec PyProof.Rows
def TrV (K:PySem.W.Frag)(H:Hp):V->Bool->Prop
 | .bl b,c=>c=b
 | .int i,c=>c=(i !=0)
 | .non,c=>c=false
 | .ref a,c=> ∃xs,SqL K H a xs/\c= !xs.isEmpty
 |_,_=>False
def TrD (h:HD):D->Bool->Prop
 | .bl b,c=>c=b
 | .int i,c=>c=(i !=0)
 | .non,c=>c=false
 | .lst a,c=> ∃ds,h a=some ds/\c= !ds.isEmpty
 |_,_=>False
theorem TrD.to {K:PySem.W.Frag}{H:Hp}{h:HD}{d:D}{v:V}{c:Bool}(t:TrD h d c)(r:RelD K H d v)(rh:RelH K h H):TrV K H v c:=by
 cases d<;>try exact t.elim
 ·have e:v= .non:=r;subst e;exact t
 ·have e:v= .bl _:=r;subst e;exact t
 ·have e:v= .int _:=r;subst e;exact t
 ·obtain⟨e,_⟩:=r;subst e;obtain⟨ds,hd,e⟩:=t;obtain⟨vs,hv,r'⟩:=rh _ ds hd;refine⟨vs,SqL.of hv,?_⟩;rw [e];have:=r'.length;cases ds<;>cases vs<;>first|rfl|(simp at this)
section
variable {X:Cx}{pins:List (Addr×Obj)}{σ:St}{H:Hp}{s:Shared}{E:Value->Shared->Prop}
theorem Inv.trv {v:V}{u:Value}{c:Bool}{Q:Bool->Shared->Prop}(I:Inv X pins σ H s)(r:RelV v u)(t:TrV X.K H v c)(q: ∀s',Inv X pins σ H s'->Q c s'):wpAny (model X.prog X.w) X.A (truthy u) Q E s:=by
 cases v<;>try exact t.elim
 ·have e:u=Value.none:=r;subst e;have e:c=false:=t;subst e;exact truthy_none (q _ I)
 ·have e:u=Value.bool _:=r;subst e;have e:c=_:=t;subst e;exact O0 (q _ I)
 ·obtain⟨t',e⟩:=r;subst e;have e:c=_:=t;subst e;exact truthy_int (q _ I)
 ·have e:u=Value.ref _:=r;subst e;obtain⟨xs,hx,e⟩:=t;obtain⟨its,rv,p,hz⟩:=I.list hx;have hl:=rv.length;have e2:c= !its.toArray.isEmpty:=by
   rw [e];cases xs<;>cases its<;>first|rfl|(simp at hl)
  refine wpAny_truthy_list p.isList ?_ ?_
  ·have:xs.length<=16777216:=P7 hz (by decide);simp only [D3];have e3:((2:Int)^63)=9223372036854775808:=by decide
   rw [e3];omega
  ·rw [<-e2];exact q _ (I.tok _)
end
section
variable {X:Cx}{a b:Expr}{rest:List Expr}{pos:Pos}
def Kt (K:PySem.W.Frag)(t:TE):TT:=λσ H Q=>t σ H λx H1=> ∃c,TrV K H1 x c/\Q c H1
theorem Sa {e:Expr}{t:TE}(h:PE X e t)(he: ∀whole,isTrue e X.env whole=(do let v <-whole;standAt e.pos;holding [v] (truthy v)):=by intro _;rfl):PT X e (Kt X.K t):=by
 intro pins s σ H Q I hw;refine isTrue_plain (thn (h pins s σ H _ I hw) λv s1 ⟨x,H1,I1,r1,q1⟩=> ?_) (he _);obtain⟨c,t1,q⟩:=q1;exact I1.trv r1 t1 λs' I'=>⟨H1,I',q⟩
def Ku (t:TED):TTD:=λσ h Q=>t σ h λx h1=> ∃c,TrD h1 x c/\Q c h1
variable {K:PySem.W.Frag}
theorem Sb {t:TED}: ∀σ H Q,LT K (Ku t) σ H Q->Kt K (LE K t) σ H Q:=λσ H Q ⟨σd,h,Qd,rs,rh,t,p⟩=>
 LE.bind rs rh t λd v h1 H1 k1 rs1 rh1 r1 ⟨k,e,q⟩=>⟨k,e.to r1 rh1,p k h1 H1 k1 rh1 q⟩
theorem HB {ta:TED}(ha:JE X a ta)(he: ∀whole,isTrue a X.env whole=(do let v <-whole;standAt a.pos;holding [v] (truthy v)):=by intro _;rfl):JT X a (Ku ta):=⟨(Sa ha.to he).imp Sb⟩
end
end L2
namespace L2
open PySem PySem.Spec PyProof.Rows PySem.SeqAt
structure GQ (n:Nat)(h0 h:HD)(p R:Addr)(rs:List Addr)(f:Nat->Nat->Int):Prop where
 at_:h R=some (rs.map D.lst)
 len:rs.length=n
 nR:R ∉ rs
 nd:rs.Nodup
 fR:h0 R=none
 np:p ∉ rs
 Rp:R≠p
 row: ∀i a,rs[i]? =some a->h0 a=none/\h a=some ((List.range n).map λj=>D.int (f i j))
 nn: ∀i j,0<=f i j/\f i j<=1000000
end L2
namespace HT
open PySem PySem.Spec PyProof.Rows
variable {j:Nat}
theorem YJ {xs:Array Nat}(r:xs.toList.Pairwise (· < ·)): ∀ (fuel lo hi:Nat),hi-lo<=fuel->hi<=xs.size->lo<=hi->(∀i,i<lo-> ∀v,xs[i]? =some v->v<j)->(∀i,hi<=i-> ∀v,xs[i]? =some v->j<=v)->
 (∀i,i<SetTable.below.go xs j fuel lo hi-> ∀v,xs[i]? =some v->v<j)/\(∀i,SetTable.below.go xs j fuel lo hi<=i-> ∀v,xs[i]? =some v->j<=v)/\SetTable.below.go xs j fuel lo hi<=xs.size
 |0,lo,hi,f,hs,lh,a,b=>by
  have:lo=hi:=by omega
  subst this;exact⟨a,b,hs⟩
 |fuel+1,lo,hi,f,hs,lh,a,b=>by
  unfold SetTable.below.go
  by_cases c:lo<hi
  ·rw [if_pos c];have hm:(lo+hi) / 2<xs.size:=by omega
   have mono: ∀ (i k u v:Nat),i<=k->xs[i]? =some u->xs[k]? =some v->u<=v:=λi k u v ik e1 e2=>by
    rcases A8 i k with z|z
    ·have i1:=(C6.mp e1);have i2:=(C6.mp e2);obtain⟨h1,e1'⟩:=i1;obtain⟨h2,e2'⟩:=i2;have:=N7.mp r i k (by simpa using h1) (by simpa using h2) z;simp only [X4] at this;omega
    ·have:i=k:=by omega
     subst this;rw [e1] at e2;cases e2;exact G5 _
   have em:xs.getD ((lo+hi) / 2) j=xs[(lo+hi) / 2]:=by simp [Array.getD,hm]
   dsimp only
   by_cases d:xs.getD ((lo+hi) / 2) j<j
   ·rw [if_pos d];refine YJ r fuel _ hi (by omega) hs (by omega) (λi hi' v hv=> ?_) b;have:=mono i ((lo+hi) / 2) v xs[(lo+hi) / 2] (by omega) hv (by simp [hm]);omega
   ·rw [if_neg d];refine YJ r fuel lo _ (by omega) (by omega) (by omega) a (λi hi' v hv=> ?_);have:=mono ((lo+hi) / 2) i xs[(lo+hi) / 2] v hi' (by simp [hm]) hv;omega
  ·rw [if_neg c];have:lo=hi:=by omega
   subst this;exact⟨a,b,hs⟩
theorem vJ {xs:Array Nat}(r:xs.toList.Pairwise (· < ·))(j:Nat):(∀i,i<SetTable.below xs j-> ∀v,xs[i]? =some v->v<j)/\(∀i,SetTable.below xs j<=i-> ∀v,xs[i]? =some v->j<=v)/\SetTable.below xs j<=xs.size:=
 YJ r xs.size 0 xs.size (by omega) (G5 _) (S9 _) (λi h=>absurd h (U8 _)) (λi h v e=>by rw [G1k h] at e;cases e)
theorem ZJ {xs:Array Nat}(r:xs.toList.Pairwise (· < ·))(no:xs[SetTable.below xs j]? ≠some j):(SetTable.insertAt xs (SetTable.below xs j) j).toList.Pairwise (· < ·):=by
 obtain⟨a,b,hs⟩:=vJ r j;rw [Y3,S6,O6];have low: ∀v∈xs.toList.take (SetTable.below xs j),v<j:=λv hv=>by
  obtain⟨i,hi⟩:=J8 hv;rw [List.getElem?_take] at hi;split at hi
  ·rename_i c;exact a i c v (by simpa using hi)
  ·cases hi
 have high: ∀v∈xs.toList.drop (SetTable.below xs j),j<v:=λv hv=>by
  obtain⟨i,hi⟩:=J8 hv;rw [A4] at hi;have hi':xs[SetTable.below xs j+i]? =some v:=by simpa using hi
  have le:=b _ (K8 _ _) v hi';rcases A8 j v with z|z
  ·exact z
  ·have ev:v=j:=by omega
   subst ev;cases i with
   |zero=>exact(no hi').elim
   |succ i=>
    obtain⟨h1,e1⟩:=C6.mp hi';have h0:SetTable.below xs v<xs.size:=by omega
    have le0:=b _ (G5 _) xs[SetTable.below xs v] (by simp [h0]);have lt:=N7.mp r (SetTable.below xs v) (SetTable.below xs v+(i+1)) (by simpa using h0) (by simpa using h1) (by omega);simp only [X4] at lt;omega
 exact⟨r.sublist (A9 _ _),⟨high,r.sublist (A1 _ _)⟩,λu hu v hv=>by
  rcases P3.mp hv with e|e
  ·rw [e];exact low u hu
  ·exact Y1 (low u hu) (high v e)⟩
structure Tab (L:Bool)(n:Nat)(t:SetTable):Prop where
 fits:t.fits n=true
 led:t.led=L
 dum:t.dummies= #[]
 rise:t.plain=true\/n<=1->t.place.toList.Pairwise (· < ·)
theorem NT {xs:List Nat}(h:xs.length<=1):xs.Pairwise (· < ·):=by
 match xs,h with
 | [],_=>exact .nil
 | [x],_=>exact N5 _ _
variable {t:SetTable}
theorem Yc {n:Nat}(h:t.fits n=true):t.place.size=n:=by
 simp only [SetTable.fits,T5,V5] at h;exact h.1
variable {L:Bool}
theorem Tab.mk' {n:Nat}(f:t.fits n=true)(l:t.led=L)(d:t.dummies= #[])(r:t.plain=true->t.place.toList.Pairwise (· < ·)):Tab L n t:=
 ⟨f,l,d,λh=>h.elim r λz=>NT (by have:=Yc f;simpa [this] using z)⟩
theorem Yd (h:t.slot j= .empty):t.place[SetTable.below t.place j]? ≠some j:=λe=>by
 unfold SetTable.slot at h;dsimp only at h;rw [if_pos (by rw [e];exact J4 _)] at h;cases h
theorem Ji (d:t.dummies= #[]):t.slot j≠ .dummy:=λh=>by
 unfold SetTable.slot at h;dsimp only at h;split at h
 ·cases h
 ·rw [d] at h;have:SetTable.has #[] j=false:=by unfold SetTable.has;simp
  rw [this] at h;cases h
theorem ZK {f:Nat->Int}{h:Int}(d:t.dummies= #[]): ∀ (fuel:Nat) (p:SetTable.Probe) {j:Nat} {dm:Option Nat},p.dummy=none->SetTable.probe.go t f h fuel p=some (.empty j dm)->t.slot j= .empty/\dm=none
 |0,p,j,dm,_,e=>by cases e
 |fuel+1,p,j,dm,hp,e=>by
  unfold SetTable.probe.go at e;have adv:(t.advance p).dummy=none:=by
   unfold SetTable.advance;split
   ·exact hp
   ·exact hp
  split at e
  ·rename_i hs;injection e with e;injection e with e1 e2;subst e1;exact⟨hs,by rw [<-e2];exact hp⟩
  ·rename_i hs;exact(Ji d hs).elim
  ·split at e
   ·cases e
   ·exact ZK d fuel _ adv e
variable {es:Array (Int×Value)}
theorem GT (T:Tab L es.size t)(h:Int)(x:Value):Tab L (layNew t es h x).1.size (layNew t es h x).2.1:=by
 have fit:=layNew_fits t es h x;revert fit;unfold layNew;cases e:t.freeSlot h with
 |none=>intro fit;exact .mk' fit T.led rfl λz=>by cases z
 |some q=>
  obtain⟨slot,wd⟩:=q;intro fit;have ne:t.place[SetTable.below t.place slot]? ≠some slot:=by
   unfold SetTable.freeSlot at e;split at e
   ·rename_i j dm hp;obtain⟨he,hd⟩:=ZK T.dum _ _ rfl hp;injection e with e;injection e with e1 e2
    subst hd;rw [<-e1];exact Yd he
   ·cases e
  refine .mk' fit ?_ ?_ ?_
  ·show (SetTable.orStandIn _ _).led=L;unfold SetTable.orStandIn;split
   ·exact T.led
   ·exact T.led
  ·show (SetTable.orStandIn _ _).dummies= #[];unfold SetTable.orStandIn;split
   ·show (if SetTable.has t.dummies slot then _ else t.dummies)= #[];rw [T.dum];have:SetTable.has #[] slot=false:=by unfold SetTable.has;simp
    rw [this];rfl
   ·rfl
  ·show (SetTable.orStandIn _ _).plain=true->(SetTable.orStandIn _ _).place.toList.Pairwise (· < ·);unfold SetTable.orStandIn;split
   ·intro z;exact ZJ (T.rise (.inl z)) ne
   ·intro z;cases z
theorem JZ (f:Nat->Option Nat): ∀l:List Nat,((l.filterMap λj=>(f j).map (j,·)).map (·.1)).Sublist l
 | []=> .slnil
 |j::l=>by
  rw [G0B];cases e:(f j).map (j,·) with
  |none=>exact(JZ f l).cons _
  |some q=>
   obtain⟨v,_,rfl⟩:=F9.mp e;exact(JZ f l).cons₂ _
theorem Uc (T:Tab L es.size t)(wanted:Nat):Tab L (relayAll t es wanted).1.size (relayAll t es wanted).2.1:=by
 have fit:=relayAll_fits t es wanted;revert fit;unfold relayAll;cases e:t.relaid (es.map (·.1)) wanted with
 |none=>intro fit;exact .mk' fit T.led rfl λz=>by cases z
 |some q=>
  obtain⟨t',order⟩:=q;dsimp only;split
  ·intro fit;unfold SetTable.relaid SetTable.laid at e;cases ho:SetTable.layClean (SetTable.sizeAbove wanted-1) (es.map (·.1)) with
   |none=>rw [ho] at e;cases e
   |some owner=>
    rw [ho] at e;injection e with e;injection e with e1 e2
    subst e1;refine .mk' fit T.led rfl λ_=> ?_
    show List.Pairwise (· < ·) (List.map _ _).toArray.toList;rw [List.toList_toArray];exact List.pairwise_lt_range.sublist (JZ (λj=>owner.getD j none) _)
  ·intro fit;exact .mk' fit T.led rfl λz=>by cases z
abbrev zC (es:Array (Int×Value))(ep:Nat)(t:SetTable):Obj:= {cls:= .type "set",dict:=none,data:= .set es ep t,slots:= #[]}
def NU (e:Int×Value):Int:=match e.2 with
 | .int n _=>n
 |_=>0
structure SetI (L:Bool)(es:Array (Int×Value))(t:SetTable)(ns:List Int):Prop where
 tab:Tab L es.size t
 nums: ∀e∈es.toList,∃n tk,e=(hashInt n,.int n tk)
 nd:(es.toList.map NU).Nodup
 mem: ∀n,n∈es.toList.map NU↔n∈ns
theorem Za: ∀ {xs ys:List Int},xs.Nodup->(∀x∈xs,x∈ys)->xs.length<=ys.length
 | [],_,_,_=>S9 _
 |x::xs,ys,nd,h=>by
  have hx:=h x (.head _);obtain⟨n1,n2⟩:=L6.mp nd;have:=Za (ys:=ys.erase x) n2 λy hy=>(Q7 (λ(e:y=x)=>n1 (by rw [<-e];exact hy))).mpr (h y (.tail _ hy))
  rw [J0 hx] at this;have:=K5 hx;rw [P6];omega
variable {ns:List Int}
theorem SetI.size (S:SetI L es t ns):es.size<=ns.length:=by
 have h:=Za S.nd λn hn=>(S.mem n).mp hn
 simpa using h
theorem SetI.els (S:SetI L es t ns)(prog:Program)(w:World):ElemsOf (intKind prog w) es.toList:=λe he=>by
 obtain⟨n,tk,rfl⟩:=S.nums e he;exact⟨⟨n,by simp [intKind,Value.isInt],rfl⟩,rfl⟩
theorem SetI.perm {es':Array (Int×Value)}{t':SetTable}(S:SetI L es t ns)(p:es'.toList.Perm es.toList)(T:Tab L es'.size t'):SetI L es' t' ns:=
 ⟨T,λe he=>S.nums e (p.mem_iff.mp he),(p.map NU).nodup_iff.mpr S.nd,λn=>((p.map NU).mem_iff).trans (S.mem n)⟩
theorem SetI.push {es':Array (Int×Value)}{t':SetTable}{n:Int}{tk:Tok}(S:SetI L es t ns)(hn:n ∉ ns)(p:es'.toList.Perm (es.push (hashInt n,.int n tk)).toList)(T:Tab L es'.size t'):SetI L es' t' (n::ns):=by
 have pk:=p.map NU;rw [F7,S4] at pk;refine⟨T,λe he=> ?_,pk.nodup_iff.mpr ?_,λm=>(pk.mem_iff).trans ?_⟩
 ·have:=p.mem_iff.mp he;rw [F7] at this;rcases D1.mp this with z|z
  ·exact S.nums e z
  ·exact⟨n,tk,G7.mp z⟩
 ·rw [G0g];refine⟨S.nd,by simp,λx hx y hy e=> ?_⟩;have:y=n:=by simpa [NU] using hy
  subst this;subst e;exact hn ((S.mem _).mp hx)
 ·rw [D1,S.mem m];simp [NU,or_comm]
section
variable {prog:Program}{w:World}{A:Around}{E:Value->Shared->Prop}{s:Shared}{a:Addr}{L:Bool}{es:Array (Int×Value)}{ep:Nat}{t:SetTable}{ns:List Int}{n:Int}{tk:Tok}
theorem Rs {Q:Bool->Shared->Prop}(S:SetI L es t ns)(ho:s.heap.get? a=some (zC es ep t))(few:ns.length<1000)
 (k: ∀b es' ep' t' h',SetI L es' t' (n::ns)->h'.get? a=some (zC es' ep' t')->Heap.SameBut a s.heap h'->Q b {s with heap:=h',toks:=s.toks+1}):wpAny (model prog w) A (setAdd a (.int n tk)) Q E s:=by
 have sz:=S.size;have is:(intKind prog w).is n (.int n tk)=true:=by simp [intKind,Value.isInt]
 have scan:byScan (.int n tk) es=true:=byScan_of (knd:=intKind prog w) rfl (A3 sz (Y1 few (by decide))) (S.els prog w);refine N4 (wpAny_bind (wpAny_pyHash_int (N4 ?_)));show wpAny _ _ (setAddHashedIn a (.int n tk) (hashInt n) (99999+1)) _ _ _;unfold setAddHashedIn;refine wpAny_bind (N9 (s:= {s with toks:=s.toks+1}) ho rfl S.tab.fits ?_);dsimp only;rw [if_pos scan];refine wpAny_bind ?_;unfold setAddByScan;refine wpAny_bind (G0y (wpAny_bind (wpAny_setScan_of (s:= {s with toks:=s.toks+1}) (knd:=intKind prog w) is ho rfl S.tab.fits (S.els prog w) ?_)));have none_iff:es.toList.findIdx? (λe=>(intKind prog w).is n e.2)=none↔n ∉ ns:=by
  rw [List.findIdx?_eq_none_iff,<-S.mem n];constructor
  ·intro z hn;obtain⟨e,he,ek⟩:=R7.mp hn;obtain⟨m,tk',rfl⟩:=S.nums e he;have:m=n:=ek;subst this;have:=z _ he;simp [intKind,Value.isInt] at this
  ·intro z e he;obtain⟨m,tk',rfl⟩:=S.nums e he;have:m≠n:=λq=>z (R7.mpr ⟨_,he,q⟩)
   simp [intKind,Value.isInt,this]
 cases hf:es.toList.findIdx? (λe=>(intKind prog w).is n e.2) with
 |some j=>
  have hin:n∈ns:=Q3 λz=>by rw [none_iff.mpr z] at hf;cases hf
  refine G3 (G3 (k false es ep t s.heap ⟨S.tab,S.nums,S.nd,λm=>(S.mem m).trans ?_⟩ ho (U5 _ _)));constructor
  ·exact λz=> .tail _ z
  ·intro z;rcases P3.mp z with e|e
   ·rw [e];exact hin
   ·exact e
 |none=>
  have hn:=none_iff.mp hf;have p1:=layNew_perm t es (hashInt n) (.int n tk);have T1:=GT S.tab (hashInt n) (.int n tk);cases hl:layNew t es (hashInt n) (.int n tk) with
  |mk es1 r1=>
   obtain⟨t1,wd,gave⟩:=r1;rw [hl] at p1 T1;have S1:=S.push hn p1 T1;have z1:es1.size<=sizeLine:=P7 S1.size (P7 (show (n::ns).length<=1000 by simp;omega) (by decide));have hb:hashByValue 8 (.int n tk)=pure true:=rfl;have put:=λ{P:Unit->Shared->Prop} {E':Value->Shared->Prop} (k': ∀h',h'.get? a=some (zC es1 (ep+1) t1)->Heap.SameBut a s.heap h'->P () {s with heap:=h',toks:=s.toks+1})=>
    G03 (prog:=prog) (w:=w) (A:=A) (E:=E') (s:= {s with toks:=s.toks+1}) (es':=es1) (t':=t1) ho rfl (k' _ (T6 _ ho rfl) (M5 ..)) z1
   have p2:=relayAll_perm t1 es1 (SetTable.grown es1.size);have T2:=Uc (es:=es1) S1.tab (SetTable.grown es1.size);cases hr:relayAll t1 es1 (SetTable.grown es1.size) with
   |mk es2 r2=>
    obtain⟨t2,gave2⟩:=r2;rw [hr] at p2 T2;have S2:=S1.perm p2 T2;have z2:es2.size<=sizeLine:=P7 S2.size (P7 (show (n::ns).length<=1000 by simp;omega) (by decide));have e1:(s.heap.update a (Obj.putSet es1 t1)).get? a=some (zC es1 (ep+1) t1):=T6 _ ho rfl;have same1:Heap.SameBut a s.heap (s.heap.update a (Obj.putSet es1 t1)):=M5 ..;have ho':({s with toks:=s.toks+1}:Shared).heap.get? a=some (zC es ep t):=ho;have big:(es1.size>sizeLine)=False:=eq_false (K7.mpr z1);have big2:(es2.size>sizeLine)=False:=eq_false (K7.mpr z2);cases gave<;>cases hp:t1.plain<;>wp_walk
    all_goals
     simp only [↓reduceIte,hr];cases hc:(!wd&&t1.tooFull) with
     |false=>exact G3 (G3 (k true es1 (ep+1) t1 _ S1 e1 same1))
     |true=>
      have e2:((s.heap.update a (Obj.putSet es1 t1)).update a (Obj.putSet es2 t2)).get? a=some (zC es2 (ep+1+1) t2):=T6 _ e1 rfl;have same2:Heap.SameBut a s.heap ((s.heap.update a (Obj.putSet es1 t1)).update a (Obj.putSet es2 t2)):=same1.trans (M5 ..);have fin:=k true es2 (ep+1+1) t2 _ S2 e2 same2;simp only [↓reduceIte];cases gave2<;>wp_walk
      all_goals exact fin
end
theorem wH:plainId "set.update.loop" =true:=by decide +kernel
theorem vK:entryFor table "set.update.loop" =some Builtin.«set.update.loop» :=entryFor_of_fast (by kernel_rfl)
section
variable {prog:Program}{w:World}{A:Around}{E:Value->Shared->Prop}{a I:Addr}{L:Bool}{fp wr:List Addr}{n:Nat}{P:Nat->Value->Prop}{St:Nat->Heap->Prop}{f:Nat->Int}
theorem Jj {R:Result->Shared->Prop}(W:Walks prog w A.in1 I fp wr n P St)(num: ∀i v,P i v-> ∃tk,v= .int (f i) tk)(na:a ∉ fp)(few:n<1000):
 ∀ (k i:Nat) (s:Shared) (es:Array (Int×Value)) (ep:Nat) (t:SetTable),i+k=n->St i s.heap->s.heap.get? a=some (zC es ep t)->SetI L es t ((List.range i).map f).reverse->
  (∀h' tk es' ep' t',h'.get? a=some (zC es' ep' t')->SetI L es' t' ((List.range n).map f).reverse->(∀b o,b≠a->b ∉ wr->s.heap.get? b=some o->h'.get? b=some o)->R (.ok (.ret .none)) {s with heap:=h',toks:=tk})->
  codeAny (model prog w) A (.builtin "set.update.loop" ⟨[.ref a,.ref I],[]⟩) R s
 |0,i,s,es,ep,t,hk,st,ha,S,q=>by
  have e:i=n:=by omega
  subst e;refine K2 vK ?_;rw [Q8 wH];refine wpAny_bind (W.done s _ _ st λh' tk kept=>G3 ?_);exact q h' tk es ep t (kept _ _ (λz=>na (W.sub _ z)) ha) S λb o _ nb e=>kept b o nb e
 |k+1,i,s,es,ep,t,hk,st,ha,S,q=>by
  refine K2 vK ?_;rw [Q8 wH];refine wpAny_bind (W.item i s _ _ (by omega) st λv h1 tk1 pv st1 kept1=> ?_);obtain⟨tk,rfl⟩:=num i v pv;have ha1:=kept1 _ _ (λz=>na (W.sub _ z)) ha;refine wpAny_bind (N4 (Rs (s:= {s with heap:=h1,toks:=tk1}) S ha1 (by simp;omega) λb es2 ep2 t2 h2 S2 ha2 same2=>G3 ⟨G1a wH _,?_⟩));have S3:SetI L es2 t2 ((List.range (i+1)).map f).reverse:=by
   rw [C9,S4,G1E];exact S2
  refine Jj W num na few k (i+1) {s with heap:=h2,toks:=tk1+1} es2 ep2 t2 (by omega) (W.frame _ _ _ st1 λb hb o e=>same2.extBut _ _ (λz=>na (z ▸ hb)) e) ha2 S3 λh' tk' es' ep' t' ha' S' kept'=> ?_
  exact q h' tk' es' ep' t' ha' S' λb o ba bw e=>kept' b o ba bw (same2.extBut _ _ ba (kept1 b o bw e))
end
theorem yT:entryFor table "set.__init__" =some Builtin.«set.__init__» :=entryFor_of_fast (by kernel_rfl)
abbrev zc (w:World):Bool:= !(w.params.followText "set-order")
theorem Zb (L:Bool):SetI L #[] (.fresh 0 0 L) []:=⟨⟨rfl,rfl,rfl,λ_=> .nil⟩,λe he=>by simp at he,by simp,λn=>by simp⟩
theorem vc:isSubtype (.type "set") (.type "set")=pure true:=by rw [V6];kernel_rfl
theorem Jw:isSubtype (.type "list") (.type "set")=pure false:=by rw [V6];kernel_rfl
theorem Jx:isSubtype (.type "list") (.type "frozenset")=pure false:=by rw [V6];kernel_rfl
theorem ZL:isSubtype (.type "tuple") (.type "set")=pure false:=by rw [V6];kernel_rfl
theorem ZM:isSubtype (.type "tuple") (.type "frozenset")=pure false:=by rw [V6];kernel_rfl
section
variable {prog:Program}{w:World}{A:Around}{E:Value->Shared->Prop}{s:Shared}
theorem QF {x:Value}{P:PySem.Fin->Shared->Prop}(h:P (.done (.ret (.ref s.heap.objs.size))) {s with heap:=s.heap.push (zC #[] 0 (.fresh 0 0 (zc w)))}):
 wpAny (model prog w) A (Builtin.«set.__new__» ⟨[.type "set",x],[]⟩) P E s:=by
 have fine:=vc;obtain⟨hp,g,d,tk,os⟩:=s;have told: ∀ {Q:Setting->Shared->Prop} {E':Value->Shared->Prop} {A':Around} {s':Shared},Q ⟨prog,w.params⟩ s'->wpAny (model prog w) A' ask Q E' s':=λq=>V3 q
 wp_walk using told
 exact h
theorem vL {M:Model}{o x:Value}{Q:Unit->Shared->Prop}(ty:s.TypeIs o "set")(q:Q () s):wpAny M A (checkBuiltinCall "set.__init__" ⟨[o,x],[]⟩) Q E s:=by
 have fine:=vc;unfold checkBuiltinCall;rw [kind_set_init,split_set_init,sig_set_init]
 wp_walk using PyProof.Rows.printed_name (n:= "set") (by decide),PyProof.Rows.printed_star (self:=o) rfl ty
 exact q
theorem Rt {l a:Addr}{vs:List Value}{ns:List Int}{T:String}{ep:Nat}{Q:Option Value->Shared->Prop}(calm:A.handled=none)(hT:T= "list" \/T= "tuple")
 (hl: ∃o,s.heap.get? l=some o/\o.cls= .type T/\ ∃c,o.data= .seq vs.toArray c)(hI:IntsAre vs ns)(few:ns.length<1000)(ha:s.heap.get? a=some (zC #[] ep (.fresh 0 0 (zc w))))(la:l≠a)
 (k: ∀h' tk es' ep' t',h'.get? a=some (zC es' ep' t')->SetI (zc w) es' t' ns.reverse->(∀b o,b≠a->s.heap.get? b=some o->h'.get? b=some o)->Q (some .none) {s with heap:=h',toks:=tk}):
 wpAny (model prog w) A (callSpecial? (.ref a) "__init__" [.ref l]) Q E s:=by
 have ty:s.TypeIs (.ref a) "set" :=⟨_,ha,rfl⟩;refine O3 ty F.called_set.init (V4 (J7 F.called_set.init.plain yT (vL ty ?_)));have f1:=Jw;have f2:=Jx;have f3:=ZL;have f4:=ZM;obtain⟨⟨oc,od,odt,osl⟩,hol,hc,c,hd⟩:=hl;simp only at hc hd;subst hc hd;have state:=λ{P:Array (Int×Value)×Nat×SetTable->Shared->Prop} {E':Value->Shared->Prop} {A':Around}=>N9 (prog:=prog) (w:=w) (A:=A') (E:=E') (Q:=P) (s:=s) ha rfl (Zb (zc w)).tab.fits
 have pick: ∀ (i:Nat) (v:Value),vs.toArray[i]? =some v-> ∃tk,v=Value.int (ns.getD i 0) tk:=λi v hv=>(L2.yo hI (by simpa using hv)).imp λ_ z=>z.1
 have len:vs.toArray.size=ns.length:=by rw [D3,hI.length]
 have rng:(List.range ns.length).map (λi=>ns.getD i 0)=ns:=by
  refine U9 λi=> ?_
  rw [P4]
  by_cases hi:i<ns.length
  ·rw [O9 hi,G2 hi];simp [hi]
  ·rw [N6 (by simpa using hi),N6 (by simpa using hi)];rfl
 have far:a≠s.heap.objs.size:=λz=>S7 _ (z ▸ P1 ha)
 have lfar:l≠s.heap.objs.size:=λz=>S7 _ (z ▸ P1 hol)
 have na:a ∉ [s.heap.objs.size,l]:=by simp [far,la.symm]
 have fin: ∀ {o:Obj} h' tk es' ep' t',h'.get? a=some (zC es' ep' t')->SetI (zc w) es' t' ((List.range vs.toArray.size).map λi=>ns.getD i 0).reverse->(∀b ob,b≠a->b ∉ [s.heap.objs.size]->(s.heap.push o).get? b=some ob->h'.get? b=some ob)->Q (some .none) {s with heap:=h',toks:=tk}:=λh' tk es' ep' t' e S kept=>by
  rw [len,rng] at S;exact k h' tk es' ep' t' e S λb ob nb q=>kept b ob nb (λz=>S7 _ (G7.mp z ▸ P1 q)) (G1 _ q)
 rcases hT with rfl|rfl
 ·have tl:s.TypeIs (.ref l) "list" :=⟨_,hol,rfl⟩;have isl:s.heap.IsList l vs.toArray:=⟨_,hol,rfl,c,rfl⟩
  wp_walk using state,U2 isl
  have W:=G1S (prog:=prog) (w:=w) (A:=A.in1.in1) calm s.heap.objs.size l lfar vs.toArray;refine Jj W pick na (by rw [len];exact few) vs.toArray.size 0 _ #[] ep _ (E9 _) ⟨⟨_,D0 _ rfl,rfl,rfl⟩,⟨_,G1 _ hol,rfl,c,rfl⟩⟩ (G1 _ ha) (Zb _) λh' tk es' ep' t' e S kept=> ?_
  exact G3 (G3 (fin h' tk es' ep' t' e S kept))
 ·have tl:s.TypeIs (.ref l) "tuple" :=⟨_,hol,rfl⟩;have isl:s.heap.IsTuple l vs.toArray:=⟨_,hol,rfl,c,rfl⟩
  wp_walk using state,Q1 isl
  have W:=Walks.tuple (prog:=prog) (w:=w) (A:=A.in1.in1) calm s.heap.objs.size l lfar vs.toArray;refine Jj W pick na (by rw [len];exact few) vs.toArray.size 0 _ #[] ep _ (E9 _) ⟨⟨_,D0 _ rfl,rfl,rfl⟩,⟨_,G1 _ hol,rfl,c,rfl⟩⟩ (G1 _ ha) (Zb _) λh' tk es' ep' t' e S kept=> ?_
  exact G3 (G3 (fin h' tk es' ep' t' e S kept))
theorem QH {l:Addr}{vs:List Value}{ns:List Int}{T:String}{Q:Value->Shared->Prop}(calm:A.handled=none)(hT:T= "list" \/T= "tuple")
 (hl: ∃o,s.heap.get? l=some o/\o.cls= .type T/\ ∃c,o.data= .seq vs.toArray c)(hI:IntsAre vs ns)(few:ns.length<1000)
 (k: ∀h' tk es' ep' t',h'.get? s.heap.objs.size=some (zC es' ep' t')->SetI (zc w) es' t' ns.reverse->(∀b o,s.heap.get? b=some o->h'.get? b=some o)->Q (.ref s.heap.objs.size) {s with heap:=h',toks:=tk}):
 wpAny (model prog w) A (call (.type "set") [.ref l]) Q E s:=by
 have fits:checkTypeCall "set" ⟨[.ref l],[]⟩=pure ():=by kernel_rfl
 have newFits:checkBuiltinCall "set.__new__" ⟨[.type "set",.ref l],[]⟩=pure ():=by kernel_rfl
 obtain⟨o,hol,r⟩:=hl;refine L2.ZF (Made:=λv s₁=>v= .ref s.heap.objs.size/\s₁= {s with heap:=s.heap.push (zC #[] 0 (.fresh 0 0 (zc w)))}) F.called_set fits
  (V4 (J7 F.called_set.plain F.entry_set_new (wpAny_of_eq newFits (QF ⟨rfl,rfl⟩)))) λv s₁ ⟨ev,es⟩=> ?_
 subst ev es;have at_:(s.heap.push (zC #[] 0 (.fresh 0 0 (zc w)))).get? s.heap.objs.size=some (zC #[] 0 (.fresh 0 0 (zc w))):=D0 _ rfl;refine⟨⟨_,at_,rfl⟩,Rt (s:= {s with heap:=s.heap.push (zC #[] 0 (.fresh 0 0 (zc w)))}) calm hT ⟨o,G1 _ hol,r⟩ hI few at_ (λz=>S7 _ (z ▸ P1 hol)) λh' tk es' ep' t' e S kept=>⟨rfl,k h' tk es' ep' t' e S λb ob q=>kept b ob (λz=>S7 _ (z ▸ P1 q)) (G1 _ q)⟩⟩
end
theorem slot_si_next:Slot "set_iterator" "__next__" "set_iterator.__next__" :=
 .of (owner:= "set_iterator") (n:= "__next__") (by rw [typeLookup_type,builtinLookup_eq_fast];kernel_rfl) (by decide +kernel) (by decide +kernel) (by decide +kernel) (.inl (by kernel_rfl)) (by rw [V6];kernel_rfl)
theorem YK:entryFor table "set_iterator.__next__" =some Builtin.«set_iterator.__next__» :=entryFor_of_tree (by kernel_rfl)
theorem Ud (a:Value):argsOk "set_iterator.__next__" ⟨[a],[]⟩:=by unfold argsOk;kernel_rfl
theorem Wy:entryFor table "set.__iter__" =some Builtin.«frozenset.__iter__» :=entryFor_alias (id':= "frozenset.__iter__") (by kernel_rfl) rfl (by decide +kernel) (by kernel_rfl)
abbrev itO (first:Value)(i:Nat)(a:Addr)(n ep:Nat):Obj:= {cls:= .type "set_iterator",data:= .fields #[first,rawInt i,.ref a,rawInt n,rawInt ep]}
inductive Mode (w:World)(a:Addr)(es:Array (Int×Value))(ep:Nat)(t:SetTable):List Value->(Value->Nat->Heap->Prop)->Addr->Prop
 |text (b:w.params.followText "set-order" =true):Mode w a es ep t ((pickOrder (w.params.setOrder a ep) es).toList.map (·.2)) (λf _ _=>f=rawInt 0) a
 |drawn (b:w.params.followText "set-order" =false) (d:t.plain=false) (two:1<es.size) (ord:List Nat) (p:ord.Perm (List.range es.size)) (tp:Addr):
  Mode w a es ep t (ord.map λj=>(es.getD j (0,.none)).2) (λf _ h=>f= .ref tp/\h.IsTuple tp (ord.map λj=>rawInt (j:Nat)).toArray) tp
 |table (b:w.params.followText "set-order" =false) (d:t.plain=true\/es.size<=1):Mode w a es ep t (es.toList.map (·.2)) (λf i _=> ∃slot:Nat,f=rawInt slot/\SetTable.below t.place slot=i) a
section
variable {prog:Program}{w:World}{A:Around}{E:Value->Shared->Prop}{s:Shared}{a I tp:Addr}{es:Array (Int×Value)}{ep n i:Nat}{t:SetTable}{ns:List Int}{first:Value}
theorem Ru {Q:Value->Shared->Prop}(S:Tab (zc w) es.size t)(b:w.params.followText "set-order" =true)(ha:s.heap.get? a=some (zC es ep t))(hI:s.heap.get? I=some (itO (rawInt 0) i a es.size ep))(aI:a≠I)
 {x:Value}(hx:((pickOrder (w.params.setOrder a ep) es).toList.map (·.2))[i]? =some x)(q: ∀h',h'.get? I=some (itO (rawInt 0) (i+1) a es.size ep)->Heap.SameBut I s.heap h'->Q x {s with heap:=h'}):
 wpAny (model prog w) A (Builtin.«set_iterator.__next__» ⟨[.ref I],[]⟩) (λfin s'=> ∃v,fin= .done (.ret v)/\Q v s') E s:=by
 have told: ∀ {Q:Setting->Shared->Prop} {E':Value->Shared->Prop} {A':Around} {s':Shared},Q ⟨prog,w.params⟩ s'->wpAny (model prog w) A' ask Q E' s':=λq=>V3 q
 have state:=λ{P:Array (Int×Value)×Nat×SetTable->Shared->Prop} {E':Value->Shared->Prop} {A':Around}=>N9 (prog:=prog) (w:=w) (A:=A') (E:=E') (Q:=P) (s:=s) ha rfl S.fits
 obtain⟨hp,g,d,tk,os⟩:=s;rw [P4] at hx;obtain⟨⟨k,x'⟩,hx1,rfl⟩:=F9.mp hx;have hx':(pickOrder (w.params.setOrder a ep) es)[((i:Nat):Int).toNat]? =some (k,x'):=by rw [E4,<-R4];exact hx1
 have z1:=T6 (Obj.mapFields λv=>v.setIfInBounds 0 (rawInt ((Int.toNat 0:Nat):Int))) hI rfl;have z2:=T6 (Obj.mapFields λv=>v.setIfInBounds 1 (rawInt ((i:Int)+1))) z1 rfl;have fin:=q _ z2 ((M5 ..).trans (M5 ..))
 wp_walk using state,told
 rw [hx']
 wp_walk
 exact⟨_,rfl,fin⟩
theorem GV {Q:Value->Shared->Prop}{ord:List Nat}(S:Tab (zc w) es.size t)(ha:s.heap.get? a=some (zC es ep t))(hI:s.heap.get? I=some (itO (.ref tp) i a es.size ep))(aI:a≠I)(ht:s.heap.IsTuple tp (ord.map λj=>rawInt (j:Nat)).toArray)(p:ord.Perm (List.range es.size))
 {x:Value}(hx:(ord.map λj=>(es.getD j (0,.none)).2)[i]? =some x)(q: ∀h',h'.get? I=some (itO (.ref tp) (i+1) a es.size ep)->Heap.SameBut I s.heap h'->Q x {s with heap:=h'}):
 wpAny (model prog w) A (Builtin.«set_iterator.__next__» ⟨[.ref I],[]⟩) (λfin s'=> ∃v,fin= .done (.ret v)/\Q v s') E s:=by
 have state:=λ{P:Array (Int×Value)×Nat×SetTable->Shared->Prop} {E':Value->Shared->Prop} {A':Around}=>N9 (prog:=prog) (w:=w) (A:=A') (E:=E') (Q:=P) (s:=s) ha rfl S.fits
 obtain⟨⟨oc,od,odt,osl⟩,hol,hc,c,hd⟩:=ht;simp only at hc hd;subst hc hd;obtain⟨hp,g,d,tk,os⟩:=s;rw [P4] at hx;obtain⟨j,hj,rfl⟩:=F9.mp hx;have jlt:j<es.size:=D6.mp (p.mem_iff.mp (G9 hj));have hj':((ord.map λj=>rawInt (j:Nat)).toArray)[((i:Nat):Int).toNat]? =some (rawInt (j:Nat)):=by simp [hj]
 have ej:es[((j:Nat):Int).toNat]? =some (es.getD j (0,.none)):=by simp [jlt,Array.getD]
 have z1:=T6 (Obj.mapFields λv=>v.setIfInBounds 1 (rawInt ((i:Int)+1))) hI rfl;have fin:=q _ z1 (M5 ..)
 wp_walk using state
 rw [hj'];show wpAny _ _ (setNextDrawn a ((j:Nat):Int).toNat ((ep:Nat):Int).toNat >>= _) _ _ _
 wp_walk using state
 rw [ej]
 wp_walk
 exact⟨_,rfl,fin⟩
theorem GW {Q:Value->Shared->Prop}{slot:Nat}(S:Tab (zc w) es.size t)(b:w.params.followText "set-order" =false)(pl:t.plain=true\/es.size<=1)(ha:s.heap.get? a=some (zC es ep t))(hI:s.heap.get? I=some (itO (rawInt slot) i a es.size ep))(aI:a≠I)(hs:SetTable.below t.place slot=i)
 {x:Value}(hx:(es.toList.map (·.2))[i]? =some x)(q: ∀h' (slot':Nat),SetTable.below t.place slot'=i+1->h'.get? I=some (itO (rawInt slot') (i+1) a es.size ep)->Heap.SameBut I s.heap h'->Q x {s with heap:=h'}):
 wpAny (model prog w) A (Builtin.«set_iterator.__next__» ⟨[.ref I],[]⟩) (λfin s'=> ∃v,fin= .done (.ret v)/\Q v s') E s:=by
 have told: ∀ {Q:Setting->Shared->Prop} {E':Value->Shared->Prop} {A':Around} {s':Shared},Q ⟨prog,w.params⟩ s'->wpAny (model prog w) A' ask Q E' s':=λq=>V3 q
 have state:=λ{P:Array (Int×Value)×Nat×SetTable->Shared->Prop} {E':Value->Shared->Prop} {A':Around}=>N9 (prog:=prog) (w:=w) (A:=A') (E:=E') (Q:=P) (s:=s) ha rfl S.fits
 have led:t.led=true:=by rw [S.led];show (!(w.params.followText "set-order"))=true;rw [b];rfl
 have nd:(!t.plain&&decide (es.size>1))=false:=by
  rcases pl with z|z
  ·rw [z];rfl
  ·rw [R9 (by omega),G0k]
 obtain⟨hp,g,d,tk,os⟩:=s;rw [P4] at hx;obtain⟨⟨k,x'⟩,hx1,rfl⟩:=F9.mp hx;have lt:i<es.size:=by have:=(P0.mp hx1).1;simpa using this
 have ps:=Yc S.fits;have ltp:i<t.place.size:=by omega
 have ex:es[i]? =some (k,x'):=by rw [<-R4];exact hx1
 have ep':t.place[i]? =some t.place[i]:=by simp [ltp]
 have rise:=S.rise pl;have next:SetTable.below t.place (t.place[i]+1)=i+1:=by
  obtain⟨b1,b2,b3⟩:=vJ rise (t.place[i]+1);have mono:=λ(u v:Nat) (hu:u<t.place.size) (hv:v<t.place.size) (uv:u<v)=>N7.mp rise u v (by simpa using hu) (by simpa using hv) uv
  simp only [X4] at mono;rcases G04 (SetTable.below t.place (t.place[i]+1)) (i+1) with z|z|z
  ·have:=b2 i (by omega) _ ep';omega
  ·exact z
  ·have h1:i+1<t.place.size:=by omega
   have:=b1 (i+1) z _ (by simp [h1]:t.place[i+1]? =some t.place[i+1]);have:=mono i (i+1) ltp h1 (by omega);omega
 have z1:=T6 (Obj.mapFields λv=>v.setIfInBounds 0 (rawInt ((t.place[i]+1:Nat):Int))) hI rfl;have z2:=T6 (Obj.mapFields λv=>v.setIfInBounds 1 (rawInt ((i:Int)+1))) z1 rfl;have fin:=q _ _ next z2 ((M5 ..).trans (M5 ..))
 wp_walk using state,told
 split
 ·rename_i z;have z':(!t.plain&&decide (es.size>1))=true:=z;rw [nd] at z';cases z'
 wp_walk
 rw [show ((slot:Nat):Int).toNat=slot from E4 _,hs,ex,ep']
 wp_walk
 exact⟨_,rfl,fin⟩
theorem GX {vals:List Value}{md:Value->Nat->Heap->Prop}{Q:PySem.Fin->Shared->Prop}(calm:A.handled=none)(S:Tab (zc w) es.size t)(M:Mode w a es ep t vals md tp)(ha:s.heap.get? a=some (zC es ep t))(hI:s.heap.get? I=some (itO first i a es.size ep))(aI:a≠I)(hm:md first i s.heap)(hx:vals[i]? =none)
 (q: ∀h' e,(∀b o,b≠I->s.heap.get? b=some o->h'.get? b=some o)->(∃o,h'.get? e=some o/\o.cls= .type "StopIteration")->E (.ref e) {s with heap:=h'}):
 wpAny (model prog w) A (Builtin.«set_iterator.__next__» ⟨[.ref I],[]⟩) Q E s:=by
 have told: ∀ {Q:Setting->Shared->Prop} {E':Value->Shared->Prop} {A':Around} {s':Shared},Q ⟨prog,w.params⟩ s'->wpAny (model prog w) A' ask Q E' s':=λq=>V3 q
 have state:=λ{P:Array (Int×Value)×Nat×SetTable->Shared->Prop} {E':Value->Shared->Prop} {A':Around}=>N9 (prog:=prog) (w:=w) (A:=A') (E:=E') (Q:=P) (s:=s) ha rfl S.fits
 have stop:=λ{h1:Heap} {Q':PySem.Fin->Shared->Prop} (same:Heap.SameBut I s.heap h1)=>L2.ZE (prog:=prog) (w:=w) (A:=A) (E:=E) (s:= {s with heap:=h1}) (Q:=Q') calm λh' e grown st=>q h' e (λb o nb x=>grown b o (same.extBut b o nb x)) st
 obtain⟨hp,g,d,tk,os⟩:=s;have put: ∀ {P:Unit->Shared->Prop} {E':Value->Shared->Prop} {k:Nat} {v:Value} {h1:Heap},k<5->Heap.SameBut I hp h1->(∃fs:Array Value,fs.size=5/\h1.get? I=some {cls:= .type "set_iterator",data:= .fields fs})->(∀h',Heap.SameBut I hp h'->(∃fs:Array Value,fs.size=5/\h'.get? I=some {cls:= .type "set_iterator",data:= .fields fs})->P () ⟨h',g,d,tk,os⟩)->wpAny (model prog w) A (setField (.ref I) k v) P E' ⟨h1,g,d,tk,os⟩:=λhk same ⟨fs,hfs,e⟩ q'=>wpAny_setField_rec (s:=⟨_,g,d,tk,os⟩) e (by omega) λh' z' same'=>q' h' (same.trans same') ⟨_,by simpa using hfs,z'⟩
 cases M with
 |text b=>
  subst hm;have e:(pickOrder (w.params.setOrder a ep) es)[((i:Nat):Int).toNat]? =none:=by
   rw [P4] at hx;rw [E4,<-R4];exact G0a.mp hx
  wp_walk using state,told
  rw [e];show wpAny _ _ (setField (.ref I) 2 .none >>= _) _ _ _;exact wpAny_bind (put (by decide) (U5 _ _) ⟨_,rfl,hI⟩ λh' same _=>stop same)
 |drawn b dp two ord p tp=>
  obtain⟨rfl,⟨oc,od,odt,osl⟩,hol,hc,c,hd⟩:=hm;simp only at hc hd;subst hc hd;have e:((ord.map λj=>rawInt (j:Nat)).toArray)[((i:Nat):Int).toNat]? =none:=by
   rw [P4] at hx;simp [G0a.mp hx]
  wp_walk using state
  rw [e];show wpAny _ _ (setField (.ref I) 0 (rawInt 0) >>= λ_=>setField (.ref I) 2 .none >>= _) _ _ _;exact wpAny_bind (put (by decide) (U5 _ _) ⟨_,rfl,hI⟩ λh1 same1 there1=>wpAny_bind (put (by decide) same1 there1 λh' same _=>stop same))
 |table b pl=>
  obtain⟨slot,rfl,hs⟩:=hm;have led:t.led=true:=by rw [S.led];show (!(w.params.followText "set-order"))=true;rw [b];rfl
  have nd:(!t.plain&&decide (es.size>1))=false:=by
   rcases pl with z|z
   ·rw [z];rfl
   ·rw [R9 (by omega),G0k]
  have e:es[i]? =none:=by
   rw [P4] at hx;rw [<-R4];exact G0a.mp hx
  wp_walk using state,told
  split
  ·rename_i z;have z':(!t.plain&&decide (es.size>1))=true:=z;rw [nd] at z';cases z'
  wp_walk
  rw [show ((slot:Nat):Int).toNat=slot from E4 _,hs,e];show wpAny _ _ (setField (.ref I) 2 .none >>= _) _ _ _;exact wpAny_bind (put (by decide) (U5 _ _) ⟨_,rfl,hI⟩ λh' same _=>stop same)
end
theorem YL:entryFor table "set_iterator.__iter__" =some Builtin.«dict_keyiterator.__iter__» :=entryFor_alias (id':= "dict_keyiterator.__iter__") (by kernel_rfl) (by first|rfl|decide +kernel|(unfold String.splitOn;simp +decide [String.splitOnAux])) (by decide +kernel) (by kernel_rfl)
theorem vM:Slot "set_iterator" "__iter__" "set_iterator.__iter__" := .of (owner:= "set_iterator") (n:= "__iter__") (by rw [typeLookup_type,builtinLookup_eq_fast];kernel_rfl) (by decide +kernel) (by decide +kernel) (by decide +kernel) (.inl (by kernel_rfl)) (by rw [V6];kernel_rfl)
theorem Ue (a:Value):argsOk "set_iterator.__iter__" ⟨[a],[]⟩:=by unfold argsOk;kernel_rfl
section
variable {prog:Program}{w:World}{A:Around}{E:Value->Shared->Prop}{s:Shared}{a I tp:Addr}{es:Array (Int×Value)}{ep n i:Nat}{t:SetTable}{ns:List Int}{first:Value}{vals:List Value}{md:Value->Nat->Heap->Prop}
theorem Mode.keep {f:Value}{h h':Heap}(M:Mode w a es ep t vals md tp)(m:md f i h)(k: ∀o,h.get? tp=some o->h'.get? tp=some o):md f i h':=by
 cases M with
 |text b=>exact m
 |drawn b dp two ord p tp=>exact⟨m.1,m.2.at λo e=>k o e⟩
 |table b pl=>exact m
theorem Rv {Q:Option Value->Shared->Prop}(ty:s.TypeIs (.ref I) "set_iterator")
 (h:wpAny (model prog w) A.in1 (Builtin.«set_iterator.__next__» ⟨[.ref I],[]⟩) (λfin s'=> ∃v,fin= .done (.ret v)/\Q (some v) s') (λe s'=>s'.TypeIs e "StopIteration" /\Q none s') s):wpAny (model prog w) A (pyNext (.ref I)) Q E s:=
 wpAny_bind (G08 (O3 (name:= "__next__") ty slot_si_next (R0 (C8 slot_si_next ty YK h (Ud _)) (λ_ _ q=>G3 q) λe s' q=>wpAny_bind (wpAny_isInstance (b:=true) q.1 isSubtype_stop (G3 q.2)))))
theorem Rw (calm:A.handled=none)(S:Tab (zc w) es.size t)(M:Mode w a es ep t vals md tp)(aI:a≠I)(tI:tp≠I):
 Walks prog w A I [I,a,tp] [I] vals.length (λi v=>vals[i]? =some v) (λi h=>h.get? a=some (zC es ep t)/\ ∃first,h.get? I=some (itO first i a es.size ep)/\md first i h) where
 sub:=λb hb=>by simp only [G7] at hb;simp [hb]
 frame:=λi h h' ⟨ha,f,hI,m⟩ k=>⟨k a (by simp) _ ha,f,k I (by simp) _ hI,M.keep m λo e=>k tp (by simp) o e⟩
 item:=λi s Q E hi ⟨ha,f,hI,m⟩ q=>by
  have hx:vals[i]? =some vals[i]:=by simp [hi]
  refine Rv ⟨_,hI,rfl⟩ ?_;have fin: ∀ {f':Value} h',md f' (i+1) s.heap->h'.get? I=some (itO f' (i+1) a es.size ep)->Heap.SameBut I s.heap h'->Q (some vals[i]) {s with heap:=h'}:=λh' m' e same=>
   q vals[i] h' s.toks hx ⟨same.extBut _ _ aI ha,_,e,M.keep m' λo x=>same.extBut _ _ tI x⟩ λb o nb x=>same.extBut _ _ (by simpa using nb) x
  cases M with
  |text b=>
   subst m;exact Ru S b ha hI aI hx λh' e same=>fin h' rfl e same
  |drawn b dp two ord p tp=>
   obtain⟨rfl,ht⟩:=m;exact GV S ha hI aI ht p hx λh' e same=>fin h' ⟨rfl,ht⟩ e same
  |table b pl=>
   obtain⟨slot,rfl,hs⟩:=m;exact GW S b pl ha hI aI hs hx λh' slot' hs' e same=>fin h' ⟨slot',rfl,hs'⟩ e same
 done:=λs Q E ⟨ha,f,hI,m⟩ q=>by
  refine Rv ⟨_,hI,rfl⟩ (GX calm S M ha hI aI m (by simp) λh' e kept ⟨o,ho,hc⟩=>⟨⟨o,ho,hc⟩,q h' s.toks λb ob nb x=>kept b ob (by simpa using nb) x⟩)
 self:=λi s Q E ⟨ha,f,hI,m⟩ q=>wpAny_pyIter_slot ⟨_,hI,rfl⟩ vM (C8 vM ⟨_,hI,rfl⟩ YL (G3 ⟨_,rfl,_,_,⟨_,hI,rfl⟩,slot_si_next.lookup,q⟩) (Ue _))
end
theorem Jk {α:Type}: ∀ (l:List α) (i:Nat) {x:α},l[i]? =some x->(x::l.eraseIdx i).Perm l
 | [],i,x,h=>by cases h
 |y::l,0,x,h=>by cases h;exact .refl _
 |y::l,i+1,x,h=>(List.Perm.swap y x _).trans ((Jk l i h).cons y)
theorem Rx {α:Type}(next:Nat->Nat): ∀ (fuel k:Nat) (left:List α) (out:Array α),left.length=fuel->(pickOrder.go next fuel k left out).toList.Perm (out.toList++left)
 |0,k,left,out,h=>by
  rw [O8 h,B7];exact .refl _
 |fuel+1,k,left,out,h=>by
  unfold pickOrder.go;have lt:next k%left.length<left.length:=Y4 _ (by omega);have hx:left[next k%left.length]? =some left[next k%left.length]:=by simp [lt]
  rw [hx];refine(Rx next fuel (k+1) _ _ (by rw [G0L lt];omega)).trans ?_;rw [F7,G8];exact(Jk left _ hx).append_left _
theorem Ry {α:Type}(next:Nat->Nat)(xs:Array α):(pickOrder next xs).toList.Perm xs.toList:=by
 have:=Rx next xs.size 0 xs.toList #[] (by simp);rw [Array.toList_empty,B2] at this;exact this
section
variable {prog:Program}{w:World}{A:Around}{E:Value->Shared->Prop}{s:Shared}{a I tp:Addr}{es:Array (Int×Value)}{ep n i:Nat}{t:SetTable}{ns:List Int}{first:Value}{vals:List Value}{md:Value->Nat->Heap->Prop}
theorem Mode.perm (M:Mode w a es ep t vals md tp):vals.Perm (es.toList.map (·.2)):=by
 cases M with
 |text b=>exact(Ry _ es).map _
 |drawn b dp two ord p tp=>
  refine(p.map _).trans ?_;have:(List.range es.size).map (λj=>(es.getD j (0,.none)).2)=es.toList.map (·.2):=by
   refine U9 λj=> ?_
   rw [P4,P4]
   by_cases hj:j<es.size
   ·rw [O9 hj];simp [hj,Array.getD]
   ·rw [N6 (by simpa using hj),N6 (by simpa using hj)];rfl
  rw [this]
 |table b pl=>exact .refl _
theorem QJ {α:Type}{Q:List α->Shared->Prop}: ∀ (n:Nat) (xs:List α) (s:Shared),xs.length=n->(∀ys d,ys.Perm xs->Q ys {s with drawn:=d})->wpAny (model prog w) A (drawOrder n xs) Q E s
 |0,xs,s,h,q=>by
  rw [O8 h] at q;exact G3 (q [] s.drawn (.refl _))
 |n+1,[],s,h,q=>by cases h
 |n+1,x::r,s,h,q=>by
  have pickd: ∀ {P:Nat->Shared->Prop} {E':Value->Shared->Prop},(∀i d,i<(x::r).length->P i {s with drawn:=d})->wpAny (model prog w) A (choose .order (x::r).length) P E' s:=λp _ _ _=>⟨by simp,p _ _ (Y4 _ (by simp))⟩
  refine wpAny_bind (pickd λi d hi=> ?_);have hx:(x::r)[i]? =some (x::r)[i]:=by rw [G2 hi]
  rw [hx];refine wpAny_bind (QJ n _ {s with drawn:=d} (by rw [G0L hi];simp at h ⊢;omega) λys d' p=>G3 (q _ d' ?_));exact(p.cons _).trans (Jk _ _ hx)
theorem NV {Q:Value->Shared->Prop}(S:Tab (zc w) es.size t)(ha:s.heap.get? a=some (zC es ep t))(few:es.size<1000)
 (k: ∀h' d I tp vals md first,Mode w a es ep t vals md tp->(∀b o,s.heap.get? b=some o->h'.get? b=some o)->s.heap.objs.size<=I->tp≠I->(tp=a\/s.heap.objs.size<=tp)->tp<h'.objs.size->h'.get? I=some (itO first 0 a es.size ep)->md first 0 h'->Q (.ref I) {s with heap:=h',drawn:=d}):
 wpAny (model prog w) A (pyIter (.ref a)) Q E s:=by
 have ty:s.TypeIs (.ref a) "set" :=⟨_,ha,rfl⟩;have told: ∀ {Q:Setting->Shared->Prop} {E':Value->Shared->Prop} {A':Around} {s':Shared},Q ⟨prog,w.params⟩ s'->wpAny (model prog w) A' ask Q E' s':=λq=>V3 q
 have state:=λ{P:Array (Int×Value)×Nat×SetTable->Shared->Prop} {E':Value->Shared->Prop} {A':Around} {s':Shared} (e:s'.heap.get? a=some (zC es ep t))=>N9 (prog:=prog) (w:=w) (A:=A') (E:=E') (Q:=P) (s:=s') e rfl S.fits
 refine wpAny_pyIter_slot ty F.slot_set_iter (C8 F.slot_set_iter ty Wy ?_ (F.args_set_iter_1 _));have state0:=λ{P:Array (Int×Value)×Nat×SetTable->Shared->Prop} {E':Value->Shared->Prop} {A':Around}=>state (P:=P) (E':=E') (A':=A') (s':=s) ha
 cases b:w.params.followText "set-order" with
 |true=>
  wp_walk using state0,told
  have at_:(s.heap.push (itO (rawInt 0) 0 a es.size ep)).get? s.heap.objs.size=some (itO (rawInt 0) 0 a es.size ep):=D0 _ rfl;have nI:a≠s.heap.objs.size:=λz=>S7 _ (z ▸ P1 ha)
  refine⟨_,rfl,"set_iterator",_,⟨_,at_,rfl⟩,slot_si_next.lookup,?_⟩;exact k _ s.drawn s.heap.objs.size a _ _ (rawInt 0) (.text b) (λb o e=>G1 _ e) (G5 _) nI (.inl rfl) (P1 (G1 _ ha)) at_ rfl
 |false=>
  cases dd:(!t.plain&&decide (es.size>1)) with
  |false=>
   have pl:t.plain=true\/es.size<=1:=by
    cases hp:t.plain with
    |true=>exact .inl rfl
    |false=>rw [hp] at dd;have:=G0R (show decide (es.size>1)=false from dd);exact .inr (by omega)
   have at_:(s.heap.push (itO (rawInt 0) 0 a es.size ep)).get? s.heap.objs.size=some (itO (rawInt 0) 0 a es.size ep):=D0 _ rfl;have nI:a≠s.heap.objs.size:=λz=>S7 _ (z ▸ P1 ha)
   have zero:SetTable.below t.place 0=0:=by
    obtain⟨b1,_,b3⟩:=vJ (S.rise pl) 0;rcases Nat.eq_zero_or_pos (SetTable.below t.place 0) with z|z
    ·exact z
    ·have h0:0<t.place.size:=by omega
     exact absurd (b1 0 z _ (by simp [h0]:t.place[0]? =some t.place[0])) (U8 _)
   have fin:=k _ s.drawn s.heap.objs.size a _ _ (rawInt 0) (.table b pl) (λb o e=>G1 _ e) (G5 _) nI (.inl rfl) (P1 (G1 _ ha)) at_ ⟨0,rfl,zero⟩
   wp_walk using state0,told
   split
   ·rename_i z;have z':(!w.params.followText "set-order" &&(!t.plain&&decide (es.size>1)))=true:=z;rw [b,dd] at z';cases z'
   wp_walk using state0
   exact⟨_,rfl,"set_iterator",_,⟨_,at_,rfl⟩,slot_si_next.lookup,fin⟩
  |true=>
   have pf:t.plain=false/\1<es.size:=by
    rw [T5] at dd;exact⟨by simpa using dd.1,N8 dd.2⟩
   wp_walk using state0,told
   split
   rotate_left
   ·rename_i z;exact(z (show (!w.params.followText "set-order" &&(!t.plain&&decide (es.size>1)))=true by rw [b,dd];rfl)).elim
   refine wpAny_bind (QJ es.size (List.range es.size) s (by simp) λord d p=> ?_);have len:ord.length=es.size:=by rw [p.length_eq];simp
   have t0:(s.heap.push {cls:= .type "tuple",data:= .seq (ord.map λ(i:Nat)=>rawInt i).toArray}).get? s.heap.objs.size=some {cls:= .type "tuple",data:= .seq (ord.map λ(i:Nat)=>rawInt i).toArray}:=D0 _ rfl;refine wpAny_bind (wpAny_newTuple ?_ (by rw [G0,len];exact P7 (D4 few) (by decide)));have ha1:(s.heap.push {cls:= .type "tuple",data:= .seq (ord.map λ(i:Nat)=>rawInt i).toArray}).get? a=some (zC es ep t):=G1 _ ha;have state1:=λ{P:Array (Int×Value)×Nat×SetTable->Shared->Prop} {E':Value->Shared->Prop} {A':Around}=>state (P:=P) (E':=E') (A':=A') (s':= {s with heap:=s.heap.push {cls:= .type "tuple",data:= .seq (ord.map λ(i:Nat)=>rawInt i).toArray},drawn:=d}) ha1
   wp_walk using state1
   have at_:=D0 (s.heap.push {cls:= .type "tuple",data:= .seq (ord.map λ(i:Nat)=>rawInt i).toArray}) (o:=itO (.ref s.heap.objs.size) 0 a es.size ep) rfl;have lt1:s.heap.objs.size<(s.heap.push {cls:= .type "tuple",data:= .seq (ord.map λ(i:Nat)=>rawInt i).toArray}).objs.size:=P1 t0;refine⟨_,rfl,"set_iterator",_,⟨_,at_,rfl⟩,slot_si_next.lookup,?_⟩;exact k _ d _ s.heap.objs.size _ _ (.ref s.heap.objs.size) (.drawn b pf.1 pf.2 ord p s.heap.objs.size) (λb o e=>G1 _ (G1 _ e)) (D4 lt1) (R3 lt1) (.inr (G5 _)) (P1 (G1 _ t0)) at_ ⟨rfl,⟨_,G1 _ t0,rfl,0,rfl⟩⟩
end
section
variable {prog:Program}{w:World}{A:Around}{E:Value->Shared->Prop}{s:Shared}{a:Addr}{es:Array (Int×Value)}{ep:Nat}{t:SetTable}{ns:List Int}
theorem NW {Q:Bool->Shared->Prop}(ty:s.TypeIs (.ref a) "set")(q:Q false s):wpAny (model prog w) A (Builtin.List.listLengthHint (.ref a)) Q E s:=by
 have parts:splitId "set.__len__" =some ("set","__len__"):=by decide +kernel
 have f2:=vc;unfold Builtin.List.listLengthHint;refine wpAny_bind (wpAny_specialOf ty F.slot_set_len.lookup ?_);dsimp only;rw [parts];dsimp only
 wp_walk
 exact q
def Sc (s:Shared)(es:Array (Int×Value))(r:Result)(s':Shared):Prop:=
 ∃h' d tk acc c,r= .ok (.ret (.ref s.heap.objs.size))/\s'= {s with heap:=h',drawn:=d,toks:=tk}/\h'.get? s.heap.objs.size=some {cls:= .type "list",dict:=none,data:= .seq acc c,slots:= #[]}/\(∀b o,s.heap.get? b=some o->h'.get? b=some o)/\acc.toList.Perm (es.toList.map (·.2))
theorem Ye (calm:A.handled=none)(S:Tab (zc w) es.size t)(ha:s.heap.get? a=some (zC es ep t))(few:es.size<1000):
 codeAny (model prog w) A (.builtin "proto.collect" ⟨[.ref a],[]⟩) (Sc s es) s:=by
 have nS:s.heap.objs.size≠a:=λz=>S7 _ (z ▸ P1 ha)
 have old: ∀ {b o o'},s.heap.get? b=some o->(s.heap.push o').get? b=some o:=λe=>G1 _ e
 refine K2 F.entry_proto_collect ?_
 wp_walk
 refine⟨G1a F.plain_list_iadd _,K2 F.entry_list_iadd ?_⟩;rw [Q8 F.plain_list_iadd];have ha1:(s.heap.push {cls:= .type "list",data:= .seq #[]}).get? a=some (zC es ep t):=old ha;have hS:(s.heap.push {cls:= .type "list",data:= .seq #[]}).get? s.heap.objs.size=some {cls:= .type "list",data:= .seq #[]}:=D0 _ rfl;have ty:Shared.TypeIs {s with heap:=s.heap.push {cls:= .type "list",data:= .seq #[]}} (.ref a) "set" :=⟨_,ha1,rfl⟩;have other:Builtin.List.listSameRef (.ref s.heap.objs.size) (.ref a)=false:=by simp [Builtin.List.listSameRef,nS]
 have iter:=λ{P:Value->Shared->Prop} {E':Value->Shared->Prop} {A':Around}=>NV (prog:=prog) (w:=w) (A:=A') (E:=E') (Q:=P) (s:= {s with heap:=s.heap.push {cls:= .type "list",data:= .seq #[]}}) S ha1 (by omega)
 show wpAny _ A.in1 (Builtin.List.listExtendWith (.ref s.heap.objs.size) (.ref a) (.ref s.heap.objs.size)) _ _ _
 wp_walk using iter
 intro h1 d I tp vals md first M kept lo tI tpo tpl hI hm
 have ha2:h1.get? a=some (zC es ep t):=kept _ _ ha1;have hS2:h1.get? s.heap.objs.size=some {cls:= .type "list",data:= .seq #[]}:=kept _ _ hS;have ty2:Shared.TypeIs {s with heap:=h1,drawn:=d} (.ref a) "set" :=⟨_,ha2,rfl⟩;refine wpAny_bind (N4 (NW ty2 ?_))
 wp_walk
 have lt:a<s.heap.objs.size:=P1 ha;have e1:(s.heap.push {cls:= .type "list",data:= .seq #[]}).objs.size=s.heap.objs.size+1:=G0j ..;have lo':s.heap.objs.size+1<=I:=by rw [<-e1];exact lo
 have aI:a≠I:=λz=>by subst z;exact absurd lt (K7.mpr (Nat.le_of_succ_le lo'))
 have SI:s.heap.objs.size≠I:=R3 lo';have Stp:s.heap.objs.size≠tp:=by
  rcases tpo with z|z
  ·rw [z];exact nS
  ·exact R3 (D7 (by rw [e1];exact A7 _) z)
 have hS3:=T6 (Obj.mapSeq λx=>x.push Value.none) hS2 rfl;have hS4:=T6 (Obj.mapSeq λx=>x.pop) hS3 rfl;have same:Heap.SameBut s.heap.objs.size h1 ((h1.update s.heap.objs.size (Obj.mapSeq λx=>x.push Value.none)).update s.heap.objs.size (Obj.mapSeq λx=>x.pop)):=(M5 ..).trans (M5 ..);have W:=Rw (prog:=prog) (A:=A.in1) calm S M aI tI;refine⟨G1a F.plain_extend_loop _,codeAny_extend_loopS W.toS ?_ s.heap.objs.size (by simp [SI,nS,Stp]) _ vals.length 0 _ #[] _ rfl (S9 _) ⟨same.extBut _ _ nS.symm ha2,first,same.extBut _ _ SI.symm hI,M.keep hm λo e=>same.extBut _ _ Stp.symm e⟩ hS4 (ItemsOf.nil _) λs' acc c' moved hS' items=> ?_⟩
 ·rw [M.perm.length_eq,G0,P2];exact P7 (D4 few) (by decide)
 have same_vals:acc.toList=vals:=by
  refine U9 λi=> ?_
  rw [R4];cases e:acc[i]? with
  |some v=>exact(items.2 i v e).symm
  |none=>
   have:vals.length<=i:=by rw [<-items.1];exact X3.mp e
   exact(N6 this).symm
 obtain⟨h',g',d',tk',os'⟩:=s';have mg:g'=s.gens:=moved.gens;have md':d'=d:=moved.drawn;have mo:os'=s.os:=moved.os;subst mg md' mo;refine⟨h',d',tk',acc,c',rfl,rfl,hS',λb o e=> ?_,by rw [same_vals];exact M.perm⟩;have lb:=P1 e;have nb:b≠s.heap.objs.size:=R3 lb;have nbI:b≠I:=λz=>by subst z;exact absurd lb (K7.mpr (Nat.le_of_succ_le lo'))
 exact moved.heap b o (by simp [nb,nbI]) (same.extBut _ _ nb (kept _ _ (old e)))
theorem Xv (S:SetI (zc w) es t ns){vs:List Value}(p:vs.Perm (es.toList.map (·.2))): ∃ks,IntsAre vs ks/\ks.Nodup/\ ∀n,n∈ks↔n∈ns:=by
 have isint: ∀v∈vs,∃n t,v=Value.int n t:=λv hv=>by
  obtain⟨e,he,rfl⟩:=R7.mp (p.mem_iff.mp hv);obtain⟨n,tk,rfl⟩:=S.nums e he;exact⟨n,tk,rfl⟩
 have hI:=intsAre_map vs isint;have pk:(vs.map numOf).Perm (es.toList.map NU):=by
  refine(p.map numOf).trans ?_;rw [M9];have:es.toList.map (numOf∘λx=>x.2)=es.toList.map NU:=B8 λe he=>by
   obtain⟨n,tk,rfl⟩:=S.nums e he;rfl
  rw [this]
 exact⟨_,hI,pk.nodup_iff.mpr S.nd,λn=>pk.mem_iff.trans (S.mem n)⟩
theorem GY {Q:Value->Shared->Prop}(calm:A.handled=none)(S:SetI (zc w) es t ns)(ha:s.heap.get? a=some (zC es ep t))(few:ns.length<64)
 (k: ∀ (h1 h':Heap) d tk (out:Array Value) (ks:List Int) (c:Nat),(∀b o,s.heap.get? b=some o->h1.get? b=some o)->(∀b o,h1.get? b=some o->h'.get? b=some o)->h'.get? h1.objs.size=some (seqObj "list" out c)->IntsAre out.toList ks->ks.Pairwise (· < ·)->(∀n,n∈ks↔n∈ns)->
  Q (.ref h1.objs.size) {s with heap:=h',drawn:=d,toks:=tk}):wpAny (model prog w) A (call (.builtin "sorted") [.ref a]) Q E s:=by
 refine X5 kind_sorted plain_sorted entry_sorted (args_sorted1 _) (wpAny_bind (G3 (wpAny_bind (wpAny_bind (wpAny_runValue (W3 (Ye calm S.tab ha (A3 S.size (by omega))) λres s' listed=> ?_))))));obtain⟨h1,d,tk,acc,c0,rfl,rfl,made,kept,p⟩:=listed;refine wpAny_bind (G1R made (G3 ?_));obtain⟨ks,hI,nd,mem⟩:=Xv S p;have lk:ks.length<=ns.length:=Za nd λn hn=>(mem n).mp hn
 have len:acc.toList.length=ks.length:=hI.length;have few':acc.toList.length<64:=by omega
 have fresh:(h1.push (seqObj "list" acc.toList.toArray 0)).get? h1.objs.size=some (seqObj "list" acc.toList.toArray 0):=D0 _ rfl;refine wpAny_bind (G1b (wpAny_bind (N4 (C8 slot_list_sort ⟨_,fresh,rfl⟩ entry_list_sort (list_sort_tree fresh hI few' λout ns' i1 i2 i3=>⟨_,rfl,?_⟩) (args_list_sort _)))) (P7 (D4 few') (by decide)));obtain⟨c,lies⟩:=sortedHeap_at (vs:=acc.toList) (out:=out) fresh;refine G3 ⟨_,rfl,k h1 _ d tk out ns' c kept (λb ob e=> ?_) lies i1 ?_ λn=>(i2.mem_iff).trans (mem n)⟩
 ·have lt:=P1 e;rw [sortedHeap_old (R3 lt) (by rw [size_push'];exact G0f lt)];exact G1 _ e
 ·have nd':ns'.Nodup:=i2.nodup_iff.mpr nd;unfold List.Nodup at nd';exact(i3.and nd').imp λ⟨x,y⟩=>by omega
end
end HT
namespace L2
open PySem PySem.Spec PyProof.Rows PySem.SeqAt
variable {X:Cx}
theorem Inv.drew {pins:List (Addr×Obj)}{σ:St}{H:Hp}{s:Shared}(I:Inv X pins σ H s)(d:Drawn):Inv X pins σ H {s with drawn:=d}:=⟨I.ok,I.os,I.bare,I.base,I.loc,I.cell,I.free,I.freeC,I.pin,I.hok,I.len⟩
def QK (w:World)(o:Obj)(ns:List Int):Prop:= ∃es ep t,o=HT.zC es ep t/\HT.SetI (HT.zc w) es t ns
theorem RA (hc:X.calm=true):CallR X (.type "set") (λxs H Q=> ∃ (a:Addr) (ns:List Int),xs= [.ref a]/\(SqL X.K H a (ns.map V.int)\/SqT X.K H a (ns.map V.int))/\ns.length<64/\ ∀ (p:Addr) (o:Obj),H p=none->QK X.w o ns.reverse->Q (.ref p) (upd H p (.frz o (.own 0)))):=by
 intro pins s σ H xs us Q I r h;obtain⟨a,ns,rfl,hS,few,q⟩:=h;obtain⟨u,rfl,ru⟩:=vz r;cases ru;have fin: ∀h' tk es ep t,h'.get? s.heap.objs.size=some (HT.zC es ep t)->HT.SetI (HT.zc X.w) es t ns.reverse->(∀b o,s.heap.get? b=some o->h'.get? b=some o)->EP X pins σ Q (.ref s.heap.objs.size) {s with heap:=h',toks:=tk}:=λh' tk es ep t e S kept=>
  ⟨.ref _,_,I.laid (t':=tk) (o:= .frz (HT.zC es ep t) (.own 0)) kept (G5 _) ⟨e,⟨_,e⟩⟩,rfl,q _ _ (I.hok.fresh (G5 _)) ⟨es,ep,t,rfl,S⟩⟩
 rcases hS with hS|hS
 ·obtain⟨its,rv,pl,hz⟩:=I.list hS;have hi:=Jv rv;obtain⟨o,e1,e2,c,e3⟩:=pl.isList;exact HT.QH (I.ok.hd hc) (.inl rfl) ⟨o,e1,e2,c,e3⟩ hi (by omega) fin
 ·obtain⟨its,rv,pl,hz⟩:=I.tuple hS;have hi:=Jv rv;obtain⟨o,e1,e2,c,e3⟩:=pl;exact HT.QH (I.ok.hd hc) (.inr rfl) ⟨o,e1,e2,c,e3⟩ hi (by omega) fin
theorem Uf (hc:X.calm=true):CallR X (.builtin "sorted") (λxs H Q=> ∃ (p:Addr) (o:Obj) (ns:List Int),xs= [.ref p]/\H p=some (.frz o (.own 0))/\QK X.w o ns/\ns.length<64/\ ∀ (q:Addr) (ks:List Int),H q=none->ks.Pairwise (· < ·)->(∀n,n∈ks↔n∈ns)->Q (.ref q) (upd H q (.lst (ks.map V.int)))):=by
 intro pins s σ H xs us Q I r h;obtain⟨p,o,ns,rfl,hp,⟨es,ep,t,rfl,S⟩,few,q⟩:=h;obtain⟨u,rfl,ru⟩:=vz r;cases ru;refine HT.GY (I.ok.hd hc) S (I.hok p _ hp).1 few λh1 h' d tk out ks c k1 k2 lies a1 a2 a3=> ?_
 have I1:=(I.kept (t':=s.toks) k1).drew d;have lk:ks.length<=ns.length:=HT.Za (a2.imp λz=>by omega) λn hn=>(a3 n).mp hn
 refine⟨.ref _,_,I1.laid (t':=tk) (o:= .lst (ks.map V.int)) k2 (G5 _) ⟨?_,out.toList,c,VQ a1,lies⟩,rfl,q _ ks (I1.hok.fresh (G5 _)) a2 a3⟩;rw [G0];exact P7 lk (P7 (D4 few) (by decide))
def dSS (ta:TAD):TED:=λσ h Q=>ta σ h λds h1=> ∃ns:List Int,(ds= [.tup (ns.map D.int)]\/ ∃a,ds= [.lst a]/\h1 a=some (ns.map D.int))/\ns.length<64/\ ∀ (p:Addr) (ks:List Int),h1 p=none->ks.Pairwise (· < ·)->(∀n,n∈ks↔n∈ns)->Q (.lst p) (zB h1 p (ks.map D.int))
theorem jss {a : Expr} {ta : TAD} {p p2 pos pos2 : Pos} (hc : X.calm = true) (hg : Gl X "sorted") (hm : X.mg "sorted" = none) (hg2 : Gl X "set") (hm2 : X.mg "set" = none) (ha : JA X [a] ta) (hs : starEach [a] X.env = [(false, eval a X.env)] := by rfl)
    (h1 : starEach [.Call (.Name "set" p2) [a] [] pos2] X.env = (false, eval (.Call (.Name "set" p2) [a] [] pos2) X.env) :: starEach [] X.env := by rfl) (h2 : (backTo pos (starEach [] X.env)).any (·.1) = false := by rfl) (h3 : (backTo pos2 (starEach [] X.env)).any (·.1) = false := by rfl) :
    JE X (.Call (.Name "sorted" p) [.Call (.Name "set" p2) [a] [] pos2] [] pos) (dSS ta) :=
  ⟨(yF (Uf hc) hg hm (by decide +kernel) (zr (Zn (RA hc) hg2 hm2 (by decide +kernel) ha.to (by decide) (by decide) hs h3) pa_nil h1) (by decide) (by decide) h1 h2).imp
    fun σ H Q ⟨σd, h, Qd, rs, rh, t, post⟩ => LA.bind rs rh t fun ds vs h1 H1 k1 rs1 rh1 r1 ⟨ns, hd, few, q⟩ => by
      have fin : ∀ c o, H1 c = none → QK X.w o ns.reverse → ∃ (p : Addr) (o' : Obj) (ms : List Int), [V.ref c] = [.ref p] ∧ upd H1 c (.frz o (.own 0)) p = some (.frz o' (.own 0)) ∧ QK X.w o' ms ∧ ms.length < 64 ∧ ∀ (l : Addr) (ks : List Int), upd H1 c (.frz o (.own 0)) l = none → ks.Pairwise (· < ·) → (∀ n, n ∈ ks ↔ n ∈ ms) → Q (.ref l) (upd (upd H1 c (.frz o (.own 0))) l (.lst (ks.map V.int))) := fun c o hcn S =>
        ⟨c, o, ns.reverse, rfl, jp, S, by simpa using few, fun l ks hl a b => by
          have rh2 := rh1.new (o := .frz o (.own 0)) hcn
          exact post (.lst l) (.ref l) _ _ (k1.trans ((Kept.new hcn).trans (.new hl))) (rh2.newL hl (wF ks)) ⟨rfl, _, jp⟩ (q l ks (rh2.free hl) a fun n => by rw [b n, L9])⟩
      rcases hd with e | ⟨a, e, ha⟩
      · subst e
        obtain ⟨v, e, r2⟩ := jH r1
        obtain ⟨a, ws, e1, hH, r3⟩ := (show ∃ a vs, v = .ref a ∧ H1 a = some (.tup vs) ∧ RelDs X.K H1 (ns.map D.int) vs from r2)
        rw [jY r3] at hH
        subst e e1
        exact ⟨a, ns, rfl, .inr (SqT.of hH), few, fin⟩
      · subst e
        obtain ⟨v, e, r2⟩ := jH r1
        obtain ⟨ws, hH, r3⟩ := rh1 a _ ha
        have e1 : v = .ref a := r2.1
        rw [jY r3] at hH
        subst e e1
        exact ⟨a, ns, rfl, .inl (SqL.of hH), few, fin⟩⟩
end L2
namespace L2
theorem IsS.ext {n:Nat}{S S':List Nat}(h:IsS n S)(h':IsS n S')(m: ∀j,j∈S↔j∈S'):S=S':=by
 obtain⟨p,rfl⟩:=h;obtain⟨q,rfl⟩:=h';refine List.filter_congr λj hj=> ?_
 have:=m j;rw [N0,N0] at this;have e:p j=true↔q j=true:=⟨λz=>(this.mp ⟨hj,z⟩).2,λz=>(this.mpr ⟨hj,z⟩).2⟩;cases hp:p j<;>cases hq:q j<;>simp_all
def unS (n:Nat)(A B:List Nat):List Nat:=(List.range n).filter λj=>decide (j∈A)||decide (j∈B)
theorem Cq (n:Nat)(A B:List Nat):IsS n (unS n A B):=⟨_,rfl⟩
theorem Xw {n:Nat}{A B:List Nat}(hA:IsS n A)(hB:IsS n B)(j:Nat):j∈unS n A B↔j∈A\/j∈B:=by
 unfold unS;rw [N0,D6];simp only [U6,E3];exact⟨λz=>z.2,λz=>⟨z.elim hA.lt hB.lt,z⟩⟩
theorem QL: ∀ {xs ys:List Int},xs.Pairwise (· < ·)->ys.Pairwise (· < ·)->(∀n,n∈xs↔n∈ys)->xs=ys
 | [],[],_,_,_=>rfl
 | [],y::ys,_,_,m=>by have:=(m y).mpr (.head _);cases this
 |x::xs,[],_,_,m=>by have:=(m x).mp (.head _);cases this
 |x::xs,y::ys,hx,hy,m=>by
  obtain⟨hx1,hx2⟩:=O6.mp hx;obtain⟨hy1,hy2⟩:=O6.mp hy;have a:x=y:=by
   rcases P3.mp ((m x).mp (.head _)) with z|z
   ·exact z
   ·rcases P3.mp ((m y).mpr (.head _)) with w|w
    ·exact w.symm
    ·have:=hy1 x z;have:=hx1 y w;omega
  subst a;refine congrArg _ (QL hx2 hy2 λn=> ?_);constructor
  ·intro z;rcases P3.mp ((m n).mp (.tail _ z)) with w|w
   ·have:=hx1 n z;omega
   ·exact w
  ·intro z;rcases P3.mp ((m n).mpr (.tail _ z)) with w|w
   ·have:=hy1 n z;omega
   ·exact w
theorem Lt {n:Nat}{A B:List Nat}(hA:IsS n A)(hB:IsS n B){ks:List Int}(r:ks.Pairwise (· < ·))(m: ∀x,x∈ks↔x∈(A++B).map λ(j:Nat)=>(j:Int)):ks=(unS n A B).map λ(j:Nat)=>(j:Int):=by
 refine QL r ?_ λx=> ?_
 ·rw [B0];exact(Cq n A B).rise.imp λz=>by omega
 ·rw [m x,R7,R7];constructor
  ·rintro ⟨j,hj,e⟩;exact⟨j,(Xw hA hB j).mpr (D1.mp hj),e⟩
  ·rintro ⟨j,hj,e⟩;exact⟨j,D1.mpr ((Xw hA hB j).mp hj),e⟩
inductive Made (L:List Nat):Nat->Prop
 |z:Made L 0
 |s {n l:Nat}:Made L n->l∈L->Made L (n+l)
structure Lens (L:List Nat):Prop where
 rise:L.Pairwise (· < ·)
 lo: ∀l∈L,1<=l
 hi: ∀l∈L,l<=12
 some:1<=L.length
 few:L.length<=6
end L2
namespace HT
open PySem PyProof.Rows
section
variable {prog:Program}{w:World}{A:Around}{E:Value->Shared->Prop}{σ α β:Type}{J:Shared->Prop}
def Tm (prog:Program)(w:World)(A:Around)(E:Value->Shared->Prop)(J:Shared->Prop){σ α:Type}(m:StateT σ Sem α)(Q:α->σ->Prop)(st:σ):Prop:=
 ∀s,J s->wpAny (model prog w) A (m.run st) (λr s'=>Q r.1 r.2/\J s') E s
theorem Tm.pure {a:α}{Q:α->σ->Prop}{st:σ}(h:Q a st):Tm prog w A E J (Pure.pure a:StateT σ Sem α) Q st:=λs j=>by
 rw [StateT.run_pure];exact G3 ⟨h,j⟩
theorem Tm.bind {m:StateT σ Sem α}{f:α->StateT σ Sem β}{Q:β->σ->Prop}{st:σ}(h:Tm prog w A E J m (λa st'=>Tm prog w A E J (f a) Q st') st):Tm prog w A E J (m >>= f) Q st:=λs j=>by
 rw [StateT.run_bind];exact wpAny_bind (R0 (h s j) (λr s' x=>x.1 s' x.2) λ_ _ e=>e)
theorem Tm.get {Q:σ->σ->Prop}{st:σ}(h:Q st st):Tm prog w A E J (MonadState.get:StateT σ Sem σ) Q st:=λs j=>by
 show wpAny _ _ ((StateT.get:StateT σ Sem σ).run st) _ _ _;exact G3 ⟨h,j⟩
theorem Tm.mono {m:StateT σ Sem α}{Q Q':α->σ->Prop}{st:σ}(h:Tm prog w A E J m Q st)(q: ∀a st',Q a st'->Q' a st'):Tm prog w A E J m Q' st:=λs j=>
 R0 (h s j) (λr s' x=>⟨q _ _ x.1,x.2⟩) λ_ _ e=>e
theorem Tm.range' {f:Nat->β->StateT σ Sem (ForInStep β)}(I:Nat->β->σ->Prop){Q:β->σ->Prop}{b:Nat}(step: ∀i c st,i<b->I i c st->Tm prog w A E J (f i c) (λr st'=>match r with| .done c'=>Q c' st'| .yield c'=>I (i+1) c' st') st)(fin: ∀c st,I b c st->Q c st):
 ∀ (k i:Nat) (c:β) (st:σ),i+k=b->I i c st->Tm prog w A E J (forIn (List.range' i k) c f) Q st
 |0,i,c,st,e,h=>by
  rw [List.range'_zero,List.forIn_nil];exact .pure (fin c st (by rw [<-e];exact h))
 |k+1,i,c,st,e,h=>by
  rw [List.range'_succ,Z5];refine .bind ((step i c st (by omega) h).mono λr st' x=> ?_);cases r with
  |done c'=>exact .pure x
  |yield c'=>exact Tm.range' I step fin k (i+1) c' st' (by omega) x
theorem Tm.range {f:Nat->β->StateT σ Sem (ForInStep β)}(I:Nat->β->σ->Prop){Q:β->σ->Prop}{a b:Nat}{c:β}{st:σ}(hab:a<=b)(h:I a c st)(step: ∀i c st,i<b->I i c st->Tm prog w A E J (f i c) (λr st'=>match r with| .done c'=>Q c' st'| .yield c'=>I (i+1) c' st') st)(fin: ∀c st,I b c st->Q c st):
 Tm prog w A E J (forIn [a:b] c f) Q st:=λs j=>by
 rw [Std.Legacy.Range.forIn_eq_forIn_range'];have e:([a:b]:Std.Legacy.Range).size=b-a:=by simp [Std.Legacy.Range.size]
 rw [e];exact Tm.range' I step fin (b-a) a c st (by omega) h s j
end
section
variable {prog:Program}{w:World}{A:Around}{E:Value->Shared->Prop}{J:Shared->Prop}{κ:SortKind}{U:Keyed->Prop}{R:Keyed->Keyed->Bool}
def YM (prog:Program)(w:World)(A:Around)(J:Shared->Prop)(κ:SortKind)(U:Keyed->Prop)(R:Keyed->Keyed->Bool):Prop:=
 ∀x y,U x->U y-> ∀s,J s->wpAny (model prog w) A (keyLt' κ x.1 y.1) (λb s'=>b=R x y/\J s') (λ_ _=>False) s
theorem Tm.lt {x y:Keyed}{st:SortSt}{Q:Option Bool->SortSt->Prop}(a:YM prog w A J κ U R)(k:kindOf st=κ)(hx:U x)(hy:U y)(q:Q (some (R x y)) st):Tm prog w A E J (lt' x y) Q st:=by
 rw [lt'_eq];refine .bind (.get ?_);rw [k];intro s j;rw [StateT.run_bind];refine wpAny_bind ?_;show wpAny _ _ ((StateT.lift _:StateT SortSt Sem _).run st) _ _ _;rw [StateT.run_lift];refine wpAny_bind (G08 (R0 (a x y hx hy s j) (λb s' x=> ?_) λ_ _ e=>e.elim));obtain⟨rfl,j'⟩:=x;exact G3 (Tm.pure (prog:=prog) (w:=w) (A:=A) (E:=E) (J:=J) q s' j')
theorem Tm.elem {arr:Array Keyed}{i:Nat}{x:Keyed}{st:SortSt}{Q:Keyed->SortSt->Prop}(e:arr[i]? =some x)(q:Q x st):Tm prog w A E J (elem' arr i) Q st:=by
 rw [elem'_eq,e];exact .pure q
theorem Sd {n lo hi:Nat}{g:Nat->Bool}{st:SortSt}{f:Nat->Option (Option Nat)×Nat×Nat->StateT SortSt Sem (ForInStep (Option (Option Nat)×Nat×Nat))}(anti: ∀i j,i<=j->j<n->g j=true->g i=true)
 (h1:lo<=hi)(h2:hi<=n)(a1: ∀i,i<lo->g i=true)(a2: ∀i,hi<=i->i<n->g i=false)
 (stop: ∀i l,Tm prog w A E J (f i (none,l,l)) (λr st'=>st'=st/\r= .done (none,l,l)) st)
 (step: ∀i l u,l<u->u<=n->Tm prog w A E J (f i (none,l,u)) (λr st'=>st'=st/\r=if g (l+(u-l) / 2)=true then .yield (none,l+(u-l) / 2+1,u) else .yield (none,l,l+(u-l) / 2)) st):
 Tm prog w A E J (forIn [0:n] (none,lo,hi) f) (λc st'=>st'=st/\c.1=none/\c.2.2<=n/\(∀i,i<c.2.2->g i=true)/\ ∀i,c.2.2<=i->i<n->g i=false) st:=by
 have no: ∀i j,i<=j->j<n->g i=false->g j=false:=λi j hij hj z=>by
  cases hb:g j with
  |false=>rfl
  |true=>rw [anti i j hij hj hb] at z;cases z
 refine Tm.range (λi c st'=>st'=st/\c.1=none/\c.2.1<=c.2.2/\c.2.2<=n/\(∀i,i<c.2.1->g i=true)/\(∀i,c.2.2<=i->i<n->g i=false)/\c.2.2-c.2.1+i<=n) (Nat.zero_le _) ⟨rfl,rfl,h1,h2,a1,a2,by dsimp only;omega⟩ ?_ ?_
 ·rintro i ⟨r,l,u⟩ _ hi ⟨rfl,hr,b1,b2,b3,b4,b5⟩;dsimp only at hr b1 b2 b3 b4 b5;subst hr
  by_cases z:l=u
  ·subst z;refine(stop i l).mono ?_;rintro _ _ ⟨rfl,rfl⟩;exact⟨rfl,rfl,b2,b3,b4⟩
  ·refine(step i l u (by omega) b2).mono ?_;rintro _ _ ⟨rfl,rfl⟩;cases hg:g (l+(u-l) / 2) with
   |true=>
    rw [if_pos rfl];exact⟨rfl,rfl,by dsimp only;omega,b2,λj hj=>anti j _ (by dsimp only at hj;omega) (by omega) hg,b4,by dsimp only;omega⟩
   |false=>
    rw [if_neg (by decide)];exact⟨rfl,rfl,by dsimp only;omega,by dsimp only;omega,b3,λj hj hn=>no _ j hj hn hg,by dsimp only;omega⟩
 ·rintro ⟨r,l,u⟩ _ ⟨rfl,hr,b1,b2,b3,b4,b5⟩;dsimp only at hr b1 b2 b3 b4 b5 ⊢;exact⟨rfl,hr,b2,λj hj=>b3 j (by omega),b4⟩
def gal:Bool->Keyed->Array Keyed->Nat->Nat->Nat->StateT SortSt Sem (Option Nat):=sortPriv% PySem.Builtin.gallop
def byd (R:Keyed->Keyed->Bool)(left:Bool)(key:Keyed)(arr:Array Keyed)(base i:Nat):Bool:=
 match arr[base+i]? with
 |some x=>if left=true then R x key else !R key x
 |none=>false
theorem RB {left:Bool}{key:Keyed}{arr:Array Keyed}{base n hint:Nat}{st:SortSt}{Q:Option Nat->SortSt->Prop}(a:YM prog w A J κ U R)(k:kindOf st=κ)(uk:U key)(ua: ∀i,i<n-> ∃x,arr[base+i]? =some x/\U x)
 (anti: ∀i j,i<=j->j<n->byd R left key arr base j=true->byd R left key arr base i=true)(hh:hint<n)
 (q: ∀m,m<=n->(∀i,i<m->byd R left key arr base i=true)->(∀i,m<=i->i<n->byd R left key arr base i=false)->Q (some m) st):Tm prog w A E J (gal left key arr base n hint) Q st:=by
 have ask: ∀i (Q':Option Bool->SortSt->Prop),i<n->Q' (some (byd R left key arr base i)) st->Tm prog w A E J (do let x <-elem' arr (base+i);if left=true then lt' x key else do let b <-lt' key x;Pure.pure (b.map λz=> !z)) Q' st:=λi Q' hi q'=>by
  obtain⟨x,ex,ux⟩:=ua i hi;refine .bind (.elem ex ?_);unfold byd at q';rw [ex] at q';cases left with
  |true=>exact .lt a k ux uk q'
  |false=>exact .bind (.lt a k uk ux (.pure q'))
 have no: ∀i j,i<=j->j<n->byd R left key arr base i=false->byd R left key arr base j=false:=λi j hij hj z=>by
  cases hb:byd R left key arr base j with
  |false=>rfl
  |true=>rw [anti i j hij hj hb] at z;cases z
 unfold gal;refine .bind (ask hint _ hh ?_);dsimp only;cases hb:byd R left key arr base hint with
 |true=>
  rw [if_pos rfl];refine .bind (Tm.mono (Tm.range (λi c st'=>st'=st/\c.1=none/\c.2.1<c.2.2/\hint+c.2.1<n/\byd R left key arr base (hint+c.2.1)=true/\i+1<=c.2.2)
   (Q:=λc st'=>st'=st/\c.1=none/\c.2.1<c.2.2/\hint+c.2.1<n/\byd R left key arr base (hint+c.2.1)=true/\(n-hint<=c.2.2\/byd R left key arr base (hint+c.2.2)=false)) (S9 _) ⟨rfl,rfl,by decide,by omega,by simpa using hb,by decide⟩ ?_ ?_) ?_)
  ·rintro i ⟨r,lo,of⟩ _ hi ⟨rfl,hr,h1,h2,h3,h4⟩;dsimp only at hr h1 h2 h3 h4 ⊢;subst hr
   by_cases z:of>=n-hint
   ·rw [if_pos z];exact .pure ⟨rfl,rfl,h1,h2,h3,.inl z⟩
   ·rw [if_neg z];refine .bind (ask (hint+of) _ (by omega) ?_);dsimp only;cases hc:byd R left key arr base (hint+of) with
    |true=>exact .pure ⟨rfl,rfl,by dsimp only;omega,by dsimp only;omega,hc,by dsimp only;omega⟩
    |false=>exact .pure ⟨rfl,rfl,h1,h2,h3,.inr hc⟩
  ·rintro ⟨r,lo,of⟩ _ ⟨rfl,hr,h1,h2,h3,h4⟩;exact⟨rfl,hr,h1,h2,h3,.inl (by dsimp only at h4 ⊢;omega)⟩
  ·rintro ⟨r,lo,of⟩ _ ⟨rfl,hr,h1,h2,h3,h4⟩;dsimp only at hr h1 h2 h3 h4 ⊢;subst hr;dsimp only;refine .bind (Tm.mono (Sd (g:=byd R left key arr base) anti (by omega) (by omega) (λi hi=>anti i _ (by omega) h2 h3) (λi hi hn=> ?_) (λi l=> ?_) (λi l u hl hu=> ?_)) ?_)
   ·rcases h4 with z|z
    ·omega
    ·exact no (hint+of) i (by omega) hn z
   ·rw [if_pos (G5 l)];exact .pure ⟨rfl,rfl⟩
   ·rw [if_neg (show ¬l>=u by omega)];refine .bind (ask (l+(u-l) / 2) _ (by omega) ?_);dsimp only;cases byd R left key arr base (l+(u-l) / 2)<;>exact .pure ⟨rfl,rfl⟩
   ·rintro ⟨r,l,u⟩ _ ⟨rfl,hr,b2,b3,b4⟩;dsimp only at hr b2 b3 b4 ⊢;subst hr;exact .pure (q u b2 b3 b4)
 |false=>
  rw [if_neg (by decide)];refine .bind (Tm.mono (Tm.range (λi c st'=>st'=st/\c.1=none/\c.2.1<c.2.2/\c.2.1<=hint/\byd R left key arr base (hint-c.2.1)=false/\i+1<=c.2.2)
   (Q:=λc st'=>st'=st/\c.1=none/\c.2.1<c.2.2/\c.2.1<=hint/\byd R left key arr base (hint-c.2.1)=false/\(hint+1<=c.2.2\/byd R left key arr base (hint-c.2.2)=true)) (Nat.zero_le _) ⟨rfl,rfl,by decide,by dsimp only;omega,by simpa using hb,by decide⟩ ?_ ?_) ?_)
  ·rintro i ⟨r,lo,of⟩ _ hi ⟨rfl,hr,h1,h2,h3,h4⟩;dsimp only at hr h1 h2 h3 h4 ⊢;subst hr
   by_cases z:of>=hint+1
   ·rw [if_pos z];exact .pure ⟨rfl,rfl,h1,h2,h3,.inl z⟩
   ·rw [if_neg z];refine .bind (ask (hint-of) _ (by omega) ?_);dsimp only;cases hc:byd R left key arr base (hint-of) with
    |false=>exact .pure ⟨rfl,rfl,by dsimp only;omega,by dsimp only;omega,hc,by dsimp only;omega⟩
    |true=>exact .pure ⟨rfl,rfl,h1,h2,h3,.inr hc⟩
  ·rintro ⟨r,lo,of⟩ _ ⟨rfl,hr,h1,h2,h3,h4⟩;exact⟨rfl,hr,h1,h2,h3,.inl (by dsimp only at h4 ⊢;omega)⟩
  ·rintro ⟨r,lo,of⟩ _ ⟨rfl,hr,h1,h2,h3,h4⟩;dsimp only at hr h1 h2 h3 h4 ⊢;subst hr;dsimp only;refine .bind (Tm.mono (Sd (g:=byd R left key arr base) anti (by omega) (by omega) (λi hi=> ?_) (λi hi hn=>no _ i hi hn h3) (λi l=> ?_) (λi l u hl hu=> ?_)) ?_)
   ·rcases h4 with z|z
    ·omega
    ·exact anti i (hint-of) (by omega) (by omega) z
   ·rw [if_pos (G5 l)];exact .pure ⟨rfl,rfl⟩
   ·rw [if_neg (show ¬l>=u by omega)];refine .bind (ask (l+(u-l) / 2) _ (by omega) ?_);dsimp only;cases byd R left key arr base (l+(u-l) / 2)<;>exact .pure ⟨rfl,rfl⟩
   ·rintro ⟨r,l,u⟩ _ ⟨rfl,hr,b2,b3,b4⟩;dsimp only at hr b2 b3 b4 ⊢;subst hr;exact .pure (q u b2 b3 b4)
end
section
variable {κ:Type}{U:κ->Prop}{R:κ->κ->Bool}{al bl:List κ}
structure Ordd (U:κ->Prop)(R:κ->κ->Bool):Prop where
 asym: ∀x y,U x->U y->R x y=true->R y x=false
 neg: ∀x y z,U x->U y->U z->R x z=true->R x y=true\/R y z=true
theorem Ordd.refl (o:Ordd U R){x:κ}(u:U x):R x x=false:=by
 cases h:R x x with
 |false=>rfl
 |true=>have:=o.asym x x u u h;rw [h] at this;exact this
theorem Ordd.trans (o:Ordd U R){x y z:κ}(ux:U x)(uy:U y)(uz:U z)(a:R y x=false)(b:R z y=false):R z x=false:=by
 cases h:R z x with
 |false=>rfl
 |true=>
  rcases o.neg z y x uz uy ux h with z|z
  ·rw [b] at z;cases z
  ·rw [a] at z;cases z
abbrev Srt (R:κ->κ->Bool)(l:List κ):Prop:=l.Pairwise λx y=>R y x=false
structure MI (R:κ->κ->Bool)(al bl:List κ)(ia ib:Nat)(out:List κ):Prop where
 perm:out.Perm (al.take ia++bl.take ib)
 srt:Srt R out
 ra: ∀x∈out,∀y∈al.drop ia,R y x=false
 rb: ∀x∈out,∀y∈bl.drop ib,R y x=false
theorem zd {l:List κ}{i:Nat}{y:κ}(h:l[i]? =some y):l.drop i=y::l.drop (i+1):=by
 obtain⟨hi,e⟩:=P0.mp h;rw [List.drop_eq_getElem_cons hi,e]
theorem ZN {l:List κ}{i:Nat}{y:κ}(h:l[i]? =some y):l.take (i+1)=l.take i++ [y]:=by
 rw [F4,h];rfl
theorem MI.start (al bl:List κ):MI R al bl 0 0 []:=⟨.refl _,.nil,λx hx=>(T7 hx).elim,λx hx=>(T7 hx).elim⟩
variable {ia ib:Nat}
theorem MI.pushB {out:List κ}{y:κ}(m:MI R al bl ia ib out)(o:Ordd U R)(ua: ∀x∈al,U x)(ub: ∀x∈bl,U x)(sa:Srt R al)(sb:Srt R bl)(hy:bl[ib]? =some y)(lt: ∀z,al[ia]? =some z->R y z=true):MI R al bl ia (ib+1) (out++ [y]):=by
 have dy:=zd hy;have uy:=ub y (G9 hy);have sdb:Srt R (bl.drop ib):=sb.sublist (A1 _ _);rw [dy] at sdb;refine⟨?_,?_,λx hx z hz=> ?_,λx hx z hz=> ?_⟩
 ·rw [ZN hy,<-G8];exact m.perm.append_right _
 ·refine S6.mpr ⟨m.srt,N5 _ _,λx hx z hz=> ?_⟩;rw [G7.mp hz];exact m.rb x hx y (by rw [dy];exact P9 ..)
 ·rcases D1.mp hx with w|w
  ·exact m.ra x w z hz
  ·rw [G7.mp w];cases e:al[ia]? with
   |none=>rw [H0 (G0U.mp e)] at hz;cases hz
   |some a0=>
    have da:=zd e;have ua0:=ua a0 (G9 e);have sda:Srt R (al.drop ia):=sa.sublist (A1 _ _);rw [da] at sda hz;have l0:=o.asym y a0 uy ua0 (lt a0 e);rcases P3.mp hz with v|v
    ·rw [v];exact l0
    ·exact o.trans uy ua0 (ua z (B3 v)) l0 ((O6.mp sda).1 z v)
 ·rcases D1.mp hx with w|w
  ·exact m.rb x w z (by rw [dy];exact D5 _ hz)
  ·rw [G7.mp w];exact(O6.mp sdb).1 z hz
theorem MI.pushA {out:List κ}{y:κ}(m:MI R al bl ia ib out)(o:Ordd U R)(ua: ∀x∈al,U x)(ub: ∀x∈bl,U x)(sa:Srt R al)(sb:Srt R bl)(hy:al[ia]? =some y)(ge: ∀z,bl[ib]? =some z->R z y=false):MI R al bl (ia+1) ib (out++ [y]):=by
 have dy:=zd hy;have uy:=ua y (G9 hy);have sda:Srt R (al.drop ia):=sa.sublist (A1 _ _);rw [dy] at sda;refine⟨?_,?_,λx hx z hz=> ?_,λx hx z hz=> ?_⟩
 ·rw [ZN hy];refine(m.perm.append_right [y]).trans ?_;rw [G8,G8];exact(W6).append_left _
 ·refine S6.mpr ⟨m.srt,N5 _ _,λx hx z hz=> ?_⟩;rw [G7.mp hz];exact m.ra x hx y (by rw [dy];exact P9 ..)
 ·rcases D1.mp hx with w|w
  ·exact m.ra x w z (by rw [dy];exact D5 _ hz)
  ·rw [G7.mp w];exact(O6.mp sda).1 z hz
 ·rcases D1.mp hx with w|w
  ·exact m.rb x w z hz
  ·rw [G7.mp w];cases e:bl[ib]? with
   |none=>rw [H0 (G0U.mp e)] at hz;cases hz
   |some b0=>
    have db:=zd e;have ub0:=ub b0 (G9 e);have sdb:Srt R (bl.drop ib):=sb.sublist (A1 _ _);rw [db] at sdb hz;have l0:=ge b0 e;rcases P3.mp hz with v|v
    ·rw [v];exact l0
    ·exact o.trans uy ub0 (ub z (B3 v)) l0 ((O6.mp sdb).1 z v)
theorem MI.manyA (o:Ordd U R)(ua: ∀x∈al,U x)(ub: ∀x∈bl,U x)(sa:Srt R al)(sb:Srt R bl): ∀ (k:Nat) {ia:Nat} {out:List κ},MI R al bl ia ib out->ia+k<=al.length->(∀i,i<k-> ∀y,al[ia+i]? =some y-> ∀z,bl[ib]? =some z->R z y=false)->MI R al bl (ia+k) ib (out++(al.drop ia).take k)
 |0,ia,out,m,_,_=>by rw [G0V,B7];exact m
 |k+1,ia,out,m,hk,h=>by
  obtain⟨y,hy⟩: ∃y,al[ia]? =some y:=⟨_,G2 (by omega)⟩;have m1:=m.pushA o ua ub sa sb hy (h 0 (by omega) y hy);have:=MI.manyA o ua ub sa sb k m1 (by omega) (λi hi y hy=>h (i+1) (by omega) y (by rw [show ia+(i+1)=ia+1+i by omega];exact hy));rw [show ia+(k+1)=ia+1+k by omega,zd hy,G1F,List.append_cons];exact this
theorem MI.manyB (o:Ordd U R)(ua: ∀x∈al,U x)(ub: ∀x∈bl,U x)(sa:Srt R al)(sb:Srt R bl): ∀ (k:Nat) {ib:Nat} {out:List κ},MI R al bl ia ib out->ib+k<=bl.length->(∀i,i<k-> ∀y,bl[ib+i]? =some y-> ∀z,al[ia]? =some z->R y z=true)->MI R al bl ia (ib+k) (out++(bl.drop ib).take k)
 |0,ib,out,m,_,_=>by rw [G0V,B7];exact m
 |k+1,ib,out,m,hk,h=>by
  obtain⟨y,hy⟩: ∃y,bl[ib]? =some y:=⟨_,G2 (by omega)⟩;have m1:=m.pushB o ua ub sa sb hy (h 0 (by omega) y hy);have:=MI.manyB o ua ub sa sb k m1 (by omega) (λi hi y hy=>h (i+1) (by omega) y (by rw [show ib+(i+1)=ib+1+i by omega];exact hy));rw [show ib+(k+1)=ib+1+k by omega,zd hy,G1F,List.append_cons];exact this
theorem MI.all {out:List κ}(m:MI R al bl al.length bl.length out):out.Perm (al++bl)/\Srt R out:=by
 have:=m.perm;rw [G0s,G0s] at this;exact⟨this,m.srt⟩
theorem MI.done {out:List κ}(m:MI R al bl ia ib out)(o:Ordd U R)(ua: ∀x∈al,U x)(ub: ∀x∈bl,U x)(sa:Srt R al)(sb:Srt R bl)(ha:ia<=al.length)(hb:ib<=bl.length)(h:ia=al.length\/ib=bl.length):(out++al.drop ia++bl.drop ib).Perm (al++bl)/\Srt R (out++al.drop ia++bl.drop ib):=by
 have m1:=MI.manyA o ua ub sa sb (al.length-ia) m (by omega) (λi hi y hy z hz=>by
  have:=(P0.mp hz).1;omega)
 rw [show ia+(al.length-ia)=al.length by omega,D9 (by rw [T3];exact G5 _)] at m1;have m2:=MI.manyB o ua ub sa sb (bl.length-ib) m1 (by omega) (λi hi y hy z hz=>by
  have:=(P0.mp hz).1;omega)
 rw [show ib+(bl.length-ib)=bl.length by omega,D9 (l:=bl.drop ib) (by rw [T3];exact G5 _)] at m2;exact m2.all
theorem MI.lastA {out:List κ}(m:MI R al bl ia ib out)(o:Ordd U R)(ua: ∀x∈al,U x)(ub: ∀x∈bl,U x)(sa:Srt R al)(sb:Srt R bl)(ha:ia+1=al.length)(hb:ib<=bl.length)(h: ∀y∈bl,∀z,al[al.length-1]? =some z->R y z=true):(out++bl.drop ib++al.drop ia).Perm (al++bl)/\Srt R (out++bl.drop ib++al.drop ia):=by
 have m2:=MI.manyB o ua ub sa sb (bl.length-ib) m (by omega) (λi hi y hy z hz=>h y (G9 hy) z (by rw [<-ha];exact hz));rw [show ib+(bl.length-ib)=bl.length by omega,D9 (by rw [T3];exact G5 _)] at m2;have m1:=MI.manyA o ua ub sa sb (al.length-ia) m2 (by omega) (λi hi y hy z hz=>by
  have:=(P0.mp hz).1;omega)
 rw [show ia+(al.length-ia)=al.length by omega,D9 (l:=al.drop ia) (by rw [T3];exact G5 _)] at m1;exact m1.all
end
section
variable {prog:Program}{w:World}{A:Around}{E:Value->Shared->Prop}{J:Shared->Prop}{κ:SortKind}{U:Keyed->Prop}{R:Keyed->Keyed->Bool}
theorem Tm.rule {σ:Type}{x:String}{Q:Unit->σ->Prop}{st:σ}(q:Q () st):Tm prog w A E J (liftM (PySem.rule x):StateT σ Sem Unit) Q st:=λs j=>by
 show wpAny _ _ ((StateT.lift _:StateT σ Sem _).run st) _ _ _;rw [StateT.run_lift];exact wpAny_bind (G0y (G3 ⟨q,j⟩))
theorem Tm.modify {σ:Type}{f:σ->σ}{Q:Unit->σ->Prop}{st:σ}(q:Q () (f st)):Tm prog w A E J (_root_.modify f:StateT σ Sem PUnit) Q st:=λs j=>by
 rw [StateT.run_modify];exact G3 ⟨q,j⟩
def mLo:Array Keyed->Array Keyed->StateT SortSt Sem (Array Keyed):=sortPriv% PySem.Builtin.mergeLo
def Gal (st st':SortSt):Prop:=kindOf st'=kindOf st/\arrOf st'=arrOf st/\pendingOf st'=pendingOf st/\failedOf st'=failedOf st
theorem Gal.refl (st:SortSt):Gal st st:=⟨rfl,rfl,rfl,rfl⟩
theorem Zc (a:Array Keyed)(i:Nat):(a.extract i).toList=a.toList.drop i:=by
 rw [Q9,List.extract_eq_drop_take];exact D9 (by simp)
theorem QM (a:Array Keyed)(i k:Nat):(a.extract i (i+k)).toList=(a.toList.drop i).take k:=by
 rw [Q9,List.extract_eq_drop_take,G1c]
def yL (R:Keyed->Keyed->Bool)(a b c:Array Keyed):Prop:=c.toList.Perm (a.toList++b.toList)/\Srt R c.toList
structure Two (U:Keyed->Prop)(R:Keyed->Keyed->Bool)(a b:Array Keyed):Prop where
 o:Ordd U R
 ua: ∀x∈a.toList,U x
 ub: ∀x∈b.toList,U x
 sa:Srt R a.toList
 sb:Srt R b.toList
 last: ∀y∈b.toList,∀z,a.toList[a.toList.length-1]? =some z->R y z=true
abbrev MA (R:Keyed->Keyed->Bool)(a b:Array Keyed)(ia ib:Nat)(out:Array Keyed):Prop:=MI R a.toList b.toList ia ib out.toList
section
variable {a b out:Array Keyed}{ia ib:Nat}
theorem MA.done (t:Two U R a b)(m:MA R a b ia ib out)(ha:ia<=a.size)(hb:ib<=b.size)(h:ia=a.size\/ib=b.size):yL R a b (out++a.extract ia++b.extract ib):=by
 have:=MI.done m t.o t.ua t.ub t.sa t.sb (by simpa using ha) (by simpa using hb) (by simpa using h);unfold yL;rw [M0,M0,Zc,Zc];exact this
theorem MA.lastA (t:Two U R a b)(m:MA R a b ia ib out)(ha:ia+1=a.size)(hb:ib<=b.size):yL R a b (out++b.extract ib++a.extract ia):=by
 have:=MI.lastA m t.o t.ua t.ub t.sa t.sb (by simpa using ha) (by simpa using hb) t.last;unfold yL;rw [M0,M0,Zc,Zc];exact this
theorem MA.pushB (t:Two U R a b){y:Keyed}(m:MA R a b ia ib out)(hy:b.toList[ib]? =some y)(lt: ∀z,a.toList[ia]? =some z->R y z=true):MA R a b ia (ib+1) (out.push y):=by
 have:=MI.pushB m t.o t.ua t.ub t.sa t.sb hy lt;show MI R _ _ _ _ (out.push y).toList;rw [F7];exact this
theorem MA.pushA (t:Two U R a b){y:Keyed}(m:MA R a b ia ib out)(hy:a.toList[ia]? =some y)(ge: ∀z,b.toList[ib]? =some z->R z y=false):MA R a b (ia+1) ib (out.push y):=by
 have:=MI.pushA m t.o t.ua t.ub t.sa t.sb hy ge;show MI R _ _ _ _ (out.push y).toList;rw [F7];exact this
theorem MA.manyA (t:Two U R a b)(m:MA R a b ia ib out)(k:Nat)(hk:ia+k<=a.size)(h: ∀i,i<k-> ∀y,a.toList[ia+i]? =some y-> ∀z,b.toList[ib]? =some z->R z y=false):MA R a b (ia+k) ib (out++a.extract ia (ia+k)):=by
 have:=MI.manyA t.o t.ua t.ub t.sa t.sb k m (by simpa using hk) h;show MI R _ _ _ _ (out++a.extract ia (ia+k)).toList;rw [M0,QM];exact this
theorem MA.manyB (t:Two U R a b)(m:MA R a b ia ib out)(k:Nat)(hk:ib+k<=b.size)(h: ∀i,i<k-> ∀y,b.toList[ib+i]? =some y-> ∀z,a.toList[ia]? =some z->R y z=true):MA R a b ia (ib+k) (out++b.extract ib (ib+k)):=by
 have:=MI.manyB t.o t.ua t.ub t.sa t.sb k m (by simpa using hk) h;show MI R _ _ _ _ (out++b.extract ib (ib+k)).toList;rw [M0,QM];exact this
end
variable {arr:Array Keyed}{base:Nat}
theorem ye {left:Bool}{key x:Keyed}{i:Nat}(h:arr.toList[base+i]? =some x):byd R left key arr base i=if left=true then R x key else !R key x:=by
 unfold byd;rw [<-R4,h]
theorem ZO {l:List Keyed}(s:Srt R l)(o:Ordd U R)(u: ∀x∈l,U x){i j:Nat}{x y:Keyed}(hij:i<=j)(hx:l[i]? =some x)(hy:l[j]? =some y):R y x=false:=by
 by_cases z:i=j
 ·subst z;rw [hx] at hy;injection hy with hy;subst hy
  exact o.refl (u x (G9 hx))
 ·obtain⟨h1,e1⟩:=P0.mp hx;obtain⟨h2,e2⟩:=P0.mp hy;have:=N7.mp s i j h1 h2 (by omega);rw [e1,e2] at this;exact this
theorem ZP {i:Nat}(h:i<arr.size): ∃x,arr.toList[i]? =some x/\arr[i]? =some x:=⟨arr[i],by simp [h],by simp [h]⟩
theorem Kv {y:Keyed}{n hint:Nat}{st:SortSt}{Q:Option Nat->SortSt->Prop}(ak:YM prog w A J κ U R)(kd:kindOf st=κ)(o:Ordd U R)(u: ∀x∈arr.toList,U x)(s:Srt R arr.toList)(uy:U y)(hn:base+n<=arr.size)(hh:hint<n)
 (q: ∀k,k<=n->(∀i,i<k-> ∀x,arr.toList[base+i]? =some x->R y x=false)->(∀i,k<=i->i<n-> ∀x,arr.toList[base+i]? =some x->R y x=true)->Q (some k) st):Tm prog w A E J (gal false y arr base n hint) Q st:=by
 refine RB ak kd uy (λi hi=> ?_) (λi j hij hj h=> ?_) hh (λk k1 k2 k3=>q k k1 (λi hi x hx=> ?_) (λi h1 h2 x hx=> ?_))
 ·obtain⟨x,lx,ex⟩:=ZP (show base+i<arr.size by omega);exact⟨x,ex,u x (G9 lx)⟩
 ·obtain⟨x,lx,_⟩:=ZP (show base+i<arr.size by omega);obtain⟨z,lz,_⟩:=ZP (show base+j<arr.size by omega);rw [ye lz] at h;rw [ye lx];have hz:R y z=false:=by simpa using h
  have:=o.trans (u x (G9 lx)) (u z (G9 lz)) uy (ZO s o u (by omega) lx lz) hz;simp [this]
 ·have:=k2 i hi;rw [ye hx] at this;simpa using this
 ·have:=k3 i h1 h2;rw [ye hx] at this;simpa using this
theorem Kw {y:Keyed}{n hint:Nat}{st:SortSt}{Q:Option Nat->SortSt->Prop}(ak:YM prog w A J κ U R)(kd:kindOf st=κ)(o:Ordd U R)(u: ∀x∈arr.toList,U x)(s:Srt R arr.toList)(uy:U y)(hn:base+n<=arr.size)(hh:hint<n)
 (q: ∀k,k<=n->(∀i,i<k-> ∀x,arr.toList[base+i]? =some x->R x y=true)->(∀i,k<=i->i<n-> ∀x,arr.toList[base+i]? =some x->R x y=false)->Q (some k) st):Tm prog w A E J (gal true y arr base n hint) Q st:=by
 refine RB ak kd uy (λi hi=> ?_) (λi j hij hj h=> ?_) hh (λk k1 k2 k3=>q k k1 (λi hi x hx=> ?_) (λi h1 h2 x hx=> ?_))
 ·obtain⟨x,lx,ex⟩:=ZP (show base+i<arr.size by omega);exact⟨x,ex,u x (G9 lx)⟩
 ·obtain⟨x,lx,_⟩:=ZP (show base+i<arr.size by omega);obtain⟨z,lz,_⟩:=ZP (show base+j<arr.size by omega);rw [ye lz] at h;rw [ye lx];have hz:R z y=true:=by simpa using h
  rcases o.neg z x y (u z (G9 lz)) (u x (G9 lx)) uy hz with v|v
  ·rw [ZO s o u (by omega) lx lz] at v;cases v
  ·simp [v]
 ·have:=k2 i hi;rw [ye hx] at this;simpa using this
 ·have:=k3 i h1 h2;rw [ye hx] at this;simpa using this
section
variable {σ α β γ:Type}{c:Prop}[Decidable c]{t e:StateT σ Sem α}{Q:α->σ->Prop}{st:σ}{x y:β}{z:γ}
theorem Tm.if2 (T:c->Tm prog w A E J t Q st)(F: ¬c->Tm prog w A E J e Q st):Tm prog w A E J (if c then t else e) Q st:=by
 split
 ·exact T ‹_›
 ·exact F ‹_›
theorem Tm.eq2 {x y:Nat}(T:x=y->Tm prog w A E J t Q st)(F: ¬x=y->Tm prog w A E J e Q st):Tm prog w A E J (if (x==y)=true then t else e) Q st:=
 .if2 (λh=>T (eq_of_beq h)) λh=>F λg=>h (V5.mpr g)
theorem Tm.both {f:β->StateT σ Sem α}(he:e=f y)(ht:t=f x)(H: ∀m,Tm prog w A E J (f m) Q st):Tm prog w A E J (if c then t else e) Q st:=by
 subst he ht;exact .if2 (λ_=>H _) λ_=>H _
theorem Tm.join {f:β->γ->StateT σ Sem α}{I:β->γ->Prop}(he:e=f x z)(G: ∀m o,I m o->Tm prog w A E J (f m o) Q st)(T:c->(∀m o,I m o->Tm prog w A E J (f m o) Q st)->Tm prog w A E J t Q st)(F: ¬c->I x z):Tm prog w A E J (if c then t else e) Q st:=by
 subst he;exact .if2 (λh=>T h G) λh=>G _ _ (F h)
end
theorem SZ {A B C D F:Type}{P:A×B×C×D×F->Prop}(h: ∀a b c d f,P (a,b,c,d,f)): ∀c,P c:=λc=>h c.1 c.2.1 c.2.2.1 c.2.2.2.1 c.2.2.2.2
theorem Ta {A B C D F G:Type}{P:A×B×C×D×F×G->Prop}(h: ∀a b c d f g,P (a,b,c,d,f,g)): ∀c,P c:=λc=>h c.1 c.2.1 c.2.2.1 c.2.2.2.1 c.2.2.2.2.1 c.2.2.2.2.2
theorem Tb {A B C D F G H:Type}{P:A×B×C×D×F×G×H->Prop}(h: ∀a b c d f g k,P (a,b,c,d,f,g,k)): ∀c,P c:=λc=>h c.1 c.2.1 c.2.2.1 c.2.2.2.1 c.2.2.2.2.1 c.2.2.2.2.2.1 c.2.2.2.2.2.2
theorem wB {a:Array Keyed}(u: ∀x∈a.toList,U x){i:Nat}(h:i<a.size){P:Prop}(q: ∀y,a[i]? =some y->a.toList[i]? =some y->U y->P):P:=q a[i] (by simp [h]) (by simp [h]) (u _ (by simp))
structure LoI (R:Keyed->Keyed->Bool)(a b:Array Keyed)(st st':SortSt)(n:Nat)(out:Array Keyed)(ia ib:Nat):Prop where
 g:Gal st st'
 m:MA R a b ia ib out
 a:ia+1<a.size
 b:ib<b.size
 n:n<=ia+ib
def LoO (R:Keyed->Keyed->Bool)(a b:Array Keyed)(st st':SortSt)(n:Nat)(r:Option (Array Keyed))(out:Array Keyed)(ia ib:Nat):Prop:=Gal st st'/\match r with|some c=>yL R a b c|none=>LoI R a b st st' n out ia ib
section
variable {a b out:Array Keyed}{st st':SortSt}{n k ia ib:Nat}
theorem LoI.more (h:LoI R a b st st' n out ia ib)(l:k<=n):LoI R a b st st' k out ia ib:=⟨h.g,h.m,h.a,h.b,P7 l h.n⟩
theorem LoI.here (h:LoI R a b st st' n out ia ib):LoI R a b st st' (ia+ib) out ia ib:=⟨h.g,h.m,h.a,h.b,G5 _⟩
theorem LoI.at {s:SortSt}(h:LoI R a b st st' n out ia ib)(g:Gal st s)(l:k<=n):LoI R a b st s k out ia ib:=⟨g,h.m,h.a,h.b,P7 l h.n⟩
theorem LoI.never {P:Prop}(h:LoI R a b st st' n out ia ib)(l:a.size+b.size<=n):P:=absurd (P7 l h.n) (Nat.not_le_of_lt (Nat.add_lt_add (E5 h.a) h.b))
end
theorem Se {a b:Array Keyed}{st:SortSt}{Q:Array Keyed->SortSt->Prop}(ak:YM prog w A J κ U R)(kd:kindOf st=κ)(t:Two U R a b)
 (na:1<=a.size)(nb:1<=b.size)(first: ∀y z,b.toList[0]? =some y->a.toList[0]? =some z->R y z=true)
 (q: ∀c st',Gal st st'->yL R a b c->Q c st'):Tm prog w A E J (mLo a b) Q st:=by
 refine .bind (.rule (.bind (wB t.ub nb λb0 eb0 lb0 ub0=> .elem eb0 ?_)));have m0:MA R a b 0 1 #[b0]:=MA.pushB t (out:= #[]) (MI.start _ _) lb0 (λz hz=>first _ z lb0 hz);refine .eq2 (x:=1) (y:=b.size) (λz1=> .pure (q _ _ (Gal.refl st) (MA.done t m0 (S9 _) nb (.inr z1)))) λz1=> .eq2 (x:=0+1) (y:=a.size) (λz2=> .pure (q _ _ (Gal.refl st) (MA.lastA t m0 z2 nb))) λz2=> .bind (.get ?_)
 refine .bind (Tm.mono (Tm.range (λi c st'=>LoI R a b st st' (i+1) c.2.1 c.2.2.1 c.2.2.2.1)
  (Q:=λc st'=> ∃r,c.1=some r/\Gal st st'/\yL R a b r) (S9 _) ⟨Gal.refl st,m0,L0 na z2,L0 nb z1,G5 _⟩ ?_ ?_) ?_)
 ·intro i c st1 hi;revert c;refine SZ λr out ia ib mg h=> ?_
  refine .bind (Tm.mono (Tm.range (λj c st'=>LoI R a b st st' (ia+ib+j) c.2.1 c.2.2.1 c.2.2.2.1)
   (Q:=λc st'=>LoO R a b st st' (ia+ib+1) c.1 c.2.1 c.2.2.1 c.2.2.2.1) (S9 _) h.here ?_ ?_) ?_)
  ·intro j c st2 hj;revert c;refine Ta λr out ja jb ac bc h=> ?_
   refine .bind (wB t.ub h.b λy ey ly uy=> .elem ey (.bind (wB t.ua (E5 h.a) λx ex lx ux=> .elem ex (.bind (.lt ak (h.g.1.trans kd) uy ux (.if2 (c:=R y x=true) (λhb=> .bind (.elem ey ?_)) λhb=> .bind (.elem ex ?_)))))))
   ·have m1:=MA.pushB t h.m ly (λz hz=>by rw [lx] at hz;injection hz with hz;rw [<-hz];exact hb);refine .eq2 (x:=jb+1) (y:=b.size) (λc1=> .pure ⟨h.g,MA.done t m1 (D4 (E5 h.a)) h.b (.inr c1)⟩) λc1=> ?_
    have d:LoI R a b st st2 (ia+ib+(j+1)) (out.push y) ja (jb+1):=⟨h.g,m1,h.a,L0 (G0h h.b) c1,G0u h.n⟩;exact .if2 (λ_=> .pure ⟨h.g,d.more (X9 (W7 _ _) _)⟩) λ_=> .pure d
   ·have m1:=MA.pushA t h.m lx (λz hz=>by rw [ly] at hz;injection hz with hz;rw [<-hz];exact K0.mpr hb);refine .eq2 (x:=ja+1+1) (y:=a.size) (λc1=> .pure ⟨h.g,MA.lastA t m1 c1 (D4 h.b)⟩) λc1=> ?_
    have d:LoI R a b st st2 (ia+ib+(j+1)) (out.push x) (ja+1) jb:=⟨h.g,m1,L0 (G0h h.a) c1,h.b,P7 (G0u h.n) (Q0 (Nat.succ_add _ _).symm)⟩;exact .if2 (λ_=> .pure ⟨h.g,d.more (X9 (W7 _ _) _)⟩) λ_=> .pure d
  ·exact λc st2 h=>h.never (W7 _ _)
  ·intro c st2;revert c;refine Ta λr out ja jb ac bc h'=> ?_
   cases r with
   |some r=>exact .pure ⟨r,rfl,h'⟩
   |none=>
   replace h':=h'.2
   refine .bind (.rule (.bind (Tm.mono (Tm.range (λj c st'=>LoI R a b st st' (ja+jb+j) c.2.1 c.2.2.1 c.2.2.2.1)
    (Q:=λc st'=>LoO R a b st st' (ja+jb) c.1 c.2.1 c.2.2.1 c.2.2.2.1) (S9 _) h'.here ?_ ?_) ?_)))
   ·clear h;intro j c st2 hj;revert c;refine Tb λr out pa pb mg ac bc h=> ?_
    refine wB t.ub h.b λy ey ly uy=> ?_
    have g2:0<a.size-pa:=Nat.sub_pos_of_lt (E5 h.a);have g1:pa+(a.size-pa)<=a.size:=Q0 (L8 (D4 (E5 h.a)));refine Tm.both (y:=mg) (x:=mg-1) (by rfl) (by rfl) λmg=> ?_
    refine .bind (Tm.modify (.bind (.elem ey (.bind (Kv (base:=pa) (n:=a.size-pa) ak (h.g.1.trans kd) t.o t.ua t.sa uy g1 g2 λk k1 k2 k3=> ?_)))));refine Tm.join (I:=λo ia=>MA R a b ia pb o/\ia+1<a.size/\pa<=ia/\ ∀x,a.toList[ia]? =some x->R y x=true) (x:=out) (z:=pa) (by rfl) ?_ ?_ ?_
    ·refine λo qa i1=> ?_
     have M2:=MA.pushB t i1.1 ly i1.2.2.2;have p1:=E5 i1.2.1;refine .bind (.elem ey (.eq2 (x:=pb+1) (y:=b.size) (λc3=> .pure ⟨h.g,MA.done t M2 (D4 p1) (Q0 c3) (.inr c3)⟩) λc3=> ?_));have c8:pb+1<b.size:=L0 (G0h h.b) c3;have g2:=Nat.sub_pos_of_lt c8;refine .bind (wB t.ua p1 λx ex lx ux=> .elem ex (.bind (Kw (base:=pb+1) (n:=b.size-(pb+1)) ak (h.g.1.trans kd) t.o t.ub t.sb ux (Q0 (L8 (D4 c8))) g2 λk' q1 q2 q3=> ?_)));dsimp only;generalize ep:pb+1=p2 at M2 q1 q2 q3 c8 g2 ⊢;generalize eo:o.push y=o2 at M2 ⊢;refine Tm.join (I:=λo ib=>MA R a b qa ib o/\ib<b.size/\p2<=ib/\ ∀x',b.toList[ib]? =some x'->R x' x=false) (x:=o2) (z:=p2) (by rfl) ?_ ?_ ?_
     ·refine λo qb i2=> ?_
      have M4:=MA.pushA t i2.1 lx i2.2.2.2;refine .bind (.elem ex (.eq2 (x:=qa+1+1) (y:=a.size) (λc5=> .pure ⟨h.g,MA.lastA t M4 c5 (D4 i2.2.1)⟩) λc5=> ?_));have n1:ja+jb+j<=pa+pb:=h.n;have n2:ja+jb+(j+1)<=qa+1+qb:=by have:=i1.2.2.1;have:=i2.2.2.1;omega
      have d:LoI R a b st st2 (ja+jb+(j+1)) (o.push x) (qa+1) qb:=⟨h.g,M4,L0 (G0h i1.2.1) c5,i2.2.1,n2⟩;exact .if2 (λ_=> .pure ⟨h.g,d.at h.g (K8 _ _)⟩) λ_=> .pure (d.at h.g (G5 _))
     ·intro kz' H;have g3:p2+k'<=b.size:=P7 (X9 q1 _) (Q0 (L8 (D4 c8)));have M3:=MA.manyB t M2 k' g3 (λi hi y' hy z hz=>by rw [lx] at hz;injection hz with hz;rw [<-hz];exact q2 i hi y' hy);exact .eq2 (x:=p2+k') (y:=b.size) (λc4=> .pure ⟨h.g,MA.done t M3 (D4 p1) g3 (.inr c4)⟩) λc4=>H _ _ ⟨M3,L0 g3 c4,K8 _ _,λz hz=>q3 k' (G5 _) (by omega) z hz⟩
     ·exact λkz'=>⟨M2,c8,G5 _,λz hz=>q3 0 (G1f kz') g2 z hz⟩
    ·intro kz H;have g3:pa+k<=a.size:=P7 (X9 k1 _) g1;have m1:=MA.manyA t h.m k g3 (λi hi x hx z hz=>by rw [ly] at hz;injection hz with hz;rw [<-hz];exact k2 i hi x hx);exact .eq2 (x:=pa+k+1) (y:=a.size) (λc1=> .pure ⟨h.g,MA.lastA t m1 c1 (D4 h.b)⟩) λc1=> .eq2 (x:=pa+k) (y:=a.size) (λc2=> .pure ⟨h.g,MA.done t m1 g3 (D4 h.b) (.inl c2)⟩) λc2=>H _ _ ⟨m1,L0 (L0 g3 c2) c1,K8 _ _,λx hx=>k3 k (G5 _) (by omega) x hx⟩
    ·exact λkz=>⟨h.m,h.a,G5 _,λx hx=>k3 0 (G1f kz) g2 x hx⟩
   ·exact λc st3 h=>h.never (W7 _ _)
   ·intro c st3;revert c;refine Tb λr out pa pb mg ac bc h3=> ?_
    cases r with
    |some r=>exact .pure ⟨r,rfl,h3⟩
    |none=>exact .bind (Tm.modify (.pure (h3.2.at h3.1 (P7 (G0u h.n) h'.n))))
 ·exact λc st1 h=>h.never (K8 _ _)
 ·intro c st1;revert c;refine SZ λr out ia ib mg h=> ?_
  obtain⟨c,rfl,gl,wh⟩:=h;exact .pure (q c st1 gl wh)
end
section
variable {prog:Program}{w:World}{A:Around}{E:Value->Shared->Prop}{J:Shared->Prop}{κ:SortKind}{U:Keyed->Prop}{R:Keyed->Keyed->Bool}
abbrev Flp (R:Keyed->Keyed->Bool):Keyed->Keyed->Bool:=λx y=>R y x
theorem Ordd.flip (o:Ordd U R):Ordd U (Flp R):=⟨λx y ux uy h=>o.asym y x uy ux h,λx y z ux uy uz h=>(o.neg z y x uz uy ux h).symm⟩
variable {l:List Keyed}
theorem zg (s:Srt R l):Srt (Flp R) l.reverse:=G0p.mpr s
theorem QN (s:Srt (Flp R) l):Srt R l.reverse:=G0p.mpr s
variable {n:Nat}
theorem RC (h1:1<=n)(hn:n<=l.length):l.reverse[l.length-n]? =l[n-1]? :=by
 rw [W8 (by omega)]
 congr 1;omega
theorem zY {z:Keyed}(hn:n<=l.length)(h:l.reverse[l.length-n]? =some z):1<=n/\l[n-1]? =some z:=by
 have:=(P0.mp h).1;rw [T8] at this;have n1:1<=n:=by omega
 exact⟨n1,by rw [<-RC n1 hn];exact h⟩
theorem vN (l:List Keyed){n:Nat}(hn:n<=l.length):l.reverse.drop (l.length-n)=(l.take n).reverse:=by
 rw [List.drop_reverse]
 congr 2;omega
def MH (R:Keyed->Keyed->Bool)(a b:Array Keyed)(na nb:Nat)(out:Array Keyed):Prop:=MI (Flp R) b.toList.reverse a.toList.reverse (b.toList.length-nb) (a.toList.length-na) out.toList
structure TwoH (U:Keyed->Prop)(R:Keyed->Keyed->Bool)(a b:Array Keyed):Prop where
 o:Ordd U R
 ua: ∀x∈a.toList,U x
 ub: ∀x∈b.toList,U x
 sa:Srt R a.toList
 sb:Srt R b.toList
 first: ∀z∈a.toList,∀y,b.toList[0]? =some y->R y z=true
section
variable {a b out:Array Keyed}{na nb:Nat}
theorem TwoH.fa (t:TwoH U R a b): ∀x∈a.toList.reverse,U x:=λx hx=>t.ua x (L9.mp hx)
theorem TwoH.fb (t:TwoH U R a b): ∀x∈b.toList.reverse,U x:=λx hx=>t.ub x (L9.mp hx)
theorem MH.start (a b:Array Keyed):MH R a b a.toList.length b.toList.length #[]:=by
 unfold MH;rw [Nat.sub_self,Nat.sub_self];exact MI.start _ _
theorem MH.pushA (t:TwoH U R a b){y:Keyed}(m:MH R a b na nb out)(h1:1<=na)(hn:na<=a.toList.length)(hb:nb<=b.toList.length)(hy:a.toList[na-1]? =some y)(lt: ∀z,1<=nb->b.toList[nb-1]? =some z->R z y=true):MH R a b (na-1) nb (out.push y):=by
 have:=MI.pushB m t.o.flip t.fb t.fa (zg t.sb) (zg t.sa) (by rw [RC h1 hn];exact hy) (λz hz=>lt z (zY hb hz).1 (zY hb hz).2);unfold MH;rw [F7,show a.toList.length-(na-1)=a.toList.length-na+1 by omega];exact this
theorem MH.pushB (t:TwoH U R a b){y:Keyed}(m:MH R a b na nb out)(h1:1<=nb)(hn:nb<=b.toList.length)(ha:na<=a.toList.length)(hy:b.toList[nb-1]? =some y)(ge: ∀z,1<=na->a.toList[na-1]? =some z->R y z=false):MH R a b na (nb-1) (out.push y):=by
 have:=MI.pushA m t.o.flip t.fb t.fa (zg t.sb) (zg t.sa) (by rw [RC h1 hn];exact hy) (λz hz=>ge z (zY ha hz).1 (zY ha hz).2);unfold MH;rw [F7,show b.toList.length-(nb-1)=b.toList.length-nb+1 by omega];exact this
theorem vO (a:Array Keyed)(n:Nat):(a.extract 0 n).toList=a.toList.take n:=by
 rw [Q9,List.extract_eq_drop_take,G1y,Nat.sub_zero]
theorem MH.done (t:TwoH U R a b)(m:MH R a b na nb out)(ha:na<=a.toList.length)(hb:nb<=b.toList.length)(h:na=0\/nb=0):yL R a b (a.extract 0 na++b.extract 0 nb++out.reverse):=by
 have:=MI.done m t.o.flip t.fb t.fa (zg t.sb) (zg t.sa) (by rw [T8];omega) (by rw [T8];omega) (by rw [T8,T8];omega);rw [vN _ ha,vN _ hb] at this;have e:(a.extract 0 na++b.extract 0 nb++out.reverse).toList=(out.toList++(b.toList.take nb).reverse++(a.toList.take na).reverse).reverse:=by
  rw [M0,M0,vO,vO,G0w];simp [G8]
 unfold yL;rw [e];refine⟨(E6 _).trans (this.1.trans ?_),QN this.2⟩;exact(List.Perm.append (E6 _) (E6 _)).trans W6
theorem MH.firstB (t:TwoH U R a b)(m:MH R a b na nb out)(ha:na<=a.toList.length)(hb:nb=1)(hb':1<=b.toList.length):yL R a b (b.extract 0 nb++a.extract 0 na++out.reverse):=by
 subst hb;have:=MI.lastA m t.o.flip t.fb t.fa (zg t.sb) (zg t.sa) (by rw [T8];omega) (by rw [T8];omega) (λz hz y hy=>by
  rw [T8] at hy;have:=(zY hb' hy).2;exact t.first z (L9.mp hz) y (by simpa using this))
 rw [vN _ ha,vN _ hb'] at this;have e:(b.extract 0 1++a.extract 0 na++out.reverse).toList=(out.toList++(a.toList.take na).reverse++(b.toList.take 1).reverse).reverse:=by
  rw [M0,M0,vO,vO,G0w];simp [G8]
 unfold yL;rw [e];refine⟨(E6 _).trans (this.1.trans ?_),QN this.2⟩;exact(List.Perm.append (E6 _) (E6 _)).trans W6
theorem QP (l:List Keyed){p n:Nat}(h1:p<=n)(hn:n<=l.length):(l.reverse.drop (l.length-n)).take (n-p)=((l.drop p).take (n-p)).reverse:=by
 rw [vN l hn,List.take_reverse,D8,G1z,U7 hn,show n-(n-p)=p by omega]
theorem RD (a:Array Keyed){p n:Nat}(h:p<=n):(a.extract p n).reverse.toList=((a.toList.drop p).take (n-p)).reverse:=by
 rw [G0w,Q9,List.extract_eq_drop_take]
theorem MH.manyA (t:TwoH U R a b)(m:MH R a b na nb out)(p:Nat)(hp:p<=na)(hn:na<=a.toList.length)(hb:nb<=b.toList.length)(h: ∀i,p<=i->i<na-> ∀y,a.toList[i]? =some y-> ∀z,1<=nb->b.toList[nb-1]? =some z->R z y=true):MH R a b p nb (out++(a.extract p na).reverse):=by
 have:=MI.manyB t.o.flip t.fb t.fa (zg t.sb) (zg t.sa) (na-p) m (by rw [T8];omega) (λi hi y hy z hz=>by
  rw [W8 (by omega)] at hy;exact h _ (by omega) (by omega) y hy z (zY hb hz).1 (zY hb hz).2)
 rw [QP _ hp hn] at this;unfold MH;rw [M0,RD _ hp,show a.toList.length-p=a.toList.length-na+(na-p) by omega];exact this
theorem MH.manyB (t:TwoH U R a b)(m:MH R a b na nb out)(p:Nat)(hp:p<=nb)(hn:nb<=b.toList.length)(ha:na<=a.toList.length)(h: ∀i,p<=i->i<nb-> ∀y,b.toList[i]? =some y-> ∀z,1<=na->a.toList[na-1]? =some z->R y z=false):MH R a b na p (out++(b.extract p nb).reverse):=by
 have:=MI.manyA t.o.flip t.fb t.fa (zg t.sb) (zg t.sa) (nb-p) m (by rw [T8];omega) (λi hi y hy z hz=>by
  rw [W8 (by omega)] at hy;exact h _ (by omega) (by omega) y hy z (zY ha hz).1 (zY ha hz).2)
 rw [QP _ hp hn] at this;unfold MH;rw [M0,RD _ hp,show b.toList.length-p=b.toList.length-nb+(nb-p) by omega];exact this
end
def mHi:Array Keyed->Array Keyed->StateT SortSt Sem (Array Keyed):=sortPriv% PySem.Builtin.mergeHi
section
variable {arr:Array Keyed}{y:Keyed}{n hint:Nat}{st:SortSt}{Q:Option Nat->SortSt->Prop}
theorem HE (ak:YM prog w A J κ U R)(kd:kindOf st=κ)(o:Ordd U R)(u: ∀x∈arr.toList,U x)(s:Srt R arr.toList)(uy:U y)(hn:n<=arr.size)(hh:hint<n)
 (q: ∀k,k<=n->(∀i,i<k-> ∀x,arr.toList[i]? =some x->R y x=false)->(∀i,k<=i->i<n-> ∀x,arr.toList[i]? =some x->R y x=true)->Q (some k) st):Tm prog w A E J (gal false y arr 0 n hint) Q st:=
 Kv ak kd o u s uy (by rw [E9];exact hn) hh λk h k2 k3=>q k h (λi hi x hx=>k2 i hi x (by rw [E9];exact hx)) λi hi hj x hx=>k3 i hi hj x (by rw [E9];exact hx)
theorem HF (ak:YM prog w A J κ U R)(kd:kindOf st=κ)(o:Ordd U R)(u: ∀x∈arr.toList,U x)(s:Srt R arr.toList)(uy:U y)(hn:n<=arr.size)(hh:hint<n)
 (q: ∀k,k<=n->(∀i,i<k-> ∀x,arr.toList[i]? =some x->R x y=true)->(∀i,k<=i->i<n-> ∀x,arr.toList[i]? =some x->R x y=false)->Q (some k) st):Tm prog w A E J (gal true y arr 0 n hint) Q st:=
 Kw ak kd o u s uy (by rw [E9];exact hn) hh λk h k2 k3=>q k h (λi hi x hx=>k2 i hi x (by rw [E9];exact hx)) λi hi hj x hx=>k3 i hi hj x (by rw [E9];exact hx)
end
structure HiI (R:Keyed->Keyed->Bool)(a b:Array Keyed)(st st':SortSt)(n N na nb:Nat)(out:Array Keyed):Prop where
 g:Gal st st'
 m:MH R a b na nb out
 a':na<=a.size
 b':nb<=b.size
 a:1<=na
 b:2<=nb
 n:n+na+nb<=N
def HiO (R:Keyed->Keyed->Bool)(a b:Array Keyed)(st st':SortSt)(n N:Nat)(r:Option (Array Keyed))(na nb:Nat)(out:Array Keyed):Prop:=Gal st st'/\match r with|some c=>yL R a b c|none=>HiI R a b st st' n N na nb out
section
variable {a b out:Array Keyed}{st st' s:SortSt}{n N k M na nb:Nat}
theorem HiI.at (h:HiI R a b st st' n N na nb out)(g:Gal st s)(l:n+na+nb<=N->k+na+nb<=M):HiI R a b st s k M na nb out:=⟨g,h.m,h.a',h.b',h.a,h.b,l h.n⟩
theorem HiI.here (h:HiI R a b st st' n N na nb out):HiI R a b st st' 0 (na+nb) na nb out:=h.at h.g λ_=>by omega
theorem HiI.never {P:Prop}(h:HiI R a b st st' n N na nb out)(l:N<=n):P:=by have:=h.n;have:=h.a;omega
theorem HiI.le (h:HiI R a b st st' n N na nb out):na+nb<=a.size+b.size:=Nat.add_le_add h.a' h.b'
theorem HiI.a1 (h:HiI R a b st st' n N na nb out):na-1<a.size:=D7 (G0i h.a Nat.one_pos) h.a'
theorem HiI.b1 (h:HiI R a b st st' n N na nb out):nb-1<b.size:=D7 (G0i (E5 h.b) Nat.one_pos) h.b'
end
theorem Cr (h:2<=n)(c: ¬n-1=1):2<=n-1:=by omega
theorem RE (c: ¬n-1=0):1<=n-1:=Z7 c
theorem Sf {a b:Array Keyed}{st:SortSt}{Q:Array Keyed->SortSt->Prop}(ak:YM prog w A J κ U R)(kd:kindOf st=κ)(t:TwoH U R a b)
 (na:1<=a.size)(nb:1<=b.size)(last: ∀y z,b.toList[b.size-1]? =some y->a.toList[a.size-1]? =some z->R y z=true)
 (q: ∀c st',Gal st st'->yL R a b c->Q c st'):Tm prog w A E J (mHi a b) Q st:=by
 refine .bind (.rule (.bind (wB t.ua (G0i na Nat.one_pos) λa0 ea0 la0 ua0=> .elem ea0 ?_)));have m0:MH R a b (a.size-1) b.size #[a0]:=MH.pushA t (MH.start (R:=R) a b) na (G5 _) (G5 _) la0 (λz _ hz=>last z a0 hz la0);have n1:a.size-1<=a.size:=Nat.sub_le _ _;refine .eq2 (x:=a.size-1) (y:=0) (λz1=> .pure (q _ _ (Gal.refl st) (MH.done t m0 n1 (G5 _) (.inl z1)))) λz1=> .eq2 (x:=b.size) (y:=1) (λz2=> .pure (q _ _ (Gal.refl st) (MH.firstB t m0 n1 z2 nb))) λz2=> .bind (.get ?_)
 refine .bind (Tm.mono (Tm.range (λi c st'=>HiI R a b st st' (i+1) (a.size+b.size) c.2.1 c.2.2.1 c.2.2.2.1)
  (Q:=λc st'=> ∃r,c.1=some r/\Gal st st'/\yL R a b r) (Nat.zero_le _) ⟨Gal.refl st,m0,n1,Nat.le_refl _,RE z1,by dsimp only;omega,by dsimp only;omega⟩ ?_ ?_) ?_)
 ·intro i c st1 hi;revert c;refine SZ λr ia ib out mg h=> ?_
  refine .bind (Tm.mono (Tm.range (λj c st'=>HiI R a b st st' j (ia+ib) c.2.1 c.2.2.1 c.2.2.2.1)
   (Q:=λc st'=>HiO R a b st st' 1 (ia+ib) c.1 c.2.1 c.2.2.1 c.2.2.2.1) (S9 _) h.here ?_ ?_) ?_)
  ·intro j c st2 hj;revert c;refine Ta λr ja jb out ac bc h=> ?_
   refine .bind (wB t.ub h.b1 λy ey ly uy=> .elem ey (.bind (wB t.ua h.a1 λx ex lx ux=> .elem ex (.bind (.lt ak (h.g.1.trans kd) uy ux (.if2 (c:=R y x=true) (λhb=> .bind (.elem ex ?_)) λhb=> .bind (.elem ey ?_)))))))
   ·have m1:=MH.pushA t h.m h.a h.a' h.b' lx (λz _ hz=>by rw [ly] at hz;injection hz with hz;rw [<-hz];exact hb);refine .eq2 (x:=ja-1) (y:=0) (λc1=> .pure ⟨h.g,MH.done t m1 (D4 h.a1) h.b' (.inl c1)⟩) λc1=> ?_
    have d:HiI R a b st st2 (j+1) (ia+ib) (ja-1) jb (out.push x):=⟨h.g,m1,D4 h.a1,h.b',RE c1,h.b,by have:j+ja+jb<=ia+ib:=h.n;have:1<=ja:=h.a;have:2<=jb:=h.b;omega⟩;exact .if2 (λ_=> .pure ⟨h.g,d.at h.g λ_=>by omega⟩) λ_=> .pure d
   ·have m1:=MH.pushB t h.m (D4 h.b) h.b' h.a' ly (λz _ hz=>by rw [lx] at hz;injection hz with hz;rw [<-hz];exact K0.mpr hb);refine .eq2 (x:=jb-1) (y:=1) (λc1=> .pure ⟨h.g,MH.firstB t m1 h.a' c1 nb⟩) λc1=> ?_
    have d:HiI R a b st st2 (j+1) (ia+ib) ja (jb-1) (out.push y):=⟨h.g,m1,h.a',D4 h.b1,h.a,Cr h.b c1,by have:j+ja+jb<=ia+ib:=h.n;have:1<=ja:=h.a;have:2<=jb:=h.b;omega⟩;exact .if2 (λ_=> .pure ⟨h.g,d.at h.g λ_=>by omega⟩) λ_=> .pure d
  ·exact λc st2 h'=>h'.never h.le
  ·intro c st2;revert c;refine Ta λr ja jb out ac bc h'=> ?_
   cases r with
   |some r=>exact .pure ⟨r,rfl,h'⟩
   |none=>
   replace h':=h'.2
   refine .bind (.rule (.bind (Tm.mono (Tm.range (λj c st'=>HiI R a b st st' j (ja+jb) c.2.1 c.2.2.1 c.2.2.2.1)
    (Q:=λc st'=>HiO R a b st st' 0 (ja+jb) c.1 c.2.1 c.2.2.1 c.2.2.2.1) (S9 _) h'.here ?_ ?_) ?_)))
   ·clear h;intro j c st2 hj;revert c;refine Tb λr pa pb out mg ac bc h=> ?_
    refine wB t.ub h.b1 λy ey ly uy=> ?_
    refine Tm.both (y:=mg) (x:=mg-1) (by rfl) (by rfl) λmg=> ?_
    refine .bind (Tm.modify (.bind (.elem ey (.bind (HE (n:=pa) ak (h.g.1.trans kd) t.o t.ua t.sa uy h.a' (G0i h.a Nat.one_pos) λk k1 k2 k3=> ?_)))));dsimp only;generalize eac:pa-k=ac;refine Tm.join (I:=λna o=>MH R a b na pb o/\1<=na/\na<=pa/\ ∀z,a.toList[na-1]? =some z->R y z=false) (x:=pa) (z:=out) (by rfl) ?_ ?_ ?_
    ·refine λqa o i1=> ?_
     have la:=P7 i1.2.2.1 h.a';have M2:=MH.pushB t i1.1 (D4 h.b) h.b' la ly (λz _ hz=>i1.2.2.2 z hz);refine .bind (.elem ey (.eq2 (x:=pb-1) (y:=1) (λc3=> .pure ⟨h.g,MH.firstB t M2 la c3 nb⟩) λc3=> ?_));have c8:=Cr h.b c3;have lb:=D4 h.b1;have n1:j+pa+pb<=ja+jb:=h.n;have n2:pb=pb-1+1:=(Nat.sub_add_cancel (D4 h.b)).symm;refine .bind (wB t.ua (D7 (G0i i1.2.1 Nat.one_pos) la) λx ex lx ux=> .elem ex (.bind (HF (n:=pb-1) ak (h.g.1.trans kd) t.o t.ub t.sb ux lb (G0i (E5 c8) Nat.one_pos) λk' q1 q2 q3=> ?_)));dsimp only;dsimp only at c8 lb;generalize ep:pb-1=p2 at M2 q1 q2 q3 c8 lb n2 ⊢;generalize eo:o.push y=o2 at M2 ⊢;generalize ebc:p2-k'=bc;refine Tm.join (I:=λnb o=>MH R a b qa nb o/\2<=nb/\nb<=p2/\ ∀z,b.toList[nb-1]? =some z->R z x=true) (x:=p2) (z:=o2) (by rfl) ?_ ?_ ?_
     ·refine λqb o i2=> ?_
      have lb':=P7 i2.2.2.1 lb;have M4:=MH.pushA t i2.1 i1.2.1 la lb' lx (λz _ hz=>i2.2.2.2 z hz);have la':=P7 (Nat.sub_le qa 1) la;refine .bind (.elem ex (.eq2 (x:=qa-1) (y:=0) (λc5=> .pure ⟨h.g,MH.done t M4 la' lb' (.inl c5)⟩) λc5=> ?_));have n3:j+1+(qa-1)+qb<=ja+jb:=by have:=i1.2.1;have:=i1.2.2.1;have:=i2.2.2.1;omega
      have d:HiI R a b st st2 (j+1) (ja+jb) (qa-1) qb (o.push x):=⟨h.g,M4,la',lb',RE c5,i2.2.1,n3⟩;exact .if2 (λ_=> .pure ⟨h.g,d.at h.g λ_=>by omega⟩) λ_=> .pure (d.at h.g id)
     ·intro kz' H;have M3:=MH.manyB t M2 k' q1 lb la (λi hi1 hi2 y' hy z hz1 hz=>by rw [lx] at hz;injection hz with hz;rw [<-hz];exact q3 i hi1 hi2 y' hy);exact .eq2 (x:=k') (y:=1) (λc4=> .pure ⟨h.g,MH.firstB t M3 la c4 nb⟩) λc4=> .eq2 (x:=k') (y:=0) (λc7=> .pure ⟨h.g,MH.done t M3 la (P7 q1 lb) (.inr c7)⟩) λc7=>H _ _ ⟨M3,by omega,q1,λz hz=>q2 (k'-1) (G0i (Z7 c7) Nat.one_pos) z hz⟩
     ·exact λkz'=>⟨M2,c8,G5 _,λz hz=>q2 (p2-1) (by omega) z hz⟩
    ·intro kz H;have m1:=MH.manyA t h.m k k1 h.a' h.b' (λi hi1 hi2 x hx z hz1 hz=>by rw [ly] at hz;injection hz with hz;rw [<-hz];exact k3 i hi1 hi2 x hx);exact .eq2 (x:=k) (y:=0) (λc1=> .pure ⟨h.g,MH.done t m1 (P7 k1 h.a') h.b' (.inl c1)⟩) λc1=>H _ _ ⟨m1,Z7 c1,k1,λz hz=>k2 (k-1) (G0i (Z7 c1) Nat.one_pos) z hz⟩
    ·exact λkz=>⟨h.m,h.a,G5 _,λz hz=>k2 (pa-1) (by have:1<=pa:=h.a;omega) z hz⟩
   ·exact λc st3 h=>h.never h'.le
   ·intro c st3;revert c;refine Tb λr pa pb out mg ac bc h3=> ?_
    cases r with
    |some r=>exact .pure ⟨r,rfl,h3⟩
    |none=>exact .bind (Tm.modify (.pure (h3.2.at h3.1 λl=>by have n1:i+1+ia+ib<=a.size+b.size:=h.n;have n2:1+ja+jb<=ia+ib:=h'.n;dsimp only at l ⊢;omega)))
 ·exact λc st1 h=>h.never (K8 _ _)
 ·intro c st1;revert c;refine SZ λr ia ib out mg h=> ?_
  obtain⟨c,rfl,gl,wh⟩:=h;exact .pure (q c st1 gl wh)
end
section
variable {prog:Program}{w:World}{A:Around}{E:Value->Shared->Prop}{J:Shared->Prop}{κ:SortKind}{U:Keyed->Prop}{R:Keyed->Keyed->Bool}
def seg (l:List Keyed)(p n:Nat):List Keyed:=(l.drop p).take n
variable {n:Nat}
theorem Yf {l:List Keyed}{p i:Nat}(hi:i<n):(seg l p n)[i]? =l[p+i]? :=by
 unfold seg;rw [U3 hi,A4]
theorem ZQ {l:List Keyed}{p:Nat}(h:p+n<=l.length):(seg l p n).length=n:=by
 unfold seg;rw [D8,T3];omega
theorem Xx {l:List Keyed}{p:Nat}{x:Keyed}(h:x∈seg l p n):x∈l:=B3 (C0 h)
theorem Kx {left:Bool}{arr:Array Keyed}{y:Keyed}{base hint:Nat}{st:SortSt}{Q:Option Nat->SortSt->Prop}(ak:YM prog w A J κ U R)(kd:kindOf st=κ)(o:Ordd U R)(u: ∀x∈arr.toList,U x)(s:Srt R (seg arr.toList base n))(uy:U y)(hn:base+n<=arr.size)(hh:hint<n)
 (q: ∀k,k<=n->(∀x∈(seg arr.toList base n).take k,(if left=true then R x y else !R y x)=true)->(∀x∈(seg arr.toList base n).drop k,(if left=true then R x y else !R y x)=false)->Q (some k) st):Tm prog w A E J (gal left y arr base n hint) Q st:=by
 have ln:arr.toList.length=arr.size:=by simp
 have sl:(seg arr.toList base n).length=n:=ZQ (by omega);have us: ∀x∈seg arr.toList base n,U x:=λx hx=>u x (Xx hx)
 refine RB ak kd uy (λi hi=> ?_) (λi j hij hj h=> ?_) hh (λk k1 k2 k3=>q k k1 (λx hx=> ?_) (λx hx=> ?_))
 ·obtain⟨x,lx,ex⟩:=ZP (show base+i<arr.size by omega);exact⟨x,ex,u x (G9 lx)⟩
 ·obtain⟨x,lx,_⟩:=ZP (show base+i<arr.size by omega);obtain⟨z,lz,_⟩:=ZP (show base+j<arr.size by omega);have ux:=u x (G9 lx);have uz:=u z (G9 lz);have le:=ZO s o us hij (by rw [Yf (by omega)];exact lx) (by rw [Yf hj];exact lz);rw [ye lz] at h;rw [ye lx];cases left with
  |true=>
   have hz:R z y=true:=by simpa using h
   rcases o.neg z x y uz ux uy hz with v|v
   ·rw [le] at v;cases v
   ·simp [v]
  |false=>
   have hz:R y z=false:=by simpa using h
   have:=o.trans ux uz uy le hz;simp [this]
 ·obtain⟨i,hi,e⟩:=K3 hx;rw [D8,sl] at hi;have lx:arr.toList[base+i]? =some x:=by
   rw [<-Yf (n:=n) (by omega),G2 (by omega),<-e,List.getElem_take]
  have:=k2 i (by omega);rw [ye lx] at this;exact this
 ·obtain⟨i,hi,e⟩:=K3 hx;rw [T3,sl] at hi;have lx:arr.toList[base+(k+i)]? =some x:=by
   rw [<-Yf (n:=n) (by omega),G2 (by omega),<-e,List.getElem_drop]
  have:=k3 (k+i) (by omega) (by omega);rw [ye lx] at this;exact this
theorem QQ: ∀ (m:List Keyed) (arr:Array Keyed) (p d:Nat),p+d+m.length<=arr.size->((m.zipIdx d).foldl (λ(c:Array Keyed) (x:Keyed×Nat)=>c.setIfInBounds (p+x.2) x.1) arr).toList=arr.toList.take (p+d)++m++arr.toList.drop (p+d+m.length)
 | [],arr,p,d,_=>by simp
 |x::m,arr,p,d,h=>by
  rw [P6] at h;rw [List.zipIdx_cons,G0C];rw [QQ m _ p (d+1) (by rw [Y5];omega)];have hl:arr.toList.length=arr.size:=by simp
  rw [G0M];have e1:(arr.toList.set (p+d) x).take (p+(d+1))=arr.toList.take (p+d)++ [x]:=by
   rw [show p+(d+1)=p+d+1 by omega,F4,K4 (by omega)];rw [List.take_set_of_le (G5 _)];rfl
  have e2:(arr.toList.set (p+d) x).drop (p+(d+1)+m.length)=arr.toList.drop (p+d+(m.length+1)):=by
   rw [List.drop_set_of_lt (by omega),show p+(d+1)+m.length=p+d+(m.length+1) by omega]
  rw [e1,e2,P6];simp [G8]
end
section
variable {prog:Program}{w:World}{A:Around}{E:Value->Shared->Prop}{J:Shared->Prop}{κ:SortKind}{U:Keyed->Prop}{R:Keyed->Keyed->Bool}
theorem Tm.set {σ:Type}{st st':σ}{Q:PUnit->σ->Prop}(q:Q ⟨⟩ st'):Tm prog w A E J (MonadStateOf.set st':StateT σ Sem PUnit) Q st:=λs j=>by
 show wpAny _ _ ((StateT.set st':StateT σ Sem PUnit).run st) _ _ _;exact G3 ⟨q,j⟩
theorem RF (a:Array Keyed){p n:Nat}(h:p<=n):(a.extract p n).toList=seg a.toList p (n-p):=by
 rw [Q9,List.extract_eq_drop_take];rfl
theorem RG (o:Ordd U R){l:List Keyed}(u: ∀x∈l,U x)(s:Srt R l){z:Keyed}(hz:l[l.length-1]? =some z){x:Keyed}(hx:x∈l):R z x=false:=by
 obtain⟨i,hi,e⟩:=K3 hx;exact ZO s o u (show i<=l.length-1 by omega) (by rw [G2 hi,e]) hz
theorem QR (o:Ordd U R){l:List Keyed}(u: ∀x∈l,U x)(s:Srt R l){z:Keyed}(hz:l[0]? =some z){x:Keyed}(hx:x∈l):R x z=false:=by
 obtain⟨i,hi,e⟩:=K3 hx;exact ZO s o u (S9 _) hz (by rw [G2 hi,e])
theorem ZR (o:Ordd U R){X Y c:List Keyed}{k k2:Nat}{y0 x9:Keyed}(uX: ∀x∈X,U x)(uY: ∀x∈Y,U x)(sX:Srt R X)(sY:Srt R Y)(hy:Y[0]? =some y0)(hx:X[X.length-1]? =some x9)
 (f1: ∀x∈X.take k,R y0 x=false)(g2: ∀y∈Y.drop k2,R y x9=false)(hp:c.Perm (X.drop k++Y.take k2))(sc:Srt R c):(X.take k++c++Y.drop k2).Perm (X++Y)/\Srt R (X.take k++c++Y.drop k2):=by
 have uy0:=uY y0 (G9 hy);have ux9:=uX x9 (G9 hx);constructor
 ·have e:X++Y=X.take k++(X.drop k++Y.take k2)++Y.drop k2:=by
   rw [<-G8,R8,G8,R8]
  rw [e];exact(hp.append_left _).append_right _
 ·have inX: ∀x∈X.take k,∀z∈X.drop k,R z x=false:=λx hx z hz=>by
   have:Srt R (X.take k++X.drop k):=by rw [R8];exact sX
   exact(S6.mp this).2.2 x hx z hz
  have inY: ∀x∈Y.take k2,∀z∈Y.drop k2,R z x=false:=λx hx z hz=>by
   have:Srt R (Y.take k2++Y.drop k2):=by rw [R8];exact sY
   exact(S6.mp this).2.2 x hx z hz
  have xy: ∀x∈X.take k,∀y∈Y,R y x=false:=λx hx y hy'=>o.trans (uX x (C0 hx)) uy0 (uY y hy') (f1 x hx) (QR o uY sY hy hy')
  have yx: ∀x∈X,∀y∈Y.drop k2,R y x=false:=λx hx' y hy'=>o.trans (uX x hx') ux9 (uY y (B3 hy')) (RG o uX sX hx hx') (g2 y hy')
  have xc: ∀x∈X.take k,∀z∈c,R z x=false:=λx hx z hz=>by
   rcases D1.mp (hp.mem_iff.mp hz) with v|v
   ·exact inX x hx z v
   ·exact xy x hx z (C0 v)
  refine S6.mpr ⟨S6.mpr ⟨sX.sublist (A9 _ _),sc,xc⟩,sY.sublist (A1 _ _),λx hx y hy=> ?_⟩;rcases D1.mp hx with v|v
  ·exact xy x v y (B3 hy)
  ·rcases D1.mp (hp.mem_iff.mp v) with v|v
   ·exact yx x (B3 v) y hy
   ·exact inY x v y hy
theorem Ug (l:List Keyed){p n m:Nat}:l=l.take p++(seg l p n++seg l (p+n) m)++l.drop (p+n+m):=by
 unfold seg;have e1:(l.drop (p+n)).take m++l.drop (p+n+m)=l.drop (p+n):=by
  rw [show l.drop (p+n+m)=(l.drop (p+n)).drop m by rw [Q4],R8]
 have e2:(l.drop p).take n++l.drop (p+n)=l.drop p:=by
  rw [show l.drop (p+n)=(l.drop p).drop n by rw [Q4],R8]
 rw [G8,G8,e1,e2,R8]
theorem Sg {st:SortSt}{Q:Bool->SortSt->Prop}{i sa na pw sb nb pw2:Nat}(ak:YM prog w A J κ U R)(kd:kindOf st=κ)(o:Ordd U R)(u: ∀x∈(arrOf st).toList,U x)(p1:(pendingOf st)[i]? =some (sa,na,pw))(p2:(pendingOf st)[i+1]? =some (sb,nb,pw2))
 (hs:sa+na=sb)(n1:1<=na)(n2:1<=nb)(hz:sb+nb<=(arrOf st).size)(s1:Srt R (seg (arrOf st).toList sa na))(s2:Srt R (seg (arrOf st).toList sb nb))(hf:failedOf st=none)
 (q: ∀st' Z,kindOf st'=κ->failedOf st'=none->pendingOf st'=((pendingOf st).setIfInBounds i (sa,na+nb,pw)).eraseIdxIfInBounds (i+1)->(arrOf st').toList=(arrOf st).toList.take sa++Z++(arrOf st).toList.drop (sb+nb)->Z.Perm (seg (arrOf st).toList sa na++seg (arrOf st).toList sb nb)->Srt R Z->Q true st'):
 Tm prog w A E J (mergeAt' i) Q st:=by
 have ln:(arrOf st).toList.length=(arrOf st).size:=by simp
 unfold mergeAt';refine .bind (.get ?_);dsimp only;rw [p1,p2];dsimp only;refine .bind (Tm.set ?_);subst hs;have lX:(seg (arrOf st).toList sa na).length=na:=ZQ (by omega);have lY:(seg (arrOf st).toList (sa+na) nb).length=nb:=ZQ (by omega);have uX: ∀x∈seg (arrOf st).toList sa na,U x:=λx hx=>u x (Xx hx)
 have uY: ∀x∈seg (arrOf st).toList (sa+na) nb,U x:=λx hx=>u x (Xx hx)
 obtain⟨y0,ly0,ey0⟩:=ZP (arr:=arrOf st) (show sa+na<(arrOf st).size by omega);obtain⟨x9,lx9,ex9⟩:=ZP (arr:=arrOf st) (show sa+(na-1)<(arrOf st).size by omega);have hy:(seg (arrOf st).toList (sa+na) nb)[0]? =some y0:=by rw [Yf (by omega)];exact ly0
 have hx:(seg (arrOf st).toList sa na)[(seg (arrOf st).toList sa na).length-1]? =some x9:=by rw [lX,Yf (by omega)];exact lx9
 have uy0:=u y0 (G9 ly0);have ux9:=u x9 (G9 lx9);have c3:=Ug (arrOf st).toList (p:=sa) (n:=na) (m:=nb);have same: ∀ (st':SortSt),arrOf st'=arrOf st-> ∀k k2,(∀x∈(seg (arrOf st).toList sa na).take k,R y0 x=false)->(∀y∈(seg (arrOf st).toList (sa+na) nb).drop k2,R y x9=false)->(na<=k\/k2=0)->Srt R (seg (arrOf st).toList sa na++seg (arrOf st).toList (sa+na) nb):=λst' e k k2 f1 g2 h=>by
  have pl:(((seg (arrOf st).toList sa na).drop k++(seg (arrOf st).toList (sa+na) nb).take k2)).Perm ((seg (arrOf st).toList sa na).drop k++(seg (arrOf st).toList (sa+na) nb).take k2):= .refl _;have sc:Srt R ((seg (arrOf st).toList sa na).drop k++(seg (arrOf st).toList (sa+na) nb).take k2):=by
   rcases h with h|h
   ·rw [H0 (by omega),B2];exact s2.sublist (A9 _ _)
   ·rw [h,G0V,B7];exact s1.sublist (A1 _ _)
  have:=(ZR o uX uY s1 s2 hy hx f1 g2 pl sc).2;rw [<-G8,R8,G8,R8] at this;exact this
 refine .bind (.elem ey0 (.bind (Kx (left:=false) ak kd o u s1 uy0 (show sa+na<=(arrOf st).size by omega) (by omega) λk k1 f1 f2=> ?_)));have f1: ∀x∈(seg (arrOf st).toList sa na).take k,R y0 x=false:=λx hx=>by simpa using f1 x hx
 have f2: ∀x∈(seg (arrOf st).toList sa na).drop k,R y0 x=true:=λx hx=>by simpa using f2 x hx
 dsimp only
 by_cases z1:na-k=0
 ·rw [if_pos (by simpa using z1)];refine .pure (q _ (seg (arrOf st).toList sa na++seg (arrOf st).toList (sa+na) nb) kd hf rfl c3 (.refl _) (same st rfl k nb f1 (λy hy=> ?_) (.inl (by omega))));rw [H0 (by omega)] at hy;cases hy
 rw [if_neg (by simpa using z1)];refine .bind (.elem (show _=some x9 by rw [show sa+k+(na-k)-1=sa+(na-1) by omega];exact ex9) (.bind (Kx (left:=true) ak kd o u s2 ux9 (show sa+na+nb<=(arrOf st).size by omega) (by omega) λk2 j1 g1 g2=> ?_)));have g1: ∀y∈(seg (arrOf st).toList (sa+na) nb).take k2,R y x9=true:=λx hx=>by simpa using g1 x hx
 have g2: ∀y∈(seg (arrOf st).toList (sa+na) nb).drop k2,R y x9=false:=λx hx=>by simpa using g2 x hx
 dsimp only
 by_cases z2:k2=0
 ·rw [if_pos (by simpa using z2)];exact .pure (q _ _ kd hf rfl c3 (.refl _) (same st rfl k k2 f1 g2 (.inr z2)))
 rw [if_neg (by simpa using z2)];have eX:((arrOf st).extract (sa+k) (sa+na)).toList=(seg (arrOf st).toList sa na).drop k:=by
  rw [RF _ (by omega)];unfold seg;rw [G1z,Q4,show sa+na-(sa+k)=na-k by omega]
 have eY:((arrOf st).extract (sa+na) (sa+na+k2)).toList=(seg (arrOf st).toList (sa+na) nb).take k2:=by
  rw [RF _ (by omega)];unfold seg;rw [G1A,show sa+na+k2-(sa+na)=min k2 nb by omega]
 have sx:((arrOf st).extract (sa+k) (sa+na)).size=na-k:=by rw [<-P2,eX,T3,lX]
 have sy:((arrOf st).extract (sa+na) (sa+na+k2)).size=k2:=by rw [<-P2,eY,D8,lY];omega
 have hx2: ∀z,((seg (arrOf st).toList sa na).drop k)[((seg (arrOf st).toList sa na).drop k).length-1]? =some z->z=x9:=λz hz'=>by
  rw [T3,A4,lX,show k+(na-k-1)=na-1 by omega] at hz';rw [lX] at hx;rw [hx] at hz';injection hz' with hz';exact hz'.symm
 have hy2: ∀z,((seg (arrOf st).toList (sa+na) nb).take k2)[0]? =some z->z=y0:=λz hz'=>by
  rw [U3 (by omega),hy] at hz';injection hz' with hz';exact hz'.symm
 have put: ∀c:Array Keyed,yL R ((arrOf st).extract (sa+k) (sa+na)) ((arrOf st).extract (sa+na) (sa+na+k2)) c->(c.toList.zipIdx.foldl (λ(d:Array Keyed) (x:Keyed×Nat)=>d.setIfInBounds (sa+k+x.2) x.1) (arrOf st)).toList=(arrOf st).toList.take sa++((seg (arrOf st).toList sa na).take k++c.toList++(seg (arrOf st).toList (sa+na) nb).drop k2)++(arrOf st).toList.drop (sa+na+nb):=λc wh=>by
  have lc:c.toList.length=na-k+k2:=by
   rw [wh.1.length_eq,G6,P2,P2,sx,sy]
  have:=QQ c.toList (arrOf st) (sa+k) 0 (by omega);rw [this,lc,W9,show sa+k+(na-k+k2)=sa+na+k2 by omega];have e1:(arrOf st).toList.take (sa+k)=(arrOf st).toList.take sa++(seg (arrOf st).toList sa na).take k:=by
   unfold seg;rw [G1A,U7 k1,List.take_add]
  have e2:(arrOf st).toList.drop (sa+na+k2)=(seg (arrOf st).toList (sa+na) nb).drop k2++(arrOf st).toList.drop (sa+na+nb):=by
   unfold seg;have h1:((arrOf st).toList.drop (sa+na)).drop k2=(((arrOf st).toList.drop (sa+na)).take nb++((arrOf st).toList.drop (sa+na)).drop nb).drop k2:=by rw [R8]
   rw [J5 (by rw [D8,T3];omega),Q4,Q4] at h1;exact h1
  rw [e1,e2];simp [G8]
 have jr: ∀c:Array Keyed,yL R ((arrOf st).extract (sa+k) (sa+na)) ((arrOf st).extract (sa+na) (sa+na+k2)) c->_:=λc wh=>ZR o (c:=c.toList) uX uY s1 s2 hy hx f1 g2 (by have:=wh.1;rw [eX,eY] at this;exact this) wh.2
 by_cases z3:na-k<=k2
 ·rw [if_pos z3];refine .bind (Se ak kd ⟨o,λx hx=> ?_,λx hx=> ?_,?_,?_,λy hy z hz'=> ?_⟩ (by rw [sx];omega) (by rw [sy];omega) (λy z hy' hz'=> ?_) λc st' gl wh=> .bind (Tm.modify (.bind (.get (.pure ?_)))))
  ·rw [eX] at hx;exact uX x (B3 hx)
  ·rw [eY] at hx;exact uY x (C0 hx)
  ·rw [eX];exact s1.sublist (A1 _ _)
  ·rw [eY];exact s2.sublist (A9 _ _)
  ·rw [eY] at hy;rw [eX] at hz';rw [hx2 z hz'];exact g1 y hy
  ·rw [eY] at hy';rw [eX] at hz';rw [hy2 y hy'];exact f2 z (G9 hz')
  ·have e:failedOf st'=none:=gl.2.2.2.trans hf;show Q (failedOf st').isNone _;rw [e];refine q _ _ (gl.1.trans kd) e gl.2.2.1 ?_ (jr c wh).1 (jr c wh).2;have ea:arrOf st'=arrOf st:=gl.2.1;show (c.toList.zipIdx.foldl _ (arrOf st')).toList=_;rw [ea];exact put c wh
 ·rw [if_neg z3];refine .bind (Sf ak kd ⟨o,λx hx=> ?_,λx hx=> ?_,?_,?_,λz hz' y hy'=> ?_⟩ (by rw [sx];omega) (by rw [sy];omega) (λy z hy' hz'=> ?_) λc st' gl wh=> .bind (Tm.modify (.bind (.get (.pure ?_)))))
  ·rw [eX] at hx;exact uX x (B3 hx)
  ·rw [eY] at hx;exact uY x (C0 hx)
  ·rw [eX];exact s1.sublist (A1 _ _)
  ·rw [eY];exact s2.sublist (A9 _ _)
  ·rw [eY] at hy';rw [eX] at hz';rw [hy2 y hy'];exact f2 z hz'
  ·rw [eY] at hy';rw [eX,sx] at hz';have:=hx2 z (by rw [T3,lX];exact hz');rw [this];exact g1 y (G9 hy')
  ·have e:failedOf st'=none:=gl.2.2.2.trans hf;show Q (failedOf st').isNone _;rw [e];refine q _ _ (gl.1.trans kd) e gl.2.2.1 ?_ (jr c wh).1 (jr c wh).2;have ea:arrOf st'=arrOf st:=gl.2.1;show (c.toList.zipIdx.foldl _ (arrOf st')).toList=_;rw [ea];exact put c wh
end
section
variable {prog:Program}{w:World}{A:Around}{E:Value->Shared->Prop}{J:Shared->Prop}{κ:SortKind}{U:Keyed->Prop}{R:Keyed->Keyed->Bool}
def Lies (st:SortSt)(P Z S:List Keyed):Prop:=(arrOf st).toList=P++Z++S
def Arr (st st':SortSt):Prop:=kindOf st'=kindOf st/\pendingOf st'=pendingOf st/\failedOf st'=failedOf st/\gallopOf st'=gallopOf st
theorem Arr.refl (st:SortSt):Arr st st:=⟨rfl,rfl,rfl,rfl⟩
theorem NX (xs:Array Keyed)(P Z S:List Keyed)(h:xs.toList=P++Z++S):(mirror xs P.length (P.length+Z.length) ((P.length+Z.length-P.length) / 2)).toList=P++Z.reverse++S:=by
 have hl:xs.size=P.length+Z.length+S.length:=by rw [<-P2,h];simp [G1d]
 refine U9 λk=> ?_
 rw [R4,getElem?_mirror_all (by omega)]
 by_cases c:P.length<=k/\k<P.length+Z.length
 ·rw [if_pos c,<-R4,h,G8,G8];have e1:(P++(Z++S))[P.length+(P.length+Z.length)-1-k]? =Z[P.length+Z.length-1-k]? :=by
   rw [P8 (by omega),S0 (by omega)]
   congr 1;omega
  have e2:(P++(Z.reverse++S))[k]? =Z[P.length+Z.length-1-k]? :=by
   rw [P8 (by omega),S0 (by rw [T8];omega),W8 (by omega)]
   congr 1;omega
  rw [e1,e2]
 ·rw [if_neg c,<-R4,h,G8,G8]
  by_cases d:k<P.length
  ·rw [S0 d,S0 d]
  ·have e1:(P++(Z++S))[k]? =S[k-P.length-Z.length]? :=by
    rw [P8 (by omega),P8 (by omega)]
   have e2:(P++(Z.reverse++S))[k]? =S[k-P.length-Z.length]? :=by
    rw [P8 (by omega),P8 (by rw [T8];omega),T8]
   rw [e1,e2]
theorem Tm.rev {st:SortSt}{P Z S:List Keyed}{i j:Nat}{Q:Unit->SortSt->Prop}(h:Lies st P Z S)(hi:i=P.length)(hj:j=P.length+Z.length)(q: ∀st',Arr st st'->Lies st' P Z.reverse S->Q () st'):Tm prog w A E J (reverseSlice' i j) Q st:=by
 rw [reverseSlice'_eq];subst hi hj;exact .modify (q _ ⟨rfl,rfl,rfl,rfl⟩ (NX _ P Z S h))
theorem Tm.ltAt {st:SortSt}{x y:Keyed}{i j:Nat}{Q:Option Bool->SortSt->Prop}(ak:YM prog w A J κ U R)(kd:kindOf st=κ)(hx:(arrOf st).toList[i]? =some x)(hy:(arrOf st).toList[j]? =some y)(ux:U x)(uy:U y)(q:Q (some (R x y)) st):Tm prog w A E J (ltAt' i j) Q st:=by
 rw [ltAt'_eq];exact .bind (.get (.bind (.elem (by rw [<-R4];exact hx) (.bind (.elem (by rw [<-R4];exact hy) (.lt ak kd ux uy q))))))
abbrev Dsc (R:Keyed->Keyed->Bool)(l:List Keyed):Prop:=l.Pairwise λx y=>R x y=false
theorem Lu {l:List Keyed}(d:Dsc R l):Srt R l.reverse:=G0p.mpr d
theorem NY (o:Ordd U R){l:List Keyed}{x y:Keyed}(u: ∀z∈l++ [x],U z)(uy:U y)(s:Srt R (l++ [x]))(h:R y x=false):Srt R (l++ [x]++ [y]):=by
 refine S6.mpr ⟨s,N5 _ _,λz hz v hv=> ?_⟩;rw [G7.mp hv];have ux:=u x (by simp);rcases D1.mp hz with w|w
 ·exact o.trans (u z hz) ux uy ((S6.mp s).2.2 z w x (by simp)) h
 ·rw [G7.mp w];exact h
theorem NZ {l m:List Keyed}(s:Dsc R (l++m))(alike: ∀x∈m,∀y∈m,R x y=false):Dsc R (l++m.reverse):=by
 obtain⟨a,b,c⟩:=S6.mp s;refine S6.mpr ⟨a,?_,λx hx y hy=>c x hx y (L9.mp hy)⟩;rw [N7];intro i j hi hj _;exact alike _ (L9.mp (N3 hi)) _ (L9.mp (N3 hj))
end
section
variable {prog:Program}{w:World}{A:Around}{E:Value->Shared->Prop}{J:Shared->Prop}{κ:SortKind}{U:Keyed->Prop}{R:Keyed->Keyed->Bool}
theorem Arr.trans {a b c:SortSt}(x:Arr a b)(y:Arr b c):Arr a c:=⟨y.1.trans x.1,y.2.1.trans x.2.1,y.2.2.1.trans x.2.2.1,y.2.2.2.trans x.2.2.2⟩
variable {P Z:List Keyed}
theorem Lies.rest {st:SortSt}{S:List Keyed}(h:Lies st P Z S){i:Nat}:(arrOf st).toList[P.length+Z.length+i]? =S[i]? :=by
 rw [h,P8 (by rw [G6];omega),G6]
 congr 1;omega
theorem Lies.end {st:SortSt}{W S:List Keyed}{x:Keyed}(h:Lies st P (W++ [x]) S):(arrOf st).toList[P.length+W.length]? =some x:=by
 rw [h,G8,P8 (by omega),G8,P8 (by omega)];simp
theorem Yg {l:List Keyed}(h:1<=l.length): ∃W x,l=W++ [x]:=by
 rcases List.eq_nil_or_concat l with e|⟨W,x,e⟩
 ·subst e;simp at h
 ·exact⟨W,x,by rw [e,List.concat_eq_append]⟩
structure Fall (R:Keyed->Keyed->Bool)(T Z1 Z2:List Keyed)(n:Nat):Prop where
 len:(Z1++Z2).length=n
 perm:(Z1++Z2).Perm (T.take n)
 dsc:Dsc R (Z1++Z2)
 alike: ∀x∈Z2,∀y∈Z2,R x y=false
 ne:1<=Z2.length
variable {T:List Keyed}{n:Nat}
theorem Fall.turn {Z1 Z2:List Keyed}(f:Fall R T Z1 Z2 n):Fall R T Z1 Z2.reverse n:=
 ⟨by have:=f.len;simp only [G6,T8] at this ⊢;exact this,((E6 Z2).append_left Z1).trans f.perm,NZ f.dsc f.alike,λx hx y hy=>f.alike x (L9.mp hx) y (L9.mp hy),by rw [T8];exact f.ne⟩
theorem Fall.mem {Z1 Z2:List Keyed}(f:Fall R T Z1 Z2 n){x:Keyed}(h:x∈Z1++Z2):x∈T:=C0 (f.perm.mem_iff.mp h)
theorem vP {y:Keyed}(h:Z.Perm (T.take n))(hy:T[n]? =some y):(Z++ [y]).Perm (T.take (n+1)):=by
 rw [ZN hy];exact h.append_right _
theorem Fall.below (o:Ordd U R){T Z1 Z2:List Keyed}{n:Nat}{x y:Keyed}(u: ∀x∈T,U x)(f:Fall R T Z1 Z2 n)(hx:x∈Z2)(hy:T[n]? =some y)(h:R y x=true):Fall R T (Z1++Z2) [y] (n+1):=by
 have uy:=u y (G9 hy);have ux:=u x (f.mem (D1.mpr (.inr hx)));have xy:=o.asym y x uy ux h;refine⟨by rw [G6,f.len];rfl,vP f.perm hy,?_,λa ha b hb=> ?_,by simp⟩
 ·refine S6.mpr ⟨f.dsc,N5 _ _,λz hz v hv=> ?_⟩;rw [G7.mp hv];have uz:=u z (f.mem hz);have zx:R z x=false:=by
   rcases D1.mp hz with w|w
   ·exact(S6.mp f.dsc).2.2 z w x hx
   ·exact f.alike z w x hx
  exact o.trans uy ux uz xy zx
 ·rw [G7.mp ha,G7.mp hb];exact o.refl uy
theorem Fall.like (o:Ordd U R){T Z1 Z2:List Keyed}{n:Nat}{x y:Keyed}(u: ∀x∈T,U x)(f:Fall R T Z1 Z2 n)(hx:x∈Z2)(hy:T[n]? =some y)(h:R y x=false)(h':R x y=false):Fall R T Z1 (Z2++ [y]) (n+1):=by
 have uy:=u y (G9 hy);have ux:=u x (f.mem (D1.mpr (.inr hx)));have zy: ∀z∈Z1++Z2,R z y=false:=λz hz=>by
  have uz:=u z (f.mem hz);have zx:R z x=false:=by
   rcases D1.mp hz with w|w
   ·exact(S6.mp f.dsc).2.2 z w x hx
   ·exact f.alike z w x hx
  exact o.trans uy ux uz h' zx
 have yz: ∀z∈Z2,R y z=false:=λz hz=>o.trans (u z (f.mem (D1.mpr (.inr hz)))) ux uy (f.alike x hx z hz) h
 refine⟨by rw [<-G8,G6,f.len];rfl,by rw [<-G8];exact vP f.perm hy,?_,λa ha b hb=> ?_,by simp⟩
 ·rw [<-G8];refine S6.mpr ⟨f.dsc,N5 _ _,λz hz v hv=> ?_⟩;rw [G7.mp hv];exact zy z hz
 ·rcases D1.mp ha with p|p<;>rcases D1.mp hb with r|r
  ·exact f.alike a p b r
  ·rw [G7.mp r];exact zy a (D1.mpr (.inr p))
  ·rw [G7.mp p];exact yz b r
  ·rw [G7.mp p,G7.mp r];exact o.refl uy
theorem Lies.more {st:SortSt}{m:Nat}{y:Keyed}(L:Lies st P Z (T.drop m))(hy:T[m]? =some y):Lies st P (Z++ [y]) (T.drop (m+1)):=by
 unfold Lies at L ⊢;rw [L,zd hy];simp
theorem Lies.part {st:SortSt}{Z1 Z2 S:List Keyed}:Lies st P (Z1++Z2) S↔Lies st (P++Z1) Z2 S:=by
 unfold Lies;simp only [List.append_assoc]
theorem Lies.two {st:SortSt}{m:Nat}{y:Keyed}(L:Lies st P Z (T.drop m))(lz:Z.length=m)(m1:1<=m)(hy:T[m]? =some y):(arrOf st).toList[P.length+m]? =some y/\ ∃W x,Z=W++ [x]/\(arrOf st).toList[P.length+m-1]? =some x:=by
 have a:=L.rest (i:=0);rw [A4,lz,W9,W9,hy] at a;obtain⟨W,x,e⟩:=Yg (l:=Z) (by omega);subst e;refine⟨a,W,x,rfl,?_⟩;rw [<-L.end]
 congr 1
 rw [G6,E8] at lz;omega
section
variable {σ ρ τ α:Type}{st:σ}
theorem Tm.rangeN {f:Nat->Option ρ×τ->StateT σ Sem (ForInStep (Option ρ×τ))}(I:Nat->τ->σ->Prop){Q:τ->σ->Prop}{Q':Option ρ×τ->σ->Prop}{a b:Nat}{c:τ}(hab:a<=b)(h:I a c st)(step: ∀i c st,i<b->I i c st->Tm prog w A E J (f i (none,c)) (λr st'=>match r with| .done c'=>c'.1=none/\Q c'.2 st'| .yield c'=>c'.1=none/\I (i+1) c'.2 st') st)(fin: ∀c st,I b c st->Q c st)(q: ∀c st,Q c st->Q' (none,c) st):Tm prog w A E J (forIn [a:b] ((none:Option ρ),c) f) Q' st:=by
 refine Tm.mono (Tm.range (λi c st=>c.1=none/\I i c.2 st) (Q:=λc st=>c.1=none/\Q c.2 st) hab ⟨rfl,h⟩ ?_ λc st h=>⟨h.1,fin _ _ h.2⟩) ?_
 ·rintro i ⟨_,c⟩ st hi ⟨rfl,h⟩;exact(step i c st hi h).mono λr st' x=>by cases r<;>exact x
 ·rintro ⟨_,c⟩ st ⟨rfl,h⟩;exact q c st h
theorem Tm.fork {c:Prop}[Decidable c]{t e:StateT σ Sem α}{Q:α->σ->Prop}(I:σ->Prop)(G: ∀s,I s->Tm prog w A E J e Q s)(T:c->(∀s,I s->Tm prog w A E J e Q s)->Tm prog w A E J t Q st)(F: ¬c->I st):Tm prog w A E J (if c then t else e) Q st:=
 .if2 (λh=>T h G) λh=>G _ (F h)
end
section
variable {st:SortSt}{P T Z:List Keyed}{m:Nat}
theorem RH {f:Nat->Option (Option Nat)×Nat->StateT SortSt Sem (ForInStep (Option (Option Nat)×Nat))}{G:Nat->Option Bool->StateT SortSt Sem (ForInStep (Option (Option Nat)×Nat))}{Q:Option (Option Nat)×Nat->SortSt->Prop}(ak:YM prog w A J κ U R)(kd:kindOf st=κ)(o:Ordd U R)(u: ∀x∈T,U x)
 (hf: ∀i n,f i (none,n)=ltAt' (P.length+n) (P.length+n-1) >>= G n)(hG: ∀n,G n (some true)=Pure.pure (.done (none,n))/\G n (some false)=Pure.pure (.yield (none,n+1)))
 (m1:1<=m)(m2:m<=T.length)(L:Lies st P Z (T.drop m))(p:Z.Perm (T.take m))(s:Srt R Z)
 (q: ∀n Z',1<=n->n<=T.length->Lies st P Z' (T.drop n)->Z'.Perm (T.take n)->Srt R Z'->(∀y,T[n]? =some y-> ∃W x,Z'=W++ [x]/\R y x=true)->Q (none,n) st):Tm prog w A E J (forIn [m:T.length] ((none:Option (Option Nat)),m) f) Q st:=by
 refine Tm.rangeN (λi c s=>s=st/\c=i/\1<=i/\ ∃Z,Lies st P Z (T.drop i)/\Z.Perm (T.take i)/\Srt R Z) (Q:=λn s=>s=st/\Q (none,n) st) m2 ⟨rfl,rfl,m1,Z,L,p,s⟩ ?_ ?_ λc s h=>h.1 ▸ h.2
 ·rintro _ i _ hi ⟨rfl,rfl,i1,Z,L,p,s⟩;have hy:=G2 hi;obtain⟨ay,W,x,rfl,ax⟩:=L.two (by rw [p.length_eq,D8,U7 (D4 hi)]) i1 hy;have uy:=u _ (N3 hi);have uZ: ∀z∈W++ [x],U z:=λz hz=>u z (C0 (p.mem_iff.mp hz))
  rw [hf];refine .bind (.ltAt ak kd ay ax uy (uZ x (by simp)) ?_);cases hb:R T[i] x with
  |true=>
   rw [(hG _).1];exact .pure ⟨rfl,rfl,q i _ i1 (D4 hi) L p s λy h=>⟨W,x,rfl,by rw [hy] at h;injection h with h;rw [<-h];exact hb⟩⟩
  |false=>
   rw [(hG _).2];exact .pure ⟨rfl,rfl,rfl,G0u (S9 _),_,L.more hy,vP p hy,NY o uZ uy s hb⟩
 ·rintro _ _ ⟨rfl,rfl,i1,Z,L,p,s⟩;exact⟨rfl,q _ Z i1 (G5 _) L p s λy h=>absurd (P0.mp h).1 (S7 _)⟩
end
def Fell (R:Keyed->Keyed->Bool)(P T:List Keyed)(st st':SortSt)(n k:Nat):Prop:=Arr st st'/\ ∃Z1 Z2,Lies st' P (Z1++Z2) (T.drop n)/\Fall R T Z1 Z2 n/\Z2.length=k+1
theorem Fell.rev {st s2:SortSt}{k:Nat}{Q:Unit->SortSt->Prop}(h:Fell R P T st s2 n k)(q: ∀s3,Fell R P T st s3 n k->Q () s3):Tm prog w A E J (reverseSlice' (P.length+n-(k+1)) (P.length+n)) Q s2:=by
 obtain⟨ar,Z1,Z2,L,F,l⟩:=h;have l12:=F.len;rw [G6] at l12;exact .rev (Lies.part.mp L) (by rw [G6];omega) (by rw [G6];omega) λs3 ar3 L3=>q s3 ⟨ar.trans ar3,Z1,_,Lies.part.mpr L3,F.turn,by rw [T8];exact l⟩
theorem Ba {st:SortSt}{Q:Option Nat->SortSt->Prop}(ak:YM prog w A J κ U R)(kd:kindOf st=κ)(o:Ordd U R)(u: ∀x∈T,U x)(h:Lies st P [] T)(h1:1<=T.length)
 (q: ∀n st' Z,1<=n->n<=T.length->Arr st st'->Lies st' P Z (T.drop n)->Z.Perm (T.take n)->Srt R Z->Q (some n) st'):Tm prog w A E J (countRun' P.length T.length) Q st:=by
 refine .bind (RH (m:=1) (Z:=T.take 1) ak kd o u (by exact λi n=>rfl) (by exact λn=>⟨rfl,rfl⟩) (G5 _) h1 ?_ (.refl _) ?_ λn Z n1 n2 L p sr br=> ?_)
 ·unfold Lies at h ⊢;rw [h,B7,G8,R8]
 ·match T,h1 with
  |x::r,_=>exact N5 _ _
 refine .eq2 (x:=n) (y:=T.length) (λz1=> .pure (q n _ _ n1 n2 (Arr.refl _) L p sr)) λz1=> ?_
 have n3:n<T.length:=L0 n2 z1;have hy:=G2 n3;have uZ: ∀z∈Z,U z:=λz hz=>u z (C0 (p.mem_iff.mp hz))
 obtain⟨W,x,e,yx⟩:=br _ hy;have lz:Z.length=n:=by rw [p.length_eq,D8,U7 n2]
 have xin:x∈Z:=by rw [e];simp
 have xl:Z[Z.length-1]? =some x:=by rw [e];simp
 have F0:(∀p∈Z,∀r∈Z,R p r=false)->Fall R T [] Z n:=λal=>⟨lz,p,N7.mpr λi j hi hj _=>al _ (N3 hi) _ (N3 hj),al,by rw [lz];exact n1⟩
 refine Tm.fork (λs=>Fell R P T st s (n+1) 0) ?_ ?_ ?_
 ·intro s1 F1;refine .bind (.rule (.bind (Tm.rangeN (λi c s=>c.1=i/\Fell R P T st s c.1 c.2) (Q:=λc s=>c.1<=T.length/\Fell R P T st s c.1 c.2) n3 ⟨rfl,F1⟩ ?_ (λc s h=>⟨Q0 h.1,h.2⟩) ?_)))
  ·intro i c s2 hi h2;have hc:c.1<T.length:=by rw [h2.1];exact hi
   have hy:=G2 hc;have uy:=u _ (N3 hc);obtain⟨e1,ar2,Z1,Z2,L2,F2,l2⟩:=h2;have l12:=F2.len;obtain⟨ay,W,x,eW,ax⟩:=L2.two l12 (by rw [<-l12,G6,l2];exact W7 _ _) hy;have xin:x∈Z2:=by
    obtain⟨V,v,e⟩:=Yg F2.ne;have e':=congrArg List.getLast? eW;rw [e,<-G8,G1v,G1v] at e';injection e' with e'
    rw [e,<-e'];simp
   have ux:=u x (F2.mem (D1.mpr (.inr xin)));refine .bind (.ltAt ak (ar2.1.trans kd) ay ax uy ux (.if2 (c:=R _ x=true) (λhb=> ?_) λhb=> .bind (.ltAt ak (ar2.1.trans kd) ax ay ux uy (.if2 (c:=R x _=true) (λhc'=> .pure ⟨rfl,D4 hc,ar2,Z1,Z2,L2,F2,l2⟩) λhc'=> ?_))))
   ·refine Tm.fork (λs=>Fell R P T st s (c.1+1) 0) (λs h=> .pure ⟨rfl,congrArg Nat.succ e1,h⟩) (λzq H=> .bind ?_) λzq=>⟨ar2,Z1++Z2,[T[c.1]],L2.more hy,F2.below o u xin hy hb,rfl⟩
    have l12':=l12;rw [G6] at l12';exact .rev (Lies.part.mp L2) (by rw [List.length_append];dsimp only;omega) (by rw [List.length_append];dsimp only;omega) λs3 ar3 L3=>H s3 ⟨ar2.trans ar3,Z1++Z2.reverse,[T[c.1]],(Lies.part.mpr L3).more hy,F2.turn.below o u (List.mem_reverse.mpr xin) hy hb,rfl⟩
   ·refine .pure ⟨rfl,congrArg Nat.succ e1,ar2,Z1,Z2++ [T[c.1]],?_,F2.like o u xin hy (K0.mpr hb) (K0.mpr hc'),by rw [G6,l2];rfl⟩;rw [<-G8];exact L2.more hy
  ·intro c s2 h2;refine Tm.fork (λs=> ∃k,Fell R P T st s c.1 k) ?_ (λzq H=> .bind (h2.2.rev λs h=>H s ⟨_,h⟩)) λzq=>⟨_,h2.2⟩
   intro s3 h3;obtain⟨k,ar3,Z1,Z2,L3,F3,l3⟩:=h3;have m1:1<=c.1:=by rw [<-F3.len,G6,l3];exact W7 _ _
   exact .bind (.rev L3 rfl (by rw [F3.len]) λs4 ar4 L4=> .bind (RH ak ((ar3.trans ar4).1.trans kd) o u (by exact λi n=>rfl) (by exact λn=>⟨rfl,rfl⟩) m1 h2.1 L4 ((E6 _).trans F3.perm) (Lu F3.dsc) λn Z n1 n2 L p sr _=> .pure (q n s4 Z n1 n2 (ar3.trans ar4) L p sr)))
 ·intro z2 H;obtain⟨x0,V,eV⟩: ∃x0 V,Z=x0::V:=by
   match Z,xin with
   |a::r,_=>exact⟨a,r,rfl⟩
  have ux:=uZ x xin;have ux0:=uZ x0 (by rw [eV];simp);have a0:(arrOf st).toList[P.length]? =some x0:=by rw [L,eV];simp
  have a1:(arrOf st).toList[P.length+n-1]? =some x:=by
   obtain⟨_,W',x',e',ax⟩:=L.two lz n1 hy;rw [e] at e';rw [ax,(List.append_inj' e' rfl).2 |> λh=>(List.cons.inj h).1]
  exact .bind (.ltAt ak kd a0 a1 ux0 ux (.if2 (c:=R x0 x=true) (λ_=> .pure (q n _ _ n1 n2 (Arr.refl _) L p sr)) λhr0=> .bind (.rev L rfl (by rw [lz]) λs1 ar1 L1=>H s1 ⟨ar1,_,_,L1.more hy,Fall.below o u (Z1:= []) (Fall.turn (F0 λp hp r hr=>o.trans (uZ r hr) ux (uZ p hp) (RG o uZ sr xl hr) (K0.mpr λv=>(o.neg p x0 x (uZ p hp) ux0 ux v).elim (λv=>by rw [QR o uZ sr (z:=x0) (by rw [eV];rfl) hp] at v;cases v) hr0))) (L9.mpr xin) hy yx,rfl⟩)))
 ·intro z2;have w0:W= []:=O8 (by rw [e,G6,E8] at lz;omega);have f: ∀z∈Z,z=x:=λz hz=>by rw [e,w0] at hz;exact G7.mp hz
  exact⟨Arr.refl st,_,_,L.more hy,Fall.below o u (Z1:= []) (F0 λp hp r hr=>by rw [f p hp,f r hr];exact o.refl (uZ x xin)) xin hy yx,rfl⟩
end
section
variable {prog:Program}{w:World}{A:Around}{E:Value->Shared->Prop}{J:Shared->Prop}{κ:SortKind}{U:Keyed->Prop}{R:Keyed->Keyed->Bool}
theorem Bb (xs:Array Keyed)(P Z S:List Keyed)(y:Keyed)(l:Nat)(hl:l<=Z.length)(h:xs.toList=P++Z++y::S):(bubble xs (P.length+Z.length) (Z.length-l)).toList=P++(Z.take l++ [y]++Z.drop l)++S:=by
 have hz:xs.size=P.length+Z.length+(S.length+1):=by rw [<-P2,h];simp [G1d]
 have at_: ∀k,xs[k]? =(P++Z++y::S)[k]? :=λk=>by rw [<-R4,h]
 refine U9 λk=> ?_
 rw [R4,getElem?_bubble (by omega) _ (by omega)];have lt:(Z.take l).length=l:=by rw [D8];omega
 by_cases c:k=P.length+Z.length-(Z.length-l)
 ·rw [if_pos c,at_];have e1:(P++Z++y::S)[P.length+Z.length]? =some y:=by
   rw [P8 (by rw [G6];omega),G6,Nat.sub_self];rfl
  have e2:(P++(Z.take l++ [y]++Z.drop l)++S)[k]? =some y:=by
   rw [G8,P8 (by omega),G8,G8,P8 (by rw [lt];omega),lt,show k-P.length-l=0 by omega];rfl
  rw [e1,e2]
 ·rw [if_neg c]
  by_cases d:P.length+Z.length-(Z.length-l)<k/\k<=P.length+Z.length
  ·rw [if_pos d,at_];have e1:(P++Z++y::S)[k-1]? =Z[k-1-P.length]? :=by
    rw [G8,P8 (by omega),S0 (by omega)]
   have e2:(P++(Z.take l++ [y]++Z.drop l)++S)[k]? =Z[k-1-P.length]? :=by
    rw [G8,P8 (by omega),S0 (by simp only [G6,D8,T3,E8];omega),P8 (by rw [G6,lt];simp;omega),G6,lt,A4]
    congr 1;simp;omega
   rw [e1,e2]
  ·rw [if_neg d,at_]
   by_cases f:k<P.length+l
   ·have e1:(P++Z++y::S)[k]? =(P++Z.take l)[k]? :=by
     have:P++Z++y::S=P++Z.take l++(Z.drop l++y::S):=by
      rw [G8,G8,<-G8 (Z.take l),R8]
     rw [this,S0 (by rw [G6,lt];omega)]
    have e2:(P++(Z.take l++ [y]++Z.drop l)++S)[k]? =(P++Z.take l)[k]? :=by
     have:P++(Z.take l++ [y]++Z.drop l)++S=P++Z.take l++([y]++Z.drop l++S):=by simp [G8]
     rw [this,S0 (by rw [G6,lt];omega)]
    rw [e1,e2]
   ·have e1:(P++Z++y::S)[k]? =S[k-P.length-Z.length-1]? :=by
     rw [P8 (by rw [G6];omega),G6,List.getElem?_cons,if_neg (by omega)]
     congr 1;omega
    have e2:(P++(Z.take l++ [y]++Z.drop l)++S)[k]? =S[k-P.length-Z.length-1]? :=by
     rw [P8 (by simp only [G6,D8,T3,E8];omega)]
     congr 1;simp only [G6,D8,T3,E8];omega
    rw [e1,e2]
theorem Lv (o:Ordd U R){Z:List Keyed}{y:Keyed}{l:Nat}(u: ∀z∈Z,U z)(uy:U y)(s:Srt R Z)(a: ∀z∈Z.take l,R y z=false)(b: ∀z∈Z.drop l,R y z=true):Srt R (Z.take l++ [y]++Z.drop l):=by
 have s':Srt R (Z.take l++Z.drop l):=by rw [R8];exact s
 obtain⟨s1,s2,s3⟩:=S6.mp s';refine S6.mpr ⟨S6.mpr ⟨s1,N5 _ _,λx hx z hz=> ?_⟩,s2,λx hx z hz=> ?_⟩
 ·rw [G7.mp hz];exact a x hx
 ·rcases D1.mp hx with v|v
  ·exact s3 x v z hz
  ·rw [G7.mp v];exact o.asym y z uy (u z (B3 hz)) (b z hz)
theorem Sh {st:SortSt}{Q:Bool->SortSt->Prop}{P T Z:List Keyed}{n k:Nat}(ak:YM prog w A J κ U R)(kd:kindOf st=κ)(o:Ordd U R)(u: ∀x∈T,U x)(h:Lies st P Z (T.drop k))(hp:Z.Perm (T.take k))(hs:Srt R Z)(k1:1<=k)(kn:k<=n)(hn:n<=T.length)
 (q: ∀st' Z',Arr st st'->Lies st' P Z' (T.drop n)->Z'.Perm (T.take n)->Srt R Z'->Q true st'):Tm prog w A E J (binarySort' P.length n k) Q st:=by
 unfold binarySort';refine .bind (Tm.mono (Tm.range (λi c s1=>Arr st s1/\c.1=none/\1<=i/\ ∃Z,Lies s1 P Z (T.drop i)/\Z.Perm (T.take i)/\Srt R Z) (Q:=λc s1=>Arr st s1/\c.1=none/\ ∃Z,Lies s1 P Z (T.drop n)/\Z.Perm (T.take n)/\Srt R Z) (by omega) ⟨Arr.refl st,rfl,by omega,Z,by rw [Nat.max_eq_left k1];exact h,by rw [Nat.max_eq_left k1];exact hp,hs⟩ ?_ ?_) ?_)
 ·rintro i ⟨r,c2⟩ s1 hi ⟨ar,hr,i1,Z,L,p,s⟩;dsimp only at hr ⊢;subst hr;obtain⟨y,hy⟩: ∃y,T[i]? =some y:=⟨_,G2 (by omega)⟩;have uy:=u y (G9 hy);have lz:Z.length=i:=by rw [p.length_eq,D8];omega
  have uZ: ∀z∈Z,U z:=λz hz=>u z (C0 (p.mem_iff.mp hz))
  have ay:(arrOf s1).toList[P.length+i]? =some y:=by
   have:=L.rest (i:=0);rw [A4,lz] at this;rw [W9] at this;rw [this];exact hy
  have az: ∀m,m<i-> ∃z,Z[m]? =some z/\(arrOf s1).toList[P.length+m]? =some z:=λm hm=>by
   refine⟨Z[m],G2 (by omega),?_⟩;rw [L,G8,P8 (by omega),S0 (by omega),G1c,G2 (by omega)]
  refine .bind (Tm.mono (Tm.range (λj c s2=>s2=s1/\c.1=none/\c.2.1<=c.2.2/\c.2.2<=i/\(∀z∈Z.take c.2.1,R y z=false)/\(∀z∈Z.drop c.2.2,R y z=true)/\c.2.2-c.2.1+j<=i) (Q:=λc s2=>s2=s1/\c.1=none/\c.2.1<=i/\(∀z∈Z.take c.2.1,R y z=false)/\(∀z∈Z.drop c.2.1,R y z=true)) (Nat.zero_le _) ⟨rfl,rfl,Nat.zero_le _,Nat.le_refl _,λz hz=> ?_,λz hz=> ?_,by dsimp only;omega⟩ ?_ ?_) ?_)
  ·dsimp only at hz;rw [List.take_zero] at hz;cases hz
  ·dsimp only at hz;rw [List.drop_eq_nil_of_le (by omega)] at hz;cases hz
  ·rintro j ⟨r,l,v⟩ _ hj ⟨rfl,hr,b1,b2,b3,b4,b5⟩;dsimp only at hr b1 b2 b3 b4 b5 ⊢;subst hr
   by_cases c1:l>=v
   ·rw [if_pos c1];have:l=v:=by omega
    subst this;exact .pure ⟨rfl,rfl,b2,b3,b4⟩
   rw [if_neg c1];obtain⟨z,hz,ez⟩:=az ((l+v) / 2) (by omega);have uz:=uZ z (G9 hz);refine .bind (.ltAt ak (ar.1.trans kd) ay ez uy uz ?_);dsimp only;cases hb:R y z with
   |true=>
    rw [if_pos rfl];refine .pure ⟨rfl,rfl,by dsimp only;omega,by dsimp only;omega,b3,λx hx=> ?_,by dsimp only;omega⟩;dsimp only at hx;have zx:R x z=false:=by
     obtain⟨t,ht,e⟩:=K3 hx;rw [T3] at ht;exact ZO s o uZ (show (l+v) / 2<=(l+v) / 2+t by omega) hz (by rw [G2 (by omega),<-e,List.getElem_drop])
    rcases o.neg y x z uy (uZ x (B3 hx)) uz hb with w|w
    ·exact w
    ·rw [zx] at w;cases w
   |false=>
    rw [if_neg (by decide)];refine .pure ⟨rfl,rfl,by dsimp only;omega,b2,λx hx=> ?_,b4,by dsimp only;omega⟩;dsimp only at hx;have xz:R z x=false:=by
     obtain⟨t,ht,e⟩:=K3 hx;rw [D8] at ht;exact ZO s o uZ (show t<=(l+v) / 2 by omega) (by rw [G2 (by omega),<-e,List.getElem_take]) hz
    exact o.trans (uZ x (C0 hx)) uz uy xz hb
  ·rintro ⟨r,l,v⟩ _ ⟨rfl,hr,b1,b2,b3,b4,b5⟩;dsimp only at hr b1 b2 b3 b4 b5 ⊢;have:l=v:=by omega
   subst this;exact⟨rfl,hr,b2,b3,b4⟩
  ·rintro ⟨r,l,v⟩ s2 ⟨rfl,hr,b2,b3,b4⟩;dsimp only at hr b2 b3 b4 ⊢;subst hr;dsimp only;refine .bind ?_;show Tm prog w A E J (moveDown' (P.length+i) (P.length+l)) _ _;rw [moveDown'_eq];refine .modify (.pure ⟨ar.trans ⟨rfl,rfl,rfl,rfl⟩,rfl,by omega,Z.take l++ [y]++Z.drop l,?_,?_,Lv o uZ uy s b3 b4⟩)
   ·have:=Bb (arrOf s2) P Z (T.drop (i+1)) y l (by omega) (by rw [<-zd hy];exact L);rw [lz] at this;rw [show P.length+i-(P.length+l)=i-l by omega];exact this
   ·refine List.Perm.trans ?_ (vP p hy);rw [G8];have e:Z++ [y]=Z.take l++(Z.drop l++ [y]):=by rw [<-G8,R8]
    rw [e];exact(W6).append_left _
 ·rintro ⟨r,c2⟩ s1 ⟨ar,hr,i1,Z,L,p,s⟩;exact⟨ar,hr,Z,L,p,s⟩
 ·rintro ⟨r,c2⟩ s1 ⟨ar,hr,Z,L,p,s⟩;dsimp only at hr ⊢;subst hr;exact .pure (q s1 Z ar L p s)
end
section
variable {prog:Program}{w:World}{A:Around}{E:Value->Shared->Prop}{J:Shared->Prop}{κ:SortKind}{U:Keyed->Prop}{R:Keyed->Keyed->Bool}
def Stk (R:Keyed->Keyed->Bool)(l:List Keyed):List (Nat×Nat×Nat)->Nat->Nat->Prop
 | [],s,e=>s=e
 |(p,n,_)::rest,s,e=>p=s/\1<=n/\Srt R (seg l p n)/\Stk R l rest (s+n) e
variable {l:List Keyed}
theorem Stk.le: ∀ {pl:List (Nat×Nat×Nat)} {s e:Nat},Stk R l pl s e->s+pl.length<=e
 | [],s,e,h=>by cases h;simp
 |(p,n,_)::rest,s,e,⟨_,n1,_,h⟩=>by have:=Stk.le h;simp only [P6];omega
theorem Bc {l':List Keyed}{p n e:Nat}(h:l.take e=l'.take e)(he:p+n<=e):seg l p n=seg l' p n:=by
 have cut: ∀k:List Keyed,seg k p n=seg (k.take e) p n:=λk=>by
  unfold seg;rw [G1z,G1A,U7 (by omega)]
 rw [cut l,cut l',h]
theorem Stk.same {l':List Keyed}: ∀ {pl:List (Nat×Nat×Nat)} {s e:Nat},Stk R l pl s e->l.take e=l'.take e->Stk R l' pl s e
 | [],s,e,h,_=>h
 |(p,n,_)::rest,s,e,⟨a,b,c,d⟩,h=>by
  have:=d.le;exact⟨a,b,by rw [<-Bc h (by omega)];exact c,d.same h⟩
theorem Stk.shift {l':List Keyed}: ∀ {pl:List (Nat×Nat×Nat)} {s e:Nat},Stk R l pl s e->l.drop s=l'.drop s->Stk R l' pl s e
 | [],s,e,h,_=>h
 |(p,n,_)::rest,s,e,⟨a,b,c,d⟩,h=>by
  subst a;refine⟨rfl,b,by unfold seg at c ⊢;rw [<-h];exact c,d.shift ?_⟩;rw [<-Q4,<-Q4,h]
theorem Stk.append: ∀ {a b:List (Nat×Nat×Nat)} {s e:Nat},Stk R l (a++b) s e↔ ∃m,Stk R l a s m/\Stk R l b m e
 | [],b,s,e=>⟨λh=>⟨s,rfl,h⟩,λ⟨m,h,h'⟩=>by cases h;exact h'⟩
 |(p,n,w)::a,b,s,e=>by
  constructor
  ·rintro ⟨x,y,z,h⟩;obtain⟨m,h1,h2⟩:=Stk.append.mp h;exact⟨m,⟨x,y,z,h1⟩,h2⟩
  ·rintro ⟨m,⟨x,y,z,h1⟩,h2⟩;exact⟨x,y,z,Stk.append.mpr ⟨m,h1,h2⟩⟩
structure Bt (R:Keyed->Keyed->Bool)(κ:SortKind)(l0:List Keyed)(lo:Nat)(st:SortSt):Prop where
 kind:kindOf st=κ
 failed:failedOf st=none
 perm:(arrOf st).toList.Perm l0
 stk:Stk R (arrOf st).toList (pendingOf st).toList 0 lo
variable {l0:List Keyed}{lo:Nat}
theorem Bt.size {st:SortSt}(b:Bt R κ l0 lo st):(arrOf st).size=l0.length:=by rw [<-P2,b.perm.length_eq]
theorem Bt.merge {st:SortSt}{Q:Bool->SortSt->Prop}{i:Nat}(ak:YM prog w A J κ U R)(o:Ordd U R)(u: ∀x∈l0,U x)(b:Bt R κ l0 lo st)(hlo:lo<=l0.length)(hi:i+1<(pendingOf st).size)
 (q: ∀st',Bt R κ l0 lo st'->(pendingOf st').size+1=(pendingOf st).size->(arrOf st').toList.drop lo=(arrOf st).toList.drop lo->Q true st'):Tm prog w A E J (mergeAt' i) Q st:=by
 have lp:(pendingOf st).toList.length=(pendingOf st).size:=by simp
 obtain⟨⟨sa,na,pw⟩,hx⟩: ∃x,(pendingOf st).toList[i]? =some x:=⟨_,G2 (by omega)⟩;obtain⟨⟨sb,nb,pw2⟩,hy⟩: ∃y,(pendingOf st).toList[i+1]? =some y:=⟨_,G2 (by omega)⟩;have e:(pendingOf st).toList=(pendingOf st).toList.take i++(sa,na,pw)::(sb,nb,pw2)::(pendingOf st).toList.drop (i+2):=by
  rw [<-zd hy,<-zd hx,R8]
 have stk:=b.stk;rw [e] at stk;obtain⟨m,k1,em,n1,s1,eb,n2,s2,k2⟩:=Stk.append.mp stk;subst em;subst eb;have le:=k2.le;have sz:=b.size;have hz:sa+na+nb<=(arrOf st).size:=by omega
 have ln:(arrOf st).toList.length=(arrOf st).size:=by simp
 refine Sg ak b.kind o (λx hx=>u x (b.perm.mem_iff.mp hx)) (by rw [<-R4];exact hx) (by rw [<-R4];exact hy) rfl n1 n2 hz s1 s2 b.failed λst' Z kd hf hp ha pz sz'=> ?_
 have hpl:(pendingOf st').toList=(pendingOf st).toList.take i++(sa,na+nb,pw)::(pendingOf st).toList.drop (i+2):=by
  rw [hp,Array.eraseIdxIfInBounds_eq,dif_pos (by rw [Y5];exact hi),Array.toList_eraseIdx,G0M];generalize (pendingOf st).toList.drop (i+2)=B at e ⊢;have li:((pendingOf st).toList.take i).length=i:=by rw [D8];omega
  generalize (pendingOf st).toList.take i=A at e li ⊢;rw [e];subst li;simp [List.set_append,List.eraseIdx_append];intro z;omega
 have lZ:Z.length=na+nb:=by rw [pz.length_eq,G6,ZQ (by omega),ZQ (by omega)]
 have lt:((arrOf st).toList.take sa).length=sa:=by rw [D8];omega
 refine q st' ⟨kd,hf,?_,?_⟩ ?_ ?_
 ·rw [ha];refine List.Perm.trans ?_ b.perm;have c3:=Ug (arrOf st).toList (p:=sa) (n:=na) (m:=nb);have pp:=(pz.append_left ((arrOf st).toList.take sa)).append_right ((arrOf st).toList.drop (sa+na+nb));rw [<-c3] at pp;exact pp
 ·rw [hpl,ha];refine Stk.append.mpr ⟨sa,k1.same ?_,rfl,by omega,?_,?_⟩
  ·rw [G8,J6 (by omega),D9 (l:=(arrOf st).toList.take sa) (by omega)]
  ·unfold seg;rw [G8,J5 (by omega),H0 (by omega),B2,J6 (by omega),D9 (by omega)];exact sz'
  ·rw [<-G1d];refine k2.shift ?_;have:((arrOf st).toList.take sa++Z).length=sa+na+nb:=by rw [G6,lt,lZ];omega
   rw [J5 (by omega),H0 (as:=(arrOf st).toList.take sa++Z) (by omega),B2]
 ·rw [<-P2,<-P2,hpl];have:(pendingOf st).toList.length=((pendingOf st).toList.take i++(sa,na,pw)::(sa+na,nb,pw2)::(pendingOf st).toList.drop (i+2)).length:=congrArg List.length e;rw [this];simp only [G6,P6];omega
 ·rw [ha];have c1:((arrOf st).toList.take sa++Z).length=sa+na+nb:=by rw [G6,lt,lZ];omega
  have c2:sa+na+nb<=lo:=by omega
  rw [List.drop_append,H0 (as:=(arrOf st).toList.take sa++Z) (by omega),B2,Q4,c1]
  congr 1;omega
theorem Bt.run {Z:List Keyed}{n:Nat}{s1 s2:SortSt}(b:Bt R κ l0 lo s1)(hlo:lo<=l0.length)(ar:Arr s1 s2)(L:Lies s2 ((arrOf s1).toList.take lo) Z (((arrOf s1).toList.drop lo).drop n))(p:Z.Perm (((arrOf s1).toList.drop lo).take n))(sr:Srt R Z)(hn:n<=l0.length-lo):Bt R κ l0 lo s2/\Srt R (seg (arrOf s2).toList lo n):=by
 have ln:(arrOf s1).toList.length=l0.length:=b.perm.length_eq;have lP:((arrOf s1).toList.take lo).length=lo:=by rw [D8];omega
 have lZ:Z.length=n:=by rw [p.length_eq,D8,T3];omega
 have e:(arrOf s2).toList=(arrOf s1).toList.take lo++Z++((arrOf s1).toList.drop lo).drop n:=L;refine⟨⟨ar.1.trans b.kind,ar.2.2.1.trans b.failed,?_,?_⟩,?_⟩
 ·rw [e];refine List.Perm.trans ?_ b.perm;have pp:=(p.append_left ((arrOf s1).toList.take lo)).append_right (((arrOf s1).toList.drop lo).drop n);rw [G8 _ (((arrOf s1).toList.drop lo).take n),R8,R8] at pp;exact pp
 ·rw [ar.2.1];refine b.stk.same ?_;rw [e,G8,J6 (by omega),D9 (l:=(arrOf s1).toList.take lo) (by omega)]
 ·rw [e];unfold seg;rw [G8,J5 (by omega),H0 (by omega),B2,J6 (by omega),D9 (by omega)];exact sr
theorem Bt.push {n:Nat}{s:SortSt}(b:Bt R κ l0 lo s)(n1:1<=n)(g:Srt R (seg (arrOf s).toList lo n)):Bt R κ l0 (lo+n) (setPending s ((pendingOf s).push (lo,n,0))):=by
 refine⟨b.kind,b.failed,b.perm,?_⟩;show Stk R (arrOf s).toList ((pendingOf s).push (lo,n,0)).toList 0 (lo+n);rw [F7];exact Stk.append.mpr ⟨lo,b.stk,rfl,n1,g,rfl⟩
theorem Stk.mod {f:Nat×Nat×Nat->Nat×Nat×Nat}(hf: ∀x,(f x).1=x.1/\(f x).2.1=x.2.1): ∀ {pl:List (Nat×Nat×Nat)} {k s e:Nat},Stk R l pl s e->Stk R l (pl.modify k f) s e
 | [],k,s,e,h=>by rw [List.modify_nil];exact h
 |(p,n,w)::rest,0,s,e,⟨a,b,c,d⟩=>by
  rw [List.modify_zero_cons];have e1:=(hf (p,n,w)).1;have e2:=(hf (p,n,w)).2;generalize f (p,n,w)=x at e1 e2;obtain⟨p',n',w'⟩:=x;dsimp only at e1 e2;subst e1 e2;exact⟨a,b,c,d⟩
 |(p,n,w)::rest,k+1,s,e,⟨a,b,c,d⟩=>by
  rw [List.modify_succ_cons];exact⟨a,b,c,d.mod hf⟩
theorem Bt.mod {k:Nat}{s:SortSt}{f:Nat×Nat×Nat->Nat×Nat×Nat}(b:Bt R κ l0 lo s)(hf: ∀x,(f x).1=x.1/\(f x).2.1=x.2.1):Bt R κ l0 lo (setPending s ((pendingOf s).modify k f)):=by
 refine⟨b.kind,b.failed,b.perm,?_⟩;show Stk R (arrOf s).toList ((pendingOf s).modify k f).toList 0 lo;rw [Array.toList_modify];exact b.stk.mod hf
theorem Bd (c:Bool)(x:Nat):(if c=true then x-1 else x)<=x:=by cases c<;>simp
theorem Lw {st:SortSt}{Q:Unit->SortSt->Prop}(ak:YM prog w A J κ U R)(o:Ordd U R)(u: ∀x∈l0,U x)(kd:kindOf st=κ)(hf:failedOf st=none)(hp:pendingOf st= #[])(hl:(arrOf st).toList=l0)
 (q: ∀st',failedOf st'=none->(arrOf st').toList.Perm l0->Srt R (arrOf st').toList->Q () st'):Tm prog w A E J sortRuns' Q st:=by
 have b0:Bt R κ l0 0 st:=⟨kd,hf,by rw [hl],by rw [hp];rfl⟩;rw [sortRuns'_eq];refine .bind (.get ?_);dsimp only;rw [b0.size];generalize minRun' l0.length l0.length 0=mr;refine .bind (Tm.mono (Tm.range (λi c s1=>c.1=none/\c.2<=l0.length/\i<=c.2/\Bt R κ l0 c.2 s1) (Q:=λc s1=>c.1=none/\Bt R κ l0 l0.length s1) (S9 _) ⟨rfl,S9 _,S9 _,b0⟩ ?_ ?_) ?_)
 ·rintro i ⟨r,lo⟩ s1 hi ⟨hr,h1,h2,b⟩;dsimp only at hr h1 h2 b ⊢;subst hr
  by_cases z1:lo>=l0.length
  ·rw [if_pos z1];have:lo=l0.length:=by omega
   subst this;exact .pure ⟨rfl,b⟩
  rw [if_neg z1];have ln:(arrOf s1).toList.length=l0.length:=b.perm.length_eq;have lP:((arrOf s1).toList.take lo).length=lo:=by rw [D8];omega
  have lT:((arrOf s1).toList.drop lo).length=l0.length-lo:=by rw [T3,ln]
  have uT: ∀x∈(arrOf s1).toList.drop lo,U x:=λx hx=>u x (b.perm.mem_iff.mp (B3 hx))
  have ct:=λ{Q}=>Ba (prog:=prog) (w:=w) (A:=A) (E:=E) (J:=J) (Q:=Q) (st:=s1) (P:=(arrOf s1).toList.take lo) (T:=(arrOf s1).toList.drop lo) ak b.kind o uT (by unfold Lies;rw [List.append_nil,List.take_append_drop]) (by omega)
  rw [lP,lT] at ct;refine .bind (ct λn s2 Z n1 n2 ar L p sr=> ?_);dsimp only
  by_cases z2:n<mr
  ·rw [if_pos z2];have bn:=λ{Q}=>Sh (prog:=prog) (w:=w) (A:=A) (E:=E) (J:=J) (Q:=Q) (st:=s2) (P:=(arrOf s1).toList.take lo) (T:=(arrOf s1).toList.drop lo) (n:=min (l0.length-lo) mr) ak (ar.1.trans b.kind) o uT L p sr n1 (by omega) (by omega)
   rw [lP] at bn;refine .bind (.rule (.bind (bn λs3 Z3 ar3 L3 p3 sr3=> ?_)));obtain⟨B,G⟩:=b.run h1 (ar.trans ar3) L3 p3 sr3 (by omega);have N1:1<=min (l0.length-lo) mr:=by omega
   rw [if_neg (by decide)];refine .bind (.get ?_);split
   ·refine .bind (Tm.mono (Tm.range (λj c s4=>c.1=none/\Bt R κ l0 lo s4/\Srt R (seg (arrOf s4).toList lo (min (l0.length-lo) mr))) (Q:=λc s4=>c.1=none/\Bt R κ l0 lo s4/\Srt R (seg (arrOf s4).toList lo (min (l0.length-lo) mr))) (S9 _) ⟨rfl,B,G⟩ ?_ (λ_ _ h=>h)) ?_)
    ·rintro j ⟨r,c⟩ s4 hj ⟨hr,B4,G4⟩;dsimp only at hr ⊢;subst hr;refine .bind (.get ?_);split
     ·rename_i older heq;split
      ·exact .pure ⟨rfl,B4,G4⟩
      ·have two:(pendingOf s4).size>1:=Q3 λz=>by rw [if_neg z] at heq;cases heq
       refine .bind (Bt.merge ak o u B4 h1 (by omega) λs5 B5 _ dr=> ?_);refine .pure ⟨rfl,B5,?_⟩;unfold seg at G4 ⊢;rw [dr];exact G4
     ·exact .pure ⟨rfl,B4,G4⟩
    ·rintro ⟨r,c⟩ s4 ⟨hr,B4,G4⟩;dsimp only at hr ⊢;subst hr;dsimp only;refine .bind (.modify (.bind (.modify (.pure ⟨rfl,?_,?_,Bt.push (Bt.mod B4 λx=>⟨rfl,rfl⟩) N1 G4⟩))))
     ·dsimp only;omega
     ·dsimp only;omega
   ·refine .bind (.modify (.pure ⟨rfl,?_,?_,Bt.push B N1 G⟩))
    ·dsimp only;omega
    ·dsimp only;omega
  ·rw [if_neg z2];obtain⟨B,G⟩:=b.run h1 ar L p sr n2;have N1:=n1;refine .bind (.get ?_);split
   ·refine .bind (Tm.mono (Tm.range (λj c s4=>c.1=none/\Bt R κ l0 lo s4/\Srt R (seg (arrOf s4).toList lo (n))) (Q:=λc s4=>c.1=none/\Bt R κ l0 lo s4/\Srt R (seg (arrOf s4).toList lo (n))) (S9 _) ⟨rfl,B,G⟩ ?_ (λ_ _ h=>h)) ?_)
    ·rintro j ⟨r,c⟩ s4 hj ⟨hr,B4,G4⟩;dsimp only at hr ⊢;subst hr;refine .bind (.get ?_);split
     ·rename_i older heq;split
      ·exact .pure ⟨rfl,B4,G4⟩
      ·have two:(pendingOf s4).size>1:=Q3 λz=>by rw [if_neg z] at heq;cases heq
       refine .bind (Bt.merge ak o u B4 h1 (by omega) λs5 B5 _ dr=> ?_);refine .pure ⟨rfl,B5,?_⟩;unfold seg at G4 ⊢;rw [dr];exact G4
     ·exact .pure ⟨rfl,B4,G4⟩
    ·rintro ⟨r,c⟩ s4 ⟨hr,B4,G4⟩;dsimp only at hr ⊢;subst hr;dsimp only;refine .bind (.modify (.bind (.modify (.pure ⟨rfl,?_,?_,Bt.push (Bt.mod B4 λx=>⟨rfl,rfl⟩) N1 G4⟩))))
     ·dsimp only;omega
     ·dsimp only;omega
   ·refine .bind (.modify (.pure ⟨rfl,?_,?_,Bt.push B N1 G⟩))
    ·dsimp only;omega
    ·dsimp only;omega
 ·rintro ⟨r,lo⟩ s1 ⟨hr,h1,h2,b⟩;dsimp only at hr h1 h2 b;have:lo=l0.length:=by omega
  subst this;exact⟨hr,b⟩
 ·rintro ⟨r,lo⟩ s1 ⟨hr,b⟩;dsimp only at hr ⊢;subst hr;dsimp only;have le0:=b.stk.le;have lp0:(pendingOf s1).toList.length=(pendingOf s1).size:=by simp
  refine .bind (Tm.mono (Tm.range (λj c s4=>c.1=none/\Bt R κ l0 l0.length s4/\(pendingOf s4).size+j<=l0.length) (Q:=λc s4=>c.1=none/\Bt R κ l0 l0.length s4/\(pendingOf s4).size<=1) (S9 _) ⟨rfl,b,by omega⟩ ?_ (λc s4 ⟨x,y,z⟩=>⟨x,y,by omega⟩)) ?_)
  ·rintro j ⟨r,c⟩ s4 hj ⟨hr,B4,z4⟩;dsimp only at hr ⊢;subst hr;refine .bind (.get ?_)
   by_cases c1:(pendingOf s4).size<=1
   ·rw [if_pos c1];exact .pure ⟨rfl,B4,c1⟩
   rw [if_neg c1];refine .bind (Bt.merge ak o u B4 (G5 _) (A3 (Nat.add_le_add_right (Bd _ _) 1) (by omega)) λs5 B5 z5 _=> ?_);exact .pure ⟨rfl,B5,by omega⟩
  ·rintro ⟨r,c⟩ s4 ⟨hr,B4,z4⟩;dsimp only at hr ⊢;subst hr;refine .pure (q s4 B4.failed B4.perm ?_);have stk:=B4.stk;have ln:(arrOf s4).toList.length=l0.length:=B4.perm.length_eq;have lp:(pendingOf s4).toList.length=(pendingOf s4).size:=by simp
   generalize (pendingOf s4).toList=pl at stk lp
   match pl,stk,lp with
   | [],e,_=>
    have:l0.length=0:=e.symm;have:(arrOf s4).toList= []:=V1.mp (by omega);rw [this];exact .nil
   | [(p,n,_)],⟨e1,_,sr,e2⟩,_=>
    subst e1;have en:n=l0.length:=by have:0+n=l0.length:=e2;omega
    unfold seg at sr;rw [G1y,D9 (by omega)] at sr;exact sr
   |_::_::_,_,h=>simp only [P6] at h;omega
end
section
variable {prog:Program}{w:World}{A:Around}{E:Value->Shared->Prop}{s:Shared}{κ:SortKind}{U:Keyed->Prop}{R:Keyed->Keyed->Bool}
def Ly (s:Shared)(a:Addr)(h':Heap):Prop:= ∀b o,b≠a->s.heap.get? b=some o->h'.get? b=some o
def Only (s:Shared)(h':Heap):Shared->Prop:=λs'=> ∃tk,s'= {s with heap:=h',toks:=tk}
theorem Be {M:Model}{α β:Type}{c:Prop}[Decidable c]{m m':Sem α}{F:α->Sem β}{Q:β->Shared->Prop}(h:wpAny M A ((if c then m else m') >>= F) Q E s):wpAny M A (if c then m >>= F else m' >>= F) Q E s:=by
 by_cases z:c
 ·rw [if_pos z] at h ⊢;exact h
 ·rw [if_neg z] at h ⊢;exact h
theorem Jl (vs:List Value):(vs.toArray.zip vs.toArray).toList=vs.map λv=>(v,v):=by
 rw [Array.toList_zip];show vs.zip vs=_
 induction vs with
 |nil=>rfl
 |cons v vs ih=>rw [Z0,ih,T9]
theorem QU {a:Addr}{vs:List Value}{n:Nat}{P:Fin->Shared->Prop}(ho:s.heap.get? a=some (seqObj "list" vs.toArray n))(hz:vs.length<=sizeLine)
 (hk:2<=vs.length-> ∀h',Ly s a h'->wpAny (model prog w) A (keyKind' vs.toArray) (λk s'=>k=κ/\Only s h' s') (λ_ _=>False) {s with heap:=h'})(ak: ∀h',Ly s a h'->YM prog w A (Only s h') κ U R)(o:Ordd U R)(u: ∀v∈vs,U (v,v))
 (q: ∀ (out:List Value) (c tk:Nat) (h':Heap),Ly s a h'->h'.get? a=some (seqObj "list" out.toArray c)->out.Perm vs->(out.map λv=>(v,v)).Pairwise (λx y=>R y x=false)->P (.done (.ret .none)) {s with heap:=h',toks:=tk}):
 wpAny (model prog w) A (Builtin.«list.sort» ⟨[.ref a],[]⟩) P E s:=by
 have alt:=P1 ho;have sv:vs.toArray.size=vs.length:=D3 ..;rw [list_sort_plain];refine wpAny_bind (listItems_at ho rfl ?_);obtain⟨c1,ho1⟩: ∃c,(s.heap.update a (Obj.mapSeq λ_=>(#[]:Array Value))).get? a=some (seqObj "list" #[] c):=⟨_,get?_update_seq ho λ_=> #[]⟩;refine wpAny_bind (listUpdate_at ho rfl ?_ (by rw [sv];exact hz) (S9 _));refine wpAny_bind (seqEpoch_at ho1 rfl ?_);refine wpAny_bind (wpAny_newTuple ?_ hz);refine wpAny_bind (G1b ?_ (S9 _));refine N4 ?_;have past:Ly s a (((s.heap.update a (Obj.mapSeq λ_=>(#[]:Array Value))).push {cls:= .type "tuple",data:= .seq vs.toArray.toList.toArray}).push {cls:= .type "list",data:= .seq ([]:List Value).toArray}):=λb x ne e=>by
  refine G1 _ (G1 _ ?_);rw [G0F _ _ _ _ ne];exact e
 have ho3:=G1 ({cls:= .type "list",data:= .seq ([]:List Value).toArray}:Obj) (G1 ({cls:= .type "tuple",data:= .seq vs.toArray.toList.toArray}:Obj) ho1);revert past ho3;generalize ((s.heap.update a (Obj.mapSeq λ_=>(#[]:Array Value))).push ({cls:= .type "tuple",data:= .seq vs.toArray.toList.toArray}:Obj)).push ({cls:= .type "list",data:= .seq ([]:List Value).toArray}:Obj)=H3;intro past ho3;have kd:wpAny (model prog w) A (if vs.toArray.size<2 then pure general' else keyKind' vs.toArray) (λk s0=>(2<=vs.length->k=κ)/\Only s H3 s0) (λ_ _=>False) {s with heap:=H3}:=by
  by_cases c:vs.toArray.size<2
  ·rw [if_pos c];exact G3 ⟨λz=>by omega,s.toks,rfl⟩
  ·rw [if_neg c];exact R0 (hk (by omega) H3 past) (λk s0 x=>⟨λ_=>x.1,x.2⟩) λ_ _ e=>e
 have rn: ∀k s0,(2<=vs.length->k=κ)->Only s H3 s0->wpAny (model prog w) A ((if vs.toArray.size<2 then pure () else sortRuns':StateT SortSt Sem Unit).run (SortSt.mk' k (vs.toArray.zip vs.toArray) #[] 7 none)) (λr s'=>(failedOf r.2=none/\(arrOf r.2).toList.Perm (vs.map λv=>(v,v))/\Srt R (arrOf r.2).toList)/\Only s H3 s') E s0:=by
  intro k s0 ek j
  by_cases c:vs.toArray.size<2
  ·rw [if_pos c,StateT.run_pure];refine G3 ⟨⟨rfl,?_,?_⟩,j⟩
   ·show (vs.toArray.zip vs.toArray).toList.Perm _;rw [Jl]
   ·show Srt R (vs.toArray.zip vs.toArray).toList;rw [Jl];rw [sv] at c
    match vs,c with
    | [],_=>exact List.Pairwise.nil
    | [v],_=>exact N5 _ _
  ·rw [if_neg c];have ek:=ek (by omega);subst ek;refine Lw (E:=E) (ak H3 past) o (l0:=vs.map λv=>(v,v)) (st:=SortSt.mk' k (vs.toArray.zip vs.toArray) #[] 7 none) (λx hx=> ?_) rfl rfl rfl (Jl vs) (Q:=λ_ st'=>failedOf st'=none/\(arrOf st').toList.Perm (vs.map λv=>(v,v))/\Srt R (arrOf st').toList) (λst' a1 a2 a3=>⟨a1,a2,a3⟩) s0 j;obtain⟨v,hv,rfl⟩:=R7.mp hx;exact u v hv
 dsimp only;refine Be (wpAny_bind (R0 kd (λk s0 x=> ?_) λ_ _ e=>e.elim));refine wpAny_bind (R0 (rn k s0 x.1 x.2) ?_ λ_ _ e=>e);rintro ⟨⟨⟩,st'⟩ s1 ⟨⟨hf,hp,hs⟩,tk,rfl⟩;dsimp only;have eo:((arrOf st').map λx=>x.2)=((arrOf st').toList.map λx=>x.2).toArray:=by
  rw [<-Array.toList_map,Array.toArray_toList]
 have two:(arrOf st').toList=((arrOf st').toList.map λx=>x.2).map λv=>(v,v):=by
  rw [M9];refine(G1G _).symm.trans (B8 λx hx=> ?_);obtain⟨v,_,rfl⟩:=R7.mp (hp.mem_iff.mp hx);rfl
 have po:((arrOf st').toList.map λx=>x.2).Perm vs:=by
  have:=hp.map λx=>x.2
  rw [M9] at this;refine this.trans ?_;rw [show ((λx:Keyed=>x.2)∘λv:Value=>(v,v))=id from rfl,G1G]
 rw [two] at hs;rw [eo];generalize (arrOf st').toList.map (λx=>x.2)=out at hs po;obtain⟨c2,ho4⟩: ∃c,(H3.update a (Obj.mapSeq λ_=>out.toArray)).get? a=some (seqObj "list" out.toArray c):=⟨_,get?_update_seq ho3 λ_=>out.toArray⟩;refine wpAny_bind (seqEpoch_at (s:= {s with heap:=H3,toks:=tk}) ho3 rfl ?_);refine wpAny_bind (listUpdate_at (s:= {s with heap:=H3,toks:=tk}) ho3 rfl ?_ (S9 _) (by rw [D3,po.length_eq];exact Nat.le_succ_of_le hz));rw [hf];simp only [bne_self_eq_false,B1,G1r];refine G3 (q out c2 tk _ (λb x ne e=> ?_) ho4 po hs);rw [G0F _ _ _ _ ne];exact past b x ne e
abbrev yM (h h':Heap):Prop:= ∀b o,h.get? b=some o->h'.get? b=some o
theorem GZ {l:Addr}{vs:List Value}{Q:Value->Shared->Prop}(hl:s.heap.IsList l vs.toArray)(hz:vs.length<sizeLine)
 (hk:2<=vs.length-> ∀h',yM s.heap h'->wpAny (model prog w) A.in1.in1 (keyKind' vs.toArray) (λk s'=>k=κ/\Only s h' s') (λ_ _=>False) {s with heap:=h'})(ak: ∀h',yM s.heap h'->YM prog w A.in1.in1 (Only s h') κ U R)(o:Ordd U R)(u: ∀v∈vs,U (v,v))
 (q: ∀ (h1 h':Heap) (tk c:Nat) (out:List Value),yM s.heap h1->yM h1 h'->h'.get? h1.objs.size=some (seqObj "list" out.toArray c)->out.Perm vs->(out.map λv=>(v,v)).Pairwise (λx y=>R y x=false)->Q (.ref h1.objs.size) {s with heap:=h',toks:=tk}):
 wpAny (model prog w) A (call (.builtin "sorted") [.ref l]) Q E s:=by
 refine X5 kind_sorted plain_sorted entry_sorted (args_sorted1 _) (wpAny_bind (G3 (wpAny_bind (collect_list hl ?_ (by omega)))));have k1:yM s.heap ((s.heap.push (seqObj "list" #[] 0)).update s.heap.objs.size (Obj.mapSeq (· ++vs.toArray))):=λb x e=>by
  rw [G0F _ _ _ _ (R3 (P1 e))];exact G1 _ e
 revert k1;generalize (s.heap.push (seqObj "list" #[] 0)).update s.heap.objs.size (Obj.mapSeq (· ++vs.toArray))=H1;intro k1;have fresh:(H1.push (seqObj "list" vs.toArray 0)).get? H1.objs.size=some (seqObj "list" vs.toArray 0):=D0 _ rfl;have kp: ∀h',Ly {s with heap:=H1.push (seqObj "list" vs.toArray 0)} H1.objs.size h'->yM H1 h':=λh' p b x e=>p b x (R3 (P1 e)) (G1 _ e)
 refine wpAny_bind (G1b (wpAny_bind (N4 (C8 slot_list_sort ⟨_,fresh,rfl⟩ entry_list_sort (QU (s:= {s with heap:=H1.push (seqObj "list" vs.toArray 0)}) (κ:=κ) (U:=U) (R:=R) fresh (D4 hz) (λh2 h' p=>hk h2 h' λb x e=>kp h' p b x (k1 b x e)) (λh' p=>ak h' λb x e=>kp h' p b x (k1 b x e)) o u λout c tk h' p e1 e2 e3=>⟨_,rfl,?_⟩) (args_list_sort _)))) (D4 hz));exact G3 ⟨_,rfl,q H1 h' tk c out k1 (kp h' p) e1 e2 e3⟩
end
theorem yI: ∀a b:List Int,jI a b=true->jI b a=false
 | [],[],h=>rfl
 | [],_::_,_=>rfl
 |_::_,[],h=>by cases h
 |x::xs,y::ys,h=>by
  unfold jI at h ⊢
  by_cases e:x=y
  ·subst e;rw [if_pos rfl] at h ⊢;exact yI xs ys h
  ·rw [if_neg e] at h;rw [if_neg (Ne.symm e)];have:=N8 h;exact R9 (by omega)
theorem ZS: ∀a b c:List Int,jI a c=true->jI a b=true\/jI b c=true
 | [],[],c,h=> .inr h
 | [],_::_,_,_=> .inl rfl
 |_::_,_,[],h=>by cases h
 |x::xs,[],z::zs,h=> .inr rfl
 |x::xs,y::ys,z::zs,h=>by
  unfold jI at h ⊢
  by_cases e:x=z
  ·subst e;rw [if_pos rfl] at h
   by_cases f:x=y
   ·subst f;rw [if_pos rfl,if_pos rfl];exact ZS xs ys zs h
   ·rw [if_neg f,if_neg (Ne.symm f)]
    by_cases g:x<y
    ·exact .inl (R1 g)
    ·exact .inr (R1 (by omega))
  ·rw [if_neg e] at h;have lt:=N8 h
   by_cases f:x=y
   ·subst f;rw [if_neg e];exact .inr h
   ·rw [if_neg f]
    by_cases g:x<y
    ·exact .inl (R1 g)
    ·refine .inr ?_;rw [if_neg (by omega)];exact R1 (by omega)
theorem vd: ∀a b:List Int,jI a b=false->jI b a=false->a=b
 | [],[],_,_=>rfl
 | [],_::_,h,_=>by cases h
 |_::_,[],_,h=>by cases h
 |x::xs,y::ys,h,h'=>by
  unfold jI at h h'
  by_cases e:x=y
  ·subst e;rw [if_pos rfl] at h h';rw [vd xs ys h h']
  ·rw [if_neg e] at h;rw [if_neg (Ne.symm e)] at h';have:=G0R h;have:=G0R h';omega
theorem Uh {U:Keyed->Prop}(key:Value->List Int):Ordd U (λx y=>jI (key x.1) (key y.1)):=⟨λx y _ _ h=>yI _ _ h,λx y z _ _ _ h=>ZS _ _ _ h⟩
def IT (h:Heap)(v:Value)(ns:List Int):Prop:= ∃a its,v= .ref a/\IsTup h a its/\IntsAre its.toList ns
theorem IT.keeps {h h':Heap}{v:Value}{ns:List Int}(x:IT h v ns)(k:yM h h'):IT h' v ns:=let ⟨a,its,e,t,i⟩:=x;⟨a,its,e,t.keeps k,i⟩
theorem QV: ∀ {vs:List Value} {ns ms:List Int},IntsAre vs ns->IntsAre vs ms->ns=ms
 |_,_,_,.nil,.nil=>rfl
 |_,_,_,.cons n t a,.cons _ _ b=>by rw [QV a b]
theorem IT.one {h:Heap}{v:Value}{ns ms:List Int}(x:IT h v ns)(y:IT h v ms):ns=ms:=by
 obtain⟨a,its,rfl,⟨o,e,c,n,d⟩,i⟩:=x;obtain⟨a',its',e2,⟨o',e',c',n',d'⟩,i'⟩:=y;cases e2;rw [e] at e';cases e';rw [d] at d';cases d';exact QV i i'
open Classical in
noncomputable def jV (h:Heap)(v:Value):List Int:=if e: ∃ns,IT h v ns then e.choose else []
theorem IT.nums {h:Heap}{v:Value}{ns:List Int}(x:IT h v ns):jV h v=ns:=by
 have e: ∃ns,IT h v ns:=⟨ns,x⟩;unfold jV;rw [dif_pos e];exact e.choose_spec.one x
section
variable {prog:Program}{w:World}{A:Around}{E:Value->Shared->Prop}{s:Shared}
theorem vQ {α β:Type}{M:Model}{f:α->Sem β}(r:α->β): ∀ (l:List α) {Q:List β->Shared->Prop},(∀v∈l,∀Q':β->Shared->Prop,Q' (r v) s->wpAny M A (f v) Q' E s)->Q (l.map r) s->wpAny M A (l.mapM f) Q E s
 | [],_,_,q=>by
  rw [List.mapM_nil];exact G3 q
 |v::l,Q,hf,q=>by
  rw [List.mapM_cons];refine wpAny_bind (hf v P9 _ (wpAny_bind ?_));exact vQ r l (λu hu=>hf u (D5 _ hu)) (G3 q)
def zi (h:Heap):Value->Option Value
 | .ref a=>match h.get? a with
  |some o=>match o.data with
   | .seq xs _=>xs[0]?
   |_=>none
  |none=>none
 |_=>none
variable {v:Value}{ns:List Int}
theorem Bf {Q:Option Value->Shared->Prop}(x:IT s.heap v ns)(q:Q (zi s.heap v) s):wpAny (model prog w) A (firstOfTuple' v) Q E s:=by
 obtain⟨a,its,rfl,⟨o,e,c,n,d⟩,i⟩:=x;have fe:zi s.heap (.ref a)=its[0]? :=by
  unfold zi;dsimp only;rw [e];dsimp only;rw [d]
 rw [PySem.W.kas_first_eq];refine wpAny_bind (PySem.W.Looks.here (show PySem.W.Looks (model prog w) s.heap (typeOf (.ref a)) o.cls from (PySem.W.Looks.ld e).andThen .now) ?_);rw [c,if_neg (by decide)];refine wpAny_bind (listItems_at e d (G3 ?_));rw [<-fe];exact q
variable {h:Heap}
theorem Pa (x:IT h v []):zi h v=none:=by
 obtain⟨a,its,rfl,⟨o,e,c,n,d⟩,i⟩:=x;unfold zi;dsimp only;rw [e];dsimp only;rw [d];dsimp only;obtain⟨l⟩:=its;cases i;rfl
theorem Yh {n:Int}(x:IT h v (n::ns)): ∃t,zi h v=some (.int n t):=by
 obtain⟨a,its,rfl,⟨o,e,c,k,d⟩,i⟩:=x;obtain⟨l⟩:=its;cases i with
 |cons _ t i=>exact⟨t,by unfold zi;dsimp only;rw [e];dsimp only;rw [d];rfl⟩
theorem Bg (x:IT h v ns):(zi h v).isSome= !ns.isEmpty:=by
 cases ns with
 |nil=>rw [Pa x];rfl
 |cons n ns=>obtain⟨t,e⟩:=Yh x;rw [e];rfl
noncomputable def Pb (h:Heap)(vs:List Value):SortKind:=
 if (vs.all λv=> !(jV h v).isEmpty)=true then tuples' true else if ((vs[0]?.map λv=> !(jV h v).isEmpty)=some true) then general' else oneType'
theorem Ui {vs:List Value}(h2:2<=vs.length)(x: ∀v∈vs,∃ns,IT h v ns){Q:SortKind->Shared->Prop}(e:yM h s.heap)(q:Q (Pb h vs) s):wpAny (model prog w) A (keyKind' vs.toArray) Q E s:=by
 have fr: ∀v∈vs,(zi s.heap v).isSome= !(jV h v).isEmpty:=λv hv=>by
  obtain⟨ns,t⟩:=x v hv;rw [t.nums,Bg (t.keeps e)]
 rw [keyKind'_eq,G05,map_eq_pure_bind];refine wpAny_bind (wpAny_bind (vQ (zi s.heap) vs (λv hv Q' q'=> ?_) (G3 ?_)))
 ·obtain⟨ns,t⟩:=x v hv;exact Bf (t.keeps e) q'
 have all_:((vs.map (zi s.heap)).toArray.all λo=>o.isSome)=vs.all λv=> !(jV h v).isEmpty:=by
  rw [G1h,W5];rw [C5,M8,M8];exact⟨λz v hv=>by rw [<-fr v hv];exact z v hv,λz v hv=>by show (zi s.heap v).isSome=true;rw [fr v hv];exact z v hv⟩
 rw [all_];unfold Pb at q
 by_cases a1:(vs.all λv=> !(jV h v).isEmpty)=true
 ·rw [if_pos a1] at q;rw [if_pos a1];refine wpAny_bind (G0y ?_);obtain⟨fs,efs,nums,ne⟩: ∃fs:List Value,vs.map (zi s.heap)=fs.map some/\(∀f∈fs,∃n t,f=Value.int n t)/\fs.length=vs.length:=by
   have go: ∀l:List Value,(∀v∈l,v∈vs)-> ∃fs:List Value,l.map (zi s.heap)=fs.map some/\(∀f∈fs,∃n t,f=Value.int n t)/\fs.length=l.length:=by
    intro l
    induction l with
    |nil=>exact λ_=>⟨[],rfl,λf hf=>absurd hf T7,rfl⟩
    |cons v l ih=>
     intro sub;obtain⟨fs,e1,e2,e3⟩:=ih λu hu=>sub u (D5 _ hu)
     have hv:=sub v P9;obtain⟨ns,t⟩:=x v hv;have ne:=M8.mp a1 v hv;rw [t.nums] at ne;cases ns with
     |nil=>cases ne
     |cons n ns=>
      obtain⟨tk,ef⟩:=Yh (t.keeps e);refine⟨.int n tk::fs,by rw [T9,T9,ef,e1],λf hf=> ?_,by rw [P6,P6,e3]⟩;rcases P3.mp hf with rfl|hf
      ·exact⟨n,tk,rfl⟩
      ·exact e2 f hf
   exact go vs λ_ hv=>hv
  rw [efs];have fm:((fs.map some).toArray.filterMap id)=fs.toArray:=by simp
  rw [fm,oneTypeOnly'_eq,G05,map_eq_pure_bind];refine wpAny_bind (wpAny_bind (wpAny_bind (vQ (λ_=>Value.type "int") fs (λf hf Q' q'=> ?_) (G3 ?_))))
  ·obtain⟨n,t,rfl⟩:=nums f hf;exact G3 q'
  ·match fs,ne with
   | [],ne=>rw [S8] at ne;omega
   |f::fs,_=>
    have h0:(List.map (λ_=>Value.type "int") (f::fs)).toArray[0]? =some (Value.type "int"):=by simp
    have h1:((List.map (λ_=>Value.type "int") (f::fs)).toArray.all λy=>y==Value.type "int")=true:=by
     rw [G1h,W5,M8];exact λ_ _=>rfl
    rw [h0];simp only [h1,if_true];exact G3 (G3 q)
 rw [if_neg a1] at q;rw [if_neg a1]
 match vs,h2,x,fr,q with
 |v::vs,h2,x,fr,q=>
  have h0:((List.map (zi s.heap) (v::vs)).toArray[0]?.bind id).isSome= !(jV h v).isEmpty:=by
   rw [<-fr v P9];simp
  rw [h0];have h0':(((v::vs)[0]?.map λv=> !(jV h v).isEmpty)=some true)↔(!(jV h v).isEmpty)=true:=by simp
  by_cases a2:(!(jV h v).isEmpty)=true
  ·rw [if_pos (h0'.mpr a2)] at q;rw [if_pos a2];exact G3 q
  rw [if_neg λz=>a2 (h0'.mp z)] at q;rw [if_neg a2];rw [oneTypeOnly'_eq,G05,map_eq_pure_bind];refine wpAny_bind (wpAny_bind (wpAny_bind (vQ (λ_=>Value.type "tuple") (v::vs) (λf hf Q' q'=> ?_) (G3 ?_))))
  ·obtain⟨ns,t⟩:=x f hf;obtain⟨a,its,rfl,⟨o,e1,c,n,d⟩,i⟩:=t.keeps e;refine PySem.W.Looks.here (show PySem.W.Looks (model prog w) s.heap (typeOf (.ref a)) o.cls from (PySem.W.Looks.ld e1).andThen .now) ?_;rw [c];exact q'
  ·have h3:(List.map (λ_=>Value.type "tuple") (v::vs)).toArray[0]? =some (Value.type "tuple"):=by simp
   have h1:((List.map (λ_=>Value.type "tuple") (v::vs)).toArray.all λy=>y==Value.type "tuple")=true:=by
    rw [G1h,W5,M8];exact λ_ _=>rfl
   rw [h3];simp only [h1,if_true];exact G3 (G3 q)
theorem QX {fin:Bool}{Q:Bool->Shared->Prop}{m n:Nat}(ef:fin=decide (m<n)): ∀ {vs us:List Value} {ns ms:List Int} (i:Nat),IntsAre vs ns->IntsAre us ms->ns.length+n=ms.length+m->Q (jI ns ms) s->PySem.W.KatLex prog w A true fin Q (vs.zip us) i s
 |_,_,_,_,i,.nil,.nil,l,q=>by
  subst ef;rw [G0Z];refine G1o ?_;rw [R9 (by rw [S8] at l;omega)];exact q
 |_,_,_,_,i,.nil,.cons c u y,l,q=>by
  subst ef;rw [G0Z];refine G1o ?_;rw [R1 (by rw [S8,P6] at l;omega)];exact q
 |_,_,_,_,i,.cons a t x,.nil,l,q=>by
  subst ef;rw [List.zip_nil_right];refine G1o ?_;rw [R9 (by rw [S8,P6] at l;omega)];exact q
 |_,_,_,_,i,.cons a t x,.cons c u y,l,q=>by
  rw [Z0];rw [Jc] at q;obtain⟨e,he,hiff⟩:=Qs A s a t c u;refine PySem.W.kat_cons (he prog w _ _ ?_);refine PySem.W.kat_go (λz=>PySem.W.kat_yes ?_) λz=>PySem.W.kat_no ?_
  ·rw [if_pos (hiff.mp z)] at q;exact QX ef (i+1) x y (by rw [P6,P6] at l;omega) q
  ·rw [if_neg λz'=>by rw [hiff.mpr z'] at z;cases z] at q;cases (true&&i==0) with
   |true=>exact oneLt_int q
   |false=>exact PySem.W.kat_one _ _ (G1B q)
theorem Si {u:Value}{ms:List Int}{Q:Bool->Shared->Prop}(hu:A.units<cLine)(x:IT s.heap v ns)(y:IT s.heap u ms)(q:Q (jI ns ms) s):wpAny (model prog w) A (oneLt' true v u) Q E s:=by
 obtain⟨a,its,rfl,⟨⟨cls,dd,data,sl⟩,e1,c,n,d⟩,i⟩:=x;obtain⟨b,its2,rfl,⟨⟨cls2,dd2,data2,sl2⟩,e2,c2,n2,d2⟩,i2⟩:=y;simp only at c d c2 d2;subst c d c2 d2;rw [oneLt'_eq];simp only [if_true];refine wpAny_bind (wpAny_cRoomFor hu (wpAny_bind (wpAny_callSpecialIfBound?_slot ⟨_,e1,rfl⟩ G0n (G0z G0n ⟨_,e1,rfl⟩ G1j (G07 _ _) (vA a b its its2 n n2 dd dd2 sl sl2 ns ms i i2) ⟨e1,e2,?_⟩))));exact O0 q
theorem Sj {u:Value}{ms:List Int}{Q:Bool->Shared->Prop}(hu:A.units<cLine)(x:IT s.heap v ns)(y:IT s.heap u ms)(q:Q (jI ns ms) s):wpAny (model prog w) A (oneLt' false v u) Q E s:=by
 obtain⟨a,its,rfl,t,i⟩:=x;obtain⟨b,its2,rfl,t2,i2⟩:=y;exact PySem.W.kat_one _ _ (Gv t t2 i i2 hu q)
theorem Uj {vs:List Value}(hu:A.units<cLine){h':Heap}(k:yM s.heap h'):YM prog w A (Only s h') (Pb s.heap vs) (λx=> ∃ns,IT s.heap x.1 ns) (λx y=>jI (jV s.heap x.1) (jV s.heap y.1)):=by
 rintro ⟨x,x'⟩ ⟨y,y'⟩ ⟨ns,tx⟩ ⟨ms,ty⟩ s1 ⟨tk,rfl⟩;dsimp only at tx ty ⊢;have q:(jI ns ms=jI (jV s.heap x) (jV s.heap y)/\Only s h' {s with heap:=h',toks:=tk}):=⟨by rw [tx.nums,ty.nums],tk,rfl⟩;have kx:=tx.keeps k;have ky:=ty.keeps k;unfold Pb
 by_cases a1:(vs.all λv=> !(jV s.heap v).isEmpty)=true
 ·rw [if_pos a1];obtain⟨a,its,rfl,⟨o,e1,c,n,d⟩,i⟩:=kx;obtain⟨b,its2,rfl,⟨o2,e2,c2,n2,d2⟩,i2⟩:=ky;refine PySem.W.kat_lt e1 d e2 d2 (QX rfl 0 i i2 ?_ q);have z1:=i.length;have z2:=i2.length;rw [P2] at z1 z2;omega
 rw [if_neg a1]
 by_cases a2:(vs[0]?.map λv=> !(jV s.heap v).isEmpty)=some true
 ·rw [if_pos a2];show wpAny _ _ (oneLt' false x y) _ _ _;exact Sj hu kx ky q
 ·rw [if_neg a2,keyLt'_oneType];exact Si hu kx ky q
theorem Xy {l:Addr}{vs:List Value}{Q:Value->Shared->Prop}(hu:A.in1.in1.units<cLine)(hl:s.heap.IsList l vs.toArray)(hz:vs.length<sizeLine)(x: ∀v∈vs,∃ns,IT s.heap v ns)
 (q: ∀ (h1 h':Heap) (tk c:Nat) (out:List Value),yM s.heap h1->yM h1 h'->h'.get? h1.objs.size=some (seqObj "list" out.toArray c)->out.Perm vs->out.Pairwise (λx y=>jI (jV s.heap y) (jV s.heap x)=false)->Q (.ref h1.objs.size) {s with heap:=h',toks:=tk}):
 wpAny (model prog w) A (call (.builtin "sorted") [.ref l]) Q E s:=by
 refine GZ (κ:=Pb s.heap vs) (U:=λx=> ∃ns,IT s.heap x.1 ns) (R:=λx y=>jI (jV s.heap x.1) (jV s.heap y.1)) hl hz (λh2 h' k=> ?_) (λh' k=>Uj hu k) (Uh _) x λh1 h' tk c out k1 k2 e1 e2 e3=>q h1 h' tk c out k1 k2 e1 e2 ?_
 ·exact Ui (s:= {s with heap:=h'}) h2 x k ⟨rfl,s.toks,rfl⟩
 ·rw [B0] at e3;exact e3
end
end HT
namespace L2
open PySem PySem.Spec PyProof.Rows PySem.SeqAt HT
theorem vR {α β:Type}{f:α->β}: ∀ {out:List β} {l:List α},out.Perm (l.map f)-> ∃l':List α,l'.Perm l/\l'.map f=out
 | [],l,p=>by
  have e:=p.length_eq;rw [G0,S8] at e;exact⟨[],by rw [O8 e.symm],rfl⟩
 |x::out,l,p=>by
  obtain⟨y,hy,rfl⟩:=R7.mp (p.mem_iff.mp P9);obtain⟨l1,l2,rfl⟩:=List.append_of_mem hy;have p2:out.Perm ((l1++l2).map f):=by
   refine List.Perm.cons_inv (a:=f y) (p.trans ?_);rw [S4,S4,T9];exact G1g
  obtain⟨l',a,b⟩:=vR p2;exact⟨y::l',(a.cons y).trans G1g.symm,by rw [T9,b]⟩
def OO (H:Hp)(v:V)(ns:List Int):Prop:= ∃a,v= .ref a/\H a=some (.tup (ns.map V.int))
theorem Uk {X:Cx}{k:Nat}(hr:Room k X.A):CallR X (.builtin "sorted") (λxs H Q=> ∃ (a:Addr) (ps:List (V×List Int)),xs= [.ref a]/\SqL X.K H a (ps.map (·.1))/\ps.length<sizeLine/\(∀p∈ps,OO H p.1 p.2)/\ ∀ (q:Addr) (ps':List (V×List Int)),H q=none->ps'.Perm ps->(ps'.map (·.2)).Pairwise (λx y=>HT.jI y x=false)->Q (.ref q) (upd H q (.lst (ps'.map (·.1))))):=by
 intro pins s σ H xs us Q I r h;obtain⟨a,ps,rfl,hS,hz,ht,q⟩:=h;obtain⟨u,rfl,ru⟩:=vz r;cases ru;obtain⟨its,rv,pl,hz'⟩:=I.list hS;obtain⟨zs,e1,e2,e3⟩: ∃zs:List (Value×V×List Int),its=zs.map (·.1)/\ps=zs.map (·.2)/\ ∀z∈zs,RelV z.2.1 z.1:=by
  clear hS q hz ht hz' pl
  induction ps generalizing its with
  |nil=>cases rv;exact⟨[],rfl,rfl,λz hz=>by cases hz⟩
  |cons p ps ih=>
   rw [T9] at rv;cases rv with
   |cons r1 r2=>
    obtain⟨zs,e1,e2,e3⟩:=ih _ r2;exact⟨(_,p)::zs,by rw [T9,<-e1],by rw [T9,<-e2],λz hz=>by
     rcases P3.mp hz with rfl|hz
     ·exact r1
     ·exact e3 z hz⟩
 subst e1 e2;have it: ∀z∈zs,IT s.heap z.1 z.2.2:=λz hm=>by
  obtain⟨b,eb,hb⟩:=ht z.2 (X8 hm);have rz:=e3 z hm;rw [eb] at rz;have rz:z.1= .ref b:=rz;obtain⟨_,us,r2,p⟩:=I.hok b _ hb;exact⟨b,us.toArray,rz,p.tup,Jv r2⟩
 have hu:X.A.in1.in1.units<cLine:=by
  have:=hr.un;show X.A.units+1+1<cLine;omega
 rw [G0] at hz;refine HT.Xy hu pl.isList (by rw [G0];exact hz) (λv hv=> ?_) λh1 h' tk c out k1 k2 e4 pm srt=> ?_
 ·obtain⟨z,hm,rfl⟩:=R7.mp hv;exact⟨_,it z hm⟩
 obtain⟨zs',pz,rfl⟩:=vR pm;have I1:=I.kept (t':=s.toks) k1;have vv: ∀l:List (Value×V×List Int),(∀z∈l,z∈zs)->Vals ((l.map (·.2)).map (·.1)) (l.map (·.1)):=λl=>by
  induction l with
  |nil=>exact λ_=> .nil
  |cons z l ih=>exact λsub=> .cons (e3 z (sub z P9)) (ih λy hy=>sub y (D5 _ hy))
 refine⟨.ref _,_,I1.laid (t':=tk) (o:= .lst ((zs'.map (·.2)).map (·.1))) k2 (G5 _) ⟨?_,_,c,vv zs' λz hm=>pz.mem_iff.mp hm,e4⟩,rfl,q _ (zs'.map (·.2)) (I1.hok.fresh (G5 _)) (pz.map _) ?_⟩
 ·rw [G0,G0,pz.length_eq];exact D4 hz
 ·rw [B0,B0];rw [B0] at srt;refine srt.imp_of_mem λ{y z} hy hz e=> ?_
  rw [<- (it y (pz.mem_iff.mp hy)).nums,<- (it z (pz.mem_iff.mp hz)).nums];exact e
abbrev tI (ns:List Int):D:= .tup (ns.map D.int)
def Lz:RDn:=λds h Q=> ∃ (a:Addr) (nss:List (List Int)),ds= [.lst a]/\h a=some (nss.map tI)/\nss.length<sizeLine/\ ∀ (p:Addr) (mss:List (List Int)),h p=none->mss.Perm nss->mss.Pairwise (λx y=>HT.jI y x=false)->Q (.lst p) (zB h p (mss.map tI))
theorem Xz {K:PySem.W.Frag}{H:Hp}: ∀ {nss:List (List Int)} {vs:List V},RelDs K H (nss.map tI) vs-> ∃ps:List (V×List Int),vs=ps.map (·.1)/\nss=ps.map (·.2)/\ ∀p∈ps,OO H p.1 p.2
 | [],vs,r=>⟨[],r,rfl,λp hp=>by cases hp⟩
 |ns::nss,vs,r=>by
  obtain⟨v,us,e,r1,r2⟩:=(show ∃v r,vs=v::r/\RelD K H (tI ns) v/\RelDs K H (nss.map tI) r from r);obtain⟨ps,e1,e2,e3⟩:=Xz r2;obtain⟨a,ws,e4,hH,r4⟩:=(show ∃a vs,v= .ref a/\H a=some (.tup vs)/\RelDs K H (ns.map D.int) vs from r1);rw [jY r4] at hH;exact⟨(v,ns)::ps,by rw [e,e1];rfl,by rw [e2];rfl,λp hp=>by
   rcases P3.mp hp with rfl|hp
   ·exact⟨a,e4,hH⟩
   ·exact e3 p hp⟩
theorem XA {K:PySem.W.Frag}{H:Hp}: ∀ {ps:List (V×List Int)},(∀p∈ps,OO H p.1 p.2)->RelDs K H ((ps.map (·.2)).map tI) (ps.map (·.1))
 | [],_=> .nil
 |p::ps,h=> .cons (by
  obtain⟨a,e,hH⟩:=h p P9;exact⟨a,_,e,hH,wF _⟩) (XA λq hq=>h q (D5 _ hq))
theorem Yi {X:Cx}{k:Nat}(hr:Room k X.A):yZ X (.builtin "sorted") Lz:=(Uk hr).imp λxs H Q ⟨ds,h,Qd,r,rh,⟨a,nss,e,hd,hz,q⟩,p⟩=>by
 subst e;obtain⟨v,e,r1⟩:=jH r;obtain⟨vs,hH,r2⟩:=rh a _ hd;have e1:v= .ref a:=r1.1;subst e e1;obtain⟨ps,rfl,rfl,ht⟩:=Xz r2;refine⟨a,ps,rfl,SqL.of hH,by rw [G0] at hz;exact hz,ht,λc ps' hc pm srt=> ?_⟩;exact p (.lst c) _ _ _ (.new hc) (rh.newL hc (XA λx hx=>ht x (pm.mem_iff.mp hx))) ⟨rfl,_,jp⟩ (q c _ (rh.free hc) (pm.map _) srt)
abbrev toI (S:List Nat):List Int:=S.map λ(k:Nat)=>(k:Int)
theorem LB {S S':List Nat}(h:toI S=toI S'):S=S':=by
 have:=congrArg (List.map Int.toNat) h;rw [M9,M9] at this;have e:(Int.toNat∘λ(k:Nat)=>(k:Int))=id:=by funext k;exact E4 k
 rw [e,G1G,G1G] at this;exact this
theorem Ul (S:List Nat):tI (toI S)=jK S:=by
 show D.tup _=D.tup _;rw [M9];rfl
def leS (a b:List Nat):Bool:= !HT.jI (toI b) (toI a)
theorem RI (a b c:List Nat)(h:leS a b=true)(h':leS b c=true):leS a c=true:=by
 unfold leS at*
 cases e:HT.jI (toI c) (toI a) with
 |false=>rfl
 |true=>
  rcases ZS _ (toI b) _ e with z|z
  ·rw [z] at h';cases h'
  ·rw [z] at h;cases h
theorem RJ (a b:List Nat):(leS a b||leS b a)=true:=by
 unfold leS;cases e:HT.jI (toI b) (toI a) with
 |false=>rfl
 |true=>rw [yI _ _ e];rfl
theorem Bh {a b:List Nat}(h:leS a b=true)(h':leS b a=true):a=b:=by
 unfold leS at*
 refine LB (vd _ _ ?_ ?_)
 ·cases e:HT.jI (toI a) (toI b) with
  |false=>rfl
  |true=>rw [e] at h';cases h'
 ·cases e:HT.jI (toI b) (toI a) with
  |false=>rfl
  |true=>rw [e] at h;cases h
def RK (l:List (List Nat)):List (List Nat):=l.mergeSort leS
theorem Jm (l:List (List Nat)):(RK l).Perm l:=List.mergeSort_perm _ _
theorem Pc (l:List (List Nat)):(RK l).Pairwise λa b=>leS a b=true:=List.pairwise_mergeSort RI RJ l
theorem RL {l P:List (List Nat)}(p:P.Perm l)(r:P.Pairwise λa b=>leS a b=true):P=RK l:=
 List.Perm.eq_of_pairwise (λa b _ _ x y=>Bh x y) r (Pc l) (p.trans (Jm l).symm)
theorem Um {l:List (List Nat)}{mss:List (List Int)}(p:mss.Perm (l.map toI))(r:mss.Pairwise λx y=>HT.jI y x=false):mss.map tI=(RK l).map jK:=by
 obtain⟨P,pP,rfl⟩:=vR p;rw [B0] at r;rw [<-RL pP (r.imp λe=>by unfold leS;rw [e];rfl),List.map_map];exact B8 λS _=>Ul S
end L2
namespace L2
open PySem PySem.Spec PyProof.Rows PySem.SeqAt
theorem QY: ∀l:List Int,PyData.canLayAll0 (l.map PyData.int)=true
 | []=>rfl
 |x::l=>by show (PyData.canLay0 (.int x)&&_)=true;rw [QY l];rfl
variable {S:List Nat}{h:HD}{Q:KD}
theorem RM {neg:Bool}{x:Nat}(q: ∀b:Bool,(b=true↔x∈S)->Q (.bl (neg !=b)) h):inE neg (.int (x:Int)) (jK S) h Q:=by
 refine⟨.int x,(Wv S).map PyData.int,rfl,.inr (Xu h S),rfl,QY _,(by show (0:Nat)<=60;decide),q _ ?_⟩;rw [G0t];constructor
 ·rintro ⟨z,hz,e⟩;obtain⟨m,hm,rfl⟩:=R7.mp hz;obtain⟨y,hy,rfl⟩:=R7.mp (show m∈S.map λ(k:Nat)=>(k:Int) from hm);have:(y:Int)=x:=by simpa [PyData.eqv] using e
  have:y=x:=by omega
  exact this ▸ hy
 ·intro z;exact⟨.int x,R7.mpr ⟨_,R7.mpr ⟨x,z,rfl⟩,rfl⟩,by simp [PyData.eqv]⟩
theorem LD {x:Nat}(q:Q (.bl (decide (x∈S))) h):inE false (.int (x:Int)) (jK S) h Q:=RM λbo hb=>by
 have:(false !=bo)=decide (x∈S):=by
  cases bo with
  |true=>rw [R1 (hb.mp rfl)];rfl
  |false=>rw [R9 λz=>by have:=hb.mpr z;cases this];rfl
 rw [this];exact q
def LF (n:Nat)(T:List (List Int))(S:List Nat):Bool:=(Xt n T S).all λj=>decide (j∈S)
theorem Bi {A:Addr}{P:List (List Nat)}(k:h A=some (P.map jK)):ToP h (.lst A) (.list (P.map GH)):=⟨A,_,rfl,k,VY h P⟩
theorem yJ {h':HD}{a:Addr}(sb:Sub h h')(e:h' a=none):h a=none:=by
 cases z:h a with
 |none=>rfl
 |some ds=>rw [sb a ds z] at e;cases e
theorem Sub.over {h':HD}{a:Addr}{ds:List D}(sb:Sub h h')(e:h a=none):Sub h (zB h' a ds):=λb xs k=>jj (λz=>by subst z;rw [e] at k;cases k) (sb b xs k)
theorem LH {A B:Addr}(k:h A=some (S.map λ(k:Nat)=>D.int (k:Int)))(k':h B=some [])(q:Q (.bl (decide (S= []))) h):eqE (.lst A) (.lst B) h Q:=by
 refine⟨.list ((Wv S).map .int),.list [],⟨A,_,rfl,k,?_⟩,⟨B,_,rfl,k',rfl⟩,ZB _,by decide +kernel,?_⟩
 ·have:=vH h (Wv S);unfold Wv at this ⊢;rw [M9 (f:=λ(k:Nat)=>(k:Int)) (g:=D.int)] at this;exact this
 ·cases S with
  |nil=>exact q
  |cons x S=>exact q
theorem RN {x:Nat}(q:Q (.bl (!decide (x∈S))) h):inE true (.int (x:Int)) (jK S) h Q:=RM λbo hb=>by
 have:(true !=bo)= !decide (x∈S):=by
  cases bo with
  |true=>rw [R1 (hb.mp rfl)];rfl
  |false=>rw [R9 λz=>by have:=hb.mpr z;cases this];rfl
 rw [this];exact q
structure GB (n:Nat)(h0 h:HD)(R:Addr)(rs:List Addr)(f:Nat->Nat->Bool):Prop where
 at_:h R=some (rs.map D.lst)
 len:rs.length=n
 nR:R ∉ rs
 nd:rs.Nodup
 sb:Sub h0 h
 row: ∀i a,rs[i]? =some a->h0 a=none/\h a=some ((List.range n).map λj=>D.bl (f i j))
section
variable {n:Nat}{h0 h:HD}{R:Addr}{rs:List Addr}{f g:Nat->Nat->Bool}
theorem GB.put (G:GB n h0 h R rs f){i j:Nat}{a:Addr}{v:Bool}(ha:rs[i]? =some a):GB n h0 (zB h a (((List.range n).map λj=>D.bl (f i j)).set j (.bl v))) R rs (λx y=>if x=i/\y=j then v else f x y):=by
 have hm:=G9 ha;have il:=(P0.mp ha).1;refine⟨jj (λz=>G.nR (z ▸ hm)) G.at_,G.len,G.nR,G.nd,G.sb.over (G.row i a ha).1,λx b hb=>⟨(G.row x b hb).1,?_⟩⟩
 by_cases z:x=i
 ·subst z;have eb:b=a:=by rw [ha] at hb;injection hb with hb;exact hb.symm
  subst eb;rw [jc];refine congrArg some (List.ext_getElem (by simp) λm h1 h2=> ?_);rw [List.getElem_set];simp only [List.getElem_map,W0]
  by_cases e:j=m
  ·subst e;simp
  ·rw [if_neg e,if_neg λw=>e w.2.symm]
 ·have ne:b≠a:=λw=>z ((List.getElem?_inj (P0.mp hb).1 G.nd).mp (hb.trans (by rw [w];exact ha.symm)))
  rw [jj ne (G.row x b hb).2];exact congrArg some (B8 λy _=>by rw [if_neg λw=>z w.1])
theorem GB.pick (G:GB n h0 h R rs f){i:Nat}(hi:i<n): ∃a,rs[i]? =some a/\atI (rs.map D.lst) (i:Int)=some (.lst a)/\h a=some ((List.range n).map λj=>D.bl (f i j)):=by
 have hi':i<rs.length:=by rw [G.len];exact hi
 exact⟨rs[i],G2 hi',we (by rw [P4,G2 hi'];rfl),(G.row i _ (G2 hi')).2⟩
theorem GB.as (G:GB n h0 h R rs f)(e: ∀i j,i<n->j<n->f i j=g i j):GB n h0 h R rs g:=
 ⟨G.at_,G.len,G.nR,G.nd,G.sb,λi a ha=>⟨(G.row i a ha).1,by
  have hi:i<n:=by rw [<-G.len];exact(P0.mp ha).1
  rw [(G.row i a ha).2];exact congrArg some (B8 λj hj=>by rw [e i j hi (D6.mp hj)])⟩⟩
theorem GB.up (G:GB n h0 h R rs f){h':HD}(s:Sub h h'):GB n h0 h' R rs f:=⟨s _ _ G.at_,G.len,G.nR,G.nd,λa ds e=>s _ _ (G.sb _ _ e),λi a ha=>⟨(G.row i a ha).1,s _ _ (G.row i a ha).2⟩⟩
end
variable {n j:Nat}
theorem QZ {f:Nat->Bool}(hj:j<n):atI ((List.range n).map λj=>D.bl (f j)) (j:Int)=some (.bl (f j)):=Lc hj
def wk (T:List (List Int)):Nat->Nat->Nat->Bool
 |0,i,j=>decide (i=j)|| !decide (ent T i j=0)
 |b+1,i,j=>wk T b i j||(wk T b i b&&wk T b b j)
theorem YN (T:List (List Int)): ∀b i,wk T b i i=true
 |0,i=>by unfold wk;rw [decide_eq_true rfl];rfl
 |b+1,i=>by unfold wk;rw [YN T b i];rfl
theorem Cs (T:List (List Int))(b i:Nat):wk T (b+1) i b=wk T b i b:=by
 show (wk T b i b||(wk T b i b&&wk T b b b))=_;cases wk T b i b<;>rfl
theorem Ct (T:List (List Int))(b j:Nat):wk T (b+1) b j=wk T b b j:=by
 show (wk T b b j||(wk T b b b&&wk T b b j))=_;cases wk T b b j<;>cases wk T b b b<;>rfl
variable {T:List (List Int)}{i:Nat}
theorem Ga (h:ent T i j≠0): ∀b,wk T b i j=true
 |0=>by unfold wk;rw [decide_eq_false h];simp
 |b+1=>by unfold wk;rw [Ga h b];rfl
theorem wk_by {b:Nat}:wk T (b+1) i j=true↔wk T b i j=true\/(wk T b i b=true/\wk T b b j=true):=by
 show (wk T b i j||(wk T b i b&&wk T b b j))=true↔_;rw [U6,T5]
theorem wu: ∀ {b i k j:Nat},k<b->wk T b i k=true->wk T b k j=true->wk T b i j=true
 |b+1,i,k,j,hk,x,y=>by
  by_cases e:k=b
  ·subst e;rw [Cs] at x;rw [Ct] at y;exact wk_by.mpr (.inr ⟨x,y⟩)
  ·have lt:k<b:=by omega
   rcases wk_by.mp x with x|⟨x1,x2⟩
   ·rcases wk_by.mp y with y|⟨y1,y2⟩
    ·exact wk_by.mpr (.inl (wu lt x y))
    ·exact wk_by.mpr (.inr ⟨wu lt x y1,y2⟩)
   ·rcases wk_by.mp y with y|⟨y1,y2⟩
    ·exact wk_by.mpr (.inr ⟨x1,wu lt x2 y⟩)
    ·exact wk_by.mpr (.inr ⟨x1,y2⟩)
theorem Zd {P:Nat->Nat->Prop}(r: ∀i,P i i)(a: ∀i j,ent T i j≠0->P i j)(t: ∀i k j,P i k->P k j->P i j): ∀ {b i j:Nat},wk T b i j=true->P i j
 |0,i,j,h=>by
  have h:(decide (i=j)|| !decide (ent T i j=0))=true:=h;rw [U6] at h;rcases h with h|h
  ·rw [N8 h];exact r j
  ·exact a i j λz=>by rw [R1 z] at h;cases h
 |b+1,i,j,h=>by
  rcases wk_by.mp h with h|⟨h1,h2⟩
  ·exact Zd r a t h
  ·exact t _ _ _ (Zd r a t h1) (Zd r a t h2)
def clS (n:Nat)(T:List (List Int))(S:List Nat):List Nat:=(List.range n).filter λj=>S.any λi=>wk T n i j
theorem RO (n:Nat)(T:List (List Int))(S:List Nat):IsS n (clS n T S):=⟨_,rfl⟩
theorem mem_cl:j∈clS n T S↔j<n/\ ∃i∈S,wk T n i j=true:=by
 unfold clS;rw [N0,D6,G0t]
theorem Sk (hS:IsS n S){j:Nat}(hj:j∈S):j∈clS n T S:=mem_cl.mpr ⟨hS.lt hj,j,hj,YN T n j⟩
theorem mem_stepS:j∈Xt n T S↔j<n/\ ∃i∈S,ent T i j≠0:=by
 unfold Xt;rw [N0,D6,G0t];exact⟨λ⟨a,i,hi,z⟩=>⟨a,i,hi,by simpa using z⟩,λ⟨a,i,hi,z⟩=>⟨a,i,hi,by simpa using z⟩⟩
theorem shut_iff:LF n T S=true↔ ∀i∈S,∀j,j<n->ent T i j≠0->j∈S:=by
 unfold LF;rw [M8];constructor
 ·intro h i hi j hj e;exact N8 (h j (mem_stepS.mpr ⟨hj,i,hi,e⟩))
 ·intro h j hj;obtain⟨a,i,hi,e⟩:=mem_stepS.mp hj;exact R1 (h i hi j a e)
theorem HG {U:List Nat}(hU:LF n T U=true)(out: ∀i j,ent T i j≠0->j<n)(sub: ∀i∈S,i∈U){j:Nat}(hj:j∈clS n T S):j∈U:=by
 obtain⟨_,s,hs,w⟩:=mem_cl.mp hj;exact Zd (P:=λi j=>i∈U->j∈U) (λ_ x=>x) (λi j e x=>shut_iff.mp hU i x j (out i j e) e) (λi k j x y z=>y (x z)) w (sub s hs)
theorem LJ {e:Nat}(h:Sq n e T)(i j:Nat)(z:ent T i j≠0):j<n:=by
 by_cases hj:j<n
 ·exact hj
 ·exfalso;apply z;unfold ent
  by_cases hi:i<T.length
  ·have hr:=h.row (T.getD i []) (by rw [R6,G2 hi];exact N3 hi);rw [R6,N6 (by rw [hr];omega)];rfl
  ·rw [R6 (l:=T),N6 (by omega)];rfl
def fW (T:List (List Int))(b i j x y:Nat):Bool:=if x<i\/(x=i/\y<j) then wk T (b+1) x y else wk T b x y
theorem Sl (T:List (List Int))(b i j x:Nat):fW T b i j x b=wk T b x b:=by
 unfold fW;rw [Cs]
 by_cases c:x<i\/(x=i/\b<j)
 ·rw [if_pos c]
 ·rw [if_neg c]
theorem Sn (T:List (List Int))(b i j y:Nat):fW T b i j b y=wk T b b y:=by
 unfold fW;rw [Ct]
 by_cases c:b<i\/(b=i/\y<j)
 ·rw [if_pos c]
 ·rw [if_neg c]
theorem So {b:Nat}(h1:wk T b i b=true)(h2:wk T b b j=true)(x y:Nat):(if x=i/\y=j then true else fW T b i j x y)=fW T b i (j+1) x y:=by
 by_cases e:x=i/\y=j
 ·obtain⟨rfl,rfl⟩:=e;unfold fW;rw [if_pos ⟨rfl,rfl⟩,if_pos (.inr ⟨rfl,A7 _⟩)];exact(wk_by.mpr (.inr ⟨h1,h2⟩)).symm
 ·rw [if_neg e];unfold fW
  by_cases c:x<i\/(x=i/\y<j)
  ·rw [if_pos c,if_pos (by omega)]
  ·rw [if_neg c,if_neg (by omega)]
theorem RQ {b:Nat}(h: ¬ (wk T b i b=true/\wk T b b j=true))(x y:Nat):fW T b i j x y=fW T b i (j+1) x y:=by
 unfold fW
 by_cases c:x<i\/(x=i/\y<j)
 ·rw [if_pos c,if_pos (by omega)]
 ·rw [if_neg c]
  by_cases e:x=i/\y=j
  ·obtain⟨rfl,rfl⟩:=e;rw [if_pos (by omega),C5,wk_by];exact⟨.inl,λz=>z.resolve_right h⟩
  ·rw [if_neg (by omega)]
theorem LK (T:List (List Int))(b i x y:Nat)(hy:y<n):fW T b i n x y=fW T b (i+1) 0 x y:=by
 unfold fW
 by_cases c:x<i\/(x=i/\y<n)
 ·rw [if_pos c,if_pos (by omega)]
 ·rw [if_neg c,if_neg (by omega)]
theorem Sr (T:List (List Int))(b x y:Nat)(hx:x<n):fW T b n 0 x y=wk T (b+1) x y:=by
 unfold fW;rw [if_pos (.inl hx)]
theorem LL (T:List (List Int))(b x y:Nat):wk T b x y=fW T b 0 0 x y:=by
 unfold fW;rw [if_neg (by omega)]
section
variable {X:Cx}{iter iter' elt:Expr}{te:TED}{ti ti':TID}{tt tt':TTD}{pos spos:Pos}{scope:Scope}{js:List Nat}{ifs ifs':List Expr}
theorem LM {i i' k:Nat}{x z y:Str}{p pz py:Pos}(hc:X.calm=true)(hN:X.N.Nodup)(hk:X.N[k]? =some y)(hy:Loc X.env.scope y)(S:BlockOk X scope js)(hi:JI X (.Name x p) iter ti)(hj:i∈js)(hj':i'∈js)(hne:i≠i')(hx:X.N[i]? =some x)(hz:X.N[i']? =some z)
 (hl:scope.names.lookup x=some .local\/scope.names.lookup x=some .cell)(hl':scope.names.lookup z=some .local\/scope.names.lookup z=some .cell)
 (ht: ∀X',jB X scope X'->PTs X' ifs (LT X'.K tt))(hi': ∀X',jB X scope X'->JI X' (.Name z pz) iter' ti')(ht': ∀X',jB X scope X'->PTs X' ifs' (LT X'.K tt'))(he: ∀X',jB X scope X'->JE X' elt te)
 (hsw:swapsWith (.ListComp elt [⟨.Name x p,iter,ifs,0⟩,⟨.Name z pz,iter',ifs',0⟩] scope pos) (some (.Name y py)) spos.line X.env=pure true:=by rfl)
 (hf:X.fn y=true\/X.env.scope.names.lookup y=some .local:=by first|exact .inl rfl|exact .inr rfl|assumption)(hs: ∀x,foldedSetIterable iter X.env x=pure x:=by intro _;rfl)(hs': ∀env x,foldedSetIterable iter' env x=pure x:=by intro _ _;rfl):
 JS X (.Assign [.Name y py] (.ListComp elt [⟨.Name x p,iter,ifs,0⟩,⟨.Name z pz,iter',ifs',0⟩] scope pos) spos) (FA k (Hd (bN i) js ti tt i' ti' tt' te)):=by
 have base:PS X (.Assign [.Name y py] (.ListComp elt [⟨.Name x p,iter,ifs,0⟩,⟨.Name z pz,iter',ifs',0⟩] scope pos) spos) (BX (Kg js (LI X.K ti) (yi i) (LT X.K tt) (LI X.K ti') (yi i') (LT X.K tt') (LE X.K te)) (yi k)):=
  Dz hc S hi.to rfl (λX' hX=>by obtain⟨C,s₀,H₀,ex,rfl⟩:=hX;exact yG hN hx hl) (λX' hX=>by have:=ht X' hX;obtain⟨C,s₀,H₀,ex,rfl⟩:=hX;exact this)
   (λenv acc=>DA (.ListComp elt [⟨.Name x p,iter,ifs,0⟩,⟨.Name z pz,iter',ifs',0⟩] scope pos) iter' env acc) (λ_ _ _=>Ft ..)
   (λX' hX D=>by
    have a:=(hi' X' hX).to;have b:=ht' X' hX;have c:=(he X' hX).to;obtain⟨C,s₀,H₀,ex,rfl⟩:=hX;exact Fs (g:=yi i') hc rfl a (yG hN hz hl') b c (hs' _))
   (yX hN hk hy hf) hsw hs
 exact⟨base.imp λD σ H h=>by
  obtain⟨σd,hd,Qd,rs,rh,t,p⟩:=DD (K:=X.K) D σ H h;exact El (Ek hj hj' hne) σ H _ ⟨σd,hd,Qd,rs,rh,t,p⟩⟩
end
def LP (g:Nat->Nat->Bool)(w:List Nat)(j:Nat):Bool:=g (w.getLastD 0) j&&(decide (w.headD 0<j)&& !decide (j∈w))
def MR (g:Nat->Nat->Bool)(n:Nat)(w:List Nat):List (List Nat):=((List.range n).filter (LP g w)).map λj=>w++ [j]
def lev (g:Nat->Nat->Bool)(n:Nat):Nat->List (List Nat)
 |0=>(List.range n).map λi=> [i]
 |t+1=>(lev g n t).flatMap (MR g n)
variable {α:Type}
theorem wm {p q:α->Bool}(h: ∀a,p a=true->q a=true): ∀l:List α,(l.filter p).Sublist (l.filter q)
 | []=> .slnil
 |a::l=>by
  cases e:p a with
  |true=>rw [O4 e,O4 (h a e)];exact(wm h l).cons₂ a
  |false=>
   rw [O5 (by rw [e];exact P5)];cases e':q a with
   |true=>rw [O4 e'];exact(wm h l).cons a
   |false=>rw [O5 (by rw [e'];exact P5)];exact wm h l
theorem ZT {β:Type}{f g:α->List β}(h: ∀a,(f a).Sublist (g a)): ∀ {l m:List α},l.Sublist m->(l.flatMap f).Sublist (m.flatMap g)
 |_,_,.slnil=> .slnil
 |_,_,.cons a s=>by rw [G06];exact(ZT h s).trans (List.sublist_append_right _ _)
 |_,_,.cons₂ a s=>by rw [G06,G06];exact(h a).append (ZT h s)
variable {g:Nat->Nat->Bool}
theorem Ze {g':Nat->Nat->Bool}(h: ∀i j,g i j=true->g' i j=true)(n:Nat): ∀t,(lev g n t).Sublist (lev g' n t)
 |0=>List.Sublist.refl _
 |t+1=>ZT (λw=>(wm (λj e=>by
  unfold LP at*
  rw [T5] at*
  exact⟨h _ _ e.1,e.2⟩) (List.range n)).map _) (Ze h n t)
def Tc:Nat->Nat->Bool:=λ_ _=>true
theorem LQ: ∀n,n<=6-> ∀t,t<=6->(lev Tc n t).length<=144:=by decide +kernel
variable {t:Nat}
theorem YO (h6:n<=6)(ht:t<=6):(lev g n t).length<=144:=P7 (Ze (λ_ _ _=>rfl) n t).length_le (LQ n h6 t ht)
theorem Bj (n:Nat)(h6:n<=6):lev Tc n n= []:=by
 have: ∀n,n<=6->lev Tc n n= []:=by decide +kernel
 exact this n h6
theorem RR (h6:n<=6):lev g n n= []:=O8 (Nat.le_zero.mp (by rw [<-S8 (α:=List Nat),<-Bj n h6];exact(Ze (λ_ _ _=>rfl) n n).length_le))
theorem Su (h:lev g n t= []):lev g n (t+1)= []:=by
 show (lev g n t).flatMap _= [];rw [h];rfl
structure LevOk (n t:Nat)(w:List Nat):Prop where
 len:w.length=t+1
 lt: ∀i∈w,i<n
 nd:w.Nodup
 low: ∀i∈w,w.headD 0<=i
theorem ZU: ∀ {t:Nat} {w:List Nat},w∈lev g n t->LevOk n t w
 |0,w,h=>by
  obtain⟨i,hi,rfl⟩:=R7.mp h;exact⟨rfl,λj hj=>by rw [G7.mp hj];exact D6.mp hi,N5 _ _,λj hj=>by rw [G7.mp hj];exact G5 _⟩
 |t+1,w,h=>by
  obtain⟨v,hv,hw⟩:=List.mem_flatMap.mp h;have o:=ZU hv;obtain⟨j,hj,rfl⟩:=R7.mp hw;obtain⟨hj1,hj2⟩:=N0.mp hj;unfold LP at hj2;rw [T5,T5] at hj2;obtain⟨_,h3,h4⟩:=hj2;have h3:=N8 h3;have h4:j ∉ v:=λz=>by rw [R1 z] at h4;cases h4
  have hd:(v++ [j]).headD 0=v.headD 0:=by
   cases v with
   |nil=>have:=o.len;cases this
   |cons a v=>rfl
  refine⟨by rw [G6,o.len];rfl,λi hi=> ?_,?_,λi hi=> ?_⟩
  ·rcases D1.mp hi with z|z
   ·exact o.lt i z
   ·rw [G7.mp z];exact D6.mp hj1
  ·exact G0g.mpr ⟨o.nd,N5 _ _,λa ha b hb e=>by rw [G7.mp hb] at e;subst e;exact h4 ha⟩
  ·rw [hd];rcases D1.mp hi with z|z
   ·exact o.low i z
   ·rw [G7.mp z];exact D4 h3
def Jn (g:Nat->Nat->Bool)(n:Nat):Nat->List (List Nat)
 |0=> []
 |t+1=>Jn g n t++(lev g n t).filter λw=>g (w.getLastD 0) (w.headD 0)
def jT (T:List (List Int))(i j:Nat):Bool:=decide (ent T i j>0)
def jS (T:List (List Int))(n:Nat):List (List Nat):=RK (Jn (jT T) n n)
theorem Uo {g':Nat->Nat->Bool}(h: ∀i j,g i j=true->g' i j=true)(n:Nat): ∀t,(Jn g n t).length<=(Jn g' n t).length
 |0=>G5 _
 |t+1=>by
  show (Jn g n t++_).length<=(Jn g' n t++_).length;rw [G6,G6];exact Nat.add_le_add (Uo h n t) (((Ze h n t).filter _).trans (wm (λw e=>h _ _ e) _)).length_le
theorem LU: ∀n,n<=6-> ∀t,t<=6->(Jn Tc n t).length<=415:=by decide +kernel
theorem vS (h6:n<=6)(ht:t<=6):(Jn g n t).length<=415:=P7 (Uo (λ_ _ _=>rfl) n t) (LU n h6 t ht)
theorem ZV: ∀ {t:Nat} (k:Nat),lev g n t= []->Jn g n (t+k)=Jn g n t/\lev g n (t+k)= []
 |t,0,h=>⟨rfl,h⟩
 |t,k+1,h=>by
  obtain⟨a,b⟩:=ZV k h;refine⟨?_,Su b⟩;show Jn g n (t+k)++(lev g n (t+k)).filter _=_;rw [b,a,Z8,B7]
theorem RS: ∀ {t:Nat} {w:List Nat},w∈Jn g n t-> ∃s,s<t/\LevOk n s w/\g (w.getLastD 0) (w.headD 0)=true
 |t+1,w,h=>by
  rcases D1.mp (show w∈Jn g n t++(lev g n t).filter _ from h) with z|z
  ·obtain⟨s,a,b⟩:=RS z;exact⟨s,by omega,b⟩
  ·obtain⟨z1,z2⟩:=N0.mp z;exact⟨t,A7 t,ZU z1,z2⟩
variable {w:List Nat}
theorem RU (h:w∈jS T n): ∃s,s<n/\LevOk n s w/\ent T (w.getLastD 0) (w.headD 0)>0:=by
 obtain⟨s,a,b,c⟩:=RS ((Jm _).mem_iff.mp h);exact⟨s,a,b,N8 c⟩
theorem Pd (h6:n<=6):(jS T n).length<=415:=by
 unfold jS;rw [(Jm _).length_eq];exact vS h6 h6
theorem Zf (h:w.length=t+1):atI (w.map λ(k:Nat)=>D.int (k:Int)) 0=some (.int ((w.headD 0:Nat):Int)):=by
 cases w with
 |nil=>cases h
 |cons a w=>exact we (j:=0) rfl
theorem RV (h:w.length=t+1):atI (w.map λ(k:Nat)=>D.int (k:Int)) (-1)=some (.int ((w.getLastD 0:Nat):Int)):=by
 refine NI (by rw [G0];omega) ?_;rw [G0,P4,G0W,G0X,G2 (by omega)];rfl
theorem XB (h:w.length=t+1):w.getLastD 0∈w:=by
 rw [G0W,G0X,G2 (by omega)];exact N3 _
theorem Gb (h:w.length=t+1):w.headD 0∈w:=by
 cases w with
 |nil=>cases h
 |cons a w=>exact P9
variable {β:Type}
theorem Up (f:α->List β){xs:List α}{k:Nat}{x:α}(h:xs[k]? =some x):(xs.take (k+1)).flatMap f=(xs.take k).flatMap f++f x:=by
 rw [F4,h,G1H];simp
theorem Uq (p:α->Bool)(g:α->β){xs:List α}{k:Nat}{x:α}(h:xs[k]? =some x):((xs.take (k+1)).filter p).map g=((xs.take k).filter p).map g++if p x=true then [g x] else []:=by
 rw [F4,h,L5,S4]
 congr 1
 by_cases c:p x=true
 ·rw [if_pos c];simp [c]
 ·rw [if_neg c];simp [c]
theorem yp (f:α->List β)(xs:List α)(k:Nat):((xs.take k).flatMap f).length<=(xs.flatMap f).length:=by
 conv=>rhs;rw [<-R8 k xs,G1H,G6]
 omega
section
variable {α β:Type}{i i':Nat}{js:List Nat}{ti ti':TID}{tt':TTD}{te:TED}{σ:SD}{h:HD}{Q:KD}{j:ItD}
theorem Sv (xs:List α)(c:α->D)(ys:α->List β)(c':β->D)(p:α->β->Bool)(g:α->β->D)(hz:(xs.flatMap λx=>((ys x).filter (p x)).map (g x)).length<=sizeLine)(hj: ∀h',Sub h h'->j h'=some (xs.map c))(ht: ∀R:ItD->HD->Prop,R j h->ti σ h R)
 (hin: ∀x∈xs,∀h',Sub h h'-> ∀R:ItD->HD->Prop,(∀j' h2,Sub h' h2->(∀h3,Sub h2 h3->j' h3=some ((ys x).map c'))->R j' h2)->ti' ((jP js σ).set i (some (c x))) h' R)
 (hp: ∀x∈xs,∀y∈ys x,∀h',Sub h h'-> ∀Q':Bool->HD->Prop,Q' (p x y) h'->tt' (((jP js σ).set i (some (c x))).set i' (some (c' y))) h' Q')
 (he: ∀x∈xs,∀y∈ys x,p x y=true-> ∀h',Sub h h'-> ∀Q':KD,Q' (g x y) h'->te (((jP js σ).set i (some (c x))).set i' (some (c' y))) h' Q')
 (hq: ∀a h',Sub h h'->h' a=none->Q (.lst a) (zB h' a (xs.flatMap λx=>((ys x).filter (p x)).map (g x)))):Hd (bN i) js ti Xm i' ti' tt' te σ h Q:=by
 refine ht _ ⟨xs.length,λk zs h'=>Sub h h'/\zs=(xs.take k).flatMap λx=>((ys x).filter (p x)).map (g x),⟨Sub.refl h,rfl⟩,?_⟩;rintro k zs h1 ⟨s1,rfl⟩;refine⟨P7 (yp _ xs k) hz,xs.map c,hj h1 s1,by rw [G0];exact G5 _,λhl a ha=> ?_,λd hd=> ?_⟩
 ·rw [G0] at hl;rw [D9 hl];exact hq a h1 s1 ha
 rw [P4] at hd;cases ex:xs[k]? with
 |none=>rw [ex] at hd;cases hd
 |some x=>
  rw [ex] at hd;injection hd with hd
  subst hd;have mx:=G9 ex;refine⟨_,rfl,?_⟩;unfold Xm;refine MO ?_;refine hin x mx h1 s1 _ λj' h2 s2 hj'=>⟨(ys x).length,λm zs h'=>Sub h2 h'/\zs=((xs.take k).flatMap λx=>((ys x).filter (p x)).map (g x))++(((ys x).take m).filter (p x)).map (g x),⟨Sub.refl h2,by simp⟩,?_⟩
  rintro m zs h3 ⟨s3,rfl⟩;have s03:Sub h h3:=λa ds e=>s3 _ _ (s2 _ _ (s1 _ _ e))
  have tk:=Up (λx=>((ys x).filter (p x)).map (g x)) ex;refine⟨?_,(ys x).map c',hj' h3 s3,by rw [G0];exact G5 _,λhl=> ?_,λd hd=> ?_⟩
  ·refine P7 ?_ (P7 (yp (λx=>((ys x).filter (p x)).map (g x)) xs (k+1)) hz);rw [tk,G6,G6,G0,G0];have:=(A9 m (ys x)).filter (p x) |>.length_le;omega
  ·rw [G0] at hl;refine⟨h3,Sub.refl _,s03,?_⟩;rw [tk,D9 hl]
  ·rw [P4] at hd;cases ey:(ys x)[m]? with
   |none=>rw [ey] at hd;cases hd
   |some y=>
    rw [ey] at hd;injection hd with hd
    subst hd;have my:=G9 ey;have tf:=Uq (p x) (g x) ey;refine hp x mx y my h3 s03 _ ?_
    by_cases cp:p x y=true
    ·rw [if_pos cp] at tf ⊢;refine he x mx y my cp h3 s03 _ ⟨h3,Sub.refl _,s3,?_⟩;rw [tf,G8]
    ·rw [if_neg cp] at tf ⊢;refine⟨h3,Sub.refl _,s3,?_⟩;rw [tf,B7]
end
theorem encO:Enc jK GH:=⟨Xu,λS=>GI _,λS=>P7 (VZ _) (by decide),Lb⟩
theorem Yj: ∀P:List (List Nat),PyData.depthAll (P.map GH)<=3
 | []=>by simp [PyData.depthAll]
 |S::P=>by
  have:=Yj P;have h2:PyData.depth (GH S)<=2:=VZ _;simp only [T9,PyData.depthAll];omega
theorem XC (P:List (List Nat)):shaped (.list (P.map GH))=true:=by
 unfold shaped;have h1:PyData.canLay0 (.list (P.map GH))=true:=by simp only [PyData.canLay0];exact encO.lays P
 have h2:=Yj P;have h3:PyData.depth (.list (P.map GH))<=64:=by simp only [PyData.depth];omega
 rw [h1,R1 h3];rfl
theorem LV {A B:Addr}{P:List (List Nat)}(k:h A=some (P.map jK))(k':h B=some [])(q:Q (.bl (!P.isEmpty)) h):neE (.lst A) (.lst B) h Q:=by
 refine⟨.list (P.map GH),.list [],Bi k,⟨B,_,rfl,k',rfl⟩,XC P,by decide +kernel,?_⟩;cases P with
 |nil=>exact q
 |cons S P=>exact q
theorem Bk {a:Nat}(h:a<n)(q:Nat->Bool):(List.range n).filter (λj=>decide (a<j)&&q j)=((List.range (n-(a+1))).map λk=>a+1+k).filter q:=by
 have e:List.range n=List.range (a+1)++(List.range (n-(a+1))).map λk=>a+1+k:=by
  conv=>lhs;rw [show n=(a+1)+(n-(a+1)) by omega,List.range_add]
 rw [e,L5];have e1:(List.range (a+1)).filter (λj=>decide (a<j)&&q j)= []:=G0b.mpr λj hj=>by
  have:=D6.mp hj;rw [R9 (show ¬a<j by omega)];exact P5
 rw [e1,B2];exact List.filter_congr λj hj=>by
  obtain⟨k,_,rfl⟩:=R7.mp hj;rw [R1 (show a<a+1+k by omega)];rfl
theorem LW (h:w.headD 0<n):((List.range (n-(w.headD 0+1))).filter λk=>jT T (w.getLastD 0) (w.headD 0+1+k)&& !decide (w.headD 0+1+k∈w)).map (λk=>jK (w++ [w.headD 0+1+k]))=(MR (jT T) n w).map jK:=by
 unfold MR;have:LP (jT T) w=λj=>decide (w.headD 0<j)&&(jT T (w.getLastD 0) j&& !decide (j∈w)):=by
  funext j
  unfold LP;cases jT T (w.getLastD 0) j<;>cases decide (w.headD 0<j)<;>rfl
 rw [this,Bk h,List.filter_map,M9,M9];rfl
end L2
namespace HT
open PySem PySem.Spec PyProof.Rows
section
variable {prog:Program}{w:World}{A:Around}{E:Value->Shared->Prop}{s:Shared}{h0:Heap}{l I S:Addr}{vs:List Value}{lt:Value->Value->Bool}
structure At (h0:Heap)(l I S:Addr)(vs:List Value)(i:Nat)(st:Array Value)(h:Heap):Prop where
 kept:yM h0 h
 it:h.IsListIter I l i
 lst:h.IsList l vs.toArray
 store: ∃c,h.get? S=some (seqObj "list" st c)
end
end HT
namespace HT
open PySem PySem.Spec PyProof.Rows PySem.SeqAt
open PySem.AutoSeq1 (wpAny_loadPart')
open PySem.MeetsSeq PySem.MeetsSeq2 PySem.MeetsSeq3
inductive Lx (prog:Program)(w:World)(A:Around)(s:Shared):List Value->List Value->Bool->Prop
 |nn:Lx prog w A s [] [] false
 |nc (u:Value) (us:List Value):Lx prog w A s [] (u::us) true
 |cn (v:Value) (vs:List Value):Lx prog w A s (v::vs) [] false
 |same {v u:Value} {vs us:List Value} {b:Bool} (e:EqAt A s v u true) (t:Lx prog w A s vs us b):Lx prog w A s (v::vs) (u::us) b
 |unlike {v u:Value} {vs us:List Value} {b:Bool} (e:EqAt A s v u false) (t: ∀ (Q E:Value->Shared->Prop),Q (.bool b) s->wpAny (model prog w) A (richCompare .Lt v u) Q E s):Lx prog w A s (v::vs) (u::us) b
end HT
namespace L2
open PySem PySem.Spec PyProof.Rows PySem.SeqAt HT
open Classical in
noncomputable def readOf (h:Heap)(v:Value):PyData:=if e: ∃p as,p.canLay0=true/\Reads h v p as then e.choose else .none
end L2
namespace L2
open PySem PySem.Spec PyProof.Rows PySem.SeqAt
structure LensE (L:List Nat):Prop where
 rise:L.Pairwise (· < ·)
 lo: ∀l∈L,1<=l
 hi: ∀l∈L,l<=12
 few:L.length<=6
end L2
namespace L2
open PySem PySem.Spec PyProof.Rows
def s5:Nat->Nat
 |0=>0
 |d+1=>5*s5 d+1
theorem RW: ∀d,4*s5 d+1=5^d
 |0=>rfl
 |d+1=>by have:=RW d;rw [A2];show 4*(5*s5 d+1)+1=_;omega
theorem Cu (a:Nat): ∀b,s5 (a+b)=5^b*s5 a+s5 b
 |0=>by show s5 a=1*s5 a+0;omega
 |b+1=>by
  show 5*s5 (a+b)+1=5^(b+1)*s5 a+(5*s5 b+1);rw [Cu a b,A2,G1I,G0o (5^b) 5,G1N];omega
theorem Cv: ∀d,s5 d%2=d%2
 |0=>rfl
 |d+1=>by have:=Cv d;show (5*s5 d+1)%2=_;omega
theorem Sw (m:Nat):s5 (2*m)=2*(s5 m*(2*s5 m+1)):=by
 rw [Nat.two_mul,Cu,<-RW m];have:(4*s5 m+1)*s5 m+s5 m=2*(s5 m*(2*s5 m+1)):=by
  rw [G1T,G1I,G1I];have e1:4*s5 m*s5 m=4*(s5 m*s5 m):=G1N ..;have e2:s5 m*(2*s5 m)=2*(s5 m*s5 m):=by rw [Nat.mul_left_comm]
  rw [e1,e2];omega
 exact this
theorem Cw (k x:Nat):Nat.Coprime (2^k) (2*x+1):=by
 refine Nat.Coprime.pow_left k ?_;show Nat.gcd 2 (2*x+1)=1;rw [Nat.gcd_rec,show (2*x+1)%2=1 by omega];rfl
theorem Cy: ∀ (k d:Nat),2^k∣s5 d->2^k∣d
 |0,d,_=>by rw [G0q];exact Nat.one_dvd _
 |k+1,d,h=>by
  have ev:d%2=0:=by
   rw [<-Cv d];exact Nat.mod_eq_zero_of_dvd (Nat.dvd_trans ⟨2^k,by rw [A2,G0o]⟩ h)
  obtain⟨m,rfl⟩: ∃m,d=2*m:=⟨d / 2,by omega⟩;rw [Sw,A2,G0o] at h;have h1:2^k∣s5 m*(2*s5 m+1):=Nat.dvd_of_mul_dvd_mul_left (by decide) h;have h2:=Cy k m ((Cw k (s5 m)).dvd_of_dvd_mul_right h1);rw [A2,G0o];exact Nat.mul_dvd_mul_left 2 h2
def f5 (N:Nat):Nat->Nat->Nat
 |0,a=>a
 |d+1,a=>(f5 N d a*5+1)%N
variable {N:Nat}
theorem Sx (a:Nat): ∀d,f5 N d a%N=(5^d*a+s5 d)%N
 |0=>by show a%N=(1*a+0)%N;rw [Nat.one_mul,W9]
 |d+1=>by
  show (f5 N d a*5+1)%N%N=(5^(d+1)*a+(5*s5 d+1))%N;rw [Nat.mod_mod,Nat.add_mod,Nat.mul_mod,Sx a d,<-Nat.mul_mod,<-Nat.add_mod,G1T,A2]
  congr 1
  have:5^d*a*5=5^d*5*a:=by rw [Nat.mul_right_comm]
  omega
theorem Sy (hN:0<N){a:Nat}(ha:a<N): ∀d,f5 N d a<N
 |0=>ha
 |d+1=>Y4 _ hN
theorem Cz (a:Nat)(b:Nat): ∀d,f5 N (b+d) a=f5 N d (f5 N b a)
 |0=>rfl
 |d+1=>by show (f5 N (b+d) a*5+1)%N=_;rw [Cz a b d];rfl
variable {k:Nat}
theorem Bl {a d:Nat}(ha:a<2^k)(d0:0<d)(hd:d<2^k):f5 (2^k) d a≠a:=λe=>by
 have e1:=Sx (N:=2^k) a d;rw [e] at e1;have le:a<=5^d*a+s5 d:=P7 (Nat.le_mul_of_pos_left a (G1U (by decide))) (K8 _ _);have dv:2^k∣5^d*a+s5 d-a:=Nat.dvd_of_mod_eq_zero (Nat.sub_mod_eq_zero_of_mod_eq e1.symm);have e2:5^d*a+s5 d-a=s5 d*(2*(2*a)+1):=by
  rw [<-RW d,G1T,G1I];have:4*s5 d*a=s5 d*(2*(2*a)):=by
   rw [G0o 4,G1N];congr 1;omega
  omega
 rw [e2] at dv;have:=G1O d0 (Cy k d ((Cw k (2*a)).dvd_of_dvd_mul_right dv));omega
theorem LX {a:Nat}(hN:N=2^k)(ha:a<N): ∀ {i j:Nat},i<j->j<N->f5 N i a≠f5 N j a:=λ{i j} ij jN e=>by
 subst hN;have:=Cz (N:=2^k) a i (j-i);rw [L8 (D4 ij)] at this;exact Bl (Sy (G1U (by decide)) ha i) (by omega) (by omega) ((this.symm.trans e.symm))
theorem LY: ∀ {xs:List Nat},xs.Nodup->(∀x∈xs,x<N)->N<=xs.length-> ∀e,e<N->e∈xs:=λ{xs} nd lt le e he=>by
 have p:(List.range N).length<=(xs.filter λx=>decide (x<N)).length:=by
  rw [R5,List.filter_eq_self.mpr λx hx=>R1 (lt x hx)];exact le
 refine Q5 λno=> ?_
 have key: ∀ (ys zs:List Nat),ys.Nodup->(∀y∈ys,y∈zs)->ys.length<=zs.length:=by
  intro ys
  induction ys with
  |nil=>intro zs _ _;exact S9 _
  |cons y ys ih=>
   intro zs d s;obtain⟨d1,d2⟩:=L6.mp d;have hy:=s y P9;have:=ih (zs.erase y) d2 λx hx=>(Q7 (show x≠y from λq=>d1 (by rw [<-q];exact hx))).mpr (s x (D5 _ hx))
   rw [J0 hy] at this;have:0<zs.length:=K5 hy;rw [P6];omega
 have:=key (e::xs) (List.range N) (L6.mpr ⟨no,nd⟩) λy hy=>by
  rcases P3.mp hy with q|q
  ·rw [q];exact D6.mpr he
  ·exact D6.mpr (lt y q)
 rw [P6,R5] at this;omega
theorem CA {a e:Nat}(hN:N=2^k)(ha:a<N)(he:e<N): ∃m,m<N/\f5 N m a=e:=by
 have nd:((List.range N).map λm=>f5 N m a).Nodup:=by
  rw [List.Nodup,B0];refine N7.mpr λi j hi hj ij=> ?_
  rw [W0,W0];rw [R5] at hj;exact LX hN ha ij hj
 have:=LY nd (λx hx=>by
  obtain⟨m,_,rfl⟩:=R7.mp hx;exact Sy (by rw [hN];exact G1U (by decide)) ha m) (by rw [G0,R5];exact G5 _) e he
 obtain⟨m,hm,e⟩:=R7.mp this;exact⟨m,D6.mp hm,e⟩
def zp (t:SetTable):Nat->SetTable.Probe->SetTable.Probe
 |0,p=>p
 |n+1,p=>zp t n (t.advance p)
theorem vT (t:SetTable): ∀ (a b:Nat) (p:SetTable.Probe),zp t (a+b) p=zp t b (zp t a p)
 |0,b,p=>by rw [E9];rfl
 |a+1,b,p=>by rw [Nat.add_right_comm];exact vT t a b _
def XD (t:SetTable)(i q:Nat)(d:Option Nat):SetTable.Probe:= {j:=i,more:=SetTable.runEnd t.mask i-i,i:=i,perturb:=q,dummy:=d}
theorem vf (t:SetTable): ∀ (m:Nat) (p:SetTable.Probe),p.more=m->zp t (m+1) p=XD t ((p.i*5+1+p.perturb / 32)%(t.mask+1)) (p.perturb / 32) p.dummy
 |0,p,e=>by
  show t.advance p=_;unfold SetTable.advance;rw [if_neg (by omega)];rfl
 |m+1,p,e=>by
  have a:t.advance p= {p with j:=p.j+1,more:=p.more-1}:=by unfold SetTable.advance;rw [if_pos (by omega)]
  show zp t (m+1) (t.advance p)=_;rw [a,vf t m _ (by show p.more-1=m;omega)]
theorem RX (mask i:Nat):SetTable.runEnd mask i-i<=9:=by unfold SetTable.runEnd;split<;>omega
def Vz (N:Nat)(b:Nat):Nat->Nat
 |0=>b%N
 |L+1=>(Vz N b L*5+1+b / 32^(L+1))%N
theorem RY (t:SetTable)(h:Int): ∀L,∃n,n<=10*L/\zp t n (t.probeStart h)=XD t (Vz (t.mask+1) (SetTable.bits h) L) (SetTable.bits h / 32^L) none
 |0=>⟨0,G5 _,by rw [G0q,G1J];rfl⟩
 |L+1=>by
  obtain⟨n,hn,e⟩:=RY t h L;have s:=RX t.mask (Vz (t.mask+1) (SetTable.bits h) L);refine⟨n+(SetTable.runEnd t.mask (Vz (t.mask+1) (SetTable.bits h) L)-Vz (t.mask+1) (SetTable.bits h) L+1),by omega,?_⟩;rw [vT,e];refine(vf t _ (XD t _ _ none) rfl).trans ?_;show XD t ((Vz (t.mask+1) (SetTable.bits h) L*5+1+SetTable.bits h / 32^L / 32)%(t.mask+1)) (SetTable.bits h / 32^L / 32) none=_;rw [V8,<-A2];rfl
theorem LZ (h:Int):SetTable.bits h<2^64:=by unfold SetTable.bits;omega
theorem YQ (h:Int): ∀m,Vz N (SetTable.bits h) (13+m)=f5 N m (Vz N (SetTable.bits h) 13)
 |0=>rfl
 |m+1=>by
  show (Vz N (SetTable.bits h) (13+m)*5+1+SetTable.bits h / 32^(13+m+1))%N=(f5 N m (Vz N (SetTable.bits h) 13)*5+1)%N;rw [YQ h m,Nat.div_eq_of_lt (D7 (LZ h) ?_),W9];exact P7 (show 2^64<=32^13 by decide) (G1w (by decide) (by omega))
variable {t:SetTable}
theorem Bn (hN:t.mask+1=2^k)(h:Int){e:Nat}(he:e<=t.mask): ∃n,n<10*SetTable.turns t.mask/\(zp t n (t.probeStart h)).j=e:=by
 obtain⟨m,hm,em⟩:=CA hN (a:=Vz (t.mask+1) (SetTable.bits h) 13) (Y4 _ (G0r _)) (show e<t.mask+1 by omega);obtain⟨n,hn,en⟩:=RY t h (13+m);refine⟨n,by unfold SetTable.turns;omega,?_⟩;rw [en,<-em,<-YQ h m];rfl
theorem RZ {P:Nat->Prop}: ∀n,P n-> ∃m,m<=n/\P m/\ ∀k,k<m-> ¬P k:=λn=>by
 induction n using Nat.strongRecOn with
 |ind n ih=>
  intro h;rcases G1p (∃k,k<n/\P k) with ⟨k,lt,pk⟩|no
  ·obtain⟨m,a,b,c⟩:=ih k lt pk;exact⟨m,by omega,b,c⟩
  ·exact⟨n,G5 _,h,λk lt pk=>no ⟨k,lt,pk⟩⟩
variable {h:Int}
theorem CB {f:Nat->Int}(d:t.dummies= #[]): ∀ (n fuel:Nat) (p:SetTable.Probe),n<fuel->t.slot (zp t n p).j= .empty->(∀k,k<n->t.slot (zp t k p).j≠ .empty)->p.dummy=none->
 (SetTable.probe.go t f h fuel p=some (.empty (zp t n p).j none)/\ ∀k,k<n-> ∀i,t.slot (zp t k p).j= .live i->f i≠h)\/
 (∃k i,k<n/\t.slot (zp t k p).j= .live i/\f i=h/\(∀k',k'<k-> ∀i',t.slot (zp t k' p).j= .live i'->f i'≠h)/\SetTable.probe.go t f h fuel p=some (.candidate (zp t k p).j i (zp t (k+1) p)))
 |_,0,_,lt,_,_,_=>absurd lt (U8 _)
 |0,fuel+1,p,_,he,_,hd=>by
  refine .inl ⟨?_,λk hk=>absurd hk (U8 _)⟩;have he:t.slot p.j= .empty:=he;unfold SetTable.probe.go;rw [he,hd];rfl
 |n+1,fuel+1,p,lt,he,ne,hd=>by
  have h0:t.slot p.j≠ .empty:=ne 0 (G0r _);cases hs:t.slot p.j with
  |empty=>exact absurd hs h0
  |dummy=>exact absurd hs (HT.Ji d)
  |live i=>
   by_cases e:f i=h
   ·refine .inr ⟨0,i,G0r _,hs,e,λk' hk=>absurd hk (U8 _),?_⟩;unfold SetTable.probe.go;rw [hs];show (if (f i==h)=true then _ else _)=_;rw [if_pos (by rw [e];exact J4 h)];rfl
   ·have ad:(t.advance p).dummy=none:=by unfold SetTable.advance;split<;>exact hd
    have step:SetTable.probe.go t f h (fuel+1) p=SetTable.probe.go t f h fuel (t.advance p):=by
     conv=>lhs;unfold SetTable.probe.go
     rw [hs];show (if (f i==h)=true then _ else _)=_;rw [if_neg (by simpa using e)]
    rcases CB d n fuel (t.advance p) (by omega) he (λk hk=>ne (k+1) (by omega)) ad with ⟨a,b⟩|⟨k,i',hk,a,b,c,g⟩
    ·refine .inl ⟨by rw [step];exact a,λk hk i2 hi=> ?_⟩;cases k with
     |zero=>rw [show t.slot (zp t 0 p).j= .live i from hs] at hi;cases hi;exact e
     |succ k=>exact b k (by omega) i2 hi
    ·refine .inr ⟨k+1,i',by omega,a,b,λk' hk' i2 hi=> ?_,by rw [step];exact g⟩;cases k' with
     |zero=>rw [show t.slot (zp t 0 p).j= .live i from hs] at hi;cases hi;exact e
     |succ k'=>exact c k' (by omega) i2 hi
theorem XE (hN:t.mask+1=2^k)(h:Int){e:Nat}(he:e<=t.mask)(em:t.slot e= .empty): ∃n,n<10*SetTable.turns t.mask/\t.slot (zp t n (t.probeStart h)).j= .empty/\ ∀m,m<n->t.slot (zp t m (t.probeStart h)).j≠ .empty:=by
 obtain⟨n,hn,ej⟩:=Bn hN h he;obtain⟨m,a,b,c⟩:=RZ (P:=λn=>t.slot (zp t n (t.probeStart h)).j= .empty) n (by rw [ej];exact em);exact⟨m,by omega,b,c⟩
theorem Ma (r:t.place.toList.Pairwise (· < ·)){i j:Nat}(h:t.place[i]? =some j):t.slot j= .live i:=by
 obtain⟨lo,hi,_⟩:=HT.vJ r j;have e:SetTable.below t.place j=i:=by
  rcases G04 (SetTable.below t.place j) i with z|z|z
  ·obtain⟨hlt,ev⟩:=C6.mp h;have hb:SetTable.below t.place j<t.place.size:=by omega
   have a:=hi (SetTable.below t.place j) (G5 _) t.place[SetTable.below t.place j] (E7 hb);have b:=N7.mp r (SetTable.below t.place j) i (by simpa using hb) (by simpa using hlt) z;simp only [X4] at b;omega
  ·exact z
  ·exact absurd (lo i z j h) (S7 _)
 unfold SetTable.slot;dsimp only;rw [e,h,if_pos (J4 _)]
theorem Mb {i j:Nat}(h:t.slot j= .live i):t.place[i]? =some j:=by
 unfold SetTable.slot at h;dsimp only at h;split at h
 ·rename_i c;injection h with h
  subst h;exact eq_of_beq c
 ·split at h<;>cases h
theorem vU (d:t.dummies= #[])(r:t.place.toList.Pairwise (· < ·)){j:Nat}:t.slot j= .empty↔ ∀i:Nat,t.place[i]? ≠some j:=by
 constructor
 ·intro h i e;rw [Ma r e] at h;cases h
 ·intro h;cases e:t.slot j with
  |empty=>rfl
  |dummy=>exact absurd e (HT.Ji d)
  |live i=>exact absurd (Mb e) (h i)
variable {u:SetTable}
theorem Bo (e:t.mask=u.mask)(p:SetTable.Probe):t.advance p=u.advance p:=by
 unfold SetTable.advance;rw [e]
theorem yq (e:t.mask=u.mask): ∀ (n:Nat) (p:SetTable.Probe),zp t n p=zp u n p
 |0,_=>rfl
 |n+1,p=>by show zp t n (t.advance p)=zp u n (u.advance p);rw [Bo e,yq e n]
theorem yK (e:t.mask=u.mask)(h:Int):t.probeStart h=u.probeStart h:=by
 unfold SetTable.probeStart;rw [e]
def Way (t:SetTable)(h:Int)(j:Nat):Prop:= ∃n,(zp t n (t.probeStart h)).j=j/\ ∀m,m<n->t.slot (zp t m (t.probeStart h)).j≠ .empty
theorem Way.more (e:t.mask=u.mask)(f: ∀j,u.slot j= .empty->t.slot j= .empty){h:Int}{j:Nat}(w:Way t h j):Way u h j:=by
 obtain⟨n,a,b⟩:=w;refine⟨n,by rw [<-yK e,<-yq e];exact a,λm hm z=>b m hm ?_⟩;rw [<-yK e,<-yq e] at z;exact f _ z
theorem CC {α:Type}(xs:List α)(x:α){p:Nat}(hp:p<=xs.length)(i:Nat):(xs.take p++x::xs.drop p)[i]? =if i<p then xs[i]? else if i=p then some x else xs[i-1]? :=by
 have tl:(xs.take p).length=p:=by rw [D8];omega
 by_cases a:i<p
 ·rw [if_pos a,S0 (by omega),List.getElem?_take,if_pos a]
 ·rw [if_neg a,P8 (by omega),tl]
  by_cases b:i=p
  ·rw [if_pos b,b,Nat.sub_self];rfl
  ·rw [if_neg b,show i-p=(i-p-1)+1 by omega,T4,A4]
   congr 1;omega
structure Laid (t:SetTable)(hs:List Int):Prop where
 pow: ∃k,t.mask+1=2^k
 big:7<=t.mask
 dum:t.dummies= #[]
 rise:t.place.toList.Pairwise (· < ·)
 size:t.place.size=hs.length
 room:hs.length<=t.mask
 low: ∀ (i j:Nat),t.place[i]? =some j->j<=t.mask
 way: ∀ (i:Nat) (h:Int) (j:Nat),hs[i]? =some h->t.place[i]? =some j->Way t h j
variable {hs:List Int}
theorem Laid.free (l:Laid t hs): ∃e,e<=t.mask/\t.slot e= .empty:=by
 refine Q5 λno=> ?_
 have nd:t.place.toList.Nodup:=l.rise.imp λ{a b} z=>R3 z
 have all: ∀e,e<t.mask+1->e∈t.place.toList:=λe he=>by
  refine Q5 λz=>no ⟨e,by omega,(vU l.dum l.rise).mpr λi q=>z ?_⟩
  exact G1t.mpr (Array.mem_of_getElem? q)
 have key: ∀ (ys zs:List Nat),ys.Nodup->(∀y∈ys,y∈zs)->ys.length<=zs.length:=by
  intro ys
  induction ys with
  |nil=>intro zs _ _;exact S9 _
  |cons y ys ih=>
   intro zs d s;obtain⟨d1,d2⟩:=L6.mp d;have hy:=s y P9;have:=ih (zs.erase y) d2 λx hx=>(Q7 (show x≠y from λq=>d1 (by rw [<-q];exact hx))).mpr (s x (D5 _ hx))
   rw [J0 hy] at this;have:0<zs.length:=K5 hy;rw [P6];omega
 have:=key (List.range (t.mask+1)) t.place.toList List.nodup_range λy hy=>all y (D6.mp hy)
 rw [R5,P2,l.size] at this;have:=l.room;omega
theorem Laid.search (l:Laid t hs)(h:Int): ∃n,n<10*SetTable.turns t.mask/\t.slot (zp t n (t.probeStart h)).j= .empty/\(∀m,m<n->t.slot (zp t m (t.probeStart h)).j≠ .empty)/\ ∀i:Nat,hs[i]? =some h-> ∃m,m<n/\t.slot (zp t m (t.probeStart h)).j= .live i:=by
 obtain⟨k,hk⟩:=l.pow;obtain⟨e,he,em⟩:=l.free;obtain⟨n,a,b,c⟩:=XE hk h he em;refine⟨n,a,b,c,λi hi=> ?_⟩;obtain⟨j,hj⟩: ∃j,t.place[i]? =some j:=⟨t.place[i]'(by rw [l.size];exact(P0.mp hi).1),E7 _⟩;obtain⟨m,x,y⟩:=l.way i h j hi hj;have lv:t.slot (zp t m (t.probeStart h)).j= .live i:=by rw [x];exact Ma l.rise hj
 refine⟨m,?_,lv⟩;rcases G04 m n with z|z|z
 ·exact z
 ·rw [z,b] at lv;cases lv
 ·exact absurd b (y n z)
theorem Mc (t:SetTable)(j:Nat):(t.put j).1.place.toList=t.place.toList.take (SetTable.below t.place j)++j::t.place.toList.drop (SetTable.below t.place j):=Y3 ..
theorem Md (d:t.dummies= #[])(j:Nat):(t.put j).1.dummies= #[]:=by
 show (if SetTable.has t.dummies j then _ else t.dummies)= #[];rw [d,if_neg (by simp [SetTable.has])]
theorem Laid.put (l:Laid t hs){h:Int}{j:Nat}(em:t.slot j= .empty)(jm:j<=t.mask)(w:Way t h j)(room:hs.length+1<=t.mask):Laid (t.put j).1 (hs.take (t.put j).2++h::hs.drop (t.put j).2):=by
 have pe:(t.put j).2=SetTable.below t.place j:=rfl;have me:t.mask=(t.put j).1.mask:=rfl;have pl:=Mc t j;have hp:SetTable.below t.place j<=t.place.size:=(HT.vJ l.rise j).2.2;have hp1:SetTable.below t.place j<=t.place.toList.length:=by rw [P2];exact hp
 have hp2:SetTable.below t.place j<=hs.length:=by rw [<-l.size];exact hp
 have rise:(t.put j).1.place.toList.Pairwise (· < ·):=HT.ZJ l.rise (HT.Yd em);have at1: ∀i:Nat,(t.put j).1.place[i]? =if i<SetTable.below t.place j then t.place[i]? else if i=SetTable.below t.place j then some j else t.place[i-1]? :=λi=>by
  have:=CC t.place.toList j hp1 i;rw [<-pl] at this;simpa using this
 have sl: ∀x,(t.put j).1.slot x= .empty->t.slot x= .empty:=λx hx=>by
  rw [vU (Md l.dum j) rise] at hx;rw [vU l.dum l.rise];intro i e
  by_cases c:i<SetTable.below t.place j
  ·exact hx i (by rw [at1,if_pos c];exact e)
  ·exact hx (i+1) (by rw [at1,if_neg (by omega),if_neg (by omega)];exact e)
 rw [pe];refine⟨l.pow,l.big,Md l.dum j,rise,?_,?_,λi x hx=> ?_,λi g x hg hx=> ?_⟩
 ·rw [<-P2,pl];simp only [G6,P6,D8,T3,P2];have:=l.size;omega
 ·show _<=t.mask;simp only [G6,P6,D8,T3];omega
 ·rw [at1] at hx;split at hx
  ·exact l.low _ _ hx
  ·split at hx
   ·injection hx with hx;subst hx;exact jm
   ·exact l.low _ _ hx
 ·rw [at1] at hx;rw [CC hs h hp2] at hg
  by_cases c:i<SetTable.below t.place j
  ·rw [if_pos c] at hg hx;exact(l.way i g x hg hx).more me sl
  ·rw [if_neg c] at hg hx
   by_cases b:i=SetTable.below t.place j
   ·rw [if_pos b] at hg hx;injection hg with hg;injection hx with hx
    subst hg hx;exact w.more me sl
   ·rw [if_neg b] at hg hx;exact(l.way (i-1) g x hg hx).more me sl
theorem Pe (a b:Nat)(led:Bool):Laid (.fresh a b led) []:=⟨⟨3,rfl⟩,G5 7,rfl,List.Pairwise.nil,rfl,S9 _,λi j h=>by simp [SetTable.fresh] at h,λi h j e=>by simp at e⟩
theorem CF (t:SetTable): ∀ (k i q m j:Nat) (d:Option Nat),k<=m->zp t k ⟨j,m,i,q,d⟩=⟨j+k,m-k,i,q,d⟩
 |0,i,q,m,j,d,_=>rfl
 |k+1,i,q,m,j,d,h=>by
  have a:t.advance ⟨j,m,i,q,d⟩=⟨j+1,m-1,i,q,d⟩:=by unfold SetTable.advance;rw [if_pos (show m>0 by omega)]
  show zp t k (t.advance ⟨j,m,i,q,d⟩)=_;rw [a,CF t k i q (m-1) (j+1) d (by omega)]
  congr 1<;>omega
def HH (t:SetTable)(E:Nat->Bool)(h:Int)(j:Nat):Prop:= ∃n,(zp t n (t.probeStart h)).j=j/\ ∀m,m<n->E (zp t m (t.probeStart h)).j=false
variable {owner:Array (Option Nat)}
theorem Gc: ∀ (fuel L n:Nat) {j:Nat},zp t n (t.probeStart h)=XD t (Vz (t.mask+1) (SetTable.bits h) L) (SetTable.bits h / 32^L) none->(∀m,m<n->(owner.getD (zp t m (t.probeStart h)).j (some 0)).isNone=false)->
 SetTable.layClean.free t.mask owner fuel (Vz (t.mask+1) (SetTable.bits h) L) (SetTable.bits h / 32^L)=some j->(owner.getD j (some 0)).isNone=true/\HH t (λx=>(owner.getD x (some 0)).isNone) h j
 |0,_,_,_,_,_,e=>by cases e
 |fuel+1,L,n,j,hn,ne,e=>by
  unfold SetTable.layClean.free at e;generalize hI:Vz (t.mask+1) (SetTable.bits h) L=I at hn e;have run: ∀k,k<=SetTable.runEnd t.mask I-I->(zp t (n+k) (t.probeStart h)).j=I+k:=λk hk=>by
   rw [vT,hn];exact congrArg SetTable.Probe.j (CF t k I _ _ I none hk)
  have re:I<=SetTable.runEnd t.mask I:=by unfold SetTable.runEnd;split<;>omega
  split at e
  ·rename_i k hk;injection e with e
   subst e;obtain⟨a,b,c⟩:=List.find?_range_eq_some.mp hk;have kl:=D6.mp b;refine⟨a,n+k,run k (by omega),λm hm=> ?_⟩;rcases A8 m n with z|z
   ·exact ne m z
   ·have:=c (m-n) (by omega);have r:=run (m-n) (by omega);rw [L8 z] at r;show (owner.getD (zp t m (t.probeStart h)).j (some 0)).isNone=false;rw [r];simpa using this
  ·rename_i hk;have none:=List.find?_eq_none.mp hk;have nx:=vf t _ (XD t I (SetTable.bits h / 32^L) .none) rfl;refine Gc fuel (L+1) (n+(SetTable.runEnd t.mask I-I+1)) (j:=j) ?_ (λm hm=> ?_) ?_
   ·rw [vT,hn];refine nx.trans ?_;show XD t ((I*5+1+SetTable.bits h / 32^L / 32)%(t.mask+1)) (SetTable.bits h / 32^L / 32) .none=_;rw [V8,<-A2,<-hI];rfl
   ·rcases A8 m n with z|z
    ·exact ne m z
    ·have:=none (m-n) (D6.mpr (by omega));have r:=run (m-n) (by omega);rw [L8 z] at r;rw [r];exact K0.mpr this
   ·rw [show SetTable.leap t.mask I (SetTable.bits h / 32^L)=((I*5+1+SetTable.bits h / 32^L / 32)%(t.mask+1),SetTable.bits h / 32^L / 32) from rfl] at e;dsimp only at e;rw [V8,<-A2,<-hI] at e;exact e
theorem Me (hN:t.mask+1=2^k){e:Nat}(he:e<=t.mask)(em:(owner.getD e (some 0)).isNone=true): ∃j,SetTable.layClean.free t.mask owner (SetTable.turns t.mask) (SetTable.bits h%(t.mask+1)) (SetTable.bits h)=some j:=by
 obtain⟨m,hm,e1⟩:=CA hN (a:=Vz (t.mask+1) (SetTable.bits h) 13) (Y4 _ (G0r _)) (show e<t.mask+1 by omega);rw [<-YQ h m] at e1;have go: ∀ (fuel L:Nat),(∃L',L<=L'/\L'<L+fuel/\Vz (t.mask+1) (SetTable.bits h) L'=e)-> ∃j,SetTable.layClean.free t.mask owner fuel (Vz (t.mask+1) (SetTable.bits h) L) (SetTable.bits h / 32^L)=some j:=by
  intro fuel
  induction fuel with
  |zero=>rintro L ⟨L',a,b,_⟩;omega
  |succ fuel ih=>
   rintro L ⟨L',a,b,c⟩;unfold SetTable.layClean.free;generalize hI:Vz (t.mask+1) (SetTable.bits h) L=I;split
   ·rename_i k hk;exact⟨_,rfl⟩
   ·rename_i hk;have none:=List.find?_eq_none.mp hk;have ne:I≠e:=λz=>by
     have re:I<=SetTable.runEnd t.mask I:=by unfold SetTable.runEnd;split<;>omega
     have:=none 0 (D6.mpr (by omega));rw [W9,z] at this;exact this em
    have lt:L+1<=L':=by
     rcases A8 L L' with z|z
     ·exact z
     ·have:L=L':=by omega
      subst this;exact absurd (hI.symm.trans c) ne
    obtain⟨j,hj⟩:=ih (L+1) ⟨L',lt,by omega,c⟩;refine⟨j,?_⟩;rw [show SetTable.leap t.mask I (SetTable.bits h / 32^L)=((I*5+1+SetTable.bits h / 32^L / 32)%(t.mask+1),SetTable.bits h / 32^L / 32) from rfl];dsimp only;rw [V8,<-A2,<-hI];exact hj
 have:=go (SetTable.turns t.mask) 0 ⟨13+m,Nat.zero_le _,by unfold SetTable.turns;omega,e1⟩;rw [G0q,G1J] at this;exact this
def emO (owner:Array (Option Nat))(x:Nat):Bool:=(owner.getD x (some 0)).isNone
theorem emO_iff {x:Nat}:emO owner x=true↔owner[x]? =some none:=by
 unfold emO;rw [X0];cases owner[x]? with
 |none=>simp
 |some o=>cases o<;>simp
structure Own (t:SetTable)(hs:List Int)(owner:Array (Option Nat))(k:Nat):Prop where
 size:owner.size=t.mask+1
 lt: ∀x i:Nat,owner[x]? =some (some i)->i<k
 inj: ∀x y i:Nat,owner[x]? =some (some i)->owner[y]? =some (some i)->x=y
 all: ∀i,i<k-> ∃x:Nat,owner[x]? =some (some i)
 way: ∀ (x i:Nat) (h:Int),owner[x]? =some (some i)->hs[i]? =some h->HH t (emO owner) h x
theorem Own.free (o:Own t hs owner k)(room:k<=t.mask): ∃e,e<=t.mask/\emO owner e=true:=by
 refine Q5 λno=> ?_
 have got: ∀x,x<t.mask+1-> ∃i,owner[x]? =some (some i):=λx hx=>by
  have hs':x<owner.size:=by rw [o.size];exact hx
  cases e:owner[x]? with
  |none=>rw [X3] at e;omega
  |some v=>
   cases v with
   |none=>exact absurd ⟨x,by omega,emO_iff.mpr e⟩ no
   |some i=>exact⟨i,rfl⟩
 have gi: ∀x,x<t.mask+1->owner[x]? =some (some (((owner[x]?).getD none).getD 0)):=λx hx=>by
  obtain⟨i,e⟩:=got x hx;rw [e];rfl
 have nd:((List.range (t.mask+1)).map λx=>((owner[x]?).getD none).getD 0).Nodup:=by
  rw [List.Nodup,B0];refine N7.mpr λa b ha hb ab e=> ?_
  rw [W0,W0] at e;rw [R5] at ha hb;have x1:=gi a ha;have x2:=gi b hb;rw [e] at x1;have:=o.inj a b _ x1 x2;omega
 have:=VX (m:=List.range k) nd λy hy=>by
  obtain⟨x,hx,rfl⟩:=R7.mp hy;exact D6.mpr (o.lt x _ (gi x (D6.mp hx)))
 rw [G0,R5,R5] at this;omega
variable {n:Nat}
theorem Own.step (hN:t.mask+1=2^n)(o:Own t hs owner k)(room:k<=t.mask)(hk:hs[k]? =some h): ∃j,SetTable.layClean.free t.mask owner (SetTable.turns t.mask) (SetTable.bits h%(t.mask+1)) (SetTable.bits h)=some j/\Own t hs (owner.setIfInBounds j (some k)) (k+1):=by
 obtain⟨e,he,em⟩:=o.free room;obtain⟨j,hj⟩:=Me (h:=h) hN he em;have w:=Gc (t:=t) (owner:=owner) (h:=h) (SetTable.turns t.mask) 0 0 (j:=j) (by rw [G0q,G1J];rfl) (λm hm=>absurd hm (U8 _)) (by rw [G0q,G1J];exact hj);have jn:owner[j]? =some none:=emO_iff.mp w.1;have js:j<owner.size:=(C6.mp jn).1;have at1: ∀x:Nat,(owner.setIfInBounds j (some k))[x]? =if j=x then some (some k) else owner[x]? :=λx=>by
  rw [Array.getElem?_setIfInBounds]
  by_cases c:j=x
  ·rw [if_pos c,if_pos c,if_pos js]
  ·rw [if_neg c,if_neg c]
 have old: ∀x i:Nat,(owner.setIfInBounds j (some k))[x]? =some (some i)->(x=j/\i=k)\/(x≠j/\owner[x]? =some (some i)):=λx i hx=>by
  rw [at1] at hx;split at hx
  ·rename_i c;injection hx with hx;injection hx with hx;exact .inl ⟨c.symm,hx.symm⟩
  ·rename_i c;exact .inr ⟨Ne.symm c,hx⟩
 have emm: ∀x,emO owner x=false->emO (owner.setIfInBounds j (some k)) x=false:=λx hx=>by
  refine K0.mpr λz=> ?_
  rw [emO_iff,at1] at z;split at z
  ·cases z
  ·rw [emO_iff.mpr z] at hx;cases hx
 refine⟨j,hj,by rw [Y5];exact o.size,λx i hx=> ?_,λx y i hx hy=> ?_,λi hi=> ?_,λx i g hx hg=> ?_⟩
 ·rcases old x i hx with ⟨_,e⟩|⟨_,e⟩
  ·omega
  ·have:=o.lt x i e;omega
 ·rcases old x i hx with ⟨a,b⟩|⟨a,b⟩<;>rcases old y i hy with ⟨c,d⟩|⟨c,d⟩
  ·rw [a,c]
  ·have:=o.lt y i d;omega
  ·have:=o.lt x i b;omega
  ·exact o.inj x y i b d
 ·by_cases c:i=k
  ·exact⟨j,by rw [at1,if_pos rfl,c]⟩
  ·obtain⟨x,hx⟩:=o.all i (by omega);have ne: ¬j=x:=λz=>by rw [<-z,jn] at hx;cases hx
   exact⟨x,by rw [at1,if_neg ne];exact hx⟩
 ·rcases old x i hx with ⟨a,b⟩|⟨a,b⟩
  ·rw [b,hk] at hg;injection hg with hg
   rw [a,<-hg];obtain⟨m,p,q⟩:=w.2;exact⟨m,p,λm' hm=>emm _ (q m' hm)⟩
  ·obtain⟨m,p,q⟩:=o.way x i g b hg;exact⟨m,p,λm' hm=>emm _ (q m' hm)⟩
theorem Bp (t:SetTable)(hs:List Int):Own t hs (Array.replicate (t.mask+1) none) 0:=by
 have no: ∀x i:Nat,(Array.replicate (t.mask+1) (none:Option Nat))[x]? ≠some (some i):=λx i e=>by
  rw [Array.getElem?_replicate] at e;split at e<;>cases e
 exact⟨Array.size_replicate,λx i e=>absurd e (no x i),λx y i e=>absurd e (no x i),λi hi=>absurd hi (U8 _),λx i h e=>absurd e (no x i)⟩
theorem Gd (hN:t.mask+1=2^n)(room:hs.length<=t.mask){F:Option (Array (Option Nat)×Nat)->Int->Option (Array (Option Nat)×Nat)}
 (hF: ∀owner k h j,SetTable.layClean.free t.mask owner (SetTable.turns t.mask) (SetTable.bits h%(t.mask+1)) (SetTable.bits h)=some j->F (some (owner,k)) h=some (owner.setIfInBounds j (some k),k+1)): ∀ (rest:List Int) (k:Nat) (owner:Array (Option Nat)),Own t hs owner k->k<=hs.length->hs.drop k=rest-> ∃owner',rest.foldl F (some (owner,k))=some (owner',hs.length)/\Own t hs owner' hs.length
 | [],k,owner,o,kl,e=>by
  have:k=hs.length:=by have:=List.drop_eq_nil_iff.mp e;omega
  subst this;exact⟨owner,rfl,o⟩
 |h::rest,k,owner,o,kl,e=>by
  have hk:hs[k]? =some h:=by
   have:(hs.drop k)[0]? =some h:=by rw [e];rfl
   rwa [A4,W9] at this
  have lt:k<hs.length:=(P0.mp hk).1;obtain⟨j,hj,o'⟩:=o.step hN (by omega) hk;have e2:hs.drop (k+1)=rest:=by rw [<-List.tail_drop,e];rfl
  obtain⟨owner',a,b⟩:=Gd hN room hF rest (k+1) _ o' lt e2;exact⟨owner',by rw [G0C,hF _ _ _ _ hj];exact a,b⟩
theorem Bq (hN:t.mask+1=2^n)(room:hs.length<=t.mask){F:Option (Array (Option Nat)×Nat)->Int->Option (Array (Option Nat)×Nat)}
 (hF: ∀owner k h j,SetTable.layClean.free t.mask owner (SetTable.turns t.mask) (SetTable.bits h%(t.mask+1)) (SetTable.bits h)=some j->F (some (owner,k)) h=some (owner.setIfInBounds j (some k),k+1)): ∃owner,(hs.foldl F (some (Array.replicate (t.mask+1) none,0))).map (·.1)=some owner/\Own t hs owner hs.length:=by
 obtain⟨owner,a,b⟩:=Gd hN room hF hs 0 _ (Bp t hs) (S9 _) rfl;exact⟨owner,by rw [a];rfl,b⟩
theorem Oa {hashes:Array Int}(hN:t.mask+1=2^n)(room:hashes.size<=t.mask): ∃owner,SetTable.layClean t.mask hashes=some owner/\Own t hashes.toList owner hashes.toList.length:=by
 unfold SetTable.layClean;rw [<-Array.foldl_toList];refine Bq hN (by rw [P2];exact room) λowner k h j hj=> ?_
 show (SetTable.layClean.free t.mask owner _ _ _).bind _=_;rw [hj];rfl
theorem XF: ∀ (n:Nat) (p:SetTable.Probe),p.j+p.more<=t.mask->(zp t n p).j<=t.mask
 |0,p,h=>by show p.j<=t.mask;omega
 |n+1,p,h=>by
  refine XF n (t.advance p) ?_;unfold SetTable.advance;split
  ·show p.j+1+(p.more-1)<=t.mask;omega
  ·have:(p.i*5+1+p.perturb / 32)%(t.mask+1)<t.mask+1:=Y4 _ (G0r _);show (p.i*5+1+p.perturb / 32)%(t.mask+1)+(SetTable.runEnd t.mask ((p.i*5+1+p.perturb / 32)%(t.mask+1))-(p.i*5+1+p.perturb / 32)%(t.mask+1))<=t.mask;unfold SetTable.runEnd;split<;>omega
theorem Ur (t:SetTable)(h:Int):(t.probeStart h).j+(t.probeStart h).more<=t.mask:=by
 have:SetTable.bits h%(t.mask+1)<t.mask+1:=Y4 _ (G0r _);show SetTable.bits h%(t.mask+1)+(SetTable.runEnd t.mask (SetTable.bits h%(t.mask+1))-SetTable.bits h%(t.mask+1))<=t.mask;unfold SetTable.runEnd;split<;>omega
theorem Sz {T0 T':SetTable}{E:Nat->Bool}{j:Nat}(em:T0.mask=T'.mask)(f: ∀y,y<=T0.mask->E y=false->T'.slot y≠ .empty)(w:HH T0 E h j):Way T' h j:=by
 obtain⟨n,a,b⟩:=w;refine⟨n,by rw [<-yK em,<-yq em];exact a,λm hm=> ?_⟩;rw [<-yK em,<-yq em];exact f _ (XF m _ (Ur T0 h)) (b m hm)
theorem Ob {mask finger moves:Nat}{led plain:Bool}{hashes:Array Int}(hN:mask+1=2^n)(h7:7<=mask)(room:hashes.size<=mask): ∃t' order,SetTable.laid mask finger moves led plain hashes=some (t',order)/\t'.mask=mask/\t'.led=led/\t'.plain=plain/\order.toList.Perm (List.range hashes.size)/\Laid t' (order.toList.map λi=>hashes.toList.getD i 0):=by
 obtain⟨T0,hm⟩: ∃T0:SetTable,T0.mask=mask:=⟨{SetTable.fresh 0 0 true with mask:=mask},rfl⟩;subst hm;obtain⟨owner,ho,own⟩:=Oa (t:=T0) (hashes:=hashes) hN room;unfold SetTable.laid;rw [ho];refine⟨_,_,rfl,rfl,rfl,rfl,?_⟩;generalize hl:((List.range (T0.mask+1)).filterMap λj=>(owner.getD j none).map (j,·))=live;have osz:owner.size=T0.mask+1:=own.size;have mem: ∀x i:Nat,(x,i)∈live↔owner[x]? =some (some i):=λx i=>by
  rw [<-hl,K9];constructor
  ·rintro ⟨j,hj,e⟩;rw [X0] at e;cases z:owner[j]? with
   |none=>rw [z] at e;cases e
   |some v=>
    rw [z] at e;cases v with
    |none=>cases e
    |some w=>cases e;exact z
  ·intro e;have lt:x<owner.size:=(C6.mp e).1;refine⟨x,D6.mpr (by omega),?_⟩;rw [X0,e];rfl
 have sub:(live.map (·.1)).Sublist (List.range (T0.mask+1)):=by rw [<-hl];exact HT.JZ _ _
 have rise:(live.map (·.1)).Pairwise (· < ·):=List.pairwise_lt_range.sublist sub;have nd:(live.map (·.2)).Nodup:=by
  rw [List.Nodup,B0];rw [B0] at rise;refine rise.imp_of_mem λ{a b} ha hb lt e=> ?_
  have:=own.inj a.1 b.1 a.2 ((mem _ _).mp ha) (by rw [e];exact(mem _ _).mp hb);omega
 have len0:hashes.toList.length=hashes.size:=P2;have pm:(live.map (·.2)).Perm (List.range hashes.size):=by
  refine(List.perm_ext_iff_of_nodup nd List.nodup_range).mpr λi=> ?_
  rw [D6];constructor
  ·intro h;obtain⟨⟨x,i'⟩,a,rfl⟩:=R7.mp h;have:=own.lt x i' ((mem _ _).mp a);omega
  ·intro h;obtain⟨x,hx⟩:=own.all i (by omega);exact R7.mpr ⟨(x,i),(mem _ _).mpr hx,rfl⟩
 have ll:live.length=hashes.size:=by have:=pm.length_eq;rwa [G0,R5] at this
 refine⟨pm,⟨n,hN⟩,h7,rfl,rise,?_,?_,λi j hj=> ?_,λi h x hh hx=> ?_⟩
 ·simp
 ·show _<=T0.mask;simp only [G0];omega
 ·have hj:(live.map (·.1))[i]? =some j:=by simpa using hj
  have:=D6.mp (sub.subset (G9 hj));show j<=T0.mask;omega
 ·have hx:(live.map (·.1))[i]? =some x:=by simpa using hx
  have hh:((live.map (·.2)).map λi=>hashes.toList.getD i 0)[i]? =some h:=hh;rw [P4] at hx;obtain⟨⟨x',i'⟩,e1,e2⟩:=F9.mp hx;have e2:x'=x:=e2;subst e2;rw [P4,P4,e1] at hh;have hh:hashes.toList.getD i' 0=h:=by injection hh
  have ow:=(mem _ _).mp (G9 e1);have lt:=own.lt _ _ ow;have hg:hashes.toList[i']? =some h:=by
   rw [<-hh,R6,G2 lt];rfl
  refine Sz (T0:=T0) rfl (λy hy hb z=> ?_) (own.way _ _ _ ow hg);rw [vU rfl rise] at z;cases e:owner[y]? with
  |none=>rw [X3] at e;omega
  |some v=>
   cases v with
   |none=>rw [emO_iff.mpr e] at hb;cases hb
   |some w=>
    obtain⟨i2,h2⟩:=J8 (R7.mpr ⟨(y,w),(mem _ _).mpr e,rfl⟩:y∈live.map (·.1));exact z i2 (by simpa using h2)
theorem Laid.stands (l:Laid t hs):t.gaveWay=false:=by
 obtain⟨k,hk⟩:=l.pow;have b:=l.big;cases k with
 |zero=>rw [G0q] at hk;omega
 |succ k=>
  rw [A2] at hk;unfold SetTable.gaveWay;refine beq_false_of_ne ?_;omega
theorem Ge: ∀ (fuel k n:Nat),3<=k-> ∃m,3<=m/\SetTable.sizeAbove.go n fuel (2^k)=2^m/\(n<2^(k+fuel)->n<2^m)
 |0,k,n,h=>⟨k,h,rfl,λz=>z⟩
 |fuel+1,k,n,h=>by
  unfold SetTable.sizeAbove.go
  by_cases c:2^k<=n
  ·rw [if_pos c,<-A2];obtain⟨m,a,b,d⟩:=Ge fuel (k+1) n (by omega);exact⟨m,a,b,λz=>d (by rw [Nat.add_right_comm,G1d];exact z)⟩
  ·rw [if_neg c];exact⟨k,h,rfl,λ_=>by omega⟩
theorem above (h:n<2^67): ∃m,SetTable.sizeAbove n=2^m/\n<SetTable.sizeAbove n/\8<=SetTable.sizeAbove n:=by
 obtain⟨m,a,b,c⟩:=Ge 64 3 n (by decide);have b:SetTable.sizeAbove n=2^m:=b;refine⟨m,b,by rw [b];exact c h,?_⟩;rw [b];exact G1w (show 0<2 by decide) a
end L2
namespace L2
open PySem PySem.Spec PyProof.Rows HT
variable {prog:Program}{w:World}{A:Around}{E:Value->Shared->Prop}{s:Shared}{a:Addr}{es:Array (Int×Value)}{ep:Nat}{t:SetTable}
theorem Laid.fits {hs:List Int}(l:Laid t hs){n:Nat}(e:hs.length=n):t.fits n=true:=by
 have a:=l.size;have b:=l.room;have c:=l.dum;simp only [SetTable.fits,SetTable.fill,T5,V5,E3,c];simp;omega
theorem Gf (t:SetTable):t.sameMemory t.moves t.mask=some true:=by
 unfold SetTable.sameMemory;rw [if_pos (J4 _)]
theorem Gg {b:Addr}{Q:Bool->Shared->Prop}(q:Q true s):wpAny (model prog w) A (isSame (.ref b) (.ref b)) Q E s:=by
 unfold isSame;dsimp only;rw [if_pos (J4 _)];exact G3 q
variable {eqk:Nat->Bool}
theorem XG {Q:SetFound->Shared->Prop}{x:Value}{h:Int}{n:Nat}(l:Laid t (es.toList.map (·.1)))(ho:s.heap.get? a=some (zC es ep t))
 (refs: ∀ (i:Nat) (y:Value),es[i]? =some (h,y)-> ∃b,y= .ref b)
 (seen: ∀Q':Bool->Shared->Prop,Q' false s->wpAny (model prog w) A (searchCouldBeSeen x ((es.filter (·.1==h)).toList.map (·.2))) Q' E s)
 (cmp: ∀ (i:Nat) (y:Value),es[i]? =some (h,y)-> ∀Q':Bool->Shared->Prop,Q' (eqk i) s->wpAny (model prog w) A (holding [y] (eqBool y x)) Q' E s)
 (em:t.slot (zp t n (t.probeStart h)).j= .empty)(nb:n<10*SetTable.turns t.mask)(ne: ∀m,m<n->t.slot (zp t m (t.probeStart h)).j≠ .empty)
 (free:(∀m i,m<n->t.slot (zp t m (t.probeStart h)).j= .live i->(es[i]?.map (·.1)).getD 0=h->eqk i=false)->Q (.free (zp t n (t.probeStart h)).j false) s)
 (there: ∀ (i:Nat) (y:Value),es[i]? =some (h,y)->eqk i=true->Q (.there none) s):
 ∀ (r k fuel:Nat) (stand:Option SetTable.Probe),k+r=n->r<fuel->stand.getD (t.probeStart h)=zp t k (t.probeStart h)->(∀m i,m<k->t.slot (zp t m (t.probeStart h)).j= .live i->(es[i]?.map (·.1)).getD 0=h->eqk i=false)->
  wpAny (model prog w) A (setSearchFrom a x h true fuel stand) Q E s:=by
 intro r
 induction r using Nat.strongRecOn with
 |ind r ih=>
 intro k fuel stand kr rf st old;obtain⟨fuel,rfl⟩: ∃f,fuel=f+1:=⟨fuel-1,by omega⟩;have fit:t.fits es.size=true:=l.fits (by rw [G0,P2]);unfold setSearchFrom;refine wpAny_bind (N9 ho rfl fit ?_);dsimp only;rw [l.stands];simp only [B1,↓reduceIte];have ad: ∀m,zp t m (zp t k (t.probeStart h))=zp t (k+m) (t.probeStart h):=λm=>(vT t k m _).symm
 have dn: ∀ (m:Nat) (p:SetTable.Probe),p.dummy=none->(zp t m p).dummy=none:=λm=>by
  induction m with
  |zero=>exact λp hp=>hp
  |succ m ihm=>exact λp hp=>ihm _ (by unfold SetTable.advance;split<;>exact hp)
 have out:=CB (f:=λi=>(es[i]?.map (·.1)).getD 0) (h:=h) l.dum r (10*SetTable.turns t.mask) (zp t k (t.probeStart h)) (by omega) (by rw [ad,kr];exact em) (λm hm=>by rw [ad];exact ne _ (by omega)) (dn _ _ rfl);have e0:t.probe (λi=>(es[i]?.map (·.1)).getD 0) h (stand.getD (t.probeStart h))=SetTable.probe.go t (λi=>(es[i]?.map (·.1)).getD 0) h (10*SetTable.turns t.mask) (zp t k (t.probeStart h)):=by rw [st];rfl
 rw [<-e0] at out;split
 ·rename_i met hmet;have hmet:t.probe (λi=>(es[i]?.map (·.1)).getD 0) h (stand.getD (t.probeStart h))=some met:=hmet;rw [hmet] at out;rcases out with ⟨e,no⟩|⟨m,i,mr,sl,hi,no,e⟩
  ·injection e with e
   subst e;dsimp only;refine G3 ?_;rw [ad,kr];refine free λm i hm sl hi=> ?_
   rcases A8 m k with z|z
   ·exact old m i z sl hi
   ·refine absurd hi (no (m-k) (by omega) i ?_);rw [ad,L8 z];exact sl
  ·injection e with e
   subst e;dsimp only;obtain⟨y,ei⟩: ∃y,es[i]? =some (h,y):=by
    obtain⟨lt,_⟩:=C6.mp (Mb sl);have sz:i<es.size:=by have:=l.size;rw [G0,P2] at this;omega
    rw [E7 sz] at hi ⊢;have hi:es[i].1=h:=hi;exact⟨es[i].2,by rw [<-hi]⟩
   cases hl:t.led
   ·simp only [Bool.not_false,↓reduceIte];refine wpAny_bind (seen _ ?_);simp only [B1,↓reduceIte];rw [ei];dsimp only;refine wpAny_bind (cmp i y ei _ ?_);refine wpAny_bind (N9 ho rfl fit ?_);dsimp only;cases ek:eqk i with
    |true=>simp only [G1P,↓reduceIte];exact G3 (there i y ei ek)
    |false=>
     simp only [G0k,B1,↓reduceIte,Gf,sl,ei];obtain⟨b,rfl⟩:=refs i y ei;refine wpAny_bind (Gg ?_);refine wpAny_bind (G3 ?_);simp only [↓reduceIte];refine ih (r-(m+1)) (by omega) (k+(m+1)) fuel (some _) (by omega) (by omega) (by show zp t (m+1) _=_;rw [ad]) (λm' i' hm' sl' hi'=> ?_);rcases A8 m' k with z|z
     ·exact old m' i' z sl' hi'
     ·have e1:zp t m' (t.probeStart h)=zp t (m'-k) (zp t k (t.probeStart h)):=by rw [ad,L8 z]
      rw [e1] at sl';rcases A8 (m'-k) m with y|y
      ·exact absurd hi' (no (m'-k) y i' sl')
      ·have e2:m'-k=m:=by omega
       rw [e2,sl] at sl';injection sl' with sl'
       rw [<-sl'];exact ek
   ·simp only [Bool.not_true,B1,↓reduceIte];rw [ei];dsimp only;refine wpAny_bind (cmp i y ei _ ?_);refine wpAny_bind (N9 ho rfl fit ?_);dsimp only;cases ek:eqk i with
    |true=>simp only [G1P,↓reduceIte];exact G3 (there i y ei ek)
    |false=>
     simp only [G0k,B1,↓reduceIte,Gf,sl,ei];obtain⟨b,rfl⟩:=refs i y ei;refine wpAny_bind (Gg ?_);refine wpAny_bind (G3 ?_);simp only [↓reduceIte];refine ih (r-(m+1)) (by omega) (k+(m+1)) fuel (some _) (by omega) (by omega) (by show zp t (m+1) _=_;rw [ad]) (λm' i' hm' sl' hi'=> ?_);rcases A8 m' k with z|z
     ·exact old m' i' z sl' hi'
     ·have e1:zp t m' (t.probeStart h)=zp t (m'-k) (zp t k (t.probeStart h)):=by rw [ad,L8 z]
      rw [e1] at sl';rcases A8 (m'-k) m with y|y
      ·exact absurd hi' (no (m'-k) y i' sl')
      ·have e2:m'-k=m:=by omega
       rw [e2,sl] at sl';injection sl' with sl'
       rw [<-sl'];exact ek
 ·rename_i hmet;rcases out with ⟨e,_⟩|⟨_,_,_,_,_,_,e⟩<;>exact(hmet _ e).elim
theorem Pf {Q:SetFound->Shared->Prop}{x:Value}{h:Int}(l:Laid t (es.toList.map (·.1)))(few:t.mask<=9000)(ho:s.heap.get? a=some (zC es ep t))
 (refs: ∀ (i:Nat) (y:Value),es[i]? =some (h,y)-> ∃b,y= .ref b)
 (seen: ∀Q':Bool->Shared->Prop,Q' false s->wpAny (model prog w) A (searchCouldBeSeen x ((es.filter (·.1==h)).toList.map (·.2))) Q' E s)
 (cmp: ∀ (i:Nat) (y:Value),es[i]? =some (h,y)-> ∀Q':Bool->Shared->Prop,Q' (eqk i) s->wpAny (model prog w) A (holding [y] (eqBool y x)) Q' E s)
 (free: ∀j,(∀ (i:Nat) (y:Value),es[i]? =some (h,y)->eqk i=false)->t.slot j= .empty->j<=t.mask->Way t h j->Q (.free j false) s)
 (there: ∀ (i:Nat) (y:Value),es[i]? =some (h,y)->eqk i=true->Q (.there none) s):wpAny (model prog w) A (setSearch a x h true) Q E s:=by
 obtain⟨n,nb,em,ne,met⟩:=l.search h;refine XG l ho refs seen cmp em nb ne (λal=>free _ (λi y e=> ?_) em (XF n _ (Ur t h)) ⟨n,rfl,ne⟩) there n 0 100000 none (Nat.zero_add n) (by unfold SetTable.turns at nb;omega) rfl (λm i hm=>absurd hm (Nat.not_lt_zero _));have e1:(es.toList.map (·.1))[i]? =some h:=by
  rw [P4,R4,e];rfl
 obtain⟨m,hm,sl⟩:=met i e1;exact al m i hm sl (by rw [e];rfl)
theorem Laid.plain {hs:List Int}(l:Laid t hs)(b:Bool):Laid {t with plain:=b} hs:=
 ⟨l.pow,l.big,l.dum,l.rise,l.size,l.room,l.low,λi h j x y=>Way.more (t:=t) (u:= {t with plain:=b}) rfl (λ_ z=>z) (l.way i h j x y)⟩
theorem Pg (es:Array (Int×Value))(h:Int)(x:Value)(p:Nat):(SetTable.insertAt es p (h,x)).toList.map (·.1)=(es.toList.map (·.1)).take p++h::(es.toList.map (·.1)).drop p:=by
 rw [Y3,S4,T9,G1L,G1M]
theorem Gh: ∀ (fuel k n:Nat),SetTable.sizeAbove.go n fuel (2^k)<=2^k\/SetTable.sizeAbove.go n fuel (2^k)<=2*n
 |0,k,n=> .inl (G5 _)
 |fuel+1,k,n=>by
  unfold SetTable.sizeAbove.go
  by_cases c:2^k<=n
  ·rw [if_pos c,<-A2];rcases Gh fuel (k+1) n with z|z
   ·refine .inr (P7 z ?_);rw [A2];omega
   ·exact .inr z
  ·rw [if_neg c];exact .inl (G5 _)
theorem XH {hashes:Array Int}{w:Nat}(hw:hashes.size<=w)(few:w<=40000):SetTable.sizeAbove w<=80008/\ ∃t' order,t.relaid hashes w=some (t',order)/\t'.led=t.led/\w<=t'.mask/\t'.mask<=2*w+8/\order.toList.Perm (List.range hashes.size)/\Laid t' (order.toList.map λi=>hashes.toList.getD i 0):=by
 obtain⟨m,a,b,c⟩:=above (n:=w) (by omega);have u:SetTable.sizeAbove w<=8\/SetTable.sizeAbove w<=2*w:=Gh 64 3 w;refine⟨by omega,?_⟩;obtain⟨t',order,x,mk,y,z,p,q⟩:=Ob (mask:=SetTable.sizeAbove w-1) (finger:=t.finger) (moves:=t.movedTo (SetTable.sizeAbove w-1)) (led:=t.led) (plain:=t.plain) (hashes:=hashes) (n:=m) (by rw [<-a];omega) (by omega) (by omega);exact⟨t',order,x,y,by rw [mk];omega,by rw [mk];omega,p,q⟩
theorem Mf {Q:Unit->Shared->Prop}{wd:Nat}(l:Laid t (es.toList.map (·.1)))(ho:s.heap.get? a=some (zC es ep t))(hw:es.size<=wd)(few:wd<=40000)
 (k: ∀es' t' h',es'.toList.Perm es.toList->Laid t' (es'.toList.map (·.1))->t'.led=t.led->wd<=t'.mask->t'.mask<=2*wd+8->h'.get? a=some (zC es' (ep+1) t')->Heap.SameBut a s.heap h'->Q () {s with heap:=h'}):wpAny (model prog w) A (setRelay a wd) Q E s:=by
 have fit:t.fits es.size=true:=l.fits (by rw [G0,P2]);obtain⟨up,t',order,er,ld,m1,m2,pm,l'⟩:=XH (t:=t) (hashes:=es.map (·.1)) (w:=wd) (by rw [Array.size_map];exact hw) few;unfold setRelay;refine wpAny_bind (N9 ho rfl fit ?_);dsimp only;rw [er];have sl: ¬SetTable.sizeAbove wd>sizeLine:=K7.mpr (P7 up (by decide));simp only [sl,↓reduceIte];have fe: ∀l:List Nat,(∀i∈l,i<es.size)->l.filterMap (λi=>es[i]?)=l.map (λi=>es.toList.getD i (0,.none)):=λl=>by
  induction l with
  |nil=>exact λ_=>rfl
  |cons i l ih=>
   intro h;have hi:=h i P9;have e:es[i]? =some (es.toList.getD i (0,.none)):=by
    rw [R6,R4,E7 hi];rfl
   rw [List.filterMap_cons_some e,T9,ih λx hx=>h x (D5 _ hx)]
 rw [Array.size_map] at pm;have lt: ∀i∈order.toList,i<es.size:=λi hi=>D6.mp (pm.mem_iff.mp hi)
 have e1:(order.filterMap (es[·]?)).toList=order.toList.map (λi=>es.toList.getD i (0,.none)):=by
  rw [Array.toList_filterMap];exact fe _ lt
 have e2:es.toList=(List.range es.size).map (λi=>es.toList.getD i (0,.none)):=by
  have:=vG es.toList (0,(.none:Value))
  rwa [P2] at this
 have pe:(order.filterMap (es[·]?)).toList.Perm es.toList:=by
  have:=pm.map (λi=>es.toList.getD i (0,.none));rw [<-e2] at this;rw [e1];exact this
 have sz:(order.filterMap (es[·]?)).size=es.size:=by have:=pe.length_eq;rwa [P2,P2] at this
 have hh:(order.filterMap (es[·]?)).toList.map (·.1)=order.toList.map λi=>(es.map (·.1)).toList.getD i 0:=by
  rw [e1,M9];refine B8 λi hi=> ?_
  show (es.toList.getD i (0,.none)).1=(es.map (·.1)).toList.getD i 0;have z:i<es.toList.length:=by rw [P2];exact lt i hi
  rw [Array.toList_map,R6,R6,P4,G2 z];rfl
 rw [<-hh] at l';refine wpAny_bind ?_;show wpAny _ _ (ite _ _ _) _ _ _;rw [if_neg (by rw [sz];simp)];refine G3 ?_;dsimp only;exact G03 (s:=s) ho rfl (k _ t' _ pe l' ld m1 m2 (T6 _ ho rfl) (M5 ..)) (by rw [sz];exact P7 (show es.size<=40000 by omega) (by decide))
theorem Oc {Q:Bool->Shared->Prop}{b:Addr}{h:Int}{bv:Bool}{fuel:Nat}(l:Laid t (es.toList.map (·.1)))(few:t.mask<=9000)(lean:es.size*5<t.mask*3)(ho:s.heap.get? a=some (zC es ep t))
 (refs: ∀ (i:Nat) (y:Value),es[i]? =some (h,y)-> ∃b,y= .ref b)
 (seen: ∀Q':Bool->Shared->Prop,Q' false s->wpAny (model prog w) A (searchCouldBeSeen (.ref b) ((es.filter (·.1==h)).toList.map (·.2))) Q' E s)
 (cmp: ∀ (i:Nat) (y:Value),es[i]? =some (h,y)-> ∀Q':Bool->Shared->Prop,Q' (eqk i) s->wpAny (model prog w) A (holding [y] (eqBool y (.ref b))) Q' E s)
 (byv: ∀Q':Bool->Shared->Prop,Q' bv s->wpAny (model prog w) A (hashByValue 8 (.ref b)) Q' E s)
 (new:(∀ (i:Nat) (y:Value),es[i]? =some (h,y)->eqk i=false)-> ∀es' ep' t' h',es'.toList.Perm (es.push (h,.ref b)).toList->Laid t' (es'.toList.map (·.1))->t'.mask<=max t.mask (8*es.size+16)->es'.size*5<t'.mask*3->t'.led=t.led->h'.get? a=some (zC es' ep' t')->Heap.SameBut a s.heap h'->Q true {s with heap:=h'})
 (there: ∀ (i:Nat) (y:Value),es[i]? =some (h,y)->eqk i=true->Q false s):wpAny (model prog w) A (setAddHashedIn a (.ref b) h (fuel+1)) Q E s:=by
 have fit:t.fits es.size=true:=l.fits (by rw [G0,P2]);have sz:(es.toList.map (·.1)).length=es.size:=by rw [G0,P2]
 unfold setAddHashedIn;refine wpAny_bind (N9 ho rfl fit ?_);dsimp only;rw [show byScan (.ref b) es=false from rfl];simp only [B1,↓reduceIte];refine wpAny_bind (Pf (eqk:=eqk) l few ho refs seen cmp (λj no em jm wy=> ?_) (λi y e ek=> ?_))
 ·dsimp only;refine wpAny_bind (N9 ho rfl fit ?_);dsimp only;have l1:=l.put em jm wy (by rw [sz];have:=l.big;omega);have l1:=(congrArg (Laid (t.put j).1) (Pg es h (.ref b) (t.put j).2)).mpr l1;have z0:(SetTable.insertAt es (t.put j).2 (h,.ref b)).size=es.size+1:=by
   have:=(G0c es (t.put j).2 (h,(.ref b:Value))).length_eq;rw [P2,P2,Array.size_push] at this;exact this
  have z1:(SetTable.insertAt es (t.put j).2 (h,.ref b)).size<=sizeLine:=by
   rw [z0];exact P7 (show es.size+1<=10000 by omega) (by decide)
  have rest: ∀t2:SetTable,Laid t2 ((SetTable.insertAt es (t.put j).2 (h,.ref b)).toList.map (·.1))->t2.led=t.led->t2.mask=t.mask->wpAny (model prog w) A (do storeSet a (SetTable.insertAt es (t.put j).2 (h,.ref b)) t2;if (!false&&t2.tooFull)=true then (do setRelay a (SetTable.grown (es.size+1));pure true) else pure true) Q E s:=λt2 l2 ld mk=>by
   refine wpAny_bind (G03 (s:=s) ho rfl ?_ z1);have o1:(s.heap.update a (Obj.putSet (SetTable.insertAt es (t.put j).2 (h,.ref b)) t2)).get? a=some (zC (SetTable.insertAt es (t.put j).2 (h,.ref b)) (ep+1) t2):=T6 _ ho rfl;cases tf:t2.tooFull with
   |true=>
    simp only [Bool.not_false,G1P,↓reduceIte];refine wpAny_bind (Mf (wd:=SetTable.grown (es.size+1)) (ep:=ep+1) l2 o1 (by rw [z0];unfold SetTable.grown;split<;>omega) (by unfold SetTable.grown;split<;>omega) λes' t' h' pe l' ld' m1 m2 o2 sb=> ?_);refine G3 (new no es' (ep+1+1) t' h' (pe.trans (G0c ..)) l' ?_ ?_ (ld'.trans ld) o2 (Heap.SameBut.trans (M5 ..) sb))
    ·unfold SetTable.grown at m2;split at m2<;>omega
    ·have:=pe.length_eq;rw [P2,P2,z0] at this;unfold SetTable.grown at m1;split at m1<;>omega
   |false=>
   simp only [G0k,B1,↓reduceIte];refine G3 (new no _ (ep+1) t2 _ (G0c ..) l2 (by omega) ?_ ld (T6 _ ho rfl) (M5 ..));rw [z0];have s2:=l2.size;rw [G0,P2,z0] at s2;have: ¬ (t2.fill*5>=t2.mask*3):=by simpa [SetTable.tooFull] using tf
   have f2:t2.fill=es.size+1:=by unfold SetTable.fill;rw [l2.dum,s2];rfl
   omega
  cases hp:(t.put j).1.plain
  ·simp only [B1,↓reduceIte];refine wpAny_bind (G3 ?_);simp only [↓reduceIte];exact rest (t.put j).1 l1 rfl rfl
  ·simp only [↓reduceIte];refine wpAny_bind (byv _ ?_);cases bv
   ·simp only [B1,↓reduceIte];exact rest _ (l1.plain false) rfl rfl
   ·simp only [↓reduceIte];exact rest (t.put j).1 l1 rfl rfl
 ·exact G3 (there i y e ek)
end L2
namespace L2
open PySem PySem.Spec PyProof.Rows HT
def Od (h h':Heap):Prop:= ∀ (b:Addr) (o:Obj),o.cls= .type "tuple" ->h.get? b=some o->h'.get? b=some o
theorem YR {α β:Type}{M:Model}{A:Around}{E:Value->Shared->Prop}{s:Shared}{f:α->β->Sem (ForInStep β)}{r:β}{Q:β->Shared->Prop}: ∀ (l:List α),(∀x∈l,∀Q':ForInStep β->Shared->Prop,Q' (.yield r) s->wpAny M A (f x r) Q' E s)->Q r s->wpAny M A (forIn l r f) Q E s
 | [],_,q=>G3 q
 |x::l,h,q=>by
  rw [Z5];exact wpAny_bind (h x (.head _) _ (YR l (λy hy=>h y (.tail _ hy)) q))
structure MemK (prog:Program)(w:World)(K:Type)[DecidableEq K] where
 is:Heap->K->Addr->Prop
 hash:K->Int
 inj: ∀ {h:Heap} {x y:K} {a:Addr},is h x a->is h y a->x=y
 keep: ∀ {h h':Heap} {x:K} {a:Addr},Od h h'->is h x a->is h' x a
 hashed: ∀ {A:Around} {E:Value->Shared->Prop} {s:Shared} {x:K} {a:Addr} {Q:Int->Shared->Prop},A.units+8<cLine->is s.heap x a->(∀tk,Q (hash x) {s with toks:=tk})->wpAny (model prog w) A (pyHash (.ref a)) Q E s
 same: ∀ {A:Around} {E:Value->Shared->Prop} {s:Shared} {x y:K} {a b:Addr} {Q:Bool->Shared->Prop},A.units+8<cLine->is s.heap x a->is s.heap y b->Q (decide (x=y)) s->wpAny (model prog w) A (eqBool (.ref a) (.ref b)) Q E s
 quiet: ∀ {A:Around} {E:Value->Shared->Prop} {s:Shared} {x:K} {a:Addr} {Q:Bool->Shared->Prop},is s.heap x a->Q true s->wpAny (model prog w) A (eqIsQuiet 8 (.ref a)) Q E s
 cls: ∀ {A:Around} {E:Value->Shared->Prop} {s:Shared} {x:K} {a:Addr} {Q:Bool->Shared->Prop},is s.heap x a->Q false s->wpAny (model prog w) A (ofAClassStatement 8 (.ref a)) Q E s
 byv: ∀ {A:Around} {E:Value->Shared->Prop} {s:Shared} {x:K} {a:Addr} {Q:Bool->Shared->Prop},is s.heap x a->Q true s->wpAny (model prog w) A (hashByValue 8 (.ref a)) Q E s
section
variable {prog:Program}{w:World}{A:Around}{E:Value->Shared->Prop}{s:Shared}{K:Type}[DecidableEq K]
theorem Oe (M:MemK prog w K){x:K}{a:Addr}{stored:List Value}{Q:Bool->Shared->Prop}(hx:M.is s.heap x a)(hs: ∀y∈stored,∃k b,y= .ref b/\M.is s.heap k b)(q:Q false s):wpAny (model prog w) A (searchCouldBeSeen (.ref a) stored) Q E s:=by
 unfold searchCouldBeSeen;refine wpAny_bind (YR stored (λy hy Q' q'=> ?_) (G3 q));obtain⟨k,b,rfl,hk⟩:=hs y hy
 by_cases c:(a==b)=true
 ·simp only [c,Bool.true_or,↓reduceIte];exact G3 q'
 ·simp only [c,show carriedByValue (.ref a)=false from rfl,Bool.false_and,Bool.or_false,B1,↓reduceIte];refine wpAny_bind (M.quiet hx (wpAny_bind (M.quiet hk (wpAny_bind (M.cls hx (wpAny_bind (M.cls hk ?_)))))));exact G3 q'
structure SetT (M:MemK prog w K)(L:Bool)(is:K->Addr->Prop)(f:Int×Value->K)(es:Array (Int×Value))(t:SetTable)(ks:List K):Prop where
 laid:Laid t (es.toList.map (·.1))
 led:t.led=L
 lean:es.size*5<t.mask*3
 mask:t.mask<=8*ks.length+16
 each: ∀e∈es.toList,e.1=M.hash (f e)/\ ∃b,e.2= .ref b/\is (f e) b
 nd:(es.toList.map f).Nodup
 mem: ∀k,k∈es.toList.map f↔k∈ks
theorem ZW: ∀ {xs ys:List K},xs.Nodup->(∀x∈xs,x∈ys)->xs.length<=ys.length
 | [],_,_,_=>S9 _
 |x::xs,ys,nd,h=>by
  obtain⟨n1,n2⟩:=L6.mp nd;have le:=ZW (ys:=ys.erase x) n2 λy hy=>(Q7 (λ(e:y=x)=>n1 (by rw [<-e];exact hy))).mpr (h y (.tail _ hy))
  rw [J0 (h x (.head _))] at le;have pos:=K5 (h x (.head _));rw [P6];omega
variable {L:Bool}{is:K->Addr->Prop}{f:Int×Value->K}{es:Array (Int×Value)}{t:SetTable}{ks:List K}
theorem SetT.size {M:MemK prog w K}(S:SetT M L is f es t ks):es.size<=ks.length:=by
 have:=ZW S.nd λk hk=>(S.mem k).mp hk
 rwa [G0,P2] at this
theorem SetT.tab {M:MemK prog w K}(S:SetT M L is f es t ks):Tab L es.size t:=
 ⟨S.laid.fits (by rw [G0,P2]),S.led,S.laid.dum,λ_=>S.laid.rise⟩
theorem SetT.imp {M:MemK prog w K}{is':K->Addr->Prop}(S:SetT M L is f es t ks)(h: ∀k b,is k b->is' k b):SetT M L is' f es t ks:=
 ⟨S.laid,S.led,S.lean,S.mask,λe he=>by
  obtain⟨a,b,c,d⟩:=S.each e he;exact⟨a,b,c,h _ _ d⟩,S.nd,S.mem⟩
theorem Mg {M:MemK prog w K}{ep:Nat}{a b:Addr}{k:K}{Q:Bool->Shared->Prop}(hu:A.units+8<cLine)(S:SetT M L is f es t ks)(ho:s.heap.get? a=some (zC es ep t))(few:ks.length<1000)(to: ∀k b,is k b->M.is s.heap k b)(hk:is k b)
 (q: ∀r f' es' ep' t' h' tk,SetT M L is f' es' t' (k::ks)->h'.get? a=some (zC es' ep' t')->Heap.SameBut a s.heap h'->Q r {s with heap:=h',toks:=tk}):wpAny (model prog w) A (setAdd a (.ref b)) Q E s:=by
 refine N4 (wpAny_bind (M.hashed hu (to _ _ hk) λtk=>N4 ?_));show wpAny _ _ (setAddHashedIn a (.ref b) (M.hash k) (99999+1)) _ _ _;have at_: ∀ (i:Nat) (y:Value),es[i]? =some (M.hash k,y)->(M.hash k,y)∈es.toList:=λi y e=>by
  rw [<-R4] at e;exact G9 e
 refine Oc (s:= {s with toks:=tk}) (eqk:=λi=>match es[i]? with
  |some e=>decide (f e=k)
  |none=>false) (bv:=true) S.laid (P7 S.mask (by omega)) S.lean ho (λi y e=> ?_) (λQ' q'=> ?_) (λi y e Q' q'=> ?_) (λQ' q'=>M.byv (to _ _ hk) q') (λno es' ep' t' h' pe l' mk ln ld o' sb=> ?_) (λi y e ek=> ?_)
 ·obtain⟨_,c,d,_⟩:=S.each _ (at_ i y e);exact⟨c,d⟩
 ·refine Oe M (to _ _ hk) (λy hy=> ?_) q';obtain⟨e,he,rfl⟩:=R7.mp hy;obtain⟨_,c,d,i⟩:=S.each e (by rw [Array.toList_filter] at he;exact(N0.mp he).1);exact⟨_,c,d,to _ _ i⟩
 ·obtain⟨_,c,d,i'⟩:=S.each _ (at_ i y e);have d:y= .ref c:=d;subst d;simp only [e] at q';exact N4 (M.same hu (to _ _ i') (to _ _ hk) q')
 ·have kn:k ∉ ks:=λz=>by
   obtain⟨e,he,fe⟩:=R7.mp ((S.mem k).mpr z);obtain⟨i,hi⟩:=J8 he;obtain⟨e1,e2⟩:=e;have h1:=(S.each _ he).1;rw [fe] at h1;have h1:e1=M.hash k:=h1;subst h1;have hi:es[i]? =some (M.hash k,e2):=by rw [<-R4];exact hi
   have:=no i e2 hi;simp only [hi,fe,decide_true] at this;cases this
  have same: ∀e∈es.toList,(if e=(M.hash k,.ref b) then k else f e)=f e:=λe he=>by
   by_cases c:e=(M.hash k,.ref b)
   ·rw [if_pos c];obtain⟨_,c',d,i⟩:=S.each e he;rw [c] at d;cases d;exact M.inj (to _ _ hk) (to _ _ i)
   ·rw [if_neg c]
  have me:(es.toList.map λe=>if e=(M.hash k,.ref b) then k else f e)=es.toList.map f:=B8 same;have pk:=pe.map λe=>if e=(M.hash k,.ref b) then k else f e
  rw [F7,S4,me] at pk;have one:(List.map (λe=>if e=(M.hash k,.ref b) then k else f e) [(M.hash k,.ref b)])= [k]:=by simp
  rw [one] at pk;have sz:=S.size;refine q true (λe=>if e=(M.hash k,.ref b) then k else f e) es' ep' t' h' tk ⟨l',ld.trans S.led,ln,?_,λe he=> ?_,pk.nodup_iff.mpr ?_,λm=>pk.mem_iff.trans ?_⟩ o' sb
  ·have:=S.mask;rw [P6];omega
  ·have z:=pe.mem_iff.mp he;rw [F7] at z;rcases D1.mp z with z|z
   ·rw [same e z];exact S.each e z
   ·have z:=G7.mp z;subst z;rw [if_pos rfl];exact⟨rfl,b,rfl,hk⟩
  ·rw [G0g];refine⟨S.nd,by simp,λx hx y hy e=> ?_⟩;have:y=k:=by simpa using hy
   subst this;subst e;exact kn ((S.mem _).mp hx)
  ·rw [D1,S.mem m,G7,P3,or_comm]
 ·have hin:k∈ks:=by
   simp only [e,E3] at ek;rw [<-ek];exact(S.mem _).mp (X8 (at_ i y e))
  refine q false f es ep t s.heap tk ⟨S.laid,S.led,S.lean,?_,S.each,S.nd,λm=>(S.mem m).trans ?_⟩ ho (U5 _ _)
  ·have:=S.mask;rw [P6];omega
  ·rw [P3];exact⟨.inr,λz=>z.elim (λe=>e ▸ hin) id⟩
end
section
variable {prog:Program}{w:World}{A:Around}{E:Value->Shared->Prop}{s:Shared}
theorem Of (n:Nat){v:Value}(h:carriedByValue v=true):ofAClassStatement n v=pure false:=by
 cases v<;>first|(cases h;done)|simp [ofAClassStatement]
theorem SA {n:Int}{v:Value}(h:(intKind prog w).is n v=true): ∃tk,v= .int n tk:=by
 cases v<;>simp [intKind,Value.isInt] at h;exact⟨_,by rw [h]⟩
theorem Ph {ks:List Int}{vs:List Value}(h:ItemsAre (intKind prog w) ks vs): ∀v∈vs,∃n tk,v= .int n tk:=by
 induction h with
 |nil=>exact λv hv=>absurd hv T7
 |cons h1 _ ih=>
  intro v hv;rcases P3.mp hv with rfl|hv
  ·obtain⟨tk,e⟩:=SA h1;exact⟨_,tk,e⟩
  ·exact ih v hv
theorem Og (d:Nat){x:List Int}{a:Addr}{Q:Bool->Shared->Prop}:IsTupleKey (intKind prog w) s.heap x a->Q false s->wpAny (model prog w) A (ofAClassStatement (d+1) (.ref a)) Q E s
 |⟨_,_,_,ho,hc,hd,hi⟩,q=>by
  unfold ofAClassStatement;refine wpAny_bind (G1m (T:= "tuple") ⟨_,ho,hc⟩ ?_);simp only [J4,↓reduceIte,pure_bind,Bool.not_true,B1];refine wpAny_bind (wpAny_seqItems ho hd (wpAny_bind ?_));simp only [<-Array.forIn_toList];refine YR _ (λv hv Q' q'=> ?_) (G3 q);rw [Of d (hi.byValue v hv)];exact G3 q'
theorem Oh (d:Nat)(m:Int)(tk:Tok):hashByValue d (.int m tk)=pure true:=by cases d<;>rfl
theorem Oi (d:Nat){x:List Int}{a:Addr}{Q:Bool->Shared->Prop}:IsTupleKey (intKind prog w) s.heap x a->Q true s->wpAny (model prog w) A (hashByValue (d+1) (.ref a)) Q E s
 |⟨_,_,_,ho,hc,hd,hi⟩,q=>by
  unfold hashByValue;refine wpAny_bind (wpAny_specialOf (T:= "tuple") ⟨_,ho,hc⟩ F.slot_tuple_hash.lookup ?_);refine wpAny_bind (wpAny_seqItems ho hd (wpAny_bind ?_));simp only [Option.getD_some,<-Array.forIn_toList];refine YR _ (λv hv Q' q'=> ?_) (G3 q);obtain⟨m,tk,rfl⟩:=Ph hi v hv;rw [Oh];exact G3 q'
def HI (prog:Program)(w:World):MemK prog w (List Int) where
 is:=λh x a=>IsTupleKey (intKind prog w) h x a
 hash:=tupleKeyHash (intKind prog w)
 inj:=λhx hy=>hx.inj hy
 keep:=λk ⟨o,items,n,ho,hc,hd,hi⟩=>⟨o,items,n,k _ o hc ho,hc,hd,hi⟩
 hashed:=λhu hk q=>wpAny_pyHash_tuple (by omega) hk (q _)
 same:=λhu hx hy q=>wpAny_eqBool_tuple (by omega) hx hy q
 quiet:=λhk q=>wpAny_eqIsQuiet_tuple hk q
 cls:=λhk q=>Og 7 hk q
 byv:=λhk q=>Oi 7 hk q
end
end L2
namespace L2
open PySem PySem.Spec PyProof.Rows HT PySem.SeqAt
section
variable {prog:Program}{w:World}{A:Around}{E:Value->Shared->Prop}{a I:Addr}{fp wr:List Addr}{n:Nat}{P:Nat->Value->Prop}{St:Nat->Heap->Prop}{K:Type}[DecidableEq K]{M:MemK prog w K}{L:Bool}{is:K->Addr->Prop}{key:Nat->K}
theorem Jo {R:Result->Shared->Prop}(hu:A.units+16<cLine)(W:Walks prog w A.in1 I fp wr n P St)(num: ∀i v,P i v-> ∃b,v= .ref b/\is (key i) b)(na:a ∉ fp)(few:n<1000)(nt: ∀i h,St i h-> ∀b∈wr,∀o,h.get? b=some o->o.cls≠ .type "tuple"):
 ∀ (k i:Nat) (s:Shared) (f:Int×Value->K) (es:Array (Int×Value)) (ep:Nat) (t:SetTable),i+k=n->St i s.heap->s.heap.get? a=some (zC es ep t)->(∀k b,is k b->M.is s.heap k b)->SetT M L is f es t ((List.range i).map key).reverse->
  (∀h' tk f' es' ep' t',h'.get? a=some (zC es' ep' t')->SetT M L is f' es' t' ((List.range n).map key).reverse->(∀b o,b≠a->b ∉ wr->s.heap.get? b=some o->h'.get? b=some o)->R (.ok (.ret .none)) {s with heap:=h',toks:=tk})->
  codeAny (model prog w) A (.builtin "set.update.loop" ⟨[.ref a,.ref I],[]⟩) R s
 |0,i,s,f,es,ep,t,hk,st,ha,to,S,q=>by
  obtain rfl:i=n:=by omega
  refine K2 vK ?_;rw [Q8 wH];exact wpAny_bind (W.done s _ _ st λh' tk kept=>G3 (q h' tk f es ep t (kept _ _ (λz=>na (W.sub _ z)) ha) S λb o _ nb e=>kept b o nb e))
 |k+1,i,s,f,es,ep,t,hk,st,ha,to,S,q=>by
  refine K2 vK ?_;rw [Q8 wH];refine wpAny_bind (W.item i s _ _ (by omega) st λv h1 tk1 pv st1 kept1=> ?_);obtain⟨b,rfl,hb⟩:=num i v pv;have ha1:=kept1 _ _ (λz=>na (W.sub _ z)) ha;have to1: ∀k b,is k b->M.is h1 k b:=λk b z=>M.keep (λc o hc e=>kept1 c o (λm=>nt i _ st c m o e hc) e) (to k b z)
  refine wpAny_bind (N4 (Mg (s:= {s with heap:=h1,toks:=tk1}) (show A.units+1+8<cLine by omega) S ha1 (by simp;omega) to1 hb λr f2 es2 ep2 t2 h2 tk2 S2 ha2 same2=>G3 ⟨G1a wH _,?_⟩));have S3:SetT M L is f2 es2 t2 ((List.range (i+1)).map key).reverse:=by
   rw [C9,S4,G1E];exact S2
  have kep: ∀c o,o.cls= .type "tuple" ->h1.get? c=some o->h2.get? c=some o:=λc o hc e=>same2.extBut _ _ (λz=>by
   subst z;rw [show h1.get? c=some (zC es ep t) from ha1] at e;cases e;exact absurd (show Value.type "set" =Value.type "tuple" from hc) (by decide)) e
  refine Jo hu W num na few nt k (i+1) {s with heap:=h2,toks:=tk2} f2 es2 ep2 t2 (by omega) (W.frame _ _ _ st1 λb hb o e=>same2.extBut _ _ (λz=>na (z ▸ hb)) e) ha2 (λk b z=>M.keep kep (to1 k b z)) S3 λh' tk' f' es' ep' t' ha' S' kept'=> ?_
  exact q h' tk' f' es' ep' t' ha' S' λb o ba bw e=>kept' b o ba bw (same2.extBut _ _ ba (kept1 b o bw e))
theorem Gi (L:Bool)(f:Int×Value->K):SetT M L is f #[] (.fresh 0 0 L) []:=⟨Pe 0 0 L,rfl,(by show 0*5<7*3;decide),(by show 7<=8*0+16;decide),λe he=>absurd he (by simp),by simp,λk=>by simp⟩
variable {s:Shared}
theorem Mh {l:Addr}{vs:List Value}{ep:Nat}{T:String}{Q:Option Value->Shared->Prop}(hu:A.units+32<cLine)(calm:A.handled=none)(hT:T= "list" \/T= "tuple")
 (hl: ∃o,s.heap.get? l=some o/\o.cls= .type T/\ ∃c,o.data= .seq vs.toArray c)(hM: ∀i v,vs[i]? =some v-> ∃b,v= .ref b/\is (key i) b)(to: ∀k b,is k b->M.is s.heap k b)(few:vs.length<1000)(ha:s.heap.get? a=some (zC #[] ep (.fresh 0 0 (zc w))))(la:l≠a)
 (k: ∀h' tk f' es' ep' t',h'.get? a=some (zC es' ep' t')->SetT M (zc w) is f' es' t' ((List.range vs.length).map key).reverse->(∀b o,b≠a->s.heap.get? b=some o->h'.get? b=some o)->Q (some .none) {s with heap:=h',toks:=tk}):
 wpAny (model prog w) A (callSpecial? (.ref a) "__init__" [.ref l]) Q E s:=by
 have ty:s.TypeIs (.ref a) "set" :=⟨_,ha,rfl⟩;refine O3 ty F.called_set.init (V4 (J7 F.called_set.init.plain yT (vL ty ?_)));have f1:=Jw;have f2:=Jx;have f3:=ZL;have f4:=ZM;obtain⟨⟨oc,od,odt,osl⟩,hol,hc,c,hd⟩:=hl;simp only at hc hd;subst hc hd;have state:=λ{P:Array (Int×Value)×Nat×SetTable->Shared->Prop} {E':Value->Shared->Prop} {A':Around}=>N9 (prog:=prog) (w:=w) (A:=A') (E:=E') (Q:=P) (s:=s) ha rfl (Zb (zc w)).tab.fits
 have far:a≠s.heap.objs.size:=λz=>S7 _ (z ▸ P1 ha)
 have lfar:l≠s.heap.objs.size:=λz=>S7 _ (z ▸ P1 hol)
 have na:a ∉ [s.heap.objs.size,l]:=by simp [far,la.symm]
 have sv:vs.toArray.size=vs.length:=D3 ..;have fin: ∀ {o:Obj} h' tk f' es' ep' t',h'.get? a=some (zC es' ep' t')->SetT M (zc w) is f' es' t' ((List.range vs.toArray.size).map key).reverse->(∀b ob,b≠a->b ∉ [s.heap.objs.size]->(s.heap.push o).get? b=some ob->h'.get? b=some ob)->Q (some .none) {s with heap:=h',toks:=tk}:=λh' tk f' es' ep' t' e S kept=>by
  rw [sv] at S;exact k h' tk f' es' ep' t' e S λb ob nb q=>kept b ob nb (λz=>S7 _ (G7.mp z ▸ P1 q)) (G1 _ q)
 have to1: ∀ (o:Obj) (k:K) (b:Addr),is k b->M.is (s.heap.push o) k b:=λo k b z=>M.keep (λc ob hc e=>G1 _ e) (to k b z)
 rcases hT with rfl|rfl
 ·have tl:s.TypeIs (.ref l) "list" :=⟨_,hol,rfl⟩;have isl:s.heap.IsList l vs.toArray:=⟨_,hol,rfl,c,rfl⟩
  wp_walk using state,U2 isl
  refine Jo (f:=λ_=>key 0) (M:=M) (is:=is) (key:=key) (show A.units+1+16<cLine by omega) (G1S (prog:=prog) (w:=w) (A:=A.in1.in1) calm s.heap.objs.size l lfar vs.toArray) (λi v hv=>hM i v (by simpa using hv)) na (by rw [sv];exact few) (λi h st b hb o e=> ?_) vs.toArray.size 0 _ #[] ep _ (E9 _) ⟨⟨_,D0 _ rfl,rfl,rfl⟩,⟨_,G1 _ hol,rfl,c,rfl⟩⟩ (G1 _ ha) (to1 _) (Gi _ _) λh' tk f' es' ep' t' e S kept=>G3 (G3 (fin h' tk f' es' ep' t' e S kept))
  obtain⟨⟨o',e',c',_⟩,_⟩:=st;rw [G7.mp hb,e'] at e;cases e;rw [c'];decide
 ·have tl:s.TypeIs (.ref l) "tuple" :=⟨_,hol,rfl⟩;have isl:s.heap.IsTuple l vs.toArray:=⟨_,hol,rfl,c,rfl⟩
  wp_walk using state,Q1 isl
  refine Jo (f:=λ_=>key 0) (M:=M) (is:=is) (key:=key) (show A.units+1+16<cLine by omega) (Walks.tuple (prog:=prog) (w:=w) (A:=A.in1.in1) calm s.heap.objs.size l lfar vs.toArray) (λi v hv=>hM i v (by simpa using hv)) na (by rw [sv];exact few) (λi h st b hb o e=> ?_) vs.toArray.size 0 _ #[] ep _ (E9 _) ⟨⟨_,D0 _ rfl,rfl,rfl⟩,⟨_,G1 _ hol,rfl,c,rfl⟩⟩ (G1 _ ha) (to1 _) (Gi _ _) λh' tk f' es' ep' t' e S kept=>G3 (G3 (fin h' tk f' es' ep' t' e S kept))
  obtain⟨⟨o',e',c',_⟩,_⟩:=st;rw [G7.mp hb,e'] at e;cases e;rw [c'];decide
theorem Br {l:Addr}{vs:List Value}{T:String}{Q:Value->Shared->Prop}(hu:A.units+40<cLine)(calm:A.handled=none)(hT:T= "list" \/T= "tuple")
 (hl: ∃o,s.heap.get? l=some o/\o.cls= .type T/\ ∃c,o.data= .seq vs.toArray c)(hM: ∀i v,vs[i]? =some v-> ∃b,v= .ref b/\is (key i) b)(to: ∀k b,is k b->M.is s.heap k b)(few:vs.length<1000)
 (k: ∀h' tk f' es' ep' t',h'.get? s.heap.objs.size=some (zC es' ep' t')->SetT M (zc w) is f' es' t' ((List.range vs.length).map key).reverse->(∀b o,s.heap.get? b=some o->h'.get? b=some o)->Q (.ref s.heap.objs.size) {s with heap:=h',toks:=tk}):
 wpAny (model prog w) A (call (.type "set") [.ref l]) Q E s:=by
 have fits:checkTypeCall "set" ⟨[.ref l],[]⟩=pure ():=by kernel_rfl
 have newFits:checkBuiltinCall "set.__new__" ⟨[.type "set",.ref l],[]⟩=pure ():=by kernel_rfl
 obtain⟨o,hol,r⟩:=hl;refine L2.ZF (Made:=λv s₁=>v= .ref s.heap.objs.size/\s₁= {s with heap:=s.heap.push (zC #[] 0 (.fresh 0 0 (zc w)))}) F.called_set fits
  (V4 (J7 F.called_set.plain F.entry_set_new (wpAny_of_eq newFits (QF ⟨rfl,rfl⟩)))) λv s₁ ⟨ev,es⟩=> ?_
 subst ev es;have at_:(s.heap.push (zC #[] 0 (.fresh 0 0 (zc w)))).get? s.heap.objs.size=some (zC #[] 0 (.fresh 0 0 (zc w))):=D0 _ rfl;refine⟨⟨_,at_,rfl⟩,Mh (s:= {s with heap:=s.heap.push (zC #[] 0 (.fresh 0 0 (zc w)))}) (M:=M) (is:=is) (key:=key) (show A.units+1+32<cLine by omega) calm hT ⟨o,G1 _ hol,r⟩ hM (λk b z=>M.keep (λc o hc e=>G1 _ e) (to k b z)) few at_ (λz=>S7 _ (z ▸ P1 hol)) λh' tk f' es' ep' t' e S kept=>⟨rfl,k h' tk f' es' ep' t' e S λb ob q=>kept b ob (λz=>S7 _ (z ▸ P1 q)) (G1 _ q)⟩⟩
theorem XI {es:Array (Int×Value)}{ep:Nat}{t:SetTable}{Q:Value->Shared->Prop}(hu:A.in1.in1.units<cLine)(calm:A.handled=none)(S:Tab (zc w) es.size t)(ha:s.heap.get? a=some (zC es ep t))(few:es.size<1000)(x: ∀e∈es.toList,∃ns,IT s.heap e.2 ns)
 (k: ∀ (h1 h':Heap) d (tk c:Nat) (out:List Value),yM s.heap h1->yM h1 h'->h'.get? h1.objs.size=some (seqObj "list" out.toArray c)->out.Perm (es.toList.map (·.2))->out.Pairwise (λx y=>HT.jI (jV s.heap y) (jV s.heap x)=false)->
  Q (.ref h1.objs.size) {s with heap:=h',drawn:=d,toks:=tk}):wpAny (model prog w) A (call (.builtin "sorted") [.ref a]) Q E s:=by
 refine X5 kind_sorted plain_sorted entry_sorted (args_sorted1 _) (wpAny_bind (G3 (wpAny_bind (wpAny_bind (wpAny_runValue (W3 (Ye calm S ha few) λres s' listed=> ?_))))));obtain⟨h1,d,tk,acc,c0,rfl,rfl,made,kept,p⟩:=listed;refine wpAny_bind (G1R made (G3 ?_));have len:acc.toList.length=es.size:=by rw [p.length_eq,G0,P2]
 have hz:acc.toList.length<=sizeLine:=by rw [len];exact P7 (D4 few) (by decide)
 have fresh:(h1.push (seqObj "list" acc.toList.toArray 0)).get? h1.objs.size=some (seqObj "list" acc.toList.toArray 0):=D0 _ rfl;have kp: ∀h',Ly {s with heap:=h1.push (seqObj "list" acc.toList.toArray 0),drawn:=d,toks:=tk} h1.objs.size h'->yM h1 h':=λh' p b x e=>p b x (R3 (P1 e)) (G1 _ e)
 have ks: ∀h',Ly {s with heap:=h1.push (seqObj "list" acc.toList.toArray 0),drawn:=d,toks:=tk} h1.objs.size h'->yM s.heap h':=λh' p b x e=>kp h' p b x (kept b x e)
 have it: ∀v∈acc.toList,∃ns,IT s.heap v ns:=λv hv=>by
  obtain⟨e,he,rfl⟩:=R7.mp (p.mem_iff.mp hv);exact x e he
 refine wpAny_bind (G1b (wpAny_bind (N4 (C8 slot_list_sort ⟨_,fresh,rfl⟩ entry_list_sort (QU (s:= {s with heap:=h1.push (seqObj "list" acc.toList.toArray 0),drawn:=d,toks:=tk}) (κ:=Pb s.heap acc.toList) (U:=λx=> ∃ns,IT s.heap x.1 ns) (R:=λx y=>HT.jI (jV s.heap x.1) (jV s.heap y.1)) fresh hz
  (λh2 h' p=>Ui (s:= {s with heap:=h',drawn:=d,toks:=tk}) h2 it (ks h' p) ⟨rfl,tk,rfl⟩) (λh' p=>Uj (s:= {s with drawn:=d}) hu (ks h' p)) (Uh _) it λout c tk' h' p' e1 e2 e3=>⟨_,rfl,?_⟩) (args_list_sort _)))) hz)
 refine G3 ⟨_,rfl,k h1 h' d tk' c out kept (kp h' p') e1 (e2.trans p) ?_⟩;rw [B0] at e3;exact e3
end
theorem Yk {prog:Program}{w:World}: ∀ {vs:List Value} {ns:List Int},IntsAre vs ns->ItemsAre (intKind prog w) ns vs
 |_,_,.nil=> .nil
 |_,_,.cons n t a=> .cons (by simp [intKind,Value.isInt]) (Yk a)
def CG (prog:Program)(w:World)(H:Hp)(o:Obj)(ks:List (List Int)):Prop:= ∃es ep t f,o=zC es ep t/\SetT (HI prog w) (zc w) (λk b=>H b=some (.tup (k.map V.int))) f es t ks
variable {X:Cx}
theorem SB {pins:List (Addr×Obj)}{σ:St}{H:Hp}{s:Shared}(I:Inv X pins σ H s)(k:List Int)(b:Addr)(h:H b=some (.tup (k.map V.int))):(HI X.prog X.w).is s.heap k b:=by
 obtain⟨_,us,r2,o,e,c,_,n,d⟩:=I.hok b _ h;exact⟨o,us.toArray,n,e,c,d,Yk (Jv r2)⟩
theorem SC {pins:List (Addr×Obj)}{σ:St}{H:Hp}{s:Shared}(I:Inv X pins σ H s)(k:List Int)(b:Addr)(h:H b=some (.tup (k.map V.int))):IT s.heap (.ref b) k:=by
 obtain⟨_,us,r2,p⟩:=I.hok b _ h;exact⟨b,us.toArray,rfl,p.tup,Jv r2⟩
theorem Mi {k:Nat}(hc:X.calm=true)(hr:Room k X.A):CallR X (.type "set") (λxs H Q=> ∃ (a:Addr) (ps:List (V×List Int)),xs= [.ref a]/\SqL X.K H a (ps.map (·.1))/\ps.length<1000/\(∀p∈ps,OO H p.1 p.2)/\ ∀ (p:Addr) (o:Obj),H p=none->CG X.prog X.w H o (ps.map (·.2)).reverse->Q (.ref p) (upd H p (.frz o (.own 0)))):=by
 intro pins s σ H xs us Q I r h;obtain⟨a,ps,rfl,hS,few,ht,q⟩:=h;obtain⟨u,rfl,ru⟩:=vz r;cases ru;obtain⟨its,rv,pl,hz⟩:=I.list hS;have len:its.length=ps.length:=by have:=rv.length;rw [G0] at this;exact this.symm
 have hu:X.A.units+40<cLine:=by have:=hr.un;omega
 have at_: ∀i v,its[i]? =some v-> ∃b,v= .ref b/\H b=some (.tup (((ps.map (·.2)).getD i []).map V.int)):=by
  clear hS q few hz pl len
  induction ps generalizing its with
  |nil=>cases rv;exact λi v e=>by cases e
  |cons p ps ih=>
   rw [T9] at rv;cases rv with
   |cons r1 r2=>
    intro i v e;cases i with
    |zero=>
     obtain⟨b,eb,hb⟩:=ht p P9;rw [eb] at r1;cases e;exact⟨b,r1,hb⟩
    |succ i=>exact ih (λp hp=>ht p (D5 _ hp)) _ r2 i v e
 have rng:(List.range its.length).map (λi=>(ps.map (·.2)).getD i [])=ps.map (·.2):=by
  have:=vG (ps.map (·.2)) ([]:List Int);rw [G0] at this;rw [len];exact this.symm
 refine Br (M:=HI X.prog X.w) (is:=λk b=>H b=some (.tup (k.map V.int))) hu (I.ok.hd hc) (.inl rfl) pl.isList at_ (SB I) (by omega) λh' tk f es ep t e S kept=> ?_
 rw [rng] at S;exact⟨.ref _,_,I.laid (t':=tk) (o:= .frz (zC es ep t) (.own 0)) kept (G5 _) ⟨e,⟨_,e⟩⟩,rfl,q _ _ (I.hok.fresh (G5 _)) ⟨es,ep,t,f,rfl,S⟩⟩
def OP:Value->V
 | .ref b=> .ref b
 |_=> .int 0
theorem Pi {x y:List Int}(h:HT.jI y x=false)(ne:x≠y):HT.jI x y=true:=by
 cases e:HT.jI x y with
 |true=>rfl
 |false=>exact absurd (vd _ _ e h) ne
theorem YS {k:Nat}(hc:X.calm=true)(hr:Room k X.A):CallR X (.builtin "sorted") (λxs H Q=> ∃ (p:Addr) (o:Obj) (ks:List (List Int)),xs= [.ref p]/\H p=some (.frz o (.own 0))/\CG X.prog X.w H o ks/\ks.length<1000/\ ∀ (q:Addr) (ps:List (V×List Int)),H q=none->(∀x∈ps,OO H x.1 x.2)->(ps.map (·.2)).Pairwise (λx y=>HT.jI x y=true)->(∀k,k∈ps.map (·.2)↔k∈ks)->Q (.ref q) (upd H q (.lst (ps.map (·.1))))):=by
 intro pins s σ H xs us Q I r h;obtain⟨p,o,ks,rfl,hp,⟨es,ep,t,f,rfl,S⟩,few,q⟩:=h;obtain⟨u,rfl,ru⟩:=vz r;cases ru;have hu:X.A.in1.in1.units<cLine:=by
  have:=hr.un;show X.A.units+1+1<cLine;omega
 have it: ∀e∈es.toList,IT s.heap e.2 (f e)/\OO H (OP e.2) (f e)/\RelV (OP e.2) e.2:=λe he=>by
  obtain⟨_,b,eb,hb⟩:=S.each e he;rw [eb];exact⟨SC I _ _ hb,⟨b,rfl,hb⟩,rfl⟩
 have sz:=S.size;refine XI hu (I.ok.hd hc) S.tab (I.hok p _ hp).1 (by omega) (λe he=>⟨_,(it e he).1⟩) λh1 h' d tk c out k1 k2 lies pm srt=> ?_
 obtain⟨zs,pz,rfl⟩:=vR pm;have I1:=(I.kept (t':=s.toks) k1).drew d;have vv: ∀l:List (Int×Value),(∀z∈l,z∈es.toList)->Vals ((l.map λe=>(OP e.2,f e)).map (·.1)) (l.map (·.2)):=λl=>by
  induction l with
  |nil=>exact λ_=> .nil
  |cons z l ih=>exact λsub=> .cons (it z (sub z P9)).2.2 (ih λy hy=>sub y (D5 _ hy))
 have m2:(zs.map λe=>(OP e.2,f e)).map (·.2)=zs.map f:=by rw [M9];rfl
 refine⟨.ref _,_,I1.laid (t':=tk) (o:= .lst ((zs.map λe=>(OP e.2,f e)).map (·.1))) k2 (G5 _) ⟨?_,_,c,vv zs λz hm=>pz.mem_iff.mp hm,lies⟩,rfl,q _ (zs.map λe=>(OP e.2,f e)) (I1.hok.fresh (G5 _)) (λx hx=> ?_) ?_ λk=> ?_⟩
 ·rw [G0,G0,pz.length_eq,P2];exact P7 (show es.size<=1000 by omega) (by decide)
 ·obtain⟨e,he,rfl⟩:=R7.mp hx;exact(it e (pz.mem_iff.mp he)).2.1
 ·rw [m2];have nd:(zs.map f).Nodup:=(pz.map f).nodup_iff.mpr S.nd;unfold List.Nodup at nd;rw [B0] at srt nd ⊢;refine(srt.and nd).imp_of_mem λ{y z} hy hz ⟨e,ne⟩=> ?_
  rw [(it y (pz.mem_iff.mp hy)).1.nums,(it z (pz.mem_iff.mp hz)).1.nums] at e;exact Pi e ne
 ·rw [m2];exact(pz.map f).mem_iff.trans (S.mem k)
def dST (ta:TAD):TED:=λσ h Q=>ta σ h λds h1=> ∃ (a:Addr) (nss:List (List Int)),ds= [.lst a]/\h1 a=some (nss.map tI)/\nss.length<1000/\ ∀ (p:Addr) (kss:List (List Int)),h1 p=none->kss.Pairwise (λx y=>HT.jI x y=true)->(∀k,k∈kss↔k∈nss)->Q (.lst p) (zB h1 p (kss.map tI))
theorem jst {k : Nat} {a : Expr} {ta : TAD} {p p2 pos pos2 : Pos} (hr : Room k X.A) (hc : X.calm = true) (hg : Gl X "sorted") (hm : X.mg "sorted" = none) (hg2 : Gl X "set") (hm2 : X.mg "set" = none) (ha : JA X [a] ta) (hs : starEach [a] X.env = [(false, eval a X.env)] := by rfl)
    (h1 : starEach [.Call (.Name "set" p2) [a] [] pos2] X.env = (false, eval (.Call (.Name "set" p2) [a] [] pos2) X.env) :: starEach [] X.env := by rfl) (h2 : (backTo pos (starEach [] X.env)).any (·.1) = false := by rfl) (h3 : (backTo pos2 (starEach [] X.env)).any (·.1) = false := by rfl) :
    JE X (.Call (.Name "sorted" p) [.Call (.Name "set" p2) [a] [] pos2] [] pos) (dST ta) :=
  ⟨(yF (YS hc hr) hg hm (by decide +kernel) (zr (Zn (Mi hc hr) hg2 hm2 (by decide +kernel) ha.to (by decide) (by decide) hs h3) pa_nil h1) (by decide) (by decide) h1 h2).imp
    fun σ H Q ⟨σd, h, Qd, rs, rh, t, post⟩ => LA.bind rs rh t fun ds vs h1 H1 k1 rs1 rh1 r1 ⟨a, nss, e, hd, few, q⟩ => by
      subst e
      obtain ⟨v, e, r2⟩ := jH r1
      obtain ⟨ws, hH, r3⟩ := rh1 a _ hd
      have e1 : v = .ref a := r2.1
      subst e e1
      obtain ⟨ps, rfl, rfl, ht⟩ := Xz r3
      rw [G0] at few
      refine ⟨a, ps, rfl, SqL.of hH, few, ht, fun c o hcn S => ?_⟩
      have rh2 := rh1.new (o := .frz o (.own 0)) hcn
      have up : ∀ {b : Addr} {ob : _}, H1 b = some ob → upd H1 c (.frz o (.own 0)) b = some ob := fun {b ob} e => by
        rw [jl (fun z => by subst z; rw [hcn] at e; cases e)]; exact e
      obtain ⟨es, ep, t, f, eo, S⟩ := S
      refine ⟨c, o, (ps.map (·.2)).reverse, rfl, jp, ⟨es, ep, t, f, eo, S.imp fun k b z => up z⟩, by simpa using few, fun l ps' hl ht' srt mem => ?_⟩
      exact post (.lst l) (.ref l) _ _ (k1.trans ((Kept.new hcn).trans (.new hl))) (rh2.newL hl (XA ht')) ⟨rfl, _, jp⟩ (q l (ps'.map (·.2)) (rh2.free hl) srt fun k => by rw [mem k, L9])⟩
end L2
namespace L2
open PySem PySem.Spec PyProof.Rows PySem.SeqAt HT
theorem CH {α:Type}{R:α->α->Prop}(no: ∀x y,R x y-> ¬R y x): ∀ {xs ys:List α},xs.Pairwise R->ys.Pairwise R->(∀a,a∈xs↔a∈ys)->xs=ys
 | [],[],_,_,_=>rfl
 | [],y::ys,_,_,m=>absurd ((m y).mpr P9) T7
 |x::xs,[],_,_,m=>absurd ((m x).mp P9) T7
 |x::xs,y::ys,px,py,m=>by
  obtain⟨p1,p2⟩:=O6.mp px;obtain⟨q1,q2⟩:=O6.mp py;have e:x=y:=by
   rcases P3.mp ((m x).mp P9) with e|e
   ·exact e
   rcases P3.mp ((m y).mpr P9) with e'|e'
   ·exact e'.symm
   exact absurd (p1 y e') (no _ _ (q1 x e))
  subst e;rw [CH no p2 q2 λa=>⟨λh=> ?_,λh=> ?_⟩]
  ·rcases P3.mp ((m a).mp (D5 _ h)) with e|e
   ·subst e;exact absurd (p1 _ h) (no _ _ (p1 _ h))
   ·exact e
  ·rcases P3.mp ((m a).mpr (D5 _ h)) with e|e
   ·subst e;exact absurd (q1 _ h) (no _ _ (q1 _ h))
   ·exact e
theorem SE (x y:List Int)(h:HT.jI x y=true): ¬HT.jI y x=true:=λz=>by rw [yI _ _ h] at z;cases z
section
variable {X:Cx}{e r:Expr}{op:CmpOp}{u:TXD}{pos p:Pos}{a b rest:List Stmt}
theorem SF (he:JXE X e u)(hm:behindInMarks op r=false:=by first|exact Nf _ (by decide) (by decide)|rfl):JXE X (.Compare e [op] [r] pos) u:=⟨λE Z pins s σ H σd h R I rs rh ht w=>
 wpAny_Compare1 (R0 (he.to E Z pins s σ H σd h R I rs rh ht w) (λ_ _ z=>z.elim) λ_ _ z=>z) hm⟩
theorem SG (he:JXE X e u)(hv: ∀whole,isTrue e X.env whole=(do let v <-whole;standAt e.pos;holding [v] (truthy v)):=by intro _;rfl):JX X (.If (.UnaryOp .Not e p) a b pos::rest) u:=⟨λE Z pins s σ H σd h R I rs rh ht w=>
 A5 (wpAny_If (wpAny_isTrue_Not (wpAny_isTrue_value (R0 (he.to E Z pins s σ H σd h R I rs rh ht w) (λ_ _ z=>z.elim) λ_ _ z=>z) (hv _))))⟩
end
def pcS (T:List (List Int))(n p:Nat):List Nat:=(List.range n).filter λj=>wk T n p j&&wk T n j p
def YT (T:List (List Int))(n:Nat):List (List Nat):=((List.range n).filter λp=>decide ((pcS T n p).headD 0=p)).map (pcS T n)
section
variable {T:List (List Int)}{n e:Nat}
theorem Oj (p:Nat):IsS n (pcS T n p):=⟨_,rfl⟩
variable {p:Nat}
theorem mem_pc {j:Nat}:j∈pcS T n p↔j<n/\wk T n p j=true/\wk T n j p=true:=by
 unfold pcS;rw [N0,D6,T5]
theorem Ol (hp:p<n):p∈pcS T n p:=mem_pc.mpr ⟨hp,YN T n p,YN T n p⟩
theorem Om {q:Nat}(hp:p<n)(h:q∈pcS T n p):pcS T n q=pcS T n p:=by
 obtain⟨hq,h1,h2⟩:=mem_pc.mp h;refine(Oj q).ext (Oj p) λj=> ?_
 rw [mem_pc,mem_pc];exact⟨λ⟨a,b,c⟩=>⟨a,wu hq h1 b,wu hq c h2⟩,λ⟨a,b,c⟩=>⟨a,wu hp h2 b,wu hp c h1⟩⟩
theorem YU (hp:p<n): ∃r,pcS T n p=(pcS T n p).headD 0::r:=by
 cases h:pcS T n p with
 |nil=>have:=Ol (T:=T) hp;rw [h] at this;cases this
 |cons x r=>exact⟨r,rfl⟩
theorem On (hp:p<n):(pcS T n p).headD 0<n/\pcS T n ((pcS T n p).headD 0)=pcS T n p:=by
 obtain⟨r,h⟩:=YU (T:=T) hp;have m:(pcS T n p).headD 0∈pcS T n p:=by
  generalize (pcS T n p).headD 0=x at h;rw [h];exact P9
 exact⟨(mem_pc.mp m).1,Om hp m⟩
variable {S:List Nat}
theorem mem_pcs:S∈YT T n↔ ∃p,p<n/\S=pcS T n p:=by
 unfold YT;rw [R7];constructor
 ·rintro ⟨p,hp,rfl⟩;exact⟨p,D6.mp (N0.mp hp).1,rfl⟩
 ·rintro ⟨p,hp,rfl⟩;obtain⟨a,b⟩:=On (T:=T) hp;exact⟨(pcS T n p).headD 0,N0.mpr ⟨D6.mpr a,R1 (by rw [b])⟩,b⟩
theorem Bs:(YT T n).Pairwise λx y=>HT.jI (toI x) (toI y)=true:=by
 unfold YT;rw [B0];refine(List.Pairwise.filter _ List.pairwise_lt_range).imp_of_mem λ{p q} hp hq lt=> ?_
 obtain⟨p1,p2⟩:=N0.mp hp;obtain⟨q1,q2⟩:=N0.mp hq;obtain⟨r,e1⟩:=YU (T:=T) (D6.mp p1);obtain⟨r',e2⟩:=YU (T:=T) (D6.mp q1);rw [N8 p2] at e1;rw [N8 q2] at e2;rw [e1,e2];show HT.jI ((p:Int)::toI r) ((q:Int)::toI r')=true;rw [Jc,if_neg (by omega)];exact R1 (by omega)
def upS (n:Nat)(T:List (List Int))(S:List Nat):List Nat:=unS n S (Xt n T S)
theorem SH (S:List Nat):IsS n (upS n T S):=Cq n _ _
theorem wP (h:IsS n S): ∀k,IsS n (itF (upS n T) S k)
 |0=>h
 |k+1=>SH _
theorem Us (h:IsS n S){j:Nat}:j∈upS n T S↔j∈S\/j∈Xt n T S:=Xw h (IsS.step T S) j
theorem Mj (h:IsS n S)(ne:upS n T S≠S):S.length+1<=(upS n T S).length:=by
 rcases A8 S.length (upS n T S).length with z|z
 ·exact z
 ·exfalso;refine ne (h.ext (SH S) λj=>⟨λhj=>(Us h).mpr (.inl hj),λhj=> ?_⟩).symm;rcases G1p (j∈S) with c|c
  ·exact c
  ·exfalso;have nd:(j::S).Nodup:=L6.mpr ⟨c,h.rise.imp λz=>R3 z⟩;have:=ZW nd (ys:=upS n T S) λx hx=>by
    rcases P3.mp hx with rfl|hx
    ·exact hj
    ·exact(Us h).mpr (.inl hx)
   rw [P6] at this;omega
theorem Ut (h:IsS n S): ∀k,upS n T (itF (upS n T) S k)=itF (upS n T) S k\/S.length+k+1<=(itF (upS n T) S (k+1)).length
 |0=>by
  rcases G1p (upS n T S=S) with z|z
  ·exact .inl z
  ·exact .inr (Mj h z)
 |k+1=>by
  rcases Ut h k with z|z
  ·refine .inl ?_;show upS n T (upS n T (itF (upS n T) S k))=upS n T (itF (upS n T) S k);rw [z,z]
  ·rcases G1p (upS n T (itF (upS n T) S (k+1))=itF (upS n T) S (k+1)) with y|y
   ·exact .inl y
   ·have m:=Mj (wP h (k+1)) y;refine .inr ?_;show _<=(upS n T (itF (upS n T) S (k+1))).length;omega
theorem Oo (hT:Sq n e T){S:List Nat}(h:IsS n S):itF (upS n T) S n=clS n T S:=by
 have st:upS n T (itF (upS n T) S n)=itF (upS n T) S n:=by
  rcases Ut (T:=T) h n with z|z
  ·exact z
  ·have:=(wP (T:=T) h (n+1)).len;omega
 have inn: ∀k,∀j∈itF (upS n T) S k,j∈clS n T S:=λk=>by
  induction k with
  |zero=>exact λj hj=>Sk h hj
  |succ k ih=>
   intro j hj;rcases (Us (wP h k)).mp hj with z|z
   ·exact ih j z
   ·obtain⟨hj,i,hi,a⟩:=mem_stepS.mp z;obtain⟨hi',q,hq,wq⟩:=mem_cl.mp (ih i hi);exact mem_cl.mpr ⟨hj,q,hq,wu hi' wq (Ga a n)⟩
 have sub: ∀k,∀j∈S,j∈itF (upS n T) S k:=λk=>by
  induction k with
  |zero=>exact λj hj=>hj
  |succ k ih=>exact λj hj=>(Us (wP h k)).mpr (.inl (ih j hj))
 refine(wP h n).ext (RO n T S) λj=>⟨inn n j,λhj=> ?_⟩
 refine HG (shut_iff.mpr λi hi j hj a=> ?_) (LJ hT) (sub n) hj;rw [<-st];exact(Us (wP h n)).mpr (.inr (mem_stepS.mpr ⟨hj,i,hi,a⟩))
theorem Ml {j:Nat}:j∈clS n T [p]↔j<n/\wk T n p j=true:=by
 rw [mem_cl];exact⟨λ⟨a,i,hi,b⟩=>⟨a,by rw [G7.mp hi] at b;exact b⟩,λ⟨a,b⟩=>⟨a,p,G7.mpr rfl,b⟩⟩
theorem SJ (hp:p<n):(clS n T [p]).filter (λi=>decide (p∈clS n T [i]))=pcS T n p:=by
 have is:IsS n ((clS n T [p]).filter (λi=>decide (p∈clS n T [i]))):=by
  unfold clS;rw [List.filter_filter];exact⟨_,rfl⟩
 refine is.ext (Oj p) λj=> ?_
 rw [N0,mem_pc,Ml,M6,Ml];exact⟨λ⟨⟨a,b⟩,_,c⟩=>⟨a,b,c⟩,λ⟨a,b,c⟩=>⟨⟨a,b⟩,hp,c⟩⟩
theorem Pj {kss:List (List Int)}(r:kss.Pairwise λx y=>HT.jI x y=true)(m: ∀k,k∈kss↔k∈(List.range n).map λp=>toI (pcS T n p)):kss=(YT T n).map toI:=by
 refine CH SE r (by rw [B0];exact Bs) λk=> ?_
 rw [m k,R7,R7];constructor
 ·rintro ⟨p,hp,rfl⟩;exact⟨_,mem_pcs.mpr ⟨p,D6.mp hp,rfl⟩,rfl⟩
 ·rintro ⟨S,hS,rfl⟩;obtain⟨p,hp,rfl⟩:=mem_pcs.mp hS;exact⟨p,D6.mpr hp,rfl⟩
end
end L2
namespace L2
open PySem PySem.Spec PyProof.Rows HT PySem.SeqAt
section
variable {prog:Program}{w:World}{A:Around}{E:Value->Shared->Prop}{s:Shared}
inductive RowsIn (prog:Program)(w:World)(h:Heap):List (List Int)->List Value->Prop
 |nil:RowsIn prog w h [] []
 |cons {r:List Int} {b:Addr} {T:List (List Int)} {vs:List Value}:IsTupleKey (intKind prog w) h r b->RowsIn prog w h T vs->RowsIn prog w h (r::T) (.ref b::vs)
end
end L2
namespace L2
open PySem PySem.Spec PyProof.Rows PySem.W
structure DefIn (K:Frag)(x:Str)(st:Stmt)(f:Addr)(fd:FuncData):Prop where
 at_:nsIn K mainGlobals x=some (some (.ref f))
 fn:Fun K x x st f fd
variable {K:Frag}{h base:Heap}{mg:Str->Option Value}{x:Str}{st:Stmt}{f:Addr}{fd:FuncData}{P:Program}{w:World}{n:Nat}{ps:List Str}
theorem SK {oc:Value}{od an:Option Addr}{osl:Array (Option Value)}{kV doc pm cdv ct:Value}(a:nsIn K mainGlobals x=some (some (.ref f)))(l:K.lookup f=some ⟨oc,od,.func (fnOf x x (yk st) (jX st) (je st) .none kV doc pm an cdv ct),osl⟩)
 (c:codeIn K cdv x=true)(k:keepIn K (.ref f)=true):DefIn K x st f (fnOf x x (yk st) (jX st) (je st) .none kV doc pm an cdv ct):=⟨a,AG l c k⟩
abbrev SL (x:Str)(st:Stmt)(ps:List Str):Prop:= ∀ (kV doc pm:Value) (an:Option Addr) (cdv ct:Value) (us:List Value),us.length=ps.length->bindArgs (fnOf x x (yk st) (jX st) (je st) .none kV doc pm an cdv ct) ⟨us,[]⟩=pure (ps.zip us)
theorem DefIn.nm (d:DefIn K x st f fd)(X:K.In h)(G:h.Ns mainGlobals mg):mg x=some (.ref f):=mg_of X G d.at_
theorem DefIn.cal {sp:RDn}(d:DefIn K x st f fd)(l:OpenLaw)(w:World)(base:Heap)(X:K.In h)(G:h.Ns mainGlobals mg)(ok:FnOk l.prog w K mg base CX0 n f fd ps (LSp K sp))(b:SL x st ps:=by first|(exact λ_ _ _ _ _ _ us hl=>match us,hl with| [_],_=>rfl)|(exact λ_ _ _ _ _ _ us hl=>match us,hl with| [_,_],_=>rfl)|(exact λ_ _ _ _ _ _ us hl=>match us,hl with| [_,_,_],_=>rfl)|(exact λ_ _ _ _ _ _ us hl=>match us,hl with| [_,_,_,_],_=>rfl)|(exact λ_ _ _ _ _ _ us hl=>match us,hl with| [_,_,_,_,_],_=>rfl)):jJ l.prog w K mg base n x ps sp:=⟨_,_,ok,d.fn.binds b,d.fn.kp,d.nm X G⟩
theorem DefIn.rai {sp:RDx}(d:DefIn K x st f fd)(l:OpenLaw)(w:World)(base:Heap)(X:K.In h)(G:h.Ns mainGlobals mg)(ok:FnOk l.prog w K mg base (CXR l.prog w) n f fd ps (NK mg K sp))(b:SL x st ps:=by first|(exact λ_ _ _ _ _ _ us hl=>match us,hl with| [_],_=>rfl)|(exact λ_ _ _ _ _ _ us hl=>match us,hl with| [_,_],_=>rfl)|(exact λ_ _ _ _ _ _ us hl=>match us,hl with| [_,_,_],_=>rfl)|(exact λ_ _ _ _ _ _ us hl=>match us,hl with| [_,_,_,_],_=>rfl)|(exact λ_ _ _ _ _ _ us hl=>match us,hl with| [_,_,_,_,_],_=>rfl)):ZI l.prog w K mg base n x ps sp:=⟨_,_,ok,d.fn.binds b,d.fn.kp,d.nm X G⟩
def zsB (K:Frag):Bool:= ["len","max","min","divmod","all","any","repr","sum","sorted","int","tuple","list","set","bool","isinstance","range","zip","enumerate","reversed"].all λx=>nsIn K mainGlobals (Str.ofString x)==some none
theorem HJ (X:K.In h)(G:h.Ns mainGlobals mg)(e:zsB K=true):Zs mg:=by
 unfold zsB at e;rw [M8] at e;have m:=λ(x:String) hx=>mg_none_of X G (V5.mp (e x hx))
 exact⟨m "len" (by decide),m "max" (by decide),m "min" (by decide),m "divmod" (by decide),m "all" (by decide),m "any" (by decide),m "repr" (by decide),m "sum" (by decide),m "sorted" (by decide),m "int" (by decide),m "tuple" (by decide),m "list" (by decide),m "set" (by decide),m "bool" (by decide),m "isinstance" (by decide),m "range" (by decide),m "zip" (by decide),m "enumerate" (by decide),m "reversed" (by decide)⟩
end L2
namespace My
open PySem L2
def top (i:Nat):Stmt:=PySem.Challenge.pw_firstpowers_k27_the_beat.main.body.getD i (.Pass ⟨0,0,0,0⟩)
abbrev Jp:Stmt:=top 17
theorem XJ:FnScope ["thing"] ["thing"] (je Jp):=⟨rfl,rfl,rfl,by decide +kernel,rfl,by decide +kernel,by decide +kernel⟩
abbrev wC:Stmt:=top 18
theorem yD:FnScope ["thing","size","number"] ["thing","size"] (je wC):=⟨rfl,rfl,rfl,by decide +kernel,rfl,by decide +kernel,by decide +kernel⟩
abbrev zT:Stmt:=top 19
theorem wI:FnScope ["thing","row"] ["thing"] (je zT):=⟨rfl,rfl,rfl,by decide +kernel,rfl,by decide +kernel,by decide +kernel⟩
abbrev wv:Stmt:=top 20
theorem vV:FnScope ["thing"] ["thing"] (je wv):=⟨rfl,rfl,rfl,by decide +kernel,rfl,by decide +kernel,by decide +kernel⟩
abbrev ZX:Stmt:=top 22
theorem zK:FnScope ["table","size","come","by","one","other"] ["table"] (je ZX):=⟨rfl,rfl,rfl,by decide +kernel,rfl,by decide +kernel,by decide +kernel⟩
abbrev vg:Stmt:=top 23
theorem zn:FnScope ["come","size","told","place","piece","other"] ["come"] (je vg):=⟨rfl,rfl,rfl,by decide +kernel,rfl,by decide +kernel,by decide +kernel⟩
abbrev Zg:Stmt:=top 24
theorem Uu:FnScope ["table"] ["table"] (je Zg):=⟨rfl,rfl,rfl,by decide +kernel,rfl,by decide +kernel,by decide +kernel⟩
abbrev Zh:Stmt:=top 25
theorem Uv:FnScope ["table"] ["table"] (je Zh):=⟨rfl,rfl,rfl,by decide +kernel,rfl,by decide +kernel,by decide +kernel⟩
abbrev XL:Stmt:=top 27
theorem Gr:FnScope ["table","place","head","number"] ["table","place"] (je XL):=⟨rfl,rfl,rfl,by decide +kernel,rfl,by decide +kernel,by decide +kernel⟩
abbrev wn:Stmt:=top 29
theorem yh:FnScope ["one","other"] ["one","other"] (je wn):=⟨rfl,rfl,rfl,by decide +kernel,rfl,by decide +kernel,by decide +kernel⟩
abbrev yr:Stmt:=top 30
theorem jZ:FnScope ["table","told","paths","place","path","head"] ["table"] (je yr):=⟨rfl,rfl,rfl,by decide +kernel,rfl,by decide +kernel,by decide +kernel⟩
abbrev Gj:Stmt:=top 31
theorem Wp:FnScope ["table","told","each"] ["table"] (je Gj):=⟨rfl,rfl,rfl,by decide +kernel,rfl,by decide +kernel,by decide +kernel⟩
abbrev vh:Stmt:=top 33
theorem Uw:FnScope ["_law_script","_law_k"] ["_law_script","_law_k"] (je vh):=⟨rfl,rfl,rfl,by decide +kernel,rfl,by decide +kernel,by decide +kernel⟩
abbrev Jq:Stmt:=top 34
theorem Wo:FnScope ["_law_cell_here","_law_left"] ["_law_cell_here"] (je Jq):=⟨rfl,rfl,rfl,by decide +kernel,rfl,by decide +kernel,by decide +kernel⟩
abbrev vj:Stmt:=top 35
theorem wx:FnScope ["_law_pen_here","_law_many","_law_left","_law_found","_law_stir"] ["_law_pen_here","_law_many"] (je vj):=⟨rfl,rfl,rfl,by decide +kernel,rfl,by decide +kernel,by decide +kernel⟩
abbrev vk:Stmt:=top 37
theorem zm:FnScope ["_law_e","_law_seen","_law_words"] ["_law_e"] (je vk):=⟨rfl,rfl,rfl,by decide +kernel,rfl,by decide +kernel,by decide +kernel⟩
abbrev vm:Stmt:=top 38
theorem JK:FnScope ["_law_call","_law_found","_law_e","_law_word"] ["_law_call"] (je vm):=⟨rfl,rfl,rfl,by decide +kernel,rfl,by decide +kernel,by decide +kernel⟩
abbrev vn:Stmt:=top 39
theorem Ux:FnScope ["_law_found","_law_due"] ["_law_found","_law_due"] (je vn):=⟨rfl,rfl,rfl,by decide +kernel,rfl,by decide +kernel,by decide +kernel⟩
abbrev vo:Stmt:=top 40
theorem Uy:FnScope ["_law_pen_here"] ["_law_pen_here"] (je vo):=⟨rfl,rfl,rfl,by decide +kernel,rfl,by decide +kernel,by decide +kernel⟩
abbrev yt:Stmt:=top 41
theorem jC:FnScope ["_law_pen_here","_law_size_here","_law_way","_law_often","_law_most","_law_rows","_law_one","_law_row","_law_other","_law_goes"] ["_law_pen_here","_law_size_here"] (je yt):=⟨rfl,rfl,rfl,by decide +kernel,rfl,by decide +kernel,by decide +kernel⟩
abbrev yu:Stmt:=top 42
theorem wa:FnScope ["_law_table_here","_law_some","_law_size_here","_law_place","_law_one"] ["_law_table_here","_law_some"] (je yu):=⟨rfl,rfl,rfl,by decide +kernel,rfl,by decide +kernel,by decide +kernel⟩
abbrev yw:Stmt:=top 43
theorem wY:FnScope ["_law_pen_here","_law_many","_law_found","_law_what"] ["_law_pen_here","_law_many"] (je yw):=⟨rfl,rfl,rfl,by decide +kernel,rfl,by decide +kernel,by decide +kernel⟩
abbrev Jr:Stmt:=top 44
theorem zJ:FnScope ["_law_table_here","_law_found","_law_place","_law_some","_law_turn"] ["_law_table_here"] (je Jr):=⟨rfl,rfl,rfl,by decide +kernel,rfl,by decide +kernel,by decide +kernel⟩
abbrev wQ:Stmt:=top 45
theorem ze:FnScope ["_law_table_here","_law_far_here","_law_found","_law_place","_law_one"] ["_law_table_here"] (je wQ):=⟨rfl,rfl,rfl,by decide +kernel,rfl,by decide +kernel,by decide +kernel⟩
abbrev zj:Stmt:=top 46
theorem jk:FnScope ["_law_pen_here","_law_size_here","_law_order_here","_law_d","_law_often","_law_most","_law_found","_law_at","_law_one","_law_to","_law_other","_law_row","_law_place"] ["_law_pen_here","_law_size_here"] (je zj):=⟨rfl,rfl,rfl,by decide +kernel,rfl,by decide +kernel,by decide +kernel⟩
abbrev wR:Stmt:=top 47
theorem jG:FnScope ["_law_table_here","_law_found","_law_walks","_law_later","_law_walk","_law_row","_law_place","_law_to"] ["_law_table_here"] (je wR):=⟨rfl,rfl,rfl,by decide +kernel,rfl,by decide +kernel,by decide +kernel⟩
abbrev vp:Stmt:=top 48
theorem zQ:FnScope ["_law_table_here","_law_sizes","_law_good","_law_some","_law_d","_law_size_here"] ["_law_table_here"] (je vp):=⟨rfl,rfl,rfl,by decide +kernel,rfl,by decide +kernel,by decide +kernel⟩
abbrev ww:Stmt:=top 49
theorem wZ:FnScope ["_law_table_here","_law_due","_law_turn"] ["_law_table_here"] (je ww):=⟨rfl,rfl,rfl,by decide +kernel,rfl,by decide +kernel,by decide +kernel⟩
abbrev Pk:Stmt:=top 50
theorem Gs:FnScope ["_law_script","_law_cell_here","_law_pen_here","_law_turn"] ["_law_script"] (je Pk):=⟨rfl,rfl,rfl,by decide +kernel,rfl,by decide +kernel,by decide +kernel⟩
section
variable {P:Program}{w:World}{K:PySem.W.Frag}{mg:Str->Option Value}{base:Heap}
/-- no def is asked of the script's list: a thing -/
def CI:D->Bool
 | .int _=>true
 |_=>false
/-- a row of so many numbers from 0 on -/
def Td:D->Bool
 | .int i=>decide (0<=i)
 |_=>false
def CJ (d:D)(k:Int):Bool:=match d with
 | .tup ds=>decide ((ds.length:Int)=k)&&ds.all Td
 |_=>false
/-! every part has a kind that is told,and no tuple is long -/
mutual
def okD:D->Bool
 | .scr _=>false| .exc _=>false| .fn _=>false
 | .tup ds=>decide (ds.length<=1000)&&okDs ds
 |_=>true
def okDs:List D->Bool
 | []=>true
 |d::ds=>okD d&&okDs ds
end
theorem Gk: ∀ {ds:List D},okDs ds=true-> ∀d∈ds,okD d=true
 |d::ds,h,x,hx=>by
  have h':(okD d&&okDs ds)=true:=h;rw [T5] at h';rcases P3.mp hx with e|e
  ·subst e;exact h'.1
  ·exact Gk h'.2 x e
theorem Mm: ∀ {ds:List D},(∀d∈ds,okD d=true)->okDs ds=true
 | [],_=>rfl
 |d::ds,h=>by
  show (okD d&&okDs ds)=true;rw [h d P9,Mm λx hx=>h x (D5 _ hx)];rfl
theorem Mn {ds:List D}(h:okD (.tup ds)=true):ds.length<=1000/\ ∀d∈ds,okD d=true:=by
 have h':(decide (ds.length<=1000)&&okDs ds)=true:=h;rw [T5] at h';exact⟨N8 h'.1,Gk h'.2⟩
theorem CK {ds:List D}(h:ds.length<=1000)(h2: ∀d∈ds,okD d=true):okD (.tup ds)=true:=by
 show (decide (ds.length<=1000)&&okDs ds)=true;rw [R1 h,Mm h2];rfl
theorem YV {d:D}(h:okD d=true): ∃n,VM d=some n:=by
 cases d<;>first|exact⟨_,rfl⟩|cases h
/-- a table -/
def MS:D->Bool
 | .tup rs=>decide (1<=rs.length)&&decide (rs.length<=6)&&rs.all λr=>CJ r rs.length
 |_=>false
def ZY:RDn:=λds h Q=> ∃d n,ds= [d]/\VM d=some n/\Q (.bl (CI d)) h
variable {n:Nat}{f:Addr}{fd:FuncData}
theorem XM (Z:Zs mg)(F:Fun K "is_whole" "is_whole" Jp f fd):FnOk P w K mg base CX0 (n+1) f fd ["thing"] (LSp K ZY):=by
 refine F.okJ XJ (λds h Q q=>by obtain⟨d,nm,e,hn,q⟩:=q;subst e;rfl) _ (λcdv A outer s H E hr=>(jh (yc (EH (NC (T:= "int") (by decide) rfl Z.isinstance rfl Z.int (by decide +kernel) (jv 0)) (Cl (kq (NC (T:= "bool") (by decide) rfl Z.isinstance rfl Z.bool (by decide +kernel) (jv 0)))))))) ?_;intro ds h Q q;obtain⟨d,nm,e,hn,q⟩:=q;subst e;simp only [MQ,Nt,dIs,MP,zu,T9,W4,P6,S8,A6,B2,S5,N2,D.bl.injEq,Nu,Qu,X1,hn];cases d<;>cases hn<;>exact⟨h,Sub.refl h,q⟩
def yy:RDn:=λds h Q=> ∃d k,ds= [d,.int k]/\okD d=true/\Q (.bl (CJ d k)) h
theorem ZZ (Z:Zs mg)(F:Fun K "is_table_row" "is_table_row" wC f fd)(Pq:jJ P w K mg base n "is_whole" ["thing"] ZY):FnOk P w K mg base CX0 (n+1) f fd ["thing","size"] (LSp K yy):=by
 obtain⟨CO,BO,Pu,Qe,Qn,Qq⟩:=Pq;refine F.okJ yD (λds h Q q=>by obtain⟨d,k,e,ok,q⟩:=q;subst e;rfl) _ (λcdv A outer s H E hr=>(jf (WY (jpt (OL (vF (yn (NC (T:= "tuple") (by decide) rfl Z.isinstance rfl Z.tuple (by decide +kernel) (jv 0)))) (EG (zv oq_ne (jR zM rfl Z.len B6 (jac (jv 0) jd)) (jv 1) (jE _))))) (jh (yc jbl)) zl) (by exact(jh (yc (jR (Ch rfl) rfl Z.all G1q (jac (jlc (i:=2) (js:= [2]) rfl (jx (by rfl)) (wt (jv 0)) (by decide) yD.nd rfl (by first|exact Or.inl rfl|exact Or.inr rfl) (λX' hX=>zS) (λX' hX=>by obtain⟨C,s₀,H₀,ex,rfl⟩:=hX;exact(EH (jL Pu hr rfl Qq Qn Qe (jac (jv 2) jd)) (Cl (PR FN (jv 2) jD (jE _)))))) jd))))))) ?_;intro ds h Q q;obtain⟨d,k,e,ok,q⟩:=q;subst e;obtain⟨nm,hn⟩:=YV ok;simp only [Nx,OH,AK,DB,JL,dIs,MP,zu,T9,W4,P6,S8,List.replicate,A6,B2,S5,N2,D.bl.injEq,MQ,dC,Qu,GA,dCB,vC,PQ,dOp,Ep,T4,neD,X1,hn];cases d with
 |tup es=>
  cases hn;obtain⟨hl,ht⟩:=Mn ok;simp only [Er]
  by_cases hk:(es.length:Int)=k
  ·simp only [hk];simp;refine DM (ds:=es) (h1:=h) (j:=λ_=>some es) (λx=> .bl (Td x)) (D4 (jA hl)) rfl (λR r=>⟨.tup es,rfl,r⟩) (λd hd Q' q'=> ?_) (λp hp=> ?_)
   ·obtain⟨nn,hnn⟩:=YV (ht d hd);refine⟨d,rfl,d,nn,rfl,hnn,CI d,rfl,?_⟩;cases d with
    |int i=>exact MO ⟨.int i,rfl,q'⟩
    |_=>exact Zr q'
   ·refine⟨p,es.map Td,rfl,by rw [jc];simp,h,?_,?_⟩
    ·rw [yl hp];exact Sub.refl h
    ·simpa [CJ,hk,W5,G00] using q
  ·simp [hk];exact⟨h,Sub.refl h,by simpa [CJ,hk] using q⟩
 |_=>cases hn<;>exact⟨h,Sub.refl h,q⟩
def zE:RDn:=λds h Q=> ∃d,ds= [d]/\okD d=true/\Q (.bl (MS d)) h
theorem Js (Z:Zs mg)(F:Fun K "has_table_form" "has_table_form" zT f fd)(WC:jJ P w K mg base n "is_table_row" ["thing","size"] yy)(vw: ∃tk,mg "MOST_ROWS" =some (.int 6 tk)):FnOk P w K mg base CX0 (n+1) f fd ["thing"] (LSp K zE):=by
 obtain⟨PU,PF,WD,Wg,Wk,Wm⟩:=WC;obtain⟨tk_MOST_ROWS,m_MOST_ROWS⟩:=vw;refine F.okJ wI (λds h Q q=>by obtain⟨d,e,ok,q⟩:=q;subst e;rfl) _ (λcdv A outer s H E hr=>(jf (WY (jpt (OL (vF (yn (NC (T:= "tuple") (by decide) rfl Z.isinstance rfl Z.tuple (by decide +kernel) (jv 0)))) (EG (vF (FU En En jD (jR zM rfl Z.len B6 (jac (jv 0) jd)) (Hm rfl m_MOST_ROWS)))))) (jh (yc jbl)) zl) (by exact(jh (yc (jR (Ch rfl) rfl Z.all G1q (jac (jlc (i:=1) (js:= [1]) rfl (jx (by rfl)) (wt (jv 0)) (by decide) wI.nd rfl (by first|exact Or.inl rfl|exact Or.inr rfl) (λX' hX=>zS) (λX' hX=>by obtain⟨C,s₀,H₀,ex,rfl⟩:=hX;exact(jL WD hr rfl Wm Wk Wg (jac (jv 1) (by exact(jac (jR zM rfl Z.len B6 (jac (jv 0) jd)) jd)))))) jd))))))) ?_;intro ds h Q q;obtain⟨d,e,ok,q⟩:=q;subst e;obtain⟨nm,hn⟩:=YV ok;simp only [Nx,OH,AK,DB,JL,dIs,MP,zu,T9,W4,P6,S8,List.replicate,A6,B2,S5,N2,D.bl.injEq,MQ,dC,Qu,GA,dCB,vC,PQ,VJ,Ep,Cd,X1,hn];cases d with
 |tup es=>
  cases hn;obtain⟨hl,ht⟩:=Mn ok;simp only [Er]
  by_cases h1:1<=es.length
  ·by_cases h6:es.length<=6
   ·have h1':(1:Int)<=es.length:=by omega
    have h6':(es.length:Int)<=6:=by omega
    simp [h1',h6'];refine DM (ds:=es) (h1:=h) (j:=λ_=>some es) (λx=> .bl (CJ x es.length)) (D4 (jA hl)) rfl (λR r=>⟨.tup es,rfl,r⟩) (λd hd Q' q'=> ?_) (λp hp=> ?_)
    ·exact⟨d,rfl,.tup es,rfl,d,es.length,rfl,ht d hd,q'⟩
    ·refine⟨p,es.map λx=>CJ x es.length,rfl,by rw [jc];simp,h,?_,?_⟩
     ·rw [yl hp];exact Sub.refl h
     ·simpa [MS,h1,h6,W5,G00] using q
   ·have h1':(1:Int)<=es.length:=by omega
    have h6': ¬ (es.length:Int)<=6:=by omega
    simp [h1',h6'];exact⟨h,Sub.refl h,by simpa [MS,h1,h6] using q⟩
  ·have h1': ¬ (1:Int)<=es.length:=by omega
   simp [h1'];exact⟨h,Sub.refl h,by simpa [MS,h1] using q⟩
 |_=>cases hn<;>exact⟨h,Sub.refl h,q⟩
theorem Op {x:Int}(h:0<=x):Td (.int x)=true:=R1 h
variable {T:List (List Int)}
theorem Oq {e:Nat}(h:Sq n e T){r:List Int}(hr:r∈T):CJ (Wu r) n=true:=by
 simp only [CJ,Wu,G0,h.row r hr,decide_true,Bool.true_and,W5,M8,G1K];intro x hx;exact Op (h.nn r hr x hx)
theorem Os {e:Nat}(h:Sq n e T)(h1:1<=n)(h6:n<=6):MS (zo T)=true:=by
 simp only [MS,zo,G0,h.len,R1 h1,R1 h6,Bool.true_and,W5,M8,G1K];intro r hr;exact Oq h hr
theorem SM {e:Nat}(h:Sq n e T)(h6:n<=6):okD (zo T)=true:=
 CK (by rw [G0,h.len];omega) λd hd=>by
  obtain⟨r,hr,rfl⟩:=R7.mp hd;exact CK (by rw [G0,h.row r hr];omega) λd hd=>by obtain⟨x,_,rfl⟩:=R7.mp hd;rfl
def wS:RDn:=λds h Q=> ∃T,∃n e:Nat,ds= [zo T]/\Sq n e T/\1<=n/\n<=6/\Q .non h
theorem YW (Z:Zs mg)(F:Fun K "want_table" "want_table" wv f fd)(zU:jJ P w K mg base n "has_table_form" ["thing"] zE):FnOk P w K mg base CX0 (n+1) f fd ["thing"] (LSp K wS):=by
 obtain⟨Ja,vy,zV,zF,zG,zH⟩:=zU;refine F.okJ vV (λds h Q q=>by obtain⟨T,k,b,e,hT,h1,h6,q⟩:=q;subst e;rfl) _ (λcdv A outer s H E hr=>(jh (WY (vF (yn (jL zV hr rfl zH zG zF (jac (jv 0) jd)))) (jh Qx) zl))) ?_;intro ds h Q q;obtain⟨T,k,b,e,hT,h1,h6,q⟩:=q;subst e;refine⟨_,rfl,zo T,rfl,SM hT h6,_,rfl,?_⟩;rw [Os hT h1 h6];exact Zr ⟨h,Sub.refl h,q⟩
def yU:RDx:=λds h R=> ∃d,ds= [d]/\okD d=true/\MS d=false/\R "NoTable" h
theorem Wz (Z:Zs mg)(Ex:Exc K mg)(F:Fun K "want_table" "want_table" wv f fd)(zU:jJ P w K mg base n "has_table_form" ["thing"] zE):FnOk P w K mg base (CXR P w) (n+1) f fd ["thing"] (NK mg K yU):=by
 obtain⟨Ja,vy,zV,zF,zG,zH⟩:=zU;refine F.okX vV (λds h R q=>by obtain⟨d,e,ok,bad,q⟩:=q;subst e;rfl) _ (λcdv A outer s H E hr=>(EO (vF (yn (jL zV hr rfl zH zG zF (jac (jv 0) jd)))) (QB rfl (Ex.own "NoTable" (by decide)) rfl))) ?_;intro ds h R q;obtain⟨d,e,ok,bad,q⟩:=q;subst e;refine⟨_,rfl,d,rfl,ok,_,rfl,?_⟩;rw [bad];exact⟨rfl,q⟩
def Yl:RDn:=λds h Q=> ∃T,∃n e:Nat,ds= [zo T]/\Sq n e T/\n<=6/\ ∀R rs h',GB n h h' R rs (wk T n)->Q (.lst R) h'
theorem Pl (Z:Zs mg)(F:Fun K "reaches" "reaches" ZX f fd):FnOk P w K mg base CX0 (n+1) f fd ["table"] (LSp K Yl):=by
 refine F.okJ zK (λds h Q q=>by obtain⟨T,n,b,e,hT,h6,q⟩:=q;subst e;rfl) _ (λcdv A outer s H E hr=>(jf (wA (i:=1) zK.nd rfl (by first|exact Or.inr rfl|exact Or.inl rfl) (jR zM rfl Z.len B6 (jac (jv 0) jd))) (by exact(jf (VT (i:=4) (k:=2) (js:= [4]) rfl zK.nd rfl (Or.inl rfl) (jx (by rfl)) (yj rfl Z.range (jac (jv 1) jd)) (by decide) rfl (by first|exact Or.inl rfl|exact Or.inr rfl) (λX' hX=>zS) (λX' hX=>by obtain⟨C,s₀,H₀,ex,rfl⟩:=hX;exact(jlc (i:=5) (js:= [5]) rfl (jx (by rfl)) (yj rfl Z.range (jac (jv 1) jd)) (by decide) zK.nd rfl (by first|exact Or.inl rfl|exact Or.inr rfl) (λX' hX=>zS) (λX' hX=>by obtain⟨C,s₀,H₀,ex,rfl⟩:=hX;exact(jor (PR (VP hr.units) (jv 4) (jv 5) (jE _)) (Cl (PR oq_ne (jix (jix (jv 0) (jv 4) (λ_ _=>rfl)) (jv 5) (λ_ _=>rfl)) jD (jE _)))))))) (by exact(jf (VS M7 rfl (yj rfl Z.range (jac (jv 1) jd)) (zh (i:=3) zK.nd rfl (Or.inl rfl)) (jh (VS M7 rfl (yj rfl Z.range (jac (jv 1) jd)) (zh (i:=4) zK.nd rfl (by first|exact Or.inr rfl|exact Or.inl rfl)) (jh (VS M7 rfl (yj rfl Z.range (jac (jv 1) jd)) (zh (i:=5) zK.nd rfl (by first|exact Or.inr rfl|exact Or.inl rfl)) (jh (WY (jpt (GE (yn (jix (jix (jv 2) (jv 4) (λ_ _=>rfl)) (jv 3) (λ_ _=>rfl))) (DQ (yn (jix (jix (jv 2) (jv 3) (λ_ _=>rfl)) (jv 5) (λ_ _=>rfl)))))) (jh (OM jbl (VU (jix (jv 2) (jv 4) (λ_ _=>rfl)) (jv 5)))) zl))))))) (by exact(jh (yc (jv 2)))))))))) ?_;intro ds h Q q;obtain⟨T,n,b,e,hT,h6,q⟩:=q;subst e;refine ji (λσ' h'=>σ'= [some (zo T),some (.int (n:Int)),none,none,none,none]/\h=h') (λC hC=>⟨_,rfl,hC _ _ ⟨by rw [G0,hT.len];rfl,rfl⟩⟩) ?_;rintro _ _ ⟨rfl,rfl⟩;refine ji (λσ' h'=> ∃R rs u v w,σ'= [some (zo T),some (.int (n:Int)),some (.lst R),u,v,w]/\GB n h h' R rs (wk T 0)) (λC hC=> ?_) ?_
 ·refine EC (h1:=h) n (λi ys h'=> ∃rs,ys=rs.map D.lst/\rs.length=i/\Sub h h'/\rs.Nodup/\ ∀m a,rs[m]? =some a->h a=none/\h' a=some ((List.range n).map λj=>D.bl (wk T 0 m j))) (by omega) (λR r=>⟨_,rfl,r⟩) ⟨[],rfl,rfl,Sub.refl h,List.nodup_nil,by simp⟩ (λi ys h' ⟨rs,e,el,_⟩=>by rw [e,G0];exact el) ?_ ?_
  ·rintro i ys h3 hi ⟨rs,rfl,lrs,sb3,nd3,rows3⟩;refine lcA (List.range n) (λj=> .int (j:Int)) (λj=> .bl (wk T 0 i j)) (by rw [R5];omega) rfl (λR r=>⟨_,rfl,(n:Int),rfl,by omega,by omega,r⟩) (λj hj Q' q'=>⟨_,rfl,_,rfl,_,rfl,?_⟩) (λp5 e5=> ?_)
   ·have hj:=D6.mp hj;have q':Q' (.bl (decide (i=j)|| !decide (ent T i j=0))) h3:=q';have ed:decide ((i:Int)=(j:Int))=decide (i=j):=by rw [C5,M6,M6];omega
    rw [ed]
    by_cases c:i=j
    ·rw [R1 c] at q' ⊢;exact MO q'
    ·rw [R9 c] at q' ⊢;exact Zr ⟨_,rfl,_,rfl,_,ZC hT hi,_,rfl,_,ZD (hT.row _ (Sq.getRow hT hi)) hj,q'⟩
   ·refine⟨_,Sub.refl _,by omega,rs++ [p5],by rw [S4];rfl,by rw [G6,lrs];rfl,Sub.newAt sb3 e5,?_,λm a ha=> ?_⟩
    ·rw [G0g];refine⟨nd3,by simp,λa ha b hb z=> ?_⟩;rw [G7.mp hb] at z;subst z;obtain⟨m,hm⟩:=J8 ha;rw [(rows3 m _ hm).2] at e5;cases e5
    ·by_cases hm:m<rs.length
     ·rw [S0 hm] at ha;exact⟨(rows3 m a ha).1,jg (rows3 m a ha).2 e5⟩
     ·rw [P8 (by omega)] at ha;have em:m-rs.length=0:=by
       have:=(P0.mp ha).1;simp at this;omega
      rw [em] at ha;have ea:p5=a:=by simpa using ha
      subst ea;have:m=i:=by omega
      subst this;exact⟨yJ sb3 e5,jc⟩
  ·rintro ys h3 ⟨rs,rfl,lrs,sb3,nd3,rows3⟩ R eR;refine hC _ _ ⟨R,rs,_,_,_,rfl,jc,lrs,λhR=> ?_,nd3,Sub.newAt sb3 eR,λi a ha=>⟨(rows3 i a ha).1,jg (rows3 i a ha).2 eR⟩⟩;obtain⟨m,hm⟩:=J8 hR;rw [(rows3 m _ hm).2] at eR;cases eR
 rintro _ h3 ⟨R,rs,u,v,w,rfl,G⟩;refine ji (λσ' h'=> ∃u v w,σ'= [some (zo T),some (.int (n:Int)),some (.lst R),u,v,w]/\GB n h h' R rs (wk T n)) (λC hC=> ?_) ?_
 ·refine zR n (λk σ' h'=> ∃u v w,σ'= [some (zo T),some (.int (n:Int)),some (.lst R),u,v,w]/\GB n h h' R rs (wk T k)) (by omega) (λR r=>⟨_,rfl,r⟩) ⟨u,v,w,rfl,G⟩ (λσ' h' z=>hC _ _ z) ?_;clear G;rintro k _ h4 hk ⟨u,v,w,rfl,G⟩;refine zR n (λi σ' h'=> ∃v w,σ'= [some (zo T),some (.int (n:Int)),some (.lst R),some (.int (k:Int)),v,w]/\GB n h h' R rs (fW T k i 0)) (by omega) (λR r=>⟨_,rfl,r⟩) ⟨v,w,rfl,G.as λx y _ _=>LL T k x y⟩ (λσ' h' ⟨v,w,e,G⟩=>⟨_,Sub.refl _,by omega,_,v,w,e,G.as λx y hx _=>Sr T k x y hx⟩) ?_;clear G;rintro i _ h5 hi ⟨v,w,rfl,G⟩;refine zR n (λj σ' h'=> ∃w,σ'= [some (zo T),some (.int (n:Int)),some (.lst R),some (.int (k:Int)),some (.int (i:Int)),w]/\GB n h h' R rs (fW T k i j)) (by omega) (λR r=>⟨_,rfl,r⟩) ⟨w,rfl,G⟩ (λσ' h' ⟨w,e,G⟩=>⟨_,Sub.refl _,by omega,_,w,e,G.as λx y _ hy=>LK T k i x y hy⟩) ?_;clear G;rintro j _ h6' hj ⟨w,rfl,G⟩;obtain⟨a,ha,a1,a2⟩:=G.pick hi;obtain⟨c,hc,c1,c2⟩:=G.pick hk;refine⟨_,rfl,_,rfl,_,_,G.at_,a1,_,rfl,_,_,a2,QZ hk,_,rfl,?_⟩;rw [Sl];refine Wq (λz1=> ?_) λz1=> ?_
  ·refine⟨_,rfl,_,rfl,_,_,G.at_,c1,_,rfl,_,_,c2,QZ hj,_,rfl,?_⟩;rw [Sn];refine Wq (λz2=> ?_) λz2=> ?_
   ·exact⟨_,rfl,_,rfl,_,_,G.at_,a1,_,rfl,a,(j:Int),_,j,rfl,rfl,a2,YH (by rw [G0,R5];exact hj),_,Sub.refl _,by omega,_,rfl,(G.put ha).as λx y _ _=>So z1 z2 x y⟩
   ·exact⟨_,Sub.refl _,by omega,_,rfl,G.as λx y _ _=>RQ (λz=>z2 z.2) x y⟩
  ·exact⟨_,Sub.refl _,by omega,_,rfl,G.as λx y _ _=>RQ (λz=>z1 z.1) x y⟩
 rintro _ h4 ⟨u,v,w,rfl,G⟩;exact⟨_,rfl,_,Sub.refl _,q R rs h4 G⟩
def Jy:RDn:=λds h Q=> ∃R rs h0 T,∃n:Nat,ds= [.lst R]/\GB n h0 h R rs (wk T n)/\n<=6/\ ∀A h',h A=none->h' A=some ((YT T n).map jK)->Sub h h'->Q (.lst A) h'
theorem Uz (Z:Zs mg)(F:Fun K "pieces_by" "pieces_by" vg f fd):FnOk P w K mg base CX0 (n+1) f fd ["come"] (LSp K Jy):=by
 refine F.okJ zn (λds h Q q=>by obtain⟨R,rs,h0,T,n,e,G,h6,q⟩:=q;subst e;rfl) _ (λcdv A outer s H E hr=>(jf (wA (i:=1) zn.nd rfl (Or.inl rfl) (jR zM rfl Z.len B6 (jac (jv 0) jd))) (by exact(jf (wA (i:=2) zn.nd rfl (Or.inl rfl) (Jg jd)) (by exact(jf (VS M7 rfl (yj rfl Z.range (jac (jv 1) jd)) (zh (i:=3) zn.nd rfl (by first|exact Or.inr rfl|exact Or.inl rfl)) (jf (wA (i:=4) zn.nd rfl (Or.inl rfl) (wg vE rfl Z.tuple (by decide +kernel) (jac (jlc (i:=5) (js:= [5]) rfl (jx (by rfl)) (yj rfl Z.range (jac (jv 1) jd)) (by decide) zn.nd rfl (by first|exact Or.inl rfl|exact Or.inr rfl) (λX' hX=>by obtain⟨C,s₀,H₀,ex,rfl⟩:=hX;exact wL (jpt (GE (yn (jix (jix (jv 0) (jv 3) (λ_ _=>rfl)) (jv 5) (λ_ _=>rfl))) (DQ (yn (jix (jix (jv 0) (jv 5) (λ_ _=>rfl)) (jv 3) (λ_ _=>rfl))))))) (λX' hX=>by obtain⟨C,s₀,H₀,ex,rfl⟩:=hX;exact(jv 5))) jd))) (by exact(jh (WY (zv (VP hr.units) (jix (jv 4) jD (λ_ _=>rfl)) (jv 3) (jE _)) (jh (YD (ON (jv 2) (jv 4)))) zl))))) (by exact(jh (yc (jv 2)))))))))) ?_;intro ds h Q q;obtain⟨R,rs,h0,T,n,e,G,h6,q⟩:=q;subst e;refine ji (λσ' h'=>σ'= [some (.lst R),some (.int (n:Int)),none,none,none,none]/\h=h') (λC hC=> ?_) ?_
 ·exact⟨_,rfl,_,G.at_,hC _ _ ⟨by rw [G0,G.len];rfl,rfl⟩⟩
 rintro _ _ ⟨rfl,rfl⟩;refine ji (λσ' h'=> ∃A,σ'= [some (.lst R),some (.int (n:Int)),some (.lst A),none,none,none]/\h A=none/\Sub h h'/\h' A=some []) (λC hC=>⟨(by show 0<=sizeLine;decide),λA eA=>hC _ _ ⟨A,rfl,eA,Sub.newAt (Sub.refl h) eA,jc⟩⟩) ?_;rintro _ h1 ⟨A,rfl,nA,sb,kA⟩;refine ji (λσ' h'=> ∃u v w,σ'= [some (.lst R),some (.int (n:Int)),some (.lst A),u,v,w]/\Sub h h'/\h' A=some ((YT T n).map jK)) (λC hC=> ?_) ?_
 ·refine zR n (λk σ' h'=> ∃u v w,σ'= [some (.lst R),some (.int (n:Int)),some (.lst A),u,v,w]/\Sub h h'/\h' A=some (((((List.range k).filter (λp=>decide ((pcS T n p).headD 0=p))).map (pcS T n))).map jK)) (by omega) (λR r=>⟨_,rfl,r⟩) ⟨_,_,_,rfl,sb,kA⟩ (λσ' h' z=>hC _ _ z) ?_;clear sb kA;rintro k _ h2 hk ⟨u,v,w,rfl,sb,kA⟩;have GG:=G.up sb;obtain⟨a,ha,a1,a2⟩:=GG.pick hk;refine ji (λσ' h'=> ∃w,σ'= [some (.lst R),some (.int (n:Int)),some (.lst A),some (.int (k:Int)),some (jK (pcS T n k)),w]/\h2=h') (λC hC=> ?_) ?_
  ·refine NH n (λj ys h'=>h'=h2/\ys=((List.range j).filter λi=>wk T n k i&&wk T n i k).map λ(i:Nat)=>D.int (i:Int)) (by omega) (λR r=>⟨_,rfl,r⟩) ⟨rfl,rfl⟩ (λj ys h' w=> ?_) (λj ys h' hj w=> ?_) (λys h' w=> ?_)
   ·rw [w.2,G0];exact P7 (L7 _ _) (by rw [R5];exact G5 _)
   ·obtain⟨rfl,rfl⟩:=w;obtain⟨c,hc,c1,c2⟩:=GG.pick hj;refine⟨_,rfl,_,rfl,_,_,GG.at_,a1,_,rfl,_,_,a2,QZ hj,_,rfl,Wq (λz1=> ?_) λz1=> ?_⟩
    ·refine⟨_,rfl,_,rfl,_,_,GG.at_,c1,_,rfl,_,_,c2,QZ hk,_,rfl,Wq (λz2=> ?_) λz2=> ?_⟩
     ·refine⟨_,rfl,_,Sub.refl _,by omega,rfl,?_⟩;rw [C9,L5,S4,O4 (by rw [z1,z2];rfl)];rfl
     ·refine⟨_,Sub.refl _,by omega,rfl,?_⟩;rw [C9,L5,S4,O5 (by rw [T5];exact λz=>z2 z.2)];simp
    ·refine⟨_,Sub.refl _,by omega,rfl,?_⟩;rw [C9,L5,S4,O5 (by rw [T5];exact λz=>z1 z.1)];simp
   ·obtain⟨rfl,rfl⟩:=w;exact hC _ _ ⟨_,rfl,rfl⟩
  rintro _ _ ⟨w',rfl,rfl⟩;obtain⟨r,er⟩:=YU (T:=T) hk;have a0:((pcS T n k).map λ(i:Nat)=>D.int (i:Int))[0]? =some (.int (((pcS T n k).headD 0:Nat):Int)):=by
   cases z:pcS T n k with
   |nil=>rw [z] at er;cases er
   |cons x r=>rfl
  refine⟨_,rfl,_,we (j:=0) a0,_,rfl,?_⟩;show ∃k_1,D.bl (decide ((((pcS T n k).headD 0:Nat):Int)=(k:Int)))= .bl k_1/\_;refine⟨_,rfl,Wq (λz=> ?_) λz=> ?_⟩
  ·have z:(pcS T n k).headD 0=k:=by have:=N8 z;omega
   refine⟨_,rfl,A,rfl,_,rfl,_,kA,?_,_,Sub.refl _,by omega,_,_,_,rfl,sb.over nA,?_⟩
   ·rw [G0,G0];exact jA (P7 (L7 _ _) (by rw [R5];omega))
   ·rw [jc,C9,L5,O4 (by rw [M6];exact z),Z8,S4,S4];rfl
  ·have z: ¬ (pcS T n k).headD 0=k:=λe=>z (R1 (by omega))
   refine⟨_,Sub.refl _,by omega,_,_,_,rfl,sb,?_⟩;rw [kA,C9,L5,O5 (by rw [M6];exact z),Z8,B7]
 rintro _ h4 ⟨u,v,w,rfl,sb4,k4⟩;exact⟨_,rfl,_,Sub.refl _,q A h4 nA k4 sb4⟩
def UA:RDn:=λds h Q=> ∃T,∃n e:Nat,ds= [zo T]/\Sq n e T/\1<=n/\n<=6/\ ∀A h',h A=none->h' A=some ((YT T n).map jK)->Sub h h'->Q (.lst A) h'
theorem Mo (Z:Zs mg)(F:Fun K "pieces" "pieces" Zg f fd)(yB:jJ P w K mg base n "want_table" ["thing"] wS)(XW:jJ P w K mg base n "pieces_by" ["come"] Jy)(Mt:jJ P w K mg base n "reaches" ["table"] Yl):FnOk P w K mg base CX0 (n+1) f fd ["table"] (LSp K UA):=by
 obtain⟨WI,Wj,yC,wT,wW,wX⟩:=yB;obtain⟨BL,Nc,Qa,UT,Xd,Xh⟩:=XW;obtain⟨OF,CT,Mw,Px,PK,PN⟩:=Mt;refine F.okJ Uu (λds h Q q=>by obtain⟨T,n,b,e,hT,h1,h6,q⟩:=q;subst e;rfl) _ (λcdv A outer s H E hr=>(jf (YD (jL yC hr rfl wX wW wT (jac (jv 0) jd))) (by exact(jh (yc (jL Qa hr rfl Xh Xd UT (jac (jL Mw hr rfl PN PK Px (jac (jv 0) jd)) jd))))))) ?_;intro ds h Q q;obtain⟨T,n,b,e,hT,h1,h6,q⟩:=q;subst e;refine ji (λσ' h'=>σ'= [some (zo T)]/\h=h') (λC hC=>⟨_,rfl,T,n,b,rfl,hT,h1,h6,hC _ _ ⟨rfl,rfl⟩⟩) ?_;rintro _ _ ⟨rfl,rfl⟩;exact⟨_,rfl,T,n,b,rfl,hT,h6,λR rs h2 G=>⟨R,rs,h,T,n,rfl,G,h6,λA h3 nA kA sb=>⟨_,Sub.refl _,q A h3 (yJ G.sb nA) kA λx y z=>sb _ _ (G.sb _ _ z)⟩⟩⟩
def Ym:RDx:=λds h R=> ∃d,ds= [d]/\okD d=true/\MS d=false/\R "NoTable" h
theorem Pm (Z:Zs mg)(Ex:Exc K mg)(F:Fun K "pieces" "pieces" Zg f fd)(CR_want_table:ZI P w K mg base n "want_table" ["thing"] yU):FnOk P w K mg base (CXR P w) (n+1) f fd ["table"] (NK mg K Ym):=by
 obtain⟨MB,PV,Vg,WE,WJ,WM⟩:=CR_want_table;refine F.okX Uu (λds h R q=>by obtain⟨d,e,ok,bad,q⟩:=q;subst e;rfl) _ (λcdv A outer s H E hr=>(Li (YI Vg hr rfl WM WJ WE (jac (jv 0) jd)))) ?_;intro ds h R q;obtain⟨d,e,ok,bad,q⟩:=q;subst e;exact⟨_,rfl,d,rfl,ok,bad,q⟩
def Wa:RDn:=λds h Q=> ∃T,∃n e:Nat,ds= [zo T]/\Sq n e T/\1<=n/\n<=6/\Q (.bl (decide ((YT T n).length=1))) h
theorem Mp (Z:Zs mg)(F:Fun K "joined" "joined" Zh f fd)(BC:jJ P w K mg base n "pieces" ["table"] UA):FnOk P w K mg base CX0 (n+1) f fd ["table"] (LSp K Wa):=by
 obtain⟨OQ,OG,BD,Mx,ML,MM⟩:=BC;refine F.okJ Uv (λds h Q q=>by obtain⟨T,n,b,e,hT,h1,h6,q⟩:=q;subst e;rfl) _ (λcdv A outer s H E hr=>(jh (yc (PR oq_eq (jR zM rfl Z.len B6 (jac (jL BD hr rfl MM ML Mx (jac (jv 0) jd)) jd)) jD (jE _))))) ?_;intro ds h Q q;obtain⟨T,n,b,e,hT,h1,h6,q⟩:=q;subst e;refine⟨_,rfl,T,n,b,rfl,hT,h1,h6,λA h2 nA kA sb=>⟨_,kA,?_⟩⟩;show ∃h0,Sub h0 h2/\Q (.bl (decide (((((YT T n).map jK).length:Nat):Int)=1))) h0;refine⟨h,sb,?_⟩;rw [G0,show decide ((((YT T n).length:Nat):Int)=1)=decide ((YT T n).length=1) from by rw [C5,M6,M6];omega];exact q
def Yn:RDx:=λds h R=> ∃d,ds= [d]/\okD d=true/\MS d=false/\R "NoTable" h
theorem Pn (Z:Zs mg)(Ex:Exc K mg)(F:Fun K "joined" "joined" Zh f fd)(CR_pieces:ZI P w K mg base n "pieces" ["table"] Ym):FnOk P w K mg base (CXR P w) (n+1) f fd ["table"] (NK mg K Yn):=by
 obtain⟨OE,CQ,Mv,Pw,PJ,PM⟩:=CR_pieces;refine F.okX Uv (λds h R q=>by obtain⟨d,e,ok,bad,q⟩:=q;subst e;rfl) _ (λcdv A outer s H E hr=>(EQ (SF (Ls (id:= "len") rfl Z.len (by decide +kernel) (YI Mv hr rfl PM PJ Pw (jac (jv 0) jd)))))) ?_;intro ds h R q;obtain⟨d,e,ok,bad,q⟩:=q;subst e;exact⟨_,rfl,d,rfl,ok,bad,q⟩
theorem Ot {r:List Int}(h:r.length=n):Xr (r.map D.int)=(List.range n).map λ(j:Nat)=>D.tup [.int (j:Int),.int (r.getD j 0)]:=by
 apply U9;intro i
 by_cases hi:i<n
 ·have hi':i<(Xr (r.map D.int)).length:=by rw [wN,G0,h];exact hi
  obtain⟨x,hx,ed⟩:=YF (G2 hi');rw [G2 hi',ed];rw [P4,O9 hi];rw [P4,G2 (by omega)] at hx;injection hx with hx
  rw [<-hx];show some (D.tup [D.int (i:Int),D.int r[i]])=some (D.tup [D.int (i:Int),D.int (r.getD i 0)]);rw [R6,G2 (show i<r.length by omega)];rfl
 ·rw [N6 (by rw [wN,G0];omega),N6 (by simp;omega)]
def Gm:RDn:=λds h Q=> ∃T,∃n e p:Nat,ds= [zo T,.int (p:Int)]/\Sq n e T/\n<=6/\p<n/\ ∀F,h F=none->Q (.lst F) (zB h F ((Co T n p).map λ(k:Nat)=>D.int (k:Int)))
theorem Bv (Z:Zs mg)(F:Fun K "heads" "heads" XL f fd):FnOk P w K mg base CX0 (n+1) f fd ["table","place"] (LSp K Gm):=by
 refine F.okJ Gr (λds h Q q=>by obtain⟨T,n,bb,p,e,hT,n6,hp,q⟩:=q;subst e;rfl) _ (λcdv A outer s H E hr=>(jh (yc (ku (i:=2) (j:=3) (js:= [2,3]) rfl (jx (by rfl)) (Xs rfl Z.enumerate (jac (jix (jv 0) (jv 1) (λ_ _=>rfl)) jd)) (by decide) (by decide) (by decide) Gr.nd rfl rfl (by first|exact Or.inl rfl|exact Or.inr rfl) (by first|exact Or.inl rfl|exact Or.inr rfl) (λX' hX=>by obtain⟨C,s₀,H₀,ex,rfl⟩:=hX;exact wL (zv oq_ne (jv 3) jD (jE _))) (λX' hX=>by obtain⟨C,s₀,H₀,ex,rfl⟩:=hX;exact(jv 2)))))) ?_;intro ds h Q q;obtain⟨T,n,bb,p,e,hT,n6,hp,q⟩:=q;subst e;refine kN (j:=λ_=>some (Xr ((T.getD p []).map D.int))) (List.range n) (λj=> .int (j:Int)) (λj=> .int ((T.getD p []).getD j 0)) (λj=> .int (j:Int)) (λj=>decide (ent T p j>0)) (by rw [R5];omega) (congrArg some (Ot (hT.row _ (Sq.getRow hT hp)))) (λR r=>⟨_,rfl,_,rfl,_,ZC hT hp,_,rfl,r⟩) (λx hx Q' q'=>⟨_,rfl,_,rfl,?_⟩) (λx hx _ Q' q'=>⟨_,rfl,q'⟩) (λF eF=>⟨_,Sub.refl _,q F eF⟩);have hnn:=(hT.ent_nn hp (D6.mp hx)).1;have e4:(!decide (((T.getD p []).getD x 0)=0))=decide (ent T p x>0):=by
  show (!decide (ent T p x=0))=_
  by_cases z:ent T p x=0
  ·rw [z];rfl
  ·rw [R9 z,R1 (by omega)];rfl
 rw [<-e4] at q';exact q'
theorem ifT {c:Bool}{A B:Prop}(e:c=true)(a:A):if c=true then A else B:=by rw [if_pos e];exact a
theorem ifF {c:Bool}{A B:Prop}(e:c=false)(b:B):if c=true then A else B:=by subst e;exact b
def yf:RDn:=λds h Q=> ∃a b:Nat,ds= [.int (a:Int),.int (b:Int)]/\Q (.int ((Nat.gcd a b:Nat):Int)) h
theorem JP (Z:Zs mg)(F:Fun K "greatest_into" "greatest_into" wn f fd):FnOk P w K mg base CX0 (n+1) f fd ["one","other"] (LSp K yf):=by
 refine F.okJ yh (λds h Q q=>by obtain⟨a,b,e,q⟩:=q;subst e;rfl) _ (λcdv A outer s H E hr=>(jf (Rc M7 (zv oq_ne (jv 1) jD (jE _)) (jh (Ko (i:=0) (j:=1) rfl yh.nd rfl rfl (by decide) rfl rfl (jac (jv 1) (by exact(jac (jop yb (jv 0) (jv 1)) jd))) rfl))) (by exact(jh (yc (jv 0)))))) ?_;intro ds h Q q;obtain⟨a,b,e,q⟩:=q;subst e;refine ji (λσ' h'=> ∃d,σ'= [some (.int ((Nat.gcd a b:Nat):Int)),d]/\h=h') (λC hC=> ?_) ?_
 ·refine YG (λm σ' h'=> ∃x:Nat,σ'= [some (.int (x:Int)),some (.int (m:Int))]/\h=h'/\Nat.gcd x m=Nat.gcd a b) b ⟨a,rfl,rfl,rfl⟩ ?_;rintro m _ _ ⟨x,rfl,rfl,hg⟩;refine⟨_,rfl,_,rfl,?_⟩
  by_cases z:m=0
  ·subst z;rw [Nat.gcd_zero_right] at hg;subst hg;exact ifF (by decide) (hC _ _ ⟨_,rfl,rfl⟩)
  ·refine ifT (congrArg not (R9 (show ¬ (m:Int)=0 by omega))) ⟨_,rfl,_,rfl,_,rfl,(by omega:(0:Int)<(m:Int)),_,_,rfl,x%m,_,Y4 _ (by omega),Sub.refl _,m,?_,rfl,?_⟩
   ·rw [G1i];rfl
   ·rw [Nat.gcd_comm,<-Nat.gcd_rec,Nat.gcd_comm];exact hg
 rintro _ _ ⟨d,rfl,rfl⟩;exact⟨_,rfl,h,Sub.refl h,q⟩
theorem Mq (w:List Nat):((Co T n (w.getLastD 0)).filter λj=>decide (w.headD 0<j)&& !decide (j∈w)).map (λj=>jK (w++ [j]))=(MR (jT T) n w).map jK:=by
 unfold MR Co;rw [List.filter_filter,M9];have:(λj=>(decide (w.headD 0<j)&& !decide (j∈w))&&decide (ent T (w.getLastD 0) j>0))=LP (jT T) w:=by
  funext j
  unfold LP jT;rw [Bool.and_comm]
 rw [this];rfl
theorem Gn {t:Nat}:((lev (jT T) n t).flatMap λw=>((Co T n (w.getLastD 0)).filter λj=>decide (w.headD 0<j)&& !decide (j∈w)).map λj=>jK (w++ [j]))=(lev (jT T) n (t+1)).map jK:=by
 show _=((lev (jT T) n t).flatMap (MR (jT T) n)).map jK;rw [List.map_flatMap];exact congrArg (λf=>(lev (jT T) n t).flatMap f) (funext λw=>Mq w)
def vW:RDn:=λds h Q=> ∃T,∃n e:Nat,ds= [zo T]/\Sq n e T/\1<=n/\n<=6/\ ∀A h',h A=none->h' A=some ((jS T n).map jK)->Sub h h'->Q (.lst A) h'
theorem YX (Z:Zs mg)(F:Fun K "all_rounds" "all_rounds" yr f fd)(yB:jJ P w K mg base n "want_table" ["thing"] wS)(Oz:jJ P w K mg base n "heads" ["table","place"] Gm):FnOk P w K mg base CX0 (n+1) f fd ["table"] (LSp K vW):=by
 obtain⟨WI,Wj,yC,wT,wW,wX⟩:=yB;obtain⟨SS,OS,OB,BF,BQ,BS⟩:=Oz;refine F.okJ jZ (λds h Q q=>by obtain⟨T,n,b,e,hT,h1,h6,q⟩:=q;subst e;rfl) _ (λcdv A outer s H E hr=>(jf (YD (jL yC hr rfl wX wW wT (jac (jv 0) jd))) (by exact(jf (wA (i:=1) jZ.nd rfl (Or.inl rfl) (Jg jd)) (by exact(jf (VT (i:=3) (k:=2) (js:= [3]) rfl jZ.nd rfl (Or.inl rfl) (jx (by rfl)) (yj rfl Z.range (jac (jR zM rfl Z.len B6 (jac (jv 0) jd)) jd)) (by decide) rfl (by first|exact Or.inl rfl|exact Or.inr rfl) (λX' hX=>zS) (λX' hX=>by obtain⟨C,s₀,H₀,ex,rfl⟩:=hX;exact(VR (jac (jv 3) jd)))) (by exact(jf (Rc M7 (HB (jv 2)) (jf (wA (i:=1) jZ.nd rfl (Or.inl rfl) (jop za (jv 1) (jlc (i:=4) (js:= [4]) rfl (jx (by rfl)) (wt (jv 2)) (by decide) jZ.nd rfl (by first|exact Or.inl rfl|exact Or.inr rfl) (λX' hX=>by obtain⟨C,s₀,H₀,ex,rfl⟩:=hX;exact wL (zv oq_ne (jix (jix (jv 0) (jix (jv 4) (Hn jD) (λ_ _=>rfl)) (λ_ _=>rfl)) (jix (jv 4) jD (λ_ _=>rfl)) (λ_ _=>rfl)) jD (jE _))) (λX' hX=>by obtain⟨C,s₀,H₀,ex,rfl⟩:=hX;exact(jv 4))))) (by exact(jh (LM (i:=4) (i':=5) (k:=2) (js:= [4,5]) rfl jZ.nd rfl (Or.inl rfl) (jx (by rfl)) (wt (jv 2)) (by decide) (by decide) (by decide) rfl rfl (by first|exact Or.inl rfl|exact Or.inr rfl) (by first|exact Or.inl rfl|exact Or.inr rfl) (λX' hX=>zS) (λX' hX=>by obtain⟨C,s₀,H₀,ex,rfl⟩:=hX;exact(wt (jL OB hr rfl BS BQ BF (jac (jv 0) (by exact(jac (jix (jv 4) (Hn jD) (λ_ _=>rfl)) jd)))))) (λX' hX=>by obtain⟨C,s₀,H₀,ex,rfl⟩:=hX;exact wL (jpt (GE (zv DH (jv 5) (jix (jv 4) jD (λ_ _=>rfl)) (jE _)) (DQ (zv (Qy hr.units) (jv 5) (jv 4) (by with_unfolding_all rfl)))))) (λX' hX=>by obtain⟨C,s₀,H₀,ex,rfl⟩:=hX;exact(jop za (jv 4) (VR (jac (jv 5) jd))))))))) (by exact(jh (yc (jR (Yi hr) rfl Z.sorted (by decide +kernel) (jac (jv 1) jd))))))))))))) ?_;intro ds h Q q;obtain⟨T,n,b,e,hT,h1,h6,q⟩:=q;subst e;refine ji (λσ' h'=>σ'= [some (zo T),none,none,none,none,none]/\h=h') (λC hC=>⟨_,rfl,T,n,b,rfl,hT,h1,h6,hC _ _ ⟨rfl,rfl⟩⟩) ?_;rintro _ _ ⟨rfl,rfl⟩;refine ji (λσ' h'=> ∃A,σ'= [some (zo T),some (.lst A),none,none,none,none]/\h' A=some []/\Sub h h') (λC hC=>⟨(by show 0<=sizeLine;decide),λA eA=>hC _ _ ⟨A,rfl,jc,Sub.newAt (Sub.refl h) eA⟩⟩) ?_;rintro _ h2 ⟨A,rfl,kA,sA⟩;refine ji (λσ' h'=> ∃B c,σ'= [some (zo T),some (.lst A),some (.lst B),c,none,none]/\h' A=some ((Jn (jT T) n 0).map jK)/\h' B=some ((lev (jT T) n 0).map jK)/\Sub h h') (λC hC=> ?_) ?_
 ·refine lcA (List.range n) (λj=> .int (j:Int)) (λi=>jK [i]) (by rw [R5];omega) rfl (λR r=>⟨_,rfl,(n:Int),by rw [G0,hT.len],by omega,by omega,r⟩) (λj hj Q' q'=>⟨_,rfl,(by show 1<=sizeLine;decide),q'⟩) (λB eB=>hC _ _ ⟨B,_,rfl,jg kA eB,?_,Sub.newAt sA eB⟩);rw [jc];show _=some (((List.range n).map λi=> [i]).map jK);rw [M9];rfl
 rintro _ h3 ⟨B,c,rfl,kA,kB,sb⟩;refine ji (λσ' h'=> ∃A B c,σ'= [some (zo T),some (.lst A),some (.lst B),c,none,none]/\h' A=some ((Jn (jT T) n n).map jK)/\Sub h h') (λC hC=> ?_) ?_
 ·refine YG (λm σ' h'=> ∃ (t:Nat) (A B:Addr) (c:Option D),σ'= [some (zo T),some (.lst A),some (.lst B),c,none,none]/\m=n-t/\t<=n/\h' A=some ((Jn (jT T) n t).map jK)/\h' B=some ((lev (jT T) n t).map jK)/\Sub h h') n ⟨0,A,B,c,rfl,rfl,S9 _,kA,kB,sb⟩ ?_;clear kA kB sb;rintro m _ h4 ⟨t,A,B,c,rfl,rfl,tn,kA,kB,sb⟩;refine⟨_,rfl,!((lev (jT T) n t).map jK).isEmpty,⟨_,kB,rfl⟩,?_⟩
  by_cases z:(lev (jT T) n t)= []
  ·rw [z];refine Zr (hC _ _ ⟨A,B,c,rfl,?_,sb⟩);have:=(ZV (n-t) z).1;rw [show t+(n-t)=n by omega] at this;rw [this];exact kA
  ·have tl:t<n:=by
    rcases A8 t n with w|w
    ·exact w
    ·have:t=n:=by omega
     subst this;exact absurd (RR h6) z
   have ll:=YO (g:=jT T) h6 (show t<=6 by omega);have rl:=vS (g:=jT T) h6 (show t<=6 by omega);have l2:=YO (g:=jT T) h6 (show t+1<=6 by omega);rw [show (!((lev (jT T) n t).map jK).isEmpty)=true from by cases e:(lev (jT T) n t) with|nil=>exact absurd e z|cons _ _=>rfl];refine MO ?_;refine ji (λσ' h'=> ∃A,σ'= [some (zo T),some (.lst A),some (.lst B),c,none,none]/\h' A=some ((Jn (jT T) n (t+1)).map jK)/\h' B=some ((lev (jT T) n t).map jK)/\Sub h h') (λC hC=>⟨_,rfl,?_⟩) ?_
   ·refine lcF (j:=λh=>h B) (lev (jT T) n t) jK jK (λw=>jT T (w.getLastD 0) (w.headD 0)) (by omega) kB (λR r=>⟨_,rfl,r⟩) (λw hw Q' q'=> ?_) (λw hw _ Q' q'=>⟨_,rfl,q'⟩) (λF eF=>⟨_,_,jg kA eF,jc,?_,λp e=>hC _ _ ⟨p,rfl,?_,jg (jg kB eF) e,λa ds x=>jg (jg (sb a ds x) eF) e⟩⟩)
    ·have o:=ZU hw;have he:=o.lt _ (XB o.len);have hh:=o.lt _ (Gb o.len);refine⟨_,rfl,_,rfl,_,RV o.len,_,ZC hT he,_,rfl,_,Zf o.len,_,ZD (hT.row _ (Sq.getRow hT he)) hh,?_⟩;have nn:=(hT.ent_nn he hh).1;have:(!decide (ent T (w.getLastD 0) (w.headD 0)=0))=jT T (w.getLastD 0) (w.headD 0):=by
      unfold jT;rw [C5,M6,G02,Z6];omega
     rw [<-this] at q';exact⟨_,rfl,q'⟩
    ·have:=L7 (λw=>jT T (w.getLastD 0) (w.headD 0)) (lev (jT T) n t);rw [G0,G0];exact D4 (jA (by omega))
    ·rw [jc];show _=some (((Jn (jT T) n t)++(lev (jT T) n t).filter λw=>jT T (w.getLastD 0) (w.headD 0)).map jK);rw [S4]
   clear kA kB sb;rintro _ h5 ⟨A,rfl,kA,kB,sb⟩;refine Sv (j:=λh=>h B) (lev (jT T) n t) jK (λw=>Co T n (w.getLastD 0)) (λ(j:Nat)=> .int (j:Int)) (λw j=>decide (w.headD 0<j)&& !decide (j∈w)) (λw j=>jK (w++ [j])) ?_ (λh' s=>s _ _ kB) (λR r=>⟨_,rfl,r⟩) (λw hw h' s R r=> ?_) (λw hw j hj h' s Q' q'=> ?_) (λw hw j hj _ h' s Q' q'=> ?_) (λa h' s ea=> ?_)
   ·rw [Gn,G0];exact D4 (jA (by omega))
   ·have o:=ZU hw;exact⟨_,rfl,_,rfl,_,RV o.len,T,n,b,w.getLastD 0,rfl,hT,h6,o.lt _ (XB o.len),λF eF=>r _ _ (Sub.newAt (Sub.refl _) eF) λh3 s3=>s3 _ _ jc⟩
   ·have o:=ZU hw;refine⟨_,rfl,_,rfl,_,Zf o.len,?_⟩;show ∃k,D.bl (decide (((w.headD 0:Nat):Int)<(j:Int)))=D.bl k/\_;rw [show decide (((w.headD 0:Nat):Int)<(j:Int))=decide (w.headD 0<j) from by rw [C5,M6,M6];omega];refine⟨_,rfl,?_⟩
    by_cases c:w.headD 0<j
    ·rw [R1 c] at q' ⊢;exact MO ⟨_,rfl,_,rfl,RN ⟨_,rfl,q'⟩⟩
    ·rw [R9 c] at q' ⊢;exact Zr q'
   ·have o:=ZU hw;have e:jK (w++ [j])= .tup ((w.map λ(k:Nat)=>D.int (k:Int))++ [.int (j:Int)]):=by unfold jK;rw [List.map_append];rfl
    rw [e] at q';refine⟨_,rfl,_,rfl,(by show 1<=sizeLine;decide),?_,q'⟩;rw [G0,o.len];exact D4 (jA (by simp only [P6,S8];omega))
   ·rw [Gn];exact⟨n-(t+1),_,by omega,Sub.refl _,t+1,A,a,_,rfl,rfl,by omega,jg (s _ _ kA) ea,jc,λx ds e=>jg (s _ _ (sb _ _ e)) ea⟩
 clear kA kB sb;rintro _ h4 ⟨A,B,c,rfl,kA,sb⟩;refine⟨_,rfl,A,(Jn (jT T) n n).map toI,rfl,?_,?_,λp mss hp pm sr=>⟨_,Sub.refl _,q p _ (yJ sb hp) (by rw [jc,Um pm sr];rfl) (Sub.newAt sb hp)⟩⟩
 ·rw [kA,M9];exact congrArg some (B8 λS _=>(Ul S).symm)
 ·rw [G0];have:=vS (g:=jT T) h6 h6;exact jA (by omega)
/-- the greatest number that goes into the lengths of all jS -/
def yA (T:List (List Int))(n:Nat):Nat:=((jS T n).map List.length).foldl Nat.gcd 0
def Mr:RDn:=λds h Q=> ∃T,∃n e:Nat,ds= [zo T]/\Sq n e T/\1<=n/\n<=6/\(YT T n).length=1/\Q (.int ((yA T n:Nat):Int)) h
theorem Ou (Z:Zs mg)(F:Fun K "beat" "beat" Gj f fd)(Vf:jJ P w K mg base n "joined" ["table"] Wa)(UL:jJ P w K mg base n "all_rounds" ["table"] vW)(Wd:jJ P w K mg base n "greatest_into" ["one","other"] yf):FnOk P w K mg base CX0 (n+1) f fd ["table"] (LSp K Mr):=by
 obtain⟨PD,Qk,Vj,Wh,Wl,Wn⟩:=Vf;obtain⟨MX,MK,UP,Vo,Vu,Vy⟩:=UL;obtain⟨PC,Gq,Wf,JQ,JR,JU⟩:=Wd;refine F.okJ Wp (λds h Q q=>by obtain⟨T,n,b,e,hT,h1,h6,one,q⟩:=q;subst e;rfl) _ (λcdv A outer s H E hr=>(jf (WY (vF (yn (jL Vj hr rfl Wn Wl Wh (jac (jv 0) jd)))) (jh Qx) zl) (by exact(jf (wA (i:=1) Wp.nd rfl (Or.inl rfl) jD) (by exact(jf (VS M7 rfl (wt (jL UP hr rfl Vy Vu Vo (jac (jv 0) jd))) (zh (i:=2) Wp.nd rfl (Or.inl rfl)) (jh (wA (i:=1) Wp.nd rfl (Or.inl rfl) (jL Wf hr rfl JU JR JQ (jac (jv 1) (by exact(jac (jR zM rfl Z.len B6 (jac (jv 2) jd)) jd))))))) (by exact(jh (yc (jv 1)))))))))) ?_;intro ds h Q q;obtain⟨T,n,b,e,hT,h1,h6,one,q⟩:=q;subst e;refine ji (λσ' h'=>σ'= [some (zo T),none,none]/\h=h') (λC hC=>⟨_,rfl,T,n,b,rfl,hT,h1,h6,_,rfl,?_⟩) ?_
 ·rw [R1 one];exact Zr (hC _ _ ⟨rfl,rfl⟩)
 rintro _ _ ⟨rfl,rfl⟩;refine ji (λσ' h'=>σ'= [some (zo T),some (.int 0),none]/\h=h') (λC hC=>hC _ _ ⟨rfl,rfl⟩) ?_;rintro _ _ ⟨rfl,rfl⟩;refine ji (λσ' h'=> ∃v,σ'= [some (zo T),some (.int ((yA T n:Nat):Int)),v]/\Sub h h') (λC hC=>⟨_,rfl,T,n,b,rfl,hT,h1,h6,λA h2 nA kA sb=> ?_⟩) (λ_ h' ⟨v,e,sb⟩=>by subst e;exact⟨_,rfl,_,sb,q⟩);refine VO (j:=λh=>h A) ((jS T n).map jK) (λi σ' h'=> ∃v,σ'= [some (zo T),some (.int (((((jS T n).take i).map List.length).foldl Nat.gcd 0:Nat):Int)),v]/\h2=h') (λi σ' h' ⟨_,_,z⟩=>by rw [<-z];exact kA) ⟨_,rfl,rfl⟩ (λσ' h' ⟨v,e,z⟩=>hC _ _ ⟨v,by rw [e,G0,G0s];rfl,by rw [<-z];exact sb⟩) ?_;rintro i d _ _ hi ⟨v,rfl,rfl⟩;rw [P4] at hi;obtain⟨W,hW,rfl⟩:=F9.mp hi;have hil:=(P0.mp hW).1;refine⟨_,rfl,_,rfl,_,_,rfl,_,Sub.refl _,by rw [G0];omega,some (jK W),?_,rfl⟩;rw [F4,hW,S4,List.foldl_append,G0];rfl
def Go:RDx:=λds h R=> ∃d,ds= [d]/\((okD d=true/\MS d=false/\R "NoTable" h)\/ ∃T,∃n e:Nat,d=zo T/\Sq n e T/\1<=n/\n<=6/\(YT T n).length≠1/\R "Apart" h)
theorem Bw (Z:Zs mg)(Ex:Exc K mg)(F:Fun K "beat" "beat" Gj f fd)(Vf:jJ P w K mg base n "joined" ["table"] Wa)(CR_joined:ZI P w K mg base n "joined" ["table"] Yn):FnOk P w K mg base (CXR P w) (n+1) f fd ["table"] (NK mg K Go):=by
 obtain⟨PD,Qk,Vj,Wh,Wl,Wn⟩:=Vf;obtain⟨OD,CP,Mu,Pv,PH,PL⟩:=CR_joined;refine F.okX Wp (λds h R q=>by obtain⟨d,e,q⟩:=q;subst e;rfl) _ (λcdv A outer s H E hr=>(HA (SG (YI Mu hr rfl PL PH Pv (jac (jv 0) jd))) (EO (vF (yn (jL Vj hr rfl Wn Wl Wh (jac (jv 0) jd)))) (QB rfl (Ex.own "Apart" (by decide)) rfl)))) ?_;intro ds h R q;obtain⟨d,e,q⟩:=q;subst e;rcases q with ⟨ok,bad,q⟩|⟨T,n,b,rfl,hT,h1,h6,no,q⟩
 ·exact .inl ⟨_,rfl,d,rfl,ok,bad,q⟩
 ·refine .inr ⟨_,rfl,T,n,b,rfl,hT,h1,h6,_,rfl,?_⟩;rw [R9 no];exact⟨rfl,q⟩
def Jz:RDn:=λds h Q=> ∃ns k,ds= [.scr ns,.int k]/\0<=k/\ ∀n,Q (.int n) h
theorem UB (Z:Zs mg)(F:Fun K "_law_cell" "_law_cell" vh f fd):FnOk P w K mg base CX0 (n+1) f fd ["_law_script","_law_k"] (LSp K Jz):=by
 refine F.okJ Uw (λds h Q q=>by obtain⟨ns,k,e,h0,q⟩:=q;subst e;rfl) _ (λcdv A outer s H E hr=>(jf (WY (zv Em (jv 1) (jR zM rfl Z.len B6 (jac (jv 0) jd)) (jE _)) (jh (yc (jix (jv 0) (jv 1) (λ_ _=>rfl)))) zl) (by exact(jh (yc jD))))) ?_;intro ds h Q q;obtain⟨ns,k,e,h0,q⟩:=q;subst e;simp only [Nx,OH,JL,dOp,MP,zu,T9,W4,P6,S8,A6,B2,T4,S5,N2,dCB,vC,PQ,Ep,Cd,D.bl.injEq,MQ,ixD,Qu,X1,GA,dC];refine Wq (λc=> ?_) (λ_=>⟨h,Sub.refl h,q 0⟩);have c':k<(ns.length:Int):=N8 c;have hk:k.toNat<ns.length:=by omega
 have ek:k=((k.toNat:Nat):Int):=by omega
 have z:=we (G2 hk);rw [<-ek] at z;exact⟨ns[k.toNat],z,h,Sub.refl h,q _⟩
def Wb:RDn:=λds h Q=> ∃c,ds= [.int c]/\ ∀p l fl,h p=none->0<=l->(fl=0\/fl=1)->Q (.lst p) (zB h p [.int l,.int fl])
theorem XN (Z:Zs mg)(F:Fun K "_law_pen" "_law_pen" Jq f fd):FnOk P w K mg base CX0 (n+1) f fd ["_law_cell_here"] (LSp K Wb):=by
 refine F.okJ Wo (λds h Q q=>by obtain⟨c,e,q⟩:=q;subst e;rfl) _ (λcdv A outer s H E hr=>(jf (wA (i:=1) Wo.nd rfl (Or.inl rfl) (jR (Eq rfl) rfl Z.max (by decide +kernel) (jac (jv 0) (by exact(jac (jop Qw jD (jv 0)) jd))))) (by exact(jh (yc (Jg (jac (jv 1) (by exact(jac (wg Cg rfl Z.int (by decide +kernel) (jac (PR FN (jv 1) (jop Ce jD jD) (jE _)) jd)) jd))))))))) ?_;intro ds h Q q;obtain⟨c,e,q⟩:=q;subst e;simp only [Nx,FA,dCB,vC,MP,zu,T9,W4,P6,S8,List.replicate,A6,B2,S5,N2,dOp,dC,Kh,PQ,Hh,MQ,AJ,List.set_cons_succ,List.set_cons_zero,T4,Kj,Cd,Hg,Qu,X1];refine⟨⟨by decide,by decide,by decide⟩,by decide,λp hp=>⟨_,Sub.refl _,q p _ _ hp ?_ ?_⟩⟩
 ·split<;>omega
 ·split<;>simp<;>omega
def zN:RDn:=λds h Q=> ∃p l fl m,ds= [.lst p,.int m]/\h p=some [.int l,.int fl]/\0<=l/\0<m/\m<2^200/\ ∀r l',0<=r->r<m->0<=l'->Q (.int r) (zB h p [.int l',.int fl])
theorem UC (Z:Zs mg)(F:Fun K "_law_draw" "_law_draw" vj f fd):FnOk P w K mg base CX0 (n+1) f fd ["_law_pen_here","_law_many"] (LSp K zN):=by
 refine F.okJ wx (λds h Q q=>by obtain⟨p,l,fl,m,e,hp,h0,hm,hm2,q⟩:=q;subst e;rfl) _ (λcdv A outer s H E hr=>(jf (WY (zv oq_eq (jix (jv 0) jD (λ_ _=>rfl)) jD (jE _)) (jf (OM (jR GK rfl Z.divmod (by decide +kernel) (jac (jix (jv 0) jD (λ_ _=>rfl)) (by exact(jac (jv 1) jd)))) (DR (i:=2) (j:=3) rfl wx.nd rfl rfl (Or.inl rfl) (Or.inl rfl))) (by exact(jf (OM (jv 2) (VU (jv 0) jD)) (by exact(jh (yc (jv 3))))))) zl) (by exact(jf (wA (i:=4) wx.nd rfl (Or.inl rfl) (jop yb (jop YA (jop za (jop yb (jix (jv 0) jD (λ_ _=>rfl)) jD) jD) jD) jD)) (by exact(jf (wA (i:=4) wx.nd rfl (Or.inl rfl) (jop yb (jop za (jop YA (jv 4) (jv 4)) jD) jD)) (by exact(jf (OM (jop yb (jop za (jop YA (jv 4) jD) jD) jD) (VU (jv 0) jD)) (by exact(jh (yc (jop yb (jop FM (jix (jv 0) jD (λ_ _=>rfl)) jD) (jv 1))))))))))))) ?_;intro ds h Q q;obtain⟨p,l,fl,m,e,hp,h0,hm,hm2,q⟩:=q;subst e;refine ji (λσ' h'=>σ'= [some (.lst p),some (.int m),none,none,none]/\h=h') (λC hC=>⟨_,rfl,_,_,hp,rfl,?_⟩) ?_
 ·show ∃k,D.bl (decide (fl=1))= .bl k/\_;refine⟨_,rfl,Wq (λ_=> ?_) λ_=>hC _ _ ⟨rfl,rfl⟩⟩;exact⟨_,rfl,_,_,hp,rfl,_,rfl,_,_,rfl,⟨hm,hm2⟩,_,_,rfl,_,rfl,_,rfl,p,0,_,0,rfl,rfl,hp,rfl,_,rfl,_,Sub.refl _,q (l%m) (l / m) (G0G _ (Int.ne_of_gt hm)) (G0S _ hm) (Int.ediv_nonneg h0 (Int.le_of_lt hm))⟩
 rintro _ _ ⟨rfl,rfl⟩;refine ji (λσ' h'=> ∃z:Int,σ'= [some (.lst p),some (.int m),none,none,some (.int z)]/\(0<=z/\z<2147483629)/\h=h') (λC hC=>⟨_,rfl,_,_,hp,rfl,by decide,.inr ⟨by decide,by decide⟩,by decide,hC _ _ ⟨_,rfl,⟨G0G _ (by decide),G0S _ (by decide)⟩,rfl⟩⟩) ?_;rintro _ _ ⟨z,rfl,⟨z0,z1⟩,rfl⟩;refine ji (λσ' h'=> ∃y:Int,σ'= [some (.lst p),some (.int m),none,none,some (.int y)]/\h=h') (λC hC=>⟨_,rfl,_,rfl,.inl ⟨Int.lt_of_lt_of_le (by decide) z0,Int.lt_trans z1 (by decide)⟩,by decide,hC _ _ ⟨_,rfl,rfl⟩⟩) ?_;rintro _ _ ⟨y,rfl,rfl⟩;refine ji (λσ' h'=> ∃x:Int,σ'= [some (.lst p),some (.int m),none,none,some (.int y)]/\0<=x/\h'=zB h p [.int x,.int fl]) (λC hC=>⟨_,rfl,.inr ⟨by decide,by decide⟩,by decide,_,rfl,p,0,_,0,rfl,rfl,hp,rfl,hC _ _ ⟨_,rfl,G0G _ (by decide),rfl⟩⟩) ?_;rintro _ _ ⟨x,rfl,x0,rfl⟩;exact⟨_,rfl,_,_,jc,rfl,⟨by decide,by decide⟩,_,rfl,hm,_,Sub.refl _,q (x / 32%m) x (G0G _ (Int.ne_of_gt hm)) (G0S _ hm) x0⟩
theorem YY (Z:Zs mg)(Ex:Exc K mg)(F:Fun K "_law_kind" "_law_kind" vk f fd):FnOkU P w K mg base CX0 (n+1) f fd ["_law_e"] (LSp K (Rq mg)):=by
 obtain⟨D_NoOrder,m_NoOrder⟩:=Ex.cls "NoOrder" (by decide);obtain⟨D_NoNumber,m_NoNumber⟩:=Ex.cls "NoNumber" (by decide);obtain⟨D_NoPlace,m_NoPlace⟩:=Ex.cls "NoPlace" (by decide);obtain⟨D_NoTable,m_NoTable⟩:=Ex.cls "NoTable" (by decide);obtain⟨D_NoLengths,m_NoLengths⟩:=Ex.cls "NoLengths" (by decide);obtain⟨D_NoWalk,m_NoWalk⟩:=Ex.cls "NoWalk" (by decide);obtain⟨D_NoSet,m_NoSet⟩:=Ex.cls "NoSet" (by decide);obtain⟨D_NoRow,m_NoRow⟩:=Ex.cls "NoRow" (by decide);obtain⟨D_Apart,m_Apart⟩:=Ex.cls "Apart" (by decide);obtain⟨D_NoWay,m_NoWay⟩:=Ex.cls "NoWay" (by decide);obtain⟨D_TooGreat,m_TooGreat⟩:=Ex.cls "TooGreat" (by decide);obtain⟨D_NoText,m_NoText⟩:=Ex.cls "NoText" (by decide);obtain⟨D_NoTables,m_NoTables⟩:=Ex.cls "NoTables" (by decide);refine F.okJU zm (λds h Q q=>by obtain⟨c,C,e,hc,hm,q⟩:=q;subst e;rfl) _ (λcdv A outer s H E hr=>(jf (wA (i:=1) zm.nd rfl (Or.inl rfl) (Jg (jac (GR rfl Z.isinstance rfl m_NoTable (jv 0)) (by exact(jac (GR rfl Z.isinstance rfl m_NoPlace (jv 0)) (by exact(jac (GR rfl Z.isinstance rfl m_NoNumber (jv 0)) (by exact(jac (GR rfl Z.isinstance rfl m_NoOrder (jv 0)) jd))))))))) (by exact(jf (wA (i:=1) zm.nd rfl (Or.inl rfl) (jop za (jv 1) (Jg (jac (GR rfl Z.isinstance rfl m_NoSet (jv 0)) (by exact(jac (GR rfl Z.isinstance rfl m_NoWalk (jv 0)) (by exact(jac (GR rfl Z.isinstance rfl m_NoLengths (jv 0)) jd)))))))) (by exact(jf (wA (i:=1) zm.nd rfl (Or.inl rfl) (jop za (jv 1) (Jg (jac (GR rfl Z.isinstance rfl m_NoWay (jv 0)) (by exact(jac (GR rfl Z.isinstance rfl m_Apart (jv 0)) (by exact(jac (GR rfl Z.isinstance rfl m_NoRow (jv 0)) jd)))))))) (by exact(jf (wA (i:=1) zm.nd rfl (Or.inl rfl) (jop za (jv 1) (Jg (jac (GR rfl Z.isinstance rfl m_NoTables (jv 0)) (by exact(jac (GR rfl Z.isinstance rfl m_NoText (jv 0)) (by exact(jac (GR rfl Z.isinstance rfl m_TooGreat (jv 0)) jd)))))))) (by exact(jf (WY (jpt (OL (vF (yn (kT (T:= "ValueError") rfl Z.isinstance rfl Ex.ve (by decide +kernel) (jv 0)))) (EG (zv oq_ne (kQ hr.units (jv 1) jbl) jD (jE _))))) (jh (yc WW)) zl) (by exact(jf (wA (i:=2) zm.nd rfl (Or.inl rfl) (Jg (jac WW (by exact(jac WW (by exact(jac WW (by exact(jac WW (by exact(jac WW (by exact(jac WW (by exact(jac WW (by exact(jac WW (by exact(jac WW (by exact(jac WW jd))))))))))))))))))))) (by exact(jh (yc (jix (jop za (jv 2) (Jg (jac WW (by exact(jac WW (by exact(jac WW jd))))))) (kM hr.units (jv 1) jbl) (λ_ _=>rfl))))))))))))))))) ?_;intro ds h Q q;obtain⟨c,C,e,hc,hm,q⟩:=q;subst e;have kit: ∀d∈CN13,∀D,mg d=some (.ref D)->PySem.W.kitOne K (.ref C) (.ref D)=some (c==d):=λd hd D hD=>Ex.kit c hc d hd C D hm hD
 have ek:=Ex.ek c hc C hm;have kv:=Ex.val c hc C hm;refine ji (λσ' h'=> ∃p,σ'= [some (.exc C),some (.lst p),none]/\Sub h h'/\h' p=some [.bl (c== "NoTable"),.bl (c== "NoPlace"),.bl (c== "NoNumber"),.bl (c== "NoOrder")]) (λC2 hC=> ?_) ?_
 ·refine⟨_,rfl,C,_,rfl,ek,kit _ (by decide) _ m_NoTable,_,rfl,C,_,rfl,ek,kit _ (by decide) _ m_NoPlace,_,rfl,C,_,rfl,ek,kit _ (by decide) _ m_NoNumber,_,rfl,C,_,rfl,ek,kit _ (by decide) _ m_NoOrder,(by show 4<=sizeLine;decide),λp e=>hC _ _ ⟨p,rfl,Sub.newAt (Sub.refl h) e,jc⟩⟩
 rintro _ h1 ⟨p,rfl,sb,k1⟩;refine ji (λσ' h'=> ∃p,σ'= [some (.exc C),some (.lst p),none]/\Sub h h'/\h' p=some [.bl (c== "NoTable"),.bl (c== "NoPlace"),.bl (c== "NoNumber"),.bl (c== "NoOrder"),.bl (c== "NoSet"),.bl (c== "NoWalk"),.bl (c== "NoLengths")]) (λC2 hC=> ?_) ?_
 ·refine⟨_,rfl,_,rfl,C,_,rfl,ek,kit _ (by decide) _ m_NoSet,_,rfl,C,_,rfl,ek,kit _ (by decide) _ m_NoWalk,_,rfl,C,_,rfl,ek,kit _ (by decide) _ m_NoLengths,(by show 3<=sizeLine;decide),λp2 e2=>⟨_,_,jg k1 e2,jc,(by simp only [P6,S8];decide),λp3 e3=>hC _ _ ⟨p3,rfl,Sub.newAt (Sub.newAt sb e2) e3,jc⟩⟩⟩
 rintro _ h1 ⟨p,rfl,sb,k1⟩;refine ji (λσ' h'=> ∃p,σ'= [some (.exc C),some (.lst p),none]/\Sub h h'/\h' p=some [.bl (c== "NoTable"),.bl (c== "NoPlace"),.bl (c== "NoNumber"),.bl (c== "NoOrder"),.bl (c== "NoSet"),.bl (c== "NoWalk"),.bl (c== "NoLengths"),.bl (c== "NoWay"),.bl (c== "Apart"),.bl (c== "NoRow")]) (λC2 hC=> ?_) ?_
 ·refine⟨_,rfl,_,rfl,C,_,rfl,ek,kit _ (by decide) _ m_NoWay,_,rfl,C,_,rfl,ek,kit _ (by decide) _ m_Apart,_,rfl,C,_,rfl,ek,kit _ (by decide) _ m_NoRow,(by show 3<=sizeLine;decide),λp2 e2=>⟨_,_,jg k1 e2,jc,(by simp only [P6,S8];decide),λp3 e3=>hC _ _ ⟨p3,rfl,Sub.newAt (Sub.newAt sb e2) e3,jc⟩⟩⟩
 rintro _ h1 ⟨p,rfl,sb,k1⟩;refine ji (λσ' h'=> ∃p,σ'= [some (.exc C),some (.lst p),none]/\Sub h h'/\h' p=some [.bl (c== "NoTable"),.bl (c== "NoPlace"),.bl (c== "NoNumber"),.bl (c== "NoOrder"),.bl (c== "NoSet"),.bl (c== "NoWalk"),.bl (c== "NoLengths"),.bl (c== "NoWay"),.bl (c== "Apart"),.bl (c== "NoRow"),.bl (c== "NoTables"),.bl (c== "NoText"),.bl (c== "TooGreat")]) (λC2 hC=> ?_) ?_
 ·refine⟨_,rfl,_,rfl,C,_,rfl,ek,kit _ (by decide) _ m_NoTables,_,rfl,C,_,rfl,ek,kit _ (by decide) _ m_NoText,_,rfl,C,_,rfl,ek,kit _ (by decide) _ m_TooGreat,(by show 3<=sizeLine;decide),λp2 e2=>⟨_,_,jg k1 e2,jc,(by simp only [P6,S8];decide),λp3 e3=>hC _ _ ⟨p3,rfl,Sub.newAt (Sub.newAt sb e2) e3,jc⟩⟩⟩
 rintro _ h1 ⟨p,rfl,sb,k1⟩;have hpG: ∀h':HD,h' p=some [.bl (c== "NoTable"),.bl (c== "NoPlace"),.bl (c== "NoNumber"),.bl (c== "NoOrder"),.bl (c== "NoSet"),.bl (c== "NoWalk"),.bl (c== "NoLengths"),.bl (c== "NoWay"),.bl (c== "Apart"),.bl (c== "NoRow"),.bl (c== "NoTables"),.bl (c== "NoText"),.bl (c== "TooGreat")]->ToP h' (.lst p) (.list [.bool (c== "NoTable"),.bool (c== "NoPlace"),.bool (c== "NoNumber"),.bool (c== "NoOrder"),.bool (c== "NoSet"),.bool (c== "NoWalk"),.bool (c== "NoLengths"),.bool (c== "NoWay"),.bool (c== "Apart"),.bool (c== "NoRow"),.bool (c== "NoTables"),.bool (c== "NoText"),.bool (c== "TooGreat")]):=λh' k=>⟨p,_,rfl,k,⟨_,_,rfl,rfl,⟨_,_,rfl,rfl,⟨_,_,rfl,rfl,⟨_,_,rfl,rfl,⟨_,_,rfl,rfl,⟨_,_,rfl,rfl,⟨_,_,rfl,rfl,⟨_,_,rfl,rfl,⟨_,_,rfl,rfl,⟨_,_,rfl,rfl,⟨_,_,rfl,rfl,⟨_,_,rfl,rfl,⟨_,_,rfl,rfl,rfl⟩⟩⟩⟩⟩⟩⟩⟩⟩⟩⟩⟩⟩⟩
 have hpd:=hpG h1 k1;obtain⟨j,hj,hz,hno,hw⟩: ∃j:Nat,j<10/\ [PyData.bool (c== "NoTable"),PyData.bool (c== "NoPlace"),PyData.bool (c== "NoNumber"),PyData.bool (c== "NoOrder"),PyData.bool (c== "NoSet"),PyData.bool (c== "NoWalk"),PyData.bool (c== "NoLengths"),PyData.bool (c== "NoWay"),PyData.bool (c== "Apart"),PyData.bool (c== "NoRow"),PyData.bool (c== "NoTables"),PyData.bool (c== "NoText"),PyData.bool (c== "TooGreat")][j]? =some (PyData.bool true)/\(∀m y,m<j-> [PyData.bool (c== "NoTable"),PyData.bool (c== "NoPlace"),PyData.bool (c== "NoNumber"),PyData.bool (c== "NoOrder"),PyData.bool (c== "NoSet"),PyData.bool (c== "NoWalk"),PyData.bool (c== "NoLengths"),PyData.bool (c== "NoWay"),PyData.bool (c== "Apart"),PyData.bool (c== "NoRow"),PyData.bool (c== "NoTables"),PyData.bool (c== "NoText"),PyData.bool (c== "TooGreat")][m]? =some y->PyData.eqv y (.bool true)=false)/\atI ([D.str "table",D.str "place",D.str "number",D.str "order",D.str "set",D.str "walk",D.str "lengths",D.str "way",D.str "apart",D.str "row",D.str "tables",D.str "text",D.str "great"]) (j:Int)=some (D.str (vI c)):=by
  simp only [CN,P3,T7,X7] at hc;rcases hc with rfl|rfl|rfl|rfl|rfl|rfl|rfl|rfl|rfl|rfl
  ·exact⟨0,by decide,rfl,by intro m y hm e;rcases m with _|m;all_goals first|(simp only [S5,T4,N2] at e;subst e;rfl)|omega,rfl⟩
  ·exact⟨1,by decide,rfl,by intro m y hm e;rcases m with _|_|m;all_goals first|(simp only [S5,T4,N2] at e;subst e;rfl)|omega,rfl⟩
  ·exact⟨2,by decide,rfl,by intro m y hm e;rcases m with _|_|_|m;all_goals first|(simp only [S5,T4,N2] at e;subst e;rfl)|omega,rfl⟩
  ·exact⟨3,by decide,rfl,by intro m y hm e;rcases m with _|_|_|_|m;all_goals first|(simp only [S5,T4,N2] at e;subst e;rfl)|omega,rfl⟩
  ·exact⟨4,by decide,rfl,by intro m y hm e;rcases m with _|_|_|_|_|m;all_goals first|(simp only [S5,T4,N2] at e;subst e;rfl)|omega,rfl⟩
  ·exact⟨5,by decide,rfl,by intro m y hm e;rcases m with _|_|_|_|_|_|m;all_goals first|(simp only [S5,T4,N2] at e;subst e;rfl)|omega,rfl⟩
  ·exact⟨6,by decide,rfl,by intro m y hm e;rcases m with _|_|_|_|_|_|_|m;all_goals first|(simp only [S5,T4,N2] at e;subst e;rfl)|omega,rfl⟩
  ·exact⟨7,by decide,rfl,by intro m y hm e;rcases m with _|_|_|_|_|_|_|_|m;all_goals first|(simp only [S5,T4,N2] at e;subst e;rfl)|omega,rfl⟩
  ·exact⟨8,by decide,rfl,by intro m y hm e;rcases m with _|_|_|_|_|_|_|_|_|m;all_goals first|(simp only [S5,T4,N2] at e;subst e;rfl)|omega,rfl⟩
  ·exact⟨9,by decide,rfl,by intro m y hm e;rcases m with _|_|_|_|_|_|_|_|_|_|m;all_goals first|(simp only [S5,T4,N2] at e;subst e;rfl)|omega,rfl⟩
 have hcnt:([PyData.bool (c== "NoTable"),PyData.bool (c== "NoPlace"),PyData.bool (c== "NoNumber"),PyData.bool (c== "NoOrder"),PyData.bool (c== "NoSet"),PyData.bool (c== "NoWalk"),PyData.bool (c== "NoLengths"),PyData.bool (c== "NoWay"),PyData.bool (c== "Apart"),PyData.bool (c== "NoRow"),PyData.bool (c== "NoTables"),PyData.bool (c== "NoText"),PyData.bool (c== "TooGreat")].countP λz=>PyData.eqv z (.bool true))=1:=by
  simp only [CN,P3,T7,X7] at hc;rcases hc with rfl|rfl|rfl|rfl|rfl|rfl|rfl|rfl|rfl|rfl<;>rfl
 refine ji (λσ' h'=>σ'= [some (.exc C),some (.lst p),none]/\h1=h') (λC2 hC=> ?_) ?_
 ·refine⟨_,rfl,C,_,rfl,ek,kv,_,rfl,Zr ⟨_,rfl,p,rfl,.bool true,_,hpd,rfl,rfl,rfl,by simp [PyData.depth],_,rfl,?_⟩⟩;rw [hcnt];exact Zr (hC _ _ ⟨rfl,rfl⟩)
 rintro _ _ ⟨rfl,rfl⟩;refine ji (λσ' h'=> ∃w,σ'= [some (.exc C),some (.lst p),some (.lst w)]/\Sub h1 h'/\h' p=h1 p/\h' w=some [D.str "table",D.str "place",D.str "number",D.str "order",D.str "set",D.str "walk",D.str "lengths",D.str "way",D.str "apart",D.str "row"]) (λC2 hC=>⟨(by show 10<=sizeLine;decide),λw e=>hC _ _ ⟨w,rfl,Sub.newAt (Sub.refl h1) e,by rw [k1];exact jg k1 e,jc⟩⟩) ?_;rintro _ h2 ⟨w,rfl,sb2,kp2,kw⟩;rw [k1] at kp2;refine⟨_,rfl,(by show 3<=sizeLine;decide),λp4 e4=>⟨_,_,jg kw e4,jc,(by simp only [G6,P6,S8];decide),λp5 e5=> ?_⟩⟩;refine⟨_,rfl,p,rfl,.bool true,_,j,_,hpG _ (jg (jg kp2 e4) e5),rfl,rfl,rfl,by simp [PyData.depth],by omega,hz,rfl,hno,_,_,jc,hw,?_⟩;exact⟨_,Sub.refl _,q _ (Sub.newAt (Sub.newAt (sb.trans sb2) e4) e5)⟩
theorem Ov (Z:Zs mg)(Ex:Exc K mg)(F:Fun K "_law_said" "_law_said" vm f fd)(CU:Rl P w K mg base n "_law_kind" ["_law_e"] (Rq mg)):FnOkS P w K mg base CX0 (n+2) f fd ["_law_call"] (QC P w K mg base n):=by
 obtain⟨gU,gdU,GU,bGU,kGU,mGU⟩:=CU;obtain⟨pe,hpe,hex⟩:=Ex.pe;refine Ln F JK rfl rfl rfl rfl rfl hpe hex _ (λcdv A outer s H E x hr=>jf (wA (i:=3) JK.nd rfl (Or.inl rfl) (EU GU hr rfl mGU kGU bGU (jac (jv 2) jd))) (jf (WY (zv (EL hr.units) (jv 3) (VR (jac WW (jac WW jd))) (by with_unfolding_all rfl)) (jh Qx) zl) (jf (WY (zv oq_eq (jv 3) WW (jE _)) (jh Qx) zl) (jh (yc (VR (jac (jv 3) jd))))))) ?_;intro c hc C h Qd hm q;refine⟨_,rfl,c,C,rfl,hc,hm,λh' sb=> ?_⟩;refine⟨_,rfl,(by show 2<=sizeLine;decide),.str (vI c),[.str "tables",.str "text"],rfl,.inr ⟨_,rfl,⟨_,_,rfl,rfl,_,_,rfl,rfl,rfl⟩⟩,?_,by decide +kernel,by simp [PyData.depth],_,rfl,?_⟩
 ·simp only [CN,P3,T7,X7] at hc;rcases hc with rfl|rfl|rfl|rfl|rfl|rfl|rfl|rfl|rfl|rfl<;>decide +kernel
 have e1:((false !=List.any [PyData.str "tables",PyData.str "text"] λz=>PyData.eqv z (.str (vI c))))=false:=by
  simp only [CN,P3,T7,X7] at hc;rcases hc with rfl|rfl|rfl|rfl|rfl|rfl|rfl|rfl|rfl|rfl<;>rfl
 rw [e1];refine Zr ⟨_,rfl,_,rfl,?_⟩;have e2:decide (vI c= "great")=false:=by
  simp only [CN,P3,T7,X7] at hc;rcases hc with rfl|rfl|rfl|rfl|rfl|rfl|rfl|rfl|rfl|rfl<;>rfl
 rw [e2];exact Zr ⟨_,rfl,(by show 1<=sizeLine;decide),h,sb,q⟩
theorem UD (Z:Zs mg)(F:Fun K "_law_same" "_law_same" vn f fd):FnOk P w K mg base CX0 (n+1) f fd ["_law_found","_law_due"] (LSp K Cn):=by
 refine F.okJ Ux (λds h Q q=>by obtain⟨x,y,pd,e,t1,t2,so,q⟩:=q;subst e;rfl) _ (λcdv A outer s H E hr=>(jh (yc (PR oq_eq (jR (Qz hr) rfl Z.repr (by decide +kernel) (jac (jv 0) jd)) (jR (Qz hr) rfl Z.repr (by decide +kernel) (jac (jv 1) jd)) (jE _))))) ?_;intro ds h Q q;obtain⟨x,y,pd,e,t1,t2,so,q⟩:=q;subst e;refine⟨_,rfl,x,pd,rfl,t1,so,_,rfl,y,pd,rfl,t2,so,h,Sub.refl h,?_⟩;rw [R1 rfl];exact q
def JB:RDn:=λds h Q=> ∃p l fl,ds= [.lst p]/\h p=some [.int l,.int fl]/\0<=l/\ ∀ (k:Nat) l',1<=k->k<=6->0<=l'->Q (.int (k:Int)) (zB h p [.int l',.int fl])
theorem UE (Z:Zs mg)(F:Fun K "_law_size" "_law_size" vo f fd)(zk:jJ P w K mg base n "_law_draw" ["_law_pen_here","_law_many"] zN):FnOk P w K mg base CX0 (n+1) f fd ["_law_pen_here"] (LSp K JB):=by
 obtain⟨wV,wD,jz,jt,ju,jw⟩:=zk;refine F.okJ Uy (λds h Q q=>by obtain⟨p,l,fl,e,hp,h0,q⟩:=q;subst e;rfl) _ (λcdv A outer s H E hr=>(jh (yc (jix (Jg (jac jD (by exact(jac jD (by exact(jac jD (by exact(jac jD (by exact(jac jD (by exact(jac jD (by exact(jac jD (by exact(jac jD (by exact(jac jD (by exact(jac jD (by exact(jac jD (by exact(jac jD jd)))))))))))))))))))))))) (jL jz hr rfl jw ju jt (jac (jv 0) (by exact(jac jD jd)))) (λ_ _=>rfl))))) ?_;intro ds h Q q;obtain⟨p,l,fl,e,hp,h0,q⟩:=q;subst e;simp only [MQ,dOp,AJ,vC,dC,PQ,P6,S8,dCB,MP,zu,T9,W4,A6,B2,S5,N2,ixD,Qu,X1];refine⟨by decide,λp1 e1=>⟨p,l,fl,12,rfl,jg hp e1,h0,by decide,by decide,λr l' r0 r1 l0=> ?_⟩⟩;obtain⟨d,hd,ed⟩:=Jf (xs:= [D.int 1,D.int 2,D.int 3,D.int 4,D.int 5,D.int 3,D.int 4,D.int 2,D.int 6,D.int 5,D.int 4,D.int 3]) r0 r1;refine⟨_,d,jj (jy hp e1) jc,ed,_,Sub.both (Sub.newAt (Sub.refl h) e1),?_⟩;have q': ∀k:Nat,1<=k->k<=6->Q (.int (k:Int)) (zB h p [.int l',.int fl]):=λk a b=>q k l' a b l0
 simp only [P3,T7,X7] at hd;rcases hd with e|e|e|e|e|e|e|e|e|e|e|e<;>subst e
 ·exact q' 1 (by decide) (by decide)
 ·exact q' 2 (by decide) (by decide)
 ·exact q' 3 (by decide) (by decide)
 ·exact q' 4 (by decide) (by decide)
 ·exact q' 5 (by decide) (by decide)
 ·exact q' 3 (by decide) (by decide)
 ·exact q' 4 (by decide) (by decide)
 ·exact q' 2 (by decide) (by decide)
 ·exact q' 6 (by decide) (by decide)
 ·exact q' 5 (by decide) (by decide)
 ·exact q' 4 (by decide) (by decide)
 ·exact q' 3 (by decide) (by decide)
def zZ:RDn:=λds h Q=> ∃p l fl,∃k:Nat,ds= [.lst p,.int (k:Int)]/\h p=some [.int l,.int fl]/\0<=l/\1<=k/\k<=6/\ ∀T l',GoodTab k T->0<=l'->Q (zo T) (zB h p [.int l',.int fl])
theorem YZ (Z:Zs mg)(F:Fun K "_law_table" "_law_table" yt f fd)(zk:jJ P w K mg base n "_law_draw" ["_law_pen_here","_law_many"] zN):FnOk P w K mg base CX0 (n+1) f fd ["_law_pen_here","_law_size_here"] (LSp K zZ):=by
 obtain⟨wV,wD,jz,jt,ju,jw⟩:=zk;refine F.okJ jC (λds h Q q=>by obtain⟨p,l,fl,k,e,hp,h0,hk1,hk6,q⟩:=q;subst e;rfl) _ (λcdv A outer s H E hr=>(jf (Ko (i:=2) (j:=3) rfl jC.nd rfl rfl (by decide) rfl rfl (jac (jL jz hr rfl jw ju jt (jac (jv 0) (by exact(jac jD jd)))) (by exact(jac (jix (Jg (jac jD (by exact(jac jD (by exact(jac jD jd)))))) (jL jz hr rfl jw ju jt (jac (jv 0) (by exact(jac jD jd)))) (λ_ _=>rfl)) jd))) rfl) (by exact(jf (wA (i:=4) jC.nd rfl (Or.inl rfl) (jix (Jg (jac jD (by exact(jac jD (by exact(jac jD (by exact(jac (jop Ce jD jD) jd)))))))) (jL jz hr rfl jw ju jt (jac (jv 0) (by exact(jac jD jd)))) (λ_ _=>rfl))) (by exact(jf (wA (i:=5) jC.nd rfl (Or.inl rfl) (Jg jd)) (by exact(jf (VS M7 rfl (yj rfl Z.range (jac (jv 1) jd)) (zh (i:=6) jC.nd rfl (Or.inl rfl)) (jf (wA (i:=7) jC.nd rfl (Or.inl rfl) (Jg jd)) (by exact(jf (VS M7 rfl (yj rfl Z.range (jac (jv 1) jd)) (zh (i:=8) jC.nd rfl (Or.inl rfl)) (jf (wA (i:=9) jC.nd rfl (Or.inl rfl) (PR oq_eq (jL jz hr rfl jw ju jt (jac (jv 0) (by exact(jac (jv 3) jd)))) jD (jE _))) (by exact(jf (WY (zv Em (jv 2) jD (jE _)) (jh (wA (i:=9) jC.nd rfl (Or.inl rfl) (jor (PR oq_eq (jv 8) (jop yb (jop za (jv 6) jD) (jv 1)) (jE _)) (Cl (EH (jv 9) (Cl (PR (VP hr.units) (jL jz hr rfl jw ju jt (jac (jv 0) (by exact(jac jD jd)))) (jv 2) (jE _)))))))) zl) (by exact(jf (WY (zv oq_eq (jv 2) jD (jE _)) (jh (wA (i:=9) jC.nd rfl (Or.inl rfl) (jor (EH (jv 9) (Cl (PR oq_eq (jop yb (jop Qw (jv 8) (jv 6)) jD) jD (jE _)))) (Cl (PR (VP hr.units) (jv 8) (jop za (jv 6) jD) (jE _)))))) zl) (by exact(jf (WY (zv oq_eq (jv 2) jD (jE _)) (jh (wA (i:=9) jC.nd rfl (Or.inl rfl) (EH (jv 9) (Cl (PR FN (jv 8) (jv 6) (jE _)))))) zl) (by exact(jh (YD (ON (jv 7) (jop YA (wg Cg rfl Z.int (by decide +kernel) (jac (jv 9) jd)) (jop za jD (jL jz hr rfl jw ju jt (jac (jv 0) (by exact(jac (jv 4) jd)))))))))))))))))) (by exact(jh (YD (ON (jv 5) (wg cq_tuple rfl Z.tuple (by decide +kernel) (jac (jv 7) jd)))))))))) (by exact(jh (yc (wg cq_tuple rfl Z.tuple (by decide +kernel) (jac (jv 5) jd))))))))))))) ?_;intro ds h Q q;obtain⟨p,l,fl,k,e,hp,h0,hk1,hk6,q⟩:=q;subst e;refine ji (λσ' h'=> ∃way o l2,σ'= [some (.lst p),some (.int (k:Int)),some (.int way),some (.int o),none,none,none,none,none,none]/\0<o/\o<1000/\0<=l2/\h' p=some [.int l2,.int fl]/\But p h h') (λC hC=>⟨_,rfl,p,l,fl,6,rfl,hp,h0,by decide,by decide,λway l1 w0 w1 l10=>⟨(by show 3<=sizeLine;decide),λp1 e1=>⟨_,rfl,p,l1,fl,3,rfl,jg jc e1,l10,by decide,by decide,λr l2 r0 r1 l20=> ?_⟩⟩⟩) ?_
 ·obtain⟨oft,ho,eo⟩:=Jf (xs:= [D.int 2,D.int 3,D.int 5]) r0 r1;obtain⟨o,e,o1,o2⟩: ∃o:Int,oft= .int o/\0<o/\o<1000:=by
   simp only [P3,T7,X7] at ho;rcases ho with e|e|e<;>exact⟨_,e,by decide,by decide⟩
  subst e;exact⟨_,_,jj (jy jc e1) jc,eo,_,_,rfl,hC _ _ ⟨way,o,l2,rfl,o1,o2,l20,jc,((But.upd).new e1).put⟩⟩
 rintro _ h1 ⟨way,o,l2,rfl,o1,o2,l20,kA,bA⟩;refine ji (λσ' h'=> ∃m l3,σ'= [some (.lst p),some (.int (k:Int)),some (.int way),some (.int o),some (.int m),none,none,none,none,none]/\0<m/\m<=1000000/\0<=l3/\h' p=some [.int l3,.int fl]/\But p h h') (λC hC=>⟨⟨by decide,by decide,by decide⟩,(by show 4<=sizeLine;decide),λp1 e1=>⟨_,rfl,p,l2,fl,4,rfl,jg kA e1,l20,by decide,by decide,λr l3 r0 r1 l30=> ?_⟩⟩) ?_
 ·obtain⟨most,ho,eo⟩:=Jf (xs:= [D.int 1,D.int 1,D.int 3,D.int (10^Int.toNat 6)]) r0 r1;obtain⟨m,e,m1,m2⟩: ∃o:Int,most= .int o/\0<o/\o<=1000000:=by
   simp only [P3,T7,X7] at ho;rcases ho with e|e|e|e<;>exact⟨_,e,by decide,by decide⟩
  subst e;exact⟨_,_,jj (jy kA e1) jc,eo,hC _ _ ⟨m,l3,rfl,m1,m2,l30,jc,(bA.new e1).put⟩⟩
 clear kA bA;rintro _ h2 ⟨m,l3,rfl,m1,m2,l30,kB,bB⟩;refine ji (λσ' h'=> ∃R,σ'= [some (.lst p),some (.int (k:Int)),some (.int way),some (.int o),some (.int m),some (.lst R),none,none,none,none]/\R≠p/\h R=none/\h' R=some []/\h' p=some [.int l3,.int fl]/\But p h h') (λC hC=>⟨(by show 0<=sizeLine;decide),λR eR=>hC _ _ ⟨R,rfl,jy kB eR,YB bB eR (jy kB eR),jc,jg kB eR,bB.new eR⟩⟩) ?_;clear kB bB;rintro _ h3 ⟨R,rfl,nR,fR,kR,kC,bC⟩;refine ji (λσ' h'=> ∃a b c d l4 rows,σ'= [some (.lst p),some (.int (k:Int)),some (.int way),some (.int o),some (.int m),some (.lst R),a,b,c,d]/\0<=l4/\h' p=some [.int l4,.int fl]/\h' R=some (rows.map Wu)/\But p h h'/\GoodTab k rows) (λC hC=> ?_) (λσ' h' ⟨a,b,c,d,l4,rows,e,l40,kD,kE,bD,g⟩=>by subst e;exact⟨_,rfl,_,kE,_,bD.sub kD,q rows l4 g l40⟩);refine zR k (λi σ' h'=> ∃a b c d l4 rows,σ'= [some (.lst p),some (.int (k:Int)),some (.int way),some (.int o),some (.int m),some (.lst R),a,b,c,d]/\0<=l4/\h' p=some [.int l4,.int fl]/\h' R=some (rows.map Wu)/\But p h h'/\rows.length=i/\ ∀r∈rows,wM k r) (by omega) (λR' r=>⟨_,rfl,r⟩)
  ⟨none,none,none,none,l3,[],rfl,l30,kC,kR,bC,rfl,λr hr=>nomatch hr⟩ (λσ' h' z=>hC _ _ z) ?_
 clear kC kR bC;rintro i _ h4 hi ⟨a,b,c,d,l4,rows,rfl,l40,kD,kE,bD,g1,g2⟩;refine ji (λσ' h'=> ∃S,σ'= [some (.lst p),some (.int (k:Int)),some (.int way),some (.int o),some (.int m),some (.lst R),some (.int (i:Int)),some (.lst S),c,d]/\S≠p/\S≠R/\h S=none/\h' S=some []/\h' p=some [.int l4,.int fl]/\h' R=some (rows.map Wu)/\But p h h') (λC hC=>⟨(by show 0<=sizeLine;decide),λS eS=>hC _ _ ⟨S,rfl,jy kD eS,jy kE eS,YB bD eS (jy kD eS),jc,jg kD eS,jg kE eS,bD.new eS⟩⟩) ?_;clear kD kE bD;rintro _ h5 ⟨S,rfl,nS,nSR,fS,kS,kD,kE,bD⟩;refine ji (λσ' h'=> ∃c d l5 row,σ'= [some (.lst p),some (.int (k:Int)),some (.int way),some (.int o),some (.int m),some (.lst R),some (.int (i:Int)),some (.lst S),c,d]/\0<=l5/\h' p=some [.int l5,.int fl]/\h' R=some (rows.map Wu)/\h' S=some (row.map D.int)/\But p h h'/\wM k row) (λC hC=> ?_) ?_
 rotate_left
 ·rintro _ h6 ⟨c,d,l5,row,rfl,l50,kD,kE,kF,bD,g⟩;refine⟨_,rfl,R,rfl,_,rfl,_,kF,_,kE,?_,_,Sub.refl _,by omega,_,_,_,_,l5,rows++ [row],rfl,l50,jj (Ne.symm nR) kD,?_,bD.putNew fR,by rw [G6,g1];rfl,?_⟩
  ·rw [G0];exact A3 (show rows.length<=1000 by omega) (by decide)
  ·rw [jc,S4];rfl
  ·intro r hr;rcases D1.mp hr with z|z
   ·exact g2 r z
   ·rw [G7.mp z];exact g
 refine zR k (λj σ' h'=> ∃c d l5 row,σ'= [some (.lst p),some (.int (k:Int)),some (.int way),some (.int o),some (.int m),some (.lst R),some (.int (i:Int)),some (.lst S),c,d]/\0<=l5/\h' p=some [.int l5,.int fl]/\h' R=some (rows.map Wu)/\h' S=some (row.map D.int)/\But p h h'/\row.length=j/\ ∀x∈row,0<=x/\x<=1000000) (by omega) (λR' r=>⟨_,rfl,r⟩)
  ⟨_,_,l4,[],rfl,l40,kD,kE,kS,bD,rfl,λr hr=>nomatch hr⟩ (λσ' h' z=>hC _ _ z) ?_
 clear kD kE kS bD;rintro j _ h6 hj ⟨c,d,l5,row,rfl,l50,kD,kE,kF,bD,g1',g2'⟩;refine ji (λσ' h'=> ∃ (g:Bool) (l6:Int),σ'= [some (.lst p),some (.int (k:Int)),some (.int way),some (.int o),some (.int m),some (.lst R),some (.int (i:Int)),some (.lst S),some (.int (j:Int)),some (.bl g)]/\0<=l6/\h' p=some [.int l6,.int fl]/\h' R=some (rows.map Wu)/\h' S=some (row.map D.int)/\But p h h') (λC hC=>⟨_,rfl,_,rfl,p,l5,fl,o,rfl,kD,l50,o1,by omega,λr l6 r0 r1 l60=>hC _ _ ⟨_,l6,rfl,l60,jc,jj nR kE,jj nS kF,bD.put⟩⟩) ?_;clear kD kE kF bD;rintro _ _ ⟨g,l6,rfl,l60,kD,kE,kF,bD⟩;refine ji (λσ' h'=> ∃ (g:Bool) (l6:Int),σ'= [some (.lst p),some (.int (k:Int)),some (.int way),some (.int o),some (.int m),some (.lst R),some (.int (i:Int)),some (.lst S),some (.int (j:Int)),some (.bl g)]/\0<=l6/\h' p=some [.int l6,.int fl]/\h' R=some (rows.map Wu)/\h' S=some (row.map D.int)/\But p h h') (λC hC=>⟨_,rfl,_,rfl,Wq (λ_=>⟨_,rfl,_,rfl,_,rfl,by omega,_,rfl,Wq (λ_=>hC _ _ ⟨_,l6,rfl,l60,kD,kE,kF,bD⟩) λ_=>⟨_,rfl,_,rfl,Wq (λ_=>⟨_,rfl,p,l6,fl,2,rfl,kD,l60,by decide,by decide,λr l7 r0 r1 l70=>⟨_,rfl,hC _ _ ⟨_,l7,rfl,l70,jc,jj nR kE,jj nS kF,bD.put⟩⟩⟩) λ_=>hC _ _ ⟨_,l6,rfl,l60,kD,kE,kF,bD⟩⟩⟩) λ_=>hC _ _ ⟨_,l6,rfl,l60,kD,kE,kF,bD⟩⟩) ?_;clear kD kE kF bD;rintro _ _ ⟨g,l6,rfl,l60,kD,kE,kF,bD⟩;refine ji (λσ' h'=> ∃ (g:Bool) (l6:Int),σ'= [some (.lst p),some (.int (k:Int)),some (.int way),some (.int o),some (.int m),some (.lst R),some (.int (i:Int)),some (.lst S),some (.int (j:Int)),some (.bl g)]/\0<=l6/\h' p=some [.int l6,.int fl]/\h' R=some (rows.map Wu)/\h' S=some (row.map D.int)/\But p h h') (λC hC=>⟨_,rfl,_,rfl,Wq (λ_=>⟨_,rfl,_,rfl,Wq (λ_=>⟨_,rfl,_,rfl,by decide,_,rfl,Wq (λ_=>hC _ _ ⟨_,l6,rfl,l60,kD,kE,kF,bD⟩) λ_=>⟨_,rfl,_,rfl,hC _ _ ⟨_,l6,rfl,l60,kD,kE,kF,bD⟩⟩⟩) λ_=>⟨_,rfl,Wq (λ_=>hC _ _ ⟨_,l6,rfl,l60,kD,kE,kF,bD⟩) λ_=>⟨_,rfl,_,rfl,hC _ _ ⟨_,l6,rfl,l60,kD,kE,kF,bD⟩⟩⟩⟩) λ_=>hC _ _ ⟨_,l6,rfl,l60,kD,kE,kF,bD⟩⟩) ?_;clear kD kE kF bD;rintro _ _ ⟨g,l6,rfl,l60,kD,kE,kF,bD⟩;refine ji (λσ' h'=> ∃ (g:Bool) (l6:Int),σ'= [some (.lst p),some (.int (k:Int)),some (.int way),some (.int o),some (.int m),some (.lst R),some (.int (i:Int)),some (.lst S),some (.int (j:Int)),some (.bl g)]/\0<=l6/\h' p=some [.int l6,.int fl]/\h' R=some (rows.map Wu)/\h' S=some (row.map D.int)/\But p h h') (λC hC=>⟨_,rfl,_,rfl,Wq (λ_=>⟨_,rfl,_,rfl,Wq (λ_=>⟨_,rfl,_,rfl,hC _ _ ⟨_,l6,rfl,l60,kD,kE,kF,bD⟩⟩) λ_=>hC _ _ ⟨_,l6,rfl,l60,kD,kE,kF,bD⟩⟩) λ_=>hC _ _ ⟨_,l6,rfl,l60,kD,kE,kF,bD⟩⟩) ?_;clear kD kE kF bD;rintro _ _ ⟨g,l6,rfl,l60,kD,kE,kF,bD⟩;have gi: ∀x r:Int,0<=r->r<m->x=0\/x=1->CMul x (1+r)/\0<=x*(1+r)/\x*(1+r)<=1000000:=λx r r0 r1 hx=>by
  rcases hx with e|e<;>subst e
  ·exact⟨.inl ⟨by decide,by decide⟩,by omega,by omega⟩
  ·exact⟨.inl ⟨by decide,by decide⟩,by omega,by omega⟩
 refine⟨_,rfl,S,rfl,_,rfl,_,rfl,_,rfl,p,l6,fl,m,rfl,kD,l60,m1,by omega,λr l7 r0 r1 l70=> ?_⟩;have gg:=gi (if g=true then 1 else 0) r r0 r1 (by cases g<;>decide);refine⟨gg.1,_,jj nS kF,?_,_,Sub.refl _,by omega,_,_,l7,row++ [(if g=true then 1 else 0)*(1+r)],rfl,l70,jj (Ne.symm nS) jc,jj (Ne.symm nSR) (jj nR kE),?_,(bD.put).putNew fS,by rw [G6,g1'];rfl,?_⟩
 ·rw [G0];exact A3 (show row.length<=1000 by omega) (by decide)
 ·rw [jc,S4];rfl
 ·intro x hx;rcases D1.mp hx with z|z
  ·exact g2' x z
  ·rw [G7.mp z];exact gg.2
def vX:RDn:=λds h Q=> ∃T S,∃n e:Nat,ds= [zo T,jK S]/\Sq n e T/\IsS n S/\n<=6/\Q (jK (Xt n T S)) h
theorem Va (Z:Zs mg)(F:Fun K "_law_after" "_law_after" yu f fd):FnOk P w K mg base CX0 (n+1) f fd ["_law_table_here","_law_some"] (LSp K vX):=by
 refine F.okJ wa (λds h Q q=>by obtain⟨T,S,k,b,e,hT,hS,h6,q⟩:=q;subst e;rfl) _ (λcdv A outer s H E hr=>(jf (wA (i:=2) wa.nd rfl (Or.inl rfl) (jR zM rfl Z.len B6 (jac (jv 0) jd))) (by exact(jh (yc (wg vE rfl Z.tuple (by decide +kernel) (jac (jlc (i:=3) (js:= [3]) rfl (jx (by rfl)) (yj rfl Z.range (jac (jv 2) jd)) (by decide) wa.nd rfl (by first|exact Or.inl rfl|exact Or.inr rfl) (λX' hX=>by obtain⟨C,s₀,H₀,ex,rfl⟩:=hX;exact wL (zv DH (jR (Rf rfl) rfl Z.max (by decide +kernel) (jac (jop za (Jg (jac jD jd)) (jlc (i:=4) (js:= [4]) rfl (jx (by rfl)) (wt (jv 1)) (by decide) wa.nd rfl (by first|exact Or.inl rfl|exact Or.inr rfl) (λX' hX=>zS) (λX' hX=>by obtain⟨C,s₀,H₀,ex,rfl⟩:=hX;exact(jix (jix (jv 0) (jv 4) (λ_ _=>rfl)) (jv 3) (λ_ _=>rfl))))) jd)) jD (jE _))) (λX' hX=>by obtain⟨C,s₀,H₀,ex,rfl⟩:=hX;exact(jv 3))) jd))))))) ?_;intro ds h Q q;obtain⟨T,S,k,b,e,hT,hS,h6,q⟩:=q;subst e;have hlen:=hS.len;refine ji (λσ' h'=>σ'= [some (zo T),some (jK S),some (.int (k:Int)),none,none]/\h=h') (λC hC=>⟨_,rfl,hC _ _ ⟨by rw [G0,hT.len];rfl,rfl⟩⟩) ?_;rintro _ _ ⟨rfl,rfl⟩;refine EK (List.range k) (λj=> .int (j:Int)) (λj=> .int (j:Int)) (λj=>S.any λi=>decide (ent T i j≠0)) (by rw [R5];omega) rfl (λR r=>⟨_,rfl,(k:Int),rfl,by omega,by omega,r⟩) (λj hj Q' q'=> ?_) (λj hj hp Q' q'=>⟨_,rfl,q'⟩) ⟨h,Sub.refl h,q⟩;refine⟨(by show 1<=sizeLine;decide),λp1 e1=> ?_⟩;refine lcA S (λi=> .int (i:Int)) (λi=> .int (ent T i j)) (by omega) rfl (λR r=>⟨_,rfl,r⟩) (λi hi Q'' q''=> ?_) (λp2 e2=> ?_)
 ·have hi':=hS.lt hi;exact⟨_,rfl,_,rfl,_,ZC hT hi',_,rfl,_,ZD (hT.row _ (Sq.getRow hT hi')) (D6.mp hj),q''⟩
 ·refine⟨_,_,jg jc e2,jc,?_,λp3 e3=> ?_⟩
  ·simp only [G0,P6,S8];exact D4 (jA (by omega))
  refine⟨0::S.map (λi=>ent T i j),h,by simp,Sub.newAt (Sub.newAt (Sub.newAt (Sub.refl h) e1) e2) e3,.inr ⟨p3,rfl,?_⟩,λm m1 m2=>⟨_,rfl,?_⟩⟩
  ·rw [jc,T9,M9];rfl
  ·show Q' (decide (m>0)) h;rw [GJ hT hS (D6.mp hj) m1 m2];exact q'
def vY:RDn:=λds h Q=> ∃p l fl,∃k:Nat,ds= [.lst p,.int (k:Int)]/\h p=some [.int l,.int fl]/\0<=l/\k<=6/\ ∀o l',Ordr k o->0<=l'->Q (jK o) (zB h p [.int l',.int fl])
theorem Vb (Z:Zs mg)(F:Fun K "_law_order" "_law_order" yw f fd)(zk:jJ P w K mg base n "_law_draw" ["_law_pen_here","_law_many"] zN):FnOk P w K mg base CX0 (n+1) f fd ["_law_pen_here","_law_many"] (LSp K vY):=by
 obtain⟨wV,wD,jz,jt,ju,jw⟩:=zk;refine F.okJ wY (λds h Q q=>by obtain⟨p,l,fl,k,e,hp,h0,hk,q⟩:=q;subst e;rfl) _ (λcdv A outer s H E hr=>(jf (wA (i:=2) wY.nd rfl (Or.inl rfl) (Jg jd)) (by exact(jf (VS M7 rfl (yj rfl Z.range (jac (jv 1) jd)) (zh (i:=3) wY.nd rfl (Or.inl rfl)) (jh (YD (kH (jv 2) (jL jz hr rfl jw ju jt (jac (jv 0) (by exact(jac (jop za (jv 3) jD) jd)))) (jv 3))))) (by exact(jh (yc (wg cq_tuple rfl Z.tuple (by decide +kernel) (jac (jv 2) jd))))))))) ?_;intro ds h Q q;obtain⟨p,l,fl,k,e,hp,h0,hk,q⟩:=q;subst e;refine ji (λσ' h'=> ∃R,σ'= [some (.lst p),some (.int (k:Int)),some (.lst R),none]/\R≠p/\h R=none/\h' R=some []/\h' p=some [.int l,.int fl]/\But p h h') (λC hC=> ?_) ?_
 ·exact⟨(by show 0<=sizeLine;decide),λR eR=>hC _ _ ⟨R,rfl,jy hp eR,eR,jc,jg hp eR,(But.refl p h).new eR⟩⟩
 rintro σ' h1 ⟨R,rfl,nR,fR,kR,kp,bt⟩;refine ji (λσ' h'=> ∃a l2 o,σ'= [some (.lst p),some (.int (k:Int)),some (.lst R),a]/\0<=l2/\Ordr k o/\h' R=some (o.map λ(i:Nat)=>D.int (i:Int))/\h' p=some [.int l2,.int fl]/\But p h h') (λC hC=> ?_) ?_
 ·refine zR k (λi σ' h'=> ∃a l2 o,σ'= [some (.lst p),some (.int (k:Int)),some (.lst R),a]/\0<=l2/\Ordr i o/\h' R=some (o.map λ(i:Nat)=>D.int (i:Int))/\h' p=some [.int l2,.int fl]/\But p h h') (by omega) (λR' r=>⟨_,rfl,r⟩) ⟨none,l,[],rfl,h0,List.Perm.nil,kR,kp,bt⟩ (λσ' h' z=>hC _ _ z) ?_;rintro i _ h2 hi ⟨a,l2,o,rfl,l20,ho,kR2,kp2,bt2⟩;refine⟨_,rfl,R,rfl,_,rfl,_,rfl,p,l2,fl,(i:Int)+1,rfl,kp2,l20,by omega,by omega,λr l3 r0 r1 l30=> ?_⟩;have lo:o.length=i:=ho.ord.len;refine⟨_,rfl,r.toNat,_,by rw [Int.toNat_of_nonneg r0],by omega,jj nR kR2,?_,_,Sub.refl _,by omega,_,l3,o.take r.toNat++i::o.drop r.toNat,rfl,l30,ho.insert r.toNat,?_,jj (Ne.symm nR) jc,(bt2.put).putNew fR⟩
  ·rw [G0];exact A3 (show o.length<=1000 by omega) (by decide)
  ·rw [jc,S4,T9,G1L,G1M]
 rintro _ h3 ⟨a,l2,o,rfl,l20,ho,kR3,kp3,bt3⟩;exact⟨_,rfl,_,kR3,_,bt3.sub kp3,q o l2 ho l20⟩
theorem HK {i:Nat}(hi:i<n):IsS n [i]:=by
 refine⟨λj=>decide (j=i),?_⟩;have e:(List.range n).filter (λj=>decide (j=i))= [i]:=by
  induction n with
  |zero=>omega
  |succ n ih=>
   rw [C9,L5]
   by_cases z:i<n
   ·rw [ih z,O5 (by rw [M6];omega)];rfl
   ·have e:i=n:=by omega
    subst e;rw [G0b.mpr λj hj=>by have:=D6.mp hj;rw [M6];omega,O4 (by rw [M6])];rfl
 exact e.symm
def Wc:RDn:=λds h Q=> ∃T,∃n e:Nat,ds= [zo T]/\Sq n e T/\n<=6/\ ∀A h',h A=none->h' A=some ((List.range n).map λp=>jK (clS n T [p]))->Sub h h'->Q (.lst A) h'
theorem XO (Z:Zs mg)(F:Fun K "_law_far" "_law_far" Jr f fd)(UH:jJ P w K mg base n "_law_after" ["_law_table_here","_law_some"] vX):FnOk P w K mg base CX0 (n+1) f fd ["_law_table_here"] (LSp K Wc):=by
 obtain⟨MT,ME,UM,Vl,Vr,Vv⟩:=UH;refine F.okJ zJ (λds h Q q=>by obtain⟨T,n,b,e,hT,h6,q⟩:=q;subst e;rfl) _ (λcdv A outer s H E hr=>(jf (wA (i:=1) zJ.nd rfl (Or.inl rfl) (Jg jd)) (by exact(jf (VS M7 rfl (yj rfl Z.range (jac (jR zM rfl Z.len B6 (jac (jv 0) jd)) jd)) (zh (i:=2) zJ.nd rfl (Or.inl rfl)) (jf (wA (i:=3) zJ.nd rfl (Or.inl rfl) (VR (jac (jv 2) jd))) (by exact(jf (VS M7 rfl (yj rfl Z.range (jac (jR zM rfl Z.len B6 (jac (jv 0) jd)) jd)) (zh (i:=4) zJ.nd rfl (Or.inl rfl)) (jh (wA (i:=3) zJ.nd rfl (Or.inl rfl) (wg cq_tuple rfl Z.tuple (by decide +kernel) (jac (jss rfl rfl Z.sorted rfl Z.set (jac (jop za (jv 3) (jL UM hr rfl Vv Vr Vl (jac (jv 0) (by exact(jac (jv 3) jd))))) jd)) jd))))) (by exact(jh (YD (ON (jv 1) (jv 3))))))))) (by exact(jh (yc (jv 1)))))))) ?_;intro ds h Q q;obtain⟨T,n,b,e,hT,h6,q⟩:=q;subst e;have two: ∀X Y:List Nat,(X.map λ(k:Nat)=>D.int (k:Int))++(Y.map λ(k:Nat)=>D.int (k:Int))=((X++Y).map λ(j:Nat)=>(j:Int)).map D.int:=λX Y=>by rw [M9,S4];rfl
 refine ji (λσ' h'=> ∃A,σ'= [some (zo T),some (.lst A),none,none,none]/\h A=none/\Sub h h'/\h' A=some []) (λC hC=>⟨(by show 0<=sizeLine;decide),λA eA=>hC _ _ ⟨A,rfl,eA,Sub.newAt (Sub.refl h) eA,jc⟩⟩) ?_;rintro _ h1 ⟨A,rfl,nA,sb,kA⟩;refine ji (λσ' h'=> ∃u v w,σ'= [some (zo T),some (.lst A),u,v,w]/\Sub h h'/\h' A=some ((List.range n).map λp=>jK (clS n T [p]))) (λC hC=> ?_) ?_
 ·refine zR n (λk σ' h'=> ∃u v w,σ'= [some (zo T),some (.lst A),u,v,w]/\Sub h h'/\h' A=some ((List.range k).map λp=>jK (clS n T [p]))) (by omega) (λR r=>⟨_,rfl,by show R [.int (((T.map Wu).length:Nat):Int)] _;rw [G0,hT.len];exact r⟩) ⟨_,_,_,rfl,sb,kA⟩ (λσ' h' z=>hC _ _ z) ?_;clear sb kA;rintro k _ h2 hk ⟨u,v,w,rfl,sb,kA⟩;refine ji (λσ' h'=>σ'= [some (zo T),some (.lst A),some (.int (k:Int)),some (jK [k]),w]/\h2=h') (λC hC=>⟨_,rfl,(by show 1<=sizeLine;decide),hC _ _ ⟨rfl,rfl⟩⟩) ?_;rintro _ _ ⟨rfl,rfl⟩;have iS:=HK hk;refine ji (λσ' h'=> ∃w,σ'= [some (zo T),some (.lst A),some (.int (k:Int)),some (jK (clS n T [k])),w]/\Sub h h'/\h' A=some ((List.range k).map λp=>jK (clS n T [p]))) (λC hC=> ?_) ?_
  ·refine zR n (λi σ' h'=> ∃w,σ'= [some (zo T),some (.lst A),some (.int (k:Int)),some (jK (itF (upS n T) [k] i)),w]/\Sub h h'/\h' A=some ((List.range k).map λp=>jK (clS n T [p]))) (by omega) (λR r=>⟨_,rfl,by show R [.int (((T.map Wu).length:Nat):Int)] _;rw [G0,hT.len];exact r⟩) ⟨_,rfl,sb,kA⟩ (λσ' h' ⟨w,e,s,z⟩=>hC _ _ ⟨w,by rw [e,Oo hT iS],s,z⟩) ?_;clear sb kA;rintro i _ h3 hi ⟨w,rfl,sb,kA⟩;have hS:=wP (T:=T) iS i;have hS':=IsS.step (n:=n) T (itF (upS n T) [k] i);have l1:=hS.len;have l2:=hS'.len;refine⟨_,rfl,_,rfl,_,rfl,T,itF (upS n T) [k] i,n,b,rfl,hT,hS,h6,?_,_,.inl (congrArg (λx=> [D.tup x]) (two _ _)),?_,λp ks hp r m=>⟨_,jc,?_⟩⟩
   ·rw [G0,G0];exact D4 (jA (by omega))
   ·rw [G0,G6];omega
   ·rw [Lt hS hS' r m];exact⟨_,Sub.refl _,by omega,_,by rw [M9];rfl,sb.newAt hp,jg kA hp⟩
  clear sb kA;rintro _ h4 ⟨w,rfl,sb,kA⟩;refine⟨_,rfl,A,rfl,_,rfl,_,kA,?_,_,Sub.refl _,by omega,_,_,_,rfl,sb.over nA,?_⟩
  ·rw [G0,R5];exact jA (by omega)
  ·rw [jc,C9,S4];rfl
 rintro _ h4 ⟨u,v,w,rfl,sb4,k4⟩;exact⟨_,rfl,_,Sub.refl _,q A h4 nA k4 sb4⟩
def yV:RDn:=λds h Q=> ∃T,∃n e:Nat,ds= [zo T]/\Sq n e T/\n<=6/\ ∀A h',h A=none->h' A=some ((YT T n).map jK)->Sub h h'->Q (.lst A) h'
theorem WA (Z:Zs mg)(F:Fun K "_law_pieces" "_law_pieces" wQ f fd)(Po:jJ P w K mg base n "_law_far" ["_law_table_here"] Wc):FnOk P w K mg base CX0 (n+1) f fd ["_law_table_here"] (LSp K yV):=by
 obtain⟨CL,BM,Pr,Qb,Ql,Qo⟩:=Po;refine F.okJ ze (λds h Q q=>by obtain⟨T,n,b,e,hT,h6,q⟩:=q;subst e;rfl) _ (λcdv A outer s H E hr=>(jf (wA (i:=1) ze.nd rfl (by first|exact Or.inr rfl|exact Or.inl rfl) (jL Pr hr rfl Qo Ql Qb (jac (jv 0) jd))) (by exact(jf (wA (i:=2) ze.nd rfl (Or.inl rfl) (Jg jd)) (by exact(jf (VS M7 rfl (yj rfl Z.range (jac (jR zM rfl Z.len B6 (jac (jv 0) jd)) jd)) (zh (i:=3) ze.nd rfl (by first|exact Or.inr rfl|exact Or.inl rfl)) (jh (YD (ON (jv 2) (wg vE rfl Z.tuple (by decide +kernel) (jac (jlc (i:=4) (js:= [4]) rfl (jx (by rfl)) (wt (jix (jv 1) (jv 3) (λ_ _=>rfl))) (by decide) ze.nd rfl (by first|exact Or.inl rfl|exact Or.inr rfl) (λX' hX=>by obtain⟨C,s₀,H₀,ex,rfl⟩:=hX;exact wL (zv (EL hr.units) (jv 3) (jix (jv 1) (jv 4) (λ_ _=>rfl)) (by with_unfolding_all rfl))) (λX' hX=>by obtain⟨C,s₀,H₀,ex,rfl⟩:=hX;exact(jv 4))) jd)))))) (by exact(jh (yc (jst hr rfl rfl Z.sorted rfl Z.set (jac (jv 2) jd))))))))))) ?_;intro ds h Q q;obtain⟨T,n,b,e,hT,h6,q⟩:=q;subst e;refine ji (λσ' h'=> ∃F,σ'= [some (zo T),some (.lst F),none,none,none]/\Sub h h'/\h' F=some ((List.range n).map λp=>jK (clS n T [p]))) (λC hC=>⟨_,rfl,T,n,b,rfl,hT,h6,λF h' nF kF sb=>hC _ _ ⟨F,rfl,sb,kF⟩⟩) ?_;rintro _ h1 ⟨F,rfl,sb,kF⟩;refine ji (λσ' h'=> ∃A,σ'= [some (zo T),some (.lst F),some (.lst A),none,none]/\h1 A=none/\Sub h1 h'/\h' A=some []) (λC hC=>⟨(by show 0<=sizeLine;decide),λA eA=>hC _ _ ⟨A,rfl,eA,Sub.newAt (Sub.refl h1) eA,jc⟩⟩) ?_;rintro _ h2 ⟨A,rfl,nA,sb2,kA⟩;have atF: ∀k,k<n->atI ((List.range n).map λp=>jK (clS n T [p])) (k:Int)=some (jK (clS n T [k])):=λk hk=>we (by rw [P4,O9 hk];rfl)
 refine ji (λσ' h'=> ∃u v,σ'= [some (zo T),some (.lst F),some (.lst A),u,v]/\Sub h1 h'/\h' A=some ((List.range n).map λp=>jK (pcS T n p))) (λC hC=> ?_) ?_
 ·refine zR n (λk σ' h'=> ∃u v,σ'= [some (zo T),some (.lst F),some (.lst A),u,v]/\Sub h1 h'/\h' A=some ((List.range k).map λp=>jK (pcS T n p))) (by omega) (λR r=>⟨_,rfl,by show R [.int (((T.map Wu).length:Nat):Int)] _;rw [G0,hT.len];exact r⟩) ⟨_,_,rfl,sb2,kA⟩ (λσ' h' z=>hC _ _ z) ?_;clear sb2 kA;rintro k _ h3 hk ⟨u,v,rfl,sb2,kA⟩;have kF3:=sb2 _ _ kF;refine⟨_,rfl,A,rfl,EK (j:=λ_=>some ((clS n T [k]).map λ(i:Nat)=>D.int (i:Int))) (clS n T [k]) (λ(i:Nat)=> .int (i:Int)) (λ(i:Nat)=> .int (i:Int)) (λi=>decide (k∈clS n T [i])) (by have:=(RO n T [k]).len;omega) rfl (λR r=>⟨_,rfl,_,rfl,_,_,kF3,atF k hk,r⟩) (λi hi Q' q'=>⟨_,rfl,_,rfl,_,rfl,_,_,kF3,atF i ((RO n T [k]).lt hi),LD ⟨_,rfl,q'⟩⟩) (λi hi z Q' q'=>⟨_,rfl,q'⟩) ?_⟩;rw [SJ hk];refine⟨_,kA,?_,_,Sub.refl _,by omega,_,_,rfl,sb2.over nA,?_⟩
  ·rw [G0,R5];exact jA (by omega)
  ·rw [jc,C9,S4];rfl
 rintro _ h4 ⟨u,v,rfl,sb4,k4⟩;refine⟨_,rfl,A,(List.range n).map (λp=>toI (pcS T n p)),rfl,?_,by rw [G0,R5];omega,λp kss hp r m=>⟨_,Sub.refl _,q p _ ?_ ?_ ?_⟩⟩
 ·rw [k4,M9];exact congrArg some (B8 λS _=>(Ul _).symm)
 ·exact yJ sb (yJ sb4 hp)
 ·rw [jc,Pj r m,M9];exact congrArg some (B8 λS _=>Ul S)
 ·exact λx y z=>jg (sb4 _ _ (sb _ _ z)) hp
theorem yN (Z:Zs mg)(F:Fun K "_law_joined_table" "_law_joined_table" zj f fd)(UI:jJ P w K mg base n "_law_order" ["_law_pen_here","_law_many"] vY)(zk:jJ P w K mg base n "_law_draw" ["_law_pen_here","_law_many"] zN):FnOk P w K mg base CX0 (n+1) f fd ["_law_pen_here","_law_size_here"] (LSp K zZ):=by
 obtain⟨MU,MF,UN,Vm,Vs,Vw⟩:=UI;obtain⟨wV,wD,jz,jt,ju,jw⟩:=zk;refine F.okJ jk (λds h Q q=>by obtain⟨p,l,fl,k,e,hp,h0,hk1,hk6,q⟩:=q;subst e;rfl) _ (λcdv A outer s H E hr=>(jf (wA (i:=2) jk.nd rfl (by first|exact Or.inr rfl|exact Or.inl rfl) (jL UN hr rfl Vw Vs Vm (jac (jv 0) (by exact(jac (jv 1) jd))))) (by exact(jf (wA (i:=3) jk.nd rfl (Or.inl rfl) (jix (Jg (jac jD (by exact(jac jD (by exact(jac jD (by exact(jac (jv 1) (by exact(jac jD jd)))))))))) (jL jz hr rfl jw ju jt (jac (jv 0) (by exact(jac jD jd)))) (λ_ _=>rfl))) (by exact(jf (wA (i:=4) jk.nd rfl (Or.inl rfl) (jix (Jg (jac jD (by exact(jac jD (by exact(jac jD jd)))))) (jL jz hr rfl jw ju jt (jac (jv 0) (by exact(jac jD jd)))) (λ_ _=>rfl))) (by exact(jf (wA (i:=5) jk.nd rfl (Or.inl rfl) (jix (Jg (jac jD (by exact(jac jD (by exact(jac jD jd)))))) (jL jz hr rfl jw ju jt (jac (jv 0) (by exact(jac jD jd)))) (λ_ _=>rfl))) (by exact(jf (VT (i:=11) (k:=6) (js:= [11]) rfl jk.nd rfl (Or.inl rfl) (jx (by rfl)) (wt (jv 2)) (by decide) rfl (by first|exact Or.inl rfl|exact Or.inr rfl) (λX' hX=>zS) (λX' hX=>by obtain⟨C,s₀,H₀,ex,rfl⟩:=hX;exact(jlc (i:=12) (js:= [12]) rfl (jx (by rfl)) (wt (jv 2)) (by decide) jk.nd rfl (by first|exact Or.inl rfl|exact Or.inr rfl) (λX' hX=>zS) (λX' hX=>by obtain⟨C,s₀,H₀,ex,rfl⟩:=hX;exact jD)))) (by exact(jf (VS M7 rfl (Xs rfl Z.enumerate (jac (jv 2) jd)) (DR (i:=7) (j:=8) rfl jk.nd rfl rfl (Or.inl rfl) (Or.inl rfl)) (jf (OM (jop za jD (jL jz hr rfl jw ju jt (jac (jv 0) (by exact(jac (jv 5) jd))))) (VU (jix (jv 6) (jv 8) (λ_ _=>rfl)) (jix (jv 2) (jop yb (jop za (jv 7) jD) (jv 1)) (λ_ _=>rfl)))) (by exact(jh (VS M7 rfl (Xs rfl Z.enumerate (jac (jv 2) jd)) (DR (i:=9) (j:=10) rfl jk.nd rfl rfl (Or.inl rfl) (Or.inl rfl)) (jh (WY (jpt (GE (zv oq_eq (jL jz hr rfl jw ju jt (jac (jv 0) (by exact(jac (jv 4) jd)))) jD (jE _)) (GE (zv oq_eq (jop yb (jop Qw (jop Qw (jv 9) (jv 7)) jD) (jv 3)) jD (jE _)) (DQ (jpt (OL (zv oq_eq (jop yb (jv 1) (jv 3)) jD (jE _)) (EG (zv DH (jv 9) (jv 7) (jE _))))))))) (jh (OM (jop za jD (jL jz hr rfl jw ju jt (jac (jv 0) (by exact(jac (jv 5) jd))))) (VU (jix (jv 6) (jv 8) (λ_ _=>rfl)) (jv 10)))) zl))))))) (by exact(jh (yc (wg vE rfl Z.tuple (by decide +kernel) (jac (jlc (i:=11) (js:= [11]) rfl (jx (by rfl)) (wt (jv 6)) (by decide) jk.nd rfl (by first|exact Or.inl rfl|exact Or.inr rfl) (λX' hX=>zS) (λX' hX=>by obtain⟨C,s₀,H₀,ex,rfl⟩:=hX;exact(wg cq_tuple rfl Z.tuple (by decide +kernel) (jac (jv 11) jd)))) jd))))))))))))))))) ?_;intro ds h Q q;obtain⟨p,l,fl,k,e,hp,h0,hk1,hk6,q⟩:=q;subst e;refine ji (λσ' h'=> ∃o l2,σ'= [some (.lst p),some (.int (k:Int)),some (jK o),none,none,none,none,none,none,none,none,none,none]/\Ordr k o/\0<=l2/\h' p=some [.int l2,.int fl]/\But p h h') (λC hC=>⟨_,rfl,_,rfl,p,l,fl,k,rfl,hp,h0,hk6,λo l2 ho l20=>hC _ _ ⟨o,l2,rfl,ho,l20,jc,But.upd⟩⟩) ?_;rintro _ h1 ⟨o,l2,rfl,ho,l20,kp,bt⟩;have hlo:o.length=k:=ho.ord.len;refine ji (λσ' h'=> ∃dv l3,σ'= [some (.lst p),some (.int (k:Int)),some (jK o),some (.int dv),none,none,none,none,none,none,none,none,none]/\0<dv/\dv<1000/\0<=l3/\h' p=some [.int l3,.int fl]/\But p h h') (λC hC=> ?_) ?_
 ·refine⟨_,rfl,(by show 5<=sizeLine;decide),λp1 e1=>⟨_,rfl,p,l2,fl,5,rfl,jg kp e1,l20,by decide,by decide,λr l3 r0 r1 l30=> ?_⟩⟩;obtain⟨oft',ho',eo⟩:=Jf (xs:= [D.int 1,D.int 2,D.int 3,D.int (k:Int),D.int 1]) r0 r1;refine⟨_,oft',jj (jy kp e1) jc,eo,?_⟩;obtain⟨x,rfl,x1,x2⟩: ∃x:Int,oft'= .int x/\0<x/\x<1000:=by
   simp only [P3,T7,X7] at ho';rcases ho' with e|e|e|e|e<;>exact⟨_,e,by omega,by omega⟩
  exact hC _ _ ⟨x,l3,rfl,x1,x2,l30,jc,(bt.new e1).put⟩
 rintro _ h2 ⟨dv,l3,rfl,dv1,dv2,l30,kp,bt⟩;refine ji (λσ' h'=> ∃oft l4,σ'= [some (.lst p),some (.int (k:Int)),some (jK o),some (.int dv),some (.int oft),none,none,none,none,none,none,none,none]/\0<oft/\oft<1000/\0<=l4/\h' p=some [.int l4,.int fl]/\But p h h') (λC hC=> ?_) ?_
 ·refine⟨(by show 3<=sizeLine;decide),λp1 e1=>⟨_,rfl,p,l3,fl,3,rfl,jg kp e1,l30,by decide,by decide,λr l4 r0 r1 l40=> ?_⟩⟩;obtain⟨oft',ho',eo⟩:=Jf (xs:= [D.int 2,D.int 3,D.int 6]) r0 r1;refine⟨_,oft',jj (jy kp e1) jc,eo,?_⟩;obtain⟨x,rfl,x1,x2⟩: ∃x:Int,oft'= .int x/\0<x/\x<1000:=by
   simp only [P3,T7,X7] at ho';rcases ho' with e|e|e<;>exact⟨_,e,by omega,by omega⟩
  exact hC _ _ ⟨x,l4,rfl,x1,x2,l40,jc,(bt.new e1).put⟩
 rintro _ h2 ⟨oft,l4,rfl,of1,of2,l40,kp,bt⟩;refine ji (λσ' h'=> ∃mo l5,σ'= [some (.lst p),some (.int (k:Int)),some (jK o),some (.int dv),some (.int oft),some (.int mo),none,none,none,none,none,none,none]/\0<mo/\mo<1000/\0<=l5/\h' p=some [.int l5,.int fl]/\But p h h') (λC hC=> ?_) ?_
 ·refine⟨(by show 3<=sizeLine;decide),λp1 e1=>⟨_,rfl,p,l4,fl,3,rfl,jg kp e1,l40,by decide,by decide,λr l5 r0 r1 l50=> ?_⟩⟩;obtain⟨oft',ho',eo⟩:=Jf (xs:= [D.int 1,D.int 1,D.int 5]) r0 r1;refine⟨_,oft',jj (jy kp e1) jc,eo,?_⟩;obtain⟨x,rfl,x1,x2⟩: ∃x:Int,oft'= .int x/\0<x/\x<1000:=by
   simp only [P3,T7,X7] at ho';rcases ho' with e|e|e<;>exact⟨_,e,by omega,by omega⟩
  exact hC _ _ ⟨x,l5,rfl,x1,x2,l50,jc,(bt.new e1).put⟩
 rintro _ h2 ⟨mo,l5,rfl,mo1,mo2,l50,kp,bt⟩;refine ji (λσ' h'=> ∃R rs,σ'= [some (.lst p),some (.int (k:Int)),some (jK o),some (.int dv),some (.int oft),some (.int mo),some (.lst R),none,none,none,none,none,none]/\h' p=some [.int l5,.int fl]/\But p h h'/\Grid k h h' p R rs) (λC hC=> ?_) ?_
 ·refine Ld (h1:=h2) (o.map λ(k:Nat)=>D.int (k:Int)) (λi ys h'=> ∃rs,ys=rs.map D.lst/\rs.length=i/\h' p=some [.int l5,.int fl]/\But p h h'/\p ∉ rs/\ ∀a∈rs,h a=none/\ ∃r,h' a=some (r.map D.int)/\wM k r) (by rw [G0];omega) (λR r=>⟨_,rfl,r⟩) ⟨[],rfl,rfl,kp,bt,by simp,by simp⟩ (λi ys h' ⟨rs,e,el,_⟩=>by rw [e,G0];omega) ?_ ?_
  ·rintro i ys h3 d hd ⟨rs,rfl,lrs,kp3,bt3,nprs,rows3⟩;have hi:i<k:=by have:=(P0.mp hd).1;rw [G0] at this;omega
   refine lcA o (λ(k:Nat)=>D.int (k:Int)) (λ_=>D.int 0) (by omega) rfl (λR r=>⟨_,rfl,r⟩) (λx hx Q' q'=>q') (λq4 e4=> ?_);refine⟨_,Sub.refl _,by rw [G0];omega,rs++ [q4],by rw [S4];rfl,by simp [lrs],jg kp3 e4,bt3.new e4,?_,λa ha=> ?_⟩
   ·intro z;rcases D1.mp z with y|y
    ·exact nprs y
    ·exact jy kp3 e4 (G7.mp y).symm
   ·rcases D1.mp ha with z|z
    ·obtain⟨f',r',e',g'⟩:=rows3 a z;exact⟨f',r',jg e' e4,g'⟩
    ·have:=G7.mp z;subst this;refine⟨YB bt3 e4 (jy kp3 e4),o.map λ_=>(0:Int),by rw [jc,M9];rfl,by rw [G0];exact hlo,λx hx=> ?_⟩;obtain⟨_,_,rfl⟩:=R7.mp hx;exact⟨by decide,by decide⟩
  ·rintro ys h3 ⟨rs,rfl,lrs,kp3,bt3,nprs,rows3⟩ R eR;rw [G0] at lrs;refine hC _ _ ⟨R,rs,rfl,jg kp3 eR,bt3.new eR,⟨jc,by rw [lrs];exact hlo,?_,YB bt3 eR (jy kp3 eR),nprs,jy kp3 eR,λa ha=>⟨(rows3 a ha).1,?_⟩⟩⟩
   ·intro hR;obtain⟨_,r,e',_⟩:=rows3 R hR;rw [e'] at eR;cases eR
   ·obtain⟨r,e',g'⟩:=(rows3 a ha).2;exact⟨r,jg e' eR,g'⟩
 rintro _ h3 ⟨R,rs,rfl,kp,bt,g⟩;have hen:(Xr (o.map λ(k:Nat)=>D.int (k:Int))).length=k:=by rw [wN,G0];exact hlo
 have hel: ∀i d,(Xr (o.map λ(k:Nat)=>D.int (k:Int)))[i]? =some d->i<k/\ ∃y,y<k/\d= .tup [.int (i:Int),.int (y:Int)]:=λi d hd=>by
  have hi:i<k:=by have:=(P0.mp hd).1;omega
  obtain⟨x,hx,ed⟩:=YF hd;have hi':i<o.length:=by omega
  rw [P4,G2 hi'] at hx;injection hx with hx
  exact⟨hi,o[i],D6.mp (ho.mem_iff.mp (N3 hi')),by rw [ed,<-hx]⟩
 refine ji (λσ' h'=> ∃a b c d l6,σ'= [some (.lst p),some (.int (k:Int)),some (jK o),some (.int dv),some (.int oft),some (.int mo),some (.lst R),a,b,c,d,none,none]/\0<=l6/\h' p=some [.int l6,.int fl]/\But p h h'/\Grid k h h' p R rs) (λC hC=> ?_) ?_
 ·refine YC (h1:=h3) (j:=λ_=>some (Xr (o.map λ(k:Nat)=>D.int (k:Int)))) (Xr (o.map λ(k:Nat)=>D.int (k:Int))) (λi σ' h'=> ∃a b c d l6,σ'= [some (.lst p),some (.int (k:Int)),some (jK o),some (.int dv),some (.int oft),some (.int mo),some (.lst R),a,b,c,d,none,none]/\0<=l6/\h' p=some [.int l6,.int fl]/\But p h h'/\Grid k h h' p R rs) (λR r=>⟨_,rfl,_,rfl,r⟩) (λ_ _ _ _=>rfl) ⟨none,none,none,none,l5,rfl,l50,kp,bt,g⟩ (λσ' h' z=>hC _ _ z) ?_;rintro i dd _ h4 hdd ⟨a,b,c,d,l6,rfl,l60,kp4,bt4,g4⟩;obtain⟨hi,y1,hy1,rfl⟩:=hel i dd hdd;refine⟨_,_,rfl,?_⟩;obtain⟨y3,hy3,ey3⟩:=Le ho (Y4 (i+1) (by omega:0<k));have em:((i:Int)+1)%(k:Int)=(((i+1)%k:Nat):Int):=by rw [G1i,Int.natCast_add];rfl
  rw [<-em] at ey3;refine ji (λσ' h'=> ∃l6,σ'= [some (.lst p),some (.int (k:Int)),some (jK o),some (.int dv),some (.int oft),some (.int mo),some (.lst R),some (.int (i:Int)),some (.int (y1:Int)),c,d,none,none]/\0<=l6/\h' p=some [.int l6,.int fl]/\But p h h'/\Grid k h h' p R rs) (λC2 hC2=> ?_) ?_
  ·refine⟨_,rfl,_,rfl,p,l6,fl,mo,rfl,kp4,l60,mo1,by omega,λv l7 v0 v1 l70=> ?_⟩;have g5:=g4.pen [.int l7,.int fl];obtain⟨a',r',at',ha',er',gr',fa',na'⟩:=g5.pick hy1;exact⟨_,rfl,_,rfl,_,_,g5.at_,at',_,rfl,_,rfl,_,rfl,(by omega:(0:Int)<(k:Int)),_,ey3,a',(y3:Int),_,y3,rfl,rfl,er',YH (by rw [G0,gr'.1];exact hy3),hC2 _ _ ⟨l7,rfl,l70,jj (Ne.symm na') jc,(bt4.put).putNew fa',g5.set ha' er' gr' (by omega) (by omega)⟩⟩
  rintro _ h5 ⟨l6,rfl,l60,kp5,bt5,g5⟩;refine YC (h1:=h5) (j:=λ_=>some (Xr (o.map λ(k:Nat)=>D.int (k:Int)))) (Xr (o.map λ(k:Nat)=>D.int (k:Int))) (λ_ σ' h'=> ∃c d l6,σ'= [some (.lst p),some (.int (k:Int)),some (jK o),some (.int dv),some (.int oft),some (.int mo),some (.lst R),some (.int (i:Int)),some (.int (y1:Int)),c,d,none,none]/\0<=l6/\h' p=some [.int l6,.int fl]/\But p h h'/\Grid k h h' p R rs) (λR r=>⟨_,rfl,_,rfl,r⟩) (λ_ _ _ _=>rfl) ⟨c,d,l6,rfl,l60,kp5,bt5,g5⟩ ?_ ?_
  ·rintro _ h6 ⟨c,d,l6,rfl,l60,kp6,bt6,g6⟩;exact⟨_,Sub.refl _,by omega,_,_,_,_,l6,rfl,l60,kp6,bt6,g6⟩
  rintro i2 dd _ h6 hdd2 ⟨c,d,l6,rfl,l60,kp6,bt6,g6⟩;obtain⟨hi2,y2,hy2,rfl⟩:=hel i2 dd hdd2;refine⟨_,_,rfl,?_⟩;refine⟨_,rfl,_,rfl,p,l6,fl,oft,rfl,kp6,l60,of1,by omega,λw l7 w0 w1 l70=>⟨_,rfl,Wq (λ_=> ?_) (λ_=>Zr ⟨_,Sub.refl _,by omega,_,_,l7,rfl,l70,jc,bt6.put,g6.pen _⟩)⟩⟩;refine⟨_,rfl,_,rfl,_,rfl,dv1,_,rfl,Wq (λ_=> ?_) (λ_=>Zr ⟨_,Sub.refl _,by omega,_,_,l7,rfl,l70,jc,bt6.put,g6.pen _⟩)⟩;refine⟨_,rfl,_,rfl,dv1,_,rfl,Wq (λ_=>MO ?_) (λ_=> ?_)⟩
  ·refine⟨_,rfl,_,rfl,p,l7,fl,mo,rfl,jc,l70,mo1,by omega,λv l8 v0 v1 l80=> ?_⟩;have g8:=(g6.pen [.int l7,.int fl]).pen [.int l8,.int fl];obtain⟨a',r',at',ha',er',gr',fa',na'⟩:=g8.pick hy1;exact⟨_,rfl,_,rfl,_,_,g8.at_,at',_,rfl,a',(y2:Int),_,y2,rfl,rfl,er',YH (by rw [G0,gr'.1];exact hy2),_,Sub.refl _,by omega,_,_,l8,rfl,l80,jj (Ne.symm na') jc,((bt6.put).put).putNew fa',g8.set ha' er' gr' (by omega) (by omega)⟩
  ·refine⟨_,rfl,_,rfl,_,rfl,Wq (λ_=> ?_) (λ_=>⟨_,Sub.refl _,by omega,_,_,l7,rfl,l70,jc,bt6.put,g6.pen _⟩)⟩;refine⟨_,rfl,_,rfl,p,l7,fl,mo,rfl,jc,l70,mo1,by omega,λv l8 v0 v1 l80=> ?_⟩;have g8:=(g6.pen [.int l7,.int fl]).pen [.int l8,.int fl];obtain⟨a',r',at',ha',er',gr',fa',na'⟩:=g8.pick hy1;exact⟨_,rfl,_,rfl,_,_,g8.at_,at',_,rfl,a',(y2:Int),_,y2,rfl,rfl,er',YH (by rw [G0,gr'.1];exact hy2),_,Sub.refl _,by omega,_,_,l8,rfl,l80,jj (Ne.symm na') jc,((bt6.put).put).putNew fa',g8.set ha' er' gr' (by omega) (by omega)⟩
 rintro _ h6 ⟨a,b,c,d,l6,rfl,l60,kp,bt,g⟩;obtain⟨T,gT,eT⟩:=g.tab;refine kJ (j:=λh=>h R) rs D.lst (λa=> .tup ((h6 a).getD [])) (by rw [g.len];omega) g.at_ (λR r=>⟨_,rfl,r⟩) (λa ha Q' q'=> ?_) ⟨_,bt.sub kp,?_⟩
 ·obtain⟨_,r,er,_⟩:=g.row a ha;rw [er] at q';exact⟨_,rfl,_,er,q'⟩
 ·rw [eT];exact q T l6 gT l60
def yW:RDn:=λds h Q=> ∃T,∃n e:Nat,ds= [zo T]/\Sq n e T/\1<=n/\n<=6/\ ∀A h',h A=none->h' A=some ((jS T n).map jK)->Sub h h'->Q (.lst A) h'
theorem WB (Z:Zs mg)(F:Fun K "_law_rounds" "_law_rounds" wR f fd):FnOk P w K mg base CX0 (n+1) f fd ["_law_table_here"] (LSp K yW):=by
 refine F.okJ jG (λds h Q q=>by obtain⟨T,n,b,e,hT,h1,h6,q⟩:=q;subst e;rfl) _ (λcdv A outer s H E hr=>(jf (wA (i:=1) jG.nd rfl (Or.inl rfl) (Jg jd)) (by exact(jf (VT (i:=6) (k:=2) (js:= [6]) rfl jG.nd rfl (Or.inl rfl) (jx (by rfl)) (yj rfl Z.range (jac (jR zM rfl Z.len B6 (jac (jv 0) jd)) jd)) (by decide) rfl (by first|exact Or.inl rfl|exact Or.inr rfl) (λX' hX=>zS) (λX' hX=>by obtain⟨C,s₀,H₀,ex,rfl⟩:=hX;exact(VR (jac (jv 6) jd)))) (by exact(jf (Rc M7 (zv (Ck hr.units) (jv 2) (Jg jd) (jE _)) (jf (wA (i:=3) jG.nd rfl (Or.inl rfl) (Jg jd)) (by exact(jf (VS M7 rfl (wt (jv 2)) (zh (i:=4) jG.nd rfl (by first|exact Or.inr rfl|exact Or.inl rfl)) (jf (wA (i:=5) jG.nd rfl (by first|exact Or.inr rfl|exact Or.inl rfl) (jix (jv 0) (jix (jv 4) (Hn jD) (λ_ _=>rfl)) (λ_ _=>rfl))) (by exact(jf (WY (zv DH (jix (jv 5) (jix (jv 4) jD (λ_ _=>rfl)) (λ_ _=>rfl)) jD (jE _)) (jh (YD (ON (jv 1) (jv 4)))) zl) (by exact(jh (wA (i:=3) jG.nd rfl (Or.inl rfl) (jop za (jv 3) (jlc (i:=7) (js:= [7]) rfl (jx (by rfl)) (EM rfl Z.range (jac (jop za (jix (jv 4) jD (λ_ _=>rfl)) jD) (by exact(jac (jR zM rfl Z.len B6 (jac (jv 0) jd)) jd)))) (by decide) jG.nd rfl (by first|exact Or.inl rfl|exact Or.inr rfl) (λX' hX=>by obtain⟨C,s₀,H₀,ex,rfl⟩:=hX;exact wL (jpt (GE (zv DH (jix (jv 5) (jv 7) (λ_ _=>rfl)) jD (jE _)) (DQ (zv (Qy hr.units) (jv 7) (jv 4) (by with_unfolding_all rfl)))))) (λX' hX=>by obtain⟨C,s₀,H₀,ex,rfl⟩:=hX;exact(jop za (jv 4) (VR (jac (jv 7) jd))))))))))))) (by exact(jh (wA (i:=2) jG.nd rfl (Or.inl rfl) (jv 3)))))))) (by exact(jh (yc (jR (Yi hr) rfl Z.sorted (by decide +kernel) (jac (jv 1) jd))))))))))) ?_;intro ds h Q q;obtain⟨T,n,b,e,hT,h1,h6,q⟩:=q;subst e;refine ji (λσ' h'=> ∃A,σ'= [some (zo T),some (.lst A),none,none,none,none,none,none]/\h A=none/\h' A=some []/\Sub h h') (λC hC=>⟨(by show 0<=sizeLine;decide),λA eA=>hC _ _ ⟨A,rfl,eA,jc,Sub.newAt (Sub.refl h) eA⟩⟩) ?_;rintro _ h2 ⟨A,rfl,fA,kA,sA⟩;refine ji (λσ' h'=> ∃B c,σ'= [some (zo T),some (.lst A),some (.lst B),none,none,none,c,none]/\B≠A/\h' A=some ((Jn (jT T) n 0).map jK)/\h' B=some ((lev (jT T) n 0).map jK)/\Sub h h') (λC hC=> ?_) ?_
 ·refine lcA (List.range n) (λj=> .int (j:Int)) (λi=>jK [i]) (by rw [R5];omega) rfl (λR r=>⟨_,rfl,(n:Int),by rw [G0,hT.len],by omega,by omega,r⟩) (λj hj Q' q'=>⟨_,rfl,(by show 1<=sizeLine;decide),q'⟩) (λB eB=>hC _ _ ⟨B,_,rfl,jy kA eB,jg kA eB,?_,Sub.newAt sA eB⟩);rw [jc];show _=some (((List.range n).map λi=> [i]).map jK);rw [M9];rfl
 rintro _ h3 ⟨B,c,rfl,nB,kA,kB,sb⟩;refine ji (λσ' h'=> ∃B c d e f,σ'= [some (zo T),some (.lst A),some (.lst B),c,d,e,f,none]/\h' A=some ((Jn (jT T) n n).map jK)/\Sub h h') (λC hC=> ?_) ?_
 ·refine YG (λm σ' h'=> ∃ (t:Nat) (B:Addr) (c d e f:Option D),σ'= [some (zo T),some (.lst A),some (.lst B),c,d,e,f,none]/\m=n-t/\t<=n/\B≠A/\h' A=some ((Jn (jT T) n t).map jK)/\h' B=some ((lev (jT T) n t).map jK)/\Sub h h') n ⟨0,B,none,none,none,c,rfl,rfl,S9 _,nB,kA,kB,sb⟩ ?_;clear kA kB sb nB;rintro m _ h4 ⟨t,B,c,d,e,f,rfl,rfl,tn,nB,kA,kB,sb⟩;refine⟨_,rfl,(by show 0<=sizeLine;decide),λZ eZ=>LV (jg kB eZ) jc ⟨_,rfl,?_⟩⟩
  by_cases z:(lev (jT T) n t)= []
  ·rw [z];refine Zr (hC _ _ ⟨B,c,d,e,f,rfl,?_,Sub.newAt sb eZ⟩);have:=(ZV (n-t) z).1;rw [show t+(n-t)=n by omega] at this;rw [this];exact jg kA eZ
  ·have tl:t<n:=by
    rcases A8 t n with w|w
    ·exact w
    ·have:t=n:=by omega
     subst this;exact absurd (RR h6) z
   have ll:=YO (g:=jT T) h6 (show t<=6 by omega);have rl:=vS (g:=jT T) h6 (show t<=6 by omega);have l2:=YO (g:=jT T) h6 (show t+1<=6 by omega);have kA:=jg (M:= []) kA eZ;have kB:=jg (M:= []) kB eZ;have sb:=Sub.newAt (L:= []) sb eZ;revert kA kB sb;generalize zB h4 Z []=h4;intro kA kB sb;rw [show (!((lev (jT T) n t)).isEmpty)=true from by cases e:(lev (jT T) n t) with|nil=>exact absurd e z|cons _ _=>rfl];refine MO ?_;refine ji (λσ' h'=> ∃G,σ'= [some (zo T),some (.lst A),some (.lst B),some (.lst G),d,e,f,none]/\G≠A/\h' G=some []/\h' A=some ((Jn (jT T) n t).map jK)/\h' B=some ((lev (jT T) n t).map jK)/\Sub h h') (λC hC=>⟨(by show 0<=sizeLine;decide),λG eG=>hC _ _ ⟨G,rfl,jy kA eG,jc,jg kA eG,jg kB eG,Sub.newAt sb eG⟩⟩) ?_;clear kA kB sb;rintro _ h5 ⟨G,rfl,nG,kG,kA,kB,sb⟩;refine ji (λσ' h'=> ∃G d e f,σ'= [some (zo T),some (.lst A),some (.lst B),some (.lst G),d,e,f,none]/\G≠A/\h' G=some ((lev (jT T) n (t+1)).map jK)/\h' A=some ((Jn (jT T) n (t+1)).map jK)/\Sub h h') (λC hC=> ?_) ?_
   ·refine YC (h1:=h5) (j:=λh=>h B) ((lev (jT T) n t).map jK) (λi σ' h'=> ∃G d e f,σ'= [some (zo T),some (.lst A),some (.lst B),some (.lst G),d,e,f,none]/\G≠A/\h' G=some ((((lev (jT T) n t).take i).flatMap (MR (jT T) n)).map jK)/\h' A=some (((Jn (jT T) n t)++(((lev (jT T) n t).take i).filter λw=>jT T (w.getLastD 0) (w.headD 0))).map jK)/\h' B=some ((lev (jT T) n t).map jK)/\Sub h h') (λR r=>⟨_,rfl,r⟩) (λ_ _ _ ⟨_,_,_,_,_,_,_,_,k,_⟩=>k) ⟨G,d,e,f,rfl,nG,kG,by rw [G0V,Z8,B7];exact kA,kB,sb⟩ (λσ' h' ⟨G,d,e,f,es,nG,kG,kA,_,s⟩=>hC _ _ ⟨G,d,e,f,es,nG,by rw [G0,D9 (G5 _)] at kG;exact kG,by rw [G0,D9 (G5 _)] at kA;exact kA,s⟩) ?_;clear kA kB sb kG nG;rintro i dd _ h6' hd ⟨G,d,e,f,rfl,nG,kG,kA,kB,sb⟩;have hil:=(P0.mp hd).1;rw [G0] at hil;rw [P4,G2 hil] at hd;injection hd with hd
    subst hd;have hw:=N3 hil;have etk:=Up (MR (jT T) n) (G2 hil);have etf:=Uq (λw=>jT T (w.getLastD 0) (w.headD 0)) (λw=>w) (G2 hil);have lel:(((lev (jT T) n t).take (i+1)).flatMap (MR (jT T) n)).length<=144:=P7 (yp _ _ _) l2;have lfl:(((lev (jT T) n t).take i).filter λw=>jT T (w.getLastD 0) (w.headD 0)).length<=144:=P7 (L7 ..) (P7 (by rw [D8];omega) ll);rw [List.map_id',List.map_id'] at etf;generalize (lev (jT T) n t)[i]=w at hw etk etf;have o:=ZU hw;have he:=o.lt _ (XB o.len);have hh:=o.lt _ (Gb o.len);refine ji (λσ' h'=>σ'= [some (zo T),some (.lst A),some (.lst B),some (.lst G),some (jK w),some (Wu (T.getD (w.getLastD 0) [])),f,none]/\h6'=h') (λC hC=>⟨_,rfl,_,rfl,_,RV o.len,_,ZC hT he,hC _ _ ⟨rfl,rfl⟩⟩) ?_;rintro _ _ ⟨rfl,rfl⟩;refine ji (λσ' h'=>σ'= [some (zo T),some (.lst A),some (.lst B),some (.lst G),some (jK w),some (Wu (T.getD (w.getLastD 0) [])),f,none]/\h' G=some ((((lev (jT T) n t).take i).flatMap (MR (jT T) n)).map jK)/\h' A=some (((Jn (jT T) n t)++(((lev (jT T) n t).take (i+1)).filter λw=>jT T (w.getLastD 0) (w.headD 0))).map jK)/\h' B=some ((lev (jT T) n t).map jK)/\Sub h h') (λC hC=>⟨_,rfl,_,rfl,_,Zf o.len,_,ZD (hT.row _ (Sq.getRow hT he)) hh,?_⟩) ?_
    ·show ∃k,D.bl (decide (ent T (w.getLastD 0) (w.headD 0)>0))=D.bl k/\_
     by_cases c:ent T (w.getLastD 0) (w.headD 0)>0
     ·rw [R1 c];refine⟨_,rfl,MO ⟨_,rfl,_,rfl,_,rfl,_,kA,?_,hC _ _ ⟨rfl,jj nG kG,?_,jj nB kB,sb.over fA⟩⟩⟩
      ·rw [G0,G6];exact jA (by omega)
      ·rw [jc,etf,show jT T (w.getLastD 0) (w.headD 0)=true from R1 c,if_pos rfl,<-G8,S4 (l₂:= [w])];rfl
     ·rw [R9 c];refine⟨_,rfl,Zr (hC _ _ ⟨rfl,kG,?_,kB,sb⟩)⟩;rw [etf,show jT T (w.getLastD 0) (w.headD 0)=false from R9 c,if_neg P5,B7];exact kA
    clear kA kB sb kG;rintro _ h7 ⟨rfl,kG,kA,kB,sb⟩;refine⟨_,rfl,?_⟩;have ew:(n:Int)-(((w.headD 0:Nat):Int)+1)=((n-(w.headD 0+1):Nat):Int):=by omega
    refine lcF (j:=λ_=>some ((List.range ((n:Int)-(((w.headD 0:Nat):Int)+1)).toNat).map λ(k:Nat)=>D.int (((w.headD 0:Nat):Int)+1+(k:Int)))) (List.range (n-(w.headD 0+1))) (λ(k:Nat)=> .int (((w.headD 0:Nat):Int)+1+(k:Int))) (λk=>jK (w++ [w.headD 0+1+k])) (λk=>jT T (w.getLastD 0) (w.headD 0+1+k)&& !decide (w.headD 0+1+k∈w)) (by rw [R5];omega) (by rw [ew,E4]) (λR r=>⟨_,rfl,_,Zf o.len,_,rfl,_,_,by rw [G0,hT.len],⟨by omega,by omega,by omega,by omega⟩,r⟩) (λk hk Q' q'=> ?_) (λk hk _ Q' q'=> ?_) (λF eF=> ?_)
    ·have hk:=D6.mp hk;have ek:((w.headD 0:Nat):Int)+1+(k:Int)=((w.headD 0+1+k:Nat):Int):=by omega
     rw [ek];refine⟨_,rfl,_,rfl,_,ZD (hT.row _ (Sq.getRow hT he)) (show w.headD 0+1+k<n by omega),?_⟩;show ∃c,D.bl (jT T (w.getLastD 0) (w.headD 0+1+k))=D.bl c/\_;refine⟨_,rfl,?_⟩;cases c:jT T (w.getLastD 0) (w.headD 0+1+k) with
     |true=>
      rw [c] at q';exact MO ⟨_,rfl,_,rfl,RN ⟨_,rfl,q'⟩⟩
     |false=>
      rw [c] at q';exact Zr q'
    ·have ek:((w.headD 0:Nat):Int)+1+(k:Int)=((w.headD 0+1+k:Nat):Int):=by omega
     rw [ek];have e:jK (w++ [w.headD 0+1+k])= .tup ((w.map λ(k:Nat)=>D.int (k:Int))++ [.int ((w.headD 0+1+k:Nat):Int)]):=by unfold jK;rw [List.map_append];rfl
     rw [e] at q';refine⟨_,rfl,_,rfl,(by show 1<=sizeLine;decide),?_,q'⟩;rw [G0,o.len];exact D4 (jA (by simp only [P6,S8];omega))
    ·rw [LW hh];refine⟨_,_,jg kG eF,jc,?_,λp e=>⟨_,Sub.refl _,by rw [G0];omega,p,_,_,_,rfl,jy (jg kA eF) e,?_,jg (jg kA eF) e,jg (jg kB eF) e,λa ds x=>jg (jg (sb a ds x) eF) e⟩⟩
     ·rw [etk,G6] at lel;rw [G0,G0];exact P7 lel (by decide)
     ·rw [jc,etk,S4]
   clear kA kB sb kG nG;rintro _ h6' ⟨G,d,e,f,rfl,nG,kG,kA,sb⟩;exact⟨_,rfl,n-(t+1),_,by omega,Sub.refl _,t+1,G,_,_,_,_,rfl,rfl,by omega,nG,kA,kG,sb⟩
 clear kA kB sb;rintro _ h4 ⟨B,c,d,e,f,rfl,kA,sb⟩;refine⟨_,rfl,A,(Jn (jT T) n n).map toI,rfl,?_,?_,λp mss hp pm sr=>⟨_,Sub.refl _,q p _ (yJ sb hp) (by rw [jc,Um pm sr];rfl) (Sub.newAt sb hp)⟩⟩
 ·rw [kA,M9];exact congrArg some (B8 λS _=>(Ul S).symm)
 ·rw [G0];have:=vS (g:=jT T) h6 h6;exact jA (by omega)
variable {h:HD}
theorem Ow {A B:Addr}{S:List Nat}{Q:KD}(k:h A=some (S.map λ(l:Nat)=>D.int (l:Int)))(k':h B=some [])(q:Q (.bl (!decide (S= []))) h):neE (.lst A) (.lst B) h Q:=by
 have e:S.map (λ(l:Nat)=>D.int (l:Int))=(S.map λ(l:Nat)=>(l:Int)).map D.int:=by rw [M9];rfl
 rw [e] at k;refine⟨.list ((S.map λ(l:Nat)=>(l:Int)).map .int),.list [],⟨_,_,rfl,k,vH _ _⟩,⟨_,_,rfl,k',rfl⟩,ZB _,rfl,?_⟩;cases S<;>exact q
theorem Bx {i:Nat}{js:List Nat}{ti:TID}{tt:TTD}{te:TED}{σ:SD}{h1:HD}{Q:KD}(ds:List D)(W:Nat->List D->HD->Prop)(hn:ds.length<=1000)(ht: ∀R:ItD->HD->Prop,R (λ_=>some ds) h1->ti σ h R)
 (w0:W 0 [] h1)(wl: ∀k ys h',W k ys h'->ys.length<=k)(turn: ∀k d ys h',ds[k]? =some d->W k ys h'->tt ((jP js σ).set i (some d)) h' λb h3=>if b=true then te ((jP js σ).set i (some d)) h3 λy h4=> ∃h5,Sub h5 h4/\(k+1<=ds.length/\W (k+1) (ys++ [y]) h5) else ∃h5,Sub h5 h3/\(k+1<=ds.length/\W (k+1) ys h5))
 (done: ∀ys h',W ds.length ys h'-> ∀p,h' p=none->Q (.lst p) (zB h' p ys)):Zy (bN i) js ti tt te σ h Q:=by
 refine ht _ ⟨ds.length,λk ys h'=>k<=ds.length/\W k ys h',⟨S9 _,w0⟩,?_⟩;rintro k ys h' ⟨hk,w⟩;refine⟨P7 (wl k ys h' w) (D4 (jA (by omega))),ds,rfl,G5 _,λhl p hp=> ?_,λd hd=>⟨_,rfl,turn k d ys h' hd w⟩⟩;have:k=ds.length:=by omega
 subst this;exact done _ _ w p hp
theorem Ox {r:RD2}{te tu:TED}{σ:SD}{Q:Bool->HD->Prop}(x:te σ h λa h1=>tu σ h1 λb h2=>r a b h2 λv h3=> ∃k,v= .bl k/\Q k h3):JL (dOp r te tu) σ h Q:=x
theorem XQ: ∀ (S:List Nat) (a d:Nat),d∣S.foldl Nat.gcd a↔d∣a/\ ∀l∈S,d∣l
 | [],a,d=>⟨λh=>⟨h,λl hl=>absurd hl T7⟩,λh=>h.1⟩
 |x::S,a,d=>by
  rw [G0C,XQ S _ d,Nat.dvd_gcd_iff];constructor
  ·rintro ⟨⟨p,q⟩,r⟩;exact⟨p,λl hl=>by rcases P3.mp hl with rfl|hl;exact q;exact r l hl⟩
  ·rintro ⟨p,q⟩;exact⟨⟨p,q x P9⟩,λl hl=>q l (D5 _ hl)⟩
/-- the number 1+i goes into all -/
def XR (S:List Nat)(i:Nat):Bool:=decide ((S.filter λ(l:Nat)=> !decide ((l:Int)%(1+(i:Int))=0))= [])
theorem goes_iff {S:List Nat}{i:Nat}:XR S i=true↔(1+i)∣S.foldl Nat.gcd 0:=by
 unfold XR;rw [M6,G0b,XQ];have e: ∀l:Nat,(!decide ((l:Int)%(1+(i:Int))=0))=true↔ ¬ (1+i)∣l:=λl=>by
  rw [G02,Z6,Nat.dvd_iff_mod_eq_zero,show (1:Int)+(i:Int)=((1+i:Nat):Int) by omega,<-G1i];omega
 exact⟨λh=>⟨Nat.dvd_zero _,λl hl=>Q3 λz=>h l hl ((e l).mpr z)⟩,λh l hl z=>(e l).mp z (h.2 l hl)⟩
theorem Ms (h6:n<=6)(ne:((jS T n).map List.length)≠ []):1<=yA T n/\yA T n<=6:=by
 obtain⟨l,hl⟩:=List.exists_mem_of_ne_nil _ ne;obtain⟨W,hW,rfl⟩:=R7.mp hl;obtain⟨s,hs,ok,_⟩:=RU hW;have d:=((XQ ((jS T n).map List.length) 0 _).mp (Nat.dvd_refl _)).2 _ hl;have w1:1<=W.length:=by rw [ok.len];omega
 have w6:W.length<=6:=by rw [ok.len];omega
 have le:=G1O (by omega) d;refine⟨?_,P7 le w6⟩;rcases Nat.eq_zero_or_pos (yA T n) with z|z
 ·exfalso;have z:((jS T n).map List.length).foldl Nat.gcd 0=0:=z;rw [z,Nat.zero_dvd] at d;omega
 ·exact z
theorem UF (g1:1<=yA T n)(g6:yA T n<=6):yA T n-1∈(List.range 6).filter (XR ((jS T n).map List.length)):=by
 rw [N0,D6];refine⟨by omega,goes_iff.mpr ?_⟩;rw [show 1+(yA T n-1)=yA T n by omega];exact Nat.dvd_refl _
def JC:RDn:=λds h Q=> ∃T,∃n e:Nat,ds= [zo T]/\Sq n e T/\1<=n/\n<=6/\ ∀h',Sub h h'->Q (.int ((yA T n:Nat):Int)) h'
theorem UG (Z:Zs mg)(F:Fun K "_law_beat" "_law_beat" vp f fd)(Ve:jJ P w K mg base n "_law_rounds" ["_law_table_here"] yW):FnOk P w K mg base CX0 (n+1) f fd ["_law_table_here"] (LSp K JC):=by
 obtain⟨MD,PY,Vi,WG,WL,WO⟩:=Ve;refine F.okJ zQ (λds h Q q=>by obtain⟨T,n,b,e,hT,h1,h6,q⟩:=q;subst e;rfl) _ (λcdv A outer s H E hr=>(jf (wA (i:=1) zQ.nd rfl (by first|exact Or.inr rfl|exact Or.inl rfl) (jlc (i:=3) (js:= [3]) rfl (jx (by rfl)) (wt (jL Vi hr rfl WO WL WG (jac (jv 0) jd))) (by decide) zQ.nd rfl (by first|exact Or.inl rfl|exact Or.inr rfl) (λX' hX=>zS) (λX' hX=>by obtain⟨C,s₀,H₀,ex,rfl⟩:=hX;exact(jR zM rfl Z.len B6 (jac (jv 3) jd))))) (by exact(jf (VT (i:=4) (k:=2) (js:= [4]) rfl zQ.nd rfl (Or.inl rfl) (jx (by rfl)) (EM rfl Z.range (jac jD (by exact(jac jD jd)))) (by decide) rfl (by first|exact Or.inl rfl|exact Or.inr rfl) (λX' hX=>by obtain⟨C,s₀,H₀,ex,rfl⟩:=hX;exact wL (zv (VP hr.units) (jlc (i:=5) (js:= [5]) rfl (jx (by rfl)) (wt (jv 1)) (by decide) zQ.nd rfl (by first|exact Or.inl rfl|exact Or.inr rfl) (λX' hX=>by obtain⟨C,s₀,H₀,ex,rfl⟩:=hX;exact wL (zv oq_ne (jop yb (jv 5) (jv 4)) jD (jE _))) (λX' hX=>by obtain⟨C,s₀,H₀,ex,rfl⟩:=hX;exact(jv 5))) (Jg jd) (jE _))) (λX' hX=>by obtain⟨C,s₀,H₀,ex,rfl⟩:=hX;exact(jv 4))) (by exact(jh (yc (jif (zv (Ck hr.units) (jv 1) (Jg jd) (jE _)) (jR (Rf rfl) rfl Z.max (by decide +kernel) (jac (jv 2) jd)) jD)))))))) ?_;intro ds h Q q;obtain⟨T,n,b,e,hT,h1,h6,q⟩:=q;subst e;have ll:(jS T n).length<=1000:=P7 (Pd h6) (by decide);refine ji (λσ' h'=> ∃A v,σ'= [some (zo T),some (.lst A),none,v,none,none]/\Sub h h'/\h' A=some (((jS T n).map List.length).map λ(l:Nat)=>D.int (l:Int))) (λC hC=>ND ⟨_,rfl,T,n,b,rfl,hT,h1,h6,λA h2 nA kA sb=> ?_⟩) ?_
 ·refine lcA (j:=λh=>h A) (jS T n) jK (λW=> .int ((W.length:Nat):Int)) ll kA (λR r=>r) (λW hW Q' q'=>⟨_,rfl,?_⟩) (λp hp=>hC _ _ ⟨p,_,rfl,sb.newAt hp,?_⟩)
  ·show Q' (.int (((W.map λ(k:Nat)=>D.int (k:Int)).length:Nat):Int)) _;rw [G0];exact q'
  ·rw [jc,M9];rfl
 rintro _ h2 ⟨A,v,rfl,sb,kA⟩;refine ji (λσ' h'=> ∃B u v w,σ'= [some (zo T),some (.lst A),some (.lst B),u,v,w]/\Sub h h'/\h' A=some (((jS T n).map List.length).map λ(l:Nat)=>D.int (l:Int))/\h' B=some (((List.range 6).filter (XR ((jS T n).map List.length))).map λ(i:Nat)=>D.int (1+(i:Int)))) (λC hC=> ?_) ?_
 ·refine Bx (h1:=h2) ((List.range 6).map λ(k:Nat)=>D.int (1+(k:Int))) (λk ys h'=>h'=h2/\ys=(((List.range k).filter (XR ((jS T n).map List.length))).map λ(i:Nat)=>D.int (1+(i:Int)))) (by decide) (λR r=>⟨1,7,rfl,by decide,r⟩) ⟨rfl,rfl⟩ (λk ys h' w=> ?_) (λk d ys h' hd w=> ?_) (λys h' w p hp=> ?_)
  ·rw [w.2,G0];exact P7 (L7 _ _) (by rw [R5];exact G5 _)
  ·obtain⟨rfl,rfl⟩:=w;have hkl:=(P0.mp hd).1;have hk:k<6:=by rw [G0,R5] at hkl;exact hkl
   rw [P4,O9 hk] at hd;injection hd with hd
   subst hd;refine Ox (lcF (j:=λh=>h A) ((jS T n).map List.length) (λ(l:Nat)=> .int (l:Int)) (λ(l:Nat)=> .int (l:Int)) (λl=> !decide ((l:Int)%(1+(k:Int))=0)) (by rw [G0];exact ll) kA (λR r=>⟨_,rfl,r⟩) (λl hl Q' q'=>⟨_,rfl,_,rfl,by omega,_,rfl,q'⟩) (λl hl _ Q' q'=>⟨_,rfl,q'⟩) (λF eF=>⟨(by show 0<=sizeLine;decide),λG eG=>LH (jg jc eG) jc ⟨_,rfl,?_⟩⟩));have sb3:=Sub.newAt (L:=([]:List D)) (Sub.newAt (Sub.refl h') eF) eG;show if XR ((jS T n).map List.length) k=true then _ else _
   refine Wq (λz=> ?_) λz=> ?_
   ·refine⟨_,rfl,h',sb3,hkl,rfl,?_⟩;rw [C9,L5,S4,O4 z];rfl
   ·refine⟨h',sb3,hkl,rfl,?_⟩;rw [C9,L5,S4,O5 z,Z8,W4,B7]
  ·obtain⟨rfl,rfl⟩:=w;exact hC _ _ ⟨p,_,_,_,rfl,sb.newAt hp,jg kA hp,jc⟩
 clear sb kA;rintro _ h3 ⟨B,u,v,w,rfl,sb,kA,kB⟩;refine⟨_,rfl,(by show 0<=sizeLine;decide),λp e=>Ow (jg kA e) jc ⟨_,rfl,?_⟩⟩;have sb2:=Sub.newAt (L:=([]:List D)) sb e
 by_cases z:((jS T n).map List.length)= []
 ·rw [R1 z];refine Zr ⟨_,Sub.refl _,?_⟩;have q0:=q _ sb2;unfold yA at q0;rw [z] at q0;exact q0
 ·rw [R9 z];obtain⟨g1,g6⟩:=Ms h6 z;refine MO ⟨_,rfl,((List.range 6).filter (XR ((jS T n).map List.length))).map (λ(i:Nat)=>1+(i:Int)),_,?_,Sub.refl _,.inr ⟨B,rfl,jg (by rw [kB,M9];rfl) e⟩,λm m1 m2=>⟨_,Sub.refl _,?_⟩⟩
  ·intro w;have:=UF g1 g6;rw [List.map_eq_nil_iff] at w;rw [w] at this;cases this
  ·have em:m=((yA T n:Nat):Int):=by
    obtain⟨i,hi,rfl⟩:=R7.mp m1;have d:=goes_iff.mp (N0.mp hi).2;have le:=G1O (by exact g1) d;have ge:=m2 _ (X8 (UF g1 g6));show (1:Int)+(i:Int)=((((jS T n).map List.length).foldl Nat.gcd 0:Nat):Int);have ge:(1:Int)+(((((jS T n).map List.length).foldl Nat.gcd 0-1:Nat)):Int)<=1+(i:Int):=ge;have g1:1<=((jS T n).map List.length).foldl Nat.gcd 0:=g1;omega
   rw [em];exact q _ sb2
theorem By {a b:Int}{c:Bool}{Q:KD}(e:decide (a=b)=c)(q:Q (.bl c) h):eqD (.int a) (.int b) h Q:=by
 subst e;exact q
theorem Bz {m:Nat}(h:m<=6):ShowOk (.tuple [.str (Str.ofString "told"),.int (m:Int)]):=by
 have s: ∀k:Nat,k<7->(PyData.tuple [.str (Str.ofString "told"),.int (k:Int)]).showable=true/\(PyData.tuple [.str (Str.ofString "told"),.int (k:Int)]).depth<=60/\(PyData.tuple [.str (Str.ofString "told"),.int (k:Int)]).shown.length<=1000:=by decide +kernel
 obtain⟨a,b,c⟩:=s m (by omega);exact⟨a,b,P7 c (by decide)⟩
theorem BB:ShowOk (.tuple [.str (Str.ofString "apart")]):=⟨by decide +kernel,by decide +kernel,by decide +kernel⟩
theorem Oy (h6:n<=6):yA T n<=6:=by
 by_cases z:((jS T n).map List.length)= []
 ·unfold yA;rw [z];decide
 ·exact(Ms h6 z).2
def vZ:RDn:=λds h Q=> ∃T,∃n e:Nat,ds= [zo T]/\Sq n e T/\1<=n/\n<=6/\ ∀h',Sub h h'->Q (.bl true) h'
theorem Vc (Z:Zs mg)(B:Bm mg base)(a:PySem.W.nsIn K mainGlobals "_law_right" =some (some (.ref f)))(TX: ∃c P,PySem.W.tabIn K "_law_right" =some (c,P)/\PySem.W.codeHdIn K c P=true)(F:Fun K "_law_right" "_law_right" ww f fd)(Vd:jJ P w K mg base (n+2) "_law_pieces" ["_law_table_here"] yV)(XS:jJ P w K mg base (n+2) "_law_beat" ["_law_table_here"] JC)(XU:jJ P w K mg base (n+2) "_law_same" ["_law_found","_law_due"] Cn)(CT_beat:jJ P w K mg base n "beat" ["table"] Mr)(CR_beat:ZI P w K mg base n "beat" ["table"] Go)(CS:EZ P w K mg base n):FnOk P w K mg base CX0 ((n+2)+1) f fd ["_law_table_here"] (LSp K vZ):=by
 obtain⟨MC,PX,Vh,WF,WK,WN⟩:=Vd;obtain⟨BH,MY,XX,UQ,Xa,Xe⟩:=XS;obtain⟨BJ,Na,XZ,US,Xc,Xg⟩:=XU;obtain⟨g_GL_beat,gd_GL_beat,GL_beat,bGL_beat,kGL_beat,mGL_beat⟩:=CT_beat;obtain⟨SR,OR,OA,BE,BP,BR⟩:=CR_beat;obtain⟨gS,gdS,GS,bGS,kGS,mGS⟩:=CS;obtain⟨tc,tP,T,tH⟩:=TX;have hTK:TabK K tP:=⟨"_law_right",by decide,tc,T⟩;refine F.okJL a T wZ (λds h Q q=>by obtain⟨T,n,b,e,hT,h1,h6,q⟩:=q;subst e;rfl) _ (λA outer s H E hr=>(jf (wA (i:=1) wZ.nd rfl (Or.inl rfl) (jif (zv oq_eq (jR zM rfl Z.len B6 (jac (jL Vh hr rfl WN WK WF (jac (jv 0) jd)) jd)) jD (jE _)) (VR (jac WW (by exact(jac (jL XX hr rfl Xe Xa UQ (jac (jv 0) jd)) jd)))) (VR (jac WW jd)))) (by exact(jf (VS M7 rfl (yj rfl Z.range (jac jD jd)) (zh (i:=2) wZ.nd rfl (Or.inl rfl)) (jh (WY (vF (yn (jL XZ hr rfl Xg Xc US (jac (Hy GS hr rfl mGS kGS bGS B rfl tH hTK (EV rfl (by decide +kernel)) (Lo (by show EW _ (je ww)=true;decide +kernel)) (λ_ _ _ _ _ _ _ _ _ hr=>(jL GL_beat hr rfl mGL_beat kGL_beat bGL_beat (jac (jv 0) jd))) (λ_ _ _ _ _ _ _ _ _ hr=>(YI OA hr rfl BR BP BE (jac (jv 0) jd)))) (by exact(jac (jv 1) jd)))))) (jh (yc jbl)) zl))) (by exact(jh (yc jbl))))))) ?_;intro ds h Q q;obtain⟨T,n,b,e,hT,h1,h6,q⟩:=q;subst e;refine ji (λσ' h'=> ∃due,σ'= [some (zo T),some due,none]/\Sub h h'/\(((YT T n).length=1/\due= .tup [.str (Str.ofString "told"),.int ((yA T n:Nat):Int)])\/((YT T n).length≠1/\due= .tup [.str (Str.ofString "apart")]))) (λC hC=>⟨_,rfl,T,n,b,rfl,hT,h6,λA h2 nA kA sb=>⟨_,kA,?_⟩⟩) ?_
 ·rw [G0];have e:decide (((((YT T n).length:Nat):Int))=1)=decide ((YT T n).length=1):=by rw [C5,M6,M6];omega
  dsimp only [dC];refine By e ⟨_,rfl,Wq (λz=> ?_) λz=> ?_⟩
  ·exact⟨_,rfl,T,n,b,rfl,hT,h1,h6,λh3 sb3=>⟨(by show 2<=sizeLine;decide),hC _ _ ⟨_,rfl,λx y w=>sb3 _ _ (sb _ _ w),.inl ⟨N8 z,rfl⟩⟩⟩⟩
  ·exact⟨(by show 1<=sizeLine;decide),hC _ _ ⟨_,rfl,sb,.inr ⟨λw=>z (R1 w),rfl⟩⟩⟩
 rintro _ h2 ⟨due,rfl,sb,hd⟩;refine ji (λσ' h'=>Sub h h') (λC hC=> ?_) (λ_ h' sb=>⟨_,Sub.refl _,q h' sb⟩);refine zR 2 (λi σ' h'=> ∃u,σ'= [some (zo T),some due,u]/\Sub h h') (by decide) (λR r=>r) ⟨_,rfl,sb⟩ (λσ' h' ⟨_,_,z⟩=>hC _ _ z) ?_;clear sb;rintro i _ h3 hi ⟨u,rfl,sb⟩;rcases hd with ⟨one,rfl⟩|⟨no,rfl⟩
 ·refine .inl ⟨_,rfl,T,n,b,rfl,hT,h1,h6,one,?_⟩;exact⟨_,rfl,_,_,.tuple [.str (Str.ofString "told"),.int ((yA T n:Nat):Int)],rfl,⟨_,rfl,⟨_,_,rfl,rfl,⟨_,_,rfl,rfl,rfl⟩⟩⟩,⟨_,rfl,⟨_,_,rfl,rfl,⟨_,_,rfl,rfl,rfl⟩⟩⟩,Bz (Oy h6),_,rfl,Zr ⟨_,Sub.refl _,by omega,_,rfl,sb⟩⟩
 ·refine .inr ⟨_,rfl,_,rfl,.inr ⟨T,n,b,rfl,hT,h1,h6,no,by decide,?_⟩⟩;exact⟨_,rfl,_,_,.tuple [.str (Str.ofString "apart")],rfl,⟨_,rfl,⟨_,_,rfl,rfl,rfl⟩⟩,⟨_,rfl,⟨_,_,rfl,rfl,rfl⟩⟩,BB,_,rfl,Zr ⟨_,Sub.refl _,by omega,_,rfl,sb⟩⟩
theorem SN (Z:Zs mg)(F:Fun K "law" "law" Pk f fd)(UJ:jJ P w K mg base n "_law_right" ["_law_table_here"] vZ)(XT:jJ P w K mg base n "_law_cell" ["_law_script","_law_k"] Jz)(Pp:jJ P w K mg base n "_law_pen" ["_law_cell_here"] Wb)(vq:jJ P w K mg base n "_law_joined_table" ["_law_pen_here","_law_size_here"] zZ)(XV:jJ P w K mg base n "_law_size" ["_law_pen_here"] JB)(UK:jJ P w K mg base n "_law_table" ["_law_pen_here","_law_size_here"] zZ):FnOk P w K mg base CX0 (n+1) f fd ["_law_script"] (LSp K DN):=by
 obtain⟨MV,MG,zP,zw,zz,zA⟩:=UJ;obtain⟨BI,MZ,XY,UR,Xb,Xf⟩:=XT;obtain⟨CM,BN,Ps,Qc,Qm,Qp⟩:=Pp;obtain⟨UZ,VA,vt,yO,yP,yQ⟩:=vq;obtain⟨BK,Nb,We,JD,JH,JJ⟩:=XV;obtain⟨MW,MJ,UO,Vn,Vt,Vx⟩:=UK;refine F.okJ Gs (λds h Q q=>by obtain⟨ns,e,hh,hns,q⟩:=q;subst e;rfl) _ (λcdv A outer s H E hr=>(jf (WY (jpt (OL (vF (yn (jL zP hr rfl zA zz zw (jac (VR (jac (VR (jac jD jd)) jd)) jd)))) (OL (vF (yn (jL zP hr rfl zA zz zw (jac (VR (jac (VR (jac jD jd)) jd)) jd)))) (EG (vF (yn (jL zP hr rfl zA zz zw (jac (VR (jac (VR (jac jD (by exact(jac jD jd)))) (by exact(jac (VR (jac jD (by exact(jac jD jd)))) jd)))) jd)))))))) (jh (yc jbl)) zl) (by exact(jf (VS M7 rfl (FV (jop za (Jg (jac (jL XY hr rfl Xf Xb UR (jac (jv 0) (by exact(jac jD jd)))) jd)) (EI (jv 0) (DS jD) (DS jD)))) (zh (i:=1) Gs.nd rfl (Or.inl rfl)) (jf (wA (i:=2) Gs.nd rfl (Or.inl rfl) (jL Ps hr rfl Qp Qm Qc (jac (jv 1) jd))) (by exact(jf (VS M7 rfl (yj rfl Z.range (jac jD jd)) (zh (i:=3) Gs.nd rfl (Or.inl rfl)) (jh (WY (vF (yn (jL zP hr rfl zA zz zw (jac (jL vt hr rfl yQ yP yO (jac (jv 2) (by exact(jac (jL We hr rfl JJ JH JD (jac (jv 2) jd)) jd)))) jd)))) (jh (yc jbl)) zl))) (by exact(jh (WY (vF (yn (jL zP hr rfl zA zz zw (jac (jL UO hr rfl Vx Vt Vn (jac (jv 2) (by exact(jac (jL We hr rfl JJ JH JD (jac (jv 2) jd)) jd)))) jd)))) (jh (yc jbl)) zl))))))) (by exact(jh (yc jbl))))))) ?_;intro ds h Q q;obtain⟨ns,e,hh,hns,q⟩:=q;subst e;have hA:Sq 1 3 [[(0:Int)]]:=⟨by decide,by decide,by decide,by decide⟩;have hA4:Sq 1 3 [[(4:Int)]]:=⟨by decide,by decide,by decide,by decide⟩;have hB:Sq 2 3 [[(0:Int),1],[0,0]]:=⟨by decide,by decide,by decide,by decide⟩;refine ji (λσ' h'=>σ'= [some (.scr ns),none,none,none]/\True) (λC hC=>⟨(by show 1<=sizeLine;decide),(by show 1<=sizeLine;decide),[[0]],1,3,rfl,hA,by decide,by decide,λh' sb=>⟨_,rfl,Zr ⟨(by show 1<=sizeLine;decide),(by show 1<=sizeLine;decide),[[4]],1,3,rfl,hA4,by decide,by decide,λh' sb=>⟨_,rfl,Zr ⟨(by show 2<=sizeLine;decide),(by show 2<=sizeLine;decide),(by show 2<=sizeLine;decide),[[0,1],[0,0]],2,3,rfl,hB,by decide,by decide,λh' sb=>⟨_,rfl,Zr (hC _ _ ⟨rfl,True.intro⟩)⟩⟩⟩⟩⟩⟩) ?_;rintro _ h ⟨rfl,_⟩;refine ji (λσ' h'=>True) (λC hC=> ?_) (λσ' h3 hV=>⟨h3,Sub.refl _,q h3⟩);refine⟨_,rfl,ns,0,rfl,(by decide),λn0=>⟨(by show 1<=sizeLine;decide),λp1 e1=>⟨_,rfl,_,rfl,_,rfl,λp2 e2=>⟨_,_,jg jc e2,jc,?_,λp3 e3=>⟨p3,rfl,?_⟩⟩⟩⟩⟩
 ·have:(GD ns (some 1) (some 5)).length<=ns.length:=by unfold GD;rw [List.length_take,List.length_drop];omega
  rw [G0];exact D4 (jA (by simp only [P6,S8];omega))
 generalize hcs:([D.int n0]++(GD ns (some 1) (some 5)).map D.int)=cs;have hint: ∀d∈cs,∃c,d= .int c:=λd hd=>by
  rw [<-hcs] at hd;rcases D1.mp hd with z|z
  ·exact⟨n0,G7.mp z⟩
  ·obtain⟨x,_,e⟩:=R7.mp z;exact⟨x,e.symm⟩
 refine VO cs (λi σ' h'=> ∃a1 a2 a3,σ'= [some (.scr ns),a1,a2,a3]/\h' p3=some cs) (λi σ' h' ⟨_,_,_,_,k⟩=>k) ⟨_,_,_,rfl,jc⟩ (λσ' h' _=>hC _ _ True.intro) ?_;rintro i d _ h4 hi ⟨b1,b2,b3,rfl,k3⟩;obtain⟨c,rfl⟩:=hint d (G9 hi);have hil:i<cs.length:=(P0.mp hi).1;show Nx _ _ _ [some (.scr ns),some (.int c),b2,b3] h4;refine ji (λσ' h'=> ∃p l fl,σ'= [some (.scr ns),some (.int c),some (.lst p),b3]/\h' p=some [.int l,.int fl]/\0<=l/\h' p3=some cs/\p3≠p) (λC hC=> ?_) ?_
 ·refine⟨_,rfl,c,rfl,λp l fl ep l0 _=>hC _ _ ⟨p,l,fl,rfl,jc,l0,jg k3 ep,Ne.symm (jy k3 ep)⟩⟩
 rintro _ h5 ⟨p,l,fl,rfl,kp,l0,k3,n3⟩;refine ji (λσ' h'=> ∃b3 l2,σ'= [some (.scr ns),some (.int c),some (.lst p),b3]/\h' p=some [.int l2,.int fl]/\0<=l2/\h' p3=some cs) (λC hC=> ?_) ?_
 ·refine zR 3 (λi σ' h'=> ∃b3 l2,σ'= [some (.scr ns),some (.int c),some (.lst p),b3]/\h' p=some [.int l2,.int fl]/\0<=l2/\h' p3=some cs) (by decide) (λR r=>r) ⟨_,l,rfl,kp,l0,k3⟩ (λσ' h' z=>hC _ _ z) ?_;clear kp l0 k3;rintro t _ h6 ht ⟨b3',l2,rfl,kp,l20,k3⟩;exact⟨_,rfl,_,rfl,p,l2,fl,rfl,kp,l20,λn l3 n1 n6 l30=>⟨p,l3,fl,n,rfl,jc,l30,n1,n6,λT l4 gT l40=>⟨T,n,20,rfl,gT.sq,n1,n6,λh' sb=>⟨_,rfl,Zr ⟨_,Sub.refl _,by omega,_,l4,rfl,sb _ _ jc,l40,sb _ _ (jj n3 (jj n3 k3))⟩⟩⟩⟩⟩
 clear kp l0 k3;rintro _ h7 ⟨c3,l2,rfl,kp,l20,k3⟩;exact⟨_,rfl,_,rfl,p,l2,fl,rfl,kp,l20,λn l3 n1 n6 l30=>⟨p,l3,fl,n,rfl,jc,l30,n1,n6,λT l4 gT l40=>⟨T,n,20,rfl,gT.sq,n1,n6,λh' sb=>⟨_,rfl,Zr ⟨_,Sub.refl _,by omega,_,_,_,rfl,sb _ _ (jj n3 (jj n3 k3))⟩⟩⟩⟩⟩
end
theorem SO {l:PySem.W.OpenLaw}{w:World}{K:PySem.W.Frag}{h:Heap}{mg:Str->Option Value}{fa:Addr}(X:K.In h)(G:h.Ns mainGlobals mg)(hfa:mg "law" =some (.ref fa))
 {f0:Addr}{e0:FuncData}(d0:DefIn K "is_whole" Jp f0 e0)
 {f1:Addr}{e1:FuncData}(d1:DefIn K "is_table_row" wC f1 e1)
 {f2:Addr}{e2:FuncData}(d2:DefIn K "has_table_form" zT f2 e2)
 {f3:Addr}{e3:FuncData}(d3:DefIn K "want_table" wv f3 e3)
 {f4:Addr}{e4:FuncData}(d4:DefIn K "reaches" ZX f4 e4)
 {f5:Addr}{e5:FuncData}(d5:DefIn K "pieces_by" vg f5 e5)
 {f6:Addr}{e6:FuncData}(d6:DefIn K "pieces" Zg f6 e6)
 {f7:Addr}{e7:FuncData}(d7:DefIn K "joined" Zh f7 e7)
 {f8:Addr}{e8:FuncData}(d8:DefIn K "heads" XL f8 e8)
 {f9:Addr}{e9:FuncData}(d9:DefIn K "greatest_into" wn f9 e9)
 {f10:Addr}{e10:FuncData}(d10:DefIn K "all_rounds" yr f10 e10)
 {f11:Addr}{e11:FuncData}(d11:DefIn K "beat" Gj f11 e11)
 {f12:Addr}{e12:FuncData}(d12:DefIn K "_law_cell" vh f12 e12)
 {f13:Addr}{e13:FuncData}(d13:DefIn K "_law_pen" Jq f13 e13)
 {f14:Addr}{e14:FuncData}(d14:DefIn K "_law_draw" vj f14 e14)
 {f15:Addr}{e15:FuncData}(d15:DefIn K "_law_kind" vk f15 e15)
 {f16:Addr}{e16:FuncData}(d16:DefIn K "_law_said" vm f16 e16)
 {f17:Addr}{e17:FuncData}(d17:DefIn K "_law_same" vn f17 e17)
 {f18:Addr}{e18:FuncData}(d18:DefIn K "_law_size" vo f18 e18)
 {f19:Addr}{e19:FuncData}(d19:DefIn K "_law_table" yt f19 e19)
 {f20:Addr}{e20:FuncData}(d20:DefIn K "_law_after" yu f20 e20)
 {f21:Addr}{e21:FuncData}(d21:DefIn K "_law_order" yw f21 e21)
 {f22:Addr}{e22:FuncData}(d22:DefIn K "_law_far" Jr f22 e22)
 {f23:Addr}{e23:FuncData}(d23:DefIn K "_law_pieces" wQ f23 e23)
 {f24:Addr}{e24:FuncData}(d24:DefIn K "_law_joined_table" zj f24 e24)
 {f25:Addr}{e25:FuncData}(d25:DefIn K "_law_rounds" wR f25 e25)
 {f26:Addr}{e26:FuncData}(d26:DefIn K "_law_beat" vp f26 e26)
 {f27:Addr}{e27:FuncData}(d27:DefIn K "_law_right" ww f27 e27)
 {f28:Addr}{e28:FuncData}(d28:DefIn K "law" Pk f28 e28)
 {tk0:Tok}(v0:PySem.W.nsIn K mainGlobals "MOST_ROWS" =some (some (.int 6 tk0)))
 (z:zsB K=true)
 (ex:Hz K=true)
 (tb0:Lq K "_law_right" =true)
 : ∃fd:FuncData,(∀ (s:Shared) (v:Value),BindsTo s fd ⟨[v],[]⟩ [("_law_script",v)])/\ ∀base:Heap,K.In base->base.Ns mainGlobals mg->Bm mg base->FnOk l.prog w K mg base CX0 11 fa fd ["_law_script"] (LSp K DN):=by
 have e:=hfa.symm.trans (d28.nm X G);cases e;have vw: ∃tk,mg "MOST_ROWS" =some (.int 6 tk):=⟨_,PySem.W.mg_of X G v0⟩;have Z:=HJ X G z;have Ex:Exc K mg:=EY X G ex;have Vk:=Lr tb0;obtain⟨_,_,kV,dc,pm,an,cd,ct,_,rfl,_⟩:=d28.fn.ex;refine⟨PySem.W.fnOf "law" "law" (yk Pk) (jX Pk) (je Pk) .none kV dc pm an cd ct,λs v=> .of_eq rfl,λbase _ _ B=> ?_⟩;have PB:=λn=>d0.cal l w base X G (XM (n:=n+0) Z d0.fn)
 have WH:=λn=>d1.cal l w base X G (ZZ (n:=n+1) Z d1.fn (PB (n+0)))
 have yg:=λn=>d2.cal l w base X G (Js (n:=n+2) Z d2.fn (WH (n+0)) vw)
 have JF:=λn=>d3.cal l w base X G (YW (n:=n+3) Z d3.fn (yg (n+0)))
 have Xi:=λn=>d3.rai l w base X G (Wz (n:=n+3) Z Ex d3.fn (yg (n+0)))
 have Mz:=λn=>d4.cal l w base X G (Pl (n:=n+0) Z d4.fn)
 have Qj:=λn=>d5.cal l w base X G (Uz (n:=n+0) Z d5.fn)
 have BG:=λn=>d6.cal l w base X G (Mo (n:=n+4) Z d6.fn (JF (n+0)) (Qj (n+3)) (Mz (n+3)))
 have BU:=λn=>d6.rai l w base X G (Pm (n:=n+4) Z Ex d6.fn (Xi (n+0)))
 have Gp:=λn=>d7.cal l w base X G (Mp (n:=n+5) Z d7.fn (BG (n+0)))
 have BT:=λn=>d7.rai l w base X G (Pn (n:=n+5) Z Ex d7.fn (BU (n+0)))
 have OC:=λn=>d8.cal l w base X G (Bv (n:=n+0) Z d8.fn)
 have Wi:=λn=>d9.cal l w base X G (JP (n:=n+0) Z d9.fn)
 have UY:=λn=>d10.cal l w base X G (YX (n:=n+4) Z d10.fn (JF (n+0)) (OC (n+3)))
 have SQ:=λn=>d11.cal l w base X G (Ou (n:=n+6) Z d11.fn (Gp (n+0)) (UY (n+1)) (Wi (n+5)))
 have ST:=λn=>d11.rai l w base X G (Bw (n:=n+6) Z Ex d11.fn (Gp (n+0)) (BT (n+0)))
 have Qg:=λn=>d12.cal l w base X G (UB (n:=n+0) Z d12.fn)
 have Pz:=λn=>d13.cal l w base X G (XN (n:=n+0) Z d13.fn)
 have wU:=λn=>d14.cal l w base X G (UC (n:=n+0) Z d14.fn)
 have u_kind: ∀n,Rl l.prog w K mg base (n+1) "_law_kind" ["_law_e"] (Rq mg):=λn=>⟨_,_,YY (n:=n) Z Ex d15.fn,d15.fn.binds (ps:= ["_law_e"]) λ_ _ _ _ _ _ us hl=>match us,hl with| [_],_=>rfl,d15.fn.kp,d15.nm X G⟩
 have s_said: ∀n,EZ l.prog w K mg base (n+1):=λn=>⟨_,_,Ov (n:=n+1) Z Ex d16.fn (u_kind n),d16.fn.binds (ps:= ["_law_call"]) λ_ _ _ _ _ _ us hl=>match us,hl with| [_],_=>rfl,d16.fn.kp,d16.nm X G⟩
 have Qh:=λn=>d17.cal l w base X G (UD (n:=n+0) Z d17.fn)
 have Qi:=λn=>d18.cal l w base X G (UE (n:=n+1) Z d18.fn (wU (n+0)))
 have UX:=λn=>d19.cal l w base X G (YZ (n:=n+1) Z d19.fn (wU (n+0)))
 have UU:=λn=>d20.cal l w base X G (Va (n:=n+0) Z d20.fn)
 have UV:=λn=>d21.cal l w base X G (Vb (n:=n+1) Z d21.fn (wU (n+0)))
 have Py:=λn=>d22.cal l w base X G (XO (n:=n+1) Z d22.fn (UU (n+0)))
 have Vp:=λn=>d23.cal l w base X G (WA (n:=n+2) Z d23.fn (Py (n+0)))
 have vx:=λn=>d24.cal l w base X G (yN (n:=n+2) Z d24.fn (UV (n+0)) (wU (n+1)))
 have Vq:=λn=>d25.cal l w base X G (WB (n:=n+0) Z d25.fn)
 have Qf:=λn=>d26.cal l w base X G (UG (n:=n+1) Z d26.fn (Vq (n+0)))
 have UW:=λn=>d27.cal l w base X G (Vc (n:=n+7) Z B d27.at_ Vk d27.fn (Vp (n+6)) (Qf (n+7)) (Qh (n+8)) (SQ (n+0)) (ST (n+0)) (s_said (n+6)))
 exact SN (n:=10) Z d28.fn (UW 0) (Qg 9) (Pz 9) (vx 7) (Qi 8) (UX 8)
end My
namespace PySem.W.Fast
def tw17416167438258104492:=()
def tw1229813937969114817:=()
def tw17618650882706561612:=()
def tw14839791862106491831:=()
def tw3373635323016420803:=()
def tw16571870340070275408:=()
def tw13914757498707675783:=()
def tw406727905857066313:=()
def tw10580524602367908996:=()
def tw11730703547304155185:=()
def tw16885266396777345758:=()
def tw16478353483256539287:=()
def tw15736346893296960844:=()
def tw16929250241038559926:=()
def tw9596854289126193609:=()
def tw4604322866488179971:=()
def tw1580922658545730645:=()
def tw14504083214121436296:=()
def tw18377156483138837655:=()
def tw6162295277176636771:=()
def tw16006426116068030837:=()
def tw5418500878892958052:=()
def tw13689420352365932540:=()
def tw10069797850140908870:=()
def tw1190482500172041413:=()
def tw14454924695462128499:=()
def tw18369506224109625750:=()
def tw15571307312934451692:=()
def tw14061905407223487147:=()
def tw9972374964656791817:=()
def tw7155588715882143247:=()
def tw16897711336642678542:=()
def tw9127186573855428506:=()
def tw5521470658450543445:=()
def tw7543869000971303294:=()
def tw7266565787254991957:=()
def tw16384580470718376501:=()
def tw15975389330690715735:=()
def tw7994106983678512467:=()
def tw5876685690598389965:=()
def tw3152743764955168714:=()
def tw6455950098059315503:=()
def tw10793662148060102064:=()
def tw732773709607765639:=()
def tw18248958615954743058:=()
def tw16908544244024027278:=()
def tw7259914162698034238:=()
def tw13646628774646493892:=()
def tw8593563597441687475:=()
def tw9934017910437659552:=()
def tw14585662462704811426:=()
def tw12904205731839489333:=()
def tw614664744726723548:=()
def tw9332414072220181073:=()
def tw10932374271001149596:=()
def tw16297829006506236427:=()
def tw1666719440268749072:=()
def tw2918002271125005513:=()
def tw11391315112280922728:=()
def tw14426956381540971353:=()
def tw2986756299193634053:=()
def tw15517547618672716548:=()
def tw12241484571502405758:=()
def tw4082566081399058966:=()
def tw17491379005421665860:=()
def tw10868635086887443117:=()
def tw2399709564186512530:=()
def tw12208660582433634438:=()
def tw6307936287644585801:=()
def tw18103366486573698610:=()
def tw10990238776183877373:=()
def tw9148684774481886315:=()
def tw12214079128196549110:=()
def tw8021052662276055938:=()
def tw15045180078348816141:=()
def tw15146737781860658975:=()
def tw3939810494267648680:=()
def tw14100666465512545747:=()
def tw9824232173972388227:=()
def tw173524217114696186:=()
def tw17319100360297317272:=()
def tw3611506399382187395:=()
def tw15756183673824545490:=()
def tw3419685006304607453:=()
def tw18293843015505476697:=()
def tw12324913650031535541:=()
def tw2694554340572884520:=()
def tw13105582453190196746:=()
def tw4220108889492712740:=()
def tw3180727086257452192:=()
def tw7877817399609652830:=()
def tw6503432167131069380:=()
def tw18360917292516177182:=()
def tw2137441314285669827:=()
def tw13053254917884357440:=()
def tw13427858473156643989:=()
def tw8141348841001026752:=()
def tw316110652640265200:=()
def tw1872691481159118117:=()
def tw4017325709446748099:=()
def tw11969141138718328734:=()
def tw8192681131499702004:=()
def tw11594480396824707426:=()
def tw16343038720186395732:=()
def tw222273451235123885:=()
def tw12446597323528226308:=()
def tw12590937870061930972:=()
def tw500746729100792677:=()
def tw9654991078843722624:=()
def tw5545241343890971480:=()
def tw2847586671096045943:=()
def tw13515183091250292183:=()
def tw11906006986240633885:=()
def tw6852304645983266186:=()
def tw14617282369020853452:=()
def tw3684759488755280449:=()
def tw1300031219047486256:=()
def tw1567694031213592908:=()
def tw3939718910752719481:=()
def tw2078115062243341607:=()
def tw10089361126443940384:=()
def tw15124597195268219971:=()
def tw13966729958792360714:=()
def tw11648327681976393280:=()
def tw390167145501216664:=()
def tw15438253860965224863:=()
def tw6300027298135108405:=()
def tw134693226276345246:=()
def tw10919096384420778437:=()
def tw6443178047147749523:=()
def tw6602755412181904067:=()
def tw4105751439407874998:=()
def tw16937142494753502474:=()
def tw10923836309396787695:=()
def tw6684007568988990025:=()
def tw844440191694833595:=()
def tw2967455206353415856:=()
def tw4017448257456883117:=()
def tw6889350523649085222:=()
def tw12749372271983765068:=()
def tw2991253749538503632:=()
def tw7110909983465569281:=()
def tw3124439761703910419:=()
def tw16377076139773954951:=()
def tw16447745357354565449:=()
def tw14411015169827672874:=()
def tw15966218472963559691:=()
def tw2667700599207933454:=()
def tw3433708487907015748:=()
def tw14872699706939749692:=()
def tw9656698897700303127:=()
def tw15701638552981035448:=()
def tw12710328466661734845:=()
def tw17412880159047923386:=()
def tw5054606383729346591:=()
def tw2463238864679115541:=()
def tw15707146324693882930:=()
def tw9377939210554101605:=()
def tw10925442324957578563:=()
def tw12148713451522483015:=()
def tw6218815043201015376:=()
def tw16700811612904648755:=()
def tw16235640652930885616:=()
def tw14696785428565191299:=()
def tw4987729478649474883:=()
def tw3449920674953232879:=()
def tw11497326623802289525:=()
def tw15057689535580859862:=()
def tw3492596113650833908:=()
def tw17322108082584526357:=()
def tw7294978478132418997:=()
def tw15480283362052220862:=()
def tw6312847831281652105:=()
def tw15500390168592036509:=()
def tw1903755489134579407:=()
def tw12166687712392474413:=()
def tw1090351061315029775:=()
def tw15595379941274844851:=()
def tw5265368089177164890:=()
def tw7418216370534021909:=()
end PySem.W.Fast
open PySem PySem.W PyProof.Rows
set_option maxRecDepth 100000 in
set_option maxHeartbeats 0 in
theorem PySem.Challenge.cw_firstpowers_k27_the_beat_holds : PySem.Challenge.rw_firstpowers_k27_the_beat.Holds := by
  w_on; o_law; k_head; (case hw => w_witness2)
  k_fill
  refine L2.NB (l := PySem.Challenge.rw_firstpowers_k27_the_beat) (k := 11) (x := "_law_script") rfl rfl ⟨rfl, by decide, by decide, rfl⟩ (fun w h Y => PySem.W.km_in_of Y) ?B ?F
  case B => intro w; kernel_rfl
  case F =>
    intro w mg fa h KX G hmg
    refine' My.SO KX G hmg ?d0 ?d1 ?d2 ?d3 ?d4 ?d5 ?d6 ?d7 ?d8 ?d9 ?d10 ?d11 ?d12 ?d13 ?d14 ?d15 ?d16 ?d17 ?d18 ?d19 ?d20 ?d21 ?d22 ?d23 ?d24 ?d25 ?d26 ?d27 ?d28 ?v0 ?z ?ex ?tb0
    case d0 | d1 | d2 | d3 | d4 | d5 | d6 | d7 | d8 | d9 | d10 | d11 | d12 | d13 | d14 | d15 | d16 | d17 | d18 | d19 | d20 | d21 | d22 | d23 | d24 | d25 | d26 | d27 | d28 => refine' L2.SK ?a ?l ?c ?k; (case a => k_is); (case l => k_is); (case c => k_is); (case k => k_is)
    case v0 => k_is
    case z | ex | tb0 => kernel_rfl
