import PyProof.Rows.All
import Wide.All
import OpenK.AllK
import Wide.FinOn
import Lean
import PyProof.EqAt
import PyProof.EqKinds
import PyProof.TupleCall
import PyProof.Rows.TopTwo
import KE.KIsAll
import PyProof.ExcAttrAll.ValueError
import KE.KTryMore
import KE.KRevIter
import PyProof.SetRoads
import PySem.Challenge.RW_firstpowers_k37_why_first
set_option Elab.async false
set_option linter.all false
set_option maxRecDepth 100000
set_option maxHeartbeats 8000000
abbrev G0:= @List.getElem?_eq_getElem
abbrev G1:= @PySem.Heap.get?_push_of_some
abbrev G2:= @List.length_map
abbrev G3:= @List.getElem?_eq_some_iff
abbrev G5:= @List.mem_of_getElem?
abbrev G6:= @Nat.le_refl
abbrev G7:= @List.mem_singleton
abbrev G8:= @List.length_append
abbrev G9:= @PySem.wpAny_pure
abbrev P0:= @decide_eq_true
abbrev P1:= @List.getElem?_map
abbrev P2:= @List.append_assoc
abbrev P3:= @PySem.Heap.lt_size
abbrev P4:= @List.mem_cons
abbrev P5:= @List.size_toArray
abbrev P6:= @Bool.false_ne_true
abbrev P7:= @List.getElem?_append_right
abbrev P8:= @List.length_range
abbrev P9:= @PySem.Heap.get?_push_size
abbrev D0:= @List.mem_cons_of_mem
abbrev D1:= @List.mem_range
abbrev D2:= @List.length_cons
abbrev D3:= @Nat.lt_of_lt_of_le
abbrev D4:= @List.mem_cons_self
abbrev D5:= @List.mem_append_right
abbrev D6:= @List.mem_append
abbrev D7:= @Nat.le_of_lt
abbrev D8:= @PySem.wpAny_mono
abbrev D9:= @List.getD_eq_getElem?_getD
abbrev R0:= @List.length_take
abbrev R1:= @Nat.ne_of_lt
abbrev R3:= @List.mem_map
abbrev R4:= @decide_eq_false
abbrev R5:= @List.all_eq_true
abbrev R6:= @List.length_reverse
abbrev R7:= @List.take_append_drop
abbrev R8:= @List.take_of_length_le
abbrev R9:= @List.map_cons
abbrev S0:= @List.getElem?_append_left
abbrev S1:= @Nat.le_trans
abbrev S2:= @List.pairwise_append
abbrev S3:= @List.map_map
abbrev S4:= @List.length_nil
abbrev S5:= @PySem.boot_len
abbrev S6:= @List.length_drop
abbrev S7:= @Option.some.inj
abbrev S8:= @List.not_mem_nil
abbrev S9:= @List.getElem_mem
abbrev T0:= @PySem.PassesOwn.never
abbrev T1:= @Array.length_toList
abbrev T3:= @Array.toList_append
abbrev T4:= @PyProof.Rows.callWith_type1
abbrev T5:= @Nat.zero_le
abbrev T6:= @Nat.lt_irrefl
abbrev T7:= @of_decide_eq_true
abbrev T8:= @List.nil_append
abbrev T9:= @List.mem_of_mem_drop
abbrev M0:= @Array.getElem?_toList
abbrev M1:= @List.take_add_one
abbrev M5:= @List.map_congr_left
abbrev M6:= @List.getElem?_range
abbrev M7:= @List.drop_eq_nil_of_le
abbrev M8:= @List.mem_append_left
abbrev M9:= @List.mem_of_mem_take
abbrev N0:= @Bool.and_eq_true
abbrev N2:= @List.lookup_cons
abbrev N3:= @decide_eq_true_eq
abbrev N4:= @PyProof.Rows.boot_all
abbrev N5:= @PySem.mem_of_lookup
abbrev N6:= @Function.comp_apply
abbrev N7:= @List.pairwise_singleton
abbrev N8:= @List.getElem?_cons_zero
abbrev N9:= @Bool.eq_iff_iff
abbrev B0:= @List.cons_append
abbrev B1:= @List.map_append
abbrev B2:= @PySem.wpAny_truthy_bool
abbrev B3:= @List.getElem?_set_ne
abbrev B6:= @Nat.lt_of_le_of_ne
abbrev B7:= @List.getElem?_eq_none
abbrev B8:= @PySem.wpAny_holding
abbrev B9:= @PySem.W.kia_one
abbrev C0:= @PySem.wpAny_execs_cons
abbrev C4:= @PySem.wpAny_call_entry
abbrev C5:= @Option.isSome_iff_exists
abbrev C6:= @List.mem_filter
abbrev C7:= @List.append_nil
abbrev C8:= @PySem.wpAny_callSpecial?_slot
abbrev C9:= @Nat.lt_of_le_of_lt
abbrev F4:= @Nat.pow_le_pow_right
abbrev F7:= @Nat.ne_of_gt
abbrev F8:= @Nat.lt_succ_self
abbrev F9:= @List.mem_reverse
abbrev H0:= @PyProof.Rows.slot_tuple_getitem
abbrev L0:= @List.replicate_succ
abbrev L5:= @List.drop_sublist
abbrev L6:= @Nat.lt_of_succ_lt
abbrev L7:= @List.reverse_perm
abbrev L8:= @List.getElem_of_mem
abbrev L9:= @Option.some.injEq
abbrev O0:= @Classical.byContradiction
abbrev O3:= @List.length_singleton
abbrev O4:= @List.all_map
abbrev O5:= @List.getElem?_reverse
abbrev O6:= @List.getElem?_take_of_lt
abbrev O7:= @PySem.wpAny_pyIter_tuple
abbrev O8:= @List.idxOf_lt_length_iff
abbrev O9:= @List.drop_append_of_le_length
abbrev A1:= @List.take_append_of_le_length
abbrev A2:= @PySem.wpAny_pyIter_list
abbrev A3:= @List.pairwise_map
abbrev A4:= @List.range_succ
abbrev A5:= @exists_eq_left'
abbrev A6:= @List.getElem?_set_self
abbrev A7:= @PySem.F.slot_tuple_iterator_next
abbrev A8:= @List.any_eq_true
abbrev A9:= @PySem.wpAny_Call_Name_kw
abbrev E1:= @List.map_nil
abbrev E2:= @Nat.le_of_eq
abbrev E3:= @Decidable.byContradiction
abbrev E4:= @List.pairwise_iff_getElem
abbrev E5:= @List.drop_drop
abbrev E6:= @PySem.W.hideAll_none
abbrev E7:= @Array.toList_extract
abbrev E8:= @PySem.wpAny_newObj_type
abbrev E9:= @PySem.wpAny_passesOwn
abbrev I0:= @List.of_mem_zip
abbrev J0:= @List.take_sublist
abbrev J4:= @List.flatten_cons
abbrev J5:= @Nat.zero_add
abbrev J6:= @PySem.W.hideAll_get
abbrev J7:= @List.length_eq_zero_iff
abbrev J8:= @List.getElem?_cons_succ
abbrev J9:= @Nat.min_le_right
abbrev K0:= @PySem.W.cellsFrom_some
abbrev K1:= @List.range_succ_eq_map
abbrev K2:= @List.mem_filterMap
abbrev K3:= @List.zip_cons_cons
abbrev K4:= @or_false
abbrev K5:= @PyProof.Rows.boot_isinstance
abbrev K6:= @List.getElem_idxOf
abbrev K7:= @List.pairwise_cons
abbrev K8:= @List.getElem?_drop
abbrev K9:= @PySem.wpAny_execs_nil
abbrev Q0:= @List.nodup_cons
abbrev Q1:= @PySem.Heap.get?_update_self
abbrev Q4:= @List.length_filter_le
abbrev Q5:= @List.perm_append_comm
abbrev Q6:= @Nat.le_add_left
abbrev Q7:= @Nat.lt_succ_of_lt
abbrev Q8:= @Std.Legacy.Range.forIn_eq_forIn_range'
abbrev Q9:= @List.sum_cons
abbrev U0:= @Array.toList_push
abbrev U1:= @Bool.eq_false_iff
abbrev U2:= @List.ext_getElem?
abbrev U3:= @PySem.wpAny_newFunctionEnv_cells
abbrev U4:= @PySem.Heap.size_push
abbrev U5:= @Nat.le_add_right
abbrev U6:= @beq_eq_false_iff_ne
abbrev U7:= @Int.le_refl
abbrev U8:= @PySem.Heap.SameBut.update
abbrev U9:= @List.length_pos_iff
abbrev V0:= @Nat.add_le_add_left
abbrev V1:= @PySem.F.args_tuple_add_2
abbrev V2:= @beq_iff_eq
abbrev V3:= @PySem.AutoSeq1.wpAny_loadPart'
abbrev V4:= @PySem.Calls.spliced_cons
abbrev V5:= @List.getElem?_replicate
abbrev V6:= @PySem.F.entry_tuple_add
abbrev V7:= @List.forIn_cons
abbrev V8:= @PySem.F.plainAttrs_list
abbrev V9:= @Nat.add_assoc
abbrev W0:= @List.length_zip
abbrev W1:= @List.filter_append
abbrev W3:= @Nat.min_eq_left
abbrev W4:= @Nat.pos_of_ne_zero
abbrev W5:= @PySem.F.slot_tuple_add
abbrev W6:= @Option.map_eq_some_iff
abbrev W7:= @PySem.wpAny_call
abbrev W8:= @List.getElem?_set
abbrev W9:= @Nat.lt_of_succ_le
abbrev X0:= @Nat.not_lt
abbrev X1:= @List.flatMap_cons
abbrev X2:= @Function.comp_def
abbrev X3:= @PySem.wpAny_pyIter_enum
abbrev X4:= @Nat.succ_le_of_lt
abbrev X5:= @Nat.sub_lt
abbrev X6:= @PySem.codeAny_mono
abbrev X7:= @PySem.codeAny_call_function
abbrev X8:= @PySem.F.slot_tuple_lt
abbrev X9:= @Nat.add_comm
abbrev Y0:= @Nat.lt_trans
abbrev Y1:= @List.pairwise_reverse
abbrev Y2:= @List.take_length
abbrev Y3:= @Nat.succ_le_succ
abbrev Y4:= @List.eq_nil_of_length_eq_zero
abbrev Y5:= @PySem.wpAny_loadName_local
abbrev Y6:= @PySem.Around.frames_deeper
abbrev Y7:= @PySem.Calls.evalArgs_plain
abbrev Y8:= @PySem.codeAny_call_builtin
abbrev Y9:= @Array.toList_reverse
abbrev Z0:= @PySem.wpAny_standAt
abbrev Z4:= @PySem.F.args_tuple_iterator_next_1
abbrev Z5:= @Bool.true_and
abbrev Z6:= @PySem.wpAny_rule
abbrev Z7:= @PySem.F.slot_int_rmul
abbrev Z8:= @Bool.or_eq_true
abbrev Z9:= @List.flatMap_append
abbrev G0a:= @PySem.F.entry_tuple_iterator_next
abbrev G0b:= @List.map_id
abbrev G0c:= @Nat.add_sub_cancel'
abbrev G0d:= @PySem.Heap.get?_update_ne
abbrev G0e:= @Int.natCast_sub
abbrev G0f:= @Int.emod_nonneg
abbrev G0g:= @PySem.Calls.Name_function_global
abbrev G0h:= @Int.fdiv_eq_ediv_of_nonneg
abbrev G0i:= @Int.fmod_eq_emod_of_nonneg
abbrev G0j:= @Array.isEmpty_eq_false_iff
abbrev G0k:= @PySem.wpAny_letOwnedTupleGo_enum
abbrev G0l:= @Array.getElem?_eq_none_iff
abbrev G0m:= @Array.getElem?_eq_some_iff
abbrev G0n:= @Array.toList_setIfInBounds
abbrev G0o:= @PySem.W.of_hideAll
abbrev G0p:= @PyProof.Rows.assignInOrder_cons
abbrev G0q:= @PySem.W.callWith_K
abbrev G0r:= @PySem.W.codeRec_of
abbrev G0s:= @List.any_map
abbrev G0t:= @Nat.mul_succ
abbrev G0u:= @Int.emod_lt_of_pos
abbrev G0v:= @PySem.wpAny_binaryOp_repeat_ref
abbrev G0w:= @List.drop_zero
abbrev G0x:= @List.drop_eq_getElem_cons
abbrev G0y:= @List.getElem?_eq_none_iff
abbrev G0z:= @PySem.wpAny_Assign_Name
abbrev G0A:= @PySem.Calls.spliced_nil
abbrev G0B:= @List.zip_nil_left
abbrev G0C:= @PySem.call_meets
abbrev G0D:= @PySem.F.slot_tuple_index
abbrev G0E:= @PySem.W.Looks.here
abbrev G0F:= @List.getElem_drop
abbrev G0G:= @Array.size_setIfInBounds
abbrev G0H:= @List.mapM_toArray
abbrev G0I:= @PySem.F.args_tuple_lt_2
abbrev G0J:= @List.any_cons
abbrev G0K:= @PySem.wpAny_attempt
abbrev G0L:= @PySem.F.slot_list_count
abbrev G0M:= @Nat.add_sub_cancel_left
abbrev G0N:= @PySem.W.mg_of
abbrev G0O:= @PySem.noFill_tuple_add
abbrev G0P:= @Nat.le_of_not_lt
abbrev G0Q:= @List.range'_succ
abbrev G0R:= @List.all_toArray
abbrev G0S:= @PySem.F.entry_tuple_lt
abbrev G0T:= @Array.getElem?_eq_none
abbrev G0U:= @List.not_of_lt_findIdx
abbrev G0V:= @Nat.dvd_of_mod_eq_zero
abbrev G0W:= @List.filter_eq_nil_iff
abbrev G0X:= @List.length_replicate
abbrev G0Y:= @PySem.codeAny_of_tree
abbrev G0Z:= @Int.natCast_add
abbrev G00:= @List.getElem?_toArray
abbrev G01:= @List.min?_eq_some_iff
abbrev G02:= @Nat.add_zero
abbrev G03:= @PySem.W.kat_nil
abbrev G04:= @PySem.typeIs_int
abbrev G05:= @PySem.Walks.list
abbrev G06:= @Bool.or_eq_false_iff
abbrev G07:= @PySem.intBits_le_iff
abbrev G08:= @List.getElem?_zipIdx
abbrev G09:= @List.getLast?_concat
abbrev G1a:= @PySem.wpAny_bindName
abbrev G1b:= @Bool.false_and
abbrev G1c:= @List.take_zero
abbrev G1d:= @List.drop_take
abbrev G1e:= @List.take_take
abbrev G1f:= @List.filterMap_cons
abbrev G1g:= @PyProof.Rows.lt_int
abbrev G1h:= @PySem.wpAny_field
abbrev G1i:= @List.mem_map_of_mem
abbrev G1j:= @List.take_succ_cons
abbrev G1k:= @if_false
abbrev G1l:= @List.all_cons
abbrev G1m:= @PySem.wpAny_Name
abbrev G1n:= @Nat.succ_mul
abbrev G1o:= @Int.mul_comm
abbrev G1p:= @Nat.pow_succ
abbrev G1q:= @Int.pow_pos
abbrev G1r:= @Nat.le_succ
abbrev G1s:= @Nat.log2_lt
namespace L2
open PySem PySem.Spec PyProof.Rows
abbrev Key:=Sum Int Str
def BO:Key->Value->Bool
 | .inl k,v=>Value.isInt k v
 | .inr x,v=>Value.isStrOf x v
def jcH (w:World):Key->Int
 | .inl k=>hashInt k
 | .inr x=>hashStr w x
theorem zd: ∀ {k:Key} {v:Value},BO k v=true->(∃i t,k=Sum.inl i/\v=Value.int i t)\/(∃x t,k=Sum.inr x/\v=Value.str x t)
 | .inl i,v,h=>by
  obtain⟨t,e⟩:=Value.isInt_shape (k:=i) (v:=v) h;exact .inl ⟨i,t,rfl,e⟩
 | .inr x,v,h=>by
  obtain⟨t,e⟩:=Value.isStrOf_shape (x:=x) (v:=v) h;exact .inr ⟨x,t,rfl,e⟩
theorem Fo (i:Int)(t:Tok):BO (.inl i) (.int i t)=true:=by simp [BO,Value.isInt]
theorem Fp (x:Str)(t:Tok):BO (.inr x) (.str x t)=true:=by simp [BO,Value.isStrOf]
theorem kZ (a b:Int):decide ((Sum.inl a:Key)=Sum.inl b)=(a==b):=by
 by_cases e:a=b
 ·subst e;simp
 ·have h: ¬ (Sum.inl a:Key)=Sum.inl b:=λq=>e (Sum.inl.inj q)
  rw [R4 h];exact(U6.mpr e).symm
theorem uc (a b:Str):decide ((Sum.inr a:Key)=Sum.inr b)=decide (a=b):=by
 by_cases e:a=b
 ·subst e;simp
 ·have h: ¬ (Sum.inr a:Key)=Sum.inr b:=λq=>e (Sum.inr.inj q)
  rw [R4 h,R4 e]
theorem ud (a:Int)(b:Str):decide ((Sum.inl a:Key)=Sum.inr b)=false:=R4 (λq=>nomatch q)
theorem ue (a:Str)(b:Int):decide ((Sum.inr a:Key)=Sum.inl b)=false:=R4 (λq=>nomatch q)
def yU (prog:Program)(w:World):PySem.KeyKind prog w Key where
 is:=BO
 hash:=jcH w
 inj:=λv a b ha hb=>by
  rcases zd ha with ⟨i,t,rfl,rfl⟩|⟨x,t,rfl,rfl⟩
  ·rcases zd hb with ⟨j,u,rfl,e⟩|⟨y,u,rfl,e⟩
   ·injection e with e1 _;rw [e1]
   ·exact nomatch e
  ·rcases zd hb with ⟨j,u,rfl,e⟩|⟨y,u,rfl,e⟩
   ·exact nomatch e
   ·injection e with e1 _;rw [e1]
 byValue:=λk v h=>by
  rcases zd h with ⟨i,t,rfl,rfl⟩|⟨x,t,rfl,rfl⟩<;>rfl
 pyHash:=λhv h=>by
  rcases zd hv with ⟨i,t,rfl,rfl⟩|⟨x,t,rfl,rfl⟩
  ·exact wpAny_pyHash_int h
  ·exact wpAny_pyHash_str h
 eqBool:=λhu hv h=>by
  rcases zd hu with ⟨i,t,rfl,rfl⟩|⟨x,t,rfl,rfl⟩
  ·rcases zd hv with ⟨j,u,rfl,rfl⟩|⟨y,u,rfl,rfl⟩
   ·rw [kZ] at h;exact wpAny_eqBool_int h
   ·rw [ud] at h;exact SeqAt.EqAt.int_str i t y u _ _ _ _ h
  ·rcases zd hv with ⟨j,u,rfl,rfl⟩|⟨y,u,rfl,rfl⟩
   ·rw [ue] at h;exact SeqAt.EqAt.str_int x t j u _ _ _ _ h
   ·rw [uc] at h;exact wpAny_eqBool_str h
 «strs» :=λk x t v h=>by
  rcases zd h with ⟨i,u,rfl,e⟩|⟨y,u,rfl,e⟩
  ·exact nomatch e
  ·injection e with e1 _
   subst e1;cases v<;>rfl
theorem Mg (prog:Program)(w:World)(i:Int)(t:Tok):(yU prog w).is (.inl i) (.int i t)=true:=Fo i t
theorem Mh (prog:Program)(w:World)(x:Str)(t:Tok):(yU prog w).is (.inr x) (.str x t)=true:=Fp x t
inductive V where
 |non|bl (b:Bool)|int (i:Int)|str (x:Str)|byt (b:Array UInt8)|flt (b:UInt64)|ref (a:Addr)|ty (n:String)
 deriving DecidableEq
def RelV:V->Value->Prop
 | .non,u=>u=Value.none
 | .bl b,u=>u=Value.bool b
 | .int i,u=> ∃t,u=Value.int i t
 | .str x,u=> ∃t,u=Value.str x t
 | .byt b,u=> ∃t,u=Value.bytes b t
 | .flt b,u=> ∃t,u=Value.float b t
 | .ref a,u=>u=Value.ref a
 | .ty n,u=>u=Value.type n
abbrev Vals:List V->List Value->Prop:=Paired RelV
theorem Vals.length {xs:List V}{us:List Value}(r:Vals xs us):xs.length=us.length:=Paired.length r
theorem Vals.get: ∀ {xs:List V} {us:List Value} {i:Nat} {x:V},Vals xs us->xs[i]? =some x-> ∃u,us[i]? =some u/\RelV x u
 |_,_,_,_,.nil,e=>by simp at e
 |_,_,0,_,.cons r _,e=>by simp at e;subst e;exact⟨_,rfl,r⟩
 |_,_,i+1,x,.cons _ t,e=>by
  obtain⟨u,h1,h2⟩:=Vals.get (i:=i) (x:=x) t (by simpa using e);exact⟨u,by simpa using h1,h2⟩
variable {u:Value}
theorem Vals.set {x:V}(r:RelV x u): ∀ {xs:List V} {us:List Value} (i:Nat),Vals xs us->Vals (xs.set i x) (us.set i u)
 |_,_,_,.nil=> .nil
 |_,_,0,.cons _ t=> .cons r t
 |_,_,i+1,.cons q t=> .cons q (Vals.set r i t)
theorem Vals.append: ∀ {xs ys:List V} {us ws:List Value},Vals xs us->Vals ys ws->Vals (xs++ys) (us++ws)
 |_,_,_,_,.nil,s=>s
 |_,_,_,_,.cons r t,s=> .cons r (Vals.append t s)
theorem Vals.take: ∀ {xs:List V} {us:List Value} (n:Nat),Vals xs us->Vals (xs.take n) (us.take n)
 |_,_,0,_=> .nil
 |_,_,_+1,.nil=> .nil
 |_,_,n+1,.cons r t=> .cons r (Vals.take n t)
theorem Vals.drop: ∀ {xs:List V} {us:List Value} (n:Nat),Vals xs us->Vals (xs.drop n) (us.drop n)
 |_,_,0,r=>r
 |_,_,_+1,.nil=> .nil
 |_,_,n+1,.cons _ t=>Vals.drop n t
def jaJ:Option V->Option Value->Prop
 |some v,some u=>RelV v u
 |none,none=>True
 |_,_=>False
def KV {κ:Type}:List (κ×V)->List (κ×Value)->Prop:=Paired λ(p:κ×V) (q:κ×Value)=>p.1=q.1/\RelV p.2 q.2
def kV:Key->V
 | .inl i=> .int i
 | .inr x=> .str x
inductive HO where
 /-- a list -/
 |lst (xs:List V)
 /-- a tuple (never changes) -/
 |tup (xs:List V)
 /-- a dict whose keys are ints and texts;one whose keys are tuples of ints and texts (the empty one is both) -/
 |dK (kvs:List (Key×V))|dT (kvs:List (List Key×V))
 /-- a set of ints: its members,its size -/
 |set (S:Int->Bool) (n:Nat)
 /-- an instance of the class at C,its dict at dx,its attributes -/
 |ins (C dx:Addr) (fs:List (Str×V))
 /-- the dict of the instance at x -/
 |own (x:Addr)
 /-- the dict of an exception -/
 |xd (fs:List (Str×V))
 /-- a bound method,f of x -/
 |met (f x:Addr)
 /-- a range object lo,lo+1,.. below hi -/
 |rng (lo hi:Int)
 /-- a thing that is known to the object (the script;a dict while a loop walks it):read,never written while it is so -/
 |frz (o:Obj) (u:HO)
 /-- a code object's table -/
 |tbl (ps:Array Value)
 /-- any other thing,by what is true of its one object (a def of one's own: SetO a S n:=HO.ext λh=> ..) -/
 |ext (φ:Heap->Prop)
abbrev Hp:=Addr->Option HO
def upd (H:Hp)(a:Addr)(o:HO):Hp:=λb=>if b=a then some o else H b
variable {H:Hp}{a:Addr}{o:HO}
theorem jt:upd H a o a=some o:=by unfold upd;rw [if_pos rfl]
variable {b:Addr}
theorem jq (h:b≠a):upd H a o b=H b:=by unfold upd;rw [if_neg h]
theorem Fq {u:HO}(h:H a=some o)(h':H b=some u)(d:o≠u):a≠b:=by
 intro e;subst e;rw [h] at h';exact d (S7 h')
theorem ju (h:H a=some o)(h':H b=none):a≠b:=by
 intro e;subst e;rw [h] at h';cases h'
def IsTupN (h:Heap)(a:Addr)(items:Array Value):Prop:= ∃o,h.get? a=some o/\o.cls= .type "tuple" /\o.dict=none/\ ∃n,o.data= .seq items n
theorem IsTupN.tup {h:Heap}{a:Addr}{items:Array Value}(x:IsTupN h a items):IsTup h a items:=let ⟨o,e,c,_,n,d⟩:=x;⟨o,e,c,n,d⟩
theorem IsTupN.new (h:Heap)(items:Array Value):IsTupN (h.push {cls:= .type "tuple",data:= .seq items}) h.objs.size items:=⟨_,P9 _ rfl,rfl,rfl,_,rfl⟩
section
variable (P:Program)(w:World)
def ObjOk (H:Hp)(h:Heap)(a:Addr):HO->Prop
 | .lst xs=>xs.length<=sizeLine/\ ∃ (its:List Value) (n:Nat),Vals xs its/\h.get? a=some {cls:= .type "list",data:= .seq its.toArray n}
 | .tup xs=>xs.length<=sizeLine/\ ∃its:List Value,Vals xs its/\IsTupN h a its.toArray
 | .dK kvs=>kvs.length<=sizeLine/\(a==sysModules)=false/\ ∃vs,KV kvs vs/\h.DictOf (yU P w) a vs
 | .dT kvs=>kvs.length<=sizeLine/\(a==sysModules)=false/\ ∃xs:List (List Key×Addr×Value),
  Paired (λ(p:List Key×V) (q:List Key×Addr×Value)=>p.1=q.1/\H q.2.1=some (.tup (p.1.map kV))/\RelV p.2 q.2.2) kvs xs/\
  ∃o es ep,h.get? a=some o/\o.ExactDict/\o.data= .dict es ep/\es.toList=xs.map (entryOfKey (tupleKind (yU P w)))/\(xs.map (·.1)).Nodup
 | .set S n=>h.SetOf (intKind P w) a S n
 | .ins C dx fs=>H dx=some (.own a)/\fs.length<=1000/\dx≠a/\h.get? a=some (PySem.W.instObj C dx)/\
  ∃mA,h.Ns1 dx mA/\(∀f,jaJ (fs.lookup f) (mA f))/\PySem.Within mA (fs.map (·.1))
 | .own _=> ∃o,h.get? a=some o
 | .xd fs=> ∃mA,h.Ns1 a mA/\ ∀f,jaJ (fs.lookup f) (mA f)
 | .rng lo hi=> ∃t u v,h.get? a=some {cls:= .type "range",data:= .fields #[.int lo t,.int hi u,.int 1 v]}
 | .frz o u=>h.get? a=some o/\ObjOk H h a u
 | .tbl ps=>h.get? a=some {cls:= .none,data:= .fields ps}
 | .met f x=>h.get? a=some (PySem.W.methodObj (.ref f) (.ref x))
 | .ext φ=>φ h/\(∃o,h.get? a=some o)/\ ∀h1 h2:Heap,φ h1->(∀o,h1.get? a=some o->h2.get? a=some o)->φ h2
def HOk (H:Hp)(h:Heap):Prop:= ∀a o,H a=some o->ObjOk P w H h a o
end
section
variable {P:Program}{w:World}{H H':Hp}{h h':Heap}{a:Addr}{o:HO}
theorem ObjOk.lt (x:ObjOk P w H h a o):a<h.objs.size:=by
 cases o with
 |lst xs=>obtain⟨_,_,_,_,e⟩:=x;exact P3 e
 |tup xs=>obtain⟨_,_,_,p⟩:=x;exact p.tup.lt
 |dK kvs=>obtain⟨_,_,_,_,o,_,_,e,_⟩:=x;exact P3 e
 |dT kvs=>obtain⟨_,_,_,_,o,_,_,e,_⟩:=x;exact P3 e
 |set S n=>obtain⟨o,_,_,_,e,_⟩:=x;exact P3 e
 |ins C dx fs=>obtain⟨_,_,_,e,_⟩:=x;exact P3 e
 |own y=>obtain⟨_,e⟩:=x;exact P3 e
 |xd fs=>obtain⟨_,⟨_,_,_,e,_⟩,_⟩:=x;exact P3 e
 |rng lo hi=>obtain⟨_,_,_,e⟩:=x;exact P3 e
 |frz ob u=>obtain⟨e,_⟩:=x;exact P3 e
 |tbl ps=>exact P3 (show h.get? a=some _ from x)
 |met f y=>exact P3 (show h.get? a=some _ from x)
 |ext φ=>obtain⟨_,⟨_,e⟩,_⟩:=x;exact P3 e
theorem Paired.mapP {α β:Type}{F G:α->β->Prop}: ∀ {l₁:List α} {l₂:List β},Paired F l₁ l₂->(∀a b,F a b->G a b)->Paired G l₁ l₂
 |_,_,.nil,_=> .nil
 |_,_,.cons r t,f=> .cons (f _ _ r) (Paired.mapP t f)
theorem ObjOk.stay (x:ObjOk P w H h a o)(k: ∀b u,(b=a\/H b=some (.own a))->h.get? b=some u->h'.get? b=some u)
 (ho: ∀b,H b=some (.own a)->H' b=some (.own a))(ht: ∀b xs,H b=some (.tup xs)->H' b=some (.tup xs)):ObjOk P w H' h' a o:=by
 induction o with
 |lst xs=>obtain⟨z,its,n,r,e⟩:=x;exact⟨z,its,n,r,k _ _ (.inl rfl) e⟩
 |tup xs=>obtain⟨z,its,r,ob,e,c⟩:=x;exact⟨z,its,r,ob,k _ _ (.inl rfl) e,c⟩
 |dK kvs=>obtain⟨z,y,vs,r,ob,es,ep,e,c⟩:=x;exact⟨z,y,vs,r,ob,es,ep,k _ _ (.inl rfl) e,c⟩
 |dT kvs=>
  obtain⟨z,y,xs,r,ob,es,ep,e,c⟩:=x;exact⟨z,y,xs,Paired.mapP r λp q z=>⟨z.1,ht _ _ z.2.1,z.2.2⟩,ob,es,ep,k _ _ (.inl rfl) e,c⟩
 |set S n=>obtain⟨ob,es,ep,t,e,c⟩:=x;exact⟨ob,es,ep,t,k _ _ (.inl rfl) e,c⟩
 |ins C dx fs=>
  obtain⟨d,z,ne,e,mA,⟨od,es,ep,e2,c⟩,r⟩:=x;exact⟨ho _ d,z,ne,k _ _ (.inl rfl) e,mA,⟨od,es,ep,k _ _ (.inr d) e2,c⟩,r⟩
 |own y=>obtain⟨ob,e⟩:=x;exact⟨ob,k _ _ (.inl rfl) e⟩
 |xd fs=>obtain⟨mA,⟨od,es,ep,e,c⟩,r⟩:=x;exact⟨mA,⟨od,es,ep,k _ _ (.inl rfl) e,c⟩,r⟩
 |rng lo hi=>obtain⟨t,u,v,e⟩:=x;exact⟨t,u,v,k _ _ (.inl rfl) e⟩
 |frz ob u ih=>obtain⟨e,q⟩:=x;exact⟨k _ _ (.inl rfl) e,ih q⟩
 |tbl ps=>
  have e:h.get? a=some {cls:= .none,data:= .fields ps}:=x;show h'.get? a=some {cls:= .none,data:= .fields ps};exact k a _ (.inl rfl) e
 |met f y=>
  have e:h.get? a=some (PySem.W.methodObj (.ref f) (.ref y)):=x;show h'.get? a=some (PySem.W.methodObj (.ref f) (.ref y));exact k a _ (.inl rfl) e
 |ext φ=>obtain⟨p,⟨o,e⟩,st⟩:=x;exact⟨st _ _ p λo q=>k _ _ (.inl rfl) q,⟨o,k _ _ (.inl rfl) e⟩,st⟩
theorem HOk.lt (x:HOk P w H h)(e:H a=some o):a<h.objs.size:=(x a o e).lt
theorem HOk.fresh (x:HOk P w H h)(e:h.objs.size<=a):H a=none:=by
 cases q:H a with
 |none=>rfl
 |some u=>exact absurd (D3 (x.lt q) e) (T6 _)
theorem HOk.kept (x:HOk P w H h)(k: ∀b u,h.get? b=some u->h'.get? b=some u):HOk P w H h':=λa o e=>
 (x a o e).stay (λb u _ q=>k b u q) (λ_ q=>q) λ_ _ q=>q
theorem HOk.laid (x:HOk P w H h)(k: ∀b u,h.get? b=some u->h'.get? b=some u)(hp:h.objs.size<=a)(new:ObjOk P w (upd H a o) h' a o):HOk P w (upd H a o) h':=λb u e=>by
 have hn:=x.fresh hp
 by_cases hb:b=a
 ·subst hb;rw [jt] at e;cases e;exact new
 ·rw [jq hb] at e;exact(x b u e).stay (λc v _ q=>k c v q) (λc q=>by rw [jq (ju q hn)];exact q) λc xs q=>by rw [jq (ju q hn)];exact q
end
def Rd (H:Hp)(a:Addr)(u:HO):Prop:=H a=some u\/ ∃o,H a=some (.frz o u)
variable {P:Program}{w:World}{h:Heap}
theorem Rd.ok {u:HO}(r:Rd H a u)(x:HOk P w H h):ObjOk P w H h a u:=by
 rcases r with r|⟨o,r⟩
 ·exact x a u r
 ·obtain⟨_,q⟩:=x a _ r;exact q
def Mut:Option HO->Prop
 |some (.lst _)=>True
 |some (.dK _)=>True
 |some (.dT _)=>True
 |some (.set _ _)=>True
 |some (.ins _ _ _)=>True
 |some (.ext _)=>True
 |_=>False
section
variable {P:Program}{w:World}{H:Hp}{h h':Heap}{x e:Addr}{o':HO}
theorem HOk.write (ok:HOk P w H h)(mu:Mut (H x))(he:e=x\/H e=some (.own x))(k: ∀b u,b≠e->h.get? b=some u->h'.get? b=some u)(heo: ∃u,h'.get? e=some u)
 (new:ObjOk P w (upd H x o') h' x o'):HOk P w (upd H x o') h':=λb u q=>by
 have nown: ∀c y,H c=some (.own y)->c≠x:=λc y r z=>by subst z;rw [r] at mu;exact mu
 have ntup: ∀c xs,H c=some (.tup xs)->c≠x:=λc xs r z=>by subst z;rw [r] at mu;exact mu
 by_cases hb:b=x
 ·subst hb;rw [jt] at q;cases q;exact new
 ·rw [jq hb] at q
  by_cases hbe:b=e
  ·have q':H b=some (.own x):=by
    rcases he with z|z
    ·exact absurd (hbe.trans z) hb
    ·rw [hbe];exact z
   rw [q] at q';cases q';obtain⟨v,hv⟩:=heo;exact⟨v,by rw [hbe];exact hv⟩
  ·refine(ok b u q).stay (λc v hc r=>k c v ?_ r) (λc r=>by rw [jq (nown c b r)];exact r) λc xs r=>by rw [jq (ntup c xs r)];exact r
   rcases hc with rfl|hc
   ·exact hbe
   ·rintro rfl;rcases he with z|z
    ·exact nown c b hc z
    ·rw [hc] at z;cases z;exact hb rfl
end
structure Un (fs ex:List Addr)(H H':Hp)(h h':Heap):Prop where
 keep: ∀b o,h.get? b=some o->H b=none->b ∉ fs->b ∉ ex->h'.get? b=some o
 slot: ∀b o,h.get? b=some o->H b=none->b∈fs->b ∉ ex-> ∃sl,h'.get? b=some {o with slots:=sl}
 free: ∀b o,h.get? b=some o->H b=none->b ∉ ex->H' b=none
 there: ∀b o,h.get? b=some o->b ∉ ex-> ∃o',h'.get? b=some o'
 tups: ∀b xs,H b=some (.tup xs)->H' b=some (.tup xs)
 frzs: ∀b o u,H b=some (.frz o u)->H' b=some (.frz o u)
 tbls: ∀b ps,H b=some (.tbl ps)-> ∃more,H' b=some (.tbl (ps++more))
section
variable {fs fs' ex ex':List Addr}{H H1 H2:Hp}{h h1 h2 h':Heap}{a x e:Addr}{o:HO}
theorem Un.any (u:Un fs ex H H1 h h1){b:Addr}{ob:Obj}(q:h.get? b=some ob)(n:H b=none)(hx:b ∉ ex): ∃sl,h1.get? b=some {ob with slots:=sl}:=by
 by_cases hb:b∈fs
 ·exact u.slot b ob q n hb hx
 ·exact⟨ob.slots,u.keep b ob q n hb hx⟩
theorem Un.kept (k: ∀b u,h.get? b=some u->h'.get? b=some u):Un fs ex H H h h':=
 ⟨λb ob q _ _ _=>k b ob q,λb ob q _ _ _=>⟨ob.slots,k b ob q⟩,λ_ _ _ n _=>n,λb ob q _=>⟨ob,k b ob q⟩,λ_ _ q=>q,λ_ _ _ q=>q,λ_ ps q=>⟨#[],by rw [q];simp⟩⟩
theorem Un.refl:Un fs ex H H h h:=Un.kept λ_ _ q=>q
theorem Un.laid (k: ∀b u,h.get? b=some u->h'.get? b=some u)(hp:h.objs.size<=a)(hn:H a=none):Un fs ex H (upd H a o) h h' where
 keep:=λb u q _ _ _=>k b u q
 slot:=λb u q _ _ _=>⟨u.slots,k b u q⟩
 free:=λb u q n _=>by rw [jq (R1 (D3 (P3 q) hp))];exact n
 there:=λb u q _=>⟨u,k b u q⟩
 tups:=λb xs q=>by rw [jq (ju q hn)];exact q
 frzs:=λb u xs q=>by rw [jq (ju q hn)];exact q
 tbls:=λb ps q=>⟨#[],by rw [jq (ju q hn),q];simp⟩
theorem Un.write (mu:Mut (H x))(he:e=x\/H e=some (.own x))(k: ∀b u,b≠e->h.get? b=some u->h'.get? b=some u)(heo: ∃u,h'.get? e=some u):Un fs ex H (upd H x o) h h':=by
 have hx: ∀b,H b=none->b≠x:=λb n z=>by subst z;rw [n] at mu;exact mu
 have hb: ∀b,H b=none->b≠e:=λb n z=>by
  subst z;rcases he with r|r
  ·exact hx b n r
  ·rw [n] at r;cases r
 have hm: ∀b u,H b=some u-> ¬Mut (some u)->b≠x:=λb u q nm z=>by subst z;rw [q] at mu;exact nm mu
 refine⟨λb u q n _ _=>k b u (hb b n) q,λb u q n _ _=>⟨u.slots,k b u (hb b n) q⟩,λb u q n _=>by rw [jq (hx b n)];exact n,λb u q _=> ?_,
  λb xs q=>by rw [jq (hm b _ q λz=>z)];exact q,λb u xs q=>by rw [jq (hm b _ q λz=>z)];exact q,λb ps q=>⟨#[],by rw [jq (hm b _ q λz=>z),q];simp⟩⟩
 by_cases hbe:b=e
 ·subst hbe;exact heo
 ·exact⟨u,k b u hbe q⟩
end
def trk (h:Heap)(H:Hp):List Addr:=(List.range h.objs.size).filter λa=>(H a).isSome
def Ef (h:Heap)(H:Hp):Heap:=PySem.W.hideAll h (trk h H)
theorem Fr (h:Heap)(H:Hp):(Ef h H).objs.size=h.objs.size:=PySem.W.hideAll_size _ _
theorem Qa {o:Obj}(e:h.get? b=some o)(n:H b=none):(Ef h H).get? b=some o:=
 J6 _ e λhm=>by
  have q:(H b).isSome=true:=(C6.mp hm).2;rw [n] at q;simp at q
theorem Hb {o:Obj}(e:(Ef h H).get? b=some o):h.get? b=some o/\H b=none:=by
 have e':h.get? b=some o:=G0o (trk h H) e;refine⟨e',?_⟩;cases q:H b with
 |none=>rfl
 |some x=>
  have hm:b∈trk h H:=C6.mpr ⟨D1.mpr (P3 e'),by simp [q]⟩;have z:(Ef h H).get? b=none:=E6 (trk h H) hm;rw [z] at e;cases e
def Hc (g h:Heap)(L:Addr):List (Addr×Obj):=(List.range h.objs.size).filterMap λa=>if a=L\/(g.get? a).isSome=true then none else (h.get? a).map λo=>(a,o)
def rest (g h:Heap)(L d:Addr):List (Addr×Obj):=(Hc g h L).filter λp=>decide (p.1≠d)
structure Mod (K:PySem.W.Frag)(mg:Str->Option Value)(base:Heap):Prop where
 kin:K.In base
 glob:base.Ns mainGlobals mg
 blt: ∃mb,base.Ns builtinsNs mb/\ ∀x:Str,x≠ "__name__" ->mb x=bootBuiltins x
 nolimit:base.NoLimit
structure Cx where
 prog:Program
 w:World
 K:PySem.W.Frag
 mg:Str->Option Value
 base:Heap
 A:Around
 N:List Str
 s₀:Shared
 H₀:Hp
 env:Env
 outer:List Env
 stack:List Env
 ex:List Addr
 fn:Str->Bool
 calm:Bool
 pn:List (Addr×Obj)
 xe:Value->Shared->Prop
def frs (l:List Env):List Addr:=l.filterMap (·.frame)
abbrev Cx.fs (X:Cx):List Addr:=frs X.outer
def Vis (sc:Scope)(x:Str):Prop:=sc.names.lookup x=some .local\/sc.names.lookup x=some .cell\/sc.names.lookup x=some .free
def Loc (sc:Scope)(x:Str):Prop:=sc.names.lookup x=some .local\/sc.names.lookup x=some .cell
def jcI (env:Env)(h:Heap)(m:Str->Option Value)(x:Str)(u:Value):Prop:=
 (env.kindOf x=some .local/\m x=some u)\/((env.kindOf x=some .cell\/env.kindOf x=some .free)/\ ∃c,env.cells.lookup x=some c/\h.IsCell c (some u))
structure Cx.Ok (X:Cx):Prop where
 mod:Mod X.K X.mg X.base
 kind:X.env.scope.kind= .function
 glob:X.env.globals=mainGlobals
 blt:X.env.builtins=builtinsNs
 above:X.s₀.heap.objs.size<=X.env.locals
 inj: ∀x y c,X.env.cells.lookup x=some c->X.env.cells.lookup y=some c->x=y
 has: ∀x,(X.env.kindOf x=some .cell\/X.env.kindOf x=some .free)-> ∃c,X.env.cells.lookup x=some c
 cab: ∀x c,X.fn x=true->X.env.cells.lookup x=some c->X.s₀.heap.objs.size<=c
 hd:X.calm=true->X.A.handled=none
 frames:X.A.frames=some X.stack
 stk:X.stack=X.outer\/(X.stack=X.env::X.outer/\X.env.frame=some X.env.locals)
 exf: ∀b∈X.ex,b≠X.env.locals/\ ∀x c,X.env.cells.lookup x=some c->c≠b
 bs: ∀b o,X.base.get? b=some o->X.s₀.heap.get? b=some o/\X.H₀ b=none
 bsz:X.base.objs.size<=X.s₀.heap.objs.size
 noex: ∀b o,X.base.get? b=some o->b ∉ X.ex
 exfs: ∀b∈X.ex,b ∉ X.fs
 funs:X.s₀.heap.FunFrames X.base X.outer
 frf: ∀b∈X.fs,X.H₀ b=none
structure Inv (X:Cx)(pins:List (Addr×Obj))(σ:List (Option V))(H:Hp)(s:Shared):Prop where
 ok:X.Ok
 os:s.os=X.s₀.os
 bare:AllBare s.gens
 base:Un X.fs X.ex X.H₀ H X.s₀.heap s.heap
 loc: ∃m,s.heap.Ns X.env.locals m/\ ∀ (i:Nat) (x:Str) (v:V),X.N[i]? =some x->σ[i]? =some (some v)->Vis X.env.scope x-> ∃u,RelV v u/\jcI X.env s.heap m x u
 cell: ∀x c,X.env.cells.lookup x=some c-> ∃v,s.heap.IsCell c v
 free:H X.env.locals=none
 freeC: ∀x c,X.env.cells.lookup x=some c->H c=none
 pin: ∀p∈X.pn++pins,s.heap.get? p.1=some p.2/\H p.1=none/\p.1≠X.env.locals/\p.1 ∉ X.fs/\ ∀v,p.2.data≠ .cell v
 hok:HOk X.prog X.w H s.heap
 len:σ.length=X.N.length
section
variable {X:Cx}{pins:List (Addr×Obj)}{σ:List (Option V)}{H H':Hp}{s:Shared}{h':Heap}
theorem Cx.Ok.nofr (ok:X.Ok){b:Addr}{o:Obj}(e:X.base.get? b=some o):b ∉ X.fs:=λhb=>by
 have:=(ok.funs.mem hb).1;rw [e] at this;cases this
theorem Inv.bs (I:Inv X pins σ H s): ∀b o,X.base.get? b=some o->s.heap.get? b=some o/\H b=none:=λb o e=>
 ⟨I.base.keep b o (I.ok.bs b o e).1 (I.ok.bs b o e).2 (I.ok.nofr e) (I.ok.noex b o e),I.base.free b o (I.ok.bs b o e).1 (I.ok.bs b o e).2 (I.ok.noex b o e)⟩
theorem Inv.bk (I:Inv X pins σ H s): ∀b o,X.base.get? b=some o->s.heap.get? b=some o:=λb o e=>(I.bs b o e).1
theorem Inv.mod (I:Inv X pins σ H s):Mod X.K X.mg X.base:=I.ok.mod
theorem Inv.kIn (I:Inv X pins σ H s):X.K.In s.heap:=I.ok.mod.kin.keeps I.bk
theorem Inv.lt (I:Inv X pins σ H s):X.env.locals<s.heap.objs.size:=let ⟨_,hn,_⟩:=I.loc;hn.lt
theorem Inv.sz (I:Inv X pins σ H s):X.s₀.heap.objs.size<=s.heap.objs.size:=S1 I.ok.above (D7 I.lt)
theorem Inv.nofs (I:Inv X pins σ H s){a:Addr}(h:s.heap.objs.size<=a):a ∉ X.fs:=λhb=>by
 obtain⟨_,o,ho,_⟩:=I.ok.funs.mem hb;exact absurd (D3 (P3 ho) (S1 I.sz h)) (T6 _)
theorem Inv.cne (I:Inv X pins σ H s): ∀x c,X.env.cells.lookup x=some c->c≠X.env.locals:=λx c e z=>by
 obtain⟨v,o,ho,hd⟩:=I.cell x c e;obtain⟨m,⟨o',es,ep,ho',hd',_⟩,_⟩:=I.loc;rw [z,ho'] at ho;cases ho;rw [hd'] at hd;cases hd
theorem Inv.funs (I:Inv X pins σ H s):s.heap.FunFrames X.base X.outer:=by
 have all: ∀ (l:List Env),(∀b∈frs l,b∈X.fs)->X.s₀.heap.FunFrames X.base l->s.heap.FunFrames X.base l:=by
  intro l
  induction l with
  |nil=>intro _ _;trivial
  |cons env r ih=>
   intro hs hl;obtain⟨hk,⟨L,o,hf,hn,ho,hd⟩,hr⟩:=hl;have hL:L∈X.fs:=hs L (by unfold frs;rw [List.filterMap_cons,hf];exact List.mem_cons_self);obtain⟨sl,e⟩:=I.base.slot L o ho (I.ok.frf L hL) hL λz=>I.ok.exfs L z hL
   exact⟨hk,⟨L,_,hf,hn,e,hd⟩,ih (λb hb=>hs b (by unfold frs;rw [List.filterMap_cons,hf];exact List.mem_cons_of_mem _ hb)) hr⟩
 exact all X.outer (λ_ hb=>hb) I.ok.funs
theorem Inv.stack (I:Inv X pins σ H s):s.heap.FunFrames X.base X.stack:=by
 rcases I.ok.stk with e|⟨e,hf⟩
 ·rw [e];exact I.funs
 ·rw [e];obtain⟨m,hn,_⟩:=I.loc;refine .cons (by rw [I.ok.kind];decide) hf hn ?_ I.funs;exact Heap.get?_none_of_le (S1 I.ok.bsz I.ok.above)
theorem Inv.stkSub (I:Inv X pins σ H s): ∀b∈frs X.stack,b∈X.env.locals::X.fs:=λb hb=>by
 rcases I.ok.stk with e|⟨e,hf⟩
 ·rw [e] at hb;exact D0 _ hb
 ·rw [e] at hb;unfold frs at hb;rw [G1f,hf] at hb;exact hb
theorem Inv.stkFree (I:Inv X pins σ H s): ∀b∈frs X.stack,H b=none:=λb hb=>by
 rcases P4.mp (I.stkSub b hb) with e|hb
 ·rw [e];exact I.free
 ·obtain⟨_,o,ho,_⟩:=I.ok.funs.mem hb;exact I.base.free b o ho (I.ok.frf b hb) λz=>I.ok.exfs b z hb
variable {t':Nat}
theorem Inv.step {g':Array GenState}{d':Drawn}{ch:List Addr}(I:Inv X pins σ H s)
 (hch: ∀b∈ch,(b∈X.ex\/X.s₀.heap.objs.size<=b)/\b≠X.env.locals/\(∀x c,X.env.cells.lookup x=some c->c≠b)/\ ∀p∈X.pn++pins,p.1≠b)
 (keep: ∀b o,b≠X.env.locals->b ∉ X.fs->b ∉ ch->s.heap.get? b=some o->H b=none->h'.get? b=some o)
 (slot: ∀b o,b≠X.env.locals->b∈X.fs->b ∉ ch->s.heap.get? b=some o->H b=none-> ∃sl,h'.get? b=some {o with slots:=sl})(free: ∀b o,b ∉ ch->s.heap.get? b=some o->H b=none->H' b=none)
 (there: ∀b o,b ∉ ch->s.heap.get? b=some o-> ∃o',h'.get? b=some o')
 (tups: ∀b xs,H b=some (.tup xs)->H' b=some (.tup xs))(frzs: ∀b o u,H b=some (.frz o u)->H' b=some (.frz o u))(tbls: ∀b ps,H b=some (.tbl ps)-> ∃more,H' b=some (.tbl (ps++more)))
 (ns: ∀m,s.heap.Ns X.env.locals m->h'.Ns X.env.locals m)(hok:HOk X.prog X.w H' h')(hg:AllBare g'):
 Inv X pins σ H' {s with heap:=h',gens:=g',drawn:=d',toks:=t'}:=by
 have neL: ∀b o,X.s₀.heap.get? b=some o->b≠X.env.locals:=λb o e=>R1 (D3 (P3 e) I.ok.above)
 have neC: ∀b o,X.s₀.heap.get? b=some o->b ∉ X.ex->b ∉ ch:=λb o e hx hb=>by
  rcases (hch b hb).1 with z|z
  ·exact hx z
  ·exact absurd (D3 (P3 e) z) (T6 _)
 have cellK: ∀x c,X.env.cells.lookup x=some c-> ∀v,s.heap.IsCell c v->h'.IsCell c v:=λx c e v ⟨o,ho,hd⟩=>by
  have nch:c ∉ ch:=λz=>(hch c z).2.2.1 x c e rfl
  by_cases hc:c∈X.fs
  ·obtain⟨sl,q⟩:=slot c o (I.cne x c e) hc nch ho (I.freeC x c e);exact⟨_,q,hd⟩
  ·exact⟨o,keep c o (I.cne x c e) hc nch ho (I.freeC x c e),hd⟩
 refine⟨I.ok,I.os,hg,⟨λb o e n hb hx=> ?_,λb o e n hb hx=> ?_,λb o e n hx=> ?_,λb o e hx=> ?_,λb xs e=>tups b xs (I.base.tups b xs e),λb o xs e=>frzs b o xs (I.base.frzs b o xs e),λb ps e=> ?_⟩,?_,λx c e=> ?_,?_,λx c e=> ?_,λp hp=> ?_,hok,I.len⟩
 ·exact keep b o (neL b o e) hb (neC b o e hx) (I.base.keep b o e n hb hx) (I.base.free b o e n hx)
 ·obtain⟨sl,e1⟩:=I.base.slot b o e n hb hx;obtain⟨sl',e2⟩:=slot b _ (neL b o e) hb (neC b o e hx) e1 (I.base.free b o e n hx);exact⟨sl',e2⟩
 ·obtain⟨o',e1⟩:=I.base.there b o e hx;exact free b o' (neC b o e hx) e1 (I.base.free b o e n hx)
 ·obtain⟨o',e1⟩:=I.base.there b o e hx;exact there b o' (neC b o e hx) e1
 ·obtain⟨m1,e1⟩:=I.base.tbls b ps e;obtain⟨m2,e2⟩:=tbls b _ e1;exact⟨m1++m2,by rw [e2,Array.append_assoc]⟩
 ·obtain⟨m,hn,hl⟩:=I.loc;refine⟨m,ns m hn,λi x v e1 e2 e3=> ?_⟩;obtain⟨u,r,l⟩:=hl i x v e1 e2 e3;refine⟨u,r,?_⟩;rcases l with l|⟨k,c,e,z⟩
  ·exact .inl l
  ·exact .inr ⟨k,c,e,cellK x c e _ z⟩
 ·obtain⟨v,z⟩:=I.cell x c e;exact⟨v,cellK x c e v z⟩
 ·obtain⟨m,⟨o,_,_,ho,_⟩,_⟩:=I.loc;exact free _ o (λz=>(hch _ z).2.1 rfl) ho I.free
 ·obtain⟨v,o,ho,hd⟩:=I.cell x c e;exact free c o (λz=>(hch c z).2.2.1 x c e rfl) ho (I.freeC x c e)
 ·obtain⟨e,n,ne,nf,d⟩:=I.pin p hp;have nch:p.1 ∉ ch:=λz=>(hch p.1 z).2.2.2 p hp rfl
  exact⟨keep p.1 p.2 ne nf nch e n,free p.1 p.2 nch e n,ne,nf,d⟩
theorem Inv.un (I:Inv X pins σ H s)(u:Un X.fs [] H H' s.heap h')(hok:HOk X.prog X.w H' h'):Inv X pins σ H' {s with heap:=h',toks:=t'}:=by
 obtain⟨m,⟨o,es,ep,ho,r⟩,_⟩:=id I.loc;obtain⟨sl,hL⟩:=u.any ho I.free (by simp);exact I.step (g':=s.gens) (d':=s.drawn) (ch:= []) (λ_ z=>nomatch z) (λb o _ hb _ e n=>u.keep b o e n hb (by simp)) (λb o _ hb _ e n=>u.slot b o e n hb (by simp)) (λb o _ e n=>u.free b o e n (by simp)) (λb o _ e=>u.there b o e (by simp)) u.tups u.frzs u.tbls (λm' hm=>by
  obtain⟨o',es',ep',ho',r'⟩:=hm;rw [ho] at ho';cases ho';exact⟨_,es',ep',hL,r'⟩) hok I.bare
theorem Inv.call {g':Array GenState}{d':Drawn}{ch:List Addr}(I:Inv X pins σ H s)(u:Un (frs X.stack) ch H H' s.heap h')(hok:HOk X.prog X.w H' h')(hg:AllBare g')
 (hch: ∀b∈ch,(b∈X.ex\/X.s₀.heap.objs.size<=b)/\b≠X.env.locals/\(∀x c,X.env.cells.lookup x=some c->c≠b)/\ ∀p∈X.pn++pins,p.1≠b):
 Inv X pins σ H' {s with heap:=h',gens:=g',drawn:=d',toks:=t'}:=by
 obtain⟨m,⟨o,es,ep,ho,r⟩,_⟩:=id I.loc;obtain⟨sl,hL⟩:=u.any ho I.free λz=>(hch _ z).2.1 rfl
 exact I.step (ch:=ch) hch (λb o hL hb hc e n=>u.keep b o e n (λz=>(P4.mp (I.stkSub b z)).elim hL hb) hc) (λb o _ _ hc e n=>u.any e n hc) (λb o hc e n=>u.free b o e n hc) (λb o hc e=>u.there b o e hc) u.tups u.frzs u.tbls (λm' hm=>by
  obtain⟨o',es',ep',ho',r'⟩:=hm;rw [ho] at ho';cases ho';exact⟨_,es',ep',hL,r'⟩) hok hg
theorem Inv.turned {it:Addr}(I:Inv X pins σ H s)(k: ∀b o,b≠it->s.heap.get? b=some o->h'.get? b=some o)(hn:H it=none)(hL:it≠X.env.locals)
 (h1:it∈X.ex\/X.s₀.heap.objs.size<=it)(h2: ∀x c,X.env.cells.lookup x=some c->c≠it)(h3: ∀p∈X.pn++pins,p.1≠it):Inv X pins σ H {s with heap:=h',toks:=t'}:=by
 have nit: ∀b u,H b=some u->b≠it:=λb u e z=>by rw [z,hn] at e;cases e
 refine I.step (g':=s.gens) (d':=s.drawn) (ch:= [it]) (λb hb=> ?_) (λb o _ _ hc e _=>k b o (λz=>hc (by simp [z])) e) (λb o _ _ hc e _=>⟨o.slots,k b o (λz=>hc (by simp [z])) e⟩) (λ_ _ _ _ n=>n)
  (λb o hc e=>⟨o,k b o (λz=>hc (by simp [z])) e⟩) (λ_ _ e=>e) (λ_ _ _ e=>e) (λb ps e=>⟨#[],by rw [e];simp⟩) (λm hm=> ?_) (λb u e=> ?_) I.bare
 ·have e:b=it:=by simpa using hb
  subst e;exact⟨h1,hL,h2,h3⟩
 ·obtain⟨o,es,ep,ho,r⟩:=hm;exact⟨o,es,ep,k _ o (Ne.symm hL) ho,r⟩
 ·refine(I.hok b u e).stay (λc v hc q=>k c v ?_ q) (λ_ q=>q) λ_ _ q=>q
  rcases hc with z|z
  ·rw [z];exact nit b u e
  ·exact nit c _ z
theorem Inv.tok (I:Inv X pins σ H s)(t:Nat):Inv X pins σ H {s with toks:=t}:=I.un (h':=s.heap) (t':=t) Un.refl I.hok
theorem Inv.kept (I:Inv X pins σ H s)(k: ∀b u,s.heap.get? b=some u->h'.get? b=some u):Inv X pins σ H {s with heap:=h',toks:=t'}:=I.un (Un.kept k) (I.hok.kept k)
theorem Inv.laid {a:Addr}{o:HO}(I:Inv X pins σ H s)(k: ∀b u,s.heap.get? b=some u->h'.get? b=some u)(hp:s.heap.objs.size<=a)(new:ObjOk X.prog X.w (upd H a o) h' a o):
 Inv X pins σ (upd H a o) {s with heap:=h',toks:=t'}:=I.un (Un.laid k hp (I.hok.fresh hp)) (I.hok.laid k hp new)
theorem Inv.write {x e:Addr}{o:HO}(I:Inv X pins σ H s)(mu:Mut (H x))(he:e=x\/H e=some (.own x))(k: ∀b u,b≠e->s.heap.get? b=some u->h'.get? b=some u)(heo: ∃u,h'.get? e=some u)
 (new:ObjOk X.prog X.w (upd H x o) h' x o):Inv X pins σ (upd H x o) {s with heap:=h',toks:=t'}:=I.un (Un.write mu he k heo) (I.hok.write mu he k heo new)
theorem Inv.weak {σ':List (Option V)}(I:Inv X pins σ H s)(hl:σ'.length=σ.length)(w: ∀ (i:Nat) v,σ'[i]? =some (some v)->σ[i]? =some (some v)):Inv X pins σ' H s:=
 ⟨I.ok,I.os,I.bare,I.base,let ⟨m,hn,hl'⟩:=I.loc;⟨m,hn,λi x v e1 e2 e3=>hl' i x v e1 (w i v e2) e3⟩,I.cell,I.free,I.freeC,I.pin,I.hok,hl.trans I.len⟩
theorem Inv.pins_of {pins':List (Addr×Obj)}(I:Inv X pins σ H s)(h: ∀p∈pins',s.heap.get? p.1=some p.2/\H p.1=none/\p.1≠X.env.locals/\p.1 ∉ X.fs/\ ∀v,p.2.data≠ .cell v):Inv X pins' σ H s:=
 ⟨I.ok,I.os,I.bare,I.base,I.loc,I.cell,I.free,I.freeC,λp hp=>(D6.mp hp).elim (λz=>I.pin p (M8 _ z)) (h p),I.hok,I.len⟩
theorem Qb {N:List Str}(hN:N.Nodup){i j:Nat}{x:Str}(a:N[i]? =some x)(b:N[j]? =some x):i=j:=by
 obtain⟨h1,e1⟩:=G3.mp a;obtain⟨h2,e2⟩:=G3.mp b;exact(List.getElem_inj hN).mp (e1.trans e2.symm)
theorem Fs {M:Model}{A:Around}{E:Value->Shared->Prop}{i:Nat}{x:Str}{v:V}{u:Value}{Q:Unit->Shared->Prop}(I:Inv X pins σ H s)(hN:X.N.Nodup)(hi:X.N[i]? =some x)(hx:Loc X.env.scope x)(r:RelV v u)
 (h: ∀s',Inv X pins (σ.set i (some v)) H s'->(∃a,Heap.SameBut a s.heap s'.heap/\(a=X.env.locals\/X.env.cells.lookup x=some a))->Q () s')(hf:X.fn x=true\/X.env.scope.names.lookup x=some .local:=by first|exact .inl rfl|exact .inr rfl|assumption):wpAny M A (storeName X.env x u) Q E s:=by
 obtain⟨m,hn,hl⟩:=id I.loc;have hcls:(X.env.scope.kind== .class||(X.env.scope.kind== .module&&X.env.locals !=X.env.globals))=false:=by rw [I.ok.kind];rfl
 have hiσ:i<σ.length:=by rw [I.len];exact(G3.mp hi).1
 have cne:=I.cne;have tracked: ∀ {a:Addr} {h':Heap},(∃o,s.heap.get? a=some o/\H a=none)->Heap.SameBut a s.heap h'->HOk X.prog X.w H h':=λ{a h'} ha hs b ob e=>by
  obtain⟨_,_,hfree⟩:=ha;refine(I.hok b ob e).stay (λc w' hc q=>(hs.2 c ?_).trans q) (λ_ q=>q) λ_ _ q=>q
  rintro rfl;rcases hc with rfl|hc
  ·rw [hfree] at e;cases e
  ·rw [hfree] at hc;cases hc
 rcases hx with hk|hk
 ·refine wpAny_storeName_local hk hn (λh' hn' hs=> ?_) hcls;obtain⟨oL,_,_,hoL,_⟩:=id hn;refine h _ ⟨I.ok,I.os,I.bare,⟨λb o e n hb hx=> ?_,λb o e n hb hx=> ?_,I.base.free,λb o e hx=> ?_,I.base.tups,I.base.frzs,I.base.tbls⟩,⟨_,hn',λj y v' e1 e2 e3=> ?_⟩,λy c e=> ?_,I.free,I.freeC,λp hp=> ?_,tracked ⟨oL,hoL,I.free⟩ hs,by simpa using I.len⟩ ⟨_,hs,.inl rfl⟩
  ·exact(hs.2 b (R1 (D3 (P3 e) I.ok.above))).trans (I.base.keep b o e n hb hx)
  ·obtain⟨sl,e1⟩:=I.base.slot b o e n hb hx;exact⟨sl,(hs.2 b (R1 (D3 (P3 e) I.ok.above))).trans e1⟩
  ·obtain⟨o',e1⟩:=I.base.there b o e hx;exact⟨o',(hs.2 b (R1 (D3 (P3 e) I.ok.above))).trans e1⟩
  ·by_cases hj:j=i
   ·subst hj;rw [hi] at e1;cases e1;rw [A6 hiσ] at e2;cases e2;exact⟨u,r,.inl ⟨hk,by simp⟩⟩
   ·rw [B3 (Ne.symm hj)] at e2;obtain⟨u',r',q⟩:=hl j y v' e1 e2 e3;refine⟨u',r',?_⟩;rcases q with ⟨k,e⟩|⟨k,c,e,z⟩
    ·refine .inl ⟨k,?_⟩;have:y≠x:=λe=>hj (Qb hN e1 (e ▸ hi))
     simp [this,e]
    ·exact .inr ⟨k,c,e,z.sameBut hs (cne y c e)⟩
  ·obtain⟨w',z⟩:=I.cell y c e;exact⟨w',z.sameBut hs (cne y c e)⟩
  ·obtain⟨e,n,ne,nf,d⟩:=I.pin p hp;exact⟨(hs.2 p.1 ne).trans e,n,ne,nf,d⟩
 ·have hfn:X.fn x=true:=by
   rcases hf with z|z
   ·exact z
   ·rw [z] at hk;cases hk
  obtain⟨c,hc⟩:=I.ok.has x (.inl hk);obtain⟨w',z⟩:=I.cell x c hc;refine wpAny_storeName_cell I.ok.kind hk hc z (λh' hc' hs=> ?_);obtain⟨oc,hoc,hocd⟩:=id z;refine h {s with heap:=h'} ⟨I.ok,I.os,I.bare,⟨λb o e n hb hx=> ?_,λb o e n hb hx=> ?_,I.base.free,λb o e hx=> ?_,I.base.tups,I.base.frzs,I.base.tbls⟩,⟨m,hn.sameBut hs (Ne.symm (cne x c hc)),λj y v' e1 e2 e3=> ?_⟩,λy c' e=> ?_,I.free,I.freeC,λp hp=> ?_,tracked ⟨oc,hoc,I.freeC x c hc⟩ hs,by simpa using I.len⟩ ⟨c,hs,.inr hc⟩
  ·exact(hs.2 b (R1 (D3 (P3 e) (I.ok.cab x c hfn hc)))).trans (I.base.keep b o e n hb hx)
  ·obtain⟨sl,e1⟩:=I.base.slot b o e n hb hx;exact⟨sl,(hs.2 b (R1 (D3 (P3 e) (I.ok.cab x c hfn hc)))).trans e1⟩
  ·obtain⟨o',e1⟩:=I.base.there b o e hx;exact⟨o',(hs.2 b (R1 (D3 (P3 e) (I.ok.cab x c hfn hc)))).trans e1⟩
  ·by_cases hj:j=i
   ·subst hj;rw [hi] at e1;cases e1;rw [A6 hiσ] at e2;cases e2;exact⟨u,r,.inr ⟨.inl hk,c,hc,hc'⟩⟩
   ·rw [B3 (Ne.symm hj)] at e2;obtain⟨u',r',q⟩:=hl j y v' e1 e2 e3;refine⟨u',r',?_⟩;rcases q with q|⟨k,c',e,z'⟩
    ·exact .inl q
    ·refine .inr ⟨k,c',e,z'.sameBut hs ?_⟩;rintro rfl;exact hj (Qb hN e1 (I.ok.inj _ _ _ e hc ▸ hi))
  ·by_cases hcc:c'=c
   ·subst hcc;exact⟨_,hc'⟩
   ·obtain⟨w2,z2⟩:=I.cell y c' e;exact⟨w2,z2.sameBut hs hcc⟩
  ·obtain⟨e,n,ne,nf,d⟩:=I.pin p hp;refine⟨(hs.2 p.1 ?_).trans e,n,ne,nf,d⟩;intro q;rw [q,hoc] at e;have q':oc=p.2:=S7 e;exact d w' (by rw [<-q'];exact hocd)
theorem yN {M:Model}{A:Around}{E:Value->Shared->Prop}{i:Nat}{x:Str}{v:V}{u:Value}{Q:Unit->Shared->Prop}(I:Inv X pins σ H s)(hN:X.N.Nodup)(hi:X.N[i]? =some x)(hx:Loc X.env.scope x)(r:RelV v u)
 (h: ∀s',Inv X pins (σ.set i (some v)) H s'->Q () s')(hf:X.fn x=true\/X.env.scope.names.lookup x=some .local:=by first|exact .inl rfl|exact .inr rfl|assumption):wpAny M A (storeName X.env x u) Q E s:=
 Fs I hN hi hx r (λs' I' _=>h s' I') hf
theorem Inv.call' {s':Shared}{ch:List Addr}(I:Inv X pins σ H s)(ho:s'.os=s.os)(u:Un (frs X.stack) ch H H' s.heap s'.heap)(hok:HOk X.prog X.w H' s'.heap)(hg:AllBare s'.gens)
 (hch: ∀b∈ch,(b∈X.ex\/X.s₀.heap.objs.size<=b)/\b≠X.env.locals/\(∀x c,X.env.cells.lookup x=some c->c≠b)/\ ∀p∈X.pn++pins,p.1≠b):Inv X pins σ H' s':=by
 obtain⟨h',g',d',t',o'⟩:=s';have e:o'=s.os:=ho;subst e;exact I.call (g':=g') (t':=t') (d':=d') u hok hg hch
end
abbrev XK:=Value->Option Addr->Hp->Prop
abbrev St:=List (Option V)
abbrev VK:=V->Hp->Prop
abbrev TE:=St->Hp->VK->Prop
abbrev TT:=St->Hp->(Bool->Hp->Prop)->Prop
abbrev TA:=St->Hp->(List V->Hp->Prop)->Prop
structure Ends where
 nx:St->Hp->Prop
 rt:VK
 bk:St->Hp->Prop:=λ_ _=>False
 ct:St->Hp->Prop:=λ_ _=>False
abbrev TS:=Ends->St->Hp->Prop
def EP (X:Cx)(pins:List (Addr×Obj))(σ:St)(Q:VK)(u:Value)(s':Shared):Prop:= ∃v H',Inv X pins σ H' s'/\RelV v u/\Q v H'
def TP (X:Cx)(pins:List (Addr×Obj))(σ:St)(Q:Bool->Hp->Prop)(b:Bool)(s':Shared):Prop:= ∃H',Inv X pins σ H' s'/\Q b H'
def AP (X:Cx)(pins:List (Addr×Obj))(σ:St)(Q:List V->Hp->Prop)(us:List Value)(s':Shared):Prop:= ∃vs H',Inv X pins σ H' s'/\Vals vs us/\Q vs H'
def SP (X:Cx)(pins:List (Addr×Obj))(D:Ends)(f:Flow)(s':Shared):Prop:=
 match f with
 | .next=> ∃σ' H',Inv X pins σ' H' s'/\D.nx σ' H'
 | .brk=> ∃σ' H',Inv X pins σ' H' s'/\D.bk σ' H'
 | .cont=> ∃σ' H',Inv X pins σ' H' s'/\D.ct σ' H'
 | .ret u=> ∃v σ' H',Inv X pins σ' H' s'/\RelV v u/\D.rt v H'
def PE (X:Cx)(e:Expr)(t:TE):Prop:=
 ∀ (pins:List (Addr×Obj)) (s:Shared) (σ:St) (H:Hp) (Q:VK),Inv X pins σ H s->t σ H Q->wpAny (model X.prog X.w) X.A (eval e X.env) (EP X pins σ Q) X.xe s
def PT (X:Cx)(e:Expr)(t:TT):Prop:=
 ∀ (pins:List (Addr×Obj)) (s:Shared) (σ:St) (H:Hp) (Q:Bool->Hp->Prop),Inv X pins σ H s->t σ H Q->wpAny (model X.prog X.w) X.A (isTrue e X.env (eval e X.env)) (TP X pins σ Q) X.xe s
def PW (X:Cx)(e:Expr)(t:TT):Prop:=
 ∀ (whole:Sem Value) (pins:List (Addr×Obj)) (s:Shared) (σ:St) (H:Hp) (Q:Bool->Hp->Prop),Inv X pins σ H s->t σ H Q->wpAny (model X.prog X.w) X.A (isTrue e X.env whole) (TP X pins σ Q) X.xe s
variable {X:Cx}
theorem PW.pt {e:Expr}{t:TT}(h:PW X e t):PT X e t:=h _
def PA (X:Cx)(es:List Expr)(t:TA):Prop:=
 ∀ (pos:Pos) (pins:List (Addr×Obj)) (s:Shared) (σ:St) (H:Hp) (Q:List V->Hp->Prop),Inv X pins σ H s->t σ H Q->wpAny (model X.prog X.w) X.A (spliced (backTo pos (starEach es X.env))) (AP X pins σ Q) X.xe s
def PS (X:Cx)(st:Stmt)(t:TS):Prop:=
 ∀ (pins:List (Addr×Obj)) (s:Shared) (σ:St) (H:Hp) (D:Ends),Inv X pins σ H s->t D σ H->wpAny (model X.prog X.w) X.A (exec st X.env) (SP X pins D) X.xe s
def PSs (X:Cx)(st:List Stmt)(t:TS):Prop:=
 ∀ (pins:List (Addr×Obj)) (s:Shared) (σ:St) (H:Hp) (D:Ends),Inv X pins σ H s->t D σ H->wpAny (model X.prog X.w) X.A (execs st X.env) (SP X pins D) X.xe s
variable {A:Around}{s:Shared}
theorem thn {α:Type}{t:Sem α}{Q Q':α->Shared->Prop}{M:Model}{E:Value->Shared->Prop}(h:wpAny M A t Q E s)(hQ: ∀a s,Q a s->Q' a s):wpAny M A t Q' E s:=D8 h hQ λ_ _ x=>x
section
variable {X:Cx}
def jb4 (i:Nat):TE:=λσ H Q=> ∃v,σ[i]? =some (some v)/\Q v H
def tC (v:V):TE:=λ_ H Q=>Q v H
variable {x:Str}
theorem uf {i:Nat}{pos:Pos}(hN:X.N[i]? =some x)(hv:Vis X.env.scope x)(hd:(x==("__debug__" :Str))=false:=by decide)(hcd:(x==("__classdict__" :Str))=false:=by decide):PE X (.Name x pos) (jb4 i):=by
 intro pins s σ H Q I h;obtain⟨v,e,h⟩:=h;obtain⟨m,hn,hl⟩:=I.loc;obtain⟨u,r,l⟩:=hl i x v hN e hv;have fin:EP X pins σ Q u s:=⟨v,H,I,r,h⟩;rcases l with ⟨hk,hm⟩|⟨hk,c,hc,hcell⟩
 ·exact G1m (Y5 I.ok.kind hk hn hm fin) hd
 ·rcases hk with hk|hk
  ·exact G1m (wpAny_loadName_cell I.ok.kind hk hc hcell fin) hd
  ·exact G1m (wpAny_loadName_free I.ok.kind hk hc hcell fin hcd) hd
theorem pe_int {i j pos}:PE X (.Constant (.int i) j pos) (tC (.int i)):=λ_ _ _ H _ I h=>wpAny_Constant_int ⟨.int i,H,I.tok _,⟨_,rfl⟩,h⟩
theorem pe_bl {b j pos}:PE X (.Constant (.bool b) j pos) (tC (.bl b)):=λ_ _ _ H _ I h=>Constant_bool ⟨.bl b,H,I,rfl,h⟩
theorem pe_non {j pos}:PE X (.Constant .none j pos) (tC .non):=λ_ _ _ H _ I h=>Constant_none ⟨.non,H,I,rfl,h⟩
theorem pe_str {x j pos}:PE X (.Constant (.str x) j pos) (tC (.str x)):=λ_ _ _ H _ I h=>Calls.Constant_str ⟨.str x,H,I.tok _,⟨_,rfl⟩,h⟩
def Gl (X:Cx)(x:Str):Prop:=X.env.kindOf x=some .globalImplicit
variable {u:Value}
theorem Yd {E:Value->Shared->Prop}{pins:List (Addr×Obj)}{s:Shared}{σ:St}{H:Hp}{pos:Pos}{Q:Value->Shared->Prop}(I:Inv X pins σ H s)(hg:Gl X x)(hm:X.mg x=some u)(h:Q u s)
 (hd:(x==("__debug__" :Str))=false:=by decide):wpAny (model X.prog X.w) X.A (eval (.Name x pos) X.env) Q E s:=
 G0g I.ok.kind hg (Calls.loadGlobal_global (by rw [I.ok.glob];exact I.mod.glob.keeps I.bk) hm h) hd
theorem vW {E:Value->Shared->Prop}{pins:List (Addr×Obj)}{s:Shared}{σ:St}{H:Hp}{pos:Pos}{Q:Value->Shared->Prop}(I:Inv X pins σ H s)(hg:Gl X x)(hm:X.mg x=none)(hv:bootBuiltins x=some u)(h:Q u s)
 (hn:x≠ "__name__" :=by decide)(hd:(x==("__debug__" :Str))=false:=by decide):wpAny (model X.prog X.w) X.A (eval (.Name x pos) X.env) Q E s:=by
 obtain⟨mb,h1,h2⟩:=I.mod.blt;exact G0g I.ok.kind hg (Calls.loadGlobal_builtin (by rw [I.ok.glob];exact I.mod.glob.keeps I.bk) hm (by rw [I.ok.blt];exact h1.keeps I.bk) ((h2 x hn).trans hv) h) hd
theorem Ft {v:V}{pos:Pos}(hg:Gl X x)(hm:X.mg x=some u)(r:RelV v u)(hd:(x==("__debug__" :Str))=false:=by decide):PE X (.Name x pos) (tC v):=
 λ_ _ _ H _ I h=>Yd I hg hm ⟨v,H,I,r,h⟩ hd
theorem Fu {v:V}{pos:Pos}(hg:Gl X x)(hm:X.mg x=none)(hv:bootBuiltins x=some u)(r:RelV v u)(hn:x≠ "__name__" :=by decide)(hd:(x==("__debug__" :Str))=false:=by decide):PE X (.Name x pos) (tC v):=
 λ_ _ _ H _ I h=>vW I hg hm hv ⟨v,H,I,r,h⟩ hn hd
variable {a b:Expr}{ta tb:TE}{pos:Pos}
def tB (t:TE):TT:=λσ H Q=>t σ H λx H1=> ∃c,x= .bl c/\Q c H1
theorem ug {e:Expr}{t:TE}(h:PE X e t)(he: ∀whole,isTrue e X.env whole=(do let v <-whole;standAt e.pos;holding [v] (truthy v)):=by intro _;rfl):PT X e (tB t):=by
 intro pins s σ H Q I hw;refine isTrue_plain (thn (h pins s σ H _ I hw) λv s1 ⟨x,H1,I1,r1,q1⟩=> ?_) (he _);obtain⟨d,rfl,q⟩:=q1;cases r1;exact B2 ⟨H1,I1,q⟩
variable {tA tB':TT}{rest:List Expr}
def jb5 (t u:TT):TT:=λσ H Q=>t σ H λc H1=>if c=true then u σ H1 Q else Q false H1
def tOr (t u:TT):TT:=λσ H Q=>t σ H λc H1=>if c=true then Q true H1 else u σ H1 Q
def jb6 (t:TT):TT:=λσ H Q=>t σ H λc H1=>Q (!c) H1
theorem Hd (ha:PT X a tA):PW X (.BoolOp .And [a] pos) tA:=by
 intro wh pins s σ H Q I h;refine isTrue_and (thn (ha pins s σ H Q I h) λc s1 e=> ?_);cases c with
 |true=>exact isTrue_and_nil e
 |false=>exact e
theorem uh (ha:PT X a tA):PW X (.BoolOp .Or [a] pos) tA:=by
 intro wh pins s σ H Q I h;refine isTrue_or (thn (ha pins s σ H Q I h) λc s1 e=> ?_);cases c with
 |false=>exact isTrue_or_nil e
 |true=>exact e
theorem ui (ha:PT X a tA)(hb:PW X (.BoolOp .And (b::rest) pos) tB'):PW X (.BoolOp .And (a::b::rest) pos) (jb5 tA tB'):=by
 intro wh pins s σ H Q I h;refine isTrue_and (thn (ha pins s σ H _ I h) λc s1 ⟨H1,I1,q1⟩=> ?_);cases c with
 |true=>exact hb wh pins s1 σ H1 Q I1 q1
 |false=>exact⟨H1,I1,q1⟩
theorem jaK (ha:PT X a tA)(hb:PW X (.BoolOp .Or (b::rest) pos) tB'):PW X (.BoolOp .Or (a::b::rest) pos) (tOr tA tB'):=by
 intro wh pins s σ H Q I h;refine isTrue_or (thn (ha pins s σ H _ I h) λc s1 ⟨H1,I1,q1⟩=> ?_);cases c with
 |true=>exact⟨H1,I1,q1⟩
 |false=>exact hb wh pins s1 σ H1 Q I1 q1
theorem uj (ha:PT X a tA):PT X (.UnaryOp .Not a pos) (jb6 tA):=by
 intro pins s σ H Q I h;exact isTrue_not (ha pins s σ H (λc H1=>Q (!c) H1) I h)
def ul (ta tb:TE):TE:=λσ H Q=>ta σ H λx H1=> ∃c,x= .bl c/\if c=true then tb σ H1 Q else Q (.bl false) H1
def jb7 (ta tb:TE):TE:=λσ H Q=>ta σ H λx H1=> ∃c,x= .bl c/\if c=true then Q (.bl true) H1 else tb σ H1 Q
def um (ta:TE):TE:=λσ H Q=>ta σ H λx H1=> ∃c,x= .bl c/\Q (.bl (!c)) H1
theorem uo {op}{t:TE}(h:PE X a t):PE X (.BoolOp op [a] pos) t:=λpins s σ H Q I hw=>BoolOp_one (h pins s σ H Q I hw)
theorem uq (ha:PE X a ta)(hb:PE X (.BoolOp .And (b::rest) pos) tb):PE X (.BoolOp .And (a::b::rest) pos) (ul ta tb):=by
 intro pins s σ H Q I h;refine BoolOp_and (thn (ha pins s σ H _ I h) λv s1 ⟨x,H1,I1,r1,q1⟩=> ?_);obtain⟨c,rfl,q1⟩:=q1;cases r1;refine B2 ?_;cases c with
 |true=>exact hb pins s1 σ H1 Q I1 q1
 |false=>exact⟨.bl false,H1,I1,rfl,q1⟩
theorem jaL (ha:PE X a ta)(hb:PE X (.BoolOp .Or (b::rest) pos) tb):PE X (.BoolOp .Or (a::b::rest) pos) (jb7 ta tb):=by
 intro pins s σ H Q I h;refine BoolOp_or (thn (ha pins s σ H _ I h) λv s1 ⟨x,H1,I1,r1,q1⟩=> ?_);obtain⟨c,rfl,q1⟩:=q1;cases r1;refine B2 ?_;cases c with
 |false=>exact hb pins s1 σ H1 Q I1 q1
 |true=>exact⟨.bl true,H1,I1,rfl,q1⟩
theorem ur (ha:PE X a ta):PE X (.UnaryOp .Not a pos) (um ta):=by
 intro pins s σ H Q I h;refine UnaryOp_ (thn (ha pins s σ H _ I h) λv s1 ⟨x,H1,I1,r1,q1⟩=> ?_);obtain⟨c,rfl,q1⟩:=q1;cases r1;exact not_of (B2 ⟨.bl (!c),H1,I1,rfl,q1⟩)
def tIf (t:TT)(ta tb:TE):TE:=λσ H Q=>t σ H λc H1=>if c=true then ta σ H1 Q else tb σ H1 Q
theorem Eg {c:Expr}(hc:PT X c tA)(ha:PE X a ta)(hb:PE X b tb):PE X (.IfExp c a b pos) (tIf tA ta tb):=by
 intro pins s σ H Q I h;refine wpAny_IfExp (thn (hc pins s σ H _ I h) λd s1 ⟨H1,I1,q1⟩=> ?_);cases d with
 |true=>exact ha pins s1 σ H1 Q I1 q1
 |false=>exact hb pins s1 σ H1 Q I1 q1
end
def SqL (K:PySem.W.Frag)(H:Hp)(a:Addr)(xs:List V):Prop:=
 Rd H a (.lst xs)\/
  ∃ (o:Obj) (its:Array Value) (n:Nat),K.lookup a=some o/\o.cls= .type "list" /\o.dict=none/\o.data= .seq its n/\its.size<=sizeLine/\Vals xs its.toList
def SqT (K:PySem.W.Frag)(H:Hp)(a:Addr)(xs:List V):Prop:=
 Rd H a (.tup xs)\/
  ∃ (o:Obj) (its:Array Value) (n:Nat),K.lookup a=some o/\o.cls= .type "tuple" /\o.data= .seq its n/\its.size<=sizeLine/\Vals xs its.toList
def jcJ:Value->Option V
 | .none=>some .non
 | .bool b=>some (.bl b)
 | .int i _=>some (.int i)
 | .str x _=>some (.str x)
 | .bytes b _=>some (.byt b)
 | .float b _=>some (.flt b)
 | .ref a=>some (.ref a)
 | .type n=>some (.ty n)
 |_=>none
theorem RelV.abs {x:V}(r:RelV x u):jcJ u=some x:=by
 cases x with
 |non=>cases r;rfl
 |bl _=>cases r;rfl
 |int _=>obtain⟨t,rfl⟩:=r;rfl
 |str _=>obtain⟨t,rfl⟩:=r;rfl
 |byt _=>obtain⟨t,rfl⟩:=r;rfl
 |flt _=>obtain⟨t,rfl⟩:=r;rfl
 |ref _=>cases r;rfl
 |ty _=>cases r;rfl
theorem RelV.inj {x y:V}(r:RelV x u)(q:RelV y u):x=y:=S7 (r.abs.symm.trans q.abs)
theorem Vals.inj: ∀ {xs ys:List V} {us:List Value},Vals xs us->Vals ys us->xs=ys
 |_,_,_,.nil,.nil=>rfl
 |_,_,_,.cons r t,.cons r' t'=>by rw [r.inj r',Vals.inj t t']
section
variable {X:Cx}{pins:List (Addr×Obj)}{σ:St}{H:Hp}{s:Shared}{a:Addr}{xs ys:List V}
theorem SqL.of {K:PySem.W.Frag}(h:H a=some (.lst xs)):SqL K H a xs:= .inl (.inl h)
theorem SqT.of {K:PySem.W.Frag}(h:H a=some (.tup xs)):SqT K H a xs:= .inl (.inl h)
theorem Inv.list (I:Inv X pins σ H s)(h:SqL X.K H a xs): ∃its:List Value,Vals xs its/\PlainL s.heap a its.toArray/\xs.length<=sizeLine:=by
 rcases h with h|⟨o,its,n,hk,hc,hd,hs,hz,r⟩
 ·obtain⟨z,its,n,r,e⟩:=h.ok I.hok;exact⟨its,r,⟨_,n,e,rfl,rfl,rfl⟩,z⟩
 ·refine⟨its.toList,r,⟨o,n,I.kIn a o hk,hc,hd,by simpa using hs⟩,?_⟩;have e:=r.length;simp only [T1] at e;omega
theorem Inv.tuple (I:Inv X pins σ H s)(h:SqT X.K H a xs): ∃its:List Value,Vals xs its/\IsTup s.heap a its.toArray/\xs.length<=sizeLine:=by
 rcases h with h|⟨o,its,n,hk,hc,hs,hz,r⟩
 ·obtain⟨z,its,r,p⟩:=h.ok I.hok;exact⟨its,r,p.tup,z⟩
 ·refine⟨its.toList,r,⟨o,I.kIn a o hk,hc,n,by simpa using hs⟩,?_⟩;have e:=r.length;simp only [T1] at e;omega
theorem Inv.list_inj (I:Inv X pins σ H s)(h:SqL X.K H a xs)(h':SqL X.K H a ys):xs=ys:=by
 obtain⟨its,r,⟨o,n,e,_,_,d⟩,_⟩:=I.list h;obtain⟨its',r',⟨o',n',e',_,_,d'⟩,_⟩:=I.list h';rw [e] at e';cases e';rw [d] at d';injection d' with d1 _
 have:its=its':=by simpa using congrArg Array.toList d1
 subst this;exact r.inj r'
theorem Inv.tuple_inj (I:Inv X pins σ H s)(h:SqT X.K H a xs)(h':SqT X.K H a ys):xs=ys:=by
 obtain⟨its,r,⟨o,e,_,n,d⟩,_⟩:=I.tuple h;obtain⟨its',r',⟨o',e',_,n',d'⟩,_⟩:=I.tuple h';rw [e] at e';cases e';rw [d] at d';injection d' with d1 _
 have:its=its':=by simpa using congrArg Array.toList d1
 subst this;exact r.inj r'
end
abbrev Cx.wish (X:Cx)(E:Value->Shared->Prop):Cx:= {X with xe:=E}
abbrev Cx.nox (X:Cx):Cx:=X.wish λ_ _=>False
theorem Cx.Ok.wish (ok:X.Ok)(E:Value->Shared->Prop):(X.wish E).Ok:=
 ⟨ok.mod,ok.kind,ok.glob,ok.blt,ok.above,ok.inj,ok.has,ok.cab,ok.hd,ok.frames,ok.stk,ok.exf,ok.bs,ok.bsz,ok.noex,ok.exfs,ok.funs,ok.frf⟩
theorem Cx.Ok.unwish {E:Value->Shared->Prop}(ok:(X.wish E).Ok):X.Ok:=
 ⟨ok.mod,ok.kind,ok.glob,ok.blt,ok.above,ok.inj,ok.has,ok.cab,ok.hd,ok.frames,ok.stk,ok.exf,ok.bs,ok.bsz,ok.noex,ok.exfs,ok.funs,ok.frf⟩
section
variable {X:Cx}{pins:List (Addr×Obj)}{σ:St}{H:Hp}{s:Shared}{E:Value->Shared->Prop}
theorem Inv.wish (I:Inv X pins σ H s)(E:Value->Shared->Prop):Inv (X.wish E) pins σ H s:=⟨I.ok.wish E,I.os,I.bare,I.base,I.loc,I.cell,I.free,I.freeC,I.pin,I.hok,I.len⟩
theorem Inv.unwish (I:Inv (X.wish E) pins σ H s):Inv X pins σ H s:=⟨I.ok.unwish,I.os,I.bare,I.base,I.loc,I.cell,I.free,I.freeC,I.pin,I.hok,I.len⟩
theorem SP.unwish {D:Ends}{f:Flow}{s':Shared}(h:SP (X.wish E) pins D f s'):SP X pins D f s':=by
 cases f with
 |next=>obtain⟨σ',H',I,q⟩:=h;exact⟨σ',H',I.unwish,q⟩
 |brk=>obtain⟨σ',H',I,q⟩:=h;exact⟨σ',H',I.unwish,q⟩
 |cont=>obtain⟨σ',H',I,q⟩:=h;exact⟨σ',H',I.unwish,q⟩
 |ret u=>obtain⟨v,σ',H',I,r,q⟩:=h;exact⟨v,σ',H',I.unwish,r,q⟩
theorem PSs.nox {st:List Stmt}{t:TS}(h:PSs X.nox st t):PSs X st t:=λpins s σ H D I hw=>
 D8 (h pins s σ H D (I.wish _) hw) (λ_ _ q=>q.unwish) λ_ _ z=>False.elim z
end
section
variable {X:Cx}{st:Stmt}{rest:List Stmt}{t u:TS}{e:Expr}{te:TE}{pos:Pos}
def ut:TS:=λD σ H=>D.nx σ H
def jb8 (t u:TS):TS:=λD σ H=>t {D with nx:=u D} σ H
theorem pss_nil:PSs X [] ut:=λ_ _ σ H _ I h=>K9 ⟨σ,H,I,h⟩
theorem Eh (h1:PS X st t)(h2:PSs X rest u):PSs X (st::rest) (jb8 t u):=by
 intro pins s σ H D I h;refine C0 (thn (h1 pins s σ H {D with nx:=u D} I h) λf s1 q=> ?_);cases f with
 |next=>
  obtain⟨σ',H',I',q⟩:=q;exact h2 pins s1 σ' H' D I' q
 |ret v=>exact q
 |brk=>exact q
 |cont=>exact q
theorem He (h1:PS X st t):PSs X [st] t:=by
 intro pins s σ H D I h;refine C0 (thn (h1 pins s σ H D I h) λf s1 q=> ?_);cases f with
 |next=>exact K9 q
 |ret v=>exact q
 |brk=>exact q
 |cont=>exact q
theorem Inv.quiet {pins:List (Addr×Obj)}{σ:St}{H:Hp}{s:Shared}(I:Inv X pins σ H s):interactive X.env=false:=by simp [interactive,I.ok.kind]
def uv (te:TE):TS:=λD σ H=>te σ H λ_ H1=>D.nx σ H1
theorem Hf (he:PE X e te)(hs:swapsWith e none pos.line X.env=pure false:=by rfl):PS X (.Expr e pos) (uv te):=by
 intro pins s σ H D I h;exact wpAny_Expr_any (thn (he pins s σ H _ I h) λv s1 ⟨x,H1,I1,r1,q1⟩=>⟨σ,H1,I1,q1⟩) I.quiet hs
def jb9 (te:TE):TS:=λD σ H=>te σ H D.rt
theorem uw (he:PE X e te):PS X (.Return (some e) pos) (jb9 te):=by
 intro pins s σ H D I h;exact wpAny_Return_some (thn (he pins s σ H _ I h) λv s1 ⟨x,H1,I1,r1,q1⟩=>⟨x,σ,H1,I1,r1,q1⟩)
def jca (c:TT)(t u:TS):TS:=λD σ H=>c σ H λb H1=>if b=true then t D σ H1 else u D σ H1
theorem jaM {c:Expr}{a b:List Stmt}{tc:TT}(hc:PT X c tc)(ha:PSs X a t)(hb:PSs X b u):PS X (.If c a b pos) (jca tc t u):=by
 intro pins s σ H D I h;refine wpAny_If (thn (hc pins s σ H _ I h) λd s1 ⟨H1,I1,q1⟩=> ?_);cases d with
 |true=>exact ha pins s1 σ H1 D I1 q1
 |false=>exact hb pins s1 σ H1 D I1 q1
end
abbrev TG:=V->St->Hp->(St->Hp->Prop)->Prop
abbrev TGs:=List V->St->Hp->(St->Hp->Prop)->Prop
def PG (X:Cx)(target:Expr)(t:TG):Prop:=
 ∀ (pins:List (Addr×Obj)) (s:Shared) (σ:St) (H:Hp) (v:V) (u:Value) (Q:St->Hp->Prop),Inv X pins σ H s->RelV v u->t v σ H Q->
  wpAny (model X.prog X.w) X.A (assign target X.env u) (λ_ s'=> ∃σ' H',Inv X pins σ' H' s'/\Q σ' H') X.xe s
def PGs (X:Cx)(ts:List Expr)(t:TGs):Prop:=
 ∀ (pins:List (Addr×Obj)) (s:Shared) (σ:St) (H:Hp) (vs:List V) (us:List Value) (Q:St->Hp->Prop),Inv X pins σ H s->Vals vs us->t vs σ H Q->
  wpAny (model X.prog X.w) X.A (assignInOrder ((assignEach ts X.env).map (·.2)) us) (λ_ s'=> ∃σ' H',Inv X pins σ' H' s'/\Q σ' H') X.xe s
abbrev jaN:=V->V->V->Hp->(Hp->Prop)->Prop
def jcb (X:Cx)(t:jaN):Prop:=
 ∀ (pins:List (Addr×Obj)) (s:Shared) (σ:St) (H:Hp) (o i v:V) (ov iv u:Value) (Q:Hp->Prop),Inv X pins σ H s->RelV o ov->RelV i iv->RelV v u->t o i v H Q->
  wpAny (model X.prog X.w) X.A (setItem ov iv u) (λ_ s'=> ∃H',Inv X pins σ H' s'/\Q H') X.xe s
abbrev TIp:=V->V->Hp->VK->Prop
def PIp (X:Cx)(op:Operator)(t:TIp):Prop:=
 ∀ (pins:List (Addr×Obj)) (s:Shared) (σ:St) (H:Hp) (x y:V) (v u:Value) (Q:VK),Inv X pins σ H s->RelV x v->RelV y u->t x y H Q->
  wpAny (model X.prog X.w) X.A (inplaceOp op v u) (EP X pins σ Q) X.xe s
section
variable {X:Cx}{pos:Pos}
def vX (i:Nat):TG:=λv σ H Q=>Q (σ.set i (some v)) H
variable {i:Nat}{x:Str}
theorem vY (hN:X.N.Nodup)(hi:X.N[i]? =some x)(hx:Loc X.env.scope x)(hf:X.fn x=true\/X.env.scope.names.lookup x=some .local:=by first|exact .inl rfl|exact .inr rfl|assumption):PG X (.Name x pos) (vX i):=by
 intro pins s σ H v u Q I r h;exact wpAny_assign_Name (yN I hN hi hx r (λs' I'=>⟨_,H,I',h⟩) hf)
def jax:TGs:=λvs σ H Q=>vs= []/\Q σ H
def Pw (t:TG)(u:TGs):TGs:=λvs σ H Q=> ∃v r,vs=v::r/\t v σ H λσ' H'=>u r σ' H' Q
theorem Mi:PGs X [] jax:=by
 intro pins s σ H vs us Q I r h;obtain⟨e,h⟩:=h;subst e;cases r;exact assignInOrder_nil ⟨σ,H,I,h⟩
variable {e:Expr}
theorem vk {es:List Expr}{t:TG}{u:TGs}(h1:PG X e t)(h2:PGs X es u)
 (hs:(assignEach (e::es) X.env).map (·.2)=assign e X.env::(assignEach es X.env).map (·.2):=by rfl):PGs X (e::es) (Pw t u):=by
 intro pins s σ H vs us Q I r h;obtain⟨v,vr,e1,h⟩:=h;subst e1;cases r with
 |cons r rr=>
  rw [hs];refine G0p (thn (h1 pins s σ H _ _ _ I r h) λ_ s1 ⟨σ1,H1,I1,q1⟩=> ?_);exact h2 pins s1 σ1 H1 _ _ Q I1 rr q1
def jay (K:PySem.W.Frag)(n:Nat)(t:TGs):TG:=λv σ H Q=> ∃a xs,v= .ref a/\SqT K H a xs/\xs.length=n/\t xs σ H Q
theorem Fv {es:List Expr}{k:Nat}{t:TGs}{n:Nat}(hc:X.calm=true)(h:PGs X es t)
 (hn:(assignEach es X.env).length=n:=by rfl)(hst:(assignEach es X.env).findIdx? (·.1)=none:=by rfl):PG X (.Tuple es k pos) (jay X.K n t):=by
 intro pins s σ H v u Q I r hw;obtain⟨a,xs,e1,hq,hl,hw⟩:=hw;subst e1;cases r;obtain⟨its,rv,ht,hz⟩:=I.tuple hq;refine assign_Tuple_tuple (I.ok.hd hc) ht (by simp [hn,<-hl,rv.length]) hst λh' hx=> ?_
 have I1:Inv X pins σ H {s with heap:=h'}:=I.kept (t':=s.toks) λb o e=>hx b o (R1 (P3 e)) e
 exact h pins _ σ H xs _ Q I1 (by simpa using rv) hw
def jcK (to ti:TE)(t:jaN):TG:=λv σ H Q=>to σ H λo H1=>ti σ H1 λi H2=>t o i v H2 λH3=>Q σ H3
theorem uA {o i:Expr}{to ti:TE}{t:jaN}(ho:PE X o to)(hi:PE X i ti)(hs:jcb X t)
 (ha: ∀v,assign (.Subscript o i pos) X.env v=(do
  let ov <-holding [v] (eval o X.env)
  let iv <-holding [v,ov] (eval i X.env)
  standAt pos
  holding [v,ov,iv] (setItem ov iv v)
  release [v,ov,iv] []):=by intro _;rfl):PG X (.Subscript o i pos) (jcK to ti t):=by
 intro pins s σ H v u Q I r h;rw [ha];refine wpAny_bind (B8 (thn (ho pins s σ H _ I h) λov s1 ⟨x,H1,I1,r1,q1⟩=> ?_));refine wpAny_bind (B8 (thn (hi pins s1 σ H1 _ I1 q1) λiv s2 ⟨y,H2,I2,r2,q2⟩=> ?_));refine wpAny_bind (Z0 (wpAny_bind (B8 (thn (hs pins s2 σ H2 x y v ov iv u _ I2 r1 r2 r q2) λ_ s3 ⟨H3,I3,q3⟩=> ?_))));exact wpAny_release ⟨σ,H3,I3,q3⟩
def jaz (te:TE)(g:TG):TS:=λD σ H=>te σ H λx H1=>g x σ H1 D.nx
theorem uB {tg:Expr}{te:TE}{g:TG}(he:PE X e te)(hg:PG X tg g)(hs:swapsWithSole [tg] e pos.line X.env=pure false:=by rfl)(hw:swappedStores [tg] e X.env=pure none:=by rfl)
 (h1:(assignEach [tg] X.env).map (·.2)= [assign tg X.env]:=by rfl):PS X (.Assign [tg] e pos) (jaz te g):=by
 intro pins s σ H D I h;refine wpAny_Assign_stores (thn (he pins s σ H _ I h) λv s1 ⟨x,H1,I1,r1,q1⟩=> ?_) hs hw;rw [h1];exact thn (hg pins s1 σ H1 x v _ I1 r1 q1) λ_ s2 q=>q
theorem uC {te:TE}{pos':Pos}(hN:X.N.Nodup)(hi:X.N[i]? =some x)(hx:Loc X.env.scope x)(he:PE X e te)(hs:swapsWith e (some (.Name x pos')) pos.line X.env=pure false:=by rfl)(hf:X.fn x=true\/X.env.scope.names.lookup x=some .local:=by first|exact .inl rfl|exact .inr rfl|assumption):
 PS X (.Assign [.Name x pos'] e pos) (jaz te (vX i)):=by
 intro pins s σ H D I h;refine G0z (thn (he pins s σ H _ I h) λv s1 ⟨y,H1,I1,r1,q1⟩=> ?_) hs;exact yN I1 hN hi hx r1 (λs2 I2=>⟨_,H1,I2,q1⟩) hf
def jcc (i j:Nat)(ta:TA):TS:=λD σ H=>ta σ H λvs H1=> ∃v w,vs= [v,w]/\D.nx ((σ.set i (some v)).set j (some w)) H1
theorem uD {j:Nat}{y:Str}{a b:Expr}{ta:TA}{px py pt:Pos}{kt k2 pt2}(hc:X.calm=true)(hN:X.N.Nodup)(hi:X.N[i]? =some x)(hj:X.N[j]? =some y)(hij:i≠j)
 (hx:X.env.scope.names.lookup x=some .local)(hy:X.env.scope.names.lookup y=some .local)(ha:PA X [a,b] ta)
 (hw:swappedStores [.Tuple [.Name x px,.Name y py] kt pt] (.Tuple [a,b] k2 pt2) X.env=pure (some [x,y]))
 (hs:swapsWithSole [.Tuple [.Name x px,.Name y py] kt pt] (.Tuple [a,b] k2 pt2) pos.line X.env=pure false:=by rfl):
 PS X (.Assign [.Tuple [.Name x px,.Name y py] kt pt] (.Tuple [a,b] k2 pt2) pos) (jcc i j ta):=by
 intro pins s σ H D I h;rw [exec_Assign_arm];refine wpAny_bind (Z0 ?_);rw [hs];refine wpAny_bind (G9 ?_);rw [if_neg (by decide)];refine wpAny_bind (Tuple_ (thn (ha _ pins s σ H _ I h) λus s1 ⟨vs,H1,I1,r1,q1⟩=> ?_));obtain⟨v,w,e1,q1⟩:=q1;subst e1;obtain⟨u1,u2,rfl,rv,rw'⟩: ∃u1 u2,us= [u1,u2]/\RelV v u1/\RelV w u2:=by
  cases r1 with
  |cons p q=>
   cases q with
   |cons p' q'=>
    cases q';exact⟨_,_,rfl,p,p'⟩
 refine E8 ?_ (by show 2<=sizeLine;decide);have I2:Inv X pins σ H1 {s1 with heap:=s1.heap.push {cls:= .type "tuple",data:= .seq [u1,u2].toArray}}:=I1.kept (t':=s1.toks) λb o e=>G1 _ e
 rw [hw];refine wpAny_bind (G9 ?_);show wpAny (model X.prog X.w) X.A (do rule "assign.swapped-stores";let items <-unpackItems (.ref s1.heap.objs.size) 2 none;assignInOrder [λv=>bindName X.env y v,λv=>bindName X.env x v] items.reverse;pure Flow.next) _ _ _;refine wpAny_bind (Z6 (wpAny_bind (unpackItems_tuple (items:= #[u1,u2]) (I.ok.hd hc) (IsTup.new s1.heap _) λh' hx'=> ?_)));have I3:=I2.kept (h':=h') (t':=s1.toks) λb o e=>hx' b o (R1 (P3 e)) e
 show wpAny _ _ (assignInOrder [λv=>bindName X.env y v,λv=>bindName X.env x v] [u2,u1] >>= λ_=>pure Flow.next) _ _ _;refine wpAny_bind (G0p (G1a (yN I3 hN hj (.inl hy) rw' (λs2 I4=> ?_) (.inr hy))));refine G0p (G1a (yN I4 hN hi (.inl hx) rv (λs3 I5=>assignInOrder_nil (G9 ?_)) (.inr hx)));rw [List.set_comm _ _ (Ne.symm hij)] at I5;exact⟨_,H1,I5,q1⟩
def jcd (i:Nat)(te:TE)(ti:TIp):TS:=λD σ H=> ∃x,σ[i]? =some (some x)/\te σ H λy H1=>ti x y H1 λz H2=>D.nx (σ.set i (some z)) H2
theorem Tn {te:TE}{op:Operator}{ti:TIp}{pos':Pos}(hN:X.N.Nodup)(hi:X.N[i]? =some x)(hx:Loc X.env.scope x)(he:PE X e te)(ho:PIp X op ti)(hf:X.fn x=true\/X.env.scope.names.lookup x=some .local:=by first|exact .inl rfl|exact .inr rfl|assumption):
 PS X (.AugAssign (.Name x pos') op e pos) (jcd i te ti):=by
 intro pins s σ H D I h;obtain⟨v,e1,h⟩:=h;obtain⟨m,hn,hl⟩:=I.loc;have vis:Vis X.env.scope x:=by rcases hx with k|k;exact .inl k;exact .inr (.inl k)
 obtain⟨u,r,l⟩:=hl i x v hi e1 vis;refine wpAny_AugAssign_Name ?_;have go:wpAny (model X.prog X.w) X.A (eval e X.env) (λw s₂=>wpAny (model X.prog X.w) X.A (inplaceOp op u w) (λr s₃=>wpAny (model X.prog X.w) X.A (storeName X.env x r) (λ_=>SP X pins D .next) X.xe s₃) X.xe s₂) X.xe s:=by
  refine thn (he pins s σ H _ I h) λw s1 ⟨y,H1,I1,r1,q1⟩=> ?_
  refine thn (ho pins s1 σ H1 v y u w _ I1 r r1 q1) λz s2 ⟨zv,H2,I2,r2,q2⟩=> ?_
  exact yN I2 hN hi hx r2 (λs3 I3=>⟨_,H2,I3,q2⟩) hf
 rcases l with ⟨hk,hm⟩|⟨hk,c,hc,hcell⟩
 ·exact Y5 I.ok.kind hk hn hm go
 ·rcases hk with hk|hk
  ·exact wpAny_loadName_cell I.ok.kind hk hc hcell go
  ·rcases hx with k|k
   ·have:X.env.scope.names.lookup x=some .free:=hk;rw [k] at this;cases this
   ·have:X.env.scope.names.lookup x=some .free:=hk;rw [k] at this;cases this
def ipI (f:Int->Int->Int):TIp:=λx y H Q=> ∃i j,x= .int i/\y= .int j/\Q (.int (f i j)) H
theorem uE:PIp X .Add (ipI λi j=>i+j):=by
 intro pins s σ H x y v u Q I r1 r2 h;obtain⟨i,j,e1,e2,q⟩:=h;subst e1;subst e2;obtain⟨t,rfl⟩:=r1;obtain⟨t',rfl⟩:=r2;exact iadd_int ⟨.int _,H,I.tok _,⟨_,rfl⟩,q⟩
theorem uF:PIp X .Sub (ipI λi j=>i-j):=by
 intro pins s σ H x y v u Q I r1 r2 h;obtain⟨i,j,e1,e2,q⟩:=h;subst e1;subst e2;obtain⟨t,rfl⟩:=r1;obtain⟨t',rfl⟩:=r2;exact isub_int ⟨.int _,H,I.tok _,⟨_,rfl⟩,q⟩
def To (c:TT)(tb:TS):TS:=λD σ H=> ∃W:Nat->St->Hp->Prop,(∃m,W m σ H)/\ ∀m σ H,W m σ H->
 c σ H λb H1=>if b=true then ∃N:St->Hp->Prop,(∀σ' H',N σ' H'-> ∃m',m'<m/\W m' σ' H')/\tb {D with nx:=N,ct:=N,bk:=D.nx} σ H1 else D.nx σ H1
theorem Ei {c:Expr}{body:List Stmt}{tc:TT}{tb:TS}(hp:PassesOwn (model X.prog X.w) X.A X.env X.xe)(hc:PT X c tc)(hb:PSs X body tb):PS X (.While c body [] pos) (To tc tb):=by
 intro pins s σ H D I h;obtain⟨W,⟨m0,w0⟩,turn⟩:=h;refine wpAny_While (codeAny_whileLoop (λn s'=> ∃σ' H',Inv X pins σ' H' s'/\W n σ' H') ?_ m0 ⟨σ,H,I,w0⟩);rintro n s1 ⟨σ1,H1,I1,w1⟩;refine E9 hp (thn (hc pins s1 σ1 H1 _ I1 (turn n σ1 H1 w1)) λb s2 ⟨H2,I2,q2⟩=> ?_);cases b with
 |true=>
  obtain⟨N,hN,q2⟩:=q2;rw [if_pos rfl];refine E9 hp (thn (hb pins s2 σ1 H2 _ I2 q2) λf s3 q3=> ?_);cases f with
  |next=>
   obtain⟨σ3,H3,I3,n3⟩:=q3;obtain⟨m',hm,w3⟩:=hN σ3 H3 n3;exact⟨m',hm,σ3,H3,I3,w3⟩
  |cont=>
   obtain⟨σ3,H3,I3,n3⟩:=q3;obtain⟨m',hm,w3⟩:=hN σ3 H3 n3;exact⟨m',hm,σ3,H3,I3,w3⟩
  |brk=>exact q3
  |ret v=>exact q3
 |false=>
  rw [if_neg P6];exact K9 ⟨σ1,H2,I2,q2⟩
end
structure It where
 go:Nat->Hp->Prop
 yld:Nat->Hp->V->Hp->Prop
 stop:Nat->Hp->Prop
def Fb (X:Cx)(pins:List (Addr×Obj))(H:Hp)(b:Addr):Prop:=
 H b=none/\b≠X.env.locals/\b ∉ X.fs/\(b∈X.ex\/X.s₀.heap.objs.size<=b)/\(∀x c,X.env.cells.lookup x=some c->c≠b)/\ ∀p∈X.pn++pins,p.1≠b
theorem Inv.fpOk {pins:List (Addr×Obj)}{σ:St}{H':Hp}(I:Inv X pins σ H s)(hb:s.heap.objs.size<=b)(hn:H' b=none):Fb X pins H' b:=by
 refine⟨hn,F7 (D3 I.lt hb),I.nofs hb,.inr (S1 I.sz hb),λx c e z=> ?_,λp hp z=> ?_⟩
 ·obtain⟨v,q⟩:=I.cell x c e;exact absurd (D3 q.lt (by rw [z];exact hb)) (T6 _)
 ·exact absurd (D3 (P3 (I.pin p hp).1) (by rw [z];exact hb)) (T6 _)
structure Turn (P:Program)(w:World)(K:PySem.W.Frag)(tg:Expr)(J:It)(fp:List Addr)(it:Addr)(tn:Nat->Heap->Prop):Prop where
 mem:it∈fp
 obj: ∀i h,tn i h-> ∀b∈fp,∃o,h.get? b=some o/\ ∀v,o.data≠ .cell v
 keep: ∀i h h',tn i h->(∀b∈fp,∀o,h.get? b=some o->h'.get? b=some o)->tn i h'
 item: ∀ (X:Cx),X.prog=P->X.w=w->X.K=K->X.calm=true-> ∀ (i:Nat) (pins:List (Addr×Obj)) (s:Shared) (σ:St) (H:Hp) (E:Value->Shared->Prop),Inv X pins σ H s->(∀b∈fp,Fb X pins H b)->tn i s.heap->J.go i H->
  wpAny (model P w) X.A (pyNext (.ref it)) (λr s1=> ∃u,r=some u/\
   wpAny (model P w) X.A (letOwnedTupleGo tg (.ref it) u) (λ_ s2=> ∃x H',Inv X pins σ H' s2/\RelV x u/\J.yld i H x H'/\tn (i+1) s2.heap/\ ∀b∈fp,H' b=none) E s1) E s
 done: ∀ (X:Cx),X.prog=P->X.w=w->X.K=K->X.calm=true-> ∀ (i:Nat) (pins:List (Addr×Obj)) (s:Shared) (σ:St) (H:Hp) (E:Value->Shared->Prop),Inv X pins σ H s->(∀b∈fp,Fb X pins H b)->tn i s.heap->J.stop i H->
  wpAny (model P w) X.A (pyNext (.ref it)) (λr s1=>r=none/\Inv X pins σ H s1) E s
 self: ∀ (A:Around) (i:Nat) (s:Shared) (Q:Value->Shared->Prop) (E:Value->Shared->Prop),tn i s.heap->Q (.ref it) s->wpAny (model P w) A (pyIter (.ref it)) Q E s
abbrev TI:=St->Hp->(It->Hp->Prop)->Prop
def PIE (X:Cx)(pins:List (Addr×Obj))(σ:St)(tg:Expr)(R:It->Hp->Prop)(itv:Value)(s2:Shared):Prop:=
 ∃ (it:Addr) (fp:List Addr) (tn:Nat->Heap->Prop) (J:It) (H':Hp),itv= .ref it/\Inv X pins σ H' s2/\Turn X.prog X.w X.K tg J fp it tn/\tn 0 s2.heap/\(∀b∈fp,Fb X pins H' b)/\R J H'
def PI (X:Cx)(tg iter:Expr)(wi:TI):Prop:=
 ∀ (pins:List (Addr×Obj)) (s:Shared) (σ:St) (H:Hp) (R:It->Hp->Prop),Inv X pins σ H s->wi σ H R->
  wpAny (model X.prog X.w) X.A (eval iter X.env) (λv s1=>wpAny (model X.prog X.w) X.A (pyIter v) (PIE X pins σ tg R) X.xe s1) X.xe s
variable {tg:Expr}
theorem Ej {M : Model} {E : Value → Shared → Prop} {it : Addr} {o : Obj} {n : String} {vs : Array Value} {Q : Unit → Shared → Prop} (ho : s.heap.get? it = some o) (hc : o.cls = .type n) (hd : o.data = .fields vs)
    (hn : ["enumerate", "zip", "dict_itemiterator", "dict_reverseitemiterator", "odict_iterator", "itertools.zip_longest", "itertools.pairwise"].contains n = false) (hQ : Q () s) : wpAny M A (letOwnedTupleGo tg (.ref it) u) Q E s := by
  unfold letOwnedTupleGo
  cases tg <;> first
    | exact G9 hQ
    | (cases u <;> first
        | exact G9 hQ
        | (refine wpAny_bind (wpAny_load ho ?_)
           rw [hc, hd]
           show wpAny M A (if (["enumerate", "zip", "dict_itemiterator", "dict_reverseitemiterator", "odict_iterator", "itertools.zip_longest", "itertools.pairwise"].contains n && vs[0]? == some (rawInt _)) = true then _ else _) Q E s
           rw [if_neg (by intro h; rw [hn, G1b] at h; cases h)]
           exact G9 hQ))
def Itl (K:PySem.W.Frag)(a:Addr):It:=
 ⟨λi H=> ∃xs x,SqL K H a xs/\xs[i]? =some x,λi H x H'=>H'=H/\ ∀xs,SqL K H a xs->xs[i]? =some x,λi H=> ∃xs,SqL K H a xs/\xs.length<=i⟩
def Itt (K:PySem.W.Frag)(a:Addr):It:=
 ⟨λi H=> ∃xs x,SqT K H a xs/\xs[i]? =some x,λi H x H'=>H'=H/\ ∀xs,SqT K H a xs->xs[i]? =some x,λi H=> ∃xs,SqT K H a xs/\xs.length<=i⟩
def Itr (lo:Int)(n:Nat):It:=⟨λi _=>i<n,λi H x H'=>H'=H/\x= .int (lo+i),λi _=>n<=i⟩
variable {K:PySem.W.Frag}
theorem Px (a it:Addr):Turn P w K tg (Itl K a) [it] it (λi h=>h.IsListIter it a i) where
 mem:=by simp
 obj:=λi h st b hb=>by
  have e:b=it:=by simpa using hb
  subst e;obtain⟨o,e,c,d⟩:=st;exact⟨o,e,λv z=>by rw [d] at z;cases z⟩
 keep:=λi h h' st k=>st.at λo e=>k it (by simp) o e
 item:=by
  intro X hP hw hK hc i pins s σ H E I hf st hg;subst hP hw hK;obtain⟨xs,x,hq,hx⟩:=hg;obtain⟨its,rv,p,hz⟩:=I.list hq;obtain⟨u,hu,ru⟩:=rv.get hx;obtain⟨f0,f1,f2,f3,f4,f5⟩:=hf it (by simp);refine wpAny_pyNext_list_item st p.isList (x:=u) (by simpa using hu) λh' st' sb=> ?_
  have I1:Inv X pins σ H {s with heap:=h'}:=I.turned (t':=s.toks) (λb o hb e=>(sb.2 b hb).trans e) f0 f1 f3 f4 f5;obtain⟨o,e,c,d⟩:=id st';exact⟨u,rfl,Ej (s:= {s with heap:=h'}) e c d (by decide) ⟨x,H,I1,ru,⟨rfl,λys hy=>by rw [I.list_inj hy hq];exact hx⟩,st',λb hb=>(hf b hb).1⟩⟩
 done:=by
  intro X hP hw hK hc i pins s σ H E I hf st hg;subst hP hw hK;obtain⟨xs,hq,hx⟩:=hg;obtain⟨its,rv,p,hz⟩:=I.list hq;obtain⟨f0,f1,f2,f3,f4,f5⟩:=hf it (by simp);have hl:=rv.length;exact wpAny_pyNext_list_end (I.ok.hd hc) st p.isList (by simp;omega) λh' eb=>⟨rfl,I.turned (t':=s.toks) (λb o hb e=>eb b o hb e) f0 f1 f3 f4 f5⟩
 self:=λ_ _ _ _ _ st h=>wpAny_pyIter_listiter st h
theorem BP (a it:Addr):Turn P w K tg (Itt K a) [it] it (λi h=>h.IsTupleIter it a i) where
 mem:=by simp
 obj:=λi h st b hb=>by
  have e:b=it:=by simpa using hb
  subst e;obtain⟨o,e,c,d⟩:=st;exact⟨o,e,λv z=>by rw [d] at z;cases z⟩
 keep:=λi h h' st k=>st.at λo e=>k it (by simp) o e
 item:=by
  intro X hP hw hK hc i pins s σ H E I hf st hg;subst hP hw hK;obtain⟨xs,x,hq,hx⟩:=hg;obtain⟨its,rv,p,hz⟩:=I.tuple hq;obtain⟨u,hu,ru⟩:=rv.get hx;obtain⟨f0,f1,f2,f3,f4,f5⟩:=hf it (by simp);refine wpAny_pyNext_tuple_item st (show s.heap.IsTuple a its.toArray from p) (x:=u) (by simpa using hu) λh' st' sb=> ?_
  have I1:Inv X pins σ H {s with heap:=h'}:=I.turned (t':=s.toks) (λb o hb e=>(sb.2 b hb).trans e) f0 f1 f3 f4 f5;obtain⟨o,e,c,d⟩:=id st';exact⟨u,rfl,Ej (s:= {s with heap:=h'}) e c d (by decide) ⟨x,H,I1,ru,⟨rfl,λys hy=>by rw [I.tuple_inj hy hq];exact hx⟩,st',λb hb=>(hf b hb).1⟩⟩
 done:=by
  intro X hP hw hK hc i pins s σ H E I hf st hg;subst hP hw hK;obtain⟨xs,hq,hx⟩:=hg;obtain⟨its,rv,p,hz⟩:=I.tuple hq;obtain⟨f0,f1,f2,f3,f4,f5⟩:=hf it (by simp);have hl:=rv.length;exact wpAny_pyNext_tuple_end (I.ok.hd hc) st (show s.heap.IsTuple a its.toArray from p) (by simp;omega) λh' eb=>⟨rfl,I.turned (t':=s.toks) (λb o hb e=>eb b o hb e) f0 f1 f3 f4 f5⟩
 self:=λ_ _ _ _ _ st h=>wpAny_pyIter_tupleiter st h
theorem BQ (it:Addr)(lo:Int)(n:Nat):Turn P w K tg (Itr lo n) [it] it (λi h=>IsRangeIter h it (lo+(i:Nat)*1) ((n:Int)-(i:Nat)) 1) where
 mem:=by simp
 obj:=λi h st b hb=>by
  have e:b=it:=by simpa using hb
  subst e;exact⟨_,st,λv z=>by
   have z':Data.fields _=Data.cell v:=z;cases z'⟩
 keep:=λi h h' st k=>k it (by simp) _ st
 item:=by
  intro X hP hw hK hc i pins s σ H E I hf st hg;subst hP hw hK;obtain⟨f0,f1,f2,f3,f4,f5⟩:=hf it (by simp);have W:=Walks.range (prog:=X.prog) (w:=X.w) (I.ok.hd hc) it lo 1 n;refine W.item i s _ _ hg st λv h' tk hv st' kk=> ?_
  obtain⟨t,rfl⟩:=hv;have I1:Inv X pins σ H {s with heap:=h',toks:=tk}:=I.turned (λb o hb e=>kk b o (by simpa using hb) e) f0 f1 f3 f4 f5;refine⟨_,rfl,Ej (s:= {s with heap:=h',toks:=tk}) (n:= "range_iterator") st' rfl rfl (by decide) ⟨.int (lo+i),H,I1,⟨t,?_⟩,⟨rfl,rfl⟩,st',λb hb=>(hf b hb).1⟩⟩;rw [Int.mul_one]
 done:=by
  intro X hP hw hK hc i pins s σ H E I hf st hg;subst hP hw hK;obtain⟨f0,f1,f2,f3,f4,f5⟩:=hf it (by simp);exact wpAny_pyNext_range_end (I.ok.hd hc) st (by have:n<=i:=hg;omega) λh' eb=>⟨rfl,I.turned (t':=s.toks) (λb o hb e=>eb b o hb e) f0 f1 f3 f4 f5⟩
 self:=λ_ _ _ _ _ st h=>wpAny_pyIter_rangeiter st h
section
variable {X:Cx}{tg:Expr}
def uG (K:PySem.W.Frag)(tl:TE):TI:=λσ H R=>tl σ H λx H1=> ∃a,x= .ref a/\(∃xs,SqL K H1 a xs)/\R (Itl K a) H1
theorem Hg {l:Expr}{tl:TE}(hl:PE X l tl):PI X tg l (uG X.K tl):=by
 intro pins s σ H R I h;refine thn (hl pins s σ H _ I h) λv s1 ⟨x,H1,I1,r1,q1⟩=> ?_
 obtain⟨a,e,⟨xs,hq⟩,q⟩:=q1;subst e;cases r1;obtain⟨its,rv,p,hz⟩:=I1.list hq;refine A2 p.isList ?_;refine⟨s1.heap.objs.size,[s1.heap.objs.size],_,_,H1,rfl,I1.kept (t':=s1.toks) λb o e=>G1 _ e,Px a _,⟨_,P9 _ rfl,rfl,rfl⟩,λb hb=> ?_,q⟩;have e:b=s1.heap.objs.size:=by simpa using hb
 subst e;exact I1.fpOk (G6 _) (I1.hok.fresh (G6 _))
variable {pins:List (Addr×Obj)}
theorem NU {σ:St}{H:Hp}{s:Shared}{R:It->Hp->Prop}{E:Value->Shared->Prop}{lo hi:Int}{t u v:Tok}{tk:Nat}(I:Inv X pins σ H s)(h1: -(2^62)<=lo)(h2:lo<2^62)(h3: -(2^62)<=hi)(h4:hi<2^62)
 (q:R (Itr lo (hi-lo).toNat) H):wpAny (model X.prog X.w) X.A (pyIter (.ref s.heap.objs.size)) (PIE X pins σ tg R) E {s with heap:=s.heap.push {cls:= .type "range",data:= .fields #[.int lo t,.int hi u,.int 1 v]},toks:=tk}:=by
 refine wpAny_pyIter_range (IsRange.new ..) (small_one h1 h2 h3 h4) ?_;have I1:Inv X pins σ H {s with heap:=s.heap.push {cls:= .type "range",data:= .fields #[.int lo t,.int hi u,.int 1 v]},toks:=tk}:=I.kept λb o e=>G1 _ e
 refine⟨(s.heap.push {cls:= .type "range",data:= .fields #[.int lo t,.int hi u,.int 1 v]}).objs.size,[(s.heap.push {cls:= .type "range",data:= .fields #[.int lo t,.int hi u,.int 1 v]}).objs.size],_,_,H,rfl,
  I1.kept (t':=tk) λb o e=>G1 _ e,BQ _ lo (hi-lo).toNat,?_,λb hb=> ?_,q⟩
 ·have e1:lo+((0:Nat):Int)*1=lo:=by simp
  have e2:(((hi-lo).toNat:Nat):Int)-((0:Nat):Int)=Builtin.Range.rangeSize lo hi 1:=by rw [rangeSize_one];split<;>omega
  show IsRangeIter _ _ (lo+((0:Nat):Int)*1) ((((hi-lo).toNat:Nat):Int)-((0:Nat):Int)) 1;rw [e1,e2];exact P9 _ rfl
 ·have e:b=(s.heap.push {cls:= .type "range",data:= .fields #[.int lo t,.int hi u,.int 1 v]}).objs.size:=by simpa using hb
  subst e;exact I1.fpOk (G6 _) (I1.hok.fresh (G6 _))
def uH (ta:TA):TI:=λσ H R=>ta σ H λvs H1=> ∃j:Int,vs= [.int j]/\ -(2^62)<=j/\j<2^62/\R (Itr 0 j.toNat) H1
def uI (ta:TA):TI:=λσ H R=>ta σ H λvs H1=> ∃i j:Int,vs= [.int i,.int j]/\(-(2^62)<=i/\i<2^62/\ -(2^62)<=j/\j<2^62)/\R (Itr i (j-i).toNat) H1
theorem Fw {a:Expr}{ta:TA}{p pos:Pos}(hg:Gl X "range")(hm:X.mg "range" =none)(ha:PA X [a] ta)(hs:starEach [a] X.env= [(false,eval a X.env)]:=by rfl):PI X tg (.Call (.Name "range" p) [a] [] pos) (uH ta):=by
 intro pins s σ H R I h;refine Call_ (vW I hg hm boot_range (T4 (thn (ha pos pins s σ H _ I h) λus s1 ⟨vs,H1,I1,r1,q1⟩=> ?_) hs rfl));obtain⟨j,e,q1,q2,q⟩:=q1;subst e;cases r1 with
 |cons r rr=>
  cases rr;obtain⟨t,rfl⟩:=r;exact call_range_1 (NU I1 (by omega) (by omega) q1 q2 (by simpa using q))
theorem Fx {a b:Expr}{ta:TA}{p pos:Pos}(hg:Gl X "range")(hm:X.mg "range" =none)(ha:PA X [a,b] ta)(hs:starEach [a,b] X.env= [(false,eval a X.env),(false,eval b X.env)]:=by rfl)(hs2:starEach [b] X.env= [(false,eval b X.env)]:=by rfl):
 PI X tg (.Call (.Name "range" p) [a,b] [] pos) (uI ta):=by
 intro pins s σ H R I h;refine Call_ (vW I hg hm boot_range (T4 (thn (ha pos pins s σ H _ I h) λus s1 ⟨vs,H1,I1,r1,q1⟩=> ?_) (by rw [hs,hs2]) (by rw [hs2];rfl)));obtain⟨i,j,e,⟨q1,q2,q3,q4⟩,q⟩:=q1;subst e;cases r1 with
 |cons r rr=>
  cases rr with
  |cons r' rr=>
   cases rr;obtain⟨t,rfl⟩:=r;obtain⟨t',rfl⟩:=r';exact call_range_2 (NU I1 q1 q2 q3 q4 q)
def jce (wi:TI)(g:TG)(tb:TS):TS:=λD σ H=>wi σ H λJ H1=> ∃W:Nat->Nat->St->Hp->Prop,(∃m,W 0 m σ H1)/\ ∀i m σ H,W i m σ H->
 (J.stop i H/\D.nx σ H)\/(J.go i H/\ ∃N:St->Hp->Prop,(∀σ' H',N σ' H'-> ∃m',m'<m/\W (i+1) m' σ' H')/\ ∀x H',J.yld i H x H'->g x σ H' λσ2 H2=>tb {D with nx:=N,ct:=N,bk:=D.nx} σ2 H2)
def Zd (fp:List Addr)(h:Heap):List (Addr×Obj):=fp.filterMap λb=>(h.get? b).map λo=>(b,o)
theorem yy {fp:List Addr}{h:Heap}{b:Addr}{o:Obj}(hb:b∈fp)(e:h.get? b=some o):(b,o)∈Zd fp h:=K2.mpr ⟨b,hb,by rw [e];rfl⟩
theorem VB {fp:List Addr}{h:Heap}{p:Addr×Obj}(hp:p∈Zd fp h):p.1∈fp/\h.get? p.1=some p.2:=by
 obtain⟨b,hb,e⟩:=K2.mp hp;cases q:h.get? b with
 |none=>rw [q] at e;cases e
 |some o=>
  rw [q] at e;have e':(b,o)=p:=S7 e;subst e';exact⟨hb,q⟩
theorem Inv.pinned {σ:St}{H:Hp}{s:Shared}{fp:List Addr}(I:Inv X pins σ H s)(hf: ∀b∈fp,Fb X pins H b)(ho: ∀b∈fp,∃o,s.heap.get? b=some o/\ ∀v,o.data≠ .cell v):Inv X (pins++Zd fp s.heap) σ H s:=
 I.pins_of λp hp=>(D6.mp hp).elim (λz=>I.pin p (D5 _ z)) λz=>by
  obtain⟨hb,e⟩:=VB z;obtain⟨f0,f1,f2,_⟩:=hf p.1 hb;obtain⟨o,e',d⟩:=ho p.1 hb;rw [e] at e';cases e';exact⟨e,f0,f1,f2,d⟩
theorem Inv.unpinned {pl:List (Addr×Obj)}{σ:St}{H:Hp}{s:Shared}(I:Inv X (pins++pl) σ H s):Inv X pins σ H s:=I.pins_of λp hp=>I.pin p (D5 _ (M8 _ hp))
theorem uJ {iter:Expr}{body:List Stmt}{wi:TI}{g:TG}{tb:TS}{pos:Pos}(hp:PassesOwn (model X.prog X.w) X.A X.env X.xe)(hc:X.calm=true)(hi:PI X tg iter wi)(hg:PG X tg g)(hb:PSs X body tb)
 (hs: ∀x,foldedSetIterable iter X.env x=pure x:=by intro _;rfl):PS X (.For tg iter body [] pos) (jce wi g tb):=by
 intro pins s σ H D I h;refine wpAny_For (thn (hi pins s σ H _ I h) λv s1 h1=>thn h1 λitv s2 h2=> ?_) hs;obtain⟨it,fp,tn,J,H2,e,I2,T,st2,f2,W,⟨m0,w0⟩,turn⟩:=h2;subst e
 -- what stays true of the iterator's objects through the loop
 have stat: ∀ {H':Hp},(∀b∈fp,H' b=none)-> ∀b∈fp,Fb X pins H' b:=λhn b hb=>⟨hn b hb,(f2 b hb).2⟩
 refine codeAny_forLoop_any (λn s'=> ∃i σ' H',Inv X pins σ' H' s'/\tn i s'.heap/\(∀b∈fp,H' b=none)/\W i n σ' H') ?_ m0 ⟨0,σ,H2,I2,st2,λb hb=>(f2 b hb).1,w0⟩;rintro n s3 ⟨i,σ3,H3,I3,st3,fr3,w3⟩;rcases turn i n σ3 H3 w3 with ⟨stop,qn⟩|⟨go,N,hN,step⟩
 ·refine E9 hp (thn (T.done X rfl rfl rfl hc i pins s3 σ3 H3 X.xe I3 (stat fr3) st3 stop) λr s4 ⟨hr,I4⟩=> ?_);subst hr;exact K9 ⟨σ3,H3,I4,qn⟩
 ·refine E9 hp (thn (T.item X rfl rfl rfl hc i pins s3 σ3 H3 X.xe I3 (stat fr3) st3 go) λr s4 ⟨u,hr,h4⟩=> ?_);subst hr;refine E9 hp (thn h4 λ_ s5 ⟨x,H5,I5,r5,y5,st5,fr5⟩=> ?_);have I5':=I5.pinned (stat fr5) (T.obj _ _ st5);refine E9 hp (thn (hg _ s5 σ3 H5 x u _ I5' r5 (step x H5 y5)) λ_ s6 ⟨σ6,H6,I6,q6⟩=> ?_);refine E9 hp (thn (hb _ s6 σ6 H6 _ I6 q6) λf s7 q7=> ?_);have again: ∀ {σ7:St} {H7:Hp},Inv X (pins++Zd fp s5.heap) σ7 H7 s7->N σ7 H7-> ∃m,m<n/\ ∃i σ' H',Inv X pins σ' H' s7/\tn i s7.heap/\(∀b∈fp,H' b=none)/\W i m σ' H':=λ{σ7 H7} I7 n7=>by
   obtain⟨m',hm,w7⟩:=hN σ7 H7 n7;refine⟨m',hm,i+1,σ7,H7,I7.unpinned,T.keep _ _ _ st5 λb hb o e=>(I7.pin (b,o) (D5 _ (D5 _ (yy hb e)))).1,λb hb=> ?_,w7⟩;obtain⟨o,e,d⟩:=T.obj _ _ st5 b hb;exact(I7.pin (b,o) (D5 _ (D5 _ (yy hb e)))).2.1
  cases f with
  |next=>obtain⟨σ7,H7,I7,n7⟩:=q7;exact again I7 n7
  |cont=>obtain⟨σ7,H7,I7,n7⟩:=q7;exact again I7 n7
  |brk=>obtain⟨σ7,H7,I7,q7⟩:=q7;exact⟨σ7,H7,I7.unpinned,q7⟩
  |ret v=>obtain⟨x7,σ7,H7,I7,r7,q7⟩:=q7;exact⟨x7,σ7,H7,I7.unpinned,r7,q7⟩
end
abbrev R2:=V->V->Hp->VK->Prop
def OpR (X:Cx)(f:Value->Value->Sem Value)(r:R2):Prop:=
 ∀ (pins:List (Addr×Obj)) (s:Shared) (σ:St) (H:Hp) (x y:V) (v u:Value) (Q:VK),Inv X pins σ H s->RelV x v->RelV y u->r x y H Q->
  wpAny (model X.prog X.w) X.A (f v u) (EP X pins σ Q) X.xe s
def UnR (X:Cx)(f:Value->Sem Value)(r:V->Hp->VK->Prop):Prop:=
 ∀ (pins:List (Addr×Obj)) (s:Shared) (σ:St) (H:Hp) (x:V) (v:Value) (Q:VK),Inv X pins σ H s->RelV x v->r x H Q->
  wpAny (model X.prog X.w) X.A (f v) (EP X pins σ Q) X.xe s
def CallR (X:Cx)(f:Value)(r:List V->Hp->VK->Prop):Prop:=
 ∀ (pins:List (Addr×Obj)) (s:Shared) (σ:St) (H:Hp) (xs:List V) (us:List Value) (Q:VK),Inv X pins σ H s->Vals xs us->r xs H Q->
  wpAny (model X.prog X.w) X.A (call f us) (EP X pins σ Q) X.xe s
def tOp (r:R2)(ta tb:TE):TE:=λσ H Q=>ta σ H λx H1=>tb σ H1 λy H2=>r x y H2 Q
def tUn (r:V->Hp->VK->Prop)(ta:TE):TE:=λσ H Q=>ta σ H λx H1=>r x H1 Q
def rI (C:Int->Int->Prop)(g:Int->Int->V):R2:=λx y H Q=> ∃i j,x= .int i/\y= .int j/\C i j/\Q (g i j) H
def rI0 (g:Int->Int->V):R2:=λx y H Q=> ∃i j,x= .int i/\y= .int j/\Q (g i j) H
def rU (g:Int->V):V->Hp->VK->Prop:=λx H Q=> ∃i,x= .int i/\Q (g i) H
section
variable {X:Cx}{a b c:Expr}{ta tb tc:TE}{pos:Pos}
theorem jaO (ha:PE X a ta)(hb:PE X b tb){pins:List (Addr×Obj)}{s:Shared}{σ:St}{H:Hp}{R:V->V->Hp->Prop}(I:Inv X pins σ H s)
 (h:ta σ H λx H1=>tb σ H1 λy H2=>R x y H2){Q:Value->Shared->Prop}{f:Value->Value->Sem Value}
 (hf: ∀v u s2 x y H2,Inv X pins σ H2 s2->RelV x v->RelV y u->R x y H2->wpAny (model X.prog X.w) X.A (f v u) Q X.xe s2):
 wpAny (model X.prog X.w) X.A (eval a X.env) (λv s₁=>wpAny (model X.prog X.w) X.A (eval b X.env) (λu s₂=>wpAny (model X.prog X.w) X.A (f v u) Q X.xe s₂) X.xe s₁) X.xe s:=by
 refine thn (ha pins s σ H _ I h) λv s1 ⟨x,H1,I1,r1,q1⟩=> ?_
 refine thn (hb pins s1 σ H1 _ I1 q1) λu s2 ⟨y,H2,I2,r2,q2⟩=> ?_
 exact hf v u s2 x y H2 I2 r1 r2 q2
theorem jaP {op:Operator}{r:R2}(ho:OpR X (binaryOp op) r)(ha:PE X a ta)(hb:PE X b tb):PE X (.BinOp a op b pos) (tOp r ta tb):=by
 intro pins s σ H Q I h;exact wpAny_BinOp (jaO ha hb I h λv u s2 x y H2 I2 rx ry q=>ho pins s2 σ H2 x y v u Q I2 rx ry q)
theorem jaQ {op:UnaryOp}{r:V->Hp->VK->Prop}(ho:UnR X (unaryOp op) r)(ha:PE X a ta):PE X (.UnaryOp op a pos) (tUn r ta):=by
 intro pins s σ H Q I h;exact UnaryOp_ (thn (ha pins s σ H _ I h) λv s1 ⟨x,H1,I1,r1,q1⟩=>ho pins s1 σ H1 x v Q I1 r1 q1)
variable {f:Value->Value->Sem Value}
theorem opI {C:Int->Int->Prop}{g:Int->Int->Int}
 (rule: ∀ (i j:Int) (t u:Tok) (s:Shared) (Q:Value->Shared->Prop) (E:Value->Shared->Prop),C i j->Q (.int (g i j) s.toks) {s with toks:=s.toks+1}->wpAny (model X.prog X.w) X.A (f (.int i t) (.int j u)) Q E s):
 OpR X f (rI C λi j=> .int (g i j)):=by
 intro pins s σ H x y v u Q I rx ry h;obtain⟨i,j,rfl,rfl,hc,q⟩:=h;obtain⟨t,rfl⟩:=rx;obtain⟨t',rfl⟩:=ry;exact rule i j t t' s _ _ hc ⟨.int (g i j),H,I.tok _,⟨_,rfl⟩,q⟩
theorem jcf {g:Int->Int->Int}
 (rule: ∀ (i j:Int) (t u:Tok) (s:Shared) (Q:Value->Shared->Prop) (E:Value->Shared->Prop),Q (.int (g i j) s.toks) {s with toks:=s.toks+1}->wpAny (model X.prog X.w) X.A (f (.int i t) (.int j u)) Q E s):
 OpR X f (rI0 λi j=> .int (g i j)):=by
 intro pins s σ H x y v u Q I rx ry h;obtain⟨i,j,rfl,rfl,q⟩:=h;obtain⟨t,rfl⟩:=rx;obtain⟨t',rfl⟩:=ry;exact rule i j t t' s _ _ ⟨.int (g i j),H,I.tok _,⟨_,rfl⟩,q⟩
theorem jaA {g:Int->Int->Bool}
 (rule: ∀ (i j:Int) (t u:Tok) (s:Shared) (Q:Value->Shared->Prop) (E:Value->Shared->Prop),Q (.bool (g i j)) s->wpAny (model X.prog X.w) X.A (f (.int i t) (.int j u)) Q E s):
 OpR X f (rI0 λi j=> .bl (g i j)):=by
 intro pins s σ H x y v u Q I rx ry h;obtain⟨i,j,rfl,rfl,q⟩:=h;obtain⟨t,rfl⟩:=rx;obtain⟨t',rfl⟩:=ry;exact rule i j t t' s _ _ ⟨.bl (g i j),H,I,rfl,q⟩
def jcg (i j:Int):Prop:=0<j/\j<1073741824
def jch (i j:Int):Prop:=0<=j/\j<=1000000/\i.natAbs<2^64
def CMul (i j:Int):Prop:=(-(2^64)<i/\i<2^64)\/(-(2^64)<j/\j<2^64)
theorem CMul.ok {i j:Int}(h:CMul i j):IntMulOk i j:=by
 rcases h with ⟨h1,h2⟩|⟨h1,h2⟩
 ·exact .of_left (intBits_le_64 h1 h2)
 ·exact .of_right (intBits_le_64 h1 h2)
theorem op_add:OpR X (binaryOp .Add) (rI0 λi j=> .int (i+j)):=jcf λ_ _ _ _ _ _ _ q=>add_int q
theorem uK:OpR X (binaryOp .Sub) (rI0 λi j=> .int (i-j)):=jcf λ_ _ _ _ _ _ _ q=>sub_int q
theorem op_mul:OpR X (binaryOp .Mult) (rI CMul λi j=> .int (i*j)):=opI λ_ _ _ _ _ _ _ hc q=>mul_int q hc.ok
theorem Hh:OpR X (binaryOp .FloorDiv) (rI jcg λi j=> .int (i / j)):=opI λi j _ _ _ _ _ hc q=>by
 have h1:(0:Int)<j:=hc.1;have h2:j<1073741824:=hc.2;exact floordiv_int (by omega) (by rw [G0h i (by omega)];exact q) (.inl (PyProof.noPylong_small (by omega)))
theorem uL:OpR X (binaryOp .Mod) (rI (λ_ j=>0<j) λi j=> .int (i%j)):=opI λi j _ _ _ _ _ hc q=>by
 have h1:(0:Int)<j:=hc;exact mod_int' (by omega) (by rw [G0i i (by omega)];exact q)
theorem uM:OpR X (binaryOp .Pow) (rI jch λi j=> .int (i^j.toNat)):=opI λ_ _ _ _ _ _ _ hc q=>pow_int_small hc.1 hc.2.1 hc.2.2 q
theorem unI {f:Value->Sem Value}{g:Int->Int}
 (rule: ∀ (i:Int) (t:Tok) (s:Shared) (Q:Value->Shared->Prop) (E:Value->Shared->Prop),Q (.int (g i) s.toks) {s with toks:=s.toks+1}->wpAny (model X.prog X.w) X.A (f (.int i t)) Q E s):
 UnR X f (rU λi=> .int (g i)):=by
 intro pins s σ H x v Q I rx h;obtain⟨i,rfl,q⟩:=h;obtain⟨t,rfl⟩:=rx;exact rule i t s _ _ ⟨.int (g i),H,I.tok _,⟨_,rfl⟩,q⟩
theorem uN:UnR X (unaryOp .USub) (rU λi=> .int (-i)):=unI λ_ _ _ _ _ q=>neg_int q
end
def jci:V->V->Bool
 | .non,.non=>true| .non,.int _=>true| .int _,.non=>true| .non,.bl _=>true| .bl _,.non=>true| .non,.str _=>true| .str _,.non=>true
 | .int _,.int _=>true| .bl _,.bl _=>true| .str _,.str _=>true| .byt _,.byt _=>true
 | .int _,.str _=>true| .str _,.int _=>true| .bl _,.str _=>true| .str _,.bl _=>true
 |_,_=>false
def rEq:R2:=λx y H Q=>jci x y=true/\Q (.bl (decide (x=y))) H
def rNe:R2:=λx y H Q=>jci x y=true/\Q (.bl (!decide (x=y))) H
theorem Fy {i j:Int}:decide (V.int i=V.int j)=(i==j):=by
 rw [N9];simp
theorem Tp {i j:Bool}:decide (V.bl i=V.bl j)=(i==j):=by
 rw [N9];simp
theorem Fz {i j:Str}:decide (V.str i=V.str j)=(i==j):=by
 rw [N9];simp
theorem FA {i j:Array UInt8}:decide (V.byt i=V.byt j)=(i.toList==j.toList):=by
 rw [N9];cases i;cases j;simp
section
variable {X:Cx}{a b c:Expr}{ta tb tc:TE}{pos:Pos}
theorem jP {pins:List (Addr×Obj)}{σ:St}{H:Hp}{s:Shared}{Q:VK}{k k':Bool}(I:Inv X pins σ H s)(q:Q (.bl k) H)(e:k=k'):EP X pins σ Q (.bool k') s:=by
 subst e;exact⟨.bl k,H,I,rfl,q⟩
theorem op_eq:OpR X (compareOp .Eq) rEq:=by
 intro pins s σ H x y v u Q I rx ry h;obtain⟨hs,q⟩:=h;cases x with
 |non=>
  cases rx;cases y with
  |non=>cases ry;exact PySem.EqNone.eq_none_none (jP I q (by simp))
  |bl j=>cases ry;exact PySem.EqNone.eq_none_bool (jP I q (by simp))
  |int j=>obtain⟨t',rfl⟩:=ry;exact PySem.EqNone.eq_none_int (jP I q (by simp))
  |str j=>obtain⟨t',rfl⟩:=ry;exact PySem.EqNone.eq_none_str (jP I q (by simp))
  |_=>exact absurd (show false=true from hs) P6
 |bl i=>
  cases rx;cases y with
  |non=>cases ry;exact PySem.EqNone.eq_bool_none (jP I q (by simp))
  |bl j=>cases ry;exact eq_bool (jP I q Tp)
  |str j=>obtain⟨t',rfl⟩:=ry;exact PySem.EqMixed.eq_bool_str (jP I q (by simp))
  |_=>exact absurd (show false=true from hs) P6
 |int i=>
  obtain⟨t,rfl⟩:=rx;cases y with
  |non=>cases ry;exact PySem.EqNone.eq_int_none (jP I q (by simp))
  |int j=>obtain⟨t',rfl⟩:=ry;exact eq_int (jP I q Fy)
  |str j=>obtain⟨t',rfl⟩:=ry;exact PySem.EqMixed.eq_int_str (jP I q (by simp))
  |_=>exact absurd (show false=true from hs) P6
 |str i=>
  obtain⟨t,rfl⟩:=rx;cases y with
  |non=>cases ry;exact PySem.EqNone.eq_str_none (jP I q (by simp))
  |bl j=>cases ry;exact PySem.EqMixed.eq_str_bool (jP I q (by simp))
  |int j=>obtain⟨t',rfl⟩:=ry;exact PySem.EqMixed.eq_str_int (jP I q (by simp))
  |str j=>obtain⟨t',rfl⟩:=ry;exact eq_str (jP I q Fz)
  |_=>exact absurd (show false=true from hs) P6
 |byt i=>
  obtain⟨t,rfl⟩:=rx;cases y with
  |byt j=>obtain⟨t',rfl⟩:=ry;exact PySem.W.eq_bytes (jP I q FA)
  |_=>exact absurd (show false=true from hs) P6
 |_=>cases y<;>exact absurd (show false=true from hs) P6
theorem op_ne:OpR X (compareOp .NotEq) rNe:=by
 intro pins s σ H x y v u Q I rx ry h;obtain⟨hs,q⟩:=h;cases x with
 |non=>
  cases rx;cases y with
  |non=>cases ry;exact PySem.EqNone.ne_none_none (jP I q (by simp))
  |bl j=>cases ry;exact PySem.EqNone.ne_none_bool (jP I q (by simp))
  |int j=>obtain⟨t',rfl⟩:=ry;exact PySem.EqNone.ne_none_int (jP I q (by simp))
  |str j=>obtain⟨t',rfl⟩:=ry;exact PySem.EqNone.ne_none_str (jP I q (by simp))
  |_=>exact absurd (show false=true from hs) P6
 |bl i=>
  cases rx;cases y with
  |non=>cases ry;exact PySem.EqNone.ne_bool_none (jP I q (by simp))
  |bl j=>cases ry;exact ne_bool (jP I q (congrArg not Tp))
  |str j=>obtain⟨t',rfl⟩:=ry;exact PySem.EqMixed.ne_bool_str (jP I q (by simp))
  |_=>exact absurd (show false=true from hs) P6
 |int i=>
  obtain⟨t,rfl⟩:=rx;cases y with
  |non=>cases ry;exact PySem.EqNone.ne_int_none (jP I q (by simp))
  |int j=>obtain⟨t',rfl⟩:=ry;exact ne_int (jP I q (congrArg not Fy))
  |str j=>obtain⟨t',rfl⟩:=ry;exact PySem.EqMixed.ne_int_str (jP I q (by simp))
  |_=>exact absurd (show false=true from hs) P6
 |str i=>
  obtain⟨t,rfl⟩:=rx;cases y with
  |non=>cases ry;exact PySem.EqNone.ne_str_none (jP I q (by simp))
  |bl j=>cases ry;exact PySem.EqMixed.ne_str_bool (jP I q (by simp))
  |int j=>obtain⟨t',rfl⟩:=ry;exact PySem.EqMixed.ne_str_int (jP I q (by simp))
  |str j=>obtain⟨t',rfl⟩:=ry;exact ne_str (jP I q (congrArg not Fz))
  |_=>exact absurd (show false=true from hs) P6
 |byt i=>
  obtain⟨t,rfl⟩:=rx;cases y with
  |byt j=>obtain⟨t',rfl⟩:=ry;exact PySem.W.ne_bytes (jP I q (congrArg not FA))
  |_=>exact absurd (show false=true from hs) P6
 |_=>cases y<;>exact absurd (show false=true from hs) P6
theorem jaR:OpR X (compareOp .Lt) (rI0 λi j=> .bl (decide (i<j))):=jaA λ_ _ _ _ _ _ _ q=>lt_int q
theorem jaS:OpR X (compareOp .LtE) (rI0 λi j=> .bl (decide (i<=j))):=jaA λ_ _ _ _ _ _ _ q=>le_int q
theorem jaT:OpR X (compareOp .Gt) (rI0 λi j=> .bl (decide (j<i))):=jaA λ_ _ _ _ _ _ _ q=>gt_int q
theorem jaU:OpR X (compareOp .GtE) (rI0 λi j=> .bl (decide (j<=i))):=jaA λ_ _ _ _ _ _ _ q=>ge_int q
theorem uO:OpR X (compareOp .Is) (λx y H Q=>y= .non/\Q (.bl (decide (x= .non))) H):=by
 intro pins s σ H x y v u Q I rx ry h;obtain⟨rfl,q⟩:=h;cases ry;refine is_none_gen (jP I q ?_);cases x<;>first
  |(cases rx;rfl)
  |(obtain⟨t,rfl⟩:=rx;rfl)
theorem Hi:OpR X (compareOp .IsNot) (λx y H Q=>y= .non/\Q (.bl (!decide (x= .non))) H):=by
 intro pins s σ H x y v u Q I rx ry h;obtain⟨rfl,q⟩:=h;cases ry;refine isnot_none_gen (jP I q ?_);cases x<;>first
  |(cases rx;rfl)
  |(obtain⟨t,rfl⟩:=rx;rfl)
variable {r:R2}
theorem OpR.or {f:Value->Value->Sem Value}{r':R2}(h:OpR X f r)(h':OpR X f r'):OpR X f (λx y H Q=>r x y H Q\/r' x y H Q):=by
 intro pins s σ H x y v u Q I rx ry q;rcases q with q|q
 ·exact h pins s σ H x y v u Q I rx ry q
 ·exact h' pins s σ H x y v u Q I rx ry q
theorem jz (b:Expr){op:CmpOp}(h:op≠ .In:=by decide)(h2:op≠ .NotIn:=by decide):behindInMarks op b=false:=by
 have e1:(op==CmpOp.In)=false:=by cases op<;>first|rfl|exact absurd rfl h
 have e2:(op==CmpOp.NotIn)=false:=by cases op<;>first|rfl|exact absurd rfl h2
 cases b<;>simp [behindInMarks,e1,e2]
variable {op:CmpOp}
theorem Hj (ho:OpR X (compareOp op) r)(ha:PE X a ta)(hb:PE X b tb)(hm:behindInMarks op b=false):PE X (.Compare a [op] [b] pos) (tOp r ta tb):=by
 intro pins s σ H Q I h;exact wpAny_Compare1 (jaO ha hb I h λv u s2 x y H2 I2 rx ry q=>ho pins s2 σ H2 x y v u Q I2 rx ry q) hm
def Hk (t:TE):TT:=λσ H Q=>t σ H λx H'=> ∃k,x= .bl k/\Q k H'
theorem Hl (ho:OpR X (compareOp op) r)(ha:PE X a ta)(hb:PE X b tb)(hm:behindInMarks op b=false):PT X (.Compare a [op] [b] pos) (Hk (tOp r ta tb)):=by
 intro pins s σ H Q I h;refine wpAny_isTrue_Compare1 (thn (ha pins s σ H _ I h) λv s1 ⟨x,H1,I1,r1,q1⟩=>thn (hb pins s1 σ H1 _ I1 q1) λu s2 ⟨y,H2,I2,r2,q2⟩=>
  thn (ho pins s2 σ H2 x y v u _ I2 r1 r2 q2) λc s3 ⟨z,H3,I3,r3,k,e,q3⟩=> ?_) hm
 subst e;cases r3;exact B2 ⟨H3,I3,q3⟩
def FB (r r':R2)(ta tb tc:TE):TE:=λσ H Q=>ta σ H λx H1=>tb σ H1 λy H2=>r x y H2 λz H3=> ∃k,z= .bl k/\
 (if k=true then tc σ H3 λw' H4=>r' y w' H4 Q else Q (.bl false) H3)
theorem Ek {op':CmpOp}{r':R2}(ho:OpR X (compareOp op) r)(ho':OpR X (compareOp op') r')(ha:PE X a ta)(hb:PE X b tb)(hc:PE X c tc)
 (hm:lastMarks [op,op'] [b,c]=false:=by with_unfolding_all rfl):PE X (.Compare a [op,op'] [b,c] pos) (FB r r' ta tb tc):=by
 intro pins s σ H Q I h;refine Compare_chain (thn (ha pins s σ H _ I h) λv s1 ⟨x,H1,I1,r1,q1⟩=>chain_link (thn (hb pins s1 σ H1 _ I1 q1) λu s2 ⟨y,H2,I2,r2,q2⟩=>
  thn (ho pins s2 σ H2 x y v u _ I2 r1 r2 q2) λd s3 ⟨z,H3,I3,r3,k,e,q3⟩=> ?_)) hm
 subst e;cases r3;refine B2 ?_;cases k with
 |false=>exact ite_ff ⟨.bl false,H3,I3,rfl,q3⟩
 |true=>exact ite_tt (chain_last (thn (hc pins s3 σ H3 _ I3 q3) λw' s4 ⟨z',H4,I4,r4,q4⟩=>ho' pins s4 σ H4 y z' u w' Q I4 r2 r4 q4))
theorem El {op':CmpOp}{r':R2}(ho:OpR X (compareOp op) r)(ho':OpR X (compareOp op') r')(ha:PE X a ta)(hb:PE X b tb)(hc:PE X c tc)
 (hm:lastMarks [op,op'] [b,c]=false:=by with_unfolding_all rfl):PT X (.Compare a [op,op'] [b,c] pos) (Hk (FB r r' ta tb tc)):=by
 intro pins s σ H Q I h;refine isTrue_chain (thn (ha pins s σ H _ I h) λv s1 ⟨x,H1,I1,r1,q1⟩=>test_link (thn (hb pins s1 σ H1 _ I1 q1) λu s2 ⟨y,H2,I2,r2,q2⟩=>
  thn (ho pins s2 σ H2 x y v u _ I2 r1 r2 q2) λd s3 ⟨z,H3,I3,r3,k,e,q3⟩=> ?_)) hm
 subst e;cases r3;refine B2 ?_;cases k with
 |false=>
  obtain⟨k',e',q'⟩:=q3;cases e';exact ite_ff ⟨H3,I3,q'⟩
 |true=>
  refine ite_tt (test_last (thn (hc pins s3 σ H3 _ I3 q3) λw' s4 ⟨z',H4,I4,r4,q4⟩=>thn (ho' pins s4 σ H4 y z' u w' _ I4 r2 r4 q4) λd' s5 ⟨z2,H5,I5,r5,k2,e2,q5⟩=> ?_));subst e2;cases r5;exact B2 ⟨H5,I5,q5⟩
theorem Py:(sizeLine:Nat)<2^63:=by rw [sizeLine_eq];decide
theorem Zv {x:V}{us:List Value}(r:Vals [x] us): ∃u,us= [u]/\RelV x u:=by
 cases r with
 |cons r1 r2=>cases r2;exact⟨_,rfl,r1⟩
theorem Em {x y:V}{us:List Value}(r:Vals [x,y] us): ∃u w',us= [u,w']/\RelV x u/\RelV y w':=by
 cases r with
 |cons r1 r2=>
  cases r2 with
  |cons r3 r4=>cases r4;exact⟨_,_,rfl,r1,r3⟩
theorem FC (hc:X.calm=true):CallR X (.builtin "max") (λxs H Q=> ∃i j,xs= [.int i,.int j]/\Q (.int (if j>i then j else i)) H):=by
 intro pins s σ H xs us Q I r h;obtain⟨i,j,rfl,q⟩:=h;obtain⟨u,w',rfl,⟨t,rfl⟩,⟨t',rfl⟩⟩:=Em r;refine max_two_ints (I.ok.hd hc) λh' tk k=>⟨_,H,I.kept k,?_,q⟩
 by_cases hj:j>i
 ·rw [if_pos hj,if_pos hj];exact⟨_,rfl⟩
 ·rw [if_neg hj,if_neg hj];exact⟨_,rfl⟩
theorem call_int1:CallR X (.type "int") (λxs H Q=>(∃i,xs= [.int i]/\Q (.int i) H)\/ ∃k,xs= [.bl k]/\Q (.int (if k then 1 else 0)) H):=by
 intro pins s σ H xs us Q I r h;rcases h with ⟨i,rfl,q⟩|⟨k,rfl,q⟩
 ·obtain⟨u,rfl,t,rfl⟩:=Zv r;exact call_int_int ⟨.int i,H,I,⟨_,rfl⟩,q⟩
 ·obtain⟨u,rfl,r1⟩:=Zv r;cases r1;exact call_int_bool ⟨.int (if k then 1 else 0),H,I.tok _,⟨_,rfl⟩,q⟩
end
structure ObjM (h:Heap)(x dx C:Addr)(mA:Str->Option Value):Prop where
 obj:h.get? x=some (PySem.W.instObj C dx)
 ns:h.Ns1 dx mA
 ne:dx≠x
theorem FD {dx:Addr}{mA:Str->Option Value}(n:h.Ns1 dx mA): ∃od,h.get? dx=some od/\ ∀name,PySem.W.lookIn name od=some (mA name):=by
 obtain⟨o,es,ep,ho,hd,hk,_,hm⟩:=n;refine⟨o,ho,λname=> ?_⟩;have e:=hm name;unfold nsFind findBy at e;rw [<-Array.find?_toList] at e;unfold PySem.W.lookIn;rw [hd];dsimp only;split
 ·rename_i y q;rw [q] at e;exact congrArg some e
 ·rename_i q;rw [q] at e;have a:es.toList.any (·.refKey)=false:=by
   rw [List.any_eq_false];intro y hy;obtain⟨z,t,hkey⟩:=hk y (Array.mem_toList_iff.mp hy);simp [DictEntry.refKey,hkey]
  have a': ¬es.toList.any (·.refKey)=true:=by rw [a];exact P6
  rw [if_neg a'];exact congrArg some e
theorem ObjM.look {x dx C:Addr}{mA:Str->Option Value}(I:ObjM h x dx C mA): ∃od,PySem.W.InstAt h x (PySem.W.instObj C dx) C (some od)/\ ∀name,PySem.W.lookIn name od=some (mA name):=
 let ⟨od,ho,hl⟩:=FD I.ns
 ⟨od,⟨I.obj,rfl,rfl,ho⟩,hl⟩
section
variable {P:Program}{w:World}{H H':Hp}{h h':Heap}{a C dx:Addr}{fs fs':List (Str×V)}
theorem Hm (hok:HOk P w H h)(e:H a=some (.ins C dx fs)): ∃mA,ObjM h a dx C mA/\(∀f,jaJ (fs.lookup f) (mA f))/\PySem.Within mA (fs.map (·.1))/\fs.length<=1000/\H dx=some (.own a):=by
 obtain⟨d,z,ne,ob,mA,n,r,q⟩:=(show ObjOk P w H h a (.ins C dx fs) from hok a _ e);exact⟨mA,⟨ob,n,ne⟩,r,q,z,d⟩
end
structure Cls (K:PySem.W.Frag)(C:Addr):Prop where
 pg:PySem.W.plainGet K C Str.empty=true
 hd:PySem.W.hasDictIn K C=true
 po:PySem.W.plainOver K C=true
 sa:PySem.W.findIn K (.ref C) "__setattr__" =some (some (.builtin "object.__setattr__"))
theorem Cls.get {C:Addr}(c:Cls K C)(f:Str):PySem.W.plainGet K C f=true:=c.pg
section
variable {X:Cx}{pins:List (Addr×Obj)}{σ:St}{H:Hp}{s:Shared}{A:Around}{E:Value->Shared->Prop}{Q:Value->Shared->Prop}{c:Value}{b:Bool}
inductive TyOf (K:PySem.W.Frag)(H:Hp):V->Value->Prop where
 |non:TyOf K H .non (.type "NoneType")
 |bl (x:Bool):TyOf K H (.bl x) (.type "bool")
 |int (i:Int):TyOf K H (.int i) (.type "int")
 |str (x:Str):TyOf K H (.str x) (.type "str")
 |flt (x:UInt64):TyOf K H (.flt x) (.type "float")
 |lst {a:Addr} {xs:List V} (e:H a=some (.lst xs)):TyOf K H (.ref a) (.type "list")
 |frz {a:Addr} {o:Obj} {xs:List V} (e:H a=some (.frz o (.lst xs))):TyOf K H (.ref a) (.type "list")
 |tup {a:Addr} {xs:List V} (e:H a=some (.tup xs)):TyOf K H (.ref a) (.type "tuple")
 |dK {a:Addr} {kvs:List (Key×V)} (e:H a=some (.dK kvs)):TyOf K H (.ref a) (.type "dict")
 |dT {a:Addr} {kvs:List (List Key×V)} (e:H a=some (.dT kvs)):TyOf K H (.ref a) (.type "dict")
 |ins {a C dx:Addr} {fs:List (Str×V)} (e:H a=some (.ins C dx fs)) (cl:Cls K C) (ha:PySem.W.findIn K (.ref C) "__class__" =some (some (.builtin "object.__class__")))
  (hn:PySem.W.specialIn K (.builtin "object.__class__") "__get__" =some (some (.builtin "getset_descriptor.__get__"))) (htk:PySem.W.takesIn K (.builtin "object.__class__")=some true)
  (hm:PySem.W.mroIn K C (.type "object")=some true):TyOf K H (.ref a) (.ref C)
theorem FE {x:V}{u t:Value}(I:Inv X pins σ H s)(rx:RelV x u)(ty:TyOf X.K H x t)(e:PySem.W.kitOne X.K t c=some b)(h: ∀tk,Q (.bool b) {s with toks:=tk}):
 wpAny (model X.prog X.w) A (call (.builtin "isinstance") [u,c]) Q E s:=by
 cases ty with
 |non=>cases (show u=Value.none from rx);exact B9 PySem.W.kitx_none I.kIn True.intro e (λz=>nomatch z) h
 |bl y=>cases (show u=Value.bool y from rx);exact B9 PySem.W.kitx_bool I.kIn True.intro e (λz=>nomatch z) h
 |int i=>obtain⟨t,q⟩:=(show ∃t,u=Value.int i t from rx);cases q;exact B9 PySem.W.kitx_int I.kIn True.intro e (λz=>nomatch z) h
 |str y=>obtain⟨t,q⟩:=(show ∃t,u=Value.str y t from rx);cases q;exact B9 PySem.W.kitx_str I.kIn True.intro e (λz=>nomatch z) h
 |flt y=>obtain⟨t,q⟩:=(show ∃t,u=Value.float y t from rx);cases q;exact B9 PySem.W.kitx_float I.kIn True.intro e (λz=>nomatch z) h
 | @lst a xs ea=>
  cases (show u=Value.ref a from rx);obtain⟨_,_,n,_,h1⟩:=(show ObjOk X.prog X.w H s.heap a (.lst xs) from I.hok a _ ea);exact B9 PySem.W.kitx_list I.kIn ⟨_,h1,rfl⟩ e (λz=>nomatch z) h
 | @frz a ob xs ea=>
  cases (show u=Value.ref a from rx);obtain⟨_,_,_,n,_,h1⟩:=(show ObjOk X.prog X.w H s.heap a (.frz ob (.lst xs)) from I.hok a _ ea);exact B9 PySem.W.kitx_list I.kIn ⟨_,h1,rfl⟩ e (λz=>nomatch z) h
 | @tup a xs ea=>
  cases (show u=Value.ref a from rx);obtain⟨_,_,_,p⟩:=(show ObjOk X.prog X.w H s.heap a (.tup xs) from I.hok a _ ea);obtain⟨o,h1,h2,_⟩:=p;exact B9 PySem.W.kitx_tuple I.kIn ⟨o,h1,h2⟩ e (λz=>nomatch z) h
 | @dK a kvs ea=>
  cases (show u=Value.ref a from rx);obtain⟨_,_,vs,_,p⟩:=(show ObjOk X.prog X.w H s.heap a (.dK kvs) from I.hok a _ ea);obtain⟨o,es,ep,h1,h2,_⟩:=p;exact B9 PySem.W.kitx_dict I.kIn ⟨o,h1,h2.1⟩ e (λz=>nomatch z) h
 | @dT a kvs ea=>
  cases (show u=Value.ref a from rx);obtain⟨_,_,xs,_,o,es,ep,h1,h2,_⟩:=(show ObjOk X.prog X.w H s.heap a (.dT kvs) from I.hok a _ ea);exact B9 PySem.W.kitx_dict I.kIn ⟨o,h1,h2.1⟩ e (λz=>nomatch z) h
 | @ins a C dx fs ea cl ha hn htk hm=>
  cases (show u=Value.ref a from rx);obtain⟨mA,O,_⟩:=Hm I.hok ea;obtain⟨od,J,_⟩:=O.look;exact B9 (PySem.W.kitx_own (cl.get _) cl.hd ha hn htk hm) I.kIn J e (λz=>nomatch z) h
end
structure Room (k:Nat)(A:Around):Prop where
 hd:A.handled=none
 dp:A.depth+3*k+5<recursionLimit
 un:A.units+16*k+200<cLine
 gd:A.guards=some []
variable {k:Nat}
theorem Room.mono {j:Nat}(r:Room k A)(h:j<=k):Room j A:=⟨r.hd,by have:=r.dp;omega,by have:=r.un;omega,r.gd⟩
theorem Room.deeper (r:Room (k+1) A)(env:Env):Room k (A.deeper env):=
 ⟨r.hd,by have:=r.dp;show A.depth+1+3*k+5<_;omega,by have:=r.un;show A.units+3+16*k+200<_;omega,r.gd⟩
theorem Room.depth (r:Room k A):A.depth<recursionLimit:=by have:=r.dp;omega
theorem Room.units (r:Room k A):A.units+64<cLine:=by have:=r.un;omega
def jaV:TA:=λ_ H Q=>Q [] H
def En (ta:TE)(tr:TA):TA:=λσ H Q=>ta σ H λx H1=>tr σ H1 λxs H2=>Q (x::xs) H2
section
variable {X:Cx}{e:Expr}{es:List Expr}{te:TE}{t:TA}{pos:Pos}
theorem pa_nil:PA X [] jaV:=λ_ _ _ _ H Q I h=>G0A ⟨[],H,I,.nil,h⟩
theorem yC (ha:PE X e te)(hr:PA X es t)(hs:starEach (e::es) X.env=(false,eval e X.env)::starEach es X.env:=by rfl):PA X (e::es) (En te t):=by
 intro pos pins s σ H Q I h;rw [hs];show wpAny _ _ (spliced ((false,eval e X.env)::backTo pos (starEach es X.env))) _ _ s;refine V4 (thn (ha pins s σ H _ I h) λu s1 ⟨x,H1,I1,r1,q1⟩=> ?_);exact thn (hr pos pins s1 σ H1 _ I1 q1) λus s2 ⟨xs,H2,I2,r2,q2⟩=>⟨x::xs,H2,I2,.cons r1 r2,q2⟩
def jcj (t:TA):TE:=λσ H Q=>t σ H λxs H1=>xs.length<=sizeLine/\ ∀p,H1 p=none->Q (.ref p) (upd H1 p (.tup xs))
def jck (t:TA):TE:=λσ H Q=>t σ H λxs H1=>xs.length<=sizeLine/\ ∀p,H1 p=none->Q (.ref p) (upd H1 p (.lst xs))
theorem uP {x1}(h:PA X es t):PE X (.Tuple es x1 pos) (jcj t):=by
 intro pins s σ H Q I hq;refine wpAny_Tuple_spliced (thn (h pos pins s σ H _ I hq) λus s1 ⟨xs,H1,I1,r,z,q⟩=>⟨by rw [<-r.length];exact z,?_⟩);have hf:H1 s1.heap.objs.size=none:=I1.hok.fresh (G6 _);refine⟨.ref s1.heap.objs.size,upd H1 s1.heap.objs.size (.tup xs),I1.laid (t':=s1.toks) (λb u e=>G1 _ e) (G6 _) ?_,rfl,q _ hf⟩;exact⟨z,us,r,IsTupN.new _ _⟩
theorem uQ (h:PA X es t):PE X (.List es pos) (jck t):=by
 intro pins s σ H Q I hq;refine wpAny_List_spliced (thn (h pos pins s σ H _ I hq) λus s1 ⟨xs,H1,I1,r,z,q⟩=>⟨by rw [<-r.length];exact z,?_⟩);have hf:H1 s1.heap.objs.size=none:=I1.hok.fresh (G6 _);refine⟨.ref s1.heap.objs.size,upd H1 s1.heap.objs.size (.lst xs),I1.laid (t':=s1.toks) (λb u e=>G1 _ e) (G6 _) ?_,rfl,q _ hf⟩;exact⟨z,us,0,r,P9 _ rfl⟩
end
abbrev Sp:=List V->Hp->VK->XK->Prop
abbrev CXT:=List Env->Hp->Shared->XK->Value->Shared->Prop
structure Env0 (P:Program)(w:World)(K:PySem.W.Frag)(mg:Str->Option Value)(base:Heap)(A:Around)(outer:List Env)(s:Shared)(H:Hp):Prop where
 frames:A.frames=some outer
 mod:Mod K mg base
 bs: ∀b o,base.get? b=some o->s.heap.get? b=some o/\H b=none
 bsz:base.objs.size<=s.heap.objs.size
 funs:s.heap.FunFrames base outer
 frf: ∀b∈frs outer,H b=none
 hok:HOk P w H s.heap
 bare:AllBare s.gens
def CE (outer:List Env)(P:Program)(w:World)(H:Hp)(s:Shared)(Q:VK)(u:Value)(s':Shared):Prop:=
 ∃v H',s'.os=s.os/\AllBare s'.gens/\Un (frs outer) [] H H' s.heap s'.heap/\HOk P w H' s'.heap/\RelV v u/\Q v H'
def CR (CX:CXT)(outer:List Env)(P:Program)(w:World)(H:Hp)(s:Shared)(Q:VK)(E:XK)(r:Result)(s':Shared):Prop:=
 match r with
 | .ok (.ret u)=>CE outer P w H s Q u s'
 | .ok _=>False
 | .error e=>CX outer H s E e s'
structure FnOk (P:Program)(w:World)(K:PySem.W.Frag)(mg:Str->Option Value)(base:Heap)(CX:CXT)(k:Nat)(f:Addr)(fd:FuncData)(ps:List Str)(sp:Sp):Prop where
 len: ∀vs H Q E,sp vs H Q E->vs.length=ps.length
 run: ∀ (A:Around) (outer:List Env) (s:Shared) (H:Hp) (args:Args) (us:List Value) (vs:List V) (Q:VK) (E:XK),Room k A->Env0 P w K mg base A outer s H->BindsTo s fd args (ps.zip us)->Vals vs us->sp vs H Q E->
  codeAny (model P w) A (.call (.ref f) args) (CR CX outer P w H s Q E) s
section
variable {X:Cx}{pins:List (Addr×Obj)}{σ:St}{H:Hp}{s s':Shared}
theorem Inv.env0 (I:Inv X pins σ H s):Env0 X.prog X.w X.K X.mg X.base X.A X.stack s H:=
 ⟨I.ok.frames,I.ok.mod,I.bs,S1 I.ok.bsz I.sz,I.stack,I.stkFree,I.hok,I.bare⟩
theorem Inv.after {Q:VK}{u:Value}(I:Inv X pins σ H s)(h:CE X.stack X.prog X.w H s Q u s'):EP X pins σ Q u s':=by
 obtain⟨v,H',os,bare,un,hok,r,q⟩:=h;obtain⟨hh,g,d,t,os'⟩:=s';obtain rfl:os'=s.os:=os;exact⟨v,H',I.call (h':=hh) (g':=g) (d':=d) (t':=t) (ch:= []) un hok bare (λb z=>absurd z (by simp)),r,q⟩
end
def Hn (sp:Sp)(dvs:List V)(E:XK)(t:TA):TE:=λσ H Q=>t σ H λvs H1=>sp (vs++dvs) H1 Q E
def Binds (K:PySem.W.Frag)(fd:FuncData)(ps:List Str)(ds:List Value):Prop:=
 ∀ (s:Shared) (us:List Value),K.In s.heap->(us++ds).length=ps.length->BindsTo s fd ⟨us,[]⟩ (ps.zip (us++ds))
theorem Binds.all {fd:FuncData}{ps:List Str}(h: ∀us:List Value,us.length=ps.length->bindArgs fd ⟨us,[]⟩=pure (ps.zip us)):Binds K fd ps []:=λs us _ hl=>by
 rw [C7] at hl ⊢;exact .of_eq (h us hl)
def VC (CX:CXT)(X:Cx)(E:XK):Prop:= ∀ (pins:List (Addr×Obj)) (σ:St) (H:Hp) (s:Shared) (e:Value) (s':Shared),Inv X pins σ H s->CX X.stack H s E e s'->X.xe e s'
section
variable {X:Cx}{CX:CXT}{k:Nat}{f C:Addr}{fd:FuncData}{ps:List Str}{sp:Sp}{dvs:List V}{ds:List Value}{E:XK}{x m:Str}{p pos apos:Pos}{e o:Expr}{es:List Expr}{ta:TE}{t:TA}
theorem uR {pins:List (Addr×Obj)}{σ:St}{H:Hp}{s:Shared}{Q:VK}{us:List Value}{vs:List V}(F:FnOk X.prog X.w X.K X.mg X.base CX k f fd ps sp)(hr:Room k X.A)(hb:Binds X.K fd ps ds)(hd:Vals dvs ds)(hx:VC CX X E)
 (I:Inv X pins σ H s)(r:Vals vs us)(h:sp (vs++dvs) H Q E):wpAny (model X.prog X.w) X.A (call (.ref f) us) (EP X pins σ Q) X.xe s:=by
 have r2:Vals (vs++dvs) (us++ds):=r.append hd;have hl:(us++ds).length=ps.length:=by rw [<-r2.length];exact F.len _ _ _ _ h
 refine W7 (X6 (F.run X.A X.stack s H ⟨us,[]⟩ (us++ds) (vs++dvs) Q E hr I.env0 (hb s us I.kIn hl) r2 h) λr s' hq=> ?_);cases r with
 |error e=>exact hx pins σ H s e s' I hq
 |ok fl=>
  cases fl with
  |ret u=>exact I.after hq
  |next=>exact False.elim hq
  |brk=>exact False.elim hq
  |cont=>exact False.elim hq
theorem FF (F:FnOk X.prog X.w X.K X.mg X.base CX k f fd ps sp)(hr:Room k X.A)(hg:Gl X x)(hm:X.mg x=some (.ref f))(hk:PySem.W.keepIn X.K (.ref f)=true)(hb:Binds X.K fd ps ds)(hd:Vals dvs ds)(hx:VC CX X E)
 (ha:PA X (e::es) t)(hdb:(x==("__debug__" :Str))=false:=by decide)(he:starEach (e::es) X.env=(false,eval e X.env)::starEach es X.env:=by rfl)(hpl:(backTo pos (starEach es X.env)).any (·.1)=false:=by rfl):
 PE X (.Call (.Name x p) (e::es) [] pos) (Hn sp dvs E t):=by
 intro pins s σ H Q I h;refine A9 (Yd I hg hm ?_ hdb);refine G0q (h₀:=X.base) I.ok.mod.kin hk (thn (ha pos pins s σ H _ I h) λus s1 ⟨vs,H1,I1,r,q⟩=>⟨I1.kIn,?_⟩) he hpl;exact uR F hr hb hd hx I1 r q
end
structure FnScope (N P:List Str)(sc:Scope):Prop where
 kind:sc.kind= .function
 co:sc.isCoroutine=false
 gen:sc.isGenerator=false
 nd:N.Nodup
 pre:N.take P.length=P
 par: ∀x∈P,sc.names.lookup x=some .local\/sc.names.lookup x=some .cell
 nofree: ∀y∈sc.names,y.2≠ .free
variable {kindOf:Str->Option NameKind}{x:Str}
theorem Pz: ∀ {binds:List (Str×Value)} {m:Str->Option Value},(∀v,(x,v) ∉ binds)->bindL kindOf binds m x=m x
 | [],_,_=>rfl
 |(n,v)::r,m,h=>by
  unfold bindL;rw [Pz λw hw=>h w (D0 _ hw)];split
  ·have:x≠n:=by rintro rfl;exact h v D4
   simp [this]
  ·rfl
theorem PB: ∀ {binds:List (Str×Value)} {m:Str->Option Value},(∀v,(x,v) ∉ binds)->bindC kindOf binds m x=m x
 | [],_,_=>rfl
 |(n,v)::r,m,h=>by
  unfold bindC;rw [PB λw hw=>h w (D0 _ hw)];split
  ·rfl
  ·have:x≠n:=by rintro rfl;exact h v D4
   simp [this]
theorem VD {v:Value}: ∀ {P:List Str} {vs:List Value} {i:Nat} {m:Str->Option Value},P.Nodup->P[i]? =some x->vs[i]? =some v->kindOf x=some .local->
 bindL kindOf (P.zip vs) m x=some v
 | [],_,_,_,_,h,_,_=>by simp at h
 |_::_,[],_,_,_,_,h,_=>by simp at h
 |p::P,w::vs,0,m,nd,h1,h2,hk=>by
  simp at h1 h2;subst h1;subst h2;show bindL kindOf ((p,w)::P.zip vs) m p=_;unfold bindL;rw [Pz λv hv=>(Q0.mp nd).1 (I0 hv).1,if_pos hk];simp
 |p::P,w::vs,i+1,m,nd,h1,h2,hk=>by
  show bindL kindOf ((p,w)::P.zip vs) m x=_;unfold bindL;exact VD (i:=i) (Q0.mp nd).2 (by simpa using h1) (by simpa using h2) hk
theorem VE {v:Value}: ∀ {P:List Str} {vs:List Value} {i:Nat} {m:Str->Option Value},P.Nodup->P[i]? =some x->vs[i]? =some v->kindOf x≠some .local->
 bindC kindOf (P.zip vs) m x=some v
 | [],_,_,_,_,h,_,_=>by simp at h
 |_::_,[],_,_,_,_,h,_=>by simp at h
 |p::P,w::vs,0,m,nd,h1,h2,hk=>by
  simp at h1 h2;subst h1;subst h2;show bindC kindOf ((p,w)::P.zip vs) m p=_;unfold bindC;rw [PB λv hv=>(Q0.mp nd).1 (I0 hv).1,if_neg hk];simp
 |p::P,w::vs,i+1,m,nd,h1,h2,hk=>by
  show bindC kindOf ((p,w)::P.zip vs) m x=_;unfold bindC;exact VE (i:=i) (Q0.mp nd).2 (by simpa using h1) (by simpa using h2) hk
def start (N:List Str)(vs:List V):St:=vs.map some++List.replicate (N.length-vs.length) none
def Qc (CX:CXT)(P:Program)(w:World)(K:PySem.W.Frag)(mg:Str->Option Value)(base:Heap)(N:List Str)(qual:Str)(scope:Scope)(f:Addr)(cd:Value)(A:Around)(outer:List Env)(s:Shared)(H:Hp)(E:XK):Cx where
 prog:=P
 w:=w
 K:=K
 mg:=mg
 base:=base
 A:=A.deeper (envOfC qual scope s.heap.objs.size f cd)
 N:=N
 s₀:=s
 H₀:=H
 env:=envOfC qual scope s.heap.objs.size f cd
 outer:=outer
 stack:=envOfC qual scope s.heap.objs.size f cd::outer
 ex:= []
 calm:=true
 fn:=λ_=>true
 pn:= []
 xe:=λe s'=>wpAny (model P w) (A.deeper (envOfC qual scope s.heap.objs.size f cd)) (leaving (envOfC qual scope s.heap.objs.size f cd) e) (λ_ s''=>CX outer H s E e s'') (λe' s''=>CX outer H s E e' s'') s'
theorem JM {sc:Scope}{n:Nat}(h:sc.names.lookup x=some .cell): ∃c,(cellsFrom n sc.names []).lookup x=some c:=by
 have q:=K0 sc.names n [] (.inl h);exact C5.mp q
theorem PC {CX:CXT}{mg:Str->Option Value}{base:Heap}{N ps:List Str}{qual:Str}{scope:Scope}{f:Addr}{cd:Value}{outer:List Env}{s1:Shared}{E:XK}{us:List Value}{vs:List V}
 (S:FnScope N ps scope)(hd:A.handled=none)(e0:Env0 P w K mg base A outer s H)(hl:vs.length=ps.length)(r:Vals vs us)
 (x:InCallC s s.heap.objs.size (bindL (envOfC qual scope s.heap.objs.size f cd).kindOf (ps.zip us) λ_=>none) (cellsFrom (s.heap.objs.size+1) scope.names []) (bindC (envOfC qual scope s.heap.objs.size f cd).kindOf (ps.zip us) λ_=>none) s1):
 Inv (Qc CX P w K mg base N qual scope f cd A outer s H E) [] (start N vs) H s1:=by
 have hpl:ps.length<=N.length:=by have:=congrArg List.length S.pre;rw [R0] at this;omega
 obtain⟨h1,tk,rfl,hk⟩:=x.done;have noA: ∀b:Addr,b ∉ (Qc CX P w K mg base N qual scope f cd A outer s H E).ex:=λb z=>absurd (show b∈([]:List Addr) from z) (by simp)
 refine⟨⟨e0.mod,S.kind,rfl,rfl,G6 _,λy z c h1 h2=> ?_,λy hy=> ?_,λy c _ h=> ?_,λ_=>hd,Y6 e0.frames,.inr ⟨rfl,rfl⟩,λb z=>absurd z (noA b),e0.bs,e0.bsz,λb _ _=>noA b,λb z=>absurd z (noA b),e0.funs,e0.frf⟩,
  rfl,e0.bare,Un.kept hk,⟨_,x.toInCall.ns,λi y v h1 h2 h3=> ?_⟩,λy c h=>⟨_,x.cell y c h⟩,e0.hok.fresh (G6 _),λy c h=> ?_,λp hp=>absurd (show p∈([]:List (Addr×Obj)) from hp) (by simp),e0.hok.kept hk,?_⟩
 ·exact name_of_addr x.apart (N5 h1) (N5 h2)
 ·have hy:scope.names.lookup y=some .cell\/scope.names.lookup y=some .free:=hy;rcases hy with hy|hy
  ·exact JM hy
  ·exact absurd rfl (S.nofree _ (N5 hy))
 ·exact D7 (x.above y c (N5 h))
 ·have hi:i<vs.length:=by
   unfold start at h2
   by_cases hi:i<vs.length
   ·exact hi
   ·rw [P7 (by simpa using hi)] at h2;rw [V5] at h2;split at h2<;>cases h2
  have ha:vs[i]? =some v:=by
   unfold start at h2;rw [S0 (by simpa using hi),P1] at h2;cases e:vs[i]? with
   |none=>rw [e] at h2;cases h2
   |some a=>rw [e] at h2;cases h2;rfl
  obtain⟨u,hu,rv⟩:=r.get ha;have hp:ps[i]? =some y:=by
   rw [<-S.pre,O6 (by omega)];exact h1
  have ndP:ps.Nodup:=by rw [<-S.pre];exact S.nd.sublist (J0 _ _)
  refine⟨u,rv,?_⟩;rcases S.par y (G5 hp) with k|k
  ·exact .inl ⟨k,VD ndP hp hu k⟩
  ·obtain⟨c,e⟩:=JM (n:=s.heap.objs.size+1) k;refine .inr ⟨.inl k,c,e,?_⟩;have q:=x.cell y c e;rw [VE ndP hp hu (by show scope.names.lookup y≠_;rw [k];decide)] at q;exact q
 ·exact e0.hok.fresh (D7 (x.above y c (N5 h)))
 ·unfold start;show _=N.length;rw [G8,G2,G0X];omega
theorem Ho {CX:CXT}{mg:Str->Option Value}{base:Heap}{f:Addr}{name qual:Str}{params:Arguments}{body:List Stmt}{scope:Scope}{dV kV doc pm cdv ct oc:Value}{an od:Option Addr}{osl:Array (Option Value)}{N ps:List Str}{sp:Sp}(lk:K.lookup f=some ⟨oc,od,.func (PySem.W.fnOf name qual params body scope dV kV doc pm an cdv ct),osl⟩)(hcd:PySem.W.codeIn K cdv qual=true)(S:FnScope N ps scope)
 (len: ∀vs H Q E,sp vs H Q E->vs.length=ps.length)
 (hbody: ∀ (A:Around) (outer:List Env) (s:Shared) (H:Hp) (vs:List V) (Q:VK) (E:XK),Room k (A.deeper (envOfC qual scope s.heap.objs.size f cdv))->sp vs H Q E->
  ∃t,PSs (Qc CX P w K mg base N qual scope f cdv A outer s H E) body t/\t {nx:=λ_ H'=>Q .non H',rt:=Q} (start N vs) H):
 FnOk P w K mg base CX (k+1) f (PySem.W.fnOf name qual params body scope dV kV doc pm an cdv ct) ps sp:=by
 refine⟨len,λA outer s H args us vs Q E hr e0 hb r hsp=> ?_⟩;have hl:=len _ _ _ _ hsp;have KX:K.In s.heap:=e0.mod.kin.keeps λb o e=>(e0.bs b o e).1
 have lim:s.heap.NoLimit:=e0.mod.nolimit.keeps λb o e=>(e0.bs b o e).1
 have hkind: ∀y∈ps.zip us,scope.names.lookup y.1=some .local\/(scope.names.lookup y.1=some .cell/\((cellsFrom (s.heap.objs.size+1) scope.names []).lookup y.1).isSome=true):=λ⟨n,v⟩ hy=>by
  rcases S.par n (I0 hy).1 with q|q
  ·exact .inl q
  ·exact .inr ⟨q,K0 _ _ _ (.inl q)⟩
 refine X7 hr.depth (KX _ _ lk) rfl S.co S.gen rfl (G0r KX hcd) (hb _ _ _ _ ?_);refine U3 S.kind hkind λenv he s1 x=> ?_
 subst he;refine⟨lim.keeps x.toInCall.keep,codeAny_func ?_⟩;obtain⟨t,ht,hq⟩:=hbody A outer s H vs Q E (hr.deeper _) hsp;have I:Inv (Qc CX P w K mg base N qual scope f cdv A outer s H E) [] (start N vs) H s1:=PC S hr.hd e0 hl r x;refine D8 (ht [] s1 (start N vs) H _ I hq) (λfl s' hs=> ?_) λe s' hs=>hs
 have fin: ∀ {σ':St} {H':Hp} {v:V} {u:Value},Inv (Qc CX P w K mg base N qual scope f cdv A outer s H E) [] σ' H' s'->RelV v u->Q v H'->CE outer P w H s Q u s':=
  λ{σ' H' v u} J rv q=>⟨v,H',J.os,J.bare,J.base,J.hok,rv,q⟩
 cases fl with
 |ret u=>
  obtain⟨v,σ',H',J,rv,q⟩:=hs;exact fin J rv q
 |next=>
  obtain⟨σ',H',J,q⟩:=hs;exact fin (v:=V.non) (u:=Value.none) J rfl q
 |brk=>
  obtain⟨_,_,_,q⟩:=hs;exact False.elim q
 |cont=>
  obtain⟨_,_,_,q⟩:=hs;exact False.elim q
section
variable {X:Cx}{x:Str}{p pos:Pos}{e:Expr}{es:List Expr}{t:TA}{id T:String}{r:List V->Hp->VK->Prop}
def tCB (r:List V->Hp->VK->Prop)(t:TA):TE:=λσ H Q=>t σ H λvs H1=>r vs H1 Q
theorem Vr (hc:CallR X (.builtin id) r)(hg:Gl X x)(hm:X.mg x=none)(hv:bootBuiltins x=some (.builtin id))(ha:PA X (e::es) t)(hn:x≠ "__name__" :=by decide)(hdb:(x==("__debug__" :Str))=false:=by decide)
 (he:starEach (e::es) X.env=(false,eval e X.env)::starEach es X.env:=by rfl)(hpl:(backTo pos (starEach es X.env)).any (·.1)=false:=by rfl):PE X (.Call (.Name x p) (e::es) [] pos) (tCB r t):=by
 intro pins s σ H Q I h;refine A9 (vW I hg hm hv ?_ hn hdb);exact PyProof.Rows.callWith_builtin1 (thn (ha pos pins s σ H _ I h) λus s1 ⟨vs,H1,I1,r1,q1⟩=>hc pins s1 σ H1 vs us Q I1 r1 q1) he hpl
theorem PD (hc:CallR X (.type T) r)(hg:Gl X x)(hm:X.mg x=none)(hv:bootBuiltins x=some (.type T))(ha:PA X (e::es) t)(hn:x≠ "__name__" :=by decide)(hdb:(x==("__debug__" :Str))=false:=by decide)
 (he:starEach (e::es) X.env=(false,eval e X.env)::starEach es X.env:=by rfl)(hpl:(backTo pos (starEach es X.env)).any (·.1)=false:=by rfl):PE X (.Call (.Name x p) (e::es) [] pos) (tCB r t):=by
 intro pins s σ H Q I h;refine A9 (vW I hg hm hv ?_ hn hdb);exact T4 (thn (ha pos pins s σ H _ I h) λus s1 ⟨vs,H1,I1,r1,q1⟩=>hc pins s1 σ H1 vs us Q I1 r1 q1) he hpl
end
end L2
namespace HT
open PySem PyProof.Rows
def ze:List Int->List Int->Bool
 | [],[]=>false
 | [],_::_=>true
 |_::_,[]=>false
 |x::xs,y::ys=>if x=y then ze xs ys else decide (x<y)
theorem Xz (x y:Int)(xs ys:List Int):ze (x::xs) (y::ys)=if x=y then ze xs ys else decide (x<y):=rfl
theorem Qe:ze [] []=false:=rfl
theorem UR (y:Int)(ys:List Int):ze [] (y::ys)=true:=rfl
theorem US (x:Int)(xs:List Int):ze (x::xs) []=false:=rfl
theorem NV (A:Around)(s:Shared)(a:Int)(t:Tok)(c:Int)(u:Tok): ∃e,SeqAt.EqAt A s (.int a t) (.int c u) e/\(e=true↔a=c):=
 ⟨(a==c),SeqAt.EqAt.int_int a t c u,by simp⟩
theorem Eo (A:Around)(s:Shared)(a:Int)(t:Tok)(c:Int)(u:Tok)(prog:Program)(w:World)(E:Value->Shared->Prop)(Q:Value->Shared->Prop)(h:Q (.bool (decide (a<c))) s):
 wpAny (model prog w) A (richCompare .Lt (.int a t) (.int c u)) Q E s:=
 (G1g h:wpAny (model prog w) A (compareOp .Lt (.int a t) (.int c u)) Q E s)
section
open PySem.SeqAt
open PySem.AutoSeq1 (wpAny_loadPart')
open PySem.MeetsSeq PySem.MeetsSeq2 PySem.MeetsSeq3
theorem Wh (l b:Addr)(items items2:Array Value)(n n2:Nat)(dd dd2:Option Addr)(sl sl2:Array (Option Value))(ns ms:List Int)(hi:IntsAre items.toList ns)(hj:IntsAre items2.toList ms):
 Meets (Builtin.«tuple.__lt__» ⟨[.ref l,.ref b],[]⟩)
  (λ_ R s=>s.heap.get? l=some {cls:= .type "tuple",dict:=dd,data:= .seq items n,slots:=sl}/\s.heap.get? b=some {cls:= .type "tuple",dict:=dd2,data:= .seq items2 n2,slots:=sl2}/\
   R (.ok (.ret (.bool (ze ns ms)))) s):=
 .of_wp λprog w A R s h=>by
  obtain⟨hp,g,d,tk,os⟩:=s;obtain⟨hl,hb,h⟩:=h;have f2:=AutoSeq1.sub_tuple_tuple;have z1:items.size=ns.length:=by rw [<-hi.length];simp
  have z2:items2.size=ms.length:=by rw [<-hj.length];simp
  wp_walk using wpAny_loadPart' hl,wpAny_loadPart' hb,wpAny_forIn_list _ (λrest b s'=>b.1=none/\s'=⟨hp,g,d,tk,os⟩/\ ∃ (vs ws:List Value) (ns' ms':List Int),rest=vs.zip ws/\
   IntsAre vs ns'/\IntsAre ws ms'/\ns'.length+items2.size=ms'.length+items.size/\R (.ok (.ret (.bool (ze ns' ms')))) ⟨hp,g,d,tk,os⟩) _
  case turn=>
   rintro ⟨y,x⟩ rest b s' ⟨hb',rfl,vs,ws,ns',ms',hz,hvi,hwi,hlen,hR⟩;cases hvi with
   |nil=>rw [G0B] at hz;cases hz
   |cons a t hvi'=>
    cases hwi with
    |nil=>rw [List.zip_nil_right] at hz;cases hz
    |cons c u hwi'=>
     rw [K3] at hz;injection hz with hyx hrest
     injection hyx with hy hx
     subst hy hx;rw [Xz] at hR;simp only [D2] at hlen;obtain⟨e,he,hiff⟩:=NV A.in1 ⟨hp,g,d,tk,os⟩ a t c u;refine wpAny_bind (he prog w _ _ ?_);cases e with
     |true=>
      rw [if_pos (hiff.mp rfl)] at hR
      wp_walk
      exact⟨rfl,rfl,_,_,_,_,hrest,hvi',hwi',by omega,hR⟩
     |false=>
      rw [if_neg (λq=>absurd (hiff.mpr q) P6)] at hR;have hri:=Eo A.in1 ⟨hp,g,d,tk,os⟩ a t c u prog w
      wp_walk using hri
      exact⟨_,rfl,by simpa using hR⟩
  case fin=>
   rintro ⟨b1,b2⟩ s' ⟨hb',rfl,vs,ws,ns',ms',hz,hvi,hwi,hlen,hR⟩;simp only at hb';subst hb';have hv:ze ns' ms'=decide (items.size<items2.size):=by
    cases hvi with
    |nil=>
     cases hwi with
     |nil=>
      simp only [S4] at hlen;rw [Qe];exact(R4 (by omega)).symm
     |cons c u hw=>
      simp only [S4,D2] at hlen;rw [UR];exact(P0 (by omega)).symm
    |cons a t hv=>
     cases hwi with
     |nil=>
      simp only [S4,D2] at hlen;rw [US];exact(R4 (by omega)).symm
     |cons c u hw=>
      rw [K3] at hz;cases hz
   rw [hv] at hR
   wp_walk
   exact⟨_,rfl,by simpa [Builtin.Tuple.tupleCompareSizes] using hR⟩
  case h=>
   exact⟨rfl,rfl,items.toList,items2.toList,ns,ms,rfl,hi,hj,by omega,h⟩
end
section
variable {prog:Program}{w:World}{A:Around}{E:Value->Shared->Prop}{s:Shared}
theorem BR {l b:Addr}{items items2:Array Value}{ns ms:List Int}{Q:Value->Shared->Prop}(hl:IsTup s.heap l items)(hb:IsTup s.heap b items2)(hi:IntsAre items.toList ns)(hj:IntsAre items2.toList ms)
 (hu:A.units<cLine)(h:Q (.bool (ze ns ms)) s):wpAny (model prog w) A (compareOp .Lt (.ref l) (.ref b)) Q E s:=by
 obtain⟨⟨cls,dd,data,sl⟩,ho,hc,n,hd⟩:=id hl;obtain⟨⟨cls2,dd2,data2,sl2⟩,ho2,hc2,n2,hd2⟩:=id hb;simp only at hc hd hc2 hd2;subst hc hd hc2 hd2;exact richCompare_meets_room (op:= .Lt) ⟨_,ho,rfl⟩ ⟨_,ho2,rfl⟩ X8 G0S (G0I _ _) (Wh l b items items2 n n2 dd dd2 sl sl2 ns ms hi hj)
  ⟨ho,ho2,show Value.bool (ze ns ms)≠Value.notImplemented/\Q (.bool (ze ns ms)) s from ⟨(λx=>nomatch x),h⟩⟩ hu
theorem Hq {t b:Addr}{vs ws:List Value}{Q:Value->Shared->Prop}(ht:IsTup s.heap t vs.toArray)(hb:IsTup s.heap b ws.toArray)(hv:vs≠ [])
 (h1:ws= []->Q (.ref t) s)(h2:ws≠ []->Q (.ref s.heap.objs.size) {s with heap:=s.heap.push {cls:= .type "tuple",data:= .seq (vs++ws).toArray}})
 (hsz:vs.length+ws.length<=sizeLine):wpAny (model prog w) A (binaryOp .Add (.ref t) (.ref b)) Q E s:=by
 obtain⟨⟨cls,dd,data,sl⟩,ho,hc,n,hd⟩:=id ht;obtain⟨⟨cls2,dd2,data2,sl2⟩,ho2,hc2,n2,hd2⟩:=id hb;simp only at hc hd hc2 hd2;subst hc hd hc2 hd2;have e:vs.toArray++ws.toArray=(vs++ws).toArray:=by simp
 by_cases hw:ws= []
 ·exact concat_meets ⟨_,ho,rfl⟩ ⟨_,ho2,rfl⟩ G0O seq_tuple_add W5 V6 (V1 _ _)
   (tuple_addW1 t b vs.toArray ws.toArray n n2 dd dd2 sl sl2 (by simpa using hv) (by simp [hw])) ⟨ho,ho2,h1 hw⟩
 ·refine concat_meets ⟨_,ho,rfl⟩ ⟨_,ho2,rfl⟩ G0O seq_tuple_add W5 V6 (V1 _ _)
   (tuple_addW2 t b vs.toArray ws.toArray n n2 dd dd2 sl sl2 (by simpa using hv) (by simpa using hw) (by rw [P5,P5];exact hsz)) ⟨ho,ho2,?_⟩
  rw [e];exact h2 hw
def sIx (n d:Nat):Option Int->Nat
 |none=>d
 |some v=>if v<0 then (v+(n:Int)).toNat else min v.toNat n
theorem uS (n d:Nat)(hd:d<=n)(o:Option Int):sIx n d o<=n:=by
 cases o with
 |none=>exact hd
 |some v=>
  show (if v<0 then (v+(n:Int)).toNat else min v.toNat n)<=n
  by_cases hv:v<0
  ·rw [if_pos hv];omega
  ·rw [if_neg hv];exact J9 _ _
theorem FG (v:Int)(n d:Nat):(if v<0 then max (v+(n:Int)) 0 else min v (n:Int))=((sIx n d (some v):Nat):Int):=by
 show (if v<0 then max (v+(n:Int)) 0 else min v (n:Int))=(((if v<0 then (v+(n:Int)).toNat else min v.toNat n):Nat):Int)
 by_cases hv:v<0
 ·simp only [if_pos hv];omega
 ·simp only [if_neg hv];omega
theorem BS (lo hi:Option Int)(n:Nat):Builtin.Slice.sliceAdjust lo hi 1 (n:Int)=(((sIx n 0 lo:Nat):Int),((sIx n n hi:Nat):Int)):=by
 have h1: ¬ ((1:Int)<0):=by omega
 unfold Builtin.Slice.sliceAdjust;simp only [h1,G1k];refine Prod.ext ?_ ?_
 ·cases lo with
  |none=>rfl
  |some v=>exact FG v n 0
 ·cases hi with
  |none=>rfl
  |some v=>exact FG v n n
theorem BT (i j:Nat):Builtin.Slice.slicePlaces (i:Int) (j:Int) 1=j-i:=by
 unfold Builtin.Slice.slicePlaces;have h1:(1:Int)>0:=by omega
 simp only [h1,if_true,Int.ediv_one];split<;>omega
theorem XA {v:Value}{o:Option Int}{Q:Option Int->Shared->Prop}(p:IsPart v o)(h:Q o s):wpAny (model prog w) A (Builtin.Slice.slicePartIndex v) Q E s:=by
 cases p with
 |none=>exact slicePart_none h
 |int i t=>exact slicePart_int h
theorem vI {sl:Addr}{vl vu:Value}{lo hi:Option Int}{n:Nat}{Q:Int×Int×Nat->Shared->Prop}(hs:s.heap.IsSliceOf sl vl vu .none)(pl:IsPart vl lo)(pu:IsPart vu hi)
 (h:Q (((sIx n 0 lo:Nat):Int),1,sIx n n hi-sIx n 0 lo) s):wpAny (model prog w) A (Builtin.Slice.sliceApplied (.ref sl) (pure (n:Int))) Q E s:=by
 obtain⟨os,hos,hcs,hds⟩:=id hs;unfold Builtin.Slice.sliceApplied Builtin.Slice.sliceFields;refine wpAny_bind (wpAny_bind (G1h hos hds (x:=vl) rfl (wpAny_bind (G1h hos hds (x:=vu) rfl (wpAny_bind (G1h hos hds (x:= .none) rfl (G9 ?_)))))));refine wpAny_bind (slicePart_none ?_);show wpAny _ _ (if ((1:Int)==0)=true then _ else _) _ _ s;rw [if_neg (by decide)];refine wpAny_bind (XA pl (wpAny_bind (XA pu (wpAny_bind (G9 ?_)))));show wpAny _ _ (match Builtin.Slice.sliceAdjust lo hi 1 (n:Int) with|(lo,hi)=>pure (lo,(1:Int),Builtin.Slice.slicePlaces lo hi 1)) _ _ s;rw [BS lo hi n];show wpAny _ _ (pure (((sIx n 0 lo:Nat):Int),(1:Int),Builtin.Slice.slicePlaces ((sIx n 0 lo:Nat):Int) ((sIx n n hi:Nat):Int) 1)) _ _ s;rw [BT];exact G9 h
theorem Ep (xs:Array Value)(i k:Nat):((List.range k).filterMap λ(m:Nat)=>xs[((i:Int)+(m:Int)*1).toNat]?).toArray=((xs.toList.drop i).take k).toArray:=by
 have e:(λ(m:Nat)=>xs[((i:Int)+(m:Int)*1).toNat]?)=λm=>xs[i+m]? :=by
  funext m
  have:((i:Int)+(m:Int)*1).toNat=i+m:=by omega
  rw [this]
 rw [e];have:=pick_run xs i k;rw [List.filterMap_map] at this;have e2:((λx=>xs[x]?)∘λx=>i+x)=λm=>xs[i+m]? :=rfl
 rw [e2] at this;rw [this]
theorem Ye {t sl:Addr}{items:Array Value}{vl vu:Value}{lo hi:Option Int}{Q:Value->Shared->Prop}(ht:IsTup s.heap t items)(hs:s.heap.IsSliceOf sl vl vu .none)(pl:IsPart vl lo)(pu:IsPart vu hi)
 (hw: ¬ (sIx items.size 0 lo=0/\sIx items.size items.size hi=items.size))
 (h:Q (.ref s.heap.objs.size) {s with heap:=s.heap.push {cls:= .type "tuple",data:= .seq ((items.toList.drop (sIx items.size 0 lo)).take (sIx items.size items.size hi-sIx items.size 0 lo)).toArray}})
 (hsz:items.size<=sizeLine):wpAny (model prog w) A (getItem (.ref t) (.ref sl)) Q E s:=by
 have htake:sizeOk (.seq ((items.toList.drop (sIx items.size 0 lo)).take (sIx items.size items.size hi-sIx items.size 0 lo)).toArray):=by
  show ((items.toList.drop (sIx items.size 0 lo)).take (sIx items.size items.size hi-sIx items.size 0 lo)).toArray.size<=sizeLine;rw [P5,R0,S6,T1];omega
 have hj:sIx items.size items.size hi<=items.size:=uS _ _ (G6 _) hi;obtain⟨os,hos,hcs,hds⟩:=id hs;have hTs:s.TypeIs (.ref sl) "slice" :=⟨os,hos,hcs⟩;unfold getItem
 try with_reducible refine B8 ?_
 first|refine wpAny_bind (G9 ?_)|skip
 refine wpAny_bind (wpAny_sequenceKey ht.typeIs (by decide) ?_);refine wpAny_bind (C8 (name:=Str.ofString "__getitem__") ht.typeIs H0
  (C4 H0 ht.typeIs entry_tuple_getitem ?_ (args_tuple_getitem _ _)))
 show wpAny _ _ (Builtin.Tuple.tupleItemsOf (.ref t) >>= _) _ _ s;refine wpAny_bind (tupleItemsOf_ ht ?_);refine wpAny_bind (wpAny_typeOf hTs ?_);rw [if_pos (by decide)];refine wpAny_bind (vI hs pl pu ?_);have hno: ¬ ((((sIx items.size 0 lo:Nat):Int)==0&&(1:Int)==1&&(sIx items.size items.size hi-sIx items.size 0 lo)==items.size)=true):=by
  intro q;rw [N0,N0] at q;have q1:((sIx items.size 0 lo:Nat):Int)=0:=eq_of_beq q.1.1;have q2:sIx items.size items.size hi-sIx items.size 0 lo=items.size:=eq_of_beq q.2;exact hw ⟨by omega,by omega⟩
 show wpAny _ _ (if (((sIx items.size 0 lo:Nat):Int)==0&&(1:Int)==1&&(sIx items.size items.size hi-sIx items.size 0 lo)==items.size)=true then _ else _) _ _ s;rw [if_neg hno,Ep]
 first
  |exact wpAny_bind (m:=Builtin.Tuple.tupleExact _) (E8 (G9 ⟨_,rfl,G9 h⟩) htake)
  |exact wpAny_bind (m:=Builtin.Tuple.tupleExact _) (E8 (wpAny_bind (G9 (G9 ⟨_,rfl,G9 h⟩))) htake)
  |exact wpAny_bind (wpAny_bind (m:=Builtin.Tuple.tupleExact _) (E8 (G9 (G9 ⟨_,rfl,G9 h⟩)) htake))
  |exact wpAny_bind (wpAny_bind (m:=Builtin.Tuple.tupleExact _) (E8 (G9 ⟨_,rfl,G9 h⟩) htake))
end
end HT
namespace L2
open PySem PySem.Spec PyProof.Rows
abbrev TO:=St->Hp->(Option Int->Hp->Prop)->Prop
def PO (X:Cx)(e:Option Expr)(t:TO):Prop:=
 ∀ (pins:List (Addr×Obj)) (s:Shared) (σ:St) (H:Hp) (Q:Option Int->Hp->Prop),Inv X pins σ H s->t σ H Q->
  wpAny (model X.prog X.w) X.A (evalPart e X.env) (λu s'=> ∃o H',Inv X pins σ H' s'/\IsPart u o/\Q o H') X.xe s
def Hr:TO:=λ_ H Q=>Q none H
def jaW (t:TE):TO:=λσ H Q=>t σ H λx H1=> ∃i,x= .int i/\Q (some i) H1
section
variable {X:Cx}{e:Expr}{te:TE}{lo hi:Option Expr}{tl th:TO}{pos p2:Pos}
theorem po_none:PO X none Hr:=by
 intro pins s σ H Q I h;rw [evalPart_none];exact G9 ⟨none,H,I,.none,h⟩
theorem Hs (h:PE X e te):PO X (some e) (jaW te):=by
 intro pins s σ H Q I hw;rw [evalPart_some];refine thn (h pins s σ H _ I hw) λu s1 ⟨x,H1,I1,r1,q1⟩=> ?_
 obtain⟨i,rfl,q⟩:=q1;obtain⟨t,rfl⟩:=r1;exact⟨some i,H1,I1,.int i t,q⟩
def SlR (X:Cx)(r:V->Option Int->Option Int->Hp->VK->Prop):Prop:=
 ∀ (pins:List (Addr×Obj)) (s:Shared) (σ:St) (H:Hp) (x:V) (v vl vu:Value) (lo hi:Option Int) (sl:Addr) (Q:VK),Inv X pins σ H s->RelV x v->s.heap.IsSliceOf sl vl vu .none->IsPart vl lo->IsPart vu hi->r x lo hi H Q->
  ∃T id,typeLookup (.type T) "__getitem__" =pure (some (.builtin id))/\s.TypeIs v T/\wpAny (model X.prog X.w) X.A (getItem v (.ref sl)) (EP X pins σ Q) X.xe s
theorem SlR.or {r r':V->Option Int->Option Int->Hp->VK->Prop}(h:SlR X r)(h':SlR X r'):SlR X (λx lo hi H Q=>r x lo hi H Q\/r' x lo hi H Q):=by
 intro pins s σ H x v vl vu lo hi sl Q I rx hs pl pu q;rcases q with q|q
 ·exact h pins s σ H x v vl vu lo hi sl Q I rx hs pl pu q
 ·exact h' pins s σ H x v vl vu lo hi sl Q I rx hs pl pu q
def tSl (r:V->Option Int->Option Int->Hp->VK->Prop)(te:TE)(tl th:TO):TE:=λσ H Q=>te σ H λx H1=>tl σ H1 λl H2=>th σ H2 λu H3=>r x l u H3 Q
theorem Eq {r:V->Option Int->Option Int->Hp->VK->Prop}(hr:SlR X r)(he:PE X e te)(hl:PO X lo tl)(hu:PO X hi th):PE X (.Subscript e (.Slice lo hi none p2) pos) (tSl r te tl th):=by
 intro pins s σ H Q I h;refine Subscript_ (thn (he pins s σ H _ I h) λv s1 ⟨x,H1,I1,r1,q1⟩=> ?_);refine wpAny_Slice (thn (hl pins s1 σ H1 _ I1 q1) λvl s2 ⟨l,H2,I2,pl,q2⟩=>thn (hu pins s2 σ H2 _ I2 q2) λvu s3 ⟨u,H3,I3,pu,q3⟩=> ?_);rw [evalPart_none];refine G9 ?_;have I4:Inv X pins σ H3 {s3 with heap:=s3.heap.push {cls:= .type "slice",data:= .fields #[vl,vu,.none]}}:=I3.kept (t':=s3.toks) λb ob q=>G1 _ q
 obtain⟨T,id,hT,ht,hg⟩:=hr pins {s3 with heap:=s3.heap.push {cls:= .type "slice",data:= .fields #[vl,vu,.none]}} σ H3 x v vl vu l u s3.heap.objs.size Q I4 r1 (Heap.IsSliceOf.new ..) pl pu q3;show wpAny (model X.prog X.w) X.A (subscriptTail e (.Slice lo hi none p2) v (.ref s3.heap.objs.size)) (EP X pins σ Q) X.xe {s3 with heap:=s3.heap.push {cls:= .type "slice",data:= .fields #[vl,vu,.none]}};exact tail_any (ops:= [.ref s3.heap.objs.size,v]) ht hT hg (by with_unfolding_all rfl)
def AG (xs:List V)(lo hi:Option Int):List V:=(xs.drop (HT.sIx xs.length 0 lo)).take (HT.sIx xs.length xs.length hi-HT.sIx xs.length 0 lo)
theorem VF (xs:List V)(lo hi:Option Int):(AG xs lo hi).length<=xs.length:=by
 unfold AG;rw [R0,S6];omega
def jcL (K:PySem.W.Frag):V->Option Int->Option Int->Hp->VK->Prop:=λx lo hi H Q=> ∃a xs,x= .ref a/\SqT K H a xs/\
 ¬ (HT.sIx xs.length 0 lo=0/\HT.sIx xs.length xs.length hi=xs.length)/\ ∀p,H p=none->Q (.ref p) (upd H p (.tup (AG xs lo hi)))
theorem sl_tup:SlR X (jcL X.K):=by
 intro pins s σ H x v vl vu lo hi sl Q I rx hs pl pu h;obtain⟨a,xs,rfl,hx,hw,q⟩:=h;cases rx;obtain⟨its,r,ht,hz⟩:=I.tuple hx;have hlen:its.toArray.size=xs.length:=by rw [P5];exact r.length.symm
 refine⟨"tuple",_,PyProof.Rows.slot_tuple_getitem.lookup,ht.typeIs,?_⟩;refine HT.Ye ht hs pl pu (by rw [hlen];exact hw) ?_ (by rw [hlen];exact hz);rw [hlen];refine⟨.ref s.heap.objs.size,_,I.laid (t':=s.toks) (o:= .tup (AG xs lo hi)) (λb ob q=>G1 _ q) (G6 _) ?_,rfl,q _ (I.hok.fresh (G6 _))⟩;exact⟨S1 (VF xs lo hi) hz,_,(r.drop (HT.sIx xs.length 0 lo)).take (HT.sIx xs.length xs.length hi-HT.sIx xs.length 0 lo),IsTupN.new _ _⟩
def jaX (K:PySem.W.Frag):R2:=λx y H Q=> ∃a b xs ys,x= .ref a/\y= .ref b/\SqT K H a xs/\SqT K H b ys/\xs≠ []/\xs.length+ys.length<=sizeLine/\
 (ys= []->Q (.ref a) H)/\(ys≠ []-> ∀p,H p=none->Q (.ref p) (upd H p (.tup (xs++ys))))
theorem Vals.nil_iff {xs:List V}{us:List Value}(r:Vals xs us):us= []↔xs= []:=by
 cases r with
 |nil=>simp
 |cons _ _=>simp
theorem op_catT:OpR X (binaryOp .Add) (jaX X.K):=by
 intro pins s σ H x y v u Q I rx ry h;obtain⟨a,b,xs,ys,rfl,rfl,ha,hb,hx,hz,q1,q2⟩:=h;cases rx;cases ry;obtain⟨its,r1,p1,_⟩:=I.tuple ha;obtain⟨its2,r2,p2,_⟩:=I.tuple hb;refine HT.Hq p1 p2 (λz=>hx (r1.nil_iff.mp z)) (λz=>⟨.ref a,H,I,rfl,q1 (r2.nil_iff.mp z)⟩) (λz=> ?_) (by rw [<-r1.length,<-r2.length];exact hz);refine⟨.ref s.heap.objs.size,_,I.laid (t':=s.toks) (o:= .tup (xs++ys)) (λb ob q=>G1 _ q) (G6 _) ?_,rfl,q2 (λw=>z (r2.nil_iff.mpr w)) _ (I.hok.fresh (G6 _))⟩;exact⟨by rw [G8];exact hz,_,r1.append r2,IsTupN.new _ _⟩
end
def ixN (n:Nat)(i:Int):Option Nat:=if 0<=i then (if i<n then some i.toNat else none) else if-(n:Int)<=i then some (i+n).toNat else none
def atI {α:Type}(xs:List α)(i:Int):Option α:=(ixN xs.length i).bind λj=>xs[j]?
theorem FH {n:Nat}{i:Int}{j:Nat}(h:ixN n i=some j):seqIndex? i n=some j/\j<n/\ -(n:Int)<=i/\i<n:=by
 unfold ixN at h
 by_cases h0:0<=i
 ·rw [if_pos h0] at h
  by_cases h1:i<n
  ·rw [if_pos h1] at h;have e:i.toNat=j:=S7 h;exact⟨by rw [seqIndex_of h0 h1,e],by omega,by omega,h1⟩
  ·rw [if_neg h1] at h;cases h
 ·rw [if_neg h0] at h
  by_cases h1: -(n:Int)<=i
  ·rw [if_pos h1] at h;have e:(i+n).toNat=j:=S7 h;exact⟨by rw [seqIndex_neg (by omega) h1,e],by omega,h1,by omega⟩
  ·rw [if_neg h1] at h;cases h
theorem Mj {α:Type}{xs:List α}{i:Int}{v:α}(h:atI xs i=some v): ∃j,seqIndex? i xs.length=some j/\xs[j]? =some v/\j<xs.length/\ -(xs.length:Int)<=i/\i<xs.length:=by
 unfold atI at h;cases e:ixN xs.length i with
 |none=>rw [e] at h;cases h
 |some j=>
  rw [e] at h;obtain⟨h1,h2,h3,h4⟩:=FH e;exact⟨j,h1,h,h2,h3,h4⟩
theorem ye {α:Type}{xs:List α}{j:Nat}{v:α}(h:xs[j]? =some v):atI xs (j:Int)=some v:=by
 have hj:j<xs.length:=(G3.mp h).1;have e:ixN xs.length (j:Int)=some j:=by
  unfold ixN;rw [if_pos (by omega),if_pos (by omega)];simp
 unfold atI;rw [e];exact h
def Mk (b:Expr):Prop:= ∀o i,subscripted b false o i=operate [o,i] (getItem o i)
def IxR (X:Cx)(r:R2):Prop:=
 ∀ (value slice:Expr) (pins:List (Addr×Obj)) (s:Shared) (σ:St) (H:Hp) (x y:V) (v u:Value) (Q:VK),Inv X pins σ H s->RelV x v->RelV y u->r x y H Q->
  subscripted slice false v u=operate [v,u] (getItem v u)->wpAny (model X.prog X.w) X.A (subscriptTail value slice v u) (EP X pins σ Q) X.xe s
def MtR (X:Cx)(id:String)(r:V->List V->Hp->VK->Prop):Prop:=
 ∀ (pins:List (Addr×Obj)) (s:Shared) (σ:St) (H:Hp) (x:V) (xs:List V) (v:Value) (us:List Value) (Q:VK),Inv X pins σ H s->RelV x v->Vals xs us->r x xs H Q->
  wpAny (model X.prog X.w) X.A (call (.builtin id) (v::us)) (EP X pins σ Q) X.xe s
section
variable {X:Cx}{a b:Expr}{ta tb:TE}{pos:Pos}
theorem IxR.or {r r':R2}(h:IxR X r)(h':IxR X r'):IxR X (λx y H Q=>r x y H Q\/r' x y H Q):=by
 intro value slice pins s σ H x y v u Q I rx ry q hs;rcases q with q|q
 ·exact h value slice pins s σ H x y v u Q I rx ry q hs
 ·exact h' value slice pins s σ H x y v u Q I rx ry q hs
theorem jaY {r:R2}(hr:IxR X r)(ha:PE X a ta)(hb:PE X b tb)(hs:Mk b):PE X (.Subscript a b pos) (tOp r ta tb):=by
 intro pins s σ H Q I h;exact Subscript_ (jaO ha hb I h λv u s2 x y H2 I2 rx ry q=>hr a b pins s2 σ H2 x y v u Q I2 rx ry q (hs _ _))
def jcl (K:PySem.W.Frag):R2:=λx y H Q=> ∃p xs i v,x= .ref p/\y= .int i/\SqL K H p xs/\atI xs i=some v/\Q v H
def jcm (K:PySem.W.Frag):R2:=λx y H Q=> ∃p xs i v,x= .ref p/\y= .int i/\SqT K H p xs/\atI xs i=some v/\Q v H
def jcn:R2:=λx y H Q=> ∃z i c,x= .str z/\y= .int i/\z.length<=sizeLine/\atI z.cps.toList i=some c/\Q (.str ⟨#[c]⟩) H
theorem ix_list:IxR X (jcl X.K):=by
 intro value slice pins s σ H x y v u Q I rx ry h hs;obtain⟨p,xs,i,z,rfl,rfl,hq,he,q⟩:=h;cases rx;obtain⟨t,rfl⟩:=ry;obtain⟨its,r,pl,hz⟩:=I.list hq;obtain⟨j,h1,h2,h3,h4,h5⟩:=Mj he;obtain⟨w,ew,rw'⟩:=r.get h2;have hl:=r.length;have hn:=Py;have fin:EP X pins σ Q w s:=⟨z,H,I,rw',q⟩
 by_cases h0:0<=i
 ·have hj:i.toNat=j:=by
   rw [seqIndex_of h0 h5] at h1;exact S7 h1
  exact item_listR pl.isList h0 (by omega) (by rw [hj];simpa using ew) fin hs
 ·have hj:(i+(its.toArray.size:Int)).toNat=j:=by
   rw [seqIndex_neg (by omega) h4] at h1;rw [P5,<-hl];exact S7 h1
  exact subscriptTail_builtinR (x:=w) pl.isList.typeIs slot_list_getitem.lookup
   (wpAny_getItem_list_neg (Q:=λr s'=>r=w/\EP X pins σ Q r s') pl.isList (by omega) (by rw [P5]<;>omega) (by omega) (by rw [hj];simpa using ew) ⟨rfl,fin⟩) hs
theorem ix_tup:IxR X (jcm X.K):=by
 intro value slice pins s σ H x y v u Q I rx ry h hs;obtain⟨p,xs,i,z,rfl,rfl,hq,he,q⟩:=h;cases rx;obtain⟨t,rfl⟩:=ry;obtain⟨its,r,pl,hz⟩:=I.tuple hq;obtain⟨j,h1,h2,h3,h4,h5⟩:=Mj he;obtain⟨w,ew,rw'⟩:=r.get h2;have hl:=r.length;have hn:=Py;have fin:EP X pins σ Q w s:=⟨z,H,I,rw',q⟩;exact subscriptTail_builtinR (x:=w) pl.typeIs slot_tuple_getitem.lookup
  (getItem_tuple (j:=j) (Q:=λr s'=>r=w/\EP X pins σ Q r s') pl (by omega) (by omega) (by rw [P5,<-hl];exact h1) (by simpa using ew) ⟨rfl,fin⟩) hs
theorem uU:IxR X jcn:=by
 intro value slice pins s σ H x y v u Q I rx ry h hs;obtain⟨z,i,c,rfl,rfl,hz,he,q⟩:=h;obtain⟨t,rfl⟩:=rx;obtain⟨t',rfl⟩:=ry;obtain⟨j,h1,h2,h3,h4,h5⟩:=Mj he;have hl:z.cps.toList.length=z.length:=by simp [Str.length]
 rw [hl] at h1 h4 h5;have hn:=Py;exact tail_any (typeIs_str s z t) slot_str_getitem.lookup (getItem_str (c:=c) (by
  have e1:decide (i< -(2^63:Int))=false:=R4 (by omega);have e2:decide (i>=2^63)=false:=R4 (by omega);rw [e1,e2,Bool.or_false]) (by rw [h1];simpa using h2) ⟨.str ⟨#[c]⟩,H,I.tok _,⟨_,rfl⟩,q⟩) hs
def rIx (K:PySem.W.Frag):R2:=λx y H Q=>jcl K x y H Q\/jcm K x y H Q\/jcn x y H Q
theorem uV:IxR X (rIx X.K):=ix_list.or (ix_tup.or uU)
theorem BU (its:List Value)(n j:Nat)(u:Value):Obj.mapSeq (·.setIfInBounds j u) {cls:= .type "list",data:= .seq its.toArray n}= {cls:= .type "list",data:= .seq (its.set j u).toArray n}:=by
 simp [Obj.mapSeq]
theorem Inv.lst {pins:List (Addr×Obj)}{σ:St}{H:Hp}{s:Shared}{p:Addr}{xs:List V}(I:Inv X pins σ H s)(h:H p=some (.lst xs)):
 ∃ (its:List Value) (n:Nat),Vals xs its/\s.heap.get? p=some {cls:= .type "list",data:= .seq its.toArray n}/\xs.length<=sizeLine:=by
 obtain⟨z,its,n,r,e⟩:=I.hok p _ h;exact⟨its,n,r,e,z⟩
theorem Inv.lstUpd {pins:List (Addr×Obj)}{σ:St}{H:Hp}{s:Shared}{p:Addr}{xs ys:List V}{its its':List Value}{n n':Nat}{f:Obj->Obj}(I:Inv X pins σ H s)(h:H p=some (.lst xs))
 (ho:s.heap.get? p=some {cls:= .type "list",data:= .seq its.toArray n})(hf:f {cls:= .type "list",data:= .seq its.toArray n}= {cls:= .type "list",data:= .seq its'.toArray n'})(r:Vals ys its')(hz:ys.length<=sizeLine)(t:Nat):
 Inv X pins σ (upd H p (.lst ys)) {s with heap:=s.heap.update p f,toks:=t}:=by
 have e:(s.heap.update p f).get? p=some {cls:= .type "list",data:= .seq its'.toArray n'}:=by
  rw [Q1 f ho (by rw [hf]<;>rfl),hf]
 refine I.write (x:=p) (e:=p) (by rw [h];trivial) (.inl rfl) (λb u hb q=>(Heap.get?_update_other _ _ (Ne.symm hb)).trans q) ⟨_,e⟩ ?_;exact⟨hz,its',n',r,e⟩
def jaZ:V->V->V->Hp->(Hp->Prop)->Prop:=λo i v H Q=> ∃p xs k j,o= .ref p/\i= .int k/\H p=some (.lst xs)/\ixN xs.length k=some j/\Q (upd H p (.lst (xs.set j v)))
theorem Er:jcb X jaZ:=by
 intro pins s σ H o i v ov iv u Q I ro ri rv h;obtain⟨p,xs,k,j,rfl,rfl,hp,hj,q⟩:=h;cases ro;obtain⟨t,rfl⟩:=ri;obtain⟨its,n,r,ho,hz⟩:=I.lst hp;obtain⟨h1,h2,h3,h4⟩:=FH hj;have hl:=r.length;have hn:=Py;have I':Inv X pins σ (upd H p (.lst (xs.set j v))) {s with heap:=s.heap.update p (Obj.mapSeq (·.setIfInBounds j u))}:=
  I.lstUpd hp ho (BU its n j u) (r.set rv j) (by rw [List.length_set];exact hz) s.toks
 by_cases h0:0<=k
 ·have hk:k.toNat=j:=by
   rw [seqIndex_of h0 h4] at h1;exact S7 h1
  exact PySem.W.ki_setAt ho h0 (by omega) (by rw [P5,<-hl];exact h4) (by rw [hk];exact⟨_,I',q⟩)
 ·have hk:(k+(its.toArray.size:Int)).toNat=j:=by
   rw [seqIndex_neg (by omega) h3] at h1;rw [P5,<-hl];exact S7 h1
  exact PySem.W.ki_setBack ho (by omega) (by rw [P5,<-hl];exact h3) (by omega) (by rw [hk];exact⟨_,I',q⟩)
theorem PF (lo hi:Option Int)(n:Nat):(sliceBounds lo hi none n).1=((HT.sIx n 0 lo:Nat):Int)/\(sliceBounds lo hi none n).2.1=((HT.sIx n n hi:Nat):Int)/\(sliceBounds lo hi none n).2.2=1:=by
 refine⟨?_,?_,rfl⟩
 ·cases lo with
  |none=>simp [sliceBounds,HT.sIx]
  |some i=>
   simp only [sliceBounds,HT.sIx,Option.getD_none,show (1:Int)>0 by decide,if_true]
   by_cases h:i<0
   ·simp only [h,if_true]<;>omega
   ·simp only [h,G1k]<;>omega
 ·cases hi with
  |none=>simp [sliceBounds,HT.sIx]
  |some i=>
   simp only [sliceBounds,HT.sIx,Option.getD_none,show (1:Int)>0 by decide,if_true]
   by_cases h:i<0
   ·simp only [h,if_true]<;>omega
   ·simp only [h,G1k]<;>omega
theorem Qf (its:List Value)(lo hi:Option Int):slicePick its.toArray lo hi none=((its.drop (HT.sIx its.length 0 lo)).take (HT.sIx its.length its.length hi-HT.sIx its.length 0 lo)).toArray:=by
 obtain⟨h1,h2,h3⟩:=PF lo hi its.toArray.size;unfold slicePick;rw [h1,h2,h3];simp only [sliceRange_one,pick_run,P5]<;>rfl
def jcM (K:PySem.W.Frag):V->Option Int->Option Int->Hp->VK->Prop:=λx lo hi H Q=> ∃a xs,x= .ref a/\SqL K H a xs/\ ∀p,H p=none->Q (.ref p) (upd H p (.lst (AG xs lo hi)))
theorem Ht:SlR X (jcM X.K):=by
 intro pins s σ H x v vl vu lo hi sl Q I rx hs pl pu h;obtain⟨a,xs,rfl,hx,q⟩:=h;cases rx;obtain⟨its,r,ht,hz⟩:=I.list hx;have hlen:=r.length;refine⟨"list",_,slot_list_getitem.lookup,ht.isList.typeIs,?_⟩;refine wpAny_getItem_list_slice ht.isList hs pl pu .none (by simp) ?_ (by rw [P5]<;>omega);rw [Qf,<-hlen];refine⟨.ref s.heap.objs.size,_,I.laid (t':=s.toks) (o:= .lst (AG xs lo hi)) (λb ob q=>G1 _ q) (G6 _) ?_,rfl,q _ (I.hok.fresh (G6 _))⟩;exact⟨S1 (VF xs lo hi) hz,_,0,(r.drop (HT.sIx xs.length 0 lo)).take (HT.sIx xs.length xs.length hi-HT.sIx xs.length 0 lo),P9 _ rfl⟩
theorem call_len_seq:CallR X (.builtin "len") (λxs H Q=> ∃p ys,xs= [.ref p]/\(SqL X.K H p ys\/SqT X.K H p ys)/\Q (.int ys.length) H):=by
 intro pins s σ H xs us Q I r h;obtain⟨p,ys,rfl,hq,q⟩:=h;obtain⟨u,rfl,rx⟩:=Zv r;cases rx;have hn:=Py;rcases hq with hq|hq
 ·obtain⟨its,r',pl,hz⟩:=I.list hq;have hlen:=r'.length;exact Calls.call_len_list pl.isList (by simp only [P5]<;>omega) ⟨.int ys.length,H,I.tok _,⟨s.toks+1,by rw [P5,hlen]⟩,q⟩
 ·obtain⟨its,r',pl,hz⟩:=I.tuple hq;have hlen:=r'.length;exact len_tuple pl (by simp only [P5]<;>omega) ⟨.int ys.length,H,I.tok _,⟨s.toks+1,by rw [P5,hlen]⟩,q⟩
theorem call_tuple_of:CallR X (.type "tuple") (λxs H Q=> ∃p ys,xs= [.ref p]/\((SqL X.K H p ys/\ ∀l,H l=none->Q (.ref l) (upd H l (.tup ys)))\/(SqT X.K H p ys/\Q (.ref p) H))):=by
 intro pins s σ H xs us Q I r h;obtain⟨p,ys,rfl,h⟩:=h;obtain⟨u,rfl,rx⟩:=Zv r;cases rx;rcases h with ⟨hq,q⟩|⟨hq,q⟩
 ·obtain⟨its,r',pl,hz⟩:=I.list hq;have hlen:=r'.length;refine call_tuple_list pl.isList (λh' kp=> ?_) (by simp only [P5]<;>omega);have I1:Inv X pins σ H {s with heap:=h'}:=I.kept (t':=s.toks) kp;have I2:Inv X pins σ (upd H h'.objs.size (.tup ys)) {s with heap:=h'.push {cls:= .type "tuple",data:= .seq its.toArray}}:=
   I1.laid (t':=s.toks) (λb o e=>G1 _ e) (G6 _) (show ObjOk X.prog X.w _ _ _ (.tup ys) from ⟨hz,its,r',IsTupN.new _ _⟩)
  exact⟨.ref h'.objs.size,_,I2,rfl,q _ (I1.hok.fresh (G6 _))⟩
 ·obtain⟨its,r',pl,hz⟩:=I.tuple hq;exact call_tuple_same pl ⟨.ref p,H,I,rfl,q⟩
def tyV (K:PySem.W.Frag)(T:String)(x:V)(H:Hp):Prop:=match x with
 | .str _=>T= "str"
 | .int _=>T= "int"
 | .ref p=>(T= "list" /\ ∃xs,SqL K H p xs)\/(T= "tuple" /\ ∃o,K.lookup p=some o/\o.cls= .type "tuple" /\o.dict=none)\/
  (T= "dict" /\((∃kvs,H p=some (.dK kvs))\/ ∃kvs,H p=some (.dT kvs)))\/(T= "set" /\ ∃S n,H p=some (.set S n))
 |_=>False
theorem uW {pins:List (Addr×Obj)}{σ:St}{H:Hp}{s:Shared}{T:String}{x:V}{v:Value}(I:Inv X pins σ H s)(r:RelV x v)(ty:tyV X.K T x H):
 s.TypeIs v T/\ ∀a,v= .ref a-> ∃ob,s.heap.get? a=some ob/\ob.dict=none:=by
 cases x with
 |str z=>
  obtain⟨t,rfl⟩:=r;cases (show T= "str" from ty);exact⟨typeIs_str s z t,λ_ e=>nomatch e⟩
 |int i=>
  obtain⟨t,rfl⟩:=r;cases (show T= "int" from ty);exact⟨G04 s i t,λ_ e=>nomatch e⟩
 |ref p=>
  cases r;rcases ty with ⟨rfl,xs,hq⟩|⟨rfl,o,hk,hc,hd⟩|⟨rfl,hk⟩|⟨rfl,S,n,hk⟩
  ·obtain⟨its,_,pl,_⟩:=I.list hq;refine⟨pl.isList.typeIs,λa e=> ?_⟩;cases e;obtain⟨o,n,e,c,hd,_⟩:=pl;exact⟨o,e,hd⟩
  ·refine⟨⟨o,I.kIn p o hk,hc⟩,λa e=> ?_⟩;cases e;exact⟨o,I.kIn _ o hk,hd⟩
  ·have z: ∃o,s.heap.get? p=some o/\o.ExactDict:=by
    rcases hk with ⟨kvs,hk⟩|⟨kvs,hk⟩
    ·obtain⟨_,_,_,_,o,_,_,e,ex,_⟩:=I.hok p _ hk;exact⟨o,e,ex⟩
    ·obtain⟨_,_,_,_,o,_,_,e,ex,_⟩:=I.hok p _ hk;exact⟨o,e,ex⟩
   obtain⟨o,e,ex⟩:=z;refine⟨⟨o,e,ex.1⟩,λa e2=> ?_⟩;cases e2;exact⟨o,e,ex.2.1⟩
  ·obtain⟨o,_,_,_,e,ex,_⟩:=I.hok p _ hk;refine⟨⟨o,e,ex.1⟩,λa e2=> ?_⟩;cases e2;exact⟨o,e,ex.2.1⟩
 |_=>exact False.elim ty
def tBM (K:PySem.W.Frag)(T:String)(r:V->List V->Hp->VK->Prop)(to:TE)(t:TA):TE:=λσ H Q=>to σ H λx H1=>tyV K T x H1/\t σ H1 λxs H2=>r x xs H2 Q
variable {o e:Expr}{es:List Expr}{to:TE}{t:TA}{name:Str}{apos cpos:Pos}{T id:String}{r:V->List V->Hp->VK->Prop}
theorem Hu (pa:PlainAttrs T)(slot:Slot T name id)(hty:typeOf (.builtin id)=pure (.type "method_descriptor"))(hm:MtR X id r)(ho:PE X o to)(ha:PA X (e::es) t)
 (hbase:attributeBase o name X.env (eval o X.env)=eval o X.env:=by rfl)
 (hfew:((backTo cpos (starEach (e::es) X.env)).all (λx=> !x.1)&&(backToKw cpos (keywordEach [] X.env)).all (λx=>x.1.isSome)
  &&decide ((e::es).length+([]:List Keyword).length+(if ([]:List Keyword).isEmpty then 0 else 1)<30))=true:=by rfl)
 (hline:(apos.endLine==cpos.line)=true:=by rfl)(hs:starEach (e::es) X.env=(false,eval e X.env)::starEach es X.env:=by rfl)(hplain:(backTo cpos (starEach es X.env)).any (·.1)=false:=by rfl):
 PE X (.Call (.Attribute o name apos) (e::es) [] cpos) (tBM X.K T r to t):=by
 intro pins s σ H Q I h;refine wpAny_Call_method_late hbase hfew hline rfl (thn (ho pins s σ H _ I h) λv s1 ⟨x,H1,I1,r1,ty,q1⟩=> ?_);obtain⟨h1,h2⟩:=uW I1 r1 ty;refine⟨T,id,pa,slot,hty,h1,h2,?_⟩;have hA:=ha cpos pins s1 σ H1 _ I1 q1;rw [hs] at hA ⊢;refine Calls.callWith_builtin (by show (false||(backTo cpos (starEach es X.env)).any (·.1))=false;rw [hplain]<;>rfl) (Y7 ?_);exact thn hA λus s2 ⟨vs,H2,I2,r2,q2⟩=>hm pins s2 σ H2 x vs v us Q I2 r1 r2 q2
end
def MtM (X:Cx)(id:String)(r:V->List V->Hp->VK->Prop):Prop:=
 ∀ (pins:List (Addr×Obj)) (s:Shared) (σ:St) (H:Hp) (x:V) (xs:List V) (v:Value) (us:List Value) (Q:VK),Inv X pins σ H s->RelV x v->Vals xs us->r x xs H Q->
  wpAny (model X.prog X.w) X.A (call (.builtin id) (v::us)) (EP X pins σ Q) X.xe s
theorem Vals.one: ∀ {x:V} {us:List Value},Vals [x] us-> ∃u,us= [u]/\RelV x u
 |_,_,.cons r .nil=>⟨_,rfl,r⟩
theorem Vals.rep {xs:List V}{us:List Value}(h:Vals xs us): ∀k:Nat,Vals (List.replicate k xs).flatten (List.replicate k us).flatten
 |0=> .nil
 |k+1=>by
  rw [L0,L0,J4,J4];exact Vals.append h (Vals.rep h k)
theorem VG (its:List Value): ∀ (k:Nat) (acc:List Value),
 List.foldl (λx1 x2=>x1++x2) acc.toArray (List.replicate k its.toArray)=(acc++(List.replicate k its).flatten).toArray
 |0,acc=>by simp
 |k+1,acc=>by
  have e:acc.toArray++its.toArray=(acc++its).toArray:=by simp
  have e2:(acc++its)++(List.replicate k its).flatten=acc++(List.replicate (k+1) its).flatten:=by
   rw [L0,J4,P2]
  rw [<-e2,<-VG its k (acc++its),<-e,L0,List.foldl_cons]
section
variable {X:Cx}{pins:List (Addr×Obj)}{σ:St}{H:Hp}{s:Shared}{l b:Addr}{xs ys zs:List V}
theorem Inv.lset {its its':List Value}{n:Nat}{f:Array Value->Array Value}{t':Nat}(I:Inv X pins σ H s)(hH:H l=some (.lst xs))
 (e:s.heap.get? l=some {cls:= .type "list",data:= .seq its.toArray n})(hf:f its.toArray=its'.toArray)(hv:Vals ys its')(hz:ys.length<=sizeLine):
 Inv X pins σ (upd H l (.lst ys)) {s with heap:=s.heap.update l (Obj.mapSeq f),toks:=t'}:=by
 have q:=PySem.IsL.update e f;rw [hf] at q;refine I.write (x:=l) (e:=l) (by rw [hH];exact trivial) (.inl rfl) (λb' u hb hu=>(Heap.get?_update_other s.heap (Obj.mapSeq f) (Ne.symm hb)).trans hu) ⟨_,q⟩ ?_;exact⟨hz,its',_,hv,q⟩
theorem Inv.lnew {its:List Value}{t':Nat}(I:Inv X pins σ H s)(hv:Vals ys its)(hz:ys.length<=sizeLine):
 Inv X pins σ (upd H s.heap.objs.size (.lst ys)) {s with heap:=s.heap.push {cls:= .type "list",data:= .seq its.toArray},toks:=t'}:=
 I.laid (λ_ _ q=>G1 _ q) (G6 _) ⟨hz,its,0,hv,P9 _ rfl⟩
theorem Inv.fresh (I:Inv X pins σ H s):H s.heap.objs.size=none:=I.hok.fresh (G6 _)
theorem Inv.lstM (I:Inv X pins σ H s)(hH:H l=some (.lst xs)):xs.length<=sizeLine/\ ∃ (its:List Value) (n:Nat),Vals xs its/\xs.length=its.length/\s.heap.get? l=some {cls:= .type "list",data:= .seq its.toArray n}:=by
 obtain⟨z,its,n,r,e⟩:=I.hok l _ hH;exact⟨z,its,n,r,r.length,e⟩
theorem Es {n:Nat}(h:n<=sizeLine):Builtin.List.listTooLong n=false:=by
 unfold Builtin.List.listTooLong;exact R4 (by omega)
end
section
variable {X:Cx}
def Hv:V->List V->Hp->VK->Prop:=λx vs H Q=> ∃l xs y,x= .ref l/\vs= [y]/\H l=some (.lst xs)/\xs.length<sizeLine/\Q .non (upd H l (.lst (xs++ [y])))
theorem FI:MtM X "list.append" Hv:=by
 intro pins s σ H x vs v us Q I rx rv h;obtain⟨l,xs,y,rfl,rfl,hH,hz,q⟩:=h;cases rx;obtain⟨u,rfl,ru⟩:=rv.one;obtain⟨z,its,n,r,hl,e⟩:=I.lstM hH;refine G0C F.slot_list_append ⟨_,e,rfl⟩ F.entry_list_append (F.args_list_append_2 _ _) (PySem.list_append l its.toArray n u (by rw [P5];omega)) ⟨e,?_⟩;refine⟨.non,_,I.lset (its':=its++ [u]) hH e (by simp) (r.append (.cons ru .nil)) ?_,rfl,q⟩;rw [G8,O3];omega
def jcN:R2:=λx y H Q=> ∃l b xs zs,x= .ref l/\y= .ref b/\H l=some (.lst xs)/\H b=some (.lst zs)/\xs.length+zs.length<=sizeLine/\ ∀p,H p=none->Q (.ref p) (upd H p (.lst (xs++zs)))
theorem xa:OpR X (binaryOp .Add) jcN:=by
 intro pins s σ H x y v u Q I rx ry h;obtain⟨l,b,xs,zs,rfl,rfl,hH,hB,hz,q⟩:=h;cases rx;cases ry;obtain⟨z,its,n,r,hl,e⟩:=I.lstM hH;obtain⟨z2,its2,n2,r2,hl2,e2⟩:=I.lstM hB;refine PySem.P.add_list e e2 ?_ (by rw [P5,P5];omega);have ea:its.toArray++its2.toArray=(its++its2).toArray:=by simp
 rw [ea];exact⟨.ref _,_,I.lnew (t':=s.toks) (r.append r2) (by rw [G8];omega),rfl,q _ I.fresh⟩
def jcO:R2:=λx y H Q=> ∃l k xs,x= .ref l/\y= .int k/\H l=some (.lst xs)/\ -(2^63)<=k/\k<2^63/\xs.length*k.toNat<=sizeLine/\
 ∀p,H p=none->Q (.ref p) (upd H p (.lst (List.replicate k.toNat xs).flatten))
theorem Ml {α:Type}(xs:List α)(k:Nat):(List.replicate k xs).flatten.length=k*xs.length:=by
 induction k with
 |zero=>simp
 |succ k ih=>rw [L0,J4,G8,ih,G1n,X9]
theorem xb:OpR X (binaryOp .Mult) jcO:=by
 intro pins s σ H x y v u Q I rx ry h;obtain⟨l,k,xs,rfl,rfl,hH,h1,h2,hz,q⟩:=h;cases rx;obtain⟨t,rfl⟩:=ry;obtain⟨z,its,n,r,hl,e⟩:=I.lstM hH;have hlen:its.toArray.size*k.toNat<=sizeLine:=by rw [P5,<-hl];exact hz
 have hcap: ¬its.toArray.size*k.toNat>(2^63-1) / 8:=by
  have:(sizeLine:Nat)<=(2^63-1) / 8:=by decide
  omega
 have hfit: ¬ (!Builtin.List.listFitsIndex k)=true:=by
  rw [fitsIndex_both h1 h2];exact P6
 have hlong: ¬Builtin.List.listTooLong (its.toArray.size*k.toNat)=true:=by
  rw [Es hlen];exact P6
 have hnew:List.foldl (λx1 x2=>x1++x2) #[] (List.replicate (if its.toArray.isEmpty=true then 0 else k.toNat) its.toArray)=(List.replicate k.toNat its).flatten.toArray:=by
  have f0: ∀m:Nat,List.foldl (λx1 x2=>x1++x2) #[] (List.replicate m its.toArray)=(List.replicate m its).flatten.toArray:=λm=>by
   have:=VG its m [];rw [T8] at this;exact this
  rw [f0];cases its with
  |nil=>simp
  |cons a r'=>rw [if_neg (by simp)]
 refine G0v (T:= "list") (U:= "int") (by decide) ⟨_,e,rfl⟩ (λs'=>G04 s' k t) noFill_list_mul F.fills_int_mul Z7 repeat_list F.slot_int_index.lookup
  (G0C Z7 (G04 s k t) F.entry_int_rmul (F.args_int_rmul_2 _ _) (int___rmul___int_list k t l its.toArray n)
   ⟨e,rfl,⟨_,e,rfl⟩,G0C F.slot_list_mul ⟨_,e,rfl⟩ F.entry_list_mul (F.args_list_mul_2 _ _) (AutoListH.list___mul___list_int_3 l its.toArray n k t hfit hcap hlong) ⟨e,?_⟩⟩)
 rw [hnew];exact⟨.ref _,_,I.lnew (t':=s.toks) (r.rep k.toNat) (by rw [Ml,Nat.mul_comm];exact hz),rfl,q _ I.fresh⟩
end
end L2
namespace Att
open PySem PySem.W PySem.Calls PyProof.Rows
theorem VH {P:Params}{h:Heap}: ∀ (ns:List Int) (vs:List Value),WellAll P h vs (ns.map WData.int)->IntsAre vs ns:=by
 intro ns
 induction ns with
 |nil=>
  intro vs w;rw [E1] at w;cases w;exact .nil
 |cons n ns ih=>
  intro vs w;rw [R9] at w;cases w with
  |cons a b=>
   cases a;exact .cons _ _ (ih _ b)
theorem FJ {l:OpenLaw}{n:Nat}(hn:l.most=some n){P:Params}{h:Heap}{args:List WData}{vals:List Value}
 (hpre:l.row.toRowW.claim.pre args=true)(hwl:WellAll P h vals args):
 ∃a vs ns,vals= [Value.ref a]/\args= [WData.list (ns.map WData.int)]/\h.get? a=some {cls:= .type "list",data:= .seq vs.toArray}/\IntsAre vs ns/\ns.length<=n:=by
 have hsh:WShape.hasAll [] args [.list .int]=true:=(pre_splitW hpre).1;have hc:l.pre.holds [] {args:=args}=true:=(pre_splitW hpre).2;obtain⟨d,r,rfl,h1,h2⟩:=hasAllW_cons hsh;obtain rfl:=hasAllW_nil h2;obtain⟨xs,rfl,h3⟩:=hasW_list h1;obtain⟨ns,rfl⟩:=items_int h3;have hlen:ns.length<=n:=by
  unfold OpenLaw.pre at hc;have h4:(WTm.not (.lt (.lit (.int (n:Int))) (.len (.arg 0)))).holds [] {args:= [.list (ns.map .int)]}=true:=by
   have h4:=(holds_andW hc).1;rw [hn] at h4;exact h4
  have h5:=condW_of h4 (w_not (w_lt w_lit (w_len_list (w_arg rfl))));rw [G2] at h5;refine G0P λq=> ?_
  have q':(n:Int)<((ns.length:Nat):Int):=by omega
  first
   |(rw [P0 q'] at h5;exact absurd h5 (by decide))
   |(simp at h5;omega)
 cases hwl with
 |cons w1 w2=>
  cases w2;cases w1 with
  |list ho hall=>exact⟨_,_,ns,rfl,rfl,ho,VH ns _ hall,hlen⟩
theorem FK (l:OpenLaw)(args:List WData):l.row.toRowW.claim.post args (.bool true) args=true:=
 postW_of (r:=l.row.toRowW) (X:=(true==true))
  (show WShape.has [] (.bool true) .bool=true by first|rfl|decide|simp [WShape.has,WShape.arms,WShape.armsAll])
  (show (WTm.eq .res (.lit (.bool true))).value [] {args:=args,res:=some (.bool true),after:=args}=some (.bool (true==true)) from w_eq_bool (w_res rfl) w_lit) rfl
theorem attach_call {l:OpenLaw}{n:Nat}{q:Program}{loose:List Str}{XP:(Str->Option Value)->Heap->Prop}{YP:World->Heap->Prop}{d:DefRec}
 (hn:l.most=some n)(hdf:d.params.defaults= [])
 (call: ∀ (w:World) (s₀ s₁:Shared) (mg mb:Str->Option Value) (fa:Addr) (o:Obj) (pm cd doc:Value) (a:Addr) (vs:List Value) (ns:List Int),
  Ground q loose [] XP w s₀ mg mb s₁.heap->YP w s₁.heap->
  s₁.heap.get? fa=some o->o.data= .func (docDef d.name d.params d.body d.scope pm cd doc)->s₁.heap.CodeRec cd d.name->mg d.name=some (.ref fa)->
  s₁.heap.get? a=some {cls:= .type "list",data:= .seq vs.toArray}->IntsAre vs ns->ns.length<=n->s₁.gens= #[]->
  codeAny (model l.prog w) callerA (.call (.ref fa) ⟨[.ref a],[]⟩) (λr s'=>r= .ok (.ret (.bool true))/\OldK s₁.heap s'.heap/\s'.os=s₁.os/\AllBare s'.gens) s₁):
 WalkO q loose XP YP l.row.toRowW d [] (λf vs=>PySem.call f vs):=by
 intro w s₀ s₁ mg mb G Y fa o pm cd doc dV kV ho hd hcd hD hmg hg args vals as hpre hlay hrd hwl hlo;obtain rfl:dV= .none:=Dflts.none hD hdf;obtain rfl:kV= .none:=Dflts.noKw hD;obtain⟨a,vs,ns,rfl,rfl,hobj,hints,hlen⟩:=FJ hn hpre hwl;refine enter_call (X6 (call w s₀ s₁ mg mb fa o pm cd doc a vs ns G Y ho (fd_plain hd) hcd hmg hobj hints hlen hg) λr s' hq=> ?_);obtain⟨rfl,h2,h3,h4⟩:=hq;exact⟨.inl ⟨.bool true,.bool true,[],rfl,λ_=>rfl,.bool true,FK l _,λ_=>⟨List.Pairwise.nil,λ_ hm=>(nomatch hm)⟩⟩,h2,h3,h4⟩
end Att
namespace L2
open PySem PySem.Spec PyProof.Rows
theorem PH: ∀ {vs:List Value} {ns:List Int},IntsAre vs ns->Vals (ns.map V.int) vs
 |_,_,.nil=> .nil
 |_,_,.cons n t h=> .cons ⟨t,rfl⟩ (PH h)
def Only (H:Hp):Prop:= ∀b,H b=none\/ ∃o xs,H b=some (.frz o (.lst xs))
def vZ (s:Stmt):Arguments:=match s with
 | .FunctionDef _ a _ _ _ _ _ _ _ _=>a
 |_=> {posonlyargs:= [],args:= [],vararg:=none,kwonlyargs:= [],kw_defaults:= [],kwarg:=none,defaults:= []}
def zG (s:Stmt):List Stmt:=match s with
 | .FunctionDef _ _ b _ _ _ _ _ _ _=>b
 |_=> []
def jd (s:Stmt):Scope:=match s with
 | .FunctionDef _ _ _ _ _ _ sc _ _ _=>sc
 |_=> {kind:= .function,names:= [],isGenerator:=false,isCoroutine:=false}
abbrev CX0:CXT:=λ_ _ _ _ _ _=>False
abbrev E0:XK:=λ_ _ _=>False
variable {X:Cx}
theorem Hw:VC CX0 X E0:=λ_ _ _ _ _ _ _ h=>h.elim
structure Fun (K:PySem.W.Frag)(x qual:Str)(st:Stmt)(f:Addr)(fd:FuncData):Prop where
 ex: ∃ (oc:Value) (od:Option Addr) (kV doc pm:Value) (an:Option Addr) (cdv ct:Value) (osl:Array (Option Value)),
  fd=PySem.W.fnOf x qual (vZ st) (zG st) (jd st) .none kV doc pm an cdv ct/\K.lookup f=some ⟨oc,od,.func fd,osl⟩/\PySem.W.codeIn K cdv qual=true
 kp:PySem.W.keepIn K (.ref f)=true
section
variable {P:Program}{w:World}{K:PySem.W.Frag}{mg:Str->Option Value}{base:Heap}
variable {qual:Str}
theorem Fun.ok {x:Str}{st:Stmt}{f:Addr}{fd:FuncData}{N ps:List Str}{k:Nat}{sp:Sp}(F:Fun K x qual st f fd)(S:FnScope N ps (jd st))(len: ∀vs H Q E,sp vs H Q E->vs.length=ps.length)
 (hbody: ∀ (cdv:Value) (A:Around) (outer:List Env) (s:Shared) (H:Hp) (vs:List V) (Q:VK) (E:XK),Room k (A.deeper (envOfC qual (jd st) s.heap.objs.size f cdv))->sp vs H Q E->
  ∃t,PSs (Qc CX0 P w K mg base N qual (jd st) f cdv A outer s H E).nox (zG st) t/\t {nx:=λ_ H'=>Q .non H',rt:=Q} (start N vs) H):FnOk P w K mg base CX0 (k+1) f fd ps sp:=by
 obtain⟨oc,od,kV,doc,pm,an,cdv,ct,osl,rfl,lk,hcd⟩:=F.ex;refine Ho lk hcd S len λA outer s H vs Q E hr hsp=> ?_
 obtain⟨t,h,q⟩:=hbody cdv A outer s H vs Q E hr hsp;exact⟨t,h.nox,q⟩
theorem Fun.binds {x:Str}{st:Stmt}{f:Addr}{fd:FuncData}{ps:List Str}(F:Fun K x qual st f fd)
 (h: ∀ (kV doc pm:Value) (an:Option Addr) (cdv ct:Value) (us:List Value),us.length=ps.length->bindArgs (PySem.W.fnOf x qual (vZ st) (zG st) (jd st) .none kV doc pm an cdv ct) ⟨us,[]⟩=pure (ps.zip us)):Binds K fd ps []:=by
 obtain⟨oc,od,kV,doc,pm,an,cdv,ct,osl,rfl,lk,hcd⟩:=F.ex;exact .all (h kV doc pm an cdv ct)
theorem xf {x:Str}{st:Stmt}{f:Addr}{oc:Value}{od an:Option Addr}{osl:Array (Option Value)}{kV doc pm cdv ct:Value}(l:K.lookup f=some ⟨oc,od,.func (PySem.W.fnOf x qual (vZ st) (zG st) (jd st) .none kV doc pm an cdv ct),osl⟩)
 (c:PySem.W.codeIn K cdv qual=true)(k:PySem.W.keepIn K (.ref f)=true):Fun K x qual st f (PySem.W.fnOf x qual (vZ st) (zG st) (jd st) .none kV doc pm an cdv ct):=⟨⟨oc,od,kV,doc,pm,an,cdv,ct,osl,rfl,l,c⟩,k⟩
end
theorem jL {n:Nat}(h:n<=1000):n<sizeLine:=C9 h (by decide)
theorem wx {A B:Prop}(h:B):if false=true then A else B:=by
 rw [if_neg P6];exact h
theorem Vd {A B:Prop}(h:A):if true=true then A else B:=by
 rw [if_pos rfl];exact h
theorem Mm {c A B:Prop}[Decidable c](h1:c->A)(h2: ¬c->B):if c then A else B:=by
 by_cases h:c
 ·rw [if_pos h];exact h1 h
 ·rw [if_neg h];exact h2 h
section
variable {κ:Type}[DecidableEq κ]
def Tq (kvs:List (κ×V))(k:κ)(v:V):List (κ×V):=
 if (kvs.any λkv=>decide (kv.1=k))=true then kvs.map (λkv=>if kv.1=k then (kv.1,v) else kv) else kvs++ [(k,v)]
theorem Mn (kvs:List (κ×V))(k:κ)(v:V):(Tq kvs k v).length<=kvs.length+1:=by
 unfold Tq;split
 ·rw [G2];omega
 ·rw [G8,D2,S4];omega
theorem KV.any {kvs:List (κ×V)}{vs:List (κ×Value)}(r:KV kvs vs)(k:κ):(kvs.any λkv=>decide (kv.1=k))=vs.any λkv=>decide (kv.1=k):=by
 unfold KV at r
 induction r with
 |nil=>rfl
 |cons h t ih=>rw [G0J,G0J,ih,h.1]
theorem KV.repl {kvs:List (κ×V)}{vs:List (κ×Value)}(r:KV kvs vs)(k:κ){y:V}{u:Value}(ry:RelV y u):
 KV (kvs.map λkv=>if kv.1=k then (kv.1,y) else kv) (vs.map λkv=>if kv.1=k then (kv.1,u) else kv):=by
 unfold KV at r ⊢
 induction r with
 |nil=>exact .nil
 | @cons p q ps qs h t ih=>
  rw [R9,R9];refine .cons ?_ ih;obtain⟨h1,h2⟩:=h
  by_cases e:p.1=k
  ·rw [if_pos e,if_pos (h1.symm.trans e)];exact⟨h1,ry⟩
  ·rw [if_neg e,if_neg (λz=>e (h1.trans z))];exact⟨h1,h2⟩
theorem KV.put {kvs:List (κ×V)}{vs:List (κ×Value)}(r:KV kvs vs)(k:κ){y:V}{u:Value}(ry:RelV y u):KV (Tq kvs k y) (stored vs k u):=by
 unfold Tq stored;rw [r.any k]
 by_cases e:(vs.any λkv=>decide (kv.1=k))=true
 ·rw [if_pos e,if_pos e];exact r.repl k ry
 ·rw [if_neg e,if_neg e];exact Paired.snoc r ⟨rfl,ry⟩
end
variable {P:Program}{w:World}
theorem ja0 {k:Key}{u:Value}(r:RelV (kV k) u):(yU P w).is k u=true:=by
 cases k with
 |inl i=>obtain⟨t,e⟩:=(show ∃t,u=Value.int i t from r);subst e;exact Mg P w i t
 |inr x=>obtain⟨t,e⟩:=(show ∃t,u=Value.str x t from r);subst e;exact Mh P w x t
section
variable {P:Program}{w:World}{H:Hp}{h:Heap}{a:Addr}
theorem ja1 {u:HO}(ok:HOk P w H h)(e:Rd H a u):ObjOk P w H h a u:=e.ok ok
theorem ja2 {kvs:List (Key×V)}(ok:HOk P w H h)(e:Rd H a (.dK kvs)):kvs.length<=sizeLine/\(a==sysModules)=false/\ ∃vs,KV kvs vs/\h.DictOf (yU P w) a vs:=
 show ObjOk P w H h a (.dK kvs) from ja1 ok e
theorem ja3 {kvs:List (Key×V)}(ok:HOk P w H h)(e:H a=some (.dK kvs)):kvs.length<=sizeLine/\(a==sysModules)=false/\ ∃vs,KV kvs vs/\h.DictOf (yU P w) a vs:=ja2 ok (.inl e)
end
section
variable {X:Cx}{pins:List (Addr×Obj)}{σ:St}{H:Hp}{s:Shared}{a:Addr}{y v:V}{u r:Value}{o:Option V}{A:Around}{E:Value->Shared->Prop}
theorem Inv.big (I:Inv X pins σ H s):sysModules<s.heap.objs.size:=by
 have h:mainGlobals<s.heap.objs.size:=(I.mod.glob.keeps I.bk).lt;exact Y0 (by decide) h
theorem Hx {h':Heap}{t':Nat}{ob:HO}(I:Inv X pins σ H s)(mu:Mut (H a))(hs:Heap.SameBut a s.heap h')(he: ∃q,h'.get? a=some q)(new:ObjOk X.prog X.w (upd H a ob) h' a ob):
 Inv X pins σ (upd H a ob) {s with heap:=h',toks:=t'}:=
 I.write (x:=a) (e:=a) mu (.inl rfl) (λb q hb z=>(hs.2 b hb).trans z) he new
theorem xg {P:Program}{w:World}{H':Hp}{h':Heap}{kvs:List (Key×V)}{vs:List (Key×Value)}(z:kvs.length<=sizeLine)(hd:(a==sysModules)=false)(rel:KV kvs vs)(dd:h'.DictOf (yU P w) a vs):
 ObjOk P w H' h' a (.dK kvs):=⟨z,hd,vs,rel,dd⟩
end
theorem Et {H:Hp}(h:Heap)(hb:sysModules<h.objs.size):ObjOk P w H (h.push {cls:= .type "dict",data:= .dict #[]}) h.objs.size (.dK []):=
 ⟨T5 _,U6.mpr (Ne.symm (R1 hb)),[],.nil,Heap.DictOf.new h⟩
def FL:List (TE×TE)->St->Hp->(List (V×V)->Hp->Prop)->Prop
 | [],_,H,Q=>Q [] H
 |(tk,tv)::r,σ,H,Q=>tk σ H λx H1=>tv σ H1 λy H2=>FL r σ H2 λps H3=>Q ((x,y)::ps) H3
abbrev VV:List (V×V)->List (Value×Value)->Prop:=Paired λp q=>RelV p.1 q.1/\RelV p.2 q.2
def PPs (X:Cx)(pos:Pos)(keys:List (Option Expr))(values:List Expr)(trs:List (TE×TE)):Prop:=
 ∀ (pins:List (Addr×Obj)) (s:Shared) (σ:St) (H:Hp) (Q:List (V×V)->Hp->Prop),Inv X pins σ H s->FL trs σ H Q->
  wpAny (model X.prog X.w) X.A (evalPairs (pairTrees keys values X.env pos)) (λvs s'=> ∃ps H',Inv X pins σ H' s'/\VV ps vs/\Q ps H') X.xe s
variable {pos:Pos}
theorem Hy:PPs X pos [] [] []:=λpins s σ H Q I h=>pairTrees_nil_walk ⟨[],H,I,.nil,h⟩
theorem Eu {k v:Expr}{ks:List (Option Expr)}{vs:List Expr}{tk tv:TE}{trs:List (TE×TE)}(hk:PE X k tk)(hv:PE X v tv)(hr:PPs X pos ks vs trs):
 PPs X pos (some k::ks) (v::vs) ((tk,tv)::trs):=λpins s σ H Q I h=>
 pairTrees_cons_walk (thn (hk pins s σ H _ I h) λu s1 ⟨x,H1,I1,rx,q1⟩=>thn (hv pins s1 σ H1 _ I1 q1) λw2 s2 ⟨y,H2,I2,ry,q2⟩=>
  thn (hr pins s2 σ H2 _ I2 q2) λws s3 ⟨ps,H3,I3,rel,q3⟩=>⟨(x,y)::ps,H3,I3,.cons ⟨rx,ry⟩ rel,q3⟩)
def PJ (kvs more:List (Key×V)):List (Key×V):=more.foldl (λacc kv=>Tq acc kv.1 kv.2) kvs
theorem KV.merge: ∀ {more:List (Key×V)} {rs:List (Key×Value)} {kvs:List (Key×V)} {vs:List (Key×Value)},KV more rs->KV kvs vs->KV (PJ kvs more) (merged vs rs):=by
 intro more rs kvs vs r;unfold KV at r
 induction r generalizing kvs vs with
 |nil=>intro q;exact q
 | @cons p q ps qs h t ih=>
  intro r0;have e:KV (Tq kvs p.1 p.2) (stored vs q.1 q.2):=by
   have:=r0.put p.1 h.2;rw [<-h.1];exact this
  exact ih e
theorem Wi: ∀ (more kvs:List (Key×V)),(PJ kvs more).length<=kvs.length+more.length
 | [],kvs=>by show kvs.length<=kvs.length+0;omega
 |p::r,kvs=>by
  have h1:=Wi r (Tq kvs p.1 p.2);have h2:=Mn kvs p.1 p.2;show (PJ (Tq kvs p.1 p.2) r).length<=_;rw [D2];omega
theorem XB {P:Program}{w:World}: ∀ {kvs:List (Key×V)} {ws:List (Value×Value)},VV (kvs.map λkv=>(kV kv.1,kv.2)) ws-> ∃rs,Carries (yU P w) ws rs/\KV kvs rs
 | [],_,r=>by rw [E1] at r;cases r;exact⟨[],True.intro,.nil⟩
 |p::kvs,_,r=>by
  rw [R9] at r;cases r with
  | @cons a b as bs h t=>
   obtain⟨rs,c,q⟩:=XB (P:=P) (w:=w) t;obtain⟨b1,b2⟩:=b;exact⟨(p.1,b2)::rs,⟨ja0 h.1,rfl,c⟩,.cons ⟨rfl,h.2⟩ q⟩
def ja4 (trs:List (TE×TE)):TE:=λσ H Q=> ∀p,H p=none->FL trs σ (upd H p (.dK [])) λps H2=>H2 p=some (.dK [])/\ ∃kvs:List (Key×V),ps=kvs.map (λkv=>(kV kv.1,kv.2))/\kvs.length<=15/\Q (.ref p) (upd H2 p (.dK (PJ [] kvs)))
theorem Hz {keys:List (Option Expr)}{values:List Expr}{trs:List (TE×TE)}(h:PPs X pos keys values trs)(hall:keys.all (·.isSome)=true)(hl:keys.length=values.length)(h0:keys≠ [])
 (h15:keys.length<=15):PE X (.Dict keys values pos) (ja4 trs):=by
 intro pins s σ H Q I q;have hn:=I.hok.fresh (G6 s.heap.objs.size);have I1:=I.laid (a:=s.heap.objs.size) (o:= .dK []) (h':=s.heap.push {cls:= .type "dict",data:= .dict #[]}) (t':=s.toks) (λ_ _ q=>G1 _ q) (G6 _) (Et s.heap I.big);refine wpAny_Dict_walk (knd:=yU X.prog X.w) hall hl h0 h15 (thn (h pins _ σ _ _ I1 (q _ hn)) λws s2 ⟨ps,H2,I2,rel,e,kvs,ep,lk,q2⟩=> ?_);subst ep;obtain⟨rs,c,rk⟩:=XB (P:=X.prog) (w:=X.w) rel;obtain⟨z,hd,vs0,r0,dd⟩:=ja3 I2.hok e;cases r0;refine⟨rs,c,dd,λh' dd' hs=>⟨.ref s.heap.objs.size,_,?_,rfl,q2⟩⟩;have hz:(PJ [] kvs).length<=sizeLine:=by
  have h1:=Wi kvs [];rw [S4] at h1;rw [sizeLine_eq];omega
 have he: ∃q,h'.get? s.heap.objs.size=some q:=let ⟨q,_,_,hq,_⟩:=dd';⟨q,hq⟩;exact Hx I2 (by rw [e];exact True.intro) hs he (xg hz hd (rk.merge .nil) dd')
structure M2 (X:Cx)(o:Expr)(m:Str)(apos:Pos)(e f:Expr)(cpos:Pos):Prop where
 base:attributeBase o m X.env (eval o X.env)=eval o X.env
 few:((backTo cpos (starEach [e,f] X.env)).all (λx=> !x.1)&&(backToKw cpos (keywordEach [] X.env)).all (λx=>x.1.isSome)
  &&decide (([e,f]:List Expr).length+([]:List Keyword).length+(if ([]:List Keyword).isEmpty then 0 else 1)<30))=true
 line:(apos.endLine==cpos.line)=true
 trees:backTo cpos (starEach [e,f] X.env)= [(false,eval e X.env),(false,eval f X.env)]
def yV (names:List (Str×NameKind))(env:Env)(cs:List (Str×Addr)):List (Str×Addr):=
 names.foldl (λcs p=>if p.2= .free then (match env.cells.lookup p.1 with|some c=>(p.1,c)::cs|none=>cs) else cs) cs
theorem wY (p:Str×NameKind)(l:List (Str×NameKind))(env:Env)(cs:List (Str×Addr)):
 yV (p::l) env cs=yV l env (if p.2= .free then (match env.cells.lookup p.1 with|some c=>(p.1,c)::cs|none=>cs) else cs):=rfl
variable {env:Env}
theorem VI {f:Str×NameKind->List (Str×Addr)->Sem (ForInStep (List (Str×Addr)))}
 (h1: ∀p cs,p.2≠ .free->f p cs=pure (.yield cs))(h2: ∀p cs c,p.2= .free->env.cells.lookup p.1=some c->f p cs=pure (.yield ((p.1,c)::cs))):
 ∀ (l:List (Str×NameKind)) (cs:List (Str×Addr)),(∀p∈l,p.2= .free-> ∃c,env.cells.lookup p.1=some c)->forIn l cs f=pure (yV l env cs)
 | [],cs,_=>rfl
 |p::l,cs,h=>by
  have ih:=VI h1 h2 l
  by_cases hp:p.2= .free
  ·obtain⟨c,hc⟩:=h p D4 hp;rw [V7,h2 p cs c hp hc,pure_bind];show forIn l ((p.1,c)::cs) f=_;rw [ih _ λq hq=>h q (D0 _ hq),wY,if_pos hp,hc]
  ·rw [V7,h1 p cs hp,pure_bind];show forIn l cs f=_;rw [ih _ λq hq=>h q (D0 _ hq),wY,if_neg hp]
variable {scope:Scope}
theorem Qg (h: ∀p∈scope.names,p.2= .free-> ∃c,env.cells.lookup p.1=some c):closureFor scope env=pure (yV scope.names env []):=by
 simp only [closureFor];rw [VI (env:=env) (λp cs hp=> ?_) (λp cs c hp hc=> ?_) _ _ h]
 ·rfl
 ·obtain⟨n,k⟩:=p;have hb:(k==NameKind.free)=false:=by simpa using hp
  simp only [hb,Bool.false_eq_true,G1k]
 ·obtain⟨n,k⟩:=p;have hb:(k==NameKind.free)=true:=by simpa using hp
  have hc':env.cells.lookup n=some c:=hc;simp only [hb,if_true,cellOf,hc',pure_bind]
theorem VJ: ∀ (l:List (Str×NameKind)) (cs:List (Str×Addr)),(∀p∈cs,env.cells.lookup p.1=some p.2)-> ∀p∈yV l env cs,env.cells.lookup p.1=some p.2
 | [],cs,h,p,hp=>h p hp
 |q::l,cs,h,p,hp=>by
  rw [wY] at hp;refine VJ l _ (λr hr=> ?_) p hp
  by_cases hq:q.2= .free
  ·rw [if_pos hq] at hr;cases e:env.cells.lookup q.1 with
   |none=>rw [e] at hr;exact h r hr
   |some c=>
    rw [e] at hr;rcases P4.mp hr with rfl|hr
    ·exact e
    ·exact h r hr
  ·rw [if_neg hq] at hr;exact h r hr
theorem VL: ∀ (l:List (Str×NameKind)) (cs:List (Str×Addr)),∀p∈cs,p∈yV l env cs
 | [],cs,p,hp=>hp
 |q::l,cs,p,hp=>by
  rw [wY];refine VL l _ p ?_
  by_cases hq:q.2= .free
  ·rw [if_pos hq];cases e:env.cells.lookup q.1 with
   |none=>exact hp
   |some c=>exact D0 _ hp
  ·rw [if_neg hq];exact hp
variable {x:Str}
theorem VM {c:Addr}(hc:env.cells.lookup x=some c): ∀ (l:List (Str×NameKind)) (cs:List (Str×Addr)),(x,NameKind.free)∈l->(x,c)∈yV l env cs
 |q::l,cs,h=>by
  rw [wY];rcases P4.mp h with e|h
  ·subst e;rw [if_pos rfl,hc];exact VL l _ _ D4
  ·exact VM hc l _ h
theorem yA {α:Type}: ∀ {l:List (Str×α)} {x:Str} {c:α},l.lookup x=some c->(x,c)∈l
 | [],_,_,h=>by simp at h
 |(n,k)::r,x,c,h=>by
  rw [N2] at h;cases hx:x==n with
  |true=>
   rw [hx] at h;have e:x=n:=eq_of_beq hx;cases h;subst e;exact D4
  |false=>rw [hx] at h;exact D0 _ (yA h)
theorem XC {α:Type}: ∀ {l:List (Str×α)} {x:Str} {c:α},(x,c)∈l-> ∃c',l.lookup x=some c'
 |(n,k)::r,x,c,h=>by
  rw [N2];cases hx:x==n with
  |true=>exact⟨_,rfl⟩
  |false=>
   rcases P4.mp h with e|h
   ·cases e;simp at hx
   ·exact XC h
theorem XD {l:List (Str×NameKind)}{c:Addr}(h:(yV l env []).lookup x=some c):env.cells.lookup x=some c:=
 VJ l [] (λ_ z=>nomatch z) (x,c) (yA h)
theorem FM {l:List (Str×NameKind)}{c:Addr}(hc:env.cells.lookup x=some c)(h:(x,NameKind.free)∈l):(yV l env []).lookup x=some c:=by
 obtain⟨c',e⟩:=XC (VM hc l [] h);have:=XD e;rw [hc] at this;cases this;exact e
theorem vn {κ:Type}{f:Str×κ->Str×κ}{g:Str->κ->κ}(hf: ∀n k,f (n,k)=(n,g n k))(x:Str): ∀l:List (Str×κ),(l.map f).lookup x=(l.lookup x).map (g x)
 | []=>rfl
 |(n,k)::r=>by
  rw [R9,hf,N2,N2,vn hf x r];cases same:x==n with
  |false=>rfl
  |true=>rw [eq_of_beq same];rfl
theorem zB {names:List (Str×NameKind)}{k:NameKind}(found:
 (names.map λ(n,k)=>if (k==NameKind.free&&env.scope.kind== .function&&env.kindOf n==some .cell) then (n,NameKind.cell) else (n,k)).lookup x=some k):
  names.lookup x=some k\/names.lookup x=some .free:=by
 rw [vn (g:=λn k=>if (k==NameKind.free&&env.scope.kind== .function&&env.kindOf n==some .cell) then .cell else k) (λn k=>by dsimp only;split<;>rfl)] at found;obtain⟨k0,was,now⟩:=W6.mp found;split at now
 ·rename_i c;simp only [N0,V2] at c;exact .inr (by rw [was,c.1.1])
 ·exact .inl (by rw [was,now])
theorem yo: ∀ (names:List (Str×NameKind)) (n:Nat) (acc:List (Str×Addr)) (p:Str×Addr),p∈cellsFrom n names acc->p∈acc\/(n<=p.2/\(p.1,NameKind.cell)∈names)
 | [],_,_,_,h=> .inl h
 |(x,k)::r,n,acc,p,h=>by
  unfold cellsFrom at h;split at h
  ·rename_i hk;rcases yo r (n+1) _ p h with z|⟨z1,z2⟩
   ·rcases P4.mp z with e|z
    ·subst e;have:k= .cell:=by simpa using hk
     subst this;exact .inr ⟨G6 _,D4⟩
    ·exact .inl z
   ·exact .inr ⟨by omega,D0 _ z2⟩
  ·rcases yo r n acc p h with z|⟨z1,z2⟩
   ·exact .inl z
   ·exact .inr ⟨z1,D0 _ z2⟩
theorem zb: ∀ (names:List (Str×NameKind)) (n:Nat) (acc:List (Str×Addr)),cellsFrom n names acc=cellsFrom n names []++acc
 | [],_,_=>rfl
 |(x,k)::r,n,acc=>by
  unfold cellsFrom;split
  ·rw [zb r (n+1) ((x,n)::acc),zb r (n+1) [(x,n)],P2];rfl
  ·exact zb r n acc
theorem Yf {α:Type}(l l':List (Str×α))(x:Str):(l++l').lookup x=(match l.lookup x with|some c=>some c|none=>l'.lookup x):=by
 induction l with
 |nil=>rfl
 |cons p l ih=>
  obtain⟨n,c⟩:=p;rw [B0,N2,N2];cases x==n with
  |true=>rfl
  |false=>exact ih
theorem Zw {names:List (Str×NameKind)}(here:names.lookup x=some .cell):
 (names.map λ(n,k)=>if (k==NameKind.free&&env.scope.kind== .function&&env.kindOf n==some .cell) then (n,NameKind.cell) else (n,k)).lookup x=some .cell:=by
 rw [vn (g:=λn k=>if (k==NameKind.free&&env.scope.kind== .function&&env.kindOf n==some .cell) then .cell else k) (λn k=>by dsimp only;split<;>rfl),here];simp
section
variable {M:Model}{A:Around}{E:Value->Shared->Prop}{s:Shared}
theorem BV (h:Heap)(names:List (Str×NameKind)):(∀n c,(n,c)∈cellsFrom h.objs.size names []->(pushCells h names).IsCell c none/\h.objs.size<=c)/\(cellsFrom h.objs.size names []).Pairwise λx y=>x.2≠y.2:=
 have laid:=cellsFrom_ok names h h.objs.size [] ⟨by simp,.nil⟩ (G6 _)
 ⟨laid.empty,laid.apart⟩
theorem PK {scope:Scope}{globals:Addr}{closure:List (Str×Addr)}{qual:Str}{func:Option Addr}{code:Value}{outer:Env}{builtins:Addr}{Q:Env->Shared->Prop}
 (hQ: ∀h',h'.Ns s.heap.objs.size (λ_=>none)->(∀b o,s.heap.get? b=some o->h'.get? b=some o)->(∀n c,(n,c)∈cellsFrom (s.heap.objs.size+1) scope.names []->h'.IsCell c none/\s.heap.objs.size+1<=c)->
  ((cellsFrom (s.heap.objs.size+1) scope.names []).Pairwise λx y=>x.2≠y.2)->
  Q (newEnv scope s.heap.objs.size globals (cellsFrom (s.heap.objs.size+1) scope.names closure) qual func code (some outer) builtins) {s with heap:=h'}):
 wpAny M A (newFunctionEnv scope globals closure [] qual func code (some outer) builtins) Q E s:=by
 have names:=BV (s.heap.push {cls:= .type "dict",data:= .dict #[]}) scope.names;have first:(s.heap.push {cls:= .type "dict",data:= .dict #[]}).objs.size=s.heap.objs.size+1:=U4 ..
 rw [first] at names;unfold newFunctionEnv;refine wpAny_bind (wpAny_alloc (wpAny_bind (wpAny_layCells _ (λn k cs=>rfl) _ _ _ _ ?_)));simp only [Option.isSome_some,if_true];rw [first];exact wpAny_bind (G9 (G9 (hQ _ ((Heap.Ns.new _ _).keeps (pushCells_keeps _ _)) (λb o here=>pushCells_keeps _ _ b o (G1 _ here)) names.1 names.2)))
end
def jV (X:Cx)(scope:Scope)(C:Addr):List (Str×Addr):=cellsFrom (C+1) scope.names (yV scope.names X.env [])
def Qh (X:Cx)(scope:Scope)(C:Addr)(s₀:Shared)(H₀:Hp)(ex:List Addr):Cx:=
 {X with s₀:=s₀,H₀:=H₀,env:=compEnvC scope (jV X scope C) C X.env,outer:=X.stack,ex:=ex,fn:=λx=>scope.names.lookup x==some .cell,pn:= [],xe:=λ_ _=>False}
def jB (X:Cx)(scope:Scope)(X':Cx):Prop:= ∃C s₀ H₀ ex,X'=Qh X scope C s₀ H₀ ex
structure BlockOk (X:Cx)(scope:Scope)(js:List Nat):Prop where
 kind:scope.kind= .function
 locs: ∀p∈scope.names,p.2= .local->scope.names.lookup p.1=some .local
 cels: ∀p∈scope.names,p.2= .cell->scope.names.lookup p.1=some .cell
 free: ∀p∈scope.names,p.2= .free->X.env.scope.names.lookup p.1=some .cell\/X.env.scope.names.lookup p.1=some .free
 js: ∀ (i:Nat) (x:Str),X.N[i]? =some x->(scope.names.lookup x=some .local\/scope.names.lookup x=some .cell)->i∈js
variable {js:List Nat}
theorem vc (S:BlockOk X scope js){C:Addr}{x:Str}{c:Addr}(h:(jV X scope C).lookup x=some c):
 (scope.names.lookup x≠some .cell/\X.env.cells.lookup x=some c)\/(scope.names.lookup x=some .cell/\(x,c)∈cellsFrom (C+1) scope.names []):=by
 unfold jV at h;rw [zb,Yf] at h;cases e:(cellsFrom (C+1) scope.names []).lookup x with
 |some d=>
  rw [e] at h;cases h;have m:=yA e;rcases yo _ _ _ _ m with z|⟨_,z⟩
  ·exact absurd z (by simp)
  ·exact .inr ⟨S.cels _ z rfl,m⟩
 |none=>
  rw [e] at h;refine .inl ⟨λz=> ?_,XD h⟩;obtain⟨d,hd⟩:=JM (sc:=scope) (n:=C+1) z;rw [e] at hd;cases hd
theorem YJ (S:BlockOk X scope js){C:Addr}{x:Str}{c:Addr}(hc:X.env.cells.lookup x=some c)(h:(x,NameKind.free)∈scope.names)(hn:scope.names.lookup x≠some .cell):(jV X scope C).lookup x=some c:=by
 unfold jV;rw [zb,Yf];cases e:(cellsFrom (C+1) scope.names []).lookup x with
 |some d=>
  rcases yo _ _ _ _ (yA e) with z|⟨_,z⟩
  ·exact absurd z (by simp)
  ·exact absurd (S.cels _ z rfl) hn
 |none=>exact FM hc h
def ym:List Nat->St->St
 | [],σ=>σ
 |j::js,σ=>ym js (σ.set j none)
theorem XE: ∀ (js:List Nat) (σ:St),(ym js σ).length=σ.length
 | [],_=>rfl
 |j::js,σ=>by rw [ym,XE js];simp
theorem VN: ∀ (js:List Nat) (σ:St) (i:Nat) (v:V),(ym js σ)[i]? =some (some v)->σ[i]? =some (some v)
 | [],_,_,_,h=>h
 |j::js,σ,i,v,h=>by
  have h1:=VN js _ i v h
  by_cases e:i=j
  ·subst e;rw [W8] at h1;simp at h1
  ·rwa [B3 (Ne.symm e)] at h1
theorem wz: ∀ (js:List Nat) (σ:St) (i:Nat) (v:V),i∈js-> ¬ (ym js σ)[i]? =some (some v)
 |j::js,σ,i,v,hm,h=>by
  rcases P4.mp hm with rfl|hm
  ·have h1:=VN js _ i v h;rw [W8] at h1;simp at h1
  ·exact wz js _ i v hm h
theorem HOk.track {H:Hp}{h:Heap}{a:Addr}{o:HO}(x:HOk P w H h)(hn:H a=none)(new:ObjOk P w (upd H a o) h a o):HOk P w (upd H a o) h:=λb u e=>by
 by_cases hb:b=a
 ·subst hb;rw [jt] at e;cases e;exact new
 ·rw [jq hb] at e;exact(x b u e).stay (λc v _ q=>q) (λc q=>by rw [jq (ju q hn)];exact q) λc xs q=>by rw [jq (ju q hn)];exact q
def Agree (σ σ':St):Prop:=σ'.length=σ.length/\ ∀ (i:Nat) (v:V),σ[i]? =some (some v)->σ'[i]? =some (some v)
theorem Agree.set {σ:St}{j:Nat}(v:V)(h: ∀u,¬σ[j]? =some (some u)):Agree σ (σ.set j (some v)):=⟨by simp,λi u q=>by
 by_cases e:j=i
 ·subst e;exact absurd q (h u)
 ·rw [B3 e];exact q⟩
theorem Agree.trans {a b c:St}(x:Agree a b)(y:Agree b c):Agree a c:=⟨y.1.trans x.1,λi v h=>y.2 i v (x.2 i v h)⟩
def PTs (X:Cx)(ifs:List Expr)(t:TT):Prop:=
 ∀ (pins:List (Addr×Obj)) (s:Shared) (σ:St) (H:Hp) (Q:Bool->Hp->Prop),Inv X pins σ H s->t σ H Q->
  wpAny (model X.prog X.w) X.A (forIn ifs true λc r=>if r=true then do let ok <-isTrue c X.env (eval c X.env);pure (ForInStep.yield ok) else pure (ForInStep.yield r)) (TP X pins σ Q) X.xe s
def jco:TT:=λ_ H Q=>Q true H
theorem HA:PTs X [] jco:=λ_ _ _ H _ I h=>wpAny_tests_nil ⟨H,I,h⟩
theorem HB {c:Expr}{t:TT}(hc:PT X c t):PTs X [c] t:=λpins s σ H Q I h=>wpAny_tests_one (hc pins s σ H Q I h)
def PL (iter target:Expr)(ifs:List Expr)(it:Value)(env:Env)(act:Sem Unit)(nxt:Code):Sem PySem.Fin:=do
 standAt iter.pos
 match <-pyNext it with
 |none=>pure (.done .next)
 |some v=>
  letOwnedTupleGo target it v
  assign target env v
  let mut ok:=true
  for c in ifs do
   if ok then ok <-isTrue c env (eval c env)
  if ok then act
  again nxt
variable {elt iter:Expr}{ifs:List Expr}
theorem NW {prog:Program}{A:Around}{R:Result->Shared->Prop}{s:Shared}{target:Expr}{gens:List Comprehension}{depth:Nat}{it acc:Value}{act:Sem Unit}(I:Nat->Shared->Prop)
 (heq:compTurn (.ListComp elt gens scope pos) depth it acc env=PL iter target ifs it env act (.compLoop (.ListComp elt gens scope pos) depth it acc env))
 (turn: ∀n s,I n s->wpAny (model prog w) A (pyNext it) (λr s₁=>match r with
  |none=>R (.ok .next) s₁
  |some v=>wpAny (model prog w) A (letOwnedTupleGo target it v) (λ_ s₁=>wpAny (model prog w) A (assign target env v) (λ_ s₂=>
   wpAny (model prog w) A (forIn ifs true λc r=>if r=true then do let ok <-PySem.isTrue c env (eval c env);pure (ForInStep.yield ok) else pure (ForInStep.yield r)) (λok s₃=>
    if ok=true then wpAny (model prog w) A act (λ_ s₅=> ∃m,m<n/\I m s₅) (λ_ _=>False) s₃
    else ∃m,m<n/\I m s₃) (λ_ _=>False) s₂) (λ_ _=>False) s₁) (λ_ _=>False) s₁) (λ_ _=>False) s)
 (n:Nat)(h:I n s):
 codeAny (model prog w) A (.compLoop (.ListComp elt gens scope pos) depth it acc env) R s:=by
 refine codeAny_loop rfl I (λn s hI=> ?_) n h;show wpAny _ A ((compTurn (.ListComp elt gens scope pos) depth it acc env).onRaise (λx=>do noteFrame x env;theTreesLotGoes x)) _ _ s;refine wpAny_noted ?_;rw [heq];unfold PL;refine wpAny_bind (Z0 (wpAny_bind (D8 (turn n s hI) (λr s₁ h₁=> ?_) λ_ _ h'=>h'.elim)));cases r with
 |none=>exact G9 h₁
 |some v=>
  refine wpAny_bind (D8 h₁ (λ_ s₁ h₁=> ?_) λ_ _ h'=>h'.elim);refine wpAny_bind (D8 h₁ (λ_ s₂ h₂=>wpAny_bind (D8 h₂ (λok s₃ h₃=> ?_) λ_ _ h'=>h'.elim)) λ_ _ h'=>h'.elim);cases ok with
  |false=>exact G9 ⟨rfl,h₃⟩
  |true=>exact wpAny_bind (D8 h₃ (λ_ s₅ h₅=>G9 ⟨rfl,h₅⟩) λ_ _ h'=>h'.elim)
abbrev TM:=St->Hp->List V->(List V->Hp->Prop)->Prop
def ja5 (X:Cx)(D:Addr)(act:Sem Unit)(t:TM):Prop:=
 ∀ (pins:List (Addr×Obj)) (s:Shared) (σ:St) (H:Hp) (ys:List V) (us:List Value) (Q:List V->Hp->Prop),Inv X ([(D,LCg.lst us)]++pins) σ H s->Vals ys us->ys.length<=sizeLine->D∈X.ex->(∀x c,X.env.cells.lookup x=some c->c≠D)->(∀p∈X.pn++pins,p.1≠D)->t σ H ys Q->
  wpAny (model X.prog X.w) X.A act (λ_ s'=> ∃ys' us' H',Vals ys' us'/\Inv X ([(D,LCg.lst us')]++pins) σ H' s'/\Q ys' H') (λ_ _=>False) s
def xh (te:TE):TM:=λσ H ys Q=>te σ H λy H1=>Q (ys++ [y]) H1
def PM (elt:Expr)(env:Env)(acc:Value):Sem Unit:=do let _ <-call (.builtin "list.append") [acc,<-eval elt env]
variable {te:TE}
theorem NX {D:Addr}(hx:X.xe=λ_ _=>False)(he:PE X elt te):ja5 X D (PM elt X.env (.ref D)) (xh te):=by
 intro pins s σ H ys us Q I hv hz DX cD pD h;have q:=he _ s σ H _ I h;rw [hx] at q;unfold PM;refine wpAny_bind (D8 q (λy s1 ⟨yv,H1,I1,r1,q1⟩=> ?_) λ_ _ z=>z);have zD:=I1.pin (D,LCg.lst us) (D5 _ (M8 _ D4));refine wpAny_bind (append_at (its:=us.toArray) (n:=us.length) zD.1 (λh11 hs11 hD11=>G9 ?_) (by rw [P5,<-hv.length];exact hz));have I10u:Inv X pins σ H1 s1:=I1.pins_of λp hp=>I1.pin p (D5 _ (D5 _ hp))
 have I11:Inv X pins σ H1 {s1 with heap:=h11}:=I10u.turned (t':=s1.toks) (it:=D) (λb o hb e=>hs11.extBut b o hb e) zD.2.1 zD.2.2.1 (.inl DX) cD pD;have eD:h11.get? D=some (LCg.lst (us++ [y])):=by rw [hD11];exact congrArg some (LCg.lst_snoc us y)
 refine⟨ys++ [yv],us++ [y],H1,hv.append (.cons r1 .nil),I11.pins_of λp hp=> ?_,q1⟩;rcases D6.mp hp with z|z
 ·rcases G7.mp z with rfl
  exact⟨eD,zD.2.1,zD.2.2.1,zD.2.2.2.1,λv z=>by cases z⟩
 ·exact I11.pin p (D5 _ z)
def ja6 (js : List Nat) (wi : TI) (g : TG) (tt : TT) (tm : TM) : TE := fun σ H Q => wi σ H fun J H1 =>
  ∃ W : Nat → Nat → List V → Hp → Prop, (∃ m, W 0 m [] H1) ∧ ∀ i m ys H, W i m ys H → ys.length ≤ sizeLine ∧
    ((J.stop i H ∧ ∀ p, H p = none → Q (.ref p) (upd H p (.lst ys))) ∨
     (J.go i H ∧ ∀ x H', J.yld i H x H' → g x (ym js σ) H' fun σ2 H2 => Agree (ym js σ) σ2 ∧ tt σ2 H2 fun b H3 =>
        if b = true then tm σ2 H3 ys fun ys' H4 => ∃ m', m' < m ∧ W (i + 1) m' ys' H4 else ∃ m', m' < m ∧ W (i + 1) m' ys H3))
def tLC (js:List Nat)(wi:TI)(g:TG)(tt:TT)(te:TE):TE:=ja6 js wi g tt (xh te)
variable {tg:Expr}{wi:TI}{g:TG}{tt:TT}
theorem Tr {e:Expr}{rest:List Comprehension}{pos0:Pos}{tm:TM}{use:Option (Value->Sem Unit)}{Qv:Value->Shared->Prop}(hc:X.calm=true)(S:BlockOk X scope js)(hi:PI X tg iter wi)
 (he0:e= .ListComp elt (⟨tg,iter,ifs,0⟩::rest) scope pos)
 (hg: ∀X',jB X scope X'->PG X' tg g)(ht: ∀X',jB X scope X'->PTs X' ifs tt)
 (act:Env->Value->Sem Unit)(hturn: ∀it acc env,compTurn e 0 it acc env=PL iter tg ifs it env (act env acc) (.compLoop e 0 it acc env))(he: ∀X',jB X scope X'-> ∀D,ja5 X' D (act X'.env (.ref D)) tm)
 (hs: ∀x,foldedSetIterable iter X.env x=pure x){pins:List (Addr×Obj)}{s:Shared}{σ:St}{H:Hp}{Q:VK}(I:Inv X pins σ H s)(h:ja6 js wi g tt tm σ H Q)
 (fin: ∀ (D C:Addr) (H':Hp) (s':Shared) (m:Str->Option Value),s'.heap.Ns C m->(∀h',Heap.SameBut C s'.heap h'->Inv X pins σ H' {s' with heap:=h'})->H' C=none->C≠X.env.locals->C ∉ X.fs->X.s₀.heap.objs.size<=C->(∀x c,X.env.cells.lookup x=some c->c≠C)->(∀p∈X.pn++pins,p.1≠C)->
  Q (.ref D) H'->compPost (model X.prog X.w) X.A X.xe use Qv (.ref D) C (.ok .next) s'):
 wpAny (model X.prog X.w) X.A (comprehension e scope X.env pos0 (newList []) false (eval iter X.env) use) Qv X.xe s:=by
 have hclos:=Qg (scope:=scope) (env:=X.env) (λp hp e=>I.ok.has p.1 (S.free p hp e));subst he0;refine wpAny_comprehension_free (use:=use) rfl hs hclos S.kind S.locs (thn (hi pins s σ H _ I h) λv s1 h1=>thn h1 λitv s2 h2=> ?_);obtain⟨it,fp,tn,J,H2,e,I2,T,st2,f2,W,⟨m0,w0⟩,turn⟩:=h2;subst e;refine E8 (PK (λh₁ hns₁ hkp₁ hcl₁ hap₁=> ?_));dsimp only at hns₁ hkp₁ hcl₁ hap₁ ⊢;generalize hD:s2.heap.objs.size=D;generalize hH3:s2.heap.push {cls:= .type "list",dict:=none,data:= .seq ([]:List Value).toArray}=h3 at hns₁ hkp₁ hcl₁ hap₁ ⊢;have sz3:h3.objs.size=D+1:=by rw [<-hH3,U4,hD]
 have up3: ∀b o,s2.heap.get? b=some o->h3.get? b=some o:=λb o e=>hH3 ▸ G1 _ e
 have I3:Inv X pins σ H2 {s2 with heap:=h3}:=I2.kept (t':=s2.toks) up3;have hD3:h3.get? D=some (LCg.lst []):=by rw [<-hH3,<-hD];exact P9 _ rfl
 have fD:Fb X pins H2 D:=I2.fpOk (by rw [hD];exact G6 _) (I2.hok.fresh (by rw [hD];exact G6 _));have obf: ∀b∈fp,∃o,s2.heap.get? b=some o/\ ∀v,o.data≠ .cell v:=T.obj _ _ st2;have ltf: ∀b∈fp,b<D:=λb hb=>by obtain⟨o,e,_⟩:=obf b hb;rw [<-hD];exact P3 e
 generalize hC:h3.objs.size=C at hns₁ hcl₁ hap₁ ⊢;have CD:C=D+1:=hC.symm.trans sz3;have upC: ∀b o,h3.get? b=some o->h₁.get? b=some o:=hkp₁;generalize hX:Qh X scope C {s2 with heap:=h3} H2 (fp++ [D])=X';have iX:jB X scope X':=⟨C,_,_,_,hX.symm⟩;have hf: ∀b∈fp++ [D],Fb X pins H2 b:=λb hb=>(D6.mp hb).elim (f2 b) λz=>by rw [G7.mp z];exact fD
 have cl: ∀x c,(jV X scope C).lookup x=some c->X.env.cells.lookup x=some c\/C<c:=λx c e=>by
  rcases vc S e with ⟨_,z⟩|⟨_,z⟩
  ·exact .inl z
  ·exact .inr (W9 (hcl₁ x c z).2)
 have olt: ∀x c,X.env.cells.lookup x=some c->c<C:=λx c e=>by obtain⟨v,q⟩:=I3.cell x c e;rw [<-hC];exact q.lt
 have ltb: ∀b∈fp++ [D],b<C:=λb hb=>(D6.mp hb).elim (λz=>by have:=ltf b z;rw [CD];exact Q7 this) λz=>by rw [G7.mp z,CD];exact F8 _
 have okX:X'.Ok:=by
  subst hX;refine⟨I.ok.mod,S.kind,I.ok.glob,I.ok.blt,E2 hC,λx y c e1 e2=> ?_,λx hx=> ?_,λx c z e=> ?_,I.ok.hd,I.ok.frames,.inl rfl,λb hb=>⟨R1 (ltb b hb),λx c e=>(cl x c e).elim (λz=>(hf b hb).2.2.2.2.1 x c z) λz=>F7 (Y0 (ltb b hb) z)⟩,
   I3.bs,S1 I.ok.bsz I3.sz,λb o e hb=> ?_,λb hb z=> ?_,I3.stack,I3.stkFree⟩
  ·rcases vc S e1 with ⟨_,z1⟩|⟨_,z1⟩<;>rcases vc S e2 with ⟨_,z2⟩|⟨_,z2⟩
   ·exact I.ok.inj x y c z1 z2
   ·exact absurd (Y0 (olt x c z1) (W9 (hcl₁ y c z2).2)) (T6 _)
   ·exact absurd (Y0 (olt y c z2) (W9 (hcl₁ x c z1).2)) (T6 _)
   ·exact name_of_addr hap₁ z1 z2
  ·have own:scope.names.lookup x=some .cell-> ∃c,(jV X scope C).lookup x=some c:=λz=>by
    obtain⟨c,hc⟩:=JM (sc:=scope) (n:=C+1) z;exact⟨c,by unfold jV;rw [zb,Yf,hc]⟩
   have shr:scope.names.lookup x=some .free-> ∃c,(jV X scope C).lookup x=some c:=λz=>by
    have fm:=yA z;obtain⟨c,hc⟩:=I.ok.has x (S.free _ fm rfl);exact⟨c,YJ S hc fm (by rw [z];decide)⟩
   rcases hx with hx|hx
   ·rcases zB (env:=X.env) hx with z|z
    ·exact own z
    ·exact shr z
   ·rcases zB (env:=X.env) hx with z|z<;>exact shr z
  ·have z':scope.names.lookup x=some .cell:=by
    have z2:(scope.names.lookup x==some NameKind.cell)=true:=z;simpa using z2
   rcases vc S e with ⟨n,_⟩|⟨_,m⟩
   ·exact absurd z' n
   ·show h3.objs.size<=c;rw [hC];exact D7 (W9 (hcl₁ x c m).2)
  ·rcases (hf b hb).2.2.2.1 with z|z
   ·exact I.ok.noex b o e z
   ·exact absurd (D3 (P3 e) (S1 I.ok.bsz z)) (T6 _)
  ·rcases P4.mp (I.stkSub b z) with q|q
   ·exact(hf b hb).2.1 q
   ·exact(hf b hb).2.2.1 q
 -- the block's first state
 have I4:Inv X' [(D,LCg.lst [])] (ym js σ) H2 {s2 with heap:=h₁}:=by
  subst hX;have hDC:D≠C:=by rw [CD];exact R1 (F8 _)
  refine⟨okX,rfl,I2.bare,Un.kept (λb u e=>upC b u e),⟨_,hns₁,λi x v e1 e2 e3=> ?_⟩,λx c e=> ?_,I3.hok.fresh (E2 hC),λx c e=>(cl x c e).elim (λz=>I2.freeC x c z) (λz=>I3.hok.fresh (by rw [<-hC] at z;exact D7 z)),λp hp=> ?_,I3.hok.kept upC,(XE js σ).trans I2.len⟩
  ·have fr:scope.names.lookup x=some .free:=by
    rcases e3 with e3|e3|e3
    ·rcases zB (env:=X.env) e3 with z|z
     ·exact absurd e2 (wz js σ i v (S.js i x e1 (.inl z)))
     ·exact z
    ·rcases zB (env:=X.env) e3 with z|z
     ·exact absurd e2 (wz js σ i v (S.js i x e1 (.inr z)))
     ·exact z
    ·rcases zB (env:=X.env) e3 with z|z<;>exact z
   have fm:=yA fr;obtain⟨m,hm,hl⟩:=I2.loc;have vis:=S.free _ fm rfl;obtain⟨u,r,lk⟩:=hl i x v e1 (VN js σ i v e2) (.inr vis);have kd:(relabel scope X.env).names.lookup x=some .cell\/(relabel scope X.env).names.lookup x=some .free:=by
    rcases e3 with e3|e3|e3
    ·rcases zB (env:=X.env) e3 with z|z
     ·rw [fr] at z;cases z
     ·exfalso;have z2:=e3
      -- a local's kind stays
      exact absurd e2 (wz js σ i v (S.js i x e1 (.inl (by
       have q: ∀ (l:List (Str×NameKind)),(l.map λ(n,k)=>if (k==NameKind.free&&X.env.scope.kind== .function&&X.env.kindOf n==some .cell) then (n,NameKind.cell) else (n,k)).lookup x=some .local->l.lookup x=some .local:=by
        intro l
        induction l with
        |nil=>intro h;simp at h
        |cons p l ih=>
         obtain⟨n,k'⟩:=p;intro h;have h':List.lookup x ((if (k'==NameKind.free&&X.env.scope.kind== .function&&X.env.kindOf n==some .cell)=true then (n,NameKind.cell) else (n,k'))::(l.map λ(n,k)=>if (k==NameKind.free&&X.env.scope.kind== .function&&X.env.kindOf n==some .cell) then (n,NameKind.cell) else (n,k)))=some .local:=h;rw [N2]
         by_cases hc:(k'==NameKind.free&&X.env.scope.kind== .function&&X.env.kindOf n==some .cell)=true
         ·rw [if_pos hc,N2] at h';cases hx:x==n with
          |true=>rw [hx] at h';cases h'
          |false=>rw [hx] at h';exact ih h'
         ·rw [if_neg hc,N2] at h';cases hx:x==n with
          |true=>rw [hx] at h';exact h'
          |false=>rw [hx] at h';exact ih h'
       exact q _ z2))))
    ·exact .inl e3
    ·exact .inr e3
   rcases lk with ⟨k,_⟩|⟨_,c,hc,hcell⟩
   ·have k':X.env.scope.names.lookup x=some .local:=k;rcases vis with z|z<;>(rw [k'] at z;cases z)
   ·refine⟨u,r,.inr ⟨kd,c,YJ S hc fm (by rw [fr];decide),?_⟩⟩;obtain⟨o,ho,hd⟩:=hcell;exact⟨o,upC _ _ (up3 _ _ ho),hd⟩
  ·rcases vc S e with ⟨_,z⟩|⟨_,z⟩
   ·obtain⟨v,o,ho,hd⟩:=I2.cell x c z;exact⟨v,o,upC _ _ (up3 _ _ ho),hd⟩
   ·exact⟨none,(hcl₁ x c z).1⟩
  ·have hp':p∈ [(D,LCg.lst [])]:=hp;rcases G7.mp hp' with rfl
   refine⟨upC _ _ hD3,fD.1,hDC,λz=> ?_,λv z=>by cases z⟩;rcases P4.mp (I.stkSub D z) with q|q
   ·exact fD.2.1 q
   ·exact fD.2.2.1 q
 have st4:tn 0 h₁:=T.keep _ _ _ st2 λb _ o e=>upC _ _ (up3 _ _ e)
 have eA:X'.A=X.A:=by rw [<-hX];rfl
 have eP:X'.prog=X.prog:=by rw [<-hX];rfl
 have eW:X'.w=X.w:=by rw [<-hX];rfl
 have eK:X'.K=X.K:=by rw [<-hX];rfl
 have eC:X'.calm=true:=by rw [<-hX];exact hc
 have eV:X'.env=compEnvC scope (jV X scope C) C X.env:=by rw [<-hX];rfl
 have eE:X'.xe=λ_ _=>False:=by rw [<-hX];rfl
 -- what stays true of the iterator's objects
 have stat: ∀ {us:List Value} {H':Hp},(∀b∈fp,H' b=none)-> ∀b∈fp,Fb X' [(D,LCg.lst us)] H' b:=λ{us H'} hn b hb=>by
  have q:=hf b (M8 _ hb);subst hX;refine⟨hn b hb,R1 (ltb b (M8 _ hb)),λz=> ?_,.inl (M8 _ hb),λx c e=>(cl x c e).elim (λz=>q.2.2.2.2.1 x c z) (λz=>F7 (Y0 (ltb b (M8 _ hb)) z)),λp hp=> ?_⟩
  ·rcases P4.mp (I.stkSub b z) with r|r
   ·exact q.2.1 r
   ·exact q.2.2.1 r
  ·have hp':p∈ [(D,LCg.lst us)]:=hp;rcases G7.mp hp' with rfl
   exact F7 (ltf b hb)
 have loop: ∀s₃:Shared,s₃= {s2 with heap:=h₁}->
  codeAny (model X.prog X.w) X.A (.compLoop (.ListComp elt (⟨tg,iter,ifs,0⟩::rest) scope pos) 0 (.ref it) (.ref D) (compEnvC scope (jV X scope C) C X.env))
   (compPost (model X.prog X.w) X.A X.xe use Qv (.ref D) C) s₃:=by
  rintro s₃ rfl;refine NW (act:=act (compEnvC scope (jV X scope C) C X.env) (.ref D)) (λn s'=> ∃i ys us H',Vals ys us/\Inv X' [(D,LCg.lst us)] (ym js σ) H' s'/\tn i s'.heap/\(∀b∈fp,H' b=none)/\W i n ys H') (hturn _ _ _) ?_ m0
   ⟨0,[],[],H2,.nil,I4,st4,λb hb=>(f2 b hb).1,w0⟩
  rintro n s5 ⟨i,ys,us,H5,hv5,I5,st5,fr5,w5⟩;obtain⟨hz,tr⟩:=turn i n ys H5 w5;rcases tr with ⟨stop,qn⟩|⟨go,step⟩
  ·have q:=T.done X' eP eW eK eC i _ s5 _ H5 (λ_ _=>False) I5 (stat fr5) st5 stop;rw [eA] at q;refine D8 q (λr s6 ⟨hr,I6⟩=> ?_) λ_ _ z=>z
   subst hr;obtain⟨m6,hm6,_⟩:=I6.loc;rw [eV] at hm6;have zD:=I6.pin (D,LCg.lst us) (D5 _ D4);have HD:H5 D=none:=zD.2.1;have oD:s6.heap.get? D=some (LCg.lst us):=zD.1;have hDC:D≠C:=by rw [CD];exact R1 (F8 _)
   have HC:H5 C=none:=by have z:=I6.free;rw [eV] at z;exact z
   have B:=I6.base;have os6:s6.os=s2.os:=by have z:=I6.os;rw [<-hX] at z;exact z
   have Bu:Un (frs X.stack) (fp++ [D]) H2 H5 h3 s6.heap:=by rw [<-hX] at B;exact B
   have neC: ∀b o,h3.get? b=some o->b≠C:=λb o e=>by rw [<-hC];exact R1 (P3 e)
   refine fin D C (upd H5 D (.lst ys)) s6 m6 hm6 (λh' hs'=> ?_) (by rw [jq (Ne.symm hDC)];exact HC) ?_ ?_ ?_ (λx c e=>R1 (olt x c e)) ?_ (qn D HD)
   ·have hk5:HOk X.prog X.w H5 h':=λb u e=>by
     have z:=I6.hok b u e;rw [eP,eW] at z;refine z.stay (λc v hc q=>hs'.extBut c v ?_ q) (λ_ q=>q) λ_ _ q=>q
     rcases hc with rfl|hc
     ·exact ju e HC
     ·exact ju hc HC
    refine I3.call' (ch:=fp++ [D]) os6 ⟨λb o e n hb hx=> ?_,λb o e n hb hx=> ?_,λb o e n hx=> ?_,λb o e hx=> ?_,λb xs e=> ?_,λb o u e=> ?_,λb ps e=> ?_⟩ (hk5.track HD ?_) I6.bare λb hb=> ?_
    ·exact hs'.extBut b o (neC b o e) (Bu.keep b o e n hb hx)
    ·obtain⟨sl,q⟩:=Bu.slot b o e n hb hx;exact⟨sl,hs'.extBut b _ (neC b o e) q⟩
    ·rw [jq λz=>hx (by rw [z];exact D5 _ D4)];exact Bu.free b o e n hx
    ·obtain⟨o',q⟩:=Bu.there b o e hx;exact⟨o',hs'.extBut b _ (neC b o e) q⟩
    ·have z:=Bu.tups b xs e;rw [jq (ju z HD)];exact z
    ·have z:=Bu.frzs b o u e;rw [jq (ju z HD)];exact z
    ·obtain⟨more,z⟩:=Bu.tbls b ps e;exact⟨more,by rw [jq (ju z HD)];exact z⟩
    ·exact⟨hz,us,us.length,hv5,hs'.extBut D _ hDC oD⟩
    ·have q:=hf b hb;exact⟨q.2.2.2.1,q.2.1,q.2.2.2.2.1,q.2.2.2.2.2⟩
   ·rw [<-hC];exact F7 I3.lt
   ·exact I3.nofs (E2 hC)
   ·rw [<-hC];exact I3.sz
   ·intro p hp;have:=(I3.pin p hp).1;rw [<-hC];exact R1 (P3 this)
  ·have q:=T.item X' eP eW eK eC i _ s5 _ H5 (λ_ _=>False) I5 (stat fr5) st5 go;rw [eA] at q;refine D8 q (λr s6 ⟨u,hr,h6⟩=> ?_) λ_ _ z=>z
   subst hr;refine D8 h6 (λ_ s7 ⟨x,H7,I7,r7,y7,st7,fr7⟩=> ?_) λ_ _ z=>z
   have I7':=I7.pinned (stat fr7) (T.obj _ _ st7);have q7:=hg X' iX _ s7 _ H7 x u _ I7' r7 (step x H7 y7);rw [eP,eW,eA,eV,eE] at q7;refine D8 q7 (λ_ s8 ⟨σ8,H8,I8,ag8,q8⟩=> ?_) λ_ _ z=>z
   have q9:=ht X' iX _ s8 σ8 H8 _ I8 q8;rw [eP,eW,eA,eV,eE] at q9;refine D8 q9 (λok s9 ⟨H9,I9,q9⟩=> ?_) λ_ _ z=>z
   have keepT: ∀ {σ':St} {H':Hp} {s':Shared} {us:List Value},Inv X' ([(D,LCg.lst us)]++Zd fp s7.heap) σ' H' s'->tn (i+1) s'.heap/\ ∀b∈fp,H' b=none:=λ{σ' H' s' us} I'=>
    ⟨T.keep _ _ _ st7 λb hb o e=>(I'.pin (b,o) (D5 _ (D5 _ (yy hb e)))).1,λb hb=>by
     obtain⟨o,e,_⟩:=T.obj _ _ st7 b hb;exact(I'.pin (b,o) (D5 _ (D5 _ (yy hb e)))).2.1⟩
   cases ok with
   |false=>
    have q9: ∃m',m'<n/\W (i+1) m' ys H9:=q9;obtain⟨m',hm,w9⟩:=q9;obtain⟨t9,f9⟩:=keepT I9;exact⟨m',hm,i+1,ys,us,H9,hv5,(I9.unpinned).weak ag8.1.symm ag8.2,t9,f9,w9⟩
   |true=>
    have q9:tm σ8 H9 ys λys' H4=> ∃m',m'<n/\W (i+1) m' ys' H4:=q9
    have DX:D∈X'.ex:=by rw [<-hX];exact D5 _ D4
    have pD: ∀p∈X'.pn++Zd fp s7.heap,p.1≠D:=λp hp=>by
     have hp':p∈Zd fp s7.heap:=by rw [<-hX] at hp;simpa [Qh] using hp
     exact R1 (ltf _ (VB hp').1)
    have cD: ∀x c,X'.env.cells.lookup x=some c->c≠D:=λx c e=>by
     rw [eV] at e;exact(cl x c e).elim (λz=>fD.2.2.2.2.1 x c z) λz=>F7 (Y0 (by rw [CD];exact F8 _) z)
    have q10:=he X' iX D _ s9 σ8 H9 ys us _ I9 hv5 hz DX cD pD q9;rw [eP,eW,eA,eV] at q10;show wpAny _ _ (act _ _) _ _ s9;refine D8 q10 (λ_ s10 ⟨ys',us',H10,hv10,I10,m',hm,w10⟩=> ?_) λ_ _ z=>z
    obtain⟨t10,f10⟩:=keepT I10;exact⟨m',hm,i+1,ys',us',H10,hv10,(I10.unpinned).weak ag8.1.symm ag8.2,t10,f10,w10⟩
 exact codeAny_compStart_list (loop _ rfl) (T.self X.A 0 _ _ _ st4 (loop _ rfl))
theorem xi (hc:X.calm=true)(S:BlockOk X scope js)(hi:PI X tg iter wi)
 (hg: ∀X',jB X scope X'->PG X' tg g)(ht: ∀X',jB X scope X'->PTs X' ifs tt)(he: ∀X',jB X scope X'->PE X' elt te)
 (hs: ∀x,foldedSetIterable iter X.env x=pure x:=by intro _;rfl):PE X (.ListComp elt [⟨tg,iter,ifs,0⟩] scope pos) (tLC js wi g tt te):=by
 intro pins s σ H Q I h;rw [eval_ListComp];exact Tr (use:=none) hc S hi rfl hg ht (PM elt) (λ_ _ _=>rfl) (λX' hX D=>NX (by obtain⟨_,_,_,_,rfl⟩:=hX;rfl) (he X' hX)) hs I h
  λD C H' s' m hn hk _ _ _ _ _ _ q=>⟨m,hn,λh' hs'=>⟨.ref D,H',hk h' hs',rfl,q⟩⟩
def FN (e iter:Expr)(env:Env)(acc:Value):Sem Unit:=do
 let x <-eval iter env
 standAt iter.pos
 let x <-foldedSetIterable iter env x
 let _ <-runOwn (.compStart e 1 (<-holding [x] (pyIter x)) acc env) env
def mIn (wi : TI) (g : TG) (tt : TT) (tm : TM) : TM := fun σ H ys Q => wi σ H fun J H1 =>
  ∃ W : Nat → Nat → List V → Hp → Prop, (∃ m, W 0 m ys H1) ∧ ∀ i m ys H, W i m ys H → ys.length ≤ sizeLine ∧
    ((J.stop i H ∧ Q ys H) ∨
     (J.go i H ∧ ∀ x H', J.yld i H x H' → g x σ H' fun σ2 H2 => Agree σ σ2 ∧ tt σ2 H2 fun b H3 =>
        if b = true then tm σ2 H3 ys fun ys' H4 => ∃ m', m' < m ∧ W (i + 1) m' ys' H4 else ∃ m', m' < m ∧ W (i + 1) m' ys H3))
theorem Wj {prog:Program}{A:Around}{R:Result->Shared->Prop}{s:Shared}{g0 g1:Comprehension}{it acc:Value}(ha:g1.is_async=0)
 (h0:codeAny (model prog w) A (.compLoop (.ListComp elt [g0,g1] scope pos) 1 it acc env) R s)
 (h:wpAny (model prog w) A (pyIter it) (λit' s'=>codeAny (model prog w) A (.compLoop (.ListComp elt [g0,g1] scope pos) 1 it' acc env) R s')
  (notedBy (model prog w) A env λx s'=>R (.error x) s') s):
 codeAny (model prog w) A (.compStart (.ListComp elt [g0,g1] scope pos) 1 it acc env) R s:=by
 obtain⟨tg,iter,ifs,as⟩:=g1;cases (show as=0 from ha);refine G0Y (wpAny_notedAt ?_);obtain⟨hp,g,d,tk,os⟩:=s;unfold compStart
 wp_walk
 refine wpAny_askSetting ?_;split
 ·exact G9 ⟨rfl,h0⟩
 ·exact wpAny_bind (Z6 (wpAny_bind (Z0 (wpAny_bind (D8 h (λ_ _ on=>G9 ⟨rfl,on⟩) λ_ _ x=>x)))))
theorem HE {D:Addr}{g0:Comprehension}(hc:X.calm=true)(hx:X.xe=λ_ _=>False)
 (hi:PI X tg iter wi)(hg:PG X tg g)(ht:PTs X ifs tt)(he:PE X elt te)(hs: ∀x,foldedSetIterable iter X.env x=pure x):
 ja5 X D (FN (.ListComp elt [g0,⟨tg,iter,ifs,0⟩] scope pos) iter X.env (.ref D)) (mIn wi g tt (xh te)):=by
 intro pins s σ H ys us Q I hv hz DX cD pD h;have q:=hi _ s σ H _ I h;rw [hx] at q;unfold FN;refine wpAny_bind (D8 q (λv s1 h1=>wpAny_bind (Z0 (wpAny_bind (wpAny_of_eq (hs v) (wpAny_bind (B8 (D8 h1 (λitv s2 h2=> ?_) λ_ _ z=>z))))))) λ_ _ z=>z);obtain⟨it,fp,tn,J,H2,e,I2,T,st2,f2,W,⟨m0,w0⟩,turn⟩:=h2;subst e;refine wpAny_bind (wpAny_runOwn ?_);have neD: ∀b∈fp,b≠D:=λb hb=>by
  have z:=(f2 b hb).2.2.2.2.2 (D,LCg.lst us) (D5 _ (M8 _ D4));exact Ne.symm z
 have stat: ∀ {us':List Value} {H':Hp},(∀b∈fp,H' b=none)-> ∀b∈fp,Fb X ([(D,LCg.lst us')]++pins) H' b:=λ{us' H'} hn b hb=>by
  have q:=f2 b hb;refine⟨hn b hb,q.2.1,q.2.2.1,q.2.2.2.1,q.2.2.2.2.1,λp hp=> ?_⟩;rcases D6.mp hp with z|z
  ·exact q.2.2.2.2.2 p (M8 _ z)
  ·rcases D6.mp z with z|z
   ·rcases G7.mp z with rfl
    exact Ne.symm (neD b hb)
   ·exact q.2.2.2.2.2 p (D5 _ (D5 _ z))
 have loop:codeAny (model X.prog X.w) X.A (.compLoop (.ListComp elt [g0,⟨tg,iter,ifs,0⟩] scope pos) 1 (.ref it) (.ref D) X.env)
  (λr s'=>match r with| .ok f=>wpAny (model X.prog X.w) X.A (pure ()) (λ_ s'=> ∃ys' us' H',Vals ys' us'/\Inv X ([(D,LCg.lst us')]++pins) σ H' s'/\Q ys' H') (λ_ _=>False) s'| .error e=>cameBackBy (model X.prog X.w) X.A X.env (λ_ _=>False) e s') s2:=by
  refine NW (act:=PM elt X.env (.ref D)) (λn s'=> ∃i ys us H',Vals ys us/\Inv X ([(D,LCg.lst us)]++pins) σ H' s'/\tn i s'.heap/\(∀b∈fp,H' b=none)/\W i n ys H') rfl ?_ m0
   ⟨0,ys,us,H2,hv,I2,st2,λb hb=>(f2 b hb).1,w0⟩
  rintro n s5 ⟨i,ys,us,H5,hv5,I5,st5,fr5,w5⟩;obtain⟨hz,tr⟩:=turn i n ys H5 w5;rcases tr with ⟨stop,qn⟩|⟨go,step⟩
  ·refine D8 (T.done X rfl rfl rfl hc i _ s5 _ H5 (λ_ _=>False) I5 (stat fr5) st5 stop) (λr s6 ⟨hr,I6⟩=> ?_) λ_ _ z=>z
   subst hr;exact G9 ⟨ys,us,H5,hv5,I6,qn⟩
  ·refine D8 (T.item X rfl rfl rfl hc i _ s5 _ H5 (λ_ _=>False) I5 (stat fr5) st5 go) (λr s6 ⟨u,hr,h6⟩=> ?_) λ_ _ z=>z
   subst hr;refine D8 h6 (λ_ s7 ⟨x,H7,I7,r7,y7,st7,fr7⟩=> ?_) λ_ _ z=>z
   have I7':=I7.pinned (stat fr7) (T.obj _ _ st7);have q7:=hg _ s7 _ H7 x u _ I7' r7 (step x H7 y7);rw [hx] at q7;refine D8 q7 (λ_ s8 ⟨σ8,H8,I8,ag8,q8⟩=> ?_) λ_ _ z=>z
   have q9:=ht _ s8 σ8 H8 _ I8 q8;rw [hx] at q9;refine D8 q9 (λok s9 ⟨H9,I9,q9⟩=> ?_) λ_ _ z=>z
   have keepT: ∀ {σ':St} {H':Hp} {s':Shared} {us:List Value},Inv X (([(D,LCg.lst us)]++pins)++Zd fp s7.heap) σ' H' s'->tn (i+1) s'.heap/\ ∀b∈fp,H' b=none:=λ{σ' H' s' us} I'=>
    ⟨T.keep _ _ _ st7 λb hb o e=>(I'.pin (b,o) (D5 _ (D5 _ (yy hb e)))).1,λb hb=>by
     obtain⟨o,e,_⟩:=T.obj _ _ st7 b hb;exact(I'.pin (b,o) (D5 _ (D5 _ (yy hb e)))).2.1⟩
   cases ok with
   |false=>
    have q9: ∃m',m'<n/\W (i+1) m' ys H9:=q9;obtain⟨m',hm,w9⟩:=q9;obtain⟨t9,f9⟩:=keepT I9;exact⟨m',hm,i+1,ys,us,H9,hv5,(I9.unpinned).weak ag8.1.symm ag8.2,t9,f9,w9⟩
   |true=>
    have q9:xh te σ8 H9 ys λys' H4=> ∃m',m'<n/\W (i+1) m' ys' H4:=q9
    have pD': ∀p∈X.pn++(pins++Zd fp s7.heap),p.1≠D:=λp hp=>by
     rcases D6.mp hp with z|z
     ·exact pD p (M8 _ z)
     ·rcases D6.mp z with z|z
      ·exact pD p (D5 _ z)
      ·exact neD _ (VB z).1
    rw [P2] at I9;have q10:=NX (D:=D) hx he (pins++Zd fp s7.heap) s9 σ8 H9 ys us _ I9 hv5 hz DX cD pD' q9;show wpAny _ _ (PM _ _ _) _ _ s9;refine D8 q10 (λ_ s10 ⟨ys',us',H10,hv10,I10,m',hm,w10⟩=> ?_) λ_ _ z=>z
    rw [<-P2] at I10;obtain⟨t10,f10⟩:=keepT I10;exact⟨m',hm,i+1,ys',us',H10,hv10,(I10.unpinned).weak ag8.1.symm ag8.2,t10,f10,w10⟩
 exact Wj rfl loop (T.self X.A 0 _ _ _ st2 loop)
theorem HF (elt iter tg iter' tg':Expr)(ifs ifs':List Expr)(scope:Scope)(pos:Pos)(it acc:Value)(env:Env):
 compTurn (.ListComp elt [⟨tg,iter,ifs,0⟩,⟨tg',iter',ifs',0⟩] scope pos) 0 it acc env=
  PL iter tg ifs it env (FN (.ListComp elt [⟨tg,iter,ifs,0⟩,⟨tg',iter',ifs',0⟩] scope pos) iter' env acc) (.compLoop (.ListComp elt [⟨tg,iter,ifs,0⟩,⟨tg',iter',ifs',0⟩] scope pos) 0 it acc env):=by
 unfold PL FN;simp only [bind_assoc,pure_bind];rfl
def ja7 (js:List Nat)(wi:TI)(g:TG)(tt:TT)(wi':TI)(g':TG)(tt':TT)(te:TE):TE:=ja6 js wi g tt (mIn wi' g' tt' (xh te))
theorem xj {iter' tg':Expr}{ifs':List Expr}{wi':TI}{g':TG}{tt':TT}(hc:X.calm=true)(S:BlockOk X scope js)(hi:PI X tg iter wi)
 (hg: ∀X',jB X scope X'->PG X' tg g)(ht: ∀X',jB X scope X'->PTs X' ifs tt)(hi': ∀X',jB X scope X'->PI X' tg' iter' wi')
 (hg': ∀X',jB X scope X'->PG X' tg' g')(ht': ∀X',jB X scope X'->PTs X' ifs' tt')(he: ∀X',jB X scope X'->PE X' elt te)
 (hs: ∀x,foldedSetIterable iter X.env x=pure x:=by intro _;rfl)(hs': ∀env x,foldedSetIterable iter' env x=pure x:=by intro _ _;rfl):
 PE X (.ListComp elt [⟨tg,iter,ifs,0⟩,⟨tg',iter',ifs',0⟩] scope pos) (ja7 js wi g tt wi' g' tt' te):=by
 intro pins s σ H Q I h;rw [eval_ListComp];exact Tr (use:=none) hc S hi rfl hg ht (λenv acc=>FN (.ListComp elt [⟨tg,iter,ifs,0⟩,⟨tg',iter',ifs',0⟩] scope pos) iter' env acc) (λ_ _ _=>HF ..)
  (λX' hX D=>HE (by obtain⟨_,_,_,_,rfl⟩:=hX;exact hc) (by obtain⟨_,_,_,_,rfl⟩:=hX;rfl) (hi' X' hX) (hg' X' hX) (ht' X' hX) (he X' hX) (hs' _)) hs I h
  λD C H' s' m hn hk _ _ _ _ _ _ q=>⟨m,hn,λh' hs'=>⟨.ref D,H',hk h' hs',rfl,q⟩⟩
inductive D where
 |non|bl (b:Bool)|int (i:Int)|str (x:Str)|tup (ds:List D)|lst (a:Addr)|dic (x:Str) (i:Int)|dni (x:Int) (i:Int)|scr (ns:List Int)|exc (C:Addr)|fn (a:Addr)
def Scr (K:PySem.W.Frag)(H:Hp)(a:Addr)(ns:List Int):Prop:=
 (∃o,H a=some (.frz o (.lst (ns.map V.int))))\/
  ∃ (o:Obj) (its:Array Value) (n:Nat),K.lookup a=some o/\o.cls= .type "list" /\o.dict=none/\o.data= .seq its n/\its.size<=sizeLine/\Vals (ns.map V.int) its.toList
theorem Scr.sq {K:PySem.W.Frag}{H:Hp}{a:Addr}{ns:List Int}(h:Scr K H a ns):SqL K H a (ns.map V.int):=h.elim (λz=> .inl (.inr z)) .inr
mutual
def RelD (K:PySem.W.Frag)(H:Hp):D->V->Prop
 | .non,v=>v= .non
 | .bl b,v=>v= .bl b
 | .int i,v=>v= .int i
 | .str x,v=>v= .str x
 | .tup ds,v=> ∃a vs,v= .ref a/\H a=some (.tup vs)/\RelDs K H ds vs
 | .lst a,v=>v= .ref a/\ ∃vs,H a=some (.lst vs)
 | .dic x i,v=> ∃a,v= .ref a/\H a=some (.dK [(Sum.inr x,V.int i)])
 | .dni x i,v=> ∃a,v= .ref a/\H a=some (.dK [(Sum.inl x,V.int i)])
 | .scr ns,v=> ∃a,v= .ref a/\Scr K H a ns
 | .exc C,v=> ∃x o vs,v= .ref x/\H x=some (.frz o (.own 0))/\o.cls= .ref C/\o.data= .fields vs
 | .fn a,v=>v= .ref a/\PySem.W.keepIn K (.ref a)=true
def RelDs (K:PySem.W.Frag)(H:Hp):List D->List V->Prop
 | [],vs=>vs= []
 |d::ds,vs=> ∃v r,vs=v::r/\RelD K H d v/\RelDs K H ds r
end
structure Kept (H H':Hp):Prop where
 tup: ∀a xs,H a=some (.tup xs)->H' a=some (.tup xs)
 lst: ∀a xs,H a=some (.lst xs)-> ∃ys,H' a=some (.lst ys)
 dic: ∀a k,H a=some (.dK k)->H' a=some (.dK k)
 frz: ∀a o u,H a=some (.frz o u)->H' a=some (.frz o u)
theorem Kept.refl (H:Hp):Kept H H:=⟨λ_ _ h=>h,λ_ xs h=>⟨xs,h⟩,λ_ _ h=>h,λ_ _ _ h=>h⟩
theorem Kept.trans {A B C:Hp}(x:Kept A B)(y:Kept B C):Kept A C:=
 ⟨λa xs h=>y.tup a xs (x.tup a xs h),λa xs h=>let ⟨_,e⟩:=x.lst a xs h;y.lst a _ e,λa k h=>y.dic a k (x.dic a k h),λa o u h=>y.frz a o u (x.frz a o u h)⟩
theorem Kept.new {H:Hp}{p:Addr}{o:HO}(h:H p=none):Kept H (upd H p o):=
 ⟨λa xs e=>by rw [jq (ju e h)];exact e,λa xs e=>⟨xs,by rw [jq (ju e h)];exact e⟩,λa k e=>by rw [jq (ju e h)];exact e,λa o u e=>by rw [jq (ju e h)];exact e⟩
theorem Kept.put {H:Hp}{p:Addr}{xs ys:List V}(h:H p=some (.lst xs)):Kept H (upd H p (.lst ys)):=
 ⟨λa zs e=>by rw [jq (Fq e h (by intro z;cases z))];exact e,λa zs e=>by
  by_cases q:a=p
  ·subst q;exact⟨ys,jt⟩
  ·exact⟨zs,by rw [jq q];exact e⟩,
  λa k e=>by rw [jq (Fq e h (by intro z;cases z))];exact e,λa o u e=>by rw [jq (Fq e h (by intro z;cases z))];exact e⟩
mutual
theorem RelD.mono {K:PySem.W.Frag}{H H':Hp}(k:Kept H H'): ∀ {d:D} {v:V},RelD K H d v->RelD K H' d v
 | .non,_,h=>h
 | .bl _,_,h=>h
 | .int _,_,h=>h
 | .str _,_,h=>h
 | .tup ds,v,h=>by
  obtain⟨a,vs,e,h1,h2⟩:=(show ∃a vs,v= .ref a/\H a=some (.tup vs)/\RelDs K H ds vs from h);exact⟨a,vs,e,k.tup _ _ h1,RelDs.mono k h2⟩
 | .lst a,v,h=>by
  obtain⟨e,vs,h1⟩:=(show v= .ref a/\ ∃vs,H a=some (.lst vs) from h);exact⟨e,k.lst _ _ h1⟩
 | .dic x i,v,h=>by
  obtain⟨a,e,h1⟩:=(show ∃a,v= .ref a/\H a=some (.dK [(Sum.inr x,V.int i)]) from h);exact⟨a,e,k.dic _ _ h1⟩
 | .dni x i,v,h=>by
  obtain⟨a,e,h1⟩:=(show ∃a,v= .ref a/\H a=some (.dK [(Sum.inl x,V.int i)]) from h);exact⟨a,e,k.dic _ _ h1⟩
 | .scr ns,v,h=>by
  obtain⟨a,e,h1⟩:=(show ∃a,v= .ref a/\Scr K H a ns from h);exact⟨a,e,h1.elim (λ⟨o,z⟩=> .inl ⟨o,k.frz _ _ _ z⟩) .inr⟩
 | .exc C,v,h=>by
  obtain⟨x,o,vs,e,h1,r⟩:=(show ∃x o vs,v= .ref x/\H x=some (.frz o (.own 0))/\o.cls= .ref C/\o.data= .fields vs from h);exact⟨x,o,vs,e,k.frz _ _ _ h1,r⟩
 | .fn a,v,h=>h
theorem RelDs.mono {K:PySem.W.Frag}{H H':Hp}(k:Kept H H'): ∀ {ds:List D} {vs:List V},RelDs K H ds vs->RelDs K H' ds vs
 | [],_,h=>h
 |d::ds,vs,h=>by
  obtain⟨v,r,e,h1,h2⟩:=(show ∃v r,vs=v::r/\RelD K H d v/\RelDs K H ds r from h);exact⟨v,r,e,RelD.mono k h1,RelDs.mono k h2⟩
end
section
variable {K:PySem.W.Frag}{H:Hp}
theorem RelDs.nil:RelDs K H [] []:=rfl
theorem RelDs.cons {d:D}{v:V}{ds:List D}{vs:List V}(h:RelD K H d v)(t:RelDs K H ds vs):RelDs K H (d::ds) (v::vs):=⟨v,vs,rfl,h,t⟩
theorem RelDs.length: ∀ {ds:List D} {vs:List V},RelDs K H ds vs->ds.length=vs.length
 | [],_,h=>by cases (show _= [] from h);rfl
 |d::ds,vs,h=>by
  obtain⟨v,r,e,_,h2⟩:=(show ∃v r,vs=v::r/\RelD K H d v/\RelDs K H ds r from h);subst e;simp [RelDs.length h2]
theorem RelDs.append: ∀ {ds es:List D} {vs us:List V},RelDs K H ds vs->RelDs K H es us->RelDs K H (ds++es) (vs++us)
 | [],_,_,_,h,g=>by cases (show _= [] from h);exact g
 |d::ds,es,vs,us,h,g=>by
  obtain⟨v,r,e,h1,h2⟩:=(show ∃v r,vs=v::r/\RelD K H d v/\RelDs K H ds r from h);subst e;exact .cons h1 (RelDs.append h2 g)
theorem RelDs.get: ∀ {ds:List D} {vs:List V} {i:Nat} {d:D},RelDs K H ds vs->ds[i]? =some d-> ∃v,vs[i]? =some v/\RelD K H d v
 |d'::ds,vs,i,d,h,e=>by
  obtain⟨v,r,q,h1,h2⟩:=(show ∃v r,vs=v::r/\RelD K H d' v/\RelDs K H ds r from h);subst q;cases i with
  |zero=>simp at e;subst e;exact⟨v,rfl,h1⟩
  |succ i=>
   obtain⟨u,q1,q2⟩:=RelDs.get h2 (i:=i) (d:=d) (by simpa using e);exact⟨u,by simpa using q1,q2⟩
theorem RelDs.take (n:Nat): ∀ {ds:List D} {vs:List V},RelDs K H ds vs->RelDs K H (ds.take n) (vs.take n):=by
 induction n with
 |zero=>intro ds vs _;exact(rfl:RelDs K H [] [])
 |succ n ih=>
  intro ds vs h;cases ds with
  |nil=>cases (show vs= [] from h);exact .nil
  |cons d ds=>
   obtain⟨v,r,e,h1,h2⟩:=(show ∃v r,vs=v::r/\RelD K H d v/\RelDs K H ds r from h);subst e;exact .cons h1 (ih h2)
theorem RelDs.drop (n:Nat): ∀ {ds:List D} {vs:List V},RelDs K H ds vs->RelDs K H (ds.drop n) (vs.drop n):=by
 induction n with
 |zero=>intro ds vs h;exact h
 |succ n ih=>
  intro ds vs h;cases ds with
  |nil=>cases (show vs= [] from h);exact .nil
  |cons d ds=>
   obtain⟨v,r,e,h1,h2⟩:=(show ∃v r,vs=v::r/\RelD K H d v/\RelDs K H ds r from h);subst e;exact ih h2
theorem RelDs.set {d:D}{v:V}(q:RelD K H d v): ∀ {ds:List D} {vs:List V} (i:Nat),RelDs K H ds vs->RelDs K H (ds.set i d) (vs.set i v)
 | [],_,_,h=>by cases (show _= [] from h);exact .nil
 |e::ds,vs,i,h=>by
  obtain⟨u,r,z,h1,h2⟩:=(show ∃u r,vs=u::r/\RelD K H e u/\RelDs K H ds r from h);subst z;cases i with
  |zero=>exact .cons q h2
  |succ i=>exact .cons h1 (RelDs.set q i h2)
theorem JN: ∀ns:List Int,RelDs K H (ns.map D.int) (ns.map V.int)
 | []=> .nil
 |n::ns=> .cons rfl (JN ns)
end
abbrev HD:=Addr->Option (List D)
def yL (h:HD)(a:Addr)(ds:List D):HD:=λb=>if b=a then some ds else h b
def VO (h:HD)(a:Addr):HD:=λb=>if b=a then none else h b
theorem je {h:HD}{a:Addr}{ds:List D}:yL h a ds a=some ds:=if_pos rfl
theorem zT {h:HD}{a b:Addr}{ds:List D}(e:b≠a):yL h a ds b=h b:=if_neg e
theorem wA {h:HD}{a:Addr}{ds:List D}(e:h a=none):VO (yL h a ds) a=h:=by
 funext b;unfold VO yL;by_cases q:b=a
 ·subst q;simp [e]
 ·simp [q]
def LN:List Str:= ["law","_law_right","_law_words","_law_other_words","_law_many_right","_law_all","_law_told_row","_law_all_right","_law_desk_right","_law_signs_right","_law_lists_right","_law_text_right"]
def TabK (K:PySem.W.Frag)(P:Addr):Prop:= ∃x∈LN,∃c,PySem.W.tabIn K x=some (c,P)
def CodesOk (H:Hp)(ps:Array Value):Prop:=TriplesOk ps.toList/\ ∀pos cv,codeAmong pos ps.toList=some cv-> ∃ (c:Addr) (o:Obj) (vs:Array Value) (q:Str) (t:Tok),cv= .ref c/\H c=some (.frz o (.own 0))/\o.data= .fields vs/\vs[1]? =some (.str q t)
def CTabs (K:PySem.W.Frag)(H:Hp):Prop:= ∀P,TabK K P-> ∃ps,H P=some (.tbl ps)/\CodesOk H ps
theorem CodesOk.mono {H H':Hp}{ps:Array Value}(k: ∀a o u,H a=some (.frz o u)->H' a=some (.frz o u))(c:CodesOk H ps):CodesOk H' ps:=
 ⟨c.1,λpos cv e=>let ⟨c',o,vs,q,t,e1,e2,r⟩:=c.2 pos cv e;⟨c',o,vs,q,t,e1,k _ _ _ e2,r⟩⟩
theorem CTabs.mono {K:PySem.W.Frag}{H H':Hp}(x:CTabs K H)(k: ∀a o u,H a=some (.frz o u)->H' a=some (.frz o u))(kt: ∀a ps,H a=some (.tbl ps)->H' a=some (.tbl ps)):CTabs K H':=λP hP=>
 let ⟨ps,e,c⟩:=x P hP;⟨ps,kt _ _ e,c.mono k⟩
theorem CTabs.new {K:PySem.W.Frag}{H:Hp}{p:Addr}{o:HO}(x:CTabs K H)(e:H p=none):CTabs K (upd H p o):=
 x.mono (λa o' u h=>by rw [jq (ju h e)];exact h) λa ps h=>by rw [jq (ju h e)];exact h
theorem CTabs.put {K:PySem.W.Frag}{H:Hp}{p:Addr}{o:HO}{xs:List V}(x:CTabs K H)(e:H p=some (.lst xs)):CTabs K (upd H p o):=
 x.mono (λa o' u h=>by rw [jq (Fq h e (by intro z;cases z))];exact h) λa ps h=>by rw [jq (Fq h e (by intro z;cases z))];exact h
structure RelH (K:PySem.W.Frag)(h:HD)(H:Hp):Prop where
 ls: ∀a ds,h a=some ds-> ∃vs,H a=some (.lst vs)/\RelDs K H ds vs
 tb:CTabs K H
instance {K:PySem.W.Frag}{h:HD}{H:Hp}:CoeFun (RelH K h H) λ_=> ∀a ds,h a=some ds-> ∃vs,H a=some (.lst vs)/\RelDs K H ds vs:=⟨RelH.ls⟩
def Sub (h h':HD):Prop:= ∀a ds,h a=some ds->h' a=some ds
theorem Sub.refl (h:HD):Sub h h:=λ_ _ e=>e
theorem Sub.trans {a b c:HD}(x:Sub a b)(y:Sub b c):Sub a c:=λd ds e=>y d ds (x d ds e)
theorem Sub.drop (h:HD)(a:Addr):Sub (VO h a) h:=λb ds e=>by
 unfold VO at e;split at e
 ·cases e
 ·exact e
theorem Sub.new {h:HD}{p:Addr}{ds:List D}(e:h p=none):Sub h (yL h p ds):=λa es q=>by
 rw [zT];exact q;intro z;subst z;rw [e] at q;cases q
section
variable {K:PySem.W.Frag}{h h':HD}{H:Hp}
theorem RelH.sub (r:RelH K h H)(s:Sub h' h):RelH K h' H:=⟨λa ds e=>r a ds (s a ds e),r.tb⟩
theorem RelH.free (r:RelH K h H){p:Addr}(e:H p=none):h p=none:=by
 cases q:h p with
 |none=>rfl
 |some ds=>obtain⟨vs,z,_⟩:=r p ds q;rw [e] at z;cases z
theorem RelH.new (r:RelH K h H){p:Addr}{o:HO}(e:H p=none):RelH K h (upd H p o):=⟨λa ds q=>by
 obtain⟨vs,z,w⟩:=r a ds q;exact⟨vs,by rw [jq (ju z e)];exact z,w.mono (.new e)⟩,r.tb.new e⟩
theorem RelH.newL (r:RelH K h H){p:Addr}{ds:List D}{vs:List V}(e:H p=none)(q:RelDs K H ds vs):RelH K (yL h p ds) (upd H p (.lst vs)):=⟨λa es z=>by
 by_cases w:a=p
 ·subst w;rw [je] at z;cases z;exact⟨vs,jt,q.mono (.new e)⟩
 ·rw [zT w] at z;obtain⟨us,z1,z2⟩:=r a es z;exact⟨us,by rw [jq w];exact z1,z2.mono (.new e)⟩,r.tb.new e⟩
theorem RelH.put (r:RelH K h H){p:Addr}{ds:List D}{vs us:List V}(e:H p=some (.lst us))(q:RelDs K H ds vs):RelH K (yL h p ds) (upd H p (.lst vs)):=⟨λa es z=>by
 by_cases w:a=p
 ·subst w;rw [je] at z;cases z;exact⟨vs,jt,q.mono (.put e)⟩
 ·rw [zT w] at z;obtain⟨us,z1,z2⟩:=r a es z;exact⟨us,by rw [jq w];exact z1,z2.mono (.put e)⟩,r.tb.put e⟩
end
abbrev SD:=List (Option D)
def RelS (K:PySem.W.Frag)(H:Hp)(σd:SD)(σ:St):Prop:=σd.length=σ.length/\ ∀ (i:Nat) (d:D),σd[i]? =some (some d)-> ∃v,σ[i]? =some (some v)/\RelD K H d v
theorem RelS.mono {K:PySem.W.Frag}{H H':Hp}{σd:SD}{σ:St}(r:RelS K H σd σ)(k:Kept H H'):RelS K H' σd σ:=⟨r.1,λi d e=>let ⟨v,a,b⟩:=r.2 i d e;⟨v,a,b.mono k⟩⟩
theorem RelS.set {K:PySem.W.Frag}{H:Hp}{σd:SD}{σ:St}{d:D}{v:V}(r:RelS K H σd σ)(q:RelD K H d v)(i:Nat):RelS K H (σd.set i (some d)) (σ.set i (some v)):=⟨by simp [r.1],λj e h=>by
 by_cases z:i=j
 ·subst z;rw [W8] at h ⊢
  by_cases hl:i<σd.length
  ·rw [if_pos rfl,if_pos hl] at h;rw [if_pos rfl,if_pos (by rw [<-r.1];exact hl)];cases h;exact⟨v,rfl,q⟩
  ·rw [if_pos rfl,if_neg hl] at h;cases h
 ·rw [B3 z] at h ⊢;exact r.2 j e h⟩
theorem RelS.clear1 {K:PySem.W.Frag}{H:Hp}{σd:SD}{σ:St}(r:RelS K H σd σ)(i:Nat):RelS K H (σd.set i none) (σ.set i none):=⟨by simp [r.1],λj e h=>by
 by_cases z:i=j
 ·subst z;rw [W8] at h;split at h
  ·split at h<;>cases h
  ·contradiction
 ·rw [B3 z] at h ⊢;exact r.2 j e h⟩
def za:List Nat->SD->SD
 | [],σ=>σ
 |j::js,σ=>za js (σ.set j none)
theorem RelS.clear {K:PySem.W.Frag}{H:Hp}: ∀ (js:List Nat) {σd:SD} {σ:St},RelS K H σd σ->RelS K H (za js σd) (ym js σ)
 | [],_,_,r=>r
 |j::js,_,_,r=>RelS.clear js (r.clear1 j)
abbrev KD:=D->HD->Prop
abbrev TED:=SD->HD->KD->Prop
abbrev TTD:=SD->HD->(Bool->HD->Prop)->Prop
abbrev TAD:=SD->HD->(List D->HD->Prop)->Prop
abbrev RD2:=D->D->HD->KD->Prop
abbrev RDn:=List D->HD->KD->Prop
structure EndsD where
 nx:SD->HD->Prop
 rt:KD
 bk:SD->HD->Prop:=λ_ _=>False
 ct:SD->HD->Prop:=λ_ _=>False
abbrev TSD:=EndsD->SD->HD->Prop
abbrev TGD:=D->SD->HD->(SD->HD->Prop)->Prop
def Ts (K:PySem.W.Frag)(H:Hp)(Qd:KD)(Q:VK):Prop:= ∀d v h' H',Kept H H'->RelH K h' H'->RelD K H' d v->Qd d h'->Q v H'
def LE (K:PySem.W.Frag)(t:TED):TE:=λσ H Q=> ∃σd h Qd,RelS K H σd σ/\RelH K h H/\t σd h Qd/\Ts K H Qd Q
def LT (K:PySem.W.Frag)(t:TTD):TT:=λσ H Q=> ∃σd h Qd,RelS K H σd σ/\RelH K h H/\t σd h Qd/\ ∀b h' H',Kept H H'->RelH K h' H'->Qd b h'->Q b H'
def LA (K:PySem.W.Frag)(t:TAD):TA:=λσ H Q=> ∃σd h Qd,RelS K H σd σ/\RelH K h H/\t σd h Qd/\ ∀ds vs h' H',Kept H H'->RelH K h' H'->RelDs K H' ds vs->Qd ds h'->Q vs H'
def LR (K:PySem.W.Frag)(f:RD2):R2:=λx y H Q=> ∃dx dy h Qd,RelD K H dx x/\RelD K H dy y/\RelH K h H/\f dx dy h Qd/\Ts K H Qd Q
def LC (K:PySem.W.Frag)(f:RDn):List V->Hp->VK->Prop:=λxs H Q=> ∃ds h Qd,RelDs K H ds xs/\RelH K h H/\f ds h Qd/\Ts K H Qd Q
def LG (K:PySem.W.Frag)(g:TGD):TG:=λv σ H Q=> ∃d σd h Qd,RelD K H d v/\RelS K H σd σ/\RelH K h H/\g d σd h Qd/\ ∀σd' h' σ' H',Kept H H'->RelS K H' σd' σ'->RelH K h' H'->Qd σd' h'->Q σ' H'
def LS (K:PySem.W.Frag)(t:TSD):TS:=λD₀ σ H=> ∃σd h Dd,RelS K H σd σ/\RelH K h H/\t Dd σd h/\
 (∀σd' h' σ' H',Kept H H'->RelS K H' σd' σ'->RelH K h' H'->Dd.nx σd' h'->D₀.nx σ' H')/\Ts K H Dd.rt D₀.rt/\
 (∀σd' h' σ' H',Kept H H'->RelS K H' σd' σ'->RelH K h' H'->Dd.bk σd' h'->D₀.bk σ' H')/\(∀σd' h' σ' H',Kept H H'->RelS K H' σd' σ'->RelH K h' H'->Dd.ct σd' h'->D₀.ct σ' H')
theorem PE.imp {X:Cx}{e:Expr}{t t':TE}(h:PE X e t)(i: ∀σ H Q,t' σ H Q->t σ H Q):PE X e t':=λpins s σ H Q I q=>h pins s σ H Q I (i σ H Q q)
theorem PT.imp {X:Cx}{e:Expr}{t t':TT}(h:PT X e t)(i: ∀σ H Q,t' σ H Q->t σ H Q):PT X e t':=λpins s σ H Q I q=>h pins s σ H Q I (i σ H Q q)
theorem PW.imp {X:Cx}{e:Expr}{t t':TT}(h:PW X e t)(i: ∀σ H Q,t' σ H Q->t σ H Q):PW X e t':=λwh pins s σ H Q I q=>h wh pins s σ H Q I (i σ H Q q)
theorem PA.imp {X:Cx}{e:List Expr}{t t':TA}(h:PA X e t)(i: ∀σ H Q,t' σ H Q->t σ H Q):PA X e t':=λpos pins s σ H Q I q=>h pos pins s σ H Q I (i σ H Q q)
theorem PS.imp {X:Cx}{e:Stmt}{t t':TS}(h:PS X e t)(i: ∀D σ H,t' D σ H->t D σ H):PS X e t':=λpins s σ H D I q=>h pins s σ H D I (i D σ H q)
theorem PSs.imp {X:Cx}{e:List Stmt}{t t':TS}(h:PSs X e t)(i: ∀D σ H,t' D σ H->t D σ H):PSs X e t':=λpins s σ H D I q=>h pins s σ H D I (i D σ H q)
theorem PG.imp {X:Cx}{e:Expr}{t t':TG}(h:PG X e t)(i: ∀v σ H Q,t' v σ H Q->t v σ H Q):PG X e t':=λpins s σ H v u Q I r q=>h pins s σ H v u Q I r (i v σ H Q q)
theorem OpR.imp {X:Cx}{f:Value->Value->Sem Value}{r r':R2}(h:OpR X f r)(i: ∀x y H Q,r' x y H Q->r x y H Q):OpR X f r':=λpins s σ H x y v u Q I a b q=>h pins s σ H x y v u Q I a b (i x y H Q q)
theorem CallR.imp {X:Cx}{f:Value}{r r':List V->Hp->VK->Prop}(h:CallR X f r)(i: ∀xs H Q,r' xs H Q->r xs H Q):CallR X f r':=λpins s σ H xs us Q I a q=>h pins s σ H xs us Q I a (i xs H Q q)
def Fc (i:Nat):TED:=λσ h Q=> ∃d,σ[i]? =some (some d)/\Q d h
def dC (d:D):TED:=λ_ h Q=>Q d h
def dOp (f:RD2)(ta tb:TED):TED:=λσ h Q=>ta σ h λx h1=>tb σ h1 λy h2=>f x y h2 Q
def VP:TAD:=λ_ h Q=>Q [] h
def yf (ta:TED)(tr:TAD):TAD:=λσ h Q=>ta σ h λx h1=>tr σ h1 λxs h2=>Q (x::xs) h2
def xk (t:TAD):TED:=λσ h Q=>t σ h λds h1=>ds.length<=sizeLine/\Q (.tup ds) h1
def HG (t:TAD):TED:=λσ h Q=>t σ h λds h1=>ds.length<=sizeLine/\ ∀p,h1 p=none->Q (.lst p) (yL h1 p ds)
def dCB (r:RDn)(t:TAD):TED:=λσ h Q=>t σ h λds h1=>r ds h1 Q
def VQ (t:TED):TTD:=λσ h Q=>t σ h λx h1=> ∃k,x= .bl k/\Q k h1
def VR (r r':RD2)(ta tb tc:TED):TED:=λσ h Q=>ta σ h λx h1=>tb σ h1 λy h2=>r x y h2 λz h3=> ∃k,z= .bl k/\
 (if k=true then tc σ h3 λw h4=>r' y w h4 Q else Q (.bl false) h3)
def HH (t u:TTD):TTD:=λσ h Q=>t σ h λc h1=>if c=true then u σ h1 Q else Q false h1
def xn (t u:TTD):TTD:=λσ h Q=>t σ h λc h1=>if c=true then Q true h1 else u σ h1 Q
def FO (t:TTD):TTD:=λσ h Q=>t σ h λc h1=>Q (!c) h1
def FP (ta tb:TED):TED:=λσ h Q=>ta σ h λx h1=> ∃c,x= .bl c/\if c=true then tb σ h1 Q else Q (.bl false) h1
def ja8 (ta tb:TED):TED:=λσ h Q=>ta σ h λx h1=> ∃c,x= .bl c/\if c=true then Q (.bl true) h1 else tb σ h1 Q
def FQ (ta:TED):TED:=λσ h Q=>ta σ h λx h1=> ∃c,x= .bl c/\Q (.bl (!c)) h1
def dIf (t:TTD)(ta tb:TED):TED:=λσ h Q=>t σ h λc h1=>if c=true then ta σ h1 Q else tb σ h1 Q
section
variable {K:PySem.W.Frag}
theorem xo (i:Nat): ∀σ H Q,LE K (Fc i) σ H Q->jb4 i σ H Q:=λσ H Q ⟨σd,h,Qd,rs,rh,⟨d,e,q⟩,p⟩=>let ⟨v,e1,e2⟩:=rs.2 i d e;⟨v,e1,p d v h H (.refl H) rh e2 q⟩
theorem xp {d:D}{v:V}(r: ∀H,RelD K H d v): ∀σ H Q,LE K (dC d) σ H Q->tC v σ H Q:=λσ H Q ⟨σd,h,Qd,rs,rh,q,p⟩=>p d v h H (.refl H) rh (r H) q
variable {H:Hp}
theorem jJ {H1:Hp}{Qd:KD}{Q:VK}(p:Ts K H Qd Q)(k:Kept H H1):Ts K H1 Qd Q:=λd v h' H' k'=>p d v h' H' (k.trans k')
variable {ta:TED}
theorem LE.bind {σ:St}{σd:SD}{h:HD}{kd:KD}{k:VK}(rs:RelS K H σd σ)(rh:RelH K h H)(t:ta σd h kd)(f: ∀d v h' H',Kept H H'->RelS K H' σd σ->RelH K h' H'->RelD K H' d v->kd d h'->k v H'):LE K ta σ H k:=
 ⟨σd,h,kd,rs,rh,t,λd v h' H' kp r1 r2 q=>f d v h' H' kp (rs.mono kp) r1 r2 q⟩
theorem LT.bind {ta:TTD}{σ:St}{σd:SD}{h:HD}{kd:Bool->HD->Prop}{k:Bool->Hp->Prop}(rs:RelS K H σd σ)(rh:RelH K h H)(t:ta σd h kd)(f: ∀b h' H',Kept H H'->RelS K H' σd σ->RelH K h' H'->kd b h'->k b H'):LT K ta σ H k:=
 ⟨σd,h,kd,rs,rh,t,λb h' H' kp r1 q=>f b h' H' kp (rs.mono kp) r1 q⟩
theorem LA.bind {ta:TAD}{σ:St}{σd:SD}{h:HD}{kd:List D->HD->Prop}{k:List V->Hp->Prop}(rs:RelS K H σd σ)(rh:RelH K h H)(t:ta σd h kd)(f: ∀ds vs h' H',Kept H H'->RelS K H' σd σ->RelH K h' H'->RelDs K H' ds vs->kd ds h'->k vs H'):LA K ta σ H k:=
 ⟨σd,h,kd,rs,rh,t,λd v h' H' kp r1 r2 q=>f d v h' H' kp (rs.mono kp) r1 r2 q⟩
variable {tb:TED}
theorem HI {f:RD2}: ∀σ H Q,LE K (dOp f ta tb) σ H Q->tOp (LR K f) (LE K ta) (LE K tb) σ H Q:=λσ H Q ⟨σd,h,Qd,rs,rh,t,p⟩=>
 LE.bind rs rh t λd v h1 H1 k1 rs1 rh1 r1 t1=>LE.bind rs1 rh1 t1 λd2 v2 h2 H2 k2 rs2 rh2 r2 t2=>⟨d,d2,h2,Qd,r1.mono k2,r2,rh2,t2,jJ p (k1.trans k2)⟩
theorem xq: ∀σ H Q,LA K VP σ H Q->jaV σ H Q:=λσ H Q ⟨σd,h,Qd,rs,rh,t,p⟩=>p [] [] h H (.refl H) rh rfl t
theorem HJ {tr:TAD}: ∀σ H Q,LA K (yf ta tr) σ H Q->En (LE K ta) (LA K tr) σ H Q:=λσ H Q ⟨σd,h,Qd,rs,rh,t,p⟩=>
 LE.bind rs rh t λd v h1 H1 k1 rs1 rh1 r1 t1=>LA.bind rs1 rh1 t1 λds vs h2 H2 k2 rs2 rh2 r2 t2=>p _ _ h2 H2 (k1.trans k2) rh2 (.cons (r1.mono k2) r2) t2
theorem xr {t:TAD}: ∀σ H Q,LE K (xk t) σ H Q->jcj (LA K t) σ H Q:=λσ H Q ⟨σd,h,Qd,rs,rh,t,p⟩=>
 LA.bind rs rh t λds vs h1 H1 k1 rs1 rh1 r1 ⟨z,q⟩=>⟨by rw [<-r1.length];exact z,λa ha=>p (.tup ds) (.ref a) h1 _ (k1.trans (.new ha)) (rh1.new ha) ⟨a,vs,rfl,jt,r1.mono (.new ha)⟩ q⟩
theorem xt {t:TAD}: ∀σ H Q,LE K (HG t) σ H Q->jck (LA K t) σ H Q:=λσ H Q ⟨σd,h,Qd,rs,rh,t,p⟩=>
 LA.bind rs rh t λds vs h1 H1 k1 rs1 rh1 r1 ⟨z,q⟩=>⟨by rw [<-r1.length];exact z,λa ha=>p (.lst a) (.ref a) _ _ (k1.trans (.new ha)) (rh1.newL ha r1) ⟨rfl,vs,jt⟩ (q a (rh1.free ha))⟩
theorem xu {r:RDn}{t:TAD}: ∀σ H Q,LE K (dCB r t) σ H Q->tCB (LC K r) (LA K t) σ H Q:=λσ H Q ⟨σd,h,Qd,rs,rh,t,p⟩=>
 LA.bind rs rh t λds vs h1 H1 k1 rs1 rh1 r1 q=>⟨ds,h1,Qd,r1,rh1,q,jJ p k1⟩
theorem FR {t:TED}: ∀σ H Q,LT K (VQ t) σ H Q->Hk (LE K t) σ H Q:=λσ H Q ⟨σd,h,Qd,rs,rh,t,p⟩=>
 LE.bind rs rh t λd v h1 H1 k1 rs1 rh1 r1 ⟨k,e,q⟩=>by subst e;exact⟨k,r1,p k h1 H1 k1 rh1 q⟩
theorem Ev {t:TED}: ∀σ H Q,LT K (VQ t) σ H Q->tB (LE K t) σ H Q:=λσ H Q ⟨σd,h,Qd,rs,rh,t,p⟩=>
 LE.bind rs rh t λd v h1 H1 k1 rs1 rh1 r1 ⟨k,e,q⟩=>by subst e;exact⟨k,r1,p k h1 H1 k1 rh1 q⟩
theorem NY {r r':RD2}{tc:TED}: ∀σ H Q,LE K (VR r r' ta tb tc) σ H Q->FB (LR K r) (LR K r') (LE K ta) (LE K tb) (LE K tc) σ H Q:=λσ H Q ⟨σd,h,Qd,rs,rh,t,p⟩=>
 LE.bind rs rh t λd v h1 H1 k1 rs1 rh1 r1 t1=>LE.bind rs1 rh1 t1 λd2 v2 h2 H2 k2 rs2 rh2 r2 t2=>⟨d,d2,h2,_,r1.mono k2,r2,rh2,t2,λd3 v3 h3 H3 k3 rh3 r3 ⟨k,e,q⟩=>by
  subst e;refine⟨k,r3,?_⟩;cases k with
  |true=>
   rw [if_pos rfl] at q ⊢;exact LE.bind (rs2.mono k3) rh3 q λd4 v4 h4 H4 k4 rs4 rh4 r4 t4=>⟨d2,d4,h4,Qd,(r2.mono k3).mono k4,r4,rh4,t4,jJ p (k1.trans (k2.trans (k3.trans k4)))⟩
  |false=>
   rw [if_neg P6] at q ⊢;exact p (.bl false) _ h3 H3 (k1.trans (k2.trans k3)) rh3 rfl q⟩
variable {t:TTD}
theorem xv {u:TTD}: ∀σ H Q,LT K (HH t u) σ H Q->jb5 (LT K t) (LT K u) σ H Q:=λσ H Q ⟨σd,h,Qd,rs,rh,t,p⟩=>
 LT.bind rs rh t λb h1 H1 k1 rs1 rh1 q=>by
  cases b with
  |true=>rw [if_pos rfl] at q ⊢;exact⟨σd,h1,Qd,rs1,rh1,q,λb h' H' k=>p b h' H' (k1.trans k)⟩
  |false=>rw [if_neg P6] at q ⊢;exact p _ _ _ k1 rh1 q
theorem ja9 {u:TTD}: ∀σ H Q,LT K (xn t u) σ H Q->tOr (LT K t) (LT K u) σ H Q:=λσ H Q ⟨σd,h,Qd,rs,rh,t,p⟩=>
 LT.bind rs rh t λb h1 H1 k1 rs1 rh1 q=>by
  cases b with
  |true=>rw [if_pos rfl] at q ⊢;exact p _ _ _ k1 rh1 q
  |false=>rw [if_neg P6] at q ⊢;exact⟨σd,h1,Qd,rs1,rh1,q,λb h' H' k=>p b h' H' (k1.trans k)⟩
theorem xw: ∀σ H Q,LT K (FO t) σ H Q->jb6 (LT K t) σ H Q:=λσ H Q ⟨σd,h,Qd,rs,rh,t,p⟩=>
 LT.bind rs rh t λb h1 H1 k1 rs1 rh1 q=>p _ _ _ k1 rh1 q
theorem xx: ∀σ H Q,LE K (FP ta tb) σ H Q->ul (LE K ta) (LE K tb) σ H Q:=λσ H Q ⟨σd,h,Qd,rs,rh,t,p⟩=>
 LE.bind rs rh t λd v h1 H1 k1 rs1 rh1 r1 ⟨c,e,q⟩=>by
  subst e;refine⟨c,r1,?_⟩;cases c with
  |true=>rw [if_pos rfl] at q ⊢;exact⟨σd,h1,Qd,rs1,rh1,q,jJ p k1⟩
  |false=>rw [if_neg P6] at q ⊢;exact p (.bl false) _ _ _ k1 rh1 rfl q
theorem jba: ∀σ H Q,LE K (ja8 ta tb) σ H Q->jb7 (LE K ta) (LE K tb) σ H Q:=λσ H Q ⟨σd,h,Qd,rs,rh,t,p⟩=>
 LE.bind rs rh t λd v h1 H1 k1 rs1 rh1 r1 ⟨c,e,q⟩=>by
  subst e;refine⟨c,r1,?_⟩;cases c with
  |true=>rw [if_pos rfl] at q ⊢;exact p (.bl true) _ _ _ k1 rh1 rfl q
  |false=>rw [if_neg P6] at q ⊢;exact⟨σd,h1,Qd,rs1,rh1,q,jJ p k1⟩
theorem xA: ∀σ H Q,LE K (FQ ta) σ H Q->um (LE K ta) σ H Q:=λσ H Q ⟨σd,h,Qd,rs,rh,t,p⟩=>
 LE.bind rs rh t λd v h1 H1 k1 rs1 rh1 r1 ⟨c,e,q⟩=>by subst e;exact⟨c,r1,p (.bl (!c)) _ _ _ k1 rh1 rfl q⟩
theorem jbb: ∀σ H Q,LE K (dIf t ta tb) σ H Q->tIf (LT K t) (LE K ta) (LE K tb) σ H Q:=λσ H Q ⟨σd,h,Qd,rs,rh,t,p⟩=>
 LT.bind rs rh t λb h1 H1 k1 rs1 rh1 q=>by
  cases b with
  |true=>rw [if_pos rfl] at q ⊢;exact⟨σd,h1,Qd,rs1,rh1,q,jJ p k1⟩
  |false=>rw [if_neg P6] at q ⊢;exact⟨σd,h1,Qd,rs1,rh1,q,jJ p k1⟩
end
abbrev QE (X:Cx)(e:Expr)(t:TED):Prop:=PE X e (LE X.K t)
abbrev QT (X:Cx)(e:Expr)(t:TTD):Prop:=PT X e (LT X.K t)
abbrev QW (X:Cx)(e:Expr)(t:TTD):Prop:=PW X e (LT X.K t)
abbrev QA (X:Cx)(es:List Expr)(t:TAD):Prop:=PA X es (LA X.K t)
abbrev QS (X:Cx)(s:Stmt)(t:TSD):Prop:=PS X s (LS X.K t)
abbrev QSs (X:Cx)(s:List Stmt)(t:TSD):Prop:=PSs X s (LS X.K t)
abbrev QG (X:Cx)(e:Expr)(t:TGD):Prop:=PG X e (LG X.K t)
abbrev OpQ (X:Cx)(f:Value->Value->Sem Value)(r:RD2):Prop:=OpR X f (LR X.K r)
abbrev Ja (X:Cx)(f:Value)(r:RDn):Prop:=CallR X f (LC X.K r)
section
variable {X:Cx}{a b c e:Expr}{es rest:List Expr}{ta tb tc te:TED}{t u:TAD}{tt tu:TTD}{pos:Pos}{f r r':RD2}
theorem qv (i:Nat){x:Str}(hN:X.N[i]? =some x:=by rfl)(hv:Vis X.env.scope x:=by first|exact Or.inl rfl|exact Or.inr (Or.inl rfl)|exact Or.inr (Or.inr rfl))(hd:(x==("__debug__" :Str))=false:=by decide)
 (hcd:(x==("__classdict__" :Str))=false:=by decide):QE X (.Name x pos) (Fc i):=(uf hN hv hd hcd).imp (xo i)
variable {j:Nat}
theorem jcP {i:Int}:QE X (.Constant (.int i) j pos) (dC (.int i)):=pe_int.imp (xp λ_=>rfl)
theorem qbl {i:Bool}:QE X (.Constant (.bool i) j pos) (dC (.bl i)):=pe_bl.imp (xp λ_=>rfl)
theorem jcQ:QE X (.Constant .none j pos) (dC .non):=pe_non.imp (xp λ_=>rfl)
theorem jcR {x:Str}:QE X (.Constant (.str x) j pos) (dC (.str x)):=pe_str.imp (xp λ_=>rfl)
theorem jbc {x:Str}{i:Int}{tk:Tok}(hg:Gl X x)(hm:X.mg x=some (.int i tk))(hd:(x==("__debug__" :Str))=false:=by decide):QE X (.Name x pos) (dC (.int i)):=
 (Ft (v:= .int i) hg hm ⟨tk,rfl⟩ hd).imp (xp λ_=>rfl)
theorem qop {op:Operator}(ho:OpQ X (binaryOp op) f)(ha:QE X a ta)(hb:QE X b tb):QE X (.BinOp a op b pos) (dOp f ta tb):=(jaP ho ha hb).imp HI
variable {op:CmpOp}
theorem jcS (ho:OpQ X (compareOp op) f)(ha:QE X a ta)(hb:QE X b tb)(hm:behindInMarks op b=false):QE X (.Compare a [op] [b] pos) (dOp f ta tb):=(Hj ho ha hb hm).imp HI
theorem jbd (ho:OpQ X (compareOp op) f)(ha:QE X a ta)(hb:QE X b tb)(hm:behindInMarks op b=false):QT X (.Compare a [op] [b] pos) (VQ (dOp f ta tb)):=
 (Hl ho ha hb hm).imp λσ H Q h=>by
  obtain⟨σd,h,Qd,rs,rh,t,p⟩:=FR (t:=dOp f ta tb) σ H Q h;exact HI σ H _ ⟨σd,h,Qd,rs,rh,t,p⟩
theorem xB {op':CmpOp}(ho:OpQ X (compareOp op) r)(ho':OpQ X (compareOp op') r')(ha:QE X a ta)(hb:QE X b tb)(hc:QE X c tc)(hm:lastMarks [op,op'] [b,c]=false:=by with_unfolding_all rfl):
 QE X (.Compare a [op,op'] [b,c] pos) (VR r r' ta tb tc):=(Ek ho ho' ha hb hc hm).imp NY
theorem HK {op':CmpOp}(ho:OpQ X (compareOp op) r)(ho':OpQ X (compareOp op') r')(ha:QE X a ta)(hb:QE X b tb)(hc:QE X c tc)(hm:lastMarks [op,op'] [b,c]=false:=by with_unfolding_all rfl):
 QT X (.Compare a [op,op'] [b,c] pos) (VQ (VR r r' ta tb tc)):=(El ho ho' ha hb hc hm).imp λσ H Q h=>by
 obtain⟨σd,h,Qd,rs,rh,t,p⟩:=FR (t:=VR r r' ta tb tc) σ H Q h;exact NY σ H _ ⟨σd,h,Qd,rs,rh,t,p⟩
theorem jbe (ha:QE X a ta)(he: ∀whole,isTrue a X.env whole=(do let v <-whole;standAt a.pos;holding [v] (truthy v)):=by intro _;rfl):QT X a (VQ ta):=(ug ha he).imp Ev
theorem jbf (ha:QT X a tt):QW X (.BoolOp .And [a] pos) tt:=Hd ha
theorem jcT (ha:QT X a tt):QW X (.BoolOp .Or [a] pos) tt:=uh ha
theorem jbg (ha:QT X a tt)(hb:QW X (.BoolOp .And (b::rest) pos) tu):QW X (.BoolOp .And (a::b::rest) pos) (HH tt tu):=(ui ha hb).imp xv
theorem jcU (ha:QT X a tt)(hb:QW X (.BoolOp .Or (b::rest) pos) tu):QW X (.BoolOp .Or (a::b::rest) pos) (xn tt tu):=(jaK ha hb).imp ja9
theorem jbh (ha:QT X a tt):QT X (.UnaryOp .Not a pos) (FO tt):=(uj ha).imp xw
theorem jcV {op:BoolOp}(ha:QE X a ta):QE X (.BoolOp op [a] pos) ta:=uo ha
theorem jcW (ha:QE X a ta)(hb:QE X (.BoolOp .And (b::rest) pos) tb):QE X (.BoolOp .And (a::b::rest) pos) (FP ta tb):=(uq ha hb).imp xx
theorem qor (ha:QE X a ta)(hb:QE X (.BoolOp .Or (b::rest) pos) tb):QE X (.BoolOp .Or (a::b::rest) pos) (ja8 ta tb):=(jaL ha hb).imp jba
theorem jcX (ha:QE X a ta):QE X (.UnaryOp .Not a pos) (FQ ta):=(ur ha).imp xA
theorem qif {c:Expr}(hc:QT X c tt)(ha:QE X a ta)(hb:QE X b tb):QE X (.IfExp c a b pos) (dIf tt ta tb):=(Eg hc ha hb).imp jbb
theorem Tt:QA X [] VP:=pa_nil.imp xq
theorem FS (ha:QE X e te)(hr:QA X es t)(hs:starEach (e::es) X.env=(false,eval e X.env)::starEach es X.env:=by rfl):QA X (e::es) (yf te t):=(yC ha hr hs).imp HJ
theorem jcY {k:Nat}(h:QA X es t):QE X (.Tuple es k pos) (xk t):=(uP h).imp xr
theorem jcZ (h:QA X es t):QE X (.List es pos) (HG t):=(uQ h).imp xt
end
def BW:TSD:=λD σ h=>D.nx σ h
def FT (t u:TSD):TSD:=λD σ h=>t {D with nx:=u D} σ h
def HL (te:TED):TSD:=λD σ h=>te σ h λ_ h1=>D.nx σ h1
def Fd (te:TED):TSD:=λD σ h=>te σ h D.rt
def kL (c:TTD)(t u:TSD):TSD:=λD σ h=>c σ h λb h1=>if b=true then t D σ h1 else u D σ h1
def HM (i:Nat)(te:TED):TSD:=λD σ h=>te σ h λd h1=>D.nx (σ.set i (some d)) h1
def jbi (te:TED)(g:TGD):TSD:=λD σ h=>te σ h λx h1=>g x σ h1 D.nx
def jbj (i j:Nat)(ta:TAD):TSD:=λD σ h=>ta σ h λds h1=> ∃v w,ds= [v,w]/\D.nx ((σ.set i (some v)).set j (some w)) h1
def gN (i:Nat):TGD:=λd σ h Q=>Q (σ.set i (some d)) h
def gT2 (i j:Nat):TGD:=λd σ h Q=> ∃x y,d= .tup [x,y]/\Q ((σ.set i (some x)).set j (some y)) h
section
variable {K:PySem.W.Frag}
theorem LS.of {t:TSD}{D₀:Ends}{σ:St}{H:Hp}{σd:SD}{h:HD}{Dd:EndsD}(rs:RelS K H σd σ)(rh:RelH K h H)(q:t Dd σd h)
 (nx: ∀σd' h' σ' H',Kept H H'->RelS K H' σd' σ'->RelH K h' H'->Dd.nx σd' h'->D₀.nx σ' H')(rt:Ts K H Dd.rt D₀.rt)
 (bk: ∀σd' h' σ' H',Kept H H'->RelS K H' σd' σ'->RelH K h' H'->Dd.bk σd' h'->D₀.bk σ' H')(ct: ∀σd' h' σ' H',Kept H H'->RelS K H' σd' σ'->RelH K h' H'->Dd.ct σd' h'->D₀.ct σ' H'):LS K t D₀ σ H:=⟨σd,h,Dd,rs,rh,q,nx,rt,bk,ct⟩
theorem HN: ∀D σ H,LS K BW D σ H->ut D σ H:=λD σ H ⟨σd,h,Dd,rs,rh,q,nx,_⟩=>nx σd h σ H (.refl H) rs rh q
theorem xC {t u:TSD}: ∀D σ H,LS K (FT t u) D σ H->jb8 (LS K t) (LS K u) D σ H:=λD σ H ⟨σd,h,Dd,rs,rh,q,nx,rt,bk,ct⟩=>
 LS.of rs rh q (λσd' h' σ' H' k rs' rh' q'=>⟨σd',h',Dd,rs',rh',q',λa b c d k'=>nx a b c d (k.trans k'),jJ rt k,λa b c d k'=>bk a b c d (k.trans k'),λa b c d k'=>ct a b c d (k.trans k')⟩) rt bk ct
variable {te:TED}
theorem HP: ∀D σ H,LS K (HL te) D σ H->uv (LE K te) D σ H:=λD σ H ⟨σd,h,Dd,rs,rh,q,nx,rt,bk,ct⟩=>
 LE.bind rs rh q λd v h1 H1 k1 rs1 rh1 r1 q1=>nx _ _ _ _ k1 rs1 rh1 q1
theorem xD: ∀D σ H,LS K (Fd te) D σ H->jb9 (LE K te) D σ H:=λD σ H ⟨σd,h,Dd,rs,rh,q,nx,rt,bk,ct⟩=>⟨σd,h,Dd.rt,rs,rh,q,rt⟩
theorem jbk {c:TTD}{t u:TSD}: ∀D σ H,LS K (kL c t u) D σ H->jca (LT K c) (LS K t) (LS K u) D σ H:=λD σ H ⟨σd,h,Dd,rs,rh,q,nx,rt,bk,ct⟩=>
 LT.bind rs rh q λb h1 H1 k rs1 rh1 q1=>by
  cases b with
  |true=>rw [if_pos rfl] at q1 ⊢;exact⟨σd,h1,Dd,rs1,rh1,q1,λa b c d k'=>nx a b c d (k.trans k'),jJ rt k,λa b c d k'=>bk a b c d (k.trans k'),λa b c d k'=>ct a b c d (k.trans k')⟩
  |false=>rw [if_neg P6] at q1 ⊢;exact⟨σd,h1,Dd,rs1,rh1,q1,λa b c d k'=>nx a b c d (k.trans k'),jJ rt k,λa b c d k'=>bk a b c d (k.trans k'),λa b c d k'=>ct a b c d (k.trans k')⟩
theorem xE {i:Nat}: ∀D σ H,LS K (HM i te) D σ H->jaz (LE K te) (vX i) D σ H:=λD σ H ⟨σd,h,Dd,rs,rh,q,nx,rt,bk,ct⟩=>
 LE.bind rs rh q λd v h1 H1 k1 rs1 rh1 r1 q1=>nx _ _ _ _ k1 (rs1.set r1 i) rh1 q1
theorem xF {g:TGD}: ∀D σ H,LS K (jbi te g) D σ H->jaz (LE K te) (LG K g) D σ H:=λD σ H ⟨σd,h,Dd,rs,rh,q,nx,rt,bk,ct⟩=>
 LE.bind rs rh q λd v h1 H1 k1 rs1 rh1 r1 q1=>⟨d,σd,h1,_,r1,rs1,rh1,q1,λa b c e k'=>nx a b c e (k1.trans k')⟩
theorem xG {i j:Nat}{ta:TAD}: ∀D σ H,LS K (jbj i j ta) D σ H->jcc i j (LA K ta) D σ H:=λD σ H ⟨σd,h,Dd,rs,rh,q,nx,rt,bk,ct⟩=>
 LA.bind rs rh q λds vs h1 H1 k1 rs1 rh1 r1 ⟨x,y,e,q1⟩=>by
  subst e;obtain⟨v,r,e,r2,r3⟩:=(show ∃v r,vs=v::r/\RelD K H1 x v/\RelDs K H1 [y] r from r1);obtain⟨w,r',e',r4,r5⟩:=(show ∃v r',r=v::r'/\RelD K H1 y v/\RelDs K H1 [] r' from r3);cases (show r'= [] from r5);subst e' e;exact⟨v,w,rfl,nx _ _ _ _ k1 ((rs1.set r2 i).set r4 j) rh1 q1⟩
theorem HQ (i:Nat): ∀v σ H Q,LG K (gN i) v σ H Q->vX i v σ H Q:=λv σ H Q ⟨d,σd,h,Qd,r,rs,rh,q,p⟩=>p _ _ _ _ (.refl H) (rs.set r i) rh q
theorem yD {H:Hp}{x y:D}{vs:List V}(r:RelDs K H [x,y] vs): ∃v w,vs= [v,w]/\RelD K H x v/\RelD K H y w:=by
 obtain⟨v,r1,e,r2,r3⟩:=(show ∃v r,vs=v::r/\RelD K H x v/\RelDs K H [y] r from r);obtain⟨w,z,e',r4,r5⟩:=(show ∃v z,r1=v::z/\RelD K H y v/\RelDs K H [] z from r3);cases (show z= [] from r5);subst e' e;exact⟨v,w,rfl,r2,r4⟩
theorem jC {H:Hp}{x:D}{vs:List V}(r:RelDs K H [x] vs): ∃v,vs= [v]/\RelD K H x v:=by
 obtain⟨v,r1,e,r2,r3⟩:=(show ∃v r,vs=v::r/\RelD K H x v/\RelDs K H [] r from r);cases (show r1= [] from r3);exact⟨v,e,r2⟩
theorem xH (i j:Nat): ∀v σ H Q,LG K (gT2 i j) v σ H Q->jay K 2 (Pw (vX i) (Pw (vX j) jax)) v σ H Q:=λv σ H Q ⟨d,σd,h,Qd,r,rs,rh,⟨x,y,e,q⟩,p⟩=>by
 subst e;obtain⟨a,vs,e,hH,r1⟩:=(show ∃a vs,v= .ref a/\H a=some (.tup vs)/\RelDs K H [x,y] vs from r);obtain⟨v1,v2,e1,r2,r3⟩:=yD r1;subst e e1;exact⟨a,[v1,v2],rfl,SqT.of hH,rfl,v1,[v2],rfl,v2,[],rfl,rfl,p _ _ _ _ (.refl H) ((rs.set r2 i).set r3 j) rh q⟩
end
section
variable {X:Cx}{st:Stmt}{sts:List Stmt}{t u:TSD}{e:Expr}{te:TED}{pos:Pos}
theorem xI:QSs X [] BW:=pss_nil.imp HN
theorem HR (h1:QS X st t)(h2:QSs X sts u):QSs X (st::sts) (FT t u):=(Eh h1 h2).imp xC
theorem xJ (h1:QS X st t):QSs X [st] t:=He h1
theorem jbm (he:QE X e te)(hs:swapsWith e none pos.line X.env=pure false:=by rfl):QS X (.Expr e pos) (HL te):=(Hf he hs).imp HP
theorem jc0 (he:QE X e te):QS X (.Return (some e) pos) (Fd te):=(uw he).imp xD
theorem jc1 {c:Expr}{a b:List Stmt}{tc:TTD}(hc:QT X c tc)(ha:QSs X a t)(hb:QSs X b u):QS X (.If c a b pos) (kL tc t u):=(jaM hc ha hb).imp jbk
variable {i:Nat}{x:Str}
theorem jc2 {pos':Pos}(hN:X.N.Nodup)(hi:X.N[i]? =some x)(hx:Loc X.env.scope x)(he:QE X e te)(hs:swapsWith e (some (.Name x pos')) pos.line X.env=pure false:=by rfl)
 (hf:X.fn x=true\/X.env.scope.names.lookup x=some .local:=by first|exact .inl rfl|exact .inr rfl|assumption):QS X (.Assign [.Name x pos'] e pos) (HM i te):=(uC hN hi hx he hs hf).imp xE
theorem HS (hN:X.N.Nodup)(hi:X.N[i]? =some x)(hx:Loc X.env.scope x)(hf:X.fn x=true\/X.env.scope.names.lookup x=some .local:=by first|exact .inl rfl|exact .inr rfl|assumption):QG X (.Name x pos) (gN i):=
 (vY hN hi hx hf).imp (HQ i)
theorem xK {j:Nat}{y:Str}{p1 p2:Pos}{k:Nat}(hc:X.calm=true)(hN:X.N.Nodup)(hi:X.N[i]? =some x)(hj:X.N[j]? =some y)(hx:Loc X.env.scope x)(hy:Loc X.env.scope y)
 (hf:X.fn x=true\/X.env.scope.names.lookup x=some .local:=by first|exact .inl rfl|exact .inr rfl|assumption)(hf2:X.fn y=true\/X.env.scope.names.lookup y=some .local:=by first|exact .inl rfl|exact .inr rfl|assumption):
 QG X (.Tuple [.Name x p1,.Name y p2] k pos) (gT2 i j):=(Fv hc (vk (vY hN hi hx hf) (vk (vY hN hj hy hf2) Mi))).imp (xH i j)
theorem jc3 {tg:Expr}{g:TGD}(he:QE X e te)(hg:QG X tg g)(hs:swapsWithSole [tg] e pos.line X.env=pure false:=by rfl)(hsw:swappedStores [tg] e X.env=pure none:=by rfl)
 (h1:(assignEach [tg] X.env).map (·.2)= [assign tg X.env]:=by rfl):QS X (.Assign [tg] e pos) (jbi te g):=(uB he hg hs hsw h1).imp xF
theorem jc4 {j:Nat}{y:Str}{a b:Expr}{ta:TAD}{px py pt:Pos}{kt k2 pt2}(hc:X.calm=true)(hN:X.N.Nodup)(hi:X.N[i]? =some x)(hj:X.N[j]? =some y)(hij:i≠j)
 (hx:X.env.scope.names.lookup x=some .local)(hy:X.env.scope.names.lookup y=some .local)(ha:QA X [a,b] ta)
 (hw:swappedStores [.Tuple [.Name x px,.Name y py] kt pt] (.Tuple [a,b] k2 pt2) X.env=pure (some [x,y]))
 (hs:swapsWithSole [.Tuple [.Name x px,.Name y py] kt pt] (.Tuple [a,b] k2 pt2) pos.line X.env=pure false:=by rfl):
 QS X (.Assign [.Tuple [.Name x px,.Name y py] kt pt] (.Tuple [a,b] k2 pt2) pos) (jbj i j ta):=(uD hc hN hi hj hij hx hy ha hw hs).imp xG
end
abbrev ItD:=HD->Option (List D)
def Ew (K:PySem.W.Frag)(H:Hp)(j:ItD)(J:It):Prop:= ∀H' h',Kept H H'->RelH K h' H'-> ∀ds,j h'=some ds-> ∀i:Nat,
 (∀d,ds[i]? =some d->J.go i H'/\ ∀x H'',J.yld i H' x H''->Kept H' H''/\RelH K h' H''/\RelD K H'' d x)/\(ds.length<=i->J.stop i H')
abbrev TID:=SD->HD->(ItD->HD->Prop)->Prop
def LI (K:PySem.W.Frag)(t:TID):TI:=λσ H R=> ∃σd h Rd,RelS K H σd σ/\RelH K h H/\t σd h Rd/\ ∀j J h' H',Kept H H'->RelH K h' H'->Ew K H' j J->Rd j h'->R J H'
abbrev QI (X:Cx)(tg iter:Expr)(t:TID):Prop:=PI X tg iter (LI X.K t)
theorem PI.imp {X:Cx}{tg e:Expr}{t t':TI}(h:PI X tg e t)(i: ∀σ H R,t' σ H R->t σ H R):PI X tg e t':=λpins s σ H R I q=>h pins s σ H R I (i σ H R q)
def iL (te:TED):TID:=λσ h R=>te σ h λx h1=> ∃a,x= .lst a/\R (λh=>h a) h1
def iR1 (ta:TAD):TID:=λσ h R=>ta σ h λds h1=> ∃n:Int,ds= [.int n]/\ -(2^62)<=n/\n<2^62/\R (λ_=>some ((List.range n.toNat).map λ(k:Nat)=>D.int (k:Int))) h1
def iR2 (ta:TAD):TID:=λσ h R=>ta σ h λds h1=> ∃m n:Int,ds= [.int m,.int n]/\(-(2^62)<=m/\m<2^62/\ -(2^62)<=n/\n<2^62)/\R (λ_=>some ((List.range (n-m).toNat).map λ(k:Nat)=>D.int (m+(k:Int)))) h1
section
variable {K:PySem.W.Frag}
theorem PN (H:Hp)(a:Addr):Ew K H (λh=>h a) (Itl K a):=λH' h' k rh ds e i=>by
 obtain⟨vs,hv,r⟩:=rh a ds e;refine⟨λd hd=> ?_,λhl=>⟨vs,SqL.of hv,by rw [<-r.length];exact hl⟩⟩;obtain⟨v,e1,e2⟩:=r.get hd;refine⟨⟨vs,v,SqL.of hv,e1⟩,λx H'' ⟨eH,hx⟩=> ?_⟩;subst eH;have:=hx vs (SqL.of hv);rw [e1] at this;cases this;exact⟨.refl _,rh,e2⟩
theorem Ey {H:Hp}{a:Addr}{vs:List V}{ds:List D}(hv:H a=some (.tup vs))(r:RelDs K H ds vs):Ew K H (λ_=>some ds) (Itt K a):=λH' h' k rh ds' e i=>by
 cases e;have hv':=k.tup _ _ hv;have r':=r.mono k;refine⟨λd hd=> ?_,λhl=>⟨vs,SqT.of hv',by rw [<-r.length];exact hl⟩⟩;obtain⟨v,e1,e2⟩:=r'.get hd;refine⟨⟨vs,v,SqT.of hv',e1⟩,λx H'' ⟨eH,hx⟩=> ?_⟩;subst eH;have:=hx vs (SqT.of hv');rw [e1] at this;cases this;exact⟨.refl _,rh,e2⟩
theorem XF (H:Hp)(lo:Int)(n:Nat)(ds:List D)(hd:ds=(List.range n).map λ(k:Nat)=>D.int (lo+(k:Int))):Ew K H (λ_=>some ds) (Itr lo n):=λH' h' k rh ds' e i=>by
 cases e;subst hd;refine⟨λd hd=> ?_,λhl=>(show n<=i by simpa using hl)⟩;rw [P1] at hd;have hi:i<n:=by
  by_cases z:i<n
  ·exact z
  ·rw [B7 (by simpa using z)] at hd;cases hd
 rw [M6 hi] at hd;cases hd;refine⟨hi,λx H'' ⟨eH,hx⟩=> ?_⟩;subst eH hx;exact⟨.refl _,rh,rfl⟩
theorem HU {te:TED}: ∀σ H R,LI K (iL te) σ H R->uG K (LE K te) σ H R:=λσ H R ⟨σd,h,Rd,rs,rh,q,p⟩=>
 LE.bind rs rh q λd v h1 H1 k1 rs1 rh1 r1 ⟨a,e,q1⟩=>by
  subst e;obtain⟨e,vs,hv⟩:=(show v= .ref a/\ ∃vs,H1 a=some (.lst vs) from r1);exact⟨a,e,⟨vs,SqL.of hv⟩,p _ _ _ _ k1 rh1 (PN H1 a) q1⟩
theorem jbn {ta:TAD}: ∀σ H R,LI K (iR1 ta) σ H R->uH (LA K ta) σ H R:=λσ H R ⟨σd,h,Rd,rs,rh,q,p⟩=>
 LA.bind rs rh q λds vs h1 H1 k1 rs1 rh1 r1 ⟨n,e,b1,b2,q1⟩=>by
  subst e;obtain⟨v,e,r2⟩:=jC r1;cases (show v= .int n from r2);exact⟨n,e,b1,b2,p _ _ _ _ k1 rh1 (XF H1 0 n.toNat _ (by simp)) q1⟩
theorem jbo {ta:TAD}: ∀σ H R,LI K (iR2 ta) σ H R->uI (LA K ta) σ H R:=λσ H R ⟨σd,h,Rd,rs,rh,q,p⟩=>
 LA.bind rs rh q λds vs h1 H1 k1 rs1 rh1 r1 ⟨m,n,e,b,q1⟩=>by
  subst e;obtain⟨v,w,e,r2,r3⟩:=yD r1;cases (show v= .int m from r2);cases (show w= .int n from r3);exact⟨m,n,e,b,p _ _ _ _ k1 rh1 (XF H1 m (n-m).toNat _ rfl) q1⟩
end
def kM (ti:TID)(g:TGD)(tb:TSD):TSD:=λD σ h=>ti σ h λj h1=> ∃ (n:Nat) (W:Nat->SD->HD->Prop),W 0 σ h1/\ ∀i σ' h',W i σ' h'-> ∃ds,j h'=some ds/\ds.length<=n/\(ds.length<=i->D.nx σ' h')/\
 ∀d,ds[i]? =some d->g d σ' h' λσ2 h2=>tb {D with nx:=λσ3 h3=> ∃h4,Sub h4 h3/\W (i+1) σ3 h4,ct:=λσ3 h3=> ∃h4,Sub h4 h3/\W (i+1) σ3 h4,bk:=D.nx} σ2 h2
theorem xL {K:PySem.W.Frag}{ti:TID}{g:TGD}{tb:TSD}: ∀D σ H,LS K (kM ti g tb) D σ H->jce (LI K ti) (LG K g) (LS K tb) D σ H:=λD σ H ⟨σd,h,Dd,rs,rh,q,nx,rt,bk,ct⟩=>by
 refine⟨σd,h,_,rs,rh,q,λj J h1 H1 k1 rh1 jo ⟨n,W,w0,turn⟩=> ?_⟩;refine⟨λi m σ' H'=>m=n-i/\Kept H1 H'/\ ∃σd' h',RelS K H' σd' σ'/\RelH K h' H'/\W i σd' h',⟨n-0,rfl,.refl _,σd,h1,rs.mono k1,rh1,w0⟩,?_⟩;rintro i m σ' H' ⟨rfl,kp,σd',h',rs',rh',w⟩;obtain⟨ds,ej,hn,stop,go⟩:=turn i σd' h' w;have jo':=jo H' h' kp rh' ds ej i
 by_cases hi:i<ds.length
 ·obtain⟨g1,y1⟩:=jo'.1 ds[i] (G0 hi);refine .inr ⟨g1,λσ2 H2=>Kept H1 H2/\ ∃σd2 h2,RelS K H2 σd2 σ2/\RelH K h2 H2/\W (i+1) σd2 h2,λσ2 H2 ⟨k2,a,b,c,d,e⟩=>⟨n-(i+1),by omega,rfl,k2,a,b,c,d,e⟩,λx H'' y=> ?_⟩;obtain⟨k2,rh2,r2⟩:=y1 x H'' y;refine⟨ds[i],σd',h',_,r2,rs'.mono k2,rh2,go ds[i] (G0 hi),λσd3 h3 σ3 H3 k3 rs3 rh3 q3=> ?_⟩;have kk:Kept H H3:=k1.trans (kp.trans (k2.trans k3));have kk1:Kept H1 H3:=kp.trans (k2.trans k3);exact⟨σd3,h3,_,rs3,rh3,q3,λa b c d k4 rs4 rh4 ⟨h4,sb,w4⟩=>⟨kk1.trans k4,a,h4,rs4,rh4.sub sb,w4⟩,jJ rt kk,λa b c d k4 rs4 rh4 q4=>nx a b c d (kk.trans k4) rs4 rh4 q4,λa b c d k4 rs4 rh4 ⟨h4,sb,w4⟩=>⟨kk1.trans k4,a,h4,rs4,rh4.sub sb,w4⟩⟩
 ·exact .inl ⟨jo'.2 (X0.mp hi),nx _ _ _ _ (k1.trans kp) rs' rh' (stop (X0.mp hi))⟩
def Wg:TTD:=λ_ h Q=>Q true h
def Yg (bind:D->SD->SD->Prop)(js:List Nat)(ti:TID)(tt:TTD)(te:TED):TED:=λσ h Q=>ti σ h λj h1=> ∃ (n:Nat) (W:Nat->List D->HD->Prop),W 0 [] h1/\ ∀i ys h',W i ys h'->ys.length<=sizeLine/\
 ∃ds,j h'=some ds/\ds.length<=n/\(ds.length<=i-> ∀p,h' p=none->Q (.lst p) (yL h' p ys))/\
  ∀d,ds[i]? =some d-> ∃σ2,bind d (za js σ) σ2/\tt σ2 h' λb h3=>if b=true then te σ2 h3 λy h4=> ∃h5,Sub h5 h4/\W (i+1) (ys++ [y]) h5 else ∃h5,Sub h5 h3/\W (i+1) ys h5
def bN (i:Nat):D->SD->SD->Prop:=λd σ σ2=>σ2=σ.set i (some d)
def b2 (i j:Nat):D->SD->SD->Prop:=λd σ σ2=> ∃x y,d= .tup [x,y]/\σ2=(σ.set i (some x)).set j (some y)
theorem xM {K:PySem.W.Frag}: ∀σ H Q,LT K Wg σ H Q->jco σ H Q:=λσ H Q ⟨σd,h,Qd,rs,rh,q,p⟩=>p true h H (.refl H) rh q
def FU (K:PySem.W.Frag)(js:List Nat)(bind:D->SD->SD->Prop)(g:TG):Prop:= ∀ (σ:St) (σd σd2:SD) (H:Hp) (d:D) (v:V) (Q:St->Hp->Prop),RelS K H (za js σd) (ym js σ)->RelD K H d v->bind d (za js σd) σd2->
 (∀σ2,Agree (ym js σ) σ2->RelS K H σd2 σ2->Q σ2 H)->g v (ym js σ) H Q
theorem jbp {K:PySem.W.Frag}{js:List Nat}{i:Nat}(hi:i∈js):FU K js (bN i) (vX i):=λσ σd σd2 H d v Q rs r b q=>by
 cases (show σd2=_ from b);exact q _ (.set v λu=>wz js σ i u hi) (rs.set r i)
theorem jbq {K:PySem.W.Frag}{js:List Nat}{i j:Nat}(hi:i∈js)(hj:j∈js)(hij:i≠j):FU K js (b2 i j) (jay K 2 (Pw (vX i) (Pw (vX j) jax))):=λσ σd σd2 H d v Q rs r b q=>by
 obtain⟨x,y,e,e2⟩:=b;subst e e2;obtain⟨a,vs,e,hH,r1⟩:=(show ∃a vs,v= .ref a/\H a=some (.tup vs)/\RelDs K H [x,y] vs from r);obtain⟨v1,v2,e1,r2,r3⟩:=yD r1;subst e e1;refine⟨a,[v1,v2],rfl,SqT.of hH,rfl,v1,[v2],rfl,v2,[],rfl,rfl,q _ (.trans (.set v1 λu=>wz js σ i u hi) (.set v2 λu z=> ?_)) ((rs.set r2 i).set r3 j)⟩;rw [B3 hij] at z;exact wz js σ j u hj z
theorem xN {K:PySem.W.Frag}{bind:D->SD->SD->Prop}{js:List Nat}{ti:TID}{tt:TTD}{te:TED}{g:TG}(hb:FU K js bind g): ∀σ H Q,LE K (Yg bind js ti tt te) σ H Q->tLC js (LI K ti) g (LT K tt) (LE K te) σ H Q:=
 λσ H Q ⟨σd,h,Qd,rs,rh,q,p⟩=>by
  refine⟨σd,h,_,rs,rh,q,λj J h1 H1 k1 rh1 jo ⟨n,W,w0,turn⟩=> ?_⟩;refine⟨λi m ys H'=>m=n-i/\Kept H1 H'/\ ∃ds h',RelDs K H' ds ys/\RelH K h' H'/\W i ds h',⟨n-0,rfl,.refl _,[],h1,rfl,rh1,w0⟩,?_⟩;rintro i m ys H' ⟨rfl,kp,yd,h',ry,rh',w⟩;obtain⟨hz,ds,ej,hn,stop,go⟩:=turn i yd h' w;refine⟨by rw [<-ry.length];exact hz,?_⟩;have jo':=jo H' h' kp rh' ds ej i;have kk:Kept H H':=k1.trans kp
  by_cases hi:i<ds.length
  ·obtain⟨g1,y1⟩:=jo'.1 ds[i] (G0 hi);refine .inr ⟨g1,λx H'' y=> ?_⟩;obtain⟨k2,rh2,r2⟩:=y1 x H'' y;obtain⟨σd2,bd,q2⟩:=go ds[i] (G0 hi);refine hb σ σd σd2 H'' ds[i] x _ (((rs.mono (kk.trans k2))).clear js) r2 bd λσ2 ag rs2=>⟨ag,?_⟩
   refine LT.bind rs2 rh2 q2 λb h3 H3 k3 rs3 rh3 q3=> ?_
   cases b with
   |true=>
    rw [if_pos rfl] at q3 ⊢;refine LE.bind rs3 rh3 q3 λd4 v4 h4 H4 k4 rs4 rh4 r4 ⟨h5,sb,w5⟩=>⟨n-(i+1),by omega,rfl,kp.trans (k2.trans (k3.trans k4)),yd++ [d4],h5,(ry.mono (k2.trans (k3.trans k4))).append (.cons r4 .nil),rh4.sub sb,w5⟩
   |false=>
    rw [if_neg P6] at q3 ⊢;obtain⟨h5,sb,w5⟩:=q3;exact⟨n-(i+1),by omega,rfl,kp.trans (k2.trans k3),yd,h5,ry.mono (k2.trans k3),rh3.sub sb,w5⟩
  ·refine .inl ⟨jo'.2 (X0.mp hi),λa ha=>p (.lst a) (.ref a) _ _ (kk.trans (.new ha)) (rh'.newL ha ry) ⟨rfl,ys,jt⟩ (stop (X0.mp hi) a (rh'.free ha))⟩
theorem Wk {X:Cx}{scope:Scope}{C:Addr}{s₀:Shared}{H₀:Hp}{ex:List Addr}{i:Nat}{x:Str}{p:Pos}(hN:X.N.Nodup)(hx:X.N[i]? =some x)(hl:scope.names.lookup x=some .local\/scope.names.lookup x=some .cell):
 PG (Qh X scope C s₀ H₀ ex) (.Name x p) (vX i):=by
 rcases hl with z|z
 ·exact vY hN hx (.inl (lookup_relabel_local z)) (.inr (lookup_relabel_local z))
 ·exact vY hN hx (.inr (Zw z)) (.inl (by show (scope.names.lookup x==some NameKind.cell)=true;rw [z];rfl))
section
variable {X:Cx}{tg e iter elt:Expr}{te:TED}{ti:TID}{g:TGD}{tb:TSD}{tt:TTD}{pos:Pos}{ta:TAD}{scope:Scope}{js:List Nat}{ifs:List Expr}
theorem HV (he:QE X e te):QI X tg e (iL te):=(Hg he).imp HU
theorem jbr {p:Pos}{a:Expr}(hg:Gl X "range")(hm:X.mg "range" =none)(ha:QA X [a] ta)(hs:starEach [a] X.env= [(false,eval a X.env)]:=by rfl):QI X tg (.Call (.Name "range" p) [a] [] pos) (iR1 ta):=(Fw hg hm ha hs).imp jbn
theorem jc5 {body:List Stmt}(hp:PassesOwn (model X.prog X.w) X.A X.env X.xe)(hc:X.calm=true)(hi:QI X tg iter ti)(hg:QG X tg g)(hb:QSs X body tb)(hs: ∀x,foldedSetIterable iter X.env x=pure x:=by intro _;rfl):
 QS X (.For tg iter body [] pos) (kM ti g tb):=(uJ hp hc hi hg hb hs).imp xL
theorem HW:PTs X [] (LT X.K Wg):=λpins s σ H Q I h=>HA pins s σ H Q I (xM σ H Q h)
theorem HX {c:Expr}(hc:QT X c tt):PTs X [c] (LT X.K tt):=HB hc
theorem qlc {i:Nat}{x:Str}{p:Pos}(hc:X.calm=true)(S:BlockOk X scope js)(hi:QI X (.Name x p) iter ti)(hj:i∈js)(hN:X.N.Nodup)(hx:X.N[i]? =some x)(hl:scope.names.lookup x=some .local\/scope.names.lookup x=some .cell)
 (ht: ∀X',jB X scope X'->PTs X' ifs (LT X'.K tt))(he: ∀X',jB X scope X'->QE X' elt te)(hs: ∀x,foldedSetIterable iter X.env x=pure x:=by intro _;rfl):
 QE X (.ListComp elt [⟨.Name x p,iter,ifs,0⟩] scope pos) (Yg (bN i) js ti tt te):=
 (xi hc S hi (λX' hX=>by obtain⟨C,s₀,H₀,ex,rfl⟩:=hX;exact Wk hN hx hl) (λX' hX=>by have:=ht X' hX;obtain⟨C,s₀,H₀,ex,rfl⟩:=hX;exact this)
  (λX' hX=>by have:=he X' hX;obtain⟨C,s₀,H₀,ex,rfl⟩:=hX;exact this) hs).imp (xN (jbp hj))
theorem jc6 {i j:Nat}{x y:Str}{p1 p2 p3:Pos}{k:Nat}(hc:X.calm=true)(S:BlockOk X scope js)(hi:QI X (.Tuple [.Name x p1,.Name y p2] k p3) iter ti)(hj:i∈js)(hj2:j∈js)(hij:i≠j)(hN:X.N.Nodup)(hx:X.N[i]? =some x)(hy:X.N[j]? =some y)
 (hl:scope.names.lookup x=some .local\/scope.names.lookup x=some .cell)(hl2:scope.names.lookup y=some .local\/scope.names.lookup y=some .cell)
 (ht: ∀X',jB X scope X'->PTs X' ifs (LT X'.K tt))(he: ∀X',jB X scope X'->QE X' elt te)(hs: ∀x,foldedSetIterable iter X.env x=pure x:=by intro _;rfl):
 QE X (.ListComp elt [⟨.Tuple [.Name x p1,.Name y p2] k p3,iter,ifs,0⟩] scope pos) (Yg (b2 i j) js ti tt te):=
 (xi hc S hi (λX' hX=>by
  obtain⟨C,s₀,H₀,ex,rfl⟩:=hX;exact Fv hc (vk (Wk hN hx hl) (vk (Wk hN hy hl2) Mi))) (λX' hX=>by have:=ht X' hX;obtain⟨C,s₀,H₀,ex,rfl⟩:=hX;exact this)
  (λX' hX=>by have:=he X' hX;obtain⟨C,s₀,H₀,ex,rfl⟩:=hX;exact this) hs).imp (xN (jbq hj hj2 hij))
end
def LSp (K:PySem.W.Frag)(spd:RDn):Sp:=λvs H Q _=>LC K spd vs H Q
theorem FV {K:PySem.W.Frag}{spd:RDn}{t:TAD}{E:XK}: ∀σ H Q,LE K (dCB spd t) σ H Q->Hn (LSp K spd) [] E (LA K t) σ H Q:=λσ H Q ⟨σd,h,Qd,rs,rh,t,p⟩=>
 LA.bind rs rh t λds vs h1 H1 k1 rs1 rh1 r1 q=>by rw [C7];exact⟨ds,h1,Qd,r1,rh1,q,jJ p k1⟩
section
variable {X:Cx}{k:Nat}{f:Addr}{fd:FuncData}{ps:List Str}{spd:RDn}{x:Str}{p pos:Pos}{e:Expr}{es:List Expr}{t:TAD}
theorem jbs (F:FnOk X.prog X.w X.K X.mg X.base CX0 k f fd ps (LSp X.K spd))(hr:Room k X.A)(hg:Gl X x)(hm:X.mg x=some (.ref f))(hk:PySem.W.keepIn X.K (.ref f)=true)(hb:Binds X.K fd ps [])
 (ha:QA X (e::es) t)(hdb:(x==("__debug__" :Str))=false:=by decide)(he:starEach (e::es) X.env=(false,eval e X.env)::starEach es X.env:=by rfl)(hpl:(backTo pos (starEach es X.env)).any (·.1)=false:=by rfl):
 QE X (.Call (.Name x p) (e::es) [] pos) (dCB spd t):=(FF F hr hg hm hk hb .nil Hw ha hdb he hpl).imp FV
theorem xO {id:String}{r:RDn}(hc:Ja X (.builtin id) r)(hg:Gl X x)(hm:X.mg x=none)(hv:bootBuiltins x=some (.builtin id))(ha:QA X (e::es) t)(hn:x≠ "__name__" :=by decide)(hdb:(x==("__debug__" :Str))=false:=by decide)
 (he:starEach (e::es) X.env=(false,eval e X.env)::starEach es X.env:=by rfl)(hpl:(backTo pos (starEach es X.env)).any (·.1)=false:=by rfl):QE X (.Call (.Name x p) (e::es) [] pos) (dCB r t):=(Vr hc hg hm hv ha hn hdb he hpl).imp xu
theorem HY {T:String}{r:RDn}(hc:Ja X (.type T) r)(hg:Gl X x)(hm:X.mg x=none)(hv:bootBuiltins x=some (.type T))(ha:QA X (e::es) t)(hn:x≠ "__name__" :=by decide)(hdb:(x==("__debug__" :Str))=false:=by decide)
 (he:starEach (e::es) X.env=(false,eval e X.env)::starEach es X.env:=by rfl)(hpl:(backTo pos (starEach es X.env)).any (·.1)=false:=by rfl):QE X (.Call (.Name x p) (e::es) [] pos) (dCB r t):=(PD hc hg hm hv ha hn hdb he hpl).imp xu
end
def zU (N:List Str)(ds:List D):SD:=ds.map some++List.replicate (N.length-ds.length) none
theorem JP {K:PySem.W.Frag}{H:Hp}{N:List Str}{ds:List D}{vs:List V}(r:RelDs K H ds vs):RelS K H (zU N ds) (start N vs):=by
 have hl:=r.length;refine⟨by unfold zU start;simp [hl],λi d e=> ?_⟩;unfold zU at e;unfold start
 by_cases hi:i<ds.length
 ·rw [S0 (by simpa using hi),P1] at e;cases q:ds[i]? with
  |none=>rw [q] at e;cases e
  |some d'=>
   rw [q] at e;cases e;obtain⟨v,e1,e2⟩:=r.get q;exact⟨v,by rw [S0 (by simpa [<-hl] using hi),P1,e1];rfl,e2⟩
 ·rw [P7 (by simpa using hi),V5] at e;split at e<;>cases e
def Me (Q:KD):EndsD:= {nx:=λ_ h=> ∃h',Sub h' h/\Q .non h',rt:=λd h=> ∃h',Sub h' h/\Q d h'}
section
variable {P:Program}{w:World}{K:PySem.W.Frag}{mg:Str->Option Value}{base:Heap}
theorem Fun.okD {x qual:Str}{st:Stmt}{f:Addr}{fd:FuncData}{N ps:List Str}{k:Nat}{spd:RDn}(F:Fun K x qual st f fd)(S:FnScope N ps (jd st))(len: ∀ds h Q,spd ds h Q->ds.length=ps.length)
 (tb:TSD)(hbody: ∀ (cdv:Value) (A:Around) (outer:List Env) (s:Shared) (H:Hp) (E:XK),Room k (A.deeper (envOfC qual (jd st) s.heap.objs.size f cdv))->QSs (Qc CX0 P w K mg base N qual (jd st) f cdv A outer s H E).nox (zG st) tb)
 (read: ∀ds h Q,spd ds h Q->tb (Me Q) (zU N ds) h):FnOk P w K mg base CX0 (k+1) f fd ps (LSp K spd):=by
 refine F.ok S (λvs H Q E h=> ?_) (λcdv A outer s H vs Q E hr h=> ?_)
 ·obtain⟨ds,h,Qd,r,rh,q,p⟩:=h;rw [<-r.length];exact len _ _ _ q
 ·obtain⟨ds,h,Qd,r,rh,q,p⟩:=h;refine⟨_,hbody cdv A outer s H E hr,zU N ds,h,Me Qd,JP r,rh,read ds h Qd q,λσd' h' σ' H' k rs' rh' ⟨h2,sb,q'⟩=>p .non .non h2 H' k (rh'.sub sb) rfl q',λd v h' H' k rh' r' ⟨h2,sb,q'⟩=>p d v h2 H' k (rh'.sub sb) r' q',λ_ _ _ _ _ _ _ z=>z.elim,λ_ _ _ _ _ _ _ z=>z.elim⟩
end
def dIn (i':Nat)(ti:TID)(tt:TTD)(te:TED)(V:List D->HD->Prop)(ys:List D):SD->HD->Prop:=λσ h=>ti σ h λj h1=> ∃ (n:Nat) (W:Nat->List D->HD->Prop),W 0 ys h1/\ ∀i ys h',W i ys h'->ys.length<=sizeLine/\
 ∃ds,j h'=some ds/\ds.length<=n/\(ds.length<=i->V ys h')/\
  ∀d,ds[i]? =some d->tt (σ.set i' (some d)) h' λb h3=>if b=true then te (σ.set i' (some d)) h3 λy h4=> ∃h5,Sub h5 h4/\W (i+1) (ys++ [y]) h5 else ∃h5,Sub h5 h3/\W (i+1) ys h5
def kN (bind:D->SD->SD->Prop)(js:List Nat)(ti:TID)(tt:TTD)(i':Nat)(ti':TID)(tt':TTD)(te:TED):TED:=λσ h Q=>ti σ h λj h1=> ∃ (n:Nat) (W:Nat->List D->HD->Prop),W 0 [] h1/\ ∀i ys h',W i ys h'->ys.length<=sizeLine/\
 ∃ds,j h'=some ds/\ds.length<=n/\(ds.length<=i-> ∀p,h' p=none->Q (.lst p) (yL h' p ys))/\
  ∀d,ds[i]? =some d-> ∃σ2,bind d (za js σ) σ2/\tt σ2 h' λb h3=>if b=true then dIn i' ti' tt' te (λys' h6=> ∃h5,Sub h5 h6/\W (i+1) ys' h5) ys σ2 h3 else ∃h5,Sub h5 h3/\W (i+1) ys h5
def FW (K:PySem.W.Frag)(js:List Nat)(i':Nat)(bind:D->SD->SD->Prop)(g:TG):Prop:= ∀ (σ:St) (σd σd2:SD) (H:Hp) (d:D) (v:V) (Q:St->Hp->Prop),RelS K H (za js σd) (ym js σ)->RelD K H d v->bind d (za js σd) σd2->
 (∀σ2,Agree (ym js σ) σ2->(∀u,¬σ2[i']? =some (some u))->RelS K H σd2 σ2->Q σ2 H)->g v (ym js σ) H Q
theorem xP {K:PySem.W.Frag}{js:List Nat}{i i':Nat}(hi:i∈js)(hi':i'∈js)(hne:i≠i'):FW K js i' (bN i) (vX i):=λσ σd σd2 H d v Q rs r b q=>by
 cases (show σd2=_ from b);refine q _ (.set v λu=>wz js σ i u hi) (λu z=> ?_) (rs.set r i);rw [B3 hne] at z;exact wz js σ i' u hi' z
theorem xQ {K:PySem.W.Frag}{bind:D->SD->SD->Prop}{js:List Nat}{i':Nat}{ti ti':TID}{tt tt':TTD}{te:TED}{g:TG}(hb:FW K js i' bind g): ∀σ H Q,LE K (kN bind js ti tt i' ti' tt' te) σ H Q->ja7 js (LI K ti) g (LT K tt) (LI K ti') (vX i') (LT K tt') (LE K te) σ H Q:=
 λσ H Q ⟨σd,h,Qd,rs,rh,q,p⟩=>by
  refine⟨σd,h,_,rs,rh,q,λj J h1 H1 k1 rh1 jo ⟨n,W,w0,turn⟩=> ?_⟩;refine⟨λi m ys H'=>m=n-i/\Kept H1 H'/\ ∃ds h',RelDs K H' ds ys/\RelH K h' H'/\W i ds h',⟨n-0,rfl,.refl _,[],h1,rfl,rh1,w0⟩,?_⟩;rintro i m ys H' ⟨rfl,kp,yd,h',ry,rh',w⟩;obtain⟨hz,ds,ej,hn,stop,go⟩:=turn i yd h' w;refine⟨by rw [<-ry.length];exact hz,?_⟩;have jo':=jo H' h' kp rh' ds ej i;have kk:Kept H H':=k1.trans kp
  by_cases hi:i<ds.length
  ·obtain⟨g1,y1⟩:=jo'.1 ds[i] (G0 hi);refine .inr ⟨g1,λx H'' y=> ?_⟩;obtain⟨k2,rh2,r2⟩:=y1 x H'' y;obtain⟨σd2,bd,q2⟩:=go ds[i] (G0 hi);refine hb σ σd σd2 H'' ds[i] x _ (((rs.mono (kk.trans k2))).clear js) r2 bd λσ2 ag un rs2=>⟨ag,?_⟩
   refine LT.bind rs2 rh2 q2 λb h3 H3 k3 rs3 rh3 q3=> ?_
   cases b with
   |true=>
    rw [if_pos rfl] at q3 ⊢
    -- the second clause
    refine⟨σd2,h3,_,rs3,rh3,q3,λj2 J2 h4 H4 k4 rh4 jo2 ⟨n2,W2,w20,turn2⟩=> ?_⟩;refine⟨λi2 m2 ys2 H5=>m2=n2-i2/\Kept H4 H5/\ ∃ds h5,RelDs K H5 ds ys2/\RelH K h5 H5/\W2 i2 ds h5,⟨n2-0,rfl,.refl _,yd,h4,ry.mono (k2.trans (k3.trans k4)),rh4,w20⟩,?_⟩;rintro i2 m2 ys2 H5 ⟨rfl,kp5,yd5,h5,ry5,rh5,w5⟩;obtain⟨hz5,ds5,ej5,hn5,stop5,go5⟩:=turn2 i2 yd5 h5 w5;refine⟨by rw [<-ry5.length];exact hz5,?_⟩;have jo5:=jo2 H5 h5 kp5 rh5 ds5 ej5 i2;have kk5:Kept H1 H5:=kp.trans (k2.trans (k3.trans (k4.trans kp5)))
    by_cases hi5:i2<ds5.length
    ·obtain⟨g5,y5⟩:=jo5.1 ds5[i2] (G0 hi5);refine .inr ⟨g5,λx6 H6 yy6=> ?_⟩;obtain⟨k6,rh6,r6⟩:=y5 x6 H6 yy6;refine⟨.set x6 un,?_⟩;have rs6:=(rs3.mono (k4.trans (kp5.trans k6))).set r6 i';refine LT.bind rs6 rh6 (go5 ds5[i2] (G0 hi5)) λb h7 H7 k7 rs7 rh7 q7=> ?_
     cases b with
     |true=>
      rw [if_pos rfl] at q7 ⊢;exact LE.bind rs7 rh7 q7 λd8 v8 h8 H8 k8 rs8 rh8 r8 ⟨h9,sb,w9⟩=>⟨n2-(i2+1),by omega,rfl,kp5.trans (k6.trans (k7.trans k8)),yd5++ [d8],h9,(ry5.mono (k6.trans (k7.trans k8))).append (.cons r8 .nil),rh8.sub sb,w9⟩
     |false=>
      rw [if_neg P6] at q7 ⊢;obtain⟨h9,sb,w9⟩:=q7;exact⟨n2-(i2+1),by omega,rfl,kp5.trans (k6.trans k7),yd5,h9,ry5.mono (k6.trans k7),rh7.sub sb,w9⟩
    ·obtain⟨h9,sb,w9⟩:=stop5 (X0.mp hi5);exact .inl ⟨jo5.2 (X0.mp hi5),n-(i+1),by omega,rfl,kk5,yd5,h9,ry5,rh5.sub sb,w9⟩
   |false=>
    rw [if_neg P6] at q3 ⊢;obtain⟨h5,sb,w5⟩:=q3;exact⟨n-(i+1),by omega,rfl,kp.trans (k2.trans k3),yd,h5,ry.mono (k2.trans k3),rh3.sub sb,w5⟩
  ·refine .inl ⟨jo'.2 (X0.mp hi),λa ha=>p (.lst a) (.ref a) _ _ (kk.trans (.new ha)) (rh'.newL ha ry) ⟨rfl,ys,jt⟩ (stop (X0.mp hi) a (rh'.free ha))⟩
section
variable {X:Cx}{iter iter' elt:Expr}{te:TED}{ti ti':TID}{tt tt':TTD}{pos:Pos}{scope:Scope}{js:List Nat}{ifs ifs':List Expr}
theorem jc7 {i i':Nat}{x y:Str}{p py:Pos}(hc:X.calm=true)(S:BlockOk X scope js)(hi:QI X (.Name x p) iter ti)(hj:i∈js)(hj':i'∈js)(hne:i≠i')(hN:X.N.Nodup)(hx:X.N[i]? =some x)(hy:X.N[i']? =some y)
 (hl:scope.names.lookup x=some .local\/scope.names.lookup x=some .cell)(hl':scope.names.lookup y=some .local\/scope.names.lookup y=some .cell)
 (ht: ∀X',jB X scope X'->PTs X' ifs (LT X'.K tt))(hi': ∀X',jB X scope X'->QI X' (.Name y py) iter' ti')(ht': ∀X',jB X scope X'->PTs X' ifs' (LT X'.K tt'))(he: ∀X',jB X scope X'->QE X' elt te)
 (hs: ∀x,foldedSetIterable iter X.env x=pure x:=by intro _;rfl)(hs': ∀env x,foldedSetIterable iter' env x=pure x:=by intro _ _;rfl):
 QE X (.ListComp elt [⟨.Name x p,iter,ifs,0⟩,⟨.Name y py,iter',ifs',0⟩] scope pos) (kN (bN i) js ti tt i' ti' tt' te):=
 (show PE X _ (ja7 js (LI X.K ti) (vX i) (LT X.K tt) (LI X.K ti') (vX i') (LT X.K tt') (LE X.K te)) from xj hc S hi (λX' hX=>by obtain⟨C,s₀,H₀,ex,rfl⟩:=hX;exact Wk hN hx hl) (λX' hX=>by have:=ht X' hX;obtain⟨C,s₀,H₀,ex,rfl⟩:=hX;exact this) (λX' hX=>by have:=hi' X' hX;obtain⟨C,s₀,H₀,ex,rfl⟩:=hX;exact this)
  (λX' hX=>by obtain⟨C,s₀,H₀,ex,rfl⟩:=hX;exact Wk hN hy hl') (λX' hX=>by have:=ht' X' hX;obtain⟨C,s₀,H₀,ex,rfl⟩:=hX;exact this)
  (λX' hX=>by have:=he X' hX;obtain⟨C,s₀,H₀,ex,rfl⟩:=hX;exact this) hs hs').imp (xQ (xP hj hj' hne))
end
def jcp:RD2:=λx y h Q=>match x,y with
 | .int i,.int j=>Q (.int (i+j)) h
 | .tup a,.tup b=>a.length+b.length<=sizeLine/\Q (.tup (a++b)) h
 | .lst a,.lst b=> ∃xs ys,h a=some xs/\h b=some ys/\xs.length+ys.length<=sizeLine/\ ∀p,h p=none->Q (.lst p) (yL h p (xs++ys))
 |_,_=>False
def jcq:RD2:=λx y h Q=>match x,y with
 | .int i,.int j=>Q (.int (i-j)) h
 |_,_=>False
def jcr:RD2:=λx y h Q=>match x,y with
 | .int i,.int j=>CMul i j/\Q (.int (i*j)) h
 | .lst a,.int k=> ∃xs,h a=some xs/\ -(2^63)<=k/\k<2^63/\xs.length*k.toNat<=sizeLine/\ ∀p,h p=none->Q (.lst p) (yL h p (List.replicate k.toNat xs).flatten)
 |_,_=>False
def jc8:RD2:=λx y h Q=>match x,y with
 | .int i,.int j=>0<j/\Q (.int (i%j)) h
 |_,_=>False
def jbt:RD2:=λx y h Q=>match x,y with
 | .int i,.int j=>jcg i j/\Q (.int (i / j)) h
 |_,_=>False
def jcs:RD2:=λx y h Q=>match x,y with
 | .int i,.int j=>jch i j/\Q (.int (i^j.toNat)) h
 |_,_=>False
def Tu (p:Int->Int->Bool):RD2:=λx y h Q=>match x,y with
 | .int i,.int j=>Q (.bl (p i j)) h
 |_,_=>False
def eqD:RD2:=λx y h Q=>match x,y with
 | .int i,.int j=>Q (.bl (decide (i=j))) h
 | .bl i,.bl j=>Q (.bl (decide (i=j))) h
 | .str i,.str j=>Q (.bl (decide (i=j))) h
 |_,_=>False
def neD:RD2:=λx y h Q=>match x,y with
 | .int i,.int j=>Q (.bl (!decide (i=j))) h
 | .bl i,.bl j=>Q (.bl (!decide (i=j))) h
 | .str i,.str j=>Q (.bl (!decide (i=j))) h
 |_,_=>False
section
variable {X:Cx}
theorem Qi {f:Value->Value->Sem Value}{C:Int->Int->Prop}{g:Int->Int->V}{gd:Int->Int->D}{r:RD2}(ho:OpR X f (rI C g))(hg: ∀i j H,RelD X.K H (gd i j) (g i j))
 (hr: ∀x y h Q,r x y h Q-> ∃i j,x= .int i/\y= .int j/\C i j/\Q (gd i j) h):OpQ X f r:=ho.imp λx y H Q ⟨dx,dy,h,Qd,rx,ry,rh,q,p⟩=>by
 obtain⟨i,j,e1,e2,c,q'⟩:=hr dx dy h Qd q;subst e1 e2;exact⟨i,j,rx,ry,c,p _ _ _ _ (.refl H) rh (hg i j H) q'⟩
theorem Wl {f:Value->Value->Sem Value}{g:Int->Int->V}{gd:Int->Int->D}{r:RD2}(ho:OpR X f (rI0 g))(hg: ∀i j H,RelD X.K H (gd i j) (g i j))
 (hr: ∀x y h Q,r x y h Q-> ∃i j,x= .int i/\y= .int j/\Q (gd i j) h):OpQ X f r:=ho.imp λx y H Q ⟨dx,dy,h,Qd,rx,ry,rh,q,p⟩=>by
 obtain⟨i,j,e1,e2,q'⟩:=hr dx dy h Qd q;subst e1 e2;exact⟨i,j,rx,ry,p _ _ _ _ (.refl H) rh (hg i j H) q'⟩
theorem Wm:OpQ X (binaryOp .Sub) jcq:=Wl (gd:=λi j=> .int (i-j)) uK (λ_ _ _=>rfl) λx y h Q q=>by
 cases x<;>cases y<;>first|exact False.elim q|exact⟨_,_,rfl,rfl,q⟩
theorem Wn:OpQ X (binaryOp .Mod) jc8:=Qi (gd:=λi j=> .int (i%j)) uL (λ_ _ _=>rfl) λx y h Q q=>by
 cases x<;>cases y<;>first|exact False.elim q|exact⟨_,_,rfl,rfl,q.1,q.2⟩
theorem HZ:OpQ X (binaryOp .FloorDiv) jbt:=Qi (gd:=λi j=> .int (i / j)) Hh (λ_ _ _=>rfl) λx y h Q q=>by
 cases x<;>cases y<;>first|exact False.elim q|exact⟨_,_,rfl,rfl,q.1,q.2⟩
theorem Tv:OpQ X (binaryOp .Pow) jcs:=Qi (gd:=λi j=> .int (i^j.toNat)) uM (λ_ _ _=>rfl) λx y h Q q=>by
 cases x<;>cases y<;>first|exact False.elim q|exact⟨_,_,rfl,rfl,q.1,q.2⟩
theorem Qj {p:Int->Int->Bool}: ∀x y h Q,Tu p x y h Q-> ∃i j,x= .int i/\y= .int j/\Q (.bl (p i j)) h:=λx y h Q q=>by
 cases x<;>cases y<;>first|exact False.elim q|exact⟨_,_,rfl,rfl,q⟩
theorem PP:OpQ X (compareOp .Lt) (Tu λi j=>decide (i<j)):=Wl (gd:=λi j=> .bl (decide (i<j))) jaR (λ_ _ _=>rfl) Qj
theorem PQ:OpQ X (compareOp .LtE) (Tu λi j=>decide (i<=j)):=Wl (gd:=λi j=> .bl (decide (i<=j))) jaS (λ_ _ _=>rfl) Qj
theorem FX:OpQ X (compareOp .Gt) (Tu λi j=>decide (j<i)):=Wl (gd:=λi j=> .bl (decide (j<i))) jaT (λ_ _ _=>rfl) Qj
theorem Ez:OpQ X (compareOp .GtE) (Tu λi j=>decide (j<=i)):=Wl (gd:=λi j=> .bl (decide (j<=i))) jaU (λ_ _ _=>rfl) Qj
theorem kO {α:Type}[DecidableEq α]{f:α->V}(hf: ∀a b,f a=f b->a=b)(a b:α):decide (f a=f b)=decide (a=b):=by
 by_cases h:a=b
 ·subst h;simp
 ·rw [R4 h,R4 (λe=>h (hf a b e))]
theorem oq_eq:OpQ X (compareOp .Eq) eqD:=op_eq.imp λx y H Q ⟨dx,dy,h,Qd,rx,ry,rh,q,p⟩=>by
 cases dx<;>cases dy<;>first
  |exact False.elim q
  |(cases (show x= .int _ from rx);cases (show y= .int _ from ry);refine⟨rfl,p _ _ _ _ (.refl H) rh ?_ q⟩;rw [kO (f:=V.int) (λa b e=>by cases e;rfl)];rfl)
  |(cases (show x= .bl _ from rx);cases (show y= .bl _ from ry);refine⟨rfl,p _ _ _ _ (.refl H) rh ?_ q⟩;rw [kO (f:=V.bl) (λa b e=>by cases e;rfl)];rfl)
  |(cases (show x= .str _ from rx);cases (show y= .str _ from ry);refine⟨rfl,p _ _ _ _ (.refl H) rh ?_ q⟩;rw [kO (f:=V.str) (λa b e=>by cases e;rfl)];rfl)
theorem oq_ne:OpQ X (compareOp .NotEq) neD:=op_ne.imp λx y H Q ⟨dx,dy,h,Qd,rx,ry,rh,q,p⟩=>by
 cases dx<;>cases dy<;>first
  |exact False.elim q
  |(cases (show x= .int _ from rx);cases (show y= .int _ from ry);refine⟨rfl,p _ _ _ _ (.refl H) rh ?_ q⟩;rw [kO (f:=V.int) (λa b e=>by cases e;rfl)];rfl)
  |(cases (show x= .bl _ from rx);cases (show y= .bl _ from ry);refine⟨rfl,p _ _ _ _ (.refl H) rh ?_ q⟩;rw [kO (f:=V.bl) (λa b e=>by cases e;rfl)];rfl)
  |(cases (show x= .str _ from rx);cases (show y= .str _ from ry);refine⟨rfl,p _ _ _ _ (.refl H) rh ?_ q⟩;rw [kO (f:=V.str) (λa b e=>by cases e;rfl)];rfl)
def xR (K:PySem.W.Frag):R2:=λx y H Q=> ∃a b xs ys,x= .ref a/\y= .ref b/\SqT K H a xs/\SqT K H b ys/\xs= []/\Q (.ref b) H
theorem op_catT0:OpR X (binaryOp .Add) (xR X.K):=by
 intro pins s σ H x y v u Q I rx ry h;obtain⟨a,b,xs,ys,rfl,rfl,ha,hb,hx,q⟩:=h;cases rx;cases ry;obtain⟨its,r1,p1,_⟩:=I.tuple ha;obtain⟨its2,r2,p2,_⟩:=I.tuple hb;have hv:its= []:=r1.nil_iff.mpr hx;obtain⟨⟨cls,dd,data,sl⟩,ho,hc,n,hd⟩:=id p1;obtain⟨⟨cls2,dd2,data2,sl2⟩,ho2,hc2,n2,hd2⟩:=id p2;simp only at hc hd hc2 hd2;subst hc hd hc2 hd2;exact concat_meets ⟨_,ho,rfl⟩ ⟨_,ho2,rfl⟩ G0O seq_tuple_add W5 V6 (V1 _ _)
  (tuple_addW0 a b its.toArray its2.toArray n n2 dd dd2 sl sl2 (by simp [hv])) ⟨ho,ho2,.ref b,H,I,rfl,q⟩
theorem wv:OpQ X (binaryOp .Add) jcp:=(op_add.or (op_catT.or (op_catT0.or xa))).imp λx y H Q ⟨dx,dy,h,Qd,rx,ry,rh,q,p⟩=>by
 cases dx<;>cases dy<;>first
  |exact False.elim q
  |skip
 ·exact .inl ⟨_,_,rx,ry,p (.int _) _ _ _ (.refl H) rh rfl q⟩
 ·rename_i ds es;obtain⟨a,vs,e1,h1,r1⟩:=(show ∃a vs,x= .ref a/\H a=some (.tup vs)/\RelDs X.K H ds vs from rx);obtain⟨b,us,e2,h2,r2⟩:=(show ∃a vs,y= .ref a/\H a=some (.tup vs)/\RelDs X.K H es vs from ry);subst e1 e2;obtain⟨hz,q⟩:=q
  by_cases hv:vs= []
  ·subst hv;have e:ds= []:=J7.mp r1.length;subst e;exact .inr (.inr (.inl ⟨a,b,[],us,rfl,rfl,SqT.of h1,SqT.of h2,rfl,p (.tup es) _ _ _ (.refl H) rh ⟨b,us,rfl,h2,r2⟩ q⟩))
  ·refine .inr (.inl ⟨a,b,vs,us,rfl,rfl,SqT.of h1,SqT.of h2,hv,by rw [<-r1.length,<-r2.length];exact hz,λe=> ?_,λ_ c hc=> ?_⟩)
   ·subst e;have e:es= []:=J7.mp r2.length;subst e;rw [C7] at q;exact p (.tup ds) _ _ _ (.refl H) rh ⟨a,vs,rfl,h1,r1⟩ q
   ·exact p (.tup (ds++es)) _ _ _ (.new hc) (rh.new hc) ⟨c,vs++us,rfl,jt,(r1.append r2).mono (.new hc)⟩ q
 ·rename_i a b;obtain⟨xs,ys,h1,h2,hz,q⟩:=q;obtain⟨vs,e1,r1⟩:=rh a xs h1;obtain⟨us,e2,r2⟩:=rh b ys h2;refine .inr (.inr (.inr ⟨a,b,vs,us,rx.1,ry.1,e1,e2,by rw [<-r1.length,<-r2.length];exact hz,λc hc=> ?_⟩));exact p (.lst c) _ _ _ (.new hc) (rh.newL hc (r1.append r2)) ⟨rfl,_,jt⟩ (q c (rh.free hc))
theorem RelDs.flat {K:PySem.W.Frag}{H:Hp}{ds:List D}{vs:List V}(r:RelDs K H ds vs): ∀k:Nat,RelDs K H (List.replicate k ds).flatten (List.replicate k vs).flatten
 |0=>by simp;exact .nil
 |k+1=>by rw [L0,L0,J4,J4];exact r.append (RelDs.flat r k)
theorem oq_mul:OpQ X (binaryOp .Mult) jcr:=(op_mul.or xb).imp λx y H Q ⟨dx,dy,h,Qd,rx,ry,rh,q,p⟩=>by
 cases dx<;>cases dy<;>first
  |exact False.elim q
  |skip
 ·exact .inl ⟨_,_,rx,ry,q.1,p (.int _) _ _ _ (.refl H) rh rfl q.2⟩
 ·obtain⟨xs,h1,b1,b2,hz,q⟩:=q;obtain⟨vs,e1,r1⟩:=rh _ xs h1;refine .inr ⟨_,_,vs,rx.1,ry,e1,b1,b2,by rw [<-r1.length];exact hz,λc hc=> ?_⟩;exact p (.lst c) _ _ _ (.new hc) (rh.newL hc (r1.flat _)) ⟨rfl,_,jt⟩ (q c (rh.free hc))
end
def ixD:RD2:=λx y h Q=>match x,y with
 | .tup ds,.int i=> ∃d,atI ds i=some d/\Q d h
 | .lst a,.int i=> ∃ds d,h a=some ds/\atI ds i=some d/\Q d h
 | .scr ns,.int i=> ∃n,atI ns i=some n/\Q (.int n) h
 |_,_=>False
theorem FY {K:PySem.W.Frag}{H:Hp}{ds:List D}{vs:List V}(r:RelDs K H ds vs){i:Int}{d:D}(e:atI ds i=some d): ∃v,atI vs i=some v/\RelD K H d v:=by
 unfold atI at e ⊢;rw [<-r.length];cases q:ixN ds.length i with
 |none=>rw [q] at e;cases e
 |some j=>rw [q] at e;exact r.get e
theorem Ka {α β:Type}(f:α->β){xs:List α}{i:Int}{x:α}(e:atI xs i=some x):atI (xs.map f) i=some (f x):=by
 unfold atI at e ⊢;rw [G2];cases q:ixN xs.length i with
 |none=>rw [q] at e;cases e
 |some j=>
  rw [q] at e;show (xs.map f)[j]? =_;rw [P1,(show xs[j]? =some x from e)];rfl
section
variable {X:Cx}{a b e:Expr}{ta tb te:TED}{pos p2:Pos}
theorem jbu: ∀σ H Q,LE X.K (dOp ixD ta tb) σ H Q->tOp (rIx X.K) (LE X.K ta) (LE X.K tb) σ H Q:=λσ H Q ⟨σd,h,Qd,rs,rh,t,p⟩=>
 LE.bind rs rh t λdx x h1 H1 k1 rs1 rh1 r1 t1=>LE.bind rs1 rh1 t1 λdy y h2 H2 k2 rs2 rh2 ry q=>by
  have rx:=r1.mono k2;have kk:=k1.trans k2;cases dx<;>cases dy<;>first
   |exact False.elim q
   |skip
  ·rename_i ds i;obtain⟨d,e,q⟩:=q;obtain⟨a,vs,e1,hH,r⟩:=(show ∃a vs,x= .ref a/\H2 a=some (.tup vs)/\RelDs X.K H2 ds vs from rx);obtain⟨v,e2,rv⟩:=FY r e;exact .inr (.inl ⟨a,vs,i,v,e1,ry,SqT.of hH,e2,p _ _ _ _ kk rh2 rv q⟩)
  ·rename_i a i;obtain⟨ds,d,hd,e,q⟩:=q;obtain⟨vs,hH,r⟩:=rh2 a ds hd;obtain⟨v,e2,rv⟩:=FY r e;exact .inl ⟨a,vs,i,v,rx.1,ry,SqL.of hH,e2,p _ _ _ _ kk rh2 rv q⟩
  ·rename_i ns i;obtain⟨n,e,q⟩:=q;obtain⟨a,e1,hS⟩:=(show ∃a,x= .ref a/\Scr X.K H2 a ns from rx);exact .inl ⟨a,_,i,.int n,e1,ry,hS.sq,Ka V.int e,p (.int n) _ _ _ kk rh2 rfl q⟩
theorem qix (ha:QE X a ta)(hb:QE X b tb)(hs:Mk b):QE X (.Subscript a b pos) (dOp ixD ta tb):=(jaY uV ha hb hs).imp jbu
end
def xS:RDn:=λds h Q=>match ds with
 | [.tup xs]=>Q (.int xs.length) h
 | [.lst a]=> ∃xs,h a=some xs/\Q (.int xs.length) h
 | [.scr ns]=>Q (.int ns.length) h
 |_=>False
def jbv:RDn:=λds h Q=>match ds with
 | [.int i]=>Q (.int i) h
 | [.bl k]=>Q (.int (if k then 1 else 0)) h
 |_=>False
def jbw:RDn:=λds h Q=>match ds with
 | [.int i,.int j]=>Q (.int (if j>i then j else i)) h
 |_=>False
def Tw:RDn:=λds h Q=>match ds with
 | [.tup xs]=>Q (.tup xs) h
 | [.lst a]=> ∃xs,h a=some xs/\Q (.tup xs) h
 |_=>False
def XG:RDn:=λds h Q=>match ds with
 | [.lst a]=> ∃xs,h a=some xs/\Q (.tup xs) (VO h a)
 |_=>False
section
variable {X:Cx}
theorem zn:Ja X (.builtin "len") xS:=call_len_seq.imp λxs H Q ⟨ds,h,Qd,r,rh,q,p⟩=>by
 unfold xS at q;split at q
 ·rename_i es;obtain⟨v,e,r1⟩:=jC r;obtain⟨a,vs,e1,hH,r2⟩:=(show ∃a vs,v= .ref a/\H a=some (.tup vs)/\RelDs X.K H es vs from r1);subst e e1;exact⟨a,vs,rfl,.inr (SqT.of hH),by rw [<-r2.length];exact p (.int _) _ _ _ (.refl H) rh rfl q⟩
 ·rename_i a;obtain⟨es,hd,q⟩:=q;obtain⟨v,e,r1⟩:=jC r;obtain⟨vs,hH,r2⟩:=rh a es hd;have e1:v= .ref a:=r1.1;subst e e1;exact⟨a,vs,rfl,.inl (SqL.of hH),by rw [<-r2.length];exact p (.int _) _ _ _ (.refl H) rh rfl q⟩
 ·rename_i ns;obtain⟨v,e,r1⟩:=jC r;obtain⟨a,e1,hS⟩:=(show ∃a,v= .ref a/\Scr X.K H a ns from r1);subst e e1;exact⟨a,_,rfl,.inl hS.sq,by rw [G2];exact p (.int _) _ _ _ (.refl H) rh rfl q⟩
 ·exact q.elim
theorem FZ:Ja X (.type "int") jbv:=call_int1.imp λxs H Q ⟨ds,h,Qd,r,rh,q,p⟩=>by
 unfold jbv at q;split at q
 ·rename_i i;obtain⟨v,e,r1⟩:=jC r;cases (show v= .int i from r1);exact .inl ⟨i,e,p (.int i) _ _ _ (.refl H) rh rfl q⟩
 ·rename_i k;obtain⟨v,e,r1⟩:=jC r;cases (show v= .bl k from r1);exact .inr ⟨k,e,p (.int _) _ _ _ (.refl H) rh rfl q⟩
 ·exact q.elim
theorem xT (hc:X.calm=true):Ja X (.builtin "max") jbw:=(FC hc).imp λxs H Q ⟨ds,h,Qd,r,rh,q,p⟩=>by
 unfold jbw at q;split at q
 ·rename_i i j;obtain⟨v,w,e,r1,r2⟩:=yD r;cases (show v= .int i from r1);cases (show w= .int j from r2);exact⟨i,j,e,p (.int _) _ _ _ (.refl H) rh rfl q⟩
 ·exact q.elim
theorem cq_tuple:Ja X (.type "tuple") Tw:=call_tuple_of.imp λxs H Q ⟨ds,h,Qd,r,rh,q,p⟩=>by
 unfold Tw at q;split at q
 ·rename_i es;obtain⟨v,e,r1⟩:=jC r;obtain⟨a,vs,e1,hH,r2⟩:=(show ∃a vs,v= .ref a/\H a=some (.tup vs)/\RelDs X.K H es vs from r1);subst e e1;exact⟨a,vs,rfl,.inr ⟨SqT.of hH,p (.tup es) _ _ _ (.refl H) rh ⟨a,vs,rfl,hH,r2⟩ q⟩⟩
 ·rename_i a;obtain⟨es,hd,q⟩:=q;obtain⟨v,e,r1⟩:=jC r;obtain⟨vs,hH,r2⟩:=rh a es hd;have e1:v= .ref a:=r1.1;subst e e1;exact⟨a,vs,rfl,.inl ⟨SqL.of hH,λc hc=>p (.tup es) _ _ _ (.new hc) (rh.new hc) ⟨c,vs,rfl,jt,r2.mono (.new hc)⟩ q⟩⟩
 ·exact q.elim
theorem zw:Ja X (.type "tuple") XG:=cq_tuple.imp λxs H Q ⟨ds,h,Qd,r,rh,q,p⟩=>by
 unfold XG at q;split at q
 ·rename_i a;obtain⟨es,hd,q⟩:=q;exact⟨[.lst a],h,λd h'=>Qd d (VO h' a),r,rh,⟨es,hd,q⟩,λd v h' H' k rh' rd q'=>p d v _ H' k (rh'.sub (Sub.drop h' a)) rd q'⟩
 ·exact q.elim
end
def PR:D->Option String
 | .non=>some "NoneType" | .bl _=>some "bool" | .int _=>some "int" | .str _=>some "str" | .tup _=>some "tuple" | .lst _=>some "list" | .dic _ _=>some "dict" | .dni _ _=>some "dict" | .scr _=>none| .exc _=>none| .fn _=>none
def xU (T:String)(n:String):Bool:=n==T||(T== "int" &&n== "bool")
theorem EA {K:PySem.W.Frag}{H:Hp}{d:D}{v:V}{n:String}(r:RelD K H d v)(e:PR d=some n):TyOf K H v (.type n):=by
 cases d with
 |non=>cases (show v= .non from r);cases e;exact .non
 |bl b=>cases (show v= .bl b from r);cases e;exact .bl b
 |int i=>cases (show v= .int i from r);cases e;exact .int i
 |str x=>cases (show v= .str x from r);cases e;exact .str x
 |tup ds=>
  obtain⟨a,vs,e1,hH,_⟩:=(show ∃a vs,v= .ref a/\H a=some (.tup vs)/\RelDs K H ds vs from r);subst e1;cases e;exact .tup hH
 |lst a=>
  obtain⟨e1,vs,hH⟩:=(show v= .ref a/\ ∃vs,H a=some (.lst vs) from r);subst e1;cases e;exact .lst hH
 |dic x i=>
  obtain⟨a,e1,hH⟩:=(show ∃a,v= .ref a/\H a=some (.dK [(Sum.inr x,V.int i)]) from r);subst e1;cases e;exact .dK hH
 |dni x i=>
  obtain⟨a,e1,hH⟩:=(show ∃a,v= .ref a/\H a=some (.dK [(Sum.inl x,V.int i)]) from r);subst e1;cases e;exact .dK hH
 |scr ns=>cases e
 |exc C=>cases e
 |fn a=>cases e
def Kb:List String:= ["NoneType","bool","int","str","tuple","list","dict"]
theorem BX {d:D}{n:String}(e:PR d=some n):n∈Kb:=by
 cases d<;>cases e<;>decide
def jbx (K:PySem.W.Frag):Prop:= ∀n∈Kb,∀T∈ ["tuple","int","bool","list","str"],PySem.W.kitOne K (.type n) (.type T)=some (xU T n)
theorem Kc (K:PySem.W.Frag):jbx K:=by
 intro n hn T hT;simp only [Kb,P4,S8,K4] at hn hT;rcases hn with rfl|rfl|rfl|rfl|rfl|rfl|rfl<;>rcases hT with rfl|rfl|rfl|rfl|rfl<;>with_unfolding_all rfl
theorem La {X:Cx}(T:String):CallR X (.builtin "isinstance") (λxs H Q=> ∃x t b,xs= [x,.ty T]/\TyOf X.K H x t/\PySem.W.kitOne X.K t (.type T)=some b/\Q (.bl b) H):=by
 intro pins s σ H xs us Q I r h;obtain⟨x,t,b,rfl,ty,e,q⟩:=h;obtain⟨u,w',rfl,rx,rt⟩:=Em r;cases (show w'=Value.type T from rt);exact FE I rx ty e λtk=>⟨.bl b,H,I.tok tk,rfl,q⟩
def dIs (T:String)(ta:TED):TED:=λσ h Q=>ta σ h λx h1=> ∃n,PR x=some n/\Q (.bl (xU T n)) h1
theorem jby {X:Cx}{a:Expr}{ta:TED}{T:String}{t:Str}{p p2 pos:Pos}(hT:T∈ ["tuple","int","bool","list","str"])(hg:Gl X "isinstance")(hm:X.mg "isinstance" =none)(hg2:Gl X t)(hm2:X.mg t=none)(hv:bootBuiltins t=some (.type T))(ha:QE X a ta)
 (hn:t≠ "__name__" :=by decide)(hd:(t==("__debug__" :Str))=false:=by decide)
 (h1:starEach [a,.Name t p2] X.env=(false,eval a X.env)::starEach [.Name t p2] X.env:=by rfl)(h2:(backTo pos (starEach [.Name t p2] X.env)).any (·.1)=false:=by rfl):
 QE X (.Call (.Name "isinstance" p) [a,.Name t p2] [] pos) (dIs T ta):=
 (Vr (La T) hg hm K5 (yC ha (yC (Fu (v:= .ty T) hg2 hm2 hv rfl hn hd) pa_nil (by rfl)) h1) (by decide) (by decide) h1 h2).imp
  λσ H Q ⟨σd,h,Qd,rs,rh,t,p⟩=>LE.bind rs rh t λd v h1 H1 k1 rs1 rh1 r1 ⟨n,e,q⟩=>⟨v,.type n,xU T n,rfl,EA r1 e,Kc _ n (BX e) T hT,p (.bl _) _ _ _ k1 rh1 rfl q⟩
theorem Lb (bs:List Bool):(List.range bs.length).all (λi=>bs.getD i false)=bs.all id:=by
 induction bs with
 |nil=>rfl
 |cons b bs ih=>
  rw [D2,K1,G1l,O4,G1l];show (b&&_)=(b&&bs.all id);rw [<-ih];rfl
theorem Lc (bs:List Bool):(List.range bs.length).any (λi=>bs.getD i false)=bs.any id:=by
 induction bs with
 |nil=>rfl
 |cons b bs ih=>
  rw [D2,K1,G0J,G0s,G0J];show (b||_)=(b||bs.any id);rw [<-ih];rfl
theorem PU {bs:List Bool}{its:List Value}(r:Vals (bs.map V.bl) its){i:Nat}{v:Value}(e:its[i]? =some v):v= .bool (bs.getD i false):=by
 have hl:=r.length;rw [G2] at hl;have hi:i<its.length:=(G3.mp e).1;have hb:(bs.map V.bl)[i]? =some (.bl bs[i]):=by rw [P1,G0 (by omega)];rfl
 obtain⟨u,e1,r1⟩:=r.get hb;rw [e] at e1;cases e1;rw [D9,G0 (by omega)];exact r1
section
variable {X:Cx}
theorem Qk (hc:X.calm=true):CallR X (.builtin "all") (λxs H Q=> ∃ (a:Addr) (bs:List Bool),xs= [.ref a]/\SqL X.K H a (bs.map V.bl)/\Q (.bl (bs.all id)) H):=by
 intro pins s σ H xs us Q I r h;obtain⟨a,bs,rfl,hS,q⟩:=h;obtain⟨u,rfl,ru⟩:=Zv r;cases ru;obtain⟨its,rv,pl,hz⟩:=I.list hS;have hl:=pl.isList;have hlt:a<s.heap.objs.size:=by obtain⟨_,e,_⟩:=hl;exact P3 e
 refine call_all_walk (A2 hl ?_);refine⟨s.heap.objs.size,_,_,_,_,_,λi=>bs.getD i false,rfl,G05 (A:=X.A.in1) (show X.A.in1.handled=none from I.ok.hd hc) s.heap.objs.size a (R1 hlt) its.toArray,⟨⟨_,P9 _ rfl,rfl,rfl⟩,hl.push _⟩,?_,λh' tk hk=> ?_⟩
 ·intro i v s' Q' E' hP hQ;have e:its[i]? =some v:=by simpa using hP
  rw [PU rv e];exact B2 hQ
 ·have hn:its.toArray.size=bs.length:=by rw [P5,<-rv.length,G2]
  rw [hn,Lb];exact⟨.bl _,H,I.kept (t':=tk) (λb o e=>hk b o (λz=>by rw [G7.mp z] at e;exact absurd (P3 e) (T6 _)) (G1 _ e)),rfl,q⟩
theorem Ql (hc:X.calm=true):CallR X (.builtin "any") (λxs H Q=> ∃ (a:Addr) (bs:List Bool),xs= [.ref a]/\SqL X.K H a (bs.map V.bl)/\Q (.bl (bs.any id)) H):=by
 intro pins s σ H xs us Q I r h;obtain⟨a,bs,rfl,hS,q⟩:=h;obtain⟨u,rfl,ru⟩:=Zv r;cases ru;obtain⟨its,rv,pl,hz⟩:=I.list hS;have hl:=pl.isList;have hlt:a<s.heap.objs.size:=by obtain⟨_,e,_⟩:=hl;exact P3 e
 refine call_any_walk (A2 hl ?_);refine⟨s.heap.objs.size,_,_,_,_,_,λi=>bs.getD i false,rfl,G05 (A:=X.A.in1) (show X.A.in1.handled=none from I.ok.hd hc) s.heap.objs.size a (R1 hlt) its.toArray,⟨⟨_,P9 _ rfl,rfl,rfl⟩,hl.push _⟩,?_,λh' tk hk=> ?_⟩
 ·intro i v s' Q' E' hP hQ;have e:its[i]? =some v:=by simpa using hP
  rw [PU rv e];exact B2 hQ
 ·have hn:its.toArray.size=bs.length:=by rw [P5,<-rv.length,G2]
  rw [hn,Lc];exact⟨.bl _,H,I.kept (t':=tk) (λb o e=>hk b o (λz=>by rw [G7.mp z] at e;exact absurd (P3 e) (T6 _)) (G1 _ e)),rfl,q⟩
theorem Zx {K:PySem.W.Frag}{H:Hp}: ∀ {bs:List Bool} {vs:List V},RelDs K H (bs.map D.bl) vs->vs=bs.map V.bl
 | [],_,h=>h
 |b::bs,vs,h=>by
  obtain⟨v,r,e,h1,h2⟩:=(show ∃v r,vs=v::r/\RelD K H (.bl b) v/\RelDs K H (bs.map D.bl) r from h);rw [e,Zx h2,(show v= .bl b from h1)];rfl
def Kd:RDn:=λds h Q=> ∃ (a:Addr) (bs:List Bool),ds= [.lst a]/\h a=some (bs.map D.bl)/\Q (.bl (bs.all id)) (VO h a)
def jbz:RDn:=λds h Q=> ∃ (a:Addr) (bs:List Bool),ds= [.lst a]/\h a=some (bs.map D.bl)/\Q (.bl (bs.any id)) (VO h a)
theorem Wo (hc:X.calm=true):Ja X (.builtin "all") Kd:=(Qk hc).imp λxs H Q ⟨ds,h,Qd,r,rh,⟨a,bs,e,hd,q⟩,p⟩=>by
 subst e;obtain⟨v,e,r1⟩:=jC r;obtain⟨vs,hH,r2⟩:=rh a _ hd;have e1:v= .ref a:=r1.1;rw [Zx r2] at hH;subst e e1;exact⟨a,bs,rfl,SqL.of hH,p (.bl _) _ _ _ (.refl H) (rh.sub (Sub.drop h a)) rfl q⟩
theorem xV (hc:X.calm=true):Ja X (.builtin "any") jbz:=(Ql hc).imp λxs H Q ⟨ds,h,Qd,r,rh,⟨a,bs,e,hd,q⟩,p⟩=>by
 subst e;obtain⟨v,e,r1⟩:=jC r;obtain⟨vs,hH,r2⟩:=rh a _ hd;have e1:v= .ref a:=r1.1;rw [Zx r2] at hH;subst e e1;exact⟨a,bs,rfl,SqL.of hH,p (.bl _) _ _ _ (.refl H) (rh.sub (Sub.drop h a)) rfl q⟩
end
def jct (to:TED)(te:TED):TED:=λσ h Q=>to σ h λx h1=> ∃a,x= .lst a/\te σ h1 λy h2=> ∃xs,h2 a=some xs/\xs.length<sizeLine/\Q .non (yL h2 a (xs++ [y]))
section
variable {X:Cx}{o e i:Expr}{to te ti:TED}{apos cpos pos:Pos}
theorem jc9 (ho:QE X o to)(he:QE X e te)(hbase:attributeBase o "append" X.env (eval o X.env)=eval o X.env:=by rfl)
 (hfew:((backTo cpos (starEach [e] X.env)).all (λx=> !x.1)&&(backToKw cpos (keywordEach [] X.env)).all (λx=>x.1.isSome)&&decide ([e].length+([]:List Keyword).length+(if ([]:List Keyword).isEmpty then 0 else 1)<30))=true:=by rfl)
 (hline:(apos.endLine==cpos.line)=true:=by rfl)(hs:starEach [e] X.env=(false,eval e X.env)::starEach [] X.env:=by rfl)(hplain:(backTo cpos (starEach [] X.env)).any (·.1)=false:=by rfl):
 QE X (.Call (.Attribute o "append" apos) [e] [] cpos) (jct to te):=
 (Hu V8 PySem.F.slot_list_append PySem.F.type_list_append FI ho (yC he pa_nil hs) hbase hfew hline hs hplain).imp
  λσ H Q ⟨σd,h,Qd,rs,rh,t,p⟩=>LE.bind rs rh t λd v h1 H1 k1 rs1 rh1 r1 ⟨a,e,q⟩=>by
   subst e;obtain⟨e1,vs,hH⟩:=(show v= .ref a/\ ∃vs,H1 a=some (.lst vs) from r1);subst e1;refine⟨.inl ⟨rfl,vs,SqL.of hH⟩,?_⟩;refine LE.bind rs1 rh1 q λy u h2 H2 k2 rs2 rh2 r2 ⟨xs,hx,hz,q2⟩=> ?_
   obtain⟨ws,hW,r3⟩:=rh2 a xs hx;refine⟨a,ws,u,rfl,rfl,hW,by rw [<-r3.length];exact hz,p .non _ _ _ (k1.trans (k2.trans (.put hW))) (rh2.put hW (r3.append (.cons r2 .nil))) rfl q2⟩
def xW (to ti:TED):TGD:=λd σ h Q=>to σ h λo h1=>ti σ h1 λi h2=> ∃a k xs j,o= .lst a/\i= .int k/\h2 a=some xs/\ixN xs.length k=some j/\Q σ (yL h2 a (xs.set j d))
theorem xX (ho:QE X o to)(hi:QE X i ti)
 (ha: ∀v,assign (.Subscript o i pos) X.env v=(do
  let ov <-holding [v] (eval o X.env)
  let iv <-holding [v,ov] (eval i X.env)
  standAt pos
  holding [v,ov,iv] (setItem ov iv v)
  release [v,ov,iv] []):=by intro _;rfl):QG X (.Subscript o i pos) (xW to ti):=
 (uA ho hi Er ha).imp λv σ H Q ⟨d,σd,h,Qd,r,rs,rh,q,p⟩=>
  LE.bind rs rh q λd1 v1 h1 H1 k1 rs1 rh1 r1 q1=>LE.bind rs1 rh1 q1 λd2 v2 h2 H2 k2 rs2 rh2 r2 ⟨a,k,xs,j,e1,e2,hx,hj,q2⟩=>by
   subst e1 e2;have e3:v1= .ref a:=(r1.mono k2).1;obtain⟨ws,hW,r3⟩:=rh2 a xs hx;refine⟨a,ws,k,j,e3,r2,hW,by rw [<-r3.length];exact hj,p _ _ _ _ (k1.trans (k2.trans (.put hW))) (rs2.mono (.put hW)) (rh2.put hW (RelDs.set ((r.mono k1).mono k2) j r3)) q2⟩
end
def Tx (N:List Str)(sc:List (Str×NameKind))(scope:Scope)(js:List Nat):Bool:=
 scope.kind== .function&&scope.names.all (λp=>p.2 != .cell||scope.names.lookup p.1==some .cell)&&scope.names.all (λp=>p.2 != .local||scope.names.lookup p.1==some .local)&&
 scope.names.all (λp=>p.2 != .free||sc.lookup p.1==some .cell||sc.lookup p.1==some .free)&&
 (List.range N.length).all λi=>(scope.names.lookup (N.getD i Str.empty) !=some .local&&scope.names.lookup (N.getD i Str.empty) !=some .cell)||js.contains i
theorem ji {X:Cx}{scope:Scope}{js:List Nat}(h:Tx X.N X.env.scope.names scope js=true):BlockOk X scope js:=by
 unfold Tx at h;simp only [N0] at h;obtain⟨⟨⟨⟨h1,h2⟩,h3⟩,h4⟩,h5⟩:=h;refine⟨eq_of_beq h1,λp hp e=> ?_,λp hp e=> ?_,λp hp e=> ?_,λi x e1 e2=> ?_⟩
 ·have:=R5.mp h3 p hp;rw [e] at this;simpa using this
 ·have:=R5.mp h2 p hp;rw [e] at this;simpa using this
 ·have:=R5.mp h4 p hp;rw [e] at this;simpa using this
 ·have hi:i<X.N.length:=(G3.mp e1).1;have:=R5.mp h5 i (D1.mpr hi);rw [D9,e1,Option.getD_some] at this;rcases e2 with e2|e2<;>(rw [e2] at this;simpa using this)
theorem qpt {X:Cx}{e:Expr}{t:TTD}(h:QW X e t):QT X e t:=h.pt
theorem Ld {i:Nat}{js:List Nat}{ti:TID}{te:TED}{σ:SD}{h h1:HD}{Q:KD}{ds:List D}{j:ItD}(f:D->D)(hz:ds.length<=sizeLine)(hj:j h1=some ds)
 (ht: ∀R:ItD->HD->Prop,R j h1->ti σ h R)(he: ∀d∈ds,∀Q':KD,Q' (f d) h1->te ((za js σ).set i (some d)) h1 Q')(hq: ∀p,h1 p=none->Q (.lst p) (yL h1 p (ds.map f))):Yg (bN i) js ti Wg te σ h Q:=by
 refine ht _ ⟨ds.length,λk ys h'=>h'=h1/\ys=(ds.take k).map f,⟨rfl,by simp⟩,?_⟩;rintro k ys h' ⟨rfl,rfl⟩;refine⟨by simp only [G2,R0];omega,ds,hj,G6 _,λhl p hp=> ?_,λd hd=>⟨_,rfl,?_⟩⟩
 ·rw [R8 hl];exact hq p hp
 ·unfold Wg;dsimp only;rw [if_pos rfl];refine he d (G5 hd) _ ⟨h',Sub.refl _,rfl,?_⟩;rw [M1,hd];simp
end L2
namespace HT
open PySem PySem.Spec PyProof.Rows
section
variable {prog:Program}{w:World}{A:Around}{E:Value->Shared->Prop}{s:Shared}
theorem Zy {t sl:Addr}{items:Array Value}{vl vu:Value}{lo hi:Option Int}{Q:Value->Shared->Prop}(ht:IsTup s.heap t items)(hs:s.heap.IsSliceOf sl vl vu .none)(pl:IsPart vl lo)(pu:IsPart vu hi)
 (hw:sIx items.size 0 lo=0/\sIx items.size items.size hi=items.size)(h:Q (.ref t) s):wpAny (model prog w) A (getItem (.ref t) (.ref sl)) Q E s:=by
 obtain⟨os,hos,hcs,hds⟩:=id hs;have hTs:s.TypeIs (.ref sl) "slice" :=⟨os,hos,hcs⟩;unfold getItem
 try with_reducible refine B8 ?_
 first|refine wpAny_bind (G9 ?_)|skip
 refine wpAny_bind (wpAny_sequenceKey ht.typeIs (by decide) ?_);refine wpAny_bind (C8 (name:=Str.ofString "__getitem__") ht.typeIs H0
  (C4 H0 ht.typeIs entry_tuple_getitem ?_ (args_tuple_getitem _ _)))
 show wpAny _ _ (Builtin.Tuple.tupleItemsOf (.ref t) >>= _) _ _ s;refine wpAny_bind (tupleItemsOf_ ht ?_);refine wpAny_bind (wpAny_typeOf hTs ?_);rw [if_pos (by decide)];refine wpAny_bind (vI hs pl pu ?_);have hyes:((((sIx items.size 0 lo:Nat):Int)==0&&(1:Int)==1&&(sIx items.size items.size hi-sIx items.size 0 lo)==items.size)=true):=by
  rw [hw.1,hw.2];simp
 show wpAny _ _ (if (((sIx items.size 0 lo:Nat):Int)==0&&(1:Int)==1&&(sIx items.size items.size hi-sIx items.size 0 lo)==items.size)=true then _ else _) _ _ s;rw [if_pos hyes];refine wpAny_bind (m:=Builtin.Tuple.tupleIsExact (.ref t)) ?_;unfold Builtin.Tuple.tupleIsExact;refine wpAny_bind (wpAny_typeOf ht.typeIs (G9 ?_));rw [if_pos (by decide)];exact wpAny_bind (Z6 (G9 ⟨_,rfl,G9 h⟩))
end
end HT
namespace L2
open PySem PySem.Spec PyProof.Rows
def jda (K:PySem.W.Frag):V->Option Int->Option Int->Hp->VK->Prop:=λx lo hi H Q=> ∃a xs,x= .ref a/\SqT K H a xs/\(HT.sIx xs.length 0 lo=0/\HT.sIx xs.length xs.length hi=xs.length)/\Q (.ref a) H
variable {X:Cx}
theorem sl_whole:SlR X (jda X.K):=by
 intro pins s σ H x v vl vu lo hi sl Q I rx hs pl pu h;obtain⟨a,xs,rfl,hx,hw,q⟩:=h;cases rx;obtain⟨its,r,ht,hz⟩:=I.tuple hx;have hlen:its.toArray.size=xs.length:=by rw [P5];exact r.length.symm
 refine⟨"tuple",_,PyProof.Rows.slot_tuple_getitem.lookup,ht.typeIs,?_⟩;exact HT.Zy ht hs pl pu (by rw [hlen];exact hw) ⟨.ref a,H,I,rfl,q⟩
def VS {α:Type}(xs:List α)(lo hi:Option Int):List α:=(xs.drop (HT.sIx xs.length 0 lo)).take (HT.sIx xs.length xs.length hi-HT.sIx xs.length 0 lo)
abbrev TOD:=SD->HD->(Option Int->HD->Prop)->Prop
def Le:TOD:=λ_ h Q=>Q none h
def xY (t:TED):TOD:=λσ h Q=>t σ h λx h1=> ∃i,x= .int i/\Q (some i) h1
def LO (K:PySem.W.Frag)(t:TOD):TO:=λσ H Q=> ∃σd h Qd,RelS K H σd σ/\RelH K h H/\t σd h Qd/\ ∀o h' H',Kept H H'->RelH K h' H'->Qd o h'->Q o H'
theorem LO.bind {K:PySem.W.Frag}{ta:TOD}{σ:St}{H:Hp}{σd:SD}{h:HD}{kd:Option Int->HD->Prop}{k:Option Int->Hp->Prop}(rs:RelS K H σd σ)(rh:RelH K h H)(t:ta σd h kd)(f: ∀o h' H',Kept H H'->RelS K H' σd σ->RelH K h' H'->kd o h'->k o H'):LO K ta σ H k:=
 ⟨σd,h,kd,rs,rh,t,λo h' H' kp r1 q=>f o h' H' kp (rs.mono kp) r1 q⟩
theorem PO.imp {e:Option Expr}{t t':TO}(h:PO X e t)(i: ∀σ H Q,t' σ H Q->t σ H Q):PO X e t':=λpins s σ H Q I q=>h pins s σ H Q I (i σ H Q q)
abbrev QO (X:Cx)(e:Option Expr)(t:TOD):Prop:=PO X e (LO X.K t)
theorem Ke:QO X none Le:=po_none.imp λσ H Q ⟨σd,h,Qd,rs,rh,q,p⟩=>p none h H (.refl H) rh q
theorem Kf {e:Expr}{te:TED}(he:QE X e te):QO X (some e) (xY te):=(Hs he).imp λσ H Q ⟨σd,h,Qd,rs,rh,q,p⟩=>
 LE.bind rs rh q λd v h1 H1 k1 rs1 rh1 r1 ⟨i,e,q1⟩=>by subst e;exact⟨i,r1,p _ _ _ k1 rh1 q1⟩
def slD:D->Option Int->Option Int->HD->KD->Prop:=λx lo hi h Q=>match x with
 | .tup ds=>Q (.tup (VS ds lo hi)) h
 | .scr ns=> ∀p,h p=none->Q (.lst p) (yL h p ((VS ns lo hi).map D.int))
 | .lst a=> ∃ds,h a=some ds/\ ∀p,h p=none->Q (.lst p) (yL h p (VS ds lo hi))
 |_=>False
def dSl (te:TED)(tl th:TOD):TED:=λσ h Q=>te σ h λx h1=>tl σ h1 λl h2=>th σ h2 λu h3=>slD x l u h3 Q
theorem Qm {K:PySem.W.Frag}{H:Hp}{ds:List D}{vs:List V}(r:RelDs K H ds vs)(lo hi:Option Int):RelDs K H (VS ds lo hi) (AG vs lo hi):=by
 unfold VS AG;rw [r.length];exact(r.drop _).take _
theorem Kg {α β:Type}(f:α->β)(xs:List α)(lo hi:Option Int):VS (xs.map f) lo hi=(VS xs lo hi).map f:=by
 unfold VS;rw [G2,List.map_take,List.map_drop]
theorem xZ {e:Expr}{te:TED}{lo hi:Option Expr}{tl th:TOD}{pos p2:Pos}(he:QE X e te)(hl:QO X lo tl)(hu:QO X hi th):QE X (.Subscript e (.Slice lo hi none p2) pos) (dSl te tl th):=
 (Eq (sl_tup.or (sl_whole.or Ht)) he hl hu).imp λσ H Q ⟨σd,h,Qd,rs,rh,q,p⟩=>
  LE.bind rs rh q λd v h1 H1 k1 rs1 rh1 r1 q1=>LO.bind rs1 rh1 q1 λl h2 H2 k2 rs2 rh2 q2=>LO.bind rs2 rh2 q2 λu h3 H3 k3 rs3 rh3 q3=>by
   have rv:=(r1.mono k2).mono k3;have kk:=k1.trans (k2.trans k3);cases d<;>first
    |exact False.elim q3
    |skip
   ·rename_i ds;obtain⟨a,vs,e1,hH,r⟩:=(show ∃a vs,v= .ref a/\H3 a=some (.tup vs)/\RelDs X.K H3 ds vs from rv)
    by_cases hw:HT.sIx vs.length 0 l=0/\HT.sIx vs.length vs.length u=vs.length
    ·refine .inr (.inl ⟨a,vs,e1,SqT.of hH,hw,p (.tup (VS ds l u)) _ _ _ kk rh3 ⟨a,vs,rfl,hH,?_⟩ q3⟩);have z:=Qm r l u;have e:AG vs l u=vs:=by unfold AG;rw [hw.1,hw.2];simp
     rwa [e] at z
    ·exact .inl ⟨a,vs,e1,SqT.of hH,hw,λc hc=>p (.tup (VS ds l u)) _ _ _ (kk.trans (.new hc)) (rh3.new hc) ⟨c,_,rfl,jt,(Qm r l u).mono (.new hc)⟩ q3⟩
   ·rename_i a;obtain⟨ds,hd,q3⟩:=q3;obtain⟨vs,hH,r⟩:=rh3 a ds hd;exact .inr (.inr ⟨a,vs,rv.1,SqL.of hH,λc hc=>p (.lst c) _ _ _ (kk.trans (.new hc)) (rh3.newL hc (Qm r l u)) ⟨rfl,_,jt⟩ (q3 c (rh3.free hc))⟩)
   ·rename_i ns;obtain⟨a,e1,hS⟩:=(show ∃a,v= .ref a/\Scr X.K H3 a ns from rv);refine .inr (.inr ⟨a,_,e1,hS.sq,λc hc=>p (.lst c) _ _ _ (kk.trans (.new hc)) (rh3.newL hc ?_) ⟨rfl,_,jt⟩ (q3 c (rh3.free hc))⟩);have z:=Qm (JN (K:=X.K) (H:=H3) ns) l u
    rwa [Kg] at z
end L2
namespace HT
open PySem PySem.Spec PyProof.Rows
open Sem (wp)
open Builtin
theorem Ve:fillsNumberSlot (.type "tuple") "mul" =pure false:=
 PySem.fillsNumberSlot_seq (id:= "tuple.__mul__") (r:=some (.builtin "tuple.__rmul__")) F.slot_tuple_mul.lookup (by decide +kernel) F.slot_tuple_rmul.lookup (by decide +kernel)
theorem PV:seqRepeat? (.type "tuple")=pure (some (.builtin "tuple.__mul__")):=by
 unfold seqRepeat?;rw [PySem.seqSlot_of (T:= "tuple") (name:= "__mul__") (id:= "tuple.__mul__") F.slot_tuple_mul.lookup (by decide +kernel),PySem.seqSlot_of (T:= "tuple") (name:= "__rmul__") (id:= "tuple.__rmul__") F.slot_tuple_rmul.lookup (by decide +kernel)];rfl
section
variable {prog:Program}{w:World}{A:Around}{E:Value->Shared->Prop}{s:Shared}
theorem Qn {k:Int}{t:Tok}{l:Addr}{o:Obj}{its:Array Value}{n:Nat}{P:PySem.Fin->Shared->Prop}(at_:s.heap.get? l=some o)(tup:o.cls= .type "tuple")(dat:o.data= .seq its n)(h:P (.done (.ret .notImplemented)) s):wpAny (model prog w) A (Builtin.«int.__rmul__» ⟨[.int k t,.ref l],[]⟩) P E s:=by
 obtain⟨c,dd,dt,sl⟩:=o;cases tup;cases dat;obtain⟨hp,g,d,tk,os⟩:=s
 wp_walk
 exact h
theorem Mo {l:Addr}{its:Array Value}{n:Nat}{x:Int}{u:Tok}{dd:Option Addr}{sl:Array (Option Value)}{P:PySem.Fin->Shared->Prop}(at_:s.heap.get? l=some {cls:= .type "tuple",dict:=dd,data:= .seq its n,slots:=sl})(fits: -(2^63)<=x/\x<2^63)
 (same:(its.isEmpty||x==1)=true->P (.done (.ret (.ref l))) s)
 (gone:(its.isEmpty||x==1)=false->(decide (x<=0)||its.isEmpty)=true->P (.done (.ret (.ref s.heap.objs.size))) {s with heap:=s.heap.push {cls:= .type "tuple",data:= .seq #[]}})
 (more:(its.isEmpty||x==1)=false->(decide (x<=0)||its.isEmpty)=false-> ¬ (its.size:Int)*x>(2^63-1) / 8/\Builtin.Tuple.tupleTooMany ((its.size:Int)*x)=false/\((List.replicate x.toNat its).foldl (· ++ ·) #[]).size<=sizeLine/\
  P (.done (.ret (.ref s.heap.objs.size))) {s with heap:=s.heap.push {cls:= .type "tuple",data:= .seq ((List.replicate x.toNat its).foldl (· ++ ·) #[])}}):
 wpAny (model prog w) A (Builtin.«tuple.__mul__» ⟨[.ref l,.int x u],[]⟩) P E s:=by
 obtain⟨hp,g,d,tk,os⟩:=s
 wp_walk
 rw [if_neg (by simp only [Z8,N3];omega)]
 wp_walk
 cases c1:(its.isEmpty||x==1) with
 |true=>
  rw [if_pos rfl]
  wp_walk
  exact same c1
 |false=>
  rw [if_neg P6];cases c2:(decide (x<=0)||its.isEmpty) with
  |true=>
   rw [if_pos rfl]
   wp_walk
   exact gone c1 c2
  |false=>
   obtain⟨m1,m2,m3,m4⟩:=more c1 c2;rw [if_neg P6];dsimp only;rw [if_neg m1,m2,if_neg P6]
   wp_walk
   exact m4
end
end HT
namespace L2
open PySem PySem.Spec PyProof.Rows
def jbA (K:PySem.W.Frag):R2:=λx y H Q=> ∃ (a:Addr) (k:Int) (xs:List V),x= .ref a/\y= .int k/\SqT K H a xs/\ -(2^63)<=k/\k<2^63/\xs.length*k.toNat<=sizeLine/\
 ((xs= []\/k=1)->Q (.ref a) H)/\(¬ (xs= []\/k=1)-> ∀p,H p=none->Q (.ref p) (upd H p (.tup (List.replicate k.toNat xs).flatten)))
theorem Vs {l:List Value}:l.toArray= #[]↔l= []:=by cases l<;>simp
variable {X:Cx}
theorem Kh:OpR X (binaryOp .Mult) (jbA X.K):=by
 intro pins s σ H x y v u Q I rx ry h;obtain⟨a,k,xs,rfl,rfl,hH,h1,h2,hz,q1,q2⟩:=h;cases rx;obtain⟨t,rfl⟩:=ry;obtain⟨its,r,ht,_⟩:=I.tuple hH;obtain⟨⟨cls,dd,data,sl⟩,ho,hc,n,hd⟩:=id ht;simp only at hc hd;subst hc hd;have hl:=r.length;have hnew:(List.replicate k.toNat its.toArray).foldl (· ++ ·) #[]=(List.replicate k.toNat its).flatten.toArray:=by
  have:=VG its k.toNat [];rw [T8] at this;exact this
 have few:its.length*k.toNat<=sizeLine:=by rw [<-hl];exact hz
 have free:=I.hok.fresh (G6 _);refine G0v (T:= "tuple") (U:= "int") (by decide) ⟨_,ho,rfl⟩ (λs'=>G04 s' k t) HT.Ve F.fills_int_mul Z7 HT.PV F.slot_int_index.lookup
  (C4 Z7 (G04 s k t) F.entry_int_rmul (HT.Qn ho rfl rfl ⟨_,rfl,rfl,⟨_,ho,rfl⟩,C4 F.slot_tuple_mul ⟨_,ho,rfl⟩ F.entry_tuple_mul (HT.Mo ho ⟨h1,h2⟩ (λc=> ?_) (λc c0=> ?_) (λc c0=> ?_)) (F.args_tuple_mul_2 _ _)⟩) (F.args_int_rmul_2 _ _))
 ·refine⟨_,rfl,.ref a,H,I,rfl,q1 ?_⟩;simp only [Z8,V2,Array.isEmpty_iff,Vs] at c;exact c.imp (λe=>r.nil_iff.mp e) id
 ·simp only [G06,U6,G0j,ne_eq,Vs] at c;have k0:k.toNat=0:=by
   simp only [Z8,N3,Array.isEmpty_iff,Vs] at c0;have:=c0.resolve_right c.1;omega
  have last:=q2 (λz=>z.elim (λe=>c.1 (r.nil_iff.mpr e)) c.2) _ free;rw [k0] at last;exact⟨_,rfl,.ref s.heap.objs.size,_,I.laid (t':=s.toks) (o:= .tup []) (λb ob q=>G1 _ q) (G6 _) ⟨by decide,[],.nil,IsTupN.new _ _⟩,rfl,last⟩
 ·simp only [G06,U6,G0j,ne_eq,Vs,decide_eq_false_iff_not] at c c0;have em:((its.toArray.size:Nat):Int)*k=((its.length*k.toNat:Nat):Int):=by rw [Int.natCast_mul,P5,show ((k.toNat:Nat):Int)=k by omega]
  have cap:(sizeLine:Nat)<=(2^63-1) / 8:=by decide
  rw [em,hnew];refine⟨by omega,by unfold Builtin.Tuple.tupleTooMany;exact decide_eq_false (by omega),by rw [List.size_toArray,Ml,Nat.mul_comm];exact few,_,rfl,.ref s.heap.objs.size,_,I.laid (t':=s.toks) (o:= .tup (List.replicate k.toNat xs).flatten) (λb ob q=>Heap.get?_push_of_some _ q) (Nat.le_refl _) ⟨by rw [Ml,Nat.mul_comm];exact hz,_,r.rep k.toNat,IsTupN.new _ _⟩,rfl,q2 (λz=>z.elim (λe=>c.1 (r.nil_iff.mpr e)) c.2) _ free⟩
def jbB:RD2:=λx y h Q=>match x,y with
 | .tup ds,.int k=> -(2^63)<=k/\k<2^63/\ds.length*k.toNat<=sizeLine/\Q (.tup (List.replicate k.toNat ds).flatten) h
 |x,y=>jcr x y h Q
theorem Yh:OpQ X (binaryOp .Mult) jbB:=(oq_mul.or Kh).imp λx y H Q ⟨dx,dy,h,Qd,rx,ry,rh,q,p⟩=>by
 by_cases ht: ∃ds k,dx= .tup ds/\dy= .int k
 ·obtain⟨ds,k,e1,e2⟩:=ht;subst e1 e2;obtain⟨b1,b2,hz,q⟩:=q;obtain⟨a,vs,e,hH,r⟩:=(show ∃a vs,x= .ref a/\H a=some (.tup vs)/\RelDs X.K H ds vs from rx);refine .inr ⟨a,k,vs,e,ry,SqT.of hH,b1,b2,by rw [<-r.length];exact hz,λhs=> ?_,λ_ c hc=>p (.tup _) _ _ _ (.new hc) (rh.new hc) ⟨c,_,rfl,jt,(r.flat _).mono (.new hc)⟩ q⟩;refine p (.tup _) _ _ _ (.refl H) rh ⟨a,vs,rfl,hH,?_⟩ q;rcases hs with e0|e1
  ·subst e0;have:ds= []:=J7.mp r.length;subst this;simpa using r
  ·subst e1;simpa using r
 ·refine .inl ⟨dx,dy,h,Qd,rx,ry,rh,?_,p⟩;unfold jbB at q;split at q
  ·exact absurd ⟨_,_,rfl,rfl⟩ ht
  ·exact q
def jbC:D->HD->KD->Prop:=λx h Q=>match x with
 | .int i=>Q (.int (-i)) h
 |_=>False
def dUn (f:D->HD->KD->Prop)(ta:TED):TED:=λσ h Q=>ta σ h λx h1=>f x h1 Q
theorem jdb {a:Expr}{ta:TED}{pos:Pos}(ha:QE X a ta):QE X (.UnaryOp .USub a pos) (dUn jbC ta):=
 (jaQ uN ha).imp λσ H Q ⟨σd,h,Qd,rs,rh,t,p⟩=>LE.bind rs rh t λd v h1 H1 k1 rs1 rh1 r1 q=>by
  cases d<;>first
   |exact False.elim q
   |exact⟨_,r1,p (.int _) _ _ _ k1 rh1 rfl q⟩
def NZ (x:Str)(i:Int):TED:=λ_ h Q=>Q (.dic x i) h
variable {p:Addr}
theorem EB {H:Hp}{a b:HO}:upd (upd H p a) p b=upd H p b:=by
 funext q;unfold upd;split<;>rfl
variable {x:Str}
theorem qc {i:Int}{j k:Nat}{pos p1 p2:Pos}:QE X (.Dict [some (.Constant (.str x) j p1)] [.Constant (.int i) k p2] pos) (NZ x i):=by
 have h0:PPs X pos [some (.Constant (.str x) j p1)] [.Constant (.int i) k p2] [(tC (.str x),tC (.int i))]:=Eu pe_str pe_int Hy;refine PE.imp (Hz h0 rfl rfl (by simp) (by simp)) ?_;rintro σ H Q ⟨σd,h,Qd,rs,rh,t,p⟩ q hq;show upd H q (.dK []) q=some (.dK [])/\_;refine⟨jt,[((Sum.inr x:Key),V.int i)],rfl,by simp,?_⟩;rw [EB];exact p (.dic x i) (.ref q) h _ (.new hq) (rh.new hq) ⟨q,rfl,jt⟩ t
def Mp:List (Option Expr)->List Expr->Option (Str×Int)
 | [some (.Constant (.str x) _ _)],[.Constant (.int i) _ _]=>some (x,i)
 |_,_=>none
theorem qe {ks:List (Option Expr)}{vs:List Expr}{pos:Pos}{i:Int}(h:Mp ks vs=some (x,i):=by rfl):QE X (.Dict ks vs pos) (NZ x i):=by
 unfold Mp at h;split at h
 ·cases h;exact qc
 ·cases h
def qg (K:PySem.W.Frag)(tl:TE):TI:=λσ H R=>tl σ H λx H1=> ∃a,x= .ref a/\((∃xs,SqL K H1 a xs/\R (Itl K a) H1)\/ ∃xs,SqT K H1 a xs/\R (Itt K a) H1)
theorem qh {tg l:Expr}{tl:TE}(hl:PE X l tl):PI X tg l (qg X.K tl):=by
 intro pins s σ H R I h;refine thn (hl pins s σ H _ I h) λv s1 ⟨x,H1,I1,r1,q1⟩=> ?_
 obtain⟨a,e,q⟩:=q1;subst e;cases r1;rcases q with ⟨xs,hq,q⟩|⟨xs,hq,q⟩
 ·obtain⟨its,rv,p,hz⟩:=I1.list hq;refine A2 p.isList ?_;refine⟨s1.heap.objs.size,[s1.heap.objs.size],_,_,H1,rfl,I1.kept (t':=s1.toks) λb o e=>G1 _ e,Px a _,⟨_,P9 _ rfl,rfl,rfl⟩,λb hb=> ?_,q⟩;have e:b=s1.heap.objs.size:=by simpa using hb
  subst e;exact I1.fpOk (G6 _) (I1.hok.fresh (G6 _))
 ·obtain⟨its,rv,p,hz⟩:=I1.tuple hq;refine O7 (show s1.heap.IsTuple a its.toArray from p) ?_;refine⟨s1.heap.objs.size,[s1.heap.objs.size],_,_,H1,rfl,I1.kept (t':=s1.toks) λb o e=>G1 _ e,BP a _,⟨_,P9 _ rfl,rfl,rfl⟩,λb hb=> ?_,q⟩;have e:b=s1.heap.objs.size:=by simpa using hb
  subst e;exact I1.fpOk (G6 _) (I1.hok.fresh (G6 _))
def iS (te:TED):TID:=λσ h R=>te σ h λx h1=>match x with
 | .lst a=>R (λh=>h a) h1
 | .tup ds=>R (λ_=>some ds) h1
 | .scr ns=>R (λ_=>some (ns.map D.int)) h1
 |_=>False
variable {K:PySem.W.Frag}
theorem EC {H:Hp}{a:Addr}{ns:List Int}(hs:Scr K H a ns):Ew K H (λ_=>some (ns.map D.int)) (Itl K a):=λH' h' k rh ds' e i=>by
 cases e;have hs':Scr K H' a ns:=hs.elim (λ⟨o,z⟩=> .inl ⟨o,k.frz _ _ _ z⟩) .inr;refine⟨λd hd=> ?_,λhl=>⟨_,hs'.sq,by simpa using hl⟩⟩;obtain⟨v,e1,e2⟩:=(JN (K:=K) (H:=H') ns).get hd;refine⟨⟨_,v,hs'.sq,e1⟩,λx H'' ⟨eH,hx⟩=> ?_⟩;subst eH;have:=hx _ hs'.sq;rw [e1] at this;cases this;exact⟨.refl _,rh,e2⟩
variable {te:TED}
theorem qi: ∀σ H R,LI K (iS te) σ H R->qg K (LE K te) σ H R:=λσ H R ⟨σd,h,Rd,rs,rh,q,p⟩=>
 LE.bind rs rh q λd v h1 H1 k1 rs1 rh1 r1 q1=>by
  cases d<;>first
   |exact False.elim q1
   |skip
  ·rename_i ds;obtain⟨a,vs,e,hv,r⟩:=(show ∃a vs,v= .ref a/\H1 a=some (.tup vs)/\RelDs K H1 ds vs from r1);exact⟨a,e,.inr ⟨vs,SqT.of hv,p _ _ _ _ k1 rh1 (Ey hv r) q1⟩⟩
  ·rename_i a;obtain⟨e,vs,hv⟩:=(show v= .ref a/\ ∃vs,H1 a=some (.lst vs) from r1);exact⟨a,e,.inl ⟨vs,SqL.of hv,p _ _ _ _ k1 rh1 (PN H1 a) q1⟩⟩
  ·rename_i ns;obtain⟨a,e,hS⟩:=(show ∃a,v= .ref a/\Scr K H1 a ns from r1);exact⟨a,e,.inl ⟨_,hS.sq,p _ _ _ _ k1 rh1 (EC hS) q1⟩⟩
theorem qj {tg e:Expr}(he:QE X e te):QI X tg e (iS te):=(qh he).imp qi
def Ty:TSD:=λ_ _ _=>False
theorem qk {st:Stmt}:QS X st Ty:=λ_ _ _ _ _ _ ⟨_,_,_,_,_,z,_⟩=>z.elim
structure Zs (mg:Str->Option Value):Prop where
 len:mg "len" =none
 max:mg "max" =none
 min:mg "min" =none
 divmod:mg "divmod" =none
 all:mg "all" =none
 any:mg "any" =none
 repr:mg "repr" =none
 sum:mg "sum" =none
 sorted:mg "sorted" =none
 int:mg "int" =none
 tuple:mg "tuple" =none
 list:mg "list" =none
 set:mg "set" =none
 bool:mg "bool" =none
 isinstance:mg "isinstance" =none
 range:mg "range" =none
 zip:mg "zip" =none
 enumerate:mg "enumerate" =none
 reversed:mg "reversed" =none
def jp (P:Program)(w:World)(K:PySem.W.Frag)(mg:Str->Option Value)(base:Heap)(n:Nat)(x:Str)(ps:List Str)(sp:RDn):Prop:=
 ∃ (g:Addr) (gd:FuncData),FnOk P w K mg base CX0 n g gd ps (LSp K sp)/\Binds K gd ps []/\PySem.W.keepIn K (.ref g)=true/\mg x=some (.ref g)
def Lf:RDn:=λds h Q=> ∃ns,ds= [.scr ns]/\(∀a,h a=none)/\ns.length<=63/\ ∀h',Q (.bl true) h'
def Bm (mg:Str->Option Value)(base:Heap):Prop:= ∃bm ob,mg "__builtins__" =some (.ref bm)/\bm≠builtinsNs/\base.get? bm=some ob/\ob.cls= .type "module" /\ob.dict=some builtinsNs/\ob.data= .plain
def yO (K:PySem.W.Frag):List (Addr×Addr):=LN.filterMap (PySem.W.tabIn K)
theorem TabK.mem {P:Addr}(h:TabK K P): ∃c,(c,P)∈yO K:=let ⟨x,hx,c,e⟩:=h;⟨c,K2.mpr ⟨x,hx,e⟩⟩
theorem Lg {P:Program}{w:World}{mg mb:Str->Option Value}{k:Nat}{fa a:Addr}{fd:FuncData}{s₁:Shared}{vs:List Value}{ns:List Int}
 (KX:K.In s₁.heap)(hns:s₁.heap.Ns mainGlobals mg)(hb:s₁.heap.Ns builtinsNs mb)(hbb: ∀x:Str,x≠ "__name__" ->mb x=bootBuiltins x)(hlim:s₁.heap.NoLimit)(hg:s₁.gens= #[])
 (ha:s₁.heap.get? a=some {cls:= .type "list",data:= .seq vs.toArray})(hi:IntsAre vs ns)(hl:ns.length<=63)(hr:Room k callerA)
 (hbm:Bm mg s₁.heap)(F: ∀base:Heap,K.In base->base.Ns mainGlobals mg->Bm mg base->FnOk P w K mg base CX0 k fa fd [x] (LSp K Lf))(hbind: ∀ (s:Shared) (u:Value),BindsTo s fd ⟨[u],[]⟩ [(x,u)])
 (hT: ∀p∈yO K,PySem.W.CodeHd s₁.heap p.1 p.2/\s₁.heap.get? p.2=some (PySem.W.tabObj #[])/\K.lookup p.2=none):
 codeAny (model P w) callerA (.call (.ref fa) ⟨[.ref a],[]⟩) (λr s'=>r= .ok (.ret (.bool true))/\OldK s₁.heap s'.heap/\s'.os=s₁.os/\AllBare s'.gens) s₁:=by
 have rv:=PH hi;have lenV:=hi.length;have hz:ns.length<=sizeLine:=S1 hl (by decide);have hT': ∀b,b∈(yO K).map (·.2)-> ∃c,PySem.W.CodeHd s₁.heap c b/\s₁.heap.get? b=some (PySem.W.tabObj #[])/\K.lookup b=none:=λb hb=>by
  obtain⟨p,hp,rfl⟩:=R3.mp hb;exact⟨p.1,hT p hp⟩
 have core: ∀H:Hp,Scr K H a ns->HOk P w H s₁.heap->(∀b u,H b=some u->(b=a/\K.lookup a=none/\ ∃o xs,u= .frz o (.lst xs))\/(b∈(yO K).map (·.2)/\u= .tbl #[]))->(∀b,b∈(yO K).map (·.2)->H b=some (.tbl #[]))->
  codeAny (model P w) callerA (.call (.ref fa) ⟨[.ref a],[]⟩) (λr s'=>r= .ok (.ret (.bool true))/\OldK s₁.heap s'.heap/\s'.os=s₁.os/\AllBare s'.gens) s₁:=by
  intro H hS hok hA hTt;have noA: ∀ {b:Addr} {o:Obj} {es:Array DictEntry} {ep:Nat},s₁.heap.get? b=some o->o.data= .dict es ep->H b=none:=λ{b o es ep} e d=>by
   cases q:H b with
   |none=>rfl
   |some u=>
    rcases hA b u q with ⟨rfl,_,_⟩|⟨z,_⟩
    ·rw [ha] at e;cases e;have d':Data.seq vs.toArray _=Data.dict es ep:=d;cases d'
    ·obtain⟨c,_,e2,_⟩:=hT' b z;rw [e2] at e;cases e;have d':Data.fields _=Data.dict es ep:=d;cases d'
  have nsK: ∀ {b:Addr} {m:Str->Option Value},s₁.heap.Ns b m->(Ef s₁.heap H).Ns b m:=λ{b m} ⟨o,es,ep,e,d,r⟩=>⟨o,es,ep,Qa e (noA e d),d,r⟩
  have hKb:K.In (Ef s₁.heap H):=λb o e=>Qa (KX b o e) (by
   cases q:H b with
   |none=>rfl
   |some u=>
    rcases hA b u q with ⟨rfl,z,_⟩|⟨z,_⟩
    ·rw [z] at e;cases e
    ·obtain⟨c,_,_,z2⟩:=hT' b z;rw [z2] at e;cases e)
  have hM:Mod K mg (Ef s₁.heap H):=⟨hKb,nsK hns,⟨mb,nsK hb,hbb⟩,let ⟨mc,h1,h2⟩:=hlim;⟨mc,nsK h1,h2⟩⟩;have e0:Env0 P w K mg (Ef s₁.heap H) callerA [] s₁ H:=⟨rfl,hM,λb o e=>Hb e,E2 (Fr _ _),trivial,λb hb=>absurd (show b∈([]:List Addr) from hb) (by simp),hok,.of_eq hg⟩;have hsp:LSp K Lf [.ref a] H (λv _=>v= .bl true) (λ_ _ _=>False):=by
   refine⟨[.scr ns],λ_=>none,λd _=>d= .bl true,⟨.ref a,[],rfl,⟨a,rfl,hS⟩,rfl⟩,⟨λb ds e=>(by cases e),λp hp=> ?_⟩,⟨ns,rfl,λ_=>rfl,hl,λ_=>rfl⟩,?_⟩
   ·obtain⟨c,hc⟩:=hp.mem;exact⟨#[],hTt p (G1i (f:=(·.2)) hc),trivial,λpos cv e=>(by cases e)⟩
   ·intro d v h' H' _ _ r e;subst e;exact r
  have hBm:Bm mg (Ef s₁.heap H):=by
   obtain⟨bm,ob,b1,b2,b3,b4,r⟩:=hbm;refine⟨bm,ob,b1,b2,Qa b3 ?_,b4,r⟩;cases q:H bm with
   |none=>rfl
   |some u=>
    rcases hA bm u q with ⟨rfl,_,_⟩|⟨z,_⟩
    ·rw [ha] at b3;cases b3;exact absurd (Value.type.inj b4) (by decide)
    ·obtain⟨c,_,e2,_⟩:=hT' bm z;rw [e2] at b3;cases b3;cases b4
  refine X6 ((F _ hKb (nsK hns) hBm).run callerA [] s₁ H ⟨[.ref a],[]⟩ [.ref a] [.ref a] _ _ hr e0 (hbind s₁ (.ref a)) (.cons rfl .nil) hsp) λr s' h=> ?_
  cases r with
  |error e=>exact False.elim h
  |ok fl=>
   cases fl with
   |next=>exact False.elim h
   |brk=>exact False.elim h
   |cont=>exact False.elim h
   |ret u=>
    obtain⟨v,H',os,bare,un,hok',r',q⟩:=h;have q':v= .bl true:=q;subst q';obtain rfl:u=Value.bool true:=r';have one: ∀b o,s₁.heap.get? b=some o->s'.heap.get? b=some o\/(b∈(yO K).map (·.2)/\ ∃more,s'.heap.get? b=some (PySem.W.tabObj more)):=λb o e=>by
     cases q:H b with
     |none=>exact .inl (un.keep b o e q (by intro z;exact absurd (show b∈([]:List Addr) from z) (by simp)) (by simp))
     |some u=>
      rcases hA b u q with ⟨rfl,_,ob,xs,rfl⟩|⟨z,rfl⟩
      ·have z2:=un.frzs _ ob _ q;obtain⟨e1,_⟩:=hok _ _ q;obtain⟨e2,_⟩:=hok' _ _ z2;rw [e] at e1;cases e1;exact .inl e2
      ·obtain⟨more,z2⟩:=un.tbls b _ q;exact .inr ⟨z,_,(show s'.heap.get? b=some _ from hok' b _ z2)⟩
    refine⟨rfl,⟨λb o e=> ?_,λb o e=> ?_⟩,os,bare⟩
    ·rcases one b o e with z|⟨z,more,z2⟩
     ·exact .inl z
     ·obtain⟨c,hc,e2,_⟩:=hT' b z;rw [e] at e2;cases e2;refine .inr (.inl ⟨(hc.tab e).isCodeTable,rfl,#[],more,rfl,?_⟩);rw [z2];simp
    ·rcases one b o e with z|⟨z,more,z2⟩
     ·exact⟨_,z⟩
     ·exact⟨_,z2⟩
 have nT:a ∉ (yO K).map (·.2):=λz=>by
  obtain⟨c,_,e2,_⟩:=hT' a z;rw [ha] at e2;cases e2
 have okT: ∀ {H:Hp} (b:Addr),b∈(yO K).map (·.2)->ObjOk P w H s₁.heap b (.tbl #[]):=λb hb=>let ⟨_,_,e,_⟩:=hT' b hb;e
 cases hk:K.lookup a with
 |some o=>
  have e:=KX a o hk;rw [ha] at e;cases e;refine core (λb=>if b∈(yO K).map (·.2) then some (.tbl #[]) else none) (.inr ⟨_,vs.toArray,_,hk,rfl,rfl,rfl,by rw [P5,lenV];exact hz,by simpa using rv⟩) (λb u z=> ?_) (λb u z=> ?_) λb hb=>if_pos hb
  ·by_cases hb:b∈(yO K).map (·.2)
   ·have z':=(if_pos hb).symm.trans z;cases z';exact okT b hb
   ·have z':=(if_neg hb).symm.trans z;cases z'
  ·by_cases hb:b∈(yO K).map (·.2)
   ·have z':=(if_pos hb).symm.trans z;cases z';exact .inr ⟨hb,rfl⟩
   ·have z':=(if_neg hb).symm.trans z;cases z'
 |none=>
  refine core (λb=>if b=a then some (.frz {cls:= .type "list",data:= .seq vs.toArray} (.lst (ns.map V.int))) else if b∈(yO K).map (·.2) then some (.tbl #[]) else none) (.inl ⟨{cls:= .type "list",data:= .seq vs.toArray},if_pos rfl⟩) (λb u z=> ?_) (λb u z=> ?_) λb hb=> ?_
  ·by_cases hb:b=a
   ·have z':=(if_pos hb).symm.trans z;cases z';subst hb;exact⟨ha,by rw [G2];exact hz,vs,_,rv,ha⟩
   ·have z':=(if_neg hb).symm.trans z
    by_cases hb2:b∈(yO K).map (·.2)
    ·have z2:=(if_pos hb2).symm.trans z';cases z2;exact okT b hb2
    ·have z2:=(if_neg hb2).symm.trans z';cases z2
  ·by_cases hb:b=a
   ·have z':=(if_pos hb).symm.trans z;cases z';exact .inl ⟨hb,hk,_,_,rfl⟩
   ·have z':=(if_neg hb).symm.trans z
    by_cases hb2:b∈(yO K).map (·.2)
    ·have z2:=(if_pos hb2).symm.trans z';cases z2;exact .inr ⟨hb2,rfl⟩
    ·have z2:=(if_neg hb2).symm.trans z';cases z2
  ·have:b≠a:=λz=>nT (z ▸ hb)
   show (if b=a then _ else _)=_;rw [if_neg this,if_pos hb]
def jbD (q:Program)(K:PySem.W.Frag):Bool:=LN.all λx=>match PySem.W.tabIn K x with
 |some p=>(K.lookup p.2).isNone&&((PyProof.Rows.recsOf q).find? (λe=>e.name==x)).isSome
 |none=>true
theorem ED {l:PySem.W.OpenLaw}{k:Nat}{q:Program}{loose:List Str}{XP:(Str->Option Value)->Heap->Prop}{YP:World->Heap->Prop}{d:DefRec}{K:Params->PySem.W.Frag}(hn:l.most=some 63)(hdf:d.params.defaults= [])(hr:Room k callerA)
 (hY: ∀ (w:World) (h:Heap),YP w h->(K w.params).In h)(hB: ∀w:World,jbD q (K w.params)=true)
 (F: ∀ (w:World) (mg:Str->Option Value) (fa:Addr) (h:Heap),(K w.params).In h->h.Ns mainGlobals mg->mg d.name=some (.ref fa)->
  ∃fd:FuncData,(∀ (s:Shared) (u:Value),BindsTo s fd ⟨[u],[]⟩ [(x,u)])/\ ∀base:Heap,(K w.params).In base->base.Ns mainGlobals mg->Bm mg base->FnOk l.prog w (K w.params) mg base CX0 k fa fd [x] (LSp (K w.params) Lf)):
 PySem.W.WalkO q loose XP YP l.row.toRowW d [] (λf vs=>PySem.call f vs):=by
 refine Att.attach_call hn hdf λw s₀ s₁ mg mb fa o pm cd doc a vs ns G Y ho hd hcd hmg hobj hints hlen hg=> ?_
 have KX:=hY w _ Y;obtain⟨fd,hb,hF⟩:=F w mg fa _ KX G.T.g hmg;refine Lg KX G.T.g G.T.b G.T.builtins G.T.nolimit hg hobj hints hlen hr G.T.bmain hF hb λp hp=> ?_
 obtain⟨x,hx,e⟩:=K2.mp hp;have z:=R5.mp (hB w) x hx;rw [e] at z;simp only [N0,Option.isNone_iff_eq_none] at z;obtain⟨dd,hdd⟩:=C5.mp z.2;have t:=PySem.W.tab_of (c:=p.1) (P:=p.2) G.T KX hdd e;exact⟨t.1,t.2,z.1⟩
def Mq:Expr->Bool
 | .Starred .. =>false
 |_=>true
theorem Mr {e:Expr}{es:List Expr}{env:Env}(h:Mq e=true):starEach (e::es) env=(false,eval e env)::starEach es env:=by
 cases e<;>first|rfl|cases h
theorem qac {e:Expr}{es:List Expr}{t:TAD}(ha:QE X e te)(hr:QA X es t)(h:Mq e=true:=by rfl):QA X (e::es) (yf te t):=FS ha hr (Mr h)
theorem Qo {α:Type}{xs:List α}{i:Int}(h0:0<=i)(h1:i<xs.length): ∃x∈xs,atI xs i=some x:=by
 have hk:i.toNat<xs.length:=by omega
 have ek:i=((i.toNat:Nat):Int):=by omega
 have z:=ye (G0 hk);rw [<-ek] at z;exact⟨xs[i.toNat],S9 hk,z⟩
variable {h h':HD}{L:List D}
theorem Sub.both (s:Sub h h'):Sub (yL h p L) (yL h' p L):=λa ds e=>by
 by_cases q:a=p
 ·subst q;rw [je] at e ⊢;exact e
 ·rw [zT q] at e ⊢;exact s a ds e
theorem Sub.newAt (s:Sub h h')(e:h' p=none):Sub h (yL h' p L):=s.trans (.new e)
def But (p:Addr)(h h':HD):Prop:= ∀a ds,a≠p->h a=some ds->h' a=some ds
theorem But.refl (p:Addr)(h:HD):But p h h:=λ_ _ _ e=>e
variable {q:Addr}
theorem But.new (s:But p h h')(e:h' q=none):But p h (yL h' q L):=λa ds n z=>by
 have:=s a ds n z;rw [zT (λw=>by subst w;rw [e] at this;cases this)];exact this
theorem But.put (s:But p h h'):But p h (yL h' p L):=λa ds n z=>by rw [zT n];exact s a ds n z
theorem But.putNew (s:But p h h')(e:h q=none):But p h (yL h' q L):=λa ds n z=>by
 rw [zT (λw=>by subst w;rw [e] at z;cases z)];exact s a ds n z
theorem But.sub (s:But p h h')(e:h' p=some L):Sub (yL h p L) h':=λa ds z=>by
 by_cases q:a=p
 ·subst q;rw [je] at z;cases z;exact e
 ·rw [zT q] at z;exact s a ds q z
theorem But.upd:But p h (yL h p L):=λa ds n z=>by rw [zT n];exact z
theorem zc (e:h p=some L)(f:h q=none):q≠p:=λz=>by subst z;rw [e] at f;cases f
theorem jn {M:List D}(e:h p=some L)(f:h q=none):yL h q M p=some L:=by rw [zT (λz=>by subst z;rw [e] at f;cases f)];exact e
theorem jG {a b:Addr}{M:List D}(n:b≠a)(e:h b=some M):yL h a L b=some M:=by rw [zT n];exact e
theorem PX {n:Nat}{i:Nat}{d:D}(h:((List.range n).map λ(k:Nat)=>D.int (k:Int))[i]? =some d):i<n/\d= .int i:=by
 rw [P1] at h
 by_cases hi:i<n
 ·rw [M6 hi] at h;cases h;exact⟨hi,rfl⟩
 ·rw [B7 (by simpa using hi)] at h;cases h
variable {E:EndsD}{σ:SD}
theorem jh {t u:TSD}(V:SD->HD->Prop)(first: ∀K:SD->HD->Prop,(∀σ' h',V σ' h'->K σ' h')->t {E with nx:=K} σ h)(rest: ∀σ' h',V σ' h'->u E σ' h'):FT t u E σ h:=first (u E) rest
theorem Lh (b:But p h h')(e:h' q=none)(n:q≠p):h q=none:=by
 cases z:h q with
 |none=>rfl
 |some ds=>rw [b q ds n z] at e;cases e
def Nxt (E:EndsD)(V:SD->HD->Prop):EndsD:= {E with nx:=λσ3 h3=> ∃h4,Sub h4 h3/\V σ3 h4,ct:=λσ3 h3=> ∃h4,Sub h4 h3/\V σ3 h4,bk:=E.nx}
variable {h1:HD}
theorem Yi {ta:TAD}{g:TGD}{tb:TSD}(n:Nat)(W:Nat->SD->HD->Prop)(hn:n<1000000)
 (ht: ∀R:List D->HD->Prop,R [.int (n:Int)] h1->ta σ h R)(w0:W 0 σ h1)(done: ∀σ' h',W n σ' h'->E.nx σ' h')
 (turn: ∀i σ' h',i<n->W i σ' h'->g (.int (i:Int)) σ' h' λσ2 h2=>tb (Nxt E λσ3 h4=>i+1<=n/\W (i+1) σ3 h4) σ2 h2):kM (iR1 ta) g tb E σ h:=by
 refine ht _ ⟨(n:Int),rfl,by omega,by omega,n,λi σ' h'=>i<=n/\W i σ' h',⟨T5 _,w0⟩,?_⟩;rintro i σ' h' ⟨hi,w⟩;refine⟨_,rfl,by simp,λhl=> ?_,λd hd=> ?_⟩
 ·have:i=n:=by simp at hl;omega
  subst this;exact done _ _ w
 ·obtain⟨hi',e⟩:=PX hd;have hi2:i<n:=by omega
  subst e;exact turn i σ' h' hi2 w
theorem Wp {ti:TID}{g:TGD}{tb:TSD}{j:ItD}(ds:List D)(W:Nat->SD->HD->Prop)
 (ht: ∀R:ItD->HD->Prop,R j h1->ti σ h R)(hj: ∀i σ' h',W i σ' h'->j h'=some ds)(w0:W 0 σ h1)(done: ∀σ' h',W ds.length σ' h'->E.nx σ' h')
 (turn: ∀i d σ' h',ds[i]? =some d->W i σ' h'->g d σ' h' λσ2 h2=>tb (Nxt E λσ3 h4=>i+1<=ds.length/\W (i+1) σ3 h4) σ2 h2):kM ti g tb E σ h:=by
 refine ht _ ⟨ds.length,λi σ' h'=>i<=ds.length/\W i σ' h',⟨T5 _,w0⟩,?_⟩;rintro i σ' h' ⟨hi,w⟩;refine⟨ds,hj i σ' h' w,G6 _,λhl=> ?_,λd hd=>turn i d σ' h' hd w⟩;have:i=ds.length:=by omega
 subst this;exact done _ _ w
theorem Wq {g:TGD}{tb:TSD}{j:ItD}(ds:List D)(W:Nat->SD->HD->Prop)
 (hj: ∀i σ' h',W i σ' h'->j h'=some ds)(w0:W 0 σ h1)(done: ∀σ' h',W ds.length σ' h'->E.nx σ' h')
 (turn: ∀i d σ' h',ds[i]? =some d->W i σ' h'->g d σ' h' λσ2 h2=>tb (Nxt E λσ3 h4=>i+1<=ds.length/\W (i+1) σ3 h4) σ2 h2):
 ∃ (n:Nat) (W:Nat->SD->HD->Prop),W 0 σ h1/\ ∀i σ' h',W i σ' h'-> ∃ds,j h'=some ds/\ds.length<=n/\(ds.length<=i->E.nx σ' h')/\
  ∀d,ds[i]? =some d->g d σ' h' λσ2 h2=>tb {E with nx:=λσ3 h3=> ∃h4,Sub h4 h3/\W (i+1) σ3 h4,ct:=λσ3 h3=> ∃h4,Sub h4 h3/\W (i+1) σ3 h4,bk:=E.nx} σ2 h2:=by
 refine⟨ds.length,λi σ' h'=>i<=ds.length/\W i σ' h',⟨T5 _,w0⟩,?_⟩;rintro i σ' h' ⟨hi,w⟩;refine⟨ds,hj i σ' h' w,G6 _,λhl=> ?_,λd hd=>turn i d σ' h' hd w⟩;have:i=ds.length:=by omega
 subst this;exact done _ _ w
theorem ql {i:Nat}{js:List Nat}{ta:TAD}{Q:KD}(n:Nat)(W:Nat->List D->HD->Prop)(hn:n<=1000)(ht: ∀R:List D->HD->Prop,R [.int (n:Int)] h1->ta σ h R)
 (w0:W 0 [] h1)(wl: ∀k ys h',W k ys h'->ys.length=k)(turn: ∀k ys h',k<n->W k ys h'->te ((za js σ).set i (some (.int (k:Int)))) h' λy h4=> ∃h5,Sub h5 h4/\(k+1<=n/\W (k+1) (ys++ [y]) h5))
 (done: ∀ys h',W n ys h'-> ∀p,h' p=none->Q (.lst p) (yL h' p ys)):Yg (bN i) js (iR1 ta) Wg te σ h Q:=by
 refine ht _ ⟨(n:Int),rfl,by omega,by omega,n,λk ys h'=>k<=n/\W k ys h',⟨T5 _,w0⟩,?_⟩;rintro k ys h' ⟨hk,w⟩;refine⟨by rw [wl k ys h' w];exact D7 (jL (by omega)),_,rfl,by simp,λhl p hp=> ?_,λd hd=>⟨_,rfl,?_⟩⟩
 ·have:k=n:=by simp at hl;omega
  subst this;exact done ys h' w p hp
 ·obtain⟨hi',e⟩:=PX hd;subst e;unfold Wg;dsimp only;rw [if_pos rfl];exact turn k ys h' (by omega) w
end L2
namespace L2
open PySem PySem.Spec PyProof.Rows PySem.SeqAt
mutual
def ToP (h:HD):D->PyData->Prop
 |d,.none=>d= .non
 |d,.bool b=>d= .bl b
 |d,.int i=>d= .int i
 |d,.str x=>d= .str x
 |d,.tuple ps=> ∃ds,d= .tup ds/\ToPs h ds ps
 |d,.list ps=> ∃a ds,d= .lst a/\h a=some ds/\ToPs h ds ps
 |_,.dict _=>False
def ToPs (h:HD):List D->List PyData->Prop
 |ds,[]=>ds= []
 |ds,p::ps=> ∃d r,ds=d::r/\ToP h d p/\ToPs h r ps
end
section
variable {X:Cx}{pins:List (Addr×Obj)}{σ:St}{H:Hp}{s:Shared}{h:HD}
mutual
theorem wf (I:Inv X pins σ H s)(rh:RelH X.K h H): ∀ {p:PyData} {d:D} {v:V} {u:Value},ToP h d p->RelD X.K H d v->RelV v u-> ∃as,Reads s.heap u p as
 | .none,d,v,u,t,r,ru=>by cases (show d= .non from t);cases (show v= .non from r);cases (show u= .none from ru);exact⟨[],.none⟩
 | .bool b,d,v,u,t,r,ru=>by cases (show d= .bl b from t);cases (show v= .bl b from r);cases (show u= .bool b from ru);exact⟨[],.bool b⟩
 | .int i,d,v,u,t,r,ru=>by cases (show d= .int i from t);cases (show v= .int i from r);obtain⟨k,rfl⟩:=(show ∃t,u=Value.int i t from ru);exact⟨[],.int i k⟩
 | .str x,d,v,u,t,r,ru=>by cases (show d= .str x from t);cases (show v= .str x from r);obtain⟨k,rfl⟩:=(show ∃t,u=Value.str x t from ru);exact⟨[],.str x k⟩
 | .tuple ps,d,v,u,t,r,ru=>by
  obtain⟨ds,e,ts⟩:=(show ∃ds,d= .tup ds/\ToPs h ds ps from t);subst e;obtain⟨a,vs,e,hH,rs⟩:=(show ∃a vs,v= .ref a/\H a=some (.tup vs)/\RelDs X.K H ds vs from r);subst e;cases (show u= .ref a from ru);obtain⟨its,rv,ht,_⟩:=I.tuple (SqT.of hH);obtain⟨o,ho,hc,n,hd⟩:=ht;obtain⟨as,q⟩:=reads_Ds I rh ts rs rv;exact⟨as,.tuple ho hc hd q⟩
 | .list ps,d,v,u,t,r,ru=>by
  obtain⟨a,ds,e,ha,ts⟩:=(show ∃a ds,d= .lst a/\h a=some ds/\ToPs h ds ps from t);subst e;obtain⟨vs,hH,rs⟩:=rh a ds ha;have e:v= .ref a:=r.1;subst e;cases (show u= .ref a from ru);obtain⟨its,rv,pl,_⟩:=I.list (SqL.of hH);obtain⟨o,ho,hc,n,hd⟩:=pl.isList;obtain⟨as,q⟩:=reads_Ds I rh ts rs rv;exact⟨a::as,.list ho hc hd q⟩
 | .dict _,_,_,_,t,_,_=>(show False from t).elim
theorem reads_Ds (I:Inv X pins σ H s)(rh:RelH X.K h H): ∀ {ps:List PyData} {ds:List D} {vs:List V} {us:List Value},ToPs h ds ps->RelDs X.K H ds vs->Vals vs us-> ∃as,ReadsAll s.heap us ps as
 | [],ds,vs,us,t,r,rv=>by
  cases (show ds= [] from t);cases (show vs= [] from r);cases rv;exact⟨[],.nil⟩
 |p::ps,ds,vs,us,t,r,rv=>by
  obtain⟨d,dr,e,t1,t2⟩:=(show ∃d r,ds=d::r/\ToP h d p/\ToPs h r ps from t);subst e;obtain⟨v,vr,e,r1,r2⟩:=(show ∃v r,vs=v::r/\RelD X.K H d v/\RelDs X.K H dr r from r);subst e;cases rv with
  |cons ru rt=>
   obtain⟨as,q1⟩:=wf I rh t1 r1 ru;obtain⟨bs,q2⟩:=reads_Ds I rh t2 r2 rt;exact⟨as++bs,.cons q1 q2⟩
end
end
def eqE:RD2:=λx y h Q=>match x,y with
 | .int i,.int j=>Q (.bl (decide (i=j))) h
 | .bl i,.bl j=>Q (.bl (decide (i=j))) h
 | .str i,.str j=>Q (.bl (decide (i=j))) h
 |x,y=> ∃p q,ToP h x p/\ToP h y q/\shaped p=true/\shaped q=true/\Q (.bl (PyData.eqv p q)) h
def neE:RD2:=λx y h Q=>match x,y with
 | .int i,.int j=>Q (.bl (!decide (i=j))) h
 | .bl i,.bl j=>Q (.bl (!decide (i=j))) h
 | .str i,.str j=>Q (.bl (!decide (i=j))) h
 |x,y=> ∃p q,ToP h x p/\ToP h y q/\shaped p=true/\shaped q=true/\Q (.bl (!PyData.eqv p q)) h
section
variable {X:Cx}
def eqG:RD2:=λx y h Q=> ∃p q,ToP h x p/\ToP h y q/\shaped p=true/\shaped q=true/\Q (.bl (PyData.eqv p q)) h
def neG:RD2:=λx y h Q=> ∃p q,ToP h x p/\ToP h y q/\shaped p=true/\shaped q=true/\Q (.bl (!PyData.eqv p q)) h
theorem qm (hu:X.A.units+64<cLine):OpQ X (compareOp .Eq) eqG:=by
 intro pins s σ H x y v u Q I rx ry h;obtain⟨dx,dy,h,Qd,r1,r2,rh,⟨p,q,t1,t2,s1,s2,qq⟩,post⟩:=h;obtain⟨as,a1⟩:=wf I rh t1 r1 rx;obtain⟨bs,b1⟩:=wf I rh t2 r2 ry;exact compareEq_shaped a1 b1 s1 s2 hu ⟨.bl _,H,I,rfl,post (.bl _) _ _ _ (.refl H) rh rfl qq⟩
theorem qo (hu:X.A.units+64<cLine):OpQ X (compareOp .NotEq) neG:=by
 intro pins s σ H x y v u Q I rx ry h;obtain⟨dx,dy,h,Qd,r1,r2,rh,⟨p,q,t1,t2,s1,s2,qq⟩,post⟩:=h;obtain⟨as,a1⟩:=wf I rh t1 r1 rx;obtain⟨bs,b1⟩:=wf I rh t2 r2 ry;exact compareNe_shaped a1 b1 s1 s2 hu ⟨.bl _,H,I,rfl,post (.bl _) _ _ _ (.refl H) rh rfl qq⟩
theorem OpQ.or' {f:Value->Value->Sem Value}{r r' r2:RD2}(h:OpQ X f r)(h':OpQ X f r')(i: ∀x y hh Q,r2 x y hh Q->r x y hh Q\/r' x y hh Q):OpQ X f r2:=λpins s σ H x y v u Q I rx ry ⟨dx,dy,hd,Qd,r1,r2',rh,q,p⟩=>
 (i dx dy hd Qd q).elim (λz=>h pins s σ H x y v u Q I rx ry ⟨dx,dy,hd,Qd,r1,r2',rh,z,p⟩) λz=>h' pins s σ H x y v u Q I rx ry ⟨dx,dy,hd,Qd,r1,r2',rh,z,p⟩
theorem Ba (hu:X.A.units+64<cLine):OpQ X (compareOp .Eq) eqE:=oq_eq.or' (qm hu) λx y h Q q=>by
 unfold eqE at q;split at q
 ·exact .inl q
 ·exact .inl q
 ·exact .inl q
 ·exact .inr q
theorem Bb (hu:X.A.units+64<cLine):OpQ X (compareOp .NotEq) neE:=oq_ne.or' (qo hu) λx y h Q q=>by
 unfold neE at q;split at q
 ·exact .inl q
 ·exact .inl q
 ·exact .inl q
 ·exact .inr q
def isN:D->Bool
 | .non=>true
 |_=>false
def isV (neg:Bool):RD2:=λx y h Q=>match y with
 | .non=>Q (.bl (neg !=isN x)) h
 | .bl c=>match x with
  | .bl b=>Q (.bl (neg !=(b==c))) h
  | .non=>Q (.bl neg) h
  |_=>False
 |_=>False
theorem Li {K:PySem.W.Frag}{H:Hp}{d:D}{v:V}(r:RelD K H d v):decide (v=V.non)=isN d:=by
 cases d with
 |non=>cases (show v= .non from r);rfl
 |bl b=>cases (show v= .bl b from r);rfl
 |int b=>cases (show v= .int b from r);rfl
 |str b=>cases (show v= .str b from r);rfl
 |tup ds=>obtain⟨a,vs,e,_⟩:=(show ∃a vs,v= .ref a/\H a=some (.tup vs)/\RelDs K H ds vs from r);subst e;rfl
 |lst a=>cases (show v= .ref a from r.1);rfl
 |dic x i=>obtain⟨a,e,_⟩:=(show ∃a,v= .ref a/\H a=some (.dK [(Sum.inr x,V.int i)]) from r);subst e;rfl
 |dni x i=>obtain⟨a,e,_⟩:=(show ∃a,v= .ref a/\H a=some (.dK [(Sum.inl x,V.int i)]) from r);subst e;rfl
 |scr ns=>obtain⟨a,e,_⟩:=(show ∃a,v= .ref a/\Scr K H a ns from r);subst e;rfl
 |exc C=>obtain⟨x,o,vs,e,_⟩:=(show ∃x o vs,v= .ref x/\H x=some (.frz o (.own 0))/\o.cls= .ref C/\o.data= .fields vs from r);subst e;rfl
 |fn a=>cases (show v= .ref a from r.1);rfl
theorem Lj:OpQ X (compareOp .Is) (isV false):=by
 intro pins s σ H x y v u Q I rx ry h;obtain⟨dx,dy,h,Qd,r1,r2,rh,q,post⟩:=h;cases dy with
 |non=>
  have e:y= .non:=r2;subst e;refine uO pins s σ H x .non v u Q I rx ry ⟨rfl,?_⟩;rw [Li r1];have q':Qd (.bl (isN dx)) h:=by simpa [isV] using q
  exact post (.bl _) _ _ _ (.refl H) rh rfl q'
 |bl c=>
  have e:y= .bl c:=r2;subst e;cases (show u= .bool c from ry);cases dx<;>first
   |exact False.elim q
   |skip
  ·have e:x= .non:=r1;subst e;cases (show v= .none from rx);exact wpAny_is_plain (by rfl) ⟨.bl false,H,I,rfl,post (.bl false) _ _ _ (.refl H) rh rfl q⟩
  ·rename_i b;have e:x= .bl b:=r1;subst e;cases (show v= .bool b from rx);have eb:(Value.bool b==Value.bool c)=(b==c):=by cases b<;>cases c<;>rfl
   refine wpAny_is_plain (by rfl) ⟨.bl (b==c),H,I,by rw [eb];rfl,post (.bl (b==c)) _ _ _ (.refl H) rh rfl ?_⟩;simpa [isV] using q
 |_=>exact False.elim q
theorem EF:OpQ X (compareOp .IsNot) (isV true):=by
 intro pins s σ H x y v u Q I rx ry h;obtain⟨dx,dy,h,Qd,r1,r2,rh,q,post⟩:=h;cases dy with
 |non=>
  have e:y= .non:=r2;subst e;refine Hi pins s σ H x .non v u Q I rx ry ⟨rfl,?_⟩;rw [Li r1];have q':Qd (.bl (!isN dx)) h:=by simpa [isV] using q
  exact post (.bl _) _ _ _ (.refl H) rh rfl q'
 |bl c=>
  have e:y= .bl c:=r2;subst e;cases (show u= .bool c from ry);cases dx<;>first
   |exact False.elim q
   |skip
  ·have e:x= .non:=r1;subst e;cases (show v= .none from rx);exact wpAny_isNot_plain (by rfl) ⟨.bl true,H,I,rfl,post (.bl true) _ _ _ (.refl H) rh rfl q⟩
  ·rename_i b;have e:x= .bl b:=r1;subst e;cases (show v= .bool b from rx);have eb:(!(Value.bool b==Value.bool c))= !(b==c):=by cases b<;>cases c<;>rfl
   refine wpAny_isNot_plain (by rfl) ⟨.bl (!(b==c)),H,I,by rw [eb];rfl,post (.bl (!(b==c))) _ _ _ (.refl H) rh rfl ?_⟩;simpa [isV] using q
 |_=>exact False.elim q
end
end L2
namespace HT
open PySem PySem.Spec PyProof.Rows
section
variable {prog:Program}{w:World}{A:Around}{E:Value->Shared->Prop}{s:Shared}
theorem PY (k:Int){vs:List Value}{ns:List Int}(hi:IntsAre vs ns)(j:Nat)(h:j<ns.length): ∃t,vs[j]? =some (.int ns[j] t):=by
 induction hi generalizing j with
 |nil=>simp at h
 |cons n t r ih=>
  cases j with
  |zero=>exact⟨t,rfl⟩
  |succ j=>obtain⟨u,e⟩:=ih j (by simpa using h);exact⟨u,by simpa using e⟩
theorem Ms {a:Addr}{vs:List Value}{ns:List Int}{k:Int}{t:Tok}{Q:Value->Shared->Prop}(ht:IsTup s.heap a vs.toArray)(hi:IntsAre vs ns)(hk:k∈ns)(h:Q (.int (ns.idxOf k:Nat) s.toks) {s with toks:=s.toks+1}):
 wpAny (model prog w) A (call (.builtin "tuple.index") [.ref a,.int k t]) Q E s:=by
 refine C4 G0D ht.typeIs PySem.F.entry_tuple_index ?_ (PySem.F.args_tuple_index_2 _ _);unfold Builtin.«tuple.index»;have hj:ns.idxOf k<ns.length:=O8.mpr hk;have hlen:=hi.length;show wpAny _ _ (Builtin.Tuple.tupleItemsOf (.ref a) >>= _) _ _ s;refine wpAny_bind (tupleItemsOf_ ht ?_);have go:wpAny (model prog w) A.in1 (forIn [0:min vs.toArray.size vs.toArray.size] ((none,()):Option PySem.Fin×Unit) λi __s=>
  match vs.toArray[i]? with
  |some y=>do
   let b <-eqBool y (.int k t)
   if b=true then do
    let r <-retInt ((i:Nat):Int)
    pure (ForInStep.done (some r,()))
    else pure (ForInStep.yield (none,()))
  |x=>pure (ForInStep.yield (none,())))
  (λr s'=>r=(some (.done (.ret (.int (ns.idxOf k:Nat) s.toks))),())/\s'= {s with toks:=s.toks+1}) E s:=by
  rw [Q8];refine wpAny_forIn_list _ (λrest b s'=>b=(none,())/\s'=s/\ ∃i,i<=ns.idxOf k/\rest=List.range' i (ns.length-i)) _ ?_ ?_ _ _ ⟨rfl,rfl,0,T5 _,?_⟩
  ·rintro x rest b s' ⟨rfl,rfl,i,hil,e⟩;have hin:i<ns.length:=by omega
   obtain⟨n,hn⟩: ∃n,ns.length-i=n+1:=⟨ns.length-i-1,by omega⟩;rw [hn,G0Q] at e;injection e with e1 e2
   subst e1 e2;obtain⟨u,hu⟩:=PY k hi x hin;have hu':vs.toArray[x]? =some (.int ns[x] u):=by simpa using hu
   rw [hu'];refine wpAny_bind (wpAny_eqBool_int ?_)
   by_cases hx:x=ns.idxOf k
   ·have he:(ns[x]==k)=true:=by subst hx;simpa using K6 hj
    rw [if_pos he];subst hx;refine wpAny_bind ?_;exact wpAny_bind (wpAny_mkInt (G9 (G9 ⟨rfl,rfl⟩)))
   ·have hlt:x<ns.idxOf k:=by omega
    have he: ¬ (ns[x]==k)=true:=by rw [ne_of_lt_idxOf hlt hin];exact P6
    rw [if_neg he];refine G9 ⟨rfl,rfl,x+1,hlt,?_⟩;have:n=ns.length-(x+1):=by omega
    rw [this]
  ·rintro b s' ⟨rfl,rfl,i,hil,e⟩;have hin:i<ns.length:=by omega
   obtain⟨n,hn⟩: ∃n,ns.length-i=n+1:=⟨ns.length-i-1,by omega⟩;rw [hn,G0Q] at e;cases e
  ·simp [hlen]
 refine wpAny_bind (G9 (wpAny_bind (G9 (wpAny_bind (D8 go (λr s' e=> ?_) λ_ _ e=>e)))));obtain⟨rfl,rfl⟩:=e;exact G9 ⟨_,rfl,h⟩
end
end HT
namespace L2
open PySem PySem.Spec PyProof.Rows
theorem YK: ∀ {ns:List Int} {us:List Value},Vals (ns.map V.int) us->IntsAre us ns
 | [],_,r=>by cases r;exact .nil
 |n::ns,_,r=>by
  cases r with
  |cons r t=>obtain⟨k,rfl⟩:=r;exact .cons n k (YK t)
theorem zN {K:PySem.W.Frag}{H:Hp}: ∀ {ns:List Int} {vs:List V},RelDs K H (ns.map D.int) vs->vs=ns.map V.int
 | [],_,h=>h
 |n::ns,vs,h=>by
  obtain⟨v,r,e,h1,h2⟩:=(show ∃v r,vs=v::r/\RelD K H (.int n) v/\RelDs K H (ns.map D.int) r from h);rw [e,zN h2,(show v= .int n from h1)];rfl
theorem VT: ∀ {xs:List V} {us:List Value},xs.length=us.length->(∀ (i:Nat) (x:V) (u:Value),xs[i]? =some x->us[i]? =some u->RelV x u)->Vals xs us
 | [],[],_,_=> .nil
 |x::xs,u::us,hl,h=> .cons (h 0 x u rfl rfl) (VT (by simpa using hl) λi y w e1 e2=>h (i+1) y w (by simpa using e1) (by simpa using e2))
 | [],_::_,hl,_=>by simp at hl
 |_::_,[],hl,_=>by simp at hl
theorem XH (ns:List Int): ∀k,k<=ns.length->preSum (λi=>ns.getD i 0) k=(ns.take k).sum
 |0,_=>by simp [preSum]
 |k+1,h=>by
  have hk:k<ns.length:=by omega
  rw [preSum,XH ns k (by omega),M1,G0 hk,List.sum_append,D9,G0 hk];simp
variable {X:Cx}
theorem Qp (hc:X.calm=true):CallR X (.builtin "sum") (λxs H Q=> ∃ (a:Addr) (ns:List Int),xs= [.ref a]/\SqL X.K H a (ns.map V.int)/\Q (.int ns.sum) H):=by
 intro pins s σ H xs us Q I r h;obtain⟨a,ns,rfl,hS,q⟩:=h;obtain⟨u,rfl,ru⟩:=Zv r;cases ru;obtain⟨its,rv,pl,hz⟩:=I.list hS;have hl:=pl.isList;have hlt:a<s.heap.objs.size:=by obtain⟨_,e,_⟩:=hl;exact P3 e
 have hi:=YK rv;have hn:its.length=ns.length:=hi.length;refine call_sum_walkAnyS (A2 hl ?_);refine⟨s.heap.objs.size,_,_,_,_,_,_,λi=>ns.getD i 0,rfl,(G05 (A:=X.A.in1) (show X.A.in1.handled=none from I.ok.hd hc) s.heap.objs.size a (R1 hlt) its.toArray).toS,⟨⟨_,P9 _ rfl,rfl,rfl⟩,hl.push _⟩,?_,?_,λs' t' hm=> ?_⟩
 ·intro b hb;simp only [P4,S8,K4] at hb;show b<(s.heap.push _).objs.size;rw [U4];rcases hb with e|e
  ·rw [e];exact F8 _
  ·rw [e];exact Q7 hlt
 ·intro i v hP;have e:its[i]? =some v:=by simpa using hP
  have hil:i<ns.length:=by rw [<-hn];exact(G3.mp e).1
  obtain⟨t,e2⟩:=HT.PY 0 hi i hil;rw [e] at e2;cases e2;refine⟨t,?_⟩;show Value.int ns[i] t=Value.int (ns.getD i 0) t;rw [D9,G0 hil];rfl
 ·have e:preSum (λi=>ns.getD i 0) its.toArray.size=ns.sum:=by
   rw [P5,hn,XH ns _ (G6 _),Y2]
  rw [e];obtain⟨h',g',d',tk',o'⟩:=s';obtain⟨m1,m2,m3,m4,_⟩:=hm;simp only at m1 m2 m3 m4;subst m2 m3 m4;refine⟨.int ns.sum,H,I.kept (t':=tk') (λb o e=>m1 b o (λz=> ?_) (G1 _ e)),⟨_,rfl⟩,q⟩;rw [G7.mp z] at e;exact absurd (P3 e) (T6 _)
def qp:RDn:=λds h Q=> ∃ (a:Addr) (ns:List Int),ds= [.lst a]/\h a=some (ns.map D.int)/\Q (.int ns.sum) (VO h a)
theorem Mt (hc:X.calm=true):Ja X (.builtin "sum") qp:=(Qp hc).imp λxs H Q ⟨ds,h,Qd,r,rh,⟨a,ns,e,hd,q⟩,p⟩=>by
 subst e;obtain⟨v,e,r1⟩:=jC r;obtain⟨vs,hH,r2⟩:=rh a _ hd;have e1:v= .ref a:=r1.1;rw [zN r2] at hH;subst e e1;exact⟨a,ns,rfl,SqL.of hH,p (.int _) _ _ _ (.refl H) (rh.sub (Sub.drop h a)) rfl q⟩
def jcu (to te:TED):TED:=λσ h Q=>to σ h λx h1=> ∃ns:List Int,x= .tup (ns.map D.int)/\te σ h1 λy h2=> ∃k:Int,y= .int k/\k∈ns/\Q (.int (ns.idxOf k:Nat)) h2
section
variable {X:Cx}{o e i:Expr}{to te ti:TED}{apos cpos:Pos}
theorem jdc (ho:QE X o to)(he:QE X e te)(hbase:attributeBase o "index" X.env (eval o X.env)=eval o X.env:=by rfl)
 (hfew:((backTo cpos (starEach [e] X.env)).all (λx=> !x.1)&&(backToKw cpos (keywordEach [] X.env)).all (λx=>x.1.isSome)&&decide ([e].length+([]:List Keyword).length+(if ([]:List Keyword).isEmpty then 0 else 1)<30))=true:=by rfl)
 (hline:(apos.endLine==cpos.line)=true:=by rfl)(hs:starEach [e] X.env=(false,eval e X.env)::starEach [] X.env:=by rfl)(hplain:(backTo cpos (starEach [] X.env)).any (·.1)=false:=by rfl):
 QE X (.Call (.Attribute o "index" apos) [e] [] cpos) (jcu to te):=by
 intro pins s σ H Q I h;obtain⟨σd,h,Qd,rs,rh,t,p⟩:=h;have h1:LE X.K to σ H (λv H1=> ∃ (ns:List Int) (a:Addr) (h1:HD),v= .ref a/\H1 a=some (.tup (ns.map V.int))/\RelH X.K h1 H1/\Kept H H1/\te σd h1 λy h2=> ∃k:Int,y= .int k/\k∈ns/\Qd (.int (ns.idxOf k:Nat)) h2):=
  ⟨σd,h,_,rs,rh,t,λd v h' H' k rh' rd ⟨ns,e,q⟩=>by
   subst e;obtain⟨a,vs,e1,hH,r2⟩:=(show ∃a vs,v= .ref a/\H' a=some (.tup vs)/\RelDs X.K H' (ns.map D.int) vs from rd);rw [zN r2] at hH;exact⟨ns,a,h',e1,hH,rh',k,q⟩⟩
 refine wpAny_Call_method_late hbase hfew hline rfl (thn (ho pins s σ H _ I h1) λv s1 ⟨x,H1,I1,r1,ns,a,h1,ex,hH,rh1,k1,q1⟩=> ?_);subst ex;cases (show v= .ref a from r1);obtain⟨z,its,rv,ob,g1,g2,g3,g4⟩:=(show ObjOk X.prog X.w H1 s1.heap a (.tup (ns.map V.int)) from I1.hok a _ hH);refine⟨"tuple","tuple.index",PySem.F.plainAttrs_tuple,G0D,PySem.F.type_tuple_index,⟨ob,g1,g2⟩,λb e=>by cases e;exact⟨ob,g1,g3⟩,?_⟩;have h2:LA X.K (yf te VP) σ H1 (λus H2=> ∃ (k:Int) (h2:HD),us= [.int k]/\k∈ns/\RelH X.K h2 H2/\Kept H1 H2/\Qd (.int (ns.idxOf k:Nat)) h2):=
  ⟨σd,h1,λds h2=> ∃k:Int,ds= [.int k]/\k∈ns/\Qd (.int (ns.idxOf k:Nat)) h2,rs.mono k1,rh1,by
   show te σd h1 λy h2=> ∃k:Int,[y]= [.int k]/\k∈ns/\Qd (.int (ns.idxOf k:Nat)) h2
   have:(λy h2=> ∃k:Int,y=D.int k/\k∈ns/\Qd (.int (ns.idxOf k:Nat)) h2)=λy h2=> ∃k:Int,[y]= [D.int k]/\k∈ns/\Qd (.int (ns.idxOf k:Nat)) h2:=by
    funext y h2;simp
   rw [<-this];exact q1,λds vs h' H' k rh' rd ⟨kk,e,hm,q⟩=>by
   subst e;obtain⟨v,e,r2⟩:=jC rd;cases (show v= .int kk from r2);exact⟨kk,h',e,hm,rh',k,q⟩⟩
 have hA:=(FS he Tt hs:QA X [e] (yf te VP)) cpos pins s1 σ H1 _ I1 h2;rw [hs] at hA ⊢;refine Calls.callWith_builtin (by show (false||(backTo cpos (starEach [] X.env)).any (·.1))=false;rw [hplain]<;>rfl) (Y7 ?_);refine thn hA λus s2 ⟨vs,H2,I2,r2,k,h2,ev,hm,rh2,k2,q2⟩=> ?_
 subst ev;obtain⟨u,rfl,ru⟩:=Zv r2;obtain⟨tk,rfl⟩:=ru;obtain⟨its2,rv2,ht2,_⟩:=I2.tuple (SqT.of (k2.tup _ _ hH));exact HT.Ms ht2 (YK rv2) hm ⟨.int _,H2,I2.tok _,⟨_,rfl⟩,p (.int _) _ _ _ (k1.trans k2) rh2 rfl q2⟩
end
def qr (ta:TA):TE:=λσ H Q=>ta σ H λvs H1=> ∃j:Int,vs= [.int j]/\ ∀p,H1 p=none->Q (.ref p) (upd H1 p (.rng 0 j))
variable {a:Expr}{p pos:Pos}
theorem EG {ta:TA}(hg:Gl X "range")(hm:X.mg "range" =none)(ha:PA X [a] ta)(hs:starEach [a] X.env= [(false,eval a X.env)]:=by rfl):PE X (.Call (.Name "range" p) [a] [] pos) (qr ta):=by
 intro pins s σ H Q I h;refine Call_ (vW I hg hm boot_range (T4 (thn (ha pos pins s σ H _ I h) λus s1 ⟨vs,H1,I1,r1,q1⟩=> ?_) hs rfl));obtain⟨j,e,q⟩:=q1;subst e;obtain⟨u,rfl,ru⟩:=Zv r1;obtain⟨t,rfl⟩:=ru;refine call_range_1 ⟨.ref s1.heap.objs.size,_,I1.laid (o:= .rng 0 j) (λb ob q=>G1 _ q) (G6 _) ?_,rfl,q _ (I1.hok.fresh (G6 _))⟩;exact⟨_,_,_,P9 _ rfl⟩
theorem Qq (hc:X.calm=true):CallR X (.type "list") (λxs H Q=> ∃ (p:Addr) (n:Nat),xs= [.ref p]/\H p=some (.rng 0 (n:Int))/\n<=1000/\ ∀l,H l=none->Q (.ref l) (upd H l (.lst ((List.range n).map λ(k:Nat)=>V.int (k:Int))))):=by
 intro pins s σ H xs us Q I r h;obtain⟨p,n,rfl,hH,hn,q⟩:=h;obtain⟨u,rfl,ru⟩:=Zv r;cases ru;obtain⟨t,u,v,e⟩:=(show ObjOk X.prog X.w H s.heap p (.rng 0 (n:Int)) from I.hok p _ hH);refine call_list_range (n:=n) (I.ok.hd hc) e (small_one (by decide) (by decide) (by omega) (by omega)) ?_ (S1 hn (by decide)) λh' tk acc c' kp e' hacc=> ?_
 ·rw [rangeSize_one];try (split<;>omega)
 ·refine⟨.ref s.heap.objs.size,_,I.laid (t':=tk) (o:= .lst ((List.range n).map λ(k:Nat)=>V.int (k:Int))) (λb ob q=>kp b ob q) (G6 _) ?_,rfl,q _ (I.hok.fresh (G6 _))⟩;obtain⟨hs,hit⟩:=hacc;refine⟨by rw [G2,P8];exact D7 (jL hn),acc.toList,c',?_,by simpa using e'⟩;refine VT (by simp [hs]) λi x u hx hu=> ?_
  rw [P1] at hx;have hi:i<n:=by
   by_cases z:i<n
   ·exact z
   ·rw [B7 (by simpa using z)] at hx;cases hx
  rw [M6 hi] at hx;cases hx;obtain⟨t,e⟩:=hit i u (by simpa using hu);exact⟨t,by rw [e];simp⟩
def qu (ta:TAD):TED:=λσ h Q=>ta σ h λds h1=> ∃n:Nat,ds= [.int (n:Int)]/\n<=1000/\ ∀p,h1 p=none->Q (.lst p) (yL h1 p ((List.range n).map λ(k:Nat)=>D.int (k:Int)))
theorem PZ {K:PySem.W.Frag}{H:Hp}(f:Nat->Int): ∀l:List Nat,RelDs K H (l.map λk=>D.int (f k)) (l.map λk=>V.int (f k))
 | []=> .nil
 |k::l=> .cons rfl (PZ f l)
theorem Kept.drop2 {H:Hp}{p q:Addr}{o o':HO}(hp:H p=none)(hq:upd H p o q=none):Kept H (upd (upd H p o) q o'):=(Kept.new hp).trans (.new hq)
variable {p2:Pos}
theorem jbE {ta:TAD}{pos2:Pos}(hc:X.calm=true)(hg:Gl X "list")(hm:X.mg "list" =none)(hg2:Gl X "range")(hm2:X.mg "range" =none)(ha:QA X [a] ta)(hs:starEach [a] X.env= [(false,eval a X.env)]:=by rfl)
 (h1:starEach [.Call (.Name "range" p2) [a] [] pos2] X.env=(false,eval (.Call (.Name "range" p2) [a] [] pos2) X.env)::starEach [] X.env:=by rfl)(h2:(backTo pos (starEach [] X.env)).any (·.1)=false:=by rfl):
 QE X (.Call (.Name "list" p) [.Call (.Name "range" p2) [a] [] pos2] [] pos) (qu ta):=
 (PD (Qq hc) hg hm (by decide +kernel) (yC (EG hg2 hm2 ha hs) pa_nil h1) (by decide) (by decide) h1 h2).imp
  λσ H Q ⟨σd,h,Qd,rs,rh,t,post⟩=>LA.bind rs rh t λds vs h1 H1 k1 rs1 rh1 r1 ⟨n,e,hn,q⟩=>by
   subst e;obtain⟨v,e,r2⟩:=jC r1;cases (show v= .int (n:Int) from r2);refine⟨n,e,λc hcn=>⟨c,n,rfl,jt,hn,λl hl=> ?_⟩⟩;have rh2:=(rh1.new (o:= .rng 0 (n:Int)) hcn);exact post (.lst l) (.ref l) _ _ (k1.trans (.drop2 hcn hl)) (rh2.newL hl (PZ (λk=>(k:Int)) (List.range n))) ⟨rfl,_,jt⟩ (q l (rh2.free hl))
structure JE (X:Cx)(e:Expr)(t:TED):Prop where
 to:QE X e t
structure JT (X:Cx)(e:Expr)(t:TTD):Prop where
 to:QT X e t
structure JW (X:Cx)(e:Expr)(t:TTD):Prop where
 to:QW X e t
structure JA (X:Cx)(e:List Expr)(t:TAD):Prop where
 to:QA X e t
structure JS (X:Cx)(e:Stmt)(t:TSD):Prop where
 to:QS X e t
structure JSs (X:Cx)(e:List Stmt)(t:TSD):Prop where
 to:QSs X e t
structure JG (X:Cx)(e:Expr)(t:TGD):Prop where
 to:QG X e t
structure JI (X:Cx)(tg e:Expr)(t:TID):Prop where
 to:QI X tg e t
structure JO (X:Cx)(e:Option Expr)(t:TOD):Prop where
 to:QO X e t
section
variable {X:Cx}{a b c e:Expr}{es rest:List Expr}{ta tb tc te:TED}{t u:TAD}{tt tu:TTD}{pos:Pos}{f r r':RD2}
theorem jv (i:Nat){x:Str}(hN:X.N[i]? =some x:=by rfl)(hv:Vis X.env.scope x:=by first|exact Or.inl rfl|exact Or.inr (Or.inl rfl)|exact Or.inr (Or.inr rfl))(hd:(x==("__debug__" :Str))=false:=by decide)(hcd:(x==("__classdict__" :Str))=false:=by decide):JE X (.Name x pos) (Fc i):=⟨qv (i:=i) (hN:=hN) (hv:=hv) (hd:=hd) (hcd:=hcd)⟩
variable {j:Nat}
theorem jx {i:Int}:JE X (.Constant (.int i) j pos) (dC (.int i)):=⟨jcP⟩
theorem jbl {i:Bool}:JE X (.Constant (.bool i) j pos) (dC (.bl i)):=⟨qbl⟩
theorem BY:JE X (.Constant .none j pos) (dC .non):=⟨jcQ⟩
theorem XI {x:Str}:JE X (.Constant (.str x) j pos) (dC (.str x)):=⟨jcR⟩
theorem EH {x:Str}{i:Int}{tk:Tok}(hg:Gl X x)(hm:X.mg x=some (.int i tk))(hd:(x==("__debug__" :Str))=false:=by decide):JE X (.Name x pos) (dC (.int i)):=⟨jbc (hg:=hg) (hm:=hm) (hd:=hd)⟩
theorem jop {op:Operator}(ho:OpQ X (binaryOp op) f)(ha:JE X a ta)(hb:JE X b tb):JE X (.BinOp a op b pos) (dOp f ta tb):=⟨qop (ho:=ho) (ha:=ha.to) (hb:=hb.to)⟩
variable {op:CmpOp}
theorem Qr (ho:OpQ X (compareOp op) f)(ha:JE X a ta)(hb:JE X b tb)(hm:behindInMarks op b=false):JE X (.Compare a [op] [b] pos) (dOp f ta tb):=⟨jcS (ho:=ho) (ha:=ha.to) (hb:=hb.to) (hm:=hm)⟩
theorem zf (ho:OpQ X (compareOp op) f)(ha:JE X a ta)(hb:JE X b tb)(hm:behindInMarks op b=false):JT X (.Compare a [op] [b] pos) (VQ (dOp f ta tb)):=⟨jbd (ho:=ho) (ha:=ha.to) (hb:=hb.to) (hm:=hm)⟩
theorem Tz {op':CmpOp}(ho:OpQ X (compareOp op) r)(ho':OpQ X (compareOp op') r')(ha:JE X a ta)(hb:JE X b tb)(hc:JE X c tc)(hm:lastMarks [op,op'] [b,c]=false:=by with_unfolding_all rfl):JE X (.Compare a [op,op'] [b,c] pos) (VR r r' ta tb tc):=⟨xB (ho:=ho) (ho':=ho') (ha:=ha.to) (hb:=hb.to) (hc:=hc.to) (hm:=hm)⟩
theorem Mu {op':CmpOp}(ho:OpQ X (compareOp op) r)(ho':OpQ X (compareOp op') r')(ha:JE X a ta)(hb:JE X b tb)(hc:JE X c tc)(hm:lastMarks [op,op'] [b,c]=false:=by with_unfolding_all rfl):JT X (.Compare a [op,op'] [b,c] pos) (VQ (VR r r' ta tb tc)):=⟨HK (ho:=ho) (ho':=ho') (ha:=ha.to) (hb:=hb.to) (hc:=hc.to) (hm:=hm)⟩
theorem wN (ha:JE X a ta)(he: ∀whole,isTrue a X.env whole=(do let v <-whole;standAt a.pos;holding [v] (truthy v)):=by intro _;rfl):JT X a (VQ ta):=⟨jbe (ha:=ha.to) (he:=he)⟩
theorem jbF (ha:JT X a tt):JW X (.BoolOp .And [a] pos) tt:=⟨jbf (ha:=ha.to)⟩
theorem Bc (ha:JT X a tt):JW X (.BoolOp .Or [a] pos) tt:=⟨jcT (ha:=ha.to)⟩
theorem jbG (ha:JT X a tt)(hb:JW X (.BoolOp .And (b::rest) pos) tu):JW X (.BoolOp .And (a::b::rest) pos) (HH tt tu):=⟨jbg (ha:=ha.to) (hb:=hb.to)⟩
theorem XJ (ha:JT X a tt)(hb:JW X (.BoolOp .Or (b::rest) pos) tu):JW X (.BoolOp .Or (a::b::rest) pos) (xn tt tu):=⟨jcU (ha:=ha.to) (hb:=hb.to)⟩
theorem wO (ha:JT X a tt):JT X (.UnaryOp .Not a pos) (FO tt):=⟨jbh (ha:=ha.to)⟩
theorem BZ {op:BoolOp}(ha:JE X a ta):JE X (.BoolOp op [a] pos) ta:=⟨jcV (ha:=ha.to)⟩
theorem Lk (ha:JE X a ta)(hb:JE X (.BoolOp .And (b::rest) pos) tb):JE X (.BoolOp .And (a::b::rest) pos) (FP ta tb):=⟨jcW (ha:=ha.to) (hb:=hb.to)⟩
theorem jor (ha:JE X a ta)(hb:JE X (.BoolOp .Or (b::rest) pos) tb):JE X (.BoolOp .Or (a::b::rest) pos) (ja8 ta tb):=⟨qor (ha:=ha.to) (hb:=hb.to)⟩
theorem jcv (ha:JE X a ta):JE X (.UnaryOp .Not a pos) (FQ ta):=⟨jcX (ha:=ha.to)⟩
theorem jif {c:Expr}(hc:JT X c tt)(ha:JE X a ta)(hb:JE X b tb):JE X (.IfExp c a b pos) (dIf tt ta tb):=⟨qif (hc:=hc.to) (ha:=ha.to) (hb:=hb.to)⟩
theorem jc:JA X [] VP:=⟨Tt⟩
theorem wP {k:Nat}(h:JA X es t):JE X (.Tuple es k pos) (xk t):=⟨jcY (h:=h.to)⟩
theorem Yc (h:JA X es t):JE X (.List es pos) (HG t):=⟨jcZ (h:=h.to)⟩
end
section
variable {X:Cx}{st:Stmt}{sts:List Stmt}{t u:TSD}{e:Expr}{te:TED}{pos:Pos}
theorem jH:JSs X [] BW:=⟨xI⟩
theorem jf (h1:JS X st t)(h2:JSs X sts u):JSs X (st::sts) (FT t u):=⟨HR (h1:=h1.to) (h2:=h2.to)⟩
theorem jg (h1:JS X st t):JSs X [st] t:=⟨xJ (h1:=h1.to)⟩
theorem vo (he:JE X e te)(hs:swapsWith e none pos.line X.env=pure false:=by rfl):JS X (.Expr e pos) (HL te):=⟨jbm (he:=he.to) (hs:=hs)⟩
theorem zC (he:JE X e te):JS X (.Return (some e) pos) (Fd te):=⟨jc0 (he:=he.to)⟩
theorem vQ {c:Expr}{a b:List Stmt}{tc:TTD}(hc:JT X c tc)(ha:JSs X a t)(hb:JSs X b u):JS X (.If c a b pos) (kL tc t u):=⟨jc1 (hc:=hc.to) (ha:=ha.to) (hb:=hb.to)⟩
variable {i:Nat}{x:Str}
theorem yg {pos':Pos}(hN:X.N.Nodup)(hi:X.N[i]? =some x)(hx:Loc X.env.scope x)(he:JE X e te)(hs:swapsWith e (some (.Name x pos')) pos.line X.env=pure false:=by rfl)(hf:X.fn x=true\/X.env.scope.names.lookup x=some .local:=by first|exact .inl rfl|exact .inr rfl|assumption):JS X (.Assign [.Name x pos'] e pos) (HM i te):=⟨jc2 (hN:=hN) (hi:=hi) (hx:=hx) (he:=he.to) (hs:=hs) (hf:=hf)⟩
theorem yh (hN:X.N.Nodup)(hi:X.N[i]? =some x)(hx:Loc X.env.scope x)(hf:X.fn x=true\/X.env.scope.names.lookup x=some .local:=by first|exact .inl rfl|exact .inr rfl|assumption):JG X (.Name x pos) (gN i):=⟨HS (hN:=hN) (hi:=hi) (hx:=hx) (hf:=hf)⟩
theorem YL {j:Nat}{y:Str}{p1 p2:Pos}{k:Nat}(hc:X.calm=true)(hN:X.N.Nodup)(hi:X.N[i]? =some x)(hj:X.N[j]? =some y)(hx:Loc X.env.scope x)(hy:Loc X.env.scope y)(hf:X.fn x=true\/X.env.scope.names.lookup x=some .local:=by first|exact .inl rfl|exact .inr rfl|assumption)(hf2:X.fn y=true\/X.env.scope.names.lookup y=some .local:=by first|exact .inl rfl|exact .inr rfl|assumption):JG X (.Tuple [.Name x p1,.Name y p2] k pos) (gT2 i j):=⟨xK (hc:=hc) (hN:=hN) (hi:=hi) (hj:=hj) (hx:=hx) (hy:=hy) (hf:=hf) (hf2:=hf2)⟩
theorem Ki {tg:Expr}{g:TGD}(he:JE X e te)(hg:JG X tg g)(hs:swapsWithSole [tg] e pos.line X.env=pure false:=by rfl)(hsw:swappedStores [tg] e X.env=pure none:=by rfl)(h1:(assignEach [tg] X.env).map (·.2)= [assign tg X.env]:=by rfl):JS X (.Assign [tg] e pos) (jbi te g):=⟨jc3 (he:=he.to) (hg:=hg.to) (hs:=hs) (hsw:=hsw) (h1:=h1)⟩
theorem jdd {j:Nat}{y:Str}{a b:Expr}{ta:TAD}{px py pt:Pos}{kt k2 pt2}(hc:X.calm=true)(hN:X.N.Nodup)(hi:X.N[i]? =some x)(hj:X.N[j]? =some y)(hij:i≠j)(hx:X.env.scope.names.lookup x=some .local)(hy:X.env.scope.names.lookup y=some .local)(ha:JA X [a,b] ta)(hw:swappedStores [.Tuple [.Name x px,.Name y py] kt pt] (.Tuple [a,b] k2 pt2) X.env=pure (some [x,y]))(hs:swapsWithSole [.Tuple [.Name x px,.Name y py] kt pt] (.Tuple [a,b] k2 pt2) pos.line X.env=pure false:=by rfl):JS X (.Assign [.Tuple [.Name x px,.Name y py] kt pt] (.Tuple [a,b] k2 pt2) pos) (jbj i j ta):=⟨jc4 (hc:=hc) (hN:=hN) (hi:=hi) (hj:=hj) (hij:=hij) (hx:=hx) (hy:=hy) (ha:=ha.to) (hw:=hw) (hs:=hs)⟩
end
section
variable {X:Cx}{tg e iter elt:Expr}{te:TED}{ti:TID}{g:TGD}{tb:TSD}{tt:TTD}{pos:Pos}{ta:TAD}{scope:Scope}{js:List Nat}{ifs:List Expr}
theorem Ll (he:JE X e te):JI X tg e (iL te):=⟨HV (he:=he.to)⟩
theorem Zz {p:Pos}{a:Expr}(hg:Gl X "range")(hm:X.mg "range" =none)(ha:JA X [a] ta)(hs:starEach [a] X.env= [(false,eval a X.env)]:=by rfl):JI X tg (.Call (.Name "range" p) [a] [] pos) (iR1 ta):=⟨jbr (hg:=hg) (hm:=hm) (ha:=ha.to) (hs:=hs)⟩
theorem Mf {body:List Stmt}(hp:PassesOwn (model X.prog X.w) X.A X.env X.xe)(hc:X.calm=true)(hi:JI X tg iter ti)(hg:JG X tg g)(hb:JSs X body tb)(hs: ∀x,foldedSetIterable iter X.env x=pure x:=by intro _;rfl):JS X (.For tg iter body [] pos) (kM ti g tb):=⟨jc5 (hp:=hp) (hc:=hc) (hi:=hi.to) (hg:=hg.to) (hb:=hb.to) (hs:=hs)⟩
theorem jD:PTs X [] (LT X.K Wg):=HW
theorem Qs {c:Expr}(hc:JT X c tt):PTs X [c] (LT X.K tt):=HX (hc:=hc.to)
theorem jlc {i:Nat}{x:Str}{p:Pos}(hc:X.calm=true)(S:BlockOk X scope js)(hi:JI X (.Name x p) iter ti)(hj:i∈js)(hN:X.N.Nodup)(hx:X.N[i]? =some x)(hl:scope.names.lookup x=some .local\/scope.names.lookup x=some .cell)(ht: ∀X',jB X scope X'->PTs X' ifs (LT X'.K tt))(he: ∀X',jB X scope X'->JE X' elt te)(hs: ∀x,foldedSetIterable iter X.env x=pure x:=by intro _;rfl):JE X (.ListComp elt [⟨.Name x p,iter,ifs,0⟩] scope pos) (Yg (bN i) js ti tt te):=⟨qlc (hc:=hc) (S:=S) (hi:=hi.to) (hj:=hj) (hN:=hN) (hx:=hx) (hl:=hl) (ht:=ht) (he:=λX' hX=>(he X' hX).to) (hs:=hs)⟩
theorem jaB {i j:Nat}{x y:Str}{p1 p2 p3:Pos}{k:Nat}(hc:X.calm=true)(S:BlockOk X scope js)(hi:JI X (.Tuple [.Name x p1,.Name y p2] k p3) iter ti)(hj:i∈js)(hj2:j∈js)(hij:i≠j)(hN:X.N.Nodup)(hx:X.N[i]? =some x)(hy:X.N[j]? =some y)(hl:scope.names.lookup x=some .local\/scope.names.lookup x=some .cell)(hl2:scope.names.lookup y=some .local\/scope.names.lookup y=some .cell)(ht: ∀X',jB X scope X'->PTs X' ifs (LT X'.K tt))(he: ∀X',jB X scope X'->JE X' elt te)(hs: ∀x,foldedSetIterable iter X.env x=pure x:=by intro _;rfl):JE X (.ListComp elt [⟨.Tuple [.Name x p1,.Name y p2] k p3,iter,ifs,0⟩] scope pos) (Yg (b2 i j) js ti tt te):=⟨jc6 (hc:=hc) (S:=S) (hi:=hi.to) (hj:=hj) (hj2:=hj2) (hij:=hij) (hN:=hN) (hx:=hx) (hy:=hy) (hl:=hl) (hl2:=hl2) (ht:=ht) (he:=λX' hX=>(he X' hX).to) (hs:=hs)⟩
end
section
variable {X:Cx}{k:Nat}{f:Addr}{fd:FuncData}{ps:List Str}{spd:RDn}{x:Str}{p pos:Pos}{e:Expr}{es:List Expr}{t:TAD}
theorem jy (F:FnOk X.prog X.w X.K X.mg X.base CX0 k f fd ps (LSp X.K spd))(hr:Room k X.A)(hg:Gl X x)(hm:X.mg x=some (.ref f))(hk:PySem.W.keepIn X.K (.ref f)=true)(hb:Binds X.K fd ps [])(ha:JA X (e::es) t)(hdb:(x==("__debug__" :Str))=false:=by decide)(he:starEach (e::es) X.env=(false,eval e X.env)::starEach es X.env:=by rfl)(hpl:(backTo pos (starEach es X.env)).any (·.1)=false:=by rfl):JE X (.Call (.Name x p) (e::es) [] pos) (dCB spd t):=⟨jbs (F:=F) (hr:=hr) (hg:=hg) (hm:=hm) (hk:=hk) (hb:=hb) (ha:=ha.to) (hdb:=hdb) (he:=he) (hpl:=hpl)⟩
theorem jA {id:String}{r:RDn}(hc:Ja X (.builtin id) r)(hg:Gl X x)(hm:X.mg x=none)(hv:bootBuiltins x=some (.builtin id))(ha:JA X (e::es) t)(hn:x≠ "__name__" :=by decide)(hdb:(x==("__debug__" :Str))=false:=by decide)(he:starEach (e::es) X.env=(false,eval e X.env)::starEach es X.env:=by rfl)(hpl:(backTo pos (starEach es X.env)).any (·.1)=false:=by rfl):JE X (.Call (.Name x p) (e::es) [] pos) (dCB r t):=⟨xO (hc:=hc) (hg:=hg) (hm:=hm) (hv:=hv) (ha:=ha.to) (hn:=hn) (hdb:=hdb) (he:=he) (hpl:=hpl)⟩
theorem zg {T:String}{r:RDn}(hc:Ja X (.type T) r)(hg:Gl X x)(hm:X.mg x=none)(hv:bootBuiltins x=some (.type T))(ha:JA X (e::es) t)(hn:x≠ "__name__" :=by decide)(hdb:(x==("__debug__" :Str))=false:=by decide)(he:starEach (e::es) X.env=(false,eval e X.env)::starEach es X.env:=by rfl)(hpl:(backTo pos (starEach es X.env)).any (·.1)=false:=by rfl):JE X (.Call (.Name x p) (e::es) [] pos) (dCB r t):=⟨HY (hc:=hc) (hg:=hg) (hm:=hm) (hv:=hv) (ha:=ha.to) (hn:=hn) (hdb:=hdb) (he:=he) (hpl:=hpl)⟩
end
section
variable {X:Cx}{iter iter' elt:Expr}{te:TED}{ti ti':TID}{tt tt':TTD}{pos:Pos}{scope:Scope}{js:List Nat}{ifs ifs':List Expr}
theorem jde {i i':Nat}{x y:Str}{p py:Pos}(hc:X.calm=true)(S:BlockOk X scope js)(hi:JI X (.Name x p) iter ti)(hj:i∈js)(hj':i'∈js)(hne:i≠i')(hN:X.N.Nodup)(hx:X.N[i]? =some x)(hy:X.N[i']? =some y)(hl:scope.names.lookup x=some .local\/scope.names.lookup x=some .cell)(hl':scope.names.lookup y=some .local\/scope.names.lookup y=some .cell)(ht: ∀X',jB X scope X'->PTs X' ifs (LT X'.K tt))(hi': ∀X',jB X scope X'->JI X' (.Name y py) iter' ti')(ht': ∀X',jB X scope X'->PTs X' ifs' (LT X'.K tt'))(he: ∀X',jB X scope X'->JE X' elt te)(hs: ∀x,foldedSetIterable iter X.env x=pure x:=by intro _;rfl)(hs': ∀env x,foldedSetIterable iter' env x=pure x:=by intro _ _;rfl):JE X (.ListComp elt [⟨.Name x p,iter,ifs,0⟩,⟨.Name y py,iter',ifs',0⟩] scope pos) (kN (bN i) js ti tt i' ti' tt' te):=⟨jc7 (hc:=hc) (S:=S) (hi:=hi.to) (hj:=hj) (hj':=hj') (hne:=hne) (hN:=hN) (hx:=hx) (hy:=hy) (hl:=hl) (hl':=hl') (ht:=ht) (hi':=λX' hX=>(hi' X' hX).to) (ht':=ht') (he:=λX' hX=>(he X' hX).to) (hs:=hs) (hs':=hs')⟩
end
section
variable {X:Cx}{a b e:Expr}{ta tb te:TED}{pos p2:Pos}
theorem jix (ha:JE X a ta)(hb:JE X b tb)(hs:Mk b):JE X (.Subscript a b pos) (dOp ixD ta tb):=⟨qix (ha:=ha.to) (hb:=hb.to) (hs:=hs)⟩
end
theorem Yj {ta:TED}{T:String}{t:Str}(hT:T∈ ["tuple","int","bool","list","str"])(hg:Gl X "isinstance")(hm:X.mg "isinstance" =none)(hg2:Gl X t)(hm2:X.mg t=none)(hv:bootBuiltins t=some (.type T))(ha:JE X a ta)(hn:t≠ "__name__" :=by decide)(hd:(t==("__debug__" :Str))=false:=by decide)(h1:starEach [a,.Name t p2] X.env=(false,eval a X.env)::starEach [.Name t p2] X.env:=by rfl)(h2:(backTo pos (starEach [.Name t p2] X.env)).any (·.1)=false:=by rfl):JE X (.Call (.Name "isinstance" p) [a,.Name t p2] [] pos) (dIs T ta):=⟨jby (hT:=hT) (hg:=hg) (hm:=hm) (hg2:=hg2) (hm2:=hm2) (hv:=hv) (ha:=ha.to) (hn:=hn) (hd:=hd) (h1:=h1) (h2:=h2)⟩
section
variable {X:Cx}{o e i:Expr}{to te ti:TED}{apos cpos pos:Pos}
theorem Kj (ho:JE X o to)(he:JE X e te)(hbase:attributeBase o "append" X.env (eval o X.env)=eval o X.env:=by rfl)(hfew:((backTo cpos (starEach [e] X.env)).all (λx=> !x.1)&&(backToKw cpos (keywordEach [] X.env)).all (λx=>x.1.isSome)&&decide ([e].length+([]:List Keyword).length+(if ([]:List Keyword).isEmpty then 0 else 1)<30))=true:=by rfl)(hline:(apos.endLine==cpos.line)=true:=by rfl)(hs:starEach [e] X.env=(false,eval e X.env)::starEach [] X.env:=by rfl)(hplain:(backTo cpos (starEach [] X.env)).any (·.1)=false:=by rfl):JE X (.Call (.Attribute o "append" apos) [e] [] cpos) (jct to te):=⟨jc9 (ho:=ho.to) (he:=he.to) (hbase:=hbase) (hfew:=hfew) (hline:=hline) (hs:=hs) (hplain:=hplain)⟩
theorem TB (ho:JE X o to)(hi:JE X i ti)(ha: ∀v,assign (.Subscript o i pos) X.env v=(do
 let ov <-holding [v] (eval o X.env)
 let iv <-holding [v,ov] (eval i X.env)
 standAt pos
 holding [v,ov,iv] (setItem ov iv v)
 release [v,ov,iv] []):=by intro _;rfl):JG X (.Subscript o i pos) (xW to ti):=⟨xX (ho:=ho.to) (hi:=hi.to) (ha:=ha)⟩
end
theorem jpt {e:Expr}{t:TTD}(h:JW X e t):JT X e t:=⟨qpt (h:=h.to)⟩
theorem Qt:JO X none Le:=⟨Ke⟩
variable {te:TED}
theorem Yk {e:Expr}(he:JE X e te):JO X (some e) (xY te):=⟨Kf (he:=he.to)⟩
theorem Da {e:Expr}{lo hi:Option Expr}{tl th:TOD}(he:JE X e te)(hl:JO X lo tl)(hu:JO X hi th):JE X (.Subscript e (.Slice lo hi none p2) pos) (dSl te tl th):=⟨xZ (he:=he.to) (hl:=hl.to) (hu:=hu.to)⟩
theorem Kk {ta:TED}(ha:JE X a ta):JE X (.UnaryOp .USub a pos) (dUn jbC ta):=⟨jdb (ha:=ha.to)⟩
theorem qw {ks:List (Option Expr)}{vs:List Expr}{x:Str}{i:Int}(h:Mp ks vs=some (x,i):=by rfl):JE X (.Dict ks vs pos) (NZ x i):=⟨qe (h:=h)⟩
theorem zS {tg e:Expr}(he:JE X e te):JI X tg e (iS te):=⟨qj (he:=he.to)⟩
theorem XL {st:Stmt}:JS X st Ty:=⟨qk⟩
theorem jac {e:Expr}{es:List Expr}{t:TAD}(ha:JE X e te)(hr:JA X es t)(h:Mq e=true:=by rfl):JA X (e::es) (yf te t):=⟨qac (ha:=ha.to) (hr:=hr.to) (h:=h)⟩
section
variable {X:Cx}{o e i:Expr}{to te ti:TED}{apos cpos:Pos}
theorem jdf (ho:JE X o to)(he:JE X e te)(hbase:attributeBase o "index" X.env (eval o X.env)=eval o X.env:=by rfl)(hfew:((backTo cpos (starEach [e] X.env)).all (λx=> !x.1)&&(backToKw cpos (keywordEach [] X.env)).all (λx=>x.1.isSome)&&decide ([e].length+([]:List Keyword).length+(if ([]:List Keyword).isEmpty then 0 else 1)<30))=true:=by rfl)(hline:(apos.endLine==cpos.line)=true:=by rfl)(hs:starEach [e] X.env=(false,eval e X.env)::starEach [] X.env:=by rfl)(hplain:(backTo cpos (starEach [] X.env)).any (·.1)=false:=by rfl):JE X (.Call (.Attribute o "index" apos) [e] [] cpos) (jcu to te):=⟨jdc (ho:=ho.to) (he:=he.to) (hbase:=hbase) (hfew:=hfew) (hline:=hline) (hs:=hs) (hplain:=hplain)⟩
end
theorem jbH {ta:TAD}{pos2:Pos}(hc:X.calm=true)(hg:Gl X "list")(hm:X.mg "list" =none)(hg2:Gl X "range")(hm2:X.mg "range" =none)(ha:JA X [a] ta)(hs:starEach [a] X.env= [(false,eval a X.env)]:=by rfl)(h1:starEach [.Call (.Name "range" p2) [a] [] pos2] X.env=(false,eval (.Call (.Name "range" p2) [a] [] pos2) X.env)::starEach [] X.env:=by rfl)(h2:(backTo pos (starEach [] X.env)).any (·.1)=false:=by rfl):JE X (.Call (.Name "list" p) [.Call (.Name "range" p2) [a] [] pos2] [] pos) (qu ta):=⟨jbE (hc:=hc) (hg:=hg) (hm:=hm) (hg2:=hg2) (hm2:=hm2) (ha:=ha.to) (hs:=hs) (h1:=h1) (h2:=h2)⟩
section
variable {P:Program}{w:World}{K:PySem.W.Frag}{mg:Str->Option Value}{base:Heap}
theorem Fun.okJ {x qual:Str}{st:Stmt}{f:Addr}{fd:FuncData}{N ps:List Str}{k:Nat}{spd:RDn}(F:Fun K x qual st f fd)(S:FnScope N ps (jd st))(len: ∀ds h Q,spd ds h Q->ds.length=ps.length)
 (tb:TSD)(hbody: ∀ (cdv:Value) (A:Around) (outer:List Env) (s:Shared) (H:Hp) (E:XK),Room k (A.deeper (envOfC qual (jd st) s.heap.objs.size f cdv))->JSs (Qc CX0 P w K mg base N qual (jd st) f cdv A outer s H E).nox (zG st) tb)
 (read: ∀ds h Q,spd ds h Q->tb (Me Q) (zU N ds) h):FnOk P w K mg base CX0 (k+1) f fd ps (LSp K spd):=F.okD S len tb (λcdv A outer s H E hr=>(hbody cdv A outer s H E hr).to) read
end
def JQ (r:List Int):D:= .tup (r.map D.int)
def jw (T:List (List Int)):D:= .tup (T.map JQ)
def Mv (n:Nat)(r:List Int):Prop:=r.length=n/\ ∀x∈r,0<=x/\x<=1000000
def GoodTab (n:Nat)(T:List (List Int)):Prop:=T.length=n/\ ∀r∈T,Mv n r
structure Sq (n e:Nat)(T:List (List Int)):Prop where
 len:T.length=n
 row: ∀r∈T,r.length=n
 nn: ∀r∈T,∀x∈r,0<=x
 bit: ∀r∈T,∀x∈r,x<2^e
variable {n:Nat}{T:List (List Int)}
theorem GoodTab.sq (g:GoodTab n T):Sq n 20 T:=⟨g.1,λr hr=>(g.2 r hr).1,λr hr x hx=>((g.2 r hr).2 x hx).1,λr hr x hx=>Int.lt_of_le_of_lt ((g.2 r hr).2 x hx).2 (by decide)⟩
variable {e f:Nat}
theorem Sq.mono (h:Sq n e T)(l:e<=f):Sq n f T:=⟨h.len,h.row,h.nn,λr hr x hx=>Int.lt_of_lt_of_le (h.bit r hr x hx) (by
 have:(2:Nat)^e<=2^f:=F4 (by decide) l;have h2:((2^e:Nat):Int)<=((2^f:Nat):Int):=by exact_mod_cast this
 simpa using h2)⟩
def ent (T:List (List Int))(i j:Nat):Int:=(T.getD i []).getD j 0
def mkT (n:Nat)(f:Nat->Nat->Int):List (List Int):=(List.range n).map λi=>(List.range n).map λj=>f i j
theorem YM {i j:Nat}{f:Nat->Nat->Int}(hi:i<n)(hj:j<n):ent (mkT n f) i j=f i j:=by
 unfold ent mkT;simp [D9,hi,hj]
theorem yp {α:Type}(xs:List α)(d:α):xs=(List.range xs.length).map λi=>xs.getD i d:=by
 apply List.ext_getElem (by simp);intro i h1 h2;simp [D9,h1]
theorem Sq.eq_mk (h:Sq n e T):T=mkT n (ent T):=by
 have h1:=yp T [];rw [h.len] at h1;unfold mkT
 conv=>lhs;rw [h1]
 apply M5;intro i hi;have hi':i<T.length:=by rw [h.len];exact D1.mp hi
 have hr:(T.getD i []).length=n:=by
  rw [D9,G0 hi'];exact h.row _ (S9 hi')
 have h2:=yp (T.getD i []) 0;rw [hr] at h2;exact h2
theorem Bd {f g:Nat->Nat->Int}(h: ∀i j,i<n->j<n->f i j=g i j):mkT n f=mkT n g:=by
 unfold mkT;apply M5;intro i hi;apply M5;intro j hj;exact h i j (D1.mp hi) (D1.mp hj)
theorem Sq.of_mk {f:Nat->Nat->Int}(h0: ∀i j,i<n->j<n->0<=f i j)(h1: ∀i j,i<n->j<n->f i j<2^e):Sq n e (mkT n f):=by
 have key: ∀r∈mkT n f,∃i,i<n/\r=(List.range n).map λj=>f i j:=λr hr=>by
  obtain⟨i,hi,e⟩:=R3.mp hr;exact⟨i,D1.mp hi,e.symm⟩
 refine⟨by simp [mkT],λr hr=> ?_,λr hr x hx=> ?_,λr hr x hx=> ?_⟩
 ·obtain⟨i,_,e⟩:=key r hr;rw [e];simp
 ·obtain⟨i,hi,e⟩:=key r hr;rw [e] at hx;obtain⟨j,hj,e2⟩:=R3.mp hx;rw [<-e2];exact h0 i j hi (D1.mp hj)
 ·obtain⟨i,hi,e⟩:=key r hr;rw [e] at hx;obtain⟨j,hj,e2⟩:=R3.mp hx;rw [<-e2];exact h1 i j hi (D1.mp hj)
theorem Sq.ent_nn (h:Sq n e T){i j:Nat}(hi:i<n)(hj:j<n):0<=ent T i j/\ent T i j<2^e:=by
 have hi':i<T.length:=by rw [h.len];exact hi
 have hr:T.getD i []=T[i]:=by rw [D9,G0 hi'];rfl
 have hm:T[i]∈T:=S9 hi';have hj':j<T[i].length:=by rw [h.row _ hm];exact hj
 have he:ent T i j=T[i][j]:=by unfold ent;rw [hr,List.getD_eq_getElem?_getD,List.getElem?_eq_getElem hj'];rfl
 rw [he];exact⟨h.nn _ hm _ (S9 hj'),h.bit _ hm _ (S9 hj')⟩
variable {U:List (List Int)}
theorem Sq.ext (h:Sq n e T)(g:Sq n f U)(k: ∀i j,i<n->j<n->ent T i j=ent U i j):T=U:=by
 rw [h.eq_mk,g.eq_mk];exact Bd k
def jT (n:Nat)(f:Nat->Int):Int:=((List.range n).map f).sum
theorem vd (f:Nat->Int):jT 0 f=0:=rfl
theorem jF (n:Nat)(f:Nat->Int):jT (n+1) f=jT n f+f n:=by
 unfold jT;rw [List.range_succ,List.map_append,List.sum_append];simp
theorem wg {f g:Nat->Int}(h: ∀k,k<n->f k=g k):jT n f=jT n g:=by
 unfold jT;congr 1;apply List.map_congr_left;intro k hk;exact h k (List.mem_range.mp hk)
theorem Wr {f:Nat->Int}(h: ∀k,k<n->0<=f k):0<=jT n f:=by
 induction n with
 |zero=>exact U7 _
 |succ n ih=>rw [jF];have:=ih λk hk=>h k (by omega);have:=h n (by omega);omega
theorem Qu {f:Nat->Int}{b:Int}(h: ∀k,k<n->f k<=b):jT n f<=n*b:=by
 induction n with
 |zero=>simp [vd]
 |succ n ih=>
  rw [jF];have h1:=ih λk hk=>h k (by omega);have h2:=h n (by omega)
  have:((n+1:Nat):Int)*b=(n:Int)*b+b:=by rw [G0Z,Int.add_mul];simp
  omega
theorem Lm (n:Nat)(f g:Nat->Int):jT n (λk=>f k+g k)=jT n f+jT n g:=by
 induction n with
 |zero=>rfl
 |succ n ih=>rw [jF,jF,jF,ih];omega
theorem VU (n:Nat)(c:Int)(f:Nat->Int):jT n (λk=>c*f k)=c*jT n f:=by
 induction n with
 |zero=>simp [vd]
 |succ n ih=>rw [jF,jF,ih,Int.mul_add]
theorem Ca (n:Nat)(c:Int)(f:Nat->Int):jT n (λk=>f k*c)=jT n f*c:=by
 rw [G1o,<-VU];exact wg λk _=>G1o _ _
theorem Cb (m n:Nat)(f:Nat->Nat->Int):jT m (λi=>jT n (f i))=jT n (λj=>jT m λi=>f i j):=by
 induction m with
 |zero=>
  rw [vd]
  induction n with
  |zero=>rfl
  |succ n ih=>rw [jF,<-ih,vd];rfl
 |succ m ih=>
  rw [jF,ih,<-Lm];exact wg λj _=>(jF m λi=>f i j).symm
theorem Db {f:Nat->Int}{i:Nat}(hi:i<n)(h: ∀k,k<n->k≠i->f k=0):jT n f=f i:=by
 induction n with
 |zero=>omega
 |succ n ih=>
  rw [jF]
  by_cases e:i=n
  ·subst e;have:jT i f=0:=by
    have:jT i f=jT i (λ_=>0*1):=wg λk hk=>by rw [h k (by omega) (by omega)];rfl
    rw [this,VU];simp
   omega
  ·rw [ih (by omega) λk hk hne=>h k (by omega) hne,h n (by omega) (by omega)];omega
theorem Ln {f:Nat->Int}(h: ∀k,k<n->0<=f k):0<jT n f↔ ∃k,k<n/\0<f k:=by
 induction n with
 |zero=>simp [vd]
 |succ n ih=>
  rw [jF];have h1:=Wr λk (hk:k<n)=>h k (by omega)
  have h2:=h n (by omega);have ih':=ih λk hk=>h k (by omega)
  constructor
  ·intro z
   by_cases q:0<f n
   ·exact⟨n,by omega,q⟩
   ·obtain⟨k,a,b⟩:=ih'.mp (by omega);exact⟨k,by omega,b⟩
  ·rintro ⟨k,a,b⟩
   by_cases q:k=n
   ·subst q;omega
   ·have:=ih'.mpr ⟨k,by omega,b⟩;omega
def ZA (n:Nat)(T U:List (List Int)):List (List Int):=mkT n λi j=>jT n λk=>ent T i k*ent U k j
theorem Sq.mul (h:Sq n e T)(g:Sq n f U)(hn:n<=8):Sq n (e+f+3) (ZA n T U):=by
 have nn: ∀i j,i<n->j<n-> ∀k,k<n->0<=ent T i k*ent U k j:=λi j hi hj k hk=>Int.mul_nonneg (h.ent_nn hi hk).1 (g.ent_nn hk hj).1
 refine Sq.of_mk (λi j hi hj=>Wr (nn i j hi hj)) λi j hi hj=> ?_
 have hle: ∀k,k<n->ent T i k*ent U k j<=2^e*2^f-1:=λk hk=>by
  have a:=h.ent_nn hi hk;have b:=g.ent_nn hk hj;have:ent T i k*ent U k j<2^e*2^f:=by
   have p:(0:Int)<2^f:=G1q (by decide)
   calc ent T i k*ent U k j<=ent T i k*2^f:=Int.mul_le_mul_of_nonneg_left (Int.le_of_lt b.2) a.1
    _<2^e*2^f:=Int.mul_lt_mul_of_pos_right a.2 p
  omega
 have s:=Qu hle;have p:(0:Int)<2^e*2^f:=Int.mul_pos (G1q (by decide)) (G1q (by decide));have e1:(2:Int)^(e+f+3)=8*(2^e*2^f):=by rw [Int.pow_add,Int.pow_add];rw [G1o];rfl
 rw [e1];have hn':(n:Int)<=8:=by omega
 have:(n:Int)*(2^e*2^f-1)<=8*(2^e*2^f-1):=Int.mul_le_mul_of_nonneg_right hn' (by omega);omega
theorem ZB {i j:Nat}(hi:i<n)(hj:j<n):ent (ZA n T U) i j=jT n λk=>ent T i k*ent U k j:=YM hi hj
def Fe (n:Nat):List (List Int):=mkT n λi j=>if i=j then 1 else 0
theorem Sq.one (n:Nat):Sq n 1 (Fe n):=Sq.of_mk (f:=λi j=>if i=j then 1 else 0) (λi j _ _=>by split<;>decide) λi j _ _=>by split<;>decide
theorem mul_assoc {g:Nat}{V:List (List Int)}(hT:Sq n e T)(hU:Sq n f U)(hV:Sq n g V)(hn:n<=8):ZA n (ZA n T U) V=ZA n T (ZA n U V):=by
 refine((hT.mul hU hn).mul hV hn).ext (hT.mul (hU.mul hV hn) hn) λi j hi hj=> ?_
 rw [ZB hi hj,ZB hi hj];have e1:(jT n λk=>ent (ZA n T U) i k*ent V k j)=jT n λk=>jT n λl=>ent T i l*ent U l k*ent V k j:=
  wg λk hk=>by rw [ZB hi hk,<-Ca]
 have e2:(jT n λl=>ent T i l*ent (ZA n U V) l j)=jT n λl=>jT n λk=>ent T i l*(ent U l k*ent V k j):=
  wg λl hl=>by rw [ZB hl hj,<-VU]
 rw [e1,e2,Cb];exact wg λl _=>wg λk _=>Int.mul_assoc _ _ _
theorem Be (hT:Sq n e T)(hn:n<=8):ZA n (Fe n) T=T:=by
 refine((Sq.one n).mul hT hn).ext hT λi j hi hj=> ?_
 rw [ZB hi hj,Db hi λk hk hne=>by rw [Fe,YM hi hk,if_neg (Ne.symm hne)];simp];rw [Fe,YM hi hi,if_pos rfl];simp
theorem EI (hT:Sq n e T)(hn:n<=8):ZA n T (Fe n)=T:=by
 refine(hT.mul (Sq.one n) hn).ext hT λi j hi hj=> ?_
 rw [ZB hi hj,Db hj λk hk hne=>by rw [Fe,YM hk hj,if_neg hne];simp];rw [Fe,YM hj hj,if_pos rfl];simp
def wL (n:Nat)(T:List (List Int)):Nat->List (List Int)
 |0=>Fe n
 |k+1=>ZA n (wL n T k) T
theorem Sq.pow (hT:Sq n e T)(hn:n<=8): ∀k,Sq n (k*(e+3)+1) (wL n T k)
 |0=>(Sq.one n).mono (by omega)
 |k+1=>((Sq.pow hT hn k).mul hT hn).mono (by rw [G1n];omega)
def jK (n:Nat)(T:List (List Int)):List (List Int):=mkT n λi j=>if ent T i j=0 then 0 else 1
theorem Sq.mark (T:List (List Int)):Sq n 1 (jK n T):=Sq.of_mk (f:=λi j=>if ent T i j=0 then 0 else 1) (λi j _ _=>by split<;>decide) λi j _ _=>by split<;>decide
def zh (T:List (List Int)):Bool:=T.all λr=>r.all λx=>decide (x≠0)
theorem Mw (n:Nat)(f:Nat->Nat->Int):zh (mkT n f)=true↔ ∀i j,i<n->j<n->f i j≠0:=by
 unfold zh mkT;simp only [O4,R5,D1,N6,N3];exact⟨λh i j hi hj=>h i hi j hj,λh i hi j hj=>h i j hi hj⟩
theorem Lo (h:Sq n e T):zh (jK n T)=zh T:=by
 have h1:zh T=zh (mkT n (ent T)):=by rw [<-h.eq_mk]
 rw [h1,N9,jK,Mw,Mw];constructor
 ·intro z i j hi hj w;exact z i j hi hj (by rw [if_pos w])
 ·intro z i j hi hj w;rw [if_neg (z i j hi hj)] at w;cases w
def MulOk (i j:Int):Prop:= ∃m n:Nat,i.natAbs<2^m/\j.natAbs<2^n/\m+n<=134217728
theorem MulOk.ok {i j:Int}(h:MulOk i j):IntMulOk i j:=by
 obtain⟨m,n,a,b,c⟩:=h;exact .of_le (G07.mpr a) (G07.mpr b) c
theorem Kl:OpR X (binaryOp .Mult) (rI MulOk λi j=> .int (i*j)):=opI λ_ _ _ _ _ _ _ hc q=>mul_int q hc.ok
def jdg:RD2:=λx y h Q=>match x,y with
 | .int i,.int j=>MulOk i j/\Q (.int (i*j)) h
 |_,_=>False
theorem Lp:OpQ X (binaryOp .Mult) jdg:=Qi (gd:=λi j=> .int (i*j)) Kl (λ_ _ _=>rfl) λx y h Q q=>by
 cases x<;>cases y<;>first|exact False.elim q|exact⟨_,_,rfl,rfl,q.1,q.2⟩
theorem VW {x:Int}(h0:0<=x)(h1:x<2^e):x.natAbs<2^e:=by
 have:((2^e:Nat):Int)=2^e:=by simp
 omega
theorem Bf {x y:Int}(hx:0<=x/\x<2^e)(hy:0<=y/\y<2^f)(h:e+f<=134217728):MulOk x y:=⟨e,f,VW hx.1 hx.2,VW hy.1 hy.2,h⟩
section
variable {α β:Type}{i i':Nat}{js:List Nat}{ti ti':TID}{te:TED}{σ:SD}{h:HD}{Q:KD}{j:ItD}
theorem lcA (xs:List α)(c g:α->D)(hz:xs.length<=1000)(hj:j h=some (xs.map c))(ht: ∀R:ItD->HD->Prop,R j h->ti σ h R)
 (he: ∀x∈xs,∀Q':KD,Q' (g x) h->te ((za js σ).set i (some (c x))) h Q')(hq: ∀p,h p=none->Q (.lst p) (yL h p (xs.map g))):Yg (bN i) js ti Wg te σ h Q:=by
 refine ht _ ⟨xs.length,λk ys h'=>h'=h/\ys=(xs.take k).map g,⟨rfl,by simp⟩,?_⟩;rintro k ys h' ⟨rfl,rfl⟩;refine⟨by simp only [G2,R0];exact D7 (jL (by omega)),xs.map c,hj,by simp,λhl p hp=> ?_,λd hd=>⟨_,rfl,?_⟩⟩
 ·rw [R8 (by simpa using hl)];exact hq p hp
 ·unfold Wg;dsimp only;rw [if_pos rfl];rw [P1] at hd;cases hx:xs[k]? with
  |none=>rw [hx] at hd;cases hd
  |some x=>
   rw [hx] at hd;cases hd;refine he x (G5 hx) _ ⟨h',Sub.refl _,rfl,?_⟩;rw [M1,hx];simp
theorem lcF (xs:List α)(c g:α->D)(p:α->Bool){tt:TTD}(hz:xs.length<=1000)(hj:j h=some (xs.map c))(ht: ∀R:ItD->HD->Prop,R j h->ti σ h R)
 (hp: ∀x∈xs,∀Q':Bool->HD->Prop,Q' (p x) h->tt ((za js σ).set i (some (c x))) h Q')(he: ∀x∈xs,p x=true-> ∀Q':KD,Q' (g x) h->te ((za js σ).set i (some (c x))) h Q')(hq: ∀a,h a=none->Q (.lst a) (yL h a ((xs.filter p).map g))):Yg (bN i) js ti tt te σ h Q:=by
 refine ht _ ⟨xs.length,λk ys h'=>h'=h/\ys=((xs.take k).filter p).map g,⟨rfl,by simp⟩,?_⟩;rintro k ys h' ⟨rfl,rfl⟩;refine⟨?_,xs.map c,hj,by simp,λhl a ha=> ?_,λd hd=>⟨_,rfl,?_⟩⟩
 ·have:=Q4 p (xs.take k);simp only [G2,R0] at this ⊢;exact D7 (jL (by omega))
 ·rw [R8 (by simpa using hl)];exact hq a ha
 ·rw [P1] at hd;cases hx:xs[k]? with
  |none=>rw [hx] at hd;cases hd
  |some x=>
   rw [hx] at hd;cases hd;refine hp x (G5 hx) _ ?_;cases hb:p x with
   |true=>
    rw [if_pos rfl];refine he x (G5 hx) hb _ ⟨h',Sub.refl _,rfl,?_⟩;rw [M1,hx];simp [hb]
   |false=>
    rw [if_neg P6];refine⟨h',Sub.refl _,rfl,?_⟩;rw [M1,hx];simp [hb]
theorem lcB (xs:List α)(c:α->D)(ys:α->List β)(c':β->D)(g:α->β->D)(hz:(xs.flatMap ys).length<=1000)(hj:j h=some (xs.map c))(ht: ∀R:ItD->HD->Prop,R j h->ti σ h R)
 (hin: ∀x∈xs,∀R:ItD->HD->Prop,R (λ_=>some ((ys x).map c')) h->ti' ((za js σ).set i (some (c x))) h R)
 (he: ∀x∈xs,∀y∈ys x,∀Q':KD,Q' (g x y) h->te (((za js σ).set i (some (c x))).set i' (some (c' y))) h Q')(hq: ∀p,h p=none->Q (.lst p) (yL h p (xs.flatMap λx=>(ys x).map (g x)))):kN (bN i) js ti Wg i' ti' Wg te σ h Q:=by
 have len: ∀l:List α,(l.flatMap λx=>(ys x).map (g x)).length=(l.flatMap ys).length:=λl=>by
  induction l with
  |nil=>rfl
  |cons x l ih=>simp [X1,ih]
 have lek: ∀k,((xs.take k).flatMap ys).length<=(xs.flatMap ys).length:=λk=>by
  conv=>rhs;rw [<-R7 k xs,Z9,G8]
  omega
 have lek1: ∀k x m,xs[k]? =some x->m<=(ys x).length->((xs.take k).flatMap ys).length+m<=(xs.flatMap ys).length:=λk x m hx hm=>by
  have:=lek (k+1);rw [M1,hx,Z9,G8] at this;simp at this;simp;omega
 refine ht _ ⟨xs.length,λk zs h'=>h'=h/\zs=(xs.take k).flatMap λx=>(ys x).map (g x),⟨rfl,by simp⟩,?_⟩;rintro k zs h' ⟨rfl,rfl⟩;refine⟨by rw [len];exact D7 (jL (S1 (lek k) hz)),xs.map c,hj,by simp,λhl p hp=> ?_,λd hd=>⟨_,rfl,?_⟩⟩
 ·rw [R8 (by simpa using hl)];exact hq p hp
 ·unfold Wg;dsimp only;rw [if_pos rfl];rw [P1] at hd;cases hx:xs[k]? with
  |none=>rw [hx] at hd;cases hd
  |some x=>
   rw [hx] at hd;cases hd;have xm:=G5 hx;refine hin x xm _ ⟨(ys x).length,λm zs h2=>h2=h'/\zs=((xs.take k).flatMap λx=>(ys x).map (g x))++((ys x).take m).map (g x),⟨rfl,by simp⟩,?_⟩;rintro m zs h2 ⟨rfl,rfl⟩;refine⟨?_,(ys x).map c',rfl,by simp,λhl=>⟨h2,Sub.refl _,rfl,?_⟩,λd hd=> ?_⟩
   ·rw [G8,len,G2,R0];have:=lek1 k x (min m (ys x).length) hx (J9 _ _);exact D7 (jL (by omega))
   ·have hm:(ys x).take m=ys x:=R8 (by simpa using hl);rw [hm,M1,hx,Z9];simp
   ·rw [P1] at hd;cases hy:(ys x)[m]? with
    |none=>rw [hy] at hd;cases hd
    |some y=>
     rw [hy] at hd;cases hd
     first
      |rw [if_pos rfl]
      |(dsimp only;rw [if_pos rfl])
     refine he x xm y (G5 hy) _ ⟨h2,Sub.refl _,rfl,?_⟩;rw [M1,hy];simp
theorem AH (xs:List α)(c g:α->D)(hz:xs.length<=1000)(hj:j h=some (xs.map c))(ht: ∀R:ItD->HD->Prop,R j h->ti σ h R)
 (he: ∀x∈xs,∀Q':KD,Q' (g x) h->te ((za js σ).set i (some (c x))) h Q')(hq:Q (.tup (xs.map g)) h):dCB XG (yf (Yg (bN i) js ti Wg te) VP) σ h Q:=by
 show Yg (bN i) js ti Wg te σ h (λx h1=>XG [x] h1 Q);exact lcA xs c g hz hj ht he λp hp=>(show ∃ys,yL h p (xs.map g) p=some ys/\Q (.tup ys) (VO (yL h p (xs.map g)) p) from ⟨_,je,by rw [wA hp];exact hq⟩)
theorem qx (xs:List α)(c g:α->D)(p:α->Bool){tt:TTD}(hz:xs.length<=1000)(hj:j h=some (xs.map c))(ht: ∀R:ItD->HD->Prop,R j h->ti σ h R)
 (hp: ∀x∈xs,∀Q':Bool->HD->Prop,Q' (p x) h->tt ((za js σ).set i (some (c x))) h Q')(he: ∀x∈xs,p x=true-> ∀Q':KD,Q' (g x) h->te ((za js σ).set i (some (c x))) h Q')(hq:Q (.tup ((xs.filter p).map g)) h):dCB XG (yf (Yg (bN i) js ti tt te) VP) σ h Q:=by
 show Yg (bN i) js ti tt te σ h (λx h1=>XG [x] h1 Q);exact lcF xs c g p hz hj ht hp he λa ha=>(show ∃ys,yL h a ((xs.filter p).map g) a=some ys/\Q (.tup ys) (VO (yL h a ((xs.filter p).map g)) a) from ⟨_,je,by rw [wA ha];exact hq⟩)
theorem jbI (xs:List α)(c:α->D)(g:α->Int)(hz:xs.length<=1000)(hj:j h=some (xs.map c))(ht: ∀R:ItD->HD->Prop,R j h->ti σ h R)
 (he: ∀x∈xs,∀Q':KD,Q' (.int (g x)) h->te ((za js σ).set i (some (c x))) h Q')(hq:Q (.int (xs.map g).sum) h):dCB qp (yf (Yg (bN i) js ti Wg te) VP) σ h Q:=by
 show Yg (bN i) js ti Wg te σ h (λx h1=>qp [x] h1 Q);exact lcA xs c (λx=> .int (g x)) hz hj ht he λp hp=>⟨p,xs.map g,rfl,by rw [je,S3];rfl,by rw [wA hp];exact hq⟩
theorem jaC (xs:List α)(c:α->D)(g:α->Bool)(hz:xs.length<=1000)(hj:j h=some (xs.map c))(ht: ∀R:ItD->HD->Prop,R j h->ti σ h R)
 (he: ∀x∈xs,∀Q':KD,Q' (.bl (g x)) h->te ((za js σ).set i (some (c x))) h Q')(hq:Q (.bl (xs.all g)) h):dCB Kd (yf (Yg (bN i) js ti Wg te) VP) σ h Q:=by
 show Yg (bN i) js ti Wg te σ h (λx h1=>Kd [x] h1 Q);exact lcA xs c (λx=> .bl (g x)) hz hj ht he λp hp=>⟨p,xs.map g,rfl,by rw [je,S3];rfl,by rw [wA hp,O4];exact hq⟩
theorem jdh (xs:List α)(c:α->D)(g:α->Bool)(hz:xs.length<=1000)(hj:j h=some (xs.map c))(ht: ∀R:ItD->HD->Prop,R j h->ti σ h R)
 (he: ∀x∈xs,∀Q':KD,Q' (.bl (g x)) h->te ((za js σ).set i (some (c x))) h Q')(hq:Q (.bl (xs.any g)) h):dCB jbz (yf (Yg (bN i) js ti Wg te) VP) σ h Q:=by
 show Yg (bN i) js ti Wg te σ h (λx h1=>jbz [x] h1 Q);exact lcA xs c (λx=> .bl (g x)) hz hj ht he λp hp=>⟨p,xs.map g,rfl,by rw [je,S3];rfl,by rw [wA hp,G0s];exact hq⟩
theorem jdi (xs:List α)(c:α->D)(ys:α->List β)(c':β->D)(g:α->β->Bool)(hz:(xs.flatMap ys).length<=1000)(hj:j h=some (xs.map c))(ht: ∀R:ItD->HD->Prop,R j h->ti σ h R)
 (hin: ∀x∈xs,∀R:ItD->HD->Prop,R (λ_=>some ((ys x).map c')) h->ti' ((za js σ).set i (some (c x))) h R)
 (he: ∀x∈xs,∀y∈ys x,∀Q':KD,Q' (.bl (g x y)) h->te (((za js σ).set i (some (c x))).set i' (some (c' y))) h Q')(hq:Q (.bl (xs.all λx=>(ys x).all (g x))) h):dCB Kd (yf (kN (bN i) js ti Wg i' ti' Wg te) VP) σ h Q:=by
 show kN (bN i) js ti Wg i' ti' Wg te σ h (λx h1=>Kd [x] h1 Q);refine lcB xs c ys c' (λx y=> .bl (g x y)) hz hj ht hin he λp hp=> ?_
 ·have e:(xs.flatMap λx=>(ys x).map λy=>D.bl (g x y))=(xs.flatMap λx=>(ys x).map (g x)).map D.bl:=by
   clear hz hj ht hin he hq
   induction xs with
   |nil=>rfl
   |cons x l ih=>simp [X1,ih,S3]
  refine⟨p,xs.flatMap λx=>(ys x).map (g x),rfl,by rw [je,e],?_⟩;rw [wA hp];have e2:(xs.flatMap λx=>(ys x).map (g x)).all id=xs.all λx=>(ys x).all (g x):=by
   clear hz hj ht hin he hq e
   induction xs with
   |nil=>rfl
   |cons x l ih=>simp [X1,ih,O4]
  rw [e2];exact hq
end
end L2
namespace L2
open PySem PySem.Spec PyProof.Rows PySem.SeqAt
def jbJ (j:ItD):TID:=λ_ h R=>R j h
def jW (o:List Nat):D:= .tup (o.map λ(k:Nat)=>D.int (k:Int))
def Mx (o:List Nat):List Int:=o.map λ(k:Nat)=>(k:Int)
theorem Km (o:List Nat):jW o= .tup ((Mx o).map D.int):=by unfold jW Mx;rw [List.map_map];rfl
theorem vf (h:HD): ∀ns:List Int,ToPs h (ns.map D.int) (ns.map PyData.int)
 | []=>rfl
 |n::ns=>⟨_,_,rfl,rfl,vf h ns⟩
theorem vp: ∀ns:List Int,PyData.canLayAll0 (ns.map PyData.int)=true
 | []=>rfl
 |n::ns=>by show (PyData.canLay0 (.int n)&&_)=true;rw [vp ns];rfl
theorem Yl: ∀ns:List Int,PyData.depthAll (ns.map PyData.int)<=1
 | []=>by simp [PyData.depthAll]
 |n::ns=>by
  have:=Yl ns;simp only [R9,PyData.depthAll,PyData.depth];omega
def Vt (r:List Int):PyData:= .tuple (r.map .int)
def kQ (T:List (List Int)):PyData:= .tuple (T.map Vt)
theorem Dc (h:HD): ∀T:List (List Int),ToPs h (T.map JQ) (T.map Vt)
 | []=>rfl
 |r::T=>⟨_,_,rfl,⟨_,rfl,vf h r⟩,Dc h T⟩
theorem Kn (h:HD)(T:List (List Int)):ToP h (jw T) (kQ T):=⟨_,rfl,Dc h T⟩
theorem VX: ∀T:List (List Int),PyData.canLayAll0 (T.map Vt)=true
 | []=>rfl
 |r::T=>by
  show (PyData.canLay0 (Vt r)&&_)=true;rw [VX T];have:PyData.canLay0 (Vt r)=true:=by unfold Vt;simp only [PyData.canLay0];exact vp r
  rw [this];rfl
theorem XM: ∀T:List (List Int),PyData.depthAll (T.map Vt)<=3
 | []=>by simp [PyData.depthAll]
 |r::T=>by
  have:=XM T;have h2:=Yl r;simp only [R9,PyData.depthAll,PyData.depth,Vt];omega
variable {n e:Nat}{T:List (List Int)}
theorem ZC (h:Sq n e T){i:Nat}(hi:i<n):atI (T.map JQ) (i:Int)=some (JQ (T.getD i [])):=by
 have hi':i<T.length:=by rw [h.len];exact hi
 exact ye (by rw [P1,D9,G0 hi'];rfl)
theorem Sq.getRow (h:Sq n e T){i:Nat}(hi:i<n):T.getD i []∈T:=by
 have hi':i<T.length:=by rw [h.len];exact hi
 rw [D9,G0 hi'];exact S9 hi'
theorem ZD {r:List Int}(h:r.length=n){j:Nat}(hj:j<n):atI (r.map D.int) (j:Int)=some (.int (r.getD j 0)):=by
 have hj':j<r.length:=by rw [h];exact hj
 exact ye (by rw [P1,D9,G0 hj'];rfl)
theorem Lq (T:List (List Int))(f:Int->Int):D.tup (T.map λr=>D.tup (r.map λx=>D.int (f x)))=jw (T.map λr=>r.map f):=by
 unfold jw JQ;rw [S3]
 congr 1
 apply M5;intro r _;simp [S3,X2]
theorem Lr (h:Sq n e T):jK n T=T.map λr=>r.map λx=>if x≠0 then 1 else 0:=by
 conv=>rhs;rw [h.eq_mk]
 unfold jK mkT;rw [S3];apply M5;intro i _;simp only [N6,S3];apply M5;intro j _;simp only [N6]
 by_cases z:ent T i j=0
 ·rw [if_pos z,if_neg (by simpa using z)]
 ·rw [if_neg z,if_pos z]
theorem EJ (h:Sq n e T)(h6:n<=6):(T.flatMap λr=>r).length<=1000:=by
 have: ∀U:List (List Int),(∀r∈U,r.length=n)->(U.flatMap λr=>r).length=U.length*n:=λU=>by
  induction U with
  |nil=>intro _;simp
  |cons r U ih=>
   intro hU;rw [X1,G8,ih λr hr=>hU r (D0 _ hr),hU r D4,D2,G1n];omega
 rw [this T h.row,h.len];have:=Nat.mul_le_mul h6 h6;omega
variable {U:List (List Int)}
theorem Bg (h:Sq n e T):(T.map λr=>D.tup ((List.range n).map λj=>D.int (jT n λm=>r.getD m 0*ent U m j)))=(ZA n T U).map JQ:=by
 conv=>lhs;rw [yp T [],h.len]
 unfold ZA mkT;rw [S3,S3];apply M5;intro i _;simp only [N6,JQ,S3];rfl
theorem pow_add (h:Sq n e T)(hn:n<=8)(a:Nat): ∀b,wL n T (a+b)=ZA n (wL n T a) (wL n T b)
 |0=>by rw [show wL n T 0=Fe n from rfl,EI (h.pow hn a) hn];rfl
 |b+1=>by
  show ZA n (wL n T (a+b)) T=ZA n (wL n T a) (ZA n (wL n T b) T);rw [pow_add h hn a b,mul_assoc (h.pow hn a) (h.pow hn b) h hn]
theorem Ls (h:Sq n e T)(hn:n<=8):wL n T 1=T:=Be h hn
theorem De (h:Sq n e T)(hn:n<=8)(b:Nat):wL n T (b+1)=ZA n T (wL n T b):=by
 rw [X9,pow_add h hn,Ls h hn]
variable {i:Nat}
theorem EK {j:Nat}(hi:i<n)(hj:j<n):ent (jK n T) i j=if ent T i j=0 then 0 else 1:=YM hi hj
theorem Bh (h: ∀i j,i<n->j<n->(ent T i j=0↔ent U i j=0)):jK n T=jK n U:=Bd λi j hi hj=>by
 by_cases z:ent T i j=0
 ·rw [if_pos z,if_pos ((h i j hi hj).mp z)]
 ·rw [if_neg z,if_neg (λw=>z ((h i j hi hj).mpr w))]
theorem vg {j:Nat}(hi:i<n)(hj:j<n):ent (jK n T) i j=0↔ent T i j=0:=by
 rw [EK hi hj]
 by_cases z:ent T i j=0
 ·rw [if_pos z];simp [z]
 ·rw [if_neg z];simp [z]
theorem Df (T:List (List Int)):jK n (jK n T)=jK n T:=Bh λi j hi hj=>vg hi hj
theorem wZ {f j:Nat}(h:Sq n e T)(g:Sq n f U)(hi:i<n)(hj:j<n):ent (ZA n T U) i j≠0↔ ∃k,k<n/\ent T i k≠0/\ent U k j≠0:=by
 rw [ZB hi hj];have nn: ∀k,k<n->0<=ent T i k*ent U k j:=λk hk=>Int.mul_nonneg (h.ent_nn hi hk).1 (g.ent_nn hk hj).1
 have s:=Wr nn;have p:=Ln nn;constructor
 ·intro z;obtain⟨k,hk,w⟩:=p.mp (by omega);refine⟨k,hk,λq=> ?_,λq=> ?_⟩
  ·rw [q] at w;simp at w
  ·rw [q] at w;simp at w
 ·rintro ⟨k,hk,a,b⟩ z;have c:=(h.ent_nn hi hk).1;have d:=(g.ent_nn hk hj).1;have:0<ent T i k*ent U k j:=Int.mul_pos (by omega) (by omega);have:=p.mpr ⟨k,hk,this⟩;omega
theorem Vu {f:Nat}(h:Sq n e T)(g:Sq n f U):jK n (ZA n T U)=jK n (ZA n (jK n T) (jK n U)):=
 Bh λi j hi hj=>by
  have a:=wZ h g hi hj;have b:=wZ (Sq.mark (n:=n) T) (Sq.mark (n:=n) U) hi hj;have c:(∃k,k<n/\ent T i k≠0/\ent U k j≠0)↔ ∃k,k<n/\ent (jK n T) i k≠0/\ent (jK n U) k j≠0:=
   ⟨λ⟨k,hk,x,y⟩=>⟨k,hk,λz=>x ((vg hi hk).mp z),λz=>y ((vg hk hj).mp z)⟩,λ⟨k,hk,x,y⟩=>⟨k,hk,λz=>x ((vg hi hk).mpr z),λz=>y ((vg hk hj).mpr z)⟩⟩
  exact⟨λz=>E3 λw=>(a.mpr (c.mpr (b.mp w))) z,λz=>E3 λw=>(b.mpr (c.mp (a.mp w))) z⟩
theorem Ws (h:Sq n e T):zh T=true↔ ∀i j,i<n->j<n->ent T i j≠0:=by
 have h1:zh T=zh (mkT n (ent T)):=by rw [<-h.eq_mk]
 rw [h1,Mw]
theorem Lt {a:Nat}(h:Sq n e T)(hn:n<=8)(ha:0<a)(f:zh (wL n T a)=true):zh (wL n T (a+1))=true:=by
 rw [Ws (h.pow hn _)] at f ⊢;intro i j hi hj;obtain⟨b,rfl⟩: ∃b,a=b+1:=⟨a-1,by omega⟩;have z:=f i j hi hj;rw [De h hn b,wZ h (h.pow hn b) hi hj] at z;obtain⟨k,hk,x,_⟩:=z;rw [De h hn (b+1),wZ h (h.pow hn (b+1)) hi hj];exact⟨k,hk,x,f k j hk hj⟩
theorem Mz {a:Nat}(h:Sq n e T)(hn:n<=8)(ha:0<a)(f:zh (wL n T a)=true): ∀b,zh (wL n T (a+b))=true
 |0=>f
 |b+1=>Lt (a:=a+b) h hn (by omega) (Mz h hn ha f b)
section
variable {prog:Program}{w:World}{A:Around}{E:Value->Shared->Prop}{s:Shared}
variable {items:Array Value}
theorem Lu {it t:Addr}{i n:Nat}{d1 d2:Option Addr}{s1 s2:Array (Option Value)}{P:PySem.Fin->Shared->Prop}(a1:s.heap.get? it=some {cls:= .type "tuple_iterator",dict:=d1,data:= .fields #[.ref t,.int i 0],slots:=s1})(a2:s.heap.get? t=some {cls:= .type "tuple",dict:=d2,data:= .seq items n,slots:=s2})
 (more: ∀x h',items[i]? =some x->h'.IsTupleIter it t (i+1)->Heap.SameBut it s.heap h'->P (.done (.ret x)) {s with heap:=h'})
 (none_:items[i]? =none->wpAny (model prog w) A (do setField (.ref it) 0 .none;Builtin.SmallTypes.stopIteration) P E s):wpAny (model prog w) A (Builtin.«tuple_iterator.__next__» ⟨[.ref it],[]⟩) P E s:=by
 obtain⟨hp,g,d,tk,os⟩:=s
 wp_walk
 rw [Int.toNat_natCast];cases hx:items[i]? with
 |none=>exact wpAny_bind (Z6 (none_ hx))
 |some x=>
  refine wpAny_bind (wpAny_setField a1 rfl (by simp) (G9 (more x _ hx ⟨_,Q1 _ a1 ?_,rfl,?_⟩ (U8 ..))))
  ·rfl
  ·simp [Obj.mapFields,rawInt]
theorem MB {Q:PySem.Fin->Shared->Prop}(hh:A.handled=none)(hE: ∀h' e,(∀b o,s.heap.get? b=some o->h'.get? b=some o)->(∃o,h'.get? e=some o/\o.cls= .type "StopIteration")->E (.ref e) {s with heap:=h'}):wpAny (model prog w) A Builtin.SmallTypes.stopIteration Q E s:=by
 obtain⟨hp,g,d,tk,os⟩:=s;unfold Builtin.SmallTypes.stopIteration
 wp_walk
 unfold raiseNew;refine wpAny_bind (wpAny_handled ?_);rw [hh];exact wpAny_bind (G9 (wpAny_throw (hE _ _ (λb o q=>G1 _ (G1 _ q)) ⟨_,P9 _ rfl,rfl⟩)))
theorem Ym {it t:Addr}{i:Nat}{x:Value}{Q:Value->Shared->Prop}(hit:s.heap.IsTupleIter it t i)(ht:s.heap.IsTuple t items)(hx:items[i]? =some x)
 (hQ: ∀h',h'.IsTupleIter it t (i+1)->Heap.SameBut it s.heap h'->Q x {s with heap:=h'}):wpAny (model prog w) A (Builtin.SmallTypes.nextOf (.ref it)) Q E s:=by
 obtain⟨⟨c,d1,dt,s1⟩,ho,rfl,rfl⟩:=id hit;obtain⟨⟨c2,d2,dt2,s2⟩,hol,rfl,nl,rfl⟩:=ht;exact wpAny_bind (C8 hit.typeIs A7 (C4 A7 hit.typeIs G0a (Lu ho hol (λy h' e b1 b2=>⟨y,rfl,G9 (by rw [hx] at e;cases e;exact hQ h' b1 b2)⟩) λe=>by rw [hx] at e;cases e) (Z4 _)))
theorem wV {it t:Addr}{i:Nat}{Q:Value->Shared->Prop}(hh:A.handled=none)(hit:s.heap.IsTupleIter it t i)(ht:s.heap.IsTuple t items)(hx:items[i]? =none)
 (hE: ∀h' e,Heap.ExtBut it s.heap h'->(∃o,h'.get? e=some o/\o.cls= .type "StopIteration")->E (.ref e) {s with heap:=h'}):wpAny (model prog w) A (Builtin.SmallTypes.nextOf (.ref it)) Q E s:=by
 obtain⟨⟨c,d1,dt,s1⟩,ho,rfl,rfl⟩:=id hit;obtain⟨⟨c2,d2,dt2,s2⟩,hol,rfl,nl,rfl⟩:=ht;refine wpAny_bind (C8 hit.typeIs A7 (C4 A7 hit.typeIs G0a (Lu ho hol (λy h' e b1 b2=>by rw [hx] at e;cases e) λ_=>wpAny_bind (wpAny_setField ho rfl (by simp) ?_)) (Z4 _)));exact MB (s:= {s with heap:=_}) hh λh' e grown stop=>hE h' e (λb o ne q=>grown b o ((U8 ..).extBut b o ne q)) stop
end
variable {prog:Program}{w:World}{A:Around}
theorem Lv (hh:A.handled=none)(it t:Addr)(hne:t≠it)(items:Array Value):
 Draws prog w A it [it,t] items.size (λi v=>items[i]? =some v) (λi h=>h.IsTupleIter it t i/\h.IsTuple t items) where
 live:=λ_ _ st=>let ⟨o,ho,_⟩:=st.1;⟨o,ho⟩
 frame:=λ_ _ _ st hk=>⟨st.1.at λo e=>hk it (by simp) o e,st.2.at λo e=>hk t (by simp) o e⟩
 item:=λi s Q E hi st hQ=>Ym st.1 st.2 (x:=items[i]) (by simp [hi]) λh' hit' hs'=>hQ _ h' s.toks (by simp [hi]) ⟨hit',st.2.extBut hs'.extBut hne⟩ hs'
 done:=λs Q E st hE=>wV hh st.1 st.2 (by simp) hE
theorem Lw (hh:A.handled=none)(it t:Addr)(items:Array Value)(n:Nat)(hn:items.size<=n):
 Draws prog w A it [it,t] n (λ_ _=>False) (λi h=>i=n/\h.IsTupleIter it t n/\h.IsTuple t items) where
 live:=λ_ _ st=>let ⟨o,ho,_⟩:=st.2.1;⟨o,ho⟩
 frame:=λ_ _ _ st hk=>⟨st.1,st.2.1.at λo e=>hk it (by simp) o e,st.2.2.at λo e=>hk t (by simp) o e⟩
 item:=λi s Q E hi st hQ=>absurd st.1 (R1 hi)
 done:=λs Q E st hE=>wV hh st.2.1 st.2.2 (G0T hn) hE
section
variable {prog:Program}{w:World}{A:Around}{E:Value->Shared->Prop}{s:Shared}
theorem Lx {l:Addr}{its:Array Value}{P:PySem.Fin->Shared->Prop}(at_:s.heap.IsTuple l its)
 (h: ∀h',IsEnum h' (s.heap.objs.size+1) s.heap.objs.size 0 .none->h'.IsTupleIter s.heap.objs.size l 0->(∀b o,s.heap.get? b=some o->h'.get? b=some o)->P (.done (.ret (.ref (s.heap.objs.size+1)))) {s with heap:=h'}):
 wpAny (model prog w) A (Builtin.«enumerate.__new__» ⟨[.type "enumerate",.ref l],[]⟩) P E s:=by
 have fine:=sub_enumerate;obtain⟨⟨c,dd,dt,sl⟩,there,rfl,n,rfl⟩:=id at_;obtain⟨hp,g,d,tk,os⟩:=s;have size: ∀o,(hp.push o).objs.size=hp.objs.size+1:=λo=>U4 ..
 have made:=P9 (hp.push {cls:= .type "tuple_iterator",data:= .fields #[.ref l,.int 0 0]}) (o:= {cls:= .type "enumerate",data:= .fields #[.none,.bool false,.ref hp.objs.size,rawInt 0,.none,.none]}) rfl;have fin:=h _ (by rw [<-size];exact made) ⟨_,G1 _ (P9 _ rfl),rfl,rfl⟩ λb o old=>G1 _ (G1 _ old)
 rw [<-size {cls:= .type "tuple_iterator",data:= .fields #[.ref l,.int 0 0]}] at fin
 wp_walk using V3 there
 refine wpAny_stack_any λcalls=>G9 ?_
 split
 case h_1 c _ _ _ _ _=>cases c==Value.type "enumerate" <;>(wp_walk using V3 there,O7 at_;exact fin)
 case h_2=>wp_walk using V3 there,O7 at_;exact fin
theorem Qw {l:Addr}{items:Array Value}{Q:Value->Shared->Prop}(hL:s.heap.IsTuple l items)
 (h: ∀h',IsEnum h' (s.heap.objs.size+1) s.heap.objs.size 0 .none->h'.IsTupleIter s.heap.objs.size l 0->(∀b o,s.heap.get? b=some o->h'.get? b=some o)->Q (.ref (s.heap.objs.size+1)) {s with heap:=h'}):
 wpAny (model prog w) A (call (.type "enumerate") [.ref l]) Q E s:=
 callType_new F.called_enumerate (by decide) (F.typeCall_enumerate_1 _) (F.newCall_enumerate_1 _) (λ_=>F.args_object_init_2 _ _) F.entry_enumerate_new
  (S:=λ_ R s=>s.heap.IsTuple l items/\ ∀h',IsEnum h' (s.heap.objs.size+1) s.heap.objs.size 0 .none->h'.IsTupleIter s.heap.objs.size l 0->(∀b o,s.heap.get? b=some o->h'.get? b=some o)->R (.ok (.ret (.ref (s.heap.objs.size+1)))) {s with heap:=h'})
  (.of_wp λ_ _ _ _ _ ⟨tup,k⟩=>Lx tup λh' e i old=>⟨_,rfl,k h' e i old⟩) ⟨hL,λh' e i old=>⟨⟨_,e,rfl⟩,h h' e i old⟩⟩
end
section
variable {X:Cx}{pins:List (Addr×Obj)}{σ:List (Option V)}{H:Hp}{s:Shared}{h':Heap}
theorem Inv.turnL {t':Nat}{ch:List Addr}(I:Inv X pins σ H s)(k: ∀b o,b ∉ ch->s.heap.get? b=some o->h'.get? b=some o)(hc: ∀b∈ch,Fb X pins H b):Inv X pins σ H {s with heap:=h',toks:=t'}:=by
 refine I.step (g':=s.gens) (d':=s.drawn) (ch:=ch) (λb hb=>let ⟨_,f1,_,f3,f4,f5⟩:=hc b hb;⟨f3,f1,f4,f5⟩) (λb o _ _ nb e _=>k b o nb e) (λb o _ _ nb e _=>⟨o.slots,k b o nb e⟩) (λ_ _ _ _ n=>n)
  (λb o nb e=>⟨o,k b o nb e⟩) (λ_ _ e=>e) (λ_ _ _ e=>e) (λb ps e=>⟨#[],by rw [e];simp⟩) (λm hm=> ?_) (λb u e=> ?_) I.bare
 ·obtain⟨o,es,ep,ho,r⟩:=hm;exact⟨o,es,ep,k _ o (λz=>(hc _ z).2.1 rfl) ho,r⟩
 ·refine(I.hok b u e).stay (λc v hb q=>k c v (λz=> ?_) q) (λ_ q=>q) λ_ _ q=>q
  have f:=(hc c z).1;rcases hb with w|w
  ·rw [w,e] at f;cases f
  ·rw [w] at f;cases f
theorem Inv.turnLaid {t':Nat}{ch:List Addr}{a:Addr}{o:HO}(I:Inv X pins σ H s)(k: ∀b u,b ∉ ch->s.heap.get? b=some u->h'.get? b=some u)(hc: ∀b∈ch,Fb X pins H b)(hp:s.heap.objs.size<=a)
 (new:ObjOk X.prog X.w (upd H a o) h' a o):Inv X pins σ (upd H a o) {s with heap:=h',toks:=t'}:=by
 have hn:=I.hok.fresh hp;refine I.step (g':=s.gens) (d':=s.drawn) (ch:=ch) (λb hb=>let ⟨_,f1,_,f3,f4,f5⟩:=hc b hb;⟨f3,f1,f4,f5⟩) (λb u _ _ nb e _=>k b u nb e) (λb u _ _ nb e _=>⟨u.slots,k b u nb e⟩)
  (λb u _ e n=>by rw [jq (R1 (D3 (P3 e) hp))];exact n) (λb u nb e=>⟨u,k b u nb e⟩) (λb xs q=>by rw [jq (ju q hn)];exact q) (λb u xs q=>by rw [jq (ju q hn)];exact q)
  (λb ps q=>⟨#[],by rw [jq (ju q hn),q];simp⟩) (λm hm=> ?_) (λb u e=> ?_) I.bare
 ·obtain⟨u,es,ep,ho,r⟩:=hm;exact⟨u,es,ep,k _ u (λz=>(hc _ z).2.1 rfl) ho,r⟩
 ·by_cases hb:b=a
  ·subst hb;rw [jt] at e;cases e;exact new
  ·rw [jq hb] at e;refine(I.hok b u e).stay (λc v hb q=>k c v (λz=> ?_) q) (λc q=>by rw [jq (ju q hn)];exact q) λc xs q=>by rw [jq (ju q hn)];exact q
   have f:=(hc c z).1;rcases hb with w|w
   ·rw [w,e] at f;cases f
   ·rw [w] at f;cases f
end
def Ite (K:PySem.W.Frag)(a:Addr):It:=
 ⟨λi H=> ∃xs x,SqT K H a xs/\xs[i]? =some x,λi H x H'=> ∃p v,H p=none/\(∀xs,SqT K H a xs->xs[i]? =some v)/\x= .ref p/\H'=upd H p (.tup [.int i,v]),λi H=> ∃xs,SqT K H a xs/\xs.length<=i⟩
variable {K:PySem.W.Frag}
theorem Ly {P:Program}{es:List Expr}{k:Nat}{pos:Pos}(a it e:Addr)(hei:e≠it)(hae:a≠e)(hai:a≠it):Turn P w K (.Tuple es k pos) (Ite K a) [e,it] e (λi h=>(∃old,IsEnum h e it i old)/\h.IsTupleIter it a i) where
 mem:=by simp
 obj:=λi h st b hb=>by
  rcases P4.mp hb with z|z
  ·subst z;obtain⟨old,q⟩:=st.1;exact⟨_,q,λv z=>by cases z⟩
  ·have z:=G7.mp z;subst z;obtain⟨o,q,c,d⟩:=st.2;exact⟨o,q,λv z=>by rw [d] at z;cases z⟩
 keep:=λi h h' st k=>⟨let ⟨old,q⟩:=st.1;⟨old,k e (by simp) _ q⟩,st.2.at λo q=>k it (by simp) o q⟩
 item:=by
  intro X hP hw hK hc i pins s σ H E I hf st hg;subst hP hw hK;obtain⟨xs,x,hq,hx⟩:=hg;obtain⟨its,rv,p,hz⟩:=I.tuple hq;obtain⟨u,hu,ru⟩:=rv.get hx;have hi:i<its.toArray.size:=by have:=(G3.mp hu).1;simpa using this
  obtain⟨old,he⟩:=st.1;have helt:e<s.heap.objs.size:=P3 he;refine wpAny_pyNext_enum_itemD (Lv (prog:=X.prog) (w:=X.w) (A:=X.A.in1) (I.ok.hd hc) it a hai its.toArray) he ⟨st.2,p⟩ hi hei (by simp [hei,Ne.symm hae]) λx' h' tk hx' ho hs' hT hsz hk=> ?_
  have ex:x'=u:=S7 (hx'.symm.trans (show its.toArray[i]? =some u by simpa using hu));subst ex;refine⟨_,rfl,G0k ho λh2 he2 hs2=> ?_⟩;have hn:H s.heap.objs.size=none:=I.hok.fresh (G6 _);have hT2:h2.get? s.heap.objs.size=some {cls:= .type "tuple",data:= .seq #[.int i tk,x']}:=(hs2.2 _ (F7 helt)).trans hT;refine⟨.ref s.heap.objs.size,upd H s.heap.objs.size (.tup [.int i,x]),?_,rfl,⟨_,x,hn,λys hy=>by rw [I.tuple_inj hy hq];exact hx,rfl,rfl⟩,⟨⟨x',by simpa using he2⟩,hs'.1.at λo y=>(hs2.2 it (Ne.symm hei)).trans y⟩,λb hb=> ?_⟩
  ·refine I.turnLaid (h':=h2) (t':=tk+1) (ch:= [e,it]) (λb u hb q=> ?_) hf (G6 _) ⟨by show 2<=sizeLine;decide,[.int i tk,x'],.cons ⟨tk,rfl⟩ (.cons ru .nil),⟨_,hT2,rfl,rfl,_,rfl⟩⟩;have b1:b≠e:=λz=>hb (by simp [z])
   have b2:b≠it:=λz=>hb (by simp [z])
   exact(hs2.2 b b1).trans (hk b u b1 b2 q)
  ·have f:=(hf b hb).1;have:b≠s.heap.objs.size:=λz=>by
    rcases P4.mp hb with w|w
    ·rw [<-w,z] at helt;exact absurd helt (T6 _)
    ·have w:=G7.mp w;obtain⟨o,ho',_⟩:=st.2;have:=P3 ho';rw [<-w,z] at this;exact absurd this (T6 _)
   rw [jq this];exact f
 done:=by
  intro X hP hw hK hc i pins s σ H E I hf st hg;subst hP hw hK;obtain⟨xs,hq,hx⟩:=hg;obtain⟨its,rv,p,hz⟩:=I.tuple hq;obtain⟨old,he⟩:=st.1;have hl:=rv.length;refine wpAny_pyNext_enum_endD (Lw (prog:=X.prog) (w:=X.w) (A:=X.A.in1) (I.ok.hd hc) it a its.toArray i (by simp;omega)) he ⟨rfl,st.2,p⟩ λh' hx'=>⟨rfl,I.turnL (t':=s.toks) (ch:= [it]) (λb o hb q=>hx' b o (λz=>hb (by simp [z])) q) λb hb=>hf b (D0 _ hb)⟩
 self:=λ_ _ _ _ _ st h=>let ⟨_,q⟩:=st.1;X3 q h
section
variable {X:Cx}
def jcw (K:PySem.W.Frag)(ta:TA):TI:=λσ H R=>ta σ H λvs H1=> ∃a,vs= [.ref a]/\(∃xs,SqT K H1 a xs)/\R (Ite K a) H1
theorem Ko {es:List Expr}{k:Nat}{tp:Pos}{a:Expr}{ta:TA}{p pos:Pos}(hg:Gl X "enumerate")(hm:X.mg "enumerate" =none)(ha:PA X [a] ta)(hs:starEach [a] X.env= [(false,eval a X.env)]:=by rfl):
 PI X (.Tuple es k tp) (.Call (.Name "enumerate" p) [a] [] pos) (jcw X.K ta):=by
 intro pins s σ H R I h;refine Call_ (vW I hg hm (show bootBuiltins "enumerate" =some (.type "enumerate") by decide +kernel) (T4 (thn (ha pos pins s σ H _ I h) λus s1 ⟨vs,H1,I1,r1,q1⟩=> ?_) hs rfl));obtain⟨a,e,⟨xs,hq⟩,q⟩:=q1;subst e;cases r1 with
 |cons r rr=>
  cases rr;cases r;obtain⟨its,rv,p,hz⟩:=I1.tuple hq;have hlt:a<s1.heap.objs.size:=by obtain⟨o,ho,_⟩:=p;exact P3 ho
  refine Qw (show s1.heap.IsTuple a its.toArray from p) λh' he hit hk=> ?_
  refine X3 he ?_;refine⟨s1.heap.objs.size+1,[s1.heap.objs.size+1,s1.heap.objs.size],_,_,H1,rfl,I1.kept (t':=s1.toks) hk,Ly a s1.heap.objs.size (s1.heap.objs.size+1) (F7 (F8 _)) (R1 (Q7 hlt)) (R1 hlt),⟨⟨_,he⟩,hit⟩,λb hb=> ?_,q⟩;have hb':s1.heap.objs.size<=b:=by
   rcases P4.mp hb with w|w
   ·rw [w];exact G1r _
   ·rw [G7.mp w];exact G6 _
  exact I1.fpOk hb' (I1.hok.fresh hb')
end
def Vv (ds:List D):List D:=ds.zipIdx.map λp=> .tup [.int (p.2:Int),p.1]
def iE (ta:TAD):TID:=λσ h R=>ta σ h λxs h1=> ∃ds,xs= [.tup ds]/\R (λ_=>some (Vv ds)) h1
theorem Vw {ds:List D}{d:D}(h:(Vv ds)[i]? =some d): ∃x,ds[i]? =some x/\d= .tup [.int (i:Int),x]:=by
 unfold Vv at h;rw [P1,G08] at h;cases q:ds[i]? with
 |none=>rw [q] at h;cases h
 |some x=>
  rw [q] at h;refine⟨x,rfl,?_⟩;have h':some (D.tup [.int ((0+i:Nat):Int),x])=some d:=h;rw [J5] at h';exact(S7 h').symm
theorem wQ (ds:List D):(Vv ds).length=ds.length:=by simp [Vv]
section
variable {K:PySem.W.Frag}
theorem Lz {H:Hp}{a:Addr}{vs:List V}{ds:List D}(hv:H a=some (.tup vs))(r:RelDs K H ds vs):Ew K H (λ_=>some (Vv ds)) (Ite K a):=λH' h' k rh ds' e i=>by
 cases e;have hv':=k.tup _ _ hv;have r':=r.mono k;refine⟨λd hd=> ?_,λhl=>⟨vs,SqT.of hv',by rw [<-r.length,<-wQ];exact hl⟩⟩;obtain⟨x,hx,ed⟩:=Vw hd;subst ed;obtain⟨v,e1,e2⟩:=r'.get hx;refine⟨⟨vs,v,SqT.of hv',e1⟩,λx' H'' ⟨p,v',hp,hx',ex,eH⟩=> ?_⟩;subst ex eH;have ev:v'=v:=by have:=hx' vs (SqT.of hv');rw [e1] at this;exact(S7 this).symm
 subst ev;have k2:Kept H' (upd H' p (.tup [.int i,v'])):= .new hp;exact⟨k2,RelH.new rh hp,p,[.int i,v'],rfl,jt,_,_,rfl,rfl,_,_,rfl,e2.mono k2,rfl⟩
theorem Kp {ta:TAD}: ∀σ H R,LI K (iE ta) σ H R->jcw K (LA K ta) σ H R:=λσ H R ⟨σd,h,Rd,rs,rh,q,p⟩=>
 LA.bind rs rh q λds vs h1 H1 k1 rs1 rh1 r1 ⟨es,e,q1⟩=>by
  subst e;obtain⟨v,e,r2⟩:=jC r1;obtain⟨a,ws,e',hv,r⟩:=(show ∃a vs,v= .ref a/\H1 a=some (.tup vs)/\RelDs K H1 es vs from r2);subst e';exact⟨a,e,⟨ws,SqT.of hv⟩,p _ _ _ _ k1 rh1 (Lz hv r) q1⟩
end
section
variable {X:Cx}
theorem Qx {es:List Expr}{k:Nat}{tp:Pos}{a:Expr}{ta:TAD}{p pos:Pos}(hg:Gl X "enumerate")(hm:X.mg "enumerate" =none)(ha:JA X [a] ta)(hs:starEach [a] X.env= [(false,eval a X.env)]:=by rfl):
 JI X (.Tuple es k tp) (.Call (.Name "enumerate" p) [a] [] pos) (iE ta):=⟨(Ko hg hm ha.to hs).imp Kp⟩
end
def LB (c:TTD)(tb:TSD):TSD:=λD σ h=> ∃W:Nat->SD->HD->Prop,(∃m,W m σ h)/\ ∀m σ' h',W m σ' h'->c σ' h' λb h1=>
 if b=true then tb {D with nx:=λσ2 h2=> ∃m' h3,m'<m/\Sub h3 h2/\W m' σ2 h3,ct:=λσ2 h2=> ∃m' h3,m'<m/\Sub h3 h2/\W m' σ2 h3,bk:=D.nx} σ' h1 else D.nx σ' h1
theorem EL {c:TTD}{tb:TSD}: ∀D σ H,LS K (LB c tb) D σ H->To (LT K c) (LS K tb) D σ H:=λD σ H ⟨σd,h,Dd,rs,rh,⟨W,⟨m0,w0⟩,turn⟩,nx,rt,bk,ct⟩=>by
 refine⟨λm σ' H'=>Kept H H'/\ ∃σd' h',RelS K H' σd' σ'/\RelH K h' H'/\W m σd' h',⟨m0,.refl _,σd,h,rs,rh,w0⟩,?_⟩;rintro m σ' H' ⟨kp,σd',h',rs',rh',w⟩;refine LT.bind rs' rh' (turn m σd' h' w) λb h1 H1 k1 rs1 rh1 q1=> ?_
 cases b with
 |false=>
  rw [if_neg P6] at q1 ⊢;exact nx _ _ _ _ (kp.trans k1) rs1 rh1 q1
 |true=>
  rw [if_pos rfl] at q1 ⊢;have kk:Kept H H1:=kp.trans k1;refine⟨λσ2 H2=>Kept H H2/\ ∃m',m'<m/\ ∃σd2 h2,RelS K H2 σd2 σ2/\RelH K h2 H2/\W m' σd2 h2,λσ2 H2 ⟨k2,m',hm,a,b,c,d,e⟩=>⟨m',hm,k2,a,b,c,d,e⟩,?_⟩;exact⟨σd',h1,_,rs1,rh1,q1,λa b c d k4 rs4 rh4 ⟨m',h4,hm,sb,w4⟩=>⟨kk.trans k4,m',hm,a,h4,rs4,rh4.sub sb,w4⟩,jJ rt kk,λa b c d k4 rs4 rh4 q4=>nx a b c d (kk.trans k4) rs4 rh4 q4,λa b c d k4 rs4 rh4 ⟨m',h4,hm,sb,w4⟩=>⟨kk.trans k4,m',hm,a,h4,rs4,rh4.sub sb,w4⟩⟩
section
variable {X:Cx}{pos:Pos}
theorem LD {c:Expr}{body:List Stmt}{tc:TTD}{tb:TSD}(hp:PassesOwn (model X.prog X.w) X.A X.env X.xe)(hc:JT X c tc)(hb:JSs X body tb):JS X (.While c body [] pos) (LB tc tb):=⟨(Ei hp hc.to hb.to).imp EL⟩
end
theorem Qy {c:TTD}{tb:TSD}{E:EndsD}{σ:SD}{h:HD}(W:Nat->SD->HD->Prop)(m:Nat)(w0:W m σ h)
 (turn: ∀m σ' h',W m σ' h'->c σ' h' λb h1=>if b=true then tb {E with nx:=λσ2 h2=> ∃m' h3,m'<m/\Sub h3 h2/\W m' σ2 h3,ct:=λσ2 h2=> ∃m' h3,m'<m/\Sub h3 h2/\W m' σ2 h3,bk:=E.nx} σ' h1 else E.nx σ' h1):LB c tb E σ h:=⟨W,⟨m,w0⟩,turn⟩
def Off (W:List Addr)(h h':Heap):Prop:=h'.objs.size=h.objs.size/\ ∀b o,b ∉ W->h.get? b=some o->h'.get? b=some o
theorem Off.refl (W:List Addr)(h:Heap):Off W h h:=⟨rfl,λ_ _ _ e=>e⟩
theorem Off.of {c:Addr}{W:List Addr}{h h':Heap}(x:Heap.SameBut c h h')(m:c∈W):Off W h h':=⟨x.1,λb o n e=>x.extBut b o (λq=>n (q ▸ m)) e⟩
theorem Off.trans {W:List Addr}{h h' h'':Heap}(x:Off W h h')(y:Off W h' h''):Off W h h'':=⟨y.1.trans x.1,λb o n e=>y.2 b o n (x.2 b o n e)⟩
abbrev LF (f0:Value)(b1:Bool)(TI TO:Addr):Obj:= {cls:= .type "zip",dict:=none,data:= .fields #[f0,.bool b1,.bool false,.ref TI,.ref TO],slots:= #[]}
def ZipAt (h:Heap)(z TI TO:Addr):Prop:= ∃f0 b1,h.get? z=some (LF f0 b1 TI TO)/\(f0= .none\/ ∃a t,f0= .int a t)
theorem ZipAt.off {h h':Heap}{z TI TO:Addr}{W:List Addr}(Z:ZipAt h z TI TO)(o:Off W h h')(n:z ∉ W):ZipAt h' z TI TO:=let ⟨f,b,e,q⟩:=Z;⟨f,b,o.2 _ _ n e,q⟩
section
variable {prog:Program}{w:World}{A:Around}{E:Value->Shared->Prop}{s:Shared}{z TI TO i1 i2:Addr}
theorem EM {Q:Bool->Shared->Prop}(Z:ZipAt s.heap z TI TO)(k: ∀b h',ZipAt h' z TI TO->Off [z] s.heap h'->Q b {s with heap:=h'}):wpAny (model prog w) A (Builtin.SmallTypes.ownedTupleIsFree (.ref z)) Q E s:=by
 obtain⟨f0,b1,hz,hf⟩:=id Z;have stay:=λb=>k b s.heap Z (Off.refl _ _)
 rcases hf with rfl|⟨a,t,rfl⟩
 ·wp_walk
  exact stay true
 ·have read: ∀ {P:Option Obj->Shared->Prop} {E':Value->Shared->Prop},P (s.heap.get? a.toNat) s->wpAny (model prog w) A (loadIfAlive a.toNat) P E' s:=λp _ _ _=>p
  wp_walk using read
  cases s.heap.get? a.toNat with
  |none=>exact G9 (stay true)
  |some o=>
   wp_walk
   cases b1 with
   |true=>exact G9 (stay false)
   |false=>exact wpAny_bind <| wpAny_setField_rec hz (by simp) λh' z' same=>G9 (k false h' ⟨_,_,z',.inr ⟨a,t,rfl⟩⟩ (.of same (by simp)))
structure ZApart (z TI TO i1 i2:Addr):Prop where
 z1:z≠i1
 z2:z≠i2
 zO:z≠TO
 zI:z≠TI
 O1:TO≠i1
 O2:TO≠i2
 OI:TO≠TI
 I1:TI≠i1
 I2:TI≠i2
abbrev qy (z:Addr)(h:Heap)(E:Value->Shared->Prop):Value->Shared->Prop:=λe s'=>(∀o,h.get? z=some o->s'.heap.get? z=some o)/\ ∀h',Heap.ExtBut z s'.heap h'->E e {s' with heap:=h'}
theorem LH {Q:Value->Shared->Prop}(ap:ZApart z TI TO i1 i2)(Z:ZipAt s.heap z TI TO)(hTI:IsPair s.heap TI (.ref i1) (.ref i2))(hTO: ∃a b,IsPair s.heap TO a b)
 (go: ∀h₁,Off [z] s.heap h₁->(∃o,h₁.get? z=some o/\o.cls= .type "zip")->wpAny (model prog w) A (Builtin.SmallTypes.nextOf (.ref i1)) (λx s₁=>Off [i1] h₁ s₁.heap/\ ∀h₂,Off [TO] s₁.heap h₂->
  wpAny (model prog w) A (Builtin.SmallTypes.nextOf (.ref i2)) (λy s₂=>Off [i2] h₂ s₂.heap/\ ∀h₃,(∀b o,b ∉ [z,TO]->s₂.heap.get? b=some o->h₃.get? b=some o)->IsPair h₃ s₂.heap.objs.size x y->
   ZipAt h₃ z TI TO->IsPair h₃ TI (.ref i1) (.ref i2)->(∃a b,IsPair h₃ TO a b)->Q (.ref s₂.heap.objs.size) {s₂ with heap:=h₃}) (qy z h₂ E) {s₁ with heap:=h₂}) (qy z h₁ E) {s with heap:=h₁}):
 wpAny (model prog w) A (Builtin.«zip.__next__» ⟨[.ref z],[]⟩) (λfin s'=> ∃v,fin= .done (.ret v)/\Q v s') E s:=by
 obtain⟨f0,b1,hz,hf⟩:=id Z;have ask:=λ{P:Bool->Shared->Prop} {E':Value->Shared->Prop} (k: ∀b h',ZipAt h' z TI TO->Off [z] s.heap h'->P b {s with heap:=h'})=>EM (prog:=prog) (w:=w) (A:=A) (E:=E') Z k
 wp_walk using ask
 intro b h₀ Z₀ off₀;have I₀:=off₀.2 _ _ (by simp [ap.zI.symm]) hTI;obtain⟨a',b',O₀⟩: ∃a b,IsPair h₀ TO a b:=let ⟨a,b,e⟩:=hTO;⟨a,b,off₀.2 _ _ (by simp [ap.zO.symm]) e⟩;cases b with
 |false=>
  have d1:=go h₀ off₀ (let ⟨_,_,e,_⟩:=Z₀;⟨_,e,rfl⟩);rw [if_neg (by decide)];refine wpAny_bind ?_;rw [<-Array.forIn_toList];simp only [V7,List.forIn_nil];refine wpAny_bind (wpAny_bind (B8 ?_));refine wpAny_bind (m:=Builtin.SmallTypes.nextOf (.ref i1)) (D8 d1 (λx s₁ d=>G9 (G9 ?_)) λe s' f=>f.2 s'.heap λ_ _ _ e=>e);obtain⟨o1,d2⟩:=d;refine wpAny_bind (wpAny_bind (B8 ?_));refine wpAny_bind (m:=Builtin.SmallTypes.nextOf (.ref i2)) (D8 (d2 s₁.heap (.refl _ _)) (λy s₂ d=>G9 (G9 (G9 ?_))) λe s' f=>f.2 s'.heap λ_ _ _ e=>e);obtain⟨o2,fin⟩:=d;show wpAny _ _ (newTuple [x,y] >>= _) _ _ _;have n1: ∀ {b},b≠i1->b ∉ [i1]:=λh=>by simpa using h
  have n2: ∀ {b},b≠i2->b ∉ [i2]:=λh=>by simpa using h
  have Z₂:=(Z₀.off o1 (n1 ap.z1)).off o2 (n2 ap.z2);have keep: ∀ {b o},b≠i1->b≠i2->h₀.get? b=some o->(s₂.heap.push {cls:= .type "tuple",data:= .seq #[x,y]}).get? b=some o:=λq1 q2 e=>G1 _ (o2.2 _ _ (n2 q2) (o1.2 _ _ (n1 q1) e))
  refine wpAny_bind (wpAny_newTuple (G9 ⟨_,rfl,fin _ (λb o _ e=>G1 _ e) (P9 _ rfl) ?_ (keep ap.I1 ap.I2 I₀) ⟨_,_,keep ap.O1 ap.O2 O₀⟩⟩));exact let ⟨f,b,e,q⟩:=Z₂;⟨f,b,G1 _ e,q⟩
 |true=>
  obtain⟨f0',b1',hz₀,_⟩:=Z₀;have note:=λ{P:Unit->Shared->Prop} {E':Value->Shared->Prop} (k: ∀h',h'.get? z=some (LF .ellipsis b1' TI TO)->Heap.SameBut z h₀ h'->P () {s with heap:=h'})=>
   wpAny_setField_rec (prog:=prog) (w:=w) (A:=A) (E:=E') (s:= {s with heap:=h₀}) (k:=0) (x:= .ellipsis) hz₀ (by simp) k
  wp_walk using note
  intro h₁ z₁ same₁;have off₁:Off [z] s.heap h₁:=off₀.trans (.of same₁ (by simp));have O₁:=same₁.extBut _ _ ap.zO.symm O₀;have I₁:=same₁.extBut _ _ ap.zI.symm I₀;have fell: ∀ {h:Heap} {e:Value} {s':Shared},h.get? z=some (LF .ellipsis b1' TI TO)->qy z h E e s'->wpAny (model prog w) A (setField (.ref z) 0 .none) (λ_ s''=>E e s'') E s':=λhz' f=>
   wpAny_setField_rec (f.1 _ hz') (by simp) λh' _ same=>f.2 h' same.extBut
  have draw:=λ{P:Value->Shared->Prop} {E':Value->Shared->Prop} (k: ∀x s₁,_->P x s₁) (f: ∀e s',qy z h₁ E e s'->E' e s')=>D8 (go h₁ off₁ ⟨_,z₁,rfl⟩) k f
  wp_walk using wpAny_onRaise,draw
  case f=>exact λe s' f=>fell z₁ f
  intro x s₁ ⟨o1,go2⟩;have z₂:=o1.2 _ _ (by simp [ap.z1]) z₁;have O₂:IsPair s₁.heap TO a' b':=o1.2 _ _ (by simp [ap.O1]) O₁;have I₂:=o1.2 _ _ (by simp [ap.I1]) I₁;have lay:=λ{P:Unit->Shared->Prop} {E':Value->Shared->Prop}=>wpAny_updateSeq_pair (prog:=prog) (w:=w) (A:=A) (E:=E') (s:=s₁) (k:=0) (x:=x) (Q:=P) O₂
  wp_walk using lay
  intro h₂ O₃ same₂
  replace O₃:IsPair h₂ TO x b':=O₃
  have z₃:=same₂.extBut _ _ ap.zO z₂;have I₃:=same₂.extBut _ _ ap.OI.symm I₂;have draw2:=λ{P:Value->Shared->Prop} {E':Value->Shared->Prop} (k: ∀y s₂,_->P y s₂) (f: ∀e s',qy z h₂ E e s'->E' e s')=>D8 (go2 h₂ (.of same₂ (by simp))) k f
  wp_walk using wpAny_onRaise,draw2
  case f=>exact λe s' f=>fell z₃ f
  intro y s₂ ⟨o2,fin⟩;have z₄:=o2.2 _ _ (by simp [ap.z2]) z₃;have O₄:IsPair s₂.heap TO x b':=o2.2 _ _ (by simp [ap.O2]) O₃;have I₄:=o2.2 _ _ (by simp [ap.I2]) I₃;have lay2:=λ{P:Unit->Shared->Prop} {E':Value->Shared->Prop}=>wpAny_updateSeq_pair (prog:=prog) (w:=w) (A:=A) (E:=E') (s:=s₂) (k:=1) (x:=y) (Q:=P) O₄
  wp_walk using lay2
  intro h₄ O₅ same₃
  replace O₅:IsPair h₄ TO x y:=O₅
  have z₅:=same₃.extBut _ _ ap.zO z₄;have I₅:=same₃.extBut _ _ ap.OI.symm I₄
  wp_walk
  have size:h₄.objs.size=s₂.heap.objs.size:=same₃.1;have zp:=G1 {cls:= .type "tuple",data:= .seq #[x,y]} z₅;have zu:=Q1 (Obj.mapFields λv=>v.setIfInBounds 0 (rawInt h₄.objs.size)) zp rfl;have zu':=Q1 (Obj.mapFields λv=>v.setIfInBounds 1 (Value.bool false)) zu rfl;have away: ∀ {b o},b≠z->(h₄.push {cls:= .type "tuple",data:= .seq #[x,y]}).get? b=some o->
   (((h₄.push {cls:= .type "tuple",data:= .seq #[x,y]}).update z (Obj.mapFields λv=>v.setIfInBounds 0 (rawInt h₄.objs.size))).update z (Obj.mapFields λv=>v.setIfInBounds 1 (Value.bool false))).get? b=some o:=λn e=>
   (U8 ..).extBut _ _ n ((U8 ..).extBut _ _ n e)
  have new:=away (b:=h₄.objs.size) (λq=>T6 _ (q ▸ P3 z₅)) (P9 _ rfl);refine⟨_,rfl,?_⟩;have done:=fin _ (λb o n e=>away (λq=>n (by simp [q])) (G1 _ (same₃.extBut _ _ (λq=>n (by simp [q])) e))) (size ▸ new) ⟨_,_,zu',.inr ⟨_,_,rfl⟩⟩ (away ap.zI.symm (G1 _ I₅)) ⟨_,_,away ap.zO.symm (G1 _ O₅)⟩;rw [<-size] at done;exact done
theorem Kq {tg : Expr} {v : Value} {Q : Unit → Shared → Prop} (Z : ZipAt s.heap z TI TO) (k : ∀ h', ZipAt h' z TI TO → Off [z] s.heap h' → Q () { s with heap := h' }) : wpAny (model prog w) A (letOwnedTupleGo tg (.ref z) v) Q E s := by
  obtain ⟨f0, b1, hz, hf⟩ := id Z
  have stay := k s.heap Z (.refl _ _)
  have gone : wpAny (model prog w) A (updateField z 0 .none) Q E s := wpAny_setField_rec (k := 0) (x := .none) hz (by simp) fun h' z' same => k h' ⟨_, _, z', .inl rfl⟩ (.of same (by simp))
  unfold letOwnedTupleGo
  cases tg <;> first
    | exact G9 stay
    | (cases v <;> wp_walk <;> first
        | exact stay
        | (split
           · exact wpAny_bind (Z6 gone)
           · exact G9 stay))
theorem EN {Q:Option Value->Shared->Prop}(Z:ZipAt s.heap z TI TO)
 (h:wpAny (model prog w) A.in1 (Builtin.«zip.__next__» ⟨[.ref z],[]⟩) (λfin s'=> ∃v,fin= .done (.ret v)/\Q (some v) s') (λe s'=>s'.TypeIs e "StopIteration" /\Q none s') s):wpAny (model prog w) A (pyNext (.ref z)) Q E s:=by
 obtain⟨_,_,hz,_⟩:=Z;have ty:s.TypeIs (.ref z) "zip" :=⟨_,hz,rfl⟩;have asked:=C4 F.slot_zip_next ty F.entry_zip_next h (F.args_zip_next_1 _);exact wpAny_bind (G0K (C8 (name:= "__next__") ty F.slot_zip_next (D8 asked (λ_ _ q=>G9 q) λe s' q=>wpAny_bind (wpAny_isInstance (b:=true) q.1 isSubtype_stop (G9 q.2)))))
theorem EO {l1 l2:Addr}{xs ys:Array Value}{P:PySem.Fin->Shared->Prop}(t1:s.heap.IsTuple l1 xs)(t2:s.heap.IsTuple l2 ys)
 (h: ∀h' n,n=s.heap.objs.size->ZipAt h' (n+4) (n+2) (n+3)->IsPair h' (n+2) (.ref n) (.ref (n+1))->(∃a b,IsPair h' (n+3) a b)->h'.IsTupleIter n l1 0->h'.IsTupleIter (n+1) l2 0->
  (∀b o,s.heap.get? b=some o->h'.get? b=some o)->P (.done (.ret (.ref (n+4)))) {s with heap:=h'}):
 wpAny (model prog w) A (Builtin.«zip.__new__» ⟨[.type "zip",.ref l1,.ref l2],[]⟩) P E s:=by
 have fine:=sub_zip;obtain⟨hp,g,d,tk,os⟩:=s;have first:Heap.IsTuple (Shared.heap ⟨hp,g,d,tk,os⟩) l1 xs:=t1
 have second: ∀o,Heap.IsTuple (Shared.heap ⟨hp.push o,g,d,tk,os⟩) l2 ys:=λo=>Heap.IsTuple.push t2 o
 wp_walk using O7 first,O7 (second _)
 have size: ∀ (q:Heap) o,(q.push o).objs.size=q.objs.size+1:=λq o=>U4 ..
 have n2: ∀o1 o2,((hp.push o1).push o2).objs.size=hp.objs.size+2:=λ_ _=>by rw [size,size]
 have n3: ∀o1 o2 o3,(((hp.push o1).push o2).push o3).objs.size=hp.objs.size+3:=λ_ _ _=>by rw [size,n2]
 have n4: ∀o1 o2 o3 o4,((((hp.push o1).push o2).push o3).push o4).objs.size=hp.objs.size+4:=λ_ _ _ _=>by rw [size,n3]
 have up: ∀ {q:Heap} {b o} o',q.get? b=some o->(q.push o').get? b=some o:=λo' e=>G1 o' e
 show P (.done (.ret (.ref (Heap.objs (((((hp.push _).push _).push _).push _))).size))) _;rw [n4];have at1:=P9 (hp.push {cls:= .type "tuple_iterator",data:= .fields #[.ref l1,.int 0 0]}) (o:= {cls:= .type "tuple_iterator",data:= .fields #[.ref l2,.int 0 0]}) rfl;rw [size] at at1;have top: ∀ (q:Heap) (o:Obj) (m:Nat),q.objs.size=m->o.isFreed=false->(q.push o).get? m=some o:=λq o m e f=>e ▸ P9 q f
 refine h _ hp.objs.size rfl ⟨.none,false,(top _ _ _ (n4 ..) rfl).trans ?_,.inl rfl⟩ ((up _ (up _ (top _ _ _ (n2 ..) rfl))).trans ?_) ⟨.none,.none,up _ (top _ _ _ (n3 ..) rfl)⟩ ⟨_,up _ (up _ (up _ (up _ (P9 _ rfl)))),rfl,rfl⟩ ⟨_,up _ (up _ (up _ at1)),rfl,rfl⟩ λb o e=>up _ (up _ (up _ (up _ (up _ e))))
 ·simp only [size,V9];rfl
 ·simp only [size];rfl
theorem MC {T newId initId:String}{pos:List Value}{kw:List (Str×Value)}{Made:Value->Shared->Prop}{Q:Value->Shared->Prop}(ft:TypeCalled T newId initId)(fits:checkTypeCall T ⟨pos,kw⟩=pure ())
 (made:wpAny (model prog w) A.in1 (call (.builtin newId) (.type T::pos) kw) Made E s)
 (begun: ∀o s₁,Made o s₁->s₁.TypeIs o T/\wpAny (model prog w) A.in1 (callSpecial? o "__init__" pos kw) (λr s₂=>r=some .none/\Q o s₂) E s₁):
 wpAny (model prog w) A (call (.type T) pos kw) Q E s:=by
 have f1:=ft.notType;have f2:=ft.canCreate;have f3:=ft.made;have f4:=ft.sub;obtain⟨_,_,f5⟩:=ft.mro;have first:=λ{Q':Value->Shared->Prop} (k: ∀o s₁,Made o s₁->Q' o s₁)=>D8 (E':=E) made k λ_ _ z=>z
 refine W7 (G0Y (G9 ⟨Code.quiet_builtin _ (by decide +kernel),codeAny_builtin F.entry_type_call ?_⟩));rw [Around.under_plain (weight_type_call_type T pos kw) (units_type_call_type T pos kw)]
 wp_walk using first
 intro o s₁ m;obtain⟨ty,then_⟩:=begun o s₁ m;refine wpAny_bind (wpAny_isInstance (b:=true) ty f4 (wpAny_bind (B8 (D8 then_ (λr s₂ q=> ?_) λ_ _ z=>z))));obtain⟨rfl,q⟩:=q;exact G9 q
theorem Dg {T newId:String}{o:Value}{pos:List Value}{kw:List (Str×Value)}{Q:Option Value->Shared->Prop}(ft:TypeCalled T newId "object.__init__")(other:(some newId !=some "object.__new__")=true)(ty:s.TypeIs o T)
 (fits:argsOk "object.__init__" ⟨o::pos,kw⟩)(q:Q (some .none) s):wpAny (model prog w) A (callSpecial? o "__init__" pos kw) Q E s:=by
 have f1:=ft.init.lookup;have f2:=ft.made;refine C8 ty ft.init (wpAny_call_entry_kw ft.init ty F.entry_object_init ?_ fits);cases e:(!pos.isEmpty|| !kw.isEmpty)<;>(wp_walk;exact⟨_,rfl,q⟩)
theorem Dh {l1 l2:Addr}{xs ys:Array Value}{Q:Value->Shared->Prop}(t1:s.heap.IsTuple l1 xs)(t2:s.heap.IsTuple l2 ys)
 (h: ∀h' n,n=s.heap.objs.size->ZipAt h' (n+4) (n+2) (n+3)->IsPair h' (n+2) (.ref n) (.ref (n+1))->(∃a b,IsPair h' (n+3) a b)->h'.IsTupleIter n l1 0->h'.IsTupleIter (n+1) l2 0->
  (∀b o,s.heap.get? b=some o->h'.get? b=some o)->Q (.ref (n+4)) {s with heap:=h'}):wpAny (model prog w) A (call (.type "zip") [.ref l1,.ref l2]) Q E s:=
 MC (Made:=λo s₁=>s₁.TypeIs o "zip" /\Q o s₁) F.called_zip (F.typeCall_zip_2 _ _)
  (W7 (Y8 F.called_zip.plain F.entry_zip_new (wpAny_of_eq (F.newCall_zip_2 _ _) (EO t1 t2 λh' n en zp i o a b k=>⟨let ⟨_,_,e,_⟩:=zp;⟨_,e,rfl⟩,h h' n en zp i o a b k⟩))))
  λ_ _ ⟨ty,q⟩=>⟨ty,Dg F.called_zip (by decide) ty (F.args_object_init_3 _ _ _) ⟨rfl,q⟩⟩
end
def Itz (K : PySem.W.Frag) (a b : Addr) : It :=
  ⟨fun i H => ∃ xs ys x y, SqT K H a xs ∧ SqT K H b ys ∧ xs[i]? = some x ∧ ys[i]? = some y,
   fun i H x H' => ∃ p v u, H p = none ∧ (∀ xs, SqT K H a xs → xs[i]? = some v) ∧ (∀ ys, SqT K H b ys → ys[i]? = some u) ∧ x = .ref p ∧ H' = upd H p (.tup [v, u]),
   fun i H => ∃ xs ys, SqT K H a xs ∧ SqT K H b ys ∧ (xs.length ≤ i ∨ ys.length ≤ i)⟩
theorem Di {Q:Option Value->Shared->Prop}{E:Value->Shared->Prop}{s:Shared}{z TI TO i1 i2 l1 l2:Addr}{xs ys:Array Value}(calm:A.handled=none)(ap:ZApart z TI TO i1 i2)(n1:l1 ∉ [z,TO,i1,i2])(n2:l2 ∉ [z,TO,i1,i2])(i12:i1≠i2)
 (Z:ZipAt s.heap z TI TO)(hTI:IsPair s.heap TI (.ref i1) (.ref i2))(hTO: ∃a b,IsPair s.heap TO a b)(t1:s.heap.IsTuple l1 xs)(t2:s.heap.IsTuple l2 ys)(at1:s.heap.IsTupleIter i1 l1 i)(at2:s.heap.IsTupleIter i2 l2 i)
 (pair: ∀x y h' tk,xs[i]? =some x->ys[i]? =some y->(∀b o,b ∉ [z,TO,i1,i2]->s.heap.get? b=some o->h'.get? b=some o)->IsPair h' s.heap.objs.size x y->ZipAt h' z TI TO->IsPair h' TI (.ref i1) (.ref i2)->(∃a b,IsPair h' TO a b)->
  h'.IsTupleIter i1 l1 (i+1)->h'.IsTupleIter i2 l2 (i+1)->Q (some (.ref s.heap.objs.size)) {s with heap:=h',toks:=tk})
 (ended:(xs.size<=i\/ys.size<=i)-> ∀h' tk,(∀b o,b ∉ [z,TO,i1,i2]->s.heap.get? b=some o->h'.get? b=some o)->Q none {s with heap:=h',toks:=tk}):wpAny (model prog w) A (pyNext (.ref z)) Q E s:=by
 have sub: ∀ {b:Addr} {W:List Addr},b ∉ [z,TO,i1,i2]->(∀c∈W,c∈ [z,TO,i1,i2])->b ∉ W:=λn m q=>n (m _ q)
 have z': ∀c∈ [z],c∈ [z,TO,i1,i2]:=by simp
 have o': ∀c∈ [TO],c∈ [z,TO,i1,i2]:=by simp
 have a': ∀c∈ [i1],c∈ [z,TO,i1,i2]:=by simp
 have b': ∀c∈ [i2],c∈ [z,TO,i1,i2]:=by simp
 have zo: ∀c∈ [z,TO],c∈ [z,TO,i1,i2]:=by simp
 refine EN Z (LH ap Z hTI hTO λh₁ off₁ isz=> ?_);have u1:h₁.IsTuple l1 xs:=t1.at λo e=>off₁.2 _ _ (sub n1 z') e
 have v1:h₁.IsTupleIter i1 l1 i:=at1.at λo e=>off₁.2 _ _ (by simp [ap.z1.symm]) e
 have stop: ∀ {h h':Heap} {it e:Addr},z≠it->Heap.ExtBut it h h'->(∃o,h.get? z=some o/\o.cls= .type "zip")->(∃o,h'.get? e=some o/\o.cls= .type "StopIteration")->e≠z:=λnz x ⟨o,e1,c1⟩ ⟨o2,e2,c2⟩ q=>by
  subst q;rw [x _ _ nz e1] at e2;cases e2;rw [c1] at c2;simp at c2
 cases hx:xs[i]? with
 |none=>
  refine wV (s:= {s with heap:=h₁}) calm v1 u1 hx λh' e grown st=>⟨λo q=>grown _ _ ap.z1 q,λh2 k=>⟨?_,ended (.inl (G0l.mp hx)) _ _ λb o n q=>k _ _ (λy=>sub n z' (by simp [y])) (grown _ _ (λy=>sub n a' (by simp [y])) (off₁.2 _ _ (sub n z') q))⟩⟩
  have ne:=stop ap.z1 grown isz st;obtain⟨o,q,c⟩:=st;exact⟨o,k _ _ ne q,c⟩
 |some x=>
  refine Ym (s:= {s with heap:=h₁}) v1 u1 hx λh1' w1 same₁=>⟨.of same₁ (by simp),λh₂ off₂=> ?_⟩
  have all: ∀ {b o},b ∉ [z,TO,i1,i2]->s.heap.get? b=some o->h₂.get? b=some o:=λn e=>off₂.2 _ _ (sub n o') (same₁.extBut _ _ (λy=>sub n a' (by simp [y])) (off₁.2 _ _ (sub n z') e))
  have u2:h₂.IsTuple l2 ys:=t2.at λo e=>all n2 e
  have v2:h₂.IsTupleIter i2 l2 i:=at2.at λo e=>off₂.2 _ _ (by simp [ap.O2.symm]) (same₁.extBut _ _ i12.symm (off₁.2 _ _ (by simp [ap.z2.symm]) e))
  have w2:h₂.IsTupleIter i1 l1 (i+1):=w1.at λo e=>off₂.2 _ _ (by simp [ap.O1.symm]) e
  have isz2: ∃o,h₂.get? z=some o/\o.cls= .type "zip" :=let ⟨o,e,c⟩:=isz;⟨o,off₂.2 _ _ (by simp [ap.zO]) (same₁.extBut _ _ ap.z1 e),c⟩;cases hy:ys[i]? with
  |none=>
   refine wV (s:= {s with heap:=h₂}) calm v2 u2 hy λh' e grown st=>⟨λo q=>grown _ _ ap.z2 q,λh3 k=>⟨?_,ended (.inr (G0l.mp hy)) _ _ λb o n q=>k _ _ (λy=>sub n z' (by simp [y])) (grown _ _ (λy=>sub n b' (by simp [y])) (all n q))⟩⟩
   have ne:=stop ap.z2 grown isz2 st;obtain⟨o,q,c⟩:=st;exact⟨o,k _ _ ne q,c⟩
  |some y=>
   refine Ym (s:= {s with heap:=h₂}) v2 u2 hy λh2' w3 same₂=>⟨.of same₂ (by simp),λh₃ kept new zip its out=> ?_⟩
   have size:h2'.objs.size=s.heap.objs.size:=by rw [same₂.1,off₂.1,same₁.1,off₁.1]
   have done:=pair x y h₃ s.toks hx hy (λb o n e=>kept _ _ (sub n zo) (same₂.extBut _ _ (λy=>sub n b' (by simp [y])) (all n e))) (size ▸ new) zip its out
    (w2.at λo e=>kept _ _ (by simp [ap.z1.symm,ap.O1.symm]) (same₂.extBut _ _ i12 e)) (w3.at λo e=>kept _ _ (by simp [ap.z2.symm,ap.O2.symm]) e)
   rw [<-size] at done;exact done
theorem Cc (n:Nat):ZApart (n+4) (n+2) (n+3) n (n+1):=by
 have d: ∀ {i j:Nat},i≠j->n+i≠n+j:=λh q=>h (Nat.add_left_cancel q)
 exact⟨d (j:=0) (by decide),d (by decide),d (by decide),d (by decide),d (j:=0) (by decide),d (by decide),d (by decide),d (j:=0) (by decide),d (by decide)⟩
theorem Dj {c:Nat}(h:c<n):c ∉ [n+4,n+3,n,n+1]:=by
 simp only [P4,S8,K4,not_or];omega
theorem EQ {c:Nat}(h:c∈ [n+4,n+2,n+3,n,n+1]):n<=c:=by
 simp only [P4,S8,K4] at h;omega
theorem Bi {E:Value->Shared->Prop}{s:Shared}{z TI TO:Addr}{Q:Value->Shared->Prop}(Z:ZipAt s.heap z TI TO)(h:Q (.ref z) s):wpAny (model prog w) A (pyIter (.ref z)) Q E s:=by
 obtain⟨_,_,hz,_⟩:=Z;have ty:s.TypeIs (.ref z) "zip" :=⟨_,hz,rfl⟩;exact wpAny_pyIter_slot ty F.slot_zip_iter (C4 F.slot_zip_iter ty F.entry_zip_iter (G9 ⟨_,rfl,_,_,ty,F.slot_zip_next.lookup,h⟩) (F.args_zip_iter_1 _))
theorem ER {P:Program}(tg:Expr)(l1 l2 z TI TO i1 i2:Addr)(ap:ZApart z TI TO i1 i2)(n1:l1 ∉ [z,TO,i1,i2])(n2:l2 ∉ [z,TO,i1,i2])(i12:i1≠i2):
 Turn P w K tg (Itz K l1 l2) [z,TI,TO,i1,i2] z (λi h=>ZipAt h z TI TO/\IsPair h TI (.ref i1) (.ref i2)/\(∃a b,IsPair h TO a b)/\h.IsTupleIter i1 l1 i/\h.IsTupleIter i2 l2 i):=by
 have inW: ∀ {b:Addr},b ∉ [z,TI,TO,i1,i2]->b ∉ [z,TO,i1,i2]:=λn q=>n (by simp only [P4] at q ⊢;rcases q with q|q|q|q|q<;>simp [q] at*)
 have there: ∀ {i:Nat} {h:Heap},(ZipAt h z TI TO/\IsPair h TI (.ref i1) (.ref i2)/\(∃a b,IsPair h TO a b)/\h.IsTupleIter i1 l1 i/\h.IsTupleIter i2 l2 i)-> ∀b∈ [z,TI,TO,i1,i2],∃o,h.get? b=some o/\ ∀v,o.data≠ .cell v:=λ⟨⟨_,_,a1,_⟩,a2,⟨_,_,a3⟩,⟨o4,a4,_,d4⟩,⟨o5,a5,_,d5⟩⟩ b hb=>by
  simp only [P4,S8,K4] at hb;rcases hb with e|e|e|e|e<;>subst e
  ·exact⟨_,a1,λv z=>by cases z⟩
  ·exact⟨_,a2,λv z=>by cases z⟩
  ·exact⟨_,a3,λv z=>by cases z⟩
  ·exact⟨o4,a4,λv z=>by rw [d4] at z;cases z⟩
  ·exact⟨o5,a5,λv z=>by rw [d5] at z;cases z⟩
 refine⟨by simp,λi h st=>there st,λi h h' ⟨⟨f,b,a1,qf⟩,a2,⟨x,y,a3⟩,a4,a5⟩ q=>⟨⟨f,b,q z (by simp) _ a1,qf⟩,q TI (by simp) _ a2,⟨x,y,q TO (by simp) _ a3⟩,a4.at λo e=>q i1 (by simp) o e,a5.at λo e=>q i2 (by simp) o e⟩,?_,?_,λ_ _ _ _ _ st h=>Bi st.1 h⟩
 ·intro X hP hw hK hc i pins s σ H E I hf st hg;subst hP hw hK;obtain⟨xs,ys,x,y,hq,hq2,hx,hy⟩:=hg;obtain⟨its,rv,p,_⟩:=I.tuple hq;obtain⟨jts,rw',p2,_⟩:=I.tuple hq2;obtain⟨u,hu,ru⟩:=rv.get hx;obtain⟨v,hv,rv'⟩:=rw'.get hy;obtain⟨a1,a2,a3,a4,a5⟩:=id st;have lt: ∀b∈ [z,TI,TO,i1,i2],b≠s.heap.objs.size:=λb hb=>let ⟨_,e,_⟩:=there st b hb;R1 (P3 e)
  have l1':i<its.toArray.size:=by have:=(G3.mp hu).1;simpa using this
  have l2':i<jts.toArray.size:=by have:=(G3.mp hv).1;simpa using this
  refine Di (I.ok.hd hc) ap n1 n2 i12 a1 a2 a3 p p2 a4 a5 (λx' y' h' tk hx' hy' kept new zip it out w1 w2=>⟨_,rfl,?_⟩) λends=>absurd ends (by omega)
  have ex:x'=u:=by simp only [G00] at hx';rw [hu] at hx';cases hx';rfl
  have ey:y'=v:=by simp only [G00] at hy';rw [hv] at hy';cases hy';rfl
  subst ex ey;refine Kq (s:= {s with heap:=h',toks:=tk}) zip λh2 zip2 off=> ?_
  have hn:H s.heap.objs.size=none:=I.hok.fresh (G6 _);have nz: ∀ {b},b≠z->b ∉ [z]:=λh=>by simpa using h
  have T2:IsPair h2 s.heap.objs.size x' y':=off.2 _ _ (nz (lt z (by simp)).symm) new;refine⟨.ref s.heap.objs.size,upd H s.heap.objs.size (.tup [x,y]),?_,rfl,⟨_,x,y,hn,λws hw=>by rw [I.tuple_inj hw hq];exact hx,λws hw=>by rw [I.tuple_inj hw hq2];exact hy,rfl,rfl⟩,
   ⟨zip2,off.2 _ _ (nz ap.zI.symm) it,let ⟨a,b,e⟩:=out;⟨a,b,off.2 _ _ (nz ap.zO.symm) e⟩,w1.at λo e=>off.2 _ _ (nz ap.z1.symm) e,w2.at λo e=>off.2 _ _ (nz ap.z2.symm) e⟩,λb hb=> ?_⟩
  ·refine I.turnLaid (h':=h2) (t':=tk) (ch:= [z,TI,TO,i1,i2]) (λb u hb q=>off.2 _ _ (λy=>inW hb (by simp only [G7] at y;simp [y])) (kept b u (inW hb) q)) hf (G6 _) ⟨by show 2<=sizeLine;decide,[x',y'],.cons ru (.cons rv' .nil),⟨_,T2,rfl,rfl,_,rfl⟩⟩
  ·rw [jq (lt b hb)];exact(hf b hb).1
 ·intro X hP hw hK hc i pins s σ H E I hf st hg;subst hP hw hK;obtain⟨xs,ys,hq,hq2,hl⟩:=hg;obtain⟨its,rv,p,_⟩:=I.tuple hq;obtain⟨jts,rw',p2,_⟩:=I.tuple hq2;have e1:=rv.length;have e2:=rw'.length;obtain⟨a1,a2,a3,a4,a5⟩:=id st;refine Di (I.ok.hd hc) ap n1 n2 i12 a1 a2 a3 p p2 a4 a5 (λx' y' h' tk hx' hy' _ _ _ _ _ _ _=> ?_) λ_ h' tk kept=>⟨rfl,I.turnL (ch:= [z,TI,TO,i1,i2]) (λb o hb q=>kept b o (inW hb) q) hf⟩
  have b1:=(G0m.mp hx').1;have b2:=(G0m.mp hy').1;simp only [P5] at b1 b2;omega
section
variable {X:Cx}
def jcx (K:PySem.W.Frag)(ta:TA):TI:=λσ H R=>ta σ H λvs H1=> ∃a b,vs= [.ref a,.ref b]/\(∃xs,SqT K H1 a xs)/\(∃ys,SqT K H1 b ys)/\R (Itz K a b) H1
theorem qz {tg:Expr}{a b:Expr}{ta:TA}{p pos:Pos}(hg:Gl X "zip")(hm:X.mg "zip" =none)(ha:PA X [a,b] ta)(hs:starEach [a,b] X.env= [(false,eval a X.env),(false,eval b X.env)]:=by rfl)(hs2:starEach [b] X.env= [(false,eval b X.env)]:=by rfl):
 PI X tg (.Call (.Name "zip" p) [a,b] [] pos) (jcx X.K ta):=by
 intro pins s σ H R I h;refine Call_ (vW I hg hm boot_zip (T4 (thn (ha pos pins s σ H _ I h) λus s1 ⟨vs,H1,I1,r1,q1⟩=> ?_) (by rw [hs,hs2]) (by rw [hs2];rfl)));obtain⟨a,b,e,⟨xs,hq⟩,⟨ys,hq2⟩,q⟩:=q1;subst e;cases r1 with
 |cons r rr=>
  cases rr with
  |cons r' rr=>
   cases rr;cases r;cases r';obtain⟨its,rv,p,_⟩:=I1.tuple hq;obtain⟨jts,rw',p2,_⟩:=I1.tuple hq2;have la:a<s1.heap.objs.size:=by obtain⟨o,ho,_⟩:=p;exact P3 ho
   have lb:b<s1.heap.objs.size:=by obtain⟨o,ho,_⟩:=p2;exact P3 ho
   refine Dh (show s1.heap.IsTuple a its.toArray from p) (show s1.heap.IsTuple b jts.toArray from p2) λh' n en z1 z2 z3 z4 z5 hk=> ?_
   subst en;refine Bi z1 ⟨s1.heap.objs.size+4,[s1.heap.objs.size+4,s1.heap.objs.size+2,s1.heap.objs.size+3,s1.heap.objs.size,s1.heap.objs.size+1],_,_,H1,rfl,I1.kept (t':=s1.toks) hk,
    ER _ a b _ _ _ _ _ (Cc _) (Dj la) (Dj lb) (R1 (F8 _)),⟨z1,z2,z3,z4,z5⟩,λc hc=> ?_,q⟩
   have hb':s1.heap.objs.size<=c:=EQ hc;exact I1.fpOk hb' (I1.hok.fresh hb')
end
def Cd (ds es:List D):List D:=(ds.zip es).map λp=> .tup [p.1,p.2]
def iZ (ta:TAD):TID:=λσ h R=>ta σ h λxs h1=> ∃ds es,xs= [.tup ds,.tup es]/\R (λ_=>some (Cd ds es)) h1
theorem ES {ds es:List D}{d:D}(h:(Cd ds es)[i]? =some d): ∃x y,ds[i]? =some x/\es[i]? =some y/\d= .tup [x,y]:=by
 unfold Cd at h;rw [P1] at h;cases q:(ds.zip es)[i]? with
 |none=>rw [q] at h;cases h
 |some p=>
  rw [q] at h;obtain⟨x,y⟩:=p;rw [List.getElem?_zip_eq_some] at q;exact⟨x,y,q.1,q.2,(S7 h).symm⟩
section
variable {K:PySem.W.Frag}
theorem ET {H:Hp}{a b:Addr}{vs us:List V}{ds es:List D}(hv:H a=some (.tup vs))(r:RelDs K H ds vs)(hu:H b=some (.tup us))(ru:RelDs K H es us):Ew K H (λ_=>some (Cd ds es)) (Itz K a b):=λH' h' k rh ds' e i=>by
 cases e;have hv':=k.tup _ _ hv;have hu':=k.tup _ _ hu;have r':=r.mono k;have ru':=ru.mono k;refine⟨λd hd=> ?_,λhl=>⟨vs,us,SqT.of hv',SqT.of hu',?_⟩⟩
 ·obtain⟨x,y,hx,hy,ed⟩:=ES hd;subst ed;obtain⟨v,e1,e2⟩:=r'.get hx;obtain⟨u,e3,e4⟩:=ru'.get hy;refine⟨⟨vs,us,v,u,SqT.of hv',SqT.of hu',e1,e3⟩,λx' H'' ⟨p,v',u',hp,hx',hy',ex,eH⟩=> ?_⟩;subst ex eH;have ev:v'=v:=by have:=hx' vs (SqT.of hv');rw [e1] at this;exact(S7 this).symm
  have eu:u'=u:=by have:=hy' us (SqT.of hu');rw [e3] at this;exact(S7 this).symm
  subst ev eu;have k2:Kept H' (upd H' p (.tup [v',u'])):= .new hp;exact⟨k2,RelH.new rh hp,p,[v',u'],rfl,jt,_,_,rfl,e2.mono k2,_,_,rfl,e4.mono k2,rfl⟩
 ·have l1:=r.length;have l2:=ru.length;unfold Cd at hl;rw [G2,W0] at hl;omega
theorem qA {ta:TAD}: ∀σ H R,LI K (iZ ta) σ H R->jcx K (LA K ta) σ H R:=λσ H R ⟨σd,h,Rd,rs,rh,q,p⟩=>
 LA.bind rs rh q λds vs h1 H1 k1 rs1 rh1 r1 ⟨es,fs,e,q1⟩=>by
  subst e;obtain⟨v,w,e,r2,r3⟩:=yD r1;obtain⟨a,ws,e',hv,r⟩:=(show ∃a vs,v= .ref a/\H1 a=some (.tup vs)/\RelDs K H1 es vs from r2);obtain⟨b,us,e'',hu,r'⟩:=(show ∃a vs,w= .ref a/\H1 a=some (.tup vs)/\RelDs K H1 fs vs from r3);subst e' e'';exact⟨a,b,e,⟨ws,SqT.of hv⟩,⟨us,SqT.of hu⟩,p _ _ _ _ k1 rh1 (ET hv r hu r') q1⟩
end
section
variable {X:Cx}
theorem LJ {tg:Expr}{a b:Expr}{ta:TAD}{p pos:Pos}(hg:Gl X "zip")(hm:X.mg "zip" =none)(ha:JA X [a,b] ta)(hs:starEach [a,b] X.env= [(false,eval a X.env),(false,eval b X.env)]:=by rfl)(hs2:starEach [b] X.env= [(false,eval b X.env)]:=by rfl):
 JI X tg (.Call (.Name "zip" p) [a,b] [] pos) (iZ ta):=⟨(qz hg hm ha.to hs hs2).imp qA⟩
end
def inE (neg:Bool):RD2:=λx y h Q=> ∃ (p:PyData) (ps:List PyData),ToP h x p/\(ToP h y (.list ps)\/ToP h y (.tuple ps))/\p.canLay0=true/\PyData.canLayAll0 ps=true/\p.depth<=60/\Q (.bl (neg !=ps.any λz=>PyData.eqv z p)) h
section
variable {X:Cx}
theorem LK (hu:X.A.units+64<cLine):OpQ X (compareOp .In) (inE false):=by
 intro pins s σ H x y v u Q I rx ry h;obtain⟨dx,dy,h,Qd,r1,r2,rh,⟨p,ps,t1,t2,c1,c2,c3,qq⟩,post⟩:=h;obtain⟨as,a1⟩:=wf I rh t1 r1 rx;have hu':X.A.units+1+min (PyData.depthAll ps) p.depth<cLine:=by have:=J9 (PyData.depthAll ps) p.depth;omega
 have q':Qd (.bl (ps.any λz=>PyData.eqv z p)) h:=by simpa using qq
 rcases t2 with t2|t2
 ·obtain⟨bs,b1⟩:=wf I rh t2 r2 ry;exact in_list_reads b1 a1 c2 c1 hu' ⟨.bl _,H,I,rfl,post (.bl _) _ _ _ (.refl H) rh rfl q'⟩
 ·obtain⟨bs,b1⟩:=wf I rh t2 r2 ry;exact in_tuple_reads b1 a1 c2 c1 hu' ⟨.bl _,H,I,rfl,post (.bl _) _ _ _ (.refl H) rh rfl q'⟩
theorem Qz (hu:X.A.units+64<cLine):OpQ X (compareOp .NotIn) (inE true):=by
 intro pins s σ H x y v u Q I rx ry h;obtain⟨dx,dy,h,Qd,r1,r2,rh,⟨p,ps,t1,t2,c1,c2,c3,qq⟩,post⟩:=h;obtain⟨as,a1⟩:=wf I rh t1 r1 rx;have hu':X.A.units+1+min (PyData.depthAll ps) p.depth<cLine:=by have:=J9 (PyData.depthAll ps) p.depth;omega
 have q':Qd (.bl (!ps.any λz=>PyData.eqv z p)) h:=by simpa using qq
 rcases t2 with t2|t2
 ·obtain⟨bs,b1⟩:=wf I rh t2 r2 ry;exact notIn_list_reads b1 a1 c2 c1 hu' ⟨.bl _,H,I,rfl,post (.bl _) _ _ _ (.refl H) rh rfl q'⟩
 ·obtain⟨bs,b1⟩:=wf I rh t2 r2 ry;exact notIn_tuple_reads b1 a1 c2 c1 hu' ⟨.bl _,H,I,rfl,post (.bl _) _ _ _ (.refl H) rh rfl q'⟩
theorem EU {neg:Bool}{i:Int}{ns:List Int}{h:HD}{Q:KD}(q:Q (.bl (neg !=decide (i∈ns))) h):inE neg (.int i) (.tup (ns.map D.int)) h Q:=by
 refine⟨.int i,ns.map .int,rfl,.inr ⟨_,rfl,vf h ns⟩,rfl,vp ns,by simp [PyData.depth],?_⟩;have e:((ns.map PyData.int).any λz=>PyData.eqv z (.int i))=decide (i∈ns):=by
  rw [N9,G0s,A8,N3];constructor
  ·rintro ⟨x,hx,e⟩;have e':(x==i)=true:=e;have:x=i:=by simpa using e'
   rw [<-this];exact hx
  ·intro hi;exact⟨i,hi,show (i==i)=true by simp⟩
 rw [e];exact q
theorem jbK {tg:Expr}{p pos:Pos}{a b:Expr}{ta:TAD}(hg:Gl X "range")(hm:X.mg "range" =none)(ha:JA X [a,b] ta)(hs:starEach [a,b] X.env= [(false,eval a X.env),(false,eval b X.env)]:=by rfl)(hs2:starEach [b] X.env= [(false,eval b X.env)]:=by rfl):JI X tg (.Call (.Name "range" p) [a,b] [] pos) (iR2 ta):=⟨(Fx hg hm ha.to hs hs2).imp jbo⟩
end
def jbL (i:Nat)(f:Int->Int->Int)(te:TED):TSD:=λD σ h=> ∃x:Int,σ[i]? =some (some (.int x))/\te σ h λy h1=> ∃j:Int,y= .int j/\D.nx (σ.set i (some (.int (f x j)))) h1
theorem TC {f:Int->Int->Int}{te:TED}: ∀D σ H,LS K (jbL i f te) D σ H->jcd i (LE K te) (ipI f) D σ H:=λD σ H ⟨σd,h,Dd,rs,rh,⟨x,hx,q⟩,nx,rt,bk,ct⟩=>by
 obtain⟨v,e1,r1⟩:=rs.2 i _ hx;cases (show v= .int x from r1);exact⟨_,e1,LE.bind rs rh q λd u h1 H1 k1 rs1 rh1 r1 ⟨j,e,q1⟩=>by
  subst e;cases (show u= .int j from r1);exact⟨x,j,rfl,rfl,nx _ _ _ _ k1 (rs1.set (d:= .int (f x j)) rfl i) rh1 q1⟩⟩
section
variable {X:Cx}{i:Nat}{x:Str}{e:Expr}{te:TED}{pos pos':Pos}
theorem Kr (hN:X.N.Nodup)(hi:X.N[i]? =some x)(hx:Loc X.env.scope x)(he:JE X e te)(hf:X.fn x=true\/X.env.scope.names.lookup x=some .local:=by first|exact .inl rfl|exact .inr rfl|assumption):JS X (.AugAssign (.Name x pos') .Add e pos) (jbL i (λa b=>a+b) te):=⟨(Tn hN hi hx he.to uE hf).imp TC⟩
theorem Ks (hN:X.N.Nodup)(hi:X.N[i]? =some x)(hx:Loc X.env.scope x)(he:JE X e te)(hf:X.fn x=true\/X.env.scope.names.lookup x=some .local:=by first|exact .inl rfl|exact .inr rfl|assumption):JS X (.AugAssign (.Name x pos') .Sub e pos) (jbL i (λa b=>a-b) te):=⟨(Tn hN hi hx he.to uF hf).imp TC⟩
end
end L2
namespace L2
open PySem PySem.Spec PyProof.Rows
section
variable {prog:Program}{w:World}{A:Around}{E:Value->Shared->Prop}{s:Shared}
theorem yE: ∀ {vs:List Value} {ns:List Int},IntsAre vs ns-> ∀ {i:Nat} {v:Value},vs[i]? =some v-> ∃t,v= .int (ns.getD i 0) t/\i<ns.length
 |_,_,.nil,_,_,hv=>by simp at hv
 |_,_,.cons _ t _,0,_,hv=>⟨t,by simpa using hv.symm,by simp⟩
 |_,_,.cons _ _ r,i+1,_,hv=>by
  obtain⟨t,e,lt⟩:=yE r (i:=i) (by simpa using hv);exact⟨t,by simpa using e,by simpa using lt⟩
theorem Wt {l:Addr}{o:Obj}(here:l<s.heap.objs.size): ∀b∈ [s.heap.objs.size,l],b<(s.heap.push o).objs.size:=λb hb=>by
 rw [U4];simp only [P4,S8,K4] at hb;rcases hb with e|e<;>subst e
 ·exact F8 _
 ·exact Q7 here
theorem Wu {o:Obj}{h':Heap}(k: ∀b u,b ∉ [s.heap.objs.size]->(s.heap.push o).get? b=some u->h'.get? b=some u): ∀b u,s.heap.get? b=some u->h'.get? b=some u:=λb u e=>
 k b u (λm=>absurd (P3 e) (by rw [G7.mp m];exact T6 _)) (G1 _ e)
end
section
variable {X:Cx}
theorem LL (hc:X.calm=true):CallR X (.builtin "min") (λxs H Q=> ∃ (a:Addr) (ns:List Int),xs= [.ref a]/\ns≠ []/\(SqL X.K H a (ns.map V.int)\/SqT X.K H a (ns.map V.int))/\ ∀m∈ns,(∀x∈ns,m<=x)->Q (.int m) H):=by
 intro pins s σ H xs us Q I r h;obtain⟨a,ns,rfl,hne,hS,q⟩:=h;obtain⟨u,rfl,ru⟩:=Zv r;cases ru;have fin: ∀ {its:List Value} (hi:IntsAre its ns) (v:Value) (h':Heap) (tk:Nat),its.toArray[argBest (λi j=>decide (ns.getD i 0<ns.getD j 0)) (its.toArray.size-1)]? =some v->(∀b o,s.heap.get? b=some o->h'.get? b=some o)->EP X pins σ Q v {s with heap:=h',toks:=tk}:=λ{its} hi v h' tk hv kept=>by
  obtain⟨t,rfl,lt⟩:=yE hi (show its[_]? =some v by simpa using hv);refine⟨.int _,H,I.kept kept,⟨t,rfl⟩,q _ (getD_mem lt) λx hx=> ?_⟩;obtain⟨j,hj,rfl⟩:=mem_getD hx;exact(argBest_lt (λi=>ns.getD i 0) (its.toArray.size-1)).2 j (by rw [P5,hi.length];omega)
 refine call_min_walk ?_;rcases hS with hS|hS
 ·obtain⟨its,rv,pl,_⟩:=I.list hS;have hi:=YK rv;obtain⟨o,e,r⟩:=id pl.isList;have W:=G05 (prog:=X.prog) (w:=X.w) (A:=X.A.in1) (I.ok.hd hc) s.heap.objs.size a (R1 (P3 e)) its.toArray;exact A2 pl.isList ⟨_,_,_,_,_,_,_,rfl,W,⟨⟨_,P9 _ rfl,rfl,rfl⟩,⟨o,G1 _ e,r⟩⟩,Wt (P3 e),by rw [P5,hi.length];exact U9.mpr hne,CmpOf.ints_lt (λi=>ns.getD i 0) (λi v hv=>(yE hi (by simpa using hv)).imp λ_ z=>z.1),λv h' tk hv k=>fin hi v h' tk hv (Wu k)⟩
 ·obtain⟨its,rv,pl,_⟩:=I.tuple hS;have hi:=YK rv;obtain⟨o,e,r⟩:=id pl;have W:=Walks.tuple (prog:=X.prog) (w:=X.w) (A:=X.A.in1) (I.ok.hd hc) s.heap.objs.size a (R1 (P3 e)) its.toArray;exact O7 (show s.heap.IsTuple a its.toArray from pl) ⟨_,_,_,_,_,_,_,rfl,W,⟨⟨_,P9 _ rfl,rfl,rfl⟩,⟨o,G1 _ e,r⟩⟩,Wt (P3 e),by rw [P5,hi.length];exact U9.mpr hne,CmpOf.ints_lt (λi=>ns.getD i 0) (λi v hv=>(yE hi (by simpa using hv)).imp λ_ z=>z.1),λv h' tk hv k=>fin hi v h' tk hv (Wu k)⟩
theorem LM (hc:X.calm=true):CallR X (.builtin "max") (λxs H Q=> ∃ (a:Addr) (ns:List Int),xs= [.ref a]/\ns≠ []/\(SqL X.K H a (ns.map V.int)\/SqT X.K H a (ns.map V.int))/\ ∀m∈ns,(∀x∈ns,x<=m)->Q (.int m) H):=by
 intro pins s σ H xs us Q I r h;obtain⟨a,ns,rfl,hne,hS,q⟩:=h;obtain⟨u,rfl,ru⟩:=Zv r;cases ru;have fin: ∀ {its:List Value} (hi:IntsAre its ns) (v:Value) (h':Heap) (tk:Nat),its.toArray[argBest (λi j=>decide (ns.getD i 0>ns.getD j 0)) (its.toArray.size-1)]? =some v->(∀b o,s.heap.get? b=some o->h'.get? b=some o)->EP X pins σ Q v {s with heap:=h',toks:=tk}:=λ{its} hi v h' tk hv kept=>by
  obtain⟨t,rfl,lt⟩:=yE hi (show its[_]? =some v by simpa using hv);refine⟨.int _,H,I.kept kept,⟨t,rfl⟩,q _ (getD_mem lt) λx hx=> ?_⟩;obtain⟨j,hj,rfl⟩:=mem_getD hx;exact(argBest_gt (λi=>ns.getD i 0) (its.toArray.size-1)).2 j (by rw [P5,hi.length];omega)
 refine call_max_walk ?_;rcases hS with hS|hS
 ·obtain⟨its,rv,pl,_⟩:=I.list hS;have hi:=YK rv;obtain⟨o,e,r⟩:=id pl.isList;have W:=G05 (prog:=X.prog) (w:=X.w) (A:=X.A.in1) (I.ok.hd hc) s.heap.objs.size a (R1 (P3 e)) its.toArray;exact A2 pl.isList ⟨_,_,_,_,_,_,_,rfl,W,⟨⟨_,P9 _ rfl,rfl,rfl⟩,⟨o,G1 _ e,r⟩⟩,Wt (P3 e),by rw [P5,hi.length];exact U9.mpr hne,CmpOf.ints_gt (λi=>ns.getD i 0) (λi v hv=>(yE hi (by simpa using hv)).imp λ_ z=>z.1),λv h' tk hv k=>fin hi v h' tk hv (Wu k)⟩
 ·obtain⟨its,rv,pl,_⟩:=I.tuple hS;have hi:=YK rv;obtain⟨o,e,r⟩:=id pl;have W:=Walks.tuple (prog:=X.prog) (w:=X.w) (A:=X.A.in1) (I.ok.hd hc) s.heap.objs.size a (R1 (P3 e)) its.toArray;exact O7 (show s.heap.IsTuple a its.toArray from pl) ⟨_,_,_,_,_,_,_,rfl,W,⟨⟨_,P9 _ rfl,rfl,rfl⟩,⟨o,G1 _ e,r⟩⟩,Wt (P3 e),by rw [P5,hi.length];exact U9.mpr hne,CmpOf.ints_gt (λi=>ns.getD i 0) (λi v hv=>(yE hi (by simpa using hv)).imp λ_ z=>z.1),λv h' tk hv k=>fin hi v h' tk hv (Wu k)⟩
def Kt (B:List Int->Int->Prop):RDn:=λds h Q=> ∃ (ns:List Int) (h':HD),ns≠ []/\Sub h' h/\(ds= [.tup (ns.map D.int)]\/ ∃a,ds= [.lst a]/\h a=some (ns.map D.int))/\ ∀m∈ns,B ns m->Q (.int m) h'
abbrev jaD:RDn:=Kt λns m=> ∀x∈ns,m<=x
abbrev jdj:RDn:=Kt λns m=> ∀x∈ns,x<=m
theorem Bj {B:List Int->Int->Prop}{f:Value}(c:CallR X f (λxs H Q=> ∃ (a:Addr) (ns:List Int),xs= [.ref a]/\ns≠ []/\(SqL X.K H a (ns.map V.int)\/SqT X.K H a (ns.map V.int))/\ ∀m∈ns,B ns m->Q (.int m) H)):Ja X f (Kt B):=
 c.imp λxs H Q ⟨ds,h,Qd,r,rh,⟨ns,h',hne,hs,e,q⟩,p⟩=>by
  rcases e with e|⟨a,e,ha⟩
  ·subst e;obtain⟨v,e,r1⟩:=jC r;obtain⟨a,vs,e1,hH,r2⟩:=(show ∃a vs,v= .ref a/\H a=some (.tup vs)/\RelDs X.K H (ns.map D.int) vs from r1);rw [zN r2] at hH;subst e e1;exact⟨a,ns,rfl,hne,.inr (SqT.of hH),λm m1 m2=>p (.int m) _ _ _ (.refl H) (rh.sub hs) rfl (q m m1 m2)⟩
  ·subst e;obtain⟨v,e,r1⟩:=jC r;obtain⟨vs,hH,r2⟩:=rh a _ ha;have e1:v= .ref a:=r1.1;rw [zN r2] at hH;subst e e1;exact⟨a,ns,rfl,hne,.inl (SqL.of hH),λm m1 m2=>p (.int m) _ _ _ (.refl H) (rh.sub hs) rfl (q m m1 m2)⟩
theorem LP (hc:X.calm=true):Ja X (.builtin "min") jaD:=Bj (LL hc)
theorem Ku (hc:X.calm=true):Ja X (.builtin "max") jdj:=Bj (LM hc)
end
theorem EV {ta:TAD}{g:TGD}{tb:TSD}{E:EndsD}{σ:SD}{h h1:HD}(m:Int)(n:Nat)(W:Nat->SD->HD->Prop)(hm:0<=m)(hm2:m<1000000)(hn:n<1000000)
 (ht: ∀R:List D->HD->Prop,R [.int m,.int (m+(n:Int))] h1->ta σ h R)(w0:W 0 σ h1)(done: ∀σ' h',W n σ' h'->E.nx σ' h')
 (turn: ∀i σ' h',i<n->W i σ' h'->g (.int (m+(i:Int))) σ' h' λσ2 h2=>tb (Nxt E λσ3 h4=>i+1<=n/\W (i+1) σ3 h4) σ2 h2):kM (iR2 ta) g tb E σ h:=by
 refine ht _ ⟨m,m+(n:Int),rfl,⟨by omega,by omega,by omega,by omega⟩,n,λi σ' h'=>i<=n/\W i σ' h',⟨T5 _,w0⟩,?_⟩;rintro i σ' h' ⟨hi,w⟩;have en:(m+(n:Int)-m).toNat=n:=by omega
 refine⟨_,rfl,by simp [en],λhl=> ?_,λd hd=> ?_⟩
 ·have:i=n:=by simp [en] at hl;omega
  subst this;exact done _ _ w
 ·rw [en,P1] at hd;cases hx:(List.range n)[i]? with
  |none=>rw [hx] at hd;cases hd
  |some y=>
   rw [hx] at hd;cases hd;obtain⟨hi2,e⟩:=G3.mp hx;simp at hi2 e;subst e;exact turn i σ' h' hi2 w
theorem Ze: ∀ {ps:List PyData},(∀p∈ps,p.showable=true)->PyData.showableAll ps=true
 | [],_=>rfl
 |p::ps,h=>by
  simp only [PyData.showableAll,h p D4,Ze λx hx=>h x (D0 _ hx),Bool.and_self]
theorem Jb: ∀ps:List PyData,PyData.shownAll ps=ps.map PyData.shown
 | []=>rfl
 |p::ps=>by simp only [PyData.shownAll,R9,Jb ps]
theorem VY {k:Nat}: ∀ {ps:List PyData},(∀p∈ps,p.depth<=k)->PyData.depthAll ps<=k
 | [],_=>by simp [PyData.depthAll]
 |p::ps,h=>by
  simp only [PyData.depthAll];have:=h p D4;have:=VY λx hx=>h x (D0 _ hx)
  omega
theorem TD {b:Nat}: ∀ {l:List Nat},(∀x∈l,x<=b)->l.sum<=b*l.length
 | [],_=>by simp
 |x::l,h=>by
  have h1:=h x D4;have h2:=TD λy hy=>h y (D0 _ hy)
  simp only [Q9,D2,G0t];omega
structure ShowB (p:PyData)(k b:Nat):Prop where
 sh:p.showable=true
 dp:p.depth<=k
 ln:p.shown.length<=b
theorem ShowB.mono {p:PyData}{k b k' b':Nat}(h:ShowB p k b)(hk:k<=k')(hb:b<=b'):ShowB p k' b':=⟨h.sh,S1 h.dp hk,S1 h.ln hb⟩
theorem ShowB.tup {ps:List PyData}{k b:Nat}(h: ∀p∈ps,ShowB p k b):ShowB (.tuple ps) (k+1) ((b+2)*ps.length+3):=by
 refine⟨?_,?_,?_⟩
 ·simpa only [PyData.showable] using Ze λp hp=>(h p hp).sh
 ·simp only [PyData.depth];have:=VY λp hp=>(h p hp).dp;omega
 ·simp only [PyData.shown];have h1:=tupleText_len_le (PyData.shownAll ps);rw [Jb,G2,S3] at h1;have h2:((ps.map ((λx=>x.length)∘PyData.shown))).sum<=b*ps.length:=by
   have:=TD (b:=b) (l:=ps.map ((λx:Str=>x.length)∘PyData.shown)) (λx hx=>by obtain⟨p,hp,e⟩:=R3.mp hx;rw [<-e];exact(h p hp).ln);rw [G2] at this;exact this
  rw [Jb,Nat.add_mul];omega
theorem Kv {r:List Int}{h:HD}{Q:KD}(hne:r≠ [])(q: ∀m∈r,(∀x∈r,m<=x)->Q (.int m) h):jaD [JQ r] h Q:=⟨r,h,hne,Sub.refl h,.inl rfl,q⟩
def YN (r:List Int):Int:=(r.min?).getD 0
theorem LQ {r:List Int}{m:Int}(h:m∈r)(l: ∀x∈r,m<=x):m=YN r:=by
 unfold YN;rw [G01.mpr ⟨h,l⟩];rfl
theorem XN {r:List Int}(h:r≠ []):YN r∈r/\ ∀x∈r,YN r<=x:=by
 cases e:r.min? with
 |none=>exact absurd (List.min?_eq_none_iff.mp e) h
 |some m=>
  have:=G01.mp e;unfold YN;rw [e];exact this
theorem QB {n e:Nat}{T:List (List Int)}(h:Sq n e T)(ne: ∀r∈T,r≠ []){m:Int}(m1:m∈T.map YN)(m2: ∀x∈T.map YN,m<=x):decide (m>0)=zh T:=by
 rw [N9,N3];unfold zh;simp only [R5,N3];constructor
 ·intro hm r hr x hx;have a:=m2 _ (R3.mpr ⟨r,hr,rfl⟩);have b:=(XN (ne r hr)).2 x hx;omega
 ·intro z;obtain⟨r,hr,rfl⟩:=R3.mp m1;have a:=(XN (ne r hr)).1;have b:=z r hr _ a;have c:=h.nn r hr _ a;omega
section
variable {α β:Type}{i i':Nat}{js:List Nat}{ti ti':TID}{te:TED}{σ:SD}{h:HD}{Q:KD}{j:ItD}
theorem jdk (xs:List α)(c:α->D)(g:α->Int)(hz:xs.length<=1000)(hj:j h=some (xs.map c))(ht: ∀R:ItD->HD->Prop,R j h->ti σ h R)
 (he: ∀x∈xs,∀Q':KD,Q' (.int (g x)) h->te ((za js σ).set i (some (c x))) h Q')(hne:xs≠ [])(hq: ∀m∈xs.map g,(∀x∈xs.map g,m<=x)->Q (.int m) h):dCB jaD (yf (Yg (bN i) js ti Wg te) VP) σ h Q:=by
 show Yg (bN i) js ti Wg te σ h (λx h1=>jaD [x] h1 Q);exact lcA xs c (λx=> .int (g x)) hz hj ht he λp hp=>⟨xs.map g,h,λz=>hne (List.map_eq_nil_iff.mp z),Sub.newAt (Sub.refl h) hp,.inr ⟨p,rfl,by rw [je,S3];rfl⟩,hq⟩
end
end L2
namespace L2
open PySem PySem.Spec PyProof.Rows PySem.SeqAt
theorem EW {X:Cx}(hu:X.A.units+64<cLine):MtM X "list.index" (λx vs H Q=> ∃ (a:Addr) (y:V) (dy:D) (h:HD) (p:PyData) (ps:List PyData) (j:Nat) (z:PyData),x= .ref a/\vs= [y]/\RelD X.K H dy y/\RelH X.K h H/\ToP h (.lst a) (.list ps)/\ToP h dy p/\p.canLay0=true/\PyData.canLayAll0 ps=true/\p.depth<=60/\j<1000000/\ps[j]? =some z/\PyData.eqv z p=true/\(∀m y,m<j->ps[m]? =some y->PyData.eqv y p=false)/\Q (.int (j:Int)) H):=by
 intro pins s σ H x vs v us Q I rx rv h;obtain⟨a,y,dy,h,p,ps,j,z,rfl,rfl,rd,rh,t1,t2,c1,c2,c3,hj,hz,hit,hno,q⟩:=h;cases rx;obtain⟨u,rfl,ru⟩:=Zv rv;obtain⟨a',ds,ea,ha,ts⟩:=(show ∃a' ds,D.lst a= .lst a'/\h a'=some ds/\ToPs h ds ps from t1);cases ea;obtain⟨ws,hH,_⟩:=rh a ds ha;obtain⟨as,r1⟩:=wf I rh t1 (show RelD X.K H (.lst a) (.ref a) from ⟨rfl,ws,hH⟩) (show RelV (.ref a) (.ref a) from rfl);obtain⟨bs,r2⟩:=wf I rh t2 rd ru;cases r1 with
 |list h1 h2 h3 h4=>
  rename_i o its n cs;have em:=readsAll_map ps _ _ c2 h4;have gm: ∀m (hm:m<its.size),ps[m]? =some (readOf s.heap its[m]):=λm hm=>by
   rw [<-em,P1,M0,Array.getElem?_eq_getElem hm];rfl
  have hlen:its.size=ps.length:=by rw [<-em,G2,T1]
  have hjs:j<its.size:=by rw [hlen];exact(G3.mp hz).1
  have hu':X.A.units+1+min (PyData.depthAll ps) p.depth<cLine:=by have:=J9 (PyData.depthAll ps) p.depth;omega
  obtain⟨oc,od,odt,osl⟩:=o;simp only at h2 h3;subst h2 h3;refine G0C F.slot_list_index ⟨_,h1,rfl⟩ F.entry_list_index (F.args_list_index_2 _ _) (list_indexAt a its n od osl u (λy=>PyData.eqv (readOf s.heap y) p) j hjs (by omega) ?_ ?_) ⟨h1,items_eqAt h4 r2 c2 c1 hu',?_⟩
  ·have:=gm j hjs;rw [hz] at this;injection this with this
   rw [<-this];exact hit
  ·intro m hm hmj;exact hno m _ hmj (gm m hm)
  ·exact⟨.int (j:Int),H,I.tok _,⟨_,rfl⟩,q⟩
def jdl (to te:TED):TED:=λσ h Q=>to σ h λx h1=> ∃a,x= .lst a/\te σ h1 λy h2=> ∃ (p:PyData) (ps:List PyData) (j:Nat) (z:PyData),ToP h2 (.lst a) (.list ps)/\ToP h2 y p/\p.canLay0=true/\PyData.canLayAll0 ps=true/\p.depth<=60/\j<1000000/\ps[j]? =some z/\PyData.eqv z p=true/\(∀m y,m<j->ps[m]? =some y->PyData.eqv y p=false)/\Q (.int (j:Int)) h2
section
variable {X:Cx}{o e i:Expr}{to te ti:TED}{apos cpos:Pos}
theorem jbM (hu : X.A.units + 64 < cLine) (ho : JE X o to) (he : JE X e te) (hbase : attributeBase o "index" X.env (eval o X.env) = eval o X.env := by rfl)
    (hfew : ((backTo cpos (starEach [e] X.env)).all (fun x => !x.1) && (backToKw cpos (keywordEach [] X.env)).all (fun x => x.1.isSome) && decide ([e].length + ([] : List Keyword).length + (if ([] : List Keyword).isEmpty then 0 else 1) < 30)) = true := by rfl)
    (hline : (apos.endLine == cpos.line) = true := by rfl) (hs : starEach [e] X.env = (false, eval e X.env) :: starEach [] X.env := by rfl) (hplain : (backTo cpos (starEach [] X.env)).any (·.1) = false := by rfl) :
    JE X (.Call (.Attribute o "index" apos) [e] [] cpos) (jdl to te) :=
  ⟨(Hu V8 PySem.F.slot_list_index PySem.F.type_list_index (EW hu) ho.to (yC he.to pa_nil hs) hbase hfew hline hs hplain).imp
    fun σ H Q ⟨σd, h, Qd, rs, rh, t, p⟩ => LE.bind rs rh t fun d v h1 H1 k1 rs1 rh1 r1 ⟨a, e, q⟩ => by
      subst e
      obtain ⟨e1, vs, hH⟩ := (show v = .ref a ∧ ∃ vs, H1 a = some (.lst vs) from r1)
      subst e1
      refine ⟨.inl ⟨rfl, vs, SqL.of hH⟩, ?_⟩
      refine LE.bind rs1 rh1 q fun y u h2 H2 k2 rs2 rh2 r2 ⟨pd, ps, j, z, t1, t2, c1, c2, c3, hj, hz, hit, hno, q2⟩ => ?_
      exact ⟨a, u, y, h2, pd, ps, j, z, rfl, rfl, r2, rh2, t1, t2, c1, c2, c3, hj, hz, hit, hno, p (.int _) _ _ _ (k1.trans k2) rh2 rfl q2⟩⟩
end
section
variable {α:Type}{i i':Nat}{js:List Nat}{ti:TID}{te:TED}{σ:SD}{h:HD}{Q:KD}{j:ItD}
theorem jdm (xs:List α)(c c' g:α->D)(hz:xs.length<=1000)(hj:j h=some (xs.map λx=> .tup [c x,c' x]))(ht: ∀R:ItD->HD->Prop,R j h->ti σ h R)
 (he: ∀x∈xs,∀Q':KD,Q' (g x) h->te (((za js σ).set i (some (c x))).set i' (some (c' x))) h Q')(hq: ∀p,h p=none->Q (.lst p) (yL h p (xs.map g))):Yg (b2 i i') js ti Wg te σ h Q:=by
 refine ht _ ⟨xs.length,λk ys h'=>h'=h/\ys=(xs.take k).map g,⟨rfl,by simp⟩,?_⟩;rintro k ys h' ⟨rfl,rfl⟩;refine⟨by simp only [G2,R0];exact D7 (jL (by omega)),_,hj,by simp,λhl p hp=> ?_,λd hd=> ?_⟩
 ·rw [R8 (by simpa using hl)];exact hq p hp
 ·rw [P1] at hd;cases hx:xs[k]? with
  |none=>rw [hx] at hd;cases hd
  |some x=>
   rw [hx] at hd;cases hd;refine⟨_,⟨_,_,rfl,rfl⟩,?_⟩;unfold Wg;dsimp only;rw [if_pos rfl];refine he x (G5 hx) _ ⟨h',Sub.refl _,rfl,?_⟩;rw [M1,hx];simp
theorem qB (xs:List α)(c c':α->D)(g:α->Bool)(hz:xs.length<=1000)(hj:j h=some (xs.map λx=> .tup [c x,c' x]))(ht: ∀R:ItD->HD->Prop,R j h->ti σ h R)
 (he: ∀x∈xs,∀Q':KD,Q' (.bl (g x)) h->te (((za js σ).set i (some (c x))).set i' (some (c' x))) h Q')(hq:Q (.bl (xs.all g)) h):dCB Kd (yf (Yg (b2 i i') js ti Wg te) VP) σ h Q:=by
 show Yg (b2 i i') js ti Wg te σ h (λx h1=>Kd [x] h1 Q);exact jdm xs c c' (λx=> .bl (g x)) hz hj ht he λp hp=>⟨p,xs.map g,rfl,by rw [je,S3];rfl,by rw [wA hp,O4];exact hq⟩
end
def IsS (n:Nat)(S:List Nat):Prop:= ∃p:Nat->Bool,S=(List.range n).filter p
variable {n:Nat}{S:List Nat}
theorem IsS.lt (h:IsS n S){i:Nat}(hi:i∈S):i<n:=by
 obtain⟨p,rfl⟩:=h;exact D1.mp (C6.mp hi).1
theorem IsS.len (h:IsS n S):S.length<=n:=by
 obtain⟨p,rfl⟩:=h;have:=Q4 p (List.range n)
 rwa [P8] at this
theorem IsS.rise (h:IsS n S):S.Pairwise (· < ·):=by
 obtain⟨p,rfl⟩:=h;exact List.pairwise_lt_range.filter p
def jI (n:Nat)(T:List (List Int))(S:List Nat):List Nat:=(List.range n).filter λj=>S.any λi=>decide (ent T i j≠0)
theorem IsS.step (T:List (List Int))(S:List Nat):IsS n (jI n T S):=⟨_,rfl⟩
def itF {α:Type}(f:α->α)(x:α):Nat->α
 |0=>x
 |k+1=>f (itF f x k)
variable {α:Type}
theorem MD (f:α->α)(x:α)(a:Nat): ∀b,itF f x (a+b)=itF f (itF f x a) b
 |0=>rfl
 |b+1=>by show f (itF f x (a+b))=f (itF f (itF f x a) b);rw [MD f x a b]
theorem Dk {α:Type}{f:α->α}{x:α}{a p:Nat}(e:itF f x (a+p)=itF f x a)(r:Nat): ∀q,itF f x (a+p*q+r)=itF f x (a+r)
 |0=>by simp
 |q+1=>by
  have h1:a+p*(q+1)+r=(a+p)+(p*q+r):=by rw [G0t];omega
  rw [h1,MD,e,<-MD,<-V9,Dk e r q]
theorem LU {α:Type}{f:α->α}{x:α}{a m k:Nat}(e:itF f x m=itF f x a)(ha:a<m)(hk:a<=k):itF f x (a+(k-a)%(m-a))=itF f x k:=by
 have e':itF f x (a+(m-a))=itF f x a:=by rw [show a+(m-a)=m by omega];exact e
 have h:=Dk e' ((k-a)%(m-a)) ((k-a) / (m-a));have h2:=Nat.div_add_mod (k-a) (m-a);rw [show a+(m-a)*((k-a) / (m-a))+(k-a)%(m-a)=k by omega] at h;exact h.symm
variable {T:List (List Int)}
theorem IsS.it (h:IsS n S): ∀k,IsS n (itF (jI n T) S k)
 |0=>h
 |_+1=>IsS.step _ _
theorem VZ [DecidableEq α]: ∀ {l m:List α},l.Nodup->(∀x∈l,x∈m)->l.length<=m.length
 | [],_,_,_=>T5 _
 |a::l,m,nd,h=>by
  have hm:=h a D4;have h2:l.length<=(m.erase a).length:=VZ (Q0.mp nd).2 λx hx=>by
   have hxa:x≠a:=λe=>(Q0.mp nd).1 (e ▸ hx)
   exact(List.mem_erase_of_ne hxa).mpr (h x (D0 _ hx))
  rw [List.length_erase_of_mem hm] at h2;have:=List.length_pos_of_mem hm;simp only [D2];omega
def UT:Nat->List (List Nat)
 |0=> [[]]
 |n+1=>UT n++(UT n).map (· ++ [n])
theorem Dl: ∀n,(UT n).length=2^n
 |0=>rfl
 |n+1=>by
  show (UT n++(UT n).map (· ++ [n])).length=_;rw [G8,G2,Dl n,G1p];omega
theorem Ua (p:Nat->Bool): ∀n,(List.range n).filter p∈UT n
 |0=>by simp [UT]
 |n+1=>by
  rw [A4,W1];show _∈UT n++(UT n).map (· ++ [n]);cases e:p n with
  |true=>
   refine D6.mpr (.inr (R3.mpr ⟨_,Ua p n,?_⟩));simp [e]
  |false=>
   refine D6.mpr (.inl ?_);have: [n].filter p= []:=by simp [e]
   rw [this,C7];exact Ua p n
theorem EX (h6:n<=6){l:List (List Nat)}(nd:l.Nodup)(hS: ∀S∈l,IsS n S):l.length<=64:=by
 have h:=VZ nd (m:=UT n) λS hs=>by obtain⟨p,rfl⟩:=hS S hs;exact Ua p n
 rw [Dl] at h;exact S1 h (F4 (by decide) h6:2^n<=2^6)
def Dm (S:List Nat):PyData:=Vt (Mx S)
theorem Yn (h:HD)(S:List Nat):ToP h (jW S) (Dm S):=by rw [Km];exact⟨_,rfl,vf h _⟩
theorem Ub (h:HD): ∀Ss:List (List Nat),ToPs h (Ss.map jW) (Ss.map Dm)
 | []=>rfl
 |S::Ss=>⟨_,_,rfl,Yn h S,Ub h Ss⟩
theorem yB (r:List Int):(Vt r).canLay0=true:=by unfold Vt;simp only [PyData.canLay0];exact vp r
theorem ZE: ∀Ss:List (List Nat),PyData.canLayAll0 (Ss.map Dm)=true
 | []=>rfl
 |S::Ss=>by show (PyData.canLay0 (Dm S)&&_)=true;rw [ZE Ss];rw [show (Dm S).canLay0=true from yB _];rfl
theorem Jc (r:List Int):(Vt r).depth<=2:=by unfold Vt;simp only [PyData.depth];have:=Yl r;omega
theorem XO: ∀a b:List Int,PyData.eqvAll (a.map PyData.int) (b.map PyData.int)=decide (a=b)
 | [],[]=>by simp [PyData.eqvAll]
 | [],_::_=>by simp [PyData.eqvAll]
 |_::_,[]=>by simp [PyData.eqvAll]
 |x::a,y::b=>by
  show ((x==y)&&PyData.eqvAll (a.map .int) (b.map .int))=_;rw [XO a b,N9];simp
theorem ME (a b:List Int):PyData.eqv (Vt a) (Vt b)=decide (a=b):=XO a b
theorem LV {a b:List Nat}(h:Mx a=Mx b):a=b:=by
 have:=congrArg (List.map Int.toNat) h;unfold Mx at this;simpa [S3,X2] using this
theorem Yo (a b:List Nat):PyData.eqv (Dm a) (Dm b)=decide (a=b):=by
 unfold Dm;rw [ME,N9,N3,N3];exact⟨LV,λe=>by rw [e]⟩
theorem XQ (r:List Int):shaped (Vt r)=true:=by
 unfold shaped;rw [yB,P0 (by have:=Jc r;omega)];rfl
theorem in_sets {neg:Bool}{Ss:List (List Nat)}{a:Addr}{h:HD}{Q:KD}(ha:h a=some (Ss.map jW))(q:Q (.bl (neg !=decide (S∈Ss))) h):inE neg (jW S) (.lst a) h Q:=by
 refine⟨Dm S,Ss.map Dm,Yn h S,.inl ⟨a,_,rfl,ha,Ub h Ss⟩,yB _,ZE Ss,S1 (Jc _) (by decide),?_⟩;have e:((Ss.map Dm).any λz=>PyData.eqv z (Dm S))=decide (S∈Ss):=by
  rw [N9,G0s,A8,N3];constructor
  ·rintro ⟨x,hx,e⟩;have:x=S:=by simpa [N6,Yo] using e
   rw [<-this];exact hx
  ·intro hi;exact⟨S,hi,by simp [N6,Yo]⟩
 rw [e];exact q
theorem Kw {Ss:List (List Nat)}{a:Addr}{h:HD}{Q:KD}(ha:h a=some (Ss.map jW))(hS:S∈Ss)(hl:Ss.length<=1000)(q:Q (.int ((Ss.idxOf S:Nat):Int)) h):
 ∃ (p:PyData) (ps:List PyData) (j:Nat) (z:PyData),ToP h (.lst a) (.list ps)/\ToP h (jW S) p/\p.canLay0=true/\PyData.canLayAll0 ps=true/\p.depth<=60/\j<1000000/\ps[j]? =some z/\PyData.eqv z p=true/\(∀m y,m<j->ps[m]? =some y->PyData.eqv y p=false)/\Q (.int (j:Int)) h:=by
 have hj:=O8.mpr hS;refine⟨Dm S,Ss.map Dm,Ss.idxOf S,Dm S,⟨a,_,rfl,ha,Ub h Ss⟩,Yn h S,yB _,ZE Ss,S1 (Jc _) (by decide),by omega,?_,by rw [Yo,P0 rfl],λm y hm hy=> ?_,q⟩
 ·rw [P1,G0 hj,K6 hj];rfl
 ·rw [P1] at hy;have hml:m<Ss.length:=by omega
  rw [G0 hml] at hy;cases hy;rw [Yo];have:=G0U (p:=(· ==S)) (xs:=Ss) hm;simpa using this
theorem Wv {α:Type}{f:Nat->α}{L:Nat}(h:1<=L):atI ((List.range L).map f) (-1)=some (f (L-1)):=by
 unfold atI ixN;rw [G2,P8,if_neg (by decide),if_pos (by omega)];show ((List.range L).map f)[(-1+(L:Int)).toNat]? =_;rw [show (-1+(L:Int)).toNat=L-1 by omega,P1,M6 (by omega)];rfl
theorem QC {α:Type}{f:Nat->α}{L i:Nat}(h:i<L):atI ((List.range L).map f) (i:Int)=some (f i):=
 ye (by rw [P1,M6 h];rfl)
theorem LW (xs:List α):VS xs (some 1) none=xs.drop 1:=by
 unfold VS;cases xs with
 |nil=>simp
 |cons x xs=>simp [HT.sIx]
theorem LX (S:List Nat):Cd (S.map λ(k:Nat)=>D.int (k:Int)) (VS (S.map λ(k:Nat)=>D.int (k:Int)) (some 1) none)=(S.zip (S.drop 1)).map λp=>D.tup [.int (p.1:Int),.int (p.2:Int)]:=by
 rw [LW];unfold Cd;rw [<-List.map_drop,List.zip_map,S3];rfl
theorem Bk: ∀ {S:List Nat},S.Pairwise (· < ·)-> ∀p∈S.zip (S.drop 1),p.1<p.2
 | [],_,p,hp=>by simp at hp
 | [a],_,p,hp=>by simp at hp
 |a::b::l,h,p,hp=>by
  have h':=K7.mp h;rcases P4.mp (show p∈(a,b)::(b::l).zip ((b::l).drop 1) from hp) with e|e
  ·subst e;exact h'.1 b D4
  ·exact Bk h'.2 p e
theorem Ce {e:Nat}(hT:Sq n e T)(hS:IsS n S){j:Nat}(hj:j<n){m:Int}(m1:m∈0::S.map λi=>ent T i j)(m2: ∀x∈0::S.map λi=>ent T i j,x<=m):decide (m>0)=S.any λi=>decide (ent T i j≠0):=by
 rw [N9,N3,A8];constructor
 ·intro z;rcases P4.mp m1 with e|e
  ·omega
  ·obtain⟨i,hi,rfl⟩:=R3.mp e;exact⟨i,hi,P0 (by omega)⟩
 ·rintro ⟨i,hi,z⟩;have z':=T7 z;have a:=(hT.ent_nn (hS.lt hi) hj).1;have b:=m2 _ (D0 _ (R3.mpr ⟨i,hi,rfl⟩));omega
theorem IsS.more {k:Nat}(h:IsS k S)(b:Bool):IsS (k+1) (if b=true then S++ [k] else S):=by
 obtain⟨p,rfl⟩:=h;refine⟨λi=>if i=k then b else p i,?_⟩;rw [A4,W1];have e:(List.range k).filter (λi=>if i=k then b else p i)=(List.range k).filter p:=List.filter_congr λi hi=>by
  rw [if_neg (by have:=D1.mp hi;omega)]
 rw [e];cases b<;>simp
theorem IsS.nil (n:Nat):IsS n []:=⟨λ_=>false,by simp⟩
structure Enc {α:Type}[DecidableEq α](e:α->D)(p:α->PyData):Prop where
 to: ∀ (h:HD) a,ToP h (e a) (p a)
 lay: ∀a,(p a).canLay0=true
 dp: ∀a,(p a).depth<=60
 eq: ∀a b,PyData.eqv (p a) (p b)=decide (a=b)
section
variable {α:Type}[DecidableEq α]{e:α->D}{p:α->PyData}
theorem Enc.tos (E:Enc e p)(h:HD): ∀as:List α,ToPs h (as.map e) (as.map p)
 | []=>rfl
 |a::as=>⟨_,_,rfl,E.to h a,E.tos h as⟩
theorem Enc.lays (E:Enc e p): ∀as:List α,PyData.canLayAll0 (as.map p)=true
 | []=>rfl
 |a::as=>by show (PyData.canLay0 (p a)&&_)=true;rw [E.lays as,E.lay a];rfl
theorem TF (E:Enc e p){neg:Bool}{x:α}{as:List α}{a:Addr}{h:HD}{Q:KD}(ha:h a=some (as.map e))(q: ∀b:Bool,(b=true↔x∈as)->Q (.bl (neg !=b)) h):inE neg (e x) (.lst a) h Q:=by
 refine⟨p x,as.map p,E.to h x,.inl ⟨a,_,rfl,ha,E.tos h as⟩,E.lay x,E.lays as,E.dp x,q _ ?_⟩;rw [G0s,A8];constructor
 ·rintro ⟨y,hy,z⟩;have:y=x:=by simpa [N6,E.eq] using z
  rw [<-this];exact hy
 ·intro hi;exact⟨x,hi,by simp [N6,E.eq]⟩
theorem qC (E:Enc e p){x:α}{as:List α}{a:Addr}{h:HD}(ha:h a=some (as.map e))(hx:x∈as)(hl:as.length<=100000):
 ∃ (j:Nat) (q:PyData) (qs:List PyData) (z:PyData),as[j]? =some x/\ToP h (.lst a) (.list qs)/\ToP h (e x) q/\q.canLay0=true/\PyData.canLayAll0 qs=true/\q.depth<=60/\j<1000000/\qs[j]? =some z/\PyData.eqv z q=true/\(∀m y,m<j->qs[m]? =some y->PyData.eqv y q=false):=by
 have hj:=O8.mpr hx;have ex:as[as.idxOf x]? =some x:=by rw [G0 hj,K6 hj]
 refine⟨as.idxOf x,p x,as.map p,p x,ex,⟨a,_,rfl,ha,E.tos h as⟩,E.to h x,E.lay x,E.lays as,E.dp x,by omega,?_,by rw [E.eq,P0 rfl],λm y hm hy=> ?_⟩
 ·rw [P1,ex];rfl
 ·rw [P1] at hy;have hml:m<as.length:=by omega
  rw [G0 hml] at hy;cases hy;rw [E.eq];have:=G0U (p:=(· ==x)) (xs:=as) hm;simpa using this
end
theorem Jd: ∀a b:List (List Int),PyData.eqvAll (a.map Vt) (b.map Vt)=decide (a=b)
 | [],[]=>by simp [PyData.eqvAll]
 | [],_::_=>by simp [PyData.eqvAll]
 |_::_,[]=>by simp [PyData.eqvAll]
 |x::a,y::b=>by
  show (PyData.eqv (Vt x) (Vt y)&&PyData.eqvAll (a.map Vt) (b.map Vt))=_;rw [Jd a b,ME,N9];simp
theorem jcy:Enc jw kQ:=⟨Kn,λT=>by unfold kQ;simp only [PyData.canLay0];exact VX T,λT=>by unfold kQ;simp only [PyData.depth];have:=XM T;omega,Jd⟩
def mk1 (n:Nat)(T:List (List Int))(M:List (List Int)):List (List Int):=jK n (ZA n M T)
def wy (n:Nat)(T:List (List Int))(i:Nat):List (List Int):=itF (mk1 n T) (jK n T) i
theorem LY (n:Nat)(T:List (List Int)): ∀i,∃M,wy n T i=jK n M
 |0=>⟨T,rfl⟩
 |_+1=>⟨_,rfl⟩
theorem vq (n:Nat)(T:List (List Int))(i:Nat):Sq n 1 (wy n T i):=by
 obtain⟨M,e⟩:=LY n T i;rw [e];exact Sq.mark M
theorem Ww {e:Nat}(h:Sq n e T)(hn:n<=8): ∀i,wy n T i=jK n (wL n T (i+1))
 |0=>by
  show jK n T=jK n (ZA n (Fe n) T);rw [Be h hn]
 |i+1=>by
  show jK n (ZA n (wy n T i) T)=jK n (ZA n (wL n T (i+1)) T);rw [Ww h hn i,Vu (Sq.mark (n:=n) _) h,Vu (h.pow hn (i+1)) h,Df]
def RP (n:Nat)(T:List (List Int))(k i j:Nat):Prop:=ent (wL n T k) i j≠0
section
variable {n e:Nat}{T:List (List Int)}
theorem yF (h:Sq n e T)(hn:n<=8)(a b:Nat){i j:Nat}(hi:i<n)(hj:j<n):RP n T (a+b) i j↔ ∃k,k<n/\RP n T a i k/\RP n T b k j:=by
 unfold RP;rw [pow_add h hn a b];exact wZ (h.pow hn a) (h.pow hn b) hi hj
theorem ZF (h:Sq n e T)(hn:n<=8){c x:Nat}(hx:x<n)(l:RP n T c x x): ∀q,RP n T (c*(q+1)) x x
 |0=>by rw [J5,Nat.mul_one];exact l
 |q+1=>by
  rw [G0t];exact(yF h hn _ _ hx hx).mpr ⟨x,hx,ZF h hn hx l q,l⟩
theorem vt {i j:Nat}(hi:i<n)(hj:j<n):RP n T 0 i j↔i=j:=by
 unfold RP;show ent (Fe n) i j≠0↔_;unfold Fe;rw [YM hi hj]
 by_cases z:i=j
 ·simp [z]
 ·simp [z]
theorem LZ (h:Sq n e T)(hn:n<=8): ∀ (m:Nat) {i j:Nat},i<n->j<n->RP n T m i j-> ∃v:Nat->Nat,v 0=i/\v m=j/\(∀t,t<=m->v t<n)/\ ∀t,t<m->RP n T 1 (v t) (v (t+1))
 |0,i,j,hi,hj,r=>by
  have:=(vt hi hj).mp r;exact⟨λ_=>i,rfl,this,λ_ _=>hi,λt ht=>by omega⟩
 |m+1,i,j,hi,hj,r=>by
  obtain⟨k,hk,r1,r2⟩:=(yF h hn m 1 hi hj).mp r;obtain⟨v,v0,vm,vl,vr⟩:=LZ h hn m hi hk r1;refine⟨λt=>if t<=m then v t else j,?_,?_,λt _=> ?_,λt ht=> ?_⟩
  ·simp [v0]
  ·show (if m+1<=m then v (m+1) else j)=j;rw [if_neg (by omega)]
  ·show (if t<=m then v t else j)<n;split
   ·exact vl t (by assumption)
   ·exact hj
  ·show RP n T 1 (if t<=m then v t else j) (if t+1<=m then v (t+1) else j);rw [if_pos (by omega)]
   by_cases z:t+1<=m
   ·rw [if_pos z];exact vr t (by omega)
   ·rw [if_neg z,show t=m by omega,vm];exact r2
theorem Yp (h:Sq n e T)(hn:n<=8){m:Nat}{v:Nat->Nat}(vl: ∀t,t<=m->v t<n)(vr: ∀t,t<m->RP n T 1 (v t) (v (t+1)))(a:Nat): ∀b,a+b<=m->RP n T b (v a) (v (a+b))
 |0,hb=>(vt (vl a (by omega)) (vl a (by omega))).mpr rfl
 |b+1,hb=>(yF h hn b 1 (vl a (by omega)) (vl _ hb)).mpr ⟨v (a+b),vl _ (by omega),Yp h hn vl vr a b (by omega),vr (a+b) (by omega)⟩
theorem TH {n:Nat}{v:Nat->Nat}(hv: ∀t,t<=n->v t<n): ∃a b,a<b/\b<=n/\v a=v b:=by
 by_cases z: ∃a b,a<b/\b<=n/\v a=v b
 ·exact z
 ·exfalso;have nd:((List.range (n+1)).map v).Nodup:=by
   unfold List.Nodup;rw [A3];refine List.Pairwise.imp_of_mem (λ{a b} _ hb hab=> ?_) (List.pairwise_lt_range (n:=n+1));intro e;exact z ⟨a,b,hab,by have:=D1.mp hb;omega,e⟩
  have:=VZ nd (m:=List.range n) λx hx=>by
   obtain⟨t,ht,e⟩:=R3.mp hx;rw [<-e];exact D1.mpr (hv t (by have:=D1.mp ht;omega))
  simp at this;omega
theorem Kx (h:Sq n e T)(h6:n<=6){m i j:Nat}(hm:n<=m)(hi:i<n)(hj:j<n)(r:RP n T m i j):RP n T (m+60) i j:=by
 have hn:n<=8:=by omega
 obtain⟨v,v0,vm,vl,vr⟩:=LZ h hn m hi hj r;obtain⟨a,b,hab,hbn,eq⟩:=TH (n:=n) (v:=v) λt ht=>vl t (by omega)
 have ha:=vl a (by omega);have p1:RP n T a i (v a):=by have:=Yp h hn vl vr 0 a (by omega);rw [v0,J5] at this;exact this
 have p2:RP n T (b-a) (v a) (v a):=by
  have:=Yp h hn vl vr a (b-a) (by omega);rw [show a+(b-a)=b by omega,<-eq] at this;exact this
 have p3:RP n T (m-a) (v a) j:=by
  have:=Yp h hn vl vr a (m-a) (by omega);rw [show a+(m-a)=m by omega,vm] at this;exact this
 have p4:RP n T 60 (v a) (v a):=by
  have hc:b-a=1\/b-a=2\/b-a=3\/b-a=4\/b-a=5\/b-a=6:=by omega
  rcases hc with c|c|c|c|c|c<;>rw [c] at p2
  ·exact ZF h hn ha p2 59
  ·exact ZF h hn ha p2 29
  ·exact ZF h hn ha p2 19
  ·exact ZF h hn ha p2 14
  ·exact ZF h hn ha p2 11
  ·exact ZF h hn ha p2 9
 have p5:RP n T (60+(m-a)) (v a) j:=(yF h hn _ _ ha hj).mpr ⟨v a,ha,p4,p3⟩;have p6:RP n T (a+(60+(m-a))) i j:=(yF h hn _ _ hi hj).mpr ⟨v a,ha,p1,p5⟩;rw [show a+(60+(m-a))=m+60 by omega] at p6;exact p6
end
theorem JR {f g:Nat->Int}(h: ∀k,k<n->f k<=g k):jT n f<=jT n g:=by
 induction n with
 |zero=>exact U7 _
 |succ n ih=>rw [jF,jF];have:=ih λk hk=>h k (by omega);have:=h n (by omega);omega
theorem XR {f g:Nat->Int}(h: ∀k,k<n->f k<=g k)(e:jT n g<=jT n f): ∀k,k<n->f k=g k:=by
 induction n with
 |zero=>intro k hk;omega
 |succ n ih=>
  rw [jF,jF] at e;have a:=JR λk (hk:k<n)=>h k (by omega)
  have b:=h n (by omega);intro k hk
  by_cases z:k=n
  ·subst z;omega
  ·exact ih (λk hk=>h k (by omega)) (by omega) k (by omega)
section
variable {n e:Nat}{T:List (List Int)}
def tot (n:Nat)(T:List (List Int))(k:Nat):Int:=jT n λi=>jT n λj=>ent (jK n (wL n T k)) i j
theorem Yq {M:List (List Int)}{i j:Nat}(hi:i<n)(hj:j<n):ent (jK n M) i j=if ent M i j=0 then 0 else 1:=YM hi hj
theorem Ky (h:Sq n e T)(h6:n<=6){m:Nat}(hm:n<=m): ∀i j,i<n->j<n->ent (jK n (wL n T m)) i j<=ent (jK n (wL n T (m+60))) i j:=λi j hi hj=>by
 rw [Yq hi hj,Yq hi hj]
 by_cases z:ent (wL n T m) i j=0
 ·rw [if_pos z];split<;>omega
 ·rw [if_neg z,if_neg (Kx h h6 hm hi hj z)];exact U7 _
theorem EY (h:Sq n e T)(h6:n<=6){m:Nat}(hm:n<=m):jK n (wL n T m)=jK n (wL n T (m+60))\/tot n T m+1<=tot n T (m+60):=by
 have le:=Ky h h6 hm;have a:tot n T m<=tot n T (m+60):=JR λi hi=>JR λj hj=>le i j hi hj
 by_cases z:tot n T (m+60)<=tot n T m
 ·left;refine(Sq.mark (n:=n) _).ext (Sq.mark (n:=n) _) λi j hi hj=> ?_
  have b:=XR (λi hi=>JR λj hj=>le i j hi hj) z i hi;exact XR (λj hj=>le i j hi hj) (by rw [b];exact U7 _) j hj
 ·right;omega
theorem Dn (k:Nat)(h6:n<=6):0<=tot n T k/\tot n T k<=36:=by
 have r: ∀i,i<n->0<=(jT n λj=>ent (jK n (wL n T k)) i j)/\(jT n λj=>ent (jK n (wL n T k)) i j)<=6:=λi hi=>by
  have a: ∀j,j<n->0<=ent (jK n (wL n T k)) i j/\ent (jK n (wL n T k)) i j<=1:=λj hj=>by
   rw [Yq hi hj];split<;>omega
  refine⟨Wr λj hj=>(a j hj).1,?_⟩;have:=Qu (f:=λj=>ent (jK n (wL n T k)) i j) λj hj=>(a j hj).2
  omega
 refine⟨Wr λi hi=>(r i hi).1,?_⟩;have b:=Qu (f:=λi=>jT n λj=>ent (jK n (wL n T k)) i j) λi hi=>(r i hi).2
 unfold tot;omega
theorem Cf (h:Sq n e T)(h6:n<=6): ∃t,t<=36/\jK n (wL n T (n+60*t))=jK n (wL n T (n+60*(t+1))):=by
 by_cases z: ∃t,t<=36/\jK n (wL n T (n+60*t))=jK n (wL n T (n+60*(t+1)))
 ·exact z
 ·exfalso;have g: ∀t:Nat,t<=37->(t:Int)<=tot n T (n+60*t):=by
   intro t
   induction t with
   |zero=>intro _;exact(Dn _ h6).1
   |succ t ih=>
    intro ht;have a:=ih (by omega);rcases EY h h6 (m:=n+60*t) (by omega) with b|b
    ·exact(z ⟨t,by omega,by rw [b];rfl⟩).elim
    ·have e1:n+60*t+60=n+60*(t+1):=by omega
     rw [e1] at b;omega
  have a:=g 37 (G6 _);have b:=(Dn (T:=T) (n+60*37) h6).2;omega
theorem Oa (h:Sq n e T)(h1:1<=n)(h6:n<=6){L:Nat}(nd:((List.range L).map (wy n T)).Nodup):L<=2225:=by
 by_cases z:L<=2225
 ·exact z
 ·exfalso;obtain⟨t,ht,eq⟩:=Cf h h6;have e1:wy n T (n+60*t-1)=wy n T (n+60*t+59):=by
   rw [Ww h (by omega),Ww h (by omega),show n+60*t-1+1=n+60*t by omega,show n+60*t+59+1=n+60*(t+1) by omega];exact eq
  have inj:=nd;unfold List.Nodup at inj;rw [A3] at inj;have h2:=E4.mp inj (n+60*t-1) (n+60*t+59) (by simp;omega) (by simp;omega) (by omega);simp only [List.getElem_range] at h2;exact h2 e1
structure Course (n:Nat)(T:List (List Int))(L J:Nat):Prop where
 nd:((List.range L).map (wy n T)).Nodup
 lt:J<L
 eq:wy n T L=wy n T J
end
theorem EZ {e:Nat}(h:Sq n e T)(i:Nat):jK n (ZA n (wy n T i) (jK n T))=wy n T (i+1):=by
 show _=jK n (ZA n (wy n T i) T);rw [Vu (vq n T i) (Sq.mark (n:=n) T),Vu (vq n T i) h,Df]
theorem call_divmodB {X:Cx}:CallR X (.builtin "divmod") (λxs H Q=> ∃i j,xs= [.int i,.int j]/\(0<j/\j<2^200)/\ ∀p,H p=none->Q (.ref p) (upd H p (.tup [.int (i / j),.int (i%j)]))):=by
 intro pins s σ H xs us Q I r h;obtain⟨i,j,rfl,⟨h1,h2⟩,q⟩:=h;obtain⟨u,w',rfl,⟨t,rfl⟩,⟨t',rfl⟩⟩:=Em r;refine divmod_int (by omega) ?_ (.inl (PyProof.noPylong_of_log2 ?_))
 ·rw [G0h i (by omega),G0i i (by omega)];have hn:H s.heap.objs.size=none:=I.hok.fresh (G6 _);refine⟨.ref s.heap.objs.size,_,?_,rfl,q _ hn⟩;refine I.laid (λb o e=>G1 _ e) (G6 _) ⟨by simp only [D2,S4];rw [sizeLine_eq];decide,[.int (i / j) s.toks,.int (i%j) (s.toks+1)],.cons ⟨_,rfl⟩ (.cons ⟨_,rfl⟩ .nil),?_⟩;exact⟨_,P9 s.heap rfl,rfl,rfl,0,rfl⟩
 ·have h3:j.natAbs<2^200:=VW (by omega) h2;have h4:=(G1s (by omega:j.natAbs≠0)).mpr h3;omega
def Kz:RDn:=λds h Q=> ∃i j:Int,ds= [.int i,.int j]/\(0<j/\j<2^200)/\Q (.tup [.int (i / j),.int (i%j)]) h
theorem Cg {X:Cx}:Ja X (.builtin "divmod") Kz:=call_divmodB.imp λxs H Q ⟨ds,h,Qd,r,rh,⟨i,j,e,c,q⟩,p⟩=>by
 subst e;obtain⟨v,w,e,r1,r2⟩:=yD r;cases (show v= .int i from r1);cases (show w= .int j from r2);exact⟨i,j,e,c,λa ha=>p (.tup [.int (i / j),.int (i%j)]) _ _ _ (.new ha) (rh.new ha) ⟨a,_,rfl,jt,.cons rfl (.cons rfl .nil)⟩ q⟩
theorem TJ {L J:Nat}(c:Course n T L J){i:Nat}(hi:J<=i):wy n T (J+(i-J)%(L-J))=wy n T i:=LU c.eq c.lt hi
theorem Ch {prog:Program}{w:World}{A:Around}(hh:A.handled=none)(it t:Addr)(items:Array Value)(n:Nat)(hn:items.size<=n):
 Draws prog w A it [it,t] n (λ_ _=>False) (λi h=>i=n/\h.IsListIter it t n/\h.IsList t items) where
 live:=λ_ _ st=>let ⟨o,ho,_⟩:=st.2.1;⟨o,ho⟩
 frame:=λ_ _ _ st hk=>⟨st.1,st.2.1.at λo e=>hk it (by simp) o e,st.2.2.at λo e=>hk t (by simp) o e⟩
 item:=λi s Q E hi st hQ=>absurd st.1 (R1 hi)
 done:=λs Q E st hE=>wpAny_nextOf_list_end hh st.2.1 st.2.2 (G0T hn) hE
def jbN (K:PySem.W.Frag)(a:Addr):It:=
 ⟨λi H=> ∃xs x,SqL K H a xs/\xs[i]? =some x,λi H x H'=> ∃p v,H p=none/\(∀xs,SqL K H a xs->xs[i]? =some v)/\x= .ref p/\H'=upd H p (.tup [.int i,v]),λi H=> ∃xs,SqL K H a xs/\xs.length<=i⟩
theorem Ci {P:Program}{w:World}{K:PySem.W.Frag}{es:List Expr}{k:Nat}{pos:Pos}(a it e:Addr)(hei:e≠it)(hae:a≠e)(hai:a≠it):Turn P w K (.Tuple es k pos) (jbN K a) [e,it] e (λi h=>(∃old,IsEnum h e it i old)/\h.IsListIter it a i) where
 mem:=by simp
 obj:=λi h st b hb=>by
  rcases P4.mp hb with z|z
  ·subst z;obtain⟨old,q⟩:=st.1;exact⟨_,q,λv z=>by cases z⟩
  ·have z:=G7.mp z;subst z;obtain⟨o,q,c,d⟩:=st.2;exact⟨o,q,λv z=>by rw [d] at z;cases z⟩
 keep:=λi h h' st k=>⟨let ⟨old,q⟩:=st.1;⟨old,k e (by simp) _ q⟩,st.2.at λo q=>k it (by simp) o q⟩
 item:=by
  intro X hP hw hK hc i pins s σ H E I hf st hg;subst hP hw hK;obtain⟨xs,x,hq,hx⟩:=hg;obtain⟨its,rv,p,hz⟩:=I.list hq;obtain⟨u,hu,ru⟩:=rv.get hx;have hi:i<its.toArray.size:=by have:=(G3.mp hu).1;simpa using this
  obtain⟨old,he⟩:=st.1;have helt:e<s.heap.objs.size:=P3 he;refine wpAny_pyNext_enum_itemD (Draws.list (prog:=X.prog) (w:=X.w) (A:=X.A.in1) (I.ok.hd hc) it a hai its.toArray) he ⟨st.2,p.isList⟩ hi hei (by simp [hei,Ne.symm hae]) λx' h' tk hx' ho hs' hT hsz hk=> ?_
  have ex:x'=u:=S7 (hx'.symm.trans (show its.toArray[i]? =some u by simpa using hu));subst ex;refine⟨_,rfl,G0k ho λh2 he2 hs2=> ?_⟩;have hn:H s.heap.objs.size=none:=I.hok.fresh (G6 _);have hT2:h2.get? s.heap.objs.size=some {cls:= .type "tuple",data:= .seq #[.int i tk,x']}:=(hs2.2 _ (F7 helt)).trans hT;refine⟨.ref s.heap.objs.size,upd H s.heap.objs.size (.tup [.int i,x]),?_,rfl,⟨_,x,hn,λys hy=>by rw [I.list_inj hy hq];exact hx,rfl,rfl⟩,⟨⟨x',by simpa using he2⟩,hs'.1.at λo y=>(hs2.2 it (Ne.symm hei)).trans y⟩,λb hb=> ?_⟩
  ·refine I.turnLaid (h':=h2) (t':=tk+1) (ch:= [e,it]) (λb u hb q=> ?_) hf (G6 _) ⟨by show 2<=sizeLine;decide,[.int i tk,x'],.cons ⟨tk,rfl⟩ (.cons ru .nil),⟨_,hT2,rfl,rfl,_,rfl⟩⟩;have b1:b≠e:=λz=>hb (by simp [z])
   have b2:b≠it:=λz=>hb (by simp [z])
   exact(hs2.2 b b1).trans (hk b u b1 b2 q)
  ·have f:=(hf b hb).1;have:b≠s.heap.objs.size:=λz=>by
    rcases P4.mp hb with w|w
    ·rw [<-w,z] at helt;exact absurd helt (T6 _)
    ·have w:=G7.mp w;obtain⟨o,ho',_⟩:=st.2;have:=P3 ho';rw [<-w,z] at this;exact absurd this (T6 _)
   rw [jq this];exact f
 done:=by
  intro X hP hw hK hc i pins s σ H E I hf st hg;subst hP hw hK;obtain⟨xs,hq,hx⟩:=hg;obtain⟨its,rv,p,hz⟩:=I.list hq;obtain⟨old,he⟩:=st.1;have hl:=rv.length;refine wpAny_pyNext_enum_endD (Ch (prog:=X.prog) (w:=X.w) (A:=X.A.in1) (I.ok.hd hc) it a its.toArray i (by simp;omega)) he ⟨rfl,st.2,p.isList⟩ λh' hx'=>⟨rfl,I.turnL (t':=s.toks) (ch:= [it]) (λb o hb q=>hx' b o (λz=>hb (by simp [z])) q) λb hb=>hf b (D0 _ hb)⟩
 self:=λ_ _ _ _ _ st h=>let ⟨_,q⟩:=st.1;X3 q h
section
variable {X:Cx}
def qD (K:PySem.W.Frag)(ta:TA):TI:=λσ H R=>ta σ H λvs H1=> ∃a,vs= [.ref a]/\(∃xs,SqL K H1 a xs)/\R (jbN K a) H1
theorem Sa {es:List Expr}{k:Nat}{tp:Pos}{a:Expr}{ta:TA}{p pos:Pos}(hg:Gl X "enumerate")(hm:X.mg "enumerate" =none)(ha:PA X [a] ta)(hs:starEach [a] X.env= [(false,eval a X.env)]:=by rfl):
 PI X (.Tuple es k tp) (.Call (.Name "enumerate" p) [a] [] pos) (qD X.K ta):=by
 intro pins s σ H R I h;refine Call_ (vW I hg hm (show bootBuiltins "enumerate" =some (.type "enumerate") by decide +kernel) (T4 (thn (ha pos pins s σ H _ I h) λus s1 ⟨vs,H1,I1,r1,q1⟩=> ?_) hs rfl));obtain⟨a,e,⟨xs,hq⟩,q⟩:=q1;subst e;cases r1 with
 |cons r rr=>
  cases rr;cases r;obtain⟨its,rv,p,hz⟩:=I1.list hq;have hlt:a<s1.heap.objs.size:=by obtain⟨o,ho,_⟩:=p.isList;exact P3 ho
  refine call_enumerate_list p.isList λh' he hit _ hk=> ?_
  refine X3 he ?_;refine⟨s1.heap.objs.size+1,[s1.heap.objs.size+1,s1.heap.objs.size],_,_,H1,rfl,I1.kept (t':=s1.toks) hk,Ci a s1.heap.objs.size (s1.heap.objs.size+1) (F7 (F8 _)) (R1 (Q7 hlt)) (R1 hlt),⟨⟨_,he⟩,hit⟩,λb hb=> ?_,q⟩;have hb':s1.heap.objs.size<=b:=by
   rcases P4.mp hb with w|w
   ·rw [w];exact G1r _
   ·rw [G7.mp w];exact G6 _
  exact I1.fpOk hb' (I1.hok.fresh hb')
end
def iEL (ta:TAD):TID:=λσ h R=>ta σ h λxs h1=> ∃a,xs= [.lst a]/\R (λh=>(h a).map Vv) h1
section
variable {K:PySem.W.Frag}
theorem Cj (H:Hp)(a:Addr):Ew K H (λh=>(h a).map Vv) (jbN K a):=λH' h' k rh ds' e i=>by
 have e:(h' a).map Vv=some ds':=e;cases hd:h' a with
 |none=>rw [hd] at e;cases e
 |some ds=>
  rw [hd] at e;cases e;obtain⟨vs,hv',r'⟩:=rh a ds hd;refine⟨λd hd=> ?_,λhl=>⟨vs,SqL.of hv',by rw [<-r'.length,<-wQ];exact hl⟩⟩;obtain⟨x,hx,ed⟩:=Vw hd;subst ed;obtain⟨v,e1,e2⟩:=r'.get hx;refine⟨⟨vs,v,SqL.of hv',e1⟩,λx' H'' ⟨p,v',hp,hx',ex,eH⟩=> ?_⟩;subst ex eH;have ev:v'=v:=by have:=hx' vs (SqL.of hv');rw [e1] at this;exact(S7 this).symm
  subst ev;have k2:Kept H' (upd H' p (.tup [.int i,v'])):= .new hp;exact⟨k2,RelH.new rh hp,p,[.int i,v'],rfl,jt,_,_,rfl,rfl,_,_,rfl,e2.mono k2,rfl⟩
theorem Sb {ta:TAD}: ∀σ H R,LI K (iEL ta) σ H R->qD K (LA K ta) σ H R:=λσ H R ⟨σd,h,Rd,rs,rh,q,p⟩=>
 LA.bind rs rh q λds vs h1 H1 k1 rs1 rh1 r1 ⟨a,e,q1⟩=>by
  subst e;obtain⟨v,e,r2⟩:=jC r1;obtain⟨e',ws,hv⟩:=(show v= .ref a/\ ∃vs,H1 a=some (.lst vs) from r2);subst e';exact⟨a,e,⟨ws,SqL.of hv⟩,p _ _ _ _ k1 rh1 (Cj H1 a) q1⟩
end
section
variable {X:Cx}
theorem Sc {es:List Expr}{k:Nat}{tp:Pos}{a:Expr}{ta:TAD}{p pos:Pos}(hg:Gl X "enumerate")(hm:X.mg "enumerate" =none)(ha:JA X [a] ta)(hs:starEach [a] X.env= [(false,eval a X.env)]:=by rfl):
 JI X (.Tuple es k tp) (.Call (.Name "enumerate" p) [a] [] pos) (iEL ta):=⟨(Sa hg hm ha.to hs).imp Sb⟩
end
def zH (d:D)(a b:Int):Bool:=match d with
 | .int x=>decide (a<=x)&&decide (x<=b)
 |_=>false
def vw (d:D)(m:Int):Bool:=match d with
 | .tup es=>es.all λx=>zH x 0 (m-1)
 |_=>false
def jcz (d:D)(m lo hi:Int):Bool:=match d with
 | .tup es=>(es.all λx=>zH x 0 (m-1))&&(decide (lo<=(es.length:Int))&&decide ((es.length:Int)<=hi))
 |_=>false
def Ob:D->Nat
 | .int x=>x.toNat
 |_=>0
def vJ:D->List Nat
 | .tup es=>es.map Ob
 |_=> []
theorem Sd {d:D}{m:Nat}{lo hi:Int}(h:jcz d m lo hi=true):d=jW (vJ d)/\(∀i∈vJ d,i<m)/\lo<=((vJ d).length:Int)/\((vJ d).length:Int)<=hi:=by
 cases d with
 |tup es=>
  simp only [jcz,N0,R5,N3] at h;obtain⟨h1,h2,h3⟩:=h;have key: ∀x∈es,x= .int ((Ob x:Nat):Int)/\Ob x<m:=λx hx=>by
   have:=h1 x hx;cases x with
   |int y=>
    simp only [zH,N0,N3] at this;refine⟨by show D.int y=D.int ((y.toNat:Nat):Int);rw [Int.toNat_of_nonneg this.1],by show y.toNat<m;omega⟩
   |_=>exact Bool.noConfusion this
  refine⟨?_,λi hi=> ?_,by simpa [vJ] using h2,by simpa [vJ] using h3⟩
  ·show D.tup es=D.tup ((es.map Ob).map λ(k:Nat)=>D.int (k:Int));rw [S3]
   congr 1
   conv=>lhs;rw [<-G0b es]
   exact M5 λx hx=>(key x hx).1
  ·obtain⟨x,hx,e⟩:=R3.mp hi;rw [<-e];exact(key x hx).2
 |_=>exact Bool.noConfusion h
theorem qE (x m:Int):decide (x<m)=decide (x<=m-1):=by
 by_cases h:x<m
 ·rw [P0 h,P0 (by omega)]
 ·rw [R4 h,R4 (by omega)]
end L2
set_option maxRecDepth 35000
namespace L2
open PySem PySem.Spec PyProof.Rows PySem.SeqAt
def Sm (k b:Nat)(d:D):Prop:= ∃p:PyData,(∀h,ToP h d p)/\ShowB p k b/\p.canLay0=true
theorem Sm.mono {k b k' b':Nat}{d:D}(h:Sm k b d)(hk:k<=k')(hb:b<=b'):Sm k' b' d:=let ⟨p,t,s,c⟩:=h;⟨p,t,s.mono hk hb,c⟩
theorem qF {i:Int}(h:i.natAbs<2^100):Sm 0 200 (.int i):=by
 refine⟨.int i,λ_=>rfl,⟨?_,by simp [PyData.depth],?_⟩,rfl⟩
 ·have:i.natAbs.log2<1920:=by
   by_cases z:i.natAbs=0
   ·rw [z];decide
   ·exact(G1s z).mpr (D3 h (F4 (by decide) (by decide)))
  simpa [PyData.showable] using this
 ·show (Str.ofString (toString i)).length<=200;rw [PySem.ofString_length];refine int_text_length_le (by decide) ?_
  by_cases z:i.natAbs=0
  ·rw [z];decide
  ·exact(G1s z).mpr (D3 h (F4 (by decide) (by decide)))
theorem sms {k b:Nat}: ∀ {ds:List D},(∀d∈ds,Sm k b d)-> ∃ps:List PyData,ps.length=ds.length/\(∀h,ToPs h ds ps)/\(∀p∈ps,ShowB p k b)/\PyData.canLayAll0 ps=true
 | [],_=>⟨[],rfl,λ_=>rfl,by simp,rfl⟩
 |d::ds,h=>by
  obtain⟨p,t,s,c⟩:=h d D4;obtain⟨ps,l,ts,ss,cs⟩:=sms λx hx=>h x (D0 _ hx)
  refine⟨p::ps,by simp [l],λh=>⟨d,ds,rfl,t h,ts h⟩,λq hq=> ?_,by simp [PyData.canLayAll0,c,cs]⟩;rcases P4.mp hq with e|e
  ·rw [e];exact s
  ·exact ss q e
theorem Sm.tup {k b m:Nat}{ds:List D}(h: ∀d∈ds,Sm k b d)(hm:ds.length<=m):Sm (k+1) ((b+2)*m+3) (.tup ds):=by
 obtain⟨ps,l,ts,ss,cs⟩:=sms h;refine⟨.tuple ps,λh=>⟨ds,rfl,ts h⟩,(ShowB.tup ss).mono (G6 _) ?_,by simpa only [PyData.canLay0] using cs⟩;have:=Nat.mul_le_mul_left (b+2) (show ps.length<=m by omega);omega
def Th (h:HD)(d:D):Prop:=Sm 2 5000000 d\/(∃a ds,d= .lst a/\h a=some ds/\ds.length<=155/\ ∀x∈ds,Sm 1 35000 x)\/d= .dic (Str.ofString "a") 1
def bnd:Nat->Nat
 |0=>200
 |k+1=>(bnd k+2)*155+3
theorem TK: ∀k,200<=bnd k
 |0=>G6 _
 |k+1=>by have:=TK k;show 200<=(bnd k+2)*155+3;omega
def SmK (k:Nat)(d:D):Prop:=Sm k (bnd k) d
theorem SmK.of0 {d:D}(h:Sm 0 200 d)(k:Nat):SmK k d:=Sm.mono h (by omega) (TK k)
theorem SmK.tup {k:Nat}{ds:List D}(h: ∀d∈ds,SmK k d)(hm:ds.length<=155):SmK (k+1) (.tup ds):=Sm.tup h hm
variable {h:HD}
theorem SmK.th {d:D}(s:SmK 2 d):Th h d:= .inl (Sm.mono s (G6 _) (by decide))
structure SmN (n:Nat)(ds:List D):Prop where
 len:ds.length<=n
 sm: ∀d∈ds,SmK 1 d
variable {n:Nat}
theorem SmN.th {a:List D}(x:SmN n a)(hn:n<=155:=by decide):Th h (.tup a):=(SmK.tup x.sm (S1 x.len hn)).th
theorem SmN.ord {W:List Nat}{m:Nat}(hW: ∀i∈W,i<n)(hn:n<=100)(hl:W.length<=m):SmN m (W.map λ(k:Nat)=>D.int (k:Int)):=⟨by rw [G2];exact hl,λd hd=>by
 obtain⟨i,hi,rfl⟩:=R3.mp hd;have:=hW i hi;exact SmK.of0 (qF (D3 (show ((i:Nat):Int).natAbs<100 by rw [Int.natAbs_natCast];omega) (by decide))) 1⟩
theorem Ck {d:D}{m:Nat}(h:vw d m=true):d=jW (vJ d)/\ ∀i∈vJ d,i<m:=by
 cases d with
 |tup es=>
  have:=Sd (d:= .tup es) (m:=m) (lo:=0) (hi:=(es.length:Int)) (by
   show ((es.all λx=>zH x 0 ((m:Int)-1))&&(decide ((0:Int)<=(es.length:Int))&&decide ((es.length:Int)<=(es.length:Int))))=true;rw [show (es.all λx=>zH x 0 ((m:Int)-1))=true from h,P0 (by omega),P0 (by omega)];rfl)
  exact⟨this.1,this.2.1⟩
 |_=>exact Bool.noConfusion h
def Do (T:List (List Int))(W:List Nat):Bool:= !W.isEmpty&&(W.zip (W.drop 1)).all λp=>decide (ent T p.1 p.2>0)
def Dp (T:List (List Int))(n:Nat)(d:D):Bool:=vw d n&&Do T (vJ d)
section
variable {α:Type}{i i':Nat}{js:List Nat}{ti:TID}{te:TED}{σ:SD}{h:HD}{Q:KD}{j:ItD}
theorem jcA (xs:List α)(c c' g:α->D)(p:α->Bool){tt:TTD}(hz:xs.length<=1000)(hj:j h=some (xs.map λx=> .tup [c x,c' x]))(ht: ∀R:ItD->HD->Prop,R j h->ti σ h R)
 (hp: ∀x∈xs,∀Q':Bool->HD->Prop,Q' (p x) h->tt (((za js σ).set i (some (c x))).set i' (some (c' x))) h Q')(he: ∀x∈xs,p x=true-> ∀Q':KD,Q' (g x) h->te (((za js σ).set i (some (c x))).set i' (some (c' x))) h Q')(hq: ∀a,h a=none->Q (.lst a) (yL h a ((xs.filter p).map g))):Yg (b2 i i') js ti tt te σ h Q:=by
 refine ht _ ⟨xs.length,λk ys h'=>h'=h/\ys=((xs.take k).filter p).map g,⟨rfl,by simp⟩,?_⟩;rintro k ys h' ⟨rfl,rfl⟩;refine⟨?_,_,hj,by simp,λhl a ha=> ?_,λd hd=> ?_⟩
 ·have:=Q4 p (xs.take k);simp only [G2,R0] at this ⊢;exact D7 (jL (by omega))
 ·rw [R8 (by simpa using hl)];exact hq a ha
 ·rw [P1] at hd;cases hx:xs[k]? with
  |none=>rw [hx] at hd;cases hd
  |some x=>
   rw [hx] at hd;cases hd;refine⟨_,⟨_,_,rfl,rfl⟩,?_⟩;refine hp x (G5 hx) _ ?_;cases hb:p x with
   |true=>
    rw [if_pos rfl];refine he x (G5 hx) hb _ ⟨_,Sub.refl _,rfl,?_⟩;rw [M1,hx];simp [hb]
   |false=>
    rw [if_neg (by decide)];refine⟨_,Sub.refl _,rfl,?_⟩;rw [M1,hx];simp [hb]
end
def Itv (K:PySem.W.Frag)(a:Addr)(n:Nat):It:=
 ⟨λi H=>i<n/\ ∃xs x,SqL K H a xs/\xs[n-1-i]? =some x,λi H x H'=>H'=H/\ ∀xs,SqL K H a xs->xs[n-1-i]? =some x,λi _=>n<=i⟩
theorem Se {P:Program}{w:World}{K:PySem.W.Frag}{tg:Expr}(a it:Addr)(n:Nat):Turn P w K tg (Itv K a n) [it] it (λi h=>i<=n/\h.IsRevIter it a ((n:Int)-1-(i:Int))) where
 mem:=by simp
 obj:=λi h st b hb=>by
  have e:b=it:=by simpa using hb
  subst e;obtain⟨_,o,e,c,d⟩:=st;exact⟨o,e,λv z=>by rw [d] at z;cases z⟩
 keep:=λi h h' st k=>⟨st.1,st.2.at λo e=>k it (by simp) o e⟩
 item:=by
  intro X hP hw hK hc i pins s σ H E I hf st hg;subst hP hw hK;obtain⟨hi,xs,x,hq,hx⟩:=hg;obtain⟨its,rv,p,hz⟩:=I.list hq;obtain⟨u,hu,ru⟩:=rv.get hx;obtain⟨f0,f1,f2,f3,f4,f5⟩:=hf it (by simp);have st2:s.heap.IsRevIter it a (((n-1-i:Nat):Nat):Int):=by
   have:=st.2;rw [show ((n:Int)-1-(i:Int))=(((n-1-i:Nat):Nat):Int) by omega] at this;exact this
  refine wpAny_pyNext_rev_item st2 p.isList (x:=u) (by simpa using hu) λh' st' sb=> ?_
  have I1:Inv X pins σ H {s with heap:=h'}:=I.turned (t':=s.toks) (λb o hb e=>(sb.2 b hb).trans e) f0 f1 f3 f4 f5;obtain⟨o,e,c,d⟩:=id st';refine⟨u,rfl,Ej (s:= {s with heap:=h'}) e c d (by decide) ⟨x,H,I1,ru,⟨rfl,λys hy=>by rw [I.list_inj hy hq];exact hx⟩,⟨by omega,?_⟩,λb hb=>(hf b hb).1⟩⟩;rw [show ((n:Int)-1-((i+1:Nat):Int))=(((n-1-i:Nat):Nat):Int)-1 by omega];exact st'
 done:=by
  intro X hP hw hK hc i pins s σ H E I hf st hg;subst hP hw hK;have hg:n<=i:=hg;obtain⟨f0,f1,f2,f3,f4,f5⟩:=hf it (by simp);have st2:s.heap.IsRevIter it a (-1):=by
   have:=st.2;rw [show ((n:Int)-1-(i:Int))= -1 by have:=st.1;omega] at this;exact this
  exact wpAny_pyNext_rev_end (I.ok.hd hc) st2 λh' eb=>⟨rfl,I.turned (t':=s.toks) (λb o hb e=>eb b o hb e) f0 f1 f3 f4 f5⟩
 self:=λ_ _ _ _ _ st h=>wpAny_pyIter_revIter st.2 h
section
variable {X:Cx}
def jcB (K:PySem.W.Frag)(ta:TA):TI:=λσ H R=>ta σ H λvs H1=> ∃a xs,vs= [.ref a]/\SqL K H1 a xs/\R (Itv K a xs.length) H1
theorem qG {tg:Expr}{a:Expr}{ta:TA}{p pos:Pos}(hg:Gl X "reversed")(hm:X.mg "reversed" =none)(ha:PA X [a] ta)(hs:starEach [a] X.env= [(false,eval a X.env)]:=by rfl):
 PI X tg (.Call (.Name "reversed" p) [a] [] pos) (jcB X.K ta):=by
 intro pins s σ H R I h;refine Call_ (vW I hg hm (show bootBuiltins "reversed" =some (.type "reversed") by decide +kernel) (T4 (thn (ha pos pins s σ H _ I h) λus s1 ⟨vs,H1,I1,r1,q1⟩=> ?_) hs rfl));obtain⟨a,xs,e,hq,q⟩:=q1;subst e;cases r1 with
 |cons r rr=>
  cases rr;cases r;obtain⟨its,rv,p,hz⟩:=I1.list hq;have hl:=rv.length;refine call_reversed_list p.isList ?_;have hr:(s1.heap.push (revObj a ((its.toArray.size:Int)-1))).IsRevIter s1.heap.objs.size a ((xs.length:Int)-1-((0:Nat):Int)):=by
   rw [show ((xs.length:Int)-1-((0:Nat):Int))=((its.toArray.size:Int)-1) by simp;omega];exact⟨_,P9 _ rfl,rfl,rfl⟩
  refine wpAny_pyIter_revIter hr ?_;refine⟨s1.heap.objs.size,[s1.heap.objs.size],_,_,H1,rfl,I1.kept (t':=s1.toks) λb o e=>G1 _ e,Se a _ xs.length,⟨T5 _,hr⟩,λb hb=> ?_,q⟩;have e:b=s1.heap.objs.size:=by simpa using hb
  subst e;exact I1.fpOk (G6 _) (I1.hok.fresh (G6 _))
end
def jcC (a:Addr)(n:Nat):ItD:=λh=>(h a).bind λds=>if ds.length=n then some ds.reverse else none
def iV (ta:TAD):TID:=λσ h R=>ta σ h λxs h1=> ∃a ds,xs= [.lst a]/\h1 a=some ds/\R (jcC a ds.length) h1
section
variable {K:PySem.W.Frag}
theorem Sf (H:Hp)(a:Addr)(n:Nat):Ew K H (jcC a n) (Itv K a n):=λH' h' k rh ds' e i=>by
 have e:(h' a).bind (λds=>if ds.length=n then some ds.reverse else none)=some ds':=e;cases hd:h' a with
 |none=>rw [hd] at e;cases e
 |some ds=>
  rw [hd] at e;have e:(if ds.length=n then some ds.reverse else none)=some ds':=e
  by_cases hn:ds.length=n
  ·rw [if_pos hn] at e;cases e;obtain⟨vs,hv',r'⟩:=rh a ds hd;refine⟨λd hd=> ?_,λhl=>by show n<=i;rw [R6] at hl;omega⟩;have hi:i<ds.length:=by have:=(G3.mp hd).1;rwa [R6] at this
   rw [O5 hi,hn] at hd;obtain⟨v,e1,e2⟩:=r'.get hd;refine⟨⟨by omega,vs,v,SqL.of hv',e1⟩,λx' H'' ⟨eH,hx'⟩=> ?_⟩;subst eH;have ev:x'=v:=by have:=hx' vs (SqL.of hv');rw [e1] at this;exact(S7 this).symm
   subst ev;exact⟨.refl _,rh,e2⟩
  ·rw [if_neg hn] at e;cases e
theorem qH {ta:TAD}: ∀σ H R,LI K (iV ta) σ H R->jcB K (LA K ta) σ H R:=λσ H R ⟨σd,h,Rd,rs,rh,q,p⟩=>
 LA.bind rs rh q λds vs h1 H1 k1 rs1 rh1 r1 ⟨a,es,e,he,q1⟩=>by
  subst e;obtain⟨v,e,r2⟩:=jC r1;have e':v= .ref a:=r2.1;obtain⟨ws,hv,rw'⟩:=rh1 a es he;subst e';rw [rw'.length] at q1;exact⟨a,ws,e,SqL.of hv,p _ _ _ _ k1 rh1 (Sf H1 a _) q1⟩
end
section
variable {X:Cx}
theorem qI {tg:Expr}{a:Expr}{ta:TAD}{p pos:Pos}(hg:Gl X "reversed")(hm:X.mg "reversed" =none)(ha:JA X [a] ta)(hs:starEach [a] X.env= [(false,eval a X.env)]:=by rfl):
 JI X tg (.Call (.Name "reversed" p) [a] [] pos) (iV ta):=⟨(qG hg hm ha.to hs).imp qH⟩
end
def vb (T:List (List Int))(n p:Nat):List Nat:=(List.range n).filter λj=>decide (ent T p j>0)
def cnt (T:List (List Int))(n o:Nat):Nat->Nat->Int
 |0,p=>if p=o then 1 else 0
 |t+1,p=>((vb T n p).map (cnt T n o t)).sum
def Cl (T:List (List Int))(n o t:Nat):List Int:=(List.range n).map (cnt T n o t)
section
variable {T:List (List Int)}{n o:Nat}
theorem Bl {p j:Nat}(h:j∈vb T n p):j<n:=D1.mp (C6.mp h).1
theorem KA (p:Nat):(vb T n p).length<=n:=by
 have:=Q4 (λj=>decide (ent T p j>0)) (List.range n)
 rwa [P8] at this
theorem Bn: ∀ {l:List Int},(∀x∈l,0<=x)->0<=l.sum
 | [],_=>by simp
 |x::l,h=>by
  have:=h x D4;have:=Bn λy hy=>h y (D0 _ hy)
  rw [Q9];omega
theorem Uc: ∀ (t p:Nat),0<=cnt T n o t p
 |0,p=>by show 0<=(if p=o then (1:Int) else 0);split<;>decide
 |t+1,p=>Bn λx hx=>by obtain⟨j,_,rfl⟩:=R3.mp hx;exact Uc t j
theorem Oc: ∀ {l:List Nat} {f:Nat->Int},(∀j,0<=f j)->0<(l.map f).sum-> ∃j∈l,0<f j
 | [],_,_,h=>by simp at h
 |x::l,f,nn,h=>by
  by_cases z:0<f x
  ·exact⟨x,D4,z⟩
  ·have:0<(l.map f).sum:=by
    rw [R9,Q9] at h;have:=nn x;omega
   obtain⟨j,hj,hp⟩:=Oc nn this;exact⟨j,D0 _ hj,hp⟩
def jdn (T:List (List Int))(n o t p:Nat):Nat:=(vb T n p).findIdx λj=>decide (cnt T n o t j>0)
def nxt (T:List (List Int))(n o t p:Nat):Nat:=(vb T n p).getD (jdn T n o t p) 0
end
def Cnts (h:HD)(A:Addr)(T:List (List Int))(n o k:Nat):Prop:= ∃rs:List Addr,h A=some (rs.map D.lst)/\rs.length=k+1/\ ∀t a,rs[t]? =some a->h a=some ((Cl T n o t).map D.int)
theorem Cnts.at {A:Addr}{T:List (List Int)}{o k:Nat}(c:Cnts h A T n o k){t:Nat}(ht:t<=k): ∃ (rs:List Addr) (a:Addr),h A=some (rs.map D.lst)/\atI (rs.map D.lst) (t:Int)=some (.lst a)/\h a=some ((Cl T n o t).map D.int):=by
 obtain⟨rs,hA,hl,hr⟩:=c;have hi:t<rs.length:=by omega
 exact⟨rs,rs[t],hA,ye (by rw [P1,G0 hi];rfl),hr t _ (G0 hi)⟩
theorem QD {T:List (List Int)}{o t p:Nat}(hp:p<n):atI ((Cl T n o t).map D.int) (p:Int)=some (.int (cnt T n o t p)):=
 ye (by unfold Cl;rw [List.map_map,List.getElem?_map,List.getElem?_range hp];rfl)
theorem Od {b:D->SD->SD->Prop}{js:List Nat}{ti:TID}{tt:TTD}{te:TED}{σ:SD}{Q:KD}(x:ti σ h λj h1=>dCB qp (yf (Yg b js (jbJ j) tt te) VP) σ h1 Q):dCB qp (yf (Yg b js ti tt te) VP) σ h Q:=x
theorem Sg {α:Type}{xs:List α}{x:α}(h1:1<=xs.length)(h:xs[xs.length-1]? =some x):atI xs (-1)=some x:=by
 unfold atI ixN;rw [if_neg (by decide),if_pos (by omega)];show xs[(-1+(xs.length:Int)).toNat]? =_;rw [show (-1+(xs.length:Int)).toNat=xs.length-1 by omega];exact h
end L2
namespace L2
open PySem PySem.Spec PyProof.Rows
theorem ObjOk.there {P:Program}{w:World}{H:Hp}{h:Heap}{a:Addr}{o:HO}(x:ObjOk P w H h a o): ∃u,h.get? a=some u:=by
 cases o with
 |lst xs=>obtain⟨_,_,_,_,e⟩:=x;exact⟨_,e⟩
 |tup xs=>obtain⟨_,_,_,p⟩:=x;obtain⟨o,e,_⟩:=p;exact⟨_,e⟩
 |dK kvs=>obtain⟨_,_,_,_,o,_,_,e,_⟩:=x;exact⟨_,e⟩
 |dT kvs=>obtain⟨_,_,_,_,o,_,_,e,_⟩:=x;exact⟨_,e⟩
 |set S n=>obtain⟨o,_,_,_,e,_⟩:=x;exact⟨_,e⟩
 |ins C dx fs=>obtain⟨_,_,_,e,_⟩:=x;exact⟨_,e⟩
 |own y=>obtain⟨_,e⟩:=x;exact⟨_,e⟩
 |xd fs=>obtain⟨_,⟨_,_,_,e,_⟩,_⟩:=x;exact⟨_,e⟩
 |rng lo hi=>obtain⟨_,_,_,e⟩:=x;exact⟨_,e⟩
 |frz ob u=>obtain⟨e,_⟩:=x;exact⟨_,e⟩
 |tbl ps=>exact⟨_,(show h.get? a=some _ from x)⟩
 |met f y=>exact⟨_,(show h.get? a=some _ from x)⟩
 |ext φ=>obtain⟨_,⟨_,e⟩,_⟩:=x;exact⟨_,e⟩
theorem wc {h b b':Heap}: ∀ {l:List Env},h.FunFrames b l->(∀a∈frs l,b'.get? a=none)->h.FunFrames b' l
 | [],_,_=>trivial
 |env::r,⟨hk,⟨L,o,hf,_,ho,hd⟩,hr⟩,n=>by
  refine⟨hk,⟨L,o,hf,n L ?_,ho,hd⟩,wc hr λa ha=>n a ?_⟩
  ·unfold frs;rw [List.filterMap_cons,hf];exact .head _
  ·unfold frs;rw [List.filterMap_cons,hf];exact .tail _ ha
structure Fly (h0:Heap)(H:Hp)(h:Heap)(x C:Addr):Prop where
 ex: ∃ (oe:Obj) (vs:Array Value) (a0:Value) (T:Addr) (oT:Obj) (ts:Array Value),h.get? x=some oe/\oe.cls= .ref C/\oe.data= .fields vs/\vs[0]? =some a0/\vs[1]? =some (.ref T)/\T≠x/\
  h.get? T=some oT/\oT.data= .fields ts/\ts[3]? =some .none/\H T=none/\h0.get? T=none
 nx:H x=none
 n0:h0.get? x=none
def CXR (P:Program)(w:World):CXT:=λouter H s E e s'=> ∃x C H',e= .ref x/\s'.os=s.os/\AllBare s'.gens/\Un (frs outer) [] H H' s.heap s'.heap/\HOk P w H' s'.heap/\Fly s.heap H' s'.heap x C/\E (.ref C) none H'
structure Rz0 (X:Cx):Prop where
 stk:X.stack=X.env::X.outer
 fr:X.env.frame=some X.env.locals
 ex:X.ex= []
structure Rz (X:Cx)(E:XK):Prop extends Rz0 X where
 xe: ∀e s',wpAny (model X.prog X.w) X.A (leaving X.env e) (λ_ s''=>CXR X.prog X.w X.outer X.H₀ X.s₀ E e s'') (λe' s''=>CXR X.prog X.w X.outer X.H₀ X.s₀ E e' s'') s'->X.xe e s'
section
variable {X:Cx}{pins:List (Addr×Obj)}{σ:St}{H:Hp}{s:Shared}{E:XK}{x C:Addr}
theorem Oe (I:Inv X pins σ H s)(Z:Rz0 X){ys:List Addr}(hy: ∀y∈ys,H y=none/\X.s₀.heap.get? y=none){h':Heap}
 (kb: ∀b o,s.heap.get? b=some o->b ∉ ys->b ∉ frs (X.env::X.outer)->h'.get? b=some o)
 (up: ∀b o,s.heap.get? b=some o->b∈frs (X.env::X.outer)-> ∃sl,h'.get? b=some {o with slots:=sl}):
 Un X.fs [] X.H₀ H X.s₀.heap h'/\HOk X.prog X.w H h'/\
  ∀T oT ts,h'.get? T=some oT->oT.data= .fields ts->(∀o,s.heap.get? T=some o->T∈ys\/T∈frs (X.env::X.outer))->H T=none/\X.s₀.heap.get? T=none:=by
 have nex: ∀b,b ∉ X.ex:=λb=>by rw [Z.ex];simp
 have neL: ∀b o,X.s₀.heap.get? b=some o->b≠X.env.locals:=λb o e=>R1 (D3 (P3 e) I.ok.above)
 have mem: ∀b,b∈frs (X.env::X.outer)↔b=X.env.locals\/b∈X.fs:=λb=>by
  show b∈List.filterMap _ _↔_;rw [G1f,Z.fr];exact P4
 have nys: ∀b o,X.s₀.heap.get? b=some o->b ∉ ys:=λb o e z=>by rw [(hy b z).2] at e;cases e
 have trf: ∀b u,H b=some u->b ∉ ys/\b ∉ frs (X.env::X.outer):=λb u e=>by
  refine⟨λz=> ?_,λz=> ?_⟩
  ·rw [(hy b z).1] at e;cases e
  ·have:=I.stkFree b (by rw [Z.stk];exact z);rw [this] at e;cases e
 refine⟨⟨λb o e n hb hx=> ?_,λb o e n hb hx=> ?_,λb o e n hx=>I.base.free b o e n (nex b),λb o e hx=> ?_,I.base.tups,I.base.frzs,I.base.tbls⟩,λa o e=> ?_,λT oT ts hT hd hn=>⟨?_,?_⟩⟩
 ·exact kb b o (I.base.keep b o e n hb (nex b)) (nys b o e) λz=>((mem b).mp z).elim (neL b o e) hb
 ·obtain⟨sl,e1⟩:=I.base.slot b o e n hb (nex b);obtain⟨sl',e2⟩:=up b _ e1 ((mem b).mpr (.inr hb));exact⟨sl',e2⟩
 ·obtain⟨o',e1⟩:=I.base.there b o e (nex b)
  by_cases hb:b∈frs (X.env::X.outer)
  ·obtain⟨sl,e2⟩:=up b o' e1 hb;exact⟨_,e2⟩
  ·exact⟨_,kb b o' e1 (nys b o e) hb⟩
 ·refine(I.hok a o e).stay (λb u hb q=> ?_) (λ_ q=>q) λ_ _ q=>q
  rcases hb with rfl|hb
  ·exact kb b u q (trf b _ e).1 (trf b _ e).2
  ·exact kb b u q (trf b _ hb).1 (trf b _ hb).2
 ·cases q:H T with
  |none=>rfl
  |some u=>
   obtain⟨o,e⟩:=(I.hok T u q).there;exact absurd (hn o e) λz=>z.elim (trf T u q).1 (trf T u q).2
 ·cases q:X.s₀.heap.get? T with
  |none=>rfl
  |some o=>
   exfalso;obtain⟨o',e1⟩:=I.base.there T o q (nex T);rcases hn o' e1 with z|z
   ·exact nys T o q z
   ·rcases (mem T).mp z with z'|z'
    ·exact neL T o q z'
    ·obtain⟨_,o2,e2,nd⟩:=(show s.heap.FunFrames X.base (X.env::X.outer) from Z.stk ▸ I.stack).mem z;obtain⟨sl,e3⟩:=up T o2 e2 z;rw [hT] at e3;cases e3;exact nd ts hd
theorem Of {Q:Unit->Shared->Prop}{M:Model}{EE:Value->Shared->Prop}(I:Inv X pins σ H s)(Z:Rz X E)(fl:Fly X.s₀.heap H s.heap x C)
 (k: ∀h',Un X.fs [] X.H₀ H X.s₀.heap h'->HOk X.prog X.w H h'->Fly X.s₀.heap H h' x C->Q () {s with heap:=h'}):wpAny M X.A (leaving X.env (.ref x)) Q EE s:=by
 obtain⟨oe,vs,a0,T,oT,ts,he,hc,hd,h0,h1,hTx,hT,hTd,h3,hHT,h0T⟩:=fl.ex;have hfr:X.A.frames=some (X.env::X.outer):=by rw [I.ok.frames,Z.stk]
 have stk:s.heap.FunFrames X.base (X.env::X.outer):=Z.stk ▸ I.stack;have ff:s.heap.FunFrames (PySem.W.hideAll s.heap (x::T::frs (X.env::X.outer))) (X.env::X.outer):=wc stk λa ha=>E6 _ (.tail _ (.tail _ ha))
 refine wpAny_leaves_onW (base:=PySem.W.hideAll s.heap (x::T::frs (X.env::X.outer))) (cls:= .ref C) (a0:=a0) hfr Z.fr
  ⟨λb o e=>G0o _ e,E6 _ (.head _),ff,oe,vs,T,oT,ts,he,⟨hc,h0⟩,hd,h1,E6 _ (.tail _ (.head _)),hTx,hT,hTd,h3⟩ λh' hfl' hup=> ?_
 obtain⟨st,_,_,oe',vs',T',oT',ts',he',⟨hc',h0'⟩,hd',h1',hTB,hTx',hT',hTd',h3'⟩:=hfl';obtain⟨r1,r2,r3⟩:=Oe (ys:= [x,T]) (h':=h') I Z.toRz0 (λy hy=>by
  rcases P4.mp hy with rfl|hy
  ·exact⟨fl.nx,fl.n0⟩
  ·rcases P4.mp hy with rfl|hy
   ·exact⟨hHT,h0T⟩
   ·cases hy) (λb o e n1 n2=>st b o (J6 _ e λz=>by
    rcases P4.mp z with rfl|z
    ·exact n1 (.head _)
    ·rcases P4.mp z with rfl|z
     ·exact n1 (.tail _ (.head _))
     ·exact n2 z)) λb o e hb=>by
  obtain⟨_,o2,e2,nd⟩:=stk.mem hb;rw [e] at e2;cases e2;exact hup b o e nd
 obtain⟨q1,q2⟩:=r3 T' oT' ts' hT' hTd' λo e=>by
  by_cases z:T'∈frs (X.env::X.outer)
  ·exact .inr z
  ·refine .inl ?_
   by_cases z1:T'=x
   ·rw [z1];exact .head _
   ·by_cases z2:T'=T
    ·rw [z2];exact .tail _ (.head _)
    ·rw [J6 _ e (by simp only [P4,not_or];exact⟨z1,z2,z⟩)] at hTB;cases hTB
 exact k h' r1 r2 ⟨⟨oe',vs',a0,T',oT',ts',he',hc',hd',h0',h1',hTx',hT',hTd',h3',q1,q2⟩,fl.nx,fl.n0⟩
theorem Cm {Q:Unit->Shared->Prop}{M:Model}{EE:Value->Shared->Prop}{h1:Heap}{args:List Value}(I:Inv X pins σ H s)(Z:Rz X E)(hm:Heap.MadeExcOf s.heap h1 x (.ref C) args)
 (k: ∀h',Un X.fs [] X.H₀ H X.s₀.heap h'->HOk X.prog X.w H h'->Fly X.s₀.heap H h' x C->Q () {s with heap:=h'}):wpAny M X.A (leaving X.env (.ref x)) Q EE {s with heap:=h1}:=by
 have hfr:X.A.frames=some (X.env::X.outer):=by rw [I.ok.frames,Z.stk]
 have stk:s.heap.FunFrames X.base (X.env::X.outer):=Z.stk ▸ I.stack;have ff:s.heap.FunFrames (PySem.W.hideAll s.heap (frs (X.env::X.outer))) (X.env::X.outer):=wc stk λa ha=>E6 _ ha
 refine wpAny_leaves_madeW (base:=PySem.W.hideAll s.heap (frs (X.env::X.outer))) (h:=s.heap) (s:= {s with heap:=h1}) hfr Z.fr (λb o e=>G0o _ e) ff hm λh' t hfl' _ _ hup=> ?_
 obtain⟨st,_,_,oe',vs',T',oT',ts',he',⟨hc',h0'⟩,hd',h1',hTB,hTx',hT',hTd',h3'⟩:=hfl';obtain⟨r1,r2,r3⟩:=Oe (ys:= []) (h':=h') I Z.toRz0 (λy hy=>nomatch hy) (λb o e _ n2=>st b o (J6 _ e n2)) λb o e hb=>by
  obtain⟨_,o2,e2,nd⟩:=stk.mem hb;rw [e] at e2;cases e2;exact hup b o (hm.keeps b o e) nd
 obtain⟨q1,q2⟩:=r3 T' oT' ts' hT' hTd' λo e=>by
  by_cases z:T'∈frs (X.env::X.outer)
  ·exact .inr z
  ·rw [J6 _ e z] at hTB;cases hTB
 obtain⟨p1,p2⟩:=r3 x oe' vs' he' hd' λo e=>by rw [hm.new] at e;cases e
 exact k h' r1 r2 ⟨⟨oe',vs',_,T',oT',ts',he',hc',hd',h0',h1',hTx',hT',hTd',h3',q1,q2⟩,p1,p2⟩
theorem jbO (Z:Rz X E):VC (CXR X.prog X.w) X E:=by
 intro pins σ H s e s' I ⟨x,C,H',he,os,bare,un,hok,fl,q⟩;subst he;obtain⟨hh,g,d,t,os'⟩:=s';obtain rfl:os'=s.os:=os;have I':=I.call (h':=hh) (g':=g) (d':=d) (t':=t) (ch:= []) un hok bare (λb z=>absurd z (by simp));have nex: ∀b,b ∉ X.ex:=λb=>by rw [Z.ex];simp
 have f0: ∀b,s.heap.get? b=none->X.s₀.heap.get? b=none:=λb n=>by
  cases q:X.s₀.heap.get? b with
  |none=>rfl
  |some o=>obtain⟨o',e⟩:=I.base.there b o q (nex b);rw [n] at e;cases e
 have fl':Fly X.s₀.heap H' hh x C:=by
  obtain⟨⟨oe,vs,a0,T,oT,ts,a1,a2,a3,a4,a5,a6,a7,a8,a9,a10,a11⟩,nx,n0⟩:=fl;exact⟨⟨oe,vs,a0,T,oT,ts,a1,a2,a3,a4,a5,a6,a7,a8,a9,a10,f0 _ a11⟩,nx,f0 _ n0⟩
 exact Z.xe _ _ (Of I' Z fl' λh' u hk f=>⟨x,C,H',rfl,I'.os,I'.bare,u,hk,f,q⟩)
end
end L2
namespace L2
open PySem PySem.Spec PyProof.Rows PySem.W
def Vf (cells:List (Str×Addr)):List (Str×NameKind)->List (Str×Addr)->List (Str×Addr)
 | [],cs=>cs
 |(n,k)::r,cs=>Vf cells r (if k== .free then (match cells.lookup n with|some c=>(n,c)::cs|none=>cs) else cs)
theorem vx {env:Env}: ∀ (names:List (Str×NameKind)) (cs:List (Str×Addr)),(∀n,(n,NameKind.free)∈names-> ∃c,env.cells.lookup n=some c)->
 (forIn names cs (λ(x:Str×NameKind) (r:List (Str×Addr))=>do
  let (name,kind):=x
  if kind== .free then
   let c <-cellOf env name
   pure (ForInStep.yield ((name,c)::r))
  else pure (ForInStep.yield r)):Sem (List (Str×Addr)))=pure (Vf env.cells names cs)
 | [],cs,_=>rfl
 |(n,k)::r,cs,h=>by
  rw [V7]
  by_cases hk:(k==NameKind.free)=true
  ·have hk':k= .free:=eq_of_beq hk;subst hk';obtain⟨c,hc⟩:=h n (.head _);unfold Vf;simp only [beq_self_eq_true,if_true,cellOf,hc,pure_bind];exact vx r _ λn hn=>h n (.tail _ hn)
  ·unfold Vf;simp only [hk,G1k,pure_bind];exact vx r _ λn hn=>h n (.tail _ hn)
variable {scope:Scope}
theorem Ud {env:Env}(h: ∀n,(n,NameKind.free)∈scope.names-> ∃c,env.cells.lookup n=some c):closureFor scope env=pure (Vf env.cells scope.names []):=by
 have:=vx (env:=env) scope.names [] h;unfold closureFor
 first
  |exact this
  |simpa using this
theorem vh {cells:List (Str×Addr)}: ∀ (names:List (Str×NameKind)) (cs:List (Str×Addr)),(∀x c,cs.lookup x=some c->cells.lookup x=some c)-> ∀x c,(Vf cells names cs).lookup x=some c->cells.lookup x=some c
 | [],_,h,x,c,e=>h x c e
 |(n,k)::r,cs,h,x,c,e=>by
  unfold Vf at e;refine vh r _ (λy d hy=> ?_) x c e;split at hy
  ·split at hy
   ·rename_i c' hc';rw [N2] at hy
    by_cases q:(y==n)=true
    ·rw [q] at hy;cases hy;rw [eq_of_beq q];exact hc'
    ·simp only [q] at hy;exact h y d hy
   ·exact h y d hy
  ·exact h y d hy
theorem Ue {cells:List (Str×Addr)}: ∀ (names:List (Str×NameKind)) (cs:List (Str×Addr)) (x:Str),((x,NameKind.free)∈names/\(∃c,cells.lookup x=some c)\/ ∃c,cs.lookup x=some c)-> ∃c,(Vf cells names cs).lookup x=some c
 | [],_,x,h=>h.elim (λz=>nomatch z.1) id
 |(n,k)::r,cs,x,h=>by
  unfold Vf;refine Ue r _ x ?_;rcases h with ⟨hm,c,hc⟩|⟨c,hc⟩
  ·rcases P4.mp hm with q|q
   ·cases q;right;simp only [beq_self_eq_true,if_true,hc];exact⟨c,by simp⟩
   ·exact .inl ⟨q,c,hc⟩
  ·right;split
   ·split
    ·rename_i c' hc'
     by_cases q:(x==n)=true
     ·exact⟨c',by rw [N2,q]⟩
     ·exact⟨c,by rw [N2];simp only [q];exact hc⟩
    ·exact⟨c,hc⟩
   ·exact⟨c,hc⟩
structure LamOk (sc:Scope):Prop where
 kind:sc.kind= .function
 co:sc.isCoroutine=false
 gen:sc.isGenerator=false
 nocell: ∀y∈sc.names,y.2≠ .cell/\y.2≠ .local
def UU:Arguments:= {posonlyargs:= [],args:= [],vararg:=none,kwonlyargs:= [],kw_defaults:= [],kwarg:=none,defaults:= []}
theorem Dq {a0 b0:Nat}{c:Value}: ∀l:List Value,TriplesOk l->TriplesOk (l++ [rawInt a0,rawInt b0,c]):=by
 intro l h
 fun_induction TriplesOk l with
 |case1=>simp [TriplesOk,rawInt]
 |case2 a t b u x rest ih=>simp only [B0,TriplesOk];exact ih h
 |case3 l h1 h2=>exact h.elim
theorem Cn {p:Pos}{a0 b0:Nat}{c cv:Value}: ∀l:List Value,TriplesOk l->codeAmong p (l++ [rawInt a0,rawInt b0,c])=some cv->codeAmong p l=some cv\/cv=c:=by
 intro l h e
 fun_induction TriplesOk l with
 |case1=>
  right;simp only [T8,codeAmong,rawInt] at e;split at e
  ·exact(S7 e).symm
  ·cases e
 |case2 a t b u x rest ih=>
  simp only [B0,codeAmong] at e ⊢;split at e
  ·rename_i hc;left;rw [if_pos hc];exact e
  ·rename_i hc;rw [if_neg hc];exact ih h e
 |case3 l h1 h2=>exact h.elim
def CodeF (H:Hp)(cv:Value)(q:Str):Prop:= ∃ (c:Addr) (o:Obj) (vs:Array Value) (t:Tok),cv= .ref c/\H c=some (.frz o (.own 0))/\o.data= .fields vs/\vs[1]? =some (.str q t)
variable {w:World}{H:Hp}{q:Str}
theorem CodeF.rec {P:Program}{h:Heap}{cv:Value}(x:CodeF H cv q)(ok:HOk P w H h):h.CodeRec cv q:=let ⟨c,o,vs,t,e,e2,r⟩:=x;⟨c,o,vs,t,e,(ok c _ e2).1,r⟩
section
variable {X:Cx}{pins:List (Addr×Obj)}{σ:St}{H:Hp}{s:Shared}
theorem Sh {M:Model}{A:Around}{E:Value->Shared->Prop}{Q:Value->Shared->Prop}{body:Expr}{scope:Scope}{pos:Pos}{c P:Addr}{ps:Array Value}{clos:List (Str×Addr)}(I:Inv X pins σ H s)(B:Bm X.mg X.base)
 (hcode:X.env.code= .ref c)(hc:codeHdIn X.K c P=true)(hP:H P=some (.tbl ps))(hps:CodesOk H ps)(hcl:closureFor scope X.env=pure clos)
 (k: ∀ (f:Addr) (q qual:Str) (pm cv ctv:Value) (H':Hp) (h':Heap) (tk:Tok),Inv X pins σ H' {s with heap:=h',toks:=tk}->Kept H H'->(∀a xs,H a=some (.lst xs)->H' a=some (.lst xs))->
  (∀a ps',H a=some (.tbl ps')->a≠P->H' a=some (.tbl ps'))->(∃ps',H' P=some (.tbl ps')/\CodesOk H' ps')->
  h'.get? f=some {cls:= .type "function",data:= .func (kla_fn "<lambda>" qual UU body scope clos pm cv ctv)}->CodeF H' cv q->H' f=none->(∀x d,X.env.cells.lookup x=some d->d≠f)->f≠X.env.locals->f ∉ X.fs->Q (.ref f) {s with heap:=h',toks:=tk}):
 wpAny M A (eval (.Lambda UU body scope pos) X.env) Q E s:=by
 have hPg:s.heap.get? P=some (tabObj ps):=I.hok P _ hP;have C:CodeHd s.heap c P:=codeHd_of_K I.kIn hc;have hgs:s.heap.Ns mainGlobals X.mg:=I.mod.glob.keeps I.bk;obtain⟨bm,ob,b1,b2,b3,b4,b5,b6⟩:=B;have bb:=I.bs _ _ b3;have hgP:mainGlobals≠P:=λq=>by
  obtain⟨o,es,ep,e,hd,_⟩:=hgs;rw [q,hPg] at e;cases e;cases hd
 have hbP:bm≠P:=λq=>by rw [q,hP] at bb;cases bb.2
 have hbG:bm≠mainGlobals:=λq=>by
  obtain⟨o,es,ep,e,hd,_⟩:=hgs;rw [q,e] at bb;cases bb.1;rw [hd] at b6;cases b6
 have BA:s.heap.BuiltinsAt X.mg P:=⟨bm,ob,b1,b2,hbG,hbP,bb.1,b4,b5,b6⟩;have away: ∀f,s.heap.objs.size<=f->(∀x d,X.env.cells.lookup x=some d->d≠f)/\f≠X.env.locals/\f ∉ X.fs:=λf hf=>⟨λx d e z=>by
  obtain⟨v,o,ho,_⟩:=I.cell x d e;exact absurd (D3 (P3 ho) (z ▸ hf)) (T6 _),λz=>absurd (D3 I.lt (z ▸ hf)) (T6 _),I.nofs hf⟩
 refine kla_eval rfl ?_;cases hf:codeAmong pos ps.toList with
 |none=>
  refine kla_makeFunction (mg:=X.mg) hcl I.ok.glob hgs hcode C hPg hps.1 hf hgP BA λc' ctv h' tk hx hge hlt hrec htb=> ?_
  have hP':P<s.heap.objs.size:=P3 hPg;have hcP:c'≠P:=F7 (D3 hP' hge);have hcn:H c'=none:=I.hok.fresh hge;obtain⟨c₂,oc,vs,t,e2,hoc,hd,hv⟩:=hrec;cases e2;have szle:s.heap.objs.size<=h'.objs.size:=D7 (C9 hge hlt);have kp: ∀ (o2:Obj) b o,b≠P->s.heap.get? b=some o->(h'.push o2).get? b=some o:=λo2 b o nb e=>G1 _ (hx b o nb e)
  have hnP: ∀b u,H b=some u->(∀ps',u≠ .tbl ps')->b≠P:=λb u e n z=>by rw [z,hP] at e;cases e;exact n _ rfl
  have look: ∀b,b≠P->b≠c'->upd (upd H c' (.frz oc (.own 0))) P (.tbl (ps++ #[rawInt pos.line,rawInt pos.col,.ref c'])) b=H b:=λb n1 n2=>by rw [jq n1,jq n2]
  have ncs: ∀b u,H b=some u->b≠c':=λb u e z=>by rw [z,hcn] at e;cases e
  have frzs: ∀b o u,H b=some (.frz o u)->upd (upd H c' (.frz oc (.own 0))) P (.tbl (ps++ #[rawInt pos.line,rawInt pos.col,.ref c'])) b=some (.frz o u):=λb o u e=>by
   rw [look b (hnP b _ e (by intro _ z;cases z)) (ncs b _ e)];exact e
  refine k h'.objs.size (X.env.qual++ "<lambda>") (X.env.qual++ "<lambda>") _ (.ref c') ctv (upd (upd H c' (.frz oc (.own 0))) P (.tbl (ps++ #[rawInt pos.line,rawInt pos.col,.ref c']))) _ tk ?_ ?_ ?_ ?_ ?_ (P9 _ rfl) ⟨c',oc,vs,t,rfl,by rw [jq hcP,jt],hd,hv⟩ ?_ (away _ szle).1 (away _ szle).2.1 (away _ szle).2.2
  ·refine I.un (t':=tk) ⟨λb o e n hb hx'=>kp _ b o (λz=>by rw [z,hP] at n;cases n) e,λb o e n hb hx'=>⟨o.slots,kp _ b o (λz=>by rw [z,hP] at n;cases n) e⟩,λb o e n hx'=> ?_,λb o e hx'=> ?_,λb xs e=> ?_,frzs,λb ps' e=> ?_⟩ λa o e=> ?_
   ·rw [look b (λz=>by rw [z,hP] at n;cases n) (R1 (D3 (P3 e) hge))];exact n
   ·by_cases z:b=P
    ·rw [z];exact⟨_,G1 _ htb⟩
    ·exact⟨_,kp _ b o z e⟩
   ·rw [look b (hnP b _ e (by intro _ z;cases z)) (ncs b _ e)];exact e
   ·by_cases z:b=P
    ·subst z;rw [hP] at e;cases e;exact⟨_,jt⟩
    ·exact⟨#[],by rw [look b z (ncs b _ e),e];simp⟩
   ·by_cases z:a=P
    ·subst z;rw [jt] at e;cases e;exact G1 _ htb
    ·rw [jq z] at e
     by_cases z2:a=c'
     ·subst z2;rw [jt] at e;cases e;exact⟨G1 _ hoc,⟨oc,G1 _ hoc⟩⟩
     ·rw [jq z2] at e;refine(I.hok a o e).stay (λb u hb q=> ?_) (λb q=> ?_) λb xs q=> ?_
      ·rcases hb with rfl|hb
       ·exact kp _ b u z q
       ·exact kp _ b u (hnP b _ hb (by intro _ z;cases z)) q
      ·rw [look b (hnP b _ q (by intro _ z;cases z)) (ncs b _ q)];exact q
      ·rw [look b (hnP b _ q (by intro _ z;cases z)) (ncs b _ q)];exact q
  ·refine⟨λa xs e=> ?_,λa xs e=>⟨xs,?_⟩,λa kk e=> ?_,frzs⟩<;>(rw [look a (hnP a _ e (by intro _ z;cases z)) (ncs a _ e)];exact e)
  ·intro a xs e;rw [look a (hnP a _ e (by intro _ z;cases z)) (ncs a _ e)];exact e
  ·intro a ps' e n;rw [look a n (ncs a _ e)];exact e
  ·refine⟨_,jt,?_,λp cv e=> ?_⟩
   ·simp only [T3];exact Dq _ hps.1
   ·simp only [T3] at e;rcases Cn ps.toList hps.1 e with e|e
    ·obtain⟨c1,o,vs',q',t',e1,e2,r⟩:=hps.2 p cv e;exact⟨c1,o,vs',q',t',e1,frzs _ _ _ e2,r⟩
    ·exact⟨c',oc,vs,_,t,e,by rw [jq hcP,jt],hd,hv⟩
  ·have:H h'.objs.size=none:=I.hok.fresh szle;rw [look _ (F7 (D3 hP' szle)) (F7 hlt)];exact this
 |some cv=>
  obtain⟨c1,o,vs,q,t,rfl,e2,hd,hv⟩:=hps.2 pos cv hf;obtain⟨ho,_⟩:=I.hok c1 _ e2;refine kla_makeFunctionHit (mg:=X.mg) hcl I.ok.glob hgs hcode C hPg hps.1 hf BA λctv h' tk hk hsz=> ?_
  exact k h'.objs.size q (X.env.qual++ "<lambda>") _ (.ref c1) ctv H _ tk (I.kept (t':=tk) λb u e=>G1 _ (hk b u e)) (.refl H) (λ_ _ e=>e) (λ_ _ e _=>e) ⟨ps,hP,hps⟩ (P9 _ rfl) ⟨c1,o,vs,t,rfl,e2,hd,hv⟩
   (I.hok.fresh hsz) (away _ hsz).1 (away _ hsz).2.1 (away _ hsz).2.2
end
structure Cap (N:List Str)(σ:St)(sc:Scope)(cl:List (Str×Addr))(h:Heap)(H:Hp):Prop where
 len:σ.length=N.length
 inj: ∀x y c,cl.lookup x=some c->cl.lookup y=some c->x=y
 has: ∀x,sc.names.lookup x=some .free-> ∃c,cl.lookup x=some c
 cell: ∀x c,cl.lookup x=some c->(∃v,h.IsCell c v)/\H c=none
 loc: ∀ (i:Nat) (x:Str) (v:V),N[i]? =some x->σ[i]? =some (some v)->sc.names.lookup x=some .free-> ∃u c,RelV v u/\cl.lookup x=some c/\h.IsCell c (some u)
theorem yG {α β:Type}[BEq α][LawfulBEq α]: ∀ {l:List (α×β)} {x:α} {y:β},l.lookup x=some y->(x,y)∈l
 | [],_,_,h=>by cases h
 |(a,b)::r,x,y,h=>by
  rw [N2] at h
  by_cases q:(x==a)=true
  ·rw [q] at h;cases h;rw [eq_of_beq q];exact .head _
  ·simp only [q] at h;exact .tail _ (yG h)
def Og (sc:Scope)(env:Env):Prop:= ∀n,(n,NameKind.free)∈sc.names->env.kindOf n=some .cell\/env.kindOf n=some .free
variable {σ:St}{s:Shared}
theorem Cap.of {X:Cx}{pins:List (Addr×Obj)}{sc:Scope}(I:Inv X pins σ H s)(hf:Og sc X.env):Cap X.N σ sc (Vf X.env.cells sc.names []) s.heap H where
 len:=I.len
 inj:=λx y c h1 h2=>I.ok.inj x y c (vh _ _ (λ_ _ z=>by cases z) _ _ h1) (vh _ _ (λ_ _ z=>by cases z) _ _ h2)
 has:=λx h=>Ue _ _ _ (.inl ⟨yG h,I.ok.has x (hf x (yG h))⟩)
 cell:=λx c h=>⟨I.cell x c (vh _ _ (λ_ _ z=>by cases z) _ _ h),I.freeC x c (vh _ _ (λ_ _ z=>by cases z) _ _ h)⟩
 loc:=λi x v h1 h2 h3=>by
  obtain⟨m,hn,hl⟩:=I.loc;have hk:=hf x (yG h3);obtain⟨u,r,l⟩:=hl i x v h1 h2 (.inr hk);obtain⟨c,hc⟩:=Ue (cells:=X.env.cells) sc.names [] x (.inl ⟨yG h3,I.ok.has x hk⟩);refine⟨u,c,r,hc,?_⟩;have hc':=vh _ _ (λ_ _ z=>by cases z) _ _ hc;rcases l with ⟨k,_⟩|⟨_,c2,e,z⟩
  ·rcases hk with k2|k2<;>(rw [k] at k2;cases k2)
  ·rw [hc'] at e;cases e;exact z
variable {cl:List (Str×Addr)}
theorem Cap.step {N:List Str}{sc:Scope}{h h':Heap}{H':Hp}{fs:List Addr}(C:Cap N σ sc cl h H)(u:Un fs [] H H' h h'):Cap N σ sc cl h' H':=by
 have k: ∀x c v,cl.lookup x=some c->h.IsCell c v->h'.IsCell c v:=λx c v e ⟨o,ho,hd⟩=>by
  obtain⟨sl,q⟩:=u.any ho (C.cell x c e).2 (by simp);exact⟨_,q,hd⟩
 exact⟨C.len,C.inj,C.has,λx c e=>by
  obtain⟨⟨v,z⟩,n⟩:=C.cell x c e;obtain⟨o,ho,_⟩:=id z;exact⟨⟨v,k x c v e z⟩,u.free c o ho n (by simp)⟩,λi x v h1 h2 h3=>let ⟨uu,c,r,e,z⟩:=C.loc i x v h1 h2 h3;⟨uu,c,r,e,k x c _ e z⟩⟩
def cxL (CX:CXT)(P:Program)(w:World)(K:PySem.W.Frag)(mg:Str->Option Value)(base:Heap)(N:List Str)(q:Str)(scope:Scope)(f:Addr)(cd:Value)(cl:List (Str×Addr))(A:Around)(outer:List Env)(s:Shared)(H:Hp)(E:XK):Cx where
 prog:=P
 w:=w
 K:=K
 mg:=mg
 base:=base
 A:=A.deeper (envX q scope s.heap.objs.size f cd cl)
 N:=N
 s₀:=s
 H₀:=H
 env:=envX q scope s.heap.objs.size f cd cl
 outer:=outer
 stack:=envX q scope s.heap.objs.size f cd cl::outer
 ex:= []
 calm:=true
 fn:=λ_=>false
 pn:= []
 xe:=λe s'=>wpAny (model P w) (A.deeper (envX q scope s.heap.objs.size f cd cl)) (leaving (envX q scope s.heap.objs.size f cd cl) e) (λ_ s''=>CX outer H s E e s'') (λe' s''=>CX outer H s E e' s'') s'
variable {mg:Str->Option Value}{base:Heap}
theorem KB {CX:CXT}{P:Program}{K:PySem.W.Frag}{N:List Str}{f:Addr}{cd:Value}{A:Around}{outer:List Env}{E:XK}{h₁:Heap}{tk:Tok}
 (L:LamOk scope)(hd:A.handled=none)(e0:Env0 P w K mg base A outer s H)(C:Cap N σ scope cl s.heap H)(hns:h₁.Ns s.heap.objs.size (λ_=>none))(hk: ∀b o,s.heap.get? b=some o->h₁.get? b=some o):
 Inv (cxL CX P w K mg base N q scope f cd cl A outer s H E) [] σ H {s with heap:=h₁,toks:=tk}:=by
 have noA: ∀b:Addr,b ∉ (cxL CX P w K mg base N q scope f cd cl A outer s H E).ex:=λb z=>absurd (show b∈([]:List Addr) from z) (by simp)
 have nofr: ∀y,scope.names.lookup y=some .cell\/scope.names.lookup y=some .free->scope.names.lookup y=some .free:=λy hy=>hy.elim (λz=>absurd rfl (L.nocell _ (yG z)).1) id
 refine⟨⟨e0.mod,L.kind,rfl,rfl,G6 _,λy z c h1 h2=>C.inj y z c h1 h2,λy hy=>C.has y (nofr y hy),λy c z=>(by cases z),λ_=>hd,Y6 e0.frames,.inr ⟨rfl,rfl⟩,λb z=>absurd z (noA b),e0.bs,e0.bsz,λb _ _=>noA b,λb z=>absurd z (noA b),e0.funs,e0.frf⟩,
  rfl,e0.bare,Un.kept hk,⟨_,hns,λi y v h1 h2 h3=> ?_⟩,λy c h=> ?_,e0.hok.fresh (G6 _),λy c h=>(C.cell y c h).2,λp hp=>absurd (show p∈([]:List (Addr×Obj)) from hp) (by simp),e0.hok.kept hk,C.len⟩
 ·have h3':scope.names.lookup y=some .free:=by
   rcases h3 with z|z
   ·exact absurd rfl (L.nocell _ (yG z)).2
   ·exact nofr y z
  obtain⟨u,c,r,e,o,ho,hd'⟩:=C.loc i y v h1 h2 h3';exact⟨u,r,.inr ⟨.inr h3',c,e,o,hk _ _ ho,hd'⟩⟩
 ·obtain⟨⟨v,o,ho,hd'⟩,_⟩:=C.cell y c h;exact⟨v,o,hk _ _ ho,hd'⟩
theorem Oh {prog:Program}{A:Around}{R:Result->Shared->Prop}{f:Addr}{o:Obj}{qual:Str}{body:Expr}{pm cd ctv:Value}(L:LamOk scope)(deep:A.depth<recursionLimit)
 (there:s.heap.get? f=some o)(lam:o.data= .func (kla_fn "<lambda>" qual UU body scope cl pm cd ctv))(named:s.heap.CodeRec cd q)(lim:s.heap.NoLimit)
 (go: ∀h₁,h₁.Ns s.heap.objs.size (λ_=>none)->(∀b o,s.heap.get? b=some o->h₁.get? b=some o)->
  codeAny (model prog w) A (.expr body (envX q scope s.heap.objs.size f cd cl)) R {s with heap:=h₁,toks:=s.toks+0}):
 codeAny (model prog w) A (.call (.ref f) ⟨[],[]⟩) R s:=by
 obtain⟨c,oc,vs,t,rfl,hoc,hdc,hq⟩:=named;obtain⟨h,g,d,tk,os⟩:=s;have frame:=λ{A':Around} {Q:Env->Shared->Prop} {E:Value->Shared->Prop} (k: ∀h₁,_->_->Q _ _)=>wpAny_newFunctionEnv (M:=model prog w) (A:=A') (s:=⟨h,g,d,tk,os⟩) (E:=E) (scope:=scope) (globals:=mainGlobals) (closure:=cl) (binds:= []) (qual:=q++ ".<locals>.") (func:=some f) (code:= .ref c) (around:=none) (builtins:=builtinsNs) (Q:=Q) (λx hx=>(L.nocell x hx).1) (λx hx=>nomatch hx) k L.kind
 refine G0Y ?_;show wpAny _ A.in1 (callAny (.ref f) ⟨[],[]⟩) _ _ _
 wp_walk using wpAny_load there
 rw [lam];have nothing:bindArgs (kla_fn "<lambda>" qual UU body scope cl pm (.ref c) ctv) ⟨[],[]⟩=pure []:=rfl;show wpAny _ _ (callFunction f (kla_fn "<lambda>" qual UU body scope cl pm (.ref c) ctv) ⟨[],[]⟩) _ _ _;unfold callFunction;rw [nothing];show wpAny _ _ (field (.ref c) 1 >>= _) _ _ _;refine wpAny_bind (G1h hoc hdc hq ?_)
 repeat refine wpAny_bind (G9 ?_)
 refine wpAny_bind (frame λh₁ empty same=>wpAny_bind (wpAny_enterFrame (lim.fresh _ same) deep ?_));simp only [kla_fn,L.co,L.gen];exact G9 ⟨rfl,go h₁ empty λb o old=>same.extBut _ _ (λz=>absurd (P3 old) (by rw [z];exact T6 _)) (G1 _ old)⟩
theorem KC {CX:CXT}{P:Program}{K:PySem.W.Frag}{N:List Str}{qual:Str}{f:Addr}{cd pm ctv:Value}{A:Around}{outer:List Env}{E:XK}{o:Obj}{body:Expr}{t:TE}{Q:VK}{k:Nat}
 (L:LamOk scope)(hr:Room (k+1) A)(e0:Env0 P w K mg base A outer s H)(C:Cap N σ scope cl s.heap H)(ho:s.heap.get? f=some o)(hd:o.data= .func (kla_fn "<lambda>" qual UU body scope cl pm cd ctv))(hc:CodeF H cd q)
 (hb:PE (cxL CX P w K mg base N q scope f cd cl A outer s H E) body t)(ht:t σ H Q):codeAny (model P w) A (.call (.ref f) ⟨[],[]⟩) (CR CX outer P w H s Q E) s:=by
 have lim:s.heap.NoLimit:=e0.mod.nolimit.keeps λb o e=>(e0.bs b o e).1
 refine Oh L hr.depth ho hd (hc.rec e0.hok) lim λh₁ hns hk₁=> ?_
 have I:=KB (CX:=CX) (q:=q) (f:=f) (cd:=cd) (E:=E) (tk:=s.toks+0) L hr.hd e0 C hns hk₁;refine kla_codeExpr (D8 (hb [] _ σ H Q I ht) (λv s' hs=> ?_) λ_ _ y=>y);obtain⟨v',H',J,rv,q'⟩:=hs;exact⟨v',H',J.os,J.bare,J.base,J.hok,rv,q'⟩
abbrev TXD:=SD->HD->(Str->HD->Prop)->Prop
def WX (X:Cx)(E:XK)(H:Hp)(R:Str->HD->Prop):Prop:= ∀c C h' H',Kept H H'->RelH X.K h' H'->X.mg c=some (.ref C)->R c h'->E (.ref C) none H'
theorem WX.mono {X:Cx}{E:XK}{H':Hp}{R:Str->HD->Prop}(w:WX X E H R)(k:Kept H H'):WX X E H' R:=λc C h2 H2 k2=>w c C h2 H2 (k.trans k2)
structure JX (X:Cx)(sts:List Stmt)(t:TXD):Prop where
 to: ∀ (E:XK),Rz X E-> ∀ (pins:List (Addr×Obj)) (s:Shared) (σ:St) (H:Hp) (σd:SD) (h:HD) (R:Str->HD->Prop),Inv X pins σ H s->RelS X.K H σd σ->RelH X.K h H->t σd h R->WX X E H R->
  wpAny (model X.prog X.w) X.A (execs sts X.env) (λ_ _=>False) X.xe s
structure JXE (X:Cx)(e:Expr)(t:TXD):Prop where
 to: ∀ (E:XK),Rz X E-> ∀ (pins:List (Addr×Obj)) (s:Shared) (σ:St) (H:Hp) (σd:SD) (h:HD) (R:Str->HD->Prop),Inv X pins σ H s->RelS X.K H σd σ->RelH X.K h H->t σd h R->WX X E H R->
  wpAny (model X.prog X.w) X.A (eval e X.env) (λ_ _=>False) X.xe s
def xIf (t:TTD)(u:TXD):TXD:=λσ h R=>t σ h λk h'=>k=true/\u σ h' R
def xRz (c:Str):TXD:=λ_ h R=>R c h
abbrev RDx:=List D->HD->(Str->HD->Prop)->Prop
def jbP (spr:RDx)(t:TAD):TXD:=λσ h R=>t σ h λds h1=>spr ds h1 R
def Oi (mg:Str->Option Value)(K:PySem.W.Frag)(spr:RDx):Sp:=λvs H _ E=> ∃ds h R,RelDs K H ds vs/\RelH K h H/\spr ds h R/\ ∀c C h' H',Kept H H'->RelH K h' H'->mg c=some (.ref C)->R c h'->E (.ref C) none H'
def bmV:List Value:= [.type "ValueError",.type "Exception",.type "BaseException",.type "object"]
theorem Si {K:Frag}(P:Program)(M:Mod K mg base): ∃loose mb,TopRead P loose mg mb base:=by
 obtain⟨mb,laid,boot⟩:=M.blt;obtain⟨o,es,ep,at_,isd,texts,finds⟩:=id M.glob;refine⟨es.toList.filterMap λe=>match e.key with| .str n _=>some n|_=>none,mb,M.glob,laid,M.nolimit,boot,λx _ out _ _ _=> ?_⟩;rw [<-finds x];cases hit:nsFind es x with
 |none=>rfl
 |some v=>
  refine absurd ?_ out;unfold nsFind findBy at hit;obtain⟨e,hf,_⟩:=W6.mp hit;have isx:e.key.isStr x=true:=Array.find?_some (p:=λ(e:DictEntry)=>e.key.isStr x) hf;have mem:=Array.mem_of_find?_eq_some hf;obtain⟨n,t,ek⟩:=texts e mem;rw [ek] at isx;have nx:n=x:=by simpa [Value.isStr] using isx
  exact K2.mpr ⟨e,by simpa using mem,by rw [ek,nx]⟩
def OwnX (K:PySem.W.Frag)(mg:Str->Option Value)(c:Str):Prop:= ∃C,mg c=some (.ref C)/\nsIn K mainGlobals c=some (some (.ref C))/\excIn K C bmV "ValueError.__new__" =true
theorem OwnX.at {K:Frag}{h:Heap}{c:Str}(P:Program)(O:OwnX K mg c)(M:Mod K mg base)(kept: ∀b o,base.get? b=some o->h.get? b=some o): ∃C,mg c=some (.ref C)/\OwnCls c C bmV "ValueError.__new__" mg h:=
 let ⟨C,hm,hn,hx⟩:=O
 let ⟨_,_,T⟩:=Si P M
 ⟨C,hm,(own_of_in M.kin T hn hx).keeps kept⟩
section
variable {X:Cx}{c:Expr}{e:Expr}{es:List Expr}{st:Stmt}{a b rest:List Stmt}{t:TSD}{tt:TTD}{u:TXD}{ta:TAD}{pos p:Pos}
theorem jbQ (hc:JT X c tt)(ha:JX X a u):JX X (.If c a b pos::rest) (xIf tt u):=⟨λE Z pins s σ H σd h R I rs rh ht w=>by
 refine C0 (D8 (wpAny_If (Q:=λ_ _=>False) (thn (hc.to pins s σ H (λk H'=>k=true/\ ∃h',Kept H H'/\RelS X.K H' σd σ/\RelH X.K h' H'/\u σd h' R) I
  ⟨σd,h,_,rs,rh,ht,λk h' H' kp rh' q=>⟨q.1,h',kp,rs.mono kp,rh',q.2⟩⟩) λd s1 q=> ?_)) (λ_ _ z=>z.elim) λ_ _ z=>z)
 obtain⟨H',I',rfl,h',kp,rs',rh',q⟩:=q;exact ha.to E Z pins s1 σ H' σd h' R I' rs' rh' q (w.mono kp)⟩
theorem KG (he:JXE X e u)(hs:swapsWith e none pos.line X.env=pure false:=by rfl):JX X (.Expr e pos::rest) u:=⟨λE Z pins s σ H σd h R I rs rh ht w=>
 C0 (wpAny_Expr_any (D8 (he.to E Z pins s σ H σd h R I rs rh ht w) (λ_ _ z=>z.elim) λ_ _ z=>z) I.quiet hs)⟩
theorem qJ (he:JXE X e u):JX X (.Return (some e) pos::rest) u:=⟨λE Z pins s σ H σd h R I rs rh ht w=>
 C0 (wpAny_Return_some (D8 (he.to E Z pins s σ H σd h R I rs rh ht w) (λ_ _ z=>z.elim) λ_ _ z=>z))⟩
theorem TL {x:Str}{pos':Pos}(he:JXE X e u)(hs:swapsWith e (some (.Name x pos')) pos.line X.env=pure false:=by rfl):JX X (.Assign [.Name x pos'] e pos::rest) u:=⟨λE Z pins s σ H σd h R I rs rh ht w=>
 C0 (G0z (D8 (he.to E Z pins s σ H σd h R I rs rh ht w) (λ_ _ z=>z.elim) λ_ _ z=>z) hs)⟩
theorem Sj {x:Str}{np cpos p2:Pos}{m:Str}{j:Nat}(hg:Gl X x)(O:OwnX X.K X.mg x)(hcalm:X.calm=true)(hd:(x==("__debug__" :Str))=false:=by decide)
 (he:starEach [Expr.Constant (.str m) j p2] X.env=(false,eval (.Constant (.str m) j p2) X.env)::starEach [] X.env:=by rfl):
 JX X (.Raise (some (.Call (.Name x np) [.Constant (.str m) j p2] [] cpos)) none pos::rest) (xRz x):=⟨λE Z pins s σ H σd h R I rs rh ht w=>by
 obtain⟨C,hm,own⟩:=O.at X.prog I.mod I.bk;refine C0 (D8 (?_:wpAny _ _ _ (λ_ _=>False) _ _) (λ_ _ z=>z.elim) λ_ _ z=>z);obtain⟨_,_,_,_,_,_,_,_,_,_,_,_,_,_,_,_,_,isC,laid,noInit,tail⟩:=own.obj;refine' wpAny_Raise_call_subT PySem.F.excBase_ValueError (tail.hasType PySem.F.excBase_ValueError.hasBase) (I.ok.hd hcalm) (by rw [he];rfl) noInit (Yd I hg hm ⟨rfl,?_⟩ hd)
 rotate_right 1
 rw [he];refine Y7 (V4 (PySem.Calls.Constant_str (k:=j) (pos:=p2) (G0A ⟨rfl,(by show 1<=sizeLine;decide),isC,laid,tail,λh' e hme=> ?_⟩)));refine Z.xe _ _ (Cm (s:= {s with toks:=s.toks+1}) (I.tok _) Z hme λh2 un hok fl=> ?_);exact⟨e,C,H,rfl,I.os,I.bare,un,hok,fl,w x C h H (.refl H) rh hm ht⟩⟩
theorem Yr {k:Nat}{f:Addr}{fd:FuncData}{ps:List Str}{spr:RDx}{x:Str}(F:FnOk X.prog X.w X.K X.mg X.base (CXR X.prog X.w) k f fd ps (Oi X.mg X.K spr))(hr:Room k X.A)(hg:Gl X x)(hm:X.mg x=some (.ref f))(hk:PySem.W.keepIn X.K (.ref f)=true)(hb:Binds X.K fd ps [])
 (ha:JA X (e::es) ta)(hdb:(x==("__debug__" :Str))=false:=by decide)(he:starEach (e::es) X.env=(false,eval e X.env)::starEach es X.env:=by rfl)(hpl:(backTo pos (starEach es X.env)).any (·.1)=false:=by rfl):
 JXE X (.Call (.Name x p) (e::es) [] pos) (jbP spr ta):=⟨λE Z pins s σ H σd h R I rs rh ht w=>by
 refine thn (FF F hr hg hm hk hb .nil (jbO Z) ha.to hdb he hpl pins s σ H (λ_ _=>False) I
  ⟨σd,h,_,rs,rh,ht,λds vs h' H' kp rh' r q=>by show Oi X.mg X.K spr (vs++ []) H' (λ_ _=>False) E;rw [C7];exact⟨ds,h',R,r,rh',q,λc C h2 H2 k2=>w c C h2 H2 (kp.trans k2)⟩⟩) λ_ _ ⟨_,_,_,_,z⟩=>z⟩
end
section
variable {P:Program}{w:World}{K:PySem.W.Frag}{mg:Str->Option Value}{base:Heap}
theorem KH {N:List Str}{qual:Str}{scope:Scope}{f:Addr}{cd:Value}{A:Around}{outer:List Env}{s:Shared}{H:Hp}{E:XK}:Rz (Qc (CXR P w) P w K mg base N qual scope f cd A outer s H E) E:=⟨⟨rfl,rfl,rfl⟩,λ_ _ h=>h⟩
theorem qK {N:List Str}{q:Str}{scope:Scope}{f:Addr}{cd:Value}{cl:List (Str×Addr)}{A:Around}{outer:List Env}{s:Shared}{H:Hp}{E:XK}:Rz (cxL (CXR P w) P w K mg base N q scope f cd cl A outer s H E) E:=⟨⟨rfl,rfl,rfl⟩,λ_ _ h=>h⟩
theorem Fun.okX {x qual:Str}{st:Stmt}{f:Addr}{fd:FuncData}{N ps:List Str}{k:Nat}{spr:RDx}(F:Fun K x qual st f fd)(S:FnScope N ps (jd st))(len: ∀ds h R,spr ds h R->ds.length=ps.length)
 (tb:TXD)(hbody: ∀ (cdv:Value) (A:Around) (outer:List Env) (s:Shared) (H:Hp) (E:XK),Room k (A.deeper (envOfC qual (jd st) s.heap.objs.size f cdv))->JX (Qc (CXR P w) P w K mg base N qual (jd st) f cdv A outer s H E) (zG st) tb)
 (read: ∀ds h R,spr ds h R->tb (zU N ds) h R):FnOk P w K mg base (CXR P w) (k+1) f fd ps (Oi mg K spr):=by
 obtain⟨oc,od,kV,doc,pm,an,cdv,ct,osl,rfl,lk,hcd⟩:=F.ex;refine Ho lk hcd S (λvs H Q E h=> ?_) λA outer s H vs Q E hr hsp=> ?_
 ·obtain⟨ds,h,R,r,rh,q,p⟩:=h;rw [<-r.length];exact len _ _ _ q
 ·obtain⟨ds,h,R,r,rh,q,p⟩:=hsp;refine⟨λ_ σ H'=>σ=start N vs/\H'=H,λpins s' σ H' D I ⟨e1,e2⟩=> ?_,rfl,rfl⟩;subst e1;subst e2;exact D8 ((hbody cdv A outer s H' E hr).to E KH pins s' _ H' (zU N ds) h R I (JP r) rh (read ds h R q) p) (λ_ _ z=>z.elim) λ_ _ z=>z
end
def ZG (P:Program)(w:World)(K:PySem.W.Frag)(mg:Str->Option Value)(base:Heap)(n:Nat)(x:Str)(ps:List Str)(spr:RDx):Prop:=
 ∃ (g:Addr) (gd:FuncData),FnOk P w K mg base (CXR P w) n g gd ps (Oi mg K spr)/\Binds K gd ps []/\PySem.W.keepIn K (.ref g)=true/\mg x=some (.ref g)
end L2
namespace L2
open PySem PySem.Spec PyProof.Rows
structure RoomU (k:Nat)(A:Around):Prop where
 dp:A.depth+3*k+5<recursionLimit
 un:A.units+16*k+200<cLine
 gd:A.guards=some []
variable {k:Nat}{A:Around}
theorem Room.u (r:Room k A):RoomU k A:=⟨r.dp,r.un,r.gd⟩
theorem RoomU.deeper (r:RoomU (k+1) A)(env:Env):RoomU k (A.deeper env):=
 ⟨by have:=r.dp;show A.depth+1+3*k+5<_;omega,by have:=r.un;show A.units+3+16*k+200<_;omega,r.gd⟩
theorem RoomU.depth (r:RoomU k A):A.depth<recursionLimit:=by have:=r.dp;omega
theorem RoomU.units (r:RoomU k A):A.units+64<cLine:=by have:=r.un;omega
structure FnOkU (P:Program)(w:World)(K:PySem.W.Frag)(mg:Str->Option Value)(base:Heap)(CX:CXT)(k:Nat)(f:Addr)(fd:FuncData)(ps:List Str)(sp:Sp):Prop where
 len: ∀vs H Q E,sp vs H Q E->vs.length=ps.length
 run: ∀ (A:Around) (outer:List Env) (s:Shared) (H:Hp) (args:Args) (us:List Value) (vs:List V) (Q:VK) (E:XK),RoomU k A->Env0 P w K mg base A outer s H->BindsTo s fd args (ps.zip us)->Vals vs us->sp vs H Q E->
  codeAny (model P w) A (.call (.ref f) args) (CR CX outer P w H s Q E) s
section
variable {X:Cx}{CX:CXT}{k:Nat}{f C:Addr}{fd:FuncData}{ps:List Str}{sp:Sp}{dvs:List V}{ds:List Value}{E:XK}{x m:Str}{p pos apos:Pos}{e o:Expr}{es:List Expr}{ta:TE}{t:TA}
theorem KI {pins:List (Addr×Obj)}{σ:St}{H:Hp}{s:Shared}{Q:VK}{us:List Value}{vs:List V}(F:FnOkU X.prog X.w X.K X.mg X.base CX k f fd ps sp)(hr:RoomU k X.A)(hb:Binds X.K fd ps ds)(hd:Vals dvs ds)(hx:VC CX X E)
 (I:Inv X pins σ H s)(r:Vals vs us)(h:sp (vs++dvs) H Q E):wpAny (model X.prog X.w) X.A (call (.ref f) us) (EP X pins σ Q) X.xe s:=by
 have r2:Vals (vs++dvs) (us++ds):=r.append hd;have hl:(us++ds).length=ps.length:=by rw [<-r2.length];exact F.len _ _ _ _ h
 refine W7 (X6 (F.run X.A X.stack s H ⟨us,[]⟩ (us++ds) (vs++dvs) Q E hr I.env0 (hb s us I.kIn hl) r2 h) λr s' hq=> ?_);cases r with
 |error e=>exact hx pins σ H s e s' I hq
 |ok fl=>
  cases fl with
  |ret u=>exact I.after hq
  |next=>exact False.elim hq
  |brk=>exact False.elim hq
  |cont=>exact False.elim hq
theorem Sk (F:FnOkU X.prog X.w X.K X.mg X.base CX k f fd ps sp)(hr:RoomU k X.A)(hg:Gl X x)(hm:X.mg x=some (.ref f))(hk:PySem.W.keepIn X.K (.ref f)=true)(hb:Binds X.K fd ps ds)(hd:Vals dvs ds)(hx:VC CX X E)
 (ha:PA X (e::es) t)(hdb:(x==("__debug__" :Str))=false:=by decide)(he:starEach (e::es) X.env=(false,eval e X.env)::starEach es X.env:=by rfl)(hpl:(backTo pos (starEach es X.env)).any (·.1)=false:=by rfl):
 PE X (.Call (.Name x p) (e::es) [] pos) (Hn sp dvs E t):=by
 intro pins s σ H Q I h;refine A9 (Yd I hg hm ?_ hdb);refine G0q (h₀:=X.base) I.ok.mod.kin hk (thn (ha pos pins s σ H _ I h) λus s1 ⟨vs,H1,I1,r,q⟩=>⟨I1.kIn,?_⟩) he hpl;exact KI F hr hb hd hx I1 r q
end
def Dr (CX:CXT)(P:Program)(w:World)(K:PySem.W.Frag)(mg:Str->Option Value)(base:Heap)(N:List Str)(qual:Str)(scope:Scope)(f:Addr)(cd:Value)(A:Around)(outer:List Env)(s:Shared)(H:Hp)(E:XK):Cx where
 prog:=P
 w:=w
 K:=K
 mg:=mg
 base:=base
 A:=A.deeper (envOfC qual scope s.heap.objs.size f cd)
 N:=N
 s₀:=s
 H₀:=H
 env:=envOfC qual scope s.heap.objs.size f cd
 outer:=outer
 stack:=envOfC qual scope s.heap.objs.size f cd::outer
 ex:= []
 calm:=false
 fn:=λ_=>true
 pn:= []
 xe:=λe s'=>wpAny (model P w) (A.deeper (envOfC qual scope s.heap.objs.size f cd)) (leaving (envOfC qual scope s.heap.objs.size f cd) e) (λ_ s''=>CX outer H s E e s'') (λe' s''=>CX outer H s E e' s'') s'
variable {mg:Str->Option Value}{base:Heap}{qual:Str}{scope:Scope}
theorem Co {CX:CXT}{P:Program}{w:World}{K:PySem.W.Frag}{N ps:List Str}{f:Addr}{cd:Value}{outer:List Env}{s s1:Shared}{H:Hp}{E:XK}{us:List Value}{vs:List V}
 (S:FnScope N ps scope)(e0:Env0 P w K mg base A outer s H)(hl:vs.length=ps.length)(r:Vals vs us)
 (x:InCallC s s.heap.objs.size (bindL (envOfC qual scope s.heap.objs.size f cd).kindOf (ps.zip us) λ_=>none) (cellsFrom (s.heap.objs.size+1) scope.names []) (bindC (envOfC qual scope s.heap.objs.size f cd).kindOf (ps.zip us) λ_=>none) s1):
 Inv (Dr CX P w K mg base N qual scope f cd A outer s H E) [] (start N vs) H s1:=by
 have hpl:ps.length<=N.length:=by have:=congrArg List.length S.pre;rw [R0] at this;omega
 obtain⟨h1,tk,rfl,hk⟩:=x.done;have noA: ∀b:Addr,b ∉ (Dr CX P w K mg base N qual scope f cd A outer s H E).ex:=λb z=>absurd (show b∈([]:List Addr) from z) (by simp)
 refine⟨⟨e0.mod,S.kind,rfl,rfl,G6 _,λy z c h1 h2=> ?_,λy hy=> ?_,λy c _ h=> ?_,λz=>(by cases z),Y6 e0.frames,.inr ⟨rfl,rfl⟩,λb z=>absurd z (noA b),e0.bs,e0.bsz,λb _ _=>noA b,λb z=>absurd z (noA b),e0.funs,e0.frf⟩,
  rfl,e0.bare,Un.kept hk,⟨_,x.toInCall.ns,λi y v h1 h2 h3=> ?_⟩,λy c h=>⟨_,x.cell y c h⟩,e0.hok.fresh (G6 _),λy c h=> ?_,λp hp=>absurd (show p∈([]:List (Addr×Obj)) from hp) (by simp),e0.hok.kept hk,?_⟩
 ·exact name_of_addr x.apart (N5 h1) (N5 h2)
 ·have hy:scope.names.lookup y=some .cell\/scope.names.lookup y=some .free:=hy;rcases hy with hy|hy
  ·exact JM hy
  ·exact absurd rfl (S.nofree _ (N5 hy))
 ·exact D7 (x.above y c (N5 h))
 ·have hi:i<vs.length:=by
   unfold start at h2
   by_cases hi:i<vs.length
   ·exact hi
   ·rw [P7 (by simpa using hi)] at h2;rw [V5] at h2;split at h2<;>cases h2
  have ha:vs[i]? =some v:=by
   unfold start at h2;rw [S0 (by simpa using hi),P1] at h2;cases e:vs[i]? with
   |none=>rw [e] at h2;cases h2
   |some a=>rw [e] at h2;cases h2;rfl
  obtain⟨u,hu,rv⟩:=r.get ha;have hp:ps[i]? =some y:=by
   rw [<-S.pre,O6 (by omega)];exact h1
  have ndP:ps.Nodup:=by rw [<-S.pre];exact S.nd.sublist (J0 _ _)
  refine⟨u,rv,?_⟩;rcases S.par y (G5 hp) with k|k
  ·exact .inl ⟨k,VD ndP hp hu k⟩
  ·obtain⟨c,e⟩:=JM (n:=s.heap.objs.size+1) k;refine .inr ⟨.inl k,c,e,?_⟩;have q:=x.cell y c e;rw [VE ndP hp hu (by show scope.names.lookup y≠_;rw [k];decide)] at q;exact q
 ·exact e0.hok.fresh (D7 (x.above y c (N5 h)))
 ·unfold start;show _=N.length;rw [G8,G2,G0X];omega
theorem qL {CX:CXT}{P:Program}{w:World}{K:PySem.W.Frag}{f:Addr}{name:Str}{params:Arguments}{body:List Stmt}{dV kV doc pm cdv ct oc:Value}{an od:Option Addr}{osl:Array (Option Value)}{N ps:List Str}{sp:Sp}(lk:K.lookup f=some ⟨oc,od,.func (PySem.W.fnOf name qual params body scope dV kV doc pm an cdv ct),osl⟩)(hcd:PySem.W.codeIn K cdv qual=true)(S:FnScope N ps scope)
 (len: ∀vs H Q E,sp vs H Q E->vs.length=ps.length)
 (hbody: ∀ (A:Around) (outer:List Env) (s:Shared) (H:Hp) (vs:List V) (Q:VK) (E:XK),RoomU k (A.deeper (envOfC qual scope s.heap.objs.size f cdv))->sp vs H Q E->
  ∃t,PSs (Dr CX P w K mg base N qual scope f cdv A outer s H E) body t/\t {nx:=λ_ H'=>Q .non H',rt:=Q} (start N vs) H):
 FnOkU P w K mg base CX (k+1) f (PySem.W.fnOf name qual params body scope dV kV doc pm an cdv ct) ps sp:=by
 refine⟨len,λA outer s H args us vs Q E hr e0 hb r hsp=> ?_⟩;have hl:=len _ _ _ _ hsp;have KX:K.In s.heap:=e0.mod.kin.keeps λb o e=>(e0.bs b o e).1
 have lim:s.heap.NoLimit:=e0.mod.nolimit.keeps λb o e=>(e0.bs b o e).1
 have hkind: ∀y∈ps.zip us,scope.names.lookup y.1=some .local\/(scope.names.lookup y.1=some .cell/\((cellsFrom (s.heap.objs.size+1) scope.names []).lookup y.1).isSome=true):=λ⟨n,v⟩ hy=>by
  rcases S.par n (I0 hy).1 with q|q
  ·exact .inl q
  ·exact .inr ⟨q,K0 _ _ _ (.inl q)⟩
 refine X7 hr.depth (KX _ _ lk) rfl S.co S.gen rfl (G0r KX hcd) (hb _ _ _ _ ?_);refine U3 S.kind hkind λenv he s1 x=> ?_
 subst he;refine⟨lim.keeps x.toInCall.keep,codeAny_func ?_⟩;obtain⟨t,ht,hq⟩:=hbody A outer s H vs Q E (hr.deeper _) hsp;have I:Inv (Dr CX P w K mg base N qual scope f cdv A outer s H E) [] (start N vs) H s1:=Co S e0 hl r x;refine D8 (ht [] s1 (start N vs) H _ I hq) (λfl s' hs=> ?_) λe s' hs=>hs
 have fin: ∀ {σ':St} {H':Hp} {v:V} {u:Value},Inv (Dr CX P w K mg base N qual scope f cdv A outer s H E) [] σ' H' s'->RelV v u->Q v H'->CE outer P w H s Q u s':=
  λ{σ' H' v u} J rv q=>⟨v,H',J.os,J.bare,J.base,J.hok,rv,q⟩
 cases fl with
 |ret u=>
  obtain⟨v,σ',H',J,rv,q⟩:=hs;exact fin J rv q
 |next=>
  obtain⟨σ',H',J,q⟩:=hs;exact fin (v:=V.non) (u:=Value.none) J rfl q
 |brk=>
  obtain⟨_,_,_,q⟩:=hs;exact False.elim q
 |cont=>
  obtain⟨_,_,_,q⟩:=hs;exact False.elim q
section
variable {P:Program}{w:World}{K:PySem.W.Frag}{mg:Str->Option Value}{base:Heap}
variable {qual:Str}
theorem Fun.okU {x:Str}{st:Stmt}{f:Addr}{fd:FuncData}{N ps:List Str}{k:Nat}{sp:Sp}(F:Fun K x qual st f fd)(S:FnScope N ps (jd st))(len: ∀vs H Q E,sp vs H Q E->vs.length=ps.length)
 (hbody: ∀ (cdv:Value) (A:Around) (outer:List Env) (s:Shared) (H:Hp) (vs:List V) (Q:VK) (E:XK),RoomU k (A.deeper (envOfC qual (jd st) s.heap.objs.size f cdv))->sp vs H Q E->
  ∃t,PSs (Dr CX0 P w K mg base N qual (jd st) f cdv A outer s H E).nox (zG st) t/\t {nx:=λ_ H'=>Q .non H',rt:=Q} (start N vs) H):FnOkU P w K mg base CX0 (k+1) f fd ps sp:=by
 obtain⟨oc,od,kV,doc,pm,an,cdv,ct,osl,rfl,lk,hcd⟩:=F.ex;refine qL lk hcd S len λA outer s H vs Q E hr hsp=> ?_
 obtain⟨t,h,q⟩:=hbody cdv A outer s H vs Q E hr hsp;exact⟨t,h.nox,q⟩
theorem Fun.okDU {x:Str}{st:Stmt}{f:Addr}{fd:FuncData}{N ps:List Str}{k:Nat}{spd:RDn}(F:Fun K x qual st f fd)(S:FnScope N ps (jd st))(len: ∀ds h Q,spd ds h Q->ds.length=ps.length)
 (tb:TSD)(hbody: ∀ (cdv:Value) (A:Around) (outer:List Env) (s:Shared) (H:Hp) (E:XK),RoomU k (A.deeper (envOfC qual (jd st) s.heap.objs.size f cdv))->QSs (Dr CX0 P w K mg base N qual (jd st) f cdv A outer s H E).nox (zG st) tb)
 (read: ∀ds h Q,spd ds h Q->tb (Me Q) (zU N ds) h):FnOkU P w K mg base CX0 (k+1) f fd ps (LSp K spd):=by
 refine F.okU S (λvs H Q E h=> ?_) (λcdv A outer s H vs Q E hr h=> ?_)
 ·obtain⟨ds,h,Qd,r,rh,q,p⟩:=h;rw [<-r.length];exact len _ _ _ q
 ·obtain⟨ds,h,Qd,r,rh,q,p⟩:=h;refine⟨_,hbody cdv A outer s H E hr,zU N ds,h,Me Qd,JP r,rh,read ds h Qd q,λσd' h' σ' H' k rs' rh' ⟨h2,sb,q'⟩=>p .non .non h2 H' k (rh'.sub sb) rfl q',λd v h' H' k rh' r' ⟨h2,sb,q'⟩=>p d v h2 H' k (rh'.sub sb) r' q',λ_ _ _ _ _ _ _ z=>z.elim,λ_ _ _ _ _ _ _ z=>z.elim⟩
theorem Fun.okJU {x:Str}{st:Stmt}{f:Addr}{fd:FuncData}{N ps:List Str}{k:Nat}{spd:RDn}(F:Fun K x qual st f fd)(S:FnScope N ps (jd st))(len: ∀ds h Q,spd ds h Q->ds.length=ps.length)
 (tb:TSD)(hbody: ∀ (cdv:Value) (A:Around) (outer:List Env) (s:Shared) (H:Hp) (E:XK),RoomU k (A.deeper (envOfC qual (jd st) s.heap.objs.size f cdv))->JSs (Dr CX0 P w K mg base N qual (jd st) f cdv A outer s H E).nox (zG st) tb)
 (read: ∀ds h Q,spd ds h Q->tb (Me Q) (zU N ds) h):FnOkU P w K mg base CX0 (k+1) f fd ps (LSp K spd):=F.okDU S len tb (λcdv A outer s H E hr=>(hbody cdv A outer s H E hr).to) read
end
structure FnOkS (P:Program)(w:World)(K:PySem.W.Frag)(mg:Str->Option Value)(base:Heap)(CX:CXT)(k:Nat)(f:Addr)(fd:FuncData)(ps:List Str)(sp:Shared->Sp):Prop where
 len: ∀s vs H Q E,sp s vs H Q E->vs.length=ps.length
 run: ∀ (A:Around) (outer:List Env) (s:Shared) (H:Hp) (args:Args) (us:List Value) (vs:List V) (Q:VK) (E:XK),Room k A->Env0 P w K mg base A outer s H->BindsTo s fd args (ps.zip us)->Vals vs us->sp s vs H Q E->
  codeAny (model P w) A (.call (.ref f) args) (CR CX outer P w H s Q E) s
section
variable {X:Cx}{CX:CXT}{k:Nat}{f C:Addr}{fd:FuncData}{ps:List Str}{sp:Sp}{dvs:List V}{ds:List Value}{E:XK}{x m:Str}{p pos apos:Pos}{e o:Expr}{es:List Expr}{ta:TE}{t:TA}
theorem KJ {pins:List (Addr×Obj)}{σ:St}{H:Hp}{s:Shared}{Q:VK}{us:List Value}{vs:List V}{sp:Shared->Sp}(F:FnOkS X.prog X.w X.K X.mg X.base CX k f fd ps sp)(hr:Room k X.A)(hb:Binds X.K fd ps ds)(hd:Vals dvs ds)(hx:VC CX X E)
 (I:Inv X pins σ H s)(r:Vals vs us)(h:sp s (vs++dvs) H Q E):wpAny (model X.prog X.w) X.A (call (.ref f) us) (EP X pins σ Q) X.xe s:=by
 have r2:Vals (vs++dvs) (us++ds):=r.append hd;have hl:(us++ds).length=ps.length:=by rw [<-r2.length];exact F.len _ _ _ _ _ h
 refine W7 (X6 (F.run X.A X.stack s H ⟨us,[]⟩ (us++ds) (vs++dvs) Q E hr I.env0 (hb s us I.kIn hl) r2 h) λr s' hq=> ?_);cases r with
 |error e=>exact hx pins σ H s e s' I hq
 |ok fl=>
  cases fl with
  |ret u=>exact I.after hq
  |next=>exact False.elim hq
  |brk=>exact False.elim hq
  |cont=>exact False.elim hq
end
theorem qM {CX:CXT}{P:Program}{w:World}{K:PySem.W.Frag}{f:Addr}{name:Str}{params:Arguments}{body:List Stmt}{dV kV doc pm cdv ct oc:Value}{an od:Option Addr}{osl:Array (Option Value)}{N ps:List Str}{sp:Shared->Sp}(lk:K.lookup f=some ⟨oc,od,.func (PySem.W.fnOf name qual params body scope dV kV doc pm an cdv ct),osl⟩)(hcd:PySem.W.codeIn K cdv qual=true)(S:FnScope N ps scope)
 (len: ∀s vs H Q E,sp s vs H Q E->vs.length=ps.length)
 (hbody: ∀ (A:Around) (outer:List Env) (s:Shared) (H:Hp) (vs:List V) (Q:VK) (E:XK),Room k (A.deeper (envOfC qual scope s.heap.objs.size f cdv))->sp s vs H Q E->
  ∀s1,Inv (Qc CX P w K mg base N qual scope f cdv A outer s H E) [] (start N vs) H s1->wpAny (model P w) (A.deeper (envOfC qual scope s.heap.objs.size f cdv)) (execs body (envOfC qual scope s.heap.objs.size f cdv)) (SP (Qc CX P w K mg base N qual scope f cdv A outer s H E) [] {nx:=λ_ H'=>Q .non H',rt:=Q}) (Qc CX P w K mg base N qual scope f cdv A outer s H E).xe s1):
 FnOkS P w K mg base CX (k+1) f (PySem.W.fnOf name qual params body scope dV kV doc pm an cdv ct) ps sp:=by
 refine⟨len,λA outer s H args us vs Q E hr e0 hb r hsp=> ?_⟩;have hl:=len _ _ _ _ _ hsp;have KX:K.In s.heap:=e0.mod.kin.keeps λb o e=>(e0.bs b o e).1
 have lim:s.heap.NoLimit:=e0.mod.nolimit.keeps λb o e=>(e0.bs b o e).1
 have hkind: ∀y∈ps.zip us,scope.names.lookup y.1=some .local\/(scope.names.lookup y.1=some .cell/\((cellsFrom (s.heap.objs.size+1) scope.names []).lookup y.1).isSome=true):=λ⟨n,v⟩ hy=>by
  rcases S.par n (I0 hy).1 with q|q
  ·exact .inl q
  ·exact .inr ⟨q,K0 _ _ _ (.inl q)⟩
 refine X7 hr.depth (KX _ _ lk) rfl S.co S.gen rfl (G0r KX hcd) (hb _ _ _ _ ?_);refine U3 S.kind hkind λenv he s1 x=> ?_
 subst he;refine⟨lim.keeps x.toInCall.keep,codeAny_func ?_⟩;have ht:=hbody A outer s H vs Q E (hr.deeper _) hsp;have I:Inv (Qc CX P w K mg base N qual scope f cdv A outer s H E) [] (start N vs) H s1:=PC S hr.hd e0 hl r x;refine D8 (ht s1 I) (λfl s' hs=> ?_) λe s' hs=>hs
 have fin: ∀ {σ':St} {H':Hp} {v:V} {u:Value},Inv (Qc CX P w K mg base N qual scope f cdv A outer s H E) [] σ' H' s'->RelV v u->Q v H'->CE outer P w H s Q u s':=
  λ{σ' H' v u} J rv q=>⟨v,H',J.os,J.bare,J.base,J.hok,rv,q⟩
 cases fl with
 |ret u=>
  obtain⟨v,σ',H',J,rv,q⟩:=hs;exact fin J rv q
 |next=>
  obtain⟨σ',H',J,q⟩:=hs;exact fin (v:=V.non) (u:=Value.none) J rfl q
 |brk=>
  obtain⟨_,_,_,q⟩:=hs;exact False.elim q
 |cont=>
  obtain⟨_,_,_,q⟩:=hs;exact False.elim q
section
variable {X:Cx}{k:Nat}{f:Addr}{fd:FuncData}{ps:List Str}{spd:RDn}{x:Str}{p pos:Pos}{e:Expr}{es:List Expr}{t:TAD}
theorem qN (F:FnOkU X.prog X.w X.K X.mg X.base CX0 k f fd ps (LSp X.K spd))(hr:RoomU k X.A)(hg:Gl X x)(hm:X.mg x=some (.ref f))(hk:PySem.W.keepIn X.K (.ref f)=true)(hb:Binds X.K fd ps [])
 (ha:JA X (e::es) t)(hdb:(x==("__debug__" :Str))=false:=by decide)(he:starEach (e::es) X.env=(false,eval e X.env)::starEach es X.env:=by rfl)(hpl:(backTo pos (starEach es X.env)).any (·.1)=false:=by rfl):
 JE X (.Call (.Name x p) (e::es) [] pos) (dCB spd t):=⟨(Sk F hr hg hm hk hb .nil Hw ha.to hdb he hpl).imp FV⟩
end
def Oj (P:Program)(w:World)(K:PySem.W.Frag)(mg:Str->Option Value)(base:Heap)(n:Nat)(x:Str)(ps:List Str)(sp:RDn):Prop:=
 ∃ (g:Addr) (gd:FuncData),FnOkU P w K mg base CX0 n g gd ps (LSp K sp)/\Binds K gd ps []/\PySem.W.keepIn K (.ref g)=true/\mg x=some (.ref g)
end L2
namespace L2
open PySem PySem.Spec PyProof.Rows PySem.W PySem.Calls PySem.Builtin PySem.Builtin.ObjectAttr PySem.Builtin.Getset_descriptor
section
variable {prog:Program}{w:World}{A:Around}{E:Value->Shared->Prop}{s:Shared}{K:Frag}{x D:Addr}
structure ExcK (K:Frag)(D:Addr):Prop where
 cls:(clsIn K D).isSome=true
 ga:findIn K (.ref D) "__getattribute__" =some (some (.builtin "BaseException.__getattribute__"))
 hk:findIn K (.ref D) "__getattr__" =some none
 ca:findIn K (.ref D) "__class__" =some (some (.builtin "object.__class__"))
 gt:specialIn K (.builtin "object.__class__") "__get__" =some (some (.builtin "getset_descriptor.__get__"))
 tk:takesIn K (.builtin "object.__class__")=some true
 ob:mroIn K D (.type "object")=some true
 be:mroIn K D (.type "BaseException")=some true
def ExcAt (x D:Addr)(h:Heap):Prop:= ∃o,h.get? x=some o/\o.cls= .ref D
theorem ExcAt.type {M:Model}{h:Heap}(I:ExcAt x D h):Looks M h (typeOf (.ref x)) (.ref D):=let ⟨o,h1,h2⟩:=I;h2 ▸ (Looks.ld h1).andThen .now
theorem Cp {tp:Value}{R:Result->Shared->Prop}(X:K.In s.heap)(I:ExcAt x D s.heap)(ob:mroIn K D (.type "object")=some true)
 (h:R (.ok (.ret (.ref D))) s):codeAny (model prog w) A (.call (.builtin "getset_descriptor.__get__") ⟨[.builtin "object.__class__",.ref x,tp],[]⟩) R s:=by
 obtain⟨hp,g,dr,t,os⟩:=s;have known:Looks (model prog w) hp (isInstance (.ref x) (.type "object")) true:=I.type.andThen (looks_mroIn X ob);have passed:Looks (model prog w) hp (descrCheckInstance (.builtin "object.__class__") (.ref x)) ():=
  Looks.andThen (a:=(("__class__" :Str),Value.type "object")) (Looks.of_pure (congrArg (λp:String×String=>(pure (Str.ofString p.2,Value.type p.1):Sem (Str×Value))) KF.owner_class)) (known.andThen .now)
 have shown:Looks (model prog w) hp (shownTypeOf (.ref x)) (.ref D):=I.type.andThen .now;have asked:=KF.slot_gs.check (model prog w) A.in1 (λe s'=>R (.error e) s') ⟨hp,g,dr,t,os⟩ (.builtin "object.__class__") [.ref x,tp] [];refine Y8 KF.slot_gs.plain KF.entry_gs (asked _ KF.type_class (KF.args_gs _ _ _) ?_);show wpAny _ _ (descrGetArgs _ >>= _) _ _ _;rw [dga_obj];refine wpAny_bind (G9 (wpAny_bind (passed.at (G9 ⟨Code.quiet_builtin _ (by decide +kernel),codeAny_builtin KF.entry_class ?_⟩))));exact wpAny_bind (shown.at (G9 h))
theorem Sl {M:Model}{h:Heap}(X:K.In h)(Z:ExcK K D):Looks M h (find (.ref x) (.ref D) "__class__") (.bind (.builtin "getset_descriptor.__get__") (.builtin "object.__class__")):=by
 have L1:=looks_findIn (M:=M) X Z.ca;have L2:Looks M h (getOf (some (.builtin "object.__class__"))) (some (.builtin "getset_descriptor.__get__")):=looks_specialIn X Z.gt;have L3:=looks_takesIn (M:=M) X Z.tk;exact L1.andThen (L2.andThen ((show Looks M h (dataDescriptor? (some (.builtin "object.__class__")) (some (.builtin "getset_descriptor.__get__"))) (some (.builtin "getset_descriptor.__get__",.builtin "object.__class__")) from L3.andThen .now).andThen (Looks.tag .now)))
theorem KL {M:Model}{h:Heap}(X:K.In h)(I:ExcAt x D h)(Z:ExcK K D)(n:Value):Looks M h (checkBuiltinCall "BaseException.__getattribute__" ⟨[.ref x,n],[]⟩) ():=by
 have known:Looks M h (isInstance (.ref x) (.type "BaseException")) true:=I.type.andThen (looks_mroIn X Z.be);have fits:=PySem.F.args_bexc_ga (.ref x) n;unfold checkBuiltinCall;rw [show builtinKind "BaseException.__getattribute__" =some .slot by decide +kernel,show splitId "BaseException.__getattribute__" =some ("BaseException","__getattribute__") by decide +kernel];exact known.andThen (Looks.of_pure fits)
theorem UV {tk:Tok}{R:Result->Shared->Prop}(X:K.In s.heap)(I:ExcAt x D s.heap)(Z:ExcK K D)(h:R (.ok (.ret (.ref D))) s):
 codeAny (model prog w) A (.call (.builtin "BaseException.__getattribute__") ⟨[.ref x,.str "__class__" tk],[]⟩) R s:=
 Y8 PySem.F.attr_ValueError.ga.plain PySem.F.entry_bexc_ga (G0E (KL X I Z _) (wpAny_bind (G9 (wpAny_bind (G9 (wpAny_bind (G0E I.type (wpAny_bind (G0E (Sl X Z) (wpAny_bind (B8 (W7 (Cp X I Z.ob (G9 h))))))))))))))
theorem Cq {Q:Option Value->Shared->Prop}(X:K.In s.heap)(I:ExcAt x D s.heap)(Z:ExcK K D)(h:Q (some (.ref D)) {s with toks:=s.toks+1}):wpAny (model prog w) A (getAttr? (.ref x) "__class__") Q E s:=by
 have byReader:=PySem.F.attr_ValueError.ga.bind (.ref x);have asked: ∀ {A':Around} {P:Value->Shared->Prop} {E':Value->Shared->Prop},P (.ref D) {s with toks:=s.toks+1}->wpAny (model prog w) A' (boundAndCalled (.builtin "BaseException.__getattribute__") (.ref x) (.str "__class__" s.toks)) P E' {s with toks:=s.toks+1}:=λp=>by
  unfold boundAndCalled;rw [byReader];exact wpAny_bind (G9 (W7 (UV (s:= {s with toks:=s.toks+1}) X I Z p)))
 have own: ∀ {A':Around} {P:Value->Shared->Prop} {E':Value->Shared->Prop},P (.ref D) {s with toks:=s.toks+1}->wpAny (model prog w) A' (getAttrByItsOwn (.ref x) (.str "__class__" s.toks) (.ref D) (.builtin "BaseException.__getattribute__") false false) P E' {s with toks:=s.toks+1}:=λp=>
  wpAny_bind (G0E (s:= {s with toks:=s.toks+1}) (looks_findIn X Z.hk) (wpAny_bind (G0K (B8 (asked (G9 p))))))
 exact wpAny_bind (wpAny_mkText (wpAny_bind (G0K (B8 (wpAny_bind (G0E (s:= {s with toks:=s.toks+1}) I.type (wpAny_bind (G0E (s:= {s with toks:=s.toks+1}) (looks_findIn X Z.ga) (own (G9 h))))))))))
theorem Sn (Z:ExcK K D):KitX K (.ref x) (.ref D) (ExcAt x D):=by
 have isClass: ∀ {h:Heap},K.In h-> ∃o c,h.get? D=some o/\o.data= .cls c:=λX=>by
  obtain⟨c,hc⟩:=C5.mp Z.cls;revert hc;unfold clsIn;split
  ·rename_i ho;exact λ_=>⟨_,_,X _ _ ho,rfl⟩
  ·exact λz=>nomatch z
 refine⟨λ_ _ _ I=>I.type,λM h X _=> ?_,λh tp dd its n sl X htp=> ?_,λX I k=>Cq X I Z k⟩
 ·obtain⟨o,c,ho,hd⟩:=isClass X;exact(Looks.ld ho).andThen (Looks.of_pure (by rw [hd]))
 ·obtain⟨o,c,ho,hd⟩:=isClass X;cases hq:(Value.ref D==Value.ref tp) with
  |false=>rfl
  |true=>
   cases (V2.mp hq);rw [htp] at ho;cases ho;cases hd
end
end L2
namespace L2
open PySem PySem.Spec PyProof.Rows PySem.SeqAt PySem.W
theorem So {X:Cx}(hu:X.A.units+64<cLine):MtM X "list.count" (λx vs H Q=> ∃ (a:Addr) (y:V) (dy:D) (h:HD) (p:PyData) (ps:List PyData),x= .ref a/\vs= [y]/\RelD X.K H dy y/\RelH X.K h H/\ToP h (.lst a) (.list ps)/\ToP h dy p/\p.canLay0=true/\PyData.canLayAll0 ps=true/\p.depth<=60/\Q (.int ((ps.countP λz=>PyData.eqv z p:Nat):Int)) H):=by
 intro pins s σ H x vs v us Q I rx rv h;obtain⟨a,y,dy,h,p,ps,rfl,rfl,rd,rh,t1,t2,c1,c2,c3,q⟩:=h;cases rx;obtain⟨u,rfl,ru⟩:=Zv rv;obtain⟨a',ds,ea,ha,ts⟩:=(show ∃a' ds,D.lst a= .lst a'/\h a'=some ds/\ToPs h ds ps from t1);cases ea;obtain⟨ws,hH,_⟩:=rh a ds ha;obtain⟨as,r1⟩:=wf I rh t1 (show RelD X.K H (.lst a) (.ref a) from ⟨rfl,ws,hH⟩) (show RelV (.ref a) (.ref a) from rfl);obtain⟨bs,r2⟩:=wf I rh t2 rd ru;cases r1 with
 |list h1 h2 h3 h4=>
  rename_i o its n cs;have em:=readsAll_map ps _ _ c2 h4;have hu':X.A.units+1+min (PyData.depthAll ps) p.depth<cLine:=by have:=J9 (PyData.depthAll ps) p.depth;omega
  obtain⟨oc,od,odt,osl⟩:=o;simp only at h2 h3;subst h2 h3;refine G0C G0L ⟨_,h1,rfl⟩ PySem.F.entry_list_count (PySem.F.args_list_count_2 _ _) (list_countAt a its n od osl u (λy=>PyData.eqv (readOf s.heap y) p)) ⟨h1,items_eqAt h4 r2 c2 c1 hu',?_⟩;have e:its.toList.countP (λy=>PyData.eqv (readOf s.heap y) p)=ps.countP λz=>PyData.eqv z p:=by
   rw [<-em,List.countP_map];rfl
  exact⟨.int _,H,I.tok _,⟨_,by rw [e]⟩,q⟩
def jdo (to te:TED):TED:=λσ h Q=>to σ h λx h1=> ∃a,x= .lst a/\te σ h1 λy h2=> ∃ (p:PyData) (ps:List PyData),ToP h2 (.lst a) (.list ps)/\ToP h2 y p/\p.canLay0=true/\PyData.canLayAll0 ps=true/\p.depth<=60/\Q (.int ((ps.countP λz=>PyData.eqv z p:Nat):Int)) h2
section
variable {X:Cx}{o e i:Expr}{to te ti:TED}{apos cpos:Pos}
theorem jdp (hu : X.A.units + 64 < cLine) (ho : JE X o to) (he : JE X e te) (hbase : attributeBase o "count" X.env (eval o X.env) = eval o X.env := by rfl)
    (hfew : ((backTo cpos (starEach [e] X.env)).all (fun x => !x.1) && (backToKw cpos (keywordEach [] X.env)).all (fun x => x.1.isSome) && decide ([e].length + ([] : List Keyword).length + (if ([] : List Keyword).isEmpty then 0 else 1) < 30)) = true := by rfl)
    (hline : (apos.endLine == cpos.line) = true := by rfl) (hs : starEach [e] X.env = (false, eval e X.env) :: starEach [] X.env := by rfl) (hplain : (backTo cpos (starEach [] X.env)).any (·.1) = false := by rfl) :
    JE X (.Call (.Attribute o "count" apos) [e] [] cpos) (jdo to te) :=
  ⟨(Hu V8 G0L PySem.F.type_list_count (So hu) ho.to (yC he.to pa_nil hs) hbase hfew hline hs hplain).imp
    fun σ H Q ⟨σd, h, Qd, rs, rh, t, p⟩ => LE.bind rs rh t fun d v h1 H1 k1 rs1 rh1 r1 ⟨a, e, q⟩ => by
      subst e
      obtain ⟨e1, vs, hH⟩ := (show v = .ref a ∧ ∃ vs, H1 a = some (.lst vs) from r1)
      subst e1
      refine ⟨.inl ⟨rfl, vs, SqL.of hH⟩, ?_⟩
      refine LE.bind rs1 rh1 q fun y u h2 H2 k2 rs2 rh2 r2 ⟨pd, ps, t1, t2, c1, c2, c3, q2⟩ => ?_
      exact ⟨a, u, y, h2, pd, ps, rfl, rfl, r2, rh2, t1, t2, c1, c2, c3, p (.int _) _ _ _ (k1.trans k2) rh2 rfl q2⟩⟩
end
def jbR (K:Frag)(c:Value)(ta:TED):TED:=λσ h Q=>ta σ h λx h1=> ∃C b,x= .exc C/\ExcK K C/\kitOne K (.ref C) c=some b/\Q (.bl b) h1
theorem XS {X:Cx}{v:V}{c:Value}(rc: ∀u,RelV v u->u=c):CallR X (.builtin "isinstance") (λxs H Q=> ∃x C o b,xs= [.ref x,v]/\H x=some (.frz o (.own 0))/\o.cls= .ref C/\ExcK X.K C/\kitOne X.K (.ref C) c=some b/\Q (.bl b) H):=by
 intro pins s σ H xs us Q I r h;obtain⟨x,C,o,b,rfl,hx,hc,Z,e,q⟩:=h;obtain⟨u,w',rfl,rx,rt⟩:=Em r;cases rx;cases rc _ rt;exact kia_one (Sn Z) I.kIn ⟨o,(I.hok x _ hx).1,hc⟩ e (λz=>nomatch z) λtk=>⟨.bl b,H,I.tok tk,rfl,q⟩
section
variable {X:Cx}{a:Expr}{ta:TED}{t:Str}{p p2 pos:Pos}
theorem Ol {v:V}{c:Value}: ∀σ H Q,LE X.K (jbR X.K c ta) σ H Q->tCB (λxs H Q=> ∃x C o b,xs= [.ref x,v]/\H x=some (.frz o (.own 0))/\o.cls= .ref C/\ExcK X.K C/\kitOne X.K (.ref C) c=some b/\Q (.bl b) H) (En (LE X.K ta) (En (tC v) jaV)) σ H Q:=
 λσ H Q ⟨σd,h,Qd,rs,rh,t,p⟩=>LE.bind rs rh t λd u h1 H1 k1 rs1 rh1 r1 ⟨C,b,e,Z,k,q⟩=>by
  subst e;obtain⟨x,o,vs,e1,hx,hc,_⟩:=(show ∃x o vs,u= .ref x/\H1 x=some (.frz o (.own 0))/\o.cls= .ref C/\o.data= .fields vs from r1);subst e1;exact⟨x,C,o,b,rfl,hx,hc,Z,k,p (.bl b) _ _ _ k1 rh1 rfl q⟩
theorem Cr {KK:Frag}{D:Addr}(hg:Gl X "isinstance")(hm:X.mg "isinstance" =none)(hg2:Gl X t)(hm2:X.mg t=some (.ref D))(ha:JE X a ta)(hd:(t==("__debug__" :Str))=false:=by decide)
 (h1:starEach [a,.Name t p2] X.env=(false,eval a X.env)::starEach [.Name t p2] X.env:=by rfl)(h2:(backTo pos (starEach [.Name t p2] X.env)).any (·.1)=false:=by rfl)(hK:X.K=KK:=by rfl):
 JE X (.Call (.Name "isinstance" p) [a,.Name t p2] [] pos) (jbR KK (.ref D) ta):=
 hK ▸ ⟨(Vr (XS (v:= .ref D) λu r=>r) hg hm K5 (yC ha.to (yC (Ft (v:= .ref D) hg2 hm2 rfl hd) pa_nil (by rfl)) h1) (by decide) (by decide) h1 h2).imp Ol⟩
theorem jdq {KK:Frag}{T:String}(hg:Gl X "isinstance")(hm:X.mg "isinstance" =none)(hg2:Gl X t)(hm2:X.mg t=none)(hv:bootBuiltins t=some (.type T))(ha:JE X a ta)(hn:t≠ "__name__" :=by decide)(hd:(t==("__debug__" :Str))=false:=by decide)
 (h1:starEach [a,.Name t p2] X.env=(false,eval a X.env)::starEach [.Name t p2] X.env:=by rfl)(h2:(backTo pos (starEach [.Name t p2] X.env)).any (·.1)=false:=by rfl)(hK:X.K=KK:=by rfl):
 JE X (.Call (.Name "isinstance" p) [a,.Name t p2] [] pos) (jbR KK (.type T) ta):=
 hK ▸ ⟨(Vr (XS (v:= .ty T) λu r=>r) hg hm K5 (yC ha.to (yC (Fu (v:= .ty T) hg2 hm2 hv rfl hn hd) pa_nil (by rfl)) h1) (by decide) (by decide) h1 h2).imp Ol⟩
end
end L2
namespace L2
open PySem PySem.Spec PyProof.Rows PySem.W
section
variable {X:Cx}{σ:St}{H:Hp}{s:Shared}{x C:Addr}
theorem Inv.relaid {B h':Heap}{T:Addr}{a0:Value}(I:Inv X [] σ H s)(Z:Rz0 X)(hpn:X.pn= [])(hx:H x=none/\X.s₀.heap.get? x=none)(hT:H T=none/\X.s₀.heap.get? T=none)
 (hB:B=hideAll s.heap (x::T::frs (X.env::X.outer)))(fl:Heap.FlyingW B (X.env::X.outer) x (.ref C) a0 h')(up:s.heap.UpToSlots h'):Inv X [] σ H {s with heap:=h'}/\Fly X.s₀.heap H h' x C:=by
 subst hB;have stk:s.heap.FunFrames X.base (X.env::X.outer):=Z.stk ▸ I.stack;obtain⟨st,_,_,oe',vs',T',oT',ts',he',⟨hc',h0'⟩,hd',h1',hTB,hTx',hT',hTd',h3'⟩:=fl;obtain⟨r1,r2,r3⟩:=Oe (ys:= [x,T]) (h':=h') I Z (λy hy=>by
  rcases P4.mp hy with rfl|hy
  ·exact hx
  ·rcases P4.mp hy with rfl|hy
   ·exact hT
   ·cases hy) (λb o e n1 n2=>st b o (hideAll_get _ e λz=>by
    rcases P4.mp z with rfl|z
    ·exact n1 (.head _)
    ·rcases P4.mp z with rfl|z
     ·exact n1 (.tail _ (.head _))
     ·exact n2 z)) λb o e hb=>by
  obtain⟨_,o2,e2,nd⟩:=stk.mem hb;rw [e] at e2;cases e2;exact up b o e nd
 obtain⟨q1,q2⟩:=r3 T' oT' ts' hT' hTd' λo e=>by
  by_cases z:T'∈frs (X.env::X.outer)
  ·exact .inr z
  ·refine .inl ?_
   by_cases z1:T'=x
   ·rw [z1];exact .head _
   ·by_cases z2:T'=T
    ·rw [z2];exact .tail _ (.head _)
    ·rw [hideAll_get _ e (by simp only [P4,not_or];exact⟨z1,z2,z⟩)] at hTB;cases hTB
 have cellK: ∀c v,s.heap.IsCell c v->h'.IsCell c v:=λc v ⟨o,ho,hd⟩=>by
  obtain⟨sl,e⟩:=up c o ho λws q=>by rw [hd] at q;cases q
  exact⟨_,e,hd⟩
 refine⟨⟨I.ok,I.os,I.bare,by rw [Z.ex];exact r1,?_,λy c e=> ?_,I.free,I.freeC,λp hp=> ?_,r2,I.len⟩,⟨⟨oe',vs',a0,T',oT',ts',he',hc',hd',h0',h1',hTx',hT',hTd',h3',q1,q2⟩,hx.1,hx.2⟩⟩
 ·obtain⟨m,hn,hl⟩:=I.loc;refine⟨m,up.ns hn,λi y v e1 e2 e3=> ?_⟩;obtain⟨u,r,l⟩:=hl i y v e1 e2 e3;exact⟨u,r,l.imp id λ⟨k,c,e,z⟩=>⟨k,c,e,cellK c _ z⟩⟩
 ·obtain⟨v,z⟩:=I.cell y c e;exact⟨v,cellK c v z⟩
 ·rw [hpn] at hp;cases hp
theorem Inv.track {oe:Obj}{vs:Array Value}(I:Inv X [] σ H s)(hpn:X.pn= [])(hn:H x=none)(h0:X.s₀.heap.get? x=none)(hx:s.heap.get? x=some oe)(hd:oe.data= .fields vs):Inv X [] σ (upd H x (.frz oe (.own 0))) s:=by
 have ne: ∀b u,H b=some u->b≠x:=λb u e z=>by rw [z,hn] at e;cases e
 have ne0: ∀b o,X.s₀.heap.get? b=some o->b≠x:=λb o e z=>by rw [z,h0] at e;cases e
 have cn: ∀y c,X.env.cells.lookup y=some c->c≠x:=λy c e z=>by
  obtain⟨v,o,ho,hc⟩:=I.cell y c e;rw [z,hx] at ho;cases ho;rw [hd] at hc;cases hc
 refine⟨I.ok,I.os,I.bare,⟨I.base.keep,I.base.slot,λb o e n hx=> ?_,I.base.there,λb xs e=> ?_,λb o u e=> ?_,λb ps e=> ?_⟩,I.loc,I.cell,?_,λy c e=> ?_,λp hp=> ?_,λa o e=> ?_,I.len⟩
 ·rw [jq (ne0 b o e)];exact I.base.free b o e n hx
 ·have:=I.base.tups b xs e;rw [jq (ne b _ this)];exact this
 ·have:=I.base.frzs b o u e;rw [jq (ne b _ this)];exact this
 ·obtain⟨more,this⟩:=I.base.tbls b ps e;exact⟨more,by rw [jq (ne b _ this)];exact this⟩
 ·rw [jq (λz=> ?_)]
  ·exact I.free
  ·obtain⟨m,⟨o,es,ep,e,d,_⟩,_⟩:=I.loc;rw [z,hx] at e;cases e;rw [hd] at d;cases d
 ·rw [jq (cn y c e)];exact I.freeC y c e
 ·rw [hpn] at hp;cases hp
 ·by_cases z:a=x
  ·subst z;rw [jt] at e;cases e;exact⟨hx,⟨oe,hx⟩⟩
  ·rw [jq z] at e;exact(I.hok a o e).stay (λ_ _ _ q=>q) (λb q=>by rw [jq (ne b _ q)];exact q) λb xs q=>by rw [jq (ne b _ q)];exact q
theorem Om {M:Model}{A:Around}{E:Value->Shared->Prop}{i:Nat}{y:Str}{v:V}{Q:Unit->Shared->Prop}(I:Inv X [] σ H s)(hpn:X.pn= [])(hN:X.N.Nodup)(hi:X.N[i]? =some y)(hk:X.env.scope.names.lookup y=some .local)(hv:σ[i]? =some (some v))
 (h: ∀s',Inv X [] (σ.set i none) H s'->Q () s'):wpAny M A (unbindName X.env y) Q E s:=by
 obtain⟨m,hn,hl⟩:=id I.loc;have hcls:(X.env.scope.kind== .class||(X.env.scope.kind== .module&&X.env.locals !=X.env.globals))=false:=by rw [I.ok.kind];rfl
 have hiσ:i<σ.length:=by rw [I.len];exact(G3.mp hi).1
 obtain⟨u,r,l⟩:=hl i y v hi hv (.inl hk);have hm:m y=some u:=by
  rcases l with ⟨_,e⟩|⟨k,_⟩
  ·exact e
  ·rcases k with k|k<;>(have k':X.env.scope.names.lookup y=_:=k;rw [hk] at k';cases k')
 refine wpAny_unbindName_local hk hn hm hcls λh' u' hn' hs=> ?_
 obtain⟨oL,_,_,hoL,_⟩:=id hn;have cne:=I.cne;refine h _ ⟨I.ok,I.os,I.bare,⟨λb o e n hb hx=> ?_,λb o e n hb hx=> ?_,I.base.free,λb o e hx=> ?_,I.base.tups,I.base.frzs,I.base.tbls⟩,⟨_,hn',λj z v' e1 e2 e3=> ?_⟩,λz c e=> ?_,I.free,I.freeC,λp hp=> ?_,λb ob e=> ?_,by simpa using I.len⟩
 ·exact(hs.2 b (R1 (D3 (P3 e) I.ok.above))).trans (I.base.keep b o e n hb hx)
 ·obtain⟨sl,e1⟩:=I.base.slot b o e n hb hx;exact⟨sl,(hs.2 b (R1 (D3 (P3 e) I.ok.above))).trans e1⟩
 ·obtain⟨o',e1⟩:=I.base.there b o e hx;exact⟨o',(hs.2 b (R1 (D3 (P3 e) I.ok.above))).trans e1⟩
 ·by_cases hj:j=i
  ·subst hj;rw [A6 hiσ] at e2;cases e2
  ·rw [B3 (Ne.symm hj)] at e2;obtain⟨u2,r',q⟩:=hl j z v' e1 e2 e3;refine⟨u2,r',?_⟩;rcases q with ⟨k,e⟩|⟨k,c,e,q⟩
   ·refine .inl ⟨k,?_⟩;have:z≠y:=λe=>hj (Qb hN e1 (e ▸ hi))
    simp [this,e]
   ·exact .inr ⟨k,c,e,q.sameBut hs (cne z c e)⟩
 ·obtain⟨w',q⟩:=I.cell z c e;exact⟨w',q.sameBut hs (cne z c e)⟩
 ·rw [hpn] at hp;cases hp
 ·refine(I.hok b ob e).stay (λc w' hc q=>(hs.2 c ?_).trans q) (λ_ q=>q) λ_ _ q=>q
  rintro rfl;rcases hc with rfl|hc
  ·rw [I.free] at e;cases e
  ·rw [I.free] at hc;cases hc
end
def cxH (X:Cx)(x:Addr):Cx:= {X with A:=X.A.mark (some (.ref x)),calm:=false,xe:=λ_ _=>False}
section
variable {X:Cx}{pins:List (Addr×Obj)}{σ:St}{H:Hp}{s:Shared}{x C:Addr}
theorem Inv.suite (I:Inv X pins σ H s)(x:Addr):Inv (cxH X x) pins σ H s:=
 ⟨⟨I.ok.mod,I.ok.kind,I.ok.glob,I.ok.blt,I.ok.above,I.ok.inj,I.ok.has,I.ok.cab,λz=>(by cases z),I.ok.frames,I.ok.stk,I.ok.exf,I.ok.bs,I.ok.bsz,I.ok.noex,I.ok.exfs,I.ok.funs,I.ok.frf⟩,I.os,I.bare,I.base,I.loc,I.cell,I.free,I.freeC,I.pin,I.hok,I.len⟩
theorem Inv.unsuite (I:Inv (cxH X x) pins σ H s)(ok:X.Ok):Inv X pins σ H s:=⟨ok,I.os,I.bare,I.base,I.loc,I.cell,I.free,I.freeC,I.pin,I.hok,I.len⟩
theorem Sr {E:Value->Shared->Prop}{n:Str}{i:Nat}{PE:Addr}{b0:Stmt}{suite:List Stmt}{t:TS}{D:Ends}{np pos:Pos}(Z:Rz0 X)(hpn:X.pn= [])(hN:X.N.Nodup)(hi:X.N[i]? =some n)(hl:X.env.scope.names.lookup n=some .local)
 (hg:Gl X "PowerError")(hm:X.mg "PowerError" =some (.ref PE))(hex:exmOne X.K (.ref C) (.ref PE)=some true)(I:Inv X [] σ H s)(fl:Fly X.s₀.heap H s.heap x C)(hs:PSs (cxH X x) (b0::suite) t)
 (ht: ∀oe vs,oe.cls= .ref C->oe.data= .fields vs->t {nx:=λ_ _=>False,rt:=D.rt} (σ.set i (some (.ref x))) (upd H x (.frz oe (.own 0)))):
 wpAny (model X.prog X.w) X.A (noteFrame (.ref x) X.env) (λ_ s₂=>wpAny (model X.prog X.w) X.A (setFlight (.ref x) none) (λ_ s₃=>wpAny (model X.prog X.w) X.A (handleBy (.ref x) X.env [.ExceptHandler (some (.Name "PowerError" np)) (some n) (b0::suite) pos]) (SP X [] D) E s₃) E s₂) E s:=by
 obtain⟨oe0,vs0,a0,T,oT,ts,he,hc,hd,h0,h1,hTx,hT,hTd,h3,hHT,h0T⟩:=fl.ex;have hfr:X.A.frames=some (X.env::X.outer):=by rw [I.ok.frames,Z.stk]
 have stk:s.heap.FunFrames X.base (X.env::X.outer):=Z.stk ▸ I.stack;have ff:s.heap.FunFrames (hideAll s.heap (x::T::frs (X.env::X.outer))) (X.env::X.outer):=wc stk λa ha=>hideAll_none _ (.tail _ (.tail _ ha))
 refine wpAny_looks_onW (base:=hideAll s.heap (x::T::frs (X.env::X.outer))) (cls:= .ref C) (a0:=a0) hfr Z.fr
  ⟨λb o e=>of_hideAll _ e,hideAll_none _ (.head _),ff,oe0,vs0,T,oT,ts,he,⟨hc,h0⟩,hd,h1,hideAll_none _ (.tail _ (.head _)),hTx,hT,hTd,h3⟩ λh₄ hheld₄ hup₄=> ?_
 refine wpAny_landsW hheld₄ λh₅ hfl₅ hup₅=> ?_
 obtain⟨I5,F5⟩:=I.relaid Z hpn ⟨fl.nx,fl.n0⟩ ⟨hHT,h0T⟩ rfl hfl₅ (hup₄.trans hup₅);refine wpAny_handleBy_cons (codeAny_handlers_test (Yd (X:=cxH X x) (I5.suite x) hg hm ?_)) (by intro q;cases q);have at5:ExcAt x C h₅:=let ⟨oe,_,_,_,_,_,e,c,_⟩:=F5.ex;⟨oe,e,c⟩;refine(exm_one (M:=model X.prog X.w) (h:=h₅) I5.kIn at5.type hex).here ?_;refine codeAny_handlers_suite_as ?_;refine lands_againW hfl₅ λh₆ hfl₆ hup₆=> ?_
 obtain⟨I6,F6⟩:=I.relaid Z hpn ⟨fl.nx,fl.n0⟩ ⟨hHT,h0T⟩ rfl hfl₆ (hup₄.trans (hup₅.trans hup₆));obtain⟨oe,vs,_,_,_,_,e6,c6,d6,_⟩:=F6.ex;have I7:=I6.track hpn F6.nx F6.n0 e6 d6;refine yN I7 hN hi (.inl hl) (v:= .ref x) rfl (λs8 I8=> ?_) (.inr hl);refine D8 (hs [] s8 _ _ _ (I8.suite x) (ht oe vs c6 d6)) (λf s9 q=> ?_) λ_ _ z=>z.elim
 cases f with
 |next=>obtain⟨_,_,_,z⟩:=q;exact z.elim
 |brk=>obtain⟨_,_,_,z⟩:=q;exact z.elim
 |cont=>obtain⟨_,_,_,z⟩:=q;exact z.elim
 |ret u=>
  obtain⟨v,σ',H3,J,rv,qq⟩:=q;have J1:Inv X [] σ' H3 s9:=J.unsuite I.ok;refine wpAny_bind (G1a (yN J1 hN hi (.inl hl) (v:= .non) rfl (λs10 J2=> ?_) (.inr hl)));unfold unbindBehindTheSuite;have hlt:i<σ'.length:=by rw [J1.len];exact(G3.mp hi).1
  exact wpAny_onRaise (Om J2 hpn hN hi hl (v:= .non) (by rw [A6 hlt]) λs11 J3=>⟨v,_,H3,J3,rv,qq⟩)
end
def CW:List (Str×Str):= [("NoTable","table"),("NoPlace","place"),("NoNumber","number"),("NoOrder","order"),("NoSet","set"),("NoWalk","walk"),("NoLengths","lengths"),("NoWay","way"),("Apart","apart"),("NoRow","row")]
def CN:List Str:= ["NoTable","NoPlace","NoNumber","NoOrder","NoSet","NoWalk","NoLengths","NoWay","Apart","NoRow"]
def Wx (c:Str):Str:=(CW.lookup c).getD "other"
def Bo (P:Program)(w:World)(K:PySem.W.Frag)(mg:Str->Option Value)(base:Heap)(n:Nat):Shared->Sp:=λs vs H Q _=>
 ∃ (f:Addr) (o:Obj) (qual:Str) (pm cv ctv:Value) (cl:List (Str×Addr)) (q:Str) (N:List Str) (σ:St) (scope:Scope) (body:Expr) (h:HD) (Qd:KD),vs= [.ref f]/\s.heap.get? f=some o/\o.data= .func (kla_fn "<lambda>" qual UU body scope cl pm cv ctv)/\CodeF H cv q/\H f=none/\LamOk scope/\Cap N σ scope cl s.heap H/\RelH K h H/\Ts K H Qd Q/\
 ((∃QT:VK,(∀ (A':Around) (outer':List Env) (s':Shared) (E':XK),Room n (A'.deeper (envX q scope s'.heap.objs.size f cv cl))-> ∃t,PE (cxL CX0 P w K mg base N q scope f cv cl A' outer' s' H E') body t/\t σ H QT)/\
  ∀v H',QT v H'-> ∃d h',Kept H H'/\RelH K h' H'/\RelD K H' d v/\Qd (.tup [.str "told",d]) h')\/
  (∃RT:Addr->Hp->Prop,(∀ (A':Around) (outer':List Env) (s':Shared),Room n (A'.deeper (envX q scope s'.heap.objs.size f cv cl))-> ∀pins s2,Inv (cxL (CXR P w) P w K mg base N q scope f cv cl A' outer' s' H (λc _ H'=> ∃C,c= .ref C/\RT C H')) pins σ H s2->
   wpAny (model P w) (A'.deeper (envX q scope s'.heap.objs.size f cv cl)) (eval body (envX q scope s'.heap.objs.size f cv cl)) (λ_ _=>False) (cxL (CXR P w) P w K mg base N q scope f cv cl A' outer' s' H (λc _ H'=> ∃C,c= .ref C/\RT C H')).xe s2)/\
   ∀C H',RT C H'-> ∃c h',mg c=some (.ref C)/\c∈CN/\Kept H H'/\RelH K h' H'/\Qd (.tup [.str (Wx c)]) h'))
abbrev N1:List Str:= ["_law_call","_law_found","_law_e","_law_word"]
theorem RoomU.mark {k:Nat}{A:Around}{v:Option Value}(r:RoomU k A):RoomU k (A.mark v):=⟨r.dp,r.un,r.gd⟩
theorem On {M:Model}{f:Addr}(h:Heap)(X: ∃o fd,h.get? f=some o/\o.data= .func fd): ∃k,(k=Keeper.frame\/k=Keeper.machine\/k=Keeper.boundFrame)/\Looks M h (keeperOf (.ref f)) k:=by
 obtain⟨o,fd,e,d⟩:=X;refine⟨.frame,.inl rfl,(Looks.ld (part:=none) e).andThen ?_⟩;rw [d];exact .now
variable {mg:Str->Option Value}
theorem KM {P:Program}{w:World}{K:PySem.W.Frag}{base:Heap}{st:Stmt}{fs:Addr}{fds:FuncData}{n:Nat}{pe:Addr}{p1 p2 p3 p4 p5 p6 p7 p8 p9 p10 p11:Pos}{j k:Nat}{b0:Stmt}{suite:List Stmt}
 (F:Fun K "_law_said" "_law_said" st fs fds)(S:FnScope N1 ["_law_call"] (jd st))
 (hb:zG st= [.Try [.Assign [.Name "_law_found" p1] (.Call (.Name "_law_call" p2) [] [] p3) p4] [.ExceptHandler (some (.Name "PowerError" p5)) (some "_law_e") (b0::suite) p6] [] [] p7,.Return (some (.Tuple [.Constant (.str "told") j p8,.Name "_law_found" p9] k p10)) p11])
 (l0:(jd st).names.lookup ("_law_call" :Str)=some .local)(l1:(jd st).names.lookup ("_law_found" :Str)=some .local)(l2:(jd st).names.lookup ("_law_e" :Str)=some .local)(lp:(jd st).names.lookup ("PowerError" :Str)=some .globalImplicit)
 (hm:mg "PowerError" =some (.ref pe))(hex: ∀c∈CN,∀C,mg c=some (.ref C)->exmOne K (.ref C) (.ref pe)=some true)(tS:TSD)
 (hsuite: ∀ (cdv:Value) (A:Around) (outer:List Env) (s:Shared) (H:Hp) (E:XK) (x:Addr),RoomU n ((A.deeper (envOfC "_law_said" (jd st) s.heap.objs.size fs cdv)).mark (some (.ref x)))->JSs (cxH (Qc CX0 P w K mg base N1 "_law_said" (jd st) fs cdv A outer s H E) x) (b0::suite) tS)
 (hread: ∀c∈CN,∀ (C:Addr) (h:HD) (Qd:KD),mg c=some (.ref C)->Qd (.tup [.str (Wx c)]) h->tS {nx:=λ_ _=>False,rt:=λd h'=> ∃h2,Sub h2 h'/\Qd d h2} [none,none,some (.exc C),none] h):
 FnOkS P w K mg base CX0 (n+2) fs fds ["_law_call"] (Bo P w K mg base n):=by
 obtain⟨oc,od,kV,doc,pm,an,cdv,ct,osl,rfl,lk,hcd⟩:=F.ex;refine qM lk hcd S (λs vs H Q E h=> ?_) λA outer s H vs Q E hr hsp s1 I=> ?_
 ·obtain⟨f,_,_,_,_,_,_,_,_,_,_,_,_,_,rfl,_⟩:=h;rfl
 obtain⟨f,o,qual,pmv,cv,ctv,cl,q,N,σ,scope,body,h,Qd,rfl,ho,hod,hcf,hHf,L,C,rh,post,alt⟩:=hsp;have un:=I.base;obtain⟨sl,ho1⟩:=un.any ho hHf (by intro z;cases z);have C1:Cap N σ scope cl s1.heap H:=C.step un;have hr0:Room (n+1) (A.deeper (envOfC "_law_said" (jd st) s.heap.objs.size fs cdv)):=hr;rw [hb];have callee: ∀ {CX:CXT} {E':XK} {QT:VK} {t:TE} {Q2:Value->Shared->Prop} {EE:Value->Shared->Prop},PE (cxL CX P w K mg base N q scope f cv cl (A.deeper (envOfC "_law_said" (jd st) s.heap.objs.size fs cdv)) (envOfC "_law_said" (jd st) s.heap.objs.size fs cdv::outer) s1 H E') body t->t σ H QT->
  (∀r s2,CR CX (envOfC "_law_said" (jd st) s.heap.objs.size fs cdv::outer) P w H s1 QT E' r s2->match r with| .ok (.ret v)=>Q2 v s2| .ok _=>False| .error e=>EE e s2)->
  wpAny (model P w) (A.deeper (envOfC "_law_said" (jd st) s.heap.objs.size fs cdv)) (eval (.Call (.Name "_law_call" p2) [] [] p3) (envOfC "_law_said" (jd st) s.heap.objs.size fs cdv)) Q2 EE s1:=by
  intro CX E' QT t Q2 EE hbt ht hk;refine A9 ?_;obtain⟨m,hn,hl⟩:=I.loc;obtain⟨u,ru,l⟩:=hl 0 "_law_call" (.ref f) rfl rfl (.inl l0);cases ru;have hmm:m "_law_call" =some (.ref f):=by
   rcases l with ⟨_,e⟩|⟨kk,_⟩
   ·exact e
   ·rcases kk with kk|kk<;>(have k':(jd st).names.lookup ("_law_call" :Str)=_:=kk;rw [l0] at k';cases k')
  refine G1m (Y5 S.kind l0 hn hmm ?_) (by decide);refine callWith_of (P:=λh=> ∃o fd,h.get? f=some o/\o.data= .func fd) rfl On (evalArgs_nil3 ⟨⟨_,_,ho1,hod⟩,?_⟩);exact W7 (X6 (KC (CX:=CX) (k:=n) L hr0 I.env0 C1 ho1 hod hcf hbt ht) hk)
 refine C0 (wpAny_Try_except ?_);refine C0 (G0z ?_ rfl);rcases alt with ⟨QT,hT,hQ⟩|⟨RT,hR,hQ⟩
 ·obtain⟨t,hbt,ht⟩:=hT (A.deeper (envOfC "_law_said" (jd st) s.heap.objs.size fs cdv)) (envOfC "_law_said" (jd st) s.heap.objs.size fs cdv::outer) s1 E0 (hr0.deeper _);refine callee hbt ht λr s2 hq=> ?_
  cases r with
  |error e=>exact False.elim hq
  |ok fl=>
   cases fl with
   |next=>exact False.elim hq
   |brk=>exact False.elim hq
   |cont=>exact False.elim hq
   |ret u=>
    obtain⟨v,H',I2,rv,qt⟩:=I.after hq;obtain⟨d,h',kp,rh',rd,qd⟩:=hQ v H' qt;refine yN I2 (i:=1) (x:= "_law_found") S.nd rfl (.inl l1) rv (λs3 I3=> ?_) (.inr l1);refine K9 (K9 ?_);have hret:JSs (Qc CX0 P w K mg base N1 "_law_said" (jd st) fs cdv A outer s H E) [.Return (some (.Tuple [.Constant (.str "told") j p8,.Name "_law_found" p9] k p10)) p11] (Fd (xk (yf (dC (.str "told")) (yf (Fc 1) VP)))):=
     jg (zC (wP (jac XI (jac (jv 1 rfl (.inl l1)) jc))))
    exact hret.to [] s3 _ H' _ I3 ⟨[none,some d,none,none],h',{nx:=λ_ _=>False,rt:=Qd},⟨rfl,λi d' e=>by
     match i,e with
     |0,e=>cases e
     |1,e=>cases e;exact⟨v,rfl,rd⟩
     |2,e=>cases e
     |3,e=>cases e
     |i+4,e=>simp at e⟩,rh',⟨_,rfl,(by show 2<=sizeLine;decide),qd⟩,λ_ _ _ _ _ _ _ z=>z.elim,jJ post kp,λ_ _ _ _ _ _ _ z=>z.elim,λ_ _ _ _ _ _ _ z=>z.elim⟩
 ·refine callee (CX:=CXR P w) (E':=λc _ H'=> ∃C,c= .ref C/\RT C H') (QT:=λ_ _=>False) (t:=λσ' H' _=>σ'=σ/\H'=H)
   (λpins s2 σ' H' Q' I' ⟨e1,e2⟩=> ?_) ⟨rfl,rfl⟩ λr s2 hq=> ?_
  ·subst e1;subst e2;exact D8 (hR _ _ s1 (hr0.deeper _) pins s2 I') (λ_ _ z=>z.elim) λ_ _ z=>z
  cases r with
  |ok fl=>
   cases fl with
   |next=>exact False.elim hq
   |brk=>exact False.elim hq
   |cont=>exact False.elim hq
   |ret u=>obtain⟨_,_,_,_,_,_,_,z⟩:=hq;exact z.elim
  |error e=>
   obtain⟨x,C',H',rfl,os,bare,un2,hok,fl,C2,eC,rt⟩:=hq;cases eC;obtain⟨c,h',hmc,hcn,kp,rh',qd⟩:=hQ C' H' rt;have I2:=I.call' (ch:= []) os un2 hok bare (λb z=>absurd z (by simp));have f0: ∀b,s1.heap.get? b=none->s.heap.get? b=none:=λb nb=>by
    cases qq:s.heap.get? b with
    |none=>rfl
    |some o=>obtain⟨o',e⟩:=I.base.there b o qq (by intro z;cases z);rw [nb] at e;cases e
   have fl':Fly s.heap H' s2.heap x C':=by
    obtain⟨⟨oe,vs,a0,T,oT,ts,a1,a2,a3,a4,a5,a6,a7,a8,a9,a10,a11⟩,nx,n0⟩:=fl;exact⟨⟨oe,vs,a0,T,oT,ts,a1,a2,a3,a4,a5,a6,a7,a8,a9,a10,f0 _ a11⟩,nx,f0 _ n0⟩
   have hsu:=hsuite cdv A outer s H E x (RoomU.mark ((hr0.mono (G1r n)).u));refine D8 (Sr (X:=Qc CX0 P w K mg base N1 "_law_said" (jd st) fs cdv A outer s H E) (σ:=start N1 [V.ref f]) (i:=2) (n:= "_law_e") (C:=C') (t:=LS K tS) (D:= {nx:=λ_ _=>False,rt:=Q}) ⟨rfl,rfl,rfl⟩ rfl S.nd rfl l2 lp hm (hex c hcn C' hmc) I2 fl' hsu.to λoe vs hc hd=> ?_) (λ_ s3 h3=>D8 h3 (λ_ s4 h4=>D8 h4 (λfl s5 h5=> ?_) λ_ _ z=>z) λ_ _ z=>z) λ_ _ z=>z
   ·refine⟨[none,none,some (.exc C'),none],h',_,⟨rfl,λi d' e=> ?_⟩,rh'.new fl'.nx,hread c hcn C' h' Qd hmc qd,λ_ _ _ _ _ _ _ z=>z.elim,λd v h2 H2 k2 rh2 rd ⟨h3,sb,q3⟩=>post d v h3 H2 ((kp.trans (.new fl'.nx)).trans k2) (rh2.sub sb) rd q3,λ_ _ _ _ _ _ _ z=>z.elim,λ_ _ _ _ _ _ _ z=>z.elim⟩
    match i,e with
    |0,e=>cases e
    |1,e=>cases e
    |3,e=>cases e
    |i+4,e=>simp at e
    |2,e=>cases e;exact⟨.ref x,rfl,x,oe,vs,rfl,jt,hc,hd⟩
   ·cases fl with
    |next=>obtain⟨_,_,_,z⟩:=h5;exact z.elim
    |brk=>obtain⟨_,_,_,z⟩:=h5;exact z.elim
    |cont=>obtain⟨_,_,_,z⟩:=h5;exact z.elim
    |ret u=>exact h5
def jbS (tT:TED)(tR:TXD):TED:=λσ h Q=>tT σ h (λd h'=>Q (.tup [.str "told",d]) h')\/tR σ h (λc h'=>c∈CN/\Q (.tup [.str (Wx c)]) h')
def dNo:TED:=λ_ _ _=>False
theorem jno {X:Cx}{e:Expr}:JE X e dNo:=⟨λ_ _ _ _ _ _ ⟨_,_,_,_,_,z,_⟩=>z.elim⟩
def jcD (sc:Scope):Bool:=sc.kind== .function&& !sc.isCoroutine&& !sc.isGenerator&&sc.names.all λy=>y.2 != .cell&&y.2 != .local
theorem qO {sc:Scope}(hk:sc.kind= .function)(h:jcD sc=true):LamOk sc:=by
 unfold jcD at h;simp only [N0,Bool.not_eq_true',R5,bne_iff_ne,ne_eq] at h;exact⟨hk,h.1.1.2,h.1.2,λy hy=>h.2 y hy⟩
def qP (sc sc':Scope):Bool:=sc.names.all λy=>y.2 != .free||(sc'.names.lookup y.1==some .cell||sc'.names.lookup y.1==some .free)
theorem KN {sc:Scope}{env:Env}(h:qP sc env.scope=true):Og sc env:=λn hn=>by
 have:=R5.mp h _ hn;simp only [bne_self_eq_false,Bool.false_or,Z8,V2] at this;exact this
theorem jbT {X:Cx}{n:Nat}{fs:Addr}{fds:FuncData}{scope:Scope}{body:Expr}{lpos p pos:Pos}{tT:TED}{tR:TXD}{c P:Addr}
 (F:FnOkS X.prog X.w X.K X.mg X.base CX0 (n+2) fs fds ["_law_call"] (Bo X.prog X.w X.K X.mg X.base n))(hr:Room (n+2) X.A)(hg:Gl X "_law_said")(hm:X.mg "_law_said" =some (.ref fs))(hk:keepIn X.K (.ref fs)=true)(hb:Binds X.K fds ["_law_call"] [])
 (B:Bm X.mg X.base)(hcode:X.env.code= .ref c)(hc:codeHdIn X.K c P=true)(hTK:TabK X.K P)(L:LamOk scope)(hfr:Og scope X.env)
 (hT: ∀ (q:Str) (cv:Value) (cl:List (Str×Addr)) (f:Addr) (A:Around) (outer:List Env) (s:Shared) (H:Hp) (E:XK),Room n (A.deeper (envX q scope s.heap.objs.size f cv cl))->JE (cxL CX0 X.prog X.w X.K X.mg X.base X.N q scope f cv cl A outer s H E) body tT)
 (hR: ∀ (q:Str) (cv:Value) (cl:List (Str×Addr)) (f:Addr) (A:Around) (outer:List Env) (s:Shared) (H:Hp) (E:XK),Room n (A.deeper (envX q scope s.heap.objs.size f cv cl))->JXE (cxL (CXR X.prog X.w) X.prog X.w X.K X.mg X.base X.N q scope f cv cl A outer s H E) body tR)
 (he:starEach [Expr.Lambda UU body scope lpos] X.env=(false,eval (.Lambda UU body scope lpos) X.env)::starEach [] X.env:=by rfl)(hpl:(backTo pos (starEach [] X.env)).any (·.1)=false:=by rfl):
 JE X (.Call (.Name "_law_said" p) [.Lambda UU body scope lpos] [] pos) (jbS tT tR):=⟨λpins s σ H Q I ⟨σd,h,Qd,rs,rh,alt,post⟩=>by
 refine A9 (Yd I hg hm ?_ (by decide));refine G0q (h₀:=X.base) I.ok.mod.kin hk ?_ he hpl;rw [he];obtain⟨ps,hP,hps⟩:=rh.tb P hTK;have hcl:closureFor scope X.env=pure (Vf X.env.cells scope.names []):=Ud λn hn=>I.ok.has n (hfr n hn)
 refine V4 (Sh I B hcode hc hP hps hcl λf q qual pm cv ctv H1 h1 tk I1 kp lsts tbls kQ hf hcf hHf _ _ _=>G0A ⟨I1.kIn,?_⟩);have rh1:RelH X.K h H1:=⟨λa ds e=>by
  obtain⟨vs,e1,e2⟩:=rh a ds e;exact⟨vs,lsts _ _ e1,e2.mono kp⟩,λP' hP'=>by
  by_cases z:P'=P
  ·subst z;exact kQ
  ·obtain⟨ps',e1,e2⟩:=rh.tb P' hP';exact⟨ps',tbls _ _ e1 z,e2.mono kp.frz⟩⟩
 have rs1:RelS X.K H1 σd σ:=rs.mono kp;refine KJ (us:= [.ref f]) (vs:= [.ref f]) (dvs:= []) (ds:= []) (E:=E0) F hr hb .nil Hw I1 (.cons rfl .nil) ?_;refine⟨f,_,qual,pm,cv,ctv,Vf X.env.cells scope.names [],q,X.N,σ,scope,body,h,Qd,rfl,hf,rfl,hcf,hHf,L,Cap.of I1 hfr,rh1,jJ post kp,?_⟩;rcases alt with t|t
 ·refine .inl ⟨λv H'=> ∃d h',Kept H1 H'/\RelH X.K h' H'/\RelD X.K H' d v/\Qd (.tup [.str "told",d]) h',λA' outer' s' E' hr'=>⟨_,(hT q cv _ f A' outer' s' H1 E' hr').to,σd,h,_,rs1,rh1,t,λd v h' H' k r1 r2 q=>⟨d,h',k,r1,r2,q⟩⟩,λv H' q=>q⟩
 ·refine .inr ⟨λC H'=> ∃c h',X.mg c=some (.ref C)/\c∈CN/\Kept H1 H'/\RelH X.K h' H'/\Qd (.tup [.str (Wx c)]) h',λA' outer' s' hr' pins2 s2 I2=> ?_,λC H' q=>q⟩;exact(hR q cv _ f A' outer' s' H1 _ hr').to _ qK pins2 s2 σ H1 σd h _ I2 rs1 rh1 t λc C h' H' k rh' hmc ⟨hcn,qq⟩=>⟨C,rfl,c,h',hmc,hcn,k,rh',qq⟩⟩
variable {K:Frag}{x:Str}
theorem Su {f c P:Addr}{oc:Value}{od:Option Addr}{fd:FuncData}{osl:Array (Option Value)}(a:nsIn K mainGlobals x=some (some (.ref f)))(l:K.lookup f=some ⟨oc,od,.func fd,osl⟩)(t:tabIn K x=some (c,P)):fd.code= .ref c:=by
 unfold tabIn at t;rw [a] at t;simp only [l] at t;split at t
 ·rename_i c' hc';split at t
  ·split at t
   ·cases t;exact hc'
   ·cases t
  ·cases t
 ·cases t
def CN13:List Str:= ["NoTable","NoPlace","NoNumber","NoOrder","NoSet","NoWalk","NoLengths","NoWay","Apart","NoRow","NoTables","NoText","TooGreat"]
def adr (K:Frag)(x:Str):Option Addr:=match nsIn K mainGlobals x with
 |some (some (.ref a))=>some a
 |_=>none
def Sv (K:Frag)(C:Addr):Bool:=(clsIn K C).isSome&&findIn K (.ref C) "__getattribute__" ==some (some (.builtin "BaseException.__getattribute__"))&&findIn K (.ref C) "__getattr__" ==some none
 &&findIn K (.ref C) "__class__" ==some (some (.builtin "object.__class__"))&&specialIn K (.builtin "object.__class__") "__get__" ==some (some (.builtin "getset_descriptor.__get__"))
 &&takesIn K (.builtin "object.__class__")==some true&&mroIn K C (.type "object")==some true&&mroIn K C (.type "BaseException")==some true
theorem KO {C:Addr}(h:Sv K C=true):ExcK K C:=by
 unfold Sv at h;simp only [N0,V2] at h;obtain⟨⟨⟨⟨⟨⟨⟨a,b⟩,c⟩,d⟩,e⟩,f⟩,g⟩,i⟩:=h;exact⟨a,b,c,d,e,f,g,i⟩
def TN (K:Frag)(c:Str):Bool:=match adr K c,adr K "PowerError" with
 |some C,some pe=>excIn K C bmV "ValueError.__new__" &&Sv K C&&kitOne K (.ref C) (.type "ValueError")==some true&&exmOne K (.ref C) (.ref pe)==some true&&CN13.all λd=>match adr K d with
  |some D=>kitOne K (.ref C) (.ref D)==some (c==d)
  |none=>false
 |_,_=>false
def jbU (K:Frag):Bool:=CN.all (TN K)&&CN13.all (λd=>(adr K d).isSome)&&(adr K "PowerError").isSome&&nsIn K mainGlobals "ValueError" ==some none
structure Exc (K:Frag)(mg:Str->Option Value):Prop where
 own: ∀c∈CN,OwnX K mg c
 ek: ∀c∈CN,∀C,mg c=some (.ref C)->ExcK K C
 kit: ∀c∈CN,∀d∈CN13,∀C D,mg c=some (.ref C)->mg d=some (.ref D)->kitOne K (.ref C) (.ref D)=some (c==d)
 val: ∀c∈CN,∀C,mg c=some (.ref C)->kitOne K (.ref C) (.type "ValueError")=some true
 pe: ∃pe,mg "PowerError" =some (.ref pe)/\ ∀c∈CN,∀C,mg c=some (.ref C)->exmOne K (.ref C) (.ref pe)=some true
 cls: ∀d∈CN13,∃D,mg d=some (.ref D)
 ve:mg "ValueError" =none
theorem Bp {h:Heap}{a:Addr}(X:K.In h)(G:h.Ns mainGlobals mg)(e:adr K x=some a):mg x=some (.ref a):=by
 unfold adr at e;split at e
 ·rename_i q;cases e;exact mg_of X G q
 ·cases e
theorem qQ {a:Addr}(e:adr K x=some a):nsIn K mainGlobals x=some (some (.ref a)):=by
 unfold adr at e;split at e
 ·rename_i q;cases e;exact q
 ·cases e
theorem qR {h:Heap}(X:K.In h)(G:h.Ns mainGlobals mg)(e:jbU K=true):Exc K mg:=by
 unfold jbU at e;simp only [N0,R5,V2] at e;obtain⟨⟨⟨e1,e2⟩,e3⟩,e4⟩:=e;obtain⟨pe,hpe⟩:=C5.mp e3;have A: ∀c∈CN,∃C,adr K c=some C/\mg c=some (.ref C)/\excIn K C bmV "ValueError.__new__" =true/\Sv K C=true/\kitOne K (.ref C) (.type "ValueError")=some true/\exmOne K (.ref C) (.ref pe)=some true/\ ∀d∈CN13,∀D,adr K d=some D->kitOne K (.ref C) (.ref D)=some (c==d):=λc hc=>by
  have q:=e1 c hc;unfold TN at q;rw [hpe] at q;split at q
  ·rename_i C pe' h1 h2;cases h2;simp only [N0,R5,V2] at q;obtain⟨⟨⟨⟨q1,q2⟩,q3⟩,q4⟩,q5⟩:=q;refine⟨C,h1,Bp X G h1,q1,q2,q3,q4,λd hd D hD=> ?_⟩;have:=q5 d hd;rw [hD] at this;simpa using this
  ·cases q
 have same: ∀ {c:Str} {C C':Addr},mg c=some (.ref C)->mg c=some (.ref C')->C=C':=λa b=>by rw [a] at b;cases b;rfl
 refine⟨λc hc=> ?_,λc hc C h=> ?_,λc hc d hd C D h1 h2=> ?_,λc hc C h=> ?_,⟨pe,Bp X G hpe,λc hc C h=> ?_⟩,λd hd=> ?_,mg_none_of X G e4⟩
 ·obtain⟨C,a,m,q,_⟩:=A c hc;exact⟨C,m,qQ a,q⟩
 ·obtain⟨C',_,m,_,q,_⟩:=A c hc;cases same h m;exact KO q
 ·obtain⟨C',_,m,_,_,_,_,q⟩:=A c hc;cases same h1 m;obtain⟨D',hD⟩:=C5.mp (e2 d hd);cases same h2 (Bp X G hD);exact q d hd D hD
 ·obtain⟨C',_,m,_,_,q,_⟩:=A c hc;cases same h m;exact q
 ·obtain⟨C',_,m,_,_,_,q,_⟩:=A c hc;cases same h m;exact q
 ·obtain⟨D',hD⟩:=C5.mp (e2 d hd);exact⟨D',Bp X G hD⟩
section
variable {P:Program}{w:World}{K:PySem.W.Frag}{mg:Str->Option Value}{base:Heap}
theorem Fun.okJL {x qual:Str}{st:Stmt}{f c Pt:Addr}{fd:FuncData}{N ps:List Str}{k:Nat}{spd:RDn}(F:Fun K x qual st f fd)(a:nsIn K mainGlobals x=some (some (.ref f)))(T:tabIn K x=some (c,Pt))(S:FnScope N ps (jd st))(len: ∀ds h Q,spd ds h Q->ds.length=ps.length)
 (tb:TSD)(hbody: ∀ (A:Around) (outer:List Env) (s:Shared) (H:Hp) (E:XK),Room k (A.deeper (envOfC qual (jd st) s.heap.objs.size f (.ref c)))->JSs (Qc CX0 P w K mg base N qual (jd st) f (.ref c) A outer s H E).nox (zG st) tb)
 (read: ∀ds h Q,spd ds h Q->tb (Me Q) (zU N ds) h):FnOk P w K mg base CX0 (k+1) f fd ps (LSp K spd):=by
 obtain⟨oc,od,kV,doc,pm,an,cdv,ct,osl,rfl,lk,hcd⟩:=F.ex;have e:cdv= .ref c:=Su a lk T;subst e;refine Ho lk hcd S (λvs H Q E h=> ?_) λA outer s H vs Q E hr h=> ?_
 ·obtain⟨ds,h,Qd,r,rh,q,p⟩:=h;rw [<-r.length];exact len _ _ _ q
 ·obtain⟨ds,h,Qd,r,rh,q,p⟩:=h;refine⟨_,((hbody A outer s H E hr).to).nox,zU N ds,h,Me Qd,JP r,rh,read ds h Qd q,λσd' h' σ' H' k rs' rh' ⟨h2,sb,q'⟩=>p .non .non h2 H' k (rh'.sub sb) rfl q',λd v h' H' k rh' r' ⟨h2,sb,q'⟩=>p d v h2 H' k (rh'.sub sb) r' q',λ_ _ _ _ _ _ _ z=>z.elim,λ_ _ _ _ _ _ _ z=>z.elim⟩
end
def qS (P:Program)(w:World)(K:PySem.W.Frag)(mg:Str->Option Value)(base:Heap)(n:Nat):Prop:=
 ∃ (g:Addr) (gd:FuncData),FnOkS P w K mg base CX0 (n+2) g gd ["_law_call"] (Bo P w K mg base n)/\Binds K gd ["_law_call"] []/\PySem.W.keepIn K (.ref g)=true/\mg "_law_said" =some (.ref g)
def KP (K:Frag)(x:Str):Bool:=match tabIn K x with
 |some p=>codeHdIn K p.1 p.2
 |none=>false
theorem KQ (h:KP K x=true): ∃c P,tabIn K x=some (c,P)/\codeHdIn K c P=true:=by
 unfold KP at h;split at h
 ·rename_i p e;exact⟨p.1,p.2,e,h⟩
 ·cases h
def Oo (mg:Str->Option Value):RDn:=λds h Q=> ∃c C,ds= [.exc C]/\c∈CN/\mg c=some (.ref C)/\ ∀h',Sub h h'->Q (.str (Wx c)) h'
end L2
namespace L2
open PySem PySem.Spec PyProof.Rows PySem.SeqAt
theorem Ds {α:Type}{p q:α->Bool}: ∀ {l:List α},(∀x∈l,p x=true->q x=true)->(∃x,x∈l/\p x=false/\q x=true)->l.countP p+1<=l.countP q
 | [],_,⟨_,hx,_⟩=>by cases hx
 |a::l,hm,⟨x,hx,h1,h2⟩=>by
  have hm': ∀x∈l,p x=true->q x=true:=λy hy=>hm y (D0 _ hy)
  have le:l.countP p<=l.countP q:=List.countP_mono_left hm';rw [List.countP_cons,List.countP_cons]
  by_cases z:x=a
  ·subst z;rw [h1,h2];simp;omega
  ·have hx':x∈l:=(P4.mp hx).resolve_left z;have:=Ds hm' ⟨x,hx',h1,h2⟩
   by_cases w:p a=true
   ·rw [w,hm a D4 w];simp;omega
   ·rw [show p a=false by simpa using w];simp;omega
theorem qT {n:Nat}(P:Nat->Nat->Bool)(up: ∀m i,i<n->P m i=true->P (m+1) i=true)(st: ∀m,(∀i,i<n->P (m+1) i=P m i)-> ∀i,i<n->P (m+2) i=P (m+1) i)
 (M:Nat)(hM: ∀m,M<=m-> ∀i,i<n->P m i=true)(ne: ∃i,i<n/\P 0 i=true): ∀i,i<n->P (n-1) i=true:=by
 have key: ∀m,(∀i,i<n->P m i=true)\/m+1<=(List.range n).countP (P m):=by
  intro m
  induction m with
  |zero=>
   obtain⟨i,hi,e⟩:=ne;exact .inr (List.countP_pos_iff.mpr ⟨i,D1.mpr hi,e⟩)
  |succ m ih=>
   rcases ih with ih|ih
   ·exact .inl λi hi=>up m i hi (ih i hi)
   ·by_cases eq: ∀i,i<n->P (m+1) i=P m i
    ·left;have go: ∀t i,i<n->P (m+t+1) i=P (m+t) i:=by
      intro t
      induction t with
      |zero=>exact eq
      |succ t iht=>exact st (m+t) iht
     have all: ∀t i,i<n->P (m+t) i=P m i:=by
      intro t
      induction t with
      |zero=>intro i _;rfl
      |succ t iht=>intro i hi;rw [<-iht i hi];exact go t i hi
     intro i hi;rw [eq i hi,<-all M i hi];exact hM (m+M) (by omega) i hi
    ·right;have ⟨i,hi⟩: ∃i,i<n/\P (m+1) i≠P m i:=O0 λw=>eq λi hi=>O0 λw2=>w ⟨i,hi,w2⟩
     have hf:P m i=false:=by
      cases hp:P m i with
      |false=>rfl
      |true=>exact absurd ((up m i hi.1 hp).trans hp.symm) hi.2
     have ht:P (m+1) i=true:=by
      cases hp:P (m+1) i with
      |true=>rfl
      |false=>exact absurd (hp.trans hf.symm) hi.2
     have:=Ds (l:=List.range n) (p:=P m) (q:=P (m+1)) (λx hx=>up m x (D1.mp hx)) ⟨i,D1.mpr hi.1,hf,ht⟩;omega
 intro i hi;rcases key (n-1) with h|h
 ·exact h i hi
 ·have hle:(List.range n).countP (P (n-1))<=(List.range n).length:=List.countP_le_length;rw [P8] at hle;have:(List.range n).countP (P (n-1))=(List.range n).length:=by rw [P8];omega
  exact List.countP_eq_length.mp this i (D1.mpr hi)
section
variable {n e:Nat}{T:List (List Int)}
instance (k i j:Nat):Decidable (RP n T k i j):=inferInstanceAs (Decidable (ent (wL n T k) i j≠0))
theorem MF (h:Sq n e T)(hn:n<=8)(n2:2<=n){K:Nat}(f: ∀i j,i<n->j<n->RP n T K i j)(f1: ∀i j,i<n->j<n->RP n T (K+1) i j): ∃s c,1<=s/\s<=n-1/\c<n/\RP n T s c c:=by
 refine O0 λz=> ?_
 have drop: ∀m i j,i<n->j<n->n<=m->RP n T m i j->RP n T (m-n) i j:=by
  intro m i j hi hj hm r;obtain⟨v,v0,vm,vl,vr⟩:=LZ h hn m hi hj r;obtain⟨a,b,hab,hbn,eq⟩:=TH (n:=n) (v:=v) λt ht=>vl t (by omega)
  have ha:=vl a (by omega);have p2:RP n T (b-a) (v a) (v a):=by
   have:=Yp h hn vl vr a (b-a) (by omega);rw [show a+(b-a)=b by omega,<-eq] at this;exact this
  have hba:b-a=n:=by
   by_cases w:b-a<=n-1
   ·exact absurd ⟨b-a,v a,by omega,w,ha,p2⟩ z
   ·omega
  have a0:a=0:=by omega
  have bn:b=n:=by omega
  subst a0;subst bn;have p3:=Yp h hn vl vr b (m-b) (by omega);rw [show b+(m-b)=m by omega,vm,<-eq,v0] at p3;exact p3
 have h0:0<n:=by omega
 have mod0: ∀m,RP n T m 0 0->m%n=0:=by
  intro m
  induction m using Nat.strongRecOn with
  |_ m ih=>
   intro r
   by_cases w:m<n
   ·by_cases y:m=0
    ·subst y;exact Nat.zero_mod n
    ·exact absurd ⟨m,0,by omega,by omega,h0,r⟩ z
   ·rw [Nat.mod_eq_sub_mod (by omega)];exact ih (m-n) (by omega) (drop m 0 0 h0 h0 (by omega) r)
 have a:=G0V (mod0 K (f 0 0 h0 h0));have b:=G0V (mod0 (K+1) (f1 0 0 h0 h0));have c:=(Nat.dvd_add_right a).mp b;have:=Nat.le_of_dvd (by decide) c;omega
theorem jdr (h:Sq n e T)(n1:1<=n)(h6:n<=6){K:Nat}(hK:1<=K)(f:zh (wL n T K)=true): ∃k,1<=k/\k<=30/\zh (wL n T k)=true:=by
 have hn:n<=8:=by omega
 have all: ∀m,K<=m-> ∀i j,i<n->j<n->RP n T m i j:=λm hm=>by
  have:=Mz h hn (a:=K) (by omega) f (m-K);rw [show K+(m-K)=m by omega] at this;exact(Ws (h.pow hn m)).mp this
 have pre: ∀j,j<n-> ∃k,k<n/\RP n T 1 k j:=λj hj=>by
  have:=all (K-1+1) (by omega) 0 j (by omega) hj;obtain⟨k,hk,_,r⟩:=(yF h hn (K-1) 1 (by omega) hj).mp this;exact⟨k,hk,r⟩
 have keep: ∀i m t,i<n->(∀j,j<n->RP n T m i j)-> ∀j,j<n->RP n T (m+t) i j:=by
  intro i m t hi r
  induction t with
  |zero=>exact r
  |succ t ih=>intro j hj;obtain⟨k,hk,r1⟩:=pre j hj;exact(yF h hn (m+t) 1 hi hj).mpr ⟨k,hk,ih k hk,r1⟩
 by_cases n2:2<=n
 ·obtain⟨s,c,s1,sn,hc,rc⟩:=MF h hn n2 (all K (G6 _)) (all (K+1) (by omega));have e1: ∀m,s*(m+1)=s+s*m:=λm=>by rw [G0t];omega
  have A:=qT (n:=n) (λm j=>decide (RP n T (s*m) c j)) (λm j hj r=>P0 (by rw [e1];exact(yF h hn s (s*m) hc hj).mpr ⟨c,hc,rc,T7 r⟩))
   (λm eq j hj=>by
    have key: ∀m,RP n T (s*(m+1)) c j↔ ∃k,k<n/\RP n T (s*m) c k/\RP n T s k j:=λm=>by rw [G0t];exact yF h hn (s*m) s hc hj
    have eq2: ∀k,k<n->(RP n T (s*(m+1)) c k↔RP n T (s*m) c k):=λk hk=>by simpa using eq k hk
    have:RP n T (s*(m+1+1)) c j↔RP n T (s*(m+1)) c j:=by
     rw [key (m+1),key m];exact⟨λ⟨k,hk,a,b⟩=>⟨k,hk,(eq2 k hk).mp a,b⟩,λ⟨k,hk,a,b⟩=>⟨k,hk,(eq2 k hk).mpr a,b⟩⟩
    simpa using this) K (λm hm j hj=>P0 (all _ (S1 hm (Nat.le_mul_of_pos_left m s1)) c j hc hj)) ⟨c,hc,P0 (by rw [Nat.mul_zero];exact(vt hc hc).mpr rfl)⟩
  have any_iff: ∀m i,((List.range (m+1)).any (λt=>decide (RP n T t i c))=true)↔ ∃t,t<=m/\RP n T t i c:=λm i=>by
   rw [A8];exact⟨λ⟨t,ht,r⟩=>⟨t,by have:=D1.mp ht;omega,T7 r⟩,λ⟨t,ht,r⟩=>⟨t,D1.mpr (by omega),P0 r⟩⟩
  have stp: ∀m i,i<n->((∃t,t<=m+1/\RP n T t i c)↔(i=c\/ ∃k,k<n/\RP n T 1 i k/\ ∃t,t<=m/\RP n T t k c)):=λm i hi=>by
   constructor
   ·rintro ⟨t,ht,r⟩;cases t with
    |zero=>exact .inl ((vt hi hc).mp r)
    |succ t=>
     rw [X9] at r;obtain⟨k,hk,a,b⟩:=(yF h hn 1 t hi hc).mp r;exact .inr ⟨k,hk,a,t,by omega,b⟩
   ·rintro (r|⟨k,hk,a,t,ht,b⟩)
    ·exact⟨0,by omega,(vt hi hc).mpr r⟩
    ·exact⟨1+t,by omega,(yF h hn 1 t hi hc).mpr ⟨k,hk,a,b⟩⟩
  have beq: ∀ {a b:Bool},(a=true↔b=true)->a=b:=λ{a b} h=>by cases a<;>cases b<;>simp_all
  have B:=qT (n:=n) (λm i=>(List.range (m+1)).any (λt=>decide (RP n T t i c))) (λm i hi r=>by
   obtain⟨t,ht,r⟩:=(any_iff m i).mp r;exact(any_iff (m+1) i).mpr ⟨t,by omega,r⟩)
   (λm eq i hi=>beq (by
    have eq2: ∀k,k<n->((∃t,t<=m+1/\RP n T t k c)↔ ∃t,t<=m/\RP n T t k c):=λk hk=>by
     rw [<-any_iff (m+1) k,<-any_iff m k];have:=eq k hk;rw [this]
    rw [any_iff (m+2) i,any_iff (m+1) i,stp (m+1) i hi,stp m i hi];exact⟨λw=>w.elim .inl λ⟨k,hk,a,b⟩=> .inr ⟨k,hk,a,(eq2 k hk).mp b⟩,λw=>w.elim .inl λ⟨k,hk,a,b⟩=> .inr ⟨k,hk,a,(eq2 k hk).mpr b⟩⟩))
   K (λm hm i hi=>(any_iff m i).mpr ⟨K,hm,all K (G6 _) i c hi hc⟩) ⟨c,hc,(any_iff 0 c).mpr ⟨0,G6 _,(vt hc hc).mpr rfl⟩⟩
  refine⟨(n-1)+s*(n-1),by omega,?_,(Ws (h.pow hn _)).mpr λi j hi hj=> ?_⟩
  ·have a:=Nat.mul_le_mul (show s<=5 by omega) (show n-1<=5 by omega);omega
  ·obtain⟨t,ht,r⟩:=(any_iff (n-1) i).mp (B i hi);have row: ∀j,j<n->RP n T (t+s*(n-1)) i j:=λj hj=>(yF h hn t (s*(n-1)) hi hj).mpr ⟨c,hc,r,T7 (A j hj)⟩
   have:=keep i (t+s*(n-1)) (n-1-t) hi row j hj;rw [show t+s*(n-1)+(n-1-t)=n-1+s*(n-1) by omega] at this;exact this
 ·have hn1:n=1:=by omega
  refine⟨1,G6 _,by decide,(Ws (h.pow hn 1)).mpr λi j hi hj=> ?_⟩;obtain⟨k,hk,r⟩:=pre j hj;rw [show i=k by omega];exact r
end
end L2
namespace L2
open PySem PySem.Spec PyProof.Rows PySem.W
section
variable {X:Cx}{e a b iter:Expr}{es:List Expr}{u:TXD}{pos p:Pos}{rest:List Stmt}
theorem Dt (he:JXE X e u)(hs:starEach (e::es) X.env=(false,eval e X.env)::starEach es X.env)(E:XK)(Z:Rz X E)(pins:List (Addr×Obj))(s:Shared)(σ:St)(H:Hp)(σd:SD)(h:HD)(R:Str->HD->Prop)(I:Inv X pins σ H s)(rs:RelS X.K H σd σ)(rh:RelH X.K h H)(ht:u σd h R)(w:WX X E H R):
 wpAny (model X.prog X.w) X.A (spliced (backTo pos (starEach (e::es) X.env))) (λ_ _=>False) X.xe s:=by
 rw [hs];show wpAny _ _ (spliced ((false,eval e X.env)::backTo pos (starEach es X.env))) _ _ s;exact V4 (D8 (he.to E Z pins s σ H σd h R I rs rh ht w) (λ_ _ z=>z.elim) λ_ _ z=>z)
theorem KR (he:JXE X e u)(hs:starEach (e::es) X.env=(false,eval e X.env)::starEach es X.env:=by rfl):JXE X (.List (e::es) pos) u:=⟨λE Z pins s σ H σd h R I rs rh ht w=>
 wpAny_List_spliced (D8 (Dt he hs E Z pins s σ H σd h R I rs rh ht w) (λ_ _ z=>z.elim) λ_ _ z=>z)⟩
theorem qU (ha:JXE X a u):JXE X (.Subscript a b pos) u:=⟨λE Z pins s σ H σd h R I rs rh ht w=>
 Subscript_ (D8 (ha.to E Z pins s σ H σd h R I rs rh ht w) (λ_ _ z=>z.elim) λ_ _ z=>z)⟩
theorem KS (hg:Gl X "enumerate")(hm:X.mg "enumerate" =none)(ha:JXE X a u)(hs:starEach [a] X.env= [(false,eval a X.env)]:=by rfl):JXE X (.Call (.Name "enumerate" p) [a] [] pos) u:=⟨λE Z pins s σ H σd h R I rs rh ht w=>
 Call_ (vW I hg hm (show bootBuiltins "enumerate" =some (.type "enumerate") by decide +kernel) (T4 (D8 (Dt ha (by rw [hs];rfl) E Z pins s σ H σd h R I rs rh ht w) (λ_ _ z=>z.elim) λ_ _ z=>z) hs rfl))⟩
theorem qV {tg:Expr}{body:List Stmt}(hi:JXE X iter u)(hs: ∀x,foldedSetIterable iter X.env x=pure x:=by intro _;rfl):JX X (.For tg iter body [] pos::rest) u:=⟨λE Z pins s σ H σd h R I rs rh ht w=>
 C0 (wpAny_For (D8 (hi.to E Z pins s σ H σd h R I rs rh ht w) (λ_ _ z=>z.elim) λ_ _ z=>z) hs)⟩
end
end L2
namespace L2
open PySem PySem.Spec PyProof.Rows PySem.SeqAt
section
variable {n e:Nat}{T:List (List Int)}
theorem Op (h:Sq n e T)(hn:n<=8){k:Nat}:zh (wL n T k)=true↔ ∀i j,i<n->j<n->RP n T k i j:=Ws (h.pow hn k)
theorem Bq (h:Sq n e T)(hn:n<=8){i j:Nat}:RP n T 1 i j↔ent T i j≠0:=by unfold RP;rw [Ls h hn]
end
def gT3 (i j k:Nat):TGD:=λd σ h Q=> ∃x y z,d= .tup [x,y,z]/\Q (((σ.set i (some x)).set j (some y)).set k (some z)) h
theorem jbV {K:PySem.W.Frag}(i j k:Nat): ∀v σ H Q,LG K (gT3 i j k) v σ H Q->jay K 3 (Pw (vX i) (Pw (vX j) (Pw (vX k) jax))) v σ H Q:=λv σ H Q ⟨d,σd,h,Qd,r,rs,rh,⟨x,y,z,e,q⟩,p⟩=>by
 subst e;obtain⟨a,vs,e,hH,rr⟩:=(show ∃a vs,v= .ref a/\H a=some (.tup vs)/\RelDs K H [x,y,z] vs from r);subst e;obtain⟨v1,vr,e1,r1,rr⟩:=(show ∃v r,vs=v::r/\RelD K H x v/\RelDs K H [y,z] r from rr);obtain⟨v2,v3,e2,r2,r3⟩:=yD rr;subst e1 e2;exact⟨a,[v1,v2,v3],rfl,SqT.of hH,rfl,v1,[v2,v3],rfl,v2,[v3],rfl,v3,[],rfl,rfl,p _ _ _ _ (.refl H) (((rs.set r1 i).set r2 j).set r3 k) rh q⟩
section
variable {X:Cx}{pos:Pos}
theorem jbW {i j l:Nat}{x y z:Str}{p1 p2 p3:Pos}{k:Nat}(hc:X.calm=true)(hN:X.N.Nodup)(hi:X.N[i]? =some x)(hj:X.N[j]? =some y)(hl:X.N[l]? =some z)(hx:Loc X.env.scope x)(hy:Loc X.env.scope y)(hz:Loc X.env.scope z)
 (hf:X.fn x=true\/X.env.scope.names.lookup x=some .local:=by first|exact .inl rfl|exact .inr rfl|assumption)(hf2:X.fn y=true\/X.env.scope.names.lookup y=some .local:=by first|exact .inl rfl|exact .inr rfl|assumption)(hf3:X.fn z=true\/X.env.scope.names.lookup z=some .local:=by first|exact .inl rfl|exact .inr rfl|assumption):
 JG X (.Tuple [.Name x p1,.Name y p2,.Name z p3] k pos) (gT3 i j l):=⟨(Fv hc (vk (vY hN hi hx hf) (vk (vY hN hj hy hf2) (vk (vY hN hl hz hf3) Mi)))).imp (jbV i j l)⟩
end
def wB (f:Nat->Int):List Nat->Int->Nat×Int
 | [],m=>(0,m)
 |j::l,m=>if f j<=m then wB f l (m-f j) else (j,m)
theorem JU {f:Nat->Int}(nn: ∀j,0<=f j): ∀ {l:List Nat} {m:Int},0<=m->m<(l.map f).sum-> ∃l1 l2,l=l1++(wB f l m).1::l2/\m=(l1.map f).sum+(wB f l m).2/\0<=(wB f l m).2/\(wB f l m).2<f (wB f l m).1
 | [],m,h0,h=>by simp at h;omega
 |j::l,m,h0,h=>by
  unfold wB
  by_cases z:f j<=m
  ·rw [if_pos z];rw [R9,Q9] at h;obtain⟨l1,l2,e,s,a,b⟩:=JU nn (l:=l) (m:=m-f j) (by omega) (by omega);exact⟨j::l1,l2,by rw [B0,<-e],by rw [R9,Q9];omega,a,b⟩
  ·rw [if_neg z];exact⟨[],l,rfl,by simp,h0,by show m<f j;omega⟩
section
variable (T:List (List Int))(n o:Nat)
def wn:Nat->Nat->Int->List Nat
 |0,p,_=> [p]
 |t+1,p,m=>p::wn t (wB (cnt T n o t) (vb T n p) m).1 (wB (cnt T n o t) (vb T n p) m).2
def gpN (k one:Nat)(m:Int):Nat->Nat×Int
 |0=>(one,m)
 |i+1=>wB (cnt T n o (k-1-i)) (vb T n (gpN k one m i).1) (gpN k one m i).2
def gwN (k one:Nat)(m:Int)(i:Nat):List Nat:=(List.range (i+1)).map λt=>(gpN T n o k one m t).1
end
section
variable {T:List (List Int)}{n o:Nat}
theorem Du (k p:Nat)(m:Int): ∀i,gpN T n o (k+1) p m (i+1)=gpN T n o k (wB (cnt T n o k) (vb T n p) m).1 (wB (cnt T n o k) (vb T n p) m).2 i
 |0=>by
  show wB (cnt T n o (k+1-1-0)) (vb T n p) m=(_,_);rw [show k+1-1-0=k by omega]
 |i+1=>by
  show wB (cnt T n o (k+1-1-(i+1))) (vb T n (gpN T n o (k+1) p m (i+1)).1) (gpN T n o (k+1) p m (i+1)).2=wB (cnt T n o (k-1-i)) _ _;rw [Du k p m i,show k+1-1-(i+1)=k-1-i by omega]
theorem Oq: ∀ (k p:Nat) (m:Int),gwN T n o k p m k=wn T n o k p m
 |0,p,m=>rfl
 |k+1,p,m=>by
  unfold gwN;rw [K1,R9,S3];show p::_=p::_
  congr 1
  rw [<-Oq k];unfold gwN;refine M5 λi _=> ?_
  show (gpN T n o (k+1) p m (i+1)).1=_;rw [Du]
theorem Os {k one:Nat}{m:Int}(h1:one<n)(h0:0<=m)(h:m<cnt T n o k one): ∀i,i<=k->(gpN T n o k one m i).1<n/\0<=(gpN T n o k one m i).2/\(gpN T n o k one m i).2<cnt T n o (k-i) (gpN T n o k one m i).1
 |0,_=>⟨h1,h0,h⟩
 |i+1,hi=>by
  obtain⟨a,b,c⟩:=Os h1 h0 h i (by omega);rw [show k-i=(k-1-i)+1 by omega] at c;obtain⟨l1,l2,e,s,x,y⟩:=JU (f:=cnt T n o (k-1-i)) (λj=>Uc _ j) b c;refine⟨Bl (p:=(gpN T n o k one m i).1) (by rw [e];simp [gpN]),x,?_⟩;rw [show k-(i+1)=k-1-i by omega];exact y
theorem MG (t p:Nat)(m:Int): ∃r,wn T n o t p m=p::r/\r.length=t:=by
 induction t generalizing p m with
 |zero=>exact⟨[],rfl,rfl⟩
 |succ t ih=>
  obtain⟨r,e,l⟩:=ih (wB (cnt T n o t) (vb T n p) m).1 (wB (cnt T n o t) (vb T n p) m).2;exact⟨_,rfl,by rw [e,D2,l]⟩
theorem qW {k one:Nat}{m:Int}(h1:one<n)(h0:0<=m)(h:m<cnt T n o k one): ∀x∈wn T n o k one m,x<n:=λx hx=>by
 rw [<-Oq] at hx;obtain⟨t,ht,rfl⟩:=R3.mp hx;exact(Os h1 h0 h t (by have:=D1.mp ht;omega)).1
theorem qX (t p:Nat)(m:Int):(wn T n o t p m).length=t+1:=by
 obtain⟨r,e,l⟩:=MG (T:=T) (n:=n) (o:=o) t p m;rw [e,D2,l]
theorem Ot: ∀ (t p:Nat) {m:Int},0<=m->m<cnt T n o t p->(wn T n o t p m)[t]? =some o
 |0,p,m,h0,h=>by
  have h':m<if p=o then 1 else 0:=h
  by_cases z:p=o
  ·rw [z];rfl
  ·rw [if_neg z] at h';omega
 |t+1,p,m,h0,h=>by
  obtain⟨l1,l2,e,s,a,b⟩:=JU (f:=cnt T n o t) (λj=>Uc t j) h0 h;exact Ot t _ a b
theorem Ou: ∀ (t p:Nat) {m:Int},0<=m->m<cnt T n o t p->Do T (wn T n o t p m)=true
 |0,p,m,h0,h=>rfl
 |t+1,p,m,h0,h=>by
  obtain⟨l1,l2,e,s,a,b⟩:=JU (f:=cnt T n o t) (λj=>Uc t j) h0 h;have ih:=Ou t _ a b;show Do T (p::wn T n o t (wB (cnt T n o t) (vb T n p) m).1 (wB (cnt T n o t) (vb T n p) m).2)=true;generalize (wB (cnt T n o t) (vb T n p) m).1=j at*
  generalize (wB (cnt T n o t) (vb T n p) m).2=m' at*
  obtain⟨r,er,lr⟩:=MG (T:=T) (n:=n) (o:=o) t j m';have hj:ent T p j>0:=T7 (C6.mp (show j∈vb T n p by rw [e];simp)).2;rw [er] at ih ⊢;unfold Do at ih ⊢;simp only [List.drop_succ_cons,G0w,K3,G1l,List.isEmpty_cons,Bool.not_false,Z5] at ih ⊢;rw [P0 hj,ih];rfl
end
end L2
namespace L2
inductive Made (L:List Nat):Nat->Prop
 |z:Made L 0
 |s {n l:Nat}:Made L n->l∈L->Made L (n+l)
end L2
namespace HT
open PySem PyProof.Rows
section
variable {prog:Program}{w:World}{A:Around}{E:Value->Shared->Prop}{σ α β:Type}{J:Shared->Prop}
def Tm (prog:Program)(w:World)(A:Around)(E:Value->Shared->Prop)(J:Shared->Prop){σ α:Type}(m:StateT σ Sem α)(Q:α->σ->Prop)(st:σ):Prop:=
 ∀s,J s->wpAny (model prog w) A (m.run st) (λr s'=>Q r.1 r.2/\J s') E s
theorem Tm.pure {a:α}{Q:α->σ->Prop}{st:σ}(h:Q a st):Tm prog w A E J (Pure.pure a:StateT σ Sem α) Q st:=λs j=>by
 rw [StateT.run_pure];exact G9 ⟨h,j⟩
theorem Tm.bind {m:StateT σ Sem α}{f:α->StateT σ Sem β}{Q:β->σ->Prop}{st:σ}(h:Tm prog w A E J m (λa st'=>Tm prog w A E J (f a) Q st') st):Tm prog w A E J (m >>= f) Q st:=λs j=>by
 rw [StateT.run_bind];exact wpAny_bind (D8 (h s j) (λr s' x=>x.1 s' x.2) λ_ _ e=>e)
theorem Tm.get {Q:σ->σ->Prop}{st:σ}(h:Q st st):Tm prog w A E J (MonadState.get:StateT σ Sem σ) Q st:=λs j=>by
 show wpAny _ _ ((StateT.get:StateT σ Sem σ).run st) _ _ _;exact G9 ⟨h,j⟩
theorem Tm.mono {m:StateT σ Sem α}{Q Q':α->σ->Prop}{st:σ}(h:Tm prog w A E J m Q st)(q: ∀a st',Q a st'->Q' a st'):Tm prog w A E J m Q' st:=λs j=>
 D8 (h s j) (λr s' x=>⟨q _ _ x.1,x.2⟩) λ_ _ e=>e
theorem Tm.range' {f:Nat->β->StateT σ Sem (ForInStep β)}(I:Nat->β->σ->Prop){Q:β->σ->Prop}{b:Nat}(step: ∀i c st,i<b->I i c st->Tm prog w A E J (f i c) (λr st'=>match r with| .done c'=>Q c' st'| .yield c'=>I (i+1) c' st') st)(fin: ∀c st,I b c st->Q c st):
 ∀ (k i:Nat) (c:β) (st:σ),i+k=b->I i c st->Tm prog w A E J (forIn (List.range' i k) c f) Q st
 |0,i,c,st,e,h=>by
  rw [List.range'_zero,List.forIn_nil];exact .pure (fin c st (by rw [<-e];exact h))
 |k+1,i,c,st,e,h=>by
  rw [G0Q,V7];refine .bind ((step i c st (by omega) h).mono λr st' x=> ?_);cases r with
  |done c'=>exact .pure x
  |yield c'=>exact Tm.range' I step fin k (i+1) c' st' (by omega) x
theorem Tm.range {f:Nat->β->StateT σ Sem (ForInStep β)}(I:Nat->β->σ->Prop){Q:β->σ->Prop}{a b:Nat}{c:β}{st:σ}(hab:a<=b)(h:I a c st)(step: ∀i c st,i<b->I i c st->Tm prog w A E J (f i c) (λr st'=>match r with| .done c'=>Q c' st'| .yield c'=>I (i+1) c' st') st)(fin: ∀c st,I b c st->Q c st):
 Tm prog w A E J (forIn [a:b] c f) Q st:=λs j=>by
 rw [Q8];have e:([a:b]:Std.Legacy.Range).size=b-a:=by simp [Std.Legacy.Range.size]
 rw [e];exact Tm.range' I step fin (b-a) a c st (by omega) h s j
end
section
variable {prog:Program}{w:World}{A:Around}{E:Value->Shared->Prop}{J:Shared->Prop}{κ:SortKind}{U:Keyed->Prop}{R:Keyed->Keyed->Bool}
def QF (prog:Program)(w:World)(A:Around)(J:Shared->Prop)(κ:SortKind)(U:Keyed->Prop)(R:Keyed->Keyed->Bool):Prop:=
 ∀x y,U x->U y-> ∀s,J s->wpAny (model prog w) A (keyLt' κ x.1 y.1) (λb s'=>b=R x y/\J s') (λ_ _=>False) s
theorem Tm.lt {x y:Keyed}{st:SortSt}{Q:Option Bool->SortSt->Prop}(a:QF prog w A J κ U R)(k:kindOf st=κ)(hx:U x)(hy:U y)(q:Q (some (R x y)) st):Tm prog w A E J (lt' x y) Q st:=by
 rw [lt'_eq];refine .bind (.get ?_);rw [k];intro s j;rw [StateT.run_bind];refine wpAny_bind ?_;show wpAny _ _ ((StateT.lift _:StateT SortSt Sem _).run st) _ _ _;rw [StateT.run_lift];refine wpAny_bind (G0K (D8 (a x y hx hy s j) (λb s' x=> ?_) λ_ _ e=>e.elim));obtain⟨rfl,j'⟩:=x;exact G9 (Tm.pure (prog:=prog) (w:=w) (A:=A) (E:=E) (J:=J) q s' j')
theorem Tm.elem {arr:Array Keyed}{i:Nat}{x:Keyed}{st:SortSt}{Q:Keyed->SortSt->Prop}(e:arr[i]? =some x)(q:Q x st):Tm prog w A E J (elem' arr i) Q st:=by
 rw [elem'_eq,e];exact .pure q
theorem qY {n lo hi:Nat}{g:Nat->Bool}{st:SortSt}{f:Nat->Option (Option Nat)×Nat×Nat->StateT SortSt Sem (ForInStep (Option (Option Nat)×Nat×Nat))}(anti: ∀i j,i<=j->j<n->g j=true->g i=true)
 (h1:lo<=hi)(h2:hi<=n)(a1: ∀i,i<lo->g i=true)(a2: ∀i,hi<=i->i<n->g i=false)
 (stop: ∀i l,Tm prog w A E J (f i (none,l,l)) (λr st'=>st'=st/\r= .done (none,l,l)) st)
 (step: ∀i l u,l<u->u<=n->Tm prog w A E J (f i (none,l,u)) (λr st'=>st'=st/\r=if g (l+(u-l) / 2)=true then .yield (none,l+(u-l) / 2+1,u) else .yield (none,l,l+(u-l) / 2)) st):
 Tm prog w A E J (forIn [0:n] (none,lo,hi) f) (λc st'=>st'=st/\c.1=none/\c.2.2<=n/\(∀i,i<c.2.2->g i=true)/\ ∀i,c.2.2<=i->i<n->g i=false) st:=by
 have no: ∀i j,i<=j->j<n->g i=false->g j=false:=λi j hij hj z=>by
  cases hb:g j with
  |false=>rfl
  |true=>rw [anti i j hij hj hb] at z;cases z
 refine Tm.range (λi c st'=>st'=st/\c.1=none/\c.2.1<=c.2.2/\c.2.2<=n/\(∀i,i<c.2.1->g i=true)/\(∀i,c.2.2<=i->i<n->g i=false)/\c.2.2-c.2.1+i<=n) (Nat.zero_le _) ⟨rfl,rfl,h1,h2,a1,a2,by dsimp only;omega⟩ ?_ ?_
 ·rintro i ⟨r,l,u⟩ _ hi ⟨rfl,hr,b1,b2,b3,b4,b5⟩;dsimp only at hr b1 b2 b3 b4 b5;subst hr
  by_cases z:l=u
  ·subst z;refine(stop i l).mono ?_;rintro _ _ ⟨rfl,rfl⟩;exact⟨rfl,rfl,b2,b3,b4⟩
  ·refine(step i l u (by omega) b2).mono ?_;rintro _ _ ⟨rfl,rfl⟩;cases hg:g (l+(u-l) / 2) with
   |true=>
    rw [if_pos rfl];exact⟨rfl,rfl,by dsimp only;omega,b2,λj hj=>anti j _ (by dsimp only at hj;omega) (by omega) hg,b4,by dsimp only;omega⟩
   |false=>
    rw [if_neg (by decide)];exact⟨rfl,rfl,by dsimp only;omega,by dsimp only;omega,b3,λj hj hn=>no _ j hj hn hg,by dsimp only;omega⟩
 ·rintro ⟨r,l,u⟩ _ ⟨rfl,hr,b1,b2,b3,b4,b5⟩;dsimp only at hr b1 b2 b3 b4 b5 ⊢;exact⟨rfl,hr,b2,λj hj=>b3 j (by omega),b4⟩
def gal:Bool->Keyed->Array Keyed->Nat->Nat->Nat->StateT SortSt Sem (Option Nat):=sortPriv% PySem.Builtin.gallop
def byd (R:Keyed->Keyed->Bool)(left:Bool)(key:Keyed)(arr:Array Keyed)(base i:Nat):Bool:=
 match arr[base+i]? with
 |some x=>if left=true then R x key else !R key x
 |none=>false
theorem Ov {left:Bool}{key:Keyed}{arr:Array Keyed}{base n hint:Nat}{st:SortSt}{Q:Option Nat->SortSt->Prop}(a:QF prog w A J κ U R)(k:kindOf st=κ)(uk:U key)(ua: ∀i,i<n-> ∃x,arr[base+i]? =some x/\U x)
 (anti: ∀i j,i<=j->j<n->byd R left key arr base j=true->byd R left key arr base i=true)(hh:hint<n)
 (q: ∀m,m<=n->(∀i,i<m->byd R left key arr base i=true)->(∀i,m<=i->i<n->byd R left key arr base i=false)->Q (some m) st):Tm prog w A E J (gal left key arr base n hint) Q st:=by
 have ask: ∀i (Q':Option Bool->SortSt->Prop),i<n->Q' (some (byd R left key arr base i)) st->Tm prog w A E J (do let x <-elem' arr (base+i);if left=true then lt' x key else do let b <-lt' key x;Pure.pure (b.map λz=> !z)) Q' st:=λi Q' hi q'=>by
  obtain⟨x,ex,ux⟩:=ua i hi;refine .bind (.elem ex ?_);unfold byd at q';rw [ex] at q';cases left with
  |true=>exact .lt a k ux uk q'
  |false=>exact .bind (.lt a k uk ux (.pure q'))
 have no: ∀i j,i<=j->j<n->byd R left key arr base i=false->byd R left key arr base j=false:=λi j hij hj z=>by
  cases hb:byd R left key arr base j with
  |false=>rfl
  |true=>rw [anti i j hij hj hb] at z;cases z
 unfold gal;refine .bind (ask hint _ hh ?_);dsimp only;cases hb:byd R left key arr base hint with
 |true=>
  rw [if_pos rfl];refine .bind (Tm.mono (Tm.range (λi c st'=>st'=st/\c.1=none/\c.2.1<c.2.2/\hint+c.2.1<n/\byd R left key arr base (hint+c.2.1)=true/\i+1<=c.2.2)
   (Q:=λc st'=>st'=st/\c.1=none/\c.2.1<c.2.2/\hint+c.2.1<n/\byd R left key arr base (hint+c.2.1)=true/\(n-hint<=c.2.2\/byd R left key arr base (hint+c.2.2)=false)) (T5 _) ⟨rfl,rfl,by decide,by omega,by simpa using hb,by decide⟩ ?_ ?_) ?_)
  ·rintro i ⟨r,lo,of⟩ _ hi ⟨rfl,hr,h1,h2,h3,h4⟩;dsimp only at hr h1 h2 h3 h4 ⊢;subst hr
   by_cases z:of>=n-hint
   ·rw [if_pos z];exact .pure ⟨rfl,rfl,h1,h2,h3,.inl z⟩
   ·rw [if_neg z];refine .bind (ask (hint+of) _ (by omega) ?_);dsimp only;cases hc:byd R left key arr base (hint+of) with
    |true=>exact .pure ⟨rfl,rfl,by dsimp only;omega,by dsimp only;omega,hc,by dsimp only;omega⟩
    |false=>exact .pure ⟨rfl,rfl,h1,h2,h3,.inr hc⟩
  ·rintro ⟨r,lo,of⟩ _ ⟨rfl,hr,h1,h2,h3,h4⟩;exact⟨rfl,hr,h1,h2,h3,.inl (by dsimp only at h4 ⊢;omega)⟩
  ·rintro ⟨r,lo,of⟩ _ ⟨rfl,hr,h1,h2,h3,h4⟩;dsimp only at hr h1 h2 h3 h4 ⊢;subst hr;dsimp only;refine .bind (Tm.mono (qY (g:=byd R left key arr base) anti (by omega) (by omega) (λi hi=>anti i _ (by omega) h2 h3) (λi hi hn=> ?_) (λi l=> ?_) (λi l u hl hu=> ?_)) ?_)
   ·rcases h4 with z|z
    ·omega
    ·exact no (hint+of) i (by omega) hn z
   ·rw [if_pos (G6 l)];exact .pure ⟨rfl,rfl⟩
   ·rw [if_neg (show ¬l>=u by omega)];refine .bind (ask (l+(u-l) / 2) _ (by omega) ?_);dsimp only;cases byd R left key arr base (l+(u-l) / 2)<;>exact .pure ⟨rfl,rfl⟩
   ·rintro ⟨r,l,u⟩ _ ⟨rfl,hr,b2,b3,b4⟩;dsimp only at hr b2 b3 b4 ⊢;subst hr;exact .pure (q u b2 b3 b4)
 |false=>
  rw [if_neg (by decide)];refine .bind (Tm.mono (Tm.range (λi c st'=>st'=st/\c.1=none/\c.2.1<c.2.2/\c.2.1<=hint/\byd R left key arr base (hint-c.2.1)=false/\i+1<=c.2.2)
   (Q:=λc st'=>st'=st/\c.1=none/\c.2.1<c.2.2/\c.2.1<=hint/\byd R left key arr base (hint-c.2.1)=false/\(hint+1<=c.2.2\/byd R left key arr base (hint-c.2.2)=true)) (Nat.zero_le _) ⟨rfl,rfl,by decide,by dsimp only;omega,by simpa using hb,by decide⟩ ?_ ?_) ?_)
  ·rintro i ⟨r,lo,of⟩ _ hi ⟨rfl,hr,h1,h2,h3,h4⟩;dsimp only at hr h1 h2 h3 h4 ⊢;subst hr
   by_cases z:of>=hint+1
   ·rw [if_pos z];exact .pure ⟨rfl,rfl,h1,h2,h3,.inl z⟩
   ·rw [if_neg z];refine .bind (ask (hint-of) _ (by omega) ?_);dsimp only;cases hc:byd R left key arr base (hint-of) with
    |false=>exact .pure ⟨rfl,rfl,by dsimp only;omega,by dsimp only;omega,hc,by dsimp only;omega⟩
    |true=>exact .pure ⟨rfl,rfl,h1,h2,h3,.inr hc⟩
  ·rintro ⟨r,lo,of⟩ _ ⟨rfl,hr,h1,h2,h3,h4⟩;exact⟨rfl,hr,h1,h2,h3,.inl (by dsimp only at h4 ⊢;omega)⟩
  ·rintro ⟨r,lo,of⟩ _ ⟨rfl,hr,h1,h2,h3,h4⟩;dsimp only at hr h1 h2 h3 h4 ⊢;subst hr;dsimp only;refine .bind (Tm.mono (qY (g:=byd R left key arr base) anti (by omega) (by omega) (λi hi=> ?_) (λi hi hn=>no _ i hi hn h3) (λi l=> ?_) (λi l u hl hu=> ?_)) ?_)
   ·rcases h4 with z|z
    ·omega
    ·exact anti i (hint-of) (by omega) (by omega) z
   ·rw [if_pos (G6 l)];exact .pure ⟨rfl,rfl⟩
   ·rw [if_neg (show ¬l>=u by omega)];refine .bind (ask (l+(u-l) / 2) _ (by omega) ?_);dsimp only;cases byd R left key arr base (l+(u-l) / 2)<;>exact .pure ⟨rfl,rfl⟩
   ·rintro ⟨r,l,u⟩ _ ⟨rfl,hr,b2,b3,b4⟩;dsimp only at hr b2 b3 b4 ⊢;subst hr;exact .pure (q u b2 b3 b4)
end
section
variable {κ:Type}{U:κ->Prop}{R:κ->κ->Bool}{al bl:List κ}
structure Ordd (U:κ->Prop)(R:κ->κ->Bool):Prop where
 asym: ∀x y,U x->U y->R x y=true->R y x=false
 neg: ∀x y z,U x->U y->U z->R x z=true->R x y=true\/R y z=true
theorem Ordd.refl (o:Ordd U R){x:κ}(u:U x):R x x=false:=by
 cases h:R x x with
 |false=>rfl
 |true=>have:=o.asym x x u u h;rw [h] at this;exact this
theorem Ordd.trans (o:Ordd U R){x y z:κ}(ux:U x)(uy:U y)(uz:U z)(a:R y x=false)(b:R z y=false):R z x=false:=by
 cases h:R z x with
 |false=>rfl
 |true=>
  rcases o.neg z y x uz uy ux h with z|z
  ·rw [b] at z;cases z
  ·rw [a] at z;cases z
abbrev Srt (R:κ->κ->Bool)(l:List κ):Prop:=l.Pairwise λx y=>R y x=false
structure MI (R:κ->κ->Bool)(al bl:List κ)(ia ib:Nat)(out:List κ):Prop where
 perm:out.Perm (al.take ia++bl.take ib)
 srt:Srt R out
 ra: ∀x∈out,∀y∈al.drop ia,R y x=false
 rb: ∀x∈out,∀y∈bl.drop ib,R y x=false
theorem zV {l:List κ}{i:Nat}{y:κ}(h:l[i]? =some y):l.drop i=y::l.drop (i+1):=by
 obtain⟨hi,e⟩:=G3.mp h;rw [G0x hi,e]
theorem Uf {l:List κ}{i:Nat}{y:κ}(h:l[i]? =some y):l.take (i+1)=l.take i++ [y]:=by
 rw [M1,h];rfl
theorem MI.start (al bl:List κ):MI R al bl 0 0 []:=⟨.refl _,.nil,λx hx=>(S8 hx).elim,λx hx=>(S8 hx).elim⟩
variable {ia ib:Nat}
theorem MI.pushB {out:List κ}{y:κ}(m:MI R al bl ia ib out)(o:Ordd U R)(ua: ∀x∈al,U x)(ub: ∀x∈bl,U x)(sa:Srt R al)(sb:Srt R bl)(hy:bl[ib]? =some y)(lt: ∀z,al[ia]? =some z->R y z=true):MI R al bl ia (ib+1) (out++ [y]):=by
 have dy:=zV hy;have uy:=ub y (G5 hy);have sdb:Srt R (bl.drop ib):=sb.sublist (L5 _ _);rw [dy] at sdb;refine⟨?_,?_,λx hx z hz=> ?_,λx hx z hz=> ?_⟩
 ·rw [Uf hy,<-P2];exact m.perm.append_right _
 ·refine S2.mpr ⟨m.srt,N7 _ _,λx hx z hz=> ?_⟩;rw [G7.mp hz];exact m.rb x hx y (by rw [dy];exact D4 ..)
 ·rcases D6.mp hx with w|w
  ·exact m.ra x w z hz
  ·rw [G7.mp w];cases e:al[ia]? with
   |none=>rw [M7 (G0y.mp e)] at hz;cases hz
   |some a0=>
    have da:=zV e;have ua0:=ua a0 (G5 e);have sda:Srt R (al.drop ia):=sa.sublist (L5 _ _);rw [da] at sda hz;have l0:=o.asym y a0 uy ua0 (lt a0 e);rcases P4.mp hz with v|v
    ·rw [v];exact l0
    ·exact o.trans uy ua0 (ua z (T9 v)) l0 ((K7.mp sda).1 z v)
 ·rcases D6.mp hx with w|w
  ·exact m.rb x w z (by rw [dy];exact D0 _ hz)
  ·rw [G7.mp w];exact(K7.mp sdb).1 z hz
theorem MI.pushA {out:List κ}{y:κ}(m:MI R al bl ia ib out)(o:Ordd U R)(ua: ∀x∈al,U x)(ub: ∀x∈bl,U x)(sa:Srt R al)(sb:Srt R bl)(hy:al[ia]? =some y)(ge: ∀z,bl[ib]? =some z->R z y=false):MI R al bl (ia+1) ib (out++ [y]):=by
 have dy:=zV hy;have uy:=ua y (G5 hy);have sda:Srt R (al.drop ia):=sa.sublist (L5 _ _);rw [dy] at sda;refine⟨?_,?_,λx hx z hz=> ?_,λx hx z hz=> ?_⟩
 ·rw [Uf hy];refine(m.perm.append_right [y]).trans ?_;rw [P2,P2];exact(Q5).append_left _
 ·refine S2.mpr ⟨m.srt,N7 _ _,λx hx z hz=> ?_⟩;rw [G7.mp hz];exact m.ra x hx y (by rw [dy];exact D4 ..)
 ·rcases D6.mp hx with w|w
  ·exact m.ra x w z (by rw [dy];exact D0 _ hz)
  ·rw [G7.mp w];exact(K7.mp sda).1 z hz
 ·rcases D6.mp hx with w|w
  ·exact m.rb x w z hz
  ·rw [G7.mp w];cases e:bl[ib]? with
   |none=>rw [M7 (G0y.mp e)] at hz;cases hz
   |some b0=>
    have db:=zV e;have ub0:=ub b0 (G5 e);have sdb:Srt R (bl.drop ib):=sb.sublist (L5 _ _);rw [db] at sdb hz;have l0:=ge b0 e;rcases P4.mp hz with v|v
    ·rw [v];exact l0
    ·exact o.trans uy ub0 (ub z (T9 v)) l0 ((K7.mp sdb).1 z v)
theorem MI.manyA (o:Ordd U R)(ua: ∀x∈al,U x)(ub: ∀x∈bl,U x)(sa:Srt R al)(sb:Srt R bl): ∀ (k:Nat) {ia:Nat} {out:List κ},MI R al bl ia ib out->ia+k<=al.length->(∀i,i<k-> ∀y,al[ia+i]? =some y-> ∀z,bl[ib]? =some z->R z y=false)->MI R al bl (ia+k) ib (out++(al.drop ia).take k)
 |0,ia,out,m,_,_=>by rw [G1c,C7];exact m
 |k+1,ia,out,m,hk,h=>by
  obtain⟨y,hy⟩: ∃y,al[ia]? =some y:=⟨_,G0 (by omega)⟩;have m1:=m.pushA o ua ub sa sb hy (h 0 (by omega) y hy);have:=MI.manyA o ua ub sa sb k m1 (by omega) (λi hi y hy=>h (i+1) (by omega) y (by rw [show ia+(i+1)=ia+1+i by omega];exact hy));rw [show ia+(k+1)=ia+1+k by omega,zV hy,G1j,List.append_cons];exact this
theorem MI.manyB (o:Ordd U R)(ua: ∀x∈al,U x)(ub: ∀x∈bl,U x)(sa:Srt R al)(sb:Srt R bl): ∀ (k:Nat) {ib:Nat} {out:List κ},MI R al bl ia ib out->ib+k<=bl.length->(∀i,i<k-> ∀y,bl[ib+i]? =some y-> ∀z,al[ia]? =some z->R y z=true)->MI R al bl ia (ib+k) (out++(bl.drop ib).take k)
 |0,ib,out,m,_,_=>by rw [G1c,C7];exact m
 |k+1,ib,out,m,hk,h=>by
  obtain⟨y,hy⟩: ∃y,bl[ib]? =some y:=⟨_,G0 (by omega)⟩;have m1:=m.pushB o ua ub sa sb hy (h 0 (by omega) y hy);have:=MI.manyB o ua ub sa sb k m1 (by omega) (λi hi y hy=>h (i+1) (by omega) y (by rw [show ib+(i+1)=ib+1+i by omega];exact hy));rw [show ib+(k+1)=ib+1+k by omega,zV hy,G1j,List.append_cons];exact this
theorem MI.all {out:List κ}(m:MI R al bl al.length bl.length out):out.Perm (al++bl)/\Srt R out:=by
 have:=m.perm;rw [Y2,Y2] at this;exact⟨this,m.srt⟩
theorem MI.done {out:List κ}(m:MI R al bl ia ib out)(o:Ordd U R)(ua: ∀x∈al,U x)(ub: ∀x∈bl,U x)(sa:Srt R al)(sb:Srt R bl)(ha:ia<=al.length)(hb:ib<=bl.length)(h:ia=al.length\/ib=bl.length):(out++al.drop ia++bl.drop ib).Perm (al++bl)/\Srt R (out++al.drop ia++bl.drop ib):=by
 have m1:=MI.manyA o ua ub sa sb (al.length-ia) m (by omega) (λi hi y hy z hz=>by
  have:=(G3.mp hz).1;omega)
 rw [show ia+(al.length-ia)=al.length by omega,R8 (by rw [S6];exact G6 _)] at m1;have m2:=MI.manyB o ua ub sa sb (bl.length-ib) m1 (by omega) (λi hi y hy z hz=>by
  have:=(G3.mp hz).1;omega)
 rw [show ib+(bl.length-ib)=bl.length by omega,R8 (l:=bl.drop ib) (by rw [S6];exact G6 _)] at m2;exact m2.all
theorem MI.lastA {out:List κ}(m:MI R al bl ia ib out)(o:Ordd U R)(ua: ∀x∈al,U x)(ub: ∀x∈bl,U x)(sa:Srt R al)(sb:Srt R bl)(ha:ia+1=al.length)(hb:ib<=bl.length)(h: ∀y∈bl,∀z,al[al.length-1]? =some z->R y z=true):(out++bl.drop ib++al.drop ia).Perm (al++bl)/\Srt R (out++bl.drop ib++al.drop ia):=by
 have m2:=MI.manyB o ua ub sa sb (bl.length-ib) m (by omega) (λi hi y hy z hz=>h y (G5 hy) z (by rw [<-ha];exact hz));rw [show ib+(bl.length-ib)=bl.length by omega,R8 (by rw [S6];exact G6 _)] at m2;have m1:=MI.manyA o ua ub sa sb (al.length-ia) m2 (by omega) (λi hi y hy z hz=>by
  have:=(G3.mp hz).1;omega)
 rw [show ia+(al.length-ia)=al.length by omega,R8 (l:=al.drop ia) (by rw [S6];exact G6 _)] at m1;exact m1.all
end
section
variable {prog:Program}{w:World}{A:Around}{E:Value->Shared->Prop}{J:Shared->Prop}{κ:SortKind}{U:Keyed->Prop}{R:Keyed->Keyed->Bool}
theorem Tm.rule {σ:Type}{x:String}{Q:Unit->σ->Prop}{st:σ}(q:Q () st):Tm prog w A E J (liftM (PySem.rule x):StateT σ Sem Unit) Q st:=λs j=>by
 show wpAny _ _ ((StateT.lift _:StateT σ Sem _).run st) _ _ _;rw [StateT.run_lift];exact wpAny_bind (Z6 (G9 ⟨q,j⟩))
theorem Tm.modify {σ:Type}{f:σ->σ}{Q:Unit->σ->Prop}{st:σ}(q:Q () (f st)):Tm prog w A E J (_root_.modify f:StateT σ Sem PUnit) Q st:=λs j=>by
 rw [StateT.run_modify];exact G9 ⟨q,j⟩
def mLo:Array Keyed->Array Keyed->StateT SortSt Sem (Array Keyed):=sortPriv% PySem.Builtin.mergeLo
def Gal (st st':SortSt):Prop:=kindOf st'=kindOf st/\arrOf st'=arrOf st/\pendingOf st'=pendingOf st/\failedOf st'=failedOf st
theorem Gal.refl (st:SortSt):Gal st st:=⟨rfl,rfl,rfl,rfl⟩
theorem Vx (a:Array Keyed)(i:Nat):(a.extract i).toList=a.toList.drop i:=by
 rw [E7,List.extract_eq_drop_take];exact R8 (by simp)
theorem Br (a:Array Keyed)(i k:Nat):(a.extract i (i+k)).toList=(a.toList.drop i).take k:=by
 rw [E7,List.extract_eq_drop_take,G0M]
def JV (R:Keyed->Keyed->Bool)(a b c:Array Keyed):Prop:=c.toList.Perm (a.toList++b.toList)/\Srt R c.toList
structure Two (U:Keyed->Prop)(R:Keyed->Keyed->Bool)(a b:Array Keyed):Prop where
 o:Ordd U R
 ua: ∀x∈a.toList,U x
 ub: ∀x∈b.toList,U x
 sa:Srt R a.toList
 sb:Srt R b.toList
 last: ∀y∈b.toList,∀z,a.toList[a.toList.length-1]? =some z->R y z=true
abbrev MA (R:Keyed->Keyed->Bool)(a b:Array Keyed)(ia ib:Nat)(out:Array Keyed):Prop:=MI R a.toList b.toList ia ib out.toList
section
variable {a b out:Array Keyed}{ia ib:Nat}
theorem MA.done (t:Two U R a b)(m:MA R a b ia ib out)(ha:ia<=a.size)(hb:ib<=b.size)(h:ia=a.size\/ib=b.size):JV R a b (out++a.extract ia++b.extract ib):=by
 have:=MI.done m t.o t.ua t.ub t.sa t.sb (by simpa using ha) (by simpa using hb) (by simpa using h);unfold JV;rw [T3,T3,Vx,Vx];exact this
theorem MA.lastA (t:Two U R a b)(m:MA R a b ia ib out)(ha:ia+1=a.size)(hb:ib<=b.size):JV R a b (out++b.extract ib++a.extract ia):=by
 have:=MI.lastA m t.o t.ua t.ub t.sa t.sb (by simpa using ha) (by simpa using hb) t.last;unfold JV;rw [T3,T3,Vx,Vx];exact this
theorem MA.pushB (t:Two U R a b){y:Keyed}(m:MA R a b ia ib out)(hy:b.toList[ib]? =some y)(lt: ∀z,a.toList[ia]? =some z->R y z=true):MA R a b ia (ib+1) (out.push y):=by
 have:=MI.pushB m t.o t.ua t.ub t.sa t.sb hy lt;show MI R _ _ _ _ (out.push y).toList;rw [U0];exact this
theorem MA.pushA (t:Two U R a b){y:Keyed}(m:MA R a b ia ib out)(hy:a.toList[ia]? =some y)(ge: ∀z,b.toList[ib]? =some z->R z y=false):MA R a b (ia+1) ib (out.push y):=by
 have:=MI.pushA m t.o t.ua t.ub t.sa t.sb hy ge;show MI R _ _ _ _ (out.push y).toList;rw [U0];exact this
theorem MA.manyA (t:Two U R a b)(m:MA R a b ia ib out)(k:Nat)(hk:ia+k<=a.size)(h: ∀i,i<k-> ∀y,a.toList[ia+i]? =some y-> ∀z,b.toList[ib]? =some z->R z y=false):MA R a b (ia+k) ib (out++a.extract ia (ia+k)):=by
 have:=MI.manyA t.o t.ua t.ub t.sa t.sb k m (by simpa using hk) h;show MI R _ _ _ _ (out++a.extract ia (ia+k)).toList;rw [T3,Br];exact this
theorem MA.manyB (t:Two U R a b)(m:MA R a b ia ib out)(k:Nat)(hk:ib+k<=b.size)(h: ∀i,i<k-> ∀y,b.toList[ib+i]? =some y-> ∀z,a.toList[ia]? =some z->R y z=true):MA R a b ia (ib+k) (out++b.extract ib (ib+k)):=by
 have:=MI.manyB t.o t.ua t.ub t.sa t.sb k m (by simpa using hk) h;show MI R _ _ _ _ (out++b.extract ib (ib+k)).toList;rw [T3,Br];exact this
end
variable {arr:Array Keyed}{base:Nat}
theorem vK {left:Bool}{key x:Keyed}{i:Nat}(h:arr.toList[base+i]? =some x):byd R left key arr base i=if left=true then R x key else !R key x:=by
 unfold byd;rw [<-M0,h]
theorem Ug {l:List Keyed}(s:Srt R l)(o:Ordd U R)(u: ∀x∈l,U x){i j:Nat}{x y:Keyed}(hij:i<=j)(hx:l[i]? =some x)(hy:l[j]? =some y):R y x=false:=by
 by_cases z:i=j
 ·subst z;rw [hx] at hy;injection hy with hy;subst hy
  exact o.refl (u x (G5 hx))
 ·obtain⟨h1,e1⟩:=G3.mp hx;obtain⟨h2,e2⟩:=G3.mp hy;have:=E4.mp s i j h1 h2 (by omega);rw [e1,e2] at this;exact this
theorem Uh {i:Nat}(h:i<arr.size): ∃x,arr.toList[i]? =some x/\arr[i]? =some x:=⟨arr[i],by simp [h],by simp [h]⟩
theorem jcE {y:Keyed}{n hint:Nat}{st:SortSt}{Q:Option Nat->SortSt->Prop}(ak:QF prog w A J κ U R)(kd:kindOf st=κ)(o:Ordd U R)(u: ∀x∈arr.toList,U x)(s:Srt R arr.toList)(uy:U y)(hn:base+n<=arr.size)(hh:hint<n)
 (q: ∀k,k<=n->(∀i,i<k-> ∀x,arr.toList[base+i]? =some x->R y x=false)->(∀i,k<=i->i<n-> ∀x,arr.toList[base+i]? =some x->R y x=true)->Q (some k) st):Tm prog w A E J (gal false y arr base n hint) Q st:=by
 refine Ov ak kd uy (λi hi=> ?_) (λi j hij hj h=> ?_) hh (λk k1 k2 k3=>q k k1 (λi hi x hx=> ?_) (λi h1 h2 x hx=> ?_))
 ·obtain⟨x,lx,ex⟩:=Uh (show base+i<arr.size by omega);exact⟨x,ex,u x (G5 lx)⟩
 ·obtain⟨x,lx,_⟩:=Uh (show base+i<arr.size by omega);obtain⟨z,lz,_⟩:=Uh (show base+j<arr.size by omega);rw [vK lz] at h;rw [vK lx];have hz:R y z=false:=by simpa using h
  have:=o.trans (u x (G5 lx)) (u z (G5 lz)) uy (Ug s o u (by omega) lx lz) hz;simp [this]
 ·have:=k2 i hi;rw [vK hx] at this;simpa using this
 ·have:=k3 i h1 h2;rw [vK hx] at this;simpa using this
theorem jcF {y:Keyed}{n hint:Nat}{st:SortSt}{Q:Option Nat->SortSt->Prop}(ak:QF prog w A J κ U R)(kd:kindOf st=κ)(o:Ordd U R)(u: ∀x∈arr.toList,U x)(s:Srt R arr.toList)(uy:U y)(hn:base+n<=arr.size)(hh:hint<n)
 (q: ∀k,k<=n->(∀i,i<k-> ∀x,arr.toList[base+i]? =some x->R x y=true)->(∀i,k<=i->i<n-> ∀x,arr.toList[base+i]? =some x->R x y=false)->Q (some k) st):Tm prog w A E J (gal true y arr base n hint) Q st:=by
 refine Ov ak kd uy (λi hi=> ?_) (λi j hij hj h=> ?_) hh (λk k1 k2 k3=>q k k1 (λi hi x hx=> ?_) (λi h1 h2 x hx=> ?_))
 ·obtain⟨x,lx,ex⟩:=Uh (show base+i<arr.size by omega);exact⟨x,ex,u x (G5 lx)⟩
 ·obtain⟨x,lx,_⟩:=Uh (show base+i<arr.size by omega);obtain⟨z,lz,_⟩:=Uh (show base+j<arr.size by omega);rw [vK lz] at h;rw [vK lx];have hz:R z y=true:=by simpa using h
  rcases o.neg z x y (u z (G5 lz)) (u x (G5 lx)) uy hz with v|v
  ·rw [Ug s o u (by omega) lx lz] at v;cases v
  ·simp [v]
 ·have:=k2 i hi;rw [vK hx] at this;simpa using this
 ·have:=k3 i h1 h2;rw [vK hx] at this;simpa using this
section
variable {σ α β γ:Type}{c:Prop}[Decidable c]{t e:StateT σ Sem α}{Q:α->σ->Prop}{st:σ}{x y:β}{z:γ}
theorem Tm.if2 (T:c->Tm prog w A E J t Q st)(F: ¬c->Tm prog w A E J e Q st):Tm prog w A E J (if c then t else e) Q st:=by
 split
 ·exact T ‹_›
 ·exact F ‹_›
theorem Tm.eq2 {x y:Nat}(T:x=y->Tm prog w A E J t Q st)(F: ¬x=y->Tm prog w A E J e Q st):Tm prog w A E J (if (x==y)=true then t else e) Q st:=
 .if2 (λh=>T (eq_of_beq h)) λh=>F λg=>h (V2.mpr g)
theorem Tm.both {f:β->StateT σ Sem α}(he:e=f y)(ht:t=f x)(H: ∀m,Tm prog w A E J (f m) Q st):Tm prog w A E J (if c then t else e) Q st:=by
 subst he ht;exact .if2 (λ_=>H _) λ_=>H _
theorem Tm.join {f:β->γ->StateT σ Sem α}{I:β->γ->Prop}(he:e=f x z)(G: ∀m o,I m o->Tm prog w A E J (f m o) Q st)(T:c->(∀m o,I m o->Tm prog w A E J (f m o) Q st)->Tm prog w A E J t Q st)(F: ¬c->I x z):Tm prog w A E J (if c then t else e) Q st:=by
 subst he;exact .if2 (λh=>T h G) λh=>G _ _ (F h)
end
theorem jaE {A B C D F:Type}{P:A×B×C×D×F->Prop}(h: ∀a b c d f,P (a,b,c,d,f)): ∀c,P c:=λc=>h c.1 c.2.1 c.2.2.1 c.2.2.2.1 c.2.2.2.2
theorem jaF {A B C D F G:Type}{P:A×B×C×D×F×G->Prop}(h: ∀a b c d f g,P (a,b,c,d,f,g)): ∀c,P c:=λc=>h c.1 c.2.1 c.2.2.1 c.2.2.2.1 c.2.2.2.2.1 c.2.2.2.2.2
theorem jaG {A B C D F G H:Type}{P:A×B×C×D×F×G×H->Prop}(h: ∀a b c d f g k,P (a,b,c,d,f,g,k)): ∀c,P c:=λc=>h c.1 c.2.1 c.2.2.1 c.2.2.2.1 c.2.2.2.2.1 c.2.2.2.2.2.1 c.2.2.2.2.2.2
theorem yW {a:Array Keyed}(u: ∀x∈a.toList,U x){i:Nat}(h:i<a.size){P:Prop}(q: ∀y,a[i]? =some y->a.toList[i]? =some y->U y->P):P:=q a[i] (by simp [h]) (by simp [h]) (u _ (by simp))
structure LoI (R:Keyed->Keyed->Bool)(a b:Array Keyed)(st st':SortSt)(n:Nat)(out:Array Keyed)(ia ib:Nat):Prop where
 g:Gal st st'
 m:MA R a b ia ib out
 a:ia+1<a.size
 b:ib<b.size
 n:n<=ia+ib
def LoO (R:Keyed->Keyed->Bool)(a b:Array Keyed)(st st':SortSt)(n:Nat)(r:Option (Array Keyed))(out:Array Keyed)(ia ib:Nat):Prop:=Gal st st'/\match r with|some c=>JV R a b c|none=>LoI R a b st st' n out ia ib
section
variable {a b out:Array Keyed}{st st':SortSt}{n k ia ib:Nat}
theorem LoI.more (h:LoI R a b st st' n out ia ib)(l:k<=n):LoI R a b st st' k out ia ib:=⟨h.g,h.m,h.a,h.b,S1 l h.n⟩
theorem LoI.here (h:LoI R a b st st' n out ia ib):LoI R a b st st' (ia+ib) out ia ib:=⟨h.g,h.m,h.a,h.b,G6 _⟩
theorem LoI.at {s:SortSt}(h:LoI R a b st st' n out ia ib)(g:Gal st s)(l:k<=n):LoI R a b st s k out ia ib:=⟨g,h.m,h.a,h.b,S1 l h.n⟩
theorem LoI.never {P:Prop}(h:LoI R a b st st' n out ia ib)(l:a.size+b.size<=n):P:=absurd (S1 l h.n) (Nat.not_le_of_lt (Nat.add_lt_add (L6 h.a) h.b))
end
theorem qZ {a b:Array Keyed}{st:SortSt}{Q:Array Keyed->SortSt->Prop}(ak:QF prog w A J κ U R)(kd:kindOf st=κ)(t:Two U R a b)
 (na:1<=a.size)(nb:1<=b.size)(first: ∀y z,b.toList[0]? =some y->a.toList[0]? =some z->R y z=true)
 (q: ∀c st',Gal st st'->JV R a b c->Q c st'):Tm prog w A E J (mLo a b) Q st:=by
 refine .bind (.rule (.bind (yW t.ub nb λb0 eb0 lb0 ub0=> .elem eb0 ?_)));have m0:MA R a b 0 1 #[b0]:=MA.pushB t (out:= #[]) (MI.start _ _) lb0 (λz hz=>first _ z lb0 hz);refine .eq2 (x:=1) (y:=b.size) (λz1=> .pure (q _ _ (Gal.refl st) (MA.done t m0 (T5 _) nb (.inr z1)))) λz1=> .eq2 (x:=0+1) (y:=a.size) (λz2=> .pure (q _ _ (Gal.refl st) (MA.lastA t m0 z2 nb))) λz2=> .bind (.get ?_)
 refine .bind (Tm.mono (Tm.range (λi c st'=>LoI R a b st st' (i+1) c.2.1 c.2.2.1 c.2.2.2.1)
  (Q:=λc st'=> ∃r,c.1=some r/\Gal st st'/\JV R a b r) (T5 _) ⟨Gal.refl st,m0,B6 na z2,B6 nb z1,G6 _⟩ ?_ ?_) ?_)
 ·intro i c st1 hi;revert c;refine jaE λr out ia ib mg h=> ?_
  refine .bind (Tm.mono (Tm.range (λj c st'=>LoI R a b st st' (ia+ib+j) c.2.1 c.2.2.1 c.2.2.2.1)
   (Q:=λc st'=>LoO R a b st st' (ia+ib+1) c.1 c.2.1 c.2.2.1 c.2.2.2.1) (T5 _) h.here ?_ ?_) ?_)
  ·intro j c st2 hj;revert c;refine jaF λr out ja jb ac bc h=> ?_
   refine .bind (yW t.ub h.b λy ey ly uy=> .elem ey (.bind (yW t.ua (L6 h.a) λx ex lx ux=> .elem ex (.bind (.lt ak (h.g.1.trans kd) uy ux (.if2 (c:=R y x=true) (λhb=> .bind (.elem ey ?_)) λhb=> .bind (.elem ex ?_)))))))
   ·have m1:=MA.pushB t h.m ly (λz hz=>by rw [lx] at hz;injection hz with hz;rw [<-hz];exact hb);refine .eq2 (x:=jb+1) (y:=b.size) (λc1=> .pure ⟨h.g,MA.done t m1 (D7 (L6 h.a)) h.b (.inr c1)⟩) λc1=> ?_
    have d:LoI R a b st st2 (ia+ib+(j+1)) (out.push y) ja (jb+1):=⟨h.g,m1,h.a,B6 (X4 h.b) c1,Y3 h.n⟩;exact .if2 (λ_=> .pure ⟨h.g,d.more (V0 (Q6 _ _) _)⟩) λ_=> .pure d
   ·have m1:=MA.pushA t h.m lx (λz hz=>by rw [ly] at hz;injection hz with hz;rw [<-hz];exact U1.mpr hb);refine .eq2 (x:=ja+1+1) (y:=a.size) (λc1=> .pure ⟨h.g,MA.lastA t m1 c1 (D7 h.b)⟩) λc1=> ?_
    have d:LoI R a b st st2 (ia+ib+(j+1)) (out.push x) (ja+1) jb:=⟨h.g,m1,B6 (X4 h.a) c1,h.b,S1 (Y3 h.n) (E2 (Nat.succ_add _ _).symm)⟩;exact .if2 (λ_=> .pure ⟨h.g,d.more (V0 (Q6 _ _) _)⟩) λ_=> .pure d
  ·exact λc st2 h=>h.never (Q6 _ _)
  ·intro c st2;revert c;refine jaF λr out ja jb ac bc h'=> ?_
   cases r with
   |some r=>exact .pure ⟨r,rfl,h'⟩
   |none=>
   replace h':=h'.2
   refine .bind (.rule (.bind (Tm.mono (Tm.range (λj c st'=>LoI R a b st st' (ja+jb+j) c.2.1 c.2.2.1 c.2.2.2.1)
    (Q:=λc st'=>LoO R a b st st' (ja+jb) c.1 c.2.1 c.2.2.1 c.2.2.2.1) (T5 _) h'.here ?_ ?_) ?_)))
   ·clear h;intro j c st2 hj;revert c;refine jaG λr out pa pb mg ac bc h=> ?_
    refine yW t.ub h.b λy ey ly uy=> ?_
    have g2:0<a.size-pa:=Nat.sub_pos_of_lt (L6 h.a);have g1:pa+(a.size-pa)<=a.size:=E2 (G0c (D7 (L6 h.a)));refine Tm.both (y:=mg) (x:=mg-1) (by rfl) (by rfl) λmg=> ?_
    refine .bind (Tm.modify (.bind (.elem ey (.bind (jcE (base:=pa) (n:=a.size-pa) ak (h.g.1.trans kd) t.o t.ua t.sa uy g1 g2 λk k1 k2 k3=> ?_)))));refine Tm.join (I:=λo ia=>MA R a b ia pb o/\ia+1<a.size/\pa<=ia/\ ∀x,a.toList[ia]? =some x->R y x=true) (x:=out) (z:=pa) (by rfl) ?_ ?_ ?_
    ·refine λo qa i1=> ?_
     have M2:=MA.pushB t i1.1 ly i1.2.2.2;have p1:=L6 i1.2.1;refine .bind (.elem ey (.eq2 (x:=pb+1) (y:=b.size) (λc3=> .pure ⟨h.g,MA.done t M2 (D7 p1) (E2 c3) (.inr c3)⟩) λc3=> ?_));have c8:pb+1<b.size:=B6 (X4 h.b) c3;have g2:=Nat.sub_pos_of_lt c8;refine .bind (yW t.ua p1 λx ex lx ux=> .elem ex (.bind (jcF (base:=pb+1) (n:=b.size-(pb+1)) ak (h.g.1.trans kd) t.o t.ub t.sb ux (E2 (G0c (D7 c8))) g2 λk' q1 q2 q3=> ?_)));dsimp only;generalize ep:pb+1=p2 at M2 q1 q2 q3 c8 g2 ⊢;generalize eo:o.push y=o2 at M2 ⊢;refine Tm.join (I:=λo ib=>MA R a b qa ib o/\ib<b.size/\p2<=ib/\ ∀x',b.toList[ib]? =some x'->R x' x=false) (x:=o2) (z:=p2) (by rfl) ?_ ?_ ?_
     ·refine λo qb i2=> ?_
      have M4:=MA.pushA t i2.1 lx i2.2.2.2;refine .bind (.elem ex (.eq2 (x:=qa+1+1) (y:=a.size) (λc5=> .pure ⟨h.g,MA.lastA t M4 c5 (D7 i2.2.1)⟩) λc5=> ?_));have n1:ja+jb+j<=pa+pb:=h.n;have n2:ja+jb+(j+1)<=qa+1+qb:=by have:=i1.2.2.1;have:=i2.2.2.1;omega
      have d:LoI R a b st st2 (ja+jb+(j+1)) (o.push x) (qa+1) qb:=⟨h.g,M4,B6 (X4 i1.2.1) c5,i2.2.1,n2⟩;exact .if2 (λ_=> .pure ⟨h.g,d.at h.g (U5 _ _)⟩) λ_=> .pure (d.at h.g (G6 _))
     ·intro kz' H;have g3:p2+k'<=b.size:=S1 (V0 q1 _) (E2 (G0c (D7 c8)));have M3:=MA.manyB t M2 k' g3 (λi hi y' hy z hz=>by rw [lx] at hz;injection hz with hz;rw [<-hz];exact q2 i hi y' hy);exact .eq2 (x:=p2+k') (y:=b.size) (λc4=> .pure ⟨h.g,MA.done t M3 (D7 p1) g3 (.inr c4)⟩) λc4=>H _ _ ⟨M3,B6 g3 c4,U5 _ _,λz hz=>q3 k' (G6 _) (by omega) z hz⟩
     ·exact λkz'=>⟨M2,c8,G6 _,λz hz=>q3 0 (G0P kz') g2 z hz⟩
    ·intro kz H;have g3:pa+k<=a.size:=S1 (V0 k1 _) g1;have m1:=MA.manyA t h.m k g3 (λi hi x hx z hz=>by rw [ly] at hz;injection hz with hz;rw [<-hz];exact k2 i hi x hx);exact .eq2 (x:=pa+k+1) (y:=a.size) (λc1=> .pure ⟨h.g,MA.lastA t m1 c1 (D7 h.b)⟩) λc1=> .eq2 (x:=pa+k) (y:=a.size) (λc2=> .pure ⟨h.g,MA.done t m1 g3 (D7 h.b) (.inl c2)⟩) λc2=>H _ _ ⟨m1,B6 (B6 g3 c2) c1,U5 _ _,λx hx=>k3 k (G6 _) (by omega) x hx⟩
    ·exact λkz=>⟨h.m,h.a,G6 _,λx hx=>k3 0 (G0P kz) g2 x hx⟩
   ·exact λc st3 h=>h.never (Q6 _ _)
   ·intro c st3;revert c;refine jaG λr out pa pb mg ac bc h3=> ?_
    cases r with
    |some r=>exact .pure ⟨r,rfl,h3⟩
    |none=>exact .bind (Tm.modify (.pure (h3.2.at h3.1 (S1 (Y3 h.n) h'.n))))
 ·exact λc st1 h=>h.never (U5 _ _)
 ·intro c st1;revert c;refine jaE λr out ia ib mg h=> ?_
  obtain⟨c,rfl,gl,wh⟩:=h;exact .pure (q c st1 gl wh)
end
section
variable {prog:Program}{w:World}{A:Around}{E:Value->Shared->Prop}{J:Shared->Prop}{κ:SortKind}{U:Keyed->Prop}{R:Keyed->Keyed->Bool}
abbrev Flp (R:Keyed->Keyed->Bool):Keyed->Keyed->Bool:=λx y=>R y x
theorem Ordd.flip (o:Ordd U R):Ordd U (Flp R):=⟨λx y ux uy h=>o.asym y x uy ux h,λx y z ux uy uz h=>(o.neg z y x uz uy ux h).symm⟩
variable {l:List Keyed}
theorem we (s:Srt R l):Srt (Flp R) l.reverse:=Y1.mpr s
theorem Bs (s:Srt (Flp R) l):Srt R l.reverse:=Y1.mpr s
variable {n:Nat}
theorem Ow (h1:1<=n)(hn:n<=l.length):l.reverse[l.length-n]? =l[n-1]? :=by
 rw [O5 (by omega)]
 congr 1;omega
theorem yq {z:Keyed}(hn:n<=l.length)(h:l.reverse[l.length-n]? =some z):1<=n/\l[n-1]? =some z:=by
 have:=(G3.mp h).1;rw [R6] at this;have n1:1<=n:=by omega
 exact⟨n1,by rw [<-Ow n1 hn];exact h⟩
theorem Wy (l:List Keyed){n:Nat}(hn:n<=l.length):l.reverse.drop (l.length-n)=(l.take n).reverse:=by
 rw [List.drop_reverse]
 congr 2;omega
def MH (R:Keyed->Keyed->Bool)(a b:Array Keyed)(na nb:Nat)(out:Array Keyed):Prop:=MI (Flp R) b.toList.reverse a.toList.reverse (b.toList.length-nb) (a.toList.length-na) out.toList
structure TwoH (U:Keyed->Prop)(R:Keyed->Keyed->Bool)(a b:Array Keyed):Prop where
 o:Ordd U R
 ua: ∀x∈a.toList,U x
 ub: ∀x∈b.toList,U x
 sa:Srt R a.toList
 sb:Srt R b.toList
 first: ∀z∈a.toList,∀y,b.toList[0]? =some y->R y z=true
section
variable {a b out:Array Keyed}{na nb:Nat}
theorem TwoH.fa (t:TwoH U R a b): ∀x∈a.toList.reverse,U x:=λx hx=>t.ua x (F9.mp hx)
theorem TwoH.fb (t:TwoH U R a b): ∀x∈b.toList.reverse,U x:=λx hx=>t.ub x (F9.mp hx)
theorem MH.start (a b:Array Keyed):MH R a b a.toList.length b.toList.length #[]:=by
 unfold MH;rw [Nat.sub_self,Nat.sub_self];exact MI.start _ _
theorem MH.pushA (t:TwoH U R a b){y:Keyed}(m:MH R a b na nb out)(h1:1<=na)(hn:na<=a.toList.length)(hb:nb<=b.toList.length)(hy:a.toList[na-1]? =some y)(lt: ∀z,1<=nb->b.toList[nb-1]? =some z->R z y=true):MH R a b (na-1) nb (out.push y):=by
 have:=MI.pushB m t.o.flip t.fb t.fa (we t.sb) (we t.sa) (by rw [Ow h1 hn];exact hy) (λz hz=>lt z (yq hb hz).1 (yq hb hz).2);unfold MH;rw [U0,show a.toList.length-(na-1)=a.toList.length-na+1 by omega];exact this
theorem MH.pushB (t:TwoH U R a b){y:Keyed}(m:MH R a b na nb out)(h1:1<=nb)(hn:nb<=b.toList.length)(ha:na<=a.toList.length)(hy:b.toList[nb-1]? =some y)(ge: ∀z,1<=na->a.toList[na-1]? =some z->R y z=false):MH R a b na (nb-1) (out.push y):=by
 have:=MI.pushA m t.o.flip t.fb t.fa (we t.sb) (we t.sa) (by rw [Ow h1 hn];exact hy) (λz hz=>ge z (yq ha hz).1 (yq ha hz).2);unfold MH;rw [U0,show b.toList.length-(nb-1)=b.toList.length-nb+1 by omega];exact this
theorem Wz (a:Array Keyed)(n:Nat):(a.extract 0 n).toList=a.toList.take n:=by
 rw [E7,List.extract_eq_drop_take,G0w,Nat.sub_zero]
theorem MH.done (t:TwoH U R a b)(m:MH R a b na nb out)(ha:na<=a.toList.length)(hb:nb<=b.toList.length)(h:na=0\/nb=0):JV R a b (a.extract 0 na++b.extract 0 nb++out.reverse):=by
 have:=MI.done m t.o.flip t.fb t.fa (we t.sb) (we t.sa) (by rw [R6];omega) (by rw [R6];omega) (by rw [R6,R6];omega);rw [Wy _ ha,Wy _ hb] at this;have e:(a.extract 0 na++b.extract 0 nb++out.reverse).toList=(out.toList++(b.toList.take nb).reverse++(a.toList.take na).reverse).reverse:=by
  rw [T3,T3,Wz,Wz,Y9];simp [P2]
 unfold JV;rw [e];refine⟨(L7 _).trans (this.1.trans ?_),Bs this.2⟩;exact(List.Perm.append (L7 _) (L7 _)).trans Q5
theorem MH.firstB (t:TwoH U R a b)(m:MH R a b na nb out)(ha:na<=a.toList.length)(hb:nb=1)(hb':1<=b.toList.length):JV R a b (b.extract 0 nb++a.extract 0 na++out.reverse):=by
 subst hb;have:=MI.lastA m t.o.flip t.fb t.fa (we t.sb) (we t.sa) (by rw [R6];omega) (by rw [R6];omega) (λz hz y hy=>by
  rw [R6] at hy;have:=(yq hb' hy).2;exact t.first z (F9.mp hz) y (by simpa using this))
 rw [Wy _ ha,Wy _ hb'] at this;have e:(b.extract 0 1++a.extract 0 na++out.reverse).toList=(out.toList++(a.toList.take na).reverse++(b.toList.take 1).reverse).reverse:=by
  rw [T3,T3,Wz,Wz,Y9];simp [P2]
 unfold JV;rw [e];refine⟨(L7 _).trans (this.1.trans ?_),Bs this.2⟩;exact(List.Perm.append (L7 _) (L7 _)).trans Q5
theorem Bv (l:List Keyed){p n:Nat}(h1:p<=n)(hn:n<=l.length):(l.reverse.drop (l.length-n)).take (n-p)=((l.drop p).take (n-p)).reverse:=by
 rw [Wy l hn,List.take_reverse,R0,G1d,W3 hn,show n-(n-p)=p by omega]
theorem Ox (a:Array Keyed){p n:Nat}(h:p<=n):(a.extract p n).reverse.toList=((a.toList.drop p).take (n-p)).reverse:=by
 rw [Y9,E7,List.extract_eq_drop_take]
theorem MH.manyA (t:TwoH U R a b)(m:MH R a b na nb out)(p:Nat)(hp:p<=na)(hn:na<=a.toList.length)(hb:nb<=b.toList.length)(h: ∀i,p<=i->i<na-> ∀y,a.toList[i]? =some y-> ∀z,1<=nb->b.toList[nb-1]? =some z->R z y=true):MH R a b p nb (out++(a.extract p na).reverse):=by
 have:=MI.manyB t.o.flip t.fb t.fa (we t.sb) (we t.sa) (na-p) m (by rw [R6];omega) (λi hi y hy z hz=>by
  rw [O5 (by omega)] at hy;exact h _ (by omega) (by omega) y hy z (yq hb hz).1 (yq hb hz).2)
 rw [Bv _ hp hn] at this;unfold MH;rw [T3,Ox _ hp,show a.toList.length-p=a.toList.length-na+(na-p) by omega];exact this
theorem MH.manyB (t:TwoH U R a b)(m:MH R a b na nb out)(p:Nat)(hp:p<=nb)(hn:nb<=b.toList.length)(ha:na<=a.toList.length)(h: ∀i,p<=i->i<nb-> ∀y,b.toList[i]? =some y-> ∀z,1<=na->a.toList[na-1]? =some z->R y z=false):MH R a b na p (out++(b.extract p nb).reverse):=by
 have:=MI.manyA t.o.flip t.fb t.fa (we t.sb) (we t.sa) (nb-p) m (by rw [R6];omega) (λi hi y hy z hz=>by
  rw [O5 (by omega)] at hy;exact h _ (by omega) (by omega) y hy z (yq ha hz).1 (yq ha hz).2)
 rw [Bv _ hp hn] at this;unfold MH;rw [T3,Ox _ hp,show b.toList.length-p=b.toList.length-nb+(nb-p) by omega];exact this
end
def mHi:Array Keyed->Array Keyed->StateT SortSt Sem (Array Keyed):=sortPriv% PySem.Builtin.mergeHi
section
variable {arr:Array Keyed}{y:Keyed}{n hint:Nat}{st:SortSt}{Q:Option Nat->SortSt->Prop}
theorem jbX (ak:QF prog w A J κ U R)(kd:kindOf st=κ)(o:Ordd U R)(u: ∀x∈arr.toList,U x)(s:Srt R arr.toList)(uy:U y)(hn:n<=arr.size)(hh:hint<n)
 (q: ∀k,k<=n->(∀i,i<k-> ∀x,arr.toList[i]? =some x->R y x=false)->(∀i,k<=i->i<n-> ∀x,arr.toList[i]? =some x->R y x=true)->Q (some k) st):Tm prog w A E J (gal false y arr 0 n hint) Q st:=
 jcE ak kd o u s uy (by rw [J5];exact hn) hh λk h k2 k3=>q k h (λi hi x hx=>k2 i hi x (by rw [J5];exact hx)) λi hi hj x hx=>k3 i hi hj x (by rw [J5];exact hx)
theorem jbY (ak:QF prog w A J κ U R)(kd:kindOf st=κ)(o:Ordd U R)(u: ∀x∈arr.toList,U x)(s:Srt R arr.toList)(uy:U y)(hn:n<=arr.size)(hh:hint<n)
 (q: ∀k,k<=n->(∀i,i<k-> ∀x,arr.toList[i]? =some x->R x y=true)->(∀i,k<=i->i<n-> ∀x,arr.toList[i]? =some x->R x y=false)->Q (some k) st):Tm prog w A E J (gal true y arr 0 n hint) Q st:=
 jcF ak kd o u s uy (by rw [J5];exact hn) hh λk h k2 k3=>q k h (λi hi x hx=>k2 i hi x (by rw [J5];exact hx)) λi hi hj x hx=>k3 i hi hj x (by rw [J5];exact hx)
end
structure HiI (R:Keyed->Keyed->Bool)(a b:Array Keyed)(st st':SortSt)(n N na nb:Nat)(out:Array Keyed):Prop where
 g:Gal st st'
 m:MH R a b na nb out
 a':na<=a.size
 b':nb<=b.size
 a:1<=na
 b:2<=nb
 n:n+na+nb<=N
def HiO (R:Keyed->Keyed->Bool)(a b:Array Keyed)(st st':SortSt)(n N:Nat)(r:Option (Array Keyed))(na nb:Nat)(out:Array Keyed):Prop:=Gal st st'/\match r with|some c=>JV R a b c|none=>HiI R a b st st' n N na nb out
section
variable {a b out:Array Keyed}{st st' s:SortSt}{n N k M na nb:Nat}
theorem HiI.at (h:HiI R a b st st' n N na nb out)(g:Gal st s)(l:n+na+nb<=N->k+na+nb<=M):HiI R a b st s k M na nb out:=⟨g,h.m,h.a',h.b',h.a,h.b,l h.n⟩
theorem HiI.here (h:HiI R a b st st' n N na nb out):HiI R a b st st' 0 (na+nb) na nb out:=h.at h.g λ_=>by omega
theorem HiI.never {P:Prop}(h:HiI R a b st st' n N na nb out)(l:N<=n):P:=by have:=h.n;have:=h.a;omega
theorem HiI.le (h:HiI R a b st st' n N na nb out):na+nb<=a.size+b.size:=Nat.add_le_add h.a' h.b'
theorem HiI.a1 (h:HiI R a b st st' n N na nb out):na-1<a.size:=D3 (X5 h.a Nat.one_pos) h.a'
theorem HiI.b1 (h:HiI R a b st st' n N na nb out):nb-1<b.size:=D3 (X5 (L6 h.b) Nat.one_pos) h.b'
end
theorem TQ (h:2<=n)(c: ¬n-1=1):2<=n-1:=by omega
theorem Oy (c: ¬n-1=0):1<=n-1:=W4 c
theorem jaa {a b:Array Keyed}{st:SortSt}{Q:Array Keyed->SortSt->Prop}(ak:QF prog w A J κ U R)(kd:kindOf st=κ)(t:TwoH U R a b)
 (na:1<=a.size)(nb:1<=b.size)(last: ∀y z,b.toList[b.size-1]? =some y->a.toList[a.size-1]? =some z->R y z=true)
 (q: ∀c st',Gal st st'->JV R a b c->Q c st'):Tm prog w A E J (mHi a b) Q st:=by
 refine .bind (.rule (.bind (yW t.ua (X5 na Nat.one_pos) λa0 ea0 la0 ua0=> .elem ea0 ?_)));have m0:MH R a b (a.size-1) b.size #[a0]:=MH.pushA t (MH.start (R:=R) a b) na (G6 _) (G6 _) la0 (λz _ hz=>last z a0 hz la0);have n1:a.size-1<=a.size:=Nat.sub_le _ _;refine .eq2 (x:=a.size-1) (y:=0) (λz1=> .pure (q _ _ (Gal.refl st) (MH.done t m0 n1 (G6 _) (.inl z1)))) λz1=> .eq2 (x:=b.size) (y:=1) (λz2=> .pure (q _ _ (Gal.refl st) (MH.firstB t m0 n1 z2 nb))) λz2=> .bind (.get ?_)
 refine .bind (Tm.mono (Tm.range (λi c st'=>HiI R a b st st' (i+1) (a.size+b.size) c.2.1 c.2.2.1 c.2.2.2.1)
  (Q:=λc st'=> ∃r,c.1=some r/\Gal st st'/\JV R a b r) (Nat.zero_le _) ⟨Gal.refl st,m0,n1,Nat.le_refl _,Oy z1,by dsimp only;omega,by dsimp only;omega⟩ ?_ ?_) ?_)
 ·intro i c st1 hi;revert c;refine jaE λr ia ib out mg h=> ?_
  refine .bind (Tm.mono (Tm.range (λj c st'=>HiI R a b st st' j (ia+ib) c.2.1 c.2.2.1 c.2.2.2.1)
   (Q:=λc st'=>HiO R a b st st' 1 (ia+ib) c.1 c.2.1 c.2.2.1 c.2.2.2.1) (T5 _) h.here ?_ ?_) ?_)
  ·intro j c st2 hj;revert c;refine jaF λr ja jb out ac bc h=> ?_
   refine .bind (yW t.ub h.b1 λy ey ly uy=> .elem ey (.bind (yW t.ua h.a1 λx ex lx ux=> .elem ex (.bind (.lt ak (h.g.1.trans kd) uy ux (.if2 (c:=R y x=true) (λhb=> .bind (.elem ex ?_)) λhb=> .bind (.elem ey ?_)))))))
   ·have m1:=MH.pushA t h.m h.a h.a' h.b' lx (λz _ hz=>by rw [ly] at hz;injection hz with hz;rw [<-hz];exact hb);refine .eq2 (x:=ja-1) (y:=0) (λc1=> .pure ⟨h.g,MH.done t m1 (D7 h.a1) h.b' (.inl c1)⟩) λc1=> ?_
    have d:HiI R a b st st2 (j+1) (ia+ib) (ja-1) jb (out.push x):=⟨h.g,m1,D7 h.a1,h.b',Oy c1,h.b,by have:j+ja+jb<=ia+ib:=h.n;have:1<=ja:=h.a;have:2<=jb:=h.b;omega⟩;exact .if2 (λ_=> .pure ⟨h.g,d.at h.g λ_=>by omega⟩) λ_=> .pure d
   ·have m1:=MH.pushB t h.m (D7 h.b) h.b' h.a' ly (λz _ hz=>by rw [lx] at hz;injection hz with hz;rw [<-hz];exact U1.mpr hb);refine .eq2 (x:=jb-1) (y:=1) (λc1=> .pure ⟨h.g,MH.firstB t m1 h.a' c1 nb⟩) λc1=> ?_
    have d:HiI R a b st st2 (j+1) (ia+ib) ja (jb-1) (out.push y):=⟨h.g,m1,h.a',D7 h.b1,h.a,TQ h.b c1,by have:j+ja+jb<=ia+ib:=h.n;have:1<=ja:=h.a;have:2<=jb:=h.b;omega⟩;exact .if2 (λ_=> .pure ⟨h.g,d.at h.g λ_=>by omega⟩) λ_=> .pure d
  ·exact λc st2 h'=>h'.never h.le
  ·intro c st2;revert c;refine jaF λr ja jb out ac bc h'=> ?_
   cases r with
   |some r=>exact .pure ⟨r,rfl,h'⟩
   |none=>
   replace h':=h'.2
   refine .bind (.rule (.bind (Tm.mono (Tm.range (λj c st'=>HiI R a b st st' j (ja+jb) c.2.1 c.2.2.1 c.2.2.2.1)
    (Q:=λc st'=>HiO R a b st st' 0 (ja+jb) c.1 c.2.1 c.2.2.1 c.2.2.2.1) (T5 _) h'.here ?_ ?_) ?_)))
   ·clear h;intro j c st2 hj;revert c;refine jaG λr pa pb out mg ac bc h=> ?_
    refine yW t.ub h.b1 λy ey ly uy=> ?_
    refine Tm.both (y:=mg) (x:=mg-1) (by rfl) (by rfl) λmg=> ?_
    refine .bind (Tm.modify (.bind (.elem ey (.bind (jbX (n:=pa) ak (h.g.1.trans kd) t.o t.ua t.sa uy h.a' (X5 h.a Nat.one_pos) λk k1 k2 k3=> ?_)))));dsimp only;generalize eac:pa-k=ac;refine Tm.join (I:=λna o=>MH R a b na pb o/\1<=na/\na<=pa/\ ∀z,a.toList[na-1]? =some z->R y z=false) (x:=pa) (z:=out) (by rfl) ?_ ?_ ?_
    ·refine λqa o i1=> ?_
     have la:=S1 i1.2.2.1 h.a';have M2:=MH.pushB t i1.1 (D7 h.b) h.b' la ly (λz _ hz=>i1.2.2.2 z hz);refine .bind (.elem ey (.eq2 (x:=pb-1) (y:=1) (λc3=> .pure ⟨h.g,MH.firstB t M2 la c3 nb⟩) λc3=> ?_));have c8:=TQ h.b c3;have lb:=D7 h.b1;have n1:j+pa+pb<=ja+jb:=h.n;have n2:pb=pb-1+1:=(Nat.sub_add_cancel (D7 h.b)).symm;refine .bind (yW t.ua (D3 (X5 i1.2.1 Nat.one_pos) la) λx ex lx ux=> .elem ex (.bind (jbY (n:=pb-1) ak (h.g.1.trans kd) t.o t.ub t.sb ux lb (X5 (L6 c8) Nat.one_pos) λk' q1 q2 q3=> ?_)));dsimp only;dsimp only at c8 lb;generalize ep:pb-1=p2 at M2 q1 q2 q3 c8 lb n2 ⊢;generalize eo:o.push y=o2 at M2 ⊢;generalize ebc:p2-k'=bc;refine Tm.join (I:=λnb o=>MH R a b qa nb o/\2<=nb/\nb<=p2/\ ∀z,b.toList[nb-1]? =some z->R z x=true) (x:=p2) (z:=o2) (by rfl) ?_ ?_ ?_
     ·refine λqb o i2=> ?_
      have lb':=S1 i2.2.2.1 lb;have M4:=MH.pushA t i2.1 i1.2.1 la lb' lx (λz _ hz=>i2.2.2.2 z hz);have la':=S1 (Nat.sub_le qa 1) la;refine .bind (.elem ex (.eq2 (x:=qa-1) (y:=0) (λc5=> .pure ⟨h.g,MH.done t M4 la' lb' (.inl c5)⟩) λc5=> ?_));have n3:j+1+(qa-1)+qb<=ja+jb:=by have:=i1.2.1;have:=i1.2.2.1;have:=i2.2.2.1;omega
      have d:HiI R a b st st2 (j+1) (ja+jb) (qa-1) qb (o.push x):=⟨h.g,M4,la',lb',Oy c5,i2.2.1,n3⟩;exact .if2 (λ_=> .pure ⟨h.g,d.at h.g λ_=>by omega⟩) λ_=> .pure (d.at h.g id)
     ·intro kz' H;have M3:=MH.manyB t M2 k' q1 lb la (λi hi1 hi2 y' hy z hz1 hz=>by rw [lx] at hz;injection hz with hz;rw [<-hz];exact q3 i hi1 hi2 y' hy);exact .eq2 (x:=k') (y:=1) (λc4=> .pure ⟨h.g,MH.firstB t M3 la c4 nb⟩) λc4=> .eq2 (x:=k') (y:=0) (λc7=> .pure ⟨h.g,MH.done t M3 la (S1 q1 lb) (.inr c7)⟩) λc7=>H _ _ ⟨M3,by omega,q1,λz hz=>q2 (k'-1) (X5 (W4 c7) Nat.one_pos) z hz⟩
     ·exact λkz'=>⟨M2,c8,G6 _,λz hz=>q2 (p2-1) (by omega) z hz⟩
    ·intro kz H;have m1:=MH.manyA t h.m k k1 h.a' h.b' (λi hi1 hi2 x hx z hz1 hz=>by rw [ly] at hz;injection hz with hz;rw [<-hz];exact k3 i hi1 hi2 x hx);exact .eq2 (x:=k) (y:=0) (λc1=> .pure ⟨h.g,MH.done t m1 (S1 k1 h.a') h.b' (.inl c1)⟩) λc1=>H _ _ ⟨m1,W4 c1,k1,λz hz=>k2 (k-1) (X5 (W4 c1) Nat.one_pos) z hz⟩
    ·exact λkz=>⟨h.m,h.a,G6 _,λz hz=>k2 (pa-1) (by have:1<=pa:=h.a;omega) z hz⟩
   ·exact λc st3 h=>h.never h'.le
   ·intro c st3;revert c;refine jaG λr pa pb out mg ac bc h3=> ?_
    cases r with
    |some r=>exact .pure ⟨r,rfl,h3⟩
    |none=>exact .bind (Tm.modify (.pure (h3.2.at h3.1 λl=>by have n1:i+1+ia+ib<=a.size+b.size:=h.n;have n2:1+ja+jb<=ia+ib:=h'.n;dsimp only at l ⊢;omega)))
 ·exact λc st1 h=>h.never (U5 _ _)
 ·intro c st1;revert c;refine jaE λr ia ib out mg h=> ?_
  obtain⟨c,rfl,gl,wh⟩:=h;exact .pure (q c st1 gl wh)
end
section
variable {prog:Program}{w:World}{A:Around}{E:Value->Shared->Prop}{J:Shared->Prop}{κ:SortKind}{U:Keyed->Prop}{R:Keyed->Keyed->Bool}
def seg (l:List Keyed)(p n:Nat):List Keyed:=(l.drop p).take n
variable {n:Nat}
theorem XT {l:List Keyed}{p i:Nat}(hi:i<n):(seg l p n)[i]? =l[p+i]? :=by
 unfold seg;rw [O6 hi,K8]
theorem Ui {l:List Keyed}{p:Nat}(h:p+n<=l.length):(seg l p n).length=n:=by
 unfold seg;rw [R0,S6];omega
theorem MJ {l:List Keyed}{p:Nat}{x:Keyed}(h:x∈seg l p n):x∈l:=T9 (M9 h)
theorem jcG {left:Bool}{arr:Array Keyed}{y:Keyed}{base hint:Nat}{st:SortSt}{Q:Option Nat->SortSt->Prop}(ak:QF prog w A J κ U R)(kd:kindOf st=κ)(o:Ordd U R)(u: ∀x∈arr.toList,U x)(s:Srt R (seg arr.toList base n))(uy:U y)(hn:base+n<=arr.size)(hh:hint<n)
 (q: ∀k,k<=n->(∀x∈(seg arr.toList base n).take k,(if left=true then R x y else !R y x)=true)->(∀x∈(seg arr.toList base n).drop k,(if left=true then R x y else !R y x)=false)->Q (some k) st):Tm prog w A E J (gal left y arr base n hint) Q st:=by
 have ln:arr.toList.length=arr.size:=by simp
 have sl:(seg arr.toList base n).length=n:=Ui (by omega);have us: ∀x∈seg arr.toList base n,U x:=λx hx=>u x (MJ hx)
 refine Ov ak kd uy (λi hi=> ?_) (λi j hij hj h=> ?_) hh (λk k1 k2 k3=>q k k1 (λx hx=> ?_) (λx hx=> ?_))
 ·obtain⟨x,lx,ex⟩:=Uh (show base+i<arr.size by omega);exact⟨x,ex,u x (G5 lx)⟩
 ·obtain⟨x,lx,_⟩:=Uh (show base+i<arr.size by omega);obtain⟨z,lz,_⟩:=Uh (show base+j<arr.size by omega);have ux:=u x (G5 lx);have uz:=u z (G5 lz);have le:=Ug s o us hij (by rw [XT (by omega)];exact lx) (by rw [XT hj];exact lz);rw [vK lz] at h;rw [vK lx];cases left with
  |true=>
   have hz:R z y=true:=by simpa using h
   rcases o.neg z x y uz ux uy hz with v|v
   ·rw [le] at v;cases v
   ·simp [v]
  |false=>
   have hz:R y z=false:=by simpa using h
   have:=o.trans ux uz uy le hz;simp [this]
 ·obtain⟨i,hi,e⟩:=L8 hx;rw [R0,sl] at hi;have lx:arr.toList[base+i]? =some x:=by
   rw [<-XT (n:=n) (by omega),G0 (by omega),<-e,List.getElem_take]
  have:=k2 i (by omega);rw [vK lx] at this;exact this
 ·obtain⟨i,hi,e⟩:=L8 hx;rw [S6,sl] at hi;have lx:arr.toList[base+(k+i)]? =some x:=by
   rw [<-XT (n:=n) (by omega),G0 (by omega),<-e,G0F]
  have:=k3 (k+i) (by omega) (by omega);rw [vK lx] at this;exact this
theorem Bw: ∀ (m:List Keyed) (arr:Array Keyed) (p d:Nat),p+d+m.length<=arr.size->((m.zipIdx d).foldl (λ(c:Array Keyed) (x:Keyed×Nat)=>c.setIfInBounds (p+x.2) x.1) arr).toList=arr.toList.take (p+d)++m++arr.toList.drop (p+d+m.length)
 | [],arr,p,d,_=>by simp
 |x::m,arr,p,d,h=>by
  rw [D2] at h;rw [List.zipIdx_cons,List.foldl_cons];rw [Bw m _ p (d+1) (by rw [G0G];omega)];have hl:arr.toList.length=arr.size:=by simp
  rw [G0n];have e1:(arr.toList.set (p+d) x).take (p+(d+1))=arr.toList.take (p+d)++ [x]:=by
   rw [show p+(d+1)=p+d+1 by omega,M1,A6 (by omega)];rw [List.take_set_of_le (G6 _)];rfl
  have e2:(arr.toList.set (p+d) x).drop (p+(d+1)+m.length)=arr.toList.drop (p+d+(m.length+1)):=by
   rw [List.drop_set_of_lt (by omega),show p+(d+1)+m.length=p+d+(m.length+1) by omega]
  rw [e1,e2,D2];simp [P2]
end
section
variable {prog:Program}{w:World}{A:Around}{E:Value->Shared->Prop}{J:Shared->Prop}{κ:SortKind}{U:Keyed->Prop}{R:Keyed->Keyed->Bool}
theorem Tm.set {σ:Type}{st st':σ}{Q:PUnit->σ->Prop}(q:Q ⟨⟩ st'):Tm prog w A E J (MonadStateOf.set st':StateT σ Sem PUnit) Q st:=λs j=>by
 show wpAny _ _ ((StateT.set st':StateT σ Sem PUnit).run st) _ _ _;exact G9 ⟨q,j⟩
theorem Oz (a:Array Keyed){p n:Nat}(h:p<=n):(a.extract p n).toList=seg a.toList p (n-p):=by
 rw [E7,List.extract_eq_drop_take];rfl
theorem OA (o:Ordd U R){l:List Keyed}(u: ∀x∈l,U x)(s:Srt R l){z:Keyed}(hz:l[l.length-1]? =some z){x:Keyed}(hx:x∈l):R z x=false:=by
 obtain⟨i,hi,e⟩:=L8 hx;exact Ug s o u (show i<=l.length-1 by omega) (by rw [G0 hi,e]) hz
theorem Bx (o:Ordd U R){l:List Keyed}(u: ∀x∈l,U x)(s:Srt R l){z:Keyed}(hz:l[0]? =some z){x:Keyed}(hx:x∈l):R x z=false:=by
 obtain⟨i,hi,e⟩:=L8 hx;exact Ug s o u (T5 _) hz (by rw [G0 hi,e])
theorem Uj (o:Ordd U R){X Y c:List Keyed}{k k2:Nat}{y0 x9:Keyed}(uX: ∀x∈X,U x)(uY: ∀x∈Y,U x)(sX:Srt R X)(sY:Srt R Y)(hy:Y[0]? =some y0)(hx:X[X.length-1]? =some x9)
 (f1: ∀x∈X.take k,R y0 x=false)(g2: ∀y∈Y.drop k2,R y x9=false)(hp:c.Perm (X.drop k++Y.take k2))(sc:Srt R c):(X.take k++c++Y.drop k2).Perm (X++Y)/\Srt R (X.take k++c++Y.drop k2):=by
 have uy0:=uY y0 (G5 hy);have ux9:=uX x9 (G5 hx);constructor
 ·have e:X++Y=X.take k++(X.drop k++Y.take k2)++Y.drop k2:=by
   rw [<-P2,R7,P2,R7]
  rw [e];exact(hp.append_left _).append_right _
 ·have inX: ∀x∈X.take k,∀z∈X.drop k,R z x=false:=λx hx z hz=>by
   have:Srt R (X.take k++X.drop k):=by rw [R7];exact sX
   exact(S2.mp this).2.2 x hx z hz
  have inY: ∀x∈Y.take k2,∀z∈Y.drop k2,R z x=false:=λx hx z hz=>by
   have:Srt R (Y.take k2++Y.drop k2):=by rw [R7];exact sY
   exact(S2.mp this).2.2 x hx z hz
  have xy: ∀x∈X.take k,∀y∈Y,R y x=false:=λx hx y hy'=>o.trans (uX x (M9 hx)) uy0 (uY y hy') (f1 x hx) (Bx o uY sY hy hy')
  have yx: ∀x∈X,∀y∈Y.drop k2,R y x=false:=λx hx' y hy'=>o.trans (uX x hx') ux9 (uY y (T9 hy')) (OA o uX sX hx hx') (g2 y hy')
  have xc: ∀x∈X.take k,∀z∈c,R z x=false:=λx hx z hz=>by
   rcases D6.mp (hp.mem_iff.mp hz) with v|v
   ·exact inX x hx z v
   ·exact xy x hx z (M9 v)
  refine S2.mpr ⟨S2.mpr ⟨sX.sublist (J0 _ _),sc,xc⟩,sY.sublist (L5 _ _),λx hx y hy=> ?_⟩;rcases D6.mp hx with v|v
  ·exact xy x v y (T9 hy)
  ·rcases D6.mp (hp.mem_iff.mp v) with v|v
   ·exact yx x (T9 v) y hy
   ·exact inY x v y hy
theorem Dv (l:List Keyed){p n m:Nat}:l=l.take p++(seg l p n++seg l (p+n) m)++l.drop (p+n+m):=by
 unfold seg;have e1:(l.drop (p+n)).take m++l.drop (p+n+m)=l.drop (p+n):=by
  rw [show l.drop (p+n+m)=(l.drop (p+n)).drop m by rw [E5],R7]
 have e2:(l.drop p).take n++l.drop (p+n)=l.drop p:=by
  rw [show l.drop (p+n)=(l.drop p).drop n by rw [E5],R7]
 rw [P2,P2,e1,e2,R7]
theorem jab {st:SortSt}{Q:Bool->SortSt->Prop}{i sa na pw sb nb pw2:Nat}(ak:QF prog w A J κ U R)(kd:kindOf st=κ)(o:Ordd U R)(u: ∀x∈(arrOf st).toList,U x)(p1:(pendingOf st)[i]? =some (sa,na,pw))(p2:(pendingOf st)[i+1]? =some (sb,nb,pw2))
 (hs:sa+na=sb)(n1:1<=na)(n2:1<=nb)(hz:sb+nb<=(arrOf st).size)(s1:Srt R (seg (arrOf st).toList sa na))(s2:Srt R (seg (arrOf st).toList sb nb))(hf:failedOf st=none)
 (q: ∀st' Z,kindOf st'=κ->failedOf st'=none->pendingOf st'=((pendingOf st).setIfInBounds i (sa,na+nb,pw)).eraseIdxIfInBounds (i+1)->(arrOf st').toList=(arrOf st).toList.take sa++Z++(arrOf st).toList.drop (sb+nb)->Z.Perm (seg (arrOf st).toList sa na++seg (arrOf st).toList sb nb)->Srt R Z->Q true st'):
 Tm prog w A E J (mergeAt' i) Q st:=by
 have ln:(arrOf st).toList.length=(arrOf st).size:=by simp
 unfold mergeAt';refine .bind (.get ?_);dsimp only;rw [p1,p2];dsimp only;refine .bind (Tm.set ?_);subst hs;have lX:(seg (arrOf st).toList sa na).length=na:=Ui (by omega);have lY:(seg (arrOf st).toList (sa+na) nb).length=nb:=Ui (by omega);have uX: ∀x∈seg (arrOf st).toList sa na,U x:=λx hx=>u x (MJ hx)
 have uY: ∀x∈seg (arrOf st).toList (sa+na) nb,U x:=λx hx=>u x (MJ hx)
 obtain⟨y0,ly0,ey0⟩:=Uh (arr:=arrOf st) (show sa+na<(arrOf st).size by omega);obtain⟨x9,lx9,ex9⟩:=Uh (arr:=arrOf st) (show sa+(na-1)<(arrOf st).size by omega);have hy:(seg (arrOf st).toList (sa+na) nb)[0]? =some y0:=by rw [XT (by omega)];exact ly0
 have hx:(seg (arrOf st).toList sa na)[(seg (arrOf st).toList sa na).length-1]? =some x9:=by rw [lX,XT (by omega)];exact lx9
 have uy0:=u y0 (G5 ly0);have ux9:=u x9 (G5 lx9);have c3:=Dv (arrOf st).toList (p:=sa) (n:=na) (m:=nb);have same: ∀ (st':SortSt),arrOf st'=arrOf st-> ∀k k2,(∀x∈(seg (arrOf st).toList sa na).take k,R y0 x=false)->(∀y∈(seg (arrOf st).toList (sa+na) nb).drop k2,R y x9=false)->(na<=k\/k2=0)->Srt R (seg (arrOf st).toList sa na++seg (arrOf st).toList (sa+na) nb):=λst' e k k2 f1 g2 h=>by
  have pl:(((seg (arrOf st).toList sa na).drop k++(seg (arrOf st).toList (sa+na) nb).take k2)).Perm ((seg (arrOf st).toList sa na).drop k++(seg (arrOf st).toList (sa+na) nb).take k2):= .refl _;have sc:Srt R ((seg (arrOf st).toList sa na).drop k++(seg (arrOf st).toList (sa+na) nb).take k2):=by
   rcases h with h|h
   ·rw [M7 (by omega),T8];exact s2.sublist (J0 _ _)
   ·rw [h,G1c,C7];exact s1.sublist (L5 _ _)
  have:=(Uj o uX uY s1 s2 hy hx f1 g2 pl sc).2;rw [<-P2,R7,P2,R7] at this;exact this
 refine .bind (.elem ey0 (.bind (jcG (left:=false) ak kd o u s1 uy0 (show sa+na<=(arrOf st).size by omega) (by omega) λk k1 f1 f2=> ?_)));have f1: ∀x∈(seg (arrOf st).toList sa na).take k,R y0 x=false:=λx hx=>by simpa using f1 x hx
 have f2: ∀x∈(seg (arrOf st).toList sa na).drop k,R y0 x=true:=λx hx=>by simpa using f2 x hx
 dsimp only
 by_cases z1:na-k=0
 ·rw [if_pos (by simpa using z1)];refine .pure (q _ (seg (arrOf st).toList sa na++seg (arrOf st).toList (sa+na) nb) kd hf rfl c3 (.refl _) (same st rfl k nb f1 (λy hy=> ?_) (.inl (by omega))));rw [M7 (by omega)] at hy;cases hy
 rw [if_neg (by simpa using z1)];refine .bind (.elem (show _=some x9 by rw [show sa+k+(na-k)-1=sa+(na-1) by omega];exact ex9) (.bind (jcG (left:=true) ak kd o u s2 ux9 (show sa+na+nb<=(arrOf st).size by omega) (by omega) λk2 j1 g1 g2=> ?_)));have g1: ∀y∈(seg (arrOf st).toList (sa+na) nb).take k2,R y x9=true:=λx hx=>by simpa using g1 x hx
 have g2: ∀y∈(seg (arrOf st).toList (sa+na) nb).drop k2,R y x9=false:=λx hx=>by simpa using g2 x hx
 dsimp only
 by_cases z2:k2=0
 ·rw [if_pos (by simpa using z2)];exact .pure (q _ _ kd hf rfl c3 (.refl _) (same st rfl k k2 f1 g2 (.inr z2)))
 rw [if_neg (by simpa using z2)];have eX:((arrOf st).extract (sa+k) (sa+na)).toList=(seg (arrOf st).toList sa na).drop k:=by
  rw [Oz _ (by omega)];unfold seg;rw [G1d,E5,show sa+na-(sa+k)=na-k by omega]
 have eY:((arrOf st).extract (sa+na) (sa+na+k2)).toList=(seg (arrOf st).toList (sa+na) nb).take k2:=by
  rw [Oz _ (by omega)];unfold seg;rw [G1e,show sa+na+k2-(sa+na)=min k2 nb by omega]
 have sx:((arrOf st).extract (sa+k) (sa+na)).size=na-k:=by rw [<-T1,eX,S6,lX]
 have sy:((arrOf st).extract (sa+na) (sa+na+k2)).size=k2:=by rw [<-T1,eY,R0,lY];omega
 have hx2: ∀z,((seg (arrOf st).toList sa na).drop k)[((seg (arrOf st).toList sa na).drop k).length-1]? =some z->z=x9:=λz hz'=>by
  rw [S6,K8,lX,show k+(na-k-1)=na-1 by omega] at hz';rw [lX] at hx;rw [hx] at hz';injection hz' with hz';exact hz'.symm
 have hy2: ∀z,((seg (arrOf st).toList (sa+na) nb).take k2)[0]? =some z->z=y0:=λz hz'=>by
  rw [O6 (by omega),hy] at hz';injection hz' with hz';exact hz'.symm
 have put: ∀c:Array Keyed,JV R ((arrOf st).extract (sa+k) (sa+na)) ((arrOf st).extract (sa+na) (sa+na+k2)) c->(c.toList.zipIdx.foldl (λ(d:Array Keyed) (x:Keyed×Nat)=>d.setIfInBounds (sa+k+x.2) x.1) (arrOf st)).toList=(arrOf st).toList.take sa++((seg (arrOf st).toList sa na).take k++c.toList++(seg (arrOf st).toList (sa+na) nb).drop k2)++(arrOf st).toList.drop (sa+na+nb):=λc wh=>by
  have lc:c.toList.length=na-k+k2:=by
   rw [wh.1.length_eq,G8,T1,T1,sx,sy]
  have:=Bw c.toList (arrOf st) (sa+k) 0 (by omega);rw [this,lc,G02,show sa+k+(na-k+k2)=sa+na+k2 by omega];have e1:(arrOf st).toList.take (sa+k)=(arrOf st).toList.take sa++(seg (arrOf st).toList sa na).take k:=by
   unfold seg;rw [G1e,W3 k1,List.take_add]
  have e2:(arrOf st).toList.drop (sa+na+k2)=(seg (arrOf st).toList (sa+na) nb).drop k2++(arrOf st).toList.drop (sa+na+nb):=by
   unfold seg;have h1:((arrOf st).toList.drop (sa+na)).drop k2=(((arrOf st).toList.drop (sa+na)).take nb++((arrOf st).toList.drop (sa+na)).drop nb).drop k2:=by rw [R7]
   rw [O9 (by rw [R0,S6];omega),E5,E5] at h1;exact h1
  rw [e1,e2];simp [P2]
 have jr: ∀c:Array Keyed,JV R ((arrOf st).extract (sa+k) (sa+na)) ((arrOf st).extract (sa+na) (sa+na+k2)) c->_:=λc wh=>Uj o (c:=c.toList) uX uY s1 s2 hy hx f1 g2 (by have:=wh.1;rw [eX,eY] at this;exact this) wh.2
 by_cases z3:na-k<=k2
 ·rw [if_pos z3];refine .bind (qZ ak kd ⟨o,λx hx=> ?_,λx hx=> ?_,?_,?_,λy hy z hz'=> ?_⟩ (by rw [sx];omega) (by rw [sy];omega) (λy z hy' hz'=> ?_) λc st' gl wh=> .bind (Tm.modify (.bind (.get (.pure ?_)))))
  ·rw [eX] at hx;exact uX x (T9 hx)
  ·rw [eY] at hx;exact uY x (M9 hx)
  ·rw [eX];exact s1.sublist (L5 _ _)
  ·rw [eY];exact s2.sublist (J0 _ _)
  ·rw [eY] at hy;rw [eX] at hz';rw [hx2 z hz'];exact g1 y hy
  ·rw [eY] at hy';rw [eX] at hz';rw [hy2 y hy'];exact f2 z (G5 hz')
  ·have e:failedOf st'=none:=gl.2.2.2.trans hf;show Q (failedOf st').isNone _;rw [e];refine q _ _ (gl.1.trans kd) e gl.2.2.1 ?_ (jr c wh).1 (jr c wh).2;have ea:arrOf st'=arrOf st:=gl.2.1;show (c.toList.zipIdx.foldl _ (arrOf st')).toList=_;rw [ea];exact put c wh
 ·rw [if_neg z3];refine .bind (jaa ak kd ⟨o,λx hx=> ?_,λx hx=> ?_,?_,?_,λz hz' y hy'=> ?_⟩ (by rw [sx];omega) (by rw [sy];omega) (λy z hy' hz'=> ?_) λc st' gl wh=> .bind (Tm.modify (.bind (.get (.pure ?_)))))
  ·rw [eX] at hx;exact uX x (T9 hx)
  ·rw [eY] at hx;exact uY x (M9 hx)
  ·rw [eX];exact s1.sublist (L5 _ _)
  ·rw [eY];exact s2.sublist (J0 _ _)
  ·rw [eY] at hy';rw [eX] at hz';rw [hy2 y hy'];exact f2 z hz'
  ·rw [eY] at hy';rw [eX,sx] at hz';have:=hx2 z (by rw [S6,lX];exact hz');rw [this];exact g1 y (G5 hy')
  ·have e:failedOf st'=none:=gl.2.2.2.trans hf;show Q (failedOf st').isNone _;rw [e];refine q _ _ (gl.1.trans kd) e gl.2.2.1 ?_ (jr c wh).1 (jr c wh).2;have ea:arrOf st'=arrOf st:=gl.2.1;show (c.toList.zipIdx.foldl _ (arrOf st')).toList=_;rw [ea];exact put c wh
end
section
variable {prog:Program}{w:World}{A:Around}{E:Value->Shared->Prop}{J:Shared->Prop}{κ:SortKind}{U:Keyed->Prop}{R:Keyed->Keyed->Bool}
def Lies (st:SortSt)(P Z S:List Keyed):Prop:=(arrOf st).toList=P++Z++S
def Arr (st st':SortSt):Prop:=kindOf st'=kindOf st/\pendingOf st'=pendingOf st/\failedOf st'=failedOf st/\gallopOf st'=gallopOf st
theorem Arr.refl (st:SortSt):Arr st st:=⟨rfl,rfl,rfl,rfl⟩
theorem Sw (xs:Array Keyed)(P Z S:List Keyed)(h:xs.toList=P++Z++S):(mirror xs P.length (P.length+Z.length) ((P.length+Z.length-P.length) / 2)).toList=P++Z.reverse++S:=by
 have hl:xs.size=P.length+Z.length+S.length:=by rw [<-T1,h];simp [V9]
 refine U2 λk=> ?_
 rw [M0,getElem?_mirror_all (by omega)]
 by_cases c:P.length<=k/\k<P.length+Z.length
 ·rw [if_pos c,<-M0,h,P2,P2];have e1:(P++(Z++S))[P.length+(P.length+Z.length)-1-k]? =Z[P.length+Z.length-1-k]? :=by
   rw [P7 (by omega),S0 (by omega)]
   congr 1;omega
  have e2:(P++(Z.reverse++S))[k]? =Z[P.length+Z.length-1-k]? :=by
   rw [P7 (by omega),S0 (by rw [R6];omega),O5 (by omega)]
   congr 1;omega
  rw [e1,e2]
 ·rw [if_neg c,<-M0,h,P2,P2]
  by_cases d:k<P.length
  ·rw [S0 d,S0 d]
  ·have e1:(P++(Z++S))[k]? =S[k-P.length-Z.length]? :=by
    rw [P7 (by omega),P7 (by omega)]
   have e2:(P++(Z.reverse++S))[k]? =S[k-P.length-Z.length]? :=by
    rw [P7 (by omega),P7 (by rw [R6];omega),R6]
   rw [e1,e2]
theorem Tm.rev {st:SortSt}{P Z S:List Keyed}{i j:Nat}{Q:Unit->SortSt->Prop}(h:Lies st P Z S)(hi:i=P.length)(hj:j=P.length+Z.length)(q: ∀st',Arr st st'->Lies st' P Z.reverse S->Q () st'):Tm prog w A E J (reverseSlice' i j) Q st:=by
 rw [reverseSlice'_eq];subst hi hj;exact .modify (q _ ⟨rfl,rfl,rfl,rfl⟩ (Sw _ P Z S h))
theorem Tm.ltAt {st:SortSt}{x y:Keyed}{i j:Nat}{Q:Option Bool->SortSt->Prop}(ak:QF prog w A J κ U R)(kd:kindOf st=κ)(hx:(arrOf st).toList[i]? =some x)(hy:(arrOf st).toList[j]? =some y)(ux:U x)(uy:U y)(q:Q (some (R x y)) st):Tm prog w A E J (ltAt' i j) Q st:=by
 rw [ltAt'_eq];exact .bind (.get (.bind (.elem (by rw [<-M0];exact hx) (.bind (.elem (by rw [<-M0];exact hy) (.lt ak kd ux uy q))))))
abbrev Dsc (R:Keyed->Keyed->Bool)(l:List Keyed):Prop:=l.Pairwise λx y=>R x y=false
theorem KT {l:List Keyed}(d:Dsc R l):Srt R l.reverse:=Y1.mpr d
theorem Sx (o:Ordd U R){l:List Keyed}{x y:Keyed}(u: ∀z∈l++ [x],U z)(uy:U y)(s:Srt R (l++ [x]))(h:R y x=false):Srt R (l++ [x]++ [y]):=by
 refine S2.mpr ⟨s,N7 _ _,λz hz v hv=> ?_⟩;rw [G7.mp hv];have ux:=u x (by simp);rcases D6.mp hz with w|w
 ·exact o.trans (u z hz) ux uy ((S2.mp s).2.2 z w x (by simp)) h
 ·rw [G7.mp w];exact h
theorem Sy {l m:List Keyed}(s:Dsc R (l++m))(alike: ∀x∈m,∀y∈m,R x y=false):Dsc R (l++m.reverse):=by
 obtain⟨a,b,c⟩:=S2.mp s;refine S2.mpr ⟨a,?_,λx hx y hy=>c x hx y (F9.mp hy)⟩;rw [E4];intro i j hi hj _;exact alike _ (F9.mp (S9 hi)) _ (F9.mp (S9 hj))
end
section
variable {prog:Program}{w:World}{A:Around}{E:Value->Shared->Prop}{J:Shared->Prop}{κ:SortKind}{U:Keyed->Prop}{R:Keyed->Keyed->Bool}
theorem Arr.trans {a b c:SortSt}(x:Arr a b)(y:Arr b c):Arr a c:=⟨y.1.trans x.1,y.2.1.trans x.2.1,y.2.2.1.trans x.2.2.1,y.2.2.2.trans x.2.2.2⟩
variable {P Z:List Keyed}
theorem Lies.rest {st:SortSt}{S:List Keyed}(h:Lies st P Z S){i:Nat}:(arrOf st).toList[P.length+Z.length+i]? =S[i]? :=by
 rw [h,P7 (by rw [G8];omega),G8]
 congr 1;omega
theorem Lies.end {st:SortSt}{W S:List Keyed}{x:Keyed}(h:Lies st P (W++ [x]) S):(arrOf st).toList[P.length+W.length]? =some x:=by
 rw [h,P2,P7 (by omega),P2,P7 (by omega)];simp
theorem XU {l:List Keyed}(h:1<=l.length): ∃W x,l=W++ [x]:=by
 rcases List.eq_nil_or_concat l with e|⟨W,x,e⟩
 ·subst e;simp at h
 ·exact⟨W,x,by rw [e,List.concat_eq_append]⟩
structure Fall (R:Keyed->Keyed->Bool)(T Z1 Z2:List Keyed)(n:Nat):Prop where
 len:(Z1++Z2).length=n
 perm:(Z1++Z2).Perm (T.take n)
 dsc:Dsc R (Z1++Z2)
 alike: ∀x∈Z2,∀y∈Z2,R x y=false
 ne:1<=Z2.length
variable {T:List Keyed}{n:Nat}
theorem Fall.turn {Z1 Z2:List Keyed}(f:Fall R T Z1 Z2 n):Fall R T Z1 Z2.reverse n:=
 ⟨by have:=f.len;simp only [G8,R6] at this ⊢;exact this,((L7 Z2).append_left Z1).trans f.perm,Sy f.dsc f.alike,λx hx y hy=>f.alike x (F9.mp hx) y (F9.mp hy),by rw [R6];exact f.ne⟩
theorem Fall.mem {Z1 Z2:List Keyed}(f:Fall R T Z1 Z2 n){x:Keyed}(h:x∈Z1++Z2):x∈T:=M9 (f.perm.mem_iff.mp h)
theorem WA {y:Keyed}(h:Z.Perm (T.take n))(hy:T[n]? =some y):(Z++ [y]).Perm (T.take (n+1)):=by
 rw [Uf hy];exact h.append_right _
theorem Fall.below (o:Ordd U R){T Z1 Z2:List Keyed}{n:Nat}{x y:Keyed}(u: ∀x∈T,U x)(f:Fall R T Z1 Z2 n)(hx:x∈Z2)(hy:T[n]? =some y)(h:R y x=true):Fall R T (Z1++Z2) [y] (n+1):=by
 have uy:=u y (G5 hy);have ux:=u x (f.mem (D6.mpr (.inr hx)));have xy:=o.asym y x uy ux h;refine⟨by rw [G8,f.len];rfl,WA f.perm hy,?_,λa ha b hb=> ?_,by simp⟩
 ·refine S2.mpr ⟨f.dsc,N7 _ _,λz hz v hv=> ?_⟩;rw [G7.mp hv];have uz:=u z (f.mem hz);have zx:R z x=false:=by
   rcases D6.mp hz with w|w
   ·exact(S2.mp f.dsc).2.2 z w x hx
   ·exact f.alike z w x hx
  exact o.trans uy ux uz xy zx
 ·rw [G7.mp ha,G7.mp hb];exact o.refl uy
theorem Fall.like (o:Ordd U R){T Z1 Z2:List Keyed}{n:Nat}{x y:Keyed}(u: ∀x∈T,U x)(f:Fall R T Z1 Z2 n)(hx:x∈Z2)(hy:T[n]? =some y)(h:R y x=false)(h':R x y=false):Fall R T Z1 (Z2++ [y]) (n+1):=by
 have uy:=u y (G5 hy);have ux:=u x (f.mem (D6.mpr (.inr hx)));have zy: ∀z∈Z1++Z2,R z y=false:=λz hz=>by
  have uz:=u z (f.mem hz);have zx:R z x=false:=by
   rcases D6.mp hz with w|w
   ·exact(S2.mp f.dsc).2.2 z w x hx
   ·exact f.alike z w x hx
  exact o.trans uy ux uz h' zx
 have yz: ∀z∈Z2,R y z=false:=λz hz=>o.trans (u z (f.mem (D6.mpr (.inr hz)))) ux uy (f.alike x hx z hz) h
 refine⟨by rw [<-P2,G8,f.len];rfl,by rw [<-P2];exact WA f.perm hy,?_,λa ha b hb=> ?_,by simp⟩
 ·rw [<-P2];refine S2.mpr ⟨f.dsc,N7 _ _,λz hz v hv=> ?_⟩;rw [G7.mp hv];exact zy z hz
 ·rcases D6.mp ha with p|p<;>rcases D6.mp hb with r|r
  ·exact f.alike a p b r
  ·rw [G7.mp r];exact zy a (D6.mpr (.inr p))
  ·rw [G7.mp p];exact yz b r
  ·rw [G7.mp p,G7.mp r];exact o.refl uy
theorem Lies.more {st:SortSt}{m:Nat}{y:Keyed}(L:Lies st P Z (T.drop m))(hy:T[m]? =some y):Lies st P (Z++ [y]) (T.drop (m+1)):=by
 unfold Lies at L ⊢;rw [L,zV hy];simp
theorem Lies.part {st:SortSt}{Z1 Z2 S:List Keyed}:Lies st P (Z1++Z2) S↔Lies st (P++Z1) Z2 S:=by
 unfold Lies;simp only [List.append_assoc]
theorem Lies.two {st:SortSt}{m:Nat}{y:Keyed}(L:Lies st P Z (T.drop m))(lz:Z.length=m)(m1:1<=m)(hy:T[m]? =some y):(arrOf st).toList[P.length+m]? =some y/\ ∃W x,Z=W++ [x]/\(arrOf st).toList[P.length+m-1]? =some x:=by
 have a:=L.rest (i:=0);rw [K8,lz,G02,G02,hy] at a;obtain⟨W,x,e⟩:=XU (l:=Z) (by omega);subst e;refine⟨a,W,x,rfl,?_⟩;rw [<-L.end]
 congr 1
 rw [G8,O3] at lz;omega
section
variable {σ ρ τ α:Type}{st:σ}
theorem Tm.rangeN {f:Nat->Option ρ×τ->StateT σ Sem (ForInStep (Option ρ×τ))}(I:Nat->τ->σ->Prop){Q:τ->σ->Prop}{Q':Option ρ×τ->σ->Prop}{a b:Nat}{c:τ}(hab:a<=b)(h:I a c st)(step: ∀i c st,i<b->I i c st->Tm prog w A E J (f i (none,c)) (λr st'=>match r with| .done c'=>c'.1=none/\Q c'.2 st'| .yield c'=>c'.1=none/\I (i+1) c'.2 st') st)(fin: ∀c st,I b c st->Q c st)(q: ∀c st,Q c st->Q' (none,c) st):Tm prog w A E J (forIn [a:b] ((none:Option ρ),c) f) Q' st:=by
 refine Tm.mono (Tm.range (λi c st=>c.1=none/\I i c.2 st) (Q:=λc st=>c.1=none/\Q c.2 st) hab ⟨rfl,h⟩ ?_ λc st h=>⟨h.1,fin _ _ h.2⟩) ?_
 ·rintro i ⟨_,c⟩ st hi ⟨rfl,h⟩;exact(step i c st hi h).mono λr st' x=>by cases r<;>exact x
 ·rintro ⟨_,c⟩ st ⟨rfl,h⟩;exact q c st h
theorem Tm.fork {c:Prop}[Decidable c]{t e:StateT σ Sem α}{Q:α->σ->Prop}(I:σ->Prop)(G: ∀s,I s->Tm prog w A E J e Q s)(T:c->(∀s,I s->Tm prog w A E J e Q s)->Tm prog w A E J t Q st)(F: ¬c->I st):Tm prog w A E J (if c then t else e) Q st:=
 .if2 (λh=>T h G) λh=>G _ (F h)
end
section
variable {st:SortSt}{P T Z:List Keyed}{m:Nat}
theorem OB {f:Nat->Option (Option Nat)×Nat->StateT SortSt Sem (ForInStep (Option (Option Nat)×Nat))}{G:Nat->Option Bool->StateT SortSt Sem (ForInStep (Option (Option Nat)×Nat))}{Q:Option (Option Nat)×Nat->SortSt->Prop}(ak:QF prog w A J κ U R)(kd:kindOf st=κ)(o:Ordd U R)(u: ∀x∈T,U x)
 (hf: ∀i n,f i (none,n)=ltAt' (P.length+n) (P.length+n-1) >>= G n)(hG: ∀n,G n (some true)=Pure.pure (.done (none,n))/\G n (some false)=Pure.pure (.yield (none,n+1)))
 (m1:1<=m)(m2:m<=T.length)(L:Lies st P Z (T.drop m))(p:Z.Perm (T.take m))(s:Srt R Z)
 (q: ∀n Z',1<=n->n<=T.length->Lies st P Z' (T.drop n)->Z'.Perm (T.take n)->Srt R Z'->(∀y,T[n]? =some y-> ∃W x,Z'=W++ [x]/\R y x=true)->Q (none,n) st):Tm prog w A E J (forIn [m:T.length] ((none:Option (Option Nat)),m) f) Q st:=by
 refine Tm.rangeN (λi c s=>s=st/\c=i/\1<=i/\ ∃Z,Lies st P Z (T.drop i)/\Z.Perm (T.take i)/\Srt R Z) (Q:=λn s=>s=st/\Q (none,n) st) m2 ⟨rfl,rfl,m1,Z,L,p,s⟩ ?_ ?_ λc s h=>h.1 ▸ h.2
 ·rintro _ i _ hi ⟨rfl,rfl,i1,Z,L,p,s⟩;have hy:=G0 hi;obtain⟨ay,W,x,rfl,ax⟩:=L.two (by rw [p.length_eq,R0,W3 (D7 hi)]) i1 hy;have uy:=u _ (S9 hi);have uZ: ∀z∈W++ [x],U z:=λz hz=>u z (M9 (p.mem_iff.mp hz))
  rw [hf];refine .bind (.ltAt ak kd ay ax uy (uZ x (by simp)) ?_);cases hb:R T[i] x with
  |true=>
   rw [(hG _).1];exact .pure ⟨rfl,rfl,q i _ i1 (D7 hi) L p s λy h=>⟨W,x,rfl,by rw [hy] at h;injection h with h;rw [<-h];exact hb⟩⟩
  |false=>
   rw [(hG _).2];exact .pure ⟨rfl,rfl,rfl,Y3 (T5 _),_,L.more hy,WA p hy,Sx o uZ uy s hb⟩
 ·rintro _ _ ⟨rfl,rfl,i1,Z,L,p,s⟩;exact⟨rfl,q _ Z i1 (G6 _) L p s λy h=>absurd (G3.mp h).1 (T6 _)⟩
end
def Fell (R:Keyed->Keyed->Bool)(P T:List Keyed)(st st':SortSt)(n k:Nat):Prop:=Arr st st'/\ ∃Z1 Z2,Lies st' P (Z1++Z2) (T.drop n)/\Fall R T Z1 Z2 n/\Z2.length=k+1
theorem Fell.rev {st s2:SortSt}{k:Nat}{Q:Unit->SortSt->Prop}(h:Fell R P T st s2 n k)(q: ∀s3,Fell R P T st s3 n k->Q () s3):Tm prog w A E J (reverseSlice' (P.length+n-(k+1)) (P.length+n)) Q s2:=by
 obtain⟨ar,Z1,Z2,L,F,l⟩:=h;have l12:=F.len;rw [G8] at l12;exact .rev (Lies.part.mp L) (by rw [G8];omega) (by rw [G8];omega) λs3 ar3 L3=>q s3 ⟨ar.trans ar3,Z1,_,Lies.part.mpr L3,F.turn,by rw [R6];exact l⟩
theorem Sz {st:SortSt}{Q:Option Nat->SortSt->Prop}(ak:QF prog w A J κ U R)(kd:kindOf st=κ)(o:Ordd U R)(u: ∀x∈T,U x)(h:Lies st P [] T)(h1:1<=T.length)
 (q: ∀n st' Z,1<=n->n<=T.length->Arr st st'->Lies st' P Z (T.drop n)->Z.Perm (T.take n)->Srt R Z->Q (some n) st'):Tm prog w A E J (countRun' P.length T.length) Q st:=by
 refine .bind (OB (m:=1) (Z:=T.take 1) ak kd o u (by exact λi n=>rfl) (by exact λn=>⟨rfl,rfl⟩) (G6 _) h1 ?_ (.refl _) ?_ λn Z n1 n2 L p sr br=> ?_)
 ·unfold Lies at h ⊢;rw [h,C7,P2,R7]
 ·match T,h1 with
  |x::r,_=>exact N7 _ _
 refine .eq2 (x:=n) (y:=T.length) (λz1=> .pure (q n _ _ n1 n2 (Arr.refl _) L p sr)) λz1=> ?_
 have n3:n<T.length:=B6 n2 z1;have hy:=G0 n3;have uZ: ∀z∈Z,U z:=λz hz=>u z (M9 (p.mem_iff.mp hz))
 obtain⟨W,x,e,yx⟩:=br _ hy;have lz:Z.length=n:=by rw [p.length_eq,R0,W3 n2]
 have xin:x∈Z:=by rw [e];simp
 have xl:Z[Z.length-1]? =some x:=by rw [e];simp
 have F0:(∀p∈Z,∀r∈Z,R p r=false)->Fall R T [] Z n:=λal=>⟨lz,p,E4.mpr λi j hi hj _=>al _ (S9 hi) _ (S9 hj),al,by rw [lz];exact n1⟩
 refine Tm.fork (λs=>Fell R P T st s (n+1) 0) ?_ ?_ ?_
 ·intro s1 F1;refine .bind (.rule (.bind (Tm.rangeN (λi c s=>c.1=i/\Fell R P T st s c.1 c.2) (Q:=λc s=>c.1<=T.length/\Fell R P T st s c.1 c.2) n3 ⟨rfl,F1⟩ ?_ (λc s h=>⟨E2 h.1,h.2⟩) ?_)))
  ·intro i c s2 hi h2;have hc:c.1<T.length:=by rw [h2.1];exact hi
   have hy:=G0 hc;have uy:=u _ (S9 hc);obtain⟨e1,ar2,Z1,Z2,L2,F2,l2⟩:=h2;have l12:=F2.len;obtain⟨ay,W,x,eW,ax⟩:=L2.two l12 (by rw [<-l12,G8,l2];exact Q6 _ _) hy;have xin:x∈Z2:=by
    obtain⟨V,v,e⟩:=XU F2.ne;have e':=congrArg List.getLast? eW;rw [e,<-P2,G09,G09] at e';injection e' with e'
    rw [e,<-e'];simp
   have ux:=u x (F2.mem (D6.mpr (.inr xin)));refine .bind (.ltAt ak (ar2.1.trans kd) ay ax uy ux (.if2 (c:=R _ x=true) (λhb=> ?_) λhb=> .bind (.ltAt ak (ar2.1.trans kd) ax ay ux uy (.if2 (c:=R x _=true) (λhc'=> .pure ⟨rfl,D7 hc,ar2,Z1,Z2,L2,F2,l2⟩) λhc'=> ?_))))
   ·refine Tm.fork (λs=>Fell R P T st s (c.1+1) 0) (λs h=> .pure ⟨rfl,congrArg Nat.succ e1,h⟩) (λzq H=> .bind ?_) λzq=>⟨ar2,Z1++Z2,[T[c.1]],L2.more hy,F2.below o u xin hy hb,rfl⟩
    have l12':=l12;rw [G8] at l12';exact .rev (Lies.part.mp L2) (by rw [List.length_append];dsimp only;omega) (by rw [List.length_append];dsimp only;omega) λs3 ar3 L3=>H s3 ⟨ar2.trans ar3,Z1++Z2.reverse,[T[c.1]],(Lies.part.mpr L3).more hy,F2.turn.below o u (List.mem_reverse.mpr xin) hy hb,rfl⟩
   ·refine .pure ⟨rfl,congrArg Nat.succ e1,ar2,Z1,Z2++ [T[c.1]],?_,F2.like o u xin hy (U1.mpr hb) (U1.mpr hc'),by rw [G8,l2];rfl⟩;rw [<-P2];exact L2.more hy
  ·intro c s2 h2;refine Tm.fork (λs=> ∃k,Fell R P T st s c.1 k) ?_ (λzq H=> .bind (h2.2.rev λs h=>H s ⟨_,h⟩)) λzq=>⟨_,h2.2⟩
   intro s3 h3;obtain⟨k,ar3,Z1,Z2,L3,F3,l3⟩:=h3;have m1:1<=c.1:=by rw [<-F3.len,G8,l3];exact Q6 _ _
   exact .bind (.rev L3 rfl (by rw [F3.len]) λs4 ar4 L4=> .bind (OB ak ((ar3.trans ar4).1.trans kd) o u (by exact λi n=>rfl) (by exact λn=>⟨rfl,rfl⟩) m1 h2.1 L4 ((L7 _).trans F3.perm) (KT F3.dsc) λn Z n1 n2 L p sr _=> .pure (q n s4 Z n1 n2 (ar3.trans ar4) L p sr)))
 ·intro z2 H;obtain⟨x0,V,eV⟩: ∃x0 V,Z=x0::V:=by
   match Z,xin with
   |a::r,_=>exact⟨a,r,rfl⟩
  have ux:=uZ x xin;have ux0:=uZ x0 (by rw [eV];simp);have a0:(arrOf st).toList[P.length]? =some x0:=by rw [L,eV];simp
  have a1:(arrOf st).toList[P.length+n-1]? =some x:=by
   obtain⟨_,W',x',e',ax⟩:=L.two lz n1 hy;rw [e] at e';rw [ax,(List.append_inj' e' rfl).2 |> λh=>(List.cons.inj h).1]
  exact .bind (.ltAt ak kd a0 a1 ux0 ux (.if2 (c:=R x0 x=true) (λ_=> .pure (q n _ _ n1 n2 (Arr.refl _) L p sr)) λhr0=> .bind (.rev L rfl (by rw [lz]) λs1 ar1 L1=>H s1 ⟨ar1,_,_,L1.more hy,Fall.below o u (Z1:= []) (Fall.turn (F0 λp hp r hr=>o.trans (uZ r hr) ux (uZ p hp) (OA o uZ sr xl hr) (U1.mpr λv=>(o.neg p x0 x (uZ p hp) ux0 ux v).elim (λv=>by rw [Bx o uZ sr (z:=x0) (by rw [eV];rfl) hp] at v;cases v) hr0))) (F9.mpr xin) hy yx,rfl⟩)))
 ·intro z2;have w0:W= []:=Y4 (by rw [e,G8,O3] at lz;omega);have f: ∀z∈Z,z=x:=λz hz=>by rw [e,w0] at hz;exact G7.mp hz
  exact⟨Arr.refl st,_,_,L.more hy,Fall.below o u (Z1:= []) (F0 λp hp r hr=>by rw [f p hp,f r hr];exact o.refl (uZ x xin)) xin hy yx,rfl⟩
end
section
variable {prog:Program}{w:World}{A:Around}{E:Value->Shared->Prop}{J:Shared->Prop}{κ:SortKind}{U:Keyed->Prop}{R:Keyed->Keyed->Bool}
theorem SA (xs:Array Keyed)(P Z S:List Keyed)(y:Keyed)(l:Nat)(hl:l<=Z.length)(h:xs.toList=P++Z++y::S):(bubble xs (P.length+Z.length) (Z.length-l)).toList=P++(Z.take l++ [y]++Z.drop l)++S:=by
 have hz:xs.size=P.length+Z.length+(S.length+1):=by rw [<-T1,h];simp [V9]
 have at_: ∀k,xs[k]? =(P++Z++y::S)[k]? :=λk=>by rw [<-M0,h]
 refine U2 λk=> ?_
 rw [M0,getElem?_bubble (by omega) _ (by omega)];have lt:(Z.take l).length=l:=by rw [R0];omega
 by_cases c:k=P.length+Z.length-(Z.length-l)
 ·rw [if_pos c,at_];have e1:(P++Z++y::S)[P.length+Z.length]? =some y:=by
   rw [P7 (by rw [G8];omega),G8,Nat.sub_self];rfl
  have e2:(P++(Z.take l++ [y]++Z.drop l)++S)[k]? =some y:=by
   rw [P2,P7 (by omega),P2,P2,P7 (by rw [lt];omega),lt,show k-P.length-l=0 by omega];rfl
  rw [e1,e2]
 ·rw [if_neg c]
  by_cases d:P.length+Z.length-(Z.length-l)<k/\k<=P.length+Z.length
  ·rw [if_pos d,at_];have e1:(P++Z++y::S)[k-1]? =Z[k-1-P.length]? :=by
    rw [P2,P7 (by omega),S0 (by omega)]
   have e2:(P++(Z.take l++ [y]++Z.drop l)++S)[k]? =Z[k-1-P.length]? :=by
    rw [P2,P7 (by omega),S0 (by simp only [G8,R0,S6,O3];omega),P7 (by rw [G8,lt];simp;omega),G8,lt,K8]
    congr 1;simp;omega
   rw [e1,e2]
  ·rw [if_neg d,at_]
   by_cases f:k<P.length+l
   ·have e1:(P++Z++y::S)[k]? =(P++Z.take l)[k]? :=by
     have:P++Z++y::S=P++Z.take l++(Z.drop l++y::S):=by
      rw [P2,P2,<-P2 (Z.take l),R7]
     rw [this,S0 (by rw [G8,lt];omega)]
    have e2:(P++(Z.take l++ [y]++Z.drop l)++S)[k]? =(P++Z.take l)[k]? :=by
     have:P++(Z.take l++ [y]++Z.drop l)++S=P++Z.take l++([y]++Z.drop l++S):=by simp [P2]
     rw [this,S0 (by rw [G8,lt];omega)]
    rw [e1,e2]
   ·have e1:(P++Z++y::S)[k]? =S[k-P.length-Z.length-1]? :=by
     rw [P7 (by rw [G8];omega),G8,List.getElem?_cons,if_neg (by omega)]
     congr 1;omega
    have e2:(P++(Z.take l++ [y]++Z.drop l)++S)[k]? =S[k-P.length-Z.length-1]? :=by
     rw [P7 (by simp only [G8,R0,S6,O3];omega)]
     congr 1;simp only [G8,R0,S6,O3];omega
    rw [e1,e2]
theorem KU (o:Ordd U R){Z:List Keyed}{y:Keyed}{l:Nat}(u: ∀z∈Z,U z)(uy:U y)(s:Srt R Z)(a: ∀z∈Z.take l,R y z=false)(b: ∀z∈Z.drop l,R y z=true):Srt R (Z.take l++ [y]++Z.drop l):=by
 have s':Srt R (Z.take l++Z.drop l):=by rw [R7];exact s
 obtain⟨s1,s2,s3⟩:=S2.mp s';refine S2.mpr ⟨S2.mpr ⟨s1,N7 _ _,λx hx z hz=> ?_⟩,s2,λx hx z hz=> ?_⟩
 ·rw [G7.mp hz];exact a x hx
 ·rcases D6.mp hx with v|v
  ·exact s3 x v z hz
  ·rw [G7.mp v];exact o.asym y z uy (u z (T9 hz)) (b z hz)
theorem jad {st:SortSt}{Q:Bool->SortSt->Prop}{P T Z:List Keyed}{n k:Nat}(ak:QF prog w A J κ U R)(kd:kindOf st=κ)(o:Ordd U R)(u: ∀x∈T,U x)(h:Lies st P Z (T.drop k))(hp:Z.Perm (T.take k))(hs:Srt R Z)(k1:1<=k)(kn:k<=n)(hn:n<=T.length)
 (q: ∀st' Z',Arr st st'->Lies st' P Z' (T.drop n)->Z'.Perm (T.take n)->Srt R Z'->Q true st'):Tm prog w A E J (binarySort' P.length n k) Q st:=by
 unfold binarySort';refine .bind (Tm.mono (Tm.range (λi c s1=>Arr st s1/\c.1=none/\1<=i/\ ∃Z,Lies s1 P Z (T.drop i)/\Z.Perm (T.take i)/\Srt R Z) (Q:=λc s1=>Arr st s1/\c.1=none/\ ∃Z,Lies s1 P Z (T.drop n)/\Z.Perm (T.take n)/\Srt R Z) (by omega) ⟨Arr.refl st,rfl,by omega,Z,by rw [Nat.max_eq_left k1];exact h,by rw [Nat.max_eq_left k1];exact hp,hs⟩ ?_ ?_) ?_)
 ·rintro i ⟨r,c2⟩ s1 hi ⟨ar,hr,i1,Z,L,p,s⟩;dsimp only at hr ⊢;subst hr;obtain⟨y,hy⟩: ∃y,T[i]? =some y:=⟨_,G0 (by omega)⟩;have uy:=u y (G5 hy);have lz:Z.length=i:=by rw [p.length_eq,R0];omega
  have uZ: ∀z∈Z,U z:=λz hz=>u z (M9 (p.mem_iff.mp hz))
  have ay:(arrOf s1).toList[P.length+i]? =some y:=by
   have:=L.rest (i:=0);rw [K8,lz] at this;rw [G02] at this;rw [this];exact hy
  have az: ∀m,m<i-> ∃z,Z[m]? =some z/\(arrOf s1).toList[P.length+m]? =some z:=λm hm=>by
   refine⟨Z[m],G0 (by omega),?_⟩;rw [L,P2,P7 (by omega),S0 (by omega),G0M,G0 (by omega)]
  refine .bind (Tm.mono (Tm.range (λj c s2=>s2=s1/\c.1=none/\c.2.1<=c.2.2/\c.2.2<=i/\(∀z∈Z.take c.2.1,R y z=false)/\(∀z∈Z.drop c.2.2,R y z=true)/\c.2.2-c.2.1+j<=i) (Q:=λc s2=>s2=s1/\c.1=none/\c.2.1<=i/\(∀z∈Z.take c.2.1,R y z=false)/\(∀z∈Z.drop c.2.1,R y z=true)) (Nat.zero_le _) ⟨rfl,rfl,Nat.zero_le _,Nat.le_refl _,λz hz=> ?_,λz hz=> ?_,by dsimp only;omega⟩ ?_ ?_) ?_)
  ·dsimp only at hz;rw [List.take_zero] at hz;cases hz
  ·dsimp only at hz;rw [List.drop_eq_nil_of_le (by omega)] at hz;cases hz
  ·rintro j ⟨r,l,v⟩ _ hj ⟨rfl,hr,b1,b2,b3,b4,b5⟩;dsimp only at hr b1 b2 b3 b4 b5 ⊢;subst hr
   by_cases c1:l>=v
   ·rw [if_pos c1];have:l=v:=by omega
    subst this;exact .pure ⟨rfl,rfl,b2,b3,b4⟩
   rw [if_neg c1];obtain⟨z,hz,ez⟩:=az ((l+v) / 2) (by omega);have uz:=uZ z (G5 hz);refine .bind (.ltAt ak (ar.1.trans kd) ay ez uy uz ?_);dsimp only;cases hb:R y z with
   |true=>
    rw [if_pos rfl];refine .pure ⟨rfl,rfl,by dsimp only;omega,by dsimp only;omega,b3,λx hx=> ?_,by dsimp only;omega⟩;dsimp only at hx;have zx:R x z=false:=by
     obtain⟨t,ht,e⟩:=L8 hx;rw [S6] at ht;exact Ug s o uZ (show (l+v) / 2<=(l+v) / 2+t by omega) hz (by rw [G0 (by omega),<-e,G0F])
    rcases o.neg y x z uy (uZ x (T9 hx)) uz hb with w|w
    ·exact w
    ·rw [zx] at w;cases w
   |false=>
    rw [if_neg (by decide)];refine .pure ⟨rfl,rfl,by dsimp only;omega,b2,λx hx=> ?_,b4,by dsimp only;omega⟩;dsimp only at hx;have xz:R z x=false:=by
     obtain⟨t,ht,e⟩:=L8 hx;rw [R0] at ht;exact Ug s o uZ (show t<=(l+v) / 2 by omega) (by rw [G0 (by omega),<-e,List.getElem_take]) hz
    exact o.trans (uZ x (M9 hx)) uz uy xz hb
  ·rintro ⟨r,l,v⟩ _ ⟨rfl,hr,b1,b2,b3,b4,b5⟩;dsimp only at hr b1 b2 b3 b4 b5 ⊢;have:l=v:=by omega
   subst this;exact⟨rfl,hr,b2,b3,b4⟩
  ·rintro ⟨r,l,v⟩ s2 ⟨rfl,hr,b2,b3,b4⟩;dsimp only at hr b2 b3 b4 ⊢;subst hr;dsimp only;refine .bind ?_;show Tm prog w A E J (moveDown' (P.length+i) (P.length+l)) _ _;rw [moveDown'_eq];refine .modify (.pure ⟨ar.trans ⟨rfl,rfl,rfl,rfl⟩,rfl,by omega,Z.take l++ [y]++Z.drop l,?_,?_,KU o uZ uy s b3 b4⟩)
   ·have:=SA (arrOf s2) P Z (T.drop (i+1)) y l (by omega) (by rw [<-zV hy];exact L);rw [lz] at this;rw [show P.length+i-(P.length+l)=i-l by omega];exact this
   ·refine List.Perm.trans ?_ (WA p hy);rw [P2];have e:Z++ [y]=Z.take l++(Z.drop l++ [y]):=by rw [<-P2,R7]
    rw [e];exact(Q5).append_left _
 ·rintro ⟨r,c2⟩ s1 ⟨ar,hr,i1,Z,L,p,s⟩;exact⟨ar,hr,Z,L,p,s⟩
 ·rintro ⟨r,c2⟩ s1 ⟨ar,hr,Z,L,p,s⟩;dsimp only at hr ⊢;subst hr;exact .pure (q s1 Z ar L p s)
end
section
variable {prog:Program}{w:World}{A:Around}{E:Value->Shared->Prop}{J:Shared->Prop}{κ:SortKind}{U:Keyed->Prop}{R:Keyed->Keyed->Bool}
def Stk (R:Keyed->Keyed->Bool)(l:List Keyed):List (Nat×Nat×Nat)->Nat->Nat->Prop
 | [],s,e=>s=e
 |(p,n,_)::rest,s,e=>p=s/\1<=n/\Srt R (seg l p n)/\Stk R l rest (s+n) e
variable {l:List Keyed}
theorem Stk.le: ∀ {pl:List (Nat×Nat×Nat)} {s e:Nat},Stk R l pl s e->s+pl.length<=e
 | [],s,e,h=>by cases h;simp
 |(p,n,_)::rest,s,e,⟨_,n1,_,h⟩=>by have:=Stk.le h;simp only [D2];omega
theorem SB {l':List Keyed}{p n e:Nat}(h:l.take e=l'.take e)(he:p+n<=e):seg l p n=seg l' p n:=by
 have cut: ∀k:List Keyed,seg k p n=seg (k.take e) p n:=λk=>by
  unfold seg;rw [G1d,G1e,W3 (by omega)]
 rw [cut l,cut l',h]
theorem Stk.same {l':List Keyed}: ∀ {pl:List (Nat×Nat×Nat)} {s e:Nat},Stk R l pl s e->l.take e=l'.take e->Stk R l' pl s e
 | [],s,e,h,_=>h
 |(p,n,_)::rest,s,e,⟨a,b,c,d⟩,h=>by
  have:=d.le;exact⟨a,b,by rw [<-SB h (by omega)];exact c,d.same h⟩
theorem Stk.shift {l':List Keyed}: ∀ {pl:List (Nat×Nat×Nat)} {s e:Nat},Stk R l pl s e->l.drop s=l'.drop s->Stk R l' pl s e
 | [],s,e,h,_=>h
 |(p,n,_)::rest,s,e,⟨a,b,c,d⟩,h=>by
  subst a;refine⟨rfl,b,by unfold seg at c ⊢;rw [<-h];exact c,d.shift ?_⟩;rw [<-E5,<-E5,h]
theorem Stk.append: ∀ {a b:List (Nat×Nat×Nat)} {s e:Nat},Stk R l (a++b) s e↔ ∃m,Stk R l a s m/\Stk R l b m e
 | [],b,s,e=>⟨λh=>⟨s,rfl,h⟩,λ⟨m,h,h'⟩=>by cases h;exact h'⟩
 |(p,n,w)::a,b,s,e=>by
  constructor
  ·rintro ⟨x,y,z,h⟩;obtain⟨m,h1,h2⟩:=Stk.append.mp h;exact⟨m,⟨x,y,z,h1⟩,h2⟩
  ·rintro ⟨m,⟨x,y,z,h1⟩,h2⟩;exact⟨x,y,z,Stk.append.mpr ⟨m,h1,h2⟩⟩
structure Bt (R:Keyed->Keyed->Bool)(κ:SortKind)(l0:List Keyed)(lo:Nat)(st:SortSt):Prop where
 kind:kindOf st=κ
 failed:failedOf st=none
 perm:(arrOf st).toList.Perm l0
 stk:Stk R (arrOf st).toList (pendingOf st).toList 0 lo
variable {l0:List Keyed}{lo:Nat}
theorem Bt.size {st:SortSt}(b:Bt R κ l0 lo st):(arrOf st).size=l0.length:=by rw [<-T1,b.perm.length_eq]
theorem Bt.merge {st:SortSt}{Q:Bool->SortSt->Prop}{i:Nat}(ak:QF prog w A J κ U R)(o:Ordd U R)(u: ∀x∈l0,U x)(b:Bt R κ l0 lo st)(hlo:lo<=l0.length)(hi:i+1<(pendingOf st).size)
 (q: ∀st',Bt R κ l0 lo st'->(pendingOf st').size+1=(pendingOf st).size->(arrOf st').toList.drop lo=(arrOf st).toList.drop lo->Q true st'):Tm prog w A E J (mergeAt' i) Q st:=by
 have lp:(pendingOf st).toList.length=(pendingOf st).size:=by simp
 obtain⟨⟨sa,na,pw⟩,hx⟩: ∃x,(pendingOf st).toList[i]? =some x:=⟨_,G0 (by omega)⟩;obtain⟨⟨sb,nb,pw2⟩,hy⟩: ∃y,(pendingOf st).toList[i+1]? =some y:=⟨_,G0 (by omega)⟩;have e:(pendingOf st).toList=(pendingOf st).toList.take i++(sa,na,pw)::(sb,nb,pw2)::(pendingOf st).toList.drop (i+2):=by
  rw [<-zV hy,<-zV hx,R7]
 have stk:=b.stk;rw [e] at stk;obtain⟨m,k1,em,n1,s1,eb,n2,s2,k2⟩:=Stk.append.mp stk;subst em;subst eb;have le:=k2.le;have sz:=b.size;have hz:sa+na+nb<=(arrOf st).size:=by omega
 have ln:(arrOf st).toList.length=(arrOf st).size:=by simp
 refine jab ak b.kind o (λx hx=>u x (b.perm.mem_iff.mp hx)) (by rw [<-M0];exact hx) (by rw [<-M0];exact hy) rfl n1 n2 hz s1 s2 b.failed λst' Z kd hf hp ha pz sz'=> ?_
 have hpl:(pendingOf st').toList=(pendingOf st).toList.take i++(sa,na+nb,pw)::(pendingOf st).toList.drop (i+2):=by
  rw [hp,Array.eraseIdxIfInBounds_eq,dif_pos (by rw [G0G];exact hi),Array.toList_eraseIdx,G0n];generalize (pendingOf st).toList.drop (i+2)=B at e ⊢;have li:((pendingOf st).toList.take i).length=i:=by rw [R0];omega
  generalize (pendingOf st).toList.take i=A at e li ⊢;rw [e];subst li;simp [List.set_append,List.eraseIdx_append];intro z;omega
 have lZ:Z.length=na+nb:=by rw [pz.length_eq,G8,Ui (by omega),Ui (by omega)]
 have lt:((arrOf st).toList.take sa).length=sa:=by rw [R0];omega
 refine q st' ⟨kd,hf,?_,?_⟩ ?_ ?_
 ·rw [ha];refine List.Perm.trans ?_ b.perm;have c3:=Dv (arrOf st).toList (p:=sa) (n:=na) (m:=nb);have pp:=(pz.append_left ((arrOf st).toList.take sa)).append_right ((arrOf st).toList.drop (sa+na+nb));rw [<-c3] at pp;exact pp
 ·rw [hpl,ha];refine Stk.append.mpr ⟨sa,k1.same ?_,rfl,by omega,?_,?_⟩
  ·rw [P2,A1 (by omega),R8 (l:=(arrOf st).toList.take sa) (by omega)]
  ·unfold seg;rw [P2,O9 (by omega),M7 (by omega),T8,A1 (by omega),R8 (by omega)];exact sz'
  ·rw [<-V9];refine k2.shift ?_;have:((arrOf st).toList.take sa++Z).length=sa+na+nb:=by rw [G8,lt,lZ];omega
   rw [O9 (by omega),M7 (as:=(arrOf st).toList.take sa++Z) (by omega),T8]
 ·rw [<-T1,<-T1,hpl];have:(pendingOf st).toList.length=((pendingOf st).toList.take i++(sa,na,pw)::(sa+na,nb,pw2)::(pendingOf st).toList.drop (i+2)).length:=congrArg List.length e;rw [this];simp only [G8,D2];omega
 ·rw [ha];have c1:((arrOf st).toList.take sa++Z).length=sa+na+nb:=by rw [G8,lt,lZ];omega
  have c2:sa+na+nb<=lo:=by omega
  rw [List.drop_append,M7 (as:=(arrOf st).toList.take sa++Z) (by omega),T8,E5,c1]
  congr 1;omega
theorem Bt.run {Z:List Keyed}{n:Nat}{s1 s2:SortSt}(b:Bt R κ l0 lo s1)(hlo:lo<=l0.length)(ar:Arr s1 s2)(L:Lies s2 ((arrOf s1).toList.take lo) Z (((arrOf s1).toList.drop lo).drop n))(p:Z.Perm (((arrOf s1).toList.drop lo).take n))(sr:Srt R Z)(hn:n<=l0.length-lo):Bt R κ l0 lo s2/\Srt R (seg (arrOf s2).toList lo n):=by
 have ln:(arrOf s1).toList.length=l0.length:=b.perm.length_eq;have lP:((arrOf s1).toList.take lo).length=lo:=by rw [R0];omega
 have lZ:Z.length=n:=by rw [p.length_eq,R0,S6];omega
 have e:(arrOf s2).toList=(arrOf s1).toList.take lo++Z++((arrOf s1).toList.drop lo).drop n:=L;refine⟨⟨ar.1.trans b.kind,ar.2.2.1.trans b.failed,?_,?_⟩,?_⟩
 ·rw [e];refine List.Perm.trans ?_ b.perm;have pp:=(p.append_left ((arrOf s1).toList.take lo)).append_right (((arrOf s1).toList.drop lo).drop n);rw [P2 _ (((arrOf s1).toList.drop lo).take n),R7,R7] at pp;exact pp
 ·rw [ar.2.1];refine b.stk.same ?_;rw [e,P2,A1 (by omega),R8 (l:=(arrOf s1).toList.take lo) (by omega)]
 ·rw [e];unfold seg;rw [P2,O9 (by omega),M7 (by omega),T8,A1 (by omega),R8 (by omega)];exact sr
theorem Bt.push {n:Nat}{s:SortSt}(b:Bt R κ l0 lo s)(n1:1<=n)(g:Srt R (seg (arrOf s).toList lo n)):Bt R κ l0 (lo+n) (setPending s ((pendingOf s).push (lo,n,0))):=by
 refine⟨b.kind,b.failed,b.perm,?_⟩;show Stk R (arrOf s).toList ((pendingOf s).push (lo,n,0)).toList 0 (lo+n);rw [U0];exact Stk.append.mpr ⟨lo,b.stk,rfl,n1,g,rfl⟩
theorem Stk.mod {f:Nat×Nat×Nat->Nat×Nat×Nat}(hf: ∀x,(f x).1=x.1/\(f x).2.1=x.2.1): ∀ {pl:List (Nat×Nat×Nat)} {k s e:Nat},Stk R l pl s e->Stk R l (pl.modify k f) s e
 | [],k,s,e,h=>by rw [List.modify_nil];exact h
 |(p,n,w)::rest,0,s,e,⟨a,b,c,d⟩=>by
  rw [List.modify_zero_cons];have e1:=(hf (p,n,w)).1;have e2:=(hf (p,n,w)).2;generalize f (p,n,w)=x at e1 e2;obtain⟨p',n',w'⟩:=x;dsimp only at e1 e2;subst e1 e2;exact⟨a,b,c,d⟩
 |(p,n,w)::rest,k+1,s,e,⟨a,b,c,d⟩=>by
  rw [List.modify_succ_cons];exact⟨a,b,c,d.mod hf⟩
theorem Bt.mod {k:Nat}{s:SortSt}{f:Nat×Nat×Nat->Nat×Nat×Nat}(b:Bt R κ l0 lo s)(hf: ∀x,(f x).1=x.1/\(f x).2.1=x.2.1):Bt R κ l0 lo (setPending s ((pendingOf s).modify k f)):=by
 refine⟨b.kind,b.failed,b.perm,?_⟩;show Stk R (arrOf s).toList ((pendingOf s).modify k f).toList 0 lo;rw [Array.toList_modify];exact b.stk.mod hf
theorem SC (c:Bool)(x:Nat):(if c=true then x-1 else x)<=x:=by cases c<;>simp
theorem KW {st:SortSt}{Q:Unit->SortSt->Prop}(ak:QF prog w A J κ U R)(o:Ordd U R)(u: ∀x∈l0,U x)(kd:kindOf st=κ)(hf:failedOf st=none)(hp:pendingOf st= #[])(hl:(arrOf st).toList=l0)
 (q: ∀st',failedOf st'=none->(arrOf st').toList.Perm l0->Srt R (arrOf st').toList->Q () st'):Tm prog w A E J sortRuns' Q st:=by
 have b0:Bt R κ l0 0 st:=⟨kd,hf,by rw [hl],by rw [hp];rfl⟩;rw [sortRuns'_eq];refine .bind (.get ?_);dsimp only;rw [b0.size];generalize minRun' l0.length l0.length 0=mr;refine .bind (Tm.mono (Tm.range (λi c s1=>c.1=none/\c.2<=l0.length/\i<=c.2/\Bt R κ l0 c.2 s1) (Q:=λc s1=>c.1=none/\Bt R κ l0 l0.length s1) (T5 _) ⟨rfl,T5 _,T5 _,b0⟩ ?_ ?_) ?_)
 ·rintro i ⟨r,lo⟩ s1 hi ⟨hr,h1,h2,b⟩;dsimp only at hr h1 h2 b ⊢;subst hr
  by_cases z1:lo>=l0.length
  ·rw [if_pos z1];have:lo=l0.length:=by omega
   subst this;exact .pure ⟨rfl,b⟩
  rw [if_neg z1];have ln:(arrOf s1).toList.length=l0.length:=b.perm.length_eq;have lP:((arrOf s1).toList.take lo).length=lo:=by rw [R0];omega
  have lT:((arrOf s1).toList.drop lo).length=l0.length-lo:=by rw [S6,ln]
  have uT: ∀x∈(arrOf s1).toList.drop lo,U x:=λx hx=>u x (b.perm.mem_iff.mp (T9 hx))
  have ct:=λ{Q}=>Sz (prog:=prog) (w:=w) (A:=A) (E:=E) (J:=J) (Q:=Q) (st:=s1) (P:=(arrOf s1).toList.take lo) (T:=(arrOf s1).toList.drop lo) ak b.kind o uT (by unfold Lies;rw [List.append_nil,List.take_append_drop]) (by omega)
  rw [lP,lT] at ct;refine .bind (ct λn s2 Z n1 n2 ar L p sr=> ?_);dsimp only
  by_cases z2:n<mr
  ·rw [if_pos z2];have bn:=λ{Q}=>jad (prog:=prog) (w:=w) (A:=A) (E:=E) (J:=J) (Q:=Q) (st:=s2) (P:=(arrOf s1).toList.take lo) (T:=(arrOf s1).toList.drop lo) (n:=min (l0.length-lo) mr) ak (ar.1.trans b.kind) o uT L p sr n1 (by omega) (by omega)
   rw [lP] at bn;refine .bind (.rule (.bind (bn λs3 Z3 ar3 L3 p3 sr3=> ?_)));obtain⟨B,G⟩:=b.run h1 (ar.trans ar3) L3 p3 sr3 (by omega);have N1:1<=min (l0.length-lo) mr:=by omega
   rw [if_neg (by decide)];refine .bind (.get ?_);split
   ·refine .bind (Tm.mono (Tm.range (λj c s4=>c.1=none/\Bt R κ l0 lo s4/\Srt R (seg (arrOf s4).toList lo (min (l0.length-lo) mr))) (Q:=λc s4=>c.1=none/\Bt R κ l0 lo s4/\Srt R (seg (arrOf s4).toList lo (min (l0.length-lo) mr))) (T5 _) ⟨rfl,B,G⟩ ?_ (λ_ _ h=>h)) ?_)
    ·rintro j ⟨r,c⟩ s4 hj ⟨hr,B4,G4⟩;dsimp only at hr ⊢;subst hr;refine .bind (.get ?_);split
     ·rename_i older heq;split
      ·exact .pure ⟨rfl,B4,G4⟩
      ·have two:(pendingOf s4).size>1:=E3 λz=>by rw [if_neg z] at heq;cases heq
       refine .bind (Bt.merge ak o u B4 h1 (by omega) λs5 B5 _ dr=> ?_);refine .pure ⟨rfl,B5,?_⟩;unfold seg at G4 ⊢;rw [dr];exact G4
     ·exact .pure ⟨rfl,B4,G4⟩
    ·rintro ⟨r,c⟩ s4 ⟨hr,B4,G4⟩;dsimp only at hr ⊢;subst hr;dsimp only;refine .bind (.modify (.bind (.modify (.pure ⟨rfl,?_,?_,Bt.push (Bt.mod B4 λx=>⟨rfl,rfl⟩) N1 G4⟩))))
     ·dsimp only;omega
     ·dsimp only;omega
   ·refine .bind (.modify (.pure ⟨rfl,?_,?_,Bt.push B N1 G⟩))
    ·dsimp only;omega
    ·dsimp only;omega
  ·rw [if_neg z2];obtain⟨B,G⟩:=b.run h1 ar L p sr n2;have N1:=n1;refine .bind (.get ?_);split
   ·refine .bind (Tm.mono (Tm.range (λj c s4=>c.1=none/\Bt R κ l0 lo s4/\Srt R (seg (arrOf s4).toList lo (n))) (Q:=λc s4=>c.1=none/\Bt R κ l0 lo s4/\Srt R (seg (arrOf s4).toList lo (n))) (T5 _) ⟨rfl,B,G⟩ ?_ (λ_ _ h=>h)) ?_)
    ·rintro j ⟨r,c⟩ s4 hj ⟨hr,B4,G4⟩;dsimp only at hr ⊢;subst hr;refine .bind (.get ?_);split
     ·rename_i older heq;split
      ·exact .pure ⟨rfl,B4,G4⟩
      ·have two:(pendingOf s4).size>1:=E3 λz=>by rw [if_neg z] at heq;cases heq
       refine .bind (Bt.merge ak o u B4 h1 (by omega) λs5 B5 _ dr=> ?_);refine .pure ⟨rfl,B5,?_⟩;unfold seg at G4 ⊢;rw [dr];exact G4
     ·exact .pure ⟨rfl,B4,G4⟩
    ·rintro ⟨r,c⟩ s4 ⟨hr,B4,G4⟩;dsimp only at hr ⊢;subst hr;dsimp only;refine .bind (.modify (.bind (.modify (.pure ⟨rfl,?_,?_,Bt.push (Bt.mod B4 λx=>⟨rfl,rfl⟩) N1 G4⟩))))
     ·dsimp only;omega
     ·dsimp only;omega
   ·refine .bind (.modify (.pure ⟨rfl,?_,?_,Bt.push B N1 G⟩))
    ·dsimp only;omega
    ·dsimp only;omega
 ·rintro ⟨r,lo⟩ s1 ⟨hr,h1,h2,b⟩;dsimp only at hr h1 h2 b;have:lo=l0.length:=by omega
  subst this;exact⟨hr,b⟩
 ·rintro ⟨r,lo⟩ s1 ⟨hr,b⟩;dsimp only at hr ⊢;subst hr;dsimp only;have le0:=b.stk.le;have lp0:(pendingOf s1).toList.length=(pendingOf s1).size:=by simp
  refine .bind (Tm.mono (Tm.range (λj c s4=>c.1=none/\Bt R κ l0 l0.length s4/\(pendingOf s4).size+j<=l0.length) (Q:=λc s4=>c.1=none/\Bt R κ l0 l0.length s4/\(pendingOf s4).size<=1) (T5 _) ⟨rfl,b,by omega⟩ ?_ (λc s4 ⟨x,y,z⟩=>⟨x,y,by omega⟩)) ?_)
  ·rintro j ⟨r,c⟩ s4 hj ⟨hr,B4,z4⟩;dsimp only at hr ⊢;subst hr;refine .bind (.get ?_)
   by_cases c1:(pendingOf s4).size<=1
   ·rw [if_pos c1];exact .pure ⟨rfl,B4,c1⟩
   rw [if_neg c1];refine .bind (Bt.merge ak o u B4 (G6 _) (C9 (Nat.add_le_add_right (SC _ _) 1) (by omega)) λs5 B5 z5 _=> ?_);exact .pure ⟨rfl,B5,by omega⟩
  ·rintro ⟨r,c⟩ s4 ⟨hr,B4,z4⟩;dsimp only at hr ⊢;subst hr;refine .pure (q s4 B4.failed B4.perm ?_);have stk:=B4.stk;have ln:(arrOf s4).toList.length=l0.length:=B4.perm.length_eq;have lp:(pendingOf s4).toList.length=(pendingOf s4).size:=by simp
   generalize (pendingOf s4).toList=pl at stk lp
   match pl,stk,lp with
   | [],e,_=>
    have:l0.length=0:=e.symm;have:(arrOf s4).toList= []:=J7.mp (by omega);rw [this];exact .nil
   | [(p,n,_)],⟨e1,_,sr,e2⟩,_=>
    subst e1;have en:n=l0.length:=by have:0+n=l0.length:=e2;omega
    unfold seg at sr;rw [G0w,R8 (by omega)] at sr;exact sr
   |_::_::_,_,h=>simp only [D2] at h;omega
end
section
variable {prog:Program}{w:World}{A:Around}{E:Value->Shared->Prop}{s:Shared}{κ:SortKind}{U:Keyed->Prop}{R:Keyed->Keyed->Bool}
def jae (s:Shared)(a:Addr)(h':Heap):Prop:= ∀b o,b≠a->s.heap.get? b=some o->h'.get? b=some o
def Only (s:Shared)(h':Heap):Shared->Prop:=λs'=> ∃tk,s'= {s with heap:=h',toks:=tk}
theorem SE {M:Model}{α β:Type}{c:Prop}[Decidable c]{m m':Sem α}{F:α->Sem β}{Q:β->Shared->Prop}(h:wpAny M A ((if c then m else m') >>= F) Q E s):wpAny M A (if c then m >>= F else m' >>= F) Q E s:=by
 by_cases z:c
 ·rw [if_pos z] at h ⊢;exact h
 ·rw [if_neg z] at h ⊢;exact h
theorem Ys (vs:List Value):(vs.toArray.zip vs.toArray).toList=vs.map λv=>(v,v):=by
 rw [Array.toList_zip];show vs.zip vs=_
 induction vs with
 |nil=>rfl
 |cons v vs ih=>rw [K3,ih,R9]
theorem SF {a:Addr}{vs:List Value}{n:Nat}{P:Fin->Shared->Prop}(ho:s.heap.get? a=some (seqObj "list" vs.toArray n))(hz:vs.length<=sizeLine)
 (hk:2<=vs.length-> ∀h',jae s a h'->wpAny (model prog w) A (keyKind' vs.toArray) (λk s'=>k=κ/\Only s h' s') (λ_ _=>False) {s with heap:=h'})(ak: ∀h',jae s a h'->QF prog w A (Only s h') κ U R)(o:Ordd U R)(u: ∀v∈vs,U (v,v))
 (q: ∀ (out:List Value) (c tk:Nat) (h':Heap),jae s a h'->h'.get? a=some (seqObj "list" out.toArray c)->out.Perm vs->(out.map λv=>(v,v)).Pairwise (λx y=>R y x=false)->P (.done (.ret .none)) {s with heap:=h',toks:=tk}):
 wpAny (model prog w) A (Builtin.«list.sort» ⟨[.ref a],[]⟩) P E s:=by
 have alt:=P3 ho;have sv:vs.toArray.size=vs.length:=P5 ..;rw [list_sort_plain];refine wpAny_bind (listItems_at ho rfl ?_);obtain⟨c1,ho1⟩: ∃c,(s.heap.update a (Obj.mapSeq λ_=>(#[]:Array Value))).get? a=some (seqObj "list" #[] c):=⟨_,get?_update_seq ho λ_=> #[]⟩;refine wpAny_bind (listUpdate_at ho rfl ?_ (by rw [sv];exact hz) (T5 _));refine wpAny_bind (seqEpoch_at ho1 rfl ?_);refine wpAny_bind (wpAny_newTuple ?_ hz);refine wpAny_bind (wpAny_newList ?_ (T5 _));refine B8 ?_;have past:jae s a (((s.heap.update a (Obj.mapSeq λ_=>(#[]:Array Value))).push {cls:= .type "tuple",data:= .seq vs.toArray.toList.toArray}).push {cls:= .type "list",data:= .seq ([]:List Value).toArray}):=λb x ne e=>by
  refine G1 _ (G1 _ ?_);rw [G0d _ _ _ _ ne];exact e
 have ho3:=G1 ({cls:= .type "list",data:= .seq ([]:List Value).toArray}:Obj) (G1 ({cls:= .type "tuple",data:= .seq vs.toArray.toList.toArray}:Obj) ho1);revert past ho3;generalize ((s.heap.update a (Obj.mapSeq λ_=>(#[]:Array Value))).push ({cls:= .type "tuple",data:= .seq vs.toArray.toList.toArray}:Obj)).push ({cls:= .type "list",data:= .seq ([]:List Value).toArray}:Obj)=H3;intro past ho3;have kd:wpAny (model prog w) A (if vs.toArray.size<2 then pure general' else keyKind' vs.toArray) (λk s0=>(2<=vs.length->k=κ)/\Only s H3 s0) (λ_ _=>False) {s with heap:=H3}:=by
  by_cases c:vs.toArray.size<2
  ·rw [if_pos c];exact G9 ⟨λz=>by omega,s.toks,rfl⟩
  ·rw [if_neg c];exact D8 (hk (by omega) H3 past) (λk s0 x=>⟨λ_=>x.1,x.2⟩) λ_ _ e=>e
 have rn: ∀k s0,(2<=vs.length->k=κ)->Only s H3 s0->wpAny (model prog w) A ((if vs.toArray.size<2 then pure () else sortRuns':StateT SortSt Sem Unit).run (SortSt.mk' k (vs.toArray.zip vs.toArray) #[] 7 none)) (λr s'=>(failedOf r.2=none/\(arrOf r.2).toList.Perm (vs.map λv=>(v,v))/\Srt R (arrOf r.2).toList)/\Only s H3 s') E s0:=by
  intro k s0 ek j
  by_cases c:vs.toArray.size<2
  ·rw [if_pos c,StateT.run_pure];refine G9 ⟨⟨rfl,?_,?_⟩,j⟩
   ·show (vs.toArray.zip vs.toArray).toList.Perm _;rw [Ys]
   ·show Srt R (vs.toArray.zip vs.toArray).toList;rw [Ys];rw [sv] at c
    match vs,c with
    | [],_=>exact List.Pairwise.nil
    | [v],_=>exact N7 _ _
  ·rw [if_neg c];have ek:=ek (by omega);subst ek;refine KW (E:=E) (ak H3 past) o (l0:=vs.map λv=>(v,v)) (st:=SortSt.mk' k (vs.toArray.zip vs.toArray) #[] 7 none) (λx hx=> ?_) rfl rfl rfl (Ys vs) (Q:=λ_ st'=>failedOf st'=none/\(arrOf st').toList.Perm (vs.map λv=>(v,v))/\Srt R (arrOf st').toList) (λst' a1 a2 a3=>⟨a1,a2,a3⟩) s0 j;obtain⟨v,hv,rfl⟩:=R3.mp hx;exact u v hv
 dsimp only;refine SE (wpAny_bind (D8 kd (λk s0 x=> ?_) λ_ _ e=>e.elim));refine wpAny_bind (D8 (rn k s0 x.1 x.2) ?_ λ_ _ e=>e);rintro ⟨⟨⟩,st'⟩ s1 ⟨⟨hf,hp,hs⟩,tk,rfl⟩;dsimp only;have eo:((arrOf st').map λx=>x.2)=((arrOf st').toList.map λx=>x.2).toArray:=by
  rw [<-Array.toList_map,Array.toArray_toList]
 have two:(arrOf st').toList=((arrOf st').toList.map λx=>x.2).map λv=>(v,v):=by
  rw [S3];refine(G0b _).symm.trans (M5 λx hx=> ?_);obtain⟨v,_,rfl⟩:=R3.mp (hp.mem_iff.mp hx);rfl
 have po:((arrOf st').toList.map λx=>x.2).Perm vs:=by
  have:=hp.map λx=>x.2
  rw [S3] at this;refine this.trans ?_;rw [show ((λx:Keyed=>x.2)∘λv:Value=>(v,v))=id from rfl,G0b]
 rw [two] at hs;rw [eo];generalize (arrOf st').toList.map (λx=>x.2)=out at hs po;obtain⟨c2,ho4⟩: ∃c,(H3.update a (Obj.mapSeq λ_=>out.toArray)).get? a=some (seqObj "list" out.toArray c):=⟨_,get?_update_seq ho3 λ_=>out.toArray⟩;refine wpAny_bind (seqEpoch_at (s:= {s with heap:=H3,toks:=tk}) ho3 rfl ?_);refine wpAny_bind (listUpdate_at (s:= {s with heap:=H3,toks:=tk}) ho3 rfl ?_ (T5 _) (by rw [P5,po.length_eq];exact Nat.le_succ_of_le hz));rw [hf];simp only [bne_self_eq_false,Bool.false_eq_true,G1k];refine G9 (q out c2 tk _ (λb x ne e=> ?_) ho4 po hs);rw [G0d _ _ _ _ ne];exact past b x ne e
abbrev Uk (h h':Heap):Prop:= ∀b o,h.get? b=some o->h'.get? b=some o
theorem Cs {l:Addr}{vs:List Value}{Q:Value->Shared->Prop}(hl:s.heap.IsList l vs.toArray)(hz:vs.length<sizeLine)
 (hk:2<=vs.length-> ∀h',Uk s.heap h'->wpAny (model prog w) A.in1.in1 (keyKind' vs.toArray) (λk s'=>k=κ/\Only s h' s') (λ_ _=>False) {s with heap:=h'})(ak: ∀h',Uk s.heap h'->QF prog w A.in1.in1 (Only s h') κ U R)(o:Ordd U R)(u: ∀v∈vs,U (v,v))
 (q: ∀ (h1 h':Heap) (tk c:Nat) (out:List Value),Uk s.heap h1->Uk h1 h'->h'.get? h1.objs.size=some (seqObj "list" out.toArray c)->out.Perm vs->(out.map λv=>(v,v)).Pairwise (λx y=>R y x=false)->Q (.ref h1.objs.size) {s with heap:=h',toks:=tk}):
 wpAny (model prog w) A (call (.builtin "sorted") [.ref l]) Q E s:=by
 refine Calls.call_function_entry kind_sorted plain_sorted entry_sorted (args_sorted1 _) (wpAny_bind (G9 (wpAny_bind (collect_list hl ?_ (by omega)))));have k1:Uk s.heap ((s.heap.push (seqObj "list" #[] 0)).update s.heap.objs.size (Obj.mapSeq (· ++vs.toArray))):=λb x e=>by
  rw [G0d _ _ _ _ (R1 (P3 e))];exact G1 _ e
 revert k1;generalize (s.heap.push (seqObj "list" #[] 0)).update s.heap.objs.size (Obj.mapSeq (· ++vs.toArray))=H1;intro k1;have fresh:(H1.push (seqObj "list" vs.toArray 0)).get? H1.objs.size=some (seqObj "list" vs.toArray 0):=P9 _ rfl;have kp: ∀h',jae {s with heap:=H1.push (seqObj "list" vs.toArray 0)} H1.objs.size h'->Uk H1 h':=λh' p b x e=>p b x (R1 (P3 e)) (G1 _ e)
 refine wpAny_bind (wpAny_newList (wpAny_bind (B8 (C4 slot_list_sort ⟨_,fresh,rfl⟩ entry_list_sort (SF (s:= {s with heap:=H1.push (seqObj "list" vs.toArray 0)}) (κ:=κ) (U:=U) (R:=R) fresh (D7 hz) (λh2 h' p=>hk h2 h' λb x e=>kp h' p b x (k1 b x e)) (λh' p=>ak h' λb x e=>kp h' p b x (k1 b x e)) o u λout c tk h' p e1 e2 e3=>⟨_,rfl,?_⟩) (args_list_sort _)))) (D7 hz));exact G9 ⟨_,rfl,q H1 h' tk c out k1 (kp h' p) e1 e2 e3⟩
end
theorem Yt: ∀a b:List Int,ze a b=true->ze b a=false
 | [],[],h=>rfl
 | [],_::_,_=>rfl
 |_::_,[],h=>by cases h
 |x::xs,y::ys,h=>by
  unfold ze at h ⊢
  by_cases e:x=y
  ·subst e;rw [if_pos rfl] at h ⊢;exact Yt xs ys h
  ·rw [if_neg e] at h;rw [if_neg (Ne.symm e)];have:=T7 h;exact R4 (by omega)
theorem Ul: ∀a b c:List Int,ze a c=true->ze a b=true\/ze b c=true
 | [],[],c,h=> .inr h
 | [],_::_,_,_=> .inl rfl
 |_::_,_,[],h=>by cases h
 |x::xs,[],z::zs,h=> .inr rfl
 |x::xs,y::ys,z::zs,h=>by
  unfold ze at h ⊢
  by_cases e:x=z
  ·subst e;rw [if_pos rfl] at h
   by_cases f:x=y
   ·subst f;rw [if_pos rfl,if_pos rfl];exact Ul xs ys zs h
   ·rw [if_neg f,if_neg (Ne.symm f)]
    by_cases g:x<y
    ·exact .inl (P0 g)
    ·exact .inr (P0 (by omega))
  ·rw [if_neg e] at h;have lt:=T7 h
   by_cases f:x=y
   ·subst f;rw [if_neg e];exact .inr h
   ·rw [if_neg f]
    by_cases g:x<y
    ·exact .inl (P0 g)
    ·refine .inr ?_;rw [if_neg (by omega)];exact P0 (by omega)
theorem Um: ∀a b:List Int,ze a b=false->ze b a=false->a=b
 | [],[],_,_=>rfl
 | [],_::_,h,_=>by cases h
 |_::_,[],_,h=>by cases h
 |x::xs,y::ys,h,h'=>by
  unfold ze at h h'
  by_cases e:x=y
  ·subst e;rw [if_pos rfl] at h h';rw [Um xs ys h h']
  ·rw [if_neg e] at h;rw [if_neg (Ne.symm e)] at h';have:=of_decide_eq_false h;have:=of_decide_eq_false h';omega
theorem OC {U:Keyed->Prop}(key:Value->List Int):Ordd U (λx y=>ze (key x.1) (key y.1)):=⟨λx y _ _ h=>Yt _ _ h,λx y z _ _ _ h=>Ul _ _ _ h⟩
def IT (h:Heap)(v:Value)(ns:List Int):Prop:= ∃a its,v= .ref a/\IsTup h a its/\IntsAre its.toList ns
theorem IT.keeps {h h':Heap}{v:Value}{ns:List Int}(x:IT h v ns)(k:Uk h h'):IT h' v ns:=let ⟨a,its,e,t,i⟩:=x;⟨a,its,e,t.keeps k,i⟩
theorem By: ∀ {vs:List Value} {ns ms:List Int},IntsAre vs ns->IntsAre vs ms->ns=ms
 |_,_,_,.nil,.nil=>rfl
 |_,_,_,.cons n t a,.cons _ _ b=>by rw [By a b]
theorem IT.one {h:Heap}{v:Value}{ns ms:List Int}(x:IT h v ns)(y:IT h v ms):ns=ms:=by
 obtain⟨a,its,rfl,⟨o,e,c,n,d⟩,i⟩:=x;obtain⟨a',its',e2,⟨o',e',c',n',d'⟩,i'⟩:=y;cases e2;rw [e] at e';cases e';rw [d] at d';cases d';exact By i i'
open Classical in
noncomputable def zW (h:Heap)(v:Value):List Int:=if e: ∃ns,IT h v ns then e.choose else []
theorem IT.nums {h:Heap}{v:Value}{ns:List Int}(x:IT h v ns):zW h v=ns:=by
 have e: ∃ns,IT h v ns:=⟨ns,x⟩;unfold zW;rw [dif_pos e];exact e.choose_spec.one x
section
variable {prog:Program}{w:World}{A:Around}{E:Value->Shared->Prop}{s:Shared}
theorem WB {α β:Type}{M:Model}{f:α->Sem β}(r:α->β): ∀ (l:List α) {Q:List β->Shared->Prop},(∀v∈l,∀Q':β->Shared->Prop,Q' (r v) s->wpAny M A (f v) Q' E s)->Q (l.map r) s->wpAny M A (l.mapM f) Q E s
 | [],_,_,q=>by
  rw [List.mapM_nil];exact G9 q
 |v::l,Q,hf,q=>by
  rw [List.mapM_cons];refine wpAny_bind (hf v D4 _ (wpAny_bind ?_));exact WB r l (λu hu=>hf u (D0 _ hu)) (G9 q)
def wj (h:Heap):Value->Option Value
 | .ref a=>match h.get? a with
  |some o=>match o.data with
   | .seq xs _=>xs[0]?
   |_=>none
  |none=>none
 |_=>none
variable {v:Value}{ns:List Int}
theorem SG {Q:Option Value->Shared->Prop}(x:IT s.heap v ns)(q:Q (wj s.heap v) s):wpAny (model prog w) A (firstOfTuple' v) Q E s:=by
 obtain⟨a,its,rfl,⟨o,e,c,n,d⟩,i⟩:=x;have fe:wj s.heap (.ref a)=its[0]? :=by
  unfold wj;dsimp only;rw [e];dsimp only;rw [d]
 rw [PySem.W.kas_first_eq];refine wpAny_bind (PySem.W.Looks.here (show PySem.W.Looks (model prog w) s.heap (typeOf (.ref a)) o.cls from (PySem.W.Looks.ld e).andThen .now) ?_);rw [c,if_neg (by decide)];refine wpAny_bind (listItems_at e d (G9 ?_));rw [<-fe];exact q
variable {h:Heap}
theorem Ct (x:IT h v []):wj h v=none:=by
 obtain⟨a,its,rfl,⟨o,e,c,n,d⟩,i⟩:=x;unfold wj;dsimp only;rw [e];dsimp only;rw [d];dsimp only;obtain⟨l⟩:=its;cases i;rfl
theorem XV {n:Int}(x:IT h v (n::ns)): ∃t,wj h v=some (.int n t):=by
 obtain⟨a,its,rfl,⟨o,e,c,k,d⟩,i⟩:=x;obtain⟨l⟩:=its;cases i with
 |cons _ t i=>exact⟨t,by unfold wj;dsimp only;rw [e];dsimp only;rw [d];rfl⟩
theorem SH (x:IT h v ns):(wj h v).isSome= !ns.isEmpty:=by
 cases ns with
 |nil=>rw [Ct x];rfl
 |cons n ns=>obtain⟨t,e⟩:=XV x;rw [e];rfl
noncomputable def OD (h:Heap)(vs:List Value):SortKind:=
 if (vs.all λv=> !(zW h v).isEmpty)=true then tuples' true else if ((vs[0]?.map λv=> !(zW h v).isEmpty)=some true) then general' else oneType'
theorem OE {vs:List Value}(h2:2<=vs.length)(x: ∀v∈vs,∃ns,IT h v ns){Q:SortKind->Shared->Prop}(e:Uk h s.heap)(q:Q (OD h vs) s):wpAny (model prog w) A (keyKind' vs.toArray) Q E s:=by
 have fr: ∀v∈vs,(wj s.heap v).isSome= !(zW h v).isEmpty:=λv hv=>by
  obtain⟨ns,t⟩:=x v hv;rw [t.nums,SH (t.keeps e)]
 rw [keyKind'_eq,G0H,map_eq_pure_bind];refine wpAny_bind (wpAny_bind (WB (wj s.heap) vs (λv hv Q' q'=> ?_) (G9 ?_)))
 ·obtain⟨ns,t⟩:=x v hv;exact SG (t.keeps e) q'
 have all_:((vs.map (wj s.heap)).toArray.all λo=>o.isSome)=vs.all λv=> !(zW h v).isEmpty:=by
  rw [G0R,O4];rw [N9,R5,R5];exact⟨λz v hv=>by rw [<-fr v hv];exact z v hv,λz v hv=>by show (wj s.heap v).isSome=true;rw [fr v hv];exact z v hv⟩
 rw [all_];unfold OD at q
 by_cases a1:(vs.all λv=> !(zW h v).isEmpty)=true
 ·rw [if_pos a1] at q;rw [if_pos a1];refine wpAny_bind (Z6 ?_);obtain⟨fs,efs,nums,ne⟩: ∃fs:List Value,vs.map (wj s.heap)=fs.map some/\(∀f∈fs,∃n t,f=Value.int n t)/\fs.length=vs.length:=by
   have go: ∀l:List Value,(∀v∈l,v∈vs)-> ∃fs:List Value,l.map (wj s.heap)=fs.map some/\(∀f∈fs,∃n t,f=Value.int n t)/\fs.length=l.length:=by
    intro l
    induction l with
    |nil=>exact λ_=>⟨[],rfl,λf hf=>absurd hf S8,rfl⟩
    |cons v l ih=>
     intro sub;obtain⟨fs,e1,e2,e3⟩:=ih λu hu=>sub u (D0 _ hu)
     have hv:=sub v D4;obtain⟨ns,t⟩:=x v hv;have ne:=R5.mp a1 v hv;rw [t.nums] at ne;cases ns with
     |nil=>cases ne
     |cons n ns=>
      obtain⟨tk,ef⟩:=XV (t.keeps e);refine⟨.int n tk::fs,by rw [R9,R9,ef,e1],λf hf=> ?_,by rw [D2,D2,e3]⟩;rcases P4.mp hf with rfl|hf
      ·exact⟨n,tk,rfl⟩
      ·exact e2 f hf
   exact go vs λ_ hv=>hv
  rw [efs];have fm:((fs.map some).toArray.filterMap id)=fs.toArray:=by simp
  rw [fm,oneTypeOnly'_eq,G0H,map_eq_pure_bind];refine wpAny_bind (wpAny_bind (wpAny_bind (WB (λ_=>Value.type "int") fs (λf hf Q' q'=> ?_) (G9 ?_))))
  ·obtain⟨n,t,rfl⟩:=nums f hf;exact G9 q'
  ·match fs,ne with
   | [],ne=>rw [S4] at ne;omega
   |f::fs,_=>
    have h0:(List.map (λ_=>Value.type "int") (f::fs)).toArray[0]? =some (Value.type "int"):=by simp
    have h1:((List.map (λ_=>Value.type "int") (f::fs)).toArray.all λy=>y==Value.type "int")=true:=by
     rw [G0R,O4,R5];exact λ_ _=>rfl
    rw [h0];simp only [h1,if_true];exact G9 (G9 q)
 rw [if_neg a1] at q;rw [if_neg a1]
 match vs,h2,x,fr,q with
 |v::vs,h2,x,fr,q=>
  have h0:((List.map (wj s.heap) (v::vs)).toArray[0]?.bind id).isSome= !(zW h v).isEmpty:=by
   rw [<-fr v D4];simp
  rw [h0];have h0':(((v::vs)[0]?.map λv=> !(zW h v).isEmpty)=some true)↔(!(zW h v).isEmpty)=true:=by simp
  by_cases a2:(!(zW h v).isEmpty)=true
  ·rw [if_pos (h0'.mpr a2)] at q;rw [if_pos a2];exact G9 q
  rw [if_neg λz=>a2 (h0'.mp z)] at q;rw [if_neg a2];rw [oneTypeOnly'_eq,G0H,map_eq_pure_bind];refine wpAny_bind (wpAny_bind (wpAny_bind (WB (λ_=>Value.type "tuple") (v::vs) (λf hf Q' q'=> ?_) (G9 ?_))))
  ·obtain⟨ns,t⟩:=x f hf;obtain⟨a,its,rfl,⟨o,e1,c,n,d⟩,i⟩:=t.keeps e;refine PySem.W.Looks.here (show PySem.W.Looks (model prog w) s.heap (typeOf (.ref a)) o.cls from (PySem.W.Looks.ld e1).andThen .now) ?_;rw [c];exact q'
  ·have h3:(List.map (λ_=>Value.type "tuple") (v::vs)).toArray[0]? =some (Value.type "tuple"):=by simp
   have h1:((List.map (λ_=>Value.type "tuple") (v::vs)).toArray.all λy=>y==Value.type "tuple")=true:=by
    rw [G0R,O4,R5];exact λ_ _=>rfl
   rw [h3];simp only [h1,if_true];exact G9 (G9 q)
theorem Bz {fin:Bool}{Q:Bool->Shared->Prop}{m n:Nat}(ef:fin=decide (m<n)): ∀ {vs us:List Value} {ns ms:List Int} (i:Nat),IntsAre vs ns->IntsAre us ms->ns.length+n=ms.length+m->Q (ze ns ms) s->PySem.W.KatLex prog w A true fin Q (vs.zip us) i s
 |_,_,_,_,i,.nil,.nil,l,q=>by
  subst ef;rw [G0B];refine G03 ?_;rw [R4 (by rw [S4] at l;omega)];exact q
 |_,_,_,_,i,.nil,.cons c u y,l,q=>by
  subst ef;rw [G0B];refine G03 ?_;rw [P0 (by rw [S4,D2] at l;omega)];exact q
 |_,_,_,_,i,.cons a t x,.nil,l,q=>by
  subst ef;rw [List.zip_nil_right];refine G03 ?_;rw [R4 (by rw [S4,D2] at l;omega)];exact q
 |_,_,_,_,i,.cons a t x,.cons c u y,l,q=>by
  rw [K3];rw [Xz] at q;obtain⟨e,he,hiff⟩:=NV A s a t c u;refine PySem.W.kat_cons (he prog w _ _ ?_);refine PySem.W.kat_go (λz=>PySem.W.kat_yes ?_) λz=>PySem.W.kat_no ?_
  ·rw [if_pos (hiff.mp z)] at q;exact Bz ef (i+1) x y (by rw [D2,D2] at l;omega) q
  ·rw [if_neg λz'=>by rw [hiff.mpr z'] at z;cases z] at q;cases (true&&i==0) with
   |true=>exact oneLt_int q
   |false=>exact PySem.W.kat_one _ _ (G1g q)
theorem jaf {u:Value}{ms:List Int}{Q:Bool->Shared->Prop}(hu:A.units<cLine)(x:IT s.heap v ns)(y:IT s.heap u ms)(q:Q (ze ns ms) s):wpAny (model prog w) A (oneLt' true v u) Q E s:=by
 obtain⟨a,its,rfl,⟨⟨cls,dd,data,sl⟩,e1,c,n,d⟩,i⟩:=x;obtain⟨b,its2,rfl,⟨⟨cls2,dd2,data2,sl2⟩,e2,c2,n2,d2⟩,i2⟩:=y;simp only at c d c2 d2;subst c d c2 d2;rw [oneLt'_eq];simp only [if_true];refine wpAny_bind (wpAny_cRoomFor hu (wpAny_bind (wpAny_callSpecialIfBound?_slot ⟨_,e1,rfl⟩ X8 (G0C X8 ⟨_,e1,rfl⟩ G0S (G0I _ _) (Wh a b its its2 n n2 dd dd2 sl sl2 ns ms i i2) ⟨e1,e2,?_⟩))));exact B2 q
theorem jag {u:Value}{ms:List Int}{Q:Bool->Shared->Prop}(hu:A.units<cLine)(x:IT s.heap v ns)(y:IT s.heap u ms)(q:Q (ze ns ms) s):wpAny (model prog w) A (oneLt' false v u) Q E s:=by
 obtain⟨a,its,rfl,t,i⟩:=x;obtain⟨b,its2,rfl,t2,i2⟩:=y;exact PySem.W.kat_one _ _ (BR t t2 i i2 hu q)
theorem OF {vs:List Value}(hu:A.units<cLine){h':Heap}(k:Uk s.heap h'):QF prog w A (Only s h') (OD s.heap vs) (λx=> ∃ns,IT s.heap x.1 ns) (λx y=>ze (zW s.heap x.1) (zW s.heap y.1)):=by
 rintro ⟨x,x'⟩ ⟨y,y'⟩ ⟨ns,tx⟩ ⟨ms,ty⟩ s1 ⟨tk,rfl⟩;dsimp only at tx ty ⊢;have q:(ze ns ms=ze (zW s.heap x) (zW s.heap y)/\Only s h' {s with heap:=h',toks:=tk}):=⟨by rw [tx.nums,ty.nums],tk,rfl⟩;have kx:=tx.keeps k;have ky:=ty.keeps k;unfold OD
 by_cases a1:(vs.all λv=> !(zW s.heap v).isEmpty)=true
 ·rw [if_pos a1];obtain⟨a,its,rfl,⟨o,e1,c,n,d⟩,i⟩:=kx;obtain⟨b,its2,rfl,⟨o2,e2,c2,n2,d2⟩,i2⟩:=ky;refine PySem.W.kat_lt e1 d e2 d2 (Bz rfl 0 i i2 ?_ q);have z1:=i.length;have z2:=i2.length;rw [T1] at z1 z2;omega
 rw [if_neg a1]
 by_cases a2:(vs[0]?.map λv=> !(zW s.heap v).isEmpty)=some true
 ·rw [if_pos a2];show wpAny _ _ (oneLt' false x y) _ _ _;exact jag hu kx ky q
 ·rw [if_neg a2,keyLt'_oneType];exact jaf hu kx ky q
theorem MK {l:Addr}{vs:List Value}{Q:Value->Shared->Prop}(hu:A.in1.in1.units<cLine)(hl:s.heap.IsList l vs.toArray)(hz:vs.length<sizeLine)(x: ∀v∈vs,∃ns,IT s.heap v ns)
 (q: ∀ (h1 h':Heap) (tk c:Nat) (out:List Value),Uk s.heap h1->Uk h1 h'->h'.get? h1.objs.size=some (seqObj "list" out.toArray c)->out.Perm vs->out.Pairwise (λx y=>ze (zW s.heap y) (zW s.heap x)=false)->Q (.ref h1.objs.size) {s with heap:=h',toks:=tk}):
 wpAny (model prog w) A (call (.builtin "sorted") [.ref l]) Q E s:=by
 refine Cs (κ:=OD s.heap vs) (U:=λx=> ∃ns,IT s.heap x.1 ns) (R:=λx y=>ze (zW s.heap x.1) (zW s.heap y.1)) hl hz (λh2 h' k=> ?_) (λh' k=>OF hu k) (OC _) x λh1 h' tk c out k1 k2 e1 e2 e3=>q h1 h' tk c out k1 k2 e1 e2 ?_
 ·exact OE (s:= {s with heap:=h'}) h2 x k ⟨rfl,s.toks,rfl⟩
 ·rw [A3] at e3;exact e3
end
end HT
namespace L2
open PySem PySem.Spec PyProof.Rows PySem.SeqAt HT
theorem Uo {α β:Type}{f:α->β}: ∀ {out:List β} {l:List α},out.Perm (l.map f)-> ∃l':List α,l'.Perm l/\l'.map f=out
 | [],l,p=>by
  have e:=p.length_eq;rw [G2,S4] at e;exact⟨[],by rw [Y4 e.symm],rfl⟩
 |x::out,l,p=>by
  obtain⟨y,hy,rfl⟩:=R3.mp (p.mem_iff.mp D4);obtain⟨l1,l2,rfl⟩:=List.append_of_mem hy;have p2:out.Perm ((l1++l2).map f):=by
   refine List.Perm.cons_inv (a:=f y) (p.trans ?_);rw [B1,B1,R9];exact List.perm_middle
  obtain⟨l',a,b⟩:=Uo p2;exact⟨y::l',(a.cons y).trans List.perm_middle.symm,by rw [R9,b]⟩
def jbZ (H:Hp)(v:V)(ns:List Int):Prop:= ∃a,v= .ref a/\H a=some (.tup (ns.map V.int))
theorem Dw {X:Cx}{k:Nat}(hr:Room k X.A):CallR X (.builtin "sorted") (λxs H Q=> ∃ (a:Addr) (ps:List (V×List Int)),xs= [.ref a]/\SqL X.K H a (ps.map (·.1))/\ps.length<sizeLine/\(∀p∈ps,jbZ H p.1 p.2)/\ ∀ (q:Addr) (ps':List (V×List Int)),H q=none->ps'.Perm ps->(ps'.map (·.2)).Pairwise (λx y=>HT.ze y x=false)->Q (.ref q) (upd H q (.lst (ps'.map (·.1))))):=by
 intro pins s σ H xs us Q I r h;obtain⟨a,ps,rfl,hS,hz,ht,q⟩:=h;obtain⟨u,rfl,ru⟩:=Zv r;cases ru;obtain⟨its,rv,pl,hz'⟩:=I.list hS;obtain⟨zs,e1,e2,e3⟩: ∃zs:List (Value×V×List Int),its=zs.map (·.1)/\ps=zs.map (·.2)/\ ∀z∈zs,RelV z.2.1 z.1:=by
  clear hS q hz ht hz' pl
  induction ps generalizing its with
  |nil=>cases rv;exact⟨[],rfl,rfl,λz hz=>by cases hz⟩
  |cons p ps ih=>
   rw [R9] at rv;cases rv with
   |cons r1 r2=>
    obtain⟨zs,e1,e2,e3⟩:=ih _ r2;exact⟨(_,p)::zs,by rw [R9,<-e1],by rw [R9,<-e2],λz hz=>by
     rcases P4.mp hz with rfl|hz
     ·exact r1
     ·exact e3 z hz⟩
 subst e1 e2;have it: ∀z∈zs,IT s.heap z.1 z.2.2:=λz hm=>by
  obtain⟨b,eb,hb⟩:=ht z.2 (G1i hm);have rz:=e3 z hm;rw [eb] at rz;have rz:z.1= .ref b:=rz;obtain⟨_,us,r2,p⟩:=I.hok b _ hb;exact⟨b,us.toArray,rz,p.tup,YK r2⟩
 have hu:X.A.in1.in1.units<cLine:=by
  have:=hr.un;show X.A.units+1+1<cLine;omega
 rw [G2] at hz;refine HT.MK hu pl.isList (by rw [G2];exact hz) (λv hv=> ?_) λh1 h' tk c out k1 k2 e4 pm srt=> ?_
 ·obtain⟨z,hm,rfl⟩:=R3.mp hv;exact⟨_,it z hm⟩
 obtain⟨zs',pz,rfl⟩:=Uo pm;have I1:=I.kept (t':=s.toks) k1;have vv: ∀l:List (Value×V×List Int),(∀z∈l,z∈zs)->Vals ((l.map (·.2)).map (·.1)) (l.map (·.1)):=λl=>by
  induction l with
  |nil=>exact λ_=> .nil
  |cons z l ih=>exact λsub=> .cons (e3 z (sub z D4)) (ih λy hy=>sub y (D0 _ hy))
 refine⟨.ref _,_,I1.laid (t':=tk) (o:= .lst ((zs'.map (·.2)).map (·.1))) k2 (G6 _) ⟨?_,_,c,vv zs' λz hm=>pz.mem_iff.mp hm,e4⟩,rfl,q _ (zs'.map (·.2)) (I1.hok.fresh (G6 _)) (pz.map _) ?_⟩
 ·rw [G2,G2,pz.length_eq];exact D7 hz
 ·rw [A3,A3];rw [A3] at srt;refine srt.imp_of_mem λ{y z} hy hz e=> ?_
  rw [<- (it y (pz.mem_iff.mp hy)).nums,<- (it z (pz.mem_iff.mp hz)).nums];exact e
abbrev tI (ns:List Int):D:= .tup (ns.map D.int)
def KY:RDn:=λds h Q=> ∃ (a:Addr) (nss:List (List Int)),ds= [.lst a]/\h a=some (nss.map tI)/\nss.length<sizeLine/\ ∀ (p:Addr) (mss:List (List Int)),h p=none->mss.Perm nss->mss.Pairwise (λx y=>HT.ze y x=false)->Q (.lst p) (yL h p (mss.map tI))
theorem OG {K:PySem.W.Frag}{H:Hp}: ∀ {nss:List (List Int)} {vs:List V},RelDs K H (nss.map tI) vs-> ∃ps:List (V×List Int),vs=ps.map (·.1)/\nss=ps.map (·.2)/\ ∀p∈ps,jbZ H p.1 p.2
 | [],vs,r=>⟨[],r,rfl,λp hp=>by cases hp⟩
 |ns::nss,vs,r=>by
  obtain⟨v,us,e,r1,r2⟩:=(show ∃v r,vs=v::r/\RelD K H (tI ns) v/\RelDs K H (nss.map tI) r from r);obtain⟨ps,e1,e2,e3⟩:=OG r2;obtain⟨a,ws,e4,hH,r4⟩:=(show ∃a vs,v= .ref a/\H a=some (.tup vs)/\RelDs K H (ns.map D.int) vs from r1);rw [zN r4] at hH;exact⟨(v,ns)::ps,by rw [e,e1];rfl,by rw [e2];rfl,λp hp=>by
   rcases P4.mp hp with rfl|hp
   ·exact⟨a,e4,hH⟩
   ·exact e3 p hp⟩
theorem OH {K:PySem.W.Frag}{H:Hp}: ∀ {ps:List (V×List Int)},(∀p∈ps,jbZ H p.1 p.2)->RelDs K H ((ps.map (·.2)).map tI) (ps.map (·.1))
 | [],_=> .nil
 |p::ps,h=> .cons (by
  obtain⟨a,e,hH⟩:=h p D4;exact⟨a,_,e,hH,JN _⟩) (OH λq hq=>h q (D0 _ hq))
theorem Cu {X:Cx}{k:Nat}(hr:Room k X.A):Ja X (.builtin "sorted") KY:=(Dw hr).imp λxs H Q ⟨ds,h,Qd,r,rh,⟨a,nss,e,hd,hz,q⟩,p⟩=>by
 subst e;obtain⟨v,e,r1⟩:=jC r;obtain⟨vs,hH,r2⟩:=rh a _ hd;have e1:v= .ref a:=r1.1;subst e e1;obtain⟨ps,rfl,rfl,ht⟩:=OG r2;refine⟨a,ps,rfl,SqL.of hH,by rw [G2] at hz;exact hz,ht,λc ps' hc pm srt=> ?_⟩;exact p (.lst c) _ _ _ (.new hc) (rh.newL hc (OH λx hx=>ht x (pm.mem_iff.mp hx))) ⟨rfl,_,jt⟩ (q c _ (rh.free hc) (pm.map _) srt)
def yM:Nat->List (List Nat)
 |0=> [[]]
 |k+1=>yM k++(yM k).map λS=>S++ [k]
theorem Up: ∀n,(yM n).length=2^n
 |0=>rfl
 |k+1=>by
  show (yM k++(yM k).map λS=>S++ [k]).length=_;rw [G8,G2,Up k,G1p];omega
theorem Vy: ∀ {n:Nat} {S:List Nat},S∈yM n->IsS n S
 |0,S,h=>by
  rw [show yM 0= [[]] from rfl,G7] at h;subst h;exact IsS.nil 0
 |k+1,S,h=>by
  rcases D6.mp (show S∈yM k++(yM k).map λS=>S++ [k] from h) with h|h
  ·exact(Vy h).more false
  ·obtain⟨S',h',rfl⟩:=R3.mp h;exact(Vy h').more true
theorem Uq: ∀ {n:Nat} (p:Nat->Bool),(List.range n).filter p∈yM n
 |0,p=>G7.mpr rfl
 |k+1,p=>by
  show _∈yM k++(yM k).map λS=>S++ [k]
  rw [A4,W1,D6];cases e:p k with
  |false=>
   left;rw [show [k].filter p= [] by simp [e],C7];exact Uq p
  |true=>
   right;rw [show [k].filter p= [k] by simp [e]];exact R3.mpr ⟨_,Uq p,rfl⟩
theorem OJ {n:Nat}{S:List Nat}:S∈yM n↔IsS n S:=⟨Vy,λ⟨p,e⟩=>by rw [e];exact Uq p⟩
abbrev toI (S:List Nat):List Int:=S.map λ(k:Nat)=>(k:Int)
theorem KZ {S S':List Nat}(h:toI S=toI S'):S=S':=by
 have:=congrArg (List.map Int.toNat) h;rw [S3,S3] at this;have e:(Int.toNat∘λ(k:Nat)=>(k:Int))=id:=by funext k;exact Int.toNat_natCast k
 rw [e,G0b,G0b] at this;exact this
theorem TR (S:List Nat):tI (toI S)=jW S:=by
 show D.tup _=D.tup _;rw [S3];rfl
def leS (a b:List Nat):Bool:= !HT.ze (toI b) (toI a)
theorem OK (a b c:List Nat)(h:leS a b=true)(h':leS b c=true):leS a c=true:=by
 unfold leS at*
 cases e:HT.ze (toI c) (toI a) with
 |false=>rfl
 |true=>
  rcases Ul _ (toI b) _ e with z|z
  ·rw [z] at h';cases h'
  ·rw [z] at h;cases h
theorem OL (a b:List Nat):(leS a b||leS b a)=true:=by
 unfold leS;cases e:HT.ze (toI b) (toI a) with
 |false=>rfl
 |true=>rw [Yt _ _ e];rfl
theorem SI {a b:List Nat}(h:leS a b=true)(h':leS b a=true):a=b:=by
 unfold leS at*
 refine KZ (Um _ _ ?_ ?_)
 ·cases e:HT.ze (toI a) (toI b) with
  |false=>rfl
  |true=>rw [e] at h';cases h'
 ·cases e:HT.ze (toI b) (toI a) with
  |false=>rfl
  |true=>rw [e] at h;cases h
def OM (l:List (List Nat)):List (List Nat):=l.mergeSort leS
theorem XW (l:List (List Nat)):(OM l).Perm l:=List.mergeSort_perm _ _
theorem Cv (l:List (List Nat)):(OM l).Pairwise λa b=>leS a b=true:=List.pairwise_mergeSort OK OL l
theorem ON {l P:List (List Nat)}(p:P.Perm l)(r:P.Pairwise λa b=>leS a b=true):P=OM l:=
 List.Perm.eq_of_pairwise (λa b _ _ x y=>SI x y) r (Cv l) (p.trans (XW l).symm)
theorem OO {l:List (List Nat)}{mss:List (List Int)}(p:mss.Perm (l.map toI))(r:mss.Pairwise λx y=>HT.ze y x=false):mss.map tI=(OM l).map jW:=by
 obtain⟨P,pP,rfl⟩:=Uo p;rw [A3] at r;rw [<-ON pP (r.imp λe=>by unfold leS;rw [e];rfl),List.map_map];exact M5 λS _=>TR S
def jah (n:Nat):List (List Nat):=OM (yM n)
theorem setsS_mem {n:Nat}{S:List Nat}:S∈jah n↔IsS n S:=(XW _).mem_iff.trans OJ
end L2
namespace L2
open PySem PySem.Spec PyProof.Rows PySem.SeqAt
theorem BB: ∀l:List Int,PyData.canLayAll0 (l.map PyData.int)=true
 | []=>rfl
 |x::l=>by show (PyData.canLay0 (.int x)&&_)=true;rw [BB l];rfl
theorem OP {neg:Bool}{x:Nat}{S:List Nat}{h:HD}{Q:KD}(q: ∀b:Bool,(b=true↔x∈S)->Q (.bl (neg !=b)) h):inE neg (.int (x:Int)) (jW S) h Q:=by
 refine⟨.int x,(Mx S).map PyData.int,rfl,.inr (Yn h S),rfl,BB _,(by show (0:Nat)<=60;decide),q _ ?_⟩;rw [A8];constructor
 ·rintro ⟨z,hz,e⟩;obtain⟨m,hm,rfl⟩:=R3.mp hz;obtain⟨y,hy,rfl⟩:=R3.mp (show m∈S.map λ(k:Nat)=>(k:Int) from hm);have:(y:Int)=x:=by simpa [PyData.eqv] using e
  have:y=x:=by omega
  exact this ▸ hy
 ·intro z;exact⟨.int x,R3.mpr ⟨_,R3.mpr ⟨x,z,rfl⟩,rfl⟩,by simp [PyData.eqv]⟩
theorem OQ {x:Nat}{S:List Nat}{h:HD}{Q:KD}(q:Q (.bl (decide (x∈S))) h):inE false (.int (x:Int)) (jW S) h Q:=OP λbo hb=>by
 have:(false !=bo)=decide (x∈S):=by
  cases bo with
  |true=>rw [P0 (hb.mp rfl)];rfl
  |false=>rw [R4 λz=>by have:=hb.mpr z;cases this];rfl
 rw [this];exact q
theorem kc {x:Nat}{S:List Nat}{h:HD}{Q:KD}(q:Q (.bl (!decide (x∈S))) h):inE true (.int (x:Int)) (jW S) h Q:=OP λbo hb=>by
 have:(true !=bo)= !decide (x∈S):=by
  cases bo with
  |true=>rw [P0 (hb.mp rfl)];rfl
  |false=>rw [R4 λz=>by have:=hb.mpr z;cases this];rfl
 rw [this];exact q
def wk (T:List (List Int)):Nat->Nat->Nat->Bool
 |0,i,j=>decide (i=j)|| !decide (ent T i j=0)
 |b+1,i,j=>wk T b i j||(wk T b i b&&wk T b b j)
def fW (T:List (List Int))(b i j x y:Nat):Bool:=if x<i\/(x=i/\y<j) then wk T (b+1) x y else wk T b x y
theorem encO:Enc jW Dm:=⟨Yn,λS=>yB _,λS=>S1 (Jc _) (by decide),Yo⟩
end L2
namespace L2
open PySem PySem.Spec PyProof.Rows PySem.SeqAt HT
open Classical in
noncomputable def readOf (h:Heap)(v:Value):PyData:=if e: ∃p as,p.canLay0=true/\Reads h v p as then e.choose else .none
end L2
namespace L2
open PySem PySem.Spec PyProof.Rows
def s5:Nat->Nat
 |0=>0
 |d+1=>5*s5 d+1
def f5 (N:Nat):Nat->Nat->Nat
 |0,a=>a
 |d+1,a=>(f5 N d a*5+1)%N
theorem BC: ∀ (fuel k n:Nat),3<=k-> ∃m,3<=m/\SetTable.sizeAbove.go n fuel (2^k)=2^m/\(n<2^(k+fuel)->n<2^m)
 |0,k,n,h=>⟨k,h,rfl,λz=>z⟩
 |fuel+1,k,n,h=>by
  unfold SetTable.sizeAbove.go
  by_cases c:2^k<=n
  ·rw [if_pos c,<-G1p];obtain⟨m,a,b,d⟩:=BC fuel (k+1) n (by omega);exact⟨m,a,b,λz=>d (by rw [Nat.add_right_comm,V9];exact z)⟩
  ·rw [if_neg c];exact⟨k,h,rfl,λ_=>by omega⟩
theorem above {n:Nat}(h:n<2^67): ∃m,SetTable.sizeAbove n=2^m/\n<SetTable.sizeAbove n/\8<=SetTable.sizeAbove n:=by
 obtain⟨m,a,b,c⟩:=BC 64 3 n (by decide);have b:SetTable.sizeAbove n=2^m:=b;refine⟨m,b,by rw [b];exact c h,?_⟩;rw [b];exact F4 (show 0<2 by decide) a
end L2
namespace L2
open PySem PySem.Spec PyProof.Rows HT
def ke (h h':Heap):Prop:= ∀ (b:Addr) (o:Obj),o.cls= .type "tuple" ->h.get? b=some o->h'.get? b=some o
structure MemK (prog:Program)(w:World)(K:Type)[DecidableEq K] where
 is:Heap->K->Addr->Prop
 hash:K->Int
 inj: ∀ {h:Heap} {x y:K} {a:Addr},is h x a->is h y a->x=y
 keep: ∀ {h h':Heap} {x:K} {a:Addr},ke h h'->is h x a->is h' x a
 hashed: ∀ {A:Around} {E:Value->Shared->Prop} {s:Shared} {x:K} {a:Addr} {Q:Int->Shared->Prop},A.units+8<cLine->is s.heap x a->(∀tk,Q (hash x) {s with toks:=tk})->wpAny (model prog w) A (pyHash (.ref a)) Q E s
 same: ∀ {A:Around} {E:Value->Shared->Prop} {s:Shared} {x y:K} {a b:Addr} {Q:Bool->Shared->Prop},A.units+8<cLine->is s.heap x a->is s.heap y b->Q (decide (x=y)) s->wpAny (model prog w) A (eqBool (.ref a) (.ref b)) Q E s
 quiet: ∀ {A:Around} {E:Value->Shared->Prop} {s:Shared} {x:K} {a:Addr} {Q:Bool->Shared->Prop},is s.heap x a->Q true s->wpAny (model prog w) A (eqIsQuiet 8 (.ref a)) Q E s
 cls: ∀ {A:Around} {E:Value->Shared->Prop} {s:Shared} {x:K} {a:Addr} {Q:Bool->Shared->Prop},is s.heap x a->Q false s->wpAny (model prog w) A (ofAClassStatement 8 (.ref a)) Q E s
 byv: ∀ {A:Around} {E:Value->Shared->Prop} {s:Shared} {x:K} {a:Addr} {Q:Bool->Shared->Prop},is s.heap x a->Q true s->wpAny (model prog w) A (hashByValue 8 (.ref a)) Q E s
end L2
namespace L2
open PySem PySem.Spec PyProof.Rows PySem.W
structure DefIn (K:Frag)(x:Str)(st:Stmt)(f:Addr)(fd:FuncData):Prop where
 at_:nsIn K mainGlobals x=some (some (.ref f))
 fn:Fun K x x st f fd
variable {K:Frag}{h base:Heap}{mg:Str->Option Value}{x:Str}{st:Stmt}{f:Addr}{fd:FuncData}{P:Program}{w:World}{n:Nat}{ps:List Str}
theorem jai {oc:Value}{od an:Option Addr}{osl:Array (Option Value)}{kV doc pm cdv ct:Value}(a:nsIn K mainGlobals x=some (some (.ref f)))(l:K.lookup f=some ⟨oc,od,.func (fnOf x x (vZ st) (zG st) (jd st) .none kV doc pm an cdv ct),osl⟩)
 (c:codeIn K cdv x=true)(k:keepIn K (.ref f)=true):DefIn K x st f (fnOf x x (vZ st) (zG st) (jd st) .none kV doc pm an cdv ct):=⟨a,xf l c k⟩
abbrev jaj (x:Str)(st:Stmt)(ps:List Str):Prop:= ∀ (kV doc pm:Value) (an:Option Addr) (cdv ct:Value) (us:List Value),us.length=ps.length->bindArgs (fnOf x x (vZ st) (zG st) (jd st) .none kV doc pm an cdv ct) ⟨us,[]⟩=pure (ps.zip us)
theorem DefIn.nm (d:DefIn K x st f fd)(X:K.In h)(G:h.Ns mainGlobals mg):mg x=some (.ref f):=mg_of X G d.at_
theorem DefIn.cal {sp:RDn}(d:DefIn K x st f fd)(l:OpenLaw)(w:World)(base:Heap)(X:K.In h)(G:h.Ns mainGlobals mg)(ok:FnOk l.prog w K mg base CX0 n f fd ps (LSp K sp))(b:jaj x st ps:=by first|(exact λ_ _ _ _ _ _ us hl=>match us,hl with| [_],_=>rfl)|(exact λ_ _ _ _ _ _ us hl=>match us,hl with| [_,_],_=>rfl)|(exact λ_ _ _ _ _ _ us hl=>match us,hl with| [_,_,_],_=>rfl)|(exact λ_ _ _ _ _ _ us hl=>match us,hl with| [_,_,_,_],_=>rfl)|(exact λ_ _ _ _ _ _ us hl=>match us,hl with| [_,_,_,_,_],_=>rfl)):jp l.prog w K mg base n x ps sp:=⟨_,_,ok,d.fn.binds b,d.fn.kp,d.nm X G⟩
theorem DefIn.rai {sp:RDx}(d:DefIn K x st f fd)(l:OpenLaw)(w:World)(base:Heap)(X:K.In h)(G:h.Ns mainGlobals mg)(ok:FnOk l.prog w K mg base (CXR l.prog w) n f fd ps (Oi mg K sp))(b:jaj x st ps:=by first|(exact λ_ _ _ _ _ _ us hl=>match us,hl with| [_],_=>rfl)|(exact λ_ _ _ _ _ _ us hl=>match us,hl with| [_,_],_=>rfl)|(exact λ_ _ _ _ _ _ us hl=>match us,hl with| [_,_,_],_=>rfl)|(exact λ_ _ _ _ _ _ us hl=>match us,hl with| [_,_,_,_],_=>rfl)|(exact λ_ _ _ _ _ _ us hl=>match us,hl with| [_,_,_,_,_],_=>rfl)):ZG l.prog w K mg base n x ps sp:=⟨_,_,ok,d.fn.binds b,d.fn.kp,d.nm X G⟩
def zsB (K:Frag):Bool:= ["len","max","min","divmod","all","any","repr","sum","sorted","int","tuple","list","set","bool","isinstance","range","zip","enumerate","reversed"].all λx=>nsIn K mainGlobals (Str.ofString x)==some none
theorem jb0 (X:K.In h)(G:h.Ns mainGlobals mg)(e:zsB K=true):Zs mg:=by
 unfold zsB at e;rw [R5] at e;have m:=λ(x:String) hx=>mg_none_of X G (V2.mp (e x hx))
 exact⟨m "len" (by decide),m "max" (by decide),m "min" (by decide),m "divmod" (by decide),m "all" (by decide),m "any" (by decide),m "repr" (by decide),m "sum" (by decide),m "sorted" (by decide),m "int" (by decide),m "tuple" (by decide),m "list" (by decide),m "set" (by decide),m "bool" (by decide),m "isinstance" (by decide),m "range" (by decide),m "zip" (by decide),m "enumerate" (by decide),m "reversed" (by decide)⟩
end L2
namespace My
open PySem L2
def top (i:Nat):Stmt:=PySem.Challenge.pw_firstpowers_k37_why_first.main.body.getD i (.Pass ⟨0,0,0,0⟩)
abbrev Yu:Stmt:=top 17
theorem ML:FnScope ["thing"] ["thing"] (jd Yu):=⟨rfl,rfl,rfl,by decide +kernel,rfl,by decide +kernel,by decide +kernel⟩
abbrev ZH:Stmt:=top 18
theorem Dx:FnScope ["thing","least","most"] ["thing","least","most"] (jd ZH):=⟨rfl,rfl,rfl,by decide +kernel,rfl,by decide +kernel,by decide +kernel⟩
abbrev Yv:Stmt:=top 19
theorem MM:FnScope ["thing","size"] ["thing","size"] (jd Yv):=⟨rfl,rfl,rfl,by decide +kernel,rfl,by decide +kernel,by decide +kernel⟩
abbrev Je:Stmt:=top 20
theorem Ya:FnScope ["thing","size","each"] ["thing","size"] (jd Je):=⟨rfl,rfl,rfl,by decide +kernel,rfl,by decide +kernel,by decide +kernel⟩
abbrev MN:Stmt:=top 21
theorem BN:FnScope ["row","one","other"] ["row"] (jd MN):=⟨rfl,rfl,rfl,by decide +kernel,rfl,by decide +kernel,by decide +kernel⟩
abbrev QH:Stmt:=top 22
theorem OR:FnScope ["thing","size"] ["thing","size"] (jd QH):=⟨rfl,rfl,rfl,by decide +kernel,rfl,by decide +kernel,by decide +kernel⟩
abbrev yX:Stmt:=top 23
theorem JK:FnScope ["thing","size","number"] ["thing","size"] (jd yX):=⟨rfl,rfl,rfl,by decide +kernel,rfl,by decide +kernel,by decide +kernel⟩
abbrev yi:Stmt:=top 24
theorem vj:FnScope ["thing","row"] ["thing"] (jd yi):=⟨rfl,rfl,rfl,by decide +kernel,rfl,by decide +kernel,by decide +kernel⟩
abbrev yP:Stmt:=top 25
theorem WC:FnScope ["thing"] ["thing"] (jd yP):=⟨rfl,rfl,rfl,by decide +kernel,rfl,by decide +kernel,by decide +kernel⟩
abbrev Jf:Stmt:=top 26
theorem QJ:FnScope ["table","thing"] ["table","thing"] (jd Jf):=⟨rfl,rfl,rfl,by decide +kernel,rfl,by decide +kernel,by decide +kernel⟩
abbrev Yw:Stmt:=top 27
theorem MO:FnScope ["table","thing"] ["table","thing"] (jd Yw):=⟨rfl,rfl,rfl,by decide +kernel,rfl,by decide +kernel,by decide +kernel⟩
abbrev vy:Stmt:=top 28
theorem UW:FnScope ["thing","least","most"] ["thing","least","most"] (jd vy):=⟨rfl,rfl,rfl,by decide +kernel,rfl,by decide +kernel,by decide +kernel⟩
abbrev Jg:Stmt:=top 31
theorem vH:FnScope ["table","some","head","place"] ["table","some"] (jd Jg):=⟨rfl,rfl,rfl,by decide +kernel,rfl,by decide +kernel,by decide +kernel⟩
abbrev ZI:Stmt:=top 32
theorem yT:FnScope ["table","some","k","sets","later","start"] ["table","some","k"] (jd ZI):=⟨rfl,rfl,rfl,by decide +kernel,rfl,by decide +kernel,by decide +kernel⟩
abbrev Jh:Stmt:=top 34
theorem wJ:FnScope ["one","other","size","row","place","by"] ["one","other"] (jd Jh):=⟨rfl,rfl,rfl,by decide +kernel,rfl,by decide +kernel,by decide +kernel⟩
abbrev OS:Stmt:=top 36
theorem AF:FnScope ["table","row","number"] ["table"] (jd OS):=⟨rfl,rfl,rfl,by decide +kernel,rfl,by decide +kernel,by decide +kernel⟩
abbrev QK:Stmt:=top 37
theorem VA:FnScope ["table","row","number"] ["table"] (jd QK):=⟨rfl,rfl,rfl,by decide +kernel,rfl,by decide +kernel,by decide +kernel⟩
abbrev vz:Stmt:=top 40
theorem UX:FnScope ["ahead","table"] ["ahead","table"] (jd vz):=⟨rfl,rfl,rfl,by decide +kernel,rfl,by decide +kernel,by decide +kernel⟩
abbrev zF:Stmt:=top 41
theorem jU:FnScope ["table","told","later"] ["table"] (jd zF):=⟨rfl,rfl,rfl,by decide +kernel,rfl,by decide +kernel,by decide +kernel⟩
abbrev Yx:Stmt:=top 42
theorem UP:FnScope ["told","back","k","at"] ["told","back","k"] (jd Yx):=⟨rfl,rfl,rfl,by decide +kernel,rfl,by decide +kernel,by decide +kernel⟩
abbrev vA:Stmt:=top 43
theorem YO:FnScope ["table"] ["table"] (jd vA):=⟨rfl,rfl,rfl,by decide +kernel,rfl,by decide +kernel,by decide +kernel⟩
abbrev Yy:Stmt:=top 44
theorem UQ:FnScope ["table","k","told","back"] ["table","k"] (jd Yy):=⟨rfl,rfl,rfl,by decide +kernel,rfl,by decide +kernel,by decide +kernel⟩
abbrev MP:Stmt:=top 47
theorem BM:FnScope ["table","place","head","number"] ["table","place"] (jd MP):=⟨rfl,rfl,rfl,by decide +kernel,rfl,by decide +kernel,by decide +kernel⟩
abbrev zJ:Stmt:=top 48
theorem vR:FnScope ["table","one","other","k"] ["table","one","other","k"] (jd zJ):=⟨rfl,rfl,rfl,by decide +kernel,rfl,by decide +kernel,by decide +kernel⟩
abbrev ZJ:Stmt:=top 49
theorem zL:FnScope ["table","other","k","size","counts","left","place","head"] ["table","other","k"] (jd ZJ):=⟨rfl,rfl,rfl,by decide +kernel,rfl,by decide +kernel,by decide +kernel⟩
abbrev Ji:Stmt:=top 50
theorem wK:FnScope ["table","place","ahead","number","ways","at"] ["table","place","ahead","number"] (jd Ji):=⟨rfl,rfl,rfl,by decide +kernel,rfl,by decide +kernel,by decide +kernel⟩
abbrev yj:Stmt:=top 51
theorem zR:FnScope ["table","one","counts","number","walk","ahead","place"] ["table","one","counts","number"] (jd yj):=⟨rfl,rfl,rfl,by decide +kernel,rfl,by decide +kernel,by decide +kernel⟩
abbrev Jj:Stmt:=top 52
theorem Yb:FnScope ["table","one","other","k","counts"] ["table","one","other","k"] (jd Jj):=⟨rfl,rfl,rfl,by decide +kernel,rfl,by decide +kernel,by decide +kernel⟩
abbrev yr:Stmt:=top 54
theorem va:FnScope ["table","at","each"] ["table"] (jd yr):=⟨rfl,rfl,rfl,by decide +kernel,rfl,by decide +kernel,by decide +kernel⟩
abbrev ZK:Stmt:=top 55
theorem JL:FnScope ["table","one","row","numbers"] ["table"] (jd ZK):=⟨rfl,rfl,rfl,by decide +kernel,rfl,by decide +kernel,by decide +kernel⟩
abbrev ZL:Stmt:=top 56
theorem JJ:FnScope ["table","k","one","other","steps"] ["table","k"] (jd ZL):=⟨rfl,rfl,rfl,by decide +kernel,rfl,by decide +kernel,by decide +kernel⟩
abbrev vB:Stmt:=top 57
theorem zM:FnScope ["table","k","places","walks","one","other"] ["table"] (jd vB):=⟨rfl,rfl,rfl,by decide +kernel,rfl,by decide +kernel,by decide +kernel⟩
abbrev ZM:Stmt:=top 59
theorem Dy:FnScope ["_law_script","_law_k"] ["_law_script","_law_k"] (jd ZM):=⟨rfl,rfl,rfl,by decide +kernel,rfl,by decide +kernel,by decide +kernel⟩
abbrev Yz:Stmt:=top 60
theorem UO:FnScope ["_law_cell_here","_law_left"] ["_law_cell_here"] (jd Yz):=⟨rfl,rfl,rfl,by decide +kernel,rfl,by decide +kernel,by decide +kernel⟩
abbrev ZN:Stmt:=top 61
theorem yS:FnScope ["_law_pen_here","_law_many","_law_left","_law_found","_law_stir"] ["_law_pen_here","_law_many"] (jd ZN):=⟨rfl,rfl,rfl,by decide +kernel,rfl,by decide +kernel,by decide +kernel⟩
abbrev Jk:Stmt:=top 62
theorem QL:FnScope ["_law_thing"] ["_law_thing"] (jd Jk):=⟨rfl,rfl,rfl,by decide +kernel,rfl,by decide +kernel,by decide +kernel⟩
abbrev ZO:Stmt:=top 63
theorem ww:FnScope ["_law_e","_law_seen","_law_words"] ["_law_e"] (jd ZO):=⟨rfl,rfl,rfl,by decide +kernel,rfl,by decide +kernel,by decide +kernel⟩
abbrev ZP:Stmt:=top 64
theorem Vb:FnScope ["_law_call","_law_found","_law_e","_law_word"] ["_law_call"] (jd ZP):=⟨rfl,rfl,rfl,by decide +kernel,rfl,by decide +kernel,by decide +kernel⟩
abbrev ZQ:Stmt:=top 65
theorem Dz:FnScope ["_law_pen_here"] ["_law_pen_here"] (jd ZQ):=⟨rfl,rfl,rfl,by decide +kernel,rfl,by decide +kernel,by decide +kernel⟩
abbrev Jl:Stmt:=top 66
theorem jE:FnScope ["_law_pen_here","_law_size_here","_law_way","_law_often","_law_most","_law_rows","_law_one","_law_row","_law_other","_law_goes"] ["_law_pen_here","_law_size_here"] (jd Jl):=⟨rfl,rfl,rfl,by decide +kernel,rfl,by decide +kernel,by decide +kernel⟩
abbrev Jm:Stmt:=top 67
theorem zQ:FnScope ["_law_one","_law_other","_law_size_here","_law_rows","_law_row","_law_place","_law_k"] ["_law_one","_law_other"] (jd Jm):=⟨rfl,rfl,rfl,by decide +kernel,rfl,by decide +kernel,by decide +kernel⟩
abbrev vC:Stmt:=top 68
theorem yZ:FnScope ["_law_table_here","_law_row","_law_number"] ["_law_table_here"] (jd vC):=⟨rfl,rfl,rfl,by decide +kernel,rfl,by decide +kernel,by decide +kernel⟩
abbrev vD:Stmt:=top 69
theorem Zu:FnScope ["_law_table_here","_law_row"] ["_law_table_here"] (jd vD):=⟨rfl,rfl,rfl,by decide +kernel,rfl,by decide +kernel,by decide +kernel⟩
abbrev Jn:Stmt:=top 70
theorem wI:FnScope ["_law_table_here","_law_here","_law_found","_law_k"] ["_law_table_here"] (jd Jn):=⟨rfl,rfl,rfl,by decide +kernel,rfl,by decide +kernel,by decide +kernel⟩
abbrev Jo:Stmt:=top 71
theorem yu:FnScope ["_law_table_here","_law_some","_law_size_here","_law_place","_law_one"] ["_law_table_here","_law_some"] (jd Jo):=⟨rfl,rfl,rfl,by decide +kernel,rfl,by decide +kernel,by decide +kernel⟩
abbrev ZR:Stmt:=top 72
theorem yc:FnScope ["_law_many","_law_found","_law_place","_law_some"] ["_law_many"] (jd ZR):=⟨rfl,rfl,rfl,by decide +kernel,rfl,by decide +kernel,by decide +kernel⟩
abbrev yH:Stmt:=top 73
theorem vP:FnScope ["_law_pen_here","_law_some"] ["_law_pen_here"] (jd yH):=⟨rfl,rfl,rfl,by decide +kernel,rfl,by decide +kernel,by decide +kernel⟩
abbrev yY:Stmt:=top 74
theorem yK:FnScope ["_law_table_here","_law_thing","_law_place","_law_here","_law_there"] ["_law_table_here","_law_thing"] (jd yY):=⟨rfl,rfl,rfl,by decide +kernel,rfl,by decide +kernel,by decide +kernel⟩
abbrev vE:Stmt:=top 75
theorem zE:FnScope ["_law_table_here","_law_k","_law_gap","_law_size_here","_law_some","_law_here","_law_there","_law_place"] ["_law_table_here","_law_k","_law_gap"] (jd vE):=⟨rfl,rfl,rfl,by decide +kernel,rfl,by decide +kernel,by decide +kernel⟩
abbrev yI:Stmt:=top 76
theorem zA:FnScope ["_law_table_here","_law_thing","_law_size_here","_law_k","_law_walks","_law_gap","_law_one","_law_line","_law_other","_law_walk"] ["_law_table_here","_law_thing"] (jd yI):=⟨rfl,rfl,rfl,by decide +kernel,rfl,by decide +kernel,by decide +kernel⟩
abbrev Jp:Stmt:=top 77
theorem yw:FnScope ["_law_table_here","_law_due","_law_turn","_law_found"] ["_law_table_here"] (jd Jp):=⟨rfl,rfl,rfl,by decide +kernel,rfl,by decide +kernel,by decide +kernel⟩
abbrev MQ:Stmt:=top 78
theorem Vc:FnScope ["_law_script","_law_some","_law_table_here","_law_cell_here","_law_pen_here","_law_size_here","_law_turn","_law_none"] ["_law_script"] (jd MQ):=⟨rfl,rfl,rfl,by decide +kernel,rfl,by decide +kernel,by decide +kernel⟩
section
variable {P:Program}{w:World}{K:PySem.W.Frag}{mg:Str->Option Value}{base:Heap}
/-- no def is asked of the script's list: a thing -/
def BD:D->Bool
 | .int _=>true
 |_=>false
/-- a row of so many numbers from 0 on -/
def jaH:D->Bool
 | .int i=>decide (0<=i)
 |_=>false
def TU (d:D)(k:Int):Bool:=match d with
 | .tup ds=>decide ((ds.length:Int)=k)&&ds.all jaH
 |_=>false
/-! every part has a kind that is told,and no tuple is long -/
mutual
def okD:D->Bool
 | .scr _=>false| .exc _=>false| .fn _=>false
 | .tup ds=>decide (ds.length<=1000)&&okDs ds
 |_=>true
def okDs:List D->Bool
 | []=>true
 |d::ds=>okD d&&okDs ds
end
theorem QM: ∀ {ds:List D},okDs ds=true-> ∀d∈ds,okD d=true
 |d::ds,h,x,hx=>by
  have h':(okD d&&okDs ds)=true:=h;rw [N0] at h';rcases P4.mp hx with e|e
  ·subst e;exact h'.1
  ·exact QM h'.2 x e
theorem OT: ∀ {ds:List D},(∀d∈ds,okD d=true)->okDs ds=true
 | [],_=>rfl
 |d::ds,h=>by
  show (okD d&&okDs ds)=true;rw [h d D4,OT λx hx=>h x (D0 _ hx)];rfl
theorem QN {ds:List D}(h:okD (.tup ds)=true):ds.length<=1000/\ ∀d∈ds,okD d=true:=by
 have h':(decide (ds.length<=1000)&&okDs ds)=true:=h;rw [N0] at h';exact⟨T7 h'.1,QM h'.2⟩
theorem BE {ds:List D}(h:ds.length<=1000)(h2: ∀d∈ds,okD d=true):okD (.tup ds)=true:=by
 show (decide (ds.length<=1000)&&okDs ds)=true;rw [P0 h,OT h2];rfl
theorem vF {d:D}(h:okD d=true): ∃n,PR d=some n:=by
 cases d<;>first|exact⟨_,rfl⟩|cases h
/-- a table -/
def BF:D->Bool
 | .tup rs=>decide (1<=rs.length)&&decide (rs.length<=6)&&rs.all λr=>TU r rs.length
 |_=>false
def wm:RDn:=λds h Q=> ∃d n,ds= [d]/\PR d=some n/\Q (.bl (BD d)) h
variable {n:Nat}{f:Addr}{fd:FuncData}
theorem MR (Z:Zs mg)(F:Fun K "is_whole" "is_whole" Yu f fd):FnOk P w K mg base CX0 (n+1) f fd ["thing"] (LSp K wm):=by
 refine F.okJ ML (λds h Q q=>by obtain⟨d,nm,e,hn,q⟩:=q;subst e;rfl) _ (λcdv A outer s H E hr=>(jg (zC (Lk (Yj (T:= "int") (by decide) rfl Z.isinstance rfl Z.int (by decide +kernel) (jv 0)) (BZ (jcv (Yj (T:= "bool") (by decide) rfl Z.isinstance rfl Z.bool (by decide +kernel) (jv 0)))))))) ?_;intro ds h Q q;obtain⟨d,nm,e,hn,q⟩:=q;subst e;simp only [Fd,FP,dIs,Fc,zU,R9,E1,D2,S4,B0,T8,N8,L9,D.bl.injEq,FQ,Me,A5,hn];cases d<;>cases hn<;>exact⟨h,Sub.refl h,q⟩
def Jq:RDn:=λds h Q=> ∃d,∃a b:Int,ds= [d,.int a,.int b]/\okD d=true/\Q (.bl (zH d a b)) h
theorem DA (Z:Zs mg)(F:Fun K "is_within" "is_within" ZH f fd)(YD:jp P w K mg base n "is_whole" ["thing"] wm):FnOk P w K mg base CX0 (n+1) f fd ["thing","least","most"] (LSp K Jq):=by
 obtain⟨RI,GQ,YF,ZZ,Wd,Wf⟩:=YD;refine F.okJ Dx (λds h Q q=>by obtain⟨d,a,b,e,ok,q⟩:=q;subst e;rfl) _ (λcdv A outer s H E hr=>(jg (zC (Lk (jy YF hr rfl Wf Wd ZZ (jac (jv 0) jc)) (BZ (Tz PQ PQ (jv 1) (jv 0) (jv 2))))))) ?_;intro ds h Q q;obtain⟨d,a,b,e,ok,q⟩:=q;subst e;obtain⟨nm,hn⟩:=vF ok;refine⟨_,rfl,d,nm,rfl,hn,BD d,rfl,?_⟩;cases d with
 |int x=>
  refine Vd ⟨_,rfl,_,rfl,_,rfl,?_⟩;show if decide (a<=x)=true then _ else _
  by_cases h1:a<=x
  ·rw [P0 h1];simp only [zH,P0 h1,Z5] at q;exact Vd ⟨_,rfl,h,Sub.refl h,q⟩
  ·rw [R4 h1];simp only [zH,R4 h1,G1b] at q;exact wx ⟨h,Sub.refl h,q⟩
 |_=>exact wx ⟨h,Sub.refl h,q⟩
def ZS:RDn:=λds h Q=> ∃d,∃n:Int,ds= [d,.int n]/\okD d=true/\Q (.bl (zH d 0 (n-1))) h
theorem MS (Z:Zs mg)(F:Fun K "is_place" "is_place" Yv f fd)(ZU:jp P w K mg base n "is_within" ["thing","least","most"] Jq):FnOk P w K mg base CX0 (n+1) f fd ["thing","size"] (LSp K ZS):=by
 obtain⟨GN,Xq,ZW,Jx,JF,JH⟩:=ZU;refine F.okJ MM (λds h Q q=>by obtain⟨d,k,e,ok,q⟩:=q;subst e;rfl) _ (λcdv A outer s H E hr=>(jg (zC (jy ZW hr rfl JH JF Jx (jac (jv 0) (by exact(jac jx (by exact(jac (jop Wm (jv 1) jx) jc))))))))) ?_;intro ds h Q q;obtain⟨d,k,e,ok,q⟩:=q;subst e;exact⟨_,rfl,_,rfl,d,0,k-1,rfl,ok,h,Sub.refl h,q⟩
def WD:RDn:=λds h Q=> ∃d,∃n:Int,ds= [d,.int n]/\okD d=true/\Q (.bl (vw d n)) h
theorem QP (Z:Zs mg)(F:Fun K "are_places" "are_places" Je f fd)(YC:jp P w K mg base n "is_place" ["thing","size"] ZS):FnOk P w K mg base CX0 (n+1) f fd ["thing","size"] (LSp K WD):=by
 obtain⟨RH,GP,YE,ZY,Wc,We⟩:=YC;refine F.okJ Ya (λds h Q q=>by obtain⟨d,k,e,ok,q⟩:=q;subst e;rfl) _ (λcdv A outer s H E hr=>(jg (zC (Lk (Yj (T:= "tuple") (by decide) rfl Z.isinstance rfl Z.tuple (by decide +kernel) (jv 0)) (BZ (jA (Wo rfl) rfl Z.all N4 (jac (jlc (i:=2) (js:= [2]) rfl (ji (by rfl)) (zS (jv 0)) (by decide) Ya.nd rfl (by first|exact Or.inl rfl|exact Or.inr rfl) (λX' hX=>jD) (λX' hX=>by obtain⟨C,s₀,H₀,ex,rfl⟩:=hX;exact(jy YE hr rfl We Wc ZY (jac (jv 2) (by exact(jac (jv 1) jc)))))) jc))))))) ?_;intro ds h Q q;obtain⟨d,k,e,ok,q⟩:=q;subst e;obtain⟨nm,hn⟩:=vF ok;refine⟨_,rfl,nm,hn,?_⟩;cases d with
 |tup es=>
  cases hn;obtain⟨hl,ht⟩:=QN ok;refine⟨_,rfl,Vd ?_⟩;exact jaC es (λx=>x) (λx=>zH x 0 (k-1)) hl (by rw [List.map_id']) (λR r=>⟨_,rfl,r⟩) (λx hx Q' q'=>⟨_,rfl,_,rfl,x,k,rfl,ht x hx,q'⟩) ⟨h,Sub.refl h,q⟩
 |_=>cases hn<;>exact⟨_,rfl,wx ⟨h,Sub.refl h,q⟩⟩
def BG:RDn:=λds h Q=> ∃S:List Nat,ds= [jW S]/\S.length<=1000/\Q (.bl ((S.zip (S.drop 1)).all λp=>decide ((p.1:Int)<(p.2:Int)))) h
theorem SJ (Z:Zs mg)(F:Fun K "rises" "rises" MN f fd):FnOk P w K mg base CX0 (n+1) f fd ["row"] (LSp K BG):=by
 refine F.okJ BN (λds h Q q=>by obtain⟨S,e,hl,q⟩:=q;subst e;rfl) _ (λcdv A outer s H E hr=>(jg (zC (jA (Wo rfl) rfl Z.all N4 (jac (jaB (i:=1) (j:=2) (js:= [1,2]) rfl (ji (by rfl)) (LJ rfl Z.zip (jac (jv 0) (by exact(jac (Da (jv 0) (Yk jx) Qt) jc)))) (by decide) (by decide) (by decide) BN.nd rfl rfl (by first|exact Or.inl rfl|exact Or.inr rfl) (by first|exact Or.inl rfl|exact Or.inr rfl) (λX' hX=>jD) (λX' hX=>by obtain⟨C,s₀,H₀,ex,rfl⟩:=hX;exact(Qr PP (jv 1) (jv 2) (jz _)))) jc))))) ?_;intro ds h Q q;obtain⟨S,e,hl,q⟩:=q;subst e;refine qB (j:=λ_=>some (Cd (S.map λ(k:Nat)=>D.int (k:Int)) (VS (S.map λ(k:Nat)=>D.int (k:Int)) (some 1) none))) (S.zip (S.drop 1)) (λp=> .int (p.1:Int)) (λp=> .int (p.2:Int)) (λp=>decide ((p.1:Int)<(p.2:Int))) (by rw [W0];omega) (congrArg some (LX S)) (λR r=>⟨_,rfl,_,rfl,_,rfl,_,_,rfl,r⟩) (λp hp Q' q'=>⟨_,rfl,_,rfl,q'⟩) ⟨h,Sub.refl h,q⟩
theorem SK {S:List Nat}(h:S.Pairwise (· < ·)):((S.zip (S.drop 1)).all λp=>decide ((p.1:Int)<(p.2:Int)))=true:=by
 rw [R5];intro p hp;have:=Bk h p hp;exact P0 (by omega)
def jds (n:Nat)(d:D):Prop:=(okD d=true/\vw d (n:Int)=false)\/ ∃S:List Nat,d=jW S/\(∀i∈S,i<n)/\S.length<=1000/\((S.zip (S.drop 1)).all λp=>decide ((p.1:Int)<(p.2:Int)))=false
def DB:RDn:=λds h Q=> ∃d,∃n:Nat,ds= [d,.int (n:Int)]/\n<=6/\((∃S,d=jW S/\IsS n S/\Q (.bl true) h)\/(jds n d/\Q (.bl false) h))
theorem OU (Z:Zs mg)(F:Fun K "is_set" "is_set" QH f fd)(ko:jp P w K mg base n "rises" ["row"] BG)(DS:jp P w K mg base n "are_places" ["thing","size"] WD):FnOk P w K mg base CX0 (n+1) f fd ["thing","size"] (LSp K DB):=by
 obtain⟨jav,kY,kq,SU,Tk,Tl⟩:=ko;obtain⟨AQ,Av,Rg,GB,GZ,Pm⟩:=DS;refine F.okJ OR (λds h Q q=>by obtain⟨d,n,e,hn,q⟩:=q;subst e;rfl) _ (λcdv A outer s H E hr=>(jg (zC (Lk (jy Rg hr rfl Pm GZ GB (jac (jv 0) (by exact(jac (jv 1) jc)))) (BZ (jy kq hr rfl Tl Tk SU (jac (jv 0) jc))))))) ?_;intro ds h Q q;obtain⟨d,n,e,hn,q⟩:=q;subst e;have okO: ∀S:List Nat,S.length<=1000->okD (jW S)=true:=λS hS=>BE (by rw [G2];exact hS) λd hd=>by obtain⟨x,_,rfl⟩:=R3.mp hd;rfl
 have plO: ∀S:List Nat,(∀i∈S,i<n)->vw (jW S) (n:Int)=true:=λS hS=>by
  show (S.map _).all _=true;rw [R5];intro x hx;obtain⟨i,hi,rfl⟩:=R3.mp hx;have:=hS i hi;show (decide ((0:Int)<=(i:Int))&&decide ((i:Int)<=(n:Int)-1))=true;rw [P0 (show (0:Int)<=(i:Int) by omega),P0 (show (i:Int)<=(n:Int)-1 by omega)];rfl
 rcases q with ⟨S,rfl,hS,q⟩|⟨⟨ok,bad⟩|⟨S,rfl,hS,hl,hr⟩,q⟩
 ·have hlen:=hS.len;refine⟨_,rfl,_,rfl,jW S,(n:Int),rfl,okO S (by omega),?_⟩;rw [plO S λi hi=>hS.lt hi];refine⟨_,rfl,Vd ⟨_,rfl,S,rfl,by omega,?_⟩⟩;rw [SK hS.rise];exact⟨h,Sub.refl h,q⟩
 ·refine⟨_,rfl,_,rfl,d,(n:Int),rfl,ok,?_⟩;rw [bad];exact⟨_,rfl,wx ⟨h,Sub.refl h,q⟩⟩
 ·refine⟨_,rfl,_,rfl,jW S,(n:Int),rfl,okO S hl,?_⟩;rw [plO S hS];refine⟨_,rfl,Vd ⟨_,rfl,S,rfl,hl,?_⟩⟩;rw [hr];exact⟨h,Sub.refl h,q⟩
def Jr:RDn:=λds h Q=> ∃d k,ds= [d,.int k]/\okD d=true/\Q (.bl (TU d k)) h
theorem Ur (Z:Zs mg)(F:Fun K "is_table_row" "is_table_row" yX f fd)(YD:jp P w K mg base n "is_whole" ["thing"] wm):FnOk P w K mg base CX0 (n+1) f fd ["thing","size"] (LSp K Jr):=by
 obtain⟨RI,GQ,YF,ZZ,Wd,Wf⟩:=YD;refine F.okJ JK (λds h Q q=>by obtain⟨d,k,e,ok,q⟩:=q;subst e;rfl) _ (λcdv A outer s H E hr=>(jf (vQ (jpt (XJ (wO (wN (Yj (T:= "tuple") (by decide) rfl Z.isinstance rfl Z.tuple (by decide +kernel) (jv 0)))) (Bc (zf oq_ne (jA zn rfl Z.len S5 (jac (jv 0) jc)) (jv 1) (jz _))))) (jg (zC jbl)) jH) (by exact(jg (zC (jA (Wo rfl) rfl Z.all N4 (jac (jlc (i:=2) (js:= [2]) rfl (ji (by rfl)) (zS (jv 0)) (by decide) JK.nd rfl (by first|exact Or.inl rfl|exact Or.inr rfl) (λX' hX=>jD) (λX' hX=>by obtain⟨C,s₀,H₀,ex,rfl⟩:=hX;exact(Lk (jy YF hr rfl Wf Wd ZZ (jac (jv 2) jc)) (BZ (Qr Ez (jv 2) jx (jz _)))))) jc))))))) ?_;intro ds h Q q;obtain⟨d,k,e,ok,q⟩:=q;subst e;obtain⟨nm,hn⟩:=vF ok;simp only [FT,kL,xn,FO,VQ,dIs,Fc,zU,R9,E1,D2,S4,List.replicate,B0,T8,N8,L9,D.bl.injEq,Fd,dC,Me,BW,dCB,yf,VP,dOp,xS,J8,neD,A5,hn];cases d with
 |tup es=>
  cases hn;obtain⟨hl,ht⟩:=QN ok;simp only [xU]
  by_cases hk:(es.length:Int)=k
  ·simp only [hk];simp;refine Ld (ds:=es) (h1:=h) (j:=λ_=>some es) (λx=> .bl (jaH x)) (D7 (jL hl)) rfl (λR r=>⟨.tup es,rfl,r⟩) (λd hd Q' q'=> ?_) (λp hp=> ?_)
   ·obtain⟨nn,hnn⟩:=vF (ht d hd);refine⟨d,rfl,d,nn,rfl,hnn,BD d,rfl,?_⟩;cases d with
    |int i=>exact Vd ⟨.int i,rfl,q'⟩
    |_=>exact wx q'
   ·refine⟨p,es.map jaH,rfl,by rw [je];simp,h,?_,?_⟩
    ·rw [wA hp];exact Sub.refl h
    ·simpa [TU,hk,O4,X2] using q
  ·simp [hk];exact⟨h,Sub.refl h,by simpa [TU,hk] using q⟩
 |_=>cases hn<;>exact⟨h,Sub.refl h,q⟩
def wR:RDn:=λds h Q=> ∃d,ds= [d]/\okD d=true/\Q (.bl (BF d)) h
theorem YA (Z:Zs mg)(F:Fun K "has_table_form" "has_table_form" yi f fd)(Xg:jp P w K mg base n "is_table_row" ["thing","size"] Jr)(ZX: ∃tk,mg "MOST_ROWS" =some (.int 6 tk)):FnOk P w K mg base CX0 (n+1) f fd ["thing"] (LSp K wR):=by
 obtain⟨Fh,CZ,Xj,UE,UK,UN⟩:=Xg;obtain⟨tk_MOST_ROWS,m_MOST_ROWS⟩:=ZX;refine F.okJ vj (λds h Q q=>by obtain⟨d,e,ok,q⟩:=q;subst e;rfl) _ (λcdv A outer s H E hr=>(jf (vQ (jpt (XJ (wO (wN (Yj (T:= "tuple") (by decide) rfl Z.isinstance rfl Z.tuple (by decide +kernel) (jv 0)))) (Bc (wO (Mu PQ PQ jx (jA zn rfl Z.len S5 (jac (jv 0) jc)) (EH rfl m_MOST_ROWS)))))) (jg (zC jbl)) jH) (by exact(jg (zC (jA (Wo rfl) rfl Z.all N4 (jac (jlc (i:=1) (js:= [1]) rfl (ji (by rfl)) (zS (jv 0)) (by decide) vj.nd rfl (by first|exact Or.inl rfl|exact Or.inr rfl) (λX' hX=>jD) (λX' hX=>by obtain⟨C,s₀,H₀,ex,rfl⟩:=hX;exact(jy Xj hr rfl UN UK UE (jac (jv 1) (by exact(jac (jA zn rfl Z.len S5 (jac (jv 0) jc)) jc)))))) jc))))))) ?_;intro ds h Q q;obtain⟨d,e,ok,q⟩:=q;subst e;obtain⟨nm,hn⟩:=vF ok;simp only [FT,kL,xn,FO,VQ,dIs,Fc,zU,R9,E1,D2,S4,List.replicate,B0,T8,N8,L9,D.bl.injEq,Fd,dC,Me,BW,dCB,yf,VP,VR,xS,Tu,A5,hn];cases d with
 |tup es=>
  cases hn;obtain⟨hl,ht⟩:=QN ok;simp only [xU]
  by_cases h1:1<=es.length
  ·by_cases h6:es.length<=6
   ·have h1':(1:Int)<=es.length:=by omega
    have h6':(es.length:Int)<=6:=by omega
    simp [h1',h6'];refine Ld (ds:=es) (h1:=h) (j:=λ_=>some es) (λx=> .bl (TU x es.length)) (D7 (jL hl)) rfl (λR r=>⟨.tup es,rfl,r⟩) (λd hd Q' q'=> ?_) (λp hp=> ?_)
    ·exact⟨d,rfl,.tup es,rfl,d,es.length,rfl,ht d hd,q'⟩
    ·refine⟨p,es.map λx=>TU x es.length,rfl,by rw [je];simp,h,?_,?_⟩
     ·rw [wA hp];exact Sub.refl h
     ·simpa [BF,h1,h6,O4,X2] using q
   ·have h1':(1:Int)<=es.length:=by omega
    have h6': ¬ (es.length:Int)<=6:=by omega
    simp [h1',h6'];exact⟨h,Sub.refl h,by simpa [BF,h1,h6] using q⟩
  ·have h1': ¬ (1:Int)<=es.length:=by omega
   simp [h1'];exact⟨h,Sub.refl h,by simpa [BF,h1] using q⟩
 |_=>cases hn<;>exact⟨h,Sub.refl h,q⟩
theorem kf {x:Int}(h:0<=x):jaH (.int x)=true:=P0 h
variable {e:Nat}{T:List (List Int)}
theorem kg (h:Sq n e T){r:List Int}(hr:r∈T):TU (JQ r) n=true:=by
 simp only [TU,JQ,G2,h.row r hr,decide_true,Z5,O4,R5,N6];intro x hx;exact kf (h.nn r hr x hx)
theorem kh (h:Sq n e T)(h1:1<=n)(h6:n<=6):BF (jw T)=true:=by
 simp only [BF,jw,G2,h.len,P0 h1,P0 h6,Z5,O4,R5,N6];intro r hr;exact kg h hr
theorem jak (h:Sq n e T)(h6:n<=6):okD (jw T)=true:=
 BE (by rw [G2,h.len];omega) λd hd=>by
  obtain⟨r,hr,rfl⟩:=R3.mp hd;exact BE (by rw [G2,h.row r hr];omega) λd hd=>by obtain⟨x,_,rfl⟩:=R3.mp hd;rfl
def zP:RDn:=λds h Q=> ∃T,∃n e:Nat,ds= [jw T]/\Sq n e T/\1<=n/\n<=6/\Q .non h
theorem QQ (Z:Zs mg)(F:Fun K "want_table" "want_table" yP f fd)(yk:jp P w K mg base n "has_table_form" ["thing"] wR):FnOk P w K mg base CX0 (n+1) f fd ["thing"] (LSp K zP):=by
 obtain⟨WT,Wb,yl,wS,wT,wU⟩:=yk;refine F.okJ WC (λds h Q q=>by obtain⟨T,k,b,e,hT,h1,h6,q⟩:=q;subst e;rfl) _ (λcdv A outer s H E hr=>(jg (vQ (wO (wN (jy yl hr rfl wU wT wS (jac (jv 0) jc)))) (jg XL) jH))) ?_;intro ds h Q q;obtain⟨T,k,b,e,hT,h1,h6,q⟩:=q;subst e;refine⟨_,rfl,jw T,rfl,jak hT h6,_,rfl,?_⟩;rw [kh hT h1 h6];exact wx ⟨h,Sub.refl h,q⟩
def Zf:RDx:=λds h R=> ∃d,ds= [d]/\okD d=true/\BF d=false/\R "NoTable" h
theorem UY (Z:Zs mg)(Ex:Exc K mg)(F:Fun K "want_table" "want_table" yP f fd)(yk:jp P w K mg base n "has_table_form" ["thing"] wR):FnOk P w K mg base (CXR P w) (n+1) f fd ["thing"] (Oi mg K Zf):=by
 obtain⟨WT,Wb,yl,wS,wT,wU⟩:=yk;refine F.okX WC (λds h R q=>by obtain⟨d,e,ok,bad,q⟩:=q;subst e;rfl) _ (λcdv A outer s H E hr=>(jbQ (wO (wN (jy yl hr rfl wU wT wS (jac (jv 0) jc)))) (Sj rfl (Ex.own "NoTable" (by decide)) rfl))) ?_;intro ds h R q;obtain⟨d,e,ok,bad,q⟩:=q;subst e;refine⟨_,rfl,d,rfl,ok,_,rfl,?_⟩;rw [bad];exact⟨rfl,q⟩
def WE:RDn:=λds h Q=> ∃T,∃n e p:Nat,ds= [jw T,.int (p:Int)]/\Sq n e T/\p<n/\Q .non h
theorem QR (Z:Zs mg)(F:Fun K "want_place" "want_place" Jf f fd)(YC:jp P w K mg base n "is_place" ["thing","size"] ZS):FnOk P w K mg base CX0 (n+1) f fd ["table","thing"] (LSp K WE):=by
 obtain⟨RH,GP,YE,ZY,Wc,We⟩:=YC;refine F.okJ QJ (λds h Q q=>by obtain⟨T,n,bb,p,e,hT,hp,q⟩:=q;subst e;rfl) _ (λcdv A outer s H E hr=>(jg (vQ (wO (wN (jy YE hr rfl We Wc ZY (jac (jv 1) (by exact(jac (jA zn rfl Z.len S5 (jac (jv 0) jc)) jc)))))) (jg XL) jH))) ?_;intro ds h Q q;obtain⟨T,n,bb,p,e,hT,hp,q⟩:=q;subst e;refine⟨_,rfl,_,rfl,.int (p:Int),_,rfl,rfl,_,rfl,?_⟩;have e0:zH (.int (p:Int)) 0 ((((T.map JQ).length:Nat):Int)-1)=true:=by
  rw [G2,hT.len];show (decide ((0:Int)<=(p:Int))&&decide ((p:Int)<=(n:Int)-1))=true;rw [P0 (by omega),P0 (by omega)];rfl
 rw [e0];exact wx ⟨h,Sub.refl h,q⟩
def Us:RDn:=λds h Q=> ∃ (T:List (List Int)) (S:List Nat) (n:Nat),ds= [jw T,jW S]/\T.length=n/\IsS n S/\n<=6/\Q .non h
theorem MT (Z:Zs mg)(F:Fun K "want_set" "want_set" Yw f fd)(SR:jp P w K mg base n "is_set" ["thing","size"] DB):FnOk P w K mg base CX0 (n+1) f fd ["table","thing"] (LSp K Us):=by
 obtain⟨kX,kH,ST,Ad,AC,AE⟩:=SR;refine F.okJ MO (λds h Q q=>by obtain⟨T,S,k,e,hT,hS,h6,q⟩:=q;subst e;rfl) _ (λcdv A outer s H E hr=>(jg (vQ (wO (wN (jy ST hr rfl AE AC Ad (jac (jv 1) (by exact(jac (jA zn rfl Z.len S5 (jac (jv 0) jc)) jc)))))) (jg XL) jH))) ?_;intro ds h Q q;obtain⟨T,S,k,e,hT,hS,h6,q⟩:=q;subst e;refine⟨_,rfl,_,rfl,_,k,by rw [G2,hT],h6,.inl ⟨S,rfl,hS,_,rfl,?_⟩⟩;exact wx ⟨h,Sub.refl h,q⟩
def wW:RDn:=λds h Q=> ∃k lo hi:Int,ds= [.int k,.int lo,.int hi]/\lo<=k/\k<=hi/\Q .non h
theorem UZ (Z:Zs mg)(F:Fun K "want_number" "want_number" vy f fd)(ZU:jp P w K mg base n "is_within" ["thing","least","most"] Jq):FnOk P w K mg base CX0 (n+1) f fd ["thing","least","most"] (LSp K wW):=by
 obtain⟨GN,Xq,ZW,Jx,JF,JH⟩:=ZU;refine F.okJ UW (λds h Q q=>by obtain⟨k,lo,hi,e,h1,h2,q⟩:=q;subst e;rfl) _ (λcdv A outer s H E hr=>(jg (vQ (wO (wN (jy ZW hr rfl JH JF Jx (jac (jv 0) (by exact(jac (jv 1) (by exact(jac (jv 2) jc)))))))) (jg XL) jH))) ?_;intro ds h Q q;obtain⟨k,lo,hi,e,h1,h2,q⟩:=q;subst e;refine⟨_,rfl,_,rfl,_,rfl,.int k,lo,hi,rfl,rfl,_,rfl,?_⟩;have e0:zH (.int k) lo hi=true:=by
  show (decide (lo<=k)&&decide (k<=hi))=true;rw [P0 h1,P0 h2];rfl
 rw [e0];exact wx ⟨h,Sub.refl h,q⟩
def yt:RDn:=λds h Q=> ∃T S,∃n e:Nat,ds= [jw T,jW S]/\Sq n e T/\IsS n S/\n<=6/\Q (jW (jI n T S)) h
theorem QU (Z:Zs mg)(F:Fun K "step_after" "step_after" Jg f fd):FnOk P w K mg base CX0 (n+1) f fd ["table","some"] (LSp K yt):=by
 refine F.okJ vH (λds h Q q=>by obtain⟨T,S,k,b,e,hT,hS,h6,q⟩:=q;subst e;rfl) _ (λcdv A outer s H E hr=>(jg (zC (zg zw rfl Z.tuple (by decide +kernel) (jac (jlc (i:=2) (js:= [2]) rfl (ji (by rfl)) (Zz rfl Z.range (jac (jA zn rfl Z.len S5 (jac (jv 0) jc)) jc)) (by decide) vH.nd rfl (by first|exact Or.inl rfl|exact Or.inr rfl) (λX' hX=>by obtain⟨C,s₀,H₀,ex,rfl⟩:=hX;exact Qs (wN (jA (xV rfl) rfl Z.any (by decide +kernel) (jac (jlc (i:=3) (js:= [3]) rfl (ji (by rfl)) (zS (jv 1)) (by decide) vH.nd rfl (by first|exact Or.inl rfl|exact Or.inr rfl) (λX' hX=>jD) (λX' hX=>by obtain⟨C,s₀,H₀,ex,rfl⟩:=hX;exact(Qr oq_ne (jix (jix (jv 0) (jv 3) (λ_ _=>rfl)) (jv 2) (λ_ _=>rfl)) jx (jz _)))) jc)))) (λX' hX=>by obtain⟨C,s₀,H₀,ex,rfl⟩:=hX;exact(jv 2))) jc))))) ?_;intro ds h Q q;obtain⟨T,S,k,b,e,hT,hS,h6,q⟩:=q;subst e;have hlen:=hS.len;refine qx (List.range k) (λj=> .int (j:Int)) (λj=> .int (j:Int)) (λj=>S.any λi=>decide (ent T i j≠0)) (by rw [P8];omega) rfl (λR r=>⟨_,rfl,(k:Int),by rw [G2,hT.len],by omega,by omega,r⟩) (λj hj Q' q'=> ?_) (λj hj hp Q' q'=>⟨_,rfl,q'⟩) ⟨h,Sub.refl h,q⟩;refine jdh S (λi=> .int (i:Int)) (λi=>decide (ent T i j≠0)) (by omega) rfl (λR r=>⟨_,rfl,r⟩) (λi hi Q'' q''=> ?_) ⟨_,rfl,q'⟩;have hi':=hS.lt hi;refine⟨_,rfl,_,rfl,_,ZC hT hi',_,rfl,_,ZD (hT.row _ (Sq.getRow hT hi')) (D1.mp hj),?_⟩;have e:(!decide (((T.getD i []).getD j 0)=0))=decide (ent T i j≠0):=by simp [ent]
 rw [<-e] at q'';exact q''
def YQ:RDn:=λds h Q=> ∃T S,∃n e k:Nat,ds= [jw T,jW S,.int (k:Int)]/\Sq n e T/\1<=n/\n<=6/\IsS n S/\k<=1000000000/\Q (jW (itF (jI n T) S k)) h
theorem DC (Z:Zs mg)(F:Fun K "set_after" "set_after" ZI f fd)(jX:jp P w K mg base n "want_table" ["thing"] zP)(CF:jp P w K mg base n "want_set" ["table","thing"] Us)(wD:jp P w K mg base n "want_number" ["thing","least","most"] wW)(DW:jp P w K mg base n "step_after" ["table","some"] yt)(wq: ∃tk,mg "MOST_STEPS_afters" =some (.int 1000000000 tk)):FnOk P w K mg base CX0 (n+1) f fd ["table","some","k"] (LSp K YQ):=by
 obtain⟨wX,wH,jY,jM,jN,jO⟩:=jX;obtain⟨Ha,Tj,CJ,Nz,NN,NR⟩:=CF;obtain⟨JB,vO,wF,zZ,wa,wb⟩:=wD;obtain⟨AU,Az,Rk,GH,Pf,Ps⟩:=DW;obtain⟨tk_MOST_STEPS_afters,m_MOST_STEPS_afters⟩:=wq;refine F.okJ yT (λds h Q q=>by obtain⟨T,S,n,bb,k,e,hT,h1,h6,hS,hk,q⟩:=q;subst e;rfl) _ (λcdv A outer s H E hr=>(jf (vo (jy jY hr rfl jO jN jM (jac (jv 0) jc))) (by exact(jf (vo (jy CJ hr rfl NR NN Nz (jac (jv 0) (by exact(jac (jv 1) jc))))) (by exact(jf (vo (jy wF hr rfl wb wa zZ (jac (jv 2) (by exact(jac jx (by exact(jac (EH rfl m_MOST_STEPS_afters) jc))))))) (by exact(jf (yg (i:=3) yT.nd rfl (Or.inl rfl) (Yc (jac (jv 1) jc))) (by exact(jf (LD T0 (zf PQ (jA zn rfl Z.len S5 (jac (jv 3) jc)) (jv 2) (jz _)) (jf (yg (i:=4) yT.nd rfl (Or.inl rfl) (jy Rk hr rfl Ps Pf GH (jac (jv 0) (by exact(jac (jix (jv 3) (Kk jx) (λ_ _=>rfl)) jc))))) (by exact(jf (vQ (zf (LK hr.units) (jv 4) (jv 3) (by with_unfolding_all rfl)) (jf (yg (i:=5) yT.nd rfl (Or.inl rfl) (jbM hr.units (jv 3) (jv 4))) (by exact(jg (zC (jix (jv 3) (jop wv (jv 5) (jop Wn (jop Wm (jv 2) (jv 5)) (jop Wm (jA zn rfl Z.len S5 (jac (jv 3) jc)) (jv 5)))) (λ_ _=>rfl)))))) jH) (by exact(jg (vo (Kj (jv 3) (jv 4))))))))) (by exact(jg (zC (jix (jv 3) (jv 2) (λ_ _=>rfl))))))))))))))) ?_;intro ds h Q q;obtain⟨T,S,n,bb,k,e,hT,h1,h6,hS,hk,q⟩:=q;subst e;refine jh (λσ' h'=>σ'= [some (jw T),some (jW S),some (.int (k:Int)),none,none,none]/\h=h') (λC hC=>⟨_,rfl,T,n,bb,rfl,hT,h1,h6,hC _ _ ⟨rfl,rfl⟩⟩) ?_;rintro _ _ ⟨rfl,rfl⟩;refine jh (λσ' h'=>σ'= [some (jw T),some (jW S),some (.int (k:Int)),none,none,none]/\h=h') (λC hC=>⟨_,rfl,_,rfl,T,S,n,rfl,hT.len,hS,h6,hC _ _ ⟨rfl,rfl⟩⟩) ?_;rintro _ _ ⟨rfl,rfl⟩;refine jh (λσ' h'=>σ'= [some (jw T),some (jW S),some (.int (k:Int)),none,none,none]/\h=h') (λC hC=>⟨_,rfl,(k:Int),0,1000000000,rfl,by omega,by omega,hC _ _ ⟨rfl,rfl⟩⟩) ?_;rintro _ _ ⟨rfl,rfl⟩;have itS: ∀j,IsS n (itF (jI n T) S j):=λj=>hS.it j
 refine jh (λσ' h'=> ∃A,σ'= [some (jw T),some (jW S),some (.int (k:Int)),some (.lst A),none,none]/\h A=none/\h' A=some ((List.range 1).map λj=>jW (itF (jI n T) S j))/\Sub h h') (λC hC=> ?_) ?_
 ·exact⟨_,rfl,(by show 1<=sizeLine;decide),λA eA=>hC _ _ ⟨A,rfl,eA,je,Sub.newAt (Sub.refl h) eA⟩⟩
 rintro _ h1' ⟨A,rfl,fA,kA,sbA⟩;refine jh (λσ' h'=> ∃a b,σ'= [some (jw T),some (jW S),some (.int (k:Int)),some (.lst A),a,b]/\h' A=some ((List.range (k+1)).map λj=>jW (itF (jI n T) S j))/\Sub h h') (λC hC=> ?_) ?_
 ·refine Qy (λm σ' h'=> ∃L a b,σ'= [some (jw T),some (jW S),some (.int (k:Int)),some (.lst A),a,b]/\h' A=some ((List.range L).map λj=>jW (itF (jI n T) S j))/\Sub h h'/\1<=L/\L<=k+1/\m=k+1-L/\((List.range L).map (itF (jI n T) S)).Nodup) k ⟨1,none,none,rfl,kA,sbA,by decide,by omega,by omega,by simp⟩ ?_;rintro m _ h2 ⟨L,a,b,rfl,kA2,sb2,hL1,hLk,hm,nd⟩;have hL64:L<=64:=by
   have:=EX h6 nd λX hX=>by obtain⟨j,_,rfl⟩:=R3.mp hX;exact itS j
   simpa using this
  refine⟨_,rfl,_,kA2,_,rfl,_,rfl,Mm (λc=> ?_) (λc=> ?_)⟩
  rotate_left
  ·have c': ¬ (((List.range L).map λj=>jW (itF (jI n T) S j)).length:Int)<=(k:Int):=λz=>c (P0 z)
   rw [G2,P8] at c';have eL:L=k+1:=by omega
   subst eL;exact hC _ _ ⟨a,b,rfl,kA2,sb2⟩
  have c':(((List.range L).map λj=>jW (itF (jI n T) S j)).length:Int)<=(k:Int):=T7 c;rw [G2,P8] at c';have hLk2:L<=k:=by omega
  have eqL:jI n T (itF (jI n T) S (L-1))=itF (jI n T) S L:=by
   obtain⟨L',rfl⟩: ∃L',L=L'+1:=⟨L-1,by omega⟩;rfl
  refine jh (λσ' h'=>σ'= [some (jw T),some (jW S),some (.int (k:Int)),some (.lst A),some (jW (itF (jI n T) S L)),b]/\h2=h') (λC2 hC2=> ?_) ?_
  ·refine⟨_,rfl,_,rfl,_,_,kA2,Wv hL1,T,_,n,bb,rfl,hT,itS _,h6,hC2 _ _ ⟨?_,rfl⟩⟩;rw [eqL];rfl
  rintro _ _ ⟨rfl,rfl⟩;have kA3:h2 A=some (((List.range L).map (itF (jI n T) S)).map jW):=by rw [kA2,S3];rfl
  refine jh (λσ' h'=>σ'= [some (jw T),some (jW S),some (.int (k:Int)),some (.lst A),some (jW (itF (jI n T) S L)),b]/\h2=h'/\itF (jI n T) S L ∉ (List.range L).map (itF (jI n T) S)) (λC2 hC2=> ?_) ?_
  ·refine⟨_,rfl,_,rfl,in_sets kA3 ⟨_,rfl,Mm (λc=> ?_) (λc=>hC2 _ _ ⟨rfl,rfl,λz=>c (by rw [P0 z];rfl)⟩)⟩⟩;have hin:itF (jI n T) S L∈(List.range L).map (itF (jI n T) S):=by
    cases z:decide (itF (jI n T) S L∈(List.range L).map (itF (jI n T) S)) with
    |true=>exact T7 z
    |false=>rw [z] at c;exact absurd c (by decide)
   have hjl:=O8.mpr hin;have hat:=K6 hjl;generalize hJ:((List.range L).map (itF (jI n T) S)).idxOf (itF (jI n T) S L)=J at hjl hat;have hJL:J<L:=by simpa using hjl
   have hJe:itF (jI n T) S L=itF (jI n T) S J:=by
    rw [<-hat];simp
   refine jh (λσ' h'=>σ'= [some (jw T),some (jW S),some (.int (k:Int)),some (.lst A),some (jW (itF (jI n T) S L)),some (.int (J:Int))]/\h2=h') (λC3 hC3=> ?_) ?_
   ·refine⟨_,rfl,A,rfl,_,rfl,?_⟩;obtain⟨pd,ps,jj,zz,t1,t2,c1,c2,c3,c4,c5,c6,c7,ej⟩:=Kw (Q:=λd _=>d= .int (J:Int)) kA3 hin (by simp;omega) (by rw [hJ]);have ejj:jj=J:=by injection ej with ej;omega
    subst ejj;exact⟨pd,ps,jj,zz,t1,t2,c1,c2,c3,c4,c5,c6,c7,hC3 _ _ ⟨rfl,rfl⟩⟩
   rintro _ _ ⟨rfl,rfl⟩;have hpos:(0:Int)<(((List.range L).map λj=>jW (itF (jI n T) S j)).length:Int)-(J:Int):=by
    rw [G2,P8];omega
   have hix:(J:Int)+((k:Int)-(J:Int))%((((List.range L).map λj=>jW (itF (jI n T) S j)).length:Int)-(J:Int))=((J+(k-J)%(L-J):Nat):Int):=by
    rw [G2,P8,G0Z,Int.natCast_emod,G0e (by omega),G0e (by omega)]
   have hlt:J+(k-J)%(L-J)<L:=by
    have:=Nat.mod_lt (k-J) (show 0<L-J by omega);omega
   refine⟨_,rfl,_,rfl,_,rfl,_,rfl,_,rfl,_,kA2,_,rfl,hpos,_,jW (itF (jI n T) S (J+(k-J)%(L-J))),kA2,?_,h,sb2,?_⟩
   ·rw [hix];exact QC hlt
   ·rw [LU hJe hJL (by omega)];exact q
  rintro _ _ ⟨rfl,rfl,hni⟩;refine⟨_,rfl,A,rfl,_,rfl,_,kA2,?_,k+1-(L+1),_,by omega,Sub.refl _,L+1,_,_,rfl,?_,?_,by omega,by omega,rfl,?_⟩
  ·rw [G2,P8];exact jL (by omega)
  ·rw [je,A4,B1];rfl
  ·intro x ds e;rw [zT (λw=>by subst w;rw [fA] at e;cases e)];exact sb2 x ds e
  ·rw [A4,B1,List.nodup_append];exact⟨nd,by simp,λx hx y hy=>by rw [G7.mp (show y∈ [itF (jI n T) S L] from hy)];intro e;exact hni (e ▸ hx)⟩
 rintro _ h3 ⟨a,b,rfl,kA3,sb3⟩;exact⟨_,rfl,_,rfl,_,_,kA3,QC (by omega),h,sb3,q⟩
def WF:RDn:=λds h Q=> ∃T U,∃n e f:Nat,ds= [jw T,jw U]/\Sq n e T/\Sq n f U/\e+f<=1000000/\n<=6/\Q (jw (ZA n T U)) h
theorem QV (Z:Zs mg)(F:Fun K "multiplied" "multiplied" Jh f fd):FnOk P w K mg base CX0 (n+1) f fd ["one","other"] (LSp K WF):=by
 refine F.okJ wJ (λds h Q q=>by obtain⟨T,U,k,b,f,e,hT,hU,hb,h6,q⟩:=q;subst e;rfl) _ (λcdv A outer s H E hr=>(jf (yg (i:=2) wJ.nd rfl (by first|exact Or.inr rfl|exact Or.inl rfl) (jA zn rfl Z.len S5 (jac (jv 0) jc))) (by exact(jg (zC (zg zw rfl Z.tuple (by decide +kernel) (jac (jlc (i:=3) (js:= [3]) rfl (ji (by rfl)) (zS (jv 0)) (by decide) wJ.nd rfl (by first|exact Or.inl rfl|exact Or.inr rfl) (λX' hX=>jD) (λX' hX=>by obtain⟨C,s₀,H₀,ex,rfl⟩:=hX;exact(zg zw rfl Z.tuple (by decide +kernel) (jac (jlc (i:=4) (js:= [4]) rfl (ji (by rfl)) (Zz rfl Z.range (jac (jv 2) jc)) (by decide) wJ.nd rfl (by first|exact Or.inl rfl|exact Or.inr rfl) (λX' hX=>jD) (λX' hX=>by obtain⟨C,s₀,H₀,ex,rfl⟩:=hX;exact(jA (Mt rfl) rfl Z.sum (by decide +kernel) (jac (jlc (i:=5) (js:= [5]) rfl (ji (by rfl)) (Zz rfl Z.range (jac (jv 2) jc)) (by decide) wJ.nd rfl (by first|exact Or.inl rfl|exact Or.inr rfl) (λX' hX=>jD) (λX' hX=>by obtain⟨C,s₀,H₀,ex,rfl⟩:=hX;exact(jop Lp (jix (jv 3) (jv 5) (λ_ _=>rfl)) (jix (jix (jv 1) (jv 5) (λ_ _=>rfl)) (jv 4) (λ_ _=>rfl))))) jc)))) jc)))) jc))))))) ?_;intro ds h Q q;obtain⟨T,U,k,b,f,e,hT,hU,hb,h6,q⟩:=q;subst e;refine jh (λσ' h'=>σ'= [some (jw T),some (jw U),some (.int (k:Int)),none,none,none]/\h=h') (λC hC=>⟨_,rfl,hC _ _ ⟨by rw [G2,hT.len];rfl,rfl⟩⟩) ?_;rintro _ _ ⟨rfl,rfl⟩;refine AH T JQ (λr=> .tup ((List.range k).map λj=> .int (jT k λm=>r.getD m 0*ent U m j))) (by rw [hT.len];omega) rfl (λR r=>⟨_,rfl,r⟩) (λr hr Q' q'=> ?_) ⟨h,Sub.refl h,?_⟩
 ·refine AH (List.range k) (λj=> .int (j:Int)) (λj=> .int (jT k λm=>r.getD m 0*ent U m j)) (by rw [P8];omega) rfl (λR rr=>⟨_,rfl,(k:Int),rfl,by omega,by omega,rr⟩) (λj hj Q'' q''=> ?_) q';refine jbI (List.range k) (λm=> .int (m:Int)) (λm=>r.getD m 0*ent U m j) (by rw [P8];omega) rfl (λR rr=>⟨_,rfl,(k:Int),rfl,by omega,by omega,rr⟩) (λm hm Q3 q3=> ?_) q'';have hm':=D1.mp hm;have hj':=D1.mp hj;refine⟨_,rfl,_,rfl,_,ZD (hT.row r hr) hm',_,rfl,_,rfl,_,ZC hU hm',_,rfl,_,ZD (hU.row _ (Sq.getRow hU hm')) hj',?_,q3⟩;refine Bf (e:=b) (f:=f) ?_ (hU.ent_nn hm' hj') (by omega);have hm2:m<r.length:=by rw [hT.row r hr];exact hm'
  have e1:r.getD m 0=r[m]:=by rw [D9,G0 hm2];rfl
  rw [e1];exact⟨hT.nn r hr _ (S9 hm2),hT.bit r hr _ (S9 hm2)⟩
 ·rw [Bg hT];exact q
def OV:RDn:=λds h Q=> ∃T,∃n e:Nat,ds= [jw T]/\Sq n e T/\1<=n/\n<=6/\Q (.bl (zh T)) h
theorem ki (Z:Zs mg)(F:Fun K "full" "full" OS f fd)(jX:jp P w K mg base n "want_table" ["thing"] zP):FnOk P w K mg base CX0 (n+1) f fd ["table"] (LSp K OV):=by
 obtain⟨wX,wH,jY,jM,jN,jO⟩:=jX;refine F.okJ AF (λds h Q q=>by obtain⟨T,k,b,e,hT,h1,h6,q⟩:=q;subst e;rfl) _ (λcdv A outer s H E hr=>(jf (vo (jy jY hr rfl jO jN jM (jac (jv 0) jc))) (by exact(jg (zC (jA (Wo rfl) rfl Z.all N4 (jac (jde (i:=1) (i':=2) (js:= [1,2]) rfl (ji (by rfl)) (zS (jv 0)) (by decide) (by decide) (by decide) AF.nd rfl rfl (by first|exact Or.inl rfl|exact Or.inr rfl) (by first|exact Or.inl rfl|exact Or.inr rfl) (λX' hX=>jD) (λX' hX=>by obtain⟨C,s₀,H₀,ex,rfl⟩:=hX;exact(zS (jv 1))) (λX' hX=>jD) (λX' hX=>by obtain⟨C,s₀,H₀,ex,rfl⟩:=hX;exact(Qr oq_ne (jv 2) jx (jz _)))) jc))))))) ?_;intro ds h Q q;obtain⟨T,k,b,e,hT,h1,h6,q⟩:=q;subst e;refine jh (λσ' h'=>σ'= [some (jw T),none,none]/\h=h') (λC hC=>⟨_,rfl,T,k,b,rfl,hT,h1,h6,hC _ _ ⟨rfl,rfl⟩⟩) ?_;rintro _ _ ⟨rfl,rfl⟩;refine jdi T JQ (λr=>r) D.int (λ_ x=>decide (x≠0)) (EJ hT h6) rfl (λR r=>⟨_,rfl,r⟩) (λr hr R rr=>⟨_,rfl,rr⟩) (λr hr x hx Q' q'=>⟨_,rfl,?_⟩) ⟨h,Sub.refl h,q⟩;show Q' (.bl (!decide (x=0))) h;have e:(!decide (x=0))=decide (x≠0):=by simp
 rw [e];exact q'
def QX:RDn:=λds h Q=> ∃T,∃n e:Nat,ds= [jw T]/\Sq n e T/\1<=n/\n<=6/\Q (jw (jK n T)) h
theorem SL (Z:Zs mg)(F:Fun K "marks" "marks" QK f fd)(jX:jp P w K mg base n "want_table" ["thing"] zP):FnOk P w K mg base CX0 (n+1) f fd ["table"] (LSp K QX):=by
 obtain⟨wX,wH,jY,jM,jN,jO⟩:=jX;refine F.okJ VA (λds h Q q=>by obtain⟨T,k,b,e,hT,h1,h6,q⟩:=q;subst e;rfl) _ (λcdv A outer s H E hr=>(jf (vo (jy jY hr rfl jO jN jM (jac (jv 0) jc))) (by exact(jg (zC (zg zw rfl Z.tuple (by decide +kernel) (jac (jlc (i:=1) (js:= [1]) rfl (ji (by rfl)) (zS (jv 0)) (by decide) VA.nd rfl (by first|exact Or.inl rfl|exact Or.inr rfl) (λX' hX=>jD) (λX' hX=>by obtain⟨C,s₀,H₀,ex,rfl⟩:=hX;exact(zg zw rfl Z.tuple (by decide +kernel) (jac (jlc (i:=2) (js:= [2]) rfl (ji (by rfl)) (zS (jv 1)) (by decide) VA.nd rfl (by first|exact Or.inl rfl|exact Or.inr rfl) (λX' hX=>jD) (λX' hX=>by obtain⟨C,s₀,H₀,ex,rfl⟩:=hX;exact(jif (zf oq_ne (jv 2) jx (jz _)) jx jx))) jc)))) jc))))))) ?_;intro ds h Q q;obtain⟨T,k,b,e,hT,h1,h6,q⟩:=q;subst e;refine jh (λσ' h'=>σ'= [some (jw T),none,none]/\h=h') (λC hC=>⟨_,rfl,T,k,b,rfl,hT,h1,h6,hC _ _ ⟨rfl,rfl⟩⟩) ?_;rintro _ _ ⟨rfl,rfl⟩;refine AH T JQ (λr=> .tup (r.map λx=> .int (if x≠0 then 1 else 0))) (by rw [hT.len];omega) rfl (λR r=>⟨_,rfl,r⟩) (λr hr Q' q'=> ?_) ⟨h,Sub.refl h,?_⟩
 ·refine AH r D.int (λx=> .int (if x≠0 then 1 else 0)) (by rw [hT.row r hr];omega) rfl (λR r=>⟨_,rfl,r⟩) (λx hx Q'' q''=>⟨_,rfl,_,rfl,?_⟩) q'
  by_cases z:x=0
  ·subst z;exact wx q''
  ·have e:(!decide (x=0))=true:=by simp [z]
   rw [e];rw [if_pos z] at q'';exact Vd q''
 ·rw [Lq,<-Lr hT];exact q
def DD:RDx:=λds h R=> ∃d,ds= [d]/\okD d=true/\BF d=false/\R "NoTable" h
theorem OW (Z:Zs mg)(Ex:Exc K mg)(F:Fun K "marks" "marks" QK f fd)(CR_want_table:ZG P w K mg base n "want_table" ["thing"] Zf):FnOk P w K mg base (CXR P w) (n+1) f fd ["table"] (Oi mg K DD):=by
 obtain⟨Ag,Fi,Gr,Xk,Xr,Xv⟩:=CR_want_table;refine F.okX VA (λds h R q=>by obtain⟨d,e,ok,bad,q⟩:=q;subst e;rfl) _ (λcdv A outer s H E hr=>(KG (Yr Gr hr rfl Xv Xr Xk (jac (jv 0) jc)))) ?_;intro ds h R q;obtain⟨d,e,ok,bad,q⟩:=q;subst e;exact⟨_,rfl,d,rfl,ok,bad,q⟩
def Zg:RDn:=λds h Q=> ∃M T,∃n e:Nat,ds= [jw M,jw T]/\Sq n 1 M/\Sq n e T/\1<=n/\n<=6/\e<=1000/\Q (jw (mk1 n T M)) h
theorem Xa (Z:Zs mg)(F:Fun K "marks_after" "marks_after" vz f fd)(Ng:jp P w K mg base n "marks" ["table"] QX)(DU:jp P w K mg base n "multiplied" ["one","other"] WF):FnOk P w K mg base CX0 (n+1) f fd ["ahead","table"] (LSp K Zg):=by
 obtain⟨Am,Fa,Nr,GE,Pc,Pp⟩:=Ng;obtain⟨AS,Ax,Ri,GF,Pd,Pq⟩:=DU;refine F.okJ UX (λds h Q q=>by obtain⟨M,T,n,b,e,hM,hT,h1,h6,hb,q⟩:=q;subst e;rfl) _ (λcdv A outer s H E hr=>(jg (zC (jy Nr hr rfl Pp Pc GE (jac (jy Ri hr rfl Pq Pd GF (jac (jv 0) (by exact(jac (jv 1) jc)))) jc))))) ?_;intro ds h Q q;obtain⟨M,T,n,b,e,hM,hT,h1,h6,hb,q⟩:=q;subst e;exact⟨_,rfl,_,rfl,M,T,n,1,b,rfl,hM,hT,by omega,h6,ZA n M T,n,_,rfl,hM.mul hT (by omega),h1,h6,h,Sub.refl h,q⟩
def wo:RDn:=λds h Q=> ∃T,∃n e:Nat,ds= [jw T]/\Sq n e T/\1<=n/\n<=6/\e<=1000/\ ∀A L J h',h A=none->h' A=some ((List.range L).map λi=>jw (wy n T i))->Sub h h'->Course n T L J->L<=2225->Q (.tup [.lst A,.int ((J:Nat):Int)]) h'
theorem ZT (Z:Zs mg)(F:Fun K "marks_and_return" "marks_and_return" zF f fd)(Ng:jp P w K mg base n "marks" ["table"] QX)(Gq:jp P w K mg base n "marks_after" ["ahead","table"] Zg):FnOk P w K mg base CX0 (n+1) f fd ["table"] (LSp K wo):=by
 obtain⟨Am,Fa,Nr,GE,Pc,Pp⟩:=Ng;obtain⟨An,Fn,WP,Zm,Zq,Zt⟩:=Gq;refine F.okJ jU (λds h Q q=>by obtain⟨T,n,bb,e,hT,h1,h6,hb,q⟩:=q;subst e;rfl) _ (λcdv A outer s H E hr=>(jf (yg (i:=1) jU.nd rfl (Or.inl rfl) (Yc (jac (jy Nr hr rfl Pp Pc GE (jac (jv 0) jc)) jc))) (by exact(jf (yg (i:=2) jU.nd rfl (Or.inl rfl) (jy WP hr rfl Zt Zq Zm (jac (jix (jv 1) (Kk jx) (λ_ _=>rfl)) (by exact(jac (jv 0) jc))))) (by exact(jf (LD T0 (zf (Qz hr.units) (jv 2) (jv 1) (by with_unfolding_all rfl)) (jf (vo (Kj (jv 1) (jv 2))) (by exact(jg (yg (i:=2) jU.nd rfl (Or.inl rfl) (jy WP hr rfl Zt Zq Zm (jac (jv 2) (by exact(jac (jv 0) jc))))))))) (by exact(jg (zC (wP (jac (jv 1) (by exact(jac (jbM hr.units (jv 1) (jv 2)) jc))))))))))))) ?_;intro ds h Q q;obtain⟨T,n,bb,e,hT,h1,h6,hb,q⟩:=q;subst e;refine jh (λσ' h'=> ∃A,σ'= [some (jw T),some (.lst A),none]/\h A=none/\h' A=some ((List.range 1).map λi=>jw (wy n T i))/\Sub h h') (λC hC=>⟨_,rfl,T,n,bb,rfl,hT,h1,h6,(by show 1<=sizeLine;decide),λA eA=>hC _ _ ⟨A,rfl,eA,je,Sub.newAt (Sub.refl h) eA⟩⟩) ?_;rintro _ h1' ⟨A,rfl,fA,kA,sbA⟩;refine jh (λσ' h'=>σ'= [some (jw T),some (.lst A),some (jw (wy n T 1))]/\h1'=h') (λC hC=>⟨_,rfl,_,_,kA,Wv (by decide),_,rfl,wy n T 0,T,n,bb,rfl,vq n T 0,hT,h1,h6,hb,hC _ _ ⟨rfl,rfl⟩⟩) ?_;rintro _ _ ⟨rfl,rfl⟩;refine jh (λσ' h'=> ∃L,σ'= [some (jw T),some (.lst A),some (jw (wy n T L))]/\h' A=some ((List.range L).map λi=>jw (wy n T i))/\Sub h h'/\L<=2225/\((List.range L).map (wy n T)).Nodup/\wy n T L∈(List.range L).map (wy n T)) (λC hC=> ?_) ?_
 ·refine Qy (λm σ' h'=> ∃L,σ'= [some (jw T),some (.lst A),some (jw (wy n T L))]/\h' A=some ((List.range L).map λi=>jw (wy n T i))/\Sub h h'/\m=2226-L/\((List.range L).map (wy n T)).Nodup) _ ⟨_,rfl,kA,sbA,rfl,by simp⟩ ?_;rintro m _ h2 ⟨L,rfl,kA2,sb2,hm,nd⟩;have hL:=Oa hT h1 h6 nd;have kA3:h2 A=some (((List.range L).map (wy n T)).map jw):=by rw [kA2,S3];rfl
  refine⟨_,rfl,_,rfl,TF jcy kA3 λbo hbo=>⟨_,rfl,Mm (λc=> ?_) (λc=> ?_)⟩⟩
  rotate_left
  ·refine hC _ _ ⟨L,rfl,kA2,sb2,hL,nd,hbo.mp ?_⟩;cases bo with
   |true=>rfl
   |false=>exact absurd rfl c
  have hni:wy n T L ∉ (List.range L).map (wy n T):=λz=>by rw [hbo.mpr z] at c;exact absurd c (by decide)
  refine jh (λσ' h'=>σ'= [some (jw T),some (.lst A),some (jw (wy n T L))]/\h' A=some ((List.range (L+1)).map λi=>jw (wy n T i))/\Sub h h') (λC2 hC2=> ?_) ?_
  ·refine⟨_,rfl,A,rfl,_,rfl,_,kA2,?_,hC2 _ _ ⟨rfl,?_,?_⟩⟩
   ·rw [G2,P8];exact C9 hL (by decide)
   ·rw [je,A4,B1];rfl
   ·intro x ds e;rw [zT (λw=>by subst w;rw [fA] at e;cases e)];exact sb2 x ds e
  rintro _ h3 ⟨rfl,kA4,sb4⟩;refine⟨_,rfl,_,rfl,wy n T L,T,n,bb,rfl,vq n T L,hT,h1,h6,hb,2226-(L+1),_,by omega,Sub.refl _,L+1,rfl,kA4,sb4,rfl,?_⟩;rw [A4,B1,List.nodup_append];exact⟨nd,by simp,λx hx y hy=>by rw [G7.mp (show y∈ [wy n T L] from hy)];intro e;exact hni (e ▸ hx)⟩
 rintro _ h3 ⟨L,rfl,kA3,sb3,hL,nd,hin⟩;have kA4:h3 A=some (((List.range L).map (wy n T)).map jw):=by rw [kA3,S3];rfl
 obtain⟨J,pd,ps,zz,hat,t1,t2,c1,c2,c3,c4,c5,c6,c7⟩:=qC jcy kA4 hin (by simp;omega);have hJL:J<L:=by have:=(G3.mp hat).1;simpa using this
 have hJe:wy n T L=wy n T J:=by
  rw [P1,M6 hJL] at hat;injection hat with hat
  exact hat.symm
 exact⟨_,rfl,_,rfl,A,rfl,_,rfl,pd,ps,J,zz,t1,t2,c1,c2,c3,c4,c5,c6,c7,(by show 2<=sizeLine;decide),h3,Sub.refl _,q A L J h3 fA kA3 sb3 ⟨nd,hJL,hJe⟩ hL⟩
def yn:RDx:=λds h R=> ∃d,ds= [d]/\okD d=true/\BF d=false/\R "NoTable" h
theorem JY (Z:Zs mg)(Ex:Exc K mg)(F:Fun K "marks_and_return" "marks_and_return" zF f fd)(CR_marks:ZG P w K mg base n "marks" ["table"] DD):FnOk P w K mg base (CXR P w) (n+1) f fd ["table"] (Oi mg K yn):=by
 obtain⟨kU,kG,SS,Ac,AB,AD⟩:=CR_marks;refine F.okX jU (λds h R q=>by obtain⟨d,e,ok,bad,q⟩:=q;subst e;rfl) _ (λcdv A outer s H E hr=>(TL (KR (Yr SS hr rfl AD AB Ac (jac (jv 0) jc))))) ?_;intro ds h R q;obtain⟨d,e,ok,bad,q⟩:=q;subst e;exact⟨_,rfl,d,rfl,ok,bad,q⟩
def Ut:RDn:=λds h Q=> ∃T,∃n L J k:Nat,∃A,ds= [.lst A,.int (J:Int),.int (k:Int)]/\h A=some ((List.range L).map λi=>jw (wy n T i))/\Course n T L J/\1<=k/\Q (jw (wy n T (k-1))) h
theorem MU (Z:Zs mg)(F:Fun K "marks_at" "marks_at" Yx f fd):FnOk P w K mg base CX0 (n+1) f fd ["told","back","k"] (LSp K Ut):=by
 refine F.okJ UP (λds h Q q=>by obtain⟨T,n,L,J,k,A,e,kA,c,hk,q⟩:=q;subst e;rfl) _ (λcdv A outer s H E hr=>(jf (yg (i:=3) UP.nd rfl (Or.inl rfl) (jop Wm (jv 2) jx)) (by exact(jf (vQ (zf PP (jv 3) (jA zn rfl Z.len S5 (jac (jv 0) jc)) (jz _)) (jg (zC (jix (jv 0) (jv 3) (λ_ _=>rfl)))) jH) (by exact(jg (zC (jix (jv 0) (jop wv (jv 1) (jop Wn (jop Wm (jv 3) (jv 1)) (jop Wm (jA zn rfl Z.len S5 (jac (jv 0) jc)) (jv 1)))) (λ_ _=>rfl))))))))) ?_;intro ds h Q q;obtain⟨T,n,L,J,k,A,e,kA,c,hk,q⟩:=q;subst e;have hJ:=c.lt;have hl:((((List.range L).map λi=>jw (wy n T i)).length:Nat):Int)=(L:Int):=by rw [G2,P8]
 have ek:(k:Int)-1=((k-1:Nat):Int):=by omega
 refine jh (λσ' h'=>σ'= [some (.lst A),some (.int (J:Int)),some (.int (k:Int)),some (.int ((k-1:Nat):Int))]/\h=h') (λC hC=>⟨_,rfl,hC _ _ ⟨by rw [<-ek];rfl,rfl⟩⟩) ?_;rintro _ _ ⟨rfl,rfl⟩;refine jh (λσ' h'=>σ'= [some (.lst A),some (.int (J:Int)),some (.int (k:Int)),some (.int ((k-1:Nat):Int))]/\h=h'/\L<=k-1) (λC hC=>⟨_,rfl,_,rfl,_,kA,_,rfl,Mm (λz=> ?_) (λz=>hC _ _ ⟨rfl,rfl,?_⟩)⟩) ?_
 ·have z':((k-1:Nat):Int)<((((List.range L).map λi=>jw (wy n T i)).length:Nat):Int):=T7 z;rw [hl] at z';exact⟨_,rfl,_,rfl,_,_,kA,QC (by omega),h,Sub.refl h,q⟩
 ·have z': ¬ ((k-1:Nat):Int)<((((List.range L).map λi=>jw (wy n T i)).length:Nat):Int):=λw=>z (P0 w)
  rw [hl] at z';omega
 rintro _ _ ⟨rfl,rfl,hLk⟩;have hpos:(0:Int)<((((List.range L).map λi=>jw (wy n T i)).length:Nat):Int)-(J:Int):=by rw [hl];omega
 have hix:(J:Int)+(((k-1:Nat):Int)-(J:Int))%(((((List.range L).map λi=>jw (wy n T i)).length:Nat):Int)-(J:Int))=((J+(k-1-J)%(L-J):Nat):Int):=by
  rw [hl,G0Z,Int.natCast_emod,G0e (by omega:J<=k-1),G0e (by omega:J<=L)]
 have hlt:J+(k-1-J)%(L-J)<L:=by
  have:=Nat.mod_lt (k-1-J) (show 0<L-J by omega);omega
 refine⟨_,rfl,_,rfl,_,rfl,_,rfl,_,rfl,_,kA,_,rfl,hpos,_,jw (wy n T (J+(k-1-J)%(L-J))),kA,?_,h,Sub.refl h,?_⟩
 ·rw [hix];exact QC hlt
 ·rw [TJ c (by omega)];exact q
def YR:RDn:=λds h Q=> ∃T,∃n e:Nat,ds= [jw T]/\Sq n e T/\1<=n/\n<=6/\e<=1000/\ ∀A L J h',h A=none->h' A=some ((List.range L).map λi=>jw (wy n T i))->Sub h h'->Course n T L J->L<=2225->Q (.lst A) h'
theorem DE (Z:Zs mg)(F:Fun K "all_marks" "all_marks" vA f fd)(wC:jp P w K mg base n "marks_and_return" ["table"] wo):FnOk P w K mg base CX0 (n+1) f fd ["table"] (LSp K YR):=by
 obtain⟨Za,JD,wE,wr,wt,wu⟩:=wC;refine F.okJ YO (λds h Q q=>by obtain⟨T,n,bb,e,hT,h1,h6,hb,q⟩:=q;subst e;rfl) _ (λcdv A outer s H E hr=>(jg (zC (jix (jy wE hr rfl wu wt wr (jac (jv 0) jc)) jx (λ_ _=>rfl))))) ?_;intro ds h Q q;obtain⟨T,n,bb,e,hT,h1,h6,hb,q⟩:=q;subst e;exact⟨_,rfl,T,n,bb,rfl,hT,h1,h6,hb,λA L J h' fA kA sb c hL=>⟨_,rfl,h',Sub.refl _,q A L J h' fA kA sb c hL⟩⟩
def WG:RDx:=λds h R=> ∃d,ds= [d]/\okD d=true/\BF d=false/\R "NoTable" h
theorem QY (Z:Zs mg)(Ex:Exc K mg)(F:Fun K "all_marks" "all_marks" vA f fd)(CR_marks_and_return:ZG P w K mg base n "marks_and_return" ["table"] yn):FnOk P w K mg base (CXR P w) (n+1) f fd ["table"] (Oi mg K WG):=by
 obtain⟨RG,Pv,ZV,JZ,Zb,Zc⟩:=CR_marks_and_return;refine F.okX YO (λds h R q=>by obtain⟨d,e,ok,bad,q⟩:=q;subst e;rfl) _ (λcdv A outer s H E hr=>(qJ (qU (Yr ZV hr rfl Zc Zb JZ (jac (jv 0) jc))))) ?_;intro ds h R q;obtain⟨d,e,ok,bad,q⟩:=q;subst e;exact⟨_,rfl,d,rfl,ok,bad,q⟩
def Uu:RDn:=λds h Q=> ∃T,∃n e k:Nat,ds= [jw T,.int (k:Int)]/\Sq n e T/\1<=n/\n<=6/\e<=1000/\1<=k/\k<=1000000000000000000000000000000/\Q (jw (wy n T (k-1))) h
theorem MV (Z:Zs mg)(F:Fun K "marks_of" "marks_of" Yy f fd)(jX:jp P w K mg base n "want_table" ["thing"] zP)(wD:jp P w K mg base n "want_number" ["thing","least","most"] wW)(wC:jp P w K mg base n "marks_and_return" ["table"] wo)(CB:jp P w K mg base n "marks_at" ["told","back","k"] Ut)(Jw: ∃tk,mg "MOST_POWER" =some (.int 1000000000000000000000000000000 tk)):FnOk P w K mg base CX0 (n+1) f fd ["table","k"] (LSp K Uu):=by
 obtain⟨wX,wH,jY,jM,jN,jO⟩:=jX;obtain⟨JB,vO,wF,zZ,wa,wb⟩:=wD;obtain⟨Za,JD,wE,wr,wt,wu⟩:=wC;obtain⟨TY,Tg,CH,Nx,NL,NP⟩:=CB;obtain⟨tk_MOST_POWER,m_MOST_POWER⟩:=Jw;refine F.okJ UQ (λds h Q q=>by obtain⟨T,n,bb,k,e,hT,h1,h6,hb,hk,hk2,q⟩:=q;subst e;rfl) _ (λcdv A outer s H E hr=>(jf (vo (jy jY hr rfl jO jN jM (jac (jv 0) jc))) (by exact(jf (vo (jy wF hr rfl wb wa zZ (jac (jv 1) (by exact(jac jx (by exact(jac (EH rfl m_MOST_POWER) jc))))))) (by exact(jf (Ki (jy wE hr rfl wu wt wr (jac (jv 0) jc)) (YL (i:=2) (j:=3) rfl UQ.nd rfl rfl (Or.inl rfl) (Or.inl rfl))) (by exact(jg (zC (jy CH hr rfl NP NL Nx (jac (jv 2) (by exact(jac (jv 3) (by exact(jac (jv 1) jc))))))))))))))) ?_;intro ds h Q q;obtain⟨T,n,bb,k,e,hT,h1,h6,hb,hk,hk2,q⟩:=q;subst e;refine jh (λσ' h'=>σ'= [some (jw T),some (.int (k:Int)),none,none]/\h=h') (λC hC=>⟨_,rfl,T,n,bb,rfl,hT,h1,h6,hC _ _ ⟨rfl,rfl⟩⟩) ?_;rintro _ _ ⟨rfl,rfl⟩;refine jh (λσ' h'=>σ'= [some (jw T),some (.int (k:Int)),none,none]/\h=h') (λC hC=>⟨_,rfl,(k:Int),1,1000000000000000000000000000000,rfl,by omega,by omega,hC _ _ ⟨rfl,rfl⟩⟩) ?_;rintro _ _ ⟨rfl,rfl⟩;refine jh (λσ' h'=> ∃A L J,σ'= [some (jw T),some (.int (k:Int)),some (.lst A),some (.int ((J:Nat):Int))]/\h' A=some ((List.range L).map λi=>jw (wy n T i))/\Sub h h'/\Course n T L J) (λC hC=>⟨_,rfl,T,n,bb,rfl,hT,h1,h6,hb,λA L J h' fA kA sb c hL=>⟨_,_,rfl,hC _ _ ⟨A,L,J,rfl,kA,sb,c⟩⟩⟩) ?_;rintro _ h2 ⟨A,L,J,rfl,kA,sb,c⟩;exact⟨_,rfl,_,rfl,_,rfl,T,n,L,J,k,A,rfl,kA,c,hk,h,sb,q⟩
theorem kj {r:List Int}(h:r.length=n):Vv (r.map D.int)=(List.range n).map λ(j:Nat)=>D.tup [.int (j:Int),.int (r.getD j 0)]:=by
 apply U2;intro i
 by_cases hi:i<n
 ·have hi':i<(Vv (r.map D.int)).length:=by rw [wQ,G2,h];exact hi
  obtain⟨x,hx,ed⟩:=Vw (G0 hi');rw [G0 hi',ed];rw [P1,M6 hi];rw [P1,G0 (by omega)] at hx;injection hx with hx
  rw [<-hx];show some (D.tup [D.int (i:Int),D.int r[i]])=some (D.tup [D.int (i:Int),D.int (r.getD i 0)]);rw [D9,G0 (show i<r.length by omega)];rfl
 ·rw [B7 (by rw [wQ,G2];omega),B7 (by simp;omega)]
def QZ:RDn:=λds h Q=> ∃T,∃n e p:Nat,ds= [jw T,.int (p:Int)]/\Sq n e T/\n<=6/\p<n/\ ∀F,h F=none->Q (.lst F) (yL h F ((vb T n p).map λ(k:Nat)=>D.int (k:Int)))
theorem SM (Z:Zs mg)(F:Fun K "heads" "heads" MP f fd):FnOk P w K mg base CX0 (n+1) f fd ["table","place"] (LSp K QZ):=by
 refine F.okJ BM (λds h Q q=>by obtain⟨T,n,bb,p,e,hT,n6,hp,q⟩:=q;subst e;rfl) _ (λcdv A outer s H E hr=>(jg (zC (jaB (i:=2) (j:=3) (js:= [2,3]) rfl (ji (by rfl)) (Qx rfl Z.enumerate (jac (jix (jv 0) (jv 1) (λ_ _=>rfl)) jc)) (by decide) (by decide) (by decide) BM.nd rfl rfl (by first|exact Or.inl rfl|exact Or.inr rfl) (by first|exact Or.inl rfl|exact Or.inr rfl) (λX' hX=>by obtain⟨C,s₀,H₀,ex,rfl⟩:=hX;exact Qs (zf oq_ne (jv 3) jx (jz _))) (λX' hX=>by obtain⟨C,s₀,H₀,ex,rfl⟩:=hX;exact(jv 2)))))) ?_;intro ds h Q q;obtain⟨T,n,bb,p,e,hT,n6,hp,q⟩:=q;subst e;refine jcA (j:=λ_=>some (Vv ((T.getD p []).map D.int))) (List.range n) (λj=> .int (j:Int)) (λj=> .int ((T.getD p []).getD j 0)) (λj=> .int (j:Int)) (λj=>decide (ent T p j>0)) (by rw [P8];omega) (congrArg some (kj (hT.row _ (Sq.getRow hT hp)))) (λR r=>⟨_,rfl,_,rfl,_,ZC hT hp,_,rfl,r⟩) (λx hx Q' q'=>⟨_,rfl,_,rfl,?_⟩) (λx hx _ Q' q'=>⟨_,rfl,q'⟩) (λF eF=>⟨_,Sub.refl _,q F eF⟩);have hnn:=(hT.ent_nn hp (D1.mp hx)).1;have e4:(!decide (((T.getD p []).getD x 0)=0))=decide (ent T p x>0):=by
  show (!decide (ent T p x=0))=_
  by_cases z:ent T p x=0
  ·rw [z];rfl
  ·rw [R4 z,P0 (by omega)];rfl
 rw [<-e4] at q';exact q'
def wM:RDn:=λds h Q=> ∃T,∃n e one o k:Nat,ds= [jw T,.int (one:Int),.int (o:Int),.int (k:Int)]/\Sq n e T/\1<=n/\n<=6/\one<n/\o<n/\k<=40/\Q .non h
theorem vS (Z:Zs mg)(F:Fun K "want_ends_and_steps" "want_ends_and_steps" zJ f fd)(jX:jp P w K mg base n "want_table" ["thing"] zP)(DY:jp P w K mg base n "want_place" ["table","thing"] WE)(wD:jp P w K mg base n "want_number" ["thing","least","most"] wW)(wG: ∃tk,mg "MOST_STEPS_walks" =some (.int 40 tk)):FnOk P w K mg base CX0 (n+1) f fd ["table","one","other","k"] (LSp K wM):=by
 obtain⟨wX,wH,jY,jM,jN,jO⟩:=jX;obtain⟨AV,AA,Va,WR,WV,WY⟩:=DY;obtain⟨JB,vO,wF,zZ,wa,wb⟩:=wD;obtain⟨tk_MOST_STEPS_walks,m_MOST_STEPS_walks⟩:=wG;refine F.okJ vR (λds h Q q=>by obtain⟨T,n,bb,one,o,k,e,hT,n1,n6,h1,ho,hk,q⟩:=q;subst e;rfl) _ (λcdv A outer s H E hr=>(jf (vo (jy jY hr rfl jO jN jM (jac (jv 0) jc))) (by exact(jf (vo (jy Va hr rfl WY WV WR (jac (jv 0) (by exact(jac (jv 1) jc))))) (by exact(jf (vo (jy Va hr rfl WY WV WR (jac (jv 0) (by exact(jac (jv 2) jc))))) (by exact(jg (vo (jy wF hr rfl wb wa zZ (jac (jv 3) (by exact(jac jx (by exact(jac (EH rfl m_MOST_STEPS_walks) jc))))))))))))))) ?_;intro ds h Q q;obtain⟨T,n,bb,one,o,k,e,hT,n1,n6,h1,ho,hk,q⟩:=q;subst e;refine jh (λσ' h'=>σ'= [some (jw T),some (.int (one:Int)),some (.int (o:Int)),some (.int (k:Int))]/\h=h') (λC hC=>⟨_,rfl,T,n,bb,rfl,hT,n1,n6,hC _ _ ⟨rfl,rfl⟩⟩) ?_;rintro _ _ ⟨rfl,rfl⟩;refine jh (λσ' h'=>σ'= [some (jw T),some (.int (one:Int)),some (.int (o:Int)),some (.int (k:Int))]/\h=h') (λC hC=>⟨_,rfl,_,rfl,T,n,bb,one,rfl,hT,h1,hC _ _ ⟨rfl,rfl⟩⟩) ?_;rintro _ _ ⟨rfl,rfl⟩;refine jh (λσ' h'=>σ'= [some (jw T),some (.int (one:Int)),some (.int (o:Int)),some (.int (k:Int))]/\h=h') (λC hC=>⟨_,rfl,_,rfl,T,n,bb,o,rfl,hT,ho,hC _ _ ⟨rfl,rfl⟩⟩) ?_;rintro _ _ ⟨rfl,rfl⟩;exact⟨_,rfl,(k:Int),0,40,rfl,by omega,by omega,h,Sub.refl h,q⟩
def YS:RDn:=λds h Q=> ∃T,∃n e o k:Nat,ds= [jw T,.int (o:Int),.int (k:Int)]/\Sq n e T/\1<=n/\n<=6/\o<n/\k<=40/\ ∀A h',Sub h h'->Cnts h' A T n o k->Q (.lst A) h'
theorem DF (Z:Zs mg)(F:Fun K "counts_to" "counts_to" ZJ f fd)(Nf:jp P w K mg base n "heads" ["table","place"] QZ):FnOk P w K mg base CX0 (n+1) f fd ["table","other","k"] (LSp K YS):=by
 obtain⟨Al,CY,Nq,GD,Pb,Po⟩:=Nf;refine F.okJ zL (λds h Q q=>by obtain⟨T,n,bb,o,k,e,hT,n1,n6,ho,hk,q⟩:=q;subst e;rfl) _ (λcdv A outer s H E hr=>(jf (yg (i:=3) zL.nd rfl (Or.inl rfl) (jA zn rfl Z.len S5 (jac (jv 0) jc))) (by exact(jf (yg (i:=4) zL.nd rfl (by first|exact Or.inr rfl|exact Or.inl rfl) (Yc (jac (jlc (i:=6) (js:= [6]) rfl (ji (by rfl)) (Zz rfl Z.range (jac (jv 3) jc)) (by decide) zL.nd rfl (by first|exact Or.inl rfl|exact Or.inr rfl) (λX' hX=>jD) (λX' hX=>by obtain⟨C,s₀,H₀,ex,rfl⟩:=hX;exact(jif (zf (Ba hr.units) (jv 6) (jv 1) (jz _)) jx jx))) jc))) (by exact(jf (Mf T0 rfl (Zz rfl Z.range (jac (jv 2) jc)) (yh (i:=5) zL.nd rfl (by first|exact Or.inr rfl|exact Or.inl rfl)) (jg (vo (Kj (jv 4) (jlc (i:=6) (js:= [6]) rfl (ji (by rfl)) (Zz rfl Z.range (jac (jv 3) jc)) (by decide) zL.nd rfl (by first|exact Or.inl rfl|exact Or.inr rfl) (λX' hX=>jD) (λX' hX=>by obtain⟨C,s₀,H₀,ex,rfl⟩:=hX;exact(jA (Mt rfl) rfl Z.sum (by decide +kernel) (jac (jlc (i:=7) (js:= [7]) rfl (ji (by rfl)) (zS (jy Nq hr rfl Po Pb GD (jac (jv 0) (by exact(jac (jv 6) jc))))) (by decide) zL.nd rfl (by first|exact Or.inl rfl|exact Or.inr rfl) (λX' hX=>jD) (λX' hX=>by obtain⟨C,s₀,H₀,ex,rfl⟩:=hX;exact(jix (jix (jv 4) (jv 5) (λ_ _=>rfl)) (jv 7) (λ_ _=>rfl)))) jc)))))))) (by exact(jg (zC (jv 4)))))))))) ?_;intro ds h Q q;obtain⟨T,n,bb,o,k,e,hT,n1,n6,ho,hk,q⟩:=q;subst e;refine jh (λσ' h'=>σ'= [some (jw T),some (.int (o:Int)),some (.int (k:Int)),some (.int (n:Int)),none,none,none,none]/\h=h') (λC hC=>⟨_,rfl,hC _ _ ⟨by rw [G2,hT.len];rfl,rfl⟩⟩) ?_;rintro _ _ ⟨rfl,rfl⟩;refine jh (λσ' h'=> ∃A,∃ (rs:List Addr),σ'= [some (jw T),some (.int (o:Int)),some (.int (k:Int)),some (.int (n:Int)),some (.lst A),none,none,none]/\h A=none/\h' A=some (rs.map D.lst)/\rs.length=0+1/\(∀t a,rs[t]? =some a->h' a=some ((Cl T n o t).map D.int))/\A ∉ rs/\Sub h h') (λC hC=> ?_) ?_
 ·simp only [HM,HG,yf,VP];refine lcA (List.range n) (λj=> .int (j:Int)) (λj=> .int (cnt T n o 0 j)) (by rw [P8];omega) rfl (λR r=>⟨_,rfl,(n:Int),rfl,by omega,by omega,r⟩) (λj hj Q' q'=>⟨_,rfl,_,rfl,_,rfl,?_⟩) (λa ea=>⟨(by show 1<=sizeLine;decide),λA eA=>hC _ _ ⟨A,[a],rfl,?_,je,rfl,?_,?_,Sub.newAt (Sub.newAt (Sub.refl h) ea) eA⟩⟩)
  ·by_cases z:j=o
   ·subst z;have:cnt T n j 0 j=1:=if_pos rfl;rw [this] at q';rw [P0 rfl];exact Vd q'
   ·have:cnt T n o 0 j=0:=if_neg z;rw [this] at q';have e0:decide ((j:Int)=(o:Int))=false:=R4 (by omega);rw [e0];exact wx q'
  ·cases z:h A with
   |none=>rfl
   |some ds=>rw [jn z ea] at eA;cases eA
  ·intro t b e;cases t with
   |zero=>
    cases (show some a=some b from e);refine jn (L:=(Cl T n o 0).map D.int) ?_ eA;rw [je];unfold Cl;rw [List.map_map];rfl
   |succ t=>cases e
  ·intro z;rw [G7.mp z,je] at eA;cases eA
 rintro _ h1 ⟨A,rs,rfl,fA,kA,lr,rows,nA,sb⟩;refine jh (λσ' h'=> ∃a b c,∃ (rs:List Addr),σ'= [some (jw T),some (.int (o:Int)),some (.int (k:Int)),some (.int (n:Int)),some (.lst A),a,b,c]/\h' A=some (rs.map D.lst)/\rs.length=k+1/\(∀t a,rs[t]? =some a->h' a=some ((Cl T n o t).map D.int))/\A ∉ rs/\Sub h h') (λC hC=> ?_) (λσ' h2 ⟨a,b,c,rs,e,kA,lr,rows,nA,sb⟩=>by subst e;exact⟨_,rfl,h2,Sub.refl _,q A h2 sb ⟨rs,kA,lr,rows⟩⟩);refine Yi k (λi σ' h'=> ∃a b c,∃ (rs:List Addr),σ'= [some (jw T),some (.int (o:Int)),some (.int (k:Int)),some (.int (n:Int)),some (.lst A),a,b,c]/\h' A=some (rs.map D.lst)/\rs.length=i+1/\(∀t a,rs[t]? =some a->h' a=some ((Cl T n o t).map D.int))/\A ∉ rs/\Sub h h') (by omega) (λR r=>⟨_,rfl,r⟩) ⟨none,none,none,rs,rfl,kA,lr,rows,nA,sb⟩ (λσ' h' z=>hC _ _ z) ?_;clear kA lr rows nA sb;rintro i _ h2 hi ⟨a,b,c,rs,rfl,kA,lr,rows,nA,sb⟩;have hil:i<rs.length:=by omega
 have hat:atI (rs.map D.lst) (i:Int)=some (.lst rs[i]):=ye (by rw [P1,G0 hil];rfl);have hrow:=rows i _ (G0 hil);refine⟨_,rfl,A,rfl,ql (h1:=h2) n (λp ys h'=>ys=(List.range p).map (λp=>D.int (cnt T n o (i+1) p))/\h'=h2) (by omega) (λR r=>⟨_,rfl,r⟩) ⟨rfl,rfl⟩ (λp ys h' ⟨e,_⟩=>by rw [e,G2,P8]) ?_ ?_⟩
 ·rintro p ys h3 hp ⟨rfl,rfl⟩;refine Od ⟨_,rfl,_,rfl,T,n,bb,p,rfl,hT,n6,hp,λF eF=> ?_⟩;refine jbI (j:=λh=>h F) (vb T n p) (λj=> .int (j:Int)) (λj=>cnt T n o i j) (by have:=KA (T:=T) (n:=n) p;omega) je (λR r=>r) (λj hj Q' q'=>⟨_,rfl,_,rfl,_,_,jn kA eF,hat,_,rfl,_,_,jn hrow eF,QD (Bl hj),q'⟩) ⟨h3,Sub.newAt (Sub.refl _) eF,by omega,?_,rfl⟩;rw [A4,B1];rfl
 ·rintro ys h3 ⟨rfl,rfl⟩ r er;have nr:r≠A:=zc kA er;refine⟨_,jn kA er,?_,_,Sub.refl _,by omega,_,_,_,rs++ [r],rfl,?_,by rw [G8,lr];rfl,λt b e=> ?_,?_,?_⟩
  ·rw [G2];exact jL (by omega)
  ·rw [je,B1];rfl
  ·by_cases z:t<rs.length
   ·rw [S0 z] at e;have hb:=rows t b e;have nb:b≠A:=λw=>nA (w ▸ G5 e)
    exact jG nb (jn hb er)
   ·rw [P7 (by omega)] at e;have zt:t-rs.length=0:=by
     have:=(G3.mp e).1;simp at this;omega
    rw [zt] at e;cases (show some r=some b from e);have:t=i+1:=by omega
    subst this;refine jG (M:=(Cl T n o (i+1)).map D.int) nr ?_;rw [je];unfold Cl;rw [List.map_map];rfl
  ·intro z;rcases D6.mp z with y|y
   ·exact nA y
   ·exact nr (G7.mp y).symm
  ·intro x ds ex;have hx:=sb x ds ex;rw [zT (λw=>by subst w;rw [fA] at ex;cases ex)];exact jn hx er
def WH:RDn:=λds h Q=> ∃T a,∃n e p o t:Nat,∃m:Int,ds= [jw T,.int (p:Int),.lst a,.int m]/\Sq n e T/\n<=6/\p<n/\h a=some ((Cl T n o t).map D.int)/\0<=m/\m<cnt T n o (t+1) p/\Q (.tup [.int (((wB (cnt T n o t) (vb T n p) m).1:Nat):Int),.int (wB (cnt T n o t) (vb T n p) m).2]) h
theorem Ga (Z:Zs mg)(F:Fun K "next_place" "next_place" Ji f fd)(Nf:jp P w K mg base n "heads" ["table","place"] QZ):FnOk P w K mg base CX0 (n+1) f fd ["table","place","ahead","number"] (LSp K WH):=by
 obtain⟨Al,CY,Nq,GD,Pb,Po⟩:=Nf;refine F.okJ wK (λds h Q q=>by obtain⟨T,a,n,bb,p,o,t,m,e,hT,n6,hp,ka,m0,hm,q⟩:=q;subst e;rfl) _ (λcdv A outer s H E hr=>(jf (yg (i:=4) wK.nd rfl (Or.inl rfl) (jy Nq hr rfl Po Pb GD (jac (jv 0) (by exact(jac (jv 1) jc))))) (by exact(jf (yg (i:=5) wK.nd rfl (Or.inl rfl) jx) (by exact(jf (LD T0 (zf Ez (jv 3) (jix (jv 2) (jix (jv 4) (jv 5) (λ_ _=>rfl)) (λ_ _=>rfl)) (jz _)) (jf (Ks (i:=3) wK.nd rfl (Or.inl rfl) (jix (jv 2) (jix (jv 4) (jv 5) (λ_ _=>rfl)) (λ_ _=>rfl))) (by exact(jg (Kr (i:=5) wK.nd rfl (Or.inl rfl) jx))))) (by exact(jg (zC (wP (jac (jix (jv 4) (jv 5) (λ_ _=>rfl)) (by exact(jac (jv 3) jc))))))))))))) ?_;intro ds h Q q;obtain⟨T,a,n,bb,p,o,t,m,e,hT,n6,hp,ka,m0,hm,q⟩:=q;subst e;refine jh (λσ' h'=> ∃F,σ'= [some (jw T),some (.int (p:Int)),some (.lst a),some (.int m),some (.lst F),none]/\h' F=some ((vb T n p).map λ(k:Nat)=>D.int (k:Int))/\h' a=some ((Cl T n o t).map D.int)/\Sub h h') (λC hC=>⟨_,rfl,_,rfl,T,n,bb,p,rfl,hT,n6,hp,λF eF=>hC _ _ ⟨F,rfl,je,jn ka eF,Sub.newAt (Sub.refl h) eF⟩⟩) ?_;rintro _ h1 ⟨F,rfl,kF,ka1,sb⟩;refine jh (λσ' h'=>σ'= [some (jw T),some (.int (p:Int)),some (.lst a),some (.int m),some (.lst F),some (.int 0)]/\h1=h') (λC hC=>hC _ _ ⟨rfl,rfl⟩) ?_;rintro _ _ ⟨rfl,rfl⟩;have hat: ∀i j:Nat,(vb T n p)[i]? =some j->atI ((vb T n p).map λ(k:Nat)=>D.int (k:Int)) ((i:Nat):Int)=some (.int (j:Int)):=λi j hi=>ye (by rw [P1,hi];rfl)
 refine jh (λσ' h'=> ∃ (i:Nat) (m':Int) (j:Nat),σ'= [some (jw T),some (.int (p:Int)),some (.lst a),some (.int m'),some (.lst F),some (.int (i:Int))]/\h1=h'/\(vb T n p)[i]? =some j/\wB (cnt T n o t) (vb T n p) m=(j,m')) (λC hC=> ?_) ?_
 ·refine Qy (λw σ' h'=> ∃ (i:Nat) (m':Int),σ'= [some (jw T),some (.int (p:Int)),some (.lst a),some (.int m'),some (.lst F),some (.int (i:Int))]/\h1=h'/\w=(vb T n p).length-i/\0<=m'/\m'<(((vb T n p).drop i).map (cnt T n o t)).sum/\wB (cnt T n o t) (vb T n p) m=wB (cnt T n o t) ((vb T n p).drop i) m') _ ⟨0,m,rfl,rfl,rfl,m0,hm,rfl⟩ ?_;rintro w _ _ ⟨i,m',rfl,rfl,hw,m0',hm',pk⟩;have hil:i<(vb T n p).length:=Nat.lt_of_not_le λz=>by rw [M7 z] at hm';simp at hm';omega
  have hj:=G0 hil;have ed:(vb T n p).drop i=(vb T n p)[i]::(vb T n p).drop (i+1):=G0x hil;have jl:(vb T n p)[i]<n:=Bl (S9 hil);generalize (vb T n p)[i]=j at hj ed jl;rw [ed] at hm' pk;rw [R9,Q9] at hm';refine⟨_,rfl,_,rfl,_,rfl,_,rfl,_,_,kF,hat i j hj,_,_,ka1,QD jl,?_⟩;refine⟨_,rfl,?_⟩;show if decide (cnt T n o t j<=m')=true then _ else _
  by_cases z:cnt T n o t j<=m'
  ·rw [P0 z];refine Vd ?_;refine jh (λσ' h'=>σ'= [some (jw T),some (.int (p:Int)),some (.lst a),some (.int (m'-cnt T n o t j)),some (.lst F),some (.int (i:Int))]/\h1=h') (λC2 hC2=>⟨m',rfl,_,rfl,_,rfl,_,rfl,_,_,kF,hat i j hj,_,_,ka1,QD jl,_,rfl,hC2 _ _ ⟨rfl,rfl⟩⟩) ?_;rintro _ _ ⟨rfl,rfl⟩;refine⟨(i:Int),rfl,_,rfl,(vb T n p).length-(i+1),_,by omega,Sub.refl _,i+1,m'-cnt T n o t j,rfl,rfl,rfl,by omega,by omega,?_⟩;rw [pk];show wB (cnt T n o t) (j::(vb T n p).drop (i+1)) m'=_
   conv=>lhs;unfold wB
   rw [if_pos z]
  ·rw [R4 z];refine wx (hC _ _ ⟨i,m',j,rfl,rfl,hj,?_⟩);rw [pk]
   conv=>lhs;unfold wB
   rw [if_neg z]
 rintro _ _ ⟨i,m',j,rfl,rfl,hj,pk⟩;rw [pk] at q;exact⟨_,rfl,_,rfl,_,_,kF,hat _ _ hj,_,rfl,(by show 2<=sizeLine;decide),h,sb,q⟩
def vi:RDn:=λds h Q=> ∃T A,∃n e one o k:Nat,∃m:Int,ds= [jw T,.int (one:Int),.lst A,.int m]/\Sq n e T/\n<=6/\one<n/\k<=40/\Cnts h A T n o k/\0<=m/\m<cnt T n o k one/\Q (jW (wn T n o k one m)) h
theorem YB (Z:Zs mg)(F:Fun K "walk_of_number" "walk_of_number" yj f fd)(DV:jp P w K mg base n "next_place" ["table","place","ahead","number"] WH):FnOk P w K mg base CX0 (n+1) f fd ["table","one","counts","number"] (LSp K vi):=by
 obtain⟨AT,Ay,Rj,GG,Pe,Pr⟩:=DV;refine F.okJ zR (λds h Q q=>by obtain⟨T,A,n,bb,one,o,k,m,e,hT,n6,h1,hk,cA,m0,hm,q⟩:=q;subst e;rfl) _ (λcdv A outer s H E hr=>(jf (yg (i:=4) zR.nd rfl (Or.inl rfl) (Yc (jac (jv 1) jc))) (by exact(jf (Mf T0 rfl (qI rfl Z.reversed (jac (Da (jv 2) Qt (Yk (Kk jx))) jc)) (yh (i:=5) zR.nd rfl (Or.inl rfl)) (jf (Ki (jy Rj hr rfl Pr Pe GG (jac (jv 0) (by exact(jac (jix (jv 4) (Kk jx) (λ_ _=>rfl)) (by exact(jac (jv 5) (by exact(jac (jv 3) jc)))))))) (YL (i:=6) (j:=3) rfl zR.nd rfl rfl (Or.inl rfl) (Or.inl rfl))) (by exact(jg (vo (Kj (jv 4) (jv 6))))))) (by exact(jg (zC (zg cq_tuple rfl Z.tuple (by decide +kernel) (jac (jv 4) jc))))))))) ?_;intro ds h Q q;obtain⟨T,A,n,bb,one,o,k,m,e,hT,n6,h1,hk,cA,m0,hm,q⟩:=q;subst e;refine jh (λσ' h'=> ∃W,σ'= [some (jw T),some (.int (one:Int)),some (.lst A),some (.int m),some (.lst W),none,none]/\h W=none/\h' W=some ((gwN T n o k one m 0).map λ(k:Nat)=>D.int (k:Int))/\Sub h h') (λC hC=>⟨_,rfl,(by show 1<=sizeLine;decide),λW eW=>hC _ _ ⟨W,rfl,eW,je,Sub.newAt (Sub.refl h) eW⟩⟩) ?_;rintro _ h2 ⟨W,rfl,fW,kW,sb⟩;obtain⟨rs,kA,lr,rows⟩:=cA;have hcut:VS (rs.map D.lst) none (some (-1))=(rs.take k).map D.lst:=by
  unfold VS;have e1:HT.sIx (rs.map D.lst).length 0 none=0:=rfl;have e2:HT.sIx (rs.map D.lst).length (rs.map D.lst).length (some (-1))=k:=by
   show (if (-1:Int)<0 then ((-1:Int)+(((rs.map D.lst).length:Nat):Int)).toNat else min (-1:Int).toNat (rs.map D.lst).length)=k;rw [if_pos (by decide),G2,lr];omega
  rw [e1,e2,G0w,Nat.sub_zero,List.map_take]
 refine jh (λσ' h'=> ∃m' a b,σ'= [some (jw T),some (.int (one:Int)),some (.lst A),some (.int m'),some (.lst W),a,b]/\h' W=some ((gwN T n o k one m k).map λ(k:Nat)=>D.int (k:Int))/\Sub h h') (λC hC=> ?_) ?_
 ·refine⟨_,rfl,_,rfl,_,sb _ _ kA,λp ep=>⟨p,_,rfl,je,?_⟩⟩;have lt:((rs.take k).map D.lst).length=k:=by rw [G2,R0];omega
  rw [hcut,lt];refine Wq (((rs.take k).map D.lst).reverse) (λi σ' h'=> ∃a b,σ'= [some (jw T),some (.int (one:Int)),some (.lst A),some (.int (gpN T n o k one m i).2),some (.lst W),a,b]/\h' p=some ((rs.take k).map D.lst)/\h' W=some ((gwN T n o k one m i).map λ(k:Nat)=>D.int (k:Int))/\Sub h h') (λi σ' h' ⟨_,_,_,kp,_⟩=> ?_) ⟨none,none,rfl,je,jn kW ep,Sub.newAt sb ep⟩ (λσ' h' ⟨a,b,e,_,kW,sb⟩=>hC _ _ ⟨_,a,b,e,by rw [R6,lt] at kW;exact kW,sb⟩) ?_
  ·show (h' p).bind _=_;rw [kp];show (if ((rs.take k).map D.lst).length=k then _ else _)=_;rw [if_pos lt]
  have nWp:W≠p:=λz=>by subst z;rw [kW] at ep;cases ep
  clear kW sb;rintro i d _ h3 hd ⟨a,b,rfl,kp,kW,sb⟩;have hi:i<k:=by have:=(G3.mp hd).1;rwa [R6,lt] at this
  rw [O5 (by rw [lt];exact hi),lt,P1,List.getElem?_take,if_pos (by omega)] at hd;have hil:k-1-i<rs.length:=by omega
  rw [G0 hil] at hd;cases hd;have hrow:=sb _ _ (rows _ _ (G0 hil));obtain⟨g1,g2,g3⟩:=Os h1 m0 hm i (by omega);rw [show k-i=(k-1-i)+1 by omega] at g3;have hlast:atI ((gwN T n o k one m i).map λ(k:Nat)=>D.int (k:Int)) (-1)=some (.int (((gpN T n o k one m i).1:Nat):Int)):=by
   unfold gwN;rw [S3];exact Wv (f:=(λ(k:Nat)=>D.int (k:Int))∘λt=>(gpN T n o k one m t).1) (show 1<=i+1 by omega)
  refine jh (λσ' h'=> ∃b,σ'= [some (jw T),some (.int (one:Int)),some (.lst A),some (.int (gpN T n o k one m (i+1)).2),some (.lst W),b,some (.int (((gpN T n o k one m (i+1)).1:Nat):Int))]/\h3=h') (λC2 hC2=>⟨_,rfl,_,rfl,_,_,kW,hlast,_,rfl,_,rfl,T,rs[k-1-i],n,bb,(gpN T n o k one m i).1,o,k-1-i,(gpN T n o k one m i).2,rfl,hT,n6,g1,hrow,g2,g3,_,_,rfl,hC2 _ _ ⟨_,rfl,rfl⟩⟩) ?_;rintro _ _ ⟨b,rfl,rfl⟩;refine⟨_,rfl,W,rfl,_,rfl,_,kW,?_,_,Sub.refl _,by rw [R6,lt];omega,_,_,rfl,jG (Ne.symm nWp) kp,?_,?_⟩
  ·rw [List.length_map];unfold gwN;rw [List.length_map,List.length_range];exact jL (by omega)
  ·rw [je];unfold gwN;rw [List.range_succ (n:=i+1),List.map_append,List.map_append];rfl
  ·intro x ds ex;rw [zT (λw=>by subst w;rw [fW] at ex;cases ex)];exact sb x ds ex
 rintro _ h3 ⟨m',a,b,rfl,kW,sb⟩;rw [Oq] at kW;exact⟨_,rfl,_,kW,h,sb,q⟩
def WI:RDn:=λds h Q=> ∃T,∃n e one o k:Nat,ds= [jw T,.int (one:Int),.int (o:Int),.int (k:Int)]/\Sq n e T/\1<=n/\n<=6/\one<n/\o<n/\k<=40/\Q (if 0<cnt T n o k one then jW (wn T n o k one 0) else .non) h
theorem Gb (Z:Zs mg)(F:Fun K "first_walk" "first_walk" Jj f fd)(Ju:jp P w K mg base n "want_ends_and_steps" ["table","one","other","k"] wM)(Nc:jp P w K mg base n "counts_to" ["table","other","k"] YS)(Vi:jp P w K mg base n "walk_of_number" ["table","one","counts","number"] vi):FnOk P w K mg base CX0 (n+1) f fd ["table","one","other","k"] (LSp K WI):=by
 obtain⟨GO,XZ,Jv,vT,vU,vV⟩:=Ju;obtain⟨Ta,Ea,No,Rp,RN,RY⟩:=Nc;obtain⟨BJ,NJ,Vj,YG,YH,YI⟩:=Vi;refine F.okJ Yb (λds h Q q=>by obtain⟨T,n,bb,one,o,k,e,hT,n1,n6,h1,ho,hk,q⟩:=q;subst e;rfl) _ (λcdv A outer s H E hr=>(jf (vo (jy Jv hr rfl vV vU vT (jac (jv 0) (by exact(jac (jv 1) (by exact(jac (jv 2) (by exact(jac (jv 3) jc))))))))) (by exact(jf (yg (i:=4) Yb.nd rfl (Or.inl rfl) (jy No hr rfl RY RN Rp (jac (jv 0) (by exact(jac (jv 2) (by exact(jac (jv 3) jc))))))) (by exact(jg (zC (jif (zf FX (jix (jix (jv 4) (jv 3) (λ_ _=>rfl)) (jv 1) (λ_ _=>rfl)) jx (jz _)) (jy Vj hr rfl YI YH YG (jac (jv 0) (by exact(jac (jv 1) (by exact(jac (jv 4) (by exact(jac jx jc)))))))) BY)))))))) ?_;intro ds h Q q;obtain⟨T,n,bb,one,o,k,e,hT,n1,n6,h1,ho,hk,q⟩:=q;subst e;refine jh (λσ' h'=>σ'= [some (jw T),some (.int (one:Int)),some (.int (o:Int)),some (.int (k:Int)),none]/\h=h') (λC hC=>⟨_,rfl,_,rfl,_,rfl,_,rfl,T,n,bb,one,o,k,rfl,hT,n1,n6,h1,ho,hk,hC _ _ ⟨rfl,rfl⟩⟩) ?_;rintro _ _ ⟨rfl,rfl⟩;refine jh (λσ' h'=> ∃A,σ'= [some (jw T),some (.int (one:Int)),some (.int (o:Int)),some (.int (k:Int)),some (.lst A)]/\Sub h h'/\Cnts h' A T n o k) (λC hC=>⟨_,rfl,_,rfl,_,rfl,T,n,bb,o,k,rfl,hT,n1,n6,ho,hk,λA h2 sb cA=>hC _ _ ⟨A,rfl,sb,cA⟩⟩) ?_;rintro _ h2 ⟨A,rfl,sb,cA⟩;obtain⟨rs,a,kA,hat,ka⟩:=cA.at (G6 k);refine⟨_,rfl,_,rfl,_,_,kA,hat,_,rfl,_,_,ka,QD h1,_,rfl,?_⟩;show if decide (cnt T n o k one>0)=true then _ else _
 by_cases z:0<cnt T n o k one
 ·rw [P0 z];rw [if_pos z] at q;exact Vd ⟨_,rfl,_,rfl,_,rfl,T,A,n,bb,one,o,k,0,rfl,hT,n6,h1,hk,cA,by decide,z,h,sb,q⟩
 ·rw [R4 z];rw [if_neg z] at q;exact wx ⟨h,sb,q⟩
def Fst (n:Nat)(T:List (List Int)):Option Nat->Prop
 |none=> ∀k,1<=k->zh (wL n T k)=false
 |some k=>1<=k/\k<=30/\zh (wL n T k)=true/\ ∀j,1<=j->j<k->zh (wL n T j)=false
def kT:Option Nat->D
 |none=> .non
 |some k=> .int (k:Int)
section
variable {n e:Nat}{T:List (List Int)}
theorem jal (h:Sq n e T)(n1:1<=n)(h6:n<=6): ∃o,Fst n T o:=by
 by_cases z: ∃k,1<=k/\zh (wL n T k)=true
 ·obtain⟨K,hK,f⟩:=z;obtain⟨k,k1,k30,fk⟩:=jdr h n1 h6 hK f;clear f hK
  induction k using Nat.strongRecOn with
  |_ k ih=>
   by_cases w: ∃j,1<=j/\j<k/\zh (wL n T j)=true
   ·obtain⟨j,j1,jk,fj⟩:=w;exact ih j jk j1 (by omega) fj
   ·exact⟨some k,k1,k30,fk,λj j1 jk=>by
     cases hf:zh (wL n T j) with
     |false=>rfl
     |true=>exact absurd ⟨j,j1,jk,hf⟩ w⟩
 ·exact⟨none,λk hk=>by
   cases hf:zh (wL n T k) with
   |false=>rfl
   |true=>exact absurd ⟨k,hk,hf⟩ z⟩
theorem OX {o:Option Nat}(ho:Fst n T o){i:Nat}(hi:zh (wL n T (i+1))=true)(lo: ∀m,m<i->zh (wL n T (m+1))=false):o=some (i+1):=by
 cases o with
 |none=>have:=ho (i+1) (by omega);rw [hi] at this;cases this
 |some k=>
  obtain⟨k1,k30,fk,fl⟩:=ho;have a: ¬ (i+1<k):=λz=>by have:=fl (i+1) (by omega) z;rw [hi] at this;cases this
  have b: ¬ (k<i+1):=λz=>by have:=lo (k-1) (by omega);rw [show k-1+1=k by omega,fk] at this;cases this
  rw [show k=i+1 by omega]
theorem BH {o:Option Nat}(ho:Fst n T o)(lo: ∀m,m<30->zh (wL n T (m+1))=false):o=none:=by
 cases o with
 |none=>rfl
 |some k=>
  obtain⟨k1,k30,fk,fl⟩:=ho;have:=lo (k-1) (by omega);rw [show k-1+1=k by omega,fk] at this;cases this
theorem Vz (h:Sq n e T)(hn:n<=8)(i:Nat):zh (wy n T i)=zh (wL n T (i+1)):=by rw [Ww h hn,Lo (h.pow hn _)]
end
def Zh:RDn:=λds h Q=> ∃T,∃n e:Nat,∃o,ds= [jw T]/\Sq n e T/\1<=n/\n<=6/\e<=1000/\Fst n T o/\Q (kT o) h
theorem Xb (Z:Zs mg)(F:Fun K "first_power" "first_power" yr f fd)(Nb:jp P w K mg base n "all_marks" ["table"] YR)(jar:jp P w K mg base n "full" ["table"] OV):FnOk P w K mg base CX0 (n+1) f fd ["table"] (LSp K Zh):=by
 obtain⟨SZ,AZ,Nn,Ro,RM,RX⟩:=Nb;obtain⟨jaI,jaw,jas,kr,kI,kJ⟩:=jar;refine F.okJ va (λds h Q q=>by obtain⟨T,k,b,o,e,hT,h1,h6,hb,ho,q⟩:=q;subst e;rfl) _ (λcdv A outer s H E hr=>(jf (Mf T0 rfl (Sc rfl Z.enumerate (jac (jy Nn hr rfl RX RM Ro (jac (jv 0) jc)) jc)) (YL (i:=1) (j:=2) rfl va.nd rfl rfl (Or.inl rfl) (Or.inl rfl)) (jg (vQ (wN (jy jas hr rfl kJ kI kr (jac (jv 2) jc))) (jg (zC (jop wv (jv 1) jx))) jH))) (by exact(jg (zC BY))))) ?_;intro ds h Q q;obtain⟨T,k,b,o,e,hT,h1,h6,hb,ho,q⟩:=q;subst e;have hn:k<=8:=by omega
 refine jh (λσ' h'=>o=none/\Sub h h') (λC hC=> ?_) ?_
 ·refine⟨_,rfl,T,k,b,rfl,hT,h1,h6,hb,λA L J h' fA kA sb hc hL=>⟨A,rfl,?_⟩⟩;refine Wq (j:=λh=>(h A).map Vv) (Vv ((List.range L).map λi=>jw (wy k T i))) (λi σ' h2=> ∃a b',σ'= [some (jw T),a,b']/\h'=h2/\ ∀m,m<i->zh (wL k T (m+1))=false) (λi σ' h2 ⟨_,_,_,e,_⟩=>by rw [<-e];show (h' A).map Vv=_;rw [kA];rfl) ⟨none,none,rfl,rfl,λm hm=>absurd hm (Nat.not_lt_zero _)⟩ ?_ ?_
  ·rintro σ' h2 ⟨a,b',e,eh,lo⟩;rw [wQ,G2,P8] at lo;refine hC _ _ ⟨BH ho λm _=> ?_,eh ▸ sb⟩
   by_cases z:m<L
   ·exact lo m z
   ·have lt:=hc.lt;rw [<-Vz hT hn m,<-TJ hc (show J<=m by omega),Vz hT hn];exact lo _ (by have:=Nat.mod_lt (m-J) (show 0<L-J by omega);omega)
  rintro i d _ _ hd ⟨a,b',rfl,rfl,lo⟩;obtain⟨x,hx,rfl⟩:=Vw hd;have hil:i+1<=(Vv ((List.range L).map λi=>jw (wy k T i))).length:=(G3.mp hd).1;have hiL:i<L:=by rw [wQ,G2,P8] at hil;exact hil
  rw [P1,M6 hiL] at hx;injection hx with hx
  subst hx;refine⟨_,_,rfl,_,rfl,wy k T i,k,1,rfl,vq k T i,h1,h6,_,rfl,?_⟩;rw [Vz hT hn];cases hf:zh (wL k T (i+1)) with
  |true=>
   refine Vd ⟨_,rfl,h,sb,?_⟩;rw [OX ho hf lo] at q;exact q
  |false=>
   refine wx ⟨_,Sub.refl _,hil,_,_,rfl,rfl,λm hm=> ?_⟩
   by_cases z:m=i
   ·subst z;exact hf
   ·exact lo m (by omega)
 rintro _ h2 ⟨e,sb⟩;subst e;exact⟨h,sb,q⟩
def Js:RDx:=λds h R=> ∃d,ds= [d]/\okD d=true/\BF d=false/\R "NoTable" h
theorem Uv (Z:Zs mg)(Ex:Exc K mg)(F:Fun K "first_power" "first_power" yr f fd)(CR_all_marks:ZG P w K mg base n "all_marks" ["table"] WG):FnOk P w K mg base (CXR P w) (n+1) f fd ["table"] (Oi mg K Js):=by
 obtain⟨AI,Ao,DZ,Gv,GR,Pg⟩:=CR_all_marks;refine F.okX va (λds h R q=>by obtain⟨d,e,ok,bad,q⟩:=q;subst e;rfl) _ (λcdv A outer s H E hr=>(qV (KS rfl Z.enumerate (Yr DZ hr rfl Pg GR Gv (jac (jv 0) jc))))) ?_;intro ds h R q;obtain⟨d,e,ok,bad,q⟩:=q;subst e;exact⟨_,rfl,d,rfl,ok,bad,q⟩
structure WalkOk (T:List (List Int))(n:Nat)(W:List Nat)(i j m:Nat):Prop where
 wd:Dp T n (jW W)=true
 lt: ∀x∈W,x<n
 len:W.length=m+1
 fst:W[0]? =some i
 lst:W[m]? =some j
theorem Gc (n:Nat)(f:Nat->D):Vv ((List.range n).map f)=(List.range n).map λ(j:Nat)=>D.tup [.int (j:Int),f j]:=by
 refine U2 λi=> ?_
 unfold Vv;rw [P1,G08,P1,P1]
 by_cases z:i<n
 ·rw [M6 z];simp
 ·rw [B7 (by rw [P8];omega)];rfl
def MW (n:Nat)(f:Nat->List Nat):D:= .tup ((List.range n).map λj=>jW (f j))
def zX (n:Nat)(f:Nat->Nat->List Nat):D:= .tup ((List.range n).map λi=>MW n (f i))
def jb1 (k:Nat)(f:Nat->List Nat):D:= .tup ((List.range k).map λt=>jW (f t))
theorem kl (k:Nat)(f:Nat->D):Cd ((List.range k).map f) (VS ((List.range k).map f) (some 1) none)=(List.range (k-1)).map λt=>D.tup [f t,f (t+1)]:=by
 rw [LW];unfold Cd;refine U2 λi=> ?_
 rw [P1,P1]
 by_cases z:i<k-1
 ·rw [M6 z];have h1:i<((List.range k).map f).length:=by rw [G2,P8];omega
  have h2:i<(((List.range k).map f).drop 1).length:=by rw [S6,G2,P8];omega
  rw [G0 (by rw [W0];omega),List.getElem_zip,G0F];simp only [List.getElem_map,List.getElem_range,Option.map_some,X9 1 i]
 ·rw [B7 (by rw [W0,S6,G2,P8];omega),B7 (by rw [P8];omega)];rfl
section
variable {n e:Nat}{T:List (List Int)}
theorem jam (h:Sq n e T)(hn:n<=8){m i j:Nat}(hi:i<n)(hj:j<n):ent (wy n T m) i j≠0↔RP n T (m+1) i j:=by
 rw [Ww h hn];exact not_congr (vg hi hj)
theorem TV (h:Sq n e T)(hn:n<=8){k:Nat}(ho:Fst n T (some k)){m:Nat}(hm:k<=m){i j:Nat}(hi:i<n)(hj:j<n):RP n T m i j:=by
 have:=Mz h hn ho.1 ho.2.2.1 (m-k);rw [show k+(m-k)=m by omega] at this;exact(Op h hn).mp this i j hi hj
theorem SN (h:Sq n e T)(hn:n<=8){k:Nat}(f:zh (wL n T k)=false): ∃i j,i<n/\j<n/\ ¬RP n T k i j:=by
 refine O0 λz=> ?_
 have:zh (wL n T k)=true:=(Op h hn).mpr λi j hi hj=>O0 λw=>z ⟨i,j,hi,hj,w⟩
 rw [f] at this;cases this
theorem OY (h:Sq n e T)(hn:n<=8){p:Nat}(hp:p<n): ∀ (m j:Nat),j∈itF (jI n T) [p] m↔j<n/\RP n T m p j
 |0,j=>by
  show j∈ [p]↔_;rw [G7];exact⟨λe=>⟨e ▸ hp,(vt hp (e ▸ hp)).mpr e.symm⟩,λ⟨hj,r⟩=>((vt hp hj).mp r).symm⟩
 |m+1,j=>by
  show j∈jI n T (itF (jI n T) [p] m)↔_;unfold jI;rw [C6,D1,A8];constructor
  ·rintro ⟨hj,i,hi,r⟩;obtain⟨hi,ri⟩:=(OY h hn hp m i).mp hi;exact⟨hj,(yF h hn m 1 hp hj).mpr ⟨i,hi,ri,(Bq h hn).mpr (T7 r)⟩⟩
  ·rintro ⟨hj,r⟩;obtain⟨i,hi,a,b⟩:=(yF h hn m 1 hp hj).mp r;exact⟨hj,i,(OY h hn hp m i).mpr ⟨hi,a⟩,P0 ((Bq h hn).mp b)⟩
theorem OZ {p:Nat}(hp:p<n):IsS n [p]:=by
 refine⟨λi=>decide (i=p),?_⟩;obtain⟨d,rfl⟩: ∃d,n=p+(d+1):=⟨n-p-1,by omega⟩;have e1:(List.range p).filter (λi=>decide (i=p))= []:=G0W.mpr λm hm=>by have:=D1.mp hm;simp;omega
 rw [List.range_add,W1,e1,T8,K1,R9,List.filter_cons,if_pos (by simp)];have e2:(((List.range d).map Nat.succ).map (λx=>p+x)).filter (λi=>decide (i=p))= []:=G0W.mpr λm hm=>by
  obtain⟨x,hx,rfl⟩:=R3.mp hm;obtain⟨y,_,rfl⟩:=R3.mp hx;simp
 rw [e2];rfl
end
def Cw (n:Nat)(T:List (List Int))(k one o:Nat):D:= .tup [.int (one:Int),.int (o:Int),jb1 k (λt=>itF (jI n T) [one] t)]
theorem Cy {x:Nat}(h:x<n):zH (.int (x:Int)) 0 ((n:Int)-1)=true:=by
 show (decide ((0:Int)<=(x:Int))&&decide ((x:Int)<=(n:Int)-1))=true;rw [P0 (show (0:Int)<=(x:Int) by omega),P0 (show (x:Int)<=(n:Int)-1 by omega)];rfl
def Aa (n:Nat)(T:List (List Int))(k:Nat)(g:D):Prop:=(k=1/\g= .non)\/ ∃one o,2<=k/\one<n/\o<n/\ ¬RP n T (k-1) one o/\g=Cw n T k one o
def YT:RDn:=λds h Q=> ∃M,∃n e:Nat,ds= [jw M]/\Sq n e M/\n<=6/\(∃i j,i<n/\j<n/\ent M i j=0)/\ ∀i j:Nat,i<n->j<n->ent M i j=0->Q (.tup [.int (i:Int),.int (j:Int)]) h
theorem DG (Z:Zs mg)(F:Fun K "nought_of" "nought_of" ZK f fd):FnOk P w K mg base CX0 (n+1) f fd ["table"] (LSp K YT):=by
 refine F.okJ JL (λds h Q q=>by obtain⟨M,n,b,e,hM,h6,⟨i0,j0,hi0,hj0,z0⟩,q⟩:=q;subst e;rfl) _ (λcdv A outer s H E hr=>(jf (yg (i:=1) JL.nd rfl (Or.inl rfl) (jix (jaB (i:=2) (j:=3) (js:= [2,3]) rfl (ji (by rfl)) (Qx rfl Z.enumerate (jac (jv 0) jc)) (by decide) (by decide) (by decide) JL.nd rfl rfl (by first|exact Or.inl rfl|exact Or.inr rfl) (by first|exact Or.inl rfl|exact Or.inr rfl) (λX' hX=>by obtain⟨C,s₀,H₀,ex,rfl⟩:=hX;exact Qs (zf (LK hr.units) jx (jv 3) (by with_unfolding_all rfl))) (λX' hX=>by obtain⟨C,s₀,H₀,ex,rfl⟩:=hX;exact(jv 2))) jx (λ_ _=>rfl))) (by exact(jg (zC (wP (jac (jv 1) (by exact(jac (jdf (jix (jv 0) (jv 1) (λ_ _=>rfl)) jx) jc))))))))) ?_;intro ds h Q q;obtain⟨M,n,b,e,hM,h6,⟨i0,j0,hi0,hj0,z0⟩,q⟩:=q;subst e;have rowz: ∀i,i<n->(decide ((0:Int)∈M.getD i [])=true↔ ∃j,j<n/\ent M i j=0):=λi hi=>by
  have hl:=hM.row _ (Sq.getRow hM hi);rw [decide_eq_true_iff];unfold ent;generalize M.getD i []=r at hl;constructor
  ·intro w;obtain⟨j,hj,ej⟩:=L8 w;exact⟨j,by omega,by rw [D9,G0 hj,ej];rfl⟩
  ·rintro ⟨j,hj,ej⟩;rw [<-ej,D9,G0 (by omega)];exact S9 _
 have en:Vv (M.map JQ)=(List.range n).map λ(i:Nat)=>D.tup [.int (i:Int),JQ (M.getD i [])]:=by
  conv=>lhs;rw [yp M [],hM.len,S3]
  exact Gc n (λi=>JQ (M.getD i []))
 refine jh (λσ' h'=> ∃i:Nat,σ'= [some (jw M),some (.int (i:Int)),none,none]/\Sub h h'/\i<n/\ ∃j,j<n/\ent M i j=0) (λC hC=> ?_) ?_
 ·unfold HM dOp;refine jcA (j:=λ_=>some (Vv (M.map JQ))) (List.range n) (λi=> .int (i:Int)) (λi=>JQ (M.getD i [])) (λi=> .int (i:Int)) (λi=>decide ((0:Int)∈M.getD i [])) (by rw [P8];omega) (congrArg some en) (λR r=>⟨_,rfl,_,rfl,r⟩) (λi hi Q' q'=>⟨_,rfl,EU ⟨_,rfl,by rw [show ((false !=decide ((0:Int)∈M.getD i [])))=decide ((0:Int)∈M.getD i []) from by cases decide ((0:Int)∈M.getD i [])<;>rfl];exact q'⟩⟩) (λi hi _ Q' q'=>⟨_,rfl,q'⟩) (λF eF=> ?_);have ne:(List.range n).filter (λi=>decide ((0:Int)∈M.getD i []))≠ []:=λz=>by
   have:i0∈(List.range n).filter (λi=>decide ((0:Int)∈M.getD i [])):=C6.mpr ⟨D1.mpr hi0,(rowz i0 hi0).mpr ⟨j0,hj0,z0⟩⟩;rw [z] at this;cases this
  obtain⟨i,r,er⟩:=List.exists_cons_of_ne_nil ne;have im:i∈(List.range n).filter (λi=>decide ((0:Int)∈M.getD i [])):=by rw [er];exact D4
  obtain⟨hi,zi⟩:=C6.mp im;exact⟨_,_,je,ye (j:=0) (by rw [P1,er];rfl),hC _ _ ⟨i,rfl,Sub.newAt (Sub.refl h) eF,D1.mp hi,(rowz i (D1.mp hi)).mp zi⟩⟩
 rintro _ h2 ⟨i,rfl,sb,hi,j,hj,zj⟩;have hl:=hM.row _ (Sq.getRow hM hi);have mem:(0:Int)∈M.getD i []:=T7 ((rowz i hi).mpr ⟨j,hj,zj⟩);have il:(M.getD i []).idxOf 0<(M.getD i []).length:=O8.mpr mem;have ez:ent M i ((M.getD i []).idxOf 0)=0:=by
  unfold ent;rw [D9,G0 il,K6 il];rfl
 exact⟨_,rfl,_,rfl,_,rfl,_,ZC hM hi,M.getD i [],rfl,0,rfl,mem,(by show 2<=sizeLine;decide),h,sb,q i _ hi (by omega) ez⟩
def YU:RDn:=λds h Q=> ∃T,∃n e k:Nat,ds= [jw T,.int (k:Int)]/\Sq n e T/\1<=n/\n<=6/\e<=1000/\Fst n T (some k)/\ ∀g,Aa n T k g->Q g h
theorem DH (Z:Zs mg)(F:Fun K "gap_ahead" "gap_ahead" ZL f fd)(Nh:jp P w K mg base n "nought_of" ["table"] YT)(CC:jp P w K mg base n "marks_of" ["table","k"] Uu)(Ni:jp P w K mg base n "set_after" ["table","some","k"] YQ):FnOk P w K mg base CX0 (n+1) f fd ["table","k"] (LSp K YU):=by
 obtain⟨Tc,Ec,Nt,Rr,RQ,Ma⟩:=Nh;obtain⟨TZ,Ti,CI,Ny,NM,NQ⟩:=CC;obtain⟨Td,Ed,Nu,Rs,RR,Mb⟩:=Ni;refine F.okJ JJ (λds h Q q=>by obtain⟨T,n,b,k,e,hT,h1,h6,hb,hk,q⟩:=q;subst e;rfl) _ (λcdv A outer s H E hr=>(jf (vQ (zf oq_eq (jv 1) jx (jz _)) (jg (zC BY)) jH) (by exact(jf (Ki (jy Nt hr rfl Ma RQ Rr (jac (jy CI hr rfl NQ NM Ny (jac (jv 0) (by exact(jac (jop Wm (jv 1) jx) jc)))) jc)) (YL (i:=2) (j:=3) rfl JJ.nd rfl rfl (by first|exact Or.inr rfl|exact Or.inl rfl) (Or.inl rfl))) (by exact(jg (zC (wP (jac (jv 2) (by exact(jac (jv 3) (by exact(jac (zg zw rfl Z.tuple (by decide +kernel) (jac (jlc (i:=4) (js:= [4]) rfl (ji (by rfl)) (Zz rfl Z.range (jac (jv 1) jc)) (by decide) JJ.nd rfl (by first|exact Or.inl rfl|exact Or.inr rfl) (λX' hX=>jD) (λX' hX=>by obtain⟨C,s₀,H₀,ex,rfl⟩:=hX;exact(jy Nu hr rfl Mb RR Rs (jac (jv 0) (by exact(jac (wP (jac (jv 2) jc)) (by exact(jac (jv 4) jc)))))))) jc)) jc))))))))))))) ?_;intro ds h Q q;obtain⟨T,n,b,k,e,hT,h1,h6,hb,hk,q⟩:=q;subst e;have hn:n<=8:=by omega
 have k1:=hk.1;have k30:=hk.2.1;refine jh (λσ' h'=>σ'= [some (jw T),some (.int (k:Int)),none,none,none]/\h=h'/\2<=k) (λC hC=>⟨_,rfl,?_⟩) ?_
 ·show ∃c,D.bl (decide ((k:Int)=1))=D.bl c/\_
  by_cases z:k=1
  ·rw [P0 (show (k:Int)=1 by omega)];exact⟨_,rfl,Vd ⟨h,Sub.refl h,q _ (.inl ⟨z,rfl⟩)⟩⟩
  ·rw [R4 (show ¬ (k:Int)=1 by omega)];exact⟨_,rfl,wx (hC _ _ ⟨rfl,rfl,by omega⟩)⟩
 rintro _ _ ⟨rfl,rfl,k2⟩;obtain⟨i0,j0,hi0,hj0,nr0⟩:=SN hT hn (hk.2.2.2 (k-1) (by omega) (by omega));have zr: ∀i j,i<n->j<n->(ent (wy n T (k-1-1)) i j=0↔ ¬RP n T (k-1) i j):=λi j hi hj=>by
  have:=jam hT hn hi hj (m:=k-1-1);rw [show k-1-1+1=k-1 by omega] at this;rw [<-this];exact Decidable.not_not.symm
 refine jh (λσ' h'=> ∃i j:Nat,σ'= [some (jw T),some (.int (k:Int)),some (.int (i:Int)),some (.int (j:Int)),none]/\h=h'/\i<n/\j<n/\ ¬RP n T (k-1) i j) (λC hC=>⟨_,rfl,_,rfl,T,n,b,k-1,?_,hT,h1,h6,hb,by omega,?_,wy n T (k-1-1),n,1,rfl,vq n T _,h6,⟨i0,j0,hi0,hj0,(zr i0 j0 hi0 hj0).mpr nr0⟩,λi j hi hj z=>⟨_,_,rfl,hC _ _ ⟨i,j,rfl,rfl,hi,hj,(zr i j hi hj).mp z⟩⟩⟩) ?_
 ·rw [show (k:Int)-1=((k-1:Nat):Int) by omega]
 ·exact S1 (show _<=100 by omega) (by decide)
 rintro _ _ ⟨i,j,rfl,rfl,hi,hj,nr⟩;refine⟨_,rfl,_,rfl,?_⟩;refine AH (j:=λ_=>some ((List.range k).map λ(t:Nat)=>D.int (t:Int))) (List.range k) (λt=> .int (t:Int)) (λt=>jW (itF (jI n T) [i] t)) (by rw [P8];omega) rfl (λR r=>⟨_,rfl,(k:Int),rfl,by omega,by omega,r⟩) (λt ht Q' q'=>⟨_,rfl,_,rfl,(by show 1<=sizeLine;decide),_,rfl,T,[i],n,b,t,rfl,hT,h1,h6,OZ hi,by have:=D1.mp ht;omega,q'⟩) ⟨(by show 3<=sizeLine;decide),h,Sub.refl h,q _ (.inr ⟨i,j,k2,hi,hj,nr,rfl⟩)⟩
theorem BI (h:Sq n e T)(hn:n<=8){o:Nat}(ho:o<n): ∀ (t:Nat) {p:Nat},p<n->(0<cnt T n o t p↔RP n T t p o)
 |0,p,hp=>by
  rw [vt hp ho];show 0<(if p=o then (1:Int) else 0)↔_
  by_cases z:p=o
  ·rw [if_pos z];exact⟨λ_=>z,λ_=>by decide⟩
  ·rw [if_neg z];exact⟨λw=>absurd w (by decide),λw=>absurd w z⟩
 |t+1,p,hp=>by
  rw [X9 t 1,yF h hn 1 t hp ho,X9 1 t];constructor
  ·intro w;obtain⟨j,hj,c⟩:=Oc (λj=>Uc t j) w;have jl:=Bl hj;exact⟨j,jl,(Bq h hn).mpr (by have:=T7 (C6.mp hj).2;omega),(BI h hn ho t jl).mp c⟩
  ·rintro ⟨j,hj,a,c⟩;have c:=(BI h hn ho t hj).mpr c;have a:=(Bq h hn).mp a;have nn:=(h.ent_nn hp hj).1;have jm:j∈vb T n p:=C6.mpr ⟨D1.mpr hj,P0 (by omega)⟩;obtain⟨l1,l2,e⟩:=List.append_of_mem jm;show 0<((vb T n p).map (cnt T n o t)).sum;rw [e,B1,R9,List.sum_append,Q9];have x1:0<=(l1.map (cnt T n o t)).sum:=Bn λx hx=>by obtain⟨y,_,rfl⟩:=R3.mp hx;exact Uc t y
   have x2:0<=(l2.map (cnt T n o t)).sum:=Bn λx hx=>by obtain⟨y,_,rfl⟩:=R3.mp hx;exact Uc t y
   omega
theorem SO {W:List Nat}(h: ∀i∈W,i<n)(w:Do T W=true):Dp T n (jW W)=true:=by
 have e:vJ (jW W)=W:=by
  show (W.map λ(k:Nat)=>D.int (k:Int)).map Ob=W;rw [S3]
  conv=>rhs;rw [<-G0b W]
  rfl
 have p:vw (jW W) (n:Int)=true:=by
  show (W.map λ(k:Nat)=>D.int (k:Int)).all (λx=>zH x 0 ((n:Int)-1))=true;rw [R5];intro x hx;obtain⟨i,hi,rfl⟩:=R3.mp hx;exact Cy (h i hi)
 unfold Dp;rw [p,e,w];rfl
theorem jb2 (h:Sq n e T){i j k:Nat}(hi:i<n)(hj:j<n)(c:0<cnt T n j k i):WalkOk T n (wn T n j k i 0) i j k:=by
 refine⟨SO (qW hi (U7 _) c) (Ou k i (U7 _) c),qW hi (U7 _) c,qX k i 0,?_,Ot k i (U7 _) c⟩;obtain⟨r,er,_⟩:=MG (T:=T) (n:=n) (o:=j) k i 0;rw [er];rfl
def YV:RDn:=λds h Q=> ∃T,∃n e:Nat,∃o,ds= [jw T]/\Sq n e T/\1<=n/\n<=6/\e<=1000/\Fst n T o/\((o=none/\Q .non h)\/ ∃k,o=some k/\ ∀g,Aa n T k g->Q (.tup [.int (k:Int),zX n (λi j=>wn T n j k i 0),g]) h)
theorem DI (Z:Zs mg)(F:Fun K "why_first" "why_first" vB f fd)(Gp:jp P w K mg base n "first_power" ["table"] Zh)(DT:jp P w K mg base n "first_walk" ["table","one","other","k"] WI)(Nd:jp P w K mg base n "gap_ahead" ["table","k"] YU):FnOk P w K mg base CX0 (n+1) f fd ["table"] (LSp K YV):=by
 obtain⟨Ak,Fm,Gu,Xn,Xu,Xy⟩:=Gp;obtain⟨AR,Aw,Rh,GC,Pa,Pn⟩:=DT;obtain⟨Tb,Eb,Np,Rq,RO,RZ⟩:=Nd;refine F.okJ zM (λds h Q q=>by obtain⟨T,n,b,o,e,hT,h1,h6,hb,ho,q⟩:=q;subst e;rfl) _ (λcdv A outer s H E hr=>(jf (yg (i:=1) zM.nd rfl (by first|exact Or.inr rfl|exact Or.inl rfl) (jy Gu hr rfl Xy Xu Xn (jac (jv 0) jc))) (by exact(jf (vQ (zf Lj (jv 1) BY (jz _)) (jg (zC BY)) jH) (by exact(jf (yg (i:=2) zM.nd rfl (by first|exact Or.inr rfl|exact Or.inl rfl) (jbH rfl rfl Z.list rfl Z.range (jac (jA zn rfl Z.len S5 (jac (jv 0) jc)) jc))) (by exact(jf (yg (i:=3) zM.nd rfl (Or.inl rfl) (zg zw rfl Z.tuple (by decide +kernel) (jac (jlc (i:=4) (js:= [4]) rfl (ji (by rfl)) (zS (jv 2)) (by decide) zM.nd rfl (by first|exact Or.inl rfl|exact Or.inr rfl) (λX' hX=>jD) (λX' hX=>by obtain⟨C,s₀,H₀,ex,rfl⟩:=hX;exact(zg zw rfl Z.tuple (by decide +kernel) (jac (jlc (i:=5) (js:= [5]) rfl (ji (by rfl)) (zS (jv 2)) (by decide) zM.nd rfl (by first|exact Or.inl rfl|exact Or.inr rfl) (λX' hX=>jD) (λX' hX=>by obtain⟨C,s₀,H₀,ex,rfl⟩:=hX;exact(jy Rh hr rfl Pn Pa GC (jac (jv 0) (by exact(jac (jv 4) (by exact(jac (jv 5) (by exact(jac (jv 1) jc)))))))))) jc)))) jc))) (by exact(jg (zC (wP (jac (jv 1) (by exact(jac (jv 3) (by exact(jac (jy Np hr rfl RZ RO Rq (jac (jv 0) (by exact(jac (jv 1) jc)))) jc))))))))))))))))) ?_;intro ds h Q q;obtain⟨T,n,b,o,e,hT,h1,h6,hb,ho,q⟩:=q;subst e;have hn:n<=8:=by omega
 refine jh (λσ' h'=>σ'= [some (jw T),some (kT o),none,none,none,none]/\h=h') (λC hC=>⟨_,rfl,T,n,b,o,rfl,hT,h1,h6,hb,ho,hC _ _ ⟨rfl,rfl⟩⟩) ?_;rintro _ _ ⟨rfl,rfl⟩;rcases q with ⟨rfl,q⟩|⟨k,rfl,q⟩
 ·refine jh (λ_ _=>False) (λC hC=>⟨_,rfl,_,rfl,Vd ⟨h,Sub.refl h,q⟩⟩) (λ_ _ z=>z.elim)
 have k30:=ho.2.1;refine jh (λσ' h'=>σ'= [some (jw T),some (.int (k:Int)),none,none,none,none]/\h=h') (λC hC=>⟨_,rfl,_,rfl,wx (hC _ _ ⟨rfl,rfl⟩)⟩) ?_;rintro _ _ ⟨rfl,rfl⟩;refine jh (λσ' h'=> ∃P,σ'= [some (jw T),some (.int (k:Int)),some (.lst P),none,none,none]/\h' P=some ((List.range n).map λ(k:Nat)=>D.int (k:Int))/\Sub h h') (λC hC=>⟨_,rfl,n,by rw [G2,hT.len],by omega,λP eP=>hC _ _ ⟨P,rfl,je,Sub.newAt (Sub.refl h) eP⟩⟩) ?_;rintro _ h2 ⟨P,rfl,kP,sb⟩;refine jh (λσ' h'=>σ'= [some (jw T),some (.int (k:Int)),some (.lst P),some (zX n (λi j=>wn T n j k i 0)),none,none]/\h2=h') (λC hC=> ?_) ?_
 ·refine AH (j:=λh=>h P) (List.range n) (λi=> .int (i:Int)) (λi=>MW n (λj=>wn T n j k i 0)) (by rw [P8];omega) kP (λR r=>⟨_,rfl,r⟩) (λi hi Q' q'=> ?_) (hC _ _ ⟨rfl,rfl⟩);have hi:=D1.mp hi;refine AH (j:=λh=>h P) (List.range n) (λj=> .int (j:Int)) (λj=>jW (wn T n j k i 0)) (by rw [P8];omega) kP (λR r=>⟨_,rfl,r⟩) (λj hj Q2 q2=>⟨_,rfl,_,rfl,_,rfl,_,rfl,T,n,b,i,j,k,rfl,hT,h1,h6,hi,D1.mp hj,by omega,?_⟩) q';rw [if_pos ((BI hT hn (D1.mp hj) k hi).mpr (TV hT hn ho (G6 _) hi (D1.mp hj)))];exact q2
 rintro _ _ ⟨rfl,rfl⟩;exact⟨_,rfl,_,rfl,_,rfl,_,rfl,T,n,b,k,rfl,hT,h1,h6,hb,ho,λg ig=>⟨(by show 3<=sizeLine;decide),h,sb,q g ig⟩⟩
def WJ:RDx:=λds h R=> ∃d,ds= [d]/\okD d=true/\BF d=false/\R "NoTable" h
theorem Gd (Z:Zs mg)(Ex:Exc K mg)(F:Fun K "why_first" "why_first" vB f fd)(CR_first_power:ZG P w K mg base n "first_power" ["table"] Js):FnOk P w K mg base (CXR P w) (n+1) f fd ["table"] (Oi mg K WJ):=by
 obtain⟨Ff,CT,Xh,UC,UI,UL⟩:=CR_first_power;refine F.okX zM (λds h R q=>by obtain⟨d,e,ok,bad,q⟩:=q;subst e;rfl) _ (λcdv A outer s H E hr=>(TL (Yr Xh hr rfl UL UI UC (jac (jv 0) jc)))) ?_;intro ds h R q;obtain⟨d,e,ok,bad,q⟩:=q;subst e;exact⟨_,rfl,d,rfl,ok,bad,q⟩
def YW:RDn:=λds h Q=> ∃ns k,ds= [.scr ns,.int k]/\0<=k/\ ∀n,Q (.int n) h
theorem DJ (Z:Zs mg)(F:Fun K "_law_cell" "_law_cell" ZM f fd):FnOk P w K mg base CX0 (n+1) f fd ["_law_script","_law_k"] (LSp K YW):=by
 refine F.okJ Dy (λds h Q q=>by obtain⟨ns,k,e,h0,q⟩:=q;subst e;rfl) _ (λcdv A outer s H E hr=>(jf (vQ (zf PP (jv 1) (jA zn rfl Z.len S5 (jac (jv 0) jc)) (jz _)) (jg (zC (jix (jv 0) (jv 1) (λ_ _=>rfl)))) jH) (by exact(jg (zC jx))))) ?_;intro ds h Q q;obtain⟨ns,k,e,h0,q⟩:=q;subst e;simp only [FT,kL,VQ,dOp,Fc,zU,R9,E1,D2,S4,B0,T8,J8,N8,L9,dCB,yf,VP,xS,Tu,D.bl.injEq,Fd,ixD,Me,A5,BW,dC];refine Mm (λc=> ?_) (λ_=>⟨h,Sub.refl h,q 0⟩);have c':k<(ns.length:Int):=T7 c;have hk:k.toNat<ns.length:=by omega
 have ek:k=((k.toNat:Nat):Int):=by omega
 have z:=ye (G0 hk);rw [<-ek] at z;exact⟨ns[k.toNat],z,h,Sub.refl h,q _⟩
def Uw:RDn:=λds h Q=> ∃c,ds= [.int c]/\ ∀p l fl,h p=none->0<=l->(fl=0\/fl=1)->Q (.lst p) (yL h p [.int l,.int fl])
theorem MX (Z:Zs mg)(F:Fun K "_law_pen" "_law_pen" Yz f fd):FnOk P w K mg base CX0 (n+1) f fd ["_law_cell_here"] (LSp K Uw):=by
 refine F.okJ UO (λds h Q q=>by obtain⟨c,e,q⟩:=q;subst e;rfl) _ (λcdv A outer s H E hr=>(jf (yg (i:=1) UO.nd rfl (Or.inl rfl) (jA (xT rfl) rfl Z.max (by decide +kernel) (jac (jv 0) (by exact(jac (jop Wm jx (jv 0)) jc))))) (by exact(jg (zC (Yc (jac (jv 1) (by exact(jac (zg FZ rfl Z.int (by decide +kernel) (jac (Qr Ez (jv 1) (jop Tv jx jx) (jz _)) jc)) jc))))))))) ?_;intro ds h Q q;obtain⟨c,e,q⟩:=q;subst e;simp only [FT,HM,dCB,yf,Fc,zU,R9,E1,D2,S4,List.replicate,B0,T8,N8,L9,dOp,dC,jcq,VP,jbw,Fd,HG,List.set_cons_succ,List.set_cons_zero,J8,jcs,Tu,jbv,Me,A5];refine⟨⟨by decide,by decide,by decide⟩,by decide,λp hp=>⟨_,Sub.refl _,q p _ _ hp ?_ ?_⟩⟩
 ·split<;>omega
 ·split<;>simp<;>omega
def yQ:RDn:=λds h Q=> ∃p l fl m,ds= [.lst p,.int m]/\h p=some [.int l,.int fl]/\0<=l/\0<m/\m<2^200/\ ∀r l',0<=r->r<m->0<=l'->Q (.int r) (yL h p [.int l',.int fl])
theorem DK (Z:Zs mg)(F:Fun K "_law_draw" "_law_draw" ZN f fd):FnOk P w K mg base CX0 (n+1) f fd ["_law_pen_here","_law_many"] (LSp K yQ):=by
 refine F.okJ yS (λds h Q q=>by obtain⟨p,l,fl,m,e,hp,h0,hm,hm2,q⟩:=q;subst e;rfl) _ (λcdv A outer s H E hr=>(jf (vQ (zf oq_eq (jix (jv 0) jx (λ_ _=>rfl)) jx (jz _)) (jf (Ki (jA Cg rfl Z.divmod (by decide +kernel) (jac (jix (jv 0) jx (λ_ _=>rfl)) (by exact(jac (jv 1) jc)))) (YL (i:=2) (j:=3) rfl yS.nd rfl rfl (Or.inl rfl) (Or.inl rfl))) (by exact(jf (Ki (jv 2) (TB (jv 0) jx)) (by exact(jg (zC (jv 3))))))) jH) (by exact(jf (yg (i:=4) yS.nd rfl (Or.inl rfl) (jop Wn (jop Yh (jop wv (jop Wn (jix (jv 0) jx (λ_ _=>rfl)) jx) jx) jx) jx)) (by exact(jf (yg (i:=4) yS.nd rfl (Or.inl rfl) (jop Wn (jop wv (jop Yh (jv 4) (jv 4)) jx) jx)) (by exact(jf (Ki (jop Wn (jop wv (jop Yh (jv 4) jx) jx) jx) (TB (jv 0) jx)) (by exact(jg (zC (jop Wn (jop HZ (jix (jv 0) jx (λ_ _=>rfl)) jx) (jv 1))))))))))))) ?_;intro ds h Q q;obtain⟨p,l,fl,m,e,hp,h0,hm,hm2,q⟩:=q;subst e;refine jh (λσ' h'=>σ'= [some (.lst p),some (.int m),none,none,none]/\h=h') (λC hC=>⟨_,rfl,_,_,hp,rfl,?_⟩) ?_
 ·show ∃k,D.bl (decide (fl=1))= .bl k/\_;refine⟨_,rfl,Mm (λ_=> ?_) λ_=>hC _ _ ⟨rfl,rfl⟩⟩;exact⟨_,rfl,_,_,hp,rfl,_,rfl,_,_,rfl,⟨hm,hm2⟩,_,_,rfl,_,rfl,_,rfl,p,0,_,0,rfl,rfl,hp,rfl,_,rfl,_,Sub.refl _,q (l%m) (l / m) (G0f _ (Int.ne_of_gt hm)) (G0u _ hm) (Int.ediv_nonneg h0 (Int.le_of_lt hm))⟩
 rintro _ _ ⟨rfl,rfl⟩;refine jh (λσ' h'=> ∃z:Int,σ'= [some (.lst p),some (.int m),none,none,some (.int z)]/\(0<=z/\z<2147483629)/\h=h') (λC hC=>⟨_,rfl,_,_,hp,rfl,by decide,.inr ⟨by decide,by decide⟩,by decide,hC _ _ ⟨_,rfl,⟨G0f _ (by decide),G0u _ (by decide)⟩,rfl⟩⟩) ?_;rintro _ _ ⟨z,rfl,⟨z0,z1⟩,rfl⟩;refine jh (λσ' h'=> ∃y:Int,σ'= [some (.lst p),some (.int m),none,none,some (.int y)]/\h=h') (λC hC=>⟨_,rfl,_,rfl,.inl ⟨Int.lt_of_lt_of_le (by decide) z0,Int.lt_trans z1 (by decide)⟩,by decide,hC _ _ ⟨_,rfl,rfl⟩⟩) ?_;rintro _ _ ⟨y,rfl,rfl⟩;refine jh (λσ' h'=> ∃x:Int,σ'= [some (.lst p),some (.int m),none,none,some (.int y)]/\0<=x/\h'=yL h p [.int x,.int fl]) (λC hC=>⟨_,rfl,.inr ⟨by decide,by decide⟩,by decide,_,rfl,p,0,_,0,rfl,rfl,hp,rfl,hC _ _ ⟨_,rfl,G0f _ (by decide),rfl⟩⟩) ?_;rintro _ _ ⟨x,rfl,x0,rfl⟩;exact⟨_,rfl,_,_,je,rfl,⟨by decide,by decide⟩,_,rfl,hm,_,Sub.refl _,q (x / 32%m) x (G0f _ (Int.ne_of_gt hm)) (G0u _ hm) x0⟩
theorem Ge (Z:Zs mg)(F:Fun K "_law_whole" "_law_whole" Jk f fd):FnOk P w K mg base CX0 (n+1) f fd ["_law_thing"] (LSp K wm):=by
 refine F.okJ QL (λds h Q q=>by obtain⟨d,nm,e,hn,q⟩:=q;subst e;rfl) _ (λcdv A outer s H E hr=>(jg (zC (Lk (Yj (T:= "int") (by decide) rfl Z.isinstance rfl Z.int (by decide +kernel) (jv 0)) (BZ (jcv (Yj (T:= "bool") (by decide) rfl Z.isinstance rfl Z.bool (by decide +kernel) (jv 0)))))))) ?_;intro ds h Q q;obtain⟨d,nm,e,hn,q⟩:=q;subst e;simp only [Fd,FP,dIs,Fc,zU,R9,E1,D2,S4,B0,T8,N8,L9,D.bl.injEq,FQ,Me,A5,hn];cases d<;>cases hn<;>exact⟨h,Sub.refl h,q⟩
def Cz (c:Str)(n:Nat):List D:=((CN13.map λd=>c==d).take n).map D.bl
def SQ (c:Str):List PyData:=(CN13.map λd=>c==d).map PyData.bool
def wordsD:List D:=(["table","place","number","order","set","walk","lengths","way","apart","row","tables","text","great"]:List Str).map D.str
variable {h:HD}
theorem Ab: ∀bs:List Bool,ToPs h (bs.map D.bl) (bs.map PyData.bool)
 | []=>rfl
 |b::bs=>⟨_,_,rfl,rfl,Ab bs⟩
theorem zY {l:List Bool}{j:Nat}(h:(l.take j).all (!·)=true){m:Nat}{y:PyData}(hm:m<j)(e:(l.map PyData.bool)[m]? =some y):PyData.eqv y (.bool true)=false:=by
 rw [P1] at e;obtain⟨b,e1,rfl⟩:=W6.mp e;have:=R5.mp h b (G5 (i:=m) (by rw [O6 hm];exact e1));cases b with
 |true=>cases this
 |false=>rfl
theorem jb3 {c:Str}(hc:c∈CN): ∃j:Nat,j<10/\(SQ c)[j]? =some (.bool true)/\(∀m y,m<j->(SQ c)[m]? =some y->PyData.eqv y (.bool true)=false)/\atI wordsD (j:Int)=some (D.str (Wx c))/\((SQ c).countP λz=>PyData.eqv z (.bool true))=1:=by
 simp only [CN,P4,S8,K4] at hc;rcases hc with rfl|rfl|rfl|rfl|rfl|rfl|rfl|rfl|rfl|rfl
 ·exact⟨0,by decide,rfl,λm y=>zY rfl,rfl,rfl⟩
 ·exact⟨1,by decide,rfl,λm y=>zY rfl,rfl,rfl⟩
 ·exact⟨2,by decide,rfl,λm y=>zY rfl,rfl,rfl⟩
 ·exact⟨3,by decide,rfl,λm y=>zY rfl,rfl,rfl⟩
 ·exact⟨4,by decide,rfl,λm y=>zY rfl,rfl,rfl⟩
 ·exact⟨5,by decide,rfl,λm y=>zY rfl,rfl,rfl⟩
 ·exact⟨6,by decide,rfl,λm y=>zY rfl,rfl,rfl⟩
 ·exact⟨7,by decide,rfl,λm y=>zY rfl,rfl,rfl⟩
 ·exact⟨8,by decide,rfl,λm y=>zY rfl,rfl,rfl⟩
 ·exact⟨9,by decide,rfl,λm y=>zY rfl,rfl,rfl⟩
theorem Gf (Z:Zs mg)(Ex:Exc K mg)(F:Fun K "_law_kind" "_law_kind" ZO f fd):FnOkU P w K mg base CX0 (n+1) f fd ["_law_e"] (LSp K (Oo mg)):=by
 obtain⟨D_NoOrder,m_NoOrder⟩:=Ex.cls "NoOrder" (by decide);obtain⟨D_NoNumber,m_NoNumber⟩:=Ex.cls "NoNumber" (by decide);obtain⟨D_NoPlace,m_NoPlace⟩:=Ex.cls "NoPlace" (by decide);obtain⟨D_NoTable,m_NoTable⟩:=Ex.cls "NoTable" (by decide);obtain⟨D_NoLengths,m_NoLengths⟩:=Ex.cls "NoLengths" (by decide);obtain⟨D_NoWalk,m_NoWalk⟩:=Ex.cls "NoWalk" (by decide);obtain⟨D_NoSet,m_NoSet⟩:=Ex.cls "NoSet" (by decide);obtain⟨D_NoRow,m_NoRow⟩:=Ex.cls "NoRow" (by decide);obtain⟨D_Apart,m_Apart⟩:=Ex.cls "Apart" (by decide);obtain⟨D_NoWay,m_NoWay⟩:=Ex.cls "NoWay" (by decide);obtain⟨D_TooGreat,m_TooGreat⟩:=Ex.cls "TooGreat" (by decide);obtain⟨D_NoText,m_NoText⟩:=Ex.cls "NoText" (by decide);obtain⟨D_NoTables,m_NoTables⟩:=Ex.cls "NoTables" (by decide);refine F.okJU ww (λds h Q q=>by obtain⟨c,C,e,hc,hm,q⟩:=q;subst e;rfl) _ (λcdv A outer s H E hr=>(jf (yg (i:=1) ww.nd rfl (Or.inl rfl) (Yc (jac (Cr rfl Z.isinstance rfl m_NoTable (jv 0)) (by exact(jac (Cr rfl Z.isinstance rfl m_NoPlace (jv 0)) (by exact(jac (Cr rfl Z.isinstance rfl m_NoNumber (jv 0)) (by exact(jac (Cr rfl Z.isinstance rfl m_NoOrder (jv 0)) jc))))))))) (by exact(jf (yg (i:=1) ww.nd rfl (Or.inl rfl) (jop wv (jv 1) (Yc (jac (Cr rfl Z.isinstance rfl m_NoSet (jv 0)) (by exact(jac (Cr rfl Z.isinstance rfl m_NoWalk (jv 0)) (by exact(jac (Cr rfl Z.isinstance rfl m_NoLengths (jv 0)) jc)))))))) (by exact(jf (yg (i:=1) ww.nd rfl (Or.inl rfl) (jop wv (jv 1) (Yc (jac (Cr rfl Z.isinstance rfl m_NoWay (jv 0)) (by exact(jac (Cr rfl Z.isinstance rfl m_Apart (jv 0)) (by exact(jac (Cr rfl Z.isinstance rfl m_NoRow (jv 0)) jc)))))))) (by exact(jf (yg (i:=1) ww.nd rfl (Or.inl rfl) (jop wv (jv 1) (Yc (jac (Cr rfl Z.isinstance rfl m_NoTables (jv 0)) (by exact(jac (Cr rfl Z.isinstance rfl m_NoText (jv 0)) (by exact(jac (Cr rfl Z.isinstance rfl m_TooGreat (jv 0)) jc)))))))) (by exact(jf (vQ (jpt (XJ (wO (wN (jdq (T:= "ValueError") rfl Z.isinstance rfl Ex.ve (by decide +kernel) (jv 0)))) (Bc (zf oq_ne (jdp hr.units (jv 1) jbl) jx (jz _))))) (jg (zC XI)) jH) (by exact(jf (yg (i:=2) ww.nd rfl (Or.inl rfl) (Yc (jac XI (by exact(jac XI (by exact(jac XI (by exact(jac XI (by exact(jac XI (by exact(jac XI (by exact(jac XI (by exact(jac XI (by exact(jac XI (by exact(jac XI jc))))))))))))))))))))) (by exact(jg (zC (jix (jop wv (jv 2) (Yc (jac XI (by exact(jac XI (by exact(jac XI jc))))))) (jbM hr.units (jv 1) jbl) (λ_ _=>rfl))))))))))))))))) ?_;intro ds h Q q;obtain⟨c,C,e,hc,hm,q⟩:=q;subst e;have kit: ∀d∈CN13,∀D,mg d=some (.ref D)->PySem.W.kitOne K (.ref C) (.ref D)=some (c==d):=λd hd D hD=>Ex.kit c hc d hd C D hm hD
 have ek:=Ex.ek c hc C hm;have kv:=Ex.val c hc C hm;refine jh (λσ' h'=> ∃p,σ'= [some (.exc C),some (.lst p),none]/\Sub h h'/\h' p=some (Cz c 4)) (λC2 hC=>⟨_,rfl,C,_,rfl,ek,kit _ (by decide) _ m_NoTable,_,rfl,C,_,rfl,ek,kit _ (by decide) _ m_NoPlace,_,rfl,C,_,rfl,ek,kit _ (by decide) _ m_NoNumber,_,rfl,C,_,rfl,ek,kit _ (by decide) _ m_NoOrder,(by show 4<=sizeLine;decide),λp e=>hC _ _ ⟨p,rfl,Sub.newAt (Sub.refl h) e,je⟩⟩) ?_;rintro _ h1 ⟨p,rfl,sb,k1⟩;refine jh (λσ' h'=> ∃p,σ'= [some (.exc C),some (.lst p),none]/\Sub h h'/\h' p=some (Cz c 7)) (λC2 hC=>⟨_,rfl,_,rfl,C,_,rfl,ek,kit _ (by decide) _ m_NoSet,_,rfl,C,_,rfl,ek,kit _ (by decide) _ m_NoWalk,_,rfl,C,_,rfl,ek,kit _ (by decide) _ m_NoLengths,(by show 3<=sizeLine;decide),λp2 e2=>⟨_,_,jn k1 e2,je,(by show 7<=sizeLine;decide),λp3 e3=>hC _ _ ⟨p3,rfl,Sub.newAt (Sub.newAt sb e2) e3,je⟩⟩⟩) ?_;rintro _ h1 ⟨p,rfl,sb,k1⟩;refine jh (λσ' h'=> ∃p,σ'= [some (.exc C),some (.lst p),none]/\Sub h h'/\h' p=some (Cz c 10)) (λC2 hC=>⟨_,rfl,_,rfl,C,_,rfl,ek,kit _ (by decide) _ m_NoWay,_,rfl,C,_,rfl,ek,kit _ (by decide) _ m_Apart,_,rfl,C,_,rfl,ek,kit _ (by decide) _ m_NoRow,(by show 3<=sizeLine;decide),λp2 e2=>⟨_,_,jn k1 e2,je,(by show 10<=sizeLine;decide),λp3 e3=>hC _ _ ⟨p3,rfl,Sub.newAt (Sub.newAt sb e2) e3,je⟩⟩⟩) ?_;rintro _ h1 ⟨p,rfl,sb,k1⟩;refine jh (λσ' h'=> ∃p,σ'= [some (.exc C),some (.lst p),none]/\Sub h h'/\h' p=some (Cz c 13)) (λC2 hC=>⟨_,rfl,_,rfl,C,_,rfl,ek,kit _ (by decide) _ m_NoTables,_,rfl,C,_,rfl,ek,kit _ (by decide) _ m_NoText,_,rfl,C,_,rfl,ek,kit _ (by decide) _ m_TooGreat,(by show 3<=sizeLine;decide),λp2 e2=>⟨_,_,jn k1 e2,je,(by show 13<=sizeLine;decide),λp3 e3=>hC _ _ ⟨p3,rfl,Sub.newAt (Sub.newAt sb e2) e3,je⟩⟩⟩) ?_;rintro _ h1 ⟨p,rfl,sb,k1⟩;have hpG: ∀h':HD,h' p=some (Cz c 13)->ToP h' (.lst p) (.list (SQ c)):=λh' k=>⟨p,_,rfl,k,Ab _⟩
 obtain⟨j,hj,hz,hno,hw,hcnt⟩:=jb3 hc;refine jh (λσ' h'=>σ'= [some (.exc C),some (.lst p),none]/\h1=h') (λC2 hC=>⟨_,rfl,C,_,rfl,ek,kv,_,rfl,wx ⟨_,rfl,p,rfl,.bool true,_,hpG h1 k1,rfl,rfl,rfl,by simp [PyData.depth],_,rfl,?_⟩⟩) ?_
 ·rw [hcnt];exact wx (hC _ _ ⟨rfl,rfl⟩)
 rintro _ _ ⟨rfl,rfl⟩;refine jh (λσ' h'=> ∃w,σ'= [some (.exc C),some (.lst p),some (.lst w)]/\Sub h1 h'/\h' p=some (Cz c 13)/\h' w=some (wordsD.take 10)) (λC2 hC=>⟨(by show 10<=sizeLine;decide),λw e=>hC _ _ ⟨w,rfl,Sub.newAt (Sub.refl h1) e,jn k1 e,je⟩⟩) ?_;rintro _ h2 ⟨w,rfl,sb2,kp2,kw⟩;exact⟨_,rfl,(by show 3<=sizeLine;decide),λp4 e4=>⟨_,_,jn kw e4,je,(by show 13<=sizeLine;decide),λp5 e5=>⟨_,rfl,p,rfl,.bool true,_,j,_,hpG _ (jn (jn kp2 e4) e5),rfl,rfl,rfl,by simp [PyData.depth],by omega,hz,rfl,hno,_,_,je,hw,_,Sub.refl _,q _ (Sub.newAt (Sub.newAt (sb.trans sb2) e4) e5)⟩⟩⟩
theorem km (Z:Zs mg)(Ex:Exc K mg)(F:Fun K "_law_said" "_law_said" ZP f fd)(CU:Oj P w K mg base n "_law_kind" ["_law_e"] (Oo mg)):FnOkS P w K mg base CX0 (n+2) f fd ["_law_call"] (Bo P w K mg base n):=by
 obtain⟨gU,gdU,GU,bGU,kGU,mGU⟩:=CU;obtain⟨pe,hpe,hex⟩:=Ex.pe;refine KM F Vb rfl rfl rfl rfl rfl hpe hex _ (λcdv A outer s H E x hr=>jf (yg (i:=3) Vb.nd rfl (Or.inl rfl) (qN GU hr rfl mGU kGU bGU (jac (jv 2) jc))) (jf (vQ (zf (LK hr.units) (jv 3) (wP (jac XI (jac XI jc))) (by with_unfolding_all rfl)) (jg XL) jH) (jf (vQ (zf oq_eq (jv 3) XI (jz _)) (jg XL) jH) (jg (zC (wP (jac (jv 3) jc))))))) ?_;intro c hc C h Qd hm q;refine⟨_,rfl,c,C,rfl,hc,hm,λh' sb=> ?_⟩;refine⟨_,rfl,(by show 2<=sizeLine;decide),.str (Wx c),[.str "tables",.str "text"],rfl,.inr ⟨_,rfl,⟨_,_,rfl,rfl,_,_,rfl,rfl,rfl⟩⟩,?_,by decide +kernel,by simp [PyData.depth],_,rfl,?_⟩
 ·simp only [CN,P4,S8,K4] at hc;rcases hc with rfl|rfl|rfl|rfl|rfl|rfl|rfl|rfl|rfl|rfl<;>decide +kernel
 have e1:((false !=List.any [PyData.str "tables",PyData.str "text"] λz=>PyData.eqv z (.str (Wx c))))=false:=by
  simp only [CN,P4,S8,K4] at hc;rcases hc with rfl|rfl|rfl|rfl|rfl|rfl|rfl|rfl|rfl|rfl<;>rfl
 rw [e1];refine wx ⟨_,rfl,_,rfl,?_⟩;have e2:decide (Wx c= "great")=false:=by
  simp only [CN,P4,S8,K4] at hc;rcases hc with rfl|rfl|rfl|rfl|rfl|rfl|rfl|rfl|rfl|rfl<;>rfl
 rw [e2];exact wx ⟨_,rfl,(by show 1<=sizeLine;decide),h,sb,q⟩
def YX:RDn:=λds h Q=> ∃p l fl,ds= [.lst p]/\h p=some [.int l,.int fl]/\0<=l/\ ∀ (k:Nat) l',1<=k->k<=6->0<=l'->Q (.int (k:Int)) (yL h p [.int l',.int fl])
theorem DL (Z:Zs mg)(F:Fun K "_law_size" "_law_size" ZQ f fd)(yJ:jp P w K mg base n "_law_draw" ["_law_pen_here","_law_many"] yQ):FnOk P w K mg base CX0 (n+1) f fd ["_law_pen_here"] (LSp K YX):=by
 obtain⟨WS,Zo,jZ,jQ,jR,jS⟩:=yJ;refine F.okJ Dz (λds h Q q=>by obtain⟨p,l,fl,e,hp,h0,q⟩:=q;subst e;rfl) _ (λcdv A outer s H E hr=>(jg (zC (jix (Yc (jac jx (by exact(jac jx (by exact(jac jx (by exact(jac jx (by exact(jac jx (by exact(jac jx (by exact(jac jx (by exact(jac jx (by exact(jac jx (by exact(jac jx (by exact(jac jx (by exact(jac jx jc)))))))))))))))))))))))) (jy jZ hr rfl jS jR jQ (jac (jv 0) (by exact(jac jx jc)))) (λ_ _=>rfl))))) ?_;intro ds h Q q;obtain⟨p,l,fl,e,hp,h0,q⟩:=q;subst e;simp only [Fd,dOp,HG,yf,dC,VP,D2,S4,dCB,Fc,zU,R9,E1,B0,T8,N8,L9,ixD,Me,A5];refine⟨by decide,λp1 e1=>⟨p,l,fl,12,rfl,jn hp e1,h0,by decide,by decide,λr l' r0 r1 l0=> ?_⟩⟩;obtain⟨d,hd,ed⟩:=Qo (xs:= [D.int 1,D.int 2,D.int 3,D.int 4,D.int 5,D.int 3,D.int 4,D.int 2,D.int 6,D.int 5,D.int 4,D.int 3]) r0 r1;refine⟨_,d,jG (zc hp e1) je,ed,_,Sub.both (Sub.newAt (Sub.refl h) e1),?_⟩;have q': ∀k:Nat,1<=k->k<=6->Q (.int (k:Int)) (yL h p [.int l',.int fl]):=λk a b=>q k l' a b l0
 simp only [P4,S8,K4] at hd;rcases hd with e|e|e|e|e|e|e|e|e|e|e|e<;>subst e
 ·exact q' 1 (by decide) (by decide)
 ·exact q' 2 (by decide) (by decide)
 ·exact q' 3 (by decide) (by decide)
 ·exact q' 4 (by decide) (by decide)
 ·exact q' 5 (by decide) (by decide)
 ·exact q' 3 (by decide) (by decide)
 ·exact q' 4 (by decide) (by decide)
 ·exact q' 2 (by decide) (by decide)
 ·exact q' 6 (by decide) (by decide)
 ·exact q' 5 (by decide) (by decide)
 ·exact q' 4 (by decide) (by decide)
 ·exact q' 3 (by decide) (by decide)
def WK:RDn:=λds h Q=> ∃p l fl,∃k:Nat,ds= [.lst p,.int (k:Int)]/\h p=some [.int l,.int fl]/\0<=l/\1<=k/\k<=6/\ ∀T l',GoodTab k T->0<=l'->Q (jw T) (yL h p [.int l',.int fl])
theorem Gg (Z:Zs mg)(F:Fun K "_law_table" "_law_table" Jl f fd)(yJ:jp P w K mg base n "_law_draw" ["_law_pen_here","_law_many"] yQ):FnOk P w K mg base CX0 (n+1) f fd ["_law_pen_here","_law_size_here"] (LSp K WK):=by
 obtain⟨WS,Zo,jZ,jQ,jR,jS⟩:=yJ;refine F.okJ jE (λds h Q q=>by obtain⟨p,l,fl,k,e,hp,h0,hk1,hk6,q⟩:=q;subst e;rfl) _ (λcdv A outer s H E hr=>(jf (jdd (i:=2) (j:=3) rfl jE.nd rfl rfl (by decide) rfl rfl (jac (jy jZ hr rfl jS jR jQ (jac (jv 0) (by exact(jac jx jc)))) (by exact(jac (jix (Yc (jac jx (by exact(jac jx (by exact(jac jx jc)))))) (jy jZ hr rfl jS jR jQ (jac (jv 0) (by exact(jac jx jc)))) (λ_ _=>rfl)) jc))) rfl) (by exact(jf (yg (i:=4) jE.nd rfl (Or.inl rfl) (jix (Yc (jac jx (by exact(jac jx (by exact(jac jx (by exact(jac (jop Tv jx jx) jc)))))))) (jy jZ hr rfl jS jR jQ (jac (jv 0) (by exact(jac jx jc)))) (λ_ _=>rfl))) (by exact(jf (yg (i:=5) jE.nd rfl (Or.inl rfl) (Yc jc)) (by exact(jf (Mf T0 rfl (Zz rfl Z.range (jac (jv 1) jc)) (yh (i:=6) jE.nd rfl (Or.inl rfl)) (jf (yg (i:=7) jE.nd rfl (Or.inl rfl) (Yc jc)) (by exact(jf (Mf T0 rfl (Zz rfl Z.range (jac (jv 1) jc)) (yh (i:=8) jE.nd rfl (Or.inl rfl)) (jf (yg (i:=9) jE.nd rfl (Or.inl rfl) (Qr oq_eq (jy jZ hr rfl jS jR jQ (jac (jv 0) (by exact(jac (jv 3) jc)))) jx (jz _))) (by exact(jf (vQ (zf PP (jv 2) jx (jz _)) (jg (yg (i:=9) jE.nd rfl (Or.inl rfl) (jor (Qr oq_eq (jv 8) (jop Wn (jop wv (jv 6) jx) (jv 1)) (jz _)) (BZ (Lk (jv 9) (BZ (Qr (Ba hr.units) (jy jZ hr rfl jS jR jQ (jac (jv 0) (by exact(jac jx jc)))) (jv 2) (jz _)))))))) jH) (by exact(jf (vQ (zf oq_eq (jv 2) jx (jz _)) (jg (yg (i:=9) jE.nd rfl (Or.inl rfl) (jor (Lk (jv 9) (BZ (Qr oq_eq (jop Wn (jop Wm (jv 8) (jv 6)) jx) jx (jz _)))) (BZ (Qr (Ba hr.units) (jv 8) (jop wv (jv 6) jx) (jz _)))))) jH) (by exact(jf (vQ (zf oq_eq (jv 2) jx (jz _)) (jg (yg (i:=9) jE.nd rfl (Or.inl rfl) (Lk (jv 9) (BZ (Qr Ez (jv 8) (jv 6) (jz _)))))) jH) (by exact(jg (vo (Kj (jv 7) (jop Yh (zg FZ rfl Z.int (by decide +kernel) (jac (jv 9) jc)) (jop wv jx (jy jZ hr rfl jS jR jQ (jac (jv 0) (by exact(jac (jv 4) jc)))))))))))))))))) (by exact(jg (vo (Kj (jv 5) (zg cq_tuple rfl Z.tuple (by decide +kernel) (jac (jv 7) jc)))))))))) (by exact(jg (zC (zg cq_tuple rfl Z.tuple (by decide +kernel) (jac (jv 5) jc))))))))))))) ?_;intro ds h Q q;obtain⟨p,l,fl,k,e,hp,h0,hk1,hk6,q⟩:=q;subst e;refine jh (λσ' h'=> ∃way o l2,σ'= [some (.lst p),some (.int (k:Int)),some (.int way),some (.int o),none,none,none,none,none,none]/\0<o/\o<1000/\0<=l2/\h' p=some [.int l2,.int fl]/\But p h h') (λC hC=>⟨_,rfl,p,l,fl,6,rfl,hp,h0,by decide,by decide,λway l1 w0 w1 l10=>⟨(by show 3<=sizeLine;decide),λp1 e1=>⟨_,rfl,p,l1,fl,3,rfl,jn je e1,l10,by decide,by decide,λr l2 r0 r1 l20=> ?_⟩⟩⟩) ?_
 ·obtain⟨oft,ho,eo⟩:=Qo (xs:= [D.int 2,D.int 3,D.int 5]) r0 r1;obtain⟨o,e,o1,o2⟩: ∃o:Int,oft= .int o/\0<o/\o<1000:=by
   simp only [P4,S8,K4] at ho;rcases ho with e|e|e<;>exact⟨_,e,by decide,by decide⟩
  subst e;exact⟨_,_,jG (zc je e1) je,eo,_,_,rfl,hC _ _ ⟨way,o,l2,rfl,o1,o2,l20,je,((But.upd).new e1).put⟩⟩
 rintro _ h1 ⟨way,o,l2,rfl,o1,o2,l20,kA,bA⟩;refine jh (λσ' h'=> ∃m l3,σ'= [some (.lst p),some (.int (k:Int)),some (.int way),some (.int o),some (.int m),none,none,none,none,none]/\0<m/\m<=1000000/\0<=l3/\h' p=some [.int l3,.int fl]/\But p h h') (λC hC=>⟨⟨by decide,by decide,by decide⟩,(by show 4<=sizeLine;decide),λp1 e1=>⟨_,rfl,p,l2,fl,4,rfl,jn kA e1,l20,by decide,by decide,λr l3 r0 r1 l30=> ?_⟩⟩) ?_
 ·obtain⟨most,ho,eo⟩:=Qo (xs:= [D.int 1,D.int 1,D.int 3,D.int (10^Int.toNat 6)]) r0 r1;obtain⟨m,e,m1,m2⟩: ∃o:Int,most= .int o/\0<o/\o<=1000000:=by
   simp only [P4,S8,K4] at ho;rcases ho with e|e|e|e<;>exact⟨_,e,by decide,by decide⟩
  subst e;exact⟨_,_,jG (zc kA e1) je,eo,hC _ _ ⟨m,l3,rfl,m1,m2,l30,je,(bA.new e1).put⟩⟩
 clear kA bA;rintro _ h2 ⟨m,l3,rfl,m1,m2,l30,kB,bB⟩;refine jh (λσ' h'=> ∃R,σ'= [some (.lst p),some (.int (k:Int)),some (.int way),some (.int o),some (.int m),some (.lst R),none,none,none,none]/\R≠p/\h R=none/\h' R=some []/\h' p=some [.int l3,.int fl]/\But p h h') (λC hC=>⟨(by show 0<=sizeLine;decide),λR eR=>hC _ _ ⟨R,rfl,zc kB eR,Lh bB eR (zc kB eR),je,jn kB eR,bB.new eR⟩⟩) ?_;clear kB bB;rintro _ h3 ⟨R,rfl,nR,fR,kR,kC,bC⟩;refine jh (λσ' h'=> ∃a b c d l4 rows,σ'= [some (.lst p),some (.int (k:Int)),some (.int way),some (.int o),some (.int m),some (.lst R),a,b,c,d]/\0<=l4/\h' p=some [.int l4,.int fl]/\h' R=some (rows.map JQ)/\But p h h'/\GoodTab k rows) (λC hC=> ?_) (λσ' h' ⟨a,b,c,d,l4,rows,e,l40,kD,kE,bD,g⟩=>by subst e;exact⟨_,rfl,_,kE,_,bD.sub kD,q rows l4 g l40⟩);refine Yi k (λi σ' h'=> ∃a b c d l4 rows,σ'= [some (.lst p),some (.int (k:Int)),some (.int way),some (.int o),some (.int m),some (.lst R),a,b,c,d]/\0<=l4/\h' p=some [.int l4,.int fl]/\h' R=some (rows.map JQ)/\But p h h'/\rows.length=i/\ ∀r∈rows,Mv k r) (by omega) (λR' r=>⟨_,rfl,r⟩)
  ⟨none,none,none,none,l3,[],rfl,l30,kC,kR,bC,rfl,λr hr=>nomatch hr⟩ (λσ' h' z=>hC _ _ z) ?_
 clear kC kR bC;rintro i _ h4 hi ⟨a,b,c,d,l4,rows,rfl,l40,kD,kE,bD,g1,g2⟩;refine jh (λσ' h'=> ∃S,σ'= [some (.lst p),some (.int (k:Int)),some (.int way),some (.int o),some (.int m),some (.lst R),some (.int (i:Int)),some (.lst S),c,d]/\S≠p/\S≠R/\h S=none/\h' S=some []/\h' p=some [.int l4,.int fl]/\h' R=some (rows.map JQ)/\But p h h') (λC hC=>⟨(by show 0<=sizeLine;decide),λS eS=>hC _ _ ⟨S,rfl,zc kD eS,zc kE eS,Lh bD eS (zc kD eS),je,jn kD eS,jn kE eS,bD.new eS⟩⟩) ?_;clear kD kE bD;rintro _ h5 ⟨S,rfl,nS,nSR,fS,kS,kD,kE,bD⟩;refine jh (λσ' h'=> ∃c d l5 row,σ'= [some (.lst p),some (.int (k:Int)),some (.int way),some (.int o),some (.int m),some (.lst R),some (.int (i:Int)),some (.lst S),c,d]/\0<=l5/\h' p=some [.int l5,.int fl]/\h' R=some (rows.map JQ)/\h' S=some (row.map D.int)/\But p h h'/\Mv k row) (λC hC=> ?_) ?_
 rotate_left
 ·rintro _ h6 ⟨c,d,l5,row,rfl,l50,kD,kE,kF,bD,g⟩;refine⟨_,rfl,R,rfl,_,rfl,_,kF,_,kE,?_,_,Sub.refl _,by omega,_,_,_,_,l5,rows++ [row],rfl,l50,jG (Ne.symm nR) kD,?_,bD.putNew fR,by rw [G8,g1];rfl,?_⟩
  ·rw [G2];exact C9 (show rows.length<=1000 by omega) (by decide)
  ·rw [je,B1];rfl
  ·intro r hr;rcases D6.mp hr with z|z
   ·exact g2 r z
   ·rw [G7.mp z];exact g
 refine Yi k (λj σ' h'=> ∃c d l5 row,σ'= [some (.lst p),some (.int (k:Int)),some (.int way),some (.int o),some (.int m),some (.lst R),some (.int (i:Int)),some (.lst S),c,d]/\0<=l5/\h' p=some [.int l5,.int fl]/\h' R=some (rows.map JQ)/\h' S=some (row.map D.int)/\But p h h'/\row.length=j/\ ∀x∈row,0<=x/\x<=1000000) (by omega) (λR' r=>⟨_,rfl,r⟩)
  ⟨_,_,l4,[],rfl,l40,kD,kE,kS,bD,rfl,λr hr=>nomatch hr⟩ (λσ' h' z=>hC _ _ z) ?_
 clear kD kE kS bD;rintro j _ h6 hj ⟨c,d,l5,row,rfl,l50,kD,kE,kF,bD,g1',g2'⟩;refine jh (λσ' h'=> ∃ (g:Bool) (l6:Int),σ'= [some (.lst p),some (.int (k:Int)),some (.int way),some (.int o),some (.int m),some (.lst R),some (.int (i:Int)),some (.lst S),some (.int (j:Int)),some (.bl g)]/\0<=l6/\h' p=some [.int l6,.int fl]/\h' R=some (rows.map JQ)/\h' S=some (row.map D.int)/\But p h h') (λC hC=>⟨_,rfl,_,rfl,p,l5,fl,o,rfl,kD,l50,o1,by omega,λr l6 r0 r1 l60=>hC _ _ ⟨_,l6,rfl,l60,je,jG nR kE,jG nS kF,bD.put⟩⟩) ?_;clear kD kE kF bD;rintro _ _ ⟨g,l6,rfl,l60,kD,kE,kF,bD⟩;refine jh (λσ' h'=> ∃ (g:Bool) (l6:Int),σ'= [some (.lst p),some (.int (k:Int)),some (.int way),some (.int o),some (.int m),some (.lst R),some (.int (i:Int)),some (.lst S),some (.int (j:Int)),some (.bl g)]/\0<=l6/\h' p=some [.int l6,.int fl]/\h' R=some (rows.map JQ)/\h' S=some (row.map D.int)/\But p h h') (λC hC=>⟨_,rfl,_,rfl,Mm (λ_=>⟨_,rfl,_,rfl,_,rfl,by omega,_,rfl,Mm (λ_=>hC _ _ ⟨_,l6,rfl,l60,kD,kE,kF,bD⟩) λ_=>⟨_,rfl,_,rfl,Mm (λ_=>⟨_,rfl,p,l6,fl,2,rfl,kD,l60,by decide,by decide,λr l7 r0 r1 l70=>⟨_,rfl,hC _ _ ⟨_,l7,rfl,l70,je,jG nR kE,jG nS kF,bD.put⟩⟩⟩) λ_=>hC _ _ ⟨_,l6,rfl,l60,kD,kE,kF,bD⟩⟩⟩) λ_=>hC _ _ ⟨_,l6,rfl,l60,kD,kE,kF,bD⟩⟩) ?_;clear kD kE kF bD;rintro _ _ ⟨g,l6,rfl,l60,kD,kE,kF,bD⟩;refine jh (λσ' h'=> ∃ (g:Bool) (l6:Int),σ'= [some (.lst p),some (.int (k:Int)),some (.int way),some (.int o),some (.int m),some (.lst R),some (.int (i:Int)),some (.lst S),some (.int (j:Int)),some (.bl g)]/\0<=l6/\h' p=some [.int l6,.int fl]/\h' R=some (rows.map JQ)/\h' S=some (row.map D.int)/\But p h h') (λC hC=>⟨_,rfl,_,rfl,Mm (λ_=>⟨_,rfl,_,rfl,Mm (λ_=>⟨_,rfl,_,rfl,by decide,_,rfl,Mm (λ_=>hC _ _ ⟨_,l6,rfl,l60,kD,kE,kF,bD⟩) λ_=>⟨_,rfl,_,rfl,hC _ _ ⟨_,l6,rfl,l60,kD,kE,kF,bD⟩⟩⟩) λ_=>⟨_,rfl,Mm (λ_=>hC _ _ ⟨_,l6,rfl,l60,kD,kE,kF,bD⟩) λ_=>⟨_,rfl,_,rfl,hC _ _ ⟨_,l6,rfl,l60,kD,kE,kF,bD⟩⟩⟩⟩) λ_=>hC _ _ ⟨_,l6,rfl,l60,kD,kE,kF,bD⟩⟩) ?_;clear kD kE kF bD;rintro _ _ ⟨g,l6,rfl,l60,kD,kE,kF,bD⟩;refine jh (λσ' h'=> ∃ (g:Bool) (l6:Int),σ'= [some (.lst p),some (.int (k:Int)),some (.int way),some (.int o),some (.int m),some (.lst R),some (.int (i:Int)),some (.lst S),some (.int (j:Int)),some (.bl g)]/\0<=l6/\h' p=some [.int l6,.int fl]/\h' R=some (rows.map JQ)/\h' S=some (row.map D.int)/\But p h h') (λC hC=>⟨_,rfl,_,rfl,Mm (λ_=>⟨_,rfl,_,rfl,Mm (λ_=>⟨_,rfl,_,rfl,hC _ _ ⟨_,l6,rfl,l60,kD,kE,kF,bD⟩⟩) λ_=>hC _ _ ⟨_,l6,rfl,l60,kD,kE,kF,bD⟩⟩) λ_=>hC _ _ ⟨_,l6,rfl,l60,kD,kE,kF,bD⟩⟩) ?_;clear kD kE kF bD;rintro _ _ ⟨g,l6,rfl,l60,kD,kE,kF,bD⟩;have gi: ∀x r:Int,0<=r->r<m->x=0\/x=1->CMul x (1+r)/\0<=x*(1+r)/\x*(1+r)<=1000000:=λx r r0 r1 hx=>by
  rcases hx with e|e<;>subst e
  ·exact⟨.inl ⟨by decide,by decide⟩,by omega,by omega⟩
  ·exact⟨.inl ⟨by decide,by decide⟩,by omega,by omega⟩
 refine⟨_,rfl,S,rfl,_,rfl,_,rfl,_,rfl,p,l6,fl,m,rfl,kD,l60,m1,by omega,λr l7 r0 r1 l70=> ?_⟩;have gg:=gi (if g=true then 1 else 0) r r0 r1 (by cases g<;>decide);refine⟨gg.1,_,jG nS kF,?_,_,Sub.refl _,by omega,_,_,l7,row++ [(if g=true then 1 else 0)*(1+r)],rfl,l70,jG (Ne.symm nS) je,jG (Ne.symm nSR) (jG nR kE),?_,(bD.put).putNew fS,by rw [G8,g1'];rfl,?_⟩
 ·rw [G2];exact C9 (show row.length<=1000 by omega) (by decide)
 ·rw [je,B1];rfl
 ·intro x hx;rcases D6.mp hx with z|z
  ·exact g2' x z
  ·rw [G7.mp z];exact gg.2
def WL:RDn:=λds h Q=> ∃T U,∃n e f:Nat,ds= [jw T,jw U]/\Sq n e T/\Sq n f U/\e+f<=1000000/\n<=6/\Q (jw (ZA n T U)) h
theorem Gh (Z:Zs mg)(F:Fun K "_law_times" "_law_times" Jm f fd):FnOk P w K mg base CX0 (n+1) f fd ["_law_one","_law_other"] (LSp K WL):=by
 refine F.okJ zQ (λds h Q q=>by obtain⟨T,U,k,b,f,e,hT,hU,hb,h6,q⟩:=q;subst e;rfl) _ (λcdv A outer s H E hr=>(jf (yg (i:=2) zQ.nd rfl (by first|exact Or.inr rfl|exact Or.inl rfl) (jA zn rfl Z.len S5 (jac (jv 0) jc))) (by exact(jf (yg (i:=3) zQ.nd rfl (Or.inl rfl) (Yc jc)) (by exact(jf (Mf T0 rfl (zS (jv 0)) (yh (i:=4) zQ.nd rfl (by first|exact Or.inr rfl|exact Or.inl rfl)) (jg (vo (Kj (jv 3) (zg zw rfl Z.tuple (by decide +kernel) (jac (jlc (i:=5) (js:= [5]) rfl (ji (by rfl)) (Zz rfl Z.range (jac (jv 2) jc)) (by decide) zQ.nd rfl (by first|exact Or.inl rfl|exact Or.inr rfl) (λX' hX=>jD) (λX' hX=>by obtain⟨C,s₀,H₀,ex,rfl⟩:=hX;exact(jA (Mt rfl) rfl Z.sum (by decide +kernel) (jac (jlc (i:=6) (js:= [6]) rfl (ji (by rfl)) (Zz rfl Z.range (jac (jv 2) jc)) (by decide) zQ.nd rfl (by first|exact Or.inl rfl|exact Or.inr rfl) (λX' hX=>jD) (λX' hX=>by obtain⟨C,s₀,H₀,ex,rfl⟩:=hX;exact(jop Lp (jix (jv 4) (jv 6) (λ_ _=>rfl)) (jix (jix (jv 1) (jv 6) (λ_ _=>rfl)) (jv 5) (λ_ _=>rfl))))) jc)))) jc)))))) (by exact(jg (zC (zg cq_tuple rfl Z.tuple (by decide +kernel) (jac (jv 3) jc))))))))))) ?_;intro ds h Q q;obtain⟨T,U,k,b,f,e,hT,hU,hb,h6,q⟩:=q;subst e;refine jh (λσ' h'=>σ'= [some (jw T),some (jw U),some (.int (k:Int)),none,none,none,none]/\h=h') (λC hC=>⟨_,rfl,hC _ _ ⟨by rw [G2,hT.len];rfl,rfl⟩⟩) ?_;rintro _ _ ⟨rfl,rfl⟩;refine jh (λσ' h'=> ∃R,σ'= [some (jw T),some (jw U),some (.int (k:Int)),some (.lst R),none,none,none]/\h R=none/\h' R=some []/\Sub h h') (λC hC=> ?_) ?_
 ·exact⟨(by show 0<=sizeLine;decide),λR eR=>hC _ _ ⟨R,rfl,eR,je,Sub.newAt (Sub.refl h) eR⟩⟩
 rintro _ h1 ⟨R,rfl,fR,kR,sb⟩;refine jh (λσ' h'=> ∃a b c,σ'= [some (jw T),some (jw U),some (.int (k:Int)),some (.lst R),a,b,c]/\h' R=some ((ZA k T U).map JQ)/\Sub h h') (λC hC=> ?_) ?_
 ·refine Wp (j:=λ_=>some (T.map JQ)) (T.map JQ) (λi σ' h'=> ∃a b c,σ'= [some (jw T),some (jw U),some (.int (k:Int)),some (.lst R),a,b,c]/\h' R=some ((T.take i).map λr=>D.tup ((List.range k).map λj=> .int (jT k λm=>r.getD m 0*ent U m j)))/\Sub h h') (λR' r=>⟨_,rfl,r⟩) (λ_ _ _ _=>rfl) ⟨_,_,_,rfl,kR,sb⟩ ?_ ?_
  ·rintro σ' h' ⟨a,b,c,e,kR2,sb2⟩;refine hC _ _ ⟨a,b,c,e,?_,sb2⟩;rw [G2,Y2,Bg hT] at kR2;exact kR2
  rintro i d _ h2 hd ⟨a,b',c,rfl,kR2,sb2⟩;rw [P1] at hd;cases hx:T[i]? with
  |none=>rw [hx] at hd;cases hd
  |some r=>
   rw [hx] at hd;cases hd;have hr:=G5 hx;have hil:i<T.length:=(G3.mp hx).1;refine⟨_,rfl,R,rfl,?_⟩;refine AH (List.range k) (λj=> .int (j:Int)) (λj=> .int (jT k λm=>r.getD m 0*ent U m j)) (by rw [P8];omega) rfl (λR rr=>⟨_,rfl,(k:Int),rfl,by omega,by omega,rr⟩) (λj hj Q'' q''=> ?_) ?_
   ·refine jbI (List.range k) (λm=> .int (m:Int)) (λm=>r.getD m 0*ent U m j) (by rw [P8];omega) rfl (λR rr=>⟨_,rfl,(k:Int),rfl,by omega,by omega,rr⟩) (λm hm Q3 q3=> ?_) q'';have hm':=D1.mp hm;have hj':=D1.mp hj;refine⟨_,rfl,_,rfl,_,ZD (hT.row r hr) hm',_,rfl,_,rfl,_,ZC hU hm',_,rfl,_,ZD (hU.row _ (Sq.getRow hU hm')) hj',?_,q3⟩;refine Bf (e:=b) (f:=f) ?_ (hU.ent_nn hm' hj') (by omega);have hm2:m<r.length:=by rw [hT.row r hr];exact hm'
    have e1:r.getD m 0=r[m]:=by rw [D9,G0 hm2];rfl
    rw [e1];exact⟨hT.nn r hr _ (S9 hm2),hT.bit r hr _ (S9 hm2)⟩
   ·refine⟨_,kR2,?_,_,Sub.refl _,by rw [G2];omega,_,_,_,rfl,?_,?_⟩
    ·rw [G2,R0];exact C9 (show min i T.length<=1000 by rw [hT.len];omega) (by decide)
    ·rw [je,M1,hx,B1];rfl
    ·intro x ds e;rw [zT (λw=>by subst w;rw [fR] at e;cases e)];exact sb2 x ds e
 rintro _ h3 ⟨a,b,c,rfl,kR3,sb3⟩;exact⟨_,rfl,_,kR3,_,sb3,q⟩
def Zi:RDn:=λds h Q=> ∃T,∃n e:Nat,ds= [jw T]/\Sq n e T/\n<=6/\Q (jw (jK n T)) h
theorem Xc (Z:Zs mg)(F:Fun K "_law_marked" "_law_marked" vC f fd):FnOk P w K mg base CX0 (n+1) f fd ["_law_table_here"] (LSp K Zi):=by
 refine F.okJ yZ (λds h Q q=>by obtain⟨T,k,b,e,hT,h6,q⟩:=q;subst e;rfl) _ (λcdv A outer s H E hr=>(jg (zC (zg zw rfl Z.tuple (by decide +kernel) (jac (jlc (i:=1) (js:= [1]) rfl (ji (by rfl)) (zS (jv 0)) (by decide) yZ.nd rfl (by first|exact Or.inl rfl|exact Or.inr rfl) (λX' hX=>jD) (λX' hX=>by obtain⟨C,s₀,H₀,ex,rfl⟩:=hX;exact(zg zw rfl Z.tuple (by decide +kernel) (jac (jlc (i:=2) (js:= [2]) rfl (ji (by rfl)) (zS (jv 1)) (by decide) yZ.nd rfl (by first|exact Or.inl rfl|exact Or.inr rfl) (λX' hX=>jD) (λX' hX=>by obtain⟨C,s₀,H₀,ex,rfl⟩:=hX;exact(zg FZ rfl Z.int (by decide +kernel) (jac (Qr FX (jv 2) jx (jz _)) jc)))) jc)))) jc))))) ?_;intro ds h Q q;obtain⟨T,k,b,e,hT,h6,q⟩:=q;subst e;refine AH T JQ (λr=> .tup (r.map λx=> .int (if x≠0 then 1 else 0))) (by rw [hT.len];omega) rfl (λR r=>⟨_,rfl,r⟩) (λr hr Q' q'=> ?_) ⟨h,Sub.refl h,?_⟩
 ·refine AH r D.int (λx=> .int (if x≠0 then 1 else 0)) (by rw [hT.row r hr];omega) rfl (λR r=>⟨_,rfl,r⟩) (λx hx Q'' q''=>⟨_,rfl,?_⟩) q';show Q'' (.int (if decide (x>0)=true then 1 else 0)) h;have e:(if decide (x>0)=true then (1:Int) else 0)=if x≠0 then 1 else 0:=by
   have:=hT.nn r hr x hx
   by_cases z:x=0
   ·subst z;rfl
   ·rw [if_pos z,if_pos (P0 (by omega))]
  rw [e];exact q''
 ·rw [Lq,<-Lr hT];exact q
def Zj:RDn:=λds h Q=> ∃T,∃n e:Nat,ds= [jw T]/\Sq n e T/\1<=n/\n<=6/\Q (.bl (zh T)) h
theorem Xd (Z:Zs mg)(F:Fun K "_law_filled" "_law_filled" vD f fd):FnOk P w K mg base CX0 (n+1) f fd ["_law_table_here"] (LSp K Zj):=by
 refine F.okJ Zu (λds h Q q=>by obtain⟨T,k,b,e,hT,h1,h6,q⟩:=q;subst e;rfl) _ (λcdv A outer s H E hr=>(jg (zC (Qr FX (jA (LP rfl) rfl Z.min (by decide +kernel) (jac (jlc (i:=1) (js:= [1]) rfl (ji (by rfl)) (zS (jv 0)) (by decide) Zu.nd rfl (by first|exact Or.inl rfl|exact Or.inr rfl) (λX' hX=>jD) (λX' hX=>by obtain⟨C,s₀,H₀,ex,rfl⟩:=hX;exact(jA (LP rfl) rfl Z.min (by decide +kernel) (jac (jv 1) jc)))) jc)) jx (jz _))))) ?_;intro ds h Q q;obtain⟨T,k,b,e,hT,h1,h6,q⟩:=q;subst e;have ne: ∀r∈T,r≠ []:=λr hr z=>by have:=hT.row r hr;rw [z] at this;simp at this;omega
 refine jdk T JQ YN (by rw [hT.len];omega) rfl (λR r=>⟨_,rfl,r⟩) (λr hr Q' q'=>⟨_,rfl,Kv (ne r hr) λm m1 m2=>by rw [LQ m1 m2];exact q'⟩) ?_ (λm m1 m2=>⟨h,Sub.refl h,?_⟩)
 ·intro z;have:=hT.len;rw [z] at this;simp at this;omega
 ·show Q (.bl (decide (m>0))) h;rw [QB hT ne m1 m2];exact q
def WM:RDn:=λds h Q=> ∃T,∃n e:Nat,∃o,ds= [jw T]/\Sq n e T/\1<=n/\n<=6/\e<=1000/\Fst n T o/\Q (kT o) h
theorem Gi (Z:Zs mg)(F:Fun K "_law_first" "_law_first" Jn f fd)(Go:jp P w K mg base n "_law_marked" ["_law_table_here"] Zi)(Gm:jp P w K mg base n "_law_filled" ["_law_table_here"] Zj)(DR:jp P w K mg base n "_law_times" ["_law_one","_law_other"] WL):FnOk P w K mg base CX0 (n+1) f fd ["_law_table_here"] (LSp K WM):=by
 obtain⟨Aj,Fl,WO,Zl,Zp,Zr⟩:=Go;obtain⟨Ah,Fj,Gs,Xl,Xs,Xw⟩:=Gm;obtain⟨AO,Au,Rf,GA,GY,Pl⟩:=DR;refine F.okJ wI (λds h Q q=>by obtain⟨T,k,b,o,e,hT,h1,h6,hb,ho,q⟩:=q;subst e;rfl) _ (λcdv A outer s H E hr=>(jf (yg (i:=1) wI.nd rfl (Or.inl rfl) (jy WO hr rfl Zr Zp Zl (jac (jv 0) jc))) (by exact(jf (yg (i:=2) wI.nd rfl (Or.inl rfl) (jv 1)) (by exact(jf (Mf T0 rfl (jbK rfl Z.range (jac jx (by exact(jac jx jc)))) (yh (i:=3) wI.nd rfl (Or.inl rfl)) (jf (vQ (wN (jy Gs hr rfl Xw Xs Xl (jac (jv 2) jc))) (jg (zC (jv 3))) jH) (by exact(jg (yg (i:=2) wI.nd rfl (Or.inl rfl) (jy WO hr rfl Zr Zp Zl (jac (jy Rf hr rfl Pl GY GA (jac (jv 2) (by exact(jac (jv 1) jc)))) jc))))))) (by exact(jg (zC BY))))))))) ?_;intro ds h Q q;obtain⟨T,k,b,o,e,hT,h1,h6,hb,ho,q⟩:=q;subst e;have hn:k<=8:=by omega
 refine jh (λσ' h'=>σ'= [some (jw T),some (jw (jK k T)),none,none]/\h=h') (λC hC=>⟨_,rfl,T,k,b,rfl,hT,h6,hC _ _ ⟨rfl,rfl⟩⟩) ?_;rintro _ _ ⟨rfl,rfl⟩;refine jh (λσ' h'=>σ'= [some (jw T),some (jw (jK k T)),some (jw (jK k T)),none]/\h=h') (λC hC=>⟨_,rfl,hC _ _ ⟨rfl,rfl⟩⟩) ?_;rintro _ _ ⟨rfl,rfl⟩;refine jh (λσ' h'=>o=none/\Sub h h') (λC hC=> ?_) ?_
 ·refine EV (h1:=h) 1 30 (λi σ' h2=> ∃a,σ'= [some (jw T),some (jw (jK k T)),some (jw (wy k T i)),a]/\h=h2/\ ∀m,m<i->zh (wL k T (m+1))=false) (by decide) (by decide) (by decide) (λR r=>r) ⟨none,rfl,rfl,λm hm=>absurd hm (Nat.not_lt_zero _)⟩ (λσ' h2 ⟨a,e,eh,lo⟩=>hC _ _ ⟨BH ho lo,eh ▸ Sub.refl _⟩) ?_;rintro i _ _ hi ⟨a,rfl,rfl,lo⟩;show FT _ _ _ [some (jw T),some (jw (jK k T)),some (jw (wy k T i)),some (.int (1+(i:Int)))] h;refine jh (λσ' h'=>σ'= [some (jw T),some (jw (jK k T)),some (jw (wy k T i)),some (.int (1+(i:Int)))]/\h=h'/\zh (wL k T (i+1))=false) (λC2 hC2=> ?_) ?_
  ·refine⟨_,rfl,wy k T i,k,1,rfl,vq k T i,h1,h6,_,rfl,?_⟩;rw [Vz hT hn];cases hf:zh (wL k T (i+1)) with
   |true=>
    refine Vd ⟨_,rfl,h,Sub.refl h,?_⟩;rw [OX ho hf lo] at q;have e:(1:Int)+(i:Int)=((i+1:Nat):Int):=by omega
    rw [e];exact q
   |false=>exact wx (hC2 _ _ ⟨rfl,rfl,hf⟩)
  rintro _ _ ⟨rfl,rfl,hf⟩;refine⟨_,rfl,_,rfl,wy k T i,jK k T,k,1,1,rfl,vq k T i,Sq.mark T,by decide,h6,_,k,_,rfl,(vq k T i).mul (Sq.mark T) hn,h6,_,Sub.refl _,by omega,some (.int (1+(i:Int))),?_,rfl,λm hm=> ?_⟩
  ·rw [EZ hT i];rfl
  ·by_cases z:m=i
   ·subst z;exact hf
   ·exact lo m (by omega)
 rintro _ h2 ⟨e,sb⟩;subst e;exact⟨h,sb,q⟩
theorem Gj (Z:Zs mg)(F:Fun K "_law_after" "_law_after" Jo f fd):FnOk P w K mg base CX0 (n+1) f fd ["_law_table_here","_law_some"] (LSp K yt):=by
 refine F.okJ yu (λds h Q q=>by obtain⟨T,S,k,b,e,hT,hS,h6,q⟩:=q;subst e;rfl) _ (λcdv A outer s H E hr=>(jf (yg (i:=2) yu.nd rfl (Or.inl rfl) (jA zn rfl Z.len S5 (jac (jv 0) jc))) (by exact(jg (zC (zg zw rfl Z.tuple (by decide +kernel) (jac (jlc (i:=3) (js:= [3]) rfl (ji (by rfl)) (Zz rfl Z.range (jac (jv 2) jc)) (by decide) yu.nd rfl (by first|exact Or.inl rfl|exact Or.inr rfl) (λX' hX=>by obtain⟨C,s₀,H₀,ex,rfl⟩:=hX;exact Qs (zf FX (jA (Ku rfl) rfl Z.max (by decide +kernel) (jac (jop wv (Yc (jac jx jc)) (jlc (i:=4) (js:= [4]) rfl (ji (by rfl)) (zS (jv 1)) (by decide) yu.nd rfl (by first|exact Or.inl rfl|exact Or.inr rfl) (λX' hX=>jD) (λX' hX=>by obtain⟨C,s₀,H₀,ex,rfl⟩:=hX;exact(jix (jix (jv 0) (jv 4) (λ_ _=>rfl)) (jv 3) (λ_ _=>rfl))))) jc)) jx (jz _))) (λX' hX=>by obtain⟨C,s₀,H₀,ex,rfl⟩:=hX;exact(jv 3))) jc))))))) ?_;intro ds h Q q;obtain⟨T,S,k,b,e,hT,hS,h6,q⟩:=q;subst e;have hlen:=hS.len;refine jh (λσ' h'=>σ'= [some (jw T),some (jW S),some (.int (k:Int)),none,none]/\h=h') (λC hC=>⟨_,rfl,hC _ _ ⟨by rw [G2,hT.len];rfl,rfl⟩⟩) ?_;rintro _ _ ⟨rfl,rfl⟩;refine qx (List.range k) (λj=> .int (j:Int)) (λj=> .int (j:Int)) (λj=>S.any λi=>decide (ent T i j≠0)) (by rw [P8];omega) rfl (λR r=>⟨_,rfl,(k:Int),rfl,by omega,by omega,r⟩) (λj hj Q' q'=> ?_) (λj hj hp Q' q'=>⟨_,rfl,q'⟩) ⟨h,Sub.refl h,q⟩;refine⟨(by show 1<=sizeLine;decide),λp1 e1=> ?_⟩;refine lcA S (λi=> .int (i:Int)) (λi=> .int (ent T i j)) (by omega) rfl (λR r=>⟨_,rfl,r⟩) (λi hi Q'' q''=> ?_) (λp2 e2=> ?_)
 ·have hi':=hS.lt hi;exact⟨_,rfl,_,rfl,_,ZC hT hi',_,rfl,_,ZD (hT.row _ (Sq.getRow hT hi')) (D1.mp hj),q''⟩
 ·refine⟨_,_,jn je e2,je,?_,λp3 e3=> ?_⟩
  ·simp only [G2,D2,S4];exact D7 (jL (by omega))
  refine⟨0::S.map (λi=>ent T i j),h,by simp,Sub.newAt (Sub.newAt (Sub.newAt (Sub.refl h) e1) e2) e3,.inr ⟨p3,rfl,?_⟩,λm m1 m2=>⟨_,rfl,?_⟩⟩
  ·rw [je,R9,S3];rfl
  ·show Q' (decide (m>0)) h;rw [Ce hT hS (D1.mp hj) m1 m2];exact q'
def YY:RDn:=λds h Q=> ∃n:Nat,ds= [.int (n:Int)]/\n<=6/\ ∀A h',h' A=some ((jah n).map jW)->Sub h h'->Q (.lst A) h'
theorem DM (Z:Zs mg)(F:Fun K "_law_sets" "_law_sets" ZR f fd):FnOk P w K mg base CX0 (n+1) f fd ["_law_many"] (LSp K YY):=by
 refine F.okJ yc (λds h Q q=>by obtain⟨n,e,h6,q⟩:=q;subst e;rfl) _ (λcdv A outer s H E hr=>(jf (yg (i:=1) yc.nd rfl (Or.inl rfl) (Yc (jac (wP jc) jc))) (by exact(jf (Mf T0 rfl (Zz rfl Z.range (jac (jv 0) jc)) (yh (i:=2) yc.nd rfl (by first|exact Or.inr rfl|exact Or.inl rfl)) (jg (yg (i:=1) yc.nd rfl (Or.inl rfl) (jop wv (jv 1) (jlc (i:=3) (js:= [3]) rfl (ji (by rfl)) (zS (jv 1)) (by decide) yc.nd rfl (by first|exact Or.inl rfl|exact Or.inr rfl) (λX' hX=>jD) (λX' hX=>by obtain⟨C,s₀,H₀,ex,rfl⟩:=hX;exact(jop wv (jv 3) (wP (jac (jv 2) jc))))))))) (by exact(jg (zC (jA (Cu hr) rfl Z.sorted (by decide +kernel) (jac (jv 1) jc))))))))) ?_;intro ds h Q q;obtain⟨n,e,h6,q⟩:=q;subst e;refine jh (λσ' h'=> ∃A,σ'= [some (.int (n:Int)),some (.lst A),none,none]/\h' A=some ((yM 0).map jW)/\Sub h h') (λC hC=>⟨(by show 0<=sizeLine;decide),(by show 1<=sizeLine;decide),λA eA=>hC _ _ ⟨A,rfl,je,Sub.newAt (Sub.refl h) eA⟩⟩) ?_;rintro _ h2 ⟨A0,rfl,kA0,sb0⟩;refine jh (λσ' h'=> ∃A a b,σ'= [some (.int (n:Int)),some (.lst A),a,b]/\h' A=some ((yM n).map jW)/\Sub h h') (λC hC=> ?_) ?_
 ·refine Yi n (λt σ' h'=> ∃A a b,σ'= [some (.int (n:Int)),some (.lst A),a,b]/\h' A=some ((yM t).map jW)/\Sub h h') (by omega) (λR r=>⟨_,rfl,r⟩) ⟨A0,none,none,rfl,kA0,sb0⟩ (λσ' h' z=>hC _ _ z) ?_;clear kA0 sb0;rintro t _ h3 ht ⟨A,a,b,rfl,kA,sb⟩;have l64:(yM t).length<=64:=by rw [Up];exact F4 (by decide) (show t<=6 by omega)
  refine⟨_,rfl,?_⟩;refine lcA (j:=λh=>h A) (yM t) jW (λS=>jW (S++ [t])) (by omega) kA (λR r=>⟨_,rfl,r⟩) (λS hS Q' q'=>⟨_,rfl,_,rfl,(by show 1<=sizeLine;decide),?_,?_⟩) (λF eF=> ?_)
  ·have:=(Vy hS).len;rw [G2];exact D7 (jL (by simp only [D2,S4];omega))
  ·have:jW (S++ [t])= .tup ((S.map λ(k:Nat)=>D.int (k:Int))++ [.int (t:Int)]):=by unfold jW;rw [List.map_append];rfl
   rw [this] at q';exact q'
  ·refine⟨_,_,jn kA eF,je,?_,λp3 e3=>⟨_,Sub.refl _,by omega,p3,_,_,rfl,?_,λa ds e=>jn (jn (sb a ds e) eF) e3⟩⟩
   ·rw [G2,G2];exact D7 (jL (by omega))
   ·rw [je];show _=some ((yM t++(yM t).map λS=>S++ [t]).map jW);rw [B1,S3];rfl
 rintro _ h3 ⟨A,a,b,rfl,kA,sb⟩;refine⟨_,rfl,A,(yM n).map toI,rfl,?_,?_,λp mss hp pm sr=>⟨_,Sub.refl _,q p _ (by rw [je,OO pm sr];rfl) (Sub.newAt sb hp)⟩⟩
 ·rw [kA,S3];exact congrArg some (M5 λS _=>(TR S).symm)
 ·rw [G2,Up];exact C9 (F4 (by decide) h6) (by decide)
def vL:RDn:=λds h Q=> ∃p l fl,ds= [.lst p]/\h p=some [.int l,.int fl]/\0<=l/\ ∀d l' h',okD d=true->BF d=false->But p h h'->h' p=some [.int l',.int fl]->0<=l'->Q d h'
theorem Vg (Z:Zs mg)(F:Fun K "_law_no_table" "_law_no_table" yH f fd)(yJ:jp P w K mg base n "_law_draw" ["_law_pen_here","_law_many"] yQ):FnOk P w K mg base CX0 (n+1) f fd ["_law_pen_here"] (LSp K vL):=by
 obtain⟨WS,Zo,jZ,jQ,jR,jS⟩:=yJ;refine F.okJ vP (λds h Q q=>by obtain⟨p,l,fl,e,hp,h0,q⟩:=q;subst e;rfl) _ (λcdv A outer s H E hr=>(jf (yg (i:=1) vP.nd rfl (Or.inl rfl) (Yc (jac BY (by exact(jac jx (by exact(jac (wP jc) (by exact(jac (Yc jc) (by exact(jac (wP (jac jx jc)) (by exact(jac (wP (jac (wP jc) jc)) (by exact(jac (wP (jac (wP (jac jx jc)) (by exact(jac (wP (jac jx jc)) jc)))) (by exact(jac (wP (jac (wP (jac jx (by exact(jac jx jc)))) jc)) (by exact(jac (wP (jac (wP (jac (Kk jx) jc)) jc)) (by exact(jac (wP (jac (wP (jac jbl jc)) jc)) (by exact(jac (Yc (jac (Yc (jac jx jc)) jc)) (by exact(jac (wP (jac (wP (jac BY jc)) jc)) (by exact(jac XI jc))))))))))))))))))))))))))) (by exact(jg (zC (jix (jop wv (jv 1) (Yc (jac (wP (jac (wP (jac jbl jc)) jc)) (by exact(jac (jop Yh (wP (jac (jop Yh (wP (jac jx jc)) jx) jc)) jx) (by exact(jac (wP (jac (Yc (jac jx jc)) jc)) (by exact(jac (wP (jac (wP (jac (wP (jac jx jc)) jc)) jc)) (by exact(jac qw jc))))))))))) (jy jZ hr rfl jS jR jQ (jac (jv 0) (by exact(jac jx jc)))) (λ_ _=>rfl))))))) ?_;intro ds h Q q;obtain⟨p,l,fl,e,hp,h0,q⟩:=q;subst e;simp only [FT,HM,HG,yf,dC,xk,VP,S4,D2,dUn,jbC,Fd,dOp,Fc,zU,R9,E1,List.replicate,B0,T8,List.set_cons_succ,List.set_cons_zero,J8,N8,L9,jbB,NZ,jcp,dCB,ixD,A5,Me]
 repeat (first|intro _|refine⟨by decide,?_⟩|refine⟨⟨by decide,by decide,by decide⟩,?_⟩)
 rename_i p1 e1 p2 e2 p3 e3 p4 e4 p5 e5 p6 e6;have k1:=jn (M:= []) hp e1;have k2:=jn (M:= [.int 1]) k1 e2;have k3:=jn (M:= [.lst p2]) k2 e3;refine⟨_,_,jn (jn je e5) e6,je,by simp only [D2,S4];decide,λp7 e7=> ?_⟩;refine⟨p,l,fl,18,rfl,jn (jn (jn (jn k3 e4) e5) e6) e7,h0,by decide,by decide,λr l' r0 r1 l0=> ?_⟩;obtain⟨d,hd,ed⟩:=Qo (xs:= [D.non,D.int 0,D.tup [],D.lst p1,D.tup [D.int 0],D.tup [D.tup []],D.tup [D.tup [D.int 1],D.tup [D.int 1]],D.tup [D.tup [D.int 0,D.int 1]],D.tup [D.tup [D.int (-1)]],D.tup [D.tup [D.bl true]],D.lst p3,D.tup [D.tup [D.non]],D.str (Str.ofString "1")]++ [D.tup [D.tup [D.bl false]],D.tup (List.replicate (Int.toNat 7) [D.tup (List.replicate (Int.toNat 7) [D.int 0]).flatten]).flatten,D.tup [D.lst p5],D.tup [D.tup [D.tup [D.int 0]]],D.dic (Str.ofString "a") 1]) r0 r1;refine⟨_,d,jG (zc (jn (jn (jn k3 e4) e5) e6) e7) je,ed,_,Sub.refl _,q d l' _ (QM ?_ d hd) ?_ (((((((But.refl p h).new e1).new e2).new e3).new e4).new e5).new e6 |>.new e7).put je l0⟩
 ·rfl
 ·simp only [D6,P4,S8,K4] at hd;rcases hd with (e|e|e|e|e|e|e|e|e|e|e|e|e)|e|e|e|e|e<;>subst e<;>rfl
def Jt:RDn:=λds h Q=> ∃T d,∃n e:Nat,ds= [jw T,d]/\Sq n e T/\1<=n/\n<=6/\okD d=true/\Th h d/\Q (.bl (Dp T n d)) h
theorem Ux (Z:Zs mg)(F:Fun K "_law_is_walk" "_law_is_walk" yY f fd)(ya:jp P w K mg base n "_law_whole" ["_law_thing"] wm):FnOk P w K mg base CX0 (n+1) f fd ["_law_table_here","_law_thing"] (LSp K Jt):=by
 obtain⟨Zn,JC,zK,zk,zl,zm⟩:=ya;refine F.okJ yK (λds h Q q=>by obtain⟨T,d,n,bb,e,hT,n1,n6,ok,th,q⟩:=q;subst e;rfl) _ (λcdv A outer s H E hr=>(jf (vQ (jpt (XJ (wO (wN (Yj (T:= "tuple") (by decide) rfl Z.isinstance rfl Z.tuple (by decide +kernel) (jv 1)))) (Bc (zf (Ba hr.units) (jv 1) (wP jc) (jz _))))) (jg (zC jbl)) jH) (by exact(jf (vQ (wO (wN (jA (Wo rfl) rfl Z.all N4 (jac (jlc (i:=2) (js:= [2]) rfl (ji (by rfl)) (zS (jv 1)) (by decide) yK.nd rfl (by first|exact Or.inl rfl|exact Or.inr rfl) (λX' hX=>jD) (λX' hX=>by obtain⟨C,s₀,H₀,ex,rfl⟩:=hX;exact(Lk (jy zK hr rfl zm zl zk (jac (jv 2) jc)) (BZ (Tz PQ PP jx (jv 2) (jA zn rfl Z.len S5 (jac (jv 0) jc))))))) jc)))) (jg (zC jbl)) jH) (by exact(jg (zC (jA (Wo rfl) rfl Z.all N4 (jac (jaB (i:=3) (j:=4) (js:= [3,4]) rfl (ji (by rfl)) (LJ rfl Z.zip (jac (jv 1) (by exact(jac (Da (jv 1) (Yk jx) Qt) jc)))) (by decide) (by decide) (by decide) yK.nd rfl rfl (by first|exact Or.inl rfl|exact Or.inr rfl) (by first|exact Or.inl rfl|exact Or.inr rfl) (λX' hX=>jD) (λX' hX=>by obtain⟨C,s₀,H₀,ex,rfl⟩:=hX;exact(Qr FX (jix (jix (jv 0) (jv 3) (λ_ _=>rfl)) (jv 4) (λ_ _=>rfl)) jx (jz _)))) jc))))))))) ?_;intro ds h Q q;obtain⟨T,d,n,bb,e,hT,n1,n6,ok,th,q⟩:=q;subst e;have hlen:(((T.map JQ).length:Nat):Int)=(n:Int):=by rw [G2,hT.len]
 obtain⟨nm,hn⟩:=vF ok;cases d with
 |tup es=>
  cases hn;obtain⟨hl,ht⟩:=QN ok;obtain⟨ps,tp,sp,cp⟩: ∃ps,(∀h,ToPs h es ps)/\PySem.SeqAt.shaped (.tuple ps)=true/\True:=by
   rcases th with ⟨p,tp,sp,cp⟩|⟨a,_,e,_⟩|e
   ·cases p with
    |tuple ps=>
     refine⟨ps,λh=> ?_,?_,True.intro⟩
     ·obtain⟨ds,e,t⟩:=(show ∃ds,D.tup es= .tup ds/\ToPs h ds ps from tp h);cases e;exact t
     ·unfold PySem.SeqAt.shaped;rw [cp,decide_eq_true (Nat.le_trans sp.dp (by decide))];rfl
    |none=>exact D.noConfusion (show D.tup es= .non from tp h)
    |bool b=>exact D.noConfusion (show D.tup es= .bl b from tp h)
    |int b=>exact D.noConfusion (show D.tup es= .int b from tp h)
    |str b=>exact D.noConfusion (show D.tup es= .str b from tp h)
    |list b=>obtain⟨a,ds,e,_⟩:=(show ∃a ds,D.tup es= .lst a/\h a=some ds/\ToPs h ds b from tp h);cases e
    |dict b=>exact(show False from tp h).elim
   ·cases e
   ·cases e
  refine jh (λσ' h'=>σ'= [some (jw T),some (.tup es),none,none,none]/\h=h'/\es≠ []) (λC hC=> ?_) ?_
  ·refine⟨_,rfl,"tuple",rfl,_,rfl,wx ⟨_,rfl,(by show 0<=sizeLine;decide),.tuple ps,.tuple [],⟨_,rfl,tp h⟩,⟨_,rfl,rfl⟩,sp,rfl,_,rfl,?_⟩⟩;cases ps with
   |nil=>
    have:es= []:=tp h;subst this;exact Vd ⟨h,Sub.refl h,q⟩
   |cons p ps=>
    obtain⟨_,_,e,_⟩:=tp h;exact wx (hC _ _ ⟨rfl,rfl,by rw [e];simp⟩)
  rintro _ _ ⟨rfl,rfl,hne⟩;refine jh (λσ' h'=>σ'= [some (jw T),some (.tup es),none,none,none]/\h=h'/\vw (.tup es) n=true) (λC hC=> ?_) ?_
  ·refine jaC es (λx=>x) (λx=>zH x 0 ((n:Int)-1)) hl (by rw [List.map_id']) (λR r=>⟨_,rfl,r⟩) (λx hx Q' q'=> ?_) ⟨_,rfl,?_⟩
   ·obtain⟨nx,hnx⟩:=vF (ht x hx);refine⟨_,rfl,x,nx,rfl,hnx,BD x,rfl,?_⟩;cases x with
    |int y=>
     refine Vd ⟨_,rfl,_,rfl,?_⟩;show if decide (0<=y)=true then _ else _
     by_cases h1:0<=y
     ·rw [P0 h1];simp only [zH,P0 h1,Z5] at q';rw [<-qE,<-hlen] at q';exact Vd ⟨_,rfl,q'⟩
     ·rw [R4 h1];simp only [zH,R4 h1,G1b] at q';exact wx q'
    |_=>exact wx q'
   ·show if (!vw (.tup es) n)=true then _ else _
    cases hp:vw (.tup es) n with
    |false=>
     have:Dp T n (.tup es)=false:=by unfold Dp;rw [hp];rfl
     rw [this] at q;exact Vd ⟨h,Sub.refl h,q⟩
    |true=>exact wx (hC _ _ ⟨rfl,rfl,hp⟩)
  rintro _ _ ⟨rfl,rfl,hp⟩;obtain⟨e1,hW⟩:=Ck hp;have e2:Dp T n (.tup es)=Do T (vJ (.tup es)):=by unfold Dp;rw [hp];rfl
  rw [e2] at q;generalize vJ (.tup es)=W at e1 hW q;have ees:es=W.map λ(k:Nat)=>D.int (k:Int):=by injection e1
  subst ees;rw [G2] at hl;have hne2:W.isEmpty=false:=by
   cases W with
   |nil=>exact absurd rfl hne
   |cons _ _=>rfl
  have e3:Do T W=(W.zip (W.drop 1)).all λp=>decide (ent T p.1 p.2>0):=by unfold Do;rw [hne2];rfl
  rw [e3] at q;refine qB (j:=λ_=>some (Cd (W.map λ(k:Nat)=>D.int (k:Int)) (VS (W.map λ(k:Nat)=>D.int (k:Int)) (some 1) none))) (W.zip (W.drop 1)) (λp=> .int (p.1:Int)) (λp=> .int (p.2:Int)) (λp=>decide (ent T p.1 p.2>0)) (by rw [W0];omega) (congrArg some (LX W)) (λR r=>⟨_,rfl,_,rfl,_,rfl,_,_,rfl,r⟩) (λp hp Q' q'=> ?_) ⟨h,Sub.refl h,q⟩;have hi:=hW _ (I0 hp).1;have hj:=hW _ (T9 (I0 hp).2);exact⟨_,rfl,_,rfl,_,ZC hT hi,_,rfl,_,ZD (hT.row _ (Sq.getRow hT hi)) hj,q'⟩
 |_=>cases hn<;>exact⟨_,rfl,_,rfl,_,rfl,Vd (Vd ⟨h,Sub.refl h,q⟩)⟩
theorem encO:Enc jW Dm:=⟨Yn,λS=>yB _,λS=>S1 (Jc _) (by decide),Yo⟩
theorem in_sets {S:List Nat}{P:List (List Nat)}{A:Addr}{Q:KD}(k:h A=some (P.map jW))(hS:S∈P)(q:Q (.bl false) h):inE true (jW S) (.lst A) h Q:=TF encO k λb hb=>by
 rw [show b=true from hb.mpr hS];exact q
def Zk:RDn:=λds h Q=> ∃T,∃n e k one o:Nat,ds= [jw T,.int (k:Int),Cw n T k one o]/\Sq n e T/\1<=n/\n<=6/\1<=k/\k<=60/\one<n/\o<n/\ ¬RP n T (k-1) one o/\ ∀h',Sub h h'->Q (.bl true) h'
theorem Xe (Z:Zs mg)(F:Fun K "_law_is_gap" "_law_is_gap" vE f fd)(ya:jp P w K mg base n "_law_whole" ["_law_thing"] wm)(MZ:jp P w K mg base n "_law_sets" ["_law_many"] YY)(DN:jp P w K mg base n "_law_after" ["_law_table_here","_law_some"] yt):FnOk P w K mg base CX0 (n+1) f fd ["_law_table_here","_law_k","_law_gap"] (LSp K Zk):=by
 obtain⟨Zn,JC,zK,zk,zl,zm⟩:=ya;obtain⟨SX,AX,Nl,Rm,RK,RV⟩:=MZ;obtain⟨AK,Aq,Rb,Gx,GV,Pi⟩:=DN;refine F.okJ zE (λds h Q q=>by obtain⟨T,n,b,k,one,o,e,hT,h1,h6,k1,k60,h2,ho,nr,q⟩:=q;subst e;rfl) _ (λcdv A outer s H E hr=>(jf (yg (i:=3) zE.nd rfl (Or.inl rfl) (jA zn rfl Z.len S5 (jac (jv 0) jc))) (by exact(jf (vQ (jpt (XJ (wO (wN (Yj (T:= "tuple") (by decide) rfl Z.isinstance rfl Z.tuple (by decide +kernel) (jv 2)))) (XJ (zf oq_ne (jA zn rfl Z.len S5 (jac (jv 2) jc)) jx (jz _)) (XJ (wO (wN (jy zK hr rfl zm zl zk (jac (jix (jv 2) jx (λ_ _=>rfl)) jc)))) (Bc (wO (wN (jy zK hr rfl zm zl zk (jac (jix (jv 2) jx (λ_ _=>rfl)) jc))))))))) (jg (zC jbl)) jH) (by exact(jf (vQ (jpt (XJ (wO (Mu PQ PP jx (jix (jv 2) jx (λ_ _=>rfl)) (jv 3))) (XJ (wO (Mu PQ PP jx (jix (jv 2) jx (λ_ _=>rfl)) (jv 3))) (XJ (wO (wN (Yj (T:= "tuple") (by decide) rfl Z.isinstance rfl Z.tuple (by decide +kernel) (jix (jv 2) jx (λ_ _=>rfl))))) (Bc (zf oq_ne (jA zn rfl Z.len S5 (jac (jix (jv 2) jx (λ_ _=>rfl)) jc)) (jv 1) (jz _))))))) (jg (zC jbl)) jH) (by exact(jf (Mf T0 rfl (zS (jix (jv 2) jx (λ_ _=>rfl))) (yh (i:=4) zE.nd rfl (Or.inl rfl)) (jg (vQ (jpt (XJ (zf (Qz hr.units) (jv 4) (jy Nl hr rfl RV RK Rm (jac (jv 3) jc)) (by with_unfolding_all rfl)) (Bc (wO (wN (jA (Wo rfl) rfl Z.all N4 (jac (jlc (i:=7) (js:= [7]) rfl (ji (by rfl)) (zS (jv 4)) (by decide) zE.nd rfl (by first|exact Or.inl rfl|exact Or.inr rfl) (λX' hX=>jD) (λX' hX=>by obtain⟨C,s₀,H₀,ex,rfl⟩:=hX;exact(jy zK hr rfl zm zl zk (jac (jv 7) jc)))) jc))))))) (jg (zC jbl)) jH))) (by exact(jf (vQ (jpt (XJ (zf (Qz hr.units) (jix (jv 2) jx (λ_ _=>rfl)) (jix (jix (jv 2) jx (λ_ _=>rfl)) jx (λ_ _=>rfl)) (by with_unfolding_all rfl)) (Bc (zf (LK hr.units) (jix (jv 2) jx (λ_ _=>rfl)) (jix (jix (jv 2) jx (λ_ _=>rfl)) (Kk jx) (λ_ _=>rfl)) (by with_unfolding_all rfl))))) (jg (zC jbl)) jH) (by exact(jf (Mf T0 rfl (LJ rfl Z.zip (jac (jix (jv 2) jx (λ_ _=>rfl)) (by exact(jac (Da (jix (jv 2) jx (λ_ _=>rfl)) (Yk jx) Qt) jc)))) (YL (i:=5) (j:=6) rfl zE.nd rfl rfl (Or.inl rfl) (by first|exact Or.inr rfl|exact Or.inl rfl)) (jg (vQ (wO (wN (jA (Wo rfl) rfl Z.all N4 (jac (jlc (i:=7) (js:= [7]) rfl (ji (by rfl)) (zS (jy Rb hr rfl Pi GV Gx (jac (jv 0) (by exact(jac (jv 5) jc))))) (by decide) zE.nd rfl (by first|exact Or.inl rfl|exact Or.inr rfl) (λX' hX=>jD) (λX' hX=>by obtain⟨C,s₀,H₀,ex,rfl⟩:=hX;exact(Qr (LK hr.units) (jv 7) (jv 6) (by with_unfolding_all rfl)))) jc)))) (jg (zC jbl)) jH))) (by exact(jg (zC jbl))))))))))))))) ?_;intro ds h Q q;obtain⟨T,n,b,k,one,o,e,hT,h1,h6,k1,k60,h2,ho,nr,q⟩:=q;subst e;have hn:n<=8:=by omega
 have iso:IsS n [one]:=OZ h2;have lk:((List.range k).map λt=>jW (itF (jI n T) [one] t)).length=k:=by rw [G2,P8]
 refine jh (λσ' h'=>σ'= [some (jw T),some (.int (k:Int)),some (Cw n T k one o),some (.int (n:Int)),none,none,none,none]/\h=h') (λC hC=>⟨_,rfl,hC _ _ ⟨by rw [G2,hT.len];rfl,rfl⟩⟩) ?_;rintro _ _ ⟨rfl,rfl⟩;refine jh (λσ' h'=>σ'= [some (jw T),some (.int (k:Int)),some (Cw n T k one o),some (.int (n:Int)),none,none,none,none]/\h=h') (λC hC=>⟨_,rfl,_,rfl,_,rfl,wx ⟨_,rfl,_,rfl,wx ⟨_,rfl,_,rfl,.int (one:Int),"int",rfl,rfl,_,rfl,wx ⟨_,rfl,_,rfl,.int (o:Int),"int",rfl,rfl,_,rfl,wx (hC _ _ ⟨rfl,rfl⟩)⟩⟩⟩⟩) ?_;rintro _ _ ⟨rfl,rfl⟩;refine jh (λσ' h'=>σ'= [some (jw T),some (.int (k:Int)),some (Cw n T k one o),some (.int (n:Int)),none,none,none,none]/\h=h') (λC hC=> ?_) ?_
 ·have c0: ∀x:Nat,decide ((0:Int)<=(x:Int))=true:=λx=>P0 (by omega)
  have c1: ∀x:Nat,x<n->decide ((x:Int)<(n:Int))=true:=λx hx=>P0 (by omega)
  refine⟨_,rfl,_,rfl,_,rfl,?_⟩;show if decide ((0:Int)<=(one:Int))=true then _ else _
  rw [c0 one];refine Vd ⟨_,rfl,?_⟩;show ∃c,D.bl (decide ((one:Int)<(n:Int)))=D.bl c/\_;rw [c1 one h2];refine⟨_,rfl,wx ⟨_,rfl,_,rfl,_,rfl,?_⟩⟩;show if decide ((0:Int)<=(o:Int))=true then _ else _
  rw [c0 o];refine Vd ⟨_,rfl,?_⟩;show ∃c,D.bl (decide ((o:Int)<(n:Int)))=D.bl c/\_;rw [c1 o ho];refine⟨_,rfl,wx ⟨_,rfl,_,rfl,_,rfl,_,rfl,wx ⟨_,rfl,_,rfl,_,rfl,?_⟩⟩⟩;show ∃c,D.bl (!decide ((((List.range k).map λt=>jW (itF (jI n T) [one] t)).length:Int)=(k:Int)))=D.bl c/\_;rw [lk,P0 rfl];exact⟨_,rfl,wx (hC _ _ ⟨rfl,rfl⟩)⟩
 rintro _ _ ⟨rfl,rfl⟩;refine jh (λσ' h'=> ∃a,σ'= [some (jw T),some (.int (k:Int)),some (Cw n T k one o),some (.int (n:Int)),a,none,none,none]/\Sub h h') (λC hC=> ?_) ?_
 ·refine Wp (h1:=h) (j:=λ_=>some ((List.range k).map λt=>jW (itF (jI n T) [one] t))) ((List.range k).map λt=>jW (itF (jI n T) [one] t)) (λi σ' h'=> ∃a,σ'= [some (jw T),some (.int (k:Int)),some (Cw n T k one o),some (.int (n:Int)),a,none,none,none]/\Sub h h') (λR r=>⟨_,rfl,_,rfl,r⟩) (λ_ _ _ _=>rfl) ⟨_,rfl,Sub.refl h⟩ (λσ' h' z=>hC _ _ z) ?_;rintro i d _ h3 hd ⟨a,rfl,sb⟩;have hil:=(G3.mp hd).1;obtain⟨t,ht,rfl⟩:=R3.mp (G5 hd);have hS:=iso.it (T:=T) t;have lS:=hS.len;refine⟨_,rfl,_,rfl,n,rfl,h6,λA h4 kA s4=>in_sets kA (setsS_mem.mpr hS) ⟨_,rfl,wx ?_⟩⟩;refine jaC (itF (jI n T) [one] t) (λ(j:Nat)=> .int (j:Int)) (λ_=>true) (by omega) rfl (λR r=>⟨_,rfl,r⟩) (λj hj Q' q'=>⟨_,rfl,.int (j:Int),"int",rfl,rfl,q'⟩) ?_;rw [show (itF (jI n T) [one] t).all (λ_=>true)=true from R5.mpr λ_ _=>rfl];exact⟨_,rfl,wx ⟨_,Sub.refl _,by omega,_,rfl,λx ds e=>s4 _ _ (sb _ _ e)⟩⟩
 rintro _ h3 ⟨a,rfl,sb⟩;have at0:atI ((List.range k).map λt=>jW (itF (jI n T) [one] t)) 0=some (jW [one]):=ye (j:=0) (by rw [P1,M6 (by omega)];rfl);have atL:atI ((List.range k).map λt=>jW (itF (jI n T) [one] t)) (-1)=some (jW (itF (jI n T) [one] (k-1))):=Wv k1;refine jh (λσ' h'=>σ'= [some (jw T),some (.int (k:Int)),some (Cw n T k one o),some (.int (n:Int)),a,none,none,none]/\h3=h') (λC hC=>⟨_,rfl,_,rfl,_,rfl,_,rfl,_,at0,kc ⟨_,rfl,?_⟩⟩) ?_
 ·rw [P0 (show one∈ [one] from G7.mpr rfl)];refine wx ⟨_,rfl,_,rfl,_,rfl,_,rfl,_,atL,OQ ⟨_,rfl,?_⟩⟩;rw [R4 (show ¬o∈itF (jI n T) [one] (k-1) from λz=>nr ((OY hT hn h2 (k-1) o).mp z).2)];exact wx (hC _ _ ⟨rfl,rfl⟩)
 rintro _ _ ⟨rfl,rfl⟩;refine jh (λσ' h'=> ∃c d,σ'= [some (jw T),some (.int (k:Int)),some (Cw n T k one o),some (.int (n:Int)),a,c,d,none]/\h3=h') (λC hC=> ?_) ?_
 ·refine Wp (h1:=h3) (j:=λ_=>some (Cd ((List.range k).map λt=>jW (itF (jI n T) [one] t)) (VS ((List.range k).map λt=>jW (itF (jI n T) [one] t)) (some 1) none))) (Cd ((List.range k).map λt=>jW (itF (jI n T) [one] t)) (VS ((List.range k).map λt=>jW (itF (jI n T) [one] t)) (some 1) none)) (λi σ' h'=> ∃c d,σ'= [some (jw T),some (.int (k:Int)),some (Cw n T k one o),some (.int (n:Int)),a,c,d,none]/\h3=h') (λR r=>⟨_,rfl,_,rfl,_,rfl,_,rfl,_,rfl,_,_,rfl,r⟩) (λ_ _ _ _=>rfl) ⟨_,_,rfl,rfl⟩ (λσ' h' z=>hC _ _ z) ?_;rintro i d _ _ hd ⟨c,e,rfl,rfl⟩;have hil:=(G3.mp hd).1;rw [kl] at hd;obtain⟨t,ht,rfl⟩:=R3.mp (G5 hd);have hS:=iso.it (T:=T) t;have hS1:=(iso.it (T:=T) (t+1)).len;refine⟨_,_,rfl,?_⟩;refine jaC (itF (jI n T) [one] (t+1)) (λ(j:Nat)=> .int (j:Int)) (λj=>decide (j∈itF (jI n T) [one] (t+1))) (by omega) rfl (λR r=>⟨_,rfl,_,rfl,T,_,n,b,rfl,hT,hS,h6,r⟩) (λj hj Q' q'=>⟨_,rfl,_,rfl,OQ q'⟩) ?_;rw [show (itF (jI n T) [one] (t+1)).all (λj=>decide (j∈itF (jI n T) [one] (t+1)))=true from R5.mpr λj hj=>P0 hj];exact⟨_,rfl,wx ⟨_,Sub.refl _,by omega,_,_,rfl,rfl⟩⟩
 rintro _ _ ⟨c,d,rfl,rfl⟩;exact⟨_,Sub.refl _,q _ sb⟩
theorem jan {a b:List Int}{Q:KD}(e:a=b)(q:Q (.bl false) h):neE (.tup (a.map D.int)) (.tup (b.map D.int)) h Q:=by
 subst e;exact⟨Vt a,Vt a,⟨_,rfl,vf h a⟩,⟨_,rfl,vf h a⟩,XQ _,XQ _,by rw [ME,P0 rfl];exact q⟩
theorem jao {k:Nat}{g:D}(h:Aa n T k g)(k2:2<=k): ∃one o,one<n/\o<n/\ ¬RP n T (k-1) one o/\g=Cw n T k one o:=by
 rcases h with ⟨e,_⟩|⟨one,o,_,h⟩
 ·omega
 ·exact⟨one,o,h⟩
def vM:RDn:=λds h Q=> ∃T f g,∃n e k:Nat,ds= [jw T,.tup [.int (k:Int),zX n f,g]]/\Sq n e T/\1<=n/\n<=6/\1<=k/\k<=40/\(∀i j,i<n->j<n->WalkOk T n (f i j) i j k)/\Aa n T k g/\ ∀h',Sub h h'->Q (.bl true) h'
theorem Vh (Z:Zs mg)(F:Fun K "_law_is_first" "_law_is_first" yI f fd)(ya:jp P w K mg base n "_law_whole" ["_law_thing"] wm)(Xf:jp P w K mg base n "_law_is_walk" ["_law_table_here","_law_thing"] Jt)(Gn:jp P w K mg base n "_law_is_gap" ["_law_table_here","_law_k","_law_gap"] Zk):FnOk P w K mg base CX0 (n+1) f fd ["_law_table_here","_law_thing"] (LSp K vM):=by
 obtain⟨Zn,JC,zK,zk,zl,zm⟩:=ya;obtain⟨Fg,CV,Xi,UD,UJ,UM⟩:=Xf;obtain⟨Ai,Fk,Gt,Xm,Xt,Xx⟩:=Gn;refine F.okJ zA (λds h Q q=>by obtain⟨T,f,g,n,b,k,e,hT,h1,h6,k1,k40,w,ig,q⟩:=q;subst e;rfl) _ (λcdv A outer s H E hr=>(jf (yg (i:=2) zA.nd rfl (Or.inl rfl) (jA zn rfl Z.len S5 (jac (jv 0) jc))) (by exact(jf (vQ (jpt (XJ (wO (wN (Yj (T:= "tuple") (by decide) rfl Z.isinstance rfl Z.tuple (by decide +kernel) (jv 1)))) (XJ (zf oq_ne (jA zn rfl Z.len S5 (jac (jv 1) jc)) jx (jz _)) (XJ (wO (wN (jy zK hr rfl zm zl zk (jac (jix (jv 1) jx (λ_ _=>rfl)) jc)))) (Bc (zf PP (jix (jv 1) jx (λ_ _=>rfl)) jx (jz _))))))) (jg (zC jbl)) jH) (by exact(jf (Ki (jv 1) (jbW (i:=3) (j:=4) (l:=5) rfl zA.nd rfl rfl rfl (Or.inl rfl) (Or.inl rfl) (Or.inl rfl))) (by exact(jf (vQ (jpt (XJ (wO (wN (Yj (T:= "tuple") (by decide) rfl Z.isinstance rfl Z.tuple (by decide +kernel) (jv 4)))) (Bc (zf oq_ne (jA zn rfl Z.len S5 (jac (jv 4) jc)) (jv 2) (jz _))))) (jg (zC jbl)) jH) (by exact(jf (Mf T0 rfl (Qx rfl Z.enumerate (jac (jv 4) jc)) (YL (i:=6) (j:=7) rfl zA.nd rfl rfl (Or.inl rfl) (Or.inl rfl)) (jf (vQ (jpt (XJ (wO (wN (Yj (T:= "tuple") (by decide) rfl Z.isinstance rfl Z.tuple (by decide +kernel) (jv 7)))) (Bc (zf oq_ne (jA zn rfl Z.len S5 (jac (jv 7) jc)) (jv 2) (jz _))))) (jg (zC jbl)) jH) (by exact(jg (Mf T0 rfl (Qx rfl Z.enumerate (jac (jv 7) jc)) (YL (i:=8) (j:=9) rfl zA.nd rfl rfl (Or.inl rfl) (Or.inl rfl)) (jg (vQ (jpt (XJ (wO (wN (jy Xi hr rfl UM UJ UD (jac (jv 0) (by exact(jac (jv 9) jc)))))) (Bc (zf (Bb hr.units) (wP (jac (jA zn rfl Z.len S5 (jac (jv 9) jc)) (by exact(jac (jix (jv 9) jx (λ_ _=>rfl)) (by exact(jac (jix (jv 9) (Kk jx) (λ_ _=>rfl)) jc)))))) (wP (jac (jop wv (jv 3) jx) (by exact(jac (jv 6) (by exact(jac (jv 8) jc)))))) (jz _))))) (jg (zC jbl)) jH))))))) (by exact(jf (vQ (jpt (XJ (zf oq_eq (jv 3) jx (jz _)) (Bc (zf Lj (jv 5) BY (jz _))))) (jg (zC (Lk (Qr oq_eq (jv 3) jx (jz _)) (BZ (Qr Lj (jv 5) BY (jz _)))))) jH) (by exact(jg (zC (jy Gt hr rfl Xx Xt Xm (jac (jv 0) (by exact(jac (jv 3) (by exact(jac (jv 5) jc))))))))))))))))))))) ?_;intro ds h Q q;obtain⟨T,f,g,n,b,k,e,hT,h1,h6,k1,k40,w,ig,q⟩:=q;subst e;refine jh (λσ' h'=>σ'= [some (jw T),some (.tup [.int (k:Int),zX n f,g]),some (.int (n:Int)),none,none,none,none,none,none,none]/\h=h') (λC hC=>⟨_,rfl,hC _ _ ⟨by rw [G2,hT.len];rfl,rfl⟩⟩) ?_;rintro _ _ ⟨rfl,rfl⟩;refine jh (λσ' h'=>σ'= [some (jw T),some (.tup [.int (k:Int),zX n f,g]),some (.int (n:Int)),none,none,none,none,none,none,none]/\h=h') (λC hC=>⟨_,rfl,_,rfl,_,rfl,wx ⟨_,rfl,_,rfl,wx ⟨_,rfl,_,rfl,.int (k:Int),"int",rfl,rfl,_,rfl,wx ⟨_,rfl,_,rfl,?_⟩⟩⟩⟩) ?_
 ·show ∃c,D.bl (decide ((k:Int)<1))=D.bl c/\_;rw [R4 (show ¬ (k:Int)<1 by omega)];exact⟨_,rfl,wx (hC _ _ ⟨rfl,rfl⟩)⟩
 rintro _ _ ⟨rfl,rfl⟩;refine jh (λσ' h'=>σ'= [some (jw T),some (.tup [.int (k:Int),zX n f,g]),some (.int (n:Int)),some (.int (k:Int)),some (zX n f),some g,none,none,none,none]/\h=h') (λC hC=>⟨_,rfl,_,_,_,rfl,hC _ _ ⟨rfl,rfl⟩⟩) ?_;rintro _ _ ⟨rfl,rfl⟩;refine jh (λσ' h'=>σ'= [some (jw T),some (.tup [.int (k:Int),zX n f,g]),some (.int (n:Int)),some (.int (k:Int)),some (zX n f),some g,none,none,none,none]/\h=h') (λC hC=>⟨_,rfl,_,rfl,_,rfl,wx ⟨_,rfl,_,rfl,?_⟩⟩) ?_
 ·show ∃c,D.bl (!decide (((((List.range n).map λi=>MW n (f i)).length:Nat):Int)=(n:Int)))=D.bl c/\_;rw [G2,P8,P0 rfl];exact⟨_,rfl,wx (hC _ _ ⟨rfl,rfl⟩)⟩
 rintro _ _ ⟨rfl,rfl⟩;refine jh (λσ' h'=> ∃a b c d,σ'= [some (jw T),some (.tup [.int (k:Int),zX n f,g]),some (.int (n:Int)),some (.int (k:Int)),some (zX n f),some g,a,b,c,d]/\h=h') (λC hC=> ?_) ?_
 ·refine Wp (h1:=h) (j:=λ_=>some (Vv ((List.range n).map λi=>MW n (f i)))) (Vv ((List.range n).map λi=>MW n (f i))) (λi σ' h'=> ∃a b c d,σ'= [some (jw T),some (.tup [.int (k:Int),zX n f,g]),some (.int (n:Int)),some (.int (k:Int)),some (zX n f),some g,a,b,c,d]/\h=h') (λR r=>⟨_,rfl,_,rfl,r⟩) (λ_ _ _ _=>rfl) ⟨_,_,_,_,rfl,rfl⟩ (λσ' h' z=>hC _ _ z) ?_;rintro i d _ _ hd ⟨a,b',c,e,rfl,rfl⟩;have hil:=(G3.mp hd).1;rw [Gc] at hd;obtain⟨x,hx,rfl⟩:=R3.mp (G5 hd);have hx:=D1.mp hx;refine⟨_,_,rfl,?_⟩;refine jh (λσ' h'=>σ'= [some (jw T),some (.tup [.int (k:Int),zX n f,g]),some (.int (n:Int)),some (.int (k:Int)),some (zX n f),some g,some (.int (x:Int)),some (MW n (f x)),c,e]/\h=h') (λC hC=>⟨_,rfl,_,rfl,_,rfl,wx ⟨_,rfl,_,rfl,?_⟩⟩) ?_
  ·show ∃c,D.bl (!decide (((((List.range n).map λj=>jW (f x j)).length:Nat):Int)=(n:Int)))=D.bl c/\_;rw [G2,P8,P0 rfl];exact⟨_,rfl,wx (hC _ _ ⟨rfl,rfl⟩)⟩
  rintro _ _ ⟨rfl,rfl⟩;refine Wp (h1:=h) (j:=λ_=>some (Vv ((List.range n).map λj=>jW (f x j)))) (Vv ((List.range n).map λj=>jW (f x j))) (λi σ' h'=> ∃c d,σ'= [some (jw T),some (.tup [.int (k:Int),zX n f,g]),some (.int (n:Int)),some (.int (k:Int)),some (zX n f),some g,some (.int (x:Int)),some (MW n (f x)),c,d]/\h=h') (λR r=>⟨_,rfl,_,rfl,r⟩) (λ_ _ _ _=>rfl) ⟨_,_,rfl,rfl⟩ (λσ' h' ⟨c,d,e,z⟩=>⟨_,Sub.refl _,by omega,_,_,_,_,e,z⟩) ?_;rintro i2 d _ _ hd ⟨c2,e2,rfl,rfl⟩;have hil2:=(G3.mp hd).1;rw [Gc] at hd;obtain⟨y,hy,rfl⟩:=R3.mp (G5 hd);have hy:=D1.mp hy;have W:=w x y hx hy;have okW:okD (jW (f x y))=true:=BE (by rw [G2,W.len];omega) λd hd=>by obtain⟨x,_,rfl⟩:=R3.mp hd;rfl
  have a0:atI ((f x y).map λ(k:Nat)=>D.int (k:Int)) 0=some (.int (x:Int)):=ye (j:=0) (by rw [P1,W.fst];rfl);have a1:atI ((f x y).map λ(k:Nat)=>D.int (k:Int)) (-1)=some (.int (y:Int)):=Sg (by rw [G2,W.len];omega) (by rw [G2,W.len,P1,show k+1-1=k by omega,W.lst];rfl);refine⟨_,_,rfl,?_⟩;refine⟨_,rfl,_,rfl,T,jW (f x y),n,b,rfl,hT,h1,h6,okW,(SmN.ord (m:=155) W.lt (by omega) (by rw [W.len];omega)).th,_,rfl,?_⟩;rw [W.wd];refine wx ⟨_,rfl,_,rfl,_,a0,_,rfl,_,a1,(by show 3<=sizeLine;decide),_,rfl,_,rfl,_,rfl,(by show 3<=sizeLine;decide),jan (a:= [(((f x y).map λ(k:Nat)=>D.int (k:Int)).length:Int),(x:Int),(y:Int)]) (b:= [(k:Int)+1,(x:Int),(y:Int)]) ?_ ⟨_,rfl,wx ⟨_,Sub.refl _,by omega,_,_,rfl,rfl⟩⟩⟩;rw [G2,W.len];rfl
 rintro _ _ ⟨a,b',c,d,rfl,rfl⟩
 by_cases z:k=1
 ·have eg:g= .non:=by
   rcases ig with ⟨_,e⟩|⟨_,_,m2,_⟩
   ·exact e
   ·omega
  subst eg z;exact jh (λ_ _=>False) (λC hC=>⟨_,rfl,_,rfl,Vd ⟨_,rfl,_,rfl,Vd ⟨_,rfl,_,Sub.refl _,q _ (Sub.refl h)⟩⟩⟩) (λ_ _ z=>z.elim)
 ·obtain⟨one,oo,h2,hoo,nr,rfl⟩:=jao ig (by omega);refine jh (λσ' h'=>σ'= [some (jw T),some (.tup [.int (k:Int),zX n f,Cw n T k one oo]),some (.int (n:Int)),some (.int (k:Int)),some (zX n f),some (Cw n T k one oo),a,b',c,d]/\h=h') (λC hC=>⟨_,rfl,?_⟩) ?_
  ·show ∃c,D.bl (decide ((k:Int)=1))=D.bl c/\_;rw [R4 (show ¬ (k:Int)=1 by omega)];exact⟨_,rfl,wx ⟨_,rfl,_,rfl,wx (hC _ _ ⟨rfl,rfl⟩)⟩⟩
  rintro _ _ ⟨rfl,rfl⟩;exact⟨_,rfl,_,rfl,_,rfl,T,n,b,k,one,oo,rfl,hT,h1,h6,k1,by omega,h2,hoo,nr,λh' sb=>⟨_,Sub.refl _,q h' sb⟩⟩
def WN:RDn:=λds h Q=> ∃T,∃n e:Nat,ds= [jw T]/\Sq n e T/\1<=n/\n<=6/\e<=1000/\ ∀h',Sub h h'->Q (.bl true) h'
theorem Gk (Z:Zs mg)(F:Fun K "_law_right" "_law_right" Jp f fd)(DO:jp P w K mg base n "_law_first" ["_law_table_here"] WM)(Nj:jp P w K mg base n "why_first" ["table"] YV)(Uy:jp P w K mg base n "_law_is_first" ["_law_table_here","_law_thing"] vM):FnOk P w K mg base CX0 (n+1) f fd ["_law_table_here"] (LSp K WN):=by
 obtain⟨AL,Ar,Rc,Gy,GW,Pj⟩:=DO;obtain⟨Te,Ee,Nv,Rt,RS,Mc⟩:=Nj;obtain⟨CP,BK,UA,Vk,Vn,Vp⟩:=Uy;refine F.okJ yw (λds h Q q=>by obtain⟨T,n,b,e,hT,h1,h6,hb,q⟩:=q;subst e;rfl) _ (λcdv A outer s H E hr=>(jf (yg (i:=1) yw.nd rfl (Or.inl rfl) (jy Rc hr rfl Pj GW Gy (jac (jv 0) jc))) (by exact(jf (Mf T0 rfl (Zz rfl Z.range (jac jx jc)) (yh (i:=2) yw.nd rfl (Or.inl rfl)) (jf (yg (i:=3) yw.nd rfl (Or.inl rfl) (jy Nv hr rfl Mc RS Rt (jac (jv 0) jc))) (by exact(jf (vQ (zf (Bb hr.units) (Qr Lj (jv 3) BY (jz _)) (Qr Lj (jv 1) BY (jz _)) (jz _)) (jg (zC jbl)) jH) (by exact(jg (vQ (jpt (jbG (zf EF (jv 3) BY (jz _)) (jbF (jpt (XJ (zf (Bb hr.units) (jix (jv 3) jx (λ_ _=>rfl)) (jv 1) (jz _)) (Bc (wO (wN (jy UA hr rfl Vp Vn Vk (jac (jv 0) (by exact(jac (jv 3) jc)))))))))))) (jg (zC jbl)) jH))))))) (by exact(jg (zC jbl))))))) ?_;intro ds h Q q;obtain⟨T,n,b,e,hT,h1,h6,hb,q⟩:=q;subst e;have hn:n<=8:=by omega
 obtain⟨o,ho⟩:=jal hT h1 h6;refine jh (λσ' h'=>σ'= [some (jw T),some (kT o),none,none]/\h=h') (λC hC=>⟨_,rfl,T,n,b,o,rfl,hT,h1,h6,hb,ho,hC _ _ ⟨rfl,rfl⟩⟩) ?_;rintro _ _ ⟨rfl,rfl⟩;refine jh (λσ' h'=> ∃x y,σ'= [some (jw T),some (kT o),x,y]/\Sub h h') (λC hC=> ?_) ?_
 ·refine Yi 2 (λi σ' h'=> ∃x y,σ'= [some (jw T),some (kT o),x,y]/\Sub h h') (by decide) (λR r=>r) ⟨_,_,rfl,Sub.refl h⟩ (λσ' h' z=>hC _ _ z) ?_;rintro t _ h3 ht ⟨x,y,rfl,sb⟩;cases o with
  |none=>
   refine jh (λσ' h'=>σ'= [some (jw T),some .non,some (.int (t:Int)),some .non]/\h3=h') (λC hC=>⟨_,rfl,T,n,b,none,rfl,hT,h1,h6,hb,ho,.inl ⟨rfl,hC _ _ ⟨rfl,rfl⟩⟩⟩) ?_;rintro _ _ ⟨rfl,rfl⟩;refine jh (λσ' h'=>σ'= [some (jw T),some .non,some (.int (t:Int)),some .non]/\h3=h') (λC hC=>⟨_,rfl,_,rfl,_,rfl,wx (hC _ _ ⟨rfl,rfl⟩)⟩) ?_;rintro _ _ ⟨rfl,rfl⟩;exact⟨_,rfl,_,rfl,wx (wx ⟨_,Sub.refl _,by omega,_,_,rfl,sb⟩)⟩
  |some k=>
   have k1:=ho.1;have k30:=ho.2.1;have cp: ∀i j,i<n->j<n->0<cnt T n j k i:=λi j hi hj=>(BI hT hn hj k hi).mpr (TV hT hn ho (G6 _) hi hj)
   have wk: ∀i j,i<n->j<n->WalkOk T n (wn T n j k i 0) i j k:=λi j hi hj=>jb2 hT hi hj (cp i j hi hj)
   refine jh (λσ' h'=> ∃g,Aa n T k g/\σ'= [some (jw T),some (.int (k:Int)),some (.int (t:Int)),some (.tup [.int (k:Int),zX n (λi j=>wn T n j k i 0),g])]/\h3=h') (λC hC=>⟨_,rfl,T,n,b,some k,rfl,hT,h1,h6,hb,ho,.inr ⟨k,rfl,λg ig=>hC _ _ ⟨g,ig,rfl,rfl⟩⟩⟩) ?_;rintro _ _ ⟨g,ig,rfl,rfl⟩;refine jh (λσ' h'=>σ'= [some (jw T),some (.int (k:Int)),some (.int (t:Int)),some (.tup [.int (k:Int),zX n (λi j=>wn T n j k i 0),g])]/\h3=h') (λC hC=>⟨_,rfl,_,rfl,_,rfl,wx (hC _ _ ⟨rfl,rfl⟩)⟩) ?_;rintro _ _ ⟨rfl,rfl⟩;refine⟨_,rfl,_,rfl,Vd ⟨_,rfl,_,rfl,_,rfl,?_⟩⟩;show ∃c,D.bl (!decide ((k:Int)=(k:Int)))=D.bl c/\_;rw [P0 rfl];exact⟨_,rfl,wx ⟨_,rfl,_,rfl,T,(λi j=>wn T n j k i 0),g,n,b,k,rfl,hT,h1,h6,k1,by omega,wk,ig,λh' s'=>⟨_,rfl,wx ⟨_,Sub.refl _,by omega,_,_,rfl,λa ds e=>s' _ _ (sb _ _ e)⟩⟩⟩⟩
 rintro _ h3 ⟨x,y,rfl,sb⟩;exact⟨_,Sub.refl _,q _ sb⟩
theorem jdt {w:Str}{Q:KD}(q:Q (.bl false) h)(hs:SeqAt.shaped (.tuple [.str w])=true:=by decide +kernel):neE (.tup [.str w]) (.tup [.str w]) h Q:=by
 refine⟨.tuple [.str w],.tuple [.str w],⟨_,rfl,_,_,rfl,rfl,rfl⟩,⟨_,rfl,_,_,rfl,rfl,rfl⟩,hs,hs,?_⟩;have e:PyData.eqv (.tuple [.str w]) (.tuple [.str w])=true:=by simp [PyData.eqv,PyData.eqvAll]
 rw [e];exact q
theorem jap (Z:Zs mg)(B:Bm mg base)(a:PySem.W.nsIn K mainGlobals "law" =some (some (.ref f)))(TX: ∃c P,PySem.W.tabIn K "law" =some (c,P)/\PySem.W.codeHdIn K c P=true)(F:Fun K "law" "law" MQ f fd)(DP:jp P w K mg base (n+2) "_law_right" ["_law_table_here"] WN)(MY:jp P w K mg base (n+2) "_law_cell" ["_law_script","_law_k"] YW)(CA:jp P w K mg base (n+2) "_law_pen" ["_law_cell_here"] Uw)(Na:jp P w K mg base (n+2) "_law_size" ["_law_pen_here"] YX)(DQ:jp P w K mg base (n+2) "_law_table" ["_law_pen_here","_law_size_here"] WK)(Uz:jp P w K mg base (n+2) "_law_no_table" ["_law_pen_here"] vL)(CR_why_first:ZG P w K mg base n "why_first" ["table"] WJ)(CS:qS P w K mg base n):FnOk P w K mg base CX0 ((n+2)+1) f fd ["_law_script"] (LSp K Lf):=by
 obtain⟨AM,As,YZ,WQ,WU,WW⟩:=DP;obtain⟨SW,AW,Nk,Rl,RJ,RU⟩:=MY;obtain⟨TW,Tf,CG,Nw,NK,NO⟩:=CA;obtain⟨SY,AY,Nm,Rn,RL,RW⟩:=Na;obtain⟨AN,At,Re,Gz,GX,Pk⟩:=DQ;obtain⟨CQ,BL,UB,Vl,Vo,Vq⟩:=Uz;obtain⟨AJ,Ap,Ra,Gw,GT,Ph⟩:=CR_why_first;obtain⟨gS,gdS,GS,bGS,kGS,mGS⟩:=CS;obtain⟨tc,tP,T,tH⟩:=TX;have hTK:TabK K tP:=⟨"law",by decide,tc,T⟩;refine F.okJL a T Vc (λds h Q q=>by obtain⟨ns,e,hh,hns,q⟩:=q;subst e;rfl) _ (λA outer s H E hr=>(jf (yg (i:=1) Vc.nd rfl (Or.inl rfl) (Yc (jac (wP (jac (wP (jac jx jc)) jc)) (by exact(jac (wP (jac (wP (jac jx jc)) jc)) (by exact(jac (wP (jac (wP (jac jx (by exact(jac jx jc)))) (by exact(jac (wP (jac jx (by exact(jac jx jc)))) jc)))) (by exact(jac (wP (jac (wP (jac jx (by exact(jac jx jc)))) (by exact(jac (wP (jac jx (by exact(jac jx jc)))) jc)))) (by exact(jac (wP (jac (wP (jac jx (by exact(jac jx jc)))) (by exact(jac (wP (jac jx (by exact(jac jx jc)))) jc)))) jc))))))))))) (by exact(jf (Mf T0 rfl (Ll (jop wv (jv 1) (Yc (jac (wP (jac (wP (jac jx (by exact(jac jx (by exact(jac jx jc)))))) (by exact(jac (wP (jac jx (by exact(jac jx (by exact(jac jx jc)))))) (by exact(jac (wP (jac jx (by exact(jac jx (by exact(jac jx jc)))))) jc)))))) jc)))) (yh (i:=2) Vc.nd rfl (Or.inl rfl)) (jg (vQ (wO (wN (jy YZ hr rfl WW WU WQ (jac (jv 2) jc)))) (jg (zC jbl)) jH))) (by exact(jf (Mf T0 rfl (Ll (jop wv (Yc (jac (jy Nk hr rfl RU RJ Rl (jac (jv 0) (by exact(jac jx jc)))) jc)) (Da (jv 0) (Yk jx) (Yk jx)))) (yh (i:=3) Vc.nd rfl (Or.inl rfl)) (jf (yg (i:=4) Vc.nd rfl (Or.inl rfl) (jy CG hr rfl NO NK Nw (jac (jv 3) jc))) (by exact(jf (yg (i:=5) Vc.nd rfl (Or.inl rfl) (jy Nm hr rfl RW RL Rn (jac (jv 4) jc))) (by exact(jf (Mf T0 rfl (Zz rfl Z.range (jac jx jc)) (yh (i:=6) Vc.nd rfl (Or.inl rfl)) (jg (vQ (wO (wN (jy YZ hr rfl WW WU WQ (jac (jy Re hr rfl Pk GX Gz (jac (jv 4) (by exact(jac (jv 5) jc)))) jc)))) (jg (zC jbl)) jH))) (by exact(jf (yg (i:=7) Vc.nd rfl (by first|exact Or.inr rfl|exact Or.inl rfl) (jy UB hr rfl Vq Vo Vl (jac (jv 4) jc))) (by exact(jg (vQ (zf (Bb hr.units) (jbT GS hr rfl mGS kGS bGS B rfl tH hTK (qO rfl (by decide +kernel)) (KN (by show qP _ (jd MQ)=true;decide +kernel)) (λ_ _ _ _ _ _ _ _ _ hr=>jno) (λ_ _ _ _ _ _ _ _ _ hr=>(Yr Ra hr rfl Ph GT Gw (jac (jv 7) jc)))) (wP (jac XI jc)) (jz _)) (jg (zC jbl)) jH))))))))))) (by exact(jg (zC jbl))))))))) ?_;intro ds h Q q;obtain⟨ns,e,hh,hns,q⟩:=q;subst e;refine jh (λσ' h'=> ∃q0,σ'= [some (.scr ns),some (.lst q0),none,none,none,none,none,none]/\h' q0=some ([[[(0:Int)]],[[(3:Int)]],[[(0:Int),1],[1,0]],[[(0:Int),1],[1,1]],[[(1:Int),1],[1,1]]].map jw)) (λC hC=>⟨(by show 1<=sizeLine;decide),(by show 1<=sizeLine;decide),(by show 1<=sizeLine;decide),(by show 1<=sizeLine;decide),(by show 2<=sizeLine;decide),(by show 2<=sizeLine;decide),(by show 2<=sizeLine;decide),(by show 2<=sizeLine;decide),(by show 2<=sizeLine;decide),(by show 2<=sizeLine;decide),(by show 2<=sizeLine;decide),(by show 2<=sizeLine;decide),(by show 2<=sizeLine;decide),(by show 5<=sizeLine;decide),λq0 e0=>hC _ _ ⟨q0,rfl,je⟩⟩) ?_;rintro _ h2 ⟨q0,rfl,k0⟩;refine jh (λσ' h'=> ∃b2,σ'= [some (.scr ns),some (.lst q0),b2,none,none,none,none,none]/\True) (λC hC=> ?_) ?_
 ·refine⟨_,rfl,(by show 3<=sizeLine;decide),(by show 3<=sizeLine;decide),(by show 3<=sizeLine;decide),(by show 3<=sizeLine;decide),(by show 1<=sizeLine;decide),λq1 e1=>⟨_,_,jn k0 e1,je,(by show 5+1<=sizeLine;decide),λq2 e2=>⟨q2,rfl,?_⟩⟩⟩;have ets:(([[[(0:Int)]],[[(3:Int)]],[[(0:Int),1],[1,0]],[[(0:Int),1],[1,1]],[[(1:Int),1],[1,1]]].map jw)++ [D.tup [D.tup [D.int 0,D.int 1,D.int 0],D.tup [D.int 0,D.int 0,D.int 1],D.tup [D.int 1,D.int 1,D.int 0]]])= [[[(0:Int)]],[[(3:Int)]],[[(0:Int),1],[1,0]],[[(0:Int),1],[1,1]],[[(1:Int),1],[1,1]],[[(0:Int),1,0],[0,0,1],[1,1,0]]].map jw:=rfl;rw [ets];generalize hts: [[[(0:Int)]],[[(3:Int)]],[[(0:Int),1],[1,0]],[[(0:Int),1],[1,1]],[[(1:Int),1],[1,1]],[[(0:Int),1,0],[0,0,1],[1,1,0]]].map jw=ts;have good: ∀d∈ts,∃T,∃n:Nat,d=jw T/\Sq n 3 T/\1<=n/\n<=6:=λd hd=>by
   rw [<-hts] at hd;obtain⟨T,hT,rfl⟩:=R3.mp hd;simp only [P4,S8,K4] at hT;rcases hT with e|e|e|e|e|e<;>subst e
   ·exact⟨_,1,rfl,⟨by decide,by decide,by decide,by decide⟩,by decide,by decide⟩
   ·exact⟨_,1,rfl,⟨by decide,by decide,by decide,by decide⟩,by decide,by decide⟩
   ·exact⟨_,2,rfl,⟨by decide,by decide,by decide,by decide⟩,by decide,by decide⟩
   ·exact⟨_,2,rfl,⟨by decide,by decide,by decide,by decide⟩,by decide,by decide⟩
   ·exact⟨_,2,rfl,⟨by decide,by decide,by decide,by decide⟩,by decide,by decide⟩
   ·exact⟨_,3,rfl,⟨by decide,by decide,by decide,by decide⟩,by decide,by decide⟩
  refine Wq ts (λi σ' h'=> ∃b2,σ'= [some (.scr ns),some (.lst q0),b2,none,none,none,none,none]/\h' q2=some ts) (λi σ' h' ⟨_,_,k⟩=>k) ⟨_,rfl,je⟩ (λσ' h' ⟨b2,e,_⟩=>hC _ _ ⟨b2,e,True.intro⟩) ?_;rintro j d _ h3 hj ⟨b2,rfl,k2⟩;obtain⟨T,n,rfl,hT,n1,n6⟩:=good d (G5 hj);have hjl:j<ts.length:=(G3.mp hj).1;exact⟨_,rfl,T,n,3,rfl,hT,n1,n6,by decide,λh' sb=>⟨_,rfl,wx ⟨_,Sub.refl _,by omega,_,rfl,sb _ _ k2⟩⟩⟩
 rintro _ h ⟨c2,rfl,_⟩;refine jh (λσ' h'=>True) (λC hC=> ?_) (λσ' h3 hV=>⟨h3,Sub.refl _,q h3⟩);refine⟨_,rfl,ns,0,rfl,(by decide),λn0=>⟨(by show 1<=sizeLine;decide),λp1 e1=>⟨_,rfl,_,rfl,_,rfl,λp2 e2=>⟨_,_,jn je e2,je,?_,λp3 e3=>⟨p3,rfl,?_⟩⟩⟩⟩⟩
 ·have:(VS ns (some 1) (some 5)).length<=ns.length:=by unfold VS;rw [List.length_take,List.length_drop];omega
  rw [G2];exact D7 (jL (by simp only [D2,S4];omega))
 generalize hcs:([D.int n0]++(VS ns (some 1) (some 5)).map D.int)=cs;have hint: ∀d∈cs,∃c,d= .int c:=λd hd=>by
  rw [<-hcs] at hd;rcases D6.mp hd with z|z
  ·exact⟨n0,G7.mp z⟩
  ·obtain⟨x,_,e⟩:=R3.mp z;exact⟨x,e.symm⟩
 refine Wq cs (λi σ' h'=> ∃a1 a2 a3 a4 a5 a6 a7,σ'= [some (.scr ns),a1,a2,a3,a4,a5,a6,a7]/\h' p3=some cs) (λi σ' h' ⟨_,_,_,_,_,_,_,_,k⟩=>k) ⟨_,_,_,_,_,_,_,rfl,je⟩ (λσ' h' _=>hC _ _ True.intro) ?_;rintro i d _ h4 hi ⟨b1,b2,b3,b4,b5,b6,b7,rfl,k3⟩;obtain⟨c,rfl⟩:=hint d (G5 hi);have hil:i<cs.length:=(G3.mp hi).1;show FT _ _ _ [some (.scr ns),b1,b2,some (.int c),b4,b5,b6,b7] h4;refine jh (λσ' h'=> ∃p l fl,σ'= [some (.scr ns),b1,b2,some (.int c),some (.lst p),b5,b6,b7]/\h' p=some [.int l,.int fl]/\0<=l/\h' p3=some cs/\p3≠p) (λC hC=> ?_) ?_
 ·refine⟨_,rfl,c,rfl,λp l fl ep l0 _=>hC _ _ ⟨p,l,fl,rfl,je,l0,jn k3 ep,Ne.symm (zc k3 ep)⟩⟩
 rintro _ h5 ⟨p,l,fl,rfl,kp,l0,k3,n3⟩;refine jh (λσ' h'=> ∃ (n:Nat) (l2:Int),σ'= [some (.scr ns),b1,b2,some (.int c),some (.lst p),some (.int (n:Int)),b6,b7]/\1<=n/\n<=6/\h' p=some [.int l2,.int fl]/\0<=l2/\h' p3=some cs) (λC hC=>⟨_,rfl,p,l,fl,rfl,kp,l0,λn l2 n1 n6 l20=>hC _ _ ⟨n,l2,rfl,n1,n6,je,l20,jG n3 k3⟩⟩) ?_;clear kp l0 k3;rintro _ h6 ⟨n,l2,rfl,n1,n6,kp,l20,k3⟩;refine jh (λσ' h'=> ∃b6 l2,σ'= [some (.scr ns),b1,b2,some (.int c),some (.lst p),some (.int (n:Int)),b6,b7]/\h' p=some [.int l2,.int fl]/\0<=l2/\h' p3=some cs) (λC hC=> ?_) ?_
 ·refine Yi 2 (λi σ' h'=> ∃b6 l2,σ'= [some (.scr ns),b1,b2,some (.int c),some (.lst p),some (.int (n:Int)),b6,b7]/\h' p=some [.int l2,.int fl]/\0<=l2/\h' p3=some cs) (by decide) (λR r=>r) ⟨_,l2,rfl,kp,l20,k3⟩ (λσ' h' z=>hC _ _ z) ?_;clear kp l20 k3;rintro t _ h7 ht ⟨c6,l2,rfl,kp,l20,k3⟩;exact⟨_,rfl,_,rfl,p,l2,fl,n,rfl,kp,l20,n1,n6,λT l3 gT l30=>⟨T,n,20,rfl,gT.sq,n1,n6,by decide,λh' sb=>⟨_,rfl,wx ⟨_,Sub.refl _,by omega,_,l3,rfl,sb _ _ je,l30,sb _ _ (jG n3 k3)⟩⟩⟩⟩
 clear kp l20 k3;rintro _ h7 ⟨c6,l2,rfl,kp,l20,k3⟩;refine jh (λσ' h'=> ∃dd,σ'= [some (.scr ns),b1,b2,some (.int c),some (.lst p),some (.int (n:Int)),c6,some dd]/\okD dd=true/\BF dd=false/\h' p3=some cs) (λC hC=>⟨_,rfl,p,l2,fl,rfl,kp,l20,λd l3 h' ok bad bt kp2 l30=>hC _ _ ⟨d,rfl,ok,bad,bt p3 cs n3 k3⟩⟩) ?_;clear kp l20 k3;rintro _ h8 ⟨dd,rfl,okd,badd,k3⟩;exact .inr ⟨_,rfl,dd,rfl,okd,badd,by decide,(by show 1<=sizeLine;decide),jdt ⟨_,rfl,wx ⟨_,Sub.refl _,by omega,_,_,_,_,_,_,_,rfl,k3⟩⟩⟩
end
theorem jaq {l:PySem.W.OpenLaw}{w:World}{K:PySem.W.Frag}{h:Heap}{mg:Str->Option Value}{fa:Addr}(X:K.In h)(G:h.Ns mainGlobals mg)(hfa:mg "law" =some (.ref fa))
 {f0:Addr}{e0:FuncData}(d0:DefIn K "is_whole" Yu f0 e0)
 {f1:Addr}{e1:FuncData}(d1:DefIn K "is_within" ZH f1 e1)
 {f2:Addr}{e2:FuncData}(d2:DefIn K "is_place" Yv f2 e2)
 {f3:Addr}{e3:FuncData}(d3:DefIn K "are_places" Je f3 e3)
 {f4:Addr}{e4:FuncData}(d4:DefIn K "rises" MN f4 e4)
 {f5:Addr}{e5:FuncData}(d5:DefIn K "is_set" QH f5 e5)
 {f6:Addr}{e6:FuncData}(d6:DefIn K "is_table_row" yX f6 e6)
 {f7:Addr}{e7:FuncData}(d7:DefIn K "has_table_form" yi f7 e7)
 {f8:Addr}{e8:FuncData}(d8:DefIn K "want_table" yP f8 e8)
 {f9:Addr}{e9:FuncData}(d9:DefIn K "want_place" Jf f9 e9)
 {f10:Addr}{e10:FuncData}(d10:DefIn K "want_set" Yw f10 e10)
 {f11:Addr}{e11:FuncData}(d11:DefIn K "want_number" vy f11 e11)
 {f12:Addr}{e12:FuncData}(d12:DefIn K "step_after" Jg f12 e12)
 {f13:Addr}{e13:FuncData}(d13:DefIn K "set_after" ZI f13 e13)
 {f14:Addr}{e14:FuncData}(d14:DefIn K "multiplied" Jh f14 e14)
 {f15:Addr}{e15:FuncData}(d15:DefIn K "full" OS f15 e15)
 {f16:Addr}{e16:FuncData}(d16:DefIn K "marks" QK f16 e16)
 {f17:Addr}{e17:FuncData}(d17:DefIn K "marks_after" vz f17 e17)
 {f18:Addr}{e18:FuncData}(d18:DefIn K "marks_and_return" zF f18 e18)
 {f19:Addr}{e19:FuncData}(d19:DefIn K "marks_at" Yx f19 e19)
 {f20:Addr}{e20:FuncData}(d20:DefIn K "all_marks" vA f20 e20)
 {f21:Addr}{e21:FuncData}(d21:DefIn K "marks_of" Yy f21 e21)
 {f22:Addr}{e22:FuncData}(d22:DefIn K "heads" MP f22 e22)
 {f23:Addr}{e23:FuncData}(d23:DefIn K "want_ends_and_steps" zJ f23 e23)
 {f24:Addr}{e24:FuncData}(d24:DefIn K "counts_to" ZJ f24 e24)
 {f25:Addr}{e25:FuncData}(d25:DefIn K "next_place" Ji f25 e25)
 {f26:Addr}{e26:FuncData}(d26:DefIn K "walk_of_number" yj f26 e26)
 {f27:Addr}{e27:FuncData}(d27:DefIn K "first_walk" Jj f27 e27)
 {f28:Addr}{e28:FuncData}(d28:DefIn K "first_power" yr f28 e28)
 {f29:Addr}{e29:FuncData}(d29:DefIn K "nought_of" ZK f29 e29)
 {f30:Addr}{e30:FuncData}(d30:DefIn K "gap_ahead" ZL f30 e30)
 {f31:Addr}{e31:FuncData}(d31:DefIn K "why_first" vB f31 e31)
 {f32:Addr}{e32:FuncData}(d32:DefIn K "_law_cell" ZM f32 e32)
 {f33:Addr}{e33:FuncData}(d33:DefIn K "_law_pen" Yz f33 e33)
 {f34:Addr}{e34:FuncData}(d34:DefIn K "_law_draw" ZN f34 e34)
 {f35:Addr}{e35:FuncData}(d35:DefIn K "_law_whole" Jk f35 e35)
 {f36:Addr}{e36:FuncData}(d36:DefIn K "_law_kind" ZO f36 e36)
 {f37:Addr}{e37:FuncData}(d37:DefIn K "_law_said" ZP f37 e37)
 {f38:Addr}{e38:FuncData}(d38:DefIn K "_law_size" ZQ f38 e38)
 {f39:Addr}{e39:FuncData}(d39:DefIn K "_law_table" Jl f39 e39)
 {f40:Addr}{e40:FuncData}(d40:DefIn K "_law_times" Jm f40 e40)
 {f41:Addr}{e41:FuncData}(d41:DefIn K "_law_marked" vC f41 e41)
 {f42:Addr}{e42:FuncData}(d42:DefIn K "_law_filled" vD f42 e42)
 {f43:Addr}{e43:FuncData}(d43:DefIn K "_law_first" Jn f43 e43)
 {f44:Addr}{e44:FuncData}(d44:DefIn K "_law_after" Jo f44 e44)
 {f45:Addr}{e45:FuncData}(d45:DefIn K "_law_sets" ZR f45 e45)
 {f46:Addr}{e46:FuncData}(d46:DefIn K "_law_no_table" yH f46 e46)
 {f47:Addr}{e47:FuncData}(d47:DefIn K "_law_is_walk" yY f47 e47)
 {f48:Addr}{e48:FuncData}(d48:DefIn K "_law_is_gap" vE f48 e48)
 {f49:Addr}{e49:FuncData}(d49:DefIn K "_law_is_first" yI f49 e49)
 {f50:Addr}{e50:FuncData}(d50:DefIn K "_law_right" Jp f50 e50)
 {f51:Addr}{e51:FuncData}(d51:DefIn K "law" MQ f51 e51)
 {tk0:Tok}(v0:PySem.W.nsIn K mainGlobals "MOST_ROWS" =some (some (.int 6 tk0)))
 {tk1:Tok}(v1:PySem.W.nsIn K mainGlobals "MOST_STEPS_afters" =some (some (.int 1000000000 tk1)))
 {tk2:Tok}(v2:PySem.W.nsIn K mainGlobals "MOST_POWER" =some (some (.int 1000000000000000000000000000000 tk2)))
 {tk3:Tok}(v3:PySem.W.nsIn K mainGlobals "MOST_STEPS_walks" =some (some (.int 40 tk3)))
 (z:zsB K=true)
 (ex:jbU K=true)
 (tb0:KP K "law" =true)
 : ∃fd:FuncData,(∀ (s:Shared) (v:Value),BindsTo s fd ⟨[v],[]⟩ [("_law_script",v)])/\ ∀base:Heap,K.In base->base.Ns mainGlobals mg->Bm mg base->FnOk l.prog w K mg base CX0 12 fa fd ["_law_script"] (LSp K Lf):=by
 have e:=hfa.symm.trans (d51.nm X G);cases e;have ZX: ∃tk,mg "MOST_ROWS" =some (.int 6 tk):=⟨_,G0N X G v0⟩;have wq: ∃tk,mg "MOST_STEPS_afters" =some (.int 1000000000 tk):=⟨_,G0N X G v1⟩;have Jw: ∃tk,mg "MOST_POWER" =some (.int 1000000000000000000000000000000 tk):=⟨_,G0N X G v2⟩;have wG: ∃tk,mg "MOST_STEPS_walks" =some (.int 40 tk):=⟨_,G0N X G v3⟩;have Z:=jb0 X G z;have Ex:Exc K mg:=qR X G ex;have jat:=KQ tb0;obtain⟨_,_,kV,dc,pm,an,cd,ct,_,rfl,_⟩:=d51.fn.ex;refine⟨PySem.W.fnOf "law" "law" (vZ MQ) (zG MQ) (jd MQ) .none kV dc pm an cd ct,λs v=> .of_eq rfl,λbase _ _ B=> ?_⟩;have XY:=λn=>d0.cal l w base X G (MR (n:=n+0) Z d0.fn)
 have UH:=λn=>d1.cal l w base X G (DA (n:=n+1) Z d1.fn (XY (n+0)))
 have XX:=λn=>d2.cal l w base X G (MS (n:=n+2) Z d2.fn (UH (n+0)))
 have RA:=λn=>d3.cal l w base X G (QP (n:=n+3) Z d3.fn (XX (n+0)))
 have ku:=λn=>d4.cal l w base X G (SJ (n:=n+0) Z d4.fn)
 have SV:=λn=>d5.cal l w base X G (OU (n:=n+4) Z d5.fn (ku (n+3)) (RA (n+0)))
 have Xp:=λn=>d6.cal l w base X G (Ur (n:=n+1) Z d6.fn (XY (n+0)))
 have vN:=λn=>d7.cal l w base X G (YA (n:=n+2) Z d7.fn (Xp (n+0)) ZX)
 have yb:=λn=>d8.cal l w base X G (QQ (n:=n+3) Z d8.fn (vN (n+0)))
 have Md:=λn=>d8.rai l w base X G (UY (n:=n+3) Z Ex d8.fn (vN (n+0)))
 have RF:=λn=>d9.cal l w base X G (QR (n:=n+3) Z d9.fn (XX (n+0)))
 have CO:=λn=>d10.cal l w base X G (MT (n:=n+5) Z d10.fn (SV (n+0)))
 have vG:=λn=>d11.cal l w base X G (UZ (n:=n+2) Z d11.fn (UH (n+0)))
 have RE:=λn=>d12.cal l w base X G (QU (n:=n+0) Z d12.fn)
 have NH:=λn=>d13.cal l w base X G (DC (n:=n+6) Z d13.fn (yb (n+2)) (CO (n+0)) (vG (n+3)) (RE (n+5)) wq)
 have RC:=λn=>d14.cal l w base X G (QV (n:=n+0) Z d14.fn)
 have jau:=λn=>d15.cal l w base X G (ki (n:=n+4) Z d15.fn (yb (n+0)))
 have Af:=λn=>d16.cal l w base X G (SL (n:=n+4) Z d16.fn (yb (n+0)))
 have kK:=λn=>d16.rai l w base X G (OW (n:=n+4) Z Ex d16.fn (Md (n+0)))
 have GM:=λn=>d17.cal l w base X G (Xa (n:=n+5) Z d17.fn (Af (n+0)) (RC (n+4)))
 have yR:=λn=>d18.cal l w base X G (ZT (n:=n+6) Z d18.fn (Af (n+1)) (GM (n+0)))
 have WZ:=λn=>d18.rai l w base X G (JY (n:=n+5) Z Ex d18.fn (kK (n+0)))
 have CL:=λn=>d19.cal l w base X G (MU (n:=n+0) Z d19.fn)
 have ND:=λn=>d20.cal l w base X G (DE (n:=n+7) Z d20.fn (yR (n+0)))
 have NS:=λn=>d20.rai l w base X G (QY (n:=n+6) Z Ex d20.fn (WZ (n+0)))
 have CM:=λn=>d21.cal l w base X G (MV (n:=n+7) Z d21.fn (yb (n+3)) (vG (n+4)) (yR (n+0)) (CL (n+6)) Jw)
 have Ae:=λn=>d22.cal l w base X G (SM (n:=n+0) Z d22.fn)
 have Jz:=λn=>d23.cal l w base X G (vS (n:=n+4) Z d23.fn (yb (n+0)) (RF (n+0)) (vG (n+1)) wG)
 have NE:=λn=>d24.cal l w base X G (DF (n:=n+1) Z d24.fn (Ae (n+0)))
 have RD:=λn=>d25.cal l w base X G (Ga (n:=n+1) Z d25.fn (Ae (n+0)))
 have Vm:=λn=>d26.cal l w base X G (YB (n:=n+2) Z d26.fn (RD (n+0)))
 have RB:=λn=>d27.cal l w base X G (Gb (n:=n+5) Z d27.fn (Jz (n+0)) (NE (n+3)) (Vm (n+2)))
 have GL:=λn=>d28.cal l w base X G (Xb (n:=n+8) Z d28.fn (ND (n+0)) (jau (n+3)))
 have Pu:=λn=>d28.rai l w base X G (Uv (n:=n+7) Z Ex d28.fn (NS (n+0)))
 have NG:=λn=>d29.cal l w base X G (DG (n:=n+0) Z d29.fn)
 have NF:=λn=>d30.cal l w base X G (DH (n:=n+8) Z d30.fn (NG (n+7)) (CM (n+0)) (NH (n+1)))
 have NI:=λn=>d31.cal l w base X G (DI (n:=n+9) Z d31.fn (GL (n+0)) (RB (n+3)) (NF (n+0)))
 have NT:=λn=>d31.rai l w base X G (Gd (n:=n+8) Z Ex d31.fn (Pu (n+0)))
 have NA:=λn=>d32.cal l w base X G (DJ (n:=n+0) Z d32.fn)
 have CK:=λn=>d33.cal l w base X G (MX (n:=n+0) Z d33.fn)
 have Wa:=λn=>d34.cal l w base X G (DK (n:=n+0) Z d34.fn)
 have Jy:=λn=>d35.cal l w base X G (Ge (n:=n+0) Z d35.fn)
 have u_kind: ∀n,Oj l.prog w K mg base (n+1) "_law_kind" ["_law_e"] (Oo mg):=λn=>⟨_,_,Gf (n:=n) Z Ex d36.fn,d36.fn.binds (ps:= ["_law_e"]) λ_ _ _ _ _ _ us hl=>match us,hl with| [_],_=>rfl,d36.fn.kp,d36.nm X G⟩
 have s_said: ∀n,qS l.prog w K mg base (n+1):=λn=>⟨_,_,km (n:=n+1) Z Ex d37.fn (u_kind n),d37.fn.binds (ps:= ["_law_call"]) λ_ _ _ _ _ _ us hl=>match us,hl with| [_],_=>rfl,d37.fn.kp,d37.nm X G⟩
 have NC:=λn=>d38.cal l w base X G (DL (n:=n+1) Z d38.fn (Wa (n+0)))
 have Rx:=λn=>d39.cal l w base X G (Gg (n:=n+1) Z d39.fn (Wa (n+0)))
 have Ry:=λn=>d40.cal l w base X G (Gh (n:=n+0) Z d40.fn)
 have GK:=λn=>d41.cal l w base X G (Xc (n:=n+0) Z d41.fn)
 have GI:=λn=>d42.cal l w base X G (Xd (n:=n+0) Z d42.fn)
 have Rv:=λn=>d43.cal l w base X G (Gi (n:=n+1) Z d43.fn (GK (n+0)) (GI (n+0)) (Ry (n+0)))
 have Ru:=λn=>d44.cal l w base X G (Gj (n:=n+0) Z d44.fn)
 have NB:=λn=>d45.cal l w base X G (DM (n:=n+0) Z d45.fn)
 have UG:=λn=>d46.cal l w base X G (Vg (n:=n+1) Z d46.fn (Wa (n+0)))
 have Xo:=λn=>d47.cal l w base X G (Ux (n:=n+1) Z d47.fn (Jy (n+0)))
 have GJ:=λn=>d48.cal l w base X G (Xe (n:=n+1) Z d48.fn (Jy (n+0)) (NB (n+0)) (Ru (n+0)))
 have UF:=λn=>d49.cal l w base X G (Vh (n:=n+2) Z d49.fn (Jy (n+1)) (Xo (n+0)) (GJ (n+0)))
 have Rw:=λn=>d50.cal l w base X G (Gk (n:=n+10) Z d50.fn (Rv (n+8)) (NI (n+0)) (UF (n+7)))
 exact jap (n:=9) Z B d51.at_ jat d51.fn (Rw 0) (NA 10) (CK 10) (NC 9) (Rx 9) (UG 9) (NT 0) (s_said 8)
end My
namespace PySem.W.Fast
def tw8855524441110425293:=()
def tw7539239197147020632:=()
def tw5099762939418155948:=()
def tw11012794805301036431:=()
def tw3641213185468529840:=()
def tw15288971209843766903:=()
def tw17203882568707214198:=()
def tw8189269797981740649:=()
def tw3176895836946289963:=()
def tw12338805652023303066:=()
def tw867373147938150821:=()
def tw1660791593939417597:=()
def tw5224612507964953764:=()
def tw5689540822053268007:=()
def tw4952454415735881430:=()
def tw16691836013849189808:=()
def tw8412540947080163682:=()
def tw15614893138228513184:=()
def tw9728017712338992821:=()
def tw16789715646033233253:=()
def tw3315256237568523959:=()
def tw10866514092901847607:=()
def tw12070414569463949408:=()
def tw4788877383524032123:=()
def tw11382666275686995989:=()
def tw8844195666684443869:=()
def tw3591049355829298374:=()
def tw4078245771083793858:=()
def tw4072426354980120189:=()
def tw3849489257281506003:=()
def tw5288255023172278731:=()
def tw7087892755668195744:=()
def tw4574511748328187083:=()
def tw3137472541848861210:=()
def tw17519920947042452835:=()
def tw13714505727861096420:=()
def tw12247457192352698560:=()
def tw16540951287916681744:=()
def tw13707733144027725788:=()
def tw11227860306076649456:=()
def tw8674163804316141651:=()
def tw9492426763119838414:=()
def tw146196748008970886:=()
def tw4079225042032805977:=()
def tw3247917891538568750:=()
def tw10096594821972371073:=()
def tw4675284377566970625:=()
def tw13879922280862927670:=()
def tw7045942630673585299:=()
def tw16386604659041126590:=()
def tw9907637985944577819:=()
def tw14588004587218833235:=()
def tw17471332265336659100:=()
def tw12957656124362361389:=()
def tw12597110079220950887:=()
def tw4799249991313611539:=()
def tw420728256031472196:=()
def tw8558319070363575302:=()
def tw7000665707801310638:=()
def tw5232421651525141979:=()
def tw18434270960535528713:=()
def tw1519245466552205841:=()
def tw3508115192452060617:=()
def tw5540076816946200763:=()
def tw17017683441346425809:=()
def tw4561947489648870519:=()
def tw13815034417042075054:=()
def tw1899670625738771229:=()
def tw12182297057545763228:=()
def tw4184209684973327728:=()
def tw9167573417640397333:=()
def tw11467007313697471618:=()
def tw12248595221146057774:=()
def tw618505403266469085:=()
def tw3901456047030797863:=()
def tw6775836809043555820:=()
def tw4899058162345610023:=()
def tw1768443534505210399:=()
def tw4854169196457906252:=()
def tw17214039836832312251:=()
def tw2955689181096515451:=()
def tw15548481140562591129:=()
def tw6944023186403278329:=()
def tw12764342791805679193:=()
def tw13499436212425298640:=()
def tw7252237335101897672:=()
def tw4768747500375552158:=()
def tw16570360134857938360:=()
def tw13870854017351540335:=()
def tw1770595741642558652:=()
def tw8291095517223178281:=()
def tw438260528303898407:=()
def tw18119262847810171845:=()
def tw1190700652125598853:=()
def tw17190680576966121425:=()
def tw18214238838251583872:=()
def tw6733841711515405392:=()
def tw1442102947112729313:=()
def tw15170797841973952630:=()
def tw16914916316376824334:=()
def tw3770672087009347241:=()
def tw6111513187922812830:=()
def tw7382375673121988652:=()
def tw4344720377543479251:=()
def tw246559550801815923:=()
def tw13239322951435742919:=()
def tw6986443339155484349:=()
def tw286310583946904452:=()
def tw17023811143863311944:=()
def tw7984278076700982448:=()
def tw1695084941152771124:=()
def tw18108338634469525895:=()
def tw15184246997868430716:=()
def tw13037878850118554399:=()
def tw3360208218948366619:=()
def tw4992854270675096990:=()
def tw2162012243533636322:=()
def tw2674234237014905431:=()
def tw15574764229326282293:=()
def tw12554842125886098271:=()
def tw11296686558093474922:=()
def tw18271354579014562581:=()
def tw7983434801737166609:=()
def tw12674544223852374282:=()
def tw6979406430993164851:=()
def tw13120157277508738054:=()
def tw9790720954775273759:=()
def tw17875525725321607260:=()
def tw12689546960741534373:=()
def tw7199577182152230258:=()
def tw12963364919295294536:=()
def tw999405426252030908:=()
def tw5065853933118292398:=()
def tw10652787686527396266:=()
def tw6160444066405530108:=()
def tw1697335176432893707:=()
def tw1624260446873709758:=()
def tw28308513555425038:=()
def tw12297544757820750320:=()
def tw114157544230524444:=()
def tw3100461271173271381:=()
def tw9725041442287996389:=()
def tw10225067284671739753:=()
def tw14460164464978637460:=()
def tw4812438572836567363:=()
def tw12162697329782182233:=()
def tw13971830490167631158:=()
def tw709154173497846076:=()
def tw5786299476574915769:=()
def tw12217533448227848610:=()
def tw12954407423024328150:=()
def tw16877030375928298956:=()
def tw10700237744278804185:=()
def tw6655364841818620342:=()
def tw15839692178058109356:=()
def tw16031414794420107664:=()
def tw13845612733442889382:=()
def tw5086826085976449391:=()
def tw11902326610123462549:=()
def tw12069528728940402908:=()
def tw4257581456024864463:=()
def tw6554435971321794101:=()
def tw13063468038041169973:=()
def tw3928786388533796007:=()
def tw17832543100112577476:=()
def tw4519542010063740165:=()
def tw4188517717296761875:=()
def tw16841778798099518457:=()
def tw17440232282405420916:=()
def tw16047155489607067306:=()
def tw17388334058316518269:=()
def tw146288692271620521:=()
def tw94058087459800846:=()
def tw11092933333244208032:=()
def tw5396117444810813689:=()
def tw6770124852854810098:=()
def tw16988030647775936766:=()
def tw18197493767864837652:=()
def tw8415029326972315296:=()
def tw10495484647016669363:=()
def tw7419857327782329116:=()
def tw15413272644950039681:=()
def tw3659774435763577734:=()
def tw6329363734019010650:=()
def tw2648240120518731214:=()
def tw18251134126835199090:=()
def tw2618272704137686870:=()
def tw14776066510718805564:=()
def tw987021895646210723:=()
def tw15139815417482705613:=()
def tw9320063709776674295:=()
def tw16974812877014941608:=()
def tw1990966946594279877:=()
def tw14509131895992246525:=()
def tw417397786602468405:=()
def tw7911661177594198118:=()
def tw14499540065357188870:=()
def tw16748908034413751627:=()
def tw5204928624230687490:=()
def tw5768778850699961048:=()
def tw15372891995985483991:=()
def tw11212782913984789759:=()
def tw17578338478199724355:=()
def tw18358332407171960692:=()
def tw5081965887032593063:=()
def tw4908814744703710318:=()
def tw9483537859841938906:=()
def tw7825205585472851291:=()
def tw12937317368517557578:=()
def tw8931829930148460514:=()
def tw8634362309720236790:=()
def tw17031362636099002800:=()
def tw517274933942018348:=()
def tw1446949005658837329:=()
def tw14744474344349075038:=()
def tw11841780620451935713:=()
def tw2798669192345626647:=()
def tw6042278093781209431:=()
def tw13698385501229694768:=()
def tw10190417412934377183:=()
def tw14877434789137648806:=()
def tw11725807528878790589:=()
def tw17682487524153728886:=()
def tw12839797376969101469:=()
def tw17135536294479696457:=()
def tw7579977930410344067:=()
def tw13221515876630282028:=()
def tw9775511542433374001:=()
def tw6142557964235882386:=()
def tw9775261804850107832:=()
def tw5203343932575399467:=()
def tw1564195095765878167:=()
def tw1476153620982420065:=()
def tw13855303459096871897:=()
def tw11367232615790071299:=()
def tw10511050913842873370:=()
def tw5743592863259660950:=()
def tw12977192857635993303:=()
def tw97507941565330079:=()
def tw11679499476298745120:=()
def tw2271084438035296608:=()
def tw4567688867600482756:=()
def tw12587966418055174064:=()
end PySem.W.Fast
open PySem PySem.W PyProof.Rows
set_option maxRecDepth 100000 in
set_option maxHeartbeats 0 in
theorem PySem.Challenge.cw_firstpowers_k37_why_first_holds : PySem.Challenge.rw_firstpowers_k37_why_first.Holds := by
  w_on; o_law; k_head; (case hw => w_witness2)
  k_fill
  refine L2.ED (l := PySem.Challenge.rw_firstpowers_k37_why_first) (k := 12) (x := "_law_script") rfl rfl ⟨rfl, by decide, by decide, rfl⟩ (fun w h Y => PySem.W.km_in_of Y) ?B ?F
  case B => intro w; kernel_rfl
  case F =>
    intro w mg fa h KX G hmg
    refine' My.jaq KX G hmg ?d0 ?d1 ?d2 ?d3 ?d4 ?d5 ?d6 ?d7 ?d8 ?d9 ?d10 ?d11 ?d12 ?d13 ?d14 ?d15 ?d16 ?d17 ?d18 ?d19 ?d20 ?d21 ?d22 ?d23 ?d24 ?d25 ?d26 ?d27 ?d28 ?d29 ?d30 ?d31 ?d32 ?d33 ?d34 ?d35 ?d36 ?d37 ?d38 ?d39 ?d40 ?d41 ?d42 ?d43 ?d44 ?d45 ?d46 ?d47 ?d48 ?d49 ?d50 ?d51 ?v0 ?v1 ?v2 ?v3 ?z ?ex ?tb0
    case d0 | d1 | d2 | d3 | d4 | d5 | d6 | d7 | d8 | d9 | d10 | d11 | d12 | d13 | d14 | d15 | d16 | d17 | d18 | d19 | d20 | d21 | d22 | d23 | d24 | d25 | d26 | d27 | d28 | d29 | d30 | d31 | d32 | d33 | d34 | d35 | d36 | d37 | d38 | d39 | d40 | d41 | d42 | d43 | d44 | d45 | d46 | d47 | d48 | d49 | d50 | d51 => refine' L2.jai ?a ?l ?c ?k; (case a => k_is); (case l => k_is); (case c => k_is); (case k => k_is)
    case v0 | v1 | v2 | v3 => k_is
    case z | ex | tb0 => kernel_rfl
