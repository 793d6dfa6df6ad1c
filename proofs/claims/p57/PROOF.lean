import PyProof.Rows.All
import Wide.All
import OpenK.AllK
import Wide.FinOn
import Lean
import PyProof.EqAt
import PyProof.EqKinds
import PyProof.TupleCall
import PyProof.Rows.TopTwo
import KE.KIsAll
import PyProof.ExcAttrAll.ValueError
import KE.KTryMore
import KE.KRevIter
import PyProof.SetRoads
import PySem.Challenge.RW_firstpowers_k57_whole_lengths_and_rounds
set_option Elab.async false
set_option linter.all false
set_option maxRecDepth 100000
set_option maxHeartbeats 8000000
abbrev G0:= @List.getElem?_eq_getElem
abbrev G1:= @PySem.Heap.get?_push_of_some
abbrev G2:= @List.length_map
abbrev G3:= @List.mem_singleton
abbrev G5:= @List.mem_of_getElem?
abbrev G6:= @List.getElem?_eq_some_iff
abbrev G7:= @List.length_append
abbrev G8:= @List.append_assoc
abbrev G9:= @Nat.le_refl
abbrev P0:= @PySem.wpAny_pure
abbrev P1:= @List.getElem?_map
abbrev P2:= @PySem.Heap.lt_size
abbrev P3:= @decide_eq_true
abbrev P4:= @Bool.false_ne_true
abbrev P5:= @List.getD_eq_getElem?_getD
abbrev P6:= @List.size_toArray
abbrev P7:= @List.getElem?_append_right
abbrev P8:= @PySem.Heap.get?_push_size
abbrev P9:= @List.mem_cons_self
abbrev D0:= @List.mem_append
abbrev D1:= @List.mem_append_right
abbrev D2:= @List.mem_cons_of_mem
abbrev D3:= @List.mem_cons
abbrev D4:= @decide_eq_false
abbrev D5:= @Nat.le_of_lt
abbrev D6:= @Nat.le_trans
abbrev D7:= @List.take_of_length_le
abbrev D8:= @List.length_cons
abbrev D9:= @List.getElem?_append_left
abbrev R0:= @List.mem_range
abbrev R1:= @Nat.ne_of_lt
abbrev R3:= @List.length_take
abbrev R4:= @List.take_append_drop
abbrev R5:= @List.mem_map
abbrev R6:= @List.pairwise_append
abbrev R7:= @Nat.lt_of_lt_of_le
abbrev R8:= @Bool.and_eq_true
abbrev R9:= @List.map_append
abbrev S0:= @PySem.wpAny_mono
abbrev S4:= @List.length_drop
abbrev S5:= @List.all_eq_true
abbrev S6:= @Array.getElem?_toList
abbrev S7:= @Nat.lt_irrefl
abbrev S8:= @List.length_reverse
abbrev S9:= @PySem.Heap.get?_update_self
abbrev T0:= @List.length_range
abbrev T3:= @List.map_map
abbrev T4:= @Nat.zero_le
abbrev T5:= @List.map_cons
abbrev T6:= @PySem.PassesOwn.never
abbrev T7:= @Array.length_toList
abbrev T8:= @List.map_congr_left
abbrev T9:= @PySem.Heap.SameBut.update
abbrev M0:= @List.not_mem_nil
abbrev M1:= @List.getElem_mem
abbrev M5:= @List.mem_of_mem_drop
abbrev M6:= @List.pairwise_singleton
abbrev M7:= @Option.some.inj
abbrev M8:= @List.length_nil
abbrev M9:= @decide_eq_true_iff
abbrev N0:= @Array.toList_append
abbrev N2:= @List.getElem?_eq_none
abbrev N3:= @List.take_add_one
abbrev N4:= @List.mem_filter
abbrev N5:= @Nat.lt_of_le_of_lt
abbrev N6:= @List.drop_eq_nil_of_le
abbrev N7:= @List.mem_append_left
abbrev N8:= @List.mem_of_mem_take
abbrev N9:= @PySem.wpAny_call_entry
abbrev B0:= @PySem.wpAny_truthy_bool
abbrev B1:= @Bool.eq_iff_iff
abbrev B2:= @List.nil_append
abbrev B3:= @of_decide_eq_true
abbrev B6:= @List.length_filter_le
abbrev B7:= @PySem.wpAny_holding
abbrev B8:= @PySem.wpAny_callSpecial?_slot
abbrev B9:= @List.append_nil
abbrev C0:= @PySem.boot_len
abbrev C1:= @Option.map_eq_some_iff
abbrev C3:= @Nat.lt_of_le_of_ne
abbrev C4:= @PyProof.Rows.callWith_type1
abbrev C5:= @List.getElem?_range
abbrev C6:= @PyProof.Rows.boot_all
abbrev C7:= @Nat.lt_succ_self
abbrev C8:= @List.mem_reverse
abbrev C9:= @List.drop_sublist
abbrev F4:= @List.getElem?_set_ne
abbrev F5:= @PySem.W.kia_one
abbrev F6:= @List.pairwise_iff_getElem
abbrev F7:= @List.eq_nil_of_length_eq_zero
abbrev F8:= @List.length_singleton
abbrev F9:= @Array.toList_push
abbrev H0:= @List.pairwise_cons
abbrev L0:= @List.getElem?_cons_zero
abbrev L5:= @List.lookup_cons
abbrev L6:= @Array.getElem?_eq_some_iff
abbrev L7:= @PyProof.Rows.slot_tuple_getitem
abbrev L8:= @List.replicate_succ
abbrev L9:= @Nat.lt_of_succ_lt
abbrev O0:= @List.reverse_perm
abbrev O3:= @List.getElem_of_mem
abbrev O4:= @List.getLast?_eq_getElem?
abbrev O5:= @List.all_map
abbrev O6:= @List.range_succ
abbrev O7:= @PySem.wpAny_pyIter_tuple
abbrev O8:= @List.drop_append_of_le_length
abbrev O9:= @List.take_append_of_le_length
abbrev A0:= @List.filter_cons_of_pos
abbrev A1:= @List.filter_cons_of_neg
abbrev A2:= @PySem.wpAny_pyIter_list
abbrev A3:= @List.take_sublist
abbrev A4:= @Int.toNat_natCast
abbrev A5:= @PySem.wpAny_setState_of
abbrev A6:= @List.ext_getElem?
abbrev A7:= @List.pairwise_map
abbrev A8:= @Nat.min_eq_left
abbrev A9:= @PySem.F.slot_tuple_iterator_next
abbrev E1:= @List.cons_append
abbrev E2:= @Nat.mod_lt
abbrev E3:= @Nat.ne_of_gt
abbrev E4:= @Nat.le_of_eq
abbrev E5:= @Nat.zero_add
abbrev E6:= @List.getElem?_drop
abbrev E7:= @List.filter_append
abbrev E8:= @Decidable.byContradiction
abbrev E9:= @List.drop_drop
abbrev I0:= @List.getLastD_eq_getLast?
abbrev J0:= @List.getElem?_of_mem
abbrev J1:= @Array.toList_extract
abbrev J3:= @PySem.wpAny_newObj_type
abbrev J4:= @PySem.wpAny_passesOwn
abbrev J5:= @List.flatten_cons
abbrev J6:= @Nat.lt_succ_of_lt
abbrev J7:= @Nat.not_lt
abbrev J8:= @Bool.eq_false_iff
abbrev J9:= @Option.some.injEq
abbrev K0:= @PySem.mem_of_lookup
abbrev K1:= @List.length_eq_zero_iff
abbrev K2:= @Bool.true_and
abbrev K3:= @Int.toNat_of_nonneg
abbrev K4:= @PySem.wpAny_askSetting
abbrev K5:= @List.take_length
abbrev K6:= @Nat.mod_eq_of_lt
abbrev K7:= @Nat.le_add_right
abbrev K8:= @PySem.Heap.size_push
abbrev K9:= @PySem.isSubtype_type
abbrev Q0:= @List.zip_cons_cons
abbrev Q1:= @Nat.sub_add_cancel
abbrev Q3:= @Nat.le_div_iff_mul_le
abbrev Q4:= @Nat.lt_or_ge
abbrev Q5:= @List.perm_append_comm
abbrev Q6:= @Nat.le_add_left
abbrev Q7:= @List.getElem?_reverse
abbrev Q8:= @exists_eq_left'
abbrev Q9:= @PySem.Heap.SameBut.refl
abbrev U0:= @or_false
abbrev U1:= @decide_eq_true_eq
abbrev U2:= @Array.getElem?_eq_none_iff
abbrev U3:= @Int.natCast_emod
abbrev U4:= @List.mem_map_of_mem
abbrev U5:= @Nat.add_le_add_left
abbrev U6:= @Option.isSome_iff_exists
abbrev U7:= @List.getElem?_take_of_lt
abbrev U8:= @PySem.F.args_tuple_add_2
abbrev U9:= @Nat.succ_mul
abbrev V0:= @List.map_nil
abbrev V1:= @Nat.lt_trans
abbrev V2:= @PySem.AutoSeq1.wpAny_loadPart'
abbrev V3:= @PySem.wpAny_standAt
abbrev V4:= @List.mem_filterMap
abbrev V5:= @List.nodup_cons
abbrev V6:= @PySem.F.entry_tuple_add
abbrev V7:= @Bool.or_eq_true
abbrev V8:= @Nat.add_assoc
abbrev V9:= @PySem.codeAny_builtin
abbrev W0:= @Nat.pos_of_ne_zero
abbrev W1:= @List.getElem?_cons_succ
abbrev W3:= @List.getElem?_set_self
abbrev W4:= @PySem.F.slot_tuple_add
abbrev W5:= @Array.getElem?_eq_none
abbrev W6:= @Option.map_eq_none_iff
abbrev W7:= @PySem.wpAny_rule
abbrev W8:= @List.getElem?_set
abbrev W9:= @Nat.lt_of_succ_le
abbrev X0:= @Function.comp_def
abbrev X1:= @PySem.wpAny_pyIter_enum
abbrev X2:= @List.nodup_append
abbrev X3:= @Nat.succ_le_of_lt
abbrev X4:= @Nat.sub_lt
abbrev X5:= @PySem.F.slot_tuple_lt
abbrev X6:= @List.pairwise_reverse
abbrev X7:= @List.ext_getElem
abbrev X8:= @Nat.succ_le_succ
abbrev X9:= @PySem.codeAny_call_builtin
abbrev Y0:= @Array.getElem_toList
abbrev Y1:= @PySem.Around.under_plainId
abbrev Y2:= @Array.toList_reverse
abbrev Y3:= @PySem.F.args_tuple_iterator_next_1
abbrev Y4:= @PySem.W.mg_of
abbrev Y5:= @beq_eq_false_iff_ne
abbrev Y6:= @PySem.wpAny_execs_nil
abbrev Y7:= @List.of_mem_zip
abbrev Y8:= @PySem.F.slot_int_rmul
abbrev Y9:= @List.forIn_cons
abbrev Z0:= @Function.comp_apply
abbrev Z4:= @PySem.F.entry_tuple_iterator_next
abbrev Z5:= @List.length_pos_iff
abbrev Z6:= @Nat.add_sub_cancel'
abbrev Z7:= @PySem.Heap.get?_update_ne
abbrev Z8:= @Int.emod_nonneg
abbrev Z9:= @PySem.Calls.Name_function_global
abbrev G0a:= @Int.fdiv_eq_ediv_of_nonneg
abbrev G0b:= @Int.fmod_eq_emod_of_nonneg
abbrev G0c:= @Array.isEmpty_eq_false_iff
abbrev G0d:= @PySem.wpAny_letOwnedTupleGo_enum
abbrev G0e:= @List.length_eraseIdx_of_lt
abbrev G0f:= @Array.toList_setIfInBounds
abbrev G0g:= @PyProof.Rows.assignInOrder_cons
abbrev G0h:= @PySem.wpAny_Call_Name_kw
abbrev G0i:= @List.getElem_range
abbrev G0j:= @of_decide_eq_false
abbrev G0k:= @List.getLast?_cons
abbrev G0l:= @Int.emod_lt_of_pos
abbrev G0m:= @PySem.wpAny_binaryOp_repeat_ref
abbrev G0n:= @PySem.Calls.call_function_entry
abbrev G0o:= @List.drop_eq_getElem_cons
abbrev G0p:= @List.getElem?_eq_none_iff
abbrev G0q:= @List.zip_nil_left
abbrev G0r:= @PySem.wpAny_pyIter_slot
abbrev G0s:= @Array.size_setIfInBounds
abbrev G0t:= @List.mapM_toArray
abbrev G0u:= @List.flatMap_cons
abbrev G0v:= @List.getElem?_replicate
abbrev G0w:= @PySem.F.args_tuple_lt_2
abbrev G0x:= @PySem.F.plainAttrs_list
abbrev G0y:= @decide_eq_false_iff_not
abbrev G0z:= @List.sum_cons
abbrev G0A:= @List.getLast?_cons_cons
abbrev G0B:= @Nat.add_sub_cancel_left
abbrev G0C:= @Nat.eq_zero_of_zero_dvd
abbrev G0D:= @PySem.noFill_tuple_add
abbrev G0E:= @Nat.min_le_right
abbrev G0F:= @Nat.le_of_not_lt
abbrev G0G:= @List.perm_middle
abbrev G0H:= @PySem.wpAny_isInstance
abbrev G0I:= @List.getElem_map
abbrev G0J:= @List.all_toArray
abbrev G0K:= @PySem.W.cellsFrom_some
abbrev G0L:= @PySem.F.entry_tuple_lt
abbrev G0M:= @List.range_succ_eq_map
abbrev G0N:= @List.length_pos_of_mem
abbrev G0O:= @PySem.codeAny_mono
abbrev G0P:= @Int.natCast_mul
abbrev G0Q:= @Int.natCast_add
abbrev G0R:= @Int.mul_comm
abbrev G0S:= @List.getElem?_toArray
abbrev G0T:= @List.length_zip
abbrev G0U:= @Nat.div_add_mod
abbrev G0V:= @Nat.not_lt_zero
abbrev G0W:= @Nat.add_zero
abbrev G0X:= @PySem.W.kat_nil
abbrev G0Y:= @List.filter_nil
abbrev G0Z:= @PySem.wpAny_call
abbrev G00:= @PySem.typeIs_int
abbrev G01:= @PySem.call_meets
abbrev G02:= @beq_iff_eq
abbrev G03:= @PySem.Walks.list
abbrev G04:= @Bool.or_eq_false_iff
abbrev G05:= @Nat.pow_le_pow_right
abbrev G06:= @PySem.intBits_le_iff
abbrev G07:= @List.getElem?_zipIdx
abbrev G08:= @List.mem_of_getLast?
abbrev G09:= @List.getLast?_concat
abbrev G1a:= @Bool.false_and
abbrev G1b:= @List.drop_zero
abbrev G1c:= @PySem.wpAny_newTuple
abbrev G1d:= @List.take_zero
abbrev G1e:= @List.drop_take
abbrev G1f:= @List.take_take
abbrev G1g:= @List.filterMap_cons
abbrev G1h:= @PyProof.Rows.lt_int
abbrev G1i:= @List.take_succ_cons
abbrev G1j:= @List.map_id
abbrev G1k:= @List.flatMap_append
abbrev G1l:= @if_false
abbrev G1m:= @List.map_drop
abbrev G1n:= @Nat.add_comm
abbrev G1o:= @Nat.mul_comm
abbrev G1p:= @Nat.sub_zero
abbrev G1q:= @Nat.zero_mul
abbrev G1r:= @Int.le_refl
abbrev G1s:= @Int.pow_pos
abbrev G1t:= @Nat.one_mul
abbrev G1u:= @Nat.add_mod
namespace L2
open PySem PySem.Spec PyProof.Rows
abbrev Key:=Sum Int Str
def Az:Key->Value->Bool
 | .inl k,v=>Value.isInt k v
 | .inr x,v=>Value.isStrOf x v
def KQ (w:World):Key->Int
 | .inl k=>hashInt k
 | .inr x=>hashStr w x
theorem jX: ∀ {k:Key} {v:Value},Az k v=true->(∃i t,k=Sum.inl i/\v=Value.int i t)\/(∃x t,k=Sum.inr x/\v=Value.str x t)
 | .inl i,v,h=>by
  obtain⟨t,e⟩:=Value.isInt_shape (k:=i) (v:=v) h;exact .inl ⟨i,t,rfl,e⟩
 | .inr x,v,h=>by
  obtain⟨t,e⟩:=Value.isStrOf_shape (x:=x) (v:=v) h;exact .inr ⟨x,t,rfl,e⟩
theorem AA (a b:Int):decide ((Sum.inl a:Key)=Sum.inl b)=(a==b):=by
 by_cases e:a=b
 ·subst e;simp
 ·have h: ¬ (Sum.inl a:Key)=Sum.inl b:=λq=>e (Sum.inl.inj q)
  rw [D4 h];exact(Y5.mpr e).symm
theorem AB (a b:Str):decide ((Sum.inr a:Key)=Sum.inr b)=decide (a=b):=by
 by_cases e:a=b
 ·subst e;simp
 ·have h: ¬ (Sum.inr a:Key)=Sum.inr b:=λq=>e (Sum.inr.inj q)
  rw [D4 h,D4 e]
theorem AC (a:Int)(b:Str):decide ((Sum.inl a:Key)=Sum.inr b)=false:=D4 (λq=>nomatch q)
theorem AD (a:Str)(b:Int):decide ((Sum.inr a:Key)=Sum.inl b)=false:=D4 (λq=>nomatch q)
def Rk (prog:Program)(w:World):PySem.KeyKind prog w Key where
 is:=Az
 hash:=KQ w
 inj:=λv a b ha hb=>by
  rcases jX ha with ⟨i,t,rfl,rfl⟩|⟨x,t,rfl,rfl⟩
  ·rcases jX hb with ⟨j,u,rfl,e⟩|⟨y,u,rfl,e⟩
   ·injection e with e1 _;rw [e1]
   ·exact nomatch e
  ·rcases jX hb with ⟨j,u,rfl,e⟩|⟨y,u,rfl,e⟩
   ·exact nomatch e
   ·injection e with e1 _;rw [e1]
 byValue:=λk v h=>by
  rcases jX h with ⟨i,t,rfl,rfl⟩|⟨x,t,rfl,rfl⟩<;>rfl
 pyHash:=λhv h=>by
  rcases jX hv with ⟨i,t,rfl,rfl⟩|⟨x,t,rfl,rfl⟩
  ·exact wpAny_pyHash_int h
  ·exact wpAny_pyHash_str h
 eqBool:=λhu hv h=>by
  rcases jX hu with ⟨i,t,rfl,rfl⟩|⟨x,t,rfl,rfl⟩
  ·rcases jX hv with ⟨j,u,rfl,rfl⟩|⟨y,u,rfl,rfl⟩
   ·rw [AA] at h;exact wpAny_eqBool_int h
   ·rw [AC] at h;exact SeqAt.EqAt.int_str i t y u _ _ _ _ h
  ·rcases jX hv with ⟨j,u,rfl,rfl⟩|⟨y,u,rfl,rfl⟩
   ·rw [AD] at h;exact SeqAt.EqAt.str_int x t j u _ _ _ _ h
   ·rw [AB] at h;exact wpAny_eqBool_str h
 «strs» :=λk x t v h=>by
  rcases jX h with ⟨i,u,rfl,e⟩|⟨y,u,rfl,e⟩
  ·exact nomatch e
  ·injection e with e1 _
   subst e1;cases v<;>rfl
inductive V where
 |non|bl (b:Bool)|int (i:Int)|str (x:Str)|byt (b:Array UInt8)|flt (b:UInt64)|ref (a:Addr)|ty (n:String)
 deriving DecidableEq
def RelV:V->Value->Prop
 | .non,u=>u=Value.none
 | .bl b,u=>u=Value.bool b
 | .int i,u=> ∃t,u=Value.int i t
 | .str x,u=> ∃t,u=Value.str x t
 | .byt b,u=> ∃t,u=Value.bytes b t
 | .flt b,u=> ∃t,u=Value.float b t
 | .ref a,u=>u=Value.ref a
 | .ty n,u=>u=Value.type n
abbrev Vals:List V->List Value->Prop:=Paired RelV
theorem Vals.length {xs:List V}{us:List Value}(r:Vals xs us):xs.length=us.length:=Paired.length r
theorem Vals.get: ∀ {xs:List V} {us:List Value} {i:Nat} {x:V},Vals xs us->xs[i]? =some x-> ∃u,us[i]? =some u/\RelV x u
 |_,_,_,_,.nil,e=>by simp at e
 |_,_,0,_,.cons r _,e=>by simp at e;subst e;exact⟨_,rfl,r⟩
 |_,_,i+1,x,.cons _ t,e=>by
  obtain⟨u,h1,h2⟩:=Vals.get (i:=i) (x:=x) t (by simpa using e);exact⟨u,by simpa using h1,h2⟩
variable {u:Value}
theorem Vals.set {x:V}(r:RelV x u): ∀ {xs:List V} {us:List Value} (i:Nat),Vals xs us->Vals (xs.set i x) (us.set i u)
 |_,_,_,.nil=> .nil
 |_,_,0,.cons _ t=> .cons r t
 |_,_,i+1,.cons q t=> .cons q (Vals.set r i t)
theorem Vals.append: ∀ {xs ys:List V} {us ws:List Value},Vals xs us->Vals ys ws->Vals (xs++ys) (us++ws)
 |_,_,_,_,.nil,s=>s
 |_,_,_,_,.cons r t,s=> .cons r (Vals.append t s)
theorem Vals.take: ∀ {xs:List V} {us:List Value} (n:Nat),Vals xs us->Vals (xs.take n) (us.take n)
 |_,_,0,_=> .nil
 |_,_,_+1,.nil=> .nil
 |_,_,n+1,.cons r t=> .cons r (Vals.take n t)
theorem Vals.drop: ∀ {xs:List V} {us:List Value} (n:Nat),Vals xs us->Vals (xs.drop n) (us.drop n)
 |_,_,0,r=>r
 |_,_,_+1,.nil=> .nil
 |_,_,n+1,.cons _ t=>Vals.drop n t
def Ty:Option V->Option Value->Prop
 |some v,some u=>RelV v u
 |none,none=>True
 |_,_=>False
def KV {κ:Type}:List (κ×V)->List (κ×Value)->Prop:=Paired λ(p:κ×V) (q:κ×Value)=>p.1=q.1/\RelV p.2 q.2
def kV:Key->V
 | .inl i=> .int i
 | .inr x=> .str x
inductive HO where
 /-- a list -/
 |lst (xs:List V)
 /-- a tuple (never changes) -/
 |tup (xs:List V)
 /-- a dict whose keys are ints and texts;one whose keys are tuples of ints and texts (the empty one is both) -/
 |dK (kvs:List (Key×V))|dT (kvs:List (List Key×V))
 /-- a set of ints: its members,its size -/
 |set (S:Int->Bool) (n:Nat)
 /-- an instance of the class at C,its dict at dx,its attributes -/
 |ins (C dx:Addr) (fs:List (Str×V))
 /-- the dict of the instance at x -/
 |own (x:Addr)
 /-- the dict of an exception -/
 |xd (fs:List (Str×V))
 /-- a bound method,f of x -/
 |met (f x:Addr)
 /-- a range object lo,lo+1,.. below hi -/
 |rng (lo hi:Int)
 /-- a thing that is known to the object (the script;a dict while a loop walks it):read,never written while it is so -/
 |frz (o:Obj) (u:HO)
 /-- a code object's table -/
 |tbl (ps:Array Value)
 /-- any other thing,by what is true of its one object (a def of one's own: SetO a S n:=HO.ext λh=> ..) -/
 |ext (φ:Heap->Prop)
abbrev Hp:=Addr->Option HO
def upd (H:Hp)(a:Addr)(o:HO):Hp:=λb=>if b=a then some o else H b
variable {H:Hp}{a:Addr}{o:HO}
theorem jz:upd H a o a=some o:=by unfold upd;rw [if_pos rfl]
variable {b:Addr}
theorem jx (h:b≠a):upd H a o b=H b:=by unfold upd;rw [if_neg h]
theorem Da {u:HO}(h:H a=some o)(h':H b=some u)(d:o≠u):a≠b:=by
 intro e;subst e;rw [h] at h';exact d (M7 h')
theorem jt (h:H a=some o)(h':H b=none):a≠b:=by
 intro e;subst e;rw [h] at h';cases h'
def IsTupN (h:Heap)(a:Addr)(items:Array Value):Prop:= ∃o,h.get? a=some o/\o.cls= .type "tuple" /\o.dict=none/\ ∃n,o.data= .seq items n
theorem IsTupN.tup {h:Heap}{a:Addr}{items:Array Value}(x:IsTupN h a items):IsTup h a items:=let ⟨o,e,c,_,n,d⟩:=x;⟨o,e,c,n,d⟩
theorem IsTupN.new (h:Heap)(items:Array Value):IsTupN (h.push {cls:= .type "tuple",data:= .seq items}) h.objs.size items:=⟨_,P8 _ rfl,rfl,rfl,_,rfl⟩
section
variable (P:Program)(w:World)
def ObjOk (H:Hp)(h:Heap)(a:Addr):HO->Prop
 | .lst xs=>xs.length<=sizeLine/\ ∃ (its:List Value) (n:Nat),Vals xs its/\h.get? a=some {cls:= .type "list",data:= .seq its.toArray n}
 | .tup xs=>xs.length<=sizeLine/\ ∃its:List Value,Vals xs its/\IsTupN h a its.toArray
 | .dK kvs=>kvs.length<=sizeLine/\(a==sysModules)=false/\ ∃vs,KV kvs vs/\h.DictOf (Rk P w) a vs
 | .dT kvs=>kvs.length<=sizeLine/\(a==sysModules)=false/\ ∃xs:List (List Key×Addr×Value),
  Paired (λ(p:List Key×V) (q:List Key×Addr×Value)=>p.1=q.1/\H q.2.1=some (.tup (p.1.map kV))/\RelV p.2 q.2.2) kvs xs/\
  ∃o es ep,h.get? a=some o/\o.ExactDict/\o.data= .dict es ep/\es.toList=xs.map (entryOfKey (tupleKind (Rk P w)))/\(xs.map (·.1)).Nodup
 | .set S n=>h.SetOf (intKind P w) a S n
 | .ins C dx fs=>H dx=some (.own a)/\fs.length<=1000/\dx≠a/\h.get? a=some (PySem.W.instObj C dx)/\
  ∃mA,h.Ns1 dx mA/\(∀f,Ty (fs.lookup f) (mA f))/\PySem.Within mA (fs.map (·.1))
 | .own _=> ∃o,h.get? a=some o
 | .xd fs=> ∃mA,h.Ns1 a mA/\ ∀f,Ty (fs.lookup f) (mA f)
 | .rng lo hi=> ∃t u v,h.get? a=some {cls:= .type "range",data:= .fields #[.int lo t,.int hi u,.int 1 v]}
 | .frz o u=>h.get? a=some o/\ObjOk H h a u
 | .tbl ps=>h.get? a=some {cls:= .none,data:= .fields ps}
 | .met f x=>h.get? a=some (PySem.W.methodObj (.ref f) (.ref x))
 | .ext φ=>φ h/\(∃o,h.get? a=some o)/\ ∀h1 h2:Heap,φ h1->(∀o,h1.get? a=some o->h2.get? a=some o)->φ h2
def HOk (H:Hp)(h:Heap):Prop:= ∀a o,H a=some o->ObjOk P w H h a o
end
section
variable {P:Program}{w:World}{H H':Hp}{h h':Heap}{a:Addr}{o:HO}
theorem ObjOk.lt (x:ObjOk P w H h a o):a<h.objs.size:=by
 cases o with
 |lst xs=>obtain⟨_,_,_,_,e⟩:=x;exact P2 e
 |tup xs=>obtain⟨_,_,_,p⟩:=x;exact p.tup.lt
 |dK kvs=>obtain⟨_,_,_,_,o,_,_,e,_⟩:=x;exact P2 e
 |dT kvs=>obtain⟨_,_,_,_,o,_,_,e,_⟩:=x;exact P2 e
 |set S n=>obtain⟨o,_,_,_,e,_⟩:=x;exact P2 e
 |ins C dx fs=>obtain⟨_,_,_,e,_⟩:=x;exact P2 e
 |own y=>obtain⟨_,e⟩:=x;exact P2 e
 |xd fs=>obtain⟨_,⟨_,_,_,e,_⟩,_⟩:=x;exact P2 e
 |rng lo hi=>obtain⟨_,_,_,e⟩:=x;exact P2 e
 |frz ob u=>obtain⟨e,_⟩:=x;exact P2 e
 |tbl ps=>exact P2 (show h.get? a=some _ from x)
 |met f y=>exact P2 (show h.get? a=some _ from x)
 |ext φ=>obtain⟨_,⟨_,e⟩,_⟩:=x;exact P2 e
theorem Paired.mapP {α β:Type}{F G:α->β->Prop}: ∀ {l₁:List α} {l₂:List β},Paired F l₁ l₂->(∀a b,F a b->G a b)->Paired G l₁ l₂
 |_,_,.nil,_=> .nil
 |_,_,.cons r t,f=> .cons (f _ _ r) (Paired.mapP t f)
theorem ObjOk.stay (x:ObjOk P w H h a o)(k: ∀b u,(b=a\/H b=some (.own a))->h.get? b=some u->h'.get? b=some u)
 (ho: ∀b,H b=some (.own a)->H' b=some (.own a))(ht: ∀b xs,H b=some (.tup xs)->H' b=some (.tup xs)):ObjOk P w H' h' a o:=by
 induction o with
 |lst xs=>obtain⟨z,its,n,r,e⟩:=x;exact⟨z,its,n,r,k _ _ (.inl rfl) e⟩
 |tup xs=>obtain⟨z,its,r,ob,e,c⟩:=x;exact⟨z,its,r,ob,k _ _ (.inl rfl) e,c⟩
 |dK kvs=>obtain⟨z,y,vs,r,ob,es,ep,e,c⟩:=x;exact⟨z,y,vs,r,ob,es,ep,k _ _ (.inl rfl) e,c⟩
 |dT kvs=>
  obtain⟨z,y,xs,r,ob,es,ep,e,c⟩:=x;exact⟨z,y,xs,Paired.mapP r λp q z=>⟨z.1,ht _ _ z.2.1,z.2.2⟩,ob,es,ep,k _ _ (.inl rfl) e,c⟩
 |set S n=>obtain⟨ob,es,ep,t,e,c⟩:=x;exact⟨ob,es,ep,t,k _ _ (.inl rfl) e,c⟩
 |ins C dx fs=>
  obtain⟨d,z,ne,e,mA,⟨od,es,ep,e2,c⟩,r⟩:=x;exact⟨ho _ d,z,ne,k _ _ (.inl rfl) e,mA,⟨od,es,ep,k _ _ (.inr d) e2,c⟩,r⟩
 |own y=>obtain⟨ob,e⟩:=x;exact⟨ob,k _ _ (.inl rfl) e⟩
 |xd fs=>obtain⟨mA,⟨od,es,ep,e,c⟩,r⟩:=x;exact⟨mA,⟨od,es,ep,k _ _ (.inl rfl) e,c⟩,r⟩
 |rng lo hi=>obtain⟨t,u,v,e⟩:=x;exact⟨t,u,v,k _ _ (.inl rfl) e⟩
 |frz ob u ih=>obtain⟨e,q⟩:=x;exact⟨k _ _ (.inl rfl) e,ih q⟩
 |tbl ps=>
  have e:h.get? a=some {cls:= .none,data:= .fields ps}:=x;show h'.get? a=some {cls:= .none,data:= .fields ps};exact k a _ (.inl rfl) e
 |met f y=>
  have e:h.get? a=some (PySem.W.methodObj (.ref f) (.ref y)):=x;show h'.get? a=some (PySem.W.methodObj (.ref f) (.ref y));exact k a _ (.inl rfl) e
 |ext φ=>obtain⟨p,⟨o,e⟩,st⟩:=x;exact⟨st _ _ p λo q=>k _ _ (.inl rfl) q,⟨o,k _ _ (.inl rfl) e⟩,st⟩
theorem HOk.lt (x:HOk P w H h)(e:H a=some o):a<h.objs.size:=(x a o e).lt
theorem HOk.fresh (x:HOk P w H h)(e:h.objs.size<=a):H a=none:=by
 cases q:H a with
 |none=>rfl
 |some u=>exact absurd (R7 (x.lt q) e) (S7 _)
theorem HOk.kept (x:HOk P w H h)(k: ∀b u,h.get? b=some u->h'.get? b=some u):HOk P w H h':=λa o e=>
 (x a o e).stay (λb u _ q=>k b u q) (λ_ q=>q) λ_ _ q=>q
theorem HOk.laid (x:HOk P w H h)(k: ∀b u,h.get? b=some u->h'.get? b=some u)(hp:h.objs.size<=a)(new:ObjOk P w (upd H a o) h' a o):HOk P w (upd H a o) h':=λb u e=>by
 have hn:=x.fresh hp
 by_cases hb:b=a
 ·subst hb;rw [jz] at e;cases e;exact new
 ·rw [jx hb] at e;exact(x b u e).stay (λc v _ q=>k c v q) (λc q=>by rw [jx (jt q hn)];exact q) λc xs q=>by rw [jx (jt q hn)];exact q
end
def Rd (H:Hp)(a:Addr)(u:HO):Prop:=H a=some u\/ ∃o,H a=some (.frz o u)
variable {P:Program}{w:World}{h:Heap}
theorem Rd.ok {u:HO}(r:Rd H a u)(x:HOk P w H h):ObjOk P w H h a u:=by
 rcases r with r|⟨o,r⟩
 ·exact x a u r
 ·obtain⟨_,q⟩:=x a _ r;exact q
def Mut:Option HO->Prop
 |some (.lst _)=>True
 |some (.dK _)=>True
 |some (.dT _)=>True
 |some (.set _ _)=>True
 |some (.ins _ _ _)=>True
 |some (.ext _)=>True
 |_=>False
section
variable {P:Program}{w:World}{H:Hp}{h h':Heap}{x e:Addr}{o':HO}
theorem HOk.write (ok:HOk P w H h)(mu:Mut (H x))(he:e=x\/H e=some (.own x))(k: ∀b u,b≠e->h.get? b=some u->h'.get? b=some u)(heo: ∃u,h'.get? e=some u)
 (new:ObjOk P w (upd H x o') h' x o'):HOk P w (upd H x o') h':=λb u q=>by
 have nown: ∀c y,H c=some (.own y)->c≠x:=λc y r z=>by subst z;rw [r] at mu;exact mu
 have ntup: ∀c xs,H c=some (.tup xs)->c≠x:=λc xs r z=>by subst z;rw [r] at mu;exact mu
 by_cases hb:b=x
 ·subst hb;rw [jz] at q;cases q;exact new
 ·rw [jx hb] at q
  by_cases hbe:b=e
  ·have q':H b=some (.own x):=by
    rcases he with z|z
    ·exact absurd (hbe.trans z) hb
    ·rw [hbe];exact z
   rw [q] at q';cases q';obtain⟨v,hv⟩:=heo;exact⟨v,by rw [hbe];exact hv⟩
  ·refine(ok b u q).stay (λc v hc r=>k c v ?_ r) (λc r=>by rw [jx (nown c b r)];exact r) λc xs r=>by rw [jx (ntup c xs r)];exact r
   rcases hc with rfl|hc
   ·exact hbe
   ·rintro rfl;rcases he with z|z
    ·exact nown c b hc z
    ·rw [hc] at z;cases z;exact hb rfl
end
structure Un (fs ex:List Addr)(H H':Hp)(h h':Heap):Prop where
 keep: ∀b o,h.get? b=some o->H b=none->b ∉ fs->b ∉ ex->h'.get? b=some o
 slot: ∀b o,h.get? b=some o->H b=none->b∈fs->b ∉ ex-> ∃sl,h'.get? b=some {o with slots:=sl}
 free: ∀b o,h.get? b=some o->H b=none->b ∉ ex->H' b=none
 there: ∀b o,h.get? b=some o->b ∉ ex-> ∃o',h'.get? b=some o'
 tups: ∀b xs,H b=some (.tup xs)->H' b=some (.tup xs)
 frzs: ∀b o u,H b=some (.frz o u)->H' b=some (.frz o u)
 tbls: ∀b ps,H b=some (.tbl ps)-> ∃more,H' b=some (.tbl (ps++more))
section
variable {fs fs' ex ex':List Addr}{H H1 H2:Hp}{h h1 h2 h':Heap}{a x e:Addr}{o:HO}
theorem Un.any (u:Un fs ex H H1 h h1){b:Addr}{ob:Obj}(q:h.get? b=some ob)(n:H b=none)(hx:b ∉ ex): ∃sl,h1.get? b=some {ob with slots:=sl}:=by
 by_cases hb:b∈fs
 ·exact u.slot b ob q n hb hx
 ·exact⟨ob.slots,u.keep b ob q n hb hx⟩
theorem Un.kept (k: ∀b u,h.get? b=some u->h'.get? b=some u):Un fs ex H H h h':=
 ⟨λb ob q _ _ _=>k b ob q,λb ob q _ _ _=>⟨ob.slots,k b ob q⟩,λ_ _ _ n _=>n,λb ob q _=>⟨ob,k b ob q⟩,λ_ _ q=>q,λ_ _ _ q=>q,λ_ ps q=>⟨#[],by rw [q];simp⟩⟩
theorem Un.refl:Un fs ex H H h h:=Un.kept λ_ _ q=>q
theorem Un.laid (k: ∀b u,h.get? b=some u->h'.get? b=some u)(hp:h.objs.size<=a)(hn:H a=none):Un fs ex H (upd H a o) h h' where
 keep:=λb u q _ _ _=>k b u q
 slot:=λb u q _ _ _=>⟨u.slots,k b u q⟩
 free:=λb u q n _=>by rw [jx (R1 (R7 (P2 q) hp))];exact n
 there:=λb u q _=>⟨u,k b u q⟩
 tups:=λb xs q=>by rw [jx (jt q hn)];exact q
 frzs:=λb u xs q=>by rw [jx (jt q hn)];exact q
 tbls:=λb ps q=>⟨#[],by rw [jx (jt q hn),q];simp⟩
theorem Un.write (mu:Mut (H x))(he:e=x\/H e=some (.own x))(k: ∀b u,b≠e->h.get? b=some u->h'.get? b=some u)(heo: ∃u,h'.get? e=some u):Un fs ex H (upd H x o) h h':=by
 have hx: ∀b,H b=none->b≠x:=λb n z=>by subst z;rw [n] at mu;exact mu
 have hb: ∀b,H b=none->b≠e:=λb n z=>by
  subst z;rcases he with r|r
  ·exact hx b n r
  ·rw [n] at r;cases r
 have hm: ∀b u,H b=some u-> ¬Mut (some u)->b≠x:=λb u q nm z=>by subst z;rw [q] at mu;exact nm mu
 refine⟨λb u q n _ _=>k b u (hb b n) q,λb u q n _ _=>⟨u.slots,k b u (hb b n) q⟩,λb u q n _=>by rw [jx (hx b n)];exact n,λb u q _=> ?_,
  λb xs q=>by rw [jx (hm b _ q λz=>z)];exact q,λb u xs q=>by rw [jx (hm b _ q λz=>z)];exact q,λb ps q=>⟨#[],by rw [jx (hm b _ q λz=>z),q];simp⟩⟩
 by_cases hbe:b=e
 ·subst hbe;exact heo
 ·exact⟨u,k b u hbe q⟩
end
def trk (h:Heap)(H:Hp):List Addr:=(List.range h.objs.size).filter λa=>(H a).isSome
def Bx (h:Heap)(H:Hp):Heap:=PySem.W.hideAll h (trk h H)
theorem Rl (h:Heap)(H:Hp):(Bx h H).objs.size=h.objs.size:=PySem.W.hideAll_size _ _
theorem VJ {o:Obj}(e:h.get? b=some o)(n:H b=none):(Bx h H).get? b=some o:=
 PySem.W.hideAll_get _ e λhm=>by
  have q:(H b).isSome=true:=(N4.mp hm).2;rw [n] at q;simp at q
theorem FS {o:Obj}(e:(Bx h H).get? b=some o):h.get? b=some o/\H b=none:=by
 have e':h.get? b=some o:=PySem.W.of_hideAll (trk h H) e;refine⟨e',?_⟩;cases q:H b with
 |none=>rfl
 |some x=>
  have hm:b∈trk h H:=N4.mpr ⟨R0.mpr (P2 e'),by simp [q]⟩;have z:(Bx h H).get? b=none:=PySem.W.hideAll_none (trk h H) hm;rw [z] at e;cases e
def FT (g h:Heap)(L:Addr):List (Addr×Obj):=(List.range h.objs.size).filterMap λa=>if a=L\/(g.get? a).isSome=true then none else (h.get? a).map λo=>(a,o)
def rest (g h:Heap)(L d:Addr):List (Addr×Obj):=(FT g h L).filter λp=>decide (p.1≠d)
structure Mod (K:PySem.W.Frag)(mg:Str->Option Value)(base:Heap):Prop where
 kin:K.In base
 glob:base.Ns mainGlobals mg
 blt: ∃mb,base.Ns builtinsNs mb/\ ∀x:Str,x≠ "__name__" ->mb x=bootBuiltins x
 nolimit:base.NoLimit
structure Cx where
 prog:Program
 w:World
 K:PySem.W.Frag
 mg:Str->Option Value
 base:Heap
 A:Around
 N:List Str
 s₀:Shared
 H₀:Hp
 env:Env
 outer:List Env
 stack:List Env
 ex:List Addr
 fn:Str->Bool
 calm:Bool
 pn:List (Addr×Obj)
 xe:Value->Shared->Prop
def frs (l:List Env):List Addr:=l.filterMap (·.frame)
abbrev Cx.fs (X:Cx):List Addr:=frs X.outer
def Vis (sc:Scope)(x:Str):Prop:=sc.names.lookup x=some .local\/sc.names.lookup x=some .cell\/sc.names.lookup x=some .free
def Loc (sc:Scope)(x:Str):Prop:=sc.names.lookup x=some .local\/sc.names.lookup x=some .cell
def KR (env:Env)(h:Heap)(m:Str->Option Value)(x:Str)(u:Value):Prop:=
 (env.kindOf x=some .local/\m x=some u)\/((env.kindOf x=some .cell\/env.kindOf x=some .free)/\ ∃c,env.cells.lookup x=some c/\h.IsCell c (some u))
structure Cx.Ok (X:Cx):Prop where
 mod:Mod X.K X.mg X.base
 kind:X.env.scope.kind= .function
 glob:X.env.globals=mainGlobals
 blt:X.env.builtins=builtinsNs
 above:X.s₀.heap.objs.size<=X.env.locals
 inj: ∀x y c,X.env.cells.lookup x=some c->X.env.cells.lookup y=some c->x=y
 has: ∀x,(X.env.kindOf x=some .cell\/X.env.kindOf x=some .free)-> ∃c,X.env.cells.lookup x=some c
 cab: ∀x c,X.fn x=true->X.env.cells.lookup x=some c->X.s₀.heap.objs.size<=c
 hd:X.calm=true->X.A.handled=none
 frames:X.A.frames=some X.stack
 stk:X.stack=X.outer\/(X.stack=X.env::X.outer/\X.env.frame=some X.env.locals)
 exf: ∀b∈X.ex,b≠X.env.locals/\ ∀x c,X.env.cells.lookup x=some c->c≠b
 bs: ∀b o,X.base.get? b=some o->X.s₀.heap.get? b=some o/\X.H₀ b=none
 bsz:X.base.objs.size<=X.s₀.heap.objs.size
 noex: ∀b o,X.base.get? b=some o->b ∉ X.ex
 exfs: ∀b∈X.ex,b ∉ X.fs
 funs:X.s₀.heap.FunFrames X.base X.outer
 frf: ∀b∈X.fs,X.H₀ b=none
structure Inv (X:Cx)(pins:List (Addr×Obj))(σ:List (Option V))(H:Hp)(s:Shared):Prop where
 ok:X.Ok
 os:s.os=X.s₀.os
 bare:AllBare s.gens
 base:Un X.fs X.ex X.H₀ H X.s₀.heap s.heap
 loc: ∃m,s.heap.Ns X.env.locals m/\ ∀ (i:Nat) (x:Str) (v:V),X.N[i]? =some x->σ[i]? =some (some v)->Vis X.env.scope x-> ∃u,RelV v u/\KR X.env s.heap m x u
 cell: ∀x c,X.env.cells.lookup x=some c-> ∃v,s.heap.IsCell c v
 free:H X.env.locals=none
 freeC: ∀x c,X.env.cells.lookup x=some c->H c=none
 pin: ∀p∈X.pn++pins,s.heap.get? p.1=some p.2/\H p.1=none/\p.1≠X.env.locals/\p.1 ∉ X.fs/\ ∀v,p.2.data≠ .cell v
 hok:HOk X.prog X.w H s.heap
 len:σ.length=X.N.length
section
variable {X:Cx}{pins:List (Addr×Obj)}{σ:List (Option V)}{H H':Hp}{s:Shared}{h':Heap}
theorem Cx.Ok.nofr (ok:X.Ok){b:Addr}{o:Obj}(e:X.base.get? b=some o):b ∉ X.fs:=λhb=>by
 have:=(ok.funs.mem hb).1;rw [e] at this;cases this
theorem Inv.bs (I:Inv X pins σ H s): ∀b o,X.base.get? b=some o->s.heap.get? b=some o/\H b=none:=λb o e=>
 ⟨I.base.keep b o (I.ok.bs b o e).1 (I.ok.bs b o e).2 (I.ok.nofr e) (I.ok.noex b o e),I.base.free b o (I.ok.bs b o e).1 (I.ok.bs b o e).2 (I.ok.noex b o e)⟩
theorem Inv.bk (I:Inv X pins σ H s): ∀b o,X.base.get? b=some o->s.heap.get? b=some o:=λb o e=>(I.bs b o e).1
theorem Inv.mod (I:Inv X pins σ H s):Mod X.K X.mg X.base:=I.ok.mod
theorem Inv.kIn (I:Inv X pins σ H s):X.K.In s.heap:=I.ok.mod.kin.keeps I.bk
theorem Inv.lt (I:Inv X pins σ H s):X.env.locals<s.heap.objs.size:=let ⟨_,hn,_⟩:=I.loc;hn.lt
theorem Inv.sz (I:Inv X pins σ H s):X.s₀.heap.objs.size<=s.heap.objs.size:=D6 I.ok.above (D5 I.lt)
theorem Inv.nofs (I:Inv X pins σ H s){a:Addr}(h:s.heap.objs.size<=a):a ∉ X.fs:=λhb=>by
 obtain⟨_,o,ho,_⟩:=I.ok.funs.mem hb;exact absurd (R7 (P2 ho) (D6 I.sz h)) (S7 _)
theorem Inv.cne (I:Inv X pins σ H s): ∀x c,X.env.cells.lookup x=some c->c≠X.env.locals:=λx c e z=>by
 obtain⟨v,o,ho,hd⟩:=I.cell x c e;obtain⟨m,⟨o',es,ep,ho',hd',_⟩,_⟩:=I.loc;rw [z,ho'] at ho;cases ho;rw [hd'] at hd;cases hd
theorem Inv.funs (I:Inv X pins σ H s):s.heap.FunFrames X.base X.outer:=by
 have all: ∀ (l:List Env),(∀b∈frs l,b∈X.fs)->X.s₀.heap.FunFrames X.base l->s.heap.FunFrames X.base l:=by
  intro l
  induction l with
  |nil=>intro _ _;trivial
  |cons env r ih=>
   intro hs hl;obtain⟨hk,⟨L,o,hf,hn,ho,hd⟩,hr⟩:=hl;have hL:L∈X.fs:=hs L (by unfold frs;rw [List.filterMap_cons,hf];exact List.mem_cons_self);obtain⟨sl,e⟩:=I.base.slot L o ho (I.ok.frf L hL) hL λz=>I.ok.exfs L z hL
   exact⟨hk,⟨L,_,hf,hn,e,hd⟩,ih (λb hb=>hs b (by unfold frs;rw [List.filterMap_cons,hf];exact List.mem_cons_of_mem _ hb)) hr⟩
 exact all X.outer (λ_ hb=>hb) I.ok.funs
theorem Inv.stack (I:Inv X pins σ H s):s.heap.FunFrames X.base X.stack:=by
 rcases I.ok.stk with e|⟨e,hf⟩
 ·rw [e];exact I.funs
 ·rw [e];obtain⟨m,hn,_⟩:=I.loc;refine .cons (by rw [I.ok.kind];decide) hf hn ?_ I.funs;exact Heap.get?_none_of_le (D6 I.ok.bsz I.ok.above)
theorem Inv.stkSub (I:Inv X pins σ H s): ∀b∈frs X.stack,b∈X.env.locals::X.fs:=λb hb=>by
 rcases I.ok.stk with e|⟨e,hf⟩
 ·rw [e] at hb;exact D2 _ hb
 ·rw [e] at hb;unfold frs at hb;rw [G1g,hf] at hb;exact hb
theorem Inv.stkFree (I:Inv X pins σ H s): ∀b∈frs X.stack,H b=none:=λb hb=>by
 rcases D3.mp (I.stkSub b hb) with e|hb
 ·rw [e];exact I.free
 ·obtain⟨_,o,ho,_⟩:=I.ok.funs.mem hb;exact I.base.free b o ho (I.ok.frf b hb) λz=>I.ok.exfs b z hb
variable {t':Nat}
theorem Inv.step {g':Array GenState}{d':Drawn}{ch:List Addr}(I:Inv X pins σ H s)
 (hch: ∀b∈ch,(b∈X.ex\/X.s₀.heap.objs.size<=b)/\b≠X.env.locals/\(∀x c,X.env.cells.lookup x=some c->c≠b)/\ ∀p∈X.pn++pins,p.1≠b)
 (keep: ∀b o,b≠X.env.locals->b ∉ X.fs->b ∉ ch->s.heap.get? b=some o->H b=none->h'.get? b=some o)
 (slot: ∀b o,b≠X.env.locals->b∈X.fs->b ∉ ch->s.heap.get? b=some o->H b=none-> ∃sl,h'.get? b=some {o with slots:=sl})(free: ∀b o,b ∉ ch->s.heap.get? b=some o->H b=none->H' b=none)
 (there: ∀b o,b ∉ ch->s.heap.get? b=some o-> ∃o',h'.get? b=some o')
 (tups: ∀b xs,H b=some (.tup xs)->H' b=some (.tup xs))(frzs: ∀b o u,H b=some (.frz o u)->H' b=some (.frz o u))(tbls: ∀b ps,H b=some (.tbl ps)-> ∃more,H' b=some (.tbl (ps++more)))
 (ns: ∀m,s.heap.Ns X.env.locals m->h'.Ns X.env.locals m)(hok:HOk X.prog X.w H' h')(hg:AllBare g'):
 Inv X pins σ H' {s with heap:=h',gens:=g',drawn:=d',toks:=t'}:=by
 have neL: ∀b o,X.s₀.heap.get? b=some o->b≠X.env.locals:=λb o e=>R1 (R7 (P2 e) I.ok.above)
 have neC: ∀b o,X.s₀.heap.get? b=some o->b ∉ X.ex->b ∉ ch:=λb o e hx hb=>by
  rcases (hch b hb).1 with z|z
  ·exact hx z
  ·exact absurd (R7 (P2 e) z) (S7 _)
 have cellK: ∀x c,X.env.cells.lookup x=some c-> ∀v,s.heap.IsCell c v->h'.IsCell c v:=λx c e v ⟨o,ho,hd⟩=>by
  have nch:c ∉ ch:=λz=>(hch c z).2.2.1 x c e rfl
  by_cases hc:c∈X.fs
  ·obtain⟨sl,q⟩:=slot c o (I.cne x c e) hc nch ho (I.freeC x c e);exact⟨_,q,hd⟩
  ·exact⟨o,keep c o (I.cne x c e) hc nch ho (I.freeC x c e),hd⟩
 refine⟨I.ok,I.os,hg,⟨λb o e n hb hx=> ?_,λb o e n hb hx=> ?_,λb o e n hx=> ?_,λb o e hx=> ?_,λb xs e=>tups b xs (I.base.tups b xs e),λb o xs e=>frzs b o xs (I.base.frzs b o xs e),λb ps e=> ?_⟩,?_,λx c e=> ?_,?_,λx c e=> ?_,λp hp=> ?_,hok,I.len⟩
 ·exact keep b o (neL b o e) hb (neC b o e hx) (I.base.keep b o e n hb hx) (I.base.free b o e n hx)
 ·obtain⟨sl,e1⟩:=I.base.slot b o e n hb hx;obtain⟨sl',e2⟩:=slot b _ (neL b o e) hb (neC b o e hx) e1 (I.base.free b o e n hx);exact⟨sl',e2⟩
 ·obtain⟨o',e1⟩:=I.base.there b o e hx;exact free b o' (neC b o e hx) e1 (I.base.free b o e n hx)
 ·obtain⟨o',e1⟩:=I.base.there b o e hx;exact there b o' (neC b o e hx) e1
 ·obtain⟨m1,e1⟩:=I.base.tbls b ps e;obtain⟨m2,e2⟩:=tbls b _ e1;exact⟨m1++m2,by rw [e2,Array.append_assoc]⟩
 ·obtain⟨m,hn,hl⟩:=I.loc;refine⟨m,ns m hn,λi x v e1 e2 e3=> ?_⟩;obtain⟨u,r,l⟩:=hl i x v e1 e2 e3;refine⟨u,r,?_⟩;rcases l with l|⟨k,c,e,z⟩
  ·exact .inl l
  ·exact .inr ⟨k,c,e,cellK x c e _ z⟩
 ·obtain⟨v,z⟩:=I.cell x c e;exact⟨v,cellK x c e v z⟩
 ·obtain⟨m,⟨o,_,_,ho,_⟩,_⟩:=I.loc;exact free _ o (λz=>(hch _ z).2.1 rfl) ho I.free
 ·obtain⟨v,o,ho,hd⟩:=I.cell x c e;exact free c o (λz=>(hch c z).2.2.1 x c e rfl) ho (I.freeC x c e)
 ·obtain⟨e,n,ne,nf,d⟩:=I.pin p hp;have nch:p.1 ∉ ch:=λz=>(hch p.1 z).2.2.2 p hp rfl
  exact⟨keep p.1 p.2 ne nf nch e n,free p.1 p.2 nch e n,ne,nf,d⟩
theorem Inv.un (I:Inv X pins σ H s)(u:Un X.fs [] H H' s.heap h')(hok:HOk X.prog X.w H' h'):Inv X pins σ H' {s with heap:=h',toks:=t'}:=by
 obtain⟨m,⟨o,es,ep,ho,r⟩,_⟩:=id I.loc;obtain⟨sl,hL⟩:=u.any ho I.free (by simp);exact I.step (g':=s.gens) (d':=s.drawn) (ch:= []) (λ_ z=>nomatch z) (λb o _ hb _ e n=>u.keep b o e n hb (by simp)) (λb o _ hb _ e n=>u.slot b o e n hb (by simp)) (λb o _ e n=>u.free b o e n (by simp)) (λb o _ e=>u.there b o e (by simp)) u.tups u.frzs u.tbls (λm' hm=>by
  obtain⟨o',es',ep',ho',r'⟩:=hm;rw [ho] at ho';cases ho';exact⟨_,es',ep',hL,r'⟩) hok I.bare
theorem Inv.call {g':Array GenState}{d':Drawn}{ch:List Addr}(I:Inv X pins σ H s)(u:Un (frs X.stack) ch H H' s.heap h')(hok:HOk X.prog X.w H' h')(hg:AllBare g')
 (hch: ∀b∈ch,(b∈X.ex\/X.s₀.heap.objs.size<=b)/\b≠X.env.locals/\(∀x c,X.env.cells.lookup x=some c->c≠b)/\ ∀p∈X.pn++pins,p.1≠b):
 Inv X pins σ H' {s with heap:=h',gens:=g',drawn:=d',toks:=t'}:=by
 obtain⟨m,⟨o,es,ep,ho,r⟩,_⟩:=id I.loc;obtain⟨sl,hL⟩:=u.any ho I.free λz=>(hch _ z).2.1 rfl
 exact I.step (ch:=ch) hch (λb o hL hb hc e n=>u.keep b o e n (λz=>(D3.mp (I.stkSub b z)).elim hL hb) hc) (λb o _ _ hc e n=>u.any e n hc) (λb o hc e n=>u.free b o e n hc) (λb o hc e=>u.there b o e hc) u.tups u.frzs u.tbls (λm' hm=>by
  obtain⟨o',es',ep',ho',r'⟩:=hm;rw [ho] at ho';cases ho';exact⟨_,es',ep',hL,r'⟩) hok hg
theorem Inv.turned {it:Addr}(I:Inv X pins σ H s)(k: ∀b o,b≠it->s.heap.get? b=some o->h'.get? b=some o)(hn:H it=none)(hL:it≠X.env.locals)
 (h1:it∈X.ex\/X.s₀.heap.objs.size<=it)(h2: ∀x c,X.env.cells.lookup x=some c->c≠it)(h3: ∀p∈X.pn++pins,p.1≠it):Inv X pins σ H {s with heap:=h',toks:=t'}:=by
 have nit: ∀b u,H b=some u->b≠it:=λb u e z=>by rw [z,hn] at e;cases e
 refine I.step (g':=s.gens) (d':=s.drawn) (ch:= [it]) (λb hb=> ?_) (λb o _ _ hc e _=>k b o (λz=>hc (by simp [z])) e) (λb o _ _ hc e _=>⟨o.slots,k b o (λz=>hc (by simp [z])) e⟩) (λ_ _ _ _ n=>n)
  (λb o hc e=>⟨o,k b o (λz=>hc (by simp [z])) e⟩) (λ_ _ e=>e) (λ_ _ _ e=>e) (λb ps e=>⟨#[],by rw [e];simp⟩) (λm hm=> ?_) (λb u e=> ?_) I.bare
 ·have e:b=it:=by simpa using hb
  subst e;exact⟨h1,hL,h2,h3⟩
 ·obtain⟨o,es,ep,ho,r⟩:=hm;exact⟨o,es,ep,k _ o (Ne.symm hL) ho,r⟩
 ·refine(I.hok b u e).stay (λc v hc q=>k c v ?_ q) (λ_ q=>q) λ_ _ q=>q
  rcases hc with z|z
  ·rw [z];exact nit b u e
  ·exact nit c _ z
theorem Inv.tok (I:Inv X pins σ H s)(t:Nat):Inv X pins σ H {s with toks:=t}:=I.un (h':=s.heap) (t':=t) Un.refl I.hok
theorem Inv.kept (I:Inv X pins σ H s)(k: ∀b u,s.heap.get? b=some u->h'.get? b=some u):Inv X pins σ H {s with heap:=h',toks:=t'}:=I.un (Un.kept k) (I.hok.kept k)
theorem Inv.laid {a:Addr}{o:HO}(I:Inv X pins σ H s)(k: ∀b u,s.heap.get? b=some u->h'.get? b=some u)(hp:s.heap.objs.size<=a)(new:ObjOk X.prog X.w (upd H a o) h' a o):
 Inv X pins σ (upd H a o) {s with heap:=h',toks:=t'}:=I.un (Un.laid k hp (I.hok.fresh hp)) (I.hok.laid k hp new)
theorem Inv.write {x e:Addr}{o:HO}(I:Inv X pins σ H s)(mu:Mut (H x))(he:e=x\/H e=some (.own x))(k: ∀b u,b≠e->s.heap.get? b=some u->h'.get? b=some u)(heo: ∃u,h'.get? e=some u)
 (new:ObjOk X.prog X.w (upd H x o) h' x o):Inv X pins σ (upd H x o) {s with heap:=h',toks:=t'}:=I.un (Un.write mu he k heo) (I.hok.write mu he k heo new)
theorem Inv.weak {σ':List (Option V)}(I:Inv X pins σ H s)(hl:σ'.length=σ.length)(w: ∀ (i:Nat) v,σ'[i]? =some (some v)->σ[i]? =some (some v)):Inv X pins σ' H s:=
 ⟨I.ok,I.os,I.bare,I.base,let ⟨m,hn,hl'⟩:=I.loc;⟨m,hn,λi x v e1 e2 e3=>hl' i x v e1 (w i v e2) e3⟩,I.cell,I.free,I.freeC,I.pin,I.hok,hl.trans I.len⟩
theorem Inv.pins_of {pins':List (Addr×Obj)}(I:Inv X pins σ H s)(h: ∀p∈pins',s.heap.get? p.1=some p.2/\H p.1=none/\p.1≠X.env.locals/\p.1 ∉ X.fs/\ ∀v,p.2.data≠ .cell v):Inv X pins' σ H s:=
 ⟨I.ok,I.os,I.bare,I.base,I.loc,I.cell,I.free,I.freeC,λp hp=>(D0.mp hp).elim (λz=>I.pin p (N7 _ z)) (h p),I.hok,I.len⟩
theorem Pl {N:List Str}(hN:N.Nodup){i j:Nat}{x:Str}(a:N[i]? =some x)(b:N[j]? =some x):i=j:=by
 obtain⟨h1,e1⟩:=G6.mp a;obtain⟨h2,e2⟩:=G6.mp b;exact(List.getElem_inj hN).mp (e1.trans e2.symm)
theorem Rm {M:Model}{A:Around}{E:Value->Shared->Prop}{i:Nat}{x:Str}{v:V}{u:Value}{Q:Unit->Shared->Prop}(I:Inv X pins σ H s)(hN:X.N.Nodup)(hi:X.N[i]? =some x)(hx:Loc X.env.scope x)(r:RelV v u)
 (h: ∀s',Inv X pins (σ.set i (some v)) H s'->(∃a,Heap.SameBut a s.heap s'.heap/\(a=X.env.locals\/X.env.cells.lookup x=some a))->Q () s')(hf:X.fn x=true\/X.env.scope.names.lookup x=some .local:=by first|exact .inl rfl|exact .inr rfl|assumption):wpAny M A (storeName X.env x u) Q E s:=by
 obtain⟨m,hn,hl⟩:=id I.loc;have hcls:(X.env.scope.kind== .class||(X.env.scope.kind== .module&&X.env.locals !=X.env.globals))=false:=by rw [I.ok.kind];rfl
 have hiσ:i<σ.length:=by rw [I.len];exact(G6.mp hi).1
 have cne:=I.cne;have tracked: ∀ {a:Addr} {h':Heap},(∃o,s.heap.get? a=some o/\H a=none)->Heap.SameBut a s.heap h'->HOk X.prog X.w H h':=λ{a h'} ha hs b ob e=>by
  obtain⟨_,_,hfree⟩:=ha;refine(I.hok b ob e).stay (λc w' hc q=>(hs.2 c ?_).trans q) (λ_ q=>q) λ_ _ q=>q
  rintro rfl;rcases hc with rfl|hc
  ·rw [hfree] at e;cases e
  ·rw [hfree] at hc;cases hc
 rcases hx with hk|hk
 ·refine wpAny_storeName_local hk hn (λh' hn' hs=> ?_) hcls;obtain⟨oL,_,_,hoL,_⟩:=id hn;refine h _ ⟨I.ok,I.os,I.bare,⟨λb o e n hb hx=> ?_,λb o e n hb hx=> ?_,I.base.free,λb o e hx=> ?_,I.base.tups,I.base.frzs,I.base.tbls⟩,⟨_,hn',λj y v' e1 e2 e3=> ?_⟩,λy c e=> ?_,I.free,I.freeC,λp hp=> ?_,tracked ⟨oL,hoL,I.free⟩ hs,by simpa using I.len⟩ ⟨_,hs,.inl rfl⟩
  ·exact(hs.2 b (R1 (R7 (P2 e) I.ok.above))).trans (I.base.keep b o e n hb hx)
  ·obtain⟨sl,e1⟩:=I.base.slot b o e n hb hx;exact⟨sl,(hs.2 b (R1 (R7 (P2 e) I.ok.above))).trans e1⟩
  ·obtain⟨o',e1⟩:=I.base.there b o e hx;exact⟨o',(hs.2 b (R1 (R7 (P2 e) I.ok.above))).trans e1⟩
  ·by_cases hj:j=i
   ·subst hj;rw [hi] at e1;cases e1;rw [W3 hiσ] at e2;cases e2;exact⟨u,r,.inl ⟨hk,by simp⟩⟩
   ·rw [F4 (Ne.symm hj)] at e2;obtain⟨u',r',q⟩:=hl j y v' e1 e2 e3;refine⟨u',r',?_⟩;rcases q with ⟨k,e⟩|⟨k,c,e,z⟩
    ·refine .inl ⟨k,?_⟩;have:y≠x:=λe=>hj (Pl hN e1 (e ▸ hi))
     simp [this,e]
    ·exact .inr ⟨k,c,e,z.sameBut hs (cne y c e)⟩
  ·obtain⟨w',z⟩:=I.cell y c e;exact⟨w',z.sameBut hs (cne y c e)⟩
  ·obtain⟨e,n,ne,nf,d⟩:=I.pin p hp;exact⟨(hs.2 p.1 ne).trans e,n,ne,nf,d⟩
 ·have hfn:X.fn x=true:=by
   rcases hf with z|z
   ·exact z
   ·rw [z] at hk;cases hk
  obtain⟨c,hc⟩:=I.ok.has x (.inl hk);obtain⟨w',z⟩:=I.cell x c hc;refine wpAny_storeName_cell I.ok.kind hk hc z (λh' hc' hs=> ?_);obtain⟨oc,hoc,hocd⟩:=id z;refine h {s with heap:=h'} ⟨I.ok,I.os,I.bare,⟨λb o e n hb hx=> ?_,λb o e n hb hx=> ?_,I.base.free,λb o e hx=> ?_,I.base.tups,I.base.frzs,I.base.tbls⟩,⟨m,hn.sameBut hs (Ne.symm (cne x c hc)),λj y v' e1 e2 e3=> ?_⟩,λy c' e=> ?_,I.free,I.freeC,λp hp=> ?_,tracked ⟨oc,hoc,I.freeC x c hc⟩ hs,by simpa using I.len⟩ ⟨c,hs,.inr hc⟩
  ·exact(hs.2 b (R1 (R7 (P2 e) (I.ok.cab x c hfn hc)))).trans (I.base.keep b o e n hb hx)
  ·obtain⟨sl,e1⟩:=I.base.slot b o e n hb hx;exact⟨sl,(hs.2 b (R1 (R7 (P2 e) (I.ok.cab x c hfn hc)))).trans e1⟩
  ·obtain⟨o',e1⟩:=I.base.there b o e hx;exact⟨o',(hs.2 b (R1 (R7 (P2 e) (I.ok.cab x c hfn hc)))).trans e1⟩
  ·by_cases hj:j=i
   ·subst hj;rw [hi] at e1;cases e1;rw [W3 hiσ] at e2;cases e2;exact⟨u,r,.inr ⟨.inl hk,c,hc,hc'⟩⟩
   ·rw [F4 (Ne.symm hj)] at e2;obtain⟨u',r',q⟩:=hl j y v' e1 e2 e3;refine⟨u',r',?_⟩;rcases q with q|⟨k,c',e,z'⟩
    ·exact .inl q
    ·refine .inr ⟨k,c',e,z'.sameBut hs ?_⟩;rintro rfl;exact hj (Pl hN e1 (I.ok.inj _ _ _ e hc ▸ hi))
  ·by_cases hcc:c'=c
   ·subst hcc;exact⟨_,hc'⟩
   ·obtain⟨w2,z2⟩:=I.cell y c' e;exact⟨w2,z2.sameBut hs hcc⟩
  ·obtain⟨e,n,ne,nf,d⟩:=I.pin p hp;refine⟨(hs.2 p.1 ?_).trans e,n,ne,nf,d⟩;intro q;rw [q,hoc] at e;have q':oc=p.2:=M7 e;exact d w' (by rw [<-q'];exact hocd)
theorem JZ {M:Model}{A:Around}{E:Value->Shared->Prop}{i:Nat}{x:Str}{v:V}{u:Value}{Q:Unit->Shared->Prop}(I:Inv X pins σ H s)(hN:X.N.Nodup)(hi:X.N[i]? =some x)(hx:Loc X.env.scope x)(r:RelV v u)
 (h: ∀s',Inv X pins (σ.set i (some v)) H s'->Q () s')(hf:X.fn x=true\/X.env.scope.names.lookup x=some .local:=by first|exact .inl rfl|exact .inr rfl|assumption):wpAny M A (storeName X.env x u) Q E s:=
 Rm I hN hi hx r (λs' I' _=>h s' I') hf
theorem Inv.call' {s':Shared}{ch:List Addr}(I:Inv X pins σ H s)(ho:s'.os=s.os)(u:Un (frs X.stack) ch H H' s.heap s'.heap)(hok:HOk X.prog X.w H' s'.heap)(hg:AllBare s'.gens)
 (hch: ∀b∈ch,(b∈X.ex\/X.s₀.heap.objs.size<=b)/\b≠X.env.locals/\(∀x c,X.env.cells.lookup x=some c->c≠b)/\ ∀p∈X.pn++pins,p.1≠b):Inv X pins σ H' s':=by
 obtain⟨h',g',d',t',o'⟩:=s';have e:o'=s.os:=ho;subst e;exact I.call (g':=g') (t':=t') (d':=d') u hok hg hch
end
abbrev XK:=Value->Option Addr->Hp->Prop
abbrev St:=List (Option V)
abbrev VK:=V->Hp->Prop
abbrev TE:=St->Hp->VK->Prop
abbrev TT:=St->Hp->(Bool->Hp->Prop)->Prop
abbrev TA:=St->Hp->(List V->Hp->Prop)->Prop
structure Ends where
 nx:St->Hp->Prop
 rt:VK
 bk:St->Hp->Prop:=λ_ _=>False
 ct:St->Hp->Prop:=λ_ _=>False
abbrev TS:=Ends->St->Hp->Prop
def EP (X:Cx)(pins:List (Addr×Obj))(σ:St)(Q:VK)(u:Value)(s':Shared):Prop:= ∃v H',Inv X pins σ H' s'/\RelV v u/\Q v H'
def TP (X:Cx)(pins:List (Addr×Obj))(σ:St)(Q:Bool->Hp->Prop)(b:Bool)(s':Shared):Prop:= ∃H',Inv X pins σ H' s'/\Q b H'
def AP (X:Cx)(pins:List (Addr×Obj))(σ:St)(Q:List V->Hp->Prop)(us:List Value)(s':Shared):Prop:= ∃vs H',Inv X pins σ H' s'/\Vals vs us/\Q vs H'
def SP (X:Cx)(pins:List (Addr×Obj))(D:Ends)(f:Flow)(s':Shared):Prop:=
 match f with
 | .next=> ∃σ' H',Inv X pins σ' H' s'/\D.nx σ' H'
 | .brk=> ∃σ' H',Inv X pins σ' H' s'/\D.bk σ' H'
 | .cont=> ∃σ' H',Inv X pins σ' H' s'/\D.ct σ' H'
 | .ret u=> ∃v σ' H',Inv X pins σ' H' s'/\RelV v u/\D.rt v H'
def PE (X:Cx)(e:Expr)(t:TE):Prop:=
 ∀ (pins:List (Addr×Obj)) (s:Shared) (σ:St) (H:Hp) (Q:VK),Inv X pins σ H s->t σ H Q->wpAny (model X.prog X.w) X.A (eval e X.env) (EP X pins σ Q) X.xe s
def PT (X:Cx)(e:Expr)(t:TT):Prop:=
 ∀ (pins:List (Addr×Obj)) (s:Shared) (σ:St) (H:Hp) (Q:Bool->Hp->Prop),Inv X pins σ H s->t σ H Q->wpAny (model X.prog X.w) X.A (isTrue e X.env (eval e X.env)) (TP X pins σ Q) X.xe s
def PW (X:Cx)(e:Expr)(t:TT):Prop:=
 ∀ (whole:Sem Value) (pins:List (Addr×Obj)) (s:Shared) (σ:St) (H:Hp) (Q:Bool->Hp->Prop),Inv X pins σ H s->t σ H Q->wpAny (model X.prog X.w) X.A (isTrue e X.env whole) (TP X pins σ Q) X.xe s
variable {X:Cx}
theorem PW.pt {e:Expr}{t:TT}(h:PW X e t):PT X e t:=h _
def PA (X:Cx)(es:List Expr)(t:TA):Prop:=
 ∀ (pos:Pos) (pins:List (Addr×Obj)) (s:Shared) (σ:St) (H:Hp) (Q:List V->Hp->Prop),Inv X pins σ H s->t σ H Q->wpAny (model X.prog X.w) X.A (spliced (backTo pos (starEach es X.env))) (AP X pins σ Q) X.xe s
def PS (X:Cx)(st:Stmt)(t:TS):Prop:=
 ∀ (pins:List (Addr×Obj)) (s:Shared) (σ:St) (H:Hp) (D:Ends),Inv X pins σ H s->t D σ H->wpAny (model X.prog X.w) X.A (exec st X.env) (SP X pins D) X.xe s
def PSs (X:Cx)(st:List Stmt)(t:TS):Prop:=
 ∀ (pins:List (Addr×Obj)) (s:Shared) (σ:St) (H:Hp) (D:Ends),Inv X pins σ H s->t D σ H->wpAny (model X.prog X.w) X.A (execs st X.env) (SP X pins D) X.xe s
variable {A:Around}{s:Shared}
theorem thn {α:Type}{t:Sem α}{Q Q':α->Shared->Prop}{M:Model}{E:Value->Shared->Prop}(h:wpAny M A t Q E s)(hQ: ∀a s,Q a s->Q' a s):wpAny M A t Q' E s:=S0 h hQ λ_ _ x=>x
section
variable {X:Cx}
def Tz (i:Nat):TE:=λσ H Q=> ∃v,σ[i]? =some (some v)/\Q v H
def tC (v:V):TE:=λ_ H Q=>Q v H
variable {x:Str}
theorem Fo {i:Nat}{pos:Pos}(hN:X.N[i]? =some x)(hv:Vis X.env.scope x)(hd:(x==("__debug__" :Str))=false:=by decide)(hcd:(x==("__classdict__" :Str))=false:=by decide):PE X (.Name x pos) (Tz i):=by
 intro pins s σ H Q I h;obtain⟨v,e,h⟩:=h;obtain⟨m,hn,hl⟩:=I.loc;obtain⟨u,r,l⟩:=hl i x v hN e hv;have fin:EP X pins σ Q u s:=⟨v,H,I,r,h⟩;rcases l with ⟨hk,hm⟩|⟨hk,c,hc,hcell⟩
 ·exact wpAny_Name (wpAny_loadName_local I.ok.kind hk hn hm fin) hd
 ·rcases hk with hk|hk
  ·exact wpAny_Name (wpAny_loadName_cell I.ok.kind hk hc hcell fin) hd
  ·exact wpAny_Name (wpAny_loadName_free I.ok.kind hk hc hcell fin hcd) hd
theorem pe_int {i j pos}:PE X (.Constant (.int i) j pos) (tC (.int i)):=λ_ _ _ H _ I h=>wpAny_Constant_int ⟨.int i,H,I.tok _,⟨_,rfl⟩,h⟩
theorem pe_bl {b j pos}:PE X (.Constant (.bool b) j pos) (tC (.bl b)):=λ_ _ _ H _ I h=>Constant_bool ⟨.bl b,H,I,rfl,h⟩
theorem pe_non {j pos}:PE X (.Constant .none j pos) (tC .non):=λ_ _ _ H _ I h=>Constant_none ⟨.non,H,I,rfl,h⟩
def Gl (X:Cx)(x:Str):Prop:=X.env.kindOf x=some .globalImplicit
variable {u:Value}
theorem Rn {E:Value->Shared->Prop}{pins:List (Addr×Obj)}{s:Shared}{σ:St}{H:Hp}{pos:Pos}{Q:Value->Shared->Prop}(I:Inv X pins σ H s)(hg:Gl X x)(hm:X.mg x=some u)(h:Q u s)
 (hd:(x==("__debug__" :Str))=false:=by decide):wpAny (model X.prog X.w) X.A (eval (.Name x pos) X.env) Q E s:=
 Z9 I.ok.kind hg (Calls.loadGlobal_global (by rw [I.ok.glob];exact I.mod.glob.keeps I.bk) hm h) hd
theorem Wh {E:Value->Shared->Prop}{pins:List (Addr×Obj)}{s:Shared}{σ:St}{H:Hp}{pos:Pos}{Q:Value->Shared->Prop}(I:Inv X pins σ H s)(hg:Gl X x)(hm:X.mg x=none)(hv:bootBuiltins x=some u)(h:Q u s)
 (hn:x≠ "__name__" :=by decide)(hd:(x==("__debug__" :Str))=false:=by decide):wpAny (model X.prog X.w) X.A (eval (.Name x pos) X.env) Q E s:=by
 obtain⟨mb,h1,h2⟩:=I.mod.blt;exact Z9 I.ok.kind hg (Calls.loadGlobal_builtin (by rw [I.ok.glob];exact I.mod.glob.keeps I.bk) hm (by rw [I.ok.blt];exact h1.keeps I.bk) ((h2 x hn).trans hv) h) hd
theorem FU {v:V}{pos:Pos}(hg:Gl X x)(hm:X.mg x=some u)(r:RelV v u)(hd:(x==("__debug__" :Str))=false:=by decide):PE X (.Name x pos) (tC v):=
 λ_ _ _ H _ I h=>Rn I hg hm ⟨v,H,I,r,h⟩ hd
theorem FV {v:V}{pos:Pos}(hg:Gl X x)(hm:X.mg x=none)(hv:bootBuiltins x=some u)(r:RelV v u)(hn:x≠ "__name__" :=by decide)(hd:(x==("__debug__" :Str))=false:=by decide):PE X (.Name x pos) (tC v):=
 λ_ _ _ H _ I h=>Wh I hg hm hv ⟨v,H,I,r,h⟩ hn hd
variable {a b:Expr}{ta tb:TE}{pos:Pos}
def tB (t:TE):TT:=λσ H Q=>t σ H λx H1=> ∃c,x= .bl c/\Q c H1
theorem AE {e:Expr}{t:TE}(h:PE X e t)(he: ∀whole,isTrue e X.env whole=(do let v <-whole;standAt e.pos;holding [v] (truthy v)):=by intro _;rfl):PT X e (tB t):=by
 intro pins s σ H Q I hw;refine isTrue_plain (thn (h pins s σ H _ I hw) λv s1 ⟨x,H1,I1,r1,q1⟩=> ?_) (he _);obtain⟨d,rfl,q⟩:=q1;cases r1;exact B0 ⟨H1,I1,q⟩
variable {tA tB':TT}{rest:List Expr}
def Ke (t u:TT):TT:=λσ H Q=>t σ H λc H1=>if c=true then u σ H1 Q else Q false H1
def tOr (t u:TT):TT:=λσ H Q=>t σ H λc H1=>if c=true then Q true H1 else u σ H1 Q
def Kf (t:TT):TT:=λσ H Q=>t σ H λc H1=>Q (!c) H1
theorem FW (ha:PT X a tA):PW X (.BoolOp .And [a] pos) tA:=by
 intro wh pins s σ H Q I h;refine isTrue_and (thn (ha pins s σ H Q I h) λc s1 e=> ?_);cases c with
 |true=>exact isTrue_and_nil e
 |false=>exact e
theorem AF (ha:PT X a tA):PW X (.BoolOp .Or [a] pos) tA:=by
 intro wh pins s σ H Q I h;refine isTrue_or (thn (ha pins s σ H Q I h) λc s1 e=> ?_);cases c with
 |false=>exact isTrue_or_nil e
 |true=>exact e
theorem AG (ha:PT X a tA)(hb:PW X (.BoolOp .And (b::rest) pos) tB'):PW X (.BoolOp .And (a::b::rest) pos) (Ke tA tB'):=by
 intro wh pins s σ H Q I h;refine isTrue_and (thn (ha pins s σ H _ I h) λc s1 ⟨H1,I1,q1⟩=> ?_);cases c with
 |true=>exact hb wh pins s1 σ H1 Q I1 q1
 |false=>exact⟨H1,I1,q1⟩
theorem TB (ha:PT X a tA)(hb:PW X (.BoolOp .Or (b::rest) pos) tB'):PW X (.BoolOp .Or (a::b::rest) pos) (tOr tA tB'):=by
 intro wh pins s σ H Q I h;refine isTrue_or (thn (ha pins s σ H _ I h) λc s1 ⟨H1,I1,q1⟩=> ?_);cases c with
 |true=>exact⟨H1,I1,q1⟩
 |false=>exact hb wh pins s1 σ H1 Q I1 q1
theorem AH (ha:PT X a tA):PT X (.UnaryOp .Not a pos) (Kf tA):=by
 intro pins s σ H Q I h;exact isTrue_not (ha pins s σ H (λc H1=>Q (!c) H1) I h)
def AI (ta tb:TE):TE:=λσ H Q=>ta σ H λx H1=> ∃c,x= .bl c/\if c=true then tb σ H1 Q else Q (.bl false) H1
def Kg (ta tb:TE):TE:=λσ H Q=>ta σ H λx H1=> ∃c,x= .bl c/\if c=true then Q (.bl true) H1 else tb σ H1 Q
def AJ (ta:TE):TE:=λσ H Q=>ta σ H λx H1=> ∃c,x= .bl c/\Q (.bl (!c)) H1
theorem AK {op}{t:TE}(h:PE X a t):PE X (.BoolOp op [a] pos) t:=λpins s σ H Q I hw=>BoolOp_one (h pins s σ H Q I hw)
theorem AL (ha:PE X a ta)(hb:PE X (.BoolOp .And (b::rest) pos) tb):PE X (.BoolOp .And (a::b::rest) pos) (AI ta tb):=by
 intro pins s σ H Q I h;refine BoolOp_and (thn (ha pins s σ H _ I h) λv s1 ⟨x,H1,I1,r1,q1⟩=> ?_);obtain⟨c,rfl,q1⟩:=q1;cases r1;refine B0 ?_;cases c with
 |true=>exact hb pins s1 σ H1 Q I1 q1
 |false=>exact⟨.bl false,H1,I1,rfl,q1⟩
theorem TC (ha:PE X a ta)(hb:PE X (.BoolOp .Or (b::rest) pos) tb):PE X (.BoolOp .Or (a::b::rest) pos) (Kg ta tb):=by
 intro pins s σ H Q I h;refine BoolOp_or (thn (ha pins s σ H _ I h) λv s1 ⟨x,H1,I1,r1,q1⟩=> ?_);obtain⟨c,rfl,q1⟩:=q1;cases r1;refine B0 ?_;cases c with
 |false=>exact hb pins s1 σ H1 Q I1 q1
 |true=>exact⟨.bl true,H1,I1,rfl,q1⟩
theorem AM (ha:PE X a ta):PE X (.UnaryOp .Not a pos) (AJ ta):=by
 intro pins s σ H Q I h;refine UnaryOp_ (thn (ha pins s σ H _ I h) λv s1 ⟨x,H1,I1,r1,q1⟩=> ?_);obtain⟨c,rfl,q1⟩:=q1;cases r1;exact not_of (B0 ⟨.bl (!c),H1,I1,rfl,q1⟩)
def tIf (t:TT)(ta tb:TE):TE:=λσ H Q=>t σ H λc H1=>if c=true then ta σ H1 Q else tb σ H1 Q
theorem By {c:Expr}(hc:PT X c tA)(ha:PE X a ta)(hb:PE X b tb):PE X (.IfExp c a b pos) (tIf tA ta tb):=by
 intro pins s σ H Q I h;refine wpAny_IfExp (thn (hc pins s σ H _ I h) λd s1 ⟨H1,I1,q1⟩=> ?_);cases d with
 |true=>exact ha pins s1 σ H1 Q I1 q1
 |false=>exact hb pins s1 σ H1 Q I1 q1
end
def SqL (K:PySem.W.Frag)(H:Hp)(a:Addr)(xs:List V):Prop:=
 Rd H a (.lst xs)\/
  ∃ (o:Obj) (its:Array Value) (n:Nat),K.lookup a=some o/\o.cls= .type "list" /\o.dict=none/\o.data= .seq its n/\its.size<=sizeLine/\Vals xs its.toList
def SqT (K:PySem.W.Frag)(H:Hp)(a:Addr)(xs:List V):Prop:=
 Rd H a (.tup xs)\/
  ∃ (o:Obj) (its:Array Value) (n:Nat),K.lookup a=some o/\o.cls= .type "tuple" /\o.data= .seq its n/\its.size<=sizeLine/\Vals xs its.toList
def KS:Value->Option V
 | .none=>some .non
 | .bool b=>some (.bl b)
 | .int i _=>some (.int i)
 | .str x _=>some (.str x)
 | .bytes b _=>some (.byt b)
 | .float b _=>some (.flt b)
 | .ref a=>some (.ref a)
 | .type n=>some (.ty n)
 |_=>none
theorem RelV.abs {x:V}(r:RelV x u):KS u=some x:=by
 cases x with
 |non=>cases r;rfl
 |bl _=>cases r;rfl
 |int _=>obtain⟨t,rfl⟩:=r;rfl
 |str _=>obtain⟨t,rfl⟩:=r;rfl
 |byt _=>obtain⟨t,rfl⟩:=r;rfl
 |flt _=>obtain⟨t,rfl⟩:=r;rfl
 |ref _=>cases r;rfl
 |ty _=>cases r;rfl
theorem RelV.inj {x y:V}(r:RelV x u)(q:RelV y u):x=y:=M7 (r.abs.symm.trans q.abs)
theorem Vals.inj: ∀ {xs ys:List V} {us:List Value},Vals xs us->Vals ys us->xs=ys
 |_,_,_,.nil,.nil=>rfl
 |_,_,_,.cons r t,.cons r' t'=>by rw [r.inj r',Vals.inj t t']
section
variable {X:Cx}{pins:List (Addr×Obj)}{σ:St}{H:Hp}{s:Shared}{a:Addr}{xs ys:List V}
theorem SqL.of {K:PySem.W.Frag}(h:H a=some (.lst xs)):SqL K H a xs:= .inl (.inl h)
theorem SqT.of {K:PySem.W.Frag}(h:H a=some (.tup xs)):SqT K H a xs:= .inl (.inl h)
theorem Inv.list (I:Inv X pins σ H s)(h:SqL X.K H a xs): ∃its:List Value,Vals xs its/\PlainL s.heap a its.toArray/\xs.length<=sizeLine:=by
 rcases h with h|⟨o,its,n,hk,hc,hd,hs,hz,r⟩
 ·obtain⟨z,its,n,r,e⟩:=h.ok I.hok;exact⟨its,r,⟨_,n,e,rfl,rfl,rfl⟩,z⟩
 ·refine⟨its.toList,r,⟨o,n,I.kIn a o hk,hc,hd,by simpa using hs⟩,?_⟩;have e:=r.length;simp only [T7] at e;omega
theorem Inv.tuple (I:Inv X pins σ H s)(h:SqT X.K H a xs): ∃its:List Value,Vals xs its/\IsTup s.heap a its.toArray/\xs.length<=sizeLine:=by
 rcases h with h|⟨o,its,n,hk,hc,hs,hz,r⟩
 ·obtain⟨z,its,r,p⟩:=h.ok I.hok;exact⟨its,r,p.tup,z⟩
 ·refine⟨its.toList,r,⟨o,I.kIn a o hk,hc,n,by simpa using hs⟩,?_⟩;have e:=r.length;simp only [T7] at e;omega
theorem Inv.list_inj (I:Inv X pins σ H s)(h:SqL X.K H a xs)(h':SqL X.K H a ys):xs=ys:=by
 obtain⟨its,r,⟨o,n,e,_,_,d⟩,_⟩:=I.list h;obtain⟨its',r',⟨o',n',e',_,_,d'⟩,_⟩:=I.list h';rw [e] at e';cases e';rw [d] at d';injection d' with d1 _
 have:its=its':=by simpa using congrArg Array.toList d1
 subst this;exact r.inj r'
theorem Inv.tuple_inj (I:Inv X pins σ H s)(h:SqT X.K H a xs)(h':SqT X.K H a ys):xs=ys:=by
 obtain⟨its,r,⟨o,e,_,n,d⟩,_⟩:=I.tuple h;obtain⟨its',r',⟨o',e',_,n',d'⟩,_⟩:=I.tuple h';rw [e] at e';cases e';rw [d] at d';injection d' with d1 _
 have:its=its':=by simpa using congrArg Array.toList d1
 subst this;exact r.inj r'
end
abbrev Cx.wish (X:Cx)(E:Value->Shared->Prop):Cx:= {X with xe:=E}
abbrev Cx.nox (X:Cx):Cx:=X.wish λ_ _=>False
theorem Cx.Ok.wish (ok:X.Ok)(E:Value->Shared->Prop):(X.wish E).Ok:=
 ⟨ok.mod,ok.kind,ok.glob,ok.blt,ok.above,ok.inj,ok.has,ok.cab,ok.hd,ok.frames,ok.stk,ok.exf,ok.bs,ok.bsz,ok.noex,ok.exfs,ok.funs,ok.frf⟩
theorem Cx.Ok.unwish {E:Value->Shared->Prop}(ok:(X.wish E).Ok):X.Ok:=
 ⟨ok.mod,ok.kind,ok.glob,ok.blt,ok.above,ok.inj,ok.has,ok.cab,ok.hd,ok.frames,ok.stk,ok.exf,ok.bs,ok.bsz,ok.noex,ok.exfs,ok.funs,ok.frf⟩
section
variable {X:Cx}{pins:List (Addr×Obj)}{σ:St}{H:Hp}{s:Shared}{E:Value->Shared->Prop}
theorem Inv.wish (I:Inv X pins σ H s)(E:Value->Shared->Prop):Inv (X.wish E) pins σ H s:=⟨I.ok.wish E,I.os,I.bare,I.base,I.loc,I.cell,I.free,I.freeC,I.pin,I.hok,I.len⟩
theorem Inv.unwish (I:Inv (X.wish E) pins σ H s):Inv X pins σ H s:=⟨I.ok.unwish,I.os,I.bare,I.base,I.loc,I.cell,I.free,I.freeC,I.pin,I.hok,I.len⟩
theorem SP.unwish {D:Ends}{f:Flow}{s':Shared}(h:SP (X.wish E) pins D f s'):SP X pins D f s':=by
 cases f with
 |next=>obtain⟨σ',H',I,q⟩:=h;exact⟨σ',H',I.unwish,q⟩
 |brk=>obtain⟨σ',H',I,q⟩:=h;exact⟨σ',H',I.unwish,q⟩
 |cont=>obtain⟨σ',H',I,q⟩:=h;exact⟨σ',H',I.unwish,q⟩
 |ret u=>obtain⟨v,σ',H',I,r,q⟩:=h;exact⟨v,σ',H',I.unwish,r,q⟩
theorem PSs.nox {st:List Stmt}{t:TS}(h:PSs X.nox st t):PSs X st t:=λpins s σ H D I hw=>
 S0 (h pins s σ H D (I.wish _) hw) (λ_ _ q=>q.unwish) λ_ _ z=>False.elim z
end
section
variable {X:Cx}{st:Stmt}{rest:List Stmt}{t u:TS}{e:Expr}{te:TE}{pos:Pos}
def AN:TS:=λD σ H=>D.nx σ H
def Kh (t u:TS):TS:=λD σ H=>t {D with nx:=u D} σ H
theorem pss_nil:PSs X [] AN:=λ_ _ σ H _ I h=>Y6 ⟨σ,H,I,h⟩
theorem Bz (h1:PS X st t)(h2:PSs X rest u):PSs X (st::rest) (Kh t u):=by
 intro pins s σ H D I h;refine wpAny_execs_cons (thn (h1 pins s σ H {D with nx:=u D} I h) λf s1 q=> ?_);cases f with
 |next=>
  obtain⟨σ',H',I',q⟩:=q;exact h2 pins s1 σ' H' D I' q
 |ret v=>exact q
 |brk=>exact q
 |cont=>exact q
theorem FX (h1:PS X st t):PSs X [st] t:=by
 intro pins s σ H D I h;refine wpAny_execs_cons (thn (h1 pins s σ H D I h) λf s1 q=> ?_);cases f with
 |next=>exact Y6 q
 |ret v=>exact q
 |brk=>exact q
 |cont=>exact q
theorem Inv.quiet {pins:List (Addr×Obj)}{σ:St}{H:Hp}{s:Shared}(I:Inv X pins σ H s):interactive X.env=false:=by simp [interactive,I.ok.kind]
def AO (te:TE):TS:=λD σ H=>te σ H λ_ H1=>D.nx σ H1
theorem FY (he:PE X e te)(hs:swapsWith e none pos.line X.env=pure false:=by rfl):PS X (.Expr e pos) (AO te):=by
 intro pins s σ H D I h;exact wpAny_Expr_any (thn (he pins s σ H _ I h) λv s1 ⟨x,H1,I1,r1,q1⟩=>⟨σ,H1,I1,q1⟩) I.quiet hs
def Ki (te:TE):TS:=λD σ H=>te σ H D.rt
theorem AQ (he:PE X e te):PS X (.Return (some e) pos) (Ki te):=by
 intro pins s σ H D I h;exact wpAny_Return_some (thn (he pins s σ H _ I h) λv s1 ⟨x,H1,I1,r1,q1⟩=>⟨x,σ,H1,I1,r1,q1⟩)
def Kj (c:TT)(t u:TS):TS:=λD σ H=>c σ H λb H1=>if b=true then t D σ H1 else u D σ H1
theorem TD {c:Expr}{a b:List Stmt}{tc:TT}(hc:PT X c tc)(ha:PSs X a t)(hb:PSs X b u):PS X (.If c a b pos) (Kj tc t u):=by
 intro pins s σ H D I h;refine wpAny_If (thn (hc pins s σ H _ I h) λd s1 ⟨H1,I1,q1⟩=> ?_);cases d with
 |true=>exact ha pins s1 σ H1 D I1 q1
 |false=>exact hb pins s1 σ H1 D I1 q1
end
abbrev TG:=V->St->Hp->(St->Hp->Prop)->Prop
abbrev TGs:=List V->St->Hp->(St->Hp->Prop)->Prop
def PG (X:Cx)(target:Expr)(t:TG):Prop:=
 ∀ (pins:List (Addr×Obj)) (s:Shared) (σ:St) (H:Hp) (v:V) (u:Value) (Q:St->Hp->Prop),Inv X pins σ H s->RelV v u->t v σ H Q->
  wpAny (model X.prog X.w) X.A (assign target X.env u) (λ_ s'=> ∃σ' H',Inv X pins σ' H' s'/\Q σ' H') X.xe s
def PGs (X:Cx)(ts:List Expr)(t:TGs):Prop:=
 ∀ (pins:List (Addr×Obj)) (s:Shared) (σ:St) (H:Hp) (vs:List V) (us:List Value) (Q:St->Hp->Prop),Inv X pins σ H s->Vals vs us->t vs σ H Q->
  wpAny (model X.prog X.w) X.A (assignInOrder ((assignEach ts X.env).map (·.2)) us) (λ_ s'=> ∃σ' H',Inv X pins σ' H' s'/\Q σ' H') X.xe s
abbrev TF:=V->V->V->Hp->(Hp->Prop)->Prop
def Kk (X:Cx)(t:TF):Prop:=
 ∀ (pins:List (Addr×Obj)) (s:Shared) (σ:St) (H:Hp) (o i v:V) (ov iv u:Value) (Q:Hp->Prop),Inv X pins σ H s->RelV o ov->RelV i iv->RelV v u->t o i v H Q->
  wpAny (model X.prog X.w) X.A (setItem ov iv u) (λ_ s'=> ∃H',Inv X pins σ H' s'/\Q H') X.xe s
abbrev TIp:=V->V->Hp->VK->Prop
def PIp (X:Cx)(op:Operator)(t:TIp):Prop:=
 ∀ (pins:List (Addr×Obj)) (s:Shared) (σ:St) (H:Hp) (x y:V) (v u:Value) (Q:VK),Inv X pins σ H s->RelV x v->RelV y u->t x y H Q->
  wpAny (model X.prog X.w) X.A (inplaceOp op v u) (EP X pins σ Q) X.xe s
section
variable {X:Cx}{pos:Pos}
def vg (i:Nat):TG:=λv σ H Q=>Q (σ.set i (some v)) H
variable {i:Nat}{x:Str}
theorem Jt (hN:X.N.Nodup)(hi:X.N[i]? =some x)(hx:Loc X.env.scope x)(hf:X.fn x=true\/X.env.scope.names.lookup x=some .local:=by first|exact .inl rfl|exact .inr rfl|assumption):PG X (.Name x pos) (vg i):=by
 intro pins s σ H v u Q I r h;exact wpAny_assign_Name (JZ I hN hi hx r (λs' I'=>⟨_,H,I',h⟩) hf)
def TH:TGs:=λvs σ H Q=>vs= []/\Q σ H
def Ro (t:TG)(u:TGs):TGs:=λvs σ H Q=> ∃v r,vs=v::r/\t v σ H λσ' H'=>u r σ' H' Q
theorem Rq:PGs X [] TH:=by
 intro pins s σ H vs us Q I r h;obtain⟨e,h⟩:=h;subst e;cases r;exact assignInOrder_nil ⟨σ,H,I,h⟩
variable {e:Expr}
theorem WB {es:List Expr}{t:TG}{u:TGs}(h1:PG X e t)(h2:PGs X es u)
 (hs:(assignEach (e::es) X.env).map (·.2)=assign e X.env::(assignEach es X.env).map (·.2):=by rfl):PGs X (e::es) (Ro t u):=by
 intro pins s σ H vs us Q I r h;obtain⟨v,vr,e1,h⟩:=h;subst e1;cases r with
 |cons r rr=>
  rw [hs];refine G0g (thn (h1 pins s σ H _ _ _ I r h) λ_ s1 ⟨σ1,H1,I1,q1⟩=> ?_);exact h2 pins s1 σ1 H1 _ _ Q I1 rr q1
def TJ (K:PySem.W.Frag)(n:Nat)(t:TGs):TG:=λv σ H Q=> ∃a xs,v= .ref a/\SqT K H a xs/\xs.length=n/\t xs σ H Q
theorem Fp {es:List Expr}{k:Nat}{t:TGs}{n:Nat}(hc:X.calm=true)(h:PGs X es t)
 (hn:(assignEach es X.env).length=n:=by rfl)(hst:(assignEach es X.env).findIdx? (·.1)=none:=by rfl):PG X (.Tuple es k pos) (TJ X.K n t):=by
 intro pins s σ H v u Q I r hw;obtain⟨a,xs,e1,hq,hl,hw⟩:=hw;subst e1;cases r;obtain⟨its,rv,ht,hz⟩:=I.tuple hq;refine assign_Tuple_tuple (I.ok.hd hc) ht (by simp [hn,<-hl,rv.length]) hst λh' hx=> ?_
 have I1:Inv X pins σ H {s with heap:=h'}:=I.kept (t':=s.toks) λb o e=>hx b o (R1 (P2 e)) e
 exact h pins _ σ H xs _ Q I1 (by simpa using rv) hw
def KT (to ti:TE)(t:TF):TG:=λv σ H Q=>to σ H λo H1=>ti σ H1 λi H2=>t o i v H2 λH3=>Q σ H3
theorem AR {o i:Expr}{to ti:TE}{t:TF}(ho:PE X o to)(hi:PE X i ti)(hs:Kk X t)
 (ha: ∀v,assign (.Subscript o i pos) X.env v=(do
  let ov <-holding [v] (eval o X.env)
  let iv <-holding [v,ov] (eval i X.env)
  standAt pos
  holding [v,ov,iv] (setItem ov iv v)
  release [v,ov,iv] []):=by intro _;rfl):PG X (.Subscript o i pos) (KT to ti t):=by
 intro pins s σ H v u Q I r h;rw [ha];refine wpAny_bind (B7 (thn (ho pins s σ H _ I h) λov s1 ⟨x,H1,I1,r1,q1⟩=> ?_));refine wpAny_bind (B7 (thn (hi pins s1 σ H1 _ I1 q1) λiv s2 ⟨y,H2,I2,r2,q2⟩=> ?_));refine wpAny_bind (V3 (wpAny_bind (B7 (thn (hs pins s2 σ H2 x y v ov iv u _ I2 r1 r2 r q2) λ_ s3 ⟨H3,I3,q3⟩=> ?_))));exact wpAny_release ⟨σ,H3,I3,q3⟩
def Fq (te:TE)(g:TG):TS:=λD σ H=>te σ H λx H1=>g x σ H1 D.nx
theorem AS {tg:Expr}{te:TE}{g:TG}(he:PE X e te)(hg:PG X tg g)(hs:swapsWithSole [tg] e pos.line X.env=pure false:=by rfl)(hw:swappedStores [tg] e X.env=pure none:=by rfl)
 (h1:(assignEach [tg] X.env).map (·.2)= [assign tg X.env]:=by rfl):PS X (.Assign [tg] e pos) (Fq te g):=by
 intro pins s σ H D I h;refine wpAny_Assign_stores (thn (he pins s σ H _ I h) λv s1 ⟨x,H1,I1,r1,q1⟩=> ?_) hs hw;rw [h1];exact thn (hg pins s1 σ H1 x v _ I1 r1 q1) λ_ s2 q=>q
theorem AT {te:TE}{pos':Pos}(hN:X.N.Nodup)(hi:X.N[i]? =some x)(hx:Loc X.env.scope x)(he:PE X e te)(hs:swapsWith e (some (.Name x pos')) pos.line X.env=pure false:=by rfl)(hf:X.fn x=true\/X.env.scope.names.lookup x=some .local:=by first|exact .inl rfl|exact .inr rfl|assumption):
 PS X (.Assign [.Name x pos'] e pos) (Fq te (vg i)):=by
 intro pins s σ H D I h;refine wpAny_Assign_Name (thn (he pins s σ H _ I h) λv s1 ⟨y,H1,I1,r1,q1⟩=> ?_) hs;exact JZ I1 hN hi hx r1 (λs2 I2=>⟨_,H1,I2,q1⟩) hf
def Kl (i j:Nat)(ta:TA):TS:=λD σ H=>ta σ H λvs H1=> ∃v w,vs= [v,w]/\D.nx ((σ.set i (some v)).set j (some w)) H1
theorem AU {j:Nat}{y:Str}{a b:Expr}{ta:TA}{px py pt:Pos}{kt k2 pt2}(hc:X.calm=true)(hN:X.N.Nodup)(hi:X.N[i]? =some x)(hj:X.N[j]? =some y)(hij:i≠j)
 (hx:X.env.scope.names.lookup x=some .local)(hy:X.env.scope.names.lookup y=some .local)(ha:PA X [a,b] ta)
 (hw:swappedStores [.Tuple [.Name x px,.Name y py] kt pt] (.Tuple [a,b] k2 pt2) X.env=pure (some [x,y]))
 (hs:swapsWithSole [.Tuple [.Name x px,.Name y py] kt pt] (.Tuple [a,b] k2 pt2) pos.line X.env=pure false:=by rfl):
 PS X (.Assign [.Tuple [.Name x px,.Name y py] kt pt] (.Tuple [a,b] k2 pt2) pos) (Kl i j ta):=by
 intro pins s σ H D I h;rw [exec_Assign_arm];refine wpAny_bind (V3 ?_);rw [hs];refine wpAny_bind (P0 ?_);rw [if_neg (by decide)];refine wpAny_bind (Tuple_ (thn (ha _ pins s σ H _ I h) λus s1 ⟨vs,H1,I1,r1,q1⟩=> ?_));obtain⟨v,w,e1,q1⟩:=q1;subst e1;obtain⟨u1,u2,rfl,rv,rw'⟩: ∃u1 u2,us= [u1,u2]/\RelV v u1/\RelV w u2:=by
  cases r1 with
  |cons p q=>
   cases q with
   |cons p' q'=>
    cases q';exact⟨_,_,rfl,p,p'⟩
 refine J3 ?_ (by show 2<=sizeLine;decide);have I2:Inv X pins σ H1 {s1 with heap:=s1.heap.push {cls:= .type "tuple",data:= .seq [u1,u2].toArray}}:=I1.kept (t':=s1.toks) λb o e=>G1 _ e
 rw [hw];refine wpAny_bind (P0 ?_);show wpAny (model X.prog X.w) X.A (do rule "assign.swapped-stores";let items <-unpackItems (.ref s1.heap.objs.size) 2 none;assignInOrder [λv=>bindName X.env y v,λv=>bindName X.env x v] items.reverse;pure Flow.next) _ _ _;refine wpAny_bind (W7 (wpAny_bind (unpackItems_tuple (items:= #[u1,u2]) (I.ok.hd hc) (IsTup.new s1.heap _) λh' hx'=> ?_)));have I3:=I2.kept (h':=h') (t':=s1.toks) λb o e=>hx' b o (R1 (P2 e)) e
 show wpAny _ _ (assignInOrder [λv=>bindName X.env y v,λv=>bindName X.env x v] [u2,u1] >>= λ_=>pure Flow.next) _ _ _;refine wpAny_bind (G0g (wpAny_bindName (JZ I3 hN hj (.inl hy) rw' (λs2 I4=> ?_) (.inr hy))));refine G0g (wpAny_bindName (JZ I4 hN hi (.inl hx) rv (λs3 I5=>assignInOrder_nil (P0 ?_)) (.inr hx)));rw [List.set_comm _ _ (Ne.symm hij)] at I5;exact⟨_,H1,I5,q1⟩
def Km (i:Nat)(te:TE)(ti:TIp):TS:=λD σ H=> ∃x,σ[i]? =some (some x)/\te σ H λy H1=>ti x y H1 λz H2=>D.nx (σ.set i (some z)) H2
theorem Fr {te:TE}{op:Operator}{ti:TIp}{pos':Pos}(hN:X.N.Nodup)(hi:X.N[i]? =some x)(hx:Loc X.env.scope x)(he:PE X e te)(ho:PIp X op ti)(hf:X.fn x=true\/X.env.scope.names.lookup x=some .local:=by first|exact .inl rfl|exact .inr rfl|assumption):
 PS X (.AugAssign (.Name x pos') op e pos) (Km i te ti):=by
 intro pins s σ H D I h;obtain⟨v,e1,h⟩:=h;obtain⟨m,hn,hl⟩:=I.loc;have vis:Vis X.env.scope x:=by rcases hx with k|k;exact .inl k;exact .inr (.inl k)
 obtain⟨u,r,l⟩:=hl i x v hi e1 vis;refine wpAny_AugAssign_Name ?_;have go:wpAny (model X.prog X.w) X.A (eval e X.env) (λw s₂=>wpAny (model X.prog X.w) X.A (inplaceOp op u w) (λr s₃=>wpAny (model X.prog X.w) X.A (storeName X.env x r) (λ_=>SP X pins D .next) X.xe s₃) X.xe s₂) X.xe s:=by
  refine thn (he pins s σ H _ I h) λw s1 ⟨y,H1,I1,r1,q1⟩=> ?_
  refine thn (ho pins s1 σ H1 v y u w _ I1 r r1 q1) λz s2 ⟨zv,H2,I2,r2,q2⟩=> ?_
  exact JZ I2 hN hi hx r2 (λs3 I3=>⟨_,H2,I3,q2⟩) hf
 rcases l with ⟨hk,hm⟩|⟨hk,c,hc,hcell⟩
 ·exact wpAny_loadName_local I.ok.kind hk hn hm go
 ·rcases hk with hk|hk
  ·exact wpAny_loadName_cell I.ok.kind hk hc hcell go
  ·rcases hx with k|k
   ·have:X.env.scope.names.lookup x=some .free:=hk;rw [k] at this;cases this
   ·have:X.env.scope.names.lookup x=some .free:=hk;rw [k] at this;cases this
def ipI (f:Int->Int->Int):TIp:=λx y H Q=> ∃i j,x= .int i/\y= .int j/\Q (.int (f i j)) H
theorem AV:PIp X .Add (ipI λi j=>i+j):=by
 intro pins s σ H x y v u Q I r1 r2 h;obtain⟨i,j,e1,e2,q⟩:=h;subst e1;subst e2;obtain⟨t,rfl⟩:=r1;obtain⟨t',rfl⟩:=r2;exact iadd_int ⟨.int _,H,I.tok _,⟨_,rfl⟩,q⟩
theorem AW:PIp X .Sub (ipI λi j=>i-j):=by
 intro pins s σ H x y v u Q I r1 r2 h;obtain⟨i,j,e1,e2,q⟩:=h;subst e1;subst e2;obtain⟨t,rfl⟩:=r1;obtain⟨t',rfl⟩:=r2;exact isub_int ⟨.int _,H,I.tok _,⟨_,rfl⟩,q⟩
def Fs (c:TT)(tb:TS):TS:=λD σ H=> ∃W:Nat->St->Hp->Prop,(∃m,W m σ H)/\ ∀m σ H,W m σ H->
 c σ H λb H1=>if b=true then ∃N:St->Hp->Prop,(∀σ' H',N σ' H'-> ∃m',m'<m/\W m' σ' H')/\tb {D with nx:=N,ct:=N,bk:=D.nx} σ H1 else D.nx σ H1
theorem BA {c:Expr}{body:List Stmt}{tc:TT}{tb:TS}(hp:PassesOwn (model X.prog X.w) X.A X.env X.xe)(hc:PT X c tc)(hb:PSs X body tb):PS X (.While c body [] pos) (Fs tc tb):=by
 intro pins s σ H D I h;obtain⟨W,⟨m0,w0⟩,turn⟩:=h;refine wpAny_While (codeAny_whileLoop (λn s'=> ∃σ' H',Inv X pins σ' H' s'/\W n σ' H') ?_ m0 ⟨σ,H,I,w0⟩);rintro n s1 ⟨σ1,H1,I1,w1⟩;refine J4 hp (thn (hc pins s1 σ1 H1 _ I1 (turn n σ1 H1 w1)) λb s2 ⟨H2,I2,q2⟩=> ?_);cases b with
 |true=>
  obtain⟨N,hN,q2⟩:=q2;rw [if_pos rfl];refine J4 hp (thn (hb pins s2 σ1 H2 _ I2 q2) λf s3 q3=> ?_);cases f with
  |next=>
   obtain⟨σ3,H3,I3,n3⟩:=q3;obtain⟨m',hm,w3⟩:=hN σ3 H3 n3;exact⟨m',hm,σ3,H3,I3,w3⟩
  |cont=>
   obtain⟨σ3,H3,I3,n3⟩:=q3;obtain⟨m',hm,w3⟩:=hN σ3 H3 n3;exact⟨m',hm,σ3,H3,I3,w3⟩
  |brk=>exact q3
  |ret v=>exact q3
 |false=>
  rw [if_neg P4];exact Y6 ⟨σ1,H2,I2,q2⟩
end
structure It where
 go:Nat->Hp->Prop
 yld:Nat->Hp->V->Hp->Prop
 stop:Nat->Hp->Prop
def Re (X:Cx)(pins:List (Addr×Obj))(H:Hp)(b:Addr):Prop:=
 H b=none/\b≠X.env.locals/\b ∉ X.fs/\(b∈X.ex\/X.s₀.heap.objs.size<=b)/\(∀x c,X.env.cells.lookup x=some c->c≠b)/\ ∀p∈X.pn++pins,p.1≠b
theorem Inv.fpOk {pins:List (Addr×Obj)}{σ:St}{H':Hp}(I:Inv X pins σ H s)(hb:s.heap.objs.size<=b)(hn:H' b=none):Re X pins H' b:=by
 refine⟨hn,E3 (R7 I.lt hb),I.nofs hb,.inr (D6 I.sz hb),λx c e z=> ?_,λp hp z=> ?_⟩
 ·obtain⟨v,q⟩:=I.cell x c e;exact absurd (R7 q.lt (by rw [z];exact hb)) (S7 _)
 ·exact absurd (R7 (P2 (I.pin p hp).1) (by rw [z];exact hb)) (S7 _)
structure Turn (P:Program)(w:World)(K:PySem.W.Frag)(tg:Expr)(J:It)(fp:List Addr)(it:Addr)(tn:Nat->Heap->Prop):Prop where
 mem:it∈fp
 obj: ∀i h,tn i h-> ∀b∈fp,∃o,h.get? b=some o/\ ∀v,o.data≠ .cell v
 keep: ∀i h h',tn i h->(∀b∈fp,∀o,h.get? b=some o->h'.get? b=some o)->tn i h'
 item: ∀ (X:Cx),X.prog=P->X.w=w->X.K=K->X.calm=true-> ∀ (i:Nat) (pins:List (Addr×Obj)) (s:Shared) (σ:St) (H:Hp) (E:Value->Shared->Prop),Inv X pins σ H s->(∀b∈fp,Re X pins H b)->tn i s.heap->J.go i H->
  wpAny (model P w) X.A (pyNext (.ref it)) (λr s1=> ∃u,r=some u/\
   wpAny (model P w) X.A (letOwnedTupleGo tg (.ref it) u) (λ_ s2=> ∃x H',Inv X pins σ H' s2/\RelV x u/\J.yld i H x H'/\tn (i+1) s2.heap/\ ∀b∈fp,H' b=none) E s1) E s
 done: ∀ (X:Cx),X.prog=P->X.w=w->X.K=K->X.calm=true-> ∀ (i:Nat) (pins:List (Addr×Obj)) (s:Shared) (σ:St) (H:Hp) (E:Value->Shared->Prop),Inv X pins σ H s->(∀b∈fp,Re X pins H b)->tn i s.heap->J.stop i H->
  wpAny (model P w) X.A (pyNext (.ref it)) (λr s1=>r=none/\Inv X pins σ H s1) E s
 self: ∀ (A:Around) (i:Nat) (s:Shared) (Q:Value->Shared->Prop) (E:Value->Shared->Prop),tn i s.heap->Q (.ref it) s->wpAny (model P w) A (pyIter (.ref it)) Q E s
abbrev TI:=St->Hp->(It->Hp->Prop)->Prop
def PIE (X:Cx)(pins:List (Addr×Obj))(σ:St)(tg:Expr)(R:It->Hp->Prop)(itv:Value)(s2:Shared):Prop:=
 ∃ (it:Addr) (fp:List Addr) (tn:Nat->Heap->Prop) (J:It) (H':Hp),itv= .ref it/\Inv X pins σ H' s2/\Turn X.prog X.w X.K tg J fp it tn/\tn 0 s2.heap/\(∀b∈fp,Re X pins H' b)/\R J H'
def PI (X:Cx)(tg iter:Expr)(wi:TI):Prop:=
 ∀ (pins:List (Addr×Obj)) (s:Shared) (σ:St) (H:Hp) (R:It->Hp->Prop),Inv X pins σ H s->wi σ H R->
  wpAny (model X.prog X.w) X.A (eval iter X.env) (λv s1=>wpAny (model X.prog X.w) X.A (pyIter v) (PIE X pins σ tg R) X.xe s1) X.xe s
variable {tg:Expr}
theorem FZ {M : Model} {E : Value → Shared → Prop} {it : Addr} {o : Obj} {n : String} {vs : Array Value} {Q : Unit → Shared → Prop} (ho : s.heap.get? it = some o) (hc : o.cls = .type n) (hd : o.data = .fields vs)
    (hn : ["enumerate", "zip", "dict_itemiterator", "dict_reverseitemiterator", "odict_iterator", "itertools.zip_longest", "itertools.pairwise"].contains n = false) (hQ : Q () s) : wpAny M A (letOwnedTupleGo tg (.ref it) u) Q E s := by
  unfold letOwnedTupleGo
  cases tg <;> first
    | exact P0 hQ
    | (cases u <;> first
        | exact P0 hQ
        | (refine wpAny_bind (wpAny_load ho ?_)
           rw [hc, hd]
           show wpAny M A (if (["enumerate", "zip", "dict_itemiterator", "dict_reverseitemiterator", "odict_iterator", "itertools.zip_longest", "itertools.pairwise"].contains n && vs[0]? == some (rawInt _)) = true then _ else _) Q E s
           rw [if_neg (by intro h; rw [hn, G1a] at h; cases h)]
           exact P0 hQ))
def Itl (K:PySem.W.Frag)(a:Addr):It:=
 ⟨λi H=> ∃xs x,SqL K H a xs/\xs[i]? =some x,λi H x H'=>H'=H/\ ∀xs,SqL K H a xs->xs[i]? =some x,λi H=> ∃xs,SqL K H a xs/\xs.length<=i⟩
def Itt (K:PySem.W.Frag)(a:Addr):It:=
 ⟨λi H=> ∃xs x,SqT K H a xs/\xs[i]? =some x,λi H x H'=>H'=H/\ ∀xs,SqT K H a xs->xs[i]? =some x,λi H=> ∃xs,SqT K H a xs/\xs.length<=i⟩
def Itr (lo:Int)(n:Nat):It:=⟨λi _=>i<n,λi H x H'=>H'=H/\x= .int (lo+i),λi _=>n<=i⟩
variable {K:PySem.W.Frag}
theorem Xl (a it:Addr):Turn P w K tg (Itl K a) [it] it (λi h=>h.IsListIter it a i) where
 mem:=by simp
 obj:=λi h st b hb=>by
  have e:b=it:=by simpa using hb
  subst e;obtain⟨o,e,c,d⟩:=st;exact⟨o,e,λv z=>by rw [d] at z;cases z⟩
 keep:=λi h h' st k=>st.at λo e=>k it (by simp) o e
 item:=by
  intro X hP hw hK hc i pins s σ H E I hf st hg;subst hP hw hK;obtain⟨xs,x,hq,hx⟩:=hg;obtain⟨its,rv,p,hz⟩:=I.list hq;obtain⟨u,hu,ru⟩:=rv.get hx;obtain⟨f0,f1,f2,f3,f4,f5⟩:=hf it (by simp);refine wpAny_pyNext_list_item st p.isList (x:=u) (by simpa using hu) λh' st' sb=> ?_
  have I1:Inv X pins σ H {s with heap:=h'}:=I.turned (t':=s.toks) (λb o hb e=>(sb.2 b hb).trans e) f0 f1 f3 f4 f5;obtain⟨o,e,c,d⟩:=id st';exact⟨u,rfl,FZ (s:= {s with heap:=h'}) e c d (by decide) ⟨x,H,I1,ru,⟨rfl,λys hy=>by rw [I.list_inj hy hq];exact hx⟩,st',λb hb=>(hf b hb).1⟩⟩
 done:=by
  intro X hP hw hK hc i pins s σ H E I hf st hg;subst hP hw hK;obtain⟨xs,hq,hx⟩:=hg;obtain⟨its,rv,p,hz⟩:=I.list hq;obtain⟨f0,f1,f2,f3,f4,f5⟩:=hf it (by simp);have hl:=rv.length;exact wpAny_pyNext_list_end (I.ok.hd hc) st p.isList (by simp;omega) λh' eb=>⟨rfl,I.turned (t':=s.toks) (λb o hb e=>eb b o hb e) f0 f1 f3 f4 f5⟩
 self:=λ_ _ _ _ _ st h=>wpAny_pyIter_listiter st h
theorem Db (a it:Addr):Turn P w K tg (Itt K a) [it] it (λi h=>h.IsTupleIter it a i) where
 mem:=by simp
 obj:=λi h st b hb=>by
  have e:b=it:=by simpa using hb
  subst e;obtain⟨o,e,c,d⟩:=st;exact⟨o,e,λv z=>by rw [d] at z;cases z⟩
 keep:=λi h h' st k=>st.at λo e=>k it (by simp) o e
 item:=by
  intro X hP hw hK hc i pins s σ H E I hf st hg;subst hP hw hK;obtain⟨xs,x,hq,hx⟩:=hg;obtain⟨its,rv,p,hz⟩:=I.tuple hq;obtain⟨u,hu,ru⟩:=rv.get hx;obtain⟨f0,f1,f2,f3,f4,f5⟩:=hf it (by simp);refine wpAny_pyNext_tuple_item st (show s.heap.IsTuple a its.toArray from p) (x:=u) (by simpa using hu) λh' st' sb=> ?_
  have I1:Inv X pins σ H {s with heap:=h'}:=I.turned (t':=s.toks) (λb o hb e=>(sb.2 b hb).trans e) f0 f1 f3 f4 f5;obtain⟨o,e,c,d⟩:=id st';exact⟨u,rfl,FZ (s:= {s with heap:=h'}) e c d (by decide) ⟨x,H,I1,ru,⟨rfl,λys hy=>by rw [I.tuple_inj hy hq];exact hx⟩,st',λb hb=>(hf b hb).1⟩⟩
 done:=by
  intro X hP hw hK hc i pins s σ H E I hf st hg;subst hP hw hK;obtain⟨xs,hq,hx⟩:=hg;obtain⟨its,rv,p,hz⟩:=I.tuple hq;obtain⟨f0,f1,f2,f3,f4,f5⟩:=hf it (by simp);have hl:=rv.length;exact wpAny_pyNext_tuple_end (I.ok.hd hc) st (show s.heap.IsTuple a its.toArray from p) (by simp;omega) λh' eb=>⟨rfl,I.turned (t':=s.toks) (λb o hb e=>eb b o hb e) f0 f1 f3 f4 f5⟩
 self:=λ_ _ _ _ _ st h=>wpAny_pyIter_tupleiter st h
theorem Dc (it:Addr)(lo:Int)(n:Nat):Turn P w K tg (Itr lo n) [it] it (λi h=>IsRangeIter h it (lo+(i:Nat)*1) ((n:Int)-(i:Nat)) 1) where
 mem:=by simp
 obj:=λi h st b hb=>by
  have e:b=it:=by simpa using hb
  subst e;exact⟨_,st,λv z=>by
   have z':Data.fields _=Data.cell v:=z;cases z'⟩
 keep:=λi h h' st k=>k it (by simp) _ st
 item:=by
  intro X hP hw hK hc i pins s σ H E I hf st hg;subst hP hw hK;obtain⟨f0,f1,f2,f3,f4,f5⟩:=hf it (by simp);have W:=Walks.range (prog:=X.prog) (w:=X.w) (I.ok.hd hc) it lo 1 n;refine W.item i s _ _ hg st λv h' tk hv st' kk=> ?_
  obtain⟨t,rfl⟩:=hv;have I1:Inv X pins σ H {s with heap:=h',toks:=tk}:=I.turned (λb o hb e=>kk b o (by simpa using hb) e) f0 f1 f3 f4 f5;refine⟨_,rfl,FZ (s:= {s with heap:=h',toks:=tk}) (n:= "range_iterator") st' rfl rfl (by decide) ⟨.int (lo+i),H,I1,⟨t,?_⟩,⟨rfl,rfl⟩,st',λb hb=>(hf b hb).1⟩⟩;rw [Int.mul_one]
 done:=by
  intro X hP hw hK hc i pins s σ H E I hf st hg;subst hP hw hK;obtain⟨f0,f1,f2,f3,f4,f5⟩:=hf it (by simp);exact wpAny_pyNext_range_end (I.ok.hd hc) st (by have:n<=i:=hg;omega) λh' eb=>⟨rfl,I.turned (t':=s.toks) (λb o hb e=>eb b o hb e) f0 f1 f3 f4 f5⟩
 self:=λ_ _ _ _ _ st h=>wpAny_pyIter_rangeiter st h
section
variable {X:Cx}{tg:Expr}
def AX (K:PySem.W.Frag)(tl:TE):TI:=λσ H R=>tl σ H λx H1=> ∃a,x= .ref a/\(∃xs,SqL K H1 a xs)/\R (Itl K a) H1
theorem La {l:Expr}{tl:TE}(hl:PE X l tl):PI X tg l (AX X.K tl):=by
 intro pins s σ H R I h;refine thn (hl pins s σ H _ I h) λv s1 ⟨x,H1,I1,r1,q1⟩=> ?_
 obtain⟨a,e,⟨xs,hq⟩,q⟩:=q1;subst e;cases r1;obtain⟨its,rv,p,hz⟩:=I1.list hq;refine A2 p.isList ?_;refine⟨s1.heap.objs.size,[s1.heap.objs.size],_,_,H1,rfl,I1.kept (t':=s1.toks) λb o e=>G1 _ e,Xl a _,⟨_,P8 _ rfl,rfl,rfl⟩,λb hb=> ?_,q⟩;have e:b=s1.heap.objs.size:=by simpa using hb
 subst e;exact I1.fpOk (G9 _) (I1.hok.fresh (G9 _))
variable {pins:List (Addr×Obj)}
theorem Pm {σ:St}{H:Hp}{s:Shared}{R:It->Hp->Prop}{E:Value->Shared->Prop}{lo hi:Int}{t u v:Tok}{tk:Nat}(I:Inv X pins σ H s)(h1: -(2^62)<=lo)(h2:lo<2^62)(h3: -(2^62)<=hi)(h4:hi<2^62)
 (q:R (Itr lo (hi-lo).toNat) H):wpAny (model X.prog X.w) X.A (pyIter (.ref s.heap.objs.size)) (PIE X pins σ tg R) E {s with heap:=s.heap.push {cls:= .type "range",data:= .fields #[.int lo t,.int hi u,.int 1 v]},toks:=tk}:=by
 refine wpAny_pyIter_range (IsRange.new ..) (small_one h1 h2 h3 h4) ?_;have I1:Inv X pins σ H {s with heap:=s.heap.push {cls:= .type "range",data:= .fields #[.int lo t,.int hi u,.int 1 v]},toks:=tk}:=I.kept λb o e=>G1 _ e
 refine⟨(s.heap.push {cls:= .type "range",data:= .fields #[.int lo t,.int hi u,.int 1 v]}).objs.size,[(s.heap.push {cls:= .type "range",data:= .fields #[.int lo t,.int hi u,.int 1 v]}).objs.size],_,_,H,rfl,
  I1.kept (t':=tk) λb o e=>G1 _ e,Dc _ lo (hi-lo).toNat,?_,λb hb=> ?_,q⟩
 ·have e1:lo+((0:Nat):Int)*1=lo:=by simp
  have e2:(((hi-lo).toNat:Nat):Int)-((0:Nat):Int)=Builtin.Range.rangeSize lo hi 1:=by rw [rangeSize_one];split<;>omega
  show IsRangeIter _ _ (lo+((0:Nat):Int)*1) ((((hi-lo).toNat:Nat):Int)-((0:Nat):Int)) 1;rw [e1,e2];exact P8 _ rfl
 ·have e:b=(s.heap.push {cls:= .type "range",data:= .fields #[.int lo t,.int hi u,.int 1 v]}).objs.size:=by simpa using hb
  subst e;exact I1.fpOk (G9 _) (I1.hok.fresh (G9 _))
def AY (ta:TA):TI:=λσ H R=>ta σ H λvs H1=> ∃j:Int,vs= [.int j]/\ -(2^62)<=j/\j<2^62/\R (Itr 0 j.toNat) H1
def AZ (ta:TA):TI:=λσ H R=>ta σ H λvs H1=> ∃i j:Int,vs= [.int i,.int j]/\(-(2^62)<=i/\i<2^62/\ -(2^62)<=j/\j<2^62)/\R (Itr i (j-i).toNat) H1
theorem Rr {a:Expr}{ta:TA}{p pos:Pos}(hg:Gl X "range")(hm:X.mg "range" =none)(ha:PA X [a] ta)(hs:starEach [a] X.env= [(false,eval a X.env)]:=by rfl):PI X tg (.Call (.Name "range" p) [a] [] pos) (AY ta):=by
 intro pins s σ H R I h;refine Call_ (Wh I hg hm boot_range (C4 (thn (ha pos pins s σ H _ I h) λus s1 ⟨vs,H1,I1,r1,q1⟩=> ?_) hs rfl));obtain⟨j,e,q1,q2,q⟩:=q1;subst e;cases r1 with
 |cons r rr=>
  cases rr;obtain⟨t,rfl⟩:=r;exact call_range_1 (Pm I1 (by omega) (by omega) q1 q2 (by simpa using q))
theorem Rs {a b:Expr}{ta:TA}{p pos:Pos}(hg:Gl X "range")(hm:X.mg "range" =none)(ha:PA X [a,b] ta)(hs:starEach [a,b] X.env= [(false,eval a X.env),(false,eval b X.env)]:=by rfl)(hs2:starEach [b] X.env= [(false,eval b X.env)]:=by rfl):
 PI X tg (.Call (.Name "range" p) [a,b] [] pos) (AZ ta):=by
 intro pins s σ H R I h;refine Call_ (Wh I hg hm boot_range (C4 (thn (ha pos pins s σ H _ I h) λus s1 ⟨vs,H1,I1,r1,q1⟩=> ?_) (by rw [hs,hs2]) (by rw [hs2];rfl)));obtain⟨i,j,e,⟨q1,q2,q3,q4⟩,q⟩:=q1;subst e;cases r1 with
 |cons r rr=>
  cases rr with
  |cons r' rr=>
   cases rr;obtain⟨t,rfl⟩:=r;obtain⟨t',rfl⟩:=r';exact call_range_2 (Pm I1 q1 q2 q3 q4 q)
def Kn (wi:TI)(g:TG)(tb:TS):TS:=λD σ H=>wi σ H λJ H1=> ∃W:Nat->Nat->St->Hp->Prop,(∃m,W 0 m σ H1)/\ ∀i m σ H,W i m σ H->
 (J.stop i H/\D.nx σ H)\/(J.go i H/\ ∃N:St->Hp->Prop,(∀σ' H',N σ' H'-> ∃m',m'<m/\W (i+1) m' σ' H')/\ ∀x H',J.yld i H x H'->g x σ H' λσ2 H2=>tb {D with nx:=N,ct:=N,bk:=D.nx} σ2 H2)
def Jl (fp:List Addr)(h:Heap):List (Addr×Obj):=fp.filterMap λb=>(h.get? b).map λo=>(b,o)
theorem wS {fp:List Addr}{h:Heap}{b:Addr}{o:Obj}(hb:b∈fp)(e:h.get? b=some o):(b,o)∈Jl fp h:=V4.mpr ⟨b,hb,by rw [e];rfl⟩
theorem WK {fp:List Addr}{h:Heap}{p:Addr×Obj}(hp:p∈Jl fp h):p.1∈fp/\h.get? p.1=some p.2:=by
 obtain⟨b,hb,e⟩:=V4.mp hp;cases q:h.get? b with
 |none=>rw [q] at e;cases e
 |some o=>
  rw [q] at e;have e':(b,o)=p:=M7 e;subst e';exact⟨hb,q⟩
theorem Inv.pinned {σ:St}{H:Hp}{s:Shared}{fp:List Addr}(I:Inv X pins σ H s)(hf: ∀b∈fp,Re X pins H b)(ho: ∀b∈fp,∃o,s.heap.get? b=some o/\ ∀v,o.data≠ .cell v):Inv X (pins++Jl fp s.heap) σ H s:=
 I.pins_of λp hp=>(D0.mp hp).elim (λz=>I.pin p (D1 _ z)) λz=>by
  obtain⟨hb,e⟩:=WK z;obtain⟨f0,f1,f2,_⟩:=hf p.1 hb;obtain⟨o,e',d⟩:=ho p.1 hb;rw [e] at e';cases e';exact⟨e,f0,f1,f2,d⟩
theorem Inv.unpinned {pl:List (Addr×Obj)}{σ:St}{H:Hp}{s:Shared}(I:Inv X (pins++pl) σ H s):Inv X pins σ H s:=I.pins_of λp hp=>I.pin p (D1 _ (N7 _ hp))
theorem Ea {iter:Expr}{body:List Stmt}{wi:TI}{g:TG}{tb:TS}{pos:Pos}(hp:PassesOwn (model X.prog X.w) X.A X.env X.xe)(hc:X.calm=true)(hi:PI X tg iter wi)(hg:PG X tg g)(hb:PSs X body tb)
 (hs: ∀x,foldedSetIterable iter X.env x=pure x:=by intro _;rfl):PS X (.For tg iter body [] pos) (Kn wi g tb):=by
 intro pins s σ H D I h;refine wpAny_For (thn (hi pins s σ H _ I h) λv s1 h1=>thn h1 λitv s2 h2=> ?_) hs;obtain⟨it,fp,tn,J,H2,e,I2,T,st2,f2,W,⟨m0,w0⟩,turn⟩:=h2;subst e
 -- what stays true of the iterator's objects through the loop
 have stat: ∀ {H':Hp},(∀b∈fp,H' b=none)-> ∀b∈fp,Re X pins H' b:=λhn b hb=>⟨hn b hb,(f2 b hb).2⟩
 refine codeAny_forLoop_any (λn s'=> ∃i σ' H',Inv X pins σ' H' s'/\tn i s'.heap/\(∀b∈fp,H' b=none)/\W i n σ' H') ?_ m0 ⟨0,σ,H2,I2,st2,λb hb=>(f2 b hb).1,w0⟩;rintro n s3 ⟨i,σ3,H3,I3,st3,fr3,w3⟩;rcases turn i n σ3 H3 w3 with ⟨stop,qn⟩|⟨go,N,hN,step⟩
 ·refine J4 hp (thn (T.done X rfl rfl rfl hc i pins s3 σ3 H3 X.xe I3 (stat fr3) st3 stop) λr s4 ⟨hr,I4⟩=> ?_);subst hr;exact Y6 ⟨σ3,H3,I4,qn⟩
 ·refine J4 hp (thn (T.item X rfl rfl rfl hc i pins s3 σ3 H3 X.xe I3 (stat fr3) st3 go) λr s4 ⟨u,hr,h4⟩=> ?_);subst hr;refine J4 hp (thn h4 λ_ s5 ⟨x,H5,I5,r5,y5,st5,fr5⟩=> ?_);have I5':=I5.pinned (stat fr5) (T.obj _ _ st5);refine J4 hp (thn (hg _ s5 σ3 H5 x u _ I5' r5 (step x H5 y5)) λ_ s6 ⟨σ6,H6,I6,q6⟩=> ?_);refine J4 hp (thn (hb _ s6 σ6 H6 _ I6 q6) λf s7 q7=> ?_);have again: ∀ {σ7:St} {H7:Hp},Inv X (pins++Jl fp s5.heap) σ7 H7 s7->N σ7 H7-> ∃m,m<n/\ ∃i σ' H',Inv X pins σ' H' s7/\tn i s7.heap/\(∀b∈fp,H' b=none)/\W i m σ' H':=λ{σ7 H7} I7 n7=>by
   obtain⟨m',hm,w7⟩:=hN σ7 H7 n7;refine⟨m',hm,i+1,σ7,H7,I7.unpinned,T.keep _ _ _ st5 λb hb o e=>(I7.pin (b,o) (D1 _ (D1 _ (wS hb e)))).1,λb hb=> ?_,w7⟩;obtain⟨o,e,d⟩:=T.obj _ _ st5 b hb;exact(I7.pin (b,o) (D1 _ (D1 _ (wS hb e)))).2.1
  cases f with
  |next=>obtain⟨σ7,H7,I7,n7⟩:=q7;exact again I7 n7
  |cont=>obtain⟨σ7,H7,I7,n7⟩:=q7;exact again I7 n7
  |brk=>obtain⟨σ7,H7,I7,q7⟩:=q7;exact⟨σ7,H7,I7.unpinned,q7⟩
  |ret v=>obtain⟨x7,σ7,H7,I7,r7,q7⟩:=q7;exact⟨x7,σ7,H7,I7.unpinned,r7,q7⟩
end
abbrev R2:=V->V->Hp->VK->Prop
def OpR (X:Cx)(f:Value->Value->Sem Value)(r:R2):Prop:=
 ∀ (pins:List (Addr×Obj)) (s:Shared) (σ:St) (H:Hp) (x y:V) (v u:Value) (Q:VK),Inv X pins σ H s->RelV x v->RelV y u->r x y H Q->
  wpAny (model X.prog X.w) X.A (f v u) (EP X pins σ Q) X.xe s
def UnR (X:Cx)(f:Value->Sem Value)(r:V->Hp->VK->Prop):Prop:=
 ∀ (pins:List (Addr×Obj)) (s:Shared) (σ:St) (H:Hp) (x:V) (v:Value) (Q:VK),Inv X pins σ H s->RelV x v->r x H Q->
  wpAny (model X.prog X.w) X.A (f v) (EP X pins σ Q) X.xe s
def CallR (X:Cx)(f:Value)(r:List V->Hp->VK->Prop):Prop:=
 ∀ (pins:List (Addr×Obj)) (s:Shared) (σ:St) (H:Hp) (xs:List V) (us:List Value) (Q:VK),Inv X pins σ H s->Vals xs us->r xs H Q->
  wpAny (model X.prog X.w) X.A (call f us) (EP X pins σ Q) X.xe s
def tOp (r:R2)(ta tb:TE):TE:=λσ H Q=>ta σ H λx H1=>tb σ H1 λy H2=>r x y H2 Q
def tUn (r:V->Hp->VK->Prop)(ta:TE):TE:=λσ H Q=>ta σ H λx H1=>r x H1 Q
def rI (C:Int->Int->Prop)(g:Int->Int->V):R2:=λx y H Q=> ∃i j,x= .int i/\y= .int j/\C i j/\Q (g i j) H
def rI0 (g:Int->Int->V):R2:=λx y H Q=> ∃i j,x= .int i/\y= .int j/\Q (g i j) H
def rU (g:Int->V):V->Hp->VK->Prop:=λx H Q=> ∃i,x= .int i/\Q (g i) H
section
variable {X:Cx}{a b c:Expr}{ta tb tc:TE}{pos:Pos}
theorem TK (ha:PE X a ta)(hb:PE X b tb){pins:List (Addr×Obj)}{s:Shared}{σ:St}{H:Hp}{R:V->V->Hp->Prop}(I:Inv X pins σ H s)
 (h:ta σ H λx H1=>tb σ H1 λy H2=>R x y H2){Q:Value->Shared->Prop}{f:Value->Value->Sem Value}
 (hf: ∀v u s2 x y H2,Inv X pins σ H2 s2->RelV x v->RelV y u->R x y H2->wpAny (model X.prog X.w) X.A (f v u) Q X.xe s2):
 wpAny (model X.prog X.w) X.A (eval a X.env) (λv s₁=>wpAny (model X.prog X.w) X.A (eval b X.env) (λu s₂=>wpAny (model X.prog X.w) X.A (f v u) Q X.xe s₂) X.xe s₁) X.xe s:=by
 refine thn (ha pins s σ H _ I h) λv s1 ⟨x,H1,I1,r1,q1⟩=> ?_
 refine thn (hb pins s1 σ H1 _ I1 q1) λu s2 ⟨y,H2,I2,r2,q2⟩=> ?_
 exact hf v u s2 x y H2 I2 r1 r2 q2
theorem TL {op:Operator}{r:R2}(ho:OpR X (binaryOp op) r)(ha:PE X a ta)(hb:PE X b tb):PE X (.BinOp a op b pos) (tOp r ta tb):=by
 intro pins s σ H Q I h;exact wpAny_BinOp (TK ha hb I h λv u s2 x y H2 I2 rx ry q=>ho pins s2 σ H2 x y v u Q I2 rx ry q)
theorem TN {op:UnaryOp}{r:V->Hp->VK->Prop}(ho:UnR X (unaryOp op) r)(ha:PE X a ta):PE X (.UnaryOp op a pos) (tUn r ta):=by
 intro pins s σ H Q I h;exact UnaryOp_ (thn (ha pins s σ H _ I h) λv s1 ⟨x,H1,I1,r1,q1⟩=>ho pins s1 σ H1 x v Q I1 r1 q1)
variable {f:Value->Value->Sem Value}
theorem opI {C:Int->Int->Prop}{g:Int->Int->Int}
 (rule: ∀ (i j:Int) (t u:Tok) (s:Shared) (Q:Value->Shared->Prop) (E:Value->Shared->Prop),C i j->Q (.int (g i j) s.toks) {s with toks:=s.toks+1}->wpAny (model X.prog X.w) X.A (f (.int i t) (.int j u)) Q E s):
 OpR X f (rI C λi j=> .int (g i j)):=by
 intro pins s σ H x y v u Q I rx ry h;obtain⟨i,j,rfl,rfl,hc,q⟩:=h;obtain⟨t,rfl⟩:=rx;obtain⟨t',rfl⟩:=ry;exact rule i j t t' s _ _ hc ⟨.int (g i j),H,I.tok _,⟨_,rfl⟩,q⟩
theorem Ko {g:Int->Int->Int}
 (rule: ∀ (i j:Int) (t u:Tok) (s:Shared) (Q:Value->Shared->Prop) (E:Value->Shared->Prop),Q (.int (g i j) s.toks) {s with toks:=s.toks+1}->wpAny (model X.prog X.w) X.A (f (.int i t) (.int j u)) Q E s):
 OpR X f (rI0 λi j=> .int (g i j)):=by
 intro pins s σ H x y v u Q I rx ry h;obtain⟨i,j,rfl,rfl,q⟩:=h;obtain⟨t,rfl⟩:=rx;obtain⟨t',rfl⟩:=ry;exact rule i j t t' s _ _ ⟨.int (g i j),H,I.tok _,⟨_,rfl⟩,q⟩
theorem Ti {g:Int->Int->Bool}
 (rule: ∀ (i j:Int) (t u:Tok) (s:Shared) (Q:Value->Shared->Prop) (E:Value->Shared->Prop),Q (.bool (g i j)) s->wpAny (model X.prog X.w) X.A (f (.int i t) (.int j u)) Q E s):
 OpR X f (rI0 λi j=> .bl (g i j)):=by
 intro pins s σ H x y v u Q I rx ry h;obtain⟨i,j,rfl,rfl,q⟩:=h;obtain⟨t,rfl⟩:=rx;obtain⟨t',rfl⟩:=ry;exact rule i j t t' s _ _ ⟨.bl (g i j),H,I,rfl,q⟩
def Kp (i j:Int):Prop:=0<j/\j<1073741824
def Kq (i j:Int):Prop:=0<=j/\j<=1000000/\i.natAbs<2^64
def CMul (i j:Int):Prop:=(-(2^64)<i/\i<2^64)\/(-(2^64)<j/\j<2^64)
theorem CMul.ok {i j:Int}(h:CMul i j):IntMulOk i j:=by
 rcases h with ⟨h1,h2⟩|⟨h1,h2⟩
 ·exact .of_left (intBits_le_64 h1 h2)
 ·exact .of_right (intBits_le_64 h1 h2)
theorem op_add:OpR X (binaryOp .Add) (rI0 λi j=> .int (i+j)):=Ko λ_ _ _ _ _ _ _ q=>add_int q
theorem Eb:OpR X (binaryOp .Sub) (rI0 λi j=> .int (i-j)):=Ko λ_ _ _ _ _ _ _ q=>sub_int q
theorem op_mul:OpR X (binaryOp .Mult) (rI CMul λi j=> .int (i*j)):=opI λ_ _ _ _ _ _ _ hc q=>mul_int q hc.ok
theorem Lb:OpR X (binaryOp .FloorDiv) (rI Kp λi j=> .int (i / j)):=opI λi j _ _ _ _ _ hc q=>by
 have h1:(0:Int)<j:=hc.1;have h2:j<1073741824:=hc.2;exact floordiv_int (by omega) (by rw [G0a i (by omega)];exact q) (.inl (PyProof.noPylong_small (by omega)))
theorem Ec:OpR X (binaryOp .Mod) (rI (λ_ j=>0<j) λi j=> .int (i%j)):=opI λi j _ _ _ _ _ hc q=>by
 have h1:(0:Int)<j:=hc;exact mod_int' (by omega) (by rw [G0b i (by omega)];exact q)
theorem Ed:OpR X (binaryOp .Pow) (rI Kq λi j=> .int (i^j.toNat)):=opI λ_ _ _ _ _ _ _ hc q=>pow_int_small hc.1 hc.2.1 hc.2.2 q
theorem unI {f:Value->Sem Value}{g:Int->Int}
 (rule: ∀ (i:Int) (t:Tok) (s:Shared) (Q:Value->Shared->Prop) (E:Value->Shared->Prop),Q (.int (g i) s.toks) {s with toks:=s.toks+1}->wpAny (model X.prog X.w) X.A (f (.int i t)) Q E s):
 UnR X f (rU λi=> .int (g i)):=by
 intro pins s σ H x v Q I rx h;obtain⟨i,rfl,q⟩:=h;obtain⟨t,rfl⟩:=rx;exact rule i t s _ _ ⟨.int (g i),H,I.tok _,⟨_,rfl⟩,q⟩
theorem Ee:UnR X (unaryOp .USub) (rU λi=> .int (-i)):=unI λ_ _ _ _ _ q=>neg_int q
end
def Kr:V->V->Bool
 | .non,.non=>true| .non,.int _=>true| .int _,.non=>true| .non,.bl _=>true| .bl _,.non=>true| .non,.str _=>true| .str _,.non=>true
 | .int _,.int _=>true| .bl _,.bl _=>true| .str _,.str _=>true| .byt _,.byt _=>true
 | .int _,.str _=>true| .str _,.int _=>true| .bl _,.str _=>true| .str _,.bl _=>true
 |_,_=>false
def rEq:R2:=λx y H Q=>Kr x y=true/\Q (.bl (decide (x=y))) H
def rNe:R2:=λx y H Q=>Kr x y=true/\Q (.bl (!decide (x=y))) H
theorem Rt {i j:Int}:decide (V.int i=V.int j)=(i==j):=by
 rw [B1];simp
theorem Ft {i j:Bool}:decide (V.bl i=V.bl j)=(i==j):=by
 rw [B1];simp
theorem Ru {i j:Str}:decide (V.str i=V.str j)=(i==j):=by
 rw [B1];simp
theorem Rv {i j:Array UInt8}:decide (V.byt i=V.byt j)=(i.toList==j.toList):=by
 rw [B1];cases i;cases j;simp
section
variable {X:Cx}{a b c:Expr}{ta tb tc:TE}{pos:Pos}
theorem jL {pins:List (Addr×Obj)}{σ:St}{H:Hp}{s:Shared}{Q:VK}{k k':Bool}(I:Inv X pins σ H s)(q:Q (.bl k) H)(e:k=k'):EP X pins σ Q (.bool k') s:=by
 subst e;exact⟨.bl k,H,I,rfl,q⟩
theorem op_eq:OpR X (compareOp .Eq) rEq:=by
 intro pins s σ H x y v u Q I rx ry h;obtain⟨hs,q⟩:=h;cases x with
 |non=>
  cases rx;cases y with
  |non=>cases ry;exact PySem.EqNone.eq_none_none (jL I q (by simp))
  |bl j=>cases ry;exact PySem.EqNone.eq_none_bool (jL I q (by simp))
  |int j=>obtain⟨t',rfl⟩:=ry;exact PySem.EqNone.eq_none_int (jL I q (by simp))
  |str j=>obtain⟨t',rfl⟩:=ry;exact PySem.EqNone.eq_none_str (jL I q (by simp))
  |_=>exact absurd (show false=true from hs) P4
 |bl i=>
  cases rx;cases y with
  |non=>cases ry;exact PySem.EqNone.eq_bool_none (jL I q (by simp))
  |bl j=>cases ry;exact eq_bool (jL I q Ft)
  |str j=>obtain⟨t',rfl⟩:=ry;exact PySem.EqMixed.eq_bool_str (jL I q (by simp))
  |_=>exact absurd (show false=true from hs) P4
 |int i=>
  obtain⟨t,rfl⟩:=rx;cases y with
  |non=>cases ry;exact PySem.EqNone.eq_int_none (jL I q (by simp))
  |int j=>obtain⟨t',rfl⟩:=ry;exact eq_int (jL I q Rt)
  |str j=>obtain⟨t',rfl⟩:=ry;exact PySem.EqMixed.eq_int_str (jL I q (by simp))
  |_=>exact absurd (show false=true from hs) P4
 |str i=>
  obtain⟨t,rfl⟩:=rx;cases y with
  |non=>cases ry;exact PySem.EqNone.eq_str_none (jL I q (by simp))
  |bl j=>cases ry;exact PySem.EqMixed.eq_str_bool (jL I q (by simp))
  |int j=>obtain⟨t',rfl⟩:=ry;exact PySem.EqMixed.eq_str_int (jL I q (by simp))
  |str j=>obtain⟨t',rfl⟩:=ry;exact eq_str (jL I q Ru)
  |_=>exact absurd (show false=true from hs) P4
 |byt i=>
  obtain⟨t,rfl⟩:=rx;cases y with
  |byt j=>obtain⟨t',rfl⟩:=ry;exact PySem.W.eq_bytes (jL I q Rv)
  |_=>exact absurd (show false=true from hs) P4
 |_=>cases y<;>exact absurd (show false=true from hs) P4
theorem op_ne:OpR X (compareOp .NotEq) rNe:=by
 intro pins s σ H x y v u Q I rx ry h;obtain⟨hs,q⟩:=h;cases x with
 |non=>
  cases rx;cases y with
  |non=>cases ry;exact PySem.EqNone.ne_none_none (jL I q (by simp))
  |bl j=>cases ry;exact PySem.EqNone.ne_none_bool (jL I q (by simp))
  |int j=>obtain⟨t',rfl⟩:=ry;exact PySem.EqNone.ne_none_int (jL I q (by simp))
  |str j=>obtain⟨t',rfl⟩:=ry;exact PySem.EqNone.ne_none_str (jL I q (by simp))
  |_=>exact absurd (show false=true from hs) P4
 |bl i=>
  cases rx;cases y with
  |non=>cases ry;exact PySem.EqNone.ne_bool_none (jL I q (by simp))
  |bl j=>cases ry;exact ne_bool (jL I q (congrArg not Ft))
  |str j=>obtain⟨t',rfl⟩:=ry;exact PySem.EqMixed.ne_bool_str (jL I q (by simp))
  |_=>exact absurd (show false=true from hs) P4
 |int i=>
  obtain⟨t,rfl⟩:=rx;cases y with
  |non=>cases ry;exact PySem.EqNone.ne_int_none (jL I q (by simp))
  |int j=>obtain⟨t',rfl⟩:=ry;exact ne_int (jL I q (congrArg not Rt))
  |str j=>obtain⟨t',rfl⟩:=ry;exact PySem.EqMixed.ne_int_str (jL I q (by simp))
  |_=>exact absurd (show false=true from hs) P4
 |str i=>
  obtain⟨t,rfl⟩:=rx;cases y with
  |non=>cases ry;exact PySem.EqNone.ne_str_none (jL I q (by simp))
  |bl j=>cases ry;exact PySem.EqMixed.ne_str_bool (jL I q (by simp))
  |int j=>obtain⟨t',rfl⟩:=ry;exact PySem.EqMixed.ne_str_int (jL I q (by simp))
  |str j=>obtain⟨t',rfl⟩:=ry;exact ne_str (jL I q (congrArg not Ru))
  |_=>exact absurd (show false=true from hs) P4
 |byt i=>
  obtain⟨t,rfl⟩:=rx;cases y with
  |byt j=>obtain⟨t',rfl⟩:=ry;exact PySem.W.ne_bytes (jL I q (congrArg not Rv))
  |_=>exact absurd (show false=true from hs) P4
 |_=>cases y<;>exact absurd (show false=true from hs) P4
theorem TQ:OpR X (compareOp .Lt) (rI0 λi j=> .bl (decide (i<j))):=Ti λ_ _ _ _ _ _ _ q=>lt_int q
theorem TR:OpR X (compareOp .LtE) (rI0 λi j=> .bl (decide (i<=j))):=Ti λ_ _ _ _ _ _ _ q=>le_int q
theorem TU:OpR X (compareOp .Gt) (rI0 λi j=> .bl (decide (j<i))):=Ti λ_ _ _ _ _ _ _ q=>gt_int q
theorem TV:OpR X (compareOp .GtE) (rI0 λi j=> .bl (decide (j<=i))):=Ti λ_ _ _ _ _ _ _ q=>ge_int q
theorem Lc:OpR X (compareOp .IsNot) (λx y H Q=>y= .non/\Q (.bl (!decide (x= .non))) H):=by
 intro pins s σ H x y v u Q I rx ry h;obtain⟨rfl,q⟩:=h;cases ry;refine isnot_none_gen (jL I q ?_);cases x<;>first
  |(cases rx;rfl)
  |(obtain⟨t,rfl⟩:=rx;rfl)
variable {r:R2}
theorem OpR.or {f:Value->Value->Sem Value}{r':R2}(h:OpR X f r)(h':OpR X f r'):OpR X f (λx y H Q=>r x y H Q\/r' x y H Q):=by
 intro pins s σ H x y v u Q I rx ry q;rcases q with q|q
 ·exact h pins s σ H x y v u Q I rx ry q
 ·exact h' pins s σ H x y v u Q I rx ry q
theorem jF (b:Expr){op:CmpOp}(h:op≠ .In:=by decide)(h2:op≠ .NotIn:=by decide):behindInMarks op b=false:=by
 have e1:(op==CmpOp.In)=false:=by cases op<;>first|rfl|exact absurd rfl h
 have e2:(op==CmpOp.NotIn)=false:=by cases op<;>first|rfl|exact absurd rfl h2
 cases b<;>simp [behindInMarks,e1,e2]
variable {op:CmpOp}
theorem Ld (ho:OpR X (compareOp op) r)(ha:PE X a ta)(hb:PE X b tb)(hm:behindInMarks op b=false):PE X (.Compare a [op] [b] pos) (tOp r ta tb):=by
 intro pins s σ H Q I h;exact wpAny_Compare1 (TK ha hb I h λv u s2 x y H2 I2 rx ry q=>ho pins s2 σ H2 x y v u Q I2 rx ry q) hm
def Le (t:TE):TT:=λσ H Q=>t σ H λx H'=> ∃k,x= .bl k/\Q k H'
theorem Lg (ho:OpR X (compareOp op) r)(ha:PE X a ta)(hb:PE X b tb)(hm:behindInMarks op b=false):PT X (.Compare a [op] [b] pos) (Le (tOp r ta tb)):=by
 intro pins s σ H Q I h;refine wpAny_isTrue_Compare1 (thn (ha pins s σ H _ I h) λv s1 ⟨x,H1,I1,r1,q1⟩=>thn (hb pins s1 σ H1 _ I1 q1) λu s2 ⟨y,H2,I2,r2,q2⟩=>
  thn (ho pins s2 σ H2 x y v u _ I2 r1 r2 q2) λc s3 ⟨z,H3,I3,r3,k,e,q3⟩=> ?_) hm
 subst e;cases r3;exact B0 ⟨H3,I3,q3⟩
def Rw (r r':R2)(ta tb tc:TE):TE:=λσ H Q=>ta σ H λx H1=>tb σ H1 λy H2=>r x y H2 λz H3=> ∃k,z= .bl k/\
 (if k=true then tc σ H3 λw' H4=>r' y w' H4 Q else Q (.bl false) H3)
theorem BB {op':CmpOp}{r':R2}(ho:OpR X (compareOp op) r)(ho':OpR X (compareOp op') r')(ha:PE X a ta)(hb:PE X b tb)(hc:PE X c tc)
 (hm:lastMarks [op,op'] [b,c]=false:=by with_unfolding_all rfl):PE X (.Compare a [op,op'] [b,c] pos) (Rw r r' ta tb tc):=by
 intro pins s σ H Q I h;refine Compare_chain (thn (ha pins s σ H _ I h) λv s1 ⟨x,H1,I1,r1,q1⟩=>chain_link (thn (hb pins s1 σ H1 _ I1 q1) λu s2 ⟨y,H2,I2,r2,q2⟩=>
  thn (ho pins s2 σ H2 x y v u _ I2 r1 r2 q2) λd s3 ⟨z,H3,I3,r3,k,e,q3⟩=> ?_)) hm
 subst e;cases r3;refine B0 ?_;cases k with
 |false=>exact ite_ff ⟨.bl false,H3,I3,rfl,q3⟩
 |true=>exact ite_tt (chain_last (thn (hc pins s3 σ H3 _ I3 q3) λw' s4 ⟨z',H4,I4,r4,q4⟩=>ho' pins s4 σ H4 y z' u w' Q I4 r2 r4 q4))
theorem BC {op':CmpOp}{r':R2}(ho:OpR X (compareOp op) r)(ho':OpR X (compareOp op') r')(ha:PE X a ta)(hb:PE X b tb)(hc:PE X c tc)
 (hm:lastMarks [op,op'] [b,c]=false:=by with_unfolding_all rfl):PT X (.Compare a [op,op'] [b,c] pos) (Le (Rw r r' ta tb tc)):=by
 intro pins s σ H Q I h;refine isTrue_chain (thn (ha pins s σ H _ I h) λv s1 ⟨x,H1,I1,r1,q1⟩=>test_link (thn (hb pins s1 σ H1 _ I1 q1) λu s2 ⟨y,H2,I2,r2,q2⟩=>
  thn (ho pins s2 σ H2 x y v u _ I2 r1 r2 q2) λd s3 ⟨z,H3,I3,r3,k,e,q3⟩=> ?_)) hm
 subst e;cases r3;refine B0 ?_;cases k with
 |false=>
  obtain⟨k',e',q'⟩:=q3;cases e';exact ite_ff ⟨H3,I3,q'⟩
 |true=>
  refine ite_tt (test_last (thn (hc pins s3 σ H3 _ I3 q3) λw' s4 ⟨z',H4,I4,r4,q4⟩=>thn (ho' pins s4 σ H4 y z' u w' _ I4 r2 r4 q4) λd' s5 ⟨z2,H5,I5,r5,k2,e2,q5⟩=> ?_));subst e2;cases r5;exact B0 ⟨H5,I5,q5⟩
theorem Xm:(sizeLine:Nat)<2^63:=by rw [sizeLine_eq];decide
theorem Wv {x:V}{us:List Value}(r:Vals [x] us): ∃u,us= [u]/\RelV x u:=by
 cases r with
 |cons r1 r2=>cases r2;exact⟨_,rfl,r1⟩
theorem BD {x y:V}{us:List Value}(r:Vals [x,y] us): ∃u w',us= [u,w']/\RelV x u/\RelV y w':=by
 cases r with
 |cons r1 r2=>
  cases r2 with
  |cons r3 r4=>cases r4;exact⟨_,_,rfl,r1,r3⟩
theorem Rx (hc:X.calm=true):CallR X (.builtin "max") (λxs H Q=> ∃i j,xs= [.int i,.int j]/\Q (.int (if j>i then j else i)) H):=by
 intro pins s σ H xs us Q I r h;obtain⟨i,j,rfl,q⟩:=h;obtain⟨u,w',rfl,⟨t,rfl⟩,⟨t',rfl⟩⟩:=BD r;refine max_two_ints (I.ok.hd hc) λh' tk k=>⟨_,H,I.kept k,?_,q⟩
 by_cases hj:j>i
 ·rw [if_pos hj,if_pos hj];exact⟨_,rfl⟩
 ·rw [if_neg hj,if_neg hj];exact⟨_,rfl⟩
theorem call_int1:CallR X (.type "int") (λxs H Q=>(∃i,xs= [.int i]/\Q (.int i) H)\/ ∃k,xs= [.bl k]/\Q (.int (if k then 1 else 0)) H):=by
 intro pins s σ H xs us Q I r h;rcases h with ⟨i,rfl,q⟩|⟨k,rfl,q⟩
 ·obtain⟨u,rfl,t,rfl⟩:=Wv r;exact call_int_int ⟨.int i,H,I,⟨_,rfl⟩,q⟩
 ·obtain⟨u,rfl,r1⟩:=Wv r;cases r1;exact call_int_bool ⟨.int (if k then 1 else 0),H,I.tok _,⟨_,rfl⟩,q⟩
end
structure ObjM (h:Heap)(x dx C:Addr)(mA:Str->Option Value):Prop where
 obj:h.get? x=some (PySem.W.instObj C dx)
 ns:h.Ns1 dx mA
 ne:dx≠x
theorem Ry {dx:Addr}{mA:Str->Option Value}(n:h.Ns1 dx mA): ∃od,h.get? dx=some od/\ ∀name,PySem.W.lookIn name od=some (mA name):=by
 obtain⟨o,es,ep,ho,hd,hk,_,hm⟩:=n;refine⟨o,ho,λname=> ?_⟩;have e:=hm name;unfold nsFind findBy at e;rw [<-Array.find?_toList] at e;unfold PySem.W.lookIn;rw [hd];dsimp only;split
 ·rename_i y q;rw [q] at e;exact congrArg some e
 ·rename_i q;rw [q] at e;have a:es.toList.any (·.refKey)=false:=by
   rw [List.any_eq_false];intro y hy;obtain⟨z,t,hkey⟩:=hk y (Array.mem_toList_iff.mp hy);simp [DictEntry.refKey,hkey]
  have a': ¬es.toList.any (·.refKey)=true:=by rw [a];exact P4
  rw [if_neg a'];exact congrArg some e
theorem ObjM.look {x dx C:Addr}{mA:Str->Option Value}(I:ObjM h x dx C mA): ∃od,PySem.W.InstAt h x (PySem.W.instObj C dx) C (some od)/\ ∀name,PySem.W.lookIn name od=some (mA name):=
 let ⟨od,ho,hl⟩:=Ry I.ns
 ⟨od,⟨I.obj,rfl,rfl,ho⟩,hl⟩
section
variable {P:Program}{w:World}{H H':Hp}{h h':Heap}{a C dx:Addr}{fs fs':List (Str×V)}
theorem Lh (hok:HOk P w H h)(e:H a=some (.ins C dx fs)): ∃mA,ObjM h a dx C mA/\(∀f,Ty (fs.lookup f) (mA f))/\PySem.Within mA (fs.map (·.1))/\fs.length<=1000/\H dx=some (.own a):=by
 obtain⟨d,z,ne,ob,mA,n,r,q⟩:=(show ObjOk P w H h a (.ins C dx fs) from hok a _ e);exact⟨mA,⟨ob,n,ne⟩,r,q,z,d⟩
end
structure Cls (K:PySem.W.Frag)(C:Addr):Prop where
 pg:PySem.W.plainGet K C Str.empty=true
 hd:PySem.W.hasDictIn K C=true
 po:PySem.W.plainOver K C=true
 sa:PySem.W.findIn K (.ref C) "__setattr__" =some (some (.builtin "object.__setattr__"))
theorem Cls.get {C:Addr}(c:Cls K C)(f:Str):PySem.W.plainGet K C f=true:=c.pg
section
variable {X:Cx}{pins:List (Addr×Obj)}{σ:St}{H:Hp}{s:Shared}{A:Around}{E:Value->Shared->Prop}{Q:Value->Shared->Prop}{c:Value}{b:Bool}
inductive TyOf (K:PySem.W.Frag)(H:Hp):V->Value->Prop where
 |non:TyOf K H .non (.type "NoneType")
 |bl (x:Bool):TyOf K H (.bl x) (.type "bool")
 |int (i:Int):TyOf K H (.int i) (.type "int")
 |str (x:Str):TyOf K H (.str x) (.type "str")
 |flt (x:UInt64):TyOf K H (.flt x) (.type "float")
 |lst {a:Addr} {xs:List V} (e:H a=some (.lst xs)):TyOf K H (.ref a) (.type "list")
 |frz {a:Addr} {o:Obj} {xs:List V} (e:H a=some (.frz o (.lst xs))):TyOf K H (.ref a) (.type "list")
 |tup {a:Addr} {xs:List V} (e:H a=some (.tup xs)):TyOf K H (.ref a) (.type "tuple")
 |dK {a:Addr} {kvs:List (Key×V)} (e:H a=some (.dK kvs)):TyOf K H (.ref a) (.type "dict")
 |dT {a:Addr} {kvs:List (List Key×V)} (e:H a=some (.dT kvs)):TyOf K H (.ref a) (.type "dict")
 |ins {a C dx:Addr} {fs:List (Str×V)} (e:H a=some (.ins C dx fs)) (cl:Cls K C) (ha:PySem.W.findIn K (.ref C) "__class__" =some (some (.builtin "object.__class__")))
  (hn:PySem.W.specialIn K (.builtin "object.__class__") "__get__" =some (some (.builtin "getset_descriptor.__get__"))) (htk:PySem.W.takesIn K (.builtin "object.__class__")=some true)
  (hm:PySem.W.mroIn K C (.type "object")=some true):TyOf K H (.ref a) (.ref C)
theorem Rz {x:V}{u t:Value}(I:Inv X pins σ H s)(rx:RelV x u)(ty:TyOf X.K H x t)(e:PySem.W.kitOne X.K t c=some b)(h: ∀tk,Q (.bool b) {s with toks:=tk}):
 wpAny (model X.prog X.w) A (call (.builtin "isinstance") [u,c]) Q E s:=by
 cases ty with
 |non=>cases (show u=Value.none from rx);exact F5 PySem.W.kitx_none I.kIn True.intro e (λz=>nomatch z) h
 |bl y=>cases (show u=Value.bool y from rx);exact F5 PySem.W.kitx_bool I.kIn True.intro e (λz=>nomatch z) h
 |int i=>obtain⟨t,q⟩:=(show ∃t,u=Value.int i t from rx);cases q;exact F5 PySem.W.kitx_int I.kIn True.intro e (λz=>nomatch z) h
 |str y=>obtain⟨t,q⟩:=(show ∃t,u=Value.str y t from rx);cases q;exact F5 PySem.W.kitx_str I.kIn True.intro e (λz=>nomatch z) h
 |flt y=>obtain⟨t,q⟩:=(show ∃t,u=Value.float y t from rx);cases q;exact F5 PySem.W.kitx_float I.kIn True.intro e (λz=>nomatch z) h
 | @lst a xs ea=>
  cases (show u=Value.ref a from rx);obtain⟨_,_,n,_,h1⟩:=(show ObjOk X.prog X.w H s.heap a (.lst xs) from I.hok a _ ea);exact F5 PySem.W.kitx_list I.kIn ⟨_,h1,rfl⟩ e (λz=>nomatch z) h
 | @frz a ob xs ea=>
  cases (show u=Value.ref a from rx);obtain⟨_,_,_,n,_,h1⟩:=(show ObjOk X.prog X.w H s.heap a (.frz ob (.lst xs)) from I.hok a _ ea);exact F5 PySem.W.kitx_list I.kIn ⟨_,h1,rfl⟩ e (λz=>nomatch z) h
 | @tup a xs ea=>
  cases (show u=Value.ref a from rx);obtain⟨_,_,_,p⟩:=(show ObjOk X.prog X.w H s.heap a (.tup xs) from I.hok a _ ea);obtain⟨o,h1,h2,_⟩:=p;exact F5 PySem.W.kitx_tuple I.kIn ⟨o,h1,h2⟩ e (λz=>nomatch z) h
 | @dK a kvs ea=>
  cases (show u=Value.ref a from rx);obtain⟨_,_,vs,_,p⟩:=(show ObjOk X.prog X.w H s.heap a (.dK kvs) from I.hok a _ ea);obtain⟨o,es,ep,h1,h2,_⟩:=p;exact F5 PySem.W.kitx_dict I.kIn ⟨o,h1,h2.1⟩ e (λz=>nomatch z) h
 | @dT a kvs ea=>
  cases (show u=Value.ref a from rx);obtain⟨_,_,xs,_,o,es,ep,h1,h2,_⟩:=(show ObjOk X.prog X.w H s.heap a (.dT kvs) from I.hok a _ ea);exact F5 PySem.W.kitx_dict I.kIn ⟨o,h1,h2.1⟩ e (λz=>nomatch z) h
 | @ins a C dx fs ea cl ha hn htk hm=>
  cases (show u=Value.ref a from rx);obtain⟨mA,O,_⟩:=Lh I.hok ea;obtain⟨od,J,_⟩:=O.look;exact F5 (PySem.W.kitx_own (cl.get _) cl.hd ha hn htk hm) I.kIn J e (λz=>nomatch z) h
end
structure Room (k:Nat)(A:Around):Prop where
 hd:A.handled=none
 dp:A.depth+3*k+5<recursionLimit
 un:A.units+16*k+200<cLine
 gd:A.guards=some []
variable {k:Nat}
theorem Room.deeper (r:Room (k+1) A)(env:Env):Room k (A.deeper env):=
 ⟨r.hd,by have:=r.dp;show A.depth+1+3*k+5<_;omega,by have:=r.un;show A.units+3+16*k+200<_;omega,r.gd⟩
theorem Room.depth (r:Room k A):A.depth<recursionLimit:=by have:=r.dp;omega
theorem Room.units (r:Room k A):A.units+64<cLine:=by have:=r.un;omega
def Ks:TA:=λ_ H Q=>Q [] H
def Ef (ta:TE)(tr:TA):TA:=λσ H Q=>ta σ H λx H1=>tr σ H1 λxs H2=>Q (x::xs) H2
section
variable {X:Cx}{e:Expr}{es:List Expr}{te:TE}{t:TA}{pos:Pos}
theorem pa_nil:PA X [] Ks:=λ_ _ _ _ H Q I h=>Calls.spliced_nil ⟨[],H,I,.nil,h⟩
theorem vo (ha:PE X e te)(hr:PA X es t)(hs:starEach (e::es) X.env=(false,eval e X.env)::starEach es X.env:=by rfl):PA X (e::es) (Ef te t):=by
 intro pos pins s σ H Q I h;rw [hs];show wpAny _ _ (spliced ((false,eval e X.env)::backTo pos (starEach es X.env))) _ _ s;refine Calls.spliced_cons (thn (ha pins s σ H _ I h) λu s1 ⟨x,H1,I1,r1,q1⟩=> ?_);exact thn (hr pos pins s1 σ H1 _ I1 q1) λus s2 ⟨xs,H2,I2,r2,q2⟩=>⟨x::xs,H2,I2,.cons r1 r2,q2⟩
def Kt (t:TA):TE:=λσ H Q=>t σ H λxs H1=>xs.length<=sizeLine/\ ∀p,H1 p=none->Q (.ref p) (upd H1 p (.tup xs))
def Ku (t:TA):TE:=λσ H Q=>t σ H λxs H1=>xs.length<=sizeLine/\ ∀p,H1 p=none->Q (.ref p) (upd H1 p (.lst xs))
theorem Eg {x1}(h:PA X es t):PE X (.Tuple es x1 pos) (Kt t):=by
 intro pins s σ H Q I hq;refine wpAny_Tuple_spliced (thn (h pos pins s σ H _ I hq) λus s1 ⟨xs,H1,I1,r,z,q⟩=>⟨by rw [<-r.length];exact z,?_⟩);have hf:H1 s1.heap.objs.size=none:=I1.hok.fresh (G9 _);refine⟨.ref s1.heap.objs.size,upd H1 s1.heap.objs.size (.tup xs),I1.laid (t':=s1.toks) (λb u e=>G1 _ e) (G9 _) ?_,rfl,q _ hf⟩;exact⟨z,us,r,IsTupN.new _ _⟩
theorem Eh (h:PA X es t):PE X (.List es pos) (Ku t):=by
 intro pins s σ H Q I hq;refine wpAny_List_spliced (thn (h pos pins s σ H _ I hq) λus s1 ⟨xs,H1,I1,r,z,q⟩=>⟨by rw [<-r.length];exact z,?_⟩);have hf:H1 s1.heap.objs.size=none:=I1.hok.fresh (G9 _);refine⟨.ref s1.heap.objs.size,upd H1 s1.heap.objs.size (.lst xs),I1.laid (t':=s1.toks) (λb u e=>G1 _ e) (G9 _) ?_,rfl,q _ hf⟩;exact⟨z,us,0,r,P8 _ rfl⟩
end
abbrev Sp:=List V->Hp->VK->XK->Prop
abbrev CXT:=List Env->Hp->Shared->XK->Value->Shared->Prop
structure Env0 (P:Program)(w:World)(K:PySem.W.Frag)(mg:Str->Option Value)(base:Heap)(A:Around)(outer:List Env)(s:Shared)(H:Hp):Prop where
 frames:A.frames=some outer
 mod:Mod K mg base
 bs: ∀b o,base.get? b=some o->s.heap.get? b=some o/\H b=none
 bsz:base.objs.size<=s.heap.objs.size
 funs:s.heap.FunFrames base outer
 frf: ∀b∈frs outer,H b=none
 hok:HOk P w H s.heap
 bare:AllBare s.gens
def CE (outer:List Env)(P:Program)(w:World)(H:Hp)(s:Shared)(Q:VK)(u:Value)(s':Shared):Prop:=
 ∃v H',s'.os=s.os/\AllBare s'.gens/\Un (frs outer) [] H H' s.heap s'.heap/\HOk P w H' s'.heap/\RelV v u/\Q v H'
def CR (CX:CXT)(outer:List Env)(P:Program)(w:World)(H:Hp)(s:Shared)(Q:VK)(E:XK)(r:Result)(s':Shared):Prop:=
 match r with
 | .ok (.ret u)=>CE outer P w H s Q u s'
 | .ok _=>False
 | .error e=>CX outer H s E e s'
structure FnOk (P:Program)(w:World)(K:PySem.W.Frag)(mg:Str->Option Value)(base:Heap)(CX:CXT)(k:Nat)(f:Addr)(fd:FuncData)(ps:List Str)(sp:Sp):Prop where
 len: ∀vs H Q E,sp vs H Q E->vs.length=ps.length
 run: ∀ (A:Around) (outer:List Env) (s:Shared) (H:Hp) (args:Args) (us:List Value) (vs:List V) (Q:VK) (E:XK),Room k A->Env0 P w K mg base A outer s H->BindsTo s fd args (ps.zip us)->Vals vs us->sp vs H Q E->
  codeAny (model P w) A (.call (.ref f) args) (CR CX outer P w H s Q E) s
section
variable {X:Cx}{pins:List (Addr×Obj)}{σ:St}{H:Hp}{s s':Shared}
theorem Inv.env0 (I:Inv X pins σ H s):Env0 X.prog X.w X.K X.mg X.base X.A X.stack s H:=
 ⟨I.ok.frames,I.ok.mod,I.bs,D6 I.ok.bsz I.sz,I.stack,I.stkFree,I.hok,I.bare⟩
theorem Inv.after {Q:VK}{u:Value}(I:Inv X pins σ H s)(h:CE X.stack X.prog X.w H s Q u s'):EP X pins σ Q u s':=by
 obtain⟨v,H',os,bare,un,hok,r,q⟩:=h;obtain⟨hh,g,d,t,os'⟩:=s';obtain rfl:os'=s.os:=os;exact⟨v,H',I.call (h':=hh) (g':=g) (d':=d) (t':=t) (ch:= []) un hok bare (λb z=>absurd z (by simp)),r,q⟩
end
def Ei (sp:Sp)(dvs:List V)(E:XK)(t:TA):TE:=λσ H Q=>t σ H λvs H1=>sp (vs++dvs) H1 Q E
def Binds (K:PySem.W.Frag)(fd:FuncData)(ps:List Str)(ds:List Value):Prop:=
 ∀ (s:Shared) (us:List Value),K.In s.heap->(us++ds).length=ps.length->BindsTo s fd ⟨us,[]⟩ (ps.zip (us++ds))
theorem Binds.all {fd:FuncData}{ps:List Str}(h: ∀us:List Value,us.length=ps.length->bindArgs fd ⟨us,[]⟩=pure (ps.zip us)):Binds K fd ps []:=λs us _ hl=>by
 rw [B9] at hl ⊢;exact .of_eq (h us hl)
def RA (CX:CXT)(X:Cx)(E:XK):Prop:= ∀ (pins:List (Addr×Obj)) (σ:St) (H:Hp) (s:Shared) (e:Value) (s':Shared),Inv X pins σ H s->CX X.stack H s E e s'->X.xe e s'
section
variable {X:Cx}{CX:CXT}{k:Nat}{f C:Addr}{fd:FuncData}{ps:List Str}{sp:Sp}{dvs:List V}{ds:List Value}{E:XK}{x m:Str}{p pos apos:Pos}{e o:Expr}{es:List Expr}{ta:TE}{t:TA}
theorem Ej {pins:List (Addr×Obj)}{σ:St}{H:Hp}{s:Shared}{Q:VK}{us:List Value}{vs:List V}(F:FnOk X.prog X.w X.K X.mg X.base CX k f fd ps sp)(hr:Room k X.A)(hb:Binds X.K fd ps ds)(hd:Vals dvs ds)(hx:RA CX X E)
 (I:Inv X pins σ H s)(r:Vals vs us)(h:sp (vs++dvs) H Q E):wpAny (model X.prog X.w) X.A (call (.ref f) us) (EP X pins σ Q) X.xe s:=by
 have r2:Vals (vs++dvs) (us++ds):=r.append hd;have hl:(us++ds).length=ps.length:=by rw [<-r2.length];exact F.len _ _ _ _ h
 refine G0Z (G0O (F.run X.A X.stack s H ⟨us,[]⟩ (us++ds) (vs++dvs) Q E hr I.env0 (hb s us I.kIn hl) r2 h) λr s' hq=> ?_);cases r with
 |error e=>exact hx pins σ H s e s' I hq
 |ok fl=>
  cases fl with
  |ret u=>exact I.after hq
  |next=>exact False.elim hq
  |brk=>exact False.elim hq
  |cont=>exact False.elim hq
theorem Li (F:FnOk X.prog X.w X.K X.mg X.base CX k f fd ps sp)(hr:Room k X.A)(hg:Gl X x)(hm:X.mg x=some (.ref f))(hk:PySem.W.keepIn X.K (.ref f)=true)(hb:Binds X.K fd ps ds)(hd:Vals dvs ds)(hx:RA CX X E)
 (ha:PA X (e::es) t)(hdb:(x==("__debug__" :Str))=false:=by decide)(he:starEach (e::es) X.env=(false,eval e X.env)::starEach es X.env:=by rfl)(hpl:(backTo pos (starEach es X.env)).any (·.1)=false:=by rfl):
 PE X (.Call (.Name x p) (e::es) [] pos) (Ei sp dvs E t):=by
 intro pins s σ H Q I h;refine G0h (Rn I hg hm ?_ hdb);refine PySem.W.callWith_K (h₀:=X.base) I.ok.mod.kin hk (thn (ha pos pins s σ H _ I h) λus s1 ⟨vs,H1,I1,r,q⟩=>⟨I1.kIn,?_⟩) he hpl;exact Ej F hr hb hd hx I1 r q
end
structure FnScope (N P:List Str)(sc:Scope):Prop where
 kind:sc.kind= .function
 co:sc.isCoroutine=false
 gen:sc.isGenerator=false
 nd:N.Nodup
 pre:N.take P.length=P
 par: ∀x∈P,sc.names.lookup x=some .local\/sc.names.lookup x=some .cell
 nofree: ∀y∈sc.names,y.2≠ .free
variable {kindOf:Str->Option NameKind}{x:Str}
theorem Xn: ∀ {binds:List (Str×Value)} {m:Str->Option Value},(∀v,(x,v) ∉ binds)->bindL kindOf binds m x=m x
 | [],_,_=>rfl
 |(n,v)::r,m,h=>by
  unfold bindL;rw [Xn λw hw=>h w (D2 _ hw)];split
  ·have:x≠n:=by rintro rfl;exact h v P9
   simp [this]
  ·rfl
theorem Xo: ∀ {binds:List (Str×Value)} {m:Str->Option Value},(∀v,(x,v) ∉ binds)->bindC kindOf binds m x=m x
 | [],_,_=>rfl
 |(n,v)::r,m,h=>by
  unfold bindC;rw [Xo λw hw=>h w (D2 _ hw)];split
  ·rfl
  ·have:x≠n:=by rintro rfl;exact h v P9
   simp [this]
theorem Xp {v:Value}: ∀ {P:List Str} {vs:List Value} {i:Nat} {m:Str->Option Value},P.Nodup->P[i]? =some x->vs[i]? =some v->kindOf x=some .local->
 bindL kindOf (P.zip vs) m x=some v
 | [],_,_,_,_,h,_,_=>by simp at h
 |_::_,[],_,_,_,_,h,_=>by simp at h
 |p::P,w::vs,0,m,nd,h1,h2,hk=>by
  simp at h1 h2;subst h1;subst h2;show bindL kindOf ((p,w)::P.zip vs) m p=_;unfold bindL;rw [Xn λv hv=>(V5.mp nd).1 (Y7 hv).1,if_pos hk];simp
 |p::P,w::vs,i+1,m,nd,h1,h2,hk=>by
  show bindL kindOf ((p,w)::P.zip vs) m x=_;unfold bindL;exact Xp (i:=i) (V5.mp nd).2 (by simpa using h1) (by simpa using h2) hk
theorem Xq {v:Value}: ∀ {P:List Str} {vs:List Value} {i:Nat} {m:Str->Option Value},P.Nodup->P[i]? =some x->vs[i]? =some v->kindOf x≠some .local->
 bindC kindOf (P.zip vs) m x=some v
 | [],_,_,_,_,h,_,_=>by simp at h
 |_::_,[],_,_,_,_,h,_=>by simp at h
 |p::P,w::vs,0,m,nd,h1,h2,hk=>by
  simp at h1 h2;subst h1;subst h2;show bindC kindOf ((p,w)::P.zip vs) m p=_;unfold bindC;rw [Xo λv hv=>(V5.mp nd).1 (Y7 hv).1,if_neg hk];simp
 |p::P,w::vs,i+1,m,nd,h1,h2,hk=>by
  show bindC kindOf ((p,w)::P.zip vs) m x=_;unfold bindC;exact Xq (i:=i) (V5.mp nd).2 (by simpa using h1) (by simpa using h2) hk
def start (N:List Str)(vs:List V):St:=vs.map some++List.replicate (N.length-vs.length) none
def Fu (CX:CXT)(P:Program)(w:World)(K:PySem.W.Frag)(mg:Str->Option Value)(base:Heap)(N:List Str)(qual:Str)(scope:Scope)(f:Addr)(cd:Value)(A:Around)(outer:List Env)(s:Shared)(H:Hp)(E:XK):Cx where
 prog:=P
 w:=w
 K:=K
 mg:=mg
 base:=base
 A:=A.deeper (envOfC qual scope s.heap.objs.size f cd)
 N:=N
 s₀:=s
 H₀:=H
 env:=envOfC qual scope s.heap.objs.size f cd
 outer:=outer
 stack:=envOfC qual scope s.heap.objs.size f cd::outer
 ex:= []
 calm:=true
 fn:=λ_=>true
 pn:= []
 xe:=λe s'=>wpAny (model P w) (A.deeper (envOfC qual scope s.heap.objs.size f cd)) (leaving (envOfC qual scope s.heap.objs.size f cd) e) (λ_ s''=>CX outer H s E e s'') (λe' s''=>CX outer H s E e' s'') s'
theorem WC {sc:Scope}{n:Nat}(h:sc.names.lookup x=some .cell): ∃c,(cellsFrom n sc.names []).lookup x=some c:=by
 have q:=G0K sc.names n [] (.inl h);exact U6.mp q
theorem RB {CX:CXT}{mg:Str->Option Value}{base:Heap}{N ps:List Str}{qual:Str}{scope:Scope}{f:Addr}{cd:Value}{outer:List Env}{s1:Shared}{E:XK}{us:List Value}{vs:List V}
 (S:FnScope N ps scope)(hd:A.handled=none)(e0:Env0 P w K mg base A outer s H)(hl:vs.length=ps.length)(r:Vals vs us)
 (x:InCallC s s.heap.objs.size (bindL (envOfC qual scope s.heap.objs.size f cd).kindOf (ps.zip us) λ_=>none) (cellsFrom (s.heap.objs.size+1) scope.names []) (bindC (envOfC qual scope s.heap.objs.size f cd).kindOf (ps.zip us) λ_=>none) s1):
 Inv (Fu CX P w K mg base N qual scope f cd A outer s H E) [] (start N vs) H s1:=by
 have hpl:ps.length<=N.length:=by have:=congrArg List.length S.pre;rw [R3] at this;omega
 obtain⟨h1,tk,rfl,hk⟩:=x.done;have noA: ∀b:Addr,b ∉ (Fu CX P w K mg base N qual scope f cd A outer s H E).ex:=λb z=>absurd (show b∈([]:List Addr) from z) (by simp)
 refine⟨⟨e0.mod,S.kind,rfl,rfl,G9 _,λy z c h1 h2=> ?_,λy hy=> ?_,λy c _ h=> ?_,λ_=>hd,Around.frames_deeper e0.frames,.inr ⟨rfl,rfl⟩,λb z=>absurd z (noA b),e0.bs,e0.bsz,λb _ _=>noA b,λb z=>absurd z (noA b),e0.funs,e0.frf⟩,
  rfl,e0.bare,Un.kept hk,⟨_,x.toInCall.ns,λi y v h1 h2 h3=> ?_⟩,λy c h=>⟨_,x.cell y c h⟩,e0.hok.fresh (G9 _),λy c h=> ?_,λp hp=>absurd (show p∈([]:List (Addr×Obj)) from hp) (by simp),e0.hok.kept hk,?_⟩
 ·exact name_of_addr x.apart (K0 h1) (K0 h2)
 ·have hy:scope.names.lookup y=some .cell\/scope.names.lookup y=some .free:=hy;rcases hy with hy|hy
  ·exact WC hy
  ·exact absurd rfl (S.nofree _ (K0 hy))
 ·exact D5 (x.above y c (K0 h))
 ·have hi:i<vs.length:=by
   unfold start at h2
   by_cases hi:i<vs.length
   ·exact hi
   ·rw [P7 (by simpa using hi)] at h2;rw [G0v] at h2;split at h2<;>cases h2
  have ha:vs[i]? =some v:=by
   unfold start at h2;rw [D9 (by simpa using hi),P1] at h2;cases e:vs[i]? with
   |none=>rw [e] at h2;cases h2
   |some a=>rw [e] at h2;cases h2;rfl
  obtain⟨u,hu,rv⟩:=r.get ha;have hp:ps[i]? =some y:=by
   rw [<-S.pre,U7 (by omega)];exact h1
  have ndP:ps.Nodup:=by rw [<-S.pre];exact S.nd.sublist (A3 _ _)
  refine⟨u,rv,?_⟩;rcases S.par y (G5 hp) with k|k
  ·exact .inl ⟨k,Xp ndP hp hu k⟩
  ·obtain⟨c,e⟩:=WC (n:=s.heap.objs.size+1) k;refine .inr ⟨.inl k,c,e,?_⟩;have q:=x.cell y c e;rw [Xq ndP hp hu (by show scope.names.lookup y≠_;rw [k];decide)] at q;exact q
 ·exact e0.hok.fresh (D5 (x.above y c (K0 h)))
 ·unfold start;show _=N.length;rw [G7,G2,List.length_replicate];omega
theorem TW {CX:CXT}{mg:Str->Option Value}{base:Heap}{f:Addr}{name qual:Str}{params:Arguments}{body:List Stmt}{scope:Scope}{dV kV doc pm cdv ct oc:Value}{an od:Option Addr}{osl:Array (Option Value)}{N ps:List Str}{sp:Sp}(lk:K.lookup f=some ⟨oc,od,.func (PySem.W.fnOf name qual params body scope dV kV doc pm an cdv ct),osl⟩)(hcd:PySem.W.codeIn K cdv qual=true)(S:FnScope N ps scope)
 (len: ∀vs H Q E,sp vs H Q E->vs.length=ps.length)
 (hbody: ∀ (A:Around) (outer:List Env) (s:Shared) (H:Hp) (vs:List V) (Q:VK) (E:XK),Room k (A.deeper (envOfC qual scope s.heap.objs.size f cdv))->sp vs H Q E->
  ∃t,PSs (Fu CX P w K mg base N qual scope f cdv A outer s H E) body t/\t {nx:=λ_ H'=>Q .non H',rt:=Q} (start N vs) H):
 FnOk P w K mg base CX (k+1) f (PySem.W.fnOf name qual params body scope dV kV doc pm an cdv ct) ps sp:=by
 refine⟨len,λA outer s H args us vs Q E hr e0 hb r hsp=> ?_⟩;have hl:=len _ _ _ _ hsp;have KX:K.In s.heap:=e0.mod.kin.keeps λb o e=>(e0.bs b o e).1
 have lim:s.heap.NoLimit:=e0.mod.nolimit.keeps λb o e=>(e0.bs b o e).1
 have hkind: ∀y∈ps.zip us,scope.names.lookup y.1=some .local\/(scope.names.lookup y.1=some .cell/\((cellsFrom (s.heap.objs.size+1) scope.names []).lookup y.1).isSome=true):=λ⟨n,v⟩ hy=>by
  rcases S.par n (Y7 hy).1 with q|q
  ·exact .inl q
  ·exact .inr ⟨q,G0K _ _ _ (.inl q)⟩
 refine codeAny_call_function hr.depth (KX _ _ lk) rfl S.co S.gen rfl (PySem.W.codeRec_of KX hcd) (hb _ _ _ _ ?_);refine wpAny_newFunctionEnv_cells S.kind hkind λenv he s1 x=> ?_
 subst he;refine⟨lim.keeps x.toInCall.keep,codeAny_func ?_⟩;obtain⟨t,ht,hq⟩:=hbody A outer s H vs Q E (hr.deeper _) hsp;have I:Inv (Fu CX P w K mg base N qual scope f cdv A outer s H E) [] (start N vs) H s1:=RB S hr.hd e0 hl r x;refine S0 (ht [] s1 (start N vs) H _ I hq) (λfl s' hs=> ?_) λe s' hs=>hs
 have fin: ∀ {σ':St} {H':Hp} {v:V} {u:Value},Inv (Fu CX P w K mg base N qual scope f cdv A outer s H E) [] σ' H' s'->RelV v u->Q v H'->CE outer P w H s Q u s':=
  λ{σ' H' v u} J rv q=>⟨v,H',J.os,J.bare,J.base,J.hok,rv,q⟩
 cases fl with
 |ret u=>
  obtain⟨v,σ',H',J,rv,q⟩:=hs;exact fin J rv q
 |next=>
  obtain⟨σ',H',J,q⟩:=hs;exact fin (v:=V.non) (u:=Value.none) J rfl q
 |brk=>
  obtain⟨_,_,_,q⟩:=hs;exact False.elim q
 |cont=>
  obtain⟨_,_,_,q⟩:=hs;exact False.elim q
section
variable {X:Cx}{x:Str}{p pos:Pos}{e:Expr}{es:List Expr}{t:TA}{id T:String}{r:List V->Hp->VK->Prop}
def tCB (r:List V->Hp->VK->Prop)(t:TA):TE:=λσ H Q=>t σ H λvs H1=>r vs H1 Q
theorem WD (hc:CallR X (.builtin id) r)(hg:Gl X x)(hm:X.mg x=none)(hv:bootBuiltins x=some (.builtin id))(ha:PA X (e::es) t)(hn:x≠ "__name__" :=by decide)(hdb:(x==("__debug__" :Str))=false:=by decide)
 (he:starEach (e::es) X.env=(false,eval e X.env)::starEach es X.env:=by rfl)(hpl:(backTo pos (starEach es X.env)).any (·.1)=false:=by rfl):PE X (.Call (.Name x p) (e::es) [] pos) (tCB r t):=by
 intro pins s σ H Q I h;refine G0h (Wh I hg hm hv ?_ hn hdb);exact PyProof.Rows.callWith_builtin1 (thn (ha pos pins s σ H _ I h) λus s1 ⟨vs,H1,I1,r1,q1⟩=>hc pins s1 σ H1 vs us Q I1 r1 q1) he hpl
theorem WL (hc:CallR X (.type T) r)(hg:Gl X x)(hm:X.mg x=none)(hv:bootBuiltins x=some (.type T))(ha:PA X (e::es) t)(hn:x≠ "__name__" :=by decide)(hdb:(x==("__debug__" :Str))=false:=by decide)
 (he:starEach (e::es) X.env=(false,eval e X.env)::starEach es X.env:=by rfl)(hpl:(backTo pos (starEach es X.env)).any (·.1)=false:=by rfl):PE X (.Call (.Name x p) (e::es) [] pos) (tCB r t):=by
 intro pins s σ H Q I h;refine G0h (Wh I hg hm hv ?_ hn hdb);exact C4 (thn (ha pos pins s σ H _ I h) λus s1 ⟨vs,H1,I1,r1,q1⟩=>hc pins s1 σ H1 vs us Q I1 r1 q1) he hpl
end
end L2
namespace HT
open PySem PyProof.Rows
def jY:List Int->List Int->Bool
 | [],[]=>false
 | [],_::_=>true
 |_::_,[]=>false
 |x::xs,y::ys=>if x=y then jY xs ys else decide (x<y)
theorem Vj (x y:Int)(xs ys:List Int):jY (x::xs) (y::ys)=if x=y then jY xs ys else decide (x<y):=rfl
theorem VL:jY [] []=false:=rfl
theorem YL (y:Int)(ys:List Int):jY [] (y::ys)=true:=rfl
theorem YM (x:Int)(xs:List Int):jY (x::xs) []=false:=rfl
theorem Pn (A:Around)(s:Shared)(a:Int)(t:Tok)(c:Int)(u:Tok): ∃e,SeqAt.EqAt A s (.int a t) (.int c u) e/\(e=true↔a=c):=
 ⟨(a==c),SeqAt.EqAt.int_int a t c u,by simp⟩
theorem BE (A:Around)(s:Shared)(a:Int)(t:Tok)(c:Int)(u:Tok)(prog:Program)(w:World)(E:Value->Shared->Prop)(Q:Value->Shared->Prop)(h:Q (.bool (decide (a<c))) s):
 wpAny (model prog w) A (richCompare .Lt (.int a t) (.int c u)) Q E s:=
 (G1h h:wpAny (model prog w) A (compareOp .Lt (.int a t) (.int c u)) Q E s)
section
open PySem.SeqAt
open PySem.AutoSeq1 (wpAny_loadPart')
open PySem.MeetsSeq PySem.MeetsSeq2 PySem.MeetsSeq3
theorem Za (l b:Addr)(items items2:Array Value)(n n2:Nat)(dd dd2:Option Addr)(sl sl2:Array (Option Value))(ns ms:List Int)(hi:IntsAre items.toList ns)(hj:IntsAre items2.toList ms):
 Meets (Builtin.«tuple.__lt__» ⟨[.ref l,.ref b],[]⟩)
  (λ_ R s=>s.heap.get? l=some {cls:= .type "tuple",dict:=dd,data:= .seq items n,slots:=sl}/\s.heap.get? b=some {cls:= .type "tuple",dict:=dd2,data:= .seq items2 n2,slots:=sl2}/\
   R (.ok (.ret (.bool (jY ns ms)))) s):=
 .of_wp λprog w A R s h=>by
  obtain⟨hp,g,d,tk,os⟩:=s;obtain⟨hl,hb,h⟩:=h;have f2:=AutoSeq1.sub_tuple_tuple;have z1:items.size=ns.length:=by rw [<-hi.length];simp
  have z2:items2.size=ms.length:=by rw [<-hj.length];simp
  wp_walk using wpAny_loadPart' hl,wpAny_loadPart' hb,wpAny_forIn_list _ (λrest b s'=>b.1=none/\s'=⟨hp,g,d,tk,os⟩/\ ∃ (vs ws:List Value) (ns' ms':List Int),rest=vs.zip ws/\
   IntsAre vs ns'/\IntsAre ws ms'/\ns'.length+items2.size=ms'.length+items.size/\R (.ok (.ret (.bool (jY ns' ms')))) ⟨hp,g,d,tk,os⟩) _
  case turn=>
   rintro ⟨y,x⟩ rest b s' ⟨hb',rfl,vs,ws,ns',ms',hz,hvi,hwi,hlen,hR⟩;cases hvi with
   |nil=>rw [G0q] at hz;cases hz
   |cons a t hvi'=>
    cases hwi with
    |nil=>rw [List.zip_nil_right] at hz;cases hz
    |cons c u hwi'=>
     rw [Q0] at hz;injection hz with hyx hrest
     injection hyx with hy hx
     subst hy hx;rw [Vj] at hR;simp only [D8] at hlen;obtain⟨e,he,hiff⟩:=Pn A.in1 ⟨hp,g,d,tk,os⟩ a t c u;refine wpAny_bind (he prog w _ _ ?_);cases e with
     |true=>
      rw [if_pos (hiff.mp rfl)] at hR
      wp_walk
      exact⟨rfl,rfl,_,_,_,_,hrest,hvi',hwi',by omega,hR⟩
     |false=>
      rw [if_neg (λq=>absurd (hiff.mpr q) P4)] at hR;have hri:=BE A.in1 ⟨hp,g,d,tk,os⟩ a t c u prog w
      wp_walk using hri
      exact⟨_,rfl,by simpa using hR⟩
  case fin=>
   rintro ⟨b1,b2⟩ s' ⟨hb',rfl,vs,ws,ns',ms',hz,hvi,hwi,hlen,hR⟩;simp only at hb';subst hb';have hv:jY ns' ms'=decide (items.size<items2.size):=by
    cases hvi with
    |nil=>
     cases hwi with
     |nil=>
      simp only [M8] at hlen;rw [VL];exact(D4 (by omega)).symm
     |cons c u hw=>
      simp only [M8,D8] at hlen;rw [YL];exact(P3 (by omega)).symm
    |cons a t hv=>
     cases hwi with
     |nil=>
      simp only [M8,D8] at hlen;rw [YM];exact(D4 (by omega)).symm
     |cons c u hw=>
      rw [Q0] at hz;cases hz
   rw [hv] at hR
   wp_walk
   exact⟨_,rfl,by simpa [Builtin.Tuple.tupleCompareSizes] using hR⟩
  case h=>
   exact⟨rfl,rfl,items.toList,items2.toList,ns,ms,rfl,hi,hj,by omega,h⟩
end
section
variable {prog:Program}{w:World}{A:Around}{E:Value->Shared->Prop}{s:Shared}
theorem De {l b:Addr}{items items2:Array Value}{ns ms:List Int}{Q:Value->Shared->Prop}(hl:IsTup s.heap l items)(hb:IsTup s.heap b items2)(hi:IntsAre items.toList ns)(hj:IntsAre items2.toList ms)
 (hu:A.units<cLine)(h:Q (.bool (jY ns ms)) s):wpAny (model prog w) A (compareOp .Lt (.ref l) (.ref b)) Q E s:=by
 obtain⟨⟨cls,dd,data,sl⟩,ho,hc,n,hd⟩:=id hl;obtain⟨⟨cls2,dd2,data2,sl2⟩,ho2,hc2,n2,hd2⟩:=id hb;simp only at hc hd hc2 hd2;subst hc hd hc2 hd2;exact richCompare_meets_room (op:= .Lt) ⟨_,ho,rfl⟩ ⟨_,ho2,rfl⟩ X5 G0L (G0w _ _) (Za l b items items2 n n2 dd dd2 sl sl2 ns ms hi hj)
  ⟨ho,ho2,show Value.bool (jY ns ms)≠Value.notImplemented/\Q (.bool (jY ns ms)) s from ⟨(λx=>nomatch x),h⟩⟩ hu
theorem Lj {t b:Addr}{vs ws:List Value}{Q:Value->Shared->Prop}(ht:IsTup s.heap t vs.toArray)(hb:IsTup s.heap b ws.toArray)(hv:vs≠ [])
 (h1:ws= []->Q (.ref t) s)(h2:ws≠ []->Q (.ref s.heap.objs.size) {s with heap:=s.heap.push {cls:= .type "tuple",data:= .seq (vs++ws).toArray}})
 (hsz:vs.length+ws.length<=sizeLine):wpAny (model prog w) A (binaryOp .Add (.ref t) (.ref b)) Q E s:=by
 obtain⟨⟨cls,dd,data,sl⟩,ho,hc,n,hd⟩:=id ht;obtain⟨⟨cls2,dd2,data2,sl2⟩,ho2,hc2,n2,hd2⟩:=id hb;simp only at hc hd hc2 hd2;subst hc hd hc2 hd2;have e:vs.toArray++ws.toArray=(vs++ws).toArray:=by simp
 by_cases hw:ws= []
 ·exact concat_meets ⟨_,ho,rfl⟩ ⟨_,ho2,rfl⟩ G0D seq_tuple_add W4 V6 (U8 _ _)
   (tuple_addW1 t b vs.toArray ws.toArray n n2 dd dd2 sl sl2 (by simpa using hv) (by simp [hw])) ⟨ho,ho2,h1 hw⟩
 ·refine concat_meets ⟨_,ho,rfl⟩ ⟨_,ho2,rfl⟩ G0D seq_tuple_add W4 V6 (U8 _ _)
   (tuple_addW2 t b vs.toArray ws.toArray n n2 dd dd2 sl sl2 (by simpa using hv) (by simpa using hw) (by rw [P6,P6];exact hsz)) ⟨ho,ho2,?_⟩
  rw [e];exact h2 hw
def sIx (n d:Nat):Option Int->Nat
 |none=>d
 |some v=>if v<0 then (v+(n:Int)).toNat else min v.toNat n
theorem Ek (n d:Nat)(hd:d<=n)(o:Option Int):sIx n d o<=n:=by
 cases o with
 |none=>exact hd
 |some v=>
  show (if v<0 then (v+(n:Int)).toNat else min v.toNat n)<=n
  by_cases hv:v<0
  ·rw [if_pos hv];omega
  ·rw [if_neg hv];exact G0E _ _
theorem RC (v:Int)(n d:Nat):(if v<0 then max (v+(n:Int)) 0 else min v (n:Int))=((sIx n d (some v):Nat):Int):=by
 show (if v<0 then max (v+(n:Int)) 0 else min v (n:Int))=(((if v<0 then (v+(n:Int)).toNat else min v.toNat n):Nat):Int)
 by_cases hv:v<0
 ·simp only [if_pos hv];omega
 ·simp only [if_neg hv];omega
theorem Df (lo hi:Option Int)(n:Nat):Builtin.Slice.sliceAdjust lo hi 1 (n:Int)=(((sIx n 0 lo:Nat):Int),((sIx n n hi:Nat):Int)):=by
 have h1: ¬ ((1:Int)<0):=by omega
 unfold Builtin.Slice.sliceAdjust;simp only [h1,G1l];refine Prod.ext ?_ ?_
 ·cases lo with
  |none=>rfl
  |some v=>exact RC v n 0
 ·cases hi with
  |none=>rfl
  |some v=>exact RC v n n
theorem Dg (i j:Nat):Builtin.Slice.slicePlaces (i:Int) (j:Int) 1=j-i:=by
 unfold Builtin.Slice.slicePlaces;have h1:(1:Int)>0:=by omega
 simp only [h1,if_true,Int.ediv_one];split<;>omega
theorem Vk {v:Value}{o:Option Int}{Q:Option Int->Shared->Prop}(p:IsPart v o)(h:Q o s):wpAny (model prog w) A (Builtin.Slice.slicePartIndex v) Q E s:=by
 cases p with
 |none=>exact slicePart_none h
 |int i t=>exact slicePart_int h
theorem yZ {sl:Addr}{vl vu:Value}{lo hi:Option Int}{n:Nat}{Q:Int×Int×Nat->Shared->Prop}(hs:s.heap.IsSliceOf sl vl vu .none)(pl:IsPart vl lo)(pu:IsPart vu hi)
 (h:Q (((sIx n 0 lo:Nat):Int),1,sIx n n hi-sIx n 0 lo) s):wpAny (model prog w) A (Builtin.Slice.sliceApplied (.ref sl) (pure (n:Int))) Q E s:=by
 obtain⟨os,hos,hcs,hds⟩:=id hs;unfold Builtin.Slice.sliceApplied Builtin.Slice.sliceFields;refine wpAny_bind (wpAny_bind (wpAny_field hos hds (x:=vl) rfl (wpAny_bind (wpAny_field hos hds (x:=vu) rfl (wpAny_bind (wpAny_field hos hds (x:= .none) rfl (P0 ?_)))))));refine wpAny_bind (slicePart_none ?_);show wpAny _ _ (if ((1:Int)==0)=true then _ else _) _ _ s;rw [if_neg (by decide)];refine wpAny_bind (Vk pl (wpAny_bind (Vk pu (wpAny_bind (P0 ?_)))));show wpAny _ _ (match Builtin.Slice.sliceAdjust lo hi 1 (n:Int) with|(lo,hi)=>pure (lo,(1:Int),Builtin.Slice.slicePlaces lo hi 1)) _ _ s;rw [Df lo hi n];show wpAny _ _ (pure (((sIx n 0 lo:Nat):Int),(1:Int),Builtin.Slice.slicePlaces ((sIx n 0 lo:Nat):Int) ((sIx n n hi:Nat):Int) 1)) _ _ s;rw [Dg];exact P0 h
theorem BF (xs:Array Value)(i k:Nat):((List.range k).filterMap λ(m:Nat)=>xs[((i:Int)+(m:Int)*1).toNat]?).toArray=((xs.toList.drop i).take k).toArray:=by
 have e:(λ(m:Nat)=>xs[((i:Int)+(m:Int)*1).toNat]?)=λm=>xs[i+m]? :=by
  funext m
  have:((i:Int)+(m:Int)*1).toNat=i+m:=by omega
  rw [this]
 rw [e];have:=pick_run xs i k;rw [List.filterMap_map] at this;have e2:((λx=>xs[x]?)∘λx=>i+x)=λm=>xs[i+m]? :=rfl
 rw [e2] at this;rw [this]
theorem ZI {t sl:Addr}{items:Array Value}{vl vu:Value}{lo hi:Option Int}{Q:Value->Shared->Prop}(ht:IsTup s.heap t items)(hs:s.heap.IsSliceOf sl vl vu .none)(pl:IsPart vl lo)(pu:IsPart vu hi)
 (hw: ¬ (sIx items.size 0 lo=0/\sIx items.size items.size hi=items.size))
 (h:Q (.ref s.heap.objs.size) {s with heap:=s.heap.push {cls:= .type "tuple",data:= .seq ((items.toList.drop (sIx items.size 0 lo)).take (sIx items.size items.size hi-sIx items.size 0 lo)).toArray}})
 (hsz:items.size<=sizeLine):wpAny (model prog w) A (getItem (.ref t) (.ref sl)) Q E s:=by
 have htake:sizeOk (.seq ((items.toList.drop (sIx items.size 0 lo)).take (sIx items.size items.size hi-sIx items.size 0 lo)).toArray):=by
  show ((items.toList.drop (sIx items.size 0 lo)).take (sIx items.size items.size hi-sIx items.size 0 lo)).toArray.size<=sizeLine;rw [P6,R3,S4,T7];omega
 have hj:sIx items.size items.size hi<=items.size:=Ek _ _ (G9 _) hi;obtain⟨os,hos,hcs,hds⟩:=id hs;have hTs:s.TypeIs (.ref sl) "slice" :=⟨os,hos,hcs⟩;unfold getItem
 try with_reducible refine B7 ?_
 first|refine wpAny_bind (P0 ?_)|skip
 refine wpAny_bind (wpAny_sequenceKey ht.typeIs (by decide) ?_);refine wpAny_bind (B8 (name:=Str.ofString "__getitem__") ht.typeIs L7
  (N9 L7 ht.typeIs entry_tuple_getitem ?_ (args_tuple_getitem _ _)))
 show wpAny _ _ (Builtin.Tuple.tupleItemsOf (.ref t) >>= _) _ _ s;refine wpAny_bind (tupleItemsOf_ ht ?_);refine wpAny_bind (wpAny_typeOf hTs ?_);rw [if_pos (by decide)];refine wpAny_bind (yZ hs pl pu ?_);have hno: ¬ ((((sIx items.size 0 lo:Nat):Int)==0&&(1:Int)==1&&(sIx items.size items.size hi-sIx items.size 0 lo)==items.size)=true):=by
  intro q;rw [R8,R8] at q;have q1:((sIx items.size 0 lo:Nat):Int)=0:=eq_of_beq q.1.1;have q2:sIx items.size items.size hi-sIx items.size 0 lo=items.size:=eq_of_beq q.2;exact hw ⟨by omega,by omega⟩
 show wpAny _ _ (if (((sIx items.size 0 lo:Nat):Int)==0&&(1:Int)==1&&(sIx items.size items.size hi-sIx items.size 0 lo)==items.size)=true then _ else _) _ _ s;rw [if_neg hno,BF]
 first
  |exact wpAny_bind (m:=Builtin.Tuple.tupleExact _) (J3 (P0 ⟨_,rfl,P0 h⟩) htake)
  |exact wpAny_bind (m:=Builtin.Tuple.tupleExact _) (J3 (wpAny_bind (P0 (P0 ⟨_,rfl,P0 h⟩))) htake)
  |exact wpAny_bind (wpAny_bind (m:=Builtin.Tuple.tupleExact _) (J3 (P0 (P0 ⟨_,rfl,P0 h⟩)) htake))
  |exact wpAny_bind (wpAny_bind (m:=Builtin.Tuple.tupleExact _) (J3 (P0 ⟨_,rfl,P0 h⟩) htake))
end
end HT
namespace L2
open PySem PySem.Spec PyProof.Rows
abbrev TO:=St->Hp->(Option Int->Hp->Prop)->Prop
def PO (X:Cx)(e:Option Expr)(t:TO):Prop:=
 ∀ (pins:List (Addr×Obj)) (s:Shared) (σ:St) (H:Hp) (Q:Option Int->Hp->Prop),Inv X pins σ H s->t σ H Q->
  wpAny (model X.prog X.w) X.A (evalPart e X.env) (λu s'=> ∃o H',Inv X pins σ H' s'/\IsPart u o/\Q o H') X.xe s
def Lk:TO:=λ_ H Q=>Q none H
def TX (t:TE):TO:=λσ H Q=>t σ H λx H1=> ∃i,x= .int i/\Q (some i) H1
section
variable {X:Cx}{e:Expr}{te:TE}{lo hi:Option Expr}{tl th:TO}{pos p2:Pos}
theorem po_none:PO X none Lk:=by
 intro pins s σ H Q I h;rw [evalPart_none];exact P0 ⟨none,H,I,.none,h⟩
theorem Ll (h:PE X e te):PO X (some e) (TX te):=by
 intro pins s σ H Q I hw;rw [evalPart_some];refine thn (h pins s σ H _ I hw) λu s1 ⟨x,H1,I1,r1,q1⟩=> ?_
 obtain⟨i,rfl,q⟩:=q1;obtain⟨t,rfl⟩:=r1;exact⟨some i,H1,I1,.int i t,q⟩
def SlR (X:Cx)(r:V->Option Int->Option Int->Hp->VK->Prop):Prop:=
 ∀ (pins:List (Addr×Obj)) (s:Shared) (σ:St) (H:Hp) (x:V) (v vl vu:Value) (lo hi:Option Int) (sl:Addr) (Q:VK),Inv X pins σ H s->RelV x v->s.heap.IsSliceOf sl vl vu .none->IsPart vl lo->IsPart vu hi->r x lo hi H Q->
  ∃T id,typeLookup (.type T) "__getitem__" =pure (some (.builtin id))/\s.TypeIs v T/\wpAny (model X.prog X.w) X.A (getItem v (.ref sl)) (EP X pins σ Q) X.xe s
theorem SlR.or {r r':V->Option Int->Option Int->Hp->VK->Prop}(h:SlR X r)(h':SlR X r'):SlR X (λx lo hi H Q=>r x lo hi H Q\/r' x lo hi H Q):=by
 intro pins s σ H x v vl vu lo hi sl Q I rx hs pl pu q;rcases q with q|q
 ·exact h pins s σ H x v vl vu lo hi sl Q I rx hs pl pu q
 ·exact h' pins s σ H x v vl vu lo hi sl Q I rx hs pl pu q
def tSl (r:V->Option Int->Option Int->Hp->VK->Prop)(te:TE)(tl th:TO):TE:=λσ H Q=>te σ H λx H1=>tl σ H1 λl H2=>th σ H2 λu H3=>r x l u H3 Q
theorem BG {r:V->Option Int->Option Int->Hp->VK->Prop}(hr:SlR X r)(he:PE X e te)(hl:PO X lo tl)(hu:PO X hi th):PE X (.Subscript e (.Slice lo hi none p2) pos) (tSl r te tl th):=by
 intro pins s σ H Q I h;refine Subscript_ (thn (he pins s σ H _ I h) λv s1 ⟨x,H1,I1,r1,q1⟩=> ?_);refine wpAny_Slice (thn (hl pins s1 σ H1 _ I1 q1) λvl s2 ⟨l,H2,I2,pl,q2⟩=>thn (hu pins s2 σ H2 _ I2 q2) λvu s3 ⟨u,H3,I3,pu,q3⟩=> ?_);rw [evalPart_none];refine P0 ?_;have I4:Inv X pins σ H3 {s3 with heap:=s3.heap.push {cls:= .type "slice",data:= .fields #[vl,vu,.none]}}:=I3.kept (t':=s3.toks) λb ob q=>G1 _ q
 obtain⟨T,id,hT,ht,hg⟩:=hr pins {s3 with heap:=s3.heap.push {cls:= .type "slice",data:= .fields #[vl,vu,.none]}} σ H3 x v vl vu l u s3.heap.objs.size Q I4 r1 (Heap.IsSliceOf.new ..) pl pu q3;show wpAny (model X.prog X.w) X.A (subscriptTail e (.Slice lo hi none p2) v (.ref s3.heap.objs.size)) (EP X pins σ Q) X.xe {s3 with heap:=s3.heap.push {cls:= .type "slice",data:= .fields #[vl,vu,.none]}};exact tail_any (ops:= [.ref s3.heap.objs.size,v]) ht hT hg (by with_unfolding_all rfl)
def Bh (xs:List V)(lo hi:Option Int):List V:=(xs.drop (HT.sIx xs.length 0 lo)).take (HT.sIx xs.length xs.length hi-HT.sIx xs.length 0 lo)
theorem WM (xs:List V)(lo hi:Option Int):(Bh xs lo hi).length<=xs.length:=by
 unfold Bh;rw [R3,S4];omega
def KU (K:PySem.W.Frag):V->Option Int->Option Int->Hp->VK->Prop:=λx lo hi H Q=> ∃a xs,x= .ref a/\SqT K H a xs/\
 ¬ (HT.sIx xs.length 0 lo=0/\HT.sIx xs.length xs.length hi=xs.length)/\ ∀p,H p=none->Q (.ref p) (upd H p (.tup (Bh xs lo hi)))
theorem sl_tup:SlR X (KU X.K):=by
 intro pins s σ H x v vl vu lo hi sl Q I rx hs pl pu h;obtain⟨a,xs,rfl,hx,hw,q⟩:=h;cases rx;obtain⟨its,r,ht,hz⟩:=I.tuple hx;have hlen:its.toArray.size=xs.length:=by rw [P6];exact r.length.symm
 refine⟨"tuple",_,PyProof.Rows.slot_tuple_getitem.lookup,ht.typeIs,?_⟩;refine HT.ZI ht hs pl pu (by rw [hlen];exact hw) ?_ (by rw [hlen];exact hz);rw [hlen];refine⟨.ref s.heap.objs.size,_,I.laid (t':=s.toks) (o:= .tup (Bh xs lo hi)) (λb ob q=>G1 _ q) (G9 _) ?_,rfl,q _ (I.hok.fresh (G9 _))⟩;exact⟨D6 (WM xs lo hi) hz,_,(r.drop (HT.sIx xs.length 0 lo)).take (HT.sIx xs.length xs.length hi-HT.sIx xs.length 0 lo),IsTupN.new _ _⟩
def TY (K:PySem.W.Frag):R2:=λx y H Q=> ∃a b xs ys,x= .ref a/\y= .ref b/\SqT K H a xs/\SqT K H b ys/\xs≠ []/\xs.length+ys.length<=sizeLine/\
 (ys= []->Q (.ref a) H)/\(ys≠ []-> ∀p,H p=none->Q (.ref p) (upd H p (.tup (xs++ys))))
theorem Vals.nil_iff {xs:List V}{us:List Value}(r:Vals xs us):us= []↔xs= []:=by
 cases r with
 |nil=>simp
 |cons _ _=>simp
theorem op_catT:OpR X (binaryOp .Add) (TY X.K):=by
 intro pins s σ H x y v u Q I rx ry h;obtain⟨a,b,xs,ys,rfl,rfl,ha,hb,hx,hz,q1,q2⟩:=h;cases rx;cases ry;obtain⟨its,r1,p1,_⟩:=I.tuple ha;obtain⟨its2,r2,p2,_⟩:=I.tuple hb;refine HT.Lj p1 p2 (λz=>hx (r1.nil_iff.mp z)) (λz=>⟨.ref a,H,I,rfl,q1 (r2.nil_iff.mp z)⟩) (λz=> ?_) (by rw [<-r1.length,<-r2.length];exact hz);refine⟨.ref s.heap.objs.size,_,I.laid (t':=s.toks) (o:= .tup (xs++ys)) (λb ob q=>G1 _ q) (G9 _) ?_,rfl,q2 (λw=>z (r2.nil_iff.mpr w)) _ (I.hok.fresh (G9 _))⟩;exact⟨by rw [G7];exact hz,_,r1.append r2,IsTupN.new _ _⟩
end
def ixN (n:Nat)(i:Int):Option Nat:=if 0<=i then (if i<n then some i.toNat else none) else if-(n:Int)<=i then some (i+n).toNat else none
def atI {α:Type}(xs:List α)(i:Int):Option α:=(ixN xs.length i).bind λj=>xs[j]?
theorem RD {n:Nat}{i:Int}{j:Nat}(h:ixN n i=some j):seqIndex? i n=some j/\j<n/\ -(n:Int)<=i/\i<n:=by
 unfold ixN at h
 by_cases h0:0<=i
 ·rw [if_pos h0] at h
  by_cases h1:i<n
  ·rw [if_pos h1] at h;have e:i.toNat=j:=M7 h;exact⟨by rw [seqIndex_of h0 h1,e],by omega,by omega,h1⟩
  ·rw [if_neg h1] at h;cases h
 ·rw [if_neg h0] at h
  by_cases h1: -(n:Int)<=i
  ·rw [if_pos h1] at h;have e:(i+n).toNat=j:=M7 h;exact⟨by rw [seqIndex_neg (by omega) h1,e],by omega,h1,by omega⟩
  ·rw [if_neg h1] at h;cases h
theorem Gg {α:Type}{xs:List α}{i:Int}{v:α}(h:atI xs i=some v): ∃j,seqIndex? i xs.length=some j/\xs[j]? =some v/\j<xs.length/\ -(xs.length:Int)<=i/\i<xs.length:=by
 unfold atI at h;cases e:ixN xs.length i with
 |none=>rw [e] at h;cases h
 |some j=>
  rw [e] at h;obtain⟨h1,h2,h3,h4⟩:=RD e;exact⟨j,h1,h,h2,h3,h4⟩
theorem zm {α:Type}{xs:List α}{j:Nat}{v:α}(h:xs[j]? =some v):atI xs (j:Int)=some v:=by
 have hj:j<xs.length:=(G6.mp h).1;have e:ixN xs.length (j:Int)=some j:=by
  unfold ixN;rw [if_pos (by omega),if_pos (by omega)];simp
 unfold atI;rw [e];exact h
def Gh (b:Expr):Prop:= ∀o i,subscripted b false o i=operate [o,i] (getItem o i)
def IxR (X:Cx)(r:R2):Prop:=
 ∀ (value slice:Expr) (pins:List (Addr×Obj)) (s:Shared) (σ:St) (H:Hp) (x y:V) (v u:Value) (Q:VK),Inv X pins σ H s->RelV x v->RelV y u->r x y H Q->
  subscripted slice false v u=operate [v,u] (getItem v u)->wpAny (model X.prog X.w) X.A (subscriptTail value slice v u) (EP X pins σ Q) X.xe s
def MtR (X:Cx)(id:String)(r:V->List V->Hp->VK->Prop):Prop:=
 ∀ (pins:List (Addr×Obj)) (s:Shared) (σ:St) (H:Hp) (x:V) (xs:List V) (v:Value) (us:List Value) (Q:VK),Inv X pins σ H s->RelV x v->Vals xs us->r x xs H Q->
  wpAny (model X.prog X.w) X.A (call (.builtin id) (v::us)) (EP X pins σ Q) X.xe s
section
variable {X:Cx}{a b:Expr}{ta tb:TE}{pos:Pos}
theorem IxR.or {r r':R2}(h:IxR X r)(h':IxR X r'):IxR X (λx y H Q=>r x y H Q\/r' x y H Q):=by
 intro value slice pins s σ H x y v u Q I rx ry q hs;rcases q with q|q
 ·exact h value slice pins s σ H x y v u Q I rx ry q hs
 ·exact h' value slice pins s σ H x y v u Q I rx ry q hs
theorem TZ {r:R2}(hr:IxR X r)(ha:PE X a ta)(hb:PE X b tb)(hs:Gh b):PE X (.Subscript a b pos) (tOp r ta tb):=by
 intro pins s σ H Q I h;exact Subscript_ (TK ha hb I h λv u s2 x y H2 I2 rx ry q=>hr a b pins s2 σ H2 x y v u Q I2 rx ry q (hs _ _))
def Kv (K:PySem.W.Frag):R2:=λx y H Q=> ∃p xs i v,x= .ref p/\y= .int i/\SqL K H p xs/\atI xs i=some v/\Q v H
def Kw (K:PySem.W.Frag):R2:=λx y H Q=> ∃p xs i v,x= .ref p/\y= .int i/\SqT K H p xs/\atI xs i=some v/\Q v H
def Kx:R2:=λx y H Q=> ∃z i c,x= .str z/\y= .int i/\z.length<=sizeLine/\atI z.cps.toList i=some c/\Q (.str ⟨#[c]⟩) H
theorem ix_list:IxR X (Kv X.K):=by
 intro value slice pins s σ H x y v u Q I rx ry h hs;obtain⟨p,xs,i,z,rfl,rfl,hq,he,q⟩:=h;cases rx;obtain⟨t,rfl⟩:=ry;obtain⟨its,r,pl,hz⟩:=I.list hq;obtain⟨j,h1,h2,h3,h4,h5⟩:=Gg he;obtain⟨w,ew,rw'⟩:=r.get h2;have hl:=r.length;have hn:=Xm;have fin:EP X pins σ Q w s:=⟨z,H,I,rw',q⟩
 by_cases h0:0<=i
 ·have hj:i.toNat=j:=by
   rw [seqIndex_of h0 h5] at h1;exact M7 h1
  exact item_listR pl.isList h0 (by omega) (by rw [hj];simpa using ew) fin hs
 ·have hj:(i+(its.toArray.size:Int)).toNat=j:=by
   rw [seqIndex_neg (by omega) h4] at h1;rw [P6,<-hl];exact M7 h1
  exact subscriptTail_builtinR (x:=w) pl.isList.typeIs slot_list_getitem.lookup
   (wpAny_getItem_list_neg (Q:=λr s'=>r=w/\EP X pins σ Q r s') pl.isList (by omega) (by rw [P6]<;>omega) (by omega) (by rw [hj];simpa using ew) ⟨rfl,fin⟩) hs
theorem ix_tup:IxR X (Kw X.K):=by
 intro value slice pins s σ H x y v u Q I rx ry h hs;obtain⟨p,xs,i,z,rfl,rfl,hq,he,q⟩:=h;cases rx;obtain⟨t,rfl⟩:=ry;obtain⟨its,r,pl,hz⟩:=I.tuple hq;obtain⟨j,h1,h2,h3,h4,h5⟩:=Gg he;obtain⟨w,ew,rw'⟩:=r.get h2;have hl:=r.length;have hn:=Xm;have fin:EP X pins σ Q w s:=⟨z,H,I,rw',q⟩;exact subscriptTail_builtinR (x:=w) pl.typeIs slot_tuple_getitem.lookup
  (getItem_tuple (j:=j) (Q:=λr s'=>r=w/\EP X pins σ Q r s') pl (by omega) (by omega) (by rw [P6,<-hl];exact h1) (by simpa using ew) ⟨rfl,fin⟩) hs
theorem El:IxR X Kx:=by
 intro value slice pins s σ H x y v u Q I rx ry h hs;obtain⟨z,i,c,rfl,rfl,hz,he,q⟩:=h;obtain⟨t,rfl⟩:=rx;obtain⟨t',rfl⟩:=ry;obtain⟨j,h1,h2,h3,h4,h5⟩:=Gg he;have hl:z.cps.toList.length=z.length:=by simp [Str.length]
 rw [hl] at h1 h4 h5;have hn:=Xm;exact tail_any (typeIs_str s z t) slot_str_getitem.lookup (getItem_str (c:=c) (by
  have e1:decide (i< -(2^63:Int))=false:=D4 (by omega);have e2:decide (i>=2^63)=false:=D4 (by omega);rw [e1,e2,Bool.or_false]) (by rw [h1];simpa using h2) ⟨.str ⟨#[c]⟩,H,I.tok _,⟨_,rfl⟩,q⟩) hs
def rIx (K:PySem.W.Frag):R2:=λx y H Q=>Kv K x y H Q\/Kw K x y H Q\/Kx x y H Q
theorem Em:IxR X (rIx X.K):=ix_list.or (ix_tup.or El)
theorem Dh (its:List Value)(n j:Nat)(u:Value):Obj.mapSeq (·.setIfInBounds j u) {cls:= .type "list",data:= .seq its.toArray n}= {cls:= .type "list",data:= .seq (its.set j u).toArray n}:=by
 simp [Obj.mapSeq]
theorem Inv.lst {pins:List (Addr×Obj)}{σ:St}{H:Hp}{s:Shared}{p:Addr}{xs:List V}(I:Inv X pins σ H s)(h:H p=some (.lst xs)):
 ∃ (its:List Value) (n:Nat),Vals xs its/\s.heap.get? p=some {cls:= .type "list",data:= .seq its.toArray n}/\xs.length<=sizeLine:=by
 obtain⟨z,its,n,r,e⟩:=I.hok p _ h;exact⟨its,n,r,e,z⟩
theorem Inv.lstUpd {pins:List (Addr×Obj)}{σ:St}{H:Hp}{s:Shared}{p:Addr}{xs ys:List V}{its its':List Value}{n n':Nat}{f:Obj->Obj}(I:Inv X pins σ H s)(h:H p=some (.lst xs))
 (ho:s.heap.get? p=some {cls:= .type "list",data:= .seq its.toArray n})(hf:f {cls:= .type "list",data:= .seq its.toArray n}= {cls:= .type "list",data:= .seq its'.toArray n'})(r:Vals ys its')(hz:ys.length<=sizeLine)(t:Nat):
 Inv X pins σ (upd H p (.lst ys)) {s with heap:=s.heap.update p f,toks:=t}:=by
 have e:(s.heap.update p f).get? p=some {cls:= .type "list",data:= .seq its'.toArray n'}:=by
  rw [S9 f ho (by rw [hf]<;>rfl),hf]
 refine I.write (x:=p) (e:=p) (by rw [h];trivial) (.inl rfl) (λb u hb q=>(Heap.get?_update_other _ _ (Ne.symm hb)).trans q) ⟨_,e⟩ ?_;exact⟨hz,its',n',r,e⟩
def Ha:V->V->V->Hp->(Hp->Prop)->Prop:=λo i v H Q=> ∃p xs k j,o= .ref p/\i= .int k/\H p=some (.lst xs)/\ixN xs.length k=some j/\Q (upd H p (.lst (xs.set j v)))
theorem BH:Kk X Ha:=by
 intro pins s σ H o i v ov iv u Q I ro ri rv h;obtain⟨p,xs,k,j,rfl,rfl,hp,hj,q⟩:=h;cases ro;obtain⟨t,rfl⟩:=ri;obtain⟨its,n,r,ho,hz⟩:=I.lst hp;obtain⟨h1,h2,h3,h4⟩:=RD hj;have hl:=r.length;have hn:=Xm;have I':Inv X pins σ (upd H p (.lst (xs.set j v))) {s with heap:=s.heap.update p (Obj.mapSeq (·.setIfInBounds j u))}:=
  I.lstUpd hp ho (Dh its n j u) (r.set rv j) (by rw [List.length_set];exact hz) s.toks
 by_cases h0:0<=k
 ·have hk:k.toNat=j:=by
   rw [seqIndex_of h0 h4] at h1;exact M7 h1
  exact PySem.W.ki_setAt ho h0 (by omega) (by rw [P6,<-hl];exact h4) (by rw [hk];exact⟨_,I',q⟩)
 ·have hk:(k+(its.toArray.size:Int)).toNat=j:=by
   rw [seqIndex_neg (by omega) h3] at h1;rw [P6,<-hl];exact M7 h1
  exact PySem.W.ki_setBack ho (by omega) (by rw [P6,<-hl];exact h3) (by omega) (by rw [hk];exact⟨_,I',q⟩)
theorem Xr (lo hi:Option Int)(n:Nat):(sliceBounds lo hi none n).1=((HT.sIx n 0 lo:Nat):Int)/\(sliceBounds lo hi none n).2.1=((HT.sIx n n hi:Nat):Int)/\(sliceBounds lo hi none n).2.2=1:=by
 refine⟨?_,?_,rfl⟩
 ·cases lo with
  |none=>simp [sliceBounds,HT.sIx]
  |some i=>
   simp only [sliceBounds,HT.sIx,Option.getD_none,show (1:Int)>0 by decide,if_true]
   by_cases h:i<0
   ·simp only [h,if_true]<;>omega
   ·simp only [h,G1l]<;>omega
 ·cases hi with
  |none=>simp [sliceBounds,HT.sIx]
  |some i=>
   simp only [sliceBounds,HT.sIx,Option.getD_none,show (1:Int)>0 by decide,if_true]
   by_cases h:i<0
   ·simp only [h,if_true]<;>omega
   ·simp only [h,G1l]<;>omega
theorem VM (its:List Value)(lo hi:Option Int):slicePick its.toArray lo hi none=((its.drop (HT.sIx its.length 0 lo)).take (HT.sIx its.length its.length hi-HT.sIx its.length 0 lo)).toArray:=by
 obtain⟨h1,h2,h3⟩:=Xr lo hi its.toArray.size;unfold slicePick;rw [h1,h2,h3];simp only [sliceRange_one,pick_run,P6]<;>rfl
def KW (K:PySem.W.Frag):V->Option Int->Option Int->Hp->VK->Prop:=λx lo hi H Q=> ∃a xs,x= .ref a/\SqL K H a xs/\ ∀p,H p=none->Q (.ref p) (upd H p (.lst (Bh xs lo hi)))
theorem Lm:SlR X (KW X.K):=by
 intro pins s σ H x v vl vu lo hi sl Q I rx hs pl pu h;obtain⟨a,xs,rfl,hx,q⟩:=h;cases rx;obtain⟨its,r,ht,hz⟩:=I.list hx;have hlen:=r.length;refine⟨"list",_,slot_list_getitem.lookup,ht.isList.typeIs,?_⟩;refine wpAny_getItem_list_slice ht.isList hs pl pu .none (by simp) ?_ (by rw [P6]<;>omega);rw [VM,<-hlen];refine⟨.ref s.heap.objs.size,_,I.laid (t':=s.toks) (o:= .lst (Bh xs lo hi)) (λb ob q=>G1 _ q) (G9 _) ?_,rfl,q _ (I.hok.fresh (G9 _))⟩;exact⟨D6 (WM xs lo hi) hz,_,0,(r.drop (HT.sIx xs.length 0 lo)).take (HT.sIx xs.length xs.length hi-HT.sIx xs.length 0 lo),P8 _ rfl⟩
theorem call_len_seq:CallR X (.builtin "len") (λxs H Q=> ∃p ys,xs= [.ref p]/\(SqL X.K H p ys\/SqT X.K H p ys)/\Q (.int ys.length) H):=by
 intro pins s σ H xs us Q I r h;obtain⟨p,ys,rfl,hq,q⟩:=h;obtain⟨u,rfl,rx⟩:=Wv r;cases rx;have hn:=Xm;rcases hq with hq|hq
 ·obtain⟨its,r',pl,hz⟩:=I.list hq;have hlen:=r'.length;exact Calls.call_len_list pl.isList (by simp only [P6]<;>omega) ⟨.int ys.length,H,I.tok _,⟨s.toks+1,by rw [P6,hlen]⟩,q⟩
 ·obtain⟨its,r',pl,hz⟩:=I.tuple hq;have hlen:=r'.length;exact len_tuple pl (by simp only [P6]<;>omega) ⟨.int ys.length,H,I.tok _,⟨s.toks+1,by rw [P6,hlen]⟩,q⟩
theorem call_tuple_of:CallR X (.type "tuple") (λxs H Q=> ∃p ys,xs= [.ref p]/\((SqL X.K H p ys/\ ∀l,H l=none->Q (.ref l) (upd H l (.tup ys)))\/(SqT X.K H p ys/\Q (.ref p) H))):=by
 intro pins s σ H xs us Q I r h;obtain⟨p,ys,rfl,h⟩:=h;obtain⟨u,rfl,rx⟩:=Wv r;cases rx;rcases h with ⟨hq,q⟩|⟨hq,q⟩
 ·obtain⟨its,r',pl,hz⟩:=I.list hq;have hlen:=r'.length;refine call_tuple_list pl.isList (λh' kp=> ?_) (by simp only [P6]<;>omega);have I1:Inv X pins σ H {s with heap:=h'}:=I.kept (t':=s.toks) kp;have I2:Inv X pins σ (upd H h'.objs.size (.tup ys)) {s with heap:=h'.push {cls:= .type "tuple",data:= .seq its.toArray}}:=
   I1.laid (t':=s.toks) (λb o e=>G1 _ e) (G9 _) (show ObjOk X.prog X.w _ _ _ (.tup ys) from ⟨hz,its,r',IsTupN.new _ _⟩)
  exact⟨.ref h'.objs.size,_,I2,rfl,q _ (I1.hok.fresh (G9 _))⟩
 ·obtain⟨its,r',pl,hz⟩:=I.tuple hq;exact call_tuple_same pl ⟨.ref p,H,I,rfl,q⟩
def tyV (K:PySem.W.Frag)(T:String)(x:V)(H:Hp):Prop:=match x with
 | .str _=>T= "str"
 | .int _=>T= "int"
 | .ref p=>(T= "list" /\ ∃xs,SqL K H p xs)\/(T= "tuple" /\ ∃o,K.lookup p=some o/\o.cls= .type "tuple" /\o.dict=none)\/
  (T= "dict" /\((∃kvs,H p=some (.dK kvs))\/ ∃kvs,H p=some (.dT kvs)))\/(T= "set" /\ ∃S n,H p=some (.set S n))
 |_=>False
theorem En {pins:List (Addr×Obj)}{σ:St}{H:Hp}{s:Shared}{T:String}{x:V}{v:Value}(I:Inv X pins σ H s)(r:RelV x v)(ty:tyV X.K T x H):
 s.TypeIs v T/\ ∀a,v= .ref a-> ∃ob,s.heap.get? a=some ob/\ob.dict=none:=by
 cases x with
 |str z=>
  obtain⟨t,rfl⟩:=r;cases (show T= "str" from ty);exact⟨typeIs_str s z t,λ_ e=>nomatch e⟩
 |int i=>
  obtain⟨t,rfl⟩:=r;cases (show T= "int" from ty);exact⟨G00 s i t,λ_ e=>nomatch e⟩
 |ref p=>
  cases r;rcases ty with ⟨rfl,xs,hq⟩|⟨rfl,o,hk,hc,hd⟩|⟨rfl,hk⟩|⟨rfl,S,n,hk⟩
  ·obtain⟨its,_,pl,_⟩:=I.list hq;refine⟨pl.isList.typeIs,λa e=> ?_⟩;cases e;obtain⟨o,n,e,c,hd,_⟩:=pl;exact⟨o,e,hd⟩
  ·refine⟨⟨o,I.kIn p o hk,hc⟩,λa e=> ?_⟩;cases e;exact⟨o,I.kIn _ o hk,hd⟩
  ·have z: ∃o,s.heap.get? p=some o/\o.ExactDict:=by
    rcases hk with ⟨kvs,hk⟩|⟨kvs,hk⟩
    ·obtain⟨_,_,_,_,o,_,_,e,ex,_⟩:=I.hok p _ hk;exact⟨o,e,ex⟩
    ·obtain⟨_,_,_,_,o,_,_,e,ex,_⟩:=I.hok p _ hk;exact⟨o,e,ex⟩
   obtain⟨o,e,ex⟩:=z;refine⟨⟨o,e,ex.1⟩,λa e2=> ?_⟩;cases e2;exact⟨o,e,ex.2.1⟩
  ·obtain⟨o,_,_,_,e,ex,_⟩:=I.hok p _ hk;refine⟨⟨o,e,ex.1⟩,λa e2=> ?_⟩;cases e2;exact⟨o,e,ex.2.1⟩
 |_=>exact False.elim ty
def tBM (K:PySem.W.Frag)(T:String)(r:V->List V->Hp->VK->Prop)(to:TE)(t:TA):TE:=λσ H Q=>to σ H λx H1=>tyV K T x H1/\t σ H1 λxs H2=>r x xs H2 Q
variable {o e:Expr}{es:List Expr}{to:TE}{t:TA}{name:Str}{apos cpos:Pos}{T id:String}{r:V->List V->Hp->VK->Prop}
theorem Eo (pa:PlainAttrs T)(slot:Slot T name id)(hty:typeOf (.builtin id)=pure (.type "method_descriptor"))(hm:MtR X id r)(ho:PE X o to)(ha:PA X (e::es) t)
 (hbase:attributeBase o name X.env (eval o X.env)=eval o X.env:=by rfl)
 (hfew:((backTo cpos (starEach (e::es) X.env)).all (λx=> !x.1)&&(backToKw cpos (keywordEach [] X.env)).all (λx=>x.1.isSome)
  &&decide ((e::es).length+([]:List Keyword).length+(if ([]:List Keyword).isEmpty then 0 else 1)<30))=true:=by rfl)
 (hline:(apos.endLine==cpos.line)=true:=by rfl)(hs:starEach (e::es) X.env=(false,eval e X.env)::starEach es X.env:=by rfl)(hplain:(backTo cpos (starEach es X.env)).any (·.1)=false:=by rfl):
 PE X (.Call (.Attribute o name apos) (e::es) [] cpos) (tBM X.K T r to t):=by
 intro pins s σ H Q I h;refine wpAny_Call_method_late hbase hfew hline rfl (thn (ho pins s σ H _ I h) λv s1 ⟨x,H1,I1,r1,ty,q1⟩=> ?_);obtain⟨h1,h2⟩:=En I1 r1 ty;refine⟨T,id,pa,slot,hty,h1,h2,?_⟩;have hA:=ha cpos pins s1 σ H1 _ I1 q1;rw [hs] at hA ⊢;refine Calls.callWith_builtin (by show (false||(backTo cpos (starEach es X.env)).any (·.1))=false;rw [hplain]<;>rfl) (Calls.evalArgs_plain ?_);exact thn hA λus s2 ⟨vs,H2,I2,r2,q2⟩=>hm pins s2 σ H2 x vs v us Q I2 r1 r2 q2
end
def MtM (X:Cx)(id:String)(r:V->List V->Hp->VK->Prop):Prop:=
 ∀ (pins:List (Addr×Obj)) (s:Shared) (σ:St) (H:Hp) (x:V) (xs:List V) (v:Value) (us:List Value) (Q:VK),Inv X pins σ H s->RelV x v->Vals xs us->r x xs H Q->
  wpAny (model X.prog X.w) X.A (call (.builtin id) (v::us)) (EP X pins σ Q) X.xe s
theorem Vals.one: ∀ {x:V} {us:List Value},Vals [x] us-> ∃u,us= [u]/\RelV x u
 |_,_,.cons r .nil=>⟨_,rfl,r⟩
theorem Vals.rep {xs:List V}{us:List Value}(h:Vals xs us): ∀k:Nat,Vals (List.replicate k xs).flatten (List.replicate k us).flatten
 |0=> .nil
 |k+1=>by
  rw [L8,L8,J5,J5];exact Vals.append h (Vals.rep h k)
theorem WN (its:List Value): ∀ (k:Nat) (acc:List Value),
 List.foldl (λx1 x2=>x1++x2) acc.toArray (List.replicate k its.toArray)=(acc++(List.replicate k its).flatten).toArray
 |0,acc=>by simp
 |k+1,acc=>by
  have e:acc.toArray++its.toArray=(acc++its).toArray:=by simp
  have e2:(acc++its)++(List.replicate k its).flatten=acc++(List.replicate (k+1) its).flatten:=by
   rw [L8,J5,G8]
  rw [<-e2,<-WN its k (acc++its),<-e,L8,List.foldl_cons]
section
variable {X:Cx}{pins:List (Addr×Obj)}{σ:St}{H:Hp}{s:Shared}{l b:Addr}{xs ys zs:List V}
theorem Inv.lset {its its':List Value}{n:Nat}{f:Array Value->Array Value}{t':Nat}(I:Inv X pins σ H s)(hH:H l=some (.lst xs))
 (e:s.heap.get? l=some {cls:= .type "list",data:= .seq its.toArray n})(hf:f its.toArray=its'.toArray)(hv:Vals ys its')(hz:ys.length<=sizeLine):
 Inv X pins σ (upd H l (.lst ys)) {s with heap:=s.heap.update l (Obj.mapSeq f),toks:=t'}:=by
 have q:=PySem.IsL.update e f;rw [hf] at q;refine I.write (x:=l) (e:=l) (by rw [hH];exact trivial) (.inl rfl) (λb' u hb hu=>(Heap.get?_update_other s.heap (Obj.mapSeq f) (Ne.symm hb)).trans hu) ⟨_,q⟩ ?_;exact⟨hz,its',_,hv,q⟩
theorem Inv.lnew {its:List Value}{t':Nat}(I:Inv X pins σ H s)(hv:Vals ys its)(hz:ys.length<=sizeLine):
 Inv X pins σ (upd H s.heap.objs.size (.lst ys)) {s with heap:=s.heap.push {cls:= .type "list",data:= .seq its.toArray},toks:=t'}:=
 I.laid (λ_ _ q=>G1 _ q) (G9 _) ⟨hz,its,0,hv,P8 _ rfl⟩
theorem Inv.fresh (I:Inv X pins σ H s):H s.heap.objs.size=none:=I.hok.fresh (G9 _)
theorem Inv.lstM (I:Inv X pins σ H s)(hH:H l=some (.lst xs)):xs.length<=sizeLine/\ ∃ (its:List Value) (n:Nat),Vals xs its/\xs.length=its.length/\s.heap.get? l=some {cls:= .type "list",data:= .seq its.toArray n}:=by
 obtain⟨z,its,n,r,e⟩:=I.hok l _ hH;exact⟨z,its,n,r,r.length,e⟩
theorem BI {n:Nat}(h:n<=sizeLine):Builtin.List.listTooLong n=false:=by
 unfold Builtin.List.listTooLong;exact D4 (by omega)
end
section
variable {X:Cx}
def Lo:V->List V->Hp->VK->Prop:=λx vs H Q=> ∃l xs y,x= .ref l/\vs= [y]/\H l=some (.lst xs)/\xs.length<sizeLine/\Q .non (upd H l (.lst (xs++ [y])))
theorem RE:MtM X "list.append" Lo:=by
 intro pins s σ H x vs v us Q I rx rv h;obtain⟨l,xs,y,rfl,rfl,hH,hz,q⟩:=h;cases rx;obtain⟨u,rfl,ru⟩:=rv.one;obtain⟨z,its,n,r,hl,e⟩:=I.lstM hH;refine G01 F.slot_list_append ⟨_,e,rfl⟩ F.entry_list_append (F.args_list_append_2 _ _) (PySem.list_append l its.toArray n u (by rw [P6];omega)) ⟨e,?_⟩;refine⟨.non,_,I.lset (its':=its++ [u]) hH e (by simp) (r.append (.cons ru .nil)) ?_,rfl,q⟩;rw [G7,F8];omega
def KY:R2:=λx y H Q=> ∃l b xs zs,x= .ref l/\y= .ref b/\H l=some (.lst xs)/\H b=some (.lst zs)/\xs.length+zs.length<=sizeLine/\ ∀p,H p=none->Q (.ref p) (upd H p (.lst (xs++zs)))
theorem Ep:OpR X (binaryOp .Add) KY:=by
 intro pins s σ H x y v u Q I rx ry h;obtain⟨l,b,xs,zs,rfl,rfl,hH,hB,hz,q⟩:=h;cases rx;cases ry;obtain⟨z,its,n,r,hl,e⟩:=I.lstM hH;obtain⟨z2,its2,n2,r2,hl2,e2⟩:=I.lstM hB;refine PySem.P.add_list e e2 ?_ (by rw [P6,P6];omega);have ea:its.toArray++its2.toArray=(its++its2).toArray:=by simp
 rw [ea];exact⟨.ref _,_,I.lnew (t':=s.toks) (r.append r2) (by rw [G7];omega),rfl,q _ I.fresh⟩
def KZ:R2:=λx y H Q=> ∃l k xs,x= .ref l/\y= .int k/\H l=some (.lst xs)/\ -(2^63)<=k/\k<2^63/\xs.length*k.toNat<=sizeLine/\
 ∀p,H p=none->Q (.ref p) (upd H p (.lst (List.replicate k.toNat xs).flatten))
theorem Gi {α:Type}(xs:List α)(k:Nat):(List.replicate k xs).flatten.length=k*xs.length:=by
 induction k with
 |zero=>simp
 |succ k ih=>rw [L8,J5,G7,ih,U9,G1n]
theorem Eq:OpR X (binaryOp .Mult) KZ:=by
 intro pins s σ H x y v u Q I rx ry h;obtain⟨l,k,xs,rfl,rfl,hH,h1,h2,hz,q⟩:=h;cases rx;obtain⟨t,rfl⟩:=ry;obtain⟨z,its,n,r,hl,e⟩:=I.lstM hH;have hlen:its.toArray.size*k.toNat<=sizeLine:=by rw [P6,<-hl];exact hz
 have hcap: ¬its.toArray.size*k.toNat>(2^63-1) / 8:=by
  have:(sizeLine:Nat)<=(2^63-1) / 8:=by decide
  omega
 have hfit: ¬ (!Builtin.List.listFitsIndex k)=true:=by
  rw [fitsIndex_both h1 h2];exact P4
 have hlong: ¬Builtin.List.listTooLong (its.toArray.size*k.toNat)=true:=by
  rw [BI hlen];exact P4
 have hnew:List.foldl (λx1 x2=>x1++x2) #[] (List.replicate (if its.toArray.isEmpty=true then 0 else k.toNat) its.toArray)=(List.replicate k.toNat its).flatten.toArray:=by
  have f0: ∀m:Nat,List.foldl (λx1 x2=>x1++x2) #[] (List.replicate m its.toArray)=(List.replicate m its).flatten.toArray:=λm=>by
   have:=WN its m [];rw [B2] at this;exact this
  rw [f0];cases its with
  |nil=>simp
  |cons a r'=>rw [if_neg (by simp)]
 refine G0m (T:= "list") (U:= "int") (by decide) ⟨_,e,rfl⟩ (λs'=>G00 s' k t) noFill_list_mul F.fills_int_mul Y8 repeat_list F.slot_int_index.lookup
  (G01 Y8 (G00 s k t) F.entry_int_rmul (F.args_int_rmul_2 _ _) (int___rmul___int_list k t l its.toArray n)
   ⟨e,rfl,⟨_,e,rfl⟩,G01 F.slot_list_mul ⟨_,e,rfl⟩ F.entry_list_mul (F.args_list_mul_2 _ _) (AutoListH.list___mul___list_int_3 l its.toArray n k t hfit hcap hlong) ⟨e,?_⟩⟩)
 rw [hnew];exact⟨.ref _,_,I.lnew (t':=s.toks) (r.rep k.toNat) (by rw [Gi,G1o];exact hz),rfl,q _ I.fresh⟩
end
end L2
namespace Att
open PySem PySem.W PySem.Calls PyProof.Rows
theorem WO {P:Params}{h:Heap}: ∀ (ns:List Int) (vs:List Value),WellAll P h vs (ns.map WData.int)->IntsAre vs ns:=by
 intro ns
 induction ns with
 |nil=>
  intro vs w;rw [V0] at w;cases w;exact .nil
 |cons n ns ih=>
  intro vs w;rw [T5] at w;cases w with
  |cons a b=>
   cases a;exact .cons _ _ (ih _ b)
theorem RF {l:OpenLaw}{n:Nat}(hn:l.most=some n){P:Params}{h:Heap}{args:List WData}{vals:List Value}
 (hpre:l.row.toRowW.claim.pre args=true)(hwl:WellAll P h vals args):
 ∃a vs ns,vals= [Value.ref a]/\args= [WData.list (ns.map WData.int)]/\h.get? a=some {cls:= .type "list",data:= .seq vs.toArray}/\IntsAre vs ns/\ns.length<=n:=by
 have hsh:WShape.hasAll [] args [.list .int]=true:=(pre_splitW hpre).1;have hc:l.pre.holds [] {args:=args}=true:=(pre_splitW hpre).2;obtain⟨d,r,rfl,h1,h2⟩:=hasAllW_cons hsh;obtain rfl:=hasAllW_nil h2;obtain⟨xs,rfl,h3⟩:=hasW_list h1;obtain⟨ns,rfl⟩:=items_int h3;have hlen:ns.length<=n:=by
  unfold OpenLaw.pre at hc;have h4:(WTm.not (.lt (.lit (.int (n:Int))) (.len (.arg 0)))).holds [] {args:= [.list (ns.map .int)]}=true:=by
   have h4:=(holds_andW hc).1;rw [hn] at h4;exact h4
  have h5:=condW_of h4 (w_not (w_lt w_lit (w_len_list (w_arg rfl))));rw [G2] at h5;refine G0F λq=> ?_
  have q':(n:Int)<((ns.length:Nat):Int):=by omega
  first
   |(rw [P3 q'] at h5;exact absurd h5 (by decide))
   |(simp at h5;omega)
 cases hwl with
 |cons w1 w2=>
  cases w2;cases w1 with
  |list ho hall=>exact⟨_,_,ns,rfl,rfl,ho,WO ns _ hall,hlen⟩
theorem RG (l:OpenLaw)(args:List WData):l.row.toRowW.claim.post args (.bool true) args=true:=
 postW_of (r:=l.row.toRowW) (X:=(true==true))
  (show WShape.has [] (.bool true) .bool=true by first|rfl|decide|simp [WShape.has,WShape.arms,WShape.armsAll])
  (show (WTm.eq .res (.lit (.bool true))).value [] {args:=args,res:=some (.bool true),after:=args}=some (.bool (true==true)) from w_eq_bool (w_res rfl) w_lit) rfl
theorem attach_call {l:OpenLaw}{n:Nat}{q:Program}{loose:List Str}{XP:(Str->Option Value)->Heap->Prop}{YP:World->Heap->Prop}{d:DefRec}
 (hn:l.most=some n)(hdf:d.params.defaults= [])
 (call: ∀ (w:World) (s₀ s₁:Shared) (mg mb:Str->Option Value) (fa:Addr) (o:Obj) (pm cd doc:Value) (a:Addr) (vs:List Value) (ns:List Int),
  Ground q loose [] XP w s₀ mg mb s₁.heap->YP w s₁.heap->
  s₁.heap.get? fa=some o->o.data= .func (docDef d.name d.params d.body d.scope pm cd doc)->s₁.heap.CodeRec cd d.name->mg d.name=some (.ref fa)->
  s₁.heap.get? a=some {cls:= .type "list",data:= .seq vs.toArray}->IntsAre vs ns->ns.length<=n->s₁.gens= #[]->
  codeAny (model l.prog w) callerA (.call (.ref fa) ⟨[.ref a],[]⟩) (λr s'=>r= .ok (.ret (.bool true))/\OldK s₁.heap s'.heap/\s'.os=s₁.os/\AllBare s'.gens) s₁):
 WalkO q loose XP YP l.row.toRowW d [] (λf vs=>PySem.call f vs):=by
 intro w s₀ s₁ mg mb G Y fa o pm cd doc dV kV ho hd hcd hD hmg hg args vals as hpre hlay hrd hwl hlo;obtain rfl:dV= .none:=Dflts.none hD hdf;obtain rfl:kV= .none:=Dflts.noKw hD;obtain⟨a,vs,ns,rfl,rfl,hobj,hints,hlen⟩:=RF hn hpre hwl;refine enter_call (G0O (call w s₀ s₁ mg mb fa o pm cd doc a vs ns G Y ho (fd_plain hd) hcd hmg hobj hints hlen hg) λr s' hq=> ?_);obtain⟨rfl,h2,h3,h4⟩:=hq;exact⟨.inl ⟨.bool true,.bool true,[],rfl,λ_=>rfl,.bool true,RG l _,λ_=>⟨List.Pairwise.nil,λ_ hm=>(nomatch hm)⟩⟩,h2,h3,h4⟩
end Att
namespace L2
open PySem PySem.Spec PyProof.Rows
theorem Xs: ∀ {vs:List Value} {ns:List Int},IntsAre vs ns->Vals (ns.map V.int) vs
 |_,_,.nil=> .nil
 |_,_,.cons n t h=> .cons ⟨t,rfl⟩ (Xs h)
def Only (H:Hp):Prop:= ∀b,H b=none\/ ∃o xs,H b=some (.frz o (.lst xs))
def vp (s:Stmt):Arguments:=match s with
 | .FunctionDef _ a _ _ _ _ _ _ _ _=>a
 |_=> {posonlyargs:= [],args:= [],vararg:=none,kwonlyargs:= [],kw_defaults:= [],kwarg:=none,defaults:= []}
def wV (s:Stmt):List Stmt:=match s with
 | .FunctionDef _ _ b _ _ _ _ _ _ _=>b
 |_=> []
def jf (s:Stmt):Scope:=match s with
 | .FunctionDef _ _ _ _ _ _ sc _ _ _=>sc
 |_=> {kind:= .function,names:= [],isGenerator:=false,isCoroutine:=false}
abbrev CX0:CXT:=λ_ _ _ _ _ _=>False
abbrev E0:XK:=λ_ _ _=>False
variable {X:Cx}
theorem Hb:RA CX0 X E0:=λ_ _ _ _ _ _ _ h=>h.elim
structure Fun (K:PySem.W.Frag)(x qual:Str)(st:Stmt)(f:Addr)(fd:FuncData):Prop where
 ex: ∃ (oc:Value) (od:Option Addr) (kV doc pm:Value) (an:Option Addr) (cdv ct:Value) (osl:Array (Option Value)),
  fd=PySem.W.fnOf x qual (vp st) (wV st) (jf st) .none kV doc pm an cdv ct/\K.lookup f=some ⟨oc,od,.func fd,osl⟩/\PySem.W.codeIn K cdv qual=true
 kp:PySem.W.keepIn K (.ref f)=true
section
variable {P:Program}{w:World}{K:PySem.W.Frag}{mg:Str->Option Value}{base:Heap}
variable {qual:Str}
theorem Fun.ok {x:Str}{st:Stmt}{f:Addr}{fd:FuncData}{N ps:List Str}{k:Nat}{sp:Sp}(F:Fun K x qual st f fd)(S:FnScope N ps (jf st))(len: ∀vs H Q E,sp vs H Q E->vs.length=ps.length)
 (hbody: ∀ (cdv:Value) (A:Around) (outer:List Env) (s:Shared) (H:Hp) (vs:List V) (Q:VK) (E:XK),Room k (A.deeper (envOfC qual (jf st) s.heap.objs.size f cdv))->sp vs H Q E->
  ∃t,PSs (Fu CX0 P w K mg base N qual (jf st) f cdv A outer s H E).nox (wV st) t/\t {nx:=λ_ H'=>Q .non H',rt:=Q} (start N vs) H):FnOk P w K mg base CX0 (k+1) f fd ps sp:=by
 obtain⟨oc,od,kV,doc,pm,an,cdv,ct,osl,rfl,lk,hcd⟩:=F.ex;refine TW lk hcd S len λA outer s H vs Q E hr hsp=> ?_
 obtain⟨t,h,q⟩:=hbody cdv A outer s H vs Q E hr hsp;exact⟨t,h.nox,q⟩
theorem Fun.binds {x:Str}{st:Stmt}{f:Addr}{fd:FuncData}{ps:List Str}(F:Fun K x qual st f fd)
 (h: ∀ (kV doc pm:Value) (an:Option Addr) (cdv ct:Value) (us:List Value),us.length=ps.length->bindArgs (PySem.W.fnOf x qual (vp st) (wV st) (jf st) .none kV doc pm an cdv ct) ⟨us,[]⟩=pure (ps.zip us)):Binds K fd ps []:=by
 obtain⟨oc,od,kV,doc,pm,an,cdv,ct,osl,rfl,lk,hcd⟩:=F.ex;exact .all (h kV doc pm an cdv ct)
theorem Er {x:Str}{st:Stmt}{f:Addr}{oc:Value}{od an:Option Addr}{osl:Array (Option Value)}{kV doc pm cdv ct:Value}(l:K.lookup f=some ⟨oc,od,.func (PySem.W.fnOf x qual (vp st) (wV st) (jf st) .none kV doc pm an cdv ct),osl⟩)
 (c:PySem.W.codeIn K cdv qual=true)(k:PySem.W.keepIn K (.ref f)=true):Fun K x qual st f (PySem.W.fnOf x qual (vp st) (wV st) (jf st) .none kV doc pm an cdv ct):=⟨⟨oc,od,kV,doc,pm,an,cdv,ct,osl,rfl,l,c⟩,k⟩
end
theorem jM {n:Nat}(h:n<=1000):n<sizeLine:=N5 h (by decide)
section
variable {X:Cx}
theorem pv (i:Nat){x:Str}{pos:Pos}(hN:X.N[i]? =some x:=by rfl)(hv:Vis X.env.scope x:=by first|exact Or.inl rfl|exact Or.inr (Or.inl rfl)|exact Or.inr (Or.inr rfl))(hd:(x==("__debug__" :Str))=false:=by decide)
 (hcd:(x==("__classdict__" :Str))=false:=by decide):PE X (.Name x pos) (Tz i):=Fo hN hv hd hcd
end
theorem vq {A B:Prop}(h:B):if false=true then A else B:=by
 rw [if_neg P4];exact h
theorem Xi {A B:Prop}(h:A):if true=true then A else B:=by
 rw [if_pos rfl];exact h
theorem Ga {c A B:Prop}[Decidable c](h1:c->A)(h2: ¬c->B):if c then A else B:=by
 by_cases h:c
 ·rw [if_pos h];exact h1 h
 ·rw [if_neg h];exact h2 h
structure M2 (X:Cx)(o:Expr)(m:Str)(apos:Pos)(e f:Expr)(cpos:Pos):Prop where
 base:attributeBase o m X.env (eval o X.env)=eval o X.env
 few:((backTo cpos (starEach [e,f] X.env)).all (λx=> !x.1)&&(backToKw cpos (keywordEach [] X.env)).all (λx=>x.1.isSome)
  &&decide (([e,f]:List Expr).length+([]:List Keyword).length+(if ([]:List Keyword).isEmpty then 0 else 1)<30))=true
 line:(apos.endLine==cpos.line)=true
 trees:backTo cpos (starEach [e,f] X.env)= [(false,eval e X.env),(false,eval f X.env)]
def yp (names:List (Str×NameKind))(env:Env)(cs:List (Str×Addr)):List (Str×Addr):=
 names.foldl (λcs p=>if p.2= .free then (match env.cells.lookup p.1 with|some c=>(p.1,c)::cs|none=>cs) else cs) cs
theorem wo (p:Str×NameKind)(l:List (Str×NameKind))(env:Env)(cs:List (Str×Addr)):
 yp (p::l) env cs=yp l env (if p.2= .free then (match env.cells.lookup p.1 with|some c=>(p.1,c)::cs|none=>cs) else cs):=rfl
variable {env:Env}
theorem WP {f:Str×NameKind->List (Str×Addr)->Sem (ForInStep (List (Str×Addr)))}
 (h1: ∀p cs,p.2≠ .free->f p cs=pure (.yield cs))(h2: ∀p cs c,p.2= .free->env.cells.lookup p.1=some c->f p cs=pure (.yield ((p.1,c)::cs))):
 ∀ (l:List (Str×NameKind)) (cs:List (Str×Addr)),(∀p∈l,p.2= .free-> ∃c,env.cells.lookup p.1=some c)->forIn l cs f=pure (yp l env cs)
 | [],cs,_=>rfl
 |p::l,cs,h=>by
  have ih:=WP h1 h2 l
  by_cases hp:p.2= .free
  ·obtain⟨c,hc⟩:=h p P9 hp;rw [Y9,h2 p cs c hp hc,pure_bind];show forIn l ((p.1,c)::cs) f=_;rw [ih _ λq hq=>h q (D2 _ hq),wo,if_pos hp,hc]
  ·rw [Y9,h1 p cs hp,pure_bind];show forIn l cs f=_;rw [ih _ λq hq=>h q (D2 _ hq),wo,if_neg hp]
variable {scope:Scope}
theorem VN (h: ∀p∈scope.names,p.2= .free-> ∃c,env.cells.lookup p.1=some c):closureFor scope env=pure (yp scope.names env []):=by
 simp only [closureFor];rw [WP (env:=env) (λp cs hp=> ?_) (λp cs c hp hc=> ?_) _ _ h]
 ·rfl
 ·obtain⟨n,k⟩:=p;have hb:(k==NameKind.free)=false:=by simpa using hp
  simp only [hb,Bool.false_eq_true,G1l]
 ·obtain⟨n,k⟩:=p;have hb:(k==NameKind.free)=true:=by simpa using hp
  have hc':env.cells.lookup n=some c:=hc;simp only [hb,if_true,cellOf,hc',pure_bind]
theorem WQ: ∀ (l:List (Str×NameKind)) (cs:List (Str×Addr)),(∀p∈cs,env.cells.lookup p.1=some p.2)-> ∀p∈yp l env cs,env.cells.lookup p.1=some p.2
 | [],cs,h,p,hp=>h p hp
 |q::l,cs,h,p,hp=>by
  rw [wo] at hp;refine WQ l _ (λr hr=> ?_) p hp
  by_cases hq:q.2= .free
  ·rw [if_pos hq] at hr;cases e:env.cells.lookup q.1 with
   |none=>rw [e] at hr;exact h r hr
   |some c=>
    rw [e] at hr;rcases D3.mp hr with rfl|hr
    ·exact e
    ·exact h r hr
  ·rw [if_neg hq] at hr;exact h r hr
theorem WR: ∀ (l:List (Str×NameKind)) (cs:List (Str×Addr)),∀p∈cs,p∈yp l env cs
 | [],cs,p,hp=>hp
 |q::l,cs,p,hp=>by
  rw [wo];refine WR l _ p ?_
  by_cases hq:q.2= .free
  ·rw [if_pos hq];cases e:env.cells.lookup q.1 with
   |none=>exact hp
   |some c=>exact D2 _ hp
  ·rw [if_neg hq];exact hp
variable {x:Str}
theorem WS {c:Addr}(hc:env.cells.lookup x=some c): ∀ (l:List (Str×NameKind)) (cs:List (Str×Addr)),(x,NameKind.free)∈l->(x,c)∈yp l env cs
 |q::l,cs,h=>by
  rw [wo];rcases D3.mp h with e|h
  ·subst e;rw [if_pos rfl,hc];exact WR l _ _ P9
  ·exact WS hc l _ h
theorem wT {α:Type}: ∀ {l:List (Str×α)} {x:Str} {c:α},l.lookup x=some c->(x,c)∈l
 | [],_,_,h=>by simp at h
 |(n,k)::r,x,c,h=>by
  rw [L5] at h;cases hx:x==n with
  |true=>
   rw [hx] at h;have e:x=n:=eq_of_beq hx;cases h;subst e;exact P9
  |false=>rw [hx] at h;exact D2 _ (wT h)
theorem Vl {α:Type}: ∀ {l:List (Str×α)} {x:Str} {c:α},(x,c)∈l-> ∃c',l.lookup x=some c'
 |(n,k)::r,x,c,h=>by
  rw [L5];cases hx:x==n with
  |true=>exact⟨_,rfl⟩
  |false=>
   rcases D3.mp h with e|h
   ·cases e;simp at hx
   ·exact Vl h
theorem Vm {l:List (Str×NameKind)}{c:Addr}(h:(yp l env []).lookup x=some c):env.cells.lookup x=some c:=
 WQ l [] (λ_ z=>nomatch z) (x,c) (wT h)
theorem RH {l:List (Str×NameKind)}{c:Addr}(hc:env.cells.lookup x=some c)(h:(x,NameKind.free)∈l):(yp l env []).lookup x=some c:=by
 obtain⟨c',e⟩:=Vl (WS hc l [] h);have:=Vm e;rw [hc] at this;cases this;exact e
theorem yL {κ:Type}{f:Str×κ->Str×κ}{g:Str->κ->κ}(hf: ∀n k,f (n,k)=(n,g n k))(x:Str): ∀l:List (Str×κ),(l.map f).lookup x=(l.lookup x).map (g x)
 | []=>rfl
 |(n,k)::r=>by
  rw [T5,hf,L5,L5,yL hf x r];cases same:x==n with
  |false=>rfl
  |true=>rw [eq_of_beq same];rfl
theorem jZ {names:List (Str×NameKind)}{k:NameKind}(found:
 (names.map λ(n,k)=>if (k==NameKind.free&&env.scope.kind== .function&&env.kindOf n==some .cell) then (n,NameKind.cell) else (n,k)).lookup x=some k):
  names.lookup x=some k\/names.lookup x=some .free:=by
 rw [yL (g:=λn k=>if (k==NameKind.free&&env.scope.kind== .function&&env.kindOf n==some .cell) then .cell else k) (λn k=>by dsimp only;split<;>rfl)] at found;obtain⟨k0,was,now⟩:=C1.mp found;split at now
 ·rename_i c;simp only [R8,G02] at c;exact .inr (by rw [was,c.1.1])
 ·exact .inl (by rw [was,now])
theorem wM: ∀ (names:List (Str×NameKind)) (n:Nat) (acc:List (Str×Addr)) (p:Str×Addr),p∈cellsFrom n names acc->p∈acc\/(n<=p.2/\(p.1,NameKind.cell)∈names)
 | [],_,_,_,h=> .inl h
 |(x,k)::r,n,acc,p,h=>by
  unfold cellsFrom at h;split at h
  ·rename_i hk;rcases wM r (n+1) _ p h with z|⟨z1,z2⟩
   ·rcases D3.mp z with e|z
    ·subst e;have:k= .cell:=by simpa using hk
     subst this;exact .inr ⟨G9 _,P9⟩
    ·exact .inl z
   ·exact .inr ⟨by omega,D2 _ z2⟩
  ·rcases wM r n acc p h with z|⟨z1,z2⟩
   ·exact .inl z
   ·exact .inr ⟨z1,D2 _ z2⟩
theorem jV: ∀ (names:List (Str×NameKind)) (n:Nat) (acc:List (Str×Addr)),cellsFrom n names acc=cellsFrom n names []++acc
 | [],_,_=>rfl
 |(x,k)::r,n,acc=>by
  unfold cellsFrom;split
  ·rw [jV r (n+1) ((x,n)::acc),jV r (n+1) [(x,n)],G8];rfl
  ·exact jV r n acc
theorem ZJ {α:Type}(l l':List (Str×α))(x:Str):(l++l').lookup x=(match l.lookup x with|some c=>some c|none=>l'.lookup x):=by
 induction l with
 |nil=>rfl
 |cons p l ih=>
  obtain⟨n,c⟩:=p;rw [E1,L5,L5];cases x==n with
  |true=>rfl
  |false=>exact ih
theorem Ju {names:List (Str×NameKind)}(here:names.lookup x=some .cell):
 (names.map λ(n,k)=>if (k==NameKind.free&&env.scope.kind== .function&&env.kindOf n==some .cell) then (n,NameKind.cell) else (n,k)).lookup x=some .cell:=by
 rw [yL (g:=λn k=>if (k==NameKind.free&&env.scope.kind== .function&&env.kindOf n==some .cell) then .cell else k) (λn k=>by dsimp only;split<;>rfl),here];simp
section
variable {M:Model}{A:Around}{E:Value->Shared->Prop}{s:Shared}
theorem Di (h:Heap)(names:List (Str×NameKind)):(∀n c,(n,c)∈cellsFrom h.objs.size names []->(pushCells h names).IsCell c none/\h.objs.size<=c)/\(cellsFrom h.objs.size names []).Pairwise λx y=>x.2≠y.2:=
 have laid:=cellsFrom_ok names h h.objs.size [] ⟨by simp,.nil⟩ (G9 _)
 ⟨laid.empty,laid.apart⟩
theorem Xt {scope:Scope}{globals:Addr}{closure:List (Str×Addr)}{qual:Str}{func:Option Addr}{code:Value}{outer:Env}{builtins:Addr}{Q:Env->Shared->Prop}
 (hQ: ∀h',h'.Ns s.heap.objs.size (λ_=>none)->(∀b o,s.heap.get? b=some o->h'.get? b=some o)->(∀n c,(n,c)∈cellsFrom (s.heap.objs.size+1) scope.names []->h'.IsCell c none/\s.heap.objs.size+1<=c)->
  ((cellsFrom (s.heap.objs.size+1) scope.names []).Pairwise λx y=>x.2≠y.2)->
  Q (newEnv scope s.heap.objs.size globals (cellsFrom (s.heap.objs.size+1) scope.names closure) qual func code (some outer) builtins) {s with heap:=h'}):
 wpAny M A (newFunctionEnv scope globals closure [] qual func code (some outer) builtins) Q E s:=by
 have names:=Di (s.heap.push {cls:= .type "dict",data:= .dict #[]}) scope.names;have first:(s.heap.push {cls:= .type "dict",data:= .dict #[]}).objs.size=s.heap.objs.size+1:=K8 ..
 rw [first] at names;unfold newFunctionEnv;refine wpAny_bind (wpAny_alloc (wpAny_bind (wpAny_layCells _ (λn k cs=>rfl) _ _ _ _ ?_)));simp only [Option.isSome_some,if_true];rw [first];exact wpAny_bind (P0 (P0 (hQ _ ((Heap.Ns.new _ _).keeps (pushCells_keeps _ _)) (λb o here=>pushCells_keeps _ _ b o (G1 _ here)) names.1 names.2)))
end
def jR (X:Cx)(scope:Scope)(C:Addr):List (Str×Addr):=cellsFrom (C+1) scope.names (yp scope.names X.env [])
def VO (X:Cx)(scope:Scope)(C:Addr)(s₀:Shared)(H₀:Hp)(ex:List Addr):Cx:=
 {X with s₀:=s₀,H₀:=H₀,env:=compEnvC scope (jR X scope C) C X.env,outer:=X.stack,ex:=ex,fn:=λx=>scope.names.lookup x==some .cell,pn:= [],xe:=λ_ _=>False}
def jG (X:Cx)(scope:Scope)(X':Cx):Prop:= ∃C s₀ H₀ ex,X'=VO X scope C s₀ H₀ ex
structure BlockOk (X:Cx)(scope:Scope)(js:List Nat):Prop where
 kind:scope.kind= .function
 locs: ∀p∈scope.names,p.2= .local->scope.names.lookup p.1=some .local
 cels: ∀p∈scope.names,p.2= .cell->scope.names.lookup p.1=some .cell
 free: ∀p∈scope.names,p.2= .free->X.env.scope.names.lookup p.1=some .cell\/X.env.scope.names.lookup p.1=some .free
 js: ∀ (i:Nat) (x:Str),X.N[i]? =some x->(scope.names.lookup x=some .local\/scope.names.lookup x=some .cell)->i∈js
variable {js:List Nat}
theorem yE (S:BlockOk X scope js){C:Addr}{x:Str}{c:Addr}(h:(jR X scope C).lookup x=some c):
 (scope.names.lookup x≠some .cell/\X.env.cells.lookup x=some c)\/(scope.names.lookup x=some .cell/\(x,c)∈cellsFrom (C+1) scope.names []):=by
 unfold jR at h;rw [jV,ZJ] at h;cases e:(cellsFrom (C+1) scope.names []).lookup x with
 |some d=>
  rw [e] at h;cases h;have m:=wT e;rcases wM _ _ _ _ m with z|⟨_,z⟩
  ·exact absurd z (by simp)
  ·exact .inr ⟨S.cels _ z rfl,m⟩
 |none=>
  rw [e] at h;refine .inl ⟨λz=> ?_,Vm h⟩;obtain⟨d,hd⟩:=WC (sc:=scope) (n:=C+1) z;rw [e] at hd;cases hd
theorem Wi (S:BlockOk X scope js){C:Addr}{x:Str}{c:Addr}(hc:X.env.cells.lookup x=some c)(h:(x,NameKind.free)∈scope.names)(hn:scope.names.lookup x≠some .cell):(jR X scope C).lookup x=some c:=by
 unfold jR;rw [jV,ZJ];cases e:(cellsFrom (C+1) scope.names []).lookup x with
 |some d=>
  rcases wM _ _ _ _ (wT e) with z|⟨_,z⟩
  ·exact absurd z (by simp)
  ·exact absurd (S.cels _ z rfl) hn
 |none=>exact RH hc h
def wJ:List Nat->St->St
 | [],σ=>σ
 |j::js,σ=>wJ js (σ.set j none)
theorem Vn: ∀ (js:List Nat) (σ:St),(wJ js σ).length=σ.length
 | [],_=>rfl
 |j::js,σ=>by rw [wJ,Vn js];simp
theorem WT: ∀ (js:List Nat) (σ:St) (i:Nat) (v:V),(wJ js σ)[i]? =some (some v)->σ[i]? =some (some v)
 | [],_,_,_,h=>h
 |j::js,σ,i,v,h=>by
  have h1:=WT js _ i v h
  by_cases e:i=j
  ·subst e;rw [W8] at h1;simp at h1
  ·rwa [F4 (Ne.symm e)] at h1
theorem zR: ∀ (js:List Nat) (σ:St) (i:Nat) (v:V),i∈js-> ¬ (wJ js σ)[i]? =some (some v)
 |j::js,σ,i,v,hm,h=>by
  rcases D3.mp hm with rfl|hm
  ·have h1:=WT js _ i v h;rw [W8] at h1;simp at h1
  ·exact zR js _ i v hm h
theorem HOk.track {P:Program}{w:World}{H:Hp}{h:Heap}{a:Addr}{o:HO}(x:HOk P w H h)(hn:H a=none)(new:ObjOk P w (upd H a o) h a o):HOk P w (upd H a o) h:=λb u e=>by
 by_cases hb:b=a
 ·subst hb;rw [jz] at e;cases e;exact new
 ·rw [jx hb] at e;exact(x b u e).stay (λc v _ q=>q) (λc q=>by rw [jx (jt q hn)];exact q) λc xs q=>by rw [jx (jt q hn)];exact q
def Agree (σ σ':St):Prop:=σ'.length=σ.length/\ ∀ (i:Nat) (v:V),σ[i]? =some (some v)->σ'[i]? =some (some v)
theorem Agree.set {σ:St}{j:Nat}(v:V)(h: ∀u,¬σ[j]? =some (some u)):Agree σ (σ.set j (some v)):=⟨by simp,λi u q=>by
 by_cases e:j=i
 ·subst e;exact absurd q (h u)
 ·rw [F4 e];exact q⟩
theorem Agree.trans {a b c:St}(x:Agree a b)(y:Agree b c):Agree a c:=⟨y.1.trans x.1,λi v h=>y.2 i v (x.2 i v h)⟩
def PTs (X:Cx)(ifs:List Expr)(t:TT):Prop:=
 ∀ (pins:List (Addr×Obj)) (s:Shared) (σ:St) (H:Hp) (Q:Bool->Hp->Prop),Inv X pins σ H s->t σ H Q->
  wpAny (model X.prog X.w) X.A (forIn ifs true λc r=>if r=true then do let ok <-isTrue c X.env (eval c X.env);pure (ForInStep.yield ok) else pure (ForInStep.yield r)) (TP X pins σ Q) X.xe s
def Ky:TT:=λ_ H Q=>Q true H
theorem Lp:PTs X [] Ky:=λ_ _ _ H _ I h=>wpAny_tests_nil ⟨H,I,h⟩
theorem Lq {c:Expr}{t:TT}(hc:PT X c t):PTs X [c] t:=λpins s σ H Q I h=>wpAny_tests_one (hc pins s σ H Q I h)
def Vo (iter target:Expr)(ifs:List Expr)(it:Value)(env:Env)(act:Sem Unit)(nxt:Code):Sem PySem.Fin:=do
 standAt iter.pos
 match <-pyNext it with
 |none=>pure (.done .next)
 |some v=>
  letOwnedTupleGo target it v
  assign target env v
  let mut ok:=true
  for c in ifs do
   if ok then ok <-isTrue c env (eval c env)
  if ok then act
  again nxt
variable {elt iter:Expr}{pos:Pos}{ifs:List Expr}
theorem Po {prog:Program}{w:World}{A:Around}{R:Result->Shared->Prop}{s:Shared}{target:Expr}{gens:List Comprehension}{depth:Nat}{it acc:Value}{act:Sem Unit}(I:Nat->Shared->Prop)
 (heq:compTurn (.ListComp elt gens scope pos) depth it acc env=Vo iter target ifs it env act (.compLoop (.ListComp elt gens scope pos) depth it acc env))
 (turn: ∀n s,I n s->wpAny (model prog w) A (pyNext it) (λr s₁=>match r with
  |none=>R (.ok .next) s₁
  |some v=>wpAny (model prog w) A (letOwnedTupleGo target it v) (λ_ s₁=>wpAny (model prog w) A (assign target env v) (λ_ s₂=>
   wpAny (model prog w) A (forIn ifs true λc r=>if r=true then do let ok <-PySem.isTrue c env (eval c env);pure (ForInStep.yield ok) else pure (ForInStep.yield r)) (λok s₃=>
    if ok=true then wpAny (model prog w) A act (λ_ s₅=> ∃m,m<n/\I m s₅) (λ_ _=>False) s₃
    else ∃m,m<n/\I m s₃) (λ_ _=>False) s₂) (λ_ _=>False) s₁) (λ_ _=>False) s₁) (λ_ _=>False) s)
 (n:Nat)(h:I n s):
 codeAny (model prog w) A (.compLoop (.ListComp elt gens scope pos) depth it acc env) R s:=by
 refine codeAny_loop rfl I (λn s hI=> ?_) n h;show wpAny _ A ((compTurn (.ListComp elt gens scope pos) depth it acc env).onRaise (λx=>do noteFrame x env;theTreesLotGoes x)) _ _ s;refine wpAny_noted ?_;rw [heq];unfold Vo;refine wpAny_bind (V3 (wpAny_bind (S0 (turn n s hI) (λr s₁ h₁=> ?_) λ_ _ h'=>h'.elim)));cases r with
 |none=>exact P0 h₁
 |some v=>
  refine wpAny_bind (S0 h₁ (λ_ s₁ h₁=> ?_) λ_ _ h'=>h'.elim);refine wpAny_bind (S0 h₁ (λ_ s₂ h₂=>wpAny_bind (S0 h₂ (λok s₃ h₃=> ?_) λ_ _ h'=>h'.elim)) λ_ _ h'=>h'.elim);cases ok with
  |false=>exact P0 ⟨rfl,h₃⟩
  |true=>exact wpAny_bind (S0 h₃ (λ_ s₅ h₅=>P0 ⟨rfl,h₅⟩) λ_ _ h'=>h'.elim)
abbrev TM:=St->Hp->List V->(List V->Hp->Prop)->Prop
def Tj (X:Cx)(D:Addr)(act:Sem Unit)(t:TM):Prop:=
 ∀ (pins:List (Addr×Obj)) (s:Shared) (σ:St) (H:Hp) (ys:List V) (us:List Value) (Q:List V->Hp->Prop),Inv X ([(D,LCg.lst us)]++pins) σ H s->Vals ys us->ys.length<=sizeLine->D∈X.ex->(∀x c,X.env.cells.lookup x=some c->c≠D)->(∀p∈X.pn++pins,p.1≠D)->t σ H ys Q->
  wpAny (model X.prog X.w) X.A act (λ_ s'=> ∃ys' us' H',Vals ys' us'/\Inv X ([(D,LCg.lst us')]++pins) σ H' s'/\Q ys' H') (λ_ _=>False) s
def Es (te:TE):TM:=λσ H ys Q=>te σ H λy H1=>Q (ys++ [y]) H1
def Vp (elt:Expr)(env:Env)(acc:Value):Sem Unit:=do let _ <-call (.builtin "list.append") [acc,<-eval elt env]
variable {te:TE}
theorem VP {D:Addr}(hx:X.xe=λ_ _=>False)(he:PE X elt te):Tj X D (Vp elt X.env (.ref D)) (Es te):=by
 intro pins s σ H ys us Q I hv hz DX cD pD h;have q:=he _ s σ H _ I h;rw [hx] at q;unfold Vp;refine wpAny_bind (S0 q (λy s1 ⟨yv,H1,I1,r1,q1⟩=> ?_) λ_ _ z=>z);have zD:=I1.pin (D,LCg.lst us) (D1 _ (N7 _ P9));refine wpAny_bind (append_at (its:=us.toArray) (n:=us.length) zD.1 (λh11 hs11 hD11=>P0 ?_) (by rw [P6,<-hv.length];exact hz));have I10u:Inv X pins σ H1 s1:=I1.pins_of λp hp=>I1.pin p (D1 _ (D1 _ hp))
 have I11:Inv X pins σ H1 {s1 with heap:=h11}:=I10u.turned (t':=s1.toks) (it:=D) (λb o hb e=>hs11.extBut b o hb e) zD.2.1 zD.2.2.1 (.inl DX) cD pD;have eD:h11.get? D=some (LCg.lst (us++ [y])):=by rw [hD11];exact congrArg some (LCg.lst_snoc us y)
 refine⟨ys++ [yv],us++ [y],H1,hv.append (.cons r1 .nil),I11.pins_of λp hp=> ?_,q1⟩;rcases D0.mp hp with z|z
 ·rcases G3.mp z with rfl
  exact⟨eD,zD.2.1,zD.2.2.1,zD.2.2.2.1,λv z=>by cases z⟩
 ·exact I11.pin p (D1 _ z)
def Tk (js : List Nat) (wi : TI) (g : TG) (tt : TT) (tm : TM) : TE := fun σ H Q => wi σ H fun J H1 =>
  ∃ W : Nat → Nat → List V → Hp → Prop, (∃ m, W 0 m [] H1) ∧ ∀ i m ys H, W i m ys H → ys.length ≤ sizeLine ∧
    ((J.stop i H ∧ ∀ p, H p = none → Q (.ref p) (upd H p (.lst ys))) ∨
     (J.go i H ∧ ∀ x H', J.yld i H x H' → g x (wJ js σ) H' fun σ2 H2 => Agree (wJ js σ) σ2 ∧ tt σ2 H2 fun b H3 =>
        if b = true then tm σ2 H3 ys fun ys' H4 => ∃ m', m' < m ∧ W (i + 1) m' ys' H4 else ∃ m', m' < m ∧ W (i + 1) m' ys H3))
def tLC (js:List Nat)(wi:TI)(g:TG)(tt:TT)(te:TE):TE:=Tk js wi g tt (Es te)
variable {tg:Expr}{wi:TI}{g:TG}{tt:TT}
theorem Fv {e:Expr}{rest:List Comprehension}{pos0:Pos}{tm:TM}{use:Option (Value->Sem Unit)}{Qv:Value->Shared->Prop}(hc:X.calm=true)(S:BlockOk X scope js)(hi:PI X tg iter wi)
 (he0:e= .ListComp elt (⟨tg,iter,ifs,0⟩::rest) scope pos)
 (hg: ∀X',jG X scope X'->PG X' tg g)(ht: ∀X',jG X scope X'->PTs X' ifs tt)
 (act:Env->Value->Sem Unit)(hturn: ∀it acc env,compTurn e 0 it acc env=Vo iter tg ifs it env (act env acc) (.compLoop e 0 it acc env))(he: ∀X',jG X scope X'-> ∀D,Tj X' D (act X'.env (.ref D)) tm)
 (hs: ∀x,foldedSetIterable iter X.env x=pure x){pins:List (Addr×Obj)}{s:Shared}{σ:St}{H:Hp}{Q:VK}(I:Inv X pins σ H s)(h:Tk js wi g tt tm σ H Q)
 (fin: ∀ (D C:Addr) (H':Hp) (s':Shared) (m:Str->Option Value),s'.heap.Ns C m->(∀h',Heap.SameBut C s'.heap h'->Inv X pins σ H' {s' with heap:=h'})->H' C=none->C≠X.env.locals->C ∉ X.fs->X.s₀.heap.objs.size<=C->(∀x c,X.env.cells.lookup x=some c->c≠C)->(∀p∈X.pn++pins,p.1≠C)->
  Q (.ref D) H'->compPost (model X.prog X.w) X.A X.xe use Qv (.ref D) C (.ok .next) s'):
 wpAny (model X.prog X.w) X.A (comprehension e scope X.env pos0 (newList []) false (eval iter X.env) use) Qv X.xe s:=by
 have hclos:=VN (scope:=scope) (env:=X.env) (λp hp e=>I.ok.has p.1 (S.free p hp e));subst he0;refine wpAny_comprehension_free (use:=use) rfl hs hclos S.kind S.locs (thn (hi pins s σ H _ I h) λv s1 h1=>thn h1 λitv s2 h2=> ?_);obtain⟨it,fp,tn,J,H2,e,I2,T,st2,f2,W,⟨m0,w0⟩,turn⟩:=h2;subst e;refine J3 (Xt (λh₁ hns₁ hkp₁ hcl₁ hap₁=> ?_));dsimp only at hns₁ hkp₁ hcl₁ hap₁ ⊢;generalize hD:s2.heap.objs.size=D;generalize hH3:s2.heap.push {cls:= .type "list",dict:=none,data:= .seq ([]:List Value).toArray}=h3 at hns₁ hkp₁ hcl₁ hap₁ ⊢;have sz3:h3.objs.size=D+1:=by rw [<-hH3,K8,hD]
 have up3: ∀b o,s2.heap.get? b=some o->h3.get? b=some o:=λb o e=>hH3 ▸ G1 _ e
 have I3:Inv X pins σ H2 {s2 with heap:=h3}:=I2.kept (t':=s2.toks) up3;have hD3:h3.get? D=some (LCg.lst []):=by rw [<-hH3,<-hD];exact P8 _ rfl
 have fD:Re X pins H2 D:=I2.fpOk (by rw [hD];exact G9 _) (I2.hok.fresh (by rw [hD];exact G9 _));have obf: ∀b∈fp,∃o,s2.heap.get? b=some o/\ ∀v,o.data≠ .cell v:=T.obj _ _ st2;have ltf: ∀b∈fp,b<D:=λb hb=>by obtain⟨o,e,_⟩:=obf b hb;rw [<-hD];exact P2 e
 generalize hC:h3.objs.size=C at hns₁ hcl₁ hap₁ ⊢;have CD:C=D+1:=hC.symm.trans sz3;have upC: ∀b o,h3.get? b=some o->h₁.get? b=some o:=hkp₁;generalize hX:VO X scope C {s2 with heap:=h3} H2 (fp++ [D])=X';have iX:jG X scope X':=⟨C,_,_,_,hX.symm⟩;have hf: ∀b∈fp++ [D],Re X pins H2 b:=λb hb=>(D0.mp hb).elim (f2 b) λz=>by rw [G3.mp z];exact fD
 have cl: ∀x c,(jR X scope C).lookup x=some c->X.env.cells.lookup x=some c\/C<c:=λx c e=>by
  rcases yE S e with ⟨_,z⟩|⟨_,z⟩
  ·exact .inl z
  ·exact .inr (W9 (hcl₁ x c z).2)
 have olt: ∀x c,X.env.cells.lookup x=some c->c<C:=λx c e=>by obtain⟨v,q⟩:=I3.cell x c e;rw [<-hC];exact q.lt
 have ltb: ∀b∈fp++ [D],b<C:=λb hb=>(D0.mp hb).elim (λz=>by have:=ltf b z;rw [CD];exact J6 this) λz=>by rw [G3.mp z,CD];exact C7 _
 have okX:X'.Ok:=by
  subst hX;refine⟨I.ok.mod,S.kind,I.ok.glob,I.ok.blt,E4 hC,λx y c e1 e2=> ?_,λx hx=> ?_,λx c z e=> ?_,I.ok.hd,I.ok.frames,.inl rfl,λb hb=>⟨R1 (ltb b hb),λx c e=>(cl x c e).elim (λz=>(hf b hb).2.2.2.2.1 x c z) λz=>E3 (V1 (ltb b hb) z)⟩,
   I3.bs,D6 I.ok.bsz I3.sz,λb o e hb=> ?_,λb hb z=> ?_,I3.stack,I3.stkFree⟩
  ·rcases yE S e1 with ⟨_,z1⟩|⟨_,z1⟩<;>rcases yE S e2 with ⟨_,z2⟩|⟨_,z2⟩
   ·exact I.ok.inj x y c z1 z2
   ·exact absurd (V1 (olt x c z1) (W9 (hcl₁ y c z2).2)) (S7 _)
   ·exact absurd (V1 (olt y c z2) (W9 (hcl₁ x c z1).2)) (S7 _)
   ·exact name_of_addr hap₁ z1 z2
  ·have own:scope.names.lookup x=some .cell-> ∃c,(jR X scope C).lookup x=some c:=λz=>by
    obtain⟨c,hc⟩:=WC (sc:=scope) (n:=C+1) z;exact⟨c,by unfold jR;rw [jV,ZJ,hc]⟩
   have shr:scope.names.lookup x=some .free-> ∃c,(jR X scope C).lookup x=some c:=λz=>by
    have fm:=wT z;obtain⟨c,hc⟩:=I.ok.has x (S.free _ fm rfl);exact⟨c,Wi S hc fm (by rw [z];decide)⟩
   rcases hx with hx|hx
   ·rcases jZ (env:=X.env) hx with z|z
    ·exact own z
    ·exact shr z
   ·rcases jZ (env:=X.env) hx with z|z<;>exact shr z
  ·have z':scope.names.lookup x=some .cell:=by
    have z2:(scope.names.lookup x==some NameKind.cell)=true:=z;simpa using z2
   rcases yE S e with ⟨n,_⟩|⟨_,m⟩
   ·exact absurd z' n
   ·show h3.objs.size<=c;rw [hC];exact D5 (W9 (hcl₁ x c m).2)
  ·rcases (hf b hb).2.2.2.1 with z|z
   ·exact I.ok.noex b o e z
   ·exact absurd (R7 (P2 e) (D6 I.ok.bsz z)) (S7 _)
  ·rcases D3.mp (I.stkSub b z) with q|q
   ·exact(hf b hb).2.1 q
   ·exact(hf b hb).2.2.1 q
 -- the block's first state
 have I4:Inv X' [(D,LCg.lst [])] (wJ js σ) H2 {s2 with heap:=h₁}:=by
  subst hX;have hDC:D≠C:=by rw [CD];exact R1 (C7 _)
  refine⟨okX,rfl,I2.bare,Un.kept (λb u e=>upC b u e),⟨_,hns₁,λi x v e1 e2 e3=> ?_⟩,λx c e=> ?_,I3.hok.fresh (E4 hC),λx c e=>(cl x c e).elim (λz=>I2.freeC x c z) (λz=>I3.hok.fresh (by rw [<-hC] at z;exact D5 z)),λp hp=> ?_,I3.hok.kept upC,(Vn js σ).trans I2.len⟩
  ·have fr:scope.names.lookup x=some .free:=by
    rcases e3 with e3|e3|e3
    ·rcases jZ (env:=X.env) e3 with z|z
     ·exact absurd e2 (zR js σ i v (S.js i x e1 (.inl z)))
     ·exact z
    ·rcases jZ (env:=X.env) e3 with z|z
     ·exact absurd e2 (zR js σ i v (S.js i x e1 (.inr z)))
     ·exact z
    ·rcases jZ (env:=X.env) e3 with z|z<;>exact z
   have fm:=wT fr;obtain⟨m,hm,hl⟩:=I2.loc;have vis:=S.free _ fm rfl;obtain⟨u,r,lk⟩:=hl i x v e1 (WT js σ i v e2) (.inr vis);have kd:(relabel scope X.env).names.lookup x=some .cell\/(relabel scope X.env).names.lookup x=some .free:=by
    rcases e3 with e3|e3|e3
    ·rcases jZ (env:=X.env) e3 with z|z
     ·rw [fr] at z;cases z
     ·exfalso;have z2:=e3
      -- a local's kind stays
      exact absurd e2 (zR js σ i v (S.js i x e1 (.inl (by
       have q: ∀ (l:List (Str×NameKind)),(l.map λ(n,k)=>if (k==NameKind.free&&X.env.scope.kind== .function&&X.env.kindOf n==some .cell) then (n,NameKind.cell) else (n,k)).lookup x=some .local->l.lookup x=some .local:=by
        intro l
        induction l with
        |nil=>intro h;simp at h
        |cons p l ih=>
         obtain⟨n,k'⟩:=p;intro h;have h':List.lookup x ((if (k'==NameKind.free&&X.env.scope.kind== .function&&X.env.kindOf n==some .cell)=true then (n,NameKind.cell) else (n,k'))::(l.map λ(n,k)=>if (k==NameKind.free&&X.env.scope.kind== .function&&X.env.kindOf n==some .cell) then (n,NameKind.cell) else (n,k)))=some .local:=h;rw [L5]
         by_cases hc:(k'==NameKind.free&&X.env.scope.kind== .function&&X.env.kindOf n==some .cell)=true
         ·rw [if_pos hc,L5] at h';cases hx:x==n with
          |true=>rw [hx] at h';cases h'
          |false=>rw [hx] at h';exact ih h'
         ·rw [if_neg hc,L5] at h';cases hx:x==n with
          |true=>rw [hx] at h';exact h'
          |false=>rw [hx] at h';exact ih h'
       exact q _ z2))))
    ·exact .inl e3
    ·exact .inr e3
   rcases lk with ⟨k,_⟩|⟨_,c,hc,hcell⟩
   ·have k':X.env.scope.names.lookup x=some .local:=k;rcases vis with z|z<;>(rw [k'] at z;cases z)
   ·refine⟨u,r,.inr ⟨kd,c,Wi S hc fm (by rw [fr];decide),?_⟩⟩;obtain⟨o,ho,hd⟩:=hcell;exact⟨o,upC _ _ (up3 _ _ ho),hd⟩
  ·rcases yE S e with ⟨_,z⟩|⟨_,z⟩
   ·obtain⟨v,o,ho,hd⟩:=I2.cell x c z;exact⟨v,o,upC _ _ (up3 _ _ ho),hd⟩
   ·exact⟨none,(hcl₁ x c z).1⟩
  ·have hp':p∈ [(D,LCg.lst [])]:=hp;rcases G3.mp hp' with rfl
   refine⟨upC _ _ hD3,fD.1,hDC,λz=> ?_,λv z=>by cases z⟩;rcases D3.mp (I.stkSub D z) with q|q
   ·exact fD.2.1 q
   ·exact fD.2.2.1 q
 have st4:tn 0 h₁:=T.keep _ _ _ st2 λb _ o e=>upC _ _ (up3 _ _ e)
 have eA:X'.A=X.A:=by rw [<-hX];rfl
 have eP:X'.prog=X.prog:=by rw [<-hX];rfl
 have eW:X'.w=X.w:=by rw [<-hX];rfl
 have eK:X'.K=X.K:=by rw [<-hX];rfl
 have eC:X'.calm=true:=by rw [<-hX];exact hc
 have eV:X'.env=compEnvC scope (jR X scope C) C X.env:=by rw [<-hX];rfl
 have eE:X'.xe=λ_ _=>False:=by rw [<-hX];rfl
 -- what stays true of the iterator's objects
 have stat: ∀ {us:List Value} {H':Hp},(∀b∈fp,H' b=none)-> ∀b∈fp,Re X' [(D,LCg.lst us)] H' b:=λ{us H'} hn b hb=>by
  have q:=hf b (N7 _ hb);subst hX;refine⟨hn b hb,R1 (ltb b (N7 _ hb)),λz=> ?_,.inl (N7 _ hb),λx c e=>(cl x c e).elim (λz=>q.2.2.2.2.1 x c z) (λz=>E3 (V1 (ltb b (N7 _ hb)) z)),λp hp=> ?_⟩
  ·rcases D3.mp (I.stkSub b z) with r|r
   ·exact q.2.1 r
   ·exact q.2.2.1 r
  ·have hp':p∈ [(D,LCg.lst us)]:=hp;rcases G3.mp hp' with rfl
   exact E3 (ltf b hb)
 have loop: ∀s₃:Shared,s₃= {s2 with heap:=h₁}->
  codeAny (model X.prog X.w) X.A (.compLoop (.ListComp elt (⟨tg,iter,ifs,0⟩::rest) scope pos) 0 (.ref it) (.ref D) (compEnvC scope (jR X scope C) C X.env))
   (compPost (model X.prog X.w) X.A X.xe use Qv (.ref D) C) s₃:=by
  rintro s₃ rfl;refine Po (act:=act (compEnvC scope (jR X scope C) C X.env) (.ref D)) (λn s'=> ∃i ys us H',Vals ys us/\Inv X' [(D,LCg.lst us)] (wJ js σ) H' s'/\tn i s'.heap/\(∀b∈fp,H' b=none)/\W i n ys H') (hturn _ _ _) ?_ m0
   ⟨0,[],[],H2,.nil,I4,st4,λb hb=>(f2 b hb).1,w0⟩
  rintro n s5 ⟨i,ys,us,H5,hv5,I5,st5,fr5,w5⟩;obtain⟨hz,tr⟩:=turn i n ys H5 w5;rcases tr with ⟨stop,qn⟩|⟨go,step⟩
  ·have q:=T.done X' eP eW eK eC i _ s5 _ H5 (λ_ _=>False) I5 (stat fr5) st5 stop;rw [eA] at q;refine S0 q (λr s6 ⟨hr,I6⟩=> ?_) λ_ _ z=>z
   subst hr;obtain⟨m6,hm6,_⟩:=I6.loc;rw [eV] at hm6;have zD:=I6.pin (D,LCg.lst us) (D1 _ P9);have HD:H5 D=none:=zD.2.1;have oD:s6.heap.get? D=some (LCg.lst us):=zD.1;have hDC:D≠C:=by rw [CD];exact R1 (C7 _)
   have HC:H5 C=none:=by have z:=I6.free;rw [eV] at z;exact z
   have B:=I6.base;have os6:s6.os=s2.os:=by have z:=I6.os;rw [<-hX] at z;exact z
   have Bu:Un (frs X.stack) (fp++ [D]) H2 H5 h3 s6.heap:=by rw [<-hX] at B;exact B
   have neC: ∀b o,h3.get? b=some o->b≠C:=λb o e=>by rw [<-hC];exact R1 (P2 e)
   refine fin D C (upd H5 D (.lst ys)) s6 m6 hm6 (λh' hs'=> ?_) (by rw [jx (Ne.symm hDC)];exact HC) ?_ ?_ ?_ (λx c e=>R1 (olt x c e)) ?_ (qn D HD)
   ·have hk5:HOk X.prog X.w H5 h':=λb u e=>by
     have z:=I6.hok b u e;rw [eP,eW] at z;refine z.stay (λc v hc q=>hs'.extBut c v ?_ q) (λ_ q=>q) λ_ _ q=>q
     rcases hc with rfl|hc
     ·exact jt e HC
     ·exact jt hc HC
    refine I3.call' (ch:=fp++ [D]) os6 ⟨λb o e n hb hx=> ?_,λb o e n hb hx=> ?_,λb o e n hx=> ?_,λb o e hx=> ?_,λb xs e=> ?_,λb o u e=> ?_,λb ps e=> ?_⟩ (hk5.track HD ?_) I6.bare λb hb=> ?_
    ·exact hs'.extBut b o (neC b o e) (Bu.keep b o e n hb hx)
    ·obtain⟨sl,q⟩:=Bu.slot b o e n hb hx;exact⟨sl,hs'.extBut b _ (neC b o e) q⟩
    ·rw [jx λz=>hx (by rw [z];exact D1 _ P9)];exact Bu.free b o e n hx
    ·obtain⟨o',q⟩:=Bu.there b o e hx;exact⟨o',hs'.extBut b _ (neC b o e) q⟩
    ·have z:=Bu.tups b xs e;rw [jx (jt z HD)];exact z
    ·have z:=Bu.frzs b o u e;rw [jx (jt z HD)];exact z
    ·obtain⟨more,z⟩:=Bu.tbls b ps e;exact⟨more,by rw [jx (jt z HD)];exact z⟩
    ·exact⟨hz,us,us.length,hv5,hs'.extBut D _ hDC oD⟩
    ·have q:=hf b hb;exact⟨q.2.2.2.1,q.2.1,q.2.2.2.2.1,q.2.2.2.2.2⟩
   ·rw [<-hC];exact E3 I3.lt
   ·exact I3.nofs (E4 hC)
   ·rw [<-hC];exact I3.sz
   ·intro p hp;have:=(I3.pin p hp).1;rw [<-hC];exact R1 (P2 this)
  ·have q:=T.item X' eP eW eK eC i _ s5 _ H5 (λ_ _=>False) I5 (stat fr5) st5 go;rw [eA] at q;refine S0 q (λr s6 ⟨u,hr,h6⟩=> ?_) λ_ _ z=>z
   subst hr;refine S0 h6 (λ_ s7 ⟨x,H7,I7,r7,y7,st7,fr7⟩=> ?_) λ_ _ z=>z
   have I7':=I7.pinned (stat fr7) (T.obj _ _ st7);have q7:=hg X' iX _ s7 _ H7 x u _ I7' r7 (step x H7 y7);rw [eP,eW,eA,eV,eE] at q7;refine S0 q7 (λ_ s8 ⟨σ8,H8,I8,ag8,q8⟩=> ?_) λ_ _ z=>z
   have q9:=ht X' iX _ s8 σ8 H8 _ I8 q8;rw [eP,eW,eA,eV,eE] at q9;refine S0 q9 (λok s9 ⟨H9,I9,q9⟩=> ?_) λ_ _ z=>z
   have keepT: ∀ {σ':St} {H':Hp} {s':Shared} {us:List Value},Inv X' ([(D,LCg.lst us)]++Jl fp s7.heap) σ' H' s'->tn (i+1) s'.heap/\ ∀b∈fp,H' b=none:=λ{σ' H' s' us} I'=>
    ⟨T.keep _ _ _ st7 λb hb o e=>(I'.pin (b,o) (D1 _ (D1 _ (wS hb e)))).1,λb hb=>by
     obtain⟨o,e,_⟩:=T.obj _ _ st7 b hb;exact(I'.pin (b,o) (D1 _ (D1 _ (wS hb e)))).2.1⟩
   cases ok with
   |false=>
    have q9: ∃m',m'<n/\W (i+1) m' ys H9:=q9;obtain⟨m',hm,w9⟩:=q9;obtain⟨t9,f9⟩:=keepT I9;exact⟨m',hm,i+1,ys,us,H9,hv5,(I9.unpinned).weak ag8.1.symm ag8.2,t9,f9,w9⟩
   |true=>
    have q9:tm σ8 H9 ys λys' H4=> ∃m',m'<n/\W (i+1) m' ys' H4:=q9
    have DX:D∈X'.ex:=by rw [<-hX];exact D1 _ P9
    have pD: ∀p∈X'.pn++Jl fp s7.heap,p.1≠D:=λp hp=>by
     have hp':p∈Jl fp s7.heap:=by rw [<-hX] at hp;simpa [VO] using hp
     exact R1 (ltf _ (WK hp').1)
    have cD: ∀x c,X'.env.cells.lookup x=some c->c≠D:=λx c e=>by
     rw [eV] at e;exact(cl x c e).elim (λz=>fD.2.2.2.2.1 x c z) λz=>E3 (V1 (by rw [CD];exact C7 _) z)
    have q10:=he X' iX D _ s9 σ8 H9 ys us _ I9 hv5 hz DX cD pD q9;rw [eP,eW,eA,eV] at q10;show wpAny _ _ (act _ _) _ _ s9;refine S0 q10 (λ_ s10 ⟨ys',us',H10,hv10,I10,m',hm,w10⟩=> ?_) λ_ _ z=>z
    obtain⟨t10,f10⟩:=keepT I10;exact⟨m',hm,i+1,ys',us',H10,hv10,(I10.unpinned).weak ag8.1.symm ag8.2,t10,f10,w10⟩
 exact codeAny_compStart_list (loop _ rfl) (T.self X.A 0 _ _ _ st4 (loop _ rfl))
theorem Et (hc:X.calm=true)(S:BlockOk X scope js)(hi:PI X tg iter wi)
 (hg: ∀X',jG X scope X'->PG X' tg g)(ht: ∀X',jG X scope X'->PTs X' ifs tt)(he: ∀X',jG X scope X'->PE X' elt te)
 (hs: ∀x,foldedSetIterable iter X.env x=pure x:=by intro _;rfl):PE X (.ListComp elt [⟨tg,iter,ifs,0⟩] scope pos) (tLC js wi g tt te):=by
 intro pins s σ H Q I h;rw [eval_ListComp];exact Fv (use:=none) hc S hi rfl hg ht (Vp elt) (λ_ _ _=>rfl) (λX' hX D=>VP (by obtain⟨_,_,_,_,rfl⟩:=hX;rfl) (he X' hX)) hs I h
  λD C H' s' m hn hk _ _ _ _ _ _ q=>⟨m,hn,λh' hs'=>⟨.ref D,H',hk h' hs',rfl,q⟩⟩
theorem RI {e:Expr}{rest:List Comprehension}{pos' spos:Pos}{g':TG}{tm:TM}(hc:X.calm=true)(S:BlockOk X scope js)(hi:PI X tg iter wi)
 (he0:e= .ListComp elt (⟨tg,iter,ifs,0⟩::rest) scope pos)(hg: ∀X',jG X scope X'->PG X' tg g)(ht: ∀X',jG X scope X'->PTs X' ifs tt)
 (act:Env->Value->Sem Unit)(hturn: ∀it acc env,compTurn e 0 it acc env=Vo iter tg ifs it env (act env acc) (.compLoop e 0 it acc env))(he: ∀X',jG X scope X'-> ∀D,Tj X' D (act X'.env (.ref D)) tm)
 (hg':PG X (.Name x pos') g')(hsw:swapsWith e (some (.Name x pos')) spos.line X.env=pure true)
 (hs: ∀x,foldedSetIterable iter X.env x=pure x):PS X (.Assign [.Name x pos'] e spos) (Fq (Tk js wi g tt tm) g'):=by
 intro pins s σ H Dn I h;rw [exec_Assign_Name_used _ _ _ _ hsw];refine wpAny_bind (V3 (wpAny_bind ?_));subst he0;rw [arm_evalThenUse_ListComp];show wpAny _ X.A (do let _ <-comprehension (.ListComp elt (⟨tg,iter,ifs,0⟩::rest) scope pos) scope X.env _ (newList []) false (eval iter X.env) (some (assign (.Name x pos') X.env))) _ _ s;refine wpAny_bind (S0 (Fv (use:=some (assign (.Name x pos') X.env)) (Qv:=λ_ s'=>SP X pins Dn .next s') hc S hi rfl hg ht act hturn he hs I h ?_) (λ_ s' hq=>P0 (P0 hq)) λ_ _ e=>e);intro D C H' s' m hn hk HC nL nf sz ncell npin q;show wpAny _ X.A (assign (.Name x pos') X.env (.ref D)) _ _ s';obtain⟨o,es,ep,ho,hd,hr⟩:=id hn;have I1:Inv X pins σ H' s':=hk s'.heap (Q9 ..);have I2:Inv X (pins++ [(C,o)]) σ H' s':=I1.pins_of λp hp=>by
  rcases D0.mp hp with z|z
  ·exact I1.pin p (D1 _ z)
  ·rcases G3.mp z with rfl
   exact⟨ho,HC,nL,nf,λv z=>by rw [hd] at z;cases z⟩
 refine S0 (hg' _ s' σ H' (.ref D) (.ref D) _ I2 rfl q) (λ_ s3 ⟨σ3,H3,I3,q3⟩=> ?_) λ_ _ z=>z
 have pC:=I3.pin (C,o) (D1 _ (D1 _ P9));refine⟨m,hn.at' λo' e'=> ?_,λh' hs'=> ?_⟩
 ·rw [ho] at e';cases e';exact pC.1
 ·exact⟨σ3,H3,(I3.unpinned).turned (t':=s3.toks) (it:=C) (λb o hb e=>hs'.extBut b o hb e) pC.2.1 nL (.inr sz) ncell npin,q3⟩
theorem BJ {pos' spos:Pos}{g':TG}(hc:X.calm=true)(S:BlockOk X scope js)(hi:PI X tg iter wi)
 (hg: ∀X',jG X scope X'->PG X' tg g)(ht: ∀X',jG X scope X'->PTs X' ifs tt)(he: ∀X',jG X scope X'->PE X' elt te)
 (hg':PG X (.Name x pos') g')(hsw:swapsWith (.ListComp elt [⟨tg,iter,ifs,0⟩] scope pos) (some (.Name x pos')) spos.line X.env=pure true)
 (hs: ∀x,foldedSetIterable iter X.env x=pure x:=by intro _;rfl):PS X (.Assign [.Name x pos'] (.ListComp elt [⟨tg,iter,ifs,0⟩] scope pos) spos) (Fq (tLC js wi g tt te) g'):=
 RI hc S hi rfl hg ht (Vp elt) (λ_ _ _=>rfl) (λX' hX D=>VP (by obtain⟨_,_,_,_,rfl⟩:=hX;rfl) (he X' hX)) hg' hsw hs
def RJ (e iter:Expr)(env:Env)(acc:Value):Sem Unit:=do
 let x <-eval iter env
 standAt iter.pos
 let x <-foldedSetIterable iter env x
 let _ <-runOwn (.compStart e 1 (<-holding [x] (pyIter x)) acc env) env
def mIn (wi : TI) (g : TG) (tt : TT) (tm : TM) : TM := fun σ H ys Q => wi σ H fun J H1 =>
  ∃ W : Nat → Nat → List V → Hp → Prop, (∃ m, W 0 m ys H1) ∧ ∀ i m ys H, W i m ys H → ys.length ≤ sizeLine ∧
    ((J.stop i H ∧ Q ys H) ∨
     (J.go i H ∧ ∀ x H', J.yld i H x H' → g x σ H' fun σ2 H2 => Agree σ σ2 ∧ tt σ2 H2 fun b H3 =>
        if b = true then tm σ2 H3 ys fun ys' H4 => ∃ m', m' < m ∧ W (i + 1) m' ys' H4 else ∃ m', m' < m ∧ W (i + 1) m' ys H3))
theorem Zb {prog:Program}{w:World}{A:Around}{R:Result->Shared->Prop}{s:Shared}{g0 g1:Comprehension}{it acc:Value}(ha:g1.is_async=0)
 (h0:codeAny (model prog w) A (.compLoop (.ListComp elt [g0,g1] scope pos) 1 it acc env) R s)
 (h:wpAny (model prog w) A (pyIter it) (λit' s'=>codeAny (model prog w) A (.compLoop (.ListComp elt [g0,g1] scope pos) 1 it' acc env) R s')
  (notedBy (model prog w) A env λx s'=>R (.error x) s') s):
 codeAny (model prog w) A (.compStart (.ListComp elt [g0,g1] scope pos) 1 it acc env) R s:=by
 obtain⟨tg,iter,ifs,as⟩:=g1;cases (show as=0 from ha);refine codeAny_of_tree (wpAny_notedAt ?_);obtain⟨hp,g,d,tk,os⟩:=s;unfold compStart
 wp_walk
 refine K4 ?_;split
 ·exact P0 ⟨rfl,h0⟩
 ·exact wpAny_bind (W7 (wpAny_bind (V3 (wpAny_bind (S0 h (λ_ _ on=>P0 ⟨rfl,on⟩) λ_ _ x=>x)))))
theorem Lr {D:Addr}{g0:Comprehension}(hc:X.calm=true)(hx:X.xe=λ_ _=>False)
 (hi:PI X tg iter wi)(hg:PG X tg g)(ht:PTs X ifs tt)(he:PE X elt te)(hs: ∀x,foldedSetIterable iter X.env x=pure x):
 Tj X D (RJ (.ListComp elt [g0,⟨tg,iter,ifs,0⟩] scope pos) iter X.env (.ref D)) (mIn wi g tt (Es te)):=by
 intro pins s σ H ys us Q I hv hz DX cD pD h;have q:=hi _ s σ H _ I h;rw [hx] at q;unfold RJ;refine wpAny_bind (S0 q (λv s1 h1=>wpAny_bind (V3 (wpAny_bind (wpAny_of_eq (hs v) (wpAny_bind (B7 (S0 h1 (λitv s2 h2=> ?_) λ_ _ z=>z))))))) λ_ _ z=>z);obtain⟨it,fp,tn,J,H2,e,I2,T,st2,f2,W,⟨m0,w0⟩,turn⟩:=h2;subst e;refine wpAny_bind (wpAny_runOwn ?_);have neD: ∀b∈fp,b≠D:=λb hb=>by
  have z:=(f2 b hb).2.2.2.2.2 (D,LCg.lst us) (D1 _ (N7 _ P9));exact Ne.symm z
 have stat: ∀ {us':List Value} {H':Hp},(∀b∈fp,H' b=none)-> ∀b∈fp,Re X ([(D,LCg.lst us')]++pins) H' b:=λ{us' H'} hn b hb=>by
  have q:=f2 b hb;refine⟨hn b hb,q.2.1,q.2.2.1,q.2.2.2.1,q.2.2.2.2.1,λp hp=> ?_⟩;rcases D0.mp hp with z|z
  ·exact q.2.2.2.2.2 p (N7 _ z)
  ·rcases D0.mp z with z|z
   ·rcases G3.mp z with rfl
    exact Ne.symm (neD b hb)
   ·exact q.2.2.2.2.2 p (D1 _ (D1 _ z))
 have loop:codeAny (model X.prog X.w) X.A (.compLoop (.ListComp elt [g0,⟨tg,iter,ifs,0⟩] scope pos) 1 (.ref it) (.ref D) X.env)
  (λr s'=>match r with| .ok f=>wpAny (model X.prog X.w) X.A (pure ()) (λ_ s'=> ∃ys' us' H',Vals ys' us'/\Inv X ([(D,LCg.lst us')]++pins) σ H' s'/\Q ys' H') (λ_ _=>False) s'| .error e=>cameBackBy (model X.prog X.w) X.A X.env (λ_ _=>False) e s') s2:=by
  refine Po (act:=Vp elt X.env (.ref D)) (λn s'=> ∃i ys us H',Vals ys us/\Inv X ([(D,LCg.lst us)]++pins) σ H' s'/\tn i s'.heap/\(∀b∈fp,H' b=none)/\W i n ys H') rfl ?_ m0
   ⟨0,ys,us,H2,hv,I2,st2,λb hb=>(f2 b hb).1,w0⟩
  rintro n s5 ⟨i,ys,us,H5,hv5,I5,st5,fr5,w5⟩;obtain⟨hz,tr⟩:=turn i n ys H5 w5;rcases tr with ⟨stop,qn⟩|⟨go,step⟩
  ·refine S0 (T.done X rfl rfl rfl hc i _ s5 _ H5 (λ_ _=>False) I5 (stat fr5) st5 stop) (λr s6 ⟨hr,I6⟩=> ?_) λ_ _ z=>z
   subst hr;exact P0 ⟨ys,us,H5,hv5,I6,qn⟩
  ·refine S0 (T.item X rfl rfl rfl hc i _ s5 _ H5 (λ_ _=>False) I5 (stat fr5) st5 go) (λr s6 ⟨u,hr,h6⟩=> ?_) λ_ _ z=>z
   subst hr;refine S0 h6 (λ_ s7 ⟨x,H7,I7,r7,y7,st7,fr7⟩=> ?_) λ_ _ z=>z
   have I7':=I7.pinned (stat fr7) (T.obj _ _ st7);have q7:=hg _ s7 _ H7 x u _ I7' r7 (step x H7 y7);rw [hx] at q7;refine S0 q7 (λ_ s8 ⟨σ8,H8,I8,ag8,q8⟩=> ?_) λ_ _ z=>z
   have q9:=ht _ s8 σ8 H8 _ I8 q8;rw [hx] at q9;refine S0 q9 (λok s9 ⟨H9,I9,q9⟩=> ?_) λ_ _ z=>z
   have keepT: ∀ {σ':St} {H':Hp} {s':Shared} {us:List Value},Inv X (([(D,LCg.lst us)]++pins)++Jl fp s7.heap) σ' H' s'->tn (i+1) s'.heap/\ ∀b∈fp,H' b=none:=λ{σ' H' s' us} I'=>
    ⟨T.keep _ _ _ st7 λb hb o e=>(I'.pin (b,o) (D1 _ (D1 _ (wS hb e)))).1,λb hb=>by
     obtain⟨o,e,_⟩:=T.obj _ _ st7 b hb;exact(I'.pin (b,o) (D1 _ (D1 _ (wS hb e)))).2.1⟩
   cases ok with
   |false=>
    have q9: ∃m',m'<n/\W (i+1) m' ys H9:=q9;obtain⟨m',hm,w9⟩:=q9;obtain⟨t9,f9⟩:=keepT I9;exact⟨m',hm,i+1,ys,us,H9,hv5,(I9.unpinned).weak ag8.1.symm ag8.2,t9,f9,w9⟩
   |true=>
    have q9:Es te σ8 H9 ys λys' H4=> ∃m',m'<n/\W (i+1) m' ys' H4:=q9
    have pD': ∀p∈X.pn++(pins++Jl fp s7.heap),p.1≠D:=λp hp=>by
     rcases D0.mp hp with z|z
     ·exact pD p (N7 _ z)
     ·rcases D0.mp z with z|z
      ·exact pD p (D1 _ z)
      ·exact neD _ (WK z).1
    rw [G8] at I9;have q10:=VP (D:=D) hx he (pins++Jl fp s7.heap) s9 σ8 H9 ys us _ I9 hv5 hz DX cD pD' q9;show wpAny _ _ (Vp _ _ _) _ _ s9;refine S0 q10 (λ_ s10 ⟨ys',us',H10,hv10,I10,m',hm,w10⟩=> ?_) λ_ _ z=>z
    rw [<-G8] at I10;obtain⟨t10,f10⟩:=keepT I10;exact⟨m',hm,i+1,ys',us',H10,hv10,(I10.unpinned).weak ag8.1.symm ag8.2,t10,f10,w10⟩
 exact Zb rfl loop (T.self X.A 0 _ _ _ st2 loop)
theorem Ls (elt iter tg iter' tg':Expr)(ifs ifs':List Expr)(scope:Scope)(pos:Pos)(it acc:Value)(env:Env):
 compTurn (.ListComp elt [⟨tg,iter,ifs,0⟩,⟨tg',iter',ifs',0⟩] scope pos) 0 it acc env=
  Vo iter tg ifs it env (RJ (.ListComp elt [⟨tg,iter,ifs,0⟩,⟨tg',iter',ifs',0⟩] scope pos) iter' env acc) (.compLoop (.ListComp elt [⟨tg,iter,ifs,0⟩,⟨tg',iter',ifs',0⟩] scope pos) 0 it acc env):=by
 unfold Vo RJ;simp only [bind_assoc,pure_bind];rfl
def Kz (js:List Nat)(wi:TI)(g:TG)(tt:TT)(wi':TI)(g':TG)(tt':TT)(te:TE):TE:=Tk js wi g tt (mIn wi' g' tt' (Es te))
inductive D where
 |non|bl (b:Bool)|int (i:Int)|str (x:Str)|tup (ds:List D)|lst (a:Addr)|dic (x:Str) (i:Int)|dct (a:Addr)|scr (ns:List Int)|exc (C:Addr)|fn (a:Addr)
def Scr (K:PySem.W.Frag)(H:Hp)(a:Addr)(ns:List Int):Prop:=
 (∃o,H a=some (.frz o (.lst (ns.map V.int))))\/
  ∃ (o:Obj) (its:Array Value) (n:Nat),K.lookup a=some o/\o.cls= .type "list" /\o.dict=none/\o.data= .seq its n/\its.size<=sizeLine/\Vals (ns.map V.int) its.toList
theorem Scr.sq {K:PySem.W.Frag}{H:Hp}{a:Addr}{ns:List Int}(h:Scr K H a ns):SqL K H a (ns.map V.int):=h.elim (λz=> .inl (.inr z)) .inr
mutual
def RelD (K:PySem.W.Frag)(H:Hp):D->V->Prop
 | .non,v=>v= .non
 | .bl b,v=>v= .bl b
 | .int i,v=>v= .int i
 | .str x,v=>v= .str x
 | .tup ds,v=> ∃a vs,v= .ref a/\H a=some (.tup vs)/\RelDs K H ds vs
 | .lst a,v=>v= .ref a/\ ∃vs,H a=some (.lst vs)
 | .dic x i,v=> ∃a,v= .ref a/\H a=some (.dK [(Sum.inr x,V.int i)])
 | .dct a,v=>v= .ref a
 | .scr ns,v=> ∃a,v= .ref a/\Scr K H a ns
 | .exc C,v=> ∃x o vs,v= .ref x/\H x=some (.frz o (.own 0))/\o.cls= .ref C/\o.data= .fields vs
 | .fn a,v=>v= .ref a/\PySem.W.keepIn K (.ref a)=true
def RelDs (K:PySem.W.Frag)(H:Hp):List D->List V->Prop
 | [],vs=>vs= []
 |d::ds,vs=> ∃v r,vs=v::r/\RelD K H d v/\RelDs K H ds r
end
structure Kept (H H':Hp):Prop where
 tup: ∀a xs,H a=some (.tup xs)->H' a=some (.tup xs)
 lst: ∀a xs,H a=some (.lst xs)-> ∃ys,H' a=some (.lst ys)
 dic: ∀a x i,H a=some (.dK [(Sum.inr x,V.int i)])->H' a=some (.dK [(Sum.inr x,V.int i)])
 frz: ∀a o u,H a=some (.frz o u)->H' a=some (.frz o u)
theorem Kept.refl (H:Hp):Kept H H:=⟨λ_ _ h=>h,λ_ xs h=>⟨xs,h⟩,λ_ _ _ h=>h,λ_ _ _ h=>h⟩
theorem Kept.trans {A B C:Hp}(x:Kept A B)(y:Kept B C):Kept A C:=
 ⟨λa xs h=>y.tup a xs (x.tup a xs h),λa xs h=>let ⟨_,e⟩:=x.lst a xs h;y.lst a _ e,λa k i h=>y.dic a k i (x.dic a k i h),λa o u h=>y.frz a o u (x.frz a o u h)⟩
theorem Kept.new {H:Hp}{p:Addr}{o:HO}(h:H p=none):Kept H (upd H p o):=
 ⟨λa xs e=>by rw [jx (jt e h)];exact e,λa xs e=>⟨xs,by rw [jx (jt e h)];exact e⟩,λa k i e=>by rw [jx (jt e h)];exact e,λa o u e=>by rw [jx (jt e h)];exact e⟩
theorem Kept.put {H:Hp}{p:Addr}{xs ys:List V}(h:H p=some (.lst xs)):Kept H (upd H p (.lst ys)):=
 ⟨λa zs e=>by rw [jx (Da e h (by intro z;cases z))];exact e,λa zs e=>by
  by_cases q:a=p
  ·subst q;exact⟨ys,jz⟩
  ·exact⟨zs,by rw [jx q];exact e⟩,
  λa k i e=>by rw [jx (Da e h (by intro z;cases z))];exact e,λa o u e=>by rw [jx (Da e h (by intro z;cases z))];exact e⟩
def DObj (o:HO):Prop:=(∃kvs:List (Int×V),o= .dK (kvs.map λp=>((Sum.inl p.1:Key),p.2)))\/ ∃φ,o= .ext φ
theorem DObj.no {o:HO}(d:DObj o):(∀xs,o≠ .tup xs)/\(∀xs,o≠ .lst xs)/\(∀x i,o≠ .dK [(Sum.inr x,V.int i)])/\(∀p u,o≠ .frz p u)/\ ∀ps,o≠ .tbl ps:=by
 rcases d with ⟨kvs,rfl⟩|⟨φ,rfl⟩
 ·refine⟨λ_ z=>(nomatch z),λ_ z=>(nomatch z),λx i z=> ?_,λ_ _ z=>(nomatch z),λ_ z=>(nomatch z)⟩;injection z with z
  cases kvs with
  |nil=>cases z
  |cons p r=>injection z with z _;injection z with z _;cases z
 ·exact⟨λ_ z=>(nomatch z),λ_ z=>(nomatch z),λ_ _ z=>(nomatch z),λ_ _ z=>(nomatch z),λ_ z=>(nomatch z)⟩
mutual
theorem RelD.mono {K:PySem.W.Frag}{H H':Hp}(k:Kept H H'): ∀ {d:D} {v:V},RelD K H d v->RelD K H' d v
 | .non,_,h=>h
 | .bl _,_,h=>h
 | .int _,_,h=>h
 | .str _,_,h=>h
 | .tup ds,v,h=>by
  obtain⟨a,vs,e,h1,h2⟩:=(show ∃a vs,v= .ref a/\H a=some (.tup vs)/\RelDs K H ds vs from h);exact⟨a,vs,e,k.tup _ _ h1,RelDs.mono k h2⟩
 | .lst a,v,h=>by
  obtain⟨e,vs,h1⟩:=(show v= .ref a/\ ∃vs,H a=some (.lst vs) from h);exact⟨e,k.lst _ _ h1⟩
 | .dic x i,v,h=>by
  obtain⟨a,e,h1⟩:=(show ∃a,v= .ref a/\H a=some (.dK [(Sum.inr x,V.int i)]) from h);exact⟨a,e,k.dic _ _ _ h1⟩
 | .dct a,v,h=>h
 | .scr ns,v,h=>by
  obtain⟨a,e,h1⟩:=(show ∃a,v= .ref a/\Scr K H a ns from h);exact⟨a,e,h1.elim (λ⟨o,z⟩=> .inl ⟨o,k.frz _ _ _ z⟩) .inr⟩
 | .exc C,v,h=>by
  obtain⟨x,o,vs,e,h1,r⟩:=(show ∃x o vs,v= .ref x/\H x=some (.frz o (.own 0))/\o.cls= .ref C/\o.data= .fields vs from h);exact⟨x,o,vs,e,k.frz _ _ _ h1,r⟩
 | .fn a,v,h=>h
theorem RelDs.mono {K:PySem.W.Frag}{H H':Hp}(k:Kept H H'): ∀ {ds:List D} {vs:List V},RelDs K H ds vs->RelDs K H' ds vs
 | [],_,h=>h
 |d::ds,vs,h=>by
  obtain⟨v,r,e,h1,h2⟩:=(show ∃v r,vs=v::r/\RelD K H d v/\RelDs K H ds r from h);exact⟨v,r,e,RelD.mono k h1,RelDs.mono k h2⟩
end
section
variable {K:PySem.W.Frag}{H:Hp}
theorem RelDs.nil:RelDs K H [] []:=rfl
theorem RelDs.cons {d:D}{v:V}{ds:List D}{vs:List V}(h:RelD K H d v)(t:RelDs K H ds vs):RelDs K H (d::ds) (v::vs):=⟨v,vs,rfl,h,t⟩
theorem RelDs.length: ∀ {ds:List D} {vs:List V},RelDs K H ds vs->ds.length=vs.length
 | [],_,h=>by cases (show _= [] from h);rfl
 |d::ds,vs,h=>by
  obtain⟨v,r,e,_,h2⟩:=(show ∃v r,vs=v::r/\RelD K H d v/\RelDs K H ds r from h);subst e;simp [RelDs.length h2]
theorem RelDs.append: ∀ {ds es:List D} {vs us:List V},RelDs K H ds vs->RelDs K H es us->RelDs K H (ds++es) (vs++us)
 | [],_,_,_,h,g=>by cases (show _= [] from h);exact g
 |d::ds,es,vs,us,h,g=>by
  obtain⟨v,r,e,h1,h2⟩:=(show ∃v r,vs=v::r/\RelD K H d v/\RelDs K H ds r from h);subst e;exact .cons h1 (RelDs.append h2 g)
theorem RelDs.get: ∀ {ds:List D} {vs:List V} {i:Nat} {d:D},RelDs K H ds vs->ds[i]? =some d-> ∃v,vs[i]? =some v/\RelD K H d v
 |d'::ds,vs,i,d,h,e=>by
  obtain⟨v,r,q,h1,h2⟩:=(show ∃v r,vs=v::r/\RelD K H d' v/\RelDs K H ds r from h);subst q;cases i with
  |zero=>simp at e;subst e;exact⟨v,rfl,h1⟩
  |succ i=>
   obtain⟨u,q1,q2⟩:=RelDs.get h2 (i:=i) (d:=d) (by simpa using e);exact⟨u,by simpa using q1,q2⟩
theorem RelDs.take (n:Nat): ∀ {ds:List D} {vs:List V},RelDs K H ds vs->RelDs K H (ds.take n) (vs.take n):=by
 induction n with
 |zero=>intro ds vs _;exact(rfl:RelDs K H [] [])
 |succ n ih=>
  intro ds vs h;cases ds with
  |nil=>cases (show vs= [] from h);exact .nil
  |cons d ds=>
   obtain⟨v,r,e,h1,h2⟩:=(show ∃v r,vs=v::r/\RelD K H d v/\RelDs K H ds r from h);subst e;exact .cons h1 (ih h2)
theorem RelDs.drop (n:Nat): ∀ {ds:List D} {vs:List V},RelDs K H ds vs->RelDs K H (ds.drop n) (vs.drop n):=by
 induction n with
 |zero=>intro ds vs h;exact h
 |succ n ih=>
  intro ds vs h;cases ds with
  |nil=>cases (show vs= [] from h);exact .nil
  |cons d ds=>
   obtain⟨v,r,e,h1,h2⟩:=(show ∃v r,vs=v::r/\RelD K H d v/\RelDs K H ds r from h);subst e;exact ih h2
theorem RelDs.set {d:D}{v:V}(q:RelD K H d v): ∀ {ds:List D} {vs:List V} (i:Nat),RelDs K H ds vs->RelDs K H (ds.set i d) (vs.set i v)
 | [],_,_,h=>by cases (show _= [] from h);exact .nil
 |e::ds,vs,i,h=>by
  obtain⟨u,r,z,h1,h2⟩:=(show ∃u r,vs=u::r/\RelD K H e u/\RelDs K H ds r from h);subst z;cases i with
  |zero=>exact .cons q h2
  |succ i=>exact .cons h1 (RelDs.set q i h2)
theorem wU: ∀ns:List Int,RelDs K H (ns.map D.int) (ns.map V.int)
 | []=> .nil
 |n::ns=> .cons rfl (wU ns)
end
inductive DC where
 |ik (kv:List (Int×D))
 |tk (kv:List (List (List Int)×D))
structure HD where
 ls:Addr->Option (List D)
 dc:Addr->Option DC
instance:CoeFun HD λ_=>Addr->Option (List D):=⟨HD.ls⟩
def zN (h:HD)(a:Addr)(ds:List D):HD:=⟨λb=>if b=a then some ds else h b,h.dc⟩
def VQ (h:HD)(a:Addr):HD:=⟨λb=>if b=a then none else h b,h.dc⟩
theorem jc {h:HD}{a:Addr}{ds:List D}:zN h a ds a=some ds:=if_pos rfl
theorem wW {h:HD}{a b:Addr}{ds:List D}(e:b≠a):zN h a ds b=h b:=if_neg e
theorem zS {h:HD}{a:Addr}{ds:List D}(e:h a=none):VQ (zN h a ds) a=h:=by
 obtain⟨l,d⟩:=h;refine congrArg (HD.mk · d) ?_
 funext b
 show (if b=a then none else if b=a then some ds else l b)=l b
 by_cases q:b=a
 ·subst q;rw [if_pos rfl];exact e.symm
 ·rw [if_neg q,if_neg q]
def LN:List Str:= ["law","_law_right","_law_words","_law_other_words","_law_many_right","_law_all","_law_told_row","_law_all_right","_law_desk_right","_law_signs_right","_law_lists_right","_law_text_right"]
def TabK (K:PySem.W.Frag)(P:Addr):Prop:= ∃x∈LN,∃c,PySem.W.tabIn K x=some (c,P)
def CodesOk (H:Hp)(ps:Array Value):Prop:=TriplesOk ps.toList/\ ∀pos cv,codeAmong pos ps.toList=some cv-> ∃ (c:Addr) (o:Obj) (vs:Array Value) (q:Str) (t:Tok),cv= .ref c/\H c=some (.frz o (.own 0))/\o.data= .fields vs/\vs[1]? =some (.str q t)
def CTabs (K:PySem.W.Frag)(H:Hp):Prop:= ∀P,TabK K P-> ∃ps,H P=some (.tbl ps)/\CodesOk H ps
theorem CodesOk.mono {H H':Hp}{ps:Array Value}(k: ∀a o u,H a=some (.frz o u)->H' a=some (.frz o u))(c:CodesOk H ps):CodesOk H' ps:=
 ⟨c.1,λpos cv e=>let ⟨c',o,vs,q,t,e1,e2,r⟩:=c.2 pos cv e;⟨c',o,vs,q,t,e1,k _ _ _ e2,r⟩⟩
theorem CTabs.mono {K:PySem.W.Frag}{H H':Hp}(x:CTabs K H)(k: ∀a o u,H a=some (.frz o u)->H' a=some (.frz o u))(kt: ∀a ps,H a=some (.tbl ps)->H' a=some (.tbl ps)):CTabs K H':=λP hP=>
 let ⟨ps,e,c⟩:=x P hP;⟨ps,kt _ _ e,c.mono k⟩
theorem CTabs.new {K:PySem.W.Frag}{H:Hp}{p:Addr}{o:HO}(x:CTabs K H)(e:H p=none):CTabs K (upd H p o):=
 x.mono (λa o' u h=>by rw [jx (jt h e)];exact h) λa ps h=>by rw [jx (jt h e)];exact h
theorem CTabs.put {K:PySem.W.Frag}{H:Hp}{p:Addr}{o:HO}{xs:List V}(x:CTabs K H)(e:H p=some (.lst xs)):CTabs K (upd H p o):=
 x.mono (λa o' u h=>by rw [jx (Da h e (by intro z;cases z))];exact h) λa ps h=>by rw [jx (Da h e (by intro z;cases z))];exact h
def Lt (T:List (List Int)):Int:=reduceHash (Builtin.Tuple.tupleHashOf (T.map λr=>reduceHash (Builtin.Tuple.tupleHashOf (r.map hashInt))))
def kb (a:Addr)(xs:List (List (List Int)×Addr×V)):HO:= .ext λh=>(a==sysModules)=false/\xs.length<=sizeLine/\ ∃ys:List (List (List Int)×Addr×Value),Paired (λp q=>p.1=q.1/\p.2.1=q.2.1/\RelV p.2.2 q.2.2) xs ys/\
 ∃o es ep,h.get? a=some o/\o.ExactDict/\o.data= .dict es ep/\es.toList=ys.map λx=>⟨Lt x.1,.ref x.2.1,x.2.2⟩
def DRel (K:PySem.W.Frag)(H:Hp)(a:Addr):DC->Prop
 | .ik kv=> ∃kvs:List (Int×V),H a=some (.dK (kvs.map λp=>((Sum.inl p.1:Key),p.2)))/\kv.map (·.1)=kvs.map (·.1)/\RelDs K H (kv.map (·.2)) (kvs.map (·.2))
 | .tk kv=> ∃xs:List (List (List Int)×Addr×V),H a=some (kb a xs)/\(kv.map (·.1)).Nodup/\kv.map (·.1)=xs.map (·.1)/\(∀x∈xs,RelD K H (.tup (x.1.map λr=> .tup (r.map D.int))) (.ref x.2.1))/\RelDs K H (kv.map (·.2)) (xs.map (·.2.2))
theorem DRel.obj {K:PySem.W.Frag}{H:Hp}{a:Addr}: ∀ {c:DC},DRel K H a c-> ∃o,H a=some o/\DObj o
 | .ik _,⟨kvs,e,_⟩=>⟨_,e,.inl ⟨kvs,rfl⟩⟩
 | .tk _,⟨xs,e,_⟩=>⟨_,e,.inr ⟨_,rfl⟩⟩
theorem DRel.mono {K:PySem.W.Frag}{H H':Hp}{a:Addr}(k:Kept H H')(z: ∀o,H a=some o->H' a=some o): ∀ {c:DC},DRel K H a c->DRel K H' a c
 | .ik _,⟨kvs,e,q,r⟩=>⟨kvs,z _ e,q,r.mono k⟩
 | .tk _,⟨xs,e,n,q,t,r⟩=>⟨xs,z _ e,n,q,λx hx=>(t x hx).mono k,r.mono k⟩
structure RelH (K:PySem.W.Frag)(h:HD)(H:Hp):Prop where
 ls: ∀a ds,h a=some ds-> ∃vs,H a=some (.lst vs)/\RelDs K H ds vs
 tb:CTabs K H
 dc: ∀a c,h.dc a=some c->DRel K H a c
instance {K:PySem.W.Frag}{h:HD}{H:Hp}:CoeFun (RelH K h H) λ_=> ∀a ds,h a=some ds-> ∃vs,H a=some (.lst vs)/\RelDs K H ds vs:=⟨RelH.ls⟩
structure Sub (h h':HD):Prop where
 ls: ∀a ds,h a=some ds->h' a=some ds
 dc: ∀a c,h.dc a=some c->h'.dc a=some c
instance {h h':HD}:CoeFun (Sub h h') λ_=> ∀a ds,h a=some ds->h' a=some ds:=⟨Sub.ls⟩
theorem Sub.refl (h:HD):Sub h h:=⟨λ_ _ e=>e,λ_ _ e=>e⟩
theorem Sub.trans {a b c:HD}(x:Sub a b)(y:Sub b c):Sub a c:=⟨λd ds e=>y d ds (x d ds e),λd ds e=>y.dc d ds (x.dc d ds e)⟩
theorem Sub.drop (h:HD)(a:Addr):Sub (VQ h a) h:=⟨λb ds e=>by
 have e:(if b=a then none else h b)=some ds:=e;split at e
 ·cases e
 ·exact e,λ_ _ e=>e⟩
theorem Sub.new {h:HD}{p:Addr}{ds:List D}(e:h p=none):Sub h (zN h p ds):=⟨λa es q=>(by
 rw [wW];exact q;intro z;subst z;rw [e] at q;cases q),λ_ _ e=>e⟩
section
variable {K:PySem.W.Frag}{h h':HD}{H:Hp}
theorem RelH.sub (r:RelH K h H)(s:Sub h' h):RelH K h' H:=⟨λa ds e=>r a ds (s a ds e),r.tb,λa c e=>r.dc a c (s.dc a c e)⟩
theorem RelH.free (r:RelH K h H){p:Addr}(e:H p=none):h p=none:=by
 cases q:h p with
 |none=>rfl
 |some ds=>obtain⟨vs,z,_⟩:=r p ds q;rw [e] at z;cases z
theorem RelH.freeC (r:RelH K h H){p:Addr}(e:H p=none):h.dc p=none:=by
 cases q:h.dc p with
 |none=>rfl
 |some c=>obtain⟨o,z,_⟩:=(r.dc p c q).obj;rw [e] at z;cases z
theorem RelH.dcN (r:RelH K h H){p:Addr}{o:HO}(e:H p=none): ∀a c,h.dc a=some c->DRel K (upd H p o) a c:=λa c q=>
 (r.dc a c q).mono (.new e) λu z=>by rw [jx (jt z e)];exact z
theorem RelH.new (r:RelH K h H){p:Addr}{o:HO}(e:H p=none):RelH K h (upd H p o):=⟨λa ds q=>by
 obtain⟨vs,z,w⟩:=r a ds q;exact⟨vs,by rw [jx (jt z e)];exact z,w.mono (.new e)⟩,r.tb.new e,r.dcN e⟩
theorem RelH.newL (r:RelH K h H){p:Addr}{ds:List D}{vs:List V}(e:H p=none)(q:RelDs K H ds vs):RelH K (zN h p ds) (upd H p (.lst vs)):=⟨λa es z=>by
 by_cases w:a=p
 ·subst w;rw [jc] at z;cases z;exact⟨vs,jz,q.mono (.new e)⟩
 ·rw [wW w] at z;obtain⟨us,z1,z2⟩:=r a es z;exact⟨us,by rw [jx w];exact z1,z2.mono (.new e)⟩,r.tb.new e,r.dcN e⟩
theorem RelH.put (r:RelH K h H){p:Addr}{ds:List D}{vs us:List V}(e:H p=some (.lst us))(q:RelDs K H ds vs):RelH K (zN h p ds) (upd H p (.lst vs)):=⟨λa es z=>by
 by_cases w:a=p
 ·subst w;rw [jc] at z;cases z;exact⟨vs,jz,q.mono (.put e)⟩
 ·rw [wW w] at z;obtain⟨us,z1,z2⟩:=r a es z;exact⟨us,by rw [jx w];exact z1,z2.mono (.put e)⟩,r.tb.put e,λa c z=>(r.dc a c z).mono (.put e) λo w=>by
   obtain⟨u,w',d⟩:=(r.dc a c z).obj;rw [jx (Da w' e (d.no.2.1 _))];exact w⟩
end
abbrev SD:=List (Option D)
def RelS (K:PySem.W.Frag)(H:Hp)(σd:SD)(σ:St):Prop:=σd.length=σ.length/\ ∀ (i:Nat) (d:D),σd[i]? =some (some d)-> ∃v,σ[i]? =some (some v)/\RelD K H d v
theorem RelS.mono {K:PySem.W.Frag}{H H':Hp}{σd:SD}{σ:St}(r:RelS K H σd σ)(k:Kept H H'):RelS K H' σd σ:=⟨r.1,λi d e=>let ⟨v,a,b⟩:=r.2 i d e;⟨v,a,b.mono k⟩⟩
theorem RelS.set {K:PySem.W.Frag}{H:Hp}{σd:SD}{σ:St}{d:D}{v:V}(r:RelS K H σd σ)(q:RelD K H d v)(i:Nat):RelS K H (σd.set i (some d)) (σ.set i (some v)):=⟨by simp [r.1],λj e h=>by
 by_cases z:i=j
 ·subst z;rw [W8] at h ⊢
  by_cases hl:i<σd.length
  ·rw [if_pos rfl,if_pos hl] at h;rw [if_pos rfl,if_pos (by rw [<-r.1];exact hl)];cases h;exact⟨v,rfl,q⟩
  ·rw [if_pos rfl,if_neg hl] at h;cases h
 ·rw [F4 z] at h ⊢;exact r.2 j e h⟩
theorem RelS.clear1 {K:PySem.W.Frag}{H:Hp}{σd:SD}{σ:St}(r:RelS K H σd σ)(i:Nat):RelS K H (σd.set i none) (σ.set i none):=⟨by simp [r.1],λj e h=>by
 by_cases z:i=j
 ·subst z;rw [W8] at h;split at h
  ·split at h<;>cases h
  ·contradiction
 ·rw [F4 z] at h ⊢;exact r.2 j e h⟩
def jO:List Nat->SD->SD
 | [],σ=>σ
 |j::js,σ=>jO js (σ.set j none)
theorem RelS.clear {K:PySem.W.Frag}{H:Hp}: ∀ (js:List Nat) {σd:SD} {σ:St},RelS K H σd σ->RelS K H (jO js σd) (wJ js σ)
 | [],_,_,r=>r
 |j::js,_,_,r=>RelS.clear js (r.clear1 j)
abbrev KD:=D->HD->Prop
abbrev TED:=SD->HD->KD->Prop
abbrev TTD:=SD->HD->(Bool->HD->Prop)->Prop
abbrev TAD:=SD->HD->(List D->HD->Prop)->Prop
abbrev RD2:=D->D->HD->KD->Prop
abbrev RDn:=List D->HD->KD->Prop
structure EndsD where
 nx:SD->HD->Prop
 rt:KD
 bk:SD->HD->Prop:=λ_ _=>False
 ct:SD->HD->Prop:=λ_ _=>False
abbrev TSD:=EndsD->SD->HD->Prop
abbrev TGD:=D->SD->HD->(SD->HD->Prop)->Prop
def Lu (K:PySem.W.Frag)(H:Hp)(Qd:KD)(Q:VK):Prop:= ∀d v h' H',Kept H H'->RelH K h' H'->RelD K H' d v->Qd d h'->Q v H'
def LE (K:PySem.W.Frag)(t:TED):TE:=λσ H Q=> ∃σd h Qd,RelS K H σd σ/\RelH K h H/\t σd h Qd/\Lu K H Qd Q
def LT (K:PySem.W.Frag)(t:TTD):TT:=λσ H Q=> ∃σd h Qd,RelS K H σd σ/\RelH K h H/\t σd h Qd/\ ∀b h' H',Kept H H'->RelH K h' H'->Qd b h'->Q b H'
def LA (K:PySem.W.Frag)(t:TAD):TA:=λσ H Q=> ∃σd h Qd,RelS K H σd σ/\RelH K h H/\t σd h Qd/\ ∀ds vs h' H',Kept H H'->RelH K h' H'->RelDs K H' ds vs->Qd ds h'->Q vs H'
def LR (K:PySem.W.Frag)(f:RD2):R2:=λx y H Q=> ∃dx dy h Qd,RelD K H dx x/\RelD K H dy y/\RelH K h H/\f dx dy h Qd/\Lu K H Qd Q
def LC (K:PySem.W.Frag)(f:RDn):List V->Hp->VK->Prop:=λxs H Q=> ∃ds h Qd,RelDs K H ds xs/\RelH K h H/\f ds h Qd/\Lu K H Qd Q
def LG (K:PySem.W.Frag)(g:TGD):TG:=λv σ H Q=> ∃d σd h Qd,RelD K H d v/\RelS K H σd σ/\RelH K h H/\g d σd h Qd/\ ∀σd' h' σ' H',Kept H H'->RelS K H' σd' σ'->RelH K h' H'->Qd σd' h'->Q σ' H'
def LS (K:PySem.W.Frag)(t:TSD):TS:=λD₀ σ H=> ∃σd h Dd,RelS K H σd σ/\RelH K h H/\t Dd σd h/\
 (∀σd' h' σ' H',Kept H H'->RelS K H' σd' σ'->RelH K h' H'->Dd.nx σd' h'->D₀.nx σ' H')/\Lu K H Dd.rt D₀.rt/\
 (∀σd' h' σ' H',Kept H H'->RelS K H' σd' σ'->RelH K h' H'->Dd.bk σd' h'->D₀.bk σ' H')/\(∀σd' h' σ' H',Kept H H'->RelS K H' σd' σ'->RelH K h' H'->Dd.ct σd' h'->D₀.ct σ' H')
theorem PE.imp {X:Cx}{e:Expr}{t t':TE}(h:PE X e t)(i: ∀σ H Q,t' σ H Q->t σ H Q):PE X e t':=λpins s σ H Q I q=>h pins s σ H Q I (i σ H Q q)
theorem PT.imp {X:Cx}{e:Expr}{t t':TT}(h:PT X e t)(i: ∀σ H Q,t' σ H Q->t σ H Q):PT X e t':=λpins s σ H Q I q=>h pins s σ H Q I (i σ H Q q)
theorem PW.imp {X:Cx}{e:Expr}{t t':TT}(h:PW X e t)(i: ∀σ H Q,t' σ H Q->t σ H Q):PW X e t':=λwh pins s σ H Q I q=>h wh pins s σ H Q I (i σ H Q q)
theorem PA.imp {X:Cx}{e:List Expr}{t t':TA}(h:PA X e t)(i: ∀σ H Q,t' σ H Q->t σ H Q):PA X e t':=λpos pins s σ H Q I q=>h pos pins s σ H Q I (i σ H Q q)
theorem PS.imp {X:Cx}{e:Stmt}{t t':TS}(h:PS X e t)(i: ∀D σ H,t' D σ H->t D σ H):PS X e t':=λpins s σ H D I q=>h pins s σ H D I (i D σ H q)
theorem PSs.imp {X:Cx}{e:List Stmt}{t t':TS}(h:PSs X e t)(i: ∀D σ H,t' D σ H->t D σ H):PSs X e t':=λpins s σ H D I q=>h pins s σ H D I (i D σ H q)
theorem PG.imp {X:Cx}{e:Expr}{t t':TG}(h:PG X e t)(i: ∀v σ H Q,t' v σ H Q->t v σ H Q):PG X e t':=λpins s σ H v u Q I r q=>h pins s σ H v u Q I r (i v σ H Q q)
theorem OpR.imp {X:Cx}{f:Value->Value->Sem Value}{r r':R2}(h:OpR X f r)(i: ∀x y H Q,r' x y H Q->r x y H Q):OpR X f r':=λpins s σ H x y v u Q I a b q=>h pins s σ H x y v u Q I a b (i x y H Q q)
theorem CallR.imp {X:Cx}{f:Value}{r r':List V->Hp->VK->Prop}(h:CallR X f r)(i: ∀xs H Q,r' xs H Q->r xs H Q):CallR X f r':=λpins s σ H xs us Q I a q=>h pins s σ H xs us Q I a (i xs H Q q)
def BK (i:Nat):TED:=λσ h Q=> ∃d,σ[i]? =some (some d)/\Q d h
def dC (d:D):TED:=λ_ h Q=>Q d h
def dOp (f:RD2)(ta tb:TED):TED:=λσ h Q=>ta σ h λx h1=>tb σ h1 λy h2=>f x y h2 Q
def WE:TAD:=λ_ h Q=>Q [] h
def wC (ta:TED)(tr:TAD):TAD:=λσ h Q=>ta σ h λx h1=>tr σ h1 λxs h2=>Q (x::xs) h2
def Hc (t:TAD):TED:=λσ h Q=>t σ h λds h1=>ds.length<=sizeLine/\Q (.tup ds) h1
def Ap (t:TAD):TED:=λσ h Q=>t σ h λds h1=>ds.length<=sizeLine/\ ∀p,h1 p=none->Q (.lst p) (zN h1 p ds)
def dCB (r:RDn)(t:TAD):TED:=λσ h Q=>t σ h λds h1=>r ds h1 Q
def Zc (t:TED):TTD:=λσ h Q=>t σ h λx h1=> ∃k,x= .bl k/\Q k h1
def WU (r r':RD2)(ta tb tc:TED):TED:=λσ h Q=>ta σ h λx h1=>tb σ h1 λy h2=>r x y h2 λz h3=> ∃k,z= .bl k/\
 (if k=true then tc σ h3 λw h4=>r' y w h4 Q else Q (.bl false) h3)
def Lv (t u:TTD):TTD:=λσ h Q=>t σ h λc h1=>if c=true then u σ h1 Q else Q false h1
def Eu (t u:TTD):TTD:=λσ h Q=>t σ h λc h1=>if c=true then Q true h1 else u σ h1 Q
def RK (t:TTD):TTD:=λσ h Q=>t σ h λc h1=>Q (!c) h1
def BL (ta tb:TED):TED:=λσ h Q=>ta σ h λx h1=> ∃c,x= .bl c/\if c=true then tb σ h1 Q else Q (.bl false) h1
def Hd (ta tb:TED):TED:=λσ h Q=>ta σ h λx h1=> ∃c,x= .bl c/\if c=true then Q (.bl true) h1 else tb σ h1 Q
def BM (ta:TED):TED:=λσ h Q=>ta σ h λx h1=> ∃c,x= .bl c/\Q (.bl (!c)) h1
def dIf (t:TTD)(ta tb:TED):TED:=λσ h Q=>t σ h λc h1=>if c=true then ta σ h1 Q else tb σ h1 Q
section
variable {K:PySem.W.Frag}
theorem Ev (i:Nat): ∀σ H Q,LE K (BK i) σ H Q->Tz i σ H Q:=λσ H Q ⟨σd,h,Qd,rs,rh,⟨d,e,q⟩,p⟩=>let ⟨v,e1,e2⟩:=rs.2 i d e;⟨v,e1,p d v h H (.refl H) rh e2 q⟩
theorem Tl {d:D}{v:V}(r: ∀H,RelD K H d v): ∀σ H Q,LE K (dC d) σ H Q->tC v σ H Q:=λσ H Q ⟨σd,h,Qd,rs,rh,q,p⟩=>p d v h H (.refl H) rh (r H) q
variable {H:Hp}
theorem jK {H1:Hp}{Qd:KD}{Q:VK}(p:Lu K H Qd Q)(k:Kept H H1):Lu K H1 Qd Q:=λd v h' H' k'=>p d v h' H' (k.trans k')
variable {ta:TED}
theorem LE.bind {σ:St}{σd:SD}{h:HD}{kd:KD}{k:VK}(rs:RelS K H σd σ)(rh:RelH K h H)(t:ta σd h kd)(f: ∀d v h' H',Kept H H'->RelS K H' σd σ->RelH K h' H'->RelD K H' d v->kd d h'->k v H'):LE K ta σ H k:=
 ⟨σd,h,kd,rs,rh,t,λd v h' H' kp r1 r2 q=>f d v h' H' kp (rs.mono kp) r1 r2 q⟩
theorem LT.bind {ta:TTD}{σ:St}{σd:SD}{h:HD}{kd:Bool->HD->Prop}{k:Bool->Hp->Prop}(rs:RelS K H σd σ)(rh:RelH K h H)(t:ta σd h kd)(f: ∀b h' H',Kept H H'->RelS K H' σd σ->RelH K h' H'->kd b h'->k b H'):LT K ta σ H k:=
 ⟨σd,h,kd,rs,rh,t,λb h' H' kp r1 q=>f b h' H' kp (rs.mono kp) r1 q⟩
theorem LA.bind {ta:TAD}{σ:St}{σd:SD}{h:HD}{kd:List D->HD->Prop}{k:List V->Hp->Prop}(rs:RelS K H σd σ)(rh:RelH K h H)(t:ta σd h kd)(f: ∀ds vs h' H',Kept H H'->RelS K H' σd σ->RelH K h' H'->RelDs K H' ds vs->kd ds h'->k vs H'):LA K ta σ H k:=
 ⟨σd,h,kd,rs,rh,t,λd v h' H' kp r1 r2 q=>f d v h' H' kp (rs.mono kp) r1 r2 q⟩
variable {tb:TED}
theorem Lw {f:RD2}: ∀σ H Q,LE K (dOp f ta tb) σ H Q->tOp (LR K f) (LE K ta) (LE K tb) σ H Q:=λσ H Q ⟨σd,h,Qd,rs,rh,t,p⟩=>
 LE.bind rs rh t λd v h1 H1 k1 rs1 rh1 r1 t1=>LE.bind rs1 rh1 t1 λd2 v2 h2 H2 k2 rs2 rh2 r2 t2=>⟨d,d2,h2,Qd,r1.mono k2,r2,rh2,t2,jK p (k1.trans k2)⟩
theorem Ew: ∀σ H Q,LA K WE σ H Q->Ks σ H Q:=λσ H Q ⟨σd,h,Qd,rs,rh,t,p⟩=>p [] [] h H (.refl H) rh rfl t
theorem Lx {tr:TAD}: ∀σ H Q,LA K (wC ta tr) σ H Q->Ef (LE K ta) (LA K tr) σ H Q:=λσ H Q ⟨σd,h,Qd,rs,rh,t,p⟩=>
 LE.bind rs rh t λd v h1 H1 k1 rs1 rh1 r1 t1=>LA.bind rs1 rh1 t1 λds vs h2 H2 k2 rs2 rh2 r2 t2=>p _ _ h2 H2 (k1.trans k2) rh2 (.cons (r1.mono k2) r2) t2
theorem Ex {t:TAD}: ∀σ H Q,LE K (Hc t) σ H Q->Kt (LA K t) σ H Q:=λσ H Q ⟨σd,h,Qd,rs,rh,t,p⟩=>
 LA.bind rs rh t λds vs h1 H1 k1 rs1 rh1 r1 ⟨z,q⟩=>⟨by rw [<-r1.length];exact z,λa ha=>p (.tup ds) (.ref a) h1 _ (k1.trans (.new ha)) (rh1.new ha) ⟨a,vs,rfl,jz,r1.mono (.new ha)⟩ q⟩
theorem Ey {t:TAD}: ∀σ H Q,LE K (Ap t) σ H Q->Ku (LA K t) σ H Q:=λσ H Q ⟨σd,h,Qd,rs,rh,t,p⟩=>
 LA.bind rs rh t λds vs h1 H1 k1 rs1 rh1 r1 ⟨z,q⟩=>⟨by rw [<-r1.length];exact z,λa ha=>p (.lst a) (.ref a) _ _ (k1.trans (.new ha)) (rh1.newL ha r1) ⟨rfl,vs,jz⟩ (q a (rh1.free ha))⟩
theorem Ez {r:RDn}{t:TAD}: ∀σ H Q,LE K (dCB r t) σ H Q->tCB (LC K r) (LA K t) σ H Q:=λσ H Q ⟨σd,h,Qd,rs,rh,t,p⟩=>
 LA.bind rs rh t λds vs h1 H1 k1 rs1 rh1 r1 q=>⟨ds,h1,Qd,r1,rh1,q,jK p k1⟩
theorem RL {t:TED}: ∀σ H Q,LT K (Zc t) σ H Q->Le (LE K t) σ H Q:=λσ H Q ⟨σd,h,Qd,rs,rh,t,p⟩=>
 LE.bind rs rh t λd v h1 H1 k1 rs1 rh1 r1 ⟨k,e,q⟩=>by subst e;exact⟨k,r1,p k h1 H1 k1 rh1 q⟩
theorem BN {t:TED}: ∀σ H Q,LT K (Zc t) σ H Q->tB (LE K t) σ H Q:=λσ H Q ⟨σd,h,Qd,rs,rh,t,p⟩=>
 LE.bind rs rh t λd v h1 H1 k1 rs1 rh1 r1 ⟨k,e,q⟩=>by subst e;exact⟨k,r1,p k h1 H1 k1 rh1 q⟩
theorem Pp {r r':RD2}{tc:TED}: ∀σ H Q,LE K (WU r r' ta tb tc) σ H Q->Rw (LR K r) (LR K r') (LE K ta) (LE K tb) (LE K tc) σ H Q:=λσ H Q ⟨σd,h,Qd,rs,rh,t,p⟩=>
 LE.bind rs rh t λd v h1 H1 k1 rs1 rh1 r1 t1=>LE.bind rs1 rh1 t1 λd2 v2 h2 H2 k2 rs2 rh2 r2 t2=>⟨d,d2,h2,_,r1.mono k2,r2,rh2,t2,λd3 v3 h3 H3 k3 rh3 r3 ⟨k,e,q⟩=>by
  subst e;refine⟨k,r3,?_⟩;cases k with
  |true=>
   rw [if_pos rfl] at q ⊢;exact LE.bind (rs2.mono k3) rh3 q λd4 v4 h4 H4 k4 rs4 rh4 r4 t4=>⟨d2,d4,h4,Qd,(r2.mono k3).mono k4,r4,rh4,t4,jK p (k1.trans (k2.trans (k3.trans k4)))⟩
  |false=>
   rw [if_neg P4] at q ⊢;exact p (.bl false) _ h3 H3 (k1.trans (k2.trans k3)) rh3 rfl q⟩
variable {t:TTD}
theorem EA {u:TTD}: ∀σ H Q,LT K (Lv t u) σ H Q->Ke (LT K t) (LT K u) σ H Q:=λσ H Q ⟨σd,h,Qd,rs,rh,t,p⟩=>
 LT.bind rs rh t λb h1 H1 k1 rs1 rh1 q=>by
  cases b with
  |true=>rw [if_pos rfl] at q ⊢;exact⟨σd,h1,Qd,rs1,rh1,q,λb h' H' k=>p b h' H' (k1.trans k)⟩
  |false=>rw [if_neg P4] at q ⊢;exact p _ _ _ k1 rh1 q
theorem He {u:TTD}: ∀σ H Q,LT K (Eu t u) σ H Q->tOr (LT K t) (LT K u) σ H Q:=λσ H Q ⟨σd,h,Qd,rs,rh,t,p⟩=>
 LT.bind rs rh t λb h1 H1 k1 rs1 rh1 q=>by
  cases b with
  |true=>rw [if_pos rfl] at q ⊢;exact p _ _ _ k1 rh1 q
  |false=>rw [if_neg P4] at q ⊢;exact⟨σd,h1,Qd,rs1,rh1,q,λb h' H' k=>p b h' H' (k1.trans k)⟩
theorem EB: ∀σ H Q,LT K (RK t) σ H Q->Kf (LT K t) σ H Q:=λσ H Q ⟨σd,h,Qd,rs,rh,t,p⟩=>
 LT.bind rs rh t λb h1 H1 k1 rs1 rh1 q=>p _ _ _ k1 rh1 q
theorem EC: ∀σ H Q,LE K (BL ta tb) σ H Q->AI (LE K ta) (LE K tb) σ H Q:=λσ H Q ⟨σd,h,Qd,rs,rh,t,p⟩=>
 LE.bind rs rh t λd v h1 H1 k1 rs1 rh1 r1 ⟨c,e,q⟩=>by
  subst e;refine⟨c,r1,?_⟩;cases c with
  |true=>rw [if_pos rfl] at q ⊢;exact⟨σd,h1,Qd,rs1,rh1,q,jK p k1⟩
  |false=>rw [if_neg P4] at q ⊢;exact p (.bl false) _ _ _ k1 rh1 rfl q
theorem Hf: ∀σ H Q,LE K (Hd ta tb) σ H Q->Kg (LE K ta) (LE K tb) σ H Q:=λσ H Q ⟨σd,h,Qd,rs,rh,t,p⟩=>
 LE.bind rs rh t λd v h1 H1 k1 rs1 rh1 r1 ⟨c,e,q⟩=>by
  subst e;refine⟨c,r1,?_⟩;cases c with
  |true=>rw [if_pos rfl] at q ⊢;exact p (.bl true) _ _ _ k1 rh1 rfl q
  |false=>rw [if_neg P4] at q ⊢;exact⟨σd,h1,Qd,rs1,rh1,q,jK p k1⟩
theorem ED: ∀σ H Q,LE K (BM ta) σ H Q->AJ (LE K ta) σ H Q:=λσ H Q ⟨σd,h,Qd,rs,rh,t,p⟩=>
 LE.bind rs rh t λd v h1 H1 k1 rs1 rh1 r1 ⟨c,e,q⟩=>by subst e;exact⟨c,r1,p (.bl (!c)) _ _ _ k1 rh1 rfl q⟩
theorem Hg: ∀σ H Q,LE K (dIf t ta tb) σ H Q->tIf (LT K t) (LE K ta) (LE K tb) σ H Q:=λσ H Q ⟨σd,h,Qd,rs,rh,t,p⟩=>
 LT.bind rs rh t λb h1 H1 k1 rs1 rh1 q=>by
  cases b with
  |true=>rw [if_pos rfl] at q ⊢;exact⟨σd,h1,Qd,rs1,rh1,q,jK p k1⟩
  |false=>rw [if_neg P4] at q ⊢;exact⟨σd,h1,Qd,rs1,rh1,q,jK p k1⟩
end
abbrev QE (X:Cx)(e:Expr)(t:TED):Prop:=PE X e (LE X.K t)
abbrev QT (X:Cx)(e:Expr)(t:TTD):Prop:=PT X e (LT X.K t)
abbrev QW (X:Cx)(e:Expr)(t:TTD):Prop:=PW X e (LT X.K t)
abbrev QA (X:Cx)(es:List Expr)(t:TAD):Prop:=PA X es (LA X.K t)
abbrev QS (X:Cx)(s:Stmt)(t:TSD):Prop:=PS X s (LS X.K t)
abbrev QSs (X:Cx)(s:List Stmt)(t:TSD):Prop:=PSs X s (LS X.K t)
abbrev QG (X:Cx)(e:Expr)(t:TGD):Prop:=PG X e (LG X.K t)
abbrev OpQ (X:Cx)(f:Value->Value->Sem Value)(r:RD2):Prop:=OpR X f (LR X.K r)
abbrev Jf (X:Cx)(f:Value)(r:RDn):Prop:=CallR X f (LC X.K r)
section
variable {X:Cx}{a b c e:Expr}{es rest:List Expr}{ta tb tc te:TED}{t u:TAD}{tt tu:TTD}{pos:Pos}{f r r':RD2}
theorem qv (i:Nat){x:Str}(hN:X.N[i]? =some x:=by rfl)(hv:Vis X.env.scope x:=by first|exact Or.inl rfl|exact Or.inr (Or.inl rfl)|exact Or.inr (Or.inr rfl))(hd:(x==("__debug__" :Str))=false:=by decide)
 (hcd:(x==("__classdict__" :Str))=false:=by decide):QE X (.Name x pos) (BK i):=(Fo hN hv hd hcd).imp (Ev i)
theorem kc {i:Int}{j:Nat}:QE X (.Constant (.int i) j pos) (dC (.int i)):=pe_int.imp (Tl λ_=>rfl)
theorem qbl {i:Bool}{j:Nat}:QE X (.Constant (.bool i) j pos) (dC (.bl i)):=pe_bl.imp (Tl λ_=>rfl)
theorem ke {j:Nat}:QE X (.Constant .none j pos) (dC .non):=pe_non.imp (Tl λ_=>rfl)
theorem Hh {x:Str}{i:Int}{tk:Tok}(hg:Gl X x)(hm:X.mg x=some (.int i tk))(hd:(x==("__debug__" :Str))=false:=by decide):QE X (.Name x pos) (dC (.int i)):=
 (FU (v:= .int i) hg hm ⟨tk,rfl⟩ hd).imp (Tl λ_=>rfl)
theorem qop {op:Operator}(ho:OpQ X (binaryOp op) f)(ha:QE X a ta)(hb:QE X b tb):QE X (.BinOp a op b pos) (dOp f ta tb):=(TL ho ha hb).imp Lw
variable {op:CmpOp}
theorem kf (ho:OpQ X (compareOp op) f)(ha:QE X a ta)(hb:QE X b tb)(hm:behindInMarks op b=false):QE X (.Compare a [op] [b] pos) (dOp f ta tb):=(Ld ho ha hb hm).imp Lw
theorem Hi (ho:OpQ X (compareOp op) f)(ha:QE X a ta)(hb:QE X b tb)(hm:behindInMarks op b=false):QT X (.Compare a [op] [b] pos) (Zc (dOp f ta tb)):=
 (Lg ho ha hb hm).imp λσ H Q h=>by
  obtain⟨σd,h,Qd,rs,rh,t,p⟩:=RL (t:=dOp f ta tb) σ H Q h;exact Lw σ H _ ⟨σd,h,Qd,rs,rh,t,p⟩
theorem EE {op':CmpOp}(ho:OpQ X (compareOp op) r)(ho':OpQ X (compareOp op') r')(ha:QE X a ta)(hb:QE X b tb)(hc:QE X c tc)(hm:lastMarks [op,op'] [b,c]=false:=by with_unfolding_all rfl):
 QE X (.Compare a [op,op'] [b,c] pos) (WU r r' ta tb tc):=(BB ho ho' ha hb hc hm).imp Pp
theorem Ly {op':CmpOp}(ho:OpQ X (compareOp op) r)(ho':OpQ X (compareOp op') r')(ha:QE X a ta)(hb:QE X b tb)(hc:QE X c tc)(hm:lastMarks [op,op'] [b,c]=false:=by with_unfolding_all rfl):
 QT X (.Compare a [op,op'] [b,c] pos) (Zc (WU r r' ta tb tc)):=(BC ho ho' ha hb hc hm).imp λσ H Q h=>by
 obtain⟨σd,h,Qd,rs,rh,t,p⟩:=RL (t:=WU r r' ta tb tc) σ H Q h;exact Pp σ H _ ⟨σd,h,Qd,rs,rh,t,p⟩
theorem Hj (ha:QE X a ta)(he: ∀whole,isTrue a X.env whole=(do let v <-whole;standAt a.pos;holding [v] (truthy v)):=by intro _;rfl):QT X a (Zc ta):=(AE ha he).imp BN
theorem Hk (ha:QT X a tt):QW X (.BoolOp .And [a] pos) tt:=FW ha
theorem kg (ha:QT X a tt):QW X (.BoolOp .Or [a] pos) tt:=AF ha
theorem Hl (ha:QT X a tt)(hb:QW X (.BoolOp .And (b::rest) pos) tu):QW X (.BoolOp .And (a::b::rest) pos) (Lv tt tu):=(AG ha hb).imp EA
theorem kh (ha:QT X a tt)(hb:QW X (.BoolOp .Or (b::rest) pos) tu):QW X (.BoolOp .Or (a::b::rest) pos) (Eu tt tu):=(TB ha hb).imp He
theorem Hm (ha:QT X a tt):QT X (.UnaryOp .Not a pos) (RK tt):=(AH ha).imp EB
theorem ki {op:BoolOp}(ha:QE X a ta):QE X (.BoolOp op [a] pos) ta:=AK ha
theorem kj (ha:QE X a ta)(hb:QE X (.BoolOp .And (b::rest) pos) tb):QE X (.BoolOp .And (a::b::rest) pos) (BL ta tb):=(AL ha hb).imp EC
theorem qor (ha:QE X a ta)(hb:QE X (.BoolOp .Or (b::rest) pos) tb):QE X (.BoolOp .Or (a::b::rest) pos) (Hd ta tb):=(TC ha hb).imp Hf
theorem kl (ha:QE X a ta):QE X (.UnaryOp .Not a pos) (BM ta):=(AM ha).imp ED
theorem qif {c:Expr}(hc:QT X c tt)(ha:QE X a ta)(hb:QE X b tb):QE X (.IfExp c a b pos) (dIf tt ta tb):=(By hc ha hb).imp Hg
theorem EF:QA X [] WE:=pa_nil.imp Ew
theorem Lz (ha:QE X e te)(hr:QA X es t)(hs:starEach (e::es) X.env=(false,eval e X.env)::starEach es X.env:=by rfl):QA X (e::es) (wC te t):=(vo ha hr hs).imp Lx
theorem km {k:Nat}(h:QA X es t):QE X (.Tuple es k pos) (Hc t):=(Eg h).imp Ex
theorem kq (h:QA X es t):QE X (.List es pos) (Ap t):=(Eh h).imp Ey
end
def Dj:TSD:=λD σ h=>D.nx σ h
def Bi (t u:TSD):TSD:=λD σ h=>t {D with nx:=u D} σ h
def LB (te:TED):TSD:=λD σ h=>te σ h λ_ h1=>D.nx σ h1
def BO (te:TED):TSD:=λD σ h=>te σ h D.rt
def BP (c:TTD)(t u:TSD):TSD:=λD σ h=>c σ h λb h1=>if b=true then t D σ h1 else u D σ h1
def Bj (i:Nat)(te:TED):TSD:=λD σ h=>te σ h λd h1=>D.nx (σ.set i (some d)) h1
def Hn (te:TED)(g:TGD):TSD:=λD σ h=>te σ h λx h1=>g x σ h1 D.nx
def Ho (i j:Nat)(ta:TAD):TSD:=λD σ h=>ta σ h λds h1=> ∃v w,ds= [v,w]/\D.nx ((σ.set i (some v)).set j (some w)) h1
def gN (i:Nat):TGD:=λd σ h Q=>Q (σ.set i (some d)) h
def gT2 (i j:Nat):TGD:=λd σ h Q=> ∃x y,d= .tup [x,y]/\Q ((σ.set i (some x)).set j (some y)) h
section
variable {K:PySem.W.Frag}
theorem LS.of {t:TSD}{D₀:Ends}{σ:St}{H:Hp}{σd:SD}{h:HD}{Dd:EndsD}(rs:RelS K H σd σ)(rh:RelH K h H)(q:t Dd σd h)
 (nx: ∀σd' h' σ' H',Kept H H'->RelS K H' σd' σ'->RelH K h' H'->Dd.nx σd' h'->D₀.nx σ' H')(rt:Lu K H Dd.rt D₀.rt)
 (bk: ∀σd' h' σ' H',Kept H H'->RelS K H' σd' σ'->RelH K h' H'->Dd.bk σd' h'->D₀.bk σ' H')(ct: ∀σd' h' σ' H',Kept H H'->RelS K H' σd' σ'->RelH K h' H'->Dd.ct σd' h'->D₀.ct σ' H'):LS K t D₀ σ H:=⟨σd,h,Dd,rs,rh,q,nx,rt,bk,ct⟩
theorem LD: ∀D σ H,LS K Dj D σ H->AN D σ H:=λD σ H ⟨σd,h,Dd,rs,rh,q,nx,_⟩=>nx σd h σ H (.refl H) rs rh q
theorem EG {t u:TSD}: ∀D σ H,LS K (Bi t u) D σ H->Kh (LS K t) (LS K u) D σ H:=λD σ H ⟨σd,h,Dd,rs,rh,q,nx,rt,bk,ct⟩=>
 LS.of rs rh q (λσd' h' σ' H' k rs' rh' q'=>⟨σd',h',Dd,rs',rh',q',λa b c d k'=>nx a b c d (k.trans k'),jK rt k,λa b c d k'=>bk a b c d (k.trans k'),λa b c d k'=>ct a b c d (k.trans k')⟩) rt bk ct
variable {te:TED}
theorem LF: ∀D σ H,LS K (LB te) D σ H->AO (LE K te) D σ H:=λD σ H ⟨σd,h,Dd,rs,rh,q,nx,rt,bk,ct⟩=>
 LE.bind rs rh q λd v h1 H1 k1 rs1 rh1 r1 q1=>nx _ _ _ _ k1 rs1 rh1 q1
theorem EH: ∀D σ H,LS K (BO te) D σ H->Ki (LE K te) D σ H:=λD σ H ⟨σd,h,Dd,rs,rh,q,nx,rt,bk,ct⟩=>⟨σd,h,Dd.rt,rs,rh,q,rt⟩
theorem Hq {c:TTD}{t u:TSD}: ∀D σ H,LS K (BP c t u) D σ H->Kj (LT K c) (LS K t) (LS K u) D σ H:=λD σ H ⟨σd,h,Dd,rs,rh,q,nx,rt,bk,ct⟩=>
 LT.bind rs rh q λb h1 H1 k rs1 rh1 q1=>by
  cases b with
  |true=>rw [if_pos rfl] at q1 ⊢;exact⟨σd,h1,Dd,rs1,rh1,q1,λa b c d k'=>nx a b c d (k.trans k'),jK rt k,λa b c d k'=>bk a b c d (k.trans k'),λa b c d k'=>ct a b c d (k.trans k')⟩
  |false=>rw [if_neg P4] at q1 ⊢;exact⟨σd,h1,Dd,rs1,rh1,q1,λa b c d k'=>nx a b c d (k.trans k'),jK rt k,λa b c d k'=>bk a b c d (k.trans k'),λa b c d k'=>ct a b c d (k.trans k')⟩
theorem RM {i:Nat}: ∀D σ H,LS K (Bj i te) D σ H->Fq (LE K te) (vg i) D σ H:=λD σ H ⟨σd,h,Dd,rs,rh,q,nx,rt,bk,ct⟩=>
 LE.bind rs rh q λd v h1 H1 k1 rs1 rh1 r1 q1=>nx _ _ _ _ k1 (rs1.set r1 i) rh1 q1
theorem EI {g:TGD}: ∀D σ H,LS K (Hn te g) D σ H->Fq (LE K te) (LG K g) D σ H:=λD σ H ⟨σd,h,Dd,rs,rh,q,nx,rt,bk,ct⟩=>
 LE.bind rs rh q λd v h1 H1 k1 rs1 rh1 r1 q1=>⟨d,σd,h1,_,r1,rs1,rh1,q1,λa b c e k'=>nx a b c e (k1.trans k')⟩
theorem EJ {i j:Nat}{ta:TAD}: ∀D σ H,LS K (Ho i j ta) D σ H->Kl i j (LA K ta) D σ H:=λD σ H ⟨σd,h,Dd,rs,rh,q,nx,rt,bk,ct⟩=>
 LA.bind rs rh q λds vs h1 H1 k1 rs1 rh1 r1 ⟨x,y,e,q1⟩=>by
  subst e;obtain⟨v,r,e,r2,r3⟩:=(show ∃v r,vs=v::r/\RelD K H1 x v/\RelDs K H1 [y] r from r1);obtain⟨w,r',e',r4,r5⟩:=(show ∃v r',r=v::r'/\RelD K H1 y v/\RelDs K H1 [] r' from r3);cases (show r'= [] from r5);subst e' e;exact⟨v,w,rfl,nx _ _ _ _ k1 ((rs1.set r2 i).set r4 j) rh1 q1⟩
theorem LH (i:Nat): ∀v σ H Q,LG K (gN i) v σ H Q->vg i v σ H Q:=λv σ H Q ⟨d,σd,h,Qd,r,rs,rh,q,p⟩=>p _ _ _ _ (.refl H) (rs.set r i) rh q
theorem yF {H:Hp}{x y:D}{vs:List V}(r:RelDs K H [x,y] vs): ∃v w,vs= [v,w]/\RelD K H x v/\RelD K H y w:=by
 obtain⟨v,r1,e,r2,r3⟩:=(show ∃v r,vs=v::r/\RelD K H x v/\RelDs K H [y] r from r);obtain⟨w,z,e',r4,r5⟩:=(show ∃v z,r1=v::z/\RelD K H y v/\RelDs K H [] z from r3);cases (show z= [] from r5);subst e' e;exact⟨v,w,rfl,r2,r4⟩
theorem jH {H:Hp}{x:D}{vs:List V}(r:RelDs K H [x] vs): ∃v,vs= [v]/\RelD K H x v:=by
 obtain⟨v,r1,e,r2,r3⟩:=(show ∃v r,vs=v::r/\RelD K H x v/\RelDs K H [] r from r);cases (show r1= [] from r3);exact⟨v,e,r2⟩
theorem EK (i j:Nat): ∀v σ H Q,LG K (gT2 i j) v σ H Q->TJ K 2 (Ro (vg i) (Ro (vg j) TH)) v σ H Q:=λv σ H Q ⟨d,σd,h,Qd,r,rs,rh,⟨x,y,e,q⟩,p⟩=>by
 subst e;obtain⟨a,vs,e,hH,r1⟩:=(show ∃a vs,v= .ref a/\H a=some (.tup vs)/\RelDs K H [x,y] vs from r);obtain⟨v1,v2,e1,r2,r3⟩:=yF r1;subst e e1;exact⟨a,[v1,v2],rfl,SqT.of hH,rfl,v1,[v2],rfl,v2,[],rfl,rfl,p _ _ _ _ (.refl H) ((rs.set r2 i).set r3 j) rh q⟩
end
section
variable {X:Cx}{st:Stmt}{sts:List Stmt}{t u:TSD}{e:Expr}{te:TED}{pos:Pos}
theorem EL:QSs X [] Dj:=pss_nil.imp LD
theorem LJ (h1:QS X st t)(h2:QSs X sts u):QSs X (st::sts) (Bi t u):=(Bz h1 h2).imp EG
theorem EM (h1:QS X st t):QSs X [st] t:=FX h1
theorem Hr (he:QE X e te)(hs:swapsWith e none pos.line X.env=pure false:=by rfl):QS X (.Expr e pos) (LB te):=(FY he hs).imp LF
theorem kr (he:QE X e te):QS X (.Return (some e) pos) (BO te):=(AQ he).imp EH
theorem ku {c:Expr}{a b:List Stmt}{tc:TTD}(hc:QT X c tc)(ha:QSs X a t)(hb:QSs X b u):QS X (.If c a b pos) (BP tc t u):=(TD hc ha hb).imp Hq
variable {i:Nat}{x:Str}
theorem kG {pos':Pos}(hN:X.N.Nodup)(hi:X.N[i]? =some x)(hx:Loc X.env.scope x)(he:QE X e te)(hs:swapsWith e (some (.Name x pos')) pos.line X.env=pure false:=by rfl)
 (hf:X.fn x=true\/X.env.scope.names.lookup x=some .local:=by first|exact .inl rfl|exact .inr rfl|assumption):QS X (.Assign [.Name x pos'] e pos) (Bj i te):=(AT hN hi hx he hs hf).imp RM
theorem LK (hN:X.N.Nodup)(hi:X.N[i]? =some x)(hx:Loc X.env.scope x)(hf:X.fn x=true\/X.env.scope.names.lookup x=some .local:=by first|exact .inl rfl|exact .inr rfl|assumption):QG X (.Name x pos) (gN i):=
 (Jt hN hi hx hf).imp (LH i)
theorem EN {j:Nat}{y:Str}{p1 p2:Pos}{k:Nat}(hc:X.calm=true)(hN:X.N.Nodup)(hi:X.N[i]? =some x)(hj:X.N[j]? =some y)(hx:Loc X.env.scope x)(hy:Loc X.env.scope y)
 (hf:X.fn x=true\/X.env.scope.names.lookup x=some .local:=by first|exact .inl rfl|exact .inr rfl|assumption)(hf2:X.fn y=true\/X.env.scope.names.lookup y=some .local:=by first|exact .inl rfl|exact .inr rfl|assumption):
 QG X (.Tuple [.Name x p1,.Name y p2] k pos) (gT2 i j):=(Fp hc (WB (Jt hN hi hx hf) (WB (Jt hN hj hy hf2) Rq))).imp (EK i j)
theorem kH {tg:Expr}{g:TGD}(he:QE X e te)(hg:QG X tg g)(hs:swapsWithSole [tg] e pos.line X.env=pure false:=by rfl)(hsw:swappedStores [tg] e X.env=pure none:=by rfl)
 (h1:(assignEach [tg] X.env).map (·.2)= [assign tg X.env]:=by rfl):QS X (.Assign [tg] e pos) (Hn te g):=(AS he hg hs hsw h1).imp EI
theorem kI {j:Nat}{y:Str}{a b:Expr}{ta:TAD}{px py pt:Pos}{kt k2 pt2}(hc:X.calm=true)(hN:X.N.Nodup)(hi:X.N[i]? =some x)(hj:X.N[j]? =some y)(hij:i≠j)
 (hx:X.env.scope.names.lookup x=some .local)(hy:X.env.scope.names.lookup y=some .local)(ha:QA X [a,b] ta)
 (hw:swappedStores [.Tuple [.Name x px,.Name y py] kt pt] (.Tuple [a,b] k2 pt2) X.env=pure (some [x,y]))
 (hs:swapsWithSole [.Tuple [.Name x px,.Name y py] kt pt] (.Tuple [a,b] k2 pt2) pos.line X.env=pure false:=by rfl):
 QS X (.Assign [.Tuple [.Name x px,.Name y py] kt pt] (.Tuple [a,b] k2 pt2) pos) (Ho i j ta):=(AU hc hN hi hj hij hx hy ha hw hs).imp EJ
end
abbrev ItD:=HD->Option (List D)
def Fw (K:PySem.W.Frag)(H:Hp)(j:ItD)(J:It):Prop:= ∀H' h',Kept H H'->RelH K h' H'-> ∀ds,j h'=some ds-> ∀i:Nat,
 (∀d,ds[i]? =some d->J.go i H'/\ ∀x H'',J.yld i H' x H''->Kept H' H''/\RelH K h' H''/\RelD K H'' d x)/\(ds.length<=i->J.stop i H')
abbrev TID:=SD->HD->(ItD->HD->Prop)->Prop
def LI (K:PySem.W.Frag)(t:TID):TI:=λσ H R=> ∃σd h Rd,RelS K H σd σ/\RelH K h H/\t σd h Rd/\ ∀j J h' H',Kept H H'->RelH K h' H'->Fw K H' j J->Rd j h'->R J H'
abbrev QI (X:Cx)(tg iter:Expr)(t:TID):Prop:=PI X tg iter (LI X.K t)
theorem PI.imp {X:Cx}{tg e:Expr}{t t':TI}(h:PI X tg e t)(i: ∀σ H R,t' σ H R->t σ H R):PI X tg e t':=λpins s σ H R I q=>h pins s σ H R I (i σ H R q)
def iL (te:TED):TID:=λσ h R=>te σ h λx h1=> ∃a,x= .lst a/\R (λh=>h a) h1
def iR1 (ta:TAD):TID:=λσ h R=>ta σ h λds h1=> ∃n:Int,ds= [.int n]/\ -(2^62)<=n/\n<2^62/\R (λ_=>some ((List.range n.toNat).map λ(k:Nat)=>D.int (k:Int))) h1
def iR2 (ta:TAD):TID:=λσ h R=>ta σ h λds h1=> ∃m n:Int,ds= [.int m,.int n]/\(-(2^62)<=m/\m<2^62/\ -(2^62)<=n/\n<2^62)/\R (λ_=>some ((List.range (n-m).toNat).map λ(k:Nat)=>D.int (m+(k:Int)))) h1
section
variable {K:PySem.W.Frag}
theorem Xu (H:Hp)(a:Addr):Fw K H (λh=>h a) (Itl K a):=λH' h' k rh ds e i=>by
 obtain⟨vs,hv,r⟩:=rh a ds e;refine⟨λd hd=> ?_,λhl=>⟨vs,SqL.of hv,by rw [<-r.length];exact hl⟩⟩;obtain⟨v,e1,e2⟩:=r.get hd;refine⟨⟨vs,v,SqL.of hv,e1⟩,λx H'' ⟨eH,hx⟩=> ?_⟩;subst eH;have:=hx vs (SqL.of hv);rw [e1] at this;cases this;exact⟨.refl _,rh,e2⟩
theorem BQ {H:Hp}{a:Addr}{vs:List V}{ds:List D}(hv:H a=some (.tup vs))(r:RelDs K H ds vs):Fw K H (λ_=>some ds) (Itt K a):=λH' h' k rh ds' e i=>by
 cases e;have hv':=k.tup _ _ hv;have r':=r.mono k;refine⟨λd hd=> ?_,λhl=>⟨vs,SqT.of hv',by rw [<-r.length];exact hl⟩⟩;obtain⟨v,e1,e2⟩:=r'.get hd;refine⟨⟨vs,v,SqT.of hv',e1⟩,λx H'' ⟨eH,hx⟩=> ?_⟩;subst eH;have:=hx vs (SqT.of hv');rw [e1] at this;cases this;exact⟨.refl _,rh,e2⟩
theorem Vq (H:Hp)(lo:Int)(n:Nat)(ds:List D)(hd:ds=(List.range n).map λ(k:Nat)=>D.int (lo+(k:Int))):Fw K H (λ_=>some ds) (Itr lo n):=λH' h' k rh ds' e i=>by
 cases e;subst hd;refine⟨λd hd=> ?_,λhl=>(show n<=i by simpa using hl)⟩;rw [P1] at hd;have hi:i<n:=by
  by_cases z:i<n
  ·exact z
  ·rw [N2 (by simpa using z)] at hd;cases hd
 rw [C5 hi] at hd;cases hd;refine⟨hi,λx H'' ⟨eH,hx⟩=> ?_⟩;subst eH hx;exact⟨.refl _,rh,rfl⟩
theorem LL {te:TED}: ∀σ H R,LI K (iL te) σ H R->AX K (LE K te) σ H R:=λσ H R ⟨σd,h,Rd,rs,rh,q,p⟩=>
 LE.bind rs rh q λd v h1 H1 k1 rs1 rh1 r1 ⟨a,e,q1⟩=>by
  subst e;obtain⟨e,vs,hv⟩:=(show v= .ref a/\ ∃vs,H1 a=some (.lst vs) from r1);exact⟨a,e,⟨vs,SqL.of hv⟩,p _ _ _ _ k1 rh1 (Xu H1 a) q1⟩
theorem Hs {ta:TAD}: ∀σ H R,LI K (iR1 ta) σ H R->AY (LA K ta) σ H R:=λσ H R ⟨σd,h,Rd,rs,rh,q,p⟩=>
 LA.bind rs rh q λds vs h1 H1 k1 rs1 rh1 r1 ⟨n,e,b1,b2,q1⟩=>by
  subst e;obtain⟨v,e,r2⟩:=jH r1;cases (show v= .int n from r2);exact⟨n,e,b1,b2,p _ _ _ _ k1 rh1 (Vq H1 0 n.toNat _ (by simp)) q1⟩
theorem Ht {ta:TAD}: ∀σ H R,LI K (iR2 ta) σ H R->AZ (LA K ta) σ H R:=λσ H R ⟨σd,h,Rd,rs,rh,q,p⟩=>
 LA.bind rs rh q λds vs h1 H1 k1 rs1 rh1 r1 ⟨m,n,e,b,q1⟩=>by
  subst e;obtain⟨v,w,e,r2,r3⟩:=yF r1;cases (show v= .int m from r2);cases (show w= .int n from r3);exact⟨m,n,e,b,p _ _ _ _ k1 rh1 (Vq H1 m (n-m).toNat _ rfl) q1⟩
end
def Aq (ti:TID)(g:TGD)(tb:TSD):TSD:=λD σ h=>ti σ h λj h1=> ∃ (n:Nat) (W:Nat->SD->HD->Prop),W 0 σ h1/\ ∀i σ' h',W i σ' h'-> ∃ds,j h'=some ds/\ds.length<=n/\(ds.length<=i->D.nx σ' h')/\
 ∀d,ds[i]? =some d->g d σ' h' λσ2 h2=>tb {D with nx:=λσ3 h3=> ∃h4,Sub h4 h3/\W (i+1) σ3 h4,ct:=λσ3 h3=> ∃h4,Sub h4 h3/\W (i+1) σ3 h4,bk:=D.nx} σ2 h2
theorem EO {K:PySem.W.Frag}{ti:TID}{g:TGD}{tb:TSD}: ∀D σ H,LS K (Aq ti g tb) D σ H->Kn (LI K ti) (LG K g) (LS K tb) D σ H:=λD σ H ⟨σd,h,Dd,rs,rh,q,nx,rt,bk,ct⟩=>by
 refine⟨σd,h,_,rs,rh,q,λj J h1 H1 k1 rh1 jo ⟨n,W,w0,turn⟩=> ?_⟩;refine⟨λi m σ' H'=>m=n-i/\Kept H1 H'/\ ∃σd' h',RelS K H' σd' σ'/\RelH K h' H'/\W i σd' h',⟨n-0,rfl,.refl _,σd,h1,rs.mono k1,rh1,w0⟩,?_⟩;rintro i m σ' H' ⟨rfl,kp,σd',h',rs',rh',w⟩;obtain⟨ds,ej,hn,stop,go⟩:=turn i σd' h' w;have jo':=jo H' h' kp rh' ds ej i
 by_cases hi:i<ds.length
 ·obtain⟨g1,y1⟩:=jo'.1 ds[i] (G0 hi);refine .inr ⟨g1,λσ2 H2=>Kept H1 H2/\ ∃σd2 h2,RelS K H2 σd2 σ2/\RelH K h2 H2/\W (i+1) σd2 h2,λσ2 H2 ⟨k2,a,b,c,d,e⟩=>⟨n-(i+1),by omega,rfl,k2,a,b,c,d,e⟩,λx H'' y=> ?_⟩;obtain⟨k2,rh2,r2⟩:=y1 x H'' y;refine⟨ds[i],σd',h',_,r2,rs'.mono k2,rh2,go ds[i] (G0 hi),λσd3 h3 σ3 H3 k3 rs3 rh3 q3=> ?_⟩;have kk:Kept H H3:=k1.trans (kp.trans (k2.trans k3));have kk1:Kept H1 H3:=kp.trans (k2.trans k3);exact⟨σd3,h3,_,rs3,rh3,q3,λa b c d k4 rs4 rh4 ⟨h4,sb,w4⟩=>⟨kk1.trans k4,a,h4,rs4,rh4.sub sb,w4⟩,jK rt kk,λa b c d k4 rs4 rh4 q4=>nx a b c d (kk.trans k4) rs4 rh4 q4,λa b c d k4 rs4 rh4 ⟨h4,sb,w4⟩=>⟨kk1.trans k4,a,h4,rs4,rh4.sub sb,w4⟩⟩
 ·exact .inl ⟨jo'.2 (J7.mp hi),nx _ _ _ _ (k1.trans kp) rs' rh' (stop (J7.mp hi))⟩
def WV:TTD:=λ_ h Q=>Q true h
def yj (bind:D->SD->SD->Prop)(js:List Nat)(ti:TID)(tt:TTD)(te:TED):TED:=λσ h Q=>ti σ h λj h1=> ∃ (n:Nat) (W:Nat->List D->HD->Prop),W 0 [] h1/\ ∀i ys h',W i ys h'->ys.length<=sizeLine/\
 ∃ds,j h'=some ds/\ds.length<=n/\(ds.length<=i-> ∀p,h' p=none->Q (.lst p) (zN h' p ys))/\
  ∀d,ds[i]? =some d-> ∃σ2,bind d (jO js σ) σ2/\tt σ2 h' λb h3=>if b=true then te σ2 h3 λy h4=> ∃h5,Sub h5 h4/\W (i+1) (ys++ [y]) h5 else ∃h5,Sub h5 h3/\W (i+1) ys h5
def bN (i:Nat):D->SD->SD->Prop:=λd σ σ2=>σ2=σ.set i (some d)
def b2 (i j:Nat):D->SD->SD->Prop:=λd σ σ2=> ∃x y,d= .tup [x,y]/\σ2=(σ.set i (some x)).set j (some y)
theorem EQ {K:PySem.W.Frag}: ∀σ H Q,LT K WV σ H Q->Ky σ H Q:=λσ H Q ⟨σd,h,Qd,rs,rh,q,p⟩=>p true h H (.refl H) rh q
def RN (K:PySem.W.Frag)(js:List Nat)(bind:D->SD->SD->Prop)(g:TG):Prop:= ∀ (σ:St) (σd σd2:SD) (H:Hp) (d:D) (v:V) (Q:St->Hp->Prop),RelS K H (jO js σd) (wJ js σ)->RelD K H d v->bind d (jO js σd) σd2->
 (∀σ2,Agree (wJ js σ) σ2->RelS K H σd2 σ2->Q σ2 H)->g v (wJ js σ) H Q
theorem ER {K:PySem.W.Frag}{js:List Nat}{i:Nat}(hi:i∈js):RN K js (bN i) (vg i):=λσ σd σd2 H d v Q rs r b q=>by
 cases (show σd2=_ from b);exact q _ (.set v λu=>zR js σ i u hi) (rs.set r i)
theorem Hu {K:PySem.W.Frag}{js:List Nat}{i j:Nat}(hi:i∈js)(hj:j∈js)(hij:i≠j):RN K js (b2 i j) (TJ K 2 (Ro (vg i) (Ro (vg j) TH))):=λσ σd σd2 H d v Q rs r b q=>by
 obtain⟨x,y,e,e2⟩:=b;subst e e2;obtain⟨a,vs,e,hH,r1⟩:=(show ∃a vs,v= .ref a/\H a=some (.tup vs)/\RelDs K H [x,y] vs from r);obtain⟨v1,v2,e1,r2,r3⟩:=yF r1;subst e e1;refine⟨a,[v1,v2],rfl,SqT.of hH,rfl,v1,[v2],rfl,v2,[],rfl,rfl,q _ (.trans (.set v1 λu=>zR js σ i u hi) (.set v2 λu z=> ?_)) ((rs.set r2 i).set r3 j)⟩;rw [F4 hij] at z;exact zR js σ j u hj z
theorem LM {K:PySem.W.Frag}{bind:D->SD->SD->Prop}{js:List Nat}{ti:TID}{tt:TTD}{te:TED}{g:TG}(hb:RN K js bind g): ∀σ H Q,LE K (yj bind js ti tt te) σ H Q->tLC js (LI K ti) g (LT K tt) (LE K te) σ H Q:=
 λσ H Q ⟨σd,h,Qd,rs,rh,q,p⟩=>by
  refine⟨σd,h,_,rs,rh,q,λj J h1 H1 k1 rh1 jo ⟨n,W,w0,turn⟩=> ?_⟩;refine⟨λi m ys H'=>m=n-i/\Kept H1 H'/\ ∃ds h',RelDs K H' ds ys/\RelH K h' H'/\W i ds h',⟨n-0,rfl,.refl _,[],h1,rfl,rh1,w0⟩,?_⟩;rintro i m ys H' ⟨rfl,kp,yd,h',ry,rh',w⟩;obtain⟨hz,ds,ej,hn,stop,go⟩:=turn i yd h' w;refine⟨by rw [<-ry.length];exact hz,?_⟩;have jo':=jo H' h' kp rh' ds ej i;have kk:Kept H H':=k1.trans kp
  by_cases hi:i<ds.length
  ·obtain⟨g1,y1⟩:=jo'.1 ds[i] (G0 hi);refine .inr ⟨g1,λx H'' y=> ?_⟩;obtain⟨k2,rh2,r2⟩:=y1 x H'' y;obtain⟨σd2,bd,q2⟩:=go ds[i] (G0 hi);refine hb σ σd σd2 H'' ds[i] x _ (((rs.mono (kk.trans k2))).clear js) r2 bd λσ2 ag rs2=>⟨ag,?_⟩
   refine LT.bind rs2 rh2 q2 λb h3 H3 k3 rs3 rh3 q3=> ?_
   cases b with
   |true=>
    rw [if_pos rfl] at q3 ⊢;refine LE.bind rs3 rh3 q3 λd4 v4 h4 H4 k4 rs4 rh4 r4 ⟨h5,sb,w5⟩=>⟨n-(i+1),by omega,rfl,kp.trans (k2.trans (k3.trans k4)),yd++ [d4],h5,(ry.mono (k2.trans (k3.trans k4))).append (.cons r4 .nil),rh4.sub sb,w5⟩
   |false=>
    rw [if_neg P4] at q3 ⊢;obtain⟨h5,sb,w5⟩:=q3;exact⟨n-(i+1),by omega,rfl,kp.trans (k2.trans k3),yd,h5,ry.mono (k2.trans k3),rh3.sub sb,w5⟩
  ·refine .inl ⟨jo'.2 (J7.mp hi),λa ha=>p (.lst a) (.ref a) _ _ (kk.trans (.new ha)) (rh'.newL ha ry) ⟨rfl,ys,jz⟩ (stop (J7.mp hi) a (rh'.free ha))⟩
theorem vZ {X:Cx}{scope:Scope}{C:Addr}{s₀:Shared}{H₀:Hp}{ex:List Addr}{i:Nat}{x:Str}{p:Pos}(hN:X.N.Nodup)(hx:X.N[i]? =some x)(hl:scope.names.lookup x=some .local\/scope.names.lookup x=some .cell):
 PG (VO X scope C s₀ H₀ ex) (.Name x p) (vg i):=by
 rcases hl with z|z
 ·exact Jt hN hx (.inl (lookup_relabel_local z)) (.inr (lookup_relabel_local z))
 ·exact Jt hN hx (.inr (Ju z)) (.inl (by show (scope.names.lookup x==some NameKind.cell)=true;rw [z];rfl))
section
variable {X:Cx}{tg e iter elt:Expr}{te:TED}{ti:TID}{g:TGD}{tb:TSD}{tt:TTD}{pos:Pos}{ta:TAD}{scope:Scope}{js:List Nat}{ifs:List Expr}
theorem LP (he:QE X e te):QI X tg e (iL te):=(La he).imp LL
theorem Hv {p:Pos}{a:Expr}(hg:Gl X "range")(hm:X.mg "range" =none)(ha:QA X [a] ta)(hs:starEach [a] X.env= [(false,eval a X.env)]:=by rfl):QI X tg (.Call (.Name "range" p) [a] [] pos) (iR1 ta):=(Rr hg hm ha hs).imp Hs
theorem kJ {body:List Stmt}(hp:PassesOwn (model X.prog X.w) X.A X.env X.xe)(hc:X.calm=true)(hi:QI X tg iter ti)(hg:QG X tg g)(hb:QSs X body tb)(hs: ∀x,foldedSetIterable iter X.env x=pure x:=by intro _;rfl):
 QS X (.For tg iter body [] pos) (Aq ti g tb):=(Ea hp hc hi hg hb hs).imp EO
theorem LQ:PTs X [] (LT X.K WV):=λpins s σ H Q I h=>Lp pins s σ H Q I (EQ σ H Q h)
theorem LU {c:Expr}(hc:QT X c tt):PTs X [c] (LT X.K tt):=Lq hc
theorem qlc {i:Nat}{x:Str}{p:Pos}(hc:X.calm=true)(S:BlockOk X scope js)(hi:QI X (.Name x p) iter ti)(hj:i∈js)(hN:X.N.Nodup)(hx:X.N[i]? =some x)(hl:scope.names.lookup x=some .local\/scope.names.lookup x=some .cell)
 (ht: ∀X',jG X scope X'->PTs X' ifs (LT X'.K tt))(he: ∀X',jG X scope X'->QE X' elt te)(hs: ∀x,foldedSetIterable iter X.env x=pure x:=by intro _;rfl):
 QE X (.ListComp elt [⟨.Name x p,iter,ifs,0⟩] scope pos) (yj (bN i) js ti tt te):=
 (Et hc S hi (λX' hX=>by obtain⟨C,s₀,H₀,ex,rfl⟩:=hX;exact vZ hN hx hl) (λX' hX=>by have:=ht X' hX;obtain⟨C,s₀,H₀,ex,rfl⟩:=hX;exact this)
  (λX' hX=>by have:=he X' hX;obtain⟨C,s₀,H₀,ex,rfl⟩:=hX;exact this) hs).imp (LM (ER hj))
theorem kK {i j:Nat}{x y:Str}{p1 p2 p3:Pos}{k:Nat}(hc:X.calm=true)(S:BlockOk X scope js)(hi:QI X (.Tuple [.Name x p1,.Name y p2] k p3) iter ti)(hj:i∈js)(hj2:j∈js)(hij:i≠j)(hN:X.N.Nodup)(hx:X.N[i]? =some x)(hy:X.N[j]? =some y)
 (hl:scope.names.lookup x=some .local\/scope.names.lookup x=some .cell)(hl2:scope.names.lookup y=some .local\/scope.names.lookup y=some .cell)
 (ht: ∀X',jG X scope X'->PTs X' ifs (LT X'.K tt))(he: ∀X',jG X scope X'->QE X' elt te)(hs: ∀x,foldedSetIterable iter X.env x=pure x:=by intro _;rfl):
 QE X (.ListComp elt [⟨.Tuple [.Name x p1,.Name y p2] k p3,iter,ifs,0⟩] scope pos) (yj (b2 i j) js ti tt te):=
 (Et hc S hi (λX' hX=>by
  obtain⟨C,s₀,H₀,ex,rfl⟩:=hX;exact Fp hc (WB (vZ hN hx hl) (WB (vZ hN hy hl2) Rq))) (λX' hX=>by have:=ht X' hX;obtain⟨C,s₀,H₀,ex,rfl⟩:=hX;exact this)
  (λX' hX=>by have:=he X' hX;obtain⟨C,s₀,H₀,ex,rfl⟩:=hX;exact this) hs).imp (LM (Hu hj hj2 hij))
end
def LSp (K:PySem.W.Frag)(spd:RDn):Sp:=λvs H Q _=>LC K spd vs H Q
theorem LV {K:PySem.W.Frag}{spd:RDn}{t:TAD}{E:XK}: ∀σ H Q,LE K (dCB spd t) σ H Q->Ei (LSp K spd) [] E (LA K t) σ H Q:=λσ H Q ⟨σd,h,Qd,rs,rh,t,p⟩=>
 LA.bind rs rh t λds vs h1 H1 k1 rs1 rh1 r1 q=>by rw [B9];exact⟨ds,h1,Qd,r1,rh1,q,jK p k1⟩
section
variable {X:Cx}{k:Nat}{f:Addr}{fd:FuncData}{ps:List Str}{spd:RDn}{x:Str}{p pos:Pos}{e:Expr}{es:List Expr}{t:TAD}
theorem Hw (F:FnOk X.prog X.w X.K X.mg X.base CX0 k f fd ps (LSp X.K spd))(hr:Room k X.A)(hg:Gl X x)(hm:X.mg x=some (.ref f))(hk:PySem.W.keepIn X.K (.ref f)=true)(hb:Binds X.K fd ps [])
 (ha:QA X (e::es) t)(hdb:(x==("__debug__" :Str))=false:=by decide)(he:starEach (e::es) X.env=(false,eval e X.env)::starEach es X.env:=by rfl)(hpl:(backTo pos (starEach es X.env)).any (·.1)=false:=by rfl):
 QE X (.Call (.Name x p) (e::es) [] pos) (dCB spd t):=(Li F hr hg hm hk hb .nil Hb ha hdb he hpl).imp LV
theorem ES {id:String}{r:RDn}(hc:Jf X (.builtin id) r)(hg:Gl X x)(hm:X.mg x=none)(hv:bootBuiltins x=some (.builtin id))(ha:QA X (e::es) t)(hn:x≠ "__name__" :=by decide)(hdb:(x==("__debug__" :Str))=false:=by decide)
 (he:starEach (e::es) X.env=(false,eval e X.env)::starEach es X.env:=by rfl)(hpl:(backTo pos (starEach es X.env)).any (·.1)=false:=by rfl):QE X (.Call (.Name x p) (e::es) [] pos) (dCB r t):=(WD hc hg hm hv ha hn hdb he hpl).imp Ez
theorem LW {T:String}{r:RDn}(hc:Jf X (.type T) r)(hg:Gl X x)(hm:X.mg x=none)(hv:bootBuiltins x=some (.type T))(ha:QA X (e::es) t)(hn:x≠ "__name__" :=by decide)(hdb:(x==("__debug__" :Str))=false:=by decide)
 (he:starEach (e::es) X.env=(false,eval e X.env)::starEach es X.env:=by rfl)(hpl:(backTo pos (starEach es X.env)).any (·.1)=false:=by rfl):QE X (.Call (.Name x p) (e::es) [] pos) (dCB r t):=(WL hc hg hm hv ha hn hdb he hpl).imp Ez
end
def va (N:List Str)(ds:List D):SD:=ds.map some++List.replicate (N.length-ds.length) none
theorem Dk {K:PySem.W.Frag}{H:Hp}{N:List Str}{ds:List D}{vs:List V}(r:RelDs K H ds vs):RelS K H (va N ds) (start N vs):=by
 have hl:=r.length;refine⟨by unfold va start;simp [hl],λi d e=> ?_⟩;unfold va at e;unfold start
 by_cases hi:i<ds.length
 ·rw [D9 (by simpa using hi),P1] at e;cases q:ds[i]? with
  |none=>rw [q] at e;cases e
  |some d'=>
   rw [q] at e;cases e;obtain⟨v,e1,e2⟩:=r.get q;exact⟨v,by rw [D9 (by simpa [<-hl] using hi),P1,e1];rfl,e2⟩
 ·rw [P7 (by simpa using hi),G0v] at e;split at e<;>cases e
def BR (Q:KD):EndsD:= {nx:=λ_ h=> ∃h',Sub h' h/\Q .non h',rt:=λd h=> ∃h',Sub h' h/\Q d h'}
section
variable {P:Program}{w:World}{K:PySem.W.Frag}{mg:Str->Option Value}{base:Heap}
theorem Fun.okD {x qual:Str}{st:Stmt}{f:Addr}{fd:FuncData}{N ps:List Str}{k:Nat}{spd:RDn}(F:Fun K x qual st f fd)(S:FnScope N ps (jf st))(len: ∀ds h Q,spd ds h Q->ds.length=ps.length)
 (tb:TSD)(hbody: ∀ (cdv:Value) (A:Around) (outer:List Env) (s:Shared) (H:Hp) (E:XK),Room k (A.deeper (envOfC qual (jf st) s.heap.objs.size f cdv))->QSs (Fu CX0 P w K mg base N qual (jf st) f cdv A outer s H E).nox (wV st) tb)
 (read: ∀ds h Q,spd ds h Q->tb (BR Q) (va N ds) h):FnOk P w K mg base CX0 (k+1) f fd ps (LSp K spd):=by
 refine F.ok S (λvs H Q E h=> ?_) (λcdv A outer s H vs Q E hr h=> ?_)
 ·obtain⟨ds,h,Qd,r,rh,q,p⟩:=h;rw [<-r.length];exact len _ _ _ q
 ·obtain⟨ds,h,Qd,r,rh,q,p⟩:=h;refine⟨_,hbody cdv A outer s H E hr,va N ds,h,BR Qd,Dk r,rh,read ds h Qd q,λσd' h' σ' H' k rs' rh' ⟨h2,sb,q'⟩=>p .non .non h2 H' k (rh'.sub sb) rfl q',λd v h' H' k rh' r' ⟨h2,sb,q'⟩=>p d v h2 H' k (rh'.sub sb) r' q',λ_ _ _ _ _ _ _ z=>z.elim,λ_ _ _ _ _ _ _ z=>z.elim⟩
end
section
variable {X:Cx}{iter elt:Expr}{te:TED}{ti:TID}{tt:TTD}{pos spos:Pos}{scope:Scope}{js:List Nat}{ifs:List Expr}
theorem ET {i k:Nat}{x y:Str}{p py:Pos}(hc:X.calm=true)(hN:X.N.Nodup)(hk:X.N[k]? =some y)(hy:Loc X.env.scope y)(S:BlockOk X scope js)(hi:QI X (.Name x p) iter ti)(hj:i∈js)(hx:X.N[i]? =some x)(hl:scope.names.lookup x=some .local\/scope.names.lookup x=some .cell)
 (ht: ∀X',jG X scope X'->PTs X' ifs (LT X'.K tt))(he: ∀X',jG X scope X'->QE X' elt te)
 (hsw:swapsWith (.ListComp elt [⟨.Name x p,iter,ifs,0⟩] scope pos) (some (.Name y py)) spos.line X.env=pure true:=by rfl)
 (hf:X.fn y=true\/X.env.scope.names.lookup y=some .local:=by first|exact .inl rfl|exact .inr rfl|assumption)(hs: ∀x,foldedSetIterable iter X.env x=pure x:=by intro _;rfl):
 QS X (.Assign [.Name y py] (.ListComp elt [⟨.Name x p,iter,ifs,0⟩] scope pos) spos) (Bj k (yj (bN i) js ti tt te)):=by
 have base:PS X (.Assign [.Name y py] (.ListComp elt [⟨.Name x p,iter,ifs,0⟩] scope pos) spos) (Fq (tLC js (LI X.K ti) (vg i) (LT X.K tt) (LE X.K te)) (vg k)):=
  BJ hc S hi (λX' hX=>by obtain⟨C,s₀,H₀,ex,rfl⟩:=hX;exact vZ hN hx hl) (λX' hX=>by have:=ht X' hX;obtain⟨C,s₀,H₀,ex,rfl⟩:=hX;exact this)
   (λX' hX=>by have:=he X' hX;obtain⟨C,s₀,H₀,ex,rfl⟩:=hX;exact this) (Jt hN hk hy hf) hsw hs
 exact base.imp λD σ H h=>by
  obtain⟨σd,hd,Qd,rs,rh,t,p⟩:=RM (K:=X.K) D σ H h;exact LM (ER hj) σ H _ ⟨σd,hd,Qd,rs,rh,t,p⟩
end
def dIn (i':Nat)(ti:TID)(tt:TTD)(te:TED)(V:List D->HD->Prop)(ys:List D):SD->HD->Prop:=λσ h=>ti σ h λj h1=> ∃ (n:Nat) (W:Nat->List D->HD->Prop),W 0 ys h1/\ ∀i ys h',W i ys h'->ys.length<=sizeLine/\
 ∃ds,j h'=some ds/\ds.length<=n/\(ds.length<=i->V ys h')/\
  ∀d,ds[i]? =some d->tt (σ.set i' (some d)) h' λb h3=>if b=true then te (σ.set i' (some d)) h3 λy h4=> ∃h5,Sub h5 h4/\W (i+1) (ys++ [y]) h5 else ∃h5,Sub h5 h3/\W (i+1) ys h5
def Hx (bind:D->SD->SD->Prop)(js:List Nat)(ti:TID)(tt:TTD)(i':Nat)(ti':TID)(tt':TTD)(te:TED):TED:=λσ h Q=>ti σ h λj h1=> ∃ (n:Nat) (W:Nat->List D->HD->Prop),W 0 [] h1/\ ∀i ys h',W i ys h'->ys.length<=sizeLine/\
 ∃ds,j h'=some ds/\ds.length<=n/\(ds.length<=i-> ∀p,h' p=none->Q (.lst p) (zN h' p ys))/\
  ∀d,ds[i]? =some d-> ∃σ2,bind d (jO js σ) σ2/\tt σ2 h' λb h3=>if b=true then dIn i' ti' tt' te (λys' h6=> ∃h5,Sub h5 h6/\W (i+1) ys' h5) ys σ2 h3 else ∃h5,Sub h5 h3/\W (i+1) ys h5
def RO (K:PySem.W.Frag)(js:List Nat)(i':Nat)(bind:D->SD->SD->Prop)(g:TG):Prop:= ∀ (σ:St) (σd σd2:SD) (H:Hp) (d:D) (v:V) (Q:St->Hp->Prop),RelS K H (jO js σd) (wJ js σ)->RelD K H d v->bind d (jO js σd) σd2->
 (∀σ2,Agree (wJ js σ) σ2->(∀u,¬σ2[i']? =some (some u))->RelS K H σd2 σ2->Q σ2 H)->g v (wJ js σ) H Q
theorem EU {K:PySem.W.Frag}{js:List Nat}{i i':Nat}(hi:i∈js)(hi':i'∈js)(hne:i≠i'):RO K js i' (bN i) (vg i):=λσ σd σd2 H d v Q rs r b q=>by
 cases (show σd2=_ from b);refine q _ (.set v λu=>zR js σ i u hi) (λu z=> ?_) (rs.set r i);rw [F4 hne] at z;exact zR js σ i' u hi' z
theorem EV {K:PySem.W.Frag}{bind:D->SD->SD->Prop}{js:List Nat}{i':Nat}{ti ti':TID}{tt tt':TTD}{te:TED}{g:TG}(hb:RO K js i' bind g): ∀σ H Q,LE K (Hx bind js ti tt i' ti' tt' te) σ H Q->Kz js (LI K ti) g (LT K tt) (LI K ti') (vg i') (LT K tt') (LE K te) σ H Q:=
 λσ H Q ⟨σd,h,Qd,rs,rh,q,p⟩=>by
  refine⟨σd,h,_,rs,rh,q,λj J h1 H1 k1 rh1 jo ⟨n,W,w0,turn⟩=> ?_⟩;refine⟨λi m ys H'=>m=n-i/\Kept H1 H'/\ ∃ds h',RelDs K H' ds ys/\RelH K h' H'/\W i ds h',⟨n-0,rfl,.refl _,[],h1,rfl,rh1,w0⟩,?_⟩;rintro i m ys H' ⟨rfl,kp,yd,h',ry,rh',w⟩;obtain⟨hz,ds,ej,hn,stop,go⟩:=turn i yd h' w;refine⟨by rw [<-ry.length];exact hz,?_⟩;have jo':=jo H' h' kp rh' ds ej i;have kk:Kept H H':=k1.trans kp
  by_cases hi:i<ds.length
  ·obtain⟨g1,y1⟩:=jo'.1 ds[i] (G0 hi);refine .inr ⟨g1,λx H'' y=> ?_⟩;obtain⟨k2,rh2,r2⟩:=y1 x H'' y;obtain⟨σd2,bd,q2⟩:=go ds[i] (G0 hi);refine hb σ σd σd2 H'' ds[i] x _ (((rs.mono (kk.trans k2))).clear js) r2 bd λσ2 ag un rs2=>⟨ag,?_⟩
   refine LT.bind rs2 rh2 q2 λb h3 H3 k3 rs3 rh3 q3=> ?_
   cases b with
   |true=>
    rw [if_pos rfl] at q3 ⊢
    -- the second clause
    refine⟨σd2,h3,_,rs3,rh3,q3,λj2 J2 h4 H4 k4 rh4 jo2 ⟨n2,W2,w20,turn2⟩=> ?_⟩;refine⟨λi2 m2 ys2 H5=>m2=n2-i2/\Kept H4 H5/\ ∃ds h5,RelDs K H5 ds ys2/\RelH K h5 H5/\W2 i2 ds h5,⟨n2-0,rfl,.refl _,yd,h4,ry.mono (k2.trans (k3.trans k4)),rh4,w20⟩,?_⟩;rintro i2 m2 ys2 H5 ⟨rfl,kp5,yd5,h5,ry5,rh5,w5⟩;obtain⟨hz5,ds5,ej5,hn5,stop5,go5⟩:=turn2 i2 yd5 h5 w5;refine⟨by rw [<-ry5.length];exact hz5,?_⟩;have jo5:=jo2 H5 h5 kp5 rh5 ds5 ej5 i2;have kk5:Kept H1 H5:=kp.trans (k2.trans (k3.trans (k4.trans kp5)))
    by_cases hi5:i2<ds5.length
    ·obtain⟨g5,y5⟩:=jo5.1 ds5[i2] (G0 hi5);refine .inr ⟨g5,λx6 H6 yy6=> ?_⟩;obtain⟨k6,rh6,r6⟩:=y5 x6 H6 yy6;refine⟨.set x6 un,?_⟩;have rs6:=(rs3.mono (k4.trans (kp5.trans k6))).set r6 i';refine LT.bind rs6 rh6 (go5 ds5[i2] (G0 hi5)) λb h7 H7 k7 rs7 rh7 q7=> ?_
     cases b with
     |true=>
      rw [if_pos rfl] at q7 ⊢;exact LE.bind rs7 rh7 q7 λd8 v8 h8 H8 k8 rs8 rh8 r8 ⟨h9,sb,w9⟩=>⟨n2-(i2+1),by omega,rfl,kp5.trans (k6.trans (k7.trans k8)),yd5++ [d8],h9,(ry5.mono (k6.trans (k7.trans k8))).append (.cons r8 .nil),rh8.sub sb,w9⟩
     |false=>
      rw [if_neg P4] at q7 ⊢;obtain⟨h9,sb,w9⟩:=q7;exact⟨n2-(i2+1),by omega,rfl,kp5.trans (k6.trans k7),yd5,h9,ry5.mono (k6.trans k7),rh7.sub sb,w9⟩
    ·obtain⟨h9,sb,w9⟩:=stop5 (J7.mp hi5);exact .inl ⟨jo5.2 (J7.mp hi5),n-(i+1),by omega,rfl,kk5,yd5,h9,ry5,rh5.sub sb,w9⟩
   |false=>
    rw [if_neg P4] at q3 ⊢;obtain⟨h5,sb,w5⟩:=q3;exact⟨n-(i+1),by omega,rfl,kp.trans (k2.trans k3),yd,h5,ry.mono (k2.trans k3),rh3.sub sb,w5⟩
  ·refine .inl ⟨jo'.2 (J7.mp hi),λa ha=>p (.lst a) (.ref a) _ _ (kk.trans (.new ha)) (rh'.newL ha ry) ⟨rfl,ys,jz⟩ (stop (J7.mp hi) a (rh'.free ha))⟩
def kL:RD2:=λx y h Q=>match x,y with
 | .int i,.int j=>Q (.int (i+j)) h
 | .tup a,.tup b=>a.length+b.length<=sizeLine/\Q (.tup (a++b)) h
 | .lst a,.lst b=> ∃xs ys,h a=some xs/\h b=some ys/\xs.length+ys.length<=sizeLine/\ ∀p,h p=none->Q (.lst p) (zN h p (xs++ys))
 |_,_=>False
def KA:RD2:=λx y h Q=>match x,y with
 | .int i,.int j=>Q (.int (i-j)) h
 |_,_=>False
def KB:RD2:=λx y h Q=>match x,y with
 | .int i,.int j=>CMul i j/\Q (.int (i*j)) h
 | .lst a,.int k=> ∃xs,h a=some xs/\ -(2^63)<=k/\k<2^63/\xs.length*k.toNat<=sizeLine/\ ∀p,h p=none->Q (.lst p) (zN h p (List.replicate k.toNat xs).flatten)
 |_,_=>False
def kN:RD2:=λx y h Q=>match x,y with
 | .int i,.int j=>0<j/\Q (.int (i%j)) h
 |_,_=>False
def Hy:RD2:=λx y h Q=>match x,y with
 | .int i,.int j=>Kp i j/\Q (.int (i / j)) h
 |_,_=>False
def KC:RD2:=λx y h Q=>match x,y with
 | .int i,.int j=>Kq i j/\Q (.int (i^j.toNat)) h
 |_,_=>False
def Fx (p:Int->Int->Bool):RD2:=λx y h Q=>match x,y with
 | .int i,.int j=>Q (.bl (p i j)) h
 |_,_=>False
def eqD:RD2:=λx y h Q=>match x,y with
 | .int i,.int j=>Q (.bl (decide (i=j))) h
 | .bl i,.bl j=>Q (.bl (decide (i=j))) h
 | .str i,.str j=>Q (.bl (decide (i=j))) h
 |_,_=>False
def neD:RD2:=λx y h Q=>match x,y with
 | .int i,.int j=>Q (.bl (!decide (i=j))) h
 | .bl i,.bl j=>Q (.bl (!decide (i=j))) h
 | .str i,.str j=>Q (.bl (!decide (i=j))) h
 |_,_=>False
section
variable {X:Cx}
theorem VR {f:Value->Value->Sem Value}{C:Int->Int->Prop}{g:Int->Int->V}{gd:Int->Int->D}{r:RD2}(ho:OpR X f (rI C g))(hg: ∀i j H,RelD X.K H (gd i j) (g i j))
 (hr: ∀x y h Q,r x y h Q-> ∃i j,x= .int i/\y= .int j/\C i j/\Q (gd i j) h):OpQ X f r:=ho.imp λx y H Q ⟨dx,dy,h,Qd,rx,ry,rh,q,p⟩=>by
 obtain⟨i,j,e1,e2,c,q'⟩:=hr dx dy h Qd q;subst e1 e2;exact⟨i,j,rx,ry,c,p _ _ _ _ (.refl H) rh (hg i j H) q'⟩
theorem Zd {f:Value->Value->Sem Value}{g:Int->Int->V}{gd:Int->Int->D}{r:RD2}(ho:OpR X f (rI0 g))(hg: ∀i j H,RelD X.K H (gd i j) (g i j))
 (hr: ∀x y h Q,r x y h Q-> ∃i j,x= .int i/\y= .int j/\Q (gd i j) h):OpQ X f r:=ho.imp λx y H Q ⟨dx,dy,h,Qd,rx,ry,rh,q,p⟩=>by
 obtain⟨i,j,e1,e2,q'⟩:=hr dx dy h Qd q;subst e1 e2;exact⟨i,j,rx,ry,p _ _ _ _ (.refl H) rh (hg i j H) q'⟩
theorem Xv:OpQ X (binaryOp .Sub) KA:=Zd (gd:=λi j=> .int (i-j)) Eb (λ_ _ _=>rfl) λx y h Q q=>by
 cases x<;>cases y<;>first|exact False.elim q|exact⟨_,_,rfl,rfl,q⟩
theorem vb:OpQ X (binaryOp .Mod) kN:=VR (gd:=λi j=> .int (i%j)) Ec (λ_ _ _=>rfl) λx y h Q q=>by
 cases x<;>cases y<;>first|exact False.elim q|exact⟨_,_,rfl,rfl,q.1,q.2⟩
theorem LX:OpQ X (binaryOp .FloorDiv) Hy:=VR (gd:=λi j=> .int (i / j)) Lb (λ_ _ _=>rfl) λx y h Q q=>by
 cases x<;>cases y<;>first|exact False.elim q|exact⟨_,_,rfl,rfl,q.1,q.2⟩
theorem Fy:OpQ X (binaryOp .Pow) KC:=VR (gd:=λi j=> .int (i^j.toNat)) Ed (λ_ _ _=>rfl) λx y h Q q=>by
 cases x<;>cases y<;>first|exact False.elim q|exact⟨_,_,rfl,rfl,q.1,q.2⟩
theorem VS {p:Int->Int->Bool}: ∀x y h Q,Fx p x y h Q-> ∃i j,x= .int i/\y= .int j/\Q (.bl (p i j)) h:=λx y h Q q=>by
 cases x<;>cases y<;>first|exact False.elim q|exact⟨_,_,rfl,rfl,q⟩
theorem LY:OpQ X (compareOp .Lt) (Fx λi j=>decide (i<j)):=Zd (gd:=λi j=> .bl (decide (i<j))) TQ (λ_ _ _=>rfl) VS
theorem Gj:OpQ X (compareOp .LtE) (Fx λi j=>decide (i<=j)):=Zd (gd:=λi j=> .bl (decide (i<=j))) TR (λ_ _ _=>rfl) VS
theorem BS:OpQ X (compareOp .Gt) (Fx λi j=>decide (j<i)):=Zd (gd:=λi j=> .bl (decide (j<i))) TU (λ_ _ _=>rfl) VS
theorem LZ:OpQ X (compareOp .GtE) (Fx λi j=>decide (j<=i)):=Zd (gd:=λi j=> .bl (decide (j<=i))) TV (λ_ _ _=>rfl) VS
theorem Ar {α:Type}[DecidableEq α]{f:α->V}(hf: ∀a b,f a=f b->a=b)(a b:α):decide (f a=f b)=decide (a=b):=by
 by_cases h:a=b
 ·subst h;simp
 ·rw [D4 h,D4 (λe=>h (hf a b e))]
theorem oq_eq:OpQ X (compareOp .Eq) eqD:=op_eq.imp λx y H Q ⟨dx,dy,h,Qd,rx,ry,rh,q,p⟩=>by
 cases dx<;>cases dy<;>first
  |exact False.elim q
  |(cases (show x= .int _ from rx);cases (show y= .int _ from ry);refine⟨rfl,p _ _ _ _ (.refl H) rh ?_ q⟩;rw [Ar (f:=V.int) (λa b e=>by cases e;rfl)];rfl)
  |(cases (show x= .bl _ from rx);cases (show y= .bl _ from ry);refine⟨rfl,p _ _ _ _ (.refl H) rh ?_ q⟩;rw [Ar (f:=V.bl) (λa b e=>by cases e;rfl)];rfl)
  |(cases (show x= .str _ from rx);cases (show y= .str _ from ry);refine⟨rfl,p _ _ _ _ (.refl H) rh ?_ q⟩;rw [Ar (f:=V.str) (λa b e=>by cases e;rfl)];rfl)
theorem oq_ne:OpQ X (compareOp .NotEq) neD:=op_ne.imp λx y H Q ⟨dx,dy,h,Qd,rx,ry,rh,q,p⟩=>by
 cases dx<;>cases dy<;>first
  |exact False.elim q
  |(cases (show x= .int _ from rx);cases (show y= .int _ from ry);refine⟨rfl,p _ _ _ _ (.refl H) rh ?_ q⟩;rw [Ar (f:=V.int) (λa b e=>by cases e;rfl)];rfl)
  |(cases (show x= .bl _ from rx);cases (show y= .bl _ from ry);refine⟨rfl,p _ _ _ _ (.refl H) rh ?_ q⟩;rw [Ar (f:=V.bl) (λa b e=>by cases e;rfl)];rfl)
  |(cases (show x= .str _ from rx);cases (show y= .str _ from ry);refine⟨rfl,p _ _ _ _ (.refl H) rh ?_ q⟩;rw [Ar (f:=V.str) (λa b e=>by cases e;rfl)];rfl)
def EW (K:PySem.W.Frag):R2:=λx y H Q=> ∃a b xs ys,x= .ref a/\y= .ref b/\SqT K H a xs/\SqT K H b ys/\xs= []/\Q (.ref b) H
theorem op_catT0:OpR X (binaryOp .Add) (EW X.K):=by
 intro pins s σ H x y v u Q I rx ry h;obtain⟨a,b,xs,ys,rfl,rfl,ha,hb,hx,q⟩:=h;cases rx;cases ry;obtain⟨its,r1,p1,_⟩:=I.tuple ha;obtain⟨its2,r2,p2,_⟩:=I.tuple hb;have hv:its= []:=r1.nil_iff.mpr hx;obtain⟨⟨cls,dd,data,sl⟩,ho,hc,n,hd⟩:=id p1;obtain⟨⟨cls2,dd2,data2,sl2⟩,ho2,hc2,n2,hd2⟩:=id p2;simp only at hc hd hc2 hd2;subst hc hd hc2 hd2;exact concat_meets ⟨_,ho,rfl⟩ ⟨_,ho2,rfl⟩ G0D seq_tuple_add W4 V6 (U8 _ _)
  (tuple_addW0 a b its.toArray its2.toArray n n2 dd dd2 sl sl2 (by simp [hv])) ⟨ho,ho2,.ref b,H,I,rfl,q⟩
theorem zT:OpQ X (binaryOp .Add) kL:=(op_add.or (op_catT.or (op_catT0.or Ep))).imp λx y H Q ⟨dx,dy,h,Qd,rx,ry,rh,q,p⟩=>by
 cases dx<;>cases dy<;>first
  |exact False.elim q
  |skip
 ·exact .inl ⟨_,_,rx,ry,p (.int _) _ _ _ (.refl H) rh rfl q⟩
 ·rename_i ds es;obtain⟨a,vs,e1,h1,r1⟩:=(show ∃a vs,x= .ref a/\H a=some (.tup vs)/\RelDs X.K H ds vs from rx);obtain⟨b,us,e2,h2,r2⟩:=(show ∃a vs,y= .ref a/\H a=some (.tup vs)/\RelDs X.K H es vs from ry);subst e1 e2;obtain⟨hz,q⟩:=q
  by_cases hv:vs= []
  ·subst hv;have e:ds= []:=K1.mp r1.length;subst e;exact .inr (.inr (.inl ⟨a,b,[],us,rfl,rfl,SqT.of h1,SqT.of h2,rfl,p (.tup es) _ _ _ (.refl H) rh ⟨b,us,rfl,h2,r2⟩ q⟩))
  ·refine .inr (.inl ⟨a,b,vs,us,rfl,rfl,SqT.of h1,SqT.of h2,hv,by rw [<-r1.length,<-r2.length];exact hz,λe=> ?_,λ_ c hc=> ?_⟩)
   ·subst e;have e:es= []:=K1.mp r2.length;subst e;rw [B9] at q;exact p (.tup ds) _ _ _ (.refl H) rh ⟨a,vs,rfl,h1,r1⟩ q
   ·exact p (.tup (ds++es)) _ _ _ (.new hc) (rh.new hc) ⟨c,vs++us,rfl,jz,(r1.append r2).mono (.new hc)⟩ q
 ·rename_i a b;obtain⟨xs,ys,h1,h2,hz,q⟩:=q;obtain⟨vs,e1,r1⟩:=rh a xs h1;obtain⟨us,e2,r2⟩:=rh b ys h2;refine .inr (.inr (.inr ⟨a,b,vs,us,rx.1,ry.1,e1,e2,by rw [<-r1.length,<-r2.length];exact hz,λc hc=> ?_⟩));exact p (.lst c) _ _ _ (.new hc) (rh.newL hc (r1.append r2)) ⟨rfl,_,jz⟩ (q c (rh.free hc))
theorem RelDs.flat {K:PySem.W.Frag}{H:Hp}{ds:List D}{vs:List V}(r:RelDs K H ds vs): ∀k:Nat,RelDs K H (List.replicate k ds).flatten (List.replicate k vs).flatten
 |0=>by simp;exact .nil
 |k+1=>by rw [L8,L8,J5,J5];exact r.append (RelDs.flat r k)
theorem oq_mul:OpQ X (binaryOp .Mult) KB:=(op_mul.or Eq).imp λx y H Q ⟨dx,dy,h,Qd,rx,ry,rh,q,p⟩=>by
 cases dx<;>cases dy<;>first
  |exact False.elim q
  |skip
 ·exact .inl ⟨_,_,rx,ry,q.1,p (.int _) _ _ _ (.refl H) rh rfl q.2⟩
 ·obtain⟨xs,h1,b1,b2,hz,q⟩:=q;obtain⟨vs,e1,r1⟩:=rh _ xs h1;refine .inr ⟨_,_,vs,rx.1,ry,e1,b1,b2,by rw [<-r1.length];exact hz,λc hc=> ?_⟩;exact p (.lst c) _ _ _ (.new hc) (rh.newL hc (r1.flat _)) ⟨rfl,_,jz⟩ (q c (rh.free hc))
end
def ixD:RD2:=λx y h Q=>match x,y with
 | .tup ds,.int i=> ∃d,atI ds i=some d/\Q d h
 | .lst a,.int i=> ∃ds d,h a=some ds/\atI ds i=some d/\Q d h
 | .scr ns,.int i=> ∃n,atI ns i=some n/\Q (.int n) h
 |_,_=>False
theorem RQ {K:PySem.W.Frag}{H:Hp}{ds:List D}{vs:List V}(r:RelDs K H ds vs){i:Int}{d:D}(e:atI ds i=some d): ∃v,atI vs i=some v/\RelD K H d v:=by
 unfold atI at e ⊢;rw [<-r.length];cases q:ixN ds.length i with
 |none=>rw [q] at e;cases e
 |some j=>rw [q] at e;exact r.get e
theorem Oa {α β:Type}(f:α->β){xs:List α}{i:Int}{x:α}(e:atI xs i=some x):atI (xs.map f) i=some (f x):=by
 unfold atI at e ⊢;rw [G2];cases q:ixN xs.length i with
 |none=>rw [q] at e;cases e
 |some j=>
  rw [q] at e;show (xs.map f)[j]? =_;rw [P1,(show xs[j]? =some x from e)];rfl
section
variable {X:Cx}{a b e:Expr}{ta tb te:TED}{pos p2:Pos}
theorem Hz: ∀σ H Q,LE X.K (dOp ixD ta tb) σ H Q->tOp (rIx X.K) (LE X.K ta) (LE X.K tb) σ H Q:=λσ H Q ⟨σd,h,Qd,rs,rh,t,p⟩=>
 LE.bind rs rh t λdx x h1 H1 k1 rs1 rh1 r1 t1=>LE.bind rs1 rh1 t1 λdy y h2 H2 k2 rs2 rh2 ry q=>by
  have rx:=r1.mono k2;have kk:=k1.trans k2;cases dx<;>cases dy<;>first
   |exact False.elim q
   |skip
  ·rename_i ds i;obtain⟨d,e,q⟩:=q;obtain⟨a,vs,e1,hH,r⟩:=(show ∃a vs,x= .ref a/\H2 a=some (.tup vs)/\RelDs X.K H2 ds vs from rx);obtain⟨v,e2,rv⟩:=RQ r e;exact .inr (.inl ⟨a,vs,i,v,e1,ry,SqT.of hH,e2,p _ _ _ _ kk rh2 rv q⟩)
  ·rename_i a i;obtain⟨ds,d,hd,e,q⟩:=q;obtain⟨vs,hH,r⟩:=rh2 a ds hd;obtain⟨v,e2,rv⟩:=RQ r e;exact .inl ⟨a,vs,i,v,rx.1,ry,SqL.of hH,e2,p _ _ _ _ kk rh2 rv q⟩
  ·rename_i ns i;obtain⟨n,e,q⟩:=q;obtain⟨a,e1,hS⟩:=(show ∃a,x= .ref a/\Scr X.K H2 a ns from rx);exact .inl ⟨a,_,i,.int n,e1,ry,hS.sq,Oa V.int e,p (.int n) _ _ _ kk rh2 rfl q⟩
theorem qix (ha:QE X a ta)(hb:QE X b tb)(hs:Gh b):QE X (.Subscript a b pos) (dOp ixD ta tb):=(TZ Em ha hb hs).imp Hz
end
def EX:RDn:=λds h Q=>match ds with
 | [.tup xs]=>Q (.int xs.length) h
 | [.lst a]=> ∃xs,h a=some xs/\Q (.int xs.length) h
 | [.scr ns]=>Q (.int ns.length) h
 |_=>False
def HA:RDn:=λds h Q=>match ds with
 | [.int i]=>Q (.int i) h
 | [.bl k]=>Q (.int (if k then 1 else 0)) h
 |_=>False
def HB:RDn:=λds h Q=>match ds with
 | [.int i,.int j]=>Q (.int (if j>i then j else i)) h
 |_=>False
def Pq:RDn:=λds h Q=>match ds with
 | [.tup xs]=>Q (.tup xs) h
 | [.lst a]=> ∃xs,h a=some xs/\Q (.tup xs) h
 |_=>False
def Vr:RDn:=λds h Q=>match ds with
 | [.lst a]=> ∃xs,h a=some xs/\Q (.tup xs) (VQ h a)
 |_=>False
section
variable {X:Cx}
theorem yk:Jf X (.builtin "len") EX:=call_len_seq.imp λxs H Q ⟨ds,h,Qd,r,rh,q,p⟩=>by
 unfold EX at q;split at q
 ·rename_i es;obtain⟨v,e,r1⟩:=jH r;obtain⟨a,vs,e1,hH,r2⟩:=(show ∃a vs,v= .ref a/\H a=some (.tup vs)/\RelDs X.K H es vs from r1);subst e e1;exact⟨a,vs,rfl,.inr (SqT.of hH),by rw [<-r2.length];exact p (.int _) _ _ _ (.refl H) rh rfl q⟩
 ·rename_i a;obtain⟨es,hd,q⟩:=q;obtain⟨v,e,r1⟩:=jH r;obtain⟨vs,hH,r2⟩:=rh a es hd;have e1:v= .ref a:=r1.1;subst e e1;exact⟨a,vs,rfl,.inl (SqL.of hH),by rw [<-r2.length];exact p (.int _) _ _ _ (.refl H) rh rfl q⟩
 ·rename_i ns;obtain⟨v,e,r1⟩:=jH r;obtain⟨a,e1,hS⟩:=(show ∃a,v= .ref a/\Scr X.K H a ns from r1);subst e e1;exact⟨a,_,rfl,.inl hS.sq,by rw [G2];exact p (.int _) _ _ _ (.refl H) rh rfl q⟩
 ·exact q.elim
theorem RR:Jf X (.type "int") HA:=call_int1.imp λxs H Q ⟨ds,h,Qd,r,rh,q,p⟩=>by
 unfold HA at q;split at q
 ·rename_i i;obtain⟨v,e,r1⟩:=jH r;cases (show v= .int i from r1);exact .inl ⟨i,e,p (.int i) _ _ _ (.refl H) rh rfl q⟩
 ·rename_i k;obtain⟨v,e,r1⟩:=jH r;cases (show v= .bl k from r1);exact .inr ⟨k,e,p (.int _) _ _ _ (.refl H) rh rfl q⟩
 ·exact q.elim
theorem EY (hc:X.calm=true):Jf X (.builtin "max") HB:=(Rx hc).imp λxs H Q ⟨ds,h,Qd,r,rh,q,p⟩=>by
 unfold HB at q;split at q
 ·rename_i i j;obtain⟨v,w,e,r1,r2⟩:=yF r;cases (show v= .int i from r1);cases (show w= .int j from r2);exact⟨i,j,e,p (.int _) _ _ _ (.refl H) rh rfl q⟩
 ·exact q.elim
theorem cq_tuple:Jf X (.type "tuple") Pq:=call_tuple_of.imp λxs H Q ⟨ds,h,Qd,r,rh,q,p⟩=>by
 unfold Pq at q;split at q
 ·rename_i es;obtain⟨v,e,r1⟩:=jH r;obtain⟨a,vs,e1,hH,r2⟩:=(show ∃a vs,v= .ref a/\H a=some (.tup vs)/\RelDs X.K H es vs from r1);subst e e1;exact⟨a,vs,rfl,.inr ⟨SqT.of hH,p (.tup es) _ _ _ (.refl H) rh ⟨a,vs,rfl,hH,r2⟩ q⟩⟩
 ·rename_i a;obtain⟨es,hd,q⟩:=q;obtain⟨v,e,r1⟩:=jH r;obtain⟨vs,hH,r2⟩:=rh a es hd;have e1:v= .ref a:=r1.1;subst e e1;exact⟨a,vs,rfl,.inl ⟨SqL.of hH,λc hc=>p (.tup es) _ _ _ (.new hc) (rh.new hc) ⟨c,vs,rfl,jz,r2.mono (.new hc)⟩ q⟩⟩
 ·exact q.elim
theorem Xw:Jf X (.type "tuple") Vr:=cq_tuple.imp λxs H Q ⟨ds,h,Qd,r,rh,q,p⟩=>by
 unfold Vr at q;split at q
 ·rename_i a;obtain⟨es,hd,q⟩:=q;exact⟨[.lst a],h,λd h'=>Qd d (VQ h' a),r,rh,⟨es,hd,q⟩,λd v h' H' k rh' rd q'=>p d v _ H' k (rh'.sub (Sub.drop h' a)) rd q'⟩
 ·exact q.elim
end
def Xx:D->Option String
 | .non=>some "NoneType" | .bl _=>some "bool" | .int _=>some "int" | .str _=>some "str" | .tup _=>some "tuple" | .lst _=>some "list" | .dic _ _=>some "dict" | .dct _=>none| .scr _=>none| .exc _=>none| .fn _=>none
def EZ (T:String)(n:String):Bool:=n==T||(T== "int" &&n== "bool")
theorem BT {K:PySem.W.Frag}{H:Hp}{d:D}{v:V}{n:String}(r:RelD K H d v)(e:Xx d=some n):TyOf K H v (.type n):=by
 cases d with
 |non=>cases (show v= .non from r);cases e;exact .non
 |bl b=>cases (show v= .bl b from r);cases e;exact .bl b
 |int i=>cases (show v= .int i from r);cases e;exact .int i
 |str x=>cases (show v= .str x from r);cases e;exact .str x
 |tup ds=>
  obtain⟨a,vs,e1,hH,_⟩:=(show ∃a vs,v= .ref a/\H a=some (.tup vs)/\RelDs K H ds vs from r);subst e1;cases e;exact .tup hH
 |lst a=>
  obtain⟨e1,vs,hH⟩:=(show v= .ref a/\ ∃vs,H a=some (.lst vs) from r);subst e1;cases e;exact .lst hH
 |dic x i=>
  obtain⟨a,e1,hH⟩:=(show ∃a,v= .ref a/\H a=some (.dK [(Sum.inr x,V.int i)]) from r);subst e1;cases e;exact .dK hH
 |dct a=>cases e
 |scr ns=>cases e
 |exc C=>cases e
 |fn a=>cases e
def Ob:List String:= ["NoneType","bool","int","str","tuple","list","dict"]
theorem Dl {d:D}{n:String}(e:Xx d=some n):n∈Ob:=by
 cases d<;>cases e<;>decide
def HE (K:PySem.W.Frag):Prop:= ∀n∈Ob,∀T∈ ["tuple","int","bool","list","str"],PySem.W.kitOne K (.type n) (.type T)=some (EZ T n)
theorem Oc (K:PySem.W.Frag):HE K:=by
 intro n hn T hT;simp only [Ob,D3,M0,U0] at hn hT;rcases hn with rfl|rfl|rfl|rfl|rfl|rfl|rfl<;>rcases hT with rfl|rfl|rfl|rfl|rfl<;>with_unfolding_all rfl
theorem RS {X:Cx}(T:String):CallR X (.builtin "isinstance") (λxs H Q=> ∃x t b,xs= [x,.ty T]/\TyOf X.K H x t/\PySem.W.kitOne X.K t (.type T)=some b/\Q (.bl b) H):=by
 intro pins s σ H xs us Q I r h;obtain⟨x,t,b,rfl,ty,e,q⟩:=h;obtain⟨u,w',rfl,rx,rt⟩:=BD r;cases (show w'=Value.type T from rt);exact Rz I rx ty e λtk=>⟨.bl b,H,I.tok tk,rfl,q⟩
def dIs (T:String)(ta:TED):TED:=λσ h Q=>ta σ h λx h1=> ∃n,Xx x=some n/\Q (.bl (EZ T n)) h1
theorem HF {X:Cx}{a:Expr}{ta:TED}{T:String}{t:Str}{p p2 pos:Pos}(hT:T∈ ["tuple","int","bool","list","str"])(hg:Gl X "isinstance")(hm:X.mg "isinstance" =none)(hg2:Gl X t)(hm2:X.mg t=none)(hv:bootBuiltins t=some (.type T))(ha:QE X a ta)
 (hn:t≠ "__name__" :=by decide)(hd:(t==("__debug__" :Str))=false:=by decide)
 (h1:starEach [a,.Name t p2] X.env=(false,eval a X.env)::starEach [.Name t p2] X.env:=by rfl)(h2:(backTo pos (starEach [.Name t p2] X.env)).any (·.1)=false:=by rfl):
 QE X (.Call (.Name "isinstance" p) [a,.Name t p2] [] pos) (dIs T ta):=
 (WD (RS T) hg hm PyProof.Rows.boot_isinstance (vo ha (vo (FV (v:= .ty T) hg2 hm2 hv rfl hn hd) pa_nil (by rfl)) h1) (by decide) (by decide) h1 h2).imp
  λσ H Q ⟨σd,h,Qd,rs,rh,t,p⟩=>LE.bind rs rh t λd v h1 H1 k1 rs1 rh1 r1 ⟨n,e,q⟩=>⟨v,.type n,EZ T n,rfl,BT r1 e,Oc _ n (Dl e) T hT,p (.bl _) _ _ _ k1 rh1 rfl q⟩
theorem RT (bs:List Bool):(List.range bs.length).all (λi=>bs.getD i false)=bs.all id:=by
 induction bs with
 |nil=>rfl
 |cons b bs ih=>
  rw [D8,G0M,List.all_cons,O5,List.all_cons];show (b&&_)=(b&&bs.all id);rw [<-ih];rfl
theorem RU (bs:List Bool):(List.range bs.length).any (λi=>bs.getD i false)=bs.any id:=by
 induction bs with
 |nil=>rfl
 |cons b bs ih=>
  rw [D8,G0M,List.any_cons,List.any_map,List.any_cons];show (b||_)=(b||bs.any id);rw [<-ih];rfl
theorem Xy {bs:List Bool}{its:List Value}(r:Vals (bs.map V.bl) its){i:Nat}{v:Value}(e:its[i]? =some v):v= .bool (bs.getD i false):=by
 have hl:=r.length;rw [G2] at hl;have hi:i<its.length:=(G6.mp e).1;have hb:(bs.map V.bl)[i]? =some (.bl bs[i]):=by rw [P1,G0 (by omega)];rfl
 obtain⟨u,e1,r1⟩:=r.get hb;rw [e] at e1;cases e1;rw [P5,G0 (by omega)];exact r1
section
variable {X:Cx}
theorem VT (hc:X.calm=true):CallR X (.builtin "all") (λxs H Q=> ∃ (a:Addr) (bs:List Bool),xs= [.ref a]/\SqL X.K H a (bs.map V.bl)/\Q (.bl (bs.all id)) H):=by
 intro pins s σ H xs us Q I r h;obtain⟨a,bs,rfl,hS,q⟩:=h;obtain⟨u,rfl,ru⟩:=Wv r;cases ru;obtain⟨its,rv,pl,hz⟩:=I.list hS;have hl:=pl.isList;have hlt:a<s.heap.objs.size:=by obtain⟨_,e,_⟩:=hl;exact P2 e
 refine call_all_walk (A2 hl ?_);refine⟨s.heap.objs.size,_,_,_,_,_,λi=>bs.getD i false,rfl,G03 (A:=X.A.in1) (show X.A.in1.handled=none from I.ok.hd hc) s.heap.objs.size a (R1 hlt) its.toArray,⟨⟨_,P8 _ rfl,rfl,rfl⟩,hl.push _⟩,?_,λh' tk hk=> ?_⟩
 ·intro i v s' Q' E' hP hQ;have e:its[i]? =some v:=by simpa using hP
  rw [Xy rv e];exact B0 hQ
 ·have hn:its.toArray.size=bs.length:=by rw [P6,<-rv.length,G2]
  rw [hn,RT];exact⟨.bl _,H,I.kept (t':=tk) (λb o e=>hk b o (λz=>by rw [G3.mp z] at e;exact absurd (P2 e) (S7 _)) (G1 _ e)),rfl,q⟩
theorem VU (hc:X.calm=true):CallR X (.builtin "any") (λxs H Q=> ∃ (a:Addr) (bs:List Bool),xs= [.ref a]/\SqL X.K H a (bs.map V.bl)/\Q (.bl (bs.any id)) H):=by
 intro pins s σ H xs us Q I r h;obtain⟨a,bs,rfl,hS,q⟩:=h;obtain⟨u,rfl,ru⟩:=Wv r;cases ru;obtain⟨its,rv,pl,hz⟩:=I.list hS;have hl:=pl.isList;have hlt:a<s.heap.objs.size:=by obtain⟨_,e,_⟩:=hl;exact P2 e
 refine call_any_walk (A2 hl ?_);refine⟨s.heap.objs.size,_,_,_,_,_,λi=>bs.getD i false,rfl,G03 (A:=X.A.in1) (show X.A.in1.handled=none from I.ok.hd hc) s.heap.objs.size a (R1 hlt) its.toArray,⟨⟨_,P8 _ rfl,rfl,rfl⟩,hl.push _⟩,?_,λh' tk hk=> ?_⟩
 ·intro i v s' Q' E' hP hQ;have e:its[i]? =some v:=by simpa using hP
  rw [Xy rv e];exact B0 hQ
 ·have hn:its.toArray.size=bs.length:=by rw [P6,<-rv.length,G2]
  rw [hn,RU];exact⟨.bl _,H,I.kept (t':=tk) (λb o e=>hk b o (λz=>by rw [G3.mp z] at e;exact absurd (P2 e) (S7 _)) (G1 _ e)),rfl,q⟩
theorem Jv {K:PySem.W.Frag}{H:Hp}: ∀ {bs:List Bool} {vs:List V},RelDs K H (bs.map D.bl) vs->vs=bs.map V.bl
 | [],_,h=>h
 |b::bs,vs,h=>by
  obtain⟨v,r,e,h1,h2⟩:=(show ∃v r,vs=v::r/\RelD K H (.bl b) v/\RelDs K H (bs.map D.bl) r from h);rw [e,Jv h2,(show v= .bl b from h1)];rfl
def Sa:RDn:=λds h Q=> ∃ (a:Addr) (bs:List Bool),ds= [.lst a]/\h a=some (bs.map D.bl)/\Q (.bl (bs.all id)) (VQ h a)
def HG:RDn:=λds h Q=> ∃ (a:Addr) (bs:List Bool),ds= [.lst a]/\h a=some (bs.map D.bl)/\Q (.bl (bs.any id)) (VQ h a)
theorem Wj (hc:X.calm=true):Jf X (.builtin "all") Sa:=(VT hc).imp λxs H Q ⟨ds,h,Qd,r,rh,⟨a,bs,e,hd,q⟩,p⟩=>by
 subst e;obtain⟨v,e,r1⟩:=jH r;obtain⟨vs,hH,r2⟩:=rh a _ hd;have e1:v= .ref a:=r1.1;rw [Jv r2] at hH;subst e e1;exact⟨a,bs,rfl,SqL.of hH,p (.bl _) _ _ _ (.refl H) (rh.sub (Sub.drop h a)) rfl q⟩
theorem Sb (hc:X.calm=true):Jf X (.builtin "any") HG:=(VU hc).imp λxs H Q ⟨ds,h,Qd,r,rh,⟨a,bs,e,hd,q⟩,p⟩=>by
 subst e;obtain⟨v,e,r1⟩:=jH r;obtain⟨vs,hH,r2⟩:=rh a _ hd;have e1:v= .ref a:=r1.1;rw [Jv r2] at hH;subst e e1;exact⟨a,bs,rfl,SqL.of hH,p (.bl _) _ _ _ (.refl H) (rh.sub (Sub.drop h a)) rfl q⟩
end
def KF (to:TED)(te:TED):TED:=λσ h Q=>to σ h λx h1=> ∃a,x= .lst a/\te σ h1 λy h2=> ∃xs,h2 a=some xs/\xs.length<sizeLine/\Q .non (zN h2 a (xs++ [y]))
section
variable {X:Cx}{o e i:Expr}{to te ti:TED}{apos cpos pos:Pos}
theorem kO (ho:QE X o to)(he:QE X e te)(hbase:attributeBase o "append" X.env (eval o X.env)=eval o X.env:=by rfl)
 (hfew:((backTo cpos (starEach [e] X.env)).all (λx=> !x.1)&&(backToKw cpos (keywordEach [] X.env)).all (λx=>x.1.isSome)&&decide ([e].length+([]:List Keyword).length+(if ([]:List Keyword).isEmpty then 0 else 1)<30))=true:=by rfl)
 (hline:(apos.endLine==cpos.line)=true:=by rfl)(hs:starEach [e] X.env=(false,eval e X.env)::starEach [] X.env:=by rfl)(hplain:(backTo cpos (starEach [] X.env)).any (·.1)=false:=by rfl):
 QE X (.Call (.Attribute o "append" apos) [e] [] cpos) (KF to te):=
 (Eo G0x PySem.F.slot_list_append PySem.F.type_list_append RE ho (vo he pa_nil hs) hbase hfew hline hs hplain).imp
  λσ H Q ⟨σd,h,Qd,rs,rh,t,p⟩=>LE.bind rs rh t λd v h1 H1 k1 rs1 rh1 r1 ⟨a,e,q⟩=>by
   subst e;obtain⟨e1,vs,hH⟩:=(show v= .ref a/\ ∃vs,H1 a=some (.lst vs) from r1);subst e1;refine⟨.inl ⟨rfl,vs,SqL.of hH⟩,?_⟩;refine LE.bind rs1 rh1 q λy u h2 H2 k2 rs2 rh2 r2 ⟨xs,hx,hz,q2⟩=> ?_
   obtain⟨ws,hW,r3⟩:=rh2 a xs hx;refine⟨a,ws,u,rfl,rfl,hW,by rw [<-r3.length];exact hz,p .non _ _ _ (k1.trans (k2.trans (.put hW))) (rh2.put hW (r3.append (.cons r2 .nil))) rfl q2⟩
def Sc (to ti:TED):TGD:=λd σ h Q=>to σ h λo h1=>ti σ h1 λi h2=> ∃a k xs j,o= .lst a/\i= .int k/\h2 a=some xs/\ixN xs.length k=some j/\Q σ (zN h2 a (xs.set j d))
theorem Sd (ho:QE X o to)(hi:QE X i ti)
 (ha: ∀v,assign (.Subscript o i pos) X.env v=(do
  let ov <-holding [v] (eval o X.env)
  let iv <-holding [v,ov] (eval i X.env)
  standAt pos
  holding [v,ov,iv] (setItem ov iv v)
  release [v,ov,iv] []):=by intro _;rfl):QG X (.Subscript o i pos) (Sc to ti):=
 (AR ho hi BH ha).imp λv σ H Q ⟨d,σd,h,Qd,r,rs,rh,q,p⟩=>
  LE.bind rs rh q λd1 v1 h1 H1 k1 rs1 rh1 r1 q1=>LE.bind rs1 rh1 q1 λd2 v2 h2 H2 k2 rs2 rh2 r2 ⟨a,k,xs,j,e1,e2,hx,hj,q2⟩=>by
   subst e1 e2;have e3:v1= .ref a:=(r1.mono k2).1;obtain⟨ws,hW,r3⟩:=rh2 a xs hx;refine⟨a,ws,k,j,e3,r2,hW,by rw [<-r3.length];exact hj,p _ _ _ _ (k1.trans (k2.trans (.put hW))) (rs2.mono (.put hW)) (rh2.put hW (RelDs.set ((r.mono k1).mono k2) j r3)) q2⟩
end
def Fz (N:List Str)(sc:List (Str×NameKind))(scope:Scope)(js:List Nat):Bool:=
 scope.kind== .function&&scope.names.all (λp=>p.2 != .cell||scope.names.lookup p.1==some .cell)&&scope.names.all (λp=>p.2 != .local||scope.names.lookup p.1==some .local)&&
 scope.names.all (λp=>p.2 != .free||sc.lookup p.1==some .cell||sc.lookup p.1==some .free)&&
 (List.range N.length).all λi=>(scope.names.lookup (N.getD i Str.empty) !=some .local&&scope.names.lookup (N.getD i Str.empty) !=some .cell)||js.contains i
theorem ji {X:Cx}{scope:Scope}{js:List Nat}(h:Fz X.N X.env.scope.names scope js=true):BlockOk X scope js:=by
 unfold Fz at h;simp only [R8] at h;obtain⟨⟨⟨⟨h1,h2⟩,h3⟩,h4⟩,h5⟩:=h;refine⟨eq_of_beq h1,λp hp e=> ?_,λp hp e=> ?_,λp hp e=> ?_,λi x e1 e2=> ?_⟩
 ·have:=S5.mp h3 p hp;rw [e] at this;simpa using this
 ·have:=S5.mp h2 p hp;rw [e] at this;simpa using this
 ·have:=S5.mp h4 p hp;rw [e] at this;simpa using this
 ·have hi:i<X.N.length:=(G6.mp e1).1;have:=S5.mp h5 i (R0.mpr hi);rw [P5,e1,Option.getD_some] at this;rcases e2 with e2|e2<;>(rw [e2] at this;simpa using this)
theorem qpt {X:Cx}{e:Expr}{t:TTD}(h:QW X e t):QT X e t:=h.pt
theorem RV {i:Nat}{js:List Nat}{ti:TID}{te:TED}{σ:SD}{h h1:HD}{Q:KD}{ds:List D}{j:ItD}(f:D->D)(hz:ds.length<=sizeLine)(hj:j h1=some ds)
 (ht: ∀R:ItD->HD->Prop,R j h1->ti σ h R)(he: ∀d∈ds,∀Q':KD,Q' (f d) h1->te ((jO js σ).set i (some d)) h1 Q')(hq: ∀p,h1 p=none->Q (.lst p) (zN h1 p (ds.map f))):yj (bN i) js ti WV te σ h Q:=by
 refine ht _ ⟨ds.length,λk ys h'=>h'=h1/\ys=(ds.take k).map f,⟨rfl,by simp⟩,?_⟩;rintro k ys h' ⟨rfl,rfl⟩;refine⟨by simp only [G2,R3];omega,ds,hj,G9 _,λhl p hp=> ?_,λd hd=>⟨_,rfl,?_⟩⟩
 ·rw [D7 hl];exact hq p hp
 ·unfold WV;dsimp only;rw [if_pos rfl];refine he d (G5 hd) _ ⟨h',Sub.refl _,rfl,?_⟩;rw [N3,hd];simp
end L2
namespace HT
open PySem PySem.Spec PyProof.Rows
section
variable {prog:Program}{w:World}{A:Around}{E:Value->Shared->Prop}{s:Shared}
theorem Jw {t sl:Addr}{items:Array Value}{vl vu:Value}{lo hi:Option Int}{Q:Value->Shared->Prop}(ht:IsTup s.heap t items)(hs:s.heap.IsSliceOf sl vl vu .none)(pl:IsPart vl lo)(pu:IsPart vu hi)
 (hw:sIx items.size 0 lo=0/\sIx items.size items.size hi=items.size)(h:Q (.ref t) s):wpAny (model prog w) A (getItem (.ref t) (.ref sl)) Q E s:=by
 obtain⟨os,hos,hcs,hds⟩:=id hs;have hTs:s.TypeIs (.ref sl) "slice" :=⟨os,hos,hcs⟩;unfold getItem
 try with_reducible refine B7 ?_
 first|refine wpAny_bind (P0 ?_)|skip
 refine wpAny_bind (wpAny_sequenceKey ht.typeIs (by decide) ?_);refine wpAny_bind (B8 (name:=Str.ofString "__getitem__") ht.typeIs L7
  (N9 L7 ht.typeIs entry_tuple_getitem ?_ (args_tuple_getitem _ _)))
 show wpAny _ _ (Builtin.Tuple.tupleItemsOf (.ref t) >>= _) _ _ s;refine wpAny_bind (tupleItemsOf_ ht ?_);refine wpAny_bind (wpAny_typeOf hTs ?_);rw [if_pos (by decide)];refine wpAny_bind (yZ hs pl pu ?_);have hyes:((((sIx items.size 0 lo:Nat):Int)==0&&(1:Int)==1&&(sIx items.size items.size hi-sIx items.size 0 lo)==items.size)=true):=by
  rw [hw.1,hw.2];simp
 show wpAny _ _ (if (((sIx items.size 0 lo:Nat):Int)==0&&(1:Int)==1&&(sIx items.size items.size hi-sIx items.size 0 lo)==items.size)=true then _ else _) _ _ s;rw [if_pos hyes];refine wpAny_bind (m:=Builtin.Tuple.tupleIsExact (.ref t)) ?_;unfold Builtin.Tuple.tupleIsExact;refine wpAny_bind (wpAny_typeOf ht.typeIs (P0 ?_));rw [if_pos (by decide)];exact wpAny_bind (W7 (P0 ⟨_,rfl,P0 h⟩))
end
end HT
namespace L2
open PySem PySem.Spec PyProof.Rows
def kP (K:PySem.W.Frag):V->Option Int->Option Int->Hp->VK->Prop:=λx lo hi H Q=> ∃a xs,x= .ref a/\SqT K H a xs/\(HT.sIx xs.length 0 lo=0/\HT.sIx xs.length xs.length hi=xs.length)/\Q (.ref a) H
variable {X:Cx}
theorem sl_whole:SlR X (kP X.K):=by
 intro pins s σ H x v vl vu lo hi sl Q I rx hs pl pu h;obtain⟨a,xs,rfl,hx,hw,q⟩:=h;cases rx;obtain⟨its,r,ht,hz⟩:=I.tuple hx;have hlen:its.toArray.size=xs.length:=by rw [P6];exact r.length.symm
 refine⟨"tuple",_,PyProof.Rows.slot_tuple_getitem.lookup,ht.typeIs,?_⟩;exact HT.Jw ht hs pl pu (by rw [hlen];exact hw) ⟨.ref a,H,I,rfl,q⟩
def YN {α:Type}(xs:List α)(lo hi:Option Int):List α:=(xs.drop (HT.sIx xs.length 0 lo)).take (HT.sIx xs.length xs.length hi-HT.sIx xs.length 0 lo)
abbrev TOD:=SD->HD->(Option Int->HD->Prop)->Prop
def RW:TOD:=λ_ h Q=>Q none h
def Se (t:TED):TOD:=λσ h Q=>t σ h λx h1=> ∃i,x= .int i/\Q (some i) h1
def LO (K:PySem.W.Frag)(t:TOD):TO:=λσ H Q=> ∃σd h Qd,RelS K H σd σ/\RelH K h H/\t σd h Qd/\ ∀o h' H',Kept H H'->RelH K h' H'->Qd o h'->Q o H'
theorem LO.bind {K:PySem.W.Frag}{ta:TOD}{σ:St}{H:Hp}{σd:SD}{h:HD}{kd:Option Int->HD->Prop}{k:Option Int->Hp->Prop}(rs:RelS K H σd σ)(rh:RelH K h H)(t:ta σd h kd)(f: ∀o h' H',Kept H H'->RelS K H' σd σ->RelH K h' H'->kd o h'->k o H'):LO K ta σ H k:=
 ⟨σd,h,kd,rs,rh,t,λo h' H' kp r1 q=>f o h' H' kp (rs.mono kp) r1 q⟩
theorem PO.imp {e:Option Expr}{t t':TO}(h:PO X e t)(i: ∀σ H Q,t' σ H Q->t σ H Q):PO X e t':=λpins s σ H Q I q=>h pins s σ H Q I (i σ H Q q)
abbrev QO (X:Cx)(e:Option Expr)(t:TOD):Prop:=PO X e (LO X.K t)
theorem Od:QO X none RW:=po_none.imp λσ H Q ⟨σd,h,Qd,rs,rh,q,p⟩=>p none h H (.refl H) rh q
theorem Oe {e:Expr}{te:TED}(he:QE X e te):QO X (some e) (Se te):=(Ll he).imp λσ H Q ⟨σd,h,Qd,rs,rh,q,p⟩=>
 LE.bind rs rh q λd v h1 H1 k1 rs1 rh1 r1 ⟨i,e,q1⟩=>by subst e;exact⟨i,r1,p _ _ _ k1 rh1 q1⟩
def slD:D->Option Int->Option Int->HD->KD->Prop:=λx lo hi h Q=>match x with
 | .tup ds=>Q (.tup (YN ds lo hi)) h
 | .scr ns=> ∀p,h p=none->Q (.lst p) (zN h p ((YN ns lo hi).map D.int))
 | .lst a=> ∃ds,h a=some ds/\ ∀p,h p=none->Q (.lst p) (zN h p (YN ds lo hi))
 |_=>False
def dSl (te:TED)(tl th:TOD):TED:=λσ h Q=>te σ h λx h1=>tl σ h1 λl h2=>th σ h2 λu h3=>slD x l u h3 Q
theorem VV {K:PySem.W.Frag}{H:Hp}{ds:List D}{vs:List V}(r:RelDs K H ds vs)(lo hi:Option Int):RelDs K H (YN ds lo hi) (Bh vs lo hi):=by
 unfold YN Bh;rw [r.length];exact(r.drop _).take _
theorem RX {α β:Type}(f:α->β)(xs:List α)(lo hi:Option Int):YN (xs.map f) lo hi=(YN xs lo hi).map f:=by
 unfold YN;rw [G2,List.map_take,G1m]
theorem Sf {e:Expr}{te:TED}{lo hi:Option Expr}{tl th:TOD}{pos p2:Pos}(he:QE X e te)(hl:QO X lo tl)(hu:QO X hi th):QE X (.Subscript e (.Slice lo hi none p2) pos) (dSl te tl th):=
 (BG (sl_tup.or (sl_whole.or Lm)) he hl hu).imp λσ H Q ⟨σd,h,Qd,rs,rh,q,p⟩=>
  LE.bind rs rh q λd v h1 H1 k1 rs1 rh1 r1 q1=>LO.bind rs1 rh1 q1 λl h2 H2 k2 rs2 rh2 q2=>LO.bind rs2 rh2 q2 λu h3 H3 k3 rs3 rh3 q3=>by
   have rv:=(r1.mono k2).mono k3;have kk:=k1.trans (k2.trans k3);cases d<;>first
    |exact False.elim q3
    |skip
   ·rename_i ds;obtain⟨a,vs,e1,hH,r⟩:=(show ∃a vs,v= .ref a/\H3 a=some (.tup vs)/\RelDs X.K H3 ds vs from rv)
    by_cases hw:HT.sIx vs.length 0 l=0/\HT.sIx vs.length vs.length u=vs.length
    ·refine .inr (.inl ⟨a,vs,e1,SqT.of hH,hw,p (.tup (YN ds l u)) _ _ _ kk rh3 ⟨a,vs,rfl,hH,?_⟩ q3⟩);have z:=VV r l u;have e:Bh vs l u=vs:=by unfold Bh;rw [hw.1,hw.2];simp
     rwa [e] at z
    ·exact .inl ⟨a,vs,e1,SqT.of hH,hw,λc hc=>p (.tup (YN ds l u)) _ _ _ (kk.trans (.new hc)) (rh3.new hc) ⟨c,_,rfl,jz,(VV r l u).mono (.new hc)⟩ q3⟩
   ·rename_i a;obtain⟨ds,hd,q3⟩:=q3;obtain⟨vs,hH,r⟩:=rh3 a ds hd;exact .inr (.inr ⟨a,vs,rv.1,SqL.of hH,λc hc=>p (.lst c) _ _ _ (kk.trans (.new hc)) (rh3.newL hc (VV r l u)) ⟨rfl,_,jz⟩ (q3 c (rh3.free hc))⟩)
   ·rename_i ns;obtain⟨a,e1,hS⟩:=(show ∃a,v= .ref a/\Scr X.K H3 a ns from rv);refine .inr (.inr ⟨a,_,e1,hS.sq,λc hc=>p (.lst c) _ _ _ (kk.trans (.new hc)) (rh3.newL hc ?_) ⟨rfl,_,jz⟩ (q3 c (rh3.free hc))⟩);have z:=VV (wU (K:=X.K) (H:=H3) ns) l u
    rwa [RX] at z
end L2
namespace HT
open PySem PySem.Spec PyProof.Rows
open Sem (wp)
open Builtin
theorem Ww:fillsNumberSlot (.type "tuple") "mul" =pure false:=
 PySem.fillsNumberSlot_seq (id:= "tuple.__mul__") (r:=some (.builtin "tuple.__rmul__")) F.slot_tuple_mul.lookup (by decide +kernel) F.slot_tuple_rmul.lookup (by decide +kernel)
theorem Xz:seqRepeat? (.type "tuple")=pure (some (.builtin "tuple.__mul__")):=by
 unfold seqRepeat?;rw [PySem.seqSlot_of (T:= "tuple") (name:= "__mul__") (id:= "tuple.__mul__") F.slot_tuple_mul.lookup (by decide +kernel),PySem.seqSlot_of (T:= "tuple") (name:= "__rmul__") (id:= "tuple.__rmul__") F.slot_tuple_rmul.lookup (by decide +kernel)];rfl
section
variable {prog:Program}{w:World}{A:Around}{E:Value->Shared->Prop}{s:Shared}
theorem VW {k:Int}{t:Tok}{l:Addr}{o:Obj}{its:Array Value}{n:Nat}{P:PySem.Fin->Shared->Prop}(at_:s.heap.get? l=some o)(tup:o.cls= .type "tuple")(dat:o.data= .seq its n)(h:P (.done (.ret .notImplemented)) s):wpAny (model prog w) A (Builtin.«int.__rmul__» ⟨[.int k t,.ref l],[]⟩) P E s:=by
 obtain⟨c,dd,dt,sl⟩:=o;cases tup;cases dat;obtain⟨hp,g,d,tk,os⟩:=s
 wp_walk
 exact h
theorem Gk {l:Addr}{its:Array Value}{n:Nat}{x:Int}{u:Tok}{dd:Option Addr}{sl:Array (Option Value)}{P:PySem.Fin->Shared->Prop}(at_:s.heap.get? l=some {cls:= .type "tuple",dict:=dd,data:= .seq its n,slots:=sl})(fits: -(2^63)<=x/\x<2^63)
 (same:(its.isEmpty||x==1)=true->P (.done (.ret (.ref l))) s)
 (gone:(its.isEmpty||x==1)=false->(decide (x<=0)||its.isEmpty)=true->P (.done (.ret (.ref s.heap.objs.size))) {s with heap:=s.heap.push {cls:= .type "tuple",data:= .seq #[]}})
 (more:(its.isEmpty||x==1)=false->(decide (x<=0)||its.isEmpty)=false-> ¬ (its.size:Int)*x>(2^63-1) / 8/\Builtin.Tuple.tupleTooMany ((its.size:Int)*x)=false/\((List.replicate x.toNat its).foldl (· ++ ·) #[]).size<=sizeLine/\
  P (.done (.ret (.ref s.heap.objs.size))) {s with heap:=s.heap.push {cls:= .type "tuple",data:= .seq ((List.replicate x.toNat its).foldl (· ++ ·) #[])}}):
 wpAny (model prog w) A (Builtin.«tuple.__mul__» ⟨[.ref l,.int x u],[]⟩) P E s:=by
 obtain⟨hp,g,d,tk,os⟩:=s
 wp_walk
 rw [if_neg (by simp only [V7,U1];omega)]
 wp_walk
 cases c1:(its.isEmpty||x==1) with
 |true=>
  rw [if_pos rfl]
  wp_walk
  exact same c1
 |false=>
  rw [if_neg P4];cases c2:(decide (x<=0)||its.isEmpty) with
  |true=>
   rw [if_pos rfl]
   wp_walk
   exact gone c1 c2
  |false=>
   obtain⟨m1,m2,m3,m4⟩:=more c1 c2;rw [if_neg P4];dsimp only;rw [if_neg m1,m2,if_neg P4]
   wp_walk
   exact m4
end
end HT
namespace L2
open PySem PySem.Spec PyProof.Rows
def HH (K:PySem.W.Frag):R2:=λx y H Q=> ∃ (a:Addr) (k:Int) (xs:List V),x= .ref a/\y= .int k/\SqT K H a xs/\ -(2^63)<=k/\k<2^63/\xs.length*k.toNat<=sizeLine/\
 ((xs= []\/k=1)->Q (.ref a) H)/\(¬ (xs= []\/k=1)-> ∀p,H p=none->Q (.ref p) (upd H p (.tup (List.replicate k.toNat xs).flatten)))
theorem WF {l:List Value}:l.toArray= #[]↔l= []:=by cases l<;>simp
variable {X:Cx}
theorem Of:OpR X (binaryOp .Mult) (HH X.K):=by
 intro pins s σ H x y v u Q I rx ry h;obtain⟨a,k,xs,rfl,rfl,hH,h1,h2,hz,q1,q2⟩:=h;cases rx;obtain⟨t,rfl⟩:=ry;obtain⟨its,r,ht,_⟩:=I.tuple hH;obtain⟨⟨cls,dd,data,sl⟩,ho,hc,n,hd⟩:=id ht;simp only at hc hd;subst hc hd;have hl:=r.length;have hnew:(List.replicate k.toNat its.toArray).foldl (· ++ ·) #[]=(List.replicate k.toNat its).flatten.toArray:=by
  have:=WN its k.toNat [];rw [B2] at this;exact this
 have few:its.length*k.toNat<=sizeLine:=by rw [<-hl];exact hz
 have free:=I.hok.fresh (G9 _);refine G0m (T:= "tuple") (U:= "int") (by decide) ⟨_,ho,rfl⟩ (λs'=>G00 s' k t) HT.Ww F.fills_int_mul Y8 HT.Xz F.slot_int_index.lookup
  (N9 Y8 (G00 s k t) F.entry_int_rmul (HT.VW ho rfl rfl ⟨_,rfl,rfl,⟨_,ho,rfl⟩,N9 F.slot_tuple_mul ⟨_,ho,rfl⟩ F.entry_tuple_mul (HT.Gk ho ⟨h1,h2⟩ (λc=> ?_) (λc c0=> ?_) (λc c0=> ?_)) (F.args_tuple_mul_2 _ _)⟩) (F.args_int_rmul_2 _ _))
 ·refine⟨_,rfl,.ref a,H,I,rfl,q1 ?_⟩;simp only [V7,G02,Array.isEmpty_iff,WF] at c;exact c.imp (λe=>r.nil_iff.mp e) id
 ·simp only [G04,Y5,G0c,ne_eq,WF] at c;have k0:k.toNat=0:=by
   simp only [V7,U1,Array.isEmpty_iff,WF] at c0;have:=c0.resolve_right c.1;omega
  have last:=q2 (λz=>z.elim (λe=>c.1 (r.nil_iff.mpr e)) c.2) _ free;rw [k0] at last;exact⟨_,rfl,.ref s.heap.objs.size,_,I.laid (t':=s.toks) (o:= .tup []) (λb ob q=>G1 _ q) (G9 _) ⟨by decide,[],.nil,IsTupN.new _ _⟩,rfl,last⟩
 ·simp only [G04,Y5,G0c,ne_eq,WF,G0y] at c c0;have em:((its.toArray.size:Nat):Int)*k=((its.length*k.toNat:Nat):Int):=by rw [G0P,P6,show ((k.toNat:Nat):Int)=k by omega]
  have cap:(sizeLine:Nat)<=(2^63-1) / 8:=by decide
  rw [em,hnew];refine⟨by omega,by unfold Builtin.Tuple.tupleTooMany;exact decide_eq_false (by omega),by rw [List.size_toArray,Gi,Nat.mul_comm];exact few,_,rfl,.ref s.heap.objs.size,_,I.laid (t':=s.toks) (o:= .tup (List.replicate k.toNat xs).flatten) (λb ob q=>Heap.get?_push_of_some _ q) (Nat.le_refl _) ⟨by rw [Gi,Nat.mul_comm];exact hz,_,r.rep k.toNat,IsTupN.new _ _⟩,rfl,q2 (λz=>z.elim (λe=>c.1 (r.nil_iff.mpr e)) c.2) _ free⟩
def KG:RD2:=λx y h Q=>match x,y with
 | .tup ds,.int k=> -(2^63)<=k/\k<2^63/\ds.length*k.toNat<=sizeLine/\Q (.tup (List.replicate k.toNat ds).flatten) h
 |x,y=>KB x y h Q
theorem WW:OpQ X (binaryOp .Mult) KG:=(oq_mul.or Of).imp λx y H Q ⟨dx,dy,h,Qd,rx,ry,rh,q,p⟩=>by
 by_cases ht: ∃ds k,dx= .tup ds/\dy= .int k
 ·obtain⟨ds,k,e1,e2⟩:=ht;subst e1 e2;obtain⟨b1,b2,hz,q⟩:=q;obtain⟨a,vs,e,hH,r⟩:=(show ∃a vs,x= .ref a/\H a=some (.tup vs)/\RelDs X.K H ds vs from rx);refine .inr ⟨a,k,vs,e,ry,SqT.of hH,b1,b2,by rw [<-r.length];exact hz,λhs=> ?_,λ_ c hc=>p (.tup _) _ _ _ (.new hc) (rh.new hc) ⟨c,_,rfl,jz,(r.flat _).mono (.new hc)⟩ q⟩;refine p (.tup _) _ _ _ (.refl H) rh ⟨a,vs,rfl,hH,?_⟩ q;rcases hs with e0|e1
  ·subst e0;have:ds= []:=K1.mp r.length;subst this;simpa using r
  ·subst e1;simpa using r
 ·refine .inl ⟨dx,dy,h,Qd,rx,ry,rh,?_,p⟩;unfold KG at q;split at q
  ·exact absurd ⟨_,_,rfl,rfl⟩ ht
  ·exact q
def KH:D->HD->KD->Prop:=λx h Q=>match x with
 | .int i=>Q (.int (-i)) h
 |_=>False
def dUn (f:D->HD->KD->Prop)(ta:TED):TED:=λσ h Q=>ta σ h λx h1=>f x h1 Q
theorem kQ {a:Expr}{ta:TED}{pos:Pos}(ha:QE X a ta):QE X (.UnaryOp .USub a pos) (dUn KH ta):=
 (TN Ee ha).imp λσ H Q ⟨σd,h,Qd,rs,rh,t,p⟩=>LE.bind rs rh t λd v h1 H1 k1 rs1 rh1 r1 q=>by
  cases d<;>first
   |exact False.elim q
   |exact⟨_,r1,p (.int _) _ _ _ k1 rh1 rfl q⟩
def Sg (K:PySem.W.Frag)(tl:TE):TI:=λσ H R=>tl σ H λx H1=> ∃a,x= .ref a/\((∃xs,SqL K H1 a xs/\R (Itl K a) H1)\/ ∃xs,SqT K H1 a xs/\R (Itt K a) H1)
theorem Sh {tg l:Expr}{tl:TE}(hl:PE X l tl):PI X tg l (Sg X.K tl):=by
 intro pins s σ H R I h;refine thn (hl pins s σ H _ I h) λv s1 ⟨x,H1,I1,r1,q1⟩=> ?_
 obtain⟨a,e,q⟩:=q1;subst e;cases r1;rcases q with ⟨xs,hq,q⟩|⟨xs,hq,q⟩
 ·obtain⟨its,rv,p,hz⟩:=I1.list hq;refine A2 p.isList ?_;refine⟨s1.heap.objs.size,[s1.heap.objs.size],_,_,H1,rfl,I1.kept (t':=s1.toks) λb o e=>G1 _ e,Xl a _,⟨_,P8 _ rfl,rfl,rfl⟩,λb hb=> ?_,q⟩;have e:b=s1.heap.objs.size:=by simpa using hb
  subst e;exact I1.fpOk (G9 _) (I1.hok.fresh (G9 _))
 ·obtain⟨its,rv,p,hz⟩:=I1.tuple hq;refine O7 (show s1.heap.IsTuple a its.toArray from p) ?_;refine⟨s1.heap.objs.size,[s1.heap.objs.size],_,_,H1,rfl,I1.kept (t':=s1.toks) λb o e=>G1 _ e,Db a _,⟨_,P8 _ rfl,rfl,rfl⟩,λb hb=> ?_,q⟩;have e:b=s1.heap.objs.size:=by simpa using hb
  subst e;exact I1.fpOk (G9 _) (I1.hok.fresh (G9 _))
def iS (te:TED):TID:=λσ h R=>te σ h λx h1=>match x with
 | .lst a=>R (λh=>h a) h1
 | .tup ds=>R (λ_=>some ds) h1
 | .scr ns=>R (λ_=>some (ns.map D.int)) h1
 |_=>False
variable {K:PySem.W.Frag}
theorem BU {H:Hp}{a:Addr}{ns:List Int}(hs:Scr K H a ns):Fw K H (λ_=>some (ns.map D.int)) (Itl K a):=λH' h' k rh ds' e i=>by
 cases e;have hs':Scr K H' a ns:=hs.elim (λ⟨o,z⟩=> .inl ⟨o,k.frz _ _ _ z⟩) .inr;refine⟨λd hd=> ?_,λhl=>⟨_,hs'.sq,by simpa using hl⟩⟩;obtain⟨v,e1,e2⟩:=(wU (K:=K) (H:=H') ns).get hd;refine⟨⟨_,v,hs'.sq,e1⟩,λx H'' ⟨eH,hx⟩=> ?_⟩;subst eH;have:=hx _ hs'.sq;rw [e1] at this;cases this;exact⟨.refl _,rh,e2⟩
variable {te:TED}
theorem Si: ∀σ H R,LI K (iS te) σ H R->Sg K (LE K te) σ H R:=λσ H R ⟨σd,h,Rd,rs,rh,q,p⟩=>
 LE.bind rs rh q λd v h1 H1 k1 rs1 rh1 r1 q1=>by
  cases d<;>first
   |exact False.elim q1
   |skip
  ·rename_i ds;obtain⟨a,vs,e,hv,r⟩:=(show ∃a vs,v= .ref a/\H1 a=some (.tup vs)/\RelDs K H1 ds vs from r1);exact⟨a,e,.inr ⟨vs,SqT.of hv,p _ _ _ _ k1 rh1 (BQ hv r) q1⟩⟩
  ·rename_i a;obtain⟨e,vs,hv⟩:=(show v= .ref a/\ ∃vs,H1 a=some (.lst vs) from r1);exact⟨a,e,.inl ⟨vs,SqL.of hv,p _ _ _ _ k1 rh1 (Xu H1 a) q1⟩⟩
  ·rename_i ns;obtain⟨a,e,hS⟩:=(show ∃a,v= .ref a/\Scr K H1 a ns from r1);exact⟨a,e,.inl ⟨_,hS.sq,p _ _ _ _ k1 rh1 (BU hS) q1⟩⟩
theorem Sj {tg e:Expr}(he:QE X e te):QI X tg e (iS te):=(Sh he).imp Si
def FA:TSD:=λ_ _ _=>False
theorem Sk {st:Stmt}:QS X st FA:=λ_ _ _ _ _ _ ⟨_,_,_,_,_,z,_⟩=>z.elim
structure Zs (mg:Str->Option Value):Prop where
 len:mg "len" =none
 max:mg "max" =none
 min:mg "min" =none
 divmod:mg "divmod" =none
 all:mg "all" =none
 any:mg "any" =none
 repr:mg "repr" =none
 sum:mg "sum" =none
 sorted:mg "sorted" =none
 int:mg "int" =none
 tuple:mg "tuple" =none
 list:mg "list" =none
 set:mg "set" =none
 bool:mg "bool" =none
 isinstance:mg "isinstance" =none
 range:mg "range" =none
 zip:mg "zip" =none
 enumerate:mg "enumerate" =none
 reversed:mg "reversed" =none
def ju (P:Program)(w:World)(K:PySem.W.Frag)(mg:Str->Option Value)(base:Heap)(n:Nat)(x:Str)(ps:List Str)(sp:RDn):Prop:=
 ∃ (g:Addr) (gd:FuncData),FnOk P w K mg base CX0 n g gd ps (LSp K sp)/\Binds K gd ps []/\PySem.W.keepIn K (.ref g)=true/\mg x=some (.ref g)
def RY:RDn:=λds h Q=> ∃ns,ds= [.scr ns]/\(∀a,h a=none)/\ns.length<=63/\ ∀h',Q (.bl true) h'
def Bm (mg:Str->Option Value)(base:Heap):Prop:= ∃bm ob,mg "__builtins__" =some (.ref bm)/\bm≠builtinsNs/\base.get? bm=some ob/\ob.cls= .type "module" /\ob.dict=some builtinsNs/\ob.data= .plain
def yl (K:PySem.W.Frag):List (Addr×Addr):=LN.filterMap (PySem.W.tabIn K)
theorem TabK.mem {P:Addr}(h:TabK K P): ∃c,(c,P)∈yl K:=let ⟨x,hx,c,e⟩:=h;⟨c,V4.mpr ⟨x,hx,e⟩⟩
theorem RZ {P:Program}{w:World}{mg mb:Str->Option Value}{k:Nat}{fa a:Addr}{fd:FuncData}{x:Str}{s₁:Shared}{vs:List Value}{ns:List Int}
 (KX:K.In s₁.heap)(hns:s₁.heap.Ns mainGlobals mg)(hb:s₁.heap.Ns builtinsNs mb)(hbb: ∀x:Str,x≠ "__name__" ->mb x=bootBuiltins x)(hlim:s₁.heap.NoLimit)(hg:s₁.gens= #[])
 (ha:s₁.heap.get? a=some {cls:= .type "list",data:= .seq vs.toArray})(hi:IntsAre vs ns)(hl:ns.length<=63)(hr:Room k callerA)
 (hbm:Bm mg s₁.heap)(F: ∀base:Heap,K.In base->base.Ns mainGlobals mg->Bm mg base->FnOk P w K mg base CX0 k fa fd [x] (LSp K RY))(hbind: ∀ (s:Shared) (u:Value),BindsTo s fd ⟨[u],[]⟩ [(x,u)])
 (hT: ∀p∈yl K,PySem.W.CodeHd s₁.heap p.1 p.2/\s₁.heap.get? p.2=some (PySem.W.tabObj #[])/\K.lookup p.2=none):
 codeAny (model P w) callerA (.call (.ref fa) ⟨[.ref a],[]⟩) (λr s'=>r= .ok (.ret (.bool true))/\OldK s₁.heap s'.heap/\s'.os=s₁.os/\AllBare s'.gens) s₁:=by
 have rv:=Xs hi;have lenV:=hi.length;have hz:ns.length<=sizeLine:=D6 hl (by decide);have hT': ∀b,b∈(yl K).map (·.2)-> ∃c,PySem.W.CodeHd s₁.heap c b/\s₁.heap.get? b=some (PySem.W.tabObj #[])/\K.lookup b=none:=λb hb=>by
  obtain⟨p,hp,rfl⟩:=R5.mp hb;exact⟨p.1,hT p hp⟩
 have core: ∀H:Hp,Scr K H a ns->HOk P w H s₁.heap->(∀b u,H b=some u->(b=a/\K.lookup a=none/\ ∃o xs,u= .frz o (.lst xs))\/(b∈(yl K).map (·.2)/\u= .tbl #[]))->(∀b,b∈(yl K).map (·.2)->H b=some (.tbl #[]))->
  codeAny (model P w) callerA (.call (.ref fa) ⟨[.ref a],[]⟩) (λr s'=>r= .ok (.ret (.bool true))/\OldK s₁.heap s'.heap/\s'.os=s₁.os/\AllBare s'.gens) s₁:=by
  intro H hS hok hA hTt;have noA: ∀ {b:Addr} {o:Obj} {es:Array DictEntry} {ep:Nat},s₁.heap.get? b=some o->o.data= .dict es ep->H b=none:=λ{b o es ep} e d=>by
   cases q:H b with
   |none=>rfl
   |some u=>
    rcases hA b u q with ⟨rfl,_,_⟩|⟨z,_⟩
    ·rw [ha] at e;cases e;have d':Data.seq vs.toArray _=Data.dict es ep:=d;cases d'
    ·obtain⟨c,_,e2,_⟩:=hT' b z;rw [e2] at e;cases e;have d':Data.fields _=Data.dict es ep:=d;cases d'
  have nsK: ∀ {b:Addr} {m:Str->Option Value},s₁.heap.Ns b m->(Bx s₁.heap H).Ns b m:=λ{b m} ⟨o,es,ep,e,d,r⟩=>⟨o,es,ep,VJ e (noA e d),d,r⟩
  have hKb:K.In (Bx s₁.heap H):=λb o e=>VJ (KX b o e) (by
   cases q:H b with
   |none=>rfl
   |some u=>
    rcases hA b u q with ⟨rfl,z,_⟩|⟨z,_⟩
    ·rw [z] at e;cases e
    ·obtain⟨c,_,_,z2⟩:=hT' b z;rw [z2] at e;cases e)
  have hM:Mod K mg (Bx s₁.heap H):=⟨hKb,nsK hns,⟨mb,nsK hb,hbb⟩,let ⟨mc,h1,h2⟩:=hlim;⟨mc,nsK h1,h2⟩⟩;have e0:Env0 P w K mg (Bx s₁.heap H) callerA [] s₁ H:=⟨rfl,hM,λb o e=>FS e,E4 (Rl _ _),trivial,λb hb=>absurd (show b∈([]:List Addr) from hb) (by simp),hok,.of_eq hg⟩;have hsp:LSp K RY [.ref a] H (λv _=>v= .bl true) (λ_ _ _=>False):=by
   refine⟨[.scr ns],⟨λ_=>none,λ_=>none⟩,λd _=>d= .bl true,⟨.ref a,[],rfl,⟨a,rfl,hS⟩,rfl⟩,⟨λb ds e=>(by cases e),λp hp=> ?_,λb c e=>(by cases e)⟩,⟨ns,rfl,λ_=>rfl,hl,λ_=>rfl⟩,?_⟩
   ·obtain⟨c,hc⟩:=hp.mem;exact⟨#[],hTt p (U4 (f:=(·.2)) hc),trivial,λpos cv e=>(by cases e)⟩
   ·intro d v h' H' _ _ r e;subst e;exact r
  have hBm:Bm mg (Bx s₁.heap H):=by
   obtain⟨bm,ob,b1,b2,b3,b4,r⟩:=hbm;refine⟨bm,ob,b1,b2,VJ b3 ?_,b4,r⟩;cases q:H bm with
   |none=>rfl
   |some u=>
    rcases hA bm u q with ⟨rfl,_,_⟩|⟨z,_⟩
    ·rw [ha] at b3;cases b3;exact absurd (Value.type.inj b4) (by decide)
    ·obtain⟨c,_,e2,_⟩:=hT' bm z;rw [e2] at b3;cases b3;cases b4
  refine G0O ((F _ hKb (nsK hns) hBm).run callerA [] s₁ H ⟨[.ref a],[]⟩ [.ref a] [.ref a] _ _ hr e0 (hbind s₁ (.ref a)) (.cons rfl .nil) hsp) λr s' h=> ?_
  cases r with
  |error e=>exact False.elim h
  |ok fl=>
   cases fl with
   |next=>exact False.elim h
   |brk=>exact False.elim h
   |cont=>exact False.elim h
   |ret u=>
    obtain⟨v,H',os,bare,un,hok',r',q⟩:=h;have q':v= .bl true:=q;subst q';obtain rfl:u=Value.bool true:=r';have one: ∀b o,s₁.heap.get? b=some o->s'.heap.get? b=some o\/(b∈(yl K).map (·.2)/\ ∃more,s'.heap.get? b=some (PySem.W.tabObj more)):=λb o e=>by
     cases q:H b with
     |none=>exact .inl (un.keep b o e q (by intro z;exact absurd (show b∈([]:List Addr) from z) (by simp)) (by simp))
     |some u=>
      rcases hA b u q with ⟨rfl,_,ob,xs,rfl⟩|⟨z,rfl⟩
      ·have z2:=un.frzs _ ob _ q;obtain⟨e1,_⟩:=hok _ _ q;obtain⟨e2,_⟩:=hok' _ _ z2;rw [e] at e1;cases e1;exact .inl e2
      ·obtain⟨more,z2⟩:=un.tbls b _ q;exact .inr ⟨z,_,(show s'.heap.get? b=some _ from hok' b _ z2)⟩
    refine⟨rfl,⟨λb o e=> ?_,λb o e=> ?_⟩,os,bare⟩
    ·rcases one b o e with z|⟨z,more,z2⟩
     ·exact .inl z
     ·obtain⟨c,hc,e2,_⟩:=hT' b z;rw [e] at e2;cases e2;refine .inr (.inl ⟨(hc.tab e).isCodeTable,rfl,#[],more,rfl,?_⟩);rw [z2];simp
    ·rcases one b o e with z|⟨z,more,z2⟩
     ·exact⟨_,z⟩
     ·exact⟨_,z2⟩
 have nT:a ∉ (yl K).map (·.2):=λz=>by
  obtain⟨c,_,e2,_⟩:=hT' a z;rw [ha] at e2;cases e2
 have okT: ∀ {H:Hp} (b:Addr),b∈(yl K).map (·.2)->ObjOk P w H s₁.heap b (.tbl #[]):=λb hb=>let ⟨_,_,e,_⟩:=hT' b hb;e
 cases hk:K.lookup a with
 |some o=>
  have e:=KX a o hk;rw [ha] at e;cases e;refine core (λb=>if b∈(yl K).map (·.2) then some (.tbl #[]) else none) (.inr ⟨_,vs.toArray,_,hk,rfl,rfl,rfl,by rw [P6,lenV];exact hz,by simpa using rv⟩) (λb u z=> ?_) (λb u z=> ?_) λb hb=>if_pos hb
  ·by_cases hb:b∈(yl K).map (·.2)
   ·have z':=(if_pos hb).symm.trans z;cases z';exact okT b hb
   ·have z':=(if_neg hb).symm.trans z;cases z'
  ·by_cases hb:b∈(yl K).map (·.2)
   ·have z':=(if_pos hb).symm.trans z;cases z';exact .inr ⟨hb,rfl⟩
   ·have z':=(if_neg hb).symm.trans z;cases z'
 |none=>
  refine core (λb=>if b=a then some (.frz {cls:= .type "list",data:= .seq vs.toArray} (.lst (ns.map V.int))) else if b∈(yl K).map (·.2) then some (.tbl #[]) else none) (.inl ⟨{cls:= .type "list",data:= .seq vs.toArray},if_pos rfl⟩) (λb u z=> ?_) (λb u z=> ?_) λb hb=> ?_
  ·by_cases hb:b=a
   ·have z':=(if_pos hb).symm.trans z;cases z';subst hb;exact⟨ha,by rw [G2];exact hz,vs,_,rv,ha⟩
   ·have z':=(if_neg hb).symm.trans z
    by_cases hb2:b∈(yl K).map (·.2)
    ·have z2:=(if_pos hb2).symm.trans z';cases z2;exact okT b hb2
    ·have z2:=(if_neg hb2).symm.trans z';cases z2
  ·by_cases hb:b=a
   ·have z':=(if_pos hb).symm.trans z;cases z';exact .inl ⟨hb,hk,_,_,rfl⟩
   ·have z':=(if_neg hb).symm.trans z
    by_cases hb2:b∈(yl K).map (·.2)
    ·have z2:=(if_pos hb2).symm.trans z';cases z2;exact .inr ⟨hb2,rfl⟩
    ·have z2:=(if_neg hb2).symm.trans z';cases z2
  ·have:b≠a:=λz=>nT (z ▸ hb)
   show (if b=a then _ else _)=_;rw [if_neg this,if_pos hb]
def HI (q:Program)(K:PySem.W.Frag):Bool:=LN.all λx=>match PySem.W.tabIn K x with
 |some p=>(K.lookup p.2).isNone&&((PyProof.Rows.recsOf q).find? (λe=>e.name==x)).isSome
 |none=>true
theorem BV {l:PySem.W.OpenLaw}{k:Nat}{q:Program}{loose:List Str}{XP:(Str->Option Value)->Heap->Prop}{YP:World->Heap->Prop}{d:DefRec}{K:Params->PySem.W.Frag}{x:Str}(hn:l.most=some 63)(hdf:d.params.defaults= [])(hr:Room k callerA)
 (hY: ∀ (w:World) (h:Heap),YP w h->(K w.params).In h)(hB: ∀w:World,HI q (K w.params)=true)
 (F: ∀ (w:World) (mg:Str->Option Value) (fa:Addr) (h:Heap),(K w.params).In h->h.Ns mainGlobals mg->mg d.name=some (.ref fa)->
  ∃fd:FuncData,(∀ (s:Shared) (u:Value),BindsTo s fd ⟨[u],[]⟩ [(x,u)])/\ ∀base:Heap,(K w.params).In base->base.Ns mainGlobals mg->Bm mg base->FnOk l.prog w (K w.params) mg base CX0 k fa fd [x] (LSp (K w.params) RY)):
 PySem.W.WalkO q loose XP YP l.row.toRowW d [] (λf vs=>PySem.call f vs):=by
 refine Att.attach_call hn hdf λw s₀ s₁ mg mb fa o pm cd doc a vs ns G Y ho hd hcd hmg hobj hints hlen hg=> ?_
 have KX:=hY w _ Y;obtain⟨fd,hb,hF⟩:=F w mg fa _ KX G.T.g hmg;refine RZ KX G.T.g G.T.b G.T.builtins G.T.nolimit hg hobj hints hlen hr G.T.bmain hF hb λp hp=> ?_
 obtain⟨x,hx,e⟩:=V4.mp hp;have z:=S5.mp (hB w) x hx;rw [e] at z;simp only [R8,Option.isNone_iff_eq_none] at z;obtain⟨dd,hdd⟩:=U6.mp z.2;have t:=PySem.W.tab_of (c:=p.1) (P:=p.2) G.T KX hdd e;exact⟨t.1,t.2,z.1⟩
def Gm:Expr->Bool
 | .Starred .. =>false
 |_=>true
theorem Gn {e:Expr}{es:List Expr}{env:Env}(h:Gm e=true):starEach (e::es) env=(false,eval e env)::starEach es env:=by
 cases e<;>first|rfl|cases h
theorem qac {e:Expr}{es:List Expr}{t:TAD}(ha:QE X e te)(hr:QA X es t)(h:Gm e=true:=by rfl):QA X (e::es) (wC te t):=Lz ha hr (Gn h)
theorem WX {α:Type}{xs:List α}{i:Int}(h0:0<=i)(h1:i<xs.length): ∃x∈xs,atI xs i=some x:=by
 have hk:i.toNat<xs.length:=by omega
 have ek:i=((i.toNat:Nat):Int):=by omega
 have z:=zm (G0 hk);rw [<-ek] at z;exact⟨xs[i.toNat],M1 hk,z⟩
variable {h h':HD}{p:Addr}{L:List D}
theorem Sub.both (s:Sub h h'):Sub (zN h p L) (zN h' p L):=⟨λa ds e=>(by
 by_cases q:a=p
 ·subst q;rw [jc] at e ⊢;exact e
 ·rw [wW q] at e ⊢;exact s a ds e),s.dc⟩
theorem Sub.newAt (s:Sub h h')(e:h' p=none):Sub h (zN h' p L):=s.trans (.new e)
structure But (p:Addr)(h h':HD):Prop where
 ls: ∀a ds,a≠p->h a=some ds->h' a=some ds
 dc: ∀a c,h.dc a=some c->h'.dc a=some c
instance {p:Addr}{h h':HD}:CoeFun (But p h h') λ_=> ∀a ds,a≠p->h a=some ds->h' a=some ds:=⟨But.ls⟩
theorem But.refl (p:Addr)(h:HD):But p h h:=⟨λ_ _ _ e=>e,λ_ _ e=>e⟩
variable {q:Addr}
theorem But.new (s:But p h h')(e:h' q=none):But p h (zN h' q L):=⟨λa ds n z=>(by
 have:=s a ds n z;rw [wW (λw=>by subst w;rw [e] at this;cases this)];exact this),s.dc⟩
theorem But.put (s:But p h h'):But p h (zN h' p L):=⟨λa ds n z=>(by rw [wW n];exact s a ds n z),s.dc⟩
theorem But.putNew (s:But p h h')(e:h q=none):But p h (zN h' q L):=⟨λa ds n z=>(by
 rw [wW (λw=>by subst w;rw [e] at z;cases z)];exact s a ds n z),s.dc⟩
theorem But.sub (s:But p h h')(e:h' p=some L):Sub (zN h p L) h':=⟨λa ds z=>(by
 by_cases q:a=p
 ·subst q;rw [jc] at z;cases z;exact e
 ·rw [wW q] at z;exact s a ds q z),s.dc⟩
theorem But.upd:But p h (zN h p L):=⟨λa ds n z=>(by rw [wW n];exact z),λ_ _ e=>e⟩
theorem jC (e:h p=some L)(f:h q=none):q≠p:=λz=>by subst z;rw [e] at f;cases f
theorem jk {M:List D}(e:h p=some L)(f:h q=none):zN h q M p=some L:=by rw [wW (λz=>by subst z;rw [e] at f;cases f)];exact e
theorem jj {a b:Addr}{M:List D}(n:b≠a)(e:h b=some M):zN h a L b=some M:=by rw [wW n];exact e
theorem WY {n:Nat}{i:Nat}{d:D}(h:((List.range n).map λ(k:Nat)=>D.int (k:Int))[i]? =some d):i<n/\d= .int i:=by
 rw [P1] at h
 by_cases hi:i<n
 ·rw [C5 hi] at h;cases h;exact⟨hi,rfl⟩
 ·rw [N2 (by simpa using hi)] at h;cases h
variable {E:EndsD}{σ:SD}
theorem jg {t u:TSD}(V:SD->HD->Prop)(first: ∀K:SD->HD->Prop,(∀σ' h',V σ' h'->K σ' h')->t {E with nx:=K} σ h)(rest: ∀σ' h',V σ' h'->u E σ' h'):Bi t u E σ h:=first (u E) rest
theorem VX (b:But p h h')(e:h' q=none)(n:q≠p):h q=none:=by
 cases z:h q with
 |none=>rfl
 |some ds=>rw [b q ds n z] at e;cases e
def Nxt (E:EndsD)(V:SD->HD->Prop):EndsD:= {E with nx:=λσ3 h3=> ∃h4,Sub h4 h3/\V σ3 h4,ct:=λσ3 h3=> ∃h4,Sub h4 h3/\V σ3 h4,bk:=E.nx}
variable {h1:HD}
theorem yq {ta:TAD}{g:TGD}{tb:TSD}(n:Nat)(W:Nat->SD->HD->Prop)(hn:n<1000000)
 (ht: ∀R:List D->HD->Prop,R [.int (n:Int)] h1->ta σ h R)(w0:W 0 σ h1)(done: ∀σ' h',W n σ' h'->E.nx σ' h')
 (turn: ∀i σ' h',i<n->W i σ' h'->g (.int (i:Int)) σ' h' λσ2 h2=>tb (Nxt E λσ3 h4=>i+1<=n/\W (i+1) σ3 h4) σ2 h2):Aq (iR1 ta) g tb E σ h:=by
 refine ht _ ⟨(n:Int),rfl,by omega,by omega,n,λi σ' h'=>i<=n/\W i σ' h',⟨T4 _,w0⟩,?_⟩;rintro i σ' h' ⟨hi,w⟩;refine⟨_,rfl,by simp,λhl=> ?_,λd hd=> ?_⟩
 ·have:i=n:=by simp at hl;omega
  subst this;exact done _ _ w
 ·obtain⟨hi',e⟩:=WY hd;have hi2:i<n:=by omega
  subst e;exact turn i σ' h' hi2 w
theorem Pr {ti:TID}{g:TGD}{tb:TSD}{j:ItD}(ds:List D)(W:Nat->SD->HD->Prop)
 (ht: ∀R:ItD->HD->Prop,R j h1->ti σ h R)(hj: ∀i σ' h',W i σ' h'->j h'=some ds)(w0:W 0 σ h1)(done: ∀σ' h',W ds.length σ' h'->E.nx σ' h')
 (turn: ∀i d σ' h',ds[i]? =some d->W i σ' h'->g d σ' h' λσ2 h2=>tb (Nxt E λσ3 h4=>i+1<=ds.length/\W (i+1) σ3 h4) σ2 h2):Aq ti g tb E σ h:=by
 refine ht _ ⟨ds.length,λi σ' h'=>i<=ds.length/\W i σ' h',⟨T4 _,w0⟩,?_⟩;rintro i σ' h' ⟨hi,w⟩;refine⟨ds,hj i σ' h' w,G9 _,λhl=> ?_,λd hd=>turn i d σ' h' hd w⟩;have:i=ds.length:=by omega
 subst this;exact done _ _ w
theorem WZ {g:TGD}{tb:TSD}{j:ItD}(ds:List D)(W:Nat->SD->HD->Prop)
 (hj: ∀i σ' h',W i σ' h'->j h'=some ds)(w0:W 0 σ h1)(done: ∀σ' h',W ds.length σ' h'->E.nx σ' h')
 (turn: ∀i d σ' h',ds[i]? =some d->W i σ' h'->g d σ' h' λσ2 h2=>tb (Nxt E λσ3 h4=>i+1<=ds.length/\W (i+1) σ3 h4) σ2 h2):
 ∃ (n:Nat) (W:Nat->SD->HD->Prop),W 0 σ h1/\ ∀i σ' h',W i σ' h'-> ∃ds,j h'=some ds/\ds.length<=n/\(ds.length<=i->E.nx σ' h')/\
  ∀d,ds[i]? =some d->g d σ' h' λσ2 h2=>tb {E with nx:=λσ3 h3=> ∃h4,Sub h4 h3/\W (i+1) σ3 h4,ct:=λσ3 h3=> ∃h4,Sub h4 h3/\W (i+1) σ3 h4,bk:=E.nx} σ2 h2:=by
 refine⟨ds.length,λi σ' h'=>i<=ds.length/\W i σ' h',⟨T4 _,w0⟩,?_⟩;rintro i σ' h' ⟨hi,w⟩;refine⟨ds,hj i σ' h' w,G9 _,λhl=> ?_,λd hd=>turn i d σ' h' hd w⟩;have:i=ds.length:=by omega
 subst this;exact done _ _ w
theorem XA {i:Nat}{js:List Nat}{ta:TAD}{Q:KD}(n:Nat)(W:Nat->List D->HD->Prop)(hn:n<=1000)(ht: ∀R:List D->HD->Prop,R [.int (n:Int)] h1->ta σ h R)
 (w0:W 0 [] h1)(wl: ∀k ys h',W k ys h'->ys.length=k)(turn: ∀k ys h',k<n->W k ys h'->te ((jO js σ).set i (some (.int (k:Int)))) h' λy h4=> ∃h5,Sub h5 h4/\(k+1<=n/\W (k+1) (ys++ [y]) h5))
 (done: ∀ys h',W n ys h'-> ∀p,h' p=none->Q (.lst p) (zN h' p ys)):yj (bN i) js (iR1 ta) WV te σ h Q:=by
 refine ht _ ⟨(n:Int),rfl,by omega,by omega,n,λk ys h'=>k<=n/\W k ys h',⟨T4 _,w0⟩,?_⟩;rintro k ys h' ⟨hk,w⟩;refine⟨by rw [wl k ys h' w];exact D5 (jM (by omega)),_,rfl,by simp,λhl p hp=> ?_,λd hd=>⟨_,rfl,?_⟩⟩
 ·have:k=n:=by simp at hl;omega
  subst this;exact done ys h' w p hp
 ·obtain⟨hi',e⟩:=WY hd;subst e;unfold WV;dsimp only;rw [if_pos rfl];exact turn k ys h' (by omega) w
end L2
namespace L2
open PySem PySem.Spec PyProof.Rows PySem.SeqAt
mutual
def ToP (h:HD):D->PyData->Prop
 |d,.none=>d= .non
 |d,.bool b=>d= .bl b
 |d,.int i=>d= .int i
 |d,.str x=>d= .str x
 |d,.tuple ps=> ∃ds,d= .tup ds/\ToPs h ds ps
 |d,.list ps=> ∃a ds,d= .lst a/\h a=some ds/\ToPs h ds ps
 |_,.dict _=>False
def ToPs (h:HD):List D->List PyData->Prop
 |ds,[]=>ds= []
 |ds,p::ps=> ∃d r,ds=d::r/\ToP h d p/\ToPs h r ps
end
section
variable {X:Cx}{pins:List (Addr×Obj)}{σ:St}{H:Hp}{s:Shared}{h:HD}
mutual
theorem wX (I:Inv X pins σ H s)(rh:RelH X.K h H): ∀ {p:PyData} {d:D} {v:V} {u:Value},ToP h d p->RelD X.K H d v->RelV v u-> ∃as,Reads s.heap u p as
 | .none,d,v,u,t,r,ru=>by cases (show d= .non from t);cases (show v= .non from r);cases (show u= .none from ru);exact⟨[],.none⟩
 | .bool b,d,v,u,t,r,ru=>by cases (show d= .bl b from t);cases (show v= .bl b from r);cases (show u= .bool b from ru);exact⟨[],.bool b⟩
 | .int i,d,v,u,t,r,ru=>by cases (show d= .int i from t);cases (show v= .int i from r);obtain⟨k,rfl⟩:=(show ∃t,u=Value.int i t from ru);exact⟨[],.int i k⟩
 | .str x,d,v,u,t,r,ru=>by cases (show d= .str x from t);cases (show v= .str x from r);obtain⟨k,rfl⟩:=(show ∃t,u=Value.str x t from ru);exact⟨[],.str x k⟩
 | .tuple ps,d,v,u,t,r,ru=>by
  obtain⟨ds,e,ts⟩:=(show ∃ds,d= .tup ds/\ToPs h ds ps from t);subst e;obtain⟨a,vs,e,hH,rs⟩:=(show ∃a vs,v= .ref a/\H a=some (.tup vs)/\RelDs X.K H ds vs from r);subst e;cases (show u= .ref a from ru);obtain⟨its,rv,ht,_⟩:=I.tuple (SqT.of hH);obtain⟨o,ho,hc,n,hd⟩:=ht;obtain⟨as,q⟩:=reads_Ds I rh ts rs rv;exact⟨as,.tuple ho hc hd q⟩
 | .list ps,d,v,u,t,r,ru=>by
  obtain⟨a,ds,e,ha,ts⟩:=(show ∃a ds,d= .lst a/\h a=some ds/\ToPs h ds ps from t);subst e;obtain⟨vs,hH,rs⟩:=rh a ds ha;have e:v= .ref a:=r.1;subst e;cases (show u= .ref a from ru);obtain⟨its,rv,pl,_⟩:=I.list (SqL.of hH);obtain⟨o,ho,hc,n,hd⟩:=pl.isList;obtain⟨as,q⟩:=reads_Ds I rh ts rs rv;exact⟨a::as,.list ho hc hd q⟩
 | .dict _,_,_,_,t,_,_=>(show False from t).elim
theorem reads_Ds (I:Inv X pins σ H s)(rh:RelH X.K h H): ∀ {ps:List PyData} {ds:List D} {vs:List V} {us:List Value},ToPs h ds ps->RelDs X.K H ds vs->Vals vs us-> ∃as,ReadsAll s.heap us ps as
 | [],ds,vs,us,t,r,rv=>by
  cases (show ds= [] from t);cases (show vs= [] from r);cases rv;exact⟨[],.nil⟩
 |p::ps,ds,vs,us,t,r,rv=>by
  obtain⟨d,dr,e,t1,t2⟩:=(show ∃d r,ds=d::r/\ToP h d p/\ToPs h r ps from t);subst e;obtain⟨v,vr,e,r1,r2⟩:=(show ∃v r,vs=v::r/\RelD X.K H d v/\RelDs X.K H dr r from r);subst e;cases rv with
  |cons ru rt=>
   obtain⟨as,q1⟩:=wX I rh t1 r1 ru;obtain⟨bs,q2⟩:=reads_Ds I rh t2 r2 rt;exact⟨as++bs,.cons q1 q2⟩
end
end
def eqE:RD2:=λx y h Q=>match x,y with
 | .int i,.int j=>Q (.bl (decide (i=j))) h
 | .bl i,.bl j=>Q (.bl (decide (i=j))) h
 | .str i,.str j=>Q (.bl (decide (i=j))) h
 |x,y=> ∃p q,ToP h x p/\ToP h y q/\shaped p=true/\shaped q=true/\Q (.bl (PyData.eqv p q)) h
def neE:RD2:=λx y h Q=>match x,y with
 | .int i,.int j=>Q (.bl (!decide (i=j))) h
 | .bl i,.bl j=>Q (.bl (!decide (i=j))) h
 | .str i,.str j=>Q (.bl (!decide (i=j))) h
 |x,y=> ∃p q,ToP h x p/\ToP h y q/\shaped p=true/\shaped q=true/\Q (.bl (!PyData.eqv p q)) h
section
variable {X:Cx}
def eqG:RD2:=λx y h Q=> ∃p q,ToP h x p/\ToP h y q/\shaped p=true/\shaped q=true/\Q (.bl (PyData.eqv p q)) h
def neG:RD2:=λx y h Q=> ∃p q,ToP h x p/\ToP h y q/\shaped p=true/\shaped q=true/\Q (.bl (!PyData.eqv p q)) h
theorem Sl (hu:X.A.units+64<cLine):OpQ X (compareOp .Eq) eqG:=by
 intro pins s σ H x y v u Q I rx ry h;obtain⟨dx,dy,h,Qd,r1,r2,rh,⟨p,q,t1,t2,s1,s2,qq⟩,post⟩:=h;obtain⟨as,a1⟩:=wX I rh t1 r1 rx;obtain⟨bs,b1⟩:=wX I rh t2 r2 ry;exact compareEq_shaped a1 b1 s1 s2 hu ⟨.bl _,H,I,rfl,post (.bl _) _ _ _ (.refl H) rh rfl qq⟩
theorem Sm (hu:X.A.units+64<cLine):OpQ X (compareOp .NotEq) neG:=by
 intro pins s σ H x y v u Q I rx ry h;obtain⟨dx,dy,h,Qd,r1,r2,rh,⟨p,q,t1,t2,s1,s2,qq⟩,post⟩:=h;obtain⟨as,a1⟩:=wX I rh t1 r1 rx;obtain⟨bs,b1⟩:=wX I rh t2 r2 ry;exact compareNe_shaped a1 b1 s1 s2 hu ⟨.bl _,H,I,rfl,post (.bl _) _ _ _ (.refl H) rh rfl qq⟩
theorem OpQ.or' {f:Value->Value->Sem Value}{r r' r2:RD2}(h:OpQ X f r)(h':OpQ X f r')(i: ∀x y hh Q,r2 x y hh Q->r x y hh Q\/r' x y hh Q):OpQ X f r2:=λpins s σ H x y v u Q I rx ry ⟨dx,dy,hd,Qd,r1,r2',rh,q,p⟩=>
 (i dx dy hd Qd q).elim (λz=>h pins s σ H x y v u Q I rx ry ⟨dx,dy,hd,Qd,r1,r2',rh,z,p⟩) λz=>h' pins s σ H x y v u Q I rx ry ⟨dx,dy,hd,Qd,r1,r2',rh,z,p⟩
theorem Vs (hu:X.A.units+64<cLine):OpQ X (compareOp .Eq) eqE:=oq_eq.or' (Sl hu) λx y h Q q=>by
 unfold eqE at q;split at q
 ·exact .inl q
 ·exact .inl q
 ·exact .inl q
 ·exact .inr q
theorem Ma (hu:X.A.units+64<cLine):OpQ X (compareOp .NotEq) neE:=oq_ne.or' (Sm hu) λx y h Q q=>by
 unfold neE at q;split at q
 ·exact .inl q
 ·exact .inl q
 ·exact .inl q
 ·exact .inr q
def isN:D->Bool
 | .non=>true
 |_=>false
def isV (neg:Bool):RD2:=λx y h Q=>match y with
 | .non=>Q (.bl (neg !=isN x)) h
 | .bl c=>match x with
  | .bl b=>Q (.bl (neg !=(b==c))) h
  | .non=>Q (.bl neg) h
  |_=>False
 |_=>False
theorem Og {K:PySem.W.Frag}{H:Hp}{d:D}{v:V}(r:RelD K H d v):decide (v=V.non)=isN d:=by
 cases d with
 |non=>cases (show v= .non from r);rfl
 |bl b=>cases (show v= .bl b from r);rfl
 |int b=>cases (show v= .int b from r);rfl
 |str b=>cases (show v= .str b from r);rfl
 |tup ds=>obtain⟨a,vs,e,_⟩:=(show ∃a vs,v= .ref a/\H a=some (.tup vs)/\RelDs K H ds vs from r);subst e;rfl
 |lst a=>cases (show v= .ref a from r.1);rfl
 |dic x i=>obtain⟨a,e,_⟩:=(show ∃a,v= .ref a/\H a=some (.dK [(Sum.inr x,V.int i)]) from r);subst e;rfl
 |dct a=>cases (show v= .ref a from r);rfl
 |scr ns=>obtain⟨a,e,_⟩:=(show ∃a,v= .ref a/\Scr K H a ns from r);subst e;rfl
 |exc C=>obtain⟨x,o,vs,e,_⟩:=(show ∃x o vs,v= .ref x/\H x=some (.frz o (.own 0))/\o.cls= .ref C/\o.data= .fields vs from r);subst e;rfl
 |fn a=>cases (show v= .ref a from r.1);rfl
theorem Ps:OpQ X (compareOp .IsNot) (isV true):=by
 intro pins s σ H x y v u Q I rx ry h;obtain⟨dx,dy,h,Qd,r1,r2,rh,q,post⟩:=h;cases dy with
 |non=>
  have e:y= .non:=r2;subst e;refine Lc pins s σ H x .non v u Q I rx ry ⟨rfl,?_⟩;rw [Og r1];have q':Qd (.bl (!isN dx)) h:=by simpa [isV] using q
  exact post (.bl _) _ _ _ (.refl H) rh rfl q'
 |bl c=>
  have e:y= .bl c:=r2;subst e;cases (show u= .bool c from ry);cases dx<;>first
   |exact False.elim q
   |skip
  ·have e:x= .non:=r1;subst e;cases (show v= .none from rx);exact wpAny_isNot_plain (by rfl) ⟨.bl true,H,I,rfl,post (.bl true) _ _ _ (.refl H) rh rfl q⟩
  ·rename_i b;have e:x= .bl b:=r1;subst e;cases (show v= .bool b from rx);have eb:(!(Value.bool b==Value.bool c))= !(b==c):=by cases b<;>cases c<;>rfl
   refine wpAny_isNot_plain (by rfl) ⟨.bl (!(b==c)),H,I,by rw [eb];rfl,post (.bl (!(b==c))) _ _ _ (.refl H) rh rfl ?_⟩;simpa [isV] using q
 |_=>exact False.elim q
end
end L2
namespace HT
open PySem PySem.Spec PyProof.Rows
section
variable {prog:Program}{w:World}{A:Around}{E:Value->Shared->Prop}{s:Shared}
theorem Mb (k:Int){vs:List Value}{ns:List Int}(hi:IntsAre vs ns)(j:Nat)(h:j<ns.length): ∃t,vs[j]? =some (.int ns[j] t):=by
 induction hi generalizing j with
 |nil=>simp at h
 |cons n t r ih=>
  cases j with
  |zero=>exact⟨t,rfl⟩
  |succ j=>obtain⟨u,e⟩:=ih j (by simpa using h);exact⟨u,by simpa using e⟩
end
end HT
namespace L2
open PySem PySem.Spec PyProof.Rows
theorem Wk: ∀ {ns:List Int} {us:List Value},Vals (ns.map V.int) us->IntsAre us ns
 | [],_,r=>by cases r;exact .nil
 |n::ns,_,r=>by
  cases r with
  |cons r t=>obtain⟨k,rfl⟩:=r;exact .cons n k (Wk t)
theorem XB: ∀ {ns:List Int} {us:List Value},IntsAre us ns->Vals (ns.map V.int) us
 |_,_,.nil=> .nil
 |_,_,.cons n t r=> .cons ⟨t,rfl⟩ (XB r)
theorem jT {K:PySem.W.Frag}{H:Hp}: ∀ {ns:List Int} {vs:List V},RelDs K H (ns.map D.int) vs->vs=ns.map V.int
 | [],_,h=>h
 |n::ns,vs,h=>by
  obtain⟨v,r,e,h1,h2⟩:=(show ∃v r,vs=v::r/\RelD K H (.int n) v/\RelDs K H (ns.map D.int) r from h);rw [e,jT h2,(show v= .int n from h1)];rfl
theorem Vt (ns:List Int): ∀k,k<=ns.length->preSum (λi=>ns.getD i 0) k=(ns.take k).sum
 |0,_=>by simp [preSum]
 |k+1,h=>by
  have hk:k<ns.length:=by omega
  rw [preSum,Vt ns k (by omega),N3,G0 hk,List.sum_append,P5,G0 hk];simp
variable {X:Cx}
theorem VY (hc:X.calm=true):CallR X (.builtin "sum") (λxs H Q=> ∃ (a:Addr) (ns:List Int),xs= [.ref a]/\SqL X.K H a (ns.map V.int)/\Q (.int ns.sum) H):=by
 intro pins s σ H xs us Q I r h;obtain⟨a,ns,rfl,hS,q⟩:=h;obtain⟨u,rfl,ru⟩:=Wv r;cases ru;obtain⟨its,rv,pl,hz⟩:=I.list hS;have hl:=pl.isList;have hlt:a<s.heap.objs.size:=by obtain⟨_,e,_⟩:=hl;exact P2 e
 have hi:=Wk rv;have hn:its.length=ns.length:=hi.length;refine call_sum_walkAnyS (A2 hl ?_);refine⟨s.heap.objs.size,_,_,_,_,_,_,λi=>ns.getD i 0,rfl,(G03 (A:=X.A.in1) (show X.A.in1.handled=none from I.ok.hd hc) s.heap.objs.size a (R1 hlt) its.toArray).toS,⟨⟨_,P8 _ rfl,rfl,rfl⟩,hl.push _⟩,?_,?_,λs' t' hm=> ?_⟩
 ·intro b hb;simp only [D3,M0,U0] at hb;show b<(s.heap.push _).objs.size;rw [K8];rcases hb with e|e
  ·rw [e];exact C7 _
  ·rw [e];exact J6 hlt
 ·intro i v hP;have e:its[i]? =some v:=by simpa using hP
  have hil:i<ns.length:=by rw [<-hn];exact(G6.mp e).1
  obtain⟨t,e2⟩:=HT.Mb 0 hi i hil;rw [e] at e2;cases e2;refine⟨t,?_⟩;show Value.int ns[i] t=Value.int (ns.getD i 0) t;rw [P5,G0 hil];rfl
 ·have e:preSum (λi=>ns.getD i 0) its.toArray.size=ns.sum:=by
   rw [P6,hn,Vt ns _ (G9 _),K5]
  rw [e];obtain⟨h',g',d',tk',o'⟩:=s';obtain⟨m1,m2,m3,m4,_⟩:=hm;simp only at m1 m2 m3 m4;subst m2 m3 m4;refine⟨.int ns.sum,H,I.kept (t':=tk') (λb o e=>m1 b o (λz=> ?_) (G1 _ e)),⟨_,rfl⟩,q⟩;rw [G3.mp z] at e;exact absurd (P2 e) (S7 _)
def BW:RDn:=λds h Q=> ∃ (a:Addr) (ns:List Int),ds= [.lst a]/\h a=some (ns.map D.int)/\Q (.int ns.sum) (VQ h a)
theorem Mc (hc:X.calm=true):Jf X (.builtin "sum") BW:=(VY hc).imp λxs H Q ⟨ds,h,Qd,r,rh,⟨a,ns,e,hd,q⟩,p⟩=>by
 subst e;obtain⟨v,e,r1⟩:=jH r;obtain⟨vs,hH,r2⟩:=rh a _ hd;have e1:v= .ref a:=r1.1;rw [jT r2] at hH;subst e e1;exact⟨a,ns,rfl,SqL.of hH,p (.int _) _ _ _ (.refl H) (rh.sub (Sub.drop h a)) rfl q⟩
def KI (to ti te:TED):TED:=λσ h Q=>to σ h λx h1=> ∃a,x= .lst a/\ti σ h1 λi h2=>te σ h2 λy h3=> ∃ (k:Nat) (xs:List D),i= .int (k:Int)/\k<=1000/\h3 a=some xs/\xs.length<sizeLine/\Q .non (zN h3 a (xs.take k++y::xs.drop k))
theorem Md:MtM X "list.insert" (λx vs H Q=> ∃ (l:Addr) (xs:List V) (k:Nat) (y:V),x= .ref l/\vs= [.int (k:Int),y]/\H l=some (.lst xs)/\k<=1000/\xs.length<sizeLine/\Q .non (upd H l (.lst (xs.take k++y::xs.drop k)))):=by
 intro pins s σ H x vs v us Q I rx rv h;obtain⟨l,xs,k,y,rfl,rfl,hH,hk,hz,q⟩:=h;cases rx;obtain⟨u,w',rfl,⟨t,rfl⟩,ry⟩:=BD rv;obtain⟨z,its,n,r,hl,e⟩:=I.lstM hH;have hfit: ¬ (!Builtin.List.listFitsIndex (k:Int))=true:=by rw [fitsIndex_both (by omega) (by omega)];exact P4
 have hsz:its.toArray.size<=sizeLine:=by rw [P6];omega
 generalize har:its.toArray=ar at e hsz;obtain⟨kk,hkk⟩: ∃kk:Int,kk=(k:Int):=⟨_,rfl⟩;rw [<-hkk] at hfit ⊢;refine G01 F.slot_list_insert ⟨_,e,rfl⟩ F.entry_list_insert (F.args_list_insert_3 _ _ _) (AutoListH.list_insert_list_int_val_1 l ar n kk t w' hfit hsz) ⟨e,?_⟩;subst har hkk;refine⟨.non,_,I.lset (its':=its.take k++w'::its.drop k) hH e ?_ ((r.take k).append (.cons ry (r.drop k))) ?_,rfl,q⟩
 ·have hk0: ¬ ((k:Int)<0):=by omega
  simp only [hk0,G1l,A4,P6];have e1:its.take (min k its.length)=its.take k:=by
   by_cases hh:k<=its.length
   ·rw [A8 hh]
   ·rw [Nat.min_eq_right (by omega),K5,D7 (by omega)]
  have e2:its.drop (min k its.length)=its.drop k:=by
   by_cases hh:k<=its.length
   ·rw [A8 hh]
   ·rw [Nat.min_eq_right (by omega),List.drop_length,List.drop_of_length_le (by omega)]
  have e3:(its.drop k).take (its.length-min k its.length)=its.drop k:=D7 (by rw [S4];omega);apply Array.ext';simp only [N0,F9,List.extract_toArray,List.extract_eq_drop_take,G1b,G1p];rw [e1,e2,e3,G8];rfl
 ·rw [G7,D8,R3,S4];omega
section
variable {X:Cx}{o e i:Expr}{to te ti:TED}{apos cpos:Pos}
theorem kT (ho:QE X o to)(hi:QE X i ti)(he:QE X e te)(hbase:attributeBase o "insert" X.env (eval o X.env)=eval o X.env:=by rfl)
 (hfew:((backTo cpos (starEach [i,e] X.env)).all (λx=> !x.1)&&(backToKw cpos (keywordEach [] X.env)).all (λx=>x.1.isSome)&&decide ([i,e].length+([]:List Keyword).length+(if ([]:List Keyword).isEmpty then 0 else 1)<30))=true:=by rfl)
 (hline:(apos.endLine==cpos.line)=true:=by rfl)(hs:starEach [i,e] X.env=(false,eval i X.env)::starEach [e] X.env:=by rfl)(hs2:starEach [e] X.env=(false,eval e X.env)::starEach [] X.env:=by rfl)(hplain:(backTo cpos (starEach [e] X.env)).any (·.1)=false:=by rfl):
 QE X (.Call (.Attribute o "insert" apos) [i,e] [] cpos) (KI to ti te):=
 (Eo G0x PySem.F.slot_list_insert PySem.F.type_list_insert Md ho (vo hi (vo he pa_nil hs2) hs) hbase hfew hline hs hplain).imp
  λσ H Q ⟨σd,h,Qd,rs,rh,t,p⟩=>LE.bind rs rh t λd v h1 H1 k1 rs1 rh1 r1 ⟨a,e,q⟩=>by
   subst e;obtain⟨e1,vs,hH⟩:=(show v= .ref a/\ ∃vs,H1 a=some (.lst vs) from r1);subst e1;refine⟨.inl ⟨rfl,vs,SqL.of hH⟩,?_⟩;refine LE.bind rs1 rh1 q λdi vi h2 H2 k2 rs2 rh2 r2 q2=>LE.bind rs2 rh2 q2 λy u h3 H3 k3 rs3 rh3 r3 ⟨k,xs,ei,hk,hx,hz,q3⟩=> ?_
   subst ei;have ev:vi= .int (k:Int):=r2;obtain⟨ws,hW,r4⟩:=rh3 a xs hx;refine⟨a,ws,k,u,rfl,by rw [ev],hW,hk,by rw [<-r4.length];exact hz,p .non _ _ _ (k1.trans (k2.trans (k3.trans (.put hW)))) (rh3.put hW ((r4.take k).append (.cons r3 (r4.drop k)))) rfl q3⟩
end
structure JE (X:Cx)(e:Expr)(t:TED):Prop where
 to:QE X e t
structure JT (X:Cx)(e:Expr)(t:TTD):Prop where
 to:QT X e t
structure JW (X:Cx)(e:Expr)(t:TTD):Prop where
 to:QW X e t
structure JA (X:Cx)(e:List Expr)(t:TAD):Prop where
 to:QA X e t
structure JS (X:Cx)(e:Stmt)(t:TSD):Prop where
 to:QS X e t
structure JSs (X:Cx)(e:List Stmt)(t:TSD):Prop where
 to:QSs X e t
structure JG (X:Cx)(e:Expr)(t:TGD):Prop where
 to:QG X e t
structure JI (X:Cx)(tg e:Expr)(t:TID):Prop where
 to:QI X tg e t
structure JO (X:Cx)(e:Option Expr)(t:TOD):Prop where
 to:QO X e t
section
variable {X:Cx}{a b c e:Expr}{es rest:List Expr}{ta tb tc te:TED}{t u:TAD}{tt tu:TTD}{pos:Pos}{f r r':RD2}
theorem jv (i:Nat){x:Str}(hN:X.N[i]? =some x:=by rfl)(hv:Vis X.env.scope x:=by first|exact Or.inl rfl|exact Or.inr (Or.inl rfl)|exact Or.inr (Or.inr rfl))(hd:(x==("__debug__" :Str))=false:=by decide)(hcd:(x==("__classdict__" :Str))=false:=by decide):JE X (.Name x pos) (BK i):=⟨qv (i:=i) (hN:=hN) (hv:=hv) (hd:=hd) (hcd:=hcd)⟩
theorem jE {i:Int}{j:Nat}:JE X (.Constant (.int i) j pos) (dC (.int i)):=⟨kc⟩
theorem jbl {i:Bool}{j:Nat}:JE X (.Constant (.bool i) j pos) (dC (.bl i)):=⟨qbl⟩
theorem HJ {j:Nat}:JE X (.Constant .none j pos) (dC .non):=⟨ke⟩
theorem Dm {x:Str}{i:Int}{tk:Tok}(hg:Gl X x)(hm:X.mg x=some (.int i tk))(hd:(x==("__debug__" :Str))=false:=by decide):JE X (.Name x pos) (dC (.int i)):=⟨Hh (hg:=hg) (hm:=hm) (hd:=hd)⟩
theorem jop {op:Operator}(ho:OpQ X (binaryOp op) f)(ha:JE X a ta)(hb:JE X b tb):JE X (.BinOp a op b pos) (dOp f ta tb):=⟨qop (ho:=ho) (ha:=ha.to) (hb:=hb.to)⟩
variable {op:CmpOp}
theorem XC (ho:OpQ X (compareOp op) f)(ha:JE X a ta)(hb:JE X b tb)(hm:behindInMarks op b=false):JE X (.Compare a [op] [b] pos) (dOp f ta tb):=⟨kf (ho:=ho) (ha:=ha.to) (hb:=hb.to) (hm:=hm)⟩
theorem wN (ho:OpQ X (compareOp op) f)(ha:JE X a ta)(hb:JE X b tb)(hm:behindInMarks op b=false):JT X (.Compare a [op] [b] pos) (Zc (dOp f ta tb)):=⟨Hi (ho:=ho) (ha:=ha.to) (hb:=hb.to) (hm:=hm)⟩
theorem Sn {op':CmpOp}(ho:OpQ X (compareOp op) r)(ho':OpQ X (compareOp op') r')(ha:JE X a ta)(hb:JE X b tb)(hc:JE X c tc)(hm:lastMarks [op,op'] [b,c]=false:=by with_unfolding_all rfl):JE X (.Compare a [op,op'] [b,c] pos) (WU r r' ta tb tc):=⟨EE (ho:=ho) (ho':=ho') (ha:=ha.to) (hb:=hb.to) (hc:=hc.to) (hm:=hm)⟩
theorem Me {op':CmpOp}(ho:OpQ X (compareOp op) r)(ho':OpQ X (compareOp op') r')(ha:JE X a ta)(hb:JE X b tb)(hc:JE X c tc)(hm:lastMarks [op,op'] [b,c]=false:=by with_unfolding_all rfl):JT X (.Compare a [op,op'] [b,c] pos) (Zc (WU r r' ta tb tc)):=⟨Ly (ho:=ho) (ho':=ho') (ha:=ha.to) (hb:=hb.to) (hc:=hc.to) (hm:=hm)⟩
theorem yr (ha:JE X a ta)(he: ∀whole,isTrue a X.env whole=(do let v <-whole;standAt a.pos;holding [v] (truthy v)):=by intro _;rfl):JT X a (Zc ta):=⟨Hj (ha:=ha.to) (he:=he)⟩
theorem Mf (ha:JT X a tt):JW X (.BoolOp .And [a] pos) tt:=⟨Hk (ha:=ha.to)⟩
theorem Tn (ha:JT X a tt):JW X (.BoolOp .Or [a] pos) tt:=⟨kg (ha:=ha.to)⟩
theorem Mg (ha:JT X a tt)(hb:JW X (.BoolOp .And (b::rest) pos) tu):JW X (.BoolOp .And (a::b::rest) pos) (Lv tt tu):=⟨Hl (ha:=ha.to) (hb:=hb.to)⟩
theorem To (ha:JT X a tt)(hb:JW X (.BoolOp .Or (b::rest) pos) tu):JW X (.BoolOp .Or (a::b::rest) pos) (Eu tt tu):=⟨kh (ha:=ha.to) (hb:=hb.to)⟩
theorem Jg (ha:JT X a tt):JT X (.UnaryOp .Not a pos) (RK tt):=⟨Hm (ha:=ha.to)⟩
theorem Mh {op:BoolOp}(ha:JE X a ta):JE X (.BoolOp op [a] pos) ta:=⟨ki (ha:=ha.to)⟩
theorem FB (ha:JE X a ta)(hb:JE X (.BoolOp .And (b::rest) pos) tb):JE X (.BoolOp .And (a::b::rest) pos) (BL ta tb):=⟨kj (ha:=ha.to) (hb:=hb.to)⟩
theorem jor (ha:JE X a ta)(hb:JE X (.BoolOp .Or (b::rest) pos) tb):JE X (.BoolOp .Or (a::b::rest) pos) (Hd ta tb):=⟨qor (ha:=ha.to) (hb:=hb.to)⟩
theorem kU (ha:JE X a ta):JE X (.UnaryOp .Not a pos) (BM ta):=⟨kl (ha:=ha.to)⟩
theorem jif {c:Expr}(hc:JT X c tt)(ha:JE X a ta)(hb:JE X b tb):JE X (.IfExp c a b pos) (dIf tt ta tb):=⟨qif (hc:=hc.to) (ha:=ha.to) (hb:=hb.to)⟩
theorem jd:JA X [] WE:=⟨EF⟩
theorem HK {k:Nat}(h:JA X es t):JE X (.Tuple es k pos) (Hc t):=⟨km (h:=h.to)⟩
theorem VZ (h:JA X es t):JE X (.List es pos) (Ap t):=⟨kq (h:=h.to)⟩
end
section
variable {X:Cx}{st:Stmt}{sts:List Stmt}{t u:TSD}{e:Expr}{te:TED}{pos:Pos}
theorem jW:JSs X [] Dj:=⟨EL⟩
theorem je (h1:JS X st t)(h2:JSs X sts u):JSs X (st::sts) (Bi t u):=⟨LJ (h1:=h1.to) (h2:=h2.to)⟩
theorem jh (h1:JS X st t):JSs X [st] t:=⟨EM (h1:=h1.to)⟩
theorem yM (he:JE X e te)(hs:swapsWith e none pos.line X.env=pure false:=by rfl):JS X (.Expr e pos) (LB te):=⟨Hr (he:=he.to) (hs:=hs)⟩
theorem wY (he:JE X e te):JS X (.Return (some e) pos) (BO te):=⟨kr (he:=he.to)⟩
theorem ZK {c:Expr}{a b:List Stmt}{tc:TTD}(hc:JT X c tc)(ha:JSs X a t)(hb:JSs X b u):JS X (.If c a b pos) (BP tc t u):=⟨ku (hc:=hc.to) (ha:=ha.to) (hb:=hb.to)⟩
variable {i:Nat}{x:Str}
theorem yN {pos':Pos}(hN:X.N.Nodup)(hi:X.N[i]? =some x)(hx:Loc X.env.scope x)(he:JE X e te)(hs:swapsWith e (some (.Name x pos')) pos.line X.env=pure false:=by rfl)(hf:X.fn x=true\/X.env.scope.names.lookup x=some .local:=by first|exact .inl rfl|exact .inr rfl|assumption):JS X (.Assign [.Name x pos'] e pos) (Bj i te):=⟨kG (hN:=hN) (hi:=hi) (hx:=hx) (he:=he.to) (hs:=hs) (hf:=hf)⟩
theorem zK (hN:X.N.Nodup)(hi:X.N[i]? =some x)(hx:Loc X.env.scope x)(hf:X.fn x=true\/X.env.scope.names.lookup x=some .local:=by first|exact .inl rfl|exact .inr rfl|assumption):JG X (.Name x pos) (gN i):=⟨LK (hN:=hN) (hi:=hi) (hx:=hx) (hf:=hf)⟩
theorem FC {j:Nat}{y:Str}{p1 p2:Pos}{k:Nat}(hc:X.calm=true)(hN:X.N.Nodup)(hi:X.N[i]? =some x)(hj:X.N[j]? =some y)(hx:Loc X.env.scope x)(hy:Loc X.env.scope y)(hf:X.fn x=true\/X.env.scope.names.lookup x=some .local:=by first|exact .inl rfl|exact .inr rfl|assumption)(hf2:X.fn y=true\/X.env.scope.names.lookup y=some .local:=by first|exact .inl rfl|exact .inr rfl|assumption):JG X (.Tuple [.Name x p1,.Name y p2] k pos) (gT2 i j):=⟨EN (hc:=hc) (hN:=hN) (hi:=hi) (hj:=hj) (hx:=hx) (hy:=hy) (hf:=hf) (hf2:=hf2)⟩
theorem As {tg:Expr}{g:TGD}(he:JE X e te)(hg:JG X tg g)(hs:swapsWithSole [tg] e pos.line X.env=pure false:=by rfl)(hsw:swappedStores [tg] e X.env=pure none:=by rfl)(h1:(assignEach [tg] X.env).map (·.2)= [assign tg X.env]:=by rfl):JS X (.Assign [tg] e pos) (Hn te g):=⟨kH (he:=he.to) (hg:=hg.to) (hs:=hs) (hsw:=hsw) (h1:=h1)⟩
theorem HL {j:Nat}{y:Str}{a b:Expr}{ta:TAD}{px py pt:Pos}{kt k2 pt2}(hc:X.calm=true)(hN:X.N.Nodup)(hi:X.N[i]? =some x)(hj:X.N[j]? =some y)(hij:i≠j)(hx:X.env.scope.names.lookup x=some .local)(hy:X.env.scope.names.lookup y=some .local)(ha:JA X [a,b] ta)(hw:swappedStores [.Tuple [.Name x px,.Name y py] kt pt] (.Tuple [a,b] k2 pt2) X.env=pure (some [x,y]))(hs:swapsWithSole [.Tuple [.Name x px,.Name y py] kt pt] (.Tuple [a,b] k2 pt2) pos.line X.env=pure false:=by rfl):JS X (.Assign [.Tuple [.Name x px,.Name y py] kt pt] (.Tuple [a,b] k2 pt2) pos) (Ho i j ta):=⟨kI (hc:=hc) (hN:=hN) (hi:=hi) (hj:=hj) (hij:=hij) (hx:=hx) (hy:=hy) (ha:=ha.to) (hw:=hw) (hs:=hs)⟩
end
section
variable {X:Cx}{tg e iter elt:Expr}{te:TED}{ti:TID}{g:TGD}{tb:TSD}{tt:TTD}{pos:Pos}{ta:TAD}{scope:Scope}{js:List Nat}{ifs:List Expr}
theorem Mi (he:JE X e te):JI X tg e (iL te):=⟨LP (he:=he.to)⟩
theorem yG {p:Pos}{a:Expr}(hg:Gl X "range")(hm:X.mg "range" =none)(ha:JA X [a] ta)(hs:starEach [a] X.env= [(false,eval a X.env)]:=by rfl):JI X tg (.Call (.Name "range" p) [a] [] pos) (iR1 ta):=⟨Hv (hg:=hg) (hm:=hm) (ha:=ha.to) (hs:=hs)⟩
theorem Gb {body:List Stmt}(hp:PassesOwn (model X.prog X.w) X.A X.env X.xe)(hc:X.calm=true)(hi:JI X tg iter ti)(hg:JG X tg g)(hb:JSs X body tb)(hs: ∀x,foldedSetIterable iter X.env x=pure x:=by intro _;rfl):JS X (.For tg iter body [] pos) (Aq ti g tb):=⟨kJ (hp:=hp) (hc:=hc) (hi:=hi.to) (hg:=hg.to) (hb:=hb.to) (hs:=hs)⟩
theorem jQ:PTs X [] (LT X.K WV):=LQ
theorem vt {c:Expr}(hc:JT X c tt):PTs X [c] (LT X.K tt):=LU (hc:=hc.to)
theorem jlc {i:Nat}{x:Str}{p:Pos}(hc:X.calm=true)(S:BlockOk X scope js)(hi:JI X (.Name x p) iter ti)(hj:i∈js)(hN:X.N.Nodup)(hx:X.N[i]? =some x)(hl:scope.names.lookup x=some .local\/scope.names.lookup x=some .cell)(ht: ∀X',jG X scope X'->PTs X' ifs (LT X'.K tt))(he: ∀X',jG X scope X'->JE X' elt te)(hs: ∀x,foldedSetIterable iter X.env x=pure x:=by intro _;rfl):JE X (.ListComp elt [⟨.Name x p,iter,ifs,0⟩] scope pos) (yj (bN i) js ti tt te):=⟨qlc (hc:=hc) (S:=S) (hi:=hi.to) (hj:=hj) (hN:=hN) (hx:=hx) (hl:=hl) (ht:=ht) (he:=λX' hX=>(he X' hX).to) (hs:=hs)⟩
theorem Tp {i j:Nat}{x y:Str}{p1 p2 p3:Pos}{k:Nat}(hc:X.calm=true)(S:BlockOk X scope js)(hi:JI X (.Tuple [.Name x p1,.Name y p2] k p3) iter ti)(hj:i∈js)(hj2:j∈js)(hij:i≠j)(hN:X.N.Nodup)(hx:X.N[i]? =some x)(hy:X.N[j]? =some y)(hl:scope.names.lookup x=some .local\/scope.names.lookup x=some .cell)(hl2:scope.names.lookup y=some .local\/scope.names.lookup y=some .cell)(ht: ∀X',jG X scope X'->PTs X' ifs (LT X'.K tt))(he: ∀X',jG X scope X'->JE X' elt te)(hs: ∀x,foldedSetIterable iter X.env x=pure x:=by intro _;rfl):JE X (.ListComp elt [⟨.Tuple [.Name x p1,.Name y p2] k p3,iter,ifs,0⟩] scope pos) (yj (b2 i j) js ti tt te):=⟨kK (hc:=hc) (S:=S) (hi:=hi.to) (hj:=hj) (hj2:=hj2) (hij:=hij) (hN:=hN) (hx:=hx) (hy:=hy) (hl:=hl) (hl2:=hl2) (ht:=ht) (he:=λX' hX=>(he X' hX).to) (hs:=hs)⟩
end
section
variable {X:Cx}{k:Nat}{f:Addr}{fd:FuncData}{ps:List Str}{spd:RDn}{x:Str}{p pos:Pos}{e:Expr}{es:List Expr}{t:TAD}
theorem jy (F:FnOk X.prog X.w X.K X.mg X.base CX0 k f fd ps (LSp X.K spd))(hr:Room k X.A)(hg:Gl X x)(hm:X.mg x=some (.ref f))(hk:PySem.W.keepIn X.K (.ref f)=true)(hb:Binds X.K fd ps [])(ha:JA X (e::es) t)(hdb:(x==("__debug__" :Str))=false:=by decide)(he:starEach (e::es) X.env=(false,eval e X.env)::starEach es X.env:=by rfl)(hpl:(backTo pos (starEach es X.env)).any (·.1)=false:=by rfl):JE X (.Call (.Name x p) (e::es) [] pos) (dCB spd t):=⟨Hw (F:=F) (hr:=hr) (hg:=hg) (hm:=hm) (hk:=hk) (hb:=hb) (ha:=ha.to) (hdb:=hdb) (he:=he) (hpl:=hpl)⟩
theorem jP {id:String}{r:RDn}(hc:Jf X (.builtin id) r)(hg:Gl X x)(hm:X.mg x=none)(hv:bootBuiltins x=some (.builtin id))(ha:JA X (e::es) t)(hn:x≠ "__name__" :=by decide)(hdb:(x==("__debug__" :Str))=false:=by decide)(he:starEach (e::es) X.env=(false,eval e X.env)::starEach es X.env:=by rfl)(hpl:(backTo pos (starEach es X.env)).any (·.1)=false:=by rfl):JE X (.Call (.Name x p) (e::es) [] pos) (dCB r t):=⟨ES (hc:=hc) (hg:=hg) (hm:=hm) (hv:=hv) (ha:=ha.to) (hn:=hn) (hdb:=hdb) (he:=he) (hpl:=hpl)⟩
theorem wD {T:String}{r:RDn}(hc:Jf X (.type T) r)(hg:Gl X x)(hm:X.mg x=none)(hv:bootBuiltins x=some (.type T))(ha:JA X (e::es) t)(hn:x≠ "__name__" :=by decide)(hdb:(x==("__debug__" :Str))=false:=by decide)(he:starEach (e::es) X.env=(false,eval e X.env)::starEach es X.env:=by rfl)(hpl:(backTo pos (starEach es X.env)).any (·.1)=false:=by rfl):JE X (.Call (.Name x p) (e::es) [] pos) (dCB r t):=⟨LW (hc:=hc) (hg:=hg) (hm:=hm) (hv:=hv) (ha:=ha.to) (hn:=hn) (hdb:=hdb) (he:=he) (hpl:=hpl)⟩
end
section
variable {X:Cx}{iter elt:Expr}{te:TED}{ti:TID}{tt:TTD}{pos spos:Pos}{scope:Scope}{js:List Nat}{ifs:List Expr}
theorem Pt {i k:Nat}{x y:Str}{p py:Pos}(hc:X.calm=true)(hN:X.N.Nodup)(hk:X.N[k]? =some y)(hy:Loc X.env.scope y)(S:BlockOk X scope js)(hi:JI X (.Name x p) iter ti)(hj:i∈js)(hx:X.N[i]? =some x)(hl:scope.names.lookup x=some .local\/scope.names.lookup x=some .cell)(ht: ∀X',jG X scope X'->PTs X' ifs (LT X'.K tt))(he: ∀X',jG X scope X'->JE X' elt te)(hsw:swapsWith (.ListComp elt [⟨.Name x p,iter,ifs,0⟩] scope pos) (some (.Name y py)) spos.line X.env=pure true:=by rfl)(hf:X.fn y=true\/X.env.scope.names.lookup y=some .local:=by first|exact .inl rfl|exact .inr rfl|assumption)(hs: ∀x,foldedSetIterable iter X.env x=pure x:=by intro _;rfl):JS X (.Assign [.Name y py] (.ListComp elt [⟨.Name x p,iter,ifs,0⟩] scope pos) spos) (Bj k (yj (bN i) js ti tt te)):=⟨ET (hc:=hc) (hN:=hN) (hk:=hk) (hy:=hy) (S:=S) (hi:=hi.to) (hj:=hj) (hx:=hx) (hl:=hl) (ht:=ht) (he:=λX' hX=>(he X' hX).to) (hsw:=hsw) (hf:=hf) (hs:=hs)⟩
end
section
variable {X:Cx}{a b e:Expr}{ta tb te:TED}{pos p2:Pos}
theorem jix (ha:JE X a ta)(hb:JE X b tb)(hs:Gh b):JE X (.Subscript a b pos) (dOp ixD ta tb):=⟨qix (ha:=ha.to) (hb:=hb.to) (hs:=hs)⟩
end
theorem Mj {a:Expr}{ta:TED}{T:String}{t:Str}{p p2 pos:Pos}(hT:T∈ ["tuple","int","bool","list","str"])(hg:Gl X "isinstance")(hm:X.mg "isinstance" =none)(hg2:Gl X t)(hm2:X.mg t=none)(hv:bootBuiltins t=some (.type T))(ha:JE X a ta)(hn:t≠ "__name__" :=by decide)(hd:(t==("__debug__" :Str))=false:=by decide)(h1:starEach [a,.Name t p2] X.env=(false,eval a X.env)::starEach [.Name t p2] X.env:=by rfl)(h2:(backTo pos (starEach [.Name t p2] X.env)).any (·.1)=false:=by rfl):JE X (.Call (.Name "isinstance" p) [a,.Name t p2] [] pos) (dIs T ta):=⟨HF (hT:=hT) (hg:=hg) (hm:=hm) (hg2:=hg2) (hm2:=hm2) (hv:=hv) (ha:=ha.to) (hn:=hn) (hd:=hd) (h1:=h1) (h2:=h2)⟩
section
variable {X:Cx}{o e i:Expr}{to te ti:TED}{apos cpos pos:Pos}
theorem At (ho:JE X o to)(he:JE X e te)(hbase:attributeBase o "append" X.env (eval o X.env)=eval o X.env:=by rfl)(hfew:((backTo cpos (starEach [e] X.env)).all (λx=> !x.1)&&(backToKw cpos (keywordEach [] X.env)).all (λx=>x.1.isSome)&&decide ([e].length+([]:List Keyword).length+(if ([]:List Keyword).isEmpty then 0 else 1)<30))=true:=by rfl)(hline:(apos.endLine==cpos.line)=true:=by rfl)(hs:starEach [e] X.env=(false,eval e X.env)::starEach [] X.env:=by rfl)(hplain:(backTo cpos (starEach [] X.env)).any (·.1)=false:=by rfl):JE X (.Call (.Attribute o "append" apos) [e] [] cpos) (KF to te):=⟨kO (ho:=ho.to) (he:=he.to) (hbase:=hbase) (hfew:=hfew) (hline:=hline) (hs:=hs) (hplain:=hplain)⟩
theorem XD (ho:JE X o to)(hi:JE X i ti)(ha: ∀v,assign (.Subscript o i pos) X.env v=(do
 let ov <-holding [v] (eval o X.env)
 let iv <-holding [v,ov] (eval i X.env)
 standAt pos
 holding [v,ov,iv] (setItem ov iv v)
 release [v,ov,iv] []):=by intro _;rfl):JG X (.Subscript o i pos) (Sc to ti):=⟨Sd (ho:=ho.to) (hi:=hi.to) (ha:=ha)⟩
end
theorem jpt {e:Expr}{t:TTD}(h:JW X e t):JT X e t:=⟨qpt (h:=h.to)⟩
theorem Mk:JO X none RW:=⟨Od⟩
variable {te:TED}
theorem Ua {e:Expr}(he:JE X e te):JO X (some e) (Se te):=⟨Oe (he:=he.to)⟩
theorem Ml {e:Expr}{lo hi:Option Expr}{tl th:TOD}{pos p2:Pos}(he:JE X e te)(hl:JO X lo tl)(hu:JO X hi th):JE X (.Subscript e (.Slice lo hi none p2) pos) (dSl te tl th):=⟨Sf (he:=he.to) (hl:=hl.to) (hu:=hu.to)⟩
theorem So {a:Expr}{ta:TED}{pos:Pos}(ha:JE X a ta):JE X (.UnaryOp .USub a pos) (dUn KH ta):=⟨kQ (ha:=ha.to)⟩
theorem wK {tg e:Expr}(he:JE X e te):JI X tg e (iS te):=⟨Sj (he:=he.to)⟩
theorem Vu {st:Stmt}:JS X st FA:=⟨Sk⟩
theorem jac {e:Expr}{es:List Expr}{t:TAD}(ha:JE X e te)(hr:JA X es t)(h:Gm e=true:=by rfl):JA X (e::es) (wC te t):=⟨qac (ha:=ha.to) (hr:=hr.to) (h:=h)⟩
section
variable {X:Cx}{o e i:Expr}{to te ti:TED}{apos cpos:Pos}
theorem kX (ho:JE X o to)(hi:JE X i ti)(he:JE X e te)(hbase:attributeBase o "insert" X.env (eval o X.env)=eval o X.env:=by rfl)(hfew:((backTo cpos (starEach [i,e] X.env)).all (λx=> !x.1)&&(backToKw cpos (keywordEach [] X.env)).all (λx=>x.1.isSome)&&decide ([i,e].length+([]:List Keyword).length+(if ([]:List Keyword).isEmpty then 0 else 1)<30))=true:=by rfl)(hline:(apos.endLine==cpos.line)=true:=by rfl)(hs:starEach [i,e] X.env=(false,eval i X.env)::starEach [e] X.env:=by rfl)(hs2:starEach [e] X.env=(false,eval e X.env)::starEach [] X.env:=by rfl)(hplain:(backTo cpos (starEach [e] X.env)).any (·.1)=false:=by rfl):JE X (.Call (.Attribute o "insert" apos) [i,e] [] cpos) (KI to ti te):=⟨kT (ho:=ho.to) (hi:=hi.to) (he:=he.to) (hbase:=hbase) (hfew:=hfew) (hline:=hline) (hs:=hs) (hs2:=hs2) (hplain:=hplain)⟩
end
section
variable {P:Program}{w:World}{K:PySem.W.Frag}{mg:Str->Option Value}{base:Heap}
theorem Fun.okJ {x qual:Str}{st:Stmt}{f:Addr}{fd:FuncData}{N ps:List Str}{k:Nat}{spd:RDn}(F:Fun K x qual st f fd)(S:FnScope N ps (jf st))(len: ∀ds h Q,spd ds h Q->ds.length=ps.length)
 (tb:TSD)(hbody: ∀ (cdv:Value) (A:Around) (outer:List Env) (s:Shared) (H:Hp) (E:XK),Room k (A.deeper (envOfC qual (jf st) s.heap.objs.size f cdv))->JSs (Fu CX0 P w K mg base N qual (jf st) f cdv A outer s H E).nox (wV st) tb)
 (read: ∀ds h Q,spd ds h Q->tb (BR Q) (va N ds) h):FnOk P w K mg base CX0 (k+1) f fd ps (LSp K spd):=F.okD S len tb (λcdv A outer s H E hr=>(hbody cdv A outer s H E hr).to) read
end
def Gc (r:List Int):D:= .tup (r.map D.int)
def zH (T:List (List Int)):D:= .tup (T.map Gc)
def Jx (n:Nat)(r:List Int):Prop:=r.length=n/\ ∀x∈r,0<=x/\x<=1000000
def GoodTab (n:Nat)(T:List (List Int)):Prop:=T.length=n/\ ∀r∈T,Jx n r
structure Sq (n e:Nat)(T:List (List Int)):Prop where
 len:T.length=n
 row: ∀r∈T,r.length=n
 nn: ∀r∈T,∀x∈r,0<=x
 bit: ∀r∈T,∀x∈r,x<2^e
variable {n:Nat}{T:List (List Int)}
theorem GoodTab.sq (g:GoodTab n T):Sq n 20 T:=⟨g.1,λr hr=>(g.2 r hr).1,λr hr x hx=>((g.2 r hr).2 x hx).1,λr hr x hx=>Int.lt_of_le_of_lt ((g.2 r hr).2 x hx).2 (by decide)⟩
variable {e f:Nat}
theorem Sq.mono (h:Sq n e T)(l:e<=f):Sq n f T:=⟨h.len,h.row,h.nn,λr hr x hx=>Int.lt_of_lt_of_le (h.bit r hr x hx) (by
 have:(2:Nat)^e<=2^f:=G05 (by decide) l;have h2:((2^e:Nat):Int)<=((2^f:Nat):Int):=by exact_mod_cast this
 simpa using h2)⟩
def ent (T:List (List Int))(i j:Nat):Int:=(T.getD i []).getD j 0
def mkT (n:Nat)(f:Nat->Nat->Int):List (List Int):=(List.range n).map λi=>(List.range n).map λj=>f i j
theorem Ze {i j:Nat}{f:Nat->Nat->Int}(hi:i<n)(hj:j<n):ent (mkT n f) i j=f i j:=by
 unfold ent mkT;simp [P5,hi,hj]
theorem yO {α:Type}(xs:List α)(d:α):xs=(List.range xs.length).map λi=>xs.getD i d:=by
 apply X7 (by simp);intro i h1 h2;simp [P5,h1]
theorem Sq.eq_mk (h:Sq n e T):T=mkT n (ent T):=by
 have h1:=yO T [];rw [h.len] at h1;unfold mkT
 conv=>lhs;rw [h1]
 apply T8;intro i hi;have hi':i<T.length:=by rw [h.len];exact R0.mp hi
 have hr:(T.getD i []).length=n:=by
  rw [P5,G0 hi'];exact h.row _ (M1 hi')
 have h2:=yO (T.getD i []) 0;rw [hr] at h2;exact h2
theorem BX {f g:Nat->Nat->Int}(h: ∀i j,i<n->j<n->f i j=g i j):mkT n f=mkT n g:=by
 unfold mkT;apply T8;intro i hi;apply T8;intro j hj;exact h i j (R0.mp hi) (R0.mp hj)
theorem Sq.of_mk {f:Nat->Nat->Int}(h0: ∀i j,i<n->j<n->0<=f i j)(h1: ∀i j,i<n->j<n->f i j<2^e):Sq n e (mkT n f):=by
 have key: ∀r∈mkT n f,∃i,i<n/\r=(List.range n).map λj=>f i j:=λr hr=>by
  obtain⟨i,hi,e⟩:=R5.mp hr;exact⟨i,R0.mp hi,e.symm⟩
 refine⟨by simp [mkT],λr hr=> ?_,λr hr x hx=> ?_,λr hr x hx=> ?_⟩
 ·obtain⟨i,_,e⟩:=key r hr;rw [e];simp
 ·obtain⟨i,hi,e⟩:=key r hr;rw [e] at hx;obtain⟨j,hj,e2⟩:=R5.mp hx;rw [<-e2];exact h0 i j hi (R0.mp hj)
 ·obtain⟨i,hi,e⟩:=key r hr;rw [e] at hx;obtain⟨j,hj,e2⟩:=R5.mp hx;rw [<-e2];exact h1 i j hi (R0.mp hj)
theorem Sq.ent_nn (h:Sq n e T){i j:Nat}(hi:i<n)(hj:j<n):0<=ent T i j/\ent T i j<2^e:=by
 have hi':i<T.length:=by rw [h.len];exact hi
 have hr:T.getD i []=T[i]:=by rw [P5,G0 hi'];rfl
 have hm:T[i]∈T:=M1 hi';have hj':j<T[i].length:=by rw [h.row _ hm];exact hj
 have he:ent T i j=T[i][j]:=by unfold ent;rw [hr,List.getD_eq_getElem?_getD,List.getElem?_eq_getElem hj'];rfl
 rw [he];exact⟨h.nn _ hm _ (M1 hj'),h.bit _ hm _ (M1 hj')⟩
variable {U:List (List Int)}
theorem Sq.ext (h:Sq n e T)(g:Sq n f U)(k: ∀i j,i<n->j<n->ent T i j=ent U i j):T=U:=by
 rw [h.eq_mk,g.eq_mk];exact BX k
def zn (n:Nat)(f:Nat->Int):Int:=((List.range n).map f).sum
theorem yH (f:Nat->Int):zn 0 f=0:=rfl
theorem jS (n:Nat)(f:Nat->Int):zn (n+1) f=zn n f+f n:=by
 unfold zn;rw [List.range_succ,List.map_append,List.sum_append];simp
theorem zL {f g:Nat->Int}(h: ∀k,k<n->f k=g k):zn n f=zn n g:=by
 unfold zn;congr 1;apply List.map_congr_left;intro k hk;exact h k (List.mem_range.mp hk)
theorem Ub {f:Nat->Int}(h: ∀k,k<n->0<=f k):0<=zn n f:=by
 induction n with
 |zero=>exact G1r _
 |succ n ih=>rw [jS];have:=ih λk hk=>h k (by omega);have:=h n (by omega);omega
theorem BY {f:Nat->Int}{b:Int}(h: ∀k,k<n->f k<=b):zn n f<=n*b:=by
 induction n with
 |zero=>simp [yH]
 |succ n ih=>
  rw [jS];have h1:=ih λk hk=>h k (by omega);have h2:=h n (by omega)
  have:((n+1:Nat):Int)*b=(n:Int)*b+b:=by rw [G0Q,Int.add_mul];simp
  omega
theorem Mm (n:Nat)(f g:Nat->Int):zn n (λk=>f k+g k)=zn n f+zn n g:=by
 induction n with
 |zero=>rfl
 |succ n ih=>rw [jS,jS,jS,ih];omega
theorem Ya (n:Nat)(c:Int)(f:Nat->Int):zn n (λk=>c*f k)=c*zn n f:=by
 induction n with
 |zero=>simp [yH]
 |succ n ih=>rw [jS,jS,ih,Int.mul_add]
theorem Do (n:Nat)(c:Int)(f:Nat->Int):zn n (λk=>f k*c)=zn n f*c:=by
 rw [G0R,<-Ya];exact zL λk _=>G0R _ _
theorem Dp (m n:Nat)(f:Nat->Nat->Int):zn m (λi=>zn n (f i))=zn n (λj=>zn m λi=>f i j):=by
 induction m with
 |zero=>
  rw [yH]
  induction n with
  |zero=>rfl
  |succ n ih=>rw [jS,<-ih,yH];rfl
 |succ m ih=>
  rw [jS,ih,<-Mm];exact zL λj _=>(jS m λi=>f i j).symm
theorem XE {f:Nat->Int}{i:Nat}(hi:i<n)(h: ∀k,k<n->k≠i->f k=0):zn n f=f i:=by
 induction n with
 |zero=>omega
 |succ n ih=>
  rw [jS]
  by_cases e:i=n
  ·subst e;have:zn i f=0:=by
    have:zn i f=zn i (λ_=>0*1):=zL λk hk=>by rw [h k (by omega) (by omega)];rfl
    rw [this,Ya];simp
   omega
  ·rw [ih (by omega) λk hk hne=>h k (by omega) hne,h n (by omega) (by omega)];omega
theorem Mn {f:Nat->Int}(h: ∀k,k<n->0<=f k):0<zn n f↔ ∃k,k<n/\0<f k:=by
 induction n with
 |zero=>simp [yH]
 |succ n ih=>
  rw [jS];have h1:=Ub λk (hk:k<n)=>h k (by omega)
  have h2:=h n (by omega);have ih':=ih λk hk=>h k (by omega)
  constructor
  ·intro z
   by_cases q:0<f n
   ·exact⟨n,by omega,q⟩
   ·obtain⟨k,a,b⟩:=ih'.mp (by omega);exact⟨k,by omega,b⟩
  ·rintro ⟨k,a,b⟩
   by_cases q:k=n
   ·subst q;omega
   ·have:=ih'.mpr ⟨k,by omega,b⟩;omega
def Gd (n:Nat)(T U:List (List Int)):List (List Int):=mkT n λi j=>zn n λk=>ent T i k*ent U k j
theorem Sq.mul (h:Sq n e T)(g:Sq n f U)(hn:n<=8):Sq n (e+f+3) (Gd n T U):=by
 have nn: ∀i j,i<n->j<n-> ∀k,k<n->0<=ent T i k*ent U k j:=λi j hi hj k hk=>Int.mul_nonneg (h.ent_nn hi hk).1 (g.ent_nn hk hj).1
 refine Sq.of_mk (λi j hi hj=>Ub (nn i j hi hj)) λi j hi hj=> ?_
 have hle: ∀k,k<n->ent T i k*ent U k j<=2^e*2^f-1:=λk hk=>by
  have a:=h.ent_nn hi hk;have b:=g.ent_nn hk hj;have:ent T i k*ent U k j<2^e*2^f:=by
   have p:(0:Int)<2^f:=G1s (by decide)
   calc ent T i k*ent U k j<=ent T i k*2^f:=Int.mul_le_mul_of_nonneg_left (Int.le_of_lt b.2) a.1
    _<2^e*2^f:=Int.mul_lt_mul_of_pos_right a.2 p
  omega
 have s:=BY hle;have p:(0:Int)<2^e*2^f:=Int.mul_pos (G1s (by decide)) (G1s (by decide));have e1:(2:Int)^(e+f+3)=8*(2^e*2^f):=by rw [Int.pow_add,Int.pow_add];rw [G0R];rfl
 rw [e1];have hn':(n:Int)<=8:=by omega
 have:(n:Int)*(2^e*2^f-1)<=8*(2^e*2^f-1):=Int.mul_le_mul_of_nonneg_right hn' (by omega);omega
theorem Jy {i j:Nat}(hi:i<n)(hj:j<n):ent (Gd n T U) i j=zn n λk=>ent T i k*ent U k j:=Ze hi hj
def Mo (n:Nat):List (List Int):=mkT n λi j=>if i=j then 1 else 0
theorem Sq.one (n:Nat):Sq n 1 (Mo n):=Sq.of_mk (f:=λi j=>if i=j then 1 else 0) (λi j _ _=>by split<;>decide) λi j _ _=>by split<;>decide
theorem mul_assoc {g:Nat}{V:List (List Int)}(hT:Sq n e T)(hU:Sq n f U)(hV:Sq n g V)(hn:n<=8):Gd n (Gd n T U) V=Gd n T (Gd n U V):=by
 refine((hT.mul hU hn).mul hV hn).ext (hT.mul (hU.mul hV hn) hn) λi j hi hj=> ?_
 rw [Jy hi hj,Jy hi hj];have e1:(zn n λk=>ent (Gd n T U) i k*ent V k j)=zn n λk=>zn n λl=>ent T i l*ent U l k*ent V k j:=
  zL λk hk=>by rw [Jy hi hk,<-Do]
 have e2:(zn n λl=>ent T i l*ent (Gd n U V) l j)=zn n λl=>zn n λk=>ent T i l*(ent U l k*ent V k j):=
  zL λl hl=>by rw [Jy hl hj,<-Ya]
 rw [e1,e2,Dp];exact zL λl _=>zL λk _=>Int.mul_assoc _ _ _
theorem BZ (hT:Sq n e T)(hn:n<=8):Gd n (Mo n) T=T:=by
 refine((Sq.one n).mul hT hn).ext hT λi j hi hj=> ?_
 rw [Jy hi hj,XE hi λk hk hne=>by rw [Mo,Ze hi hk,if_neg (Ne.symm hne)];simp];rw [Mo,Ze hi hi,if_pos rfl];simp
theorem Ca (hT:Sq n e T)(hn:n<=8):Gd n T (Mo n)=T:=by
 refine(hT.mul (Sq.one n) hn).ext hT λi j hi hj=> ?_
 rw [Jy hi hj,XE hj λk hk hne=>by rw [Mo,Ze hk hj,if_neg hne];simp];rw [Mo,Ze hj hj,if_pos rfl];simp
def XF (n:Nat)(T:List (List Int)):Nat->List (List Int)
 |0=>Mo n
 |k+1=>Gd n (XF n T k) T
theorem Sq.pow (hT:Sq n e T)(hn:n<=8): ∀k,Sq n (k*(e+3)+1) (XF n T k)
 |0=>(Sq.one n).mono (by omega)
 |k+1=>((Sq.pow hT hn k).mul hT hn).mono (by rw [U9];omega)
structure Ord (n:Nat)(o:List Nat):Prop where
 len:o.length=n
 all: ∀i,i<n->i∈o
def YO (T:List (List Int)):Bool:=T.all λr=>r.all λx=>decide (x≠0)
theorem Oh (n:Nat)(f:Nat->Nat->Int):YO (mkT n f)=true↔ ∀i j,i<n->j<n->f i j≠0:=by
 unfold YO mkT;simp only [O5,S5,R0,Z0,U1];exact⟨λh i j hi hj=>h i hi j hj,λh i hi j hj=>h i j hi hj⟩
def MulOk (i j:Int):Prop:= ∃m n:Nat,i.natAbs<2^m/\j.natAbs<2^n/\m+n<=134217728
theorem MulOk.ok {i j:Int}(h:MulOk i j):IntMulOk i j:=by
 obtain⟨m,n,a,b,c⟩:=h;exact .of_le (G06.mpr a) (G06.mpr b) c
theorem Oi:OpR X (binaryOp .Mult) (rI MulOk λi j=> .int (i*j)):=opI λ_ _ _ _ _ _ _ hc q=>mul_int q hc.ok
def kY:RD2:=λx y h Q=>match x,y with
 | .int i,.int j=>MulOk i j/\Q (.int (i*j)) h
 |_,_=>False
theorem Oj:OpQ X (binaryOp .Mult) kY:=VR (gd:=λi j=> .int (i*j)) Oi (λ_ _ _=>rfl) λx y h Q q=>by
 cases x<;>cases y<;>first|exact False.elim q|exact⟨_,_,rfl,rfl,q.1,q.2⟩
theorem Yb {x:Int}(h0:0<=x)(h1:x<2^e):x.natAbs<2^e:=by
 have:((2^e:Nat):Int)=2^e:=by simp
 omega
theorem Cb {x y:Int}(hx:0<=x/\x<2^e)(hy:0<=y/\y<2^f)(h:e+f<=134217728):MulOk x y:=⟨e,f,Yb hx.1 hx.2,Yb hy.1 hy.2,h⟩
section
variable {α β:Type}{i i':Nat}{js:List Nat}{ti ti':TID}{te:TED}{σ:SD}{h:HD}{Q:KD}{j:ItD}
theorem lcA (xs:List α)(c g:α->D)(hz:xs.length<=1000)(hj:j h=some (xs.map c))(ht: ∀R:ItD->HD->Prop,R j h->ti σ h R)
 (he: ∀x∈xs,∀Q':KD,Q' (g x) h->te ((jO js σ).set i (some (c x))) h Q')(hq: ∀p,h p=none->Q (.lst p) (zN h p (xs.map g))):yj (bN i) js ti WV te σ h Q:=by
 refine ht _ ⟨xs.length,λk ys h'=>h'=h/\ys=(xs.take k).map g,⟨rfl,by simp⟩,?_⟩;rintro k ys h' ⟨rfl,rfl⟩;refine⟨by simp only [G2,R3];exact D5 (jM (by omega)),xs.map c,hj,by simp,λhl p hp=> ?_,λd hd=>⟨_,rfl,?_⟩⟩
 ·rw [D7 (by simpa using hl)];exact hq p hp
 ·unfold WV;dsimp only;rw [if_pos rfl];rw [P1] at hd;cases hx:xs[k]? with
  |none=>rw [hx] at hd;cases hd
  |some x=>
   rw [hx] at hd;cases hd;refine he x (G5 hx) _ ⟨h',Sub.refl _,rfl,?_⟩;rw [N3,hx];simp
theorem lcF (xs:List α)(c g:α->D)(p:α->Bool){tt:TTD}(hz:xs.length<=1000)(hj:j h=some (xs.map c))(ht: ∀R:ItD->HD->Prop,R j h->ti σ h R)
 (hp: ∀x∈xs,∀Q':Bool->HD->Prop,Q' (p x) h->tt ((jO js σ).set i (some (c x))) h Q')(he: ∀x∈xs,p x=true-> ∀Q':KD,Q' (g x) h->te ((jO js σ).set i (some (c x))) h Q')(hq: ∀a,h a=none->Q (.lst a) (zN h a ((xs.filter p).map g))):yj (bN i) js ti tt te σ h Q:=by
 refine ht _ ⟨xs.length,λk ys h'=>h'=h/\ys=((xs.take k).filter p).map g,⟨rfl,by simp⟩,?_⟩;rintro k ys h' ⟨rfl,rfl⟩;refine⟨?_,xs.map c,hj,by simp,λhl a ha=> ?_,λd hd=>⟨_,rfl,?_⟩⟩
 ·have:=B6 p (xs.take k);simp only [G2,R3] at this ⊢;exact D5 (jM (by omega))
 ·rw [D7 (by simpa using hl)];exact hq a ha
 ·rw [P1] at hd;cases hx:xs[k]? with
  |none=>rw [hx] at hd;cases hd
  |some x=>
   rw [hx] at hd;cases hd;refine hp x (G5 hx) _ ?_;cases hb:p x with
   |true=>
    rw [if_pos rfl];refine he x (G5 hx) hb _ ⟨h',Sub.refl _,rfl,?_⟩;rw [N3,hx];simp [hb]
   |false=>
    rw [if_neg P4];refine⟨h',Sub.refl _,rfl,?_⟩;rw [N3,hx];simp [hb]
theorem kZ (xs:List α)(c g:α->D)(hz:xs.length<=1000)(hj:j h=some (xs.map c))(ht: ∀R:ItD->HD->Prop,R j h->ti σ h R)
 (he: ∀x∈xs,∀Q':KD,Q' (g x) h->te ((jO js σ).set i (some (c x))) h Q')(hq:Q (.tup (xs.map g)) h):dCB Vr (wC (yj (bN i) js ti WV te) WE) σ h Q:=by
 show yj (bN i) js ti WV te σ h (λx h1=>Vr [x] h1 Q);exact lcA xs c g hz hj ht he λp hp=>(show ∃ys,zN h p (xs.map g) p=some ys/\Q (.tup ys) (VQ (zN h p (xs.map g)) p) from ⟨_,jc,by rw [zS hp];exact hq⟩)
theorem uc (xs:List α)(c:α->D)(g:α->Int)(hz:xs.length<=1000)(hj:j h=some (xs.map c))(ht: ∀R:ItD->HD->Prop,R j h->ti σ h R)
 (he: ∀x∈xs,∀Q':KD,Q' (.int (g x)) h->te ((jO js σ).set i (some (c x))) h Q')(hq:Q (.int (xs.map g).sum) h):dCB BW (wC (yj (bN i) js ti WV te) WE) σ h Q:=by
 show yj (bN i) js ti WV te σ h (λx h1=>BW [x] h1 Q);exact lcA xs c (λx=> .int (g x)) hz hj ht he λp hp=>⟨p,xs.map g,rfl,by rw [jc,T3];rfl,by rw [zS hp];exact hq⟩
theorem Au (xs:List α)(c:α->D)(g:α->Bool)(hz:xs.length<=1000)(hj:j h=some (xs.map c))(ht: ∀R:ItD->HD->Prop,R j h->ti σ h R)
 (he: ∀x∈xs,∀Q':KD,Q' (.bl (g x)) h->te ((jO js σ).set i (some (c x))) h Q')(hq:Q (.bl (xs.all g)) h):dCB Sa (wC (yj (bN i) js ti WV te) WE) σ h Q:=by
 show yj (bN i) js ti WV te σ h (λx h1=>Sa [x] h1 Q);exact lcA xs c (λx=> .bl (g x)) hz hj ht he λp hp=>⟨p,xs.map g,rfl,by rw [jc,T3];rfl,by rw [zS hp,O5];exact hq⟩
theorem ud (xs:List α)(c:α->D)(g:α->Bool)(hz:xs.length<=1000)(hj:j h=some (xs.map c))(ht: ∀R:ItD->HD->Prop,R j h->ti σ h R)
 (he: ∀x∈xs,∀Q':KD,Q' (.bl (g x)) h->te ((jO js σ).set i (some (c x))) h Q')(hq:Q (.bl (xs.any g)) h):dCB HG (wC (yj (bN i) js ti WV te) WE) σ h Q:=by
 show yj (bN i) js ti WV te σ h (λx h1=>HG [x] h1 Q);exact lcA xs c (λx=> .bl (g x)) hz hj ht he λp hp=>⟨p,xs.map g,rfl,by rw [jc,T3];rfl,by rw [zS hp,List.any_map];exact hq⟩
end
end L2
namespace L2
open PySem PySem.Spec PyProof.Rows PySem.SeqAt
def HM (j:ItD):TID:=λ_ h R=>R j h
def jJ (o:List Nat):D:= .tup (o.map λ(k:Nat)=>D.int (k:Int))
def Ordr (n:Nat)(o:List Nat):Prop:=o.Perm (List.range n)
variable {n:Nat}
theorem Ordr.ord {o:List Nat}(h:Ordr n o):Ord n o:=⟨by rw [h.length_eq,T0],λi hi=>h.mem_iff.mpr (R0.mpr hi)⟩
def Go (o:List Nat):List Int:=o.map λ(k:Nat)=>(k:Int)
theorem Ol (o:List Nat):jJ o= .tup ((Go o).map D.int):=by unfold jJ Go;rw [List.map_map];rfl
theorem Ordr.insert {o:List Nat}(h:Ordr n o)(k:Nat):Ordr (n+1) (o.take k++n::o.drop k):=by
 unfold Ordr;rw [O6];refine G0G.trans ?_;rw [R4];exact(List.Perm.cons n h).trans (List.perm_append_singleton n _).symm
theorem XG (h:HD): ∀ns:List Int,ToPs h (ns.map D.int) (ns.map PyData.int)
 | []=>rfl
 |n::ns=>⟨_,_,rfl,rfl,XG h ns⟩
theorem Yc: ∀ns:List Int,PyData.canLayAll0 (ns.map PyData.int)=true
 | []=>rfl
 |n::ns=>by show (PyData.canLay0 (.int n)&&_)=true;rw [Yc ns];rfl
theorem Vv: ∀ns:List Int,PyData.depthAll (ns.map PyData.int)<=1
 | []=>by simp [PyData.depthAll]
 |n::ns=>by
  have:=Vv ns;simp only [T5,PyData.depthAll,PyData.depth];omega
def FD (r:List Int):PyData:= .tuple (r.map .int)
variable {e:Nat}{T:List (List Int)}
theorem Gp (h:Sq n e T){i:Nat}(hi:i<n):atI (T.map Gc) (i:Int)=some (Gc (T.getD i [])):=by
 have hi':i<T.length:=by rw [h.len];exact hi
 exact zm (by rw [P1,P5,G0 hi'];rfl)
theorem Sq.getRow (h:Sq n e T){i:Nat}(hi:i<n):T.getD i []∈T:=by
 have hi':i<T.length:=by rw [h.len];exact hi
 rw [P5,G0 hi'];exact M1 hi'
theorem Mp {r:List Int}(h:r.length=n){j:Nat}(hj:j<n):atI (r.map D.int) (j:Int)=some (.int (r.getD j 0)):=by
 have hj':j<r.length:=by rw [h];exact hj
 exact zm (by rw [P1,P5,G0 hj'];rfl)
theorem Sr (n:Nat)(f:Nat->Nat->Int):D.tup ((List.range n).map λi=>D.tup ((List.range n).map λj=>D.int (f i j)))=zH (mkT n f):=by
 unfold zH Gc mkT;rw [T3]
 congr 1
 apply T8;intro i _;simp [T3,X0]
theorem pow_add (h:Sq n e T)(hn:n<=8)(a:Nat): ∀b,XF n T (a+b)=Gd n (XF n T a) (XF n T b)
 |0=>by rw [show XF n T 0=Mo n from rfl,Ca (h.pow hn a) hn];rfl
 |b+1=>by
  show Gd n (XF n T (a+b)) T=Gd n (XF n T a) (Gd n (XF n T b) T);rw [pow_add h hn a b,mul_assoc (h.pow hn a) (h.pow hn b) h hn]
theorem Om (h:Sq n e T)(hn:n<=8):XF n T 1=T:=BZ h hn
variable {i:Nat}
theorem XH {f j:Nat}{U:List (List Int)}(h:Sq n e T)(g:Sq n f U)(hi:i<n)(hj:j<n):ent (Gd n T U) i j≠0↔ ∃k,k<n/\ent T i k≠0/\ent U k j≠0:=by
 rw [Jy hi hj];have nn: ∀k,k<n->0<=ent T i k*ent U k j:=λk hk=>Int.mul_nonneg (h.ent_nn hi hk).1 (g.ent_nn hk hj).1
 have s:=Ub nn;have p:=Mn nn;constructor
 ·intro z;obtain⟨k,hk,w⟩:=p.mp (by omega);refine⟨k,hk,λq=> ?_,λq=> ?_⟩
  ·rw [q] at w;simp at w
  ·rw [q] at w;simp at w
 ·rintro ⟨k,hk,a,b⟩ z;have c:=(h.ent_nn hi hk).1;have d:=(g.ent_nn hk hj).1;have:0<ent T i k*ent U k j:=Int.mul_pos (by omega) (by omega);have:=p.mpr ⟨k,hk,this⟩;omega
theorem Cc (h:Sq n e T):YO T=true↔ ∀i j,i<n->j<n->ent T i j≠0:=by
 have h1:YO T=YO (mkT n (ent T)):=by rw [<-h.eq_mk]
 rw [h1,Oh]
section
variable {prog:Program}{w:World}{A:Around}{E:Value->Shared->Prop}{s:Shared}
variable {items:Array Value}
theorem Mq {it t:Addr}{i n:Nat}{d1 d2:Option Addr}{s1 s2:Array (Option Value)}{P:PySem.Fin->Shared->Prop}(a1:s.heap.get? it=some {cls:= .type "tuple_iterator",dict:=d1,data:= .fields #[.ref t,.int i 0],slots:=s1})(a2:s.heap.get? t=some {cls:= .type "tuple",dict:=d2,data:= .seq items n,slots:=s2})
 (more: ∀x h',items[i]? =some x->h'.IsTupleIter it t (i+1)->Heap.SameBut it s.heap h'->P (.done (.ret x)) {s with heap:=h'})
 (none_:items[i]? =none->wpAny (model prog w) A (do setField (.ref it) 0 .none;Builtin.SmallTypes.stopIteration) P E s):wpAny (model prog w) A (Builtin.«tuple_iterator.__next__» ⟨[.ref it],[]⟩) P E s:=by
 obtain⟨hp,g,d,tk,os⟩:=s
 wp_walk
 rw [A4];cases hx:items[i]? with
 |none=>exact wpAny_bind (W7 (none_ hx))
 |some x=>
  refine wpAny_bind (wpAny_setField a1 rfl (by simp) (P0 (more x _ hx ⟨_,S9 _ a1 ?_,rfl,?_⟩ (T9 ..))))
  ·rfl
  ·simp [Obj.mapFields,rawInt]
theorem Yd {Q:PySem.Fin->Shared->Prop}(hh:A.handled=none)(hE: ∀h' e,(∀b o,s.heap.get? b=some o->h'.get? b=some o)->(∃o,h'.get? e=some o/\o.cls= .type "StopIteration")->E (.ref e) {s with heap:=h'}):wpAny (model prog w) A Builtin.SmallTypes.stopIteration Q E s:=by
 obtain⟨hp,g,d,tk,os⟩:=s;unfold Builtin.SmallTypes.stopIteration
 wp_walk
 unfold raiseNew;refine wpAny_bind (wpAny_handled ?_);rw [hh];exact wpAny_bind (P0 (wpAny_throw (hE _ _ (λb o q=>G1 _ (G1 _ q)) ⟨_,P8 _ rfl,rfl⟩)))
theorem ZL {it t:Addr}{i:Nat}{x:Value}{Q:Value->Shared->Prop}(hit:s.heap.IsTupleIter it t i)(ht:s.heap.IsTuple t items)(hx:items[i]? =some x)
 (hQ: ∀h',h'.IsTupleIter it t (i+1)->Heap.SameBut it s.heap h'->Q x {s with heap:=h'}):wpAny (model prog w) A (Builtin.SmallTypes.nextOf (.ref it)) Q E s:=by
 obtain⟨⟨c,d1,dt,s1⟩,ho,rfl,rfl⟩:=id hit;obtain⟨⟨c2,d2,dt2,s2⟩,hol,rfl,nl,rfl⟩:=ht;exact wpAny_bind (B8 hit.typeIs A9 (N9 A9 hit.typeIs Z4 (Mq ho hol (λy h' e b1 b2=>⟨y,rfl,P0 (by rw [hx] at e;cases e;exact hQ h' b1 b2)⟩) λe=>by rw [hx] at e;cases e) (Y3 _)))
theorem wm {it t:Addr}{i:Nat}{Q:Value->Shared->Prop}(hh:A.handled=none)(hit:s.heap.IsTupleIter it t i)(ht:s.heap.IsTuple t items)(hx:items[i]? =none)
 (hE: ∀h' e,Heap.ExtBut it s.heap h'->(∃o,h'.get? e=some o/\o.cls= .type "StopIteration")->E (.ref e) {s with heap:=h'}):wpAny (model prog w) A (Builtin.SmallTypes.nextOf (.ref it)) Q E s:=by
 obtain⟨⟨c,d1,dt,s1⟩,ho,rfl,rfl⟩:=id hit;obtain⟨⟨c2,d2,dt2,s2⟩,hol,rfl,nl,rfl⟩:=ht;refine wpAny_bind (B8 hit.typeIs A9 (N9 A9 hit.typeIs Z4 (Mq ho hol (λy h' e b1 b2=>by rw [hx] at e;cases e) λ_=>wpAny_bind (wpAny_setField ho rfl (by simp) ?_)) (Y3 _)));exact Yd (s:= {s with heap:=_}) hh λh' e grown stop=>hE h' e (λb o ne q=>grown b o ((T9 ..).extBut b o ne q)) stop
end
variable {prog:Program}{w:World}{A:Around}
theorem Mr (hh:A.handled=none)(it t:Addr)(hne:t≠it)(items:Array Value):
 Draws prog w A it [it,t] items.size (λi v=>items[i]? =some v) (λi h=>h.IsTupleIter it t i/\h.IsTuple t items) where
 live:=λ_ _ st=>let ⟨o,ho,_⟩:=st.1;⟨o,ho⟩
 frame:=λ_ _ _ st hk=>⟨st.1.at λo e=>hk it (by simp) o e,st.2.at λo e=>hk t (by simp) o e⟩
 item:=λi s Q E hi st hQ=>ZL st.1 st.2 (x:=items[i]) (by simp [hi]) λh' hit' hs'=>hQ _ h' s.toks (by simp [hi]) ⟨hit',st.2.extBut hs'.extBut hne⟩ hs'
 done:=λs Q E st hE=>wm hh st.1 st.2 (by simp) hE
theorem Ms (hh:A.handled=none)(it t:Addr)(items:Array Value)(n:Nat)(hn:items.size<=n):
 Draws prog w A it [it,t] n (λ_ _=>False) (λi h=>i=n/\h.IsTupleIter it t n/\h.IsTuple t items) where
 live:=λ_ _ st=>let ⟨o,ho,_⟩:=st.2.1;⟨o,ho⟩
 frame:=λ_ _ _ st hk=>⟨st.1,st.2.1.at λo e=>hk it (by simp) o e,st.2.2.at λo e=>hk t (by simp) o e⟩
 item:=λi s Q E hi st hQ=>absurd st.1 (R1 hi)
 done:=λs Q E st hE=>wm hh st.2.1 st.2.2 (W5 hn) hE
section
variable {prog:Program}{w:World}{A:Around}{E:Value->Shared->Prop}{s:Shared}
theorem Mt {l:Addr}{its:Array Value}{P:PySem.Fin->Shared->Prop}(at_:s.heap.IsTuple l its)
 (h: ∀h',IsEnum h' (s.heap.objs.size+1) s.heap.objs.size 0 .none->h'.IsTupleIter s.heap.objs.size l 0->(∀b o,s.heap.get? b=some o->h'.get? b=some o)->P (.done (.ret (.ref (s.heap.objs.size+1)))) {s with heap:=h'}):
 wpAny (model prog w) A (Builtin.«enumerate.__new__» ⟨[.type "enumerate",.ref l],[]⟩) P E s:=by
 have fine:=sub_enumerate;obtain⟨⟨c,dd,dt,sl⟩,there,rfl,n,rfl⟩:=id at_;obtain⟨hp,g,d,tk,os⟩:=s;have size: ∀o,(hp.push o).objs.size=hp.objs.size+1:=λo=>K8 ..
 have made:=P8 (hp.push {cls:= .type "tuple_iterator",data:= .fields #[.ref l,.int 0 0]}) (o:= {cls:= .type "enumerate",data:= .fields #[.none,.bool false,.ref hp.objs.size,rawInt 0,.none,.none]}) rfl;have fin:=h _ (by rw [<-size];exact made) ⟨_,G1 _ (P8 _ rfl),rfl,rfl⟩ λb o old=>G1 _ (G1 _ old)
 rw [<-size {cls:= .type "tuple_iterator",data:= .fields #[.ref l,.int 0 0]}] at fin
 wp_walk using V2 there
 refine wpAny_stack_any λcalls=>P0 ?_
 split
 case h_1 c _ _ _ _ _=>cases c==Value.type "enumerate" <;>(wp_walk using V2 there,O7 at_;exact fin)
 case h_2=>wp_walk using V2 there,O7 at_;exact fin
theorem Uc {l:Addr}{items:Array Value}{Q:Value->Shared->Prop}(hL:s.heap.IsTuple l items)
 (h: ∀h',IsEnum h' (s.heap.objs.size+1) s.heap.objs.size 0 .none->h'.IsTupleIter s.heap.objs.size l 0->(∀b o,s.heap.get? b=some o->h'.get? b=some o)->Q (.ref (s.heap.objs.size+1)) {s with heap:=h'}):
 wpAny (model prog w) A (call (.type "enumerate") [.ref l]) Q E s:=
 callType_new F.called_enumerate (by decide) (F.typeCall_enumerate_1 _) (F.newCall_enumerate_1 _) (λ_=>F.args_object_init_2 _ _) F.entry_enumerate_new
  (S:=λ_ R s=>s.heap.IsTuple l items/\ ∀h',IsEnum h' (s.heap.objs.size+1) s.heap.objs.size 0 .none->h'.IsTupleIter s.heap.objs.size l 0->(∀b o,s.heap.get? b=some o->h'.get? b=some o)->R (.ok (.ret (.ref (s.heap.objs.size+1)))) {s with heap:=h'})
  (.of_wp λ_ _ _ _ _ ⟨tup,k⟩=>Mt tup λh' e i old=>⟨_,rfl,k h' e i old⟩) ⟨hL,λh' e i old=>⟨⟨_,e,rfl⟩,h h' e i old⟩⟩
end
section
variable {X:Cx}{pins:List (Addr×Obj)}{σ:List (Option V)}{H:Hp}{s:Shared}{h':Heap}
theorem Inv.turnL {t':Nat}{ch:List Addr}(I:Inv X pins σ H s)(k: ∀b o,b ∉ ch->s.heap.get? b=some o->h'.get? b=some o)(hc: ∀b∈ch,Re X pins H b):Inv X pins σ H {s with heap:=h',toks:=t'}:=by
 refine I.step (g':=s.gens) (d':=s.drawn) (ch:=ch) (λb hb=>let ⟨_,f1,_,f3,f4,f5⟩:=hc b hb;⟨f3,f1,f4,f5⟩) (λb o _ _ nb e _=>k b o nb e) (λb o _ _ nb e _=>⟨o.slots,k b o nb e⟩) (λ_ _ _ _ n=>n)
  (λb o nb e=>⟨o,k b o nb e⟩) (λ_ _ e=>e) (λ_ _ _ e=>e) (λb ps e=>⟨#[],by rw [e];simp⟩) (λm hm=> ?_) (λb u e=> ?_) I.bare
 ·obtain⟨o,es,ep,ho,r⟩:=hm;exact⟨o,es,ep,k _ o (λz=>(hc _ z).2.1 rfl) ho,r⟩
 ·refine(I.hok b u e).stay (λc v hb q=>k c v (λz=> ?_) q) (λ_ q=>q) λ_ _ q=>q
  have f:=(hc c z).1;rcases hb with w|w
  ·rw [w,e] at f;cases f
  ·rw [w] at f;cases f
theorem Inv.turnLaid {t':Nat}{ch:List Addr}{a:Addr}{o:HO}(I:Inv X pins σ H s)(k: ∀b u,b ∉ ch->s.heap.get? b=some u->h'.get? b=some u)(hc: ∀b∈ch,Re X pins H b)(hp:s.heap.objs.size<=a)
 (new:ObjOk X.prog X.w (upd H a o) h' a o):Inv X pins σ (upd H a o) {s with heap:=h',toks:=t'}:=by
 have hn:=I.hok.fresh hp;refine I.step (g':=s.gens) (d':=s.drawn) (ch:=ch) (λb hb=>let ⟨_,f1,_,f3,f4,f5⟩:=hc b hb;⟨f3,f1,f4,f5⟩) (λb u _ _ nb e _=>k b u nb e) (λb u _ _ nb e _=>⟨u.slots,k b u nb e⟩)
  (λb u _ e n=>by rw [jx (R1 (R7 (P2 e) hp))];exact n) (λb u nb e=>⟨u,k b u nb e⟩) (λb xs q=>by rw [jx (jt q hn)];exact q) (λb u xs q=>by rw [jx (jt q hn)];exact q)
  (λb ps q=>⟨#[],by rw [jx (jt q hn),q];simp⟩) (λm hm=> ?_) (λb u e=> ?_) I.bare
 ·obtain⟨u,es,ep,ho,r⟩:=hm;exact⟨u,es,ep,k _ u (λz=>(hc _ z).2.1 rfl) ho,r⟩
 ·by_cases hb:b=a
  ·subst hb;rw [jz] at e;cases e;exact new
  ·rw [jx hb] at e;refine(I.hok b u e).stay (λc v hb q=>k c v (λz=> ?_) q) (λc q=>by rw [jx (jt q hn)];exact q) λc xs q=>by rw [jx (jt q hn)];exact q
   have f:=(hc c z).1;rcases hb with w|w
   ·rw [w,e] at f;cases f
   ·rw [w] at f;cases f
end
def Ite (K:PySem.W.Frag)(a:Addr):It:=
 ⟨λi H=> ∃xs x,SqT K H a xs/\xs[i]? =some x,λi H x H'=> ∃p v,H p=none/\(∀xs,SqT K H a xs->xs[i]? =some v)/\x= .ref p/\H'=upd H p (.tup [.int i,v]),λi H=> ∃xs,SqT K H a xs/\xs.length<=i⟩
variable {K:PySem.W.Frag}
theorem Mu {P:Program}{es:List Expr}{k:Nat}{pos:Pos}(a it e:Addr)(hei:e≠it)(hae:a≠e)(hai:a≠it):Turn P w K (.Tuple es k pos) (Ite K a) [e,it] e (λi h=>(∃old,IsEnum h e it i old)/\h.IsTupleIter it a i) where
 mem:=by simp
 obj:=λi h st b hb=>by
  rcases D3.mp hb with z|z
  ·subst z;obtain⟨old,q⟩:=st.1;exact⟨_,q,λv z=>by cases z⟩
  ·have z:=G3.mp z;subst z;obtain⟨o,q,c,d⟩:=st.2;exact⟨o,q,λv z=>by rw [d] at z;cases z⟩
 keep:=λi h h' st k=>⟨let ⟨old,q⟩:=st.1;⟨old,k e (by simp) _ q⟩,st.2.at λo q=>k it (by simp) o q⟩
 item:=by
  intro X hP hw hK hc i pins s σ H E I hf st hg;subst hP hw hK;obtain⟨xs,x,hq,hx⟩:=hg;obtain⟨its,rv,p,hz⟩:=I.tuple hq;obtain⟨u,hu,ru⟩:=rv.get hx;have hi:i<its.toArray.size:=by have:=(G6.mp hu).1;simpa using this
  obtain⟨old,he⟩:=st.1;have helt:e<s.heap.objs.size:=P2 he;refine wpAny_pyNext_enum_itemD (Mr (prog:=X.prog) (w:=X.w) (A:=X.A.in1) (I.ok.hd hc) it a hai its.toArray) he ⟨st.2,p⟩ hi hei (by simp [hei,Ne.symm hae]) λx' h' tk hx' ho hs' hT hsz hk=> ?_
  have ex:x'=u:=M7 (hx'.symm.trans (show its.toArray[i]? =some u by simpa using hu));subst ex;refine⟨_,rfl,G0d ho λh2 he2 hs2=> ?_⟩;have hn:H s.heap.objs.size=none:=I.hok.fresh (G9 _);have hT2:h2.get? s.heap.objs.size=some {cls:= .type "tuple",data:= .seq #[.int i tk,x']}:=(hs2.2 _ (E3 helt)).trans hT;refine⟨.ref s.heap.objs.size,upd H s.heap.objs.size (.tup [.int i,x]),?_,rfl,⟨_,x,hn,λys hy=>by rw [I.tuple_inj hy hq];exact hx,rfl,rfl⟩,⟨⟨x',by simpa using he2⟩,hs'.1.at λo y=>(hs2.2 it (Ne.symm hei)).trans y⟩,λb hb=> ?_⟩
  ·refine I.turnLaid (h':=h2) (t':=tk+1) (ch:= [e,it]) (λb u hb q=> ?_) hf (G9 _) ⟨by show 2<=sizeLine;decide,[.int i tk,x'],.cons ⟨tk,rfl⟩ (.cons ru .nil),⟨_,hT2,rfl,rfl,_,rfl⟩⟩;have b1:b≠e:=λz=>hb (by simp [z])
   have b2:b≠it:=λz=>hb (by simp [z])
   exact(hs2.2 b b1).trans (hk b u b1 b2 q)
  ·have f:=(hf b hb).1;have:b≠s.heap.objs.size:=λz=>by
    rcases D3.mp hb with w|w
    ·rw [<-w,z] at helt;exact absurd helt (S7 _)
    ·have w:=G3.mp w;obtain⟨o,ho',_⟩:=st.2;have:=P2 ho';rw [<-w,z] at this;exact absurd this (S7 _)
   rw [jx this];exact f
 done:=by
  intro X hP hw hK hc i pins s σ H E I hf st hg;subst hP hw hK;obtain⟨xs,hq,hx⟩:=hg;obtain⟨its,rv,p,hz⟩:=I.tuple hq;obtain⟨old,he⟩:=st.1;have hl:=rv.length;refine wpAny_pyNext_enum_endD (Ms (prog:=X.prog) (w:=X.w) (A:=X.A.in1) (I.ok.hd hc) it a its.toArray i (by simp;omega)) he ⟨rfl,st.2,p⟩ λh' hx'=>⟨rfl,I.turnL (t':=s.toks) (ch:= [it]) (λb o hb q=>hx' b o (λz=>hb (by simp [z])) q) λb hb=>hf b (D2 _ hb)⟩
 self:=λ_ _ _ _ _ st h=>let ⟨_,q⟩:=st.1;X1 q h
section
variable {X:Cx}
def KJ (K:PySem.W.Frag)(ta:TA):TI:=λσ H R=>ta σ H λvs H1=> ∃a,vs= [.ref a]/\(∃xs,SqT K H1 a xs)/\R (Ite K a) H1
theorem On {es:List Expr}{k:Nat}{tp:Pos}{a:Expr}{ta:TA}{p pos:Pos}(hg:Gl X "enumerate")(hm:X.mg "enumerate" =none)(ha:PA X [a] ta)(hs:starEach [a] X.env= [(false,eval a X.env)]:=by rfl):
 PI X (.Tuple es k tp) (.Call (.Name "enumerate" p) [a] [] pos) (KJ X.K ta):=by
 intro pins s σ H R I h;refine Call_ (Wh I hg hm (show bootBuiltins "enumerate" =some (.type "enumerate") by decide +kernel) (C4 (thn (ha pos pins s σ H _ I h) λus s1 ⟨vs,H1,I1,r1,q1⟩=> ?_) hs rfl));obtain⟨a,e,⟨xs,hq⟩,q⟩:=q1;subst e;cases r1 with
 |cons r rr=>
  cases rr;cases r;obtain⟨its,rv,p,hz⟩:=I1.tuple hq;have hlt:a<s1.heap.objs.size:=by obtain⟨o,ho,_⟩:=p;exact P2 ho
  refine Uc (show s1.heap.IsTuple a its.toArray from p) λh' he hit hk=> ?_
  refine X1 he ?_;refine⟨s1.heap.objs.size+1,[s1.heap.objs.size+1,s1.heap.objs.size],_,_,H1,rfl,I1.kept (t':=s1.toks) hk,Mu a s1.heap.objs.size (s1.heap.objs.size+1) (E3 (C7 _)) (R1 (J6 hlt)) (R1 hlt),⟨⟨_,he⟩,hit⟩,λb hb=> ?_,q⟩;have hb':s1.heap.objs.size<=b:=by
   rcases D3.mp hb with w|w
   ·rw [w];exact Nat.le_succ _
   ·rw [G3.mp w];exact G9 _
  exact I1.fpOk hb' (I1.hok.fresh hb')
end
def YQ (ds:List D):List D:=ds.zipIdx.map λp=> .tup [.int (p.2:Int),p.1]
def iE (ta:TAD):TID:=λσ h R=>ta σ h λxs h1=> ∃ds,xs= [.tup ds]/\R (λ_=>some (YQ ds)) h1
theorem WG {ds:List D}{d:D}(h:(YQ ds)[i]? =some d): ∃x,ds[i]? =some x/\d= .tup [.int (i:Int),x]:=by
 unfold YQ at h;rw [P1,G07] at h;cases q:ds[i]? with
 |none=>rw [q] at h;cases h
 |some x=>
  rw [q] at h;refine⟨x,rfl,?_⟩;have h':some (D.tup [.int ((0+i:Nat):Int),x])=some d:=h;rw [E5] at h';exact(M7 h').symm
theorem wZ (ds:List D):(YQ ds).length=ds.length:=by simp [YQ]
section
variable {K:PySem.W.Frag}
theorem Mv {H:Hp}{a:Addr}{vs:List V}{ds:List D}(hv:H a=some (.tup vs))(r:RelDs K H ds vs):Fw K H (λ_=>some (YQ ds)) (Ite K a):=λH' h' k rh ds' e i=>by
 cases e;have hv':=k.tup _ _ hv;have r':=r.mono k;refine⟨λd hd=> ?_,λhl=>⟨vs,SqT.of hv',by rw [<-r.length,<-wZ];exact hl⟩⟩;obtain⟨x,hx,ed⟩:=WG hd;subst ed;obtain⟨v,e1,e2⟩:=r'.get hx;refine⟨⟨vs,v,SqT.of hv',e1⟩,λx' H'' ⟨p,v',hp,hx',ex,eH⟩=> ?_⟩;subst ex eH;have ev:v'=v:=by have:=hx' vs (SqT.of hv');rw [e1] at this;exact(M7 this).symm
 subst ev;have k2:Kept H' (upd H' p (.tup [.int i,v'])):= .new hp;exact⟨k2,RelH.new rh hp,p,[.int i,v'],rfl,jz,_,_,rfl,rfl,_,_,rfl,e2.mono k2,rfl⟩
theorem Oo {ta:TAD}: ∀σ H R,LI K (iE ta) σ H R->KJ K (LA K ta) σ H R:=λσ H R ⟨σd,h,Rd,rs,rh,q,p⟩=>
 LA.bind rs rh q λds vs h1 H1 k1 rs1 rh1 r1 ⟨es,e,q1⟩=>by
  subst e;obtain⟨v,e,r2⟩:=jH r1;obtain⟨a,ws,e',hv,r⟩:=(show ∃a vs,v= .ref a/\H1 a=some (.tup vs)/\RelDs K H1 es vs from r2);subst e';exact⟨a,e,⟨ws,SqT.of hv⟩,p _ _ _ _ k1 rh1 (Mv hv r) q1⟩
end
section
variable {X:Cx}
theorem Mw {es:List Expr}{k:Nat}{tp:Pos}{a:Expr}{ta:TAD}{p pos:Pos}(hg:Gl X "enumerate")(hm:X.mg "enumerate" =none)(ha:JA X [a] ta)(hs:starEach [a] X.env= [(false,eval a X.env)]:=by rfl):
 JI X (.Tuple es k tp) (.Call (.Name "enumerate" p) [a] [] pos) (iE ta):=⟨(On hg hm ha.to hs).imp Oo⟩
end
def Mx (c:TTD)(tb:TSD):TSD:=λD σ h=> ∃W:Nat->SD->HD->Prop,(∃m,W m σ h)/\ ∀m σ' h',W m σ' h'->c σ' h' λb h1=>
 if b=true then tb {D with nx:=λσ2 h2=> ∃m' h3,m'<m/\Sub h3 h2/\W m' σ2 h3,ct:=λσ2 h2=> ∃m' h3,m'<m/\Sub h3 h2/\W m' σ2 h3,bk:=D.nx} σ' h1 else D.nx σ' h1
theorem Cd {c:TTD}{tb:TSD}: ∀D σ H,LS K (Mx c tb) D σ H->Fs (LT K c) (LS K tb) D σ H:=λD σ H ⟨σd,h,Dd,rs,rh,⟨W,⟨m0,w0⟩,turn⟩,nx,rt,bk,ct⟩=>by
 refine⟨λm σ' H'=>Kept H H'/\ ∃σd' h',RelS K H' σd' σ'/\RelH K h' H'/\W m σd' h',⟨m0,.refl _,σd,h,rs,rh,w0⟩,?_⟩;rintro m σ' H' ⟨kp,σd',h',rs',rh',w⟩;refine LT.bind rs' rh' (turn m σd' h' w) λb h1 H1 k1 rs1 rh1 q1=> ?_
 cases b with
 |false=>
  rw [if_neg P4] at q1 ⊢;exact nx _ _ _ _ (kp.trans k1) rs1 rh1 q1
 |true=>
  rw [if_pos rfl] at q1 ⊢;have kk:Kept H H1:=kp.trans k1;refine⟨λσ2 H2=>Kept H H2/\ ∃m',m'<m/\ ∃σd2 h2,RelS K H2 σd2 σ2/\RelH K h2 H2/\W m' σd2 h2,λσ2 H2 ⟨k2,m',hm,a,b,c,d,e⟩=>⟨m',hm,k2,a,b,c,d,e⟩,?_⟩;exact⟨σd',h1,_,rs1,rh1,q1,λa b c d k4 rs4 rh4 ⟨m',h4,hm,sb,w4⟩=>⟨kk.trans k4,m',hm,a,h4,rs4,rh4.sub sb,w4⟩,jK rt kk,λa b c d k4 rs4 rh4 q4=>nx a b c d (kk.trans k4) rs4 rh4 q4,λa b c d k4 rs4 rh4 ⟨m',h4,hm,sb,w4⟩=>⟨kk.trans k4,m',hm,a,h4,rs4,rh4.sub sb,w4⟩⟩
section
variable {X:Cx}{pos:Pos}
theorem Mz {c:Expr}{body:List Stmt}{tc:TTD}{tb:TSD}(hp:PassesOwn (model X.prog X.w) X.A X.env X.xe)(hc:JT X c tc)(hb:JSs X body tb):JS X (.While c body [] pos) (Mx tc tb):=⟨(BA hp hc.to hb.to).imp Cd⟩
end
theorem Ud {c:TTD}{tb:TSD}{E:EndsD}{σ:SD}{h:HD}(W:Nat->SD->HD->Prop)(m:Nat)(w0:W m σ h)
 (turn: ∀m σ' h',W m σ' h'->c σ' h' λb h1=>if b=true then tb {E with nx:=λσ2 h2=> ∃m' h3,m'<m/\Sub h3 h2/\W m' σ2 h3,ct:=λσ2 h2=> ∃m' h3,m'<m/\Sub h3 h2/\W m' σ2 h3,bk:=E.nx} σ' h1 else E.nx σ' h1):Mx c tb E σ h:=⟨W,⟨m,w0⟩,turn⟩
def Off (W:List Addr)(h h':Heap):Prop:=h'.objs.size=h.objs.size/\ ∀b o,b ∉ W->h.get? b=some o->h'.get? b=some o
theorem Off.refl (W:List Addr)(h:Heap):Off W h h:=⟨rfl,λ_ _ _ e=>e⟩
theorem Off.of {c:Addr}{W:List Addr}{h h':Heap}(x:Heap.SameBut c h h')(m:c∈W):Off W h h':=⟨x.1,λb o n e=>x.extBut b o (λq=>n (q ▸ m)) e⟩
theorem Off.trans {W:List Addr}{h h' h'':Heap}(x:Off W h h')(y:Off W h' h''):Off W h h'':=⟨y.1.trans x.1,λb o n e=>y.2 b o n (x.2 b o n e)⟩
abbrev MB (f0:Value)(b1:Bool)(TI TO:Addr):Obj:= {cls:= .type "zip",dict:=none,data:= .fields #[f0,.bool b1,.bool false,.ref TI,.ref TO],slots:= #[]}
def ZipAt (h:Heap)(z TI TO:Addr):Prop:= ∃f0 b1,h.get? z=some (MB f0 b1 TI TO)/\(f0= .none\/ ∃a t,f0= .int a t)
theorem ZipAt.off {h h':Heap}{z TI TO:Addr}{W:List Addr}(Z:ZipAt h z TI TO)(o:Off W h h')(n:z ∉ W):ZipAt h' z TI TO:=let ⟨f,b,e,q⟩:=Z;⟨f,b,o.2 _ _ n e,q⟩
section
variable {prog:Program}{w:World}{A:Around}{E:Value->Shared->Prop}{s:Shared}{z TI TO i1 i2:Addr}
theorem Ce {Q:Bool->Shared->Prop}(Z:ZipAt s.heap z TI TO)(k: ∀b h',ZipAt h' z TI TO->Off [z] s.heap h'->Q b {s with heap:=h'}):wpAny (model prog w) A (Builtin.SmallTypes.ownedTupleIsFree (.ref z)) Q E s:=by
 obtain⟨f0,b1,hz,hf⟩:=id Z;have stay:=λb=>k b s.heap Z (Off.refl _ _)
 rcases hf with rfl|⟨a,t,rfl⟩
 ·wp_walk
  exact stay true
 ·have read: ∀ {P:Option Obj->Shared->Prop} {E':Value->Shared->Prop},P (s.heap.get? a.toNat) s->wpAny (model prog w) A (loadIfAlive a.toNat) P E' s:=λp _ _ _=>p
  wp_walk using read
  cases s.heap.get? a.toNat with
  |none=>exact P0 (stay true)
  |some o=>
   wp_walk
   cases b1 with
   |true=>exact P0 (stay false)
   |false=>exact wpAny_bind <| wpAny_setField_rec hz (by simp) λh' z' same=>P0 (k false h' ⟨_,_,z',.inr ⟨a,t,rfl⟩⟩ (.of same (by simp)))
structure ZApart (z TI TO i1 i2:Addr):Prop where
 z1:z≠i1
 z2:z≠i2
 zO:z≠TO
 zI:z≠TI
 O1:TO≠i1
 O2:TO≠i2
 OI:TO≠TI
 I1:TI≠i1
 I2:TI≠i2
abbrev Ss (z:Addr)(h:Heap)(E:Value->Shared->Prop):Value->Shared->Prop:=λe s'=>(∀o,h.get? z=some o->s'.heap.get? z=some o)/\ ∀h',Heap.ExtBut z s'.heap h'->E e {s' with heap:=h'}
theorem MC {Q:Value->Shared->Prop}(ap:ZApart z TI TO i1 i2)(Z:ZipAt s.heap z TI TO)(hTI:IsPair s.heap TI (.ref i1) (.ref i2))(hTO: ∃a b,IsPair s.heap TO a b)
 (go: ∀h₁,Off [z] s.heap h₁->(∃o,h₁.get? z=some o/\o.cls= .type "zip")->wpAny (model prog w) A (Builtin.SmallTypes.nextOf (.ref i1)) (λx s₁=>Off [i1] h₁ s₁.heap/\ ∀h₂,Off [TO] s₁.heap h₂->
  wpAny (model prog w) A (Builtin.SmallTypes.nextOf (.ref i2)) (λy s₂=>Off [i2] h₂ s₂.heap/\ ∀h₃,(∀b o,b ∉ [z,TO]->s₂.heap.get? b=some o->h₃.get? b=some o)->IsPair h₃ s₂.heap.objs.size x y->
   ZipAt h₃ z TI TO->IsPair h₃ TI (.ref i1) (.ref i2)->(∃a b,IsPair h₃ TO a b)->Q (.ref s₂.heap.objs.size) {s₂ with heap:=h₃}) (Ss z h₂ E) {s₁ with heap:=h₂}) (Ss z h₁ E) {s with heap:=h₁}):
 wpAny (model prog w) A (Builtin.«zip.__next__» ⟨[.ref z],[]⟩) (λfin s'=> ∃v,fin= .done (.ret v)/\Q v s') E s:=by
 obtain⟨f0,b1,hz,hf⟩:=id Z;have ask:=λ{P:Bool->Shared->Prop} {E':Value->Shared->Prop} (k: ∀b h',ZipAt h' z TI TO->Off [z] s.heap h'->P b {s with heap:=h'})=>Ce (prog:=prog) (w:=w) (A:=A) (E:=E') Z k
 wp_walk using ask
 intro b h₀ Z₀ off₀;have I₀:=off₀.2 _ _ (by simp [ap.zI.symm]) hTI;obtain⟨a',b',O₀⟩: ∃a b,IsPair h₀ TO a b:=let ⟨a,b,e⟩:=hTO;⟨a,b,off₀.2 _ _ (by simp [ap.zO.symm]) e⟩;cases b with
 |false=>
  have d1:=go h₀ off₀ (let ⟨_,_,e,_⟩:=Z₀;⟨_,e,rfl⟩);rw [if_neg (by decide)];refine wpAny_bind ?_;rw [<-Array.forIn_toList];simp only [Y9,List.forIn_nil];refine wpAny_bind (wpAny_bind (B7 ?_));refine wpAny_bind (m:=Builtin.SmallTypes.nextOf (.ref i1)) (S0 d1 (λx s₁ d=>P0 (P0 ?_)) λe s' f=>f.2 s'.heap λ_ _ _ e=>e);obtain⟨o1,d2⟩:=d;refine wpAny_bind (wpAny_bind (B7 ?_));refine wpAny_bind (m:=Builtin.SmallTypes.nextOf (.ref i2)) (S0 (d2 s₁.heap (.refl _ _)) (λy s₂ d=>P0 (P0 (P0 ?_))) λe s' f=>f.2 s'.heap λ_ _ _ e=>e);obtain⟨o2,fin⟩:=d;show wpAny _ _ (newTuple [x,y] >>= _) _ _ _;have n1: ∀ {b},b≠i1->b ∉ [i1]:=λh=>by simpa using h
  have n2: ∀ {b},b≠i2->b ∉ [i2]:=λh=>by simpa using h
  have Z₂:=(Z₀.off o1 (n1 ap.z1)).off o2 (n2 ap.z2);have keep: ∀ {b o},b≠i1->b≠i2->h₀.get? b=some o->(s₂.heap.push {cls:= .type "tuple",data:= .seq #[x,y]}).get? b=some o:=λq1 q2 e=>G1 _ (o2.2 _ _ (n2 q2) (o1.2 _ _ (n1 q1) e))
  refine wpAny_bind (G1c (P0 ⟨_,rfl,fin _ (λb o _ e=>G1 _ e) (P8 _ rfl) ?_ (keep ap.I1 ap.I2 I₀) ⟨_,_,keep ap.O1 ap.O2 O₀⟩⟩));exact let ⟨f,b,e,q⟩:=Z₂;⟨f,b,G1 _ e,q⟩
 |true=>
  obtain⟨f0',b1',hz₀,_⟩:=Z₀;have note:=λ{P:Unit->Shared->Prop} {E':Value->Shared->Prop} (k: ∀h',h'.get? z=some (MB .ellipsis b1' TI TO)->Heap.SameBut z h₀ h'->P () {s with heap:=h'})=>
   wpAny_setField_rec (prog:=prog) (w:=w) (A:=A) (E:=E') (s:= {s with heap:=h₀}) (k:=0) (x:= .ellipsis) hz₀ (by simp) k
  wp_walk using note
  intro h₁ z₁ same₁;have off₁:Off [z] s.heap h₁:=off₀.trans (.of same₁ (by simp));have O₁:=same₁.extBut _ _ ap.zO.symm O₀;have I₁:=same₁.extBut _ _ ap.zI.symm I₀;have fell: ∀ {h:Heap} {e:Value} {s':Shared},h.get? z=some (MB .ellipsis b1' TI TO)->Ss z h E e s'->wpAny (model prog w) A (setField (.ref z) 0 .none) (λ_ s''=>E e s'') E s':=λhz' f=>
   wpAny_setField_rec (f.1 _ hz') (by simp) λh' _ same=>f.2 h' same.extBut
  have draw:=λ{P:Value->Shared->Prop} {E':Value->Shared->Prop} (k: ∀x s₁,_->P x s₁) (f: ∀e s',Ss z h₁ E e s'->E' e s')=>S0 (go h₁ off₁ ⟨_,z₁,rfl⟩) k f
  wp_walk using wpAny_onRaise,draw
  case f=>exact λe s' f=>fell z₁ f
  intro x s₁ ⟨o1,go2⟩;have z₂:=o1.2 _ _ (by simp [ap.z1]) z₁;have O₂:IsPair s₁.heap TO a' b':=o1.2 _ _ (by simp [ap.O1]) O₁;have I₂:=o1.2 _ _ (by simp [ap.I1]) I₁;have lay:=λ{P:Unit->Shared->Prop} {E':Value->Shared->Prop}=>wpAny_updateSeq_pair (prog:=prog) (w:=w) (A:=A) (E:=E') (s:=s₁) (k:=0) (x:=x) (Q:=P) O₂
  wp_walk using lay
  intro h₂ O₃ same₂
  replace O₃:IsPair h₂ TO x b':=O₃
  have z₃:=same₂.extBut _ _ ap.zO z₂;have I₃:=same₂.extBut _ _ ap.OI.symm I₂;have draw2:=λ{P:Value->Shared->Prop} {E':Value->Shared->Prop} (k: ∀y s₂,_->P y s₂) (f: ∀e s',Ss z h₂ E e s'->E' e s')=>S0 (go2 h₂ (.of same₂ (by simp))) k f
  wp_walk using wpAny_onRaise,draw2
  case f=>exact λe s' f=>fell z₃ f
  intro y s₂ ⟨o2,fin⟩;have z₄:=o2.2 _ _ (by simp [ap.z2]) z₃;have O₄:IsPair s₂.heap TO x b':=o2.2 _ _ (by simp [ap.O2]) O₃;have I₄:=o2.2 _ _ (by simp [ap.I2]) I₃;have lay2:=λ{P:Unit->Shared->Prop} {E':Value->Shared->Prop}=>wpAny_updateSeq_pair (prog:=prog) (w:=w) (A:=A) (E:=E') (s:=s₂) (k:=1) (x:=y) (Q:=P) O₄
  wp_walk using lay2
  intro h₄ O₅ same₃
  replace O₅:IsPair h₄ TO x y:=O₅
  have z₅:=same₃.extBut _ _ ap.zO z₄;have I₅:=same₃.extBut _ _ ap.OI.symm I₄
  wp_walk
  have size:h₄.objs.size=s₂.heap.objs.size:=same₃.1;have zp:=G1 {cls:= .type "tuple",data:= .seq #[x,y]} z₅;have zu:=S9 (Obj.mapFields λv=>v.setIfInBounds 0 (rawInt h₄.objs.size)) zp rfl;have zu':=S9 (Obj.mapFields λv=>v.setIfInBounds 1 (Value.bool false)) zu rfl;have away: ∀ {b o},b≠z->(h₄.push {cls:= .type "tuple",data:= .seq #[x,y]}).get? b=some o->
   (((h₄.push {cls:= .type "tuple",data:= .seq #[x,y]}).update z (Obj.mapFields λv=>v.setIfInBounds 0 (rawInt h₄.objs.size))).update z (Obj.mapFields λv=>v.setIfInBounds 1 (Value.bool false))).get? b=some o:=λn e=>
   (T9 ..).extBut _ _ n ((T9 ..).extBut _ _ n e)
  have new:=away (b:=h₄.objs.size) (λq=>S7 _ (q ▸ P2 z₅)) (P8 _ rfl);refine⟨_,rfl,?_⟩;have done:=fin _ (λb o n e=>away (λq=>n (by simp [q])) (G1 _ (same₃.extBut _ _ (λq=>n (by simp [q])) e))) (size ▸ new) ⟨_,_,zu',.inr ⟨_,_,rfl⟩⟩ (away ap.zI.symm (G1 _ I₅)) ⟨_,_,away ap.zO.symm (G1 _ O₅)⟩;rw [<-size] at done;exact done
theorem Op {tg : Expr} {v : Value} {Q : Unit → Shared → Prop} (Z : ZipAt s.heap z TI TO) (k : ∀ h', ZipAt h' z TI TO → Off [z] s.heap h' → Q () { s with heap := h' }) : wpAny (model prog w) A (letOwnedTupleGo tg (.ref z) v) Q E s := by
  obtain ⟨f0, b1, hz, hf⟩ := id Z
  have stay := k s.heap Z (.refl _ _)
  have gone : wpAny (model prog w) A (updateField z 0 .none) Q E s := wpAny_setField_rec (k := 0) (x := .none) hz (by simp) fun h' z' same => k h' ⟨_, _, z', .inl rfl⟩ (.of same (by simp))
  unfold letOwnedTupleGo
  cases tg <;> first
    | exact P0 stay
    | (cases v <;> wp_walk <;> first
        | exact stay
        | (split
           · exact wpAny_bind (W7 gone)
           · exact P0 stay))
theorem Cf {Q:Option Value->Shared->Prop}(Z:ZipAt s.heap z TI TO)
 (h:wpAny (model prog w) A.in1 (Builtin.«zip.__next__» ⟨[.ref z],[]⟩) (λfin s'=> ∃v,fin= .done (.ret v)/\Q (some v) s') (λe s'=>s'.TypeIs e "StopIteration" /\Q none s') s):wpAny (model prog w) A (pyNext (.ref z)) Q E s:=by
 obtain⟨_,_,hz,_⟩:=Z;have ty:s.TypeIs (.ref z) "zip" :=⟨_,hz,rfl⟩;have asked:=N9 F.slot_zip_next ty F.entry_zip_next h (F.args_zip_next_1 _);exact wpAny_bind (wpAny_attempt (B8 (name:= "__next__") ty F.slot_zip_next (S0 asked (λ_ _ q=>P0 q) λe s' q=>wpAny_bind (G0H (b:=true) q.1 isSubtype_stop (P0 q.2)))))
theorem Cg {l1 l2:Addr}{xs ys:Array Value}{P:PySem.Fin->Shared->Prop}(t1:s.heap.IsTuple l1 xs)(t2:s.heap.IsTuple l2 ys)
 (h: ∀h' n,n=s.heap.objs.size->ZipAt h' (n+4) (n+2) (n+3)->IsPair h' (n+2) (.ref n) (.ref (n+1))->(∃a b,IsPair h' (n+3) a b)->h'.IsTupleIter n l1 0->h'.IsTupleIter (n+1) l2 0->
  (∀b o,s.heap.get? b=some o->h'.get? b=some o)->P (.done (.ret (.ref (n+4)))) {s with heap:=h'}):
 wpAny (model prog w) A (Builtin.«zip.__new__» ⟨[.type "zip",.ref l1,.ref l2],[]⟩) P E s:=by
 have fine:=sub_zip;obtain⟨hp,g,d,tk,os⟩:=s;have first:Heap.IsTuple (Shared.heap ⟨hp,g,d,tk,os⟩) l1 xs:=t1
 have second: ∀o,Heap.IsTuple (Shared.heap ⟨hp.push o,g,d,tk,os⟩) l2 ys:=λo=>Heap.IsTuple.push t2 o
 wp_walk using O7 first,O7 (second _)
 have size: ∀ (q:Heap) o,(q.push o).objs.size=q.objs.size+1:=λq o=>K8 ..
 have n2: ∀o1 o2,((hp.push o1).push o2).objs.size=hp.objs.size+2:=λ_ _=>by rw [size,size]
 have n3: ∀o1 o2 o3,(((hp.push o1).push o2).push o3).objs.size=hp.objs.size+3:=λ_ _ _=>by rw [size,n2]
 have n4: ∀o1 o2 o3 o4,((((hp.push o1).push o2).push o3).push o4).objs.size=hp.objs.size+4:=λ_ _ _ _=>by rw [size,n3]
 have up: ∀ {q:Heap} {b o} o',q.get? b=some o->(q.push o').get? b=some o:=λo' e=>G1 o' e
 show P (.done (.ret (.ref (Heap.objs (((((hp.push _).push _).push _).push _))).size))) _;rw [n4];have at1:=P8 (hp.push {cls:= .type "tuple_iterator",data:= .fields #[.ref l1,.int 0 0]}) (o:= {cls:= .type "tuple_iterator",data:= .fields #[.ref l2,.int 0 0]}) rfl;rw [size] at at1;have top: ∀ (q:Heap) (o:Obj) (m:Nat),q.objs.size=m->o.isFreed=false->(q.push o).get? m=some o:=λq o m e f=>e ▸ P8 q f
 refine h _ hp.objs.size rfl ⟨.none,false,(top _ _ _ (n4 ..) rfl).trans ?_,.inl rfl⟩ ((up _ (up _ (top _ _ _ (n2 ..) rfl))).trans ?_) ⟨.none,.none,up _ (top _ _ _ (n3 ..) rfl)⟩ ⟨_,up _ (up _ (up _ (up _ (P8 _ rfl)))),rfl,rfl⟩ ⟨_,up _ (up _ (up _ at1)),rfl,rfl⟩ λb o e=>up _ (up _ (up _ (up _ (up _ e))))
 ·simp only [size,V8];rfl
 ·simp only [size];rfl
theorem Ye {T newId initId:String}{pos:List Value}{kw:List (Str×Value)}{Made:Value->Shared->Prop}{Q:Value->Shared->Prop}(ft:TypeCalled T newId initId)(fits:checkTypeCall T ⟨pos,kw⟩=pure ())
 (made:wpAny (model prog w) A.in1 (call (.builtin newId) (.type T::pos) kw) Made E s)
 (begun: ∀o s₁,Made o s₁->s₁.TypeIs o T/\wpAny (model prog w) A.in1 (callSpecial? o "__init__" pos kw) (λr s₂=>r=some .none/\Q o s₂) E s₁):
 wpAny (model prog w) A (call (.type T) pos kw) Q E s:=by
 have f1:=ft.notType;have f2:=ft.canCreate;have f3:=ft.made;have f4:=ft.sub;obtain⟨_,_,f5⟩:=ft.mro;have first:=λ{Q':Value->Shared->Prop} (k: ∀o s₁,Made o s₁->Q' o s₁)=>S0 (E':=E) made k λ_ _ z=>z
 refine G0Z (codeAny_of_tree (P0 ⟨Code.quiet_builtin _ (by decide +kernel),V9 F.entry_type_call ?_⟩));rw [Around.under_plain (weight_type_call_type T pos kw) (units_type_call_type T pos kw)]
 wp_walk using first
 intro o s₁ m;obtain⟨ty,then_⟩:=begun o s₁ m;refine wpAny_bind (G0H (b:=true) ty f4 (wpAny_bind (B7 (S0 then_ (λr s₂ q=> ?_) λ_ _ z=>z))));obtain⟨rfl,q⟩:=q;exact P0 q
theorem XI {T newId:String}{o:Value}{pos:List Value}{kw:List (Str×Value)}{Q:Option Value->Shared->Prop}(ft:TypeCalled T newId "object.__init__")(other:(some newId !=some "object.__new__")=true)(ty:s.TypeIs o T)
 (fits:argsOk "object.__init__" ⟨o::pos,kw⟩)(q:Q (some .none) s):wpAny (model prog w) A (callSpecial? o "__init__" pos kw) Q E s:=by
 have f1:=ft.init.lookup;have f2:=ft.made;refine B8 ty ft.init (wpAny_call_entry_kw ft.init ty F.entry_object_init ?_ fits);cases e:(!pos.isEmpty|| !kw.isEmpty)<;>(wp_walk;exact⟨_,rfl,q⟩)
theorem XJ {l1 l2:Addr}{xs ys:Array Value}{Q:Value->Shared->Prop}(t1:s.heap.IsTuple l1 xs)(t2:s.heap.IsTuple l2 ys)
 (h: ∀h' n,n=s.heap.objs.size->ZipAt h' (n+4) (n+2) (n+3)->IsPair h' (n+2) (.ref n) (.ref (n+1))->(∃a b,IsPair h' (n+3) a b)->h'.IsTupleIter n l1 0->h'.IsTupleIter (n+1) l2 0->
  (∀b o,s.heap.get? b=some o->h'.get? b=some o)->Q (.ref (n+4)) {s with heap:=h'}):wpAny (model prog w) A (call (.type "zip") [.ref l1,.ref l2]) Q E s:=
 Ye (Made:=λo s₁=>s₁.TypeIs o "zip" /\Q o s₁) F.called_zip (F.typeCall_zip_2 _ _)
  (G0Z (X9 F.called_zip.plain F.entry_zip_new (wpAny_of_eq (F.newCall_zip_2 _ _) (Cg t1 t2 λh' n en zp i o a b k=>⟨let ⟨_,_,e,_⟩:=zp;⟨_,e,rfl⟩,h h' n en zp i o a b k⟩))))
  λ_ _ ⟨ty,q⟩=>⟨ty,XI F.called_zip (by decide) ty (F.args_object_init_3 _ _ _) ⟨rfl,q⟩⟩
end
def Itz (K : PySem.W.Frag) (a b : Addr) : It :=
  ⟨fun i H => ∃ xs ys x y, SqT K H a xs ∧ SqT K H b ys ∧ xs[i]? = some x ∧ ys[i]? = some y,
   fun i H x H' => ∃ p v u, H p = none ∧ (∀ xs, SqT K H a xs → xs[i]? = some v) ∧ (∀ ys, SqT K H b ys → ys[i]? = some u) ∧ x = .ref p ∧ H' = upd H p (.tup [v, u]),
   fun i H => ∃ xs ys, SqT K H a xs ∧ SqT K H b ys ∧ (xs.length ≤ i ∨ ys.length ≤ i)⟩
theorem XL {Q:Option Value->Shared->Prop}{E:Value->Shared->Prop}{s:Shared}{z TI TO i1 i2 l1 l2:Addr}{xs ys:Array Value}(calm:A.handled=none)(ap:ZApart z TI TO i1 i2)(n1:l1 ∉ [z,TO,i1,i2])(n2:l2 ∉ [z,TO,i1,i2])(i12:i1≠i2)
 (Z:ZipAt s.heap z TI TO)(hTI:IsPair s.heap TI (.ref i1) (.ref i2))(hTO: ∃a b,IsPair s.heap TO a b)(t1:s.heap.IsTuple l1 xs)(t2:s.heap.IsTuple l2 ys)(at1:s.heap.IsTupleIter i1 l1 i)(at2:s.heap.IsTupleIter i2 l2 i)
 (pair: ∀x y h' tk,xs[i]? =some x->ys[i]? =some y->(∀b o,b ∉ [z,TO,i1,i2]->s.heap.get? b=some o->h'.get? b=some o)->IsPair h' s.heap.objs.size x y->ZipAt h' z TI TO->IsPair h' TI (.ref i1) (.ref i2)->(∃a b,IsPair h' TO a b)->
  h'.IsTupleIter i1 l1 (i+1)->h'.IsTupleIter i2 l2 (i+1)->Q (some (.ref s.heap.objs.size)) {s with heap:=h',toks:=tk})
 (ended:(xs.size<=i\/ys.size<=i)-> ∀h' tk,(∀b o,b ∉ [z,TO,i1,i2]->s.heap.get? b=some o->h'.get? b=some o)->Q none {s with heap:=h',toks:=tk}):wpAny (model prog w) A (pyNext (.ref z)) Q E s:=by
 have sub: ∀ {b:Addr} {W:List Addr},b ∉ [z,TO,i1,i2]->(∀c∈W,c∈ [z,TO,i1,i2])->b ∉ W:=λn m q=>n (m _ q)
 have z': ∀c∈ [z],c∈ [z,TO,i1,i2]:=by simp
 have o': ∀c∈ [TO],c∈ [z,TO,i1,i2]:=by simp
 have a': ∀c∈ [i1],c∈ [z,TO,i1,i2]:=by simp
 have b': ∀c∈ [i2],c∈ [z,TO,i1,i2]:=by simp
 have zo: ∀c∈ [z,TO],c∈ [z,TO,i1,i2]:=by simp
 refine Cf Z (MC ap Z hTI hTO λh₁ off₁ isz=> ?_);have u1:h₁.IsTuple l1 xs:=t1.at λo e=>off₁.2 _ _ (sub n1 z') e
 have v1:h₁.IsTupleIter i1 l1 i:=at1.at λo e=>off₁.2 _ _ (by simp [ap.z1.symm]) e
 have stop: ∀ {h h':Heap} {it e:Addr},z≠it->Heap.ExtBut it h h'->(∃o,h.get? z=some o/\o.cls= .type "zip")->(∃o,h'.get? e=some o/\o.cls= .type "StopIteration")->e≠z:=λnz x ⟨o,e1,c1⟩ ⟨o2,e2,c2⟩ q=>by
  subst q;rw [x _ _ nz e1] at e2;cases e2;rw [c1] at c2;simp at c2
 cases hx:xs[i]? with
 |none=>
  refine wm (s:= {s with heap:=h₁}) calm v1 u1 hx λh' e grown st=>⟨λo q=>grown _ _ ap.z1 q,λh2 k=>⟨?_,ended (.inl (U2.mp hx)) _ _ λb o n q=>k _ _ (λy=>sub n z' (by simp [y])) (grown _ _ (λy=>sub n a' (by simp [y])) (off₁.2 _ _ (sub n z') q))⟩⟩
  have ne:=stop ap.z1 grown isz st;obtain⟨o,q,c⟩:=st;exact⟨o,k _ _ ne q,c⟩
 |some x=>
  refine ZL (s:= {s with heap:=h₁}) v1 u1 hx λh1' w1 same₁=>⟨.of same₁ (by simp),λh₂ off₂=> ?_⟩
  have all: ∀ {b o},b ∉ [z,TO,i1,i2]->s.heap.get? b=some o->h₂.get? b=some o:=λn e=>off₂.2 _ _ (sub n o') (same₁.extBut _ _ (λy=>sub n a' (by simp [y])) (off₁.2 _ _ (sub n z') e))
  have u2:h₂.IsTuple l2 ys:=t2.at λo e=>all n2 e
  have v2:h₂.IsTupleIter i2 l2 i:=at2.at λo e=>off₂.2 _ _ (by simp [ap.O2.symm]) (same₁.extBut _ _ i12.symm (off₁.2 _ _ (by simp [ap.z2.symm]) e))
  have w2:h₂.IsTupleIter i1 l1 (i+1):=w1.at λo e=>off₂.2 _ _ (by simp [ap.O1.symm]) e
  have isz2: ∃o,h₂.get? z=some o/\o.cls= .type "zip" :=let ⟨o,e,c⟩:=isz;⟨o,off₂.2 _ _ (by simp [ap.zO]) (same₁.extBut _ _ ap.z1 e),c⟩;cases hy:ys[i]? with
  |none=>
   refine wm (s:= {s with heap:=h₂}) calm v2 u2 hy λh' e grown st=>⟨λo q=>grown _ _ ap.z2 q,λh3 k=>⟨?_,ended (.inr (U2.mp hy)) _ _ λb o n q=>k _ _ (λy=>sub n z' (by simp [y])) (grown _ _ (λy=>sub n b' (by simp [y])) (all n q))⟩⟩
   have ne:=stop ap.z2 grown isz2 st;obtain⟨o,q,c⟩:=st;exact⟨o,k _ _ ne q,c⟩
  |some y=>
   refine ZL (s:= {s with heap:=h₂}) v2 u2 hy λh2' w3 same₂=>⟨.of same₂ (by simp),λh₃ kept new zip its out=> ?_⟩
   have size:h2'.objs.size=s.heap.objs.size:=by rw [same₂.1,off₂.1,same₁.1,off₁.1]
   have done:=pair x y h₃ s.toks hx hy (λb o n e=>kept _ _ (sub n zo) (same₂.extBut _ _ (λy=>sub n b' (by simp [y])) (all n e))) (size ▸ new) zip its out
    (w2.at λo e=>kept _ _ (by simp [ap.z1.symm,ap.O1.symm]) (same₂.extBut _ _ i12 e)) (w3.at λo e=>kept _ _ (by simp [ap.z2.symm,ap.O2.symm]) e)
   rw [<-size] at done;exact done
theorem Dq (n:Nat):ZApart (n+4) (n+2) (n+3) n (n+1):=by
 have d: ∀ {i j:Nat},i≠j->n+i≠n+j:=λh q=>h (Nat.add_left_cancel q)
 exact⟨d (j:=0) (by decide),d (by decide),d (by decide),d (by decide),d (j:=0) (by decide),d (by decide),d (by decide),d (j:=0) (by decide),d (by decide)⟩
theorem XM {c:Nat}(h:c<n):c ∉ [n+4,n+3,n,n+1]:=by
 simp only [D3,M0,U0,not_or];omega
theorem Ch {c:Nat}(h:c∈ [n+4,n+2,n+3,n,n+1]):n<=c:=by
 simp only [D3,M0,U0] at h;omega
theorem Pu {E:Value->Shared->Prop}{s:Shared}{z TI TO:Addr}{Q:Value->Shared->Prop}(Z:ZipAt s.heap z TI TO)(h:Q (.ref z) s):wpAny (model prog w) A (pyIter (.ref z)) Q E s:=by
 obtain⟨_,_,hz,_⟩:=Z;have ty:s.TypeIs (.ref z) "zip" :=⟨_,hz,rfl⟩;exact G0r ty F.slot_zip_iter (N9 F.slot_zip_iter ty F.entry_zip_iter (P0 ⟨_,rfl,_,_,ty,F.slot_zip_next.lookup,h⟩) (F.args_zip_iter_1 _))
theorem Ci {P:Program}(tg:Expr)(l1 l2 z TI TO i1 i2:Addr)(ap:ZApart z TI TO i1 i2)(n1:l1 ∉ [z,TO,i1,i2])(n2:l2 ∉ [z,TO,i1,i2])(i12:i1≠i2):
 Turn P w K tg (Itz K l1 l2) [z,TI,TO,i1,i2] z (λi h=>ZipAt h z TI TO/\IsPair h TI (.ref i1) (.ref i2)/\(∃a b,IsPair h TO a b)/\h.IsTupleIter i1 l1 i/\h.IsTupleIter i2 l2 i):=by
 have inW: ∀ {b:Addr},b ∉ [z,TI,TO,i1,i2]->b ∉ [z,TO,i1,i2]:=λn q=>n (by simp only [D3] at q ⊢;rcases q with q|q|q|q|q<;>simp [q] at*)
 have there: ∀ {i:Nat} {h:Heap},(ZipAt h z TI TO/\IsPair h TI (.ref i1) (.ref i2)/\(∃a b,IsPair h TO a b)/\h.IsTupleIter i1 l1 i/\h.IsTupleIter i2 l2 i)-> ∀b∈ [z,TI,TO,i1,i2],∃o,h.get? b=some o/\ ∀v,o.data≠ .cell v:=λ⟨⟨_,_,a1,_⟩,a2,⟨_,_,a3⟩,⟨o4,a4,_,d4⟩,⟨o5,a5,_,d5⟩⟩ b hb=>by
  simp only [D3,M0,U0] at hb;rcases hb with e|e|e|e|e<;>subst e
  ·exact⟨_,a1,λv z=>by cases z⟩
  ·exact⟨_,a2,λv z=>by cases z⟩
  ·exact⟨_,a3,λv z=>by cases z⟩
  ·exact⟨o4,a4,λv z=>by rw [d4] at z;cases z⟩
  ·exact⟨o5,a5,λv z=>by rw [d5] at z;cases z⟩
 refine⟨by simp,λi h st=>there st,λi h h' ⟨⟨f,b,a1,qf⟩,a2,⟨x,y,a3⟩,a4,a5⟩ q=>⟨⟨f,b,q z (by simp) _ a1,qf⟩,q TI (by simp) _ a2,⟨x,y,q TO (by simp) _ a3⟩,a4.at λo e=>q i1 (by simp) o e,a5.at λo e=>q i2 (by simp) o e⟩,?_,?_,λ_ _ _ _ _ st h=>Pu st.1 h⟩
 ·intro X hP hw hK hc i pins s σ H E I hf st hg;subst hP hw hK;obtain⟨xs,ys,x,y,hq,hq2,hx,hy⟩:=hg;obtain⟨its,rv,p,_⟩:=I.tuple hq;obtain⟨jts,rw',p2,_⟩:=I.tuple hq2;obtain⟨u,hu,ru⟩:=rv.get hx;obtain⟨v,hv,rv'⟩:=rw'.get hy;obtain⟨a1,a2,a3,a4,a5⟩:=id st;have lt: ∀b∈ [z,TI,TO,i1,i2],b≠s.heap.objs.size:=λb hb=>let ⟨_,e,_⟩:=there st b hb;R1 (P2 e)
  have l1':i<its.toArray.size:=by have:=(G6.mp hu).1;simpa using this
  have l2':i<jts.toArray.size:=by have:=(G6.mp hv).1;simpa using this
  refine XL (I.ok.hd hc) ap n1 n2 i12 a1 a2 a3 p p2 a4 a5 (λx' y' h' tk hx' hy' kept new zip it out w1 w2=>⟨_,rfl,?_⟩) λends=>absurd ends (by omega)
  have ex:x'=u:=by simp only [G0S] at hx';rw [hu] at hx';cases hx';rfl
  have ey:y'=v:=by simp only [G0S] at hy';rw [hv] at hy';cases hy';rfl
  subst ex ey;refine Op (s:= {s with heap:=h',toks:=tk}) zip λh2 zip2 off=> ?_
  have hn:H s.heap.objs.size=none:=I.hok.fresh (G9 _);have nz: ∀ {b},b≠z->b ∉ [z]:=λh=>by simpa using h
  have T2:IsPair h2 s.heap.objs.size x' y':=off.2 _ _ (nz (lt z (by simp)).symm) new;refine⟨.ref s.heap.objs.size,upd H s.heap.objs.size (.tup [x,y]),?_,rfl,⟨_,x,y,hn,λws hw=>by rw [I.tuple_inj hw hq];exact hx,λws hw=>by rw [I.tuple_inj hw hq2];exact hy,rfl,rfl⟩,
   ⟨zip2,off.2 _ _ (nz ap.zI.symm) it,let ⟨a,b,e⟩:=out;⟨a,b,off.2 _ _ (nz ap.zO.symm) e⟩,w1.at λo e=>off.2 _ _ (nz ap.z1.symm) e,w2.at λo e=>off.2 _ _ (nz ap.z2.symm) e⟩,λb hb=> ?_⟩
  ·refine I.turnLaid (h':=h2) (t':=tk) (ch:= [z,TI,TO,i1,i2]) (λb u hb q=>off.2 _ _ (λy=>inW hb (by simp only [G3] at y;simp [y])) (kept b u (inW hb) q)) hf (G9 _) ⟨by show 2<=sizeLine;decide,[x',y'],.cons ru (.cons rv' .nil),⟨_,T2,rfl,rfl,_,rfl⟩⟩
  ·rw [jx (lt b hb)];exact(hf b hb).1
 ·intro X hP hw hK hc i pins s σ H E I hf st hg;subst hP hw hK;obtain⟨xs,ys,hq,hq2,hl⟩:=hg;obtain⟨its,rv,p,_⟩:=I.tuple hq;obtain⟨jts,rw',p2,_⟩:=I.tuple hq2;have e1:=rv.length;have e2:=rw'.length;obtain⟨a1,a2,a3,a4,a5⟩:=id st;refine XL (I.ok.hd hc) ap n1 n2 i12 a1 a2 a3 p p2 a4 a5 (λx' y' h' tk hx' hy' _ _ _ _ _ _ _=> ?_) λ_ h' tk kept=>⟨rfl,I.turnL (ch:= [z,TI,TO,i1,i2]) (λb o hb q=>kept b o (inW hb) q) hf⟩
  have b1:=(L6.mp hx').1;have b2:=(L6.mp hy').1;simp only [P6] at b1 b2;omega
section
variable {X:Cx}
def KK (K:PySem.W.Frag)(ta:TA):TI:=λσ H R=>ta σ H λvs H1=> ∃a b,vs= [.ref a,.ref b]/\(∃xs,SqT K H1 a xs)/\(∃ys,SqT K H1 b ys)/\R (Itz K a b) H1
theorem Su {tg:Expr}{a b:Expr}{ta:TA}{p pos:Pos}(hg:Gl X "zip")(hm:X.mg "zip" =none)(ha:PA X [a,b] ta)(hs:starEach [a,b] X.env= [(false,eval a X.env),(false,eval b X.env)]:=by rfl)(hs2:starEach [b] X.env= [(false,eval b X.env)]:=by rfl):
 PI X tg (.Call (.Name "zip" p) [a,b] [] pos) (KK X.K ta):=by
 intro pins s σ H R I h;refine Call_ (Wh I hg hm boot_zip (C4 (thn (ha pos pins s σ H _ I h) λus s1 ⟨vs,H1,I1,r1,q1⟩=> ?_) (by rw [hs,hs2]) (by rw [hs2];rfl)));obtain⟨a,b,e,⟨xs,hq⟩,⟨ys,hq2⟩,q⟩:=q1;subst e;cases r1 with
 |cons r rr=>
  cases rr with
  |cons r' rr=>
   cases rr;cases r;cases r';obtain⟨its,rv,p,_⟩:=I1.tuple hq;obtain⟨jts,rw',p2,_⟩:=I1.tuple hq2;have la:a<s1.heap.objs.size:=by obtain⟨o,ho,_⟩:=p;exact P2 ho
   have lb:b<s1.heap.objs.size:=by obtain⟨o,ho,_⟩:=p2;exact P2 ho
   refine XJ (show s1.heap.IsTuple a its.toArray from p) (show s1.heap.IsTuple b jts.toArray from p2) λh' n en z1 z2 z3 z4 z5 hk=> ?_
   subst en;refine Pu z1 ⟨s1.heap.objs.size+4,[s1.heap.objs.size+4,s1.heap.objs.size+2,s1.heap.objs.size+3,s1.heap.objs.size,s1.heap.objs.size+1],_,_,H1,rfl,I1.kept (t':=s1.toks) hk,
    Ci _ a b _ _ _ _ _ (Dq _) (XM la) (XM lb) (R1 (C7 _)),⟨z1,z2,z3,z4,z5⟩,λc hc=> ?_,q⟩
   have hb':s1.heap.objs.size<=c:=Ch hc;exact I1.fpOk hb' (I1.hok.fresh hb')
end
def Bk (ds es:List D):List D:=(ds.zip es).map λp=> .tup [p.1,p.2]
def iZ (ta:TAD):TID:=λσ h R=>ta σ h λxs h1=> ∃ds es,xs= [.tup ds,.tup es]/\R (λ_=>some (Bk ds es)) h1
theorem Cj {ds es:List D}{d:D}(h:(Bk ds es)[i]? =some d): ∃x y,ds[i]? =some x/\es[i]? =some y/\d= .tup [x,y]:=by
 unfold Bk at h;rw [P1] at h;cases q:(ds.zip es)[i]? with
 |none=>rw [q] at h;cases h
 |some p=>
  rw [q] at h;obtain⟨x,y⟩:=p;rw [List.getElem?_zip_eq_some] at q;exact⟨x,y,q.1,q.2,(M7 h).symm⟩
section
variable {K:PySem.W.Frag}
theorem Ck {H:Hp}{a b:Addr}{vs us:List V}{ds es:List D}(hv:H a=some (.tup vs))(r:RelDs K H ds vs)(hu:H b=some (.tup us))(ru:RelDs K H es us):Fw K H (λ_=>some (Bk ds es)) (Itz K a b):=λH' h' k rh ds' e i=>by
 cases e;have hv':=k.tup _ _ hv;have hu':=k.tup _ _ hu;have r':=r.mono k;have ru':=ru.mono k;refine⟨λd hd=> ?_,λhl=>⟨vs,us,SqT.of hv',SqT.of hu',?_⟩⟩
 ·obtain⟨x,y,hx,hy,ed⟩:=Cj hd;subst ed;obtain⟨v,e1,e2⟩:=r'.get hx;obtain⟨u,e3,e4⟩:=ru'.get hy;refine⟨⟨vs,us,v,u,SqT.of hv',SqT.of hu',e1,e3⟩,λx' H'' ⟨p,v',u',hp,hx',hy',ex,eH⟩=> ?_⟩;subst ex eH;have ev:v'=v:=by have:=hx' vs (SqT.of hv');rw [e1] at this;exact(M7 this).symm
  have eu:u'=u:=by have:=hy' us (SqT.of hu');rw [e3] at this;exact(M7 this).symm
  subst ev eu;have k2:Kept H' (upd H' p (.tup [v',u'])):= .new hp;exact⟨k2,RelH.new rh hp,p,[v',u'],rfl,jz,_,_,rfl,e2.mono k2,_,_,rfl,e4.mono k2,rfl⟩
 ·have l1:=r.length;have l2:=ru.length;unfold Bk at hl;rw [G2,G0T] at hl;omega
theorem Sv {ta:TAD}: ∀σ H R,LI K (iZ ta) σ H R->KK K (LA K ta) σ H R:=λσ H R ⟨σd,h,Rd,rs,rh,q,p⟩=>
 LA.bind rs rh q λds vs h1 H1 k1 rs1 rh1 r1 ⟨es,fs,e,q1⟩=>by
  subst e;obtain⟨v,w,e,r2,r3⟩:=yF r1;obtain⟨a,ws,e',hv,r⟩:=(show ∃a vs,v= .ref a/\H1 a=some (.tup vs)/\RelDs K H1 es vs from r2);obtain⟨b,us,e'',hu,r'⟩:=(show ∃a vs,w= .ref a/\H1 a=some (.tup vs)/\RelDs K H1 fs vs from r3);subst e' e'';exact⟨a,b,e,⟨ws,SqT.of hv⟩,⟨us,SqT.of hu⟩,p _ _ _ _ k1 rh1 (Ck hv r hu r') q1⟩
end
section
variable {X:Cx}
theorem FE {tg:Expr}{a b:Expr}{ta:TAD}{p pos:Pos}(hg:Gl X "zip")(hm:X.mg "zip" =none)(ha:JA X [a,b] ta)(hs:starEach [a,b] X.env= [(false,eval a X.env),(false,eval b X.env)]:=by rfl)(hs2:starEach [b] X.env= [(false,eval b X.env)]:=by rfl):
 JI X tg (.Call (.Name "zip" p) [a,b] [] pos) (iZ ta):=⟨(Su hg hm ha.to hs hs2).imp Sv⟩
end
def inE (neg:Bool):RD2:=λx y h Q=> ∃ (p:PyData) (ps:List PyData),ToP h x p/\(ToP h y (.list ps)\/ToP h y (.tuple ps))/\p.canLay0=true/\PyData.canLayAll0 ps=true/\p.depth<=60/\Q (.bl (neg !=ps.any λz=>PyData.eqv z p)) h
section
variable {X:Cx}
theorem HN (hu:X.A.units+64<cLine):OpQ X (compareOp .In) (inE false):=by
 intro pins s σ H x y v u Q I rx ry h;obtain⟨dx,dy,h,Qd,r1,r2,rh,⟨p,ps,t1,t2,c1,c2,c3,qq⟩,post⟩:=h;obtain⟨as,a1⟩:=wX I rh t1 r1 rx;have hu':X.A.units+1+min (PyData.depthAll ps) p.depth<cLine:=by have:=G0E (PyData.depthAll ps) p.depth;omega
 have q':Qd (.bl (ps.any λz=>PyData.eqv z p)) h:=by simpa using qq
 rcases t2 with t2|t2
 ·obtain⟨bs,b1⟩:=wX I rh t2 r2 ry;exact in_list_reads b1 a1 c2 c1 hu' ⟨.bl _,H,I,rfl,post (.bl _) _ _ _ (.refl H) rh rfl q'⟩
 ·obtain⟨bs,b1⟩:=wX I rh t2 r2 ry;exact in_tuple_reads b1 a1 c2 c1 hu' ⟨.bl _,H,I,rfl,post (.bl _) _ _ _ (.refl H) rh rfl q'⟩
theorem Cl (hu:X.A.units+64<cLine):OpQ X (compareOp .NotIn) (inE true):=by
 intro pins s σ H x y v u Q I rx ry h;obtain⟨dx,dy,h,Qd,r1,r2,rh,⟨p,ps,t1,t2,c1,c2,c3,qq⟩,post⟩:=h;obtain⟨as,a1⟩:=wX I rh t1 r1 rx;have hu':X.A.units+1+min (PyData.depthAll ps) p.depth<cLine:=by have:=G0E (PyData.depthAll ps) p.depth;omega
 have q':Qd (.bl (!ps.any λz=>PyData.eqv z p)) h:=by simpa using qq
 rcases t2 with t2|t2
 ·obtain⟨bs,b1⟩:=wX I rh t2 r2 ry;exact notIn_list_reads b1 a1 c2 c1 hu' ⟨.bl _,H,I,rfl,post (.bl _) _ _ _ (.refl H) rh rfl q'⟩
 ·obtain⟨bs,b1⟩:=wX I rh t2 r2 ry;exact notIn_tuple_reads b1 a1 c2 c1 hu' ⟨.bl _,H,I,rfl,post (.bl _) _ _ _ (.refl H) rh rfl q'⟩
theorem Oq {tg:Expr}{p pos:Pos}{a b:Expr}{ta:TAD}(hg:Gl X "range")(hm:X.mg "range" =none)(ha:JA X [a,b] ta)(hs:starEach [a,b] X.env= [(false,eval a X.env),(false,eval b X.env)]:=by rfl)(hs2:starEach [b] X.env= [(false,eval b X.env)]:=by rfl):JI X tg (.Call (.Name "range" p) [a,b] [] pos) (iR2 ta):=⟨(Rs hg hm ha.to hs hs2).imp Ht⟩
end
def HP (i:Nat)(f:Int->Int->Int)(te:TED):TSD:=λD σ h=> ∃x:Int,σ[i]? =some (some (.int x))/\te σ h λy h1=> ∃j:Int,y= .int j/\D.nx (σ.set i (some (.int (f x j)))) h1
theorem FF {f:Int->Int->Int}{te:TED}: ∀D σ H,LS K (HP i f te) D σ H->Km i (LE K te) (ipI f) D σ H:=λD σ H ⟨σd,h,Dd,rs,rh,⟨x,hx,q⟩,nx,rt,bk,ct⟩=>by
 obtain⟨v,e1,r1⟩:=rs.2 i _ hx;cases (show v= .int x from r1);exact⟨_,e1,LE.bind rs rh q λd u h1 H1 k1 rs1 rh1 r1 ⟨j,e,q1⟩=>by
  subst e;cases (show u= .int j from r1);exact⟨x,j,rfl,rfl,nx _ _ _ _ k1 (rs1.set (d:= .int (f x j)) rfl i) rh1 q1⟩⟩
section
variable {X:Cx}{i:Nat}{x:Str}{e:Expr}{te:TED}{pos pos':Pos}
theorem Os (hN:X.N.Nodup)(hi:X.N[i]? =some x)(hx:Loc X.env.scope x)(he:JE X e te)(hf:X.fn x=true\/X.env.scope.names.lookup x=some .local:=by first|exact .inl rfl|exact .inr rfl|assumption):JS X (.AugAssign (.Name x pos') .Add e pos) (HP i (λa b=>a+b) te):=⟨(Fr hN hi hx he.to AV hf).imp FF⟩
theorem Ot (hN:X.N.Nodup)(hi:X.N[i]? =some x)(hx:Loc X.env.scope x)(he:JE X e te)(hf:X.fn x=true\/X.env.scope.names.lookup x=some .local:=by first|exact .inl rfl|exact .inr rfl|assumption):JS X (.AugAssign (.Name x pos') .Sub e pos) (HP i (λa b=>a-b) te):=⟨(Fr hN hi hx he.to AW hf).imp FF⟩
end
end L2
namespace L2
open PySem PySem.Spec PyProof.Rows
section
variable {prog:Program}{w:World}{A:Around}{E:Value->Shared->Prop}{s:Shared}
theorem vw: ∀ {vs:List Value} {ns:List Int},IntsAre vs ns-> ∀ {i:Nat} {v:Value},vs[i]? =some v-> ∃t,v= .int (ns.getD i 0) t/\i<ns.length
 |_,_,.nil,_,_,hv=>by simp at hv
 |_,_,.cons _ t _,0,_,hv=>⟨t,by simpa using hv.symm,by simp⟩
 |_,_,.cons _ _ r,i+1,_,hv=>by
  obtain⟨t,e,lt⟩:=vw r (i:=i) (by simpa using hv);exact⟨t,by simpa using e,by simpa using lt⟩
theorem XN {l:Addr}{o:Obj}(here:l<s.heap.objs.size): ∀b∈ [s.heap.objs.size,l],b<(s.heap.push o).objs.size:=λb hb=>by
 rw [K8];simp only [D3,M0,U0] at hb;rcases hb with e|e<;>subst e
 ·exact C7 _
 ·exact J6 here
theorem XO {o:Obj}{h':Heap}(k: ∀b u,b ∉ [s.heap.objs.size]->(s.heap.push o).get? b=some u->h'.get? b=some u): ∀b u,s.heap.get? b=some u->h'.get? b=some u:=λb u e=>
 k b u (λm=>absurd (P2 e) (by rw [G3.mp m];exact S7 _)) (G1 _ e)
end
section
variable {X:Cx}
theorem MD (hc:X.calm=true):CallR X (.builtin "max") (λxs H Q=> ∃ (a:Addr) (ns:List Int),xs= [.ref a]/\ns≠ []/\(SqL X.K H a (ns.map V.int)\/SqT X.K H a (ns.map V.int))/\ ∀m∈ns,(∀x∈ns,x<=m)->Q (.int m) H):=by
 intro pins s σ H xs us Q I r h;obtain⟨a,ns,rfl,hne,hS,q⟩:=h;obtain⟨u,rfl,ru⟩:=Wv r;cases ru;have fin: ∀ {its:List Value} (hi:IntsAre its ns) (v:Value) (h':Heap) (tk:Nat),its.toArray[argBest (λi j=>decide (ns.getD i 0>ns.getD j 0)) (its.toArray.size-1)]? =some v->(∀b o,s.heap.get? b=some o->h'.get? b=some o)->EP X pins σ Q v {s with heap:=h',toks:=tk}:=λ{its} hi v h' tk hv kept=>by
  obtain⟨t,rfl,lt⟩:=vw hi (show its[_]? =some v by simpa using hv);refine⟨.int _,H,I.kept kept,⟨t,rfl⟩,q _ (getD_mem lt) λx hx=> ?_⟩;obtain⟨j,hj,rfl⟩:=mem_getD hx;exact(argBest_gt (λi=>ns.getD i 0) (its.toArray.size-1)).2 j (by rw [P6,hi.length];omega)
 refine call_max_walk ?_;rcases hS with hS|hS
 ·obtain⟨its,rv,pl,_⟩:=I.list hS;have hi:=Wk rv;obtain⟨o,e,r⟩:=id pl.isList;have W:=G03 (prog:=X.prog) (w:=X.w) (A:=X.A.in1) (I.ok.hd hc) s.heap.objs.size a (R1 (P2 e)) its.toArray;exact A2 pl.isList ⟨_,_,_,_,_,_,_,rfl,W,⟨⟨_,P8 _ rfl,rfl,rfl⟩,⟨o,G1 _ e,r⟩⟩,XN (P2 e),by rw [P6,hi.length];exact Z5.mpr hne,CmpOf.ints_gt (λi=>ns.getD i 0) (λi v hv=>(vw hi (by simpa using hv)).imp λ_ z=>z.1),λv h' tk hv k=>fin hi v h' tk hv (XO k)⟩
 ·obtain⟨its,rv,pl,_⟩:=I.tuple hS;have hi:=Wk rv;obtain⟨o,e,r⟩:=id pl;have W:=Walks.tuple (prog:=X.prog) (w:=X.w) (A:=X.A.in1) (I.ok.hd hc) s.heap.objs.size a (R1 (P2 e)) its.toArray;exact O7 (show s.heap.IsTuple a its.toArray from pl) ⟨_,_,_,_,_,_,_,rfl,W,⟨⟨_,P8 _ rfl,rfl,rfl⟩,⟨o,G1 _ e,r⟩⟩,XN (P2 e),by rw [P6,hi.length];exact Z5.mpr hne,CmpOf.ints_gt (λi=>ns.getD i 0) (λi v hv=>(vw hi (by simpa using hv)).imp λ_ z=>z.1),λv h' tk hv k=>fin hi v h' tk hv (XO k)⟩
def Sw (B:List Int->Int->Prop):RDn:=λds h Q=> ∃ (ns:List Int) (h':HD),ns≠ []/\Sub h' h/\(ds= [.tup (ns.map D.int)]\/ ∃a,ds= [.lst a]/\h a=some (ns.map D.int))/\ ∀m∈ns,B ns m->Q (.int m) h'
abbrev HQ:RDn:=Sw λns m=> ∀x∈ns,x<=m
theorem Cm {B:List Int->Int->Prop}{f:Value}(c:CallR X f (λxs H Q=> ∃ (a:Addr) (ns:List Int),xs= [.ref a]/\ns≠ []/\(SqL X.K H a (ns.map V.int)\/SqT X.K H a (ns.map V.int))/\ ∀m∈ns,B ns m->Q (.int m) H)):Jf X f (Sw B):=
 c.imp λxs H Q ⟨ds,h,Qd,r,rh,⟨ns,h',hne,hs,e,q⟩,p⟩=>by
  rcases e with e|⟨a,e,ha⟩
  ·subst e;obtain⟨v,e,r1⟩:=jH r;obtain⟨a,vs,e1,hH,r2⟩:=(show ∃a vs,v= .ref a/\H a=some (.tup vs)/\RelDs X.K H (ns.map D.int) vs from r1);rw [jT r2] at hH;subst e e1;exact⟨a,ns,rfl,hne,.inr (SqT.of hH),λm m1 m2=>p (.int m) _ _ _ (.refl H) (rh.sub hs) rfl (q m m1 m2)⟩
  ·subst e;obtain⟨v,e,r1⟩:=jH r;obtain⟨vs,hH,r2⟩:=rh a _ ha;have e1:v= .ref a:=r1.1;rw [jT r2] at hH;subst e e1;exact⟨a,ns,rfl,hne,.inl (SqL.of hH),λm m1 m2=>p (.int m) _ _ _ (.refl H) (rh.sub hs) rfl (q m m1 m2)⟩
theorem ME (hc:X.calm=true):Jf X (.builtin "max") HQ:=Cm (MD hc)
end
theorem Cn {ta:TAD}{g:TGD}{tb:TSD}{E:EndsD}{σ:SD}{h h1:HD}(m:Int)(n:Nat)(W:Nat->SD->HD->Prop)(hm:0<=m)(hm2:m<1000000)(hn:n<1000000)
 (ht: ∀R:List D->HD->Prop,R [.int m,.int (m+(n:Int))] h1->ta σ h R)(w0:W 0 σ h1)(done: ∀σ' h',W n σ' h'->E.nx σ' h')
 (turn: ∀i σ' h',i<n->W i σ' h'->g (.int (m+(i:Int))) σ' h' λσ2 h2=>tb (Nxt E λσ3 h4=>i+1<=n/\W (i+1) σ3 h4) σ2 h2):Aq (iR2 ta) g tb E σ h:=by
 refine ht _ ⟨m,m+(n:Int),rfl,⟨by omega,by omega,by omega,by omega⟩,n,λi σ' h'=>i<=n/\W i σ' h',⟨T4 _,w0⟩,?_⟩;rintro i σ' h' ⟨hi,w⟩;have en:(m+(n:Int)-m).toNat=n:=by omega
 refine⟨_,rfl,by simp [en],λhl=> ?_,λd hd=> ?_⟩
 ·have:i=n:=by simp [en] at hl;omega
  subst this;exact done _ _ w
 ·rw [en,P1] at hd;cases hx:(List.range n)[i]? with
  |none=>rw [hx] at hd;cases hd
  |some y=>
   rw [hx] at hd;cases hd;obtain⟨hi2,e⟩:=G6.mp hx;simp at hi2 e;subst e;exact turn i σ' h' hi2 w
end L2
namespace L2
open PySem PySem.Spec PyProof.Rows PySem.SeqAt
variable {i:Nat}{h:HD}{Q:KD}
theorem Ou {js:List Nat}{ta:TAD}{tt:TTD}{te:TED}{σ:SD}{h1:HD}(n:Nat)(W:Nat->List D->HD->Prop)(hn:n<=1000)(ht: ∀R:List D->HD->Prop,R [.int (n:Int)] h1->ta σ h R)
 (w0:W 0 [] h1)(wl: ∀k ys h',W k ys h'->ys.length<=k)(turn: ∀k ys h',k<n->W k ys h'->tt ((jO js σ).set i (some (.int (k:Int)))) h' λb h3=>if b=true then te ((jO js σ).set i (some (.int (k:Int)))) h3 λy h4=> ∃h5,Sub h5 h4/\(k+1<=n/\W (k+1) (ys++ [y]) h5) else ∃h5,Sub h5 h3/\(k+1<=n/\W (k+1) ys h5))
 (done: ∀ys h',W n ys h'-> ∀p,h' p=none->Q (.lst p) (zN h' p ys)):yj (bN i) js (iR1 ta) tt te σ h Q:=by
 refine ht _ ⟨(n:Int),rfl,by omega,by omega,n,λk ys h'=>k<=n/\W k ys h',⟨T4 _,w0⟩,?_⟩;rintro k ys h' ⟨hk,w⟩;refine⟨D6 (wl k ys h' w) (D5 (jM (by omega))),_,rfl,by simp,λhl p hp=> ?_,λd hd=>⟨_,rfl,?_⟩⟩
 ·have:k=n:=by simp at hl;omega
  subst this;exact done _ _ w p hp
 ·obtain⟨hi',e⟩:=WY hd;have hk2:k<n:=by omega
  subst e;exact turn k ys h' hk2 w
section
variable {α:Type}{i i':Nat}{js:List Nat}{ti:TID}{te:TED}{σ:SD}{h:HD}{Q:KD}{j:ItD}
theorem ue (xs:List α)(c c' g:α->D)(hz:xs.length<=1000)(hj:j h=some (xs.map λx=> .tup [c x,c' x]))(ht: ∀R:ItD->HD->Prop,R j h->ti σ h R)
 (he: ∀x∈xs,∀Q':KD,Q' (g x) h->te (((jO js σ).set i (some (c x))).set i' (some (c' x))) h Q')(hq: ∀p,h p=none->Q (.lst p) (zN h p (xs.map g))):yj (b2 i i') js ti WV te σ h Q:=by
 refine ht _ ⟨xs.length,λk ys h'=>h'=h/\ys=(xs.take k).map g,⟨rfl,by simp⟩,?_⟩;rintro k ys h' ⟨rfl,rfl⟩;refine⟨by simp only [G2,R3];exact D5 (jM (by omega)),_,hj,by simp,λhl p hp=> ?_,λd hd=> ?_⟩
 ·rw [D7 (by simpa using hl)];exact hq p hp
 ·rw [P1] at hd;cases hx:xs[k]? with
  |none=>rw [hx] at hd;cases hd
  |some x=>
   rw [hx] at hd;cases hd;refine⟨_,⟨_,_,rfl,rfl⟩,?_⟩;unfold WV;dsimp only;rw [if_pos rfl];refine he x (G5 hx) _ ⟨h',Sub.refl _,rfl,?_⟩;rw [N3,hx];simp
theorem HR (xs:List α)(c c':α->D)(g:α->Bool)(hz:xs.length<=1000)(hj:j h=some (xs.map λx=> .tup [c x,c' x]))(ht: ∀R:ItD->HD->Prop,R j h->ti σ h R)
 (he: ∀x∈xs,∀Q':KD,Q' (.bl (g x)) h->te (((jO js σ).set i (some (c x))).set i' (some (c' x))) h Q')(hq:Q (.bl (xs.all g)) h):dCB Sa (wC (yj (b2 i i') js ti WV te) WE) σ h Q:=by
 show yj (b2 i i') js ti WV te σ h (λx h1=>Sa [x] h1 Q);exact ue xs c c' (λx=> .bl (g x)) hz hj ht he λp hp=>⟨p,xs.map g,rfl,by rw [jc,T3];rfl,by rw [zS hp,O5];exact hq⟩
end
def Rf (S:List Nat):PyData:=FD (Go S)
theorem Jz (h:HD)(S:List Nat):ToP h (jJ S) (Rf S):=by rw [Ol];exact⟨_,rfl,XG h _⟩
theorem Vw (r:List Int):(FD r).canLay0=true:=by unfold FD;simp only [PyData.canLay0];exact Yc r
theorem Yf (r:List Int):(FD r).depth<=2:=by unfold FD;simp only [PyData.depth];have:=Vv r;omega
theorem Vx: ∀a b:List Int,PyData.eqvAll (a.map PyData.int) (b.map PyData.int)=decide (a=b)
 | [],[]=>by simp [PyData.eqvAll]
 | [],_::_=>by simp [PyData.eqvAll]
 |_::_,[]=>by simp [PyData.eqvAll]
 |x::a,y::b=>by
  show ((x==y)&&PyData.eqvAll (a.map .int) (b.map .int))=_;rw [Vx a b,B1];simp
theorem Ov (a b:List Int):PyData.eqv (FD a) (FD b)=decide (a=b):=Vx a b
theorem MF {a b:List Nat}(h:Go a=Go b):a=b:=by
 have:=congrArg (List.map Int.toNat) h;unfold Go at this;simpa [T3,X0] using this
theorem Gq (a b:List Nat):PyData.eqv (Rf a) (Rf b)=decide (a=b):=by
 unfold Rf;rw [Ov,B1,U1,U1];exact⟨MF,λe=>by rw [e]⟩
theorem Ja (r:List Int):shaped (FD r)=true:=by
 unfold shaped;rw [Vw,P3 (by have:=Yf r;omega)];rfl
theorem Sx {a b:List Nat}(e:a=b)(q:Q (.bl true) h):eqE (jJ a) (jJ b) h Q:=by
 subst e;exact⟨_,_,Jz h a,Jz h a,Ja _,Ja _,by rw [Gq,P3 rfl];exact q⟩
theorem Ue {α:Type}{f:Nat->α}{L:Nat}(h:i<L):atI ((List.range L).map f) (i:Int)=some (f i):=
 zm (by rw [P1,C5 h];rfl)
theorem Ow {α:Type}(xs:List α):YN xs (some 1) none=xs.drop 1:=by
 unfold YN;cases xs with
 |nil=>simp
 |cons x xs=>simp [HT.sIx]
theorem Ox (S:List Nat):Bk (S.map λ(k:Nat)=>D.int (k:Int)) (YN (S.map λ(k:Nat)=>D.int (k:Int)) (some 1) none)=(S.zip (S.drop 1)).map λp=>D.tup [.int (p.1:Int),.int (p.2:Int)]:=by
 rw [Ow];unfold Bk;rw [<-G1m,List.zip_map,T3];rfl
theorem Pv: ∀ {S:List Nat},S.Pairwise (· < ·)-> ∀p∈S.zip (S.drop 1),p.1<p.2
 | [],_,p,hp=>by simp at hp
 | [a],_,p,hp=>by simp at hp
 |a::b::l,h,p,hp=>by
  have h':=H0.mp h;rcases D3.mp (show p∈(a,b)::(b::l).zip ((b::l).drop 1) from hp) with e|e
  ·subst e;exact h'.1 b P9
  ·exact Pv h'.2 p e
theorem Co {js:List Nat}{ta:TAD}{tt:TTD}{te:TED}{σ:SD}{h1:HD}(n:Nat)(W:Nat->List D->HD->Prop)(hn:n<=1000)(ht: ∀R:List D->HD->Prop,R [.int (n:Int)] h1->ta σ h R)
 (w0:W 0 [] h1)(wl: ∀k ys h',W k ys h'->ys.length<=k)(turn: ∀k ys h',k<n->W k ys h'->tt ((jO js σ).set i (some (.int (k:Int)))) h' λb h3=>if b=true then te ((jO js σ).set i (some (.int (k:Int)))) h3 λy h4=> ∃h5,Sub h5 h4/\(k+1<=n/\W (k+1) (ys++ [y]) h5) else ∃h5,Sub h5 h3/\(k+1<=n/\W (k+1) ys h5))
 (done: ∀ys h',W n ys h'->Q (.tup ys) h'):dCB Vr (wC (yj (bN i) js (iR1 ta) tt te) WE) σ h Q:=by
 show yj (bN i) js (iR1 ta) tt te σ h (λx h1=>Vr [x] h1 Q);exact Ou n W hn ht w0 wl turn λys h' w p hp=>(show ∃zs,zN h' p ys p=some zs/\Q (.tup zs) (VQ (zN h' p ys) p) from ⟨_,jc,by rw [zS hp];exact done ys h' w⟩)
structure Enc {α:Type}[DecidableEq α](e:α->D)(p:α->PyData):Prop where
 to: ∀ (h:HD) a,ToP h (e a) (p a)
 lay: ∀a,(p a).canLay0=true
 dp: ∀a,(p a).depth<=60
 eq: ∀a b,PyData.eqv (p a) (p b)=decide (a=b)
section
variable {α:Type}[DecidableEq α]{e:α->D}{p:α->PyData}
theorem Enc.lays (E:Enc e p): ∀as:List α,PyData.canLayAll0 (as.map p)=true
 | []=>rfl
 |a::as=>by show (PyData.canLay0 (p a)&&_)=true;rw [E.lays as,E.lay a];rfl
end
def RP (n:Nat)(T:List (List Int))(k i j:Nat):Prop:=ent (XF n T k) i j≠0
section
variable {n e:Nat}{T:List (List Int)}
theorem MG (h:Sq n e T)(hn:n<=8)(a b:Nat){i j:Nat}(hi:i<n)(hj:j<n):RP n T (a+b) i j↔ ∃k,k<n/\RP n T a i k/\RP n T b k j:=by
 unfold RP;rw [pow_add h hn a b];exact XH (h.pow hn a) (h.pow hn b) hi hj
theorem MJ (h:Sq n e T)(hn:n<=8){c x:Nat}(hx:x<n)(l:RP n T c x x): ∀q,RP n T (c*(q+1)) x x
 |0=>by rw [E5,Nat.mul_one];exact l
 |q+1=>by
  rw [Nat.mul_succ];exact(MG h hn _ _ hx hx).mpr ⟨x,hx,MJ h hn hx l q,l⟩
theorem Uf {i j:Nat}(hi:i<n)(hj:j<n):RP n T 0 i j↔i=j:=by
 unfold RP;show ent (Mo n) i j≠0↔_;unfold Mo;rw [Ze hi hj]
 by_cases z:i=j
 ·simp [z]
 ·simp [z]
end
structure Grid (n:Nat)(h0 h:HD)(p R:Addr)(rs:List Addr):Prop where
 at_:h R=some (rs.map D.lst)
 len:rs.length=n
 nR:R ∉ rs
 fR:h0 R=none
 np:p ∉ rs
 nRp:R≠p
 row: ∀a∈rs,h0 a=none/\ ∃r,h a=some (r.map D.int)/\Jx n r
theorem Gr {n:Nat}(h:i<n):ixN n (i:Int)=some i:=by
 unfold ixN;simp;omega
theorem call_divmodB {X:Cx}:CallR X (.builtin "divmod") (λxs H Q=> ∃i j,xs= [.int i,.int j]/\(0<j/\j<2^200)/\ ∀p,H p=none->Q (.ref p) (upd H p (.tup [.int (i / j),.int (i%j)]))):=by
 intro pins s σ H xs us Q I r h;obtain⟨i,j,rfl,⟨h1,h2⟩,q⟩:=h;obtain⟨u,w',rfl,⟨t,rfl⟩,⟨t',rfl⟩⟩:=BD r;refine divmod_int (by omega) ?_ (.inl (PyProof.noPylong_of_log2 ?_))
 ·rw [G0a i (by omega),G0b i (by omega)];have hn:H s.heap.objs.size=none:=I.hok.fresh (G9 _);refine⟨.ref s.heap.objs.size,_,?_,rfl,q _ hn⟩;refine I.laid (λb o e=>G1 _ e) (G9 _) ⟨by simp only [D8,M8];rw [sizeLine_eq];decide,[.int (i / j) s.toks,.int (i%j) (s.toks+1)],.cons ⟨_,rfl⟩ (.cons ⟨_,rfl⟩ .nil),?_⟩;exact⟨_,P8 s.heap rfl,rfl,rfl,0,rfl⟩
 ·have h3:j.natAbs<2^200:=Yb (by omega) h2;have h4:=(Nat.log2_lt (by omega:j.natAbs≠0)).mpr h3;omega
def Oy:RDn:=λds h Q=> ∃i j:Int,ds= [.int i,.int j]/\(0<j/\j<2^200)/\Q (.tup [.int (i / j),.int (i%j)]) h
theorem Dr {X:Cx}:Jf X (.builtin "divmod") Oy:=call_divmodB.imp λxs H Q ⟨ds,h,Qd,r,rh,⟨i,j,e,c,q⟩,p⟩=>by
 subst e;obtain⟨v,w,e,r1,r2⟩:=yF r;cases (show v= .int i from r1);cases (show w= .int j from r2);exact⟨i,j,e,c,λa ha=>p (.tup [.int (i / j),.int (i%j)]) _ _ _ (.new ha) (rh.new ha) ⟨a,_,rfl,jz,.cons rfl (.cons rfl .nil)⟩ q⟩
theorem Ds {prog:Program}{w:World}{A:Around}(hh:A.handled=none)(it t:Addr)(items:Array Value)(n:Nat)(hn:items.size<=n):
 Draws prog w A it [it,t] n (λ_ _=>False) (λi h=>i=n/\h.IsListIter it t n/\h.IsList t items) where
 live:=λ_ _ st=>let ⟨o,ho,_⟩:=st.2.1;⟨o,ho⟩
 frame:=λ_ _ _ st hk=>⟨st.1,st.2.1.at λo e=>hk it (by simp) o e,st.2.2.at λo e=>hk t (by simp) o e⟩
 item:=λi s Q E hi st hQ=>absurd st.1 (R1 hi)
 done:=λs Q E st hE=>wpAny_nextOf_list_end hh st.2.1 st.2.2 (W5 hn) hE
def HS (K:PySem.W.Frag)(a:Addr):It:=
 ⟨λi H=> ∃xs x,SqL K H a xs/\xs[i]? =some x,λi H x H'=> ∃p v,H p=none/\(∀xs,SqL K H a xs->xs[i]? =some v)/\x= .ref p/\H'=upd H p (.tup [.int i,v]),λi H=> ∃xs,SqL K H a xs/\xs.length<=i⟩
theorem Dt {P:Program}{w:World}{K:PySem.W.Frag}{es:List Expr}{k:Nat}{pos:Pos}(a it e:Addr)(hei:e≠it)(hae:a≠e)(hai:a≠it):Turn P w K (.Tuple es k pos) (HS K a) [e,it] e (λi h=>(∃old,IsEnum h e it i old)/\h.IsListIter it a i) where
 mem:=by simp
 obj:=λi h st b hb=>by
  rcases D3.mp hb with z|z
  ·subst z;obtain⟨old,q⟩:=st.1;exact⟨_,q,λv z=>by cases z⟩
  ·have z:=G3.mp z;subst z;obtain⟨o,q,c,d⟩:=st.2;exact⟨o,q,λv z=>by rw [d] at z;cases z⟩
 keep:=λi h h' st k=>⟨let ⟨old,q⟩:=st.1;⟨old,k e (by simp) _ q⟩,st.2.at λo q=>k it (by simp) o q⟩
 item:=by
  intro X hP hw hK hc i pins s σ H E I hf st hg;subst hP hw hK;obtain⟨xs,x,hq,hx⟩:=hg;obtain⟨its,rv,p,hz⟩:=I.list hq;obtain⟨u,hu,ru⟩:=rv.get hx;have hi:i<its.toArray.size:=by have:=(G6.mp hu).1;simpa using this
  obtain⟨old,he⟩:=st.1;have helt:e<s.heap.objs.size:=P2 he;refine wpAny_pyNext_enum_itemD (Draws.list (prog:=X.prog) (w:=X.w) (A:=X.A.in1) (I.ok.hd hc) it a hai its.toArray) he ⟨st.2,p.isList⟩ hi hei (by simp [hei,Ne.symm hae]) λx' h' tk hx' ho hs' hT hsz hk=> ?_
  have ex:x'=u:=M7 (hx'.symm.trans (show its.toArray[i]? =some u by simpa using hu));subst ex;refine⟨_,rfl,G0d ho λh2 he2 hs2=> ?_⟩;have hn:H s.heap.objs.size=none:=I.hok.fresh (G9 _);have hT2:h2.get? s.heap.objs.size=some {cls:= .type "tuple",data:= .seq #[.int i tk,x']}:=(hs2.2 _ (E3 helt)).trans hT;refine⟨.ref s.heap.objs.size,upd H s.heap.objs.size (.tup [.int i,x]),?_,rfl,⟨_,x,hn,λys hy=>by rw [I.list_inj hy hq];exact hx,rfl,rfl⟩,⟨⟨x',by simpa using he2⟩,hs'.1.at λo y=>(hs2.2 it (Ne.symm hei)).trans y⟩,λb hb=> ?_⟩
  ·refine I.turnLaid (h':=h2) (t':=tk+1) (ch:= [e,it]) (λb u hb q=> ?_) hf (G9 _) ⟨by show 2<=sizeLine;decide,[.int i tk,x'],.cons ⟨tk,rfl⟩ (.cons ru .nil),⟨_,hT2,rfl,rfl,_,rfl⟩⟩;have b1:b≠e:=λz=>hb (by simp [z])
   have b2:b≠it:=λz=>hb (by simp [z])
   exact(hs2.2 b b1).trans (hk b u b1 b2 q)
  ·have f:=(hf b hb).1;have:b≠s.heap.objs.size:=λz=>by
    rcases D3.mp hb with w|w
    ·rw [<-w,z] at helt;exact absurd helt (S7 _)
    ·have w:=G3.mp w;obtain⟨o,ho',_⟩:=st.2;have:=P2 ho';rw [<-w,z] at this;exact absurd this (S7 _)
   rw [jx this];exact f
 done:=by
  intro X hP hw hK hc i pins s σ H E I hf st hg;subst hP hw hK;obtain⟨xs,hq,hx⟩:=hg;obtain⟨its,rv,p,hz⟩:=I.list hq;obtain⟨old,he⟩:=st.1;have hl:=rv.length;refine wpAny_pyNext_enum_endD (Ds (prog:=X.prog) (w:=X.w) (A:=X.A.in1) (I.ok.hd hc) it a its.toArray i (by simp;omega)) he ⟨rfl,st.2,p.isList⟩ λh' hx'=>⟨rfl,I.turnL (t':=s.toks) (ch:= [it]) (λb o hb q=>hx' b o (λz=>hb (by simp [z])) q) λb hb=>hf b (D2 _ hb)⟩
 self:=λ_ _ _ _ _ st h=>let ⟨_,q⟩:=st.1;X1 q h
section
variable {X:Cx}
def Sy (K:PySem.W.Frag)(ta:TA):TI:=λσ H R=>ta σ H λvs H1=> ∃a,vs= [.ref a]/\(∃xs,SqL K H1 a xs)/\R (HS K a) H1
theorem Cp {es:List Expr}{k:Nat}{tp:Pos}{a:Expr}{ta:TA}{p pos:Pos}(hg:Gl X "enumerate")(hm:X.mg "enumerate" =none)(ha:PA X [a] ta)(hs:starEach [a] X.env= [(false,eval a X.env)]:=by rfl):
 PI X (.Tuple es k tp) (.Call (.Name "enumerate" p) [a] [] pos) (Sy X.K ta):=by
 intro pins s σ H R I h;refine Call_ (Wh I hg hm (show bootBuiltins "enumerate" =some (.type "enumerate") by decide +kernel) (C4 (thn (ha pos pins s σ H _ I h) λus s1 ⟨vs,H1,I1,r1,q1⟩=> ?_) hs rfl));obtain⟨a,e,⟨xs,hq⟩,q⟩:=q1;subst e;cases r1 with
 |cons r rr=>
  cases rr;cases r;obtain⟨its,rv,p,hz⟩:=I1.list hq;have hlt:a<s1.heap.objs.size:=by obtain⟨o,ho,_⟩:=p.isList;exact P2 ho
  refine call_enumerate_list p.isList λh' he hit _ hk=> ?_
  refine X1 he ?_;refine⟨s1.heap.objs.size+1,[s1.heap.objs.size+1,s1.heap.objs.size],_,_,H1,rfl,I1.kept (t':=s1.toks) hk,Dt a s1.heap.objs.size (s1.heap.objs.size+1) (E3 (C7 _)) (R1 (J6 hlt)) (R1 hlt),⟨⟨_,he⟩,hit⟩,λb hb=> ?_,q⟩;have hb':s1.heap.objs.size<=b:=by
   rcases D3.mp hb with w|w
   ·rw [w];exact Nat.le_succ _
   ·rw [G3.mp w];exact G9 _
  exact I1.fpOk hb' (I1.hok.fresh hb')
end
def iEL (ta:TAD):TID:=λσ h R=>ta σ h λxs h1=> ∃a,xs= [.lst a]/\R (λh=>(h a).map YQ) h1
section
variable {K:PySem.W.Frag}
theorem Du (H:Hp)(a:Addr):Fw K H (λh=>(h a).map YQ) (HS K a):=λH' h' k rh ds' e i=>by
 have e:(h' a).map YQ=some ds':=e;cases hd:h' a with
 |none=>rw [hd] at e;cases e
 |some ds=>
  rw [hd] at e;cases e;obtain⟨vs,hv',r'⟩:=rh a ds hd;refine⟨λd hd=> ?_,λhl=>⟨vs,SqL.of hv',by rw [<-r'.length,<-wZ];exact hl⟩⟩;obtain⟨x,hx,ed⟩:=WG hd;subst ed;obtain⟨v,e1,e2⟩:=r'.get hx;refine⟨⟨vs,v,SqL.of hv',e1⟩,λx' H'' ⟨p,v',hp,hx',ex,eH⟩=> ?_⟩;subst ex eH;have ev:v'=v:=by have:=hx' vs (SqL.of hv');rw [e1] at this;exact(M7 this).symm
  subst ev;have k2:Kept H' (upd H' p (.tup [.int i,v'])):= .new hp;exact⟨k2,RelH.new rh hp,p,[.int i,v'],rfl,jz,_,_,rfl,rfl,_,_,rfl,e2.mono k2,rfl⟩
theorem Cq {ta:TAD}: ∀σ H R,LI K (iEL ta) σ H R->Sy K (LA K ta) σ H R:=λσ H R ⟨σd,h,Rd,rs,rh,q,p⟩=>
 LA.bind rs rh q λds vs h1 H1 k1 rs1 rh1 r1 ⟨a,e,q1⟩=>by
  subst e;obtain⟨v,e,r2⟩:=jH r1;obtain⟨e',ws,hv⟩:=(show v= .ref a/\ ∃vs,H1 a=some (.lst vs) from r2);subst e';exact⟨a,e,⟨ws,SqL.of hv⟩,p _ _ _ _ k1 rh1 (Du H1 a) q1⟩
end
section
variable {X:Cx}
theorem Cr {es:List Expr}{k:Nat}{tp:Pos}{a:Expr}{ta:TAD}{p pos:Pos}(hg:Gl X "enumerate")(hm:X.mg "enumerate" =none)(ha:JA X [a] ta)(hs:starEach [a] X.env= [(false,eval a X.env)]:=by rfl):
 JI X (.Tuple es k tp) (.Call (.Name "enumerate" p) [a] [] pos) (iEL ta):=⟨(Cp hg hm ha.to hs).imp Cq⟩
end
def yt (d:D)(a b:Int):Bool:=match d with
 | .int x=>decide (a<=x)&&decide (x<=b)
 |_=>false
theorem Oz {js:List Nat}{ta:TAD}{tt:TTD}{te:TED}{σ:SD}(V:Nat->HD->Prop)(ht: ∀R:List D->HD->Prop,(∀ (n:Nat) h1,V n h1->R [.int (n:Int)] h1)->ta σ h R)
 (go: ∀ (n:Nat) h1,V n h1->yj (bN i) js (iR1 λ_ _ R=>R [.int (n:Int)] h1) tt te σ h Q):yj (bN i) js (iR1 ta) tt te σ h Q:=
 ht _ λn h1 v=>go n h1 v
end L2
set_option maxRecDepth 35000
namespace L2
open PySem PySem.Spec PyProof.Rows PySem.SeqAt
section
variable {α:Type}{i i':Nat}{js:List Nat}{ti:TID}{te:TED}{σ:SD}{h:HD}{Q:KD}{j:ItD}
theorem HU (xs:List α)(c c' g:α->D)(p:α->Bool){tt:TTD}(hz:xs.length<=1000)(hj:j h=some (xs.map λx=> .tup [c x,c' x]))(ht: ∀R:ItD->HD->Prop,R j h->ti σ h R)
 (hp: ∀x∈xs,∀Q':Bool->HD->Prop,Q' (p x) h->tt (((jO js σ).set i (some (c x))).set i' (some (c' x))) h Q')(he: ∀x∈xs,p x=true-> ∀Q':KD,Q' (g x) h->te (((jO js σ).set i (some (c x))).set i' (some (c' x))) h Q')(hq: ∀a,h a=none->Q (.lst a) (zN h a ((xs.filter p).map g))):yj (b2 i i') js ti tt te σ h Q:=by
 refine ht _ ⟨xs.length,λk ys h'=>h'=h/\ys=((xs.take k).filter p).map g,⟨rfl,by simp⟩,?_⟩;rintro k ys h' ⟨rfl,rfl⟩;refine⟨?_,_,hj,by simp,λhl a ha=> ?_,λd hd=> ?_⟩
 ·have:=B6 p (xs.take k);simp only [G2,R3] at this ⊢;exact D5 (jM (by omega))
 ·rw [D7 (by simpa using hl)];exact hq a ha
 ·rw [P1] at hd;cases hx:xs[k]? with
  |none=>rw [hx] at hd;cases hd
  |some x=>
   rw [hx] at hd;cases hd;refine⟨_,⟨_,_,rfl,rfl⟩,?_⟩;refine hp x (G5 hx) _ ?_;cases hb:p x with
   |true=>
    rw [if_pos rfl];refine he x (G5 hx) hb _ ⟨_,Sub.refl _,rfl,?_⟩;rw [N3,hx];simp [hb]
   |false=>
    rw [if_neg (by decide)];refine⟨_,Sub.refl _,rfl,?_⟩;rw [N3,hx];simp [hb]
end
def Dv (T:List (List Int))(n p:Nat):List Nat:=(List.range n).filter λj=>decide (ent T p j>0)
def cnt (T:List (List Int))(n o:Nat):Nat->Nat->Int
 |0,p=>if p=o then 1 else 0
 |t+1,p=>((Dv T n p).map (cnt T n o t)).sum
def MK (T:List (List Int))(n o t:Nat):List Int:=(List.range n).map (cnt T n o t)
section
variable {T:List (List Int)}{n o:Nat}
theorem FG {p j:Nat}(h:j∈Dv T n p):j<n:=R0.mp (N4.mp h).1
theorem OA (p:Nat):(Dv T n p).length<=n:=by
 have:=B6 (λj=>decide (ent T p j>0)) (List.range n)
 rwa [T0] at this
theorem Pw: ∀ {l:List Int},(∀x∈l,0<=x)->0<=l.sum
 | [],_=>by simp
 |x::l,h=>by
  have:=h x P9;have:=Pw λy hy=>h y (D2 _ hy)
  rw [G0z];omega
theorem Px: ∀ (t p:Nat),0<=cnt T n o t p
 |0,p=>by show 0<=(if p=o then (1:Int) else 0);split<;>decide
 |t+1,p=>Pw λx hx=>by obtain⟨j,_,rfl⟩:=R5.mp hx;exact Px t j
theorem ML: ∀ {l:List Nat} {f:Nat->Int},(∀j,0<=f j)->0<(l.map f).sum-> ∃j∈l,0<f j
 | [],_,_,h=>by simp at h
 |x::l,f,nn,h=>by
  by_cases z:0<f x
  ·exact⟨x,P9,z⟩
  ·have:0<(l.map f).sum:=by
    rw [T5,G0z] at h;have:=nn x;omega
   obtain⟨j,hj,hp⟩:=ML nn this;exact⟨j,D2 _ hj,hp⟩
def uf (T:List (List Int))(n o t p:Nat):Nat:=(Dv T n p).findIdx λj=>decide (cnt T n o t j>0)
def nxt (T:List (List Int))(n o t p:Nat):Nat:=(Dv T n p).getD (uf T n o t p) 0
end
def Cnts (h:HD)(A:Addr)(T:List (List Int))(n o k:Nat):Prop:= ∃rs:List Addr,h A=some (rs.map D.lst)/\rs.length=k+1/\ ∀t a,rs[t]? =some a->h a=some ((MK T n o t).map D.int)
theorem Cnts.at {h:HD}{A:Addr}{T:List (List Int)}{n o k:Nat}(c:Cnts h A T n o k){t:Nat}(ht:t<=k): ∃ (rs:List Addr) (a:Addr),h A=some (rs.map D.lst)/\atI (rs.map D.lst) (t:Int)=some (.lst a)/\h a=some ((MK T n o t).map D.int):=by
 obtain⟨rs,hA,hl,hr⟩:=c;have hi:t<rs.length:=by omega
 exact⟨rs,rs[t],hA,zm (by rw [P1,G0 hi];rfl),hr t _ (G0 hi)⟩
theorem MM {T:List (List Int)}{n o t p:Nat}(hp:p<n):atI ((MK T n o t).map D.int) (p:Int)=some (.int (cnt T n o t p)):=
 zm (by unfold MK;rw [List.map_map,List.getElem?_map,List.getElem?_range hp];rfl)
theorem MN {b:D->SD->SD->Prop}{js:List Nat}{ti:TID}{tt:TTD}{te:TED}{σ:SD}{h:HD}{Q:KD}(x:ti σ h λj h1=>dCB BW (wC (yj b js (HM j) tt te) WE) σ h1 Q):dCB BW (wC (yj b js ti tt te) WE) σ h Q:=x
theorem Ug {α:Type}{xs:List α}{x:α}(h1:1<=xs.length)(h:xs[xs.length-1]? =some x):atI xs (-1)=some x:=by
 unfold atI ixN;rw [if_neg (by decide),if_pos (by omega)];show xs[(-1+(xs.length:Int)).toNat]? =_;rw [show (-1+(xs.length:Int)).toNat=xs.length-1 by omega];exact h
section
variable {α:Type}{i i':Nat}{js:List Nat}{ti:TID}{te:TED}{σ:SD}{h:HD}{Q:KD}{j:ItD}
theorem HV (xs:List α)(c c':α->D)(g:α->Int)(p:α->Bool){tt:TTD}(hz:xs.length<=1000)(hj:j h=some (xs.map λx=> .tup [c x,c' x]))(ht: ∀R:ItD->HD->Prop,R j h->ti σ h R)
 (hp: ∀x∈xs,∀Q':Bool->HD->Prop,Q' (p x) h->tt (((jO js σ).set i (some (c x))).set i' (some (c' x))) h Q')(he: ∀x∈xs,p x=true-> ∀Q':KD,Q' (.int (g x)) h->te (((jO js σ).set i (some (c x))).set i' (some (c' x))) h Q')(hq:Q (.int ((xs.filter p).map g).sum) h):dCB BW (wC (yj (b2 i i') js ti tt te) WE) σ h Q:=by
 show yj (b2 i i') js ti tt te σ h (λx h1=>BW [x] h1 Q);exact HU xs c c' (λx=> .int (g x)) p hz hj ht hp he λa ha=>⟨a,(xs.filter p).map g,rfl,by rw [jc,T3];rfl,by rw [zS ha];exact hq⟩
end
end L2
namespace L2
open PySem PySem.Spec PyProof.Rows PySem.W
abbrev TXD:=SD->HD->(Str->HD->Prop)->Prop
abbrev RDx:=List D->HD->(Str->HD->Prop)->Prop
abbrev N1:List Str:= ["_law_call","_law_found","_law_e","_law_word"]
end L2
namespace L2
open PySem PySem.Spec PyProof.Rows PySem.SeqAt
section
variable {n e:Nat}{T:List (List Int)}
instance (k i j:Nat):Decidable (RP n T k i j):=inferInstanceAs (Decidable (ent (XF n T k) i j≠0))
end
end L2
namespace L2
open PySem PySem.Spec PyProof.Rows
def TrV (K:PySem.W.Frag)(H:Hp):V->Bool->Prop
 | .bl b,c=>c=b
 | .int i,c=>c=(i !=0)
 | .non,c=>c=false
 | .ref a,c=> ∃xs,SqL K H a xs/\c= !xs.isEmpty
 |_,_=>False
def TrD (h:HD):D->Bool->Prop
 | .bl b,c=>c=b
 | .int i,c=>c=(i !=0)
 | .non,c=>c=false
 | .lst a,c=> ∃ds,h a=some ds/\c= !ds.isEmpty
 |_,_=>False
theorem TrD.to {K:PySem.W.Frag}{H:Hp}{h:HD}{d:D}{v:V}{c:Bool}(t:TrD h d c)(r:RelD K H d v)(rh:RelH K h H):TrV K H v c:=by
 cases d<;>try exact t.elim
 ·have e:v= .non:=r;subst e;exact t
 ·have e:v= .bl _:=r;subst e;exact t
 ·have e:v= .int _:=r;subst e;exact t
 ·obtain⟨e,_⟩:=r;subst e;obtain⟨ds,hd,e⟩:=t;obtain⟨vs,hv,r'⟩:=rh _ ds hd;refine⟨vs,SqL.of hv,?_⟩;rw [e];have:=r'.length;cases ds<;>cases vs<;>first|rfl|(simp at this)
section
variable {X:Cx}{pins:List (Addr×Obj)}{σ:St}{H:Hp}{s:Shared}{E:Value->Shared->Prop}
theorem Inv.trv {v:V}{u:Value}{c:Bool}{Q:Bool->Shared->Prop}(I:Inv X pins σ H s)(r:RelV v u)(t:TrV X.K H v c)(q: ∀s',Inv X pins σ H s'->Q c s'):wpAny (model X.prog X.w) X.A (truthy u) Q E s:=by
 cases v<;>try exact t.elim
 ·have e:u=Value.none:=r;subst e;have e:c=false:=t;subst e;exact truthy_none (q _ I)
 ·have e:u=Value.bool _:=r;subst e;have e:c=_:=t;subst e;exact B0 (q _ I)
 ·obtain⟨t',e⟩:=r;subst e;have e:c=_:=t;subst e;exact truthy_int (q _ I)
 ·have e:u=Value.ref _:=r;subst e;obtain⟨xs,hx,e⟩:=t;obtain⟨its,rv,p,hz⟩:=I.list hx;have hl:=rv.length;have e2:c= !its.toArray.isEmpty:=by
   rw [e];cases xs<;>cases its<;>first|rfl|(simp at hl)
  refine wpAny_truthy_list p.isList ?_ ?_
  ·have:xs.length<=16777216:=D6 hz (by decide);simp only [P6];have e3:((2:Int)^63)=9223372036854775808:=by decide
   rw [e3];omega
  ·rw [<-e2];exact q _ (I.tok _)
end
section
variable {X:Cx}{a b:Expr}{rest:List Expr}{pos:Pos}
def KL (K:PySem.W.Frag)(t:TE):TT:=λσ H Q=>t σ H λx H1=> ∃c,TrV K H1 x c/\Q c H1
theorem Sz {e:Expr}{t:TE}(h:PE X e t)(he: ∀whole,isTrue e X.env whole=(do let v <-whole;standAt e.pos;holding [v] (truthy v)):=by intro _;rfl):PT X e (KL X.K t):=by
 intro pins s σ H Q I hw;refine isTrue_plain (thn (h pins s σ H _ I hw) λv s1 ⟨x,H1,I1,r1,q1⟩=> ?_) (he _);obtain⟨c,t1,q⟩:=q1;exact I1.trv r1 t1 λs' I'=>⟨H1,I',q⟩
def KM (t:TED):TTD:=λσ h Q=>t σ h λx h1=> ∃c,TrD h1 x c/\Q c h1
variable {K:PySem.W.Frag}
theorem SA {t:TED}: ∀σ H Q,LT K (KM t) σ H Q->KL K (LE K t) σ H Q:=λσ H Q ⟨σd,h,Qd,rs,rh,t,p⟩=>
 LE.bind rs rh t λd v h1 H1 k1 rs1 rh1 r1 ⟨k,e,q⟩=>⟨k,e.to r1 rh1,p k h1 H1 k1 rh1 q⟩
theorem HW {ta:TED}(ha:JE X a ta)(he: ∀whole,isTrue a X.env whole=(do let v <-whole;standAt a.pos;holding [v] (truthy v)):=by intro _;rfl):JT X a (KM ta):=⟨(Sz ha.to he).imp SA⟩
end
end L2
namespace L2
open PySem PySem.Spec PyProof.Rows PySem.SeqAt
section
variable {n e:Nat}{T:List (List Int)}
theorem Uh (h:Sq n e T)(hn:n<=8){c x:Nat}(hx:x<n)(l:RP n T c x x): ∀q,RP n T (c*q) x x
 |0=>by rw [Nat.mul_zero];exact(Uf hx hx).mpr rfl
 |q+1=>MJ h hn hx l q
theorem ZM (h:Sq n e T)(hn:n<=8){a b i j k:Nat}(hi:i<n)(hk:k<n)(hj:j<n)(x:RP n T a i k)(y:RP n T b k j):RP n T (a+b) i j:=(MG h hn a b hi hj).mpr ⟨k,hk,x,y⟩
theorem OB (h:Sq n e T)(hn:n<=8){k:Nat}:YO (XF n T k)=true↔ ∀i j,i<n->j<n->RP n T k i j:=Cc (h.pow hn k)
theorem ZN (h:Sq n e T)(hn:n<=8){c:Nat->Nat}(cl: ∀t,c t<n)(st: ∀t,RP n T 1 (c t) (c (t+1)))(t:Nat): ∀s,RP n T s (c t) (c (t+s))
 |0=>(Uf (cl t) (cl t)).mpr rfl
 |s+1=>ZM h hn (cl _) (cl (t+s)) (cl _) (ZN h hn cl st t s) (st (t+s))
theorem MO (h:Sq n e T)(hn:n<=8)(n1:1<=n){c:Nat->Nat}(cl: ∀t,c t<n)(st: ∀t,RP n T 1 (c t) (c (t+1)))(per: ∀t,c (t+n)=c t)(all: ∀i,i<n-> ∃t,t<n/\c t=i)
 (ch:RP n T 1 (c (n-1)) (c (n-1))\/RP n T 1 (c (n-1)) (c 1)): ∃K,1<=K/\YO (XF n T K)=true:=by
 -- rounds at the last place,of each length from (n-1)*(n-2) on
 have base: ∀m,(n-1)*(n-2)<=m->RP n T m (c (n-1)) (c (n-1)):=by
  intro m hm;have r1:RP n T n (c (n-1)) (c (n-1)):=by
   have:=ZN h hn cl st (n-1) n
   rwa [per] at this
  rcases ch with z|z
  ·have:=Uh h hn (cl _) z m
   rwa [G1t] at this
  ·by_cases n2:n=1
   ·have e0:c 1=c (n-1):=by rw [n2];have:=per 0;rw [n2] at this;simpa using this
    rw [e0] at z;have:=Uh h hn (cl _) z m
    rwa [G1t] at this
   have r2:RP n T (n-1) (c (n-1)) (c (n-1)):=by
    have:=ZM h hn (cl _) (cl 1) (cl _) z (ZN h hn cl st 1 (n-2))
    rwa [show 1+(n-2)=n-1 by omega] at this
   have q0:=G0U m (n-1);have ql:m%(n-1)<n-1:=E2 _ (by omega);have qn:n-2<=m / (n-1):=(Q3 (by omega)).mpr (by rw [G1o];exact hm);have e:m=n*(m%(n-1))+(n-1)*(m / (n-1)-m%(n-1)):=by
    have a1:(n-1)*(m / (n-1)-m%(n-1))+(n-1)*(m%(n-1))=(n-1)*(m / (n-1)):=by rw [<-Nat.mul_add,Q1 (by omega)]
    have a2:n*(m%(n-1))=(n-1)*(m%(n-1))+m%(n-1):=by
     conv=>lhs;rw [show n=(n-1)+1 by omega,Nat.add_mul,G1t]
     rfl
    omega
   rw [e];exact ZM h hn (cl _) (cl _) (cl _) (Uh h hn (cl _) r1 _) (Uh h hn (cl _) r2 _)
 refine⟨2*n+(n-1)*(n-2),by omega,(OB h hn).mpr λi j hi hj=> ?_⟩;obtain⟨a,ha,ea⟩:=all i hi;obtain⟨b,hb,eb⟩:=all j hj;subst ea eb;have g1:=ZN h hn cl st a (n-1-a);rw [show a+(n-1-a)=n-1 by omega] at g1;have g2:=ZN h hn cl st (n-1) (b+1);rw [show n-1+(b+1)=b+n by omega,per] at g2;have g3:=base (2*n+(n-1)*(n-2)-(n-1-a)-(b+1)) (by omega);have:=ZM h hn (cl _) (cl _) (cl _) (ZM h hn (cl _) (cl _) (cl _) g1 g3) g2
 rwa [show n-1-a+(2*n+(n-1)*(n-2)-(n-1-a)-(b+1))+(b+1)=2*n+(n-1)*(n-2) by omega] at this
theorem Vy (h:Sq n e T)(hn:n<=8){i j:Nat}:RP n T 1 i j↔ent T i j≠0:=by unfold RP;rw [Om h hn]
theorem Dw (h:Sq n e T)(hn:n<=8)(n1:1<=n){o:List Nat}(ho:Ordr n o)(st: ∀t,t<n->ent T (o.getD t 0) (o.getD ((t+1)%n) 0)≠0)
 (ch:ent T (o.getD (n-1) 0) (o.getD (n-1) 0)≠0\/ent T (o.getD (n-1) 0) (o.getD (1%n) 0)≠0): ∃K,1<=K/\YO (XF n T K)=true:=by
 have gl: ∀t,o.getD (t%n) 0<n:=λt=>by
  have ht:t%n<o.length:=by rw [ho.ord.len];exact E2 _ n1
  rw [P5,G0 ht];exact R0.mp (ho.mem_iff.mp (M1 ht))
 refine MO h hn n1 (c:=λt=>o.getD (t%n) 0) gl (λt=>(Vy h hn).mpr ?_) (λt=>by show o.getD ((t+n)%n) 0=_;rw [Nat.add_mod_right]) (λi hi=> ?_) ?_
 ·have:=st (t%n) (E2 _ n1)
  rwa [show (t%n+1)%n=(t+1)%n by rw [G1u,Nat.mod_mod,<-G1u]] at this
 ·have hm:=ho.mem_iff.mpr (R0.mpr hi);have hl:=List.idxOf_lt_length_iff.mpr hm;have hl':o.idxOf i<n:=by rw [<-ho.ord.len];exact hl
  refine⟨o.idxOf i,hl',?_⟩;show o.getD (o.idxOf i%n) 0=i;rw [K6 hl',P5,G0 hl,List.getElem_idxOf hl];rfl
 ·rcases ch with z|z
  ·refine .inl ((Vy h hn).mpr ?_);show ent T (o.getD ((n-1)%n) 0) (o.getD ((n-1)%n) 0)≠0;rw [K6 (by omega)];exact z
  ·refine .inr ((Vy h hn).mpr ?_);show ent T (o.getD ((n-1)%n) 0) (o.getD (1%n) 0)≠0;rw [K6 (show n-1<n by omega)];exact z
end
structure GQ (n:Nat)(h0 h:HD)(p R:Addr)(rs:List Addr)(f:Nat->Nat->Int):Prop where
 at_:h R=some (rs.map D.lst)
 len:rs.length=n
 nR:R ∉ rs
 nd:rs.Nodup
 fR:h0 R=none
 np:p ∉ rs
 Rp:R≠p
 row: ∀i a,rs[i]? =some a->h0 a=none/\h a=some ((List.range n).map λj=>D.int (f i j))
 nn: ∀i j,0<=f i j/\f i j<=1000000
def HX:D->Int
 | .int x=>x
 |_=>0
section
variable {n:Nat}{h0 h:HD}{p R:Addr}{rs:List Addr}{f:Nat->Nat->Int}
theorem GQ.of_grid (g:Grid n h0 h p R rs)(nd:rs.Nodup): ∃f,GQ n h0 h p R rs f:=by
 have one: ∀i a,rs[i]? =some a-> ∃r,h a=some (r.map D.int)/\Jx n r:=λi a ha=>(g.row a (G5 ha)).2
 have val: ∀i a (r:List Int),rs[i]? =some a->h a=some (r.map D.int)-> ∀j,HX (((h (rs.getD i 0)).getD []).getD j (.int 0))=r.getD j 0:=λi a r ha hr j=>by
  rw [show rs.getD i 0=a by rw [P5,ha];rfl,hr];show HX ((r.map D.int).getD j (.int 0))=_;rw [P5,P5,P1];cases r[j]? <;>rfl
 refine⟨λi j=>if i<rs.length then HX (((h (rs.getD i 0)).getD []).getD j (.int 0)) else 0,g.at_,g.len,g.nR,nd,g.fR,g.np,g.nRp,λi a ha=>⟨(g.row a (G5 ha)).1,?_⟩,λi j=> ?_⟩
 ·obtain⟨r,hr,gr⟩:=one i a ha;have hi:=(G6.mp ha).1;rw [hr]
  congr 1
  conv=>lhs;rw [yO r 0,gr.1,T3]
  refine T8 λj _=> ?_
  show D.int (r.getD j 0)=D.int (if i<rs.length then _ else 0);rw [if_pos hi,val i a r ha hr j]
 ·by_cases hi:i<rs.length
  ·show 0<=(if i<rs.length then _ else (0:Int))/\_;rw [if_pos hi];have ha:=G0 hi;obtain⟨r,hr,gr⟩:=one i _ ha;rw [val i _ r ha hr j];rw [P5];cases hj:r[j]? with
   |none=>exact⟨G1r _,by decide⟩
   |some x=>exact gr.2 x (G5 hj)
  ·show 0<=(if i<rs.length then _ else (0:Int))/\(if i<rs.length then _ else (0:Int))<=_;rw [if_neg hi];exact⟨G1r _,by decide⟩
theorem GQ.pen (g:GQ n h0 h p R rs f)(ds:List D):GQ n h0 (zN h p ds) p R rs f:=
 ⟨jj g.Rp g.at_,g.len,g.nR,g.nd,g.fR,g.np,g.Rp,λi a ha=>⟨(g.row i a ha).1,jj (λz=>g.np (z ▸ G5 ha)) (g.row i a ha).2⟩,g.nn⟩
theorem GQ.new (g:GQ n h0 h p R rs f){q:Addr}(fq:h q=none)(ds:List D):GQ n h0 (zN h q ds) p R rs f:=
 ⟨jk g.at_ fq,g.len,g.nR,g.nd,g.fR,g.np,g.Rp,λi a ha=>⟨(g.row i a ha).1,jk (g.row i a ha).2 fq⟩,g.nn⟩
theorem GQ.put (g:GQ n h0 h p R rs f){i j:Nat}{a:Addr}{v:Int}(ha:rs[i]? =some a)(v0:0<=v)(v1:v<=1000000):GQ n h0 (zN h a (((List.range n).map λj=>D.int (f i j)).set j (.int v))) p R rs (λx y=>if x=i/\y=j then v else f x y):=by
 have hm:=G5 ha;refine⟨jj (λz=>g.nR (z ▸ hm)) g.at_,g.len,g.nR,g.nd,g.fR,g.np,g.Rp,λx b hb=>⟨(g.row x b hb).1,?_⟩,λx y=> ?_⟩
 ·by_cases z:b=a
  ·subst z;have hx:i=x:=(List.getElem?_inj (G6.mp ha).1 g.nd).mp (ha.trans hb.symm);subst hx;rw [jc];congr 1;apply X7
   ·simp
   ·intro m h1 h2;rw [List.getElem_set];simp only [G0I,G0i]
    by_cases e:j=m
    ·subst e;simp
    ·rw [if_neg e,if_neg (λz=>e z.2.symm)]
  ·rw [jj z (g.row x b hb).2];congr 1;refine T8 λy _=> ?_
   have: ¬(x=i/\y=j):=λw=>z (by obtain⟨w1,_⟩:=w;subst w1;rw [ha] at hb;injection hb with hb;exact hb.symm)
   rw [if_neg this]
 ·show 0<=(if x=i/\y=j then v else f x y)/\(if x=i/\y=j then v else f x y)<=1000000;split
  ·exact⟨v0,v1⟩
  ·exact g.nn x y
theorem GQ.pick (g:GQ n h0 h p R rs f){i:Nat}(hi:i<n): ∃a,rs[i]? =some a/\atI (rs.map D.lst) (i:Int)=some (.lst a)/\h a=some ((List.range n).map λj=>D.int (f i j))/\h0 a=none/\a≠p:=by
 have hi':i<rs.length:=by rw [g.len];exact hi
 have ha:=G0 hi';exact⟨rs[i],ha,zm (by rw [P1,ha];rfl),(g.row i _ ha).2,(g.row i _ ha).1,λz=>g.np (z ▸ M1 hi')⟩
theorem GQ.tab (g:GQ n h0 h p R rs f):(rs.map λa=>D.tup ((h a).getD []))=(List.range n).map λi=>D.tup ((List.range n).map λj=>D.int (f i j)):=by
 apply X7
 ·simp [g.len]
 ·intro m h1 h2;simp only [G0I,G0i];have hm:m<rs.length:=by simpa using h1
  rw [(g.row m rs[m] (G0 hm)).2];rfl
end
theorem GoodTab.of_mk {n:Nat}{f:Nat->Nat->Int}(nn: ∀i j,0<=f i j/\f i j<=1000000):GoodTab n (mkT n f):=by
 refine⟨by unfold mkT;rw [List.length_map,List.length_range],λr hr=> ?_⟩;obtain⟨i,_,rfl⟩:=R5.mp hr;refine⟨by rw [G2,T0],λx hx=> ?_⟩;obtain⟨j,_,rfl⟩:=R5.mp hx;exact nn i j
theorem Zf {n:Nat}{o:List Nat}(ho:Ordr n o){i:Nat}(hi:i<n):o.getD i 0<n/\atI (o.map λ(k:Nat)=>D.int (k:Int)) (i:Int)=some (.int ((o.getD i 0:Nat):Int)):=by
 have hi':i<o.length:=by rw [ho.ord.len];exact hi
 rw [P5,G0 hi'];exact⟨R0.mp (ho.mem_iff.mp (M1 hi')),zm (by rw [P1,G0 hi'];rfl)⟩
theorem MP {n:Nat}{o:List Nat}(ho:Ordr n o)(n1:1<=n):o.getD (n-1) 0<n/\atI (o.map λ(k:Nat)=>D.int (k:Int)) (-1)=some (.int ((o.getD (n-1) 0:Nat):Int)):=by
 have hl:o.length=n:=ho.ord.len;have hi':n-1<o.length:=by omega
 refine⟨(Zf ho (by omega)).1,Ug (by rw [G2];omega) ?_⟩;rw [G2,hl,P1,G0 hi',P5,G0 hi'];rfl
end L2
namespace HT
open PySem PySem.Spec PyProof.Rows
variable {j:Nat}
theorem Ui {xs:Array Nat}(r:xs.toList.Pairwise (· < ·)): ∀ (fuel lo hi:Nat),hi-lo<=fuel->hi<=xs.size->lo<=hi->(∀i,i<lo-> ∀v,xs[i]? =some v->v<j)->(∀i,hi<=i-> ∀v,xs[i]? =some v->j<=v)->
 (∀i,i<SetTable.below.go xs j fuel lo hi-> ∀v,xs[i]? =some v->v<j)/\(∀i,SetTable.below.go xs j fuel lo hi<=i-> ∀v,xs[i]? =some v->j<=v)/\SetTable.below.go xs j fuel lo hi<=xs.size
 |0,lo,hi,f,hs,lh,a,b=>by
  have:lo=hi:=by omega
  subst this;exact⟨a,b,hs⟩
 |fuel+1,lo,hi,f,hs,lh,a,b=>by
  unfold SetTable.below.go
  by_cases c:lo<hi
  ·rw [if_pos c];have hm:(lo+hi) / 2<xs.size:=by omega
   have mono: ∀ (i k u v:Nat),i<=k->xs[i]? =some u->xs[k]? =some v->u<=v:=λi k u v ik e1 e2=>by
    rcases Q4 i k with z|z
    ·have i1:=(L6.mp e1);have i2:=(L6.mp e2);obtain⟨h1,e1'⟩:=i1;obtain⟨h2,e2'⟩:=i2;have:=F6.mp r i k (by simpa using h1) (by simpa using h2) z;simp only [Y0] at this;omega
    ·have:i=k:=by omega
     subst this;rw [e1] at e2;cases e2;exact G9 _
   have em:xs.getD ((lo+hi) / 2) j=xs[(lo+hi) / 2]:=by simp [Array.getD,hm]
   dsimp only
   by_cases d:xs.getD ((lo+hi) / 2) j<j
   ·rw [if_pos d];refine Ui r fuel _ hi (by omega) hs (by omega) (λi hi' v hv=> ?_) b;have:=mono i ((lo+hi) / 2) v xs[(lo+hi) / 2] (by omega) hv (by simp [hm]);omega
   ·rw [if_neg d];refine Ui r fuel lo _ (by omega) (by omega) (by omega) a (λi hi' v hv=> ?_);have:=mono ((lo+hi) / 2) i xs[(lo+hi) / 2] v hi' (by simp [hm]) hv;omega
  ·rw [if_neg c];have:lo=hi:=by omega
   subst this;exact⟨a,b,hs⟩
theorem Uj {xs:Array Nat}(r:xs.toList.Pairwise (· < ·))(j:Nat):(∀i,i<SetTable.below xs j-> ∀v,xs[i]? =some v->v<j)/\(∀i,SetTable.below xs j<=i-> ∀v,xs[i]? =some v->j<=v)/\SetTable.below xs j<=xs.size:=
 Ui r xs.size 0 xs.size (by omega) (G9 _) (T4 _) (λi h=>absurd h (G0V _)) (λi h v e=>by rw [W5 h] at e;cases e)
theorem Gs {xs:Array Nat}(r:xs.toList.Pairwise (· < ·))(no:xs[SetTable.below xs j]? ≠some j):(SetTable.insertAt xs (SetTable.below xs j) j).toList.Pairwise (· < ·):=by
 obtain⟨a,b,hs⟩:=Uj r j;rw [SetTable.toList_insertAt,R6,H0];have low: ∀v∈xs.toList.take (SetTable.below xs j),v<j:=λv hv=>by
  obtain⟨i,hi⟩:=J0 hv;rw [List.getElem?_take] at hi;split at hi
  ·rename_i c;exact a i c v (by simpa using hi)
  ·cases hi
 have high: ∀v∈xs.toList.drop (SetTable.below xs j),j<v:=λv hv=>by
  obtain⟨i,hi⟩:=J0 hv;rw [E6] at hi;have hi':xs[SetTable.below xs j+i]? =some v:=by simpa using hi
  have le:=b _ (K7 _ _) v hi';rcases Q4 j v with z|z
  ·exact z
  ·have ev:v=j:=by omega
   subst ev;cases i with
   |zero=>exact(no hi').elim
   |succ i=>
    obtain⟨h1,e1⟩:=L6.mp hi';have h0:SetTable.below xs v<xs.size:=by omega
    have le0:=b _ (G9 _) xs[SetTable.below xs v] (by simp [h0]);have lt:=F6.mp r (SetTable.below xs v) (SetTable.below xs v+(i+1)) (by simpa using h0) (by simpa using h1) (by omega);simp only [Y0] at lt;omega
 exact⟨r.sublist (A3 _ _),⟨high,r.sublist (C9 _ _)⟩,λu hu v hv=>by
  rcases D3.mp hv with e|e
  ·rw [e];exact low u hu
  ·exact V1 (low u hu) (high v e)⟩
structure Tab (L:Bool)(n:Nat)(t:SetTable):Prop where
 fits:t.fits n=true
 led:t.led=L
 dum:t.dummies= #[]
 rise:t.plain=true\/n<=1->t.place.toList.Pairwise (· < ·)
theorem Cs {xs:List Nat}(h:xs.length<=1):xs.Pairwise (· < ·):=by
 match xs,h with
 | [],_=>exact .nil
 | [x],_=>exact M6 _ _
variable {t:SetTable}
theorem Vz {n:Nat}(h:t.fits n=true):t.place.size=n:=by
 simp only [SetTable.fits,R8,G02] at h;exact h.1
variable {L:Bool}
theorem Tab.mk' {n:Nat}(f:t.fits n=true)(l:t.led=L)(d:t.dummies= #[])(r:t.plain=true->t.place.toList.Pairwise (· < ·)):Tab L n t:=
 ⟨f,l,d,λh=>h.elim r λz=>Cs (by have:=Vz f;simpa [this] using z)⟩
theorem Dx (h:t.slot j= .empty):t.place[SetTable.below t.place j]? ≠some j:=λe=>by
 unfold SetTable.slot at h;dsimp only at h;rw [if_pos (by rw [e];exact beq_self_eq_true _)] at h;cases h
theorem Dy (d:t.dummies= #[]):t.slot j≠ .dummy:=λh=>by
 unfold SetTable.slot at h;dsimp only at h;split at h
 ·cases h
 ·rw [d] at h;have:SetTable.has #[] j=false:=by unfold SetTable.has;simp
  rw [this] at h;cases h
theorem Yg {f:Nat->Int}{h:Int}(d:t.dummies= #[]): ∀ (fuel:Nat) (p:SetTable.Probe) {j:Nat} {dm:Option Nat},p.dummy=none->SetTable.probe.go t f h fuel p=some (.empty j dm)->t.slot j= .empty/\dm=none
 |0,p,j,dm,_,e=>by cases e
 |fuel+1,p,j,dm,hp,e=>by
  unfold SetTable.probe.go at e;have adv:(t.advance p).dummy=none:=by
   unfold SetTable.advance;split
   ·exact hp
   ·exact hp
  split at e
  ·rename_i hs;injection e with e;injection e with e1 e2;subst e1;exact⟨hs,by rw [<-e2];exact hp⟩
  ·rename_i hs;exact(Dy d hs).elim
  ·split at e
   ·cases e
   ·exact Yg d fuel _ adv e
variable {es:Array (Int×Value)}
theorem Dz (T:Tab L es.size t)(h:Int)(x:Value):Tab L (layNew t es h x).1.size (layNew t es h x).2.1:=by
 have fit:=layNew_fits t es h x;revert fit;unfold layNew;cases e:t.freeSlot h with
 |none=>intro fit;exact .mk' fit T.led rfl λz=>by cases z
 |some q=>
  obtain⟨slot,wd⟩:=q;intro fit;have ne:t.place[SetTable.below t.place slot]? ≠some slot:=by
   unfold SetTable.freeSlot at e;split at e
   ·rename_i j dm hp;obtain⟨he,hd⟩:=Yg T.dum _ _ rfl hp;injection e with e;injection e with e1 e2
    subst hd;rw [<-e1];exact Dx he
   ·cases e
  refine .mk' fit ?_ ?_ ?_
  ·show (SetTable.orStandIn _ _).led=L;unfold SetTable.orStandIn;split
   ·exact T.led
   ·exact T.led
  ·show (SetTable.orStandIn _ _).dummies= #[];unfold SetTable.orStandIn;split
   ·show (if SetTable.has t.dummies slot then _ else t.dummies)= #[];rw [T.dum];have:SetTable.has #[] slot=false:=by unfold SetTable.has;simp
    rw [this];rfl
   ·rfl
  ·show (SetTable.orStandIn _ _).plain=true->(SetTable.orStandIn _ _).place.toList.Pairwise (· < ·);unfold SetTable.orStandIn;split
   ·intro z;exact Gs (T.rise (.inl z)) ne
   ·intro z;cases z
theorem Uk (f:Nat->Option Nat): ∀l:List Nat,((l.filterMap λj=>(f j).map (j,·)).map (·.1)).Sublist l
 | []=> .slnil
 |j::l=>by
  rw [G1g];cases e:(f j).map (j,·) with
  |none=>exact(Uk f l).cons _
  |some q=>
   obtain⟨v,_,rfl⟩:=C1.mp e;exact(Uk f l).cons₂ _
theorem XQ (T:Tab L es.size t)(wanted:Nat):Tab L (relayAll t es wanted).1.size (relayAll t es wanted).2.1:=by
 have fit:=relayAll_fits t es wanted;revert fit;unfold relayAll;cases e:t.relaid (es.map (·.1)) wanted with
 |none=>intro fit;exact .mk' fit T.led rfl λz=>by cases z
 |some q=>
  obtain⟨t',order⟩:=q;dsimp only;split
  ·intro fit;unfold SetTable.relaid SetTable.laid at e;cases ho:SetTable.layClean (SetTable.sizeAbove wanted-1) (es.map (·.1)) with
   |none=>rw [ho] at e;cases e
   |some owner=>
    rw [ho] at e;injection e with e;injection e with e1 e2
    subst e1;refine .mk' fit T.led rfl λ_=> ?_
    show List.Pairwise (· < ·) (List.map _ _).toArray.toList;rw [List.toList_toArray];exact List.pairwise_lt_range.sublist (Uk (λj=>owner.getD j none) _)
  ·intro fit;exact .mk' fit T.led rfl λz=>by cases z
abbrev Jh (es:Array (Int×Value))(ep:Nat)(t:SetTable):Obj:= {cls:= .type "set",dict:=none,data:= .set es ep t,slots:= #[]}
def Ct (e:Int×Value):Int:=match e.2 with
 | .int n _=>n
 |_=>0
structure SetI (L:Bool)(es:Array (Int×Value))(t:SetTable)(ns:List Int):Prop where
 tab:Tab L es.size t
 nums: ∀e∈es.toList,∃n tk,e=(hashInt n,.int n tk)
 nd:(es.toList.map Ct).Nodup
 mem: ∀n,n∈es.toList.map Ct↔n∈ns
theorem Jb: ∀ {xs ys:List Int},xs.Nodup->(∀x∈xs,x∈ys)->xs.length<=ys.length
 | [],_,_,_=>T4 _
 |x::xs,ys,nd,h=>by
  have hx:=h x (.head _);obtain⟨n1,n2⟩:=V5.mp nd;have:=Jb (ys:=ys.erase x) n2 λy hy=>(List.mem_erase_of_ne (λ(e:y=x)=>n1 (by rw [<-e];exact hy))).mpr (h y (.tail _ hy))
  rw [List.length_erase_of_mem hx] at this;have:=G0N hx;rw [D8];omega
variable {ns:List Int}
theorem SetI.size (S:SetI L es t ns):es.size<=ns.length:=by
 have h:=Jb S.nd λn hn=>(S.mem n).mp hn
 simpa using h
theorem SetI.els (S:SetI L es t ns)(prog:Program)(w:World):ElemsOf (intKind prog w) es.toList:=λe he=>by
 obtain⟨n,tk,rfl⟩:=S.nums e he;exact⟨⟨n,by simp [intKind,Value.isInt],rfl⟩,rfl⟩
theorem SetI.perm {es':Array (Int×Value)}{t':SetTable}(S:SetI L es t ns)(p:es'.toList.Perm es.toList)(T:Tab L es'.size t'):SetI L es' t' ns:=
 ⟨T,λe he=>S.nums e (p.mem_iff.mp he),(p.map Ct).nodup_iff.mpr S.nd,λn=>((p.map Ct).mem_iff).trans (S.mem n)⟩
theorem SetI.push {es':Array (Int×Value)}{t':SetTable}{n:Int}{tk:Tok}(S:SetI L es t ns)(hn:n ∉ ns)(p:es'.toList.Perm (es.push (hashInt n,.int n tk)).toList)(T:Tab L es'.size t'):SetI L es' t' (n::ns):=by
 have pk:=p.map Ct;rw [F9,R9] at pk;refine⟨T,λe he=> ?_,pk.nodup_iff.mpr ?_,λm=>(pk.mem_iff).trans ?_⟩
 ·have:=p.mem_iff.mp he;rw [F9] at this;rcases D0.mp this with z|z
  ·exact S.nums e z
  ·exact⟨n,tk,G3.mp z⟩
 ·rw [X2];refine⟨S.nd,by simp,λx hx y hy e=> ?_⟩;have:y=n:=by simpa [Ct] using hy
  subst this;subst e;exact hn ((S.mem _).mp hx)
 ·rw [D0,S.mem m];simp [Ct,or_comm]
section
variable {prog:Program}{w:World}{A:Around}{E:Value->Shared->Prop}{s:Shared}{a:Addr}{L:Bool}{es:Array (Int×Value)}{ep:Nat}{t:SetTable}{ns:List Int}{n:Int}{tk:Tok}
theorem MQ {Q:Bool->Shared->Prop}(S:SetI L es t ns)(ho:s.heap.get? a=some (Jh es ep t))(few:ns.length<1000)
 (k: ∀b es' ep' t' h',SetI L es' t' (n::ns)->h'.get? a=some (Jh es' ep' t')->Heap.SameBut a s.heap h'->Q b {s with heap:=h',toks:=s.toks+1}):wpAny (model prog w) A (setAdd a (.int n tk)) Q E s:=by
 have sz:=S.size;have is:(intKind prog w).is n (.int n tk)=true:=by simp [intKind,Value.isInt]
 have scan:byScan (.int n tk) es=true:=byScan_of (knd:=intKind prog w) rfl (N5 sz (V1 few (by decide))) (S.els prog w);refine B7 (wpAny_bind (wpAny_pyHash_int (B7 ?_)));show wpAny _ _ (setAddHashedIn a (.int n tk) (hashInt n) (99999+1)) _ _ _;unfold setAddHashedIn;refine wpAny_bind (A5 (s:= {s with toks:=s.toks+1}) ho rfl S.tab.fits ?_);dsimp only;rw [if_pos scan];refine wpAny_bind ?_;unfold setAddByScan;refine wpAny_bind (W7 (wpAny_bind (wpAny_setScan_of (s:= {s with toks:=s.toks+1}) (knd:=intKind prog w) is ho rfl S.tab.fits (S.els prog w) ?_)));have none_iff:es.toList.findIdx? (λe=>(intKind prog w).is n e.2)=none↔n ∉ ns:=by
  rw [List.findIdx?_eq_none_iff,<-S.mem n];constructor
  ·intro z hn;obtain⟨e,he,ek⟩:=R5.mp hn;obtain⟨m,tk',rfl⟩:=S.nums e he;have:m=n:=ek;subst this;have:=z _ he;simp [intKind,Value.isInt] at this
  ·intro z e he;obtain⟨m,tk',rfl⟩:=S.nums e he;have:m≠n:=λq=>z (R5.mpr ⟨_,he,q⟩)
   simp [intKind,Value.isInt,this]
 cases hf:es.toList.findIdx? (λe=>(intKind prog w).is n e.2) with
 |some j=>
  have hin:n∈ns:=E8 λz=>by rw [none_iff.mpr z] at hf;cases hf
  refine P0 (P0 (k false es ep t s.heap ⟨S.tab,S.nums,S.nd,λm=>(S.mem m).trans ?_⟩ ho (Q9 _ _)));constructor
  ·exact λz=> .tail _ z
  ·intro z;rcases D3.mp z with e|e
   ·rw [e];exact hin
   ·exact e
 |none=>
  have hn:=none_iff.mp hf;have p1:=layNew_perm t es (hashInt n) (.int n tk);have T1:=Dz S.tab (hashInt n) (.int n tk);cases hl:layNew t es (hashInt n) (.int n tk) with
  |mk es1 r1=>
   obtain⟨t1,wd,gave⟩:=r1;rw [hl] at p1 T1;have S1:=S.push hn p1 T1;have z1:es1.size<=sizeLine:=D6 S1.size (D6 (show (n::ns).length<=1000 by simp;omega) (by decide));have hb:hashByValue 8 (.int n tk)=pure true:=rfl;have put:=λ{P:Unit->Shared->Prop} {E':Value->Shared->Prop} (k': ∀h',h'.get? a=some (Jh es1 (ep+1) t1)->Heap.SameBut a s.heap h'->P () {s with heap:=h',toks:=s.toks+1})=>
    wpAny_storeSet_of (prog:=prog) (w:=w) (A:=A) (E:=E') (s:= {s with toks:=s.toks+1}) (es':=es1) (t':=t1) ho rfl (k' _ (S9 _ ho rfl) (T9 ..)) z1
   have p2:=relayAll_perm t1 es1 (SetTable.grown es1.size);have T2:=XQ (es:=es1) S1.tab (SetTable.grown es1.size);cases hr:relayAll t1 es1 (SetTable.grown es1.size) with
   |mk es2 r2=>
    obtain⟨t2,gave2⟩:=r2;rw [hr] at p2 T2;have S2:=S1.perm p2 T2;have z2:es2.size<=sizeLine:=D6 S2.size (D6 (show (n::ns).length<=1000 by simp;omega) (by decide));have e1:(s.heap.update a (Obj.putSet es1 t1)).get? a=some (Jh es1 (ep+1) t1):=S9 _ ho rfl;have same1:Heap.SameBut a s.heap (s.heap.update a (Obj.putSet es1 t1)):=T9 ..;have ho':({s with toks:=s.toks+1}:Shared).heap.get? a=some (Jh es ep t):=ho;have big:(es1.size>sizeLine)=False:=eq_false (J7.mpr z1);have big2:(es2.size>sizeLine)=False:=eq_false (J7.mpr z2);cases gave<;>cases hp:t1.plain<;>wp_walk
    all_goals
     simp only [↓reduceIte,hr];cases hc:(!wd&&t1.tooFull) with
     |false=>exact P0 (P0 (k true es1 (ep+1) t1 _ S1 e1 same1))
     |true=>
      have e2:((s.heap.update a (Obj.putSet es1 t1)).update a (Obj.putSet es2 t2)).get? a=some (Jh es2 (ep+1+1) t2):=S9 _ e1 rfl;have same2:Heap.SameBut a s.heap ((s.heap.update a (Obj.putSet es1 t1)).update a (Obj.putSet es2 t2)):=same1.trans (T9 ..);have fin:=k true es2 (ep+1+1) t2 _ S2 e2 same2;simp only [↓reduceIte];cases gave2<;>wp_walk
      all_goals exact fin
end
theorem Yh:plainId "set.update.loop" =true:=by decide +kernel
theorem XR:entryFor table "set.update.loop" =some Builtin.«set.update.loop» :=entryFor_of_fast (by kernel_rfl)
section
variable {prog:Program}{w:World}{A:Around}{E:Value->Shared->Prop}{a I:Addr}{L:Bool}{fp wr:List Addr}{n:Nat}{P:Nat->Value->Prop}{St:Nat->Heap->Prop}{f:Nat->Int}
theorem ZO {R:Result->Shared->Prop}(W:Walks prog w A.in1 I fp wr n P St)(num: ∀i v,P i v-> ∃tk,v= .int (f i) tk)(na:a ∉ fp)(few:n<1000):
 ∀ (k i:Nat) (s:Shared) (es:Array (Int×Value)) (ep:Nat) (t:SetTable),i+k=n->St i s.heap->s.heap.get? a=some (Jh es ep t)->SetI L es t ((List.range i).map f).reverse->
  (∀h' tk es' ep' t',h'.get? a=some (Jh es' ep' t')->SetI L es' t' ((List.range n).map f).reverse->(∀b o,b≠a->b ∉ wr->s.heap.get? b=some o->h'.get? b=some o)->R (.ok (.ret .none)) {s with heap:=h',toks:=tk})->
  codeAny (model prog w) A (.builtin "set.update.loop" ⟨[.ref a,.ref I],[]⟩) R s
 |0,i,s,es,ep,t,hk,st,ha,S,q=>by
  have e:i=n:=by omega
  subst e;refine V9 XR ?_;rw [Y1 Yh];refine wpAny_bind (W.done s _ _ st λh' tk kept=>P0 ?_);exact q h' tk es ep t (kept _ _ (λz=>na (W.sub _ z)) ha) S λb o _ nb e=>kept b o nb e
 |k+1,i,s,es,ep,t,hk,st,ha,S,q=>by
  refine V9 XR ?_;rw [Y1 Yh];refine wpAny_bind (W.item i s _ _ (by omega) st λv h1 tk1 pv st1 kept1=> ?_);obtain⟨tk,rfl⟩:=num i v pv;have ha1:=kept1 _ _ (λz=>na (W.sub _ z)) ha;refine wpAny_bind (B7 (MQ (s:= {s with heap:=h1,toks:=tk1}) S ha1 (by simp;omega) λb es2 ep2 t2 h2 S2 ha2 same2=>P0 ⟨plainId_quiet Yh _,?_⟩));have S3:SetI L es2 t2 ((List.range (i+1)).map f).reverse:=by
   rw [O6,R9,List.reverse_append];exact S2
  refine ZO W num na few k (i+1) {s with heap:=h2,toks:=tk1+1} es2 ep2 t2 (by omega) (W.frame _ _ _ st1 λb hb o e=>same2.extBut _ _ (λz=>na (z ▸ hb)) e) ha2 S3 λh' tk' es' ep' t' ha' S' kept'=> ?_
  exact q h' tk' es' ep' t' ha' S' λb o ba bw e=>kept' b o ba bw (same2.extBut _ _ ba (kept1 b o bw e))
end
theorem YR:entryFor table "set.__init__" =some Builtin.«set.__init__» :=entryFor_of_fast (by kernel_rfl)
abbrev yu (w:World):Bool:= !(w.params.followText "set-order")
theorem Ul (L:Bool):SetI L #[] (.fresh 0 0 L) []:=⟨⟨rfl,rfl,rfl,λ_=> .nil⟩,λe he=>by simp at he,by simp,λn=>by simp⟩
theorem JB:isSubtype (.type "set") (.type "set")=pure true:=by rw [K9];kernel_rfl
theorem XS:isSubtype (.type "list") (.type "set")=pure false:=by rw [K9];kernel_rfl
theorem XT:isSubtype (.type "list") (.type "frozenset")=pure false:=by rw [K9];kernel_rfl
theorem Gt:isSubtype (.type "tuple") (.type "set")=pure false:=by rw [K9];kernel_rfl
theorem Gu:isSubtype (.type "tuple") (.type "frozenset")=pure false:=by rw [K9];kernel_rfl
section
variable {prog:Program}{w:World}{A:Around}{E:Value->Shared->Prop}{s:Shared}
theorem Cu {x:Value}{P:PySem.Fin->Shared->Prop}(h:P (.done (.ret (.ref s.heap.objs.size))) {s with heap:=s.heap.push (Jh #[] 0 (.fresh 0 0 (yu w)))}):
 wpAny (model prog w) A (Builtin.«set.__new__» ⟨[.type "set",x],[]⟩) P E s:=by
 have fine:=JB;obtain⟨hp,g,d,tk,os⟩:=s;have told: ∀ {Q:Setting->Shared->Prop} {E':Value->Shared->Prop} {A':Around} {s':Shared},Q ⟨prog,w.params⟩ s'->wpAny (model prog w) A' ask Q E' s':=λq=>K4 q
 wp_walk using told
 exact h
theorem Um {M:Model}{o x:Value}{Q:Unit->Shared->Prop}(ty:s.TypeIs o "set")(q:Q () s):wpAny M A (checkBuiltinCall "set.__init__" ⟨[o,x],[]⟩) Q E s:=by
 have fine:=JB;unfold checkBuiltinCall;rw [kind_set_init,split_set_init,sig_set_init]
 wp_walk using PyProof.Rows.printed_name (n:= "set") (by decide),PyProof.Rows.printed_star (self:=o) rfl ty
 exact q
theorem MR {l a:Addr}{vs:List Value}{ns:List Int}{T:String}{ep:Nat}{Q:Option Value->Shared->Prop}(calm:A.handled=none)(hT:T= "list" \/T= "tuple")
 (hl: ∃o,s.heap.get? l=some o/\o.cls= .type T/\ ∃c,o.data= .seq vs.toArray c)(hI:IntsAre vs ns)(few:ns.length<1000)(ha:s.heap.get? a=some (Jh #[] ep (.fresh 0 0 (yu w))))(la:l≠a)
 (k: ∀h' tk es' ep' t',h'.get? a=some (Jh es' ep' t')->SetI (yu w) es' t' ns.reverse->(∀b o,b≠a->s.heap.get? b=some o->h'.get? b=some o)->Q (some .none) {s with heap:=h',toks:=tk}):
 wpAny (model prog w) A (callSpecial? (.ref a) "__init__" [.ref l]) Q E s:=by
 have ty:s.TypeIs (.ref a) "set" :=⟨_,ha,rfl⟩;refine B8 ty F.called_set.init (G0Z (X9 F.called_set.init.plain YR (Um ty ?_)));have f1:=XS;have f2:=XT;have f3:=Gt;have f4:=Gu;obtain⟨⟨oc,od,odt,osl⟩,hol,hc,c,hd⟩:=hl;simp only at hc hd;subst hc hd;have state:=λ{P:Array (Int×Value)×Nat×SetTable->Shared->Prop} {E':Value->Shared->Prop} {A':Around}=>A5 (prog:=prog) (w:=w) (A:=A') (E:=E') (Q:=P) (s:=s) ha rfl (Ul (yu w)).tab.fits
 have pick: ∀ (i:Nat) (v:Value),vs.toArray[i]? =some v-> ∃tk,v=Value.int (ns.getD i 0) tk:=λi v hv=>(L2.vw hI (by simpa using hv)).imp λ_ z=>z.1
 have len:vs.toArray.size=ns.length:=by rw [P6,hI.length]
 have rng:(List.range ns.length).map (λi=>ns.getD i 0)=ns:=by
  refine A6 λi=> ?_
  rw [P1]
  by_cases hi:i<ns.length
  ·rw [C5 hi,G0 hi];simp [hi]
  ·rw [N2 (by simpa using hi),N2 (by simpa using hi)];rfl
 have far:a≠s.heap.objs.size:=λz=>S7 _ (z ▸ P2 ha)
 have lfar:l≠s.heap.objs.size:=λz=>S7 _ (z ▸ P2 hol)
 have na:a ∉ [s.heap.objs.size,l]:=by simp [far,la.symm]
 have fin: ∀ {o:Obj} h' tk es' ep' t',h'.get? a=some (Jh es' ep' t')->SetI (yu w) es' t' ((List.range vs.toArray.size).map λi=>ns.getD i 0).reverse->(∀b ob,b≠a->b ∉ [s.heap.objs.size]->(s.heap.push o).get? b=some ob->h'.get? b=some ob)->Q (some .none) {s with heap:=h',toks:=tk}:=λh' tk es' ep' t' e S kept=>by
  rw [len,rng] at S;exact k h' tk es' ep' t' e S λb ob nb q=>kept b ob nb (λz=>S7 _ (G3.mp z ▸ P2 q)) (G1 _ q)
 rcases hT with rfl|rfl
 ·have tl:s.TypeIs (.ref l) "list" :=⟨_,hol,rfl⟩;have isl:s.heap.IsList l vs.toArray:=⟨_,hol,rfl,c,rfl⟩
  wp_walk using state,A2 isl
  have W:=G03 (prog:=prog) (w:=w) (A:=A.in1.in1) calm s.heap.objs.size l lfar vs.toArray;refine ZO W pick na (by rw [len];exact few) vs.toArray.size 0 _ #[] ep _ (E5 _) ⟨⟨_,P8 _ rfl,rfl,rfl⟩,⟨_,G1 _ hol,rfl,c,rfl⟩⟩ (G1 _ ha) (Ul _) λh' tk es' ep' t' e S kept=> ?_
  exact P0 (P0 (fin h' tk es' ep' t' e S kept))
 ·have tl:s.TypeIs (.ref l) "tuple" :=⟨_,hol,rfl⟩;have isl:s.heap.IsTuple l vs.toArray:=⟨_,hol,rfl,c,rfl⟩
  wp_walk using state,O7 isl
  have W:=Walks.tuple (prog:=prog) (w:=w) (A:=A.in1.in1) calm s.heap.objs.size l lfar vs.toArray;refine ZO W pick na (by rw [len];exact few) vs.toArray.size 0 _ #[] ep _ (E5 _) ⟨⟨_,P8 _ rfl,rfl,rfl⟩,⟨_,G1 _ hol,rfl,c,rfl⟩⟩ (G1 _ ha) (Ul _) λh' tk es' ep' t' e S kept=> ?_
  exact P0 (P0 (fin h' tk es' ep' t' e S kept))
theorem Uo {l:Addr}{vs:List Value}{ns:List Int}{T:String}{Q:Value->Shared->Prop}(calm:A.handled=none)(hT:T= "list" \/T= "tuple")
 (hl: ∃o,s.heap.get? l=some o/\o.cls= .type T/\ ∃c,o.data= .seq vs.toArray c)(hI:IntsAre vs ns)(few:ns.length<1000)
 (k: ∀h' tk es' ep' t',h'.get? s.heap.objs.size=some (Jh es' ep' t')->SetI (yu w) es' t' ns.reverse->(∀b o,s.heap.get? b=some o->h'.get? b=some o)->Q (.ref s.heap.objs.size) {s with heap:=h',toks:=tk}):
 wpAny (model prog w) A (call (.type "set") [.ref l]) Q E s:=by
 have fits:checkTypeCall "set" ⟨[.ref l],[]⟩=pure ():=by kernel_rfl
 have newFits:checkBuiltinCall "set.__new__" ⟨[.type "set",.ref l],[]⟩=pure ():=by kernel_rfl
 obtain⟨o,hol,r⟩:=hl;refine L2.Ye (Made:=λv s₁=>v= .ref s.heap.objs.size/\s₁= {s with heap:=s.heap.push (Jh #[] 0 (.fresh 0 0 (yu w)))}) F.called_set fits
  (G0Z (X9 F.called_set.plain F.entry_set_new (wpAny_of_eq newFits (Cu ⟨rfl,rfl⟩)))) λv s₁ ⟨ev,es⟩=> ?_
 subst ev es;have at_:(s.heap.push (Jh #[] 0 (.fresh 0 0 (yu w)))).get? s.heap.objs.size=some (Jh #[] 0 (.fresh 0 0 (yu w))):=P8 _ rfl;refine⟨⟨_,at_,rfl⟩,MR (s:= {s with heap:=s.heap.push (Jh #[] 0 (.fresh 0 0 (yu w)))}) calm hT ⟨o,G1 _ hol,r⟩ hI few at_ (λz=>S7 _ (z ▸ P2 hol)) λh' tk es' ep' t' e S kept=>⟨rfl,k h' tk es' ep' t' e S λb ob q=>kept b ob (λz=>S7 _ (z ▸ P2 q)) (G1 _ q)⟩⟩
end
theorem slot_si_next:Slot "set_iterator" "__next__" "set_iterator.__next__" :=
 .of (owner:= "set_iterator") (n:= "__next__") (by rw [typeLookup_type,builtinLookup_eq_fast];kernel_rfl) (by decide +kernel) (by decide +kernel) (by decide +kernel) (.inl (by kernel_rfl)) (by rw [K9];kernel_rfl)
theorem Up:entryFor table "set_iterator.__next__" =some Builtin.«set_iterator.__next__» :=entryFor_of_tree (by kernel_rfl)
theorem XU (a:Value):argsOk "set_iterator.__next__" ⟨[a],[]⟩:=by unfold argsOk;kernel_rfl
theorem YS:entryFor table "set.__iter__" =some Builtin.«frozenset.__iter__» :=entryFor_alias (id':= "frozenset.__iter__") (by kernel_rfl) rfl (by decide +kernel) (by kernel_rfl)
abbrev itO (first:Value)(i:Nat)(a:Addr)(n ep:Nat):Obj:= {cls:= .type "set_iterator",data:= .fields #[first,rawInt i,.ref a,rawInt n,rawInt ep]}
inductive Mode (w:World)(a:Addr)(es:Array (Int×Value))(ep:Nat)(t:SetTable):List Value->(Value->Nat->Heap->Prop)->Addr->Prop
 |text (b:w.params.followText "set-order" =true):Mode w a es ep t ((pickOrder (w.params.setOrder a ep) es).toList.map (·.2)) (λf _ _=>f=rawInt 0) a
 |drawn (b:w.params.followText "set-order" =false) (d:t.plain=false) (two:1<es.size) (ord:List Nat) (p:ord.Perm (List.range es.size)) (tp:Addr):
  Mode w a es ep t (ord.map λj=>(es.getD j (0,.none)).2) (λf _ h=>f= .ref tp/\h.IsTuple tp (ord.map λj=>rawInt (j:Nat)).toArray) tp
 |table (b:w.params.followText "set-order" =false) (d:t.plain=true\/es.size<=1):Mode w a es ep t (es.toList.map (·.2)) (λf i _=> ∃slot:Nat,f=rawInt slot/\SetTable.below t.place slot=i) a
section
variable {prog:Program}{w:World}{A:Around}{E:Value->Shared->Prop}{s:Shared}{a I tp:Addr}{es:Array (Int×Value)}{ep n i:Nat}{t:SetTable}{ns:List Int}{first:Value}
theorem MS {Q:Value->Shared->Prop}(S:Tab (yu w) es.size t)(b:w.params.followText "set-order" =true)(ha:s.heap.get? a=some (Jh es ep t))(hI:s.heap.get? I=some (itO (rawInt 0) i a es.size ep))(aI:a≠I)
 {x:Value}(hx:((pickOrder (w.params.setOrder a ep) es).toList.map (·.2))[i]? =some x)(q: ∀h',h'.get? I=some (itO (rawInt 0) (i+1) a es.size ep)->Heap.SameBut I s.heap h'->Q x {s with heap:=h'}):
 wpAny (model prog w) A (Builtin.«set_iterator.__next__» ⟨[.ref I],[]⟩) (λfin s'=> ∃v,fin= .done (.ret v)/\Q v s') E s:=by
 have told: ∀ {Q:Setting->Shared->Prop} {E':Value->Shared->Prop} {A':Around} {s':Shared},Q ⟨prog,w.params⟩ s'->wpAny (model prog w) A' ask Q E' s':=λq=>K4 q
 have state:=λ{P:Array (Int×Value)×Nat×SetTable->Shared->Prop} {E':Value->Shared->Prop} {A':Around}=>A5 (prog:=prog) (w:=w) (A:=A') (E:=E') (Q:=P) (s:=s) ha rfl S.fits
 obtain⟨hp,g,d,tk,os⟩:=s;rw [P1] at hx;obtain⟨⟨k,x'⟩,hx1,rfl⟩:=C1.mp hx;have hx':(pickOrder (w.params.setOrder a ep) es)[((i:Nat):Int).toNat]? =some (k,x'):=by rw [A4,<-S6];exact hx1
 have z1:=S9 (Obj.mapFields λv=>v.setIfInBounds 0 (rawInt ((Int.toNat 0:Nat):Int))) hI rfl;have z2:=S9 (Obj.mapFields λv=>v.setIfInBounds 1 (rawInt ((i:Int)+1))) z1 rfl;have fin:=q _ z2 ((T9 ..).trans (T9 ..))
 wp_walk using state,told
 rw [hx']
 wp_walk
 exact⟨_,rfl,fin⟩
theorem DA {Q:Value->Shared->Prop}{ord:List Nat}(S:Tab (yu w) es.size t)(ha:s.heap.get? a=some (Jh es ep t))(hI:s.heap.get? I=some (itO (.ref tp) i a es.size ep))(aI:a≠I)(ht:s.heap.IsTuple tp (ord.map λj=>rawInt (j:Nat)).toArray)(p:ord.Perm (List.range es.size))
 {x:Value}(hx:(ord.map λj=>(es.getD j (0,.none)).2)[i]? =some x)(q: ∀h',h'.get? I=some (itO (.ref tp) (i+1) a es.size ep)->Heap.SameBut I s.heap h'->Q x {s with heap:=h'}):
 wpAny (model prog w) A (Builtin.«set_iterator.__next__» ⟨[.ref I],[]⟩) (λfin s'=> ∃v,fin= .done (.ret v)/\Q v s') E s:=by
 have state:=λ{P:Array (Int×Value)×Nat×SetTable->Shared->Prop} {E':Value->Shared->Prop} {A':Around}=>A5 (prog:=prog) (w:=w) (A:=A') (E:=E') (Q:=P) (s:=s) ha rfl S.fits
 obtain⟨⟨oc,od,odt,osl⟩,hol,hc,c,hd⟩:=ht;simp only at hc hd;subst hc hd;obtain⟨hp,g,d,tk,os⟩:=s;rw [P1] at hx;obtain⟨j,hj,rfl⟩:=C1.mp hx;have jlt:j<es.size:=R0.mp (p.mem_iff.mp (G5 hj));have hj':((ord.map λj=>rawInt (j:Nat)).toArray)[((i:Nat):Int).toNat]? =some (rawInt (j:Nat)):=by simp [hj]
 have ej:es[((j:Nat):Int).toNat]? =some (es.getD j (0,.none)):=by simp [jlt,Array.getD]
 have z1:=S9 (Obj.mapFields λv=>v.setIfInBounds 1 (rawInt ((i:Int)+1))) hI rfl;have fin:=q _ z1 (T9 ..)
 wp_walk using state
 rw [hj'];show wpAny _ _ (setNextDrawn a ((j:Nat):Int).toNat ((ep:Nat):Int).toNat >>= _) _ _ _
 wp_walk using state
 rw [ej]
 wp_walk
 exact⟨_,rfl,fin⟩
theorem DB {Q:Value->Shared->Prop}{slot:Nat}(S:Tab (yu w) es.size t)(b:w.params.followText "set-order" =false)(pl:t.plain=true\/es.size<=1)(ha:s.heap.get? a=some (Jh es ep t))(hI:s.heap.get? I=some (itO (rawInt slot) i a es.size ep))(aI:a≠I)(hs:SetTable.below t.place slot=i)
 {x:Value}(hx:(es.toList.map (·.2))[i]? =some x)(q: ∀h' (slot':Nat),SetTable.below t.place slot'=i+1->h'.get? I=some (itO (rawInt slot') (i+1) a es.size ep)->Heap.SameBut I s.heap h'->Q x {s with heap:=h'}):
 wpAny (model prog w) A (Builtin.«set_iterator.__next__» ⟨[.ref I],[]⟩) (λfin s'=> ∃v,fin= .done (.ret v)/\Q v s') E s:=by
 have told: ∀ {Q:Setting->Shared->Prop} {E':Value->Shared->Prop} {A':Around} {s':Shared},Q ⟨prog,w.params⟩ s'->wpAny (model prog w) A' ask Q E' s':=λq=>K4 q
 have state:=λ{P:Array (Int×Value)×Nat×SetTable->Shared->Prop} {E':Value->Shared->Prop} {A':Around}=>A5 (prog:=prog) (w:=w) (A:=A') (E:=E') (Q:=P) (s:=s) ha rfl S.fits
 have led:t.led=true:=by rw [S.led];show (!(w.params.followText "set-order"))=true;rw [b];rfl
 have nd:(!t.plain&&decide (es.size>1))=false:=by
  rcases pl with z|z
  ·rw [z];rfl
  ·rw [D4 (by omega),Bool.and_false]
 obtain⟨hp,g,d,tk,os⟩:=s;rw [P1] at hx;obtain⟨⟨k,x'⟩,hx1,rfl⟩:=C1.mp hx;have lt:i<es.size:=by have:=(G6.mp hx1).1;simpa using this
 have ps:=Vz S.fits;have ltp:i<t.place.size:=by omega
 have ex:es[i]? =some (k,x'):=by rw [<-S6];exact hx1
 have ep':t.place[i]? =some t.place[i]:=by simp [ltp]
 have rise:=S.rise pl;have next:SetTable.below t.place (t.place[i]+1)=i+1:=by
  obtain⟨b1,b2,b3⟩:=Uj rise (t.place[i]+1);have mono:=λ(u v:Nat) (hu:u<t.place.size) (hv:v<t.place.size) (uv:u<v)=>F6.mp rise u v (by simpa using hu) (by simpa using hv) uv
  simp only [Y0] at mono;rcases Nat.lt_trichotomy (SetTable.below t.place (t.place[i]+1)) (i+1) with z|z|z
  ·have:=b2 i (by omega) _ ep';omega
  ·exact z
  ·have h1:i+1<t.place.size:=by omega
   have:=b1 (i+1) z _ (by simp [h1]:t.place[i+1]? =some t.place[i+1]);have:=mono i (i+1) ltp h1 (by omega);omega
 have z1:=S9 (Obj.mapFields λv=>v.setIfInBounds 0 (rawInt ((t.place[i]+1:Nat):Int))) hI rfl;have z2:=S9 (Obj.mapFields λv=>v.setIfInBounds 1 (rawInt ((i:Int)+1))) z1 rfl;have fin:=q _ _ next z2 ((T9 ..).trans (T9 ..))
 wp_walk using state,told
 split
 ·rename_i z;have z':(!t.plain&&decide (es.size>1))=true:=z;rw [nd] at z';cases z'
 wp_walk
 rw [show ((slot:Nat):Int).toNat=slot from A4 _,hs,ex,ep']
 wp_walk
 exact⟨_,rfl,fin⟩
theorem DD {vals:List Value}{md:Value->Nat->Heap->Prop}{Q:PySem.Fin->Shared->Prop}(calm:A.handled=none)(S:Tab (yu w) es.size t)(M:Mode w a es ep t vals md tp)(ha:s.heap.get? a=some (Jh es ep t))(hI:s.heap.get? I=some (itO first i a es.size ep))(aI:a≠I)(hm:md first i s.heap)(hx:vals[i]? =none)
 (q: ∀h' e,(∀b o,b≠I->s.heap.get? b=some o->h'.get? b=some o)->(∃o,h'.get? e=some o/\o.cls= .type "StopIteration")->E (.ref e) {s with heap:=h'}):
 wpAny (model prog w) A (Builtin.«set_iterator.__next__» ⟨[.ref I],[]⟩) Q E s:=by
 have told: ∀ {Q:Setting->Shared->Prop} {E':Value->Shared->Prop} {A':Around} {s':Shared},Q ⟨prog,w.params⟩ s'->wpAny (model prog w) A' ask Q E' s':=λq=>K4 q
 have state:=λ{P:Array (Int×Value)×Nat×SetTable->Shared->Prop} {E':Value->Shared->Prop} {A':Around}=>A5 (prog:=prog) (w:=w) (A:=A') (E:=E') (Q:=P) (s:=s) ha rfl S.fits
 have stop:=λ{h1:Heap} {Q':PySem.Fin->Shared->Prop} (same:Heap.SameBut I s.heap h1)=>L2.Yd (prog:=prog) (w:=w) (A:=A) (E:=E) (s:= {s with heap:=h1}) (Q:=Q') calm λh' e grown st=>q h' e (λb o nb x=>grown b o (same.extBut b o nb x)) st
 obtain⟨hp,g,d,tk,os⟩:=s;have put: ∀ {P:Unit->Shared->Prop} {E':Value->Shared->Prop} {k:Nat} {v:Value} {h1:Heap},k<5->Heap.SameBut I hp h1->(∃fs:Array Value,fs.size=5/\h1.get? I=some {cls:= .type "set_iterator",data:= .fields fs})->(∀h',Heap.SameBut I hp h'->(∃fs:Array Value,fs.size=5/\h'.get? I=some {cls:= .type "set_iterator",data:= .fields fs})->P () ⟨h',g,d,tk,os⟩)->wpAny (model prog w) A (setField (.ref I) k v) P E' ⟨h1,g,d,tk,os⟩:=λhk same ⟨fs,hfs,e⟩ q'=>wpAny_setField_rec (s:=⟨_,g,d,tk,os⟩) e (by omega) λh' z' same'=>q' h' (same.trans same') ⟨_,by simpa using hfs,z'⟩
 cases M with
 |text b=>
  subst hm;have e:(pickOrder (w.params.setOrder a ep) es)[((i:Nat):Int).toNat]? =none:=by
   rw [P1] at hx;rw [A4,<-S6];exact W6.mp hx
  wp_walk using state,told
  rw [e];show wpAny _ _ (setField (.ref I) 2 .none >>= _) _ _ _;exact wpAny_bind (put (by decide) (Q9 _ _) ⟨_,rfl,hI⟩ λh' same _=>stop same)
 |drawn b dp two ord p tp=>
  obtain⟨rfl,⟨oc,od,odt,osl⟩,hol,hc,c,hd⟩:=hm;simp only at hc hd;subst hc hd;have e:((ord.map λj=>rawInt (j:Nat)).toArray)[((i:Nat):Int).toNat]? =none:=by
   rw [P1] at hx;simp [W6.mp hx]
  wp_walk using state
  rw [e];show wpAny _ _ (setField (.ref I) 0 (rawInt 0) >>= λ_=>setField (.ref I) 2 .none >>= _) _ _ _;exact wpAny_bind (put (by decide) (Q9 _ _) ⟨_,rfl,hI⟩ λh1 same1 there1=>wpAny_bind (put (by decide) same1 there1 λh' same _=>stop same))
 |table b pl=>
  obtain⟨slot,rfl,hs⟩:=hm;have led:t.led=true:=by rw [S.led];show (!(w.params.followText "set-order"))=true;rw [b];rfl
  have nd:(!t.plain&&decide (es.size>1))=false:=by
   rcases pl with z|z
   ·rw [z];rfl
   ·rw [D4 (by omega),Bool.and_false]
  have e:es[i]? =none:=by
   rw [P1] at hx;rw [<-S6];exact W6.mp hx
  wp_walk using state,told
  split
  ·rename_i z;have z':(!t.plain&&decide (es.size>1))=true:=z;rw [nd] at z';cases z'
  wp_walk
  rw [show ((slot:Nat):Int).toNat=slot from A4 _,hs,e];show wpAny _ _ (setField (.ref I) 2 .none >>= _) _ _ _;exact wpAny_bind (put (by decide) (Q9 _ _) ⟨_,rfl,hI⟩ λh' same _=>stop same)
end
theorem Uq:entryFor table "set_iterator.__iter__" =some Builtin.«dict_keyiterator.__iter__» :=entryFor_alias (id':= "dict_keyiterator.__iter__") (by kernel_rfl) (by first|rfl|decide +kernel|(unfold String.splitOn;simp +decide [String.splitOnAux])) (by decide +kernel) (by kernel_rfl)
theorem Zg:Slot "set_iterator" "__iter__" "set_iterator.__iter__" := .of (owner:= "set_iterator") (n:= "__iter__") (by rw [typeLookup_type,builtinLookup_eq_fast];kernel_rfl) (by decide +kernel) (by decide +kernel) (by decide +kernel) (.inl (by kernel_rfl)) (by rw [K9];kernel_rfl)
theorem XV (a:Value):argsOk "set_iterator.__iter__" ⟨[a],[]⟩:=by unfold argsOk;kernel_rfl
section
variable {prog:Program}{w:World}{A:Around}{E:Value->Shared->Prop}{s:Shared}{a I tp:Addr}{es:Array (Int×Value)}{ep n i:Nat}{t:SetTable}{ns:List Int}{first:Value}{vals:List Value}{md:Value->Nat->Heap->Prop}
theorem Mode.keep {f:Value}{h h':Heap}(M:Mode w a es ep t vals md tp)(m:md f i h)(k: ∀o,h.get? tp=some o->h'.get? tp=some o):md f i h':=by
 cases M with
 |text b=>exact m
 |drawn b dp two ord p tp=>exact⟨m.1,m.2.at λo e=>k o e⟩
 |table b pl=>exact m
theorem MT {Q:Option Value->Shared->Prop}(ty:s.TypeIs (.ref I) "set_iterator")
 (h:wpAny (model prog w) A.in1 (Builtin.«set_iterator.__next__» ⟨[.ref I],[]⟩) (λfin s'=> ∃v,fin= .done (.ret v)/\Q (some v) s') (λe s'=>s'.TypeIs e "StopIteration" /\Q none s') s):wpAny (model prog w) A (pyNext (.ref I)) Q E s:=
 wpAny_bind (wpAny_attempt (B8 (name:= "__next__") ty slot_si_next (S0 (N9 slot_si_next ty Up h (XU _)) (λ_ _ q=>P0 q) λe s' q=>wpAny_bind (G0H (b:=true) q.1 isSubtype_stop (P0 q.2)))))
theorem MU (calm:A.handled=none)(S:Tab (yu w) es.size t)(M:Mode w a es ep t vals md tp)(aI:a≠I)(tI:tp≠I):
 Walks prog w A I [I,a,tp] [I] vals.length (λi v=>vals[i]? =some v) (λi h=>h.get? a=some (Jh es ep t)/\ ∃first,h.get? I=some (itO first i a es.size ep)/\md first i h) where
 sub:=λb hb=>by simp only [G3] at hb;simp [hb]
 frame:=λi h h' ⟨ha,f,hI,m⟩ k=>⟨k a (by simp) _ ha,f,k I (by simp) _ hI,M.keep m λo e=>k tp (by simp) o e⟩
 item:=λi s Q E hi ⟨ha,f,hI,m⟩ q=>by
  have hx:vals[i]? =some vals[i]:=by simp [hi]
  refine MT ⟨_,hI,rfl⟩ ?_;have fin: ∀ {f':Value} h',md f' (i+1) s.heap->h'.get? I=some (itO f' (i+1) a es.size ep)->Heap.SameBut I s.heap h'->Q (some vals[i]) {s with heap:=h'}:=λh' m' e same=>
   q vals[i] h' s.toks hx ⟨same.extBut _ _ aI ha,_,e,M.keep m' λo x=>same.extBut _ _ tI x⟩ λb o nb x=>same.extBut _ _ (by simpa using nb) x
  cases M with
  |text b=>
   subst m;exact MS S b ha hI aI hx λh' e same=>fin h' rfl e same
  |drawn b dp two ord p tp=>
   obtain⟨rfl,ht⟩:=m;exact DA S ha hI aI ht p hx λh' e same=>fin h' ⟨rfl,ht⟩ e same
  |table b pl=>
   obtain⟨slot,rfl,hs⟩:=m;exact DB S b pl ha hI aI hs hx λh' slot' hs' e same=>fin h' ⟨slot',rfl,hs'⟩ e same
 done:=λs Q E ⟨ha,f,hI,m⟩ q=>by
  refine MT ⟨_,hI,rfl⟩ (DD calm S M ha hI aI m (by simp) λh' e kept ⟨o,ho,hc⟩=>⟨⟨o,ho,hc⟩,q h' s.toks λb ob nb x=>kept b ob (by simpa using nb) x⟩)
 self:=λi s Q E ⟨ha,f,hI,m⟩ q=>G0r ⟨_,hI,rfl⟩ Zg (N9 Zg ⟨_,hI,rfl⟩ Uq (P0 ⟨_,rfl,_,_,⟨_,hI,rfl⟩,slot_si_next.lookup,q⟩) (XV _))
end
theorem ZP {α:Type}: ∀ (l:List α) (i:Nat) {x:α},l[i]? =some x->(x::l.eraseIdx i).Perm l
 | [],i,x,h=>by cases h
 |y::l,0,x,h=>by cases h;exact .refl _
 |y::l,i+1,x,h=>(List.Perm.swap y x _).trans ((ZP l i h).cons y)
theorem MV {α:Type}(next:Nat->Nat): ∀ (fuel k:Nat) (left:List α) (out:Array α),left.length=fuel->(pickOrder.go next fuel k left out).toList.Perm (out.toList++left)
 |0,k,left,out,h=>by
  rw [F7 h,B9];exact .refl _
 |fuel+1,k,left,out,h=>by
  unfold pickOrder.go;have lt:next k%left.length<left.length:=E2 _ (by omega);have hx:left[next k%left.length]? =some left[next k%left.length]:=by simp [lt]
  rw [hx];refine(MV next fuel (k+1) _ _ (by rw [G0e lt];omega)).trans ?_;rw [F9,G8];exact(ZP left _ hx).append_left _
theorem MW {α:Type}(next:Nat->Nat)(xs:Array α):(pickOrder next xs).toList.Perm xs.toList:=by
 have:=MV next xs.size 0 xs.toList #[] (by simp);rw [Array.toList_empty,B2] at this;exact this
section
variable {prog:Program}{w:World}{A:Around}{E:Value->Shared->Prop}{s:Shared}{a I tp:Addr}{es:Array (Int×Value)}{ep n i:Nat}{t:SetTable}{ns:List Int}{first:Value}{vals:List Value}{md:Value->Nat->Heap->Prop}
theorem Mode.perm (M:Mode w a es ep t vals md tp):vals.Perm (es.toList.map (·.2)):=by
 cases M with
 |text b=>exact(MW _ es).map _
 |drawn b dp two ord p tp=>
  refine(p.map _).trans ?_;have:(List.range es.size).map (λj=>(es.getD j (0,.none)).2)=es.toList.map (·.2):=by
   refine A6 λj=> ?_
   rw [P1,P1]
   by_cases hj:j<es.size
   ·rw [C5 hj];simp [hj,Array.getD]
   ·rw [N2 (by simpa using hj),N2 (by simpa using hj)];rfl
  rw [this]
 |table b pl=>exact .refl _
theorem Py {α:Type}{Q:List α->Shared->Prop}: ∀ (n:Nat) (xs:List α) (s:Shared),xs.length=n->(∀ys d,ys.Perm xs->Q ys {s with drawn:=d})->wpAny (model prog w) A (drawOrder n xs) Q E s
 |0,xs,s,h,q=>by
  rw [F7 h] at q;exact P0 (q [] s.drawn (.refl _))
 |n+1,[],s,h,q=>by cases h
 |n+1,x::r,s,h,q=>by
  have pickd: ∀ {P:Nat->Shared->Prop} {E':Value->Shared->Prop},(∀i d,i<(x::r).length->P i {s with drawn:=d})->wpAny (model prog w) A (choose .order (x::r).length) P E' s:=λp _ _ _=>⟨by simp,p _ _ (E2 _ (by simp))⟩
  refine wpAny_bind (pickd λi d hi=> ?_);have hx:(x::r)[i]? =some (x::r)[i]:=by rw [G0 hi]
  rw [hx];refine wpAny_bind (Py n _ {s with drawn:=d} (by rw [G0e hi];simp at h ⊢;omega) λys d' p=>P0 (q _ d' ?_));exact(p.cons _).trans (ZP _ _ hx)
theorem Cv {Q:Value->Shared->Prop}(S:Tab (yu w) es.size t)(ha:s.heap.get? a=some (Jh es ep t))(few:es.size<1000)
 (k: ∀h' d I tp vals md first,Mode w a es ep t vals md tp->(∀b o,s.heap.get? b=some o->h'.get? b=some o)->s.heap.objs.size<=I->tp≠I->(tp=a\/s.heap.objs.size<=tp)->tp<h'.objs.size->h'.get? I=some (itO first 0 a es.size ep)->md first 0 h'->Q (.ref I) {s with heap:=h',drawn:=d}):
 wpAny (model prog w) A (pyIter (.ref a)) Q E s:=by
 have ty:s.TypeIs (.ref a) "set" :=⟨_,ha,rfl⟩;have told: ∀ {Q:Setting->Shared->Prop} {E':Value->Shared->Prop} {A':Around} {s':Shared},Q ⟨prog,w.params⟩ s'->wpAny (model prog w) A' ask Q E' s':=λq=>K4 q
 have state:=λ{P:Array (Int×Value)×Nat×SetTable->Shared->Prop} {E':Value->Shared->Prop} {A':Around} {s':Shared} (e:s'.heap.get? a=some (Jh es ep t))=>A5 (prog:=prog) (w:=w) (A:=A') (E:=E') (Q:=P) (s:=s') e rfl S.fits
 refine G0r ty F.slot_set_iter (N9 F.slot_set_iter ty YS ?_ (F.args_set_iter_1 _));have state0:=λ{P:Array (Int×Value)×Nat×SetTable->Shared->Prop} {E':Value->Shared->Prop} {A':Around}=>state (P:=P) (E':=E') (A':=A') (s':=s) ha
 cases b:w.params.followText "set-order" with
 |true=>
  wp_walk using state0,told
  have at_:(s.heap.push (itO (rawInt 0) 0 a es.size ep)).get? s.heap.objs.size=some (itO (rawInt 0) 0 a es.size ep):=P8 _ rfl;have nI:a≠s.heap.objs.size:=λz=>S7 _ (z ▸ P2 ha)
  refine⟨_,rfl,"set_iterator",_,⟨_,at_,rfl⟩,slot_si_next.lookup,?_⟩;exact k _ s.drawn s.heap.objs.size a _ _ (rawInt 0) (.text b) (λb o e=>G1 _ e) (G9 _) nI (.inl rfl) (P2 (G1 _ ha)) at_ rfl
 |false=>
  cases dd:(!t.plain&&decide (es.size>1)) with
  |false=>
   have pl:t.plain=true\/es.size<=1:=by
    cases hp:t.plain with
    |true=>exact .inl rfl
    |false=>rw [hp] at dd;have:=G0j (show decide (es.size>1)=false from dd);exact .inr (by omega)
   have at_:(s.heap.push (itO (rawInt 0) 0 a es.size ep)).get? s.heap.objs.size=some (itO (rawInt 0) 0 a es.size ep):=P8 _ rfl;have nI:a≠s.heap.objs.size:=λz=>S7 _ (z ▸ P2 ha)
   have zero:SetTable.below t.place 0=0:=by
    obtain⟨b1,_,b3⟩:=Uj (S.rise pl) 0;rcases Nat.eq_zero_or_pos (SetTable.below t.place 0) with z|z
    ·exact z
    ·have h0:0<t.place.size:=by omega
     exact absurd (b1 0 z _ (by simp [h0]:t.place[0]? =some t.place[0])) (G0V _)
   have fin:=k _ s.drawn s.heap.objs.size a _ _ (rawInt 0) (.table b pl) (λb o e=>G1 _ e) (G9 _) nI (.inl rfl) (P2 (G1 _ ha)) at_ ⟨0,rfl,zero⟩
   wp_walk using state0,told
   split
   ·rename_i z;have z':(!w.params.followText "set-order" &&(!t.plain&&decide (es.size>1)))=true:=z;rw [b,dd] at z';cases z'
   wp_walk using state0
   exact⟨_,rfl,"set_iterator",_,⟨_,at_,rfl⟩,slot_si_next.lookup,fin⟩
  |true=>
   have pf:t.plain=false/\1<es.size:=by
    rw [R8] at dd;exact⟨by simpa using dd.1,B3 dd.2⟩
   wp_walk using state0,told
   split
   rotate_left
   ·rename_i z;exact(z (show (!w.params.followText "set-order" &&(!t.plain&&decide (es.size>1)))=true by rw [b,dd];rfl)).elim
   refine wpAny_bind (Py es.size (List.range es.size) s (by simp) λord d p=> ?_);have len:ord.length=es.size:=by rw [p.length_eq];simp
   have t0:(s.heap.push {cls:= .type "tuple",data:= .seq (ord.map λ(i:Nat)=>rawInt i).toArray}).get? s.heap.objs.size=some {cls:= .type "tuple",data:= .seq (ord.map λ(i:Nat)=>rawInt i).toArray}:=P8 _ rfl;refine wpAny_bind (G1c ?_ (by rw [G2,len];exact D6 (D5 few) (by decide)));have ha1:(s.heap.push {cls:= .type "tuple",data:= .seq (ord.map λ(i:Nat)=>rawInt i).toArray}).get? a=some (Jh es ep t):=G1 _ ha;have state1:=λ{P:Array (Int×Value)×Nat×SetTable->Shared->Prop} {E':Value->Shared->Prop} {A':Around}=>state (P:=P) (E':=E') (A':=A') (s':= {s with heap:=s.heap.push {cls:= .type "tuple",data:= .seq (ord.map λ(i:Nat)=>rawInt i).toArray},drawn:=d}) ha1
   wp_walk using state1
   have at_:=P8 (s.heap.push {cls:= .type "tuple",data:= .seq (ord.map λ(i:Nat)=>rawInt i).toArray}) (o:=itO (.ref s.heap.objs.size) 0 a es.size ep) rfl;have lt1:s.heap.objs.size<(s.heap.push {cls:= .type "tuple",data:= .seq (ord.map λ(i:Nat)=>rawInt i).toArray}).objs.size:=P2 t0;refine⟨_,rfl,"set_iterator",_,⟨_,at_,rfl⟩,slot_si_next.lookup,?_⟩;exact k _ d _ s.heap.objs.size _ _ (.ref s.heap.objs.size) (.drawn b pf.1 pf.2 ord p s.heap.objs.size) (λb o e=>G1 _ (G1 _ e)) (D5 lt1) (R1 lt1) (.inr (G9 _)) (P2 (G1 _ t0)) at_ ⟨rfl,⟨_,G1 _ t0,rfl,0,rfl⟩⟩
end
section
variable {prog:Program}{w:World}{A:Around}{E:Value->Shared->Prop}{s:Shared}{a:Addr}{es:Array (Int×Value)}{ep:Nat}{t:SetTable}{ns:List Int}
theorem Cw {Q:Bool->Shared->Prop}(ty:s.TypeIs (.ref a) "set")(q:Q false s):wpAny (model prog w) A (Builtin.List.listLengthHint (.ref a)) Q E s:=by
 have parts:splitId "set.__len__" =some ("set","__len__"):=by decide +kernel
 have f2:=JB;unfold Builtin.List.listLengthHint;refine wpAny_bind (wpAny_specialOf ty F.slot_set_len.lookup ?_);dsimp only;rw [parts];dsimp only
 wp_walk
 exact q
def SB (s:Shared)(es:Array (Int×Value))(r:Result)(s':Shared):Prop:=
 ∃h' d tk acc c,r= .ok (.ret (.ref s.heap.objs.size))/\s'= {s with heap:=h',drawn:=d,toks:=tk}/\h'.get? s.heap.objs.size=some {cls:= .type "list",dict:=none,data:= .seq acc c,slots:= #[]}/\(∀b o,s.heap.get? b=some o->h'.get? b=some o)/\acc.toList.Perm (es.toList.map (·.2))
theorem DE (calm:A.handled=none)(S:Tab (yu w) es.size t)(ha:s.heap.get? a=some (Jh es ep t))(few:es.size<1000):
 codeAny (model prog w) A (.builtin "proto.collect" ⟨[.ref a],[]⟩) (SB s es) s:=by
 have nS:s.heap.objs.size≠a:=λz=>S7 _ (z ▸ P2 ha)
 have old: ∀ {b o o'},s.heap.get? b=some o->(s.heap.push o').get? b=some o:=λe=>G1 _ e
 refine V9 F.entry_proto_collect ?_
 wp_walk
 refine⟨plainId_quiet F.plain_list_iadd _,V9 F.entry_list_iadd ?_⟩;rw [Y1 F.plain_list_iadd];have ha1:(s.heap.push {cls:= .type "list",data:= .seq #[]}).get? a=some (Jh es ep t):=old ha;have hS:(s.heap.push {cls:= .type "list",data:= .seq #[]}).get? s.heap.objs.size=some {cls:= .type "list",data:= .seq #[]}:=P8 _ rfl;have ty:Shared.TypeIs {s with heap:=s.heap.push {cls:= .type "list",data:= .seq #[]}} (.ref a) "set" :=⟨_,ha1,rfl⟩;have other:Builtin.List.listSameRef (.ref s.heap.objs.size) (.ref a)=false:=by simp [Builtin.List.listSameRef,nS]
 have iter:=λ{P:Value->Shared->Prop} {E':Value->Shared->Prop} {A':Around}=>Cv (prog:=prog) (w:=w) (A:=A') (E:=E') (Q:=P) (s:= {s with heap:=s.heap.push {cls:= .type "list",data:= .seq #[]}}) S ha1 (by omega)
 show wpAny _ A.in1 (Builtin.List.listExtendWith (.ref s.heap.objs.size) (.ref a) (.ref s.heap.objs.size)) _ _ _
 wp_walk using iter
 intro h1 d I tp vals md first M kept lo tI tpo tpl hI hm
 have ha2:h1.get? a=some (Jh es ep t):=kept _ _ ha1;have hS2:h1.get? s.heap.objs.size=some {cls:= .type "list",data:= .seq #[]}:=kept _ _ hS;have ty2:Shared.TypeIs {s with heap:=h1,drawn:=d} (.ref a) "set" :=⟨_,ha2,rfl⟩;refine wpAny_bind (B7 (Cw ty2 ?_))
 wp_walk
 have lt:a<s.heap.objs.size:=P2 ha;have e1:(s.heap.push {cls:= .type "list",data:= .seq #[]}).objs.size=s.heap.objs.size+1:=K8 ..;have lo':s.heap.objs.size+1<=I:=by rw [<-e1];exact lo
 have aI:a≠I:=λz=>by subst z;exact absurd lt (J7.mpr (Nat.le_of_succ_le lo'))
 have SI:s.heap.objs.size≠I:=R1 lo';have Stp:s.heap.objs.size≠tp:=by
  rcases tpo with z|z
  ·rw [z];exact nS
  ·exact R1 (R7 (by rw [e1];exact C7 _) z)
 have hS3:=S9 (Obj.mapSeq λx=>x.push Value.none) hS2 rfl;have hS4:=S9 (Obj.mapSeq λx=>x.pop) hS3 rfl;have same:Heap.SameBut s.heap.objs.size h1 ((h1.update s.heap.objs.size (Obj.mapSeq λx=>x.push Value.none)).update s.heap.objs.size (Obj.mapSeq λx=>x.pop)):=(T9 ..).trans (T9 ..);have W:=MU (prog:=prog) (A:=A.in1) calm S M aI tI;refine⟨plainId_quiet F.plain_extend_loop _,codeAny_extend_loopS W.toS ?_ s.heap.objs.size (by simp [SI,nS,Stp]) _ vals.length 0 _ #[] _ rfl (T4 _) ⟨same.extBut _ _ nS.symm ha2,first,same.extBut _ _ SI.symm hI,M.keep hm λo e=>same.extBut _ _ Stp.symm e⟩ hS4 (ItemsOf.nil _) λs' acc c' moved hS' items=> ?_⟩
 ·rw [M.perm.length_eq,G2,T7];exact D6 (D5 few) (by decide)
 have same_vals:acc.toList=vals:=by
  refine A6 λi=> ?_
  rw [S6];cases e:acc[i]? with
  |some v=>exact(items.2 i v e).symm
  |none=>
   have:vals.length<=i:=by rw [<-items.1];exact U2.mp e
   exact(N2 this).symm
 obtain⟨h',g',d',tk',os'⟩:=s';have mg:g'=s.gens:=moved.gens;have md':d'=d:=moved.drawn;have mo:os'=s.os:=moved.os;subst mg md' mo;refine⟨h',d',tk',acc,c',rfl,rfl,hS',λb o e=> ?_,by rw [same_vals];exact M.perm⟩;have lb:=P2 e;have nb:b≠s.heap.objs.size:=R1 lb;have nbI:b≠I:=λz=>by subst z;exact absurd lb (J7.mpr (Nat.le_of_succ_le lo'))
 exact moved.heap b o (by simp [nb,nbI]) (same.extBut _ _ nb (kept _ _ (old e)))
theorem Gv (S:SetI (yu w) es t ns){vs:List Value}(p:vs.Perm (es.toList.map (·.2))): ∃ks,IntsAre vs ks/\ks.Nodup/\ ∀n,n∈ks↔n∈ns:=by
 have isint: ∀v∈vs,∃n t,v=Value.int n t:=λv hv=>by
  obtain⟨e,he,rfl⟩:=R5.mp (p.mem_iff.mp hv);obtain⟨n,tk,rfl⟩:=S.nums e he;exact⟨n,tk,rfl⟩
 have hI:=intsAre_map vs isint;have pk:(vs.map numOf).Perm (es.toList.map Ct):=by
  refine(p.map numOf).trans ?_;rw [T3];have:es.toList.map (numOf∘λx=>x.2)=es.toList.map Ct:=T8 λe he=>by
   obtain⟨n,tk,rfl⟩:=S.nums e he;rfl
  rw [this]
 exact⟨_,hI,pk.nodup_iff.mpr S.nd,λn=>pk.mem_iff.trans (S.mem n)⟩
theorem DF {Q:Value->Shared->Prop}(calm:A.handled=none)(S:SetI (yu w) es t ns)(ha:s.heap.get? a=some (Jh es ep t))(few:ns.length<64)
 (k: ∀ (h1 h':Heap) d tk (out:Array Value) (ks:List Int) (c:Nat),(∀b o,s.heap.get? b=some o->h1.get? b=some o)->(∀b o,h1.get? b=some o->h'.get? b=some o)->h'.get? h1.objs.size=some (seqObj "list" out c)->IntsAre out.toList ks->ks.Pairwise (· < ·)->(∀n,n∈ks↔n∈ns)->
  Q (.ref h1.objs.size) {s with heap:=h',drawn:=d,toks:=tk}):wpAny (model prog w) A (call (.builtin "sorted") [.ref a]) Q E s:=by
 refine G0n kind_sorted plain_sorted entry_sorted (args_sorted1 _) (wpAny_bind (P0 (wpAny_bind (wpAny_bind (wpAny_runValue (G0O (DE calm S.tab ha (N5 S.size (by omega))) λres s' listed=> ?_))))));obtain⟨h1,d,tk,acc,c0,rfl,rfl,made,kept,p⟩:=listed;refine wpAny_bind (wpAny_load made (P0 ?_));obtain⟨ks,hI,nd,mem⟩:=Gv S p;have lk:ks.length<=ns.length:=Jb nd λn hn=>(mem n).mp hn
 have len:acc.toList.length=ks.length:=hI.length;have few':acc.toList.length<64:=by omega
 have fresh:(h1.push (seqObj "list" acc.toList.toArray 0)).get? h1.objs.size=some (seqObj "list" acc.toList.toArray 0):=P8 _ rfl;refine wpAny_bind (wpAny_newList (wpAny_bind (B7 (N9 slot_list_sort ⟨_,fresh,rfl⟩ entry_list_sort (list_sort_tree fresh hI few' λout ns' i1 i2 i3=>⟨_,rfl,?_⟩) (args_list_sort _)))) (D6 (D5 few') (by decide)));obtain⟨c,lies⟩:=sortedHeap_at (vs:=acc.toList) (out:=out) fresh;refine P0 ⟨_,rfl,k h1 _ d tk out ns' c kept (λb ob e=> ?_) lies i1 ?_ λn=>(i2.mem_iff).trans (mem n)⟩
 ·have lt:=P2 e;rw [sortedHeap_old (R1 lt) (by rw [size_push'];exact J6 lt)];exact G1 _ e
 ·have nd':ns'.Nodup:=i2.nodup_iff.mpr nd;unfold List.Nodup at nd';exact(i3.and nd').imp λ⟨x,y⟩=>by omega
end
end HT
namespace L2
open PySem PySem.Spec PyProof.Rows PySem.SeqAt
variable {X:Cx}
theorem Inv.drew {pins:List (Addr×Obj)}{σ:St}{H:Hp}{s:Shared}(I:Inv X pins σ H s)(d:Drawn):Inv X pins σ H {s with drawn:=d}:=⟨I.ok,I.os,I.bare,I.base,I.loc,I.cell,I.free,I.freeC,I.pin,I.hok,I.len⟩
def SetOfI (w:World)(o:Obj)(ns:List Int):Prop:= ∃es ep t,o=HT.Jh es ep t/\HT.SetI (HT.yu w) es t ns
theorem MX (hc:X.calm=true):CallR X (.type "set") (λxs H Q=> ∃ (a:Addr) (ns:List Int),xs= [.ref a]/\(SqL X.K H a (ns.map V.int)\/SqT X.K H a (ns.map V.int))/\ns.length<64/\ ∀ (p:Addr) (o:Obj),H p=none->SetOfI X.w o ns.reverse->Q (.ref p) (upd H p (.frz o (.own 0)))):=by
 intro pins s σ H xs us Q I r h;obtain⟨a,ns,rfl,hS,few,q⟩:=h;obtain⟨u,rfl,ru⟩:=Wv r;cases ru;have fin: ∀h' tk es ep t,h'.get? s.heap.objs.size=some (HT.Jh es ep t)->HT.SetI (HT.yu X.w) es t ns.reverse->(∀b o,s.heap.get? b=some o->h'.get? b=some o)->EP X pins σ Q (.ref s.heap.objs.size) {s with heap:=h',toks:=tk}:=λh' tk es ep t e S kept=>
  ⟨.ref _,_,I.laid (t':=tk) (o:= .frz (HT.Jh es ep t) (.own 0)) kept (G9 _) ⟨e,⟨_,e⟩⟩,rfl,q _ _ (I.hok.fresh (G9 _)) ⟨es,ep,t,rfl,S⟩⟩
 rcases hS with hS|hS
 ·obtain⟨its,rv,pl,hz⟩:=I.list hS;have hi:=Wk rv;obtain⟨o,e1,e2,c,e3⟩:=pl.isList;exact HT.Uo (I.ok.hd hc) (.inl rfl) ⟨o,e1,e2,c,e3⟩ hi (by omega) fin
 ·obtain⟨its,rv,pl,hz⟩:=I.tuple hS;have hi:=Wk rv;obtain⟨o,e1,e2,c,e3⟩:=pl;exact HT.Uo (I.ok.hd hc) (.inr rfl) ⟨o,e1,e2,c,e3⟩ hi (by omega) fin
theorem Wl (hc:X.calm=true):CallR X (.builtin "sorted") (λxs H Q=> ∃ (p:Addr) (o:Obj) (ns:List Int),xs= [.ref p]/\H p=some (.frz o (.own 0))/\SetOfI X.w o ns/\ns.length<64/\ ∀ (q:Addr) (ks:List Int),H q=none->ks.Pairwise (· < ·)->(∀n,n∈ks↔n∈ns)->Q (.ref q) (upd H q (.lst (ks.map V.int)))):=by
 intro pins s σ H xs us Q I r h;obtain⟨p,o,ns,rfl,hp,⟨es,ep,t,rfl,S⟩,few,q⟩:=h;obtain⟨u,rfl,ru⟩:=Wv r;cases ru;refine HT.DF (I.ok.hd hc) S (I.hok p _ hp).1 few λh1 h' d tk out ks c k1 k2 lies a1 a2 a3=> ?_
 have I1:=(I.kept (t':=s.toks) k1).drew d;have lk:ks.length<=ns.length:=HT.Jb (a2.imp λz=>by omega) λn hn=>(a3 n).mp hn
 refine⟨.ref _,_,I1.laid (t':=tk) (o:= .lst (ks.map V.int)) k2 (G9 _) ⟨?_,out.toList,c,XB a1,lies⟩,rfl,q _ ks (I1.hok.fresh (G9 _)) a2 a3⟩;rw [G2];exact D6 lk (D6 (D5 few) (by decide))
def dSS (ta:TAD):TED:=λσ h Q=>ta σ h λds h1=> ∃ns:List Int,(ds= [.tup (ns.map D.int)]\/ ∃a,ds= [.lst a]/\h1 a=some (ns.map D.int))/\ns.length<64/\ ∀ (p:Addr) (ks:List Int),h1 p=none->ks.Pairwise (· < ·)->(∀n,n∈ks↔n∈ns)->Q (.lst p) (zN h1 p (ks.map D.int))
theorem jss {a : Expr} {ta : TAD} {p p2 pos pos2 : Pos} (hc : X.calm = true) (hg : Gl X "sorted") (hm : X.mg "sorted" = none) (hg2 : Gl X "set") (hm2 : X.mg "set" = none) (ha : JA X [a] ta) (hs : starEach [a] X.env = [(false, eval a X.env)] := by rfl)
    (h1 : starEach [.Call (.Name "set" p2) [a] [] pos2] X.env = (false, eval (.Call (.Name "set" p2) [a] [] pos2) X.env) :: starEach [] X.env := by rfl) (h2 : (backTo pos (starEach [] X.env)).any (·.1) = false := by rfl) (h3 : (backTo pos2 (starEach [] X.env)).any (·.1) = false := by rfl) :
    JE X (.Call (.Name "sorted" p) [.Call (.Name "set" p2) [a] [] pos2] [] pos) (dSS ta) :=
  ⟨(WD (Wl hc) hg hm (by decide +kernel) (vo (WL (MX hc) hg2 hm2 (by decide +kernel) ha.to (by decide) (by decide) hs h3) pa_nil h1) (by decide) (by decide) h1 h2).imp
    fun σ H Q ⟨σd, h, Qd, rs, rh, t, post⟩ => LA.bind rs rh t fun ds vs h1 H1 k1 rs1 rh1 r1 ⟨ns, hd, few, q⟩ => by
      have fin : ∀ c o, H1 c = none → SetOfI X.w o ns.reverse → ∃ (p : Addr) (o' : Obj) (ms : List Int), [V.ref c] = [.ref p] ∧ upd H1 c (.frz o (.own 0)) p = some (.frz o' (.own 0)) ∧ SetOfI X.w o' ms ∧ ms.length < 64 ∧ ∀ (l : Addr) (ks : List Int), upd H1 c (.frz o (.own 0)) l = none → ks.Pairwise (· < ·) → (∀ n, n ∈ ks ↔ n ∈ ms) → Q (.ref l) (upd (upd H1 c (.frz o (.own 0))) l (.lst (ks.map V.int))) := fun c o hcn S =>
        ⟨c, o, ns.reverse, rfl, jz, S, by simpa using few, fun l ks hl a b => by
          have rh2 := rh1.new (o := .frz o (.own 0)) hcn
          exact post (.lst l) (.ref l) _ _ (k1.trans ((Kept.new hcn).trans (.new hl))) (rh2.newL hl (wU ks)) ⟨rfl, _, jz⟩ (q l ks (rh2.free hl) a fun n => by rw [b n, C8])⟩
      rcases hd with e | ⟨a, e, ha⟩
      · subst e
        obtain ⟨v, e, r2⟩ := jH r1
        obtain ⟨a, ws, e1, hH, r3⟩ := (show ∃ a vs, v = .ref a ∧ H1 a = some (.tup vs) ∧ RelDs X.K H1 (ns.map D.int) vs from r2)
        rw [jT r3] at hH
        subst e e1
        exact ⟨a, ns, rfl, .inr (SqT.of hH), few, fin⟩
      · subst e
        obtain ⟨v, e, r2⟩ := jH r1
        obtain ⟨ws, hH, r3⟩ := rh1 a _ ha
        have e1 : v = .ref a := r2.1
        rw [jT r3] at hH
        subst e e1
        exact ⟨a, ns, rfl, .inl (SqL.of hH), few, fin⟩⟩
end L2
namespace L2
inductive Made (L:List Nat):Nat->Prop
 |z:Made L 0
 |s {n l:Nat}:Made L n->l∈L->Made L (n+l)
variable {L:List Nat}
theorem Made.mono {M:List Nat}(sub: ∀l∈L,l∈M){n:Nat}(h:Made L n):Made M n:=by
 induction h with
 |z=>exact .z
 |s _ hl ih=>exact .s ih (sub _ hl)
theorem Made.times {n l:Nat}(h:Made L n)(hl:l∈L): ∀k:Nat,Made L (n+k*l)
 |0=>by rw [G1q];exact h
 |k+1=>by rw [U9,<-V8];exact .s (h.times hl k) hl
open Classical in
noncomputable def mkB (L:List Nat)(n:Nat):Bool:=decide (Made L n)
theorem mkB_true {n:Nat}:mkB L n=true↔Made L n:=by unfold mkB;simp
theorem Cy (L:List Nat):mkB L 0=true:=mkB_true.mpr .z
theorem OC (n:Nat):mkB [] n=decide ((n:Int)=0):=by
 rw [B1,mkB_true,M9];constructor
 ·intro h;cases h with
  |z=>rfl
  |s _ h=>cases h
 ·intro h;rw [show n=0 by omega];exact .z
theorem Cz {n:Nat}(n1:1<=n):mkB L n=L.any λl=>decide ((l:Int)<=(n:Int))&&mkB L (n-l):=by
 rw [B1,mkB_true,List.any_eq_true];constructor
 ·intro h;cases h with
  |z=>omega
  | @s m l h hl=>exact⟨l,hl,by rw [P3 (by omega),K2,mkB_true,Nat.add_sub_cancel];exact h⟩
 ·rintro ⟨l,hl,z⟩;rw [R8,M9,mkB_true] at z;have:=Made.s z.2 hl;rw [Q1 (by omega)] at this;exact this
def Bits (L:List Nat)(R:Nat):Prop:= ∀n,R.testBit n=true->Made L n
variable {R:Nat}
theorem Bits.shift {l:Nat}(b:Bits L R)(hl:l∈L)(k:Nat):Bits L (R ||| (R <<< (k*l))):=λn h=>by
 rw [Nat.testBit_or,V7] at h;rcases h with h|h
 ·exact b n h
 ·rw [Nat.testBit_shiftLeft,R8,M9] at h;have:=(b _ h.2).times hl k;rw [Q1 h.1] at this;exact this
def CA (l k R:Nat):Nat:=R ||| (R <<< (k*l))
def grow (l R:Nat):Nat:=CA l 8 (CA l 4 (CA l 2 (CA l 1 R)))
theorem Bits.grow {l:Nat}(b:Bits L R):Bits (L++ [l]) (grow l R):=by
 have hl:l∈L++ [l]:=D0.mpr (.inr (G3.mpr rfl));have b0:Bits (L++ [l]) R:=λn h=>(b n h).mono λx hx=>D0.mpr (.inl hx)
 exact(((b0.shift hl 1).shift hl 2).shift hl 4).shift hl 8
def Gw:Nat->Nat->Nat->Nat->Nat->Nat->Bool
 |0,_,f,last,g,R=> !(g==1)||((R >>> (f*last+1))%2^f==2^f-1)
 |k+1,lo,f,last,g,R=>(!(g==1)||((R >>> (f*last+1))%2^f==2^f-1))&&(List.range (13-lo)).all λi=>Gw k (lo+i+1) f (lo+i) (Nat.gcd g (lo+i)) (grow (lo+i) R)
theorem CB:((List.range 12).all λi=>Gw 5 (i+2) (i+1) (i+1) (i+1) (grow (i+1) 1))=true:=by decide +kernel
variable {f:Nat}
theorem MY {a:Nat}(h:(R >>> a)%2^f=2^f-1){t:Nat}(ht:t<f):R.testBit (a+t)=true:=by
 have e:((R >>> a)%2^f).testBit t=true:=by rw [h,Nat.testBit_two_pow_sub_one];exact P3 ht
 rw [Nat.testBit_mod_two_pow,R8,Nat.testBit_shiftRight] at e;exact e.2
theorem MZ {k lo last:Nat}(b:Bits L R)(h:Gw k lo f last 1 R=true){t:Nat}(ht:t<f):Made L (f*last+1+t):=by
 have e:(R >>> (f*last+1))%2^f=2^f-1:=by
  cases k with
  |zero=>simpa [Gw] using h
  |succ k=>simp only [Gw,R8] at h;simpa using h.1
 exact b _ (MY e ht)
theorem XW: ∀ (rest:List Nat) {k lo f last g R:Nat} {L:List Nat},Bits L R->Gw k lo f last g R=true->rest.Pairwise (· < ·)->(∀x∈rest,lo<=x/\x<=12)->rest.length<=k->rest.foldl Nat.gcd g=1-> ∀t,t<f->Made (L++rest) (f*(rest.getLast?.getD last)+1+t)
 | [],k,lo,f,last,g,R,L,b,h,_,_,_,hg,t,ht=>by
  have:g=1:=hg;subst this;rw [B9];exact MZ b h ht
 |x::rest,0,lo,f,last,g,R,L,b,h,_,_,hk,_,t,ht=>by simp at hk
 |x::rest,k+1,lo,f,last,g,R,L,b,h,rise,hx,hk,hg,t,ht=>by
  simp only [Gw,R8,S5,R0] at h;have x1:=hx x (P9 ..);have h2:=h.2 (x-lo) (by omega);rw [show lo+(x-lo)=x by omega] at h2;have r:=H0.mp rise;have:=XW rest (L:=L++ [x]) b.grow h2 r.2 (λy hy=>⟨r.1 y hy,(hx y (D2 _ hy)).2⟩) (by simpa using hk) hg t ht;rw [G8] at this;have e:(x::rest).getLast?.getD last=rest.getLast?.getD x:=by
   cases rest with
   |nil=>rfl
   |cons y r=>rw [G0A,G0k];rfl
  rw [e];exact this
structure Lens (L:List Nat):Prop where
 rise:L.Pairwise (· < ·)
 lo: ∀l∈L,1<=l
 hi: ∀l∈L,l<=12
 some:1<=L.length
 few:L.length<=6
theorem Lens.from (h:Lens (f::L))(g:(f::L).foldl Nat.gcd 0=1){n:Nat}(hn:f*((f::L).getLast?.getD 0)<n):Made (f::L) n:=by
 have f1:=h.lo f (P9 ..);have f2:=h.hi f (P9 ..);have r:=H0.mp h.rise;have a:=S5.mp CB (f-1) (R0.mpr (by omega));rw [show f-1+2=f+1 by omega,show f-1+1=f by omega] at a;have b0:Bits [] 1:=λn h=>by
  rw [Nat.testBit_one_eq_true_iff_self_eq_zero] at h;rw [h];exact .z
 have b:Bits ([]++ [f]) (grow f 1):=b0.grow;have e:(f::L).getLast?.getD 0=L.getLast?.getD f:=by
  cases L with
  |nil=>rfl
  |cons y r=>rw [G0A,G0k];rfl
 rw [e] at hn;have hg:L.foldl Nat.gcd f=1:=by
  have:(f::L).foldl Nat.gcd 0=L.foldl Nat.gcd (Nat.gcd 0 f):=rfl;rw [Nat.gcd_zero_left] at this;rw [<-this];exact g
 have few:=h.few;have w:=XW L b a r.2 (λx hx=>⟨r.1 x hx,h.hi x (D2 _ hx)⟩) (by simp at few;exact few) hg;have m:=w ((n-(f*L.getLast?.getD f+1))%f) (E2 _ f1);have m2:=m.times (L:= []++ [f]++L) (l:=f) (by simp) ((n-(f*L.getLast?.getD f+1)) / f);have q:=G0U (n-(f*L.getLast?.getD f+1)) f;rw [G1o] at q;rw [show f*L.getLast?.getD f+1+(n-(f*L.getLast?.getD f+1))%f+(n-(f*L.getLast?.getD f+1)) / f*f=n by omega] at m2;exact m2
theorem Ur: ∀ (L:List Nat) (g d:Nat),d∣L.foldl Nat.gcd g↔d∣g/\ ∀l∈L,d∣l
 | [],g,d=>by simp
 |x::L,g,d=>by
  show d∣L.foldl Nat.gcd (Nat.gcd g x)↔_;rw [Ur L,Nat.dvd_gcd_iff];simp only [D3,forall_eq_or_imp];exact⟨λ⟨⟨a,b⟩,c⟩=>⟨a,b,c⟩,λ⟨a,b,c⟩=>⟨⟨a,b⟩,c⟩⟩
def Tq (S:List Nat)(m:Int):Prop:=(m= -1\/ ∃k:Nat,m=(k:Int)/\mkB S k=false)/\ -1<=m/\ ∀k:Nat,mkB S k=false->(k:Int)<=m
variable {S:List Nat}
theorem OD {N:Nat}(hi: ∀n,N<=n->Made S n){m:Int}(m1:m∈(-1:Int)::((List.range N).filter λk=> !mkB S k).map λ(k:Nat)=>(k:Int))(m2: ∀x∈(-1:Int)::((List.range N).filter λk=> !mkB S k).map λ(k:Nat)=>(k:Int),x<=m):Tq S m:=by
 refine⟨?_,m2 _ (P9 ..),λk hk=> ?_⟩
 ·rcases D3.mp m1 with e|z
  ·exact .inl e
  ·obtain⟨k,hk,rfl⟩:=R5.mp z;exact .inr ⟨k,rfl,by have:=(N4.mp hk).2;simpa using this⟩
 ·refine m2 _ (D2 _ (R5.mpr ⟨k,N4.mpr ⟨R0.mpr ?_,by rw [hk];rfl⟩,rfl⟩))
  by_cases z:k<N
  ·exact z
  ·have:=mkB_true.mpr (hi k (by omega));rw [hk] at this;cases this
theorem OE (h:1<=S.length):atI (S.map λ(k:Nat)=>D.int (k:Int)) (-1)=some (.int ((S.getLast?.getD 0:Nat):Int)):=by
 refine Ug (by rw [G2];exact h) ?_;rw [<-O4,List.getLast?_map];cases e:S.getLast? with
 |none=>rw [List.getLast?_eq_none_iff] at e;subst e;simp at h
 |some x=>rfl
theorem CC:atI ((f::S).map λ(k:Nat)=>D.int (k:Int)) 0=some (.int (f:Int)):=zm (j:=0) rfl
theorem Lens.last (h:Lens S):S.getLast?.getD 0<=12:=by
 cases e:S.getLast? with
 |none=>exact T4 _
 |some x=>exact h.hi x (G08 e)
theorem SC (L:Nat)(f:Nat->D):YQ ((List.range L).map f)=(List.range L).map λ(m:Nat)=>D.tup [.int (m:Int),f m]:=by
 refine A6 λi=> ?_
 unfold YQ;rw [P1,G07,P1,P1]
 by_cases z:i<L
 ·rw [C5 z];simp
 ·rw [N2 (by rw [T0];omega)];rfl
theorem OF (p:Nat->Bool)(N:Nat): [D.int (-1)]++((List.range N).filter p).map (λ(k:Nat)=>D.int (k:Int))=((-1:Int)::((List.range N).filter p).map λ(k:Nat)=>(k:Int)).map D.int:=by
 rw [T5,T3];rfl
end L2
namespace HT
open PySem PyProof.Rows
section
variable {prog:Program}{w:World}{A:Around}{E:Value->Shared->Prop}{σ α β:Type}{J:Shared->Prop}
def Tm (prog:Program)(w:World)(A:Around)(E:Value->Shared->Prop)(J:Shared->Prop){σ α:Type}(m:StateT σ Sem α)(Q:α->σ->Prop)(st:σ):Prop:=
 ∀s,J s->wpAny (model prog w) A (m.run st) (λr s'=>Q r.1 r.2/\J s') E s
theorem Tm.pure {a:α}{Q:α->σ->Prop}{st:σ}(h:Q a st):Tm prog w A E J (Pure.pure a:StateT σ Sem α) Q st:=λs j=>by
 rw [StateT.run_pure];exact P0 ⟨h,j⟩
theorem Tm.bind {m:StateT σ Sem α}{f:α->StateT σ Sem β}{Q:β->σ->Prop}{st:σ}(h:Tm prog w A E J m (λa st'=>Tm prog w A E J (f a) Q st') st):Tm prog w A E J (m >>= f) Q st:=λs j=>by
 rw [StateT.run_bind];exact wpAny_bind (S0 (h s j) (λr s' x=>x.1 s' x.2) λ_ _ e=>e)
theorem Tm.get {Q:σ->σ->Prop}{st:σ}(h:Q st st):Tm prog w A E J (MonadState.get:StateT σ Sem σ) Q st:=λs j=>by
 show wpAny _ _ ((StateT.get:StateT σ Sem σ).run st) _ _ _;exact P0 ⟨h,j⟩
theorem Tm.mono {m:StateT σ Sem α}{Q Q':α->σ->Prop}{st:σ}(h:Tm prog w A E J m Q st)(q: ∀a st',Q a st'->Q' a st'):Tm prog w A E J m Q' st:=λs j=>
 S0 (h s j) (λr s' x=>⟨q _ _ x.1,x.2⟩) λ_ _ e=>e
theorem Tm.range' {f:Nat->β->StateT σ Sem (ForInStep β)}(I:Nat->β->σ->Prop){Q:β->σ->Prop}{b:Nat}(step: ∀i c st,i<b->I i c st->Tm prog w A E J (f i c) (λr st'=>match r with| .done c'=>Q c' st'| .yield c'=>I (i+1) c' st') st)(fin: ∀c st,I b c st->Q c st):
 ∀ (k i:Nat) (c:β) (st:σ),i+k=b->I i c st->Tm prog w A E J (forIn (List.range' i k) c f) Q st
 |0,i,c,st,e,h=>by
  rw [List.range'_zero,List.forIn_nil];exact .pure (fin c st (by rw [<-e];exact h))
 |k+1,i,c,st,e,h=>by
  rw [List.range'_succ,Y9];refine .bind ((step i c st (by omega) h).mono λr st' x=> ?_);cases r with
  |done c'=>exact .pure x
  |yield c'=>exact Tm.range' I step fin k (i+1) c' st' (by omega) x
theorem Tm.range {f:Nat->β->StateT σ Sem (ForInStep β)}(I:Nat->β->σ->Prop){Q:β->σ->Prop}{a b:Nat}{c:β}{st:σ}(hab:a<=b)(h:I a c st)(step: ∀i c st,i<b->I i c st->Tm prog w A E J (f i c) (λr st'=>match r with| .done c'=>Q c' st'| .yield c'=>I (i+1) c' st') st)(fin: ∀c st,I b c st->Q c st):
 Tm prog w A E J (forIn [a:b] c f) Q st:=λs j=>by
 rw [Std.Legacy.Range.forIn_eq_forIn_range'];have e:([a:b]:Std.Legacy.Range).size=b-a:=by simp [Std.Legacy.Range.size]
 rw [e];exact Tm.range' I step fin (b-a) a c st (by omega) h s j
end
section
variable {prog:Program}{w:World}{A:Around}{E:Value->Shared->Prop}{J:Shared->Prop}{κ:SortKind}{U:Keyed->Prop}{R:Keyed->Keyed->Bool}
def Us (prog:Program)(w:World)(A:Around)(J:Shared->Prop)(κ:SortKind)(U:Keyed->Prop)(R:Keyed->Keyed->Bool):Prop:=
 ∀x y,U x->U y-> ∀s,J s->wpAny (model prog w) A (keyLt' κ x.1 y.1) (λb s'=>b=R x y/\J s') (λ_ _=>False) s
theorem Tm.lt {x y:Keyed}{st:SortSt}{Q:Option Bool->SortSt->Prop}(a:Us prog w A J κ U R)(k:kindOf st=κ)(hx:U x)(hy:U y)(q:Q (some (R x y)) st):Tm prog w A E J (lt' x y) Q st:=by
 rw [lt'_eq];refine .bind (.get ?_);rw [k];intro s j;rw [StateT.run_bind];refine wpAny_bind ?_;show wpAny _ _ ((StateT.lift _:StateT SortSt Sem _).run st) _ _ _;rw [StateT.run_lift];refine wpAny_bind (wpAny_attempt (S0 (a x y hx hy s j) (λb s' x=> ?_) λ_ _ e=>e.elim));obtain⟨rfl,j'⟩:=x;exact P0 (Tm.pure (prog:=prog) (w:=w) (A:=A) (E:=E) (J:=J) q s' j')
theorem Tm.elem {arr:Array Keyed}{i:Nat}{x:Keyed}{st:SortSt}{Q:Keyed->SortSt->Prop}(e:arr[i]? =some x)(q:Q x st):Tm prog w A E J (elem' arr i) Q st:=by
 rw [elem'_eq,e];exact .pure q
theorem SE {n lo hi:Nat}{g:Nat->Bool}{st:SortSt}{f:Nat->Option (Option Nat)×Nat×Nat->StateT SortSt Sem (ForInStep (Option (Option Nat)×Nat×Nat))}(anti: ∀i j,i<=j->j<n->g j=true->g i=true)
 (h1:lo<=hi)(h2:hi<=n)(a1: ∀i,i<lo->g i=true)(a2: ∀i,hi<=i->i<n->g i=false)
 (stop: ∀i l,Tm prog w A E J (f i (none,l,l)) (λr st'=>st'=st/\r= .done (none,l,l)) st)
 (step: ∀i l u,l<u->u<=n->Tm prog w A E J (f i (none,l,u)) (λr st'=>st'=st/\r=if g (l+(u-l) / 2)=true then .yield (none,l+(u-l) / 2+1,u) else .yield (none,l,l+(u-l) / 2)) st):
 Tm prog w A E J (forIn [0:n] (none,lo,hi) f) (λc st'=>st'=st/\c.1=none/\c.2.2<=n/\(∀i,i<c.2.2->g i=true)/\ ∀i,c.2.2<=i->i<n->g i=false) st:=by
 have no: ∀i j,i<=j->j<n->g i=false->g j=false:=λi j hij hj z=>by
  cases hb:g j with
  |false=>rfl
  |true=>rw [anti i j hij hj hb] at z;cases z
 refine Tm.range (λi c st'=>st'=st/\c.1=none/\c.2.1<=c.2.2/\c.2.2<=n/\(∀i,i<c.2.1->g i=true)/\(∀i,c.2.2<=i->i<n->g i=false)/\c.2.2-c.2.1+i<=n) (Nat.zero_le _) ⟨rfl,rfl,h1,h2,a1,a2,by dsimp only;omega⟩ ?_ ?_
 ·rintro i ⟨r,l,u⟩ _ hi ⟨rfl,hr,b1,b2,b3,b4,b5⟩;dsimp only at hr b1 b2 b3 b4 b5;subst hr
  by_cases z:l=u
  ·subst z;refine(stop i l).mono ?_;rintro _ _ ⟨rfl,rfl⟩;exact⟨rfl,rfl,b2,b3,b4⟩
  ·refine(step i l u (by omega) b2).mono ?_;rintro _ _ ⟨rfl,rfl⟩;cases hg:g (l+(u-l) / 2) with
   |true=>
    rw [if_pos rfl];exact⟨rfl,rfl,by dsimp only;omega,b2,λj hj=>anti j _ (by dsimp only at hj;omega) (by omega) hg,b4,by dsimp only;omega⟩
   |false=>
    rw [if_neg (by decide)];exact⟨rfl,rfl,by dsimp only;omega,by dsimp only;omega,b3,λj hj hn=>no _ j hj hn hg,by dsimp only;omega⟩
 ·rintro ⟨r,l,u⟩ _ ⟨rfl,hr,b1,b2,b3,b4,b5⟩;dsimp only at hr b1 b2 b3 b4 b5 ⊢;exact⟨rfl,hr,b2,λj hj=>b3 j (by omega),b4⟩
def gal:Bool->Keyed->Array Keyed->Nat->Nat->Nat->StateT SortSt Sem (Option Nat):=sortPriv% PySem.Builtin.gallop
def byd (R:Keyed->Keyed->Bool)(left:Bool)(key:Keyed)(arr:Array Keyed)(base i:Nat):Bool:=
 match arr[base+i]? with
 |some x=>if left=true then R x key else !R key x
 |none=>false
theorem Na {left:Bool}{key:Keyed}{arr:Array Keyed}{base n hint:Nat}{st:SortSt}{Q:Option Nat->SortSt->Prop}(a:Us prog w A J κ U R)(k:kindOf st=κ)(uk:U key)(ua: ∀i,i<n-> ∃x,arr[base+i]? =some x/\U x)
 (anti: ∀i j,i<=j->j<n->byd R left key arr base j=true->byd R left key arr base i=true)(hh:hint<n)
 (q: ∀m,m<=n->(∀i,i<m->byd R left key arr base i=true)->(∀i,m<=i->i<n->byd R left key arr base i=false)->Q (some m) st):Tm prog w A E J (gal left key arr base n hint) Q st:=by
 have ask: ∀i (Q':Option Bool->SortSt->Prop),i<n->Q' (some (byd R left key arr base i)) st->Tm prog w A E J (do let x <-elem' arr (base+i);if left=true then lt' x key else do let b <-lt' key x;Pure.pure (b.map λz=> !z)) Q' st:=λi Q' hi q'=>by
  obtain⟨x,ex,ux⟩:=ua i hi;refine .bind (.elem ex ?_);unfold byd at q';rw [ex] at q';cases left with
  |true=>exact .lt a k ux uk q'
  |false=>exact .bind (.lt a k uk ux (.pure q'))
 have no: ∀i j,i<=j->j<n->byd R left key arr base i=false->byd R left key arr base j=false:=λi j hij hj z=>by
  cases hb:byd R left key arr base j with
  |false=>rfl
  |true=>rw [anti i j hij hj hb] at z;cases z
 unfold gal;refine .bind (ask hint _ hh ?_);dsimp only;cases hb:byd R left key arr base hint with
 |true=>
  rw [if_pos rfl];refine .bind (Tm.mono (Tm.range (λi c st'=>st'=st/\c.1=none/\c.2.1<c.2.2/\hint+c.2.1<n/\byd R left key arr base (hint+c.2.1)=true/\i+1<=c.2.2)
   (Q:=λc st'=>st'=st/\c.1=none/\c.2.1<c.2.2/\hint+c.2.1<n/\byd R left key arr base (hint+c.2.1)=true/\(n-hint<=c.2.2\/byd R left key arr base (hint+c.2.2)=false)) (T4 _) ⟨rfl,rfl,by decide,by omega,by simpa using hb,by decide⟩ ?_ ?_) ?_)
  ·rintro i ⟨r,lo,of⟩ _ hi ⟨rfl,hr,h1,h2,h3,h4⟩;dsimp only at hr h1 h2 h3 h4 ⊢;subst hr
   by_cases z:of>=n-hint
   ·rw [if_pos z];exact .pure ⟨rfl,rfl,h1,h2,h3,.inl z⟩
   ·rw [if_neg z];refine .bind (ask (hint+of) _ (by omega) ?_);dsimp only;cases hc:byd R left key arr base (hint+of) with
    |true=>exact .pure ⟨rfl,rfl,by dsimp only;omega,by dsimp only;omega,hc,by dsimp only;omega⟩
    |false=>exact .pure ⟨rfl,rfl,h1,h2,h3,.inr hc⟩
  ·rintro ⟨r,lo,of⟩ _ ⟨rfl,hr,h1,h2,h3,h4⟩;exact⟨rfl,hr,h1,h2,h3,.inl (by dsimp only at h4 ⊢;omega)⟩
  ·rintro ⟨r,lo,of⟩ _ ⟨rfl,hr,h1,h2,h3,h4⟩;dsimp only at hr h1 h2 h3 h4 ⊢;subst hr;dsimp only;refine .bind (Tm.mono (SE (g:=byd R left key arr base) anti (by omega) (by omega) (λi hi=>anti i _ (by omega) h2 h3) (λi hi hn=> ?_) (λi l=> ?_) (λi l u hl hu=> ?_)) ?_)
   ·rcases h4 with z|z
    ·omega
    ·exact no (hint+of) i (by omega) hn z
   ·rw [if_pos (G9 l)];exact .pure ⟨rfl,rfl⟩
   ·rw [if_neg (show ¬l>=u by omega)];refine .bind (ask (l+(u-l) / 2) _ (by omega) ?_);dsimp only;cases byd R left key arr base (l+(u-l) / 2)<;>exact .pure ⟨rfl,rfl⟩
   ·rintro ⟨r,l,u⟩ _ ⟨rfl,hr,b2,b3,b4⟩;dsimp only at hr b2 b3 b4 ⊢;subst hr;exact .pure (q u b2 b3 b4)
 |false=>
  rw [if_neg (by decide)];refine .bind (Tm.mono (Tm.range (λi c st'=>st'=st/\c.1=none/\c.2.1<c.2.2/\c.2.1<=hint/\byd R left key arr base (hint-c.2.1)=false/\i+1<=c.2.2)
   (Q:=λc st'=>st'=st/\c.1=none/\c.2.1<c.2.2/\c.2.1<=hint/\byd R left key arr base (hint-c.2.1)=false/\(hint+1<=c.2.2\/byd R left key arr base (hint-c.2.2)=true)) (Nat.zero_le _) ⟨rfl,rfl,by decide,by dsimp only;omega,by simpa using hb,by decide⟩ ?_ ?_) ?_)
  ·rintro i ⟨r,lo,of⟩ _ hi ⟨rfl,hr,h1,h2,h3,h4⟩;dsimp only at hr h1 h2 h3 h4 ⊢;subst hr
   by_cases z:of>=hint+1
   ·rw [if_pos z];exact .pure ⟨rfl,rfl,h1,h2,h3,.inl z⟩
   ·rw [if_neg z];refine .bind (ask (hint-of) _ (by omega) ?_);dsimp only;cases hc:byd R left key arr base (hint-of) with
    |false=>exact .pure ⟨rfl,rfl,by dsimp only;omega,by dsimp only;omega,hc,by dsimp only;omega⟩
    |true=>exact .pure ⟨rfl,rfl,h1,h2,h3,.inr hc⟩
  ·rintro ⟨r,lo,of⟩ _ ⟨rfl,hr,h1,h2,h3,h4⟩;exact⟨rfl,hr,h1,h2,h3,.inl (by dsimp only at h4 ⊢;omega)⟩
  ·rintro ⟨r,lo,of⟩ _ ⟨rfl,hr,h1,h2,h3,h4⟩;dsimp only at hr h1 h2 h3 h4 ⊢;subst hr;dsimp only;refine .bind (Tm.mono (SE (g:=byd R left key arr base) anti (by omega) (by omega) (λi hi=> ?_) (λi hi hn=>no _ i hi hn h3) (λi l=> ?_) (λi l u hl hu=> ?_)) ?_)
   ·rcases h4 with z|z
    ·omega
    ·exact anti i (hint-of) (by omega) (by omega) z
   ·rw [if_pos (G9 l)];exact .pure ⟨rfl,rfl⟩
   ·rw [if_neg (show ¬l>=u by omega)];refine .bind (ask (l+(u-l) / 2) _ (by omega) ?_);dsimp only;cases byd R left key arr base (l+(u-l) / 2)<;>exact .pure ⟨rfl,rfl⟩
   ·rintro ⟨r,l,u⟩ _ ⟨rfl,hr,b2,b3,b4⟩;dsimp only at hr b2 b3 b4 ⊢;subst hr;exact .pure (q u b2 b3 b4)
end
section
variable {κ:Type}{U:κ->Prop}{R:κ->κ->Bool}{al bl:List κ}
structure Ordd (U:κ->Prop)(R:κ->κ->Bool):Prop where
 asym: ∀x y,U x->U y->R x y=true->R y x=false
 neg: ∀x y z,U x->U y->U z->R x z=true->R x y=true\/R y z=true
theorem Ordd.refl (o:Ordd U R){x:κ}(u:U x):R x x=false:=by
 cases h:R x x with
 |false=>rfl
 |true=>have:=o.asym x x u u h;rw [h] at this;exact this
theorem Ordd.trans (o:Ordd U R){x y z:κ}(ux:U x)(uy:U y)(uz:U z)(a:R y x=false)(b:R z y=false):R z x=false:=by
 cases h:R z x with
 |false=>rfl
 |true=>
  rcases o.neg z y x uz uy ux h with z|z
  ·rw [b] at z;cases z
  ·rw [a] at z;cases z
abbrev Srt (R:κ->κ->Bool)(l:List κ):Prop:=l.Pairwise λx y=>R y x=false
structure MI (R:κ->κ->Bool)(al bl:List κ)(ia ib:Nat)(out:List κ):Prop where
 perm:out.Perm (al.take ia++bl.take ib)
 srt:Srt R out
 ra: ∀x∈out,∀y∈al.drop ia,R y x=false
 rb: ∀x∈out,∀y∈bl.drop ib,R y x=false
theorem zw {l:List κ}{i:Nat}{y:κ}(h:l[i]? =some y):l.drop i=y::l.drop (i+1):=by
 obtain⟨hi,e⟩:=G6.mp h;rw [G0o hi,e]
theorem Yi {l:List κ}{i:Nat}{y:κ}(h:l[i]? =some y):l.take (i+1)=l.take i++ [y]:=by
 rw [N3,h];rfl
theorem MI.start (al bl:List κ):MI R al bl 0 0 []:=⟨.refl _,.nil,λx hx=>(M0 hx).elim,λx hx=>(M0 hx).elim⟩
variable {ia ib:Nat}
theorem MI.pushB {out:List κ}{y:κ}(m:MI R al bl ia ib out)(o:Ordd U R)(ua: ∀x∈al,U x)(ub: ∀x∈bl,U x)(sa:Srt R al)(sb:Srt R bl)(hy:bl[ib]? =some y)(lt: ∀z,al[ia]? =some z->R y z=true):MI R al bl ia (ib+1) (out++ [y]):=by
 have dy:=zw hy;have uy:=ub y (G5 hy);have sdb:Srt R (bl.drop ib):=sb.sublist (C9 _ _);rw [dy] at sdb;refine⟨?_,?_,λx hx z hz=> ?_,λx hx z hz=> ?_⟩
 ·rw [Yi hy,<-G8];exact m.perm.append_right _
 ·refine R6.mpr ⟨m.srt,M6 _ _,λx hx z hz=> ?_⟩;rw [G3.mp hz];exact m.rb x hx y (by rw [dy];exact P9 ..)
 ·rcases D0.mp hx with w|w
  ·exact m.ra x w z hz
  ·rw [G3.mp w];cases e:al[ia]? with
   |none=>rw [N6 (G0p.mp e)] at hz;cases hz
   |some a0=>
    have da:=zw e;have ua0:=ua a0 (G5 e);have sda:Srt R (al.drop ia):=sa.sublist (C9 _ _);rw [da] at sda hz;have l0:=o.asym y a0 uy ua0 (lt a0 e);rcases D3.mp hz with v|v
    ·rw [v];exact l0
    ·exact o.trans uy ua0 (ua z (M5 v)) l0 ((H0.mp sda).1 z v)
 ·rcases D0.mp hx with w|w
  ·exact m.rb x w z (by rw [dy];exact D2 _ hz)
  ·rw [G3.mp w];exact(H0.mp sdb).1 z hz
theorem MI.pushA {out:List κ}{y:κ}(m:MI R al bl ia ib out)(o:Ordd U R)(ua: ∀x∈al,U x)(ub: ∀x∈bl,U x)(sa:Srt R al)(sb:Srt R bl)(hy:al[ia]? =some y)(ge: ∀z,bl[ib]? =some z->R z y=false):MI R al bl (ia+1) ib (out++ [y]):=by
 have dy:=zw hy;have uy:=ua y (G5 hy);have sda:Srt R (al.drop ia):=sa.sublist (C9 _ _);rw [dy] at sda;refine⟨?_,?_,λx hx z hz=> ?_,λx hx z hz=> ?_⟩
 ·rw [Yi hy];refine(m.perm.append_right [y]).trans ?_;rw [G8,G8];exact(Q5).append_left _
 ·refine R6.mpr ⟨m.srt,M6 _ _,λx hx z hz=> ?_⟩;rw [G3.mp hz];exact m.ra x hx y (by rw [dy];exact P9 ..)
 ·rcases D0.mp hx with w|w
  ·exact m.ra x w z (by rw [dy];exact D2 _ hz)
  ·rw [G3.mp w];exact(H0.mp sda).1 z hz
 ·rcases D0.mp hx with w|w
  ·exact m.rb x w z hz
  ·rw [G3.mp w];cases e:bl[ib]? with
   |none=>rw [N6 (G0p.mp e)] at hz;cases hz
   |some b0=>
    have db:=zw e;have ub0:=ub b0 (G5 e);have sdb:Srt R (bl.drop ib):=sb.sublist (C9 _ _);rw [db] at sdb hz;have l0:=ge b0 e;rcases D3.mp hz with v|v
    ·rw [v];exact l0
    ·exact o.trans uy ub0 (ub z (M5 v)) l0 ((H0.mp sdb).1 z v)
theorem MI.manyA (o:Ordd U R)(ua: ∀x∈al,U x)(ub: ∀x∈bl,U x)(sa:Srt R al)(sb:Srt R bl): ∀ (k:Nat) {ia:Nat} {out:List κ},MI R al bl ia ib out->ia+k<=al.length->(∀i,i<k-> ∀y,al[ia+i]? =some y-> ∀z,bl[ib]? =some z->R z y=false)->MI R al bl (ia+k) ib (out++(al.drop ia).take k)
 |0,ia,out,m,_,_=>by rw [G1d,B9];exact m
 |k+1,ia,out,m,hk,h=>by
  obtain⟨y,hy⟩: ∃y,al[ia]? =some y:=⟨_,G0 (by omega)⟩;have m1:=m.pushA o ua ub sa sb hy (h 0 (by omega) y hy);have:=MI.manyA o ua ub sa sb k m1 (by omega) (λi hi y hy=>h (i+1) (by omega) y (by rw [show ia+(i+1)=ia+1+i by omega];exact hy));rw [show ia+(k+1)=ia+1+k by omega,zw hy,G1i,List.append_cons];exact this
theorem MI.manyB (o:Ordd U R)(ua: ∀x∈al,U x)(ub: ∀x∈bl,U x)(sa:Srt R al)(sb:Srt R bl): ∀ (k:Nat) {ib:Nat} {out:List κ},MI R al bl ia ib out->ib+k<=bl.length->(∀i,i<k-> ∀y,bl[ib+i]? =some y-> ∀z,al[ia]? =some z->R y z=true)->MI R al bl ia (ib+k) (out++(bl.drop ib).take k)
 |0,ib,out,m,_,_=>by rw [G1d,B9];exact m
 |k+1,ib,out,m,hk,h=>by
  obtain⟨y,hy⟩: ∃y,bl[ib]? =some y:=⟨_,G0 (by omega)⟩;have m1:=m.pushB o ua ub sa sb hy (h 0 (by omega) y hy);have:=MI.manyB o ua ub sa sb k m1 (by omega) (λi hi y hy=>h (i+1) (by omega) y (by rw [show ib+(i+1)=ib+1+i by omega];exact hy));rw [show ib+(k+1)=ib+1+k by omega,zw hy,G1i,List.append_cons];exact this
theorem MI.all {out:List κ}(m:MI R al bl al.length bl.length out):out.Perm (al++bl)/\Srt R out:=by
 have:=m.perm;rw [K5,K5] at this;exact⟨this,m.srt⟩
theorem MI.done {out:List κ}(m:MI R al bl ia ib out)(o:Ordd U R)(ua: ∀x∈al,U x)(ub: ∀x∈bl,U x)(sa:Srt R al)(sb:Srt R bl)(ha:ia<=al.length)(hb:ib<=bl.length)(h:ia=al.length\/ib=bl.length):(out++al.drop ia++bl.drop ib).Perm (al++bl)/\Srt R (out++al.drop ia++bl.drop ib):=by
 have m1:=MI.manyA o ua ub sa sb (al.length-ia) m (by omega) (λi hi y hy z hz=>by
  have:=(G6.mp hz).1;omega)
 rw [show ia+(al.length-ia)=al.length by omega,D7 (by rw [S4];exact G9 _)] at m1;have m2:=MI.manyB o ua ub sa sb (bl.length-ib) m1 (by omega) (λi hi y hy z hz=>by
  have:=(G6.mp hz).1;omega)
 rw [show ib+(bl.length-ib)=bl.length by omega,D7 (l:=bl.drop ib) (by rw [S4];exact G9 _)] at m2;exact m2.all
theorem MI.lastA {out:List κ}(m:MI R al bl ia ib out)(o:Ordd U R)(ua: ∀x∈al,U x)(ub: ∀x∈bl,U x)(sa:Srt R al)(sb:Srt R bl)(ha:ia+1=al.length)(hb:ib<=bl.length)(h: ∀y∈bl,∀z,al[al.length-1]? =some z->R y z=true):(out++bl.drop ib++al.drop ia).Perm (al++bl)/\Srt R (out++bl.drop ib++al.drop ia):=by
 have m2:=MI.manyB o ua ub sa sb (bl.length-ib) m (by omega) (λi hi y hy z hz=>h y (G5 hy) z (by rw [<-ha];exact hz));rw [show ib+(bl.length-ib)=bl.length by omega,D7 (by rw [S4];exact G9 _)] at m2;have m1:=MI.manyA o ua ub sa sb (al.length-ia) m2 (by omega) (λi hi y hy z hz=>by
  have:=(G6.mp hz).1;omega)
 rw [show ia+(al.length-ia)=al.length by omega,D7 (l:=al.drop ia) (by rw [S4];exact G9 _)] at m1;exact m1.all
end
section
variable {prog:Program}{w:World}{A:Around}{E:Value->Shared->Prop}{J:Shared->Prop}{κ:SortKind}{U:Keyed->Prop}{R:Keyed->Keyed->Bool}
theorem Tm.rule {σ:Type}{x:String}{Q:Unit->σ->Prop}{st:σ}(q:Q () st):Tm prog w A E J (liftM (PySem.rule x):StateT σ Sem Unit) Q st:=λs j=>by
 show wpAny _ _ ((StateT.lift _:StateT σ Sem _).run st) _ _ _;rw [StateT.run_lift];exact wpAny_bind (W7 (P0 ⟨q,j⟩))
theorem Tm.modify {σ:Type}{f:σ->σ}{Q:Unit->σ->Prop}{st:σ}(q:Q () (f st)):Tm prog w A E J (_root_.modify f:StateT σ Sem PUnit) Q st:=λs j=>by
 rw [StateT.run_modify];exact P0 ⟨q,j⟩
def mLo:Array Keyed->Array Keyed->StateT SortSt Sem (Array Keyed):=sortPriv% PySem.Builtin.mergeLo
def Gal (st st':SortSt):Prop:=kindOf st'=kindOf st/\arrOf st'=arrOf st/\pendingOf st'=pendingOf st/\failedOf st'=failedOf st
theorem Gal.refl (st:SortSt):Gal st st:=⟨rfl,rfl,rfl,rfl⟩
theorem WH (a:Array Keyed)(i:Nat):(a.extract i).toList=a.toList.drop i:=by
 rw [J1,List.extract_eq_drop_take];exact D7 (by simp)
theorem Pz (a:Array Keyed)(i k:Nat):(a.extract i (i+k)).toList=(a.toList.drop i).take k:=by
 rw [J1,List.extract_eq_drop_take,G0B]
def Ji (R:Keyed->Keyed->Bool)(a b c:Array Keyed):Prop:=c.toList.Perm (a.toList++b.toList)/\Srt R c.toList
structure Two (U:Keyed->Prop)(R:Keyed->Keyed->Bool)(a b:Array Keyed):Prop where
 o:Ordd U R
 ua: ∀x∈a.toList,U x
 ub: ∀x∈b.toList,U x
 sa:Srt R a.toList
 sb:Srt R b.toList
 last: ∀y∈b.toList,∀z,a.toList[a.toList.length-1]? =some z->R y z=true
abbrev MA (R:Keyed->Keyed->Bool)(a b:Array Keyed)(ia ib:Nat)(out:Array Keyed):Prop:=MI R a.toList b.toList ia ib out.toList
section
variable {a b out:Array Keyed}{ia ib:Nat}
theorem MA.done (t:Two U R a b)(m:MA R a b ia ib out)(ha:ia<=a.size)(hb:ib<=b.size)(h:ia=a.size\/ib=b.size):Ji R a b (out++a.extract ia++b.extract ib):=by
 have:=MI.done m t.o t.ua t.ub t.sa t.sb (by simpa using ha) (by simpa using hb) (by simpa using h);unfold Ji;rw [N0,N0,WH,WH];exact this
theorem MA.lastA (t:Two U R a b)(m:MA R a b ia ib out)(ha:ia+1=a.size)(hb:ib<=b.size):Ji R a b (out++b.extract ib++a.extract ia):=by
 have:=MI.lastA m t.o t.ua t.ub t.sa t.sb (by simpa using ha) (by simpa using hb) t.last;unfold Ji;rw [N0,N0,WH,WH];exact this
theorem MA.pushB (t:Two U R a b){y:Keyed}(m:MA R a b ia ib out)(hy:b.toList[ib]? =some y)(lt: ∀z,a.toList[ia]? =some z->R y z=true):MA R a b ia (ib+1) (out.push y):=by
 have:=MI.pushB m t.o t.ua t.ub t.sa t.sb hy lt;show MI R _ _ _ _ (out.push y).toList;rw [F9];exact this
theorem MA.pushA (t:Two U R a b){y:Keyed}(m:MA R a b ia ib out)(hy:a.toList[ia]? =some y)(ge: ∀z,b.toList[ib]? =some z->R z y=false):MA R a b (ia+1) ib (out.push y):=by
 have:=MI.pushA m t.o t.ua t.ub t.sa t.sb hy ge;show MI R _ _ _ _ (out.push y).toList;rw [F9];exact this
theorem MA.manyA (t:Two U R a b)(m:MA R a b ia ib out)(k:Nat)(hk:ia+k<=a.size)(h: ∀i,i<k-> ∀y,a.toList[ia+i]? =some y-> ∀z,b.toList[ib]? =some z->R z y=false):MA R a b (ia+k) ib (out++a.extract ia (ia+k)):=by
 have:=MI.manyA t.o t.ua t.ub t.sa t.sb k m (by simpa using hk) h;show MI R _ _ _ _ (out++a.extract ia (ia+k)).toList;rw [N0,Pz];exact this
theorem MA.manyB (t:Two U R a b)(m:MA R a b ia ib out)(k:Nat)(hk:ib+k<=b.size)(h: ∀i,i<k-> ∀y,b.toList[ib+i]? =some y-> ∀z,a.toList[ia]? =some z->R y z=true):MA R a b ia (ib+k) (out++b.extract ib (ib+k)):=by
 have:=MI.manyB t.o t.ua t.ub t.sa t.sb k m (by simpa using hk) h;show MI R _ _ _ _ (out++b.extract ib (ib+k)).toList;rw [N0,Pz];exact this
end
variable {arr:Array Keyed}{base:Nat}
theorem vc {left:Bool}{key x:Keyed}{i:Nat}(h:arr.toList[base+i]? =some x):byd R left key arr base i=if left=true then R x key else !R key x:=by
 unfold byd;rw [<-S6,h]
theorem Yj {l:List Keyed}(s:Srt R l)(o:Ordd U R)(u: ∀x∈l,U x){i j:Nat}{x y:Keyed}(hij:i<=j)(hx:l[i]? =some x)(hy:l[j]? =some y):R y x=false:=by
 by_cases z:i=j
 ·subst z;rw [hx] at hy;injection hy with hy;subst hy
  exact o.refl (u x (G5 hx))
 ·obtain⟨h1,e1⟩:=G6.mp hx;obtain⟨h2,e2⟩:=G6.mp hy;have:=F6.mp s i j h1 h2 (by omega);rw [e1,e2] at this;exact this
theorem Yk {i:Nat}(h:i<arr.size): ∃x,arr.toList[i]? =some x/\arr[i]? =some x:=⟨arr[i],by simp [h],by simp [h]⟩
theorem KN {y:Keyed}{n hint:Nat}{st:SortSt}{Q:Option Nat->SortSt->Prop}(ak:Us prog w A J κ U R)(kd:kindOf st=κ)(o:Ordd U R)(u: ∀x∈arr.toList,U x)(s:Srt R arr.toList)(uy:U y)(hn:base+n<=arr.size)(hh:hint<n)
 (q: ∀k,k<=n->(∀i,i<k-> ∀x,arr.toList[base+i]? =some x->R y x=false)->(∀i,k<=i->i<n-> ∀x,arr.toList[base+i]? =some x->R y x=true)->Q (some k) st):Tm prog w A E J (gal false y arr base n hint) Q st:=by
 refine Na ak kd uy (λi hi=> ?_) (λi j hij hj h=> ?_) hh (λk k1 k2 k3=>q k k1 (λi hi x hx=> ?_) (λi h1 h2 x hx=> ?_))
 ·obtain⟨x,lx,ex⟩:=Yk (show base+i<arr.size by omega);exact⟨x,ex,u x (G5 lx)⟩
 ·obtain⟨x,lx,_⟩:=Yk (show base+i<arr.size by omega);obtain⟨z,lz,_⟩:=Yk (show base+j<arr.size by omega);rw [vc lz] at h;rw [vc lx];have hz:R y z=false:=by simpa using h
  have:=o.trans (u x (G5 lx)) (u z (G5 lz)) uy (Yj s o u (by omega) lx lz) hz;simp [this]
 ·have:=k2 i hi;rw [vc hx] at this;simpa using this
 ·have:=k3 i h1 h2;rw [vc hx] at this;simpa using this
theorem KO {y:Keyed}{n hint:Nat}{st:SortSt}{Q:Option Nat->SortSt->Prop}(ak:Us prog w A J κ U R)(kd:kindOf st=κ)(o:Ordd U R)(u: ∀x∈arr.toList,U x)(s:Srt R arr.toList)(uy:U y)(hn:base+n<=arr.size)(hh:hint<n)
 (q: ∀k,k<=n->(∀i,i<k-> ∀x,arr.toList[base+i]? =some x->R x y=true)->(∀i,k<=i->i<n-> ∀x,arr.toList[base+i]? =some x->R x y=false)->Q (some k) st):Tm prog w A E J (gal true y arr base n hint) Q st:=by
 refine Na ak kd uy (λi hi=> ?_) (λi j hij hj h=> ?_) hh (λk k1 k2 k3=>q k k1 (λi hi x hx=> ?_) (λi h1 h2 x hx=> ?_))
 ·obtain⟨x,lx,ex⟩:=Yk (show base+i<arr.size by omega);exact⟨x,ex,u x (G5 lx)⟩
 ·obtain⟨x,lx,_⟩:=Yk (show base+i<arr.size by omega);obtain⟨z,lz,_⟩:=Yk (show base+j<arr.size by omega);rw [vc lz] at h;rw [vc lx];have hz:R z y=true:=by simpa using h
  rcases o.neg z x y (u z (G5 lz)) (u x (G5 lx)) uy hz with v|v
  ·rw [Yj s o u (by omega) lx lz] at v;cases v
  ·simp [v]
 ·have:=k2 i hi;rw [vc hx] at this;simpa using this
 ·have:=k3 i h1 h2;rw [vc hx] at this;simpa using this
section
variable {σ α β γ:Type}{c:Prop}[Decidable c]{t e:StateT σ Sem α}{Q:α->σ->Prop}{st:σ}{x y:β}{z:γ}
theorem Tm.if2 (T:c->Tm prog w A E J t Q st)(F: ¬c->Tm prog w A E J e Q st):Tm prog w A E J (if c then t else e) Q st:=by
 split
 ·exact T ‹_›
 ·exact F ‹_›
theorem Tm.eq2 {x y:Nat}(T:x=y->Tm prog w A E J t Q st)(F: ¬x=y->Tm prog w A E J e Q st):Tm prog w A E J (if (x==y)=true then t else e) Q st:=
 .if2 (λh=>T (eq_of_beq h)) λh=>F λg=>h (G02.mpr g)
theorem Tm.both {f:β->StateT σ Sem α}(he:e=f y)(ht:t=f x)(H: ∀m,Tm prog w A E J (f m) Q st):Tm prog w A E J (if c then t else e) Q st:=by
 subst he ht;exact .if2 (λ_=>H _) λ_=>H _
theorem Tm.join {f:β->γ->StateT σ Sem α}{I:β->γ->Prop}(he:e=f x z)(G: ∀m o,I m o->Tm prog w A E J (f m o) Q st)(T:c->(∀m o,I m o->Tm prog w A E J (f m o) Q st)->Tm prog w A E J t Q st)(F: ¬c->I x z):Tm prog w A E J (if c then t else e) Q st:=by
 subst he;exact .if2 (λh=>T h G) λh=>G _ _ (F h)
end
theorem Tr {A B C D F:Type}{P:A×B×C×D×F->Prop}(h: ∀a b c d f,P (a,b,c,d,f)): ∀c,P c:=λc=>h c.1 c.2.1 c.2.2.1 c.2.2.2.1 c.2.2.2.2
theorem Ts {A B C D F G:Type}{P:A×B×C×D×F×G->Prop}(h: ∀a b c d f g,P (a,b,c,d,f,g)): ∀c,P c:=λc=>h c.1 c.2.1 c.2.2.1 c.2.2.2.1 c.2.2.2.2.1 c.2.2.2.2.2
theorem Tt {A B C D F G H:Type}{P:A×B×C×D×F×G×H->Prop}(h: ∀a b c d f g k,P (a,b,c,d,f,g,k)): ∀c,P c:=λc=>h c.1 c.2.1 c.2.2.1 c.2.2.2.1 c.2.2.2.2.1 c.2.2.2.2.2.1 c.2.2.2.2.2.2
theorem yw {a:Array Keyed}(u: ∀x∈a.toList,U x){i:Nat}(h:i<a.size){P:Prop}(q: ∀y,a[i]? =some y->a.toList[i]? =some y->U y->P):P:=q a[i] (by simp [h]) (by simp [h]) (u _ (by simp))
structure LoI (R:Keyed->Keyed->Bool)(a b:Array Keyed)(st st':SortSt)(n:Nat)(out:Array Keyed)(ia ib:Nat):Prop where
 g:Gal st st'
 m:MA R a b ia ib out
 a:ia+1<a.size
 b:ib<b.size
 n:n<=ia+ib
def LoO (R:Keyed->Keyed->Bool)(a b:Array Keyed)(st st':SortSt)(n:Nat)(r:Option (Array Keyed))(out:Array Keyed)(ia ib:Nat):Prop:=Gal st st'/\match r with|some c=>Ji R a b c|none=>LoI R a b st st' n out ia ib
section
variable {a b out:Array Keyed}{st st':SortSt}{n k ia ib:Nat}
theorem LoI.more (h:LoI R a b st st' n out ia ib)(l:k<=n):LoI R a b st st' k out ia ib:=⟨h.g,h.m,h.a,h.b,D6 l h.n⟩
theorem LoI.here (h:LoI R a b st st' n out ia ib):LoI R a b st st' (ia+ib) out ia ib:=⟨h.g,h.m,h.a,h.b,G9 _⟩
theorem LoI.at {s:SortSt}(h:LoI R a b st st' n out ia ib)(g:Gal st s)(l:k<=n):LoI R a b st s k out ia ib:=⟨g,h.m,h.a,h.b,D6 l h.n⟩
theorem LoI.never {P:Prop}(h:LoI R a b st st' n out ia ib)(l:a.size+b.size<=n):P:=absurd (D6 l h.n) (Nat.not_le_of_lt (Nat.add_lt_add (L9 h.a) h.b))
end
theorem SF {a b:Array Keyed}{st:SortSt}{Q:Array Keyed->SortSt->Prop}(ak:Us prog w A J κ U R)(kd:kindOf st=κ)(t:Two U R a b)
 (na:1<=a.size)(nb:1<=b.size)(first: ∀y z,b.toList[0]? =some y->a.toList[0]? =some z->R y z=true)
 (q: ∀c st',Gal st st'->Ji R a b c->Q c st'):Tm prog w A E J (mLo a b) Q st:=by
 refine .bind (.rule (.bind (yw t.ub nb λb0 eb0 lb0 ub0=> .elem eb0 ?_)));have m0:MA R a b 0 1 #[b0]:=MA.pushB t (out:= #[]) (MI.start _ _) lb0 (λz hz=>first _ z lb0 hz);refine .eq2 (x:=1) (y:=b.size) (λz1=> .pure (q _ _ (Gal.refl st) (MA.done t m0 (T4 _) nb (.inr z1)))) λz1=> .eq2 (x:=0+1) (y:=a.size) (λz2=> .pure (q _ _ (Gal.refl st) (MA.lastA t m0 z2 nb))) λz2=> .bind (.get ?_)
 refine .bind (Tm.mono (Tm.range (λi c st'=>LoI R a b st st' (i+1) c.2.1 c.2.2.1 c.2.2.2.1)
  (Q:=λc st'=> ∃r,c.1=some r/\Gal st st'/\Ji R a b r) (T4 _) ⟨Gal.refl st,m0,C3 na z2,C3 nb z1,G9 _⟩ ?_ ?_) ?_)
 ·intro i c st1 hi;revert c;refine Tr λr out ia ib mg h=> ?_
  refine .bind (Tm.mono (Tm.range (λj c st'=>LoI R a b st st' (ia+ib+j) c.2.1 c.2.2.1 c.2.2.2.1)
   (Q:=λc st'=>LoO R a b st st' (ia+ib+1) c.1 c.2.1 c.2.2.1 c.2.2.2.1) (T4 _) h.here ?_ ?_) ?_)
  ·intro j c st2 hj;revert c;refine Ts λr out ja jb ac bc h=> ?_
   refine .bind (yw t.ub h.b λy ey ly uy=> .elem ey (.bind (yw t.ua (L9 h.a) λx ex lx ux=> .elem ex (.bind (.lt ak (h.g.1.trans kd) uy ux (.if2 (c:=R y x=true) (λhb=> .bind (.elem ey ?_)) λhb=> .bind (.elem ex ?_)))))))
   ·have m1:=MA.pushB t h.m ly (λz hz=>by rw [lx] at hz;injection hz with hz;rw [<-hz];exact hb);refine .eq2 (x:=jb+1) (y:=b.size) (λc1=> .pure ⟨h.g,MA.done t m1 (D5 (L9 h.a)) h.b (.inr c1)⟩) λc1=> ?_
    have d:LoI R a b st st2 (ia+ib+(j+1)) (out.push y) ja (jb+1):=⟨h.g,m1,h.a,C3 (X3 h.b) c1,X8 h.n⟩;exact .if2 (λ_=> .pure ⟨h.g,d.more (U5 (Q6 _ _) _)⟩) λ_=> .pure d
   ·have m1:=MA.pushA t h.m lx (λz hz=>by rw [ly] at hz;injection hz with hz;rw [<-hz];exact J8.mpr hb);refine .eq2 (x:=ja+1+1) (y:=a.size) (λc1=> .pure ⟨h.g,MA.lastA t m1 c1 (D5 h.b)⟩) λc1=> ?_
    have d:LoI R a b st st2 (ia+ib+(j+1)) (out.push x) (ja+1) jb:=⟨h.g,m1,C3 (X3 h.a) c1,h.b,D6 (X8 h.n) (E4 (Nat.succ_add _ _).symm)⟩;exact .if2 (λ_=> .pure ⟨h.g,d.more (U5 (Q6 _ _) _)⟩) λ_=> .pure d
  ·exact λc st2 h=>h.never (Q6 _ _)
  ·intro c st2;revert c;refine Ts λr out ja jb ac bc h'=> ?_
   cases r with
   |some r=>exact .pure ⟨r,rfl,h'⟩
   |none=>
   replace h':=h'.2
   refine .bind (.rule (.bind (Tm.mono (Tm.range (λj c st'=>LoI R a b st st' (ja+jb+j) c.2.1 c.2.2.1 c.2.2.2.1)
    (Q:=λc st'=>LoO R a b st st' (ja+jb) c.1 c.2.1 c.2.2.1 c.2.2.2.1) (T4 _) h'.here ?_ ?_) ?_)))
   ·clear h;intro j c st2 hj;revert c;refine Tt λr out pa pb mg ac bc h=> ?_
    refine yw t.ub h.b λy ey ly uy=> ?_
    have g2:0<a.size-pa:=Nat.sub_pos_of_lt (L9 h.a);have g1:pa+(a.size-pa)<=a.size:=E4 (Z6 (D5 (L9 h.a)));refine Tm.both (y:=mg) (x:=mg-1) (by rfl) (by rfl) λmg=> ?_
    refine .bind (Tm.modify (.bind (.elem ey (.bind (KN (base:=pa) (n:=a.size-pa) ak (h.g.1.trans kd) t.o t.ua t.sa uy g1 g2 λk k1 k2 k3=> ?_)))));refine Tm.join (I:=λo ia=>MA R a b ia pb o/\ia+1<a.size/\pa<=ia/\ ∀x,a.toList[ia]? =some x->R y x=true) (x:=out) (z:=pa) (by rfl) ?_ ?_ ?_
    ·refine λo qa i1=> ?_
     have M2:=MA.pushB t i1.1 ly i1.2.2.2;have p1:=L9 i1.2.1;refine .bind (.elem ey (.eq2 (x:=pb+1) (y:=b.size) (λc3=> .pure ⟨h.g,MA.done t M2 (D5 p1) (E4 c3) (.inr c3)⟩) λc3=> ?_));have c8:pb+1<b.size:=C3 (X3 h.b) c3;have g2:=Nat.sub_pos_of_lt c8;refine .bind (yw t.ua p1 λx ex lx ux=> .elem ex (.bind (KO (base:=pb+1) (n:=b.size-(pb+1)) ak (h.g.1.trans kd) t.o t.ub t.sb ux (E4 (Z6 (D5 c8))) g2 λk' q1 q2 q3=> ?_)));dsimp only;generalize ep:pb+1=p2 at M2 q1 q2 q3 c8 g2 ⊢;generalize eo:o.push y=o2 at M2 ⊢;refine Tm.join (I:=λo ib=>MA R a b qa ib o/\ib<b.size/\p2<=ib/\ ∀x',b.toList[ib]? =some x'->R x' x=false) (x:=o2) (z:=p2) (by rfl) ?_ ?_ ?_
     ·refine λo qb i2=> ?_
      have M4:=MA.pushA t i2.1 lx i2.2.2.2;refine .bind (.elem ex (.eq2 (x:=qa+1+1) (y:=a.size) (λc5=> .pure ⟨h.g,MA.lastA t M4 c5 (D5 i2.2.1)⟩) λc5=> ?_));have n1:ja+jb+j<=pa+pb:=h.n;have n2:ja+jb+(j+1)<=qa+1+qb:=by have:=i1.2.2.1;have:=i2.2.2.1;omega
      have d:LoI R a b st st2 (ja+jb+(j+1)) (o.push x) (qa+1) qb:=⟨h.g,M4,C3 (X3 i1.2.1) c5,i2.2.1,n2⟩;exact .if2 (λ_=> .pure ⟨h.g,d.at h.g (K7 _ _)⟩) λ_=> .pure (d.at h.g (G9 _))
     ·intro kz' H;have g3:p2+k'<=b.size:=D6 (U5 q1 _) (E4 (Z6 (D5 c8)));have M3:=MA.manyB t M2 k' g3 (λi hi y' hy z hz=>by rw [lx] at hz;injection hz with hz;rw [<-hz];exact q2 i hi y' hy);exact .eq2 (x:=p2+k') (y:=b.size) (λc4=> .pure ⟨h.g,MA.done t M3 (D5 p1) g3 (.inr c4)⟩) λc4=>H _ _ ⟨M3,C3 g3 c4,K7 _ _,λz hz=>q3 k' (G9 _) (by omega) z hz⟩
     ·exact λkz'=>⟨M2,c8,G9 _,λz hz=>q3 0 (G0F kz') g2 z hz⟩
    ·intro kz H;have g3:pa+k<=a.size:=D6 (U5 k1 _) g1;have m1:=MA.manyA t h.m k g3 (λi hi x hx z hz=>by rw [ly] at hz;injection hz with hz;rw [<-hz];exact k2 i hi x hx);exact .eq2 (x:=pa+k+1) (y:=a.size) (λc1=> .pure ⟨h.g,MA.lastA t m1 c1 (D5 h.b)⟩) λc1=> .eq2 (x:=pa+k) (y:=a.size) (λc2=> .pure ⟨h.g,MA.done t m1 g3 (D5 h.b) (.inl c2)⟩) λc2=>H _ _ ⟨m1,C3 (C3 g3 c2) c1,K7 _ _,λx hx=>k3 k (G9 _) (by omega) x hx⟩
    ·exact λkz=>⟨h.m,h.a,G9 _,λx hx=>k3 0 (G0F kz) g2 x hx⟩
   ·exact λc st3 h=>h.never (Q6 _ _)
   ·intro c st3;revert c;refine Tt λr out pa pb mg ac bc h3=> ?_
    cases r with
    |some r=>exact .pure ⟨r,rfl,h3⟩
    |none=>exact .bind (Tm.modify (.pure (h3.2.at h3.1 (D6 (X8 h.n) h'.n))))
 ·exact λc st1 h=>h.never (K7 _ _)
 ·intro c st1;revert c;refine Tr λr out ia ib mg h=> ?_
  obtain⟨c,rfl,gl,wh⟩:=h;exact .pure (q c st1 gl wh)
end
section
variable {prog:Program}{w:World}{A:Around}{E:Value->Shared->Prop}{J:Shared->Prop}{κ:SortKind}{U:Keyed->Prop}{R:Keyed->Keyed->Bool}
abbrev Flp (R:Keyed->Keyed->Bool):Keyed->Keyed->Bool:=λx y=>R y x
theorem Ordd.flip (o:Ordd U R):Ordd U (Flp R):=⟨λx y ux uy h=>o.asym y x uy ux h,λx y z ux uy uz h=>(o.neg z y x uz uy ux h).symm⟩
variable {l:List Keyed}
theorem zJ (s:Srt R l):Srt (Flp R) l.reverse:=X6.mpr s
theorem PB (s:Srt (Flp R) l):Srt R l.reverse:=X6.mpr s
variable {n:Nat}
theorem Nb (h1:1<=n)(hn:n<=l.length):l.reverse[l.length-n]? =l[n-1]? :=by
 rw [Q7 (by omega)]
 congr 1;omega
theorem wO {z:Keyed}(hn:n<=l.length)(h:l.reverse[l.length-n]? =some z):1<=n/\l[n-1]? =some z:=by
 have:=(G6.mp h).1;rw [S8] at this;have n1:1<=n:=by omega
 exact⟨n1,by rw [<-Nb n1 hn];exact h⟩
theorem Zh (l:List Keyed){n:Nat}(hn:n<=l.length):l.reverse.drop (l.length-n)=(l.take n).reverse:=by
 rw [List.drop_reverse]
 congr 2;omega
def MH (R:Keyed->Keyed->Bool)(a b:Array Keyed)(na nb:Nat)(out:Array Keyed):Prop:=MI (Flp R) b.toList.reverse a.toList.reverse (b.toList.length-nb) (a.toList.length-na) out.toList
structure TwoH (U:Keyed->Prop)(R:Keyed->Keyed->Bool)(a b:Array Keyed):Prop where
 o:Ordd U R
 ua: ∀x∈a.toList,U x
 ub: ∀x∈b.toList,U x
 sa:Srt R a.toList
 sb:Srt R b.toList
 first: ∀z∈a.toList,∀y,b.toList[0]? =some y->R y z=true
section
variable {a b out:Array Keyed}{na nb:Nat}
theorem TwoH.fa (t:TwoH U R a b): ∀x∈a.toList.reverse,U x:=λx hx=>t.ua x (C8.mp hx)
theorem TwoH.fb (t:TwoH U R a b): ∀x∈b.toList.reverse,U x:=λx hx=>t.ub x (C8.mp hx)
theorem MH.start (a b:Array Keyed):MH R a b a.toList.length b.toList.length #[]:=by
 unfold MH;rw [Nat.sub_self,Nat.sub_self];exact MI.start _ _
theorem MH.pushA (t:TwoH U R a b){y:Keyed}(m:MH R a b na nb out)(h1:1<=na)(hn:na<=a.toList.length)(hb:nb<=b.toList.length)(hy:a.toList[na-1]? =some y)(lt: ∀z,1<=nb->b.toList[nb-1]? =some z->R z y=true):MH R a b (na-1) nb (out.push y):=by
 have:=MI.pushB m t.o.flip t.fb t.fa (zJ t.sb) (zJ t.sa) (by rw [Nb h1 hn];exact hy) (λz hz=>lt z (wO hb hz).1 (wO hb hz).2);unfold MH;rw [F9,show a.toList.length-(na-1)=a.toList.length-na+1 by omega];exact this
theorem MH.pushB (t:TwoH U R a b){y:Keyed}(m:MH R a b na nb out)(h1:1<=nb)(hn:nb<=b.toList.length)(ha:na<=a.toList.length)(hy:b.toList[nb-1]? =some y)(ge: ∀z,1<=na->a.toList[na-1]? =some z->R y z=false):MH R a b na (nb-1) (out.push y):=by
 have:=MI.pushA m t.o.flip t.fb t.fa (zJ t.sb) (zJ t.sa) (by rw [Nb h1 hn];exact hy) (λz hz=>ge z (wO ha hz).1 (wO ha hz).2);unfold MH;rw [F9,show b.toList.length-(nb-1)=b.toList.length-nb+1 by omega];exact this
theorem Zi (a:Array Keyed)(n:Nat):(a.extract 0 n).toList=a.toList.take n:=by
 rw [J1,List.extract_eq_drop_take,G1b,G1p]
theorem MH.done (t:TwoH U R a b)(m:MH R a b na nb out)(ha:na<=a.toList.length)(hb:nb<=b.toList.length)(h:na=0\/nb=0):Ji R a b (a.extract 0 na++b.extract 0 nb++out.reverse):=by
 have:=MI.done m t.o.flip t.fb t.fa (zJ t.sb) (zJ t.sa) (by rw [S8];omega) (by rw [S8];omega) (by rw [S8,S8];omega);rw [Zh _ ha,Zh _ hb] at this;have e:(a.extract 0 na++b.extract 0 nb++out.reverse).toList=(out.toList++(b.toList.take nb).reverse++(a.toList.take na).reverse).reverse:=by
  rw [N0,N0,Zi,Zi,Y2];simp [G8]
 unfold Ji;rw [e];refine⟨(O0 _).trans (this.1.trans ?_),PB this.2⟩;exact(List.Perm.append (O0 _) (O0 _)).trans Q5
theorem MH.firstB (t:TwoH U R a b)(m:MH R a b na nb out)(ha:na<=a.toList.length)(hb:nb=1)(hb':1<=b.toList.length):Ji R a b (b.extract 0 nb++a.extract 0 na++out.reverse):=by
 subst hb;have:=MI.lastA m t.o.flip t.fb t.fa (zJ t.sb) (zJ t.sa) (by rw [S8];omega) (by rw [S8];omega) (λz hz y hy=>by
  rw [S8] at hy;have:=(wO hb' hy).2;exact t.first z (C8.mp hz) y (by simpa using this))
 rw [Zh _ ha,Zh _ hb'] at this;have e:(b.extract 0 1++a.extract 0 na++out.reverse).toList=(out.toList++(a.toList.take na).reverse++(b.toList.take 1).reverse).reverse:=by
  rw [N0,N0,Zi,Zi,Y2];simp [G8]
 unfold Ji;rw [e];refine⟨(O0 _).trans (this.1.trans ?_),PB this.2⟩;exact(List.Perm.append (O0 _) (O0 _)).trans Q5
theorem PC (l:List Keyed){p n:Nat}(h1:p<=n)(hn:n<=l.length):(l.reverse.drop (l.length-n)).take (n-p)=((l.drop p).take (n-p)).reverse:=by
 rw [Zh l hn,List.take_reverse,R3,G1e,A8 hn,show n-(n-p)=p by omega]
theorem Nc (a:Array Keyed){p n:Nat}(h:p<=n):(a.extract p n).reverse.toList=((a.toList.drop p).take (n-p)).reverse:=by
 rw [Y2,J1,List.extract_eq_drop_take]
theorem MH.manyA (t:TwoH U R a b)(m:MH R a b na nb out)(p:Nat)(hp:p<=na)(hn:na<=a.toList.length)(hb:nb<=b.toList.length)(h: ∀i,p<=i->i<na-> ∀y,a.toList[i]? =some y-> ∀z,1<=nb->b.toList[nb-1]? =some z->R z y=true):MH R a b p nb (out++(a.extract p na).reverse):=by
 have:=MI.manyB t.o.flip t.fb t.fa (zJ t.sb) (zJ t.sa) (na-p) m (by rw [S8];omega) (λi hi y hy z hz=>by
  rw [Q7 (by omega)] at hy;exact h _ (by omega) (by omega) y hy z (wO hb hz).1 (wO hb hz).2)
 rw [PC _ hp hn] at this;unfold MH;rw [N0,Nc _ hp,show a.toList.length-p=a.toList.length-na+(na-p) by omega];exact this
theorem MH.manyB (t:TwoH U R a b)(m:MH R a b na nb out)(p:Nat)(hp:p<=nb)(hn:nb<=b.toList.length)(ha:na<=a.toList.length)(h: ∀i,p<=i->i<nb-> ∀y,b.toList[i]? =some y-> ∀z,1<=na->a.toList[na-1]? =some z->R y z=false):MH R a b na p (out++(b.extract p nb).reverse):=by
 have:=MI.manyA t.o.flip t.fb t.fa (zJ t.sb) (zJ t.sa) (nb-p) m (by rw [S8];omega) (λi hi y hy z hz=>by
  rw [Q7 (by omega)] at hy;exact h _ (by omega) (by omega) y hy z (wO ha hz).1 (wO ha hz).2)
 rw [PC _ hp hn] at this;unfold MH;rw [N0,Nc _ hp,show b.toList.length-p=b.toList.length-nb+(nb-p) by omega];exact this
end
def mHi:Array Keyed->Array Keyed->StateT SortSt Sem (Array Keyed):=sortPriv% PySem.Builtin.mergeHi
section
variable {arr:Array Keyed}{y:Keyed}{n hint:Nat}{st:SortSt}{Q:Option Nat->SortSt->Prop}
theorem HY (ak:Us prog w A J κ U R)(kd:kindOf st=κ)(o:Ordd U R)(u: ∀x∈arr.toList,U x)(s:Srt R arr.toList)(uy:U y)(hn:n<=arr.size)(hh:hint<n)
 (q: ∀k,k<=n->(∀i,i<k-> ∀x,arr.toList[i]? =some x->R y x=false)->(∀i,k<=i->i<n-> ∀x,arr.toList[i]? =some x->R y x=true)->Q (some k) st):Tm prog w A E J (gal false y arr 0 n hint) Q st:=
 KN ak kd o u s uy (by rw [E5];exact hn) hh λk h k2 k3=>q k h (λi hi x hx=>k2 i hi x (by rw [E5];exact hx)) λi hi hj x hx=>k3 i hi hj x (by rw [E5];exact hx)
theorem HZ (ak:Us prog w A J κ U R)(kd:kindOf st=κ)(o:Ordd U R)(u: ∀x∈arr.toList,U x)(s:Srt R arr.toList)(uy:U y)(hn:n<=arr.size)(hh:hint<n)
 (q: ∀k,k<=n->(∀i,i<k-> ∀x,arr.toList[i]? =some x->R x y=true)->(∀i,k<=i->i<n-> ∀x,arr.toList[i]? =some x->R x y=false)->Q (some k) st):Tm prog w A E J (gal true y arr 0 n hint) Q st:=
 KO ak kd o u s uy (by rw [E5];exact hn) hh λk h k2 k3=>q k h (λi hi x hx=>k2 i hi x (by rw [E5];exact hx)) λi hi hj x hx=>k3 i hi hj x (by rw [E5];exact hx)
end
structure HiI (R:Keyed->Keyed->Bool)(a b:Array Keyed)(st st':SortSt)(n N na nb:Nat)(out:Array Keyed):Prop where
 g:Gal st st'
 m:MH R a b na nb out
 a':na<=a.size
 b':nb<=b.size
 a:1<=na
 b:2<=nb
 n:n+na+nb<=N
def HiO (R:Keyed->Keyed->Bool)(a b:Array Keyed)(st st':SortSt)(n N:Nat)(r:Option (Array Keyed))(na nb:Nat)(out:Array Keyed):Prop:=Gal st st'/\match r with|some c=>Ji R a b c|none=>HiI R a b st st' n N na nb out
section
variable {a b out:Array Keyed}{st st' s:SortSt}{n N k M na nb:Nat}
theorem HiI.at (h:HiI R a b st st' n N na nb out)(g:Gal st s)(l:n+na+nb<=N->k+na+nb<=M):HiI R a b st s k M na nb out:=⟨g,h.m,h.a',h.b',h.a,h.b,l h.n⟩
theorem HiI.here (h:HiI R a b st st' n N na nb out):HiI R a b st st' 0 (na+nb) na nb out:=h.at h.g λ_=>by omega
theorem HiI.never {P:Prop}(h:HiI R a b st st' n N na nb out)(l:N<=n):P:=by have:=h.n;have:=h.a;omega
theorem HiI.le (h:HiI R a b st st' n N na nb out):na+nb<=a.size+b.size:=Nat.add_le_add h.a' h.b'
theorem HiI.a1 (h:HiI R a b st st' n N na nb out):na-1<a.size:=R7 (X4 h.a Nat.one_pos) h.a'
theorem HiI.b1 (h:HiI R a b st st' n N na nb out):nb-1<b.size:=R7 (X4 (L9 h.b) Nat.one_pos) h.b'
end
theorem FH (h:2<=n)(c: ¬n-1=1):2<=n-1:=by omega
theorem Nd (c: ¬n-1=0):1<=n-1:=W0 c
theorem SG {a b:Array Keyed}{st:SortSt}{Q:Array Keyed->SortSt->Prop}(ak:Us prog w A J κ U R)(kd:kindOf st=κ)(t:TwoH U R a b)
 (na:1<=a.size)(nb:1<=b.size)(last: ∀y z,b.toList[b.size-1]? =some y->a.toList[a.size-1]? =some z->R y z=true)
 (q: ∀c st',Gal st st'->Ji R a b c->Q c st'):Tm prog w A E J (mHi a b) Q st:=by
 refine .bind (.rule (.bind (yw t.ua (X4 na Nat.one_pos) λa0 ea0 la0 ua0=> .elem ea0 ?_)));have m0:MH R a b (a.size-1) b.size #[a0]:=MH.pushA t (MH.start (R:=R) a b) na (G9 _) (G9 _) la0 (λz _ hz=>last z a0 hz la0);have n1:a.size-1<=a.size:=Nat.sub_le _ _;refine .eq2 (x:=a.size-1) (y:=0) (λz1=> .pure (q _ _ (Gal.refl st) (MH.done t m0 n1 (G9 _) (.inl z1)))) λz1=> .eq2 (x:=b.size) (y:=1) (λz2=> .pure (q _ _ (Gal.refl st) (MH.firstB t m0 n1 z2 nb))) λz2=> .bind (.get ?_)
 refine .bind (Tm.mono (Tm.range (λi c st'=>HiI R a b st st' (i+1) (a.size+b.size) c.2.1 c.2.2.1 c.2.2.2.1)
  (Q:=λc st'=> ∃r,c.1=some r/\Gal st st'/\Ji R a b r) (Nat.zero_le _) ⟨Gal.refl st,m0,n1,Nat.le_refl _,Nd z1,by dsimp only;omega,by dsimp only;omega⟩ ?_ ?_) ?_)
 ·intro i c st1 hi;revert c;refine Tr λr ia ib out mg h=> ?_
  refine .bind (Tm.mono (Tm.range (λj c st'=>HiI R a b st st' j (ia+ib) c.2.1 c.2.2.1 c.2.2.2.1)
   (Q:=λc st'=>HiO R a b st st' 1 (ia+ib) c.1 c.2.1 c.2.2.1 c.2.2.2.1) (T4 _) h.here ?_ ?_) ?_)
  ·intro j c st2 hj;revert c;refine Ts λr ja jb out ac bc h=> ?_
   refine .bind (yw t.ub h.b1 λy ey ly uy=> .elem ey (.bind (yw t.ua h.a1 λx ex lx ux=> .elem ex (.bind (.lt ak (h.g.1.trans kd) uy ux (.if2 (c:=R y x=true) (λhb=> .bind (.elem ex ?_)) λhb=> .bind (.elem ey ?_)))))))
   ·have m1:=MH.pushA t h.m h.a h.a' h.b' lx (λz _ hz=>by rw [ly] at hz;injection hz with hz;rw [<-hz];exact hb);refine .eq2 (x:=ja-1) (y:=0) (λc1=> .pure ⟨h.g,MH.done t m1 (D5 h.a1) h.b' (.inl c1)⟩) λc1=> ?_
    have d:HiI R a b st st2 (j+1) (ia+ib) (ja-1) jb (out.push x):=⟨h.g,m1,D5 h.a1,h.b',Nd c1,h.b,by have:j+ja+jb<=ia+ib:=h.n;have:1<=ja:=h.a;have:2<=jb:=h.b;omega⟩;exact .if2 (λ_=> .pure ⟨h.g,d.at h.g λ_=>by omega⟩) λ_=> .pure d
   ·have m1:=MH.pushB t h.m (D5 h.b) h.b' h.a' ly (λz _ hz=>by rw [lx] at hz;injection hz with hz;rw [<-hz];exact J8.mpr hb);refine .eq2 (x:=jb-1) (y:=1) (λc1=> .pure ⟨h.g,MH.firstB t m1 h.a' c1 nb⟩) λc1=> ?_
    have d:HiI R a b st st2 (j+1) (ia+ib) ja (jb-1) (out.push y):=⟨h.g,m1,h.a',D5 h.b1,h.a,FH h.b c1,by have:j+ja+jb<=ia+ib:=h.n;have:1<=ja:=h.a;have:2<=jb:=h.b;omega⟩;exact .if2 (λ_=> .pure ⟨h.g,d.at h.g λ_=>by omega⟩) λ_=> .pure d
  ·exact λc st2 h'=>h'.never h.le
  ·intro c st2;revert c;refine Ts λr ja jb out ac bc h'=> ?_
   cases r with
   |some r=>exact .pure ⟨r,rfl,h'⟩
   |none=>
   replace h':=h'.2
   refine .bind (.rule (.bind (Tm.mono (Tm.range (λj c st'=>HiI R a b st st' j (ja+jb) c.2.1 c.2.2.1 c.2.2.2.1)
    (Q:=λc st'=>HiO R a b st st' 0 (ja+jb) c.1 c.2.1 c.2.2.1 c.2.2.2.1) (T4 _) h'.here ?_ ?_) ?_)))
   ·clear h;intro j c st2 hj;revert c;refine Tt λr pa pb out mg ac bc h=> ?_
    refine yw t.ub h.b1 λy ey ly uy=> ?_
    refine Tm.both (y:=mg) (x:=mg-1) (by rfl) (by rfl) λmg=> ?_
    refine .bind (Tm.modify (.bind (.elem ey (.bind (HY (n:=pa) ak (h.g.1.trans kd) t.o t.ua t.sa uy h.a' (X4 h.a Nat.one_pos) λk k1 k2 k3=> ?_)))));dsimp only;generalize eac:pa-k=ac;refine Tm.join (I:=λna o=>MH R a b na pb o/\1<=na/\na<=pa/\ ∀z,a.toList[na-1]? =some z->R y z=false) (x:=pa) (z:=out) (by rfl) ?_ ?_ ?_
    ·refine λqa o i1=> ?_
     have la:=D6 i1.2.2.1 h.a';have M2:=MH.pushB t i1.1 (D5 h.b) h.b' la ly (λz _ hz=>i1.2.2.2 z hz);refine .bind (.elem ey (.eq2 (x:=pb-1) (y:=1) (λc3=> .pure ⟨h.g,MH.firstB t M2 la c3 nb⟩) λc3=> ?_));have c8:=FH h.b c3;have lb:=D5 h.b1;have n1:j+pa+pb<=ja+jb:=h.n;have n2:pb=pb-1+1:=(Q1 (D5 h.b)).symm;refine .bind (yw t.ua (R7 (X4 i1.2.1 Nat.one_pos) la) λx ex lx ux=> .elem ex (.bind (HZ (n:=pb-1) ak (h.g.1.trans kd) t.o t.ub t.sb ux lb (X4 (L9 c8) Nat.one_pos) λk' q1 q2 q3=> ?_)));dsimp only;dsimp only at c8 lb;generalize ep:pb-1=p2 at M2 q1 q2 q3 c8 lb n2 ⊢;generalize eo:o.push y=o2 at M2 ⊢;generalize ebc:p2-k'=bc;refine Tm.join (I:=λnb o=>MH R a b qa nb o/\2<=nb/\nb<=p2/\ ∀z,b.toList[nb-1]? =some z->R z x=true) (x:=p2) (z:=o2) (by rfl) ?_ ?_ ?_
     ·refine λqb o i2=> ?_
      have lb':=D6 i2.2.2.1 lb;have M4:=MH.pushA t i2.1 i1.2.1 la lb' lx (λz _ hz=>i2.2.2.2 z hz);have la':=D6 (Nat.sub_le qa 1) la;refine .bind (.elem ex (.eq2 (x:=qa-1) (y:=0) (λc5=> .pure ⟨h.g,MH.done t M4 la' lb' (.inl c5)⟩) λc5=> ?_));have n3:j+1+(qa-1)+qb<=ja+jb:=by have:=i1.2.1;have:=i1.2.2.1;have:=i2.2.2.1;omega
      have d:HiI R a b st st2 (j+1) (ja+jb) (qa-1) qb (o.push x):=⟨h.g,M4,la',lb',Nd c5,i2.2.1,n3⟩;exact .if2 (λ_=> .pure ⟨h.g,d.at h.g λ_=>by omega⟩) λ_=> .pure (d.at h.g id)
     ·intro kz' H;have M3:=MH.manyB t M2 k' q1 lb la (λi hi1 hi2 y' hy z hz1 hz=>by rw [lx] at hz;injection hz with hz;rw [<-hz];exact q3 i hi1 hi2 y' hy);exact .eq2 (x:=k') (y:=1) (λc4=> .pure ⟨h.g,MH.firstB t M3 la c4 nb⟩) λc4=> .eq2 (x:=k') (y:=0) (λc7=> .pure ⟨h.g,MH.done t M3 la (D6 q1 lb) (.inr c7)⟩) λc7=>H _ _ ⟨M3,by omega,q1,λz hz=>q2 (k'-1) (X4 (W0 c7) Nat.one_pos) z hz⟩
     ·exact λkz'=>⟨M2,c8,G9 _,λz hz=>q2 (p2-1) (by omega) z hz⟩
    ·intro kz H;have m1:=MH.manyA t h.m k k1 h.a' h.b' (λi hi1 hi2 x hx z hz1 hz=>by rw [ly] at hz;injection hz with hz;rw [<-hz];exact k3 i hi1 hi2 x hx);exact .eq2 (x:=k) (y:=0) (λc1=> .pure ⟨h.g,MH.done t m1 (D6 k1 h.a') h.b' (.inl c1)⟩) λc1=>H _ _ ⟨m1,W0 c1,k1,λz hz=>k2 (k-1) (X4 (W0 c1) Nat.one_pos) z hz⟩
    ·exact λkz=>⟨h.m,h.a,G9 _,λz hz=>k2 (pa-1) (by have:1<=pa:=h.a;omega) z hz⟩
   ·exact λc st3 h=>h.never h'.le
   ·intro c st3;revert c;refine Tt λr pa pb out mg ac bc h3=> ?_
    cases r with
    |some r=>exact .pure ⟨r,rfl,h3⟩
    |none=>exact .bind (Tm.modify (.pure (h3.2.at h3.1 λl=>by have n1:i+1+ia+ib<=a.size+b.size:=h.n;have n2:1+ja+jb<=ia+ib:=h'.n;dsimp only at l ⊢;omega)))
 ·exact λc st1 h=>h.never (K7 _ _)
 ·intro c st1;revert c;refine Tr λr ia ib out mg h=> ?_
  obtain⟨c,rfl,gl,wh⟩:=h;exact .pure (q c st1 gl wh)
end
section
variable {prog:Program}{w:World}{A:Around}{E:Value->Shared->Prop}{J:Shared->Prop}{κ:SortKind}{U:Keyed->Prop}{R:Keyed->Keyed->Bool}
def seg (l:List Keyed)(p n:Nat):List Keyed:=(l.drop p).take n
variable {n:Nat}
theorem VA {l:List Keyed}{p i:Nat}(hi:i<n):(seg l p n)[i]? =l[p+i]? :=by
 unfold seg;rw [U7 hi,E6]
theorem Yl {l:List Keyed}{p:Nat}(h:p+n<=l.length):(seg l p n).length=n:=by
 unfold seg;rw [R3,S4];omega
theorem Gx {l:List Keyed}{p:Nat}{x:Keyed}(h:x∈seg l p n):x∈l:=M5 (N8 h)
theorem KP {left:Bool}{arr:Array Keyed}{y:Keyed}{base hint:Nat}{st:SortSt}{Q:Option Nat->SortSt->Prop}(ak:Us prog w A J κ U R)(kd:kindOf st=κ)(o:Ordd U R)(u: ∀x∈arr.toList,U x)(s:Srt R (seg arr.toList base n))(uy:U y)(hn:base+n<=arr.size)(hh:hint<n)
 (q: ∀k,k<=n->(∀x∈(seg arr.toList base n).take k,(if left=true then R x y else !R y x)=true)->(∀x∈(seg arr.toList base n).drop k,(if left=true then R x y else !R y x)=false)->Q (some k) st):Tm prog w A E J (gal left y arr base n hint) Q st:=by
 have ln:arr.toList.length=arr.size:=by simp
 have sl:(seg arr.toList base n).length=n:=Yl (by omega);have us: ∀x∈seg arr.toList base n,U x:=λx hx=>u x (Gx hx)
 refine Na ak kd uy (λi hi=> ?_) (λi j hij hj h=> ?_) hh (λk k1 k2 k3=>q k k1 (λx hx=> ?_) (λx hx=> ?_))
 ·obtain⟨x,lx,ex⟩:=Yk (show base+i<arr.size by omega);exact⟨x,ex,u x (G5 lx)⟩
 ·obtain⟨x,lx,_⟩:=Yk (show base+i<arr.size by omega);obtain⟨z,lz,_⟩:=Yk (show base+j<arr.size by omega);have ux:=u x (G5 lx);have uz:=u z (G5 lz);have le:=Yj s o us hij (by rw [VA (by omega)];exact lx) (by rw [VA hj];exact lz);rw [vc lz] at h;rw [vc lx];cases left with
  |true=>
   have hz:R z y=true:=by simpa using h
   rcases o.neg z x y uz ux uy hz with v|v
   ·rw [le] at v;cases v
   ·simp [v]
  |false=>
   have hz:R y z=false:=by simpa using h
   have:=o.trans ux uz uy le hz;simp [this]
 ·obtain⟨i,hi,e⟩:=O3 hx;rw [R3,sl] at hi;have lx:arr.toList[base+i]? =some x:=by
   rw [<-VA (n:=n) (by omega),G0 (by omega),<-e,List.getElem_take]
  have:=k2 i (by omega);rw [vc lx] at this;exact this
 ·obtain⟨i,hi,e⟩:=O3 hx;rw [S4,sl] at hi;have lx:arr.toList[base+(k+i)]? =some x:=by
   rw [<-VA (n:=n) (by omega),G0 (by omega),<-e,List.getElem_drop]
  have:=k3 (k+i) (by omega) (by omega);rw [vc lx] at this;exact this
theorem PD: ∀ (m:List Keyed) (arr:Array Keyed) (p d:Nat),p+d+m.length<=arr.size->((m.zipIdx d).foldl (λ(c:Array Keyed) (x:Keyed×Nat)=>c.setIfInBounds (p+x.2) x.1) arr).toList=arr.toList.take (p+d)++m++arr.toList.drop (p+d+m.length)
 | [],arr,p,d,_=>by simp
 |x::m,arr,p,d,h=>by
  rw [D8] at h;rw [List.zipIdx_cons,List.foldl_cons];rw [PD m _ p (d+1) (by rw [G0s];omega)];have hl:arr.toList.length=arr.size:=by simp
  rw [G0f];have e1:(arr.toList.set (p+d) x).take (p+(d+1))=arr.toList.take (p+d)++ [x]:=by
   rw [show p+(d+1)=p+d+1 by omega,N3,W3 (by omega)];rw [List.take_set_of_le (G9 _)];rfl
  have e2:(arr.toList.set (p+d) x).drop (p+(d+1)+m.length)=arr.toList.drop (p+d+(m.length+1)):=by
   rw [List.drop_set_of_lt (by omega),show p+(d+1)+m.length=p+d+(m.length+1) by omega]
  rw [e1,e2,D8];simp [G8]
end
section
variable {prog:Program}{w:World}{A:Around}{E:Value->Shared->Prop}{J:Shared->Prop}{κ:SortKind}{U:Keyed->Prop}{R:Keyed->Keyed->Bool}
theorem Tm.set {σ:Type}{st st':σ}{Q:PUnit->σ->Prop}(q:Q ⟨⟩ st'):Tm prog w A E J (MonadStateOf.set st':StateT σ Sem PUnit) Q st:=λs j=>by
 show wpAny _ _ ((StateT.set st':StateT σ Sem PUnit).run st) _ _ _;exact P0 ⟨q,j⟩
theorem Nf (a:Array Keyed){p n:Nat}(h:p<=n):(a.extract p n).toList=seg a.toList p (n-p):=by
 rw [J1,List.extract_eq_drop_take];rfl
theorem Ng (o:Ordd U R){l:List Keyed}(u: ∀x∈l,U x)(s:Srt R l){z:Keyed}(hz:l[l.length-1]? =some z){x:Keyed}(hx:x∈l):R z x=false:=by
 obtain⟨i,hi,e⟩:=O3 hx;exact Yj s o u (show i<=l.length-1 by omega) (by rw [G0 hi,e]) hz
theorem PF (o:Ordd U R){l:List Keyed}(u: ∀x∈l,U x)(s:Srt R l){z:Keyed}(hz:l[0]? =some z){x:Keyed}(hx:x∈l):R x z=false:=by
 obtain⟨i,hi,e⟩:=O3 hx;exact Yj s o u (T4 _) hz (by rw [G0 hi,e])
theorem Ym (o:Ordd U R){X Y c:List Keyed}{k k2:Nat}{y0 x9:Keyed}(uX: ∀x∈X,U x)(uY: ∀x∈Y,U x)(sX:Srt R X)(sY:Srt R Y)(hy:Y[0]? =some y0)(hx:X[X.length-1]? =some x9)
 (f1: ∀x∈X.take k,R y0 x=false)(g2: ∀y∈Y.drop k2,R y x9=false)(hp:c.Perm (X.drop k++Y.take k2))(sc:Srt R c):(X.take k++c++Y.drop k2).Perm (X++Y)/\Srt R (X.take k++c++Y.drop k2):=by
 have uy0:=uY y0 (G5 hy);have ux9:=uX x9 (G5 hx);constructor
 ·have e:X++Y=X.take k++(X.drop k++Y.take k2)++Y.drop k2:=by
   rw [<-G8,R4,G8,R4]
  rw [e];exact(hp.append_left _).append_right _
 ·have inX: ∀x∈X.take k,∀z∈X.drop k,R z x=false:=λx hx z hz=>by
   have:Srt R (X.take k++X.drop k):=by rw [R4];exact sX
   exact(R6.mp this).2.2 x hx z hz
  have inY: ∀x∈Y.take k2,∀z∈Y.drop k2,R z x=false:=λx hx z hz=>by
   have:Srt R (Y.take k2++Y.drop k2):=by rw [R4];exact sY
   exact(R6.mp this).2.2 x hx z hz
  have xy: ∀x∈X.take k,∀y∈Y,R y x=false:=λx hx y hy'=>o.trans (uX x (N8 hx)) uy0 (uY y hy') (f1 x hx) (PF o uY sY hy hy')
  have yx: ∀x∈X,∀y∈Y.drop k2,R y x=false:=λx hx' y hy'=>o.trans (uX x hx') ux9 (uY y (M5 hy')) (Ng o uX sX hx hx') (g2 y hy')
  have xc: ∀x∈X.take k,∀z∈c,R z x=false:=λx hx z hz=>by
   rcases D0.mp (hp.mem_iff.mp hz) with v|v
   ·exact inX x hx z v
   ·exact xy x hx z (N8 v)
  refine R6.mpr ⟨R6.mpr ⟨sX.sublist (A3 _ _),sc,xc⟩,sY.sublist (C9 _ _),λx hx y hy=> ?_⟩;rcases D0.mp hx with v|v
  ·exact xy x v y (M5 hy)
  ·rcases D0.mp (hp.mem_iff.mp v) with v|v
   ·exact yx x (M5 v) y hy
   ·exact inY x v y hy
theorem XX (l:List Keyed){p n m:Nat}:l=l.take p++(seg l p n++seg l (p+n) m)++l.drop (p+n+m):=by
 unfold seg;have e1:(l.drop (p+n)).take m++l.drop (p+n+m)=l.drop (p+n):=by
  rw [show l.drop (p+n+m)=(l.drop (p+n)).drop m by rw [E9],R4]
 have e2:(l.drop p).take n++l.drop (p+n)=l.drop p:=by
  rw [show l.drop (p+n)=(l.drop p).drop n by rw [E9],R4]
 rw [G8,G8,e1,e2,R4]
theorem SH {st:SortSt}{Q:Bool->SortSt->Prop}{i sa na pw sb nb pw2:Nat}(ak:Us prog w A J κ U R)(kd:kindOf st=κ)(o:Ordd U R)(u: ∀x∈(arrOf st).toList,U x)(p1:(pendingOf st)[i]? =some (sa,na,pw))(p2:(pendingOf st)[i+1]? =some (sb,nb,pw2))
 (hs:sa+na=sb)(n1:1<=na)(n2:1<=nb)(hz:sb+nb<=(arrOf st).size)(s1:Srt R (seg (arrOf st).toList sa na))(s2:Srt R (seg (arrOf st).toList sb nb))(hf:failedOf st=none)
 (q: ∀st' Z,kindOf st'=κ->failedOf st'=none->pendingOf st'=((pendingOf st).setIfInBounds i (sa,na+nb,pw)).eraseIdxIfInBounds (i+1)->(arrOf st').toList=(arrOf st).toList.take sa++Z++(arrOf st).toList.drop (sb+nb)->Z.Perm (seg (arrOf st).toList sa na++seg (arrOf st).toList sb nb)->Srt R Z->Q true st'):
 Tm prog w A E J (mergeAt' i) Q st:=by
 have ln:(arrOf st).toList.length=(arrOf st).size:=by simp
 unfold mergeAt';refine .bind (.get ?_);dsimp only;rw [p1,p2];dsimp only;refine .bind (Tm.set ?_);subst hs;have lX:(seg (arrOf st).toList sa na).length=na:=Yl (by omega);have lY:(seg (arrOf st).toList (sa+na) nb).length=nb:=Yl (by omega);have uX: ∀x∈seg (arrOf st).toList sa na,U x:=λx hx=>u x (Gx hx)
 have uY: ∀x∈seg (arrOf st).toList (sa+na) nb,U x:=λx hx=>u x (Gx hx)
 obtain⟨y0,ly0,ey0⟩:=Yk (arr:=arrOf st) (show sa+na<(arrOf st).size by omega);obtain⟨x9,lx9,ex9⟩:=Yk (arr:=arrOf st) (show sa+(na-1)<(arrOf st).size by omega);have hy:(seg (arrOf st).toList (sa+na) nb)[0]? =some y0:=by rw [VA (by omega)];exact ly0
 have hx:(seg (arrOf st).toList sa na)[(seg (arrOf st).toList sa na).length-1]? =some x9:=by rw [lX,VA (by omega)];exact lx9
 have uy0:=u y0 (G5 ly0);have ux9:=u x9 (G5 lx9);have c3:=XX (arrOf st).toList (p:=sa) (n:=na) (m:=nb);have same: ∀ (st':SortSt),arrOf st'=arrOf st-> ∀k k2,(∀x∈(seg (arrOf st).toList sa na).take k,R y0 x=false)->(∀y∈(seg (arrOf st).toList (sa+na) nb).drop k2,R y x9=false)->(na<=k\/k2=0)->Srt R (seg (arrOf st).toList sa na++seg (arrOf st).toList (sa+na) nb):=λst' e k k2 f1 g2 h=>by
  have pl:(((seg (arrOf st).toList sa na).drop k++(seg (arrOf st).toList (sa+na) nb).take k2)).Perm ((seg (arrOf st).toList sa na).drop k++(seg (arrOf st).toList (sa+na) nb).take k2):= .refl _;have sc:Srt R ((seg (arrOf st).toList sa na).drop k++(seg (arrOf st).toList (sa+na) nb).take k2):=by
   rcases h with h|h
   ·rw [N6 (by omega),B2];exact s2.sublist (A3 _ _)
   ·rw [h,G1d,B9];exact s1.sublist (C9 _ _)
  have:=(Ym o uX uY s1 s2 hy hx f1 g2 pl sc).2;rw [<-G8,R4,G8,R4] at this;exact this
 refine .bind (.elem ey0 (.bind (KP (left:=false) ak kd o u s1 uy0 (show sa+na<=(arrOf st).size by omega) (by omega) λk k1 f1 f2=> ?_)));have f1: ∀x∈(seg (arrOf st).toList sa na).take k,R y0 x=false:=λx hx=>by simpa using f1 x hx
 have f2: ∀x∈(seg (arrOf st).toList sa na).drop k,R y0 x=true:=λx hx=>by simpa using f2 x hx
 dsimp only
 by_cases z1:na-k=0
 ·rw [if_pos (by simpa using z1)];refine .pure (q _ (seg (arrOf st).toList sa na++seg (arrOf st).toList (sa+na) nb) kd hf rfl c3 (.refl _) (same st rfl k nb f1 (λy hy=> ?_) (.inl (by omega))));rw [N6 (by omega)] at hy;cases hy
 rw [if_neg (by simpa using z1)];refine .bind (.elem (show _=some x9 by rw [show sa+k+(na-k)-1=sa+(na-1) by omega];exact ex9) (.bind (KP (left:=true) ak kd o u s2 ux9 (show sa+na+nb<=(arrOf st).size by omega) (by omega) λk2 j1 g1 g2=> ?_)));have g1: ∀y∈(seg (arrOf st).toList (sa+na) nb).take k2,R y x9=true:=λx hx=>by simpa using g1 x hx
 have g2: ∀y∈(seg (arrOf st).toList (sa+na) nb).drop k2,R y x9=false:=λx hx=>by simpa using g2 x hx
 dsimp only
 by_cases z2:k2=0
 ·rw [if_pos (by simpa using z2)];exact .pure (q _ _ kd hf rfl c3 (.refl _) (same st rfl k k2 f1 g2 (.inr z2)))
 rw [if_neg (by simpa using z2)];have eX:((arrOf st).extract (sa+k) (sa+na)).toList=(seg (arrOf st).toList sa na).drop k:=by
  rw [Nf _ (by omega)];unfold seg;rw [G1e,E9,show sa+na-(sa+k)=na-k by omega]
 have eY:((arrOf st).extract (sa+na) (sa+na+k2)).toList=(seg (arrOf st).toList (sa+na) nb).take k2:=by
  rw [Nf _ (by omega)];unfold seg;rw [G1f,show sa+na+k2-(sa+na)=min k2 nb by omega]
 have sx:((arrOf st).extract (sa+k) (sa+na)).size=na-k:=by rw [<-T7,eX,S4,lX]
 have sy:((arrOf st).extract (sa+na) (sa+na+k2)).size=k2:=by rw [<-T7,eY,R3,lY];omega
 have hx2: ∀z,((seg (arrOf st).toList sa na).drop k)[((seg (arrOf st).toList sa na).drop k).length-1]? =some z->z=x9:=λz hz'=>by
  rw [S4,E6,lX,show k+(na-k-1)=na-1 by omega] at hz';rw [lX] at hx;rw [hx] at hz';injection hz' with hz';exact hz'.symm
 have hy2: ∀z,((seg (arrOf st).toList (sa+na) nb).take k2)[0]? =some z->z=y0:=λz hz'=>by
  rw [U7 (by omega),hy] at hz';injection hz' with hz';exact hz'.symm
 have put: ∀c:Array Keyed,Ji R ((arrOf st).extract (sa+k) (sa+na)) ((arrOf st).extract (sa+na) (sa+na+k2)) c->(c.toList.zipIdx.foldl (λ(d:Array Keyed) (x:Keyed×Nat)=>d.setIfInBounds (sa+k+x.2) x.1) (arrOf st)).toList=(arrOf st).toList.take sa++((seg (arrOf st).toList sa na).take k++c.toList++(seg (arrOf st).toList (sa+na) nb).drop k2)++(arrOf st).toList.drop (sa+na+nb):=λc wh=>by
  have lc:c.toList.length=na-k+k2:=by
   rw [wh.1.length_eq,G7,T7,T7,sx,sy]
  have:=PD c.toList (arrOf st) (sa+k) 0 (by omega);rw [this,lc,G0W,show sa+k+(na-k+k2)=sa+na+k2 by omega];have e1:(arrOf st).toList.take (sa+k)=(arrOf st).toList.take sa++(seg (arrOf st).toList sa na).take k:=by
   unfold seg;rw [G1f,A8 k1,List.take_add]
  have e2:(arrOf st).toList.drop (sa+na+k2)=(seg (arrOf st).toList (sa+na) nb).drop k2++(arrOf st).toList.drop (sa+na+nb):=by
   unfold seg;have h1:((arrOf st).toList.drop (sa+na)).drop k2=(((arrOf st).toList.drop (sa+na)).take nb++((arrOf st).toList.drop (sa+na)).drop nb).drop k2:=by rw [R4]
   rw [O8 (by rw [R3,S4];omega),E9,E9] at h1;exact h1
  rw [e1,e2];simp [G8]
 have jr: ∀c:Array Keyed,Ji R ((arrOf st).extract (sa+k) (sa+na)) ((arrOf st).extract (sa+na) (sa+na+k2)) c->_:=λc wh=>Ym o (c:=c.toList) uX uY s1 s2 hy hx f1 g2 (by have:=wh.1;rw [eX,eY] at this;exact this) wh.2
 by_cases z3:na-k<=k2
 ·rw [if_pos z3];refine .bind (SF ak kd ⟨o,λx hx=> ?_,λx hx=> ?_,?_,?_,λy hy z hz'=> ?_⟩ (by rw [sx];omega) (by rw [sy];omega) (λy z hy' hz'=> ?_) λc st' gl wh=> .bind (Tm.modify (.bind (.get (.pure ?_)))))
  ·rw [eX] at hx;exact uX x (M5 hx)
  ·rw [eY] at hx;exact uY x (N8 hx)
  ·rw [eX];exact s1.sublist (C9 _ _)
  ·rw [eY];exact s2.sublist (A3 _ _)
  ·rw [eY] at hy;rw [eX] at hz';rw [hx2 z hz'];exact g1 y hy
  ·rw [eY] at hy';rw [eX] at hz';rw [hy2 y hy'];exact f2 z (G5 hz')
  ·have e:failedOf st'=none:=gl.2.2.2.trans hf;show Q (failedOf st').isNone _;rw [e];refine q _ _ (gl.1.trans kd) e gl.2.2.1 ?_ (jr c wh).1 (jr c wh).2;have ea:arrOf st'=arrOf st:=gl.2.1;show (c.toList.zipIdx.foldl _ (arrOf st')).toList=_;rw [ea];exact put c wh
 ·rw [if_neg z3];refine .bind (SG ak kd ⟨o,λx hx=> ?_,λx hx=> ?_,?_,?_,λz hz' y hy'=> ?_⟩ (by rw [sx];omega) (by rw [sy];omega) (λy z hy' hz'=> ?_) λc st' gl wh=> .bind (Tm.modify (.bind (.get (.pure ?_)))))
  ·rw [eX] at hx;exact uX x (M5 hx)
  ·rw [eY] at hx;exact uY x (N8 hx)
  ·rw [eX];exact s1.sublist (C9 _ _)
  ·rw [eY];exact s2.sublist (A3 _ _)
  ·rw [eY] at hy';rw [eX] at hz';rw [hy2 y hy'];exact f2 z hz'
  ·rw [eY] at hy';rw [eX,sx] at hz';have:=hx2 z (by rw [S4,lX];exact hz');rw [this];exact g1 y (G5 hy')
  ·have e:failedOf st'=none:=gl.2.2.2.trans hf;show Q (failedOf st').isNone _;rw [e];refine q _ _ (gl.1.trans kd) e gl.2.2.1 ?_ (jr c wh).1 (jr c wh).2;have ea:arrOf st'=arrOf st:=gl.2.1;show (c.toList.zipIdx.foldl _ (arrOf st')).toList=_;rw [ea];exact put c wh
end
section
variable {prog:Program}{w:World}{A:Around}{E:Value->Shared->Prop}{J:Shared->Prop}{κ:SortKind}{U:Keyed->Prop}{R:Keyed->Keyed->Bool}
def Lies (st:SortSt)(P Z S:List Keyed):Prop:=(arrOf st).toList=P++Z++S
def Arr (st st':SortSt):Prop:=kindOf st'=kindOf st/\pendingOf st'=pendingOf st/\failedOf st'=failedOf st/\gallopOf st'=gallopOf st
theorem Arr.refl (st:SortSt):Arr st st:=⟨rfl,rfl,rfl,rfl⟩
theorem CF (xs:Array Keyed)(P Z S:List Keyed)(h:xs.toList=P++Z++S):(mirror xs P.length (P.length+Z.length) ((P.length+Z.length-P.length) / 2)).toList=P++Z.reverse++S:=by
 have hl:xs.size=P.length+Z.length+S.length:=by rw [<-T7,h];simp [V8]
 refine A6 λk=> ?_
 rw [S6,getElem?_mirror_all (by omega)]
 by_cases c:P.length<=k/\k<P.length+Z.length
 ·rw [if_pos c,<-S6,h,G8,G8];have e1:(P++(Z++S))[P.length+(P.length+Z.length)-1-k]? =Z[P.length+Z.length-1-k]? :=by
   rw [P7 (by omega),D9 (by omega)]
   congr 1;omega
  have e2:(P++(Z.reverse++S))[k]? =Z[P.length+Z.length-1-k]? :=by
   rw [P7 (by omega),D9 (by rw [S8];omega),Q7 (by omega)]
   congr 1;omega
  rw [e1,e2]
 ·rw [if_neg c,<-S6,h,G8,G8]
  by_cases d:k<P.length
  ·rw [D9 d,D9 d]
  ·have e1:(P++(Z++S))[k]? =S[k-P.length-Z.length]? :=by
    rw [P7 (by omega),P7 (by omega)]
   have e2:(P++(Z.reverse++S))[k]? =S[k-P.length-Z.length]? :=by
    rw [P7 (by omega),P7 (by rw [S8];omega),S8]
   rw [e1,e2]
theorem Tm.rev {st:SortSt}{P Z S:List Keyed}{i j:Nat}{Q:Unit->SortSt->Prop}(h:Lies st P Z S)(hi:i=P.length)(hj:j=P.length+Z.length)(q: ∀st',Arr st st'->Lies st' P Z.reverse S->Q () st'):Tm prog w A E J (reverseSlice' i j) Q st:=by
 rw [reverseSlice'_eq];subst hi hj;exact .modify (q _ ⟨rfl,rfl,rfl,rfl⟩ (CF _ P Z S h))
theorem Tm.ltAt {st:SortSt}{x y:Keyed}{i j:Nat}{Q:Option Bool->SortSt->Prop}(ak:Us prog w A J κ U R)(kd:kindOf st=κ)(hx:(arrOf st).toList[i]? =some x)(hy:(arrOf st).toList[j]? =some y)(ux:U x)(uy:U y)(q:Q (some (R x y)) st):Tm prog w A E J (ltAt' i j) Q st:=by
 rw [ltAt'_eq];exact .bind (.get (.bind (.elem (by rw [<-S6];exact hx) (.bind (.elem (by rw [<-S6];exact hy) (.lt ak kd ux uy q))))))
abbrev Dsc (R:Keyed->Keyed->Bool)(l:List Keyed):Prop:=l.Pairwise λx y=>R x y=false
theorem OG {l:List Keyed}(d:Dsc R l):Srt R l.reverse:=X6.mpr d
theorem CG (o:Ordd U R){l:List Keyed}{x y:Keyed}(u: ∀z∈l++ [x],U z)(uy:U y)(s:Srt R (l++ [x]))(h:R y x=false):Srt R (l++ [x]++ [y]):=by
 refine R6.mpr ⟨s,M6 _ _,λz hz v hv=> ?_⟩;rw [G3.mp hv];have ux:=u x (by simp);rcases D0.mp hz with w|w
 ·exact o.trans (u z hz) ux uy ((R6.mp s).2.2 z w x (by simp)) h
 ·rw [G3.mp w];exact h
theorem CH {l m:List Keyed}(s:Dsc R (l++m))(alike: ∀x∈m,∀y∈m,R x y=false):Dsc R (l++m.reverse):=by
 obtain⟨a,b,c⟩:=R6.mp s;refine R6.mpr ⟨a,?_,λx hx y hy=>c x hx y (C8.mp hy)⟩;rw [F6];intro i j hi hj _;exact alike _ (C8.mp (M1 hi)) _ (C8.mp (M1 hj))
end
section
variable {prog:Program}{w:World}{A:Around}{E:Value->Shared->Prop}{J:Shared->Prop}{κ:SortKind}{U:Keyed->Prop}{R:Keyed->Keyed->Bool}
theorem Arr.trans {a b c:SortSt}(x:Arr a b)(y:Arr b c):Arr a c:=⟨y.1.trans x.1,y.2.1.trans x.2.1,y.2.2.1.trans x.2.2.1,y.2.2.2.trans x.2.2.2⟩
variable {P Z:List Keyed}
theorem Lies.rest {st:SortSt}{S:List Keyed}(h:Lies st P Z S){i:Nat}:(arrOf st).toList[P.length+Z.length+i]? =S[i]? :=by
 rw [h,P7 (by rw [G7];omega),G7]
 congr 1;omega
theorem Lies.end {st:SortSt}{W S:List Keyed}{x:Keyed}(h:Lies st P (W++ [x]) S):(arrOf st).toList[P.length+W.length]? =some x:=by
 rw [h,G8,P7 (by omega),G8,P7 (by omega)];simp
theorem VB {l:List Keyed}(h:1<=l.length): ∃W x,l=W++ [x]:=by
 rcases List.eq_nil_or_concat l with e|⟨W,x,e⟩
 ·subst e;simp at h
 ·exact⟨W,x,by rw [e,List.concat_eq_append]⟩
structure Fall (R:Keyed->Keyed->Bool)(T Z1 Z2:List Keyed)(n:Nat):Prop where
 len:(Z1++Z2).length=n
 perm:(Z1++Z2).Perm (T.take n)
 dsc:Dsc R (Z1++Z2)
 alike: ∀x∈Z2,∀y∈Z2,R x y=false
 ne:1<=Z2.length
variable {T:List Keyed}{n:Nat}
theorem Fall.turn {Z1 Z2:List Keyed}(f:Fall R T Z1 Z2 n):Fall R T Z1 Z2.reverse n:=
 ⟨by have:=f.len;simp only [G7,S8] at this ⊢;exact this,((O0 Z2).append_left Z1).trans f.perm,CH f.dsc f.alike,λx hx y hy=>f.alike x (C8.mp hx) y (C8.mp hy),by rw [S8];exact f.ne⟩
theorem Fall.mem {Z1 Z2:List Keyed}(f:Fall R T Z1 Z2 n){x:Keyed}(h:x∈Z1++Z2):x∈T:=N8 (f.perm.mem_iff.mp h)
theorem Zj {y:Keyed}(h:Z.Perm (T.take n))(hy:T[n]? =some y):(Z++ [y]).Perm (T.take (n+1)):=by
 rw [Yi hy];exact h.append_right _
theorem Fall.below (o:Ordd U R){T Z1 Z2:List Keyed}{n:Nat}{x y:Keyed}(u: ∀x∈T,U x)(f:Fall R T Z1 Z2 n)(hx:x∈Z2)(hy:T[n]? =some y)(h:R y x=true):Fall R T (Z1++Z2) [y] (n+1):=by
 have uy:=u y (G5 hy);have ux:=u x (f.mem (D0.mpr (.inr hx)));have xy:=o.asym y x uy ux h;refine⟨by rw [G7,f.len];rfl,Zj f.perm hy,?_,λa ha b hb=> ?_,by simp⟩
 ·refine R6.mpr ⟨f.dsc,M6 _ _,λz hz v hv=> ?_⟩;rw [G3.mp hv];have uz:=u z (f.mem hz);have zx:R z x=false:=by
   rcases D0.mp hz with w|w
   ·exact(R6.mp f.dsc).2.2 z w x hx
   ·exact f.alike z w x hx
  exact o.trans uy ux uz xy zx
 ·rw [G3.mp ha,G3.mp hb];exact o.refl uy
theorem Fall.like (o:Ordd U R){T Z1 Z2:List Keyed}{n:Nat}{x y:Keyed}(u: ∀x∈T,U x)(f:Fall R T Z1 Z2 n)(hx:x∈Z2)(hy:T[n]? =some y)(h:R y x=false)(h':R x y=false):Fall R T Z1 (Z2++ [y]) (n+1):=by
 have uy:=u y (G5 hy);have ux:=u x (f.mem (D0.mpr (.inr hx)));have zy: ∀z∈Z1++Z2,R z y=false:=λz hz=>by
  have uz:=u z (f.mem hz);have zx:R z x=false:=by
   rcases D0.mp hz with w|w
   ·exact(R6.mp f.dsc).2.2 z w x hx
   ·exact f.alike z w x hx
  exact o.trans uy ux uz h' zx
 have yz: ∀z∈Z2,R y z=false:=λz hz=>o.trans (u z (f.mem (D0.mpr (.inr hz)))) ux uy (f.alike x hx z hz) h
 refine⟨by rw [<-G8,G7,f.len];rfl,by rw [<-G8];exact Zj f.perm hy,?_,λa ha b hb=> ?_,by simp⟩
 ·rw [<-G8];refine R6.mpr ⟨f.dsc,M6 _ _,λz hz v hv=> ?_⟩;rw [G3.mp hv];exact zy z hz
 ·rcases D0.mp ha with p|p<;>rcases D0.mp hb with r|r
  ·exact f.alike a p b r
  ·rw [G3.mp r];exact zy a (D0.mpr (.inr p))
  ·rw [G3.mp p];exact yz b r
  ·rw [G3.mp p,G3.mp r];exact o.refl uy
theorem Lies.more {st:SortSt}{m:Nat}{y:Keyed}(L:Lies st P Z (T.drop m))(hy:T[m]? =some y):Lies st P (Z++ [y]) (T.drop (m+1)):=by
 unfold Lies at L ⊢;rw [L,zw hy];simp
theorem Lies.part {st:SortSt}{Z1 Z2 S:List Keyed}:Lies st P (Z1++Z2) S↔Lies st (P++Z1) Z2 S:=by
 unfold Lies;simp only [List.append_assoc]
theorem Lies.two {st:SortSt}{m:Nat}{y:Keyed}(L:Lies st P Z (T.drop m))(lz:Z.length=m)(m1:1<=m)(hy:T[m]? =some y):(arrOf st).toList[P.length+m]? =some y/\ ∃W x,Z=W++ [x]/\(arrOf st).toList[P.length+m-1]? =some x:=by
 have a:=L.rest (i:=0);rw [E6,lz,G0W,G0W,hy] at a;obtain⟨W,x,e⟩:=VB (l:=Z) (by omega);subst e;refine⟨a,W,x,rfl,?_⟩;rw [<-L.end]
 congr 1
 rw [G7,F8] at lz;omega
section
variable {σ ρ τ α:Type}{st:σ}
theorem Tm.rangeN {f:Nat->Option ρ×τ->StateT σ Sem (ForInStep (Option ρ×τ))}(I:Nat->τ->σ->Prop){Q:τ->σ->Prop}{Q':Option ρ×τ->σ->Prop}{a b:Nat}{c:τ}(hab:a<=b)(h:I a c st)(step: ∀i c st,i<b->I i c st->Tm prog w A E J (f i (none,c)) (λr st'=>match r with| .done c'=>c'.1=none/\Q c'.2 st'| .yield c'=>c'.1=none/\I (i+1) c'.2 st') st)(fin: ∀c st,I b c st->Q c st)(q: ∀c st,Q c st->Q' (none,c) st):Tm prog w A E J (forIn [a:b] ((none:Option ρ),c) f) Q' st:=by
 refine Tm.mono (Tm.range (λi c st=>c.1=none/\I i c.2 st) (Q:=λc st=>c.1=none/\Q c.2 st) hab ⟨rfl,h⟩ ?_ λc st h=>⟨h.1,fin _ _ h.2⟩) ?_
 ·rintro i ⟨_,c⟩ st hi ⟨rfl,h⟩;exact(step i c st hi h).mono λr st' x=>by cases r<;>exact x
 ·rintro ⟨_,c⟩ st ⟨rfl,h⟩;exact q c st h
theorem Tm.fork {c:Prop}[Decidable c]{t e:StateT σ Sem α}{Q:α->σ->Prop}(I:σ->Prop)(G: ∀s,I s->Tm prog w A E J e Q s)(T:c->(∀s,I s->Tm prog w A E J e Q s)->Tm prog w A E J t Q st)(F: ¬c->I st):Tm prog w A E J (if c then t else e) Q st:=
 .if2 (λh=>T h G) λh=>G _ (F h)
end
section
variable {st:SortSt}{P T Z:List Keyed}{m:Nat}
theorem Nh {f:Nat->Option (Option Nat)×Nat->StateT SortSt Sem (ForInStep (Option (Option Nat)×Nat))}{G:Nat->Option Bool->StateT SortSt Sem (ForInStep (Option (Option Nat)×Nat))}{Q:Option (Option Nat)×Nat->SortSt->Prop}(ak:Us prog w A J κ U R)(kd:kindOf st=κ)(o:Ordd U R)(u: ∀x∈T,U x)
 (hf: ∀i n,f i (none,n)=ltAt' (P.length+n) (P.length+n-1) >>= G n)(hG: ∀n,G n (some true)=Pure.pure (.done (none,n))/\G n (some false)=Pure.pure (.yield (none,n+1)))
 (m1:1<=m)(m2:m<=T.length)(L:Lies st P Z (T.drop m))(p:Z.Perm (T.take m))(s:Srt R Z)
 (q: ∀n Z',1<=n->n<=T.length->Lies st P Z' (T.drop n)->Z'.Perm (T.take n)->Srt R Z'->(∀y,T[n]? =some y-> ∃W x,Z'=W++ [x]/\R y x=true)->Q (none,n) st):Tm prog w A E J (forIn [m:T.length] ((none:Option (Option Nat)),m) f) Q st:=by
 refine Tm.rangeN (λi c s=>s=st/\c=i/\1<=i/\ ∃Z,Lies st P Z (T.drop i)/\Z.Perm (T.take i)/\Srt R Z) (Q:=λn s=>s=st/\Q (none,n) st) m2 ⟨rfl,rfl,m1,Z,L,p,s⟩ ?_ ?_ λc s h=>h.1 ▸ h.2
 ·rintro _ i _ hi ⟨rfl,rfl,i1,Z,L,p,s⟩;have hy:=G0 hi;obtain⟨ay,W,x,rfl,ax⟩:=L.two (by rw [p.length_eq,R3,A8 (D5 hi)]) i1 hy;have uy:=u _ (M1 hi);have uZ: ∀z∈W++ [x],U z:=λz hz=>u z (N8 (p.mem_iff.mp hz))
  rw [hf];refine .bind (.ltAt ak kd ay ax uy (uZ x (by simp)) ?_);cases hb:R T[i] x with
  |true=>
   rw [(hG _).1];exact .pure ⟨rfl,rfl,q i _ i1 (D5 hi) L p s λy h=>⟨W,x,rfl,by rw [hy] at h;injection h with h;rw [<-h];exact hb⟩⟩
  |false=>
   rw [(hG _).2];exact .pure ⟨rfl,rfl,rfl,X8 (T4 _),_,L.more hy,Zj p hy,CG o uZ uy s hb⟩
 ·rintro _ _ ⟨rfl,rfl,i1,Z,L,p,s⟩;exact⟨rfl,q _ Z i1 (G9 _) L p s λy h=>absurd (G6.mp h).1 (S7 _)⟩
end
def Fell (R:Keyed->Keyed->Bool)(P T:List Keyed)(st st':SortSt)(n k:Nat):Prop:=Arr st st'/\ ∃Z1 Z2,Lies st' P (Z1++Z2) (T.drop n)/\Fall R T Z1 Z2 n/\Z2.length=k+1
theorem Fell.rev {st s2:SortSt}{k:Nat}{Q:Unit->SortSt->Prop}(h:Fell R P T st s2 n k)(q: ∀s3,Fell R P T st s3 n k->Q () s3):Tm prog w A E J (reverseSlice' (P.length+n-(k+1)) (P.length+n)) Q s2:=by
 obtain⟨ar,Z1,Z2,L,F,l⟩:=h;have l12:=F.len;rw [G7] at l12;exact .rev (Lies.part.mp L) (by rw [G7];omega) (by rw [G7];omega) λs3 ar3 L3=>q s3 ⟨ar.trans ar3,Z1,_,Lies.part.mpr L3,F.turn,by rw [S8];exact l⟩
theorem CI {st:SortSt}{Q:Option Nat->SortSt->Prop}(ak:Us prog w A J κ U R)(kd:kindOf st=κ)(o:Ordd U R)(u: ∀x∈T,U x)(h:Lies st P [] T)(h1:1<=T.length)
 (q: ∀n st' Z,1<=n->n<=T.length->Arr st st'->Lies st' P Z (T.drop n)->Z.Perm (T.take n)->Srt R Z->Q (some n) st'):Tm prog w A E J (countRun' P.length T.length) Q st:=by
 refine .bind (Nh (m:=1) (Z:=T.take 1) ak kd o u (by exact λi n=>rfl) (by exact λn=>⟨rfl,rfl⟩) (G9 _) h1 ?_ (.refl _) ?_ λn Z n1 n2 L p sr br=> ?_)
 ·unfold Lies at h ⊢;rw [h,B9,G8,R4]
 ·match T,h1 with
  |x::r,_=>exact M6 _ _
 refine .eq2 (x:=n) (y:=T.length) (λz1=> .pure (q n _ _ n1 n2 (Arr.refl _) L p sr)) λz1=> ?_
 have n3:n<T.length:=C3 n2 z1;have hy:=G0 n3;have uZ: ∀z∈Z,U z:=λz hz=>u z (N8 (p.mem_iff.mp hz))
 obtain⟨W,x,e,yx⟩:=br _ hy;have lz:Z.length=n:=by rw [p.length_eq,R3,A8 n2]
 have xin:x∈Z:=by rw [e];simp
 have xl:Z[Z.length-1]? =some x:=by rw [e];simp
 have F0:(∀p∈Z,∀r∈Z,R p r=false)->Fall R T [] Z n:=λal=>⟨lz,p,F6.mpr λi j hi hj _=>al _ (M1 hi) _ (M1 hj),al,by rw [lz];exact n1⟩
 refine Tm.fork (λs=>Fell R P T st s (n+1) 0) ?_ ?_ ?_
 ·intro s1 F1;refine .bind (.rule (.bind (Tm.rangeN (λi c s=>c.1=i/\Fell R P T st s c.1 c.2) (Q:=λc s=>c.1<=T.length/\Fell R P T st s c.1 c.2) n3 ⟨rfl,F1⟩ ?_ (λc s h=>⟨E4 h.1,h.2⟩) ?_)))
  ·intro i c s2 hi h2;have hc:c.1<T.length:=by rw [h2.1];exact hi
   have hy:=G0 hc;have uy:=u _ (M1 hc);obtain⟨e1,ar2,Z1,Z2,L2,F2,l2⟩:=h2;have l12:=F2.len;obtain⟨ay,W,x,eW,ax⟩:=L2.two l12 (by rw [<-l12,G7,l2];exact Q6 _ _) hy;have xin:x∈Z2:=by
    obtain⟨V,v,e⟩:=VB F2.ne;have e':=congrArg List.getLast? eW;rw [e,<-G8,G09,G09] at e';injection e' with e'
    rw [e,<-e'];simp
   have ux:=u x (F2.mem (D0.mpr (.inr xin)));refine .bind (.ltAt ak (ar2.1.trans kd) ay ax uy ux (.if2 (c:=R _ x=true) (λhb=> ?_) λhb=> .bind (.ltAt ak (ar2.1.trans kd) ax ay ux uy (.if2 (c:=R x _=true) (λhc'=> .pure ⟨rfl,D5 hc,ar2,Z1,Z2,L2,F2,l2⟩) λhc'=> ?_))))
   ·refine Tm.fork (λs=>Fell R P T st s (c.1+1) 0) (λs h=> .pure ⟨rfl,congrArg Nat.succ e1,h⟩) (λzq H=> .bind ?_) λzq=>⟨ar2,Z1++Z2,[T[c.1]],L2.more hy,F2.below o u xin hy hb,rfl⟩
    have l12':=l12;rw [G7] at l12';exact .rev (Lies.part.mp L2) (by rw [List.length_append];dsimp only;omega) (by rw [List.length_append];dsimp only;omega) λs3 ar3 L3=>H s3 ⟨ar2.trans ar3,Z1++Z2.reverse,[T[c.1]],(Lies.part.mpr L3).more hy,F2.turn.below o u (List.mem_reverse.mpr xin) hy hb,rfl⟩
   ·refine .pure ⟨rfl,congrArg Nat.succ e1,ar2,Z1,Z2++ [T[c.1]],?_,F2.like o u xin hy (J8.mpr hb) (J8.mpr hc'),by rw [G7,l2];rfl⟩;rw [<-G8];exact L2.more hy
  ·intro c s2 h2;refine Tm.fork (λs=> ∃k,Fell R P T st s c.1 k) ?_ (λzq H=> .bind (h2.2.rev λs h=>H s ⟨_,h⟩)) λzq=>⟨_,h2.2⟩
   intro s3 h3;obtain⟨k,ar3,Z1,Z2,L3,F3,l3⟩:=h3;have m1:1<=c.1:=by rw [<-F3.len,G7,l3];exact Q6 _ _
   exact .bind (.rev L3 rfl (by rw [F3.len]) λs4 ar4 L4=> .bind (Nh ak ((ar3.trans ar4).1.trans kd) o u (by exact λi n=>rfl) (by exact λn=>⟨rfl,rfl⟩) m1 h2.1 L4 ((O0 _).trans F3.perm) (OG F3.dsc) λn Z n1 n2 L p sr _=> .pure (q n s4 Z n1 n2 (ar3.trans ar4) L p sr)))
 ·intro z2 H;obtain⟨x0,V,eV⟩: ∃x0 V,Z=x0::V:=by
   match Z,xin with
   |a::r,_=>exact⟨a,r,rfl⟩
  have ux:=uZ x xin;have ux0:=uZ x0 (by rw [eV];simp);have a0:(arrOf st).toList[P.length]? =some x0:=by rw [L,eV];simp
  have a1:(arrOf st).toList[P.length+n-1]? =some x:=by
   obtain⟨_,W',x',e',ax⟩:=L.two lz n1 hy;rw [e] at e';rw [ax,(List.append_inj' e' rfl).2 |> λh=>(List.cons.inj h).1]
  exact .bind (.ltAt ak kd a0 a1 ux0 ux (.if2 (c:=R x0 x=true) (λ_=> .pure (q n _ _ n1 n2 (Arr.refl _) L p sr)) λhr0=> .bind (.rev L rfl (by rw [lz]) λs1 ar1 L1=>H s1 ⟨ar1,_,_,L1.more hy,Fall.below o u (Z1:= []) (Fall.turn (F0 λp hp r hr=>o.trans (uZ r hr) ux (uZ p hp) (Ng o uZ sr xl hr) (J8.mpr λv=>(o.neg p x0 x (uZ p hp) ux0 ux v).elim (λv=>by rw [PF o uZ sr (z:=x0) (by rw [eV];rfl) hp] at v;cases v) hr0))) (C8.mpr xin) hy yx,rfl⟩)))
 ·intro z2;have w0:W= []:=F7 (by rw [e,G7,F8] at lz;omega);have f: ∀z∈Z,z=x:=λz hz=>by rw [e,w0] at hz;exact G3.mp hz
  exact⟨Arr.refl st,_,_,L.more hy,Fall.below o u (Z1:= []) (F0 λp hp r hr=>by rw [f p hp,f r hr];exact o.refl (uZ x xin)) xin hy yx,rfl⟩
end
section
variable {prog:Program}{w:World}{A:Around}{E:Value->Shared->Prop}{J:Shared->Prop}{κ:SortKind}{U:Keyed->Prop}{R:Keyed->Keyed->Bool}
theorem CJ (xs:Array Keyed)(P Z S:List Keyed)(y:Keyed)(l:Nat)(hl:l<=Z.length)(h:xs.toList=P++Z++y::S):(bubble xs (P.length+Z.length) (Z.length-l)).toList=P++(Z.take l++ [y]++Z.drop l)++S:=by
 have hz:xs.size=P.length+Z.length+(S.length+1):=by rw [<-T7,h];simp [V8]
 have at_: ∀k,xs[k]? =(P++Z++y::S)[k]? :=λk=>by rw [<-S6,h]
 refine A6 λk=> ?_
 rw [S6,getElem?_bubble (by omega) _ (by omega)];have lt:(Z.take l).length=l:=by rw [R3];omega
 by_cases c:k=P.length+Z.length-(Z.length-l)
 ·rw [if_pos c,at_];have e1:(P++Z++y::S)[P.length+Z.length]? =some y:=by
   rw [P7 (by rw [G7];omega),G7,Nat.sub_self];rfl
  have e2:(P++(Z.take l++ [y]++Z.drop l)++S)[k]? =some y:=by
   rw [G8,P7 (by omega),G8,G8,P7 (by rw [lt];omega),lt,show k-P.length-l=0 by omega];rfl
  rw [e1,e2]
 ·rw [if_neg c]
  by_cases d:P.length+Z.length-(Z.length-l)<k/\k<=P.length+Z.length
  ·rw [if_pos d,at_];have e1:(P++Z++y::S)[k-1]? =Z[k-1-P.length]? :=by
    rw [G8,P7 (by omega),D9 (by omega)]
   have e2:(P++(Z.take l++ [y]++Z.drop l)++S)[k]? =Z[k-1-P.length]? :=by
    rw [G8,P7 (by omega),D9 (by simp only [G7,R3,S4,F8];omega),P7 (by rw [G7,lt];simp;omega),G7,lt,E6]
    congr 1;simp;omega
   rw [e1,e2]
  ·rw [if_neg d,at_]
   by_cases f:k<P.length+l
   ·have e1:(P++Z++y::S)[k]? =(P++Z.take l)[k]? :=by
     have:P++Z++y::S=P++Z.take l++(Z.drop l++y::S):=by
      rw [G8,G8,<-G8 (Z.take l),R4]
     rw [this,D9 (by rw [G7,lt];omega)]
    have e2:(P++(Z.take l++ [y]++Z.drop l)++S)[k]? =(P++Z.take l)[k]? :=by
     have:P++(Z.take l++ [y]++Z.drop l)++S=P++Z.take l++([y]++Z.drop l++S):=by simp [G8]
     rw [this,D9 (by rw [G7,lt];omega)]
    rw [e1,e2]
   ·have e1:(P++Z++y::S)[k]? =S[k-P.length-Z.length-1]? :=by
     rw [P7 (by rw [G7];omega),G7,List.getElem?_cons,if_neg (by omega)]
     congr 1;omega
    have e2:(P++(Z.take l++ [y]++Z.drop l)++S)[k]? =S[k-P.length-Z.length-1]? :=by
     rw [P7 (by simp only [G7,R3,S4,F8];omega)]
     congr 1;simp only [G7,R3,S4,F8];omega
    rw [e1,e2]
theorem OH (o:Ordd U R){Z:List Keyed}{y:Keyed}{l:Nat}(u: ∀z∈Z,U z)(uy:U y)(s:Srt R Z)(a: ∀z∈Z.take l,R y z=false)(b: ∀z∈Z.drop l,R y z=true):Srt R (Z.take l++ [y]++Z.drop l):=by
 have s':Srt R (Z.take l++Z.drop l):=by rw [R4];exact s
 obtain⟨s1,s2,s3⟩:=R6.mp s';refine R6.mpr ⟨R6.mpr ⟨s1,M6 _ _,λx hx z hz=> ?_⟩,s2,λx hx z hz=> ?_⟩
 ·rw [G3.mp hz];exact a x hx
 ·rcases D0.mp hx with v|v
  ·exact s3 x v z hz
  ·rw [G3.mp v];exact o.asym y z uy (u z (M5 hz)) (b z hz)
theorem SJ {st:SortSt}{Q:Bool->SortSt->Prop}{P T Z:List Keyed}{n k:Nat}(ak:Us prog w A J κ U R)(kd:kindOf st=κ)(o:Ordd U R)(u: ∀x∈T,U x)(h:Lies st P Z (T.drop k))(hp:Z.Perm (T.take k))(hs:Srt R Z)(k1:1<=k)(kn:k<=n)(hn:n<=T.length)
 (q: ∀st' Z',Arr st st'->Lies st' P Z' (T.drop n)->Z'.Perm (T.take n)->Srt R Z'->Q true st'):Tm prog w A E J (binarySort' P.length n k) Q st:=by
 unfold binarySort';refine .bind (Tm.mono (Tm.range (λi c s1=>Arr st s1/\c.1=none/\1<=i/\ ∃Z,Lies s1 P Z (T.drop i)/\Z.Perm (T.take i)/\Srt R Z) (Q:=λc s1=>Arr st s1/\c.1=none/\ ∃Z,Lies s1 P Z (T.drop n)/\Z.Perm (T.take n)/\Srt R Z) (by omega) ⟨Arr.refl st,rfl,by omega,Z,by rw [Nat.max_eq_left k1];exact h,by rw [Nat.max_eq_left k1];exact hp,hs⟩ ?_ ?_) ?_)
 ·rintro i ⟨r,c2⟩ s1 hi ⟨ar,hr,i1,Z,L,p,s⟩;dsimp only at hr ⊢;subst hr;obtain⟨y,hy⟩: ∃y,T[i]? =some y:=⟨_,G0 (by omega)⟩;have uy:=u y (G5 hy);have lz:Z.length=i:=by rw [p.length_eq,R3];omega
  have uZ: ∀z∈Z,U z:=λz hz=>u z (N8 (p.mem_iff.mp hz))
  have ay:(arrOf s1).toList[P.length+i]? =some y:=by
   have:=L.rest (i:=0);rw [E6,lz] at this;rw [G0W] at this;rw [this];exact hy
  have az: ∀m,m<i-> ∃z,Z[m]? =some z/\(arrOf s1).toList[P.length+m]? =some z:=λm hm=>by
   refine⟨Z[m],G0 (by omega),?_⟩;rw [L,G8,P7 (by omega),D9 (by omega),G0B,G0 (by omega)]
  refine .bind (Tm.mono (Tm.range (λj c s2=>s2=s1/\c.1=none/\c.2.1<=c.2.2/\c.2.2<=i/\(∀z∈Z.take c.2.1,R y z=false)/\(∀z∈Z.drop c.2.2,R y z=true)/\c.2.2-c.2.1+j<=i) (Q:=λc s2=>s2=s1/\c.1=none/\c.2.1<=i/\(∀z∈Z.take c.2.1,R y z=false)/\(∀z∈Z.drop c.2.1,R y z=true)) (Nat.zero_le _) ⟨rfl,rfl,Nat.zero_le _,Nat.le_refl _,λz hz=> ?_,λz hz=> ?_,by dsimp only;omega⟩ ?_ ?_) ?_)
  ·dsimp only at hz;rw [List.take_zero] at hz;cases hz
  ·dsimp only at hz;rw [List.drop_eq_nil_of_le (by omega)] at hz;cases hz
  ·rintro j ⟨r,l,v⟩ _ hj ⟨rfl,hr,b1,b2,b3,b4,b5⟩;dsimp only at hr b1 b2 b3 b4 b5 ⊢;subst hr
   by_cases c1:l>=v
   ·rw [if_pos c1];have:l=v:=by omega
    subst this;exact .pure ⟨rfl,rfl,b2,b3,b4⟩
   rw [if_neg c1];obtain⟨z,hz,ez⟩:=az ((l+v) / 2) (by omega);have uz:=uZ z (G5 hz);refine .bind (.ltAt ak (ar.1.trans kd) ay ez uy uz ?_);dsimp only;cases hb:R y z with
   |true=>
    rw [if_pos rfl];refine .pure ⟨rfl,rfl,by dsimp only;omega,by dsimp only;omega,b3,λx hx=> ?_,by dsimp only;omega⟩;dsimp only at hx;have zx:R x z=false:=by
     obtain⟨t,ht,e⟩:=O3 hx;rw [S4] at ht;exact Yj s o uZ (show (l+v) / 2<=(l+v) / 2+t by omega) hz (by rw [G0 (by omega),<-e,List.getElem_drop])
    rcases o.neg y x z uy (uZ x (M5 hx)) uz hb with w|w
    ·exact w
    ·rw [zx] at w;cases w
   |false=>
    rw [if_neg (by decide)];refine .pure ⟨rfl,rfl,by dsimp only;omega,b2,λx hx=> ?_,b4,by dsimp only;omega⟩;dsimp only at hx;have xz:R z x=false:=by
     obtain⟨t,ht,e⟩:=O3 hx;rw [R3] at ht;exact Yj s o uZ (show t<=(l+v) / 2 by omega) (by rw [G0 (by omega),<-e,List.getElem_take]) hz
    exact o.trans (uZ x (N8 hx)) uz uy xz hb
  ·rintro ⟨r,l,v⟩ _ ⟨rfl,hr,b1,b2,b3,b4,b5⟩;dsimp only at hr b1 b2 b3 b4 b5 ⊢;have:l=v:=by omega
   subst this;exact⟨rfl,hr,b2,b3,b4⟩
  ·rintro ⟨r,l,v⟩ s2 ⟨rfl,hr,b2,b3,b4⟩;dsimp only at hr b2 b3 b4 ⊢;subst hr;dsimp only;refine .bind ?_;show Tm prog w A E J (moveDown' (P.length+i) (P.length+l)) _ _;rw [moveDown'_eq];refine .modify (.pure ⟨ar.trans ⟨rfl,rfl,rfl,rfl⟩,rfl,by omega,Z.take l++ [y]++Z.drop l,?_,?_,OH o uZ uy s b3 b4⟩)
   ·have:=CJ (arrOf s2) P Z (T.drop (i+1)) y l (by omega) (by rw [<-zw hy];exact L);rw [lz] at this;rw [show P.length+i-(P.length+l)=i-l by omega];exact this
   ·refine List.Perm.trans ?_ (Zj p hy);rw [G8];have e:Z++ [y]=Z.take l++(Z.drop l++ [y]):=by rw [<-G8,R4]
    rw [e];exact(Q5).append_left _
 ·rintro ⟨r,c2⟩ s1 ⟨ar,hr,i1,Z,L,p,s⟩;exact⟨ar,hr,Z,L,p,s⟩
 ·rintro ⟨r,c2⟩ s1 ⟨ar,hr,Z,L,p,s⟩;dsimp only at hr ⊢;subst hr;exact .pure (q s1 Z ar L p s)
end
section
variable {prog:Program}{w:World}{A:Around}{E:Value->Shared->Prop}{J:Shared->Prop}{κ:SortKind}{U:Keyed->Prop}{R:Keyed->Keyed->Bool}
def Stk (R:Keyed->Keyed->Bool)(l:List Keyed):List (Nat×Nat×Nat)->Nat->Nat->Prop
 | [],s,e=>s=e
 |(p,n,_)::rest,s,e=>p=s/\1<=n/\Srt R (seg l p n)/\Stk R l rest (s+n) e
variable {l:List Keyed}
theorem Stk.le: ∀ {pl:List (Nat×Nat×Nat)} {s e:Nat},Stk R l pl s e->s+pl.length<=e
 | [],s,e,h=>by cases h;simp
 |(p,n,_)::rest,s,e,⟨_,n1,_,h⟩=>by have:=Stk.le h;simp only [D8];omega
theorem CK {l':List Keyed}{p n e:Nat}(h:l.take e=l'.take e)(he:p+n<=e):seg l p n=seg l' p n:=by
 have cut: ∀k:List Keyed,seg k p n=seg (k.take e) p n:=λk=>by
  unfold seg;rw [G1e,G1f,A8 (by omega)]
 rw [cut l,cut l',h]
theorem Stk.same {l':List Keyed}: ∀ {pl:List (Nat×Nat×Nat)} {s e:Nat},Stk R l pl s e->l.take e=l'.take e->Stk R l' pl s e
 | [],s,e,h,_=>h
 |(p,n,_)::rest,s,e,⟨a,b,c,d⟩,h=>by
  have:=d.le;exact⟨a,b,by rw [<-CK h (by omega)];exact c,d.same h⟩
theorem Stk.shift {l':List Keyed}: ∀ {pl:List (Nat×Nat×Nat)} {s e:Nat},Stk R l pl s e->l.drop s=l'.drop s->Stk R l' pl s e
 | [],s,e,h,_=>h
 |(p,n,_)::rest,s,e,⟨a,b,c,d⟩,h=>by
  subst a;refine⟨rfl,b,by unfold seg at c ⊢;rw [<-h];exact c,d.shift ?_⟩;rw [<-E9,<-E9,h]
theorem Stk.append: ∀ {a b:List (Nat×Nat×Nat)} {s e:Nat},Stk R l (a++b) s e↔ ∃m,Stk R l a s m/\Stk R l b m e
 | [],b,s,e=>⟨λh=>⟨s,rfl,h⟩,λ⟨m,h,h'⟩=>by cases h;exact h'⟩
 |(p,n,w)::a,b,s,e=>by
  constructor
  ·rintro ⟨x,y,z,h⟩;obtain⟨m,h1,h2⟩:=Stk.append.mp h;exact⟨m,⟨x,y,z,h1⟩,h2⟩
  ·rintro ⟨m,⟨x,y,z,h1⟩,h2⟩;exact⟨x,y,z,Stk.append.mpr ⟨m,h1,h2⟩⟩
structure Bt (R:Keyed->Keyed->Bool)(κ:SortKind)(l0:List Keyed)(lo:Nat)(st:SortSt):Prop where
 kind:kindOf st=κ
 failed:failedOf st=none
 perm:(arrOf st).toList.Perm l0
 stk:Stk R (arrOf st).toList (pendingOf st).toList 0 lo
variable {l0:List Keyed}{lo:Nat}
theorem Bt.size {st:SortSt}(b:Bt R κ l0 lo st):(arrOf st).size=l0.length:=by rw [<-T7,b.perm.length_eq]
theorem Bt.merge {st:SortSt}{Q:Bool->SortSt->Prop}{i:Nat}(ak:Us prog w A J κ U R)(o:Ordd U R)(u: ∀x∈l0,U x)(b:Bt R κ l0 lo st)(hlo:lo<=l0.length)(hi:i+1<(pendingOf st).size)
 (q: ∀st',Bt R κ l0 lo st'->(pendingOf st').size+1=(pendingOf st).size->(arrOf st').toList.drop lo=(arrOf st).toList.drop lo->Q true st'):Tm prog w A E J (mergeAt' i) Q st:=by
 have lp:(pendingOf st).toList.length=(pendingOf st).size:=by simp
 obtain⟨⟨sa,na,pw⟩,hx⟩: ∃x,(pendingOf st).toList[i]? =some x:=⟨_,G0 (by omega)⟩;obtain⟨⟨sb,nb,pw2⟩,hy⟩: ∃y,(pendingOf st).toList[i+1]? =some y:=⟨_,G0 (by omega)⟩;have e:(pendingOf st).toList=(pendingOf st).toList.take i++(sa,na,pw)::(sb,nb,pw2)::(pendingOf st).toList.drop (i+2):=by
  rw [<-zw hy,<-zw hx,R4]
 have stk:=b.stk;rw [e] at stk;obtain⟨m,k1,em,n1,s1,eb,n2,s2,k2⟩:=Stk.append.mp stk;subst em;subst eb;have le:=k2.le;have sz:=b.size;have hz:sa+na+nb<=(arrOf st).size:=by omega
 have ln:(arrOf st).toList.length=(arrOf st).size:=by simp
 refine SH ak b.kind o (λx hx=>u x (b.perm.mem_iff.mp hx)) (by rw [<-S6];exact hx) (by rw [<-S6];exact hy) rfl n1 n2 hz s1 s2 b.failed λst' Z kd hf hp ha pz sz'=> ?_
 have hpl:(pendingOf st').toList=(pendingOf st).toList.take i++(sa,na+nb,pw)::(pendingOf st).toList.drop (i+2):=by
  rw [hp,Array.eraseIdxIfInBounds_eq,dif_pos (by rw [G0s];exact hi),Array.toList_eraseIdx,G0f];generalize (pendingOf st).toList.drop (i+2)=B at e ⊢;have li:((pendingOf st).toList.take i).length=i:=by rw [R3];omega
  generalize (pendingOf st).toList.take i=A at e li ⊢;rw [e];subst li;simp [List.set_append,List.eraseIdx_append];intro z;omega
 have lZ:Z.length=na+nb:=by rw [pz.length_eq,G7,Yl (by omega),Yl (by omega)]
 have lt:((arrOf st).toList.take sa).length=sa:=by rw [R3];omega
 refine q st' ⟨kd,hf,?_,?_⟩ ?_ ?_
 ·rw [ha];refine List.Perm.trans ?_ b.perm;have c3:=XX (arrOf st).toList (p:=sa) (n:=na) (m:=nb);have pp:=(pz.append_left ((arrOf st).toList.take sa)).append_right ((arrOf st).toList.drop (sa+na+nb));rw [<-c3] at pp;exact pp
 ·rw [hpl,ha];refine Stk.append.mpr ⟨sa,k1.same ?_,rfl,by omega,?_,?_⟩
  ·rw [G8,O9 (by omega),D7 (l:=(arrOf st).toList.take sa) (by omega)]
  ·unfold seg;rw [G8,O8 (by omega),N6 (by omega),B2,O9 (by omega),D7 (by omega)];exact sz'
  ·rw [<-V8];refine k2.shift ?_;have:((arrOf st).toList.take sa++Z).length=sa+na+nb:=by rw [G7,lt,lZ];omega
   rw [O8 (by omega),N6 (as:=(arrOf st).toList.take sa++Z) (by omega),B2]
 ·rw [<-T7,<-T7,hpl];have:(pendingOf st).toList.length=((pendingOf st).toList.take i++(sa,na,pw)::(sa+na,nb,pw2)::(pendingOf st).toList.drop (i+2)).length:=congrArg List.length e;rw [this];simp only [G7,D8];omega
 ·rw [ha];have c1:((arrOf st).toList.take sa++Z).length=sa+na+nb:=by rw [G7,lt,lZ];omega
  have c2:sa+na+nb<=lo:=by omega
  rw [List.drop_append,N6 (as:=(arrOf st).toList.take sa++Z) (by omega),B2,E9,c1]
  congr 1;omega
theorem Bt.run {Z:List Keyed}{n:Nat}{s1 s2:SortSt}(b:Bt R κ l0 lo s1)(hlo:lo<=l0.length)(ar:Arr s1 s2)(L:Lies s2 ((arrOf s1).toList.take lo) Z (((arrOf s1).toList.drop lo).drop n))(p:Z.Perm (((arrOf s1).toList.drop lo).take n))(sr:Srt R Z)(hn:n<=l0.length-lo):Bt R κ l0 lo s2/\Srt R (seg (arrOf s2).toList lo n):=by
 have ln:(arrOf s1).toList.length=l0.length:=b.perm.length_eq;have lP:((arrOf s1).toList.take lo).length=lo:=by rw [R3];omega
 have lZ:Z.length=n:=by rw [p.length_eq,R3,S4];omega
 have e:(arrOf s2).toList=(arrOf s1).toList.take lo++Z++((arrOf s1).toList.drop lo).drop n:=L;refine⟨⟨ar.1.trans b.kind,ar.2.2.1.trans b.failed,?_,?_⟩,?_⟩
 ·rw [e];refine List.Perm.trans ?_ b.perm;have pp:=(p.append_left ((arrOf s1).toList.take lo)).append_right (((arrOf s1).toList.drop lo).drop n);rw [G8 _ (((arrOf s1).toList.drop lo).take n),R4,R4] at pp;exact pp
 ·rw [ar.2.1];refine b.stk.same ?_;rw [e,G8,O9 (by omega),D7 (l:=(arrOf s1).toList.take lo) (by omega)]
 ·rw [e];unfold seg;rw [G8,O8 (by omega),N6 (by omega),B2,O9 (by omega),D7 (by omega)];exact sr
theorem Bt.push {n:Nat}{s:SortSt}(b:Bt R κ l0 lo s)(n1:1<=n)(g:Srt R (seg (arrOf s).toList lo n)):Bt R κ l0 (lo+n) (setPending s ((pendingOf s).push (lo,n,0))):=by
 refine⟨b.kind,b.failed,b.perm,?_⟩;show Stk R (arrOf s).toList ((pendingOf s).push (lo,n,0)).toList 0 (lo+n);rw [F9];exact Stk.append.mpr ⟨lo,b.stk,rfl,n1,g,rfl⟩
theorem Stk.mod {f:Nat×Nat×Nat->Nat×Nat×Nat}(hf: ∀x,(f x).1=x.1/\(f x).2.1=x.2.1): ∀ {pl:List (Nat×Nat×Nat)} {k s e:Nat},Stk R l pl s e->Stk R l (pl.modify k f) s e
 | [],k,s,e,h=>by rw [List.modify_nil];exact h
 |(p,n,w)::rest,0,s,e,⟨a,b,c,d⟩=>by
  rw [List.modify_zero_cons];have e1:=(hf (p,n,w)).1;have e2:=(hf (p,n,w)).2;generalize f (p,n,w)=x at e1 e2;obtain⟨p',n',w'⟩:=x;dsimp only at e1 e2;subst e1 e2;exact⟨a,b,c,d⟩
 |(p,n,w)::rest,k+1,s,e,⟨a,b,c,d⟩=>by
  rw [List.modify_succ_cons];exact⟨a,b,c,d.mod hf⟩
theorem Bt.mod {k:Nat}{s:SortSt}{f:Nat×Nat×Nat->Nat×Nat×Nat}(b:Bt R κ l0 lo s)(hf: ∀x,(f x).1=x.1/\(f x).2.1=x.2.1):Bt R κ l0 lo (setPending s ((pendingOf s).modify k f)):=by
 refine⟨b.kind,b.failed,b.perm,?_⟩;show Stk R (arrOf s).toList ((pendingOf s).modify k f).toList 0 lo;rw [Array.toList_modify];exact b.stk.mod hf
theorem CL (c:Bool)(x:Nat):(if c=true then x-1 else x)<=x:=by cases c<;>simp
theorem OJ {st:SortSt}{Q:Unit->SortSt->Prop}(ak:Us prog w A J κ U R)(o:Ordd U R)(u: ∀x∈l0,U x)(kd:kindOf st=κ)(hf:failedOf st=none)(hp:pendingOf st= #[])(hl:(arrOf st).toList=l0)
 (q: ∀st',failedOf st'=none->(arrOf st').toList.Perm l0->Srt R (arrOf st').toList->Q () st'):Tm prog w A E J sortRuns' Q st:=by
 have b0:Bt R κ l0 0 st:=⟨kd,hf,by rw [hl],by rw [hp];rfl⟩;rw [sortRuns'_eq];refine .bind (.get ?_);dsimp only;rw [b0.size];generalize minRun' l0.length l0.length 0=mr;refine .bind (Tm.mono (Tm.range (λi c s1=>c.1=none/\c.2<=l0.length/\i<=c.2/\Bt R κ l0 c.2 s1) (Q:=λc s1=>c.1=none/\Bt R κ l0 l0.length s1) (T4 _) ⟨rfl,T4 _,T4 _,b0⟩ ?_ ?_) ?_)
 ·rintro i ⟨r,lo⟩ s1 hi ⟨hr,h1,h2,b⟩;dsimp only at hr h1 h2 b ⊢;subst hr
  by_cases z1:lo>=l0.length
  ·rw [if_pos z1];have:lo=l0.length:=by omega
   subst this;exact .pure ⟨rfl,b⟩
  rw [if_neg z1];have ln:(arrOf s1).toList.length=l0.length:=b.perm.length_eq;have lP:((arrOf s1).toList.take lo).length=lo:=by rw [R3];omega
  have lT:((arrOf s1).toList.drop lo).length=l0.length-lo:=by rw [S4,ln]
  have uT: ∀x∈(arrOf s1).toList.drop lo,U x:=λx hx=>u x (b.perm.mem_iff.mp (M5 hx))
  have ct:=λ{Q}=>CI (prog:=prog) (w:=w) (A:=A) (E:=E) (J:=J) (Q:=Q) (st:=s1) (P:=(arrOf s1).toList.take lo) (T:=(arrOf s1).toList.drop lo) ak b.kind o uT (by unfold Lies;rw [List.append_nil,List.take_append_drop]) (by omega)
  rw [lP,lT] at ct;refine .bind (ct λn s2 Z n1 n2 ar L p sr=> ?_);dsimp only
  by_cases z2:n<mr
  ·rw [if_pos z2];have bn:=λ{Q}=>SJ (prog:=prog) (w:=w) (A:=A) (E:=E) (J:=J) (Q:=Q) (st:=s2) (P:=(arrOf s1).toList.take lo) (T:=(arrOf s1).toList.drop lo) (n:=min (l0.length-lo) mr) ak (ar.1.trans b.kind) o uT L p sr n1 (by omega) (by omega)
   rw [lP] at bn;refine .bind (.rule (.bind (bn λs3 Z3 ar3 L3 p3 sr3=> ?_)));obtain⟨B,G⟩:=b.run h1 (ar.trans ar3) L3 p3 sr3 (by omega);have N1:1<=min (l0.length-lo) mr:=by omega
   rw [if_neg (by decide)];refine .bind (.get ?_);split
   ·refine .bind (Tm.mono (Tm.range (λj c s4=>c.1=none/\Bt R κ l0 lo s4/\Srt R (seg (arrOf s4).toList lo (min (l0.length-lo) mr))) (Q:=λc s4=>c.1=none/\Bt R κ l0 lo s4/\Srt R (seg (arrOf s4).toList lo (min (l0.length-lo) mr))) (T4 _) ⟨rfl,B,G⟩ ?_ (λ_ _ h=>h)) ?_)
    ·rintro j ⟨r,c⟩ s4 hj ⟨hr,B4,G4⟩;dsimp only at hr ⊢;subst hr;refine .bind (.get ?_);split
     ·rename_i older heq;split
      ·exact .pure ⟨rfl,B4,G4⟩
      ·have two:(pendingOf s4).size>1:=E8 λz=>by rw [if_neg z] at heq;cases heq
       refine .bind (Bt.merge ak o u B4 h1 (by omega) λs5 B5 _ dr=> ?_);refine .pure ⟨rfl,B5,?_⟩;unfold seg at G4 ⊢;rw [dr];exact G4
     ·exact .pure ⟨rfl,B4,G4⟩
    ·rintro ⟨r,c⟩ s4 ⟨hr,B4,G4⟩;dsimp only at hr ⊢;subst hr;dsimp only;refine .bind (.modify (.bind (.modify (.pure ⟨rfl,?_,?_,Bt.push (Bt.mod B4 λx=>⟨rfl,rfl⟩) N1 G4⟩))))
     ·dsimp only;omega
     ·dsimp only;omega
   ·refine .bind (.modify (.pure ⟨rfl,?_,?_,Bt.push B N1 G⟩))
    ·dsimp only;omega
    ·dsimp only;omega
  ·rw [if_neg z2];obtain⟨B,G⟩:=b.run h1 ar L p sr n2;have N1:=n1;refine .bind (.get ?_);split
   ·refine .bind (Tm.mono (Tm.range (λj c s4=>c.1=none/\Bt R κ l0 lo s4/\Srt R (seg (arrOf s4).toList lo (n))) (Q:=λc s4=>c.1=none/\Bt R κ l0 lo s4/\Srt R (seg (arrOf s4).toList lo (n))) (T4 _) ⟨rfl,B,G⟩ ?_ (λ_ _ h=>h)) ?_)
    ·rintro j ⟨r,c⟩ s4 hj ⟨hr,B4,G4⟩;dsimp only at hr ⊢;subst hr;refine .bind (.get ?_);split
     ·rename_i older heq;split
      ·exact .pure ⟨rfl,B4,G4⟩
      ·have two:(pendingOf s4).size>1:=E8 λz=>by rw [if_neg z] at heq;cases heq
       refine .bind (Bt.merge ak o u B4 h1 (by omega) λs5 B5 _ dr=> ?_);refine .pure ⟨rfl,B5,?_⟩;unfold seg at G4 ⊢;rw [dr];exact G4
     ·exact .pure ⟨rfl,B4,G4⟩
    ·rintro ⟨r,c⟩ s4 ⟨hr,B4,G4⟩;dsimp only at hr ⊢;subst hr;dsimp only;refine .bind (.modify (.bind (.modify (.pure ⟨rfl,?_,?_,Bt.push (Bt.mod B4 λx=>⟨rfl,rfl⟩) N1 G4⟩))))
     ·dsimp only;omega
     ·dsimp only;omega
   ·refine .bind (.modify (.pure ⟨rfl,?_,?_,Bt.push B N1 G⟩))
    ·dsimp only;omega
    ·dsimp only;omega
 ·rintro ⟨r,lo⟩ s1 ⟨hr,h1,h2,b⟩;dsimp only at hr h1 h2 b;have:lo=l0.length:=by omega
  subst this;exact⟨hr,b⟩
 ·rintro ⟨r,lo⟩ s1 ⟨hr,b⟩;dsimp only at hr ⊢;subst hr;dsimp only;have le0:=b.stk.le;have lp0:(pendingOf s1).toList.length=(pendingOf s1).size:=by simp
  refine .bind (Tm.mono (Tm.range (λj c s4=>c.1=none/\Bt R κ l0 l0.length s4/\(pendingOf s4).size+j<=l0.length) (Q:=λc s4=>c.1=none/\Bt R κ l0 l0.length s4/\(pendingOf s4).size<=1) (T4 _) ⟨rfl,b,by omega⟩ ?_ (λc s4 ⟨x,y,z⟩=>⟨x,y,by omega⟩)) ?_)
  ·rintro j ⟨r,c⟩ s4 hj ⟨hr,B4,z4⟩;dsimp only at hr ⊢;subst hr;refine .bind (.get ?_)
   by_cases c1:(pendingOf s4).size<=1
   ·rw [if_pos c1];exact .pure ⟨rfl,B4,c1⟩
   rw [if_neg c1];refine .bind (Bt.merge ak o u B4 (G9 _) (N5 (Nat.add_le_add_right (CL _ _) 1) (by omega)) λs5 B5 z5 _=> ?_);exact .pure ⟨rfl,B5,by omega⟩
  ·rintro ⟨r,c⟩ s4 ⟨hr,B4,z4⟩;dsimp only at hr ⊢;subst hr;refine .pure (q s4 B4.failed B4.perm ?_);have stk:=B4.stk;have ln:(arrOf s4).toList.length=l0.length:=B4.perm.length_eq;have lp:(pendingOf s4).toList.length=(pendingOf s4).size:=by simp
   generalize (pendingOf s4).toList=pl at stk lp
   match pl,stk,lp with
   | [],e,_=>
    have:l0.length=0:=e.symm;have:(arrOf s4).toList= []:=K1.mp (by omega);rw [this];exact .nil
   | [(p,n,_)],⟨e1,_,sr,e2⟩,_=>
    subst e1;have en:n=l0.length:=by have:0+n=l0.length:=e2;omega
    unfold seg at sr;rw [G1b,D7 (by omega)] at sr;exact sr
   |_::_::_,_,h=>simp only [D8] at h;omega
end
section
variable {prog:Program}{w:World}{A:Around}{E:Value->Shared->Prop}{s:Shared}{κ:SortKind}{U:Keyed->Prop}{R:Keyed->Keyed->Bool}
def SK (s:Shared)(a:Addr)(h':Heap):Prop:= ∀b o,b≠a->s.heap.get? b=some o->h'.get? b=some o
def Only (s:Shared)(h':Heap):Shared->Prop:=λs'=> ∃tk,s'= {s with heap:=h',toks:=tk}
theorem CM {M:Model}{α β:Type}{c:Prop}[Decidable c]{m m':Sem α}{F:α->Sem β}{Q:β->Shared->Prop}(h:wpAny M A ((if c then m else m') >>= F) Q E s):wpAny M A (if c then m >>= F else m' >>= F) Q E s:=by
 by_cases z:c
 ·rw [if_pos z] at h ⊢;exact h
 ·rw [if_neg z] at h ⊢;exact h
theorem ZQ (vs:List Value):(vs.toArray.zip vs.toArray).toList=vs.map λv=>(v,v):=by
 rw [Array.toList_zip];show vs.zip vs=_
 induction vs with
 |nil=>rfl
 |cons v vs ih=>rw [Q0,ih,T5]
theorem CN {a:Addr}{vs:List Value}{n:Nat}{P:Fin->Shared->Prop}(ho:s.heap.get? a=some (seqObj "list" vs.toArray n))(hz:vs.length<=sizeLine)
 (hk:2<=vs.length-> ∀h',SK s a h'->wpAny (model prog w) A (keyKind' vs.toArray) (λk s'=>k=κ/\Only s h' s') (λ_ _=>False) {s with heap:=h'})(ak: ∀h',SK s a h'->Us prog w A (Only s h') κ U R)(o:Ordd U R)(u: ∀v∈vs,U (v,v))
 (q: ∀ (out:List Value) (c tk:Nat) (h':Heap),SK s a h'->h'.get? a=some (seqObj "list" out.toArray c)->out.Perm vs->(out.map λv=>(v,v)).Pairwise (λx y=>R y x=false)->P (.done (.ret .none)) {s with heap:=h',toks:=tk}):
 wpAny (model prog w) A (Builtin.«list.sort» ⟨[.ref a],[]⟩) P E s:=by
 have alt:=P2 ho;have sv:vs.toArray.size=vs.length:=P6 ..;rw [list_sort_plain];refine wpAny_bind (listItems_at ho rfl ?_);obtain⟨c1,ho1⟩: ∃c,(s.heap.update a (Obj.mapSeq λ_=>(#[]:Array Value))).get? a=some (seqObj "list" #[] c):=⟨_,get?_update_seq ho λ_=> #[]⟩;refine wpAny_bind (listUpdate_at ho rfl ?_ (by rw [sv];exact hz) (T4 _));refine wpAny_bind (seqEpoch_at ho1 rfl ?_);refine wpAny_bind (G1c ?_ hz);refine wpAny_bind (wpAny_newList ?_ (T4 _));refine B7 ?_;have past:SK s a (((s.heap.update a (Obj.mapSeq λ_=>(#[]:Array Value))).push {cls:= .type "tuple",data:= .seq vs.toArray.toList.toArray}).push {cls:= .type "list",data:= .seq ([]:List Value).toArray}):=λb x ne e=>by
  refine G1 _ (G1 _ ?_);rw [Z7 _ _ _ _ ne];exact e
 have ho3:=G1 ({cls:= .type "list",data:= .seq ([]:List Value).toArray}:Obj) (G1 ({cls:= .type "tuple",data:= .seq vs.toArray.toList.toArray}:Obj) ho1);revert past ho3;generalize ((s.heap.update a (Obj.mapSeq λ_=>(#[]:Array Value))).push ({cls:= .type "tuple",data:= .seq vs.toArray.toList.toArray}:Obj)).push ({cls:= .type "list",data:= .seq ([]:List Value).toArray}:Obj)=H3;intro past ho3;have kd:wpAny (model prog w) A (if vs.toArray.size<2 then pure general' else keyKind' vs.toArray) (λk s0=>(2<=vs.length->k=κ)/\Only s H3 s0) (λ_ _=>False) {s with heap:=H3}:=by
  by_cases c:vs.toArray.size<2
  ·rw [if_pos c];exact P0 ⟨λz=>by omega,s.toks,rfl⟩
  ·rw [if_neg c];exact S0 (hk (by omega) H3 past) (λk s0 x=>⟨λ_=>x.1,x.2⟩) λ_ _ e=>e
 have rn: ∀k s0,(2<=vs.length->k=κ)->Only s H3 s0->wpAny (model prog w) A ((if vs.toArray.size<2 then pure () else sortRuns':StateT SortSt Sem Unit).run (SortSt.mk' k (vs.toArray.zip vs.toArray) #[] 7 none)) (λr s'=>(failedOf r.2=none/\(arrOf r.2).toList.Perm (vs.map λv=>(v,v))/\Srt R (arrOf r.2).toList)/\Only s H3 s') E s0:=by
  intro k s0 ek j
  by_cases c:vs.toArray.size<2
  ·rw [if_pos c,StateT.run_pure];refine P0 ⟨⟨rfl,?_,?_⟩,j⟩
   ·show (vs.toArray.zip vs.toArray).toList.Perm _;rw [ZQ]
   ·show Srt R (vs.toArray.zip vs.toArray).toList;rw [ZQ];rw [sv] at c
    match vs,c with
    | [],_=>exact List.Pairwise.nil
    | [v],_=>exact M6 _ _
  ·rw [if_neg c];have ek:=ek (by omega);subst ek;refine OJ (E:=E) (ak H3 past) o (l0:=vs.map λv=>(v,v)) (st:=SortSt.mk' k (vs.toArray.zip vs.toArray) #[] 7 none) (λx hx=> ?_) rfl rfl rfl (ZQ vs) (Q:=λ_ st'=>failedOf st'=none/\(arrOf st').toList.Perm (vs.map λv=>(v,v))/\Srt R (arrOf st').toList) (λst' a1 a2 a3=>⟨a1,a2,a3⟩) s0 j;obtain⟨v,hv,rfl⟩:=R5.mp hx;exact u v hv
 dsimp only;refine CM (wpAny_bind (S0 kd (λk s0 x=> ?_) λ_ _ e=>e.elim));refine wpAny_bind (S0 (rn k s0 x.1 x.2) ?_ λ_ _ e=>e);rintro ⟨⟨⟩,st'⟩ s1 ⟨⟨hf,hp,hs⟩,tk,rfl⟩;dsimp only;have eo:((arrOf st').map λx=>x.2)=((arrOf st').toList.map λx=>x.2).toArray:=by
  rw [<-Array.toList_map,Array.toArray_toList]
 have two:(arrOf st').toList=((arrOf st').toList.map λx=>x.2).map λv=>(v,v):=by
  rw [T3];refine(G1j _).symm.trans (T8 λx hx=> ?_);obtain⟨v,_,rfl⟩:=R5.mp (hp.mem_iff.mp hx);rfl
 have po:((arrOf st').toList.map λx=>x.2).Perm vs:=by
  have:=hp.map λx=>x.2
  rw [T3] at this;refine this.trans ?_;rw [show ((λx:Keyed=>x.2)∘λv:Value=>(v,v))=id from rfl,G1j]
 rw [two] at hs;rw [eo];generalize (arrOf st').toList.map (λx=>x.2)=out at hs po;obtain⟨c2,ho4⟩: ∃c,(H3.update a (Obj.mapSeq λ_=>out.toArray)).get? a=some (seqObj "list" out.toArray c):=⟨_,get?_update_seq ho3 λ_=>out.toArray⟩;refine wpAny_bind (seqEpoch_at (s:= {s with heap:=H3,toks:=tk}) ho3 rfl ?_);refine wpAny_bind (listUpdate_at (s:= {s with heap:=H3,toks:=tk}) ho3 rfl ?_ (T4 _) (by rw [P6,po.length_eq];exact Nat.le_succ_of_le hz));rw [hf];simp only [bne_self_eq_false,Bool.false_eq_true,G1l];refine P0 (q out c2 tk _ (λb x ne e=> ?_) ho4 po hs);rw [Z7 _ _ _ _ ne];exact past b x ne e
abbrev Yn (h h':Heap):Prop:= ∀b o,h.get? b=some o->h'.get? b=some o
theorem DG {l:Addr}{vs:List Value}{Q:Value->Shared->Prop}(hl:s.heap.IsList l vs.toArray)(hz:vs.length<sizeLine)
 (hk:2<=vs.length-> ∀h',Yn s.heap h'->wpAny (model prog w) A.in1.in1 (keyKind' vs.toArray) (λk s'=>k=κ/\Only s h' s') (λ_ _=>False) {s with heap:=h'})(ak: ∀h',Yn s.heap h'->Us prog w A.in1.in1 (Only s h') κ U R)(o:Ordd U R)(u: ∀v∈vs,U (v,v))
 (q: ∀ (h1 h':Heap) (tk c:Nat) (out:List Value),Yn s.heap h1->Yn h1 h'->h'.get? h1.objs.size=some (seqObj "list" out.toArray c)->out.Perm vs->(out.map λv=>(v,v)).Pairwise (λx y=>R y x=false)->Q (.ref h1.objs.size) {s with heap:=h',toks:=tk}):
 wpAny (model prog w) A (call (.builtin "sorted") [.ref l]) Q E s:=by
 refine G0n kind_sorted plain_sorted entry_sorted (args_sorted1 _) (wpAny_bind (P0 (wpAny_bind (collect_list hl ?_ (by omega)))));have k1:Yn s.heap ((s.heap.push (seqObj "list" #[] 0)).update s.heap.objs.size (Obj.mapSeq (· ++vs.toArray))):=λb x e=>by
  rw [Z7 _ _ _ _ (R1 (P2 e))];exact G1 _ e
 revert k1;generalize (s.heap.push (seqObj "list" #[] 0)).update s.heap.objs.size (Obj.mapSeq (· ++vs.toArray))=H1;intro k1;have fresh:(H1.push (seqObj "list" vs.toArray 0)).get? H1.objs.size=some (seqObj "list" vs.toArray 0):=P8 _ rfl;have kp: ∀h',SK {s with heap:=H1.push (seqObj "list" vs.toArray 0)} H1.objs.size h'->Yn H1 h':=λh' p b x e=>p b x (R1 (P2 e)) (G1 _ e)
 refine wpAny_bind (wpAny_newList (wpAny_bind (B7 (N9 slot_list_sort ⟨_,fresh,rfl⟩ entry_list_sort (CN (s:= {s with heap:=H1.push (seqObj "list" vs.toArray 0)}) (κ:=κ) (U:=U) (R:=R) fresh (D5 hz) (λh2 h' p=>hk h2 h' λb x e=>kp h' p b x (k1 b x e)) (λh' p=>ak h' λb x e=>kp h' p b x (k1 b x e)) o u λout c tk h' p e1 e2 e3=>⟨_,rfl,?_⟩) (args_list_sort _)))) (D5 hz));exact P0 ⟨_,rfl,q H1 h' tk c out k1 (kp h' p) e1 e2 e3⟩
end
theorem ZR: ∀a b:List Int,jY a b=true->jY b a=false
 | [],[],h=>rfl
 | [],_::_,_=>rfl
 |_::_,[],h=>by cases h
 |x::xs,y::ys,h=>by
  unfold jY at h ⊢
  by_cases e:x=y
  ·subst e;rw [if_pos rfl] at h ⊢;exact ZR xs ys h
  ·rw [if_neg e] at h;rw [if_neg (Ne.symm e)];have:=B3 h;exact D4 (by omega)
theorem Yo: ∀a b c:List Int,jY a c=true->jY a b=true\/jY b c=true
 | [],[],c,h=> .inr h
 | [],_::_,_,_=> .inl rfl
 |_::_,_,[],h=>by cases h
 |x::xs,[],z::zs,h=> .inr rfl
 |x::xs,y::ys,z::zs,h=>by
  unfold jY at h ⊢
  by_cases e:x=z
  ·subst e;rw [if_pos rfl] at h
   by_cases f:x=y
   ·subst f;rw [if_pos rfl,if_pos rfl];exact Yo xs ys zs h
   ·rw [if_neg f,if_neg (Ne.symm f)]
    by_cases g:x<y
    ·exact .inl (P3 g)
    ·exact .inr (P3 (by omega))
  ·rw [if_neg e] at h;have lt:=B3 h
   by_cases f:x=y
   ·subst f;rw [if_neg e];exact .inr h
   ·rw [if_neg f]
    by_cases g:x<y
    ·exact .inl (P3 g)
    ·refine .inr ?_;rw [if_neg (by omega)];exact P3 (by omega)
theorem Yp: ∀a b:List Int,jY a b=false->jY b a=false->a=b
 | [],[],_,_=>rfl
 | [],_::_,h,_=>by cases h
 |_::_,[],_,h=>by cases h
 |x::xs,y::ys,h,h'=>by
  unfold jY at h h'
  by_cases e:x=y
  ·subst e;rw [if_pos rfl] at h h';rw [Yp xs ys h h']
  ·rw [if_neg e] at h;rw [if_neg (Ne.symm e)] at h';have:=G0j h;have:=G0j h';omega
theorem Ni {U:Keyed->Prop}(key:Value->List Int):Ordd U (λx y=>jY (key x.1) (key y.1)):=⟨λx y _ _ h=>ZR _ _ h,λx y z _ _ _ h=>Yo _ _ _ h⟩
def IT (h:Heap)(v:Value)(ns:List Int):Prop:= ∃a its,v= .ref a/\IsTup h a its/\IntsAre its.toList ns
theorem IT.keeps {h h':Heap}{v:Value}{ns:List Int}(x:IT h v ns)(k:Yn h h'):IT h' v ns:=let ⟨a,its,e,t,i⟩:=x;⟨a,its,e,t.keeps k,i⟩
theorem PH: ∀ {vs:List Value} {ns ms:List Int},IntsAre vs ns->IntsAre vs ms->ns=ms
 |_,_,_,.nil,.nil=>rfl
 |_,_,_,.cons n t a,.cons _ _ b=>by rw [PH a b]
theorem IT.one {h:Heap}{v:Value}{ns ms:List Int}(x:IT h v ns)(y:IT h v ms):ns=ms:=by
 obtain⟨a,its,rfl,⟨o,e,c,n,d⟩,i⟩:=x;obtain⟨a',its',e2,⟨o',e',c',n',d'⟩,i'⟩:=y;cases e2;rw [e] at e';cases e';rw [d] at d';cases d';exact PH i i'
open Classical in
noncomputable def zz (h:Heap)(v:Value):List Int:=if e: ∃ns,IT h v ns then e.choose else []
theorem IT.nums {h:Heap}{v:Value}{ns:List Int}(x:IT h v ns):zz h v=ns:=by
 have e: ∃ns,IT h v ns:=⟨ns,x⟩;unfold zz;rw [dif_pos e];exact e.choose_spec.one x
section
variable {prog:Program}{w:World}{A:Around}{E:Value->Shared->Prop}{s:Shared}
theorem Zk {α β:Type}{M:Model}{f:α->Sem β}(r:α->β): ∀ (l:List α) {Q:List β->Shared->Prop},(∀v∈l,∀Q':β->Shared->Prop,Q' (r v) s->wpAny M A (f v) Q' E s)->Q (l.map r) s->wpAny M A (l.mapM f) Q E s
 | [],_,_,q=>by
  rw [List.mapM_nil];exact P0 q
 |v::l,Q,hf,q=>by
  rw [List.mapM_cons];refine wpAny_bind (hf v P9 _ (wpAny_bind ?_));exact Zk r l (λu hu=>hf u (D2 _ hu)) (P0 q)
def zM (h:Heap):Value->Option Value
 | .ref a=>match h.get? a with
  |some o=>match o.data with
   | .seq xs _=>xs[0]?
   |_=>none
  |none=>none
 |_=>none
variable {v:Value}{ns:List Int}
theorem CO {Q:Option Value->Shared->Prop}(x:IT s.heap v ns)(q:Q (zM s.heap v) s):wpAny (model prog w) A (firstOfTuple' v) Q E s:=by
 obtain⟨a,its,rfl,⟨o,e,c,n,d⟩,i⟩:=x;have fe:zM s.heap (.ref a)=its[0]? :=by
  unfold zM;dsimp only;rw [e];dsimp only;rw [d]
 rw [PySem.W.kas_first_eq];refine wpAny_bind (PySem.W.Looks.here (show PySem.W.Looks (model prog w) s.heap (typeOf (.ref a)) o.cls from (PySem.W.Looks.ld e).andThen .now) ?_);rw [c,if_neg (by decide)];refine wpAny_bind (listItems_at e d (P0 ?_));rw [<-fe];exact q
variable {h:Heap}
theorem DH (x:IT h v []):zM h v=none:=by
 obtain⟨a,its,rfl,⟨o,e,c,n,d⟩,i⟩:=x;unfold zM;dsimp only;rw [e];dsimp only;rw [d];dsimp only;obtain⟨l⟩:=its;cases i;rfl
theorem VC {n:Int}(x:IT h v (n::ns)): ∃t,zM h v=some (.int n t):=by
 obtain⟨a,its,rfl,⟨o,e,c,k,d⟩,i⟩:=x;obtain⟨l⟩:=its;cases i with
 |cons _ t i=>exact⟨t,by unfold zM;dsimp only;rw [e];dsimp only;rw [d];rfl⟩
theorem CP (x:IT h v ns):(zM h v).isSome= !ns.isEmpty:=by
 cases ns with
 |nil=>rw [DH x];rfl
 |cons n ns=>obtain⟨t,e⟩:=VC x;rw [e];rfl
noncomputable def Nj (h:Heap)(vs:List Value):SortKind:=
 if (vs.all λv=> !(zz h v).isEmpty)=true then tuples' true else if ((vs[0]?.map λv=> !(zz h v).isEmpty)=some true) then general' else oneType'
theorem Nk {vs:List Value}(h2:2<=vs.length)(x: ∀v∈vs,∃ns,IT h v ns){Q:SortKind->Shared->Prop}(e:Yn h s.heap)(q:Q (Nj h vs) s):wpAny (model prog w) A (keyKind' vs.toArray) Q E s:=by
 have fr: ∀v∈vs,(zM s.heap v).isSome= !(zz h v).isEmpty:=λv hv=>by
  obtain⟨ns,t⟩:=x v hv;rw [t.nums,CP (t.keeps e)]
 rw [keyKind'_eq,G0t,map_eq_pure_bind];refine wpAny_bind (wpAny_bind (Zk (zM s.heap) vs (λv hv Q' q'=> ?_) (P0 ?_)))
 ·obtain⟨ns,t⟩:=x v hv;exact CO (t.keeps e) q'
 have all_:((vs.map (zM s.heap)).toArray.all λo=>o.isSome)=vs.all λv=> !(zz h v).isEmpty:=by
  rw [G0J,O5];rw [B1,S5,S5];exact⟨λz v hv=>by rw [<-fr v hv];exact z v hv,λz v hv=>by show (zM s.heap v).isSome=true;rw [fr v hv];exact z v hv⟩
 rw [all_];unfold Nj at q
 by_cases a1:(vs.all λv=> !(zz h v).isEmpty)=true
 ·rw [if_pos a1] at q;rw [if_pos a1];refine wpAny_bind (W7 ?_);obtain⟨fs,efs,nums,ne⟩: ∃fs:List Value,vs.map (zM s.heap)=fs.map some/\(∀f∈fs,∃n t,f=Value.int n t)/\fs.length=vs.length:=by
   have go: ∀l:List Value,(∀v∈l,v∈vs)-> ∃fs:List Value,l.map (zM s.heap)=fs.map some/\(∀f∈fs,∃n t,f=Value.int n t)/\fs.length=l.length:=by
    intro l
    induction l with
    |nil=>exact λ_=>⟨[],rfl,λf hf=>absurd hf M0,rfl⟩
    |cons v l ih=>
     intro sub;obtain⟨fs,e1,e2,e3⟩:=ih λu hu=>sub u (D2 _ hu)
     have hv:=sub v P9;obtain⟨ns,t⟩:=x v hv;have ne:=S5.mp a1 v hv;rw [t.nums] at ne;cases ns with
     |nil=>cases ne
     |cons n ns=>
      obtain⟨tk,ef⟩:=VC (t.keeps e);refine⟨.int n tk::fs,by rw [T5,T5,ef,e1],λf hf=> ?_,by rw [D8,D8,e3]⟩;rcases D3.mp hf with rfl|hf
      ·exact⟨n,tk,rfl⟩
      ·exact e2 f hf
   exact go vs λ_ hv=>hv
  rw [efs];have fm:((fs.map some).toArray.filterMap id)=fs.toArray:=by simp
  rw [fm,oneTypeOnly'_eq,G0t,map_eq_pure_bind];refine wpAny_bind (wpAny_bind (wpAny_bind (Zk (λ_=>Value.type "int") fs (λf hf Q' q'=> ?_) (P0 ?_))))
  ·obtain⟨n,t,rfl⟩:=nums f hf;exact P0 q'
  ·match fs,ne with
   | [],ne=>rw [M8] at ne;omega
   |f::fs,_=>
    have h0:(List.map (λ_=>Value.type "int") (f::fs)).toArray[0]? =some (Value.type "int"):=by simp
    have h1:((List.map (λ_=>Value.type "int") (f::fs)).toArray.all λy=>y==Value.type "int")=true:=by
     rw [G0J,O5,S5];exact λ_ _=>rfl
    rw [h0];simp only [h1,if_true];exact P0 (P0 q)
 rw [if_neg a1] at q;rw [if_neg a1]
 match vs,h2,x,fr,q with
 |v::vs,h2,x,fr,q=>
  have h0:((List.map (zM s.heap) (v::vs)).toArray[0]?.bind id).isSome= !(zz h v).isEmpty:=by
   rw [<-fr v P9];simp
  rw [h0];have h0':(((v::vs)[0]?.map λv=> !(zz h v).isEmpty)=some true)↔(!(zz h v).isEmpty)=true:=by simp
  by_cases a2:(!(zz h v).isEmpty)=true
  ·rw [if_pos (h0'.mpr a2)] at q;rw [if_pos a2];exact P0 q
  rw [if_neg λz=>a2 (h0'.mp z)] at q;rw [if_neg a2];rw [oneTypeOnly'_eq,G0t,map_eq_pure_bind];refine wpAny_bind (wpAny_bind (wpAny_bind (Zk (λ_=>Value.type "tuple") (v::vs) (λf hf Q' q'=> ?_) (P0 ?_))))
  ·obtain⟨ns,t⟩:=x f hf;obtain⟨a,its,rfl,⟨o,e1,c,n,d⟩,i⟩:=t.keeps e;refine PySem.W.Looks.here (show PySem.W.Looks (model prog w) s.heap (typeOf (.ref a)) o.cls from (PySem.W.Looks.ld e1).andThen .now) ?_;rw [c];exact q'
  ·have h3:(List.map (λ_=>Value.type "tuple") (v::vs)).toArray[0]? =some (Value.type "tuple"):=by simp
   have h1:((List.map (λ_=>Value.type "tuple") (v::vs)).toArray.all λy=>y==Value.type "tuple")=true:=by
    rw [G0J,O5,S5];exact λ_ _=>rfl
   rw [h3];simp only [h1,if_true];exact P0 (P0 q)
theorem PJ {fin:Bool}{Q:Bool->Shared->Prop}{m n:Nat}(ef:fin=decide (m<n)): ∀ {vs us:List Value} {ns ms:List Int} (i:Nat),IntsAre vs ns->IntsAre us ms->ns.length+n=ms.length+m->Q (jY ns ms) s->PySem.W.KatLex prog w A true fin Q (vs.zip us) i s
 |_,_,_,_,i,.nil,.nil,l,q=>by
  subst ef;rw [G0q];refine G0X ?_;rw [D4 (by rw [M8] at l;omega)];exact q
 |_,_,_,_,i,.nil,.cons c u y,l,q=>by
  subst ef;rw [G0q];refine G0X ?_;rw [P3 (by rw [M8,D8] at l;omega)];exact q
 |_,_,_,_,i,.cons a t x,.nil,l,q=>by
  subst ef;rw [List.zip_nil_right];refine G0X ?_;rw [D4 (by rw [M8,D8] at l;omega)];exact q
 |_,_,_,_,i,.cons a t x,.cons c u y,l,q=>by
  rw [Q0];rw [Vj] at q;obtain⟨e,he,hiff⟩:=Pn A s a t c u;refine PySem.W.kat_cons (he prog w _ _ ?_);refine PySem.W.kat_go (λz=>PySem.W.kat_yes ?_) λz=>PySem.W.kat_no ?_
  ·rw [if_pos (hiff.mp z)] at q;exact PJ ef (i+1) x y (by rw [D8,D8] at l;omega) q
  ·rw [if_neg λz'=>by rw [hiff.mpr z'] at z;cases z] at q;cases (true&&i==0) with
   |true=>exact oneLt_int q
   |false=>exact PySem.W.kat_one _ _ (G1h q)
theorem SL {u:Value}{ms:List Int}{Q:Bool->Shared->Prop}(hu:A.units<cLine)(x:IT s.heap v ns)(y:IT s.heap u ms)(q:Q (jY ns ms) s):wpAny (model prog w) A (oneLt' true v u) Q E s:=by
 obtain⟨a,its,rfl,⟨⟨cls,dd,data,sl⟩,e1,c,n,d⟩,i⟩:=x;obtain⟨b,its2,rfl,⟨⟨cls2,dd2,data2,sl2⟩,e2,c2,n2,d2⟩,i2⟩:=y;simp only at c d c2 d2;subst c d c2 d2;rw [oneLt'_eq];simp only [if_true];refine wpAny_bind (wpAny_cRoomFor hu (wpAny_bind (wpAny_callSpecialIfBound?_slot ⟨_,e1,rfl⟩ X5 (G01 X5 ⟨_,e1,rfl⟩ G0L (G0w _ _) (Za a b its its2 n n2 dd dd2 sl sl2 ns ms i i2) ⟨e1,e2,?_⟩))));exact B0 q
theorem SM {u:Value}{ms:List Int}{Q:Bool->Shared->Prop}(hu:A.units<cLine)(x:IT s.heap v ns)(y:IT s.heap u ms)(q:Q (jY ns ms) s):wpAny (model prog w) A (oneLt' false v u) Q E s:=by
 obtain⟨a,its,rfl,t,i⟩:=x;obtain⟨b,its2,rfl,t2,i2⟩:=y;exact PySem.W.kat_one _ _ (De t t2 i i2 hu q)
theorem Nl {vs:List Value}(hu:A.units<cLine){h':Heap}(k:Yn s.heap h'):Us prog w A (Only s h') (Nj s.heap vs) (λx=> ∃ns,IT s.heap x.1 ns) (λx y=>jY (zz s.heap x.1) (zz s.heap y.1)):=by
 rintro ⟨x,x'⟩ ⟨y,y'⟩ ⟨ns,tx⟩ ⟨ms,ty⟩ s1 ⟨tk,rfl⟩;dsimp only at tx ty ⊢;have q:(jY ns ms=jY (zz s.heap x) (zz s.heap y)/\Only s h' {s with heap:=h',toks:=tk}):=⟨by rw [tx.nums,ty.nums],tk,rfl⟩;have kx:=tx.keeps k;have ky:=ty.keeps k;unfold Nj
 by_cases a1:(vs.all λv=> !(zz s.heap v).isEmpty)=true
 ·rw [if_pos a1];obtain⟨a,its,rfl,⟨o,e1,c,n,d⟩,i⟩:=kx;obtain⟨b,its2,rfl,⟨o2,e2,c2,n2,d2⟩,i2⟩:=ky;refine PySem.W.kat_lt e1 d e2 d2 (PJ rfl 0 i i2 ?_ q);have z1:=i.length;have z2:=i2.length;rw [T7] at z1 z2;omega
 rw [if_neg a1]
 by_cases a2:(vs[0]?.map λv=> !(zz s.heap v).isEmpty)=some true
 ·rw [if_pos a2];show wpAny _ _ (oneLt' false x y) _ _ _;exact SM hu kx ky q
 ·rw [if_neg a2,keyLt'_oneType];exact SL hu kx ky q
theorem Gy {l:Addr}{vs:List Value}{Q:Value->Shared->Prop}(hu:A.in1.in1.units<cLine)(hl:s.heap.IsList l vs.toArray)(hz:vs.length<sizeLine)(x: ∀v∈vs,∃ns,IT s.heap v ns)
 (q: ∀ (h1 h':Heap) (tk c:Nat) (out:List Value),Yn s.heap h1->Yn h1 h'->h'.get? h1.objs.size=some (seqObj "list" out.toArray c)->out.Perm vs->out.Pairwise (λx y=>jY (zz s.heap y) (zz s.heap x)=false)->Q (.ref h1.objs.size) {s with heap:=h',toks:=tk}):
 wpAny (model prog w) A (call (.builtin "sorted") [.ref l]) Q E s:=by
 refine DG (κ:=Nj s.heap vs) (U:=λx=> ∃ns,IT s.heap x.1 ns) (R:=λx y=>jY (zz s.heap x.1) (zz s.heap y.1)) hl hz (λh2 h' k=> ?_) (λh' k=>Nl hu k) (Ni _) x λh1 h' tk c out k1 k2 e1 e2 e3=>q h1 h' tk c out k1 k2 e1 e2 ?_
 ·exact Nk (s:= {s with heap:=h'}) h2 x k ⟨rfl,s.toks,rfl⟩
 ·rw [A7] at e3;exact e3
end
end HT
namespace L2
open PySem PySem.Spec PyProof.Rows PySem.SeqAt HT
theorem Yq {α β:Type}{f:α->β}: ∀ {out:List β} {l:List α},out.Perm (l.map f)-> ∃l':List α,l'.Perm l/\l'.map f=out
 | [],l,p=>by
  have e:=p.length_eq;rw [G2,M8] at e;exact⟨[],by rw [F7 e.symm],rfl⟩
 |x::out,l,p=>by
  obtain⟨y,hy,rfl⟩:=R5.mp (p.mem_iff.mp P9);obtain⟨l1,l2,rfl⟩:=List.append_of_mem hy;have p2:out.Perm ((l1++l2).map f):=by
   refine List.Perm.cons_inv (a:=f y) (p.trans ?_);rw [R9,R9,T5];exact G0G
  obtain⟨l',a,b⟩:=Yq p2;exact⟨y::l',(a.cons y).trans G0G.symm,by rw [T5,b]⟩
def Ka (H:Hp)(v:V)(ns:List Int):Prop:= ∃a,v= .ref a/\H a=some (.tup (ns.map V.int))
theorem XY {X:Cx}{k:Nat}(hr:Room k X.A):CallR X (.builtin "sorted") (λxs H Q=> ∃ (a:Addr) (ps:List (V×List Int)),xs= [.ref a]/\SqL X.K H a (ps.map (·.1))/\ps.length<sizeLine/\(∀p∈ps,Ka H p.1 p.2)/\ ∀ (q:Addr) (ps':List (V×List Int)),H q=none->ps'.Perm ps->(ps'.map (·.2)).Pairwise (λx y=>HT.jY y x=false)->Q (.ref q) (upd H q (.lst (ps'.map (·.1))))):=by
 intro pins s σ H xs us Q I r h;obtain⟨a,ps,rfl,hS,hz,ht,q⟩:=h;obtain⟨u,rfl,ru⟩:=Wv r;cases ru;obtain⟨its,rv,pl,hz'⟩:=I.list hS;obtain⟨zs,e1,e2,e3⟩: ∃zs:List (Value×V×List Int),its=zs.map (·.1)/\ps=zs.map (·.2)/\ ∀z∈zs,RelV z.2.1 z.1:=by
  clear hS q hz ht hz' pl
  induction ps generalizing its with
  |nil=>cases rv;exact⟨[],rfl,rfl,λz hz=>by cases hz⟩
  |cons p ps ih=>
   rw [T5] at rv;cases rv with
   |cons r1 r2=>
    obtain⟨zs,e1,e2,e3⟩:=ih _ r2;exact⟨(_,p)::zs,by rw [T5,<-e1],by rw [T5,<-e2],λz hz=>by
     rcases D3.mp hz with rfl|hz
     ·exact r1
     ·exact e3 z hz⟩
 subst e1 e2;have it: ∀z∈zs,IT s.heap z.1 z.2.2:=λz hm=>by
  obtain⟨b,eb,hb⟩:=ht z.2 (U4 hm);have rz:=e3 z hm;rw [eb] at rz;have rz:z.1= .ref b:=rz;obtain⟨_,us,r2,p⟩:=I.hok b _ hb;exact⟨b,us.toArray,rz,p.tup,Wk r2⟩
 have hu:X.A.in1.in1.units<cLine:=by
  have:=hr.un;show X.A.units+1+1<cLine;omega
 rw [G2] at hz;refine HT.Gy hu pl.isList (by rw [G2];exact hz) (λv hv=> ?_) λh1 h' tk c out k1 k2 e4 pm srt=> ?_
 ·obtain⟨z,hm,rfl⟩:=R5.mp hv;exact⟨_,it z hm⟩
 obtain⟨zs',pz,rfl⟩:=Yq pm;have I1:=I.kept (t':=s.toks) k1;have vv: ∀l:List (Value×V×List Int),(∀z∈l,z∈zs)->Vals ((l.map (·.2)).map (·.1)) (l.map (·.1)):=λl=>by
  induction l with
  |nil=>exact λ_=> .nil
  |cons z l ih=>exact λsub=> .cons (e3 z (sub z P9)) (ih λy hy=>sub y (D2 _ hy))
 refine⟨.ref _,_,I1.laid (t':=tk) (o:= .lst ((zs'.map (·.2)).map (·.1))) k2 (G9 _) ⟨?_,_,c,vv zs' λz hm=>pz.mem_iff.mp hm,e4⟩,rfl,q _ (zs'.map (·.2)) (I1.hok.fresh (G9 _)) (pz.map _) ?_⟩
 ·rw [G2,G2,pz.length_eq];exact D5 hz
 ·rw [A7,A7];rw [A7] at srt;refine srt.imp_of_mem λ{y z} hy hz e=> ?_
  rw [<- (it y (pz.mem_iff.mp hy)).nums,<- (it z (pz.mem_iff.mp hz)).nums];exact e
abbrev tI (ns:List Int):D:= .tup (ns.map D.int)
def OK:RDn:=λds h Q=> ∃ (a:Addr) (nss:List (List Int)),ds= [.lst a]/\h a=some (nss.map tI)/\nss.length<sizeLine/\ ∀ (p:Addr) (mss:List (List Int)),h p=none->mss.Perm nss->mss.Pairwise (λx y=>HT.jY y x=false)->Q (.lst p) (zN h p (mss.map tI))
theorem Nm {K:PySem.W.Frag}{H:Hp}: ∀ {nss:List (List Int)} {vs:List V},RelDs K H (nss.map tI) vs-> ∃ps:List (V×List Int),vs=ps.map (·.1)/\nss=ps.map (·.2)/\ ∀p∈ps,Ka H p.1 p.2
 | [],vs,r=>⟨[],r,rfl,λp hp=>by cases hp⟩
 |ns::nss,vs,r=>by
  obtain⟨v,us,e,r1,r2⟩:=(show ∃v r,vs=v::r/\RelD K H (tI ns) v/\RelDs K H (nss.map tI) r from r);obtain⟨ps,e1,e2,e3⟩:=Nm r2;obtain⟨a,ws,e4,hH,r4⟩:=(show ∃a vs,v= .ref a/\H a=some (.tup vs)/\RelDs K H (ns.map D.int) vs from r1);rw [jT r4] at hH;exact⟨(v,ns)::ps,by rw [e,e1];rfl,by rw [e2];rfl,λp hp=>by
   rcases D3.mp hp with rfl|hp
   ·exact⟨a,e4,hH⟩
   ·exact e3 p hp⟩
theorem Nn {K:PySem.W.Frag}{H:Hp}: ∀ {ps:List (V×List Int)},(∀p∈ps,Ka H p.1 p.2)->RelDs K H ((ps.map (·.2)).map tI) (ps.map (·.1))
 | [],_=> .nil
 |p::ps,h=> .cons (by
  obtain⟨a,e,hH⟩:=h p P9;exact⟨a,_,e,hH,wU _⟩) (Nn λq hq=>h q (D2 _ hq))
theorem DI {X:Cx}{k:Nat}(hr:Room k X.A):Jf X (.builtin "sorted") OK:=(XY hr).imp λxs H Q ⟨ds,h,Qd,r,rh,⟨a,nss,e,hd,hz,q⟩,p⟩=>by
 subst e;obtain⟨v,e,r1⟩:=jH r;obtain⟨vs,hH,r2⟩:=rh a _ hd;have e1:v= .ref a:=r1.1;subst e e1;obtain⟨ps,rfl,rfl,ht⟩:=Nm r2;refine⟨a,ps,rfl,SqL.of hH,by rw [G2] at hz;exact hz,ht,λc ps' hc pm srt=> ?_⟩;exact p (.lst c) _ _ _ (.new hc) (rh.newL hc (Nn λx hx=>ht x (pm.mem_iff.mp hx))) ⟨rfl,_,jz⟩ (q c _ (rh.free hc) (pm.map _) srt)
abbrev toI (S:List Nat):List Int:=S.map λ(k:Nat)=>(k:Int)
theorem OL {S S':List Nat}(h:toI S=toI S'):S=S':=by
 have:=congrArg (List.map Int.toNat) h;rw [T3,T3] at this;have e:(Int.toNat∘λ(k:Nat)=>(k:Int))=id:=by funext k;exact A4 k
 rw [e,G1j,G1j] at this;exact this
theorem FI (S:List Nat):tI (toI S)=jJ S:=by
 show D.tup _=D.tup _;rw [T3];rfl
def leS (a b:List Nat):Bool:= !HT.jY (toI b) (toI a)
theorem No (a b c:List Nat)(h:leS a b=true)(h':leS b c=true):leS a c=true:=by
 unfold leS at*
 cases e:HT.jY (toI c) (toI a) with
 |false=>rfl
 |true=>
  rcases Yo _ (toI b) _ e with z|z
  ·rw [z] at h';cases h'
  ·rw [z] at h;cases h
theorem Np (a b:List Nat):(leS a b||leS b a)=true:=by
 unfold leS;cases e:HT.jY (toI b) (toI a) with
 |false=>rfl
 |true=>rw [ZR _ _ e];rfl
theorem CQ {a b:List Nat}(h:leS a b=true)(h':leS b a=true):a=b:=by
 unfold leS at*
 refine OL (Yp _ _ ?_ ?_)
 ·cases e:HT.jY (toI a) (toI b) with
  |false=>rfl
  |true=>rw [e] at h';cases h'
 ·cases e:HT.jY (toI b) (toI a) with
  |false=>rfl
  |true=>rw [e] at h;cases h
def Nq (l:List (List Nat)):List (List Nat):=l.mergeSort leS
theorem ZS (l:List (List Nat)):(Nq l).Perm l:=List.mergeSort_perm _ _
theorem DJ (l:List (List Nat)):(Nq l).Pairwise λa b=>leS a b=true:=List.pairwise_mergeSort No Np l
theorem Nr {l P:List (List Nat)}(p:P.Perm l)(r:P.Pairwise λa b=>leS a b=true):P=Nq l:=
 List.Perm.eq_of_pairwise (λa b _ _ x y=>CQ x y) r (DJ l) (p.trans (ZS l).symm)
theorem Nt {l:List (List Nat)}{mss:List (List Int)}(p:mss.Perm (l.map toI))(r:mss.Pairwise λx y=>HT.jY y x=false):mss.map tI=(Nq l).map jJ:=by
 obtain⟨P,pP,rfl⟩:=Yq p;rw [A7] at r;rw [<-Nr pP (r.imp λe=>by unfold leS;rw [e];rfl),List.map_map];exact T8 λS _=>FI S
end L2
namespace L2
open PySem PySem.Spec PyProof.Rows PySem.SeqAt
theorem PK: ∀l:List Int,PyData.canLayAll0 (l.map PyData.int)=true
 | []=>rfl
 |x::l=>by show (PyData.canLay0 (.int x)&&_)=true;rw [PK l];rfl
variable {S:List Nat}{h:HD}{Q:KD}
theorem Nu {neg:Bool}{x:Nat}(q: ∀b:Bool,(b=true↔x∈S)->Q (.bl (neg !=b)) h):inE neg (.int (x:Int)) (jJ S) h Q:=by
 refine⟨.int x,(Go S).map PyData.int,rfl,.inr (Jz h S),rfl,PK _,(by show (0:Nat)<=60;decide),q _ ?_⟩;rw [List.any_eq_true];constructor
 ·rintro ⟨z,hz,e⟩;obtain⟨m,hm,rfl⟩:=R5.mp hz;obtain⟨y,hy,rfl⟩:=R5.mp (show m∈S.map λ(k:Nat)=>(k:Int) from hm);have:(y:Int)=x:=by simpa [PyData.eqv] using e
  have:y=x:=by omega
  exact this ▸ hy
 ·intro z;exact⟨.int x,R5.mpr ⟨_,R5.mpr ⟨x,z,rfl⟩,rfl⟩,by simp [PyData.eqv]⟩
variable {α:Type}
theorem ug (xs:List α)(a:Nat)(h:a<=xs.length):YN xs (some (a:Int)) none=xs.drop a:=by
 have e: ¬((a:Int)<0):=by omega
 unfold YN HT.sIx;simp [e,A8 h];exact D7 (by simp)
theorem OM {a b:List Nat}(e:a≠b)(q:Q (.bl false) h):eqE (jJ a) (jJ b) h Q:=⟨_,_,Jz h a,Jz h b,Ja _,Ja _,by rw [Gq,D4 e];exact q⟩
theorem ON {x:Nat}(q:Q (.bl (decide (x∈S))) h):inE false (.int (x:Int)) (jJ S) h Q:=Nu λbo hb=>by
 have:(false !=bo)=decide (x∈S):=by
  cases bo with
  |true=>rw [P3 (hb.mp rfl)];rfl
  |false=>rw [D4 λz=>by have:=hb.mpr z;cases this];rfl
 rw [this];exact q
theorem WI {h':HD}{a:Addr}(sb:Sub h h')(e:h' a=none):h a=none:=by
 cases z:h a with
 |none=>rfl
 |some ds=>rw [sb a ds z] at e;cases e
theorem Sub.over {h':HD}{a:Addr}{ds:List D}(sb:Sub h h')(e:h a=none):Sub h (zN h' a ds):=⟨λb xs k=>jj (λz=>by subst z;rw [e] at k;cases k) (sb b xs k),sb.dc⟩
theorem OO {x:Nat}(q:Q (.bl (!decide (x∈S))) h):inE true (.int (x:Int)) (jJ S) h Q:=Nu λbo hb=>by
 have:(true !=bo)= !decide (x∈S):=by
  cases bo with
  |true=>rw [P3 (hb.mp rfl)];rfl
  |false=>rw [D4 λz=>by have:=hb.mpr z;cases this];rfl
 rw [this];exact q
structure GB (n:Nat)(h0 h:HD)(R:Addr)(rs:List Addr)(f:Nat->Nat->Bool):Prop where
 at_:h R=some (rs.map D.lst)
 len:rs.length=n
 nR:R ∉ rs
 nd:rs.Nodup
 sb:Sub h0 h
 row: ∀i a,rs[i]? =some a->h0 a=none/\h a=some ((List.range n).map λj=>D.bl (f i j))
section
variable {n:Nat}{h0 h:HD}{R:Addr}{rs:List Addr}{f g:Nat->Nat->Bool}
theorem GB.put (G:GB n h0 h R rs f){i j:Nat}{a:Addr}{v:Bool}(ha:rs[i]? =some a):GB n h0 (zN h a (((List.range n).map λj=>D.bl (f i j)).set j (.bl v))) R rs (λx y=>if x=i/\y=j then v else f x y):=by
 have hm:=G5 ha;have il:=(G6.mp ha).1;refine⟨jj (λz=>G.nR (z ▸ hm)) G.at_,G.len,G.nR,G.nd,G.sb.over (G.row i a ha).1,λx b hb=>⟨(G.row x b hb).1,?_⟩⟩
 by_cases z:x=i
 ·subst z;have eb:b=a:=by rw [ha] at hb;injection hb with hb;exact hb.symm
  subst eb;rw [jc];refine congrArg some (X7 (by simp) λm h1 h2=> ?_);rw [List.getElem_set];simp only [G0I,G0i]
  by_cases e:j=m
  ·subst e;simp
  ·rw [if_neg e,if_neg λw=>e w.2.symm]
 ·have ne:b≠a:=λw=>z ((List.getElem?_inj (G6.mp hb).1 G.nd).mp (hb.trans (by rw [w];exact ha.symm)))
  rw [jj ne (G.row x b hb).2];exact congrArg some (T8 λy _=>by rw [if_neg λw=>z w.1])
theorem GB.pick (G:GB n h0 h R rs f){i:Nat}(hi:i<n): ∃a,rs[i]? =some a/\atI (rs.map D.lst) (i:Int)=some (.lst a)/\h a=some ((List.range n).map λj=>D.bl (f i j)):=by
 have hi':i<rs.length:=by rw [G.len];exact hi
 exact⟨rs[i],G0 hi',zm (by rw [P1,G0 hi'];rfl),(G.row i _ (G0 hi')).2⟩
theorem GB.as (G:GB n h0 h R rs f)(e: ∀i j,i<n->j<n->f i j=g i j):GB n h0 h R rs g:=
 ⟨G.at_,G.len,G.nR,G.nd,G.sb,λi a ha=>⟨(G.row i a ha).1,by
  have hi:i<n:=by rw [<-G.len];exact(G6.mp ha).1
  rw [(G.row i a ha).2];exact congrArg some (T8 λj hj=>by rw [e i j hi (R0.mp hj)])⟩⟩
theorem GB.up (G:GB n h0 h R rs f){h':HD}(s:Sub h h'):GB n h0 h' R rs f:=⟨s _ _ G.at_,G.len,G.nR,G.nd,G.sb.trans s,λi a ha=>⟨(G.row i a ha).1,s _ _ (G.row i a ha).2⟩⟩
end
variable {n j:Nat}
theorem PL {f:Nat->Bool}(hj:j<n):atI ((List.range n).map λj=>D.bl (f j)) (j:Int)=some (.bl (f j)):=Ue hj
def wk (T:List (List Int)):Nat->Nat->Nat->Bool
 |0,i,j=>decide (i=j)|| !decide (ent T i j=0)
 |b+1,i,j=>wk T b i j||(wk T b i b&&wk T b b j)
theorem Gz (T:List (List Int)): ∀b i,wk T b i i=true
 |0,i=>by unfold wk;rw [decide_eq_true rfl];rfl
 |b+1,i=>by unfold wk;rw [Gz T b i];rfl
theorem SN (T:List (List Int))(b i:Nat):wk T (b+1) i b=wk T b i b:=by
 show (wk T b i b||(wk T b i b&&wk T b b b))=_;cases wk T b i b<;>rfl
theorem SO (T:List (List Int))(b j:Nat):wk T (b+1) b j=wk T b b j:=by
 show (wk T b b j||(wk T b b b&&wk T b b j))=_;cases wk T b b j<;>cases wk T b b b<;>rfl
variable {T:List (List Int)}
theorem wk_by {b i:Nat}:wk T (b+1) i j=true↔wk T b i j=true\/(wk T b i b=true/\wk T b b j=true):=by
 show (wk T b i j||(wk T b i b&&wk T b b j))=true↔_;rw [V7,R8]
def fW (T:List (List Int))(b i j x y:Nat):Bool:=if x<i\/(x=i/\y<j) then wk T (b+1) x y else wk T b x y
theorem SQ (T:List (List Int))(b i j x:Nat):fW T b i j x b=wk T b x b:=by
 unfold fW;rw [SN]
 by_cases c:x<i\/(x=i/\b<j)
 ·rw [if_pos c]
 ·rw [if_neg c]
theorem SR (T:List (List Int))(b i j y:Nat):fW T b i j b y=wk T b b y:=by
 unfold fW;rw [SO]
 by_cases c:b<i\/(b=i/\y<j)
 ·rw [if_pos c]
 ·rw [if_neg c]
theorem SS {b i:Nat}(h1:wk T b i b=true)(h2:wk T b b j=true)(x y:Nat):(if x=i/\y=j then true else fW T b i j x y)=fW T b i (j+1) x y:=by
 by_cases e:x=i/\y=j
 ·obtain⟨rfl,rfl⟩:=e;unfold fW;rw [if_pos ⟨rfl,rfl⟩,if_pos (.inr ⟨rfl,C7 _⟩)];exact(wk_by.mpr (.inr ⟨h1,h2⟩)).symm
 ·rw [if_neg e];unfold fW
  by_cases c:x<i\/(x=i/\y<j)
  ·rw [if_pos c,if_pos (by omega)]
  ·rw [if_neg c,if_neg (by omega)]
theorem Nv {b i:Nat}(h: ¬ (wk T b i b=true/\wk T b b j=true))(x y:Nat):fW T b i j x y=fW T b i (j+1) x y:=by
 unfold fW
 by_cases c:x<i\/(x=i/\y<j)
 ·rw [if_pos c,if_pos (by omega)]
 ·rw [if_neg c]
  by_cases e:x=i/\y=j
  ·obtain⟨rfl,rfl⟩:=e;rw [if_pos (by omega),B1,wk_by];exact⟨.inl,λz=>z.resolve_right h⟩
  ·rw [if_neg (by omega)]
theorem OP (T:List (List Int))(b i x y:Nat)(hy:y<n):fW T b i n x y=fW T b (i+1) 0 x y:=by
 unfold fW
 by_cases c:x<i\/(x=i/\y<n)
 ·rw [if_pos c,if_pos (by omega)]
 ·rw [if_neg c,if_neg (by omega)]
theorem ST (T:List (List Int))(b x y:Nat)(hx:x<n):fW T b n 0 x y=wk T (b+1) x y:=by
 unfold fW;rw [if_pos (.inl hx)]
theorem OQ (T:List (List Int))(b x y:Nat):wk T b x y=fW T b 0 0 x y:=by
 unfold fW;rw [if_neg (by omega)]
section
variable {X:Cx}{iter iter' elt:Expr}{te:TED}{ti ti':TID}{tt tt':TTD}{pos spos:Pos}{scope:Scope}{js:List Nat}{ifs ifs':List Expr}
theorem OR {i i' k:Nat}{x z y:Str}{p pz py:Pos}(hc:X.calm=true)(hN:X.N.Nodup)(hk:X.N[k]? =some y)(hy:Loc X.env.scope y)(S:BlockOk X scope js)(hi:JI X (.Name x p) iter ti)(hj:i∈js)(hj':i'∈js)(hne:i≠i')(hx:X.N[i]? =some x)(hz:X.N[i']? =some z)
 (hl:scope.names.lookup x=some .local\/scope.names.lookup x=some .cell)(hl':scope.names.lookup z=some .local\/scope.names.lookup z=some .cell)
 (ht: ∀X',jG X scope X'->PTs X' ifs (LT X'.K tt))(hi': ∀X',jG X scope X'->JI X' (.Name z pz) iter' ti')(ht': ∀X',jG X scope X'->PTs X' ifs' (LT X'.K tt'))(he: ∀X',jG X scope X'->JE X' elt te)
 (hsw:swapsWith (.ListComp elt [⟨.Name x p,iter,ifs,0⟩,⟨.Name z pz,iter',ifs',0⟩] scope pos) (some (.Name y py)) spos.line X.env=pure true:=by rfl)
 (hf:X.fn y=true\/X.env.scope.names.lookup y=some .local:=by first|exact .inl rfl|exact .inr rfl|assumption)(hs: ∀x,foldedSetIterable iter X.env x=pure x:=by intro _;rfl)(hs': ∀env x,foldedSetIterable iter' env x=pure x:=by intro _ _;rfl):
 JS X (.Assign [.Name y py] (.ListComp elt [⟨.Name x p,iter,ifs,0⟩,⟨.Name z pz,iter',ifs',0⟩] scope pos) spos) (Bj k (Hx (bN i) js ti tt i' ti' tt' te)):=by
 have base:PS X (.Assign [.Name y py] (.ListComp elt [⟨.Name x p,iter,ifs,0⟩,⟨.Name z pz,iter',ifs',0⟩] scope pos) spos) (Fq (Kz js (LI X.K ti) (vg i) (LT X.K tt) (LI X.K ti') (vg i') (LT X.K tt') (LE X.K te)) (vg k)):=
  RI hc S hi.to rfl (λX' hX=>by obtain⟨C,s₀,H₀,ex,rfl⟩:=hX;exact vZ hN hx hl) (λX' hX=>by have:=ht X' hX;obtain⟨C,s₀,H₀,ex,rfl⟩:=hX;exact this)
   (λenv acc=>RJ (.ListComp elt [⟨.Name x p,iter,ifs,0⟩,⟨.Name z pz,iter',ifs',0⟩] scope pos) iter' env acc) (λ_ _ _=>Ls ..)
   (λX' hX D=>by
    have a:=(hi' X' hX).to;have b:=ht' X' hX;have c:=(he X' hX).to;obtain⟨C,s₀,H₀,ex,rfl⟩:=hX;exact Lr (g:=vg i') hc rfl a (vZ hN hz hl') b c (hs' _))
   (Jt hN hk hy hf) hsw hs
 exact⟨base.imp λD σ H h=>by
  obtain⟨σd,hd,Qd,rs,rh,t,p⟩:=RM (K:=X.K) D σ H h;exact EV (EU hj hj' hne) σ H _ ⟨σd,hd,Qd,rs,rh,t,p⟩⟩
end
def Av (g:Nat->Nat->Bool)(w:List Nat)(j:Nat):Bool:=g (w.getLastD 0) j&&(decide (w.headD 0<j)&& !decide (j∈w))
def Tu (g:Nat->Nat->Bool)(n:Nat)(w:List Nat):List (List Nat):=((List.range n).filter (Av g w)).map λj=>w++ [j]
def lev (g:Nat->Nat->Bool)(n:Nat):Nat->List (List Nat)
 |0=>(List.range n).map λi=> [i]
 |t+1=>(lev g n t).flatMap (Tu g n)
theorem ya {p q:α->Bool}(h: ∀a,p a=true->q a=true): ∀l:List α,(l.filter p).Sublist (l.filter q)
 | []=> .slnil
 |a::l=>by
  cases e:p a with
  |true=>rw [A0 e,A0 (h a e)];exact(ya h l).cons₂ a
  |false=>
   rw [A1 (by rw [e];exact P4)];cases e':q a with
   |true=>rw [A0 e'];exact(ya h l).cons a
   |false=>rw [A1 (by rw [e'];exact P4)];exact ya h l
theorem Yr {β:Type}{f g:α->List β}(h: ∀a,(f a).Sublist (g a)): ∀ {l m:List α},l.Sublist m->(l.flatMap f).Sublist (m.flatMap g)
 |_,_,.slnil=> .slnil
 |_,_,.cons a s=>by rw [G0u];exact(Yr h s).trans (List.sublist_append_right _ _)
 |_,_,.cons₂ a s=>by rw [G0u,G0u];exact(h a).append (Yr h s)
variable {g:Nat->Nat->Bool}
theorem WJ {g':Nat->Nat->Bool}(h: ∀i j,g i j=true->g' i j=true)(n:Nat): ∀t,(lev g n t).Sublist (lev g' n t)
 |0=>List.Sublist.refl _
 |t+1=>Yr (λw=>(ya (λj e=>by
  unfold Av at*
  rw [R8] at*
  exact⟨h _ _ e.1,e.2⟩) (List.range n)).map _) (WJ h n t)
def Tv:Nat->Nat->Bool:=λ_ _=>true
theorem OS: ∀n,n<=6-> ∀t,t<=6->(lev Tv n t).length<=144:=by decide +kernel
variable {t:Nat}
theorem Nw (h6:n<=6)(ht:t<=6):(lev g n t).length<=144:=D6 (WJ (λ_ _ _=>rfl) n t).length_le (OS n h6 t ht)
theorem CS (n:Nat)(h6:n<=6):lev Tv n n= []:=by
 have: ∀n,n<=6->lev Tv n n= []:=by decide +kernel
 exact this n h6
theorem OT (h6:n<=6):lev g n n= []:=F7 (Nat.le_zero.mp (by rw [<-M8 (α:=List Nat),<-CS n h6];exact(WJ (λ_ _ _=>rfl) n n).length_le))
theorem SU (h:lev g n t= []):lev g n (t+1)= []:=by
 show (lev g n t).flatMap _= [];rw [h];rfl
structure LevOk (n t:Nat)(w:List Nat):Prop where
 len:w.length=t+1
 lt: ∀i∈w,i<n
 nd:w.Nodup
 low: ∀i∈w,w.headD 0<=i
theorem VD: ∀ {t:Nat} {w:List Nat},w∈lev g n t->LevOk n t w
 |0,w,h=>by
  obtain⟨i,hi,rfl⟩:=R5.mp h;exact⟨rfl,λj hj=>by rw [G3.mp hj];exact R0.mp hi,M6 _ _,λj hj=>by rw [G3.mp hj];exact G9 _⟩
 |t+1,w,h=>by
  obtain⟨v,hv,hw⟩:=List.mem_flatMap.mp h;have o:=VD hv;obtain⟨j,hj,rfl⟩:=R5.mp hw;obtain⟨hj1,hj2⟩:=N4.mp hj;unfold Av at hj2;rw [R8,R8] at hj2;obtain⟨_,h3,h4⟩:=hj2;have h3:=B3 h3;have h4:j ∉ v:=λz=>by rw [P3 z] at h4;cases h4
  have hd:(v++ [j]).headD 0=v.headD 0:=by
   cases v with
   |nil=>have:=o.len;cases this
   |cons a v=>rfl
  refine⟨by rw [G7,o.len];rfl,λi hi=> ?_,?_,λi hi=> ?_⟩
  ·rcases D0.mp hi with z|z
   ·exact o.lt i z
   ·rw [G3.mp z];exact R0.mp hj1
  ·exact X2.mpr ⟨o.nd,M6 _ _,λa ha b hb e=>by rw [G3.mp hb] at e;subst e;exact h4 ha⟩
  ·rw [hd];rcases D0.mp hi with z|z
   ·exact o.low i z
   ·rw [G3.mp z];exact D5 h3
def Xj (g:Nat->Nat->Bool)(n:Nat):Nat->List (List Nat)
 |0=> []
 |t+1=>Xj g n t++(lev g n t).filter λw=>g (w.getLastD 0) (w.headD 0)
def vx (T:List (List Int))(i j:Nat):Bool:=decide (ent T i j>0)
def rounds (T:List (List Int))(n:Nat):List (List Nat):=Nq (Xj (vx T) n n)
theorem XZ {g':Nat->Nat->Bool}(h: ∀i j,g i j=true->g' i j=true)(n:Nat): ∀t,(Xj g n t).length<=(Xj g' n t).length
 |0=>G9 _
 |t+1=>by
  show (Xj g n t++_).length<=(Xj g' n t++_).length;rw [G7,G7];exact Nat.add_le_add (XZ h n t) (((WJ h n t).filter _).trans (ya (λw e=>h _ _ e) _)).length_le
theorem OU: ∀n,n<=6-> ∀t,t<=6->(Xj Tv n t).length<=415:=by decide +kernel
theorem Ut (h6:n<=6)(ht:t<=6):(Xj g n t).length<=415:=D6 (XZ (λ_ _ _=>rfl) n t) (OU n h6 t ht)
theorem Qa: ∀ {t:Nat} (k:Nat),lev g n t= []->Xj g n (t+k)=Xj g n t/\lev g n (t+k)= []
 |t,0,h=>⟨rfl,h⟩
 |t,k+1,h=>by
  obtain⟨a,b⟩:=Qa k h;refine⟨?_,SU b⟩;show Xj g n (t+k)++(lev g n (t+k)).filter _=_;rw [b,a,G0Y,B9]
theorem VE (h6:n<=6):(rounds T n).length<=415:=by
 unfold rounds;rw [(ZS _).length_eq];exact Ut h6 h6
variable {w:List Nat}
theorem PM (h:w.length=t+1):atI (w.map λ(k:Nat)=>D.int (k:Int)) 0=some (.int ((w.headD 0:Nat):Int)):=by
 cases w with
 |nil=>cases h
 |cons a w=>exact zm (j:=0) rfl
theorem FJ (h:w.length=t+1):atI (w.map λ(k:Nat)=>D.int (k:Int)) (-1)=some (.int ((w.getLastD 0:Nat):Int)):=by
 refine Ug (by rw [G2];omega) ?_;rw [G2,P1,I0,O4,G0 (by omega)];rfl
theorem Nx (h:w.length=t+1):w.getLastD 0∈w:=by
 rw [I0,O4,G0 (by omega)];exact M1 _
theorem CT (h:w.length=t+1):w.headD 0∈w:=by
 cases w with
 |nil=>cases h
 |cons a w=>exact P9
variable {β:Type}
theorem Ny (f:α->List β){xs:List α}{k:Nat}{x:α}(h:xs[k]? =some x):(xs.take (k+1)).flatMap f=(xs.take k).flatMap f++f x:=by
 rw [N3,h,G1k];simp
theorem Nz (p:α->Bool)(g:α->β){xs:List α}{k:Nat}{x:α}(h:xs[k]? =some x):((xs.take (k+1)).filter p).map g=((xs.take k).filter p).map g++if p x=true then [g x] else []:=by
 rw [N3,h,E7,R9]
 congr 1
 by_cases c:p x=true
 ·rw [if_pos c];simp [c]
 ·rw [if_neg c];simp [c]
theorem Wm (f:α->List β)(xs:List α)(k:Nat):((xs.take k).flatMap f).length<=(xs.flatMap f).length:=by
 conv=>rhs;rw [<-R4 k xs,G1k,G7]
 omega
section
variable {α β:Type}{i i':Nat}{js:List Nat}{ti ti':TID}{tt':TTD}{te:TED}{σ:SD}{h:HD}{Q:KD}{j:ItD}
theorem SV (xs:List α)(c:α->D)(ys:α->List β)(c':β->D)(p:α->β->Bool)(g:α->β->D)(hz:(xs.flatMap λx=>((ys x).filter (p x)).map (g x)).length<=sizeLine)(hj: ∀h',Sub h h'->j h'=some (xs.map c))(ht: ∀R:ItD->HD->Prop,R j h->ti σ h R)
 (hin: ∀x∈xs,∀h',Sub h h'-> ∀R:ItD->HD->Prop,(∀j' h2,Sub h' h2->(∀h3,Sub h2 h3->j' h3=some ((ys x).map c'))->R j' h2)->ti' ((jO js σ).set i (some (c x))) h' R)
 (hp: ∀x∈xs,∀y∈ys x,∀h',Sub h h'-> ∀Q':Bool->HD->Prop,Q' (p x y) h'->tt' (((jO js σ).set i (some (c x))).set i' (some (c' y))) h' Q')
 (he: ∀x∈xs,∀y∈ys x,p x y=true-> ∀h',Sub h h'-> ∀Q':KD,Q' (g x y) h'->te (((jO js σ).set i (some (c x))).set i' (some (c' y))) h' Q')
 (hq: ∀a h',Sub h h'->h' a=none->Q (.lst a) (zN h' a (xs.flatMap λx=>((ys x).filter (p x)).map (g x)))):Hx (bN i) js ti WV i' ti' tt' te σ h Q:=by
 refine ht _ ⟨xs.length,λk zs h'=>Sub h h'/\zs=(xs.take k).flatMap λx=>((ys x).filter (p x)).map (g x),⟨Sub.refl h,rfl⟩,?_⟩;rintro k zs h1 ⟨s1,rfl⟩;refine⟨D6 (Wm _ xs k) hz,xs.map c,hj h1 s1,by rw [G2];exact G9 _,λhl a ha=> ?_,λd hd=> ?_⟩
 ·rw [G2] at hl;rw [D7 hl];exact hq a h1 s1 ha
 rw [P1] at hd;cases ex:xs[k]? with
 |none=>rw [ex] at hd;cases hd
 |some x=>
  rw [ex] at hd;injection hd with hd
  subst hd;have mx:=G5 ex;refine⟨_,rfl,?_⟩;unfold WV;refine Xi ?_;refine hin x mx h1 s1 _ λj' h2 s2 hj'=>⟨(ys x).length,λm zs h'=>Sub h2 h'/\zs=((xs.take k).flatMap λx=>((ys x).filter (p x)).map (g x))++(((ys x).take m).filter (p x)).map (g x),⟨Sub.refl h2,by simp⟩,?_⟩
  rintro m zs h3 ⟨s3,rfl⟩;have s03:Sub h h3:=(s1.trans s2).trans s3;have tk:=Ny (λx=>((ys x).filter (p x)).map (g x)) ex;refine⟨?_,(ys x).map c',hj' h3 s3,by rw [G2];exact G9 _,λhl=> ?_,λd hd=> ?_⟩
  ·refine D6 ?_ (D6 (Wm (λx=>((ys x).filter (p x)).map (g x)) xs (k+1)) hz);rw [tk,G7,G7,G2,G2];have:=(A3 m (ys x)).filter (p x) |>.length_le;omega
  ·rw [G2] at hl;refine⟨h3,Sub.refl _,s03,?_⟩;rw [tk,D7 hl]
  ·rw [P1] at hd;cases ey:(ys x)[m]? with
   |none=>rw [ey] at hd;cases hd
   |some y=>
    rw [ey] at hd;injection hd with hd
    subst hd;have my:=G5 ey;have tf:=Nz (p x) (g x) ey;refine hp x mx y my h3 s03 _ ?_
    by_cases cp:p x y=true
    ·rw [if_pos cp] at tf ⊢;refine he x mx y my cp h3 s03 _ ⟨h3,Sub.refl _,s3,?_⟩;rw [tf,G8]
    ·rw [if_neg cp] at tf ⊢;refine⟨h3,Sub.refl _,s3,?_⟩;rw [tf,B9]
end
theorem encO:Enc jJ Rf:=⟨Jz,λS=>Vw _,λS=>D6 (Yf _) (by decide),Gq⟩
theorem VF: ∀P:List (List Nat),PyData.depthAll (P.map Rf)<=3
 | []=>by simp [PyData.depthAll]
 |S::P=>by
  have:=VF P;have h2:PyData.depth (Rf S)<=2:=Yf _;simp only [T5,PyData.depthAll];omega
theorem GA (P:List (List Nat)):shaped (.list (P.map Rf))=true:=by
 unfold shaped;have h1:PyData.canLay0 (.list (P.map Rf))=true:=by simp only [PyData.canLay0];exact encO.lays P
 have h2:=VF P;have h3:PyData.depth (.list (P.map Rf))<=64:=by simp only [PyData.depth];omega
 rw [h1,P3 h3];rfl
variable {s:Nat}
theorem Made.cons:Made (s::S) n↔ ∃o,o*s<=n/\Made S (n-o*s):=by
 constructor
 ·intro h
  induction h with
  |z=>exact⟨0,by omega,by rw [G1q];exact .z⟩
  | @s m x h hx ih=>
   obtain⟨o,a,b⟩:=ih;rcases D3.mp hx with e|e
   ·subst e;refine⟨o+1,by rw [U9];omega,?_⟩;rw [U9,show m+x-(o*x+x)=m-o*x by omega];exact b
   ·refine⟨o,by omega,?_⟩;rw [show m+x-o*s=(m-o*s)+x by omega];exact .s b e
 ·rintro ⟨o,a,b⟩;have:=(b.mono λl hl=>D2 s hl).times (P9 (a:=s)) o;rw [Q1 a] at this;exact this
theorem FK {o:Nat}(s1:1<=s):o<n / s+1↔o*s<=n:=by
 rw [Nat.lt_succ_iff,Q3 s1]
noncomputable def Uu:List Nat->Nat->List Nat
 | [],_=> []
 |s::S,n=>((List.range (n / s+1)).find? λo=>mkB S (n-o*s)).getD 0::Uu S (n-(((List.range (n / s+1)).find? λo=>mkB S (n-o*s)).getD 0)*s)
theorem Qb {o:Nat}(e:(List.range (n / s+1)).find? (λo=>mkB S (n-o*s))=some o):Uu (s::S) n=o::Uu S (n-o*s):=by
 show ((List.range (n / s+1)).find? λo=>mkB S (n-o*s)).getD 0::Uu S (n-(((List.range (n / s+1)).find? λo=>mkB S (n-o*s)).getD 0)*s)=_;rw [e];rfl
structure LensE (L:List Nat):Prop where
 rise:L.Pairwise (· < ·)
 lo: ∀l∈L,1<=l
 hi: ∀l∈L,l<=12
 few:L.length<=6
theorem Lens.e {L:List Nat}(h:Lens L):LensE L:=⟨h.rise,h.lo,h.hi,h.few⟩
theorem LensE.drop {L:List Nat}(h:LensE L)(i:Nat):LensE (L.drop i):=⟨h.rise.sublist (C9 _ _),λl hl=>h.lo l (M5 hl),λl hl=>h.hi l (M5 hl),by have:=h.few;rw [S4];omega⟩
theorem GC (s1:1<=s)(m:Made (s::S) n): ∃o,(List.range (n / s+1)).find? (λo=>mkB S (n-o*s))=some o/\o*s<=n/\mkB S (n-o*s)=true/\ ∀j,j<o->mkB S (n-j*s)=false:=by
 obtain⟨o,a,b⟩:=Made.cons.mp m;cases e:(List.range (n / s+1)).find? λo=>mkB S (n-o*s) with
 |none=>exact absurd (mkB_true.mpr b) (List.find?_eq_none.mp e o (R0.mpr ((FK s1).mpr a)))
 |some o1=>
  obtain⟨p,lt,f⟩:=List.find?_range_eq_some.mp e;exact⟨o1,rfl,(FK s1).mp (R0.mp lt),p,λj hj=>by have:=f j hj;simpa using this⟩
end L2
namespace L2
open PySem PySem.Spec PyProof.Rows
def s5:Nat->Nat
 |0=>0
 |d+1=>5*s5 d+1
def f5 (N:Nat):Nat->Nat->Nat
 |0,a=>a
 |d+1,a=>(f5 N d a*5+1)%N
theorem PN: ∀ (fuel k n:Nat),3<=k-> ∃m,3<=m/\SetTable.sizeAbove.go n fuel (2^k)=2^m/\(n<2^(k+fuel)->n<2^m)
 |0,k,n,h=>⟨k,h,rfl,λz=>z⟩
 |fuel+1,k,n,h=>by
  unfold SetTable.sizeAbove.go
  by_cases c:2^k<=n
  ·rw [if_pos c,<-Nat.pow_succ];obtain⟨m,a,b,d⟩:=PN fuel (k+1) n (by omega);exact⟨m,a,b,λz=>d (by rw [Nat.add_right_comm,V8];exact z)⟩
  ·rw [if_neg c];exact⟨k,h,rfl,λ_=>by omega⟩
theorem above {n:Nat}(h:n<2^67): ∃m,SetTable.sizeAbove n=2^m/\n<SetTable.sizeAbove n/\8<=SetTable.sizeAbove n:=by
 obtain⟨m,a,b,c⟩:=PN 64 3 n (by decide);have b:SetTable.sizeAbove n=2^m:=b;refine⟨m,b,by rw [b];exact c h,?_⟩;rw [b];exact G05 (show 0<2 by decide) a
end L2
namespace L2
open PySem PySem.Spec PyProof.Rows HT
def OV (h h':Heap):Prop:= ∀ (b:Addr) (o:Obj),o.cls= .type "tuple" ->h.get? b=some o->h'.get? b=some o
structure MemK (prog:Program)(w:World)(K:Type)[DecidableEq K] where
 is:Heap->K->Addr->Prop
 hash:K->Int
 inj: ∀ {h:Heap} {x y:K} {a:Addr},is h x a->is h y a->x=y
 keep: ∀ {h h':Heap} {x:K} {a:Addr},OV h h'->is h x a->is h' x a
 hashed: ∀ {A:Around} {E:Value->Shared->Prop} {s:Shared} {x:K} {a:Addr} {Q:Int->Shared->Prop},A.units+8<cLine->is s.heap x a->(∀tk,Q (hash x) {s with toks:=tk})->wpAny (model prog w) A (pyHash (.ref a)) Q E s
 same: ∀ {A:Around} {E:Value->Shared->Prop} {s:Shared} {x y:K} {a b:Addr} {Q:Bool->Shared->Prop},A.units+8<cLine->is s.heap x a->is s.heap y b->Q (decide (x=y)) s->wpAny (model prog w) A (eqBool (.ref a) (.ref b)) Q E s
 quiet: ∀ {A:Around} {E:Value->Shared->Prop} {s:Shared} {x:K} {a:Addr} {Q:Bool->Shared->Prop},is s.heap x a->Q true s->wpAny (model prog w) A (eqIsQuiet 8 (.ref a)) Q E s
 cls: ∀ {A:Around} {E:Value->Shared->Prop} {s:Shared} {x:K} {a:Addr} {Q:Bool->Shared->Prop},is s.heap x a->Q false s->wpAny (model prog w) A (ofAClassStatement 8 (.ref a)) Q E s
 byv: ∀ {A:Around} {E:Value->Shared->Prop} {s:Shared} {x:K} {a:Addr} {Q:Bool->Shared->Prop},is s.heap x a->Q true s->wpAny (model prog w) A (hashByValue 8 (.ref a)) Q E s
end L2
namespace L2
open PySem PySem.Spec PyProof.Rows PySem.SeqAt HT
def pcS (T:List (List Int))(n p:Nat):List Nat:=(List.range n).filter λj=>wk T n p j&&wk T n j p
def CU (T:List (List Int))(n:Nat):List (List Nat):=((List.range n).filter λp=>decide ((pcS T n p).headD 0=p)).map (pcS T n)
section
variable {T:List (List Int)}{n e:Nat}
theorem mem_pc {p j:Nat}:j∈pcS T n p↔j<n/\wk T n p j=true/\wk T n j p=true:=by
 unfold pcS;rw [N4,R0,R8]
theorem OW {p:Nat}(hp:p<n):p∈pcS T n p:=mem_pc.mpr ⟨hp,Gz T n p,Gz T n p⟩
theorem OX {p:Nat}(hp:p<n): ∃r,pcS T n p=(pcS T n p).headD 0::r:=by
 cases h:pcS T n p with
 |nil=>have:=OW (T:=T) hp;rw [h] at this;cases this
 |cons x r=>exact⟨r,rfl⟩
end
end L2
namespace L2
open PySem PySem.Spec PyProof.Rows PySem.W
structure DefIn (K:Frag)(x:Str)(st:Stmt)(f:Addr)(fd:FuncData):Prop where
 at_:nsIn K mainGlobals x=some (some (.ref f))
 fn:Fun K x x st f fd
variable {K:Frag}{h base:Heap}{mg:Str->Option Value}{x:Str}{st:Stmt}{f:Addr}{fd:FuncData}{P:Program}{w:World}{n:Nat}{ps:List Str}
theorem SW {oc:Value}{od an:Option Addr}{osl:Array (Option Value)}{kV doc pm cdv ct:Value}(a:nsIn K mainGlobals x=some (some (.ref f)))(l:K.lookup f=some ⟨oc,od,.func (fnOf x x (vp st) (wV st) (jf st) .none kV doc pm an cdv ct),osl⟩)
 (c:codeIn K cdv x=true)(k:keepIn K (.ref f)=true):DefIn K x st f (fnOf x x (vp st) (wV st) (jf st) .none kV doc pm an cdv ct):=⟨a,Er l c k⟩
abbrev Kb (x:Str)(st:Stmt)(ps:List Str):Prop:= ∀ (kV doc pm:Value) (an:Option Addr) (cdv ct:Value) (us:List Value),us.length=ps.length->bindArgs (fnOf x x (vp st) (wV st) (jf st) .none kV doc pm an cdv ct) ⟨us,[]⟩=pure (ps.zip us)
theorem DefIn.nm (d:DefIn K x st f fd)(X:K.In h)(G:h.Ns mainGlobals mg):mg x=some (.ref f):=mg_of X G d.at_
theorem DefIn.cal {sp:RDn}(d:DefIn K x st f fd)(l:OpenLaw)(w:World)(base:Heap)(X:K.In h)(G:h.Ns mainGlobals mg)(ok:FnOk l.prog w K mg base CX0 n f fd ps (LSp K sp))(b:Kb x st ps:=by first|(exact λ_ _ _ _ _ _ us hl=>match us,hl with| [_],_=>rfl)|(exact λ_ _ _ _ _ _ us hl=>match us,hl with| [_,_],_=>rfl)|(exact λ_ _ _ _ _ _ us hl=>match us,hl with| [_,_,_],_=>rfl)|(exact λ_ _ _ _ _ _ us hl=>match us,hl with| [_,_,_,_],_=>rfl)|(exact λ_ _ _ _ _ _ us hl=>match us,hl with| [_,_,_,_,_],_=>rfl)):ju l.prog w K mg base n x ps sp:=⟨_,_,ok,d.fn.binds b,d.fn.kp,d.nm X G⟩
def zsB (K:Frag):Bool:= ["len","max","min","divmod","all","any","repr","sum","sorted","int","tuple","list","set","bool","isinstance","range","zip","enumerate","reversed"].all λx=>nsIn K mainGlobals (Str.ofString x)==some none
theorem Kc (X:K.In h)(G:h.Ns mainGlobals mg)(e:zsB K=true):Zs mg:=by
 unfold zsB at e;rw [S5] at e;have m:=λ(x:String) hx=>mg_none_of X G (G02.mp (e x hx))
 exact⟨m "len" (by decide),m "max" (by decide),m "min" (by decide),m "divmod" (by decide),m "all" (by decide),m "any" (by decide),m "repr" (by decide),m "sum" (by decide),m "sorted" (by decide),m "int" (by decide),m "tuple" (by decide),m "list" (by decide),m "set" (by decide),m "bool" (by decide),m "isinstance" (by decide),m "range" (by decide),m "zip" (by decide),m "enumerate" (by decide),m "reversed" (by decide)⟩
end L2
namespace L2
open PySem PySem.Spec PyProof.Rows
theorem SetOfI.as {w:World}{o:Obj}{ns ms:List Int}(h:SetOfI w o ns)(e: ∀n,n∈ns↔n∈ms):SetOfI w o ms:=
 let ⟨es,ep,t,q,S⟩:=h;⟨es,ep,t,q,S.tab,S.nums,S.nd,λn=>(S.mem n).trans (e n)⟩
theorem NA {X:Cx}(hc:X.calm=true):CallR X (.type "set") (λxs H Q=> ∃ (a:Addr) (ns:List Int),xs= [.ref a]/\SqL X.K H a (ns.map V.int)/\ns.length<1000/\ ∀ (p:Addr) (o:Obj),H p=none->SetOfI X.w o ns.reverse->Q (.ref p) (upd H p (.frz o (.own 0)))):=by
 intro pins s σ H xs us Q I r ⟨a,ns,e,hS,few,q⟩;subst e;obtain⟨u,rfl,ru⟩:=Wv r;cases ru;obtain⟨its,rv,pl,hz⟩:=I.list hS;obtain⟨o,e1,e2,c,e3⟩:=pl.isList;exact HT.Uo (I.ok.hd hc) (.inl rfl) ⟨o,e1,e2,c,e3⟩ (Wk rv) few λh' tk es ep t e S kept=>⟨.ref _,_,I.laid (t':=tk) (o:= .frz (HT.Jh es ep t) (.own 0)) kept (G9 _) ⟨e,⟨_,e⟩⟩,rfl,q _ _ (I.hok.fresh (G9 _)) ⟨es,ep,t,rfl,S⟩⟩
def dSM (ta:TAD):TED:=λσ h Q=>ta σ h λds h1=> ∃ (ns ms:List Int) (a:Addr),ds= [.lst a]/\h1 a=some (ns.map D.int)/\ns.length<1000/\ms.length<64/\(∀n,n∈ns↔n∈ms)/\ ∀ (p:Addr) (ks:List Int),h1 p=none->ks.Pairwise (· < ·)->(∀n,n∈ks↔n∈ns)->Q (.lst p) (zN h1 p (ks.map D.int))
theorem jsm {X : Cx} {a : Expr} {ta : TAD} {p p2 pos pos2 : Pos} (hc : X.calm = true) (hg : Gl X "sorted") (hm : X.mg "sorted" = none) (hg2 : Gl X "set") (hm2 : X.mg "set" = none) (ha : JA X [a] ta) (hs : starEach [a] X.env = [(false, eval a X.env)] := by rfl)
    (h1 : starEach [.Call (.Name "set" p2) [a] [] pos2] X.env = (false, eval (.Call (.Name "set" p2) [a] [] pos2) X.env) :: starEach [] X.env := by rfl) (h2 : (backTo pos (starEach [] X.env)).any (·.1) = false := by rfl) (h3 : (backTo pos2 (starEach [] X.env)).any (·.1) = false := by rfl) :
    JE X (.Call (.Name "sorted" p) [.Call (.Name "set" p2) [a] [] pos2] [] pos) (dSM ta) :=
  ⟨(WD (Wl hc) hg hm (by decide +kernel) (vo (WL (NA hc) hg2 hm2 (by decide +kernel) ha.to (by decide) (by decide) hs h3) pa_nil h1) (by decide) (by decide) h1 h2).imp
    fun σ H Q ⟨σd, h, Qd, rs, rh, t, post⟩ => LA.bind rs rh t fun ds vs h1 H1 k1 rs1 rh1 r1 ⟨ns, ms, a, e, ha, few, lm, same, q⟩ => by
      subst e
      obtain ⟨v, e, r2⟩ := jH r1
      obtain ⟨ws, hH, r3⟩ := rh1 a _ ha
      have e1 : v = .ref a := r2.1
      rw [jT r3] at hH
      subst e e1
      refine ⟨a, ns, rfl, SqL.of hH, few, fun c o hcn S => ⟨c, o, ms, rfl, jz, S.as fun n => by rw [C8]; exact same n, lm, fun l ks hl a b => ?_⟩⟩
      have rh2 := rh1.new (o := .frz o (.own 0)) hcn
      exact post (.lst l) (.ref l) _ _ (k1.trans ((Kept.new hcn).trans (.new hl))) (rh2.newL hl (wU ks)) ⟨rfl, _, jz⟩ (q l ks (rh2.free hl) a fun n => (b n).trans (same n).symm)⟩
end L2
namespace L2
theorem NB {n e:Nat}{T:List (List Int)}(h:Sq n e T)(hn:n<=8){o:Nat}(ho:o<n): ∀ (t:Nat) {p:Nat},p<n->(0<cnt T n o t p↔RP n T t p o)
 |0,p,hp=>by
  rw [Uf hp ho];show 0<(if p=o then (1:Int) else 0)↔_
  by_cases z:p=o
  ·rw [if_pos z];exact⟨λ_=>z,λ_=>by decide⟩
  ·rw [if_neg z];exact⟨λw=>absurd w (by decide),λw=>absurd w z⟩
 |t+1,p,hp=>by
  rw [G1n t 1,MG h hn 1 t hp ho,G1n 1 t];constructor
  ·intro w;obtain⟨j,hj,c⟩:=ML (λj=>Px t j) w;have jl:=FG hj;exact⟨j,jl,(Vy h hn).mpr (by have:=B3 (N4.mp hj).2;omega),(NB h hn ho t jl).mp c⟩
  ·rintro ⟨j,hj,a,c⟩;have c:=(NB h hn ho t hj).mpr c;have a:=(Vy h hn).mp a;have nn:=(h.ent_nn hp hj).1;have jm:j∈Dv T n p:=N4.mpr ⟨R0.mpr hj,P3 (by omega)⟩;obtain⟨l1,l2,e⟩:=List.append_of_mem jm;show 0<((Dv T n p).map (cnt T n o t)).sum;rw [e,R9,T5,List.sum_append,G0z];have x1:0<=(l1.map (cnt T n o t)).sum:=Pw λx hx=>by obtain⟨y,_,rfl⟩:=R5.mp hx;exact Px t y
   have x2:0<=(l2.map (cnt T n o t)).sum:=Pw λx hx=>by obtain⟨y,_,rfl⟩:=R5.mp hx;exact Px t y
   omega
theorem FL {g:Nat->Nat->Bool}{n:Nat}: ∀ {t:Nat} {w:List Nat},w∈lev g n t-> ∀i x y,w[i]? =some x->w[i+1]? =some y->g x y=true
 |0,w,h=>λi x y e1 e2=>by
  obtain⟨z,_,rfl⟩:=R5.mp h;rw [N2 (by simp)] at e2;cases e2
 |t+1,w,h=>λi x y e1 e2=>by
  obtain⟨v,hv,hw⟩:=List.mem_flatMap.mp h;obtain⟨j,hj,rfl⟩:=R5.mp hw;have fj:=(N4.mp hj).2;unfold Av at fj;rw [R8] at fj;rcases Q4 (i+1) v.length with z|z
  ·rw [D9 (by omega)] at e1;rw [D9 z] at e2;exact FL hv i x y e1 e2
  ·have hi:i+1=v.length:=by
    have:=(G6.mp e2).1;rw [G7,F8] at this;omega
   rw [D9 (by omega)] at e1;rw [P7 (by omega),hi,Nat.sub_self] at e2;injection e2 with e2
   subst e2;have lx:v.getLastD 0=x:=by
    rw [I0,O4,show v.length-1=i by omega,e1];rfl
   rw [<-lx];exact fj.1
theorem PP {g:Nat->Nat->Bool}{n:Nat}{w:List Nat}: ∀ {t:Nat},w∈Xj g n t-> ∃s,s<t/\w∈lev g n s/\g (w.getLastD 0) (w.headD 0)=true
 |t+1,h=>by
  rcases D0.mp h with z|z
  ·obtain⟨s,a,b⟩:=PP z;exact⟨s,by omega,b⟩
  ·obtain⟨a,b⟩:=N4.mp z;exact⟨t,by omega,a,b⟩
section
variable {n e:Nat}{T:List (List Int)}
theorem Uv (h:Sq n e T)(hn:n<=8){w:List Nat}(hw:w∈rounds T n):1<=w.length/\w.length<=n/\(∀t,w.getD (t%w.length) 0<n)/\ ∀t,RP n T 1 (w.getD (t%w.length) 0) (w.getD ((t+1)%w.length) 0):=by
 obtain⟨s,hs,lv,back⟩:=PP ((ZS _).mem_iff.mp hw);have o:=VD lv;have l1:1<=w.length:=by rw [o.len];omega
 refine⟨l1,by rw [o.len];omega,λt=> ?_,λt=> ?_⟩
 ·have:=E2 t l1;rw [P5,G0 this];exact o.lt _ (M1 this)
 ·have m1:=E2 t l1;have e1:w.getD (t%w.length) 0=w[t%w.length]:=by rw [P5,G0 m1];rfl
  rw [Vy h hn];rcases Q4 (t%w.length+1) w.length with z|z
  ·have e2:(t+1)%w.length=t%w.length+1:=by rw [G1u,K6 (show 1<w.length by omega),K6 z]
   have e3:w.getD ((t+1)%w.length) 0=w[t%w.length+1]:=by rw [e2,P5,G0 z];rfl
   rw [e1,e3];have:=B3 (FL lv (t%w.length) _ _ (G0 m1) (G0 z));omega
  ·have e2:(t+1)%w.length=0:=by
    rw [<-G0U t w.length,show w.length*(t / w.length)+t%w.length+1=w.length*(t / w.length+1) by rw [Nat.mul_add];omega];exact Nat.mul_mod_right _ _
   have la:w.getLastD 0=w[t%w.length]:=by
    rw [I0,O4,show w.length-1=t%w.length by omega,G0 m1];rfl
   have he:w.headD 0=w.getD 0 0:=by cases w<;>rfl
   rw [e1,e2,<-he,<-la];have:=B3 back;omega
theorem CV (h:Sq n e T)(hn:n<=8){w:List Nat}(hw:w∈rounds T n){p:Nat}(hp:p∈w):RP n T w.length p p:=by
 obtain⟨l1,_,cl,st⟩:=Uv h hn hw;obtain⟨i,hi,e⟩:=O3 hp;have:=ZN h hn (c:=λt=>w.getD (t%w.length) 0) cl st i w.length;have e1:w.getD (i%w.length) 0=p:=by rw [K6 hi,P5,G0 hi,e];rfl
 have e2:w.getD ((i+w.length)%w.length) 0=p:=by rw [Nat.add_mod_right,e1]
 rw [e1,e2] at this;exact this
theorem NC (h:Sq n e T)(hn:n<=8){p:Nat}(hp:p<n){S:List Nat}(hS: ∀l∈S,RP n T l p p){m:Nat}(hm:Made S m):RP n T m p p:=by
 induction hm with
 |z=>exact(Uf hp hp).mpr rfl
 |s _ hl ih=>exact ZM h hn hp hp hp ih (hS _ hl)
end
theorem ND: ∀ {S:List Nat} {n:Nat},(∀l∈S,1<=l)->Made S n->(Uu S n).length=S.length/\((S.zip (Uu S n)).map λp=>(p.1:Int)*(p.2:Int)).sum=(n:Int)
 | [],n,_,m=>by
  have:=mkB_true.mpr m;rw [OC] at this;exact⟨rfl,(B3 this).symm⟩
 |s::S,n,h,m=>by
  have s1:=h s (P9 ..);obtain⟨o,o1,o2⟩:=Made.cons.mp m;have ex:((List.range (n / s+1)).find? λo=>mkB S (n-o*s)).isSome:=List.find?_isSome.mpr ⟨o,R0.mpr (by have:=(Q3 s1).mpr o1;omega),mkB_true.mpr o2⟩;obtain⟨o',e⟩:=U6.mp ex;have m':Made S (n-o'*s):=mkB_true.mp (List.find?_some (p:=λo=>mkB S (n-o*s)) e);have ol:=R0.mp (List.mem_of_find?_eq_some e);have le:o'*s<=n:=(Q3 s1).mp (by omega);obtain⟨a,b⟩:=ND (λl hl=>h l (D2 _ hl)) m';rw [Qb e];refine⟨by rw [D8,D8,a],?_⟩;rw [Q0,T5,G0z,b];show (s:Int)*(o':Int)+_=_;have:((o'*s:Nat):Int)=(s:Int)*(o':Int):=by rw [G0P,G0R]
  omega
end L2
namespace My
open PySem L2
def top (i:Nat):Stmt:=PySem.Challenge.pw_firstpowers_k57_whole_lengths_and_rounds.main.body.getD i (.Pass ⟨0,0,0,0⟩)
abbrev ZT:Stmt:=top 11
theorem GD:FnScope ["thing"] ["thing"] (jf ZT):=⟨rfl,rfl,rfl,by decide +kernel,rfl,by decide +kernel,by decide +kernel⟩
abbrev JC:Stmt:=top 12
theorem Qc:FnScope ["thing","least","most"] ["thing","least","most"] (jf JC):=⟨rfl,rfl,rfl,by decide +kernel,rfl,by decide +kernel,by decide +kernel⟩
abbrev ZU:Stmt:=top 13
theorem GE:FnScope ["thing","size"] ["thing","size"] (jf ZU):=⟨rfl,rfl,rfl,by decide +kernel,rfl,by decide +kernel,by decide +kernel⟩
abbrev GF:Stmt:=top 14
theorem PZ:FnScope ["row","one","other"] ["row"] (jf GF):=⟨rfl,rfl,rfl,by decide +kernel,rfl,by decide +kernel,by decide +kernel⟩
abbrev yP:Stmt:=top 15
theorem Js:FnScope ["thing","each"] ["thing"] (jf yP):=⟨rfl,rfl,rfl,by decide +kernel,rfl,by decide +kernel,by decide +kernel⟩
abbrev yy:Stmt:=top 16
theorem vY:FnScope ["thing","size","number"] ["thing","size"] (jf yy):=⟨rfl,rfl,rfl,by decide +kernel,rfl,by decide +kernel,by decide +kernel⟩
abbrev wE:Stmt:=top 17
theorem yK:FnScope ["thing","row"] ["thing"] (jf wE):=⟨rfl,rfl,rfl,by decide +kernel,rfl,by decide +kernel,by decide +kernel⟩
abbrev vy:Stmt:=top 18
theorem Uw:FnScope ["thing"] ["thing"] (jf vy):=⟨rfl,rfl,rfl,by decide +kernel,rfl,by decide +kernel,by decide +kernel⟩
abbrev vz:Stmt:=top 19
theorem Ux:FnScope ["table","thing"] ["table","thing"] (jf vz):=⟨rfl,rfl,rfl,by decide +kernel,rfl,by decide +kernel,by decide +kernel⟩
abbrev yQ:Stmt:=top 20
theorem YT:FnScope ["thing","least","most"] ["thing","least","most"] (jf yQ):=⟨rfl,rfl,rfl,by decide +kernel,rfl,by decide +kernel,by decide +kernel⟩
abbrev yA:Stmt:=top 21
theorem Ys:FnScope ["thing"] ["thing"] (jf yA):=⟨rfl,rfl,rfl,by decide +kernel,rfl,by decide +kernel,by decide +kernel⟩
abbrev Yt:Stmt:=top 23
theorem wj:FnScope ["table","size","come","by","one","other"] ["table"] (jf Yt):=⟨rfl,rfl,rfl,by decide +kernel,rfl,by decide +kernel,by decide +kernel⟩
abbrev JD:Stmt:=top 24
theorem zQ:FnScope ["come","size","told","place","piece","other"] ["come"] (jf JD):=⟨rfl,rfl,rfl,by decide +kernel,rfl,by decide +kernel,by decide +kernel⟩
abbrev Uy:Stmt:=top 25
theorem NE:FnScope ["table"] ["table"] (jf Uy):=⟨rfl,rfl,rfl,by decide +kernel,rfl,by decide +kernel,by decide +kernel⟩
abbrev Uz:Stmt:=top 26
theorem NF:FnScope ["table"] ["table"] (jf Uz):=⟨rfl,rfl,rfl,by decide +kernel,rfl,by decide +kernel,by decide +kernel⟩
abbrev GH:Stmt:=top 29
theorem PY:FnScope ["table","place","head","number"] ["table","place"] (jf GH):=⟨rfl,rfl,rfl,by decide +kernel,rfl,by decide +kernel,by decide +kernel⟩
abbrev zb:Stmt:=top 30
theorem vh:FnScope ["table","one","other","k"] ["table","one","other","k"] (jf zb):=⟨rfl,rfl,rfl,by decide +kernel,rfl,by decide +kernel,by decide +kernel⟩
abbrev JF:Stmt:=top 31
theorem zg:FnScope ["table","other","k","size","counts","left","place","head"] ["table","other","k"] (jf JF):=⟨rfl,rfl,rfl,by decide +kernel,rfl,by decide +kernel,by decide +kernel⟩
abbrev vA:Stmt:=top 32
theorem UA:FnScope ["table","one","other","k"] ["table","one","other","k"] (jf vA):=⟨rfl,rfl,rfl,by decide +kernel,rfl,by decide +kernel,by decide +kernel⟩
abbrev yb:Stmt:=top 34
theorem vf:FnScope ["one","other"] ["one","other"] (jf yb):=⟨rfl,rfl,rfl,by decide +kernel,rfl,by decide +kernel,by decide +kernel⟩
abbrev vB:Stmt:=top 35
theorem zl:FnScope ["table","told","paths","place","path","head"] ["table"] (jf vB):=⟨rfl,rfl,rfl,by decide +kernel,rfl,by decide +kernel,by decide +kernel⟩
abbrev NG:Stmt:=top 36
theorem Xh:FnScope ["table","told","each"] ["table"] (jf NG):=⟨rfl,rfl,rfl,by decide +kernel,rfl,by decide +kernel,by decide +kernel⟩
abbrev vC:Stmt:=top 39
theorem wR:FnScope ["lengths","number","made","each","length"] ["lengths","number"] (jf vC):=⟨rfl,rfl,rfl,by decide +kernel,rfl,by decide +kernel,by decide +kernel⟩
abbrev Yu:Stmt:=top 40
theorem DK:FnScope ["lengths","number"] ["lengths","number"] (jf Yu):=⟨rfl,rfl,rfl,by decide +kernel,rfl,by decide +kernel,by decide +kernel⟩
abbrev yR:Stmt:=top 41
theorem za:FnScope ["lengths","into","length","made","number","is_made"] ["lengths"] (jf yR):=⟨rfl,rfl,rfl,by decide +kernel,rfl,by decide +kernel,by decide +kernel⟩
abbrev vD:Stmt:=top 42
theorem jU:FnScope ["lengths","number","counts","left","at","length","made_behind","many"] ["lengths","number"] (jf vD):=⟨rfl,rfl,rfl,by decide +kernel,rfl,by decide +kernel,by decide +kernel⟩
abbrev JH:Stmt:=top 44
theorem Qe:FnScope ["_law_script","_law_k"] ["_law_script","_law_k"] (jf JH):=⟨rfl,rfl,rfl,by decide +kernel,rfl,by decide +kernel,by decide +kernel⟩
abbrev ZV:Stmt:=top 45
theorem YK:FnScope ["_law_cell_here","_law_left"] ["_law_cell_here"] (jf ZV):=⟨rfl,rfl,rfl,by decide +kernel,rfl,by decide +kernel,by decide +kernel⟩
abbrev JJ:Stmt:=top 46
theorem yo:FnScope ["_law_pen_here","_law_many","_law_left","_law_found","_law_stir"] ["_law_pen_here","_law_many"] (jf JJ):=⟨rfl,rfl,rfl,by decide +kernel,rfl,by decide +kernel,by decide +kernel⟩
abbrev JK:Stmt:=top 47
theorem Qf:FnScope ["_law_pen_here"] ["_law_pen_here"] (jf JK):=⟨rfl,rfl,rfl,by decide +kernel,rfl,by decide +kernel,by decide +kernel⟩
abbrev vE:Stmt:=top 48
theorem jI:FnScope ["_law_pen_here","_law_size_here","_law_way","_law_often","_law_most","_law_rows","_law_one","_law_row","_law_other","_law_goes"] ["_law_pen_here","_law_size_here"] (jf vE):=⟨rfl,rfl,rfl,by decide +kernel,rfl,by decide +kernel,by decide +kernel⟩
abbrev vF:Stmt:=top 49
theorem yY:FnScope ["_law_pen_here","_law_many","_law_found","_law_what"] ["_law_pen_here","_law_many"] (jf vF):=⟨rfl,rfl,rfl,by decide +kernel,rfl,by decide +kernel,by decide +kernel⟩
abbrev wf:Stmt:=top 50
theorem jB:FnScope ["_law_pen_here","_law_size_here","_law_order_here","_law_often","_law_rows","_law_at","_law_here","_law_there","_law_one","_law_other","_law_row"] ["_law_pen_here","_law_size_here"] (jf wf):=⟨rfl,rfl,rfl,by decide +kernel,rfl,by decide +kernel,by decide +kernel⟩
abbrev yB:Stmt:=top 51
theorem yi:FnScope ["_law_pen_here","_law_some","_law_turn"] ["_law_pen_here"] (jf yB):=⟨rfl,rfl,rfl,by decide +kernel,rfl,by decide +kernel,by decide +kernel⟩
abbrev zU:Stmt:=top 52
theorem jA:FnScope ["_law_table_here","_law_place","_law_rounds","_law_lengths_here","_law_number","_law_last","_law_one","_law_share","_law_more"] ["_law_table_here","_law_place","_law_rounds"] (jf zU):=⟨rfl,rfl,rfl,by decide +kernel,rfl,by decide +kernel,by decide +kernel⟩
abbrev zr:Stmt:=top 53
theorem jD:FnScope ["_law_pen_here","_law_lengths_here","_law_number","_law_counts","_law_more","_law_one","_law_often"] ["_law_pen_here","_law_lengths_here"] (jf zr):=⟨rfl,rfl,rfl,by decide +kernel,rfl,by decide +kernel,by decide +kernel⟩
abbrev DL:Stmt:=top 54
theorem Wu:FnScope ["_law_script","_law_cell_here","_law_pen_here","_law_size_here","_law_table_here","_law_rounds","_law_place","_law_one"] ["_law_script"] (jf DL):=⟨rfl,rfl,rfl,by decide +kernel,rfl,by decide +kernel,by decide +kernel⟩
section
variable {P:Program}{w:World}{K:PySem.W.Frag}{mg:Str->Option Value}{base:Heap}
/-- no def is asked of the script's list: a thing -/
def NH:D->Bool
 | .int _=>true
 |_=>false
/-- a row of so many numbers from 0 on -/
def Tw:D->Bool
 | .int i=>decide (0<=i)
 |_=>false
def FM (d:D)(k:Int):Bool:=match d with
 | .tup ds=>decide ((ds.length:Int)=k)&&ds.all Tw
 |_=>false
/-! every part has a kind that is told,and no tuple is long -/
mutual
def okD:D->Bool
 | .scr _=>false| .exc _=>false| .fn _=>false| .dct _=>false
 | .tup ds=>decide (ds.length<=1000)&&okDs ds
 |_=>true
def okDs:List D->Bool
 | []=>true
 |d::ds=>okD d&&okDs ds
end
theorem PQ: ∀ {ds:List D},okDs ds=true-> ∀d∈ds,okD d=true
 |d::ds,h,x,hx=>by
  have h':(okD d&&okDs ds)=true:=h;rw [R8] at h';rcases D3.mp hx with e|e
  ·subst e;exact h'.1
  ·exact PQ h'.2 x e
theorem NI: ∀ {ds:List D},(∀d∈ds,okD d=true)->okDs ds=true
 | [],_=>rfl
 |d::ds,h=>by
  show (okD d&&okDs ds)=true;rw [h d P9,NI λx hx=>h x (D2 _ hx)];rfl
theorem GI {ds:List D}(h:okD (.tup ds)=true):ds.length<=1000/\ ∀d∈ds,okD d=true:=by
 have h':(decide (ds.length<=1000)&&okDs ds)=true:=h;rw [R8] at h';exact⟨B3 h'.1,PQ h'.2⟩
theorem FN {ds:List D}(h:ds.length<=1000)(h2: ∀d∈ds,okD d=true):okD (.tup ds)=true:=by
 show (decide (ds.length<=1000)&&okDs ds)=true;rw [P3 h,NI h2];rfl
theorem Zl {d:D}(h:okD d=true): ∃n,Xx d=some n:=by
 cases d<;>first|exact⟨_,rfl⟩|cases h
/-- a table -/
def Aw:D->Bool
 | .tup rs=>decide (1<=rs.length)&&decide (rs.length<=6)&&rs.all λr=>FM r rs.length
 |_=>false
def JL:RDn:=λds h Q=> ∃d n,ds= [d]/\Xx d=some n/\Q (.bl (NH d)) h
variable {n:Nat}{f:Addr}{fd:FuncData}
theorem GJ (Z:Zs mg)(F:Fun K "is_whole" "is_whole" ZT f fd):FnOk P w K mg base CX0 (n+1) f fd ["thing"] (LSp K JL):=by
 refine F.okJ GD (λds h Q q=>by obtain⟨d,nm,e,hn,q⟩:=q;subst e;rfl) _ (λcdv A outer s H E hr=>(jh (wY (FB (Mj (T:= "int") (by decide) rfl Z.isinstance rfl Z.int (by decide +kernel) (jv 0)) (Mh (kU (Mj (T:= "bool") (by decide) rfl Z.isinstance rfl Z.bool (by decide +kernel) (jv 0)))))))) ?_;intro ds h Q q;obtain⟨d,nm,e,hn,q⟩:=q;subst e;simp only [BO,BL,dIs,BK,va,T5,V0,D8,M8,E1,B2,L0,J9,D.bl.injEq,BM,BR,Q8,hn];cases d<;>cases hn<;>exact⟨h,Sub.refl h,q⟩
def ym:RDn:=λds h Q=> ∃d,∃a b:Int,ds= [d,.int a,.int b]/\okD d=true/\Q (.bl (yt d a b)) h
theorem Qg (Z:Zs mg)(F:Fun K "is_within" "is_within" JC f fd)(ZZ:ju P w K mg base n "is_whole" ["thing"] JL):FnOk P w K mg base CX0 (n+1) f fd ["thing","least","most"] (LSp K ym):=by
 obtain⟨QL,UY,Wb,JQ,JV,JY⟩:=ZZ;refine F.okJ Qc (λds h Q q=>by obtain⟨d,a,b,e,ok,q⟩:=q;subst e;rfl) _ (λcdv A outer s H E hr=>(jh (wY (FB (jy Wb hr rfl JY JV JQ (jac (jv 0) jd)) (Mh (Sn Gj Gj (jv 1) (jv 0) (jv 2))))))) ?_;intro ds h Q q;obtain⟨d,a,b,e,ok,q⟩:=q;subst e;obtain⟨nm,hn⟩:=Zl ok;refine⟨_,rfl,d,nm,rfl,hn,NH d,rfl,?_⟩;cases d with
 |int x=>
  refine Xi ⟨_,rfl,_,rfl,_,rfl,?_⟩;show if decide (a<=x)=true then _ else _
  by_cases h1:a<=x
  ·rw [P3 h1];simp only [yt,P3 h1,K2] at q;exact Xi ⟨_,rfl,h,Sub.refl h,q⟩
  ·rw [D4 h1];simp only [yt,D4 h1,G1a] at q;exact vq ⟨h,Sub.refl h,q⟩
 |_=>exact vq ⟨h,Sub.refl h,q⟩
def Yv:RDn:=λds h Q=> ∃d,∃n:Int,ds= [d,.int n]/\okD d=true/\Q (.bl (yt d 0 (n-1))) h
theorem GK (Z:Zs mg)(F:Fun K "is_place" "is_place" ZU f fd)(yf:ju P w K mg base n "is_within" ["thing","least","most"] ym):FnOk P w K mg base CX0 (n+1) f fd ["thing","size"] (LSp K Yv):=by
 obtain⟨ZA,Jr,yh,wx,wz,wB⟩:=yf;refine F.okJ GE (λds h Q q=>by obtain⟨d,k,e,ok,q⟩:=q;subst e;rfl) _ (λcdv A outer s H E hr=>(jh (wY (jy yh hr rfl wB wz wx (jac (jv 0) (by exact(jac jE (by exact(jac (jop Xv (jv 1) jE) jd))))))))) ?_;intro ds h Q q;obtain⟨d,k,e,ok,q⟩:=q;subst e;exact⟨_,rfl,_,rfl,d,0,k-1,rfl,ok,h,Sub.refl h,q⟩
def PR:RDn:=λds h Q=> ∃S:List Nat,ds= [jJ S]/\S.length<=1000/\Q (.bl ((S.zip (S.drop 1)).all λp=>decide ((p.1:Int)<(p.2:Int)))) h
theorem CW (Z:Zs mg)(F:Fun K "rises" "rises" GF f fd):FnOk P w K mg base CX0 (n+1) f fd ["row"] (LSp K PR):=by
 refine F.okJ PZ (λds h Q q=>by obtain⟨S,e,hl,q⟩:=q;subst e;rfl) _ (λcdv A outer s H E hr=>(jh (wY (jP (Wj rfl) rfl Z.all C6 (jac (Tp (i:=1) (j:=2) (js:= [1,2]) rfl (ji (by rfl)) (FE rfl Z.zip (jac (jv 0) (by exact(jac (Ml (jv 0) (Ua jE) Mk) jd)))) (by decide) (by decide) (by decide) PZ.nd rfl rfl (by first|exact Or.inl rfl|exact Or.inr rfl) (by first|exact Or.inl rfl|exact Or.inr rfl) (λX' hX=>jQ) (λX' hX=>by obtain⟨C,s₀,H₀,ex,rfl⟩:=hX;exact(XC LY (jv 1) (jv 2) (jF _)))) jd))))) ?_;intro ds h Q q;obtain⟨S,e,hl,q⟩:=q;subst e;refine HR (j:=λ_=>some (Bk (S.map λ(k:Nat)=>D.int (k:Int)) (YN (S.map λ(k:Nat)=>D.int (k:Int)) (some 1) none))) (S.zip (S.drop 1)) (λp=> .int (p.1:Int)) (λp=> .int (p.2:Int)) (λp=>decide ((p.1:Int)<(p.2:Int))) (by rw [G0T];omega) (congrArg some (Ox S)) (λR r=>⟨_,rfl,_,rfl,_,rfl,_,_,rfl,r⟩) (λp hp Q' q'=>⟨_,rfl,_,rfl,q'⟩) ⟨h,Sub.refl h,q⟩
theorem ifT {c:Bool}{A B:Prop}(e:c=true)(a:A):if c=true then A else B:=by rw [if_pos e];exact a
theorem ifF {c:Bool}{A B:Prop}(e:c=false)(b:B):if c=true then A else B:=by subst e;exact b
def SX:D->Bool
 | .tup xs=>decide (1<=xs.length)&&decide (xs.length<=6)&&xs.all λx=>yt x 1 12
 |_=>false
def uh (d:D):Prop:=(okD d=true/\SX d=false)\/ ∃S:List Nat,d=jJ S/\(∀l∈S,1<=l/\l<=12)/\1<=S.length/\S.length<=6/\((S.zip (S.drop 1)).all λp=>decide ((p.1:Int)<(p.2:Int)))=false
variable {S:List Nat}
theorem CY (h: ∀l∈S,1<=l/\l<=12)(h1:1<=S.length)(h6:S.length<=6):SX (jJ S)=true:=by
 show (decide _&&decide _&&(S.map _).all _)=true;rw [G2,P3 h1,P3 h6];rw [K2,K2,S5];intro x hx;obtain⟨l,hl,rfl⟩:=R5.mp hx;have:=h l hl;show (decide ((1:Int)<=(l:Int))&&decide ((l:Int)<=12))=true;rw [P3 (by omega),P3 (by omega)];rfl
theorem NJ (h:S.Pairwise (· < ·)):((S.zip (S.drop 1)).all λp=>decide ((p.1:Int)<(p.2:Int)))=true:=by
 rw [S5];intro p hp;have:=Pv h p hp;exact P3 (by omega)
def Jm:RDn:=λds h Q=> ∃d,ds= [d]/\((∃S,d=jJ S/\Lens S/\Q (.bl true) h)\/(uh d/\Q (.bl false) h))
theorem YU (Z:Zs mg)(F:Fun K "are_lengths" "are_lengths" yP f fd)(Ah:ju P w K mg base n "rises" ["row"] PR)(yf:ju P w K mg base n "is_within" ["thing","least","most"] ym)(yC: ∃tk,mg "MOST_LENGTHS" =some (.int 6 tk))(yT: ∃tk,mg "MOST_LENGTH" =some (.int 12 tk)):FnOk P w K mg base CX0 (n+1) f fd ["thing"] (LSp K Jm):=by
 obtain⟨Tg,Ay,Ai,Fe,Fm,Fn⟩:=Ah;obtain⟨ZA,Jr,yh,wx,wz,wB⟩:=yf;obtain⟨tk_MOST_LENGTHS,m_MOST_LENGTHS⟩:=yC;obtain⟨tk_MOST_LENGTH,m_MOST_LENGTH⟩:=yT;refine F.okJ Js (λds h Q q=>by obtain⟨d,e,q⟩:=q;subst e;rfl) _ (λcdv A outer s H E hr=>(je (ZK (jpt (To (Jg (yr (Mj (T:= "tuple") (by decide) rfl Z.isinstance rfl Z.tuple (by decide +kernel) (jv 0)))) (Tn (Jg (Me Gj Gj jE (jP yk rfl Z.len C0 (jac (jv 0) jd)) (Dm rfl m_MOST_LENGTHS)))))) (jh (wY jbl)) jW) (by exact(jh (wY (FB (jP (Wj rfl) rfl Z.all C6 (jac (jlc (i:=1) (js:= [1]) rfl (ji (by rfl)) (wK (jv 0)) (by decide) Js.nd rfl (by first|exact Or.inl rfl|exact Or.inr rfl) (λX' hX=>jQ) (λX' hX=>by obtain⟨C,s₀,H₀,ex,rfl⟩:=hX;exact(jy yh hr rfl wB wz wx (jac (jv 1) (by exact(jac jE (by exact(jac (Dm rfl m_MOST_LENGTH) jd)))))))) jd)) (Mh (jy Ai hr rfl Fn Fm Fe (jac (jv 0) jd))))))))) ?_;intro ds h Q q;obtain⟨d,e,q⟩:=q;subst e;have key:(∃S:List Nat,d=jJ S/\(∀l∈S,1<=l/\l<=12)/\1<=S.length/\S.length<=6/\Q (.bl ((S.zip (S.drop 1)).all λp=>decide ((p.1:Int)<(p.2:Int)))) h)\/(okD d=true/\SX d=false/\Q (.bl false) h):=by
  rcases q with ⟨S,rfl,hS,q⟩|⟨⟨ok,bad⟩|⟨S,rfl,hS,h1,h6,hr⟩,q⟩
  ·exact .inl ⟨S,rfl,λl hl=>⟨hS.lo l hl,hS.hi l hl⟩,hS.some,hS.few,by rw [NJ hS.rise];exact q⟩
  ·exact .inr ⟨ok,bad,q⟩
  ·exact .inl ⟨S,rfl,hS,h1,h6,by rw [hr];exact q⟩
 clear q;rcases key with ⟨S,rfl,hS,h1,h6,q⟩|⟨ok,bad,q⟩
 ·refine jg (λσ' h'=>σ'= [some (jJ S),none]/\h=h') (λC hC=> ?_) ?_
  ·refine⟨_,rfl,_,rfl,?_⟩;refine⟨_,rfl,vq ⟨_,rfl,?_⟩⟩;have a1:decide ((1:Int)<=((S.map λ(k:Nat)=>D.int (k:Int)).length:Int))=true:=P3 (by rw [G2];omega);have a2:decide (((S.map λ(k:Nat)=>D.int (k:Int)).length:Int)<=6)=true:=P3 (by rw [G2];omega);refine⟨_,rfl,?_⟩;exact ifT a1 ⟨_,rfl,ifF (congrArg not a2) (hC _ _ ⟨rfl,rfl⟩)⟩
  rintro _ _ ⟨rfl,rfl⟩;refine Au (S.map λ(k:Nat)=>D.int (k:Int)) (λx=>x) (λx=>yt x 1 12) (by rw [G2];omega) (by rw [List.map_id']) (λR r=>⟨_,rfl,r⟩) (λx hx Q' q'=>⟨_,rfl,x,1,12,rfl,?_,q'⟩) ⟨_,rfl,?_⟩
  ·obtain⟨l,hl,rfl⟩:=R5.mp hx;rfl
  ·have w:(S.map λ(k:Nat)=>D.int (k:Int)).all (λx=>yt x 1 12)=true:=by
    have:=CY hS h1 h6;simp only [jJ,SX,R8] at this;exact this.2
   rw [w];exact Xi ⟨_,rfl,S,rfl,by omega,_,Sub.refl _,q⟩
 obtain⟨nm,hn⟩:=Zl ok;cases d with
 |tup es=>
  cases hn;obtain⟨hl,ht⟩:=GI ok
  by_cases c1:1<=es.length
  ·by_cases c2:es.length<=6
   ·refine jg (λσ' h'=>σ'= [some (.tup es),none]/\h=h') (λC hC=> ?_) ?_
    ·refine⟨_,rfl,_,rfl,_,rfl,vq ⟨_,rfl,_,rfl,?_⟩⟩;exact ifT (P3 (show (1:Int)<=(es.length:Int) by omega)) ⟨_,rfl,ifF (congrArg not (P3 (show (es.length:Int)<=6 by omega))) (hC _ _ ⟨rfl,rfl⟩)⟩
    rintro _ _ ⟨rfl,rfl⟩;refine Au es (λx=>x) (λx=>yt x 1 12) hl (by rw [List.map_id']) (λR r=>⟨_,rfl,r⟩) (λx hx Q' q'=>⟨_,rfl,x,1,12,rfl,ht x hx,q'⟩) ⟨_,rfl,?_⟩;simp only [SX,P3 c1,P3 c2,K2] at bad;rw [bad];exact vq ⟨_,Sub.refl _,q⟩
   ·refine⟨_,rfl,_,rfl,_,rfl,vq ⟨_,rfl,_,rfl,?_⟩⟩;exact ifT (P3 (show (1:Int)<=(es.length:Int) by omega)) ⟨_,rfl,ifT (congrArg not (D4 (show ¬ (es.length:Int)<=6 by omega))) ⟨_,Sub.refl _,q⟩⟩
  ·refine⟨_,rfl,_,rfl,_,rfl,vq ⟨_,rfl,_,rfl,?_⟩⟩;exact ifF (D4 (show ¬ (1:Int)<=(es.length:Int) by omega)) ⟨_,rfl,Xi ⟨_,Sub.refl _,q⟩⟩
 |_=>cases hn<;>exact⟨_,rfl,_,rfl,_,rfl,Xi ⟨h,Sub.refl h,q⟩⟩
def vG:RDn:=λds h Q=> ∃d k,ds= [d,.int k]/\okD d=true/\Q (.bl (FM d k)) h
theorem Yw (Z:Zs mg)(F:Fun K "is_table_row" "is_table_row" yy f fd)(ZZ:ju P w K mg base n "is_whole" ["thing"] JL):FnOk P w K mg base CX0 (n+1) f fd ["thing","size"] (LSp K vG):=by
 obtain⟨QL,UY,Wb,JQ,JV,JY⟩:=ZZ;refine F.okJ vY (λds h Q q=>by obtain⟨d,k,e,ok,q⟩:=q;subst e;rfl) _ (λcdv A outer s H E hr=>(je (ZK (jpt (To (Jg (yr (Mj (T:= "tuple") (by decide) rfl Z.isinstance rfl Z.tuple (by decide +kernel) (jv 0)))) (Tn (wN oq_ne (jP yk rfl Z.len C0 (jac (jv 0) jd)) (jv 1) (jF _))))) (jh (wY jbl)) jW) (by exact(jh (wY (jP (Wj rfl) rfl Z.all C6 (jac (jlc (i:=2) (js:= [2]) rfl (ji (by rfl)) (wK (jv 0)) (by decide) vY.nd rfl (by first|exact Or.inl rfl|exact Or.inr rfl) (λX' hX=>jQ) (λX' hX=>by obtain⟨C,s₀,H₀,ex,rfl⟩:=hX;exact(FB (jy Wb hr rfl JY JV JQ (jac (jv 2) jd)) (Mh (XC LZ (jv 2) jE (jF _)))))) jd))))))) ?_;intro ds h Q q;obtain⟨d,k,e,ok,q⟩:=q;subst e;obtain⟨nm,hn⟩:=Zl ok;simp only [Bi,BP,Eu,RK,Zc,dIs,BK,va,T5,V0,D8,M8,List.replicate,E1,B2,L0,J9,D.bl.injEq,BO,dC,BR,Dj,dCB,wC,WE,dOp,EX,W1,neD,Q8,hn];cases d with
 |tup es=>
  cases hn;obtain⟨hl,ht⟩:=GI ok;simp only [EZ]
  by_cases hk:(es.length:Int)=k
  ·simp only [hk];simp;refine RV (ds:=es) (h1:=h) (j:=λ_=>some es) (λx=> .bl (Tw x)) (D5 (jM hl)) rfl (λR r=>⟨.tup es,rfl,r⟩) (λd hd Q' q'=> ?_) (λp hp=> ?_)
   ·obtain⟨nn,hnn⟩:=Zl (ht d hd);refine⟨d,rfl,d,nn,rfl,hnn,NH d,rfl,?_⟩;cases d with
    |int i=>exact Xi ⟨.int i,rfl,q'⟩
    |_=>exact vq q'
   ·refine⟨p,es.map Tw,rfl,by rw [jc];simp,h,?_,?_⟩
    ·rw [zS hp];exact Sub.refl h
    ·simpa [FM,hk,O5,X0] using q
  ·simp [hk];exact⟨h,Sub.refl h,by simpa [FM,hk] using q⟩
 |_=>cases hn<;>exact⟨h,Sub.refl h,q⟩
def yI:RDn:=λds h Q=> ∃d,ds= [d]/\okD d=true/\Q (.bl (Aw d)) h
theorem ZW (Z:Zs mg)(F:Fun K "has_table_form" "has_table_form" wE f fd)(YY:ju P w K mg base n "is_table_row" ["thing","size"] vG)(JN: ∃tk,mg "MOST_ROWS" =some (.int 6 tk)):FnOk P w K mg base CX0 (n+1) f fd ["thing"] (LSp K yI):=by
 obtain⟨Rh,Ra,YZ,YD,YG,YI⟩:=YY;obtain⟨tk_MOST_ROWS,m_MOST_ROWS⟩:=JN;refine F.okJ yK (λds h Q q=>by obtain⟨d,e,ok,q⟩:=q;subst e;rfl) _ (λcdv A outer s H E hr=>(je (ZK (jpt (To (Jg (yr (Mj (T:= "tuple") (by decide) rfl Z.isinstance rfl Z.tuple (by decide +kernel) (jv 0)))) (Tn (Jg (Me Gj Gj jE (jP yk rfl Z.len C0 (jac (jv 0) jd)) (Dm rfl m_MOST_ROWS)))))) (jh (wY jbl)) jW) (by exact(jh (wY (jP (Wj rfl) rfl Z.all C6 (jac (jlc (i:=1) (js:= [1]) rfl (ji (by rfl)) (wK (jv 0)) (by decide) yK.nd rfl (by first|exact Or.inl rfl|exact Or.inr rfl) (λX' hX=>jQ) (λX' hX=>by obtain⟨C,s₀,H₀,ex,rfl⟩:=hX;exact(jy YZ hr rfl YI YG YD (jac (jv 1) (by exact(jac (jP yk rfl Z.len C0 (jac (jv 0) jd)) jd)))))) jd))))))) ?_;intro ds h Q q;obtain⟨d,e,ok,q⟩:=q;subst e;obtain⟨nm,hn⟩:=Zl ok;simp only [Bi,BP,Eu,RK,Zc,dIs,BK,va,T5,V0,D8,M8,List.replicate,E1,B2,L0,J9,D.bl.injEq,BO,dC,BR,Dj,dCB,wC,WE,WU,EX,Fx,Q8,hn];cases d with
 |tup es=>
  cases hn;obtain⟨hl,ht⟩:=GI ok;simp only [EZ]
  by_cases h1:1<=es.length
  ·by_cases h6:es.length<=6
   ·have h1':(1:Int)<=es.length:=by omega
    have h6':(es.length:Int)<=6:=by omega
    simp [h1',h6'];refine RV (ds:=es) (h1:=h) (j:=λ_=>some es) (λx=> .bl (FM x es.length)) (D5 (jM hl)) rfl (λR r=>⟨.tup es,rfl,r⟩) (λd hd Q' q'=> ?_) (λp hp=> ?_)
    ·exact⟨d,rfl,.tup es,rfl,d,es.length,rfl,ht d hd,q'⟩
    ·refine⟨p,es.map λx=>FM x es.length,rfl,by rw [jc];simp,h,?_,?_⟩
     ·rw [zS hp];exact Sub.refl h
     ·simpa [Aw,h1,h6,O5,X0] using q
   ·have h1':(1:Int)<=es.length:=by omega
    have h6': ¬ (es.length:Int)<=6:=by omega
    simp [h1',h6'];exact⟨h,Sub.refl h,by simpa [Aw,h1,h6] using q⟩
  ·have h1': ¬ (1:Int)<=es.length:=by omega
   simp [h1'];exact⟨h,Sub.refl h,by simpa [Aw,h1] using q⟩
 |_=>cases hn<;>exact⟨h,Sub.refl h,q⟩
theorem OY {x:Int}(h:0<=x):Tw (.int x)=true:=P3 h
variable {T:List (List Int)}
theorem OZ {e:Nat}(h:Sq n e T){r:List Int}(hr:r∈T):FM (Gc r) n=true:=by
 simp only [FM,Gc,G2,h.row r hr,decide_true,K2,O5,S5,Z0];intro x hx;exact OY (h.nn r hr x hx)
theorem Aa {e:Nat}(h:Sq n e T)(h1:1<=n)(h6:n<=6):Aw (zH T)=true:=by
 simp only [Aw,zH,G2,h.len,P3 h1,P3 h6,K2,O5,S5,Z0];intro r hr;exact OZ h hr
theorem SY {e:Nat}(h:Sq n e T)(h6:n<=6):okD (zH T)=true:=
 FN (by rw [G2,h.len];omega) λd hd=>by
  obtain⟨r,hr,rfl⟩:=R5.mp hd;exact FN (by rw [G2,h.row r hr];omega) λd hd=>by obtain⟨x,_,rfl⟩:=R5.mp hd;rfl
def wP:RDn:=λds h Q=> ∃T,∃n e:Nat,ds= [zH T]/\Sq n e T/\1<=n/\n<=6/\Q .non h
theorem UB (Z:Zs mg)(F:Fun K "want_table" "want_table" vy f fd)(Wy:ju P w K mg base n "has_table_form" ["thing"] yI):FnOk P w K mg base CX0 (n+1) f fd ["thing"] (LSp K wP):=by
 obtain⟨PX,Pf,Wz,Wc,Wf,Wg⟩:=Wy;refine F.okJ Uw (λds h Q q=>by obtain⟨T,k,b,e,hT,h1,h6,q⟩:=q;subst e;rfl) _ (λcdv A outer s H E hr=>(jh (ZK (Jg (yr (jy Wz hr rfl Wg Wf Wc (jac (jv 0) jd)))) (jh Vu) jW))) ?_;intro ds h Q q;obtain⟨T,k,b,e,hT,h1,h6,q⟩:=q;subst e;refine⟨_,rfl,zH T,rfl,SY hT h6,_,rfl,?_⟩;rw [Aa hT h1 h6];exact vq ⟨h,Sub.refl h,q⟩
def Zm:RDn:=λds h Q=> ∃T,∃n e p:Nat,ds= [zH T,.int (p:Int)]/\Sq n e T/\p<n/\Q .non h
theorem UC (Z:Zs mg)(F:Fun K "want_place" "want_place" vz f fd)(DQ:ju P w K mg base n "is_place" ["thing","size"] Yv):FnOk P w K mg base CX0 (n+1) f fd ["table","thing"] (LSp K Zm):=by
 obtain⟨FQ,Fl,DS,GY,Pi,Pk⟩:=DQ;refine F.okJ Ux (λds h Q q=>by obtain⟨T,n,bb,p,e,hT,hp,q⟩:=q;subst e;rfl) _ (λcdv A outer s H E hr=>(jh (ZK (Jg (yr (jy DS hr rfl Pk Pi GY (jac (jv 1) (by exact(jac (jP yk rfl Z.len C0 (jac (jv 0) jd)) jd)))))) (jh Vu) jW))) ?_;intro ds h Q q;obtain⟨T,n,bb,p,e,hT,hp,q⟩:=q;subst e;refine⟨_,rfl,_,rfl,.int (p:Int),_,rfl,rfl,_,rfl,?_⟩;have e0:yt (.int (p:Int)) 0 ((((T.map Gc).length:Nat):Int)-1)=true:=by
  rw [G2,hT.len];show (decide ((0:Int)<=(p:Int))&&decide ((p:Int)<=(n:Int)-1))=true;rw [P3 (by omega),P3 (by omega)];rfl
 rw [e0];exact vq ⟨h,Sub.refl h,q⟩
def wn:RDn:=λds h Q=> ∃k lo hi:Int,ds= [.int k,.int lo,.int hi]/\lo<=k/\k<=hi/\Q .non h
theorem YV (Z:Zs mg)(F:Fun K "want_number" "want_number" yQ f fd)(yf:ju P w K mg base n "is_within" ["thing","least","most"] ym):FnOk P w K mg base CX0 (n+1) f fd ["thing","least","most"] (LSp K wn):=by
 obtain⟨ZA,Jr,yh,wx,wz,wB⟩:=yf;refine F.okJ YT (λds h Q q=>by obtain⟨k,lo,hi,e,h1,h2,q⟩:=q;subst e;rfl) _ (λcdv A outer s H E hr=>(jh (ZK (Jg (yr (jy yh hr rfl wB wz wx (jac (jv 0) (by exact(jac (jv 1) (by exact(jac (jv 2) jd)))))))) (jh Vu) jW))) ?_;intro ds h Q q;obtain⟨k,lo,hi,e,h1,h2,q⟩:=q;subst e;refine⟨_,rfl,_,rfl,_,rfl,.int k,lo,hi,rfl,rfl,_,rfl,?_⟩;have e0:yt (.int k) lo hi=true:=by
  show (decide (lo<=k)&&decide (k<=hi))=true;rw [P3 h1,P3 h2];rfl
 rw [e0];exact vq ⟨h,Sub.refl h,q⟩
def zV:RDn:=λds h Q=> ∃S,ds= [jJ S]/\Lens S/\Q .non h
theorem Yx (Z:Zs mg)(F:Fun K "want_lengths" "want_lengths" yA f fd)(UK:ju P w K mg base n "are_lengths" ["thing"] Jm):FnOk P w K mg base CX0 (n+1) f fd ["thing"] (LSp K zV):=by
 obtain⟨NX,Ri,UN,Va,Vf,Vh⟩:=UK;refine F.okJ Ys (λds h Q q=>by obtain⟨S,e,hS,q⟩:=q;subst e;rfl) _ (λcdv A outer s H E hr=>(jh (ZK (Jg (yr (jy UN hr rfl Vh Vf Va (jac (jv 0) jd)))) (jh Vu) jW))) ?_;intro ds h Q q;obtain⟨S,e,hS,q⟩:=q;subst e;exact⟨_,rfl,_,rfl,.inl ⟨S,rfl,hS,_,rfl,vq ⟨h,Sub.refl h,q⟩⟩⟩
def VG:RDn:=λds h Q=> ∃T,∃n e:Nat,ds= [zH T]/\Sq n e T/\n<=6/\ ∀R rs h',GB n h h' R rs (wk T n)->Q (.lst R) h'
theorem DM (Z:Zs mg)(F:Fun K "reaches" "reaches" Yt f fd):FnOk P w K mg base CX0 (n+1) f fd ["table"] (LSp K VG):=by
 refine F.okJ wj (λds h Q q=>by obtain⟨T,n,b,e,hT,h6,q⟩:=q;subst e;rfl) _ (λcdv A outer s H E hr=>(je (yN (i:=1) wj.nd rfl (by first|exact Or.inr rfl|exact Or.inl rfl) (jP yk rfl Z.len C0 (jac (jv 0) jd))) (by exact(je (Pt (i:=4) (k:=2) (js:= [4]) rfl wj.nd rfl (Or.inl rfl) (ji (by rfl)) (yG rfl Z.range (jac (jv 1) jd)) (by decide) rfl (by first|exact Or.inl rfl|exact Or.inr rfl) (λX' hX=>jQ) (λX' hX=>by obtain⟨C,s₀,H₀,ex,rfl⟩:=hX;exact(jlc (i:=5) (js:= [5]) rfl (ji (by rfl)) (yG rfl Z.range (jac (jv 1) jd)) (by decide) wj.nd rfl (by first|exact Or.inl rfl|exact Or.inr rfl) (λX' hX=>jQ) (λX' hX=>by obtain⟨C,s₀,H₀,ex,rfl⟩:=hX;exact(jor (XC (Vs hr.units) (jv 4) (jv 5) (jF _)) (Mh (XC oq_ne (jix (jix (jv 0) (jv 4) (λ_ _=>rfl)) (jv 5) (λ_ _=>rfl)) jE (jF _)))))))) (by exact(je (Gb T6 rfl (yG rfl Z.range (jac (jv 1) jd)) (zK (i:=3) wj.nd rfl (Or.inl rfl)) (jh (Gb T6 rfl (yG rfl Z.range (jac (jv 1) jd)) (zK (i:=4) wj.nd rfl (by first|exact Or.inr rfl|exact Or.inl rfl)) (jh (Gb T6 rfl (yG rfl Z.range (jac (jv 1) jd)) (zK (i:=5) wj.nd rfl (by first|exact Or.inr rfl|exact Or.inl rfl)) (jh (ZK (jpt (Mg (yr (jix (jix (jv 2) (jv 4) (λ_ _=>rfl)) (jv 3) (λ_ _=>rfl))) (Mf (yr (jix (jix (jv 2) (jv 3) (λ_ _=>rfl)) (jv 5) (λ_ _=>rfl)))))) (jh (As jbl (XD (jix (jv 2) (jv 4) (λ_ _=>rfl)) (jv 5)))) jW))))))) (by exact(jh (wY (jv 2)))))))))) ?_;intro ds h Q q;obtain⟨T,n,b,e,hT,h6,q⟩:=q;subst e;refine jg (λσ' h'=>σ'= [some (zH T),some (.int (n:Int)),none,none,none,none]/\h=h') (λC hC=>⟨_,rfl,hC _ _ ⟨by rw [G2,hT.len];rfl,rfl⟩⟩) ?_;rintro _ _ ⟨rfl,rfl⟩;refine jg (λσ' h'=> ∃R rs u v w,σ'= [some (zH T),some (.int (n:Int)),some (.lst R),u,v,w]/\GB n h h' R rs (wk T 0)) (λC hC=> ?_) ?_
 ·refine XA (h1:=h) n (λi ys h'=> ∃rs,ys=rs.map D.lst/\rs.length=i/\Sub h h'/\rs.Nodup/\ ∀m a,rs[m]? =some a->h a=none/\h' a=some ((List.range n).map λj=>D.bl (wk T 0 m j))) (by omega) (λR r=>⟨_,rfl,r⟩) ⟨[],rfl,rfl,Sub.refl h,List.nodup_nil,by simp⟩ (λi ys h' ⟨rs,e,el,_⟩=>by rw [e,G2];exact el) ?_ ?_
  ·rintro i ys h3 hi ⟨rs,rfl,lrs,sb3,nd3,rows3⟩;refine lcA (List.range n) (λj=> .int (j:Int)) (λj=> .bl (wk T 0 i j)) (by rw [T0];omega) rfl (λR r=>⟨_,rfl,(n:Int),rfl,by omega,by omega,r⟩) (λj hj Q' q'=>⟨_,rfl,_,rfl,_,rfl,?_⟩) (λp5 e5=> ?_)
   ·have hj:=R0.mp hj;have q':Q' (.bl (decide (i=j)|| !decide (ent T i j=0))) h3:=q';have ed:decide ((i:Int)=(j:Int))=decide (i=j):=by rw [B1,M9,M9];omega
    rw [ed]
    by_cases c:i=j
    ·rw [P3 c] at q' ⊢;exact Xi q'
    ·rw [D4 c] at q' ⊢;exact vq ⟨_,rfl,_,rfl,_,Gp hT hi,_,rfl,_,Mp (hT.row _ (Sq.getRow hT hi)) hj,q'⟩
   ·refine⟨_,Sub.refl _,by omega,rs++ [p5],by rw [R9];rfl,by rw [G7,lrs];rfl,Sub.newAt sb3 e5,?_,λm a ha=> ?_⟩
    ·rw [X2];refine⟨nd3,by simp,λa ha b hb z=> ?_⟩;rw [G3.mp hb] at z;subst z;obtain⟨m,hm⟩:=J0 ha;rw [(rows3 m _ hm).2] at e5;cases e5
    ·by_cases hm:m<rs.length
     ·rw [D9 hm] at ha;exact⟨(rows3 m a ha).1,jk (rows3 m a ha).2 e5⟩
     ·rw [P7 (by omega)] at ha;have em:m-rs.length=0:=by
       have:=(G6.mp ha).1;simp at this;omega
      rw [em] at ha;have ea:p5=a:=by simpa using ha
      subst ea;have:m=i:=by omega
      subst this;exact⟨WI sb3 e5,jc⟩
  ·rintro ys h3 ⟨rs,rfl,lrs,sb3,nd3,rows3⟩ R eR;refine hC _ _ ⟨R,rs,_,_,_,rfl,jc,lrs,λhR=> ?_,nd3,Sub.newAt sb3 eR,λi a ha=>⟨(rows3 i a ha).1,jk (rows3 i a ha).2 eR⟩⟩;obtain⟨m,hm⟩:=J0 hR;rw [(rows3 m _ hm).2] at eR;cases eR
 rintro _ h3 ⟨R,rs,u,v,w,rfl,G⟩;refine jg (λσ' h'=> ∃u v w,σ'= [some (zH T),some (.int (n:Int)),some (.lst R),u,v,w]/\GB n h h' R rs (wk T n)) (λC hC=> ?_) ?_
 ·refine yq n (λk σ' h'=> ∃u v w,σ'= [some (zH T),some (.int (n:Int)),some (.lst R),u,v,w]/\GB n h h' R rs (wk T k)) (by omega) (λR r=>⟨_,rfl,r⟩) ⟨u,v,w,rfl,G⟩ (λσ' h' z=>hC _ _ z) ?_;clear G;rintro k _ h4 hk ⟨u,v,w,rfl,G⟩;refine yq n (λi σ' h'=> ∃v w,σ'= [some (zH T),some (.int (n:Int)),some (.lst R),some (.int (k:Int)),v,w]/\GB n h h' R rs (fW T k i 0)) (by omega) (λR r=>⟨_,rfl,r⟩) ⟨v,w,rfl,G.as λx y _ _=>OQ T k x y⟩ (λσ' h' ⟨v,w,e,G⟩=>⟨_,Sub.refl _,by omega,_,v,w,e,G.as λx y hx _=>ST T k x y hx⟩) ?_;clear G;rintro i _ h5 hi ⟨v,w,rfl,G⟩;refine yq n (λj σ' h'=> ∃w,σ'= [some (zH T),some (.int (n:Int)),some (.lst R),some (.int (k:Int)),some (.int (i:Int)),w]/\GB n h h' R rs (fW T k i j)) (by omega) (λR r=>⟨_,rfl,r⟩) ⟨w,rfl,G⟩ (λσ' h' ⟨w,e,G⟩=>⟨_,Sub.refl _,by omega,_,w,e,G.as λx y _ hy=>OP T k i x y hy⟩) ?_;clear G;rintro j _ h6' hj ⟨w,rfl,G⟩;obtain⟨a,ha,a1,a2⟩:=G.pick hi;obtain⟨c,hc,c1,c2⟩:=G.pick hk;refine⟨_,rfl,_,rfl,_,_,G.at_,a1,_,rfl,_,_,a2,PL hk,_,rfl,?_⟩;rw [SQ];refine Ga (λz1=> ?_) λz1=> ?_
  ·refine⟨_,rfl,_,rfl,_,_,G.at_,c1,_,rfl,_,_,c2,PL hj,_,rfl,?_⟩;rw [SR];refine Ga (λz2=> ?_) λz2=> ?_
   ·exact⟨_,rfl,_,rfl,_,_,G.at_,a1,_,rfl,a,(j:Int),_,j,rfl,rfl,a2,Gr (by rw [G2,T0];exact hj),_,Sub.refl _,by omega,_,rfl,(G.put ha).as λx y _ _=>SS z1 z2 x y⟩
   ·exact⟨_,Sub.refl _,by omega,_,rfl,G.as λx y _ _=>Nv (λz=>z2 z.2) x y⟩
  ·exact⟨_,Sub.refl _,by omega,_,rfl,G.as λx y _ _=>Nv (λz=>z1 z.1) x y⟩
 rintro _ h4 ⟨u,v,w,rfl,G⟩;exact⟨_,rfl,_,Sub.refl _,q R rs h4 G⟩
def Wn:RDn:=λds h Q=> ∃R rs h0 T,∃n:Nat,ds= [.lst R]/\GB n h0 h R rs (wk T n)/\n<=6/\ ∀A h',h A=none->h' A=some ((CU T n).map jJ)->Sub h h'->Q (.lst A) h'
theorem Qh (Z:Zs mg)(F:Fun K "pieces_by" "pieces_by" JD f fd):FnOk P w K mg base CX0 (n+1) f fd ["come"] (LSp K Wn):=by
 refine F.okJ zQ (λds h Q q=>by obtain⟨R,rs,h0,T,n,e,G,h6,q⟩:=q;subst e;rfl) _ (λcdv A outer s H E hr=>(je (yN (i:=1) zQ.nd rfl (Or.inl rfl) (jP yk rfl Z.len C0 (jac (jv 0) jd))) (by exact(je (yN (i:=2) zQ.nd rfl (Or.inl rfl) (VZ jd)) (by exact(je (Gb T6 rfl (yG rfl Z.range (jac (jv 1) jd)) (zK (i:=3) zQ.nd rfl (by first|exact Or.inr rfl|exact Or.inl rfl)) (je (yN (i:=4) zQ.nd rfl (Or.inl rfl) (wD Xw rfl Z.tuple (by decide +kernel) (jac (jlc (i:=5) (js:= [5]) rfl (ji (by rfl)) (yG rfl Z.range (jac (jv 1) jd)) (by decide) zQ.nd rfl (by first|exact Or.inl rfl|exact Or.inr rfl) (λX' hX=>by obtain⟨C,s₀,H₀,ex,rfl⟩:=hX;exact vt (jpt (Mg (yr (jix (jix (jv 0) (jv 3) (λ_ _=>rfl)) (jv 5) (λ_ _=>rfl))) (Mf (yr (jix (jix (jv 0) (jv 5) (λ_ _=>rfl)) (jv 3) (λ_ _=>rfl))))))) (λX' hX=>by obtain⟨C,s₀,H₀,ex,rfl⟩:=hX;exact(jv 5))) jd))) (by exact(jh (ZK (wN (Vs hr.units) (jix (jv 4) jE (λ_ _=>rfl)) (jv 3) (jF _)) (jh (yM (At (jv 2) (jv 4)))) jW))))) (by exact(jh (wY (jv 2)))))))))) ?_;intro ds h Q q;obtain⟨R,rs,h0,T,n,e,G,h6,q⟩:=q;subst e;refine jg (λσ' h'=>σ'= [some (.lst R),some (.int (n:Int)),none,none,none,none]/\h=h') (λC hC=> ?_) ?_
 ·exact⟨_,rfl,_,G.at_,hC _ _ ⟨by rw [G2,G.len];rfl,rfl⟩⟩
 rintro _ _ ⟨rfl,rfl⟩;refine jg (λσ' h'=> ∃A,σ'= [some (.lst R),some (.int (n:Int)),some (.lst A),none,none,none]/\h A=none/\Sub h h'/\h' A=some []) (λC hC=>⟨(by show 0<=sizeLine;decide),λA eA=>hC _ _ ⟨A,rfl,eA,Sub.newAt (Sub.refl h) eA,jc⟩⟩) ?_;rintro _ h1 ⟨A,rfl,nA,sb,kA⟩;refine jg (λσ' h'=> ∃u v w,σ'= [some (.lst R),some (.int (n:Int)),some (.lst A),u,v,w]/\Sub h h'/\h' A=some ((CU T n).map jJ)) (λC hC=> ?_) ?_
 ·refine yq n (λk σ' h'=> ∃u v w,σ'= [some (.lst R),some (.int (n:Int)),some (.lst A),u,v,w]/\Sub h h'/\h' A=some (((((List.range k).filter (λp=>decide ((pcS T n p).headD 0=p))).map (pcS T n))).map jJ)) (by omega) (λR r=>⟨_,rfl,r⟩) ⟨_,_,_,rfl,sb,kA⟩ (λσ' h' z=>hC _ _ z) ?_;clear sb kA;rintro k _ h2 hk ⟨u,v,w,rfl,sb,kA⟩;have GG:=G.up sb;obtain⟨a,ha,a1,a2⟩:=GG.pick hk;refine jg (λσ' h'=> ∃w,σ'= [some (.lst R),some (.int (n:Int)),some (.lst A),some (.int (k:Int)),some (jJ (pcS T n k)),w]/\h2=h') (λC hC=> ?_) ?_
  ·refine Co n (λj ys h'=>h'=h2/\ys=((List.range j).filter λi=>wk T n k i&&wk T n i k).map λ(i:Nat)=>D.int (i:Int)) (by omega) (λR r=>⟨_,rfl,r⟩) ⟨rfl,rfl⟩ (λj ys h' w=> ?_) (λj ys h' hj w=> ?_) (λys h' w=> ?_)
   ·rw [w.2,G2];exact D6 (B6 _ _) (by rw [T0];exact G9 _)
   ·obtain⟨rfl,rfl⟩:=w;obtain⟨c,hc,c1,c2⟩:=GG.pick hj;refine⟨_,rfl,_,rfl,_,_,GG.at_,a1,_,rfl,_,_,a2,PL hj,_,rfl,Ga (λz1=> ?_) λz1=> ?_⟩
    ·refine⟨_,rfl,_,rfl,_,_,GG.at_,c1,_,rfl,_,_,c2,PL hk,_,rfl,Ga (λz2=> ?_) λz2=> ?_⟩
     ·refine⟨_,rfl,_,Sub.refl _,by omega,rfl,?_⟩;rw [O6,E7,R9,A0 (by rw [z1,z2];rfl)];rfl
     ·refine⟨_,Sub.refl _,by omega,rfl,?_⟩;rw [O6,E7,R9,A1 (by rw [R8];exact λz=>z2 z.2)];simp
    ·refine⟨_,Sub.refl _,by omega,rfl,?_⟩;rw [O6,E7,R9,A1 (by rw [R8];exact λz=>z1 z.1)];simp
   ·obtain⟨rfl,rfl⟩:=w;exact hC _ _ ⟨_,rfl,rfl⟩
  rintro _ _ ⟨w',rfl,rfl⟩;obtain⟨r,er⟩:=OX (T:=T) hk;have a0:((pcS T n k).map λ(i:Nat)=>D.int (i:Int))[0]? =some (.int (((pcS T n k).headD 0:Nat):Int)):=by
   cases z:pcS T n k with
   |nil=>rw [z] at er;cases er
   |cons x r=>rfl
  refine⟨_,rfl,_,zm (j:=0) a0,_,rfl,?_⟩;show ∃k_1,D.bl (decide ((((pcS T n k).headD 0:Nat):Int)=(k:Int)))= .bl k_1/\_;refine⟨_,rfl,Ga (λz=> ?_) λz=> ?_⟩
  ·have z:(pcS T n k).headD 0=k:=by have:=B3 z;omega
   refine⟨_,rfl,A,rfl,_,rfl,_,kA,?_,_,Sub.refl _,by omega,_,_,_,rfl,sb.over nA,?_⟩
   ·rw [G2,G2];exact jM (D6 (B6 _ _) (by rw [T0];omega))
   ·rw [jc,O6,E7,A0 (by rw [M9];exact z),G0Y,R9,R9];rfl
  ·have z: ¬ (pcS T n k).headD 0=k:=λe=>z (P3 (by omega))
   refine⟨_,Sub.refl _,by omega,_,_,_,rfl,sb,?_⟩;rw [kA,O6,E7,A1 (by rw [M9];exact z),G0Y,B9]
 rintro _ h4 ⟨u,v,w,rfl,sb4,k4⟩;exact⟨_,rfl,_,Sub.refl _,q A h4 nA k4 sb4⟩
def Qi:RDn:=λds h Q=> ∃T,∃n e:Nat,ds= [zH T]/\Sq n e T/\1<=n/\n<=6/\ ∀A h',h A=none->h' A=some ((CU T n).map jJ)->Sub h h'->Q (.lst A) h'
theorem NK (Z:Zs mg)(F:Fun K "pieces" "pieces" Uy f fd)(wu:ju P w K mg base n "want_table" ["thing"] wP)(GR:ju P w K mg base n "pieces_by" ["come"] Wn)(NS:ju P w K mg base n "reaches" ["table"] VG):FnOk P w K mg base CX0 (n+1) f fd ["table"] (LSp K Qi):=by
 obtain⟨Jq,vV,wv,zY,wa,wb⟩:=wu;obtain⟨Fj,Bw,GW,QB,QU,QZ⟩:=GR;obtain⟨Al,FR,NT,DT,Rb,Rc⟩:=NS;refine F.okJ NE (λds h Q q=>by obtain⟨T,n,b,e,hT,h1,h6,q⟩:=q;subst e;rfl) _ (λcdv A outer s H E hr=>(je (yM (jy wv hr rfl wb wa zY (jac (jv 0) jd))) (by exact(jh (wY (jy GW hr rfl QZ QU QB (jac (jy NT hr rfl Rc Rb DT (jac (jv 0) jd)) jd))))))) ?_;intro ds h Q q;obtain⟨T,n,b,e,hT,h1,h6,q⟩:=q;subst e;refine jg (λσ' h'=>σ'= [some (zH T)]/\h=h') (λC hC=>⟨_,rfl,T,n,b,rfl,hT,h1,h6,hC _ _ ⟨rfl,rfl⟩⟩) ?_;rintro _ _ ⟨rfl,rfl⟩;exact⟨_,rfl,T,n,b,rfl,hT,h6,λR rs h2 G=>⟨R,rs,h,T,n,rfl,G,h6,λA h3 nA kA sb=>⟨_,Sub.refl _,q A h3 (WI G.sb nA) kA ((G.sb).trans sb)⟩⟩⟩
def Yy:RDn:=λds h Q=> ∃T,∃n e:Nat,ds= [zH T]/\Sq n e T/\1<=n/\n<=6/\Q (.bl (decide ((CU T n).length=1))) h
theorem NL (Z:Zs mg)(F:Fun K "joined" "joined" Uz f fd)(Fc:ju P w K mg base n "pieces" ["table"] Qi):FnOk P w K mg base CX0 (n+1) f fd ["table"] (LSp K Yy):=by
 obtain⟨Ax,Am,Fd,NU,Bf,Bg⟩:=Fc;refine F.okJ NF (λds h Q q=>by obtain⟨T,n,b,e,hT,h1,h6,q⟩:=q;subst e;rfl) _ (λcdv A outer s H E hr=>(jh (wY (XC oq_eq (jP yk rfl Z.len C0 (jac (jy Fd hr rfl Bg Bf NU (jac (jv 0) jd)) jd)) jE (jF _))))) ?_;intro ds h Q q;obtain⟨T,n,b,e,hT,h1,h6,q⟩:=q;subst e;refine⟨_,rfl,T,n,b,rfl,hT,h1,h6,λA h2 nA kA sb=>⟨_,kA,?_⟩⟩;show ∃h0,Sub h0 h2/\Q (.bl (decide (((((CU T n).map jJ).length:Nat):Int)=1))) h0;refine⟨h,sb,?_⟩;rw [G2,show decide ((((CU T n).length:Nat):Int)=1)=decide ((CU T n).length=1) from by rw [B1,M9,M9];omega];exact q
theorem Ab {r:List Int}(h:r.length=n):YQ (r.map D.int)=(List.range n).map λ(j:Nat)=>D.tup [.int (j:Int),.int (r.getD j 0)]:=by
 apply A6;intro i
 by_cases hi:i<n
 ·have hi':i<(YQ (r.map D.int)).length:=by rw [wZ,G2,h];exact hi
  obtain⟨x,hx,ed⟩:=WG (G0 hi');rw [G0 hi',ed];rw [P1,C5 hi];rw [P1,G0 (by omega)] at hx;injection hx with hx
  rw [<-hx];show some (D.tup [D.int (i:Int),D.int r[i]])=some (D.tup [D.int (i:Int),D.int (r.getD i 0)]);rw [P5,G0 (show i<r.length by omega)];rfl
 ·rw [N2 (by rw [wZ,G2];omega),N2 (by simp;omega)]
def UD:RDn:=λds h Q=> ∃T,∃n e p:Nat,ds= [zH T,.int (p:Int)]/\Sq n e T/\n<=6/\p<n/\ ∀F,h F=none->Q (.lst F) (zN h F ((Dv T n p).map λ(k:Nat)=>D.int (k:Int)))
theorem CZ (Z:Zs mg)(F:Fun K "heads" "heads" GH f fd):FnOk P w K mg base CX0 (n+1) f fd ["table","place"] (LSp K UD):=by
 refine F.okJ PY (λds h Q q=>by obtain⟨T,n,bb,p,e,hT,n6,hp,q⟩:=q;subst e;rfl) _ (λcdv A outer s H E hr=>(jh (wY (Tp (i:=2) (j:=3) (js:= [2,3]) rfl (ji (by rfl)) (Mw rfl Z.enumerate (jac (jix (jv 0) (jv 1) (λ_ _=>rfl)) jd)) (by decide) (by decide) (by decide) PY.nd rfl rfl (by first|exact Or.inl rfl|exact Or.inr rfl) (by first|exact Or.inl rfl|exact Or.inr rfl) (λX' hX=>by obtain⟨C,s₀,H₀,ex,rfl⟩:=hX;exact vt (wN oq_ne (jv 3) jE (jF _))) (λX' hX=>by obtain⟨C,s₀,H₀,ex,rfl⟩:=hX;exact(jv 2)))))) ?_;intro ds h Q q;obtain⟨T,n,bb,p,e,hT,n6,hp,q⟩:=q;subst e;refine HU (j:=λ_=>some (YQ ((T.getD p []).map D.int))) (List.range n) (λj=> .int (j:Int)) (λj=> .int ((T.getD p []).getD j 0)) (λj=> .int (j:Int)) (λj=>decide (ent T p j>0)) (by rw [T0];omega) (congrArg some (Ab (hT.row _ (Sq.getRow hT hp)))) (λR r=>⟨_,rfl,_,rfl,_,Gp hT hp,_,rfl,r⟩) (λx hx Q' q'=>⟨_,rfl,_,rfl,?_⟩) (λx hx _ Q' q'=>⟨_,rfl,q'⟩) (λF eF=>⟨_,Sub.refl _,q F eF⟩);have hnn:=(hT.ent_nn hp (R0.mp hx)).1;have e4:(!decide (((T.getD p []).getD x 0)=0))=decide (ent T p x>0):=by
  show (!decide (ent T p x=0))=_
  by_cases z:ent T p x=0
  ·rw [z];rfl
  ·rw [D4 z,P3 (by omega)];rfl
 rw [<-e4] at q';exact q'
def we:RDn:=λds h Q=> ∃T,∃n e one o k:Nat,ds= [zH T,.int (one:Int),.int (o:Int),.int (k:Int)]/\Sq n e T/\1<=n/\n<=6/\one<n/\o<n/\k<=40/\Q .non h
theorem vj (Z:Zs mg)(F:Fun K "want_ends_and_steps" "want_ends_and_steps" zb f fd)(wu:ju P w K mg base n "want_table" ["thing"] wP)(Qs:ju P w K mg base n "want_place" ["table","thing"] Zm)(zW:ju P w K mg base n "want_number" ["thing","least","most"] wn)(vN: ∃tk,mg "MOST_STEPS" =some (.int 40 tk)):FnOk P w K mg base CX0 (n+1) f fd ["table","one","other","k"] (LSp K we):=by
 obtain⟨Jq,vV,wv,zY,wa,wb⟩:=wu;obtain⟨Bq,Be,Ws,Zy,ZE,ZH⟩:=Qs;obtain⟨vT,ve,zX,zC,zF,zG⟩:=zW;obtain⟨tk_MOST_STEPS,m_MOST_STEPS⟩:=vN;refine F.okJ vh (λds h Q q=>by obtain⟨T,n,bb,one,o,k,e,hT,n1,n6,h1,ho,hk,q⟩:=q;subst e;rfl) _ (λcdv A outer s H E hr=>(je (yM (jy wv hr rfl wb wa zY (jac (jv 0) jd))) (by exact(je (yM (jy Ws hr rfl ZH ZE Zy (jac (jv 0) (by exact(jac (jv 1) jd))))) (by exact(je (yM (jy Ws hr rfl ZH ZE Zy (jac (jv 0) (by exact(jac (jv 2) jd))))) (by exact(jh (yM (jy zX hr rfl zG zF zC (jac (jv 3) (by exact(jac jE (by exact(jac (Dm rfl m_MOST_STEPS) jd))))))))))))))) ?_;intro ds h Q q;obtain⟨T,n,bb,one,o,k,e,hT,n1,n6,h1,ho,hk,q⟩:=q;subst e;refine jg (λσ' h'=>σ'= [some (zH T),some (.int (one:Int)),some (.int (o:Int)),some (.int (k:Int))]/\h=h') (λC hC=>⟨_,rfl,T,n,bb,rfl,hT,n1,n6,hC _ _ ⟨rfl,rfl⟩⟩) ?_;rintro _ _ ⟨rfl,rfl⟩;refine jg (λσ' h'=>σ'= [some (zH T),some (.int (one:Int)),some (.int (o:Int)),some (.int (k:Int))]/\h=h') (λC hC=>⟨_,rfl,_,rfl,T,n,bb,one,rfl,hT,h1,hC _ _ ⟨rfl,rfl⟩⟩) ?_;rintro _ _ ⟨rfl,rfl⟩;refine jg (λσ' h'=>σ'= [some (zH T),some (.int (one:Int)),some (.int (o:Int)),some (.int (k:Int))]/\h=h') (λC hC=>⟨_,rfl,_,rfl,T,n,bb,o,rfl,hT,ho,hC _ _ ⟨rfl,rfl⟩⟩) ?_;rintro _ _ ⟨rfl,rfl⟩;exact⟨_,rfl,(k:Int),0,40,rfl,by omega,by omega,h,Sub.refl h,q⟩
def Wo:RDn:=λds h Q=> ∃T,∃n e o k:Nat,ds= [zH T,.int (o:Int),.int (k:Int)]/\Sq n e T/\1<=n/\n<=6/\o<n/\k<=40/\ ∀A h',Sub h h'->Cnts h' A T n o k->Q (.lst A) h'
theorem Qj (Z:Zs mg)(F:Fun K "counts_to" "counts_to" JF f fd)(GP:ju P w K mg base n "heads" ["table","place"] UD):FnOk P w K mg base CX0 (n+1) f fd ["table","other","k"] (LSp K Wo):=by
 obtain⟨NY,DZ,GV,UT,Xc,Xg⟩:=GP;refine F.okJ zg (λds h Q q=>by obtain⟨T,n,bb,o,k,e,hT,n1,n6,ho,hk,q⟩:=q;subst e;rfl) _ (λcdv A outer s H E hr=>(je (yN (i:=3) zg.nd rfl (Or.inl rfl) (jP yk rfl Z.len C0 (jac (jv 0) jd))) (by exact(je (yN (i:=4) zg.nd rfl (by first|exact Or.inr rfl|exact Or.inl rfl) (VZ (jac (jlc (i:=6) (js:= [6]) rfl (ji (by rfl)) (yG rfl Z.range (jac (jv 3) jd)) (by decide) zg.nd rfl (by first|exact Or.inl rfl|exact Or.inr rfl) (λX' hX=>jQ) (λX' hX=>by obtain⟨C,s₀,H₀,ex,rfl⟩:=hX;exact(jif (wN (Vs hr.units) (jv 6) (jv 1) (jF _)) jE jE))) jd))) (by exact(je (Gb T6 rfl (yG rfl Z.range (jac (jv 2) jd)) (zK (i:=5) zg.nd rfl (by first|exact Or.inr rfl|exact Or.inl rfl)) (jh (yM (At (jv 4) (jlc (i:=6) (js:= [6]) rfl (ji (by rfl)) (yG rfl Z.range (jac (jv 3) jd)) (by decide) zg.nd rfl (by first|exact Or.inl rfl|exact Or.inr rfl) (λX' hX=>jQ) (λX' hX=>by obtain⟨C,s₀,H₀,ex,rfl⟩:=hX;exact(jP (Mc rfl) rfl Z.sum (by decide +kernel) (jac (jlc (i:=7) (js:= [7]) rfl (ji (by rfl)) (wK (jy GV hr rfl Xg Xc UT (jac (jv 0) (by exact(jac (jv 6) jd))))) (by decide) zg.nd rfl (by first|exact Or.inl rfl|exact Or.inr rfl) (λX' hX=>jQ) (λX' hX=>by obtain⟨C,s₀,H₀,ex,rfl⟩:=hX;exact(jix (jix (jv 4) (jv 5) (λ_ _=>rfl)) (jv 7) (λ_ _=>rfl)))) jd)))))))) (by exact(jh (wY (jv 4)))))))))) ?_;intro ds h Q q;obtain⟨T,n,bb,o,k,e,hT,n1,n6,ho,hk,q⟩:=q;subst e;refine jg (λσ' h'=>σ'= [some (zH T),some (.int (o:Int)),some (.int (k:Int)),some (.int (n:Int)),none,none,none,none]/\h=h') (λC hC=>⟨_,rfl,hC _ _ ⟨by rw [G2,hT.len];rfl,rfl⟩⟩) ?_;rintro _ _ ⟨rfl,rfl⟩;refine jg (λσ' h'=> ∃A,∃ (rs:List Addr),σ'= [some (zH T),some (.int (o:Int)),some (.int (k:Int)),some (.int (n:Int)),some (.lst A),none,none,none]/\h A=none/\h' A=some (rs.map D.lst)/\rs.length=0+1/\(∀t a,rs[t]? =some a->h' a=some ((MK T n o t).map D.int))/\A ∉ rs/\Sub h h') (λC hC=> ?_) ?_
 ·simp only [Bj,Ap,wC,WE];refine lcA (List.range n) (λj=> .int (j:Int)) (λj=> .int (cnt T n o 0 j)) (by rw [T0];omega) rfl (λR r=>⟨_,rfl,(n:Int),rfl,by omega,by omega,r⟩) (λj hj Q' q'=>⟨_,rfl,_,rfl,_,rfl,?_⟩) (λa ea=>⟨(by show 1<=sizeLine;decide),λA eA=>hC _ _ ⟨A,[a],rfl,?_,jc,rfl,?_,?_,Sub.newAt (Sub.newAt (Sub.refl h) ea) eA⟩⟩)
  ·by_cases z:j=o
   ·subst z;have:cnt T n j 0 j=1:=if_pos rfl;rw [this] at q';rw [P3 rfl];exact Xi q'
   ·have:cnt T n o 0 j=0:=if_neg z;rw [this] at q';have e0:decide ((j:Int)=(o:Int))=false:=D4 (by omega);rw [e0];exact vq q'
  ·cases z:h A with
   |none=>rfl
   |some ds=>rw [jk z ea] at eA;cases eA
  ·intro t b e;cases t with
   |zero=>
    cases (show some a=some b from e);refine jk (L:=(MK T n o 0).map D.int) ?_ eA;rw [jc];unfold MK;rw [List.map_map];rfl
   |succ t=>cases e
  ·intro z;rw [G3.mp z,jc] at eA;cases eA
 rintro _ h1 ⟨A,rs,rfl,fA,kA,lr,rows,nA,sb⟩;refine jg (λσ' h'=> ∃a b c,∃ (rs:List Addr),σ'= [some (zH T),some (.int (o:Int)),some (.int (k:Int)),some (.int (n:Int)),some (.lst A),a,b,c]/\h' A=some (rs.map D.lst)/\rs.length=k+1/\(∀t a,rs[t]? =some a->h' a=some ((MK T n o t).map D.int))/\A ∉ rs/\Sub h h') (λC hC=> ?_) (λσ' h2 ⟨a,b,c,rs,e,kA,lr,rows,nA,sb⟩=>by subst e;exact⟨_,rfl,h2,Sub.refl _,q A h2 sb ⟨rs,kA,lr,rows⟩⟩);refine yq k (λi σ' h'=> ∃a b c,∃ (rs:List Addr),σ'= [some (zH T),some (.int (o:Int)),some (.int (k:Int)),some (.int (n:Int)),some (.lst A),a,b,c]/\h' A=some (rs.map D.lst)/\rs.length=i+1/\(∀t a,rs[t]? =some a->h' a=some ((MK T n o t).map D.int))/\A ∉ rs/\Sub h h') (by omega) (λR r=>⟨_,rfl,r⟩) ⟨none,none,none,rs,rfl,kA,lr,rows,nA,sb⟩ (λσ' h' z=>hC _ _ z) ?_;clear kA lr rows nA sb;rintro i _ h2 hi ⟨a,b,c,rs,rfl,kA,lr,rows,nA,sb⟩;have hil:i<rs.length:=by omega
 have hat:atI (rs.map D.lst) (i:Int)=some (.lst rs[i]):=zm (by rw [P1,G0 hil];rfl);have hrow:=rows i _ (G0 hil);refine⟨_,rfl,A,rfl,XA (h1:=h2) n (λp ys h'=>ys=(List.range p).map (λp=>D.int (cnt T n o (i+1) p))/\h'=h2) (by omega) (λR r=>⟨_,rfl,r⟩) ⟨rfl,rfl⟩ (λp ys h' ⟨e,_⟩=>by rw [e,G2,T0]) ?_ ?_⟩
 ·rintro p ys h3 hp ⟨rfl,rfl⟩;refine MN ⟨_,rfl,_,rfl,T,n,bb,p,rfl,hT,n6,hp,λF eF=> ?_⟩;refine uc (j:=λh=>h F) (Dv T n p) (λj=> .int (j:Int)) (λj=>cnt T n o i j) (by have:=OA (T:=T) (n:=n) p;omega) jc (λR r=>r) (λj hj Q' q'=>⟨_,rfl,_,rfl,_,_,jk kA eF,hat,_,rfl,_,_,jk hrow eF,MM (FG hj),q'⟩) ⟨h3,Sub.newAt (Sub.refl _) eF,by omega,?_,rfl⟩;rw [O6,R9];rfl
 ·rintro ys h3 ⟨rfl,rfl⟩ r er;have nr:r≠A:=jC kA er;refine⟨_,jk kA er,?_,_,Sub.refl _,by omega,_,_,_,rs++ [r],rfl,?_,by rw [G7,lr];rfl,λt b e=> ?_,?_,?_⟩
  ·rw [G2];exact jM (by omega)
  ·rw [jc,R9];rfl
  ·by_cases z:t<rs.length
   ·rw [D9 z] at e;have hb:=rows t b e;have nb:b≠A:=λw=>nA (w ▸ G5 e)
    exact jj nb (jk hb er)
   ·rw [P7 (by omega)] at e;have zt:t-rs.length=0:=by
     have:=(G6.mp e).1;simp at this;omega
    rw [zt] at e;cases (show some r=some b from e);have:t=i+1:=by omega
    subst this;refine jj (M:=(MK T n o (i+1)).map D.int) nr ?_;rw [jc];unfold MK;rw [List.map_map];rfl
  ·intro z;rcases D0.mp z with y|y
   ·exact nA y
   ·exact nr (G3.mp y).symm
  ·exact(Sub.newAt sb er).over fA
def Zn:RDn:=λds h Q=> ∃T,∃n e one o k:Nat,ds= [zH T,.int (one:Int),.int (o:Int),.int (k:Int)]/\Sq n e T/\1<=n/\n<=6/\one<n/\o<n/\k<=40/\Q (.int (cnt T n o k one)) h
theorem UE (Z:Zs mg)(F:Fun K "walks_many" "walks_many" vA f fd)(vK:ju P w K mg base n "want_ends_and_steps" ["table","one","other","k"] we)(GO:ju P w K mg base n "counts_to" ["table","other","k"] Wo):FnOk P w K mg base CX0 (n+1) f fd ["table","one","other","k"] (LSp K Zn):=by
 obtain⟨UW,VI,vM,vk,vm,vn⟩:=vK;obtain⟨Fi,Bv,GU,Qz,QR,QY⟩:=GO;refine F.okJ UA (λds h Q q=>by obtain⟨T,n,bb,one,o,k,e,hT,n1,n6,h1,ho,hk,q⟩:=q;subst e;rfl) _ (λcdv A outer s H E hr=>(je (yM (jy vM hr rfl vn vm vk (jac (jv 0) (by exact(jac (jv 1) (by exact(jac (jv 2) (by exact(jac (jv 3) jd))))))))) (by exact(jh (wY (jix (jix (jy GU hr rfl QY QR Qz (jac (jv 0) (by exact(jac (jv 2) (by exact(jac (jv 3) jd)))))) (jv 3) (λ_ _=>rfl)) (jv 1) (λ_ _=>rfl))))))) ?_;intro ds h Q q;obtain⟨T,n,bb,one,o,k,e,hT,n1,n6,h1,ho,hk,q⟩:=q;subst e;refine jg (λσ' h'=>σ'= [some (zH T),some (.int (one:Int)),some (.int (o:Int)),some (.int (k:Int))]/\h=h') (λC hC=>⟨_,rfl,_,rfl,_,rfl,_,rfl,T,n,bb,one,o,k,rfl,hT,n1,n6,h1,ho,hk,hC _ _ ⟨rfl,rfl⟩⟩) ?_;rintro _ _ ⟨rfl,rfl⟩;refine⟨_,rfl,_,rfl,_,rfl,T,n,bb,o,k,rfl,hT,n1,n6,ho,hk,λA h2 sb cA=> ?_⟩;obtain⟨rs,a,kA,hat,ka⟩:=cA.at (G9 k);exact⟨_,rfl,_,_,kA,hat,_,rfl,_,_,ka,MM h1,h,sb,q⟩
def wF:RDn:=λds h Q=> ∃a b:Nat,ds= [.int (a:Int),.int (b:Int)]/\Q (.int ((Nat.gcd a b:Nat):Int)) h
theorem Wx (Z:Zs mg)(F:Fun K "greatest_into" "greatest_into" yb f fd):FnOk P w K mg base CX0 (n+1) f fd ["one","other"] (LSp K wF):=by
 refine F.okJ vf (λds h Q q=>by obtain⟨a,b,e,q⟩:=q;subst e;rfl) _ (λcdv A outer s H E hr=>(je (Mz T6 (wN oq_ne (jv 1) jE (jF _)) (jh (HL (i:=0) (j:=1) rfl vf.nd rfl rfl (by decide) rfl rfl (jac (jv 1) (by exact(jac (jop vb (jv 0) (jv 1)) jd))) rfl))) (by exact(jh (wY (jv 0)))))) ?_;intro ds h Q q;obtain⟨a,b,e,q⟩:=q;subst e;refine jg (λσ' h'=> ∃d,σ'= [some (.int ((Nat.gcd a b:Nat):Int)),d]/\h=h') (λC hC=> ?_) ?_
 ·refine Ud (λm σ' h'=> ∃x:Nat,σ'= [some (.int (x:Int)),some (.int (m:Int))]/\h=h'/\Nat.gcd x m=Nat.gcd a b) b ⟨a,rfl,rfl,rfl⟩ ?_;rintro m _ _ ⟨x,rfl,rfl,hg⟩;refine⟨_,rfl,_,rfl,?_⟩
  by_cases z:m=0
  ·subst z;rw [Nat.gcd_zero_right] at hg;subst hg;exact ifF (by decide) (hC _ _ ⟨_,rfl,rfl⟩)
  ·refine ifT (congrArg not (D4 (show ¬ (m:Int)=0 by omega))) ⟨_,rfl,_,rfl,_,rfl,(by omega:(0:Int)<(m:Int)),_,_,rfl,x%m,_,E2 _ (by omega),Sub.refl _,m,?_,rfl,?_⟩
   ·rw [U3];rfl
   ·rw [Nat.gcd_comm,<-Nat.gcd_rec,Nat.gcd_comm];exact hg
 rintro _ _ ⟨d,rfl,rfl⟩;exact⟨_,rfl,h,Sub.refl h,q⟩
theorem NM (w:List Nat):((Dv T n (w.getLastD 0)).filter λj=>decide (w.headD 0<j)&& !decide (j∈w)).map (λj=>jJ (w++ [j]))=(Tu (vx T) n w).map jJ:=by
 unfold Tu Dv;rw [List.filter_filter,T3];have:(λj=>(decide (w.headD 0<j)&& !decide (j∈w))&&decide (ent T (w.getLastD 0) j>0))=Av (vx T) w:=by
  funext j
  unfold Av vx;rw [Bool.and_comm]
 rw [this];rfl
theorem PU {t:Nat}:((lev (vx T) n t).flatMap λw=>((Dv T n (w.getLastD 0)).filter λj=>decide (w.headD 0<j)&& !decide (j∈w)).map λj=>jJ (w++ [j]))=(lev (vx T) n (t+1)).map jJ:=by
 show _=((lev (vx T) n t).flatMap (Tu (vx T) n)).map jJ;rw [List.map_flatMap];exact congrArg (λf=>(lev (vx T) n t).flatMap f) (funext λw=>NM w)
def yS:RDn:=λds h Q=> ∃T,∃n e:Nat,ds= [zH T]/\Sq n e T/\1<=n/\n<=6/\ ∀A h',h A=none->h' A=some ((rounds T n).map jJ)->Sub h h'->Q (.lst A) h'
theorem UF (Z:Zs mg)(F:Fun K "all_rounds" "all_rounds" vB f fd)(wu:ju P w K mg base n "want_table" ["thing"] wP)(GP:ju P w K mg base n "heads" ["table","place"] UD):FnOk P w K mg base CX0 (n+1) f fd ["table"] (LSp K yS):=by
 obtain⟨Jq,vV,wv,zY,wa,wb⟩:=wu;obtain⟨NY,DZ,GV,UT,Xc,Xg⟩:=GP;refine F.okJ zl (λds h Q q=>by obtain⟨T,n,b,e,hT,h1,h6,q⟩:=q;subst e;rfl) _ (λcdv A outer s H E hr=>(je (yM (jy wv hr rfl wb wa zY (jac (jv 0) jd))) (by exact(je (yN (i:=1) zl.nd rfl (Or.inl rfl) (VZ jd)) (by exact(je (Pt (i:=3) (k:=2) (js:= [3]) rfl zl.nd rfl (Or.inl rfl) (ji (by rfl)) (yG rfl Z.range (jac (jP yk rfl Z.len C0 (jac (jv 0) jd)) jd)) (by decide) rfl (by first|exact Or.inl rfl|exact Or.inr rfl) (λX' hX=>jQ) (λX' hX=>by obtain⟨C,s₀,H₀,ex,rfl⟩:=hX;exact(HK (jac (jv 3) jd)))) (by exact(je (Mz T6 (HW (jv 2)) (je (yN (i:=1) zl.nd rfl (Or.inl rfl) (jop zT (jv 1) (jlc (i:=4) (js:= [4]) rfl (ji (by rfl)) (wK (jv 2)) (by decide) zl.nd rfl (by first|exact Or.inl rfl|exact Or.inr rfl) (λX' hX=>by obtain⟨C,s₀,H₀,ex,rfl⟩:=hX;exact vt (wN oq_ne (jix (jix (jv 0) (jix (jv 4) (So jE) (λ_ _=>rfl)) (λ_ _=>rfl)) (jix (jv 4) jE (λ_ _=>rfl)) (λ_ _=>rfl)) jE (jF _))) (λX' hX=>by obtain⟨C,s₀,H₀,ex,rfl⟩:=hX;exact(jv 4))))) (by exact(jh (OR (i:=4) (i':=5) (k:=2) (js:= [4,5]) rfl zl.nd rfl (Or.inl rfl) (ji (by rfl)) (wK (jv 2)) (by decide) (by decide) (by decide) rfl rfl (by first|exact Or.inl rfl|exact Or.inr rfl) (by first|exact Or.inl rfl|exact Or.inr rfl) (λX' hX=>jQ) (λX' hX=>by obtain⟨C,s₀,H₀,ex,rfl⟩:=hX;exact(wK (jy GV hr rfl Xg Xc UT (jac (jv 0) (by exact(jac (jix (jv 4) (So jE) (λ_ _=>rfl)) jd)))))) (λX' hX=>by obtain⟨C,s₀,H₀,ex,rfl⟩:=hX;exact vt (jpt (Mg (wN BS (jv 5) (jix (jv 4) jE (λ_ _=>rfl)) (jF _)) (Mf (wN (Cl hr.units) (jv 5) (jv 4) (by with_unfolding_all rfl)))))) (λX' hX=>by obtain⟨C,s₀,H₀,ex,rfl⟩:=hX;exact(jop zT (jv 4) (HK (jac (jv 5) jd))))))))) (by exact(jh (wY (jP (DI hr) rfl Z.sorted (by decide +kernel) (jac (jv 1) jd))))))))))))) ?_;intro ds h Q q;obtain⟨T,n,b,e,hT,h1,h6,q⟩:=q;subst e;refine jg (λσ' h'=>σ'= [some (zH T),none,none,none,none,none]/\h=h') (λC hC=>⟨_,rfl,T,n,b,rfl,hT,h1,h6,hC _ _ ⟨rfl,rfl⟩⟩) ?_;rintro _ _ ⟨rfl,rfl⟩;refine jg (λσ' h'=> ∃A,σ'= [some (zH T),some (.lst A),none,none,none,none]/\h' A=some []/\Sub h h') (λC hC=>⟨(by show 0<=sizeLine;decide),λA eA=>hC _ _ ⟨A,rfl,jc,Sub.newAt (Sub.refl h) eA⟩⟩) ?_;rintro _ h2 ⟨A,rfl,kA,sA⟩;refine jg (λσ' h'=> ∃B c,σ'= [some (zH T),some (.lst A),some (.lst B),c,none,none]/\h' A=some ((Xj (vx T) n 0).map jJ)/\h' B=some ((lev (vx T) n 0).map jJ)/\Sub h h') (λC hC=> ?_) ?_
 ·refine lcA (List.range n) (λj=> .int (j:Int)) (λi=>jJ [i]) (by rw [T0];omega) rfl (λR r=>⟨_,rfl,(n:Int),by rw [G2,hT.len],by omega,by omega,r⟩) (λj hj Q' q'=>⟨_,rfl,(by show 1<=sizeLine;decide),q'⟩) (λB eB=>hC _ _ ⟨B,_,rfl,jk kA eB,?_,Sub.newAt sA eB⟩);rw [jc];show _=some (((List.range n).map λi=> [i]).map jJ);rw [T3];rfl
 rintro _ h3 ⟨B,c,rfl,kA,kB,sb⟩;refine jg (λσ' h'=> ∃A B c,σ'= [some (zH T),some (.lst A),some (.lst B),c,none,none]/\h' A=some ((Xj (vx T) n n).map jJ)/\Sub h h') (λC hC=> ?_) ?_
 ·refine Ud (λm σ' h'=> ∃ (t:Nat) (A B:Addr) (c:Option D),σ'= [some (zH T),some (.lst A),some (.lst B),c,none,none]/\m=n-t/\t<=n/\h' A=some ((Xj (vx T) n t).map jJ)/\h' B=some ((lev (vx T) n t).map jJ)/\Sub h h') n ⟨0,A,B,c,rfl,rfl,T4 _,kA,kB,sb⟩ ?_;clear kA kB sb;rintro m _ h4 ⟨t,A,B,c,rfl,rfl,tn,kA,kB,sb⟩;refine⟨_,rfl,!((lev (vx T) n t).map jJ).isEmpty,⟨_,kB,rfl⟩,?_⟩
  by_cases z:(lev (vx T) n t)= []
  ·rw [z];refine vq (hC _ _ ⟨A,B,c,rfl,?_,sb⟩);have:=(Qa (n-t) z).1;rw [show t+(n-t)=n by omega] at this;rw [this];exact kA
  ·have tl:t<n:=by
    rcases Q4 t n with w|w
    ·exact w
    ·have:t=n:=by omega
     subst this;exact absurd (OT h6) z
   have ll:=Nw (g:=vx T) h6 (show t<=6 by omega);have rl:=Ut (g:=vx T) h6 (show t<=6 by omega);have l2:=Nw (g:=vx T) h6 (show t+1<=6 by omega);rw [show (!((lev (vx T) n t).map jJ).isEmpty)=true from by cases e:(lev (vx T) n t) with|nil=>exact absurd e z|cons _ _=>rfl];refine Xi ?_;refine jg (λσ' h'=> ∃A,σ'= [some (zH T),some (.lst A),some (.lst B),c,none,none]/\h' A=some ((Xj (vx T) n (t+1)).map jJ)/\h' B=some ((lev (vx T) n t).map jJ)/\Sub h h') (λC hC=>⟨_,rfl,?_⟩) ?_
   ·refine lcF (j:=λh=>h B) (lev (vx T) n t) jJ jJ (λw=>vx T (w.getLastD 0) (w.headD 0)) (by omega) kB (λR r=>⟨_,rfl,r⟩) (λw hw Q' q'=> ?_) (λw hw _ Q' q'=>⟨_,rfl,q'⟩) (λF eF=>⟨_,_,jk kA eF,jc,?_,λp e=>hC _ _ ⟨p,rfl,?_,jk (jk kB eF) e,(((sb).newAt eF).newAt e)⟩⟩)
    ·have o:=VD hw;have he:=o.lt _ (Nx o.len);have hh:=o.lt _ (CT o.len);refine⟨_,rfl,_,rfl,_,FJ o.len,_,Gp hT he,_,rfl,_,PM o.len,_,Mp (hT.row _ (Sq.getRow hT he)) hh,?_⟩;have nn:=(hT.ent_nn he hh).1;have:(!decide (ent T (w.getLastD 0) (w.headD 0)=0))=vx T (w.getLastD 0) (w.headD 0):=by
      unfold vx;rw [B1,M9,Bool.not_eq_true',G0y];omega
     rw [<-this] at q';exact⟨_,rfl,q'⟩
    ·have:=B6 (λw=>vx T (w.getLastD 0) (w.headD 0)) (lev (vx T) n t);rw [G2,G2];exact D5 (jM (by omega))
    ·rw [jc];show _=some (((Xj (vx T) n t)++(lev (vx T) n t).filter λw=>vx T (w.getLastD 0) (w.headD 0)).map jJ);rw [R9]
   clear kA kB sb;rintro _ h5 ⟨A,rfl,kA,kB,sb⟩;refine SV (j:=λh=>h B) (lev (vx T) n t) jJ (λw=>Dv T n (w.getLastD 0)) (λ(j:Nat)=> .int (j:Int)) (λw j=>decide (w.headD 0<j)&& !decide (j∈w)) (λw j=>jJ (w++ [j])) ?_ (λh' s=>s _ _ kB) (λR r=>⟨_,rfl,r⟩) (λw hw h' s R r=> ?_) (λw hw j hj h' s Q' q'=> ?_) (λw hw j hj _ h' s Q' q'=> ?_) (λa h' s ea=> ?_)
   ·rw [PU,G2];exact D5 (jM (by omega))
   ·have o:=VD hw;exact⟨_,rfl,_,rfl,_,FJ o.len,T,n,b,w.getLastD 0,rfl,hT,h6,o.lt _ (Nx o.len),λF eF=>r _ _ (Sub.newAt (Sub.refl _) eF) λh3 s3=>s3 _ _ jc⟩
   ·have o:=VD hw;refine⟨_,rfl,_,rfl,_,PM o.len,?_⟩;show ∃k,D.bl (decide (((w.headD 0:Nat):Int)<(j:Int)))=D.bl k/\_;rw [show decide (((w.headD 0:Nat):Int)<(j:Int))=decide (w.headD 0<j) from by rw [B1,M9,M9];omega];refine⟨_,rfl,?_⟩
    by_cases c:w.headD 0<j
    ·rw [P3 c] at q' ⊢;exact Xi ⟨_,rfl,_,rfl,OO ⟨_,rfl,q'⟩⟩
    ·rw [D4 c] at q' ⊢;exact vq q'
   ·have o:=VD hw;have e:jJ (w++ [j])= .tup ((w.map λ(k:Nat)=>D.int (k:Int))++ [.int (j:Int)]):=by unfold jJ;rw [List.map_append];rfl
    rw [e] at q';refine⟨_,rfl,_,rfl,(by show 1<=sizeLine;decide),?_,q'⟩;rw [G2,o.len];exact D5 (jM (by simp only [D8,M8];omega))
   ·rw [PU];exact⟨n-(t+1),_,by omega,Sub.refl _,t+1,A,a,_,rfl,rfl,by omega,jk (s _ _ kA) ea,jc,(((sb).trans s).newAt ea)⟩
 clear kA kB sb;rintro _ h4 ⟨A,B,c,rfl,kA,sb⟩;refine⟨_,rfl,A,(Xj (vx T) n n).map toI,rfl,?_,?_,λp mss hp pm sr=>⟨_,Sub.refl _,q p _ (WI sb hp) (by rw [jc,Nt pm sr];rfl) (Sub.newAt sb hp)⟩⟩
 ·rw [kA,T3];exact congrArg some (T8 λS _=>(FI S).symm)
 ·rw [G2];have:=Ut (g:=vx T) h6 h6;exact jM (by omega)
/-- the greatest number that goes into the lengths of all rounds -/
def DN (T:List (List Int))(n:Nat):Nat:=((rounds T n).map List.length).foldl Nat.gcd 0
def NN:RDn:=λds h Q=> ∃T,∃n e:Nat,ds= [zH T]/\Sq n e T/\1<=n/\n<=6/\(CU T n).length=1/\Q (.int ((DN T n:Nat):Int)) h
theorem Ac (Z:Zs mg)(F:Fun K "beat" "beat" NG f fd)(UL:ju P w K mg base n "joined" ["table"] Yy)(vJ:ju P w K mg base n "all_rounds" ["table"] yS)(ye:ju P w K mg base n "greatest_into" ["one","other"] wF):FnOk P w K mg base CX0 (n+1) f fd ["table"] (LSp K NN):=by
 obtain⟨DW,Pg,UO,YE,YH,YJ⟩:=UL;obtain⟨Ve,YF,vL,yU,yW,yX⟩:=vJ;obtain⟨We,ZB,yg,wG,wH,wI⟩:=ye;refine F.okJ Xh (λds h Q q=>by obtain⟨T,n,b,e,hT,h1,h6,one,q⟩:=q;subst e;rfl) _ (λcdv A outer s H E hr=>(je (ZK (Jg (yr (jy UO hr rfl YJ YH YE (jac (jv 0) jd)))) (jh Vu) jW) (by exact(je (yN (i:=1) Xh.nd rfl (Or.inl rfl) jE) (by exact(je (Gb T6 rfl (wK (jy vL hr rfl yX yW yU (jac (jv 0) jd))) (zK (i:=2) Xh.nd rfl (Or.inl rfl)) (jh (yN (i:=1) Xh.nd rfl (Or.inl rfl) (jy yg hr rfl wI wH wG (jac (jv 1) (by exact(jac (jP yk rfl Z.len C0 (jac (jv 2) jd)) jd))))))) (by exact(jh (wY (jv 1)))))))))) ?_;intro ds h Q q;obtain⟨T,n,b,e,hT,h1,h6,one,q⟩:=q;subst e;refine jg (λσ' h'=>σ'= [some (zH T),none,none]/\h=h') (λC hC=>⟨_,rfl,T,n,b,rfl,hT,h1,h6,_,rfl,?_⟩) ?_
 ·rw [P3 one];exact vq (hC _ _ ⟨rfl,rfl⟩)
 rintro _ _ ⟨rfl,rfl⟩;refine jg (λσ' h'=>σ'= [some (zH T),some (.int 0),none]/\h=h') (λC hC=>hC _ _ ⟨rfl,rfl⟩) ?_;rintro _ _ ⟨rfl,rfl⟩;refine jg (λσ' h'=> ∃v,σ'= [some (zH T),some (.int ((DN T n:Nat):Int)),v]/\Sub h h') (λC hC=>⟨_,rfl,T,n,b,rfl,hT,h1,h6,λA h2 nA kA sb=> ?_⟩) (λ_ h' ⟨v,e,sb⟩=>by subst e;exact⟨_,rfl,_,sb,q⟩);refine WZ (j:=λh=>h A) ((rounds T n).map jJ) (λi σ' h'=> ∃v,σ'= [some (zH T),some (.int (((((rounds T n).take i).map List.length).foldl Nat.gcd 0:Nat):Int)),v]/\h2=h') (λi σ' h' ⟨_,_,z⟩=>by rw [<-z];exact kA) ⟨_,rfl,rfl⟩ (λσ' h' ⟨v,e,z⟩=>hC _ _ ⟨v,by rw [e,G2,K5];rfl,by rw [<-z];exact sb⟩) ?_;rintro i d _ _ hi ⟨v,rfl,rfl⟩;rw [P1] at hi;obtain⟨W,hW,rfl⟩:=C1.mp hi;have hil:=(G6.mp hW).1;refine⟨_,rfl,_,rfl,_,_,rfl,_,Sub.refl _,by rw [G2];omega,some (jJ W),?_,rfl⟩;rw [N3,hW,R9,List.foldl_append,G2];rfl
def wQ:RDn:=λds h Q=> ∃S,∃n:Nat,ds= [jJ S,.int (n:Int)]/\LensE S/\n<=1000/\ ∀A h',h A=none->h' A=some ((List.range (n+1)).map λi=>D.bl (mkB S i))->Sub h h'->Q (.lst A) h'
theorem UG (Z:Zs mg)(F:Fun K "made_up_to" "made_up_to" vC f fd):FnOk P w K mg base CX0 (n+1) f fd ["lengths","number"] (LSp K wQ):=by
 refine F.okJ wR (λds h Q q=>by obtain⟨S,n,e,hS,hn,q⟩:=q;subst e;rfl) _ (λcdv A outer s H E hr=>(je (yN (i:=2) wR.nd rfl (by first|exact Or.inr rfl|exact Or.inl rfl) (VZ (jac jbl jd))) (by exact(je (Gb T6 rfl (Oq rfl Z.range (jac jE (by exact(jac (jop zT (jv 1) jE) jd)))) (zK (i:=3) wR.nd rfl (by first|exact Or.inr rfl|exact Or.inl rfl)) (jh (yM (At (jv 2) (jP (Sb rfl) rfl Z.any (by decide +kernel) (jac (jlc (i:=4) (js:= [4]) rfl (ji (by rfl)) (wK (jv 0)) (by decide) wR.nd rfl (by first|exact Or.inl rfl|exact Or.inr rfl) (λX' hX=>jQ) (λX' hX=>by obtain⟨C,s₀,H₀,ex,rfl⟩:=hX;exact(FB (XC Gj (jv 4) (jv 3) (jF _)) (Mh (jix (jv 2) (jop Xv (jv 3) (jv 4)) (λ_ _=>rfl)))))) jd)))))) (by exact(jh (wY (jv 2)))))))) ?_;intro ds h Q q;obtain⟨S,n,e,hS,hn,q⟩:=q;subst e;refine jg (λσ' h'=> ∃A,σ'= [some (jJ S),some (.int (n:Int)),some (.lst A),none,none]/\h A=none/\h' A=some ((List.range (0+1)).map λi=>D.bl (mkB S i))/\Sub h h') (λC hC=>⟨(by show 1<=sizeLine;decide),λA eA=>hC _ _ ⟨A,rfl,eA,?_,Sub.newAt (Sub.refl h) eA⟩⟩) ?_
 ·rw [jc];show some [D.bl true]=some [D.bl (mkB S 0)];rw [Cy]
 rintro _ h1 ⟨A,rfl,fA,kA,sb⟩;have sub2: ∀ {h5:HD} {ds:List D},Sub h h5->Sub h (zN h5 A ds):=λs=>s.over fA
 refine jg (λσ' h'=> ∃a b,σ'= [some (jJ S),some (.int (n:Int)),some (.lst A),a,b]/\h' A=some ((List.range (n+1)).map λi=>D.bl (mkB S i))/\Sub h h') (λC hC=> ?_) ?_
 ·refine Cn 1 n (λi σ' h'=> ∃a b,σ'= [some (jJ S),some (.int (n:Int)),some (.lst A),a,b]/\h' A=some ((List.range (i+1)).map λi=>D.bl (mkB S i))/\Sub h h') (by decide) (by decide) (by omega) (λR r=>⟨_,rfl,?_⟩) ⟨_,_,rfl,kA,sb⟩ (λσ' h' w=>hC σ' h' w) ?_
  ·have e:(n:Int)+1=1+(n:Int):=Int.add_comm _ _;show R [.int 1,.int ((n:Int)+1)] _;rw [e];exact r
  clear kA sb;rintro i _ h2 hi ⟨a,b,rfl,kA,sb⟩;refine⟨_,rfl,A,rfl,?_⟩;refine ud (j:=λ_=>some (S.map λ(k:Nat)=>D.int (k:Int))) S (λ(k:Nat)=> .int (k:Int)) (λl=>decide ((l:Int)<=((i+1:Nat):Int))&&mkB S (i+1-l)) (by have:=hS.few;omega) rfl (λR r=>⟨_,rfl,r⟩) (λl hl Q' q'=> ?_) ⟨_,kA,?_,_,Sub.refl _,by omega,_,_,rfl,?_,sub2 sb⟩
  ·have e1:(1:Int)+(i:Int)=((i+1:Nat):Int):=by omega
   refine⟨_,rfl,_,rfl,_,rfl,?_⟩
   by_cases c:(l:Int)<=1+(i:Int)
   ·have e2:(1:Int)+(i:Int)-(l:Int)=((i+1-l:Nat):Int):=by omega
    refine ifT (P3 c) ⟨_,rfl,_,rfl,_,rfl,_,_,kA,?_,q'⟩;rw [e2,P3 (by omega:(l:Int)<=((i+1:Nat):Int)),K2];have:=hS.lo l hl;exact zm (by rw [P1,C5 (by omega)];rfl)
   ·rw [D4 (by omega: ¬ (l:Int)<=((i+1:Nat):Int)),G1a] at q';exact ifF (D4 c) q'
  ·rw [G2,T0];exact N5 (show i+1<=2000 by omega) (by decide)
  ·rw [jc,O6 (n:=i+1),R9,<-Cz (by omega)];rfl
 rintro _ h2 ⟨a,b,rfl,kA2,sb2⟩;exact⟨_,rfl,h2,Sub.refl _,q A h2 fA kA2 sb2⟩
def ZX:RDn:=λds h Q=> ∃S,∃n:Nat,ds= [jJ S,.int (n:Int)]/\Lens S/\n<=1000/\Q (.bl (mkB S n)) h
theorem DO (Z:Zs mg)(F:Fun K "made_by" "made_by" Yu f fd)(zA:ju P w K mg base n "want_lengths" ["thing"] zV)(zW:ju P w K mg base n "want_number" ["thing","least","most"] wn)(wt:ju P w K mg base n "made_up_to" ["lengths","number"] wQ)(zh: ∃tk,mg "MOST_NUMBER" =some (.int 1000 tk)):FnOk P w K mg base CX0 (n+1) f fd ["lengths","number"] (LSp K ZX):=by
 obtain⟨vd,yJ,zB,zd,ze,zf⟩:=zA;obtain⟨vT,ve,zX,zC,zF,zG⟩:=zW;obtain⟨Jp,vU,zP,zi,zj,zk⟩:=wt;obtain⟨tk_MOST_NUMBER,m_MOST_NUMBER⟩:=zh;refine F.okJ DK (λds h Q q=>by obtain⟨S,n,e,hS,hn,q⟩:=q;subst e;rfl) _ (λcdv A outer s H E hr=>(je (yM (jy zB hr rfl zf ze zd (jac (jv 0) jd))) (by exact(je (yM (jy zX hr rfl zG zF zC (jac (jv 1) (by exact(jac jE (by exact(jac (Dm rfl m_MOST_NUMBER) jd))))))) (by exact(jh (wY (jix (jy zP hr rfl zk zj zi (jac (jv 0) (by exact(jac (jv 1) jd)))) (jv 1) (λ_ _=>rfl))))))))) ?_;intro ds h Q q;obtain⟨S,n,e,hS,hn,q⟩:=q;subst e;exact⟨_,rfl,S,rfl,hS,_,rfl,(n:Int),0,1000,rfl,by omega,by omega,_,rfl,_,rfl,S,n,rfl,hS.e,hn,λA h' fA kA sb=>⟨_,rfl,_,_,kA,zm (by rw [P1,C5 (by omega)];rfl),h,sb,q⟩⟩
theorem NO (hS:Lens S): ∃f S',S=f::S':=by
 cases S with
 |nil=>have:=hS.some;simp at this
 |cons f S'=>exact⟨f,S',rfl⟩
theorem NP (S:List Nat)(i l:Nat)(h:S[i]? =some l):(S.take (i+1)).foldl Nat.gcd 0=Nat.gcd ((S.take i).foldl Nat.gcd 0) l:=by
 rw [N3,h,List.foldl_append];rfl
def Jn:RDn:=λds h Q=> ∃S,ds= [jJ S]/\Lens S/\S.foldl Nat.gcd 0=1/\ ∀m:Int,Tq S m->Q (.int m) h
theorem YW (Z:Zs mg)(F:Fun K "last_unmade" "last_unmade" yR f fd)(zA:ju P w K mg base n "want_lengths" ["thing"] zV)(ye:ju P w K mg base n "greatest_into" ["one","other"] wF)(wt:ju P w K mg base n "made_up_to" ["lengths","number"] wQ):FnOk P w K mg base CX0 (n+1) f fd ["lengths"] (LSp K Jn):=by
 obtain⟨vd,yJ,zB,zd,ze,zf⟩:=zA;obtain⟨We,ZB,yg,wG,wH,wI⟩:=ye;obtain⟨Jp,vU,zP,zi,zj,zk⟩:=wt;refine F.okJ za (λds h Q q=>by obtain⟨S,e,hS,g1,q⟩:=q;subst e;rfl) _ (λcdv A outer s H E hr=>(je (yM (jy zB hr rfl zf ze zd (jac (jv 0) jd))) (by exact(je (yN (i:=1) za.nd rfl (Or.inl rfl) jE) (by exact(je (Gb T6 rfl (wK (jv 0)) (zK (i:=2) za.nd rfl (Or.inl rfl)) (jh (yN (i:=1) za.nd rfl (Or.inl rfl) (jy yg hr rfl wI wH wG (jac (jv 1) (by exact(jac (jv 2) jd))))))) (by exact(je (ZK (wN BS (jv 1) jE (jF _)) (jh Vu) jW) (by exact(je (yN (i:=3) za.nd rfl (Or.inl rfl) (jy zP hr rfl zk zj zi (jac (jv 0) (by exact(jac (jop Oj (jix (jv 0) jE (λ_ _=>rfl)) (jix (jv 0) (So jE) (λ_ _=>rfl))) jd))))) (by exact(jh (wY (jP (ME rfl) rfl Z.max (by decide +kernel) (jac (jop zT (VZ (jac (So jE) jd)) (Tp (i:=4) (j:=5) (js:= [4,5]) rfl (ji (by rfl)) (Cr rfl Z.enumerate (jac (jv 3) jd)) (by decide) (by decide) (by decide) za.nd rfl rfl (by first|exact Or.inl rfl|exact Or.inr rfl) (by first|exact Or.inl rfl|exact Or.inr rfl) (λX' hX=>by obtain⟨C,s₀,H₀,ex,rfl⟩:=hX;exact vt (Jg (yr (jv 5)))) (λX' hX=>by obtain⟨C,s₀,H₀,ex,rfl⟩:=hX;exact(jv 4)))) jd))))))))))))))) ?_;intro ds h Q q;obtain⟨S,e,hS,g1,q⟩:=q;subst e;refine jg (λσ' h'=>σ'= [some (jJ S),none,none,none,none,none]/\h=h') (λC hC=>⟨_,rfl,S,rfl,hS,hC _ _ ⟨rfl,rfl⟩⟩) ?_;rintro _ _ ⟨rfl,rfl⟩;refine jg (λσ' h'=>σ'= [some (jJ S),some (.int 0),none,none,none,none]/\h=h') (λC hC=>hC _ _ ⟨rfl,rfl⟩) ?_;rintro _ _ ⟨rfl,rfl⟩;refine jg (λσ' h'=> ∃d,σ'= [some (jJ S),some (.int 1),d,none,none,none]/\h=h') (λC hC=> ?_) ?_
 ·refine Pr (j:=λ_=>some (S.map λ(k:Nat)=>D.int (k:Int))) (S.map λ(k:Nat)=>D.int (k:Int)) (λi σ' h'=> ∃d,σ'= [some (jJ S),some (.int (((S.take i).foldl Nat.gcd 0:Nat):Int)),d,none,none,none]/\h=h') (λR r=>⟨_,rfl,r⟩) (λ_ _ _ _=>rfl) ⟨none,rfl,rfl⟩ ?_ ?_
  ·rintro σ' h' ⟨d,rfl,rfl⟩;rw [G2,K5,g1];exact hC _ _ ⟨d,rfl,rfl⟩
  rintro i d _ _ hd ⟨d',rfl,rfl⟩;have hil:=(G6.mp hd).1;rw [P1] at hd;obtain⟨l,hl,rfl⟩:=C1.mp hd;refine⟨_,rfl,_,rfl,_,l,rfl,_,Sub.refl _,hil,some (.int (l:Int)),?_,rfl⟩;rw [NP S i l hl];rfl
 rintro _ _ ⟨d,rfl,rfl⟩;obtain⟨f,S',eS⟩:=NO hS;have f1:=hS.lo f (by rw [eS];exact P9 ..);have f2:=hS.hi f (by rw [eS];exact P9 ..);have lh:=hS.last;have pr:f*(S.getLast?.getD 0)<=144:=D6 (Nat.mul_le_mul f2 lh) (by decide);have ep:(f:Int)*((S.getLast?.getD 0:Nat):Int)=((f*(S.getLast?.getD 0):Nat):Int):=(G0P _ _).symm;have fa:atI (S.map λ(k:Nat)=>D.int (k:Int)) 0=some (.int (f:Int)):=by rw [eS];exact CC
 refine jg (λσ' h'=>σ'= [some (jJ S),some (.int 1),d,none,none,none]/\h=h') (λC hC=>⟨_,rfl,_,rfl,vq (hC _ _ ⟨rfl,rfl⟩)⟩) ?_;rintro _ _ ⟨rfl,rfl⟩;refine jg (λσ' h'=> ∃A,σ'= [some (jJ S),some (.int 1),d,some (.lst A),none,none]/\h' A=some ((List.range (f*(S.getLast?.getD 0)+1)).map λi=>D.bl (mkB S i))/\Sub h h') (λC hC=>⟨_,rfl,_,rfl,_,fa,_,rfl,_,OE hS.some,Cb (e:=4) (f:=4) ⟨by omega,by omega⟩ ⟨by omega,by omega⟩ (by decide),S,f*(S.getLast?.getD 0),by rw [ep],hS.e,by omega,λA h' fA kA sb=>hC _ _ ⟨A,rfl,kA,sb⟩⟩) ?_;rintro _ h1 ⟨A,rfl,kA,sb⟩;have from1: ∀n,f*(S.getLast?.getD 0)+1<=n->Made S n:=λn hn=>by
  subst eS;exact hS.from g1 (by omega)
 refine⟨(by show 1<=sizeLine;decide),λp1 e1=> ?_⟩;have kA1:=jk (M:= [D.int (-1)]) kA e1;refine HU (j:=λh=>(h A).map YQ) (List.range (f*(S.getLast?.getD 0)+1)) (λ(i:Nat)=> .int (i:Int)) (λi=> .bl (mkB S i)) (λ(i:Nat)=> .int (i:Int)) (λi=> !mkB S i) (by rw [T0];omega) ?_ (λR r=>⟨_,rfl,A,rfl,r⟩) (λi hi Q' q'=>⟨_,rfl,_,rfl,q'⟩) (λi hi _ Q' q'=>⟨_,rfl,q'⟩) (λF eF=> ?_)
 ·show (zN h1 p1 [D.int (-1)] A).map YQ=_;rw [kA1];exact congrArg some (SC _ _)
 refine⟨_,_,jk jc eF,jc,?_,λp2 e2=>⟨_,h1,?_,?_,.inr ⟨p2,rfl,by rw [jc];exact congrArg some (OF _ _)⟩,λm m1 m2=>⟨h,sb,q m (OD from1 m1 m2)⟩⟩⟩
 ·rw [G2];have:=B6 (λk=> !mkB S k) (List.range (f*(S.getLast?.getD 0)+1));rw [T0] at this;exact D6 (show 1+_<=200 by omega) (by decide)
 ·simp
 ·exact Sub.newAt (Sub.newAt (Sub.newAt (Sub.refl _) e1) eF) e2
theorem ui {α:Type}(xs:List α)(a:Nat)(h:a<=xs.length):YN xs (some (a:Int)) none=xs.drop a:=ug xs a h
theorem Yz: ∀ (S:List Nat) (n:Nat),(Uu S n).length=S.length
 | [],_=>rfl
 |s::S,n=>congrArg (· +1) (Yz S _)
def Zo:RDn:=λds h Q=> ∃S,∃n:Nat,ds= [jJ S,.int (n:Int)]/\Lens S/\n<=1000/\((¬Made S n/\ ∀h',Sub h h'->Q .non h')\/(Made S n/\ ∀h',Sub h h'->Q (jJ (Uu S n)) h'))
theorem UH (Z:Zs mg)(F:Fun K "counts_for" "counts_for" vD f fd)(zA:ju P w K mg base n "want_lengths" ["thing"] zV)(zW:ju P w K mg base n "want_number" ["thing","least","most"] wn)(wt:ju P w K mg base n "made_up_to" ["lengths","number"] wQ)(zh: ∃tk,mg "MOST_NUMBER" =some (.int 1000 tk)):FnOk P w K mg base CX0 (n+1) f fd ["lengths","number"] (LSp K Zo):=by
 obtain⟨vd,yJ,zB,zd,ze,zf⟩:=zA;obtain⟨vT,ve,zX,zC,zF,zG⟩:=zW;obtain⟨Jp,vU,zP,zi,zj,zk⟩:=wt;obtain⟨tk_MOST_NUMBER,m_MOST_NUMBER⟩:=zh;refine F.okJ jU (λds h Q q=>by obtain⟨S,n,e,hS,hn,q⟩:=q;subst e;rfl) _ (λcdv A outer s H E hr=>(je (yM (jy zB hr rfl zf ze zd (jac (jv 0) jd))) (by exact(je (yM (jy zX hr rfl zG zF zC (jac (jv 1) (by exact(jac jE (by exact(jac (Dm rfl m_MOST_NUMBER) jd))))))) (by exact(je (ZK (Jg (yr (jix (jy zP hr rfl zk zj zi (jac (jv 0) (by exact(jac (jv 1) jd)))) (jv 1) (λ_ _=>rfl)))) (jh (wY HJ)) jW) (by exact(je (yN (i:=2) jU.nd rfl (Or.inl rfl) (VZ jd)) (by exact(je (yN (i:=3) jU.nd rfl (Or.inl rfl) (jv 1)) (by exact(je (Gb T6 rfl (Mw rfl Z.enumerate (jac (jv 0) jd)) (FC (i:=4) (j:=5) rfl jU.nd rfl rfl (Or.inl rfl) (Or.inl rfl)) (je (yN (i:=6) jU.nd rfl (Or.inl rfl) (jy zP hr rfl zk zj zi (jac (Ml (jv 0) (Ua (jop zT (jv 4) jE)) Mk) (by exact(jac (jv 3) jd))))) (by exact(je (yN (i:=7) jU.nd rfl (Or.inl rfl) jE) (by exact(je (Mz T6 (Jg (yr (jix (jv 6) (jv 3) (λ_ _=>rfl)))) (je (Ot (i:=3) jU.nd rfl (Or.inl rfl) (jv 5)) (by exact(jh (Os (i:=7) jU.nd rfl (Or.inl rfl) jE))))) (by exact(jh (yM (At (jv 2) (jv 7))))))))))) (by exact(jh (wY (wD cq_tuple rfl Z.tuple (by decide +kernel) (jac (jv 2) jd))))))))))))))))) ?_;intro ds h Q q;obtain⟨S,n,e,hS,hn,q⟩:=q;subst e;refine jg (λσ' h'=>σ'= [some (jJ S),some (.int (n:Int)),none,none,none,none,none,none]/\h=h') (λC hC=>⟨_,rfl,S,rfl,hS,hC _ _ ⟨rfl,rfl⟩⟩) ?_;rintro _ _ ⟨rfl,rfl⟩;refine jg (λσ' h'=>σ'= [some (jJ S),some (.int (n:Int)),none,none,none,none,none,none]/\h=h') (λC hC=>⟨_,rfl,(n:Int),0,1000,rfl,by omega,by omega,hC _ _ ⟨rfl,rfl⟩⟩) ?_;rintro _ _ ⟨rfl,rfl⟩;rcases q with ⟨no,q⟩|⟨yes,q⟩
 ·refine jg (λ_ _=>False) (λC hC=>⟨_,rfl,_,rfl,S,n,rfl,hS.e,hn,λA h' fA kA sb=>⟨_,rfl,_,_,kA,Ue (by omega),_,rfl,?_⟩⟩) (λ_ _ z=>z.elim);rw [show mkB S n=false from J8.mpr λz=>no (mkB_true.mp z)];exact Xi ⟨_,Sub.refl _,q _ sb⟩
 refine jg (λσ' h'=>σ'= [some (jJ S),some (.int (n:Int)),none,none,none,none,none,none]/\Sub h h') (λC hC=>⟨_,rfl,_,rfl,S,n,rfl,hS.e,hn,λA h' fA kA sb=>⟨_,rfl,_,_,kA,Ue (by omega),_,rfl,?_⟩⟩) ?_
 ·rw [show mkB S n=true from mkB_true.mpr yes];exact vq (hC _ _ ⟨rfl,sb⟩)
 rintro _ h1 ⟨rfl,sb⟩;refine jg (λσ' h'=> ∃A,σ'= [some (jJ S),some (.int (n:Int)),some (.lst A),none,none,none,none,none]/\h A=none/\h' A=some []/\Sub h h') (λC hC=>⟨(by show 0<=sizeLine;decide),λA eA=>hC _ _ ⟨A,rfl,WI sb eA,jc,Sub.newAt sb eA⟩⟩) ?_;clear sb;rintro _ h2 ⟨A,rfl,fA,kA,sb⟩;refine jg (λσ' h'=>σ'= [some (jJ S),some (.int (n:Int)),some (.lst A),some (.int (n:Int)),none,none,none,none]/\h2=h') (λC hC=>⟨_,rfl,hC _ _ ⟨rfl,rfl⟩⟩) ?_;rintro _ _ ⟨rfl,rfl⟩;refine jg (λσ' h'=> ∃a b c d e,σ'= [some (jJ S),some (.int (n:Int)),some (.lst A),a,b,c,d,e]/\h' A=some ((Uu S n).map (λ(k:Nat)=>D.int (k:Int)))/\Sub h h') (λC hC=> ?_) ?_
 ·refine Pr (h1:=h2) (j:=λ_=>some (YQ (S.map (λ(k:Nat)=>D.int (k:Int))))) (YQ (S.map (λ(k:Nat)=>D.int (k:Int)))) (λi σ' h'=> ∃ (Lf:Nat) (cs:List Nat) (b c d e:Option D),σ'= [some (jJ S),some (.int (n:Int)),some (.lst A),some (.int (Lf:Int)),b,c,d,e]/\h' A=some (cs.map (λ(k:Nat)=>D.int (k:Int)))/\Sub h h'/\Lf<=n/\Uu S n=cs++Uu (S.drop i) Lf/\Made (S.drop i) Lf) (λR r=>⟨_,rfl,_,rfl,r⟩) (λ_ _ _ _=>rfl) ⟨n,[],none,none,none,none,rfl,kA,sb,G9 _,rfl,yes⟩ (λσ' h' ⟨Lf,cs,b,c,d,e,es,k,s,_,ec,_⟩=>hC _ _ ⟨_,b,c,d,e,es,?_,s⟩) ?_
  ·have le:(YQ (S.map (λ(k:Nat)=>D.int (k:Int)))).length=S.length:=by unfold YQ;rw [List.length_map,List.length_zipIdx,List.length_map]
   rw [le,N6 (G9 _)] at ec;rw [ec,show Uu [] Lf= [] from rfl,B9];exact k
  clear kA sb;rintro i d0 _ h3 hd ⟨Lf,cs,b,c,d,e,rfl,kA,sb,Ln,ec,md⟩;obtain⟨x,hx,rfl⟩:=WG hd;rw [P1] at hx;obtain⟨s,hs,rfl⟩:=C1.mp hx;have lti:i<S.length:=(G6.mp hs).1;have ed:S.drop i=s::S.drop (i+1):=by rw [G0o lti,(G6.mp hs).2]
  have s1:1<=s:=hS.lo s (G5 hs);rw [ed] at ec md;obtain⟨o,ef,ol,mo,nof⟩:=GC s1 md;rw [Qb ef] at ec;have il:i+1<=(YQ (S.map (λ(k:Nat)=>D.int (k:Int)))).length:=by rw [wZ,G2];exact lti
  refine⟨_,_,rfl,?_⟩;refine jg (λσ' h'=> ∃B,σ'= [some (jJ S),some (.int (n:Int)),some (.lst A),some (.int (Lf:Int)),some (.int (i:Int)),some (.int (s:Int)),some (.lst B),e]/\B≠A/\h' B=some ((List.range (Lf+1)).map λj=>D.bl (mkB (S.drop (i+1)) j))/\h' A=some (cs.map (λ(k:Nat)=>D.int (k:Int)))/\Sub h h') (λC' hC'=>⟨_,rfl,_,rfl,_,rfl,?_⟩) ?_
  ·refine⟨_,rfl,S.drop (i+1),Lf,?_,hS.e.drop _,by omega,λB h' fB kB s2=>hC' _ _ ⟨B,rfl,λw=> ?_,kB,s2 _ _ kA,((sb).trans s2)⟩⟩
   ·show [D.tup (YN (S.map (λ(k:Nat)=>D.int (k:Int))) (some ((i+1:Nat):Int)) none),_]= [D.tup ((S.drop (i+1)).map (λ(k:Nat)=>D.int (k:Int))),_];rw [RX,ui S (i+1) (by omega)]
   ·subst w;rw [kA] at fB;cases fB
  clear kA sb;rintro _ h4 ⟨B,rfl,nB,kB,kA,sb⟩;refine jg (λσ' h'=>σ'= [some (jJ S),some (.int (n:Int)),some (.lst A),some (.int (Lf:Int)),some (.int (i:Int)),some (.int (s:Int)),some (.lst B),some (.int 0)]/\h4=h') (λC' hC'=>hC' _ _ ⟨rfl,rfl⟩) ?_;rintro _ _ ⟨rfl,rfl⟩;refine jg (λσ' h'=>σ'= [some (jJ S),some (.int (n:Int)),some (.lst A),some (.int ((Lf-o*s:Nat):Int)),some (.int (i:Int)),some (.int (s:Int)),some (.lst B),some (.int (o:Int))]/\h4=h') (λC' hC'=> ?_) ?_
  ·refine Ud (λm σ' h'=> ∃k:Nat,σ'= [some (jJ S),some (.int (n:Int)),some (.lst A),some (.int ((Lf-k*s:Nat):Int)),some (.int (i:Int)),some (.int (s:Int)),some (.lst B),some (.int (k:Int))]/\h4=h'/\k<=o/\m=o-k) o ⟨0,by rw [G1q,G1p];rfl,rfl,T4 _,rfl⟩ ?_;rintro m _ _ ⟨k,rfl,rfl,ko,rfl⟩;refine⟨_,rfl,_,rfl,_,_,kB,Ue (by omega),_,rfl,?_⟩;rcases Q4 k o with lt|ge
   ·rw [nof k lt];have f1:(k+1)*s<=o*s:=Nat.mul_le_mul_right s lt;rw [U9] at f1;refine ifT rfl ⟨_,rfl,_,rfl,_,rfl,_,rfl,_,rfl,o-(k+1),h4,by omega,Sub.refl _,k+1,?_,rfl,lt,rfl⟩;have e1:((Lf-k*s:Nat):Int)-(s:Int)=((Lf-(k+1)*s:Nat):Int):=by rw [U9];omega
    show [_,_,_,some (D.int (((Lf-k*s:Nat):Int)-(s:Int))),_,_,_,_]=_;rw [e1];rfl
   ·obtain rfl:k=o:=Nat.le_antisymm ko ge;rw [mo];exact ifF rfl (hC' _ _ ⟨rfl,rfl⟩)
  rintro _ _ ⟨rfl,rfl⟩;refine⟨_,rfl,_,rfl,_,rfl,_,kA,?_,_,Sub.refl _,il,Lf-o*s,cs++ [o],_,_,_,_,rfl,?_,Sub.over sb fA,D6 (Nat.sub_le _ _) Ln,by rw [ec,G8];rfl,mkB_true.mp mo⟩
  ·have:=congrArg List.length ec;rw [G2];rw [G7,Yz] at this;exact N5 (show cs.length<=6 by have:=hS.few;omega) (by decide)
  ·rw [jc,R9];rfl
 rintro _ h3 ⟨a,b,c,d,e,rfl,kA2,sb2⟩;exact⟨_,rfl,_,kA2,_,Sub.refl _,q _ sb2⟩
def Wp:RDn:=λds h Q=> ∃ns k,ds= [.scr ns,.int k]/\0<=k/\ ∀n,Q (.int n) h
theorem Qk (Z:Zs mg)(F:Fun K "_law_cell" "_law_cell" JH f fd):FnOk P w K mg base CX0 (n+1) f fd ["_law_script","_law_k"] (LSp K Wp):=by
 refine F.okJ Qe (λds h Q q=>by obtain⟨ns,k,e,h0,q⟩:=q;subst e;rfl) _ (λcdv A outer s H E hr=>(je (ZK (wN LY (jv 1) (jP yk rfl Z.len C0 (jac (jv 0) jd)) (jF _)) (jh (wY (jix (jv 0) (jv 1) (λ_ _=>rfl)))) jW) (by exact(jh (wY jE))))) ?_;intro ds h Q q;obtain⟨ns,k,e,h0,q⟩:=q;subst e;simp only [Bi,BP,Zc,dOp,BK,va,T5,V0,D8,M8,E1,B2,W1,L0,J9,dCB,wC,WE,EX,Fx,D.bl.injEq,BO,ixD,BR,Q8,Dj,dC];refine Ga (λc=> ?_) (λ_=>⟨h,Sub.refl h,q 0⟩);have c':k<(ns.length:Int):=B3 c;have hk:k.toNat<ns.length:=by omega
 have ek:k=((k.toNat:Nat):Int):=by omega
 have z:=zm (G0 hk);rw [<-ek] at z;exact⟨ns[k.toNat],z,h,Sub.refl h,q _⟩
def YA:RDn:=λds h Q=> ∃c,ds= [.int c]/\ ∀p l fl,h p=none->0<=l->(fl=0\/fl=1)->Q (.lst p) (zN h p [.int l,.int fl])
theorem GL (Z:Zs mg)(F:Fun K "_law_pen" "_law_pen" ZV f fd):FnOk P w K mg base CX0 (n+1) f fd ["_law_cell_here"] (LSp K YA):=by
 refine F.okJ YK (λds h Q q=>by obtain⟨c,e,q⟩:=q;subst e;rfl) _ (λcdv A outer s H E hr=>(je (yN (i:=1) YK.nd rfl (Or.inl rfl) (jP (EY rfl) rfl Z.max (by decide +kernel) (jac (jv 0) (by exact(jac (jop Xv jE (jv 0)) jd))))) (by exact(jh (wY (VZ (jac (jv 1) (by exact(jac (wD RR rfl Z.int (by decide +kernel) (jac (XC LZ (jv 1) (jop Fy jE jE) (jF _)) jd)) jd))))))))) ?_;intro ds h Q q;obtain⟨c,e,q⟩:=q;subst e;simp only [Bi,Bj,dCB,wC,BK,va,T5,V0,D8,M8,List.replicate,E1,B2,L0,J9,dOp,dC,KA,WE,HB,BO,Ap,List.set_cons_succ,List.set_cons_zero,W1,KC,Fx,HA,BR,Q8];refine⟨⟨by decide,by decide,by decide⟩,by decide,λp hp=>⟨_,Sub.refl _,q p _ _ hp ?_ ?_⟩⟩
 ·split<;>omega
 ·split<;>simp<;>omega
def zc:RDn:=λds h Q=> ∃p l fl m,ds= [.lst p,.int m]/\h p=some [.int l,.int fl]/\0<=l/\0<m/\m<2^200/\ ∀r l',0<=r->r<m->0<=l'->Q (.int r) (zN h p [.int l',.int fl])
theorem Ql (Z:Zs mg)(F:Fun K "_law_draw" "_law_draw" JJ f fd):FnOk P w K mg base CX0 (n+1) f fd ["_law_pen_here","_law_many"] (LSp K zc):=by
 refine F.okJ yo (λds h Q q=>by obtain⟨p,l,fl,m,e,hp,h0,hm,hm2,q⟩:=q;subst e;rfl) _ (λcdv A outer s H E hr=>(je (ZK (wN oq_eq (jix (jv 0) jE (λ_ _=>rfl)) jE (jF _)) (je (As (jP Dr rfl Z.divmod (by decide +kernel) (jac (jix (jv 0) jE (λ_ _=>rfl)) (by exact(jac (jv 1) jd)))) (FC (i:=2) (j:=3) rfl yo.nd rfl rfl (Or.inl rfl) (Or.inl rfl))) (by exact(je (As (jv 2) (XD (jv 0) jE)) (by exact(jh (wY (jv 3))))))) jW) (by exact(je (yN (i:=4) yo.nd rfl (Or.inl rfl) (jop vb (jop WW (jop zT (jop vb (jix (jv 0) jE (λ_ _=>rfl)) jE) jE) jE) jE)) (by exact(je (yN (i:=4) yo.nd rfl (Or.inl rfl) (jop vb (jop zT (jop WW (jv 4) (jv 4)) jE) jE)) (by exact(je (As (jop vb (jop zT (jop WW (jv 4) jE) jE) jE) (XD (jv 0) jE)) (by exact(jh (wY (jop vb (jop LX (jix (jv 0) jE (λ_ _=>rfl)) jE) (jv 1))))))))))))) ?_;intro ds h Q q;obtain⟨p,l,fl,m,e,hp,h0,hm,hm2,q⟩:=q;subst e;refine jg (λσ' h'=>σ'= [some (.lst p),some (.int m),none,none,none]/\h=h') (λC hC=>⟨_,rfl,_,_,hp,rfl,?_⟩) ?_
 ·show ∃k,D.bl (decide (fl=1))= .bl k/\_;refine⟨_,rfl,Ga (λ_=> ?_) λ_=>hC _ _ ⟨rfl,rfl⟩⟩;exact⟨_,rfl,_,_,hp,rfl,_,rfl,_,_,rfl,⟨hm,hm2⟩,_,_,rfl,_,rfl,_,rfl,p,0,_,0,rfl,rfl,hp,rfl,_,rfl,_,Sub.refl _,q (l%m) (l / m) (Z8 _ (Int.ne_of_gt hm)) (G0l _ hm) (Int.ediv_nonneg h0 (Int.le_of_lt hm))⟩
 rintro _ _ ⟨rfl,rfl⟩;refine jg (λσ' h'=> ∃z:Int,σ'= [some (.lst p),some (.int m),none,none,some (.int z)]/\(0<=z/\z<2147483629)/\h=h') (λC hC=>⟨_,rfl,_,_,hp,rfl,by decide,.inr ⟨by decide,by decide⟩,by decide,hC _ _ ⟨_,rfl,⟨Z8 _ (by decide),G0l _ (by decide)⟩,rfl⟩⟩) ?_;rintro _ _ ⟨z,rfl,⟨z0,z1⟩,rfl⟩;refine jg (λσ' h'=> ∃y:Int,σ'= [some (.lst p),some (.int m),none,none,some (.int y)]/\h=h') (λC hC=>⟨_,rfl,_,rfl,.inl ⟨Int.lt_of_lt_of_le (by decide) z0,Int.lt_trans z1 (by decide)⟩,by decide,hC _ _ ⟨_,rfl,rfl⟩⟩) ?_;rintro _ _ ⟨y,rfl,rfl⟩;refine jg (λσ' h'=> ∃x:Int,σ'= [some (.lst p),some (.int m),none,none,some (.int y)]/\0<=x/\h'=zN h p [.int x,.int fl]) (λC hC=>⟨_,rfl,.inr ⟨by decide,by decide⟩,by decide,_,rfl,p,0,_,0,rfl,rfl,hp,rfl,hC _ _ ⟨_,rfl,Z8 _ (by decide),rfl⟩⟩) ?_;rintro _ _ ⟨x,rfl,x0,rfl⟩;exact⟨_,rfl,_,_,jc,rfl,⟨by decide,by decide⟩,_,rfl,hm,_,Sub.refl _,q (x / 32%m) x (Z8 _ (Int.ne_of_gt hm)) (G0l _ hm) x0⟩
def Wq:RDn:=λds h Q=> ∃p l fl,ds= [.lst p]/\h p=some [.int l,.int fl]/\0<=l/\ ∀ (k:Nat) l',1<=k->k<=6->0<=l'->Q (.int (k:Int)) (zN h p [.int l',.int fl])
theorem Qm (Z:Zs mg)(F:Fun K "_law_size" "_law_size" JK f fd)(jN:ju P w K mg base n "_law_draw" ["_law_pen_here","_law_many"] zc):FnOk P w K mg base CX0 (n+1) f fd ["_law_pen_here"] (LSp K Wq):=by
 obtain⟨zZ,zE,jw,jn,jp,jq⟩:=jN;refine F.okJ Qf (λds h Q q=>by obtain⟨p,l,fl,e,hp,h0,q⟩:=q;subst e;rfl) _ (λcdv A outer s H E hr=>(jh (wY (jix (VZ (jac jE (by exact(jac jE (by exact(jac jE (by exact(jac jE (by exact(jac jE (by exact(jac jE (by exact(jac jE (by exact(jac jE (by exact(jac jE (by exact(jac jE (by exact(jac jE (by exact(jac jE jd)))))))))))))))))))))))) (jy jw hr rfl jq jp jn (jac (jv 0) (by exact(jac jE jd)))) (λ_ _=>rfl))))) ?_;intro ds h Q q;obtain⟨p,l,fl,e,hp,h0,q⟩:=q;subst e;simp only [BO,dOp,Ap,wC,dC,WE,D8,M8,dCB,BK,va,T5,V0,E1,B2,L0,J9,ixD,BR,Q8];refine⟨by decide,λp1 e1=>⟨p,l,fl,12,rfl,jk hp e1,h0,by decide,by decide,λr l' r0 r1 l0=> ?_⟩⟩;obtain⟨d,hd,ed⟩:=WX (xs:= [D.int 1,D.int 2,D.int 3,D.int 4,D.int 5,D.int 3,D.int 4,D.int 2,D.int 6,D.int 5,D.int 4,D.int 3]) r0 r1;refine⟨_,d,jj (jC hp e1) jc,ed,_,Sub.both (Sub.newAt (Sub.refl h) e1),?_⟩;have q': ∀k:Nat,1<=k->k<=6->Q (.int (k:Int)) (zN h p [.int l',.int fl]):=λk a b=>q k l' a b l0
 simp only [D3,M0,U0] at hd;rcases hd with e|e|e|e|e|e|e|e|e|e|e|e<;>subst e
 ·exact q' 1 (by decide) (by decide)
 ·exact q' 2 (by decide) (by decide)
 ·exact q' 3 (by decide) (by decide)
 ·exact q' 4 (by decide) (by decide)
 ·exact q' 5 (by decide) (by decide)
 ·exact q' 3 (by decide) (by decide)
 ·exact q' 4 (by decide) (by decide)
 ·exact q' 2 (by decide) (by decide)
 ·exact q' 6 (by decide) (by decide)
 ·exact q' 5 (by decide) (by decide)
 ·exact q' 4 (by decide) (by decide)
 ·exact q' 3 (by decide) (by decide)
def Zp:RDn:=λds h Q=> ∃p l fl,∃k:Nat,ds= [.lst p,.int (k:Int)]/\h p=some [.int l,.int fl]/\0<=l/\1<=k/\k<=6/\ ∀T l',GoodTab k T->0<=l'->Q (zH T) (zN h p [.int l',.int fl])
theorem UI (Z:Zs mg)(F:Fun K "_law_table" "_law_table" vE f fd)(jN:ju P w K mg base n "_law_draw" ["_law_pen_here","_law_many"] zc):FnOk P w K mg base CX0 (n+1) f fd ["_law_pen_here","_law_size_here"] (LSp K Zp):=by
 obtain⟨zZ,zE,jw,jn,jp,jq⟩:=jN;refine F.okJ jI (λds h Q q=>by obtain⟨p,l,fl,k,e,hp,h0,hk1,hk6,q⟩:=q;subst e;rfl) _ (λcdv A outer s H E hr=>(je (HL (i:=2) (j:=3) rfl jI.nd rfl rfl (by decide) rfl rfl (jac (jy jw hr rfl jq jp jn (jac (jv 0) (by exact(jac jE jd)))) (by exact(jac (jix (VZ (jac jE (by exact(jac jE (by exact(jac jE jd)))))) (jy jw hr rfl jq jp jn (jac (jv 0) (by exact(jac jE jd)))) (λ_ _=>rfl)) jd))) rfl) (by exact(je (yN (i:=4) jI.nd rfl (Or.inl rfl) (jix (VZ (jac jE (by exact(jac jE (by exact(jac jE (by exact(jac (jop Fy jE jE) jd)))))))) (jy jw hr rfl jq jp jn (jac (jv 0) (by exact(jac jE jd)))) (λ_ _=>rfl))) (by exact(je (yN (i:=5) jI.nd rfl (Or.inl rfl) (VZ jd)) (by exact(je (Gb T6 rfl (yG rfl Z.range (jac (jv 1) jd)) (zK (i:=6) jI.nd rfl (Or.inl rfl)) (je (yN (i:=7) jI.nd rfl (Or.inl rfl) (VZ jd)) (by exact(je (Gb T6 rfl (yG rfl Z.range (jac (jv 1) jd)) (zK (i:=8) jI.nd rfl (Or.inl rfl)) (je (yN (i:=9) jI.nd rfl (Or.inl rfl) (XC oq_eq (jy jw hr rfl jq jp jn (jac (jv 0) (by exact(jac (jv 3) jd)))) jE (jF _))) (by exact(je (ZK (wN LY (jv 2) jE (jF _)) (jh (yN (i:=9) jI.nd rfl (Or.inl rfl) (jor (XC oq_eq (jv 8) (jop vb (jop zT (jv 6) jE) (jv 1)) (jF _)) (Mh (FB (jv 9) (Mh (XC (Vs hr.units) (jy jw hr rfl jq jp jn (jac (jv 0) (by exact(jac jE jd)))) (jv 2) (jF _)))))))) jW) (by exact(je (ZK (wN oq_eq (jv 2) jE (jF _)) (jh (yN (i:=9) jI.nd rfl (Or.inl rfl) (jor (FB (jv 9) (Mh (XC oq_eq (jop vb (jop Xv (jv 8) (jv 6)) jE) jE (jF _)))) (Mh (XC (Vs hr.units) (jv 8) (jop zT (jv 6) jE) (jF _)))))) jW) (by exact(je (ZK (wN oq_eq (jv 2) jE (jF _)) (jh (yN (i:=9) jI.nd rfl (Or.inl rfl) (FB (jv 9) (Mh (XC LZ (jv 8) (jv 6) (jF _)))))) jW) (by exact(jh (yM (At (jv 7) (jop WW (wD RR rfl Z.int (by decide +kernel) (jac (jv 9) jd)) (jop zT jE (jy jw hr rfl jq jp jn (jac (jv 0) (by exact(jac (jv 4) jd)))))))))))))))))) (by exact(jh (yM (At (jv 5) (wD cq_tuple rfl Z.tuple (by decide +kernel) (jac (jv 7) jd)))))))))) (by exact(jh (wY (wD cq_tuple rfl Z.tuple (by decide +kernel) (jac (jv 5) jd))))))))))))) ?_;intro ds h Q q;obtain⟨p,l,fl,k,e,hp,h0,hk1,hk6,q⟩:=q;subst e;refine jg (λσ' h'=> ∃way o l2,σ'= [some (.lst p),some (.int (k:Int)),some (.int way),some (.int o),none,none,none,none,none,none]/\0<o/\o<1000/\0<=l2/\h' p=some [.int l2,.int fl]/\But p h h') (λC hC=>⟨_,rfl,p,l,fl,6,rfl,hp,h0,by decide,by decide,λway l1 w0 w1 l10=>⟨(by show 3<=sizeLine;decide),λp1 e1=>⟨_,rfl,p,l1,fl,3,rfl,jk jc e1,l10,by decide,by decide,λr l2 r0 r1 l20=> ?_⟩⟩⟩) ?_
 ·obtain⟨oft,ho,eo⟩:=WX (xs:= [D.int 2,D.int 3,D.int 5]) r0 r1;obtain⟨o,e,o1,o2⟩: ∃o:Int,oft= .int o/\0<o/\o<1000:=by
   simp only [D3,M0,U0] at ho;rcases ho with e|e|e<;>exact⟨_,e,by decide,by decide⟩
  subst e;exact⟨_,_,jj (jC jc e1) jc,eo,_,_,rfl,hC _ _ ⟨way,o,l2,rfl,o1,o2,l20,jc,((But.upd).new e1).put⟩⟩
 rintro _ h1 ⟨way,o,l2,rfl,o1,o2,l20,kA,bA⟩;refine jg (λσ' h'=> ∃m l3,σ'= [some (.lst p),some (.int (k:Int)),some (.int way),some (.int o),some (.int m),none,none,none,none,none]/\0<m/\m<=1000000/\0<=l3/\h' p=some [.int l3,.int fl]/\But p h h') (λC hC=>⟨⟨by decide,by decide,by decide⟩,(by show 4<=sizeLine;decide),λp1 e1=>⟨_,rfl,p,l2,fl,4,rfl,jk kA e1,l20,by decide,by decide,λr l3 r0 r1 l30=> ?_⟩⟩) ?_
 ·obtain⟨most,ho,eo⟩:=WX (xs:= [D.int 1,D.int 1,D.int 3,D.int (10^Int.toNat 6)]) r0 r1;obtain⟨m,e,m1,m2⟩: ∃o:Int,most= .int o/\0<o/\o<=1000000:=by
   simp only [D3,M0,U0] at ho;rcases ho with e|e|e|e<;>exact⟨_,e,by decide,by decide⟩
  subst e;exact⟨_,_,jj (jC kA e1) jc,eo,hC _ _ ⟨m,l3,rfl,m1,m2,l30,jc,(bA.new e1).put⟩⟩
 clear kA bA;rintro _ h2 ⟨m,l3,rfl,m1,m2,l30,kB,bB⟩;refine jg (λσ' h'=> ∃R,σ'= [some (.lst p),some (.int (k:Int)),some (.int way),some (.int o),some (.int m),some (.lst R),none,none,none,none]/\R≠p/\h R=none/\h' R=some []/\h' p=some [.int l3,.int fl]/\But p h h') (λC hC=>⟨(by show 0<=sizeLine;decide),λR eR=>hC _ _ ⟨R,rfl,jC kB eR,VX bB eR (jC kB eR),jc,jk kB eR,bB.new eR⟩⟩) ?_;clear kB bB;rintro _ h3 ⟨R,rfl,nR,fR,kR,kC,bC⟩;refine jg (λσ' h'=> ∃a b c d l4 rows,σ'= [some (.lst p),some (.int (k:Int)),some (.int way),some (.int o),some (.int m),some (.lst R),a,b,c,d]/\0<=l4/\h' p=some [.int l4,.int fl]/\h' R=some (rows.map Gc)/\But p h h'/\GoodTab k rows) (λC hC=> ?_) (λσ' h' ⟨a,b,c,d,l4,rows,e,l40,kD,kE,bD,g⟩=>by subst e;exact⟨_,rfl,_,kE,_,bD.sub kD,q rows l4 g l40⟩);refine yq k (λi σ' h'=> ∃a b c d l4 rows,σ'= [some (.lst p),some (.int (k:Int)),some (.int way),some (.int o),some (.int m),some (.lst R),a,b,c,d]/\0<=l4/\h' p=some [.int l4,.int fl]/\h' R=some (rows.map Gc)/\But p h h'/\rows.length=i/\ ∀r∈rows,Jx k r) (by omega) (λR' r=>⟨_,rfl,r⟩)
  ⟨none,none,none,none,l3,[],rfl,l30,kC,kR,bC,rfl,λr hr=>nomatch hr⟩ (λσ' h' z=>hC _ _ z) ?_
 clear kC kR bC;rintro i _ h4 hi ⟨a,b,c,d,l4,rows,rfl,l40,kD,kE,bD,g1,g2⟩;refine jg (λσ' h'=> ∃S,σ'= [some (.lst p),some (.int (k:Int)),some (.int way),some (.int o),some (.int m),some (.lst R),some (.int (i:Int)),some (.lst S),c,d]/\S≠p/\S≠R/\h S=none/\h' S=some []/\h' p=some [.int l4,.int fl]/\h' R=some (rows.map Gc)/\But p h h') (λC hC=>⟨(by show 0<=sizeLine;decide),λS eS=>hC _ _ ⟨S,rfl,jC kD eS,jC kE eS,VX bD eS (jC kD eS),jc,jk kD eS,jk kE eS,bD.new eS⟩⟩) ?_;clear kD kE bD;rintro _ h5 ⟨S,rfl,nS,nSR,fS,kS,kD,kE,bD⟩;refine jg (λσ' h'=> ∃c d l5 row,σ'= [some (.lst p),some (.int (k:Int)),some (.int way),some (.int o),some (.int m),some (.lst R),some (.int (i:Int)),some (.lst S),c,d]/\0<=l5/\h' p=some [.int l5,.int fl]/\h' R=some (rows.map Gc)/\h' S=some (row.map D.int)/\But p h h'/\Jx k row) (λC hC=> ?_) ?_
 rotate_left
 ·rintro _ h6 ⟨c,d,l5,row,rfl,l50,kD,kE,kF,bD,g⟩;refine⟨_,rfl,R,rfl,_,rfl,_,kF,_,kE,?_,_,Sub.refl _,by omega,_,_,_,_,l5,rows++ [row],rfl,l50,jj (Ne.symm nR) kD,?_,bD.putNew fR,by rw [G7,g1];rfl,?_⟩
  ·rw [G2];exact N5 (show rows.length<=1000 by omega) (by decide)
  ·rw [jc,R9];rfl
  ·intro r hr;rcases D0.mp hr with z|z
   ·exact g2 r z
   ·rw [G3.mp z];exact g
 refine yq k (λj σ' h'=> ∃c d l5 row,σ'= [some (.lst p),some (.int (k:Int)),some (.int way),some (.int o),some (.int m),some (.lst R),some (.int (i:Int)),some (.lst S),c,d]/\0<=l5/\h' p=some [.int l5,.int fl]/\h' R=some (rows.map Gc)/\h' S=some (row.map D.int)/\But p h h'/\row.length=j/\ ∀x∈row,0<=x/\x<=1000000) (by omega) (λR' r=>⟨_,rfl,r⟩)
  ⟨_,_,l4,[],rfl,l40,kD,kE,kS,bD,rfl,λr hr=>nomatch hr⟩ (λσ' h' z=>hC _ _ z) ?_
 clear kD kE kS bD;rintro j _ h6 hj ⟨c,d,l5,row,rfl,l50,kD,kE,kF,bD,g1',g2'⟩;refine jg (λσ' h'=> ∃ (g:Bool) (l6:Int),σ'= [some (.lst p),some (.int (k:Int)),some (.int way),some (.int o),some (.int m),some (.lst R),some (.int (i:Int)),some (.lst S),some (.int (j:Int)),some (.bl g)]/\0<=l6/\h' p=some [.int l6,.int fl]/\h' R=some (rows.map Gc)/\h' S=some (row.map D.int)/\But p h h') (λC hC=>⟨_,rfl,_,rfl,p,l5,fl,o,rfl,kD,l50,o1,by omega,λr l6 r0 r1 l60=>hC _ _ ⟨_,l6,rfl,l60,jc,jj nR kE,jj nS kF,bD.put⟩⟩) ?_;clear kD kE kF bD;rintro _ _ ⟨g,l6,rfl,l60,kD,kE,kF,bD⟩;refine jg (λσ' h'=> ∃ (g:Bool) (l6:Int),σ'= [some (.lst p),some (.int (k:Int)),some (.int way),some (.int o),some (.int m),some (.lst R),some (.int (i:Int)),some (.lst S),some (.int (j:Int)),some (.bl g)]/\0<=l6/\h' p=some [.int l6,.int fl]/\h' R=some (rows.map Gc)/\h' S=some (row.map D.int)/\But p h h') (λC hC=>⟨_,rfl,_,rfl,Ga (λ_=>⟨_,rfl,_,rfl,_,rfl,by omega,_,rfl,Ga (λ_=>hC _ _ ⟨_,l6,rfl,l60,kD,kE,kF,bD⟩) λ_=>⟨_,rfl,_,rfl,Ga (λ_=>⟨_,rfl,p,l6,fl,2,rfl,kD,l60,by decide,by decide,λr l7 r0 r1 l70=>⟨_,rfl,hC _ _ ⟨_,l7,rfl,l70,jc,jj nR kE,jj nS kF,bD.put⟩⟩⟩) λ_=>hC _ _ ⟨_,l6,rfl,l60,kD,kE,kF,bD⟩⟩⟩) λ_=>hC _ _ ⟨_,l6,rfl,l60,kD,kE,kF,bD⟩⟩) ?_;clear kD kE kF bD;rintro _ _ ⟨g,l6,rfl,l60,kD,kE,kF,bD⟩;refine jg (λσ' h'=> ∃ (g:Bool) (l6:Int),σ'= [some (.lst p),some (.int (k:Int)),some (.int way),some (.int o),some (.int m),some (.lst R),some (.int (i:Int)),some (.lst S),some (.int (j:Int)),some (.bl g)]/\0<=l6/\h' p=some [.int l6,.int fl]/\h' R=some (rows.map Gc)/\h' S=some (row.map D.int)/\But p h h') (λC hC=>⟨_,rfl,_,rfl,Ga (λ_=>⟨_,rfl,_,rfl,Ga (λ_=>⟨_,rfl,_,rfl,by decide,_,rfl,Ga (λ_=>hC _ _ ⟨_,l6,rfl,l60,kD,kE,kF,bD⟩) λ_=>⟨_,rfl,_,rfl,hC _ _ ⟨_,l6,rfl,l60,kD,kE,kF,bD⟩⟩⟩) λ_=>⟨_,rfl,Ga (λ_=>hC _ _ ⟨_,l6,rfl,l60,kD,kE,kF,bD⟩) λ_=>⟨_,rfl,_,rfl,hC _ _ ⟨_,l6,rfl,l60,kD,kE,kF,bD⟩⟩⟩⟩) λ_=>hC _ _ ⟨_,l6,rfl,l60,kD,kE,kF,bD⟩⟩) ?_;clear kD kE kF bD;rintro _ _ ⟨g,l6,rfl,l60,kD,kE,kF,bD⟩;refine jg (λσ' h'=> ∃ (g:Bool) (l6:Int),σ'= [some (.lst p),some (.int (k:Int)),some (.int way),some (.int o),some (.int m),some (.lst R),some (.int (i:Int)),some (.lst S),some (.int (j:Int)),some (.bl g)]/\0<=l6/\h' p=some [.int l6,.int fl]/\h' R=some (rows.map Gc)/\h' S=some (row.map D.int)/\But p h h') (λC hC=>⟨_,rfl,_,rfl,Ga (λ_=>⟨_,rfl,_,rfl,Ga (λ_=>⟨_,rfl,_,rfl,hC _ _ ⟨_,l6,rfl,l60,kD,kE,kF,bD⟩⟩) λ_=>hC _ _ ⟨_,l6,rfl,l60,kD,kE,kF,bD⟩⟩) λ_=>hC _ _ ⟨_,l6,rfl,l60,kD,kE,kF,bD⟩⟩) ?_;clear kD kE kF bD;rintro _ _ ⟨g,l6,rfl,l60,kD,kE,kF,bD⟩;have gi: ∀x r:Int,0<=r->r<m->x=0\/x=1->CMul x (1+r)/\0<=x*(1+r)/\x*(1+r)<=1000000:=λx r r0 r1 hx=>by
  rcases hx with e|e<;>subst e
  ·exact⟨.inl ⟨by decide,by decide⟩,by omega,by omega⟩
  ·exact⟨.inl ⟨by decide,by decide⟩,by omega,by omega⟩
 refine⟨_,rfl,S,rfl,_,rfl,_,rfl,_,rfl,p,l6,fl,m,rfl,kD,l60,m1,by omega,λr l7 r0 r1 l70=> ?_⟩;have gg:=gi (if g=true then 1 else 0) r r0 r1 (by cases g<;>decide);refine⟨gg.1,_,jj nS kF,?_,_,Sub.refl _,by omega,_,_,l7,row++ [(if g=true then 1 else 0)*(1+r)],rfl,l70,jj (Ne.symm nS) jc,jj (Ne.symm nSR) (jj nR kE),?_,(bD.put).putNew fS,by rw [G7,g1'];rfl,?_⟩
 ·rw [G2];exact N5 (show row.length<=1000 by omega) (by decide)
 ·rw [jc,R9];rfl
 ·intro x hx;rcases D0.mp hx with z|z
  ·exact g2' x z
  ·rw [G3.mp z];exact gg.2
def Zq:RDn:=λds h Q=> ∃p l fl,∃k:Nat,ds= [.lst p,.int (k:Int)]/\h p=some [.int l,.int fl]/\0<=l/\k<=6/\ ∀o l',Ordr k o->0<=l'->Q (jJ o) (zN h p [.int l',.int fl])
theorem UJ (Z:Zs mg)(F:Fun K "_law_order" "_law_order" vF f fd)(jN:ju P w K mg base n "_law_draw" ["_law_pen_here","_law_many"] zc):FnOk P w K mg base CX0 (n+1) f fd ["_law_pen_here","_law_many"] (LSp K Zq):=by
 obtain⟨zZ,zE,jw,jn,jp,jq⟩:=jN;refine F.okJ yY (λds h Q q=>by obtain⟨p,l,fl,k,e,hp,h0,hk,q⟩:=q;subst e;rfl) _ (λcdv A outer s H E hr=>(je (yN (i:=2) yY.nd rfl (Or.inl rfl) (VZ jd)) (by exact(je (Gb T6 rfl (yG rfl Z.range (jac (jv 1) jd)) (zK (i:=3) yY.nd rfl (Or.inl rfl)) (jh (yM (kX (jv 2) (jy jw hr rfl jq jp jn (jac (jv 0) (by exact(jac (jop zT (jv 3) jE) jd)))) (jv 3))))) (by exact(jh (wY (wD cq_tuple rfl Z.tuple (by decide +kernel) (jac (jv 2) jd))))))))) ?_;intro ds h Q q;obtain⟨p,l,fl,k,e,hp,h0,hk,q⟩:=q;subst e;refine jg (λσ' h'=> ∃R,σ'= [some (.lst p),some (.int (k:Int)),some (.lst R),none]/\R≠p/\h R=none/\h' R=some []/\h' p=some [.int l,.int fl]/\But p h h') (λC hC=> ?_) ?_
 ·exact⟨(by show 0<=sizeLine;decide),λR eR=>hC _ _ ⟨R,rfl,jC hp eR,eR,jc,jk hp eR,(But.refl p h).new eR⟩⟩
 rintro σ' h1 ⟨R,rfl,nR,fR,kR,kp,bt⟩;refine jg (λσ' h'=> ∃a l2 o,σ'= [some (.lst p),some (.int (k:Int)),some (.lst R),a]/\0<=l2/\Ordr k o/\h' R=some (o.map λ(i:Nat)=>D.int (i:Int))/\h' p=some [.int l2,.int fl]/\But p h h') (λC hC=> ?_) ?_
 ·refine yq k (λi σ' h'=> ∃a l2 o,σ'= [some (.lst p),some (.int (k:Int)),some (.lst R),a]/\0<=l2/\Ordr i o/\h' R=some (o.map λ(i:Nat)=>D.int (i:Int))/\h' p=some [.int l2,.int fl]/\But p h h') (by omega) (λR' r=>⟨_,rfl,r⟩) ⟨none,l,[],rfl,h0,List.Perm.nil,kR,kp,bt⟩ (λσ' h' z=>hC _ _ z) ?_;rintro i _ h2 hi ⟨a,l2,o,rfl,l20,ho,kR2,kp2,bt2⟩;refine⟨_,rfl,R,rfl,_,rfl,_,rfl,p,l2,fl,(i:Int)+1,rfl,kp2,l20,by omega,by omega,λr l3 r0 r1 l30=> ?_⟩;have lo:o.length=i:=ho.ord.len;refine⟨_,rfl,r.toNat,_,by rw [K3 r0],by omega,jj nR kR2,?_,_,Sub.refl _,by omega,_,l3,o.take r.toNat++i::o.drop r.toNat,rfl,l30,ho.insert r.toNat,?_,jj (Ne.symm nR) jc,(bt2.put).putNew fR⟩
  ·rw [G2];exact N5 (show o.length<=1000 by omega) (by decide)
  ·rw [jc,R9,T5,List.map_take,G1m]
 rintro _ h3 ⟨a,l2,o,rfl,l20,ho,kR3,kp3,bt3⟩;exact⟨_,rfl,_,kR3,_,bt3.sub kp3,q o l2 ho l20⟩
def yn:RDn:=λds h Q=> ∃p l fl,∃k:Nat,ds= [.lst p,.int (k:Int)]/\h p=some [.int l,.int fl]/\0<=l/\1<=k/\k<=6/\ ∀T l',GoodTab k T->(∃K,1<=K/\YO (XF k T K)=true)->0<=l'->Q (zH T) (zN h p [.int l',.int fl])
theorem Zr (Z:Zs mg)(F:Fun K "_law_good_table" "_law_good_table" wf f fd)(Qo:ju P w K mg base n "_law_order" ["_law_pen_here","_law_many"] Zq)(jN:ju P w K mg base n "_law_draw" ["_law_pen_here","_law_many"] zc):FnOk P w K mg base CX0 (n+1) f fd ["_law_pen_here","_law_size_here"] (LSp K yn):=by
 obtain⟨Bl,Ba,Qt,UQ,UZ,Xd⟩:=Qo;obtain⟨zZ,zE,jw,jn,jp,jq⟩:=jN;refine F.okJ jB (λds h Q q=>by obtain⟨p,l,fl,k,e,hp,h0,hk1,hk6,q⟩:=q;subst e;rfl) _ (λcdv A outer s H E hr=>(je (yN (i:=2) jB.nd rfl (Or.inl rfl) (jy Qt hr rfl Xd UZ UQ (jac (jv 0) (by exact(jac (jv 1) jd))))) (by exact(je (yN (i:=3) jB.nd rfl (by first|exact Or.inr rfl|exact Or.inl rfl) (jix (VZ (jac jE (by exact(jac jE (by exact(jac jE jd)))))) (jy jw hr rfl jq jp jn (jac (jv 0) (by exact(jac jE jd)))) (λ_ _=>rfl))) (by exact(je (Pt (i:=8) (k:=4) (js:= [8]) rfl jB.nd rfl (Or.inl rfl) (ji (by rfl)) (yG rfl Z.range (jac (jv 1) jd)) (by decide) rfl (by first|exact Or.inl rfl|exact Or.inr rfl) (λX' hX=>jQ) (λX' hX=>by obtain⟨C,s₀,H₀,ex,rfl⟩:=hX;exact(jlc (i:=9) (js:= [9]) rfl (ji (by rfl)) (yG rfl Z.range (jac (jv 1) jd)) (by decide) jB.nd rfl (by first|exact Or.inl rfl|exact Or.inr rfl) (λX' hX=>jQ) (λX' hX=>by obtain⟨C,s₀,H₀,ex,rfl⟩:=hX;exact(wD RR rfl Z.int (by decide +kernel) (jac (XC oq_eq (jy jw hr rfl jq jp jn (jac (jv 0) (by exact(jac (jv 3) jd)))) jE (jF _)) jd)))))) (by exact(je (Gb T6 rfl (yG rfl Z.range (jac (jv 1) jd)) (zK (i:=5) jB.nd rfl (Or.inl rfl)) (je (HL (i:=6) (j:=7) rfl jB.nd rfl rfl (by decide) rfl rfl (jac (jix (jv 2) (jv 5) (λ_ _=>rfl)) (by exact(jac (jix (jv 2) (jop vb (jop zT (jv 5) jE) (jv 1)) (λ_ _=>rfl)) jd))) rfl) (by exact(jh (As (jop zT jE (jy jw hr rfl jq jp jn (jac (jv 0) (by exact(jac jE jd))))) (XD (jix (jv 4) (jv 6) (λ_ _=>rfl)) (jv 7))))))) (by exact(je (As jE (XD (jix (jv 4) (jix (jv 2) (So jE) (λ_ _=>rfl)) (λ_ _=>rfl)) (jix (jv 2) (jix (VZ (jac (jop vb jE (jv 1)) (by exact(jac (jop Xv (jv 1) jE) jd)))) (jy jw hr rfl jq jp jn (jac (jv 0) (by exact(jac jE jd)))) (λ_ _=>rfl)) (λ_ _=>rfl)))) (by exact(jh (wY (wD Xw rfl Z.tuple (by decide +kernel) (jac (jlc (i:=10) (js:= [10]) rfl (ji (by rfl)) (wK (jv 4)) (by decide) jB.nd rfl (by first|exact Or.inl rfl|exact Or.inr rfl) (λX' hX=>jQ) (λX' hX=>by obtain⟨C,s₀,H₀,ex,rfl⟩:=hX;exact(wD cq_tuple rfl Z.tuple (by decide +kernel) (jac (jv 10) jd)))) jd))))))))))))))) ?_;intro ds h Q q;obtain⟨p,l,fl,k,e,hp,h0,hk1,hk6,q⟩:=q;subst e;refine jg (λσ' h'=> ∃o l2,σ'= [some (.lst p),some (.int (k:Int)),some (jJ o),none,none,none,none,none,none,none,none]/\Ordr k o/\0<=l2/\h' p=some [.int l2,.int fl]/\But p h h') (λC hC=>⟨_,rfl,_,rfl,p,l,fl,k,rfl,hp,h0,hk6,λo l2 ho l20=>hC _ _ ⟨o,l2,rfl,ho,l20,jc,But.upd⟩⟩) ?_;rintro _ h1 ⟨o,l2,rfl,ho,l20,kp,bt⟩;refine jg (λσ' h'=> ∃oft l3,σ'= [some (.lst p),some (.int (k:Int)),some (jJ o),some (.int oft),none,none,none,none,none,none,none]/\0<oft/\oft<1000/\0<=l3/\h' p=some [.int l3,.int fl]/\But p h h') (λC hC=> ?_) ?_
 ·refine⟨(by show 3<=sizeLine;decide),λp1 e1=>⟨_,rfl,p,l2,fl,3,rfl,jk kp e1,l20,by decide,by decide,λr l3 r0 r1 l30=> ?_⟩⟩;obtain⟨oft,ho',eo⟩:=WX (xs:= [D.int 2,D.int 4,D.int 9]) r0 r1;refine⟨_,oft,jj (jC kp e1) jc,eo,?_⟩;obtain⟨x,rfl,x1,x2⟩: ∃x:Int,oft= .int x/\0<x/\x<1000:=by
   simp only [D3,M0,U0] at ho';rcases ho' with e|e|e<;>exact⟨_,e,by decide,by decide⟩
  exact hC _ _ ⟨x,l3,rfl,x1,x2,l30,jc,(bt.new e1).put⟩
 rintro _ h2 ⟨oft,l3,rfl,of1,of2,l30,kp,bt⟩;refine jg (λσ' h'=> ∃R rs l4,σ'= [some (.lst p),some (.int (k:Int)),some (jJ o),some (.int oft),some (.lst R),none,none,none,none,none,none]/\0<=l4/\h' p=some [.int l4,.int fl]/\But p h h'/\ ∃f,GQ k h h' p R rs f) (λC hC=> ?_) ?_
 ·refine XA (h1:=h2) k (λi ys h'=> ∃rs l4,ys=rs.map D.lst/\rs.length=i/\0<=l4/\h' p=some [.int l4,.int fl]/\But p h h'/\p ∉ rs/\rs.Nodup/\ ∀a∈rs,h a=none/\ ∃r,h' a=some (r.map D.int)/\Jx k r) (by omega) (λR r=>⟨_,rfl,r⟩) ⟨[],l3,rfl,rfl,l30,kp,bt,by simp,List.nodup_nil,by simp⟩ (λi ys h' ⟨rs,l4,e,el,_⟩=>by rw [e,G2];exact el) ?_ ?_
  ·rintro i ys h3 hi ⟨rs,l4,rfl,lrs,l40,kp3,bt3,nprs,nd3,rows3⟩;refine XA (h1:=h3) k (λj zs h'=> ∃r l5,zs=r.map D.int/\r.length=j/\(∀x∈r,0<=x/\x<=1000000)/\0<=l5/\h' p=some [.int l5,.int fl]/\But p h h'/\(∀a∈rs,∃r,h' a=some (r.map D.int)/\Jx k r)) (by omega) (λR r=>⟨_,rfl,r⟩) ⟨[],l4,rfl,rfl,by simp,l40,kp3,bt3,λa ha=>(rows3 a ha).2⟩ (λj zs h' ⟨r,l5,e,el,_⟩=>by rw [e,G2];exact el) ?_ ?_
   ·rintro j zs h4 hj ⟨r,l5,rfl,lr,gr,l50,kp4,bt4,rows4⟩;refine⟨_,rfl,_,rfl,p,l5,fl,oft,rfl,kp4,l50,of1,by omega,λx l6 x0 x1' l60=> ?_⟩;refine⟨_,Sub.refl _,by omega,r++ [if decide (x=1)=true then 1 else 0],l6,by rw [R9];rfl,by rw [G7,lr];rfl,?_,l60,jc,bt4.put,λa ha=> ?_⟩
    ·intro y hy;rcases D0.mp hy with z|z
     ·exact gr y z
     ·rw [G3.mp z];split<;>omega
    ·obtain⟨r',e',g'⟩:=rows4 a ha;exact⟨r',jj (λz=>nprs (z ▸ ha)) e',g'⟩
   ·rintro zs h4 ⟨r,l5,rfl,lr,gr,l50,kp4,bt4,rows4⟩ q4 e4;refine⟨_,Sub.refl _,by omega,rs++ [q4],l5,by rw [R9];rfl,by simp [lrs],l50,jk kp4 e4,bt4.new e4,?_,?_,λa ha=> ?_⟩
    rotate_left
    ·rw [X2];refine⟨nd3,by simp,λa ha b hb z=> ?_⟩;rw [G3.mp hb] at z;subst z;obtain⟨r',e',_⟩:=rows4 a ha;rw [e'] at e4;cases e4
    rotate_left
    ·intro z;rcases D0.mp z with y|y
     ·exact nprs y
     ·exact jC kp4 e4 (G3.mp y).symm
    ·rcases D0.mp ha with z|z
     ·obtain⟨r',e',g'⟩:=rows4 a z;exact⟨(rows3 a z).1,r',jk e' e4,g'⟩
     ·have:=G3.mp z;subst this;exact⟨VX bt4 e4 (jC kp4 e4),r,jc,lr,gr⟩
  ·rintro ys h3 ⟨rs,l4,rfl,lrs,l40,kp3,bt3,nprs,nd3,rows3⟩ R eR;refine hC _ _ ⟨R,rs,l4,rfl,l40,jk kp3 eR,bt3.new eR,GQ.of_grid ⟨jc,lrs,?_,VX bt3 eR (jC kp3 eR),nprs,jC kp3 eR,λa ha=>⟨(rows3 a ha).1,?_⟩⟩ nd3⟩
   ·intro hR;obtain⟨_,r,e',_⟩:=rows3 R hR;rw [e'] at eR;cases eR
   ·obtain⟨r,e',g'⟩:=(rows3 a ha).2;exact⟨r,jk e' eR,g'⟩
 rintro _ h3 ⟨R,rs,l4,rfl,l40,kp,bt,f0,g0⟩;refine jg (λσ' h'=> ∃a b c l5 f,σ'= [some (.lst p),some (.int (k:Int)),some (jJ o),some (.int oft),some (.lst R),a,b,c,none,none,none]/\0<=l5/\h' p=some [.int l5,.int fl]/\But p h h'/\GQ k h h' p R rs f/\(∀t,t<k->1<=f (o.getD t 0) (o.getD ((t+1)%k) 0))) (λC hC=> ?_) ?_
 ·refine yq k (λi σ' h'=> ∃a b c l5 f,σ'= [some (.lst p),some (.int (k:Int)),some (jJ o),some (.int oft),some (.lst R),a,b,c,none,none,none]/\0<=l5/\h' p=some [.int l5,.int fl]/\But p h h'/\GQ k h h' p R rs f/\(∀t,t<i->1<=f (o.getD t 0) (o.getD ((t+1)%k) 0))) (by omega) (λR r=>⟨_,rfl,r⟩) ⟨none,none,none,l4,f0,rfl,l40,kp,bt,g0,λt ht=>absurd ht (G0V _)⟩ (λσ' h' z=>hC _ _ z) ?_;rintro i _ h4 hi ⟨a,b,c,l5,f,rfl,l50,kp,bt,g,rg⟩;obtain⟨hy1,ey1⟩:=Zf ho hi;obtain⟨hy2,ey2⟩:=Zf ho (E2 (i+1) (by omega:0<k));have em:((i:Int)+1)%(k:Int)=(((i+1)%k:Nat):Int):=by rw [U3,G0Q];rfl
  rw [<-em] at ey2;refine jg (λσ' h'=>σ'= [some (.lst p),some (.int (k:Int)),some (jJ o),some (.int oft),some (.lst R),some (.int (i:Int)),some (.int ((o.getD i 0:Nat):Int)),some (.int ((o.getD ((i+1)%k) 0:Nat):Int)),none,none,none]/\h4=h') (λC2 hC2=> ?_) ?_
  ·exact⟨_,rfl,_,rfl,_,ey1,_,rfl,_,rfl,_,rfl,(by omega:(0:Int)<(k:Int)),_,ey2,_,_,rfl,hC2 _ _ ⟨rfl,rfl⟩⟩
  rintro _ _ ⟨rfl,rfl⟩;refine⟨_,rfl,p,l5,fl,3,rfl,kp,l50,by decide,by decide,λr l6 r0 r1 l60=> ?_⟩;have g2:=g.pen [.int l6,.int fl];obtain⟨a',ha',at',er',fa',na'⟩:=g2.pick hy1;refine⟨_,rfl,_,rfl,_,_,g2.at_,at',_,rfl,a',_,_,o.getD ((i+1)%k) 0,rfl,rfl,er',Gr (by rw [G2,T0];exact hy2),_,Sub.refl _,by omega,_,_,_,l6,_,rfl,l60,jj (Ne.symm na') jc,(bt.put).putNew fa',g2.put ha' (by omega) (by omega),λt ht=> ?_⟩;split
  ·omega
  ·rename_i z;refine rg t (E8 λw=>z ?_);have:t=i:=by omega
   subst this;exact⟨rfl,rfl⟩
 rintro _ h5 ⟨a,b,c,l5,f,rfl,l50,kp,bt,g,rg⟩;obtain⟨hz1,ez1⟩:=MP ho hk1;obtain⟨a1,ha1,at1,er1,fa1,na1⟩:=g.pick hz1;refine jg (λσ' h'=> ∃l6 f,σ'= [some (.lst p),some (.int (k:Int)),some (jJ o),some (.int oft),some (.lst R),a,b,c,none,none,none]/\0<=l6/\h' p=some [.int l6,.int fl]/\But p h h'/\GQ k h h' p R rs f/\(∀t,t<k->1<=f (o.getD t 0) (o.getD ((t+1)%k) 0))/\(1<=f (o.getD (k-1) 0) (o.getD (k-1) 0)\/1<=f (o.getD (k-1) 0) (o.getD (1%k) 0))) (λC hC=> ?_) ?_
 ·refine⟨_,rfl,_,rfl,_,ez1,_,_,g.at_,at1,_,rfl,_,rfl,(by omega:(0:Int)<(k:Int)),_,rfl,(by show 2<=sizeLine;decide),λq1 e1=>⟨_,rfl,p,l5,fl,2,rfl,jk kp e1,l50,by decide,by decide,λr l6 r0 r1' l60=> ?_⟩⟩;obtain⟨d,hd,ed⟩:=WX (xs:= [D.int ((1:Int)%(k:Int)),D.int ((k:Int)-1)]) r0 r1';obtain⟨w,rfl,hw,wc⟩: ∃w:Nat,d= .int (w:Int)/\w<k/\(w=k-1\/w=1%k):=by
   simp only [D3,M0,U0] at hd;rcases hd with e|e
   ·exact⟨1%k,by rw [e,U3];rfl,E2 _ (by omega),.inr rfl⟩
   ·exact⟨k-1,by rw [e];congr 1;omega,by omega,.inl rfl⟩
  obtain⟨hw2,ew2⟩:=Zf ho hw;have g':=(g.new e1 [D.int ((1:Int)%(k:Int)),D.int ((k:Int)-1)]).pen [.int l6,.int fl];have her:zN (zN h5 q1 [D.int ((1:Int)%(k:Int)),D.int ((k:Int)-1)]) p [.int l6,.int fl] a1=some ((List.range k).map λj=>D.int (f (o.getD (k-1) 0) j)):=jj na1 (jk er1 e1);refine⟨_,_,jj (jC kp e1) jc,ed,_,ew2,a1,_,_,o.getD w 0,rfl,rfl,her,Gr (by rw [G2,T0];exact hw2),hC _ _ ⟨l6,_,rfl,l60,jj (Ne.symm na1) jc,((bt.new e1).put).putNew fa1,g'.put ha1 (by decide) (by decide),λt ht=> ?_,?_⟩⟩
  ·split
   ·decide
   ·exact rg t ht
  ·rcases wc with rfl|rfl
   ·left;rw [if_pos ⟨rfl,rfl⟩];decide
   ·right;rw [if_pos ⟨rfl,rfl⟩];decide
 rintro _ h6 ⟨l6,f6,rfl,l60,kp,bt,g6,rg6,ch⟩;have gT:GoodTab k (mkT k f6):=GoodTab.of_mk g6.nn;have gl: ∀t,t<k->o.getD t 0<k:=λt ht=>(Zf ho ht).1
 have pr: ∃K,1<=K/\YO (XF k (mkT k f6) K)=true:=by
  refine Dw gT.sq (by omega) hk1 ho (λt ht=> ?_) ?_
  ·rw [Ze (gl t ht) (gl _ (E2 _ (by omega)))];have:=rg6 t ht;omega
  ·rcases ch with z|z
   ·left;rw [Ze (gl _ (by omega)) (gl _ (by omega))];omega
   ·right;rw [Ze (gl _ (by omega)) (gl _ (E2 _ (by omega)))];omega
 refine kZ (j:=λh=>h R) rs D.lst (λa=> .tup ((h6 a).getD [])) (by rw [g6.len];omega) g6.at_ (λR r=>⟨_,rfl,r⟩) (λa ha Q' q'=> ?_) ⟨_,bt.sub kp,?_⟩
 ·obtain⟨i,hi⟩:=J0 ha;have er:=(g6.row i a hi).2;rw [er] at q';exact⟨_,rfl,_,er,q'⟩
 ·rw [g6.tab,Sr];exact q _ l6 gT pr l60
variable {b:D->SD->SD->Prop}{js:List Nat}{ti:TID}{tt:TTD}{te:TED}{σ:SD}{h:HD}
theorem Kd {Q:KD}(x:yj b js ti tt te σ h λv h1=>dSS (λ_ h R=>R [v] h) σ h1 Q):dSS (wC (yj b js ti tt te) WE) σ h Q:=x
theorem Ad {ns ks:List Int}(h1:1<=ns.length)(h6:ns.length<=6)(b: ∀x∈ns,1<=x/\x<=12)(r:ks.Pairwise (· < ·))(m: ∀n,n∈ks↔n∈ns): ∃S,Lens S/\ks.map D.int=S.map λ(k:Nat)=>D.int (k:Int):=by
 have bk: ∀x∈ks,1<=x/\x<=12:=λx hx=>b x ((m x).mp hx)
 refine⟨ks.map Int.toNat,⟨?_,?_,?_,?_,?_⟩,?_⟩
 ·rw [A7];exact r.imp_of_mem λ{x y} hx hy z=>by have:=bk x hx;have:=bk y hy;omega
 ·intro l hl;obtain⟨x,hx,rfl⟩:=R5.mp hl;have:=bk x hx;omega
 ·intro l hl;obtain⟨x,hx,rfl⟩:=R5.mp hl;have:=bk x hx;omega
 ·rw [G2];cases ns with
  |nil=>simp at h1
  |cons x ns=>
   have:=(m x).mpr (P9 ..);exact G0N this
 ·rw [G2];exact D6 (HT.Jb (r.imp λz=>by omega) λn hn=>(m n).mp hn) h6
 ·rw [T3];refine T8 λx hx=> ?_
  have:=bk x hx;show D.int x=D.int ((x.toNat:Nat):Int);rw [K3 (by omega)]
def vH:RDn:=λds h Q=> ∃p l fl,ds= [.lst p]/\h p=some [.int l,.int fl]/\0<=l/\ ∀S l' h',Lens S->But p h h'->h' p=some [.int l',.int fl]->0<=l'->Q (jJ S) h'
theorem YB (Z:Zs mg)(F:Fun K "_law_lengths" "_law_lengths" yB f fd)(jN:ju P w K mg base n "_law_draw" ["_law_pen_here","_law_many"] zc):FnOk P w K mg base CX0 (n+1) f fd ["_law_pen_here"] (LSp K vH):=by
 obtain⟨zZ,zE,jw,jn,jp,jq⟩:=jN;refine F.okJ yi (λds h Q q=>by obtain⟨p,l,fl,e,hp,h0,q⟩:=q;subst e;rfl) _ (λcdv A outer s H E hr=>(je (yN (i:=1) yi.nd rfl (Or.inl rfl) (jss rfl rfl Z.sorted rfl Z.set (jac (jlc (i:=2) (js:= [2]) rfl (ji (by rfl)) (yG rfl Z.range (jac (jop zT jE (jy jw hr rfl jq jp jn (jac (jv 0) (by exact(jac jE jd))))) jd)) (by decide) yi.nd rfl (by first|exact Or.inl rfl|exact Or.inr rfl) (λX' hX=>jQ) (λX' hX=>by obtain⟨C,s₀,H₀,ex,rfl⟩:=hX;exact(jop zT jE (jy jw hr rfl jq jp jn (jac (jv 0) (by exact(jac jE jd))))))) jd))) (by exact(jh (wY (wD cq_tuple rfl Z.tuple (by decide +kernel) (jac (jv 1) jd))))))) ?_;intro ds h Q q;obtain⟨p,l,fl,e,hp,h0,q⟩:=q;subst e;refine jg (λσ' h'=> ∃B S l',σ'= [some (.lst p),some (.lst B),none]/\Lens S/\h' B=some (S.map λ(k:Nat)=>D.int (k:Int))/\But p h h'/\h' p=some [.int l',.int fl]/\0<=l') (λC hC=> ?_) ?_
 ·refine Kd (Oz (λn h1=>1<=n/\n<=6/\ ∃l',But p h h1/\h1 p=some [.int l',.int fl]/\0<=l') (λR r=>⟨_,rfl,p,l,fl,6,rfl,hp,h0,by decide,by decide,λx l' x0 x1 l0=> ?_⟩) ?_)
  ·have:=r (x.toNat+1) _ ⟨by omega,by omega,l',(But.refl p h).put,jc,l0⟩;rw [show ((x.toNat+1:Nat):Int)=1+x by omega] at this;exact this
  rintro n h1 ⟨n1,n6,l1,bt,kp,l10⟩;refine XA (h1:=h1) n (λk ys h'=> ∃ (ns:List Int) (l':Int),ys=ns.map D.int/\ns.length=k/\(∀x∈ns,1<=x/\x<=12)/\But p h h'/\h' p=some [.int l',.int fl]/\0<=l') (by omega) (λR r=>r) ⟨[],l1,rfl,rfl,by simp,bt,kp,l10⟩ (λk ys h' ⟨ns,_,e,z,_⟩=>by rw [e,G2];exact z) ?_ ?_
  ·clear bt kp;rintro k ys h2 hk ⟨ns,l2,rfl,ln,b,bt,kp,l20⟩;refine⟨_,rfl,p,l2,fl,12,rfl,kp,l20,by decide,by decide,λx l' x0 x1 l0=>⟨_,Sub.refl _,by omega,ns++ [1+x],l',by rw [R9];rfl,by rw [G7];simp [ln],λy hy=> ?_,bt.put,jc,l0⟩⟩;rcases D0.mp hy with z|z
   ·exact b y z
   ·rw [G3.mp z];omega
  ·clear bt kp;rintro ys h2 ⟨ns,l2,rfl,ln,b,bt,kp,l20⟩ p2 e2;refine⟨ns,.inr ⟨p2,rfl,jc⟩,by omega,λB ks eB r m=> ?_⟩;obtain⟨S,hS,e⟩:=Ad (by omega) (by omega) b r m;refine hC _ _ ⟨B,S,l2,rfl,hS,by rw [jc,e],(bt.new e2).new eB,jk (jk kp e2) eB,l20⟩
 rintro _ h1 ⟨B,S,l1,rfl,hS,kB,bt,kp,l10⟩;exact⟨_,rfl,_,kB,h1,Sub.refl _,q S l1 h1 hS bt kp l10⟩
variable {E:EndsD}
theorem Ae {k:Nat}(x:yj b js ti tt te σ h λv h1=>dSM (λ_ h R=>R [v] h) σ h1 λy h2=>Pq [y] h2 λd h3=>E.nx (σ.set k (some d)) h3):Bj k (dCB Pq (wC (dSM (wC (yj b js ti tt te) WE)) WE)) E σ h:=x
theorem Af {f:RD2}{d:D}{A B:TSD}(x:yj b js ti tt te σ h λv h1=>HQ [v] h1 λy h2=>f y d h2 λz h3=> ∃k,z= .bl k/\if k=true then A E σ h3 else B E σ h3):BP (Zc (dOp f (dCB HQ (wC (yj b js ti tt te) WE)) (dC d))) A B E σ h:=x
theorem Fa {ns ks:List Int}(b: ∀x∈ns,1<=x/\x<=6)(r:ks.Pairwise (· < ·))(m: ∀n,n∈ks↔n∈ns): ∃S:List Nat,(S≠ []->Lens S)/\(∀l∈S,((l:Nat):Int)∈ns/\l<=6)/\ks.map D.int=S.map λ(k:Nat)=>D.int (k:Int):=by
 have bk: ∀x∈ks,1<=x/\x<=6:=λx hx=>b x ((m x).mp hx)
 have bs: ∀l∈ks.map Int.toNat,1<=l/\l<=6/\((l:Nat):Int)∈ks:=λl hl=>by
  obtain⟨x,hx,rfl⟩:=R5.mp hl;have:=bk x hx;exact⟨by omega,by omega,by rw [K3 (by omega)];exact hx⟩
 refine⟨ks.map Int.toNat,λne=>⟨?_,λl hl=>(bs l hl).1,λl hl=>by have:=(bs l hl).2.1;omega,Z5.mpr ne,?_⟩,λl hl=>⟨(m _).mp (bs l hl).2.2,(bs l hl).2.1⟩,?_⟩
 ·rw [A7];exact r.imp_of_mem λ{x y} hx hy z=>by have:=bk x hx;have:=bk y hy;omega
 ·rw [G2];exact HT.Jb (ys:= [1,2,3,4,5,6]) (r.imp λz=>by omega) λn hn=>by
   have:=bk n hn;simp only [D3,M0,U0];omega
 ·rw [T3];refine T8 λx hx=> ?_
  have:=bk x hx;show D.int x=D.int ((x.toNat:Nat):Int);rw [K3 (by omega)]
/-- no number but 1 goes into all: none is left -/
theorem NQ (hS:Lens S)(h6: ∀l∈S,l<=6)(no: ∀d,2<=d->d<=6-> ¬ ∀l∈S,d∣l):S.foldl Nat.gcd 0=1:=by
 have dv:=(Ur S 0 (S.foldl Nat.gcd 0)).mp (Nat.dvd_refl _);obtain⟨l,hl⟩:=List.exists_mem_of_length_pos hS.some;have l1:=hS.lo l hl;have le:=Nat.le_of_dvd l1 (dv.2 l hl);have l6:=h6 l hl;have pos:S.foldl Nat.gcd 0≠0:=λz=>by rw [z] at dv;have:=G0C (dv.2 l hl);omega
 rcases Q4 (S.foldl Nat.gcd 0) 2 with z|z
 ·omega
 ·exact absurd dv.2 (no _ z (by omega))
theorem Fb (hS:Lens S)(h6: ∀l∈S,l<=6)(g1:S.foldl Nat.gcd 0=1){m:Int}(h:Tq S m):m<=36:=by
 obtain⟨a,_,_⟩:=h;rcases a with a|⟨k,rfl,hk⟩
 ·omega
 ·have no: ¬Made S k:=λz=>by rw [mkB_true.mpr z] at hk;cases hk
  cases S with
  |nil=>have:=hS.some;simp at this
  |cons f r=>
   have f6:=h6 f (P9 ..);have la:(f::r).getLast?.getD 0<=6:=by
    rw [G0k];show r.getLast?.getD f<=6;cases e:r.getLast? with
    |none=>exact f6
    |some x=>exact h6 x (D2 _ (G08 e))
   rcases Q4 36 k with z|z
   ·exact absurd (hS.from g1 (N5 (Nat.mul_le_mul f6 la) z)) no
   ·omega
def yc:RDn:=λds h Q=> ∃T A,∃n e p:Nat,ds= [zH T,.int (p:Int),.lst A]/\Sq n e T/\1<=n/\n<=6/\p<n/\h A=some ((rounds T n).map jJ)/\Q (.bl true) h
theorem JM (Z:Zs mg)(F:Fun K "_law_place_right" "_law_place_right" zU f fd)(Qr:ju P w K mg base n "walks_many" ["table","one","other","k"] Zn)(YC:ju P w K mg base n "made_by" ["lengths","number"] ZX)(UM:ju P w K mg base n "last_unmade" ["lengths"] Jn):FnOk P w K mg base CX0 (n+1) f fd ["_law_table_here","_law_place","_law_rounds"] (LSp K yc):=by
 obtain⟨Bp,Bd,Wr,Zx,ZD,ZG⟩:=Qr;obtain⟨Pe,QN,Zv,Jc,Jd,Je⟩:=YC;obtain⟨NZ,Rj,UP,Vb,Vg,Vi⟩:=UM;refine F.okJ jA (λds h Q q=>by obtain⟨T,A,n,b,p,e,hT,n1,n6,hp,kA,q⟩:=q;subst e;rfl) _ (λcdv A outer s H E hr=>(je (yN (i:=3) jA.nd rfl (by first|exact Or.inr rfl|exact Or.inl rfl) (wD cq_tuple rfl Z.tuple (by decide +kernel) (jac (jsm rfl rfl Z.sorted rfl Z.set (jac (jlc (i:=6) (js:= [6]) rfl (ji (by rfl)) (wK (jv 2)) (by decide) jA.nd rfl (by first|exact Or.inl rfl|exact Or.inr rfl) (λX' hX=>by obtain⟨C,s₀,H₀,ex,rfl⟩:=hX;exact vt (wN (HN hr.units) (jv 1) (jv 6) (by with_unfolding_all rfl))) (λX' hX=>by obtain⟨C,s₀,H₀,ex,rfl⟩:=hX;exact(jP yk rfl Z.len C0 (jac (jv 6) jd)))) jd)) jd))) (by exact(je (ZK (wN (Vs hr.units) (jv 3) (HK jd) (jF _)) (jh (wY jbl)) jW) (by exact(je (Gb T6 rfl (yG rfl Z.range (jac jE jd)) (zK (i:=4) jA.nd rfl (Or.inl rfl)) (jh (ZK (jpt (Mg (yr (jy Zv hr rfl Je Jd Jc (jac (jv 3) (by exact(jac (jv 4) jd))))) (Mf (wN oq_eq (jy Wr hr rfl ZG ZD Zx (jac (jv 0) (by exact(jac (jv 1) (by exact(jac (jv 1) (by exact(jac (jv 4) jd)))))))) jE (jF _))))) (jh (wY jbl)) jW))) (by exact(je (ZK (wN BS (jP (ME rfl) rfl Z.max (by decide +kernel) (jac (jlc (i:=7) (js:= [7]) rfl (ji (by rfl)) (Oq rfl Z.range (jac jE (by exact(jac jE jd)))) (by decide) jA.nd rfl (by first|exact Or.inl rfl|exact Or.inr rfl) (λX' hX=>by obtain⟨C,s₀,H₀,ex,rfl⟩:=hX;exact vt (yr (jP (Wj rfl) rfl Z.all C6 (jac (jlc (i:=6) (js:= [6]) rfl (ji (by rfl)) (wK (jv 3)) (by decide) jA.nd rfl (by first|exact Or.inl rfl|exact Or.inr rfl) (λX' hX=>jQ) (λX' hX=>by obtain⟨C,s₀,H₀,ex,rfl⟩:=hX;exact(XC oq_eq (jop vb (jv 6) (jv 7)) jE (jF _)))) jd)))) (λX' hX=>by obtain⟨C,s₀,H₀,ex,rfl⟩:=hX;exact(jv 7))) jd)) jE (jF _)) (jh (wY jbl)) jW) (by exact(je (yN (i:=5) jA.nd rfl (by first|exact Or.inr rfl|exact Or.inl rfl) (jy UP hr rfl Vi Vg Vb (jac (jv 3) jd))) (by exact(jh (wY (jP (Wj rfl) rfl Z.all C6 (jac (jlc (i:=8) (js:= [8]) rfl (ji (by rfl)) (Oq rfl Z.range (jac jE (by exact(jac jE jd)))) (by decide) jA.nd rfl (by first|exact Or.inl rfl|exact Or.inr rfl) (λX' hX=>jQ) (λX' hX=>by obtain⟨C,s₀,H₀,ex,rfl⟩:=hX;exact(XC BS (jy Wr hr rfl ZG ZD Zx (jac (jv 0) (by exact(jac (jv 1) (by exact(jac (jv 1) (by exact(jac (jop zT (jv 5) (jv 8)) jd)))))))) jE (jF _)))) jd))))))))))))))) ?_;intro ds h Q q;obtain⟨T,A,n,b,p,e,hT,n1,n6,hp,kA,q⟩:=q;subst e;have h8:n<=8:=by omega
 have rl:=VE (T:=T) n6;refine jg (λσ' h'=> ∃S,σ'= [some (zH T),some (.int (p:Int)),some (.lst A),some (jJ S),none,none,none,none,none]/\(S≠ []->Lens S)/\(∀l∈S,l<=6/\RP n T l p p)/\Sub h h') (λC hC=> ?_) ?_
 ·refine Ae (lcF (j:=λh=>h A) (rounds T n) jJ (λw=> .int ((w.length:Nat):Int)) (λw=>decide (p∈w)) (by omega) kA (λR r=>⟨_,rfl,r⟩) (λw hw Q' q'=>⟨_,rfl,_,rfl,ON ⟨_,rfl,q'⟩⟩) (λw hw _ Q' q'=>⟨_,rfl,?_⟩) λa ea=> ?_)
  ·show Q' (.int (((w.map λ(k:Nat)=>D.int (k:Int)).length:Nat):Int)) h;rw [G2];exact q'
  ·have bl: ∀x∈((rounds T n).filter λw=>decide (p∈w)).map λw=>((w.length:Nat):Int),1<=x/\x<=6/\RP n T x.toNat p p:=λx hx=>by
    obtain⟨w,hw,rfl⟩:=R5.mp hx;obtain⟨hw,pw⟩:=N4.mp hw;obtain⟨l1,l2,_⟩:=Uv hT h8 hw;exact⟨by omega,by omega,CV hT h8 hw (B3 pw)⟩
   refine⟨((rounds T n).filter λw=>decide (p∈w)).map λw=>((w.length:Nat):Int),[1,2,3,4,5,6].filter λx=>decide (x∈((rounds T n).filter λw=>decide (p∈w)).map λw=>((w.length:Nat):Int)),a,rfl,by rw [jc,T3];rfl,?_,?_,λx=> ?_,λB ks eB r m=> ?_⟩
   ·rw [G2];exact N5 (B6 _ _) (by omega)
   ·exact N5 (B6 _ _) (by decide)
   ·rw [N4,M9];refine⟨λz=>⟨?_,z⟩,λz=>z.2⟩;have:=bl x z;simp only [D3,M0,U0];omega
   ·obtain⟨S,hS,mS,eS⟩:=Fa (λx hx=>⟨(bl x hx).1,(bl x hx).2.1⟩) r m;refine⟨_,jc,?_⟩;rw [eS];exact hC _ _ ⟨S,rfl,hS,λl hl=>⟨(mS l hl).2,(bl _ (mS l hl).1).2.2⟩,((Sub.refl h).newAt ea).newAt eB⟩
 rintro _ h1 ⟨S,rfl,hS,rS,sb⟩
 by_cases ne:S= []
 ·subst ne;exact jg (λ_ _=>False) (λC hC=>⟨_,rfl,(by show 0<=sizeLine;decide),Sx rfl ⟨_,rfl,Xi ⟨h,sb,q⟩⟩⟩) (λ_ _ z=>z.elim)
 have hS:=hS ne;have h6: ∀l∈S,l<=6:=λl hl=>(rS l hl).1
 have pos: ∀m,Made S m->0<cnt T n p m p:=λm hm=>(NB hT h8 hp m hp).mpr (NC hT h8 hp (λl hl=>(rS l hl).2) hm)
 refine jg (λσ' h'=>σ'= [some (zH T),some (.int (p:Int)),some (.lst A),some (jJ S),none,none,none,none,none]/\h1=h') (λC hC=>⟨_,rfl,(by show 0<=sizeLine;decide),OM (b:= []) ne ⟨_,rfl,vq (hC _ _ ⟨rfl,rfl⟩)⟩⟩) ?_;rintro _ _ ⟨rfl,rfl⟩;refine jg (λσ' h'=> ∃x,σ'= [some (zH T),some (.int (p:Int)),some (.lst A),some (jJ S),x,none,none,none,none]/\h1=h') (λC hC=> ?_) ?_
 ·refine yq 13 (λi σ' h'=> ∃x,σ'= [some (zH T),some (.int (p:Int)),some (.lst A),some (jJ S),x,none,none,none,none]/\h1=h') (by decide) (λR r=>r) ⟨_,rfl,rfl⟩ (λσ' h' z=>hC _ _ z) ?_;rintro i _ _ hi ⟨x,rfl,rfl⟩;refine⟨_,rfl,_,rfl,S,i,rfl,hS,by omega,_,rfl,?_⟩;cases mk:mkB S i with
  |false=>exact vq (vq ⟨_,Sub.refl _,by omega,_,rfl,rfl⟩)
  |true=>
   have c:=pos i (mkB_true.mp mk);refine Xi ⟨_,rfl,_,rfl,_,rfl,_,rfl,T,n,b,p,p,i,rfl,hT,n1,n6,hp,hp,by omega,_,rfl,?_⟩;show if decide (cnt T n p i p=0)=true then _ else _
   rw [D4 (by omega)];exact vq ⟨_,Sub.refl _,by omega,_,rfl,rfl⟩
 rintro _ _ ⟨x,rfl,rfl⟩;refine jg (λσ' h'=>S.foldl Nat.gcd 0=1/\σ'= [some (zH T),some (.int (p:Int)),some (.lst A),some (jJ S),x,none,none,none,none]/\Sub h1 h') (λC hC=> ?_) ?_
 ·have dvB: ∀i:Nat,((S.map λ(l:Nat)=>(l:Int)).all λy=>decide (y%(1+(i:Int))=0))=true↔ ∀l∈S,(1+i)∣l:=λi=>by
   rw [O5,S5];refine forall_congr' λl=>forall_congr' λhl=> ?_
   show decide ((l:Int)%(1+(i:Int))=0)=true↔_;rw [M9,show (1+(i:Int))=((1+i:Nat):Int) by omega,<-U3,Nat.dvd_iff_mod_eq_zero];omega
  refine Af (lcF (List.range 6) (λ(i:Nat)=> .int (1+(i:Int))) (λ(i:Nat)=> .int (1+(i:Int))) (λi=>(S.map λ(l:Nat)=>(l:Int)).all λy=>decide (y%(1+(i:Int))=0)) (by decide) rfl (λR r=>⟨1,7,rfl,by decide,r⟩) (λi hi Q' q'=> ?_) (λi hi _ Q' q'=>⟨_,rfl,q'⟩) λa ea=> ?_)
  ·refine Au (S.map λ(l:Nat)=>(l:Int)) D.int (λy=>decide (y%(1+(i:Int))=0)) (by rw [G2];have:=hS.few;omega) (by rw [T3];rfl) (λR r=>⟨_,rfl,r⟩) (λy hy Q2 q2=>⟨_,rfl,_,rfl,by omega,q2⟩) ⟨_,rfl,q'⟩
  ·refine⟨((List.range 6).filter λ(i:Nat)=>(S.map λ(l:Nat)=>(l:Int)).all λy=>decide (y%(1+(i:Int))=0)).map λ(i:Nat)=>1+(i:Int),h1,?_,(Sub.refl h1).newAt ea,.inr ⟨a,rfl,by rw [jc,T3];rfl⟩,λm m1 m2=>⟨_,rfl,?_⟩⟩
   ·intro z;have:(0:Nat)∈(List.range 6).filter λ(i:Nat)=>(S.map λ(l:Nat)=>(l:Int)).all λy=>decide (y%(1+(i:Int))=0):=N4.mpr ⟨by decide,(dvB 0).mpr λl _=>Nat.one_dvd l⟩
    rw [List.map_eq_nil_iff.mp z] at this;cases this
   ·show if decide (m>1)=true then _ else _
    by_cases z:m>1
    ·rw [P3 z];exact Xi ⟨h,sb,q⟩
    ·rw [D4 z];refine vq (hC _ _ ⟨NQ hS h6 λd d2 d6 all=> ?_,rfl,Sub.refl _⟩);have:=m2 (d:Int) (R5.mpr ⟨d-1,N4.mpr ⟨R0.mpr (by omega),(dvB (d-1)).mpr λl hl=>by rw [show 1+(d-1)=d by omega];exact all l hl⟩,by omega⟩);omega
 rintro _ h2 ⟨g1,rfl,sb2⟩;refine jg (λσ' h'=> ∃m,Tq S m/\σ'= [some (zH T),some (.int (p:Int)),some (.lst A),some (jJ S),x,some (.int m),none,none,none]/\h2=h') (λC hC=>⟨_,rfl,S,rfl,hS,g1,λm hm=>hC _ _ ⟨m,hm,rfl,rfl⟩⟩) ?_;rintro _ _ ⟨m,hm,rfl,rfl⟩;have m36:=Fb hS h6 g1 hm;refine Au (List.range 4) (λ(i:Nat)=> .int (1+(i:Int))) (λ_=>true) (by decide) rfl (λR r=>⟨1,5,rfl,by decide,r⟩) (λi hi Q' q'=> ?_) ⟨h,sb.trans sb2,?_⟩
 ·have hi:=R0.mp hi;obtain⟨a1,a2,a3⟩:=hm;obtain⟨k,ek⟩: ∃k:Nat,m+(1+(i:Int))=(k:Int):=⟨(m+(1+(i:Int))).toNat,by omega⟩;have mk:Made S k:=by
   cases z:mkB S k with
   |true=>exact mkB_true.mp z
   |false=>have:=a3 k z;omega
  have c:=pos k mk;refine⟨_,rfl,_,rfl,_,rfl,_,rfl,_,rfl,T,n,b,p,p,k,by rw [ek],hT,n1,n6,hp,hp,by omega,?_⟩;show Q' (.bl (decide (cnt T n p k p>0))) h2;rw [P3 c];exact q'
 ·exact q
theorem Ag {t2:TED}{f:RD2}{A B:TSD}(x:dCB BW (wC (yj b js ti tt te) WE) σ h λy h1=>t2 σ h1 λd h2=>f y d h2 λz h3=> ∃k,z= .bl k/\if k=true then A E σ h3 else B E σ h3):BP (Zc (dOp f (dCB BW (wC (yj b js ti tt te) WE)) t2)) A B E σ h:=x
theorem SZ {k:Nat}(x:yj b js ti tt te σ h λv h1=>E.nx (σ.set k (some v)) h1):Bj k (yj b js ti tt te) E σ h:=x
theorem FO {a b:Bool}{Q:KD}(e:a=b)(q:Q (.bl false) h):neE (.bl a) (.bl b) h Q:=by
 subst e;show Q (.bl (!decide (a=a))) h;rw [P3 rfl];exact q
def wq:RDn:=λds h Q=> ∃p l fl S,ds= [.lst p,jJ S]/\h p=some [.int l,.int fl]/\0<=l/\Lens S/\ ∀l',0<=l'->Q (.bl true) (zN h p [.int l',.int fl])
theorem vI (Z:Zs mg)(F:Fun K "_law_numbers_right" "_law_numbers_right" zr f fd)(jN:ju P w K mg base n "_law_draw" ["_law_pen_here","_law_many"] zc)(Qq:ju P w K mg base n "counts_for" ["lengths","number"] Zo)(YC:ju P w K mg base n "made_by" ["lengths","number"] ZX):FnOk P w K mg base CX0 (n+1) f fd ["_law_pen_here","_law_lengths_here"] (LSp K wq):=by
 obtain⟨zZ,zE,jw,jn,jp,jq⟩:=jN;obtain⟨Bo,Bc,Qw,US,Xb,Xf⟩:=Qq;obtain⟨Pe,QN,Zv,Jc,Jd,Je⟩:=YC;refine F.okJ jD (λds h Q q=>by obtain⟨p,l,fl,S,e,hp,h0,hS,q⟩:=q;subst e;rfl) _ (λcdv A outer s H E hr=>(je (yN (i:=2) jD.nd rfl (by first|exact Or.inr rfl|exact Or.inl rfl) (jy jw hr rfl jq jp jn (jac (jv 0) (by exact(jac jE jd))))) (by exact(je (yN (i:=3) jD.nd rfl (Or.inl rfl) (jy Qw hr rfl Xf Xb US (jac (jv 1) (by exact(jac (jv 2) jd))))) (by exact(je (ZK (wN (Ma hr.units) (XC Ps (jv 3) HJ (jF _)) (jy Zv hr rfl Je Jd Jc (jac (jv 1) (by exact(jac (jv 2) jd)))) (jF _)) (jh (wY jbl)) jW) (by exact(je (ZK (wN Ps (jv 3) HJ (jF _)) (je (ZK (wN oq_ne (jP (Mc rfl) rfl Z.sum (by decide +kernel) (jac (Tp (i:=5) (j:=6) (js:= [5,6]) rfl (ji (by rfl)) (FE rfl Z.zip (jac (jv 1) (by exact(jac (jv 3) jd)))) (by decide) (by decide) (by decide) jD.nd rfl rfl (by first|exact Or.inl rfl|exact Or.inr rfl) (by first|exact Or.inl rfl|exact Or.inr rfl) (λX' hX=>jQ) (λX' hX=>by obtain⟨C,s₀,H₀,ex,rfl⟩:=hX;exact(jop WW (jv 5) (jv 6)))) jd)) (jv 2) (jF _)) (jh (wY jbl)) jW) (by exact(je (Pt (i:=5) (k:=4) (js:= [5]) rfl jD.nd rfl (Or.inl rfl) (ji (by rfl)) (wK (jv 1)) (by decide) rfl (by first|exact Or.inl rfl|exact Or.inr rfl) (λX' hX=>jQ) (λX' hX=>by obtain⟨C,s₀,H₀,ex,rfl⟩:=hX;exact(jop zT (jv 2) (jv 5)))) (by exact(jh (wY (jP (Wj rfl) rfl Z.all C6 (jac (jlc (i:=5) (js:= [5]) rfl (ji (by rfl)) (wK (jv 4)) (by decide) jD.nd rfl (by first|exact Or.inl rfl|exact Or.inr rfl) (λX' hX=>jQ) (λX' hX=>by obtain⟨C,s₀,H₀,ex,rfl⟩:=hX;exact(jy Zv hr rfl Je Jd Jc (jac (jv 1) (by exact(jac (jv 5) jd)))))) jd)))))))) jW) (by exact(jh (wY jbl))))))))))) ?_;intro ds h Q q;obtain⟨p,l,fl,S,e,hp,h0,hS,q⟩:=q;subst e;refine jg (λσ' h'=> ∃ (m:Nat) (l2:Int),σ'= [some (.lst p),some (jJ S),some (.int (m:Int)),none,none,none,none]/\m<200/\0<=l2/\h'=zN h p [.int l2,.int fl]) (λC hC=>⟨_,rfl,p,l,fl,200,rfl,hp,h0,by decide,by decide,λx l2 x0 x1 l20=>hC _ _ ⟨x.toNat,l2,by rw [K3 x0];rfl,by omega,l20,rfl⟩⟩) ?_;rintro _ _ ⟨m,l2,rfl,hm,l20,rfl⟩;have q:=q l2 l20;generalize zN h p [.int l2,.int fl]=h1 at q
 by_cases mk:Made S m
 ·have mb:mkB S m=true:=mkB_true.mpr mk;obtain⟨cl,cs⟩:=ND (λl hl=>hS.lo l hl) mk;refine jg (λσ' h'=>σ'= [some (.lst p),some (jJ S),some (.int (m:Int)),some (jJ (Uu S m)),none,none,none]/\Sub h1 h') (λC hC=>⟨_,rfl,_,rfl,S,m,rfl,hS,by omega,.inr ⟨mk,λh' sb=>hC _ _ ⟨rfl,sb⟩⟩⟩) ?_;rintro _ h2 ⟨rfl,sb⟩;refine jg (λσ' h'=>σ'= [some (.lst p),some (jJ S),some (.int (m:Int)),some (jJ (Uu S m)),none,none,none]/\h2=h') (λC hC=> ?_) ?_
  ·refine⟨_,rfl,_,rfl,_,rfl,S,m,rfl,hS,by omega,?_⟩;rw [mb];exact FO rfl ⟨_,rfl,vq (hC _ _ ⟨rfl,rfl⟩)⟩
  rintro _ _ ⟨rfl,rfl⟩;have sz:(S.zip (Uu S m)).length<=6:=by rw [G0T];have:=hS.few;omega
  refine jg (λ_ _=>False) (λC hC=>⟨_,rfl,_,rfl,Xi ?_⟩) (λ_ _ z=>z.elim);refine jg (λσ' h'=>σ'= [some (.lst p),some (jJ S),some (.int (m:Int)),some (jJ (Uu S m)),none,none,none]/\h2=h') (λC hC=> ?_) ?_
  ·refine Ag (HV (S.zip (Uu S m)) (λz=> .int (z.1:Int)) (λz=> .int (z.2:Int)) (λz=>(z.1:Int)*(z.2:Int)) (λ_=>true) (by omega) ?_ (λR r=>⟨_,rfl,_,rfl,_,_,rfl,r⟩) (λz hz Q' q'=>q') (λz hz _ Q' q'=> ?_) ?_)
   ·show some (Bk (S.map λ(k:Nat)=>D.int (k:Int)) ((Uu S m).map λ(k:Nat)=>D.int (k:Int)))=_;unfold Bk;rw [List.zip_map,T3];rfl
   ·have:=hS.hi z.1 (Y7 hz).1;exact⟨_,rfl,_,rfl,.inl ⟨by omega,by omega⟩,q'⟩
   ·rw [List.filter_eq_self.mpr (λ_ _=>rfl),cs];refine⟨_,rfl,_,rfl,?_⟩;show if (!decide ((m:Int)=(m:Int)))=true then _ else _
    rw [P3 rfl];exact vq (hC _ _ ⟨rfl,rfl⟩)
  rintro _ _ ⟨rfl,rfl⟩;refine jg (λσ' h'=> ∃M,σ'= [some (.lst p),some (jJ S),some (.int (m:Int)),some (jJ (Uu S m)),some (.lst M),none,none]/\h' M=some ((S.map λl=>m+l).map λ(k:Nat)=>D.int (k:Int))/\Sub h2 h') (λC hC=> ?_) ?_
  ·refine SZ (lcA S (λ(k:Nat)=> .int (k:Int)) (λ(k:Nat)=> .int ((m+k:Nat):Int)) (by have:=hS.few;omega) rfl (λR r=>⟨_,rfl,r⟩) (λk hk Q' q'=>⟨_,rfl,_,rfl,?_⟩) λM eM=>hC _ _ ⟨M,rfl,by rw [jc,T3];rfl,(Sub.refl _).newAt eM⟩);show Q' (.int ((m:Int)+(k:Int))) h2;rw [<-G0Q];exact q'
  rintro _ h3 ⟨M,rfl,kM,sb3⟩;refine Au (j:=λh=>h M) (S.map λl=>m+l) (λ(k:Nat)=> .int (k:Int)) (λ_=>true) (by rw [G2];have:=hS.few;omega) kM (λR r=>⟨_,rfl,r⟩) (λk hk Q' q'=> ?_) ⟨h1,sb.trans sb3,by rw [show ((S.map λl=>m+l).all λ_=>true)=true from S5.mpr λ_ _=>rfl];exact q⟩;obtain⟨l,hl,rfl⟩:=R5.mp hk;have:=hS.hi l hl;refine⟨_,rfl,_,rfl,S,m+l,rfl,hS,by omega,?_⟩;rw [mkB_true.mpr (.s mk hl)];exact q'
 ·have mb:mkB S m=false:=by cases z:mkB S m with|false=>rfl|true=>exact absurd (mkB_true.mp z) mk
  refine jg (λσ' h'=>σ'= [some (.lst p),some (jJ S),some (.int (m:Int)),some .non,none,none,none]/\Sub h1 h') (λC hC=>⟨_,rfl,_,rfl,S,m,rfl,hS,by omega,.inl ⟨mk,λh' sb=>hC _ _ ⟨rfl,sb⟩⟩⟩) ?_;rintro _ h2 ⟨rfl,sb⟩;refine jg (λσ' h'=>σ'= [some (.lst p),some (jJ S),some (.int (m:Int)),some .non,none,none,none]/\h2=h') (λC hC=> ?_) ?_
  ·refine⟨_,rfl,_,rfl,_,rfl,S,m,rfl,hS,by omega,?_⟩;rw [mb];exact FO rfl ⟨_,rfl,vq (hC _ _ ⟨rfl,rfl⟩)⟩
  rintro _ _ ⟨rfl,rfl⟩;refine jg (λσ' h'=>h2=h') (λC hC=>⟨_,rfl,_,rfl,vq (hC _ _ rfl)⟩) ?_;rintro _ _ rfl;exact⟨h1,sb,q⟩
theorem Qn: ∀S:List (List Nat),ToPs h (S.map jJ) (S.map Rf)
 | []=>rfl
 |a::S=>⟨_,_,rfl,Jz h a,Qn S⟩
theorem NR {A B:Addr}{S:List (List Nat)}{Q:KD}(k:h A=some (S.map jJ))(k':h B=some [])(q:Q (.bl (!decide (S= []))) h):neE (.lst A) (.lst B) h Q:=by
 refine⟨.list (S.map Rf),.list [],⟨A,_,rfl,k,Qn S⟩,⟨B,_,rfl,k',rfl⟩,GA S,by decide +kernel,?_⟩;cases S with
 |nil=>exact q
 |cons a S=>exact q
theorem Ta {t2:TED}{f:RD2}{A B:TSD}(x:yj b js ti tt te σ h λy h1=>t2 σ h1 λd h2=>f y d h2 λz h3=> ∃k,z= .bl k/\if k=true then A E σ h3 else B E σ h3):BP (Zc (dOp f (yj b js ti tt te) t2)) A B E σ h:=x
theorem Tb (Z:Zs mg)(F:Fun K "law" "law" DL f fd)(GM:ju P w K mg base n "_law_cell" ["_law_script","_law_k"] Wp)(DP:ju P w K mg base n "_law_pen" ["_law_cell_here"] YA)(GN:ju P w K mg base n "_law_size" ["_law_pen_here"] Wq)(ZY:ju P w K mg base n "_law_good_table" ["_law_pen_here","_law_size_here"] yn)(Qp:ju P w K mg base n "_law_table" ["_law_pen_here","_law_size_here"] Zp)(vJ:ju P w K mg base n "all_rounds" ["table"] yS)(Zt:ju P w K mg base n "_law_place_right" ["_law_table_here","_law_place","_law_rounds"] yc)(UL:ju P w K mg base n "joined" ["table"] Yy)(Td:ju P w K mg base n "beat" ["table"] NN)(Jj:ju P w K mg base n "_law_numbers_right" ["_law_pen_here","_law_lengths_here"] wq)(YX:ju P w K mg base n "_law_lengths" ["_law_pen_here"] vH):FnOk P w K mg base CX0 (n+1) f fd ["_law_script"] (LSp K RY):=by
 obtain⟨Fg,Br,GS,Qx,QP,QV⟩:=GM;obtain⟨FP,Fk,DR,GX,Ph,Pj⟩:=DP;obtain⟨Fh,Bs,GT,Qy,QQ,QX⟩:=GN;obtain⟨Pd,Gf,Wa,Zw,ZC,ZF⟩:=ZY;obtain⟨Bn,Bb,Qu,UR,Xa,Xe⟩:=Qp;obtain⟨Ve,YF,vL,yU,yW,yX⟩:=vJ;obtain⟨Ge,QM,Zu,JP,JU,JX⟩:=Zt;obtain⟨DW,Pg,UO,YE,YH,YJ⟩:=UL;obtain⟨Tx,Th,Te,Aj,An,Ao⟩:=Td;obtain⟨Xk,UX,wL,ww,wy,wA⟩:=Jj;obtain⟨Rg,DY,Jo,vO,vW,vX⟩:=YX;refine F.okJ Wu (λds h Q q=>by obtain⟨ns,e,hh,hns,q⟩:=q;subst e;rfl) _ (λcdv A outer s H E hr=>(je (Gb T6 rfl (Mi (jop zT (VZ (jac (jy GS hr rfl QV QP Qx (jac (jv 0) (by exact(jac jE jd)))) jd)) (Ml (jv 0) (Ua jE) (Ua jE)))) (zK (i:=1) Wu.nd rfl (Or.inl rfl)) (je (yN (i:=2) Wu.nd rfl (Or.inl rfl) (jy DR hr rfl Pj Ph GX (jac (jv 1) jd))) (by exact(je (yN (i:=3) Wu.nd rfl (Or.inl rfl) (jy GT hr rfl QX QQ Qy (jac (jv 2) jd))) (by exact(je (Gb T6 rfl (Mi (VZ (jac (jy Qu hr rfl Xe Xa UR (jac (jv 2) (by exact(jac (jv 3) jd)))) (by exact(jac (jy Wa hr rfl ZF ZC Zw (jac (jv 2) (by exact(jac (jv 3) jd)))) jd))))) (zK (i:=4) Wu.nd rfl (by first|exact Or.inr rfl|exact Or.inl rfl)) (je (yN (i:=5) Wu.nd rfl (by first|exact Or.inr rfl|exact Or.inl rfl) (jy vL hr rfl yX yW yU (jac (jv 4) jd))) (by exact(je (ZK (Jg (yr (jP (Wj rfl) rfl Z.all C6 (jac (jlc (i:=6) (js:= [6]) rfl (ji (by rfl)) (yG rfl Z.range (jac (jv 3) jd)) (by decide) Wu.nd rfl (by first|exact Or.inl rfl|exact Or.inr rfl) (λX' hX=>jQ) (λX' hX=>by obtain⟨C,s₀,H₀,ex,rfl⟩:=hX;exact(jy Zu hr rfl JX JU JP (jac (jv 4) (by exact(jac (jv 6) (by exact(jac (jv 5) jd)))))))) jd)))) (jh (wY jbl)) jW) (by exact(jh (ZK (jpt (Mg (yr (jy UO hr rfl YJ YH YE (jac (jv 4) jd))) (Mf (wN (Ma hr.units) (jv 5) (VZ jd) (jF _))))) (jh (ZK (wN (Ma hr.units) (jlc (i:=7) (js:= [7]) rfl (ji (by rfl)) (wK (jv 5)) (by decide) Wu.nd rfl (by first|exact Or.inl rfl|exact Or.inr rfl) (λX' hX=>by obtain⟨C,s₀,H₀,ex,rfl⟩:=hX;exact vt (wN oq_ne (jop vb (jP yk rfl Z.len C0 (jac (jv 7) jd)) (jy Te hr rfl Ao An Aj (jac (jv 4) jd))) jE (jF _))) (λX' hX=>by obtain⟨C,s₀,H₀,ex,rfl⟩:=hX;exact(jv 7))) (VZ jd) (jF _)) (jh (wY jbl)) jW)) jW))))))) (by exact(jh (ZK (jpt (To (Jg (yr (jy wL hr rfl wA wy ww (jac (jv 2) (by exact(jac (jy Jo hr rfl vX vW vO (jac (jv 2) jd)) jd)))))) (Tn (Jg (yr (jy wL hr rfl wA wy ww (jac (jv 2) (by exact(jac (jy Jo hr rfl vX vW vO (jac (jv 2) jd)) jd))))))))) (jh (wY jbl)) jW))))))))) (by exact(jh (wY jbl))))) ?_;intro ds h Q q;obtain⟨ns,e,hh,hns,q⟩:=q;subst e;refine jg (λσ' h'=>True) (λC hC=> ?_) (λσ' h3 hV=>⟨h3,Sub.refl _,q h3⟩);refine⟨_,rfl,ns,0,rfl,(by decide),λn0=>⟨(by show 1<=sizeLine;decide),λp1 e1=>⟨_,rfl,_,rfl,_,rfl,λp2 e2=>⟨_,_,jk jc e2,jc,?_,λp3 e3=>⟨p3,rfl,?_⟩⟩⟩⟩⟩
 ·have:(YN ns (some 1) (some 4)).length<=ns.length:=by unfold YN;rw [List.length_take,List.length_drop];omega
  rw [G2];exact D5 (jM (by simp only [D8,M8];omega))
 generalize hcs:([D.int n0]++(YN ns (some 1) (some 4)).map D.int)=cs;have hint: ∀d∈cs,∃c,d= .int c:=λd hd=>by
  rw [<-hcs] at hd;rcases D0.mp hd with z|z
  ·exact⟨n0,G3.mp z⟩
  ·obtain⟨x,_,e⟩:=R5.mp z;exact⟨x,e.symm⟩
 refine WZ cs (λi σ' h'=> ∃a1 a2 a3 a4 a5 a6 a7,σ'= [some (.scr ns),a1,a2,a3,a4,a5,a6,a7]/\h' p3=some cs) (λi σ' h' ⟨_,_,_,_,_,_,_,_,k⟩=>k) ⟨_,_,_,_,_,_,_,rfl,jc⟩ (λσ' h' _=>hC _ _ True.intro) ?_;rintro i d _ h4 hi ⟨b1,b2,b3,b4,b5,b6,b7,rfl,k3⟩;obtain⟨c,rfl⟩:=hint d (G5 hi);have hil:i<cs.length:=(G6.mp hi).1;show Bi _ _ _ [some (.scr ns),some (.int c),b2,b3,b4,b5,b6,b7] h4;refine jg (λσ' h'=> ∃p l fl,σ'= [some (.scr ns),some (.int c),some (.lst p),b3,b4,b5,b6,b7]/\h' p=some [.int l,.int fl]/\0<=l/\h' p3=some cs/\p3≠p) (λC hC=> ?_) ?_
 ·refine⟨_,rfl,c,rfl,λp l fl ep l0 _=>hC _ _ ⟨p,l,fl,rfl,jc,l0,jk k3 ep,Ne.symm (jC k3 ep)⟩⟩
 rintro _ h5 ⟨p,l,fl,rfl,kp,l0,k3,n3⟩;refine jg (λσ' h'=> ∃ (n:Nat) (l2:Int),σ'= [some (.scr ns),some (.int c),some (.lst p),some (.int (n:Int)),b4,b5,b6,b7]/\1<=n/\n<=6/\h' p=some [.int l2,.int fl]/\0<=l2/\h' p3=some cs) (λC hC=>⟨_,rfl,p,l,fl,rfl,kp,l0,λn l2 n1 n6 l20=>hC _ _ ⟨n,l2,rfl,n1,n6,jc,l20,jj n3 k3⟩⟩) ?_;clear kp l0 k3;rintro _ h6 ⟨n,l2,rfl,n1,n6,kp,l20,k3⟩;refine jg (λσ' h'=> ∃b4 b5 b6 b7 l2,σ'= [some (.scr ns),some (.int c),some (.lst p),some (.int (n:Int)),b4,b5,b6,b7]/\h' p=some [.int l2,.int fl]/\0<=l2/\h' p3=some cs) (λC hC=> ?_) ?_
 ·refine⟨_,rfl,_,rfl,p,l2,fl,n,rfl,kp,l20,n1,n6,λT l3 gT l30=>⟨_,rfl,_,rfl,p,l3,fl,n,rfl,jc,l30,n1,n6,λT2 l4 gT2 _ l40=>⟨(by show 2<=sizeLine;decide),λW eW=>⟨W,rfl,?_⟩⟩⟩⟩;refine WZ [zH T,zH T2] (λi σ' h'=> ∃b4 b5 b6 b7,σ'= [some (.scr ns),some (.int c),some (.lst p),some (.int (n:Int)),b4,b5,b6,b7]/\h' W=some [zH T,zH T2]/\h' p=some [.int l4,.int fl]/\h' p3=some cs) (λi σ' h' ⟨_,_,_,_,_,z,_⟩=>z) ⟨_,_,_,_,rfl,jc,jk jc eW,jk (jj n3 (jj n3 k3)) eW⟩ (λσ' h' ⟨b4,b5,b6,b7,e,_,kp,k3⟩=>hC _ _ ⟨b4,b5,b6,b7,l4,e,kp,l40,k3⟩) ?_;clear kp k3;rintro i d _ h7 hd ⟨c4,c5,c6,c7,rfl,kW,kp,k3⟩;have il:i<2:=(G6.mp hd).1;obtain⟨U,rfl,hU⟩: ∃U,d=zH U/\Sq n 20 U:=by
   have:=G5 hd;simp only [D3,M0,U0] at this;rcases this with e|e
   ·exact⟨T,e,gT.sq⟩
   ·exact⟨T2,e,gT2.sq⟩
  clear hd;have rl:=VE (T:=U) n6;show Bi _ _ _ [some (.scr ns),some (.int c),some (.lst p),some (.int (n:Int)),some (zH U),c5,c6,c7] h7;refine jg (λσ' h'=> ∃A,σ'= [some (.scr ns),some (.int c),some (.lst p),some (.int (n:Int)),some (zH U),some (.lst A),c6,c7]/\h' A=some ((rounds U n).map jJ)/\Sub h7 h') (λC2 hC2=>⟨_,rfl,U,n,20,rfl,hU,n1,n6,λA h' fA kA sA=>hC2 _ _ ⟨A,rfl,kA,sA⟩⟩) ?_;rintro _ h8 ⟨A,rfl,kA,sA⟩;refine jg (λσ' h'=>σ'= [some (.scr ns),some (.int c),some (.lst p),some (.int (n:Int)),some (zH U),some (.lst A),c6,c7]/\h8=h') (λC2 hC2=> ?_) ?_
  ·refine Au (List.range n) (λ(i:Nat)=> .int (i:Int)) (λ_=>true) (by rw [T0];omega) rfl (λR r=>⟨_,rfl,(n:Int),rfl,by omega,by omega,r⟩) (λj hj Q' q'=>⟨_,rfl,_,rfl,_,rfl,U,A,n,20,j,rfl,hU,n1,n6,R0.mp hj,kA,q'⟩) ?_;rw [show ((List.range n).all λ_=>true)=true from S5.mpr λ_ _=>rfl];exact⟨_,rfl,vq (hC2 _ _ ⟨rfl,rfl⟩)⟩
  rintro _ _ ⟨rfl,rfl⟩;have fin: ∀h9,Sub h8 h9-> ∃h4,Sub h4 h9/\(i+1<= [zH T,zH T2].length/\ ∃b4 b5 b6 b7,[some (.scr ns),some (.int c),some (.lst p),some (.int (n:Int)),some (zH U),some (.lst A),c6,c7]= [some (.scr ns),some (.int c),some (.lst p),some (.int (n:Int)),b4,b5,b6,b7]/\h4 W=some [zH T,zH T2]/\h4 p=some [.int l4,.int fl]/\h4 p3=some cs):=λh9 s9=>
   ⟨h8,s9,by show i+1<=2;omega,_,_,_,_,rfl,sA _ _ kW,sA _ _ kp,sA _ _ k3⟩
  refine⟨_,rfl,U,n,20,rfl,hU,n1,n6,_,rfl,?_⟩
  by_cases one:(CU U n).length=1
  ·rw [P3 one];refine Xi ⟨_,rfl,(by show 0<=sizeLine;decide),λB eB=>NR (jk kA eB) jc ⟨_,rfl,?_⟩⟩
   by_cases nil:rounds U n= []
   ·rw [P3 nil];exact vq (fin _ ((Sub.refl h8).newAt eB))
   ·rw [D4 nil];have dv:=(Ur ((rounds U n).map List.length) 0 (DN U n)).mp (Nat.dvd_refl _);have bp:0<DN U n:=by
     obtain⟨w,hw⟩:=List.exists_mem_of_ne_nil _ nil;have l1:=(Uv hU (by omega) hw).1;rcases Nat.eq_zero_or_pos (DN U n) with z|z
     ·have:=dv.2 w.length (U4 hw);rw [z] at this;have:=G0C this;omega
     ·exact z
    refine Xi (Ta (lcF (j:=λh=>h A) (rounds U n) jJ jJ (λ_=>false) (by omega) (jk kA eB) (λR r=>⟨_,rfl,r⟩) (λw hw Q' q'=>⟨_,rfl,_,rfl,U,n,20,rfl,hU,n1,n6,one,by omega,_,rfl,?_⟩) (λw hw z=>by cases z) λF eF=>⟨(by show 0<=sizeLine;decide),λG eG=>NR (S:= []) (jk (by rw [jc,List.filter_eq_nil_iff.mpr (λ_ _=>P4)]) eG) jc ⟨_,rfl,vq (fin _ ((((Sub.refl h8).newAt eB).newAt eF).newAt eG))⟩⟩));show Q' (!decide ((((w.map λ(k:Nat)=>D.int (k:Int)).length:Nat):Int)%((DN U n:Nat):Int)=0)) _;rw [G2,<-U3,Nat.mod_eq_zero_of_dvd (dv.2 w.length (U4 hw))];exact q'
  ·rw [D4 one];exact vq (vq (fin _ (Sub.refl h8)))
 clear kp k3;rintro _ h7 ⟨c4,c5,c6,c7,l3,rfl,kp,l30,k3⟩;refine⟨_,rfl,_,rfl,p,l3,fl,rfl,kp,l30,λS l4 g1 hS bt kp1 l40=>⟨p,l4,fl,S,rfl,kp1,l40,hS,λl5 l50=>⟨_,rfl,vq ⟨_,rfl,_,rfl,p,l5,fl,rfl,jc,l50,λS2 l6 g2 hS2 bt2 kp2 l60=>⟨p,l6,fl,S2,rfl,kp2,l60,hS2,λl7 l70=>⟨_,rfl,vq ⟨_,Sub.refl _,by omega,_,_,_,_,_,_,_,rfl,jj n3 (bt2 _ _ n3 (jj n3 (bt _ _ n3 k3)))⟩⟩⟩⟩⟩⟩⟩
end
theorem Tc {l:PySem.W.OpenLaw}{w:World}{K:PySem.W.Frag}{h:Heap}{mg:Str->Option Value}{fa:Addr}(X:K.In h)(G:h.Ns mainGlobals mg)(hfa:mg "law" =some (.ref fa))
 {f0:Addr}{e0:FuncData}(d0:DefIn K "is_whole" ZT f0 e0)
 {f1:Addr}{e1:FuncData}(d1:DefIn K "is_within" JC f1 e1)
 {f2:Addr}{e2:FuncData}(d2:DefIn K "is_place" ZU f2 e2)
 {f3:Addr}{e3:FuncData}(d3:DefIn K "rises" GF f3 e3)
 {f4:Addr}{e4:FuncData}(d4:DefIn K "are_lengths" yP f4 e4)
 {f5:Addr}{e5:FuncData}(d5:DefIn K "is_table_row" yy f5 e5)
 {f6:Addr}{e6:FuncData}(d6:DefIn K "has_table_form" wE f6 e6)
 {f7:Addr}{e7:FuncData}(d7:DefIn K "want_table" vy f7 e7)
 {f8:Addr}{e8:FuncData}(d8:DefIn K "want_place" vz f8 e8)
 {f9:Addr}{e9:FuncData}(d9:DefIn K "want_number" yQ f9 e9)
 {f10:Addr}{e10:FuncData}(d10:DefIn K "want_lengths" yA f10 e10)
 {f11:Addr}{e11:FuncData}(d11:DefIn K "reaches" Yt f11 e11)
 {f12:Addr}{e12:FuncData}(d12:DefIn K "pieces_by" JD f12 e12)
 {f13:Addr}{e13:FuncData}(d13:DefIn K "pieces" Uy f13 e13)
 {f14:Addr}{e14:FuncData}(d14:DefIn K "joined" Uz f14 e14)
 {f15:Addr}{e15:FuncData}(d15:DefIn K "heads" GH f15 e15)
 {f16:Addr}{e16:FuncData}(d16:DefIn K "want_ends_and_steps" zb f16 e16)
 {f17:Addr}{e17:FuncData}(d17:DefIn K "counts_to" JF f17 e17)
 {f18:Addr}{e18:FuncData}(d18:DefIn K "walks_many" vA f18 e18)
 {f19:Addr}{e19:FuncData}(d19:DefIn K "greatest_into" yb f19 e19)
 {f20:Addr}{e20:FuncData}(d20:DefIn K "all_rounds" vB f20 e20)
 {f21:Addr}{e21:FuncData}(d21:DefIn K "beat" NG f21 e21)
 {f22:Addr}{e22:FuncData}(d22:DefIn K "made_up_to" vC f22 e22)
 {f23:Addr}{e23:FuncData}(d23:DefIn K "made_by" Yu f23 e23)
 {f24:Addr}{e24:FuncData}(d24:DefIn K "last_unmade" yR f24 e24)
 {f25:Addr}{e25:FuncData}(d25:DefIn K "counts_for" vD f25 e25)
 {f26:Addr}{e26:FuncData}(d26:DefIn K "_law_cell" JH f26 e26)
 {f27:Addr}{e27:FuncData}(d27:DefIn K "_law_pen" ZV f27 e27)
 {f28:Addr}{e28:FuncData}(d28:DefIn K "_law_draw" JJ f28 e28)
 {f29:Addr}{e29:FuncData}(d29:DefIn K "_law_size" JK f29 e29)
 {f30:Addr}{e30:FuncData}(d30:DefIn K "_law_table" vE f30 e30)
 {f31:Addr}{e31:FuncData}(d31:DefIn K "_law_order" vF f31 e31)
 {f32:Addr}{e32:FuncData}(d32:DefIn K "_law_good_table" wf f32 e32)
 {f33:Addr}{e33:FuncData}(d33:DefIn K "_law_lengths" yB f33 e33)
 {f34:Addr}{e34:FuncData}(d34:DefIn K "_law_place_right" zU f34 e34)
 {f35:Addr}{e35:FuncData}(d35:DefIn K "_law_numbers_right" zr f35 e35)
 {f36:Addr}{e36:FuncData}(d36:DefIn K "law" DL f36 e36)
 {tk0:Tok}(v0:PySem.W.nsIn K mainGlobals "MOST_LENGTHS" =some (some (.int 6 tk0)))
 {tk1:Tok}(v1:PySem.W.nsIn K mainGlobals "MOST_LENGTH" =some (some (.int 12 tk1)))
 {tk2:Tok}(v2:PySem.W.nsIn K mainGlobals "MOST_ROWS" =some (some (.int 6 tk2)))
 {tk3:Tok}(v3:PySem.W.nsIn K mainGlobals "MOST_STEPS" =some (some (.int 40 tk3)))
 {tk4:Tok}(v4:PySem.W.nsIn K mainGlobals "MOST_NUMBER" =some (some (.int 1000 tk4)))
 (z:zsB K=true)
 : ∃fd:FuncData,(∀ (s:Shared) (v:Value),BindsTo s fd ⟨[v],[]⟩ [("_law_script",v)])/\ ∀base:Heap,K.In base->base.Ns mainGlobals mg->Bm mg base->FnOk l.prog w K mg base CX0 8 fa fd ["_law_script"] (LSp K RY):=by
 have e:=hfa.symm.trans (d36.nm X G);cases e;have yC: ∃tk,mg "MOST_LENGTHS" =some (.int 6 tk):=⟨_,Y4 X G v0⟩;have yT: ∃tk,mg "MOST_LENGTH" =some (.int 12 tk):=⟨_,Y4 X G v1⟩;have JN: ∃tk,mg "MOST_ROWS" =some (.int 6 tk):=⟨_,Y4 X G v2⟩;have vN: ∃tk,mg "MOST_STEPS" =some (.int 40 tk):=⟨_,Y4 X G v3⟩;have zh: ∃tk,mg "MOST_NUMBER" =some (.int 1000 tk):=⟨_,Y4 X G v4⟩;have Z:=Kc X G z;obtain⟨_,_,kV,dc,pm,an,cd,ct,_,rfl,_⟩:=d36.fn.ex;refine⟨PySem.W.fnOf "law" "law" (vp DL) (wV DL) (jf DL) .none kV dc pm an cd ct,λs v=> .of_eq rfl,λbase _ _ B=> ?_⟩;have VH:=λn=>d0.cal l w base X G (GJ (n:=n+0) Z d0.fn)
 have JR:=λn=>d1.cal l w base X G (Qg (n:=n+1) Z d1.fn (VH (n+0)))
 have DV:=λn=>d2.cal l w base X G (GK (n:=n+2) Z d2.fn (JR (n+0)))
 have Ak:=λn=>d3.cal l w base X G (CW (n:=n+0) Z d3.fn)
 have UU:=λn=>d4.cal l w base X G (YU (n:=n+2) Z d4.fn (Ak (n+1)) (JR (n+0)) yC yT)
 have Vd:=λn=>d5.cal l w base X G (Yw (n:=n+1) Z d5.fn (VH (n+0)))
 have WA:=λn=>d6.cal l w base X G (ZW (n:=n+2) Z d6.fn (Vd (n+0)) JN)
 have vS:=λn=>d7.cal l w base X G (UB (n:=n+3) Z d7.fn (WA (n+0)))
 have QK:=λn=>d8.cal l w base X G (UC (n:=n+3) Z d8.fn (DV (n+0)))
 have yV:=λn=>d9.cal l w base X G (YV (n:=n+2) Z d9.fn (JR (n+0)))
 have yD:=λn=>d10.cal l w base X G (Yx (n:=n+3) Z d10.fn (UU (n+0)))
 have NW:=λn=>d11.cal l w base X G (DM (n:=n+0) Z d11.fn)
 have Pc:=λn=>d12.cal l w base X G (Qh (n:=n+0) Z d12.fn)
 have Ff:=λn=>d13.cal l w base X G (NK (n:=n+4) Z d13.fn (vS (n+0)) (Pc (n+3)) (NW (n+3)))
 have PV:=λn=>d14.cal l w base X G (NL (n:=n+5) Z d14.fn (Ff (n+0)))
 have NV:=λn=>d15.cal l w base X G (CZ (n:=n+0) Z d15.fn)
 have vR:=λn=>d16.cal l w base X G (vj (n:=n+4) Z d16.fn (vS (n+0)) (QK (n+0)) (yV (n+1)) vN)
 have Pb:=λn=>d17.cal l w base X G (Qj (n:=n+1) Z d17.fn (NV (n+0)))
 have QJ:=λn=>d18.cal l w base X G (UE (n:=n+5) Z d18.fn (vR (n+0)) (Pb (n+3)))
 have vP:=λn=>d19.cal l w base X G (Wx (n:=n+0) Z d19.fn)
 have Wt:=λn=>d20.cal l w base X G (UF (n:=n+4) Z d20.fn (vS (n+0)) (NV (n+3)))
 have Tf:=λn=>d21.cal l w base X G (Ac (n:=n+6) Z d21.fn (PV (n+0)) (Wt (n+1)) (vP (n+5)))
 have vQ:=λn=>d22.cal l w base X G (UG (n:=n+0) Z d22.fn)
 have QH:=λn=>d23.cal l w base X G (DO (n:=n+4) Z d23.fn (yD (n+0)) (yV (n+1)) (vQ (n+3)) zh)
 have UV:=λn=>d24.cal l w base X G (YW (n:=n+4) Z d24.fn (yD (n+0)) (vP (n+3)) (vQ (n+3)))
 have QF:=λn=>d25.cal l w base X G (UH (n:=n+4) Z d25.fn (yD (n+0)) (yV (n+1)) (vQ (n+3)) zh)
 have GZ:=λn=>d26.cal l w base X G (Qk (n:=n+0) Z d26.fn)
 have DU:=λn=>d27.cal l w base X G (GL (n:=n+0) Z d27.fn)
 have wg:=λn=>d28.cal l w base X G (Ql (n:=n+0) Z d28.fn)
 have Pa:=λn=>d29.cal l w base X G (Qm (n:=n+1) Z d29.fn (wg (n+0)))
 have QD:=λn=>d30.cal l w base X G (UI (n:=n+1) Z d30.fn (wg (n+0)))
 have QC:=λn=>d31.cal l w base X G (UJ (n:=n+1) Z d31.fn (wg (n+0)))
 have Wd:=λn=>d32.cal l w base X G (Zr (n:=n+2) Z d32.fn (QC (n+0)) (wg (n+1)))
 have Vc:=λn=>d33.cal l w base X G (YB (n:=n+1) Z d33.fn (wg (n+0)))
 have Zz:=λn=>d34.cal l w base X G (JM (n:=n+6) Z d34.fn (QJ (n+0)) (QH (n+1)) (UV (n+1)))
 have Jk:=λn=>d35.cal l w base X G (vI (n:=n+5) Z d35.fn (wg (n+4)) (QF (n+0)) (QH (n+0)))
 exact Tb (n:=7) Z d36.fn (GZ 6) (DU 6) (Pa 5) (Wd 4) (QD 5) (Wt 2) (Zz 0) (PV 1) (Tf 0) (Jk 1) (Vc 5)
end My
namespace PySem.W.Fast
def tw5959344402607251088:=()
def tw14565175265825612964:=()
def tw8300986981523399780:=()
def tw11089323658074857145:=()
def tw7948311268654328135:=()
def tw13661023810200218748:=()
def tw15646229168221329990:=()
def tw65335431209782307:=()
def tw3098214168331651932:=()
def tw15282487961384307730:=()
def tw3270404334487653891:=()
def tw10570216089013576805:=()
def tw16464429349456051160:=()
def tw6288027240804258299:=()
def tw1164970571536523258:=()
def tw3593359592543346391:=()
def tw6333637888236091175:=()
def tw1231550318174449564:=()
def tw13874737671382160755:=()
def tw2153632873061669359:=()
def tw11717704615865001794:=()
def tw10763294967356966509:=()
def tw16579264971613554849:=()
def tw2061593326269970507:=()
def tw3895592108457553978:=()
def tw13932661234090238802:=()
def tw10460651451584551419:=()
def tw2572772546229073505:=()
def tw9882873861339183194:=()
def tw15223607861877435734:=()
def tw10579957290684498158:=()
def tw10785126617591913209:=()
def tw2023161450738669063:=()
def tw6219429159014272302:=()
def tw4379223978631023920:=()
def tw15393243364994045434:=()
def tw6005337828879450221:=()
def tw9526568590419372746:=()
def tw11958279844603920504:=()
def tw4286373214760243446:=()
def tw6723295986262464867:=()
def tw7112880403556284026:=()
def tw4821891118464143107:=()
def tw16058193664665121068:=()
def tw16061665897455342242:=()
def tw13499328135656028285:=()
def tw4255660230751238707:=()
def tw2291592281117400844:=()
def tw5287555969890248680:=()
def tw16484078266059113264:=()
def tw13823570103569337435:=()
def tw4976929909127138933:=()
def tw1215357048067506216:=()
def tw18163488604274840537:=()
def tw3609451855632876918:=()
def tw7610968683121296743:=()
def tw6429321083661418763:=()
def tw11351081372845426911:=()
def tw11583195123568672301:=()
def tw2043009783911700401:=()
def tw6583525763686800626:=()
def tw17346366698854002606:=()
def tw559465173788705823:=()
def tw5256388975352293200:=()
def tw6345465074604382014:=()
def tw14245540895424765954:=()
def tw8748150933568011607:=()
def tw13603283862475366039:=()
def tw5586067316254800475:=()
def tw7726040921154000555:=()
def tw15162047083537879021:=()
def tw10677621259325106196:=()
def tw10739046129735807833:=()
def tw4728631824648160009:=()
def tw6231782843653458133:=()
def tw12974032412710183489:=()
def tw6672023250727428585:=()
def tw3020523700556631533:=()
def tw11554055830390674187:=()
def tw6832100070033313778:=()
def tw4230424364083271239:=()
def tw15537720722439546074:=()
def tw9270166230222616648:=()
def tw5010449545346734586:=()
def tw16111028259244849194:=()
def tw471157674236299079:=()
def tw7195775719315352539:=()
def tw14968064475531916839:=()
def tw12412657056499849053:=()
def tw2907241543685040397:=()
def tw7338709447642344821:=()
def tw1950333211360334518:=()
def tw5550515084273007753:=()
def tw2335294485524758253:=()
def tw8774653376035566145:=()
def tw12088169589510918331:=()
def tw16335404412056750331:=()
def tw13518694490083756794:=()
def tw17209795749017563323:=()
def tw14619957983919228213:=()
def tw14460068583421172082:=()
def tw9300543420897223176:=()
def tw15872369890167037916:=()
def tw6675854737026067594:=()
def tw13638504643693287789:=()
def tw8052238531267745938:=()
def tw3082008215406606289:=()
def tw7610296321315880610:=()
def tw18428286018922507810:=()
def tw13249536221010392544:=()
def tw13610574611743729213:=()
def tw7554007523962535653:=()
def tw2808186243470030750:=()
def tw3083311496383999483:=()
def tw11509665706653795808:=()
def tw8115436883697691121:=()
def tw15940279479120143033:=()
def tw18120531471989190983:=()
def tw9120396610195172648:=()
def tw1144431714754379276:=()
def tw15477004468702237590:=()
def tw8122429223657217354:=()
def tw18187805784519652262:=()
def tw13344012922408621603:=()
def tw1190526971363898215:=()
def tw1745889136269568478:=()
def tw6735777700919623318:=()
def tw9823653409266614831:=()
def tw11829586297488958406:=()
def tw14511683858271374687:=()
def tw7686988725896305679:=()
def tw18294292603303636957:=()
def tw13938512882924350637:=()
def tw1885538190591848066:=()
def tw9951190424755335213:=()
def tw1742269976138043018:=()
def tw9512072176961225014:=()
def tw8607233568834758173:=()
def tw11249132294639007529:=()
def tw13012581285405206594:=()
end PySem.W.Fast
open PySem PySem.W PyProof.Rows
set_option maxRecDepth 100000 in
set_option maxHeartbeats 0 in
theorem PySem.Challenge.cw_firstpowers_k57_whole_lengths_and_rounds_holds : PySem.Challenge.rw_firstpowers_k57_whole_lengths_and_rounds.Holds := by
  w_on; o_law; k_head; (case hw => w_witness2)
  k_fill
  refine L2.BV (l := PySem.Challenge.rw_firstpowers_k57_whole_lengths_and_rounds) (k := 8) (x := "_law_script") rfl rfl ⟨rfl, by decide, by decide, rfl⟩ (fun w h Y => PySem.W.kIn_of Y) ?B ?F
  case B => intro w; kernel_rfl
  case F =>
    intro w mg fa h KX G hmg
    refine' My.Tc KX G hmg ?d0 ?d1 ?d2 ?d3 ?d4 ?d5 ?d6 ?d7 ?d8 ?d9 ?d10 ?d11 ?d12 ?d13 ?d14 ?d15 ?d16 ?d17 ?d18 ?d19 ?d20 ?d21 ?d22 ?d23 ?d24 ?d25 ?d26 ?d27 ?d28 ?d29 ?d30 ?d31 ?d32 ?d33 ?d34 ?d35 ?d36 ?v0 ?v1 ?v2 ?v3 ?v4 ?z
    case d0 | d1 | d2 | d3 | d4 | d5 | d6 | d7 | d8 | d9 | d10 | d11 | d12 | d13 | d14 | d15 | d16 | d17 | d18 | d19 | d20 | d21 | d22 | d23 | d24 | d25 | d26 | d27 | d28 | d29 | d30 | d31 | d32 | d33 | d34 | d35 | d36 => refine' L2.SW ?a ?l ?c ?k; (case a => k_is); (case l => k_is); (case c => k_is); (case k => k_is)
    case v0 | v1 | v2 | v3 | v4 => k_is
    case z => kernel_rfl
