import PyProof.Rows.All
import Wide.All
import OpenK.AllK
import Wide.FinOn
import Lean
import PyProof.EqAt
import PyProof.EqKinds
import PyProof.TupleCall
import PyProof.Rows.TopTwo
import KE.KIsAll
import PyProof.ExcAttrAll.ValueError
import KE.KTryMore
import KE.KRevIter
import PyProof.SetRoads
import PySem.Challenge.RW_firstpowers_k31_whole_rounds_and_turns
set_option Elab.async false
set_option linter.all false
set_option maxRecDepth 100000
set_option maxHeartbeats 8000000
abbrev G0:= @List.length_map
abbrev G1:= @List.getElem?_eq_getElem
abbrev G2:= @PySem.Heap.get?_push_of_some
abbrev G3:= @List.getD_eq_getElem?_getD
abbrev G5:= @List.mem_singleton
abbrev G6:= @decide_eq_true
abbrev G7:= @List.getElem?_eq_some_iff
abbrev G8:= @List.mem_of_getElem?
abbrev G9:= @List.length_append
abbrev P0:= @PySem.wpAny_pure
abbrev P1:= @Nat.le_refl
abbrev P2:= @List.append_assoc
abbrev P3:= @List.getElem?_map
abbrev P4:= @List.length_range
abbrev P5:= @List.getElem?_append_right
abbrev P6:= @List.mem_append
abbrev P7:= @Bool.false_ne_true
abbrev P8:= @List.mem_append_right
abbrev P9:= @List.length_cons
abbrev D0:= @List.size_toArray
abbrev D1:= @List.mem_map
abbrev D2:= @List.mem_range
abbrev D3:= @PySem.Heap.lt_size
abbrev D4:= @List.length_take
abbrev D5:= @Nat.le_of_lt
abbrev D6:= @PySem.Heap.get?_push_size
abbrev D7:= @decide_eq_false
abbrev D8:= @List.getElem?_append_left
abbrev D9:= @List.mem_cons_self
abbrev R0:= @List.mem_cons
abbrev R1:= @Nat.le_trans
abbrev R3:= @List.take_of_length_le
abbrev R4:= @List.mem_cons_of_mem
abbrev R5:= @List.take_append_drop
abbrev R6:= @PySem.boot_len
abbrev R7:= @List.all_eq_true
abbrev R8:= @List.getElem_mem
abbrev R9:= @List.pairwise_append
abbrev S0:= @PySem.wpAny_mono
abbrev S4:= @Nat.ne_of_lt
abbrev S5:= @Bool.and_eq_true
abbrev S6:= @Nat.lt_of_lt_of_le
abbrev S7:= @List.length_drop
abbrev S8:= @Nat.zero_le
abbrev S9:= @List.map_congr_left
abbrev T0:= @List.length_reverse
abbrev T3:= @List.map_cons
abbrev T4:= @List.length_nil
abbrev T5:= @List.map_map
abbrev T6:= @List.map_append
abbrev T7:= @Array.length_toList
abbrev T8:= @List.mem_append_left
abbrev T9:= @List.pairwise_singleton
abbrev M0:= @of_decide_eq_true
abbrev M1:= @Array.toList_append
abbrev M5:= @List.mem_filter
abbrev M6:= @List.mem_of_mem_drop
abbrev M7:= @List.mem_of_mem_take
abbrev M8:= @PySem.PassesOwn.never
abbrev M9:= @Nat.lt_irrefl
abbrev N0:= @Array.getElem?_toList
abbrev N2:= @decide_eq_true_iff
abbrev N3:= @Option.some.inj
abbrev N4:= @List.getElem?_range
abbrev N5:= @List.not_mem_nil
abbrev N6:= @List.take_add_one
abbrev N7:= @Int.mul_le_mul_of_nonneg_left
abbrev N8:= @List.getElem?_eq_none
abbrev N9:= @Nat.mod_eq_of_lt
abbrev B0:= @PySem.wpAny_truthy_bool
abbrev B1:= @List.pairwise_map
abbrev B2:= @List.length_singleton
abbrev B3:= @Bool.eq_iff_iff
abbrev B6:= @List.nil_append
abbrev B7:= @List.getLastD_eq_getLast?
abbrev B8:= @List.getLast?_eq_getElem?
abbrev B9:= @List.drop_eq_nil_of_le
abbrev C0:= @PySem.wpAny_holding
abbrev C1:= @Nat.lt_of_le_of_ne
abbrev C4:= @PyProof.Rows.callWith_type1
abbrev C5:= @List.length_filter_le
abbrev C6:= @List.getElem_of_mem
abbrev C7:= @PySem.wpAny_call_entry
abbrev C8:= @Int.natCast_emod
abbrev C9:= @PySem.wpAny_callSpecial?_slot
abbrev F4:= @List.getElem?_set_ne
abbrev F5:= @Option.map_eq_some_iff
abbrev F6:= @PySem.W.kia_one
abbrev F7:= @List.append_nil
abbrev F8:= @List.range_succ
abbrev F9:= @PySem.Heap.get?_update_self
abbrev H0:= @Nat.lt_or_ge
abbrev L0:= @List.drop_sublist
abbrev L5:= @PyProof.Rows.boot_all
abbrev L6:= @List.nodup_cons
abbrev L7:= @List.filter_append
abbrev L8:= @List.filter_cons_of_pos
abbrev L9:= @List.getElem?_cons_zero
abbrev O0:= @List.lookup_cons
abbrev O3:= @Nat.lt_succ_self
abbrev O4:= @List.mem_reverse
abbrev O5:= @Array.getElem?_eq_some_iff
abbrev O6:= @PyProof.Rows.slot_tuple_getitem
abbrev O7:= @List.replicate_succ
abbrev O8:= @Array.toList_push
abbrev O9:= @PySem.Heap.SameBut.update
abbrev A0:= @List.nodup_append
abbrev A1:= @Nat.lt_of_succ_lt
abbrev A2:= @List.reverse_perm
abbrev A3:= @Nat.mod_lt
abbrev A4:= @List.pairwise_iff_getElem
abbrev A5:= @List.all_map
abbrev A6:= @PySem.wpAny_pyIter_tuple
abbrev A7:= @List.idxOf_lt_length_iff
abbrev A8:= @List.drop_append_of_le_length
abbrev A9:= @List.take_append_of_le_length
abbrev E1:= @Nat.add_assoc
abbrev E2:= @List.filter_cons_of_neg
abbrev E3:= @List.map_nil
abbrev E4:= @Nat.lt_trans
abbrev E5:= @Nat.zero_add
abbrev E6:= @List.take_sublist
abbrev E7:= @decide_eq_true_eq
abbrev E8:= @List.find?_cons
abbrev E9:= @Int.emod_nonneg
abbrev I0:= @List.range_succ_eq_map
abbrev J0:= @PySem.F.slot_tuple_iterator_next
abbrev J1:= @List.cons_append
abbrev J3:= @Nat.le_of_eq
abbrev J4:= @List.getElem_idxOf
abbrev J5:= @List.pairwise_cons
abbrev J6:= @List.getElem?_drop
abbrev J7:= @Decidable.byContradiction
abbrev J8:= @List.drop_drop
abbrev J9:= @List.getElem?_of_mem
abbrev K0:= @Array.toList_extract
abbrev K1:= @PySem.wpAny_newObj_type
abbrev K2:= @PySem.wpAny_passesOwn
abbrev K3:= @PySem.wpAny_pyIter_list
abbrev K4:= @Option.isSome_iff_exists
abbrev K5:= @List.getElem?_take_of_lt
abbrev K6:= @List.flatten_cons
abbrev K7:= @Int.toNat_natCast
abbrev K8:= @Nat.min_eq_left
abbrev K9:= @List.length_erase_of_mem
abbrev Q0:= @List.flatMap_cons
abbrev Q1:= @Option.some.injEq
abbrev Q2:= @PySem.mem_of_lookup
abbrev Q3:= @List.length_eq_zero_iff
abbrev Q4:= @List.ext_getElem
abbrev Q5:= @List.nodup_range
abbrev Q6:= @Nat.le_add_right
abbrev Q7:= @List.eq_nil_of_length_eq_zero
abbrev Q8:= @Nat.ne_of_gt
abbrev Q9:= @List.perm_append_comm
abbrev U0:= @Nat.le_add_left
abbrev U1:= @List.pairwise_reverse
abbrev U2:= @List.getElem?_reverse
abbrev U3:= @exists_eq_left'
abbrev U4:= @Nat.not_lt
abbrev U5:= @Std.Legacy.Range.forIn_eq_forIn_range'
abbrev U6:= @Bool.eq_false_iff
abbrev U7:= @List.mem_erase_of_ne
abbrev U8:= @List.take_length
abbrev U9:= @beq_eq_false_iff_ne
abbrev V0:= @List.mem_map_of_mem
abbrev V1:= @List.length_pos_iff
abbrev V2:= @Function.comp_apply
abbrev V3:= @Nat.add_le_add_left
abbrev V4:= @Nat.mul_le_mul_left
abbrev V5:= @PySem.F.args_tuple_add_2
abbrev V6:= @PySem.AutoSeq1.wpAny_loadPart'
abbrev V7:= @Nat.add_zero
abbrev V8:= @PySem.wpAny_standAt
abbrev V9:= @List.mem_filterMap
abbrev W0:= @List.of_mem_zip
abbrev W1:= @List.zip_cons_cons
abbrev W3:= @PySem.F.entry_tuple_add
abbrev W4:= @Nat.lt_of_le_of_lt
abbrev W5:= @PySem.F.plainAttrs_list
abbrev W6:= @Bool.or_eq_true
abbrev W7:= @Int.natCast_add
abbrev W8:= @List.getElem_range
abbrev W9:= @Nat.div_add_mod
abbrev X0:= @Nat.pos_of_ne_zero
abbrev X1:= @Int.emod_lt_of_pos
abbrev X2:= @List.getElem?_cons_succ
abbrev X3:= @List.getElem?_set_self
abbrev X4:= @PySem.F.slot_tuple_add
abbrev X5:= @PySem.Calls.callWith_builtin
abbrev X6:= @List.length_pos_of_mem
abbrev X7:= @PySem.wpAny_rule
abbrev X8:= @List.getElem?_set
abbrev X9:= @Nat.lt_of_succ_le
abbrev Y0:= @Nat.lt_succ_of_lt
abbrev Y1:= @Function.comp_def
abbrev Y2:= @List.ext_getElem?
abbrev Y3:= @Nat.succ_le_of_lt
abbrev Y4:= @Nat.sub_lt
abbrev Y5:= @PySem.Heap.size_push
abbrev Y6:= @or_false
abbrev Y7:= @PySem.isSubtype_type
abbrev Y8:= @PySem.F.slot_tuple_lt
abbrev Y9:= @Nat.zero_mod
abbrev Z0:= @Int.mul_ediv_add_emod
abbrev Z4:= @Nat.min_le_right
abbrev Z5:= @List.getElem_map
abbrev Z6:= @Nat.succ_le_succ
abbrev Z7:= @PySem.Calls.evalArgs_plain
abbrev Z8:= @Nat.pow_le_pow_right
abbrev Z9:= @PySem.codeAny_call_builtin
abbrev G0a:= @Array.toList_reverse
abbrev G0b:= @List.any_cons
abbrev G0c:= @PySem.F.args_tuple_iterator_next_1
abbrev G0d:= @PySem.F.slot_dict_setdefault
abbrev G0e:= @PySem.wpAny_execs_nil
abbrev G0f:= @PySem.F.slot_int_rmul
abbrev G0g:= @List.forIn_cons
abbrev G0h:= @PySem.F.entry_tuple_iterator_next
abbrev G0i:= @List.length_zip
abbrev G0j:= @Int.toNat_of_nonneg
abbrev G0k:= @List.map_id
abbrev G0l:= @Nat.add_sub_cancel'
abbrev G0m:= @PySem.Heap.get?_update_ne
abbrev G0n:= @PySem.Calls.Name_function_global
abbrev G0o:= @Int.fdiv_eq_ediv_of_nonneg
abbrev G0p:= @Int.fmod_eq_emod_of_nonneg
abbrev G0q:= @Array.isEmpty_eq_false_iff
abbrev G0r:= @Array.getElem?_eq_none_iff
abbrev G0s:= @Array.toList_setIfInBounds
abbrev G0t:= @PyProof.Rows.assignInOrder_cons
abbrev G0u:= @PySem.Calls.spliced_cons
abbrev G0v:= @PySem.wpAny_Call_Name_kw
abbrev G0w:= @Nat.succ_mul
abbrev G0x:= @Int.mul_comm
abbrev G0y:= @Classical.em
abbrev G0z:= @PySem.wpAny_binaryOp_repeat_ref
abbrev G0A:= @PySem.Calls.call_function_entry
abbrev G0B:= @List.drop_zero
abbrev G0C:= @List.getElem?_eq_none_iff
abbrev G0D:= @List.take_zero
abbrev G0E:= @List.nodup_nil
abbrev G0F:= @Nat.add_mul_mod_self_left
abbrev G0G:= @List.exists_mem_of_ne_nil
abbrev G0H:= @List.zip_nil_left
abbrev G0I:= @PySem.call_meets
abbrev G0J:= @PySem.F.slot_tuple_index
abbrev G0K:= @List.getElem_drop
abbrev G0L:= @Array.size_setIfInBounds
abbrev G0M:= @List.mapM_toArray
abbrev G0N:= @List.Perm.eq_of_pairwise
abbrev G0O:= @Nat.add_mod_right
abbrev G0P:= @List.getElem?_replicate
abbrev G0Q:= @PySem.F.args_tuple_lt_2
abbrev G0R:= @decide_eq_false_iff_not
abbrev G0S:= @Nat.add_sub_cancel_left
abbrev G0T:= @Bool.true_and
abbrev G0U:= @PySem.noFill_tuple_add
abbrev G0V:= @Nat.le_of_not_lt
abbrev G0W:= @List.range'_succ
abbrev G0X:= @List.perm_middle
abbrev G0Y:= @List.any_eq_true
abbrev G0Z:= @List.all_toArray
abbrev G00:= @List.mem_flatMap
abbrev G01:= @PySem.W.cellsFrom_some
abbrev G02:= @PySem.F.entry_tuple_lt
abbrev G03:= @Array.getElem?_eq_none
abbrev G04:= @List.length_eq_one_iff
abbrev G05:= @List.filter_eq_nil_iff
abbrev G06:= @Nat.mul_comm
abbrev G07:= @PySem.codeAny_builtin
abbrev G08:= @List.getElem?_toArray
abbrev G09:= @PySem.W.kat_nil
abbrev G1a:= @List.filter_nil
abbrev G1b:= @Nat.le_antisymm
abbrev G1c:= @Nat.mod_add_div
abbrev G1d:= @Nat.mod_add_mod
abbrev G1e:= @PySem.wpAny_call
abbrev G1f:= @PySem.typeIs_int
abbrev G1g:= @beq_iff_eq
abbrev G1h:= @Bool.or_eq_false_iff
abbrev G1i:= @Array.getElem_toList
abbrev G1j:= @List.getLast?_concat
abbrev G1k:= @Bool.false_and
abbrev G1l:= @List.drop_take
abbrev G1m:= @List.take_take
abbrev G1n:= @Bool.and_false
abbrev G1o:= @List.filterMap_cons
abbrev G1p:= @PySem.sizeLine_eq
abbrev G1q:= @PyProof.Rows.lt_int
abbrev G1r:= @List.take_succ_cons
abbrev G1s:= @List.flatMap_append
abbrev G1t:= @Nat.mul_add
abbrev G1u:= @List.filter_eq_self
abbrev G1v:= @if_false
abbrev G1w:= @List.map_drop
abbrev G1x:= @Nat.dvd_trans
abbrev G1y:= @PySem.W.mg_of
abbrev G1z:= @PySem.Walks.list
abbrev G1A:= @List.any_map
abbrev G1B:= @Nat.sub_zero
abbrev G1C:= @Nat.sub_self
abbrev G1D:= @Nat.zero_mul
abbrev G1E:= @Nat.dvd_refl
abbrev G1F:= @Int.add_zero
abbrev G1G:= @Nat.le_succ
abbrev G1H:= @Int.le_refl
abbrev G1I:= @Int.pow_pos
namespace L2
open PySem PySem.Spec PyProof.Rows
abbrev Key:=Sum Int Str
def RT:Key->Value->Bool
 | .inl k,v=>Value.isInt k v
 | .inr x,v=>Value.isStrOf x v
def qz (w:World):Key->Int
 | .inl k=>hashInt k
 | .inr x=>hashStr w x
theorem zi: ∀ {k:Key} {v:Value},RT k v=true->(∃i t,k=Sum.inl i/\v=Value.int i t)\/(∃x t,k=Sum.inr x/\v=Value.str x t)
 | .inl i,v,h=>by
  obtain⟨t,e⟩:=Value.isInt_shape (k:=i) (v:=v) h;exact .inl ⟨i,t,rfl,e⟩
 | .inr x,v,h=>by
  obtain⟨t,e⟩:=Value.isStrOf_shape (x:=x) (v:=v) h;exact .inr ⟨x,t,rfl,e⟩
theorem Nu (i:Int)(t:Tok):RT (.inl i) (.int i t)=true:=by simp [RT,Value.isInt]
theorem Nv (x:Str)(t:Tok):RT (.inr x) (.str x t)=true:=by simp [RT,Value.isStrOf]
theorem Tx (a b:Int):decide ((Sum.inl a:Key)=Sum.inl b)=(a==b):=by
 by_cases e:a=b
 ·subst e;simp
 ·have h: ¬ (Sum.inl a:Key)=Sum.inl b:=λq=>e (Sum.inl.inj q)
  rw [D7 h];exact(U9.mpr e).symm
theorem Ty (a b:Str):decide ((Sum.inr a:Key)=Sum.inr b)=decide (a=b):=by
 by_cases e:a=b
 ·subst e;simp
 ·have h: ¬ (Sum.inr a:Key)=Sum.inr b:=λq=>e (Sum.inr.inj q)
  rw [D7 h,D7 e]
theorem Tz (a:Int)(b:Str):decide ((Sum.inl a:Key)=Sum.inr b)=false:=D7 (λq=>nomatch q)
theorem TB (a:Str)(b:Int):decide ((Sum.inr a:Key)=Sum.inl b)=false:=D7 (λq=>nomatch q)
def zS (prog:Program)(w:World):PySem.KeyKind prog w Key where
 is:=RT
 hash:=qz w
 inj:=λv a b ha hb=>by
  rcases zi ha with ⟨i,t,rfl,rfl⟩|⟨x,t,rfl,rfl⟩
  ·rcases zi hb with ⟨j,u,rfl,e⟩|⟨y,u,rfl,e⟩
   ·injection e with e1 _;rw [e1]
   ·exact nomatch e
  ·rcases zi hb with ⟨j,u,rfl,e⟩|⟨y,u,rfl,e⟩
   ·exact nomatch e
   ·injection e with e1 _;rw [e1]
 byValue:=λk v h=>by
  rcases zi h with ⟨i,t,rfl,rfl⟩|⟨x,t,rfl,rfl⟩<;>rfl
 pyHash:=λhv h=>by
  rcases zi hv with ⟨i,t,rfl,rfl⟩|⟨x,t,rfl,rfl⟩
  ·exact wpAny_pyHash_int h
  ·exact wpAny_pyHash_str h
 eqBool:=λhu hv h=>by
  rcases zi hu with ⟨i,t,rfl,rfl⟩|⟨x,t,rfl,rfl⟩
  ·rcases zi hv with ⟨j,u,rfl,rfl⟩|⟨y,u,rfl,rfl⟩
   ·rw [Tx] at h;exact wpAny_eqBool_int h
   ·rw [Tz] at h;exact SeqAt.EqAt.int_str i t y u _ _ _ _ h
  ·rcases zi hv with ⟨j,u,rfl,rfl⟩|⟨y,u,rfl,rfl⟩
   ·rw [TB] at h;exact SeqAt.EqAt.str_int x t j u _ _ _ _ h
   ·rw [Ty] at h;exact wpAny_eqBool_str h
 «strs» :=λk x t v h=>by
  rcases zi h with ⟨i,u,rfl,e⟩|⟨y,u,rfl,e⟩
  ·exact nomatch e
  ·injection e with e1 _
   subst e1;cases v<;>rfl
theorem Pl (prog:Program)(w:World)(i:Int)(t:Tok):(zS prog w).is (.inl i) (.int i t)=true:=Nu i t
theorem Pm (prog:Program)(w:World)(x:Str)(t:Tok):(zS prog w).is (.inr x) (.str x t)=true:=Nv x t
inductive V where
 |non|bl (b:Bool)|int (i:Int)|str (x:Str)|byt (b:Array UInt8)|flt (b:UInt64)|ref (a:Addr)|ty (n:String)
 deriving DecidableEq
def RelV:V->Value->Prop
 | .non,u=>u=Value.none
 | .bl b,u=>u=Value.bool b
 | .int i,u=> ∃t,u=Value.int i t
 | .str x,u=> ∃t,u=Value.str x t
 | .byt b,u=> ∃t,u=Value.bytes b t
 | .flt b,u=> ∃t,u=Value.float b t
 | .ref a,u=>u=Value.ref a
 | .ty n,u=>u=Value.type n
abbrev Vals:List V->List Value->Prop:=Paired RelV
theorem Vals.length {xs:List V}{us:List Value}(r:Vals xs us):xs.length=us.length:=Paired.length r
theorem Vals.get: ∀ {xs:List V} {us:List Value} {i:Nat} {x:V},Vals xs us->xs[i]? =some x-> ∃u,us[i]? =some u/\RelV x u
 |_,_,_,_,.nil,e=>by simp at e
 |_,_,0,_,.cons r _,e=>by simp at e;subst e;exact⟨_,rfl,r⟩
 |_,_,i+1,x,.cons _ t,e=>by
  obtain⟨u,h1,h2⟩:=Vals.get (i:=i) (x:=x) t (by simpa using e);exact⟨u,by simpa using h1,h2⟩
variable {u:Value}
theorem Vals.set {x:V}(r:RelV x u): ∀ {xs:List V} {us:List Value} (i:Nat),Vals xs us->Vals (xs.set i x) (us.set i u)
 |_,_,_,.nil=> .nil
 |_,_,0,.cons _ t=> .cons r t
 |_,_,i+1,.cons q t=> .cons q (Vals.set r i t)
theorem Vals.append: ∀ {xs ys:List V} {us ws:List Value},Vals xs us->Vals ys ws->Vals (xs++ys) (us++ws)
 |_,_,_,_,.nil,s=>s
 |_,_,_,_,.cons r t,s=> .cons r (Vals.append t s)
theorem Vals.take: ∀ {xs:List V} {us:List Value} (n:Nat),Vals xs us->Vals (xs.take n) (us.take n)
 |_,_,0,_=> .nil
 |_,_,_+1,.nil=> .nil
 |_,_,n+1,.cons r t=> .cons r (Vals.take n t)
theorem Vals.drop: ∀ {xs:List V} {us:List Value} (n:Nat),Vals xs us->Vals (xs.drop n) (us.drop n)
 |_,_,0,r=>r
 |_,_,_+1,.nil=> .nil
 |_,_,n+1,.cons _ t=>Vals.drop n t
def RelO:Option V->Option Value->Prop
 |some v,some u=>RelV v u
 |none,none=>True
 |_,_=>False
def KV {κ:Type}:List (κ×V)->List (κ×Value)->Prop:=Paired λ(p:κ×V) (q:κ×Value)=>p.1=q.1/\RelV p.2 q.2
def kV:Key->V
 | .inl i=> .int i
 | .inr x=> .str x
inductive HO where
 /-- a list -/
 |lst (xs:List V)
 /-- a tuple (never changes) -/
 |tup (xs:List V)
 /-- a dict whose keys are ints and texts;one whose keys are tuples of ints and texts (the empty one is both) -/
 |dK (kvs:List (Key×V))|dT (kvs:List (List Key×V))
 /-- a set of ints: its members,its size -/
 |set (S:Int->Bool) (n:Nat)
 /-- an instance of the class at C,its dict at dx,its attributes -/
 |ins (C dx:Addr) (fs:List (Str×V))
 /-- the dict of the instance at x -/
 |own (x:Addr)
 /-- the dict of an exception -/
 |xd (fs:List (Str×V))
 /-- a bound method,f of x -/
 |met (f x:Addr)
 /-- a range object lo,lo+1,.. below hi -/
 |rng (lo hi:Int)
 /-- a thing that is known to the object (the script;a dict while a loop walks it):read,never written while it is so -/
 |frz (o:Obj) (u:HO)
 /-- a code object's table -/
 |tbl (ps:Array Value)
 /-- any other thing,by what is true of its one object (a def of one's own: SetO a S n:=HO.ext λh=> ..) -/
 |ext (φ:Heap->Prop)
abbrev Hp:=Addr->Option HO
def upd (H:Hp)(a:Addr)(o:HO):Hp:=λb=>if b=a then some o else H b
variable {H:Hp}{a:Addr}{o:HO}
theorem jz:upd H a o a=some o:=by unfold upd;rw [if_pos rfl]
variable {b:Addr}
theorem jq (h:b≠a):upd H a o b=H b:=by unfold upd;rw [if_neg h]
theorem RU {u:HO}(h:H a=some o)(h':H b=some u)(d:o≠u):a≠b:=by
 intro e;subst e;rw [h] at h';exact d (N3 h')
theorem jm (h:H a=some o)(h':H b=none):a≠b:=by
 intro e;subst e;rw [h] at h';cases h'
def IsTupN (h:Heap)(a:Addr)(items:Array Value):Prop:= ∃o,h.get? a=some o/\o.cls= .type "tuple" /\o.dict=none/\ ∃n,o.data= .seq items n
theorem IsTupN.tup {h:Heap}{a:Addr}{items:Array Value}(x:IsTupN h a items):IsTup h a items:=let ⟨o,e,c,_,n,d⟩:=x;⟨o,e,c,n,d⟩
theorem IsTupN.new (h:Heap)(items:Array Value):IsTupN (h.push {cls:= .type "tuple",data:= .seq items}) h.objs.size items:=⟨_,D6 _ rfl,rfl,rfl,_,rfl⟩
section
variable (P:Program)(w:World)
def ObjOk (H:Hp)(h:Heap)(a:Addr):HO->Prop
 | .lst xs=>xs.length<=sizeLine/\ ∃ (its:List Value) (n:Nat),Vals xs its/\h.get? a=some {cls:= .type "list",data:= .seq its.toArray n}
 | .tup xs=>xs.length<=sizeLine/\ ∃its:List Value,Vals xs its/\IsTupN h a its.toArray
 | .dK kvs=>kvs.length<=sizeLine/\(a==sysModules)=false/\ ∃vs,KV kvs vs/\h.DictOf (zS P w) a vs
 | .dT kvs=>kvs.length<=sizeLine/\(a==sysModules)=false/\ ∃xs:List (List Key×Addr×Value),
  Paired (λ(p:List Key×V) (q:List Key×Addr×Value)=>p.1=q.1/\H q.2.1=some (.tup (p.1.map kV))/\RelV p.2 q.2.2) kvs xs/\
  ∃o es ep,h.get? a=some o/\o.ExactDict/\o.data= .dict es ep/\es.toList=xs.map (entryOfKey (tupleKind (zS P w)))/\(xs.map (·.1)).Nodup
 | .set S n=>h.SetOf (intKind P w) a S n
 | .ins C dx fs=>H dx=some (.own a)/\fs.length<=1000/\dx≠a/\h.get? a=some (PySem.W.instObj C dx)/\
  ∃mA,h.Ns1 dx mA/\(∀f,RelO (fs.lookup f) (mA f))/\PySem.Within mA (fs.map (·.1))
 | .own _=> ∃o,h.get? a=some o
 | .xd fs=> ∃mA,h.Ns1 a mA/\ ∀f,RelO (fs.lookup f) (mA f)
 | .rng lo hi=> ∃t u v,h.get? a=some {cls:= .type "range",data:= .fields #[.int lo t,.int hi u,.int 1 v]}
 | .frz o u=>h.get? a=some o/\ObjOk H h a u
 | .tbl ps=>h.get? a=some {cls:= .none,data:= .fields ps}
 | .met f x=>h.get? a=some (PySem.W.methodObj (.ref f) (.ref x))
 | .ext φ=>φ h/\(∃o,h.get? a=some o)/\ ∀h1 h2:Heap,φ h1->(∀o,h1.get? a=some o->h2.get? a=some o)->φ h2
def HOk (H:Hp)(h:Heap):Prop:= ∀a o,H a=some o->ObjOk P w H h a o
end
section
variable {P:Program}{w:World}{H H':Hp}{h h':Heap}{a:Addr}{o:HO}
theorem ObjOk.lt (x:ObjOk P w H h a o):a<h.objs.size:=by
 cases o with
 |lst xs=>obtain⟨_,_,_,_,e⟩:=x;exact D3 e
 |tup xs=>obtain⟨_,_,_,p⟩:=x;exact p.tup.lt
 |dK kvs=>obtain⟨_,_,_,_,o,_,_,e,_⟩:=x;exact D3 e
 |dT kvs=>obtain⟨_,_,_,_,o,_,_,e,_⟩:=x;exact D3 e
 |set S n=>obtain⟨o,_,_,_,e,_⟩:=x;exact D3 e
 |ins C dx fs=>obtain⟨_,_,_,e,_⟩:=x;exact D3 e
 |own y=>obtain⟨_,e⟩:=x;exact D3 e
 |xd fs=>obtain⟨_,⟨_,_,_,e,_⟩,_⟩:=x;exact D3 e
 |rng lo hi=>obtain⟨_,_,_,e⟩:=x;exact D3 e
 |frz ob u=>obtain⟨e,_⟩:=x;exact D3 e
 |tbl ps=>exact D3 (show h.get? a=some _ from x)
 |met f y=>exact D3 (show h.get? a=some _ from x)
 |ext φ=>obtain⟨_,⟨_,e⟩,_⟩:=x;exact D3 e
theorem Paired.mapP {α β:Type}{F G:α->β->Prop}: ∀ {l₁:List α} {l₂:List β},Paired F l₁ l₂->(∀a b,F a b->G a b)->Paired G l₁ l₂
 |_,_,.nil,_=> .nil
 |_,_,.cons r t,f=> .cons (f _ _ r) (Paired.mapP t f)
theorem ObjOk.stay (x:ObjOk P w H h a o)(k: ∀b u,(b=a\/H b=some (.own a))->h.get? b=some u->h'.get? b=some u)
 (ho: ∀b,H b=some (.own a)->H' b=some (.own a))(ht: ∀b xs,H b=some (.tup xs)->H' b=some (.tup xs)):ObjOk P w H' h' a o:=by
 induction o with
 |lst xs=>obtain⟨z,its,n,r,e⟩:=x;exact⟨z,its,n,r,k _ _ (.inl rfl) e⟩
 |tup xs=>obtain⟨z,its,r,ob,e,c⟩:=x;exact⟨z,its,r,ob,k _ _ (.inl rfl) e,c⟩
 |dK kvs=>obtain⟨z,y,vs,r,ob,es,ep,e,c⟩:=x;exact⟨z,y,vs,r,ob,es,ep,k _ _ (.inl rfl) e,c⟩
 |dT kvs=>
  obtain⟨z,y,xs,r,ob,es,ep,e,c⟩:=x;exact⟨z,y,xs,Paired.mapP r λp q z=>⟨z.1,ht _ _ z.2.1,z.2.2⟩,ob,es,ep,k _ _ (.inl rfl) e,c⟩
 |set S n=>obtain⟨ob,es,ep,t,e,c⟩:=x;exact⟨ob,es,ep,t,k _ _ (.inl rfl) e,c⟩
 |ins C dx fs=>
  obtain⟨d,z,ne,e,mA,⟨od,es,ep,e2,c⟩,r⟩:=x;exact⟨ho _ d,z,ne,k _ _ (.inl rfl) e,mA,⟨od,es,ep,k _ _ (.inr d) e2,c⟩,r⟩
 |own y=>obtain⟨ob,e⟩:=x;exact⟨ob,k _ _ (.inl rfl) e⟩
 |xd fs=>obtain⟨mA,⟨od,es,ep,e,c⟩,r⟩:=x;exact⟨mA,⟨od,es,ep,k _ _ (.inl rfl) e,c⟩,r⟩
 |rng lo hi=>obtain⟨t,u,v,e⟩:=x;exact⟨t,u,v,k _ _ (.inl rfl) e⟩
 |frz ob u ih=>obtain⟨e,q⟩:=x;exact⟨k _ _ (.inl rfl) e,ih q⟩
 |tbl ps=>
  have e:h.get? a=some {cls:= .none,data:= .fields ps}:=x;show h'.get? a=some {cls:= .none,data:= .fields ps};exact k a _ (.inl rfl) e
 |met f y=>
  have e:h.get? a=some (PySem.W.methodObj (.ref f) (.ref y)):=x;show h'.get? a=some (PySem.W.methodObj (.ref f) (.ref y));exact k a _ (.inl rfl) e
 |ext φ=>obtain⟨p,⟨o,e⟩,st⟩:=x;exact⟨st _ _ p λo q=>k _ _ (.inl rfl) q,⟨o,k _ _ (.inl rfl) e⟩,st⟩
theorem HOk.lt (x:HOk P w H h)(e:H a=some o):a<h.objs.size:=(x a o e).lt
theorem HOk.fresh (x:HOk P w H h)(e:h.objs.size<=a):H a=none:=by
 cases q:H a with
 |none=>rfl
 |some u=>exact absurd (S6 (x.lt q) e) (M9 _)
theorem HOk.kept (x:HOk P w H h)(k: ∀b u,h.get? b=some u->h'.get? b=some u):HOk P w H h':=λa o e=>
 (x a o e).stay (λb u _ q=>k b u q) (λ_ q=>q) λ_ _ q=>q
theorem HOk.laid (x:HOk P w H h)(k: ∀b u,h.get? b=some u->h'.get? b=some u)(hp:h.objs.size<=a)(new:ObjOk P w (upd H a o) h' a o):HOk P w (upd H a o) h':=λb u e=>by
 have hn:=x.fresh hp
 by_cases hb:b=a
 ·subst hb;rw [jz] at e;cases e;exact new
 ·rw [jq hb] at e;exact(x b u e).stay (λc v _ q=>k c v q) (λc q=>by rw [jq (jm q hn)];exact q) λc xs q=>by rw [jq (jm q hn)];exact q
end
def Rd (H:Hp)(a:Addr)(u:HO):Prop:=H a=some u\/ ∃o,H a=some (.frz o u)
variable {P:Program}{w:World}{h:Heap}
theorem Rd.ok {u:HO}(r:Rd H a u)(x:HOk P w H h):ObjOk P w H h a u:=by
 rcases r with r|⟨o,r⟩
 ·exact x a u r
 ·obtain⟨_,q⟩:=x a _ r;exact q
def Mut:Option HO->Prop
 |some (.lst _)=>True
 |some (.dK _)=>True
 |some (.dT _)=>True
 |some (.set _ _)=>True
 |some (.ins _ _ _)=>True
 |some (.ext _)=>True
 |_=>False
section
variable {P:Program}{w:World}{H:Hp}{h h':Heap}{x e:Addr}{o':HO}
theorem HOk.write (ok:HOk P w H h)(mu:Mut (H x))(he:e=x\/H e=some (.own x))(k: ∀b u,b≠e->h.get? b=some u->h'.get? b=some u)(heo: ∃u,h'.get? e=some u)
 (new:ObjOk P w (upd H x o') h' x o'):HOk P w (upd H x o') h':=λb u q=>by
 have nown: ∀c y,H c=some (.own y)->c≠x:=λc y r z=>by subst z;rw [r] at mu;exact mu
 have ntup: ∀c xs,H c=some (.tup xs)->c≠x:=λc xs r z=>by subst z;rw [r] at mu;exact mu
 by_cases hb:b=x
 ·subst hb;rw [jz] at q;cases q;exact new
 ·rw [jq hb] at q
  by_cases hbe:b=e
  ·have q':H b=some (.own x):=by
    rcases he with z|z
    ·exact absurd (hbe.trans z) hb
    ·rw [hbe];exact z
   rw [q] at q';cases q';obtain⟨v,hv⟩:=heo;exact⟨v,by rw [hbe];exact hv⟩
  ·refine(ok b u q).stay (λc v hc r=>k c v ?_ r) (λc r=>by rw [jq (nown c b r)];exact r) λc xs r=>by rw [jq (ntup c xs r)];exact r
   rcases hc with rfl|hc
   ·exact hbe
   ·rintro rfl;rcases he with z|z
    ·exact nown c b hc z
    ·rw [hc] at z;cases z;exact hb rfl
end
structure Un (fs ex:List Addr)(H H':Hp)(h h':Heap):Prop where
 keep: ∀b o,h.get? b=some o->H b=none->b ∉ fs->b ∉ ex->h'.get? b=some o
 slot: ∀b o,h.get? b=some o->H b=none->b∈fs->b ∉ ex-> ∃sl,h'.get? b=some {o with slots:=sl}
 free: ∀b o,h.get? b=some o->H b=none->b ∉ ex->H' b=none
 there: ∀b o,h.get? b=some o->b ∉ ex-> ∃o',h'.get? b=some o'
 tups: ∀b xs,H b=some (.tup xs)->H' b=some (.tup xs)
 frzs: ∀b o u,H b=some (.frz o u)->H' b=some (.frz o u)
 tbls: ∀b ps,H b=some (.tbl ps)-> ∃more,H' b=some (.tbl (ps++more))
section
variable {fs fs' ex ex':List Addr}{H H1 H2:Hp}{h h1 h2 h':Heap}{a x e:Addr}{o:HO}
theorem Un.any (u:Un fs ex H H1 h h1){b:Addr}{ob:Obj}(q:h.get? b=some ob)(n:H b=none)(hx:b ∉ ex): ∃sl,h1.get? b=some {ob with slots:=sl}:=by
 by_cases hb:b∈fs
 ·exact u.slot b ob q n hb hx
 ·exact⟨ob.slots,u.keep b ob q n hb hx⟩
theorem Un.kept (k: ∀b u,h.get? b=some u->h'.get? b=some u):Un fs ex H H h h':=
 ⟨λb ob q _ _ _=>k b ob q,λb ob q _ _ _=>⟨ob.slots,k b ob q⟩,λ_ _ _ n _=>n,λb ob q _=>⟨ob,k b ob q⟩,λ_ _ q=>q,λ_ _ _ q=>q,λ_ ps q=>⟨#[],by rw [q];simp⟩⟩
theorem Un.refl:Un fs ex H H h h:=Un.kept λ_ _ q=>q
theorem Un.laid (k: ∀b u,h.get? b=some u->h'.get? b=some u)(hp:h.objs.size<=a)(hn:H a=none):Un fs ex H (upd H a o) h h' where
 keep:=λb u q _ _ _=>k b u q
 slot:=λb u q _ _ _=>⟨u.slots,k b u q⟩
 free:=λb u q n _=>by rw [jq (S4 (S6 (D3 q) hp))];exact n
 there:=λb u q _=>⟨u,k b u q⟩
 tups:=λb xs q=>by rw [jq (jm q hn)];exact q
 frzs:=λb u xs q=>by rw [jq (jm q hn)];exact q
 tbls:=λb ps q=>⟨#[],by rw [jq (jm q hn),q];simp⟩
theorem Un.write (mu:Mut (H x))(he:e=x\/H e=some (.own x))(k: ∀b u,b≠e->h.get? b=some u->h'.get? b=some u)(heo: ∃u,h'.get? e=some u):Un fs ex H (upd H x o) h h':=by
 have hx: ∀b,H b=none->b≠x:=λb n z=>by subst z;rw [n] at mu;exact mu
 have hb: ∀b,H b=none->b≠e:=λb n z=>by
  subst z;rcases he with r|r
  ·exact hx b n r
  ·rw [n] at r;cases r
 have hm: ∀b u,H b=some u-> ¬Mut (some u)->b≠x:=λb u q nm z=>by subst z;rw [q] at mu;exact nm mu
 refine⟨λb u q n _ _=>k b u (hb b n) q,λb u q n _ _=>⟨u.slots,k b u (hb b n) q⟩,λb u q n _=>by rw [jq (hx b n)];exact n,λb u q _=> ?_,
  λb xs q=>by rw [jq (hm b _ q λz=>z)];exact q,λb u xs q=>by rw [jq (hm b _ q λz=>z)];exact q,λb ps q=>⟨#[],by rw [jq (hm b _ q λz=>z),q];simp⟩⟩
 by_cases hbe:b=e
 ·subst hbe;exact heo
 ·exact⟨u,k b u hbe q⟩
end
def trk (h:Heap)(H:Hp):List Addr:=(List.range h.objs.size).filter λa=>(H a).isSome
def FQ (h:Heap)(H:Hp):Heap:=PySem.W.hideAll h (trk h H)
theorem Nw (h:Heap)(H:Hp):(FQ h H).objs.size=h.objs.size:=PySem.W.hideAll_size _ _
theorem US {o:Obj}(e:h.get? b=some o)(n:H b=none):(FQ h H).get? b=some o:=
 PySem.W.hideAll_get _ e λhm=>by
  have q:(H b).isSome=true:=(M5.mp hm).2;rw [n] at q;simp at q
theorem AR {o:Obj}(e:(FQ h H).get? b=some o):h.get? b=some o/\H b=none:=by
 have e':h.get? b=some o:=PySem.W.of_hideAll (trk h H) e;refine⟨e',?_⟩;cases q:H b with
 |none=>rfl
 |some x=>
  have hm:b∈trk h H:=M5.mpr ⟨D2.mpr (D3 e'),by simp [q]⟩;have z:(FQ h H).get? b=none:=PySem.W.hideAll_none (trk h H) hm;rw [z] at e;cases e
def AS (g h:Heap)(L:Addr):List (Addr×Obj):=(List.range h.objs.size).filterMap λa=>if a=L\/(g.get? a).isSome=true then none else (h.get? a).map λo=>(a,o)
def rest (g h:Heap)(L d:Addr):List (Addr×Obj):=(AS g h L).filter λp=>decide (p.1≠d)
structure Mod (K:PySem.W.Frag)(mg:Str->Option Value)(base:Heap):Prop where
 kin:K.In base
 glob:base.Ns mainGlobals mg
 blt: ∃mb,base.Ns builtinsNs mb/\ ∀x:Str,x≠ "__name__" ->mb x=bootBuiltins x
 nolimit:base.NoLimit
structure Cx where
 prog:Program
 w:World
 K:PySem.W.Frag
 mg:Str->Option Value
 base:Heap
 A:Around
 N:List Str
 s₀:Shared
 H₀:Hp
 env:Env
 outer:List Env
 stack:List Env
 ex:List Addr
 fn:Str->Bool
 calm:Bool
 pn:List (Addr×Obj)
 xe:Value->Shared->Prop
def frs (l:List Env):List Addr:=l.filterMap (·.frame)
abbrev Cx.fs (X:Cx):List Addr:=frs X.outer
def Vis (sc:Scope)(x:Str):Prop:=sc.names.lookup x=some .local\/sc.names.lookup x=some .cell\/sc.names.lookup x=some .free
def Loc (sc:Scope)(x:Str):Prop:=sc.names.lookup x=some .local\/sc.names.lookup x=some .cell
def qA (env:Env)(h:Heap)(m:Str->Option Value)(x:Str)(u:Value):Prop:=
 (env.kindOf x=some .local/\m x=some u)\/((env.kindOf x=some .cell\/env.kindOf x=some .free)/\ ∃c,env.cells.lookup x=some c/\h.IsCell c (some u))
structure Cx.Ok (X:Cx):Prop where
 mod:Mod X.K X.mg X.base
 kind:X.env.scope.kind= .function
 glob:X.env.globals=mainGlobals
 blt:X.env.builtins=builtinsNs
 above:X.s₀.heap.objs.size<=X.env.locals
 inj: ∀x y c,X.env.cells.lookup x=some c->X.env.cells.lookup y=some c->x=y
 has: ∀x,(X.env.kindOf x=some .cell\/X.env.kindOf x=some .free)-> ∃c,X.env.cells.lookup x=some c
 cab: ∀x c,X.fn x=true->X.env.cells.lookup x=some c->X.s₀.heap.objs.size<=c
 hd:X.calm=true->X.A.handled=none
 frames:X.A.frames=some X.stack
 stk:X.stack=X.outer\/(X.stack=X.env::X.outer/\X.env.frame=some X.env.locals)
 exf: ∀b∈X.ex,b≠X.env.locals/\ ∀x c,X.env.cells.lookup x=some c->c≠b
 bs: ∀b o,X.base.get? b=some o->X.s₀.heap.get? b=some o/\X.H₀ b=none
 bsz:X.base.objs.size<=X.s₀.heap.objs.size
 noex: ∀b o,X.base.get? b=some o->b ∉ X.ex
 exfs: ∀b∈X.ex,b ∉ X.fs
 funs:X.s₀.heap.FunFrames X.base X.outer
 frf: ∀b∈X.fs,X.H₀ b=none
structure Inv (X:Cx)(pins:List (Addr×Obj))(σ:List (Option V))(H:Hp)(s:Shared):Prop where
 ok:X.Ok
 os:s.os=X.s₀.os
 bare:AllBare s.gens
 base:Un X.fs X.ex X.H₀ H X.s₀.heap s.heap
 loc: ∃m,s.heap.Ns X.env.locals m/\ ∀ (i:Nat) (x:Str) (v:V),X.N[i]? =some x->σ[i]? =some (some v)->Vis X.env.scope x-> ∃u,RelV v u/\qA X.env s.heap m x u
 cell: ∀x c,X.env.cells.lookup x=some c-> ∃v,s.heap.IsCell c v
 free:H X.env.locals=none
 freeC: ∀x c,X.env.cells.lookup x=some c->H c=none
 pin: ∀p∈X.pn++pins,s.heap.get? p.1=some p.2/\H p.1=none/\p.1≠X.env.locals/\p.1 ∉ X.fs/\ ∀v,p.2.data≠ .cell v
 hok:HOk X.prog X.w H s.heap
 len:σ.length=X.N.length
section
variable {X:Cx}{pins:List (Addr×Obj)}{σ:List (Option V)}{H H':Hp}{s:Shared}{h':Heap}
theorem Cx.Ok.nofr (ok:X.Ok){b:Addr}{o:Obj}(e:X.base.get? b=some o):b ∉ X.fs:=λhb=>by
 have:=(ok.funs.mem hb).1;rw [e] at this;cases this
theorem Inv.bs (I:Inv X pins σ H s): ∀b o,X.base.get? b=some o->s.heap.get? b=some o/\H b=none:=λb o e=>
 ⟨I.base.keep b o (I.ok.bs b o e).1 (I.ok.bs b o e).2 (I.ok.nofr e) (I.ok.noex b o e),I.base.free b o (I.ok.bs b o e).1 (I.ok.bs b o e).2 (I.ok.noex b o e)⟩
theorem Inv.bk (I:Inv X pins σ H s): ∀b o,X.base.get? b=some o->s.heap.get? b=some o:=λb o e=>(I.bs b o e).1
theorem Inv.mod (I:Inv X pins σ H s):Mod X.K X.mg X.base:=I.ok.mod
theorem Inv.kIn (I:Inv X pins σ H s):X.K.In s.heap:=I.ok.mod.kin.keeps I.bk
theorem Inv.lt (I:Inv X pins σ H s):X.env.locals<s.heap.objs.size:=let ⟨_,hn,_⟩:=I.loc;hn.lt
theorem Inv.sz (I:Inv X pins σ H s):X.s₀.heap.objs.size<=s.heap.objs.size:=R1 I.ok.above (D5 I.lt)
theorem Inv.nofs (I:Inv X pins σ H s){a:Addr}(h:s.heap.objs.size<=a):a ∉ X.fs:=λhb=>by
 obtain⟨_,o,ho,_⟩:=I.ok.funs.mem hb;exact absurd (S6 (D3 ho) (R1 I.sz h)) (M9 _)
theorem Inv.cne (I:Inv X pins σ H s): ∀x c,X.env.cells.lookup x=some c->c≠X.env.locals:=λx c e z=>by
 obtain⟨v,o,ho,hd⟩:=I.cell x c e;obtain⟨m,⟨o',es,ep,ho',hd',_⟩,_⟩:=I.loc;rw [z,ho'] at ho;cases ho;rw [hd'] at hd;cases hd
theorem Inv.funs (I:Inv X pins σ H s):s.heap.FunFrames X.base X.outer:=by
 have all: ∀ (l:List Env),(∀b∈frs l,b∈X.fs)->X.s₀.heap.FunFrames X.base l->s.heap.FunFrames X.base l:=by
  intro l
  induction l with
  |nil=>intro _ _;trivial
  |cons env r ih=>
   intro hs hl;obtain⟨hk,⟨L,o,hf,hn,ho,hd⟩,hr⟩:=hl;have hL:L∈X.fs:=hs L (by unfold frs;rw [List.filterMap_cons,hf];exact List.mem_cons_self);obtain⟨sl,e⟩:=I.base.slot L o ho (I.ok.frf L hL) hL λz=>I.ok.exfs L z hL
   exact⟨hk,⟨L,_,hf,hn,e,hd⟩,ih (λb hb=>hs b (by unfold frs;rw [List.filterMap_cons,hf];exact List.mem_cons_of_mem _ hb)) hr⟩
 exact all X.outer (λ_ hb=>hb) I.ok.funs
theorem Inv.stack (I:Inv X pins σ H s):s.heap.FunFrames X.base X.stack:=by
 rcases I.ok.stk with e|⟨e,hf⟩
 ·rw [e];exact I.funs
 ·rw [e];obtain⟨m,hn,_⟩:=I.loc;refine .cons (by rw [I.ok.kind];decide) hf hn ?_ I.funs;exact Heap.get?_none_of_le (R1 I.ok.bsz I.ok.above)
theorem Inv.stkSub (I:Inv X pins σ H s): ∀b∈frs X.stack,b∈X.env.locals::X.fs:=λb hb=>by
 rcases I.ok.stk with e|⟨e,hf⟩
 ·rw [e] at hb;exact R4 _ hb
 ·rw [e] at hb;unfold frs at hb;rw [G1o,hf] at hb;exact hb
theorem Inv.stkFree (I:Inv X pins σ H s): ∀b∈frs X.stack,H b=none:=λb hb=>by
 rcases R0.mp (I.stkSub b hb) with e|hb
 ·rw [e];exact I.free
 ·obtain⟨_,o,ho,_⟩:=I.ok.funs.mem hb;exact I.base.free b o ho (I.ok.frf b hb) λz=>I.ok.exfs b z hb
variable {t':Nat}
theorem Inv.step {g':Array GenState}{d':Drawn}{ch:List Addr}(I:Inv X pins σ H s)
 (hch: ∀b∈ch,(b∈X.ex\/X.s₀.heap.objs.size<=b)/\b≠X.env.locals/\(∀x c,X.env.cells.lookup x=some c->c≠b)/\ ∀p∈X.pn++pins,p.1≠b)
 (keep: ∀b o,b≠X.env.locals->b ∉ X.fs->b ∉ ch->s.heap.get? b=some o->H b=none->h'.get? b=some o)
 (slot: ∀b o,b≠X.env.locals->b∈X.fs->b ∉ ch->s.heap.get? b=some o->H b=none-> ∃sl,h'.get? b=some {o with slots:=sl})(free: ∀b o,b ∉ ch->s.heap.get? b=some o->H b=none->H' b=none)
 (there: ∀b o,b ∉ ch->s.heap.get? b=some o-> ∃o',h'.get? b=some o')
 (tups: ∀b xs,H b=some (.tup xs)->H' b=some (.tup xs))(frzs: ∀b o u,H b=some (.frz o u)->H' b=some (.frz o u))(tbls: ∀b ps,H b=some (.tbl ps)-> ∃more,H' b=some (.tbl (ps++more)))
 (ns: ∀m,s.heap.Ns X.env.locals m->h'.Ns X.env.locals m)(hok:HOk X.prog X.w H' h')(hg:AllBare g'):
 Inv X pins σ H' {s with heap:=h',gens:=g',drawn:=d',toks:=t'}:=by
 have neL: ∀b o,X.s₀.heap.get? b=some o->b≠X.env.locals:=λb o e=>S4 (S6 (D3 e) I.ok.above)
 have neC: ∀b o,X.s₀.heap.get? b=some o->b ∉ X.ex->b ∉ ch:=λb o e hx hb=>by
  rcases (hch b hb).1 with z|z
  ·exact hx z
  ·exact absurd (S6 (D3 e) z) (M9 _)
 have cellK: ∀x c,X.env.cells.lookup x=some c-> ∀v,s.heap.IsCell c v->h'.IsCell c v:=λx c e v ⟨o,ho,hd⟩=>by
  have nch:c ∉ ch:=λz=>(hch c z).2.2.1 x c e rfl
  by_cases hc:c∈X.fs
  ·obtain⟨sl,q⟩:=slot c o (I.cne x c e) hc nch ho (I.freeC x c e);exact⟨_,q,hd⟩
  ·exact⟨o,keep c o (I.cne x c e) hc nch ho (I.freeC x c e),hd⟩
 refine⟨I.ok,I.os,hg,⟨λb o e n hb hx=> ?_,λb o e n hb hx=> ?_,λb o e n hx=> ?_,λb o e hx=> ?_,λb xs e=>tups b xs (I.base.tups b xs e),λb o xs e=>frzs b o xs (I.base.frzs b o xs e),λb ps e=> ?_⟩,?_,λx c e=> ?_,?_,λx c e=> ?_,λp hp=> ?_,hok,I.len⟩
 ·exact keep b o (neL b o e) hb (neC b o e hx) (I.base.keep b o e n hb hx) (I.base.free b o e n hx)
 ·obtain⟨sl,e1⟩:=I.base.slot b o e n hb hx;obtain⟨sl',e2⟩:=slot b _ (neL b o e) hb (neC b o e hx) e1 (I.base.free b o e n hx);exact⟨sl',e2⟩
 ·obtain⟨o',e1⟩:=I.base.there b o e hx;exact free b o' (neC b o e hx) e1 (I.base.free b o e n hx)
 ·obtain⟨o',e1⟩:=I.base.there b o e hx;exact there b o' (neC b o e hx) e1
 ·obtain⟨m1,e1⟩:=I.base.tbls b ps e;obtain⟨m2,e2⟩:=tbls b _ e1;exact⟨m1++m2,by rw [e2,Array.append_assoc]⟩
 ·obtain⟨m,hn,hl⟩:=I.loc;refine⟨m,ns m hn,λi x v e1 e2 e3=> ?_⟩;obtain⟨u,r,l⟩:=hl i x v e1 e2 e3;refine⟨u,r,?_⟩;rcases l with l|⟨k,c,e,z⟩
  ·exact .inl l
  ·exact .inr ⟨k,c,e,cellK x c e _ z⟩
 ·obtain⟨v,z⟩:=I.cell x c e;exact⟨v,cellK x c e v z⟩
 ·obtain⟨m,⟨o,_,_,ho,_⟩,_⟩:=I.loc;exact free _ o (λz=>(hch _ z).2.1 rfl) ho I.free
 ·obtain⟨v,o,ho,hd⟩:=I.cell x c e;exact free c o (λz=>(hch c z).2.2.1 x c e rfl) ho (I.freeC x c e)
 ·obtain⟨e,n,ne,nf,d⟩:=I.pin p hp;have nch:p.1 ∉ ch:=λz=>(hch p.1 z).2.2.2 p hp rfl
  exact⟨keep p.1 p.2 ne nf nch e n,free p.1 p.2 nch e n,ne,nf,d⟩
theorem Inv.un (I:Inv X pins σ H s)(u:Un X.fs [] H H' s.heap h')(hok:HOk X.prog X.w H' h'):Inv X pins σ H' {s with heap:=h',toks:=t'}:=by
 obtain⟨m,⟨o,es,ep,ho,r⟩,_⟩:=id I.loc;obtain⟨sl,hL⟩:=u.any ho I.free (by simp);exact I.step (g':=s.gens) (d':=s.drawn) (ch:= []) (λ_ z=>nomatch z) (λb o _ hb _ e n=>u.keep b o e n hb (by simp)) (λb o _ hb _ e n=>u.slot b o e n hb (by simp)) (λb o _ e n=>u.free b o e n (by simp)) (λb o _ e=>u.there b o e (by simp)) u.tups u.frzs u.tbls (λm' hm=>by
  obtain⟨o',es',ep',ho',r'⟩:=hm;rw [ho] at ho';cases ho';exact⟨_,es',ep',hL,r'⟩) hok I.bare
theorem Inv.call {g':Array GenState}{d':Drawn}{ch:List Addr}(I:Inv X pins σ H s)(u:Un (frs X.stack) ch H H' s.heap h')(hok:HOk X.prog X.w H' h')(hg:AllBare g')
 (hch: ∀b∈ch,(b∈X.ex\/X.s₀.heap.objs.size<=b)/\b≠X.env.locals/\(∀x c,X.env.cells.lookup x=some c->c≠b)/\ ∀p∈X.pn++pins,p.1≠b):
 Inv X pins σ H' {s with heap:=h',gens:=g',drawn:=d',toks:=t'}:=by
 obtain⟨m,⟨o,es,ep,ho,r⟩,_⟩:=id I.loc;obtain⟨sl,hL⟩:=u.any ho I.free λz=>(hch _ z).2.1 rfl
 exact I.step (ch:=ch) hch (λb o hL hb hc e n=>u.keep b o e n (λz=>(R0.mp (I.stkSub b z)).elim hL hb) hc) (λb o _ _ hc e n=>u.any e n hc) (λb o hc e n=>u.free b o e n hc) (λb o hc e=>u.there b o e hc) u.tups u.frzs u.tbls (λm' hm=>by
  obtain⟨o',es',ep',ho',r'⟩:=hm;rw [ho] at ho';cases ho';exact⟨_,es',ep',hL,r'⟩) hok hg
theorem Inv.turned {it:Addr}(I:Inv X pins σ H s)(k: ∀b o,b≠it->s.heap.get? b=some o->h'.get? b=some o)(hn:H it=none)(hL:it≠X.env.locals)
 (h1:it∈X.ex\/X.s₀.heap.objs.size<=it)(h2: ∀x c,X.env.cells.lookup x=some c->c≠it)(h3: ∀p∈X.pn++pins,p.1≠it):Inv X pins σ H {s with heap:=h',toks:=t'}:=by
 have nit: ∀b u,H b=some u->b≠it:=λb u e z=>by rw [z,hn] at e;cases e
 refine I.step (g':=s.gens) (d':=s.drawn) (ch:= [it]) (λb hb=> ?_) (λb o _ _ hc e _=>k b o (λz=>hc (by simp [z])) e) (λb o _ _ hc e _=>⟨o.slots,k b o (λz=>hc (by simp [z])) e⟩) (λ_ _ _ _ n=>n)
  (λb o hc e=>⟨o,k b o (λz=>hc (by simp [z])) e⟩) (λ_ _ e=>e) (λ_ _ _ e=>e) (λb ps e=>⟨#[],by rw [e];simp⟩) (λm hm=> ?_) (λb u e=> ?_) I.bare
 ·have e:b=it:=by simpa using hb
  subst e;exact⟨h1,hL,h2,h3⟩
 ·obtain⟨o,es,ep,ho,r⟩:=hm;exact⟨o,es,ep,k _ o (Ne.symm hL) ho,r⟩
 ·refine(I.hok b u e).stay (λc v hc q=>k c v ?_ q) (λ_ q=>q) λ_ _ q=>q
  rcases hc with z|z
  ·rw [z];exact nit b u e
  ·exact nit c _ z
theorem Inv.tok (I:Inv X pins σ H s)(t:Nat):Inv X pins σ H {s with toks:=t}:=I.un (h':=s.heap) (t':=t) Un.refl I.hok
theorem Inv.kept (I:Inv X pins σ H s)(k: ∀b u,s.heap.get? b=some u->h'.get? b=some u):Inv X pins σ H {s with heap:=h',toks:=t'}:=I.un (Un.kept k) (I.hok.kept k)
theorem Inv.laid {a:Addr}{o:HO}(I:Inv X pins σ H s)(k: ∀b u,s.heap.get? b=some u->h'.get? b=some u)(hp:s.heap.objs.size<=a)(new:ObjOk X.prog X.w (upd H a o) h' a o):
 Inv X pins σ (upd H a o) {s with heap:=h',toks:=t'}:=I.un (Un.laid k hp (I.hok.fresh hp)) (I.hok.laid k hp new)
theorem Inv.write {x e:Addr}{o:HO}(I:Inv X pins σ H s)(mu:Mut (H x))(he:e=x\/H e=some (.own x))(k: ∀b u,b≠e->s.heap.get? b=some u->h'.get? b=some u)(heo: ∃u,h'.get? e=some u)
 (new:ObjOk X.prog X.w (upd H x o) h' x o):Inv X pins σ (upd H x o) {s with heap:=h',toks:=t'}:=I.un (Un.write mu he k heo) (I.hok.write mu he k heo new)
theorem Inv.weak {σ':List (Option V)}(I:Inv X pins σ H s)(hl:σ'.length=σ.length)(w: ∀ (i:Nat) v,σ'[i]? =some (some v)->σ[i]? =some (some v)):Inv X pins σ' H s:=
 ⟨I.ok,I.os,I.bare,I.base,let ⟨m,hn,hl'⟩:=I.loc;⟨m,hn,λi x v e1 e2 e3=>hl' i x v e1 (w i v e2) e3⟩,I.cell,I.free,I.freeC,I.pin,I.hok,hl.trans I.len⟩
theorem Inv.pins_of {pins':List (Addr×Obj)}(I:Inv X pins σ H s)(h: ∀p∈pins',s.heap.get? p.1=some p.2/\H p.1=none/\p.1≠X.env.locals/\p.1 ∉ X.fs/\ ∀v,p.2.data≠ .cell v):Inv X pins' σ H s:=
 ⟨I.ok,I.os,I.bare,I.base,I.loc,I.cell,I.free,I.freeC,λp hp=>(P6.mp hp).elim (λz=>I.pin p (T8 _ z)) (h p),I.hok,I.len⟩
theorem DW {N:List Str}(hN:N.Nodup){i j:Nat}{x:Str}(a:N[i]? =some x)(b:N[j]? =some x):i=j:=by
 obtain⟨h1,e1⟩:=G7.mp a;obtain⟨h2,e2⟩:=G7.mp b;exact(List.getElem_inj hN).mp (e1.trans e2.symm)
theorem Nx {M:Model}{A:Around}{E:Value->Shared->Prop}{i:Nat}{x:Str}{v:V}{u:Value}{Q:Unit->Shared->Prop}(I:Inv X pins σ H s)(hN:X.N.Nodup)(hi:X.N[i]? =some x)(hx:Loc X.env.scope x)(r:RelV v u)
 (h: ∀s',Inv X pins (σ.set i (some v)) H s'->(∃a,Heap.SameBut a s.heap s'.heap/\(a=X.env.locals\/X.env.cells.lookup x=some a))->Q () s')(hf:X.fn x=true\/X.env.scope.names.lookup x=some .local:=by first|exact .inl rfl|exact .inr rfl|assumption):wpAny M A (storeName X.env x u) Q E s:=by
 obtain⟨m,hn,hl⟩:=id I.loc;have hcls:(X.env.scope.kind== .class||(X.env.scope.kind== .module&&X.env.locals !=X.env.globals))=false:=by rw [I.ok.kind];rfl
 have hiσ:i<σ.length:=by rw [I.len];exact(G7.mp hi).1
 have cne:=I.cne;have tracked: ∀ {a:Addr} {h':Heap},(∃o,s.heap.get? a=some o/\H a=none)->Heap.SameBut a s.heap h'->HOk X.prog X.w H h':=λ{a h'} ha hs b ob e=>by
  obtain⟨_,_,hfree⟩:=ha;refine(I.hok b ob e).stay (λc w' hc q=>(hs.2 c ?_).trans q) (λ_ q=>q) λ_ _ q=>q
  rintro rfl;rcases hc with rfl|hc
  ·rw [hfree] at e;cases e
  ·rw [hfree] at hc;cases hc
 rcases hx with hk|hk
 ·refine wpAny_storeName_local hk hn (λh' hn' hs=> ?_) hcls;obtain⟨oL,_,_,hoL,_⟩:=id hn;refine h _ ⟨I.ok,I.os,I.bare,⟨λb o e n hb hx=> ?_,λb o e n hb hx=> ?_,I.base.free,λb o e hx=> ?_,I.base.tups,I.base.frzs,I.base.tbls⟩,⟨_,hn',λj y v' e1 e2 e3=> ?_⟩,λy c e=> ?_,I.free,I.freeC,λp hp=> ?_,tracked ⟨oL,hoL,I.free⟩ hs,by simpa using I.len⟩ ⟨_,hs,.inl rfl⟩
  ·exact(hs.2 b (S4 (S6 (D3 e) I.ok.above))).trans (I.base.keep b o e n hb hx)
  ·obtain⟨sl,e1⟩:=I.base.slot b o e n hb hx;exact⟨sl,(hs.2 b (S4 (S6 (D3 e) I.ok.above))).trans e1⟩
  ·obtain⟨o',e1⟩:=I.base.there b o e hx;exact⟨o',(hs.2 b (S4 (S6 (D3 e) I.ok.above))).trans e1⟩
  ·by_cases hj:j=i
   ·subst hj;rw [hi] at e1;cases e1;rw [X3 hiσ] at e2;cases e2;exact⟨u,r,.inl ⟨hk,by simp⟩⟩
   ·rw [F4 (Ne.symm hj)] at e2;obtain⟨u',r',q⟩:=hl j y v' e1 e2 e3;refine⟨u',r',?_⟩;rcases q with ⟨k,e⟩|⟨k,c,e,z⟩
    ·refine .inl ⟨k,?_⟩;have:y≠x:=λe=>hj (DW hN e1 (e ▸ hi))
     simp [this,e]
    ·exact .inr ⟨k,c,e,z.sameBut hs (cne y c e)⟩
  ·obtain⟨w',z⟩:=I.cell y c e;exact⟨w',z.sameBut hs (cne y c e)⟩
  ·obtain⟨e,n,ne,nf,d⟩:=I.pin p hp;exact⟨(hs.2 p.1 ne).trans e,n,ne,nf,d⟩
 ·have hfn:X.fn x=true:=by
   rcases hf with z|z
   ·exact z
   ·rw [z] at hk;cases hk
  obtain⟨c,hc⟩:=I.ok.has x (.inl hk);obtain⟨w',z⟩:=I.cell x c hc;refine wpAny_storeName_cell I.ok.kind hk hc z (λh' hc' hs=> ?_);obtain⟨oc,hoc,hocd⟩:=id z;refine h {s with heap:=h'} ⟨I.ok,I.os,I.bare,⟨λb o e n hb hx=> ?_,λb o e n hb hx=> ?_,I.base.free,λb o e hx=> ?_,I.base.tups,I.base.frzs,I.base.tbls⟩,⟨m,hn.sameBut hs (Ne.symm (cne x c hc)),λj y v' e1 e2 e3=> ?_⟩,λy c' e=> ?_,I.free,I.freeC,λp hp=> ?_,tracked ⟨oc,hoc,I.freeC x c hc⟩ hs,by simpa using I.len⟩ ⟨c,hs,.inr hc⟩
  ·exact(hs.2 b (S4 (S6 (D3 e) (I.ok.cab x c hfn hc)))).trans (I.base.keep b o e n hb hx)
  ·obtain⟨sl,e1⟩:=I.base.slot b o e n hb hx;exact⟨sl,(hs.2 b (S4 (S6 (D3 e) (I.ok.cab x c hfn hc)))).trans e1⟩
  ·obtain⟨o',e1⟩:=I.base.there b o e hx;exact⟨o',(hs.2 b (S4 (S6 (D3 e) (I.ok.cab x c hfn hc)))).trans e1⟩
  ·by_cases hj:j=i
   ·subst hj;rw [hi] at e1;cases e1;rw [X3 hiσ] at e2;cases e2;exact⟨u,r,.inr ⟨.inl hk,c,hc,hc'⟩⟩
   ·rw [F4 (Ne.symm hj)] at e2;obtain⟨u',r',q⟩:=hl j y v' e1 e2 e3;refine⟨u',r',?_⟩;rcases q with q|⟨k,c',e,z'⟩
    ·exact .inl q
    ·refine .inr ⟨k,c',e,z'.sameBut hs ?_⟩;rintro rfl;exact hj (DW hN e1 (I.ok.inj _ _ _ e hc ▸ hi))
  ·by_cases hcc:c'=c
   ·subst hcc;exact⟨_,hc'⟩
   ·obtain⟨w2,z2⟩:=I.cell y c' e;exact⟨w2,z2.sameBut hs hcc⟩
  ·obtain⟨e,n,ne,nf,d⟩:=I.pin p hp;refine⟨(hs.2 p.1 ?_).trans e,n,ne,nf,d⟩;intro q;rw [q,hoc] at e;have q':oc=p.2:=N3 e;exact d w' (by rw [<-q'];exact hocd)
theorem ZE {M:Model}{A:Around}{E:Value->Shared->Prop}{i:Nat}{x:Str}{v:V}{u:Value}{Q:Unit->Shared->Prop}(I:Inv X pins σ H s)(hN:X.N.Nodup)(hi:X.N[i]? =some x)(hx:Loc X.env.scope x)(r:RelV v u)
 (h: ∀s',Inv X pins (σ.set i (some v)) H s'->Q () s')(hf:X.fn x=true\/X.env.scope.names.lookup x=some .local:=by first|exact .inl rfl|exact .inr rfl|assumption):wpAny M A (storeName X.env x u) Q E s:=
 Nx I hN hi hx r (λs' I' _=>h s' I') hf
theorem Inv.call' {s':Shared}{ch:List Addr}(I:Inv X pins σ H s)(ho:s'.os=s.os)(u:Un (frs X.stack) ch H H' s.heap s'.heap)(hok:HOk X.prog X.w H' s'.heap)(hg:AllBare s'.gens)
 (hch: ∀b∈ch,(b∈X.ex\/X.s₀.heap.objs.size<=b)/\b≠X.env.locals/\(∀x c,X.env.cells.lookup x=some c->c≠b)/\ ∀p∈X.pn++pins,p.1≠b):Inv X pins σ H' s':=by
 obtain⟨h',g',d',t',o'⟩:=s';have e:o'=s.os:=ho;subst e;exact I.call (g':=g') (t':=t') (d':=d') u hok hg hch
end
abbrev XK:=Value->Option Addr->Hp->Prop
abbrev St:=List (Option V)
abbrev VK:=V->Hp->Prop
abbrev TE:=St->Hp->VK->Prop
abbrev TT:=St->Hp->(Bool->Hp->Prop)->Prop
abbrev TA:=St->Hp->(List V->Hp->Prop)->Prop
structure Ends where
 nx:St->Hp->Prop
 rt:VK
 bk:St->Hp->Prop:=λ_ _=>False
 ct:St->Hp->Prop:=λ_ _=>False
abbrev TS:=Ends->St->Hp->Prop
def EP (X:Cx)(pins:List (Addr×Obj))(σ:St)(Q:VK)(u:Value)(s':Shared):Prop:= ∃v H',Inv X pins σ H' s'/\RelV v u/\Q v H'
def TP (X:Cx)(pins:List (Addr×Obj))(σ:St)(Q:Bool->Hp->Prop)(b:Bool)(s':Shared):Prop:= ∃H',Inv X pins σ H' s'/\Q b H'
def AP (X:Cx)(pins:List (Addr×Obj))(σ:St)(Q:List V->Hp->Prop)(us:List Value)(s':Shared):Prop:= ∃vs H',Inv X pins σ H' s'/\Vals vs us/\Q vs H'
def SP (X:Cx)(pins:List (Addr×Obj))(D:Ends)(f:Flow)(s':Shared):Prop:=
 match f with
 | .next=> ∃σ' H',Inv X pins σ' H' s'/\D.nx σ' H'
 | .brk=> ∃σ' H',Inv X pins σ' H' s'/\D.bk σ' H'
 | .cont=> ∃σ' H',Inv X pins σ' H' s'/\D.ct σ' H'
 | .ret u=> ∃v σ' H',Inv X pins σ' H' s'/\RelV v u/\D.rt v H'
def PE (X:Cx)(e:Expr)(t:TE):Prop:=
 ∀ (pins:List (Addr×Obj)) (s:Shared) (σ:St) (H:Hp) (Q:VK),Inv X pins σ H s->t σ H Q->wpAny (model X.prog X.w) X.A (eval e X.env) (EP X pins σ Q) X.xe s
def PT (X:Cx)(e:Expr)(t:TT):Prop:=
 ∀ (pins:List (Addr×Obj)) (s:Shared) (σ:St) (H:Hp) (Q:Bool->Hp->Prop),Inv X pins σ H s->t σ H Q->wpAny (model X.prog X.w) X.A (isTrue e X.env (eval e X.env)) (TP X pins σ Q) X.xe s
def PW (X:Cx)(e:Expr)(t:TT):Prop:=
 ∀ (whole:Sem Value) (pins:List (Addr×Obj)) (s:Shared) (σ:St) (H:Hp) (Q:Bool->Hp->Prop),Inv X pins σ H s->t σ H Q->wpAny (model X.prog X.w) X.A (isTrue e X.env whole) (TP X pins σ Q) X.xe s
variable {X:Cx}
theorem PW.pt {e:Expr}{t:TT}(h:PW X e t):PT X e t:=h _
def PA (X:Cx)(es:List Expr)(t:TA):Prop:=
 ∀ (pos:Pos) (pins:List (Addr×Obj)) (s:Shared) (σ:St) (H:Hp) (Q:List V->Hp->Prop),Inv X pins σ H s->t σ H Q->wpAny (model X.prog X.w) X.A (spliced (backTo pos (starEach es X.env))) (AP X pins σ Q) X.xe s
def PS (X:Cx)(st:Stmt)(t:TS):Prop:=
 ∀ (pins:List (Addr×Obj)) (s:Shared) (σ:St) (H:Hp) (D:Ends),Inv X pins σ H s->t D σ H->wpAny (model X.prog X.w) X.A (exec st X.env) (SP X pins D) X.xe s
def PSs (X:Cx)(st:List Stmt)(t:TS):Prop:=
 ∀ (pins:List (Addr×Obj)) (s:Shared) (σ:St) (H:Hp) (D:Ends),Inv X pins σ H s->t D σ H->wpAny (model X.prog X.w) X.A (execs st X.env) (SP X pins D) X.xe s
variable {A:Around}{s:Shared}
theorem thn {α:Type}{t:Sem α}{Q Q':α->Shared->Prop}{M:Model}{E:Value->Shared->Prop}(h:wpAny M A t Q E s)(hQ: ∀a s,Q a s->Q' a s):wpAny M A t Q' E s:=S0 h hQ λ_ _ x=>x
section
variable {X:Cx}
def kQ (i:Nat):TE:=λσ H Q=> ∃v,σ[i]? =some (some v)/\Q v H
def tC (v:V):TE:=λ_ H Q=>Q v H
variable {x:Str}
theorem Ai {i:Nat}{pos:Pos}(hN:X.N[i]? =some x)(hv:Vis X.env.scope x)(hd:(x==("__debug__" :Str))=false:=by decide)(hcd:(x==("__classdict__" :Str))=false:=by decide):PE X (.Name x pos) (kQ i):=by
 intro pins s σ H Q I h;obtain⟨v,e,h⟩:=h;obtain⟨m,hn,hl⟩:=I.loc;obtain⟨u,r,l⟩:=hl i x v hN e hv;have fin:EP X pins σ Q u s:=⟨v,H,I,r,h⟩;rcases l with ⟨hk,hm⟩|⟨hk,c,hc,hcell⟩
 ·exact wpAny_Name (wpAny_loadName_local I.ok.kind hk hn hm fin) hd
 ·rcases hk with hk|hk
  ·exact wpAny_Name (wpAny_loadName_cell I.ok.kind hk hc hcell fin) hd
  ·exact wpAny_Name (wpAny_loadName_free I.ok.kind hk hc hcell fin hcd) hd
theorem pe_int {i j pos}:PE X (.Constant (.int i) j pos) (tC (.int i)):=λ_ _ _ H _ I h=>wpAny_Constant_int ⟨.int i,H,I.tok _,⟨_,rfl⟩,h⟩
theorem pe_bl {b j pos}:PE X (.Constant (.bool b) j pos) (tC (.bl b)):=λ_ _ _ H _ I h=>Constant_bool ⟨.bl b,H,I,rfl,h⟩
def Gl (X:Cx)(x:Str):Prop:=X.env.kindOf x=some .globalImplicit
variable {u:Value}
theorem Ny {E:Value->Shared->Prop}{pins:List (Addr×Obj)}{s:Shared}{σ:St}{H:Hp}{pos:Pos}{Q:Value->Shared->Prop}(I:Inv X pins σ H s)(hg:Gl X x)(hm:X.mg x=some u)(h:Q u s)
 (hd:(x==("__debug__" :Str))=false:=by decide):wpAny (model X.prog X.w) X.A (eval (.Name x pos) X.env) Q E s:=
 G0n I.ok.kind hg (Calls.loadGlobal_global (by rw [I.ok.glob];exact I.mod.glob.keeps I.bk) hm h) hd
theorem WP {E:Value->Shared->Prop}{pins:List (Addr×Obj)}{s:Shared}{σ:St}{H:Hp}{pos:Pos}{Q:Value->Shared->Prop}(I:Inv X pins σ H s)(hg:Gl X x)(hm:X.mg x=none)(hv:bootBuiltins x=some u)(h:Q u s)
 (hn:x≠ "__name__" :=by decide)(hd:(x==("__debug__" :Str))=false:=by decide):wpAny (model X.prog X.w) X.A (eval (.Name x pos) X.env) Q E s:=by
 obtain⟨mb,h1,h2⟩:=I.mod.blt;exact G0n I.ok.kind hg (Calls.loadGlobal_builtin (by rw [I.ok.glob];exact I.mod.glob.keeps I.bk) hm (by rw [I.ok.blt];exact h1.keeps I.bk) ((h2 x hn).trans hv) h) hd
theorem AT {v:V}{pos:Pos}(hg:Gl X x)(hm:X.mg x=some u)(r:RelV v u)(hd:(x==("__debug__" :Str))=false:=by decide):PE X (.Name x pos) (tC v):=
 λ_ _ _ H _ I h=>Ny I hg hm ⟨v,H,I,r,h⟩ hd
theorem AU {v:V}{pos:Pos}(hg:Gl X x)(hm:X.mg x=none)(hv:bootBuiltins x=some u)(r:RelV v u)(hn:x≠ "__name__" :=by decide)(hd:(x==("__debug__" :Str))=false:=by decide):PE X (.Name x pos) (tC v):=
 λ_ _ _ H _ I h=>WP I hg hm hv ⟨v,H,I,r,h⟩ hn hd
variable {a b:Expr}{ta tb:TE}{pos:Pos}
def tB (t:TE):TT:=λσ H Q=>t σ H λx H1=> ∃c,x= .bl c/\Q c H1
theorem TC {e:Expr}{t:TE}(h:PE X e t)(he: ∀whole,isTrue e X.env whole=(do let v <-whole;standAt e.pos;holding [v] (truthy v)):=by intro _;rfl):PT X e (tB t):=by
 intro pins s σ H Q I hw;refine isTrue_plain (thn (h pins s σ H _ I hw) λv s1 ⟨x,H1,I1,r1,q1⟩=> ?_) (he _);obtain⟨d,rfl,q⟩:=q1;cases r1;exact B0 ⟨H1,I1,q⟩
variable {tA tB':TT}{rest:List Expr}
def xC (t u:TT):TT:=λσ H Q=>t σ H λc H1=>if c=true then u σ H1 Q else Q false H1
def tOr (t u:TT):TT:=λσ H Q=>t σ H λc H1=>if c=true then Q true H1 else u σ H1 Q
def xD (t:TT):TT:=λσ H Q=>t σ H λc H1=>Q (!c) H1
theorem AV (ha:PT X a tA):PW X (.BoolOp .And [a] pos) tA:=by
 intro wh pins s σ H Q I h;refine isTrue_and (thn (ha pins s σ H Q I h) λc s1 e=> ?_);cases c with
 |true=>exact isTrue_and_nil e
 |false=>exact e
theorem TD (ha:PT X a tA):PW X (.BoolOp .Or [a] pos) tA:=by
 intro wh pins s σ H Q I h;refine isTrue_or (thn (ha pins s σ H Q I h) λc s1 e=> ?_);cases c with
 |false=>exact isTrue_or_nil e
 |true=>exact e
theorem TF (ha:PT X a tA)(hb:PW X (.BoolOp .And (b::rest) pos) tB'):PW X (.BoolOp .And (a::b::rest) pos) (xC tA tB'):=by
 intro wh pins s σ H Q I h;refine isTrue_and (thn (ha pins s σ H _ I h) λc s1 ⟨H1,I1,q1⟩=> ?_);cases c with
 |true=>exact hb wh pins s1 σ H1 Q I1 q1
 |false=>exact⟨H1,I1,q1⟩
theorem kS (ha:PT X a tA)(hb:PW X (.BoolOp .Or (b::rest) pos) tB'):PW X (.BoolOp .Or (a::b::rest) pos) (tOr tA tB'):=by
 intro wh pins s σ H Q I h;refine isTrue_or (thn (ha pins s σ H _ I h) λc s1 ⟨H1,I1,q1⟩=> ?_);cases c with
 |true=>exact⟨H1,I1,q1⟩
 |false=>exact hb wh pins s1 σ H1 Q I1 q1
theorem TH (ha:PT X a tA):PT X (.UnaryOp .Not a pos) (xD tA):=by
 intro pins s σ H Q I h;exact isTrue_not (ha pins s σ H (λc H1=>Q (!c) H1) I h)
def TJ (ta tb:TE):TE:=λσ H Q=>ta σ H λx H1=> ∃c,x= .bl c/\if c=true then tb σ H1 Q else Q (.bl false) H1
def xE (ta tb:TE):TE:=λσ H Q=>ta σ H λx H1=> ∃c,x= .bl c/\if c=true then Q (.bl true) H1 else tb σ H1 Q
def TK (ta:TE):TE:=λσ H Q=>ta σ H λx H1=> ∃c,x= .bl c/\Q (.bl (!c)) H1
theorem TL {op}{t:TE}(h:PE X a t):PE X (.BoolOp op [a] pos) t:=λpins s σ H Q I hw=>BoolOp_one (h pins s σ H Q I hw)
theorem TN (ha:PE X a ta)(hb:PE X (.BoolOp .And (b::rest) pos) tb):PE X (.BoolOp .And (a::b::rest) pos) (TJ ta tb):=by
 intro pins s σ H Q I h;refine BoolOp_and (thn (ha pins s σ H _ I h) λv s1 ⟨x,H1,I1,r1,q1⟩=> ?_);obtain⟨c,rfl,q1⟩:=q1;cases r1;refine B0 ?_;cases c with
 |true=>exact hb pins s1 σ H1 Q I1 q1
 |false=>exact⟨.bl false,H1,I1,rfl,q1⟩
theorem kT (ha:PE X a ta)(hb:PE X (.BoolOp .Or (b::rest) pos) tb):PE X (.BoolOp .Or (a::b::rest) pos) (xE ta tb):=by
 intro pins s σ H Q I h;refine BoolOp_or (thn (ha pins s σ H _ I h) λv s1 ⟨x,H1,I1,r1,q1⟩=> ?_);obtain⟨c,rfl,q1⟩:=q1;cases r1;refine B0 ?_;cases c with
 |false=>exact hb pins s1 σ H1 Q I1 q1
 |true=>exact⟨.bl true,H1,I1,rfl,q1⟩
theorem TQ (ha:PE X a ta):PE X (.UnaryOp .Not a pos) (TK ta):=by
 intro pins s σ H Q I h;refine UnaryOp_ (thn (ha pins s σ H _ I h) λv s1 ⟨x,H1,I1,r1,q1⟩=> ?_);obtain⟨c,rfl,q1⟩:=q1;cases r1;exact not_of (B0 ⟨.bl (!c),H1,I1,rfl,q1⟩)
end
def SqL (K:PySem.W.Frag)(H:Hp)(a:Addr)(xs:List V):Prop:=
 Rd H a (.lst xs)\/
  ∃ (o:Obj) (its:Array Value) (n:Nat),K.lookup a=some o/\o.cls= .type "list" /\o.dict=none/\o.data= .seq its n/\its.size<=sizeLine/\Vals xs its.toList
def SqT (K:PySem.W.Frag)(H:Hp)(a:Addr)(xs:List V):Prop:=
 Rd H a (.tup xs)\/
  ∃ (o:Obj) (its:Array Value) (n:Nat),K.lookup a=some o/\o.cls= .type "tuple" /\o.data= .seq its n/\its.size<=sizeLine/\Vals xs its.toList
def qB:Value->Option V
 | .none=>some .non
 | .bool b=>some (.bl b)
 | .int i _=>some (.int i)
 | .str x _=>some (.str x)
 | .bytes b _=>some (.byt b)
 | .float b _=>some (.flt b)
 | .ref a=>some (.ref a)
 | .type n=>some (.ty n)
 |_=>none
theorem RelV.abs {x:V}(r:RelV x u):qB u=some x:=by
 cases x with
 |non=>cases r;rfl
 |bl _=>cases r;rfl
 |int _=>obtain⟨t,rfl⟩:=r;rfl
 |str _=>obtain⟨t,rfl⟩:=r;rfl
 |byt _=>obtain⟨t,rfl⟩:=r;rfl
 |flt _=>obtain⟨t,rfl⟩:=r;rfl
 |ref _=>cases r;rfl
 |ty _=>cases r;rfl
theorem RelV.inj {x y:V}(r:RelV x u)(q:RelV y u):x=y:=N3 (r.abs.symm.trans q.abs)
theorem Vals.inj: ∀ {xs ys:List V} {us:List Value},Vals xs us->Vals ys us->xs=ys
 |_,_,_,.nil,.nil=>rfl
 |_,_,_,.cons r t,.cons r' t'=>by rw [r.inj r',Vals.inj t t']
section
variable {X:Cx}{pins:List (Addr×Obj)}{σ:St}{H:Hp}{s:Shared}{a:Addr}{xs ys:List V}
theorem SqL.of {K:PySem.W.Frag}(h:H a=some (.lst xs)):SqL K H a xs:= .inl (.inl h)
theorem SqT.of {K:PySem.W.Frag}(h:H a=some (.tup xs)):SqT K H a xs:= .inl (.inl h)
theorem Inv.list (I:Inv X pins σ H s)(h:SqL X.K H a xs): ∃its:List Value,Vals xs its/\PlainL s.heap a its.toArray/\xs.length<=sizeLine:=by
 rcases h with h|⟨o,its,n,hk,hc,hd,hs,hz,r⟩
 ·obtain⟨z,its,n,r,e⟩:=h.ok I.hok;exact⟨its,r,⟨_,n,e,rfl,rfl,rfl⟩,z⟩
 ·refine⟨its.toList,r,⟨o,n,I.kIn a o hk,hc,hd,by simpa using hs⟩,?_⟩;have e:=r.length;simp only [T7] at e;omega
theorem Inv.tuple (I:Inv X pins σ H s)(h:SqT X.K H a xs): ∃its:List Value,Vals xs its/\IsTup s.heap a its.toArray/\xs.length<=sizeLine:=by
 rcases h with h|⟨o,its,n,hk,hc,hs,hz,r⟩
 ·obtain⟨z,its,r,p⟩:=h.ok I.hok;exact⟨its,r,p.tup,z⟩
 ·refine⟨its.toList,r,⟨o,I.kIn a o hk,hc,n,by simpa using hs⟩,?_⟩;have e:=r.length;simp only [T7] at e;omega
theorem Inv.list_inj (I:Inv X pins σ H s)(h:SqL X.K H a xs)(h':SqL X.K H a ys):xs=ys:=by
 obtain⟨its,r,⟨o,n,e,_,_,d⟩,_⟩:=I.list h;obtain⟨its',r',⟨o',n',e',_,_,d'⟩,_⟩:=I.list h';rw [e] at e';cases e';rw [d] at d';injection d' with d1 _
 have:its=its':=by simpa using congrArg Array.toList d1
 subst this;exact r.inj r'
theorem Inv.tuple_inj (I:Inv X pins σ H s)(h:SqT X.K H a xs)(h':SqT X.K H a ys):xs=ys:=by
 obtain⟨its,r,⟨o,e,_,n,d⟩,_⟩:=I.tuple h;obtain⟨its',r',⟨o',e',_,n',d'⟩,_⟩:=I.tuple h';rw [e] at e';cases e';rw [d] at d';injection d' with d1 _
 have:its=its':=by simpa using congrArg Array.toList d1
 subst this;exact r.inj r'
end
abbrev Cx.wish (X:Cx)(E:Value->Shared->Prop):Cx:= {X with xe:=E}
abbrev Cx.nox (X:Cx):Cx:=X.wish λ_ _=>False
theorem Cx.Ok.wish (ok:X.Ok)(E:Value->Shared->Prop):(X.wish E).Ok:=
 ⟨ok.mod,ok.kind,ok.glob,ok.blt,ok.above,ok.inj,ok.has,ok.cab,ok.hd,ok.frames,ok.stk,ok.exf,ok.bs,ok.bsz,ok.noex,ok.exfs,ok.funs,ok.frf⟩
theorem Cx.Ok.unwish {E:Value->Shared->Prop}(ok:(X.wish E).Ok):X.Ok:=
 ⟨ok.mod,ok.kind,ok.glob,ok.blt,ok.above,ok.inj,ok.has,ok.cab,ok.hd,ok.frames,ok.stk,ok.exf,ok.bs,ok.bsz,ok.noex,ok.exfs,ok.funs,ok.frf⟩
section
variable {X:Cx}{pins:List (Addr×Obj)}{σ:St}{H:Hp}{s:Shared}{E:Value->Shared->Prop}
theorem Inv.wish (I:Inv X pins σ H s)(E:Value->Shared->Prop):Inv (X.wish E) pins σ H s:=⟨I.ok.wish E,I.os,I.bare,I.base,I.loc,I.cell,I.free,I.freeC,I.pin,I.hok,I.len⟩
theorem Inv.unwish (I:Inv (X.wish E) pins σ H s):Inv X pins σ H s:=⟨I.ok.unwish,I.os,I.bare,I.base,I.loc,I.cell,I.free,I.freeC,I.pin,I.hok,I.len⟩
theorem SP.unwish {D:Ends}{f:Flow}{s':Shared}(h:SP (X.wish E) pins D f s'):SP X pins D f s':=by
 cases f with
 |next=>obtain⟨σ',H',I,q⟩:=h;exact⟨σ',H',I.unwish,q⟩
 |brk=>obtain⟨σ',H',I,q⟩:=h;exact⟨σ',H',I.unwish,q⟩
 |cont=>obtain⟨σ',H',I,q⟩:=h;exact⟨σ',H',I.unwish,q⟩
 |ret u=>obtain⟨v,σ',H',I,r,q⟩:=h;exact⟨v,σ',H',I.unwish,r,q⟩
theorem PSs.nox {st:List Stmt}{t:TS}(h:PSs X.nox st t):PSs X st t:=λpins s σ H D I hw=>
 S0 (h pins s σ H D (I.wish _) hw) (λ_ _ q=>q.unwish) λ_ _ z=>False.elim z
end
section
variable {X:Cx}{st:Stmt}{rest:List Stmt}{t u:TS}{e:Expr}{te:TE}{pos:Pos}
def TR:TS:=λD σ H=>D.nx σ H
def xF (t u:TS):TS:=λD σ H=>t {D with nx:=u D} σ H
theorem pss_nil:PSs X [] TR:=λ_ _ σ H _ I h=>G0e ⟨σ,H,I,h⟩
theorem FR (h1:PS X st t)(h2:PSs X rest u):PSs X (st::rest) (xF t u):=by
 intro pins s σ H D I h;refine wpAny_execs_cons (thn (h1 pins s σ H {D with nx:=u D} I h) λf s1 q=> ?_);cases f with
 |next=>
  obtain⟨σ',H',I',q⟩:=q;exact h2 pins s1 σ' H' D I' q
 |ret v=>exact q
 |brk=>exact q
 |cont=>exact q
theorem AW (h1:PS X st t):PSs X [st] t:=by
 intro pins s σ H D I h;refine wpAny_execs_cons (thn (h1 pins s σ H D I h) λf s1 q=> ?_);cases f with
 |next=>exact G0e q
 |ret v=>exact q
 |brk=>exact q
 |cont=>exact q
theorem Inv.quiet {pins:List (Addr×Obj)}{σ:St}{H:Hp}{s:Shared}(I:Inv X pins σ H s):interactive X.env=false:=by simp [interactive,I.ok.kind]
def TU (te:TE):TS:=λD σ H=>te σ H λ_ H1=>D.nx σ H1
theorem AX (he:PE X e te)(hs:swapsWith e none pos.line X.env=pure false:=by rfl):PS X (.Expr e pos) (TU te):=by
 intro pins s σ H D I h;exact wpAny_Expr_any (thn (he pins s σ H _ I h) λv s1 ⟨x,H1,I1,r1,q1⟩=>⟨σ,H1,I1,q1⟩) I.quiet hs
def xG (te:TE):TS:=λD σ H=>te σ H D.rt
theorem TV (he:PE X e te):PS X (.Return (some e) pos) (xG te):=by
 intro pins s σ H D I h;exact wpAny_Return_some (thn (he pins s σ H _ I h) λv s1 ⟨x,H1,I1,r1,q1⟩=>⟨x,σ,H1,I1,r1,q1⟩)
def xH (c:TT)(t u:TS):TS:=λD σ H=>c σ H λb H1=>if b=true then t D σ H1 else u D σ H1
theorem kU {c:Expr}{a b:List Stmt}{tc:TT}(hc:PT X c tc)(ha:PSs X a t)(hb:PSs X b u):PS X (.If c a b pos) (xH tc t u):=by
 intro pins s σ H D I h;refine wpAny_If (thn (hc pins s σ H _ I h) λd s1 ⟨H1,I1,q1⟩=> ?_);cases d with
 |true=>exact ha pins s1 σ H1 D I1 q1
 |false=>exact hb pins s1 σ H1 D I1 q1
end
abbrev TG:=V->St->Hp->(St->Hp->Prop)->Prop
abbrev TGs:=List V->St->Hp->(St->Hp->Prop)->Prop
def PG (X:Cx)(target:Expr)(t:TG):Prop:=
 ∀ (pins:List (Addr×Obj)) (s:Shared) (σ:St) (H:Hp) (v:V) (u:Value) (Q:St->Hp->Prop),Inv X pins σ H s->RelV v u->t v σ H Q->
  wpAny (model X.prog X.w) X.A (assign target X.env u) (λ_ s'=> ∃σ' H',Inv X pins σ' H' s'/\Q σ' H') X.xe s
def PGs (X:Cx)(ts:List Expr)(t:TGs):Prop:=
 ∀ (pins:List (Addr×Obj)) (s:Shared) (σ:St) (H:Hp) (vs:List V) (us:List Value) (Q:St->Hp->Prop),Inv X pins σ H s->Vals vs us->t vs σ H Q->
  wpAny (model X.prog X.w) X.A (assignInOrder ((assignEach ts X.env).map (·.2)) us) (λ_ s'=> ∃σ' H',Inv X pins σ' H' s'/\Q σ' H') X.xe s
abbrev kX:=V->V->V->Hp->(Hp->Prop)->Prop
def xI (X:Cx)(t:kX):Prop:=
 ∀ (pins:List (Addr×Obj)) (s:Shared) (σ:St) (H:Hp) (o i v:V) (ov iv u:Value) (Q:Hp->Prop),Inv X pins σ H s->RelV o ov->RelV i iv->RelV v u->t o i v H Q->
  wpAny (model X.prog X.w) X.A (setItem ov iv u) (λ_ s'=> ∃H',Inv X pins σ H' s'/\Q H') X.xe s
abbrev TIp:=V->V->Hp->VK->Prop
def PIp (X:Cx)(op:Operator)(t:TIp):Prop:=
 ∀ (pins:List (Addr×Obj)) (s:Shared) (σ:St) (H:Hp) (x y:V) (v u:Value) (Q:VK),Inv X pins σ H s->RelV x v->RelV y u->t x y H Q->
  wpAny (model X.prog X.w) X.A (inplaceOp op v u) (EP X pins σ Q) X.xe s
section
variable {X:Cx}{pos:Pos}
def yF (i:Nat):TG:=λv σ H Q=>Q (σ.set i (some v)) H
variable {i:Nat}{x:Str}
theorem JH (hN:X.N.Nodup)(hi:X.N[i]? =some x)(hx:Loc X.env.scope x)(hf:X.fn x=true\/X.env.scope.names.lookup x=some .local:=by first|exact .inl rfl|exact .inr rfl|assumption):PG X (.Name x pos) (yF i):=by
 intro pins s σ H v u Q I r h;exact wpAny_assign_Name (ZE I hN hi hx r (λs' I'=>⟨_,H,I',h⟩) hf)
def kY:TGs:=λvs σ H Q=>vs= []/\Q σ H
def Nz (t:TG)(u:TGs):TGs:=λvs σ H Q=> ∃v r,vs=v::r/\t v σ H λσ' H'=>u r σ' H' Q
theorem NA:PGs X [] kY:=by
 intro pins s σ H vs us Q I r h;obtain⟨e,h⟩:=h;subst e;cases r;exact assignInOrder_nil ⟨σ,H,I,h⟩
variable {e:Expr}
theorem Yr {es:List Expr}{t:TG}{u:TGs}(h1:PG X e t)(h2:PGs X es u)
 (hs:(assignEach (e::es) X.env).map (·.2)=assign e X.env::(assignEach es X.env).map (·.2):=by rfl):PGs X (e::es) (Nz t u):=by
 intro pins s σ H vs us Q I r h;obtain⟨v,vr,e1,h⟩:=h;subst e1;cases r with
 |cons r rr=>
  rw [hs];refine G0t (thn (h1 pins s σ H _ _ _ I r h) λ_ s1 ⟨σ1,H1,I1,q1⟩=> ?_);exact h2 pins s1 σ1 H1 _ _ Q I1 rr q1
def kZ (K:PySem.W.Frag)(n:Nat)(t:TGs):TG:=λv σ H Q=> ∃a xs,v= .ref a/\SqT K H a xs/\xs.length=n/\t xs σ H Q
theorem Aj {es:List Expr}{k:Nat}{t:TGs}{n:Nat}(hc:X.calm=true)(h:PGs X es t)
 (hn:(assignEach es X.env).length=n:=by rfl)(hst:(assignEach es X.env).findIdx? (·.1)=none:=by rfl):PG X (.Tuple es k pos) (kZ X.K n t):=by
 intro pins s σ H v u Q I r hw;obtain⟨a,xs,e1,hq,hl,hw⟩:=hw;subst e1;cases r;obtain⟨its,rv,ht,hz⟩:=I.tuple hq;refine assign_Tuple_tuple (I.ok.hd hc) ht (by simp [hn,<-hl,rv.length]) hst λh' hx=> ?_
 have I1:Inv X pins σ H {s with heap:=h'}:=I.kept (t':=s.toks) λb o e=>hx b o (S4 (D3 e)) e
 exact h pins _ σ H xs _ Q I1 (by simpa using rv) hw
def qC (to ti:TE)(t:kX):TG:=λv σ H Q=>to σ H λo H1=>ti σ H1 λi H2=>t o i v H2 λH3=>Q σ H3
theorem TW {o i:Expr}{to ti:TE}{t:kX}(ho:PE X o to)(hi:PE X i ti)(hs:xI X t)
 (ha: ∀v,assign (.Subscript o i pos) X.env v=(do
  let ov <-holding [v] (eval o X.env)
  let iv <-holding [v,ov] (eval i X.env)
  standAt pos
  holding [v,ov,iv] (setItem ov iv v)
  release [v,ov,iv] []):=by intro _;rfl):PG X (.Subscript o i pos) (qC to ti t):=by
 intro pins s σ H v u Q I r h;rw [ha];refine wpAny_bind (C0 (thn (ho pins s σ H _ I h) λov s1 ⟨x,H1,I1,r1,q1⟩=> ?_));refine wpAny_bind (C0 (thn (hi pins s1 σ H1 _ I1 q1) λiv s2 ⟨y,H2,I2,r2,q2⟩=> ?_));refine wpAny_bind (V8 (wpAny_bind (C0 (thn (hs pins s2 σ H2 x y v ov iv u _ I2 r1 r2 r q2) λ_ s3 ⟨H3,I3,q3⟩=> ?_))));exact wpAny_release ⟨σ,H3,I3,q3⟩
def Ak (te:TE)(g:TG):TS:=λD σ H=>te σ H λx H1=>g x σ H1 D.nx
theorem TX {tg:Expr}{te:TE}{g:TG}(he:PE X e te)(hg:PG X tg g)(hs:swapsWithSole [tg] e pos.line X.env=pure false:=by rfl)(hw:swappedStores [tg] e X.env=pure none:=by rfl)
 (h1:(assignEach [tg] X.env).map (·.2)= [assign tg X.env]:=by rfl):PS X (.Assign [tg] e pos) (Ak te g):=by
 intro pins s σ H D I h;refine wpAny_Assign_stores (thn (he pins s σ H _ I h) λv s1 ⟨x,H1,I1,r1,q1⟩=> ?_) hs hw;rw [h1];exact thn (hg pins s1 σ H1 x v _ I1 r1 q1) λ_ s2 q=>q
theorem TY {te:TE}{pos':Pos}(hN:X.N.Nodup)(hi:X.N[i]? =some x)(hx:Loc X.env.scope x)(he:PE X e te)(hs:swapsWith e (some (.Name x pos')) pos.line X.env=pure false:=by rfl)(hf:X.fn x=true\/X.env.scope.names.lookup x=some .local:=by first|exact .inl rfl|exact .inr rfl|assumption):
 PS X (.Assign [.Name x pos'] e pos) (Ak te (yF i)):=by
 intro pins s σ H D I h;refine wpAny_Assign_Name (thn (he pins s σ H _ I h) λv s1 ⟨y,H1,I1,r1,q1⟩=> ?_) hs;exact ZE I1 hN hi hx r1 (λs2 I2=>⟨_,H1,I2,q1⟩) hf
def xJ (i j:Nat)(ta:TA):TS:=λD σ H=>ta σ H λvs H1=> ∃v w,vs= [v,w]/\D.nx ((σ.set i (some v)).set j (some w)) H1
theorem TZ {j:Nat}{y:Str}{a b:Expr}{ta:TA}{px py pt:Pos}{kt k2 pt2}(hc:X.calm=true)(hN:X.N.Nodup)(hi:X.N[i]? =some x)(hj:X.N[j]? =some y)(hij:i≠j)
 (hx:X.env.scope.names.lookup x=some .local)(hy:X.env.scope.names.lookup y=some .local)(ha:PA X [a,b] ta)
 (hw:swappedStores [.Tuple [.Name x px,.Name y py] kt pt] (.Tuple [a,b] k2 pt2) X.env=pure (some [x,y]))
 (hs:swapsWithSole [.Tuple [.Name x px,.Name y py] kt pt] (.Tuple [a,b] k2 pt2) pos.line X.env=pure false:=by rfl):
 PS X (.Assign [.Tuple [.Name x px,.Name y py] kt pt] (.Tuple [a,b] k2 pt2) pos) (xJ i j ta):=by
 intro pins s σ H D I h;rw [exec_Assign_arm];refine wpAny_bind (V8 ?_);rw [hs];refine wpAny_bind (P0 ?_);rw [if_neg (by decide)];refine wpAny_bind (Tuple_ (thn (ha _ pins s σ H _ I h) λus s1 ⟨vs,H1,I1,r1,q1⟩=> ?_));obtain⟨v,w,e1,q1⟩:=q1;subst e1;obtain⟨u1,u2,rfl,rv,rw'⟩: ∃u1 u2,us= [u1,u2]/\RelV v u1/\RelV w u2:=by
  cases r1 with
  |cons p q=>
   cases q with
   |cons p' q'=>
    cases q';exact⟨_,_,rfl,p,p'⟩
 refine K1 ?_ (by show 2<=sizeLine;decide);have I2:Inv X pins σ H1 {s1 with heap:=s1.heap.push {cls:= .type "tuple",data:= .seq [u1,u2].toArray}}:=I1.kept (t':=s1.toks) λb o e=>G2 _ e
 rw [hw];refine wpAny_bind (P0 ?_);show wpAny (model X.prog X.w) X.A (do rule "assign.swapped-stores";let items <-unpackItems (.ref s1.heap.objs.size) 2 none;assignInOrder [λv=>bindName X.env y v,λv=>bindName X.env x v] items.reverse;pure Flow.next) _ _ _;refine wpAny_bind (X7 (wpAny_bind (unpackItems_tuple (items:= #[u1,u2]) (I.ok.hd hc) (IsTup.new s1.heap _) λh' hx'=> ?_)));have I3:=I2.kept (h':=h') (t':=s1.toks) λb o e=>hx' b o (S4 (D3 e)) e
 show wpAny _ _ (assignInOrder [λv=>bindName X.env y v,λv=>bindName X.env x v] [u2,u1] >>= λ_=>pure Flow.next) _ _ _;refine wpAny_bind (G0t (wpAny_bindName (ZE I3 hN hj (.inl hy) rw' (λs2 I4=> ?_) (.inr hy))));refine G0t (wpAny_bindName (ZE I4 hN hi (.inl hx) rv (λs3 I5=>assignInOrder_nil (P0 ?_)) (.inr hx)));rw [List.set_comm _ _ (Ne.symm hij)] at I5;exact⟨_,H1,I5,q1⟩
def xK (i:Nat)(te:TE)(ti:TIp):TS:=λD σ H=> ∃x,σ[i]? =some (some x)/\te σ H λy H1=>ti x y H1 λz H2=>D.nx (σ.set i (some z)) H2
theorem Ha {te:TE}{op:Operator}{ti:TIp}{pos':Pos}(hN:X.N.Nodup)(hi:X.N[i]? =some x)(hx:Loc X.env.scope x)(he:PE X e te)(ho:PIp X op ti)(hf:X.fn x=true\/X.env.scope.names.lookup x=some .local:=by first|exact .inl rfl|exact .inr rfl|assumption):
 PS X (.AugAssign (.Name x pos') op e pos) (xK i te ti):=by
 intro pins s σ H D I h;obtain⟨v,e1,h⟩:=h;obtain⟨m,hn,hl⟩:=I.loc;have vis:Vis X.env.scope x:=by rcases hx with k|k;exact .inl k;exact .inr (.inl k)
 obtain⟨u,r,l⟩:=hl i x v hi e1 vis;refine wpAny_AugAssign_Name ?_;have go:wpAny (model X.prog X.w) X.A (eval e X.env) (λw s₂=>wpAny (model X.prog X.w) X.A (inplaceOp op u w) (λr s₃=>wpAny (model X.prog X.w) X.A (storeName X.env x r) (λ_=>SP X pins D .next) X.xe s₃) X.xe s₂) X.xe s:=by
  refine thn (he pins s σ H _ I h) λw s1 ⟨y,H1,I1,r1,q1⟩=> ?_
  refine thn (ho pins s1 σ H1 v y u w _ I1 r r1 q1) λz s2 ⟨zv,H2,I2,r2,q2⟩=> ?_
  exact ZE I2 hN hi hx r2 (λs3 I3=>⟨_,H2,I3,q2⟩) hf
 rcases l with ⟨hk,hm⟩|⟨hk,c,hc,hcell⟩
 ·exact wpAny_loadName_local I.ok.kind hk hn hm go
 ·rcases hk with hk|hk
  ·exact wpAny_loadName_cell I.ok.kind hk hc hcell go
  ·rcases hx with k|k
   ·have:X.env.scope.names.lookup x=some .free:=hk;rw [k] at this;cases this
   ·have:X.env.scope.names.lookup x=some .free:=hk;rw [k] at this;cases this
def ipI (f:Int->Int->Int):TIp:=λx y H Q=> ∃i j,x= .int i/\y= .int j/\Q (.int (f i j)) H
theorem Hb:PIp X .Add (ipI λi j=>i+j):=by
 intro pins s σ H x y v u Q I r1 r2 h;obtain⟨i,j,e1,e2,q⟩:=h;subst e1;subst e2;obtain⟨t,rfl⟩:=r1;obtain⟨t',rfl⟩:=r2;exact iadd_int ⟨.int _,H,I.tok _,⟨_,rfl⟩,q⟩
def Al (c:TT)(tb:TS):TS:=λD σ H=> ∃W:Nat->St->Hp->Prop,(∃m,W m σ H)/\ ∀m σ H,W m σ H->
 c σ H λb H1=>if b=true then ∃N:St->Hp->Prop,(∀σ' H',N σ' H'-> ∃m',m'<m/\W m' σ' H')/\tb {D with nx:=N,ct:=N,bk:=D.nx} σ H1 else D.nx σ H1
theorem FS {c:Expr}{body:List Stmt}{tc:TT}{tb:TS}(hp:PassesOwn (model X.prog X.w) X.A X.env X.xe)(hc:PT X c tc)(hb:PSs X body tb):PS X (.While c body [] pos) (Al tc tb):=by
 intro pins s σ H D I h;obtain⟨W,⟨m0,w0⟩,turn⟩:=h;refine wpAny_While (codeAny_whileLoop (λn s'=> ∃σ' H',Inv X pins σ' H' s'/\W n σ' H') ?_ m0 ⟨σ,H,I,w0⟩);rintro n s1 ⟨σ1,H1,I1,w1⟩;refine K2 hp (thn (hc pins s1 σ1 H1 _ I1 (turn n σ1 H1 w1)) λb s2 ⟨H2,I2,q2⟩=> ?_);cases b with
 |true=>
  obtain⟨N,hN,q2⟩:=q2;rw [if_pos rfl];refine K2 hp (thn (hb pins s2 σ1 H2 _ I2 q2) λf s3 q3=> ?_);cases f with
  |next=>
   obtain⟨σ3,H3,I3,n3⟩:=q3;obtain⟨m',hm,w3⟩:=hN σ3 H3 n3;exact⟨m',hm,σ3,H3,I3,w3⟩
  |cont=>
   obtain⟨σ3,H3,I3,n3⟩:=q3;obtain⟨m',hm,w3⟩:=hN σ3 H3 n3;exact⟨m',hm,σ3,H3,I3,w3⟩
  |brk=>exact q3
  |ret v=>exact q3
 |false=>
  rw [if_neg P7];exact G0e ⟨σ1,H2,I2,q2⟩
end
structure It where
 go:Nat->Hp->Prop
 yld:Nat->Hp->V->Hp->Prop
 stop:Nat->Hp->Prop
def Nn (X:Cx)(pins:List (Addr×Obj))(H:Hp)(b:Addr):Prop:=
 H b=none/\b≠X.env.locals/\b ∉ X.fs/\(b∈X.ex\/X.s₀.heap.objs.size<=b)/\(∀x c,X.env.cells.lookup x=some c->c≠b)/\ ∀p∈X.pn++pins,p.1≠b
theorem Inv.fpOk {pins:List (Addr×Obj)}{σ:St}{H':Hp}(I:Inv X pins σ H s)(hb:s.heap.objs.size<=b)(hn:H' b=none):Nn X pins H' b:=by
 refine⟨hn,Q8 (S6 I.lt hb),I.nofs hb,.inr (R1 I.sz hb),λx c e z=> ?_,λp hp z=> ?_⟩
 ·obtain⟨v,q⟩:=I.cell x c e;exact absurd (S6 q.lt (by rw [z];exact hb)) (M9 _)
 ·exact absurd (S6 (D3 (I.pin p hp).1) (by rw [z];exact hb)) (M9 _)
structure Turn (P:Program)(w:World)(K:PySem.W.Frag)(tg:Expr)(J:It)(fp:List Addr)(it:Addr)(tn:Nat->Heap->Prop):Prop where
 mem:it∈fp
 obj: ∀i h,tn i h-> ∀b∈fp,∃o,h.get? b=some o/\ ∀v,o.data≠ .cell v
 keep: ∀i h h',tn i h->(∀b∈fp,∀o,h.get? b=some o->h'.get? b=some o)->tn i h'
 item: ∀ (X:Cx),X.prog=P->X.w=w->X.K=K->X.calm=true-> ∀ (i:Nat) (pins:List (Addr×Obj)) (s:Shared) (σ:St) (H:Hp) (E:Value->Shared->Prop),Inv X pins σ H s->(∀b∈fp,Nn X pins H b)->tn i s.heap->J.go i H->
  wpAny (model P w) X.A (pyNext (.ref it)) (λr s1=> ∃u,r=some u/\
   wpAny (model P w) X.A (letOwnedTupleGo tg (.ref it) u) (λ_ s2=> ∃x H',Inv X pins σ H' s2/\RelV x u/\J.yld i H x H'/\tn (i+1) s2.heap/\ ∀b∈fp,H' b=none) E s1) E s
 done: ∀ (X:Cx),X.prog=P->X.w=w->X.K=K->X.calm=true-> ∀ (i:Nat) (pins:List (Addr×Obj)) (s:Shared) (σ:St) (H:Hp) (E:Value->Shared->Prop),Inv X pins σ H s->(∀b∈fp,Nn X pins H b)->tn i s.heap->J.stop i H->
  wpAny (model P w) X.A (pyNext (.ref it)) (λr s1=>r=none/\Inv X pins σ H s1) E s
 self: ∀ (A:Around) (i:Nat) (s:Shared) (Q:Value->Shared->Prop) (E:Value->Shared->Prop),tn i s.heap->Q (.ref it) s->wpAny (model P w) A (pyIter (.ref it)) Q E s
abbrev TI:=St->Hp->(It->Hp->Prop)->Prop
def PIE (X:Cx)(pins:List (Addr×Obj))(σ:St)(tg:Expr)(R:It->Hp->Prop)(itv:Value)(s2:Shared):Prop:=
 ∃ (it:Addr) (fp:List Addr) (tn:Nat->Heap->Prop) (J:It) (H':Hp),itv= .ref it/\Inv X pins σ H' s2/\Turn X.prog X.w X.K tg J fp it tn/\tn 0 s2.heap/\(∀b∈fp,Nn X pins H' b)/\R J H'
def PI (X:Cx)(tg iter:Expr)(wi:TI):Prop:=
 ∀ (pins:List (Addr×Obj)) (s:Shared) (σ:St) (H:Hp) (R:It->Hp->Prop),Inv X pins σ H s->wi σ H R->
  wpAny (model X.prog X.w) X.A (eval iter X.env) (λv s1=>wpAny (model X.prog X.w) X.A (pyIter v) (PIE X pins σ tg R) X.xe s1) X.xe s
variable {tg:Expr}
theorem AY {M : Model} {E : Value → Shared → Prop} {it : Addr} {o : Obj} {n : String} {vs : Array Value} {Q : Unit → Shared → Prop} (ho : s.heap.get? it = some o) (hc : o.cls = .type n) (hd : o.data = .fields vs)
    (hn : ["enumerate", "zip", "dict_itemiterator", "dict_reverseitemiterator", "odict_iterator", "itertools.zip_longest", "itertools.pairwise"].contains n = false) (hQ : Q () s) : wpAny M A (letOwnedTupleGo tg (.ref it) u) Q E s := by
  unfold letOwnedTupleGo
  cases tg <;> first
    | exact P0 hQ
    | (cases u <;> first
        | exact P0 hQ
        | (refine wpAny_bind (wpAny_load ho ?_)
           rw [hc, hd]
           show wpAny M A (if (["enumerate", "zip", "dict_itemiterator", "dict_reverseitemiterator", "odict_iterator", "itertools.zip_longest", "itertools.pairwise"].contains n && vs[0]? == some (rawInt _)) = true then _ else _) Q E s
           rw [if_neg (by intro h; rw [hn, G1k] at h; cases h)]
           exact P0 hQ))
def Itl (K:PySem.W.Frag)(a:Addr):It:=
 ⟨λi H=> ∃xs x,SqL K H a xs/\xs[i]? =some x,λi H x H'=>H'=H/\ ∀xs,SqL K H a xs->xs[i]? =some x,λi H=> ∃xs,SqL K H a xs/\xs.length<=i⟩
def Itt (K:PySem.W.Frag)(a:Addr):It:=
 ⟨λi H=> ∃xs x,SqT K H a xs/\xs[i]? =some x,λi H x H'=>H'=H/\ ∀xs,SqT K H a xs->xs[i]? =some x,λi H=> ∃xs,SqT K H a xs/\xs.length<=i⟩
def Itr (lo:Int)(n:Nat):It:=⟨λi _=>i<n,λi H x H'=>H'=H/\x= .int (lo+i),λi _=>n<=i⟩
variable {K:PySem.W.Frag}
theorem Qj (a it:Addr):Turn P w K tg (Itl K a) [it] it (λi h=>h.IsListIter it a i) where
 mem:=by simp
 obj:=λi h st b hb=>by
  have e:b=it:=by simpa using hb
  subst e;obtain⟨o,e,c,d⟩:=st;exact⟨o,e,λv z=>by rw [d] at z;cases z⟩
 keep:=λi h h' st k=>st.at λo e=>k it (by simp) o e
 item:=by
  intro X hP hw hK hc i pins s σ H E I hf st hg;subst hP hw hK;obtain⟨xs,x,hq,hx⟩:=hg;obtain⟨its,rv,p,hz⟩:=I.list hq;obtain⟨u,hu,ru⟩:=rv.get hx;obtain⟨f0,f1,f2,f3,f4,f5⟩:=hf it (by simp);refine wpAny_pyNext_list_item st p.isList (x:=u) (by simpa using hu) λh' st' sb=> ?_
  have I1:Inv X pins σ H {s with heap:=h'}:=I.turned (t':=s.toks) (λb o hb e=>(sb.2 b hb).trans e) f0 f1 f3 f4 f5;obtain⟨o,e,c,d⟩:=id st';exact⟨u,rfl,AY (s:= {s with heap:=h'}) e c d (by decide) ⟨x,H,I1,ru,⟨rfl,λys hy=>by rw [I.list_inj hy hq];exact hx⟩,st',λb hb=>(hf b hb).1⟩⟩
 done:=by
  intro X hP hw hK hc i pins s σ H E I hf st hg;subst hP hw hK;obtain⟨xs,hq,hx⟩:=hg;obtain⟨its,rv,p,hz⟩:=I.list hq;obtain⟨f0,f1,f2,f3,f4,f5⟩:=hf it (by simp);have hl:=rv.length;exact wpAny_pyNext_list_end (I.ok.hd hc) st p.isList (by simp;omega) λh' eb=>⟨rfl,I.turned (t':=s.toks) (λb o hb e=>eb b o hb e) f0 f1 f3 f4 f5⟩
 self:=λ_ _ _ _ _ st h=>wpAny_pyIter_listiter st h
theorem RV (a it:Addr):Turn P w K tg (Itt K a) [it] it (λi h=>h.IsTupleIter it a i) where
 mem:=by simp
 obj:=λi h st b hb=>by
  have e:b=it:=by simpa using hb
  subst e;obtain⟨o,e,c,d⟩:=st;exact⟨o,e,λv z=>by rw [d] at z;cases z⟩
 keep:=λi h h' st k=>st.at λo e=>k it (by simp) o e
 item:=by
  intro X hP hw hK hc i pins s σ H E I hf st hg;subst hP hw hK;obtain⟨xs,x,hq,hx⟩:=hg;obtain⟨its,rv,p,hz⟩:=I.tuple hq;obtain⟨u,hu,ru⟩:=rv.get hx;obtain⟨f0,f1,f2,f3,f4,f5⟩:=hf it (by simp);refine wpAny_pyNext_tuple_item st (show s.heap.IsTuple a its.toArray from p) (x:=u) (by simpa using hu) λh' st' sb=> ?_
  have I1:Inv X pins σ H {s with heap:=h'}:=I.turned (t':=s.toks) (λb o hb e=>(sb.2 b hb).trans e) f0 f1 f3 f4 f5;obtain⟨o,e,c,d⟩:=id st';exact⟨u,rfl,AY (s:= {s with heap:=h'}) e c d (by decide) ⟨x,H,I1,ru,⟨rfl,λys hy=>by rw [I.tuple_inj hy hq];exact hx⟩,st',λb hb=>(hf b hb).1⟩⟩
 done:=by
  intro X hP hw hK hc i pins s σ H E I hf st hg;subst hP hw hK;obtain⟨xs,hq,hx⟩:=hg;obtain⟨its,rv,p,hz⟩:=I.tuple hq;obtain⟨f0,f1,f2,f3,f4,f5⟩:=hf it (by simp);have hl:=rv.length;exact wpAny_pyNext_tuple_end (I.ok.hd hc) st (show s.heap.IsTuple a its.toArray from p) (by simp;omega) λh' eb=>⟨rfl,I.turned (t':=s.toks) (λb o hb e=>eb b o hb e) f0 f1 f3 f4 f5⟩
 self:=λ_ _ _ _ _ st h=>wpAny_pyIter_tupleiter st h
theorem RW (it:Addr)(lo:Int)(n:Nat):Turn P w K tg (Itr lo n) [it] it (λi h=>IsRangeIter h it (lo+(i:Nat)*1) ((n:Int)-(i:Nat)) 1) where
 mem:=by simp
 obj:=λi h st b hb=>by
  have e:b=it:=by simpa using hb
  subst e;exact⟨_,st,λv z=>by
   have z':Data.fields _=Data.cell v:=z;cases z'⟩
 keep:=λi h h' st k=>k it (by simp) _ st
 item:=by
  intro X hP hw hK hc i pins s σ H E I hf st hg;subst hP hw hK;obtain⟨f0,f1,f2,f3,f4,f5⟩:=hf it (by simp);have W:=Walks.range (prog:=X.prog) (w:=X.w) (I.ok.hd hc) it lo 1 n;refine W.item i s _ _ hg st λv h' tk hv st' kk=> ?_
  obtain⟨t,rfl⟩:=hv;have I1:Inv X pins σ H {s with heap:=h',toks:=tk}:=I.turned (λb o hb e=>kk b o (by simpa using hb) e) f0 f1 f3 f4 f5;refine⟨_,rfl,AY (s:= {s with heap:=h',toks:=tk}) (n:= "range_iterator") st' rfl rfl (by decide) ⟨.int (lo+i),H,I1,⟨t,?_⟩,⟨rfl,rfl⟩,st',λb hb=>(hf b hb).1⟩⟩;rw [Int.mul_one]
 done:=by
  intro X hP hw hK hc i pins s σ H E I hf st hg;subst hP hw hK;obtain⟨f0,f1,f2,f3,f4,f5⟩:=hf it (by simp);exact wpAny_pyNext_range_end (I.ok.hd hc) st (by have:n<=i:=hg;omega) λh' eb=>⟨rfl,I.turned (t':=s.toks) (λb o hb e=>eb b o hb e) f0 f1 f3 f4 f5⟩
 self:=λ_ _ _ _ _ st h=>wpAny_pyIter_rangeiter st h
section
variable {X:Cx}{tg:Expr}
def Hc (K:PySem.W.Frag)(tl:TE):TI:=λσ H R=>tl σ H λx H1=> ∃a,x= .ref a/\(∃xs,SqL K H1 a xs)/\R (Itl K a) H1
theorem AZ {l:Expr}{tl:TE}(hl:PE X l tl):PI X tg l (Hc X.K tl):=by
 intro pins s σ H R I h;refine thn (hl pins s σ H _ I h) λv s1 ⟨x,H1,I1,r1,q1⟩=> ?_
 obtain⟨a,e,⟨xs,hq⟩,q⟩:=q1;subst e;cases r1;obtain⟨its,rv,p,hz⟩:=I1.list hq;refine K3 p.isList ?_;refine⟨s1.heap.objs.size,[s1.heap.objs.size],_,_,H1,rfl,I1.kept (t':=s1.toks) λb o e=>G2 _ e,Qj a _,⟨_,D6 _ rfl,rfl,rfl⟩,λb hb=> ?_,q⟩;have e:b=s1.heap.objs.size:=by simpa using hb
 subst e;exact I1.fpOk (P1 _) (I1.hok.fresh (P1 _))
variable {pins:List (Addr×Obj)}
theorem DY {σ:St}{H:Hp}{s:Shared}{R:It->Hp->Prop}{E:Value->Shared->Prop}{lo hi:Int}{t u v:Tok}{tk:Nat}(I:Inv X pins σ H s)(h1: -(2^62)<=lo)(h2:lo<2^62)(h3: -(2^62)<=hi)(h4:hi<2^62)
 (q:R (Itr lo (hi-lo).toNat) H):wpAny (model X.prog X.w) X.A (pyIter (.ref s.heap.objs.size)) (PIE X pins σ tg R) E {s with heap:=s.heap.push {cls:= .type "range",data:= .fields #[.int lo t,.int hi u,.int 1 v]},toks:=tk}:=by
 refine wpAny_pyIter_range (IsRange.new ..) (small_one h1 h2 h3 h4) ?_;have I1:Inv X pins σ H {s with heap:=s.heap.push {cls:= .type "range",data:= .fields #[.int lo t,.int hi u,.int 1 v]},toks:=tk}:=I.kept λb o e=>G2 _ e
 refine⟨(s.heap.push {cls:= .type "range",data:= .fields #[.int lo t,.int hi u,.int 1 v]}).objs.size,[(s.heap.push {cls:= .type "range",data:= .fields #[.int lo t,.int hi u,.int 1 v]}).objs.size],_,_,H,rfl,
  I1.kept (t':=tk) λb o e=>G2 _ e,RW _ lo (hi-lo).toNat,?_,λb hb=> ?_,q⟩
 ·have e1:lo+((0:Nat):Int)*1=lo:=by simp
  have e2:(((hi-lo).toNat:Nat):Int)-((0:Nat):Int)=Builtin.Range.rangeSize lo hi 1:=by rw [rangeSize_one];split<;>omega
  show IsRangeIter _ _ (lo+((0:Nat):Int)*1) ((((hi-lo).toNat:Nat):Int)-((0:Nat):Int)) 1;rw [e1,e2];exact D6 _ rfl
 ·have e:b=(s.heap.push {cls:= .type "range",data:= .fields #[.int lo t,.int hi u,.int 1 v]}).objs.size:=by simpa using hb
  subst e;exact I1.fpOk (P1 _) (I1.hok.fresh (P1 _))
def Hd (ta:TA):TI:=λσ H R=>ta σ H λvs H1=> ∃j:Int,vs= [.int j]/\ -(2^62)<=j/\j<2^62/\R (Itr 0 j.toNat) H1
def He (ta:TA):TI:=λσ H R=>ta σ H λvs H1=> ∃i j:Int,vs= [.int i,.int j]/\(-(2^62)<=i/\i<2^62/\ -(2^62)<=j/\j<2^62)/\R (Itr i (j-i).toNat) H1
theorem NB {a:Expr}{ta:TA}{p pos:Pos}(hg:Gl X "range")(hm:X.mg "range" =none)(ha:PA X [a] ta)(hs:starEach [a] X.env= [(false,eval a X.env)]:=by rfl):PI X tg (.Call (.Name "range" p) [a] [] pos) (Hd ta):=by
 intro pins s σ H R I h;refine Call_ (WP I hg hm boot_range (C4 (thn (ha pos pins s σ H _ I h) λus s1 ⟨vs,H1,I1,r1,q1⟩=> ?_) hs rfl));obtain⟨j,e,q1,q2,q⟩:=q1;subst e;cases r1 with
 |cons r rr=>
  cases rr;obtain⟨t,rfl⟩:=r;exact call_range_1 (DY I1 (by omega) (by omega) q1 q2 (by simpa using q))
theorem NC {a b:Expr}{ta:TA}{p pos:Pos}(hg:Gl X "range")(hm:X.mg "range" =none)(ha:PA X [a,b] ta)(hs:starEach [a,b] X.env= [(false,eval a X.env),(false,eval b X.env)]:=by rfl)(hs2:starEach [b] X.env= [(false,eval b X.env)]:=by rfl):
 PI X tg (.Call (.Name "range" p) [a,b] [] pos) (He ta):=by
 intro pins s σ H R I h;refine Call_ (WP I hg hm boot_range (C4 (thn (ha pos pins s σ H _ I h) λus s1 ⟨vs,H1,I1,r1,q1⟩=> ?_) (by rw [hs,hs2]) (by rw [hs2];rfl)));obtain⟨i,j,e,⟨q1,q2,q3,q4⟩,q⟩:=q1;subst e;cases r1 with
 |cons r rr=>
  cases rr with
  |cons r' rr=>
   cases rr;obtain⟨t,rfl⟩:=r;obtain⟨t',rfl⟩:=r';exact call_range_2 (DY I1 q1 q2 q3 q4 q)
def xL (wi:TI)(g:TG)(tb:TS):TS:=λD σ H=>wi σ H λJ H1=> ∃W:Nat->Nat->St->Hp->Prop,(∃m,W 0 m σ H1)/\ ∀i m σ H,W i m σ H->
 (J.stop i H/\D.nx σ H)\/(J.go i H/\ ∃N:St->Hp->Prop,(∀σ' H',N σ' H'-> ∃m',m'<m/\W (i+1) m' σ' H')/\ ∀x H',J.yld i H x H'->g x σ H' λσ2 H2=>tb {D with nx:=N,ct:=N,bk:=D.nx} σ2 H2)
def Jw (fp:List Addr)(h:Heap):List (Addr×Obj):=fp.filterMap λb=>(h.get? b).map λo=>(b,o)
theorem wT {fp:List Addr}{h:Heap}{b:Addr}{o:Obj}(hb:b∈fp)(e:h.get? b=some o):(b,o)∈Jw fp h:=V9.mpr ⟨b,hb,by rw [e];rfl⟩
theorem YF {fp:List Addr}{h:Heap}{p:Addr×Obj}(hp:p∈Jw fp h):p.1∈fp/\h.get? p.1=some p.2:=by
 obtain⟨b,hb,e⟩:=V9.mp hp;cases q:h.get? b with
 |none=>rw [q] at e;cases e
 |some o=>
  rw [q] at e;have e':(b,o)=p:=N3 e;subst e';exact⟨hb,q⟩
theorem Inv.pinned {σ:St}{H:Hp}{s:Shared}{fp:List Addr}(I:Inv X pins σ H s)(hf: ∀b∈fp,Nn X pins H b)(ho: ∀b∈fp,∃o,s.heap.get? b=some o/\ ∀v,o.data≠ .cell v):Inv X (pins++Jw fp s.heap) σ H s:=
 I.pins_of λp hp=>(P6.mp hp).elim (λz=>I.pin p (P8 _ z)) λz=>by
  obtain⟨hb,e⟩:=YF z;obtain⟨f0,f1,f2,_⟩:=hf p.1 hb;obtain⟨o,e',d⟩:=ho p.1 hb;rw [e] at e';cases e';exact⟨e,f0,f1,f2,d⟩
theorem Inv.unpinned {pl:List (Addr×Obj)}{σ:St}{H:Hp}{s:Shared}(I:Inv X (pins++pl) σ H s):Inv X pins σ H s:=I.pins_of λp hp=>I.pin p (P8 _ (T8 _ hp))
theorem Hf {iter:Expr}{body:List Stmt}{wi:TI}{g:TG}{tb:TS}{pos:Pos}(hp:PassesOwn (model X.prog X.w) X.A X.env X.xe)(hc:X.calm=true)(hi:PI X tg iter wi)(hg:PG X tg g)(hb:PSs X body tb)
 (hs: ∀x,foldedSetIterable iter X.env x=pure x:=by intro _;rfl):PS X (.For tg iter body [] pos) (xL wi g tb):=by
 intro pins s σ H D I h;refine wpAny_For (thn (hi pins s σ H _ I h) λv s1 h1=>thn h1 λitv s2 h2=> ?_) hs;obtain⟨it,fp,tn,J,H2,e,I2,T,st2,f2,W,⟨m0,w0⟩,turn⟩:=h2;subst e
 -- what stays true of the iterator's objects through the loop
 have stat: ∀ {H':Hp},(∀b∈fp,H' b=none)-> ∀b∈fp,Nn X pins H' b:=λhn b hb=>⟨hn b hb,(f2 b hb).2⟩
 refine codeAny_forLoop_any (λn s'=> ∃i σ' H',Inv X pins σ' H' s'/\tn i s'.heap/\(∀b∈fp,H' b=none)/\W i n σ' H') ?_ m0 ⟨0,σ,H2,I2,st2,λb hb=>(f2 b hb).1,w0⟩;rintro n s3 ⟨i,σ3,H3,I3,st3,fr3,w3⟩;rcases turn i n σ3 H3 w3 with ⟨stop,qn⟩|⟨go,N,hN,step⟩
 ·refine K2 hp (thn (T.done X rfl rfl rfl hc i pins s3 σ3 H3 X.xe I3 (stat fr3) st3 stop) λr s4 ⟨hr,I4⟩=> ?_);subst hr;exact G0e ⟨σ3,H3,I4,qn⟩
 ·refine K2 hp (thn (T.item X rfl rfl rfl hc i pins s3 σ3 H3 X.xe I3 (stat fr3) st3 go) λr s4 ⟨u,hr,h4⟩=> ?_);subst hr;refine K2 hp (thn h4 λ_ s5 ⟨x,H5,I5,r5,y5,st5,fr5⟩=> ?_);have I5':=I5.pinned (stat fr5) (T.obj _ _ st5);refine K2 hp (thn (hg _ s5 σ3 H5 x u _ I5' r5 (step x H5 y5)) λ_ s6 ⟨σ6,H6,I6,q6⟩=> ?_);refine K2 hp (thn (hb _ s6 σ6 H6 _ I6 q6) λf s7 q7=> ?_);have again: ∀ {σ7:St} {H7:Hp},Inv X (pins++Jw fp s5.heap) σ7 H7 s7->N σ7 H7-> ∃m,m<n/\ ∃i σ' H',Inv X pins σ' H' s7/\tn i s7.heap/\(∀b∈fp,H' b=none)/\W i m σ' H':=λ{σ7 H7} I7 n7=>by
   obtain⟨m',hm,w7⟩:=hN σ7 H7 n7;refine⟨m',hm,i+1,σ7,H7,I7.unpinned,T.keep _ _ _ st5 λb hb o e=>(I7.pin (b,o) (P8 _ (P8 _ (wT hb e)))).1,λb hb=> ?_,w7⟩;obtain⟨o,e,d⟩:=T.obj _ _ st5 b hb;exact(I7.pin (b,o) (P8 _ (P8 _ (wT hb e)))).2.1
  cases f with
  |next=>obtain⟨σ7,H7,I7,n7⟩:=q7;exact again I7 n7
  |cont=>obtain⟨σ7,H7,I7,n7⟩:=q7;exact again I7 n7
  |brk=>obtain⟨σ7,H7,I7,q7⟩:=q7;exact⟨σ7,H7,I7.unpinned,q7⟩
  |ret v=>obtain⟨x7,σ7,H7,I7,r7,q7⟩:=q7;exact⟨x7,σ7,H7,I7.unpinned,r7,q7⟩
end
abbrev R2:=V->V->Hp->VK->Prop
def OpR (X:Cx)(f:Value->Value->Sem Value)(r:R2):Prop:=
 ∀ (pins:List (Addr×Obj)) (s:Shared) (σ:St) (H:Hp) (x y:V) (v u:Value) (Q:VK),Inv X pins σ H s->RelV x v->RelV y u->r x y H Q->
  wpAny (model X.prog X.w) X.A (f v u) (EP X pins σ Q) X.xe s
def UnR (X:Cx)(f:Value->Sem Value)(r:V->Hp->VK->Prop):Prop:=
 ∀ (pins:List (Addr×Obj)) (s:Shared) (σ:St) (H:Hp) (x:V) (v:Value) (Q:VK),Inv X pins σ H s->RelV x v->r x H Q->
  wpAny (model X.prog X.w) X.A (f v) (EP X pins σ Q) X.xe s
def CallR (X:Cx)(f:Value)(r:List V->Hp->VK->Prop):Prop:=
 ∀ (pins:List (Addr×Obj)) (s:Shared) (σ:St) (H:Hp) (xs:List V) (us:List Value) (Q:VK),Inv X pins σ H s->Vals xs us->r xs H Q->
  wpAny (model X.prog X.w) X.A (call f us) (EP X pins σ Q) X.xe s
def tOp (r:R2)(ta tb:TE):TE:=λσ H Q=>ta σ H λx H1=>tb σ H1 λy H2=>r x y H2 Q
def tUn (r:V->Hp->VK->Prop)(ta:TE):TE:=λσ H Q=>ta σ H λx H1=>r x H1 Q
def rI (C:Int->Int->Prop)(g:Int->Int->V):R2:=λx y H Q=> ∃i j,x= .int i/\y= .int j/\C i j/\Q (g i j) H
def rI0 (g:Int->Int->V):R2:=λx y H Q=> ∃i j,x= .int i/\y= .int j/\Q (g i j) H
def rU (g:Int->V):V->Hp->VK->Prop:=λx H Q=> ∃i,x= .int i/\Q (g i) H
section
variable {X:Cx}{a b c:Expr}{ta tb tc:TE}{pos:Pos}
theorem uc (ha:PE X a ta)(hb:PE X b tb){pins:List (Addr×Obj)}{s:Shared}{σ:St}{H:Hp}{R:V->V->Hp->Prop}(I:Inv X pins σ H s)
 (h:ta σ H λx H1=>tb σ H1 λy H2=>R x y H2){Q:Value->Shared->Prop}{f:Value->Value->Sem Value}
 (hf: ∀v u s2 x y H2,Inv X pins σ H2 s2->RelV x v->RelV y u->R x y H2->wpAny (model X.prog X.w) X.A (f v u) Q X.xe s2):
 wpAny (model X.prog X.w) X.A (eval a X.env) (λv s₁=>wpAny (model X.prog X.w) X.A (eval b X.env) (λu s₂=>wpAny (model X.prog X.w) X.A (f v u) Q X.xe s₂) X.xe s₁) X.xe s:=by
 refine thn (ha pins s σ H _ I h) λv s1 ⟨x,H1,I1,r1,q1⟩=> ?_
 refine thn (hb pins s1 σ H1 _ I1 q1) λu s2 ⟨y,H2,I2,r2,q2⟩=> ?_
 exact hf v u s2 x y H2 I2 r1 r2 q2
theorem ud {op:Operator}{r:R2}(ho:OpR X (binaryOp op) r)(ha:PE X a ta)(hb:PE X b tb):PE X (.BinOp a op b pos) (tOp r ta tb):=by
 intro pins s σ H Q I h;exact wpAny_BinOp (uc ha hb I h λv u s2 x y H2 I2 rx ry q=>ho pins s2 σ H2 x y v u Q I2 rx ry q)
theorem ue {op:UnaryOp}{r:V->Hp->VK->Prop}(ho:UnR X (unaryOp op) r)(ha:PE X a ta):PE X (.UnaryOp op a pos) (tUn r ta):=by
 intro pins s σ H Q I h;exact UnaryOp_ (thn (ha pins s σ H _ I h) λv s1 ⟨x,H1,I1,r1,q1⟩=>ho pins s1 σ H1 x v Q I1 r1 q1)
variable {f:Value->Value->Sem Value}
theorem opI {C:Int->Int->Prop}{g:Int->Int->Int}
 (rule: ∀ (i j:Int) (t u:Tok) (s:Shared) (Q:Value->Shared->Prop) (E:Value->Shared->Prop),C i j->Q (.int (g i j) s.toks) {s with toks:=s.toks+1}->wpAny (model X.prog X.w) X.A (f (.int i t) (.int j u)) Q E s):
 OpR X f (rI C λi j=> .int (g i j)):=by
 intro pins s σ H x y v u Q I rx ry h;obtain⟨i,j,rfl,rfl,hc,q⟩:=h;obtain⟨t,rfl⟩:=rx;obtain⟨t',rfl⟩:=ry;exact rule i j t t' s _ _ hc ⟨.int (g i j),H,I.tok _,⟨_,rfl⟩,q⟩
theorem xM {g:Int->Int->Int}
 (rule: ∀ (i j:Int) (t u:Tok) (s:Shared) (Q:Value->Shared->Prop) (E:Value->Shared->Prop),Q (.int (g i j) s.toks) {s with toks:=s.toks+1}->wpAny (model X.prog X.w) X.A (f (.int i t) (.int j u)) Q E s):
 OpR X f (rI0 λi j=> .int (g i j)):=by
 intro pins s σ H x y v u Q I rx ry h;obtain⟨i,j,rfl,rfl,q⟩:=h;obtain⟨t,rfl⟩:=rx;obtain⟨t',rfl⟩:=ry;exact rule i j t t' s _ _ ⟨.int (g i j),H,I.tok _,⟨_,rfl⟩,q⟩
theorem kG {g:Int->Int->Bool}
 (rule: ∀ (i j:Int) (t u:Tok) (s:Shared) (Q:Value->Shared->Prop) (E:Value->Shared->Prop),Q (.bool (g i j)) s->wpAny (model X.prog X.w) X.A (f (.int i t) (.int j u)) Q E s):
 OpR X f (rI0 λi j=> .bl (g i j)):=by
 intro pins s σ H x y v u Q I rx ry h;obtain⟨i,j,rfl,rfl,q⟩:=h;obtain⟨t,rfl⟩:=rx;obtain⟨t',rfl⟩:=ry;exact rule i j t t' s _ _ ⟨.bl (g i j),H,I,rfl,q⟩
def xN (i j:Int):Prop:=0<j/\j<1073741824
def xO (i j:Int):Prop:=0<=j/\j<=1000000/\i.natAbs<2^64
def CMul (i j:Int):Prop:=(-(2^64)<i/\i<2^64)\/(-(2^64)<j/\j<2^64)
theorem CMul.ok {i j:Int}(h:CMul i j):IntMulOk i j:=by
 rcases h with ⟨h1,h2⟩|⟨h1,h2⟩
 ·exact .of_left (intBits_le_64 h1 h2)
 ·exact .of_right (intBits_le_64 h1 h2)
theorem op_add:OpR X (binaryOp .Add) (rI0 λi j=> .int (i+j)):=xM λ_ _ _ _ _ _ _ q=>add_int q
theorem Hg:OpR X (binaryOp .Sub) (rI0 λi j=> .int (i-j)):=xM λ_ _ _ _ _ _ _ q=>sub_int q
theorem op_mul:OpR X (binaryOp .Mult) (rI CMul λi j=> .int (i*j)):=opI λ_ _ _ _ _ _ _ hc q=>mul_int q hc.ok
theorem Ea:OpR X (binaryOp .FloorDiv) (rI xN λi j=> .int (i / j)):=opI λi j _ _ _ _ _ hc q=>by
 have h1:(0:Int)<j:=hc.1;have h2:j<1073741824:=hc.2;exact floordiv_int (by omega) (by rw [G0o i (by omega)];exact q) (.inl (PyProof.noPylong_small (by omega)))
theorem Hh:OpR X (binaryOp .Mod) (rI (λ_ j=>0<j) λi j=> .int (i%j)):=opI λi j _ _ _ _ _ hc q=>by
 have h1:(0:Int)<j:=hc;exact mod_int' (by omega) (by rw [G0p i (by omega)];exact q)
theorem Hi:OpR X (binaryOp .Pow) (rI xO λi j=> .int (i^j.toNat)):=opI λ_ _ _ _ _ _ _ hc q=>pow_int_small hc.1 hc.2.1 hc.2.2 q
theorem unI {f:Value->Sem Value}{g:Int->Int}
 (rule: ∀ (i:Int) (t:Tok) (s:Shared) (Q:Value->Shared->Prop) (E:Value->Shared->Prop),Q (.int (g i) s.toks) {s with toks:=s.toks+1}->wpAny (model X.prog X.w) X.A (f (.int i t)) Q E s):
 UnR X f (rU λi=> .int (g i)):=by
 intro pins s σ H x v Q I rx h;obtain⟨i,rfl,q⟩:=h;obtain⟨t,rfl⟩:=rx;exact rule i t s _ _ ⟨.int (g i),H,I.tok _,⟨_,rfl⟩,q⟩
theorem Hj:UnR X (unaryOp .USub) (rU λi=> .int (-i)):=unI λ_ _ _ _ _ q=>neg_int q
end
def xP:V->V->Bool
 | .non,.non=>true| .non,.int _=>true| .int _,.non=>true| .non,.bl _=>true| .bl _,.non=>true| .non,.str _=>true| .str _,.non=>true
 | .int _,.int _=>true| .bl _,.bl _=>true| .str _,.str _=>true| .byt _,.byt _=>true
 | .int _,.str _=>true| .str _,.int _=>true| .bl _,.str _=>true| .str _,.bl _=>true
 |_,_=>false
def rEq:R2:=λx y H Q=>xP x y=true/\Q (.bl (decide (x=y))) H
def rNe:R2:=λx y H Q=>xP x y=true/\Q (.bl (!decide (x=y))) H
theorem ND {i j:Int}:decide (V.int i=V.int j)=(i==j):=by
 rw [B3];simp
theorem Am {i j:Bool}:decide (V.bl i=V.bl j)=(i==j):=by
 rw [B3];simp
theorem NE {i j:Str}:decide (V.str i=V.str j)=(i==j):=by
 rw [B3];simp
theorem NF {i j:Array UInt8}:decide (V.byt i=V.byt j)=(i.toList==j.toList):=by
 rw [B3];cases i;cases j;simp
section
variable {X:Cx}{a b c:Expr}{ta tb tc:TE}{pos:Pos}
theorem jW {pins:List (Addr×Obj)}{σ:St}{H:Hp}{s:Shared}{Q:VK}{k k':Bool}(I:Inv X pins σ H s)(q:Q (.bl k) H)(e:k=k'):EP X pins σ Q (.bool k') s:=by
 subst e;exact⟨.bl k,H,I,rfl,q⟩
theorem op_eq:OpR X (compareOp .Eq) rEq:=by
 intro pins s σ H x y v u Q I rx ry h;obtain⟨hs,q⟩:=h;cases x with
 |non=>
  cases rx;cases y with
  |non=>cases ry;exact PySem.EqNone.eq_none_none (jW I q (by simp))
  |bl j=>cases ry;exact PySem.EqNone.eq_none_bool (jW I q (by simp))
  |int j=>obtain⟨t',rfl⟩:=ry;exact PySem.EqNone.eq_none_int (jW I q (by simp))
  |str j=>obtain⟨t',rfl⟩:=ry;exact PySem.EqNone.eq_none_str (jW I q (by simp))
  |_=>exact absurd (show false=true from hs) P7
 |bl i=>
  cases rx;cases y with
  |non=>cases ry;exact PySem.EqNone.eq_bool_none (jW I q (by simp))
  |bl j=>cases ry;exact eq_bool (jW I q Am)
  |str j=>obtain⟨t',rfl⟩:=ry;exact PySem.EqMixed.eq_bool_str (jW I q (by simp))
  |_=>exact absurd (show false=true from hs) P7
 |int i=>
  obtain⟨t,rfl⟩:=rx;cases y with
  |non=>cases ry;exact PySem.EqNone.eq_int_none (jW I q (by simp))
  |int j=>obtain⟨t',rfl⟩:=ry;exact eq_int (jW I q ND)
  |str j=>obtain⟨t',rfl⟩:=ry;exact PySem.EqMixed.eq_int_str (jW I q (by simp))
  |_=>exact absurd (show false=true from hs) P7
 |str i=>
  obtain⟨t,rfl⟩:=rx;cases y with
  |non=>cases ry;exact PySem.EqNone.eq_str_none (jW I q (by simp))
  |bl j=>cases ry;exact PySem.EqMixed.eq_str_bool (jW I q (by simp))
  |int j=>obtain⟨t',rfl⟩:=ry;exact PySem.EqMixed.eq_str_int (jW I q (by simp))
  |str j=>obtain⟨t',rfl⟩:=ry;exact eq_str (jW I q NE)
  |_=>exact absurd (show false=true from hs) P7
 |byt i=>
  obtain⟨t,rfl⟩:=rx;cases y with
  |byt j=>obtain⟨t',rfl⟩:=ry;exact PySem.W.eq_bytes (jW I q NF)
  |_=>exact absurd (show false=true from hs) P7
 |_=>cases y<;>exact absurd (show false=true from hs) P7
theorem op_ne:OpR X (compareOp .NotEq) rNe:=by
 intro pins s σ H x y v u Q I rx ry h;obtain⟨hs,q⟩:=h;cases x with
 |non=>
  cases rx;cases y with
  |non=>cases ry;exact PySem.EqNone.ne_none_none (jW I q (by simp))
  |bl j=>cases ry;exact PySem.EqNone.ne_none_bool (jW I q (by simp))
  |int j=>obtain⟨t',rfl⟩:=ry;exact PySem.EqNone.ne_none_int (jW I q (by simp))
  |str j=>obtain⟨t',rfl⟩:=ry;exact PySem.EqNone.ne_none_str (jW I q (by simp))
  |_=>exact absurd (show false=true from hs) P7
 |bl i=>
  cases rx;cases y with
  |non=>cases ry;exact PySem.EqNone.ne_bool_none (jW I q (by simp))
  |bl j=>cases ry;exact ne_bool (jW I q (congrArg not Am))
  |str j=>obtain⟨t',rfl⟩:=ry;exact PySem.EqMixed.ne_bool_str (jW I q (by simp))
  |_=>exact absurd (show false=true from hs) P7
 |int i=>
  obtain⟨t,rfl⟩:=rx;cases y with
  |non=>cases ry;exact PySem.EqNone.ne_int_none (jW I q (by simp))
  |int j=>obtain⟨t',rfl⟩:=ry;exact ne_int (jW I q (congrArg not ND))
  |str j=>obtain⟨t',rfl⟩:=ry;exact PySem.EqMixed.ne_int_str (jW I q (by simp))
  |_=>exact absurd (show false=true from hs) P7
 |str i=>
  obtain⟨t,rfl⟩:=rx;cases y with
  |non=>cases ry;exact PySem.EqNone.ne_str_none (jW I q (by simp))
  |bl j=>cases ry;exact PySem.EqMixed.ne_str_bool (jW I q (by simp))
  |int j=>obtain⟨t',rfl⟩:=ry;exact PySem.EqMixed.ne_str_int (jW I q (by simp))
  |str j=>obtain⟨t',rfl⟩:=ry;exact ne_str (jW I q (congrArg not NE))
  |_=>exact absurd (show false=true from hs) P7
 |byt i=>
  obtain⟨t,rfl⟩:=rx;cases y with
  |byt j=>obtain⟨t',rfl⟩:=ry;exact PySem.W.ne_bytes (jW I q (congrArg not NF))
  |_=>exact absurd (show false=true from hs) P7
 |_=>cases y<;>exact absurd (show false=true from hs) P7
theorem uf:OpR X (compareOp .Lt) (rI0 λi j=> .bl (decide (i<j))):=kG λ_ _ _ _ _ _ _ q=>lt_int q
theorem ug:OpR X (compareOp .LtE) (rI0 λi j=> .bl (decide (i<=j))):=kG λ_ _ _ _ _ _ _ q=>le_int q
theorem uh:OpR X (compareOp .Gt) (rI0 λi j=> .bl (decide (j<i))):=kG λ_ _ _ _ _ _ _ q=>gt_int q
theorem ui:OpR X (compareOp .GtE) (rI0 λi j=> .bl (decide (j<=i))):=kG λ_ _ _ _ _ _ _ q=>ge_int q
variable {r:R2}
theorem OpR.or {f:Value->Value->Sem Value}{r':R2}(h:OpR X f r)(h':OpR X f r'):OpR X f (λx y H Q=>r x y H Q\/r' x y H Q):=by
 intro pins s σ H x y v u Q I rx ry q;rcases q with q|q
 ·exact h pins s σ H x y v u Q I rx ry q
 ·exact h' pins s σ H x y v u Q I rx ry q
theorem jI (b:Expr){op:CmpOp}(h:op≠ .In:=by decide)(h2:op≠ .NotIn:=by decide):behindInMarks op b=false:=by
 have e1:(op==CmpOp.In)=false:=by cases op<;>first|rfl|exact absurd rfl h
 have e2:(op==CmpOp.NotIn)=false:=by cases op<;>first|rfl|exact absurd rfl h2
 cases b<;>simp [behindInMarks,e1,e2]
variable {op:CmpOp}
theorem Eb (ho:OpR X (compareOp op) r)(ha:PE X a ta)(hb:PE X b tb)(hm:behindInMarks op b=false):PE X (.Compare a [op] [b] pos) (tOp r ta tb):=by
 intro pins s σ H Q I h;exact wpAny_Compare1 (uc ha hb I h λv u s2 x y H2 I2 rx ry q=>ho pins s2 σ H2 x y v u Q I2 rx ry q) hm
def Ec (t:TE):TT:=λσ H Q=>t σ H λx H'=> ∃k,x= .bl k/\Q k H'
theorem Ed (ho:OpR X (compareOp op) r)(ha:PE X a ta)(hb:PE X b tb)(hm:behindInMarks op b=false):PT X (.Compare a [op] [b] pos) (Ec (tOp r ta tb)):=by
 intro pins s σ H Q I h;refine wpAny_isTrue_Compare1 (thn (ha pins s σ H _ I h) λv s1 ⟨x,H1,I1,r1,q1⟩=>thn (hb pins s1 σ H1 _ I1 q1) λu s2 ⟨y,H2,I2,r2,q2⟩=>
  thn (ho pins s2 σ H2 x y v u _ I2 r1 r2 q2) λc s3 ⟨z,H3,I3,r3,k,e,q3⟩=> ?_) hm
 subst e;cases r3;exact B0 ⟨H3,I3,q3⟩
def NG (r r':R2)(ta tb tc:TE):TE:=λσ H Q=>ta σ H λx H1=>tb σ H1 λy H2=>r x y H2 λz H3=> ∃k,z= .bl k/\
 (if k=true then tc σ H3 λw' H4=>r' y w' H4 Q else Q (.bl false) H3)
theorem FT {op':CmpOp}{r':R2}(ho:OpR X (compareOp op) r)(ho':OpR X (compareOp op') r')(ha:PE X a ta)(hb:PE X b tb)(hc:PE X c tc)
 (hm:lastMarks [op,op'] [b,c]=false:=by with_unfolding_all rfl):PE X (.Compare a [op,op'] [b,c] pos) (NG r r' ta tb tc):=by
 intro pins s σ H Q I h;refine Compare_chain (thn (ha pins s σ H _ I h) λv s1 ⟨x,H1,I1,r1,q1⟩=>chain_link (thn (hb pins s1 σ H1 _ I1 q1) λu s2 ⟨y,H2,I2,r2,q2⟩=>
  thn (ho pins s2 σ H2 x y v u _ I2 r1 r2 q2) λd s3 ⟨z,H3,I3,r3,k,e,q3⟩=> ?_)) hm
 subst e;cases r3;refine B0 ?_;cases k with
 |false=>exact ite_ff ⟨.bl false,H3,I3,rfl,q3⟩
 |true=>exact ite_tt (chain_last (thn (hc pins s3 σ H3 _ I3 q3) λw' s4 ⟨z',H4,I4,r4,q4⟩=>ho' pins s4 σ H4 y z' u w' Q I4 r2 r4 q4))
theorem FU {op':CmpOp}{r':R2}(ho:OpR X (compareOp op) r)(ho':OpR X (compareOp op') r')(ha:PE X a ta)(hb:PE X b tb)(hc:PE X c tc)
 (hm:lastMarks [op,op'] [b,c]=false:=by with_unfolding_all rfl):PT X (.Compare a [op,op'] [b,c] pos) (Ec (NG r r' ta tb tc)):=by
 intro pins s σ H Q I h;refine isTrue_chain (thn (ha pins s σ H _ I h) λv s1 ⟨x,H1,I1,r1,q1⟩=>test_link (thn (hb pins s1 σ H1 _ I1 q1) λu s2 ⟨y,H2,I2,r2,q2⟩=>
  thn (ho pins s2 σ H2 x y v u _ I2 r1 r2 q2) λd s3 ⟨z,H3,I3,r3,k,e,q3⟩=> ?_)) hm
 subst e;cases r3;refine B0 ?_;cases k with
 |false=>
  obtain⟨k',e',q'⟩:=q3;cases e';exact ite_ff ⟨H3,I3,q'⟩
 |true=>
  refine ite_tt (test_last (thn (hc pins s3 σ H3 _ I3 q3) λw' s4 ⟨z',H4,I4,r4,q4⟩=>thn (ho' pins s4 σ H4 y z' u w' _ I4 r2 r4 q4) λd' s5 ⟨z2,H5,I5,r5,k2,e2,q5⟩=> ?_));subst e2;cases r5;exact B0 ⟨H5,I5,q5⟩
theorem Qk:(sizeLine:Nat)<2^63:=by rw [G1p];decide
theorem Jm {x:V}{us:List Value}(r:Vals [x] us): ∃u,us= [u]/\RelV x u:=by
 cases r with
 |cons r1 r2=>cases r2;exact⟨_,rfl,r1⟩
theorem FV {x y:V}{us:List Value}(r:Vals [x,y] us): ∃u w',us= [u,w']/\RelV x u/\RelV y w':=by
 cases r with
 |cons r1 r2=>
  cases r2 with
  |cons r3 r4=>cases r4;exact⟨_,_,rfl,r1,r3⟩
theorem NH (hc:X.calm=true):CallR X (.builtin "max") (λxs H Q=> ∃i j,xs= [.int i,.int j]/\Q (.int (if j>i then j else i)) H):=by
 intro pins s σ H xs us Q I r h;obtain⟨i,j,rfl,q⟩:=h;obtain⟨u,w',rfl,⟨t,rfl⟩,⟨t',rfl⟩⟩:=FV r;refine max_two_ints (I.ok.hd hc) λh' tk k=>⟨_,H,I.kept k,?_,q⟩
 by_cases hj:j>i
 ·rw [if_pos hj,if_pos hj];exact⟨_,rfl⟩
 ·rw [if_neg hj,if_neg hj];exact⟨_,rfl⟩
theorem call_int1:CallR X (.type "int") (λxs H Q=>(∃i,xs= [.int i]/\Q (.int i) H)\/ ∃k,xs= [.bl k]/\Q (.int (if k then 1 else 0)) H):=by
 intro pins s σ H xs us Q I r h;rcases h with ⟨i,rfl,q⟩|⟨k,rfl,q⟩
 ·obtain⟨u,rfl,t,rfl⟩:=Jm r;exact call_int_int ⟨.int i,H,I,⟨_,rfl⟩,q⟩
 ·obtain⟨u,rfl,r1⟩:=Jm r;cases r1;exact call_int_bool ⟨.int (if k then 1 else 0),H,I.tok _,⟨_,rfl⟩,q⟩
end
structure ObjM (h:Heap)(x dx C:Addr)(mA:Str->Option Value):Prop where
 obj:h.get? x=some (PySem.W.instObj C dx)
 ns:h.Ns1 dx mA
 ne:dx≠x
theorem NI {dx:Addr}{mA:Str->Option Value}(n:h.Ns1 dx mA): ∃od,h.get? dx=some od/\ ∀name,PySem.W.lookIn name od=some (mA name):=by
 obtain⟨o,es,ep,ho,hd,hk,_,hm⟩:=n;refine⟨o,ho,λname=> ?_⟩;have e:=hm name;unfold nsFind findBy at e;rw [<-Array.find?_toList] at e;unfold PySem.W.lookIn;rw [hd];dsimp only;split
 ·rename_i y q;rw [q] at e;exact congrArg some e
 ·rename_i q;rw [q] at e;have a:es.toList.any (·.refKey)=false:=by
   rw [List.any_eq_false];intro y hy;obtain⟨z,t,hkey⟩:=hk y (Array.mem_toList_iff.mp hy);simp [DictEntry.refKey,hkey]
  have a': ¬es.toList.any (·.refKey)=true:=by rw [a];exact P7
  rw [if_neg a'];exact congrArg some e
theorem ObjM.look {x dx C:Addr}{mA:Str->Option Value}(I:ObjM h x dx C mA): ∃od,PySem.W.InstAt h x (PySem.W.instObj C dx) C (some od)/\ ∀name,PySem.W.lookIn name od=some (mA name):=
 let ⟨od,ho,hl⟩:=NI I.ns
 ⟨od,⟨I.obj,rfl,rfl,ho⟩,hl⟩
theorem RelO.some_of {v:V}{o:Option Value}(r:RelO (some v) o): ∃u,o=some u/\RelV v u:=by
 cases o with
 |none=>exact(show False from r).elim
 |some u=>exact⟨u,rfl,r⟩
section
variable {P:Program}{w:World}{H H':Hp}{h h':Heap}{a C dx:Addr}{fs fs':List (Str×V)}
theorem Ee (hok:HOk P w H h)(e:H a=some (.ins C dx fs)): ∃mA,ObjM h a dx C mA/\(∀f,RelO (fs.lookup f) (mA f))/\PySem.Within mA (fs.map (·.1))/\fs.length<=1000/\H dx=some (.own a):=by
 obtain⟨d,z,ne,ob,mA,n,r,q⟩:=(show ObjOk P w H h a (.ins C dx fs) from hok a _ e);exact⟨mA,⟨ob,n,ne⟩,r,q,z,d⟩
end
structure Cls (K:PySem.W.Frag)(C:Addr):Prop where
 pg:PySem.W.plainGet K C Str.empty=true
 hd:PySem.W.hasDictIn K C=true
 po:PySem.W.plainOver K C=true
 sa:PySem.W.findIn K (.ref C) "__setattr__" =some (some (.builtin "object.__setattr__"))
theorem Cls.get {C:Addr}(c:Cls K C)(f:Str):PySem.W.plainGet K C f=true:=c.pg
section
variable {X:Cx}{pins:List (Addr×Obj)}{σ:St}{H:Hp}{s:Shared}{A:Around}{E:Value->Shared->Prop}{Q:Value->Shared->Prop}{c:Value}{b:Bool}
inductive TyOf (K:PySem.W.Frag)(H:Hp):V->Value->Prop where
 |non:TyOf K H .non (.type "NoneType")
 |bl (x:Bool):TyOf K H (.bl x) (.type "bool")
 |int (i:Int):TyOf K H (.int i) (.type "int")
 |str (x:Str):TyOf K H (.str x) (.type "str")
 |flt (x:UInt64):TyOf K H (.flt x) (.type "float")
 |lst {a:Addr} {xs:List V} (e:H a=some (.lst xs)):TyOf K H (.ref a) (.type "list")
 |frz {a:Addr} {o:Obj} {xs:List V} (e:H a=some (.frz o (.lst xs))):TyOf K H (.ref a) (.type "list")
 |tup {a:Addr} {xs:List V} (e:H a=some (.tup xs)):TyOf K H (.ref a) (.type "tuple")
 |dK {a:Addr} {kvs:List (Key×V)} (e:H a=some (.dK kvs)):TyOf K H (.ref a) (.type "dict")
 |dT {a:Addr} {kvs:List (List Key×V)} (e:H a=some (.dT kvs)):TyOf K H (.ref a) (.type "dict")
 |ins {a C dx:Addr} {fs:List (Str×V)} (e:H a=some (.ins C dx fs)) (cl:Cls K C) (ha:PySem.W.findIn K (.ref C) "__class__" =some (some (.builtin "object.__class__")))
  (hn:PySem.W.specialIn K (.builtin "object.__class__") "__get__" =some (some (.builtin "getset_descriptor.__get__"))) (htk:PySem.W.takesIn K (.builtin "object.__class__")=some true)
  (hm:PySem.W.mroIn K C (.type "object")=some true):TyOf K H (.ref a) (.ref C)
theorem NJ {x:V}{u t:Value}(I:Inv X pins σ H s)(rx:RelV x u)(ty:TyOf X.K H x t)(e:PySem.W.kitOne X.K t c=some b)(h: ∀tk,Q (.bool b) {s with toks:=tk}):
 wpAny (model X.prog X.w) A (call (.builtin "isinstance") [u,c]) Q E s:=by
 cases ty with
 |non=>cases (show u=Value.none from rx);exact F6 PySem.W.kitx_none I.kIn True.intro e (λz=>nomatch z) h
 |bl y=>cases (show u=Value.bool y from rx);exact F6 PySem.W.kitx_bool I.kIn True.intro e (λz=>nomatch z) h
 |int i=>obtain⟨t,q⟩:=(show ∃t,u=Value.int i t from rx);cases q;exact F6 PySem.W.kitx_int I.kIn True.intro e (λz=>nomatch z) h
 |str y=>obtain⟨t,q⟩:=(show ∃t,u=Value.str y t from rx);cases q;exact F6 PySem.W.kitx_str I.kIn True.intro e (λz=>nomatch z) h
 |flt y=>obtain⟨t,q⟩:=(show ∃t,u=Value.float y t from rx);cases q;exact F6 PySem.W.kitx_float I.kIn True.intro e (λz=>nomatch z) h
 | @lst a xs ea=>
  cases (show u=Value.ref a from rx);obtain⟨_,_,n,_,h1⟩:=(show ObjOk X.prog X.w H s.heap a (.lst xs) from I.hok a _ ea);exact F6 PySem.W.kitx_list I.kIn ⟨_,h1,rfl⟩ e (λz=>nomatch z) h
 | @frz a ob xs ea=>
  cases (show u=Value.ref a from rx);obtain⟨_,_,_,n,_,h1⟩:=(show ObjOk X.prog X.w H s.heap a (.frz ob (.lst xs)) from I.hok a _ ea);exact F6 PySem.W.kitx_list I.kIn ⟨_,h1,rfl⟩ e (λz=>nomatch z) h
 | @tup a xs ea=>
  cases (show u=Value.ref a from rx);obtain⟨_,_,_,p⟩:=(show ObjOk X.prog X.w H s.heap a (.tup xs) from I.hok a _ ea);obtain⟨o,h1,h2,_⟩:=p;exact F6 PySem.W.kitx_tuple I.kIn ⟨o,h1,h2⟩ e (λz=>nomatch z) h
 | @dK a kvs ea=>
  cases (show u=Value.ref a from rx);obtain⟨_,_,vs,_,p⟩:=(show ObjOk X.prog X.w H s.heap a (.dK kvs) from I.hok a _ ea);obtain⟨o,es,ep,h1,h2,_⟩:=p;exact F6 PySem.W.kitx_dict I.kIn ⟨o,h1,h2.1⟩ e (λz=>nomatch z) h
 | @dT a kvs ea=>
  cases (show u=Value.ref a from rx);obtain⟨_,_,xs,_,o,es,ep,h1,h2,_⟩:=(show ObjOk X.prog X.w H s.heap a (.dT kvs) from I.hok a _ ea);exact F6 PySem.W.kitx_dict I.kIn ⟨o,h1,h2.1⟩ e (λz=>nomatch z) h
 | @ins a C dx fs ea cl ha hn htk hm=>
  cases (show u=Value.ref a from rx);obtain⟨mA,O,_⟩:=Ee I.hok ea;obtain⟨od,J,_⟩:=O.look;exact F6 (PySem.W.kitx_own (cl.get _) cl.hd ha hn htk hm) I.kIn J e (λz=>nomatch z) h
end
structure Room (k:Nat)(A:Around):Prop where
 hd:A.handled=none
 dp:A.depth+3*k+5<recursionLimit
 un:A.units+16*k+200<cLine
 gd:A.guards=some []
variable {k:Nat}
theorem Room.deeper (r:Room (k+1) A)(env:Env):Room k (A.deeper env):=
 ⟨r.hd,by have:=r.dp;show A.depth+1+3*k+5<_;omega,by have:=r.un;show A.units+3+16*k+200<_;omega,r.gd⟩
theorem Room.depth (r:Room k A):A.depth<recursionLimit:=by have:=r.dp;omega
theorem Room.units (r:Room k A):A.units+64<cLine:=by have:=r.un;omega
def xQ:TA:=λ_ H Q=>Q [] H
def Hk (ta:TE)(tr:TA):TA:=λσ H Q=>ta σ H λx H1=>tr σ H1 λxs H2=>Q (x::xs) H2
section
variable {X:Cx}{e:Expr}{es:List Expr}{te:TE}{t:TA}{pos:Pos}
theorem pa_nil:PA X [] xQ:=λ_ _ _ _ H Q I h=>Calls.spliced_nil ⟨[],H,I,.nil,h⟩
theorem yS (ha:PE X e te)(hr:PA X es t)(hs:starEach (e::es) X.env=(false,eval e X.env)::starEach es X.env:=by rfl):PA X (e::es) (Hk te t):=by
 intro pos pins s σ H Q I h;rw [hs];show wpAny _ _ (spliced ((false,eval e X.env)::backTo pos (starEach es X.env))) _ _ s;refine G0u (thn (ha pins s σ H _ I h) λu s1 ⟨x,H1,I1,r1,q1⟩=> ?_);exact thn (hr pos pins s1 σ H1 _ I1 q1) λus s2 ⟨xs,H2,I2,r2,q2⟩=>⟨x::xs,H2,I2,.cons r1 r2,q2⟩
def xR (t:TA):TE:=λσ H Q=>t σ H λxs H1=>xs.length<=sizeLine/\ ∀p,H1 p=none->Q (.ref p) (upd H1 p (.tup xs))
def xS (t:TA):TE:=λσ H Q=>t σ H λxs H1=>xs.length<=sizeLine/\ ∀p,H1 p=none->Q (.ref p) (upd H1 p (.lst xs))
theorem Hl {x1}(h:PA X es t):PE X (.Tuple es x1 pos) (xR t):=by
 intro pins s σ H Q I hq;refine wpAny_Tuple_spliced (thn (h pos pins s σ H _ I hq) λus s1 ⟨xs,H1,I1,r,z,q⟩=>⟨by rw [<-r.length];exact z,?_⟩);have hf:H1 s1.heap.objs.size=none:=I1.hok.fresh (P1 _);refine⟨.ref s1.heap.objs.size,upd H1 s1.heap.objs.size (.tup xs),I1.laid (t':=s1.toks) (λb u e=>G2 _ e) (P1 _) ?_,rfl,q _ hf⟩;exact⟨z,us,r,IsTupN.new _ _⟩
theorem Hm (h:PA X es t):PE X (.List es pos) (xS t):=by
 intro pins s σ H Q I hq;refine wpAny_List_spliced (thn (h pos pins s σ H _ I hq) λus s1 ⟨xs,H1,I1,r,z,q⟩=>⟨by rw [<-r.length];exact z,?_⟩);have hf:H1 s1.heap.objs.size=none:=I1.hok.fresh (P1 _);refine⟨.ref s1.heap.objs.size,upd H1 s1.heap.objs.size (.lst xs),I1.laid (t':=s1.toks) (λb u e=>G2 _ e) (P1 _) ?_,rfl,q _ hf⟩;exact⟨z,us,0,r,D6 _ rfl⟩
end
abbrev Sp:=List V->Hp->VK->XK->Prop
abbrev CXT:=List Env->Hp->Shared->XK->Value->Shared->Prop
structure Env0 (P:Program)(w:World)(K:PySem.W.Frag)(mg:Str->Option Value)(base:Heap)(A:Around)(outer:List Env)(s:Shared)(H:Hp):Prop where
 frames:A.frames=some outer
 mod:Mod K mg base
 bs: ∀b o,base.get? b=some o->s.heap.get? b=some o/\H b=none
 bsz:base.objs.size<=s.heap.objs.size
 funs:s.heap.FunFrames base outer
 frf: ∀b∈frs outer,H b=none
 hok:HOk P w H s.heap
 bare:AllBare s.gens
def CE (outer:List Env)(P:Program)(w:World)(H:Hp)(s:Shared)(Q:VK)(u:Value)(s':Shared):Prop:=
 ∃v H',s'.os=s.os/\AllBare s'.gens/\Un (frs outer) [] H H' s.heap s'.heap/\HOk P w H' s'.heap/\RelV v u/\Q v H'
def CR (CX:CXT)(outer:List Env)(P:Program)(w:World)(H:Hp)(s:Shared)(Q:VK)(E:XK)(r:Result)(s':Shared):Prop:=
 match r with
 | .ok (.ret u)=>CE outer P w H s Q u s'
 | .ok _=>False
 | .error e=>CX outer H s E e s'
structure FnOk (P:Program)(w:World)(K:PySem.W.Frag)(mg:Str->Option Value)(base:Heap)(CX:CXT)(k:Nat)(f:Addr)(fd:FuncData)(ps:List Str)(sp:Sp):Prop where
 len: ∀vs H Q E,sp vs H Q E->vs.length=ps.length
 run: ∀ (A:Around) (outer:List Env) (s:Shared) (H:Hp) (args:Args) (us:List Value) (vs:List V) (Q:VK) (E:XK),Room k A->Env0 P w K mg base A outer s H->BindsTo s fd args (ps.zip us)->Vals vs us->sp vs H Q E->
  codeAny (model P w) A (.call (.ref f) args) (CR CX outer P w H s Q E) s
section
variable {X:Cx}{pins:List (Addr×Obj)}{σ:St}{H:Hp}{s s':Shared}
theorem Inv.env0 (I:Inv X pins σ H s):Env0 X.prog X.w X.K X.mg X.base X.A X.stack s H:=
 ⟨I.ok.frames,I.ok.mod,I.bs,R1 I.ok.bsz I.sz,I.stack,I.stkFree,I.hok,I.bare⟩
theorem Inv.after {Q:VK}{u:Value}(I:Inv X pins σ H s)(h:CE X.stack X.prog X.w H s Q u s'):EP X pins σ Q u s':=by
 obtain⟨v,H',os,bare,un,hok,r,q⟩:=h;obtain⟨hh,g,d,t,os'⟩:=s';obtain rfl:os'=s.os:=os;exact⟨v,H',I.call (h':=hh) (g':=g) (d':=d) (t':=t) (ch:= []) un hok bare (λb z=>absurd z (by simp)),r,q⟩
end
def Hn (sp:Sp)(dvs:List V)(E:XK)(t:TA):TE:=λσ H Q=>t σ H λvs H1=>sp (vs++dvs) H1 Q E
def Binds (K:PySem.W.Frag)(fd:FuncData)(ps:List Str)(ds:List Value):Prop:=
 ∀ (s:Shared) (us:List Value),K.In s.heap->(us++ds).length=ps.length->BindsTo s fd ⟨us,[]⟩ (ps.zip (us++ds))
theorem Binds.all {fd:FuncData}{ps:List Str}(h: ∀us:List Value,us.length=ps.length->bindArgs fd ⟨us,[]⟩=pure (ps.zip us)):Binds K fd ps []:=λs us _ hl=>by
 rw [F7] at hl ⊢;exact .of_eq (h us hl)
def NK (CX:CXT)(X:Cx)(E:XK):Prop:= ∀ (pins:List (Addr×Obj)) (σ:St) (H:Hp) (s:Shared) (e:Value) (s':Shared),Inv X pins σ H s->CX X.stack H s E e s'->X.xe e s'
section
variable {X:Cx}{CX:CXT}{k:Nat}{f C:Addr}{fd:FuncData}{ps:List Str}{sp:Sp}{dvs:List V}{ds:List Value}{E:XK}{x m:Str}{p pos apos:Pos}{e o:Expr}{es:List Expr}{ta:TE}{t:TA}
theorem Ho {pins:List (Addr×Obj)}{σ:St}{H:Hp}{s:Shared}{Q:VK}{us:List Value}{vs:List V}(F:FnOk X.prog X.w X.K X.mg X.base CX k f fd ps sp)(hr:Room k X.A)(hb:Binds X.K fd ps ds)(hd:Vals dvs ds)(hx:NK CX X E)
 (I:Inv X pins σ H s)(r:Vals vs us)(h:sp (vs++dvs) H Q E):wpAny (model X.prog X.w) X.A (call (.ref f) us) (EP X pins σ Q) X.xe s:=by
 have r2:Vals (vs++dvs) (us++ds):=r.append hd;have hl:(us++ds).length=ps.length:=by rw [<-r2.length];exact F.len _ _ _ _ h
 refine G1e (codeAny_mono (F.run X.A X.stack s H ⟨us,[]⟩ (us++ds) (vs++dvs) Q E hr I.env0 (hb s us I.kIn hl) r2 h) λr s' hq=> ?_);cases r with
 |error e=>exact hx pins σ H s e s' I hq
 |ok fl=>
  cases fl with
  |ret u=>exact I.after hq
  |next=>exact False.elim hq
  |brk=>exact False.elim hq
  |cont=>exact False.elim hq
theorem Ef (F:FnOk X.prog X.w X.K X.mg X.base CX k f fd ps sp)(hr:Room k X.A)(hg:Gl X x)(hm:X.mg x=some (.ref f))(hk:PySem.W.keepIn X.K (.ref f)=true)(hb:Binds X.K fd ps ds)(hd:Vals dvs ds)(hx:NK CX X E)
 (ha:PA X (e::es) t)(hdb:(x==("__debug__" :Str))=false:=by decide)(he:starEach (e::es) X.env=(false,eval e X.env)::starEach es X.env:=by rfl)(hpl:(backTo pos (starEach es X.env)).any (·.1)=false:=by rfl):
 PE X (.Call (.Name x p) (e::es) [] pos) (Hn sp dvs E t):=by
 intro pins s σ H Q I h;refine G0v (Ny I hg hm ?_ hdb);refine PySem.W.callWith_K (h₀:=X.base) I.ok.mod.kin hk (thn (ha pos pins s σ H _ I h) λus s1 ⟨vs,H1,I1,r,q⟩=>⟨I1.kIn,?_⟩) he hpl;exact Ho F hr hb hd hx I1 r q
end
structure FnScope (N P:List Str)(sc:Scope):Prop where
 kind:sc.kind= .function
 co:sc.isCoroutine=false
 gen:sc.isGenerator=false
 nd:N.Nodup
 pre:N.take P.length=P
 par: ∀x∈P,sc.names.lookup x=some .local\/sc.names.lookup x=some .cell
 nofree: ∀y∈sc.names,y.2≠ .free
variable {kindOf:Str->Option NameKind}{x:Str}
theorem Ql: ∀ {binds:List (Str×Value)} {m:Str->Option Value},(∀v,(x,v) ∉ binds)->bindL kindOf binds m x=m x
 | [],_,_=>rfl
 |(n,v)::r,m,h=>by
  unfold bindL;rw [Ql λw hw=>h w (R4 _ hw)];split
  ·have:x≠n:=by rintro rfl;exact h v D9
   simp [this]
  ·rfl
theorem Qm: ∀ {binds:List (Str×Value)} {m:Str->Option Value},(∀v,(x,v) ∉ binds)->bindC kindOf binds m x=m x
 | [],_,_=>rfl
 |(n,v)::r,m,h=>by
  unfold bindC;rw [Qm λw hw=>h w (R4 _ hw)];split
  ·rfl
  ·have:x≠n:=by rintro rfl;exact h v D9
   simp [this]
theorem Qn {v:Value}: ∀ {P:List Str} {vs:List Value} {i:Nat} {m:Str->Option Value},P.Nodup->P[i]? =some x->vs[i]? =some v->kindOf x=some .local->
 bindL kindOf (P.zip vs) m x=some v
 | [],_,_,_,_,h,_,_=>by simp at h
 |_::_,[],_,_,_,_,h,_=>by simp at h
 |p::P,w::vs,0,m,nd,h1,h2,hk=>by
  simp at h1 h2;subst h1;subst h2;show bindL kindOf ((p,w)::P.zip vs) m p=_;unfold bindL;rw [Ql λv hv=>(L6.mp nd).1 (W0 hv).1,if_pos hk];simp
 |p::P,w::vs,i+1,m,nd,h1,h2,hk=>by
  show bindL kindOf ((p,w)::P.zip vs) m x=_;unfold bindL;exact Qn (i:=i) (L6.mp nd).2 (by simpa using h1) (by simpa using h2) hk
theorem Qo {v:Value}: ∀ {P:List Str} {vs:List Value} {i:Nat} {m:Str->Option Value},P.Nodup->P[i]? =some x->vs[i]? =some v->kindOf x≠some .local->
 bindC kindOf (P.zip vs) m x=some v
 | [],_,_,_,_,h,_,_=>by simp at h
 |_::_,[],_,_,_,_,h,_=>by simp at h
 |p::P,w::vs,0,m,nd,h1,h2,hk=>by
  simp at h1 h2;subst h1;subst h2;show bindC kindOf ((p,w)::P.zip vs) m p=_;unfold bindC;rw [Qm λv hv=>(L6.mp nd).1 (W0 hv).1,if_neg hk];simp
 |p::P,w::vs,i+1,m,nd,h1,h2,hk=>by
  show bindC kindOf ((p,w)::P.zip vs) m x=_;unfold bindC;exact Qo (i:=i) (L6.mp nd).2 (by simpa using h1) (by simpa using h2) hk
def start (N:List Str)(vs:List V):St:=vs.map some++List.replicate (N.length-vs.length) none
def An (CX:CXT)(P:Program)(w:World)(K:PySem.W.Frag)(mg:Str->Option Value)(base:Heap)(N:List Str)(qual:Str)(scope:Scope)(f:Addr)(cd:Value)(A:Around)(outer:List Env)(s:Shared)(H:Hp)(E:XK):Cx where
 prog:=P
 w:=w
 K:=K
 mg:=mg
 base:=base
 A:=A.deeper (envOfC qual scope s.heap.objs.size f cd)
 N:=N
 s₀:=s
 H₀:=H
 env:=envOfC qual scope s.heap.objs.size f cd
 outer:=outer
 stack:=envOfC qual scope s.heap.objs.size f cd::outer
 ex:= []
 calm:=true
 fn:=λ_=>true
 pn:= []
 xe:=λe s'=>wpAny (model P w) (A.deeper (envOfC qual scope s.heap.objs.size f cd)) (leaving (envOfC qual scope s.heap.objs.size f cd) e) (λ_ s''=>CX outer H s E e s'') (λe' s''=>CX outer H s E e' s'') s'
theorem Ys {sc:Scope}{n:Nat}(h:sc.names.lookup x=some .cell): ∃c,(cellsFrom n sc.names []).lookup x=some c:=by
 have q:=G01 sc.names n [] (.inl h);exact K4.mp q
theorem NL {CX:CXT}{mg:Str->Option Value}{base:Heap}{N ps:List Str}{qual:Str}{scope:Scope}{f:Addr}{cd:Value}{outer:List Env}{s1:Shared}{E:XK}{us:List Value}{vs:List V}
 (S:FnScope N ps scope)(hd:A.handled=none)(e0:Env0 P w K mg base A outer s H)(hl:vs.length=ps.length)(r:Vals vs us)
 (x:InCallC s s.heap.objs.size (bindL (envOfC qual scope s.heap.objs.size f cd).kindOf (ps.zip us) λ_=>none) (cellsFrom (s.heap.objs.size+1) scope.names []) (bindC (envOfC qual scope s.heap.objs.size f cd).kindOf (ps.zip us) λ_=>none) s1):
 Inv (An CX P w K mg base N qual scope f cd A outer s H E) [] (start N vs) H s1:=by
 have hpl:ps.length<=N.length:=by have:=congrArg List.length S.pre;rw [D4] at this;omega
 obtain⟨h1,tk,rfl,hk⟩:=x.done;have noA: ∀b:Addr,b ∉ (An CX P w K mg base N qual scope f cd A outer s H E).ex:=λb z=>absurd (show b∈([]:List Addr) from z) (by simp)
 refine⟨⟨e0.mod,S.kind,rfl,rfl,P1 _,λy z c h1 h2=> ?_,λy hy=> ?_,λy c _ h=> ?_,λ_=>hd,Around.frames_deeper e0.frames,.inr ⟨rfl,rfl⟩,λb z=>absurd z (noA b),e0.bs,e0.bsz,λb _ _=>noA b,λb z=>absurd z (noA b),e0.funs,e0.frf⟩,
  rfl,e0.bare,Un.kept hk,⟨_,x.toInCall.ns,λi y v h1 h2 h3=> ?_⟩,λy c h=>⟨_,x.cell y c h⟩,e0.hok.fresh (P1 _),λy c h=> ?_,λp hp=>absurd (show p∈([]:List (Addr×Obj)) from hp) (by simp),e0.hok.kept hk,?_⟩
 ·exact name_of_addr x.apart (Q2 h1) (Q2 h2)
 ·have hy:scope.names.lookup y=some .cell\/scope.names.lookup y=some .free:=hy;rcases hy with hy|hy
  ·exact Ys hy
  ·exact absurd rfl (S.nofree _ (Q2 hy))
 ·exact D5 (x.above y c (Q2 h))
 ·have hi:i<vs.length:=by
   unfold start at h2
   by_cases hi:i<vs.length
   ·exact hi
   ·rw [P5 (by simpa using hi)] at h2;rw [G0P] at h2;split at h2<;>cases h2
  have ha:vs[i]? =some v:=by
   unfold start at h2;rw [D8 (by simpa using hi),P3] at h2;cases e:vs[i]? with
   |none=>rw [e] at h2;cases h2
   |some a=>rw [e] at h2;cases h2;rfl
  obtain⟨u,hu,rv⟩:=r.get ha;have hp:ps[i]? =some y:=by
   rw [<-S.pre,K5 (by omega)];exact h1
  have ndP:ps.Nodup:=by rw [<-S.pre];exact S.nd.sublist (E6 _ _)
  refine⟨u,rv,?_⟩;rcases S.par y (G8 hp) with k|k
  ·exact .inl ⟨k,Qn ndP hp hu k⟩
  ·obtain⟨c,e⟩:=Ys (n:=s.heap.objs.size+1) k;refine .inr ⟨.inl k,c,e,?_⟩;have q:=x.cell y c e;rw [Qo ndP hp hu (by show scope.names.lookup y≠_;rw [k];decide)] at q;exact q
 ·exact e0.hok.fresh (D5 (x.above y c (Q2 h)))
 ·unfold start;show _=N.length;rw [G9,G0,List.length_replicate];omega
theorem uj {CX:CXT}{mg:Str->Option Value}{base:Heap}{f:Addr}{name qual:Str}{params:Arguments}{body:List Stmt}{scope:Scope}{dV kV doc pm cdv ct oc:Value}{an od:Option Addr}{osl:Array (Option Value)}{N ps:List Str}{sp:Sp}(lk:K.lookup f=some ⟨oc,od,.func (PySem.W.fnOf name qual params body scope dV kV doc pm an cdv ct),osl⟩)(hcd:PySem.W.codeIn K cdv qual=true)(S:FnScope N ps scope)
 (len: ∀vs H Q E,sp vs H Q E->vs.length=ps.length)
 (hbody: ∀ (A:Around) (outer:List Env) (s:Shared) (H:Hp) (vs:List V) (Q:VK) (E:XK),Room k (A.deeper (envOfC qual scope s.heap.objs.size f cdv))->sp vs H Q E->
  ∃t,PSs (An CX P w K mg base N qual scope f cdv A outer s H E) body t/\t {nx:=λ_ H'=>Q .non H',rt:=Q} (start N vs) H):
 FnOk P w K mg base CX (k+1) f (PySem.W.fnOf name qual params body scope dV kV doc pm an cdv ct) ps sp:=by
 refine⟨len,λA outer s H args us vs Q E hr e0 hb r hsp=> ?_⟩;have hl:=len _ _ _ _ hsp;have KX:K.In s.heap:=e0.mod.kin.keeps λb o e=>(e0.bs b o e).1
 have lim:s.heap.NoLimit:=e0.mod.nolimit.keeps λb o e=>(e0.bs b o e).1
 have hkind: ∀y∈ps.zip us,scope.names.lookup y.1=some .local\/(scope.names.lookup y.1=some .cell/\((cellsFrom (s.heap.objs.size+1) scope.names []).lookup y.1).isSome=true):=λ⟨n,v⟩ hy=>by
  rcases S.par n (W0 hy).1 with q|q
  ·exact .inl q
  ·exact .inr ⟨q,G01 _ _ _ (.inl q)⟩
 refine codeAny_call_function hr.depth (KX _ _ lk) rfl S.co S.gen rfl (PySem.W.codeRec_of KX hcd) (hb _ _ _ _ ?_);refine wpAny_newFunctionEnv_cells S.kind hkind λenv he s1 x=> ?_
 subst he;refine⟨lim.keeps x.toInCall.keep,codeAny_func ?_⟩;obtain⟨t,ht,hq⟩:=hbody A outer s H vs Q E (hr.deeper _) hsp;have I:Inv (An CX P w K mg base N qual scope f cdv A outer s H E) [] (start N vs) H s1:=NL S hr.hd e0 hl r x;refine S0 (ht [] s1 (start N vs) H _ I hq) (λfl s' hs=> ?_) λe s' hs=>hs
 have fin: ∀ {σ':St} {H':Hp} {v:V} {u:Value},Inv (An CX P w K mg base N qual scope f cdv A outer s H E) [] σ' H' s'->RelV v u->Q v H'->CE outer P w H s Q u s':=
  λ{σ' H' v u} J rv q=>⟨v,H',J.os,J.bare,J.base,J.hok,rv,q⟩
 cases fl with
 |ret u=>
  obtain⟨v,σ',H',J,rv,q⟩:=hs;exact fin J rv q
 |next=>
  obtain⟨σ',H',J,q⟩:=hs;exact fin (v:=V.non) (u:=Value.none) J rfl q
 |brk=>
  obtain⟨_,_,_,q⟩:=hs;exact False.elim q
 |cont=>
  obtain⟨_,_,_,q⟩:=hs;exact False.elim q
section
variable {X:Cx}{x:Str}{p pos:Pos}{e:Expr}{es:List Expr}{t:TA}{id T:String}{r:List V->Hp->VK->Prop}
def tCB (r:List V->Hp->VK->Prop)(t:TA):TE:=λσ H Q=>t σ H λvs H1=>r vs H1 Q
theorem UT (hc:CallR X (.builtin id) r)(hg:Gl X x)(hm:X.mg x=none)(hv:bootBuiltins x=some (.builtin id))(ha:PA X (e::es) t)(hn:x≠ "__name__" :=by decide)(hdb:(x==("__debug__" :Str))=false:=by decide)
 (he:starEach (e::es) X.env=(false,eval e X.env)::starEach es X.env:=by rfl)(hpl:(backTo pos (starEach es X.env)).any (·.1)=false:=by rfl):PE X (.Call (.Name x p) (e::es) [] pos) (tCB r t):=by
 intro pins s σ H Q I h;refine G0v (WP I hg hm hv ?_ hn hdb);exact PyProof.Rows.callWith_builtin1 (thn (ha pos pins s σ H _ I h) λus s1 ⟨vs,H1,I1,r1,q1⟩=>hc pins s1 σ H1 vs us Q I1 r1 q1) he hpl
theorem YG (hc:CallR X (.type T) r)(hg:Gl X x)(hm:X.mg x=none)(hv:bootBuiltins x=some (.type T))(ha:PA X (e::es) t)(hn:x≠ "__name__" :=by decide)(hdb:(x==("__debug__" :Str))=false:=by decide)
 (he:starEach (e::es) X.env=(false,eval e X.env)::starEach es X.env:=by rfl)(hpl:(backTo pos (starEach es X.env)).any (·.1)=false:=by rfl):PE X (.Call (.Name x p) (e::es) [] pos) (tCB r t):=by
 intro pins s σ H Q I h;refine G0v (WP I hg hm hv ?_ hn hdb);exact C4 (thn (ha pos pins s σ H _ I h) λus s1 ⟨vs,H1,I1,r1,q1⟩=>hc pins s1 σ H1 vs us Q I1 r1 q1) he hpl
end
end L2
namespace HT
open PySem PyProof.Rows
def zj:List Int->List Int->Bool
 | [],[]=>false
 | [],_::_=>true
 |_::_,[]=>false
 |x::xs,y::ys=>if x=y then zj xs ys else decide (x<y)
theorem Ut (x y:Int)(xs ys:List Int):zj (x::xs) (y::ys)=if x=y then zj xs ys else decide (x<y):=rfl
theorem UU:zj [] []=false:=rfl
theorem Uc (y:Int)(ys:List Int):zj [] (y::ys)=true:=rfl
theorem Ud (x:Int)(xs:List Int):zj (x::xs) []=false:=rfl
theorem DZ (A:Around)(s:Shared)(a:Int)(t:Tok)(c:Int)(u:Tok): ∃e,SeqAt.EqAt A s (.int a t) (.int c u) e/\(e=true↔a=c):=
 ⟨(a==c),SeqAt.EqAt.int_int a t c u,by simp⟩
theorem FW (A:Around)(s:Shared)(a:Int)(t:Tok)(c:Int)(u:Tok)(prog:Program)(w:World)(E:Value->Shared->Prop)(Q:Value->Shared->Prop)(h:Q (.bool (decide (a<c))) s):
 wpAny (model prog w) A (richCompare .Lt (.int a t) (.int c u)) Q E s:=
 (G1q h:wpAny (model prog w) A (compareOp .Lt (.int a t) (.int c u)) Q E s)
section
open PySem.SeqAt
open PySem.AutoSeq1 (wpAny_loadPart')
open PySem.MeetsSeq PySem.MeetsSeq2 PySem.MeetsSeq3
theorem ZF (l b:Addr)(items items2:Array Value)(n n2:Nat)(dd dd2:Option Addr)(sl sl2:Array (Option Value))(ns ms:List Int)(hi:IntsAre items.toList ns)(hj:IntsAre items2.toList ms):
 Meets (Builtin.«tuple.__lt__» ⟨[.ref l,.ref b],[]⟩)
  (λ_ R s=>s.heap.get? l=some {cls:= .type "tuple",dict:=dd,data:= .seq items n,slots:=sl}/\s.heap.get? b=some {cls:= .type "tuple",dict:=dd2,data:= .seq items2 n2,slots:=sl2}/\
   R (.ok (.ret (.bool (zj ns ms)))) s):=
 .of_wp λprog w A R s h=>by
  obtain⟨hp,g,d,tk,os⟩:=s;obtain⟨hl,hb,h⟩:=h;have f2:=AutoSeq1.sub_tuple_tuple;have z1:items.size=ns.length:=by rw [<-hi.length];simp
  have z2:items2.size=ms.length:=by rw [<-hj.length];simp
  wp_walk using wpAny_loadPart' hl,wpAny_loadPart' hb,wpAny_forIn_list _ (λrest b s'=>b.1=none/\s'=⟨hp,g,d,tk,os⟩/\ ∃ (vs ws:List Value) (ns' ms':List Int),rest=vs.zip ws/\
   IntsAre vs ns'/\IntsAre ws ms'/\ns'.length+items2.size=ms'.length+items.size/\R (.ok (.ret (.bool (zj ns' ms')))) ⟨hp,g,d,tk,os⟩) _
  case turn=>
   rintro ⟨y,x⟩ rest b s' ⟨hb',rfl,vs,ws,ns',ms',hz,hvi,hwi,hlen,hR⟩;cases hvi with
   |nil=>rw [G0H] at hz;cases hz
   |cons a t hvi'=>
    cases hwi with
    |nil=>rw [List.zip_nil_right] at hz;cases hz
    |cons c u hwi'=>
     rw [W1] at hz;injection hz with hyx hrest
     injection hyx with hy hx
     subst hy hx;rw [Ut] at hR;simp only [P9] at hlen;obtain⟨e,he,hiff⟩:=DZ A.in1 ⟨hp,g,d,tk,os⟩ a t c u;refine wpAny_bind (he prog w _ _ ?_);cases e with
     |true=>
      rw [if_pos (hiff.mp rfl)] at hR
      wp_walk
      exact⟨rfl,rfl,_,_,_,_,hrest,hvi',hwi',by omega,hR⟩
     |false=>
      rw [if_neg (λq=>absurd (hiff.mpr q) P7)] at hR;have hri:=FW A.in1 ⟨hp,g,d,tk,os⟩ a t c u prog w
      wp_walk using hri
      exact⟨_,rfl,by simpa using hR⟩
  case fin=>
   rintro ⟨b1,b2⟩ s' ⟨hb',rfl,vs,ws,ns',ms',hz,hvi,hwi,hlen,hR⟩;simp only at hb';subst hb';have hv:zj ns' ms'=decide (items.size<items2.size):=by
    cases hvi with
    |nil=>
     cases hwi with
     |nil=>
      simp only [T4] at hlen;rw [UU];exact(D7 (by omega)).symm
     |cons c u hw=>
      simp only [T4,P9] at hlen;rw [Uc];exact(G6 (by omega)).symm
    |cons a t hv=>
     cases hwi with
     |nil=>
      simp only [T4,P9] at hlen;rw [Ud];exact(D7 (by omega)).symm
     |cons c u hw=>
      rw [W1] at hz;cases hz
   rw [hv] at hR
   wp_walk
   exact⟨_,rfl,by simpa [Builtin.Tuple.tupleCompareSizes] using hR⟩
  case h=>
   exact⟨rfl,rfl,items.toList,items2.toList,ns,ms,rfl,hi,hj,by omega,h⟩
end
section
variable {prog:Program}{w:World}{A:Around}{E:Value->Shared->Prop}{s:Shared}
theorem RX {l b:Addr}{items items2:Array Value}{ns ms:List Int}{Q:Value->Shared->Prop}(hl:IsTup s.heap l items)(hb:IsTup s.heap b items2)(hi:IntsAre items.toList ns)(hj:IntsAre items2.toList ms)
 (hu:A.units<cLine)(h:Q (.bool (zj ns ms)) s):wpAny (model prog w) A (compareOp .Lt (.ref l) (.ref b)) Q E s:=by
 obtain⟨⟨cls,dd,data,sl⟩,ho,hc,n,hd⟩:=id hl;obtain⟨⟨cls2,dd2,data2,sl2⟩,ho2,hc2,n2,hd2⟩:=id hb;simp only at hc hd hc2 hd2;subst hc hd hc2 hd2;exact richCompare_meets_room (op:= .Lt) ⟨_,ho,rfl⟩ ⟨_,ho2,rfl⟩ Y8 G02 (G0Q _ _) (ZF l b items items2 n n2 dd dd2 sl sl2 ns ms hi hj)
  ⟨ho,ho2,show Value.bool (zj ns ms)≠Value.notImplemented/\Q (.bool (zj ns ms)) s from ⟨(λx=>nomatch x),h⟩⟩ hu
theorem Eg {t b:Addr}{vs ws:List Value}{Q:Value->Shared->Prop}(ht:IsTup s.heap t vs.toArray)(hb:IsTup s.heap b ws.toArray)(hv:vs≠ [])
 (h1:ws= []->Q (.ref t) s)(h2:ws≠ []->Q (.ref s.heap.objs.size) {s with heap:=s.heap.push {cls:= .type "tuple",data:= .seq (vs++ws).toArray}})
 (hsz:vs.length+ws.length<=sizeLine):wpAny (model prog w) A (binaryOp .Add (.ref t) (.ref b)) Q E s:=by
 obtain⟨⟨cls,dd,data,sl⟩,ho,hc,n,hd⟩:=id ht;obtain⟨⟨cls2,dd2,data2,sl2⟩,ho2,hc2,n2,hd2⟩:=id hb;simp only at hc hd hc2 hd2;subst hc hd hc2 hd2;have e:vs.toArray++ws.toArray=(vs++ws).toArray:=by simp
 by_cases hw:ws= []
 ·exact concat_meets ⟨_,ho,rfl⟩ ⟨_,ho2,rfl⟩ G0U seq_tuple_add X4 W3 (V5 _ _)
   (tuple_addW1 t b vs.toArray ws.toArray n n2 dd dd2 sl sl2 (by simpa using hv) (by simp [hw])) ⟨ho,ho2,h1 hw⟩
 ·refine concat_meets ⟨_,ho,rfl⟩ ⟨_,ho2,rfl⟩ G0U seq_tuple_add X4 W3 (V5 _ _)
   (tuple_addW2 t b vs.toArray ws.toArray n n2 dd dd2 sl sl2 (by simpa using hv) (by simpa using hw) (by rw [D0,D0];exact hsz)) ⟨ho,ho2,?_⟩
  rw [e];exact h2 hw
def sIx (n d:Nat):Option Int->Nat
 |none=>d
 |some v=>if v<0 then (v+(n:Int)).toNat else min v.toNat n
theorem Hq (n d:Nat)(hd:d<=n)(o:Option Int):sIx n d o<=n:=by
 cases o with
 |none=>exact hd
 |some v=>
  show (if v<0 then (v+(n:Int)).toNat else min v.toNat n)<=n
  by_cases hv:v<0
  ·rw [if_pos hv];omega
  ·rw [if_neg hv];exact Z4 _ _
theorem NM (v:Int)(n d:Nat):(if v<0 then max (v+(n:Int)) 0 else min v (n:Int))=((sIx n d (some v):Nat):Int):=by
 show (if v<0 then max (v+(n:Int)) 0 else min v (n:Int))=(((if v<0 then (v+(n:Int)).toNat else min v.toNat n):Nat):Int)
 by_cases hv:v<0
 ·simp only [if_pos hv];omega
 ·simp only [if_neg hv];omega
theorem RY (lo hi:Option Int)(n:Nat):Builtin.Slice.sliceAdjust lo hi 1 (n:Int)=(((sIx n 0 lo:Nat):Int),((sIx n n hi:Nat):Int)):=by
 have h1: ¬ ((1:Int)<0):=by omega
 unfold Builtin.Slice.sliceAdjust;simp only [h1,G1v];refine Prod.ext ?_ ?_
 ·cases lo with
  |none=>rfl
  |some v=>exact NM v n 0
 ·cases hi with
  |none=>rfl
  |some v=>exact NM v n n
theorem RZ (i j:Nat):Builtin.Slice.slicePlaces (i:Int) (j:Int) 1=j-i:=by
 unfold Builtin.Slice.slicePlaces;have h1:(1:Int)>0:=by omega
 simp only [h1,if_true,Int.ediv_one];split<;>omega
theorem Uu {v:Value}{o:Option Int}{Q:Option Int->Shared->Prop}(p:IsPart v o)(h:Q o s):wpAny (model prog w) A (Builtin.Slice.slicePartIndex v) Q E s:=by
 cases p with
 |none=>exact slicePart_none h
 |int i t=>exact slicePart_int h
theorem vA {sl:Addr}{vl vu:Value}{lo hi:Option Int}{n:Nat}{Q:Int×Int×Nat->Shared->Prop}(hs:s.heap.IsSliceOf sl vl vu .none)(pl:IsPart vl lo)(pu:IsPart vu hi)
 (h:Q (((sIx n 0 lo:Nat):Int),1,sIx n n hi-sIx n 0 lo) s):wpAny (model prog w) A (Builtin.Slice.sliceApplied (.ref sl) (pure (n:Int))) Q E s:=by
 obtain⟨os,hos,hcs,hds⟩:=id hs;unfold Builtin.Slice.sliceApplied Builtin.Slice.sliceFields;refine wpAny_bind (wpAny_bind (wpAny_field hos hds (x:=vl) rfl (wpAny_bind (wpAny_field hos hds (x:=vu) rfl (wpAny_bind (wpAny_field hos hds (x:= .none) rfl (P0 ?_)))))));refine wpAny_bind (slicePart_none ?_);show wpAny _ _ (if ((1:Int)==0)=true then _ else _) _ _ s;rw [if_neg (by decide)];refine wpAny_bind (Uu pl (wpAny_bind (Uu pu (wpAny_bind (P0 ?_)))));show wpAny _ _ (match Builtin.Slice.sliceAdjust lo hi 1 (n:Int) with|(lo,hi)=>pure (lo,(1:Int),Builtin.Slice.slicePlaces lo hi 1)) _ _ s;rw [RY lo hi n];show wpAny _ _ (pure (((sIx n 0 lo:Nat):Int),(1:Int),Builtin.Slice.slicePlaces ((sIx n 0 lo:Nat):Int) ((sIx n n hi:Nat):Int) 1)) _ _ s;rw [RZ];exact P0 h
theorem FX (xs:Array Value)(i k:Nat):((List.range k).filterMap λ(m:Nat)=>xs[((i:Int)+(m:Int)*1).toNat]?).toArray=((xs.toList.drop i).take k).toArray:=by
 have e:(λ(m:Nat)=>xs[((i:Int)+(m:Int)*1).toNat]?)=λm=>xs[i+m]? :=by
  funext m
  have:((i:Int)+(m:Int)*1).toNat=i+m:=by omega
  rw [this]
 rw [e];have:=pick_run xs i k;rw [List.filterMap_map] at this;have e2:((λx=>xs[x]?)∘λx=>i+x)=λm=>xs[i+m]? :=rfl
 rw [e2] at this;rw [this]
theorem Wk {t sl:Addr}{items:Array Value}{vl vu:Value}{lo hi:Option Int}{Q:Value->Shared->Prop}(ht:IsTup s.heap t items)(hs:s.heap.IsSliceOf sl vl vu .none)(pl:IsPart vl lo)(pu:IsPart vu hi)
 (hw: ¬ (sIx items.size 0 lo=0/\sIx items.size items.size hi=items.size))
 (h:Q (.ref s.heap.objs.size) {s with heap:=s.heap.push {cls:= .type "tuple",data:= .seq ((items.toList.drop (sIx items.size 0 lo)).take (sIx items.size items.size hi-sIx items.size 0 lo)).toArray}})
 (hsz:items.size<=sizeLine):wpAny (model prog w) A (getItem (.ref t) (.ref sl)) Q E s:=by
 have htake:sizeOk (.seq ((items.toList.drop (sIx items.size 0 lo)).take (sIx items.size items.size hi-sIx items.size 0 lo)).toArray):=by
  show ((items.toList.drop (sIx items.size 0 lo)).take (sIx items.size items.size hi-sIx items.size 0 lo)).toArray.size<=sizeLine;rw [D0,D4,S7,T7];omega
 have hj:sIx items.size items.size hi<=items.size:=Hq _ _ (P1 _) hi;obtain⟨os,hos,hcs,hds⟩:=id hs;have hTs:s.TypeIs (.ref sl) "slice" :=⟨os,hos,hcs⟩;unfold getItem
 try with_reducible refine C0 ?_
 first|refine wpAny_bind (P0 ?_)|skip
 refine wpAny_bind (wpAny_sequenceKey ht.typeIs (by decide) ?_);refine wpAny_bind (C9 (name:=Str.ofString "__getitem__") ht.typeIs O6
  (C7 O6 ht.typeIs entry_tuple_getitem ?_ (args_tuple_getitem _ _)))
 show wpAny _ _ (Builtin.Tuple.tupleItemsOf (.ref t) >>= _) _ _ s;refine wpAny_bind (tupleItemsOf_ ht ?_);refine wpAny_bind (wpAny_typeOf hTs ?_);rw [if_pos (by decide)];refine wpAny_bind (vA hs pl pu ?_);have hno: ¬ ((((sIx items.size 0 lo:Nat):Int)==0&&(1:Int)==1&&(sIx items.size items.size hi-sIx items.size 0 lo)==items.size)=true):=by
  intro q;rw [S5,S5] at q;have q1:((sIx items.size 0 lo:Nat):Int)=0:=eq_of_beq q.1.1;have q2:sIx items.size items.size hi-sIx items.size 0 lo=items.size:=eq_of_beq q.2;exact hw ⟨by omega,by omega⟩
 show wpAny _ _ (if (((sIx items.size 0 lo:Nat):Int)==0&&(1:Int)==1&&(sIx items.size items.size hi-sIx items.size 0 lo)==items.size)=true then _ else _) _ _ s;rw [if_neg hno,FX]
 first
  |exact wpAny_bind (m:=Builtin.Tuple.tupleExact _) (K1 (P0 ⟨_,rfl,P0 h⟩) htake)
  |exact wpAny_bind (m:=Builtin.Tuple.tupleExact _) (K1 (wpAny_bind (P0 (P0 ⟨_,rfl,P0 h⟩))) htake)
  |exact wpAny_bind (wpAny_bind (m:=Builtin.Tuple.tupleExact _) (K1 (P0 (P0 ⟨_,rfl,P0 h⟩)) htake))
  |exact wpAny_bind (wpAny_bind (m:=Builtin.Tuple.tupleExact _) (K1 (P0 ⟨_,rfl,P0 h⟩) htake))
end
end HT
namespace L2
open PySem PySem.Spec PyProof.Rows
abbrev TO:=St->Hp->(Option Int->Hp->Prop)->Prop
def PO (X:Cx)(e:Option Expr)(t:TO):Prop:=
 ∀ (pins:List (Addr×Obj)) (s:Shared) (σ:St) (H:Hp) (Q:Option Int->Hp->Prop),Inv X pins σ H s->t σ H Q->
  wpAny (model X.prog X.w) X.A (evalPart e X.env) (λu s'=> ∃o H',Inv X pins σ H' s'/\IsPart u o/\Q o H') X.xe s
def Eh:TO:=λ_ H Q=>Q none H
def ul (t:TE):TO:=λσ H Q=>t σ H λx H1=> ∃i,x= .int i/\Q (some i) H1
section
variable {X:Cx}{e:Expr}{te:TE}{lo hi:Option Expr}{tl th:TO}{pos p2:Pos}
theorem po_none:PO X none Eh:=by
 intro pins s σ H Q I h;rw [evalPart_none];exact P0 ⟨none,H,I,.none,h⟩
theorem Ei (h:PE X e te):PO X (some e) (ul te):=by
 intro pins s σ H Q I hw;rw [evalPart_some];refine thn (h pins s σ H _ I hw) λu s1 ⟨x,H1,I1,r1,q1⟩=> ?_
 obtain⟨i,rfl,q⟩:=q1;obtain⟨t,rfl⟩:=r1;exact⟨some i,H1,I1,.int i t,q⟩
def SlR (X:Cx)(r:V->Option Int->Option Int->Hp->VK->Prop):Prop:=
 ∀ (pins:List (Addr×Obj)) (s:Shared) (σ:St) (H:Hp) (x:V) (v vl vu:Value) (lo hi:Option Int) (sl:Addr) (Q:VK),Inv X pins σ H s->RelV x v->s.heap.IsSliceOf sl vl vu .none->IsPart vl lo->IsPart vu hi->r x lo hi H Q->
  ∃T id,typeLookup (.type T) "__getitem__" =pure (some (.builtin id))/\s.TypeIs v T/\wpAny (model X.prog X.w) X.A (getItem v (.ref sl)) (EP X pins σ Q) X.xe s
theorem SlR.or {r r':V->Option Int->Option Int->Hp->VK->Prop}(h:SlR X r)(h':SlR X r'):SlR X (λx lo hi H Q=>r x lo hi H Q\/r' x lo hi H Q):=by
 intro pins s σ H x v vl vu lo hi sl Q I rx hs pl pu q;rcases q with q|q
 ·exact h pins s σ H x v vl vu lo hi sl Q I rx hs pl pu q
 ·exact h' pins s σ H x v vl vu lo hi sl Q I rx hs pl pu q
def tSl (r:V->Option Int->Option Int->Hp->VK->Prop)(te:TE)(tl th:TO):TE:=λσ H Q=>te σ H λx H1=>tl σ H1 λl H2=>th σ H2 λu H3=>r x l u H3 Q
theorem FY {r:V->Option Int->Option Int->Hp->VK->Prop}(hr:SlR X r)(he:PE X e te)(hl:PO X lo tl)(hu:PO X hi th):PE X (.Subscript e (.Slice lo hi none p2) pos) (tSl r te tl th):=by
 intro pins s σ H Q I h;refine Subscript_ (thn (he pins s σ H _ I h) λv s1 ⟨x,H1,I1,r1,q1⟩=> ?_);refine wpAny_Slice (thn (hl pins s1 σ H1 _ I1 q1) λvl s2 ⟨l,H2,I2,pl,q2⟩=>thn (hu pins s2 σ H2 _ I2 q2) λvu s3 ⟨u,H3,I3,pu,q3⟩=> ?_);rw [evalPart_none];refine P0 ?_;have I4:Inv X pins σ H3 {s3 with heap:=s3.heap.push {cls:= .type "slice",data:= .fields #[vl,vu,.none]}}:=I3.kept (t':=s3.toks) λb ob q=>G2 _ q
 obtain⟨T,id,hT,ht,hg⟩:=hr pins {s3 with heap:=s3.heap.push {cls:= .type "slice",data:= .fields #[vl,vu,.none]}} σ H3 x v vl vu l u s3.heap.objs.size Q I4 r1 (Heap.IsSliceOf.new ..) pl pu q3;show wpAny (model X.prog X.w) X.A (subscriptTail e (.Slice lo hi none p2) v (.ref s3.heap.objs.size)) (EP X pins σ Q) X.xe {s3 with heap:=s3.heap.push {cls:= .type "slice",data:= .fields #[vl,vu,.none]}};exact tail_any (ops:= [.ref s3.heap.objs.size,v]) ht hT hg (by with_unfolding_all rfl)
def FF (xs:List V)(lo hi:Option Int):List V:=(xs.drop (HT.sIx xs.length 0 lo)).take (HT.sIx xs.length xs.length hi-HT.sIx xs.length 0 lo)
theorem YH (xs:List V)(lo hi:Option Int):(FF xs lo hi).length<=xs.length:=by
 unfold FF;rw [D4,S7];omega
def qD (K:PySem.W.Frag):V->Option Int->Option Int->Hp->VK->Prop:=λx lo hi H Q=> ∃a xs,x= .ref a/\SqT K H a xs/\
 ¬ (HT.sIx xs.length 0 lo=0/\HT.sIx xs.length xs.length hi=xs.length)/\ ∀p,H p=none->Q (.ref p) (upd H p (.tup (FF xs lo hi)))
theorem sl_tup:SlR X (qD X.K):=by
 intro pins s σ H x v vl vu lo hi sl Q I rx hs pl pu h;obtain⟨a,xs,rfl,hx,hw,q⟩:=h;cases rx;obtain⟨its,r,ht,hz⟩:=I.tuple hx;have hlen:its.toArray.size=xs.length:=by rw [D0];exact r.length.symm
 refine⟨"tuple",_,PyProof.Rows.slot_tuple_getitem.lookup,ht.typeIs,?_⟩;refine HT.Wk ht hs pl pu (by rw [hlen];exact hw) ?_ (by rw [hlen];exact hz);rw [hlen];refine⟨.ref s.heap.objs.size,_,I.laid (t':=s.toks) (o:= .tup (FF xs lo hi)) (λb ob q=>G2 _ q) (P1 _) ?_,rfl,q _ (I.hok.fresh (P1 _))⟩;exact⟨R1 (YH xs lo hi) hz,_,(r.drop (HT.sIx xs.length 0 lo)).take (HT.sIx xs.length xs.length hi-HT.sIx xs.length 0 lo),IsTupN.new _ _⟩
def um (K:PySem.W.Frag):R2:=λx y H Q=> ∃a b xs ys,x= .ref a/\y= .ref b/\SqT K H a xs/\SqT K H b ys/\xs≠ []/\xs.length+ys.length<=sizeLine/\
 (ys= []->Q (.ref a) H)/\(ys≠ []-> ∀p,H p=none->Q (.ref p) (upd H p (.tup (xs++ys))))
theorem Vals.nil_iff {xs:List V}{us:List Value}(r:Vals xs us):us= []↔xs= []:=by
 cases r with
 |nil=>simp
 |cons _ _=>simp
theorem op_catT:OpR X (binaryOp .Add) (um X.K):=by
 intro pins s σ H x y v u Q I rx ry h;obtain⟨a,b,xs,ys,rfl,rfl,ha,hb,hx,hz,q1,q2⟩:=h;cases rx;cases ry;obtain⟨its,r1,p1,_⟩:=I.tuple ha;obtain⟨its2,r2,p2,_⟩:=I.tuple hb;refine HT.Eg p1 p2 (λz=>hx (r1.nil_iff.mp z)) (λz=>⟨.ref a,H,I,rfl,q1 (r2.nil_iff.mp z)⟩) (λz=> ?_) (by rw [<-r1.length,<-r2.length];exact hz);refine⟨.ref s.heap.objs.size,_,I.laid (t':=s.toks) (o:= .tup (xs++ys)) (λb ob q=>G2 _ q) (P1 _) ?_,rfl,q2 (λw=>z (r2.nil_iff.mpr w)) _ (I.hok.fresh (P1 _))⟩;exact⟨by rw [G9];exact hz,_,r1.append r2,IsTupN.new _ _⟩
end
def ixN (n:Nat)(i:Int):Option Nat:=if 0<=i then (if i<n then some i.toNat else none) else if-(n:Int)<=i then some (i+n).toNat else none
def atI {α:Type}(xs:List α)(i:Int):Option α:=(ixN xs.length i).bind λj=>xs[j]?
theorem NN {n:Nat}{i:Int}{j:Nat}(h:ixN n i=some j):seqIndex? i n=some j/\j<n/\ -(n:Int)<=i/\i<n:=by
 unfold ixN at h
 by_cases h0:0<=i
 ·rw [if_pos h0] at h
  by_cases h1:i<n
  ·rw [if_pos h1] at h;have e:i.toNat=j:=N3 h;exact⟨by rw [seqIndex_of h0 h1,e],by omega,by omega,h1⟩
  ·rw [if_neg h1] at h;cases h
 ·rw [if_neg h0] at h
  by_cases h1: -(n:Int)<=i
  ·rw [if_pos h1] at h;have e:(i+n).toNat=j:=N3 h;exact⟨by rw [seqIndex_neg (by omega) h1,e],by omega,h1,by omega⟩
  ·rw [if_neg h1] at h;cases h
theorem Pn {α:Type}{xs:List α}{i:Int}{v:α}(h:atI xs i=some v): ∃j,seqIndex? i xs.length=some j/\xs[j]? =some v/\j<xs.length/\ -(xs.length:Int)<=i/\i<xs.length:=by
 unfold atI at h;cases e:ixN xs.length i with
 |none=>rw [e] at h;cases h
 |some j=>
  rw [e] at h;obtain⟨h1,h2,h3,h4⟩:=NN e;exact⟨j,h1,h,h2,h3,h4⟩
theorem wW {α:Type}{xs:List α}{j:Nat}{v:α}(h:xs[j]? =some v):atI xs (j:Int)=some v:=by
 have hj:j<xs.length:=(G7.mp h).1;have e:ixN xs.length (j:Int)=some j:=by
  unfold ixN;rw [if_pos (by omega),if_pos (by omega)];simp
 unfold atI;rw [e];exact h
def Po (b:Expr):Prop:= ∀o i,subscripted b false o i=operate [o,i] (getItem o i)
def IxR (X:Cx)(r:R2):Prop:=
 ∀ (value slice:Expr) (pins:List (Addr×Obj)) (s:Shared) (σ:St) (H:Hp) (x y:V) (v u:Value) (Q:VK),Inv X pins σ H s->RelV x v->RelV y u->r x y H Q->
  subscripted slice false v u=operate [v,u] (getItem v u)->wpAny (model X.prog X.w) X.A (subscriptTail value slice v u) (EP X pins σ Q) X.xe s
def MtR (X:Cx)(id:String)(r:V->List V->Hp->VK->Prop):Prop:=
 ∀ (pins:List (Addr×Obj)) (s:Shared) (σ:St) (H:Hp) (x:V) (xs:List V) (v:Value) (us:List Value) (Q:VK),Inv X pins σ H s->RelV x v->Vals xs us->r x xs H Q->
  wpAny (model X.prog X.w) X.A (call (.builtin id) (v::us)) (EP X pins σ Q) X.xe s
section
variable {X:Cx}{a b:Expr}{ta tb:TE}{pos:Pos}
theorem IxR.or {r r':R2}(h:IxR X r)(h':IxR X r'):IxR X (λx y H Q=>r x y H Q\/r' x y H Q):=by
 intro value slice pins s σ H x y v u Q I rx ry q hs;rcases q with q|q
 ·exact h value slice pins s σ H x y v u Q I rx ry q hs
 ·exact h' value slice pins s σ H x y v u Q I rx ry q hs
theorem uo {r:R2}(hr:IxR X r)(ha:PE X a ta)(hb:PE X b tb)(hs:Po b):PE X (.Subscript a b pos) (tOp r ta tb):=by
 intro pins s σ H Q I h;exact Subscript_ (uc ha hb I h λv u s2 x y H2 I2 rx ry q=>hr a b pins s2 σ H2 x y v u Q I2 rx ry q (hs _ _))
def xT (K:PySem.W.Frag):R2:=λx y H Q=> ∃p xs i v,x= .ref p/\y= .int i/\SqL K H p xs/\atI xs i=some v/\Q v H
def xU (K:PySem.W.Frag):R2:=λx y H Q=> ∃p xs i v,x= .ref p/\y= .int i/\SqT K H p xs/\atI xs i=some v/\Q v H
def xV:R2:=λx y H Q=> ∃z i c,x= .str z/\y= .int i/\z.length<=sizeLine/\atI z.cps.toList i=some c/\Q (.str ⟨#[c]⟩) H
theorem ix_list:IxR X (xT X.K):=by
 intro value slice pins s σ H x y v u Q I rx ry h hs;obtain⟨p,xs,i,z,rfl,rfl,hq,he,q⟩:=h;cases rx;obtain⟨t,rfl⟩:=ry;obtain⟨its,r,pl,hz⟩:=I.list hq;obtain⟨j,h1,h2,h3,h4,h5⟩:=Pn he;obtain⟨w,ew,rw'⟩:=r.get h2;have hl:=r.length;have hn:=Qk;have fin:EP X pins σ Q w s:=⟨z,H,I,rw',q⟩
 by_cases h0:0<=i
 ·have hj:i.toNat=j:=by
   rw [seqIndex_of h0 h5] at h1;exact N3 h1
  exact item_listR pl.isList h0 (by omega) (by rw [hj];simpa using ew) fin hs
 ·have hj:(i+(its.toArray.size:Int)).toNat=j:=by
   rw [seqIndex_neg (by omega) h4] at h1;rw [D0,<-hl];exact N3 h1
  exact subscriptTail_builtinR (x:=w) pl.isList.typeIs slot_list_getitem.lookup
   (wpAny_getItem_list_neg (Q:=λr s'=>r=w/\EP X pins σ Q r s') pl.isList (by omega) (by rw [D0]<;>omega) (by omega) (by rw [hj];simpa using ew) ⟨rfl,fin⟩) hs
theorem ix_tup:IxR X (xU X.K):=by
 intro value slice pins s σ H x y v u Q I rx ry h hs;obtain⟨p,xs,i,z,rfl,rfl,hq,he,q⟩:=h;cases rx;obtain⟨t,rfl⟩:=ry;obtain⟨its,r,pl,hz⟩:=I.tuple hq;obtain⟨j,h1,h2,h3,h4,h5⟩:=Pn he;obtain⟨w,ew,rw'⟩:=r.get h2;have hl:=r.length;have hn:=Qk;have fin:EP X pins σ Q w s:=⟨z,H,I,rw',q⟩;exact subscriptTail_builtinR (x:=w) pl.typeIs slot_tuple_getitem.lookup
  (getItem_tuple (j:=j) (Q:=λr s'=>r=w/\EP X pins σ Q r s') pl (by omega) (by omega) (by rw [D0,<-hl];exact h1) (by simpa using ew) ⟨rfl,fin⟩) hs
theorem Hr:IxR X xV:=by
 intro value slice pins s σ H x y v u Q I rx ry h hs;obtain⟨z,i,c,rfl,rfl,hz,he,q⟩:=h;obtain⟨t,rfl⟩:=rx;obtain⟨t',rfl⟩:=ry;obtain⟨j,h1,h2,h3,h4,h5⟩:=Pn he;have hl:z.cps.toList.length=z.length:=by simp [Str.length]
 rw [hl] at h1 h4 h5;have hn:=Qk;exact tail_any (typeIs_str s z t) slot_str_getitem.lookup (getItem_str (c:=c) (by
  have e1:decide (i< -(2^63:Int))=false:=D7 (by omega);have e2:decide (i>=2^63)=false:=D7 (by omega);rw [e1,e2,Bool.or_false]) (by rw [h1];simpa using h2) ⟨.str ⟨#[c]⟩,H,I.tok _,⟨_,rfl⟩,q⟩) hs
def rIx (K:PySem.W.Frag):R2:=λx y H Q=>xT K x y H Q\/xU K x y H Q\/xV x y H Q
theorem Hs:IxR X (rIx X.K):=ix_list.or (ix_tup.or Hr)
theorem Ma (its:List Value)(n j:Nat)(u:Value):Obj.mapSeq (·.setIfInBounds j u) {cls:= .type "list",data:= .seq its.toArray n}= {cls:= .type "list",data:= .seq (its.set j u).toArray n}:=by
 simp [Obj.mapSeq]
theorem Inv.lst {pins:List (Addr×Obj)}{σ:St}{H:Hp}{s:Shared}{p:Addr}{xs:List V}(I:Inv X pins σ H s)(h:H p=some (.lst xs)):
 ∃ (its:List Value) (n:Nat),Vals xs its/\s.heap.get? p=some {cls:= .type "list",data:= .seq its.toArray n}/\xs.length<=sizeLine:=by
 obtain⟨z,its,n,r,e⟩:=I.hok p _ h;exact⟨its,n,r,e,z⟩
theorem Inv.lstUpd {pins:List (Addr×Obj)}{σ:St}{H:Hp}{s:Shared}{p:Addr}{xs ys:List V}{its its':List Value}{n n':Nat}{f:Obj->Obj}(I:Inv X pins σ H s)(h:H p=some (.lst xs))
 (ho:s.heap.get? p=some {cls:= .type "list",data:= .seq its.toArray n})(hf:f {cls:= .type "list",data:= .seq its.toArray n}= {cls:= .type "list",data:= .seq its'.toArray n'})(r:Vals ys its')(hz:ys.length<=sizeLine)(t:Nat):
 Inv X pins σ (upd H p (.lst ys)) {s with heap:=s.heap.update p f,toks:=t}:=by
 have e:(s.heap.update p f).get? p=some {cls:= .type "list",data:= .seq its'.toArray n'}:=by
  rw [F9 f ho (by rw [hf]<;>rfl),hf]
 refine I.write (x:=p) (e:=p) (by rw [h];trivial) (.inl rfl) (λb u hb q=>(Heap.get?_update_other _ _ (Ne.symm hb)).trans q) ⟨_,e⟩ ?_;exact⟨hz,its',n',r,e⟩
def uq:V->V->V->Hp->(Hp->Prop)->Prop:=λo i v H Q=> ∃p xs k j,o= .ref p/\i= .int k/\H p=some (.lst xs)/\ixN xs.length k=some j/\Q (upd H p (.lst (xs.set j v)))
theorem FZ:xI X uq:=by
 intro pins s σ H o i v ov iv u Q I ro ri rv h;obtain⟨p,xs,k,j,rfl,rfl,hp,hj,q⟩:=h;cases ro;obtain⟨t,rfl⟩:=ri;obtain⟨its,n,r,ho,hz⟩:=I.lst hp;obtain⟨h1,h2,h3,h4⟩:=NN hj;have hl:=r.length;have hn:=Qk;have I':Inv X pins σ (upd H p (.lst (xs.set j v))) {s with heap:=s.heap.update p (Obj.mapSeq (·.setIfInBounds j u))}:=
  I.lstUpd hp ho (Ma its n j u) (r.set rv j) (by rw [List.length_set];exact hz) s.toks
 by_cases h0:0<=k
 ·have hk:k.toNat=j:=by
   rw [seqIndex_of h0 h4] at h1;exact N3 h1
  exact PySem.W.ki_setAt ho h0 (by omega) (by rw [D0,<-hl];exact h4) (by rw [hk];exact⟨_,I',q⟩)
 ·have hk:(k+(its.toArray.size:Int)).toNat=j:=by
   rw [seqIndex_neg (by omega) h3] at h1;rw [D0,<-hl];exact N3 h1
  exact PySem.W.ki_setBack ho (by omega) (by rw [D0,<-hl];exact h3) (by omega) (by rw [hk];exact⟨_,I',q⟩)
theorem Qp (lo hi:Option Int)(n:Nat):(sliceBounds lo hi none n).1=((HT.sIx n 0 lo:Nat):Int)/\(sliceBounds lo hi none n).2.1=((HT.sIx n n hi:Nat):Int)/\(sliceBounds lo hi none n).2.2=1:=by
 refine⟨?_,?_,rfl⟩
 ·cases lo with
  |none=>simp [sliceBounds,HT.sIx]
  |some i=>
   simp only [sliceBounds,HT.sIx,Option.getD_none,show (1:Int)>0 by decide,if_true]
   by_cases h:i<0
   ·simp only [h,if_true]<;>omega
   ·simp only [h,G1v]<;>omega
 ·cases hi with
  |none=>simp [sliceBounds,HT.sIx]
  |some i=>
   simp only [sliceBounds,HT.sIx,Option.getD_none,show (1:Int)>0 by decide,if_true]
   by_cases h:i<0
   ·simp only [h,if_true]<;>omega
   ·simp only [h,G1v]<;>omega
theorem UV (its:List Value)(lo hi:Option Int):slicePick its.toArray lo hi none=((its.drop (HT.sIx its.length 0 lo)).take (HT.sIx its.length its.length hi-HT.sIx its.length 0 lo)).toArray:=by
 obtain⟨h1,h2,h3⟩:=Qp lo hi its.toArray.size;unfold slicePick;rw [h1,h2,h3];simp only [sliceRange_one,pick_run,D0]<;>rfl
def qE (K:PySem.W.Frag):V->Option Int->Option Int->Hp->VK->Prop:=λx lo hi H Q=> ∃a xs,x= .ref a/\SqL K H a xs/\ ∀p,H p=none->Q (.ref p) (upd H p (.lst (FF xs lo hi)))
theorem Ej:SlR X (qE X.K):=by
 intro pins s σ H x v vl vu lo hi sl Q I rx hs pl pu h;obtain⟨a,xs,rfl,hx,q⟩:=h;cases rx;obtain⟨its,r,ht,hz⟩:=I.list hx;have hlen:=r.length;refine⟨"list",_,slot_list_getitem.lookup,ht.isList.typeIs,?_⟩;refine wpAny_getItem_list_slice ht.isList hs pl pu .none (by simp) ?_ (by rw [D0]<;>omega);rw [UV,<-hlen];refine⟨.ref s.heap.objs.size,_,I.laid (t':=s.toks) (o:= .lst (FF xs lo hi)) (λb ob q=>G2 _ q) (P1 _) ?_,rfl,q _ (I.hok.fresh (P1 _))⟩;exact⟨R1 (YH xs lo hi) hz,_,0,(r.drop (HT.sIx xs.length 0 lo)).take (HT.sIx xs.length xs.length hi-HT.sIx xs.length 0 lo),D6 _ rfl⟩
theorem call_len_seq:CallR X (.builtin "len") (λxs H Q=> ∃p ys,xs= [.ref p]/\(SqL X.K H p ys\/SqT X.K H p ys)/\Q (.int ys.length) H):=by
 intro pins s σ H xs us Q I r h;obtain⟨p,ys,rfl,hq,q⟩:=h;obtain⟨u,rfl,rx⟩:=Jm r;cases rx;have hn:=Qk;rcases hq with hq|hq
 ·obtain⟨its,r',pl,hz⟩:=I.list hq;have hlen:=r'.length;exact Calls.call_len_list pl.isList (by simp only [D0]<;>omega) ⟨.int ys.length,H,I.tok _,⟨s.toks+1,by rw [D0,hlen]⟩,q⟩
 ·obtain⟨its,r',pl,hz⟩:=I.tuple hq;have hlen:=r'.length;exact len_tuple pl (by simp only [D0]<;>omega) ⟨.int ys.length,H,I.tok _,⟨s.toks+1,by rw [D0,hlen]⟩,q⟩
theorem call_tuple_of:CallR X (.type "tuple") (λxs H Q=> ∃p ys,xs= [.ref p]/\((SqL X.K H p ys/\ ∀l,H l=none->Q (.ref l) (upd H l (.tup ys)))\/(SqT X.K H p ys/\Q (.ref p) H))):=by
 intro pins s σ H xs us Q I r h;obtain⟨p,ys,rfl,h⟩:=h;obtain⟨u,rfl,rx⟩:=Jm r;cases rx;rcases h with ⟨hq,q⟩|⟨hq,q⟩
 ·obtain⟨its,r',pl,hz⟩:=I.list hq;have hlen:=r'.length;refine call_tuple_list pl.isList (λh' kp=> ?_) (by simp only [D0]<;>omega);have I1:Inv X pins σ H {s with heap:=h'}:=I.kept (t':=s.toks) kp;have I2:Inv X pins σ (upd H h'.objs.size (.tup ys)) {s with heap:=h'.push {cls:= .type "tuple",data:= .seq its.toArray}}:=
   I1.laid (t':=s.toks) (λb o e=>G2 _ e) (P1 _) (show ObjOk X.prog X.w _ _ _ (.tup ys) from ⟨hz,its,r',IsTupN.new _ _⟩)
  exact⟨.ref h'.objs.size,_,I2,rfl,q _ (I1.hok.fresh (P1 _))⟩
 ·obtain⟨its,r',pl,hz⟩:=I.tuple hq;exact call_tuple_same pl ⟨.ref p,H,I,rfl,q⟩
def tyV (K:PySem.W.Frag)(T:String)(x:V)(H:Hp):Prop:=match x with
 | .str _=>T= "str"
 | .int _=>T= "int"
 | .ref p=>(T= "list" /\ ∃xs,SqL K H p xs)\/(T= "tuple" /\ ∃o,K.lookup p=some o/\o.cls= .type "tuple" /\o.dict=none)\/
  (T= "dict" /\((∃kvs,H p=some (.dK kvs))\/ ∃kvs,H p=some (.dT kvs)))\/(T= "set" /\ ∃S n,H p=some (.set S n))
 |_=>False
theorem Ht {pins:List (Addr×Obj)}{σ:St}{H:Hp}{s:Shared}{T:String}{x:V}{v:Value}(I:Inv X pins σ H s)(r:RelV x v)(ty:tyV X.K T x H):
 s.TypeIs v T/\ ∀a,v= .ref a-> ∃ob,s.heap.get? a=some ob/\ob.dict=none:=by
 cases x with
 |str z=>
  obtain⟨t,rfl⟩:=r;cases (show T= "str" from ty);exact⟨typeIs_str s z t,λ_ e=>nomatch e⟩
 |int i=>
  obtain⟨t,rfl⟩:=r;cases (show T= "int" from ty);exact⟨G1f s i t,λ_ e=>nomatch e⟩
 |ref p=>
  cases r;rcases ty with ⟨rfl,xs,hq⟩|⟨rfl,o,hk,hc,hd⟩|⟨rfl,hk⟩|⟨rfl,S,n,hk⟩
  ·obtain⟨its,_,pl,_⟩:=I.list hq;refine⟨pl.isList.typeIs,λa e=> ?_⟩;cases e;obtain⟨o,n,e,c,hd,_⟩:=pl;exact⟨o,e,hd⟩
  ·refine⟨⟨o,I.kIn p o hk,hc⟩,λa e=> ?_⟩;cases e;exact⟨o,I.kIn _ o hk,hd⟩
  ·have z: ∃o,s.heap.get? p=some o/\o.ExactDict:=by
    rcases hk with ⟨kvs,hk⟩|⟨kvs,hk⟩
    ·obtain⟨_,_,_,_,o,_,_,e,ex,_⟩:=I.hok p _ hk;exact⟨o,e,ex⟩
    ·obtain⟨_,_,_,_,o,_,_,e,ex,_⟩:=I.hok p _ hk;exact⟨o,e,ex⟩
   obtain⟨o,e,ex⟩:=z;refine⟨⟨o,e,ex.1⟩,λa e2=> ?_⟩;cases e2;exact⟨o,e,ex.2.1⟩
  ·obtain⟨o,_,_,_,e,ex,_⟩:=I.hok p _ hk;refine⟨⟨o,e,ex.1⟩,λa e2=> ?_⟩;cases e2;exact⟨o,e,ex.2.1⟩
 |_=>exact False.elim ty
def tBM (K:PySem.W.Frag)(T:String)(r:V->List V->Hp->VK->Prop)(to:TE)(t:TA):TE:=λσ H Q=>to σ H λx H1=>tyV K T x H1/\t σ H1 λxs H2=>r x xs H2 Q
variable {o e:Expr}{es:List Expr}{to:TE}{t:TA}{name:Str}{apos cpos:Pos}{T id:String}{r:V->List V->Hp->VK->Prop}
theorem Ek (pa:PlainAttrs T)(slot:Slot T name id)(hty:typeOf (.builtin id)=pure (.type "method_descriptor"))(hm:MtR X id r)(ho:PE X o to)(ha:PA X (e::es) t)
 (hbase:attributeBase o name X.env (eval o X.env)=eval o X.env:=by rfl)
 (hfew:((backTo cpos (starEach (e::es) X.env)).all (λx=> !x.1)&&(backToKw cpos (keywordEach [] X.env)).all (λx=>x.1.isSome)
  &&decide ((e::es).length+([]:List Keyword).length+(if ([]:List Keyword).isEmpty then 0 else 1)<30))=true:=by rfl)
 (hline:(apos.endLine==cpos.line)=true:=by rfl)(hs:starEach (e::es) X.env=(false,eval e X.env)::starEach es X.env:=by rfl)(hplain:(backTo cpos (starEach es X.env)).any (·.1)=false:=by rfl):
 PE X (.Call (.Attribute o name apos) (e::es) [] cpos) (tBM X.K T r to t):=by
 intro pins s σ H Q I h;refine wpAny_Call_method_late hbase hfew hline rfl (thn (ho pins s σ H _ I h) λv s1 ⟨x,H1,I1,r1,ty,q1⟩=> ?_);obtain⟨h1,h2⟩:=Ht I1 r1 ty;refine⟨T,id,pa,slot,hty,h1,h2,?_⟩;have hA:=ha cpos pins s1 σ H1 _ I1 q1;rw [hs] at hA ⊢;refine X5 (by show (false||(backTo cpos (starEach es X.env)).any (·.1))=false;rw [hplain]<;>rfl) (Z7 ?_);exact thn hA λus s2 ⟨vs,H2,I2,r2,q2⟩=>hm pins s2 σ H2 x vs v us Q I2 r1 r2 q2
end
def MtM (X:Cx)(id:String)(r:V->List V->Hp->VK->Prop):Prop:=
 ∀ (pins:List (Addr×Obj)) (s:Shared) (σ:St) (H:Hp) (x:V) (xs:List V) (v:Value) (us:List Value) (Q:VK),Inv X pins σ H s->RelV x v->Vals xs us->r x xs H Q->
  wpAny (model X.prog X.w) X.A (call (.builtin id) (v::us)) (EP X pins σ Q) X.xe s
theorem Vals.one: ∀ {x:V} {us:List Value},Vals [x] us-> ∃u,us= [u]/\RelV x u
 |_,_,.cons r .nil=>⟨_,rfl,r⟩
theorem Vals.rep {xs:List V}{us:List Value}(h:Vals xs us): ∀k:Nat,Vals (List.replicate k xs).flatten (List.replicate k us).flatten
 |0=> .nil
 |k+1=>by
  rw [O7,O7,K6,K6];exact Vals.append h (Vals.rep h k)
theorem YI (its:List Value): ∀ (k:Nat) (acc:List Value),
 List.foldl (λx1 x2=>x1++x2) acc.toArray (List.replicate k its.toArray)=(acc++(List.replicate k its).flatten).toArray
 |0,acc=>by simp
 |k+1,acc=>by
  have e:acc.toArray++its.toArray=(acc++its).toArray:=by simp
  have e2:(acc++its)++(List.replicate k its).flatten=acc++(List.replicate (k+1) its).flatten:=by
   rw [O7,K6,P2]
  rw [<-e2,<-YI its k (acc++its),<-e,O7,List.foldl_cons]
section
variable {X:Cx}{pins:List (Addr×Obj)}{σ:St}{H:Hp}{s:Shared}{l b:Addr}{xs ys zs:List V}
theorem Inv.lset {its its':List Value}{n:Nat}{f:Array Value->Array Value}{t':Nat}(I:Inv X pins σ H s)(hH:H l=some (.lst xs))
 (e:s.heap.get? l=some {cls:= .type "list",data:= .seq its.toArray n})(hf:f its.toArray=its'.toArray)(hv:Vals ys its')(hz:ys.length<=sizeLine):
 Inv X pins σ (upd H l (.lst ys)) {s with heap:=s.heap.update l (Obj.mapSeq f),toks:=t'}:=by
 have q:=PySem.IsL.update e f;rw [hf] at q;refine I.write (x:=l) (e:=l) (by rw [hH];exact trivial) (.inl rfl) (λb' u hb hu=>(Heap.get?_update_other s.heap (Obj.mapSeq f) (Ne.symm hb)).trans hu) ⟨_,q⟩ ?_;exact⟨hz,its',_,hv,q⟩
theorem Inv.lnew {its:List Value}{t':Nat}(I:Inv X pins σ H s)(hv:Vals ys its)(hz:ys.length<=sizeLine):
 Inv X pins σ (upd H s.heap.objs.size (.lst ys)) {s with heap:=s.heap.push {cls:= .type "list",data:= .seq its.toArray},toks:=t'}:=
 I.laid (λ_ _ q=>G2 _ q) (P1 _) ⟨hz,its,0,hv,D6 _ rfl⟩
theorem Inv.fresh (I:Inv X pins σ H s):H s.heap.objs.size=none:=I.hok.fresh (P1 _)
theorem Inv.lstM (I:Inv X pins σ H s)(hH:H l=some (.lst xs)):xs.length<=sizeLine/\ ∃ (its:List Value) (n:Nat),Vals xs its/\xs.length=its.length/\s.heap.get? l=some {cls:= .type "list",data:= .seq its.toArray n}:=by
 obtain⟨z,its,n,r,e⟩:=I.hok l _ hH;exact⟨z,its,n,r,r.length,e⟩
theorem La {n:Nat}(h:n<=sizeLine):Builtin.List.listTooLong n=false:=by
 unfold Builtin.List.listTooLong;exact D7 (by omega)
end
section
variable {X:Cx}
def El:V->List V->Hp->VK->Prop:=λx vs H Q=> ∃l xs y,x= .ref l/\vs= [y]/\H l=some (.lst xs)/\xs.length<sizeLine/\Q .non (upd H l (.lst (xs++ [y])))
theorem NO:MtM X "list.append" El:=by
 intro pins s σ H x vs v us Q I rx rv h;obtain⟨l,xs,y,rfl,rfl,hH,hz,q⟩:=h;cases rx;obtain⟨u,rfl,ru⟩:=rv.one;obtain⟨z,its,n,r,hl,e⟩:=I.lstM hH;refine G0I F.slot_list_append ⟨_,e,rfl⟩ F.entry_list_append (F.args_list_append_2 _ _) (PySem.list_append l its.toArray n u (by rw [D0];omega)) ⟨e,?_⟩;refine⟨.non,_,I.lset (its':=its++ [u]) hH e (by simp) (r.append (.cons ru .nil)) ?_,rfl,q⟩;rw [G9,B2];omega
def qF:R2:=λx y H Q=> ∃l b xs zs,x= .ref l/\y= .ref b/\H l=some (.lst xs)/\H b=some (.lst zs)/\xs.length+zs.length<=sizeLine/\ ∀p,H p=none->Q (.ref p) (upd H p (.lst (xs++zs)))
theorem Hu:OpR X (binaryOp .Add) qF:=by
 intro pins s σ H x y v u Q I rx ry h;obtain⟨l,b,xs,zs,rfl,rfl,hH,hB,hz,q⟩:=h;cases rx;cases ry;obtain⟨z,its,n,r,hl,e⟩:=I.lstM hH;obtain⟨z2,its2,n2,r2,hl2,e2⟩:=I.lstM hB;refine PySem.P.add_list e e2 ?_ (by rw [D0,D0];omega);have ea:its.toArray++its2.toArray=(its++its2).toArray:=by simp
 rw [ea];exact⟨.ref _,_,I.lnew (t':=s.toks) (r.append r2) (by rw [G9];omega),rfl,q _ I.fresh⟩
def qG:R2:=λx y H Q=> ∃l k xs,x= .ref l/\y= .int k/\H l=some (.lst xs)/\ -(2^63)<=k/\k<2^63/\xs.length*k.toNat<=sizeLine/\
 ∀p,H p=none->Q (.ref p) (upd H p (.lst (List.replicate k.toNat xs).flatten))
theorem Pp {α:Type}(xs:List α)(k:Nat):(List.replicate k xs).flatten.length=k*xs.length:=by
 induction k with
 |zero=>simp
 |succ k ih=>rw [O7,K6,G9,ih,G0w,Nat.add_comm]
theorem Hv:OpR X (binaryOp .Mult) qG:=by
 intro pins s σ H x y v u Q I rx ry h;obtain⟨l,k,xs,rfl,rfl,hH,h1,h2,hz,q⟩:=h;cases rx;obtain⟨t,rfl⟩:=ry;obtain⟨z,its,n,r,hl,e⟩:=I.lstM hH;have hlen:its.toArray.size*k.toNat<=sizeLine:=by rw [D0,<-hl];exact hz
 have hcap: ¬its.toArray.size*k.toNat>(2^63-1) / 8:=by
  have:(sizeLine:Nat)<=(2^63-1) / 8:=by decide
  omega
 have hfit: ¬ (!Builtin.List.listFitsIndex k)=true:=by
  rw [fitsIndex_both h1 h2];exact P7
 have hlong: ¬Builtin.List.listTooLong (its.toArray.size*k.toNat)=true:=by
  rw [La hlen];exact P7
 have hnew:List.foldl (λx1 x2=>x1++x2) #[] (List.replicate (if its.toArray.isEmpty=true then 0 else k.toNat) its.toArray)=(List.replicate k.toNat its).flatten.toArray:=by
  have f0: ∀m:Nat,List.foldl (λx1 x2=>x1++x2) #[] (List.replicate m its.toArray)=(List.replicate m its).flatten.toArray:=λm=>by
   have:=YI its m [];rw [B6] at this;exact this
  rw [f0];cases its with
  |nil=>simp
  |cons a r'=>rw [if_neg (by simp)]
 refine G0z (T:= "list") (U:= "int") (by decide) ⟨_,e,rfl⟩ (λs'=>G1f s' k t) noFill_list_mul F.fills_int_mul G0f repeat_list F.slot_int_index.lookup
  (G0I G0f (G1f s k t) F.entry_int_rmul (F.args_int_rmul_2 _ _) (int___rmul___int_list k t l its.toArray n)
   ⟨e,rfl,⟨_,e,rfl⟩,G0I F.slot_list_mul ⟨_,e,rfl⟩ F.entry_list_mul (F.args_list_mul_2 _ _) (AutoListH.list___mul___list_int_3 l its.toArray n k t hfit hcap hlong) ⟨e,?_⟩⟩)
 rw [hnew];exact⟨.ref _,_,I.lnew (t':=s.toks) (r.rep k.toNat) (by rw [Pp,G06];exact hz),rfl,q _ I.fresh⟩
end
end L2
namespace Att
open PySem PySem.W PySem.Calls PyProof.Rows
theorem YJ {P:Params}{h:Heap}: ∀ (ns:List Int) (vs:List Value),WellAll P h vs (ns.map WData.int)->IntsAre vs ns:=by
 intro ns
 induction ns with
 |nil=>
  intro vs w;rw [E3] at w;cases w;exact .nil
 |cons n ns ih=>
  intro vs w;rw [T3] at w;cases w with
  |cons a b=>
   cases a;exact .cons _ _ (ih _ b)
theorem NP {l:OpenLaw}{n:Nat}(hn:l.most=some n){P:Params}{h:Heap}{args:List WData}{vals:List Value}
 (hpre:l.row.toRowW.claim.pre args=true)(hwl:WellAll P h vals args):
 ∃a vs ns,vals= [Value.ref a]/\args= [WData.list (ns.map WData.int)]/\h.get? a=some {cls:= .type "list",data:= .seq vs.toArray}/\IntsAre vs ns/\ns.length<=n:=by
 have hsh:WShape.hasAll [] args [.list .int]=true:=(pre_splitW hpre).1;have hc:l.pre.holds [] {args:=args}=true:=(pre_splitW hpre).2;obtain⟨d,r,rfl,h1,h2⟩:=hasAllW_cons hsh;obtain rfl:=hasAllW_nil h2;obtain⟨xs,rfl,h3⟩:=hasW_list h1;obtain⟨ns,rfl⟩:=items_int h3;have hlen:ns.length<=n:=by
  unfold OpenLaw.pre at hc;have h4:(WTm.not (.lt (.lit (.int (n:Int))) (.len (.arg 0)))).holds [] {args:= [.list (ns.map .int)]}=true:=by
   have h4:=(holds_andW hc).1;rw [hn] at h4;exact h4
  have h5:=condW_of h4 (w_not (w_lt w_lit (w_len_list (w_arg rfl))));rw [G0] at h5;refine G0V λq=> ?_
  have q':(n:Int)<((ns.length:Nat):Int):=by omega
  first
   |(rw [G6 q'] at h5;exact absurd h5 (by decide))
   |(simp at h5;omega)
 cases hwl with
 |cons w1 w2=>
  cases w2;cases w1 with
  |list ho hall=>exact⟨_,_,ns,rfl,rfl,ho,YJ ns _ hall,hlen⟩
theorem NQ (l:OpenLaw)(args:List WData):l.row.toRowW.claim.post args (.bool true) args=true:=
 postW_of (r:=l.row.toRowW) (X:=(true==true))
  (show WShape.has [] (.bool true) .bool=true by first|rfl|decide|simp [WShape.has,WShape.arms,WShape.armsAll])
  (show (WTm.eq .res (.lit (.bool true))).value [] {args:=args,res:=some (.bool true),after:=args}=some (.bool (true==true)) from w_eq_bool (w_res rfl) w_lit) rfl
theorem attach_call {l:OpenLaw}{n:Nat}{q:Program}{loose:List Str}{XP:(Str->Option Value)->Heap->Prop}{YP:World->Heap->Prop}{d:DefRec}
 (hn:l.most=some n)(hdf:d.params.defaults= [])
 (call: ∀ (w:World) (s₀ s₁:Shared) (mg mb:Str->Option Value) (fa:Addr) (o:Obj) (pm cd doc:Value) (a:Addr) (vs:List Value) (ns:List Int),
  Ground q loose [] XP w s₀ mg mb s₁.heap->YP w s₁.heap->
  s₁.heap.get? fa=some o->o.data= .func (docDef d.name d.params d.body d.scope pm cd doc)->s₁.heap.CodeRec cd d.name->mg d.name=some (.ref fa)->
  s₁.heap.get? a=some {cls:= .type "list",data:= .seq vs.toArray}->IntsAre vs ns->ns.length<=n->s₁.gens= #[]->
  codeAny (model l.prog w) callerA (.call (.ref fa) ⟨[.ref a],[]⟩) (λr s'=>r= .ok (.ret (.bool true))/\OldK s₁.heap s'.heap/\s'.os=s₁.os/\AllBare s'.gens) s₁):
 WalkO q loose XP YP l.row.toRowW d [] (λf vs=>PySem.call f vs):=by
 intro w s₀ s₁ mg mb G Y fa o pm cd doc dV kV ho hd hcd hD hmg hg args vals as hpre hlay hrd hwl hlo;obtain rfl:dV= .none:=Dflts.none hD hdf;obtain rfl:kV= .none:=Dflts.noKw hD;obtain⟨a,vs,ns,rfl,rfl,hobj,hints,hlen⟩:=NP hn hpre hwl;refine enter_call (codeAny_mono (call w s₀ s₁ mg mb fa o pm cd doc a vs ns G Y ho (fd_plain hd) hcd hmg hobj hints hlen hg) λr s' hq=> ?_);obtain⟨rfl,h2,h3,h4⟩:=hq;exact⟨.inl ⟨.bool true,.bool true,[],rfl,λ_=>rfl,.bool true,NQ l _,λ_=>⟨List.Pairwise.nil,λ_ hm=>(nomatch hm)⟩⟩,h2,h3,h4⟩
end Att
namespace L2
open PySem PySem.Spec PyProof.Rows
theorem Qq: ∀ {vs:List Value} {ns:List Int},IntsAre vs ns->Vals (ns.map V.int) vs
 |_,_,.nil=> .nil
 |_,_,.cons n t h=> .cons ⟨t,rfl⟩ (Qq h)
def Only (H:Hp):Prop:= ∀b,H b=none\/ ∃o xs,H b=some (.frz o (.lst xs))
def vI (s:Stmt):Arguments:=match s with
 | .FunctionDef _ a _ _ _ _ _ _ _ _=>a
 |_=> {posonlyargs:= [],args:= [],vararg:=none,kwonlyargs:= [],kw_defaults:= [],kwarg:=none,defaults:= []}
def wX (s:Stmt):List Stmt:=match s with
 | .FunctionDef _ _ b _ _ _ _ _ _ _=>b
 |_=> []
def jf (s:Stmt):Scope:=match s with
 | .FunctionDef _ _ _ _ _ _ sc _ _ _=>sc
 |_=> {kind:= .function,names:= [],isGenerator:=false,isCoroutine:=false}
abbrev CX0:CXT:=λ_ _ _ _ _ _=>False
abbrev E0:XK:=λ_ _ _=>False
variable {X:Cx}
theorem ur:NK CX0 X E0:=λ_ _ _ _ _ _ _ h=>h.elim
structure Fun (K:PySem.W.Frag)(x qual:Str)(st:Stmt)(f:Addr)(fd:FuncData):Prop where
 ex: ∃ (oc:Value) (od:Option Addr) (kV doc pm:Value) (an:Option Addr) (cdv ct:Value) (osl:Array (Option Value)),
  fd=PySem.W.fnOf x qual (vI st) (wX st) (jf st) .none kV doc pm an cdv ct/\K.lookup f=some ⟨oc,od,.func fd,osl⟩/\PySem.W.codeIn K cdv qual=true
 kp:PySem.W.keepIn K (.ref f)=true
section
variable {P:Program}{w:World}{K:PySem.W.Frag}{mg:Str->Option Value}{base:Heap}
variable {qual:Str}
theorem Fun.ok {x:Str}{st:Stmt}{f:Addr}{fd:FuncData}{N ps:List Str}{k:Nat}{sp:Sp}(F:Fun K x qual st f fd)(S:FnScope N ps (jf st))(len: ∀vs H Q E,sp vs H Q E->vs.length=ps.length)
 (hbody: ∀ (cdv:Value) (A:Around) (outer:List Env) (s:Shared) (H:Hp) (vs:List V) (Q:VK) (E:XK),Room k (A.deeper (envOfC qual (jf st) s.heap.objs.size f cdv))->sp vs H Q E->
  ∃t,PSs (An CX0 P w K mg base N qual (jf st) f cdv A outer s H E).nox (wX st) t/\t {nx:=λ_ H'=>Q .non H',rt:=Q} (start N vs) H):FnOk P w K mg base CX0 (k+1) f fd ps sp:=by
 obtain⟨oc,od,kV,doc,pm,an,cdv,ct,osl,rfl,lk,hcd⟩:=F.ex;refine uj lk hcd S len λA outer s H vs Q E hr hsp=> ?_
 obtain⟨t,h,q⟩:=hbody cdv A outer s H vs Q E hr hsp;exact⟨t,h.nox,q⟩
theorem Fun.binds {x:Str}{st:Stmt}{f:Addr}{fd:FuncData}{ps:List Str}(F:Fun K x qual st f fd)
 (h: ∀ (kV doc pm:Value) (an:Option Addr) (cdv ct:Value) (us:List Value),us.length=ps.length->bindArgs (PySem.W.fnOf x qual (vI st) (wX st) (jf st) .none kV doc pm an cdv ct) ⟨us,[]⟩=pure (ps.zip us)):Binds K fd ps []:=by
 obtain⟨oc,od,kV,doc,pm,an,cdv,ct,osl,rfl,lk,hcd⟩:=F.ex;exact .all (h kV doc pm an cdv ct)
theorem Hw {x:Str}{st:Stmt}{f:Addr}{oc:Value}{od an:Option Addr}{osl:Array (Option Value)}{kV doc pm cdv ct:Value}(l:K.lookup f=some ⟨oc,od,.func (PySem.W.fnOf x qual (vI st) (wX st) (jf st) .none kV doc pm an cdv ct),osl⟩)
 (c:PySem.W.codeIn K cdv qual=true)(k:PySem.W.keepIn K (.ref f)=true):Fun K x qual st f (PySem.W.fnOf x qual (vI st) (wX st) (jf st) .none kV doc pm an cdv ct):=⟨⟨oc,od,kV,doc,pm,an,cdv,ct,osl,rfl,l,c⟩,k⟩
end
theorem jE {n:Nat}(h:n<=1000):n<sizeLine:=W4 h (by decide)
section
variable {X:Cx}
theorem pv (i:Nat){x:Str}{pos:Pos}(hN:X.N[i]? =some x:=by rfl)(hv:Vis X.env.scope x:=by first|exact Or.inl rfl|exact Or.inr (Or.inl rfl)|exact Or.inr (Or.inr rfl))(hd:(x==("__debug__" :Str))=false:=by decide)
 (hcd:(x==("__classdict__" :Str))=false:=by decide):PE X (.Name x pos) (kQ i):=Ai hN hv hd hcd
end
theorem wY {A B:Prop}(h:B):if false=true then A else B:=by
 rw [if_neg P7];exact h
theorem JJ {A B:Prop}(h:A):if true=true then A else B:=by
 rw [if_pos rfl];exact h
theorem Mb {c A B:Prop}[Decidable c](h1:c->A)(h2: ¬c->B):if c then A else B:=by
 by_cases h:c
 ·rw [if_pos h];exact h1 h
 ·rw [if_neg h];exact h2 h
section
variable {κ:Type}[DecidableEq κ]
def Ue (kvs:List (κ×V))(k:κ):Option V:=(kvs.find? λkv=>decide (kv.1=k)).map (·.2)
def Ra (kvs:List (κ×V))(k:κ)(v:V):List (κ×V):=
 if (kvs.any λkv=>decide (kv.1=k))=true then kvs.map (λkv=>if kv.1=k then (kv.1,v) else kv) else kvs++ [(k,v)]
theorem Yt {p:κ×V}{r:List (κ×V)}{k:κ}(e:p.1=k):Ue (p::r) k=some p.2:=by simp [Ue,E8,e]
theorem Yu {p:κ×V}{r:List (κ×V)}{k:κ}(e: ¬p.1=k):Ue (p::r) k=Ue r k:=by simp [Ue,E8,e]
theorem UW (k:κ): ∀kvs:List (κ×V),(kvs.any λkv=>decide (kv.1=k))=(Ue kvs k).isSome
 | []=>rfl
 |p::r=>by
  rw [G0b]
  by_cases e:p.1=k
  ·simp only [Yt e,G6 e,Bool.true_or,Option.isSome_some]
  ·rw [Yu e,D7 e,Bool.false_or];exact UW k r
theorem YK (kvs:List (κ×V))(k:κ)(v:V):(Ra kvs k v).length<=kvs.length+1:=by
 unfold Ra;split
 ·rw [G0];omega
 ·rw [G9,P9,T4];omega
theorem Lb {kvs:List (κ×V)}{k:κ}(v:V)(h:Ue kvs k=none):Ra kvs k v=kvs++ [(k,v)]:=by
 unfold Ra;rw [UW,h];exact if_neg (by decide)
theorem KV.val {kvs:List (κ×V)}{vs:List (κ×Value)}(r:KV kvs vs)(k:κ):RelO (Ue kvs k) (valueAt vs k):=by
 unfold KV at r
 induction r with
 |nil=>exact True.intro
 | @cons p q ps qs h t ih=>
  obtain⟨h1,h2⟩:=h
  by_cases e:p.1=k
  ·have e':q.1=k:=h1.symm.trans e;have b:valueAt (q::qs) k=some q.2:=by simp [valueAt,E8,e']
   rw [Yt e,b];exact h2
  ·have e': ¬q.1=k:=λz=>e (h1.trans z)
   have b:valueAt (q::qs) k=valueAt qs k:=by simp [valueAt,E8,e']
   rw [Yu e,b];exact ih
theorem KV.any {kvs:List (κ×V)}{vs:List (κ×Value)}(r:KV kvs vs)(k:κ):(kvs.any λkv=>decide (kv.1=k))=vs.any λkv=>decide (kv.1=k):=by
 unfold KV at r
 induction r with
 |nil=>rfl
 |cons h t ih=>rw [G0b,G0b,ih,h.1]
theorem KV.repl {kvs:List (κ×V)}{vs:List (κ×Value)}(r:KV kvs vs)(k:κ){y:V}{u:Value}(ry:RelV y u):
 KV (kvs.map λkv=>if kv.1=k then (kv.1,y) else kv) (vs.map λkv=>if kv.1=k then (kv.1,u) else kv):=by
 unfold KV at r ⊢
 induction r with
 |nil=>exact .nil
 | @cons p q ps qs h t ih=>
  rw [T3,T3];refine .cons ?_ ih;obtain⟨h1,h2⟩:=h
  by_cases e:p.1=k
  ·rw [if_pos e,if_pos (h1.symm.trans e)];exact⟨h1,ry⟩
  ·rw [if_neg e,if_neg (λz=>e (h1.trans z))];exact⟨h1,h2⟩
theorem KV.put {kvs:List (κ×V)}{vs:List (κ×Value)}(r:KV kvs vs)(k:κ){y:V}{u:Value}(ry:RelV y u):KV (Ra kvs k y) (stored vs k u):=by
 unfold Ra stored;rw [r.any k]
 by_cases e:(vs.any λkv=>decide (kv.1=k))=true
 ·rw [if_pos e,if_pos e];exact r.repl k ry
 ·rw [if_neg e,if_neg e];exact Paired.snoc r ⟨rfl,ry⟩
theorem KV.length {kvs:List (κ×V)}{vs:List (κ×Value)}(r:KV kvs vs):kvs.length=vs.length:=Paired.length r
end
variable {P:Program}{w:World}
theorem Lc {k:Key}{u:Value}(r:RelV (kV k) u):(zS P w).is k u=true:=by
 cases k with
 |inl i=>obtain⟨t,e⟩:=(show ∃t,u=Value.int i t from r);subst e;exact Pl P w i t
 |inr x=>obtain⟨t,e⟩:=(show ∃t,u=Value.str x t from r);subst e;exact Pm P w x t
theorem Qr: ∀ {ks:List Key} {us:List Value},Vals (ks.map kV) us->ItemsAre (zS P w) ks us
 | [],_,r=>by rw [E3] at r;cases r;exact .nil
 |k::ks,_,r=>by
  rw [T3] at r;cases r with
  |cons h t=>exact .cons (Lc h) (Qr t)
abbrev KT (H:Hp):List (List Key×V)->List (List Key×Addr×Value)->Prop:=Paired λp q=>p.1=q.1/\H q.2.1=some (.tup (p.1.map kV))/\RelV p.2 q.2.2
variable {H:Hp}
theorem KT.val {kvs:List (List Key×V)}{xs:List (List Key×Addr×Value)}(r:KT H kvs xs)(k:List Key):RelO (Ue kvs k) ((atKey xs k).map (·.2)):=by
 induction r with
 |nil=>exact True.intro
 | @cons p q ps qs h t ih=>
  obtain⟨h1,_,h2⟩:=h
  by_cases e:p.1=k
  ·have e':q.1=k:=h1.symm.trans e;have b:atKey (q::qs) k=some q.2:=by simp [atKey,E8,e']
   rw [Yt e,b];exact h2
  ·have e': ¬q.1=k:=λz=>e (h1.trans z)
   have b:atKey (q::qs) k=atKey qs k:=by simp [atKey,E8,e']
   rw [Yu e,b];exact ih
section
variable {P:Program}{w:World}{H:Hp}{h:Heap}{a:Addr}
theorem Hx {u:HO}(ok:HOk P w H h)(e:Rd H a u):ObjOk P w H h a u:=e.ok ok
theorem NR {kvs:List (Key×V)}(ok:HOk P w H h)(e:Rd H a (.dK kvs)):kvs.length<=sizeLine/\(a==sysModules)=false/\ ∃vs,KV kvs vs/\h.DictOf (zS P w) a vs:=
 show ObjOk P w H h a (.dK kvs) from Hx ok e
theorem Hy {kvs:List (Key×V)}(ok:HOk P w H h)(e:H a=some (.dK kvs)):kvs.length<=sizeLine/\(a==sysModules)=false/\ ∃vs,KV kvs vs/\h.DictOf (zS P w) a vs:=NR ok (.inl e)
theorem Ao {ks:List Key}(ok:HOk P w H h)(e:H a=some (.tup (ks.map kV))):(tupleKind (zS P w)).is h ks a:=by
 obtain⟨_,its,r,o,h1,h2,_,n,h3⟩:=(show ObjOk P w H h a (.tup (ks.map kV)) from ok a _ e);exact⟨o,its.toArray,n,h1,h2,h3,by simpa using Qr r⟩
theorem Em {kvs:List (List Key×V)}(ok:HOk P w H h)(e:Rd H a (.dT kvs)):kvs.length<=sizeLine/\(a==sysModules)=false/\
 ∃xs,KT H kvs xs/\h.DictOfH (tupleKind (zS P w)) a xs:=by
 obtain⟨z,y,xs,r,o,es,ep,h1,h2,h3,h4,h5⟩:=(show ObjOk P w H h a (.dT kvs) from Hx ok e);refine⟨z,y,xs,r,o,es,ep,h1,h2,h3,h4,λx hx=> ?_,h5⟩;have all: ∀ {l:List (List Key×V)} {m:List (List Key×Addr×Value)},KT H l m-> ∀x∈m,(tupleKind (zS P w)).is h x.1 x.2.1:=by
  intro l m q
  induction q with
  |nil=>intro x hx;exact nomatch hx
  | @cons p q ps qs hq t ih=>
   intro x hx;rcases R0.mp hx with e|hx
   ·subst e;exact Ao ok (by rw [<-hq.1];exact hq.2.1)
   ·exact ih x hx
 exact all r x hx
end
def DGet (H:Hp)(a:Addr)(y:V)(r:Option V):Prop:=
 (∃kvs k,Rd H a (.dK kvs)/\y=kV k/\r=Ue kvs k)\/ ∃kvs k b,Rd H a (.dT kvs)/\y= .ref b/\H b=some (.tup (k.map kV))/\r=Ue kvs k
variable {a:Addr}
theorem DGet.k {kvs:List (Key×V)}{k:Key}(e:H a=some (.dK kvs)):DGet H a (kV k) (Ue kvs k):= .inl ⟨kvs,k,.inl e,rfl,rfl⟩
section
variable {X:Cx}{pins:List (Addr×Obj)}{σ:St}{H:Hp}{s:Shared}{a:Addr}{y v:V}{u r:Value}{o:Option V}{A:Around}{E:Value->Shared->Prop}
theorem Inv.big (I:Inv X pins σ H s):sysModules<s.heap.objs.size:=by
 have h:mainGlobals<s.heap.objs.size:=(I.mod.glob.keeps I.bk).lt;exact E4 (by decide) h
theorem NS {Q:Value->Shared->Prop}(hu:A.units+1<cLine)(I:Inv X pins σ H s)(g:DGet H a y (some v))(ry:RelV y u)(h: ∀w' s',Inv X pins σ H s'->RelV v w'->Q w' s'):
 wpAny (model X.prog X.w) A (getItem (.ref a) u) Q E s:=by
 rcases g with ⟨kvs,k,e,ey,l⟩|⟨kvs,k,b,e,ey,eb,l⟩
 ·subst ey;obtain⟨z,hd,vs,rel,dd⟩:=NR I.hok e;obtain⟨w',hw,rw'⟩:=RelO.some_of (v:=v) (o:=valueAt vs k) (by rw [l];exact rel.val k);exact wpAny_getItem_of (Lc ry) dd.mapOf hw (h w' _ (I.tok _) rw')
 ·subst ey;cases (show u=Value.ref b from ry);obtain⟨z,hd,xs,rel,dd⟩:=Em I.hok e;obtain⟨w',hw,rw'⟩:=RelO.some_of (v:=v) (o:=(atKey xs k).map (·.2)) (by rw [l];exact rel.val k);obtain⟨p,hp,hp2⟩:=F5.mp hw;refine wpAny_getItem_heap (tupleKind_room_in1 hu) (Ao I.hok eb) dd hp ?_;rw [hp2];exact h w' _ (I.tok _) rw'
theorem NT {h':Heap}{t':Nat}{ob:HO}(I:Inv X pins σ H s)(mu:Mut (H a))(hs:Heap.SameBut a s.heap h')(he: ∃q,h'.get? a=some q)(new:ObjOk X.prog X.w (upd H a ob) h' a ob):
 Inv X pins σ (upd H a ob) {s with heap:=h',toks:=t'}:=
 I.write (x:=a) (e:=a) mu (.inl rfl) (λb q hb z=>(hs.2 b hb).trans z) he new
theorem Ap {P:Program}{w:World}{H':Hp}{h':Heap}{kvs:List (Key×V)}{vs:List (Key×Value)}(z:kvs.length<=sizeLine)(hd:(a==sysModules)=false)(rel:KV kvs vs)(dd:h'.DictOf (zS P w) a vs):
 ObjOk P w H' h' a (.dK kvs):=⟨z,hd,vs,rel,dd⟩
end
section
variable {X:Cx}{pins:List (Addr×Obj)}{σ:St}{H:Hp}{s:Shared}{a:Addr}{kvs:List (Key×V)}{k:Key}{u:Value}{A:Around}{E:Value->Shared->Prop}
theorem ut {Q:Value->Shared->Prop}(I:Inv X pins σ H s)(e:Rd H a (.dK kvs))(h: ∀t s',Inv X pins σ H s'->Q (.int kvs.length t) s'):wpAny (model X.prog X.w) A (call (.builtin "len") [.ref a]) Q E s:=by
 obtain⟨z,hd,vs,rel,dd⟩:=NR I.hok e;refine call_len_dict hd dd (by rw [<-rel.length];rw [G1p] at z;omega) ?_;rw [<-rel.length];exact h _ _ (I.tok _)
end
def uu (i:Expr):Prop:= ∀ov iv,subscripted i false ov iv=operate [ov,iv] (getItem ov iv)
variable {prog:Program}{s:Shared}{env:Env}{pos:Pos}
theorem En {A:Around}{E:Value->Shared->Prop}{value slice:Expr}{T id:String}{Q:Value->Shared->Prop}
 (hl:typeLookup (.type T) "__getitem__" =pure (some (.builtin id)))(hs:uu slice)
 (h:wpAny (model prog w) A (eval value env) (λo s₁=>wpAny (model prog w) A (eval slice env) (λi s₂=>s₂.TypeIs o T/\wpAny (model prog w) A (getItem o i) Q E s₂) E s₁) E s):
 wpAny (model prog w) A (eval (.Subscript value slice pos) env) Q E s:=by
 refine Subscript_ (S0 h (λo s₁ h₁=>S0 h₁ (λi s₂ h₂=> ?_) λ_ _ x=>x) λ_ _ x=>x);obtain⟨hT,h₂⟩:=h₂;unfold subscriptTail;refine wpAny_bind ?_;rw [getitemInPython_of_ne hT.not_modules];refine wpAny_bind (wpAny_specialOf hT hl ?_);have fin:wpAny (model prog w) A (subscripted slice false o i) (λr s₃=>wpAny (model prog w) A (letTemporaryGo value o r >>= λ_=>pure r) Q E s₃) E s₂:=by
  rw [hs o i];exact wpAny_operating (S0 h₂ (λr s₃ h₃=>wpAny_bind (wpAny_letTemporaryGo (P0 h₃))) λ_ _ x=>x)
 first
  |exact P0 (wpAny_bind fin)
  |exact wpAny_bind (P0 (wpAny_bind fin))
  |exact wpAny_bind fin
theorem Pq {pins:List (Addr×Obj)}{σ:St}{y:V}{o:Option V}(I:Inv X pins σ H s)(g:DGet H a y o):s.TypeIs (.ref a) "dict" :=by
 rcases g with ⟨kvs,k,e,_,_⟩|⟨kvs,k,b,e,_,_,_⟩
 ·obtain⟨_,_,vs,_,dd⟩:=NR I.hok e;exact dd.typeIs
 ·obtain⟨_,_,xs,_,dd⟩:=Em I.hok e;exact dd.typeIs
def uv (td ty:TE):TE:=λσ H Q=>td σ H λx H1=>ty σ H1 λy H2=> ∃a v,x= .ref a/\DGet H2 a y (some v)/\Q v H2
section
variable {X:Cx}{o i e value:Expr}{pos pos' tpos:Pos}{td ty tv:TE}
theorem Eo (hu:X.A.units+1<cLine)(ho:PE X o td)(hi:PE X i ty)(hs:uu i):PE X (.Subscript o i pos) (uv td ty):=by
 intro pins s σ H Q I h;refine En PySem.F.slot_dict_getitem.lookup hs (thn (ho pins s σ H _ I h) λu s1 ⟨x,H1,I1,rx,q1⟩=>thn (hi pins s1 σ H1 _ I1 q1) λiv s2 ⟨y,H2,I2,ry,a,v,ex,g,q2⟩=> ?_);subst ex;obtain rfl:u=Value.ref a:=rx;exact⟨Pq I2 g,NS hu I2 g ry λw' s3 I3 rw'=>⟨v,H2,I3,rw',q2⟩⟩
end
theorem Ld (h:Heap)(hb:sysModules<h.objs.size):ObjOk P w H (h.push {cls:= .type "dict",data:= .dict #[]}) h.objs.size (.dK []):=
 ⟨S8 _,U9.mpr (Ne.symm (S4 hb)),[],.nil,Heap.DictOf.new h⟩
def NU:List (TE×TE)->St->Hp->(List (V×V)->Hp->Prop)->Prop
 | [],_,H,Q=>Q [] H
 |(tk,tv)::r,σ,H,Q=>tk σ H λx H1=>tv σ H1 λy H2=>NU r σ H2 λps H3=>Q ((x,y)::ps) H3
abbrev VV:List (V×V)->List (Value×Value)->Prop:=Paired λp q=>RelV p.1 q.1/\RelV p.2 q.2
def PPs (X:Cx)(pos:Pos)(keys:List (Option Expr))(values:List Expr)(trs:List (TE×TE)):Prop:=
 ∀ (pins:List (Addr×Obj)) (s:Shared) (σ:St) (H:Hp) (Q:List (V×V)->Hp->Prop),Inv X pins σ H s->NU trs σ H Q->
  wpAny (model X.prog X.w) X.A (evalPairs (pairTrees keys values X.env pos)) (λvs s'=> ∃ps H',Inv X pins σ H' s'/\VV ps vs/\Q ps H') X.xe s
theorem Ep:PPs X pos [] [] []:=λpins s σ H Q I h=>pairTrees_nil_walk ⟨[],H,I,.nil,h⟩
theorem Le {k v:Expr}{ks:List (Option Expr)}{vs:List Expr}{tk tv:TE}{trs:List (TE×TE)}(hk:PE X k tk)(hv:PE X v tv)(hr:PPs X pos ks vs trs):
 PPs X pos (some k::ks) (v::vs) ((tk,tv)::trs):=λpins s σ H Q I h=>
 pairTrees_cons_walk (thn (hk pins s σ H _ I h) λu s1 ⟨x,H1,I1,rx,q1⟩=>thn (hv pins s1 σ H1 _ I1 q1) λw2 s2 ⟨y,H2,I2,ry,q2⟩=>
  thn (hr pins s2 σ H2 _ I2 q2) λws s3 ⟨ps,H3,I3,rel,q3⟩=>⟨(x,y)::ps,H3,I3,.cons ⟨rx,ry⟩ rel,q3⟩)
def Qs (kvs more:List (Key×V)):List (Key×V):=more.foldl (λacc kv=>Ra acc kv.1 kv.2) kvs
theorem KV.merge: ∀ {more:List (Key×V)} {rs:List (Key×Value)} {kvs:List (Key×V)} {vs:List (Key×Value)},KV more rs->KV kvs vs->KV (Qs kvs more) (merged vs rs):=by
 intro more rs kvs vs r;unfold KV at r
 induction r generalizing kvs vs with
 |nil=>intro q;exact q
 | @cons p q ps qs h t ih=>
  intro r0;have e:KV (Ra kvs p.1 p.2) (stored vs q.1 q.2):=by
   have:=r0.put p.1 h.2;rw [<-h.1];exact this
  exact ih e
theorem ZG: ∀ (more kvs:List (Key×V)),(Qs kvs more).length<=kvs.length+more.length
 | [],kvs=>by show kvs.length<=kvs.length+0;omega
 |p::r,kvs=>by
  have h1:=ZG r (Ra kvs p.1 p.2);have h2:=YK kvs p.1 p.2;show (Qs (Ra kvs p.1 p.2) r).length<=_;rw [P9];omega
theorem Uv {P:Program}{w:World}: ∀ {kvs:List (Key×V)} {ws:List (Value×Value)},VV (kvs.map λkv=>(kV kv.1,kv.2)) ws-> ∃rs,Carries (zS P w) ws rs/\KV kvs rs
 | [],_,r=>by rw [E3] at r;cases r;exact⟨[],True.intro,.nil⟩
 |p::kvs,_,r=>by
  rw [T3] at r;cases r with
  | @cons a b as bs h t=>
   obtain⟨rs,c,q⟩:=Uv (P:=P) (w:=w) t;obtain⟨b1,b2⟩:=b;exact⟨(p.1,b2)::rs,⟨Lc h.1,rfl,c⟩,.cons ⟨rfl,h.2⟩ q⟩
def uw (trs:List (TE×TE)):TE:=λσ H Q=> ∀p,H p=none->NU trs σ (upd H p (.dK [])) λps H2=>H2 p=some (.dK [])/\ ∃kvs:List (Key×V),ps=kvs.map (λkv=>(kV kv.1,kv.2))/\kvs.length<=15/\Q (.ref p) (upd H2 p (.dK (Qs [] kvs)))
theorem Er {keys:List (Option Expr)}{values:List Expr}{trs:List (TE×TE)}(h:PPs X pos keys values trs)(hall:keys.all (·.isSome)=true)(hl:keys.length=values.length)(h0:keys≠ [])
 (h15:keys.length<=15):PE X (.Dict keys values pos) (uw trs):=by
 intro pins s σ H Q I q;have hn:=I.hok.fresh (P1 s.heap.objs.size);have I1:=I.laid (a:=s.heap.objs.size) (o:= .dK []) (h':=s.heap.push {cls:= .type "dict",data:= .dict #[]}) (t':=s.toks) (λ_ _ q=>G2 _ q) (P1 _) (Ld s.heap I.big);refine wpAny_Dict_walk (knd:=zS X.prog X.w) hall hl h0 h15 (thn (h pins _ σ _ _ I1 (q _ hn)) λws s2 ⟨ps,H2,I2,rel,e,kvs,ep,lk,q2⟩=> ?_);subst ep;obtain⟨rs,c,rk⟩:=Uv (P:=X.prog) (w:=X.w) rel;obtain⟨z,hd,vs0,r0,dd⟩:=Hy I2.hok e;cases r0;refine⟨rs,c,dd,λh' dd' hs=>⟨.ref s.heap.objs.size,_,?_,rfl,q2⟩⟩;have hz:(Qs [] kvs).length<=sizeLine:=by
  have h1:=ZG kvs [];rw [T4] at h1;rw [G1p];omega
 have he: ∃q,h'.get? s.heap.objs.size=some q:=let ⟨q,_,_,hq,_⟩:=dd';⟨q,hq⟩;exact NT I2 (by rw [e];exact True.intro) hs he (Ap hz hd (rk.merge .nil) dd')
structure M2 (X:Cx)(o:Expr)(m:Str)(apos:Pos)(e f:Expr)(cpos:Pos):Prop where
 base:attributeBase o m X.env (eval o X.env)=eval o X.env
 few:((backTo cpos (starEach [e,f] X.env)).all (λx=> !x.1)&&(backToKw cpos (keywordEach [] X.env)).all (λx=>x.1.isSome)
  &&decide (([e,f]:List Expr).length+([]:List Keyword).length+(if ([]:List Keyword).isEmpty then 0 else 1)<30))=true
 line:(apos.endLine==cpos.line)=true
 trees:backTo cpos (starEach [e,f] X.env)= [(false,eval e X.env),(false,eval f X.env)]
def IsD (H:Hp)(a:Addr):Prop:=(∃kvs,Rd H a (.dK kvs))\/ ∃kvs,Rd H a (.dT kvs)
theorem Hz {pins:List (Addr×Obj)}{σ:St}(I:Inv X pins σ H s)(d:IsD H a):
 s.TypeIs (.ref a) "dict" /\(∀b,Value.ref a= .ref b-> ∃ob,s.heap.get? b=some ob/\ob.dict=none)/\(a==sysModules)=false:=by
 rcases d with ⟨kvs,e⟩|⟨kvs,e⟩
 ·obtain⟨_,hd,vs,_,dd⟩:=NR I.hok e;refine⟨dd.typeIs,λb q=> ?_,hd⟩;cases q;obtain⟨ob,_,_,h1,h2,_⟩:=dd;exact⟨ob,h1,h2.2.1⟩
 ·obtain⟨_,hd,xs,_,dd⟩:=Em I.hok e;refine⟨dd.typeIs,λb q=> ?_,hd⟩;cases q;obtain⟨ob,_,_,h1,h2,_⟩:=dd;exact⟨ob,h1,h2.2.1⟩
def yy (names:List (Str×NameKind))(env:Env)(cs:List (Str×Addr)):List (Str×Addr):=
 names.foldl (λcs p=>if p.2= .free then (match env.cells.lookup p.1 with|some c=>(p.1,c)::cs|none=>cs) else cs) cs
theorem wz (p:Str×NameKind)(l:List (Str×NameKind))(env:Env)(cs:List (Str×Addr)):
 yy (p::l) env cs=yy l env (if p.2= .free then (match env.cells.lookup p.1 with|some c=>(p.1,c)::cs|none=>cs) else cs):=rfl
theorem YL {f:Str×NameKind->List (Str×Addr)->Sem (ForInStep (List (Str×Addr)))}
 (h1: ∀p cs,p.2≠ .free->f p cs=pure (.yield cs))(h2: ∀p cs c,p.2= .free->env.cells.lookup p.1=some c->f p cs=pure (.yield ((p.1,c)::cs))):
 ∀ (l:List (Str×NameKind)) (cs:List (Str×Addr)),(∀p∈l,p.2= .free-> ∃c,env.cells.lookup p.1=some c)->forIn l cs f=pure (yy l env cs)
 | [],cs,_=>rfl
 |p::l,cs,h=>by
  have ih:=YL h1 h2 l
  by_cases hp:p.2= .free
  ·obtain⟨c,hc⟩:=h p D9 hp;rw [G0g,h2 p cs c hp hc,pure_bind];show forIn l ((p.1,c)::cs) f=_;rw [ih _ λq hq=>h q (R4 _ hq),wz,if_pos hp,hc]
  ·rw [G0g,h1 p cs hp,pure_bind];show forIn l cs f=_;rw [ih _ λq hq=>h q (R4 _ hq),wz,if_neg hp]
variable {scope:Scope}
theorem UX (h: ∀p∈scope.names,p.2= .free-> ∃c,env.cells.lookup p.1=some c):closureFor scope env=pure (yy scope.names env []):=by
 simp only [closureFor];rw [YL (env:=env) (λp cs hp=> ?_) (λp cs c hp hc=> ?_) _ _ h]
 ·rfl
 ·obtain⟨n,k⟩:=p;have hb:(k==NameKind.free)=false:=by simpa using hp
  simp only [hb,Bool.false_eq_true,G1v]
 ·obtain⟨n,k⟩:=p;have hb:(k==NameKind.free)=true:=by simpa using hp
  have hc':env.cells.lookup n=some c:=hc;simp only [hb,if_true,cellOf,hc',pure_bind]
theorem YM: ∀ (l:List (Str×NameKind)) (cs:List (Str×Addr)),(∀p∈cs,env.cells.lookup p.1=some p.2)-> ∀p∈yy l env cs,env.cells.lookup p.1=some p.2
 | [],cs,h,p,hp=>h p hp
 |q::l,cs,h,p,hp=>by
  rw [wz] at hp;refine YM l _ (λr hr=> ?_) p hp
  by_cases hq:q.2= .free
  ·rw [if_pos hq] at hr;cases e:env.cells.lookup q.1 with
   |none=>rw [e] at hr;exact h r hr
   |some c=>
    rw [e] at hr;rcases R0.mp hr with rfl|hr
    ·exact e
    ·exact h r hr
  ·rw [if_neg hq] at hr;exact h r hr
theorem YN: ∀ (l:List (Str×NameKind)) (cs:List (Str×Addr)),∀p∈cs,p∈yy l env cs
 | [],cs,p,hp=>hp
 |q::l,cs,p,hp=>by
  rw [wz];refine YN l _ p ?_
  by_cases hq:q.2= .free
  ·rw [if_pos hq];cases e:env.cells.lookup q.1 with
   |none=>exact hp
   |some c=>exact R4 _ hp
  ·rw [if_neg hq];exact hp
variable {x:Str}
theorem YO {c:Addr}(hc:env.cells.lookup x=some c): ∀ (l:List (Str×NameKind)) (cs:List (Str×Addr)),(x,NameKind.free)∈l->(x,c)∈yy l env cs
 |q::l,cs,h=>by
  rw [wz];rcases R0.mp h with e|h
  ·subst e;rw [if_pos rfl,hc];exact YN l _ _ D9
  ·exact YO hc l _ h
theorem wU {α:Type}: ∀ {l:List (Str×α)} {x:Str} {c:α},l.lookup x=some c->(x,c)∈l
 | [],_,_,h=>by simp at h
 |(n,k)::r,x,c,h=>by
  rw [O0] at h;cases hx:x==n with
  |true=>
   rw [hx] at h;have e:x=n:=eq_of_beq hx;cases h;subst e;exact D9
  |false=>rw [hx] at h;exact R4 _ (wU h)
theorem Uw {α:Type}: ∀ {l:List (Str×α)} {x:Str} {c:α},(x,c)∈l-> ∃c',l.lookup x=some c'
 |(n,k)::r,x,c,h=>by
  rw [O0];cases hx:x==n with
  |true=>exact⟨_,rfl⟩
  |false=>
   rcases R0.mp h with e|h
   ·cases e;simp at hx
   ·exact Uw h
theorem Ux {l:List (Str×NameKind)}{c:Addr}(h:(yy l env []).lookup x=some c):env.cells.lookup x=some c:=
 YM l [] (λ_ z=>nomatch z) (x,c) (wU h)
theorem NV {l:List (Str×NameKind)}{c:Addr}(hc:env.cells.lookup x=some c)(h:(x,NameKind.free)∈l):(yy l env []).lookup x=some c:=by
 obtain⟨c',e⟩:=Uw (YO hc l [] h);have:=Ux e;rw [hc] at this;cases this;exact e
theorem yT {κ:Type}{f:Str×κ->Str×κ}{g:Str->κ->κ}(hf: ∀n k,f (n,k)=(n,g n k))(x:Str): ∀l:List (Str×κ),(l.map f).lookup x=(l.lookup x).map (g x)
 | []=>rfl
 |(n,k)::r=>by
  rw [T3,hf,O0,O0,yT hf x r];cases same:x==n with
  |false=>rfl
  |true=>rw [eq_of_beq same];rfl
theorem zw {names:List (Str×NameKind)}{k:NameKind}(found:
 (names.map λ(n,k)=>if (k==NameKind.free&&env.scope.kind== .function&&env.kindOf n==some .cell) then (n,NameKind.cell) else (n,k)).lookup x=some k):
  names.lookup x=some k\/names.lookup x=some .free:=by
 rw [yT (g:=λn k=>if (k==NameKind.free&&env.scope.kind== .function&&env.kindOf n==some .cell) then .cell else k) (λn k=>by dsimp only;split<;>rfl)] at found;obtain⟨k0,was,now⟩:=F5.mp found;split at now
 ·rename_i c;simp only [S5,G1g] at c;exact .inr (by rw [was,c.1.1])
 ·exact .inl (by rw [was,now])
theorem wO: ∀ (names:List (Str×NameKind)) (n:Nat) (acc:List (Str×Addr)) (p:Str×Addr),p∈cellsFrom n names acc->p∈acc\/(n<=p.2/\(p.1,NameKind.cell)∈names)
 | [],_,_,_,h=> .inl h
 |(x,k)::r,n,acc,p,h=>by
  unfold cellsFrom at h;split at h
  ·rename_i hk;rcases wO r (n+1) _ p h with z|⟨z1,z2⟩
   ·rcases R0.mp z with e|z
    ·subst e;have:k= .cell:=by simpa using hk
     subst this;exact .inr ⟨P1 _,D9⟩
    ·exact .inl z
   ·exact .inr ⟨by omega,R4 _ z2⟩
  ·rcases wO r n acc p h with z|⟨z1,z2⟩
   ·exact .inl z
   ·exact .inr ⟨z1,R4 _ z2⟩
theorem ze: ∀ (names:List (Str×NameKind)) (n:Nat) (acc:List (Str×Addr)),cellsFrom n names acc=cellsFrom n names []++acc
 | [],_,_=>rfl
 |(x,k)::r,n,acc=>by
  unfold cellsFrom;split
  ·rw [ze r (n+1) ((x,n)::acc),ze r (n+1) [(x,n)],P2];rfl
  ·exact ze r n acc
theorem Wl {α:Type}(l l':List (Str×α))(x:Str):(l++l').lookup x=(match l.lookup x with|some c=>some c|none=>l'.lookup x):=by
 induction l with
 |nil=>rfl
 |cons p l ih=>
  obtain⟨n,c⟩:=p;rw [J1,O0,O0];cases x==n with
  |true=>rfl
  |false=>exact ih
theorem JK {names:List (Str×NameKind)}(here:names.lookup x=some .cell):
 (names.map λ(n,k)=>if (k==NameKind.free&&env.scope.kind== .function&&env.kindOf n==some .cell) then (n,NameKind.cell) else (n,k)).lookup x=some .cell:=by
 rw [yT (g:=λn k=>if (k==NameKind.free&&env.scope.kind== .function&&env.kindOf n==some .cell) then .cell else k) (λn k=>by dsimp only;split<;>rfl),here];simp
section
variable {M:Model}{A:Around}{E:Value->Shared->Prop}{s:Shared}
theorem Mc (h:Heap)(names:List (Str×NameKind)):(∀n c,(n,c)∈cellsFrom h.objs.size names []->(pushCells h names).IsCell c none/\h.objs.size<=c)/\(cellsFrom h.objs.size names []).Pairwise λx y=>x.2≠y.2:=
 have laid:=cellsFrom_ok names h h.objs.size [] ⟨by simp,.nil⟩ (P1 _)
 ⟨laid.empty,laid.apart⟩
theorem Qt {scope:Scope}{globals:Addr}{closure:List (Str×Addr)}{qual:Str}{func:Option Addr}{code:Value}{outer:Env}{builtins:Addr}{Q:Env->Shared->Prop}
 (hQ: ∀h',h'.Ns s.heap.objs.size (λ_=>none)->(∀b o,s.heap.get? b=some o->h'.get? b=some o)->(∀n c,(n,c)∈cellsFrom (s.heap.objs.size+1) scope.names []->h'.IsCell c none/\s.heap.objs.size+1<=c)->
  ((cellsFrom (s.heap.objs.size+1) scope.names []).Pairwise λx y=>x.2≠y.2)->
  Q (newEnv scope s.heap.objs.size globals (cellsFrom (s.heap.objs.size+1) scope.names closure) qual func code (some outer) builtins) {s with heap:=h'}):
 wpAny M A (newFunctionEnv scope globals closure [] qual func code (some outer) builtins) Q E s:=by
 have names:=Mc (s.heap.push {cls:= .type "dict",data:= .dict #[]}) scope.names;have first:(s.heap.push {cls:= .type "dict",data:= .dict #[]}).objs.size=s.heap.objs.size+1:=Y5 ..
 rw [first] at names;unfold newFunctionEnv;refine wpAny_bind (wpAny_alloc (wpAny_bind (wpAny_layCells _ (λn k cs=>rfl) _ _ _ _ ?_)));simp only [Option.isSome_some,if_true];rw [first];exact wpAny_bind (P0 (P0 (hQ _ ((Heap.Ns.new _ _).keeps (pushCells_keeps _ _)) (λb o here=>pushCells_keeps _ _ b o (G2 _ here)) names.1 names.2)))
end
def jY (X:Cx)(scope:Scope)(C:Addr):List (Str×Addr):=cellsFrom (C+1) scope.names (yy scope.names X.env [])
def UY (X:Cx)(scope:Scope)(C:Addr)(s₀:Shared)(H₀:Hp)(ex:List Addr):Cx:=
 {X with s₀:=s₀,H₀:=H₀,env:=compEnvC scope (jY X scope C) C X.env,outer:=X.stack,ex:=ex,fn:=λx=>scope.names.lookup x==some .cell,pn:= [],xe:=λ_ _=>False}
def jp (X:Cx)(scope:Scope)(X':Cx):Prop:= ∃C s₀ H₀ ex,X'=UY X scope C s₀ H₀ ex
structure BlockOk (X:Cx)(scope:Scope)(js:List Nat):Prop where
 kind:scope.kind= .function
 locs: ∀p∈scope.names,p.2= .local->scope.names.lookup p.1=some .local
 cels: ∀p∈scope.names,p.2= .cell->scope.names.lookup p.1=some .cell
 free: ∀p∈scope.names,p.2= .free->X.env.scope.names.lookup p.1=some .cell\/X.env.scope.names.lookup p.1=some .free
 js: ∀ (i:Nat) (x:Str),X.N[i]? =some x->(scope.names.lookup x=some .local\/scope.names.lookup x=some .cell)->i∈js
variable {js:List Nat}
theorem yG (S:BlockOk X scope js){C:Addr}{x:Str}{c:Addr}(h:(jY X scope C).lookup x=some c):
 (scope.names.lookup x≠some .cell/\X.env.cells.lookup x=some c)\/(scope.names.lookup x=some .cell/\(x,c)∈cellsFrom (C+1) scope.names []):=by
 unfold jY at h;rw [ze,Wl] at h;cases e:(cellsFrom (C+1) scope.names []).lookup x with
 |some d=>
  rw [e] at h;cases h;have m:=wU e;rcases wO _ _ _ _ m with z|⟨_,z⟩
  ·exact absurd z (by simp)
  ·exact .inr ⟨S.cels _ z rfl,m⟩
 |none=>
  rw [e] at h;refine .inl ⟨λz=> ?_,Ux h⟩;obtain⟨d,hd⟩:=Ys (sc:=scope) (n:=C+1) z;rw [e] at hd;cases hd
theorem WQ (S:BlockOk X scope js){C:Addr}{x:Str}{c:Addr}(hc:X.env.cells.lookup x=some c)(h:(x,NameKind.free)∈scope.names)(hn:scope.names.lookup x≠some .cell):(jY X scope C).lookup x=some c:=by
 unfold jY;rw [ze,Wl];cases e:(cellsFrom (C+1) scope.names []).lookup x with
 |some d=>
  rcases wO _ _ _ _ (wU e) with z|⟨_,z⟩
  ·exact absurd z (by simp)
  ·exact absurd (S.cels _ z rfl) hn
 |none=>exact NV hc h
def wI:List Nat->St->St
 | [],σ=>σ
 |j::js,σ=>wI js (σ.set j none)
theorem Uy: ∀ (js:List Nat) (σ:St),(wI js σ).length=σ.length
 | [],_=>rfl
 |j::js,σ=>by rw [wI,Uy js];simp
theorem YQ: ∀ (js:List Nat) (σ:St) (i:Nat) (v:V),(wI js σ)[i]? =some (some v)->σ[i]? =some (some v)
 | [],_,_,_,h=>h
 |j::js,σ,i,v,h=>by
  have h1:=YQ js _ i v h
  by_cases e:i=j
  ·subst e;rw [X8] at h1;simp at h1
  ·rwa [F4 (Ne.symm e)] at h1
theorem we: ∀ (js:List Nat) (σ:St) (i:Nat) (v:V),i∈js-> ¬ (wI js σ)[i]? =some (some v)
 |j::js,σ,i,v,hm,h=>by
  rcases R0.mp hm with rfl|hm
  ·have h1:=YQ js _ i v h;rw [X8] at h1;simp at h1
  ·exact we js _ i v hm h
theorem HOk.track {h:Heap}{o:HO}(x:HOk P w H h)(hn:H a=none)(new:ObjOk P w (upd H a o) h a o):HOk P w (upd H a o) h:=λb u e=>by
 by_cases hb:b=a
 ·subst hb;rw [jz] at e;cases e;exact new
 ·rw [jq hb] at e;exact(x b u e).stay (λc v _ q=>q) (λc q=>by rw [jq (jm q hn)];exact q) λc xs q=>by rw [jq (jm q hn)];exact q
def Agree (σ σ':St):Prop:=σ'.length=σ.length/\ ∀ (i:Nat) (v:V),σ[i]? =some (some v)->σ'[i]? =some (some v)
theorem Agree.set {σ:St}{j:Nat}(v:V)(h: ∀u,¬σ[j]? =some (some u)):Agree σ (σ.set j (some v)):=⟨by simp,λi u q=>by
 by_cases e:j=i
 ·subst e;exact absurd q (h u)
 ·rw [F4 e];exact q⟩
theorem Agree.trans {a b c:St}(x:Agree a b)(y:Agree b c):Agree a c:=⟨y.1.trans x.1,λi v h=>y.2 i v (x.2 i v h)⟩
def PTs (X:Cx)(ifs:List Expr)(t:TT):Prop:=
 ∀ (pins:List (Addr×Obj)) (s:Shared) (σ:St) (H:Hp) (Q:Bool->Hp->Prop),Inv X pins σ H s->t σ H Q->
  wpAny (model X.prog X.w) X.A (forIn ifs true λc r=>if r=true then do let ok <-isTrue c X.env (eval c X.env);pure (ForInStep.yield ok) else pure (ForInStep.yield r)) (TP X pins σ Q) X.xe s
def xW:TT:=λ_ H Q=>Q true H
theorem Es:PTs X [] xW:=λ_ _ _ H _ I h=>wpAny_tests_nil ⟨H,I,h⟩
theorem Et {c:Expr}{t:TT}(hc:PT X c t):PTs X [c] t:=λpins s σ H Q I h=>wpAny_tests_one (hc pins s σ H Q I h)
def Uz (iter target:Expr)(ifs:List Expr)(it:Value)(env:Env)(act:Sem Unit)(nxt:Code):Sem PySem.Fin:=do
 standAt iter.pos
 match <-pyNext it with
 |none=>pure (.done .next)
 |some v=>
  letOwnedTupleGo target it v
  assign target env v
  let mut ok:=true
  for c in ifs do
   if ok then ok <-isTrue c env (eval c env)
  if ok then act
  again nxt
variable {elt iter:Expr}{ifs:List Expr}
theorem Rb {A:Around}{R:Result->Shared->Prop}{target:Expr}{gens:List Comprehension}{depth:Nat}{it acc:Value}{act:Sem Unit}(I:Nat->Shared->Prop)
 (heq:compTurn (.ListComp elt gens scope pos) depth it acc env=Uz iter target ifs it env act (.compLoop (.ListComp elt gens scope pos) depth it acc env))
 (turn: ∀n s,I n s->wpAny (model prog w) A (pyNext it) (λr s₁=>match r with
  |none=>R (.ok .next) s₁
  |some v=>wpAny (model prog w) A (letOwnedTupleGo target it v) (λ_ s₁=>wpAny (model prog w) A (assign target env v) (λ_ s₂=>
   wpAny (model prog w) A (forIn ifs true λc r=>if r=true then do let ok <-PySem.isTrue c env (eval c env);pure (ForInStep.yield ok) else pure (ForInStep.yield r)) (λok s₃=>
    if ok=true then wpAny (model prog w) A act (λ_ s₅=> ∃m,m<n/\I m s₅) (λ_ _=>False) s₃
    else ∃m,m<n/\I m s₃) (λ_ _=>False) s₂) (λ_ _=>False) s₁) (λ_ _=>False) s₁) (λ_ _=>False) s)
 (n:Nat)(h:I n s):
 codeAny (model prog w) A (.compLoop (.ListComp elt gens scope pos) depth it acc env) R s:=by
 refine codeAny_loop rfl I (λn s hI=> ?_) n h;show wpAny _ A ((compTurn (.ListComp elt gens scope pos) depth it acc env).onRaise (λx=>do noteFrame x env;theTreesLotGoes x)) _ _ s;refine wpAny_noted ?_;rw [heq];unfold Uz;refine wpAny_bind (V8 (wpAny_bind (S0 (turn n s hI) (λr s₁ h₁=> ?_) λ_ _ h'=>h'.elim)));cases r with
 |none=>exact P0 h₁
 |some v=>
  refine wpAny_bind (S0 h₁ (λ_ s₁ h₁=> ?_) λ_ _ h'=>h'.elim);refine wpAny_bind (S0 h₁ (λ_ s₂ h₂=>wpAny_bind (S0 h₂ (λok s₃ h₃=> ?_) λ_ _ h'=>h'.elim)) λ_ _ h'=>h'.elim);cases ok with
  |false=>exact P0 ⟨rfl,h₃⟩
  |true=>exact wpAny_bind (S0 h₃ (λ_ s₅ h₅=>P0 ⟨rfl,h₅⟩) λ_ _ h'=>h'.elim)
abbrev TM:=St->Hp->List V->(List V->Hp->Prop)->Prop
def kH (X:Cx)(D:Addr)(act:Sem Unit)(t:TM):Prop:=
 ∀ (pins:List (Addr×Obj)) (s:Shared) (σ:St) (H:Hp) (ys:List V) (us:List Value) (Q:List V->Hp->Prop),Inv X ([(D,LCg.lst us)]++pins) σ H s->Vals ys us->ys.length<=sizeLine->D∈X.ex->(∀x c,X.env.cells.lookup x=some c->c≠D)->(∀p∈X.pn++pins,p.1≠D)->t σ H ys Q->
  wpAny (model X.prog X.w) X.A act (λ_ s'=> ∃ys' us' H',Vals ys' us'/\Inv X ([(D,LCg.lst us')]++pins) σ H' s'/\Q ys' H') (λ_ _=>False) s
def HA (te:TE):TM:=λσ H ys Q=>te σ H λy H1=>Q (ys++ [y]) H1
def UA (elt:Expr)(env:Env)(acc:Value):Sem Unit:=do let _ <-call (.builtin "list.append") [acc,<-eval elt env]
variable {te:TE}
theorem UZ {D:Addr}(hx:X.xe=λ_ _=>False)(he:PE X elt te):kH X D (UA elt X.env (.ref D)) (HA te):=by
 intro pins s σ H ys us Q I hv hz DX cD pD h;have q:=he _ s σ H _ I h;rw [hx] at q;unfold UA;refine wpAny_bind (S0 q (λy s1 ⟨yv,H1,I1,r1,q1⟩=> ?_) λ_ _ z=>z);have zD:=I1.pin (D,LCg.lst us) (P8 _ (T8 _ D9));refine wpAny_bind (append_at (its:=us.toArray) (n:=us.length) zD.1 (λh11 hs11 hD11=>P0 ?_) (by rw [D0,<-hv.length];exact hz));have I10u:Inv X pins σ H1 s1:=I1.pins_of λp hp=>I1.pin p (P8 _ (P8 _ hp))
 have I11:Inv X pins σ H1 {s1 with heap:=h11}:=I10u.turned (t':=s1.toks) (it:=D) (λb o hb e=>hs11.extBut b o hb e) zD.2.1 zD.2.2.1 (.inl DX) cD pD;have eD:h11.get? D=some (LCg.lst (us++ [y])):=by rw [hD11];exact congrArg some (LCg.lst_snoc us y)
 refine⟨ys++ [yv],us++ [y],H1,hv.append (.cons r1 .nil),I11.pins_of λp hp=> ?_,q1⟩;rcases P6.mp hp with z|z
 ·rcases G5.mp z with rfl
  exact⟨eD,zD.2.1,zD.2.2.1,zD.2.2.2.1,λv z=>by cases z⟩
 ·exact I11.pin p (P8 _ z)
def kI (js : List Nat) (wi : TI) (g : TG) (tt : TT) (tm : TM) : TE := fun σ H Q => wi σ H fun J H1 =>
  ∃ W : Nat → Nat → List V → Hp → Prop, (∃ m, W 0 m [] H1) ∧ ∀ i m ys H, W i m ys H → ys.length ≤ sizeLine ∧
    ((J.stop i H ∧ ∀ p, H p = none → Q (.ref p) (upd H p (.lst ys))) ∨
     (J.go i H ∧ ∀ x H', J.yld i H x H' → g x (wI js σ) H' fun σ2 H2 => Agree (wI js σ) σ2 ∧ tt σ2 H2 fun b H3 =>
        if b = true then tm σ2 H3 ys fun ys' H4 => ∃ m', m' < m ∧ W (i + 1) m' ys' H4 else ∃ m', m' < m ∧ W (i + 1) m' ys H3))
def tLC (js:List Nat)(wi:TI)(g:TG)(tt:TT)(te:TE):TE:=kI js wi g tt (HA te)
variable {tg:Expr}{wi:TI}{g:TG}{tt:TT}
theorem NW {e:Expr}{rest:List Comprehension}{pos0:Pos}{tm:TM}{use:Option (Value->Sem Unit)}{Qv:Value->Shared->Prop}(hc:X.calm=true)(S:BlockOk X scope js)(hi:PI X tg iter wi)
 (he0:e= .ListComp elt (⟨tg,iter,ifs,0⟩::rest) scope pos)
 (hg: ∀X',jp X scope X'->PG X' tg g)(ht: ∀X',jp X scope X'->PTs X' ifs tt)
 (act:Env->Value->Sem Unit)(hturn: ∀it acc env,compTurn e 0 it acc env=Uz iter tg ifs it env (act env acc) (.compLoop e 0 it acc env))(he: ∀X',jp X scope X'-> ∀D,kH X' D (act X'.env (.ref D)) tm)
 (hs: ∀x,foldedSetIterable iter X.env x=pure x){pins:List (Addr×Obj)}{s:Shared}{σ:St}{H:Hp}{Q:VK}(I:Inv X pins σ H s)(h:kI js wi g tt tm σ H Q)
 (fin: ∀ (D C:Addr) (H':Hp) (s':Shared) (m:Str->Option Value),s'.heap.Ns C m->(∀h',Heap.SameBut C s'.heap h'->Inv X pins σ H' {s' with heap:=h'})->H' C=none->C≠X.env.locals->C ∉ X.fs->X.s₀.heap.objs.size<=C->(∀x c,X.env.cells.lookup x=some c->c≠C)->(∀p∈X.pn++pins,p.1≠C)->
  Q (.ref D) H'->compPost (model X.prog X.w) X.A X.xe use Qv (.ref D) C (.ok .next) s'):
 wpAny (model X.prog X.w) X.A (comprehension e scope X.env pos0 (newList []) false (eval iter X.env) use) Qv X.xe s:=by
 have hclos:=UX (scope:=scope) (env:=X.env) (λp hp e=>I.ok.has p.1 (S.free p hp e));subst he0;refine wpAny_comprehension_free (use:=use) rfl hs hclos S.kind S.locs (thn (hi pins s σ H _ I h) λv s1 h1=>thn h1 λitv s2 h2=> ?_);obtain⟨it,fp,tn,J,H2,e,I2,T,st2,f2,W,⟨m0,w0⟩,turn⟩:=h2;subst e;refine K1 (Qt (λh₁ hns₁ hkp₁ hcl₁ hap₁=> ?_));dsimp only at hns₁ hkp₁ hcl₁ hap₁ ⊢;generalize hD:s2.heap.objs.size=D;generalize hH3:s2.heap.push {cls:= .type "list",dict:=none,data:= .seq ([]:List Value).toArray}=h3 at hns₁ hkp₁ hcl₁ hap₁ ⊢;have sz3:h3.objs.size=D+1:=by rw [<-hH3,Y5,hD]
 have up3: ∀b o,s2.heap.get? b=some o->h3.get? b=some o:=λb o e=>hH3 ▸ G2 _ e
 have I3:Inv X pins σ H2 {s2 with heap:=h3}:=I2.kept (t':=s2.toks) up3;have hD3:h3.get? D=some (LCg.lst []):=by rw [<-hH3,<-hD];exact D6 _ rfl
 have fD:Nn X pins H2 D:=I2.fpOk (by rw [hD];exact P1 _) (I2.hok.fresh (by rw [hD];exact P1 _));have obf: ∀b∈fp,∃o,s2.heap.get? b=some o/\ ∀v,o.data≠ .cell v:=T.obj _ _ st2;have ltf: ∀b∈fp,b<D:=λb hb=>by obtain⟨o,e,_⟩:=obf b hb;rw [<-hD];exact D3 e
 generalize hC:h3.objs.size=C at hns₁ hcl₁ hap₁ ⊢;have CD:C=D+1:=hC.symm.trans sz3;have upC: ∀b o,h3.get? b=some o->h₁.get? b=some o:=hkp₁;generalize hX:UY X scope C {s2 with heap:=h3} H2 (fp++ [D])=X';have iX:jp X scope X':=⟨C,_,_,_,hX.symm⟩;have hf: ∀b∈fp++ [D],Nn X pins H2 b:=λb hb=>(P6.mp hb).elim (f2 b) λz=>by rw [G5.mp z];exact fD
 have cl: ∀x c,(jY X scope C).lookup x=some c->X.env.cells.lookup x=some c\/C<c:=λx c e=>by
  rcases yG S e with ⟨_,z⟩|⟨_,z⟩
  ·exact .inl z
  ·exact .inr (X9 (hcl₁ x c z).2)
 have olt: ∀x c,X.env.cells.lookup x=some c->c<C:=λx c e=>by obtain⟨v,q⟩:=I3.cell x c e;rw [<-hC];exact q.lt
 have ltb: ∀b∈fp++ [D],b<C:=λb hb=>(P6.mp hb).elim (λz=>by have:=ltf b z;rw [CD];exact Y0 this) λz=>by rw [G5.mp z,CD];exact O3 _
 have okX:X'.Ok:=by
  subst hX;refine⟨I.ok.mod,S.kind,I.ok.glob,I.ok.blt,J3 hC,λx y c e1 e2=> ?_,λx hx=> ?_,λx c z e=> ?_,I.ok.hd,I.ok.frames,.inl rfl,λb hb=>⟨S4 (ltb b hb),λx c e=>(cl x c e).elim (λz=>(hf b hb).2.2.2.2.1 x c z) λz=>Q8 (E4 (ltb b hb) z)⟩,
   I3.bs,R1 I.ok.bsz I3.sz,λb o e hb=> ?_,λb hb z=> ?_,I3.stack,I3.stkFree⟩
  ·rcases yG S e1 with ⟨_,z1⟩|⟨_,z1⟩<;>rcases yG S e2 with ⟨_,z2⟩|⟨_,z2⟩
   ·exact I.ok.inj x y c z1 z2
   ·exact absurd (E4 (olt x c z1) (X9 (hcl₁ y c z2).2)) (M9 _)
   ·exact absurd (E4 (olt y c z2) (X9 (hcl₁ x c z1).2)) (M9 _)
   ·exact name_of_addr hap₁ z1 z2
  ·have own:scope.names.lookup x=some .cell-> ∃c,(jY X scope C).lookup x=some c:=λz=>by
    obtain⟨c,hc⟩:=Ys (sc:=scope) (n:=C+1) z;exact⟨c,by unfold jY;rw [ze,Wl,hc]⟩
   have shr:scope.names.lookup x=some .free-> ∃c,(jY X scope C).lookup x=some c:=λz=>by
    have fm:=wU z;obtain⟨c,hc⟩:=I.ok.has x (S.free _ fm rfl);exact⟨c,WQ S hc fm (by rw [z];decide)⟩
   rcases hx with hx|hx
   ·rcases zw (env:=X.env) hx with z|z
    ·exact own z
    ·exact shr z
   ·rcases zw (env:=X.env) hx with z|z<;>exact shr z
  ·have z':scope.names.lookup x=some .cell:=by
    have z2:(scope.names.lookup x==some NameKind.cell)=true:=z;simpa using z2
   rcases yG S e with ⟨n,_⟩|⟨_,m⟩
   ·exact absurd z' n
   ·show h3.objs.size<=c;rw [hC];exact D5 (X9 (hcl₁ x c m).2)
  ·rcases (hf b hb).2.2.2.1 with z|z
   ·exact I.ok.noex b o e z
   ·exact absurd (S6 (D3 e) (R1 I.ok.bsz z)) (M9 _)
  ·rcases R0.mp (I.stkSub b z) with q|q
   ·exact(hf b hb).2.1 q
   ·exact(hf b hb).2.2.1 q
 -- the block's first state
 have I4:Inv X' [(D,LCg.lst [])] (wI js σ) H2 {s2 with heap:=h₁}:=by
  subst hX;have hDC:D≠C:=by rw [CD];exact S4 (O3 _)
  refine⟨okX,rfl,I2.bare,Un.kept (λb u e=>upC b u e),⟨_,hns₁,λi x v e1 e2 e3=> ?_⟩,λx c e=> ?_,I3.hok.fresh (J3 hC),λx c e=>(cl x c e).elim (λz=>I2.freeC x c z) (λz=>I3.hok.fresh (by rw [<-hC] at z;exact D5 z)),λp hp=> ?_,I3.hok.kept upC,(Uy js σ).trans I2.len⟩
  ·have fr:scope.names.lookup x=some .free:=by
    rcases e3 with e3|e3|e3
    ·rcases zw (env:=X.env) e3 with z|z
     ·exact absurd e2 (we js σ i v (S.js i x e1 (.inl z)))
     ·exact z
    ·rcases zw (env:=X.env) e3 with z|z
     ·exact absurd e2 (we js σ i v (S.js i x e1 (.inr z)))
     ·exact z
    ·rcases zw (env:=X.env) e3 with z|z<;>exact z
   have fm:=wU fr;obtain⟨m,hm,hl⟩:=I2.loc;have vis:=S.free _ fm rfl;obtain⟨u,r,lk⟩:=hl i x v e1 (YQ js σ i v e2) (.inr vis);have kd:(relabel scope X.env).names.lookup x=some .cell\/(relabel scope X.env).names.lookup x=some .free:=by
    rcases e3 with e3|e3|e3
    ·rcases zw (env:=X.env) e3 with z|z
     ·rw [fr] at z;cases z
     ·exfalso;have z2:=e3
      -- a local's kind stays
      exact absurd e2 (we js σ i v (S.js i x e1 (.inl (by
       have q: ∀ (l:List (Str×NameKind)),(l.map λ(n,k)=>if (k==NameKind.free&&X.env.scope.kind== .function&&X.env.kindOf n==some .cell) then (n,NameKind.cell) else (n,k)).lookup x=some .local->l.lookup x=some .local:=by
        intro l
        induction l with
        |nil=>intro h;simp at h
        |cons p l ih=>
         obtain⟨n,k'⟩:=p;intro h;have h':List.lookup x ((if (k'==NameKind.free&&X.env.scope.kind== .function&&X.env.kindOf n==some .cell)=true then (n,NameKind.cell) else (n,k'))::(l.map λ(n,k)=>if (k==NameKind.free&&X.env.scope.kind== .function&&X.env.kindOf n==some .cell) then (n,NameKind.cell) else (n,k)))=some .local:=h;rw [O0]
         by_cases hc:(k'==NameKind.free&&X.env.scope.kind== .function&&X.env.kindOf n==some .cell)=true
         ·rw [if_pos hc,O0] at h';cases hx:x==n with
          |true=>rw [hx] at h';cases h'
          |false=>rw [hx] at h';exact ih h'
         ·rw [if_neg hc,O0] at h';cases hx:x==n with
          |true=>rw [hx] at h';exact h'
          |false=>rw [hx] at h';exact ih h'
       exact q _ z2))))
    ·exact .inl e3
    ·exact .inr e3
   rcases lk with ⟨k,_⟩|⟨_,c,hc,hcell⟩
   ·have k':X.env.scope.names.lookup x=some .local:=k;rcases vis with z|z<;>(rw [k'] at z;cases z)
   ·refine⟨u,r,.inr ⟨kd,c,WQ S hc fm (by rw [fr];decide),?_⟩⟩;obtain⟨o,ho,hd⟩:=hcell;exact⟨o,upC _ _ (up3 _ _ ho),hd⟩
  ·rcases yG S e with ⟨_,z⟩|⟨_,z⟩
   ·obtain⟨v,o,ho,hd⟩:=I2.cell x c z;exact⟨v,o,upC _ _ (up3 _ _ ho),hd⟩
   ·exact⟨none,(hcl₁ x c z).1⟩
  ·have hp':p∈ [(D,LCg.lst [])]:=hp;rcases G5.mp hp' with rfl
   refine⟨upC _ _ hD3,fD.1,hDC,λz=> ?_,λv z=>by cases z⟩;rcases R0.mp (I.stkSub D z) with q|q
   ·exact fD.2.1 q
   ·exact fD.2.2.1 q
 have st4:tn 0 h₁:=T.keep _ _ _ st2 λb _ o e=>upC _ _ (up3 _ _ e)
 have eA:X'.A=X.A:=by rw [<-hX];rfl
 have eP:X'.prog=X.prog:=by rw [<-hX];rfl
 have eW:X'.w=X.w:=by rw [<-hX];rfl
 have eK:X'.K=X.K:=by rw [<-hX];rfl
 have eC:X'.calm=true:=by rw [<-hX];exact hc
 have eV:X'.env=compEnvC scope (jY X scope C) C X.env:=by rw [<-hX];rfl
 have eE:X'.xe=λ_ _=>False:=by rw [<-hX];rfl
 -- what stays true of the iterator's objects
 have stat: ∀ {us:List Value} {H':Hp},(∀b∈fp,H' b=none)-> ∀b∈fp,Nn X' [(D,LCg.lst us)] H' b:=λ{us H'} hn b hb=>by
  have q:=hf b (T8 _ hb);subst hX;refine⟨hn b hb,S4 (ltb b (T8 _ hb)),λz=> ?_,.inl (T8 _ hb),λx c e=>(cl x c e).elim (λz=>q.2.2.2.2.1 x c z) (λz=>Q8 (E4 (ltb b (T8 _ hb)) z)),λp hp=> ?_⟩
  ·rcases R0.mp (I.stkSub b z) with r|r
   ·exact q.2.1 r
   ·exact q.2.2.1 r
  ·have hp':p∈ [(D,LCg.lst us)]:=hp;rcases G5.mp hp' with rfl
   exact Q8 (ltf b hb)
 have loop: ∀s₃:Shared,s₃= {s2 with heap:=h₁}->
  codeAny (model X.prog X.w) X.A (.compLoop (.ListComp elt (⟨tg,iter,ifs,0⟩::rest) scope pos) 0 (.ref it) (.ref D) (compEnvC scope (jY X scope C) C X.env))
   (compPost (model X.prog X.w) X.A X.xe use Qv (.ref D) C) s₃:=by
  rintro s₃ rfl;refine Rb (act:=act (compEnvC scope (jY X scope C) C X.env) (.ref D)) (λn s'=> ∃i ys us H',Vals ys us/\Inv X' [(D,LCg.lst us)] (wI js σ) H' s'/\tn i s'.heap/\(∀b∈fp,H' b=none)/\W i n ys H') (hturn _ _ _) ?_ m0
   ⟨0,[],[],H2,.nil,I4,st4,λb hb=>(f2 b hb).1,w0⟩
  rintro n s5 ⟨i,ys,us,H5,hv5,I5,st5,fr5,w5⟩;obtain⟨hz,tr⟩:=turn i n ys H5 w5;rcases tr with ⟨stop,qn⟩|⟨go,step⟩
  ·have q:=T.done X' eP eW eK eC i _ s5 _ H5 (λ_ _=>False) I5 (stat fr5) st5 stop;rw [eA] at q;refine S0 q (λr s6 ⟨hr,I6⟩=> ?_) λ_ _ z=>z
   subst hr;obtain⟨m6,hm6,_⟩:=I6.loc;rw [eV] at hm6;have zD:=I6.pin (D,LCg.lst us) (P8 _ D9);have HD:H5 D=none:=zD.2.1;have oD:s6.heap.get? D=some (LCg.lst us):=zD.1;have hDC:D≠C:=by rw [CD];exact S4 (O3 _)
   have HC:H5 C=none:=by have z:=I6.free;rw [eV] at z;exact z
   have B:=I6.base;have os6:s6.os=s2.os:=by have z:=I6.os;rw [<-hX] at z;exact z
   have Bu:Un (frs X.stack) (fp++ [D]) H2 H5 h3 s6.heap:=by rw [<-hX] at B;exact B
   have neC: ∀b o,h3.get? b=some o->b≠C:=λb o e=>by rw [<-hC];exact S4 (D3 e)
   refine fin D C (upd H5 D (.lst ys)) s6 m6 hm6 (λh' hs'=> ?_) (by rw [jq (Ne.symm hDC)];exact HC) ?_ ?_ ?_ (λx c e=>S4 (olt x c e)) ?_ (qn D HD)
   ·have hk5:HOk X.prog X.w H5 h':=λb u e=>by
     have z:=I6.hok b u e;rw [eP,eW] at z;refine z.stay (λc v hc q=>hs'.extBut c v ?_ q) (λ_ q=>q) λ_ _ q=>q
     rcases hc with rfl|hc
     ·exact jm e HC
     ·exact jm hc HC
    refine I3.call' (ch:=fp++ [D]) os6 ⟨λb o e n hb hx=> ?_,λb o e n hb hx=> ?_,λb o e n hx=> ?_,λb o e hx=> ?_,λb xs e=> ?_,λb o u e=> ?_,λb ps e=> ?_⟩ (hk5.track HD ?_) I6.bare λb hb=> ?_
    ·exact hs'.extBut b o (neC b o e) (Bu.keep b o e n hb hx)
    ·obtain⟨sl,q⟩:=Bu.slot b o e n hb hx;exact⟨sl,hs'.extBut b _ (neC b o e) q⟩
    ·rw [jq λz=>hx (by rw [z];exact P8 _ D9)];exact Bu.free b o e n hx
    ·obtain⟨o',q⟩:=Bu.there b o e hx;exact⟨o',hs'.extBut b _ (neC b o e) q⟩
    ·have z:=Bu.tups b xs e;rw [jq (jm z HD)];exact z
    ·have z:=Bu.frzs b o u e;rw [jq (jm z HD)];exact z
    ·obtain⟨more,z⟩:=Bu.tbls b ps e;exact⟨more,by rw [jq (jm z HD)];exact z⟩
    ·exact⟨hz,us,us.length,hv5,hs'.extBut D _ hDC oD⟩
    ·have q:=hf b hb;exact⟨q.2.2.2.1,q.2.1,q.2.2.2.2.1,q.2.2.2.2.2⟩
   ·rw [<-hC];exact Q8 I3.lt
   ·exact I3.nofs (J3 hC)
   ·rw [<-hC];exact I3.sz
   ·intro p hp;have:=(I3.pin p hp).1;rw [<-hC];exact S4 (D3 this)
  ·have q:=T.item X' eP eW eK eC i _ s5 _ H5 (λ_ _=>False) I5 (stat fr5) st5 go;rw [eA] at q;refine S0 q (λr s6 ⟨u,hr,h6⟩=> ?_) λ_ _ z=>z
   subst hr;refine S0 h6 (λ_ s7 ⟨x,H7,I7,r7,y7,st7,fr7⟩=> ?_) λ_ _ z=>z
   have I7':=I7.pinned (stat fr7) (T.obj _ _ st7);have q7:=hg X' iX _ s7 _ H7 x u _ I7' r7 (step x H7 y7);rw [eP,eW,eA,eV,eE] at q7;refine S0 q7 (λ_ s8 ⟨σ8,H8,I8,ag8,q8⟩=> ?_) λ_ _ z=>z
   have q9:=ht X' iX _ s8 σ8 H8 _ I8 q8;rw [eP,eW,eA,eV,eE] at q9;refine S0 q9 (λok s9 ⟨H9,I9,q9⟩=> ?_) λ_ _ z=>z
   have keepT: ∀ {σ':St} {H':Hp} {s':Shared} {us:List Value},Inv X' ([(D,LCg.lst us)]++Jw fp s7.heap) σ' H' s'->tn (i+1) s'.heap/\ ∀b∈fp,H' b=none:=λ{σ' H' s' us} I'=>
    ⟨T.keep _ _ _ st7 λb hb o e=>(I'.pin (b,o) (P8 _ (P8 _ (wT hb e)))).1,λb hb=>by
     obtain⟨o,e,_⟩:=T.obj _ _ st7 b hb;exact(I'.pin (b,o) (P8 _ (P8 _ (wT hb e)))).2.1⟩
   cases ok with
   |false=>
    have q9: ∃m',m'<n/\W (i+1) m' ys H9:=q9;obtain⟨m',hm,w9⟩:=q9;obtain⟨t9,f9⟩:=keepT I9;exact⟨m',hm,i+1,ys,us,H9,hv5,(I9.unpinned).weak ag8.1.symm ag8.2,t9,f9,w9⟩
   |true=>
    have q9:tm σ8 H9 ys λys' H4=> ∃m',m'<n/\W (i+1) m' ys' H4:=q9
    have DX:D∈X'.ex:=by rw [<-hX];exact P8 _ D9
    have pD: ∀p∈X'.pn++Jw fp s7.heap,p.1≠D:=λp hp=>by
     have hp':p∈Jw fp s7.heap:=by rw [<-hX] at hp;simpa [UY] using hp
     exact S4 (ltf _ (YF hp').1)
    have cD: ∀x c,X'.env.cells.lookup x=some c->c≠D:=λx c e=>by
     rw [eV] at e;exact(cl x c e).elim (λz=>fD.2.2.2.2.1 x c z) λz=>Q8 (E4 (by rw [CD];exact O3 _) z)
    have q10:=he X' iX D _ s9 σ8 H9 ys us _ I9 hv5 hz DX cD pD q9;rw [eP,eW,eA,eV] at q10;show wpAny _ _ (act _ _) _ _ s9;refine S0 q10 (λ_ s10 ⟨ys',us',H10,hv10,I10,m',hm,w10⟩=> ?_) λ_ _ z=>z
    obtain⟨t10,f10⟩:=keepT I10;exact⟨m',hm,i+1,ys',us',H10,hv10,(I10.unpinned).weak ag8.1.symm ag8.2,t10,f10,w10⟩
 exact codeAny_compStart_list (loop _ rfl) (T.self X.A 0 _ _ _ st4 (loop _ rfl))
theorem HB (hc:X.calm=true)(S:BlockOk X scope js)(hi:PI X tg iter wi)
 (hg: ∀X',jp X scope X'->PG X' tg g)(ht: ∀X',jp X scope X'->PTs X' ifs tt)(he: ∀X',jp X scope X'->PE X' elt te)
 (hs: ∀x,foldedSetIterable iter X.env x=pure x:=by intro _;rfl):PE X (.ListComp elt [⟨tg,iter,ifs,0⟩] scope pos) (tLC js wi g tt te):=by
 intro pins s σ H Q I h;rw [eval_ListComp];exact NW (use:=none) hc S hi rfl hg ht (UA elt) (λ_ _ _=>rfl) (λX' hX D=>UZ (by obtain⟨_,_,_,_,rfl⟩:=hX;rfl) (he X' hX)) hs I h
  λD C H' s' m hn hk _ _ _ _ _ _ q=>⟨m,hn,λh' hs'=>⟨.ref D,H',hk h' hs',rfl,q⟩⟩
theorem NX {e:Expr}{rest:List Comprehension}{pos' spos:Pos}{g':TG}{tm:TM}(hc:X.calm=true)(S:BlockOk X scope js)(hi:PI X tg iter wi)
 (he0:e= .ListComp elt (⟨tg,iter,ifs,0⟩::rest) scope pos)(hg: ∀X',jp X scope X'->PG X' tg g)(ht: ∀X',jp X scope X'->PTs X' ifs tt)
 (act:Env->Value->Sem Unit)(hturn: ∀it acc env,compTurn e 0 it acc env=Uz iter tg ifs it env (act env acc) (.compLoop e 0 it acc env))(he: ∀X',jp X scope X'-> ∀D,kH X' D (act X'.env (.ref D)) tm)
 (hg':PG X (.Name x pos') g')(hsw:swapsWith e (some (.Name x pos')) spos.line X.env=pure true)
 (hs: ∀x,foldedSetIterable iter X.env x=pure x):PS X (.Assign [.Name x pos'] e spos) (Ak (kI js wi g tt tm) g'):=by
 intro pins s σ H Dn I h;rw [exec_Assign_Name_used _ _ _ _ hsw];refine wpAny_bind (V8 (wpAny_bind ?_));subst he0;rw [arm_evalThenUse_ListComp];show wpAny _ X.A (do let _ <-comprehension (.ListComp elt (⟨tg,iter,ifs,0⟩::rest) scope pos) scope X.env _ (newList []) false (eval iter X.env) (some (assign (.Name x pos') X.env))) _ _ s;refine wpAny_bind (S0 (NW (use:=some (assign (.Name x pos') X.env)) (Qv:=λ_ s'=>SP X pins Dn .next s') hc S hi rfl hg ht act hturn he hs I h ?_) (λ_ s' hq=>P0 (P0 hq)) λ_ _ e=>e);intro D C H' s' m hn hk HC nL nf sz ncell npin q;show wpAny _ X.A (assign (.Name x pos') X.env (.ref D)) _ _ s';obtain⟨o,es,ep,ho,hd,hr⟩:=id hn;have I1:Inv X pins σ H' s':=hk s'.heap (Heap.SameBut.refl ..);have I2:Inv X (pins++ [(C,o)]) σ H' s':=I1.pins_of λp hp=>by
  rcases P6.mp hp with z|z
  ·exact I1.pin p (P8 _ z)
  ·rcases G5.mp z with rfl
   exact⟨ho,HC,nL,nf,λv z=>by rw [hd] at z;cases z⟩
 refine S0 (hg' _ s' σ H' (.ref D) (.ref D) _ I2 rfl q) (λ_ s3 ⟨σ3,H3,I3,q3⟩=> ?_) λ_ _ z=>z
 have pC:=I3.pin (C,o) (P8 _ (P8 _ D9));refine⟨m,hn.at' λo' e'=> ?_,λh' hs'=> ?_⟩
 ·rw [ho] at e';cases e';exact pC.1
 ·exact⟨σ3,H3,(I3.unpinned).turned (t':=s3.toks) (it:=C) (λb o hb e=>hs'.extBut b o hb e) pC.2.1 nL (.inr sz) ncell npin,q3⟩
theorem Lf {pos' spos:Pos}{g':TG}(hc:X.calm=true)(S:BlockOk X scope js)(hi:PI X tg iter wi)
 (hg: ∀X',jp X scope X'->PG X' tg g)(ht: ∀X',jp X scope X'->PTs X' ifs tt)(he: ∀X',jp X scope X'->PE X' elt te)
 (hg':PG X (.Name x pos') g')(hsw:swapsWith (.ListComp elt [⟨tg,iter,ifs,0⟩] scope pos) (some (.Name x pos')) spos.line X.env=pure true)
 (hs: ∀x,foldedSetIterable iter X.env x=pure x:=by intro _;rfl):PS X (.Assign [.Name x pos'] (.ListComp elt [⟨tg,iter,ifs,0⟩] scope pos) spos) (Ak (tLC js wi g tt te) g'):=
 NX hc S hi rfl hg ht (UA elt) (λ_ _ _=>rfl) (λX' hX D=>UZ (by obtain⟨_,_,_,_,rfl⟩:=hX;rfl) (he X' hX)) hg' hsw hs
def Md (e iter:Expr)(env:Env)(acc:Value):Sem Unit:=do
 let x <-eval iter env
 standAt iter.pos
 let x <-foldedSetIterable iter env x
 let _ <-runOwn (.compStart e 1 (<-holding [x] (pyIter x)) acc env) env
def mIn (wi : TI) (g : TG) (tt : TT) (tm : TM) : TM := fun σ H ys Q => wi σ H fun J H1 =>
  ∃ W : Nat → Nat → List V → Hp → Prop, (∃ m, W 0 m ys H1) ∧ ∀ i m ys H, W i m ys H → ys.length ≤ sizeLine ∧
    ((J.stop i H ∧ Q ys H) ∨
     (J.go i H ∧ ∀ x H', J.yld i H x H' → g x σ H' fun σ2 H2 => Agree σ σ2 ∧ tt σ2 H2 fun b H3 =>
        if b = true then tm σ2 H3 ys fun ys' H4 => ∃ m', m' < m ∧ W (i + 1) m' ys' H4 else ∃ m', m' < m ∧ W (i + 1) m' ys H3))
theorem ZH {A:Around}{R:Result->Shared->Prop}{g0 g1:Comprehension}{it acc:Value}(ha:g1.is_async=0)
 (h0:codeAny (model prog w) A (.compLoop (.ListComp elt [g0,g1] scope pos) 1 it acc env) R s)
 (h:wpAny (model prog w) A (pyIter it) (λit' s'=>codeAny (model prog w) A (.compLoop (.ListComp elt [g0,g1] scope pos) 1 it' acc env) R s')
  (notedBy (model prog w) A env λx s'=>R (.error x) s') s):
 codeAny (model prog w) A (.compStart (.ListComp elt [g0,g1] scope pos) 1 it acc env) R s:=by
 obtain⟨tg,iter,ifs,as⟩:=g1;cases (show as=0 from ha);refine codeAny_of_tree (wpAny_notedAt ?_);obtain⟨hp,g,d,tk,os⟩:=s;unfold compStart
 wp_walk
 refine wpAny_askSetting ?_;split
 ·exact P0 ⟨rfl,h0⟩
 ·exact wpAny_bind (X7 (wpAny_bind (V8 (wpAny_bind (S0 h (λ_ _ on=>P0 ⟨rfl,on⟩) λ_ _ x=>x)))))
theorem NY {D:Addr}{g0:Comprehension}(hc:X.calm=true)(hx:X.xe=λ_ _=>False)
 (hi:PI X tg iter wi)(hg:PG X tg g)(ht:PTs X ifs tt)(he:PE X elt te)(hs: ∀x,foldedSetIterable iter X.env x=pure x):
 kH X D (Md (.ListComp elt [g0,⟨tg,iter,ifs,0⟩] scope pos) iter X.env (.ref D)) (mIn wi g tt (HA te)):=by
 intro pins s σ H ys us Q I hv hz DX cD pD h;have q:=hi _ s σ H _ I h;rw [hx] at q;unfold Md;refine wpAny_bind (S0 q (λv s1 h1=>wpAny_bind (V8 (wpAny_bind (wpAny_of_eq (hs v) (wpAny_bind (C0 (S0 h1 (λitv s2 h2=> ?_) λ_ _ z=>z))))))) λ_ _ z=>z);obtain⟨it,fp,tn,J,H2,e,I2,T,st2,f2,W,⟨m0,w0⟩,turn⟩:=h2;subst e;refine wpAny_bind (wpAny_runOwn ?_);have neD: ∀b∈fp,b≠D:=λb hb=>by
  have z:=(f2 b hb).2.2.2.2.2 (D,LCg.lst us) (P8 _ (T8 _ D9));exact Ne.symm z
 have stat: ∀ {us':List Value} {H':Hp},(∀b∈fp,H' b=none)-> ∀b∈fp,Nn X ([(D,LCg.lst us')]++pins) H' b:=λ{us' H'} hn b hb=>by
  have q:=f2 b hb;refine⟨hn b hb,q.2.1,q.2.2.1,q.2.2.2.1,q.2.2.2.2.1,λp hp=> ?_⟩;rcases P6.mp hp with z|z
  ·exact q.2.2.2.2.2 p (T8 _ z)
  ·rcases P6.mp z with z|z
   ·rcases G5.mp z with rfl
    exact Ne.symm (neD b hb)
   ·exact q.2.2.2.2.2 p (P8 _ (P8 _ z))
 have loop:codeAny (model X.prog X.w) X.A (.compLoop (.ListComp elt [g0,⟨tg,iter,ifs,0⟩] scope pos) 1 (.ref it) (.ref D) X.env)
  (λr s'=>match r with| .ok f=>wpAny (model X.prog X.w) X.A (pure ()) (λ_ s'=> ∃ys' us' H',Vals ys' us'/\Inv X ([(D,LCg.lst us')]++pins) σ H' s'/\Q ys' H') (λ_ _=>False) s'| .error e=>cameBackBy (model X.prog X.w) X.A X.env (λ_ _=>False) e s') s2:=by
  refine Rb (act:=UA elt X.env (.ref D)) (λn s'=> ∃i ys us H',Vals ys us/\Inv X ([(D,LCg.lst us)]++pins) σ H' s'/\tn i s'.heap/\(∀b∈fp,H' b=none)/\W i n ys H') rfl ?_ m0
   ⟨0,ys,us,H2,hv,I2,st2,λb hb=>(f2 b hb).1,w0⟩
  rintro n s5 ⟨i,ys,us,H5,hv5,I5,st5,fr5,w5⟩;obtain⟨hz,tr⟩:=turn i n ys H5 w5;rcases tr with ⟨stop,qn⟩|⟨go,step⟩
  ·refine S0 (T.done X rfl rfl rfl hc i _ s5 _ H5 (λ_ _=>False) I5 (stat fr5) st5 stop) (λr s6 ⟨hr,I6⟩=> ?_) λ_ _ z=>z
   subst hr;exact P0 ⟨ys,us,H5,hv5,I6,qn⟩
  ·refine S0 (T.item X rfl rfl rfl hc i _ s5 _ H5 (λ_ _=>False) I5 (stat fr5) st5 go) (λr s6 ⟨u,hr,h6⟩=> ?_) λ_ _ z=>z
   subst hr;refine S0 h6 (λ_ s7 ⟨x,H7,I7,r7,y7,st7,fr7⟩=> ?_) λ_ _ z=>z
   have I7':=I7.pinned (stat fr7) (T.obj _ _ st7);have q7:=hg _ s7 _ H7 x u _ I7' r7 (step x H7 y7);rw [hx] at q7;refine S0 q7 (λ_ s8 ⟨σ8,H8,I8,ag8,q8⟩=> ?_) λ_ _ z=>z
   have q9:=ht _ s8 σ8 H8 _ I8 q8;rw [hx] at q9;refine S0 q9 (λok s9 ⟨H9,I9,q9⟩=> ?_) λ_ _ z=>z
   have keepT: ∀ {σ':St} {H':Hp} {s':Shared} {us:List Value},Inv X (([(D,LCg.lst us)]++pins)++Jw fp s7.heap) σ' H' s'->tn (i+1) s'.heap/\ ∀b∈fp,H' b=none:=λ{σ' H' s' us} I'=>
    ⟨T.keep _ _ _ st7 λb hb o e=>(I'.pin (b,o) (P8 _ (P8 _ (wT hb e)))).1,λb hb=>by
     obtain⟨o,e,_⟩:=T.obj _ _ st7 b hb;exact(I'.pin (b,o) (P8 _ (P8 _ (wT hb e)))).2.1⟩
   cases ok with
   |false=>
    have q9: ∃m',m'<n/\W (i+1) m' ys H9:=q9;obtain⟨m',hm,w9⟩:=q9;obtain⟨t9,f9⟩:=keepT I9;exact⟨m',hm,i+1,ys,us,H9,hv5,(I9.unpinned).weak ag8.1.symm ag8.2,t9,f9,w9⟩
   |true=>
    have q9:HA te σ8 H9 ys λys' H4=> ∃m',m'<n/\W (i+1) m' ys' H4:=q9
    have pD': ∀p∈X.pn++(pins++Jw fp s7.heap),p.1≠D:=λp hp=>by
     rcases P6.mp hp with z|z
     ·exact pD p (T8 _ z)
     ·rcases P6.mp z with z|z
      ·exact pD p (P8 _ z)
      ·exact neD _ (YF z).1
    rw [P2] at I9;have q10:=UZ (D:=D) hx he (pins++Jw fp s7.heap) s9 σ8 H9 ys us _ I9 hv5 hz DX cD pD' q9;show wpAny _ _ (UA _ _ _) _ _ s9;refine S0 q10 (λ_ s10 ⟨ys',us',H10,hv10,I10,m',hm,w10⟩=> ?_) λ_ _ z=>z
    rw [<-P2] at I10;obtain⟨t10,f10⟩:=keepT I10;exact⟨m',hm,i+1,ys',us',H10,hv10,(I10.unpinned).weak ag8.1.symm ag8.2,t10,f10,w10⟩
 exact ZH rfl loop (T.self X.A 0 _ _ _ st2 loop)
theorem NZ (elt iter tg iter' tg':Expr)(ifs ifs':List Expr)(scope:Scope)(pos:Pos)(it acc:Value)(env:Env):
 compTurn (.ListComp elt [⟨tg,iter,ifs,0⟩,⟨tg',iter',ifs',0⟩] scope pos) 0 it acc env=
  Uz iter tg ifs it env (Md (.ListComp elt [⟨tg,iter,ifs,0⟩,⟨tg',iter',ifs',0⟩] scope pos) iter' env acc) (.compLoop (.ListComp elt [⟨tg,iter,ifs,0⟩,⟨tg',iter',ifs',0⟩] scope pos) 0 it acc env):=by
 unfold Uz Md;simp only [bind_assoc,pure_bind];rfl
def kJ (js:List Nat)(wi:TI)(g:TG)(tt:TT)(wi':TI)(g':TG)(tt':TT)(te:TE):TE:=kI js wi g tt (mIn wi' g' tt' (HA te))
theorem HE {iter' tg':Expr}{ifs':List Expr}{wi':TI}{g':TG}{tt':TT}(hc:X.calm=true)(S:BlockOk X scope js)(hi:PI X tg iter wi)
 (hg: ∀X',jp X scope X'->PG X' tg g)(ht: ∀X',jp X scope X'->PTs X' ifs tt)(hi': ∀X',jp X scope X'->PI X' tg' iter' wi')
 (hg': ∀X',jp X scope X'->PG X' tg' g')(ht': ∀X',jp X scope X'->PTs X' ifs' tt')(he: ∀X',jp X scope X'->PE X' elt te)
 (hs: ∀x,foldedSetIterable iter X.env x=pure x:=by intro _;rfl)(hs': ∀env x,foldedSetIterable iter' env x=pure x:=by intro _ _;rfl):
 PE X (.ListComp elt [⟨tg,iter,ifs,0⟩,⟨tg',iter',ifs',0⟩] scope pos) (kJ js wi g tt wi' g' tt' te):=by
 intro pins s σ H Q I h;rw [eval_ListComp];exact NW (use:=none) hc S hi rfl hg ht (λenv acc=>Md (.ListComp elt [⟨tg,iter,ifs,0⟩,⟨tg',iter',ifs',0⟩] scope pos) iter' env acc) (λ_ _ _=>NZ ..)
  (λX' hX D=>NY (by obtain⟨_,_,_,_,rfl⟩:=hX;exact hc) (by obtain⟨_,_,_,_,rfl⟩:=hX;rfl) (hi' X' hX) (hg' X' hX) (ht' X' hX) (he X' hX) (hs' _)) hs I h
  λD C H' s' m hn hk _ _ _ _ _ _ q=>⟨m,hn,λh' hs'=>⟨.ref D,H',hk h' hs',rfl,q⟩⟩
inductive D where
 |non|bl (b:Bool)|int (i:Int)|str (x:Str)|tup (ds:List D)|lst (a:Addr)|dic (x:Str) (i:Int)|dct (a:Addr)|scr (ns:List Int)|exc (C:Addr)|fn (a:Addr)
def Scr (K:PySem.W.Frag)(H:Hp)(a:Addr)(ns:List Int):Prop:=
 (∃o,H a=some (.frz o (.lst (ns.map V.int))))\/
  ∃ (o:Obj) (its:Array Value) (n:Nat),K.lookup a=some o/\o.cls= .type "list" /\o.dict=none/\o.data= .seq its n/\its.size<=sizeLine/\Vals (ns.map V.int) its.toList
theorem Scr.sq {K:PySem.W.Frag}{ns:List Int}(h:Scr K H a ns):SqL K H a (ns.map V.int):=h.elim (λz=> .inl (.inr z)) .inr
mutual
def RelD (K:PySem.W.Frag)(H:Hp):D->V->Prop
 | .non,v=>v= .non
 | .bl b,v=>v= .bl b
 | .int i,v=>v= .int i
 | .str x,v=>v= .str x
 | .tup ds,v=> ∃a vs,v= .ref a/\H a=some (.tup vs)/\RelDs K H ds vs
 | .lst a,v=>v= .ref a/\ ∃vs,H a=some (.lst vs)
 | .dic x i,v=> ∃a,v= .ref a/\H a=some (.dK [(Sum.inr x,V.int i)])
 | .dct a,v=>v= .ref a
 | .scr ns,v=> ∃a,v= .ref a/\Scr K H a ns
 | .exc C,v=> ∃x o vs,v= .ref x/\H x=some (.frz o (.own 0))/\o.cls= .ref C/\o.data= .fields vs
 | .fn a,v=>v= .ref a/\PySem.W.keepIn K (.ref a)=true
def RelDs (K:PySem.W.Frag)(H:Hp):List D->List V->Prop
 | [],vs=>vs= []
 |d::ds,vs=> ∃v r,vs=v::r/\RelD K H d v/\RelDs K H ds r
end
structure Kept (H H':Hp):Prop where
 tup: ∀a xs,H a=some (.tup xs)->H' a=some (.tup xs)
 lst: ∀a xs,H a=some (.lst xs)-> ∃ys,H' a=some (.lst ys)
 dic: ∀a x i,H a=some (.dK [(Sum.inr x,V.int i)])->H' a=some (.dK [(Sum.inr x,V.int i)])
 frz: ∀a o u,H a=some (.frz o u)->H' a=some (.frz o u)
theorem Kept.refl (H:Hp):Kept H H:=⟨λ_ _ h=>h,λ_ xs h=>⟨xs,h⟩,λ_ _ _ h=>h,λ_ _ _ h=>h⟩
theorem Kept.trans {A B C:Hp}(x:Kept A B)(y:Kept B C):Kept A C:=
 ⟨λa xs h=>y.tup a xs (x.tup a xs h),λa xs h=>let ⟨_,e⟩:=x.lst a xs h;y.lst a _ e,λa k i h=>y.dic a k i (x.dic a k i h),λa o u h=>y.frz a o u (x.frz a o u h)⟩
theorem Kept.new {H:Hp}{p:Addr}{o:HO}(h:H p=none):Kept H (upd H p o):=
 ⟨λa xs e=>by rw [jq (jm e h)];exact e,λa xs e=>⟨xs,by rw [jq (jm e h)];exact e⟩,λa k i e=>by rw [jq (jm e h)];exact e,λa o u e=>by rw [jq (jm e h)];exact e⟩
theorem Kept.put {H:Hp}{p:Addr}{xs ys:List V}(h:H p=some (.lst xs)):Kept H (upd H p (.lst ys)):=
 ⟨λa zs e=>by rw [jq (RU e h (by intro z;cases z))];exact e,λa zs e=>by
  by_cases q:a=p
  ·subst q;exact⟨ys,jz⟩
  ·exact⟨zs,by rw [jq q];exact e⟩,
  λa k i e=>by rw [jq (RU e h (by intro z;cases z))];exact e,λa o u e=>by rw [jq (RU e h (by intro z;cases z))];exact e⟩
def DObj (o:HO):Prop:=(∃kvs:List (Int×V),o= .dK (kvs.map λp=>((Sum.inl p.1:Key),p.2)))\/ ∃φ,o= .ext φ
theorem DObj.no {o:HO}(d:DObj o):(∀xs,o≠ .tup xs)/\(∀xs,o≠ .lst xs)/\(∀x i,o≠ .dK [(Sum.inr x,V.int i)])/\(∀p u,o≠ .frz p u)/\ ∀ps,o≠ .tbl ps:=by
 rcases d with ⟨kvs,rfl⟩|⟨φ,rfl⟩
 ·refine⟨λ_ z=>(nomatch z),λ_ z=>(nomatch z),λx i z=> ?_,λ_ _ z=>(nomatch z),λ_ z=>(nomatch z)⟩;injection z with z
  cases kvs with
  |nil=>cases z
  |cons p r=>injection z with z _;injection z with z _;cases z
 ·exact⟨λ_ z=>(nomatch z),λ_ z=>(nomatch z),λ_ _ z=>(nomatch z),λ_ _ z=>(nomatch z),λ_ z=>(nomatch z)⟩
theorem Kept.putD {H:Hp}{p:Addr}{o o':HO}(h:H p=some o)(d:DObj o):Kept H (upd H p o'):=by
 obtain⟨d1,d2,d3,d4,_⟩:=d.no;have ne: ∀ {a:Addr} {u:HO},H a=some u->o≠u->a≠p:=λe n z=>by subst z;rw [h] at e;injection e with e;exact n e
 exact⟨λa xs e=>by rw [jq (ne e (d1 xs))];exact e,λa xs e=>⟨xs,by rw [jq (ne e (d2 xs))];exact e⟩,λa x i e=>by rw [jq (ne e (d3 x i))];exact e,λa q u e=>by rw [jq (ne e (d4 q u))];exact e⟩
mutual
theorem RelD.mono {K:PySem.W.Frag}{H H':Hp}(k:Kept H H'): ∀ {d:D} {v:V},RelD K H d v->RelD K H' d v
 | .non,_,h=>h
 | .bl _,_,h=>h
 | .int _,_,h=>h
 | .str _,_,h=>h
 | .tup ds,v,h=>by
  obtain⟨a,vs,e,h1,h2⟩:=(show ∃a vs,v= .ref a/\H a=some (.tup vs)/\RelDs K H ds vs from h);exact⟨a,vs,e,k.tup _ _ h1,RelDs.mono k h2⟩
 | .lst a,v,h=>by
  obtain⟨e,vs,h1⟩:=(show v= .ref a/\ ∃vs,H a=some (.lst vs) from h);exact⟨e,k.lst _ _ h1⟩
 | .dic x i,v,h=>by
  obtain⟨a,e,h1⟩:=(show ∃a,v= .ref a/\H a=some (.dK [(Sum.inr x,V.int i)]) from h);exact⟨a,e,k.dic _ _ _ h1⟩
 | .dct a,v,h=>h
 | .scr ns,v,h=>by
  obtain⟨a,e,h1⟩:=(show ∃a,v= .ref a/\Scr K H a ns from h);exact⟨a,e,h1.elim (λ⟨o,z⟩=> .inl ⟨o,k.frz _ _ _ z⟩) .inr⟩
 | .exc C,v,h=>by
  obtain⟨x,o,vs,e,h1,r⟩:=(show ∃x o vs,v= .ref x/\H x=some (.frz o (.own 0))/\o.cls= .ref C/\o.data= .fields vs from h);exact⟨x,o,vs,e,k.frz _ _ _ h1,r⟩
 | .fn a,v,h=>h
theorem RelDs.mono {K:PySem.W.Frag}{H H':Hp}(k:Kept H H'): ∀ {ds:List D} {vs:List V},RelDs K H ds vs->RelDs K H' ds vs
 | [],_,h=>h
 |d::ds,vs,h=>by
  obtain⟨v,r,e,h1,h2⟩:=(show ∃v r,vs=v::r/\RelD K H d v/\RelDs K H ds r from h);exact⟨v,r,e,RelD.mono k h1,RelDs.mono k h2⟩
end
section
variable {K:PySem.W.Frag}{H:Hp}
theorem RelDs.nil:RelDs K H [] []:=rfl
theorem RelDs.cons {d:D}{v:V}{ds:List D}{vs:List V}(h:RelD K H d v)(t:RelDs K H ds vs):RelDs K H (d::ds) (v::vs):=⟨v,vs,rfl,h,t⟩
theorem RelDs.length: ∀ {ds:List D} {vs:List V},RelDs K H ds vs->ds.length=vs.length
 | [],_,h=>by cases (show _= [] from h);rfl
 |d::ds,vs,h=>by
  obtain⟨v,r,e,_,h2⟩:=(show ∃v r,vs=v::r/\RelD K H d v/\RelDs K H ds r from h);subst e;simp [RelDs.length h2]
theorem RelDs.append: ∀ {ds es:List D} {vs us:List V},RelDs K H ds vs->RelDs K H es us->RelDs K H (ds++es) (vs++us)
 | [],_,_,_,h,g=>by cases (show _= [] from h);exact g
 |d::ds,es,vs,us,h,g=>by
  obtain⟨v,r,e,h1,h2⟩:=(show ∃v r,vs=v::r/\RelD K H d v/\RelDs K H ds r from h);subst e;exact .cons h1 (RelDs.append h2 g)
theorem RelDs.get: ∀ {ds:List D} {vs:List V} {i:Nat} {d:D},RelDs K H ds vs->ds[i]? =some d-> ∃v,vs[i]? =some v/\RelD K H d v
 |d'::ds,vs,i,d,h,e=>by
  obtain⟨v,r,q,h1,h2⟩:=(show ∃v r,vs=v::r/\RelD K H d' v/\RelDs K H ds r from h);subst q;cases i with
  |zero=>simp at e;subst e;exact⟨v,rfl,h1⟩
  |succ i=>
   obtain⟨u,q1,q2⟩:=RelDs.get h2 (i:=i) (d:=d) (by simpa using e);exact⟨u,by simpa using q1,q2⟩
theorem RelDs.take (n:Nat): ∀ {ds:List D} {vs:List V},RelDs K H ds vs->RelDs K H (ds.take n) (vs.take n):=by
 induction n with
 |zero=>intro ds vs _;exact(rfl:RelDs K H [] [])
 |succ n ih=>
  intro ds vs h;cases ds with
  |nil=>cases (show vs= [] from h);exact .nil
  |cons d ds=>
   obtain⟨v,r,e,h1,h2⟩:=(show ∃v r,vs=v::r/\RelD K H d v/\RelDs K H ds r from h);subst e;exact .cons h1 (ih h2)
theorem RelDs.drop (n:Nat): ∀ {ds:List D} {vs:List V},RelDs K H ds vs->RelDs K H (ds.drop n) (vs.drop n):=by
 induction n with
 |zero=>intro ds vs h;exact h
 |succ n ih=>
  intro ds vs h;cases ds with
  |nil=>cases (show vs= [] from h);exact .nil
  |cons d ds=>
   obtain⟨v,r,e,h1,h2⟩:=(show ∃v r,vs=v::r/\RelD K H d v/\RelDs K H ds r from h);subst e;exact ih h2
theorem RelDs.set {d:D}{v:V}(q:RelD K H d v): ∀ {ds:List D} {vs:List V} (i:Nat),RelDs K H ds vs->RelDs K H (ds.set i d) (vs.set i v)
 | [],_,_,h=>by cases (show _= [] from h);exact .nil
 |e::ds,vs,i,h=>by
  obtain⟨u,r,z,h1,h2⟩:=(show ∃u r,vs=u::r/\RelD K H e u/\RelDs K H ds r from h);subst z;cases i with
  |zero=>exact .cons q h2
  |succ i=>exact .cons h1 (RelDs.set q i h2)
theorem yH: ∀ns:List Int,RelDs K H (ns.map D.int) (ns.map V.int)
 | []=> .nil
 |n::ns=> .cons rfl (yH ns)
end
inductive DC where
 |ik (kv:List (Int×D))
 |tk (kv:List (List (List Int)×D))
structure HD where
 ls:Addr->Option (List D)
 dc:Addr->Option DC
instance:CoeFun HD λ_=>Addr->Option (List D):=⟨HD.ls⟩
def wq (h:HD)(a:Addr)(ds:List D):HD:=⟨λb=>if b=a then some ds else h b,h.dc⟩
def Xa (h:HD)(a:Addr):HD:=⟨λb=>if b=a then none else h b,h.dc⟩
theorem jd {h:HD}{a:Addr}{ds:List D}:wq h a ds a=some ds:=if_pos rfl
theorem wZ {h:HD}{a b:Addr}{ds:List D}(e:b≠a):wq h a ds b=h b:=if_neg e
theorem wf {h:HD}{a:Addr}{ds:List D}(e:h a=none):Xa (wq h a ds) a=h:=by
 obtain⟨l,d⟩:=h;refine congrArg (HD.mk · d) ?_
 funext b
 show (if b=a then none else if b=a then some ds else l b)=l b
 by_cases q:b=a
 ·subst q;rw [if_pos rfl];exact e.symm
 ·rw [if_neg q,if_neg q]
def LN:List Str:= ["law","_law_right","_law_words","_law_other_words","_law_many_right","_law_all","_law_told_row","_law_all_right","_law_desk_right","_law_signs_right","_law_lists_right","_law_text_right"]
def TabK (K:PySem.W.Frag)(P:Addr):Prop:= ∃x∈LN,∃c,PySem.W.tabIn K x=some (c,P)
def CodesOk (H:Hp)(ps:Array Value):Prop:=TriplesOk ps.toList/\ ∀pos cv,codeAmong pos ps.toList=some cv-> ∃ (c:Addr) (o:Obj) (vs:Array Value) (q:Str) (t:Tok),cv= .ref c/\H c=some (.frz o (.own 0))/\o.data= .fields vs/\vs[1]? =some (.str q t)
def CTabs (K:PySem.W.Frag)(H:Hp):Prop:= ∀P,TabK K P-> ∃ps,H P=some (.tbl ps)/\CodesOk H ps
theorem CodesOk.mono {H H':Hp}{ps:Array Value}(k: ∀a o u,H a=some (.frz o u)->H' a=some (.frz o u))(c:CodesOk H ps):CodesOk H' ps:=
 ⟨c.1,λpos cv e=>let ⟨c',o,vs,q,t,e1,e2,r⟩:=c.2 pos cv e;⟨c',o,vs,q,t,e1,k _ _ _ e2,r⟩⟩
theorem CTabs.mono {K:PySem.W.Frag}{H H':Hp}(x:CTabs K H)(k: ∀a o u,H a=some (.frz o u)->H' a=some (.frz o u))(kt: ∀a ps,H a=some (.tbl ps)->H' a=some (.tbl ps)):CTabs K H':=λP hP=>
 let ⟨ps,e,c⟩:=x P hP;⟨ps,kt _ _ e,c.mono k⟩
theorem CTabs.new {K:PySem.W.Frag}{H:Hp}{p:Addr}{o:HO}(x:CTabs K H)(e:H p=none):CTabs K (upd H p o):=
 x.mono (λa o' u h=>by rw [jq (jm h e)];exact h) λa ps h=>by rw [jq (jm h e)];exact h
theorem CTabs.put {K:PySem.W.Frag}{H:Hp}{p:Addr}{o:HO}{xs:List V}(x:CTabs K H)(e:H p=some (.lst xs)):CTabs K (upd H p o):=
 x.mono (λa o' u h=>by rw [jq (RU h e (by intro z;cases z))];exact h) λa ps h=>by rw [jq (RU h e (by intro z;cases z))];exact h
def Eu (T:List (List Int)):Int:=reduceHash (Builtin.Tuple.tupleHashOf (T.map λr=>reduceHash (Builtin.Tuple.tupleHashOf (r.map hashInt))))
def qH (a:Addr)(xs:List (List (List Int)×Addr×V)):HO:= .ext λh=>(a==sysModules)=false/\xs.length<=sizeLine/\ ∃ys:List (List (List Int)×Addr×Value),Paired (λp q=>p.1=q.1/\p.2.1=q.2.1/\RelV p.2.2 q.2.2) xs ys/\
 ∃o es ep,h.get? a=some o/\o.ExactDict/\o.data= .dict es ep/\es.toList=ys.map λx=>⟨Eu x.1,.ref x.2.1,x.2.2⟩
def DRel (K:PySem.W.Frag)(H:Hp)(a:Addr):DC->Prop
 | .ik kv=> ∃kvs:List (Int×V),H a=some (.dK (kvs.map λp=>((Sum.inl p.1:Key),p.2)))/\kv.map (·.1)=kvs.map (·.1)/\RelDs K H (kv.map (·.2)) (kvs.map (·.2))
 | .tk kv=> ∃xs:List (List (List Int)×Addr×V),H a=some (qH a xs)/\(kv.map (·.1)).Nodup/\kv.map (·.1)=xs.map (·.1)/\(∀x∈xs,RelD K H (.tup (x.1.map λr=> .tup (r.map D.int))) (.ref x.2.1))/\RelDs K H (kv.map (·.2)) (xs.map (·.2.2))
theorem DRel.obj {K:PySem.W.Frag}{H:Hp}{a:Addr}: ∀ {c:DC},DRel K H a c-> ∃o,H a=some o/\DObj o
 | .ik _,⟨kvs,e,_⟩=>⟨_,e,.inl ⟨kvs,rfl⟩⟩
 | .tk _,⟨xs,e,_⟩=>⟨_,e,.inr ⟨_,rfl⟩⟩
theorem DRel.mono {K:PySem.W.Frag}{H H':Hp}{a:Addr}(k:Kept H H')(z: ∀o,H a=some o->H' a=some o): ∀ {c:DC},DRel K H a c->DRel K H' a c
 | .ik _,⟨kvs,e,q,r⟩=>⟨kvs,z _ e,q,r.mono k⟩
 | .tk _,⟨xs,e,n,q,t,r⟩=>⟨xs,z _ e,n,q,λx hx=>(t x hx).mono k,r.mono k⟩
structure RelH (K:PySem.W.Frag)(h:HD)(H:Hp):Prop where
 ls: ∀a ds,h a=some ds-> ∃vs,H a=some (.lst vs)/\RelDs K H ds vs
 tb:CTabs K H
 dc: ∀a c,h.dc a=some c->DRel K H a c
instance {K:PySem.W.Frag}{h:HD}{H:Hp}:CoeFun (RelH K h H) λ_=> ∀a ds,h a=some ds-> ∃vs,H a=some (.lst vs)/\RelDs K H ds vs:=⟨RelH.ls⟩
structure Sub (h h':HD):Prop where
 ls: ∀a ds,h a=some ds->h' a=some ds
 dc: ∀a c,h.dc a=some c->h'.dc a=some c
instance {h h':HD}:CoeFun (Sub h h') λ_=> ∀a ds,h a=some ds->h' a=some ds:=⟨Sub.ls⟩
theorem Sub.refl (h:HD):Sub h h:=⟨λ_ _ e=>e,λ_ _ e=>e⟩
theorem Sub.trans {a b c:HD}(x:Sub a b)(y:Sub b c):Sub a c:=⟨λd ds e=>y d ds (x d ds e),λd ds e=>y.dc d ds (x.dc d ds e)⟩
theorem Sub.drop (h:HD)(a:Addr):Sub (Xa h a) h:=⟨λb ds e=>by
 have e:(if b=a then none else h b)=some ds:=e;split at e
 ·cases e
 ·exact e,λ_ _ e=>e⟩
theorem Sub.new {h:HD}{p:Addr}{ds:List D}(e:h p=none):Sub h (wq h p ds):=⟨λa es q=>(by
 rw [wZ];exact q;intro z;subst z;rw [e] at q;cases q),λ_ _ e=>e⟩
section
variable {K:PySem.W.Frag}{h h':HD}{H:Hp}
theorem RelH.sub (r:RelH K h H)(s:Sub h' h):RelH K h' H:=⟨λa ds e=>r a ds (s a ds e),r.tb,λa c e=>r.dc a c (s.dc a c e)⟩
theorem RelH.free (r:RelH K h H){p:Addr}(e:H p=none):h p=none:=by
 cases q:h p with
 |none=>rfl
 |some ds=>obtain⟨vs,z,_⟩:=r p ds q;rw [e] at z;cases z
theorem RelH.freeC (r:RelH K h H){p:Addr}(e:H p=none):h.dc p=none:=by
 cases q:h.dc p with
 |none=>rfl
 |some c=>obtain⟨o,z,_⟩:=(r.dc p c q).obj;rw [e] at z;cases z
theorem RelH.dcN (r:RelH K h H){p:Addr}{o:HO}(e:H p=none): ∀a c,h.dc a=some c->DRel K (upd H p o) a c:=λa c q=>
 (r.dc a c q).mono (.new e) λu z=>by rw [jq (jm z e)];exact z
theorem RelH.new (r:RelH K h H){p:Addr}{o:HO}(e:H p=none):RelH K h (upd H p o):=⟨λa ds q=>by
 obtain⟨vs,z,w⟩:=r a ds q;exact⟨vs,by rw [jq (jm z e)];exact z,w.mono (.new e)⟩,r.tb.new e,r.dcN e⟩
theorem RelH.newL (r:RelH K h H){p:Addr}{ds:List D}{vs:List V}(e:H p=none)(q:RelDs K H ds vs):RelH K (wq h p ds) (upd H p (.lst vs)):=⟨λa es z=>by
 by_cases w:a=p
 ·subst w;rw [jd] at z;cases z;exact⟨vs,jz,q.mono (.new e)⟩
 ·rw [wZ w] at z;obtain⟨us,z1,z2⟩:=r a es z;exact⟨us,by rw [jq w];exact z1,z2.mono (.new e)⟩,r.tb.new e,r.dcN e⟩
theorem RelH.put (r:RelH K h H){p:Addr}{ds:List D}{vs us:List V}(e:H p=some (.lst us))(q:RelDs K H ds vs):RelH K (wq h p ds) (upd H p (.lst vs)):=⟨λa es z=>by
 by_cases w:a=p
 ·subst w;rw [jd] at z;cases z;exact⟨vs,jz,q.mono (.put e)⟩
 ·rw [wZ w] at z;obtain⟨us,z1,z2⟩:=r a es z;exact⟨us,by rw [jq w];exact z1,z2.mono (.put e)⟩,r.tb.put e,λa c z=>(r.dc a c z).mono (.put e) λo w=>by
   obtain⟨u,w',d⟩:=(r.dc a c z).obj;rw [jq (RU w' e (d.no.2.1 _))];exact w⟩
end
def Aq (h:HD)(p:Addr)(c:DC):HD:=⟨h.ls,λb=>if b=p then some c else h.dc b⟩
theorem ZI {h:HD}{p:Addr}{c:DC}:(Aq h p c).dc p=some c:=if_pos rfl
theorem Xb {h:HD}{a p:Addr}{c:DC}(e:a≠p):(Aq h p c).dc a=h.dc a:=if_neg e
theorem Sub.newC {h:HD}{p:Addr}{c:DC}(e:h.dc p=none):Sub h (Aq h p c):=⟨λ_ _ e=>e,λa d q=>by
 rw [Xb];exact q;intro z;subst z;rw [e] at q;cases q⟩
section
variable {K:PySem.W.Frag}{h:HD}{H:Hp}
theorem RelH.newC (r:RelH K h H){p:Addr}{o:HO}{c:DC}(e:H p=none)(d:DRel K (upd H p o) p c):RelH K (Aq h p c) (upd H p o):=⟨(r.new e).ls,r.tb.new e,λa k z=>by
 by_cases w:a=p
 ·subst w;rw [ZI] at z;cases z;exact d
 ·rw [Xb w] at z;exact r.dcN e a k z⟩
theorem RelH.putC (r:RelH K h H){p:Addr}{o o':HO}{c:DC}(e:H p=some o)(ob:DObj o)(d:DRel K (upd H p o') p c):RelH K (Aq h p c) (upd H p o'):=by
 obtain⟨d1,d2,d3,d4,d5⟩:=ob.no;have ne: ∀ {a:Addr} {u:HO},H a=some u->o≠u->a≠p:=λq n z=>by subst z;rw [e] at q;injection q with q;exact n q
 refine⟨λa ds z=> ?_,r.tb.mono (λa q u z=>by rw [jq (ne z (d4 q u))];exact z) (λa ps z=>by rw [jq (ne z (d5 ps))];exact z),λa k z=> ?_⟩
 ·obtain⟨vs,z1,z2⟩:=r a ds z;exact⟨vs,by rw [jq (ne z1 (d2 vs))];exact z1,z2.mono (.putD e ob)⟩
 ·by_cases w:a=p
  ·subst w;rw [ZI] at z;cases z;exact d
  ·rw [Xb w] at z;exact(r.dc a k z).mono (.putD e ob) λu q=>by rw [jq w];exact q
end
abbrev SD:=List (Option D)
def RelS (K:PySem.W.Frag)(H:Hp)(σd:SD)(σ:St):Prop:=σd.length=σ.length/\ ∀ (i:Nat) (d:D),σd[i]? =some (some d)-> ∃v,σ[i]? =some (some v)/\RelD K H d v
theorem RelS.mono {K:PySem.W.Frag}{H H':Hp}{σd:SD}{σ:St}(r:RelS K H σd σ)(k:Kept H H'):RelS K H' σd σ:=⟨r.1,λi d e=>let ⟨v,a,b⟩:=r.2 i d e;⟨v,a,b.mono k⟩⟩
theorem RelS.set {K:PySem.W.Frag}{H:Hp}{σd:SD}{σ:St}{d:D}{v:V}(r:RelS K H σd σ)(q:RelD K H d v)(i:Nat):RelS K H (σd.set i (some d)) (σ.set i (some v)):=⟨by simp [r.1],λj e h=>by
 by_cases z:i=j
 ·subst z;rw [X8] at h ⊢
  by_cases hl:i<σd.length
  ·rw [if_pos rfl,if_pos hl] at h;rw [if_pos rfl,if_pos (by rw [<-r.1];exact hl)];cases h;exact⟨v,rfl,q⟩
  ·rw [if_pos rfl,if_neg hl] at h;cases h
 ·rw [F4 z] at h ⊢;exact r.2 j e h⟩
theorem RelS.clear1 {K:PySem.W.Frag}{H:Hp}{σd:SD}{σ:St}(r:RelS K H σd σ)(i:Nat):RelS K H (σd.set i none) (σ.set i none):=⟨by simp [r.1],λj e h=>by
 by_cases z:i=j
 ·subst z;rw [X8] at h;split at h
  ·split at h<;>cases h
  ·contradiction
 ·rw [F4 z] at h ⊢;exact r.2 j e h⟩
def jX:List Nat->SD->SD
 | [],σ=>σ
 |j::js,σ=>jX js (σ.set j none)
theorem RelS.clear {K:PySem.W.Frag}{H:Hp}: ∀ (js:List Nat) {σd:SD} {σ:St},RelS K H σd σ->RelS K H (jX js σd) (wI js σ)
 | [],_,_,r=>r
 |j::js,_,_,r=>RelS.clear js (r.clear1 j)
abbrev KD:=D->HD->Prop
abbrev TED:=SD->HD->KD->Prop
abbrev TTD:=SD->HD->(Bool->HD->Prop)->Prop
abbrev TAD:=SD->HD->(List D->HD->Prop)->Prop
abbrev RD2:=D->D->HD->KD->Prop
abbrev RDn:=List D->HD->KD->Prop
structure EndsD where
 nx:SD->HD->Prop
 rt:KD
 bk:SD->HD->Prop:=λ_ _=>False
 ct:SD->HD->Prop:=λ_ _=>False
abbrev TSD:=EndsD->SD->HD->Prop
abbrev TGD:=D->SD->HD->(SD->HD->Prop)->Prop
def Ev (K:PySem.W.Frag)(H:Hp)(Qd:KD)(Q:VK):Prop:= ∀d v h' H',Kept H H'->RelH K h' H'->RelD K H' d v->Qd d h'->Q v H'
def LE (K:PySem.W.Frag)(t:TED):TE:=λσ H Q=> ∃σd h Qd,RelS K H σd σ/\RelH K h H/\t σd h Qd/\Ev K H Qd Q
def LT (K:PySem.W.Frag)(t:TTD):TT:=λσ H Q=> ∃σd h Qd,RelS K H σd σ/\RelH K h H/\t σd h Qd/\ ∀b h' H',Kept H H'->RelH K h' H'->Qd b h'->Q b H'
def LA (K:PySem.W.Frag)(t:TAD):TA:=λσ H Q=> ∃σd h Qd,RelS K H σd σ/\RelH K h H/\t σd h Qd/\ ∀ds vs h' H',Kept H H'->RelH K h' H'->RelDs K H' ds vs->Qd ds h'->Q vs H'
def LR (K:PySem.W.Frag)(f:RD2):R2:=λx y H Q=> ∃dx dy h Qd,RelD K H dx x/\RelD K H dy y/\RelH K h H/\f dx dy h Qd/\Ev K H Qd Q
def LC (K:PySem.W.Frag)(f:RDn):List V->Hp->VK->Prop:=λxs H Q=> ∃ds h Qd,RelDs K H ds xs/\RelH K h H/\f ds h Qd/\Ev K H Qd Q
def LG (K:PySem.W.Frag)(g:TGD):TG:=λv σ H Q=> ∃d σd h Qd,RelD K H d v/\RelS K H σd σ/\RelH K h H/\g d σd h Qd/\ ∀σd' h' σ' H',Kept H H'->RelS K H' σd' σ'->RelH K h' H'->Qd σd' h'->Q σ' H'
def LS (K:PySem.W.Frag)(t:TSD):TS:=λD₀ σ H=> ∃σd h Dd,RelS K H σd σ/\RelH K h H/\t Dd σd h/\
 (∀σd' h' σ' H',Kept H H'->RelS K H' σd' σ'->RelH K h' H'->Dd.nx σd' h'->D₀.nx σ' H')/\Ev K H Dd.rt D₀.rt/\
 (∀σd' h' σ' H',Kept H H'->RelS K H' σd' σ'->RelH K h' H'->Dd.bk σd' h'->D₀.bk σ' H')/\(∀σd' h' σ' H',Kept H H'->RelS K H' σd' σ'->RelH K h' H'->Dd.ct σd' h'->D₀.ct σ' H')
theorem PE.imp {X:Cx}{e:Expr}{t t':TE}(h:PE X e t)(i: ∀σ H Q,t' σ H Q->t σ H Q):PE X e t':=λpins s σ H Q I q=>h pins s σ H Q I (i σ H Q q)
theorem PT.imp {X:Cx}{e:Expr}{t t':TT}(h:PT X e t)(i: ∀σ H Q,t' σ H Q->t σ H Q):PT X e t':=λpins s σ H Q I q=>h pins s σ H Q I (i σ H Q q)
theorem PW.imp {X:Cx}{e:Expr}{t t':TT}(h:PW X e t)(i: ∀σ H Q,t' σ H Q->t σ H Q):PW X e t':=λwh pins s σ H Q I q=>h wh pins s σ H Q I (i σ H Q q)
theorem PA.imp {X:Cx}{e:List Expr}{t t':TA}(h:PA X e t)(i: ∀σ H Q,t' σ H Q->t σ H Q):PA X e t':=λpos pins s σ H Q I q=>h pos pins s σ H Q I (i σ H Q q)
theorem PS.imp {X:Cx}{e:Stmt}{t t':TS}(h:PS X e t)(i: ∀D σ H,t' D σ H->t D σ H):PS X e t':=λpins s σ H D I q=>h pins s σ H D I (i D σ H q)
theorem PSs.imp {X:Cx}{e:List Stmt}{t t':TS}(h:PSs X e t)(i: ∀D σ H,t' D σ H->t D σ H):PSs X e t':=λpins s σ H D I q=>h pins s σ H D I (i D σ H q)
theorem PG.imp {X:Cx}{e:Expr}{t t':TG}(h:PG X e t)(i: ∀v σ H Q,t' v σ H Q->t v σ H Q):PG X e t':=λpins s σ H v u Q I r q=>h pins s σ H v u Q I r (i v σ H Q q)
theorem OpR.imp {X:Cx}{f:Value->Value->Sem Value}{r r':R2}(h:OpR X f r)(i: ∀x y H Q,r' x y H Q->r x y H Q):OpR X f r':=λpins s σ H x y v u Q I a b q=>h pins s σ H x y v u Q I a b (i x y H Q q)
theorem CallR.imp {X:Cx}{f:Value}{r r':List V->Hp->VK->Prop}(h:CallR X f r)(i: ∀xs H Q,r' xs H Q->r xs H Q):CallR X f r':=λpins s σ H xs us Q I a q=>h pins s σ H xs us Q I a (i xs H Q q)
def Lg (i:Nat):TED:=λσ h Q=> ∃d,σ[i]? =some (some d)/\Q d h
def dC (d:D):TED:=λ_ h Q=>Q d h
def dOp (f:RD2)(ta tb:TED):TED:=λσ h Q=>ta σ h λx h1=>tb σ h1 λy h2=>f x y h2 Q
def Xc:TAD:=λ_ h Q=>Q [] h
def yI (ta:TED)(tr:TAD):TAD:=λσ h Q=>ta σ h λx h1=>tr σ h1 λxs h2=>Q (x::xs) h2
def uA (t:TAD):TED:=λσ h Q=>t σ h λds h1=>ds.length<=sizeLine/\Q (.tup ds) h1
def HF (t:TAD):TED:=λσ h Q=>t σ h λds h1=>ds.length<=sizeLine/\ ∀p,h1 p=none->Q (.lst p) (wq h1 p ds)
def dCB (r:RDn)(t:TAD):TED:=λσ h Q=>t σ h λds h1=>r ds h1 Q
def YR (t:TED):TTD:=λσ h Q=>t σ h λx h1=> ∃k,x= .bl k/\Q k h1
def YS (r r':RD2)(ta tb tc:TED):TED:=λσ h Q=>ta σ h λx h1=>tb σ h1 λy h2=>r x y h2 λz h3=> ∃k,z= .bl k/\
 (if k=true then tc σ h3 λw h4=>r' y w h4 Q else Q (.bl false) h3)
def Ew (t u:TTD):TTD:=λσ h Q=>t σ h λc h1=>if c=true then u σ h1 Q else Q false h1
def HG (t u:TTD):TTD:=λσ h Q=>t σ h λc h1=>if c=true then Q true h1 else u σ h1 Q
def Ba (t:TTD):TTD:=λσ h Q=>t σ h λc h1=>Q (!c) h1
def Lh (ta tb:TED):TED:=λσ h Q=>ta σ h λx h1=> ∃c,x= .bl c/\if c=true then tb σ h1 Q else Q (.bl false) h1
def uB (ta tb:TED):TED:=λσ h Q=>ta σ h λx h1=> ∃c,x= .bl c/\if c=true then Q (.bl true) h1 else tb σ h1 Q
def Li (ta:TED):TED:=λσ h Q=>ta σ h λx h1=> ∃c,x= .bl c/\Q (.bl (!c)) h1
section
variable {K:PySem.W.Frag}
theorem HH (i:Nat): ∀σ H Q,LE K (Lg i) σ H Q->kQ i σ H Q:=λσ H Q ⟨σd,h,Qd,rs,rh,⟨d,e,q⟩,p⟩=>let ⟨v,e1,e2⟩:=rs.2 i d e;⟨v,e1,p d v h H (.refl H) rh e2 q⟩
theorem uC {d:D}{v:V}(r: ∀H,RelD K H d v): ∀σ H Q,LE K (dC d) σ H Q->tC v σ H Q:=λσ H Q ⟨σd,h,Qd,rs,rh,q,p⟩=>p d v h H (.refl H) rh (r H) q
variable {H:Hp}
theorem zf {H1:Hp}{Qd:KD}{Q:VK}(p:Ev K H Qd Q)(k:Kept H H1):Ev K H1 Qd Q:=λd v h' H' k'=>p d v h' H' (k.trans k')
variable {ta:TED}
theorem LE.bind {σ:St}{σd:SD}{h:HD}{kd:KD}{k:VK}(rs:RelS K H σd σ)(rh:RelH K h H)(t:ta σd h kd)(f: ∀d v h' H',Kept H H'->RelS K H' σd σ->RelH K h' H'->RelD K H' d v->kd d h'->k v H'):LE K ta σ H k:=
 ⟨σd,h,kd,rs,rh,t,λd v h' H' kp r1 r2 q=>f d v h' H' kp (rs.mono kp) r1 r2 q⟩
theorem LT.bind {ta:TTD}{σ:St}{σd:SD}{h:HD}{kd:Bool->HD->Prop}{k:Bool->Hp->Prop}(rs:RelS K H σd σ)(rh:RelH K h H)(t:ta σd h kd)(f: ∀b h' H',Kept H H'->RelS K H' σd σ->RelH K h' H'->kd b h'->k b H'):LT K ta σ H k:=
 ⟨σd,h,kd,rs,rh,t,λb h' H' kp r1 q=>f b h' H' kp (rs.mono kp) r1 q⟩
theorem LA.bind {ta:TAD}{σ:St}{σd:SD}{h:HD}{kd:List D->HD->Prop}{k:List V->Hp->Prop}(rs:RelS K H σd σ)(rh:RelH K h H)(t:ta σd h kd)(f: ∀ds vs h' H',Kept H H'->RelS K H' σd σ->RelH K h' H'->RelDs K H' ds vs->kd ds h'->k vs H'):LA K ta σ H k:=
 ⟨σd,h,kd,rs,rh,t,λd v h' H' kp r1 r2 q=>f d v h' H' kp (rs.mono kp) r1 r2 q⟩
variable {tb:TED}
theorem Ex {f:RD2}: ∀σ H Q,LE K (dOp f ta tb) σ H Q->tOp (LR K f) (LE K ta) (LE K tb) σ H Q:=λσ H Q ⟨σd,h,Qd,rs,rh,t,p⟩=>
 LE.bind rs rh t λd v h1 H1 k1 rs1 rh1 r1 t1=>LE.bind rs1 rh1 t1 λd2 v2 h2 H2 k2 rs2 rh2 r2 t2=>⟨d,d2,h2,Qd,r1.mono k2,r2,rh2,t2,zf p (k1.trans k2)⟩
theorem HI: ∀σ H Q,LA K Xc σ H Q->xQ σ H Q:=λσ H Q ⟨σd,h,Qd,rs,rh,t,p⟩=>p [] [] h H (.refl H) rh rfl t
theorem Ey {tr:TAD}: ∀σ H Q,LA K (yI ta tr) σ H Q->Hk (LE K ta) (LA K tr) σ H Q:=λσ H Q ⟨σd,h,Qd,rs,rh,t,p⟩=>
 LE.bind rs rh t λd v h1 H1 k1 rs1 rh1 r1 t1=>LA.bind rs1 rh1 t1 λds vs h2 H2 k2 rs2 rh2 r2 t2=>p _ _ h2 H2 (k1.trans k2) rh2 (.cons (r1.mono k2) r2) t2
theorem HJ {t:TAD}: ∀σ H Q,LE K (uA t) σ H Q->xR (LA K t) σ H Q:=λσ H Q ⟨σd,h,Qd,rs,rh,t,p⟩=>
 LA.bind rs rh t λds vs h1 H1 k1 rs1 rh1 r1 ⟨z,q⟩=>⟨by rw [<-r1.length];exact z,λa ha=>p (.tup ds) (.ref a) h1 _ (k1.trans (.new ha)) (rh1.new ha) ⟨a,vs,rfl,jz,r1.mono (.new ha)⟩ q⟩
theorem HK {t:TAD}: ∀σ H Q,LE K (HF t) σ H Q->xS (LA K t) σ H Q:=λσ H Q ⟨σd,h,Qd,rs,rh,t,p⟩=>
 LA.bind rs rh t λds vs h1 H1 k1 rs1 rh1 r1 ⟨z,q⟩=>⟨by rw [<-r1.length];exact z,λa ha=>p (.lst a) (.ref a) _ _ (k1.trans (.new ha)) (rh1.newL ha r1) ⟨rfl,vs,jz⟩ (q a (rh1.free ha))⟩
theorem HL {r:RDn}{t:TAD}: ∀σ H Q,LE K (dCB r t) σ H Q->tCB (LC K r) (LA K t) σ H Q:=λσ H Q ⟨σd,h,Qd,rs,rh,t,p⟩=>
 LA.bind rs rh t λds vs h1 H1 k1 rs1 rh1 r1 q=>⟨ds,h1,Qd,r1,rh1,q,zf p k1⟩
theorem Bb {t:TED}: ∀σ H Q,LT K (YR t) σ H Q->Ec (LE K t) σ H Q:=λσ H Q ⟨σd,h,Qd,rs,rh,t,p⟩=>
 LE.bind rs rh t λd v h1 H1 k1 rs1 rh1 r1 ⟨k,e,q⟩=>by subst e;exact⟨k,r1,p k h1 H1 k1 rh1 q⟩
theorem Lj {t:TED}: ∀σ H Q,LT K (YR t) σ H Q->tB (LE K t) σ H Q:=λσ H Q ⟨σd,h,Qd,rs,rh,t,p⟩=>
 LE.bind rs rh t λd v h1 H1 k1 rs1 rh1 r1 ⟨k,e,q⟩=>by subst e;exact⟨k,r1,p k h1 H1 k1 rh1 q⟩
theorem Rc {r r':RD2}{tc:TED}: ∀σ H Q,LE K (YS r r' ta tb tc) σ H Q->NG (LR K r) (LR K r') (LE K ta) (LE K tb) (LE K tc) σ H Q:=λσ H Q ⟨σd,h,Qd,rs,rh,t,p⟩=>
 LE.bind rs rh t λd v h1 H1 k1 rs1 rh1 r1 t1=>LE.bind rs1 rh1 t1 λd2 v2 h2 H2 k2 rs2 rh2 r2 t2=>⟨d,d2,h2,_,r1.mono k2,r2,rh2,t2,λd3 v3 h3 H3 k3 rh3 r3 ⟨k,e,q⟩=>by
  subst e;refine⟨k,r3,?_⟩;cases k with
  |true=>
   rw [if_pos rfl] at q ⊢;exact LE.bind (rs2.mono k3) rh3 q λd4 v4 h4 H4 k4 rs4 rh4 r4 t4=>⟨d2,d4,h4,Qd,(r2.mono k3).mono k4,r4,rh4,t4,zf p (k1.trans (k2.trans (k3.trans k4)))⟩
  |false=>
   rw [if_neg P7] at q ⊢;exact p (.bl false) _ h3 H3 (k1.trans (k2.trans k3)) rh3 rfl q⟩
theorem HM {t u:TTD}: ∀σ H Q,LT K (Ew t u) σ H Q->xC (LT K t) (LT K u) σ H Q:=λσ H Q ⟨σd,h,Qd,rs,rh,t,p⟩=>
 LT.bind rs rh t λb h1 H1 k1 rs1 rh1 q=>by
  cases b with
  |true=>rw [if_pos rfl] at q ⊢;exact⟨σd,h1,Qd,rs1,rh1,q,λb h' H' k=>p b h' H' (k1.trans k)⟩
  |false=>rw [if_neg P7] at q ⊢;exact p _ _ _ k1 rh1 q
theorem uD {t u:TTD}: ∀σ H Q,LT K (HG t u) σ H Q->tOr (LT K t) (LT K u) σ H Q:=λσ H Q ⟨σd,h,Qd,rs,rh,t,p⟩=>
 LT.bind rs rh t λb h1 H1 k1 rs1 rh1 q=>by
  cases b with
  |true=>rw [if_pos rfl] at q ⊢;exact p _ _ _ k1 rh1 q
  |false=>rw [if_neg P7] at q ⊢;exact⟨σd,h1,Qd,rs1,rh1,q,λb h' H' k=>p b h' H' (k1.trans k)⟩
theorem HN {t:TTD}: ∀σ H Q,LT K (Ba t) σ H Q->xD (LT K t) σ H Q:=λσ H Q ⟨σd,h,Qd,rs,rh,t,p⟩=>
 LT.bind rs rh t λb h1 H1 k1 rs1 rh1 q=>p _ _ _ k1 rh1 q
theorem HP: ∀σ H Q,LE K (Lh ta tb) σ H Q->TJ (LE K ta) (LE K tb) σ H Q:=λσ H Q ⟨σd,h,Qd,rs,rh,t,p⟩=>
 LE.bind rs rh t λd v h1 H1 k1 rs1 rh1 r1 ⟨c,e,q⟩=>by
  subst e;refine⟨c,r1,?_⟩;cases c with
  |true=>rw [if_pos rfl] at q ⊢;exact⟨σd,h1,Qd,rs1,rh1,q,zf p k1⟩
  |false=>rw [if_neg P7] at q ⊢;exact p (.bl false) _ _ _ k1 rh1 rfl q
theorem uE: ∀σ H Q,LE K (uB ta tb) σ H Q->xE (LE K ta) (LE K tb) σ H Q:=λσ H Q ⟨σd,h,Qd,rs,rh,t,p⟩=>
 LE.bind rs rh t λd v h1 H1 k1 rs1 rh1 r1 ⟨c,e,q⟩=>by
  subst e;refine⟨c,r1,?_⟩;cases c with
  |true=>rw [if_pos rfl] at q ⊢;exact p (.bl true) _ _ _ k1 rh1 rfl q
  |false=>rw [if_neg P7] at q ⊢;exact⟨σd,h1,Qd,rs1,rh1,q,zf p k1⟩
theorem HQ: ∀σ H Q,LE K (Li ta) σ H Q->TK (LE K ta) σ H Q:=λσ H Q ⟨σd,h,Qd,rs,rh,t,p⟩=>
 LE.bind rs rh t λd v h1 H1 k1 rs1 rh1 r1 ⟨c,e,q⟩=>by subst e;exact⟨c,r1,p (.bl (!c)) _ _ _ k1 rh1 rfl q⟩
end
abbrev QE (X:Cx)(e:Expr)(t:TED):Prop:=PE X e (LE X.K t)
abbrev QT (X:Cx)(e:Expr)(t:TTD):Prop:=PT X e (LT X.K t)
abbrev QW (X:Cx)(e:Expr)(t:TTD):Prop:=PW X e (LT X.K t)
abbrev QA (X:Cx)(es:List Expr)(t:TAD):Prop:=PA X es (LA X.K t)
abbrev QS (X:Cx)(s:Stmt)(t:TSD):Prop:=PS X s (LS X.K t)
abbrev QSs (X:Cx)(s:List Stmt)(t:TSD):Prop:=PSs X s (LS X.K t)
abbrev QG (X:Cx)(e:Expr)(t:TGD):Prop:=PG X e (LG X.K t)
abbrev OpQ (X:Cx)(f:Value->Value->Sem Value)(r:RD2):Prop:=OpR X f (LR X.K r)
abbrev vJ (X:Cx)(f:Value)(r:RDn):Prop:=CallR X f (LC X.K r)
section
variable {X:Cx}{a b c e:Expr}{es rest:List Expr}{ta tb tc te:TED}{t u:TAD}{tt tu:TTD}{pos:Pos}{f r r':RD2}
theorem qv (i:Nat){x:Str}(hN:X.N[i]? =some x:=by rfl)(hv:Vis X.env.scope x:=by first|exact Or.inl rfl|exact Or.inr (Or.inl rfl)|exact Or.inr (Or.inr rfl))(hd:(x==("__debug__" :Str))=false:=by decide)
 (hcd:(x==("__classdict__" :Str))=false:=by decide):QE X (.Name x pos) (Lg i):=(Ai hN hv hd hcd).imp (HH i)
theorem qI {i:Int}{j:Nat}:QE X (.Constant (.int i) j pos) (dC (.int i)):=pe_int.imp (uC λ_=>rfl)
theorem qbl {i:Bool}{j:Nat}:QE X (.Constant (.bool i) j pos) (dC (.bl i)):=pe_bl.imp (uC λ_=>rfl)
theorem uF {x:Str}{i:Int}{tk:Tok}(hg:Gl X x)(hm:X.mg x=some (.int i tk))(hd:(x==("__debug__" :Str))=false:=by decide):QE X (.Name x pos) (dC (.int i)):=
 (AT (v:= .int i) hg hm ⟨tk,rfl⟩ hd).imp (uC λ_=>rfl)
theorem qop {op:Operator}(ho:OpQ X (binaryOp op) f)(ha:QE X a ta)(hb:QE X b tb):QE X (.BinOp a op b pos) (dOp f ta tb):=(ud ho ha hb).imp Ex
variable {op:CmpOp}
theorem qJ (ho:OpQ X (compareOp op) f)(ha:QE X a ta)(hb:QE X b tb)(hm:behindInMarks op b=false):QE X (.Compare a [op] [b] pos) (dOp f ta tb):=(Eb ho ha hb hm).imp Ex
theorem uG (ho:OpQ X (compareOp op) f)(ha:QE X a ta)(hb:QE X b tb)(hm:behindInMarks op b=false):QT X (.Compare a [op] [b] pos) (YR (dOp f ta tb)):=
 (Ed ho ha hb hm).imp λσ H Q h=>by
  obtain⟨σd,h,Qd,rs,rh,t,p⟩:=Bb (t:=dOp f ta tb) σ H Q h;exact Ex σ H _ ⟨σd,h,Qd,rs,rh,t,p⟩
theorem HR {op':CmpOp}(ho:OpQ X (compareOp op) r)(ho':OpQ X (compareOp op') r')(ha:QE X a ta)(hb:QE X b tb)(hc:QE X c tc)(hm:lastMarks [op,op'] [b,c]=false:=by with_unfolding_all rfl):
 QE X (.Compare a [op,op'] [b,c] pos) (YS r r' ta tb tc):=(FT ho ho' ha hb hc hm).imp Rc
theorem Ez {op':CmpOp}(ho:OpQ X (compareOp op) r)(ho':OpQ X (compareOp op') r')(ha:QE X a ta)(hb:QE X b tb)(hc:QE X c tc)(hm:lastMarks [op,op'] [b,c]=false:=by with_unfolding_all rfl):
 QT X (.Compare a [op,op'] [b,c] pos) (YR (YS r r' ta tb tc)):=(FU ho ho' ha hb hc hm).imp λσ H Q h=>by
 obtain⟨σd,h,Qd,rs,rh,t,p⟩:=Bb (t:=YS r r' ta tb tc) σ H Q h;exact Rc σ H _ ⟨σd,h,Qd,rs,rh,t,p⟩
theorem uH (ha:QE X a ta)(he: ∀whole,isTrue a X.env whole=(do let v <-whole;standAt a.pos;holding [v] (truthy v)):=by intro _;rfl):QT X a (YR ta):=(TC ha he).imp Lj
theorem uI (ha:QT X a tt):QW X (.BoolOp .And [a] pos) tt:=AV ha
theorem qK (ha:QT X a tt):QW X (.BoolOp .Or [a] pos) tt:=TD ha
theorem uJ (ha:QT X a tt)(hb:QW X (.BoolOp .And (b::rest) pos) tu):QW X (.BoolOp .And (a::b::rest) pos) (Ew tt tu):=(TF ha hb).imp HM
theorem qL (ha:QT X a tt)(hb:QW X (.BoolOp .Or (b::rest) pos) tu):QW X (.BoolOp .Or (a::b::rest) pos) (HG tt tu):=(kS ha hb).imp uD
theorem uK (ha:QT X a tt):QT X (.UnaryOp .Not a pos) (Ba tt):=(TH ha).imp HN
theorem qM {op:BoolOp}(ha:QE X a ta):QE X (.BoolOp op [a] pos) ta:=TL ha
theorem qN (ha:QE X a ta)(hb:QE X (.BoolOp .And (b::rest) pos) tb):QE X (.BoolOp .And (a::b::rest) pos) (Lh ta tb):=(TN ha hb).imp HP
theorem qor (ha:QE X a ta)(hb:QE X (.BoolOp .Or (b::rest) pos) tb):QE X (.BoolOp .Or (a::b::rest) pos) (uB ta tb):=(kT ha hb).imp uE
theorem qO (ha:QE X a ta):QE X (.UnaryOp .Not a pos) (Li ta):=(TQ ha).imp HQ
theorem Ar:QA X [] Xc:=pa_nil.imp HI
theorem Bc (ha:QE X e te)(hr:QA X es t)(hs:starEach (e::es) X.env=(false,eval e X.env)::starEach es X.env:=by rfl):QA X (e::es) (yI te t):=(yS ha hr hs).imp Ey
theorem qP {k:Nat}(h:QA X es t):QE X (.Tuple es k pos) (uA t):=(Hl h).imp HJ
theorem qQ (h:QA X es t):QE X (.List es pos) (HF t):=(Hm h).imp HK
end
def Me:TSD:=λD σ h=>D.nx σ h
def No (t u:TSD):TSD:=λD σ h=>t {D with nx:=u D} σ h
def EA (te:TED):TSD:=λD σ h=>te σ h λ_ h1=>D.nx σ h1
def Bd (te:TED):TSD:=λD σ h=>te σ h D.rt
def Tn (c:TTD)(t u:TSD):TSD:=λD σ h=>c σ h λb h1=>if b=true then t D σ h1 else u D σ h1
def EB (i:Nat)(te:TED):TSD:=λD σ h=>te σ h λd h1=>D.nx (σ.set i (some d)) h1
def uL (te:TED)(g:TGD):TSD:=λD σ h=>te σ h λx h1=>g x σ h1 D.nx
def uM (i j:Nat)(ta:TAD):TSD:=λD σ h=>ta σ h λds h1=> ∃v w,ds= [v,w]/\D.nx ((σ.set i (some v)).set j (some w)) h1
def gN (i:Nat):TGD:=λd σ h Q=>Q (σ.set i (some d)) h
def gT2 (i j:Nat):TGD:=λd σ h Q=> ∃x y,d= .tup [x,y]/\Q ((σ.set i (some x)).set j (some y)) h
section
variable {K:PySem.W.Frag}
theorem LS.of {t:TSD}{D₀:Ends}{σ:St}{H:Hp}{σd:SD}{h:HD}{Dd:EndsD}(rs:RelS K H σd σ)(rh:RelH K h H)(q:t Dd σd h)
 (nx: ∀σd' h' σ' H',Kept H H'->RelS K H' σd' σ'->RelH K h' H'->Dd.nx σd' h'->D₀.nx σ' H')(rt:Ev K H Dd.rt D₀.rt)
 (bk: ∀σd' h' σ' H',Kept H H'->RelS K H' σd' σ'->RelH K h' H'->Dd.bk σd' h'->D₀.bk σ' H')(ct: ∀σd' h' σ' H',Kept H H'->RelS K H' σd' σ'->RelH K h' H'->Dd.ct σd' h'->D₀.ct σ' H'):LS K t D₀ σ H:=⟨σd,h,Dd,rs,rh,q,nx,rt,bk,ct⟩
theorem EC: ∀D σ H,LS K Me D σ H->TR D σ H:=λD σ H ⟨σd,h,Dd,rs,rh,q,nx,_⟩=>nx σd h σ H (.refl H) rs rh q
theorem HS {t u:TSD}: ∀D σ H,LS K (No t u) D σ H->xF (LS K t) (LS K u) D σ H:=λD σ H ⟨σd,h,Dd,rs,rh,q,nx,rt,bk,ct⟩=>
 LS.of rs rh q (λσd' h' σ' H' k rs' rh' q'=>⟨σd',h',Dd,rs',rh',q',λa b c d k'=>nx a b c d (k.trans k'),zf rt k,λa b c d k'=>bk a b c d (k.trans k'),λa b c d k'=>ct a b c d (k.trans k')⟩) rt bk ct
variable {te:TED}
theorem ED: ∀D σ H,LS K (EA te) D σ H->TU (LE K te) D σ H:=λD σ H ⟨σd,h,Dd,rs,rh,q,nx,rt,bk,ct⟩=>
 LE.bind rs rh q λd v h1 H1 k1 rs1 rh1 r1 q1=>nx _ _ _ _ k1 rs1 rh1 q1
theorem HU: ∀D σ H,LS K (Bd te) D σ H->xG (LE K te) D σ H:=λD σ H ⟨σd,h,Dd,rs,rh,q,nx,rt,bk,ct⟩=>⟨σd,h,Dd.rt,rs,rh,q,rt⟩
theorem uN {c:TTD}{t u:TSD}: ∀D σ H,LS K (Tn c t u) D σ H->xH (LT K c) (LS K t) (LS K u) D σ H:=λD σ H ⟨σd,h,Dd,rs,rh,q,nx,rt,bk,ct⟩=>
 LT.bind rs rh q λb h1 H1 k rs1 rh1 q1=>by
  cases b with
  |true=>rw [if_pos rfl] at q1 ⊢;exact⟨σd,h1,Dd,rs1,rh1,q1,λa b c d k'=>nx a b c d (k.trans k'),zf rt k,λa b c d k'=>bk a b c d (k.trans k'),λa b c d k'=>ct a b c d (k.trans k')⟩
  |false=>rw [if_neg P7] at q1 ⊢;exact⟨σd,h1,Dd,rs1,rh1,q1,λa b c d k'=>nx a b c d (k.trans k'),zf rt k,λa b c d k'=>bk a b c d (k.trans k'),λa b c d k'=>ct a b c d (k.trans k')⟩
theorem Be {i:Nat}: ∀D σ H,LS K (EB i te) D σ H->Ak (LE K te) (yF i) D σ H:=λD σ H ⟨σd,h,Dd,rs,rh,q,nx,rt,bk,ct⟩=>
 LE.bind rs rh q λd v h1 H1 k1 rs1 rh1 r1 q1=>nx _ _ _ _ k1 (rs1.set r1 i) rh1 q1
theorem HV {g:TGD}: ∀D σ H,LS K (uL te g) D σ H->Ak (LE K te) (LG K g) D σ H:=λD σ H ⟨σd,h,Dd,rs,rh,q,nx,rt,bk,ct⟩=>
 LE.bind rs rh q λd v h1 H1 k1 rs1 rh1 r1 q1=>⟨d,σd,h1,_,r1,rs1,rh1,q1,λa b c e k'=>nx a b c e (k1.trans k')⟩
theorem HW {i j:Nat}{ta:TAD}: ∀D σ H,LS K (uM i j ta) D σ H->xJ i j (LA K ta) D σ H:=λD σ H ⟨σd,h,Dd,rs,rh,q,nx,rt,bk,ct⟩=>
 LA.bind rs rh q λds vs h1 H1 k1 rs1 rh1 r1 ⟨x,y,e,q1⟩=>by
  subst e;obtain⟨v,r,e,r2,r3⟩:=(show ∃v r,vs=v::r/\RelD K H1 x v/\RelDs K H1 [y] r from r1);obtain⟨w,r',e',r4,r5⟩:=(show ∃v r',r=v::r'/\RelD K H1 y v/\RelDs K H1 [] r' from r3);cases (show r'= [] from r5);subst e' e;exact⟨v,w,rfl,nx _ _ _ _ k1 ((rs1.set r2 i).set r4 j) rh1 q1⟩
theorem EE (i:Nat): ∀v σ H Q,LG K (gN i) v σ H Q->yF i v σ H Q:=λv σ H Q ⟨d,σd,h,Qd,r,rs,rh,q,p⟩=>p _ _ _ _ (.refl H) (rs.set r i) rh q
theorem yJ {H:Hp}{x y:D}{vs:List V}(r:RelDs K H [x,y] vs): ∃v w,vs= [v,w]/\RelD K H x v/\RelD K H y w:=by
 obtain⟨v,r1,e,r2,r3⟩:=(show ∃v r,vs=v::r/\RelD K H x v/\RelDs K H [y] r from r);obtain⟨w,z,e',r4,r5⟩:=(show ∃v z,r1=v::z/\RelD K H y v/\RelDs K H [] z from r3);cases (show z= [] from r5);subst e' e;exact⟨v,w,rfl,r2,r4⟩
theorem jF {H:Hp}{x:D}{vs:List V}(r:RelDs K H [x] vs): ∃v,vs= [v]/\RelD K H x v:=by
 obtain⟨v,r1,e,r2,r3⟩:=(show ∃v r,vs=v::r/\RelD K H x v/\RelDs K H [] r from r);cases (show r1= [] from r3);exact⟨v,e,r2⟩
theorem HX (i j:Nat): ∀v σ H Q,LG K (gT2 i j) v σ H Q->kZ K 2 (Nz (yF i) (Nz (yF j) kY)) v σ H Q:=λv σ H Q ⟨d,σd,h,Qd,r,rs,rh,⟨x,y,e,q⟩,p⟩=>by
 subst e;obtain⟨a,vs,e,hH,r1⟩:=(show ∃a vs,v= .ref a/\H a=some (.tup vs)/\RelDs K H [x,y] vs from r);obtain⟨v1,v2,e1,r2,r3⟩:=yJ r1;subst e e1;exact⟨a,[v1,v2],rfl,SqT.of hH,rfl,v1,[v2],rfl,v2,[],rfl,rfl,p _ _ _ _ (.refl H) ((rs.set r2 i).set r3 j) rh q⟩
end
section
variable {X:Cx}{st:Stmt}{sts:List Stmt}{t u:TSD}{e:Expr}{te:TED}{pos:Pos}
theorem HY:QSs X [] Me:=pss_nil.imp EC
theorem EF (h1:QS X st t)(h2:QSs X sts u):QSs X (st::sts) (No t u):=(FR h1 h2).imp HS
theorem HZ (h1:QS X st t):QSs X [st] t:=AW h1
theorem uO (he:QE X e te)(hs:swapsWith e none pos.line X.env=pure false:=by rfl):QS X (.Expr e pos) (EA te):=(AX he hs).imp ED
theorem qR (he:QE X e te):QS X (.Return (some e) pos) (Bd te):=(TV he).imp HU
theorem qS {c:Expr}{a b:List Stmt}{tc:TTD}(hc:QT X c tc)(ha:QSs X a t)(hb:QSs X b u):QS X (.If c a b pos) (Tn tc t u):=(kU hc ha hb).imp uN
variable {i:Nat}{x:Str}
theorem qT {pos':Pos}(hN:X.N.Nodup)(hi:X.N[i]? =some x)(hx:Loc X.env.scope x)(he:QE X e te)(hs:swapsWith e (some (.Name x pos')) pos.line X.env=pure false:=by rfl)
 (hf:X.fn x=true\/X.env.scope.names.lookup x=some .local:=by first|exact .inl rfl|exact .inr rfl|assumption):QS X (.Assign [.Name x pos'] e pos) (EB i te):=(TY hN hi hx he hs hf).imp Be
theorem EG (hN:X.N.Nodup)(hi:X.N[i]? =some x)(hx:Loc X.env.scope x)(hf:X.fn x=true\/X.env.scope.names.lookup x=some .local:=by first|exact .inl rfl|exact .inr rfl|assumption):QG X (.Name x pos) (gN i):=
 (JH hN hi hx hf).imp (EE i)
theorem Ka {j:Nat}{y:Str}{p1 p2:Pos}{k:Nat}(hc:X.calm=true)(hN:X.N.Nodup)(hi:X.N[i]? =some x)(hj:X.N[j]? =some y)(hx:Loc X.env.scope x)(hy:Loc X.env.scope y)
 (hf:X.fn x=true\/X.env.scope.names.lookup x=some .local:=by first|exact .inl rfl|exact .inr rfl|assumption)(hf2:X.fn y=true\/X.env.scope.names.lookup y=some .local:=by first|exact .inl rfl|exact .inr rfl|assumption):
 QG X (.Tuple [.Name x p1,.Name y p2] k pos) (gT2 i j):=(Aj hc (Yr (JH hN hi hx hf) (Yr (JH hN hj hy hf2) NA))).imp (HX i j)
theorem qU {tg:Expr}{g:TGD}(he:QE X e te)(hg:QG X tg g)(hs:swapsWithSole [tg] e pos.line X.env=pure false:=by rfl)(hsw:swappedStores [tg] e X.env=pure none:=by rfl)
 (h1:(assignEach [tg] X.env).map (·.2)= [assign tg X.env]:=by rfl):QS X (.Assign [tg] e pos) (uL te g):=(TX he hg hs hsw h1).imp HV
theorem qV {j:Nat}{y:Str}{a b:Expr}{ta:TAD}{px py pt:Pos}{kt k2 pt2}(hc:X.calm=true)(hN:X.N.Nodup)(hi:X.N[i]? =some x)(hj:X.N[j]? =some y)(hij:i≠j)
 (hx:X.env.scope.names.lookup x=some .local)(hy:X.env.scope.names.lookup y=some .local)(ha:QA X [a,b] ta)
 (hw:swappedStores [.Tuple [.Name x px,.Name y py] kt pt] (.Tuple [a,b] k2 pt2) X.env=pure (some [x,y]))
 (hs:swapsWithSole [.Tuple [.Name x px,.Name y py] kt pt] (.Tuple [a,b] k2 pt2) pos.line X.env=pure false:=by rfl):
 QS X (.Assign [.Tuple [.Name x px,.Name y py] kt pt] (.Tuple [a,b] k2 pt2) pos) (uM i j ta):=(TZ hc hN hi hj hij hx hy ha hw hs).imp HW
end
abbrev ItD:=HD->Option (List D)
def EH (K:PySem.W.Frag)(H:Hp)(j:ItD)(J:It):Prop:= ∀H' h',Kept H H'->RelH K h' H'-> ∀ds,j h'=some ds-> ∀i:Nat,
 (∀d,ds[i]? =some d->J.go i H'/\ ∀x H'',J.yld i H' x H''->Kept H' H''/\RelH K h' H''/\RelD K H'' d x)/\(ds.length<=i->J.stop i H')
abbrev TID:=SD->HD->(ItD->HD->Prop)->Prop
def LI (K:PySem.W.Frag)(t:TID):TI:=λσ H R=> ∃σd h Rd,RelS K H σd σ/\RelH K h H/\t σd h Rd/\ ∀j J h' H',Kept H H'->RelH K h' H'->EH K H' j J->Rd j h'->R J H'
abbrev QI (X:Cx)(tg iter:Expr)(t:TID):Prop:=PI X tg iter (LI X.K t)
theorem PI.imp {X:Cx}{tg e:Expr}{t t':TI}(h:PI X tg e t)(i: ∀σ H R,t' σ H R->t σ H R):PI X tg e t':=λpins s σ H R I q=>h pins s σ H R I (i σ H R q)
def iL (te:TED):TID:=λσ h R=>te σ h λx h1=> ∃a,x= .lst a/\R (λh=>h a) h1
def iR1 (ta:TAD):TID:=λσ h R=>ta σ h λds h1=> ∃n:Int,ds= [.int n]/\ -(2^62)<=n/\n<2^62/\R (λ_=>some ((List.range n.toNat).map λ(k:Nat)=>D.int (k:Int))) h1
def iR2 (ta:TAD):TID:=λσ h R=>ta σ h λds h1=> ∃m n:Int,ds= [.int m,.int n]/\(-(2^62)<=m/\m<2^62/\ -(2^62)<=n/\n<2^62)/\R (λ_=>some ((List.range (n-m).toNat).map λ(k:Nat)=>D.int (m+(k:Int)))) h1
section
variable {K:PySem.W.Frag}
theorem Qu (H:Hp)(a:Addr):EH K H (λh=>h a) (Itl K a):=λH' h' k rh ds e i=>by
 obtain⟨vs,hv,r⟩:=rh a ds e;refine⟨λd hd=> ?_,λhl=>⟨vs,SqL.of hv,by rw [<-r.length];exact hl⟩⟩;obtain⟨v,e1,e2⟩:=r.get hd;refine⟨⟨vs,v,SqL.of hv,e1⟩,λx H'' ⟨eH,hx⟩=> ?_⟩;subst eH;have:=hx vs (SqL.of hv);rw [e1] at this;cases this;exact⟨.refl _,rh,e2⟩
theorem Lk {H:Hp}{a:Addr}{vs:List V}{ds:List D}(hv:H a=some (.tup vs))(r:RelDs K H ds vs):EH K H (λ_=>some ds) (Itt K a):=λH' h' k rh ds' e i=>by
 cases e;have hv':=k.tup _ _ hv;have r':=r.mono k;refine⟨λd hd=> ?_,λhl=>⟨vs,SqT.of hv',by rw [<-r.length];exact hl⟩⟩;obtain⟨v,e1,e2⟩:=r'.get hd;refine⟨⟨vs,v,SqT.of hv',e1⟩,λx H'' ⟨eH,hx⟩=> ?_⟩;subst eH;have:=hx vs (SqT.of hv');rw [e1] at this;cases this;exact⟨.refl _,rh,e2⟩
theorem UB (H:Hp)(lo:Int)(n:Nat)(ds:List D)(hd:ds=(List.range n).map λ(k:Nat)=>D.int (lo+(k:Int))):EH K H (λ_=>some ds) (Itr lo n):=λH' h' k rh ds' e i=>by
 cases e;subst hd;refine⟨λd hd=> ?_,λhl=>(show n<=i by simpa using hl)⟩;rw [P3] at hd;have hi:i<n:=by
  by_cases z:i<n
  ·exact z
  ·rw [N8 (by simpa using z)] at hd;cases hd
 rw [N4 hi] at hd;cases hd;refine⟨hi,λx H'' ⟨eH,hx⟩=> ?_⟩;subst eH hx;exact⟨.refl _,rh,rfl⟩
theorem EI {te:TED}: ∀σ H R,LI K (iL te) σ H R->Hc K (LE K te) σ H R:=λσ H R ⟨σd,h,Rd,rs,rh,q,p⟩=>
 LE.bind rs rh q λd v h1 H1 k1 rs1 rh1 r1 ⟨a,e,q1⟩=>by
  subst e;obtain⟨e,vs,hv⟩:=(show v= .ref a/\ ∃vs,H1 a=some (.lst vs) from r1);exact⟨a,e,⟨vs,SqL.of hv⟩,p _ _ _ _ k1 rh1 (Qu H1 a) q1⟩
theorem uP {ta:TAD}: ∀σ H R,LI K (iR1 ta) σ H R->Hd (LA K ta) σ H R:=λσ H R ⟨σd,h,Rd,rs,rh,q,p⟩=>
 LA.bind rs rh q λds vs h1 H1 k1 rs1 rh1 r1 ⟨n,e,b1,b2,q1⟩=>by
  subst e;obtain⟨v,e,r2⟩:=jF r1;cases (show v= .int n from r2);exact⟨n,e,b1,b2,p _ _ _ _ k1 rh1 (UB H1 0 n.toNat _ (by simp)) q1⟩
theorem uQ {ta:TAD}: ∀σ H R,LI K (iR2 ta) σ H R->He (LA K ta) σ H R:=λσ H R ⟨σd,h,Rd,rs,rh,q,p⟩=>
 LA.bind rs rh q λds vs h1 H1 k1 rs1 rh1 r1 ⟨m,n,e,b,q1⟩=>by
  subst e;obtain⟨v,w,e,r2,r3⟩:=yJ r1;cases (show v= .int m from r2);cases (show w= .int n from r3);exact⟨m,n,e,b,p _ _ _ _ k1 rh1 (UB H1 m (n-m).toNat _ rfl) q1⟩
end
def To (ti:TID)(g:TGD)(tb:TSD):TSD:=λD σ h=>ti σ h λj h1=> ∃ (n:Nat) (W:Nat->SD->HD->Prop),W 0 σ h1/\ ∀i σ' h',W i σ' h'-> ∃ds,j h'=some ds/\ds.length<=n/\(ds.length<=i->D.nx σ' h')/\
 ∀d,ds[i]? =some d->g d σ' h' λσ2 h2=>tb {D with nx:=λσ3 h3=> ∃h4,Sub h4 h3/\W (i+1) σ3 h4,ct:=λσ3 h3=> ∃h4,Sub h4 h3/\W (i+1) σ3 h4,bk:=D.nx} σ2 h2
theorem Kb {K:PySem.W.Frag}{ti:TID}{g:TGD}{tb:TSD}: ∀D σ H,LS K (To ti g tb) D σ H->xL (LI K ti) (LG K g) (LS K tb) D σ H:=λD σ H ⟨σd,h,Dd,rs,rh,q,nx,rt,bk,ct⟩=>by
 refine⟨σd,h,_,rs,rh,q,λj J h1 H1 k1 rh1 jo ⟨n,W,w0,turn⟩=> ?_⟩;refine⟨λi m σ' H'=>m=n-i/\Kept H1 H'/\ ∃σd' h',RelS K H' σd' σ'/\RelH K h' H'/\W i σd' h',⟨n-0,rfl,.refl _,σd,h1,rs.mono k1,rh1,w0⟩,?_⟩;rintro i m σ' H' ⟨rfl,kp,σd',h',rs',rh',w⟩;obtain⟨ds,ej,hn,stop,go⟩:=turn i σd' h' w;have jo':=jo H' h' kp rh' ds ej i
 by_cases hi:i<ds.length
 ·obtain⟨g1,y1⟩:=jo'.1 ds[i] (G1 hi);refine .inr ⟨g1,λσ2 H2=>Kept H1 H2/\ ∃σd2 h2,RelS K H2 σd2 σ2/\RelH K h2 H2/\W (i+1) σd2 h2,λσ2 H2 ⟨k2,a,b,c,d,e⟩=>⟨n-(i+1),by omega,rfl,k2,a,b,c,d,e⟩,λx H'' y=> ?_⟩;obtain⟨k2,rh2,r2⟩:=y1 x H'' y;refine⟨ds[i],σd',h',_,r2,rs'.mono k2,rh2,go ds[i] (G1 hi),λσd3 h3 σ3 H3 k3 rs3 rh3 q3=> ?_⟩;have kk:Kept H H3:=k1.trans (kp.trans (k2.trans k3));have kk1:Kept H1 H3:=kp.trans (k2.trans k3);exact⟨σd3,h3,_,rs3,rh3,q3,λa b c d k4 rs4 rh4 ⟨h4,sb,w4⟩=>⟨kk1.trans k4,a,h4,rs4,rh4.sub sb,w4⟩,zf rt kk,λa b c d k4 rs4 rh4 q4=>nx a b c d (kk.trans k4) rs4 rh4 q4,λa b c d k4 rs4 rh4 ⟨h4,sb,w4⟩=>⟨kk1.trans k4,a,h4,rs4,rh4.sub sb,w4⟩⟩
 ·exact .inl ⟨jo'.2 (U4.mp hi),nx _ _ _ _ (k1.trans kp) rs' rh' (stop (U4.mp hi))⟩
def YT:TTD:=λ_ h Q=>Q true h
def JL (bind:D->SD->SD->Prop)(js:List Nat)(ti:TID)(tt:TTD)(te:TED):TED:=λσ h Q=>ti σ h λj h1=> ∃ (n:Nat) (W:Nat->List D->HD->Prop),W 0 [] h1/\ ∀i ys h',W i ys h'->ys.length<=sizeLine/\
 ∃ds,j h'=some ds/\ds.length<=n/\(ds.length<=i-> ∀p,h' p=none->Q (.lst p) (wq h' p ys))/\
  ∀d,ds[i]? =some d-> ∃σ2,bind d (jX js σ) σ2/\tt σ2 h' λb h3=>if b=true then te σ2 h3 λy h4=> ∃h5,Sub h5 h4/\W (i+1) (ys++ [y]) h5 else ∃h5,Sub h5 h3/\W (i+1) ys h5
def bN (i:Nat):D->SD->SD->Prop:=λd σ σ2=>σ2=σ.set i (some d)
def b2 (i j:Nat):D->SD->SD->Prop:=λd σ σ2=> ∃x y,d= .tup [x,y]/\σ2=(σ.set i (some x)).set j (some y)
theorem Kc {K:PySem.W.Frag}: ∀σ H Q,LT K YT σ H Q->xW σ H Q:=λσ H Q ⟨σd,h,Qd,rs,rh,q,p⟩=>p true h H (.refl H) rh q
def Bf (K:PySem.W.Frag)(js:List Nat)(bind:D->SD->SD->Prop)(g:TG):Prop:= ∀ (σ:St) (σd σd2:SD) (H:Hp) (d:D) (v:V) (Q:St->Hp->Prop),RelS K H (jX js σd) (wI js σ)->RelD K H d v->bind d (jX js σd) σd2->
 (∀σ2,Agree (wI js σ) σ2->RelS K H σd2 σ2->Q σ2 H)->g v (wI js σ) H Q
theorem Kd {K:PySem.W.Frag}{js:List Nat}{i:Nat}(hi:i∈js):Bf K js (bN i) (yF i):=λσ σd σd2 H d v Q rs r b q=>by
 cases (show σd2=_ from b);exact q _ (.set v λu=>we js σ i u hi) (rs.set r i)
theorem uR {K:PySem.W.Frag}{js:List Nat}{i j:Nat}(hi:i∈js)(hj:j∈js)(hij:i≠j):Bf K js (b2 i j) (kZ K 2 (Nz (yF i) (Nz (yF j) kY))):=λσ σd σd2 H d v Q rs r b q=>by
 obtain⟨x,y,e,e2⟩:=b;subst e e2;obtain⟨a,vs,e,hH,r1⟩:=(show ∃a vs,v= .ref a/\H a=some (.tup vs)/\RelDs K H [x,y] vs from r);obtain⟨v1,v2,e1,r2,r3⟩:=yJ r1;subst e e1;refine⟨a,[v1,v2],rfl,SqT.of hH,rfl,v1,[v2],rfl,v2,[],rfl,rfl,q _ (.trans (.set v1 λu=>we js σ i u hi) (.set v2 λu z=> ?_)) ((rs.set r2 i).set r3 j)⟩;rw [F4 hij] at z;exact we js σ j u hj z
theorem EJ {K:PySem.W.Frag}{bind:D->SD->SD->Prop}{js:List Nat}{ti:TID}{tt:TTD}{te:TED}{g:TG}(hb:Bf K js bind g): ∀σ H Q,LE K (JL bind js ti tt te) σ H Q->tLC js (LI K ti) g (LT K tt) (LE K te) σ H Q:=
 λσ H Q ⟨σd,h,Qd,rs,rh,q,p⟩=>by
  refine⟨σd,h,_,rs,rh,q,λj J h1 H1 k1 rh1 jo ⟨n,W,w0,turn⟩=> ?_⟩;refine⟨λi m ys H'=>m=n-i/\Kept H1 H'/\ ∃ds h',RelDs K H' ds ys/\RelH K h' H'/\W i ds h',⟨n-0,rfl,.refl _,[],h1,rfl,rh1,w0⟩,?_⟩;rintro i m ys H' ⟨rfl,kp,yd,h',ry,rh',w⟩;obtain⟨hz,ds,ej,hn,stop,go⟩:=turn i yd h' w;refine⟨by rw [<-ry.length];exact hz,?_⟩;have jo':=jo H' h' kp rh' ds ej i;have kk:Kept H H':=k1.trans kp
  by_cases hi:i<ds.length
  ·obtain⟨g1,y1⟩:=jo'.1 ds[i] (G1 hi);refine .inr ⟨g1,λx H'' y=> ?_⟩;obtain⟨k2,rh2,r2⟩:=y1 x H'' y;obtain⟨σd2,bd,q2⟩:=go ds[i] (G1 hi);refine hb σ σd σd2 H'' ds[i] x _ (((rs.mono (kk.trans k2))).clear js) r2 bd λσ2 ag rs2=>⟨ag,?_⟩
   refine LT.bind rs2 rh2 q2 λb h3 H3 k3 rs3 rh3 q3=> ?_
   cases b with
   |true=>
    rw [if_pos rfl] at q3 ⊢;refine LE.bind rs3 rh3 q3 λd4 v4 h4 H4 k4 rs4 rh4 r4 ⟨h5,sb,w5⟩=>⟨n-(i+1),by omega,rfl,kp.trans (k2.trans (k3.trans k4)),yd++ [d4],h5,(ry.mono (k2.trans (k3.trans k4))).append (.cons r4 .nil),rh4.sub sb,w5⟩
   |false=>
    rw [if_neg P7] at q3 ⊢;obtain⟨h5,sb,w5⟩:=q3;exact⟨n-(i+1),by omega,rfl,kp.trans (k2.trans k3),yd,h5,ry.mono (k2.trans k3),rh3.sub sb,w5⟩
  ·refine .inl ⟨jo'.2 (U4.mp hi),λa ha=>p (.lst a) (.ref a) _ _ (kk.trans (.new ha)) (rh'.newL ha ry) ⟨rfl,ys,jz⟩ (stop (U4.mp hi) a (rh'.free ha))⟩
theorem yn {X:Cx}{scope:Scope}{C:Addr}{s₀:Shared}{H₀:Hp}{ex:List Addr}{i:Nat}{x:Str}{p:Pos}(hN:X.N.Nodup)(hx:X.N[i]? =some x)(hl:scope.names.lookup x=some .local\/scope.names.lookup x=some .cell):
 PG (UY X scope C s₀ H₀ ex) (.Name x p) (yF i):=by
 rcases hl with z|z
 ·exact JH hN hx (.inl (lookup_relabel_local z)) (.inr (lookup_relabel_local z))
 ·exact JH hN hx (.inr (JK z)) (.inl (by show (scope.names.lookup x==some NameKind.cell)=true;rw [z];rfl))
section
variable {X:Cx}{tg e iter elt:Expr}{te:TED}{ti:TID}{g:TGD}{tb:TSD}{tt:TTD}{pos:Pos}{ta:TAD}{scope:Scope}{js:List Nat}{ifs:List Expr}
theorem EK (he:QE X e te):QI X tg e (iL te):=(AZ he).imp EI
theorem uS {p:Pos}{a:Expr}(hg:Gl X "range")(hm:X.mg "range" =none)(ha:QA X [a] ta)(hs:starEach [a] X.env= [(false,eval a X.env)]:=by rfl):QI X tg (.Call (.Name "range" p) [a] [] pos) (iR1 ta):=(NB hg hm ha hs).imp uP
theorem qW {body:List Stmt}(hp:PassesOwn (model X.prog X.w) X.A X.env X.xe)(hc:X.calm=true)(hi:QI X tg iter ti)(hg:QG X tg g)(hb:QSs X body tb)(hs: ∀x,foldedSetIterable iter X.env x=pure x:=by intro _;rfl):
 QS X (.For tg iter body [] pos) (To ti g tb):=(Hf hp hc hi hg hb hs).imp Kb
theorem EL:PTs X [] (LT X.K YT):=λpins s σ H Q I h=>Es pins s σ H Q I (Kc σ H Q h)
theorem EM {c:Expr}(hc:QT X c tt):PTs X [c] (LT X.K tt):=Et hc
theorem qlc {i:Nat}{x:Str}{p:Pos}(hc:X.calm=true)(S:BlockOk X scope js)(hi:QI X (.Name x p) iter ti)(hj:i∈js)(hN:X.N.Nodup)(hx:X.N[i]? =some x)(hl:scope.names.lookup x=some .local\/scope.names.lookup x=some .cell)
 (ht: ∀X',jp X scope X'->PTs X' ifs (LT X'.K tt))(he: ∀X',jp X scope X'->QE X' elt te)(hs: ∀x,foldedSetIterable iter X.env x=pure x:=by intro _;rfl):
 QE X (.ListComp elt [⟨.Name x p,iter,ifs,0⟩] scope pos) (JL (bN i) js ti tt te):=
 (HB hc S hi (λX' hX=>by obtain⟨C,s₀,H₀,ex,rfl⟩:=hX;exact yn hN hx hl) (λX' hX=>by have:=ht X' hX;obtain⟨C,s₀,H₀,ex,rfl⟩:=hX;exact this)
  (λX' hX=>by have:=he X' hX;obtain⟨C,s₀,H₀,ex,rfl⟩:=hX;exact this) hs).imp (EJ (Kd hj))
theorem qX {i j:Nat}{x y:Str}{p1 p2 p3:Pos}{k:Nat}(hc:X.calm=true)(S:BlockOk X scope js)(hi:QI X (.Tuple [.Name x p1,.Name y p2] k p3) iter ti)(hj:i∈js)(hj2:j∈js)(hij:i≠j)(hN:X.N.Nodup)(hx:X.N[i]? =some x)(hy:X.N[j]? =some y)
 (hl:scope.names.lookup x=some .local\/scope.names.lookup x=some .cell)(hl2:scope.names.lookup y=some .local\/scope.names.lookup y=some .cell)
 (ht: ∀X',jp X scope X'->PTs X' ifs (LT X'.K tt))(he: ∀X',jp X scope X'->QE X' elt te)(hs: ∀x,foldedSetIterable iter X.env x=pure x:=by intro _;rfl):
 QE X (.ListComp elt [⟨.Tuple [.Name x p1,.Name y p2] k p3,iter,ifs,0⟩] scope pos) (JL (b2 i j) js ti tt te):=
 (HB hc S hi (λX' hX=>by
  obtain⟨C,s₀,H₀,ex,rfl⟩:=hX;exact Aj hc (Yr (yn hN hx hl) (Yr (yn hN hy hl2) NA))) (λX' hX=>by have:=ht X' hX;obtain⟨C,s₀,H₀,ex,rfl⟩:=hX;exact this)
  (λX' hX=>by have:=he X' hX;obtain⟨C,s₀,H₀,ex,rfl⟩:=hX;exact this) hs).imp (EJ (uR hj hj2 hij))
end
def LSp (K:PySem.W.Frag)(spd:RDn):Sp:=λvs H Q _=>LC K spd vs H Q
theorem EN {K:PySem.W.Frag}{spd:RDn}{t:TAD}{E:XK}: ∀σ H Q,LE K (dCB spd t) σ H Q->Hn (LSp K spd) [] E (LA K t) σ H Q:=λσ H Q ⟨σd,h,Qd,rs,rh,t,p⟩=>
 LA.bind rs rh t λds vs h1 H1 k1 rs1 rh1 r1 q=>by rw [F7];exact⟨ds,h1,Qd,r1,rh1,q,zf p k1⟩
section
variable {X:Cx}{k:Nat}{f:Addr}{fd:FuncData}{ps:List Str}{spd:RDn}{x:Str}{p pos:Pos}{e:Expr}{es:List Expr}{t:TAD}
theorem uU (F:FnOk X.prog X.w X.K X.mg X.base CX0 k f fd ps (LSp X.K spd))(hr:Room k X.A)(hg:Gl X x)(hm:X.mg x=some (.ref f))(hk:PySem.W.keepIn X.K (.ref f)=true)(hb:Binds X.K fd ps [])
 (ha:QA X (e::es) t)(hdb:(x==("__debug__" :Str))=false:=by decide)(he:starEach (e::es) X.env=(false,eval e X.env)::starEach es X.env:=by rfl)(hpl:(backTo pos (starEach es X.env)).any (·.1)=false:=by rfl):
 QE X (.Call (.Name x p) (e::es) [] pos) (dCB spd t):=(Ef F hr hg hm hk hb .nil ur ha hdb he hpl).imp EN
theorem Ke {id:String}{r:RDn}(hc:vJ X (.builtin id) r)(hg:Gl X x)(hm:X.mg x=none)(hv:bootBuiltins x=some (.builtin id))(ha:QA X (e::es) t)(hn:x≠ "__name__" :=by decide)(hdb:(x==("__debug__" :Str))=false:=by decide)
 (he:starEach (e::es) X.env=(false,eval e X.env)::starEach es X.env:=by rfl)(hpl:(backTo pos (starEach es X.env)).any (·.1)=false:=by rfl):QE X (.Call (.Name x p) (e::es) [] pos) (dCB r t):=(UT hc hg hm hv ha hn hdb he hpl).imp HL
theorem EO {T:String}{r:RDn}(hc:vJ X (.type T) r)(hg:Gl X x)(hm:X.mg x=none)(hv:bootBuiltins x=some (.type T))(ha:QA X (e::es) t)(hn:x≠ "__name__" :=by decide)(hdb:(x==("__debug__" :Str))=false:=by decide)
 (he:starEach (e::es) X.env=(false,eval e X.env)::starEach es X.env:=by rfl)(hpl:(backTo pos (starEach es X.env)).any (·.1)=false:=by rfl):QE X (.Call (.Name x p) (e::es) [] pos) (dCB r t):=(YG hc hg hm hv ha hn hdb he hpl).imp HL
end
def vB (N:List Str)(ds:List D):SD:=ds.map some++List.replicate (N.length-ds.length) none
theorem Mf {K:PySem.W.Frag}{H:Hp}{N:List Str}{ds:List D}{vs:List V}(r:RelDs K H ds vs):RelS K H (vB N ds) (start N vs):=by
 have hl:=r.length;refine⟨by unfold vB start;simp [hl],λi d e=> ?_⟩;unfold vB at e;unfold start
 by_cases hi:i<ds.length
 ·rw [D8 (by simpa using hi),P3] at e;cases q:ds[i]? with
  |none=>rw [q] at e;cases e
  |some d'=>
   rw [q] at e;cases e;obtain⟨v,e1,e2⟩:=r.get q;exact⟨v,by rw [D8 (by simpa [<-hl] using hi),P3,e1];rfl,e2⟩
 ·rw [P5 (by simpa using hi),G0P] at e;split at e<;>cases e
def Ll (Q:KD):EndsD:= {nx:=λ_ h=> ∃h',Sub h' h/\Q .non h',rt:=λd h=> ∃h',Sub h' h/\Q d h'}
section
variable {P:Program}{w:World}{K:PySem.W.Frag}{mg:Str->Option Value}{base:Heap}
theorem Fun.okD {x qual:Str}{st:Stmt}{f:Addr}{fd:FuncData}{N ps:List Str}{k:Nat}{spd:RDn}(F:Fun K x qual st f fd)(S:FnScope N ps (jf st))(len: ∀ds h Q,spd ds h Q->ds.length=ps.length)
 (tb:TSD)(hbody: ∀ (cdv:Value) (A:Around) (outer:List Env) (s:Shared) (H:Hp) (E:XK),Room k (A.deeper (envOfC qual (jf st) s.heap.objs.size f cdv))->QSs (An CX0 P w K mg base N qual (jf st) f cdv A outer s H E).nox (wX st) tb)
 (read: ∀ds h Q,spd ds h Q->tb (Ll Q) (vB N ds) h):FnOk P w K mg base CX0 (k+1) f fd ps (LSp K spd):=by
 refine F.ok S (λvs H Q E h=> ?_) (λcdv A outer s H vs Q E hr h=> ?_)
 ·obtain⟨ds,h,Qd,r,rh,q,p⟩:=h;rw [<-r.length];exact len _ _ _ q
 ·obtain⟨ds,h,Qd,r,rh,q,p⟩:=h;refine⟨_,hbody cdv A outer s H E hr,vB N ds,h,Ll Qd,Mf r,rh,read ds h Qd q,λσd' h' σ' H' k rs' rh' ⟨h2,sb,q'⟩=>p .non .non h2 H' k (rh'.sub sb) rfl q',λd v h' H' k rh' r' ⟨h2,sb,q'⟩=>p d v h2 H' k (rh'.sub sb) r' q',λ_ _ _ _ _ _ _ z=>z.elim,λ_ _ _ _ _ _ _ z=>z.elim⟩
end
section
variable {X:Cx}{iter elt:Expr}{te:TED}{ti:TID}{tt:TTD}{pos spos:Pos}{scope:Scope}{js:List Nat}{ifs:List Expr}
theorem Kf {i k:Nat}{x y:Str}{p py:Pos}(hc:X.calm=true)(hN:X.N.Nodup)(hk:X.N[k]? =some y)(hy:Loc X.env.scope y)(S:BlockOk X scope js)(hi:QI X (.Name x p) iter ti)(hj:i∈js)(hx:X.N[i]? =some x)(hl:scope.names.lookup x=some .local\/scope.names.lookup x=some .cell)
 (ht: ∀X',jp X scope X'->PTs X' ifs (LT X'.K tt))(he: ∀X',jp X scope X'->QE X' elt te)
 (hsw:swapsWith (.ListComp elt [⟨.Name x p,iter,ifs,0⟩] scope pos) (some (.Name y py)) spos.line X.env=pure true:=by rfl)
 (hf:X.fn y=true\/X.env.scope.names.lookup y=some .local:=by first|exact .inl rfl|exact .inr rfl|assumption)(hs: ∀x,foldedSetIterable iter X.env x=pure x:=by intro _;rfl):
 QS X (.Assign [.Name y py] (.ListComp elt [⟨.Name x p,iter,ifs,0⟩] scope pos) spos) (EB k (JL (bN i) js ti tt te)):=by
 have base:PS X (.Assign [.Name y py] (.ListComp elt [⟨.Name x p,iter,ifs,0⟩] scope pos) spos) (Ak (tLC js (LI X.K ti) (yF i) (LT X.K tt) (LE X.K te)) (yF k)):=
  Lf hc S hi (λX' hX=>by obtain⟨C,s₀,H₀,ex,rfl⟩:=hX;exact yn hN hx hl) (λX' hX=>by have:=ht X' hX;obtain⟨C,s₀,H₀,ex,rfl⟩:=hX;exact this)
   (λX' hX=>by have:=he X' hX;obtain⟨C,s₀,H₀,ex,rfl⟩:=hX;exact this) (JH hN hk hy hf) hsw hs
 exact base.imp λD σ H h=>by
  obtain⟨σd,hd,Qd,rs,rh,t,p⟩:=Be (K:=X.K) D σ H h;exact EJ (Kd hj) σ H _ ⟨σd,hd,Qd,rs,rh,t,p⟩
end
def dIn (i':Nat)(ti:TID)(tt:TTD)(te:TED)(V:List D->HD->Prop)(ys:List D):SD->HD->Prop:=λσ h=>ti σ h λj h1=> ∃ (n:Nat) (W:Nat->List D->HD->Prop),W 0 ys h1/\ ∀i ys h',W i ys h'->ys.length<=sizeLine/\
 ∃ds,j h'=some ds/\ds.length<=n/\(ds.length<=i->V ys h')/\
  ∀d,ds[i]? =some d->tt (σ.set i' (some d)) h' λb h3=>if b=true then te (σ.set i' (some d)) h3 λy h4=> ∃h5,Sub h5 h4/\W (i+1) (ys++ [y]) h5 else ∃h5,Sub h5 h3/\W (i+1) ys h5
def EQ (bind:D->SD->SD->Prop)(js:List Nat)(ti:TID)(tt:TTD)(i':Nat)(ti':TID)(tt':TTD)(te:TED):TED:=λσ h Q=>ti σ h λj h1=> ∃ (n:Nat) (W:Nat->List D->HD->Prop),W 0 [] h1/\ ∀i ys h',W i ys h'->ys.length<=sizeLine/\
 ∃ds,j h'=some ds/\ds.length<=n/\(ds.length<=i-> ∀p,h' p=none->Q (.lst p) (wq h' p ys))/\
  ∀d,ds[i]? =some d-> ∃σ2,bind d (jX js σ) σ2/\tt σ2 h' λb h3=>if b=true then dIn i' ti' tt' te (λys' h6=> ∃h5,Sub h5 h6/\W (i+1) ys' h5) ys σ2 h3 else ∃h5,Sub h5 h3/\W (i+1) ys h5
def Bg (K:PySem.W.Frag)(js:List Nat)(i':Nat)(bind:D->SD->SD->Prop)(g:TG):Prop:= ∀ (σ:St) (σd σd2:SD) (H:Hp) (d:D) (v:V) (Q:St->Hp->Prop),RelS K H (jX js σd) (wI js σ)->RelD K H d v->bind d (jX js σd) σd2->
 (∀σ2,Agree (wI js σ) σ2->(∀u,¬σ2[i']? =some (some u))->RelS K H σd2 σ2->Q σ2 H)->g v (wI js σ) H Q
theorem As {K:PySem.W.Frag}{js:List Nat}{i i':Nat}(hi:i∈js)(hi':i'∈js)(hne:i≠i'):Bg K js i' (bN i) (yF i):=λσ σd σd2 H d v Q rs r b q=>by
 cases (show σd2=_ from b);refine q _ (.set v λu=>we js σ i u hi) (λu z=> ?_) (rs.set r i);rw [F4 hne] at z;exact we js σ i' u hi' z
theorem At {K:PySem.W.Frag}{bind:D->SD->SD->Prop}{js:List Nat}{i':Nat}{ti ti':TID}{tt tt':TTD}{te:TED}{g:TG}(hb:Bg K js i' bind g): ∀σ H Q,LE K (EQ bind js ti tt i' ti' tt' te) σ H Q->kJ js (LI K ti) g (LT K tt) (LI K ti') (yF i') (LT K tt') (LE K te) σ H Q:=
 λσ H Q ⟨σd,h,Qd,rs,rh,q,p⟩=>by
  refine⟨σd,h,_,rs,rh,q,λj J h1 H1 k1 rh1 jo ⟨n,W,w0,turn⟩=> ?_⟩;refine⟨λi m ys H'=>m=n-i/\Kept H1 H'/\ ∃ds h',RelDs K H' ds ys/\RelH K h' H'/\W i ds h',⟨n-0,rfl,.refl _,[],h1,rfl,rh1,w0⟩,?_⟩;rintro i m ys H' ⟨rfl,kp,yd,h',ry,rh',w⟩;obtain⟨hz,ds,ej,hn,stop,go⟩:=turn i yd h' w;refine⟨by rw [<-ry.length];exact hz,?_⟩;have jo':=jo H' h' kp rh' ds ej i;have kk:Kept H H':=k1.trans kp
  by_cases hi:i<ds.length
  ·obtain⟨g1,y1⟩:=jo'.1 ds[i] (G1 hi);refine .inr ⟨g1,λx H'' y=> ?_⟩;obtain⟨k2,rh2,r2⟩:=y1 x H'' y;obtain⟨σd2,bd,q2⟩:=go ds[i] (G1 hi);refine hb σ σd σd2 H'' ds[i] x _ (((rs.mono (kk.trans k2))).clear js) r2 bd λσ2 ag un rs2=>⟨ag,?_⟩
   refine LT.bind rs2 rh2 q2 λb h3 H3 k3 rs3 rh3 q3=> ?_
   cases b with
   |true=>
    rw [if_pos rfl] at q3 ⊢
    -- the second clause
    refine⟨σd2,h3,_,rs3,rh3,q3,λj2 J2 h4 H4 k4 rh4 jo2 ⟨n2,W2,w20,turn2⟩=> ?_⟩;refine⟨λi2 m2 ys2 H5=>m2=n2-i2/\Kept H4 H5/\ ∃ds h5,RelDs K H5 ds ys2/\RelH K h5 H5/\W2 i2 ds h5,⟨n2-0,rfl,.refl _,yd,h4,ry.mono (k2.trans (k3.trans k4)),rh4,w20⟩,?_⟩;rintro i2 m2 ys2 H5 ⟨rfl,kp5,yd5,h5,ry5,rh5,w5⟩;obtain⟨hz5,ds5,ej5,hn5,stop5,go5⟩:=turn2 i2 yd5 h5 w5;refine⟨by rw [<-ry5.length];exact hz5,?_⟩;have jo5:=jo2 H5 h5 kp5 rh5 ds5 ej5 i2;have kk5:Kept H1 H5:=kp.trans (k2.trans (k3.trans (k4.trans kp5)))
    by_cases hi5:i2<ds5.length
    ·obtain⟨g5,y5⟩:=jo5.1 ds5[i2] (G1 hi5);refine .inr ⟨g5,λx6 H6 yy6=> ?_⟩;obtain⟨k6,rh6,r6⟩:=y5 x6 H6 yy6;refine⟨.set x6 un,?_⟩;have rs6:=(rs3.mono (k4.trans (kp5.trans k6))).set r6 i';refine LT.bind rs6 rh6 (go5 ds5[i2] (G1 hi5)) λb h7 H7 k7 rs7 rh7 q7=> ?_
     cases b with
     |true=>
      rw [if_pos rfl] at q7 ⊢;exact LE.bind rs7 rh7 q7 λd8 v8 h8 H8 k8 rs8 rh8 r8 ⟨h9,sb,w9⟩=>⟨n2-(i2+1),by omega,rfl,kp5.trans (k6.trans (k7.trans k8)),yd5++ [d8],h9,(ry5.mono (k6.trans (k7.trans k8))).append (.cons r8 .nil),rh8.sub sb,w9⟩
     |false=>
      rw [if_neg P7] at q7 ⊢;obtain⟨h9,sb,w9⟩:=q7;exact⟨n2-(i2+1),by omega,rfl,kp5.trans (k6.trans k7),yd5,h9,ry5.mono (k6.trans k7),rh7.sub sb,w9⟩
    ·obtain⟨h9,sb,w9⟩:=stop5 (U4.mp hi5);exact .inl ⟨jo5.2 (U4.mp hi5),n-(i+1),by omega,rfl,kk5,yd5,h9,ry5,rh5.sub sb,w9⟩
   |false=>
    rw [if_neg P7] at q3 ⊢;obtain⟨h5,sb,w5⟩:=q3;exact⟨n-(i+1),by omega,rfl,kp.trans (k2.trans k3),yd,h5,ry.mono (k2.trans k3),rh3.sub sb,w5⟩
  ·refine .inl ⟨jo'.2 (U4.mp hi),λa ha=>p (.lst a) (.ref a) _ _ (kk.trans (.new ha)) (rh'.newL ha ry) ⟨rfl,ys,jz⟩ (stop (U4.mp hi) a (rh'.free ha))⟩
section
variable {X:Cx}{iter iter' elt:Expr}{te:TED}{ti ti':TID}{tt tt':TTD}{pos:Pos}{scope:Scope}{js:List Nat}{ifs ifs':List Expr}
theorem qY {i i':Nat}{x y:Str}{p py:Pos}(hc:X.calm=true)(S:BlockOk X scope js)(hi:QI X (.Name x p) iter ti)(hj:i∈js)(hj':i'∈js)(hne:i≠i')(hN:X.N.Nodup)(hx:X.N[i]? =some x)(hy:X.N[i']? =some y)
 (hl:scope.names.lookup x=some .local\/scope.names.lookup x=some .cell)(hl':scope.names.lookup y=some .local\/scope.names.lookup y=some .cell)
 (ht: ∀X',jp X scope X'->PTs X' ifs (LT X'.K tt))(hi': ∀X',jp X scope X'->QI X' (.Name y py) iter' ti')(ht': ∀X',jp X scope X'->PTs X' ifs' (LT X'.K tt'))(he: ∀X',jp X scope X'->QE X' elt te)
 (hs: ∀x,foldedSetIterable iter X.env x=pure x:=by intro _;rfl)(hs': ∀env x,foldedSetIterable iter' env x=pure x:=by intro _ _;rfl):
 QE X (.ListComp elt [⟨.Name x p,iter,ifs,0⟩,⟨.Name y py,iter',ifs',0⟩] scope pos) (EQ (bN i) js ti tt i' ti' tt' te):=
 (show PE X _ (kJ js (LI X.K ti) (yF i) (LT X.K tt) (LI X.K ti') (yF i') (LT X.K tt') (LE X.K te)) from HE hc S hi (λX' hX=>by obtain⟨C,s₀,H₀,ex,rfl⟩:=hX;exact yn hN hx hl) (λX' hX=>by have:=ht X' hX;obtain⟨C,s₀,H₀,ex,rfl⟩:=hX;exact this) (λX' hX=>by have:=hi' X' hX;obtain⟨C,s₀,H₀,ex,rfl⟩:=hX;exact this)
  (λX' hX=>by obtain⟨C,s₀,H₀,ex,rfl⟩:=hX;exact yn hN hy hl') (λX' hX=>by have:=ht' X' hX;obtain⟨C,s₀,H₀,ex,rfl⟩:=hX;exact this)
  (λX' hX=>by have:=he X' hX;obtain⟨C,s₀,H₀,ex,rfl⟩:=hX;exact this) hs hs').imp (At (As hj hj' hne))
end
def qZ:RD2:=λx y h Q=>match x,y with
 | .int i,.int j=>Q (.int (i+j)) h
 | .tup a,.tup b=>a.length+b.length<=sizeLine/\Q (.tup (a++b)) h
 | .lst a,.lst b=> ∃xs ys,h a=some xs/\h b=some ys/\xs.length+ys.length<=sizeLine/\ ∀p,h p=none->Q (.lst p) (wq h p (xs++ys))
 |_,_=>False
def xX:RD2:=λx y h Q=>match x,y with
 | .int i,.int j=>Q (.int (i-j)) h
 |_,_=>False
def xY:RD2:=λx y h Q=>match x,y with
 | .int i,.int j=>CMul i j/\Q (.int (i*j)) h
 | .lst a,.int k=> ∃xs,h a=some xs/\ -(2^63)<=k/\k<2^63/\xs.length*k.toNat<=sizeLine/\ ∀p,h p=none->Q (.lst p) (wq h p (List.replicate k.toNat xs).flatten)
 |_,_=>False
def jaa:RD2:=λx y h Q=>match x,y with
 | .int i,.int j=>0<j/\Q (.int (i%j)) h
 |_,_=>False
def uV:RD2:=λx y h Q=>match x,y with
 | .int i,.int j=>xN i j/\Q (.int (i / j)) h
 |_,_=>False
def xZ:RD2:=λx y h Q=>match x,y with
 | .int i,.int j=>xO i j/\Q (.int (i^j.toNat)) h
 |_,_=>False
def Au (p:Int->Int->Bool):RD2:=λx y h Q=>match x,y with
 | .int i,.int j=>Q (.bl (p i j)) h
 |_,_=>False
def eqD:RD2:=λx y h Q=>match x,y with
 | .int i,.int j=>Q (.bl (decide (i=j))) h
 | .bl i,.bl j=>Q (.bl (decide (i=j))) h
 | .str i,.str j=>Q (.bl (decide (i=j))) h
 |_,_=>False
def neD:RD2:=λx y h Q=>match x,y with
 | .int i,.int j=>Q (.bl (!decide (i=j))) h
 | .bl i,.bl j=>Q (.bl (!decide (i=j))) h
 | .str i,.str j=>Q (.bl (!decide (i=j))) h
 |_,_=>False
section
variable {X:Cx}
theorem Pr {f:Value->Value->Sem Value}{C:Int->Int->Prop}{g:Int->Int->V}{gd:Int->Int->D}{r:RD2}(ho:OpR X f (rI C g))(hg: ∀i j H,RelD X.K H (gd i j) (g i j))
 (hr: ∀x y h Q,r x y h Q-> ∃i j,x= .int i/\y= .int j/\C i j/\Q (gd i j) h):OpQ X f r:=ho.imp λx y H Q ⟨dx,dy,h,Qd,rx,ry,rh,q,p⟩=>by
 obtain⟨i,j,e1,e2,c,q'⟩:=hr dx dy h Qd q;subst e1 e2;exact⟨i,j,rx,ry,c,p _ _ _ _ (.refl H) rh (hg i j H) q'⟩
theorem ZJ {f:Value->Value->Sem Value}{g:Int->Int->V}{gd:Int->Int->D}{r:RD2}(ho:OpR X f (rI0 g))(hg: ∀i j H,RelD X.K H (gd i j) (g i j))
 (hr: ∀x y h Q,r x y h Q-> ∃i j,x= .int i/\y= .int j/\Q (gd i j) h):OpQ X f r:=ho.imp λx y H Q ⟨dx,dy,h,Qd,rx,ry,rh,q,p⟩=>by
 obtain⟨i,j,e1,e2,q'⟩:=hr dx dy h Qd q;subst e1 e2;exact⟨i,j,rx,ry,p _ _ _ _ (.refl H) rh (hg i j H) q'⟩
theorem YU:OpQ X (binaryOp .Sub) xX:=ZJ (gd:=λi j=> .int (i-j)) Hg (λ_ _ _=>rfl) λx y h Q q=>by
 cases x<;>cases y<;>first|exact False.elim q|exact⟨_,_,rfl,rfl,q⟩
theorem wJ:OpQ X (binaryOp .Mod) jaa:=Pr (gd:=λi j=> .int (i%j)) Hh (λ_ _ _=>rfl) λx y h Q q=>by
 cases x<;>cases y<;>first|exact False.elim q|exact⟨_,_,rfl,rfl,q.1,q.2⟩
theorem ER:OpQ X (binaryOp .FloorDiv) uV:=Pr (gd:=λi j=> .int (i / j)) Ea (λ_ _ _=>rfl) λx y h Q q=>by
 cases x<;>cases y<;>first|exact False.elim q|exact⟨_,_,rfl,rfl,q.1,q.2⟩
theorem Kg:OpQ X (binaryOp .Pow) xZ:=Pr (gd:=λi j=> .int (i^j.toNat)) Hi (λ_ _ _=>rfl) λx y h Q q=>by
 cases x<;>cases y<;>first|exact False.elim q|exact⟨_,_,rfl,rfl,q.1,q.2⟩
theorem Xd {p:Int->Int->Bool}: ∀x y h Q,Au p x y h Q-> ∃i j,x= .int i/\y= .int j/\Q (.bl (p i j)) h:=λx y h Q q=>by
 cases x<;>cases y<;>first|exact False.elim q|exact⟨_,_,rfl,rfl,q⟩
theorem ES:OpQ X (compareOp .Lt) (Au λi j=>decide (i<j)):=ZJ (gd:=λi j=> .bl (decide (i<j))) uf (λ_ _ _=>rfl) Xd
theorem Bh:OpQ X (compareOp .LtE) (Au λi j=>decide (i<=j)):=ZJ (gd:=λi j=> .bl (decide (i<=j))) ug (λ_ _ _=>rfl) Xd
theorem Kh:OpQ X (compareOp .Gt) (Au λi j=>decide (j<i)):=ZJ (gd:=λi j=> .bl (decide (j<i))) uh (λ_ _ _=>rfl) Xd
theorem Ki:OpQ X (compareOp .GtE) (Au λi j=>decide (j<=i)):=ZJ (gd:=λi j=> .bl (decide (j<=i))) ui (λ_ _ _=>rfl) Xd
theorem Tp {α:Type}[DecidableEq α]{f:α->V}(hf: ∀a b,f a=f b->a=b)(a b:α):decide (f a=f b)=decide (a=b):=by
 by_cases h:a=b
 ·subst h;simp
 ·rw [D7 h,D7 (λe=>h (hf a b e))]
theorem oq_eq:OpQ X (compareOp .Eq) eqD:=op_eq.imp λx y H Q ⟨dx,dy,h,Qd,rx,ry,rh,q,p⟩=>by
 cases dx<;>cases dy<;>first
  |exact False.elim q
  |(cases (show x= .int _ from rx);cases (show y= .int _ from ry);refine⟨rfl,p _ _ _ _ (.refl H) rh ?_ q⟩;rw [Tp (f:=V.int) (λa b e=>by cases e;rfl)];rfl)
  |(cases (show x= .bl _ from rx);cases (show y= .bl _ from ry);refine⟨rfl,p _ _ _ _ (.refl H) rh ?_ q⟩;rw [Tp (f:=V.bl) (λa b e=>by cases e;rfl)];rfl)
  |(cases (show x= .str _ from rx);cases (show y= .str _ from ry);refine⟨rfl,p _ _ _ _ (.refl H) rh ?_ q⟩;rw [Tp (f:=V.str) (λa b e=>by cases e;rfl)];rfl)
theorem oq_ne:OpQ X (compareOp .NotEq) neD:=op_ne.imp λx y H Q ⟨dx,dy,h,Qd,rx,ry,rh,q,p⟩=>by
 cases dx<;>cases dy<;>first
  |exact False.elim q
  |(cases (show x= .int _ from rx);cases (show y= .int _ from ry);refine⟨rfl,p _ _ _ _ (.refl H) rh ?_ q⟩;rw [Tp (f:=V.int) (λa b e=>by cases e;rfl)];rfl)
  |(cases (show x= .bl _ from rx);cases (show y= .bl _ from ry);refine⟨rfl,p _ _ _ _ (.refl H) rh ?_ q⟩;rw [Tp (f:=V.bl) (λa b e=>by cases e;rfl)];rfl)
  |(cases (show x= .str _ from rx);cases (show y= .str _ from ry);refine⟨rfl,p _ _ _ _ (.refl H) rh ?_ q⟩;rw [Tp (f:=V.str) (λa b e=>by cases e;rfl)];rfl)
def Kj (K:PySem.W.Frag):R2:=λx y H Q=> ∃a b xs ys,x= .ref a/\y= .ref b/\SqT K H a xs/\SqT K H b ys/\xs= []/\Q (.ref b) H
theorem op_catT0:OpR X (binaryOp .Add) (Kj X.K):=by
 intro pins s σ H x y v u Q I rx ry h;obtain⟨a,b,xs,ys,rfl,rfl,ha,hb,hx,q⟩:=h;cases rx;cases ry;obtain⟨its,r1,p1,_⟩:=I.tuple ha;obtain⟨its2,r2,p2,_⟩:=I.tuple hb;have hv:its= []:=r1.nil_iff.mpr hx;obtain⟨⟨cls,dd,data,sl⟩,ho,hc,n,hd⟩:=id p1;obtain⟨⟨cls2,dd2,data2,sl2⟩,ho2,hc2,n2,hd2⟩:=id p2;simp only at hc hd hc2 hd2;subst hc hd hc2 hd2;exact concat_meets ⟨_,ho,rfl⟩ ⟨_,ho2,rfl⟩ G0U seq_tuple_add X4 W3 (V5 _ _)
  (tuple_addW0 a b its.toArray its2.toArray n n2 dd dd2 sl sl2 (by simp [hv])) ⟨ho,ho2,.ref b,H,I,rfl,q⟩
theorem wK:OpQ X (binaryOp .Add) qZ:=(op_add.or (op_catT.or (op_catT0.or Hu))).imp λx y H Q ⟨dx,dy,h,Qd,rx,ry,rh,q,p⟩=>by
 cases dx<;>cases dy<;>first
  |exact False.elim q
  |skip
 ·exact .inl ⟨_,_,rx,ry,p (.int _) _ _ _ (.refl H) rh rfl q⟩
 ·rename_i ds es;obtain⟨a,vs,e1,h1,r1⟩:=(show ∃a vs,x= .ref a/\H a=some (.tup vs)/\RelDs X.K H ds vs from rx);obtain⟨b,us,e2,h2,r2⟩:=(show ∃a vs,y= .ref a/\H a=some (.tup vs)/\RelDs X.K H es vs from ry);subst e1 e2;obtain⟨hz,q⟩:=q
  by_cases hv:vs= []
  ·subst hv;have e:ds= []:=Q3.mp r1.length;subst e;exact .inr (.inr (.inl ⟨a,b,[],us,rfl,rfl,SqT.of h1,SqT.of h2,rfl,p (.tup es) _ _ _ (.refl H) rh ⟨b,us,rfl,h2,r2⟩ q⟩))
  ·refine .inr (.inl ⟨a,b,vs,us,rfl,rfl,SqT.of h1,SqT.of h2,hv,by rw [<-r1.length,<-r2.length];exact hz,λe=> ?_,λ_ c hc=> ?_⟩)
   ·subst e;have e:es= []:=Q3.mp r2.length;subst e;rw [F7] at q;exact p (.tup ds) _ _ _ (.refl H) rh ⟨a,vs,rfl,h1,r1⟩ q
   ·exact p (.tup (ds++es)) _ _ _ (.new hc) (rh.new hc) ⟨c,vs++us,rfl,jz,(r1.append r2).mono (.new hc)⟩ q
 ·rename_i a b;obtain⟨xs,ys,h1,h2,hz,q⟩:=q;obtain⟨vs,e1,r1⟩:=rh a xs h1;obtain⟨us,e2,r2⟩:=rh b ys h2;refine .inr (.inr (.inr ⟨a,b,vs,us,rx.1,ry.1,e1,e2,by rw [<-r1.length,<-r2.length];exact hz,λc hc=> ?_⟩));exact p (.lst c) _ _ _ (.new hc) (rh.newL hc (r1.append r2)) ⟨rfl,_,jz⟩ (q c (rh.free hc))
theorem RelDs.flat {K:PySem.W.Frag}{H:Hp}{ds:List D}{vs:List V}(r:RelDs K H ds vs): ∀k:Nat,RelDs K H (List.replicate k ds).flatten (List.replicate k vs).flatten
 |0=>by simp;exact .nil
 |k+1=>by rw [O7,O7,K6,K6];exact r.append (RelDs.flat r k)
theorem oq_mul:OpQ X (binaryOp .Mult) xY:=(op_mul.or Hv).imp λx y H Q ⟨dx,dy,h,Qd,rx,ry,rh,q,p⟩=>by
 cases dx<;>cases dy<;>first
  |exact False.elim q
  |skip
 ·exact .inl ⟨_,_,rx,ry,q.1,p (.int _) _ _ _ (.refl H) rh rfl q.2⟩
 ·obtain⟨xs,h1,b1,b2,hz,q⟩:=q;obtain⟨vs,e1,r1⟩:=rh _ xs h1;refine .inr ⟨_,_,vs,rx.1,ry,e1,b1,b2,by rw [<-r1.length];exact hz,λc hc=> ?_⟩;exact p (.lst c) _ _ _ (.new hc) (rh.newL hc (r1.flat _)) ⟨rfl,_,jz⟩ (q c (rh.free hc))
end
def ixD:RD2:=λx y h Q=>match x,y with
 | .tup ds,.int i=> ∃d,atI ds i=some d/\Q d h
 | .lst a,.int i=> ∃ds d,h a=some ds/\atI ds i=some d/\Q d h
 | .scr ns,.int i=> ∃n,atI ns i=some n/\Q (.int n) h
 |_,_=>False
theorem Bi {K:PySem.W.Frag}{H:Hp}{ds:List D}{vs:List V}(r:RelDs K H ds vs){i:Int}{d:D}(e:atI ds i=some d): ∃v,atI vs i=some v/\RelD K H d v:=by
 unfold atI at e ⊢;rw [<-r.length];cases q:ixN ds.length i with
 |none=>rw [q] at e;cases e
 |some j=>rw [q] at e;exact r.get e
theorem ET {α β:Type}(f:α->β){xs:List α}{i:Int}{x:α}(e:atI xs i=some x):atI (xs.map f) i=some (f x):=by
 unfold atI at e ⊢;rw [G0];cases q:ixN xs.length i with
 |none=>rw [q] at e;cases e
 |some j=>
  rw [q] at e;show (xs.map f)[j]? =_;rw [P3,(show xs[j]? =some x from e)];rfl
section
variable {X:Cx}{a b e:Expr}{ta tb te:TED}{pos p2:Pos}
theorem uW: ∀σ H Q,LE X.K (dOp ixD ta tb) σ H Q->tOp (rIx X.K) (LE X.K ta) (LE X.K tb) σ H Q:=λσ H Q ⟨σd,h,Qd,rs,rh,t,p⟩=>
 LE.bind rs rh t λdx x h1 H1 k1 rs1 rh1 r1 t1=>LE.bind rs1 rh1 t1 λdy y h2 H2 k2 rs2 rh2 ry q=>by
  have rx:=r1.mono k2;have kk:=k1.trans k2;cases dx<;>cases dy<;>first
   |exact False.elim q
   |skip
  ·rename_i ds i;obtain⟨d,e,q⟩:=q;obtain⟨a,vs,e1,hH,r⟩:=(show ∃a vs,x= .ref a/\H2 a=some (.tup vs)/\RelDs X.K H2 ds vs from rx);obtain⟨v,e2,rv⟩:=Bi r e;exact .inr (.inl ⟨a,vs,i,v,e1,ry,SqT.of hH,e2,p _ _ _ _ kk rh2 rv q⟩)
  ·rename_i a i;obtain⟨ds,d,hd,e,q⟩:=q;obtain⟨vs,hH,r⟩:=rh2 a ds hd;obtain⟨v,e2,rv⟩:=Bi r e;exact .inl ⟨a,vs,i,v,rx.1,ry,SqL.of hH,e2,p _ _ _ _ kk rh2 rv q⟩
  ·rename_i ns i;obtain⟨n,e,q⟩:=q;obtain⟨a,e1,hS⟩:=(show ∃a,x= .ref a/\Scr X.K H2 a ns from rx);exact .inl ⟨a,_,i,.int n,e1,ry,hS.sq,ET V.int e,p (.int n) _ _ _ kk rh2 rfl q⟩
theorem qix (ha:QE X a ta)(hb:QE X b tb)(hs:Po b):QE X (.Subscript a b pos) (dOp ixD ta tb):=(uo Hs ha hb hs).imp uW
end
def Kk:RDn:=λds h Q=>match ds with
 | [.tup xs]=>Q (.int xs.length) h
 | [.lst a]=> ∃xs,h a=some xs/\Q (.int xs.length) h
 | [.scr ns]=>Q (.int ns.length) h
 |_=>False
def xa:RDn:=λds h Q=>match ds with
 | [.int i]=>Q (.int i) h
 | [.bl k]=>Q (.int (if k then 1 else 0)) h
 |_=>False
def xb:RDn:=λds h Q=>match ds with
 | [.int i,.int j]=>Q (.int (if j>i then j else i)) h
 |_=>False
def Av:RDn:=λds h Q=>match ds with
 | [.tup xs]=>Q (.tup xs) h
 | [.lst a]=> ∃xs,h a=some xs/\Q (.tup xs) h
 |_=>False
def Jx:RDn:=λds h Q=>match ds with
 | [.lst a]=> ∃xs,h a=some xs/\Q (.tup xs) (Xa h a)
 |_=>False
section
variable {X:Cx}
theorem za:vJ X (.builtin "len") Kk:=call_len_seq.imp λxs H Q ⟨ds,h,Qd,r,rh,q,p⟩=>by
 unfold Kk at q;split at q
 ·rename_i es;obtain⟨v,e,r1⟩:=jF r;obtain⟨a,vs,e1,hH,r2⟩:=(show ∃a vs,v= .ref a/\H a=some (.tup vs)/\RelDs X.K H es vs from r1);subst e e1;exact⟨a,vs,rfl,.inr (SqT.of hH),by rw [<-r2.length];exact p (.int _) _ _ _ (.refl H) rh rfl q⟩
 ·rename_i a;obtain⟨es,hd,q⟩:=q;obtain⟨v,e,r1⟩:=jF r;obtain⟨vs,hH,r2⟩:=rh a es hd;have e1:v= .ref a:=r1.1;subst e e1;exact⟨a,vs,rfl,.inl (SqL.of hH),by rw [<-r2.length];exact p (.int _) _ _ _ (.refl H) rh rfl q⟩
 ·rename_i ns;obtain⟨v,e,r1⟩:=jF r;obtain⟨a,e1,hS⟩:=(show ∃a,v= .ref a/\Scr X.K H a ns from r1);subst e e1;exact⟨a,_,rfl,.inl hS.sq,by rw [G0];exact p (.int _) _ _ _ (.refl H) rh rfl q⟩
 ·exact q.elim
theorem Kl:vJ X (.type "int") xa:=call_int1.imp λxs H Q ⟨ds,h,Qd,r,rh,q,p⟩=>by
 unfold xa at q;split at q
 ·rename_i i;obtain⟨v,e,r1⟩:=jF r;cases (show v= .int i from r1);exact .inl ⟨i,e,p (.int i) _ _ _ (.refl H) rh rfl q⟩
 ·rename_i k;obtain⟨v,e,r1⟩:=jF r;cases (show v= .bl k from r1);exact .inr ⟨k,e,p (.int _) _ _ _ (.refl H) rh rfl q⟩
 ·exact q.elim
theorem Km (hc:X.calm=true):vJ X (.builtin "max") xb:=(NH hc).imp λxs H Q ⟨ds,h,Qd,r,rh,q,p⟩=>by
 unfold xb at q;split at q
 ·rename_i i j;obtain⟨v,w,e,r1,r2⟩:=yJ r;cases (show v= .int i from r1);cases (show w= .int j from r2);exact⟨i,j,e,p (.int _) _ _ _ (.refl H) rh rfl q⟩
 ·exact q.elim
theorem cq_tuple:vJ X (.type "tuple") Av:=call_tuple_of.imp λxs H Q ⟨ds,h,Qd,r,rh,q,p⟩=>by
 unfold Av at q;split at q
 ·rename_i es;obtain⟨v,e,r1⟩:=jF r;obtain⟨a,vs,e1,hH,r2⟩:=(show ∃a vs,v= .ref a/\H a=some (.tup vs)/\RelDs X.K H es vs from r1);subst e e1;exact⟨a,vs,rfl,.inr ⟨SqT.of hH,p (.tup es) _ _ _ (.refl H) rh ⟨a,vs,rfl,hH,r2⟩ q⟩⟩
 ·rename_i a;obtain⟨es,hd,q⟩:=q;obtain⟨v,e,r1⟩:=jF r;obtain⟨vs,hH,r2⟩:=rh a es hd;have e1:v= .ref a:=r1.1;subst e e1;exact⟨a,vs,rfl,.inl ⟨SqL.of hH,λc hc=>p (.tup es) _ _ _ (.new hc) (rh.new hc) ⟨c,vs,rfl,jz,r2.mono (.new hc)⟩ q⟩⟩
 ·exact q.elim
theorem wg:vJ X (.type "tuple") Jx:=cq_tuple.imp λxs H Q ⟨ds,h,Qd,r,rh,q,p⟩=>by
 unfold Jx at q;split at q
 ·rename_i a;obtain⟨es,hd,q⟩:=q;exact⟨[.lst a],h,λd h'=>Qd d (Xa h' a),r,rh,⟨es,hd,q⟩,λd v h' H' k rh' rd q'=>p d v _ H' k (rh'.sub (Sub.drop h' a)) rd q'⟩
 ·exact q.elim
end
def Qw:D->Option String
 | .non=>some "NoneType" | .bl _=>some "bool" | .int _=>some "int" | .str _=>some "str" | .tup _=>some "tuple" | .lst _=>some "list" | .dic _ _=>some "dict" | .dct _=>none| .scr _=>none| .exc _=>none| .fn _=>none
def Kn (T:String)(n:String):Bool:=n==T||(T== "int" &&n== "bool")
theorem Lm {K:PySem.W.Frag}{H:Hp}{d:D}{v:V}{n:String}(r:RelD K H d v)(e:Qw d=some n):TyOf K H v (.type n):=by
 cases d with
 |non=>cases (show v= .non from r);cases e;exact .non
 |bl b=>cases (show v= .bl b from r);cases e;exact .bl b
 |int i=>cases (show v= .int i from r);cases e;exact .int i
 |str x=>cases (show v= .str x from r);cases e;exact .str x
 |tup ds=>
  obtain⟨a,vs,e1,hH,_⟩:=(show ∃a vs,v= .ref a/\H a=some (.tup vs)/\RelDs K H ds vs from r);subst e1;cases e;exact .tup hH
 |lst a=>
  obtain⟨e1,vs,hH⟩:=(show v= .ref a/\ ∃vs,H a=some (.lst vs) from r);subst e1;cases e;exact .lst hH
 |dic x i=>
  obtain⟨a,e1,hH⟩:=(show ∃a,v= .ref a/\H a=some (.dK [(Sum.inr x,V.int i)]) from r);subst e1;cases e;exact .dK hH
 |dct a=>cases e
 |scr ns=>cases e
 |exc C=>cases e
 |fn a=>cases e
def EU:List String:= ["NoneType","bool","int","str","tuple","list","dict"]
theorem Mg {d:D}{n:String}(e:Qw d=some n):n∈EU:=by
 cases d<;>cases e<;>decide
def xf (K:PySem.W.Frag):Prop:= ∀n∈EU,∀T∈ ["tuple","int","bool","list","str"],PySem.W.kitOne K (.type n) (.type T)=some (Kn T n)
theorem EV (K:PySem.W.Frag):xf K:=by
 intro n hn T hT;simp only [EU,R0,N5,Y6] at hn hT;rcases hn with rfl|rfl|rfl|rfl|rfl|rfl|rfl<;>rcases hT with rfl|rfl|rfl|rfl|rfl<;>with_unfolding_all rfl
theorem Bj {X:Cx}(T:String):CallR X (.builtin "isinstance") (λxs H Q=> ∃x t b,xs= [x,.ty T]/\TyOf X.K H x t/\PySem.W.kitOne X.K t (.type T)=some b/\Q (.bl b) H):=by
 intro pins s σ H xs us Q I r h;obtain⟨x,t,b,rfl,ty,e,q⟩:=h;obtain⟨u,w',rfl,rx,rt⟩:=FV r;cases (show w'=Value.type T from rt);exact NJ I rx ty e λtk=>⟨.bl b,H,I.tok tk,rfl,q⟩
def dIs (T:String)(ta:TED):TED:=λσ h Q=>ta σ h λx h1=> ∃n,Qw x=some n/\Q (.bl (Kn T n)) h1
theorem xg {X:Cx}{a:Expr}{ta:TED}{T:String}{t:Str}{p p2 pos:Pos}(hT:T∈ ["tuple","int","bool","list","str"])(hg:Gl X "isinstance")(hm:X.mg "isinstance" =none)(hg2:Gl X t)(hm2:X.mg t=none)(hv:bootBuiltins t=some (.type T))(ha:QE X a ta)
 (hn:t≠ "__name__" :=by decide)(hd:(t==("__debug__" :Str))=false:=by decide)
 (h1:starEach [a,.Name t p2] X.env=(false,eval a X.env)::starEach [.Name t p2] X.env:=by rfl)(h2:(backTo pos (starEach [.Name t p2] X.env)).any (·.1)=false:=by rfl):
 QE X (.Call (.Name "isinstance" p) [a,.Name t p2] [] pos) (dIs T ta):=
 (UT (Bj T) hg hm PyProof.Rows.boot_isinstance (yS ha (yS (AU (v:= .ty T) hg2 hm2 hv rfl hn hd) pa_nil (by rfl)) h1) (by decide) (by decide) h1 h2).imp
  λσ H Q ⟨σd,h,Qd,rs,rh,t,p⟩=>LE.bind rs rh t λd v h1 H1 k1 rs1 rh1 r1 ⟨n,e,q⟩=>⟨v,.type n,Kn T n,rfl,Lm r1 e,EV _ n (Mg e) T hT,p (.bl _) _ _ _ k1 rh1 rfl q⟩
theorem Bk (bs:List Bool):(List.range bs.length).all (λi=>bs.getD i false)=bs.all id:=by
 induction bs with
 |nil=>rfl
 |cons b bs ih=>
  rw [P9,I0,List.all_cons,A5,List.all_cons];show (b&&_)=(b&&bs.all id);rw [<-ih];rfl
theorem Bl (bs:List Bool):(List.range bs.length).any (λi=>bs.getD i false)=bs.any id:=by
 induction bs with
 |nil=>rfl
 |cons b bs ih=>
  rw [P9,I0,G0b,G1A,G0b];show (b||_)=(b||bs.any id);rw [<-ih];rfl
theorem Qx {bs:List Bool}{its:List Value}(r:Vals (bs.map V.bl) its){i:Nat}{v:Value}(e:its[i]? =some v):v= .bool (bs.getD i false):=by
 have hl:=r.length;rw [G0] at hl;have hi:i<its.length:=(G7.mp e).1;have hb:(bs.map V.bl)[i]? =some (.bl bs[i]):=by rw [P3,G1 (by omega)];rfl
 obtain⟨u,e1,r1⟩:=r.get hb;rw [e] at e1;cases e1;rw [G3,G1 (by omega)];exact r1
section
variable {X:Cx}
theorem Xe (hc:X.calm=true):CallR X (.builtin "all") (λxs H Q=> ∃ (a:Addr) (bs:List Bool),xs= [.ref a]/\SqL X.K H a (bs.map V.bl)/\Q (.bl (bs.all id)) H):=by
 intro pins s σ H xs us Q I r h;obtain⟨a,bs,rfl,hS,q⟩:=h;obtain⟨u,rfl,ru⟩:=Jm r;cases ru;obtain⟨its,rv,pl,hz⟩:=I.list hS;have hl:=pl.isList;have hlt:a<s.heap.objs.size:=by obtain⟨_,e,_⟩:=hl;exact D3 e
 refine call_all_walk (K3 hl ?_);refine⟨s.heap.objs.size,_,_,_,_,_,λi=>bs.getD i false,rfl,G1z (A:=X.A.in1) (show X.A.in1.handled=none from I.ok.hd hc) s.heap.objs.size a (S4 hlt) its.toArray,⟨⟨_,D6 _ rfl,rfl,rfl⟩,hl.push _⟩,?_,λh' tk hk=> ?_⟩
 ·intro i v s' Q' E' hP hQ;have e:its[i]? =some v:=by simpa using hP
  rw [Qx rv e];exact B0 hQ
 ·have hn:its.toArray.size=bs.length:=by rw [D0,<-rv.length,G0]
  rw [hn,Bk];exact⟨.bl _,H,I.kept (t':=tk) (λb o e=>hk b o (λz=>by rw [G5.mp z] at e;exact absurd (D3 e) (M9 _)) (G2 _ e)),rfl,q⟩
theorem Xf (hc:X.calm=true):CallR X (.builtin "any") (λxs H Q=> ∃ (a:Addr) (bs:List Bool),xs= [.ref a]/\SqL X.K H a (bs.map V.bl)/\Q (.bl (bs.any id)) H):=by
 intro pins s σ H xs us Q I r h;obtain⟨a,bs,rfl,hS,q⟩:=h;obtain⟨u,rfl,ru⟩:=Jm r;cases ru;obtain⟨its,rv,pl,hz⟩:=I.list hS;have hl:=pl.isList;have hlt:a<s.heap.objs.size:=by obtain⟨_,e,_⟩:=hl;exact D3 e
 refine call_any_walk (K3 hl ?_);refine⟨s.heap.objs.size,_,_,_,_,_,λi=>bs.getD i false,rfl,G1z (A:=X.A.in1) (show X.A.in1.handled=none from I.ok.hd hc) s.heap.objs.size a (S4 hlt) its.toArray,⟨⟨_,D6 _ rfl,rfl,rfl⟩,hl.push _⟩,?_,λh' tk hk=> ?_⟩
 ·intro i v s' Q' E' hP hQ;have e:its[i]? =some v:=by simpa using hP
  rw [Qx rv e];exact B0 hQ
 ·have hn:its.toArray.size=bs.length:=by rw [D0,<-rv.length,G0]
  rw [hn,Bl];exact⟨.bl _,H,I.kept (t':=tk) (λb o e=>hk b o (λz=>by rw [G5.mp z] at e;exact absurd (D3 e) (M9 _)) (G2 _ e)),rfl,q⟩
theorem JM {K:PySem.W.Frag}{H:Hp}: ∀ {bs:List Bool} {vs:List V},RelDs K H (bs.map D.bl) vs->vs=bs.map V.bl
 | [],_,h=>h
 |b::bs,vs,h=>by
  obtain⟨v,r,e,h1,h2⟩:=(show ∃v r,vs=v::r/\RelD K H (.bl b) v/\RelDs K H (bs.map D.bl) r from h);rw [e,JM h2,(show v= .bl b from h1)];rfl
def EW:RDn:=λds h Q=> ∃ (a:Addr) (bs:List Bool),ds= [.lst a]/\h a=some (bs.map D.bl)/\Q (.bl (bs.all id)) (Xa h a)
def xh:RDn:=λds h Q=> ∃ (a:Addr) (bs:List Bool),ds= [.lst a]/\h a=some (bs.map D.bl)/\Q (.bl (bs.any id)) (Xa h a)
theorem YV (hc:X.calm=true):vJ X (.builtin "all") EW:=(Xe hc).imp λxs H Q ⟨ds,h,Qd,r,rh,⟨a,bs,e,hd,q⟩,p⟩=>by
 subst e;obtain⟨v,e,r1⟩:=jF r;obtain⟨vs,hH,r2⟩:=rh a _ hd;have e1:v= .ref a:=r1.1;rw [JM r2] at hH;subst e e1;exact⟨a,bs,rfl,SqL.of hH,p (.bl _) _ _ _ (.refl H) (rh.sub (Sub.drop h a)) rfl q⟩
theorem Ko (hc:X.calm=true):vJ X (.builtin "any") xh:=(Xf hc).imp λxs H Q ⟨ds,h,Qd,r,rh,⟨a,bs,e,hd,q⟩,p⟩=>by
 subst e;obtain⟨v,e,r1⟩:=jF r;obtain⟨vs,hH,r2⟩:=rh a _ hd;have e1:v= .ref a:=r1.1;rw [JM r2] at hH;subst e e1;exact⟨a,bs,rfl,SqL.of hH,p (.bl _) _ _ _ (.refl H) (rh.sub (Sub.drop h a)) rfl q⟩
end
def qc (to:TED)(te:TED):TED:=λσ h Q=>to σ h λx h1=> ∃a,x= .lst a/\te σ h1 λy h2=> ∃xs,h2 a=some xs/\xs.length<sizeLine/\Q .non (wq h2 a (xs++ [y]))
section
variable {X:Cx}{o e i:Expr}{to te ti:TED}{apos cpos pos:Pos}
theorem jab (ho:QE X o to)(he:QE X e te)(hbase:attributeBase o "append" X.env (eval o X.env)=eval o X.env:=by rfl)
 (hfew:((backTo cpos (starEach [e] X.env)).all (λx=> !x.1)&&(backToKw cpos (keywordEach [] X.env)).all (λx=>x.1.isSome)&&decide ([e].length+([]:List Keyword).length+(if ([]:List Keyword).isEmpty then 0 else 1)<30))=true:=by rfl)
 (hline:(apos.endLine==cpos.line)=true:=by rfl)(hs:starEach [e] X.env=(false,eval e X.env)::starEach [] X.env:=by rfl)(hplain:(backTo cpos (starEach [] X.env)).any (·.1)=false:=by rfl):
 QE X (.Call (.Attribute o "append" apos) [e] [] cpos) (qc to te):=
 (Ek W5 PySem.F.slot_list_append PySem.F.type_list_append NO ho (yS he pa_nil hs) hbase hfew hline hs hplain).imp
  λσ H Q ⟨σd,h,Qd,rs,rh,t,p⟩=>LE.bind rs rh t λd v h1 H1 k1 rs1 rh1 r1 ⟨a,e,q⟩=>by
   subst e;obtain⟨e1,vs,hH⟩:=(show v= .ref a/\ ∃vs,H1 a=some (.lst vs) from r1);subst e1;refine⟨.inl ⟨rfl,vs,SqL.of hH⟩,?_⟩;refine LE.bind rs1 rh1 q λy u h2 H2 k2 rs2 rh2 r2 ⟨xs,hx,hz,q2⟩=> ?_
   obtain⟨ws,hW,r3⟩:=rh2 a xs hx;refine⟨a,ws,u,rfl,rfl,hW,by rw [<-r3.length];exact hz,p .non _ _ _ (k1.trans (k2.trans (.put hW))) (rh2.put hW (r3.append (.cons r2 .nil))) rfl q2⟩
def Kp (to ti:TED):TGD:=λd σ h Q=>to σ h λo h1=>ti σ h1 λi h2=> ∃a k xs j,o= .lst a/\i= .int k/\h2 a=some xs/\ixN xs.length k=some j/\Q σ (wq h2 a (xs.set j d))
theorem Kq (ho:QE X o to)(hi:QE X i ti)
 (ha: ∀v,assign (.Subscript o i pos) X.env v=(do
  let ov <-holding [v] (eval o X.env)
  let iv <-holding [v,ov] (eval i X.env)
  standAt pos
  holding [v,ov,iv] (setItem ov iv v)
  release [v,ov,iv] []):=by intro _;rfl):QG X (.Subscript o i pos) (Kp to ti):=
 (TW ho hi FZ ha).imp λv σ H Q ⟨d,σd,h,Qd,r,rs,rh,q,p⟩=>
  LE.bind rs rh q λd1 v1 h1 H1 k1 rs1 rh1 r1 q1=>LE.bind rs1 rh1 q1 λd2 v2 h2 H2 k2 rs2 rh2 r2 ⟨a,k,xs,j,e1,e2,hx,hj,q2⟩=>by
   subst e1 e2;have e3:v1= .ref a:=(r1.mono k2).1;obtain⟨ws,hW,r3⟩:=rh2 a xs hx;refine⟨a,ws,k,j,e3,r2,hW,by rw [<-r3.length];exact hj,p _ _ _ _ (k1.trans (k2.trans (.put hW))) (rs2.mono (.put hW)) (rh2.put hW (RelDs.set ((r.mono k1).mono k2) j r3)) q2⟩
end
def Aw (N:List Str)(sc:List (Str×NameKind))(scope:Scope)(js:List Nat):Bool:=
 scope.kind== .function&&scope.names.all (λp=>p.2 != .cell||scope.names.lookup p.1==some .cell)&&scope.names.all (λp=>p.2 != .local||scope.names.lookup p.1==some .local)&&
 scope.names.all (λp=>p.2 != .free||sc.lookup p.1==some .cell||sc.lookup p.1==some .free)&&
 (List.range N.length).all λi=>(scope.names.lookup (N.getD i Str.empty) !=some .local&&scope.names.lookup (N.getD i Str.empty) !=some .cell)||js.contains i
theorem jk {X:Cx}{scope:Scope}{js:List Nat}(h:Aw X.N X.env.scope.names scope js=true):BlockOk X scope js:=by
 unfold Aw at h;simp only [S5] at h;obtain⟨⟨⟨⟨h1,h2⟩,h3⟩,h4⟩,h5⟩:=h;refine⟨eq_of_beq h1,λp hp e=> ?_,λp hp e=> ?_,λp hp e=> ?_,λi x e1 e2=> ?_⟩
 ·have:=R7.mp h3 p hp;rw [e] at this;simpa using this
 ·have:=R7.mp h2 p hp;rw [e] at this;simpa using this
 ·have:=R7.mp h4 p hp;rw [e] at this;simpa using this
 ·have hi:i<X.N.length:=(G7.mp e1).1;have:=R7.mp h5 i (D2.mpr hi);rw [G3,e1,Option.getD_some] at this;rcases e2 with e2|e2<;>(rw [e2] at this;simpa using this)
theorem qpt {X:Cx}{e:Expr}{t:TTD}(h:QW X e t):QT X e t:=h.pt
theorem Bn {i:Nat}{js:List Nat}{ti:TID}{te:TED}{σ:SD}{h h1:HD}{Q:KD}{ds:List D}{j:ItD}(f:D->D)(hz:ds.length<=sizeLine)(hj:j h1=some ds)
 (ht: ∀R:ItD->HD->Prop,R j h1->ti σ h R)(he: ∀d∈ds,∀Q':KD,Q' (f d) h1->te ((jX js σ).set i (some d)) h1 Q')(hq: ∀p,h1 p=none->Q (.lst p) (wq h1 p (ds.map f))):JL (bN i) js ti YT te σ h Q:=by
 refine ht _ ⟨ds.length,λk ys h'=>h'=h1/\ys=(ds.take k).map f,⟨rfl,by simp⟩,?_⟩;rintro k ys h' ⟨rfl,rfl⟩;refine⟨by simp only [G0,D4];omega,ds,hj,P1 _,λhl p hp=> ?_,λd hd=>⟨_,rfl,?_⟩⟩
 ·rw [R3 hl];exact hq p hp
 ·unfold YT;dsimp only;rw [if_pos rfl];refine he d (G8 hd) _ ⟨h',Sub.refl _,rfl,?_⟩;rw [N6,hd];simp
end L2
namespace HT
open PySem PySem.Spec PyProof.Rows
section
variable {prog:Program}{w:World}{A:Around}{E:Value->Shared->Prop}{s:Shared}
theorem JN {t sl:Addr}{items:Array Value}{vl vu:Value}{lo hi:Option Int}{Q:Value->Shared->Prop}(ht:IsTup s.heap t items)(hs:s.heap.IsSliceOf sl vl vu .none)(pl:IsPart vl lo)(pu:IsPart vu hi)
 (hw:sIx items.size 0 lo=0/\sIx items.size items.size hi=items.size)(h:Q (.ref t) s):wpAny (model prog w) A (getItem (.ref t) (.ref sl)) Q E s:=by
 obtain⟨os,hos,hcs,hds⟩:=id hs;have hTs:s.TypeIs (.ref sl) "slice" :=⟨os,hos,hcs⟩;unfold getItem
 try with_reducible refine C0 ?_
 first|refine wpAny_bind (P0 ?_)|skip
 refine wpAny_bind (wpAny_sequenceKey ht.typeIs (by decide) ?_);refine wpAny_bind (C9 (name:=Str.ofString "__getitem__") ht.typeIs O6
  (C7 O6 ht.typeIs entry_tuple_getitem ?_ (args_tuple_getitem _ _)))
 show wpAny _ _ (Builtin.Tuple.tupleItemsOf (.ref t) >>= _) _ _ s;refine wpAny_bind (tupleItemsOf_ ht ?_);refine wpAny_bind (wpAny_typeOf hTs ?_);rw [if_pos (by decide)];refine wpAny_bind (vA hs pl pu ?_);have hyes:((((sIx items.size 0 lo:Nat):Int)==0&&(1:Int)==1&&(sIx items.size items.size hi-sIx items.size 0 lo)==items.size)=true):=by
  rw [hw.1,hw.2];simp
 show wpAny _ _ (if (((sIx items.size 0 lo:Nat):Int)==0&&(1:Int)==1&&(sIx items.size items.size hi-sIx items.size 0 lo)==items.size)=true then _ else _) _ _ s;rw [if_pos hyes];refine wpAny_bind (m:=Builtin.Tuple.tupleIsExact (.ref t)) ?_;unfold Builtin.Tuple.tupleIsExact;refine wpAny_bind (wpAny_typeOf ht.typeIs (P0 ?_));rw [if_pos (by decide)];exact wpAny_bind (X7 (P0 ⟨_,rfl,P0 h⟩))
end
end HT
namespace L2
open PySem PySem.Spec PyProof.Rows
def jad (K:PySem.W.Frag):V->Option Int->Option Int->Hp->VK->Prop:=λx lo hi H Q=> ∃a xs,x= .ref a/\SqT K H a xs/\(HT.sIx xs.length 0 lo=0/\HT.sIx xs.length xs.length hi=xs.length)/\Q (.ref a) H
variable {X:Cx}
theorem sl_whole:SlR X (jad X.K):=by
 intro pins s σ H x v vl vu lo hi sl Q I rx hs pl pu h;obtain⟨a,xs,rfl,hx,hw,q⟩:=h;cases rx;obtain⟨its,r,ht,hz⟩:=I.tuple hx;have hlen:its.toArray.size=xs.length:=by rw [D0];exact r.length.symm
 refine⟨"tuple",_,PyProof.Rows.slot_tuple_getitem.lookup,ht.typeIs,?_⟩;exact HT.JN ht hs pl pu (by rw [hlen];exact hw) ⟨.ref a,H,I,rfl,q⟩
def Wm {α:Type}(xs:List α)(lo hi:Option Int):List α:=(xs.drop (HT.sIx xs.length 0 lo)).take (HT.sIx xs.length xs.length hi-HT.sIx xs.length 0 lo)
abbrev TOD:=SD->HD->(Option Int->HD->Prop)->Prop
def Bo:TOD:=λ_ h Q=>Q none h
def Kr (t:TED):TOD:=λσ h Q=>t σ h λx h1=> ∃i,x= .int i/\Q (some i) h1
def LO (K:PySem.W.Frag)(t:TOD):TO:=λσ H Q=> ∃σd h Qd,RelS K H σd σ/\RelH K h H/\t σd h Qd/\ ∀o h' H',Kept H H'->RelH K h' H'->Qd o h'->Q o H'
theorem LO.bind {K:PySem.W.Frag}{ta:TOD}{σ:St}{H:Hp}{σd:SD}{h:HD}{kd:Option Int->HD->Prop}{k:Option Int->Hp->Prop}(rs:RelS K H σd σ)(rh:RelH K h H)(t:ta σd h kd)(f: ∀o h' H',Kept H H'->RelS K H' σd σ->RelH K h' H'->kd o h'->k o H'):LO K ta σ H k:=
 ⟨σd,h,kd,rs,rh,t,λo h' H' kp r1 q=>f o h' H' kp (rs.mono kp) r1 q⟩
theorem PO.imp {e:Option Expr}{t t':TO}(h:PO X e t)(i: ∀σ H Q,t' σ H Q->t σ H Q):PO X e t':=λpins s σ H Q I q=>h pins s σ H Q I (i σ H Q q)
abbrev QO (X:Cx)(e:Option Expr)(t:TOD):Prop:=PO X e (LO X.K t)
theorem EX:QO X none Bo:=po_none.imp λσ H Q ⟨σd,h,Qd,rs,rh,q,p⟩=>p none h H (.refl H) rh q
theorem EY {e:Expr}{te:TED}(he:QE X e te):QO X (some e) (Kr te):=(Ei he).imp λσ H Q ⟨σd,h,Qd,rs,rh,q,p⟩=>
 LE.bind rs rh q λd v h1 H1 k1 rs1 rh1 r1 ⟨i,e,q1⟩=>by subst e;exact⟨i,r1,p _ _ _ k1 rh1 q1⟩
def slD:D->Option Int->Option Int->HD->KD->Prop:=λx lo hi h Q=>match x with
 | .tup ds=>Q (.tup (Wm ds lo hi)) h
 | .scr ns=> ∀p,h p=none->Q (.lst p) (wq h p ((Wm ns lo hi).map D.int))
 | .lst a=> ∃ds,h a=some ds/\ ∀p,h p=none->Q (.lst p) (wq h p (Wm ds lo hi))
 |_=>False
def dSl (te:TED)(tl th:TOD):TED:=λσ h Q=>te σ h λx h1=>tl σ h1 λl h2=>th σ h2 λu h3=>slD x l u h3 Q
theorem Xg {K:PySem.W.Frag}{H:Hp}{ds:List D}{vs:List V}(r:RelDs K H ds vs)(lo hi:Option Int):RelDs K H (Wm ds lo hi) (FF vs lo hi):=by
 unfold Wm FF;rw [r.length];exact(r.drop _).take _
theorem Xh {α β:Type}(f:α->β)(xs:List α)(lo hi:Option Int):Wm (xs.map f) lo hi=(Wm xs lo hi).map f:=by
 unfold Wm;rw [G0,List.map_take,G1w]
theorem Ks {e:Expr}{te:TED}{lo hi:Option Expr}{tl th:TOD}{pos p2:Pos}(he:QE X e te)(hl:QO X lo tl)(hu:QO X hi th):QE X (.Subscript e (.Slice lo hi none p2) pos) (dSl te tl th):=
 (FY (sl_tup.or (sl_whole.or Ej)) he hl hu).imp λσ H Q ⟨σd,h,Qd,rs,rh,q,p⟩=>
  LE.bind rs rh q λd v h1 H1 k1 rs1 rh1 r1 q1=>LO.bind rs1 rh1 q1 λl h2 H2 k2 rs2 rh2 q2=>LO.bind rs2 rh2 q2 λu h3 H3 k3 rs3 rh3 q3=>by
   have rv:=(r1.mono k2).mono k3;have kk:=k1.trans (k2.trans k3);cases d<;>first
    |exact False.elim q3
    |skip
   ·rename_i ds;obtain⟨a,vs,e1,hH,r⟩:=(show ∃a vs,v= .ref a/\H3 a=some (.tup vs)/\RelDs X.K H3 ds vs from rv)
    by_cases hw:HT.sIx vs.length 0 l=0/\HT.sIx vs.length vs.length u=vs.length
    ·refine .inr (.inl ⟨a,vs,e1,SqT.of hH,hw,p (.tup (Wm ds l u)) _ _ _ kk rh3 ⟨a,vs,rfl,hH,?_⟩ q3⟩);have z:=Xg r l u;have e:FF vs l u=vs:=by unfold FF;rw [hw.1,hw.2];simp
     rwa [e] at z
    ·exact .inl ⟨a,vs,e1,SqT.of hH,hw,λc hc=>p (.tup (Wm ds l u)) _ _ _ (kk.trans (.new hc)) (rh3.new hc) ⟨c,_,rfl,jz,(Xg r l u).mono (.new hc)⟩ q3⟩
   ·rename_i a;obtain⟨ds,hd,q3⟩:=q3;obtain⟨vs,hH,r⟩:=rh3 a ds hd;exact .inr (.inr ⟨a,vs,rv.1,SqL.of hH,λc hc=>p (.lst c) _ _ _ (kk.trans (.new hc)) (rh3.newL hc (Xg r l u)) ⟨rfl,_,jz⟩ (q3 c (rh3.free hc))⟩)
   ·rename_i ns;obtain⟨a,e1,hS⟩:=(show ∃a,v= .ref a/\Scr X.K H3 a ns from rv);refine .inr (.inr ⟨a,_,e1,hS.sq,λc hc=>p (.lst c) _ _ _ (kk.trans (.new hc)) (rh3.newL hc ?_) ⟨rfl,_,jz⟩ (q3 c (rh3.free hc))⟩);have z:=Xg (yH (K:=X.K) (H:=H3) ns) l u
    rwa [Xh] at z
end L2
namespace HT
open PySem PySem.Spec PyProof.Rows
open Sem (wp)
open Builtin
theorem Yg:fillsNumberSlot (.type "tuple") "mul" =pure false:=
 PySem.fillsNumberSlot_seq (id:= "tuple.__mul__") (r:=some (.builtin "tuple.__rmul__")) F.slot_tuple_mul.lookup (by decide +kernel) F.slot_tuple_rmul.lookup (by decide +kernel)
theorem Qy:seqRepeat? (.type "tuple")=pure (some (.builtin "tuple.__mul__")):=by
 unfold seqRepeat?;rw [PySem.seqSlot_of (T:= "tuple") (name:= "__mul__") (id:= "tuple.__mul__") F.slot_tuple_mul.lookup (by decide +kernel),PySem.seqSlot_of (T:= "tuple") (name:= "__rmul__") (id:= "tuple.__rmul__") F.slot_tuple_rmul.lookup (by decide +kernel)];rfl
section
variable {prog:Program}{w:World}{A:Around}{E:Value->Shared->Prop}{s:Shared}
theorem Xi {k:Int}{t:Tok}{l:Addr}{o:Obj}{its:Array Value}{n:Nat}{P:PySem.Fin->Shared->Prop}(at_:s.heap.get? l=some o)(tup:o.cls= .type "tuple")(dat:o.data= .seq its n)(h:P (.done (.ret .notImplemented)) s):wpAny (model prog w) A (Builtin.«int.__rmul__» ⟨[.int k t,.ref l],[]⟩) P E s:=by
 obtain⟨c,dd,dt,sl⟩:=o;cases tup;cases dat;obtain⟨hp,g,d,tk,os⟩:=s
 wp_walk
 exact h
theorem Ps {l:Addr}{its:Array Value}{n:Nat}{x:Int}{u:Tok}{dd:Option Addr}{sl:Array (Option Value)}{P:PySem.Fin->Shared->Prop}(at_:s.heap.get? l=some {cls:= .type "tuple",dict:=dd,data:= .seq its n,slots:=sl})(fits: -(2^63)<=x/\x<2^63)
 (same:(its.isEmpty||x==1)=true->P (.done (.ret (.ref l))) s)
 (gone:(its.isEmpty||x==1)=false->(decide (x<=0)||its.isEmpty)=true->P (.done (.ret (.ref s.heap.objs.size))) {s with heap:=s.heap.push {cls:= .type "tuple",data:= .seq #[]}})
 (more:(its.isEmpty||x==1)=false->(decide (x<=0)||its.isEmpty)=false-> ¬ (its.size:Int)*x>(2^63-1) / 8/\Builtin.Tuple.tupleTooMany ((its.size:Int)*x)=false/\((List.replicate x.toNat its).foldl (· ++ ·) #[]).size<=sizeLine/\
  P (.done (.ret (.ref s.heap.objs.size))) {s with heap:=s.heap.push {cls:= .type "tuple",data:= .seq ((List.replicate x.toNat its).foldl (· ++ ·) #[])}}):
 wpAny (model prog w) A (Builtin.«tuple.__mul__» ⟨[.ref l,.int x u],[]⟩) P E s:=by
 obtain⟨hp,g,d,tk,os⟩:=s
 wp_walk
 rw [if_neg (by simp only [W6,E7];omega)]
 wp_walk
 cases c1:(its.isEmpty||x==1) with
 |true=>
  rw [if_pos rfl]
  wp_walk
  exact same c1
 |false=>
  rw [if_neg P7];cases c2:(decide (x<=0)||its.isEmpty) with
  |true=>
   rw [if_pos rfl]
   wp_walk
   exact gone c1 c2
  |false=>
   obtain⟨m1,m2,m3,m4⟩:=more c1 c2;rw [if_neg P7];dsimp only;rw [if_neg m1,m2,if_neg P7]
   wp_walk
   exact m4
end
end HT
namespace L2
open PySem PySem.Spec PyProof.Rows
def xi (K:PySem.W.Frag):R2:=λx y H Q=> ∃ (a:Addr) (k:Int) (xs:List V),x= .ref a/\y= .int k/\SqT K H a xs/\ -(2^63)<=k/\k<2^63/\xs.length*k.toNat<=sizeLine/\
 ((xs= []\/k=1)->Q (.ref a) H)/\(¬ (xs= []\/k=1)-> ∀p,H p=none->Q (.ref p) (upd H p (.tup (List.replicate k.toNat xs).flatten)))
theorem Yv {l:List Value}:l.toArray= #[]↔l= []:=by cases l<;>simp
variable {X:Cx}
theorem EZ:OpR X (binaryOp .Mult) (xi X.K):=by
 intro pins s σ H x y v u Q I rx ry h;obtain⟨a,k,xs,rfl,rfl,hH,h1,h2,hz,q1,q2⟩:=h;cases rx;obtain⟨t,rfl⟩:=ry;obtain⟨its,r,ht,_⟩:=I.tuple hH;obtain⟨⟨cls,dd,data,sl⟩,ho,hc,n,hd⟩:=id ht;simp only at hc hd;subst hc hd;have hl:=r.length;have hnew:(List.replicate k.toNat its.toArray).foldl (· ++ ·) #[]=(List.replicate k.toNat its).flatten.toArray:=by
  have:=YI its k.toNat [];rw [B6] at this;exact this
 have few:its.length*k.toNat<=sizeLine:=by rw [<-hl];exact hz
 have free:=I.hok.fresh (P1 _);refine G0z (T:= "tuple") (U:= "int") (by decide) ⟨_,ho,rfl⟩ (λs'=>G1f s' k t) HT.Yg F.fills_int_mul G0f HT.Qy F.slot_int_index.lookup
  (C7 G0f (G1f s k t) F.entry_int_rmul (HT.Xi ho rfl rfl ⟨_,rfl,rfl,⟨_,ho,rfl⟩,C7 F.slot_tuple_mul ⟨_,ho,rfl⟩ F.entry_tuple_mul (HT.Ps ho ⟨h1,h2⟩ (λc=> ?_) (λc c0=> ?_) (λc c0=> ?_)) (F.args_tuple_mul_2 _ _)⟩) (F.args_int_rmul_2 _ _))
 ·refine⟨_,rfl,.ref a,H,I,rfl,q1 ?_⟩;simp only [W6,G1g,Array.isEmpty_iff,Yv] at c;exact c.imp (λe=>r.nil_iff.mp e) id
 ·simp only [G1h,U9,G0q,ne_eq,Yv] at c;have k0:k.toNat=0:=by
   simp only [W6,E7,Array.isEmpty_iff,Yv] at c0;have:=c0.resolve_right c.1;omega
  have last:=q2 (λz=>z.elim (λe=>c.1 (r.nil_iff.mpr e)) c.2) _ free;rw [k0] at last;exact⟨_,rfl,.ref s.heap.objs.size,_,I.laid (t':=s.toks) (o:= .tup []) (λb ob q=>G2 _ q) (P1 _) ⟨by decide,[],.nil,IsTupN.new _ _⟩,rfl,last⟩
 ·simp only [G1h,U9,G0q,ne_eq,Yv,G0R] at c c0;have em:((its.toArray.size:Nat):Int)*k=((its.length*k.toNat:Nat):Int):=by rw [Int.natCast_mul,D0,show ((k.toNat:Nat):Int)=k by omega]
  have cap:(sizeLine:Nat)<=(2^63-1) / 8:=by decide
  rw [em,hnew];refine⟨by omega,by unfold Builtin.Tuple.tupleTooMany;exact decide_eq_false (by omega),by rw [List.size_toArray,Pp,Nat.mul_comm];exact few,_,rfl,.ref s.heap.objs.size,_,I.laid (t':=s.toks) (o:= .tup (List.replicate k.toNat xs).flatten) (λb ob q=>Heap.get?_push_of_some _ q) (Nat.le_refl _) ⟨by rw [Pp,Nat.mul_comm];exact hz,_,r.rep k.toNat,IsTupN.new _ _⟩,rfl,q2 (λz=>z.elim (λe=>c.1 (r.nil_iff.mpr e)) c.2) _ free⟩
def qd:RD2:=λx y h Q=>match x,y with
 | .tup ds,.int k=> -(2^63)<=k/\k<2^63/\ds.length*k.toNat<=sizeLine/\Q (.tup (List.replicate k.toNat ds).flatten) h
 |x,y=>xY x y h Q
theorem Pt:OpQ X (binaryOp .Mult) qd:=(oq_mul.or EZ).imp λx y H Q ⟨dx,dy,h,Qd,rx,ry,rh,q,p⟩=>by
 by_cases ht: ∃ds k,dx= .tup ds/\dy= .int k
 ·obtain⟨ds,k,e1,e2⟩:=ht;subst e1 e2;obtain⟨b1,b2,hz,q⟩:=q;obtain⟨a,vs,e,hH,r⟩:=(show ∃a vs,x= .ref a/\H a=some (.tup vs)/\RelDs X.K H ds vs from rx);refine .inr ⟨a,k,vs,e,ry,SqT.of hH,b1,b2,by rw [<-r.length];exact hz,λhs=> ?_,λ_ c hc=>p (.tup _) _ _ _ (.new hc) (rh.new hc) ⟨c,_,rfl,jz,(r.flat _).mono (.new hc)⟩ q⟩;refine p (.tup _) _ _ _ (.refl H) rh ⟨a,vs,rfl,hH,?_⟩ q;rcases hs with e0|e1
  ·subst e0;have:ds= []:=Q3.mp r.length;subst this;simpa using r
  ·subst e1;simpa using r
 ·refine .inl ⟨dx,dy,h,Qd,rx,ry,rh,?_,p⟩;unfold qd at q;split at q
  ·exact absurd ⟨_,_,rfl,rfl⟩ ht
  ·exact q
def qe:D->HD->KD->Prop:=λx h Q=>match x with
 | .int i=>Q (.int (-i)) h
 |_=>False
def dUn (f:D->HD->KD->Prop)(ta:TED):TED:=λσ h Q=>ta σ h λx h1=>f x h1 Q
theorem jae {a:Expr}{ta:TED}{pos:Pos}(ha:QE X a ta):QE X (.UnaryOp .USub a pos) (dUn qe ta):=
 (ue Hj ha).imp λσ H Q ⟨σd,h,Qd,rs,rh,t,p⟩=>LE.bind rs rh t λd v h1 H1 k1 rs1 rh1 r1 q=>by
  cases d<;>first
   |exact False.elim q
   |exact⟨_,r1,p (.int _) _ _ _ k1 rh1 rfl q⟩
variable {p:Addr}
theorem Ln {H:Hp}{a b:HO}:upd (upd H p a) p b=upd H p b:=by
 funext q;unfold upd;split<;>rfl
def Kt (K:PySem.W.Frag)(tl:TE):TI:=λσ H R=>tl σ H λx H1=> ∃a,x= .ref a/\((∃xs,SqL K H1 a xs/\R (Itl K a) H1)\/ ∃xs,SqT K H1 a xs/\R (Itt K a) H1)
theorem Ku {tg l:Expr}{tl:TE}(hl:PE X l tl):PI X tg l (Kt X.K tl):=by
 intro pins s σ H R I h;refine thn (hl pins s σ H _ I h) λv s1 ⟨x,H1,I1,r1,q1⟩=> ?_
 obtain⟨a,e,q⟩:=q1;subst e;cases r1;rcases q with ⟨xs,hq,q⟩|⟨xs,hq,q⟩
 ·obtain⟨its,rv,p,hz⟩:=I1.list hq;refine K3 p.isList ?_;refine⟨s1.heap.objs.size,[s1.heap.objs.size],_,_,H1,rfl,I1.kept (t':=s1.toks) λb o e=>G2 _ e,Qj a _,⟨_,D6 _ rfl,rfl,rfl⟩,λb hb=> ?_,q⟩;have e:b=s1.heap.objs.size:=by simpa using hb
  subst e;exact I1.fpOk (P1 _) (I1.hok.fresh (P1 _))
 ·obtain⟨its,rv,p,hz⟩:=I1.tuple hq;refine A6 (show s1.heap.IsTuple a its.toArray from p) ?_;refine⟨s1.heap.objs.size,[s1.heap.objs.size],_,_,H1,rfl,I1.kept (t':=s1.toks) λb o e=>G2 _ e,RV a _,⟨_,D6 _ rfl,rfl,rfl⟩,λb hb=> ?_,q⟩;have e:b=s1.heap.objs.size:=by simpa using hb
  subst e;exact I1.fpOk (P1 _) (I1.hok.fresh (P1 _))
def iS (te:TED):TID:=λσ h R=>te σ h λx h1=>match x with
 | .lst a=>R (λh=>h a) h1
 | .tup ds=>R (λ_=>some ds) h1
 | .scr ns=>R (λ_=>some (ns.map D.int)) h1
 |_=>False
variable {K:PySem.W.Frag}
theorem Lo {H:Hp}{a:Addr}{ns:List Int}(hs:Scr K H a ns):EH K H (λ_=>some (ns.map D.int)) (Itl K a):=λH' h' k rh ds' e i=>by
 cases e;have hs':Scr K H' a ns:=hs.elim (λ⟨o,z⟩=> .inl ⟨o,k.frz _ _ _ z⟩) .inr;refine⟨λd hd=> ?_,λhl=>⟨_,hs'.sq,by simpa using hl⟩⟩;obtain⟨v,e1,e2⟩:=(yH (K:=K) (H:=H') ns).get hd;refine⟨⟨_,v,hs'.sq,e1⟩,λx H'' ⟨eH,hx⟩=> ?_⟩;subst eH;have:=hx _ hs'.sq;rw [e1] at this;cases this;exact⟨.refl _,rh,e2⟩
variable {te:TED}
theorem Kv: ∀σ H R,LI K (iS te) σ H R->Kt K (LE K te) σ H R:=λσ H R ⟨σd,h,Rd,rs,rh,q,p⟩=>
 LE.bind rs rh q λd v h1 H1 k1 rs1 rh1 r1 q1=>by
  cases d<;>first
   |exact False.elim q1
   |skip
  ·rename_i ds;obtain⟨a,vs,e,hv,r⟩:=(show ∃a vs,v= .ref a/\H1 a=some (.tup vs)/\RelDs K H1 ds vs from r1);exact⟨a,e,.inr ⟨vs,SqT.of hv,p _ _ _ _ k1 rh1 (Lk hv r) q1⟩⟩
  ·rename_i a;obtain⟨e,vs,hv⟩:=(show v= .ref a/\ ∃vs,H1 a=some (.lst vs) from r1);exact⟨a,e,.inl ⟨vs,SqL.of hv,p _ _ _ _ k1 rh1 (Qu H1 a) q1⟩⟩
  ·rename_i ns;obtain⟨a,e,hS⟩:=(show ∃a,v= .ref a/\Scr K H1 a ns from r1);exact⟨a,e,.inl ⟨_,hS.sq,p _ _ _ _ k1 rh1 (Lo hS) q1⟩⟩
theorem Kw {tg e:Expr}(he:QE X e te):QI X tg e (iS te):=(Ku he).imp Kv
def Ax:TSD:=λ_ _ _=>False
theorem Kx {st:Stmt}:QS X st Ax:=λ_ _ _ _ _ _ ⟨_,_,_,_,_,z,_⟩=>z.elim
structure Zs (mg:Str->Option Value):Prop where
 len:mg "len" =none
 max:mg "max" =none
 min:mg "min" =none
 divmod:mg "divmod" =none
 all:mg "all" =none
 any:mg "any" =none
 repr:mg "repr" =none
 sum:mg "sum" =none
 sorted:mg "sorted" =none
 int:mg "int" =none
 tuple:mg "tuple" =none
 list:mg "list" =none
 set:mg "set" =none
 bool:mg "bool" =none
 isinstance:mg "isinstance" =none
 range:mg "range" =none
 zip:mg "zip" =none
 enumerate:mg "enumerate" =none
 reversed:mg "reversed" =none
def ji (P:Program)(w:World)(K:PySem.W.Frag)(mg:Str->Option Value)(base:Heap)(n:Nat)(x:Str)(ps:List Str)(sp:RDn):Prop:=
 ∃ (g:Addr) (gd:FuncData),FnOk P w K mg base CX0 n g gd ps (LSp K sp)/\Binds K gd ps []/\PySem.W.keepIn K (.ref g)=true/\mg x=some (.ref g)
def Bp:RDn:=λds h Q=> ∃ns,ds= [.scr ns]/\(∀a,h a=none)/\ns.length<=63/\ ∀h',Q (.bl true) h'
def Bm (mg:Str->Option Value)(base:Heap):Prop:= ∃bm ob,mg "__builtins__" =some (.ref bm)/\bm≠builtinsNs/\base.get? bm=some ob/\ob.cls= .type "module" /\ob.dict=some builtinsNs/\ob.data= .plain
def yo (K:PySem.W.Frag):List (Addr×Addr):=LN.filterMap (PySem.W.tabIn K)
theorem TabK.mem {P:Addr}(h:TabK K P): ∃c,(c,P)∈yo K:=let ⟨x,hx,c,e⟩:=h;⟨c,V9.mpr ⟨x,hx,e⟩⟩
theorem Bq {P:Program}{w:World}{mg mb:Str->Option Value}{k:Nat}{fa a:Addr}{fd:FuncData}{x:Str}{s₁:Shared}{vs:List Value}{ns:List Int}
 (KX:K.In s₁.heap)(hns:s₁.heap.Ns mainGlobals mg)(hb:s₁.heap.Ns builtinsNs mb)(hbb: ∀x:Str,x≠ "__name__" ->mb x=bootBuiltins x)(hlim:s₁.heap.NoLimit)(hg:s₁.gens= #[])
 (ha:s₁.heap.get? a=some {cls:= .type "list",data:= .seq vs.toArray})(hi:IntsAre vs ns)(hl:ns.length<=63)(hr:Room k callerA)
 (hbm:Bm mg s₁.heap)(F: ∀base:Heap,K.In base->base.Ns mainGlobals mg->Bm mg base->FnOk P w K mg base CX0 k fa fd [x] (LSp K Bp))(hbind: ∀ (s:Shared) (u:Value),BindsTo s fd ⟨[u],[]⟩ [(x,u)])
 (hT: ∀p∈yo K,PySem.W.CodeHd s₁.heap p.1 p.2/\s₁.heap.get? p.2=some (PySem.W.tabObj #[])/\K.lookup p.2=none):
 codeAny (model P w) callerA (.call (.ref fa) ⟨[.ref a],[]⟩) (λr s'=>r= .ok (.ret (.bool true))/\OldK s₁.heap s'.heap/\s'.os=s₁.os/\AllBare s'.gens) s₁:=by
 have rv:=Qq hi;have lenV:=hi.length;have hz:ns.length<=sizeLine:=R1 hl (by decide);have hT': ∀b,b∈(yo K).map (·.2)-> ∃c,PySem.W.CodeHd s₁.heap c b/\s₁.heap.get? b=some (PySem.W.tabObj #[])/\K.lookup b=none:=λb hb=>by
  obtain⟨p,hp,rfl⟩:=D1.mp hb;exact⟨p.1,hT p hp⟩
 have core: ∀H:Hp,Scr K H a ns->HOk P w H s₁.heap->(∀b u,H b=some u->(b=a/\K.lookup a=none/\ ∃o xs,u= .frz o (.lst xs))\/(b∈(yo K).map (·.2)/\u= .tbl #[]))->(∀b,b∈(yo K).map (·.2)->H b=some (.tbl #[]))->
  codeAny (model P w) callerA (.call (.ref fa) ⟨[.ref a],[]⟩) (λr s'=>r= .ok (.ret (.bool true))/\OldK s₁.heap s'.heap/\s'.os=s₁.os/\AllBare s'.gens) s₁:=by
  intro H hS hok hA hTt;have noA: ∀ {b:Addr} {o:Obj} {es:Array DictEntry} {ep:Nat},s₁.heap.get? b=some o->o.data= .dict es ep->H b=none:=λ{b o es ep} e d=>by
   cases q:H b with
   |none=>rfl
   |some u=>
    rcases hA b u q with ⟨rfl,_,_⟩|⟨z,_⟩
    ·rw [ha] at e;cases e;have d':Data.seq vs.toArray _=Data.dict es ep:=d;cases d'
    ·obtain⟨c,_,e2,_⟩:=hT' b z;rw [e2] at e;cases e;have d':Data.fields _=Data.dict es ep:=d;cases d'
  have nsK: ∀ {b:Addr} {m:Str->Option Value},s₁.heap.Ns b m->(FQ s₁.heap H).Ns b m:=λ{b m} ⟨o,es,ep,e,d,r⟩=>⟨o,es,ep,US e (noA e d),d,r⟩
  have hKb:K.In (FQ s₁.heap H):=λb o e=>US (KX b o e) (by
   cases q:H b with
   |none=>rfl
   |some u=>
    rcases hA b u q with ⟨rfl,z,_⟩|⟨z,_⟩
    ·rw [z] at e;cases e
    ·obtain⟨c,_,_,z2⟩:=hT' b z;rw [z2] at e;cases e)
  have hM:Mod K mg (FQ s₁.heap H):=⟨hKb,nsK hns,⟨mb,nsK hb,hbb⟩,let ⟨mc,h1,h2⟩:=hlim;⟨mc,nsK h1,h2⟩⟩;have e0:Env0 P w K mg (FQ s₁.heap H) callerA [] s₁ H:=⟨rfl,hM,λb o e=>AR e,J3 (Nw _ _),trivial,λb hb=>absurd (show b∈([]:List Addr) from hb) (by simp),hok,.of_eq hg⟩;have hsp:LSp K Bp [.ref a] H (λv _=>v= .bl true) (λ_ _ _=>False):=by
   refine⟨[.scr ns],⟨λ_=>none,λ_=>none⟩,λd _=>d= .bl true,⟨.ref a,[],rfl,⟨a,rfl,hS⟩,rfl⟩,⟨λb ds e=>(by cases e),λp hp=> ?_,λb c e=>(by cases e)⟩,⟨ns,rfl,λ_=>rfl,hl,λ_=>rfl⟩,?_⟩
   ·obtain⟨c,hc⟩:=hp.mem;exact⟨#[],hTt p (V0 (f:=(·.2)) hc),trivial,λpos cv e=>(by cases e)⟩
   ·intro d v h' H' _ _ r e;subst e;exact r
  have hBm:Bm mg (FQ s₁.heap H):=by
   obtain⟨bm,ob,b1,b2,b3,b4,r⟩:=hbm;refine⟨bm,ob,b1,b2,US b3 ?_,b4,r⟩;cases q:H bm with
   |none=>rfl
   |some u=>
    rcases hA bm u q with ⟨rfl,_,_⟩|⟨z,_⟩
    ·rw [ha] at b3;cases b3;exact absurd (Value.type.inj b4) (by decide)
    ·obtain⟨c,_,e2,_⟩:=hT' bm z;rw [e2] at b3;cases b3;cases b4
  refine codeAny_mono ((F _ hKb (nsK hns) hBm).run callerA [] s₁ H ⟨[.ref a],[]⟩ [.ref a] [.ref a] _ _ hr e0 (hbind s₁ (.ref a)) (.cons rfl .nil) hsp) λr s' h=> ?_
  cases r with
  |error e=>exact False.elim h
  |ok fl=>
   cases fl with
   |next=>exact False.elim h
   |brk=>exact False.elim h
   |cont=>exact False.elim h
   |ret u=>
    obtain⟨v,H',os,bare,un,hok',r',q⟩:=h;have q':v= .bl true:=q;subst q';obtain rfl:u=Value.bool true:=r';have one: ∀b o,s₁.heap.get? b=some o->s'.heap.get? b=some o\/(b∈(yo K).map (·.2)/\ ∃more,s'.heap.get? b=some (PySem.W.tabObj more)):=λb o e=>by
     cases q:H b with
     |none=>exact .inl (un.keep b o e q (by intro z;exact absurd (show b∈([]:List Addr) from z) (by simp)) (by simp))
     |some u=>
      rcases hA b u q with ⟨rfl,_,ob,xs,rfl⟩|⟨z,rfl⟩
      ·have z2:=un.frzs _ ob _ q;obtain⟨e1,_⟩:=hok _ _ q;obtain⟨e2,_⟩:=hok' _ _ z2;rw [e] at e1;cases e1;exact .inl e2
      ·obtain⟨more,z2⟩:=un.tbls b _ q;exact .inr ⟨z,_,(show s'.heap.get? b=some _ from hok' b _ z2)⟩
    refine⟨rfl,⟨λb o e=> ?_,λb o e=> ?_⟩,os,bare⟩
    ·rcases one b o e with z|⟨z,more,z2⟩
     ·exact .inl z
     ·obtain⟨c,hc,e2,_⟩:=hT' b z;rw [e] at e2;cases e2;refine .inr (.inl ⟨(hc.tab e).isCodeTable,rfl,#[],more,rfl,?_⟩);rw [z2];simp
    ·rcases one b o e with z|⟨z,more,z2⟩
     ·exact⟨_,z⟩
     ·exact⟨_,z2⟩
 have nT:a ∉ (yo K).map (·.2):=λz=>by
  obtain⟨c,_,e2,_⟩:=hT' a z;rw [ha] at e2;cases e2
 have okT: ∀ {H:Hp} (b:Addr),b∈(yo K).map (·.2)->ObjOk P w H s₁.heap b (.tbl #[]):=λb hb=>let ⟨_,_,e,_⟩:=hT' b hb;e
 cases hk:K.lookup a with
 |some o=>
  have e:=KX a o hk;rw [ha] at e;cases e;refine core (λb=>if b∈(yo K).map (·.2) then some (.tbl #[]) else none) (.inr ⟨_,vs.toArray,_,hk,rfl,rfl,rfl,by rw [D0,lenV];exact hz,by simpa using rv⟩) (λb u z=> ?_) (λb u z=> ?_) λb hb=>if_pos hb
  ·by_cases hb:b∈(yo K).map (·.2)
   ·have z':=(if_pos hb).symm.trans z;cases z';exact okT b hb
   ·have z':=(if_neg hb).symm.trans z;cases z'
  ·by_cases hb:b∈(yo K).map (·.2)
   ·have z':=(if_pos hb).symm.trans z;cases z';exact .inr ⟨hb,rfl⟩
   ·have z':=(if_neg hb).symm.trans z;cases z'
 |none=>
  refine core (λb=>if b=a then some (.frz {cls:= .type "list",data:= .seq vs.toArray} (.lst (ns.map V.int))) else if b∈(yo K).map (·.2) then some (.tbl #[]) else none) (.inl ⟨{cls:= .type "list",data:= .seq vs.toArray},if_pos rfl⟩) (λb u z=> ?_) (λb u z=> ?_) λb hb=> ?_
  ·by_cases hb:b=a
   ·have z':=(if_pos hb).symm.trans z;cases z';subst hb;exact⟨ha,by rw [G0];exact hz,vs,_,rv,ha⟩
   ·have z':=(if_neg hb).symm.trans z
    by_cases hb2:b∈(yo K).map (·.2)
    ·have z2:=(if_pos hb2).symm.trans z';cases z2;exact okT b hb2
    ·have z2:=(if_neg hb2).symm.trans z';cases z2
  ·by_cases hb:b=a
   ·have z':=(if_pos hb).symm.trans z;cases z';exact .inl ⟨hb,hk,_,_,rfl⟩
   ·have z':=(if_neg hb).symm.trans z
    by_cases hb2:b∈(yo K).map (·.2)
    ·have z2:=(if_pos hb2).symm.trans z';cases z2;exact .inr ⟨hb2,rfl⟩
    ·have z2:=(if_neg hb2).symm.trans z';cases z2
  ·have:b≠a:=λz=>nT (z ▸ hb)
   show (if b=a then _ else _)=_;rw [if_neg this,if_pos hb]
def xj (q:Program)(K:PySem.W.Frag):Bool:=LN.all λx=>match PySem.W.tabIn K x with
 |some p=>(K.lookup p.2).isNone&&((PyProof.Rows.recsOf q).find? (λe=>e.name==x)).isSome
 |none=>true
theorem Lp {l:PySem.W.OpenLaw}{k:Nat}{q:Program}{loose:List Str}{XP:(Str->Option Value)->Heap->Prop}{YP:World->Heap->Prop}{d:DefRec}{K:Params->PySem.W.Frag}{x:Str}(hn:l.most=some 63)(hdf:d.params.defaults= [])(hr:Room k callerA)
 (hY: ∀ (w:World) (h:Heap),YP w h->(K w.params).In h)(hB: ∀w:World,xj q (K w.params)=true)
 (F: ∀ (w:World) (mg:Str->Option Value) (fa:Addr) (h:Heap),(K w.params).In h->h.Ns mainGlobals mg->mg d.name=some (.ref fa)->
  ∃fd:FuncData,(∀ (s:Shared) (u:Value),BindsTo s fd ⟨[u],[]⟩ [(x,u)])/\ ∀base:Heap,(K w.params).In base->base.Ns mainGlobals mg->Bm mg base->FnOk l.prog w (K w.params) mg base CX0 k fa fd [x] (LSp (K w.params) Bp)):
 PySem.W.WalkO q loose XP YP l.row.toRowW d [] (λf vs=>PySem.call f vs):=by
 refine Att.attach_call hn hdf λw s₀ s₁ mg mb fa o pm cd doc a vs ns G Y ho hd hcd hmg hobj hints hlen hg=> ?_
 have KX:=hY w _ Y;obtain⟨fd,hb,hF⟩:=F w mg fa _ KX G.T.g hmg;refine Bq KX G.T.g G.T.b G.T.builtins G.T.nolimit hg hobj hints hlen hr G.T.bmain hF hb λp hp=> ?_
 obtain⟨x,hx,e⟩:=V9.mp hp;have z:=R7.mp (hB w) x hx;rw [e] at z;simp only [S5,Option.isNone_iff_eq_none] at z;obtain⟨dd,hdd⟩:=K4.mp z.2;have t:=PySem.W.tab_of (c:=p.1) (P:=p.2) G.T KX hdd e;exact⟨t.1,t.2,z.1⟩
def Pu:Expr->Bool
 | .Starred .. =>false
 |_=>true
theorem Pv {e:Expr}{es:List Expr}{env:Env}(h:Pu e=true):starEach (e::es) env=(false,eval e env)::starEach es env:=by
 cases e<;>first|rfl|cases h
theorem qac {e:Expr}{es:List Expr}{t:TAD}(ha:QE X e te)(hr:QA X es t)(h:Pu e=true:=by rfl):QA X (e::es) (yI te t):=Bc ha hr (Pv h)
theorem Xj {α:Type}{xs:List α}{i:Int}(h0:0<=i)(h1:i<xs.length): ∃x∈xs,atI xs i=some x:=by
 have hk:i.toNat<xs.length:=by omega
 have ek:i=((i.toNat:Nat):Int):=by omega
 have z:=wW (G1 hk);rw [<-ek] at z;exact⟨xs[i.toNat],R8 hk,z⟩
variable {h h':HD}{L:List D}
theorem Sub.both (s:Sub h h'):Sub (wq h p L) (wq h' p L):=⟨λa ds e=>(by
 by_cases q:a=p
 ·subst q;rw [jd] at e ⊢;exact e
 ·rw [wZ q] at e ⊢;exact s a ds e),s.dc⟩
theorem Sub.newAt (s:Sub h h')(e:h' p=none):Sub h (wq h' p L):=s.trans (.new e)
structure But (p:Addr)(h h':HD):Prop where
 ls: ∀a ds,a≠p->h a=some ds->h' a=some ds
 dc: ∀a c,h.dc a=some c->h'.dc a=some c
instance {p:Addr}{h h':HD}:CoeFun (But p h h') λ_=> ∀a ds,a≠p->h a=some ds->h' a=some ds:=⟨But.ls⟩
theorem But.refl (p:Addr)(h:HD):But p h h:=⟨λ_ _ _ e=>e,λ_ _ e=>e⟩
variable {q:Addr}
theorem But.new (s:But p h h')(e:h' q=none):But p h (wq h' q L):=⟨λa ds n z=>(by
 have:=s a ds n z;rw [wZ (λw=>by subst w;rw [e] at this;cases this)];exact this),s.dc⟩
theorem But.put (s:But p h h'):But p h (wq h' p L):=⟨λa ds n z=>(by rw [wZ n];exact s a ds n z),s.dc⟩
theorem But.putNew (s:But p h h')(e:h q=none):But p h (wq h' q L):=⟨λa ds n z=>(by
 rw [wZ (λw=>by subst w;rw [e] at z;cases z)];exact s a ds n z),s.dc⟩
theorem But.sub (s:But p h h')(e:h' p=some L):Sub (wq h p L) h':=⟨λa ds z=>(by
 by_cases q:a=p
 ·subst q;rw [jd] at z;cases z;exact e
 ·rw [wZ q] at z;exact s a ds q z),s.dc⟩
theorem But.upd:But p h (wq h p L):=⟨λa ds n z=>(by rw [wZ n];exact z),λ_ _ e=>e⟩
theorem zA (e:h p=some L)(f:h q=none):q≠p:=λz=>by subst z;rw [e] at f;cases f
theorem jM {M:List D}(e:h p=some L)(f:h q=none):wq h q M p=some L:=by rw [wZ (λz=>by subst z;rw [e] at f;cases f)];exact e
theorem jH {a b:Addr}{M:List D}(n:b≠a)(e:h b=some M):wq h a L b=some M:=by rw [wZ n];exact e
theorem YW {n:Nat}{i:Nat}{d:D}(h:((List.range n).map λ(k:Nat)=>D.int (k:Int))[i]? =some d):i<n/\d= .int i:=by
 rw [P3] at h
 by_cases hi:i<n
 ·rw [N4 hi] at h;cases h;exact⟨hi,rfl⟩
 ·rw [N8 (by simpa using hi)] at h;cases h
variable {E:EndsD}{σ:SD}
theorem jh {t u:TSD}(V:SD->HD->Prop)(first: ∀K:SD->HD->Prop,(∀σ' h',V σ' h'->K σ' h')->t {E with nx:=K} σ h)(rest: ∀σ' h',V σ' h'->u E σ' h'):No t u E σ h:=first (u E) rest
theorem Br (b:But p h h')(e:h' q=none)(n:q≠p):h q=none:=by
 cases z:h q with
 |none=>rfl
 |some ds=>rw [b q ds n z] at e;cases e
def Nxt (E:EndsD)(V:SD->HD->Prop):EndsD:= {E with nx:=λσ3 h3=> ∃h4,Sub h4 h3/\V σ3 h4,ct:=λσ3 h3=> ∃h4,Sub h4 h3/\V σ3 h4,bk:=E.nx}
variable {h1:HD}
theorem YX {ta:TAD}{g:TGD}{tb:TSD}(n:Nat)(W:Nat->SD->HD->Prop)(hn:n<1000000)
 (ht: ∀R:List D->HD->Prop,R [.int (n:Int)] h1->ta σ h R)(w0:W 0 σ h1)(done: ∀σ' h',W n σ' h'->E.nx σ' h')
 (turn: ∀i σ' h',i<n->W i σ' h'->g (.int (i:Int)) σ' h' λσ2 h2=>tb (Nxt E λσ3 h4=>i+1<=n/\W (i+1) σ3 h4) σ2 h2):To (iR1 ta) g tb E σ h:=by
 refine ht _ ⟨(n:Int),rfl,by omega,by omega,n,λi σ' h'=>i<=n/\W i σ' h',⟨S8 _,w0⟩,?_⟩;rintro i σ' h' ⟨hi,w⟩;refine⟨_,rfl,by simp,λhl=> ?_,λd hd=> ?_⟩
 ·have:i=n:=by simp at hl;omega
  subst this;exact done _ _ w
 ·obtain⟨hi',e⟩:=YW hd;have hi2:i<n:=by omega
  subst e;exact turn i σ' h' hi2 w
theorem Xk {ti:TID}{g:TGD}{tb:TSD}{j:ItD}(ds:List D)(W:Nat->SD->HD->Prop)
 (ht: ∀R:ItD->HD->Prop,R j h1->ti σ h R)(hj: ∀i σ' h',W i σ' h'->j h'=some ds)(w0:W 0 σ h1)(done: ∀σ' h',W ds.length σ' h'->E.nx σ' h')
 (turn: ∀i d σ' h',ds[i]? =some d->W i σ' h'->g d σ' h' λσ2 h2=>tb (Nxt E λσ3 h4=>i+1<=ds.length/\W (i+1) σ3 h4) σ2 h2):To ti g tb E σ h:=by
 refine ht _ ⟨ds.length,λi σ' h'=>i<=ds.length/\W i σ' h',⟨S8 _,w0⟩,?_⟩;rintro i σ' h' ⟨hi,w⟩;refine⟨ds,hj i σ' h' w,P1 _,λhl=> ?_,λd hd=>turn i d σ' h' hd w⟩;have:i=ds.length:=by omega
 subst this;exact done _ _ w
theorem ZK {g:TGD}{tb:TSD}{j:ItD}(ds:List D)(W:Nat->SD->HD->Prop)
 (hj: ∀i σ' h',W i σ' h'->j h'=some ds)(w0:W 0 σ h1)(done: ∀σ' h',W ds.length σ' h'->E.nx σ' h')
 (turn: ∀i d σ' h',ds[i]? =some d->W i σ' h'->g d σ' h' λσ2 h2=>tb (Nxt E λσ3 h4=>i+1<=ds.length/\W (i+1) σ3 h4) σ2 h2):
 ∃ (n:Nat) (W:Nat->SD->HD->Prop),W 0 σ h1/\ ∀i σ' h',W i σ' h'-> ∃ds,j h'=some ds/\ds.length<=n/\(ds.length<=i->E.nx σ' h')/\
  ∀d,ds[i]? =some d->g d σ' h' λσ2 h2=>tb {E with nx:=λσ3 h3=> ∃h4,Sub h4 h3/\W (i+1) σ3 h4,ct:=λσ3 h3=> ∃h4,Sub h4 h3/\W (i+1) σ3 h4,bk:=E.nx} σ2 h2:=by
 refine⟨ds.length,λi σ' h'=>i<=ds.length/\W i σ' h',⟨S8 _,w0⟩,?_⟩;rintro i σ' h' ⟨hi,w⟩;refine⟨ds,hj i σ' h' w,P1 _,λhl=> ?_,λd hd=>turn i d σ' h' hd w⟩;have:i=ds.length:=by omega
 subst this;exact done _ _ w
theorem Ky {i:Nat}{js:List Nat}{ta:TAD}{Q:KD}(n:Nat)(W:Nat->List D->HD->Prop)(hn:n<=1000)(ht: ∀R:List D->HD->Prop,R [.int (n:Int)] h1->ta σ h R)
 (w0:W 0 [] h1)(wl: ∀k ys h',W k ys h'->ys.length=k)(turn: ∀k ys h',k<n->W k ys h'->te ((jX js σ).set i (some (.int (k:Int)))) h' λy h4=> ∃h5,Sub h5 h4/\(k+1<=n/\W (k+1) (ys++ [y]) h5))
 (done: ∀ys h',W n ys h'-> ∀p,h' p=none->Q (.lst p) (wq h' p ys)):JL (bN i) js (iR1 ta) YT te σ h Q:=by
 refine ht _ ⟨(n:Int),rfl,by omega,by omega,n,λk ys h'=>k<=n/\W k ys h',⟨S8 _,w0⟩,?_⟩;rintro k ys h' ⟨hk,w⟩;refine⟨by rw [wl k ys h' w];exact D5 (jE (by omega)),_,rfl,by simp,λhl p hp=> ?_,λd hd=>⟨_,rfl,?_⟩⟩
 ·have:k=n:=by simp at hl;omega
  subst this;exact done ys h' w p hp
 ·obtain⟨hi',e⟩:=YW hd;subst e;unfold YT;dsimp only;rw [if_pos rfl];exact turn k ys h' (by omega) w
end L2
namespace L2
open PySem PySem.Spec PyProof.Rows PySem.SeqAt
mutual
def ToP (h:HD):D->PyData->Prop
 |d,.none=>d= .non
 |d,.bool b=>d= .bl b
 |d,.int i=>d= .int i
 |d,.str x=>d= .str x
 |d,.tuple ps=> ∃ds,d= .tup ds/\ToPs h ds ps
 |d,.list ps=> ∃a ds,d= .lst a/\h a=some ds/\ToPs h ds ps
 |_,.dict _=>False
def ToPs (h:HD):List D->List PyData->Prop
 |ds,[]=>ds= []
 |ds,p::ps=> ∃d r,ds=d::r/\ToP h d p/\ToPs h r ps
end
section
variable {X:Cx}{pins:List (Addr×Obj)}{σ:St}{H:Hp}{s:Shared}{h:HD}
mutual
theorem wv (I:Inv X pins σ H s)(rh:RelH X.K h H): ∀ {p:PyData} {d:D} {v:V} {u:Value},ToP h d p->RelD X.K H d v->RelV v u-> ∃as,Reads s.heap u p as
 | .none,d,v,u,t,r,ru=>by cases (show d= .non from t);cases (show v= .non from r);cases (show u= .none from ru);exact⟨[],.none⟩
 | .bool b,d,v,u,t,r,ru=>by cases (show d= .bl b from t);cases (show v= .bl b from r);cases (show u= .bool b from ru);exact⟨[],.bool b⟩
 | .int i,d,v,u,t,r,ru=>by cases (show d= .int i from t);cases (show v= .int i from r);obtain⟨k,rfl⟩:=(show ∃t,u=Value.int i t from ru);exact⟨[],.int i k⟩
 | .str x,d,v,u,t,r,ru=>by cases (show d= .str x from t);cases (show v= .str x from r);obtain⟨k,rfl⟩:=(show ∃t,u=Value.str x t from ru);exact⟨[],.str x k⟩
 | .tuple ps,d,v,u,t,r,ru=>by
  obtain⟨ds,e,ts⟩:=(show ∃ds,d= .tup ds/\ToPs h ds ps from t);subst e;obtain⟨a,vs,e,hH,rs⟩:=(show ∃a vs,v= .ref a/\H a=some (.tup vs)/\RelDs X.K H ds vs from r);subst e;cases (show u= .ref a from ru);obtain⟨its,rv,ht,_⟩:=I.tuple (SqT.of hH);obtain⟨o,ho,hc,n,hd⟩:=ht;obtain⟨as,q⟩:=reads_Ds I rh ts rs rv;exact⟨as,.tuple ho hc hd q⟩
 | .list ps,d,v,u,t,r,ru=>by
  obtain⟨a,ds,e,ha,ts⟩:=(show ∃a ds,d= .lst a/\h a=some ds/\ToPs h ds ps from t);subst e;obtain⟨vs,hH,rs⟩:=rh a ds ha;have e:v= .ref a:=r.1;subst e;cases (show u= .ref a from ru);obtain⟨its,rv,pl,_⟩:=I.list (SqL.of hH);obtain⟨o,ho,hc,n,hd⟩:=pl.isList;obtain⟨as,q⟩:=reads_Ds I rh ts rs rv;exact⟨a::as,.list ho hc hd q⟩
 | .dict _,_,_,_,t,_,_=>(show False from t).elim
theorem reads_Ds (I:Inv X pins σ H s)(rh:RelH X.K h H): ∀ {ps:List PyData} {ds:List D} {vs:List V} {us:List Value},ToPs h ds ps->RelDs X.K H ds vs->Vals vs us-> ∃as,ReadsAll s.heap us ps as
 | [],ds,vs,us,t,r,rv=>by
  cases (show ds= [] from t);cases (show vs= [] from r);cases rv;exact⟨[],.nil⟩
 |p::ps,ds,vs,us,t,r,rv=>by
  obtain⟨d,dr,e,t1,t2⟩:=(show ∃d r,ds=d::r/\ToP h d p/\ToPs h r ps from t);subst e;obtain⟨v,vr,e,r1,r2⟩:=(show ∃v r,vs=v::r/\RelD X.K H d v/\RelDs X.K H dr r from r);subst e;cases rv with
  |cons ru rt=>
   obtain⟨as,q1⟩:=wv I rh t1 r1 ru;obtain⟨bs,q2⟩:=reads_Ds I rh t2 r2 rt;exact⟨as++bs,.cons q1 q2⟩
end
end
def eqE:RD2:=λx y h Q=>match x,y with
 | .int i,.int j=>Q (.bl (decide (i=j))) h
 | .bl i,.bl j=>Q (.bl (decide (i=j))) h
 | .str i,.str j=>Q (.bl (decide (i=j))) h
 |x,y=> ∃p q,ToP h x p/\ToP h y q/\shaped p=true/\shaped q=true/\Q (.bl (PyData.eqv p q)) h
def neE:RD2:=λx y h Q=>match x,y with
 | .int i,.int j=>Q (.bl (!decide (i=j))) h
 | .bl i,.bl j=>Q (.bl (!decide (i=j))) h
 | .str i,.str j=>Q (.bl (!decide (i=j))) h
 |x,y=> ∃p q,ToP h x p/\ToP h y q/\shaped p=true/\shaped q=true/\Q (.bl (!PyData.eqv p q)) h
section
variable {X:Cx}
def eqG:RD2:=λx y h Q=> ∃p q,ToP h x p/\ToP h y q/\shaped p=true/\shaped q=true/\Q (.bl (PyData.eqv p q)) h
def neG:RD2:=λx y h Q=> ∃p q,ToP h x p/\ToP h y q/\shaped p=true/\shaped q=true/\Q (.bl (!PyData.eqv p q)) h
theorem Kz (hu:X.A.units+64<cLine):OpQ X (compareOp .Eq) eqG:=by
 intro pins s σ H x y v u Q I rx ry h;obtain⟨dx,dy,h,Qd,r1,r2,rh,⟨p,q,t1,t2,s1,s2,qq⟩,post⟩:=h;obtain⟨as,a1⟩:=wv I rh t1 r1 rx;obtain⟨bs,b1⟩:=wv I rh t2 r2 ry;exact compareEq_shaped a1 b1 s1 s2 hu ⟨.bl _,H,I,rfl,post (.bl _) _ _ _ (.refl H) rh rfl qq⟩
theorem KA (hu:X.A.units+64<cLine):OpQ X (compareOp .NotEq) neG:=by
 intro pins s σ H x y v u Q I rx ry h;obtain⟨dx,dy,h,Qd,r1,r2,rh,⟨p,q,t1,t2,s1,s2,qq⟩,post⟩:=h;obtain⟨as,a1⟩:=wv I rh t1 r1 rx;obtain⟨bs,b1⟩:=wv I rh t2 r2 ry;exact compareNe_shaped a1 b1 s1 s2 hu ⟨.bl _,H,I,rfl,post (.bl _) _ _ _ (.refl H) rh rfl qq⟩
theorem OpQ.or' {f:Value->Value->Sem Value}{r r' r2:RD2}(h:OpQ X f r)(h':OpQ X f r')(i: ∀x y hh Q,r2 x y hh Q->r x y hh Q\/r' x y hh Q):OpQ X f r2:=λpins s σ H x y v u Q I rx ry ⟨dx,dy,hd,Qd,r1,r2',rh,q,p⟩=>
 (i dx dy hd Qd q).elim (λz=>h pins s σ H x y v u Q I rx ry ⟨dx,dy,hd,Qd,r1,r2',rh,z,p⟩) λz=>h' pins s σ H x y v u Q I rx ry ⟨dx,dy,hd,Qd,r1,r2',rh,z,p⟩
theorem Qz (hu:X.A.units+64<cLine):OpQ X (compareOp .Eq) eqE:=oq_eq.or' (Kz hu) λx y h Q q=>by
 unfold eqE at q;split at q
 ·exact .inl q
 ·exact .inl q
 ·exact .inl q
 ·exact .inr q
theorem Re (hu:X.A.units+64<cLine):OpQ X (compareOp .NotEq) neE:=oq_ne.or' (KA hu) λx y h Q q=>by
 unfold neE at q;split at q
 ·exact .inl q
 ·exact .inl q
 ·exact .inl q
 ·exact .inr q
end
end L2
namespace HT
open PySem PySem.Spec PyProof.Rows
section
variable {prog:Program}{w:World}{A:Around}{E:Value->Shared->Prop}{s:Shared}
theorem Bs (k:Int){vs:List Value}{ns:List Int}(hi:IntsAre vs ns)(j:Nat)(h:j<ns.length): ∃t,vs[j]? =some (.int ns[j] t):=by
 induction hi generalizing j with
 |nil=>simp at h
 |cons n t r ih=>
  cases j with
  |zero=>exact⟨t,rfl⟩
  |succ j=>obtain⟨u,e⟩:=ih j (by simpa using h);exact⟨u,by simpa using e⟩
theorem Pw {a:Addr}{vs:List Value}{ns:List Int}{k:Int}{t:Tok}{Q:Value->Shared->Prop}(ht:IsTup s.heap a vs.toArray)(hi:IntsAre vs ns)(hk:k∈ns)(h:Q (.int (ns.idxOf k:Nat) s.toks) {s with toks:=s.toks+1}):
 wpAny (model prog w) A (call (.builtin "tuple.index") [.ref a,.int k t]) Q E s:=by
 refine C7 G0J ht.typeIs PySem.F.entry_tuple_index ?_ (PySem.F.args_tuple_index_2 _ _);unfold Builtin.«tuple.index»;have hj:ns.idxOf k<ns.length:=A7.mpr hk;have hlen:=hi.length;show wpAny _ _ (Builtin.Tuple.tupleItemsOf (.ref a) >>= _) _ _ s;refine wpAny_bind (tupleItemsOf_ ht ?_);have go:wpAny (model prog w) A.in1 (forIn [0:min vs.toArray.size vs.toArray.size] ((none,()):Option PySem.Fin×Unit) λi __s=>
  match vs.toArray[i]? with
  |some y=>do
   let b <-eqBool y (.int k t)
   if b=true then do
    let r <-retInt ((i:Nat):Int)
    pure (ForInStep.done (some r,()))
    else pure (ForInStep.yield (none,()))
  |x=>pure (ForInStep.yield (none,())))
  (λr s'=>r=(some (.done (.ret (.int (ns.idxOf k:Nat) s.toks))),())/\s'= {s with toks:=s.toks+1}) E s:=by
  rw [U5];refine wpAny_forIn_list _ (λrest b s'=>b=(none,())/\s'=s/\ ∃i,i<=ns.idxOf k/\rest=List.range' i (ns.length-i)) _ ?_ ?_ _ _ ⟨rfl,rfl,0,S8 _,?_⟩
  ·rintro x rest b s' ⟨rfl,rfl,i,hil,e⟩;have hin:i<ns.length:=by omega
   obtain⟨n,hn⟩: ∃n,ns.length-i=n+1:=⟨ns.length-i-1,by omega⟩;rw [hn,G0W] at e;injection e with e1 e2
   subst e1 e2;obtain⟨u,hu⟩:=Bs k hi x hin;have hu':vs.toArray[x]? =some (.int ns[x] u):=by simpa using hu
   rw [hu'];refine wpAny_bind (wpAny_eqBool_int ?_)
   by_cases hx:x=ns.idxOf k
   ·have he:(ns[x]==k)=true:=by subst hx;simpa using J4 hj
    rw [if_pos he];subst hx;refine wpAny_bind ?_;exact wpAny_bind (wpAny_mkInt (P0 (P0 ⟨rfl,rfl⟩)))
   ·have hlt:x<ns.idxOf k:=by omega
    have he: ¬ (ns[x]==k)=true:=by rw [ne_of_lt_idxOf hlt hin];exact P7
    rw [if_neg he];refine P0 ⟨rfl,rfl,x+1,hlt,?_⟩;have:n=ns.length-(x+1):=by omega
    rw [this]
  ·rintro b s' ⟨rfl,rfl,i,hil,e⟩;have hin:i<ns.length:=by omega
   obtain⟨n,hn⟩: ∃n,ns.length-i=n+1:=⟨ns.length-i-1,by omega⟩;rw [hn,G0W] at e;cases e
  ·simp [hlen]
 refine wpAny_bind (P0 (wpAny_bind (P0 (wpAny_bind (S0 go (λr s' e=> ?_) λ_ _ e=>e)))));obtain⟨rfl,rfl⟩:=e;exact P0 ⟨_,rfl,h⟩
end
section
variable {prog:Program}{w:World}{A:Around}{E:Value->Shared->Prop}{s:Shared}
theorem Mh {l:Addr}{vs:List Value}{ns:List Int}{Q:Value->Shared->Prop}(hl:IsTup s.heap l vs.toArray)(hI:IntsAre vs ns)(h64:vs.length<64)
 (h: ∀ (h1 h':Heap) (out:Array Value) (ns':List Int) (c:Nat),(∀b o,s.heap.get? b=some o->h1.get? b=some o)->(∀b o,h1.get? b=some o->h'.get? b=some o)->h'.get? h1.objs.size=some (seqObj "list" out c)->
  IntsAre out.toList ns'->ns'.Perm ns->ns'.Pairwise (· <= ·)->Q (.ref h1.objs.size) {s with heap:=h'}):wpAny (model prog w) A (call (.builtin "sorted") [.ref l]) Q E s:=by
 have few:vs.length<=sizeLine:=D5 (E4 h64 (by decide));obtain⟨o,at_,cl,n,dat⟩:=hl;refine G0A kind_sorted plain_sorted entry_sorted (args_sorted1 _) (wpAny_bind (P0 (wpAny_bind (wpAny_collect_seq l (.inr rfl) at_ cl dat (λh1 grown=> ?_) (by simpa using few)))));have fresh:(h1.push (seqObj "list" vs.toArray 0)).get? h1.objs.size=some (seqObj "list" vs.toArray 0):=D6 _ rfl;refine wpAny_bind (wpAny_newList (wpAny_bind (C0 (C7 slot_list_sort ⟨_,fresh,rfl⟩ entry_list_sort (list_sort_tree fresh hI h64 λout ns' i1 i2 i3=>⟨_,rfl,?_⟩) (args_list_sort _)))) few);obtain⟨c,lies⟩:=sortedHeap_at (vs:=vs) (out:=out) fresh;refine P0 ⟨_,rfl,h h1 _ out ns' c grown (λb ob e=> ?_) lies i1 i2 i3⟩;have lt:=D3 e;rw [sortedHeap_old (S4 lt) (by rw [size_push'];exact Y0 lt)];exact G2 _ e
end
end HT
namespace L2
open PySem PySem.Spec PyProof.Rows
theorem ZL: ∀ {ns:List Int} {us:List Value},Vals (ns.map V.int) us->IntsAre us ns
 | [],_,r=>by cases r;exact .nil
 |n::ns,_,r=>by
  cases r with
  |cons r t=>obtain⟨k,rfl⟩:=r;exact .cons n k (ZL t)
theorem YY: ∀ {ns:List Int} {us:List Value},IntsAre us ns->Vals (ns.map V.int) us
 |_,_,.nil=> .nil
 |_,_,.cons n t r=> .cons ⟨t,rfl⟩ (YY r)
theorem jO {K:PySem.W.Frag}{H:Hp}: ∀ {ns:List Int} {vs:List V},RelDs K H (ns.map D.int) vs->vs=ns.map V.int
 | [],_,h=>h
 |n::ns,vs,h=>by
  obtain⟨v,r,e,h1,h2⟩:=(show ∃v r,vs=v::r/\RelD K H (.int n) v/\RelDs K H (ns.map D.int) r from h);rw [e,jO h2,(show v= .int n from h1)];rfl
theorem YZ: ∀ {xs:List V} {us:List Value},xs.length=us.length->(∀ (i:Nat) (x:V) (u:Value),xs[i]? =some x->us[i]? =some u->RelV x u)->Vals xs us
 | [],[],_,_=> .nil
 |x::xs,u::us,hl,h=> .cons (h 0 x u rfl rfl) (YZ (by simpa using hl) λi y w e1 e2=>h (i+1) y w (by simpa using e1) (by simpa using e2))
 | [],_::_,hl,_=>by simp at hl
 |_::_,[],hl,_=>by simp at hl
def Sa:RDn:=λds h Q=> ∃ns:List Int,(ds= [.tup (ns.map D.int)]\/ ∃a,ds= [.lst a]/\h a=some (ns.map D.int))/\ns.length<64/\ ∀ (p:Addr) (ns':List Int),h p=none->ns'.Perm ns->ns'.Pairwise (· <= ·)->Q (.lst p) (wq h p (ns'.map D.int))
variable {X:Cx}
theorem call_sorted_ints:CallR X (.builtin "sorted") (λxs H Q=> ∃ (a:Addr) (ns:List Int),xs= [.ref a]/\(SqL X.K H a (ns.map V.int)\/SqT X.K H a (ns.map V.int))/\ns.length<64/\ ∀ (p:Addr) (ns':List Int),H p=none->ns'.Perm ns->ns'.Pairwise (· <= ·)->Q (.ref p) (upd H p (.lst (ns'.map V.int)))):=by
 intro pins s σ H xs us Q I r h;obtain⟨a,ns,rfl,hS,h64,q⟩:=h;obtain⟨u,rfl,ru⟩:=Jm r;cases ru;have fin: ∀ (vs:List Value) (out:Array Value) (ns':List Int),IntsAre out.toList ns'->ns'.Perm ns->ns'.Pairwise (· <= ·)->EP X pins σ Q (.ref (s.heap.objs.size+1)) {s with heap:=sortedAll s.heap vs out}:=λvs out ns' a1 a2 a3=>by
  obtain⟨e,he⟩:=sortedAll_at s.heap vs out;have hf:H (s.heap.objs.size+1)=none:=I.hok.fresh (G1G _);refine⟨.ref _,_,I.laid (t':=s.toks) (o:= .lst (ns'.map V.int)) (λb ob q=>sortedAll_old q) (G1G _) ?_,rfl,q _ ns' hf a2 a3⟩;refine⟨?_,out.toList,e,YY a1,he⟩;rw [G0,a2.length_eq];exact D5 (E4 h64 (by decide))
 rcases hS with hS|hS
 ·obtain⟨its,rv,pl,hz⟩:=I.list hS;have hi:=ZL rv;exact sorted_ints pl.isList hi (by rw [hi.length];exact h64) (fin its)
 ·obtain⟨its,rv,pl,hz⟩:=I.tuple hS;have hi:=ZL rv;refine HT.Mh pl hi (by rw [hi.length];exact h64) λh1 h' out ns' c k1 k2 lies a1 a2 a3=> ?_
  have I1:=I.kept (t':=s.toks) k1;refine⟨.ref _,_,I1.laid (t':=s.toks) (o:= .lst (ns'.map V.int)) k2 (P1 _) ⟨?_,out.toList,c,YY a1,lies⟩,rfl,q _ ns' (I1.hok.fresh (P1 _)) a2 a3⟩;rw [G0,a2.length_eq];exact D5 (E4 h64 (by decide))
theorem Bv:vJ X (.builtin "sorted") Sa:=call_sorted_ints.imp λxs H Q ⟨ds,h,Qd,r,rh,⟨ns,hd,h64,q⟩,p⟩=>by
 have fin: ∀ (c:Addr) (ns':List Int),H c=none->ns'.Perm ns->ns'.Pairwise (· <= ·)->Q (.ref c) (upd H c (.lst (ns'.map V.int))):=λc ns' hc a b=>
  p (.lst c) _ _ _ (.new hc) (rh.newL hc (yH ns')) ⟨rfl,_,jz⟩ (q c ns' (rh.free hc) a b)
 rcases hd with e|⟨a,e,ha⟩
 ·subst e;obtain⟨v,e,r1⟩:=jF r;obtain⟨a,vs,e1,hH,r2⟩:=(show ∃a vs,v= .ref a/\H a=some (.tup vs)/\RelDs X.K H (ns.map D.int) vs from r1);rw [jO r2] at hH;subst e e1;exact⟨a,ns,rfl,.inr (SqT.of hH),h64,fin⟩
 ·subst e;obtain⟨v,e,r1⟩:=jF r;obtain⟨vs,hH,r2⟩:=rh a _ ha;have e1:v= .ref a:=r1.1;rw [jO r2] at hH;subst e e1;exact⟨a,ns,rfl,.inl (SqL.of hH),h64,fin⟩
def qg (to te:TED):TED:=λσ h Q=>to σ h λx h1=> ∃ns:List Int,x= .tup (ns.map D.int)/\te σ h1 λy h2=> ∃k:Int,y= .int k/\k∈ns/\Q (.int (ns.idxOf k:Nat)) h2
def qh (to ti te:TED):TED:=λσ h Q=>to σ h λx h1=> ∃a,x= .lst a/\ti σ h1 λi h2=>te σ h2 λy h3=> ∃ (k:Nat) (xs:List D),i= .int (k:Int)/\k<=1000/\h3 a=some xs/\xs.length<sizeLine/\Q .non (wq h3 a (xs.take k++y::xs.drop k))
section
variable {X:Cx}{o e i:Expr}{to te ti:TED}{apos cpos:Pos}
theorem jaf (ho:QE X o to)(he:QE X e te)(hbase:attributeBase o "index" X.env (eval o X.env)=eval o X.env:=by rfl)
 (hfew:((backTo cpos (starEach [e] X.env)).all (λx=> !x.1)&&(backToKw cpos (keywordEach [] X.env)).all (λx=>x.1.isSome)&&decide ([e].length+([]:List Keyword).length+(if ([]:List Keyword).isEmpty then 0 else 1)<30))=true:=by rfl)
 (hline:(apos.endLine==cpos.line)=true:=by rfl)(hs:starEach [e] X.env=(false,eval e X.env)::starEach [] X.env:=by rfl)(hplain:(backTo cpos (starEach [] X.env)).any (·.1)=false:=by rfl):
 QE X (.Call (.Attribute o "index" apos) [e] [] cpos) (qg to te):=by
 intro pins s σ H Q I h;obtain⟨σd,h,Qd,rs,rh,t,p⟩:=h;have h1:LE X.K to σ H (λv H1=> ∃ (ns:List Int) (a:Addr) (h1:HD),v= .ref a/\H1 a=some (.tup (ns.map V.int))/\RelH X.K h1 H1/\Kept H H1/\te σd h1 λy h2=> ∃k:Int,y= .int k/\k∈ns/\Qd (.int (ns.idxOf k:Nat)) h2):=
  ⟨σd,h,_,rs,rh,t,λd v h' H' k rh' rd ⟨ns,e,q⟩=>by
   subst e;obtain⟨a,vs,e1,hH,r2⟩:=(show ∃a vs,v= .ref a/\H' a=some (.tup vs)/\RelDs X.K H' (ns.map D.int) vs from rd);rw [jO r2] at hH;exact⟨ns,a,h',e1,hH,rh',k,q⟩⟩
 refine wpAny_Call_method_late hbase hfew hline rfl (thn (ho pins s σ H _ I h1) λv s1 ⟨x,H1,I1,r1,ns,a,h1,ex,hH,rh1,k1,q1⟩=> ?_);subst ex;cases (show v= .ref a from r1);obtain⟨z,its,rv,ob,g1,g2,g3,g4⟩:=(show ObjOk X.prog X.w H1 s1.heap a (.tup (ns.map V.int)) from I1.hok a _ hH);refine⟨"tuple","tuple.index",PySem.F.plainAttrs_tuple,G0J,PySem.F.type_tuple_index,⟨ob,g1,g2⟩,λb e=>by cases e;exact⟨ob,g1,g3⟩,?_⟩;have h2:LA X.K (yI te Xc) σ H1 (λus H2=> ∃ (k:Int) (h2:HD),us= [.int k]/\k∈ns/\RelH X.K h2 H2/\Kept H1 H2/\Qd (.int (ns.idxOf k:Nat)) h2):=
  ⟨σd,h1,λds h2=> ∃k:Int,ds= [.int k]/\k∈ns/\Qd (.int (ns.idxOf k:Nat)) h2,rs.mono k1,rh1,by
   show te σd h1 λy h2=> ∃k:Int,[y]= [.int k]/\k∈ns/\Qd (.int (ns.idxOf k:Nat)) h2
   have:(λy h2=> ∃k:Int,y=D.int k/\k∈ns/\Qd (.int (ns.idxOf k:Nat)) h2)=λy h2=> ∃k:Int,[y]= [D.int k]/\k∈ns/\Qd (.int (ns.idxOf k:Nat)) h2:=by
    funext y h2;simp
   rw [<-this];exact q1,λds vs h' H' k rh' rd ⟨kk,e,hm,q⟩=>by
   subst e;obtain⟨v,e,r2⟩:=jF rd;cases (show v= .int kk from r2);exact⟨kk,h',e,hm,rh',k,q⟩⟩
 have hA:=(Bc he Ar hs:QA X [e] (yI te Xc)) cpos pins s1 σ H1 _ I1 h2;rw [hs] at hA ⊢;refine X5 (by show (false||(backTo cpos (starEach [] X.env)).any (·.1))=false;rw [hplain]<;>rfl) (Z7 ?_);refine thn hA λus s2 ⟨vs,H2,I2,r2,k,h2,ev,hm,rh2,k2,q2⟩=> ?_
 subst ev;obtain⟨u,rfl,ru⟩:=Jm r2;obtain⟨tk,rfl⟩:=ru;obtain⟨its2,rv2,ht2,_⟩:=I2.tuple (SqT.of (k2.tup _ _ hH));exact HT.Pw ht2 (ZL rv2) hm ⟨.int _,H2,I2.tok _,⟨_,rfl⟩,p (.int _) _ _ _ (k1.trans k2) rh2 rfl q2⟩
end
theorem Bw:MtM X "list.insert" (λx vs H Q=> ∃ (l:Addr) (xs:List V) (k:Nat) (y:V),x= .ref l/\vs= [.int (k:Int),y]/\H l=some (.lst xs)/\k<=1000/\xs.length<sizeLine/\Q .non (upd H l (.lst (xs.take k++y::xs.drop k)))):=by
 intro pins s σ H x vs v us Q I rx rv h;obtain⟨l,xs,k,y,rfl,rfl,hH,hk,hz,q⟩:=h;cases rx;obtain⟨u,w',rfl,⟨t,rfl⟩,ry⟩:=FV rv;obtain⟨z,its,n,r,hl,e⟩:=I.lstM hH;have hfit: ¬ (!Builtin.List.listFitsIndex (k:Int))=true:=by rw [fitsIndex_both (by omega) (by omega)];exact P7
 have hsz:its.toArray.size<=sizeLine:=by rw [D0];omega
 generalize har:its.toArray=ar at e hsz;obtain⟨kk,hkk⟩: ∃kk:Int,kk=(k:Int):=⟨_,rfl⟩;rw [<-hkk] at hfit ⊢;refine G0I F.slot_list_insert ⟨_,e,rfl⟩ F.entry_list_insert (F.args_list_insert_3 _ _ _) (AutoListH.list_insert_list_int_val_1 l ar n kk t w' hfit hsz) ⟨e,?_⟩;subst har hkk;refine⟨.non,_,I.lset (its':=its.take k++w'::its.drop k) hH e ?_ ((r.take k).append (.cons ry (r.drop k))) ?_,rfl,q⟩
 ·have hk0: ¬ ((k:Int)<0):=by omega
  simp only [hk0,G1v,K7,D0];have e1:its.take (min k its.length)=its.take k:=by
   by_cases hh:k<=its.length
   ·rw [K8 hh]
   ·rw [Nat.min_eq_right (by omega),U8,R3 (by omega)]
  have e2:its.drop (min k its.length)=its.drop k:=by
   by_cases hh:k<=its.length
   ·rw [K8 hh]
   ·rw [Nat.min_eq_right (by omega),List.drop_length,List.drop_of_length_le (by omega)]
  have e3:(its.drop k).take (its.length-min k its.length)=its.drop k:=R3 (by rw [S7];omega);apply Array.ext';simp only [M1,O8,List.extract_toArray,List.extract_eq_drop_take,G0B,G1B];rw [e1,e2,e3,P2];rfl
 ·rw [G9,P9,D4,S7];omega
section
variable {X:Cx}{o e i:Expr}{to te ti:TED}{apos cpos:Pos}
theorem jag (ho:QE X o to)(hi:QE X i ti)(he:QE X e te)(hbase:attributeBase o "insert" X.env (eval o X.env)=eval o X.env:=by rfl)
 (hfew:((backTo cpos (starEach [i,e] X.env)).all (λx=> !x.1)&&(backToKw cpos (keywordEach [] X.env)).all (λx=>x.1.isSome)&&decide ([i,e].length+([]:List Keyword).length+(if ([]:List Keyword).isEmpty then 0 else 1)<30))=true:=by rfl)
 (hline:(apos.endLine==cpos.line)=true:=by rfl)(hs:starEach [i,e] X.env=(false,eval i X.env)::starEach [e] X.env:=by rfl)(hs2:starEach [e] X.env=(false,eval e X.env)::starEach [] X.env:=by rfl)(hplain:(backTo cpos (starEach [e] X.env)).any (·.1)=false:=by rfl):
 QE X (.Call (.Attribute o "insert" apos) [i,e] [] cpos) (qh to ti te):=
 (Ek W5 PySem.F.slot_list_insert PySem.F.type_list_insert Bw ho (yS hi (yS he pa_nil hs2) hs) hbase hfew hline hs hplain).imp
  λσ H Q ⟨σd,h,Qd,rs,rh,t,p⟩=>LE.bind rs rh t λd v h1 H1 k1 rs1 rh1 r1 ⟨a,e,q⟩=>by
   subst e;obtain⟨e1,vs,hH⟩:=(show v= .ref a/\ ∃vs,H1 a=some (.lst vs) from r1);subst e1;refine⟨.inl ⟨rfl,vs,SqL.of hH⟩,?_⟩;refine LE.bind rs1 rh1 q λdi vi h2 H2 k2 rs2 rh2 r2 q2=>LE.bind rs2 rh2 q2 λy u h3 H3 k3 rs3 rh3 r3 ⟨k,xs,ei,hk,hx,hz,q3⟩=> ?_
   subst ei;have ev:vi= .int (k:Int):=r2;obtain⟨ws,hW,r4⟩:=rh3 a xs hx;refine⟨a,ws,k,u,rfl,by rw [ev],hW,hk,by rw [<-r4.length];exact hz,p .non _ _ _ (k1.trans (k2.trans (k3.trans (.put hW)))) (rh3.put hW ((r4.take k).append (.cons r3 (r4.drop k)))) rfl q3⟩
end
def KB (ta:TA):TE:=λσ H Q=>ta σ H λvs H1=> ∃j:Int,vs= [.int j]/\ ∀p,H1 p=none->Q (.ref p) (upd H1 p (.rng 0 j))
variable {a:Expr}{p pos:Pos}
theorem Lq {ta:TA}(hg:Gl X "range")(hm:X.mg "range" =none)(ha:PA X [a] ta)(hs:starEach [a] X.env= [(false,eval a X.env)]:=by rfl):PE X (.Call (.Name "range" p) [a] [] pos) (KB ta):=by
 intro pins s σ H Q I h;refine Call_ (WP I hg hm boot_range (C4 (thn (ha pos pins s σ H _ I h) λus s1 ⟨vs,H1,I1,r1,q1⟩=> ?_) hs rfl));obtain⟨j,e,q⟩:=q1;subst e;obtain⟨u,rfl,ru⟩:=Jm r1;obtain⟨t,rfl⟩:=ru;refine call_range_1 ⟨.ref s1.heap.objs.size,_,I1.laid (o:= .rng 0 j) (λb ob q=>G2 _ q) (P1 _) ?_,rfl,q _ (I1.hok.fresh (P1 _))⟩;exact⟨_,_,_,D6 _ rfl⟩
theorem Xl (hc:X.calm=true):CallR X (.type "list") (λxs H Q=> ∃ (p:Addr) (n:Nat),xs= [.ref p]/\H p=some (.rng 0 (n:Int))/\n<=1000/\ ∀l,H l=none->Q (.ref l) (upd H l (.lst ((List.range n).map λ(k:Nat)=>V.int (k:Int))))):=by
 intro pins s σ H xs us Q I r h;obtain⟨p,n,rfl,hH,hn,q⟩:=h;obtain⟨u,rfl,ru⟩:=Jm r;cases ru;obtain⟨t,u,v,e⟩:=(show ObjOk X.prog X.w H s.heap p (.rng 0 (n:Int)) from I.hok p _ hH);refine call_list_range (n:=n) (I.ok.hd hc) e (small_one (by decide) (by decide) (by omega) (by omega)) ?_ (R1 hn (by decide)) λh' tk acc c' kp e' hacc=> ?_
 ·rw [rangeSize_one];try (split<;>omega)
 ·refine⟨.ref s.heap.objs.size,_,I.laid (t':=tk) (o:= .lst ((List.range n).map λ(k:Nat)=>V.int (k:Int))) (λb ob q=>kp b ob q) (P1 _) ?_,rfl,q _ (I.hok.fresh (P1 _))⟩;obtain⟨hs,hit⟩:=hacc;refine⟨by rw [G0,P4];exact D5 (jE hn),acc.toList,c',?_,by simpa using e'⟩;refine YZ (by simp [hs]) λi x u hx hu=> ?_
  rw [P3] at hx;have hi:i<n:=by
   by_cases z:i<n
   ·exact z
   ·rw [N8 (by simpa using z)] at hx;cases hx
  rw [N4 hi] at hx;cases hx;obtain⟨t,e⟩:=hit i u (by simpa using hu);exact⟨t,by rw [e];simp⟩
def KC (ta:TAD):TED:=λσ h Q=>ta σ h λds h1=> ∃n:Nat,ds= [.int (n:Int)]/\n<=1000/\ ∀p,h1 p=none->Q (.lst p) (wq h1 p ((List.range n).map λ(k:Nat)=>D.int (k:Int)))
theorem QB {K:PySem.W.Frag}{H:Hp}(f:Nat->Int): ∀l:List Nat,RelDs K H (l.map λk=>D.int (f k)) (l.map λk=>V.int (f k))
 | []=> .nil
 |k::l=> .cons rfl (QB f l)
theorem Kept.drop2 {H:Hp}{p q:Addr}{o o':HO}(hp:H p=none)(hq:upd H p o q=none):Kept H (upd (upd H p o) q o'):=(Kept.new hp).trans (.new hq)
variable {p2:Pos}
theorem xk {ta:TAD}{pos2:Pos}(hc:X.calm=true)(hg:Gl X "list")(hm:X.mg "list" =none)(hg2:Gl X "range")(hm2:X.mg "range" =none)(ha:QA X [a] ta)(hs:starEach [a] X.env= [(false,eval a X.env)]:=by rfl)
 (h1:starEach [.Call (.Name "range" p2) [a] [] pos2] X.env=(false,eval (.Call (.Name "range" p2) [a] [] pos2) X.env)::starEach [] X.env:=by rfl)(h2:(backTo pos (starEach [] X.env)).any (·.1)=false:=by rfl):
 QE X (.Call (.Name "list" p) [.Call (.Name "range" p2) [a] [] pos2] [] pos) (KC ta):=
 (YG (Xl hc) hg hm (by decide +kernel) (yS (Lq hg2 hm2 ha hs) pa_nil h1) (by decide) (by decide) h1 h2).imp
  λσ H Q ⟨σd,h,Qd,rs,rh,t,post⟩=>LA.bind rs rh t λds vs h1 H1 k1 rs1 rh1 r1 ⟨n,e,hn,q⟩=>by
   subst e;obtain⟨v,e,r2⟩:=jF r1;cases (show v= .int (n:Int) from r2);refine⟨n,e,λc hcn=>⟨c,n,rfl,jz,hn,λl hl=> ?_⟩⟩;have rh2:=(rh1.new (o:= .rng 0 (n:Int)) hcn);exact post (.lst l) (.ref l) _ _ (k1.trans (.drop2 hcn hl)) (rh2.newL hl (QB (λk=>(k:Int)) (List.range n))) ⟨rfl,_,jz⟩ (q l (rh2.free hl))
structure JE (X:Cx)(e:Expr)(t:TED):Prop where
 to:QE X e t
structure JT (X:Cx)(e:Expr)(t:TTD):Prop where
 to:QT X e t
structure JW (X:Cx)(e:Expr)(t:TTD):Prop where
 to:QW X e t
structure JA (X:Cx)(e:List Expr)(t:TAD):Prop where
 to:QA X e t
structure JS (X:Cx)(e:Stmt)(t:TSD):Prop where
 to:QS X e t
structure JSs (X:Cx)(e:List Stmt)(t:TSD):Prop where
 to:QSs X e t
structure JG (X:Cx)(e:Expr)(t:TGD):Prop where
 to:QG X e t
structure JI (X:Cx)(tg e:Expr)(t:TID):Prop where
 to:QI X tg e t
structure JO (X:Cx)(e:Option Expr)(t:TOD):Prop where
 to:QO X e t
section
variable {X:Cx}{a b c e:Expr}{es rest:List Expr}{ta tb tc te:TED}{t u:TAD}{tt tu:TTD}{pos:Pos}{f r r':RD2}
theorem jv (i:Nat){x:Str}(hN:X.N[i]? =some x:=by rfl)(hv:Vis X.env.scope x:=by first|exact Or.inl rfl|exact Or.inr (Or.inl rfl)|exact Or.inr (Or.inr rfl))(hd:(x==("__debug__" :Str))=false:=by decide)(hcd:(x==("__classdict__" :Str))=false:=by decide):JE X (.Name x pos) (Lg i):=⟨qv (i:=i) (hN:=hN) (hv:=hv) (hd:=hd) (hcd:=hcd)⟩
theorem jN {i:Int}{j:Nat}:JE X (.Constant (.int i) j pos) (dC (.int i)):=⟨qI⟩
theorem jbl {i:Bool}{j:Nat}:JE X (.Constant (.bool i) j pos) (dC (.bl i)):=⟨qbl⟩
theorem Sb {x:Str}{i:Int}{tk:Tok}(hg:Gl X x)(hm:X.mg x=some (.int i tk))(hd:(x==("__debug__" :Str))=false:=by decide):JE X (.Name x pos) (dC (.int i)):=⟨uF (hg:=hg) (hm:=hm) (hd:=hd)⟩
theorem jop {op:Operator}(ho:OpQ X (binaryOp op) f)(ha:JE X a ta)(hb:JE X b tb):JE X (.BinOp a op b pos) (dOp f ta tb):=⟨qop (ho:=ho) (ha:=ha.to) (hb:=hb.to)⟩
variable {op:CmpOp}
theorem Bx (ho:OpQ X (compareOp op) f)(ha:JE X a ta)(hb:JE X b tb)(hm:behindInMarks op b=false):JE X (.Compare a [op] [b] pos) (dOp f ta tb):=⟨qJ (ho:=ho) (ha:=ha.to) (hb:=hb.to) (hm:=hm)⟩
theorem wc (ho:OpQ X (compareOp op) f)(ha:JE X a ta)(hb:JE X b tb)(hm:behindInMarks op b=false):JT X (.Compare a [op] [b] pos) (YR (dOp f ta tb)):=⟨uG (ho:=ho) (ha:=ha.to) (hb:=hb.to) (hm:=hm)⟩
theorem KF {op':CmpOp}(ho:OpQ X (compareOp op) r)(ho':OpQ X (compareOp op') r')(ha:JE X a ta)(hb:JE X b tb)(hc:JE X c tc)(hm:lastMarks [op,op'] [b,c]=false:=by with_unfolding_all rfl):JE X (.Compare a [op,op'] [b,c] pos) (YS r r' ta tb tc):=⟨HR (ho:=ho) (ho':=ho') (ha:=ha.to) (hb:=hb.to) (hc:=hc.to) (hm:=hm)⟩
theorem Sc {op':CmpOp}(ho:OpQ X (compareOp op) r)(ho':OpQ X (compareOp op') r')(ha:JE X a ta)(hb:JE X b tb)(hc:JE X c tc)(hm:lastMarks [op,op'] [b,c]=false:=by with_unfolding_all rfl):JT X (.Compare a [op,op'] [b,c] pos) (YR (YS r r' ta tb tc)):=⟨Ez (ho:=ho) (ho':=ho') (ha:=ha.to) (hb:=hb.to) (hc:=hc.to) (hm:=hm)⟩
theorem wP (ha:JE X a ta)(he: ∀whole,isTrue a X.env whole=(do let v <-whole;standAt a.pos;holding [v] (truthy v)):=by intro _;rfl):JT X a (YR ta):=⟨uH (ha:=ha.to) (he:=he)⟩
theorem By (ha:JT X a tt):JW X (.BoolOp .And [a] pos) tt:=⟨uI (ha:=ha.to)⟩
theorem Mi (ha:JT X a tt):JW X (.BoolOp .Or [a] pos) tt:=⟨qK (ha:=ha.to)⟩
theorem Mj (ha:JT X a tt)(hb:JW X (.BoolOp .And (b::rest) pos) tu):JW X (.BoolOp .And (a::b::rest) pos) (Ew tt tu):=⟨uJ (ha:=ha.to) (hb:=hb.to)⟩
theorem Rf (ha:JT X a tt)(hb:JW X (.BoolOp .Or (b::rest) pos) tu):JW X (.BoolOp .Or (a::b::rest) pos) (HG tt tu):=⟨qL (ha:=ha.to) (hb:=hb.to)⟩
theorem yK (ha:JT X a tt):JT X (.UnaryOp .Not a pos) (Ba tt):=⟨uK (ha:=ha.to)⟩
theorem Ay {op:BoolOp}(ha:JE X a ta):JE X (.BoolOp op [a] pos) ta:=⟨qM (ha:=ha.to)⟩
theorem Tq (ha:JE X a ta)(hb:JE X (.BoolOp .And (b::rest) pos) tb):JE X (.BoolOp .And (a::b::rest) pos) (Lh ta tb):=⟨qN (ha:=ha.to) (hb:=hb.to)⟩
theorem jor (ha:JE X a ta)(hb:JE X (.BoolOp .Or (b::rest) pos) tb):JE X (.BoolOp .Or (a::b::rest) pos) (uB ta tb):=⟨qor (ha:=ha.to) (hb:=hb.to)⟩
theorem qi (ha:JE X a ta):JE X (.UnaryOp .Not a pos) (Li ta):=⟨qO (ha:=ha.to)⟩
theorem jc:JA X [] Xc:=⟨Ar⟩
theorem FG {k:Nat}(h:JA X es t):JE X (.Tuple es k pos) (uA t):=⟨qP (h:=h.to)⟩
theorem Bz (h:JA X es t):JE X (.List es pos) (HF t):=⟨qQ (h:=h.to)⟩
end
section
variable {X:Cx}{st:Stmt}{sts:List Stmt}{t u:TSD}{e:Expr}{te:TED}{pos:Pos}
theorem zg:JSs X [] Me:=⟨HY⟩
theorem je (h1:JS X st t)(h2:JSs X sts u):JSs X (st::sts) (No t u):=⟨EF (h1:=h1.to) (h2:=h2.to)⟩
theorem jg (h1:JS X st t):JSs X [st] t:=⟨HZ (h1:=h1.to)⟩
theorem JP (he:JE X e te)(hs:swapsWith e none pos.line X.env=pure false:=by rfl):JS X (.Expr e pos) (EA te):=⟨uO (he:=he.to) (hs:=hs)⟩
theorem wu (he:JE X e te):JS X (.Return (some e) pos) (Bd te):=⟨qR (he:=he.to)⟩
theorem Wn {c:Expr}{a b:List Stmt}{tc:TTD}(hc:JT X c tc)(ha:JSs X a t)(hb:JSs X b u):JS X (.If c a b pos) (Tn tc t u):=⟨qS (hc:=hc.to) (ha:=ha.to) (hb:=hb.to)⟩
variable {i:Nat}{x:Str}
theorem Jy {pos':Pos}(hN:X.N.Nodup)(hi:X.N[i]? =some x)(hx:Loc X.env.scope x)(he:JE X e te)(hs:swapsWith e (some (.Name x pos')) pos.line X.env=pure false:=by rfl)(hf:X.fn x=true\/X.env.scope.names.lookup x=some .local:=by first|exact .inl rfl|exact .inr rfl|assumption):JS X (.Assign [.Name x pos'] e pos) (EB i te):=⟨qT (hN:=hN) (hi:=hi) (hx:=hx) (he:=he.to) (hs:=hs) (hf:=hf)⟩
theorem ya (hN:X.N.Nodup)(hi:X.N[i]? =some x)(hx:Loc X.env.scope x)(hf:X.fn x=true\/X.env.scope.names.lookup x=some .local:=by first|exact .inl rfl|exact .inr rfl|assumption):JG X (.Name x pos) (gN i):=⟨EG (hN:=hN) (hi:=hi) (hx:=hx) (hf:=hf)⟩
theorem Rg {j:Nat}{y:Str}{p1 p2:Pos}{k:Nat}(hc:X.calm=true)(hN:X.N.Nodup)(hi:X.N[i]? =some x)(hj:X.N[j]? =some y)(hx:Loc X.env.scope x)(hy:Loc X.env.scope y)(hf:X.fn x=true\/X.env.scope.names.lookup x=some .local:=by first|exact .inl rfl|exact .inr rfl|assumption)(hf2:X.fn y=true\/X.env.scope.names.lookup y=some .local:=by first|exact .inl rfl|exact .inr rfl|assumption):JG X (.Tuple [.Name x p1,.Name y p2] k pos) (gT2 i j):=⟨Ka (hc:=hc) (hN:=hN) (hi:=hi) (hj:=hj) (hx:=hx) (hy:=hy) (hf:=hf) (hf2:=hf2)⟩
theorem Sd {tg:Expr}{g:TGD}(he:JE X e te)(hg:JG X tg g)(hs:swapsWithSole [tg] e pos.line X.env=pure false:=by rfl)(hsw:swappedStores [tg] e X.env=pure none:=by rfl)(h1:(assignEach [tg] X.env).map (·.2)= [assign tg X.env]:=by rfl):JS X (.Assign [tg] e pos) (uL te g):=⟨qU (he:=he.to) (hg:=hg.to) (hs:=hs) (hsw:=hsw) (h1:=h1)⟩
theorem jah {j:Nat}{y:Str}{a b:Expr}{ta:TAD}{px py pt:Pos}{kt k2 pt2}(hc:X.calm=true)(hN:X.N.Nodup)(hi:X.N[i]? =some x)(hj:X.N[j]? =some y)(hij:i≠j)(hx:X.env.scope.names.lookup x=some .local)(hy:X.env.scope.names.lookup y=some .local)(ha:JA X [a,b] ta)(hw:swappedStores [.Tuple [.Name x px,.Name y py] kt pt] (.Tuple [a,b] k2 pt2) X.env=pure (some [x,y]))(hs:swapsWithSole [.Tuple [.Name x px,.Name y py] kt pt] (.Tuple [a,b] k2 pt2) pos.line X.env=pure false:=by rfl):JS X (.Assign [.Tuple [.Name x px,.Name y py] kt pt] (.Tuple [a,b] k2 pt2) pos) (uM i j ta):=⟨qV (hc:=hc) (hN:=hN) (hi:=hi) (hj:=hj) (hij:=hij) (hx:=hx) (hy:=hy) (ha:=ha.to) (hw:=hw) (hs:=hs)⟩
end
section
variable {X:Cx}{tg e iter elt:Expr}{te:TED}{ti:TID}{g:TGD}{tb:TSD}{tt:TTD}{pos:Pos}{ta:TAD}{scope:Scope}{js:List Nat}{ifs:List Expr}
theorem BA (he:JE X e te):JI X tg e (iL te):=⟨EK (he:=he.to)⟩
theorem ZM {p:Pos}{a:Expr}(hg:Gl X "range")(hm:X.mg "range" =none)(ha:JA X [a] ta)(hs:starEach [a] X.env= [(false,eval a X.env)]:=by rfl):JI X tg (.Call (.Name "range" p) [a] [] pos) (iR1 ta):=⟨uS (hg:=hg) (hm:=hm) (ha:=ha.to) (hs:=hs)⟩
theorem Mk {body:List Stmt}(hp:PassesOwn (model X.prog X.w) X.A X.env X.xe)(hc:X.calm=true)(hi:JI X tg iter ti)(hg:JG X tg g)(hb:JSs X body tb)(hs: ∀x,foldedSetIterable iter X.env x=pure x:=by intro _;rfl):JS X (.For tg iter body [] pos) (To ti g tb):=⟨qW (hp:=hp) (hc:=hc) (hi:=hi.to) (hg:=hg.to) (hb:=hb.to) (hs:=hs)⟩
theorem jP:PTs X [] (LT X.K YT):=EL
theorem Va {c:Expr}(hc:JT X c tt):PTs X [c] (LT X.K tt):=EM (hc:=hc.to)
theorem jlc {i:Nat}{x:Str}{p:Pos}(hc:X.calm=true)(S:BlockOk X scope js)(hi:JI X (.Name x p) iter ti)(hj:i∈js)(hN:X.N.Nodup)(hx:X.N[i]? =some x)(hl:scope.names.lookup x=some .local\/scope.names.lookup x=some .cell)(ht: ∀X',jp X scope X'->PTs X' ifs (LT X'.K tt))(he: ∀X',jp X scope X'->JE X' elt te)(hs: ∀x,foldedSetIterable iter X.env x=pure x:=by intro _;rfl):JE X (.ListComp elt [⟨.Name x p,iter,ifs,0⟩] scope pos) (JL (bN i) js ti tt te):=⟨qlc (hc:=hc) (S:=S) (hi:=hi.to) (hj:=hj) (hN:=hN) (hx:=hx) (hl:=hl) (ht:=ht) (he:=λX' hX=>(he X' hX).to) (hs:=hs)⟩
theorem xm {i j:Nat}{x y:Str}{p1 p2 p3:Pos}{k:Nat}(hc:X.calm=true)(S:BlockOk X scope js)(hi:JI X (.Tuple [.Name x p1,.Name y p2] k p3) iter ti)(hj:i∈js)(hj2:j∈js)(hij:i≠j)(hN:X.N.Nodup)(hx:X.N[i]? =some x)(hy:X.N[j]? =some y)(hl:scope.names.lookup x=some .local\/scope.names.lookup x=some .cell)(hl2:scope.names.lookup y=some .local\/scope.names.lookup y=some .cell)(ht: ∀X',jp X scope X'->PTs X' ifs (LT X'.K tt))(he: ∀X',jp X scope X'->JE X' elt te)(hs: ∀x,foldedSetIterable iter X.env x=pure x:=by intro _;rfl):JE X (.ListComp elt [⟨.Tuple [.Name x p1,.Name y p2] k p3,iter,ifs,0⟩] scope pos) (JL (b2 i j) js ti tt te):=⟨qX (hc:=hc) (S:=S) (hi:=hi.to) (hj:=hj) (hj2:=hj2) (hij:=hij) (hN:=hN) (hx:=hx) (hy:=hy) (hl:=hl) (hl2:=hl2) (ht:=ht) (he:=λX' hX=>(he X' hX).to) (hs:=hs)⟩
end
section
variable {X:Cx}{k:Nat}{f:Addr}{fd:FuncData}{ps:List Str}{spd:RDn}{x:Str}{p pos:Pos}{e:Expr}{es:List Expr}{t:TAD}
theorem jy (F:FnOk X.prog X.w X.K X.mg X.base CX0 k f fd ps (LSp X.K spd))(hr:Room k X.A)(hg:Gl X x)(hm:X.mg x=some (.ref f))(hk:PySem.W.keepIn X.K (.ref f)=true)(hb:Binds X.K fd ps [])(ha:JA X (e::es) t)(hdb:(x==("__debug__" :Str))=false:=by decide)(he:starEach (e::es) X.env=(false,eval e X.env)::starEach es X.env:=by rfl)(hpl:(backTo pos (starEach es X.env)).any (·.1)=false:=by rfl):JE X (.Call (.Name x p) (e::es) [] pos) (dCB spd t):=⟨uU (F:=F) (hr:=hr) (hg:=hg) (hm:=hm) (hk:=hk) (hb:=hb) (ha:=ha.to) (hdb:=hdb) (he:=he) (hpl:=hpl)⟩
theorem jG {id:String}{r:RDn}(hc:vJ X (.builtin id) r)(hg:Gl X x)(hm:X.mg x=none)(hv:bootBuiltins x=some (.builtin id))(ha:JA X (e::es) t)(hn:x≠ "__name__" :=by decide)(hdb:(x==("__debug__" :Str))=false:=by decide)(he:starEach (e::es) X.env=(false,eval e X.env)::starEach es X.env:=by rfl)(hpl:(backTo pos (starEach es X.env)).any (·.1)=false:=by rfl):JE X (.Call (.Name x p) (e::es) [] pos) (dCB r t):=⟨Ke (hc:=hc) (hg:=hg) (hm:=hm) (hv:=hv) (ha:=ha.to) (hn:=hn) (hdb:=hdb) (he:=he) (hpl:=hpl)⟩
theorem wC {T:String}{r:RDn}(hc:vJ X (.type T) r)(hg:Gl X x)(hm:X.mg x=none)(hv:bootBuiltins x=some (.type T))(ha:JA X (e::es) t)(hn:x≠ "__name__" :=by decide)(hdb:(x==("__debug__" :Str))=false:=by decide)(he:starEach (e::es) X.env=(false,eval e X.env)::starEach es X.env:=by rfl)(hpl:(backTo pos (starEach es X.env)).any (·.1)=false:=by rfl):JE X (.Call (.Name x p) (e::es) [] pos) (dCB r t):=⟨EO (hc:=hc) (hg:=hg) (hm:=hm) (hv:=hv) (ha:=ha.to) (hn:=hn) (hdb:=hdb) (he:=he) (hpl:=hpl)⟩
end
section
variable {X:Cx}{iter elt:Expr}{te:TED}{ti:TID}{tt:TTD}{pos spos:Pos}{scope:Scope}{js:List Nat}{ifs:List Expr}
theorem BB {i k:Nat}{x y:Str}{p py:Pos}(hc:X.calm=true)(hN:X.N.Nodup)(hk:X.N[k]? =some y)(hy:Loc X.env.scope y)(S:BlockOk X scope js)(hi:JI X (.Name x p) iter ti)(hj:i∈js)(hx:X.N[i]? =some x)(hl:scope.names.lookup x=some .local\/scope.names.lookup x=some .cell)(ht: ∀X',jp X scope X'->PTs X' ifs (LT X'.K tt))(he: ∀X',jp X scope X'->JE X' elt te)(hsw:swapsWith (.ListComp elt [⟨.Name x p,iter,ifs,0⟩] scope pos) (some (.Name y py)) spos.line X.env=pure true:=by rfl)(hf:X.fn y=true\/X.env.scope.names.lookup y=some .local:=by first|exact .inl rfl|exact .inr rfl|assumption)(hs: ∀x,foldedSetIterable iter X.env x=pure x:=by intro _;rfl):JS X (.Assign [.Name y py] (.ListComp elt [⟨.Name x p,iter,ifs,0⟩] scope pos) spos) (EB k (JL (bN i) js ti tt te)):=⟨Kf (hc:=hc) (hN:=hN) (hk:=hk) (hy:=hy) (S:=S) (hi:=hi.to) (hj:=hj) (hx:=hx) (hl:=hl) (ht:=ht) (he:=λX' hX=>(he X' hX).to) (hsw:=hsw) (hf:=hf) (hs:=hs)⟩
end
section
variable {X:Cx}{iter iter' elt:Expr}{te:TED}{ti ti':TID}{tt tt':TTD}{pos:Pos}{scope:Scope}{js:List Nat}{ifs ifs':List Expr}
theorem jai {i i':Nat}{x y:Str}{p py:Pos}(hc:X.calm=true)(S:BlockOk X scope js)(hi:JI X (.Name x p) iter ti)(hj:i∈js)(hj':i'∈js)(hne:i≠i')(hN:X.N.Nodup)(hx:X.N[i]? =some x)(hy:X.N[i']? =some y)(hl:scope.names.lookup x=some .local\/scope.names.lookup x=some .cell)(hl':scope.names.lookup y=some .local\/scope.names.lookup y=some .cell)(ht: ∀X',jp X scope X'->PTs X' ifs (LT X'.K tt))(hi': ∀X',jp X scope X'->JI X' (.Name y py) iter' ti')(ht': ∀X',jp X scope X'->PTs X' ifs' (LT X'.K tt'))(he: ∀X',jp X scope X'->JE X' elt te)(hs: ∀x,foldedSetIterable iter X.env x=pure x:=by intro _;rfl)(hs': ∀env x,foldedSetIterable iter' env x=pure x:=by intro _ _;rfl):JE X (.ListComp elt [⟨.Name x p,iter,ifs,0⟩,⟨.Name y py,iter',ifs',0⟩] scope pos) (EQ (bN i) js ti tt i' ti' tt' te):=⟨qY (hc:=hc) (S:=S) (hi:=hi.to) (hj:=hj) (hj':=hj') (hne:=hne) (hN:=hN) (hx:=hx) (hy:=hy) (hl:=hl) (hl':=hl') (ht:=ht) (hi':=λX' hX=>(hi' X' hX).to) (ht':=ht') (he:=λX' hX=>(he X' hX).to) (hs:=hs) (hs':=hs')⟩
end
section
variable {X:Cx}{a b e:Expr}{ta tb te:TED}{pos p2:Pos}
theorem jix (ha:JE X a ta)(hb:JE X b tb)(hs:Po b):JE X (.Subscript a b pos) (dOp ixD ta tb):=⟨qix (ha:=ha.to) (hb:=hb.to) (hs:=hs)⟩
end
theorem Px {ta:TED}{T:String}{t:Str}(hT:T∈ ["tuple","int","bool","list","str"])(hg:Gl X "isinstance")(hm:X.mg "isinstance" =none)(hg2:Gl X t)(hm2:X.mg t=none)(hv:bootBuiltins t=some (.type T))(ha:JE X a ta)(hn:t≠ "__name__" :=by decide)(hd:(t==("__debug__" :Str))=false:=by decide)(h1:starEach [a,.Name t p2] X.env=(false,eval a X.env)::starEach [.Name t p2] X.env:=by rfl)(h2:(backTo pos (starEach [.Name t p2] X.env)).any (·.1)=false:=by rfl):JE X (.Call (.Name "isinstance" p) [a,.Name t p2] [] pos) (dIs T ta):=⟨xg (hT:=hT) (hg:=hg) (hm:=hm) (hg2:=hg2) (hm2:=hm2) (hv:=hv) (ha:=ha.to) (hn:=hn) (hd:=hd) (h1:=h1) (h2:=h2)⟩
section
variable {X:Cx}{o e i:Expr}{to te ti:TED}{apos cpos pos:Pos}
theorem qj (ho:JE X o to)(he:JE X e te)(hbase:attributeBase o "append" X.env (eval o X.env)=eval o X.env:=by rfl)(hfew:((backTo cpos (starEach [e] X.env)).all (λx=> !x.1)&&(backToKw cpos (keywordEach [] X.env)).all (λx=>x.1.isSome)&&decide ([e].length+([]:List Keyword).length+(if ([]:List Keyword).isEmpty then 0 else 1)<30))=true:=by rfl)(hline:(apos.endLine==cpos.line)=true:=by rfl)(hs:starEach [e] X.env=(false,eval e X.env)::starEach [] X.env:=by rfl)(hplain:(backTo cpos (starEach [] X.env)).any (·.1)=false:=by rfl):JE X (.Call (.Attribute o "append" apos) [e] [] cpos) (qc to te):=⟨jab (ho:=ho.to) (he:=he.to) (hbase:=hbase) (hfew:=hfew) (hline:=hline) (hs:=hs) (hplain:=hplain)⟩
theorem QC (ho:JE X o to)(hi:JE X i ti)(ha: ∀v,assign (.Subscript o i pos) X.env v=(do
 let ov <-holding [v] (eval o X.env)
 let iv <-holding [v,ov] (eval i X.env)
 standAt pos
 holding [v,ov,iv] (setItem ov iv v)
 release [v,ov,iv] []):=by intro _;rfl):JG X (.Subscript o i pos) (Kp to ti):=⟨Kq (ho:=ho.to) (hi:=hi.to) (ha:=ha)⟩
end
theorem jpt {e:Expr}{t:TTD}(h:JW X e t):JT X e t:=⟨qpt (h:=h.to)⟩
theorem Wo:JO X none Bo:=⟨EX⟩
variable {te:TED}
theorem vK {e:Expr}(he:JE X e te):JO X (some e) (Kr te):=⟨EY (he:=he.to)⟩
theorem Vb {e:Expr}{lo hi:Option Expr}{tl th:TOD}(he:JE X e te)(hl:JO X lo tl)(hu:JO X hi th):JE X (.Subscript e (.Slice lo hi none p2) pos) (dSl te tl th):=⟨Ks (he:=he.to) (hl:=hl.to) (hu:=hu.to)⟩
theorem KG {ta:TED}(ha:JE X a ta):JE X (.UnaryOp .USub a pos) (dUn qe ta):=⟨jae (ha:=ha.to)⟩
theorem zZ {tg e:Expr}(he:JE X e te):JI X tg e (iS te):=⟨Kw (he:=he.to)⟩
theorem UC {st:Stmt}:JS X st Ax:=⟨Kx⟩
theorem jac {e:Expr}{es:List Expr}{t:TAD}(ha:JE X e te)(hr:JA X es t)(h:Pu e=true:=by rfl):JA X (e::es) (yI te t):=⟨qac (ha:=ha.to) (hr:=hr.to) (h:=h)⟩
section
variable {X:Cx}{o e i:Expr}{to te ti:TED}{apos cpos:Pos}
theorem jaj (ho:JE X o to)(he:JE X e te)(hbase:attributeBase o "index" X.env (eval o X.env)=eval o X.env:=by rfl)(hfew:((backTo cpos (starEach [e] X.env)).all (λx=> !x.1)&&(backToKw cpos (keywordEach [] X.env)).all (λx=>x.1.isSome)&&decide ([e].length+([]:List Keyword).length+(if ([]:List Keyword).isEmpty then 0 else 1)<30))=true:=by rfl)(hline:(apos.endLine==cpos.line)=true:=by rfl)(hs:starEach [e] X.env=(false,eval e X.env)::starEach [] X.env:=by rfl)(hplain:(backTo cpos (starEach [] X.env)).any (·.1)=false:=by rfl):JE X (.Call (.Attribute o "index" apos) [e] [] cpos) (qg to te):=⟨jaf (ho:=ho.to) (he:=he.to) (hbase:=hbase) (hfew:=hfew) (hline:=hline) (hs:=hs) (hplain:=hplain)⟩
theorem jak (ho:JE X o to)(hi:JE X i ti)(he:JE X e te)(hbase:attributeBase o "insert" X.env (eval o X.env)=eval o X.env:=by rfl)(hfew:((backTo cpos (starEach [i,e] X.env)).all (λx=> !x.1)&&(backToKw cpos (keywordEach [] X.env)).all (λx=>x.1.isSome)&&decide ([i,e].length+([]:List Keyword).length+(if ([]:List Keyword).isEmpty then 0 else 1)<30))=true:=by rfl)(hline:(apos.endLine==cpos.line)=true:=by rfl)(hs:starEach [i,e] X.env=(false,eval i X.env)::starEach [e] X.env:=by rfl)(hs2:starEach [e] X.env=(false,eval e X.env)::starEach [] X.env:=by rfl)(hplain:(backTo cpos (starEach [e] X.env)).any (·.1)=false:=by rfl):JE X (.Call (.Attribute o "insert" apos) [i,e] [] cpos) (qh to ti te):=⟨jag (ho:=ho.to) (hi:=hi.to) (he:=he.to) (hbase:=hbase) (hfew:=hfew) (hline:=hline) (hs:=hs) (hs2:=hs2) (hplain:=hplain)⟩
end
theorem xn {ta:TAD}{pos2:Pos}(hc:X.calm=true)(hg:Gl X "list")(hm:X.mg "list" =none)(hg2:Gl X "range")(hm2:X.mg "range" =none)(ha:JA X [a] ta)(hs:starEach [a] X.env= [(false,eval a X.env)]:=by rfl)(h1:starEach [.Call (.Name "range" p2) [a] [] pos2] X.env=(false,eval (.Call (.Name "range" p2) [a] [] pos2) X.env)::starEach [] X.env:=by rfl)(h2:(backTo pos (starEach [] X.env)).any (·.1)=false:=by rfl):JE X (.Call (.Name "list" p) [.Call (.Name "range" p2) [a] [] pos2] [] pos) (KC ta):=⟨xk (hc:=hc) (hg:=hg) (hm:=hm) (hg2:=hg2) (hm2:=hm2) (ha:=ha.to) (hs:=hs) (h1:=h1) (h2:=h2)⟩
section
variable {P:Program}{w:World}{K:PySem.W.Frag}{mg:Str->Option Value}{base:Heap}
theorem Fun.okJ {x qual:Str}{st:Stmt}{f:Addr}{fd:FuncData}{N ps:List Str}{k:Nat}{spd:RDn}(F:Fun K x qual st f fd)(S:FnScope N ps (jf st))(len: ∀ds h Q,spd ds h Q->ds.length=ps.length)
 (tb:TSD)(hbody: ∀ (cdv:Value) (A:Around) (outer:List Env) (s:Shared) (H:Hp) (E:XK),Room k (A.deeper (envOfC qual (jf st) s.heap.objs.size f cdv))->JSs (An CX0 P w K mg base N qual (jf st) f cdv A outer s H E).nox (wX st) tb)
 (read: ∀ds h Q,spd ds h Q->tb (Ll Q) (vB N ds) h):FnOk P w K mg base CX0 (k+1) f fd ps (LSp K spd):=F.okD S len tb (λcdv A outer s H E hr=>(hbody cdv A outer s H E hr).to) read
end
def Np (r:List Int):D:= .tup (r.map D.int)
def jL (T:List (List Int)):D:= .tup (T.map Np)
def Xm (n:Nat)(r:List Int):Prop:=r.length=n/\ ∀x∈r,0<=x/\x<=1000000
def GoodTab (n:Nat)(T:List (List Int)):Prop:=T.length=n/\ ∀r∈T,Xm n r
structure Sq (n e:Nat)(T:List (List Int)):Prop where
 len:T.length=n
 row: ∀r∈T,r.length=n
 nn: ∀r∈T,∀x∈r,0<=x
 bit: ∀r∈T,∀x∈r,x<2^e
variable {n:Nat}{T:List (List Int)}
theorem GoodTab.sq (g:GoodTab n T):Sq n 20 T:=⟨g.1,λr hr=>(g.2 r hr).1,λr hr x hx=>((g.2 r hr).2 x hx).1,λr hr x hx=>Int.lt_of_le_of_lt ((g.2 r hr).2 x hx).2 (by decide)⟩
variable {e:Nat}
theorem Sq.mono {f:Nat}(h:Sq n e T)(l:e<=f):Sq n f T:=⟨h.len,h.row,h.nn,λr hr x hx=>Int.lt_of_lt_of_le (h.bit r hr x hx) (by
 have:(2:Nat)^e<=2^f:=Z8 (by decide) l;have h2:((2^e:Nat):Int)<=((2^f:Nat):Int):=by exact_mod_cast this
 simpa using h2)⟩
def ent (T:List (List Int))(i j:Nat):Int:=(T.getD i []).getD j 0
def mkT (n:Nat)(f:Nat->Nat->Int):List (List Int):=(List.range n).map λi=>(List.range n).map λj=>f i j
theorem yL {i j:Nat}{f:Nat->Nat->Int}(hi:i<n)(hj:j<n):ent (mkT n f) i j=f i j:=by
 unfold ent mkT;simp [G3,hi,hj]
theorem wQ {α:Type}(xs:List α)(d:α):xs=(List.range xs.length).map λi=>xs.getD i d:=by
 apply Q4 (by simp);intro i h1 h2;simp [G3,h1]
theorem Sq.eq_mk (h:Sq n e T):T=mkT n (ent T):=by
 have h1:=wQ T [];rw [h.len] at h1;unfold mkT
 conv=>lhs;rw [h1]
 apply S9;intro i hi;have hi':i<T.length:=by rw [h.len];exact D2.mp hi
 have hr:(T.getD i []).length=n:=by
  rw [G3,G1 hi'];exact h.row _ (R8 hi')
 have h2:=wQ (T.getD i []) 0;rw [hr] at h2;exact h2
theorem Lr {f g:Nat->Nat->Int}(h: ∀i j,i<n->j<n->f i j=g i j):mkT n f=mkT n g:=by
 unfold mkT;apply S9;intro i hi;apply S9;intro j hj;exact h i j (D2.mp hi) (D2.mp hj)
theorem Sq.of_mk {f:Nat->Nat->Int}(h0: ∀i j,i<n->j<n->0<=f i j)(h1: ∀i j,i<n->j<n->f i j<2^e):Sq n e (mkT n f):=by
 have key: ∀r∈mkT n f,∃i,i<n/\r=(List.range n).map λj=>f i j:=λr hr=>by
  obtain⟨i,hi,e⟩:=D1.mp hr;exact⟨i,D2.mp hi,e.symm⟩
 refine⟨by simp [mkT],λr hr=> ?_,λr hr x hx=> ?_,λr hr x hx=> ?_⟩
 ·obtain⟨i,_,e⟩:=key r hr;rw [e];simp
 ·obtain⟨i,hi,e⟩:=key r hr;rw [e] at hx;obtain⟨j,hj,e2⟩:=D1.mp hx;rw [<-e2];exact h0 i j hi (D2.mp hj)
 ·obtain⟨i,hi,e⟩:=key r hr;rw [e] at hx;obtain⟨j,hj,e2⟩:=D1.mp hx;rw [<-e2];exact h1 i j hi (D2.mp hj)
theorem Sq.ent_nn (h:Sq n e T){i j:Nat}(hi:i<n)(hj:j<n):0<=ent T i j/\ent T i j<2^e:=by
 have hi':i<T.length:=by rw [h.len];exact hi
 have hr:T.getD i []=T[i]:=by rw [G3,G1 hi'];rfl
 have hm:T[i]∈T:=R8 hi';have hj':j<T[i].length:=by rw [h.row _ hm];exact hj
 have he:ent T i j=T[i][j]:=by unfold ent;rw [hr,List.getD_eq_getElem?_getD,List.getElem?_eq_getElem hj'];rfl
 rw [he];exact⟨h.nn _ hm _ (R8 hj'),h.bit _ hm _ (R8 hj')⟩
variable {U:List (List Int)}
theorem Sq.ext {f:Nat}(h:Sq n e T)(g:Sq n f U)(k: ∀i j,i<n->j<n->ent T i j=ent U i j):T=U:=by
 rw [h.eq_mk,g.eq_mk];exact Lr k
def zB (n:Nat)(f:Nat->Int):Int:=((List.range n).map f).sum
theorem yM (f:Nat->Int):zB 0 f=0:=rfl
theorem jZ (n:Nat)(f:Nat->Int):zB (n+1) f=zB n f+f n:=by
 unfold zB;rw [List.range_succ,List.map_append,List.sum_append];simp
variable {f:Nat->Int}
theorem zk {g:Nat->Int}(h: ∀k,k<n->f k=g k):zB n f=zB n g:=by
 unfold zB;congr 1;apply List.map_congr_left;intro k hk;exact h k (List.mem_range.mp hk)
theorem Xn (h: ∀k,k<n->0<=f k):0<=zB n f:=by
 induction n with
 |zero=>exact G1H _
 |succ n ih=>rw [jZ];have:=ih λk hk=>h k (by omega);have:=h n (by omega);omega
theorem Ls {b:Int}(h: ∀k,k<n->f k<=b):zB n f<=n*b:=by
 induction n with
 |zero=>simp [yM]
 |succ n ih=>
  rw [jZ];have h1:=ih λk hk=>h k (by omega);have h2:=h n (by omega)
  have:((n+1:Nat):Int)*b=(n:Int)*b+b:=by rw [W7,Int.add_mul];simp
  omega
theorem BC (n:Nat)(f g:Nat->Int):zB n (λk=>f k+g k)=zB n f+zB n g:=by
 induction n with
 |zero=>rfl
 |succ n ih=>rw [jZ,jZ,jZ,ih];omega
theorem Vc (n:Nat)(c:Int)(f:Nat->Int):zB n (λk=>c*f k)=c*zB n f:=by
 induction n with
 |zero=>simp [yM]
 |succ n ih=>rw [jZ,jZ,ih,Int.mul_add]
theorem Ml (n:Nat)(c:Int)(f:Nat->Int):zB n (λk=>f k*c)=zB n f*c:=by
 rw [G0x,<-Vc];exact zk λk _=>G0x _ _
theorem Mm (m n:Nat)(f:Nat->Nat->Int):zB m (λi=>zB n (f i))=zB n (λj=>zB m λi=>f i j):=by
 induction m with
 |zero=>
  rw [yM]
  induction n with
  |zero=>rfl
  |succ n ih=>rw [jZ,<-ih,yM];rfl
 |succ m ih=>
  rw [jZ,ih,<-BC];exact zk λj _=>(jZ m λi=>f i j).symm
theorem QD {i:Nat}(hi:i<n)(h: ∀k,k<n->k≠i->f k=0):zB n f=f i:=by
 induction n with
 |zero=>omega
 |succ n ih=>
  rw [jZ]
  by_cases e:i=n
  ·subst e;have:zB i f=0:=by
    have:zB i f=zB i (λ_=>0*1):=zk λk hk=>by rw [h k (by omega) (by omega)];rfl
    rw [this,Vc];simp
   omega
  ·rw [ih (by omega) λk hk hne=>h k (by omega) hne,h n (by omega) (by omega)];omega
theorem BD (h: ∀k,k<n->0<=f k):0<zB n f↔ ∃k,k<n/\0<f k:=by
 induction n with
 |zero=>simp [yM]
 |succ n ih=>
  rw [jZ];have h1:=Xn λk (hk:k<n)=>h k (by omega)
  have h2:=h n (by omega);have ih':=ih λk hk=>h k (by omega)
  constructor
  ·intro z
   by_cases q:0<f n
   ·exact⟨n,by omega,q⟩
   ·obtain⟨k,a,b⟩:=ih'.mp (by omega);exact⟨k,by omega,b⟩
  ·rintro ⟨k,a,b⟩
   by_cases q:k=n
   ·subst q;omega
   ·have:=ih'.mpr ⟨k,by omega,b⟩;omega
def Vd (n:Nat)(T U:List (List Int)):List (List Int):=mkT n λi j=>zB n λk=>ent T i k*ent U k j
theorem Sq.mul {f:Nat}(h:Sq n e T)(g:Sq n f U)(hn:n<=8):Sq n (e+f+3) (Vd n T U):=by
 have nn: ∀i j,i<n->j<n-> ∀k,k<n->0<=ent T i k*ent U k j:=λi j hi hj k hk=>Int.mul_nonneg (h.ent_nn hi hk).1 (g.ent_nn hk hj).1
 refine Sq.of_mk (λi j hi hj=>Xn (nn i j hi hj)) λi j hi hj=> ?_
 have hle: ∀k,k<n->ent T i k*ent U k j<=2^e*2^f-1:=λk hk=>by
  have a:=h.ent_nn hi hk;have b:=g.ent_nn hk hj;have:ent T i k*ent U k j<2^e*2^f:=by
   have p:(0:Int)<2^f:=G1I (by decide)
   calc ent T i k*ent U k j<=ent T i k*2^f:=N7 (Int.le_of_lt b.2) a.1
    _<2^e*2^f:=Int.mul_lt_mul_of_pos_right a.2 p
  omega
 have s:=Ls hle;have p:(0:Int)<2^e*2^f:=Int.mul_pos (G1I (by decide)) (G1I (by decide));have e1:(2:Int)^(e+f+3)=8*(2^e*2^f):=by rw [Int.pow_add,Int.pow_add];rw [G0x];rfl
 rw [e1];have hn':(n:Int)<=8:=by omega
 have:(n:Int)*(2^e*2^f-1)<=8*(2^e*2^f-1):=Int.mul_le_mul_of_nonneg_right hn' (by omega);omega
theorem yb {i j:Nat}(hi:i<n)(hj:j<n):ent (Vd n T U) i j=zB n λk=>ent T i k*ent U k j:=yL hi hj
def QF (n:Nat):List (List Int):=mkT n λi j=>if i=j then 1 else 0
theorem Sq.one (n:Nat):Sq n 1 (QF n):=Sq.of_mk (f:=λi j=>if i=j then 1 else 0) (λi j _ _=>by split<;>decide) λi j _ _=>by split<;>decide
theorem mul_assoc {f g:Nat}{V:List (List Int)}(hT:Sq n e T)(hU:Sq n f U)(hV:Sq n g V)(hn:n<=8):Vd n (Vd n T U) V=Vd n T (Vd n U V):=by
 refine((hT.mul hU hn).mul hV hn).ext (hT.mul (hU.mul hV hn) hn) λi j hi hj=> ?_
 rw [yb hi hj,yb hi hj];have e1:(zB n λk=>ent (Vd n T U) i k*ent V k j)=zB n λk=>zB n λl=>ent T i l*ent U l k*ent V k j:=
  zk λk hk=>by rw [yb hi hk,<-Ml]
 have e2:(zB n λl=>ent T i l*ent (Vd n U V) l j)=zB n λl=>zB n λk=>ent T i l*(ent U l k*ent V k j):=
  zk λl hl=>by rw [yb hl hj,<-Vc]
 rw [e1,e2,Mm];exact zk λl _=>zk λk _=>Int.mul_assoc _ _ _
theorem Lt (hT:Sq n e T)(hn:n<=8):Vd n (QF n) T=T:=by
 refine((Sq.one n).mul hT hn).ext hT λi j hi hj=> ?_
 rw [yb hi hj,QD hi λk hk hne=>by rw [QF,yL hi hk,if_neg (Ne.symm hne)];simp];rw [QF,yL hi hi,if_pos rfl];simp
theorem Lu (hT:Sq n e T)(hn:n<=8):Vd n T (QF n)=T:=by
 refine(hT.mul (Sq.one n) hn).ext hT λi j hi hj=> ?_
 rw [yb hi hj,QD hj λk hk hne=>by rw [QF,yL hk hj,if_neg hne];simp];rw [QF,yL hj hj,if_pos rfl];simp
def UD (n:Nat)(T:List (List Int)):Nat->List (List Int)
 |0=>QF n
 |k+1=>Vd n (UD n T k) T
theorem Sq.pow (hT:Sq n e T)(hn:n<=8): ∀k,Sq n (k*(e+3)+1) (UD n T k)
 |0=>(Sq.one n).mono (by omega)
 |k+1=>((Sq.pow hT hn k).mul hT hn).mono (by rw [G0w];omega)
def ZN (n:Nat)(T:List (List Int)):List (List Int):=mkT n λi j=>ent T j i
def Ve (n:Nat)(o:List Nat)(T:List (List Int)):List (List Int):=mkT n λi j=>ent T (o.idxOf i) (o.idxOf j)
theorem Sq.turn (h:Sq n e T):Sq n e (ZN n T):=Sq.of_mk (λi j hi hj=>(h.ent_nn hj hi).1) λi j hi hj=>(h.ent_nn hj hi).2
structure Ord (n:Nat)(o:List Nat):Prop where
 len:o.length=n
 all: ∀i,i<n->i∈o
theorem Ord.lt {o:List Nat}(h:Ord n o){i:Nat}(hi:i<n):o.idxOf i<n:=by rw [<-h.len];exact A7.mpr (h.all i hi)
theorem Sq.ren {o:List Nat}(h:Sq n e T)(ho:Ord n o):Sq n e (Ve n o T):=Sq.of_mk (λi j hi hj=>(h.ent_nn (ho.lt hi) (ho.lt hj)).1) λi j hi hj=>(h.ent_nn (ho.lt hi) (ho.lt hj)).2
theorem BE {x:Int}(h0:0<=x)(h1:x<2^e):x.natAbs<2^e:=by
 have:((2^e:Nat):Int)=2^e:=by simp
 omega
section
variable {α β:Type}{i i':Nat}{js:List Nat}{ti ti':TID}{te:TED}{σ:SD}{h:HD}{Q:KD}{j:ItD}
theorem lcA (xs:List α)(c g:α->D)(hz:xs.length<=1000)(hj:j h=some (xs.map c))(ht: ∀R:ItD->HD->Prop,R j h->ti σ h R)
 (he: ∀x∈xs,∀Q':KD,Q' (g x) h->te ((jX js σ).set i (some (c x))) h Q')(hq: ∀p,h p=none->Q (.lst p) (wq h p (xs.map g))):JL (bN i) js ti YT te σ h Q:=by
 refine ht _ ⟨xs.length,λk ys h'=>h'=h/\ys=(xs.take k).map g,⟨rfl,by simp⟩,?_⟩;rintro k ys h' ⟨rfl,rfl⟩;refine⟨by simp only [G0,D4];exact D5 (jE (by omega)),xs.map c,hj,by simp,λhl p hp=> ?_,λd hd=>⟨_,rfl,?_⟩⟩
 ·rw [R3 (by simpa using hl)];exact hq p hp
 ·unfold YT;dsimp only;rw [if_pos rfl];rw [P3] at hd;cases hx:xs[k]? with
  |none=>rw [hx] at hd;cases hd
  |some x=>
   rw [hx] at hd;cases hd;refine he x (G8 hx) _ ⟨h',Sub.refl _,rfl,?_⟩;rw [N6,hx];simp
theorem lcF (xs:List α)(c g:α->D)(p:α->Bool){tt:TTD}(hz:xs.length<=1000)(hj:j h=some (xs.map c))(ht: ∀R:ItD->HD->Prop,R j h->ti σ h R)
 (hp: ∀x∈xs,∀Q':Bool->HD->Prop,Q' (p x) h->tt ((jX js σ).set i (some (c x))) h Q')(he: ∀x∈xs,p x=true-> ∀Q':KD,Q' (g x) h->te ((jX js σ).set i (some (c x))) h Q')(hq: ∀a,h a=none->Q (.lst a) (wq h a ((xs.filter p).map g))):JL (bN i) js ti tt te σ h Q:=by
 refine ht _ ⟨xs.length,λk ys h'=>h'=h/\ys=((xs.take k).filter p).map g,⟨rfl,by simp⟩,?_⟩;rintro k ys h' ⟨rfl,rfl⟩;refine⟨?_,xs.map c,hj,by simp,λhl a ha=> ?_,λd hd=>⟨_,rfl,?_⟩⟩
 ·have:=C5 p (xs.take k);simp only [G0,D4] at this ⊢;exact D5 (jE (by omega))
 ·rw [R3 (by simpa using hl)];exact hq a ha
 ·rw [P3] at hd;cases hx:xs[k]? with
  |none=>rw [hx] at hd;cases hd
  |some x=>
   rw [hx] at hd;cases hd;refine hp x (G8 hx) _ ?_;cases hb:p x with
   |true=>
    rw [if_pos rfl];refine he x (G8 hx) hb _ ⟨h',Sub.refl _,rfl,?_⟩;rw [N6,hx];simp [hb]
   |false=>
    rw [if_neg P7];refine⟨h',Sub.refl _,rfl,?_⟩;rw [N6,hx];simp [hb]
theorem Se (xs:List α)(c g:α->D)(hz:xs.length<=1000)(hj:j h=some (xs.map c))(ht: ∀R:ItD->HD->Prop,R j h->ti σ h R)
 (he: ∀x∈xs,∀Q':KD,Q' (g x) h->te ((jX js σ).set i (some (c x))) h Q')(hq:Q (.tup (xs.map g)) h):dCB Jx (yI (JL (bN i) js ti YT te) Xc) σ h Q:=by
 show JL (bN i) js ti YT te σ h (λx h1=>Jx [x] h1 Q);exact lcA xs c g hz hj ht he λp hp=>(show ∃ys,wq h p (xs.map g) p=some ys/\Q (.tup ys) (Xa (wq h p (xs.map g)) p) from ⟨_,jd,by rw [wf hp];exact hq⟩)
theorem xo (xs:List α)(c g:α->D)(p:α->Bool){tt:TTD}(hz:xs.length<=1000)(hj:j h=some (xs.map c))(ht: ∀R:ItD->HD->Prop,R j h->ti σ h R)
 (hp: ∀x∈xs,∀Q':Bool->HD->Prop,Q' (p x) h->tt ((jX js σ).set i (some (c x))) h Q')(he: ∀x∈xs,p x=true-> ∀Q':KD,Q' (g x) h->te ((jX js σ).set i (some (c x))) h Q')(hq:Q (.tup ((xs.filter p).map g)) h):dCB Jx (yI (JL (bN i) js ti tt te) Xc) σ h Q:=by
 show JL (bN i) js ti tt te σ h (λx h1=>Jx [x] h1 Q);exact lcF xs c g p hz hj ht hp he λa ha=>(show ∃ys,wq h a ((xs.filter p).map g) a=some ys/\Q (.tup ys) (Xa (wq h a ((xs.filter p).map g)) a) from ⟨_,jd,by rw [wf ha];exact hq⟩)
theorem qk (xs:List α)(c:α->D)(g:α->Bool)(hz:xs.length<=1000)(hj:j h=some (xs.map c))(ht: ∀R:ItD->HD->Prop,R j h->ti σ h R)
 (he: ∀x∈xs,∀Q':KD,Q' (.bl (g x)) h->te ((jX js σ).set i (some (c x))) h Q')(hq:Q (.bl (xs.all g)) h):dCB EW (yI (JL (bN i) js ti YT te) Xc) σ h Q:=by
 show JL (bN i) js ti YT te σ h (λx h1=>EW [x] h1 Q);exact lcA xs c (λx=> .bl (g x)) hz hj ht he λp hp=>⟨p,xs.map g,rfl,by rw [jd,T5];rfl,by rw [wf hp,A5];exact hq⟩
theorem jal (xs:List α)(c:α->D)(g:α->Bool)(hz:xs.length<=1000)(hj:j h=some (xs.map c))(ht: ∀R:ItD->HD->Prop,R j h->ti σ h R)
 (he: ∀x∈xs,∀Q':KD,Q' (.bl (g x)) h->te ((jX js σ).set i (some (c x))) h Q')(hq:Q (.bl (xs.any g)) h):dCB xh (yI (JL (bN i) js ti YT te) Xc) σ h Q:=by
 show JL (bN i) js ti YT te σ h (λx h1=>xh [x] h1 Q);exact lcA xs c (λx=> .bl (g x)) hz hj ht he λp hp=>⟨p,xs.map g,rfl,by rw [jd,T5];rfl,by rw [wf hp,G1A];exact hq⟩
end
end L2
namespace L2
open PySem PySem.Spec PyProof.Rows PySem.SeqAt
def jt (o:List Nat):D:= .tup (o.map λ(k:Nat)=>D.int (k:Int))
def Ordr (n:Nat)(o:List Nat):Prop:=o.Perm (List.range n)
variable {n:Nat}{o:List Nat}
theorem Ordr.ord (h:Ordr n o):Ord n o:=⟨by rw [h.length_eq,P4],λi hi=>h.mem_iff.mpr (D2.mpr hi)⟩
def zT (o:List Nat):List Int:=o.map λ(k:Nat)=>(k:Int)
theorem Xo (o:List Nat):jt o= .tup ((zT o).map D.int):=by unfold jt zT;rw [List.map_map];rfl
theorem Lv (o:List Nat)(i:Nat):(zT o).idxOf (i:Int)=o.idxOf i:=by
 induction o with
 |nil=>rfl
 |cons a o ih=>
  show ((a:Int)::zT o).idxOf (i:Int)=_;rw [List.idxOf_cons,List.idxOf_cons,ih]
  by_cases e:a=i
  ·subst e;simp
  ·have e1:(a==i)=false:=by simpa using e
   have e2:((a:Int)==(i:Int))=false:=by simp;omega
   rw [e1,e2]
variable {i:Nat}
theorem Lw (h:i∈o):(i:Int)∈zT o:=D1.mpr ⟨i,h,rfl⟩
theorem QH: ∀n:Nat,(zT (List.range n)).Pairwise (· <= ·):=λn=>by
 unfold zT;rw [B1];exact List.pairwise_le_range.imp λh=>by omega
theorem Ordr.insert (h:Ordr n o)(k:Nat):Ordr (n+1) (o.take k++n::o.drop k):=by
 unfold Ordr;rw [F8];refine G0X.trans ?_;rw [R5];exact(List.Perm.cons n h).trans (List.perm_append_singleton n _).symm
theorem yN (h:HD): ∀ns:List Int,ToPs h (ns.map D.int) (ns.map PyData.int)
 | []=>rfl
 |n::ns=>⟨_,_,rfl,rfl,yN h ns⟩
theorem JQ: ∀ns:List Int,PyData.canLayAll0 (ns.map PyData.int)=true
 | []=>rfl
 |n::ns=>by show (PyData.canLay0 (.int n)&&_)=true;rw [JQ ns];rfl
theorem Vf: ∀ns:List Int,PyData.eqvAll (ns.map PyData.int) (ns.map PyData.int)=true
 | []=>rfl
 |n::ns=>by show ((n==n)&&PyData.eqvAll _ _)=true;rw [Vf ns];simp
theorem Wp: ∀ns:List Int,PyData.depthAll (ns.map PyData.int)<=1
 | []=>by simp [PyData.depthAll]
 |n::ns=>by
  have:=Wp ns;simp only [T3,PyData.depthAll,PyData.depth];omega
theorem yU (ns:List Int):shaped (.list (ns.map .int))=true:=by
 unfold shaped;have h1:PyData.canLay0 (.list (ns.map .int))=true:=by simp only [PyData.canLay0];exact JQ ns
 have h2:=Wp ns;have h3:PyData.depth (.list (ns.map .int))<=64:=by simp only [PyData.depth];omega
 rw [h1,G6 h3];rfl
def Az (r:List Int):PyData:= .tuple (r.map .int)
variable {e:Nat}{T:List (List Int)}
theorem Wq (h:Sq n e T){i:Nat}(hi:i<n):atI (T.map Np) (i:Int)=some (Np (T.getD i [])):=by
 have hi':i<T.length:=by rw [h.len];exact hi
 exact wW (by rw [P3,G3,G1 hi'];rfl)
theorem Sq.getRow (h:Sq n e T){i:Nat}(hi:i<n):T.getD i []∈T:=by
 have hi':i<T.length:=by rw [h.len];exact hi
 rw [G3,G1 hi'];exact R8 hi'
theorem Wr {r:List Int}(h:r.length=n){j:Nat}(hj:j<n):atI (r.map D.int) (j:Int)=some (.int (r.getD j 0)):=by
 have hj':j<r.length:=by rw [h];exact hj
 exact wW (by rw [P3,G3,G1 hj'];rfl)
theorem BF (n:Nat)(f:Nat->Nat->Int):D.tup ((List.range n).map λi=>D.tup ((List.range n).map λj=>D.int (f i j)))=jL (mkT n f):=by
 unfold jL Np mkT;rw [T5]
 congr 1
 apply S9;intro i _;simp [T5,Y1]
theorem pow_add (h:Sq n e T)(hn:n<=8)(a:Nat): ∀b,UD n T (a+b)=Vd n (UD n T a) (UD n T b)
 |0=>by rw [show UD n T 0=QF n from rfl,Lu (h.pow hn a) hn];rfl
 |b+1=>by
  show Vd n (UD n T (a+b)) T=Vd n (UD n T a) (Vd n (UD n T b) T);rw [pow_add h hn a b,mul_assoc (h.pow hn a) (h.pow hn b) h hn]
theorem BG (h:Sq n e T)(hn:n<=8):UD n T 1=T:=Lt h hn
theorem BH (h:Sq n e T)(hn:n<=8)(b:Nat):UD n T (b+1)=Vd n T (UD n T b):=by
 rw [Nat.add_comm,pow_add h hn,BG h hn]
theorem ZO {j:Nat}(hi:i<n)(hj:j<n):ent (ZN n T) i j=ent T j i:=yL hi hj
theorem Lx {f:Nat}{U:List (List Int)}(h:Sq n e T)(g:Sq n f U)(hn:n<=8):ZN n (Vd n T U)=Vd n (ZN n U) (ZN n T):=
 (h.mul g hn).turn.ext (g.turn.mul h.turn hn) λi j hi hj=>by
  rw [ZO hi hj,yb hj hi,yb hi hj];exact zk λk hk=>by rw [ZO hi hk,ZO hk hj,G0x]
theorem Ly (n:Nat):ZN n (QF n)=QF n:=
 (Sq.one n).turn.ext (Sq.one n) λi j hi hj=>by
  rw [ZO hi hj,QF,yL hj hi,yL hi hj]
  by_cases e:i=j
  ·rw [if_pos e,if_pos e.symm]
  ·rw [if_neg e,if_neg (λz=>e z.symm)]
theorem Rh (h:Sq n e T)(hn:n<=8): ∀k,ZN n (UD n T k)=UD n (ZN n T) k
 |0=>Ly n
 |k+1=>by
  rw [BH h hn,Lx h (h.pow hn k) hn,Rh h hn k];rfl
theorem Lz {a b:List Int}(h:a.Perm b):a.sum=b.sum:=by
 induction h with
 |nil=>rfl
 |cons x _ ih=>simp [ih]
 |swap x y l=>simp;omega
 |trans _ _ i1 i2=>rw [i1,i2]
theorem Ordr.nodup (h:Ordr n o):o.Nodup:=h.symm.nodup Q5
theorem BI (h:Ordr n o)(f:Nat->Int):zB n (λm=>f (o.idxOf m))=zB n f:=by
 unfold zB;have h1:((List.range n).map λm=>f (o.idxOf m)).sum=(o.map λm=>f (o.idxOf m)).sum:=Lz (h.symm.map _);have hl:=h.ord.len;have h2:(o.map λm=>f (o.idxOf m))=(List.range n).map f:=by
  apply Q4 (by simp [hl]);intro i a b;simp only [Z5,W8];rw [h.nodup.idxOf_getElem]
 rw [h1,h2]
theorem Vg {j:Nat}(hi:i<n)(hj:j<n):ent (Ve n o T) i j=ent T (o.idxOf i) (o.idxOf j):=yL hi hj
theorem Sf {f : Nat} {U : List (List Int)} (h : Sq n e T) (g : Sq n f U) (ho : Ordr n o) (hn : n ≤ 8) : Ve n o (Vd n T U) = Vd n (Ve n o T) (Ve n o U) :=
  ((h.mul g hn).ren ho.ord).ext ((h.ren ho.ord).mul (g.ren ho.ord) hn) fun i j hi hj => by
    rw [Vg hi hj, yb (ho.ord.lt hi) (ho.ord.lt hj), yb hi hj, ← BI ho]
    exact zk fun k hk => by rw [Vg hi hk, Vg hk hj]
theorem Sg (ho:Ordr n o){i j:Nat}(hi:i<n)(hj:j<n)(e:o.idxOf i=o.idxOf j):i=j:=by
 have a:o.idxOf i<o.length:=by rw [ho.ord.len];exact ho.ord.lt hi
 have b:o.idxOf j<o.length:=by rw [ho.ord.len];exact ho.ord.lt hj
 have c:=J4 a;have d:=J4 b;rw [<-c,<-d];simp only [e]
theorem Sh (ho : Ordr n o) : Ve n o (QF n) = QF n :=
  ((Sq.one n).ren ho.ord).ext (Sq.one n) fun i j hi hj => by
    rw [Vg hi hj, QF, yL (ho.ord.lt hi) (ho.ord.lt hj), yL hi hj]
    by_cases e : i = j
    · rw [if_pos e, if_pos (by rw [e])]
    · rw [if_neg e, if_neg (fun z => e (Sg ho hi hj z))]
theorem BJ (h:Sq n e T)(ho:Ordr n o)(hn:n<=8): ∀k,Ve n o (UD n T k)=UD n (Ve n o T) k
 |0=>Sh ho
 |k+1=>by
  show Ve n o (Vd n (UD n T k) T)=Vd n (UD n (Ve n o T) k) (Ve n o T);rw [Sf (h.pow hn k) h ho hn,BJ h ho hn k]
theorem QJ {f j:Nat}{U:List (List Int)}(h:Sq n e T)(g:Sq n f U)(hi:i<n)(hj:j<n):ent (Vd n T U) i j≠0↔ ∃k,k<n/\ent T i k≠0/\ent U k j≠0:=by
 rw [yb hi hj];have nn: ∀k,k<n->0<=ent T i k*ent U k j:=λk hk=>Int.mul_nonneg (h.ent_nn hi hk).1 (g.ent_nn hk hj).1
 have s:=Xn nn;have p:=BD nn;constructor
 ·intro z;obtain⟨k,hk,w⟩:=p.mp (by omega);refine⟨k,hk,λq=> ?_,λq=> ?_⟩
  ·rw [q] at w;simp at w
  ·rw [q] at w;simp at w
 ·rintro ⟨k,hk,a,b⟩ z;have c:=(h.ent_nn hi hk).1;have d:=(g.ent_nn hk hj).1;have:0<ent T i k*ent U k j:=Int.mul_pos (by omega) (by omega);have:=p.mpr ⟨k,hk,this⟩;omega
section
variable {prog:Program}{w:World}{A:Around}{E:Value->Shared->Prop}{s:Shared}
variable {items:Array Value}
theorem BK {it t:Addr}{i n:Nat}{d1 d2:Option Addr}{s1 s2:Array (Option Value)}{P:PySem.Fin->Shared->Prop}(a1:s.heap.get? it=some {cls:= .type "tuple_iterator",dict:=d1,data:= .fields #[.ref t,.int i 0],slots:=s1})(a2:s.heap.get? t=some {cls:= .type "tuple",dict:=d2,data:= .seq items n,slots:=s2})
 (more: ∀x h',items[i]? =some x->h'.IsTupleIter it t (i+1)->Heap.SameBut it s.heap h'->P (.done (.ret x)) {s with heap:=h'})
 (none_:items[i]? =none->wpAny (model prog w) A (do setField (.ref it) 0 .none;Builtin.SmallTypes.stopIteration) P E s):wpAny (model prog w) A (Builtin.«tuple_iterator.__next__» ⟨[.ref it],[]⟩) P E s:=by
 obtain⟨hp,g,d,tk,os⟩:=s
 wp_walk
 rw [K7];cases hx:items[i]? with
 |none=>exact wpAny_bind (X7 (none_ hx))
 |some x=>
  refine wpAny_bind (wpAny_setField a1 rfl (by simp) (P0 (more x _ hx ⟨_,F9 _ a1 ?_,rfl,?_⟩ (O9 ..))))
  ·rfl
  ·simp [Obj.mapFields,rawInt]
theorem Py {Q:PySem.Fin->Shared->Prop}(hh:A.handled=none)(hE: ∀h' e,(∀b o,s.heap.get? b=some o->h'.get? b=some o)->(∃o,h'.get? e=some o/\o.cls= .type "StopIteration")->E (.ref e) {s with heap:=h'}):wpAny (model prog w) A Builtin.SmallTypes.stopIteration Q E s:=by
 obtain⟨hp,g,d,tk,os⟩:=s;unfold Builtin.SmallTypes.stopIteration
 wp_walk
 unfold raiseNew;refine wpAny_bind (wpAny_handled ?_);rw [hh];exact wpAny_bind (P0 (wpAny_throw (hE _ _ (λb o q=>G2 _ (G2 _ q)) ⟨_,D6 _ rfl,rfl⟩)))
theorem Ws {it t:Addr}{i:Nat}{x:Value}{Q:Value->Shared->Prop}(hit:s.heap.IsTupleIter it t i)(ht:s.heap.IsTuple t items)(hx:items[i]? =some x)
 (hQ: ∀h',h'.IsTupleIter it t (i+1)->Heap.SameBut it s.heap h'->Q x {s with heap:=h'}):wpAny (model prog w) A (Builtin.SmallTypes.nextOf (.ref it)) Q E s:=by
 obtain⟨⟨c,d1,dt,s1⟩,ho,rfl,rfl⟩:=id hit;obtain⟨⟨c2,d2,dt2,s2⟩,hol,rfl,nl,rfl⟩:=ht;exact wpAny_bind (C9 hit.typeIs J0 (C7 J0 hit.typeIs G0h (BK ho hol (λy h' e b1 b2=>⟨y,rfl,P0 (by rw [hx] at e;cases e;exact hQ h' b1 b2)⟩) λe=>by rw [hx] at e;cases e) (G0c _)))
theorem wy {it t:Addr}{i:Nat}{Q:Value->Shared->Prop}(hh:A.handled=none)(hit:s.heap.IsTupleIter it t i)(ht:s.heap.IsTuple t items)(hx:items[i]? =none)
 (hE: ∀h' e,Heap.ExtBut it s.heap h'->(∃o,h'.get? e=some o/\o.cls= .type "StopIteration")->E (.ref e) {s with heap:=h'}):wpAny (model prog w) A (Builtin.SmallTypes.nextOf (.ref it)) Q E s:=by
 obtain⟨⟨c,d1,dt,s1⟩,ho,rfl,rfl⟩:=id hit;obtain⟨⟨c2,d2,dt2,s2⟩,hol,rfl,nl,rfl⟩:=ht;refine wpAny_bind (C9 hit.typeIs J0 (C7 J0 hit.typeIs G0h (BK ho hol (λy h' e b1 b2=>by rw [hx] at e;cases e) λ_=>wpAny_bind (wpAny_setField ho rfl (by simp) ?_)) (G0c _)));exact Py (s:= {s with heap:=_}) hh λh' e grown stop=>hE h' e (λb o ne q=>grown b o ((O9 ..).extBut b o ne q)) stop
end
variable {prog:Program}{w:World}{A:Around}
theorem BL (hh:A.handled=none)(it t:Addr)(hne:t≠it)(items:Array Value):
 Draws prog w A it [it,t] items.size (λi v=>items[i]? =some v) (λi h=>h.IsTupleIter it t i/\h.IsTuple t items) where
 live:=λ_ _ st=>let ⟨o,ho,_⟩:=st.1;⟨o,ho⟩
 frame:=λ_ _ _ st hk=>⟨st.1.at λo e=>hk it (by simp) o e,st.2.at λo e=>hk t (by simp) o e⟩
 item:=λi s Q E hi st hQ=>Ws st.1 st.2 (x:=items[i]) (by simp [hi]) λh' hit' hs'=>hQ _ h' s.toks (by simp [hi]) ⟨hit',st.2.extBut hs'.extBut hne⟩ hs'
 done:=λs Q E st hE=>wy hh st.1 st.2 (by simp) hE
theorem BM (hh:A.handled=none)(it t:Addr)(items:Array Value)(n:Nat)(hn:items.size<=n):
 Draws prog w A it [it,t] n (λ_ _=>False) (λi h=>i=n/\h.IsTupleIter it t n/\h.IsTuple t items) where
 live:=λ_ _ st=>let ⟨o,ho,_⟩:=st.2.1;⟨o,ho⟩
 frame:=λ_ _ _ st hk=>⟨st.1,st.2.1.at λo e=>hk it (by simp) o e,st.2.2.at λo e=>hk t (by simp) o e⟩
 item:=λi s Q E hi st hQ=>absurd st.1 (S4 hi)
 done:=λs Q E st hE=>wy hh st.2.1 st.2.2 (G03 hn) hE
section
variable {prog:Program}{w:World}{A:Around}{E:Value->Shared->Prop}{s:Shared}
theorem BN {l:Addr}{its:Array Value}{P:PySem.Fin->Shared->Prop}(at_:s.heap.IsTuple l its)
 (h: ∀h',IsEnum h' (s.heap.objs.size+1) s.heap.objs.size 0 .none->h'.IsTupleIter s.heap.objs.size l 0->(∀b o,s.heap.get? b=some o->h'.get? b=some o)->P (.done (.ret (.ref (s.heap.objs.size+1)))) {s with heap:=h'}):
 wpAny (model prog w) A (Builtin.«enumerate.__new__» ⟨[.type "enumerate",.ref l],[]⟩) P E s:=by
 have fine:=sub_enumerate;obtain⟨⟨c,dd,dt,sl⟩,there,rfl,n,rfl⟩:=id at_;obtain⟨hp,g,d,tk,os⟩:=s;have size: ∀o,(hp.push o).objs.size=hp.objs.size+1:=λo=>Y5 ..
 have made:=D6 (hp.push {cls:= .type "tuple_iterator",data:= .fields #[.ref l,.int 0 0]}) (o:= {cls:= .type "enumerate",data:= .fields #[.none,.bool false,.ref hp.objs.size,rawInt 0,.none,.none]}) rfl;have fin:=h _ (by rw [<-size];exact made) ⟨_,G2 _ (D6 _ rfl),rfl,rfl⟩ λb o old=>G2 _ (G2 _ old)
 rw [<-size {cls:= .type "tuple_iterator",data:= .fields #[.ref l,.int 0 0]}] at fin
 wp_walk using V6 there
 refine wpAny_stack_any λcalls=>P0 ?_
 split
 case h_1 c _ _ _ _ _=>cases c==Value.type "enumerate" <;>(wp_walk using V6 there,A6 at_;exact fin)
 case h_2=>wp_walk using V6 there,A6 at_;exact fin
theorem Xp {l:Addr}{items:Array Value}{Q:Value->Shared->Prop}(hL:s.heap.IsTuple l items)
 (h: ∀h',IsEnum h' (s.heap.objs.size+1) s.heap.objs.size 0 .none->h'.IsTupleIter s.heap.objs.size l 0->(∀b o,s.heap.get? b=some o->h'.get? b=some o)->Q (.ref (s.heap.objs.size+1)) {s with heap:=h'}):
 wpAny (model prog w) A (call (.type "enumerate") [.ref l]) Q E s:=
 callType_new F.called_enumerate (by decide) (F.typeCall_enumerate_1 _) (F.newCall_enumerate_1 _) (λ_=>F.args_object_init_2 _ _) F.entry_enumerate_new
  (S:=λ_ R s=>s.heap.IsTuple l items/\ ∀h',IsEnum h' (s.heap.objs.size+1) s.heap.objs.size 0 .none->h'.IsTupleIter s.heap.objs.size l 0->(∀b o,s.heap.get? b=some o->h'.get? b=some o)->R (.ok (.ret (.ref (s.heap.objs.size+1)))) {s with heap:=h'})
  (.of_wp λ_ _ _ _ _ ⟨tup,k⟩=>BN tup λh' e i old=>⟨_,rfl,k h' e i old⟩) ⟨hL,λh' e i old=>⟨⟨_,e,rfl⟩,h h' e i old⟩⟩
end
section
variable {X:Cx}{pins:List (Addr×Obj)}{σ:List (Option V)}{H:Hp}{s:Shared}{h':Heap}
theorem Inv.turnL {t':Nat}{ch:List Addr}(I:Inv X pins σ H s)(k: ∀b o,b ∉ ch->s.heap.get? b=some o->h'.get? b=some o)(hc: ∀b∈ch,Nn X pins H b):Inv X pins σ H {s with heap:=h',toks:=t'}:=by
 refine I.step (g':=s.gens) (d':=s.drawn) (ch:=ch) (λb hb=>let ⟨_,f1,_,f3,f4,f5⟩:=hc b hb;⟨f3,f1,f4,f5⟩) (λb o _ _ nb e _=>k b o nb e) (λb o _ _ nb e _=>⟨o.slots,k b o nb e⟩) (λ_ _ _ _ n=>n)
  (λb o nb e=>⟨o,k b o nb e⟩) (λ_ _ e=>e) (λ_ _ _ e=>e) (λb ps e=>⟨#[],by rw [e];simp⟩) (λm hm=> ?_) (λb u e=> ?_) I.bare
 ·obtain⟨o,es,ep,ho,r⟩:=hm;exact⟨o,es,ep,k _ o (λz=>(hc _ z).2.1 rfl) ho,r⟩
 ·refine(I.hok b u e).stay (λc v hb q=>k c v (λz=> ?_) q) (λ_ q=>q) λ_ _ q=>q
  have f:=(hc c z).1;rcases hb with w|w
  ·rw [w,e] at f;cases f
  ·rw [w] at f;cases f
theorem Inv.turnLaid {t':Nat}{ch:List Addr}{a:Addr}{o:HO}(I:Inv X pins σ H s)(k: ∀b u,b ∉ ch->s.heap.get? b=some u->h'.get? b=some u)(hc: ∀b∈ch,Nn X pins H b)(hp:s.heap.objs.size<=a)
 (new:ObjOk X.prog X.w (upd H a o) h' a o):Inv X pins σ (upd H a o) {s with heap:=h',toks:=t'}:=by
 have hn:=I.hok.fresh hp;refine I.step (g':=s.gens) (d':=s.drawn) (ch:=ch) (λb hb=>let ⟨_,f1,_,f3,f4,f5⟩:=hc b hb;⟨f3,f1,f4,f5⟩) (λb u _ _ nb e _=>k b u nb e) (λb u _ _ nb e _=>⟨u.slots,k b u nb e⟩)
  (λb u _ e n=>by rw [jq (S4 (S6 (D3 e) hp))];exact n) (λb u nb e=>⟨u,k b u nb e⟩) (λb xs q=>by rw [jq (jm q hn)];exact q) (λb u xs q=>by rw [jq (jm q hn)];exact q)
  (λb ps q=>⟨#[],by rw [jq (jm q hn),q];simp⟩) (λm hm=> ?_) (λb u e=> ?_) I.bare
 ·obtain⟨u,es,ep,ho,r⟩:=hm;exact⟨u,es,ep,k _ u (λz=>(hc _ z).2.1 rfl) ho,r⟩
 ·by_cases hb:b=a
  ·subst hb;rw [jz] at e;cases e;exact new
  ·rw [jq hb] at e;refine(I.hok b u e).stay (λc v hb q=>k c v (λz=> ?_) q) (λc q=>by rw [jq (jm q hn)];exact q) λc xs q=>by rw [jq (jm q hn)];exact q
   have f:=(hc c z).1;rcases hb with w|w
   ·rw [w,e] at f;cases f
   ·rw [w] at f;cases f
end
def Ite (K:PySem.W.Frag)(a:Addr):It:=
 ⟨λi H=> ∃xs x,SqT K H a xs/\xs[i]? =some x,λi H x H'=> ∃p v,H p=none/\(∀xs,SqT K H a xs->xs[i]? =some v)/\x= .ref p/\H'=upd H p (.tup [.int i,v]),λi H=> ∃xs,SqT K H a xs/\xs.length<=i⟩
variable {K:PySem.W.Frag}
theorem BO {P:Program}{es:List Expr}{k:Nat}{pos:Pos}(a it e:Addr)(hei:e≠it)(hae:a≠e)(hai:a≠it):Turn P w K (.Tuple es k pos) (Ite K a) [e,it] e (λi h=>(∃old,IsEnum h e it i old)/\h.IsTupleIter it a i) where
 mem:=by simp
 obj:=λi h st b hb=>by
  rcases R0.mp hb with z|z
  ·subst z;obtain⟨old,q⟩:=st.1;exact⟨_,q,λv z=>by cases z⟩
  ·have z:=G5.mp z;subst z;obtain⟨o,q,c,d⟩:=st.2;exact⟨o,q,λv z=>by rw [d] at z;cases z⟩
 keep:=λi h h' st k=>⟨let ⟨old,q⟩:=st.1;⟨old,k e (by simp) _ q⟩,st.2.at λo q=>k it (by simp) o q⟩
 item:=by
  intro X hP hw hK hc i pins s σ H E I hf st hg;subst hP hw hK;obtain⟨xs,x,hq,hx⟩:=hg;obtain⟨its,rv,p,hz⟩:=I.tuple hq;obtain⟨u,hu,ru⟩:=rv.get hx;have hi:i<its.toArray.size:=by have:=(G7.mp hu).1;simpa using this
  obtain⟨old,he⟩:=st.1;have helt:e<s.heap.objs.size:=D3 he;refine wpAny_pyNext_enum_itemD (BL (prog:=X.prog) (w:=X.w) (A:=X.A.in1) (I.ok.hd hc) it a hai its.toArray) he ⟨st.2,p⟩ hi hei (by simp [hei,Ne.symm hae]) λx' h' tk hx' ho hs' hT hsz hk=> ?_
  have ex:x'=u:=N3 (hx'.symm.trans (show its.toArray[i]? =some u by simpa using hu));subst ex;refine⟨_,rfl,wpAny_letOwnedTupleGo_enum ho λh2 he2 hs2=> ?_⟩;have hn:H s.heap.objs.size=none:=I.hok.fresh (P1 _);have hT2:h2.get? s.heap.objs.size=some {cls:= .type "tuple",data:= .seq #[.int i tk,x']}:=(hs2.2 _ (Q8 helt)).trans hT;refine⟨.ref s.heap.objs.size,upd H s.heap.objs.size (.tup [.int i,x]),?_,rfl,⟨_,x,hn,λys hy=>by rw [I.tuple_inj hy hq];exact hx,rfl,rfl⟩,⟨⟨x',by simpa using he2⟩,hs'.1.at λo y=>(hs2.2 it (Ne.symm hei)).trans y⟩,λb hb=> ?_⟩
  ·refine I.turnLaid (h':=h2) (t':=tk+1) (ch:= [e,it]) (λb u hb q=> ?_) hf (P1 _) ⟨by show 2<=sizeLine;decide,[.int i tk,x'],.cons ⟨tk,rfl⟩ (.cons ru .nil),⟨_,hT2,rfl,rfl,_,rfl⟩⟩;have b1:b≠e:=λz=>hb (by simp [z])
   have b2:b≠it:=λz=>hb (by simp [z])
   exact(hs2.2 b b1).trans (hk b u b1 b2 q)
  ·have f:=(hf b hb).1;have:b≠s.heap.objs.size:=λz=>by
    rcases R0.mp hb with w|w
    ·rw [<-w,z] at helt;exact absurd helt (M9 _)
    ·have w:=G5.mp w;obtain⟨o,ho',_⟩:=st.2;have:=D3 ho';rw [<-w,z] at this;exact absurd this (M9 _)
   rw [jq this];exact f
 done:=by
  intro X hP hw hK hc i pins s σ H E I hf st hg;subst hP hw hK;obtain⟨xs,hq,hx⟩:=hg;obtain⟨its,rv,p,hz⟩:=I.tuple hq;obtain⟨old,he⟩:=st.1;have hl:=rv.length;refine wpAny_pyNext_enum_endD (BM (prog:=X.prog) (w:=X.w) (A:=X.A.in1) (I.ok.hd hc) it a its.toArray i (by simp;omega)) he ⟨rfl,st.2,p⟩ λh' hx'=>⟨rfl,I.turnL (t':=s.toks) (ch:= [it]) (λb o hb q=>hx' b o (λz=>hb (by simp [z])) q) λb hb=>hf b (R4 _ hb)⟩
 self:=λ_ _ _ _ _ st h=>let ⟨_,q⟩:=st.1;wpAny_pyIter_enum q h
section
variable {X:Cx}
def ql (K:PySem.W.Frag)(ta:TA):TI:=λσ H R=>ta σ H λvs H1=> ∃a,vs= [.ref a]/\(∃xs,SqT K H1 a xs)/\R (Ite K a) H1
theorem Si {es:List Expr}{k:Nat}{tp:Pos}{a:Expr}{ta:TA}{p pos:Pos}(hg:Gl X "enumerate")(hm:X.mg "enumerate" =none)(ha:PA X [a] ta)(hs:starEach [a] X.env= [(false,eval a X.env)]:=by rfl):
 PI X (.Tuple es k tp) (.Call (.Name "enumerate" p) [a] [] pos) (ql X.K ta):=by
 intro pins s σ H R I h;refine Call_ (WP I hg hm (show bootBuiltins "enumerate" =some (.type "enumerate") by decide +kernel) (C4 (thn (ha pos pins s σ H _ I h) λus s1 ⟨vs,H1,I1,r1,q1⟩=> ?_) hs rfl));obtain⟨a,e,⟨xs,hq⟩,q⟩:=q1;subst e;cases r1 with
 |cons r rr=>
  cases rr;cases r;obtain⟨its,rv,p,hz⟩:=I1.tuple hq;have hlt:a<s1.heap.objs.size:=by obtain⟨o,ho,_⟩:=p;exact D3 ho
  refine Xp (show s1.heap.IsTuple a its.toArray from p) λh' he hit hk=> ?_
  refine wpAny_pyIter_enum he ?_;refine⟨s1.heap.objs.size+1,[s1.heap.objs.size+1,s1.heap.objs.size],_,_,H1,rfl,I1.kept (t':=s1.toks) hk,BO a s1.heap.objs.size (s1.heap.objs.size+1) (Q8 (O3 _)) (S4 (Y0 hlt)) (S4 hlt),⟨⟨_,he⟩,hit⟩,λb hb=> ?_,q⟩;have hb':s1.heap.objs.size<=b:=by
   rcases R0.mp hb with w|w
   ·rw [w];exact G1G _
   ·rw [G5.mp w];exact P1 _
  exact I1.fpOk hb' (I1.hok.fresh hb')
end
def Pz (ds:List D):List D:=ds.zipIdx.map λp=> .tup [.int (p.2:Int),p.1]
def iE (ta:TAD):TID:=λσ h R=>ta σ h λxs h1=> ∃ds,xs= [.tup ds]/\R (λ_=>some (Pz ds)) h1
theorem Xq {ds:List D}{d:D}(h:(Pz ds)[i]? =some d): ∃x,ds[i]? =some x/\d= .tup [.int (i:Int),x]:=by
 unfold Pz at h;rw [P3,List.getElem?_zipIdx] at h;cases q:ds[i]? with
 |none=>rw [q] at h;cases h
 |some x=>
  rw [q] at h;refine⟨x,rfl,?_⟩;have h':some (D.tup [.int ((0+i:Nat):Int),x])=some d:=h;rw [E5] at h';exact(N3 h').symm
theorem yV (ds:List D):(Pz ds).length=ds.length:=by simp [Pz]
section
variable {K:PySem.W.Frag}
theorem BP {H:Hp}{a:Addr}{vs:List V}{ds:List D}(hv:H a=some (.tup vs))(r:RelDs K H ds vs):EH K H (λ_=>some (Pz ds)) (Ite K a):=λH' h' k rh ds' e i=>by
 cases e;have hv':=k.tup _ _ hv;have r':=r.mono k;refine⟨λd hd=> ?_,λhl=>⟨vs,SqT.of hv',by rw [<-r.length,<-yV];exact hl⟩⟩;obtain⟨x,hx,ed⟩:=Xq hd;subst ed;obtain⟨v,e1,e2⟩:=r'.get hx;refine⟨⟨vs,v,SqT.of hv',e1⟩,λx' H'' ⟨p,v',hp,hx',ex,eH⟩=> ?_⟩;subst ex eH;have ev:v'=v:=by have:=hx' vs (SqT.of hv');rw [e1] at this;exact(N3 this).symm
 subst ev;have k2:Kept H' (upd H' p (.tup [.int i,v'])):= .new hp;exact⟨k2,RelH.new rh hp,p,[.int i,v'],rfl,jz,_,_,rfl,rfl,_,_,rfl,e2.mono k2,rfl⟩
theorem Sj {ta:TAD}: ∀σ H R,LI K (iE ta) σ H R->ql K (LA K ta) σ H R:=λσ H R ⟨σd,h,Rd,rs,rh,q,p⟩=>
 LA.bind rs rh q λds vs h1 H1 k1 rs1 rh1 r1 ⟨es,e,q1⟩=>by
  subst e;obtain⟨v,e,r2⟩:=jF r1;obtain⟨a,ws,e',hv,r⟩:=(show ∃a vs,v= .ref a/\H1 a=some (.tup vs)/\RelDs K H1 es vs from r2);subst e';exact⟨a,e,⟨ws,SqT.of hv⟩,p _ _ _ _ k1 rh1 (BP hv r) q1⟩
end
section
variable {X:Cx}
theorem PB {es:List Expr}{k:Nat}{tp:Pos}{a:Expr}{ta:TAD}{p pos:Pos}(hg:Gl X "enumerate")(hm:X.mg "enumerate" =none)(ha:JA X [a] ta)(hs:starEach [a] X.env= [(false,eval a X.env)]:=by rfl):
 JI X (.Tuple es k tp) (.Call (.Name "enumerate" p) [a] [] pos) (iE ta):=⟨(Si hg hm ha.to hs).imp Sj⟩
end
def BQ (c:TTD)(tb:TSD):TSD:=λD σ h=> ∃W:Nat->SD->HD->Prop,(∃m,W m σ h)/\ ∀m σ' h',W m σ' h'->c σ' h' λb h1=>
 if b=true then tb {D with nx:=λσ2 h2=> ∃m' h3,m'<m/\Sub h3 h2/\W m' σ2 h3,ct:=λσ2 h2=> ∃m' h3,m'<m/\Sub h3 h2/\W m' σ2 h3,bk:=D.nx} σ' h1 else D.nx σ' h1
theorem LB {c:TTD}{tb:TSD}: ∀D σ H,LS K (BQ c tb) D σ H->Al (LT K c) (LS K tb) D σ H:=λD σ H ⟨σd,h,Dd,rs,rh,⟨W,⟨m0,w0⟩,turn⟩,nx,rt,bk,ct⟩=>by
 refine⟨λm σ' H'=>Kept H H'/\ ∃σd' h',RelS K H' σd' σ'/\RelH K h' H'/\W m σd' h',⟨m0,.refl _,σd,h,rs,rh,w0⟩,?_⟩;rintro m σ' H' ⟨kp,σd',h',rs',rh',w⟩;refine LT.bind rs' rh' (turn m σd' h' w) λb h1 H1 k1 rs1 rh1 q1=> ?_
 cases b with
 |false=>
  rw [if_neg P7] at q1 ⊢;exact nx _ _ _ _ (kp.trans k1) rs1 rh1 q1
 |true=>
  rw [if_pos rfl] at q1 ⊢;have kk:Kept H H1:=kp.trans k1;refine⟨λσ2 H2=>Kept H H2/\ ∃m',m'<m/\ ∃σd2 h2,RelS K H2 σd2 σ2/\RelH K h2 H2/\W m' σd2 h2,λσ2 H2 ⟨k2,m',hm,a,b,c,d,e⟩=>⟨m',hm,k2,a,b,c,d,e⟩,?_⟩;exact⟨σd',h1,_,rs1,rh1,q1,λa b c d k4 rs4 rh4 ⟨m',h4,hm,sb,w4⟩=>⟨kk.trans k4,m',hm,a,h4,rs4,rh4.sub sb,w4⟩,zf rt kk,λa b c d k4 rs4 rh4 q4=>nx a b c d (kk.trans k4) rs4 rh4 q4,λa b c d k4 rs4 rh4 ⟨m',h4,hm,sb,w4⟩=>⟨kk.trans k4,m',hm,a,h4,rs4,rh4.sub sb,w4⟩⟩
section
variable {X:Cx}{pos:Pos}
theorem Ri {c:Expr}{body:List Stmt}{tc:TTD}{tb:TSD}(hp:PassesOwn (model X.prog X.w) X.A X.env X.xe)(hc:JT X c tc)(hb:JSs X body tb):JS X (.While c body [] pos) (BQ tc tb):=⟨(FS hp hc.to hb.to).imp LB⟩
end
theorem Yw {c:TTD}{tb:TSD}{E:EndsD}{σ:SD}{h:HD}(W:Nat->SD->HD->Prop)(m:Nat)(w0:W m σ h)
 (turn: ∀m σ' h',W m σ' h'->c σ' h' λb h1=>if b=true then tb {E with nx:=λσ2 h2=> ∃m' h3,m'<m/\Sub h3 h2/\W m' σ2 h3,ct:=λσ2 h2=> ∃m' h3,m'<m/\Sub h3 h2/\W m' σ2 h3,bk:=E.nx} σ' h1 else E.nx σ' h1):BQ c tb E σ h:=⟨W,⟨m,w0⟩,turn⟩
def Off (W:List Addr)(h h':Heap):Prop:=h'.objs.size=h.objs.size/\ ∀b o,b ∉ W->h.get? b=some o->h'.get? b=some o
theorem Off.refl (W:List Addr)(h:Heap):Off W h h:=⟨rfl,λ_ _ _ e=>e⟩
theorem Off.of {c:Addr}{W:List Addr}{h h':Heap}(x:Heap.SameBut c h h')(m:c∈W):Off W h h':=⟨x.1,λb o n e=>x.extBut b o (λq=>n (q ▸ m)) e⟩
theorem Off.trans {W:List Addr}{h h' h'':Heap}(x:Off W h h')(y:Off W h' h''):Off W h h'':=⟨y.1.trans x.1,λb o n e=>y.2 b o n (x.2 b o n e)⟩
abbrev BR (f0:Value)(b1:Bool)(TI TO:Addr):Obj:= {cls:= .type "zip",dict:=none,data:= .fields #[f0,.bool b1,.bool false,.ref TI,.ref TO],slots:= #[]}
def ZipAt (h:Heap)(z TI TO:Addr):Prop:= ∃f0 b1,h.get? z=some (BR f0 b1 TI TO)/\(f0= .none\/ ∃a t,f0= .int a t)
theorem ZipAt.off {h h':Heap}{z TI TO:Addr}{W:List Addr}(Z:ZipAt h z TI TO)(o:Off W h h')(n:z ∉ W):ZipAt h' z TI TO:=let ⟨f,b,e,q⟩:=Z;⟨f,b,o.2 _ _ n e,q⟩
section
variable {prog:Program}{w:World}{A:Around}{E:Value->Shared->Prop}{s:Shared}{z TI TO i1 i2:Addr}
theorem LD {Q:Bool->Shared->Prop}(Z:ZipAt s.heap z TI TO)(k: ∀b h',ZipAt h' z TI TO->Off [z] s.heap h'->Q b {s with heap:=h'}):wpAny (model prog w) A (Builtin.SmallTypes.ownedTupleIsFree (.ref z)) Q E s:=by
 obtain⟨f0,b1,hz,hf⟩:=id Z;have stay:=λb=>k b s.heap Z (Off.refl _ _)
 rcases hf with rfl|⟨a,t,rfl⟩
 ·wp_walk
  exact stay true
 ·have read: ∀ {P:Option Obj->Shared->Prop} {E':Value->Shared->Prop},P (s.heap.get? a.toNat) s->wpAny (model prog w) A (loadIfAlive a.toNat) P E' s:=λp _ _ _=>p
  wp_walk using read
  cases s.heap.get? a.toNat with
  |none=>exact P0 (stay true)
  |some o=>
   wp_walk
   cases b1 with
   |true=>exact P0 (stay false)
   |false=>exact wpAny_bind <| wpAny_setField_rec hz (by simp) λh' z' same=>P0 (k false h' ⟨_,_,z',.inr ⟨a,t,rfl⟩⟩ (.of same (by simp)))
structure ZApart (z TI TO i1 i2:Addr):Prop where
 z1:z≠i1
 z2:z≠i2
 zO:z≠TO
 zI:z≠TI
 O1:TO≠i1
 O2:TO≠i2
 OI:TO≠TI
 I1:TI≠i1
 I2:TI≠i2
abbrev KH (z:Addr)(h:Heap)(E:Value->Shared->Prop):Value->Shared->Prop:=λe s'=>(∀o,h.get? z=some o->s'.heap.get? z=some o)/\ ∀h',Heap.ExtBut z s'.heap h'->E e {s' with heap:=h'}
theorem BS {Q:Value->Shared->Prop}(ap:ZApart z TI TO i1 i2)(Z:ZipAt s.heap z TI TO)(hTI:IsPair s.heap TI (.ref i1) (.ref i2))(hTO: ∃a b,IsPair s.heap TO a b)
 (go: ∀h₁,Off [z] s.heap h₁->(∃o,h₁.get? z=some o/\o.cls= .type "zip")->wpAny (model prog w) A (Builtin.SmallTypes.nextOf (.ref i1)) (λx s₁=>Off [i1] h₁ s₁.heap/\ ∀h₂,Off [TO] s₁.heap h₂->
  wpAny (model prog w) A (Builtin.SmallTypes.nextOf (.ref i2)) (λy s₂=>Off [i2] h₂ s₂.heap/\ ∀h₃,(∀b o,b ∉ [z,TO]->s₂.heap.get? b=some o->h₃.get? b=some o)->IsPair h₃ s₂.heap.objs.size x y->
   ZipAt h₃ z TI TO->IsPair h₃ TI (.ref i1) (.ref i2)->(∃a b,IsPair h₃ TO a b)->Q (.ref s₂.heap.objs.size) {s₂ with heap:=h₃}) (KH z h₂ E) {s₁ with heap:=h₂}) (KH z h₁ E) {s with heap:=h₁}):
 wpAny (model prog w) A (Builtin.«zip.__next__» ⟨[.ref z],[]⟩) (λfin s'=> ∃v,fin= .done (.ret v)/\Q v s') E s:=by
 obtain⟨f0,b1,hz,hf⟩:=id Z;have ask:=λ{P:Bool->Shared->Prop} {E':Value->Shared->Prop} (k: ∀b h',ZipAt h' z TI TO->Off [z] s.heap h'->P b {s with heap:=h'})=>LD (prog:=prog) (w:=w) (A:=A) (E:=E') Z k
 wp_walk using ask
 intro b h₀ Z₀ off₀;have I₀:=off₀.2 _ _ (by simp [ap.zI.symm]) hTI;obtain⟨a',b',O₀⟩: ∃a b,IsPair h₀ TO a b:=let ⟨a,b,e⟩:=hTO;⟨a,b,off₀.2 _ _ (by simp [ap.zO.symm]) e⟩;cases b with
 |false=>
  have d1:=go h₀ off₀ (let ⟨_,_,e,_⟩:=Z₀;⟨_,e,rfl⟩);rw [if_neg (by decide)];refine wpAny_bind ?_;rw [<-Array.forIn_toList];simp only [G0g,List.forIn_nil];refine wpAny_bind (wpAny_bind (C0 ?_));refine wpAny_bind (m:=Builtin.SmallTypes.nextOf (.ref i1)) (S0 d1 (λx s₁ d=>P0 (P0 ?_)) λe s' f=>f.2 s'.heap λ_ _ _ e=>e);obtain⟨o1,d2⟩:=d;refine wpAny_bind (wpAny_bind (C0 ?_));refine wpAny_bind (m:=Builtin.SmallTypes.nextOf (.ref i2)) (S0 (d2 s₁.heap (.refl _ _)) (λy s₂ d=>P0 (P0 (P0 ?_))) λe s' f=>f.2 s'.heap λ_ _ _ e=>e);obtain⟨o2,fin⟩:=d;show wpAny _ _ (newTuple [x,y] >>= _) _ _ _;have n1: ∀ {b},b≠i1->b ∉ [i1]:=λh=>by simpa using h
  have n2: ∀ {b},b≠i2->b ∉ [i2]:=λh=>by simpa using h
  have Z₂:=(Z₀.off o1 (n1 ap.z1)).off o2 (n2 ap.z2);have keep: ∀ {b o},b≠i1->b≠i2->h₀.get? b=some o->(s₂.heap.push {cls:= .type "tuple",data:= .seq #[x,y]}).get? b=some o:=λq1 q2 e=>G2 _ (o2.2 _ _ (n2 q2) (o1.2 _ _ (n1 q1) e))
  refine wpAny_bind (wpAny_newTuple (P0 ⟨_,rfl,fin _ (λb o _ e=>G2 _ e) (D6 _ rfl) ?_ (keep ap.I1 ap.I2 I₀) ⟨_,_,keep ap.O1 ap.O2 O₀⟩⟩));exact let ⟨f,b,e,q⟩:=Z₂;⟨f,b,G2 _ e,q⟩
 |true=>
  obtain⟨f0',b1',hz₀,_⟩:=Z₀;have note:=λ{P:Unit->Shared->Prop} {E':Value->Shared->Prop} (k: ∀h',h'.get? z=some (BR .ellipsis b1' TI TO)->Heap.SameBut z h₀ h'->P () {s with heap:=h'})=>
   wpAny_setField_rec (prog:=prog) (w:=w) (A:=A) (E:=E') (s:= {s with heap:=h₀}) (k:=0) (x:= .ellipsis) hz₀ (by simp) k
  wp_walk using note
  intro h₁ z₁ same₁;have off₁:Off [z] s.heap h₁:=off₀.trans (.of same₁ (by simp));have O₁:=same₁.extBut _ _ ap.zO.symm O₀;have I₁:=same₁.extBut _ _ ap.zI.symm I₀;have fell: ∀ {h:Heap} {e:Value} {s':Shared},h.get? z=some (BR .ellipsis b1' TI TO)->KH z h E e s'->wpAny (model prog w) A (setField (.ref z) 0 .none) (λ_ s''=>E e s'') E s':=λhz' f=>
   wpAny_setField_rec (f.1 _ hz') (by simp) λh' _ same=>f.2 h' same.extBut
  have draw:=λ{P:Value->Shared->Prop} {E':Value->Shared->Prop} (k: ∀x s₁,_->P x s₁) (f: ∀e s',KH z h₁ E e s'->E' e s')=>S0 (go h₁ off₁ ⟨_,z₁,rfl⟩) k f
  wp_walk using wpAny_onRaise,draw
  case f=>exact λe s' f=>fell z₁ f
  intro x s₁ ⟨o1,go2⟩;have z₂:=o1.2 _ _ (by simp [ap.z1]) z₁;have O₂:IsPair s₁.heap TO a' b':=o1.2 _ _ (by simp [ap.O1]) O₁;have I₂:=o1.2 _ _ (by simp [ap.I1]) I₁;have lay:=λ{P:Unit->Shared->Prop} {E':Value->Shared->Prop}=>wpAny_updateSeq_pair (prog:=prog) (w:=w) (A:=A) (E:=E') (s:=s₁) (k:=0) (x:=x) (Q:=P) O₂
  wp_walk using lay
  intro h₂ O₃ same₂
  replace O₃:IsPair h₂ TO x b':=O₃
  have z₃:=same₂.extBut _ _ ap.zO z₂;have I₃:=same₂.extBut _ _ ap.OI.symm I₂;have draw2:=λ{P:Value->Shared->Prop} {E':Value->Shared->Prop} (k: ∀y s₂,_->P y s₂) (f: ∀e s',KH z h₂ E e s'->E' e s')=>S0 (go2 h₂ (.of same₂ (by simp))) k f
  wp_walk using wpAny_onRaise,draw2
  case f=>exact λe s' f=>fell z₃ f
  intro y s₂ ⟨o2,fin⟩;have z₄:=o2.2 _ _ (by simp [ap.z2]) z₃;have O₄:IsPair s₂.heap TO x b':=o2.2 _ _ (by simp [ap.O2]) O₃;have I₄:=o2.2 _ _ (by simp [ap.I2]) I₃;have lay2:=λ{P:Unit->Shared->Prop} {E':Value->Shared->Prop}=>wpAny_updateSeq_pair (prog:=prog) (w:=w) (A:=A) (E:=E') (s:=s₂) (k:=1) (x:=y) (Q:=P) O₄
  wp_walk using lay2
  intro h₄ O₅ same₃
  replace O₅:IsPair h₄ TO x y:=O₅
  have z₅:=same₃.extBut _ _ ap.zO z₄;have I₅:=same₃.extBut _ _ ap.OI.symm I₄
  wp_walk
  have size:h₄.objs.size=s₂.heap.objs.size:=same₃.1;have zp:=G2 {cls:= .type "tuple",data:= .seq #[x,y]} z₅;have zu:=F9 (Obj.mapFields λv=>v.setIfInBounds 0 (rawInt h₄.objs.size)) zp rfl;have zu':=F9 (Obj.mapFields λv=>v.setIfInBounds 1 (Value.bool false)) zu rfl;have away: ∀ {b o},b≠z->(h₄.push {cls:= .type "tuple",data:= .seq #[x,y]}).get? b=some o->
   (((h₄.push {cls:= .type "tuple",data:= .seq #[x,y]}).update z (Obj.mapFields λv=>v.setIfInBounds 0 (rawInt h₄.objs.size))).update z (Obj.mapFields λv=>v.setIfInBounds 1 (Value.bool false))).get? b=some o:=λn e=>
   (O9 ..).extBut _ _ n ((O9 ..).extBut _ _ n e)
  have new:=away (b:=h₄.objs.size) (λq=>M9 _ (q ▸ D3 z₅)) (D6 _ rfl);refine⟨_,rfl,?_⟩;have done:=fin _ (λb o n e=>away (λq=>n (by simp [q])) (G2 _ (same₃.extBut _ _ (λq=>n (by simp [q])) e))) (size ▸ new) ⟨_,_,zu',.inr ⟨_,_,rfl⟩⟩ (away ap.zI.symm (G2 _ I₅)) ⟨_,_,away ap.zO.symm (G2 _ O₅)⟩;rw [<-size] at done;exact done
theorem Sk {tg : Expr} {v : Value} {Q : Unit → Shared → Prop} (Z : ZipAt s.heap z TI TO) (k : ∀ h', ZipAt h' z TI TO → Off [z] s.heap h' → Q () { s with heap := h' }) : wpAny (model prog w) A (letOwnedTupleGo tg (.ref z) v) Q E s := by
  obtain ⟨f0, b1, hz, hf⟩ := id Z
  have stay := k s.heap Z (.refl _ _)
  have gone : wpAny (model prog w) A (updateField z 0 .none) Q E s := wpAny_setField_rec (k := 0) (x := .none) hz (by simp) fun h' z' same => k h' ⟨_, _, z', .inl rfl⟩ (.of same (by simp))
  unfold letOwnedTupleGo
  cases tg <;> first
    | exact P0 stay
    | (cases v <;> wp_walk <;> first
        | exact stay
        | (split
           · exact wpAny_bind (X7 gone)
           · exact P0 stay))
theorem LF {Q:Option Value->Shared->Prop}(Z:ZipAt s.heap z TI TO)
 (h:wpAny (model prog w) A.in1 (Builtin.«zip.__next__» ⟨[.ref z],[]⟩) (λfin s'=> ∃v,fin= .done (.ret v)/\Q (some v) s') (λe s'=>s'.TypeIs e "StopIteration" /\Q none s') s):wpAny (model prog w) A (pyNext (.ref z)) Q E s:=by
 obtain⟨_,_,hz,_⟩:=Z;have ty:s.TypeIs (.ref z) "zip" :=⟨_,hz,rfl⟩;have asked:=C7 F.slot_zip_next ty F.entry_zip_next h (F.args_zip_next_1 _);exact wpAny_bind (wpAny_attempt (C9 (name:= "__next__") ty F.slot_zip_next (S0 asked (λ_ _ q=>P0 q) λe s' q=>wpAny_bind (wpAny_isInstance (b:=true) q.1 isSubtype_stop (P0 q.2)))))
theorem LH {l1 l2:Addr}{xs ys:Array Value}{P:PySem.Fin->Shared->Prop}(t1:s.heap.IsTuple l1 xs)(t2:s.heap.IsTuple l2 ys)
 (h: ∀h' n,n=s.heap.objs.size->ZipAt h' (n+4) (n+2) (n+3)->IsPair h' (n+2) (.ref n) (.ref (n+1))->(∃a b,IsPair h' (n+3) a b)->h'.IsTupleIter n l1 0->h'.IsTupleIter (n+1) l2 0->
  (∀b o,s.heap.get? b=some o->h'.get? b=some o)->P (.done (.ret (.ref (n+4)))) {s with heap:=h'}):
 wpAny (model prog w) A (Builtin.«zip.__new__» ⟨[.type "zip",.ref l1,.ref l2],[]⟩) P E s:=by
 have fine:=sub_zip;obtain⟨hp,g,d,tk,os⟩:=s;have first:Heap.IsTuple (Shared.heap ⟨hp,g,d,tk,os⟩) l1 xs:=t1
 have second: ∀o,Heap.IsTuple (Shared.heap ⟨hp.push o,g,d,tk,os⟩) l2 ys:=λo=>Heap.IsTuple.push t2 o
 wp_walk using A6 first,A6 (second _)
 have size: ∀ (q:Heap) o,(q.push o).objs.size=q.objs.size+1:=λq o=>Y5 ..
 have n2: ∀o1 o2,((hp.push o1).push o2).objs.size=hp.objs.size+2:=λ_ _=>by rw [size,size]
 have n3: ∀o1 o2 o3,(((hp.push o1).push o2).push o3).objs.size=hp.objs.size+3:=λ_ _ _=>by rw [size,n2]
 have n4: ∀o1 o2 o3 o4,((((hp.push o1).push o2).push o3).push o4).objs.size=hp.objs.size+4:=λ_ _ _ _=>by rw [size,n3]
 have up: ∀ {q:Heap} {b o} o',q.get? b=some o->(q.push o').get? b=some o:=λo' e=>G2 o' e
 show P (.done (.ret (.ref (Heap.objs (((((hp.push _).push _).push _).push _))).size))) _;rw [n4];have at1:=D6 (hp.push {cls:= .type "tuple_iterator",data:= .fields #[.ref l1,.int 0 0]}) (o:= {cls:= .type "tuple_iterator",data:= .fields #[.ref l2,.int 0 0]}) rfl;rw [size] at at1;have top: ∀ (q:Heap) (o:Obj) (m:Nat),q.objs.size=m->o.isFreed=false->(q.push o).get? m=some o:=λq o m e f=>e ▸ D6 q f
 refine h _ hp.objs.size rfl ⟨.none,false,(top _ _ _ (n4 ..) rfl).trans ?_,.inl rfl⟩ ((up _ (up _ (top _ _ _ (n2 ..) rfl))).trans ?_) ⟨.none,.none,up _ (top _ _ _ (n3 ..) rfl)⟩ ⟨_,up _ (up _ (up _ (up _ (D6 _ rfl)))),rfl,rfl⟩ ⟨_,up _ (up _ (up _ at1)),rfl,rfl⟩ λb o e=>up _ (up _ (up _ (up _ (up _ e))))
 ·simp only [size,E1];rfl
 ·simp only [size];rfl
theorem Vh {T newId initId:String}{pos:List Value}{kw:List (Str×Value)}{Made:Value->Shared->Prop}{Q:Value->Shared->Prop}(ft:TypeCalled T newId initId)(fits:checkTypeCall T ⟨pos,kw⟩=pure ())
 (made:wpAny (model prog w) A.in1 (call (.builtin newId) (.type T::pos) kw) Made E s)
 (begun: ∀o s₁,Made o s₁->s₁.TypeIs o T/\wpAny (model prog w) A.in1 (callSpecial? o "__init__" pos kw) (λr s₂=>r=some .none/\Q o s₂) E s₁):
 wpAny (model prog w) A (call (.type T) pos kw) Q E s:=by
 have f1:=ft.notType;have f2:=ft.canCreate;have f3:=ft.made;have f4:=ft.sub;obtain⟨_,_,f5⟩:=ft.mro;have first:=λ{Q':Value->Shared->Prop} (k: ∀o s₁,Made o s₁->Q' o s₁)=>S0 (E':=E) made k λ_ _ z=>z
 refine G1e (codeAny_of_tree (P0 ⟨Code.quiet_builtin _ (by decide +kernel),G07 F.entry_type_call ?_⟩));rw [Around.under_plain (weight_type_call_type T pos kw) (units_type_call_type T pos kw)]
 wp_walk using first
 intro o s₁ m;obtain⟨ty,then_⟩:=begun o s₁ m;refine wpAny_bind (wpAny_isInstance (b:=true) ty f4 (wpAny_bind (C0 (S0 then_ (λr s₂ q=> ?_) λ_ _ z=>z))));obtain⟨rfl,q⟩:=q;exact P0 q
theorem QK {T newId:String}{o:Value}{pos:List Value}{kw:List (Str×Value)}{Q:Option Value->Shared->Prop}(ft:TypeCalled T newId "object.__init__")(other:(some newId !=some "object.__new__")=true)(ty:s.TypeIs o T)
 (fits:argsOk "object.__init__" ⟨o::pos,kw⟩)(q:Q (some .none) s):wpAny (model prog w) A (callSpecial? o "__init__" pos kw) Q E s:=by
 have f1:=ft.init.lookup;have f2:=ft.made;refine C9 ty ft.init (wpAny_call_entry_kw ft.init ty F.entry_object_init ?_ fits);cases e:(!pos.isEmpty|| !kw.isEmpty)<;>(wp_walk;exact⟨_,rfl,q⟩)
theorem QL {l1 l2:Addr}{xs ys:Array Value}{Q:Value->Shared->Prop}(t1:s.heap.IsTuple l1 xs)(t2:s.heap.IsTuple l2 ys)
 (h: ∀h' n,n=s.heap.objs.size->ZipAt h' (n+4) (n+2) (n+3)->IsPair h' (n+2) (.ref n) (.ref (n+1))->(∃a b,IsPair h' (n+3) a b)->h'.IsTupleIter n l1 0->h'.IsTupleIter (n+1) l2 0->
  (∀b o,s.heap.get? b=some o->h'.get? b=some o)->Q (.ref (n+4)) {s with heap:=h'}):wpAny (model prog w) A (call (.type "zip") [.ref l1,.ref l2]) Q E s:=
 Vh (Made:=λo s₁=>s₁.TypeIs o "zip" /\Q o s₁) F.called_zip (F.typeCall_zip_2 _ _)
  (G1e (Z9 F.called_zip.plain F.entry_zip_new (wpAny_of_eq (F.newCall_zip_2 _ _) (LH t1 t2 λh' n en zp i o a b k=>⟨let ⟨_,_,e,_⟩:=zp;⟨_,e,rfl⟩,h h' n en zp i o a b k⟩))))
  λ_ _ ⟨ty,q⟩=>⟨ty,QK F.called_zip (by decide) ty (F.args_object_init_3 _ _ _) ⟨rfl,q⟩⟩
end
def Itz (K : PySem.W.Frag) (a b : Addr) : It :=
  ⟨fun i H => ∃ xs ys x y, SqT K H a xs ∧ SqT K H b ys ∧ xs[i]? = some x ∧ ys[i]? = some y,
   fun i H x H' => ∃ p v u, H p = none ∧ (∀ xs, SqT K H a xs → xs[i]? = some v) ∧ (∀ ys, SqT K H b ys → ys[i]? = some u) ∧ x = .ref p ∧ H' = upd H p (.tup [v, u]),
   fun i H => ∃ xs ys, SqT K H a xs ∧ SqT K H b ys ∧ (xs.length ≤ i ∨ ys.length ≤ i)⟩
theorem QM {Q:Option Value->Shared->Prop}{E:Value->Shared->Prop}{s:Shared}{z TI TO i1 i2 l1 l2:Addr}{xs ys:Array Value}(calm:A.handled=none)(ap:ZApart z TI TO i1 i2)(n1:l1 ∉ [z,TO,i1,i2])(n2:l2 ∉ [z,TO,i1,i2])(i12:i1≠i2)
 (Z:ZipAt s.heap z TI TO)(hTI:IsPair s.heap TI (.ref i1) (.ref i2))(hTO: ∃a b,IsPair s.heap TO a b)(t1:s.heap.IsTuple l1 xs)(t2:s.heap.IsTuple l2 ys)(at1:s.heap.IsTupleIter i1 l1 i)(at2:s.heap.IsTupleIter i2 l2 i)
 (pair: ∀x y h' tk,xs[i]? =some x->ys[i]? =some y->(∀b o,b ∉ [z,TO,i1,i2]->s.heap.get? b=some o->h'.get? b=some o)->IsPair h' s.heap.objs.size x y->ZipAt h' z TI TO->IsPair h' TI (.ref i1) (.ref i2)->(∃a b,IsPair h' TO a b)->
  h'.IsTupleIter i1 l1 (i+1)->h'.IsTupleIter i2 l2 (i+1)->Q (some (.ref s.heap.objs.size)) {s with heap:=h',toks:=tk})
 (ended:(xs.size<=i\/ys.size<=i)-> ∀h' tk,(∀b o,b ∉ [z,TO,i1,i2]->s.heap.get? b=some o->h'.get? b=some o)->Q none {s with heap:=h',toks:=tk}):wpAny (model prog w) A (pyNext (.ref z)) Q E s:=by
 have sub: ∀ {b:Addr} {W:List Addr},b ∉ [z,TO,i1,i2]->(∀c∈W,c∈ [z,TO,i1,i2])->b ∉ W:=λn m q=>n (m _ q)
 have z': ∀c∈ [z],c∈ [z,TO,i1,i2]:=by simp
 have o': ∀c∈ [TO],c∈ [z,TO,i1,i2]:=by simp
 have a': ∀c∈ [i1],c∈ [z,TO,i1,i2]:=by simp
 have b': ∀c∈ [i2],c∈ [z,TO,i1,i2]:=by simp
 have zo: ∀c∈ [z,TO],c∈ [z,TO,i1,i2]:=by simp
 refine LF Z (BS ap Z hTI hTO λh₁ off₁ isz=> ?_);have u1:h₁.IsTuple l1 xs:=t1.at λo e=>off₁.2 _ _ (sub n1 z') e
 have v1:h₁.IsTupleIter i1 l1 i:=at1.at λo e=>off₁.2 _ _ (by simp [ap.z1.symm]) e
 have stop: ∀ {h h':Heap} {it e:Addr},z≠it->Heap.ExtBut it h h'->(∃o,h.get? z=some o/\o.cls= .type "zip")->(∃o,h'.get? e=some o/\o.cls= .type "StopIteration")->e≠z:=λnz x ⟨o,e1,c1⟩ ⟨o2,e2,c2⟩ q=>by
  subst q;rw [x _ _ nz e1] at e2;cases e2;rw [c1] at c2;simp at c2
 cases hx:xs[i]? with
 |none=>
  refine wy (s:= {s with heap:=h₁}) calm v1 u1 hx λh' e grown st=>⟨λo q=>grown _ _ ap.z1 q,λh2 k=>⟨?_,ended (.inl (G0r.mp hx)) _ _ λb o n q=>k _ _ (λy=>sub n z' (by simp [y])) (grown _ _ (λy=>sub n a' (by simp [y])) (off₁.2 _ _ (sub n z') q))⟩⟩
  have ne:=stop ap.z1 grown isz st;obtain⟨o,q,c⟩:=st;exact⟨o,k _ _ ne q,c⟩
 |some x=>
  refine Ws (s:= {s with heap:=h₁}) v1 u1 hx λh1' w1 same₁=>⟨.of same₁ (by simp),λh₂ off₂=> ?_⟩
  have all: ∀ {b o},b ∉ [z,TO,i1,i2]->s.heap.get? b=some o->h₂.get? b=some o:=λn e=>off₂.2 _ _ (sub n o') (same₁.extBut _ _ (λy=>sub n a' (by simp [y])) (off₁.2 _ _ (sub n z') e))
  have u2:h₂.IsTuple l2 ys:=t2.at λo e=>all n2 e
  have v2:h₂.IsTupleIter i2 l2 i:=at2.at λo e=>off₂.2 _ _ (by simp [ap.O2.symm]) (same₁.extBut _ _ i12.symm (off₁.2 _ _ (by simp [ap.z2.symm]) e))
  have w2:h₂.IsTupleIter i1 l1 (i+1):=w1.at λo e=>off₂.2 _ _ (by simp [ap.O1.symm]) e
  have isz2: ∃o,h₂.get? z=some o/\o.cls= .type "zip" :=let ⟨o,e,c⟩:=isz;⟨o,off₂.2 _ _ (by simp [ap.zO]) (same₁.extBut _ _ ap.z1 e),c⟩;cases hy:ys[i]? with
  |none=>
   refine wy (s:= {s with heap:=h₂}) calm v2 u2 hy λh' e grown st=>⟨λo q=>grown _ _ ap.z2 q,λh3 k=>⟨?_,ended (.inr (G0r.mp hy)) _ _ λb o n q=>k _ _ (λy=>sub n z' (by simp [y])) (grown _ _ (λy=>sub n b' (by simp [y])) (all n q))⟩⟩
   have ne:=stop ap.z2 grown isz2 st;obtain⟨o,q,c⟩:=st;exact⟨o,k _ _ ne q,c⟩
  |some y=>
   refine Ws (s:= {s with heap:=h₂}) v2 u2 hy λh2' w3 same₂=>⟨.of same₂ (by simp),λh₃ kept new zip its out=> ?_⟩
   have size:h2'.objs.size=s.heap.objs.size:=by rw [same₂.1,off₂.1,same₁.1,off₁.1]
   have done:=pair x y h₃ s.toks hx hy (λb o n e=>kept _ _ (sub n zo) (same₂.extBut _ _ (λy=>sub n b' (by simp [y])) (all n e))) (size ▸ new) zip its out
    (w2.at λo e=>kept _ _ (by simp [ap.z1.symm,ap.O1.symm]) (same₂.extBut _ _ i12 e)) (w3.at λo e=>kept _ _ (by simp [ap.z2.symm,ap.O2.symm]) e)
   rw [<-size] at done;exact done
theorem Mn (n:Nat):ZApart (n+4) (n+2) (n+3) n (n+1):=by
 have d: ∀ {i j:Nat},i≠j->n+i≠n+j:=λh q=>h (Nat.add_left_cancel q)
 exact⟨d (j:=0) (by decide),d (by decide),d (by decide),d (by decide),d (j:=0) (by decide),d (by decide),d (by decide),d (j:=0) (by decide),d (by decide)⟩
theorem QN {c:Nat}(h:c<n):c ∉ [n+4,n+3,n,n+1]:=by
 simp only [R0,N5,Y6,not_or];omega
theorem LJ {c:Nat}(h:c∈ [n+4,n+2,n+3,n,n+1]):n<=c:=by
 simp only [R0,N5,Y6] at h;omega
theorem Rj {E:Value->Shared->Prop}{s:Shared}{z TI TO:Addr}{Q:Value->Shared->Prop}(Z:ZipAt s.heap z TI TO)(h:Q (.ref z) s):wpAny (model prog w) A (pyIter (.ref z)) Q E s:=by
 obtain⟨_,_,hz,_⟩:=Z;have ty:s.TypeIs (.ref z) "zip" :=⟨_,hz,rfl⟩;exact wpAny_pyIter_slot ty F.slot_zip_iter (C7 F.slot_zip_iter ty F.entry_zip_iter (P0 ⟨_,rfl,_,_,ty,F.slot_zip_next.lookup,h⟩) (F.args_zip_iter_1 _))
theorem LK {P:Program}(tg:Expr)(l1 l2 z TI TO i1 i2:Addr)(ap:ZApart z TI TO i1 i2)(n1:l1 ∉ [z,TO,i1,i2])(n2:l2 ∉ [z,TO,i1,i2])(i12:i1≠i2):
 Turn P w K tg (Itz K l1 l2) [z,TI,TO,i1,i2] z (λi h=>ZipAt h z TI TO/\IsPair h TI (.ref i1) (.ref i2)/\(∃a b,IsPair h TO a b)/\h.IsTupleIter i1 l1 i/\h.IsTupleIter i2 l2 i):=by
 have inW: ∀ {b:Addr},b ∉ [z,TI,TO,i1,i2]->b ∉ [z,TO,i1,i2]:=λn q=>n (by simp only [R0] at q ⊢;rcases q with q|q|q|q|q<;>simp [q] at*)
 have there: ∀ {i:Nat} {h:Heap},(ZipAt h z TI TO/\IsPair h TI (.ref i1) (.ref i2)/\(∃a b,IsPair h TO a b)/\h.IsTupleIter i1 l1 i/\h.IsTupleIter i2 l2 i)-> ∀b∈ [z,TI,TO,i1,i2],∃o,h.get? b=some o/\ ∀v,o.data≠ .cell v:=λ⟨⟨_,_,a1,_⟩,a2,⟨_,_,a3⟩,⟨o4,a4,_,d4⟩,⟨o5,a5,_,d5⟩⟩ b hb=>by
  simp only [R0,N5,Y6] at hb;rcases hb with e|e|e|e|e<;>subst e
  ·exact⟨_,a1,λv z=>by cases z⟩
  ·exact⟨_,a2,λv z=>by cases z⟩
  ·exact⟨_,a3,λv z=>by cases z⟩
  ·exact⟨o4,a4,λv z=>by rw [d4] at z;cases z⟩
  ·exact⟨o5,a5,λv z=>by rw [d5] at z;cases z⟩
 refine⟨by simp,λi h st=>there st,λi h h' ⟨⟨f,b,a1,qf⟩,a2,⟨x,y,a3⟩,a4,a5⟩ q=>⟨⟨f,b,q z (by simp) _ a1,qf⟩,q TI (by simp) _ a2,⟨x,y,q TO (by simp) _ a3⟩,a4.at λo e=>q i1 (by simp) o e,a5.at λo e=>q i2 (by simp) o e⟩,?_,?_,λ_ _ _ _ _ st h=>Rj st.1 h⟩
 ·intro X hP hw hK hc i pins s σ H E I hf st hg;subst hP hw hK;obtain⟨xs,ys,x,y,hq,hq2,hx,hy⟩:=hg;obtain⟨its,rv,p,_⟩:=I.tuple hq;obtain⟨jts,rw',p2,_⟩:=I.tuple hq2;obtain⟨u,hu,ru⟩:=rv.get hx;obtain⟨v,hv,rv'⟩:=rw'.get hy;obtain⟨a1,a2,a3,a4,a5⟩:=id st;have lt: ∀b∈ [z,TI,TO,i1,i2],b≠s.heap.objs.size:=λb hb=>let ⟨_,e,_⟩:=there st b hb;S4 (D3 e)
  have l1':i<its.toArray.size:=by have:=(G7.mp hu).1;simpa using this
  have l2':i<jts.toArray.size:=by have:=(G7.mp hv).1;simpa using this
  refine QM (I.ok.hd hc) ap n1 n2 i12 a1 a2 a3 p p2 a4 a5 (λx' y' h' tk hx' hy' kept new zip it out w1 w2=>⟨_,rfl,?_⟩) λends=>absurd ends (by omega)
  have ex:x'=u:=by simp only [G08] at hx';rw [hu] at hx';cases hx';rfl
  have ey:y'=v:=by simp only [G08] at hy';rw [hv] at hy';cases hy';rfl
  subst ex ey;refine Sk (s:= {s with heap:=h',toks:=tk}) zip λh2 zip2 off=> ?_
  have hn:H s.heap.objs.size=none:=I.hok.fresh (P1 _);have nz: ∀ {b},b≠z->b ∉ [z]:=λh=>by simpa using h
  have T2:IsPair h2 s.heap.objs.size x' y':=off.2 _ _ (nz (lt z (by simp)).symm) new;refine⟨.ref s.heap.objs.size,upd H s.heap.objs.size (.tup [x,y]),?_,rfl,⟨_,x,y,hn,λws hw=>by rw [I.tuple_inj hw hq];exact hx,λws hw=>by rw [I.tuple_inj hw hq2];exact hy,rfl,rfl⟩,
   ⟨zip2,off.2 _ _ (nz ap.zI.symm) it,let ⟨a,b,e⟩:=out;⟨a,b,off.2 _ _ (nz ap.zO.symm) e⟩,w1.at λo e=>off.2 _ _ (nz ap.z1.symm) e,w2.at λo e=>off.2 _ _ (nz ap.z2.symm) e⟩,λb hb=> ?_⟩
  ·refine I.turnLaid (h':=h2) (t':=tk) (ch:= [z,TI,TO,i1,i2]) (λb u hb q=>off.2 _ _ (λy=>inW hb (by simp only [G5] at y;simp [y])) (kept b u (inW hb) q)) hf (P1 _) ⟨by show 2<=sizeLine;decide,[x',y'],.cons ru (.cons rv' .nil),⟨_,T2,rfl,rfl,_,rfl⟩⟩
  ·rw [jq (lt b hb)];exact(hf b hb).1
 ·intro X hP hw hK hc i pins s σ H E I hf st hg;subst hP hw hK;obtain⟨xs,ys,hq,hq2,hl⟩:=hg;obtain⟨its,rv,p,_⟩:=I.tuple hq;obtain⟨jts,rw',p2,_⟩:=I.tuple hq2;have e1:=rv.length;have e2:=rw'.length;obtain⟨a1,a2,a3,a4,a5⟩:=id st;refine QM (I.ok.hd hc) ap n1 n2 i12 a1 a2 a3 p p2 a4 a5 (λx' y' h' tk hx' hy' _ _ _ _ _ _ _=> ?_) λ_ h' tk kept=>⟨rfl,I.turnL (ch:= [z,TI,TO,i1,i2]) (λb o hb q=>kept b o (inW hb) q) hf⟩
  have b1:=(O5.mp hx').1;have b2:=(O5.mp hy').1;simp only [D0] at b1 b2;omega
section
variable {X:Cx}
def qm (K:PySem.W.Frag)(ta:TA):TI:=λσ H R=>ta σ H λvs H1=> ∃a b,vs= [.ref a,.ref b]/\(∃xs,SqT K H1 a xs)/\(∃ys,SqT K H1 b ys)/\R (Itz K a b) H1
theorem KI {tg:Expr}{a b:Expr}{ta:TA}{p pos:Pos}(hg:Gl X "zip")(hm:X.mg "zip" =none)(ha:PA X [a,b] ta)(hs:starEach [a,b] X.env= [(false,eval a X.env),(false,eval b X.env)]:=by rfl)(hs2:starEach [b] X.env= [(false,eval b X.env)]:=by rfl):
 PI X tg (.Call (.Name "zip" p) [a,b] [] pos) (qm X.K ta):=by
 intro pins s σ H R I h;refine Call_ (WP I hg hm boot_zip (C4 (thn (ha pos pins s σ H _ I h) λus s1 ⟨vs,H1,I1,r1,q1⟩=> ?_) (by rw [hs,hs2]) (by rw [hs2];rfl)));obtain⟨a,b,e,⟨xs,hq⟩,⟨ys,hq2⟩,q⟩:=q1;subst e;cases r1 with
 |cons r rr=>
  cases rr with
  |cons r' rr=>
   cases rr;cases r;cases r';obtain⟨its,rv,p,_⟩:=I1.tuple hq;obtain⟨jts,rw',p2,_⟩:=I1.tuple hq2;have la:a<s1.heap.objs.size:=by obtain⟨o,ho,_⟩:=p;exact D3 ho
   have lb:b<s1.heap.objs.size:=by obtain⟨o,ho,_⟩:=p2;exact D3 ho
   refine QL (show s1.heap.IsTuple a its.toArray from p) (show s1.heap.IsTuple b jts.toArray from p2) λh' n en z1 z2 z3 z4 z5 hk=> ?_
   subst en;refine Rj z1 ⟨s1.heap.objs.size+4,[s1.heap.objs.size+4,s1.heap.objs.size+2,s1.heap.objs.size+3,s1.heap.objs.size,s1.heap.objs.size+1],_,_,H1,rfl,I1.kept (t':=s1.toks) hk,
    LK _ a b _ _ _ _ _ (Mn _) (QN la) (QN lb) (S4 (O3 _)),⟨z1,z2,z3,z4,z5⟩,λc hc=> ?_,q⟩
   have hb':s1.heap.objs.size<=c:=LJ hc;exact I1.fpOk hb' (I1.hok.fresh hb')
end
def LL (ds es:List D):List D:=(ds.zip es).map λp=> .tup [p.1,p.2]
def iZ (ta:TAD):TID:=λσ h R=>ta σ h λxs h1=> ∃ds es,xs= [.tup ds,.tup es]/\R (λ_=>some (LL ds es)) h1
theorem LM {ds es:List D}{d:D}(h:(LL ds es)[i]? =some d): ∃x y,ds[i]? =some x/\es[i]? =some y/\d= .tup [x,y]:=by
 unfold LL at h;rw [P3] at h;cases q:(ds.zip es)[i]? with
 |none=>rw [q] at h;cases h
 |some p=>
  rw [q] at h;obtain⟨x,y⟩:=p;rw [List.getElem?_zip_eq_some] at q;exact⟨x,y,q.1,q.2,(N3 h).symm⟩
section
variable {K:PySem.W.Frag}
theorem LP {H:Hp}{a b:Addr}{vs us:List V}{ds es:List D}(hv:H a=some (.tup vs))(r:RelDs K H ds vs)(hu:H b=some (.tup us))(ru:RelDs K H es us):EH K H (λ_=>some (LL ds es)) (Itz K a b):=λH' h' k rh ds' e i=>by
 cases e;have hv':=k.tup _ _ hv;have hu':=k.tup _ _ hu;have r':=r.mono k;have ru':=ru.mono k;refine⟨λd hd=> ?_,λhl=>⟨vs,us,SqT.of hv',SqT.of hu',?_⟩⟩
 ·obtain⟨x,y,hx,hy,ed⟩:=LM hd;subst ed;obtain⟨v,e1,e2⟩:=r'.get hx;obtain⟨u,e3,e4⟩:=ru'.get hy;refine⟨⟨vs,us,v,u,SqT.of hv',SqT.of hu',e1,e3⟩,λx' H'' ⟨p,v',u',hp,hx',hy',ex,eH⟩=> ?_⟩;subst ex eH;have ev:v'=v:=by have:=hx' vs (SqT.of hv');rw [e1] at this;exact(N3 this).symm
  have eu:u'=u:=by have:=hy' us (SqT.of hu');rw [e3] at this;exact(N3 this).symm
  subst ev eu;have k2:Kept H' (upd H' p (.tup [v',u'])):= .new hp;exact⟨k2,RelH.new rh hp,p,[v',u'],rfl,jz,_,_,rfl,e2.mono k2,_,_,rfl,e4.mono k2,rfl⟩
 ·have l1:=r.length;have l2:=ru.length;unfold LL at hl;rw [G0,G0i] at hl;omega
theorem KJ {ta:TAD}: ∀σ H R,LI K (iZ ta) σ H R->qm K (LA K ta) σ H R:=λσ H R ⟨σd,h,Rd,rs,rh,q,p⟩=>
 LA.bind rs rh q λds vs h1 H1 k1 rs1 rh1 r1 ⟨es,fs,e,q1⟩=>by
  subst e;obtain⟨v,w,e,r2,r3⟩:=yJ r1;obtain⟨a,ws,e',hv,r⟩:=(show ∃a vs,v= .ref a/\H1 a=some (.tup vs)/\RelDs K H1 es vs from r2);obtain⟨b,us,e'',hu,r'⟩:=(show ∃a vs,w= .ref a/\H1 a=some (.tup vs)/\RelDs K H1 fs vs from r3);subst e' e'';exact⟨a,b,e,⟨ws,SqT.of hv⟩,⟨us,SqT.of hu⟩,p _ _ _ _ k1 rh1 (LP hv r hu r') q1⟩
end
section
variable {X:Cx}
theorem AA {tg:Expr}{a b:Expr}{ta:TAD}{p pos:Pos}(hg:Gl X "zip")(hm:X.mg "zip" =none)(ha:JA X [a,b] ta)(hs:starEach [a,b] X.env= [(false,eval a X.env),(false,eval b X.env)]:=by rfl)(hs2:starEach [b] X.env= [(false,eval b X.env)]:=by rfl):
 JI X tg (.Call (.Name "zip" p) [a,b] [] pos) (iZ ta):=⟨(KI hg hm ha.to hs hs2).imp KJ⟩
end
def inE (neg:Bool):RD2:=λx y h Q=> ∃ (p:PyData) (ps:List PyData),ToP h x p/\(ToP h y (.list ps)\/ToP h y (.tuple ps))/\p.canLay0=true/\PyData.canLayAll0 ps=true/\p.depth<=60/\Q (.bl (neg !=ps.any λz=>PyData.eqv z p)) h
section
variable {X:Cx}
theorem xp (hu:X.A.units+64<cLine):OpQ X (compareOp .In) (inE false):=by
 intro pins s σ H x y v u Q I rx ry h;obtain⟨dx,dy,h,Qd,r1,r2,rh,⟨p,ps,t1,t2,c1,c2,c3,qq⟩,post⟩:=h;obtain⟨as,a1⟩:=wv I rh t1 r1 rx;have hu':X.A.units+1+min (PyData.depthAll ps) p.depth<cLine:=by have:=Z4 (PyData.depthAll ps) p.depth;omega
 have q':Qd (.bl (ps.any λz=>PyData.eqv z p)) h:=by simpa using qq
 rcases t2 with t2|t2
 ·obtain⟨bs,b1⟩:=wv I rh t2 r2 ry;exact in_list_reads b1 a1 c2 c1 hu' ⟨.bl _,H,I,rfl,post (.bl _) _ _ _ (.refl H) rh rfl q'⟩
 ·obtain⟨bs,b1⟩:=wv I rh t2 r2 ry;exact in_tuple_reads b1 a1 c2 c1 hu' ⟨.bl _,H,I,rfl,post (.bl _) _ _ _ (.refl H) rh rfl q'⟩
theorem Rk (hu:X.A.units+64<cLine):OpQ X (compareOp .NotIn) (inE true):=by
 intro pins s σ H x y v u Q I rx ry h;obtain⟨dx,dy,h,Qd,r1,r2,rh,⟨p,ps,t1,t2,c1,c2,c3,qq⟩,post⟩:=h;obtain⟨as,a1⟩:=wv I rh t1 r1 rx;have hu':X.A.units+1+min (PyData.depthAll ps) p.depth<cLine:=by have:=Z4 (PyData.depthAll ps) p.depth;omega
 have q':Qd (.bl (!ps.any λz=>PyData.eqv z p)) h:=by simpa using qq
 rcases t2 with t2|t2
 ·obtain⟨bs,b1⟩:=wv I rh t2 r2 ry;exact notIn_list_reads b1 a1 c2 c1 hu' ⟨.bl _,H,I,rfl,post (.bl _) _ _ _ (.refl H) rh rfl q'⟩
 ·obtain⟨bs,b1⟩:=wv I rh t2 r2 ry;exact notIn_tuple_reads b1 a1 c2 c1 hu' ⟨.bl _,H,I,rfl,post (.bl _) _ _ _ (.refl H) rh rfl q'⟩
theorem xq {tg:Expr}{p pos:Pos}{a b:Expr}{ta:TAD}(hg:Gl X "range")(hm:X.mg "range" =none)(ha:JA X [a,b] ta)(hs:starEach [a,b] X.env= [(false,eval a X.env),(false,eval b X.env)]:=by rfl)(hs2:starEach [b] X.env= [(false,eval b X.env)]:=by rfl):JI X tg (.Call (.Name "range" p) [a,b] [] pos) (iR2 ta):=⟨(NC hg hm ha.to hs hs2).imp uQ⟩
end
def qo (i:Nat)(f:Int->Int->Int)(te:TED):TSD:=λD σ h=> ∃x:Int,σ[i]? =some (some (.int x))/\te σ h λy h1=> ∃j:Int,y= .int j/\D.nx (σ.set i (some (.int (f x j)))) h1
theorem KK {f:Int->Int->Int}{te:TED}: ∀D σ H,LS K (qo i f te) D σ H->xK i (LE K te) (ipI f) D σ H:=λD σ H ⟨σd,h,Dd,rs,rh,⟨x,hx,q⟩,nx,rt,bk,ct⟩=>by
 obtain⟨v,e1,r1⟩:=rs.2 i _ hx;cases (show v= .int x from r1);exact⟨_,e1,LE.bind rs rh q λd u h1 H1 k1 rs1 rh1 r1 ⟨j,e,q1⟩=>by
  subst e;cases (show u= .int j from r1);exact⟨x,j,rfl,rfl,nx _ _ _ _ k1 (rs1.set (d:= .int (f x j)) rfl i) rh1 q1⟩⟩
section
variable {X:Cx}{i:Nat}{x:Str}{e:Expr}{te:TED}{pos pos':Pos}
theorem Sl (hN:X.N.Nodup)(hi:X.N[i]? =some x)(hx:Loc X.env.scope x)(he:JE X e te)(hf:X.fn x=true\/X.env.scope.names.lookup x=some .local:=by first|exact .inl rfl|exact .inr rfl|assumption):JS X (.AugAssign (.Name x pos') .Add e pos) (qo i (λa b=>a+b) te):=⟨(Ha hN hi hx he.to Hb hf).imp KK⟩
end
end L2
namespace L2
open PySem PySem.Spec PyProof.Rows
section
variable {prog:Program}{w:World}{A:Around}{E:Value->Shared->Prop}{s:Shared}
theorem vL: ∀ {vs:List Value} {ns:List Int},IntsAre vs ns-> ∀ {i:Nat} {v:Value},vs[i]? =some v-> ∃t,v= .int (ns.getD i 0) t/\i<ns.length
 |_,_,.nil,_,_,hv=>by simp at hv
 |_,_,.cons _ t _,0,_,hv=>⟨t,by simpa using hv.symm,by simp⟩
 |_,_,.cons _ _ r,i+1,_,hv=>by
  obtain⟨t,e,lt⟩:=vL r (i:=i) (by simpa using hv);exact⟨t,by simpa using e,by simpa using lt⟩
theorem QP {l:Addr}{o:Obj}(here:l<s.heap.objs.size): ∀b∈ [s.heap.objs.size,l],b<(s.heap.push o).objs.size:=λb hb=>by
 rw [Y5];simp only [R0,N5,Y6] at hb;rcases hb with e|e<;>subst e
 ·exact O3 _
 ·exact Y0 here
theorem QQ {o:Obj}{h':Heap}(k: ∀b u,b ∉ [s.heap.objs.size]->(s.heap.push o).get? b=some u->h'.get? b=some u): ∀b u,s.heap.get? b=some u->h'.get? b=some u:=λb u e=>
 k b u (λm=>absurd (D3 e) (by rw [G5.mp m];exact M9 _)) (G2 _ e)
end
section
variable {X:Cx}
theorem BT (hc:X.calm=true):CallR X (.builtin "min") (λxs H Q=> ∃ (a:Addr) (ns:List Int),xs= [.ref a]/\ns≠ []/\(SqL X.K H a (ns.map V.int)\/SqT X.K H a (ns.map V.int))/\ ∀m∈ns,(∀x∈ns,m<=x)->Q (.int m) H):=by
 intro pins s σ H xs us Q I r h;obtain⟨a,ns,rfl,hne,hS,q⟩:=h;obtain⟨u,rfl,ru⟩:=Jm r;cases ru;have fin: ∀ {its:List Value} (hi:IntsAre its ns) (v:Value) (h':Heap) (tk:Nat),its.toArray[argBest (λi j=>decide (ns.getD i 0<ns.getD j 0)) (its.toArray.size-1)]? =some v->(∀b o,s.heap.get? b=some o->h'.get? b=some o)->EP X pins σ Q v {s with heap:=h',toks:=tk}:=λ{its} hi v h' tk hv kept=>by
  obtain⟨t,rfl,lt⟩:=vL hi (show its[_]? =some v by simpa using hv);refine⟨.int _,H,I.kept kept,⟨t,rfl⟩,q _ (getD_mem lt) λx hx=> ?_⟩;obtain⟨j,hj,rfl⟩:=mem_getD hx;exact(argBest_lt (λi=>ns.getD i 0) (its.toArray.size-1)).2 j (by rw [D0,hi.length];omega)
 refine call_min_walk ?_;rcases hS with hS|hS
 ·obtain⟨its,rv,pl,_⟩:=I.list hS;have hi:=ZL rv;obtain⟨o,e,r⟩:=id pl.isList;have W:=G1z (prog:=X.prog) (w:=X.w) (A:=X.A.in1) (I.ok.hd hc) s.heap.objs.size a (S4 (D3 e)) its.toArray;exact K3 pl.isList ⟨_,_,_,_,_,_,_,rfl,W,⟨⟨_,D6 _ rfl,rfl,rfl⟩,⟨o,G2 _ e,r⟩⟩,QP (D3 e),by rw [D0,hi.length];exact V1.mpr hne,CmpOf.ints_lt (λi=>ns.getD i 0) (λi v hv=>(vL hi (by simpa using hv)).imp λ_ z=>z.1),λv h' tk hv k=>fin hi v h' tk hv (QQ k)⟩
 ·obtain⟨its,rv,pl,_⟩:=I.tuple hS;have hi:=ZL rv;obtain⟨o,e,r⟩:=id pl;have W:=Walks.tuple (prog:=X.prog) (w:=X.w) (A:=X.A.in1) (I.ok.hd hc) s.heap.objs.size a (S4 (D3 e)) its.toArray;exact A6 (show s.heap.IsTuple a its.toArray from pl) ⟨_,_,_,_,_,_,_,rfl,W,⟨⟨_,D6 _ rfl,rfl,rfl⟩,⟨o,G2 _ e,r⟩⟩,QP (D3 e),by rw [D0,hi.length];exact V1.mpr hne,CmpOf.ints_lt (λi=>ns.getD i 0) (λi v hv=>(vL hi (by simpa using hv)).imp λ_ z=>z.1),λv h' tk hv k=>fin hi v h' tk hv (QQ k)⟩
def KL (B:List Int->Int->Prop):RDn:=λds h Q=> ∃ (ns:List Int) (h':HD),ns≠ []/\Sub h' h/\(ds= [.tup (ns.map D.int)]\/ ∃a,ds= [.lst a]/\h a=some (ns.map D.int))/\ ∀m∈ns,B ns m->Q (.int m) h'
abbrev jam:RDn:=KL λns m=> ∀x∈ns,m<=x
theorem LQ {B:List Int->Int->Prop}{f:Value}(c:CallR X f (λxs H Q=> ∃ (a:Addr) (ns:List Int),xs= [.ref a]/\ns≠ []/\(SqL X.K H a (ns.map V.int)\/SqT X.K H a (ns.map V.int))/\ ∀m∈ns,B ns m->Q (.int m) H)):vJ X f (KL B):=
 c.imp λxs H Q ⟨ds,h,Qd,r,rh,⟨ns,h',hne,hs,e,q⟩,p⟩=>by
  rcases e with e|⟨a,e,ha⟩
  ·subst e;obtain⟨v,e,r1⟩:=jF r;obtain⟨a,vs,e1,hH,r2⟩:=(show ∃a vs,v= .ref a/\H a=some (.tup vs)/\RelDs X.K H (ns.map D.int) vs from r1);rw [jO r2] at hH;subst e e1;exact⟨a,ns,rfl,hne,.inr (SqT.of hH),λm m1 m2=>p (.int m) _ _ _ (.refl H) (rh.sub hs) rfl (q m m1 m2)⟩
  ·subst e;obtain⟨v,e,r1⟩:=jF r;obtain⟨vs,hH,r2⟩:=rh a _ ha;have e1:v= .ref a:=r1.1;rw [jO r2] at hH;subst e e1;exact⟨a,ns,rfl,hne,.inl (SqL.of hH),λm m1 m2=>p (.int m) _ _ _ (.refl H) (rh.sub hs) rfl (q m m1 m2)⟩
theorem Sm (hc:X.calm=true):vJ X (.builtin "min") jam:=LQ (BT hc)
end
theorem LU {ta:TAD}{g:TGD}{tb:TSD}{E:EndsD}{σ:SD}{h h1:HD}(m:Int)(n:Nat)(W:Nat->SD->HD->Prop)(hm:0<=m)(hm2:m<1000000)(hn:n<1000000)
 (ht: ∀R:List D->HD->Prop,R [.int m,.int (m+(n:Int))] h1->ta σ h R)(w0:W 0 σ h1)(done: ∀σ' h',W n σ' h'->E.nx σ' h')
 (turn: ∀i σ' h',i<n->W i σ' h'->g (.int (m+(i:Int))) σ' h' λσ2 h2=>tb (Nxt E λσ3 h4=>i+1<=n/\W (i+1) σ3 h4) σ2 h2):To (iR2 ta) g tb E σ h:=by
 refine ht _ ⟨m,m+(n:Int),rfl,⟨by omega,by omega,by omega,by omega⟩,n,λi σ' h'=>i<=n/\W i σ' h',⟨S8 _,w0⟩,?_⟩;rintro i σ' h' ⟨hi,w⟩;have en:(m+(n:Int)-m).toNat=n:=by omega
 refine⟨_,rfl,by simp [en],λhl=> ?_,λd hd=> ?_⟩
 ·have:i=n:=by simp [en] at hl;omega
  subst this;exact done _ _ w
 ·rw [en,P3] at hd;cases hx:(List.range n)[i]? with
  |none=>rw [hx] at hd;cases hd
  |some y=>
   rw [hx] at hd;cases hd;obtain⟨hi2,e⟩:=G7.mp hx;simp at hi2 e;subst e;exact turn i σ' h' hi2 w
end L2
namespace L2
open PySem PySem.Spec PyProof.Rows PySem.SeqAt
theorem LV {X:Cx}(hu:X.A.units+64<cLine):MtM X "list.index" (λx vs H Q=> ∃ (a:Addr) (y:V) (dy:D) (h:HD) (p:PyData) (ps:List PyData) (j:Nat) (z:PyData),x= .ref a/\vs= [y]/\RelD X.K H dy y/\RelH X.K h H/\ToP h (.lst a) (.list ps)/\ToP h dy p/\p.canLay0=true/\PyData.canLayAll0 ps=true/\p.depth<=60/\j<1000000/\ps[j]? =some z/\PyData.eqv z p=true/\(∀m y,m<j->ps[m]? =some y->PyData.eqv y p=false)/\Q (.int (j:Int)) H):=by
 intro pins s σ H x vs v us Q I rx rv h;obtain⟨a,y,dy,h,p,ps,j,z,rfl,rfl,rd,rh,t1,t2,c1,c2,c3,hj,hz,hit,hno,q⟩:=h;cases rx;obtain⟨u,rfl,ru⟩:=Jm rv;obtain⟨a',ds,ea,ha,ts⟩:=(show ∃a' ds,D.lst a= .lst a'/\h a'=some ds/\ToPs h ds ps from t1);cases ea;obtain⟨ws,hH,_⟩:=rh a ds ha;obtain⟨as,r1⟩:=wv I rh t1 (show RelD X.K H (.lst a) (.ref a) from ⟨rfl,ws,hH⟩) (show RelV (.ref a) (.ref a) from rfl);obtain⟨bs,r2⟩:=wv I rh t2 rd ru;cases r1 with
 |list h1 h2 h3 h4=>
  rename_i o its n cs;have em:=readsAll_map ps _ _ c2 h4;have gm: ∀m (hm:m<its.size),ps[m]? =some (readOf s.heap its[m]):=λm hm=>by
   rw [<-em,P3,N0,Array.getElem?_eq_getElem hm];rfl
  have hlen:its.size=ps.length:=by rw [<-em,G0,T7]
  have hjs:j<its.size:=by rw [hlen];exact(G7.mp hz).1
  have hu':X.A.units+1+min (PyData.depthAll ps) p.depth<cLine:=by have:=Z4 (PyData.depthAll ps) p.depth;omega
  obtain⟨oc,od,odt,osl⟩:=o;simp only at h2 h3;subst h2 h3;refine G0I F.slot_list_index ⟨_,h1,rfl⟩ F.entry_list_index (F.args_list_index_2 _ _) (list_indexAt a its n od osl u (λy=>PyData.eqv (readOf s.heap y) p) j hjs (by omega) ?_ ?_) ⟨h1,items_eqAt h4 r2 c2 c1 hu',?_⟩
  ·have:=gm j hjs;rw [hz] at this;injection this with this
   rw [<-this];exact hit
  ·intro m hm hmj;exact hno m _ hmj (gm m hm)
  ·exact⟨.int (j:Int),H,I.tok _,⟨_,rfl⟩,q⟩
def jan (to te:TED):TED:=λσ h Q=>to σ h λx h1=> ∃a,x= .lst a/\te σ h1 λy h2=> ∃ (p:PyData) (ps:List PyData) (j:Nat) (z:PyData),ToP h2 (.lst a) (.list ps)/\ToP h2 y p/\p.canLay0=true/\PyData.canLayAll0 ps=true/\p.depth<=60/\j<1000000/\ps[j]? =some z/\PyData.eqv z p=true/\(∀m y,m<j->ps[m]? =some y->PyData.eqv y p=false)/\Q (.int (j:Int)) h2
section
variable {X:Cx}{o e i:Expr}{to te ti:TED}{apos cpos:Pos}
theorem jao (hu : X.A.units + 64 < cLine) (ho : JE X o to) (he : JE X e te) (hbase : attributeBase o "index" X.env (eval o X.env) = eval o X.env := by rfl)
    (hfew : ((backTo cpos (starEach [e] X.env)).all (fun x => !x.1) && (backToKw cpos (keywordEach [] X.env)).all (fun x => x.1.isSome) && decide ([e].length + ([] : List Keyword).length + (if ([] : List Keyword).isEmpty then 0 else 1) < 30)) = true := by rfl)
    (hline : (apos.endLine == cpos.line) = true := by rfl) (hs : starEach [e] X.env = (false, eval e X.env) :: starEach [] X.env := by rfl) (hplain : (backTo cpos (starEach [] X.env)).any (·.1) = false := by rfl) :
    JE X (.Call (.Attribute o "index" apos) [e] [] cpos) (jan to te) :=
  ⟨(Ek W5 PySem.F.slot_list_index PySem.F.type_list_index (LV hu) ho.to (yS he.to pa_nil hs) hbase hfew hline hs hplain).imp
    fun σ H Q ⟨σd, h, Qd, rs, rh, t, p⟩ => LE.bind rs rh t fun d v h1 H1 k1 rs1 rh1 r1 ⟨a, e, q⟩ => by
      subst e
      obtain ⟨e1, vs, hH⟩ := (show v = .ref a ∧ ∃ vs, H1 a = some (.lst vs) from r1)
      subst e1
      refine ⟨.inl ⟨rfl, vs, SqL.of hH⟩, ?_⟩
      refine LE.bind rs1 rh1 q fun y u h2 H2 k2 rs2 rh2 r2 ⟨pd, ps, j, z, t1, t2, c1, c2, c3, hj, hz, hit, hno, q2⟩ => ?_
      exact ⟨a, u, y, h2, pd, ps, j, z, rfl, rfl, r2, rh2, t1, t2, c1, c2, c3, hj, hz, hit, hno, p (.int _) _ _ _ (k1.trans k2) rh2 rfl q2⟩⟩
end
variable {i:Nat}{h:HD}{Q:KD}
theorem Sn {js:List Nat}{ta:TAD}{tt:TTD}{te:TED}{σ:SD}{h1:HD}(n:Nat)(W:Nat->List D->HD->Prop)(hn:n<=1000)(ht: ∀R:List D->HD->Prop,R [.int (n:Int)] h1->ta σ h R)
 (w0:W 0 [] h1)(wl: ∀k ys h',W k ys h'->ys.length<=k)(turn: ∀k ys h',k<n->W k ys h'->tt ((jX js σ).set i (some (.int (k:Int)))) h' λb h3=>if b=true then te ((jX js σ).set i (some (.int (k:Int)))) h3 λy h4=> ∃h5,Sub h5 h4/\(k+1<=n/\W (k+1) (ys++ [y]) h5) else ∃h5,Sub h5 h3/\(k+1<=n/\W (k+1) ys h5))
 (done: ∀ys h',W n ys h'-> ∀p,h' p=none->Q (.lst p) (wq h' p ys)):JL (bN i) js (iR1 ta) tt te σ h Q:=by
 refine ht _ ⟨(n:Int),rfl,by omega,by omega,n,λk ys h'=>k<=n/\W k ys h',⟨S8 _,w0⟩,?_⟩;rintro k ys h' ⟨hk,w⟩;refine⟨R1 (wl k ys h' w) (D5 (jE (by omega))),_,rfl,by simp,λhl p hp=> ?_,λd hd=>⟨_,rfl,?_⟩⟩
 ·have:k=n:=by simp at hl;omega
  subst this;exact done _ _ w p hp
 ·obtain⟨hi',e⟩:=YW hd;have hk2:k<n:=by omega
  subst e;exact turn k ys h' hk2 w
section
variable {α:Type}{i i':Nat}{js:List Nat}{ti:TID}{te:TED}{σ:SD}{h:HD}{Q:KD}{j:ItD}
theorem jap (xs:List α)(c c' g:α->D)(hz:xs.length<=1000)(hj:j h=some (xs.map λx=> .tup [c x,c' x]))(ht: ∀R:ItD->HD->Prop,R j h->ti σ h R)
 (he: ∀x∈xs,∀Q':KD,Q' (g x) h->te (((jX js σ).set i (some (c x))).set i' (some (c' x))) h Q')(hq: ∀p,h p=none->Q (.lst p) (wq h p (xs.map g))):JL (b2 i i') js ti YT te σ h Q:=by
 refine ht _ ⟨xs.length,λk ys h'=>h'=h/\ys=(xs.take k).map g,⟨rfl,by simp⟩,?_⟩;rintro k ys h' ⟨rfl,rfl⟩;refine⟨by simp only [G0,D4];exact D5 (jE (by omega)),_,hj,by simp,λhl p hp=> ?_,λd hd=> ?_⟩
 ·rw [R3 (by simpa using hl)];exact hq p hp
 ·rw [P3] at hd;cases hx:xs[k]? with
  |none=>rw [hx] at hd;cases hd
  |some x=>
   rw [hx] at hd;cases hd;refine⟨_,⟨_,_,rfl,rfl⟩,?_⟩;unfold YT;dsimp only;rw [if_pos rfl];refine he x (G8 hx) _ ⟨h',Sub.refl _,rfl,?_⟩;rw [N6,hx];simp
theorem KM (xs:List α)(c c':α->D)(g:α->Bool)(hz:xs.length<=1000)(hj:j h=some (xs.map λx=> .tup [c x,c' x]))(ht: ∀R:ItD->HD->Prop,R j h->ti σ h R)
 (he: ∀x∈xs,∀Q':KD,Q' (.bl (g x)) h->te (((jX js σ).set i (some (c x))).set i' (some (c' x))) h Q')(hq:Q (.bl (xs.all g)) h):dCB EW (yI (JL (b2 i i') js ti YT te) Xc) σ h Q:=by
 show JL (b2 i i') js ti YT te σ h (λx h1=>EW [x] h1 Q);exact jap xs c c' (λx=> .bl (g x)) hz hj ht he λp hp=>⟨p,xs.map g,rfl,by rw [jd,T5];rfl,by rw [wf hp,A5];exact hq⟩
end
def IsS (n:Nat)(S:List Nat):Prop:= ∃p:Nat->Bool,S=(List.range n).filter p
variable {n:Nat}{S:List Nat}
theorem IsS.lt (h:IsS n S){i:Nat}(hi:i∈S):i<n:=by
 obtain⟨p,rfl⟩:=h;exact D2.mp (M5.mp hi).1
theorem IsS.len (h:IsS n S):S.length<=n:=by
 obtain⟨p,rfl⟩:=h;have:=C5 p (List.range n)
 rwa [P4] at this
theorem IsS.rise (h:IsS n S):S.Pairwise (· < ·):=by
 obtain⟨p,rfl⟩:=h;exact List.pairwise_lt_range.filter p
def zd (n:Nat)(T:List (List Int))(S:List Nat):List Nat:=(List.range n).filter λj=>S.any λi=>decide (ent T i j≠0)
theorem IsS.step (T:List (List Int))(S:List Nat):IsS n (zd n T S):=⟨_,rfl⟩
def itF {α:Type}(f:α->α)(x:α):Nat->α
 |0=>x
 |k+1=>f (itF f x k)
variable {α:Type}
theorem PC (f:α->α)(x:α)(a:Nat): ∀b,itF f x (a+b)=itF f (itF f x a) b
 |0=>rfl
 |b+1=>by show f (itF f x (a+b))=f (itF f (itF f x a) b);rw [PC f x a b]
theorem QR {α:Type}{f:α->α}{x:α}{a p:Nat}(e:itF f x (a+p)=itF f x a)(r:Nat): ∀q,itF f x (a+p*q+r)=itF f x (a+r)
 |0=>by simp
 |q+1=>by
  have h1:a+p*(q+1)+r=(a+p)+(p*q+r):=by rw [Nat.mul_succ];omega
  rw [h1,PC,e,<-PC,<-E1,QR e r q]
theorem So {α:Type}{f:α->α}{x:α}{a m k:Nat}(e:itF f x m=itF f x a)(ha:a<m)(hk:a<=k):itF f x (a+(k-a)%(m-a))=itF f x k:=by
 have e':itF f x (a+(m-a))=itF f x a:=by rw [show a+(m-a)=m by omega];exact e
 have h:=QR e' ((k-a)%(m-a)) ((k-a) / (m-a));have h2:=W9 (k-a) (m-a);rw [show a+(m-a)*((k-a) / (m-a))+(k-a)%(m-a)=k by omega] at h;exact h.symm
theorem IsS.it {T:List (List Int)}(h:IsS n S): ∀k,IsS n (itF (zd n T) S k)
 |0=>h
 |_+1=>IsS.step _ _
theorem QU [DecidableEq α]: ∀ {l m:List α},l.Nodup->(∀x∈l,x∈m)->l.length<=m.length
 | [],_,_,_=>S8 _
 |a::l,m,nd,h=>by
  have hm:=h a D9;have h2:l.length<=(m.erase a).length:=QU (L6.mp nd).2 λx hx=>by
   have hxa:x≠a:=λe=>(L6.mp nd).1 (e ▸ hx)
   exact(U7 hxa).mpr (h x (R4 _ hx))
  rw [K9 hm] at h2;have:=X6 hm;simp only [P9];omega
def Uf:Nat->List (List Nat)
 |0=> [[]]
 |n+1=>Uf n++(Uf n).map (· ++ [n])
theorem QV: ∀n,(Uf n).length=2^n
 |0=>rfl
 |n+1=>by
  show (Uf n++(Uf n).map (· ++ [n])).length=_;rw [G9,G0,QV n,Nat.pow_succ];omega
theorem Vi (p:Nat->Bool): ∀n,(List.range n).filter p∈Uf n
 |0=>by simp [Uf]
 |n+1=>by
  rw [F8,L7];show _∈Uf n++(Uf n).map (· ++ [n]);cases e:p n with
  |true=>
   refine P6.mpr (.inr (D1.mpr ⟨_,Vi p n,?_⟩));simp [e]
  |false=>
   refine P6.mpr (.inl ?_);have: [n].filter p= []:=by simp [e]
   rw [this,F7];exact Vi p n
theorem LW (h6:n<=6){l:List (List Nat)}(nd:l.Nodup)(hS: ∀S∈l,IsS n S):l.length<=64:=by
 have h:=QU nd (m:=Uf n) λS hs=>by obtain⟨p,rfl⟩:=hS S hs;exact Vi p n
 rw [QV] at h;exact R1 h (Z8 (by decide) h6:2^n<=2^6)
def Ph (S:List Nat):PyData:=Az (zT S)
theorem yW (h:HD)(S:List Nat):ToP h (jt S) (Ph S):=by rw [Xo];exact⟨_,rfl,yN h _⟩
theorem Vj (h:HD): ∀Ss:List (List Nat),ToPs h (Ss.map jt) (Ss.map Ph)
 | []=>rfl
 |S::Ss=>⟨_,_,rfl,yW h S,Vj h Ss⟩
theorem Jg (r:List Int):(Az r).canLay0=true:=by unfold Az;simp only [PyData.canLay0];exact JQ r
theorem JR: ∀Ss:List (List Nat),PyData.canLayAll0 (Ss.map Ph)=true
 | []=>rfl
 |S::Ss=>by show (PyData.canLay0 (Ph S)&&_)=true;rw [JR Ss];rw [show (Ph S).canLay0=true from Jg _];rfl
theorem Vk (r:List Int):(Az r).depth<=2:=by unfold Az;simp only [PyData.depth];have:=Wp r;omega
theorem UE: ∀a b:List Int,PyData.eqvAll (a.map PyData.int) (b.map PyData.int)=decide (a=b)
 | [],[]=>by simp [PyData.eqvAll]
 | [],_::_=>by simp [PyData.eqvAll]
 |_::_,[]=>by simp [PyData.eqvAll]
 |x::a,y::b=>by
  show ((x==y)&&PyData.eqvAll (a.map .int) (b.map .int))=_;rw [UE a b,B3];simp
theorem Sr (a b:List Int):PyData.eqv (Az a) (Az b)=decide (a=b):=UE a b
theorem BU {a b:List Nat}(h:zT a=zT b):a=b:=by
 have:=congrArg (List.map Int.toNat) h;unfold zT at this;simpa [T5,Y1] using this
theorem Wt (a b:List Nat):PyData.eqv (Ph a) (Ph b)=decide (a=b):=by
 unfold Ph;rw [Sr,B3,E7,E7];exact⟨BU,λe=>by rw [e]⟩
theorem yO (r:List Int):shaped (Az r)=true:=by
 unfold shaped;rw [Jg,G6 (by have:=Vk r;omega)];rfl
theorem KN {a b:List Nat}(e:a=b)(q:Q (.bl true) h):eqE (jt a) (jt b) h Q:=by
 subst e;exact⟨_,_,yW h a,yW h a,yO _,yO _,by rw [Wt,G6 rfl];exact q⟩
theorem Su {neg:Bool}{Ss:List (List Nat)}{a:Addr}(ha:h a=some (Ss.map jt))(q:Q (.bl (neg !=decide (S∈Ss))) h):inE neg (jt S) (.lst a) h Q:=by
 refine⟨Ph S,Ss.map Ph,yW h S,.inl ⟨a,_,rfl,ha,Vj h Ss⟩,Jg _,JR Ss,R1 (Vk _) (by decide),?_⟩;have e:((Ss.map Ph).any λz=>PyData.eqv z (Ph S))=decide (S∈Ss):=by
  rw [B3,G1A,G0Y,E7];constructor
  ·rintro ⟨x,hx,e⟩;have:x=S:=by simpa [V2,Wt] using e
   rw [<-this];exact hx
  ·intro hi;exact⟨S,hi,by simp [V2,Wt]⟩
 rw [e];exact q
theorem Sv {Ss:List (List Nat)}{a:Addr}(ha:h a=some (Ss.map jt))(hS:S∈Ss)(hl:Ss.length<=1000)(q:Q (.int ((Ss.idxOf S:Nat):Int)) h):
 ∃ (p:PyData) (ps:List PyData) (j:Nat) (z:PyData),ToP h (.lst a) (.list ps)/\ToP h (jt S) p/\p.canLay0=true/\PyData.canLayAll0 ps=true/\p.depth<=60/\j<1000000/\ps[j]? =some z/\PyData.eqv z p=true/\(∀m y,m<j->ps[m]? =some y->PyData.eqv y p=false)/\Q (.int (j:Int)) h:=by
 have hj:=A7.mpr hS;refine⟨Ph S,Ss.map Ph,Ss.idxOf S,Ph S,⟨a,_,rfl,ha,Vj h Ss⟩,yW h S,Jg _,JR Ss,R1 (Vk _) (by decide),by omega,?_,by rw [Wt,G6 rfl],λm y hm hy=> ?_,q⟩
 ·rw [P3,G1 hj,J4 hj];rfl
 ·rw [P3] at hy;have hml:m<Ss.length:=by omega
  rw [G1 hml] at hy;cases hy;rw [Wt];have:=List.not_of_lt_findIdx (p:=(· ==S)) (xs:=Ss) hm;simpa using this
theorem BV {α:Type}{f:Nat->α}{L:Nat}(h:1<=L):atI ((List.range L).map f) (-1)=some (f (L-1)):=by
 unfold atI ixN;rw [G0,P4,if_neg (by decide),if_pos (by omega)];show ((List.range L).map f)[(-1+(L:Int)).toNat]? =_;rw [show (-1+(L:Int)).toNat=L-1 by omega,P3,N4 (by omega)];rfl
theorem PD {α:Type}{f:Nat->α}{L:Nat}(h:i<L):atI ((List.range L).map f) (i:Int)=some (f i):=
 wW (by rw [P3,N4 h];rfl)
theorem Sw (xs:List α):Wm xs (some 1) none=xs.drop 1:=by
 unfold Wm;cases xs with
 |nil=>simp
 |cons x xs=>simp [HT.sIx]
theorem BW (S:List Nat):LL (S.map λ(k:Nat)=>D.int (k:Int)) (Wm (S.map λ(k:Nat)=>D.int (k:Int)) (some 1) none)=(S.zip (S.drop 1)).map λp=>D.tup [.int (p.1:Int),.int (p.2:Int)]:=by
 rw [Sw];unfold LL;rw [<-G1w,List.zip_map,T5];rfl
theorem Rl: ∀ {S:List Nat},S.Pairwise (· < ·)-> ∀p∈S.zip (S.drop 1),p.1<p.2
 | [],_,p,hp=>by simp at hp
 | [a],_,p,hp=>by simp at hp
 |a::b::l,h,p,hp=>by
  have h':=J5.mp h;rcases R0.mp (show p∈(a,b)::(b::l).zip ((b::l).drop 1) from hp) with e|e
  ·subst e;exact h'.1 b D9
  ·exact Rl h'.2 p e
theorem LX {js:List Nat}{ta:TAD}{tt:TTD}{te:TED}{σ:SD}{h1:HD}(n:Nat)(W:Nat->List D->HD->Prop)(hn:n<=1000)(ht: ∀R:List D->HD->Prop,R [.int (n:Int)] h1->ta σ h R)
 (w0:W 0 [] h1)(wl: ∀k ys h',W k ys h'->ys.length<=k)(turn: ∀k ys h',k<n->W k ys h'->tt ((jX js σ).set i (some (.int (k:Int)))) h' λb h3=>if b=true then te ((jX js σ).set i (some (.int (k:Int)))) h3 λy h4=> ∃h5,Sub h5 h4/\(k+1<=n/\W (k+1) (ys++ [y]) h5) else ∃h5,Sub h5 h3/\(k+1<=n/\W (k+1) ys h5))
 (done: ∀ys h',W n ys h'->Q (.tup ys) h'):dCB Jx (yI (JL (bN i) js (iR1 ta) tt te) Xc) σ h Q:=by
 show JL (bN i) js (iR1 ta) tt te σ h (λx h1=>Jx [x] h1 Q);exact Sn n W hn ht w0 wl turn λys h' w p hp=>(show ∃zs,wq h' p ys p=some zs/\Q (.tup zs) (Xa (wq h' p ys) p) from ⟨_,jd,by rw [wf hp];exact done ys h' w⟩)
def RP (n:Nat)(T:List (List Int))(k i j:Nat):Prop:=ent (UD n T k) i j≠0
section
variable {n e:Nat}{T:List (List Int)}
theorem WR (h:Sq n e T)(hn:n<=8)(a b:Nat){i j:Nat}(hi:i<n)(hj:j<n):RP n T (a+b) i j↔ ∃k,k<n/\RP n T a i k/\RP n T b k j:=by
 unfold RP;rw [pow_add h hn a b];exact QJ (h.pow hn a) (h.pow hn b) hi hj
theorem yA {i j:Nat}(hi:i<n)(hj:j<n):RP n T 0 i j↔i=j:=by
 unfold RP;show ent (QF n) i j≠0↔_;unfold QF;rw [yL hi hj]
 by_cases z:i=j
 ·simp [z]
 ·simp [z]
theorem AB (h:Sq n e T)(hn:n<=8): ∀ (m:Nat) {i j:Nat},i<n->j<n->RP n T m i j-> ∃v:Nat->Nat,v 0=i/\v m=j/\(∀t,t<=m->v t<n)/\ ∀t,t<m->RP n T 1 (v t) (v (t+1))
 |0,i,j,hi,hj,r=>by
  have:=(yA hi hj).mp r;exact⟨λ_=>i,rfl,this,λ_ _=>hi,λt ht=>by omega⟩
 |m+1,i,j,hi,hj,r=>by
  obtain⟨k,hk,r1,r2⟩:=(WR h hn m 1 hi hj).mp r;obtain⟨v,v0,vm,vl,vr⟩:=AB h hn m hi hk r1;refine⟨λt=>if t<=m then v t else j,?_,?_,λt _=> ?_,λt ht=> ?_⟩
  ·simp [v0]
  ·show (if m+1<=m then v (m+1) else j)=j;rw [if_neg (by omega)]
  ·show (if t<=m then v t else j)<n;split
   ·exact vl t (by assumption)
   ·exact hj
  ·show RP n T 1 (if t<=m then v t else j) (if t+1<=m then v (t+1) else j);rw [if_pos (by omega)]
   by_cases z:t+1<=m
   ·rw [if_pos z];exact vr t (by omega)
   ·rw [if_neg z,show t=m by omega,vm];exact r2
theorem Xr (h:Sq n e T)(hn:n<=8){m:Nat}{v:Nat->Nat}(vl: ∀t,t<=m->v t<n)(vr: ∀t,t<m->RP n T 1 (v t) (v (t+1)))(a:Nat): ∀b,a+b<=m->RP n T b (v a) (v (a+b))
 |0,hb=>(yA (vl a (by omega)) (vl a (by omega))).mpr rfl
 |b+1,hb=>(WR h hn b 1 (vl a (by omega)) (vl _ hb)).mpr ⟨v (a+b),vl _ (by omega),Xr h hn vl vr a b (by omega),vr (a+b) (by omega)⟩
end
structure Grid (n:Nat)(h0 h:HD)(p R:Addr)(rs:List Addr):Prop where
 at_:h R=some (rs.map D.lst)
 len:rs.length=n
 nR:R ∉ rs
 fR:h0 R=none
 np:p ∉ rs
 nRp:R≠p
 row: ∀a∈rs,h0 a=none/\ ∃r,h a=some (r.map D.int)/\Xm n r
theorem Sx {js:List Nat}{ti:TID}{te:TED}{σ:SD}{h1:HD}(ds:List D)(W:Nat->List D->HD->Prop)(hn:ds.length<=1000)(ht: ∀R:ItD->HD->Prop,R (λ_=>some ds) h1->ti σ h R)
 (w0:W 0 [] h1)(wl: ∀k ys h',W k ys h'->ys.length<=k)(turn: ∀k ys h' d,ds[k]? =some d->W k ys h'->te ((jX js σ).set i (some d)) h' λy h4=> ∃h5,Sub h5 h4/\(k+1<=ds.length/\W (k+1) (ys++ [y]) h5))
 (done: ∀ys h',W ds.length ys h'-> ∀p,h' p=none->Q (.lst p) (wq h' p ys)):JL (bN i) js ti YT te σ h Q:=by
 refine ht _ ⟨ds.length,λk ys h'=>k<=ds.length/\W k ys h',⟨S8 _,w0⟩,?_⟩;rintro k ys h' ⟨hk,w⟩;refine⟨R1 (wl k ys h' w) (D5 (jE (by omega))),ds,rfl,P1 _,λhl p hp=> ?_,λd hd=>⟨_,rfl,?_⟩⟩
 ·have:k=ds.length:=by omega
  subst this;exact done _ _ w p hp
 ·unfold YT;dsimp only;rw [if_pos rfl];exact turn k ys h' d hd w
theorem Xs (h:i<n):ixN n (i:Int)=some i:=by
 unfold ixN;simp;omega
theorem call_divmodB {X:Cx}:CallR X (.builtin "divmod") (λxs H Q=> ∃i j,xs= [.int i,.int j]/\(0<j/\j<2^200)/\ ∀p,H p=none->Q (.ref p) (upd H p (.tup [.int (i / j),.int (i%j)]))):=by
 intro pins s σ H xs us Q I r h;obtain⟨i,j,rfl,⟨h1,h2⟩,q⟩:=h;obtain⟨u,w',rfl,⟨t,rfl⟩,⟨t',rfl⟩⟩:=FV r;refine divmod_int (by omega) ?_ (.inl (PyProof.noPylong_of_log2 ?_))
 ·rw [G0o i (by omega),G0p i (by omega)];have hn:H s.heap.objs.size=none:=I.hok.fresh (P1 _);refine⟨.ref s.heap.objs.size,_,?_,rfl,q _ hn⟩;refine I.laid (λb o e=>G2 _ e) (P1 _) ⟨by simp only [P9,T4];rw [G1p];decide,[.int (i / j) s.toks,.int (i%j) (s.toks+1)],.cons ⟨_,rfl⟩ (.cons ⟨_,rfl⟩ .nil),?_⟩;exact⟨_,D6 s.heap rfl,rfl,rfl,0,rfl⟩
 ·have h3:j.natAbs<2^200:=BE (by omega) h2;have h4:=(Nat.log2_lt (by omega:j.natAbs≠0)).mpr h3;omega
def Sy:RDn:=λds h Q=> ∃i j:Int,ds= [.int i,.int j]/\(0<j/\j<2^200)/\Q (.tup [.int (i / j),.int (i%j)]) h
theorem Mo {X:Cx}:vJ X (.builtin "divmod") Sy:=call_divmodB.imp λxs H Q ⟨ds,h,Qd,r,rh,⟨i,j,e,c,q⟩,p⟩=>by
 subst e;obtain⟨v,w,e,r1,r2⟩:=yJ r;cases (show v= .int i from r1);cases (show w= .int j from r2);exact⟨i,j,e,c,λa ha=>p (.tup [.int (i / j),.int (i%j)]) _ _ _ (.new ha) (rh.new ha) ⟨a,_,rfl,jz,.cons rfl (.cons rfl .nil)⟩ q⟩
def jU (d:D)(a b:Int):Bool:=match d with
 | .int x=>decide (a<=x)&&decide (x<=b)
 |_=>false
def wD (d:D)(m:Int):Bool:=match d with
 | .tup es=>es.all λx=>jU x 0 (m-1)
 |_=>false
def qp (d:D)(m lo hi:Int):Bool:=match d with
 | .tup es=>(es.all λx=>jU x 0 (m-1))&&(decide (lo<=(es.length:Int))&&decide ((es.length:Int)<=hi))
 |_=>false
def Mp:D->Nat
 | .int x=>x.toNat
 |_=>0
def yp:D->List Nat
 | .tup es=>es.map Mp
 |_=> []
theorem LY {d:D}{m:Nat}{lo hi:Int}(h:qp d m lo hi=true):d=jt (yp d)/\(∀i∈yp d,i<m)/\lo<=((yp d).length:Int)/\((yp d).length:Int)<=hi:=by
 cases d with
 |tup es=>
  simp only [qp,S5,R7,E7] at h;obtain⟨h1,h2,h3⟩:=h;have key: ∀x∈es,x= .int ((Mp x:Nat):Int)/\Mp x<m:=λx hx=>by
   have:=h1 x hx;cases x with
   |int y=>
    simp only [jU,S5,E7] at this;refine⟨by show D.int y=D.int ((y.toNat:Nat):Int);rw [G0j this.1],by show y.toNat<m;omega⟩
   |_=>exact Bool.noConfusion this
  refine⟨?_,λi hi=> ?_,by simpa [yp] using h2,by simpa [yp] using h3⟩
  ·show D.tup es=D.tup ((es.map Mp).map λ(k:Nat)=>D.int (k:Int));rw [T5]
   congr 1
   conv=>lhs;rw [<-G0k es]
   exact S9 λx hx=>(key x hx).1
  ·obtain⟨x,hx,e⟩:=D1.mp hi;rw [<-e];exact(key x hx).2
 |_=>exact Bool.noConfusion h
end L2
set_option maxRecDepth 35000
namespace L2
open PySem PySem.Spec PyProof.Rows PySem.SeqAt
theorem UF {d:D}{m:Nat}(h:wD d m=true):d=jt (yp d)/\ ∀i∈yp d,i<m:=by
 cases d with
 |tup es=>
  have:=LY (d:= .tup es) (m:=m) (lo:=0) (hi:=(es.length:Int)) (by
   show ((es.all λx=>jU x 0 ((m:Int)-1))&&(decide ((0:Int)<=(es.length:Int))&&decide ((es.length:Int)<=(es.length:Int))))=true;rw [show (es.all λx=>jU x 0 ((m:Int)-1))=true from h,G6 (by omega),G6 (by omega)];rfl)
  exact⟨this.1,this.2.1⟩
 |_=>exact Bool.noConfusion h
def Yh (T:List (List Int))(W:List Nat):Bool:= !W.isEmpty&&(W.zip (W.drop 1)).all λp=>decide (ent T p.1 p.2>0)
def Ug (T:List (List Int))(n:Nat)(d:D):Bool:=wD d n&&Yh T (yp d)
section
variable {α:Type}{i i':Nat}{js:List Nat}{ti:TID}{te:TED}{σ:SD}{h:HD}{Q:KD}{j:ItD}
theorem jaq (xs:List α)(c c' g:α->D)(p:α->Bool){tt:TTD}(hz:xs.length<=1000)(hj:j h=some (xs.map λx=> .tup [c x,c' x]))(ht: ∀R:ItD->HD->Prop,R j h->ti σ h R)
 (hp: ∀x∈xs,∀Q':Bool->HD->Prop,Q' (p x) h->tt (((jX js σ).set i (some (c x))).set i' (some (c' x))) h Q')(he: ∀x∈xs,p x=true-> ∀Q':KD,Q' (g x) h->te (((jX js σ).set i (some (c x))).set i' (some (c' x))) h Q')(hq: ∀a,h a=none->Q (.lst a) (wq h a ((xs.filter p).map g))):JL (b2 i i') js ti tt te σ h Q:=by
 refine ht _ ⟨xs.length,λk ys h'=>h'=h/\ys=((xs.take k).filter p).map g,⟨rfl,by simp⟩,?_⟩;rintro k ys h' ⟨rfl,rfl⟩;refine⟨?_,_,hj,by simp,λhl a ha=> ?_,λd hd=> ?_⟩
 ·have:=C5 p (xs.take k);simp only [G0,D4] at this ⊢;exact D5 (jE (by omega))
 ·rw [R3 (by simpa using hl)];exact hq a ha
 ·rw [P3] at hd;cases hx:xs[k]? with
  |none=>rw [hx] at hd;cases hd
  |some x=>
   rw [hx] at hd;cases hd;refine⟨_,⟨_,_,rfl,rfl⟩,?_⟩;refine hp x (G8 hx) _ ?_;cases hb:p x with
   |true=>
    rw [if_pos rfl];refine he x (G8 hx) hb _ ⟨_,Sub.refl _,rfl,?_⟩;rw [N6,hx];simp [hb]
   |false=>
    rw [if_neg (by decide)];refine⟨_,Sub.refl _,rfl,?_⟩;rw [N6,hx];simp [hb]
end
def Pi (T:List (List Int))(n p:Nat):List Nat:=(List.range n).filter λj=>decide (ent T p j>0)
def cnt (T:List (List Int))(n o:Nat):Nat->Nat->Int
 |0,p=>if p=o then 1 else 0
 |t+1,p=>((Pi T n p).map (cnt T n o t)).sum
section
variable {T:List (List Int)}{n o:Nat}
theorem KO {p j:Nat}(h:j∈Pi T n p):j<n:=D2.mp (M5.mp h).1
theorem Sz (p:Nat):(Pi T n p).length<=n:=by
 have:=C5 (λj=>decide (ent T p j>0)) (List.range n)
 rwa [P4] at this
def jar (T:List (List Int))(n o t p:Nat):Nat:=(Pi T n p).findIdx λj=>decide (cnt T n o t j>0)
def nxt (T:List (List Int))(n o t p:Nat):Nat:=(Pi T n p).getD (jar T n o t p) 0
end
theorem LZ {α:Type}{xs:List α}{x:α}(h1:1<=xs.length)(h:xs[xs.length-1]? =some x):atI xs (-1)=some x:=by
 unfold atI ixN;rw [if_neg (by decide),if_pos (by omega)];show xs[(-1+(xs.length:Int)).toNat]? =_;rw [show (-1+(xs.length:Int)).toNat=xs.length-1 by omega];exact h
end L2
namespace L2
open PySem PySem.Spec PyProof.Rows PySem.W
abbrev TXD:=SD->HD->(Str->HD->Prop)->Prop
abbrev RDx:=List D->HD->(Str->HD->Prop)->Prop
abbrev N1:List Str:= ["_law_call","_law_found","_law_e","_law_word"]
end L2
namespace L2
open PySem PySem.Spec PyProof.Rows PySem.SeqAt
section
variable {n e:Nat}{T:List (List Int)}
instance (k i j:Nat):Decidable (RP n T k i j):=inferInstanceAs (Decidable (ent (UD n T k) i j≠0))
end
end L2
namespace L2
open PySem PySem.Spec PyProof.Rows
def TrV (K:PySem.W.Frag)(H:Hp):V->Bool->Prop
 | .bl b,c=>c=b
 | .int i,c=>c=(i !=0)
 | .non,c=>c=false
 | .ref a,c=> ∃xs,SqL K H a xs/\c= !xs.isEmpty
 |_,_=>False
def TrD (h:HD):D->Bool->Prop
 | .bl b,c=>c=b
 | .int i,c=>c=(i !=0)
 | .non,c=>c=false
 | .lst a,c=> ∃ds,h a=some ds/\c= !ds.isEmpty
 |_,_=>False
theorem TrD.to {K:PySem.W.Frag}{H:Hp}{h:HD}{d:D}{v:V}{c:Bool}(t:TrD h d c)(r:RelD K H d v)(rh:RelH K h H):TrV K H v c:=by
 cases d<;>try exact t.elim
 ·have e:v= .non:=r;subst e;exact t
 ·have e:v= .bl _:=r;subst e;exact t
 ·have e:v= .int _:=r;subst e;exact t
 ·obtain⟨e,_⟩:=r;subst e;obtain⟨ds,hd,e⟩:=t;obtain⟨vs,hv,r'⟩:=rh _ ds hd;refine⟨vs,SqL.of hv,?_⟩;rw [e];have:=r'.length;cases ds<;>cases vs<;>first|rfl|(simp at this)
section
variable {X:Cx}{pins:List (Addr×Obj)}{σ:St}{H:Hp}{s:Shared}{E:Value->Shared->Prop}
theorem Inv.trv {v:V}{u:Value}{c:Bool}{Q:Bool->Shared->Prop}(I:Inv X pins σ H s)(r:RelV v u)(t:TrV X.K H v c)(q: ∀s',Inv X pins σ H s'->Q c s'):wpAny (model X.prog X.w) X.A (truthy u) Q E s:=by
 cases v<;>try exact t.elim
 ·have e:u=Value.none:=r;subst e;have e:c=false:=t;subst e;exact truthy_none (q _ I)
 ·have e:u=Value.bool _:=r;subst e;have e:c=_:=t;subst e;exact B0 (q _ I)
 ·obtain⟨t',e⟩:=r;subst e;have e:c=_:=t;subst e;exact truthy_int (q _ I)
 ·have e:u=Value.ref _:=r;subst e;obtain⟨xs,hx,e⟩:=t;obtain⟨its,rv,p,hz⟩:=I.list hx;have hl:=rv.length;have e2:c= !its.toArray.isEmpty:=by
   rw [e];cases xs<;>cases its<;>first|rfl|(simp at hl)
  refine wpAny_truthy_list p.isList ?_ ?_
  ·have:xs.length<=16777216:=R1 hz (by decide);simp only [D0];have e3:((2:Int)^63)=9223372036854775808:=by decide
   rw [e3];omega
  ·rw [<-e2];exact q _ (I.tok _)
end
section
variable {X:Cx}{a b:Expr}{rest:List Expr}{pos:Pos}
def qr (K:PySem.W.Frag)(t:TE):TT:=λσ H Q=>t σ H λx H1=> ∃c,TrV K H1 x c/\Q c H1
theorem KP {e:Expr}{t:TE}(h:PE X e t)(he: ∀whole,isTrue e X.env whole=(do let v <-whole;standAt e.pos;holding [v] (truthy v)):=by intro _;rfl):PT X e (qr X.K t):=by
 intro pins s σ H Q I hw;refine isTrue_plain (thn (h pins s σ H _ I hw) λv s1 ⟨x,H1,I1,r1,q1⟩=> ?_) (he _);obtain⟨c,t1,q⟩:=q1;exact I1.trv r1 t1 λs' I'=>⟨H1,I',q⟩
def qt (t:TED):TTD:=λσ h Q=>t σ h λx h1=> ∃c,TrD h1 x c/\Q c h1
variable {K:PySem.W.Frag}
theorem KQ {t:TED}: ∀σ H Q,LT K (qt t) σ H Q->qr K (LE K t) σ H Q:=λσ H Q ⟨σd,h,Qd,rs,rh,t,p⟩=>
 LE.bind rs rh t λd v h1 H1 k1 rs1 rh1 r1 ⟨k,e,q⟩=>⟨k,e.to r1 rh1,p k h1 H1 k1 rh1 q⟩
theorem xr {ta:TED}(ha:JE X a ta)(he: ∀whole,isTrue a X.env whole=(do let v <-whole;standAt a.pos;holding [v] (truthy v)):=by intro _;rfl):JT X a (qt ta):=⟨(KP ha.to he).imp KQ⟩
end
end L2
namespace L2
open PySem PySem.Spec PyProof.Rows PySem.SeqAt
section
variable {n e:Nat}{T:List (List Int)}
theorem JU (h:Sq n e T)(hn:n<=8){a b i j k:Nat}(hi:i<n)(hk:k<n)(hj:j<n)(x:RP n T a i k)(y:RP n T b k j):RP n T (a+b) i j:=(WR h hn a b hi hj).mpr ⟨k,hk,x,y⟩
theorem PF (h:Sq n e T)(hn:n<=8){c:Nat->Nat}(cl: ∀t,c t<n)(st: ∀t,RP n T 1 (c t) (c (t+1)))(t:Nat): ∀s,RP n T s (c t) (c (t+s))
 |0=>(yA (cl t) (cl t)).mpr rfl
 |s+1=>JU h hn (cl _) (cl (t+s)) (cl _) (PF h hn cl st t s) (st (t+s))
theorem vM (h:Sq n e T)(hn:n<=8){i j:Nat}:RP n T 1 i j↔ent T i j≠0:=by unfold RP;rw [BG h hn]
end
structure GQ (n:Nat)(h0 h:HD)(p R:Addr)(rs:List Addr)(f:Nat->Nat->Int):Prop where
 at_:h R=some (rs.map D.lst)
 len:rs.length=n
 nR:R ∉ rs
 nd:rs.Nodup
 fR:h0 R=none
 np:p ∉ rs
 Rp:R≠p
 row: ∀i a,rs[i]? =some a->h0 a=none/\h a=some ((List.range n).map λj=>D.int (f i j))
 nn: ∀i j,0<=f i j/\f i j<=1000000
def xt:D->Int
 | .int x=>x
 |_=>0
section
variable {n:Nat}{h0 h:HD}{p R:Addr}{rs:List Addr}{f:Nat->Nat->Int}
theorem GQ.of_grid (g:Grid n h0 h p R rs)(nd:rs.Nodup): ∃f,GQ n h0 h p R rs f:=by
 have one: ∀i a,rs[i]? =some a-> ∃r,h a=some (r.map D.int)/\Xm n r:=λi a ha=>(g.row a (G8 ha)).2
 have val: ∀i a (r:List Int),rs[i]? =some a->h a=some (r.map D.int)-> ∀j,xt (((h (rs.getD i 0)).getD []).getD j (.int 0))=r.getD j 0:=λi a r ha hr j=>by
  rw [show rs.getD i 0=a by rw [G3,ha];rfl,hr];show xt ((r.map D.int).getD j (.int 0))=_;rw [G3,G3,P3];cases r[j]? <;>rfl
 refine⟨λi j=>if i<rs.length then xt (((h (rs.getD i 0)).getD []).getD j (.int 0)) else 0,g.at_,g.len,g.nR,nd,g.fR,g.np,g.nRp,λi a ha=>⟨(g.row a (G8 ha)).1,?_⟩,λi j=> ?_⟩
 ·obtain⟨r,hr,gr⟩:=one i a ha;have hi:=(G7.mp ha).1;rw [hr]
  congr 1
  conv=>lhs;rw [wQ r 0,gr.1,T5]
  refine S9 λj _=> ?_
  show D.int (r.getD j 0)=D.int (if i<rs.length then _ else 0);rw [if_pos hi,val i a r ha hr j]
 ·by_cases hi:i<rs.length
  ·show 0<=(if i<rs.length then _ else (0:Int))/\_;rw [if_pos hi];have ha:=G1 hi;obtain⟨r,hr,gr⟩:=one i _ ha;rw [val i _ r ha hr j];rw [G3];cases hj:r[j]? with
   |none=>exact⟨G1H _,by decide⟩
   |some x=>exact gr.2 x (G8 hj)
  ·show 0<=(if i<rs.length then _ else (0:Int))/\(if i<rs.length then _ else (0:Int))<=_;rw [if_neg hi];exact⟨G1H _,by decide⟩
theorem GQ.pen (g:GQ n h0 h p R rs f)(ds:List D):GQ n h0 (wq h p ds) p R rs f:=
 ⟨jH g.Rp g.at_,g.len,g.nR,g.nd,g.fR,g.np,g.Rp,λi a ha=>⟨(g.row i a ha).1,jH (λz=>g.np (z ▸ G8 ha)) (g.row i a ha).2⟩,g.nn⟩
theorem GQ.put (g:GQ n h0 h p R rs f){i j:Nat}{a:Addr}{v:Int}(ha:rs[i]? =some a)(v0:0<=v)(v1:v<=1000000):GQ n h0 (wq h a (((List.range n).map λj=>D.int (f i j)).set j (.int v))) p R rs (λx y=>if x=i/\y=j then v else f x y):=by
 have hm:=G8 ha;refine⟨jH (λz=>g.nR (z ▸ hm)) g.at_,g.len,g.nR,g.nd,g.fR,g.np,g.Rp,λx b hb=>⟨(g.row x b hb).1,?_⟩,λx y=> ?_⟩
 ·by_cases z:b=a
  ·subst z;have hx:i=x:=(List.getElem?_inj (G7.mp ha).1 g.nd).mp (ha.trans hb.symm);subst hx;rw [jd];congr 1;apply Q4
   ·simp
   ·intro m h1 h2;rw [List.getElem_set];simp only [Z5,W8]
    by_cases e:j=m
    ·subst e;simp
    ·rw [if_neg e,if_neg (λz=>e z.2.symm)]
  ·rw [jH z (g.row x b hb).2];congr 1;refine S9 λy _=> ?_
   have: ¬(x=i/\y=j):=λw=>z (by obtain⟨w1,_⟩:=w;subst w1;rw [ha] at hb;injection hb with hb;exact hb.symm)
   rw [if_neg this]
 ·show 0<=(if x=i/\y=j then v else f x y)/\(if x=i/\y=j then v else f x y)<=1000000;split
  ·exact⟨v0,v1⟩
  ·exact g.nn x y
theorem GQ.pick (g:GQ n h0 h p R rs f){i:Nat}(hi:i<n): ∃a,rs[i]? =some a/\atI (rs.map D.lst) (i:Int)=some (.lst a)/\h a=some ((List.range n).map λj=>D.int (f i j))/\h0 a=none/\a≠p:=by
 have hi':i<rs.length:=by rw [g.len];exact hi
 have ha:=G1 hi';exact⟨rs[i],ha,wW (by rw [P3,ha];rfl),(g.row i _ ha).2,(g.row i _ ha).1,λz=>g.np (z ▸ R8 hi')⟩
theorem GQ.tab (g:GQ n h0 h p R rs f):(rs.map λa=>D.tup ((h a).getD []))=(List.range n).map λi=>D.tup ((List.range n).map λj=>D.int (f i j)):=by
 apply Q4
 ·simp [g.len]
 ·intro m h1 h2;simp only [Z5,W8];have hm:m<rs.length:=by simpa using h1
  rw [(g.row m rs[m] (G1 hm)).2];rfl
end
theorem GoodTab.of_mk {n:Nat}{f:Nat->Nat->Int}(nn: ∀i j,0<=f i j/\f i j<=1000000):GoodTab n (mkT n f):=by
 refine⟨by unfold mkT;rw [List.length_map,List.length_range],λr hr=> ?_⟩;obtain⟨i,_,rfl⟩:=D1.mp hr;refine⟨by rw [G0,P4],λx hx=> ?_⟩;obtain⟨j,_,rfl⟩:=D1.mp hx;exact nn i j
theorem Rm {n:Nat}{o:List Nat}(ho:Ordr n o){i:Nat}(hi:i<n):o.getD i 0<n/\atI (o.map λ(k:Nat)=>D.int (k:Int)) (i:Int)=some (.int ((o.getD i 0:Nat):Int)):=by
 have hi':i<o.length:=by rw [ho.ord.len];exact hi
 rw [G3,G1 hi'];exact⟨D2.mp (ho.mem_iff.mp (R8 hi')),wW (by rw [P3,G1 hi'];rfl)⟩
end L2
namespace HT
open PySem PySem.Spec PyProof.Rows
variable {j:Nat}
theorem Xt {xs:Array Nat}(r:xs.toList.Pairwise (· < ·)): ∀ (fuel lo hi:Nat),hi-lo<=fuel->hi<=xs.size->lo<=hi->(∀i,i<lo-> ∀v,xs[i]? =some v->v<j)->(∀i,hi<=i-> ∀v,xs[i]? =some v->j<=v)->
 (∀i,i<SetTable.below.go xs j fuel lo hi-> ∀v,xs[i]? =some v->v<j)/\(∀i,SetTable.below.go xs j fuel lo hi<=i-> ∀v,xs[i]? =some v->j<=v)/\SetTable.below.go xs j fuel lo hi<=xs.size
 |0,lo,hi,f,hs,lh,a,b=>by
  have:lo=hi:=by omega
  subst this;exact⟨a,b,hs⟩
 |fuel+1,lo,hi,f,hs,lh,a,b=>by
  unfold SetTable.below.go
  by_cases c:lo<hi
  ·rw [if_pos c];have hm:(lo+hi) / 2<xs.size:=by omega
   have mono: ∀ (i k u v:Nat),i<=k->xs[i]? =some u->xs[k]? =some v->u<=v:=λi k u v ik e1 e2=>by
    rcases H0 i k with z|z
    ·have i1:=(O5.mp e1);have i2:=(O5.mp e2);obtain⟨h1,e1'⟩:=i1;obtain⟨h2,e2'⟩:=i2;have:=A4.mp r i k (by simpa using h1) (by simpa using h2) z;simp only [G1i] at this;omega
    ·have:i=k:=by omega
     subst this;rw [e1] at e2;cases e2;exact P1 _
   have em:xs.getD ((lo+hi) / 2) j=xs[(lo+hi) / 2]:=by simp [Array.getD,hm]
   dsimp only
   by_cases d:xs.getD ((lo+hi) / 2) j<j
   ·rw [if_pos d];refine Xt r fuel _ hi (by omega) hs (by omega) (λi hi' v hv=> ?_) b;have:=mono i ((lo+hi) / 2) v xs[(lo+hi) / 2] (by omega) hv (by simp [hm]);omega
   ·rw [if_neg d];refine Xt r fuel lo _ (by omega) (by omega) (by omega) a (λi hi' v hv=> ?_);have:=mono ((lo+hi) / 2) i xs[(lo+hi) / 2] v hi' (by simp [hm]) hv;omega
  ·rw [if_neg c];have:lo=hi:=by omega
   subst this;exact⟨a,b,hs⟩
theorem Oa {xs:Array Nat}(r:xs.toList.Pairwise (· < ·))(j:Nat):(∀i,i<SetTable.below xs j-> ∀v,xs[i]? =some v->v<j)/\(∀i,SetTable.below xs j<=i-> ∀v,xs[i]? =some v->j<=v)/\SetTable.below xs j<=xs.size:=
 Xt r xs.size 0 xs.size (by omega) (P1 _) (S8 _) (λi h=>absurd h (Nat.not_lt_zero _)) (λi h v e=>by rw [G03 h] at e;cases e)
theorem PH {xs:Array Nat}(r:xs.toList.Pairwise (· < ·))(no:xs[SetTable.below xs j]? ≠some j):(SetTable.insertAt xs (SetTable.below xs j) j).toList.Pairwise (· < ·):=by
 obtain⟨a,b,hs⟩:=Oa r j;rw [SetTable.toList_insertAt,R9,J5];have low: ∀v∈xs.toList.take (SetTable.below xs j),v<j:=λv hv=>by
  obtain⟨i,hi⟩:=J9 hv;rw [List.getElem?_take] at hi;split at hi
  ·rename_i c;exact a i c v (by simpa using hi)
  ·cases hi
 have high: ∀v∈xs.toList.drop (SetTable.below xs j),j<v:=λv hv=>by
  obtain⟨i,hi⟩:=J9 hv;rw [J6] at hi;have hi':xs[SetTable.below xs j+i]? =some v:=by simpa using hi
  have le:=b _ (Q6 _ _) v hi';rcases H0 j v with z|z
  ·exact z
  ·have ev:v=j:=by omega
   subst ev;cases i with
   |zero=>exact(no hi').elim
   |succ i=>
    obtain⟨h1,e1⟩:=O5.mp hi';have h0:SetTable.below xs v<xs.size:=by omega
    have le0:=b _ (P1 _) xs[SetTable.below xs v] (by simp [h0]);have lt:=A4.mp r (SetTable.below xs v) (SetTable.below xs v+(i+1)) (by simpa using h0) (by simpa using h1) (by omega);simp only [G1i] at lt;omega
 exact⟨r.sublist (E6 _ _),⟨high,r.sublist (L0 _ _)⟩,λu hu v hv=>by
  rcases R0.mp hv with e|e
  ·rw [e];exact low u hu
  ·exact E4 (low u hu) (high v e)⟩
structure Tab (L:Bool)(n:Nat)(t:SetTable):Prop where
 fits:t.fits n=true
 led:t.led=L
 dum:t.dummies= #[]
 rise:t.plain=true\/n<=1->t.place.toList.Pairwise (· < ·)
theorem Ob {xs:List Nat}(h:xs.length<=1):xs.Pairwise (· < ·):=by
 match xs,h with
 | [],_=>exact .nil
 | [x],_=>exact T9 _ _
variable {t:SetTable}
theorem Mq {n:Nat}(h:t.fits n=true):t.place.size=n:=by
 simp only [SetTable.fits,S5,G1g] at h;exact h.1
variable {L:Bool}
theorem Tab.mk' {n:Nat}(f:t.fits n=true)(l:t.led=L)(d:t.dummies= #[])(r:t.plain=true->t.place.toList.Pairwise (· < ·)):Tab L n t:=
 ⟨f,l,d,λh=>h.elim r λz=>Ob (by have:=Mq f;simpa [this] using z)⟩
theorem Mr (h:t.slot j= .empty):t.place[SetTable.below t.place j]? ≠some j:=λe=>by
 unfold SetTable.slot at h;dsimp only at h;rw [if_pos (by rw [e];exact beq_self_eq_true _)] at h;cases h
theorem Ms (d:t.dummies= #[]):t.slot j≠ .dummy:=λh=>by
 unfold SetTable.slot at h;dsimp only at h;split at h
 ·cases h
 ·rw [d] at h;have:SetTable.has #[] j=false:=by unfold SetTable.has;simp
  rw [this] at h;cases h
theorem Vl {f:Nat->Int}{h:Int}(d:t.dummies= #[]): ∀ (fuel:Nat) (p:SetTable.Probe) {j:Nat} {dm:Option Nat},p.dummy=none->SetTable.probe.go t f h fuel p=some (.empty j dm)->t.slot j= .empty/\dm=none
 |0,p,j,dm,_,e=>by cases e
 |fuel+1,p,j,dm,hp,e=>by
  unfold SetTable.probe.go at e;have adv:(t.advance p).dummy=none:=by
   unfold SetTable.advance;split
   ·exact hp
   ·exact hp
  split at e
  ·rename_i hs;injection e with e;injection e with e1 e2;subst e1;exact⟨hs,by rw [<-e2];exact hp⟩
  ·rename_i hs;exact(Ms d hs).elim
  ·split at e
   ·cases e
   ·exact Vl d fuel _ adv e
variable {es:Array (Int×Value)}
theorem Mt (T:Tab L es.size t)(h:Int)(x:Value):Tab L (layNew t es h x).1.size (layNew t es h x).2.1:=by
 have fit:=layNew_fits t es h x;revert fit;unfold layNew;cases e:t.freeSlot h with
 |none=>intro fit;exact .mk' fit T.led rfl λz=>by cases z
 |some q=>
  obtain⟨slot,wd⟩:=q;intro fit;have ne:t.place[SetTable.below t.place slot]? ≠some slot:=by
   unfold SetTable.freeSlot at e;split at e
   ·rename_i j dm hp;obtain⟨he,hd⟩:=Vl T.dum _ _ rfl hp;injection e with e;injection e with e1 e2
    subst hd;rw [<-e1];exact Mr he
   ·cases e
  refine .mk' fit ?_ ?_ ?_
  ·show (SetTable.orStandIn _ _).led=L;unfold SetTable.orStandIn;split
   ·exact T.led
   ·exact T.led
  ·show (SetTable.orStandIn _ _).dummies= #[];unfold SetTable.orStandIn;split
   ·show (if SetTable.has t.dummies slot then _ else t.dummies)= #[];rw [T.dum];have:SetTable.has #[] slot=false:=by unfold SetTable.has;simp
    rw [this];rfl
   ·rfl
  ·show (SetTable.orStandIn _ _).plain=true->(SetTable.orStandIn _ _).place.toList.Pairwise (· < ·);unfold SetTable.orStandIn;split
   ·intro z;exact PH (T.rise (.inl z)) ne
   ·intro z;cases z
theorem Xu (f:Nat->Option Nat): ∀l:List Nat,((l.filterMap λj=>(f j).map (j,·)).map (·.1)).Sublist l
 | []=> .slnil
 |j::l=>by
  rw [G1o];cases e:(f j).map (j,·) with
  |none=>exact(Xu f l).cons _
  |some q=>
   obtain⟨v,_,rfl⟩:=F5.mp e;exact(Xu f l).cons₂ _
theorem QX (T:Tab L es.size t)(wanted:Nat):Tab L (relayAll t es wanted).1.size (relayAll t es wanted).2.1:=by
 have fit:=relayAll_fits t es wanted;revert fit;unfold relayAll;cases e:t.relaid (es.map (·.1)) wanted with
 |none=>intro fit;exact .mk' fit T.led rfl λz=>by cases z
 |some q=>
  obtain⟨t',order⟩:=q;dsimp only;split
  ·intro fit;unfold SetTable.relaid SetTable.laid at e;cases ho:SetTable.layClean (SetTable.sizeAbove wanted-1) (es.map (·.1)) with
   |none=>rw [ho] at e;cases e
   |some owner=>
    rw [ho] at e;injection e with e;injection e with e1 e2
    subst e1;refine .mk' fit T.led rfl λ_=> ?_
    show List.Pairwise (· < ·) (List.map _ _).toArray.toList;rw [List.toList_toArray];exact List.pairwise_lt_range.sublist (Xu (λj=>owner.getD j none) _)
  ·intro fit;exact .mk' fit T.led rfl λz=>by cases z
abbrev UG (es:Array (Int×Value))(ep:Nat)(t:SetTable):Obj:= {cls:= .type "set",dict:=none,data:= .set es ep t,slots:= #[]}
def AC (e:Int×Value):Int:=match e.2 with
 | .int n _=>n
 |_=>0
structure SetI (L:Bool)(es:Array (Int×Value))(t:SetTable)(ns:List Int):Prop where
 tab:Tab L es.size t
 nums: ∀e∈es.toList,∃n tk,e=(hashInt n,.int n tk)
 nd:(es.toList.map AC).Nodup
 mem: ∀n,n∈es.toList.map AC↔n∈ns
theorem Jh: ∀ {xs ys:List Int},xs.Nodup->(∀x∈xs,x∈ys)->xs.length<=ys.length
 | [],_,_,_=>S8 _
 |x::xs,ys,nd,h=>by
  have hx:=h x (.head _);obtain⟨n1,n2⟩:=L6.mp nd;have:=Jh (ys:=ys.erase x) n2 λy hy=>(U7 (λ(e:y=x)=>n1 (by rw [<-e];exact hy))).mpr (h y (.tail _ hy))
  rw [K9 hx] at this;have:=X6 hx;rw [P9];omega
variable {ns:List Int}
theorem SetI.size (S:SetI L es t ns):es.size<=ns.length:=by
 have h:=Jh S.nd λn hn=>(S.mem n).mp hn
 simpa using h
theorem SetI.els (S:SetI L es t ns)(prog:Program)(w:World):ElemsOf (intKind prog w) es.toList:=λe he=>by
 obtain⟨n,tk,rfl⟩:=S.nums e he;exact⟨⟨n,by simp [intKind,Value.isInt],rfl⟩,rfl⟩
theorem SetI.perm {es':Array (Int×Value)}{t':SetTable}(S:SetI L es t ns)(p:es'.toList.Perm es.toList)(T:Tab L es'.size t'):SetI L es' t' ns:=
 ⟨T,λe he=>S.nums e (p.mem_iff.mp he),(p.map AC).nodup_iff.mpr S.nd,λn=>((p.map AC).mem_iff).trans (S.mem n)⟩
theorem SetI.push {es':Array (Int×Value)}{t':SetTable}{n:Int}{tk:Tok}(S:SetI L es t ns)(hn:n ∉ ns)(p:es'.toList.Perm (es.push (hashInt n,.int n tk)).toList)(T:Tab L es'.size t'):SetI L es' t' (n::ns):=by
 have pk:=p.map AC;rw [O8,T6] at pk;refine⟨T,λe he=> ?_,pk.nodup_iff.mpr ?_,λm=>(pk.mem_iff).trans ?_⟩
 ·have:=p.mem_iff.mp he;rw [O8] at this;rcases P6.mp this with z|z
  ·exact S.nums e z
  ·exact⟨n,tk,G5.mp z⟩
 ·rw [A0];refine⟨S.nd,by simp,λx hx y hy e=> ?_⟩;have:y=n:=by simpa [AC] using hy
  subst this;subst e;exact hn ((S.mem _).mp hx)
 ·rw [P6,S.mem m];simp [AC,or_comm]
section
variable {prog:Program}{w:World}{A:Around}{E:Value->Shared->Prop}{s:Shared}{a:Addr}{L:Bool}{es:Array (Int×Value)}{ep:Nat}{t:SetTable}{ns:List Int}{n:Int}{tk:Tok}
theorem BX {Q:Bool->Shared->Prop}(S:SetI L es t ns)(ho:s.heap.get? a=some (UG es ep t))(few:ns.length<1000)
 (k: ∀b es' ep' t' h',SetI L es' t' (n::ns)->h'.get? a=some (UG es' ep' t')->Heap.SameBut a s.heap h'->Q b {s with heap:=h',toks:=s.toks+1}):wpAny (model prog w) A (setAdd a (.int n tk)) Q E s:=by
 have sz:=S.size;have is:(intKind prog w).is n (.int n tk)=true:=by simp [intKind,Value.isInt]
 have scan:byScan (.int n tk) es=true:=byScan_of (knd:=intKind prog w) rfl (W4 sz (E4 few (by decide))) (S.els prog w);refine C0 (wpAny_bind (wpAny_pyHash_int (C0 ?_)));show wpAny _ _ (setAddHashedIn a (.int n tk) (hashInt n) (99999+1)) _ _ _;unfold setAddHashedIn;refine wpAny_bind (wpAny_setState_of (s:= {s with toks:=s.toks+1}) ho rfl S.tab.fits ?_);dsimp only;rw [if_pos scan];refine wpAny_bind ?_;unfold setAddByScan;refine wpAny_bind (X7 (wpAny_bind (wpAny_setScan_of (s:= {s with toks:=s.toks+1}) (knd:=intKind prog w) is ho rfl S.tab.fits (S.els prog w) ?_)));have none_iff:es.toList.findIdx? (λe=>(intKind prog w).is n e.2)=none↔n ∉ ns:=by
  rw [List.findIdx?_eq_none_iff,<-S.mem n];constructor
  ·intro z hn;obtain⟨e,he,ek⟩:=D1.mp hn;obtain⟨m,tk',rfl⟩:=S.nums e he;have:m=n:=ek;subst this;have:=z _ he;simp [intKind,Value.isInt] at this
  ·intro z e he;obtain⟨m,tk',rfl⟩:=S.nums e he;have:m≠n:=λq=>z (D1.mpr ⟨_,he,q⟩)
   simp [intKind,Value.isInt,this]
 cases hf:es.toList.findIdx? (λe=>(intKind prog w).is n e.2) with
 |some j=>
  have hin:n∈ns:=J7 λz=>by rw [none_iff.mpr z] at hf;cases hf
  refine P0 (P0 (k false es ep t s.heap ⟨S.tab,S.nums,S.nd,λm=>(S.mem m).trans ?_⟩ ho (Heap.SameBut.refl _ _)));constructor
  ·exact λz=> .tail _ z
  ·intro z;rcases R0.mp z with e|e
   ·rw [e];exact hin
   ·exact e
 |none=>
  have hn:=none_iff.mp hf;have p1:=layNew_perm t es (hashInt n) (.int n tk);have T1:=Mt S.tab (hashInt n) (.int n tk);cases hl:layNew t es (hashInt n) (.int n tk) with
  |mk es1 r1=>
   obtain⟨t1,wd,gave⟩:=r1;rw [hl] at p1 T1;have S1:=S.push hn p1 T1;have z1:es1.size<=sizeLine:=R1 S1.size (R1 (show (n::ns).length<=1000 by simp;omega) (by decide));have hb:hashByValue 8 (.int n tk)=pure true:=rfl;have put:=λ{P:Unit->Shared->Prop} {E':Value->Shared->Prop} (k': ∀h',h'.get? a=some (UG es1 (ep+1) t1)->Heap.SameBut a s.heap h'->P () {s with heap:=h',toks:=s.toks+1})=>
    wpAny_storeSet_of (prog:=prog) (w:=w) (A:=A) (E:=E') (s:= {s with toks:=s.toks+1}) (es':=es1) (t':=t1) ho rfl (k' _ (F9 _ ho rfl) (O9 ..)) z1
   have p2:=relayAll_perm t1 es1 (SetTable.grown es1.size);have T2:=QX (es:=es1) S1.tab (SetTable.grown es1.size);cases hr:relayAll t1 es1 (SetTable.grown es1.size) with
   |mk es2 r2=>
    obtain⟨t2,gave2⟩:=r2;rw [hr] at p2 T2;have S2:=S1.perm p2 T2;have z2:es2.size<=sizeLine:=R1 S2.size (R1 (show (n::ns).length<=1000 by simp;omega) (by decide));have e1:(s.heap.update a (Obj.putSet es1 t1)).get? a=some (UG es1 (ep+1) t1):=F9 _ ho rfl;have same1:Heap.SameBut a s.heap (s.heap.update a (Obj.putSet es1 t1)):=O9 ..;have ho':({s with toks:=s.toks+1}:Shared).heap.get? a=some (UG es ep t):=ho;have big:(es1.size>sizeLine)=False:=eq_false (U4.mpr z1);have big2:(es2.size>sizeLine)=False:=eq_false (U4.mpr z2);cases gave<;>cases hp:t1.plain<;>wp_walk
    all_goals
     simp only [↓reduceIte,hr];cases hc:(!wd&&t1.tooFull) with
     |false=>exact P0 (P0 (k true es1 (ep+1) t1 _ S1 e1 same1))
     |true=>
      have e2:((s.heap.update a (Obj.putSet es1 t1)).update a (Obj.putSet es2 t2)).get? a=some (UG es2 (ep+1+1) t2):=F9 _ e1 rfl;have same2:Heap.SameBut a s.heap ((s.heap.update a (Obj.putSet es1 t1)).update a (Obj.putSet es2 t2)):=same1.trans (O9 ..);have fin:=k true es2 (ep+1+1) t2 _ S2 e2 same2;simp only [↓reduceIte];cases gave2<;>wp_walk
      all_goals exact fin
end
theorem Vm:plainId "set.update.loop" =true:=by decide +kernel
theorem QY:entryFor table "set.update.loop" =some Builtin.«set.update.loop» :=entryFor_of_fast (by kernel_rfl)
section
variable {prog:Program}{w:World}{A:Around}{E:Value->Shared->Prop}{a I:Addr}{L:Bool}{fp wr:List Addr}{n:Nat}{P:Nat->Value->Prop}{St:Nat->Heap->Prop}{f:Nat->Int}
theorem Wu {R:Result->Shared->Prop}(W:Walks prog w A.in1 I fp wr n P St)(num: ∀i v,P i v-> ∃tk,v= .int (f i) tk)(na:a ∉ fp)(few:n<1000):
 ∀ (k i:Nat) (s:Shared) (es:Array (Int×Value)) (ep:Nat) (t:SetTable),i+k=n->St i s.heap->s.heap.get? a=some (UG es ep t)->SetI L es t ((List.range i).map f).reverse->
  (∀h' tk es' ep' t',h'.get? a=some (UG es' ep' t')->SetI L es' t' ((List.range n).map f).reverse->(∀b o,b≠a->b ∉ wr->s.heap.get? b=some o->h'.get? b=some o)->R (.ok (.ret .none)) {s with heap:=h',toks:=tk})->
  codeAny (model prog w) A (.builtin "set.update.loop" ⟨[.ref a,.ref I],[]⟩) R s
 |0,i,s,es,ep,t,hk,st,ha,S,q=>by
  have e:i=n:=by omega
  subst e;refine G07 QY ?_;rw [Around.under_plainId Vm];refine wpAny_bind (W.done s _ _ st λh' tk kept=>P0 ?_);exact q h' tk es ep t (kept _ _ (λz=>na (W.sub _ z)) ha) S λb o _ nb e=>kept b o nb e
 |k+1,i,s,es,ep,t,hk,st,ha,S,q=>by
  refine G07 QY ?_;rw [Around.under_plainId Vm];refine wpAny_bind (W.item i s _ _ (by omega) st λv h1 tk1 pv st1 kept1=> ?_);obtain⟨tk,rfl⟩:=num i v pv;have ha1:=kept1 _ _ (λz=>na (W.sub _ z)) ha;refine wpAny_bind (C0 (BX (s:= {s with heap:=h1,toks:=tk1}) S ha1 (by simp;omega) λb es2 ep2 t2 h2 S2 ha2 same2=>P0 ⟨plainId_quiet Vm _,?_⟩));have S3:SetI L es2 t2 ((List.range (i+1)).map f).reverse:=by
   rw [F8,T6,List.reverse_append];exact S2
  refine Wu W num na few k (i+1) {s with heap:=h2,toks:=tk1+1} es2 ep2 t2 (by omega) (W.frame _ _ _ st1 λb hb o e=>same2.extBut _ _ (λz=>na (z ▸ hb)) e) ha2 S3 λh' tk' es' ep' t' ha' S' kept'=> ?_
  exact q h' tk' es' ep' t' ha' S' λb o ba bw e=>kept' b o ba bw (same2.extBut _ _ ba (kept1 b o bw e))
end
theorem Uh:entryFor table "set.__init__" =some Builtin.«set.__init__» :=entryFor_of_fast (by kernel_rfl)
abbrev Yi (w:World):Bool:= !(w.params.followText "set-order")
theorem Xv (L:Bool):SetI L #[] (.fresh 0 0 L) []:=⟨⟨rfl,rfl,rfl,λ_=> .nil⟩,λe he=>by simp at he,by simp,λn=>by simp⟩
theorem Vn:isSubtype (.type "set") (.type "set")=pure true:=by rw [Y7];kernel_rfl
theorem QZ:isSubtype (.type "list") (.type "set")=pure false:=by rw [Y7];kernel_rfl
theorem Ga:isSubtype (.type "list") (.type "frozenset")=pure false:=by rw [Y7];kernel_rfl
theorem PJ:isSubtype (.type "tuple") (.type "set")=pure false:=by rw [Y7];kernel_rfl
theorem PK:isSubtype (.type "tuple") (.type "frozenset")=pure false:=by rw [Y7];kernel_rfl
section
variable {prog:Program}{w:World}{A:Around}{E:Value->Shared->Prop}{s:Shared}
theorem Oc {x:Value}{P:PySem.Fin->Shared->Prop}(h:P (.done (.ret (.ref s.heap.objs.size))) {s with heap:=s.heap.push (UG #[] 0 (.fresh 0 0 (Yi w)))}):
 wpAny (model prog w) A (Builtin.«set.__new__» ⟨[.type "set",x],[]⟩) P E s:=by
 have fine:=Vn;obtain⟨hp,g,d,tk,os⟩:=s;have told: ∀ {Q:Setting->Shared->Prop} {E':Value->Shared->Prop} {A':Around} {s':Shared},Q ⟨prog,w.params⟩ s'->wpAny (model prog w) A' ask Q E' s':=λq=>wpAny_askSetting q
 wp_walk using told
 exact h
theorem Xw {M:Model}{o x:Value}{Q:Unit->Shared->Prop}(ty:s.TypeIs o "set")(q:Q () s):wpAny M A (checkBuiltinCall "set.__init__" ⟨[o,x],[]⟩) Q E s:=by
 have fine:=Vn;unfold checkBuiltinCall;rw [kind_set_init,split_set_init,sig_set_init]
 wp_walk using PyProof.Rows.printed_name (n:= "set") (by decide),PyProof.Rows.printed_star (self:=o) rfl ty
 exact q
theorem BY {l a:Addr}{vs:List Value}{ns:List Int}{T:String}{ep:Nat}{Q:Option Value->Shared->Prop}(calm:A.handled=none)(hT:T= "list" \/T= "tuple")
 (hl: ∃o,s.heap.get? l=some o/\o.cls= .type T/\ ∃c,o.data= .seq vs.toArray c)(hI:IntsAre vs ns)(few:ns.length<1000)(ha:s.heap.get? a=some (UG #[] ep (.fresh 0 0 (Yi w))))(la:l≠a)
 (k: ∀h' tk es' ep' t',h'.get? a=some (UG es' ep' t')->SetI (Yi w) es' t' ns.reverse->(∀b o,b≠a->s.heap.get? b=some o->h'.get? b=some o)->Q (some .none) {s with heap:=h',toks:=tk}):
 wpAny (model prog w) A (callSpecial? (.ref a) "__init__" [.ref l]) Q E s:=by
 have ty:s.TypeIs (.ref a) "set" :=⟨_,ha,rfl⟩;refine C9 ty F.called_set.init (G1e (Z9 F.called_set.init.plain Uh (Xw ty ?_)));have f1:=QZ;have f2:=Ga;have f3:=PJ;have f4:=PK;obtain⟨⟨oc,od,odt,osl⟩,hol,hc,c,hd⟩:=hl;simp only at hc hd;subst hc hd;have state:=λ{P:Array (Int×Value)×Nat×SetTable->Shared->Prop} {E':Value->Shared->Prop} {A':Around}=>wpAny_setState_of (prog:=prog) (w:=w) (A:=A') (E:=E') (Q:=P) (s:=s) ha rfl (Xv (Yi w)).tab.fits
 have pick: ∀ (i:Nat) (v:Value),vs.toArray[i]? =some v-> ∃tk,v=Value.int (ns.getD i 0) tk:=λi v hv=>(L2.vL hI (by simpa using hv)).imp λ_ z=>z.1
 have len:vs.toArray.size=ns.length:=by rw [D0,hI.length]
 have rng:(List.range ns.length).map (λi=>ns.getD i 0)=ns:=by
  refine Y2 λi=> ?_
  rw [P3]
  by_cases hi:i<ns.length
  ·rw [N4 hi,G1 hi];simp [hi]
  ·rw [N8 (by simpa using hi),N8 (by simpa using hi)];rfl
 have far:a≠s.heap.objs.size:=λz=>M9 _ (z ▸ D3 ha)
 have lfar:l≠s.heap.objs.size:=λz=>M9 _ (z ▸ D3 hol)
 have na:a ∉ [s.heap.objs.size,l]:=by simp [far,la.symm]
 have fin: ∀ {o:Obj} h' tk es' ep' t',h'.get? a=some (UG es' ep' t')->SetI (Yi w) es' t' ((List.range vs.toArray.size).map λi=>ns.getD i 0).reverse->(∀b ob,b≠a->b ∉ [s.heap.objs.size]->(s.heap.push o).get? b=some ob->h'.get? b=some ob)->Q (some .none) {s with heap:=h',toks:=tk}:=λh' tk es' ep' t' e S kept=>by
  rw [len,rng] at S;exact k h' tk es' ep' t' e S λb ob nb q=>kept b ob nb (λz=>M9 _ (G5.mp z ▸ D3 q)) (G2 _ q)
 rcases hT with rfl|rfl
 ·have tl:s.TypeIs (.ref l) "list" :=⟨_,hol,rfl⟩;have isl:s.heap.IsList l vs.toArray:=⟨_,hol,rfl,c,rfl⟩
  wp_walk using state,K3 isl
  have W:=G1z (prog:=prog) (w:=w) (A:=A.in1.in1) calm s.heap.objs.size l lfar vs.toArray;refine Wu W pick na (by rw [len];exact few) vs.toArray.size 0 _ #[] ep _ (E5 _) ⟨⟨_,D6 _ rfl,rfl,rfl⟩,⟨_,G2 _ hol,rfl,c,rfl⟩⟩ (G2 _ ha) (Xv _) λh' tk es' ep' t' e S kept=> ?_
  exact P0 (P0 (fin h' tk es' ep' t' e S kept))
 ·have tl:s.TypeIs (.ref l) "tuple" :=⟨_,hol,rfl⟩;have isl:s.heap.IsTuple l vs.toArray:=⟨_,hol,rfl,c,rfl⟩
  wp_walk using state,A6 isl
  have W:=Walks.tuple (prog:=prog) (w:=w) (A:=A.in1.in1) calm s.heap.objs.size l lfar vs.toArray;refine Wu W pick na (by rw [len];exact few) vs.toArray.size 0 _ #[] ep _ (E5 _) ⟨⟨_,D6 _ rfl,rfl,rfl⟩,⟨_,G2 _ hol,rfl,c,rfl⟩⟩ (G2 _ ha) (Xv _) λh' tk es' ep' t' e S kept=> ?_
  exact P0 (P0 (fin h' tk es' ep' t' e S kept))
theorem Rn {l:Addr}{vs:List Value}{ns:List Int}{T:String}{Q:Value->Shared->Prop}(calm:A.handled=none)(hT:T= "list" \/T= "tuple")
 (hl: ∃o,s.heap.get? l=some o/\o.cls= .type T/\ ∃c,o.data= .seq vs.toArray c)(hI:IntsAre vs ns)(few:ns.length<1000)
 (k: ∀h' tk es' ep' t',h'.get? s.heap.objs.size=some (UG es' ep' t')->SetI (Yi w) es' t' ns.reverse->(∀b o,s.heap.get? b=some o->h'.get? b=some o)->Q (.ref s.heap.objs.size) {s with heap:=h',toks:=tk}):
 wpAny (model prog w) A (call (.type "set") [.ref l]) Q E s:=by
 have fits:checkTypeCall "set" ⟨[.ref l],[]⟩=pure ():=by kernel_rfl
 have newFits:checkBuiltinCall "set.__new__" ⟨[.type "set",.ref l],[]⟩=pure ():=by kernel_rfl
 obtain⟨o,hol,r⟩:=hl;refine L2.Vh (Made:=λv s₁=>v= .ref s.heap.objs.size/\s₁= {s with heap:=s.heap.push (UG #[] 0 (.fresh 0 0 (Yi w)))}) F.called_set fits
  (G1e (Z9 F.called_set.plain F.entry_set_new (wpAny_of_eq newFits (Oc ⟨rfl,rfl⟩)))) λv s₁ ⟨ev,es⟩=> ?_
 subst ev es;have at_:(s.heap.push (UG #[] 0 (.fresh 0 0 (Yi w)))).get? s.heap.objs.size=some (UG #[] 0 (.fresh 0 0 (Yi w))):=D6 _ rfl;refine⟨⟨_,at_,rfl⟩,BY (s:= {s with heap:=s.heap.push (UG #[] 0 (.fresh 0 0 (Yi w)))}) calm hT ⟨o,G2 _ hol,r⟩ hI few at_ (λz=>M9 _ (z ▸ D3 hol)) λh' tk es' ep' t' e S kept=>⟨rfl,k h' tk es' ep' t' e S λb ob q=>kept b ob (λz=>M9 _ (z ▸ D3 q)) (G2 _ q)⟩⟩
end
end HT
namespace L2
open PySem PySem.Spec PyProof.Rows PySem.SeqAt
def Ro (w:World)(o:Obj)(ns:List Int):Prop:= ∃es ep t,o=HT.UG es ep t/\HT.SetI (HT.Yi w) es t ns
theorem BZ {X:Cx}(hc:X.calm=true):CallR X (.type "set") (λxs H Q=> ∃ (a:Addr) (ns:List Int),xs= [.ref a]/\(SqL X.K H a (ns.map V.int)\/SqT X.K H a (ns.map V.int))/\ns.length<64/\ ∀ (p:Addr) (o:Obj),H p=none->Ro X.w o ns.reverse->Q (.ref p) (upd H p (.frz o (.own 0)))):=by
 intro pins s σ H xs us Q I r h;obtain⟨a,ns,rfl,hS,few,q⟩:=h;obtain⟨u,rfl,ru⟩:=Jm r;cases ru;have fin: ∀h' tk es ep t,h'.get? s.heap.objs.size=some (HT.UG es ep t)->HT.SetI (HT.Yi X.w) es t ns.reverse->(∀b o,s.heap.get? b=some o->h'.get? b=some o)->EP X pins σ Q (.ref s.heap.objs.size) {s with heap:=h',toks:=tk}:=λh' tk es ep t e S kept=>
  ⟨.ref _,_,I.laid (t':=tk) (o:= .frz (HT.UG es ep t) (.own 0)) kept (P1 _) ⟨e,⟨_,e⟩⟩,rfl,q _ _ (I.hok.fresh (P1 _)) ⟨es,ep,t,rfl,S⟩⟩
 rcases hS with hS|hS
 ·obtain⟨its,rv,pl,hz⟩:=I.list hS;have hi:=ZL rv;obtain⟨o,e1,e2,c,e3⟩:=pl.isList;exact HT.Rn (I.ok.hd hc) (.inl rfl) ⟨o,e1,e2,c,e3⟩ hi (by omega) fin
 ·obtain⟨its,rv,pl,hz⟩:=I.tuple hS;have hi:=ZL rv;obtain⟨o,e1,e2,c,e3⟩:=pl;exact HT.Rn (I.ok.hd hc) (.inr rfl) ⟨o,e1,e2,c,e3⟩ hi (by omega) fin
end L2
namespace L2
theorem IsS.ext {n:Nat}{S S':List Nat}(h:IsS n S)(h':IsS n S')(m: ∀j,j∈S↔j∈S'):S=S':=by
 obtain⟨p,rfl⟩:=h;obtain⟨q,rfl⟩:=h';refine List.filter_congr λj hj=> ?_
 have:=m j;rw [M5,M5] at this;have e:p j=true↔q j=true:=⟨λz=>(this.mp ⟨hj,z⟩).2,λz=>(this.mpr ⟨hj,z⟩).2⟩;cases hp:p j<;>cases hq:q j<;>simp_all
inductive Made (L:List Nat):Nat->Prop
 |z:Made L 0
 |s {n l:Nat}:Made L n->l∈L->Made L (n+l)
theorem Yx: ∀ (L:List Nat) (g d:Nat),d∣L.foldl Nat.gcd g↔d∣g/\ ∀l∈L,d∣l
 | [],g,d=>by simp
 |x::L,g,d=>by
  show d∣L.foldl Nat.gcd (Nat.gcd g x)↔_;rw [Yx L,Nat.dvd_gcd_iff];simp only [R0,forall_eq_or_imp];exact⟨λ⟨⟨a,b⟩,c⟩=>⟨a,b,c⟩,λ⟨a,b,c⟩=>⟨⟨a,b⟩,c⟩⟩
end L2
namespace HT
open PySem PyProof.Rows
section
variable {prog:Program}{w:World}{A:Around}{E:Value->Shared->Prop}{σ α β:Type}{J:Shared->Prop}
def Tm (prog:Program)(w:World)(A:Around)(E:Value->Shared->Prop)(J:Shared->Prop){σ α:Type}(m:StateT σ Sem α)(Q:α->σ->Prop)(st:σ):Prop:=
 ∀s,J s->wpAny (model prog w) A (m.run st) (λr s'=>Q r.1 r.2/\J s') E s
theorem Tm.pure {a:α}{Q:α->σ->Prop}{st:σ}(h:Q a st):Tm prog w A E J (Pure.pure a:StateT σ Sem α) Q st:=λs j=>by
 rw [StateT.run_pure];exact P0 ⟨h,j⟩
theorem Tm.bind {m:StateT σ Sem α}{f:α->StateT σ Sem β}{Q:β->σ->Prop}{st:σ}(h:Tm prog w A E J m (λa st'=>Tm prog w A E J (f a) Q st') st):Tm prog w A E J (m >>= f) Q st:=λs j=>by
 rw [StateT.run_bind];exact wpAny_bind (S0 (h s j) (λr s' x=>x.1 s' x.2) λ_ _ e=>e)
theorem Tm.get {Q:σ->σ->Prop}{st:σ}(h:Q st st):Tm prog w A E J (MonadState.get:StateT σ Sem σ) Q st:=λs j=>by
 show wpAny _ _ ((StateT.get:StateT σ Sem σ).run st) _ _ _;exact P0 ⟨h,j⟩
theorem Tm.mono {m:StateT σ Sem α}{Q Q':α->σ->Prop}{st:σ}(h:Tm prog w A E J m Q st)(q: ∀a st',Q a st'->Q' a st'):Tm prog w A E J m Q' st:=λs j=>
 S0 (h s j) (λr s' x=>⟨q _ _ x.1,x.2⟩) λ_ _ e=>e
theorem Tm.range' {f:Nat->β->StateT σ Sem (ForInStep β)}(I:Nat->β->σ->Prop){Q:β->σ->Prop}{b:Nat}(step: ∀i c st,i<b->I i c st->Tm prog w A E J (f i c) (λr st'=>match r with| .done c'=>Q c' st'| .yield c'=>I (i+1) c' st') st)(fin: ∀c st,I b c st->Q c st):
 ∀ (k i:Nat) (c:β) (st:σ),i+k=b->I i c st->Tm prog w A E J (forIn (List.range' i k) c f) Q st
 |0,i,c,st,e,h=>by
  rw [List.range'_zero,List.forIn_nil];exact .pure (fin c st (by rw [<-e];exact h))
 |k+1,i,c,st,e,h=>by
  rw [G0W,G0g];refine .bind ((step i c st (by omega) h).mono λr st' x=> ?_);cases r with
  |done c'=>exact .pure x
  |yield c'=>exact Tm.range' I step fin k (i+1) c' st' (by omega) x
theorem Tm.range {f:Nat->β->StateT σ Sem (ForInStep β)}(I:Nat->β->σ->Prop){Q:β->σ->Prop}{a b:Nat}{c:β}{st:σ}(hab:a<=b)(h:I a c st)(step: ∀i c st,i<b->I i c st->Tm prog w A E J (f i c) (λr st'=>match r with| .done c'=>Q c' st'| .yield c'=>I (i+1) c' st') st)(fin: ∀c st,I b c st->Q c st):
 Tm prog w A E J (forIn [a:b] c f) Q st:=λs j=>by
 rw [U5];have e:([a:b]:Std.Legacy.Range).size=b-a:=by simp [Std.Legacy.Range.size]
 rw [e];exact Tm.range' I step fin (b-a) a c st (by omega) h s j
end
section
variable {prog:Program}{w:World}{A:Around}{E:Value->Shared->Prop}{J:Shared->Prop}{κ:SortKind}{U:Keyed->Prop}{R:Keyed->Keyed->Bool}
def Xx (prog:Program)(w:World)(A:Around)(J:Shared->Prop)(κ:SortKind)(U:Keyed->Prop)(R:Keyed->Keyed->Bool):Prop:=
 ∀x y,U x->U y-> ∀s,J s->wpAny (model prog w) A (keyLt' κ x.1 y.1) (λb s'=>b=R x y/\J s') (λ_ _=>False) s
theorem Tm.lt {x y:Keyed}{st:SortSt}{Q:Option Bool->SortSt->Prop}(a:Xx prog w A J κ U R)(k:kindOf st=κ)(hx:U x)(hy:U y)(q:Q (some (R x y)) st):Tm prog w A E J (lt' x y) Q st:=by
 rw [lt'_eq];refine .bind (.get ?_);rw [k];intro s j;rw [StateT.run_bind];refine wpAny_bind ?_;show wpAny _ _ ((StateT.lift _:StateT SortSt Sem _).run st) _ _ _;rw [StateT.run_lift];refine wpAny_bind (wpAny_attempt (S0 (a x y hx hy s j) (λb s' x=> ?_) λ_ _ e=>e.elim));obtain⟨rfl,j'⟩:=x;exact P0 (Tm.pure (prog:=prog) (w:=w) (A:=A) (E:=E) (J:=J) q s' j')
theorem Tm.elem {arr:Array Keyed}{i:Nat}{x:Keyed}{st:SortSt}{Q:Keyed->SortSt->Prop}(e:arr[i]? =some x)(q:Q x st):Tm prog w A E J (elem' arr i) Q st:=by
 rw [elem'_eq,e];exact .pure q
theorem KR {n lo hi:Nat}{g:Nat->Bool}{st:SortSt}{f:Nat->Option (Option Nat)×Nat×Nat->StateT SortSt Sem (ForInStep (Option (Option Nat)×Nat×Nat))}(anti: ∀i j,i<=j->j<n->g j=true->g i=true)
 (h1:lo<=hi)(h2:hi<=n)(a1: ∀i,i<lo->g i=true)(a2: ∀i,hi<=i->i<n->g i=false)
 (stop: ∀i l,Tm prog w A E J (f i (none,l,l)) (λr st'=>st'=st/\r= .done (none,l,l)) st)
 (step: ∀i l u,l<u->u<=n->Tm prog w A E J (f i (none,l,u)) (λr st'=>st'=st/\r=if g (l+(u-l) / 2)=true then .yield (none,l+(u-l) / 2+1,u) else .yield (none,l,l+(u-l) / 2)) st):
 Tm prog w A E J (forIn [0:n] (none,lo,hi) f) (λc st'=>st'=st/\c.1=none/\c.2.2<=n/\(∀i,i<c.2.2->g i=true)/\ ∀i,c.2.2<=i->i<n->g i=false) st:=by
 have no: ∀i j,i<=j->j<n->g i=false->g j=false:=λi j hij hj z=>by
  cases hb:g j with
  |false=>rfl
  |true=>rw [anti i j hij hj hb] at z;cases z
 refine Tm.range (λi c st'=>st'=st/\c.1=none/\c.2.1<=c.2.2/\c.2.2<=n/\(∀i,i<c.2.1->g i=true)/\(∀i,c.2.2<=i->i<n->g i=false)/\c.2.2-c.2.1+i<=n) (Nat.zero_le _) ⟨rfl,rfl,h1,h2,a1,a2,by dsimp only;omega⟩ ?_ ?_
 ·rintro i ⟨r,l,u⟩ _ hi ⟨rfl,hr,b1,b2,b3,b4,b5⟩;dsimp only at hr b1 b2 b3 b4 b5;subst hr
  by_cases z:l=u
  ·subst z;refine(stop i l).mono ?_;rintro _ _ ⟨rfl,rfl⟩;exact⟨rfl,rfl,b2,b3,b4⟩
  ·refine(step i l u (by omega) b2).mono ?_;rintro _ _ ⟨rfl,rfl⟩;cases hg:g (l+(u-l) / 2) with
   |true=>
    rw [if_pos rfl];exact⟨rfl,rfl,by dsimp only;omega,b2,λj hj=>anti j _ (by dsimp only at hj;omega) (by omega) hg,b4,by dsimp only;omega⟩
   |false=>
    rw [if_neg (by decide)];exact⟨rfl,rfl,by dsimp only;omega,by dsimp only;omega,b3,λj hj hn=>no _ j hj hn hg,by dsimp only;omega⟩
 ·rintro ⟨r,l,u⟩ _ ⟨rfl,hr,b1,b2,b3,b4,b5⟩;dsimp only at hr b1 b2 b3 b4 b5 ⊢;exact⟨rfl,hr,b2,λj hj=>b3 j (by omega),b4⟩
def gal:Bool->Keyed->Array Keyed->Nat->Nat->Nat->StateT SortSt Sem (Option Nat):=sortPriv% PySem.Builtin.gallop
def byd (R:Keyed->Keyed->Bool)(left:Bool)(key:Keyed)(arr:Array Keyed)(base i:Nat):Bool:=
 match arr[base+i]? with
 |some x=>if left=true then R x key else !R key x
 |none=>false
theorem Ca {left:Bool}{key:Keyed}{arr:Array Keyed}{base n hint:Nat}{st:SortSt}{Q:Option Nat->SortSt->Prop}(a:Xx prog w A J κ U R)(k:kindOf st=κ)(uk:U key)(ua: ∀i,i<n-> ∃x,arr[base+i]? =some x/\U x)
 (anti: ∀i j,i<=j->j<n->byd R left key arr base j=true->byd R left key arr base i=true)(hh:hint<n)
 (q: ∀m,m<=n->(∀i,i<m->byd R left key arr base i=true)->(∀i,m<=i->i<n->byd R left key arr base i=false)->Q (some m) st):Tm prog w A E J (gal left key arr base n hint) Q st:=by
 have ask: ∀i (Q':Option Bool->SortSt->Prop),i<n->Q' (some (byd R left key arr base i)) st->Tm prog w A E J (do let x <-elem' arr (base+i);if left=true then lt' x key else do let b <-lt' key x;Pure.pure (b.map λz=> !z)) Q' st:=λi Q' hi q'=>by
  obtain⟨x,ex,ux⟩:=ua i hi;refine .bind (.elem ex ?_);unfold byd at q';rw [ex] at q';cases left with
  |true=>exact .lt a k ux uk q'
  |false=>exact .bind (.lt a k uk ux (.pure q'))
 have no: ∀i j,i<=j->j<n->byd R left key arr base i=false->byd R left key arr base j=false:=λi j hij hj z=>by
  cases hb:byd R left key arr base j with
  |false=>rfl
  |true=>rw [anti i j hij hj hb] at z;cases z
 unfold gal;refine .bind (ask hint _ hh ?_);dsimp only;cases hb:byd R left key arr base hint with
 |true=>
  rw [if_pos rfl];refine .bind (Tm.mono (Tm.range (λi c st'=>st'=st/\c.1=none/\c.2.1<c.2.2/\hint+c.2.1<n/\byd R left key arr base (hint+c.2.1)=true/\i+1<=c.2.2)
   (Q:=λc st'=>st'=st/\c.1=none/\c.2.1<c.2.2/\hint+c.2.1<n/\byd R left key arr base (hint+c.2.1)=true/\(n-hint<=c.2.2\/byd R left key arr base (hint+c.2.2)=false)) (S8 _) ⟨rfl,rfl,by decide,by omega,by simpa using hb,by decide⟩ ?_ ?_) ?_)
  ·rintro i ⟨r,lo,of⟩ _ hi ⟨rfl,hr,h1,h2,h3,h4⟩;dsimp only at hr h1 h2 h3 h4 ⊢;subst hr
   by_cases z:of>=n-hint
   ·rw [if_pos z];exact .pure ⟨rfl,rfl,h1,h2,h3,.inl z⟩
   ·rw [if_neg z];refine .bind (ask (hint+of) _ (by omega) ?_);dsimp only;cases hc:byd R left key arr base (hint+of) with
    |true=>exact .pure ⟨rfl,rfl,by dsimp only;omega,by dsimp only;omega,hc,by dsimp only;omega⟩
    |false=>exact .pure ⟨rfl,rfl,h1,h2,h3,.inr hc⟩
  ·rintro ⟨r,lo,of⟩ _ ⟨rfl,hr,h1,h2,h3,h4⟩;exact⟨rfl,hr,h1,h2,h3,.inl (by dsimp only at h4 ⊢;omega)⟩
  ·rintro ⟨r,lo,of⟩ _ ⟨rfl,hr,h1,h2,h3,h4⟩;dsimp only at hr h1 h2 h3 h4 ⊢;subst hr;dsimp only;refine .bind (Tm.mono (KR (g:=byd R left key arr base) anti (by omega) (by omega) (λi hi=>anti i _ (by omega) h2 h3) (λi hi hn=> ?_) (λi l=> ?_) (λi l u hl hu=> ?_)) ?_)
   ·rcases h4 with z|z
    ·omega
    ·exact no (hint+of) i (by omega) hn z
   ·rw [if_pos (P1 l)];exact .pure ⟨rfl,rfl⟩
   ·rw [if_neg (show ¬l>=u by omega)];refine .bind (ask (l+(u-l) / 2) _ (by omega) ?_);dsimp only;cases byd R left key arr base (l+(u-l) / 2)<;>exact .pure ⟨rfl,rfl⟩
   ·rintro ⟨r,l,u⟩ _ ⟨rfl,hr,b2,b3,b4⟩;dsimp only at hr b2 b3 b4 ⊢;subst hr;exact .pure (q u b2 b3 b4)
 |false=>
  rw [if_neg (by decide)];refine .bind (Tm.mono (Tm.range (λi c st'=>st'=st/\c.1=none/\c.2.1<c.2.2/\c.2.1<=hint/\byd R left key arr base (hint-c.2.1)=false/\i+1<=c.2.2)
   (Q:=λc st'=>st'=st/\c.1=none/\c.2.1<c.2.2/\c.2.1<=hint/\byd R left key arr base (hint-c.2.1)=false/\(hint+1<=c.2.2\/byd R left key arr base (hint-c.2.2)=true)) (Nat.zero_le _) ⟨rfl,rfl,by decide,by dsimp only;omega,by simpa using hb,by decide⟩ ?_ ?_) ?_)
  ·rintro i ⟨r,lo,of⟩ _ hi ⟨rfl,hr,h1,h2,h3,h4⟩;dsimp only at hr h1 h2 h3 h4 ⊢;subst hr
   by_cases z:of>=hint+1
   ·rw [if_pos z];exact .pure ⟨rfl,rfl,h1,h2,h3,.inl z⟩
   ·rw [if_neg z];refine .bind (ask (hint-of) _ (by omega) ?_);dsimp only;cases hc:byd R left key arr base (hint-of) with
    |false=>exact .pure ⟨rfl,rfl,by dsimp only;omega,by dsimp only;omega,hc,by dsimp only;omega⟩
    |true=>exact .pure ⟨rfl,rfl,h1,h2,h3,.inr hc⟩
  ·rintro ⟨r,lo,of⟩ _ ⟨rfl,hr,h1,h2,h3,h4⟩;exact⟨rfl,hr,h1,h2,h3,.inl (by dsimp only at h4 ⊢;omega)⟩
  ·rintro ⟨r,lo,of⟩ _ ⟨rfl,hr,h1,h2,h3,h4⟩;dsimp only at hr h1 h2 h3 h4 ⊢;subst hr;dsimp only;refine .bind (Tm.mono (KR (g:=byd R left key arr base) anti (by omega) (by omega) (λi hi=> ?_) (λi hi hn=>no _ i hi hn h3) (λi l=> ?_) (λi l u hl hu=> ?_)) ?_)
   ·rcases h4 with z|z
    ·omega
    ·exact anti i (hint-of) (by omega) (by omega) z
   ·rw [if_pos (P1 l)];exact .pure ⟨rfl,rfl⟩
   ·rw [if_neg (show ¬l>=u by omega)];refine .bind (ask (l+(u-l) / 2) _ (by omega) ?_);dsimp only;cases byd R left key arr base (l+(u-l) / 2)<;>exact .pure ⟨rfl,rfl⟩
   ·rintro ⟨r,l,u⟩ _ ⟨rfl,hr,b2,b3,b4⟩;dsimp only at hr b2 b3 b4 ⊢;subst hr;exact .pure (q u b2 b3 b4)
end
section
variable {κ:Type}{U:κ->Prop}{R:κ->κ->Bool}{al bl:List κ}
structure Ordd (U:κ->Prop)(R:κ->κ->Bool):Prop where
 asym: ∀x y,U x->U y->R x y=true->R y x=false
 neg: ∀x y z,U x->U y->U z->R x z=true->R x y=true\/R y z=true
theorem Ordd.refl (o:Ordd U R){x:κ}(u:U x):R x x=false:=by
 cases h:R x x with
 |false=>rfl
 |true=>have:=o.asym x x u u h;rw [h] at this;exact this
theorem Ordd.trans (o:Ordd U R){x y z:κ}(ux:U x)(uy:U y)(uz:U z)(a:R y x=false)(b:R z y=false):R z x=false:=by
 cases h:R z x with
 |false=>rfl
 |true=>
  rcases o.neg z y x uz uy ux h with z|z
  ·rw [b] at z;cases z
  ·rw [a] at z;cases z
abbrev Srt (R:κ->κ->Bool)(l:List κ):Prop:=l.Pairwise λx y=>R y x=false
structure MI (R:κ->κ->Bool)(al bl:List κ)(ia ib:Nat)(out:List κ):Prop where
 perm:out.Perm (al.take ia++bl.take ib)
 srt:Srt R out
 ra: ∀x∈out,∀y∈al.drop ia,R y x=false
 rb: ∀x∈out,∀y∈bl.drop ib,R y x=false
theorem zP {l:List κ}{i:Nat}{y:κ}(h:l[i]? =some y):l.drop i=y::l.drop (i+1):=by
 obtain⟨hi,e⟩:=G7.mp h;rw [List.drop_eq_getElem_cons hi,e]
theorem Vo {l:List κ}{i:Nat}{y:κ}(h:l[i]? =some y):l.take (i+1)=l.take i++ [y]:=by
 rw [N6,h];rfl
theorem MI.start (al bl:List κ):MI R al bl 0 0 []:=⟨.refl _,.nil,λx hx=>(N5 hx).elim,λx hx=>(N5 hx).elim⟩
variable {ia ib:Nat}
theorem MI.pushB {out:List κ}{y:κ}(m:MI R al bl ia ib out)(o:Ordd U R)(ua: ∀x∈al,U x)(ub: ∀x∈bl,U x)(sa:Srt R al)(sb:Srt R bl)(hy:bl[ib]? =some y)(lt: ∀z,al[ia]? =some z->R y z=true):MI R al bl ia (ib+1) (out++ [y]):=by
 have dy:=zP hy;have uy:=ub y (G8 hy);have sdb:Srt R (bl.drop ib):=sb.sublist (L0 _ _);rw [dy] at sdb;refine⟨?_,?_,λx hx z hz=> ?_,λx hx z hz=> ?_⟩
 ·rw [Vo hy,<-P2];exact m.perm.append_right _
 ·refine R9.mpr ⟨m.srt,T9 _ _,λx hx z hz=> ?_⟩;rw [G5.mp hz];exact m.rb x hx y (by rw [dy];exact D9 ..)
 ·rcases P6.mp hx with w|w
  ·exact m.ra x w z hz
  ·rw [G5.mp w];cases e:al[ia]? with
   |none=>rw [B9 (G0C.mp e)] at hz;cases hz
   |some a0=>
    have da:=zP e;have ua0:=ua a0 (G8 e);have sda:Srt R (al.drop ia):=sa.sublist (L0 _ _);rw [da] at sda hz;have l0:=o.asym y a0 uy ua0 (lt a0 e);rcases R0.mp hz with v|v
    ·rw [v];exact l0
    ·exact o.trans uy ua0 (ua z (M6 v)) l0 ((J5.mp sda).1 z v)
 ·rcases P6.mp hx with w|w
  ·exact m.rb x w z (by rw [dy];exact R4 _ hz)
  ·rw [G5.mp w];exact(J5.mp sdb).1 z hz
theorem MI.pushA {out:List κ}{y:κ}(m:MI R al bl ia ib out)(o:Ordd U R)(ua: ∀x∈al,U x)(ub: ∀x∈bl,U x)(sa:Srt R al)(sb:Srt R bl)(hy:al[ia]? =some y)(ge: ∀z,bl[ib]? =some z->R z y=false):MI R al bl (ia+1) ib (out++ [y]):=by
 have dy:=zP hy;have uy:=ua y (G8 hy);have sda:Srt R (al.drop ia):=sa.sublist (L0 _ _);rw [dy] at sda;refine⟨?_,?_,λx hx z hz=> ?_,λx hx z hz=> ?_⟩
 ·rw [Vo hy];refine(m.perm.append_right [y]).trans ?_;rw [P2,P2];exact(Q9).append_left _
 ·refine R9.mpr ⟨m.srt,T9 _ _,λx hx z hz=> ?_⟩;rw [G5.mp hz];exact m.ra x hx y (by rw [dy];exact D9 ..)
 ·rcases P6.mp hx with w|w
  ·exact m.ra x w z (by rw [dy];exact R4 _ hz)
  ·rw [G5.mp w];exact(J5.mp sda).1 z hz
 ·rcases P6.mp hx with w|w
  ·exact m.rb x w z hz
  ·rw [G5.mp w];cases e:bl[ib]? with
   |none=>rw [B9 (G0C.mp e)] at hz;cases hz
   |some b0=>
    have db:=zP e;have ub0:=ub b0 (G8 e);have sdb:Srt R (bl.drop ib):=sb.sublist (L0 _ _);rw [db] at sdb hz;have l0:=ge b0 e;rcases R0.mp hz with v|v
    ·rw [v];exact l0
    ·exact o.trans uy ub0 (ub z (M6 v)) l0 ((J5.mp sdb).1 z v)
theorem MI.manyA (o:Ordd U R)(ua: ∀x∈al,U x)(ub: ∀x∈bl,U x)(sa:Srt R al)(sb:Srt R bl): ∀ (k:Nat) {ia:Nat} {out:List κ},MI R al bl ia ib out->ia+k<=al.length->(∀i,i<k-> ∀y,al[ia+i]? =some y-> ∀z,bl[ib]? =some z->R z y=false)->MI R al bl (ia+k) ib (out++(al.drop ia).take k)
 |0,ia,out,m,_,_=>by rw [G0D,F7];exact m
 |k+1,ia,out,m,hk,h=>by
  obtain⟨y,hy⟩: ∃y,al[ia]? =some y:=⟨_,G1 (by omega)⟩;have m1:=m.pushA o ua ub sa sb hy (h 0 (by omega) y hy);have:=MI.manyA o ua ub sa sb k m1 (by omega) (λi hi y hy=>h (i+1) (by omega) y (by rw [show ia+(i+1)=ia+1+i by omega];exact hy));rw [show ia+(k+1)=ia+1+k by omega,zP hy,G1r,List.append_cons];exact this
theorem MI.manyB (o:Ordd U R)(ua: ∀x∈al,U x)(ub: ∀x∈bl,U x)(sa:Srt R al)(sb:Srt R bl): ∀ (k:Nat) {ib:Nat} {out:List κ},MI R al bl ia ib out->ib+k<=bl.length->(∀i,i<k-> ∀y,bl[ib+i]? =some y-> ∀z,al[ia]? =some z->R y z=true)->MI R al bl ia (ib+k) (out++(bl.drop ib).take k)
 |0,ib,out,m,_,_=>by rw [G0D,F7];exact m
 |k+1,ib,out,m,hk,h=>by
  obtain⟨y,hy⟩: ∃y,bl[ib]? =some y:=⟨_,G1 (by omega)⟩;have m1:=m.pushB o ua ub sa sb hy (h 0 (by omega) y hy);have:=MI.manyB o ua ub sa sb k m1 (by omega) (λi hi y hy=>h (i+1) (by omega) y (by rw [show ib+(i+1)=ib+1+i by omega];exact hy));rw [show ib+(k+1)=ib+1+k by omega,zP hy,G1r,List.append_cons];exact this
theorem MI.all {out:List κ}(m:MI R al bl al.length bl.length out):out.Perm (al++bl)/\Srt R out:=by
 have:=m.perm;rw [U8,U8] at this;exact⟨this,m.srt⟩
theorem MI.done {out:List κ}(m:MI R al bl ia ib out)(o:Ordd U R)(ua: ∀x∈al,U x)(ub: ∀x∈bl,U x)(sa:Srt R al)(sb:Srt R bl)(ha:ia<=al.length)(hb:ib<=bl.length)(h:ia=al.length\/ib=bl.length):(out++al.drop ia++bl.drop ib).Perm (al++bl)/\Srt R (out++al.drop ia++bl.drop ib):=by
 have m1:=MI.manyA o ua ub sa sb (al.length-ia) m (by omega) (λi hi y hy z hz=>by
  have:=(G7.mp hz).1;omega)
 rw [show ia+(al.length-ia)=al.length by omega,R3 (by rw [S7];exact P1 _)] at m1;have m2:=MI.manyB o ua ub sa sb (bl.length-ib) m1 (by omega) (λi hi y hy z hz=>by
  have:=(G7.mp hz).1;omega)
 rw [show ib+(bl.length-ib)=bl.length by omega,R3 (l:=bl.drop ib) (by rw [S7];exact P1 _)] at m2;exact m2.all
theorem MI.lastA {out:List κ}(m:MI R al bl ia ib out)(o:Ordd U R)(ua: ∀x∈al,U x)(ub: ∀x∈bl,U x)(sa:Srt R al)(sb:Srt R bl)(ha:ia+1=al.length)(hb:ib<=bl.length)(h: ∀y∈bl,∀z,al[al.length-1]? =some z->R y z=true):(out++bl.drop ib++al.drop ia).Perm (al++bl)/\Srt R (out++bl.drop ib++al.drop ia):=by
 have m2:=MI.manyB o ua ub sa sb (bl.length-ib) m (by omega) (λi hi y hy z hz=>h y (G8 hy) z (by rw [<-ha];exact hz));rw [show ib+(bl.length-ib)=bl.length by omega,R3 (by rw [S7];exact P1 _)] at m2;have m1:=MI.manyA o ua ub sa sb (al.length-ia) m2 (by omega) (λi hi y hy z hz=>by
  have:=(G7.mp hz).1;omega)
 rw [show ia+(al.length-ia)=al.length by omega,R3 (l:=al.drop ia) (by rw [S7];exact P1 _)] at m1;exact m1.all
end
section
variable {prog:Program}{w:World}{A:Around}{E:Value->Shared->Prop}{J:Shared->Prop}{κ:SortKind}{U:Keyed->Prop}{R:Keyed->Keyed->Bool}
theorem Tm.rule {σ:Type}{x:String}{Q:Unit->σ->Prop}{st:σ}(q:Q () st):Tm prog w A E J (liftM (PySem.rule x):StateT σ Sem Unit) Q st:=λs j=>by
 show wpAny _ _ ((StateT.lift _:StateT σ Sem _).run st) _ _ _;rw [StateT.run_lift];exact wpAny_bind (X7 (P0 ⟨q,j⟩))
theorem Tm.modify {σ:Type}{f:σ->σ}{Q:Unit->σ->Prop}{st:σ}(q:Q () (f st)):Tm prog w A E J (_root_.modify f:StateT σ Sem PUnit) Q st:=λs j=>by
 rw [StateT.run_modify];exact P0 ⟨q,j⟩
def mLo:Array Keyed->Array Keyed->StateT SortSt Sem (Array Keyed):=sortPriv% PySem.Builtin.mergeLo
def Gal (st st':SortSt):Prop:=kindOf st'=kindOf st/\arrOf st'=arrOf st/\pendingOf st'=pendingOf st/\failedOf st'=failedOf st
theorem Gal.refl (st:SortSt):Gal st st:=⟨rfl,rfl,rfl,rfl⟩
theorem Yy (a:Array Keyed)(i:Nat):(a.extract i).toList=a.toList.drop i:=by
 rw [K0,List.extract_eq_drop_take];exact R3 (by simp)
theorem Rq (a:Array Keyed)(i k:Nat):(a.extract i (i+k)).toList=(a.toList.drop i).take k:=by
 rw [K0,List.extract_eq_drop_take,G0S]
def Jn (R:Keyed->Keyed->Bool)(a b c:Array Keyed):Prop:=c.toList.Perm (a.toList++b.toList)/\Srt R c.toList
structure Two (U:Keyed->Prop)(R:Keyed->Keyed->Bool)(a b:Array Keyed):Prop where
 o:Ordd U R
 ua: ∀x∈a.toList,U x
 ub: ∀x∈b.toList,U x
 sa:Srt R a.toList
 sb:Srt R b.toList
 last: ∀y∈b.toList,∀z,a.toList[a.toList.length-1]? =some z->R y z=true
abbrev MA (R:Keyed->Keyed->Bool)(a b:Array Keyed)(ia ib:Nat)(out:Array Keyed):Prop:=MI R a.toList b.toList ia ib out.toList
section
variable {a b out:Array Keyed}{ia ib:Nat}
theorem MA.done (t:Two U R a b)(m:MA R a b ia ib out)(ha:ia<=a.size)(hb:ib<=b.size)(h:ia=a.size\/ib=b.size):Jn R a b (out++a.extract ia++b.extract ib):=by
 have:=MI.done m t.o t.ua t.ub t.sa t.sb (by simpa using ha) (by simpa using hb) (by simpa using h);unfold Jn;rw [M1,M1,Yy,Yy];exact this
theorem MA.lastA (t:Two U R a b)(m:MA R a b ia ib out)(ha:ia+1=a.size)(hb:ib<=b.size):Jn R a b (out++b.extract ib++a.extract ia):=by
 have:=MI.lastA m t.o t.ua t.ub t.sa t.sb (by simpa using ha) (by simpa using hb) t.last;unfold Jn;rw [M1,M1,Yy,Yy];exact this
theorem MA.pushB (t:Two U R a b){y:Keyed}(m:MA R a b ia ib out)(hy:b.toList[ib]? =some y)(lt: ∀z,a.toList[ia]? =some z->R y z=true):MA R a b ia (ib+1) (out.push y):=by
 have:=MI.pushB m t.o t.ua t.ub t.sa t.sb hy lt;show MI R _ _ _ _ (out.push y).toList;rw [O8];exact this
theorem MA.pushA (t:Two U R a b){y:Keyed}(m:MA R a b ia ib out)(hy:a.toList[ia]? =some y)(ge: ∀z,b.toList[ib]? =some z->R z y=false):MA R a b (ia+1) ib (out.push y):=by
 have:=MI.pushA m t.o t.ua t.ub t.sa t.sb hy ge;show MI R _ _ _ _ (out.push y).toList;rw [O8];exact this
theorem MA.manyA (t:Two U R a b)(m:MA R a b ia ib out)(k:Nat)(hk:ia+k<=a.size)(h: ∀i,i<k-> ∀y,a.toList[ia+i]? =some y-> ∀z,b.toList[ib]? =some z->R z y=false):MA R a b (ia+k) ib (out++a.extract ia (ia+k)):=by
 have:=MI.manyA t.o t.ua t.ub t.sa t.sb k m (by simpa using hk) h;show MI R _ _ _ _ (out++a.extract ia (ia+k)).toList;rw [M1,Rq];exact this
theorem MA.manyB (t:Two U R a b)(m:MA R a b ia ib out)(k:Nat)(hk:ib+k<=b.size)(h: ∀i,i<k-> ∀y,b.toList[ib+i]? =some y-> ∀z,a.toList[ia]? =some z->R y z=true):MA R a b ia (ib+k) (out++b.extract ib (ib+k)):=by
 have:=MI.manyB t.o t.ua t.ub t.sa t.sb k m (by simpa using hk) h;show MI R _ _ _ _ (out++b.extract ib (ib+k)).toList;rw [M1,Rq];exact this
end
variable {arr:Array Keyed}{base:Nat}
theorem vC {left:Bool}{key x:Keyed}{i:Nat}(h:arr.toList[base+i]? =some x):byd R left key arr base i=if left=true then R x key else !R key x:=by
 unfold byd;rw [<-N0,h]
theorem Vp {l:List Keyed}(s:Srt R l)(o:Ordd U R)(u: ∀x∈l,U x){i j:Nat}{x y:Keyed}(hij:i<=j)(hx:l[i]? =some x)(hy:l[j]? =some y):R y x=false:=by
 by_cases z:i=j
 ·subst z;rw [hx] at hy;injection hy with hy;subst hy
  exact o.refl (u x (G8 hx))
 ·obtain⟨h1,e1⟩:=G7.mp hx;obtain⟨h2,e2⟩:=G7.mp hy;have:=A4.mp s i j h1 h2 (by omega);rw [e1,e2] at this;exact this
theorem Vq {i:Nat}(h:i<arr.size): ∃x,arr.toList[i]? =some x/\arr[i]? =some x:=⟨arr[i],by simp [h],by simp [h]⟩
theorem qu {y:Keyed}{n hint:Nat}{st:SortSt}{Q:Option Nat->SortSt->Prop}(ak:Xx prog w A J κ U R)(kd:kindOf st=κ)(o:Ordd U R)(u: ∀x∈arr.toList,U x)(s:Srt R arr.toList)(uy:U y)(hn:base+n<=arr.size)(hh:hint<n)
 (q: ∀k,k<=n->(∀i,i<k-> ∀x,arr.toList[base+i]? =some x->R y x=false)->(∀i,k<=i->i<n-> ∀x,arr.toList[base+i]? =some x->R y x=true)->Q (some k) st):Tm prog w A E J (gal false y arr base n hint) Q st:=by
 refine Ca ak kd uy (λi hi=> ?_) (λi j hij hj h=> ?_) hh (λk k1 k2 k3=>q k k1 (λi hi x hx=> ?_) (λi h1 h2 x hx=> ?_))
 ·obtain⟨x,lx,ex⟩:=Vq (show base+i<arr.size by omega);exact⟨x,ex,u x (G8 lx)⟩
 ·obtain⟨x,lx,_⟩:=Vq (show base+i<arr.size by omega);obtain⟨z,lz,_⟩:=Vq (show base+j<arr.size by omega);rw [vC lz] at h;rw [vC lx];have hz:R y z=false:=by simpa using h
  have:=o.trans (u x (G8 lx)) (u z (G8 lz)) uy (Vp s o u (by omega) lx lz) hz;simp [this]
 ·have:=k2 i hi;rw [vC hx] at this;simpa using this
 ·have:=k3 i h1 h2;rw [vC hx] at this;simpa using this
theorem qw {y:Keyed}{n hint:Nat}{st:SortSt}{Q:Option Nat->SortSt->Prop}(ak:Xx prog w A J κ U R)(kd:kindOf st=κ)(o:Ordd U R)(u: ∀x∈arr.toList,U x)(s:Srt R arr.toList)(uy:U y)(hn:base+n<=arr.size)(hh:hint<n)
 (q: ∀k,k<=n->(∀i,i<k-> ∀x,arr.toList[base+i]? =some x->R x y=true)->(∀i,k<=i->i<n-> ∀x,arr.toList[base+i]? =some x->R x y=false)->Q (some k) st):Tm prog w A E J (gal true y arr base n hint) Q st:=by
 refine Ca ak kd uy (λi hi=> ?_) (λi j hij hj h=> ?_) hh (λk k1 k2 k3=>q k k1 (λi hi x hx=> ?_) (λi h1 h2 x hx=> ?_))
 ·obtain⟨x,lx,ex⟩:=Vq (show base+i<arr.size by omega);exact⟨x,ex,u x (G8 lx)⟩
 ·obtain⟨x,lx,_⟩:=Vq (show base+i<arr.size by omega);obtain⟨z,lz,_⟩:=Vq (show base+j<arr.size by omega);rw [vC lz] at h;rw [vC lx];have hz:R z y=true:=by simpa using h
  rcases o.neg z x y (u z (G8 lz)) (u x (G8 lx)) uy hz with v|v
  ·rw [Vp s o u (by omega) lx lz] at v;cases v
  ·simp [v]
 ·have:=k2 i hi;rw [vC hx] at this;simpa using this
 ·have:=k3 i h1 h2;rw [vC hx] at this;simpa using this
section
variable {σ α β γ:Type}{c:Prop}[Decidable c]{t e:StateT σ Sem α}{Q:α->σ->Prop}{st:σ}{x y:β}{z:γ}
theorem Tm.if2 (T:c->Tm prog w A E J t Q st)(F: ¬c->Tm prog w A E J e Q st):Tm prog w A E J (if c then t else e) Q st:=by
 split
 ·exact T ‹_›
 ·exact F ‹_›
theorem Tm.eq2 {x y:Nat}(T:x=y->Tm prog w A E J t Q st)(F: ¬x=y->Tm prog w A E J e Q st):Tm prog w A E J (if (x==y)=true then t else e) Q st:=
 .if2 (λh=>T (eq_of_beq h)) λh=>F λg=>h (G1g.mpr g)
theorem Tm.both {f:β->StateT σ Sem α}(he:e=f y)(ht:t=f x)(H: ∀m,Tm prog w A E J (f m) Q st):Tm prog w A E J (if c then t else e) Q st:=by
 subst he ht;exact .if2 (λ_=>H _) λ_=>H _
theorem Tm.join {f:β->γ->StateT σ Sem α}{I:β->γ->Prop}(he:e=f x z)(G: ∀m o,I m o->Tm prog w A E J (f m o) Q st)(T:c->(∀m o,I m o->Tm prog w A E J (f m o) Q st)->Tm prog w A E J t Q st)(F: ¬c->I x z):Tm prog w A E J (if c then t else e) Q st:=by
 subst he;exact .if2 (λh=>T h G) λh=>G _ _ (F h)
end
theorem kK {A B C D F:Type}{P:A×B×C×D×F->Prop}(h: ∀a b c d f,P (a,b,c,d,f)): ∀c,P c:=λc=>h c.1 c.2.1 c.2.2.1 c.2.2.2.1 c.2.2.2.2
theorem kL {A B C D F G:Type}{P:A×B×C×D×F×G->Prop}(h: ∀a b c d f g,P (a,b,c,d,f,g)): ∀c,P c:=λc=>h c.1 c.2.1 c.2.2.1 c.2.2.2.1 c.2.2.2.2.1 c.2.2.2.2.2
theorem kM {A B C D F G H:Type}{P:A×B×C×D×F×G×H->Prop}(h: ∀a b c d f g k,P (a,b,c,d,f,g,k)): ∀c,P c:=λc=>h c.1 c.2.1 c.2.2.1 c.2.2.2.1 c.2.2.2.2.1 c.2.2.2.2.2.1 c.2.2.2.2.2.2
theorem yB {a:Array Keyed}(u: ∀x∈a.toList,U x){i:Nat}(h:i<a.size){P:Prop}(q: ∀y,a[i]? =some y->a.toList[i]? =some y->U y->P):P:=q a[i] (by simp [h]) (by simp [h]) (u _ (by simp))
structure LoI (R:Keyed->Keyed->Bool)(a b:Array Keyed)(st st':SortSt)(n:Nat)(out:Array Keyed)(ia ib:Nat):Prop where
 g:Gal st st'
 m:MA R a b ia ib out
 a:ia+1<a.size
 b:ib<b.size
 n:n<=ia+ib
def LoO (R:Keyed->Keyed->Bool)(a b:Array Keyed)(st st':SortSt)(n:Nat)(r:Option (Array Keyed))(out:Array Keyed)(ia ib:Nat):Prop:=Gal st st'/\match r with|some c=>Jn R a b c|none=>LoI R a b st st' n out ia ib
section
variable {a b out:Array Keyed}{st st':SortSt}{n k ia ib:Nat}
theorem LoI.more (h:LoI R a b st st' n out ia ib)(l:k<=n):LoI R a b st st' k out ia ib:=⟨h.g,h.m,h.a,h.b,R1 l h.n⟩
theorem LoI.here (h:LoI R a b st st' n out ia ib):LoI R a b st st' (ia+ib) out ia ib:=⟨h.g,h.m,h.a,h.b,P1 _⟩
theorem LoI.at {s:SortSt}(h:LoI R a b st st' n out ia ib)(g:Gal st s)(l:k<=n):LoI R a b st s k out ia ib:=⟨g,h.m,h.a,h.b,R1 l h.n⟩
theorem LoI.never {P:Prop}(h:LoI R a b st st' n out ia ib)(l:a.size+b.size<=n):P:=absurd (R1 l h.n) (Nat.not_le_of_lt (Nat.add_lt_add (A1 h.a) h.b))
end
theorem KS {a b:Array Keyed}{st:SortSt}{Q:Array Keyed->SortSt->Prop}(ak:Xx prog w A J κ U R)(kd:kindOf st=κ)(t:Two U R a b)
 (na:1<=a.size)(nb:1<=b.size)(first: ∀y z,b.toList[0]? =some y->a.toList[0]? =some z->R y z=true)
 (q: ∀c st',Gal st st'->Jn R a b c->Q c st'):Tm prog w A E J (mLo a b) Q st:=by
 refine .bind (.rule (.bind (yB t.ub nb λb0 eb0 lb0 ub0=> .elem eb0 ?_)));have m0:MA R a b 0 1 #[b0]:=MA.pushB t (out:= #[]) (MI.start _ _) lb0 (λz hz=>first _ z lb0 hz);refine .eq2 (x:=1) (y:=b.size) (λz1=> .pure (q _ _ (Gal.refl st) (MA.done t m0 (S8 _) nb (.inr z1)))) λz1=> .eq2 (x:=0+1) (y:=a.size) (λz2=> .pure (q _ _ (Gal.refl st) (MA.lastA t m0 z2 nb))) λz2=> .bind (.get ?_)
 refine .bind (Tm.mono (Tm.range (λi c st'=>LoI R a b st st' (i+1) c.2.1 c.2.2.1 c.2.2.2.1)
  (Q:=λc st'=> ∃r,c.1=some r/\Gal st st'/\Jn R a b r) (S8 _) ⟨Gal.refl st,m0,C1 na z2,C1 nb z1,P1 _⟩ ?_ ?_) ?_)
 ·intro i c st1 hi;revert c;refine kK λr out ia ib mg h=> ?_
  refine .bind (Tm.mono (Tm.range (λj c st'=>LoI R a b st st' (ia+ib+j) c.2.1 c.2.2.1 c.2.2.2.1)
   (Q:=λc st'=>LoO R a b st st' (ia+ib+1) c.1 c.2.1 c.2.2.1 c.2.2.2.1) (S8 _) h.here ?_ ?_) ?_)
  ·intro j c st2 hj;revert c;refine kL λr out ja jb ac bc h=> ?_
   refine .bind (yB t.ub h.b λy ey ly uy=> .elem ey (.bind (yB t.ua (A1 h.a) λx ex lx ux=> .elem ex (.bind (.lt ak (h.g.1.trans kd) uy ux (.if2 (c:=R y x=true) (λhb=> .bind (.elem ey ?_)) λhb=> .bind (.elem ex ?_)))))))
   ·have m1:=MA.pushB t h.m ly (λz hz=>by rw [lx] at hz;injection hz with hz;rw [<-hz];exact hb);refine .eq2 (x:=jb+1) (y:=b.size) (λc1=> .pure ⟨h.g,MA.done t m1 (D5 (A1 h.a)) h.b (.inr c1)⟩) λc1=> ?_
    have d:LoI R a b st st2 (ia+ib+(j+1)) (out.push y) ja (jb+1):=⟨h.g,m1,h.a,C1 (Y3 h.b) c1,Z6 h.n⟩;exact .if2 (λ_=> .pure ⟨h.g,d.more (V3 (U0 _ _) _)⟩) λ_=> .pure d
   ·have m1:=MA.pushA t h.m lx (λz hz=>by rw [ly] at hz;injection hz with hz;rw [<-hz];exact U6.mpr hb);refine .eq2 (x:=ja+1+1) (y:=a.size) (λc1=> .pure ⟨h.g,MA.lastA t m1 c1 (D5 h.b)⟩) λc1=> ?_
    have d:LoI R a b st st2 (ia+ib+(j+1)) (out.push x) (ja+1) jb:=⟨h.g,m1,C1 (Y3 h.a) c1,h.b,R1 (Z6 h.n) (J3 (Nat.succ_add _ _).symm)⟩;exact .if2 (λ_=> .pure ⟨h.g,d.more (V3 (U0 _ _) _)⟩) λ_=> .pure d
  ·exact λc st2 h=>h.never (U0 _ _)
  ·intro c st2;revert c;refine kL λr out ja jb ac bc h'=> ?_
   cases r with
   |some r=>exact .pure ⟨r,rfl,h'⟩
   |none=>
   replace h':=h'.2
   refine .bind (.rule (.bind (Tm.mono (Tm.range (λj c st'=>LoI R a b st st' (ja+jb+j) c.2.1 c.2.2.1 c.2.2.2.1)
    (Q:=λc st'=>LoO R a b st st' (ja+jb) c.1 c.2.1 c.2.2.1 c.2.2.2.1) (S8 _) h'.here ?_ ?_) ?_)))
   ·clear h;intro j c st2 hj;revert c;refine kM λr out pa pb mg ac bc h=> ?_
    refine yB t.ub h.b λy ey ly uy=> ?_
    have g2:0<a.size-pa:=Nat.sub_pos_of_lt (A1 h.a);have g1:pa+(a.size-pa)<=a.size:=J3 (G0l (D5 (A1 h.a)));refine Tm.both (y:=mg) (x:=mg-1) (by rfl) (by rfl) λmg=> ?_
    refine .bind (Tm.modify (.bind (.elem ey (.bind (qu (base:=pa) (n:=a.size-pa) ak (h.g.1.trans kd) t.o t.ua t.sa uy g1 g2 λk k1 k2 k3=> ?_)))));refine Tm.join (I:=λo ia=>MA R a b ia pb o/\ia+1<a.size/\pa<=ia/\ ∀x,a.toList[ia]? =some x->R y x=true) (x:=out) (z:=pa) (by rfl) ?_ ?_ ?_
    ·refine λo qa i1=> ?_
     have M2:=MA.pushB t i1.1 ly i1.2.2.2;have p1:=A1 i1.2.1;refine .bind (.elem ey (.eq2 (x:=pb+1) (y:=b.size) (λc3=> .pure ⟨h.g,MA.done t M2 (D5 p1) (J3 c3) (.inr c3)⟩) λc3=> ?_));have c8:pb+1<b.size:=C1 (Y3 h.b) c3;have g2:=Nat.sub_pos_of_lt c8;refine .bind (yB t.ua p1 λx ex lx ux=> .elem ex (.bind (qw (base:=pb+1) (n:=b.size-(pb+1)) ak (h.g.1.trans kd) t.o t.ub t.sb ux (J3 (G0l (D5 c8))) g2 λk' q1 q2 q3=> ?_)));dsimp only;generalize ep:pb+1=p2 at M2 q1 q2 q3 c8 g2 ⊢;generalize eo:o.push y=o2 at M2 ⊢;refine Tm.join (I:=λo ib=>MA R a b qa ib o/\ib<b.size/\p2<=ib/\ ∀x',b.toList[ib]? =some x'->R x' x=false) (x:=o2) (z:=p2) (by rfl) ?_ ?_ ?_
     ·refine λo qb i2=> ?_
      have M4:=MA.pushA t i2.1 lx i2.2.2.2;refine .bind (.elem ex (.eq2 (x:=qa+1+1) (y:=a.size) (λc5=> .pure ⟨h.g,MA.lastA t M4 c5 (D5 i2.2.1)⟩) λc5=> ?_));have n1:ja+jb+j<=pa+pb:=h.n;have n2:ja+jb+(j+1)<=qa+1+qb:=by have:=i1.2.2.1;have:=i2.2.2.1;omega
      have d:LoI R a b st st2 (ja+jb+(j+1)) (o.push x) (qa+1) qb:=⟨h.g,M4,C1 (Y3 i1.2.1) c5,i2.2.1,n2⟩;exact .if2 (λ_=> .pure ⟨h.g,d.at h.g (Q6 _ _)⟩) λ_=> .pure (d.at h.g (P1 _))
     ·intro kz' H;have g3:p2+k'<=b.size:=R1 (V3 q1 _) (J3 (G0l (D5 c8)));have M3:=MA.manyB t M2 k' g3 (λi hi y' hy z hz=>by rw [lx] at hz;injection hz with hz;rw [<-hz];exact q2 i hi y' hy);exact .eq2 (x:=p2+k') (y:=b.size) (λc4=> .pure ⟨h.g,MA.done t M3 (D5 p1) g3 (.inr c4)⟩) λc4=>H _ _ ⟨M3,C1 g3 c4,Q6 _ _,λz hz=>q3 k' (P1 _) (by omega) z hz⟩
     ·exact λkz'=>⟨M2,c8,P1 _,λz hz=>q3 0 (G0V kz') g2 z hz⟩
    ·intro kz H;have g3:pa+k<=a.size:=R1 (V3 k1 _) g1;have m1:=MA.manyA t h.m k g3 (λi hi x hx z hz=>by rw [ly] at hz;injection hz with hz;rw [<-hz];exact k2 i hi x hx);exact .eq2 (x:=pa+k+1) (y:=a.size) (λc1=> .pure ⟨h.g,MA.lastA t m1 c1 (D5 h.b)⟩) λc1=> .eq2 (x:=pa+k) (y:=a.size) (λc2=> .pure ⟨h.g,MA.done t m1 g3 (D5 h.b) (.inl c2)⟩) λc2=>H _ _ ⟨m1,C1 (C1 g3 c2) c1,Q6 _ _,λx hx=>k3 k (P1 _) (by omega) x hx⟩
    ·exact λkz=>⟨h.m,h.a,P1 _,λx hx=>k3 0 (G0V kz) g2 x hx⟩
   ·exact λc st3 h=>h.never (U0 _ _)
   ·intro c st3;revert c;refine kM λr out pa pb mg ac bc h3=> ?_
    cases r with
    |some r=>exact .pure ⟨r,rfl,h3⟩
    |none=>exact .bind (Tm.modify (.pure (h3.2.at h3.1 (R1 (Z6 h.n) h'.n))))
 ·exact λc st1 h=>h.never (Q6 _ _)
 ·intro c st1;revert c;refine kK λr out ia ib mg h=> ?_
  obtain⟨c,rfl,gl,wh⟩:=h;exact .pure (q c st1 gl wh)
end
section
variable {prog:Program}{w:World}{A:Around}{E:Value->Shared->Prop}{J:Shared->Prop}{κ:SortKind}{U:Keyed->Prop}{R:Keyed->Keyed->Bool}
abbrev Flp (R:Keyed->Keyed->Bool):Keyed->Keyed->Bool:=λx y=>R y x
theorem Ordd.flip (o:Ordd U R):Ordd U (Flp R):=⟨λx y ux uy h=>o.asym y x uy ux h,λx y z ux uy uz h=>(o.neg z y x uz uy ux h).symm⟩
variable {l:List Keyed}
theorem zR (s:Srt R l):Srt (Flp R) l.reverse:=U1.mpr s
theorem Rr (s:Srt (Flp R) l):Srt R l.reverse:=U1.mpr s
variable {n:Nat}
theorem Cb (h1:1<=n)(hn:n<=l.length):l.reverse[l.length-n]? =l[n-1]? :=by
 rw [U2 (by omega)]
 congr 1;omega
theorem wR {z:Keyed}(hn:n<=l.length)(h:l.reverse[l.length-n]? =some z):1<=n/\l[n-1]? =some z:=by
 have:=(G7.mp h).1;rw [T0] at this;have n1:1<=n:=by omega
 exact⟨n1,by rw [<-Cb n1 hn];exact h⟩
theorem ZP (l:List Keyed){n:Nat}(hn:n<=l.length):l.reverse.drop (l.length-n)=(l.take n).reverse:=by
 rw [List.drop_reverse]
 congr 2;omega
def MH (R:Keyed->Keyed->Bool)(a b:Array Keyed)(na nb:Nat)(out:Array Keyed):Prop:=MI (Flp R) b.toList.reverse a.toList.reverse (b.toList.length-nb) (a.toList.length-na) out.toList
structure TwoH (U:Keyed->Prop)(R:Keyed->Keyed->Bool)(a b:Array Keyed):Prop where
 o:Ordd U R
 ua: ∀x∈a.toList,U x
 ub: ∀x∈b.toList,U x
 sa:Srt R a.toList
 sb:Srt R b.toList
 first: ∀z∈a.toList,∀y,b.toList[0]? =some y->R y z=true
section
variable {a b out:Array Keyed}{na nb:Nat}
theorem TwoH.fa (t:TwoH U R a b): ∀x∈a.toList.reverse,U x:=λx hx=>t.ua x (O4.mp hx)
theorem TwoH.fb (t:TwoH U R a b): ∀x∈b.toList.reverse,U x:=λx hx=>t.ub x (O4.mp hx)
theorem MH.start (a b:Array Keyed):MH R a b a.toList.length b.toList.length #[]:=by
 unfold MH;rw [Nat.sub_self,Nat.sub_self];exact MI.start _ _
theorem MH.pushA (t:TwoH U R a b){y:Keyed}(m:MH R a b na nb out)(h1:1<=na)(hn:na<=a.toList.length)(hb:nb<=b.toList.length)(hy:a.toList[na-1]? =some y)(lt: ∀z,1<=nb->b.toList[nb-1]? =some z->R z y=true):MH R a b (na-1) nb (out.push y):=by
 have:=MI.pushB m t.o.flip t.fb t.fa (zR t.sb) (zR t.sa) (by rw [Cb h1 hn];exact hy) (λz hz=>lt z (wR hb hz).1 (wR hb hz).2);unfold MH;rw [O8,show a.toList.length-(na-1)=a.toList.length-na+1 by omega];exact this
theorem MH.pushB (t:TwoH U R a b){y:Keyed}(m:MH R a b na nb out)(h1:1<=nb)(hn:nb<=b.toList.length)(ha:na<=a.toList.length)(hy:b.toList[nb-1]? =some y)(ge: ∀z,1<=na->a.toList[na-1]? =some z->R y z=false):MH R a b na (nb-1) (out.push y):=by
 have:=MI.pushA m t.o.flip t.fb t.fa (zR t.sb) (zR t.sa) (by rw [Cb h1 hn];exact hy) (λz hz=>ge z (wR ha hz).1 (wR ha hz).2);unfold MH;rw [O8,show b.toList.length-(nb-1)=b.toList.length-nb+1 by omega];exact this
theorem ZQ (a:Array Keyed)(n:Nat):(a.extract 0 n).toList=a.toList.take n:=by
 rw [K0,List.extract_eq_drop_take,G0B,G1B]
theorem MH.done (t:TwoH U R a b)(m:MH R a b na nb out)(ha:na<=a.toList.length)(hb:nb<=b.toList.length)(h:na=0\/nb=0):Jn R a b (a.extract 0 na++b.extract 0 nb++out.reverse):=by
 have:=MI.done m t.o.flip t.fb t.fa (zR t.sb) (zR t.sa) (by rw [T0];omega) (by rw [T0];omega) (by rw [T0,T0];omega);rw [ZP _ ha,ZP _ hb] at this;have e:(a.extract 0 na++b.extract 0 nb++out.reverse).toList=(out.toList++(b.toList.take nb).reverse++(a.toList.take na).reverse).reverse:=by
  rw [M1,M1,ZQ,ZQ,G0a];simp [P2]
 unfold Jn;rw [e];refine⟨(A2 _).trans (this.1.trans ?_),Rr this.2⟩;exact(List.Perm.append (A2 _) (A2 _)).trans Q9
theorem MH.firstB (t:TwoH U R a b)(m:MH R a b na nb out)(ha:na<=a.toList.length)(hb:nb=1)(hb':1<=b.toList.length):Jn R a b (b.extract 0 nb++a.extract 0 na++out.reverse):=by
 subst hb;have:=MI.lastA m t.o.flip t.fb t.fa (zR t.sb) (zR t.sa) (by rw [T0];omega) (by rw [T0];omega) (λz hz y hy=>by
  rw [T0] at hy;have:=(wR hb' hy).2;exact t.first z (O4.mp hz) y (by simpa using this))
 rw [ZP _ ha,ZP _ hb'] at this;have e:(b.extract 0 1++a.extract 0 na++out.reverse).toList=(out.toList++(a.toList.take na).reverse++(b.toList.take 1).reverse).reverse:=by
  rw [M1,M1,ZQ,ZQ,G0a];simp [P2]
 unfold Jn;rw [e];refine⟨(A2 _).trans (this.1.trans ?_),Rr this.2⟩;exact(List.Perm.append (A2 _) (A2 _)).trans Q9
theorem Rs (l:List Keyed){p n:Nat}(h1:p<=n)(hn:n<=l.length):(l.reverse.drop (l.length-n)).take (n-p)=((l.drop p).take (n-p)).reverse:=by
 rw [ZP l hn,List.take_reverse,D4,G1l,K8 hn,show n-(n-p)=p by omega]
theorem Cc (a:Array Keyed){p n:Nat}(h:p<=n):(a.extract p n).reverse.toList=((a.toList.drop p).take (n-p)).reverse:=by
 rw [G0a,K0,List.extract_eq_drop_take]
theorem MH.manyA (t:TwoH U R a b)(m:MH R a b na nb out)(p:Nat)(hp:p<=na)(hn:na<=a.toList.length)(hb:nb<=b.toList.length)(h: ∀i,p<=i->i<na-> ∀y,a.toList[i]? =some y-> ∀z,1<=nb->b.toList[nb-1]? =some z->R z y=true):MH R a b p nb (out++(a.extract p na).reverse):=by
 have:=MI.manyB t.o.flip t.fb t.fa (zR t.sb) (zR t.sa) (na-p) m (by rw [T0];omega) (λi hi y hy z hz=>by
  rw [U2 (by omega)] at hy;exact h _ (by omega) (by omega) y hy z (wR hb hz).1 (wR hb hz).2)
 rw [Rs _ hp hn] at this;unfold MH;rw [M1,Cc _ hp,show a.toList.length-p=a.toList.length-na+(na-p) by omega];exact this
theorem MH.manyB (t:TwoH U R a b)(m:MH R a b na nb out)(p:Nat)(hp:p<=nb)(hn:nb<=b.toList.length)(ha:na<=a.toList.length)(h: ∀i,p<=i->i<nb-> ∀y,b.toList[i]? =some y-> ∀z,1<=na->a.toList[na-1]? =some z->R y z=false):MH R a b na p (out++(b.extract p nb).reverse):=by
 have:=MI.manyA t.o.flip t.fb t.fa (zR t.sb) (zR t.sa) (nb-p) m (by rw [T0];omega) (λi hi y hy z hz=>by
  rw [U2 (by omega)] at hy;exact h _ (by omega) (by omega) y hy z (wR ha hz).1 (wR ha hz).2)
 rw [Rs _ hp hn] at this;unfold MH;rw [M1,Cc _ hp,show b.toList.length-p=b.toList.length-nb+(nb-p) by omega];exact this
end
def mHi:Array Keyed->Array Keyed->StateT SortSt Sem (Array Keyed):=sortPriv% PySem.Builtin.mergeHi
section
variable {arr:Array Keyed}{y:Keyed}{n hint:Nat}{st:SortSt}{Q:Option Nat->SortSt->Prop}
theorem xu (ak:Xx prog w A J κ U R)(kd:kindOf st=κ)(o:Ordd U R)(u: ∀x∈arr.toList,U x)(s:Srt R arr.toList)(uy:U y)(hn:n<=arr.size)(hh:hint<n)
 (q: ∀k,k<=n->(∀i,i<k-> ∀x,arr.toList[i]? =some x->R y x=false)->(∀i,k<=i->i<n-> ∀x,arr.toList[i]? =some x->R y x=true)->Q (some k) st):Tm prog w A E J (gal false y arr 0 n hint) Q st:=
 qu ak kd o u s uy (by rw [E5];exact hn) hh λk h k2 k3=>q k h (λi hi x hx=>k2 i hi x (by rw [E5];exact hx)) λi hi hj x hx=>k3 i hi hj x (by rw [E5];exact hx)
theorem xv (ak:Xx prog w A J κ U R)(kd:kindOf st=κ)(o:Ordd U R)(u: ∀x∈arr.toList,U x)(s:Srt R arr.toList)(uy:U y)(hn:n<=arr.size)(hh:hint<n)
 (q: ∀k,k<=n->(∀i,i<k-> ∀x,arr.toList[i]? =some x->R x y=true)->(∀i,k<=i->i<n-> ∀x,arr.toList[i]? =some x->R x y=false)->Q (some k) st):Tm prog w A E J (gal true y arr 0 n hint) Q st:=
 qw ak kd o u s uy (by rw [E5];exact hn) hh λk h k2 k3=>q k h (λi hi x hx=>k2 i hi x (by rw [E5];exact hx)) λi hi hj x hx=>k3 i hi hj x (by rw [E5];exact hx)
end
structure HiI (R:Keyed->Keyed->Bool)(a b:Array Keyed)(st st':SortSt)(n N na nb:Nat)(out:Array Keyed):Prop where
 g:Gal st st'
 m:MH R a b na nb out
 a':na<=a.size
 b':nb<=b.size
 a:1<=na
 b:2<=nb
 n:n+na+nb<=N
def HiO (R:Keyed->Keyed->Bool)(a b:Array Keyed)(st st':SortSt)(n N:Nat)(r:Option (Array Keyed))(na nb:Nat)(out:Array Keyed):Prop:=Gal st st'/\match r with|some c=>Jn R a b c|none=>HiI R a b st st' n N na nb out
section
variable {a b out:Array Keyed}{st st' s:SortSt}{n N k M na nb:Nat}
theorem HiI.at (h:HiI R a b st st' n N na nb out)(g:Gal st s)(l:n+na+nb<=N->k+na+nb<=M):HiI R a b st s k M na nb out:=⟨g,h.m,h.a',h.b',h.a,h.b,l h.n⟩
theorem HiI.here (h:HiI R a b st st' n N na nb out):HiI R a b st st' 0 (na+nb) na nb out:=h.at h.g λ_=>by omega
theorem HiI.never {P:Prop}(h:HiI R a b st st' n N na nb out)(l:N<=n):P:=by have:=h.n;have:=h.a;omega
theorem HiI.le (h:HiI R a b st st' n N na nb out):na+nb<=a.size+b.size:=Nat.add_le_add h.a' h.b'
theorem HiI.a1 (h:HiI R a b st st' n N na nb out):na-1<a.size:=S6 (Y4 h.a Nat.one_pos) h.a'
theorem HiI.b1 (h:HiI R a b st st' n N na nb out):nb-1<b.size:=S6 (Y4 (A1 h.b) Nat.one_pos) h.b'
end
theorem AD (h:2<=n)(c: ¬n-1=1):2<=n-1:=by omega
theorem Cd (c: ¬n-1=0):1<=n-1:=X0 c
theorem KU {a b:Array Keyed}{st:SortSt}{Q:Array Keyed->SortSt->Prop}(ak:Xx prog w A J κ U R)(kd:kindOf st=κ)(t:TwoH U R a b)
 (na:1<=a.size)(nb:1<=b.size)(last: ∀y z,b.toList[b.size-1]? =some y->a.toList[a.size-1]? =some z->R y z=true)
 (q: ∀c st',Gal st st'->Jn R a b c->Q c st'):Tm prog w A E J (mHi a b) Q st:=by
 refine .bind (.rule (.bind (yB t.ua (Y4 na Nat.one_pos) λa0 ea0 la0 ua0=> .elem ea0 ?_)));have m0:MH R a b (a.size-1) b.size #[a0]:=MH.pushA t (MH.start (R:=R) a b) na (P1 _) (P1 _) la0 (λz _ hz=>last z a0 hz la0);have n1:a.size-1<=a.size:=Nat.sub_le _ _;refine .eq2 (x:=a.size-1) (y:=0) (λz1=> .pure (q _ _ (Gal.refl st) (MH.done t m0 n1 (P1 _) (.inl z1)))) λz1=> .eq2 (x:=b.size) (y:=1) (λz2=> .pure (q _ _ (Gal.refl st) (MH.firstB t m0 n1 z2 nb))) λz2=> .bind (.get ?_)
 refine .bind (Tm.mono (Tm.range (λi c st'=>HiI R a b st st' (i+1) (a.size+b.size) c.2.1 c.2.2.1 c.2.2.2.1)
  (Q:=λc st'=> ∃r,c.1=some r/\Gal st st'/\Jn R a b r) (Nat.zero_le _) ⟨Gal.refl st,m0,n1,Nat.le_refl _,Cd z1,by dsimp only;omega,by dsimp only;omega⟩ ?_ ?_) ?_)
 ·intro i c st1 hi;revert c;refine kK λr ia ib out mg h=> ?_
  refine .bind (Tm.mono (Tm.range (λj c st'=>HiI R a b st st' j (ia+ib) c.2.1 c.2.2.1 c.2.2.2.1)
   (Q:=λc st'=>HiO R a b st st' 1 (ia+ib) c.1 c.2.1 c.2.2.1 c.2.2.2.1) (S8 _) h.here ?_ ?_) ?_)
  ·intro j c st2 hj;revert c;refine kL λr ja jb out ac bc h=> ?_
   refine .bind (yB t.ub h.b1 λy ey ly uy=> .elem ey (.bind (yB t.ua h.a1 λx ex lx ux=> .elem ex (.bind (.lt ak (h.g.1.trans kd) uy ux (.if2 (c:=R y x=true) (λhb=> .bind (.elem ex ?_)) λhb=> .bind (.elem ey ?_)))))))
   ·have m1:=MH.pushA t h.m h.a h.a' h.b' lx (λz _ hz=>by rw [ly] at hz;injection hz with hz;rw [<-hz];exact hb);refine .eq2 (x:=ja-1) (y:=0) (λc1=> .pure ⟨h.g,MH.done t m1 (D5 h.a1) h.b' (.inl c1)⟩) λc1=> ?_
    have d:HiI R a b st st2 (j+1) (ia+ib) (ja-1) jb (out.push x):=⟨h.g,m1,D5 h.a1,h.b',Cd c1,h.b,by have:j+ja+jb<=ia+ib:=h.n;have:1<=ja:=h.a;have:2<=jb:=h.b;omega⟩;exact .if2 (λ_=> .pure ⟨h.g,d.at h.g λ_=>by omega⟩) λ_=> .pure d
   ·have m1:=MH.pushB t h.m (D5 h.b) h.b' h.a' ly (λz _ hz=>by rw [lx] at hz;injection hz with hz;rw [<-hz];exact U6.mpr hb);refine .eq2 (x:=jb-1) (y:=1) (λc1=> .pure ⟨h.g,MH.firstB t m1 h.a' c1 nb⟩) λc1=> ?_
    have d:HiI R a b st st2 (j+1) (ia+ib) ja (jb-1) (out.push y):=⟨h.g,m1,h.a',D5 h.b1,h.a,AD h.b c1,by have:j+ja+jb<=ia+ib:=h.n;have:1<=ja:=h.a;have:2<=jb:=h.b;omega⟩;exact .if2 (λ_=> .pure ⟨h.g,d.at h.g λ_=>by omega⟩) λ_=> .pure d
  ·exact λc st2 h'=>h'.never h.le
  ·intro c st2;revert c;refine kL λr ja jb out ac bc h'=> ?_
   cases r with
   |some r=>exact .pure ⟨r,rfl,h'⟩
   |none=>
   replace h':=h'.2
   refine .bind (.rule (.bind (Tm.mono (Tm.range (λj c st'=>HiI R a b st st' j (ja+jb) c.2.1 c.2.2.1 c.2.2.2.1)
    (Q:=λc st'=>HiO R a b st st' 0 (ja+jb) c.1 c.2.1 c.2.2.1 c.2.2.2.1) (S8 _) h'.here ?_ ?_) ?_)))
   ·clear h;intro j c st2 hj;revert c;refine kM λr pa pb out mg ac bc h=> ?_
    refine yB t.ub h.b1 λy ey ly uy=> ?_
    refine Tm.both (y:=mg) (x:=mg-1) (by rfl) (by rfl) λmg=> ?_
    refine .bind (Tm.modify (.bind (.elem ey (.bind (xu (n:=pa) ak (h.g.1.trans kd) t.o t.ua t.sa uy h.a' (Y4 h.a Nat.one_pos) λk k1 k2 k3=> ?_)))));dsimp only;generalize eac:pa-k=ac;refine Tm.join (I:=λna o=>MH R a b na pb o/\1<=na/\na<=pa/\ ∀z,a.toList[na-1]? =some z->R y z=false) (x:=pa) (z:=out) (by rfl) ?_ ?_ ?_
    ·refine λqa o i1=> ?_
     have la:=R1 i1.2.2.1 h.a';have M2:=MH.pushB t i1.1 (D5 h.b) h.b' la ly (λz _ hz=>i1.2.2.2 z hz);refine .bind (.elem ey (.eq2 (x:=pb-1) (y:=1) (λc3=> .pure ⟨h.g,MH.firstB t M2 la c3 nb⟩) λc3=> ?_));have c8:=AD h.b c3;have lb:=D5 h.b1;have n1:j+pa+pb<=ja+jb:=h.n;have n2:pb=pb-1+1:=(Nat.sub_add_cancel (D5 h.b)).symm;refine .bind (yB t.ua (S6 (Y4 i1.2.1 Nat.one_pos) la) λx ex lx ux=> .elem ex (.bind (xv (n:=pb-1) ak (h.g.1.trans kd) t.o t.ub t.sb ux lb (Y4 (A1 c8) Nat.one_pos) λk' q1 q2 q3=> ?_)));dsimp only;dsimp only at c8 lb;generalize ep:pb-1=p2 at M2 q1 q2 q3 c8 lb n2 ⊢;generalize eo:o.push y=o2 at M2 ⊢;generalize ebc:p2-k'=bc;refine Tm.join (I:=λnb o=>MH R a b qa nb o/\2<=nb/\nb<=p2/\ ∀z,b.toList[nb-1]? =some z->R z x=true) (x:=p2) (z:=o2) (by rfl) ?_ ?_ ?_
     ·refine λqb o i2=> ?_
      have lb':=R1 i2.2.2.1 lb;have M4:=MH.pushA t i2.1 i1.2.1 la lb' lx (λz _ hz=>i2.2.2.2 z hz);have la':=R1 (Nat.sub_le qa 1) la;refine .bind (.elem ex (.eq2 (x:=qa-1) (y:=0) (λc5=> .pure ⟨h.g,MH.done t M4 la' lb' (.inl c5)⟩) λc5=> ?_));have n3:j+1+(qa-1)+qb<=ja+jb:=by have:=i1.2.1;have:=i1.2.2.1;have:=i2.2.2.1;omega
      have d:HiI R a b st st2 (j+1) (ja+jb) (qa-1) qb (o.push x):=⟨h.g,M4,la',lb',Cd c5,i2.2.1,n3⟩;exact .if2 (λ_=> .pure ⟨h.g,d.at h.g λ_=>by omega⟩) λ_=> .pure (d.at h.g id)
     ·intro kz' H;have M3:=MH.manyB t M2 k' q1 lb la (λi hi1 hi2 y' hy z hz1 hz=>by rw [lx] at hz;injection hz with hz;rw [<-hz];exact q3 i hi1 hi2 y' hy);exact .eq2 (x:=k') (y:=1) (λc4=> .pure ⟨h.g,MH.firstB t M3 la c4 nb⟩) λc4=> .eq2 (x:=k') (y:=0) (λc7=> .pure ⟨h.g,MH.done t M3 la (R1 q1 lb) (.inr c7)⟩) λc7=>H _ _ ⟨M3,by omega,q1,λz hz=>q2 (k'-1) (Y4 (X0 c7) Nat.one_pos) z hz⟩
     ·exact λkz'=>⟨M2,c8,P1 _,λz hz=>q2 (p2-1) (by omega) z hz⟩
    ·intro kz H;have m1:=MH.manyA t h.m k k1 h.a' h.b' (λi hi1 hi2 x hx z hz1 hz=>by rw [ly] at hz;injection hz with hz;rw [<-hz];exact k3 i hi1 hi2 x hx);exact .eq2 (x:=k) (y:=0) (λc1=> .pure ⟨h.g,MH.done t m1 (R1 k1 h.a') h.b' (.inl c1)⟩) λc1=>H _ _ ⟨m1,X0 c1,k1,λz hz=>k2 (k-1) (Y4 (X0 c1) Nat.one_pos) z hz⟩
    ·exact λkz=>⟨h.m,h.a,P1 _,λz hz=>k2 (pa-1) (by have:1<=pa:=h.a;omega) z hz⟩
   ·exact λc st3 h=>h.never h'.le
   ·intro c st3;revert c;refine kM λr pa pb out mg ac bc h3=> ?_
    cases r with
    |some r=>exact .pure ⟨r,rfl,h3⟩
    |none=>exact .bind (Tm.modify (.pure (h3.2.at h3.1 λl=>by have n1:i+1+ia+ib<=a.size+b.size:=h.n;have n2:1+ja+jb<=ia+ib:=h'.n;dsimp only at l ⊢;omega)))
 ·exact λc st1 h=>h.never (Q6 _ _)
 ·intro c st1;revert c;refine kK λr ia ib out mg h=> ?_
  obtain⟨c,rfl,gl,wh⟩:=h;exact .pure (q c st1 gl wh)
end
section
variable {prog:Program}{w:World}{A:Around}{E:Value->Shared->Prop}{J:Shared->Prop}{κ:SortKind}{U:Keyed->Prop}{R:Keyed->Keyed->Bool}
def seg (l:List Keyed)(p n:Nat):List Keyed:=(l.drop p).take n
variable {n:Nat}
theorem UH {l:List Keyed}{p i:Nat}(hi:i<n):(seg l p n)[i]? =l[p+i]? :=by
 unfold seg;rw [K5 hi,J6]
theorem Vr {l:List Keyed}{p:Nat}(h:p+n<=l.length):(seg l p n).length=n:=by
 unfold seg;rw [D4,S7];omega
theorem PL {l:List Keyed}{p:Nat}{x:Keyed}(h:x∈seg l p n):x∈l:=M6 (M7 h)
theorem qx {left:Bool}{arr:Array Keyed}{y:Keyed}{base hint:Nat}{st:SortSt}{Q:Option Nat->SortSt->Prop}(ak:Xx prog w A J κ U R)(kd:kindOf st=κ)(o:Ordd U R)(u: ∀x∈arr.toList,U x)(s:Srt R (seg arr.toList base n))(uy:U y)(hn:base+n<=arr.size)(hh:hint<n)
 (q: ∀k,k<=n->(∀x∈(seg arr.toList base n).take k,(if left=true then R x y else !R y x)=true)->(∀x∈(seg arr.toList base n).drop k,(if left=true then R x y else !R y x)=false)->Q (some k) st):Tm prog w A E J (gal left y arr base n hint) Q st:=by
 have ln:arr.toList.length=arr.size:=by simp
 have sl:(seg arr.toList base n).length=n:=Vr (by omega);have us: ∀x∈seg arr.toList base n,U x:=λx hx=>u x (PL hx)
 refine Ca ak kd uy (λi hi=> ?_) (λi j hij hj h=> ?_) hh (λk k1 k2 k3=>q k k1 (λx hx=> ?_) (λx hx=> ?_))
 ·obtain⟨x,lx,ex⟩:=Vq (show base+i<arr.size by omega);exact⟨x,ex,u x (G8 lx)⟩
 ·obtain⟨x,lx,_⟩:=Vq (show base+i<arr.size by omega);obtain⟨z,lz,_⟩:=Vq (show base+j<arr.size by omega);have ux:=u x (G8 lx);have uz:=u z (G8 lz);have le:=Vp s o us hij (by rw [UH (by omega)];exact lx) (by rw [UH hj];exact lz);rw [vC lz] at h;rw [vC lx];cases left with
  |true=>
   have hz:R z y=true:=by simpa using h
   rcases o.neg z x y uz ux uy hz with v|v
   ·rw [le] at v;cases v
   ·simp [v]
  |false=>
   have hz:R y z=false:=by simpa using h
   have:=o.trans ux uz uy le hz;simp [this]
 ·obtain⟨i,hi,e⟩:=C6 hx;rw [D4,sl] at hi;have lx:arr.toList[base+i]? =some x:=by
   rw [<-UH (n:=n) (by omega),G1 (by omega),<-e,List.getElem_take]
  have:=k2 i (by omega);rw [vC lx] at this;exact this
 ·obtain⟨i,hi,e⟩:=C6 hx;rw [S7,sl] at hi;have lx:arr.toList[base+(k+i)]? =some x:=by
   rw [<-UH (n:=n) (by omega),G1 (by omega),<-e,G0K]
  have:=k3 (k+i) (by omega) (by omega);rw [vC lx] at this;exact this
theorem Rt: ∀ (m:List Keyed) (arr:Array Keyed) (p d:Nat),p+d+m.length<=arr.size->((m.zipIdx d).foldl (λ(c:Array Keyed) (x:Keyed×Nat)=>c.setIfInBounds (p+x.2) x.1) arr).toList=arr.toList.take (p+d)++m++arr.toList.drop (p+d+m.length)
 | [],arr,p,d,_=>by simp
 |x::m,arr,p,d,h=>by
  rw [P9] at h;rw [List.zipIdx_cons,List.foldl_cons];rw [Rt m _ p (d+1) (by rw [G0L];omega)];have hl:arr.toList.length=arr.size:=by simp
  rw [G0s];have e1:(arr.toList.set (p+d) x).take (p+(d+1))=arr.toList.take (p+d)++ [x]:=by
   rw [show p+(d+1)=p+d+1 by omega,N6,X3 (by omega)];rw [List.take_set_of_le (P1 _)];rfl
  have e2:(arr.toList.set (p+d) x).drop (p+(d+1)+m.length)=arr.toList.drop (p+d+(m.length+1)):=by
   rw [List.drop_set_of_lt (by omega),show p+(d+1)+m.length=p+d+(m.length+1) by omega]
  rw [e1,e2,P9];simp [P2]
end
section
variable {prog:Program}{w:World}{A:Around}{E:Value->Shared->Prop}{J:Shared->Prop}{κ:SortKind}{U:Keyed->Prop}{R:Keyed->Keyed->Bool}
theorem Tm.set {σ:Type}{st st':σ}{Q:PUnit->σ->Prop}(q:Q ⟨⟩ st'):Tm prog w A E J (MonadStateOf.set st':StateT σ Sem PUnit) Q st:=λs j=>by
 show wpAny _ _ ((StateT.set st':StateT σ Sem PUnit).run st) _ _ _;exact P0 ⟨q,j⟩
theorem Ce (a:Array Keyed){p n:Nat}(h:p<=n):(a.extract p n).toList=seg a.toList p (n-p):=by
 rw [K0,List.extract_eq_drop_take];rfl
theorem Cf (o:Ordd U R){l:List Keyed}(u: ∀x∈l,U x)(s:Srt R l){z:Keyed}(hz:l[l.length-1]? =some z){x:Keyed}(hx:x∈l):R z x=false:=by
 obtain⟨i,hi,e⟩:=C6 hx;exact Vp s o u (show i<=l.length-1 by omega) (by rw [G1 hi,e]) hz
theorem Ru (o:Ordd U R){l:List Keyed}(u: ∀x∈l,U x)(s:Srt R l){z:Keyed}(hz:l[0]? =some z){x:Keyed}(hx:x∈l):R x z=false:=by
 obtain⟨i,hi,e⟩:=C6 hx;exact Vp s o u (S8 _) hz (by rw [G1 hi,e])
theorem Vs (o:Ordd U R){X Y c:List Keyed}{k k2:Nat}{y0 x9:Keyed}(uX: ∀x∈X,U x)(uY: ∀x∈Y,U x)(sX:Srt R X)(sY:Srt R Y)(hy:Y[0]? =some y0)(hx:X[X.length-1]? =some x9)
 (f1: ∀x∈X.take k,R y0 x=false)(g2: ∀y∈Y.drop k2,R y x9=false)(hp:c.Perm (X.drop k++Y.take k2))(sc:Srt R c):(X.take k++c++Y.drop k2).Perm (X++Y)/\Srt R (X.take k++c++Y.drop k2):=by
 have uy0:=uY y0 (G8 hy);have ux9:=uX x9 (G8 hx);constructor
 ·have e:X++Y=X.take k++(X.drop k++Y.take k2)++Y.drop k2:=by
   rw [<-P2,R5,P2,R5]
  rw [e];exact(hp.append_left _).append_right _
 ·have inX: ∀x∈X.take k,∀z∈X.drop k,R z x=false:=λx hx z hz=>by
   have:Srt R (X.take k++X.drop k):=by rw [R5];exact sX
   exact(R9.mp this).2.2 x hx z hz
  have inY: ∀x∈Y.take k2,∀z∈Y.drop k2,R z x=false:=λx hx z hz=>by
   have:Srt R (Y.take k2++Y.drop k2):=by rw [R5];exact sY
   exact(R9.mp this).2.2 x hx z hz
  have xy: ∀x∈X.take k,∀y∈Y,R y x=false:=λx hx y hy'=>o.trans (uX x (M7 hx)) uy0 (uY y hy') (f1 x hx) (Ru o uY sY hy hy')
  have yx: ∀x∈X,∀y∈Y.drop k2,R y x=false:=λx hx' y hy'=>o.trans (uX x hx') ux9 (uY y (M6 hy')) (Cf o uX sX hx hx') (g2 y hy')
  have xc: ∀x∈X.take k,∀z∈c,R z x=false:=λx hx z hz=>by
   rcases P6.mp (hp.mem_iff.mp hz) with v|v
   ·exact inX x hx z v
   ·exact xy x hx z (M7 v)
  refine R9.mpr ⟨R9.mpr ⟨sX.sublist (E6 _ _),sc,xc⟩,sY.sublist (L0 _ _),λx hx y hy=> ?_⟩;rcases P6.mp hx with v|v
  ·exact xy x v y (M6 hy)
  ·rcases P6.mp (hp.mem_iff.mp v) with v|v
   ·exact yx x (M6 v) y hy
   ·exact inY x v y hy
theorem Gb (l:List Keyed){p n m:Nat}:l=l.take p++(seg l p n++seg l (p+n) m)++l.drop (p+n+m):=by
 unfold seg;have e1:(l.drop (p+n)).take m++l.drop (p+n+m)=l.drop (p+n):=by
  rw [show l.drop (p+n+m)=(l.drop (p+n)).drop m by rw [J8],R5]
 have e2:(l.drop p).take n++l.drop (p+n)=l.drop p:=by
  rw [show l.drop (p+n)=(l.drop p).drop n by rw [J8],R5]
 rw [P2,P2,e1,e2,R5]
theorem KW {st:SortSt}{Q:Bool->SortSt->Prop}{i sa na pw sb nb pw2:Nat}(ak:Xx prog w A J κ U R)(kd:kindOf st=κ)(o:Ordd U R)(u: ∀x∈(arrOf st).toList,U x)(p1:(pendingOf st)[i]? =some (sa,na,pw))(p2:(pendingOf st)[i+1]? =some (sb,nb,pw2))
 (hs:sa+na=sb)(n1:1<=na)(n2:1<=nb)(hz:sb+nb<=(arrOf st).size)(s1:Srt R (seg (arrOf st).toList sa na))(s2:Srt R (seg (arrOf st).toList sb nb))(hf:failedOf st=none)
 (q: ∀st' Z,kindOf st'=κ->failedOf st'=none->pendingOf st'=((pendingOf st).setIfInBounds i (sa,na+nb,pw)).eraseIdxIfInBounds (i+1)->(arrOf st').toList=(arrOf st).toList.take sa++Z++(arrOf st).toList.drop (sb+nb)->Z.Perm (seg (arrOf st).toList sa na++seg (arrOf st).toList sb nb)->Srt R Z->Q true st'):
 Tm prog w A E J (mergeAt' i) Q st:=by
 have ln:(arrOf st).toList.length=(arrOf st).size:=by simp
 unfold mergeAt';refine .bind (.get ?_);dsimp only;rw [p1,p2];dsimp only;refine .bind (Tm.set ?_);subst hs;have lX:(seg (arrOf st).toList sa na).length=na:=Vr (by omega);have lY:(seg (arrOf st).toList (sa+na) nb).length=nb:=Vr (by omega);have uX: ∀x∈seg (arrOf st).toList sa na,U x:=λx hx=>u x (PL hx)
 have uY: ∀x∈seg (arrOf st).toList (sa+na) nb,U x:=λx hx=>u x (PL hx)
 obtain⟨y0,ly0,ey0⟩:=Vq (arr:=arrOf st) (show sa+na<(arrOf st).size by omega);obtain⟨x9,lx9,ex9⟩:=Vq (arr:=arrOf st) (show sa+(na-1)<(arrOf st).size by omega);have hy:(seg (arrOf st).toList (sa+na) nb)[0]? =some y0:=by rw [UH (by omega)];exact ly0
 have hx:(seg (arrOf st).toList sa na)[(seg (arrOf st).toList sa na).length-1]? =some x9:=by rw [lX,UH (by omega)];exact lx9
 have uy0:=u y0 (G8 ly0);have ux9:=u x9 (G8 lx9);have c3:=Gb (arrOf st).toList (p:=sa) (n:=na) (m:=nb);have same: ∀ (st':SortSt),arrOf st'=arrOf st-> ∀k k2,(∀x∈(seg (arrOf st).toList sa na).take k,R y0 x=false)->(∀y∈(seg (arrOf st).toList (sa+na) nb).drop k2,R y x9=false)->(na<=k\/k2=0)->Srt R (seg (arrOf st).toList sa na++seg (arrOf st).toList (sa+na) nb):=λst' e k k2 f1 g2 h=>by
  have pl:(((seg (arrOf st).toList sa na).drop k++(seg (arrOf st).toList (sa+na) nb).take k2)).Perm ((seg (arrOf st).toList sa na).drop k++(seg (arrOf st).toList (sa+na) nb).take k2):= .refl _;have sc:Srt R ((seg (arrOf st).toList sa na).drop k++(seg (arrOf st).toList (sa+na) nb).take k2):=by
   rcases h with h|h
   ·rw [B9 (by omega),B6];exact s2.sublist (E6 _ _)
   ·rw [h,G0D,F7];exact s1.sublist (L0 _ _)
  have:=(Vs o uX uY s1 s2 hy hx f1 g2 pl sc).2;rw [<-P2,R5,P2,R5] at this;exact this
 refine .bind (.elem ey0 (.bind (qx (left:=false) ak kd o u s1 uy0 (show sa+na<=(arrOf st).size by omega) (by omega) λk k1 f1 f2=> ?_)));have f1: ∀x∈(seg (arrOf st).toList sa na).take k,R y0 x=false:=λx hx=>by simpa using f1 x hx
 have f2: ∀x∈(seg (arrOf st).toList sa na).drop k,R y0 x=true:=λx hx=>by simpa using f2 x hx
 dsimp only
 by_cases z1:na-k=0
 ·rw [if_pos (by simpa using z1)];refine .pure (q _ (seg (arrOf st).toList sa na++seg (arrOf st).toList (sa+na) nb) kd hf rfl c3 (.refl _) (same st rfl k nb f1 (λy hy=> ?_) (.inl (by omega))));rw [B9 (by omega)] at hy;cases hy
 rw [if_neg (by simpa using z1)];refine .bind (.elem (show _=some x9 by rw [show sa+k+(na-k)-1=sa+(na-1) by omega];exact ex9) (.bind (qx (left:=true) ak kd o u s2 ux9 (show sa+na+nb<=(arrOf st).size by omega) (by omega) λk2 j1 g1 g2=> ?_)));have g1: ∀y∈(seg (arrOf st).toList (sa+na) nb).take k2,R y x9=true:=λx hx=>by simpa using g1 x hx
 have g2: ∀y∈(seg (arrOf st).toList (sa+na) nb).drop k2,R y x9=false:=λx hx=>by simpa using g2 x hx
 dsimp only
 by_cases z2:k2=0
 ·rw [if_pos (by simpa using z2)];exact .pure (q _ _ kd hf rfl c3 (.refl _) (same st rfl k k2 f1 g2 (.inr z2)))
 rw [if_neg (by simpa using z2)];have eX:((arrOf st).extract (sa+k) (sa+na)).toList=(seg (arrOf st).toList sa na).drop k:=by
  rw [Ce _ (by omega)];unfold seg;rw [G1l,J8,show sa+na-(sa+k)=na-k by omega]
 have eY:((arrOf st).extract (sa+na) (sa+na+k2)).toList=(seg (arrOf st).toList (sa+na) nb).take k2:=by
  rw [Ce _ (by omega)];unfold seg;rw [G1m,show sa+na+k2-(sa+na)=min k2 nb by omega]
 have sx:((arrOf st).extract (sa+k) (sa+na)).size=na-k:=by rw [<-T7,eX,S7,lX]
 have sy:((arrOf st).extract (sa+na) (sa+na+k2)).size=k2:=by rw [<-T7,eY,D4,lY];omega
 have hx2: ∀z,((seg (arrOf st).toList sa na).drop k)[((seg (arrOf st).toList sa na).drop k).length-1]? =some z->z=x9:=λz hz'=>by
  rw [S7,J6,lX,show k+(na-k-1)=na-1 by omega] at hz';rw [lX] at hx;rw [hx] at hz';injection hz' with hz';exact hz'.symm
 have hy2: ∀z,((seg (arrOf st).toList (sa+na) nb).take k2)[0]? =some z->z=y0:=λz hz'=>by
  rw [K5 (by omega),hy] at hz';injection hz' with hz';exact hz'.symm
 have put: ∀c:Array Keyed,Jn R ((arrOf st).extract (sa+k) (sa+na)) ((arrOf st).extract (sa+na) (sa+na+k2)) c->(c.toList.zipIdx.foldl (λ(d:Array Keyed) (x:Keyed×Nat)=>d.setIfInBounds (sa+k+x.2) x.1) (arrOf st)).toList=(arrOf st).toList.take sa++((seg (arrOf st).toList sa na).take k++c.toList++(seg (arrOf st).toList (sa+na) nb).drop k2)++(arrOf st).toList.drop (sa+na+nb):=λc wh=>by
  have lc:c.toList.length=na-k+k2:=by
   rw [wh.1.length_eq,G9,T7,T7,sx,sy]
  have:=Rt c.toList (arrOf st) (sa+k) 0 (by omega);rw [this,lc,V7,show sa+k+(na-k+k2)=sa+na+k2 by omega];have e1:(arrOf st).toList.take (sa+k)=(arrOf st).toList.take sa++(seg (arrOf st).toList sa na).take k:=by
   unfold seg;rw [G1m,K8 k1,List.take_add]
  have e2:(arrOf st).toList.drop (sa+na+k2)=(seg (arrOf st).toList (sa+na) nb).drop k2++(arrOf st).toList.drop (sa+na+nb):=by
   unfold seg;have h1:((arrOf st).toList.drop (sa+na)).drop k2=(((arrOf st).toList.drop (sa+na)).take nb++((arrOf st).toList.drop (sa+na)).drop nb).drop k2:=by rw [R5]
   rw [A8 (by rw [D4,S7];omega),J8,J8] at h1;exact h1
  rw [e1,e2];simp [P2]
 have jr: ∀c:Array Keyed,Jn R ((arrOf st).extract (sa+k) (sa+na)) ((arrOf st).extract (sa+na) (sa+na+k2)) c->_:=λc wh=>Vs o (c:=c.toList) uX uY s1 s2 hy hx f1 g2 (by have:=wh.1;rw [eX,eY] at this;exact this) wh.2
 by_cases z3:na-k<=k2
 ·rw [if_pos z3];refine .bind (KS ak kd ⟨o,λx hx=> ?_,λx hx=> ?_,?_,?_,λy hy z hz'=> ?_⟩ (by rw [sx];omega) (by rw [sy];omega) (λy z hy' hz'=> ?_) λc st' gl wh=> .bind (Tm.modify (.bind (.get (.pure ?_)))))
  ·rw [eX] at hx;exact uX x (M6 hx)
  ·rw [eY] at hx;exact uY x (M7 hx)
  ·rw [eX];exact s1.sublist (L0 _ _)
  ·rw [eY];exact s2.sublist (E6 _ _)
  ·rw [eY] at hy;rw [eX] at hz';rw [hx2 z hz'];exact g1 y hy
  ·rw [eY] at hy';rw [eX] at hz';rw [hy2 y hy'];exact f2 z (G8 hz')
  ·have e:failedOf st'=none:=gl.2.2.2.trans hf;show Q (failedOf st').isNone _;rw [e];refine q _ _ (gl.1.trans kd) e gl.2.2.1 ?_ (jr c wh).1 (jr c wh).2;have ea:arrOf st'=arrOf st:=gl.2.1;show (c.toList.zipIdx.foldl _ (arrOf st')).toList=_;rw [ea];exact put c wh
 ·rw [if_neg z3];refine .bind (KU ak kd ⟨o,λx hx=> ?_,λx hx=> ?_,?_,?_,λz hz' y hy'=> ?_⟩ (by rw [sx];omega) (by rw [sy];omega) (λy z hy' hz'=> ?_) λc st' gl wh=> .bind (Tm.modify (.bind (.get (.pure ?_)))))
  ·rw [eX] at hx;exact uX x (M6 hx)
  ·rw [eY] at hx;exact uY x (M7 hx)
  ·rw [eX];exact s1.sublist (L0 _ _)
  ·rw [eY];exact s2.sublist (E6 _ _)
  ·rw [eY] at hy';rw [eX] at hz';rw [hy2 y hy'];exact f2 z hz'
  ·rw [eY] at hy';rw [eX,sx] at hz';have:=hx2 z (by rw [S7,lX];exact hz');rw [this];exact g1 y (G8 hy')
  ·have e:failedOf st'=none:=gl.2.2.2.trans hf;show Q (failedOf st').isNone _;rw [e];refine q _ _ (gl.1.trans kd) e gl.2.2.1 ?_ (jr c wh).1 (jr c wh).2;have ea:arrOf st'=arrOf st:=gl.2.1;show (c.toList.zipIdx.foldl _ (arrOf st')).toList=_;rw [ea];exact put c wh
end
section
variable {prog:Program}{w:World}{A:Around}{E:Value->Shared->Prop}{J:Shared->Prop}{κ:SortKind}{U:Keyed->Prop}{R:Keyed->Keyed->Bool}
def Lies (st:SortSt)(P Z S:List Keyed):Prop:=(arrOf st).toList=P++Z++S
def Arr (st st':SortSt):Prop:=kindOf st'=kindOf st/\pendingOf st'=pendingOf st/\failedOf st'=failedOf st/\gallopOf st'=gallopOf st
theorem Arr.refl (st:SortSt):Arr st st:=⟨rfl,rfl,rfl,rfl⟩
theorem Od (xs:Array Keyed)(P Z S:List Keyed)(h:xs.toList=P++Z++S):(mirror xs P.length (P.length+Z.length) ((P.length+Z.length-P.length) / 2)).toList=P++Z.reverse++S:=by
 have hl:xs.size=P.length+Z.length+S.length:=by rw [<-T7,h];simp [E1]
 refine Y2 λk=> ?_
 rw [N0,getElem?_mirror_all (by omega)]
 by_cases c:P.length<=k/\k<P.length+Z.length
 ·rw [if_pos c,<-N0,h,P2,P2];have e1:(P++(Z++S))[P.length+(P.length+Z.length)-1-k]? =Z[P.length+Z.length-1-k]? :=by
   rw [P5 (by omega),D8 (by omega)]
   congr 1;omega
  have e2:(P++(Z.reverse++S))[k]? =Z[P.length+Z.length-1-k]? :=by
   rw [P5 (by omega),D8 (by rw [T0];omega),U2 (by omega)]
   congr 1;omega
  rw [e1,e2]
 ·rw [if_neg c,<-N0,h,P2,P2]
  by_cases d:k<P.length
  ·rw [D8 d,D8 d]
  ·have e1:(P++(Z++S))[k]? =S[k-P.length-Z.length]? :=by
    rw [P5 (by omega),P5 (by omega)]
   have e2:(P++(Z.reverse++S))[k]? =S[k-P.length-Z.length]? :=by
    rw [P5 (by omega),P5 (by rw [T0];omega),T0]
   rw [e1,e2]
theorem Tm.rev {st:SortSt}{P Z S:List Keyed}{i j:Nat}{Q:Unit->SortSt->Prop}(h:Lies st P Z S)(hi:i=P.length)(hj:j=P.length+Z.length)(q: ∀st',Arr st st'->Lies st' P Z.reverse S->Q () st'):Tm prog w A E J (reverseSlice' i j) Q st:=by
 rw [reverseSlice'_eq];subst hi hj;exact .modify (q _ ⟨rfl,rfl,rfl,rfl⟩ (Od _ P Z S h))
theorem Tm.ltAt {st:SortSt}{x y:Keyed}{i j:Nat}{Q:Option Bool->SortSt->Prop}(ak:Xx prog w A J κ U R)(kd:kindOf st=κ)(hx:(arrOf st).toList[i]? =some x)(hy:(arrOf st).toList[j]? =some y)(ux:U x)(uy:U y)(q:Q (some (R x y)) st):Tm prog w A E J (ltAt' i j) Q st:=by
 rw [ltAt'_eq];exact .bind (.get (.bind (.elem (by rw [<-N0];exact hx) (.bind (.elem (by rw [<-N0];exact hy) (.lt ak kd ux uy q))))))
abbrev Dsc (R:Keyed->Keyed->Bool)(l:List Keyed):Prop:=l.Pairwise λx y=>R x y=false
theorem SA {l:List Keyed}(d:Dsc R l):Srt R l.reverse:=U1.mpr d
theorem Oe (o:Ordd U R){l:List Keyed}{x y:Keyed}(u: ∀z∈l++ [x],U z)(uy:U y)(s:Srt R (l++ [x]))(h:R y x=false):Srt R (l++ [x]++ [y]):=by
 refine R9.mpr ⟨s,T9 _ _,λz hz v hv=> ?_⟩;rw [G5.mp hv];have ux:=u x (by simp);rcases P6.mp hz with w|w
 ·exact o.trans (u z hz) ux uy ((R9.mp s).2.2 z w x (by simp)) h
 ·rw [G5.mp w];exact h
theorem Of {l m:List Keyed}(s:Dsc R (l++m))(alike: ∀x∈m,∀y∈m,R x y=false):Dsc R (l++m.reverse):=by
 obtain⟨a,b,c⟩:=R9.mp s;refine R9.mpr ⟨a,?_,λx hx y hy=>c x hx y (O4.mp hy)⟩;rw [A4];intro i j hi hj _;exact alike _ (O4.mp (R8 hi)) _ (O4.mp (R8 hj))
end
section
variable {prog:Program}{w:World}{A:Around}{E:Value->Shared->Prop}{J:Shared->Prop}{κ:SortKind}{U:Keyed->Prop}{R:Keyed->Keyed->Bool}
theorem Arr.trans {a b c:SortSt}(x:Arr a b)(y:Arr b c):Arr a c:=⟨y.1.trans x.1,y.2.1.trans x.2.1,y.2.2.1.trans x.2.2.1,y.2.2.2.trans x.2.2.2⟩
variable {P Z:List Keyed}
theorem Lies.rest {st:SortSt}{S:List Keyed}(h:Lies st P Z S){i:Nat}:(arrOf st).toList[P.length+Z.length+i]? =S[i]? :=by
 rw [h,P5 (by rw [G9];omega),G9]
 congr 1;omega
theorem Lies.end {st:SortSt}{W S:List Keyed}{x:Keyed}(h:Lies st P (W++ [x]) S):(arrOf st).toList[P.length+W.length]? =some x:=by
 rw [h,P2,P5 (by omega),P2,P5 (by omega)];simp
theorem UI {l:List Keyed}(h:1<=l.length): ∃W x,l=W++ [x]:=by
 rcases List.eq_nil_or_concat l with e|⟨W,x,e⟩
 ·subst e;simp at h
 ·exact⟨W,x,by rw [e,List.concat_eq_append]⟩
structure Fall (R:Keyed->Keyed->Bool)(T Z1 Z2:List Keyed)(n:Nat):Prop where
 len:(Z1++Z2).length=n
 perm:(Z1++Z2).Perm (T.take n)
 dsc:Dsc R (Z1++Z2)
 alike: ∀x∈Z2,∀y∈Z2,R x y=false
 ne:1<=Z2.length
variable {T:List Keyed}{n:Nat}
theorem Fall.turn {Z1 Z2:List Keyed}(f:Fall R T Z1 Z2 n):Fall R T Z1 Z2.reverse n:=
 ⟨by have:=f.len;simp only [G9,T0] at this ⊢;exact this,((A2 Z2).append_left Z1).trans f.perm,Of f.dsc f.alike,λx hx y hy=>f.alike x (O4.mp hx) y (O4.mp hy),by rw [T0];exact f.ne⟩
theorem Fall.mem {Z1 Z2:List Keyed}(f:Fall R T Z1 Z2 n){x:Keyed}(h:x∈Z1++Z2):x∈T:=M7 (f.perm.mem_iff.mp h)
theorem ZR {y:Keyed}(h:Z.Perm (T.take n))(hy:T[n]? =some y):(Z++ [y]).Perm (T.take (n+1)):=by
 rw [Vo hy];exact h.append_right _
theorem Fall.below (o:Ordd U R){T Z1 Z2:List Keyed}{n:Nat}{x y:Keyed}(u: ∀x∈T,U x)(f:Fall R T Z1 Z2 n)(hx:x∈Z2)(hy:T[n]? =some y)(h:R y x=true):Fall R T (Z1++Z2) [y] (n+1):=by
 have uy:=u y (G8 hy);have ux:=u x (f.mem (P6.mpr (.inr hx)));have xy:=o.asym y x uy ux h;refine⟨by rw [G9,f.len];rfl,ZR f.perm hy,?_,λa ha b hb=> ?_,by simp⟩
 ·refine R9.mpr ⟨f.dsc,T9 _ _,λz hz v hv=> ?_⟩;rw [G5.mp hv];have uz:=u z (f.mem hz);have zx:R z x=false:=by
   rcases P6.mp hz with w|w
   ·exact(R9.mp f.dsc).2.2 z w x hx
   ·exact f.alike z w x hx
  exact o.trans uy ux uz xy zx
 ·rw [G5.mp ha,G5.mp hb];exact o.refl uy
theorem Fall.like (o:Ordd U R){T Z1 Z2:List Keyed}{n:Nat}{x y:Keyed}(u: ∀x∈T,U x)(f:Fall R T Z1 Z2 n)(hx:x∈Z2)(hy:T[n]? =some y)(h:R y x=false)(h':R x y=false):Fall R T Z1 (Z2++ [y]) (n+1):=by
 have uy:=u y (G8 hy);have ux:=u x (f.mem (P6.mpr (.inr hx)));have zy: ∀z∈Z1++Z2,R z y=false:=λz hz=>by
  have uz:=u z (f.mem hz);have zx:R z x=false:=by
   rcases P6.mp hz with w|w
   ·exact(R9.mp f.dsc).2.2 z w x hx
   ·exact f.alike z w x hx
  exact o.trans uy ux uz h' zx
 have yz: ∀z∈Z2,R y z=false:=λz hz=>o.trans (u z (f.mem (P6.mpr (.inr hz)))) ux uy (f.alike x hx z hz) h
 refine⟨by rw [<-P2,G9,f.len];rfl,by rw [<-P2];exact ZR f.perm hy,?_,λa ha b hb=> ?_,by simp⟩
 ·rw [<-P2];refine R9.mpr ⟨f.dsc,T9 _ _,λz hz v hv=> ?_⟩;rw [G5.mp hv];exact zy z hz
 ·rcases P6.mp ha with p|p<;>rcases P6.mp hb with r|r
  ·exact f.alike a p b r
  ·rw [G5.mp r];exact zy a (P6.mpr (.inr p))
  ·rw [G5.mp p];exact yz b r
  ·rw [G5.mp p,G5.mp r];exact o.refl uy
theorem Lies.more {st:SortSt}{m:Nat}{y:Keyed}(L:Lies st P Z (T.drop m))(hy:T[m]? =some y):Lies st P (Z++ [y]) (T.drop (m+1)):=by
 unfold Lies at L ⊢;rw [L,zP hy];simp
theorem Lies.part {st:SortSt}{Z1 Z2 S:List Keyed}:Lies st P (Z1++Z2) S↔Lies st (P++Z1) Z2 S:=by
 unfold Lies;simp only [List.append_assoc]
theorem Lies.two {st:SortSt}{m:Nat}{y:Keyed}(L:Lies st P Z (T.drop m))(lz:Z.length=m)(m1:1<=m)(hy:T[m]? =some y):(arrOf st).toList[P.length+m]? =some y/\ ∃W x,Z=W++ [x]/\(arrOf st).toList[P.length+m-1]? =some x:=by
 have a:=L.rest (i:=0);rw [J6,lz,V7,V7,hy] at a;obtain⟨W,x,e⟩:=UI (l:=Z) (by omega);subst e;refine⟨a,W,x,rfl,?_⟩;rw [<-L.end]
 congr 1
 rw [G9,B2] at lz;omega
section
variable {σ ρ τ α:Type}{st:σ}
theorem Tm.rangeN {f:Nat->Option ρ×τ->StateT σ Sem (ForInStep (Option ρ×τ))}(I:Nat->τ->σ->Prop){Q:τ->σ->Prop}{Q':Option ρ×τ->σ->Prop}{a b:Nat}{c:τ}(hab:a<=b)(h:I a c st)(step: ∀i c st,i<b->I i c st->Tm prog w A E J (f i (none,c)) (λr st'=>match r with| .done c'=>c'.1=none/\Q c'.2 st'| .yield c'=>c'.1=none/\I (i+1) c'.2 st') st)(fin: ∀c st,I b c st->Q c st)(q: ∀c st,Q c st->Q' (none,c) st):Tm prog w A E J (forIn [a:b] ((none:Option ρ),c) f) Q' st:=by
 refine Tm.mono (Tm.range (λi c st=>c.1=none/\I i c.2 st) (Q:=λc st=>c.1=none/\Q c.2 st) hab ⟨rfl,h⟩ ?_ λc st h=>⟨h.1,fin _ _ h.2⟩) ?_
 ·rintro i ⟨_,c⟩ st hi ⟨rfl,h⟩;exact(step i c st hi h).mono λr st' x=>by cases r<;>exact x
 ·rintro ⟨_,c⟩ st ⟨rfl,h⟩;exact q c st h
theorem Tm.fork {c:Prop}[Decidable c]{t e:StateT σ Sem α}{Q:α->σ->Prop}(I:σ->Prop)(G: ∀s,I s->Tm prog w A E J e Q s)(T:c->(∀s,I s->Tm prog w A E J e Q s)->Tm prog w A E J t Q st)(F: ¬c->I st):Tm prog w A E J (if c then t else e) Q st:=
 .if2 (λh=>T h G) λh=>G _ (F h)
end
section
variable {st:SortSt}{P T Z:List Keyed}{m:Nat}
theorem Cg {f:Nat->Option (Option Nat)×Nat->StateT SortSt Sem (ForInStep (Option (Option Nat)×Nat))}{G:Nat->Option Bool->StateT SortSt Sem (ForInStep (Option (Option Nat)×Nat))}{Q:Option (Option Nat)×Nat->SortSt->Prop}(ak:Xx prog w A J κ U R)(kd:kindOf st=κ)(o:Ordd U R)(u: ∀x∈T,U x)
 (hf: ∀i n,f i (none,n)=ltAt' (P.length+n) (P.length+n-1) >>= G n)(hG: ∀n,G n (some true)=Pure.pure (.done (none,n))/\G n (some false)=Pure.pure (.yield (none,n+1)))
 (m1:1<=m)(m2:m<=T.length)(L:Lies st P Z (T.drop m))(p:Z.Perm (T.take m))(s:Srt R Z)
 (q: ∀n Z',1<=n->n<=T.length->Lies st P Z' (T.drop n)->Z'.Perm (T.take n)->Srt R Z'->(∀y,T[n]? =some y-> ∃W x,Z'=W++ [x]/\R y x=true)->Q (none,n) st):Tm prog w A E J (forIn [m:T.length] ((none:Option (Option Nat)),m) f) Q st:=by
 refine Tm.rangeN (λi c s=>s=st/\c=i/\1<=i/\ ∃Z,Lies st P Z (T.drop i)/\Z.Perm (T.take i)/\Srt R Z) (Q:=λn s=>s=st/\Q (none,n) st) m2 ⟨rfl,rfl,m1,Z,L,p,s⟩ ?_ ?_ λc s h=>h.1 ▸ h.2
 ·rintro _ i _ hi ⟨rfl,rfl,i1,Z,L,p,s⟩;have hy:=G1 hi;obtain⟨ay,W,x,rfl,ax⟩:=L.two (by rw [p.length_eq,D4,K8 (D5 hi)]) i1 hy;have uy:=u _ (R8 hi);have uZ: ∀z∈W++ [x],U z:=λz hz=>u z (M7 (p.mem_iff.mp hz))
  rw [hf];refine .bind (.ltAt ak kd ay ax uy (uZ x (by simp)) ?_);cases hb:R T[i] x with
  |true=>
   rw [(hG _).1];exact .pure ⟨rfl,rfl,q i _ i1 (D5 hi) L p s λy h=>⟨W,x,rfl,by rw [hy] at h;injection h with h;rw [<-h];exact hb⟩⟩
  |false=>
   rw [(hG _).2];exact .pure ⟨rfl,rfl,rfl,Z6 (S8 _),_,L.more hy,ZR p hy,Oe o uZ uy s hb⟩
 ·rintro _ _ ⟨rfl,rfl,i1,Z,L,p,s⟩;exact⟨rfl,q _ Z i1 (P1 _) L p s λy h=>absurd (G7.mp h).1 (M9 _)⟩
end
def Fell (R:Keyed->Keyed->Bool)(P T:List Keyed)(st st':SortSt)(n k:Nat):Prop:=Arr st st'/\ ∃Z1 Z2,Lies st' P (Z1++Z2) (T.drop n)/\Fall R T Z1 Z2 n/\Z2.length=k+1
theorem Fell.rev {st s2:SortSt}{k:Nat}{Q:Unit->SortSt->Prop}(h:Fell R P T st s2 n k)(q: ∀s3,Fell R P T st s3 n k->Q () s3):Tm prog w A E J (reverseSlice' (P.length+n-(k+1)) (P.length+n)) Q s2:=by
 obtain⟨ar,Z1,Z2,L,F,l⟩:=h;have l12:=F.len;rw [G9] at l12;exact .rev (Lies.part.mp L) (by rw [G9];omega) (by rw [G9];omega) λs3 ar3 L3=>q s3 ⟨ar.trans ar3,Z1,_,Lies.part.mpr L3,F.turn,by rw [T0];exact l⟩
theorem Og {st:SortSt}{Q:Option Nat->SortSt->Prop}(ak:Xx prog w A J κ U R)(kd:kindOf st=κ)(o:Ordd U R)(u: ∀x∈T,U x)(h:Lies st P [] T)(h1:1<=T.length)
 (q: ∀n st' Z,1<=n->n<=T.length->Arr st st'->Lies st' P Z (T.drop n)->Z.Perm (T.take n)->Srt R Z->Q (some n) st'):Tm prog w A E J (countRun' P.length T.length) Q st:=by
 refine .bind (Cg (m:=1) (Z:=T.take 1) ak kd o u (by exact λi n=>rfl) (by exact λn=>⟨rfl,rfl⟩) (P1 _) h1 ?_ (.refl _) ?_ λn Z n1 n2 L p sr br=> ?_)
 ·unfold Lies at h ⊢;rw [h,F7,P2,R5]
 ·match T,h1 with
  |x::r,_=>exact T9 _ _
 refine .eq2 (x:=n) (y:=T.length) (λz1=> .pure (q n _ _ n1 n2 (Arr.refl _) L p sr)) λz1=> ?_
 have n3:n<T.length:=C1 n2 z1;have hy:=G1 n3;have uZ: ∀z∈Z,U z:=λz hz=>u z (M7 (p.mem_iff.mp hz))
 obtain⟨W,x,e,yx⟩:=br _ hy;have lz:Z.length=n:=by rw [p.length_eq,D4,K8 n2]
 have xin:x∈Z:=by rw [e];simp
 have xl:Z[Z.length-1]? =some x:=by rw [e];simp
 have F0:(∀p∈Z,∀r∈Z,R p r=false)->Fall R T [] Z n:=λal=>⟨lz,p,A4.mpr λi j hi hj _=>al _ (R8 hi) _ (R8 hj),al,by rw [lz];exact n1⟩
 refine Tm.fork (λs=>Fell R P T st s (n+1) 0) ?_ ?_ ?_
 ·intro s1 F1;refine .bind (.rule (.bind (Tm.rangeN (λi c s=>c.1=i/\Fell R P T st s c.1 c.2) (Q:=λc s=>c.1<=T.length/\Fell R P T st s c.1 c.2) n3 ⟨rfl,F1⟩ ?_ (λc s h=>⟨J3 h.1,h.2⟩) ?_)))
  ·intro i c s2 hi h2;have hc:c.1<T.length:=by rw [h2.1];exact hi
   have hy:=G1 hc;have uy:=u _ (R8 hc);obtain⟨e1,ar2,Z1,Z2,L2,F2,l2⟩:=h2;have l12:=F2.len;obtain⟨ay,W,x,eW,ax⟩:=L2.two l12 (by rw [<-l12,G9,l2];exact U0 _ _) hy;have xin:x∈Z2:=by
    obtain⟨V,v,e⟩:=UI F2.ne;have e':=congrArg List.getLast? eW;rw [e,<-P2,G1j,G1j] at e';injection e' with e'
    rw [e,<-e'];simp
   have ux:=u x (F2.mem (P6.mpr (.inr xin)));refine .bind (.ltAt ak (ar2.1.trans kd) ay ax uy ux (.if2 (c:=R _ x=true) (λhb=> ?_) λhb=> .bind (.ltAt ak (ar2.1.trans kd) ax ay ux uy (.if2 (c:=R x _=true) (λhc'=> .pure ⟨rfl,D5 hc,ar2,Z1,Z2,L2,F2,l2⟩) λhc'=> ?_))))
   ·refine Tm.fork (λs=>Fell R P T st s (c.1+1) 0) (λs h=> .pure ⟨rfl,congrArg Nat.succ e1,h⟩) (λzq H=> .bind ?_) λzq=>⟨ar2,Z1++Z2,[T[c.1]],L2.more hy,F2.below o u xin hy hb,rfl⟩
    have l12':=l12;rw [G9] at l12';exact .rev (Lies.part.mp L2) (by rw [List.length_append];dsimp only;omega) (by rw [List.length_append];dsimp only;omega) λs3 ar3 L3=>H s3 ⟨ar2.trans ar3,Z1++Z2.reverse,[T[c.1]],(Lies.part.mpr L3).more hy,F2.turn.below o u (List.mem_reverse.mpr xin) hy hb,rfl⟩
   ·refine .pure ⟨rfl,congrArg Nat.succ e1,ar2,Z1,Z2++ [T[c.1]],?_,F2.like o u xin hy (U6.mpr hb) (U6.mpr hc'),by rw [G9,l2];rfl⟩;rw [<-P2];exact L2.more hy
  ·intro c s2 h2;refine Tm.fork (λs=> ∃k,Fell R P T st s c.1 k) ?_ (λzq H=> .bind (h2.2.rev λs h=>H s ⟨_,h⟩)) λzq=>⟨_,h2.2⟩
   intro s3 h3;obtain⟨k,ar3,Z1,Z2,L3,F3,l3⟩:=h3;have m1:1<=c.1:=by rw [<-F3.len,G9,l3];exact U0 _ _
   exact .bind (.rev L3 rfl (by rw [F3.len]) λs4 ar4 L4=> .bind (Cg ak ((ar3.trans ar4).1.trans kd) o u (by exact λi n=>rfl) (by exact λn=>⟨rfl,rfl⟩) m1 h2.1 L4 ((A2 _).trans F3.perm) (SA F3.dsc) λn Z n1 n2 L p sr _=> .pure (q n s4 Z n1 n2 (ar3.trans ar4) L p sr)))
 ·intro z2 H;obtain⟨x0,V,eV⟩: ∃x0 V,Z=x0::V:=by
   match Z,xin with
   |a::r,_=>exact⟨a,r,rfl⟩
  have ux:=uZ x xin;have ux0:=uZ x0 (by rw [eV];simp);have a0:(arrOf st).toList[P.length]? =some x0:=by rw [L,eV];simp
  have a1:(arrOf st).toList[P.length+n-1]? =some x:=by
   obtain⟨_,W',x',e',ax⟩:=L.two lz n1 hy;rw [e] at e';rw [ax,(List.append_inj' e' rfl).2 |> λh=>(List.cons.inj h).1]
  exact .bind (.ltAt ak kd a0 a1 ux0 ux (.if2 (c:=R x0 x=true) (λ_=> .pure (q n _ _ n1 n2 (Arr.refl _) L p sr)) λhr0=> .bind (.rev L rfl (by rw [lz]) λs1 ar1 L1=>H s1 ⟨ar1,_,_,L1.more hy,Fall.below o u (Z1:= []) (Fall.turn (F0 λp hp r hr=>o.trans (uZ r hr) ux (uZ p hp) (Cf o uZ sr xl hr) (U6.mpr λv=>(o.neg p x0 x (uZ p hp) ux0 ux v).elim (λv=>by rw [Ru o uZ sr (z:=x0) (by rw [eV];rfl) hp] at v;cases v) hr0))) (O4.mpr xin) hy yx,rfl⟩)))
 ·intro z2;have w0:W= []:=Q7 (by rw [e,G9,B2] at lz;omega);have f: ∀z∈Z,z=x:=λz hz=>by rw [e,w0] at hz;exact G5.mp hz
  exact⟨Arr.refl st,_,_,L.more hy,Fall.below o u (Z1:= []) (F0 λp hp r hr=>by rw [f p hp,f r hr];exact o.refl (uZ x xin)) xin hy yx,rfl⟩
end
section
variable {prog:Program}{w:World}{A:Around}{E:Value->Shared->Prop}{J:Shared->Prop}{κ:SortKind}{U:Keyed->Prop}{R:Keyed->Keyed->Bool}
theorem Oh (xs:Array Keyed)(P Z S:List Keyed)(y:Keyed)(l:Nat)(hl:l<=Z.length)(h:xs.toList=P++Z++y::S):(bubble xs (P.length+Z.length) (Z.length-l)).toList=P++(Z.take l++ [y]++Z.drop l)++S:=by
 have hz:xs.size=P.length+Z.length+(S.length+1):=by rw [<-T7,h];simp [E1]
 have at_: ∀k,xs[k]? =(P++Z++y::S)[k]? :=λk=>by rw [<-N0,h]
 refine Y2 λk=> ?_
 rw [N0,getElem?_bubble (by omega) _ (by omega)];have lt:(Z.take l).length=l:=by rw [D4];omega
 by_cases c:k=P.length+Z.length-(Z.length-l)
 ·rw [if_pos c,at_];have e1:(P++Z++y::S)[P.length+Z.length]? =some y:=by
   rw [P5 (by rw [G9];omega),G9,G1C];rfl
  have e2:(P++(Z.take l++ [y]++Z.drop l)++S)[k]? =some y:=by
   rw [P2,P5 (by omega),P2,P2,P5 (by rw [lt];omega),lt,show k-P.length-l=0 by omega];rfl
  rw [e1,e2]
 ·rw [if_neg c]
  by_cases d:P.length+Z.length-(Z.length-l)<k/\k<=P.length+Z.length
  ·rw [if_pos d,at_];have e1:(P++Z++y::S)[k-1]? =Z[k-1-P.length]? :=by
    rw [P2,P5 (by omega),D8 (by omega)]
   have e2:(P++(Z.take l++ [y]++Z.drop l)++S)[k]? =Z[k-1-P.length]? :=by
    rw [P2,P5 (by omega),D8 (by simp only [G9,D4,S7,B2];omega),P5 (by rw [G9,lt];simp;omega),G9,lt,J6]
    congr 1;simp;omega
   rw [e1,e2]
  ·rw [if_neg d,at_]
   by_cases f:k<P.length+l
   ·have e1:(P++Z++y::S)[k]? =(P++Z.take l)[k]? :=by
     have:P++Z++y::S=P++Z.take l++(Z.drop l++y::S):=by
      rw [P2,P2,<-P2 (Z.take l),R5]
     rw [this,D8 (by rw [G9,lt];omega)]
    have e2:(P++(Z.take l++ [y]++Z.drop l)++S)[k]? =(P++Z.take l)[k]? :=by
     have:P++(Z.take l++ [y]++Z.drop l)++S=P++Z.take l++([y]++Z.drop l++S):=by simp [P2]
     rw [this,D8 (by rw [G9,lt];omega)]
    rw [e1,e2]
   ·have e1:(P++Z++y::S)[k]? =S[k-P.length-Z.length-1]? :=by
     rw [P5 (by rw [G9];omega),G9,List.getElem?_cons,if_neg (by omega)]
     congr 1;omega
    have e2:(P++(Z.take l++ [y]++Z.drop l)++S)[k]? =S[k-P.length-Z.length-1]? :=by
     rw [P5 (by simp only [G9,D4,S7,B2];omega)]
     congr 1;simp only [G9,D4,S7,B2];omega
    rw [e1,e2]
theorem SB (o:Ordd U R){Z:List Keyed}{y:Keyed}{l:Nat}(u: ∀z∈Z,U z)(uy:U y)(s:Srt R Z)(a: ∀z∈Z.take l,R y z=false)(b: ∀z∈Z.drop l,R y z=true):Srt R (Z.take l++ [y]++Z.drop l):=by
 have s':Srt R (Z.take l++Z.drop l):=by rw [R5];exact s
 obtain⟨s1,s2,s3⟩:=R9.mp s';refine R9.mpr ⟨R9.mpr ⟨s1,T9 _ _,λx hx z hz=> ?_⟩,s2,λx hx z hz=> ?_⟩
 ·rw [G5.mp hz];exact a x hx
 ·rcases P6.mp hx with v|v
  ·exact s3 x v z hz
  ·rw [G5.mp v];exact o.asym y z uy (u z (M6 hz)) (b z hz)
theorem KY {st:SortSt}{Q:Bool->SortSt->Prop}{P T Z:List Keyed}{n k:Nat}(ak:Xx prog w A J κ U R)(kd:kindOf st=κ)(o:Ordd U R)(u: ∀x∈T,U x)(h:Lies st P Z (T.drop k))(hp:Z.Perm (T.take k))(hs:Srt R Z)(k1:1<=k)(kn:k<=n)(hn:n<=T.length)
 (q: ∀st' Z',Arr st st'->Lies st' P Z' (T.drop n)->Z'.Perm (T.take n)->Srt R Z'->Q true st'):Tm prog w A E J (binarySort' P.length n k) Q st:=by
 unfold binarySort';refine .bind (Tm.mono (Tm.range (λi c s1=>Arr st s1/\c.1=none/\1<=i/\ ∃Z,Lies s1 P Z (T.drop i)/\Z.Perm (T.take i)/\Srt R Z) (Q:=λc s1=>Arr st s1/\c.1=none/\ ∃Z,Lies s1 P Z (T.drop n)/\Z.Perm (T.take n)/\Srt R Z) (by omega) ⟨Arr.refl st,rfl,by omega,Z,by rw [Nat.max_eq_left k1];exact h,by rw [Nat.max_eq_left k1];exact hp,hs⟩ ?_ ?_) ?_)
 ·rintro i ⟨r,c2⟩ s1 hi ⟨ar,hr,i1,Z,L,p,s⟩;dsimp only at hr ⊢;subst hr;obtain⟨y,hy⟩: ∃y,T[i]? =some y:=⟨_,G1 (by omega)⟩;have uy:=u y (G8 hy);have lz:Z.length=i:=by rw [p.length_eq,D4];omega
  have uZ: ∀z∈Z,U z:=λz hz=>u z (M7 (p.mem_iff.mp hz))
  have ay:(arrOf s1).toList[P.length+i]? =some y:=by
   have:=L.rest (i:=0);rw [J6,lz] at this;rw [V7] at this;rw [this];exact hy
  have az: ∀m,m<i-> ∃z,Z[m]? =some z/\(arrOf s1).toList[P.length+m]? =some z:=λm hm=>by
   refine⟨Z[m],G1 (by omega),?_⟩;rw [L,P2,P5 (by omega),D8 (by omega),G0S,G1 (by omega)]
  refine .bind (Tm.mono (Tm.range (λj c s2=>s2=s1/\c.1=none/\c.2.1<=c.2.2/\c.2.2<=i/\(∀z∈Z.take c.2.1,R y z=false)/\(∀z∈Z.drop c.2.2,R y z=true)/\c.2.2-c.2.1+j<=i) (Q:=λc s2=>s2=s1/\c.1=none/\c.2.1<=i/\(∀z∈Z.take c.2.1,R y z=false)/\(∀z∈Z.drop c.2.1,R y z=true)) (Nat.zero_le _) ⟨rfl,rfl,Nat.zero_le _,Nat.le_refl _,λz hz=> ?_,λz hz=> ?_,by dsimp only;omega⟩ ?_ ?_) ?_)
  ·dsimp only at hz;rw [List.take_zero] at hz;cases hz
  ·dsimp only at hz;rw [List.drop_eq_nil_of_le (by omega)] at hz;cases hz
  ·rintro j ⟨r,l,v⟩ _ hj ⟨rfl,hr,b1,b2,b3,b4,b5⟩;dsimp only at hr b1 b2 b3 b4 b5 ⊢;subst hr
   by_cases c1:l>=v
   ·rw [if_pos c1];have:l=v:=by omega
    subst this;exact .pure ⟨rfl,rfl,b2,b3,b4⟩
   rw [if_neg c1];obtain⟨z,hz,ez⟩:=az ((l+v) / 2) (by omega);have uz:=uZ z (G8 hz);refine .bind (.ltAt ak (ar.1.trans kd) ay ez uy uz ?_);dsimp only;cases hb:R y z with
   |true=>
    rw [if_pos rfl];refine .pure ⟨rfl,rfl,by dsimp only;omega,by dsimp only;omega,b3,λx hx=> ?_,by dsimp only;omega⟩;dsimp only at hx;have zx:R x z=false:=by
     obtain⟨t,ht,e⟩:=C6 hx;rw [S7] at ht;exact Vp s o uZ (show (l+v) / 2<=(l+v) / 2+t by omega) hz (by rw [G1 (by omega),<-e,G0K])
    rcases o.neg y x z uy (uZ x (M6 hx)) uz hb with w|w
    ·exact w
    ·rw [zx] at w;cases w
   |false=>
    rw [if_neg (by decide)];refine .pure ⟨rfl,rfl,by dsimp only;omega,b2,λx hx=> ?_,b4,by dsimp only;omega⟩;dsimp only at hx;have xz:R z x=false:=by
     obtain⟨t,ht,e⟩:=C6 hx;rw [D4] at ht;exact Vp s o uZ (show t<=(l+v) / 2 by omega) (by rw [G1 (by omega),<-e,List.getElem_take]) hz
    exact o.trans (uZ x (M7 hx)) uz uy xz hb
  ·rintro ⟨r,l,v⟩ _ ⟨rfl,hr,b1,b2,b3,b4,b5⟩;dsimp only at hr b1 b2 b3 b4 b5 ⊢;have:l=v:=by omega
   subst this;exact⟨rfl,hr,b2,b3,b4⟩
  ·rintro ⟨r,l,v⟩ s2 ⟨rfl,hr,b2,b3,b4⟩;dsimp only at hr b2 b3 b4 ⊢;subst hr;dsimp only;refine .bind ?_;show Tm prog w A E J (moveDown' (P.length+i) (P.length+l)) _ _;rw [moveDown'_eq];refine .modify (.pure ⟨ar.trans ⟨rfl,rfl,rfl,rfl⟩,rfl,by omega,Z.take l++ [y]++Z.drop l,?_,?_,SB o uZ uy s b3 b4⟩)
   ·have:=Oh (arrOf s2) P Z (T.drop (i+1)) y l (by omega) (by rw [<-zP hy];exact L);rw [lz] at this;rw [show P.length+i-(P.length+l)=i-l by omega];exact this
   ·refine List.Perm.trans ?_ (ZR p hy);rw [P2];have e:Z++ [y]=Z.take l++(Z.drop l++ [y]):=by rw [<-P2,R5]
    rw [e];exact(Q9).append_left _
 ·rintro ⟨r,c2⟩ s1 ⟨ar,hr,i1,Z,L,p,s⟩;exact⟨ar,hr,Z,L,p,s⟩
 ·rintro ⟨r,c2⟩ s1 ⟨ar,hr,Z,L,p,s⟩;dsimp only at hr ⊢;subst hr;exact .pure (q s1 Z ar L p s)
end
section
variable {prog:Program}{w:World}{A:Around}{E:Value->Shared->Prop}{J:Shared->Prop}{κ:SortKind}{U:Keyed->Prop}{R:Keyed->Keyed->Bool}
def Stk (R:Keyed->Keyed->Bool)(l:List Keyed):List (Nat×Nat×Nat)->Nat->Nat->Prop
 | [],s,e=>s=e
 |(p,n,_)::rest,s,e=>p=s/\1<=n/\Srt R (seg l p n)/\Stk R l rest (s+n) e
variable {l:List Keyed}
theorem Stk.le: ∀ {pl:List (Nat×Nat×Nat)} {s e:Nat},Stk R l pl s e->s+pl.length<=e
 | [],s,e,h=>by cases h;simp
 |(p,n,_)::rest,s,e,⟨_,n1,_,h⟩=>by have:=Stk.le h;simp only [P9];omega
theorem Oi {l':List Keyed}{p n e:Nat}(h:l.take e=l'.take e)(he:p+n<=e):seg l p n=seg l' p n:=by
 have cut: ∀k:List Keyed,seg k p n=seg (k.take e) p n:=λk=>by
  unfold seg;rw [G1l,G1m,K8 (by omega)]
 rw [cut l,cut l',h]
theorem Stk.same {l':List Keyed}: ∀ {pl:List (Nat×Nat×Nat)} {s e:Nat},Stk R l pl s e->l.take e=l'.take e->Stk R l' pl s e
 | [],s,e,h,_=>h
 |(p,n,_)::rest,s,e,⟨a,b,c,d⟩,h=>by
  have:=d.le;exact⟨a,b,by rw [<-Oi h (by omega)];exact c,d.same h⟩
theorem Stk.shift {l':List Keyed}: ∀ {pl:List (Nat×Nat×Nat)} {s e:Nat},Stk R l pl s e->l.drop s=l'.drop s->Stk R l' pl s e
 | [],s,e,h,_=>h
 |(p,n,_)::rest,s,e,⟨a,b,c,d⟩,h=>by
  subst a;refine⟨rfl,b,by unfold seg at c ⊢;rw [<-h];exact c,d.shift ?_⟩;rw [<-J8,<-J8,h]
theorem Stk.append: ∀ {a b:List (Nat×Nat×Nat)} {s e:Nat},Stk R l (a++b) s e↔ ∃m,Stk R l a s m/\Stk R l b m e
 | [],b,s,e=>⟨λh=>⟨s,rfl,h⟩,λ⟨m,h,h'⟩=>by cases h;exact h'⟩
 |(p,n,w)::a,b,s,e=>by
  constructor
  ·rintro ⟨x,y,z,h⟩;obtain⟨m,h1,h2⟩:=Stk.append.mp h;exact⟨m,⟨x,y,z,h1⟩,h2⟩
  ·rintro ⟨m,⟨x,y,z,h1⟩,h2⟩;exact⟨x,y,z,Stk.append.mpr ⟨m,h1,h2⟩⟩
structure Bt (R:Keyed->Keyed->Bool)(κ:SortKind)(l0:List Keyed)(lo:Nat)(st:SortSt):Prop where
 kind:kindOf st=κ
 failed:failedOf st=none
 perm:(arrOf st).toList.Perm l0
 stk:Stk R (arrOf st).toList (pendingOf st).toList 0 lo
variable {l0:List Keyed}{lo:Nat}
theorem Bt.size {st:SortSt}(b:Bt R κ l0 lo st):(arrOf st).size=l0.length:=by rw [<-T7,b.perm.length_eq]
theorem Bt.merge {st:SortSt}{Q:Bool->SortSt->Prop}{i:Nat}(ak:Xx prog w A J κ U R)(o:Ordd U R)(u: ∀x∈l0,U x)(b:Bt R κ l0 lo st)(hlo:lo<=l0.length)(hi:i+1<(pendingOf st).size)
 (q: ∀st',Bt R κ l0 lo st'->(pendingOf st').size+1=(pendingOf st).size->(arrOf st').toList.drop lo=(arrOf st).toList.drop lo->Q true st'):Tm prog w A E J (mergeAt' i) Q st:=by
 have lp:(pendingOf st).toList.length=(pendingOf st).size:=by simp
 obtain⟨⟨sa,na,pw⟩,hx⟩: ∃x,(pendingOf st).toList[i]? =some x:=⟨_,G1 (by omega)⟩;obtain⟨⟨sb,nb,pw2⟩,hy⟩: ∃y,(pendingOf st).toList[i+1]? =some y:=⟨_,G1 (by omega)⟩;have e:(pendingOf st).toList=(pendingOf st).toList.take i++(sa,na,pw)::(sb,nb,pw2)::(pendingOf st).toList.drop (i+2):=by
  rw [<-zP hy,<-zP hx,R5]
 have stk:=b.stk;rw [e] at stk;obtain⟨m,k1,em,n1,s1,eb,n2,s2,k2⟩:=Stk.append.mp stk;subst em;subst eb;have le:=k2.le;have sz:=b.size;have hz:sa+na+nb<=(arrOf st).size:=by omega
 have ln:(arrOf st).toList.length=(arrOf st).size:=by simp
 refine KW ak b.kind o (λx hx=>u x (b.perm.mem_iff.mp hx)) (by rw [<-N0];exact hx) (by rw [<-N0];exact hy) rfl n1 n2 hz s1 s2 b.failed λst' Z kd hf hp ha pz sz'=> ?_
 have hpl:(pendingOf st').toList=(pendingOf st).toList.take i++(sa,na+nb,pw)::(pendingOf st).toList.drop (i+2):=by
  rw [hp,Array.eraseIdxIfInBounds_eq,dif_pos (by rw [G0L];exact hi),Array.toList_eraseIdx,G0s];generalize (pendingOf st).toList.drop (i+2)=B at e ⊢;have li:((pendingOf st).toList.take i).length=i:=by rw [D4];omega
  generalize (pendingOf st).toList.take i=A at e li ⊢;rw [e];subst li;simp [List.set_append,List.eraseIdx_append];intro z;omega
 have lZ:Z.length=na+nb:=by rw [pz.length_eq,G9,Vr (by omega),Vr (by omega)]
 have lt:((arrOf st).toList.take sa).length=sa:=by rw [D4];omega
 refine q st' ⟨kd,hf,?_,?_⟩ ?_ ?_
 ·rw [ha];refine List.Perm.trans ?_ b.perm;have c3:=Gb (arrOf st).toList (p:=sa) (n:=na) (m:=nb);have pp:=(pz.append_left ((arrOf st).toList.take sa)).append_right ((arrOf st).toList.drop (sa+na+nb));rw [<-c3] at pp;exact pp
 ·rw [hpl,ha];refine Stk.append.mpr ⟨sa,k1.same ?_,rfl,by omega,?_,?_⟩
  ·rw [P2,A9 (by omega),R3 (l:=(arrOf st).toList.take sa) (by omega)]
  ·unfold seg;rw [P2,A8 (by omega),B9 (by omega),B6,A9 (by omega),R3 (by omega)];exact sz'
  ·rw [<-E1];refine k2.shift ?_;have:((arrOf st).toList.take sa++Z).length=sa+na+nb:=by rw [G9,lt,lZ];omega
   rw [A8 (by omega),B9 (as:=(arrOf st).toList.take sa++Z) (by omega),B6]
 ·rw [<-T7,<-T7,hpl];have:(pendingOf st).toList.length=((pendingOf st).toList.take i++(sa,na,pw)::(sa+na,nb,pw2)::(pendingOf st).toList.drop (i+2)).length:=congrArg List.length e;rw [this];simp only [G9,P9];omega
 ·rw [ha];have c1:((arrOf st).toList.take sa++Z).length=sa+na+nb:=by rw [G9,lt,lZ];omega
  have c2:sa+na+nb<=lo:=by omega
  rw [List.drop_append,B9 (as:=(arrOf st).toList.take sa++Z) (by omega),B6,J8,c1]
  congr 1;omega
theorem Bt.run {Z:List Keyed}{n:Nat}{s1 s2:SortSt}(b:Bt R κ l0 lo s1)(hlo:lo<=l0.length)(ar:Arr s1 s2)(L:Lies s2 ((arrOf s1).toList.take lo) Z (((arrOf s1).toList.drop lo).drop n))(p:Z.Perm (((arrOf s1).toList.drop lo).take n))(sr:Srt R Z)(hn:n<=l0.length-lo):Bt R κ l0 lo s2/\Srt R (seg (arrOf s2).toList lo n):=by
 have ln:(arrOf s1).toList.length=l0.length:=b.perm.length_eq;have lP:((arrOf s1).toList.take lo).length=lo:=by rw [D4];omega
 have lZ:Z.length=n:=by rw [p.length_eq,D4,S7];omega
 have e:(arrOf s2).toList=(arrOf s1).toList.take lo++Z++((arrOf s1).toList.drop lo).drop n:=L;refine⟨⟨ar.1.trans b.kind,ar.2.2.1.trans b.failed,?_,?_⟩,?_⟩
 ·rw [e];refine List.Perm.trans ?_ b.perm;have pp:=(p.append_left ((arrOf s1).toList.take lo)).append_right (((arrOf s1).toList.drop lo).drop n);rw [P2 _ (((arrOf s1).toList.drop lo).take n),R5,R5] at pp;exact pp
 ·rw [ar.2.1];refine b.stk.same ?_;rw [e,P2,A9 (by omega),R3 (l:=(arrOf s1).toList.take lo) (by omega)]
 ·rw [e];unfold seg;rw [P2,A8 (by omega),B9 (by omega),B6,A9 (by omega),R3 (by omega)];exact sr
theorem Bt.push {n:Nat}{s:SortSt}(b:Bt R κ l0 lo s)(n1:1<=n)(g:Srt R (seg (arrOf s).toList lo n)):Bt R κ l0 (lo+n) (setPending s ((pendingOf s).push (lo,n,0))):=by
 refine⟨b.kind,b.failed,b.perm,?_⟩;show Stk R (arrOf s).toList ((pendingOf s).push (lo,n,0)).toList 0 (lo+n);rw [O8];exact Stk.append.mpr ⟨lo,b.stk,rfl,n1,g,rfl⟩
theorem Stk.mod {f:Nat×Nat×Nat->Nat×Nat×Nat}(hf: ∀x,(f x).1=x.1/\(f x).2.1=x.2.1): ∀ {pl:List (Nat×Nat×Nat)} {k s e:Nat},Stk R l pl s e->Stk R l (pl.modify k f) s e
 | [],k,s,e,h=>by rw [List.modify_nil];exact h
 |(p,n,w)::rest,0,s,e,⟨a,b,c,d⟩=>by
  rw [List.modify_zero_cons];have e1:=(hf (p,n,w)).1;have e2:=(hf (p,n,w)).2;generalize f (p,n,w)=x at e1 e2;obtain⟨p',n',w'⟩:=x;dsimp only at e1 e2;subst e1 e2;exact⟨a,b,c,d⟩
 |(p,n,w)::rest,k+1,s,e,⟨a,b,c,d⟩=>by
  rw [List.modify_succ_cons];exact⟨a,b,c,d.mod hf⟩
theorem Bt.mod {k:Nat}{s:SortSt}{f:Nat×Nat×Nat->Nat×Nat×Nat}(b:Bt R κ l0 lo s)(hf: ∀x,(f x).1=x.1/\(f x).2.1=x.2.1):Bt R κ l0 lo (setPending s ((pendingOf s).modify k f)):=by
 refine⟨b.kind,b.failed,b.perm,?_⟩;show Stk R (arrOf s).toList ((pendingOf s).modify k f).toList 0 lo;rw [Array.toList_modify];exact b.stk.mod hf
theorem Oj (c:Bool)(x:Nat):(if c=true then x-1 else x)<=x:=by cases c<;>simp
theorem SC {st:SortSt}{Q:Unit->SortSt->Prop}(ak:Xx prog w A J κ U R)(o:Ordd U R)(u: ∀x∈l0,U x)(kd:kindOf st=κ)(hf:failedOf st=none)(hp:pendingOf st= #[])(hl:(arrOf st).toList=l0)
 (q: ∀st',failedOf st'=none->(arrOf st').toList.Perm l0->Srt R (arrOf st').toList->Q () st'):Tm prog w A E J sortRuns' Q st:=by
 have b0:Bt R κ l0 0 st:=⟨kd,hf,by rw [hl],by rw [hp];rfl⟩;rw [sortRuns'_eq];refine .bind (.get ?_);dsimp only;rw [b0.size];generalize minRun' l0.length l0.length 0=mr;refine .bind (Tm.mono (Tm.range (λi c s1=>c.1=none/\c.2<=l0.length/\i<=c.2/\Bt R κ l0 c.2 s1) (Q:=λc s1=>c.1=none/\Bt R κ l0 l0.length s1) (S8 _) ⟨rfl,S8 _,S8 _,b0⟩ ?_ ?_) ?_)
 ·rintro i ⟨r,lo⟩ s1 hi ⟨hr,h1,h2,b⟩;dsimp only at hr h1 h2 b ⊢;subst hr
  by_cases z1:lo>=l0.length
  ·rw [if_pos z1];have:lo=l0.length:=by omega
   subst this;exact .pure ⟨rfl,b⟩
  rw [if_neg z1];have ln:(arrOf s1).toList.length=l0.length:=b.perm.length_eq;have lP:((arrOf s1).toList.take lo).length=lo:=by rw [D4];omega
  have lT:((arrOf s1).toList.drop lo).length=l0.length-lo:=by rw [S7,ln]
  have uT: ∀x∈(arrOf s1).toList.drop lo,U x:=λx hx=>u x (b.perm.mem_iff.mp (M6 hx))
  have ct:=λ{Q}=>Og (prog:=prog) (w:=w) (A:=A) (E:=E) (J:=J) (Q:=Q) (st:=s1) (P:=(arrOf s1).toList.take lo) (T:=(arrOf s1).toList.drop lo) ak b.kind o uT (by unfold Lies;rw [List.append_nil,List.take_append_drop]) (by omega)
  rw [lP,lT] at ct;refine .bind (ct λn s2 Z n1 n2 ar L p sr=> ?_);dsimp only
  by_cases z2:n<mr
  ·rw [if_pos z2];have bn:=λ{Q}=>KY (prog:=prog) (w:=w) (A:=A) (E:=E) (J:=J) (Q:=Q) (st:=s2) (P:=(arrOf s1).toList.take lo) (T:=(arrOf s1).toList.drop lo) (n:=min (l0.length-lo) mr) ak (ar.1.trans b.kind) o uT L p sr n1 (by omega) (by omega)
   rw [lP] at bn;refine .bind (.rule (.bind (bn λs3 Z3 ar3 L3 p3 sr3=> ?_)));obtain⟨B,G⟩:=b.run h1 (ar.trans ar3) L3 p3 sr3 (by omega);have N1:1<=min (l0.length-lo) mr:=by omega
   rw [if_neg (by decide)];refine .bind (.get ?_);split
   ·refine .bind (Tm.mono (Tm.range (λj c s4=>c.1=none/\Bt R κ l0 lo s4/\Srt R (seg (arrOf s4).toList lo (min (l0.length-lo) mr))) (Q:=λc s4=>c.1=none/\Bt R κ l0 lo s4/\Srt R (seg (arrOf s4).toList lo (min (l0.length-lo) mr))) (S8 _) ⟨rfl,B,G⟩ ?_ (λ_ _ h=>h)) ?_)
    ·rintro j ⟨r,c⟩ s4 hj ⟨hr,B4,G4⟩;dsimp only at hr ⊢;subst hr;refine .bind (.get ?_);split
     ·rename_i older heq;split
      ·exact .pure ⟨rfl,B4,G4⟩
      ·have two:(pendingOf s4).size>1:=J7 λz=>by rw [if_neg z] at heq;cases heq
       refine .bind (Bt.merge ak o u B4 h1 (by omega) λs5 B5 _ dr=> ?_);refine .pure ⟨rfl,B5,?_⟩;unfold seg at G4 ⊢;rw [dr];exact G4
     ·exact .pure ⟨rfl,B4,G4⟩
    ·rintro ⟨r,c⟩ s4 ⟨hr,B4,G4⟩;dsimp only at hr ⊢;subst hr;dsimp only;refine .bind (.modify (.bind (.modify (.pure ⟨rfl,?_,?_,Bt.push (Bt.mod B4 λx=>⟨rfl,rfl⟩) N1 G4⟩))))
     ·dsimp only;omega
     ·dsimp only;omega
   ·refine .bind (.modify (.pure ⟨rfl,?_,?_,Bt.push B N1 G⟩))
    ·dsimp only;omega
    ·dsimp only;omega
  ·rw [if_neg z2];obtain⟨B,G⟩:=b.run h1 ar L p sr n2;have N1:=n1;refine .bind (.get ?_);split
   ·refine .bind (Tm.mono (Tm.range (λj c s4=>c.1=none/\Bt R κ l0 lo s4/\Srt R (seg (arrOf s4).toList lo (n))) (Q:=λc s4=>c.1=none/\Bt R κ l0 lo s4/\Srt R (seg (arrOf s4).toList lo (n))) (S8 _) ⟨rfl,B,G⟩ ?_ (λ_ _ h=>h)) ?_)
    ·rintro j ⟨r,c⟩ s4 hj ⟨hr,B4,G4⟩;dsimp only at hr ⊢;subst hr;refine .bind (.get ?_);split
     ·rename_i older heq;split
      ·exact .pure ⟨rfl,B4,G4⟩
      ·have two:(pendingOf s4).size>1:=J7 λz=>by rw [if_neg z] at heq;cases heq
       refine .bind (Bt.merge ak o u B4 h1 (by omega) λs5 B5 _ dr=> ?_);refine .pure ⟨rfl,B5,?_⟩;unfold seg at G4 ⊢;rw [dr];exact G4
     ·exact .pure ⟨rfl,B4,G4⟩
    ·rintro ⟨r,c⟩ s4 ⟨hr,B4,G4⟩;dsimp only at hr ⊢;subst hr;dsimp only;refine .bind (.modify (.bind (.modify (.pure ⟨rfl,?_,?_,Bt.push (Bt.mod B4 λx=>⟨rfl,rfl⟩) N1 G4⟩))))
     ·dsimp only;omega
     ·dsimp only;omega
   ·refine .bind (.modify (.pure ⟨rfl,?_,?_,Bt.push B N1 G⟩))
    ·dsimp only;omega
    ·dsimp only;omega
 ·rintro ⟨r,lo⟩ s1 ⟨hr,h1,h2,b⟩;dsimp only at hr h1 h2 b;have:lo=l0.length:=by omega
  subst this;exact⟨hr,b⟩
 ·rintro ⟨r,lo⟩ s1 ⟨hr,b⟩;dsimp only at hr ⊢;subst hr;dsimp only;have le0:=b.stk.le;have lp0:(pendingOf s1).toList.length=(pendingOf s1).size:=by simp
  refine .bind (Tm.mono (Tm.range (λj c s4=>c.1=none/\Bt R κ l0 l0.length s4/\(pendingOf s4).size+j<=l0.length) (Q:=λc s4=>c.1=none/\Bt R κ l0 l0.length s4/\(pendingOf s4).size<=1) (S8 _) ⟨rfl,b,by omega⟩ ?_ (λc s4 ⟨x,y,z⟩=>⟨x,y,by omega⟩)) ?_)
  ·rintro j ⟨r,c⟩ s4 hj ⟨hr,B4,z4⟩;dsimp only at hr ⊢;subst hr;refine .bind (.get ?_)
   by_cases c1:(pendingOf s4).size<=1
   ·rw [if_pos c1];exact .pure ⟨rfl,B4,c1⟩
   rw [if_neg c1];refine .bind (Bt.merge ak o u B4 (P1 _) (W4 (Nat.add_le_add_right (Oj _ _) 1) (by omega)) λs5 B5 z5 _=> ?_);exact .pure ⟨rfl,B5,by omega⟩
  ·rintro ⟨r,c⟩ s4 ⟨hr,B4,z4⟩;dsimp only at hr ⊢;subst hr;refine .pure (q s4 B4.failed B4.perm ?_);have stk:=B4.stk;have ln:(arrOf s4).toList.length=l0.length:=B4.perm.length_eq;have lp:(pendingOf s4).toList.length=(pendingOf s4).size:=by simp
   generalize (pendingOf s4).toList=pl at stk lp
   match pl,stk,lp with
   | [],e,_=>
    have:l0.length=0:=e.symm;have:(arrOf s4).toList= []:=Q3.mp (by omega);rw [this];exact .nil
   | [(p,n,_)],⟨e1,_,sr,e2⟩,_=>
    subst e1;have en:n=l0.length:=by have:0+n=l0.length:=e2;omega
    unfold seg at sr;rw [G0B,R3 (by omega)] at sr;exact sr
   |_::_::_,_,h=>simp only [P9] at h;omega
end
section
variable {prog:Program}{w:World}{A:Around}{E:Value->Shared->Prop}{s:Shared}{κ:SortKind}{U:Keyed->Prop}{R:Keyed->Keyed->Bool}
def KZ (s:Shared)(a:Addr)(h':Heap):Prop:= ∀b o,b≠a->s.heap.get? b=some o->h'.get? b=some o
def Only (s:Shared)(h':Heap):Shared->Prop:=λs'=> ∃tk,s'= {s with heap:=h',toks:=tk}
theorem Ol {M:Model}{α β:Type}{c:Prop}[Decidable c]{m m':Sem α}{F:α->Sem β}{Q:β->Shared->Prop}(h:wpAny M A ((if c then m else m') >>= F) Q E s):wpAny M A (if c then m >>= F else m' >>= F) Q E s:=by
 by_cases z:c
 ·rw [if_pos z] at h ⊢;exact h
 ·rw [if_neg z] at h ⊢;exact h
theorem Wv (vs:List Value):(vs.toArray.zip vs.toArray).toList=vs.map λv=>(v,v):=by
 rw [Array.toList_zip];show vs.zip vs=_
 induction vs with
 |nil=>rfl
 |cons v vs ih=>rw [W1,ih,T3]
theorem Om {a:Addr}{vs:List Value}{n:Nat}{P:Fin->Shared->Prop}(ho:s.heap.get? a=some (seqObj "list" vs.toArray n))(hz:vs.length<=sizeLine)
 (hk:2<=vs.length-> ∀h',KZ s a h'->wpAny (model prog w) A (keyKind' vs.toArray) (λk s'=>k=κ/\Only s h' s') (λ_ _=>False) {s with heap:=h'})(ak: ∀h',KZ s a h'->Xx prog w A (Only s h') κ U R)(o:Ordd U R)(u: ∀v∈vs,U (v,v))
 (q: ∀ (out:List Value) (c tk:Nat) (h':Heap),KZ s a h'->h'.get? a=some (seqObj "list" out.toArray c)->out.Perm vs->(out.map λv=>(v,v)).Pairwise (λx y=>R y x=false)->P (.done (.ret .none)) {s with heap:=h',toks:=tk}):
 wpAny (model prog w) A (Builtin.«list.sort» ⟨[.ref a],[]⟩) P E s:=by
 have alt:=D3 ho;have sv:vs.toArray.size=vs.length:=D0 ..;rw [list_sort_plain];refine wpAny_bind (listItems_at ho rfl ?_);obtain⟨c1,ho1⟩: ∃c,(s.heap.update a (Obj.mapSeq λ_=>(#[]:Array Value))).get? a=some (seqObj "list" #[] c):=⟨_,get?_update_seq ho λ_=> #[]⟩;refine wpAny_bind (listUpdate_at ho rfl ?_ (by rw [sv];exact hz) (S8 _));refine wpAny_bind (seqEpoch_at ho1 rfl ?_);refine wpAny_bind (wpAny_newTuple ?_ hz);refine wpAny_bind (wpAny_newList ?_ (S8 _));refine C0 ?_;have past:KZ s a (((s.heap.update a (Obj.mapSeq λ_=>(#[]:Array Value))).push {cls:= .type "tuple",data:= .seq vs.toArray.toList.toArray}).push {cls:= .type "list",data:= .seq ([]:List Value).toArray}):=λb x ne e=>by
  refine G2 _ (G2 _ ?_);rw [G0m _ _ _ _ ne];exact e
 have ho3:=G2 ({cls:= .type "list",data:= .seq ([]:List Value).toArray}:Obj) (G2 ({cls:= .type "tuple",data:= .seq vs.toArray.toList.toArray}:Obj) ho1);revert past ho3;generalize ((s.heap.update a (Obj.mapSeq λ_=>(#[]:Array Value))).push ({cls:= .type "tuple",data:= .seq vs.toArray.toList.toArray}:Obj)).push ({cls:= .type "list",data:= .seq ([]:List Value).toArray}:Obj)=H3;intro past ho3;have kd:wpAny (model prog w) A (if vs.toArray.size<2 then pure general' else keyKind' vs.toArray) (λk s0=>(2<=vs.length->k=κ)/\Only s H3 s0) (λ_ _=>False) {s with heap:=H3}:=by
  by_cases c:vs.toArray.size<2
  ·rw [if_pos c];exact P0 ⟨λz=>by omega,s.toks,rfl⟩
  ·rw [if_neg c];exact S0 (hk (by omega) H3 past) (λk s0 x=>⟨λ_=>x.1,x.2⟩) λ_ _ e=>e
 have rn: ∀k s0,(2<=vs.length->k=κ)->Only s H3 s0->wpAny (model prog w) A ((if vs.toArray.size<2 then pure () else sortRuns':StateT SortSt Sem Unit).run (SortSt.mk' k (vs.toArray.zip vs.toArray) #[] 7 none)) (λr s'=>(failedOf r.2=none/\(arrOf r.2).toList.Perm (vs.map λv=>(v,v))/\Srt R (arrOf r.2).toList)/\Only s H3 s') E s0:=by
  intro k s0 ek j
  by_cases c:vs.toArray.size<2
  ·rw [if_pos c,StateT.run_pure];refine P0 ⟨⟨rfl,?_,?_⟩,j⟩
   ·show (vs.toArray.zip vs.toArray).toList.Perm _;rw [Wv]
   ·show Srt R (vs.toArray.zip vs.toArray).toList;rw [Wv];rw [sv] at c
    match vs,c with
    | [],_=>exact List.Pairwise.nil
    | [v],_=>exact T9 _ _
  ·rw [if_neg c];have ek:=ek (by omega);subst ek;refine SC (E:=E) (ak H3 past) o (l0:=vs.map λv=>(v,v)) (st:=SortSt.mk' k (vs.toArray.zip vs.toArray) #[] 7 none) (λx hx=> ?_) rfl rfl rfl (Wv vs) (Q:=λ_ st'=>failedOf st'=none/\(arrOf st').toList.Perm (vs.map λv=>(v,v))/\Srt R (arrOf st').toList) (λst' a1 a2 a3=>⟨a1,a2,a3⟩) s0 j;obtain⟨v,hv,rfl⟩:=D1.mp hx;exact u v hv
 dsimp only;refine Ol (wpAny_bind (S0 kd (λk s0 x=> ?_) λ_ _ e=>e.elim));refine wpAny_bind (S0 (rn k s0 x.1 x.2) ?_ λ_ _ e=>e);rintro ⟨⟨⟩,st'⟩ s1 ⟨⟨hf,hp,hs⟩,tk,rfl⟩;dsimp only;have eo:((arrOf st').map λx=>x.2)=((arrOf st').toList.map λx=>x.2).toArray:=by
  rw [<-Array.toList_map,Array.toArray_toList]
 have two:(arrOf st').toList=((arrOf st').toList.map λx=>x.2).map λv=>(v,v):=by
  rw [T5];refine(G0k _).symm.trans (S9 λx hx=> ?_);obtain⟨v,_,rfl⟩:=D1.mp (hp.mem_iff.mp hx);rfl
 have po:((arrOf st').toList.map λx=>x.2).Perm vs:=by
  have:=hp.map λx=>x.2
  rw [T5] at this;refine this.trans ?_;rw [show ((λx:Keyed=>x.2)∘λv:Value=>(v,v))=id from rfl,G0k]
 rw [two] at hs;rw [eo];generalize (arrOf st').toList.map (λx=>x.2)=out at hs po;obtain⟨c2,ho4⟩: ∃c,(H3.update a (Obj.mapSeq λ_=>out.toArray)).get? a=some (seqObj "list" out.toArray c):=⟨_,get?_update_seq ho3 λ_=>out.toArray⟩;refine wpAny_bind (seqEpoch_at (s:= {s with heap:=H3,toks:=tk}) ho3 rfl ?_);refine wpAny_bind (listUpdate_at (s:= {s with heap:=H3,toks:=tk}) ho3 rfl ?_ (S8 _) (by rw [D0,po.length_eq];exact Nat.le_succ_of_le hz));rw [hf];simp only [bne_self_eq_false,Bool.false_eq_true,G1v];refine P0 (q out c2 tk _ (λb x ne e=> ?_) ho4 po hs);rw [G0m _ _ _ _ ne];exact past b x ne e
abbrev Vt (h h':Heap):Prop:= ∀b o,h.get? b=some o->h'.get? b=some o
theorem Mu {l:Addr}{vs:List Value}{Q:Value->Shared->Prop}(hl:s.heap.IsList l vs.toArray)(hz:vs.length<sizeLine)
 (hk:2<=vs.length-> ∀h',Vt s.heap h'->wpAny (model prog w) A.in1.in1 (keyKind' vs.toArray) (λk s'=>k=κ/\Only s h' s') (λ_ _=>False) {s with heap:=h'})(ak: ∀h',Vt s.heap h'->Xx prog w A.in1.in1 (Only s h') κ U R)(o:Ordd U R)(u: ∀v∈vs,U (v,v))
 (q: ∀ (h1 h':Heap) (tk c:Nat) (out:List Value),Vt s.heap h1->Vt h1 h'->h'.get? h1.objs.size=some (seqObj "list" out.toArray c)->out.Perm vs->(out.map λv=>(v,v)).Pairwise (λx y=>R y x=false)->Q (.ref h1.objs.size) {s with heap:=h',toks:=tk}):
 wpAny (model prog w) A (call (.builtin "sorted") [.ref l]) Q E s:=by
 refine G0A kind_sorted plain_sorted entry_sorted (args_sorted1 _) (wpAny_bind (P0 (wpAny_bind (collect_list hl ?_ (by omega)))));have k1:Vt s.heap ((s.heap.push (seqObj "list" #[] 0)).update s.heap.objs.size (Obj.mapSeq (· ++vs.toArray))):=λb x e=>by
  rw [G0m _ _ _ _ (S4 (D3 e))];exact G2 _ e
 revert k1;generalize (s.heap.push (seqObj "list" #[] 0)).update s.heap.objs.size (Obj.mapSeq (· ++vs.toArray))=H1;intro k1;have fresh:(H1.push (seqObj "list" vs.toArray 0)).get? H1.objs.size=some (seqObj "list" vs.toArray 0):=D6 _ rfl;have kp: ∀h',KZ {s with heap:=H1.push (seqObj "list" vs.toArray 0)} H1.objs.size h'->Vt H1 h':=λh' p b x e=>p b x (S4 (D3 e)) (G2 _ e)
 refine wpAny_bind (wpAny_newList (wpAny_bind (C0 (C7 slot_list_sort ⟨_,fresh,rfl⟩ entry_list_sort (Om (s:= {s with heap:=H1.push (seqObj "list" vs.toArray 0)}) (κ:=κ) (U:=U) (R:=R) fresh (D5 hz) (λh2 h' p=>hk h2 h' λb x e=>kp h' p b x (k1 b x e)) (λh' p=>ak h' λb x e=>kp h' p b x (k1 b x e)) o u λout c tk h' p e1 e2 e3=>⟨_,rfl,?_⟩) (args_list_sort _)))) (D5 hz));exact P0 ⟨_,rfl,q H1 h' tk c out k1 (kp h' p) e1 e2 e3⟩
end
theorem Ww: ∀a b:List Int,zj a b=true->zj b a=false
 | [],[],h=>rfl
 | [],_::_,_=>rfl
 |_::_,[],h=>by cases h
 |x::xs,y::ys,h=>by
  unfold zj at h ⊢
  by_cases e:x=y
  ·subst e;rw [if_pos rfl] at h ⊢;exact Ww xs ys h
  ·rw [if_neg e] at h;rw [if_neg (Ne.symm e)];have:=M0 h;exact D7 (by omega)
theorem Vu: ∀a b c:List Int,zj a c=true->zj a b=true\/zj b c=true
 | [],[],c,h=> .inr h
 | [],_::_,_,_=> .inl rfl
 |_::_,_,[],h=>by cases h
 |x::xs,[],z::zs,h=> .inr rfl
 |x::xs,y::ys,z::zs,h=>by
  unfold zj at h ⊢
  by_cases e:x=z
  ·subst e;rw [if_pos rfl] at h
   by_cases f:x=y
   ·subst f;rw [if_pos rfl,if_pos rfl];exact Vu xs ys zs h
   ·rw [if_neg f,if_neg (Ne.symm f)]
    by_cases g:x<y
    ·exact .inl (G6 g)
    ·exact .inr (G6 (by omega))
  ·rw [if_neg e] at h;have lt:=M0 h
   by_cases f:x=y
   ·subst f;rw [if_neg e];exact .inr h
   ·rw [if_neg f]
    by_cases g:x<y
    ·exact .inl (G6 g)
    ·refine .inr ?_;rw [if_neg (by omega)];exact G6 (by omega)
theorem Vv: ∀a b:List Int,zj a b=false->zj b a=false->a=b
 | [],[],_,_=>rfl
 | [],_::_,h,_=>by cases h
 |_::_,[],_,h=>by cases h
 |x::xs,y::ys,h,h'=>by
  unfold zj at h h'
  by_cases e:x=y
  ·subst e;rw [if_pos rfl] at h h';rw [Vv xs ys h h']
  ·rw [if_neg e] at h;rw [if_neg (Ne.symm e)] at h';have:=of_decide_eq_false h;have:=of_decide_eq_false h';omega
theorem Ch {U:Keyed->Prop}(key:Value->List Int):Ordd U (λx y=>zj (key x.1) (key y.1)):=⟨λx y _ _ h=>Ww _ _ h,λx y z _ _ _ h=>Vu _ _ _ h⟩
def IT (h:Heap)(v:Value)(ns:List Int):Prop:= ∃a its,v= .ref a/\IsTup h a its/\IntsAre its.toList ns
theorem IT.keeps {h h':Heap}{v:Value}{ns:List Int}(x:IT h v ns)(k:Vt h h'):IT h' v ns:=let ⟨a,its,e,t,i⟩:=x;⟨a,its,e,t.keeps k,i⟩
theorem Rv: ∀ {vs:List Value} {ns ms:List Int},IntsAre vs ns->IntsAre vs ms->ns=ms
 |_,_,_,.nil,.nil=>rfl
 |_,_,_,.cons n t a,.cons _ _ b=>by rw [Rv a b]
theorem IT.one {h:Heap}{v:Value}{ns ms:List Int}(x:IT h v ns)(y:IT h v ms):ns=ms:=by
 obtain⟨a,its,rfl,⟨o,e,c,n,d⟩,i⟩:=x;obtain⟨a',its',e2,⟨o',e',c',n',d'⟩,i'⟩:=y;cases e2;rw [e] at e';cases e';rw [d] at d';cases d';exact Rv i i'
open Classical in
noncomputable def zQ (h:Heap)(v:Value):List Int:=if e: ∃ns,IT h v ns then e.choose else []
theorem IT.nums {h:Heap}{v:Value}{ns:List Int}(x:IT h v ns):zQ h v=ns:=by
 have e: ∃ns,IT h v ns:=⟨ns,x⟩;unfold zQ;rw [dif_pos e];exact e.choose_spec.one x
section
variable {prog:Program}{w:World}{A:Around}{E:Value->Shared->Prop}{s:Shared}
theorem ZS {α β:Type}{M:Model}{f:α->Sem β}(r:α->β): ∀ (l:List α) {Q:List β->Shared->Prop},(∀v∈l,∀Q':β->Shared->Prop,Q' (r v) s->wpAny M A (f v) Q' E s)->Q (l.map r) s->wpAny M A (l.mapM f) Q E s
 | [],_,_,q=>by
  rw [List.mapM_nil];exact P0 q
 |v::l,Q,hf,q=>by
  rw [List.mapM_cons];refine wpAny_bind (hf v D9 _ (wpAny_bind ?_));exact ZS r l (λu hu=>hf u (R4 _ hu)) (P0 q)
def zU (h:Heap):Value->Option Value
 | .ref a=>match h.get? a with
  |some o=>match o.data with
   | .seq xs _=>xs[0]?
   |_=>none
  |none=>none
 |_=>none
variable {v:Value}{ns:List Int}
theorem On {Q:Option Value->Shared->Prop}(x:IT s.heap v ns)(q:Q (zU s.heap v) s):wpAny (model prog w) A (firstOfTuple' v) Q E s:=by
 obtain⟨a,its,rfl,⟨o,e,c,n,d⟩,i⟩:=x;have fe:zU s.heap (.ref a)=its[0]? :=by
  unfold zU;dsimp only;rw [e];dsimp only;rw [d]
 rw [PySem.W.kas_first_eq];refine wpAny_bind (PySem.W.Looks.here (show PySem.W.Looks (model prog w) s.heap (typeOf (.ref a)) o.cls from (PySem.W.Looks.ld e).andThen .now) ?_);rw [c,if_neg (by decide)];refine wpAny_bind (listItems_at e d (P0 ?_));rw [<-fe];exact q
variable {h:Heap}
theorem Mv (x:IT h v []):zU h v=none:=by
 obtain⟨a,its,rfl,⟨o,e,c,n,d⟩,i⟩:=x;unfold zU;dsimp only;rw [e];dsimp only;rw [d];dsimp only;obtain⟨l⟩:=its;cases i;rfl
theorem UJ {n:Int}(x:IT h v (n::ns)): ∃t,zU h v=some (.int n t):=by
 obtain⟨a,its,rfl,⟨o,e,c,k,d⟩,i⟩:=x;obtain⟨l⟩:=its;cases i with
 |cons _ t i=>exact⟨t,by unfold zU;dsimp only;rw [e];dsimp only;rw [d];rfl⟩
theorem Oo (x:IT h v ns):(zU h v).isSome= !ns.isEmpty:=by
 cases ns with
 |nil=>rw [Mv x];rfl
 |cons n ns=>obtain⟨t,e⟩:=UJ x;rw [e];rfl
noncomputable def Ci (h:Heap)(vs:List Value):SortKind:=
 if (vs.all λv=> !(zQ h v).isEmpty)=true then tuples' true else if ((vs[0]?.map λv=> !(zQ h v).isEmpty)=some true) then general' else oneType'
theorem Cj {vs:List Value}(h2:2<=vs.length)(x: ∀v∈vs,∃ns,IT h v ns){Q:SortKind->Shared->Prop}(e:Vt h s.heap)(q:Q (Ci h vs) s):wpAny (model prog w) A (keyKind' vs.toArray) Q E s:=by
 have fr: ∀v∈vs,(zU s.heap v).isSome= !(zQ h v).isEmpty:=λv hv=>by
  obtain⟨ns,t⟩:=x v hv;rw [t.nums,Oo (t.keeps e)]
 rw [keyKind'_eq,G0M,map_eq_pure_bind];refine wpAny_bind (wpAny_bind (ZS (zU s.heap) vs (λv hv Q' q'=> ?_) (P0 ?_)))
 ·obtain⟨ns,t⟩:=x v hv;exact On (t.keeps e) q'
 have all_:((vs.map (zU s.heap)).toArray.all λo=>o.isSome)=vs.all λv=> !(zQ h v).isEmpty:=by
  rw [G0Z,A5];rw [B3,R7,R7];exact⟨λz v hv=>by rw [<-fr v hv];exact z v hv,λz v hv=>by show (zU s.heap v).isSome=true;rw [fr v hv];exact z v hv⟩
 rw [all_];unfold Ci at q
 by_cases a1:(vs.all λv=> !(zQ h v).isEmpty)=true
 ·rw [if_pos a1] at q;rw [if_pos a1];refine wpAny_bind (X7 ?_);obtain⟨fs,efs,nums,ne⟩: ∃fs:List Value,vs.map (zU s.heap)=fs.map some/\(∀f∈fs,∃n t,f=Value.int n t)/\fs.length=vs.length:=by
   have go: ∀l:List Value,(∀v∈l,v∈vs)-> ∃fs:List Value,l.map (zU s.heap)=fs.map some/\(∀f∈fs,∃n t,f=Value.int n t)/\fs.length=l.length:=by
    intro l
    induction l with
    |nil=>exact λ_=>⟨[],rfl,λf hf=>absurd hf N5,rfl⟩
    |cons v l ih=>
     intro sub;obtain⟨fs,e1,e2,e3⟩:=ih λu hu=>sub u (R4 _ hu)
     have hv:=sub v D9;obtain⟨ns,t⟩:=x v hv;have ne:=R7.mp a1 v hv;rw [t.nums] at ne;cases ns with
     |nil=>cases ne
     |cons n ns=>
      obtain⟨tk,ef⟩:=UJ (t.keeps e);refine⟨.int n tk::fs,by rw [T3,T3,ef,e1],λf hf=> ?_,by rw [P9,P9,e3]⟩;rcases R0.mp hf with rfl|hf
      ·exact⟨n,tk,rfl⟩
      ·exact e2 f hf
   exact go vs λ_ hv=>hv
  rw [efs];have fm:((fs.map some).toArray.filterMap id)=fs.toArray:=by simp
  rw [fm,oneTypeOnly'_eq,G0M,map_eq_pure_bind];refine wpAny_bind (wpAny_bind (wpAny_bind (ZS (λ_=>Value.type "int") fs (λf hf Q' q'=> ?_) (P0 ?_))))
  ·obtain⟨n,t,rfl⟩:=nums f hf;exact P0 q'
  ·match fs,ne with
   | [],ne=>rw [T4] at ne;omega
   |f::fs,_=>
    have h0:(List.map (λ_=>Value.type "int") (f::fs)).toArray[0]? =some (Value.type "int"):=by simp
    have h1:((List.map (λ_=>Value.type "int") (f::fs)).toArray.all λy=>y==Value.type "int")=true:=by
     rw [G0Z,A5,R7];exact λ_ _=>rfl
    rw [h0];simp only [h1,if_true];exact P0 (P0 q)
 rw [if_neg a1] at q;rw [if_neg a1]
 match vs,h2,x,fr,q with
 |v::vs,h2,x,fr,q=>
  have h0:((List.map (zU s.heap) (v::vs)).toArray[0]?.bind id).isSome= !(zQ h v).isEmpty:=by
   rw [<-fr v D9];simp
  rw [h0];have h0':(((v::vs)[0]?.map λv=> !(zQ h v).isEmpty)=some true)↔(!(zQ h v).isEmpty)=true:=by simp
  by_cases a2:(!(zQ h v).isEmpty)=true
  ·rw [if_pos (h0'.mpr a2)] at q;rw [if_pos a2];exact P0 q
  rw [if_neg λz=>a2 (h0'.mp z)] at q;rw [if_neg a2];rw [oneTypeOnly'_eq,G0M,map_eq_pure_bind];refine wpAny_bind (wpAny_bind (wpAny_bind (ZS (λ_=>Value.type "tuple") (v::vs) (λf hf Q' q'=> ?_) (P0 ?_))))
  ·obtain⟨ns,t⟩:=x f hf;obtain⟨a,its,rfl,⟨o,e1,c,n,d⟩,i⟩:=t.keeps e;refine PySem.W.Looks.here (show PySem.W.Looks (model prog w) s.heap (typeOf (.ref a)) o.cls from (PySem.W.Looks.ld e1).andThen .now) ?_;rw [c];exact q'
  ·have h3:(List.map (λ_=>Value.type "tuple") (v::vs)).toArray[0]? =some (Value.type "tuple"):=by simp
   have h1:((List.map (λ_=>Value.type "tuple") (v::vs)).toArray.all λy=>y==Value.type "tuple")=true:=by
    rw [G0Z,A5,R7];exact λ_ _=>rfl
   rw [h3];simp only [h1,if_true];exact P0 (P0 q)
theorem Rw {fin:Bool}{Q:Bool->Shared->Prop}{m n:Nat}(ef:fin=decide (m<n)): ∀ {vs us:List Value} {ns ms:List Int} (i:Nat),IntsAre vs ns->IntsAre us ms->ns.length+n=ms.length+m->Q (zj ns ms) s->PySem.W.KatLex prog w A true fin Q (vs.zip us) i s
 |_,_,_,_,i,.nil,.nil,l,q=>by
  subst ef;rw [G0H];refine G09 ?_;rw [D7 (by rw [T4] at l;omega)];exact q
 |_,_,_,_,i,.nil,.cons c u y,l,q=>by
  subst ef;rw [G0H];refine G09 ?_;rw [G6 (by rw [T4,P9] at l;omega)];exact q
 |_,_,_,_,i,.cons a t x,.nil,l,q=>by
  subst ef;rw [List.zip_nil_right];refine G09 ?_;rw [D7 (by rw [T4,P9] at l;omega)];exact q
 |_,_,_,_,i,.cons a t x,.cons c u y,l,q=>by
  rw [W1];rw [Ut] at q;obtain⟨e,he,hiff⟩:=DZ A s a t c u;refine PySem.W.kat_cons (he prog w _ _ ?_);refine PySem.W.kat_go (λz=>PySem.W.kat_yes ?_) λz=>PySem.W.kat_no ?_
  ·rw [if_pos (hiff.mp z)] at q;exact Rw ef (i+1) x y (by rw [P9,P9] at l;omega) q
  ·rw [if_neg λz'=>by rw [hiff.mpr z'] at z;cases z] at q;cases (true&&i==0) with
   |true=>exact oneLt_int q
   |false=>exact PySem.W.kat_one _ _ (G1q q)
theorem kb {u:Value}{ms:List Int}{Q:Bool->Shared->Prop}(hu:A.units<cLine)(x:IT s.heap v ns)(y:IT s.heap u ms)(q:Q (zj ns ms) s):wpAny (model prog w) A (oneLt' true v u) Q E s:=by
 obtain⟨a,its,rfl,⟨⟨cls,dd,data,sl⟩,e1,c,n,d⟩,i⟩:=x;obtain⟨b,its2,rfl,⟨⟨cls2,dd2,data2,sl2⟩,e2,c2,n2,d2⟩,i2⟩:=y;simp only at c d c2 d2;subst c d c2 d2;rw [oneLt'_eq];simp only [if_true];refine wpAny_bind (wpAny_cRoomFor hu (wpAny_bind (wpAny_callSpecialIfBound?_slot ⟨_,e1,rfl⟩ Y8 (G0I Y8 ⟨_,e1,rfl⟩ G02 (G0Q _ _) (ZF a b its its2 n n2 dd dd2 sl sl2 ns ms i i2) ⟨e1,e2,?_⟩))));exact B0 q
theorem kc {u:Value}{ms:List Int}{Q:Bool->Shared->Prop}(hu:A.units<cLine)(x:IT s.heap v ns)(y:IT s.heap u ms)(q:Q (zj ns ms) s):wpAny (model prog w) A (oneLt' false v u) Q E s:=by
 obtain⟨a,its,rfl,t,i⟩:=x;obtain⟨b,its2,rfl,t2,i2⟩:=y;exact PySem.W.kat_one _ _ (RX t t2 i i2 hu q)
theorem Ck {vs:List Value}(hu:A.units<cLine){h':Heap}(k:Vt s.heap h'):Xx prog w A (Only s h') (Ci s.heap vs) (λx=> ∃ns,IT s.heap x.1 ns) (λx y=>zj (zQ s.heap x.1) (zQ s.heap y.1)):=by
 rintro ⟨x,x'⟩ ⟨y,y'⟩ ⟨ns,tx⟩ ⟨ms,ty⟩ s1 ⟨tk,rfl⟩;dsimp only at tx ty ⊢;have q:(zj ns ms=zj (zQ s.heap x) (zQ s.heap y)/\Only s h' {s with heap:=h',toks:=tk}):=⟨by rw [tx.nums,ty.nums],tk,rfl⟩;have kx:=tx.keeps k;have ky:=ty.keeps k;unfold Ci
 by_cases a1:(vs.all λv=> !(zQ s.heap v).isEmpty)=true
 ·rw [if_pos a1];obtain⟨a,its,rfl,⟨o,e1,c,n,d⟩,i⟩:=kx;obtain⟨b,its2,rfl,⟨o2,e2,c2,n2,d2⟩,i2⟩:=ky;refine PySem.W.kat_lt e1 d e2 d2 (Rw rfl 0 i i2 ?_ q);have z1:=i.length;have z2:=i2.length;rw [T7] at z1 z2;omega
 rw [if_neg a1]
 by_cases a2:(vs[0]?.map λv=> !(zQ s.heap v).isEmpty)=some true
 ·rw [if_pos a2];show wpAny _ _ (oneLt' false x y) _ _ _;exact kc hu kx ky q
 ·rw [if_neg a2,keyLt'_oneType];exact kb hu kx ky q
theorem PM {l:Addr}{vs:List Value}{Q:Value->Shared->Prop}(hu:A.in1.in1.units<cLine)(hl:s.heap.IsList l vs.toArray)(hz:vs.length<sizeLine)(x: ∀v∈vs,∃ns,IT s.heap v ns)
 (q: ∀ (h1 h':Heap) (tk c:Nat) (out:List Value),Vt s.heap h1->Vt h1 h'->h'.get? h1.objs.size=some (seqObj "list" out.toArray c)->out.Perm vs->out.Pairwise (λx y=>zj (zQ s.heap y) (zQ s.heap x)=false)->Q (.ref h1.objs.size) {s with heap:=h',toks:=tk}):
 wpAny (model prog w) A (call (.builtin "sorted") [.ref l]) Q E s:=by
 refine Mu (κ:=Ci s.heap vs) (U:=λx=> ∃ns,IT s.heap x.1 ns) (R:=λx y=>zj (zQ s.heap x.1) (zQ s.heap y.1)) hl hz (λh2 h' k=> ?_) (λh' k=>Ck hu k) (Ch _) x λh1 h' tk c out k1 k2 e1 e2 e3=>q h1 h' tk c out k1 k2 e1 e2 ?_
 ·exact Cj (s:= {s with heap:=h'}) h2 x k ⟨rfl,s.toks,rfl⟩
 ·rw [B1] at e3;exact e3
end
end HT
namespace L2
open PySem PySem.Spec PyProof.Rows PySem.SeqAt HT
theorem Vw {α β:Type}{f:α->β}: ∀ {out:List β} {l:List α},out.Perm (l.map f)-> ∃l':List α,l'.Perm l/\l'.map f=out
 | [],l,p=>by
  have e:=p.length_eq;rw [G0,T4] at e;exact⟨[],by rw [Q7 e.symm],rfl⟩
 |x::out,l,p=>by
  obtain⟨y,hy,rfl⟩:=D1.mp (p.mem_iff.mp D9);obtain⟨l1,l2,rfl⟩:=List.append_of_mem hy;have p2:out.Perm ((l1++l2).map f):=by
   refine List.Perm.cons_inv (a:=f y) (p.trans ?_);rw [T6,T6,T3];exact G0X
  obtain⟨l',a,b⟩:=Vw p2;exact⟨y::l',(a.cons y).trans G0X.symm,by rw [T3,b]⟩
def xw (H:Hp)(v:V)(ns:List Int):Prop:= ∃a,v= .ref a/\H a=some (.tup (ns.map V.int))
theorem Gc {X:Cx}{k:Nat}(hr:Room k X.A):CallR X (.builtin "sorted") (λxs H Q=> ∃ (a:Addr) (ps:List (V×List Int)),xs= [.ref a]/\SqL X.K H a (ps.map (·.1))/\ps.length<sizeLine/\(∀p∈ps,xw H p.1 p.2)/\ ∀ (q:Addr) (ps':List (V×List Int)),H q=none->ps'.Perm ps->(ps'.map (·.2)).Pairwise (λx y=>HT.zj y x=false)->Q (.ref q) (upd H q (.lst (ps'.map (·.1))))):=by
 intro pins s σ H xs us Q I r h;obtain⟨a,ps,rfl,hS,hz,ht,q⟩:=h;obtain⟨u,rfl,ru⟩:=Jm r;cases ru;obtain⟨its,rv,pl,hz'⟩:=I.list hS;obtain⟨zs,e1,e2,e3⟩: ∃zs:List (Value×V×List Int),its=zs.map (·.1)/\ps=zs.map (·.2)/\ ∀z∈zs,RelV z.2.1 z.1:=by
  clear hS q hz ht hz' pl
  induction ps generalizing its with
  |nil=>cases rv;exact⟨[],rfl,rfl,λz hz=>by cases hz⟩
  |cons p ps ih=>
   rw [T3] at rv;cases rv with
   |cons r1 r2=>
    obtain⟨zs,e1,e2,e3⟩:=ih _ r2;exact⟨(_,p)::zs,by rw [T3,<-e1],by rw [T3,<-e2],λz hz=>by
     rcases R0.mp hz with rfl|hz
     ·exact r1
     ·exact e3 z hz⟩
 subst e1 e2;have it: ∀z∈zs,IT s.heap z.1 z.2.2:=λz hm=>by
  obtain⟨b,eb,hb⟩:=ht z.2 (V0 hm);have rz:=e3 z hm;rw [eb] at rz;have rz:z.1= .ref b:=rz;obtain⟨_,us,r2,p⟩:=I.hok b _ hb;exact⟨b,us.toArray,rz,p.tup,ZL r2⟩
 have hu:X.A.in1.in1.units<cLine:=by
  have:=hr.un;show X.A.units+1+1<cLine;omega
 rw [G0] at hz;refine HT.PM hu pl.isList (by rw [G0];exact hz) (λv hv=> ?_) λh1 h' tk c out k1 k2 e4 pm srt=> ?_
 ·obtain⟨z,hm,rfl⟩:=D1.mp hv;exact⟨_,it z hm⟩
 obtain⟨zs',pz,rfl⟩:=Vw pm;have I1:=I.kept (t':=s.toks) k1;have vv: ∀l:List (Value×V×List Int),(∀z∈l,z∈zs)->Vals ((l.map (·.2)).map (·.1)) (l.map (·.1)):=λl=>by
  induction l with
  |nil=>exact λ_=> .nil
  |cons z l ih=>exact λsub=> .cons (e3 z (sub z D9)) (ih λy hy=>sub y (R4 _ hy))
 refine⟨.ref _,_,I1.laid (t':=tk) (o:= .lst ((zs'.map (·.2)).map (·.1))) k2 (P1 _) ⟨?_,_,c,vv zs' λz hm=>pz.mem_iff.mp hm,e4⟩,rfl,q _ (zs'.map (·.2)) (I1.hok.fresh (P1 _)) (pz.map _) ?_⟩
 ·rw [G0,G0,pz.length_eq];exact D5 hz
 ·rw [B1,B1];rw [B1] at srt;refine srt.imp_of_mem λ{y z} hy hz e=> ?_
  rw [<- (it y (pz.mem_iff.mp hy)).nums,<- (it z (pz.mem_iff.mp hz)).nums];exact e
abbrev tI (ns:List Int):D:= .tup (ns.map D.int)
def SE:RDn:=λds h Q=> ∃ (a:Addr) (nss:List (List Int)),ds= [.lst a]/\h a=some (nss.map tI)/\nss.length<sizeLine/\ ∀ (p:Addr) (mss:List (List Int)),h p=none->mss.Perm nss->mss.Pairwise (λx y=>HT.zj y x=false)->Q (.lst p) (wq h p (mss.map tI))
theorem Cl {K:PySem.W.Frag}{H:Hp}: ∀ {nss:List (List Int)} {vs:List V},RelDs K H (nss.map tI) vs-> ∃ps:List (V×List Int),vs=ps.map (·.1)/\nss=ps.map (·.2)/\ ∀p∈ps,xw H p.1 p.2
 | [],vs,r=>⟨[],r,rfl,λp hp=>by cases hp⟩
 |ns::nss,vs,r=>by
  obtain⟨v,us,e,r1,r2⟩:=(show ∃v r,vs=v::r/\RelD K H (tI ns) v/\RelDs K H (nss.map tI) r from r);obtain⟨ps,e1,e2,e3⟩:=Cl r2;obtain⟨a,ws,e4,hH,r4⟩:=(show ∃a vs,v= .ref a/\H a=some (.tup vs)/\RelDs K H (ns.map D.int) vs from r1);rw [jO r4] at hH;exact⟨(v,ns)::ps,by rw [e,e1];rfl,by rw [e2];rfl,λp hp=>by
   rcases R0.mp hp with rfl|hp
   ·exact⟨a,e4,hH⟩
   ·exact e3 p hp⟩
theorem Cm {K:PySem.W.Frag}{H:Hp}: ∀ {ps:List (V×List Int)},(∀p∈ps,xw H p.1 p.2)->RelDs K H ((ps.map (·.2)).map tI) (ps.map (·.1))
 | [],_=> .nil
 |p::ps,h=> .cons (by
  obtain⟨a,e,hH⟩:=h p D9;exact⟨a,_,e,hH,yH _⟩) (Cm λq hq=>h q (R4 _ hq))
theorem Mw {X:Cx}{k:Nat}(hr:Room k X.A):vJ X (.builtin "sorted") SE:=(Gc hr).imp λxs H Q ⟨ds,h,Qd,r,rh,⟨a,nss,e,hd,hz,q⟩,p⟩=>by
 subst e;obtain⟨v,e,r1⟩:=jF r;obtain⟨vs,hH,r2⟩:=rh a _ hd;have e1:v= .ref a:=r1.1;subst e e1;obtain⟨ps,rfl,rfl,ht⟩:=Cl r2;refine⟨a,ps,rfl,SqL.of hH,by rw [G0] at hz;exact hz,ht,λc ps' hc pm srt=> ?_⟩;exact p (.lst c) _ _ _ (.new hc) (rh.newL hc (Cm λx hx=>ht x (pm.mem_iff.mp hx))) ⟨rfl,_,jz⟩ (q c _ (rh.free hc) (pm.map _) srt)
abbrev toI (S:List Nat):List Int:=S.map λ(k:Nat)=>(k:Int)
theorem SF {S S':List Nat}(h:toI S=toI S'):S=S':=by
 have:=congrArg (List.map Int.toNat) h;rw [T5,T5] at this;have e:(Int.toNat∘λ(k:Nat)=>(k:Int))=id:=by funext k;exact K7 k
 rw [e,G0k,G0k] at this;exact this
theorem Cn (S:List Nat):tI (toI S)=jt S:=by
 show D.tup _=D.tup _;rw [T5];rfl
def leS (a b:List Nat):Bool:= !HT.zj (toI b) (toI a)
theorem Co (a b c:List Nat)(h:leS a b=true)(h':leS b c=true):leS a c=true:=by
 unfold leS at*
 cases e:HT.zj (toI c) (toI a) with
 |false=>rfl
 |true=>
  rcases Vu _ (toI b) _ e with z|z
  ·rw [z] at h';cases h'
  ·rw [z] at h;cases h
theorem Cp (a b:List Nat):(leS a b||leS b a)=true:=by
 unfold leS;cases e:HT.zj (toI b) (toI a) with
 |false=>rfl
 |true=>rw [Ww _ _ e];rfl
theorem Op {a b:List Nat}(h:leS a b=true)(h':leS b a=true):a=b:=by
 unfold leS at*
 refine SF (Vv _ _ ?_ ?_)
 ·cases e:HT.zj (toI a) (toI b) with
  |false=>rfl
  |true=>rw [e] at h';cases h'
 ·cases e:HT.zj (toI b) (toI a) with
  |false=>rfl
  |true=>rw [e] at h;cases h
def Cq (l:List (List Nat)):List (List Nat):=l.mergeSort leS
theorem wV (l:List (List Nat)):(Cq l).Perm l:=List.mergeSort_perm _ _
theorem Mx (l:List (List Nat)):(Cq l).Pairwise λa b=>leS a b=true:=List.pairwise_mergeSort Co Cp l
theorem Cr {l P:List (List Nat)}(p:P.Perm l)(r:P.Pairwise λa b=>leS a b=true):P=Cq l:=
 G0N (λa b _ _ x y=>Op x y) r (Mx l) (p.trans (wV l).symm)
theorem Cs {l:List (List Nat)}{mss:List (List Int)}(p:mss.Perm (l.map toI))(r:mss.Pairwise λx y=>HT.zj y x=false):mss.map tI=(Cq l).map jt:=by
 obtain⟨P,pP,rfl⟩:=Vw p;rw [B1] at r;rw [<-Cr pP (r.imp λe=>by unfold leS;rw [e];rfl),List.map_map];exact S9 λS _=>Cn S
end L2
namespace L2
open PySem PySem.Spec PyProof.Rows PySem.SeqAt
theorem Rx: ∀l:List Int,PyData.canLayAll0 (l.map PyData.int)=true
 | []=>rfl
 |x::l=>by show (PyData.canLay0 (.int x)&&_)=true;rw [Rx l];rfl
variable {h:HD}
theorem SG {neg:Bool}{x:Nat}{S:List Nat}{Q:KD}(q: ∀b:Bool,(b=true↔x∈S)->Q (.bl (neg !=b)) h):inE neg (.int (x:Int)) (jt S) h Q:=by
 refine⟨.int x,(zT S).map PyData.int,rfl,.inr (yW h S),rfl,Rx _,(by show (0:Nat)<=60;decide),q _ ?_⟩;rw [G0Y];constructor
 ·rintro ⟨z,hz,e⟩;obtain⟨m,hm,rfl⟩:=D1.mp hz;obtain⟨y,hy,rfl⟩:=D1.mp (show m∈S.map λ(k:Nat)=>(k:Int) from hm);have:(y:Int)=x:=by simpa [PyData.eqv] using e
  have:y=x:=by omega
  exact this ▸ hy
 ·intro z;exact⟨.int x,D1.mpr ⟨_,D1.mpr ⟨x,z,rfl⟩,rfl⟩,by simp [PyData.eqv]⟩
theorem SH {a b:List Nat}{Q:KD}(e:a≠b)(q:Q (.bl false) h):eqE (jt a) (jt b) h Q:=⟨_,_,yW h a,yW h b,yO _,yO _,by rw [Wt,D7 e];exact q⟩
theorem Xy {h':HD}{a:Addr}(sb:Sub h h')(e:h' a=none):h a=none:=by
 cases z:h a with
 |none=>rfl
 |some ds=>rw [sb a ds z] at e;cases e
theorem Sub.over {h':HD}{a:Addr}{ds:List D}(sb:Sub h h')(e:h a=none):Sub h (wq h' a ds):=⟨λb xs k=>jH (λz=>by subst z;rw [e] at k;cases k) (sb b xs k),sb.dc⟩
theorem Ct {x:Nat}{S:List Nat}{Q:KD}(q:Q (.bl (!decide (x∈S))) h):inE true (.int (x:Int)) (jt S) h Q:=SG λbo hb=>by
 have:(true !=bo)= !decide (x∈S):=by
  cases bo with
  |true=>rw [G6 (hb.mp rfl)];rfl
  |false=>rw [D7 λz=>by have:=hb.mpr z;cases this];rfl
 rw [this];exact q
structure GB (n:Nat)(h0 h:HD)(R:Addr)(rs:List Addr)(f:Nat->Nat->Bool):Prop where
 at_:h R=some (rs.map D.lst)
 len:rs.length=n
 nR:R ∉ rs
 nd:rs.Nodup
 sb:Sub h0 h
 row: ∀i a,rs[i]? =some a->h0 a=none/\h a=some ((List.range n).map λj=>D.bl (f i j))
section
variable {n:Nat}{h0 h:HD}{R:Addr}{rs:List Addr}{f g:Nat->Nat->Bool}
theorem GB.put (G:GB n h0 h R rs f){i j:Nat}{a:Addr}{v:Bool}(ha:rs[i]? =some a):GB n h0 (wq h a (((List.range n).map λj=>D.bl (f i j)).set j (.bl v))) R rs (λx y=>if x=i/\y=j then v else f x y):=by
 have hm:=G8 ha;have il:=(G7.mp ha).1;refine⟨jH (λz=>G.nR (z ▸ hm)) G.at_,G.len,G.nR,G.nd,G.sb.over (G.row i a ha).1,λx b hb=>⟨(G.row x b hb).1,?_⟩⟩
 by_cases z:x=i
 ·subst z;have eb:b=a:=by rw [ha] at hb;injection hb with hb;exact hb.symm
  subst eb;rw [jd];refine congrArg some (Q4 (by simp) λm h1 h2=> ?_);rw [List.getElem_set];simp only [Z5,W8]
  by_cases e:j=m
  ·subst e;simp
  ·rw [if_neg e,if_neg λw=>e w.2.symm]
 ·have ne:b≠a:=λw=>z ((List.getElem?_inj (G7.mp hb).1 G.nd).mp (hb.trans (by rw [w];exact ha.symm)))
  rw [jH ne (G.row x b hb).2];exact congrArg some (S9 λy _=>by rw [if_neg λw=>z w.1])
theorem GB.pick (G:GB n h0 h R rs f){i:Nat}(hi:i<n): ∃a,rs[i]? =some a/\atI (rs.map D.lst) (i:Int)=some (.lst a)/\h a=some ((List.range n).map λj=>D.bl (f i j)):=by
 have hi':i<rs.length:=by rw [G.len];exact hi
 exact⟨rs[i],G1 hi',wW (by rw [P3,G1 hi'];rfl),(G.row i _ (G1 hi')).2⟩
theorem GB.as (G:GB n h0 h R rs f)(e: ∀i j,i<n->j<n->f i j=g i j):GB n h0 h R rs g:=
 ⟨G.at_,G.len,G.nR,G.nd,G.sb,λi a ha=>⟨(G.row i a ha).1,by
  have hi:i<n:=by rw [<-G.len];exact(G7.mp ha).1
  rw [(G.row i a ha).2];exact congrArg some (S9 λj hj=>by rw [e i j hi (D2.mp hj)])⟩⟩
theorem GB.up (G:GB n h0 h R rs f){h':HD}(s:Sub h h'):GB n h0 h' R rs f:=⟨s _ _ G.at_,G.len,G.nR,G.nd,G.sb.trans s,λi a ha=>⟨(G.row i a ha).1,s _ _ (G.row i a ha).2⟩⟩
end
variable {n j:Nat}
theorem Ry {f:Nat->Bool}(hj:j<n):atI ((List.range n).map λj=>D.bl (f j)) (j:Int)=some (.bl (f j)):=PD hj
def wk (T:List (List Int)):Nat->Nat->Nat->Bool
 |0,i,j=>decide (i=j)|| !decide (ent T i j=0)
 |b+1,i,j=>wk T b i j||(wk T b i b&&wk T b b j)
theorem Xz (T:List (List Int)): ∀b i,wk T b i i=true
 |0,i=>by unfold wk;rw [decide_eq_true rfl];rfl
 |b+1,i=>by unfold wk;rw [Xz T b i];rfl
theorem AE (T:List (List Int))(b i:Nat):wk T (b+1) i b=wk T b i b:=by
 show (wk T b i b||(wk T b i b&&wk T b b b))=_;cases wk T b i b<;>rfl
theorem AF (T:List (List Int))(b j:Nat):wk T (b+1) b j=wk T b b j:=by
 show (wk T b b j||(wk T b b b&&wk T b b j))=_;cases wk T b b j<;>cases wk T b b b<;>rfl
variable {T:List (List Int)}{i:Nat}
theorem Rz (h:ent T i j≠0): ∀b,wk T b i j=true
 |0=>by unfold wk;rw [decide_eq_false h];simp
 |b+1=>by unfold wk;rw [Rz h b];rfl
theorem wk_by {b:Nat}:wk T (b+1) i j=true↔wk T b i j=true\/(wk T b i b=true/\wk T b b j=true):=by
 show (wk T b i j||(wk T b i b&&wk T b b j))=true↔_;rw [W6,S5]
theorem yq: ∀ {b i k j:Nat},k<b->wk T b i k=true->wk T b k j=true->wk T b i j=true
 |b+1,i,k,j,hk,x,y=>by
  by_cases e:k=b
  ·subst e;rw [AE] at x;rw [AF] at y;exact wk_by.mpr (.inr ⟨x,y⟩)
  ·have lt:k<b:=by omega
   rcases wk_by.mp x with x|⟨x1,x2⟩
   ·rcases wk_by.mp y with y|⟨y1,y2⟩
    ·exact wk_by.mpr (.inl (yq lt x y))
    ·exact wk_by.mpr (.inr ⟨yq lt x y1,y2⟩)
   ·rcases wk_by.mp y with y|⟨y1,y2⟩
    ·exact wk_by.mpr (.inr ⟨x1,yq lt x2 y⟩)
    ·exact wk_by.mpr (.inr ⟨x1,y2⟩)
theorem Yz {P:Nat->Nat->Prop}(r: ∀i,P i i)(a: ∀i j,ent T i j≠0->P i j)(t: ∀i k j,P i k->P k j->P i j): ∀ {b i j:Nat},wk T b i j=true->P i j
 |0,i,j,h=>by
  have h:(decide (i=j)|| !decide (ent T i j=0))=true:=h;rw [W6] at h;rcases h with h|h
  ·rw [M0 h];exact r j
  ·exact a i j λz=>by rw [G6 z] at h;cases h
 |b+1,i,j,h=>by
  rcases wk_by.mp h with h|⟨h1,h2⟩
  ·exact Yz r a t h
  ·exact t _ _ _ (Yz r a t h1) (Yz r a t h2)
theorem SI {e:Nat}(h:Sq n e T)(i j:Nat)(z:ent T i j≠0):j<n:=by
 by_cases hj:j<n
 ·exact hj
 ·exfalso;apply z;unfold ent
  by_cases hi:i<T.length
  ·have hr:=h.row (T.getD i []) (by rw [G3,G1 hi];exact R8 hi);rw [G3,N8 (by rw [hr];omega)];rfl
  ·rw [G3 (l:=T),N8 (by omega)];rfl
def fW (T:List (List Int))(b i j x y:Nat):Bool:=if x<i\/(x=i/\y<j) then wk T (b+1) x y else wk T b x y
theorem ke (T:List (List Int))(b i j x:Nat):fW T b i j x b=wk T b x b:=by
 unfold fW;rw [AE]
 by_cases c:x<i\/(x=i/\b<j)
 ·rw [if_pos c]
 ·rw [if_neg c]
theorem kf (T:List (List Int))(b i j y:Nat):fW T b i j b y=wk T b b y:=by
 unfold fW;rw [AF]
 by_cases c:b<i\/(b=i/\y<j)
 ·rw [if_pos c]
 ·rw [if_neg c]
theorem kg {b:Nat}(h1:wk T b i b=true)(h2:wk T b b j=true)(x y:Nat):(if x=i/\y=j then true else fW T b i j x y)=fW T b i (j+1) x y:=by
 by_cases e:x=i/\y=j
 ·obtain⟨rfl,rfl⟩:=e;unfold fW;rw [if_pos ⟨rfl,rfl⟩,if_pos (.inr ⟨rfl,O3 _⟩)];exact(wk_by.mpr (.inr ⟨h1,h2⟩)).symm
 ·rw [if_neg e];unfold fW
  by_cases c:x<i\/(x=i/\y<j)
  ·rw [if_pos c,if_pos (by omega)]
  ·rw [if_neg c,if_neg (by omega)]
theorem Cu {b:Nat}(h: ¬ (wk T b i b=true/\wk T b b j=true))(x y:Nat):fW T b i j x y=fW T b i (j+1) x y:=by
 unfold fW
 by_cases c:x<i\/(x=i/\y<j)
 ·rw [if_pos c,if_pos (by omega)]
 ·rw [if_neg c]
  by_cases e:x=i/\y=j
  ·obtain⟨rfl,rfl⟩:=e;rw [if_pos (by omega),B3,wk_by];exact⟨.inl,λz=>z.resolve_right h⟩
  ·rw [if_neg (by omega)]
theorem SJ (T:List (List Int))(b i x y:Nat)(hy:y<n):fW T b i n x y=fW T b (i+1) 0 x y:=by
 unfold fW
 by_cases c:x<i\/(x=i/\y<n)
 ·rw [if_pos c,if_pos (by omega)]
 ·rw [if_neg c,if_neg (by omega)]
theorem kh (T:List (List Int))(b x y:Nat)(hx:x<n):fW T b n 0 x y=wk T (b+1) x y:=by
 unfold fW;rw [if_pos (.inl hx)]
theorem SK (T:List (List Int))(b x y:Nat):wk T b x y=fW T b 0 0 x y:=by
 unfold fW;rw [if_neg (by omega)]
def inS (A B:List Nat):List Nat:=A.filter λj=>decide (j∈B)
section
variable {X:Cx}{iter iter' elt:Expr}{te:TED}{ti ti':TID}{tt tt':TTD}{pos spos:Pos}{scope:Scope}{js:List Nat}{ifs ifs':List Expr}
theorem SL {i i' k:Nat}{x z y:Str}{p pz py:Pos}(hc:X.calm=true)(hN:X.N.Nodup)(hk:X.N[k]? =some y)(hy:Loc X.env.scope y)(S:BlockOk X scope js)(hi:JI X (.Name x p) iter ti)(hj:i∈js)(hj':i'∈js)(hne:i≠i')(hx:X.N[i]? =some x)(hz:X.N[i']? =some z)
 (hl:scope.names.lookup x=some .local\/scope.names.lookup x=some .cell)(hl':scope.names.lookup z=some .local\/scope.names.lookup z=some .cell)
 (ht: ∀X',jp X scope X'->PTs X' ifs (LT X'.K tt))(hi': ∀X',jp X scope X'->JI X' (.Name z pz) iter' ti')(ht': ∀X',jp X scope X'->PTs X' ifs' (LT X'.K tt'))(he: ∀X',jp X scope X'->JE X' elt te)
 (hsw:swapsWith (.ListComp elt [⟨.Name x p,iter,ifs,0⟩,⟨.Name z pz,iter',ifs',0⟩] scope pos) (some (.Name y py)) spos.line X.env=pure true:=by rfl)
 (hf:X.fn y=true\/X.env.scope.names.lookup y=some .local:=by first|exact .inl rfl|exact .inr rfl|assumption)(hs: ∀x,foldedSetIterable iter X.env x=pure x:=by intro _;rfl)(hs': ∀env x,foldedSetIterable iter' env x=pure x:=by intro _ _;rfl):
 JS X (.Assign [.Name y py] (.ListComp elt [⟨.Name x p,iter,ifs,0⟩,⟨.Name z pz,iter',ifs',0⟩] scope pos) spos) (EB k (EQ (bN i) js ti tt i' ti' tt' te)):=by
 have base:PS X (.Assign [.Name y py] (.ListComp elt [⟨.Name x p,iter,ifs,0⟩,⟨.Name z pz,iter',ifs',0⟩] scope pos) spos) (Ak (kJ js (LI X.K ti) (yF i) (LT X.K tt) (LI X.K ti') (yF i') (LT X.K tt') (LE X.K te)) (yF k)):=
  NX hc S hi.to rfl (λX' hX=>by obtain⟨C,s₀,H₀,ex,rfl⟩:=hX;exact yn hN hx hl) (λX' hX=>by have:=ht X' hX;obtain⟨C,s₀,H₀,ex,rfl⟩:=hX;exact this)
   (λenv acc=>Md (.ListComp elt [⟨.Name x p,iter,ifs,0⟩,⟨.Name z pz,iter',ifs',0⟩] scope pos) iter' env acc) (λ_ _ _=>NZ ..)
   (λX' hX D=>by
    have a:=(hi' X' hX).to;have b:=ht' X' hX;have c:=(he X' hX).to;obtain⟨C,s₀,H₀,ex,rfl⟩:=hX;exact NY (g:=yF i') hc rfl a (yn hN hz hl') b c (hs' _))
   (JH hN hk hy hf) hsw hs
 exact⟨base.imp λD σ H h=>by
  obtain⟨σd,hd,Qd,rs,rh,t,p⟩:=Be (K:=X.K) D σ H h;exact At (As hj hj' hne) σ H _ ⟨σd,hd,Qd,rs,rh,t,p⟩⟩
end
def SM (g:Nat->Nat->Bool)(w:List Nat)(j:Nat):Bool:=g (w.getLastD 0) j&&(decide (w.headD 0<j)&& !decide (j∈w))
def ki (g:Nat->Nat->Bool)(n:Nat)(w:List Nat):List (List Nat):=((List.range n).filter (SM g w)).map λj=>w++ [j]
def lev (g:Nat->Nat->Bool)(n:Nat):Nat->List (List Nat)
 |0=>(List.range n).map λi=> [i]
 |t+1=>(lev g n t).flatMap (ki g n)
variable {α:Type}
theorem yc {p q:α->Bool}(h: ∀a,p a=true->q a=true): ∀l:List α,(l.filter p).Sublist (l.filter q)
 | []=> .slnil
 |a::l=>by
  cases e:p a with
  |true=>rw [L8 e,L8 (h a e)];exact(yc h l).cons₂ a
  |false=>
   rw [E2 (by rw [e];exact P7)];cases e':q a with
   |true=>rw [L8 e'];exact(yc h l).cons a
   |false=>rw [E2 (by rw [e'];exact P7)];exact yc h l
theorem Vx {β:Type}{f g:α->List β}(h: ∀a,(f a).Sublist (g a)): ∀ {l m:List α},l.Sublist m->(l.flatMap f).Sublist (m.flatMap g)
 |_,_,.slnil=> .slnil
 |_,_,.cons a s=>by rw [Q0];exact(Vx h s).trans (List.sublist_append_right _ _)
 |_,_,.cons₂ a s=>by rw [Q0,Q0];exact(h a).append (Vx h s)
variable {g:Nat->Nat->Bool}
theorem YA {g':Nat->Nat->Bool}(h: ∀i j,g i j=true->g' i j=true)(n:Nat): ∀t,(lev g n t).Sublist (lev g' n t)
 |0=>List.Sublist.refl _
 |t+1=>Vx (λw=>(yc (λj e=>by
  unfold SM at*
  rw [S5] at*
  exact⟨h _ _ e.1,e.2⟩) (List.range n)).map _) (YA h n t)
def kN:Nat->Nat->Bool:=λ_ _=>true
theorem SN: ∀n,n<=6-> ∀t,t<=6->(lev kN n t).length<=144:=by decide +kernel
variable {t:Nat}
theorem Cv (h6:n<=6)(ht:t<=6):(lev g n t).length<=144:=R1 (YA (λ_ _ _=>rfl) n t).length_le (SN n h6 t ht)
theorem Oq (n:Nat)(h6:n<=6):lev kN n n= []:=by
 have: ∀n,n<=6->lev kN n n= []:=by decide +kernel
 exact this n h6
theorem SO (h6:n<=6):lev g n n= []:=Q7 (Nat.le_zero.mp (by rw [<-T4 (α:=List Nat),<-Oq n h6];exact(YA (λ_ _ _=>rfl) n n).length_le))
theorem kj (h:lev g n t= []):lev g n (t+1)= []:=by
 show (lev g n t).flatMap _= [];rw [h];rfl
structure LevOk (n t:Nat)(w:List Nat):Prop where
 len:w.length=t+1
 lt: ∀i∈w,i<n
 nd:w.Nodup
 low: ∀i∈w,w.headD 0<=i
theorem ZT: ∀ {t:Nat} {w:List Nat},w∈lev g n t->LevOk n t w
 |0,w,h=>by
  obtain⟨i,hi,rfl⟩:=D1.mp h;exact⟨rfl,λj hj=>by rw [G5.mp hj];exact D2.mp hi,T9 _ _,λj hj=>by rw [G5.mp hj];exact P1 _⟩
 |t+1,w,h=>by
  obtain⟨v,hv,hw⟩:=G00.mp h;have o:=ZT hv;obtain⟨j,hj,rfl⟩:=D1.mp hw;obtain⟨hj1,hj2⟩:=M5.mp hj;unfold SM at hj2;rw [S5,S5] at hj2;obtain⟨_,h3,h4⟩:=hj2;have h3:=M0 h3;have h4:j ∉ v:=λz=>by rw [G6 z] at h4;cases h4
  have hd:(v++ [j]).headD 0=v.headD 0:=by
   cases v with
   |nil=>have:=o.len;cases this
   |cons a v=>rfl
  refine⟨by rw [G9,o.len];rfl,λi hi=> ?_,?_,λi hi=> ?_⟩
  ·rcases P6.mp hi with z|z
   ·exact o.lt i z
   ·rw [G5.mp z];exact D2.mp hj1
  ·exact A0.mpr ⟨o.nd,T9 _ _,λa ha b hb e=>by rw [G5.mp hb] at e;subst e;exact h4 ha⟩
  ·rw [hd];rcases P6.mp hi with z|z
   ·exact o.low i z
   ·rw [G5.mp z];exact D5 h3
def Vy (g:Nat->Nat->Bool)(n:Nat):Nat->List (List Nat)
 |0=> []
 |t+1=>Vy g n t++(lev g n t).filter λw=>g (w.getLastD 0) (w.headD 0)
def vH (T:List (List Int))(i j:Nat):Bool:=decide (ent T i j>0)
def jD (T:List (List Int))(n:Nat):List (List Nat):=Cq (Vy (vH T) n n)
theorem Gd {g':Nat->Nat->Bool}(h: ∀i j,g i j=true->g' i j=true)(n:Nat): ∀t,(Vy g n t).length<=(Vy g' n t).length
 |0=>P1 _
 |t+1=>by
  show (Vy g n t++_).length<=(Vy g' n t++_).length;rw [G9,G9];exact Nat.add_le_add (Gd h n t) (((YA h n t).filter _).trans (yc (λw e=>h _ _ e) _)).length_le
theorem SQ: ∀n,n<=6-> ∀t,t<=6->(Vy kN n t).length<=415:=by decide +kernel
theorem RA (h6:n<=6)(ht:t<=6):(Vy g n t).length<=415:=R1 (Gd (λ_ _ _=>rfl) n t) (SQ n h6 t ht)
theorem Ge: ∀ {t:Nat} (k:Nat),lev g n t= []->Vy g n (t+k)=Vy g n t/\lev g n (t+k)= []
 |t,0,h=>⟨rfl,h⟩
 |t,k+1,h=>by
  obtain⟨a,b⟩:=Ge k h;refine⟨?_,kj b⟩;show Vy g n (t+k)++(lev g n (t+k)).filter _=_;rw [b,a,G1a,F7]
theorem PN: ∀ {t:Nat} {w:List Nat},w∈Vy g n t-> ∃s,s<t/\LevOk n s w/\g (w.getLastD 0) (w.headD 0)=true
 |t+1,w,h=>by
  rcases P6.mp (show w∈Vy g n t++(lev g n t).filter _ from h) with z|z
  ·obtain⟨s,a,b⟩:=PN z;exact⟨s,by omega,b⟩
  ·obtain⟨z1,z2⟩:=M5.mp z;exact⟨t,O3 t,ZT z1,z2⟩
variable {w:List Nat}
theorem ZU (h:w∈jD T n): ∃s,s<n/\LevOk n s w/\ent T (w.getLastD 0) (w.headD 0)>0:=by
 obtain⟨s,a,b,c⟩:=PN ((wV _).mem_iff.mp h);exact⟨s,a,b,M0 c⟩
theorem Ji (h:w.length=t+1):atI (w.map λ(k:Nat)=>D.int (k:Int)) 0=some (.int ((w.headD 0:Nat):Int)):=by
 cases w with
 |nil=>cases h
 |cons a w=>exact wW (j:=0) rfl
theorem Cw (h:w.length=t+1):atI (w.map λ(k:Nat)=>D.int (k:Int)) (-1)=some (.int ((w.getLastD 0:Nat):Int)):=by
 refine LZ (by rw [G0];omega) ?_;rw [G0,P3,B7,B8,G1 (by omega)];rfl
theorem Cy (h:w.length=t+1):w.getLastD 0∈w:=by
 rw [B7,B8,G1 (by omega)];exact R8 _
theorem RB (h:w.length=t+1):w.headD 0∈w:=by
 cases w with
 |nil=>cases h
 |cons a w=>exact D9
variable {β:Type}
theorem Cz (f:α->List β){xs:List α}{k:Nat}{x:α}(h:xs[k]? =some x):(xs.take (k+1)).flatMap f=(xs.take k).flatMap f++f x:=by
 rw [N6,h,G1s];simp
theorem CA (p:α->Bool)(g:α->β){xs:List α}{k:Nat}{x:α}(h:xs[k]? =some x):((xs.take (k+1)).filter p).map g=((xs.take k).filter p).map g++if p x=true then [g x] else []:=by
 rw [N6,h,L7,T6]
 congr 1
 by_cases c:p x=true
 ·rw [if_pos c];simp [c]
 ·rw [if_neg c];simp [c]
theorem WS (f:α->List β)(xs:List α)(k:Nat):((xs.take k).flatMap f).length<=(xs.flatMap f).length:=by
 conv=>rhs;rw [<-R5 k xs,G1s,G9]
 omega
section
variable {α β:Type}{i i':Nat}{js:List Nat}{ti ti':TID}{tt':TTD}{te:TED}{σ:SD}{h:HD}{Q:KD}{j:ItD}
theorem AG (xs:List α)(c:α->D)(ys:α->List β)(c':β->D)(p:α->β->Bool)(g:α->β->D)(hz:(xs.flatMap λx=>((ys x).filter (p x)).map (g x)).length<=sizeLine)(hj: ∀h',Sub h h'->j h'=some (xs.map c))(ht: ∀R:ItD->HD->Prop,R j h->ti σ h R)
 (hin: ∀x∈xs,∀h',Sub h h'-> ∀R:ItD->HD->Prop,(∀j' h2,Sub h' h2->(∀h3,Sub h2 h3->j' h3=some ((ys x).map c'))->R j' h2)->ti' ((jX js σ).set i (some (c x))) h' R)
 (hp: ∀x∈xs,∀y∈ys x,∀h',Sub h h'-> ∀Q':Bool->HD->Prop,Q' (p x y) h'->tt' (((jX js σ).set i (some (c x))).set i' (some (c' y))) h' Q')
 (he: ∀x∈xs,∀y∈ys x,p x y=true-> ∀h',Sub h h'-> ∀Q':KD,Q' (g x y) h'->te (((jX js σ).set i (some (c x))).set i' (some (c' y))) h' Q')
 (hq: ∀a h',Sub h h'->h' a=none->Q (.lst a) (wq h' a (xs.flatMap λx=>((ys x).filter (p x)).map (g x)))):EQ (bN i) js ti YT i' ti' tt' te σ h Q:=by
 refine ht _ ⟨xs.length,λk zs h'=>Sub h h'/\zs=(xs.take k).flatMap λx=>((ys x).filter (p x)).map (g x),⟨Sub.refl h,rfl⟩,?_⟩;rintro k zs h1 ⟨s1,rfl⟩;refine⟨R1 (WS _ xs k) hz,xs.map c,hj h1 s1,by rw [G0];exact P1 _,λhl a ha=> ?_,λd hd=> ?_⟩
 ·rw [G0] at hl;rw [R3 hl];exact hq a h1 s1 ha
 rw [P3] at hd;cases ex:xs[k]? with
 |none=>rw [ex] at hd;cases hd
 |some x=>
  rw [ex] at hd;injection hd with hd
  subst hd;have mx:=G8 ex;refine⟨_,rfl,?_⟩;unfold YT;refine JJ ?_;refine hin x mx h1 s1 _ λj' h2 s2 hj'=>⟨(ys x).length,λm zs h'=>Sub h2 h'/\zs=((xs.take k).flatMap λx=>((ys x).filter (p x)).map (g x))++(((ys x).take m).filter (p x)).map (g x),⟨Sub.refl h2,by simp⟩,?_⟩
  rintro m zs h3 ⟨s3,rfl⟩;have s03:Sub h h3:=(s1.trans s2).trans s3;have tk:=Cz (λx=>((ys x).filter (p x)).map (g x)) ex;refine⟨?_,(ys x).map c',hj' h3 s3,by rw [G0];exact P1 _,λhl=> ?_,λd hd=> ?_⟩
  ·refine R1 ?_ (R1 (WS (λx=>((ys x).filter (p x)).map (g x)) xs (k+1)) hz);rw [tk,G9,G9,G0,G0];have:=(E6 m (ys x)).filter (p x) |>.length_le;omega
  ·rw [G0] at hl;refine⟨h3,Sub.refl _,s03,?_⟩;rw [tk,R3 hl]
  ·rw [P3] at hd;cases ey:(ys x)[m]? with
   |none=>rw [ey] at hd;cases hd
   |some y=>
    rw [ey] at hd;injection hd with hd
    subst hd;have my:=G8 ey;have tf:=CA (p x) (g x) ey;refine hp x mx y my h3 s03 _ ?_
    by_cases cp:p x y=true
    ·rw [if_pos cp] at tf ⊢;refine he x mx y my cp h3 s03 _ ⟨h3,Sub.refl _,s3,?_⟩;rw [tf,P2]
    ·rw [if_neg cp] at tf ⊢;refine⟨h3,Sub.refl _,s3,?_⟩;rw [tf,F7]
end
theorem Mz: ∀ {xs ys:List Int},xs.Nodup->(∀x,x∈xs↔x∈ys)->(xs.length=ys.length↔ys.Nodup):=by
 intro xs ys nd m;constructor
 ·intro e;rcases G0y ys.Nodup with h|h
  ·exact h
  ·exfalso;have key: ∀l:List Int,¬l.Nodup-> ∃l':List Int,l'.length<l.length/\ ∀x,x∈l↔x∈l':=by
    intro l
    induction l with
    |nil=>exact λh=>absurd G0E h
    |cons a l ih=>
     intro h
     by_cases c:a∈l
     ·exact⟨l,by rw [P9];omega,λx=>⟨λz=>by rcases R0.mp z with rfl|z<;>assumption,R4 _⟩⟩
     ·obtain⟨l',a1,a2⟩:=ih λz=>h (L6.mpr ⟨c,z⟩)
      exact⟨a::l',by rw [P9,P9];omega,λx=>by rw [R0,R0,a2 x]⟩
   obtain⟨l',a1,a2⟩:=key ys h;have:=HT.Jh nd λx hx=>(a2 x).mp ((m x).mp hx)
   omega
 ·intro h;exact G1b (HT.Jh nd λx hx=>(m x).mp hx) (HT.Jh h λx hx=>(m x).mpr hx)
theorem CB {l:List Int}:l.reverse.Nodup↔l.Nodup:=by
 unfold List.Nodup;rw [U1];exact⟨λh=>h.imp λz=>z.symm,λh=>h.imp λz=>z.symm⟩
theorem CC {X:Cx}:CallR X (.builtin "len") (λxs H Q=> ∃ (p:Addr) (o:Obj) (ns:List Int),xs= [.ref p]/\H p=some (.frz o (.own 0))/\Ro X.w o ns/\ns.length<64/\ ∀k:Nat,k<=ns.length->(k=ns.length↔ns.Nodup)->Q (.int (k:Int)) H):=by
 intro pins s σ H xs us Q I r h;obtain⟨p,o,ns,rfl,hp,⟨es,ep,t,rfl,S⟩,few,q⟩:=h;obtain⟨u,rfl,ru⟩:=Jm r;cases ru;have sz:es.size=(es.toList.map HT.AC).length:=by rw [G0,T7]
 have le:es.size<=ns.length:=by rw [sz];exact HT.Jh S.nd λx hx=>(S.mem x).mp hx
 refine call_len_set (I.hok p _ hp).1 ⟨rfl,rfl,rfl⟩ rfl S.tab.fits (by omega) ?_;exact⟨.int _,H,I.tok _,⟨_,rfl⟩,q es.size le (by rw [sz];exact Mz S.nd S.mem)⟩
def dLS (ta:TAD):TED:=λσ h Q=>ta σ h λds h1=> ∃ns:List Int,(ds= [.tup (ns.map D.int)]\/ ∃a,ds= [.lst a]/\h1 a=some (ns.map D.int))/\ns.length<64/\ ∀k:Nat,k<=ns.length->(k=ns.length↔ns.Nodup)->Q (.int (k:Int)) h1
theorem jls {X : Cx} {a : Expr} {ta : TAD} {p p2 pos pos2 : Pos} (hc : X.calm = true) (hg : Gl X "len") (hm : X.mg "len" = none) (hg2 : Gl X "set") (hm2 : X.mg "set" = none) (ha : JA X [a] ta) (hs : starEach [a] X.env = [(false, eval a X.env)] := by rfl)
    (h1 : starEach [.Call (.Name "set" p2) [a] [] pos2] X.env = (false, eval (.Call (.Name "set" p2) [a] [] pos2) X.env) :: starEach [] X.env := by rfl) (h2 : (backTo pos (starEach [] X.env)).any (·.1) = false := by rfl) (h3 : (backTo pos2 (starEach [] X.env)).any (·.1) = false := by rfl) :
    JE X (.Call (.Name "len" p) [.Call (.Name "set" p2) [a] [] pos2] [] pos) (dLS ta) :=
  ⟨(UT CC hg hm R6 (yS (YG (BZ hc) hg2 hm2 (by decide +kernel) ha.to (by decide) (by decide) hs h3) pa_nil h1) (by decide) (by decide) h1 h2).imp
    fun σ H Q ⟨σd, h, Qd, rs, rh, t, post⟩ => LA.bind rs rh t fun ds vs h1 H1 k1 rs1 rh1 r1 ⟨ns, hd, few, q⟩ => by
      have fin : ∀ c o, H1 c = none → Ro X.w o ns.reverse → ∃ (p : Addr) (o' : Obj) (ms : List Int), [V.ref c] = [.ref p] ∧ upd H1 c (.frz o (.own 0)) p = some (.frz o' (.own 0)) ∧ Ro X.w o' ms ∧ ms.length < 64 ∧ ∀ k : Nat, k ≤ ms.length → (k = ms.length ↔ ms.Nodup) → Q (.int (k : Int)) (upd H1 c (.frz o (.own 0))) := fun c o hcn S =>
        ⟨c, o, ns.reverse, rfl, jz, S, by simpa using few, fun k a b => by
          have rh2 := rh1.new (o := .frz o (.own 0)) hcn
          rw [T0] at a b
          exact post (.int _) _ _ _ (k1.trans (.new hcn)) rh2 rfl (q k a (b.trans CB))⟩
      rcases hd with e | ⟨a, e, ha⟩
      · subst e
        obtain ⟨v, e, r2⟩ := jF r1
        obtain ⟨a, ws, e1, hH, r3⟩ := (show ∃ a vs, v = .ref a ∧ H1 a = some (.tup vs) ∧ RelDs X.K H1 (ns.map D.int) vs from r2)
        rw [jO r3] at hH
        subst e e1
        exact ⟨a, ns, rfl, .inr (SqT.of hH), few, fin⟩
      · subst e
        obtain ⟨v, e, r2⟩ := jF r1
        obtain ⟨ws, hH, r3⟩ := rh1 a _ ha
        have e1 : v = .ref a := r2.1
        rw [jO r3] at hH
        subst e e1
        exact ⟨a, ns, rfl, .inl (SqL.of hH), few, fin⟩⟩
def qy (d:D):Prop:= ∀es,d= .tup es->es.length<=53
def kO (T:List (List Int))(W:List Nat):Bool:= !W.isEmpty&&(decide (∀x∈W,W.headD 0<=x)&&(decide W.Nodup&&Yh T (W++W.take 1)))
def Gf (T:List (List Int))(n:Nat)(d:D):Bool:=wD d n&&kO T (yp d)
theorem RC: ∀ (W:List Nat) (x:Nat),W≠ []->(W++ [x]).zip ((W++ [x]).drop 1)=W.zip (W.drop 1)++ [(W.getLastD 0,x)]
 | [],x,h=>absurd rfl h
 | [a],x,_=>rfl
 |a::b::W,x,_=>by
  have:=RC (b::W) x (by simp);show (a,b)::((b::W)++ [x]).zip (((b::W)++ [x]).drop 1)=_;rw [this];rfl
variable {W:List Nat}
theorem CF (x:Nat)(h:W≠ []):Yh T (W++ [x])=(Yh T W&&decide (ent T (W.getLastD 0) x>0)):=by
 unfold Yh;rw [RC W x h,List.all_append];cases W with
 |nil=>exact absurd rfl h
 |cons a W=>simp
theorem RD (h:W≠ []):W.take 1= [W.headD 0]:=by
 cases W with
 |nil=>exact absurd rfl h
 |cons a W=>rfl
theorem YB (W:List Nat):yp (jt W)=W:=by
 show (W.map λ(k:Nat)=>D.int (k:Int)).map Mp=W;rw [T5];have:(Mp∘λ(k:Nat)=>D.int (k:Int))=id:=by funext k;rfl
 rw [this,G0k]
theorem Vz (h: ∀i∈W,i<n):wD (jt W) n=true:=by
 show (W.map _).all _=true;rw [R7];intro x hx;obtain⟨i,hi,rfl⟩:=D1.mp hx;have:=h i hi;show (decide ((0:Int)<=(i:Int))&&decide ((i:Int)<=(n:Int)-1))=true;rw [G6 (show (0:Int)<=(i:Int) by omega),G6 (show (i:Int)<=(n:Int)-1 by omega)];rfl
theorem toI_nodup:(toI W).Nodup↔W.Nodup:=by
 unfold List.Nodup;rw [B1];exact⟨λh=>h.imp λz e=>z (by rw [e]),λh=>h.imp λz e=>z (by omega)⟩
theorem ZV (W:List Nat):jt W= .tup ((toI W).map D.int):=(Cn W).symm
end L2
namespace L2
open PySem PySem.Spec PyProof.Rows PySem.SeqAt HT
open Classical in
noncomputable def readOf (h:Heap)(v:Value):PyData:=if e: ∃p as,p.canLay0=true/\Reads h v p as then e.choose else .none
end L2
namespace L2
open PySem PySem.Spec PyProof.Rows
def s5:Nat->Nat
 |0=>0
 |d+1=>5*s5 d+1
def f5 (N:Nat):Nat->Nat->Nat
 |0,a=>a
 |d+1,a=>(f5 N d a*5+1)%N
theorem RE: ∀ (fuel k n:Nat),3<=k-> ∃m,3<=m/\SetTable.sizeAbove.go n fuel (2^k)=2^m/\(n<2^(k+fuel)->n<2^m)
 |0,k,n,h=>⟨k,h,rfl,λz=>z⟩
 |fuel+1,k,n,h=>by
  unfold SetTable.sizeAbove.go
  by_cases c:2^k<=n
  ·rw [if_pos c,<-Nat.pow_succ];obtain⟨m,a,b,d⟩:=RE fuel (k+1) n (by omega);exact⟨m,a,b,λz=>d (by rw [Nat.add_right_comm,E1];exact z)⟩
  ·rw [if_neg c];exact⟨k,h,rfl,λ_=>by omega⟩
theorem above {n:Nat}(h:n<2^67): ∃m,SetTable.sizeAbove n=2^m/\n<SetTable.sizeAbove n/\8<=SetTable.sizeAbove n:=by
 obtain⟨m,a,b,c⟩:=RE 64 3 n (by decide);have b:SetTable.sizeAbove n=2^m:=b;refine⟨m,b,by rw [b];exact c h,?_⟩;rw [b];exact Z8 (show 0<2 by decide) a
end L2
namespace L2
open PySem PySem.Spec PyProof.Rows HT
def SR (h h':Heap):Prop:= ∀ (b:Addr) (o:Obj),o.cls= .type "tuple" ->h.get? b=some o->h'.get? b=some o
structure MemK (prog:Program)(w:World)(K:Type)[DecidableEq K] where
 is:Heap->K->Addr->Prop
 hash:K->Int
 inj: ∀ {h:Heap} {x y:K} {a:Addr},is h x a->is h y a->x=y
 keep: ∀ {h h':Heap} {x:K} {a:Addr},SR h h'->is h x a->is h' x a
 hashed: ∀ {A:Around} {E:Value->Shared->Prop} {s:Shared} {x:K} {a:Addr} {Q:Int->Shared->Prop},A.units+8<cLine->is s.heap x a->(∀tk,Q (hash x) {s with toks:=tk})->wpAny (model prog w) A (pyHash (.ref a)) Q E s
 same: ∀ {A:Around} {E:Value->Shared->Prop} {s:Shared} {x y:K} {a b:Addr} {Q:Bool->Shared->Prop},A.units+8<cLine->is s.heap x a->is s.heap y b->Q (decide (x=y)) s->wpAny (model prog w) A (eqBool (.ref a) (.ref b)) Q E s
 quiet: ∀ {A:Around} {E:Value->Shared->Prop} {s:Shared} {x:K} {a:Addr} {Q:Bool->Shared->Prop},is s.heap x a->Q true s->wpAny (model prog w) A (eqIsQuiet 8 (.ref a)) Q E s
 cls: ∀ {A:Around} {E:Value->Shared->Prop} {s:Shared} {x:K} {a:Addr} {Q:Bool->Shared->Prop},is s.heap x a->Q false s->wpAny (model prog w) A (ofAClassStatement 8 (.ref a)) Q E s
 byv: ∀ {A:Around} {E:Value->Shared->Prop} {s:Shared} {x:K} {a:Addr} {Q:Bool->Shared->Prop},is s.heap x a->Q true s->wpAny (model prog w) A (hashByValue 8 (.ref a)) Q E s
section
variable {prog:Program}{w:World}{A:Around}{E:Value->Shared->Prop}{s:Shared}{K:Type}[DecidableEq K]
theorem ye: ∀ {xs ys:List K},xs.Nodup->(∀x∈xs,x∈ys)->xs.length<=ys.length
 | [],_,_,_=>S8 _
 |x::xs,ys,nd,h=>by
  obtain⟨n1,n2⟩:=L6.mp nd;have le:=ye (ys:=ys.erase x) n2 λy hy=>(U7 (λ(e:y=x)=>n1 (by rw [<-e];exact hy))).mpr (h y (.tail _ hy))
  rw [K9 (h x (.head _))] at le;have pos:=X6 (h x (.head _));rw [P9];omega
end
end L2
namespace L2
open PySem PySem.Spec PyProof.Rows PySem.SeqAt HT
def pcS (T:List (List Int))(n p:Nat):List Nat:=(List.range n).filter λj=>wk T n p j&&wk T n j p
def WT (T:List (List Int))(n:Nat):List (List Nat):=((List.range n).filter λp=>decide ((pcS T n p).headD 0=p)).map (pcS T n)
section
variable {T:List (List Int)}{n e:Nat}
theorem kl (p:Nat):IsS n (pcS T n p):=⟨_,rfl⟩
variable {p:Nat}
theorem mem_pc {j:Nat}:j∈pcS T n p↔j<n/\wk T n p j=true/\wk T n j p=true:=by
 unfold pcS;rw [M5,D2,S5]
theorem CG (hp:p<n):p∈pcS T n p:=mem_pc.mpr ⟨hp,Xz T n p,Xz T n p⟩
theorem SS {q:Nat}(hp:p<n)(h:q∈pcS T n p):pcS T n q=pcS T n p:=by
 obtain⟨hq,h1,h2⟩:=mem_pc.mp h;refine(kl q).ext (kl p) λj=> ?_
 rw [mem_pc,mem_pc];exact⟨λ⟨a,b,c⟩=>⟨a,yq hq h1 b,yq hq c h2⟩,λ⟨a,b,c⟩=>⟨a,yq hp h2 b,yq hp c h1⟩⟩
theorem CH (hp:p<n): ∃r,pcS T n p=(pcS T n p).headD 0::r:=by
 cases h:pcS T n p with
 |nil=>have:=CG (T:=T) hp;rw [h] at this;cases this
 |cons x r=>exact⟨r,rfl⟩
theorem ST (hp:p<n):(pcS T n p).headD 0<n/\pcS T n ((pcS T n p).headD 0)=pcS T n p:=by
 obtain⟨r,h⟩:=CH (T:=T) hp;have m:(pcS T n p).headD 0∈pcS T n p:=by
  generalize (pcS T n p).headD 0=x at h;rw [h];exact D9
 exact⟨(mem_pc.mp m).1,SS hp m⟩
theorem mem_pcs {S:List Nat}:S∈WT T n↔ ∃p,p<n/\S=pcS T n p:=by
 unfold WT;rw [D1];constructor
 ·rintro ⟨p,hp,rfl⟩;exact⟨p,D2.mp (M5.mp hp).1,rfl⟩
 ·rintro ⟨p,hp,rfl⟩;obtain⟨a,b⟩:=ST (T:=T) hp;exact⟨(pcS T n p).headD 0,M5.mpr ⟨D2.mpr a,G6 (by rw [b])⟩,b⟩
end
end L2
namespace L2
open PySem PySem.Spec PyProof.Rows PySem.W
structure DefIn (K:Frag)(x:Str)(st:Stmt)(f:Addr)(fd:FuncData):Prop where
 at_:nsIn K mainGlobals x=some (some (.ref f))
 fn:Fun K x x st f fd
variable {K:Frag}{h base:Heap}{mg:Str->Option Value}{x:Str}{st:Stmt}{f:Addr}{fd:FuncData}{P:Program}{w:World}{n:Nat}{ps:List Str}
theorem km {oc:Value}{od an:Option Addr}{osl:Array (Option Value)}{kV doc pm cdv ct:Value}(a:nsIn K mainGlobals x=some (some (.ref f)))(l:K.lookup f=some ⟨oc,od,.func (fnOf x x (vI st) (wX st) (jf st) .none kV doc pm an cdv ct),osl⟩)
 (c:codeIn K cdv x=true)(k:keepIn K (.ref f)=true):DefIn K x st f (fnOf x x (vI st) (wX st) (jf st) .none kV doc pm an cdv ct):=⟨a,Hw l c k⟩
abbrev xx (x:Str)(st:Stmt)(ps:List Str):Prop:= ∀ (kV doc pm:Value) (an:Option Addr) (cdv ct:Value) (us:List Value),us.length=ps.length->bindArgs (fnOf x x (vI st) (wX st) (jf st) .none kV doc pm an cdv ct) ⟨us,[]⟩=pure (ps.zip us)
theorem DefIn.nm (d:DefIn K x st f fd)(X:K.In h)(G:h.Ns mainGlobals mg):mg x=some (.ref f):=mg_of X G d.at_
theorem DefIn.cal {sp:RDn}(d:DefIn K x st f fd)(l:OpenLaw)(w:World)(base:Heap)(X:K.In h)(G:h.Ns mainGlobals mg)(ok:FnOk l.prog w K mg base CX0 n f fd ps (LSp K sp))(b:xx x st ps:=by first|(exact λ_ _ _ _ _ _ us hl=>match us,hl with| [_],_=>rfl)|(exact λ_ _ _ _ _ _ us hl=>match us,hl with| [_,_],_=>rfl)|(exact λ_ _ _ _ _ _ us hl=>match us,hl with| [_,_,_],_=>rfl)|(exact λ_ _ _ _ _ _ us hl=>match us,hl with| [_,_,_,_],_=>rfl)|(exact λ_ _ _ _ _ _ us hl=>match us,hl with| [_,_,_,_,_],_=>rfl)):ji l.prog w K mg base n x ps sp:=⟨_,_,ok,d.fn.binds b,d.fn.kp,d.nm X G⟩
def zsB (K:Frag):Bool:= ["len","max","min","divmod","all","any","repr","sum","sorted","int","tuple","list","set","bool","isinstance","range","zip","enumerate","reversed"].all λx=>nsIn K mainGlobals (Str.ofString x)==some none
theorem xA (X:K.In h)(G:h.Ns mainGlobals mg)(e:zsB K=true):Zs mg:=by
 unfold zsB at e;rw [R7] at e;have m:=λ(x:String) hx=>mg_none_of X G (G1g.mp (e x hx))
 exact⟨m "len" (by decide),m "max" (by decide),m "min" (by decide),m "divmod" (by decide),m "all" (by decide),m "any" (by decide),m "repr" (by decide),m "sum" (by decide),m "sorted" (by decide),m "int" (by decide),m "tuple" (by decide),m "list" (by decide),m "set" (by decide),m "bool" (by decide),m "isinstance" (by decide),m "range" (by decide),m "zip" (by decide),m "enumerate" (by decide),m "reversed" (by decide)⟩
end L2
namespace L2
open PySem PySem.Spec PyProof.Rows
def kvV (kvs:List (Int×V)):List (Key×V):=kvs.map λp=>((Sum.inl p.1:Key),p.2)
def Jz {α:Type}(kv:List (Int×α))(k:Int):Option α:=(kv.find? λp=>decide (p.1=k)).map (·.2)
def Nq {α:Type}(kv:List (Int×α))(k:Int)(d:α):List (Int×α):=if (Jz kv k).isSome then kv.map (λp=>if p.1=k then (p.1,d) else p) else kv++ [(k,d)]
section
variable {α:Type}{kv r:List (Int×α)}{p:Int×α}{k:Int}
theorem Os (e:p.1=k):Jz (p::r) k=some p.2:=by simp [Jz,E8,e]
theorem Ot (e: ¬p.1=k):Jz (p::r) k=Jz r k:=by simp [Jz,E8,e]
end
section
variable {K:PySem.W.Frag}{H:Hp}{k:Int}
theorem Jj: ∀ {kv:List (Int×D)} {kvs:List (Int×V)},kv.map (·.1)=kvs.map (·.1)->RelDs K H (kv.map (·.2)) (kvs.map (·.2))->(∀d,Jz kv k=some d-> ∃v,Ue (kvV kvs) (Sum.inl k)=some v/\RelD K H d v)/\(Jz kv k=none->Ue (kvV kvs) (Sum.inl k)=none)
 | [],[],_,_=>⟨λ_ z=>(nomatch z),λ_=>rfl⟩
 |p::r,[],e,_=>by cases e
 | [],q::s,e,_=>by cases e
 |p::r,q::s,e,h=>by
  rw [T3,T3] at e;injection e with e1 e2
  obtain⟨v,t,z,h1,h2⟩:=(show ∃v t,q.2::s.map (·.2)=v::t/\RelD K H p.2 v/\RelDs K H (r.map (·.2)) t from h);injection z with z1 z2
  subst z1;subst z2
  by_cases c:p.1=k
  ·rw [Os c];refine⟨λd z=> ?_,λz=>by cases z⟩;injection z with z
   subst z;exact⟨q.2,Yt (by show (Sum.inl q.1:Key)=_;rw [<-e1,c]),h1⟩
  ·rw [Ot c];have n: ¬ (Sum.inl q.1:Key)=Sum.inl k:=λz=>by injection z with z;exact c (e1.trans z)
   show (∀d,_-> ∃v,Ue ((Sum.inl q.1,q.2)::kvV s) _=_/\_)/\(_->Ue ((Sum.inl q.1,q.2)::kvV s) _=_);rw [Yu n];exact Jj e2 h2
theorem Ou {kv:List (Int×D)}{kvs:List (Int×V)}{d:D}{v:V}(e:kv.map (·.1)=kvs.map (·.1))(r:RelDs K H (kv.map (·.2)) (kvs.map (·.2)))(rd:RelD K H d v): ∃kvs',Ra (kvV kvs) (Sum.inl k) v=kvV kvs'/\(Nq kv k d).map (·.1)=kvs'.map (·.1)/\RelDs K H ((Nq kv k d).map (·.2)) (kvs'.map (·.2)):=by
 have g:=Jj (k:=k) e r
 by_cases c:(Jz kv k).isSome
 ·obtain⟨d0,hd0⟩:=K4.mp c;obtain⟨v0,hv0,_⟩:=g.1 d0 hd0;refine⟨kvs.map λp=>if p.1=k then (p.1,v) else p,?_,?_,?_⟩
  ·unfold Ra;rw [UW,hv0];show List.map _ (kvV kvs)=_;unfold kvV;rw [T5,T5];refine S9 λp _=> ?_
   show (if (Sum.inl p.1:Key)=Sum.inl k then _ else _)=_
   by_cases z:p.1=k
   ·rw [if_pos (by rw [z])];show _=((Sum.inl (if p.1=k then (p.1,v) else p).1:Key),(if p.1=k then (p.1,v) else p).2);rw [if_pos z]
   ·rw [if_neg (λw=>z (by injection w))];show _=((Sum.inl (if p.1=k then (p.1,v) else p).1:Key),(if p.1=k then (p.1,v) else p).2);rw [if_neg z]
  ·unfold Nq;rw [if_pos c,T5,T5];have a1:kv.map ((·.1)∘λp=>if p.1=k then (p.1,d) else p)=kv.map (·.1):=S9 λp _=>by show (if p.1=k then (p.1,d) else p).1=p.1;split<;>rfl
   have a2:kvs.map ((·.1)∘λp=>if p.1=k then (p.1,v) else p)=kvs.map (·.1):=S9 λp _=>by show (if p.1=k then (p.1,v) else p).1=p.1;split<;>rfl
   rw [a1,a2,e]
  ·unfold Nq;rw [if_pos c];clear g c hd0 hv0
   induction kv generalizing kvs with
   |nil=>cases kvs with
    |nil=>exact .nil
    |cons q s=>cases e
   |cons p t ih=>cases kvs with
    |nil=>cases e
    |cons q s=>
     rw [T3,T3] at e;injection e with e1 e2
     obtain⟨u,w,z,h1,h2⟩:=(show ∃v t',q.2::s.map (·.2)=v::t'/\RelD K H p.2 v/\RelDs K H (t.map (·.2)) t' from r);injection z with z1 z2
     subst z1;subst z2;refine⟨(if q.1=k then (q.1,v) else q).2,_,rfl,?_,ih e2 h2⟩;show RelD K H (if p.1=k then (p.1,d) else p).2 _
     by_cases z:p.1=k
     ·rw [if_pos z,if_pos (e1 ▸ z)];exact rd
     ·rw [if_neg z,if_neg (e1 ▸ z)];exact h1
 ·have hn:Jz kv k=none:=by simpa using c
  refine⟨kvs++ [(k,v)],?_,?_,?_⟩
  ·rw [Lb v (g.2 hn)];unfold kvV;rw [List.map_append];rfl
  ·unfold Nq;rw [if_neg c,List.map_append,List.map_append,e];rfl
  ·unfold Nq;rw [if_neg c,List.map_append,List.map_append];exact r.append (.cons rd .nil)
end
def ko (x i:Int):TED:=λ_ h Q=> ∀p,h.dc p=none->Q (.dct p) (Aq h p (.ik [(x,.int i)]))
section
variable {X:Cx}
theorem kq {x i:Int}{j k:Nat}{pos p1 p2:Pos}:JE X (.Dict [some (.Constant (.int x) j p1)] [.Constant (.int i) k p2] pos) (ko x i):=⟨by
 have h0:PPs X pos [some (.Constant (.int x) j p1)] [.Constant (.int i) k p2] [(tC (.int x),tC (.int i))]:=Le pe_int pe_int Ep;refine PE.imp (Er h0 rfl rfl (by simp) (by simp)) ?_;rintro σ H Q ⟨σd,h,Qd,rs,rh,t,p⟩ q hq;show upd H q (.dK []) q=some (.dK [])/\_;refine⟨jz,[((Sum.inl x:Key),V.int i)],rfl,by simp,?_⟩;rw [Ln];exact p (.dct q) (.ref q) _ _ (.new hq) (rh.newC (c:= .ik [(x,.int i)]) hq ⟨[(x,.int i)],jz,rfl,.cons rfl .nil⟩) rfl (t q (rh.freeC hq))⟩
end
def ixC:RD2:=λx y h Q=> ∃a k kv d,x= .dct a/\y= .int k/\h.dc a=some (.ik kv)/\Jz kv k=some d/\Q d h
def jas:RDn:=λds h Q=> ∃a kv,ds= [.dct a]/\h.dc a=some (.ik kv)/\Q (.int ((kv.length:Nat):Int)) h
section
variable {X:Cx}
theorem jat {k : Nat} {a b : Expr} {ta tb : TED} {pos : Pos} (hr : Room k X.A) (ha : JE X a ta) (hb : JE X b tb) (hs : uu b := by intro _ _; rfl) : JE X (.Subscript a b pos) (dOp ixC ta tb) :=
  ⟨(Eo (by have := hr.un; omega) ha.to hb.to hs).imp fun σ H Q ⟨σd, h, Qd, rs, rh, t, post⟩ => LE.bind rs rh t fun d v h1 H1 k1 rs1 rh1 r1 t1 => LE.bind rs1 rh1 t1 fun d2 v2 h2 H2 k2 rs2 rh2 r2 ⟨a, x, kv, d3, e1, e2, e, g, q⟩ => by
    subst e1 e2
    cases (show v = .ref a from r1)
    cases (show v2 = .int x from r2)
    obtain ⟨kvs, hH, ek, rv⟩ := (show ∃ kvs : List (Int × V), _ from rh2.dc a _ e)
    obtain ⟨u, hu, ru⟩ := (Jj ek rv).1 d3 g
    refine ⟨a, u, rfl, ?_, post d3 u _ _ (k1.trans k2) rh2 ru q⟩
    rw [← hu]
    exact .k (k := Sum.inl x) hH⟩
theorem SU:vJ X (.builtin "len") jas:=(show CallR X (.builtin "len") (λxs H Q=> ∃ (a:Addr) (kv:List (Key×V)),xs= [.ref a]/\H a=some (.dK kv)/\Q (.int ((kv.length:Nat):Int)) H) from by
 intro pins s σ H xs us Q I r h;obtain⟨a,kv,rfl,e,q⟩:=h;obtain⟨u,rfl,ru⟩:=Jm r;cases ru;exact ut I (.inl e) λt s' I'=>⟨.int _,H,I',⟨_,rfl⟩,q⟩).imp λxs H Q ⟨ds,h,Qd,r,rh,⟨a,kv,e,z,q⟩,p⟩=>by
 subst e;obtain⟨v,e,r1⟩:=jF r;cases (show v= .ref a from r1);subst e;obtain⟨kvs,hH,ek,rv⟩:=(show ∃kvs:List (Int×V),_ from rh.dc a _ z);refine⟨a,_,rfl,hH,?_⟩;rw [show (kvs.map λp=>((Sum.inl p.1:Key),p.2)).length=kv.length by rw [G0];have:=congrArg List.length ek;simpa using this.symm];exact p (.int _) _ _ _ (.refl H) rh rfl q
end
theorem Sub.overC {h h':HD}{a:Addr}{c:DC}(sb:Sub h h')(e:h.dc a=none):Sub h (Aq h' a c):=⟨sb.ls,λb xs z=>by
 rw [Xb (λw=>by subst w;rw [e] at z;cases z)];exact sb.dc b xs z⟩
end L2
namespace L2
variable {g:Nat->Nat->Bool}{n:Nat}
theorem CI: ∀ {t:Nat} {w:List Nat},w∈lev g n t-> ∀i x y,w[i]? =some x->w[i+1]? =some y->g x y=true
 |0,w,h=>λi x y e1 e2=>by
  obtain⟨z,_,rfl⟩:=D1.mp h;rw [N8 (by simp)] at e2;cases e2
 |t+1,w,h=>λi x y e1 e2=>by
  obtain⟨v,hv,hw⟩:=G00.mp h;obtain⟨j,hj,rfl⟩:=D1.mp hw;have fj:=(M5.mp hj).2;unfold SM at fj;rw [S5] at fj;rcases H0 (i+1) v.length with z|z
  ·rw [D8 (by omega)] at e1;rw [D8 z] at e2;exact CI hv i x y e1 e2
  ·have hi:i+1=v.length:=by
    have:=(G7.mp e2).1;rw [G9,B2] at this;omega
   rw [D8 (by omega)] at e1;rw [P5 (by omega),hi,G1C] at e2;injection e2 with e2
   subst e2;have lx:v.getLastD 0=x:=by
    rw [B7,B8,show v.length-1=i by omega,e1];rfl
   rw [<-lx];exact fj.1
theorem XA {w:List Nat}: ∀ {t:Nat},w∈Vy g n t-> ∃s,s<t/\w∈lev g n s/\g (w.getLastD 0) (w.headD 0)=true
 |t+1,h=>by
  rcases P6.mp h with z|z
  ·obtain⟨s,a,b⟩:=XA z;exact⟨s,by omega,b⟩
  ·obtain⟨a,b⟩:=M5.mp z;exact⟨t,by omega,a,b⟩
section
variable {n e:Nat}{T:List (List Int)}
theorem Jk (h:Sq n e T)(hn:n<=8){w:List Nat}(hw:w∈jD T n):1<=w.length/\w.length<=n/\(∀t,w.getD (t%w.length) 0<n)/\ ∀t,RP n T 1 (w.getD (t%w.length) 0) (w.getD ((t+1)%w.length) 0):=by
 obtain⟨s,hs,lv,back⟩:=XA ((wV _).mem_iff.mp hw);have o:=ZT lv;have l1:1<=w.length:=by rw [o.len];omega
 refine⟨l1,by rw [o.len];omega,λt=> ?_,λt=> ?_⟩
 ·have:=A3 t l1;rw [G3,G1 this];exact o.lt _ (R8 this)
 ·have m1:=A3 t l1;have e1:w.getD (t%w.length) 0=w[t%w.length]:=by rw [G3,G1 m1];rfl
  rw [vM h hn];rcases H0 (t%w.length+1) w.length with z|z
  ·have e2:(t+1)%w.length=t%w.length+1:=by rw [Nat.add_mod,N9 (show 1<w.length by omega),N9 z]
   have e3:w.getD ((t+1)%w.length) 0=w[t%w.length+1]:=by rw [e2,G3,G1 z];rfl
   rw [e1,e3];have:=M0 (CI lv (t%w.length) _ _ (G1 m1) (G1 z));omega
  ·have e2:(t+1)%w.length=0:=by
    rw [<-W9 t w.length,show w.length*(t / w.length)+t%w.length+1=w.length*(t / w.length+1) by rw [G1t];omega];exact Nat.mul_mod_right _ _
   have la:w.getLastD 0=w[t%w.length]:=by
    rw [B7,B8,show w.length-1=t%w.length by omega,G1 m1];rfl
   have he:w.headD 0=w.getD 0 0:=by cases w<;>rfl
   rw [e1,e2,<-he,<-la];have:=M0 back;omega
theorem XB (h:Sq n e T)(hn:n<=8){w:List Nat}(hw:w∈jD T n){p:Nat}(hp:p∈w):RP n T w.length p p:=by
 obtain⟨l1,_,cl,st⟩:=Jk h hn hw;obtain⟨i,hi,e⟩:=C6 hp;have:=PF h hn (c:=λt=>w.getD (t%w.length) 0) cl st i w.length;have e1:w.getD (i%w.length) 0=p:=by rw [N9 hi,G3,G1 hi,e];rfl
 have e2:w.getD ((i+w.length)%w.length) 0=p:=by rw [G0O,e1]
 rw [e1,e2] at this;exact this
end
theorem CJ {g:Nat->Nat->Bool}{n:Nat}: ∀ {t:Nat} {w:List Nat},w.length=t+1->(∀i∈w,i<n)->w.Nodup->(∀i∈w,w.headD 0<=i)->(∀i x y,w[i]? =some x->w[i+1]? =some y->g x y=true)->w∈lev g n t
 |0,w,hl,lt,_,_,_=>by
  obtain⟨a,rfl⟩:=G04.mp hl;exact D1.mpr ⟨a,D2.mpr (lt a (by simp)),rfl⟩
 |t+1,w,hl,lt,nd,low,go=>by
  obtain⟨v,j,rfl⟩: ∃v j,w=v++ [j]:=⟨w.dropLast,w.getLast (by intro z;rw [z] at hl;cases hl),(List.dropLast_concat_getLast _).symm⟩;have lv:v.length=t+1:=by rw [G9,B2] at hl;omega
  have hd:(v++ [j]).headD 0=v.headD 0:=by cases v with|nil=>cases lv|cons a r=>rfl
  have nv:=A0.mp nd;have jn:j ∉ v:=λz=>nv.2.2 j z j (by simp) rfl
  have hh:v.headD 0∈v:=by cases v with|nil=>cases lv|cons a r=>exact D9 ..
  rw [hd] at low;have mv:=CJ (g:=g) (n:=n) lv (λi hi=>lt i (T8 _ hi)) nv.1 (λi hi=>low i (T8 _ hi)) λi x y e1 e2=>go i x y (by rw [D8 (G7.mp e1).1];exact e1) (by rw [D8 (G7.mp e2).1];exact e2)
  refine G00.mpr ⟨v,mv,D1.mpr ⟨j,M5.mpr ⟨D2.mpr (lt j (by simp)),?_⟩,rfl⟩⟩;have la:v[t]? =some (v.getLastD 0):=by rw [B7,B8,lv,Nat.add_sub_cancel,G1 (by omega)];rfl
  have g1:=go t _ j (by rw [D8 (by omega)];exact la) (by rw [P5 (by omega),lv,G1C];rfl);have lj:=low j (by simp);have ne:v.headD 0≠j:=λz=>jn (z ▸ hh)
  unfold SM;rw [g1,G6 (show v.headD 0<j by omega),D7 jn];rfl
theorem CK {s:Nat}{w:List Nat}(h:w∈lev g n s)(b:g (w.getLastD 0) (w.headD 0)=true): ∀t,s<t->w∈Vy g n t
 |t+1,ht=>by
  rcases H0 s t with z|z
  ·exact T8 _ (CK h b t z)
  ·have:t=s:=by omega
   subst this;exact P8 _ (M5.mpr ⟨h,b⟩)
theorem PP {w:List Nat}(nd:w.Nodup)(lt: ∀i∈w,i<n):w.length<=n:=by
 have:=ye (ys:=List.range n) nd λx hx=>D2.mpr (lt x hx)
 rwa [P4] at this
section
variable {n e:Nat}{T:List (List Int)}
theorem MB {w:List Nat}(ne:w≠ [])(lt: ∀i∈w,i<n)(nd:w.Nodup)(low: ∀i∈w,w.headD 0<=i)(go: ∀i x y,w[i]? =some x->w[i+1]? =some y->ent T x y>0)(back:ent T (w.getLastD 0) (w.headD 0)>0):w∈jD T n:=by
 obtain⟨t,ht⟩: ∃t,w.length=t+1:=⟨w.length-1,by have:=V1.mpr ne;omega⟩;have:=PP nd lt;exact(wV _).mem_iff.mpr (CK (CJ (g:=vH T) ht lt nd low λi x y e1 e2=>G6 (go i x y e1 e2)) (G6 back) n (by omega))
theorem CL (h:Sq n e T){i j:Nat}(hi:i<n)(hj:j<n)(z:ent T i j≠0):ent T i j>0:=by have:=(h.ent_nn hi hj).1;omega
theorem UK (h:Sq n e T)(hn:n<=8){m:Nat}(m1:1<=m){v:Nat->Nat}(vl: ∀t,v t<n)(per: ∀t,v (t+m)=v t)(inj: ∀a b,a<m->b<m->v a=v b->a=b)(st: ∀t,RP n T 1 (v t) (v (t+1))): ∃s,(List.range m).map (λt=>v (s+t))∈jD T n:=by
 obtain⟨s,hs⟩: ∃s,∀t,v s<=v t:=by
  have key: ∀k,∃s,∀t,t<k+1->v s<=v t:=λk=>by
   induction k with
   |zero=>exact⟨0,λt ht=>by rw [show t=0 by omega];exact P1 _⟩
   |succ k ih=>
    obtain⟨s,hs⟩:=ih;rcases H0 (v (k+1)) (v s) with z|z
    ·exact⟨k+1,λt ht=>by
      rcases H0 t (k+1) with y|y
      ·have:=hs t y;omega
      ·rw [show t=k+1 by omega];exact P1 _⟩
    ·exact⟨s,λt ht=>by
      rcases H0 t (k+1) with y|y
      ·exact hs t y
      ·rw [show t=k+1 by omega];exact z⟩
  obtain⟨s,hs⟩:=key m;have red: ∀t,v t=v (t%m):=λt=>by
   have: ∀q r,v (r+q*m)=v r:=λq r=>by
    induction q with
    |zero=>rw [G1D,V7]
    |succ q ih=>rw [G0w,<-E1,per,ih]
   have e:=this (t / m) (t%m);rw [G06,G1c] at e;exact e
  exact⟨s,λt=>by rw [red t];exact hs _ (by have:=A3 t m1;omega)⟩
 have red: ∀t,v t=v (t%m):=λt=>by
  have: ∀q r,v (r+q*m)=v r:=λq r=>by
   induction q with
   |zero=>rw [G1D,V7]
   |succ q ih=>rw [G0w,<-E1,per,ih]
  have e:=this (t / m) (t%m);rw [G06,G1c] at e;exact e
 have hd:((List.range m).map λt=>v (s+t)).headD 0=v s:=by
  obtain⟨k,rfl⟩: ∃k,m=k+1:=⟨m-1,by omega⟩;rw [I0];rfl
 refine⟨s,MB ?_ (λi hi=>by obtain⟨t,_,rfl⟩:=D1.mp hi;exact vl _) ?_ (λi hi=>by obtain⟨t,_,rfl⟩:=D1.mp hi;rw [hd];exact hs _) (λi x y e1 e2=> ?_) ?_⟩
 ·intro z;have:=congrArg List.length z;rw [G0,P4] at this;simp at this;omega
 ·refine B1.mpr ((Q5 (n:=m)).imp_of_mem λ{a b} ha hb ne z=> ?_);have ha:=D2.mp ha;have hb:=D2.mp hb;have z:v (s+a)=v (s+b):=z;rw [red (s+a),red (s+b)] at z;have:=inj _ _ (A3 _ m1) (A3 _ m1) z;refine ne ?_;have d1:=W9 (s+a) m;have d2:=W9 (s+b) m;rcases Nat.lt_trichotomy ((s+a) / m) ((s+b) / m) with c|c|c
  ·have:=V4 m (show (s+a) / m+1<=(s+b) / m from c);rw [G1t] at this;omega
  ·rw [c] at d1;omega
  ·have:=V4 m (show (s+b) / m+1<=(s+a) / m from c);rw [G1t] at this;omega
 ·have h1:=(G7.mp e2).1;rw [G0,P4] at h1;rw [P3,N4 (by omega)] at e1 e2;injection e1 with e1
  injection e2 with e2
  subst e1;subst e2;exact CL h (vl _) (vl _) ((vM h hn).mp (st (s+i)))
 ·have la:((List.range m).map λt=>v (s+t)).getLastD 0=v (s+(m-1)):=by
   rw [B7,B8,G0,P4,P3,N4 (by omega)];rfl
  rw [hd,la];have:=st (s+(m-1));rw [show s+(m-1)+1=s+m by omega,per] at this;exact CL h (vl _) (vl _) ((vM h hn).mp this)
def VA (T:List (List Int))(n:Nat):Nat:=((jD T n).map List.length).foldl Nat.gcd 0
theorem Gg {w:List Nat}(hw:w∈jD T n):VA T n∣w.length:=((Yx _ 0 (VA T n)).mp (G1E _)).2 _ (V0 hw)
theorem wj (h:Sq n e T)(hn:n<=8): ∀ (m:Nat) {p:Nat},p<n->RP n T m p p->VA T n∣m:=by
 intro m
 induction m using Nat.strongRecOn with
 |_ m ih=>
  intro p hp r;rcases Nat.eq_zero_or_pos m with z|m1
  ·rw [z];exact Nat.dvd_zero _
  obtain⟨v,v0,vm,vl,vr⟩:=AB h hn m hp hp r
  by_cases c: ∃a b,a<b/\b<m/\v a=v b
  ·obtain⟨a,b,ab,bm,e1⟩:=c;have r1:=Xr h hn vl vr a (b-a) (by omega);rw [show a+(b-a)=b by omega,<-e1] at r1;have r2:=Xr h hn vl vr 0 a (by omega);rw [E5,v0] at r2;have r3:=Xr h hn vl vr b (m-b) (by omega);rw [show b+(m-b)=m by omega,vm,<-e1] at r3;have d1:=ih (b-a) (by omega) (vl a (by omega)) r1;have d2:=ih (a+(m-b)) (by omega) hp (JU h hn hp (vl a (by omega)) hp r2 r3);have:=Nat.dvd_add d1 d2
   rwa [show b-a+(a+(m-b))=m by omega] at this
  ·obtain⟨s,hs⟩:=UK h hn (T:=T) (n:=n) m1 (v:=λt=>v (t%m)) (λt=>vl _ (by have:=A3 t m1;omega)) (λt=>by show v ((t+m)%m)=_;rw [G0O]) (λa b ha hb z=>by
    have z:v (a%m)=v (b%m):=z;rw [N9 ha,N9 hb] at z;rcases Nat.lt_trichotomy a b with y|y|y
    ·exact absurd ⟨a,b,y,hb,z⟩ c
    ·exact y
    ·exact absurd ⟨b,a,y,ha,z.symm⟩ c) (λt=>by
    show RP n T 1 (v (t%m)) (v ((t+1)%m));have lt:=A3 t m1;have:=vr (t%m) lt;rcases H0 (t%m+1) m with z|z
    ·rw [show (t+1)%m=t%m+1 by rw [Nat.add_mod,N9 (show 1<m by omega),N9 z]];exact this
    ·have e2:(t+1)%m=0:=by
      rw [<-W9 t m,show m*(t / m)+t%m+1=m*(t / m+1) by rw [G1t];omega];exact Nat.mul_mod_right _ _
     rw [e2,v0,<-vm,show m=t%m+1 by omega];rw [show t%(t%m+1)=t%m by rw [show t%m+1=m by omega]];exact this)
   have:=Gg hs
   rwa [G0,P4] at this
theorem YC (h:Sq n e T)(hn:n<=8)(d:Nat):d∣VA T n↔ ∀m p,p<n->RP n T m p p->d∣m:=by
 constructor
 ·exact λz m p hp r=>G1x z (wj h hn m hp r)
 ·intro z;refine(Yx _ 0 d).mpr ⟨Nat.dvd_zero _,λl hl=> ?_⟩;obtain⟨w,hw,rfl⟩:=D1.mp hl;obtain⟨l1,_,cl,_⟩:=Jk h hn hw;have hp:w.getD (0%w.length) 0∈w:=by
   rw [Y9,G3,G1 (by omega)];exact R8 _
  exact z _ _ (cl 0) (XB h hn hw hp)
theorem xB (h:Sq n e T)(hn:n<=8){i j:Nat}(hi:i<n)(w:wk T n i j=true):j<n/\ ∃k,RP n T k i j:=
 Yz (P:=λi j=>i<n->j<n/\ ∃k,RP n T k i j) (λi hi=>⟨hi,0,(yA hi hi).mpr rfl⟩) (λi j z hi=>⟨SI h i j z,1,(vM h hn).mpr z⟩) (λi k j a b hi=>by
  obtain⟨hk,k1,r1⟩:=a hi;obtain⟨hj,k2,r2⟩:=b hk;exact⟨hj,k1+k2,JU h hn hi hk hj r1 r2⟩) w hi
theorem SV (h:Sq n e T)(hn:n<=8): ∀ (k:Nat) {i j:Nat},i<n->j<n->RP n T k i j->wk T n i j=true
 |0,i,j,hi,hj,r=>by rw [(yA hi hj).mp r];exact Xz T n j
 |k+1,i,j,hi,hj,r=>by
  obtain⟨x,hx,a,b⟩:=(WR h hn k 1 hi hj).mp r;exact yq hx (SV h hn k hi hx a) (Rz ((vM h hn).mp b) n)
theorem VB (h:Sq n e T)(hn:n<=8)(one:(WT T n).length=1){i j:Nat}(hi:i<n)(hj:j<n): ∃k,RP n T k i j:=by
 obtain⟨S,e1⟩:=G04.mp one;have a:pcS T n i∈WT T n:=mem_pcs.mpr ⟨i,hi,rfl⟩;have b:pcS T n j∈WT T n:=mem_pcs.mpr ⟨j,hj,rfl⟩;rw [e1] at a b;have:j∈pcS T n i:=by rw [G5.mp a,<-G5.mp b];exact CG hj
 exact(xB h hn hi (mem_pc.mp this).2.1).2
theorem PQ (h:Sq n e T)(hn:n<=8)(n1:1<=n)(all: ∀i j,i<n->j<n-> ∃k,RP n T k i j):(WT T n).length=1:=by
 have same: ∀p,p<n->pcS T n p=List.range n:=λp hp=>G1u.mpr λj hj=>by
  have hj:=D2.mp hj;obtain⟨k,r⟩:=all p j hp hj;obtain⟨k',r'⟩:=all j p hj hp;rw [SV h hn k hp hj r,SV h hn k' hj hp r'];rfl
 have hd:(List.range n).headD 0=0:=by
  obtain⟨k,rfl⟩: ∃k,n=k+1:=⟨n-1,by omega⟩;rw [I0];rfl
 unfold WT;rw [G0];have e1:((List.range n).filter λp=>decide ((pcS T n p).headD 0=p))= [0]:=by
  have:((List.range n).filter λp=>decide ((pcS T n p).headD 0=p))=(List.range n).filter λp=>decide (p=0):=List.filter_congr λp hp=>by
   rw [same p (D2.mp hp),hd];exact decide_eq_decide.mpr ⟨Eq.symm,Eq.symm⟩
  rw [this];obtain⟨k,rfl⟩: ∃k,n=k+1:=⟨n-1,by omega⟩;rw [I0,L8 (by decide),List.filter_map,G05.mpr (by intro a _;simp),E3]
 rw [e1];rfl
theorem Ov (h:Sq n e T)(hn:n<=8)(one:(WT T n).length=1){a b i j:Nat}(hi:i<n)(hj:j<n)(n1:1<=n)(ra:RP n T a 0 i)(rb:RP n T b 0 j)(ar:ent T i j≠0){d:Nat}(hd:d∣VA T n):b%d=(a+1)%d:=by
 obtain⟨k,rk⟩:=VB h hn one hj (show 0<n by omega);have z:0<n:=by omega
 have c1:=G1x hd (wj h hn _ z (JU h hn z hj z (JU h hn z hi hj ra ((vM h hn).mpr ar)) rk));have c2:=G1x hd (wj h hn _ z (JU h hn z hj z rb rk));obtain⟨x,hx⟩:=c1;obtain⟨y,hy⟩:=c2;rcases Nat.le_total x y with w|w
 ·have:b=a+1+d*(y-x):=by
   have:=V4 d w;rw [Nat.mul_sub];omega
  rw [this,G0F]
 ·have:a+1=b+d*(x-y):=by
   have:=V4 d w;rw [Nat.mul_sub];omega
  rw [this,G0F]
end
end L2
namespace L2
open PySem PySem.Spec PyProof.Rows
def jau (td ty tx:TED):TED:=λσ h Q=>td σ h λx h1=> ∃a kv0,x= .dct a/\h1.dc a=some (.ik kv0)/\ty σ h1 λy h2=>tx σ h2 λz h3=> ∃k kv,y= .int k/\h3.dc a=some (.ik kv)/\kv.length<1000/\
 (∀d,Jz kv k=some d->Q d h3)/\(Jz kv k=none->Q z (Aq h3 a (.ik (Nq kv k z))))
theorem jav {X:Cx}{n:Nat}{o e f:Expr}{td ty tx:TED}{apos cpos:Pos}(hr:Room n X.A)(ho:JE X o td)(he:JE X e ty)(hf:JE X f tx)(m:M2 X o "setdefault" apos e f cpos:=by exact⟨rfl,rfl,rfl,rfl⟩):JE X (.Call (.Attribute o "setdefault" apos) [e,f] [] cpos) (jau td ty tx):=⟨λpins s σ H Q I ⟨σd,h,Qd,rs,rh,t,post⟩=>by
 have hw:LE X.K td σ H λx H1=> ∃a,x= .ref a/\IsD H1 a/\LE X.K ty σ H1 λy H2=>LE X.K tx σ H2 λz H3=> ∃k kvs,y= .int k/\H3 a=some (.dK (kvV kvs))/\kvs.length<1000/\(∀v,Ue (kvV kvs) (Sum.inl k)=some v->Q v H3)/\(Ue (kvV kvs) (Sum.inl k)=none->Q z (upd H3 a (.dK (Ra (kvV kvs) (Sum.inl k) z)))):=
  LE.bind rs rh t λd v h1 H1 k1 rs1 rh1 r1 ⟨a,kv0,e1,z1,t1⟩=>by
   subst e1;cases (show v= .ref a from r1);obtain⟨kvs0,hH0,_⟩:=(show ∃kvs:List (Int×V),_ from rh1.dc a _ z1);refine⟨a,rfl,.inl ⟨_,.inl hH0⟩,LE.bind rs1 rh1 t1 λd2 v2 h2 H2 k2 rs2 rh2 r2 t2=>LE.bind rs2 rh2 t2 λd3 v3 h3 H3 k3 rs3 rh3 r3 ⟨x,kv,e2,e,hl,q1,q2⟩=> ?_⟩;subst e2;cases (show v2= .int x from r2);obtain⟨kvs,hH,ek,rv⟩:=(show ∃kvs:List (Int×V),_ from rh3.dc a _ e);have ll:kvs.length=kv.length:=by have:=congrArg List.length ek;simpa using this.symm
   refine⟨x,kvs,rfl,hH,by omega,λu hu=> ?_,λhn=> ?_⟩
   ·cases g:Jz kv x with
    |none=>rw [(Jj ek rv).2 g] at hu;cases hu
    |some d=>obtain⟨u',hu',ru⟩:=(Jj ek rv).1 d g;rw [hu] at hu';cases hu';exact post d u _ _ (k1.trans (k2.trans k3)) rh3 ru (q1 d g)
   ·cases g:Jz kv x with
    |some d=>obtain⟨u',hu',ru⟩:=(Jj ek rv).1 d g;rw [hn] at hu';cases hu'
    |none=>
     obtain⟨kvs',p1,p2,p3⟩:=Ou (k:=x) ek rv r3;have ob:DObj (.dK (kvV kvs)):= .inl ⟨kvs,rfl⟩;refine post d3 v3 _ _ (k1.trans (k2.trans (k3.trans (.putD hH ob)))) (rh3.putC (c:= .ik (Nq kv x d3)) hH ob ⟨kvs',?_,p2,p3.mono (.putD hH ob)⟩) (r3.mono (.putD hH ob)) (q2 g);rw [jz];exact congrArg (λz=>some (HO.dK z)) p1
 refine wpAny_Call_method m.base m.few m.line PySem.F.plainAttrs_dict G0d PySem.F.type_dict_setdefault (thn (ho.to pins s σ H _ I hw) λu s1 ⟨x,H1,I1,rx,a,ex,d,q1⟩=> ?_);subst ex;obtain rfl:u=Value.ref a:=rx;obtain⟨t1,t2,_⟩:=Hz I1 d;refine⟨t1,t2,?_⟩;rw [m.trees];refine X5 rfl (Z7 (G0u (thn (he.to pins s1 σ H1 _ I1 q1) λiv s2 ⟨y,H2,I2,ry,q2⟩=>
  G0u (thn (hf.to pins s2 σ H2 _ I2 q2) λfv s3 ⟨z,H3,I3,rz,k,kvs,ey,ea,hl,c1,c2⟩=>Calls.spliced_nil ?_))))
 subst ey;obtain⟨zl,hd,vs,rel,dd⟩:=Hy I3.hok ea;have l2:(kvV kvs).length<sizeLine:=Nat.lt_of_lt_of_le (show (kvV kvs).length<1000 by unfold kvV;rw [List.length_map];exact hl) (by decide);refine call_meetsIn G0d dd.typeIs PySem.F.entry_dict_setdefault (PySem.F.args_dict_setdefault_3 _ _ _) (kt_meets_setdefault (zS X.prog X.w) a (Lc (k:=Sum.inl k) ry) hd fv) ⟨vs,dd,by rw [<-rel.length];exact zl,λv hv=> ?_,λhn h' dd' hs=> ?_⟩
 ·have rv:=rel.val (Sum.inl k);rw [hv] at rv;cases g:Ue (kvV kvs) (Sum.inl k) with
  |none=>rw [g] at rv;exact absurd rv (by intro z;cases z)
  |some v0=>rw [g] at rv;exact⟨v0,H3,I3.tok _,rv,c1 v0 g⟩
 ·have rv:=rel.val (Sum.inl k);rw [hn] at rv;have g:Ue (kvV kvs) (Sum.inl k)=none:=by
   cases g:Ue (kvV kvs) (Sum.inl k) with
   |none=>rfl
   |some v0=>rw [g] at rv;exact absurd rv (by intro z;cases z)
  have he: ∃q,h'.get? a=some q:=let ⟨q,_,_,hq,_⟩:=dd';⟨q,hq⟩;have hl':(Ra (kvV kvs) (Sum.inl k) z).length<=sizeLine:=by have:=YK (kvV kvs) (Sum.inl k) z;omega
  exact⟨z,_,NT I3 (by rw [ea];exact True.intro) hs he (Ap hl' hd (rel.put (Sum.inl k) rz) dd'),rz,c2 g⟩⟩
variable {kv:List (Int×D)}{x:Int}
theorem RF {d:D}(h:Jz kv x=some d):(x,d)∈kv:=by
 unfold Jz at h;obtain⟨p,e,rfl⟩:=F5.mp h;have e0:=List.find?_some e;have e1:p.1=x:=M0 e0;rw [<-e1];exact List.mem_of_find?_eq_some e
theorem RG (h:x∈kv.map (·.1)):(Jz kv x).isSome=true:=by
 obtain⟨p,hp,rfl⟩:=D1.mp h;unfold Jz;rw [Option.isSome_map,List.find?_isSome];exact⟨p,hp,G6 rfl⟩
theorem Ow (h:Jz kv x=none):x ∉ kv.map (·.1):=λz=>by
 have:=RG z;rw [h] at this;cases this
theorem YD {d:D}(h:Jz kv x=none):Nq kv x d=kv++ [(x,d)]:=by unfold Nq;rw [h];rfl
theorem YE {d:D}(h:Jz kv x=none)(y:Int):y∈(Nq kv x d).map (·.1)↔y∈kv.map (·.1)\/y=x:=by
 rw [YD h,T6,P6,T3,E3,G5]
section
variable {n e:Nat}{T:List (List Int)}
theorem RH (h:Sq n e T)(hn:n<=8){p:Nat}(hp:p<n): ∀ (m j:Nat),j∈itF (zd n T) [p] m↔j<n/\RP n T m p j
 |0,j=>by
  show j∈ [p]↔_;rw [G5];exact⟨λe=>⟨e ▸ hp,(yA hp (e ▸ hp)).mpr e.symm⟩,λ⟨hj,r⟩=>((yA hp hj).mp r).symm⟩
 |m+1,j=>by
  show j∈zd n T (itF (zd n T) [p] m)↔_;unfold zd;rw [M5,D2,G0Y];constructor
  ·rintro ⟨hj,i,hi,r⟩;obtain⟨hi,ri⟩:=(RH h hn hp m i).mp hi;exact⟨hj,(WR h hn m 1 hp hj).mpr ⟨i,hi,ri,(vM h hn).mpr (M0 r)⟩⟩
  ·rintro ⟨hj,r⟩;obtain⟨i,hi,a,b⟩:=(WR h hn m 1 hp hj).mp r;exact⟨hj,i,(RH h hn hp m i).mpr ⟨hi,a⟩,G6 ((vM h hn).mp b)⟩
structure FI (n:Nat)(T:List (List Int))(s b:Nat)(kv:List (Int×D)):Prop where
 nd:(kv.map (·.1)).Nodup
 ok: ∀p∈kv,∃j v:Nat,p=((j:Int),.int (v:Int))/\j<n/\v<=b/\RP n T v 0 j
 all: ∀j v,j<n->v<=s->RP n T v 0 j->(j:Int)∈kv.map (·.1)
 zero:Jz kv 0=some (.int 0)
theorem FI.first (n1:1<=n):FI n T 0 0 [(0,.int 0)]:=⟨by simp,λp hp=>by rw [G5.mp hp];exact⟨0,0,rfl,by omega,P1 _,(yA (by omega) (by omega)).mpr rfl⟩,λj v hj hv r=>by
 rw [show v=0 by omega] at r;rw [<- (yA (by omega) hj).mp r];simp,rfl⟩
variable {s b:Nat}{kv:List (Int×D)}
theorem FI.len (g:FI n T s b kv):kv.length<=n:=by
 have:=ye (ys:=(List.range n).map λ(i:Nat)=>(i:Int)) g.nd λx hx=>by
  obtain⟨p,hp,rfl⟩:=D1.mp hx;obtain⟨j,v,rfl,hj,_⟩:=g.ok p hp;exact D1.mpr ⟨j,D2.mpr hj,rfl⟩
 rw [G0,G0,P4] at this;exact this
theorem FI.full (g:FI n T s b kv)(hl:n<=kv.length){j:Nat}(hj:j<n):(j:Int)∈kv.map (·.1):=by
 rcases G0y ((j:Int)∈kv.map (·.1)) with z|z
 ·exact z
 ·have:=ye (ys:=((List.range n).erase j).map λ(i:Nat)=>(i:Int)) g.nd λx hx=>by
   obtain⟨p,hp,rfl⟩:=D1.mp hx;obtain⟨i,v,rfl,hi,_⟩:=g.ok p hp;exact D1.mpr ⟨i,(U7 (λw=>by subst w;exact z hx)).mpr (D2.mpr hi),rfl⟩
  rw [G0,G0,K9 (D2.mpr hj),P4] at this;omega
theorem FI.get (g:FI n T s b kv){j:Nat}(h:(j:Int)∈kv.map (·.1)): ∃v:Nat,Jz kv (j:Int)=some (.int (v:Int))/\v<=b/\RP n T v 0 j:=by
 obtain⟨d,hd⟩:=K4.mp (RG h);obtain⟨i,v,e1,hi,hv,r⟩:=g.ok _ (RF hd);injection e1 with e1 e2
 have:j=i:=by omega
 subst this;subst e2;exact⟨v,hd,hv,r⟩
theorem FI.put (g:FI n T s b kv){j v:Nat}(h:Jz kv (j:Int)=none)(hj:j<n)(hv:v<=b)(r:RP n T v 0 j):FI n T s b (Nq kv (j:Int) (.int (v:Int))):=by
 refine⟨?_,λp hp=> ?_,λi w hi hw rw_=>(YE h _).mpr (.inl (g.all i w hi hw rw_)),?_⟩
 ·rw [YD h,T6,A0];refine⟨g.nd,by simp,λa ha c hc e1=> ?_⟩;have:c=(j:Int):=by simpa using hc
  subst this;subst e1;exact Ow h ha
 ·rw [YD h] at hp;rcases P6.mp hp with z|z
  ·exact g.ok p z
  ·rw [G5.mp z];exact⟨j,v,rfl,hj,hv,r⟩
 ·have:=g.zero;rw [YD h];unfold Jz at this ⊢;rw [List.find?_append];cases q:kv.find? λp=>decide (p.1=0) with
  |none=>rw [q] at this;cases this
  |some p=>rw [q] at this;exact this
theorem FI.grow (h:Sq n e T)(hn:n<=8)(n1:1<=n)(one:(WT T n).length=1){s:Nat}{kv:List (Int×D)}(g:FI n T s s kv)(hl:kv.length<n): ∃v,v<n/\RP n T (s+1) 0 v/\(v:Int) ∉ kv.map (·.1):=by
 obtain⟨j,hj,jn⟩: ∃j,j<n/\(j:Int) ∉ kv.map (·.1):=by
  rcases G0y (∃j,j<n/\(j:Int) ∉ kv.map (·.1)) with z|z
  ·exact z
  ·have:=ye (xs:=(List.range n).map λ(i:Nat)=>(i:Int)) (ys:=kv.map (·.1)) (B1.mpr ((Q5 (n:=n)).imp λ{a b} ne w=>ne (by omega))) λx hx=>by
    obtain⟨i,hi,rfl⟩:=D1.mp hx;exact Classical.byContradiction λw=>z ⟨i,D2.mp hi,w⟩
   rw [G0,P4,G0] at this;omega
 have key: ∀k j,j<n->(j:Int) ∉ kv.map (·.1)->RP n T k 0 j-> ∃v,v<n/\RP n T (s+1) 0 v/\(v:Int) ∉ kv.map (·.1):=λk=>by
  induction k with
  |zero=>exact λj hj jn r=>absurd (g.all j 0 hj (S8 _) r) jn
  |succ k ih=>
   intro j hj jn r;obtain⟨u,hu,a,b⟩:=(WR h hn k 1 (by omega) hj).mp r;rcases G0y ((u:Int)∈kv.map (·.1)) with z|z
   ·obtain⟨v,_,hv,rv⟩:=g.get z;have r2:=JU h hn (by omega) hu hj rv b;rcases H0 v s with y|y
    ·exact absurd (g.all j (v+1) hj (by omega) r2) jn
    ·exact⟨j,hj,by rw [show s+1=v+1 by omega];exact r2,jn⟩
   ·exact ih u hu z a
 obtain⟨k,r⟩:=VB h hn one (show 0<n by omega) hj;exact key k j hj jn r
end
theorem CM {n i:Nat}(hi:i<n):IsS n [i]:=by
 refine⟨λj=>decide (j=i),?_⟩
 induction n with
 |zero=>omega
 |succ n ih=>
  rw [F8,L7]
  by_cases z:i<n
  ·rw [<-ih z];have: ¬n=i:=by omega
   simp [this]
  ·have e:i=n:=by omega
   subst e;have:(List.range i).filter (λj=>decide (j=i))= []:=G05.mpr λj hj=>by have:=D2.mp hj;simp;omega
   rw [this];simp
end L2
namespace L2
def vz (w:List Nat)(z:Int):Nat:=w.getD (z%(w.length:Int)).toNat 0
theorem PR (w:List Nat)(z q:Int):vz w (z+q*(w.length:Int))=vz w z:=by unfold vz;rw [Int.add_mul_emod_self_right]
theorem Gh {g:Nat->Nat->Bool}{n:Nat}: ∀t,(lev g n t).Nodup
 |0=>B1.mpr ((Q5 (n:=n)).imp λ{a b} ne z=>ne (by injection z))
 |t+1=>by
  show ((lev g n t).flatMap (ki g n)).Pairwise (· ≠ ·);rw [List.pairwise_flatMap];refine⟨λw _=>B1.mpr (((Q5 (n:=n)).filter _).imp λ{a b} ne z=>ne (by simpa using z)),(Gh t).imp λ{a b} ne x hx y hy z=> ?_⟩;obtain⟨i,_,rfl⟩:=D1.mp hx;obtain⟨j,_,e⟩:=D1.mp hy;subst z;exact ne (List.append_inj_left' e rfl).symm
theorem UL {g:Nat->Nat->Bool}{n:Nat}: ∀t,(Vy g n t).Nodup
 |0=>G0E
 |t+1=>by
  show (Vy g n t++(lev g n t).filter λw=>g (w.getLastD 0) (w.headD 0)).Nodup;rw [A0];refine⟨UL t,(Gh t).filter _,λa ha b hb z=> ?_⟩;subst z;obtain⟨s,hs,o,_⟩:=PN ha;have:=(ZT (M5.mp hb).1).len;have:=o.len;omega
section
variable {n e:Nat}{T U:List (List Int)}
theorem Gi:(jD T n).Nodup:=(wV _).nodup_iff.mpr (UL n)
structure Rnd (n:Nat)(T:List (List Int))(w:List Nat):Prop where
 len:1<=w.length
 lt: ∀z,vz w z<n
 inj: ∀a b,vz w a=vz w b->(a-b)%(w.length:Int)=0
 low: ∀z,vz w 0<=vz w z
 go: ∀z,RP n T 1 (vz w z) (vz w (z+1))
theorem JB (h:Sq n e T)(hn:n<=8){w:List Nat}(hw:w∈jD T n):Rnd n T w:=by
 obtain⟨l1,_,cl,st⟩:=Jk h hn hw;obtain⟨s,hs,o,_⟩:=ZU hw;have m0:(0:Int)<(w.length:Int):=by omega
 have ix: ∀z:Int,(z%(w.length:Int)).toNat<w.length:=λz=>by
  have a:=E9 z (show (w.length:Int)≠0 by omega);have b:=X1 z m0;omega
 have at_: ∀z,vz w z=w[(z%(w.length:Int)).toNat]'(ix z):=λz=>by unfold vz;rw [List.getD_eq_getElem?_getD,List.getElem?_eq_getElem (ix z)];rfl
 refine⟨l1,λz=>by rw [at_];exact o.lt _ (R8 _),λa b e1=> ?_,λz=> ?_,λz=> ?_⟩
 ·rw [at_,at_] at e1;have:=(List.getElem_inj o.nd).mp e1;have a0:=E9 a (show (w.length:Int)≠0 by omega);have b0:=E9 b (show (w.length:Int)≠0 by omega);exact Int.emod_eq_emod_iff_emod_sub_eq_zero.mp (by omega)
 ·have e0:vz w 0=w.headD 0:=by unfold vz;rw [Int.zero_emod];cases w<;>rfl
  rw [e0,at_];exact o.low _ (R8 _)
 ·have e1:=st (z%(w.length:Int)).toNat;rw [N9 (ix z)] at e1;have e2:((z+1)%(w.length:Int)).toNat=((z%(w.length:Int)).toNat+1)%w.length:=by
   have a0:=E9 z (show (w.length:Int)≠0 by omega);have:(z+1)%(w.length:Int)=((((z%(w.length:Int)).toNat+1)%w.length:Nat):Int):=by
    rw [C8,W7,G0j a0,Int.natCast_one,Int.emod_add_emod]
   rw [this,K7]
  unfold vz;rw [e2];exact e1
theorem UM {w w':List Nat}(r:Rnd n T w)(r':Rnd n T w')(el:w.length=w'.length){c:Int}(h: ∀u,vz w u=vz w' (u+c)):w=w':=by
 have a:=h 0;have b:=h (-c);rw [Int.zero_add] at a;rw [show -c+c=0 by omega] at b;have l1:=r.low (-c);have l2:=r'.low c;have e0:vz w' c=vz w' 0:=by omega
 have dv:=r'.inj c 0 e0;rw [Int.sub_zero] at dv;have all: ∀u,vz w u=vz w' u:=λu=>by
  rw [h u];have:=Z0 c (w'.length:Int);rw [dv,G1F] at this;rw [<-this,G0x,PR]
 refine Q4 el λi h1 h2=> ?_
 have:=all (i:Int);unfold vz at this;rw [<-C8,<-C8,K7,K7,N9 h1,N9 h2,G3,G3,G1 h1,G1 h2] at this;exact this
theorem Gj (h:Sq n e T){e':Nat}(hU:Sq n e' U)(hn:n<=8)(f:List Nat->Nat->Nat)(fl: ∀w∈jD T n,∀t,f w t<n)(fp: ∀w∈jD T n,∀t,f w (t+w.length)=f w t)(fi: ∀w∈jD T n,∀a b,a<w.length->b<w.length->f w a=f w b->a=b)(fs: ∀w∈jD T n,∀t,RP n U 1 (f w t) (f w (t+1)))
 (sep: ∀w∈jD T n,∀w'∈jD T n,w.length=w'.length-> ∀s s':Nat,(∀t,f w (s+t)=f w' (s'+t))->w=w'):(jD T n).length<=(jD U n).length:=by
 have ex: ∀w∈jD T n,∃s,(List.range w.length).map (λt=>f w (s+t))∈jD U n:=λw hw=>UK hU hn (Jk h hn hw).1 (fl w hw) (fp w hw) (fi w hw) (fs w hw)
 have key: ∃F:List Nat->List Nat,∀w∈jD T n,F w∈jD U n/\ ∃s,F w=(List.range w.length).map (λt=>f w (s+t)):=by
  refine⟨λw=>if hw:w∈jD T n then (List.range w.length).map (λt=>f w (Classical.choose (ex w hw)+t)) else [],λw hw=> ?_⟩;simp only [dif_pos hw];exact⟨Classical.choose_spec (ex w hw),_,rfl⟩
 obtain⟨F,hF⟩:=key;have nd:((jD T n).map F).Nodup:=by
  refine B1.mpr ((Gi (T:=T) (n:=n)).imp_of_mem λ{w w'} hw hw' ne z=>ne ?_);obtain⟨_,s,e1⟩:=hF w hw;obtain⟨_,s',e2⟩:=hF w' hw';rw [e1,e2] at z;have ll:=congrArg List.length z;rw [G0,G0,P4,P4] at ll;refine sep w hw w' hw' ll s s' λt=> ?_
  have l1:=(Jk h hn hw).1;have red: ∀ (w:List Nat) (hw:w∈jD T n) (s t:Nat),f w (s+t)=f w (s+t%w.length):=λw hw s t=>by
   have: ∀q r,f w (r+q*w.length)=f w r:=λq r=>by
    induction q with
    |zero=>rw [G1D,V7]
    |succ q ih=>rw [G0w,<-E1,fp w hw,ih]
   have e3:=this (t / w.length) (s+t%w.length);rw [E1,G06,G1c] at e3;exact e3
  rw [red w hw,red w' hw',<-ll];have lt:=A3 t l1;have z1:=congrArg (λl=>l[t%w.length]?) z;simp only [P3,N4 lt,N4 (show t%w.length<w'.length by rw [<-ll];exact lt)] at z1;injection z1
 have:=ye (ys:=jD U n) nd λx hx=>by
  obtain⟨w,hw,rfl⟩:=D1.mp hx;exact(hF w hw).1
 rwa [G0] at this
theorem CN (h:Sq n e T){e':Nat}(hU:Sq n e' U)(hn:n<=8)(ar: ∀i j,i<n->j<n->RP n T 1 i j->RP n U 1 j i):(jD T n).length<=(jD U n).length:=by
 refine Gj h hU hn (λw t=>vz w (-(t:Int))) (λw hw t=>(JB h hn hw).lt _) (λw hw t=> ?_) (λw hw a b ha hb z=> ?_) (λw hw t=> ?_) λw hw w' hw' el s s' z=> ?_
 ·have:=PR w (-((t+w.length:Nat):Int)) 1;rw [<-this]
  congr 1
  omega
 ·have:=(JB h hn hw).inj _ _ z;have e1:=Z0 (-(a:Int)- -(b:Int)) (w.length:Int);rw [this,G1F] at e1;generalize (-(a:Int)- -(b:Int)) / (w.length:Int)=q at e1;rcases Int.lt_trichotomy q 0 with c|c|c
  ·have:=N7 (show q<= -1 by omega) (show (0:Int)<=(w.length:Int) by omega);omega
  ·rw [c] at e1;omega
  ·have:=N7 (show 1<=q by omega) (show (0:Int)<=(w.length:Int) by omega);omega
 ·have r:=JB h hn hw;have:=r.go (-((t+1:Nat):Int));rw [show-((t+1:Nat):Int)+1= -(t:Int) by omega] at this;exact ar _ _ (r.lt _) (r.lt _) this
 ·have r:=JB h hn hw;refine UM r (JB h hn hw') el (c:=(s:Int)-(s':Int)) λu=> ?_
  have m1:=r.len;obtain⟨t,q,et⟩: ∃ (t:Nat) (q:Int),-((s+t:Nat):Int)=u+q*(w.length:Int):=by
   refine⟨(-u-s+((u+s).natAbs:Int)*(w.length:Int)).toNat,-((u+s).natAbs:Int),?_⟩;have:=N7 (show (1:Int)<=(w.length:Int) by omega) (show (0:Int)<=((u+s).natAbs:Int) by omega);rw [Int.neg_mul];omega
  have e1:=z t;have e1:vz w (-((s+t:Nat):Int))=vz w' (-((s'+t:Nat):Int)):=e1;rw [et,PR] at e1;rw [e1,show-((s'+t:Nat):Int)=u+((s:Int)-(s':Int))+q*(w'.length:Int) by rw [<-el];omega,PR]
theorem CO (h:Sq n e T){e':Nat}(hU:Sq n e' U)(hn:n<=8)(f:Nat->Nat)(fl: ∀i,i<n->f i<n)(fi: ∀i j,i<n->j<n->f i=f j->i=j)(ar: ∀i j,i<n->j<n->RP n T 1 i j->RP n U 1 (f i) (f j)):(jD T n).length<=(jD U n).length:=by
 refine Gj h hU hn (λw t=>f (vz w (t:Int))) (λw hw t=>fl _ ((JB h hn hw).lt _)) (λw hw t=> ?_) (λw hw a b ha hb z=> ?_) (λw hw t=> ?_) λw hw w' hw' el s s' z=> ?_
 ·have:=PR w (t:Int) 1;rw [Int.one_mul] at this;show f (vz w ((t+w.length:Nat):Int))=_;rw [W7,this]
 ·have r:=JB h hn hw;have:=r.inj _ _ (fi _ _ (r.lt _) (r.lt _) z);have e1:=Z0 ((a:Int)-(b:Int)) (w.length:Int);rw [this,G1F] at e1;generalize ((a:Int)-(b:Int)) / (w.length:Int)=q at e1;rcases Int.lt_trichotomy q 0 with c|c|c
  ·have:=N7 (show q<= -1 by omega) (show (0:Int)<=(w.length:Int) by omega);omega
  ·rw [c] at e1;omega
  ·have:=N7 (show 1<=q by omega) (show (0:Int)<=(w.length:Int) by omega);omega
 ·have r:=JB h hn hw;have:=r.go (t:Int);exact ar _ _ (r.lt _) (r.lt _) this
 ·have r:=JB h hn hw;have r':=JB h hn hw';refine UM r r' el (c:=(s':Int)-(s:Int)) λu=> ?_
  have m1:=r.len;obtain⟨t,q,et⟩: ∃ (t:Nat) (q:Int),((s+t:Nat):Int)=u+q*(w.length:Int):=by
   refine⟨(u-s+((u-s).natAbs:Int)*(w.length:Int)).toNat,((u-s).natAbs:Int),?_⟩;have:=N7 (show (1:Int)<=(w.length:Int) by omega) (show (0:Int)<=((u-s).natAbs:Int) by omega);omega
  have e1:vz w ((s+t:Nat):Int)=vz w' ((s'+t:Nat):Int):=fi _ _ (r.lt _) (r'.lt _) (z t);rw [et,PR] at e1;rw [e1,show ((s'+t:Nat):Int)=u+((s':Int)-(s:Int))+q*(w'.length:Int) by rw [<-el];omega,PR]
theorem ZW (h:Sq n e T)(hn:n<=8){k i j:Nat}(hi:i<n)(hj:j<n):RP n (ZN n T) k i j↔RP n T k j i:=by
 unfold RP;rw [<-Rh h hn,ZO hi hj]
theorem VC (h:Sq n e T){o:List Nat}(ho:Ordr n o)(hn:n<=8){k i j:Nat}(hi:i<n)(hj:j<n):RP n (Ve n o T) k i j↔RP n T k (o.idxOf i) (o.idxOf j):=by
 unfold RP;rw [<-BJ h ho hn,Vg hi hj]
structure AlikeT (n:Nat)(T U:List (List Int)):Prop where
 beat:VA U n=VA T n
 many:(jD U n).length=(jD T n).length
 one:(WT T n).length=1->(WT U n).length=1
theorem MC (h:Sq n e T)(hn:n<=8)(n1:1<=n):AlikeT n T (ZN n T):=by
 have hU:=h.turn;refine⟨?_,G1b (CN hU h hn λi j hi hj r=>(ZW h hn hi hj).mp r) (CN h hU hn λi j hi hj r=>(ZW h hn hj hi).mpr r),λo=>PQ hU hn n1 λi j hi hj=> ?_⟩
 ·refine Nat.dvd_antisymm ((YC h hn _).mpr λm p hp r=>wj hU hn m hp ((ZW h hn hp hp).mpr r)) ((YC hU hn _).mpr λm p hp r=>wj h hn m hp ((ZW h hn hp hp).mp r))
 ·obtain⟨k,r⟩:=VB h hn o hj hi;exact⟨k,(ZW h hn hi hj).mpr r⟩
theorem WU {o:List Nat}(ho:Ordr n o){i:Nat}(hi:i<n):o.idxOf i<n/\o.getD (o.idxOf i) 0=i:=by
 have hm:i∈o:=ho.mem_iff.mpr (D2.mpr hi);have hl:o.length=n:=by have:=ho.length_eq;rwa [P4] at this
 have:=A7.mpr hm;refine⟨by omega,?_⟩;rw [G3,G1 this,J4 this];rfl
theorem WV {o:List Nat}(ho:Ordr n o){i:Nat}(hi:i<n):o.getD i 0<n/\o.idxOf (o.getD i 0)=i:=by
 have hl:o.length=n:=by have:=ho.length_eq;rwa [P4] at this
 have e1:o.getD i 0=o[i]'(by omega):=by rw [G3,G1 (show i<o.length by omega)];rfl
 have nd:o.Nodup:=ho.nodup_iff.mpr Q5;have lt:=D2.mp (ho.mem_iff.mp (R8 (show i<o.length by omega)));rw [e1];exact⟨lt,nd.idxOf_getElem i (by omega)⟩
theorem CP (h:Sq n e T){o:List Nat}(ho:Ordr n o)(hn:n<=8)(n1:1<=n)(hU:Sq n e (Ve n o T)):AlikeT n T (Ve n o T):=by
 refine⟨?_,G1b ?_ ?_,λone=>PQ hU hn n1 λi j hi hj=> ?_⟩
 ·refine Nat.dvd_antisymm ((YC h hn _).mpr λm p hp r=> ?_) ((YC hU hn _).mpr λm p hp r=>wj h hn m (WU ho hp).1 ((VC h ho hn hp hp).mp r));obtain⟨a,b⟩:=WV ho hp;exact wj hU hn m a ((VC h ho hn a a).mpr (by rw [b];exact r))
 ·refine CO hU h hn (λi=>o.idxOf i) (λi hi=>(WU ho hi).1) (λi j hi hj z=> ?_) λi j hi hj r=>(VC h ho hn hi hj).mp r
  have a:=(WU ho hi).2;have b:=(WU ho hj).2;have z:o.idxOf i=o.idxOf j:=z;rw [<-a,<-b,z]
 ·refine CO h hU hn (λi=>o.getD i 0) (λi hi=>(WV ho hi).1) (λi j hi hj z=> ?_) λi j hi hj r=> ?_
  ·have a:=(WV ho hi).2;have b:=(WV ho hj).2;have z:o.getD i 0=o.getD j 0:=z;rw [<-a,<-b,z]
  ·obtain⟨a1,a2⟩:=WV ho hi;obtain⟨b1,b2⟩:=WV ho hj;exact(VC h ho hn a1 b1).mpr (by rw [a2,b2];exact r)
 ·obtain⟨k,r⟩:=VB h hn one (WU ho hi).1 (WU ho hj).1;exact⟨k,(VC h ho hn hi hj).mpr r⟩
theorem RI (h:Sq n e T)(hn:n<=8)(n1:1<=n){o:List Nat}(ho:Ordr n o)(st: ∀t,t<n->ent T (o.getD t 0) (o.getD ((t+1)%n) 0)≠0):(WT T n).length=1/\VA T n≠0:=by
 have cl: ∀t,o.getD (t%n) 0<n:=λt=>(WV ho (A3 t n1)).1
 have go:=PF h hn (c:=λt=>o.getD (t%n) 0) cl λt=>by
  have:=st (t%n) (A3 t n1);rw [G1d] at this;exact(vM h hn).mpr this
 refine⟨PQ h hn n1 λi j hi hj=> ?_,λz=> ?_⟩
 ·obtain⟨a1,a2⟩:=WU ho hi;obtain⟨b1,b2⟩:=WU ho hj;refine⟨n-o.idxOf i+o.idxOf j,?_⟩;have:=go (o.idxOf i) (n-o.idxOf i+o.idxOf j);simp only [show o.idxOf i+(n-o.idxOf i+o.idxOf j)=o.idxOf j+n by omega,G0O,N9 a1,N9 b1,a2,b2] at this;exact this
 ·have r:=go 0 n;simp only [E5,Nat.mod_self,Y9] at r;have:=wj h hn n (WV ho (show 0<n by omega)).1 r;rw [z] at this;have:=Nat.eq_zero_of_zero_dvd this;omega
end
end L2
namespace My
open PySem L2
def top (i:Nat):Stmt:=PySem.Challenge.pw_firstpowers_k31_whole_rounds_and_turns.main.body.getD i (.Pass ⟨0,0,0,0⟩)
abbrev Wx:Stmt:=top 9
theorem PU:FnScope ["thing"] ["thing"] (jf Wx):=⟨rfl,rfl,rfl,by decide +kernel,rfl,by decide +kernel,by decide +kernel⟩
abbrev JV:Stmt:=top 10
theorem Gk:FnScope ["thing","least","most"] ["thing","least","most"] (jf JV):=⟨rfl,rfl,rfl,by decide +kernel,rfl,by decide +kernel,by decide +kernel⟩
abbrev Wy:Stmt:=top 11
theorem PV:FnScope ["thing","size"] ["thing","size"] (jf Wy):=⟨rfl,rfl,rfl,by decide +kernel,rfl,by decide +kernel,by decide +kernel⟩
abbrev vN:Stmt:=top 12
theorem Wj:FnScope ["thing","size","each"] ["thing","size"] (jf vN):=⟨rfl,rfl,rfl,by decide +kernel,rfl,by decide +kernel,by decide +kernel⟩
abbrev PX:Stmt:=top 13
theorem RS:FnScope ["row","one","other"] ["row"] (jf PX):=⟨rfl,rfl,rfl,by decide +kernel,rfl,by decide +kernel,by decide +kernel⟩
abbrev XC:Stmt:=top 14
theorem CQ:FnScope ["thing","size"] ["thing","size"] (jf XC):=⟨rfl,rfl,rfl,by decide +kernel,rfl,by decide +kernel,by decide +kernel⟩
abbrev Wz:Stmt:=top 15
theorem PY:FnScope ["thing","size"] ["thing","size"] (jf Wz):=⟨rfl,rfl,rfl,by decide +kernel,rfl,by decide +kernel,by decide +kernel⟩
abbrev yC:Stmt:=top 16
theorem Jf:FnScope ["thing","size","number"] ["thing","size"] (jf yC):=⟨rfl,rfl,rfl,by decide +kernel,rfl,by decide +kernel,by decide +kernel⟩
abbrev wE:Stmt:=top 17
theorem yQ:FnScope ["thing","row"] ["thing"] (jf wE):=⟨rfl,rfl,rfl,by decide +kernel,rfl,by decide +kernel,by decide +kernel⟩
abbrev vO:Stmt:=top 18
theorem XD:FnScope ["thing"] ["thing"] (jf vO):=⟨rfl,rfl,rfl,by decide +kernel,rfl,by decide +kernel,by decide +kernel⟩
abbrev WA:Stmt:=top 19
theorem PZ:FnScope ["table","thing"] ["table","thing"] (jf WA):=⟨rfl,rfl,rfl,by decide +kernel,rfl,by decide +kernel,by decide +kernel⟩
abbrev vP:Stmt:=top 20
theorem XE:FnScope ["table","thing"] ["table","thing"] (jf vP):=⟨rfl,rfl,rfl,by decide +kernel,rfl,by decide +kernel,by decide +kernel⟩
abbrev yX:Stmt:=top 21
theorem Ui:FnScope ["thing","least","most"] ["thing","least","most"] (jf yX):=⟨rfl,rfl,rfl,by decide +kernel,rfl,by decide +kernel,by decide +kernel⟩
abbrev VD:Stmt:=top 23
theorem wx:FnScope ["table","size","come","by","one","other"] ["table"] (jf VD):=⟨rfl,rfl,rfl,by decide +kernel,rfl,by decide +kernel,by decide +kernel⟩
abbrev JX:Stmt:=top 24
theorem wb:FnScope ["come","size","told","place","piece","other"] ["come"] (jf JX):=⟨rfl,rfl,rfl,by decide +kernel,rfl,by decide +kernel,by decide +kernel⟩
abbrev XF:Stmt:=top 25
theorem CS:FnScope ["table"] ["table"] (jf XF):=⟨rfl,rfl,rfl,by decide +kernel,rfl,by decide +kernel,by decide +kernel⟩
abbrev XG:Stmt:=top 26
theorem CT:FnScope ["table"] ["table"] (jf XG):=⟨rfl,rfl,rfl,by decide +kernel,rfl,by decide +kernel,by decide +kernel⟩
abbrev Da:Stmt:=top 28
theorem RR:FnScope ["table","place","head","number"] ["table","place"] (jf Da):=⟨rfl,rfl,rfl,by decide +kernel,rfl,by decide +kernel,by decide +kernel⟩
abbrev yf:Stmt:=top 29
theorem vG:FnScope ["table","thing","one","other"] ["table","thing"] (jf yf):=⟨rfl,rfl,rfl,by decide +kernel,rfl,by decide +kernel,by decide +kernel⟩
abbrev VE:Stmt:=top 30
theorem MD:FnScope ["table","thing"] ["table","thing"] (jf VE):=⟨rfl,rfl,rfl,by decide +kernel,rfl,by decide +kernel,by decide +kernel⟩
abbrev yg:Stmt:=top 32
theorem vF:FnScope ["one","other"] ["one","other"] (jf yg):=⟨rfl,rfl,rfl,by decide +kernel,rfl,by decide +kernel,by decide +kernel⟩
abbrev WB:Stmt:=top 33
theorem Db:FnScope ["table","thing"] ["table","thing"] (jf WB):=⟨rfl,rfl,rfl,by decide +kernel,rfl,by decide +kernel,by decide +kernel⟩
abbrev vQ:Stmt:=top 34
theorem zM:FnScope ["table","told","paths","place","path","head"] ["table"] (jf vQ):=⟨rfl,rfl,rfl,by decide +kernel,rfl,by decide +kernel,by decide +kernel⟩
abbrev CU:Stmt:=top 35
theorem Qg:FnScope ["table","told","each"] ["table"] (jf CU):=⟨rfl,rfl,rfl,by decide +kernel,rfl,by decide +kernel,by decide +kernel⟩
abbrev vR:Stmt:=top 38
theorem vy:FnScope ["table","some","head","place"] ["table","some"] (jf vR):=⟨rfl,rfl,rfl,by decide +kernel,rfl,by decide +kernel,by decide +kernel⟩
abbrev JY:Stmt:=top 39
theorem yw:FnScope ["table","some","k","sets","later","start"] ["table","some","k"] (jf JY):=⟨rfl,rfl,rfl,by decide +kernel,rfl,by decide +kernel,by decide +kernel⟩
abbrev XH:Stmt:=top 41
theorem Ub:FnScope ["table","place","row"] ["table"] (jf XH):=⟨rfl,rfl,rfl,by decide +kernel,rfl,by decide +kernel,by decide +kernel⟩
abbrev VF:Stmt:=top 42
theorem yR:FnScope ["table","order","olds","name","one","other"] ["table","order"] (jf VF):=⟨rfl,rfl,rfl,by decide +kernel,rfl,by decide +kernel,by decide +kernel⟩
abbrev JZ:Stmt:=top 45
theorem Ye:FnScope ["thing","size","d","rest"] ["thing","size","d"] (jf JZ):=⟨rfl,rfl,rfl,by decide +kernel,rfl,by decide +kernel,by decide +kernel⟩
abbrev Za:Stmt:=top 46
theorem Yf:FnScope ["table","d","rests","place","head"] ["table","d","rests"] (jf Za):=⟨rfl,rfl,rfl,by decide +kernel,rfl,by decide +kernel,by decide +kernel⟩
abbrev wm:Stmt:=top 47
theorem jC:FnScope ["table","fewest","some","steps","place"] ["table"] (jf wm):=⟨rfl,rfl,rfl,by decide +kernel,rfl,by decide +kernel,by decide +kernel⟩
abbrev vS:Stmt:=top 48
theorem XI:FnScope ["table","thing"] ["table","thing"] (jf vS):=⟨rfl,rfl,rfl,by decide +kernel,rfl,by decide +kernel,by decide +kernel⟩
abbrev WC:Stmt:=top 49
theorem ZD:FnScope ["table","d","steps"] ["table"] (jf WC):=⟨rfl,rfl,rfl,by decide +kernel,rfl,by decide +kernel,by decide +kernel⟩
abbrev Zb:Stmt:=top 51
theorem Gm:FnScope ["_law_script","_law_k"] ["_law_script","_law_k"] (jf Zb):=⟨rfl,rfl,rfl,by decide +kernel,rfl,by decide +kernel,by decide +kernel⟩
abbrev WD:Stmt:=top 52
theorem VZ:FnScope ["_law_cell_here","_law_left"] ["_law_cell_here"] (jf WD):=⟨rfl,rfl,rfl,by decide +kernel,rfl,by decide +kernel,by decide +kernel⟩
abbrev Zc:Stmt:=top 53
theorem yu:FnScope ["_law_pen_here","_law_many","_law_left","_law_found","_law_stir"] ["_law_pen_here","_law_many"] (jf Zc):=⟨rfl,rfl,rfl,by decide +kernel,rfl,by decide +kernel,by decide +kernel⟩
abbrev Zd:Stmt:=top 54
theorem Gn:FnScope ["_law_pen_here"] ["_law_pen_here"] (jf Zd):=⟨rfl,rfl,rfl,by decide +kernel,rfl,by decide +kernel,by decide +kernel⟩
abbrev vT:Stmt:=top 55
theorem vx:FnScope ["_law_pen_here","_law_many","_law_found","_law_what"] ["_law_pen_here","_law_many"] (jf vT):=⟨rfl,rfl,rfl,by decide +kernel,rfl,by decide +kernel,by decide +kernel⟩
abbrev zV:Stmt:=top 56
theorem jl:FnScope ["_law_pen_here","_law_size_here","_law_order_here","_law_d","_law_often","_law_most","_law_found","_law_at","_law_one","_law_to","_law_other","_law_row","_law_place"] ["_law_pen_here","_law_size_here"] (jf zV):=⟨rfl,rfl,rfl,by decide +kernel,rfl,by decide +kernel,by decide +kernel⟩
abbrev zW:Stmt:=top 57
theorem zN:FnScope ["_law_table","_law_d","_law_some"] ["_law_table"] (jf zW):=⟨rfl,rfl,rfl,by decide +kernel,rfl,by decide +kernel,by decide +kernel⟩
abbrev wn:Stmt:=top 58
theorem jK:FnScope ["_law_table","_law_d","_law_rests","_law_less","_law_fewer","_law_later","_law_rest"] ["_law_table"] (jf wn):=⟨rfl,rfl,rfl,by decide +kernel,rfl,by decide +kernel,by decide +kernel⟩
abbrev ME:Stmt:=top 59
theorem Ua:FnScope ["_law_script","_law_cell_here","_law_pen_here","_law_size_here","_law_table","_law_other","_law_some"] ["_law_script"] (jf ME):=⟨rfl,rfl,rfl,by decide +kernel,rfl,by decide +kernel,by decide +kernel⟩
section
variable {P:Program}{w:World}{K:PySem.W.Frag}{mg:Str->Option Value}{base:Heap}
/-- no def is asked of the script's list: a thing -/
def CV:D->Bool
 | .int _=>true
 |_=>false
/-- a row of so many numbers from 0 on -/
def kP:D->Bool
 | .int i=>decide (0<=i)
 |_=>false
def AH (d:D)(k:Int):Bool:=match d with
 | .tup ds=>decide ((ds.length:Int)=k)&&ds.all kP
 |_=>false
/-! every part has a kind that is told,and no tuple is long -/
mutual
def okD:D->Bool
 | .scr _=>false| .exc _=>false| .fn _=>false| .dct _=>false
 | .tup ds=>decide (ds.length<=1000)&&okDs ds
 |_=>true
def okDs:List D->Bool
 | []=>true
 |d::ds=>okD d&&okDs ds
end
theorem RJ: ∀ {ds:List D},okDs ds=true-> ∀d∈ds,okD d=true
 |d::ds,h,x,hx=>by
  have h':(okD d&&okDs ds)=true:=h;rw [S5] at h';rcases R0.mp hx with e|e
  ·subst e;exact h'.1
  ·exact RJ h'.2 x e
theorem CW: ∀ {ds:List D},(∀d∈ds,okD d=true)->okDs ds=true
 | [],_=>rfl
 |d::ds,h=>by
  show (okD d&&okDs ds)=true;rw [h d D9,CW λx hx=>h x (R4 _ hx)];rfl
theorem WE {ds:List D}(h:okD (.tup ds)=true):ds.length<=1000/\ ∀d∈ds,okD d=true:=by
 have h':(decide (ds.length<=1000)&&okDs ds)=true:=h;rw [S5] at h';exact⟨M0 h'.1,RJ h'.2⟩
theorem ZX {ds:List D}(h:ds.length<=1000)(h2: ∀d∈ds,okD d=true):okD (.tup ds)=true:=by
 show (decide (ds.length<=1000)&&okDs ds)=true;rw [G6 h,CW h2];rfl
theorem yY {d:D}(h:okD d=true): ∃n,Qw d=some n:=by
 cases d<;>first|exact⟨_,rfl⟩|cases h
/-- a table -/
def Tr:D->Bool
 | .tup rs=>decide (1<=rs.length)&&decide (rs.length<=6)&&rs.all λr=>AH r rs.length
 |_=>false
def Ze:RDn:=λds h Q=> ∃d n,ds= [d]/\Qw d=some n/\Q (.bl (CV d)) h
variable {n:Nat}{f:Addr}{fd:FuncData}
theorem Dc (Z:Zs mg)(F:Fun K "is_whole" "is_whole" Wx f fd):FnOk P w K mg base CX0 (n+1) f fd ["thing"] (LSp K Ze):=by
 refine F.okJ PU (λds h Q q=>by obtain⟨d,nm,e,hn,q⟩:=q;subst e;rfl) _ (λcdv A outer s H E hr=>(jg (wu (Tq (Px (T:= "int") (by decide) rfl Z.isinstance rfl Z.int (by decide +kernel) (jv 0)) (Ay (qi (Px (T:= "bool") (by decide) rfl Z.isinstance rfl Z.bool (by decide +kernel) (jv 0)))))))) ?_;intro ds h Q q;obtain⟨d,nm,e,hn,q⟩:=q;subst e;simp only [Bd,Lh,dIs,Lg,vB,T3,E3,P9,T4,J1,B6,L9,Q1,D.bl.injEq,Li,Ll,U3,hn];cases d<;>cases hn<;>exact⟨h,Sub.refl h,q⟩
def wA:RDn:=λds h Q=> ∃d,∃a b:Int,ds= [d,.int a,.int b]/\okD d=true/\Q (.bl (jU d a b)) h
theorem Go (Z:Zs mg)(F:Fun K "is_within" "is_within" JV f fd)(WH:ji P w K mg base n "is_whole" ["thing"] Ze):FnOk P w K mg base CX0 (n+1) f fd ["thing","least","most"] (LSp K wA):=by
 obtain⟨GR,XZ,WJ,Zo,Zw,ZA⟩:=WH;refine F.okJ Gk (λds h Q q=>by obtain⟨d,a,b,e,ok,q⟩:=q;subst e;rfl) _ (λcdv A outer s H E hr=>(jg (wu (Tq (jy WJ hr rfl ZA Zw Zo (jac (jv 0) jc)) (Ay (KF Bh Bh (jv 1) (jv 0) (jv 2))))))) ?_;intro ds h Q q;obtain⟨d,a,b,e,ok,q⟩:=q;subst e;obtain⟨nm,hn⟩:=yY ok;refine⟨_,rfl,d,nm,rfl,hn,CV d,rfl,?_⟩;cases d with
 |int x=>
  refine JJ ⟨_,rfl,_,rfl,_,rfl,?_⟩;show if decide (a<=x)=true then _ else _
  by_cases h1:a<=x
  ·rw [G6 h1];simp only [jU,G6 h1,G0T] at q;exact JJ ⟨_,rfl,h,Sub.refl h,q⟩
  ·rw [D7 h1];simp only [jU,D7 h1,G1k] at q;exact wY ⟨h,Sub.refl h,q⟩
 |_=>exact wY ⟨h,Sub.refl h,q⟩
def VG:RDn:=λds h Q=> ∃d,∃n:Int,ds= [d,.int n]/\okD d=true/\Q (.bl (jU d 0 (n-1))) h
theorem De (Z:Zs mg)(F:Fun K "is_place" "is_place" Wy f fd)(zX:ji P w K mg base n "is_within" ["thing","least","most"] wA):FnOk P w K mg base CX0 (n+1) f fd ["thing","size"] (LSp K VG):=by
 obtain⟨vg,yE,zY,zF,zG,zH⟩:=zX;refine F.okJ PV (λds h Q q=>by obtain⟨d,k,e,ok,q⟩:=q;subst e;rfl) _ (λcdv A outer s H E hr=>(jg (wu (jy zY hr rfl zH zG zF (jac (jv 0) (by exact(jac jN (by exact(jac (jop YU (jv 1) jN) jc))))))))) ?_;intro ds h Q q;obtain⟨d,k,e,ok,q⟩:=q;subst e;exact⟨_,rfl,_,rfl,d,0,k-1,rfl,ok,h,Sub.refl h,q⟩
def wo:RDn:=λds h Q=> ∃d,∃n:Int,ds= [d,.int n]/\okD d=true/\Q (.bl (wD d n)) h
theorem XJ (Z:Zs mg)(F:Fun K "are_places" "are_places" vN f fd)(MN:ji P w K mg base n "is_place" ["thing","size"] VG):FnOk P w K mg base CX0 (n+1) f fd ["thing","size"] (LSp K wo):=by
 obtain⟨AK,Ad,MS,DB,DO,DT⟩:=MN;refine F.okJ Wj (λds h Q q=>by obtain⟨d,k,e,ok,q⟩:=q;subst e;rfl) _ (λcdv A outer s H E hr=>(jg (wu (Tq (Px (T:= "tuple") (by decide) rfl Z.isinstance rfl Z.tuple (by decide +kernel) (jv 0)) (Ay (jG (YV rfl) rfl Z.all L5 (jac (jlc (i:=2) (js:= [2]) rfl (jk (by rfl)) (zZ (jv 0)) (by decide) Wj.nd rfl (by first|exact Or.inl rfl|exact Or.inr rfl) (λX' hX=>jP) (λX' hX=>by obtain⟨C,s₀,H₀,ex,rfl⟩:=hX;exact(jy MS hr rfl DT DO DB (jac (jv 2) (by exact(jac (jv 1) jc)))))) jc))))))) ?_;intro ds h Q q;obtain⟨d,k,e,ok,q⟩:=q;subst e;obtain⟨nm,hn⟩:=yY ok;refine⟨_,rfl,nm,hn,?_⟩;cases d with
 |tup es=>
  cases hn;obtain⟨hl,ht⟩:=WE ok;refine⟨_,rfl,JJ ?_⟩;exact qk es (λx=>x) (λx=>jU x 0 (k-1)) hl (by rw [List.map_id']) (λR r=>⟨_,rfl,r⟩) (λx hx Q' q'=>⟨_,rfl,_,rfl,x,k,rfl,ht x hx,q'⟩) ⟨h,Sub.refl h,q⟩
 |_=>cases hn<;>exact⟨_,rfl,wY ⟨h,Sub.refl h,q⟩⟩
def RK:RDn:=λds h Q=> ∃S:List Nat,ds= [jt S]/\S.length<=1000/\Q (.bl ((S.zip (S.drop 1)).all λp=>decide ((p.1:Int)<(p.2:Int)))) h
theorem Ox (Z:Zs mg)(F:Fun K "rises" "rises" PX f fd):FnOk P w K mg base CX0 (n+1) f fd ["row"] (LSp K RK):=by
 refine F.okJ RS (λds h Q q=>by obtain⟨S,e,hl,q⟩:=q;subst e;rfl) _ (λcdv A outer s H E hr=>(jg (wu (jG (YV rfl) rfl Z.all L5 (jac (xm (i:=1) (j:=2) (js:= [1,2]) rfl (jk (by rfl)) (AA rfl Z.zip (jac (jv 0) (by exact(jac (Vb (jv 0) (vK jN) Wo) jc)))) (by decide) (by decide) (by decide) RS.nd rfl rfl (by first|exact Or.inl rfl|exact Or.inr rfl) (by first|exact Or.inl rfl|exact Or.inr rfl) (λX' hX=>jP) (λX' hX=>by obtain⟨C,s₀,H₀,ex,rfl⟩:=hX;exact(Bx ES (jv 1) (jv 2) (jI _)))) jc))))) ?_;intro ds h Q q;obtain⟨S,e,hl,q⟩:=q;subst e;refine KM (j:=λ_=>some (LL (S.map λ(k:Nat)=>D.int (k:Int)) (Wm (S.map λ(k:Nat)=>D.int (k:Int)) (some 1) none))) (S.zip (S.drop 1)) (λp=> .int (p.1:Int)) (λp=> .int (p.2:Int)) (λp=>decide ((p.1:Int)<(p.2:Int))) (by rw [G0i];omega) (congrArg some (BW S)) (λR r=>⟨_,rfl,_,rfl,_,rfl,_,_,rfl,r⟩) (λp hp Q' q'=>⟨_,rfl,_,rfl,q'⟩) ⟨h,Sub.refl h,q⟩
theorem Oy {S:List Nat}(h:S.Pairwise (· < ·)):((S.zip (S.drop 1)).all λp=>decide ((p.1:Int)<(p.2:Int)))=true:=by
 rw [R7];intro p hp;have:=Rl h p hp;exact G6 (by omega)
def jaw (n:Nat)(d:D):Prop:=(okD d=true/\wD d (n:Int)=false)\/ ∃S:List Nat,d=jt S/\(∀i∈S,i<n)/\S.length<=1000/\((S.zip (S.drop 1)).all λp=>decide ((p.1:Int)<(p.2:Int)))=false
def Gp:RDn:=λds h Q=> ∃d,∃n:Nat,ds= [d,.int (n:Int)]/\n<=6/\((∃S,d=jt S/\IsS n S/\Q (.bl true) h)\/(jaw n d/\Q (.bl false) h))
theorem CY (Z:Zs mg)(F:Fun K "is_set" "is_set" XC f fd)(Tc:ji P w K mg base n "rises" ["row"] RK)(zC:ji P w K mg base n "are_places" ["thing","size"] wo):FnOk P w K mg base CX0 (n+1) f fd ["thing","size"] (LSp K Gp):=by
 obtain⟨kF,Tw,Td,OQ,Ag,Ah⟩:=Tc;obtain⟨yD,ym,zE,zm,zn,zr⟩:=zC;refine F.okJ CQ (λds h Q q=>by obtain⟨d,n,e,hn,q⟩:=q;subst e;rfl) _ (λcdv A outer s H E hr=>(jg (wu (Tq (jy zE hr rfl zr zn zm (jac (jv 0) (by exact(jac (jv 1) jc)))) (Ay (jy Td hr rfl Ah Ag OQ (jac (jv 0) jc))))))) ?_;intro ds h Q q;obtain⟨d,n,e,hn,q⟩:=q;subst e;have okO: ∀S:List Nat,S.length<=1000->okD (jt S)=true:=λS hS=>ZX (by rw [G0];exact hS) λd hd=>by obtain⟨x,_,rfl⟩:=D1.mp hd;rfl
 have plO: ∀S:List Nat,(∀i∈S,i<n)->wD (jt S) (n:Int)=true:=λS hS=>by
  show (S.map _).all _=true;rw [R7];intro x hx;obtain⟨i,hi,rfl⟩:=D1.mp hx;have:=hS i hi;show (decide ((0:Int)<=(i:Int))&&decide ((i:Int)<=(n:Int)-1))=true;rw [G6 (show (0:Int)<=(i:Int) by omega),G6 (show (i:Int)<=(n:Int)-1 by omega)];rfl
 rcases q with ⟨S,rfl,hS,q⟩|⟨⟨ok,bad⟩|⟨S,rfl,hS,hl,hr⟩,q⟩
 ·have hlen:=hS.len;refine⟨_,rfl,_,rfl,jt S,(n:Int),rfl,okO S (by omega),?_⟩;rw [plO S λi hi=>hS.lt hi];refine⟨_,rfl,JJ ⟨_,rfl,S,rfl,by omega,?_⟩⟩;rw [Oy hS.rise];exact⟨h,Sub.refl h,q⟩
 ·refine⟨_,rfl,_,rfl,d,(n:Int),rfl,ok,?_⟩;rw [bad];exact⟨_,rfl,wY ⟨h,Sub.refl h,q⟩⟩
 ·refine⟨_,rfl,_,rfl,jt S,(n:Int),rfl,okO S hl,?_⟩;rw [plO S hS];refine⟨_,rfl,JJ ⟨_,rfl,S,rfl,hl,?_⟩⟩;rw [hr];exact⟨h,Sub.refl h,q⟩
theorem UN: ∀ {a b:List PyData},PyData.eqvAll a b=true->a.length=b.length
 | [],[],_=>rfl
 | [],_::_,h=>by simp [PyData.eqvAll] at h
 |_::_,[],h=>by simp [PyData.eqvAll] at h
 |x::a,y::b,h=>by
  have h2:(PyData.eqv x y&&PyData.eqvAll a b)=true:=h;rw [P9,P9,UN (Bool.and_eq_true_iff.mp h2).2]
def jax (n:Nat)(d:D):Prop:=(okD d=true/\wD d (n:Int)=false)\/ ∃o:List Nat,d=jt o/\(∀x∈o,x<n)/\o.length<=60/\o.length≠n
def VH:RDn:=λds h Q=> ∃d,∃n:Nat,ds= [d,.int (n:Int)]/\n<=6/\((∃o,d=jt o/\Ordr n o/\Q (.bl true) h)\/(jax n d/\Q (.bl false) h))
theorem Df (Z:Zs mg)(F:Fun K "is_order" "is_order" Wz f fd)(zC:ji P w K mg base n "are_places" ["thing","size"] wo):FnOk P w K mg base CX0 (n+1) f fd ["thing","size"] (LSp K VH):=by
 obtain⟨yD,ym,zE,zm,zn,zr⟩:=zC;refine F.okJ PY (λds h Q q=>by obtain⟨d,k,e,hk,q⟩:=q;subst e;rfl) _ (λcdv A outer s H E hr=>(jg (wu (Tq (jy zE hr rfl zr zn zm (jac (jv 0) (by exact(jac (jv 1) jc)))) (Ay (Bx (Qz hr.units) (jG Bv rfl Z.sorted (by decide +kernel) (jac (jv 0) jc)) (xn rfl rfl Z.list rfl Z.range (jac (jv 1) jc)) (jI _))))))) ?_;intro ds h Q q;obtain⟨d,k,e,hk,q⟩:=q;subst e;rcases q with ⟨o,rfl,ho,q⟩|⟨⟨ok,bad⟩|⟨o,rfl,hlt,hle,hne⟩,q⟩
 ·have hlen:o.length=k:=ho.ord.len;have hle:o.length<=60:=by omega
  have hlt: ∀x∈o,x<k:=λx hx=>D2.mp (ho.mem_iff.mp hx)
  have okO:okD (jt o)=true:=ZX (by rw [G0];omega) λd hd=>by obtain⟨x,_,rfl⟩:=D1.mp hd;rfl
  have plO:wD (jt o) (k:Int)=true:=by
   show (o.map _).all _=true;rw [R7];intro x hx;obtain⟨i,hi,rfl⟩:=D1.mp hx;have:=hlt i hi;show (decide ((0:Int)<=(i:Int))&&decide ((i:Int)<=(k:Int)-1))=true;rw [G6 (show (0:Int)<=(i:Int) by omega),G6 (show (i:Int)<=(k:Int)-1 by omega)];rfl
  have hlc:(zT o).length<=60:=by unfold zT;rw [List.length_map];exact hle
  refine⟨_,rfl,_,rfl,jt o,(k:Int),rfl,okO,?_⟩;rw [plO];refine⟨_,rfl,JJ ⟨_,rfl,zT o,Or.inl (by rw [Xo]),by omega,λp1 ns' e1 hp hpw=>⟨_,rfl,k,rfl,by omega,λp2 e2=> ?_⟩⟩⟩;have er:((List.range k).map λ(i:Nat)=>D.int (i:Int))=(zT (List.range k)).map D.int:=by unfold zT;rw [List.map_map];rfl
  refine⟨.list (ns'.map .int),.list ((zT (List.range k)).map .int),⟨p1,_,rfl,jM jd e2,yN _ _⟩,⟨p2,_,rfl,by rw [jd,er],yN _ _⟩,yU _,yU _,h,Sub.newAt (Sub.newAt (Sub.refl h) e1) e2,?_⟩;have ee:PyData.eqv (.list (ns'.map .int)) (.list ((zT (List.range k)).map .int))=true:=by
   have es:ns'=zT (List.range k):=G0N (le:=λ(x y:Int)=>x<=y) (λ_ _ _ _ a b=>Int.le_antisymm a b) hpw (QH k) (hp.trans (ho.map _));rw [es];exact Vf _
  rw [ee];exact q
 ·refine⟨_,rfl,_,rfl,d,(k:Int),rfl,ok,?_⟩;rw [bad];exact⟨_,rfl,wY ⟨h,Sub.refl h,q⟩⟩
 ·skip
  have okO:okD (jt o)=true:=ZX (by rw [G0];omega) λd hd=>by obtain⟨x,_,rfl⟩:=D1.mp hd;rfl
  have plO:wD (jt o) (k:Int)=true:=by
   show (o.map _).all _=true;rw [R7];intro x hx;obtain⟨i,hi,rfl⟩:=D1.mp hx;have:=hlt i hi;show (decide ((0:Int)<=(i:Int))&&decide ((i:Int)<=(k:Int)-1))=true;rw [G6 (show (0:Int)<=(i:Int) by omega),G6 (show (i:Int)<=(k:Int)-1 by omega)];rfl
  have hlc:(zT o).length<=60:=by unfold zT;rw [List.length_map];exact hle
  refine⟨_,rfl,_,rfl,jt o,(k:Int),rfl,okO,?_⟩;rw [plO];refine⟨_,rfl,JJ ⟨_,rfl,zT o,Or.inl (by rw [Xo]),by omega,λp1 ns' e1 hp hpw=>⟨_,rfl,k,rfl,by omega,λp2 e2=> ?_⟩⟩⟩;have er:((List.range k).map λ(i:Nat)=>D.int (i:Int))=(zT (List.range k)).map D.int:=by unfold zT;rw [List.map_map];rfl
  refine⟨.list (ns'.map .int),.list ((zT (List.range k)).map .int),⟨p1,_,rfl,jM jd e2,yN _ _⟩,⟨p2,_,rfl,by rw [jd,er],yN _ _⟩,yU _,yU _,h,Sub.newAt (Sub.newAt (Sub.refl h) e1) e2,?_⟩;have ee:PyData.eqv (.list (ns'.map .int)) (.list ((zT (List.range k)).map .int))=false:=by
   cases hb:PyData.eqv (.list (ns'.map .int)) (.list ((zT (List.range k)).map .int)) with
   |false=>rfl
   |true=>
    have:=UN (show PyData.eqvAll (ns'.map .int) ((zT (List.range k)).map .int)=true from hb);rw [G0,G0,hp.length_eq] at this;unfold zT at this;rw [G0,G0,P4] at this;exact absurd this hne
  rw [ee];exact q
def vU:RDn:=λds h Q=> ∃d k,ds= [d,.int k]/\okD d=true/\Q (.bl (AH d k)) h
theorem VI (Z:Zs mg)(F:Fun K "is_table_row" "is_table_row" yC f fd)(WH:ji P w K mg base n "is_whole" ["thing"] Ze):FnOk P w K mg base CX0 (n+1) f fd ["thing","size"] (LSp K vU):=by
 obtain⟨GR,XZ,WJ,Zo,Zw,ZA⟩:=WH;refine F.okJ Jf (λds h Q q=>by obtain⟨d,k,e,ok,q⟩:=q;subst e;rfl) _ (λcdv A outer s H E hr=>(je (Wn (jpt (Rf (yK (wP (Px (T:= "tuple") (by decide) rfl Z.isinstance rfl Z.tuple (by decide +kernel) (jv 0)))) (Mi (wc oq_ne (jG za rfl Z.len R6 (jac (jv 0) jc)) (jv 1) (jI _))))) (jg (wu jbl)) zg) (by exact(jg (wu (jG (YV rfl) rfl Z.all L5 (jac (jlc (i:=2) (js:= [2]) rfl (jk (by rfl)) (zZ (jv 0)) (by decide) Jf.nd rfl (by first|exact Or.inl rfl|exact Or.inr rfl) (λX' hX=>jP) (λX' hX=>by obtain⟨C,s₀,H₀,ex,rfl⟩:=hX;exact(Tq (jy WJ hr rfl ZA Zw Zo (jac (jv 2) jc)) (Ay (Bx Ki (jv 2) jN (jI _)))))) jc))))))) ?_;intro ds h Q q;obtain⟨d,k,e,ok,q⟩:=q;subst e;obtain⟨nm,hn⟩:=yY ok;simp only [No,Tn,HG,Ba,YR,dIs,Lg,vB,T3,E3,P9,T4,List.replicate,J1,B6,L9,Q1,D.bl.injEq,Bd,dC,Ll,Me,dCB,yI,Xc,dOp,Kk,X2,neD,U3,hn];cases d with
 |tup es=>
  cases hn;obtain⟨hl,ht⟩:=WE ok;simp only [Kn]
  by_cases hk:(es.length:Int)=k
  ·simp only [hk];simp;refine Bn (ds:=es) (h1:=h) (j:=λ_=>some es) (λx=> .bl (kP x)) (D5 (jE hl)) rfl (λR r=>⟨.tup es,rfl,r⟩) (λd hd Q' q'=> ?_) (λp hp=> ?_)
   ·obtain⟨nn,hnn⟩:=yY (ht d hd);refine⟨d,rfl,d,nn,rfl,hnn,CV d,rfl,?_⟩;cases d with
    |int i=>exact JJ ⟨.int i,rfl,q'⟩
    |_=>exact wY q'
   ·refine⟨p,es.map kP,rfl,by rw [jd];simp,h,?_,?_⟩
    ·rw [wf hp];exact Sub.refl h
    ·simpa [AH,hk,A5,Y1] using q
  ·simp [hk];exact⟨h,Sub.refl h,by simpa [AH,hk] using q⟩
 |_=>cases hn<;>exact⟨h,Sub.refl h,q⟩
def yP:RDn:=λds h Q=> ∃d,ds= [d]/\okD d=true/\Q (.bl (Tr d)) h
theorem WF (Z:Zs mg)(F:Fun K "has_table_form" "has_table_form" wE f fd)(Uk:ji P w K mg base n "is_table_row" ["thing","size"] vU)(Zm: ∃tk,mg "MOST_ROWS" =some (.int 6 tk)):FnOk P w K mg base CX0 (n+1) f fd ["thing"] (LSp K yP):=by
 obtain⟨Nr,Ng,Ul,VR,VX,VY⟩:=Uk;obtain⟨tk_MOST_ROWS,m_MOST_ROWS⟩:=Zm;refine F.okJ yQ (λds h Q q=>by obtain⟨d,e,ok,q⟩:=q;subst e;rfl) _ (λcdv A outer s H E hr=>(je (Wn (jpt (Rf (yK (wP (Px (T:= "tuple") (by decide) rfl Z.isinstance rfl Z.tuple (by decide +kernel) (jv 0)))) (Mi (yK (Sc Bh Bh jN (jG za rfl Z.len R6 (jac (jv 0) jc)) (Sb rfl m_MOST_ROWS)))))) (jg (wu jbl)) zg) (by exact(jg (wu (jG (YV rfl) rfl Z.all L5 (jac (jlc (i:=1) (js:= [1]) rfl (jk (by rfl)) (zZ (jv 0)) (by decide) yQ.nd rfl (by first|exact Or.inl rfl|exact Or.inr rfl) (λX' hX=>jP) (λX' hX=>by obtain⟨C,s₀,H₀,ex,rfl⟩:=hX;exact(jy Ul hr rfl VY VX VR (jac (jv 1) (by exact(jac (jG za rfl Z.len R6 (jac (jv 0) jc)) jc)))))) jc))))))) ?_;intro ds h Q q;obtain⟨d,e,ok,q⟩:=q;subst e;obtain⟨nm,hn⟩:=yY ok;simp only [No,Tn,HG,Ba,YR,dIs,Lg,vB,T3,E3,P9,T4,List.replicate,J1,B6,L9,Q1,D.bl.injEq,Bd,dC,Ll,Me,dCB,yI,Xc,YS,Kk,Au,U3,hn];cases d with
 |tup es=>
  cases hn;obtain⟨hl,ht⟩:=WE ok;simp only [Kn]
  by_cases h1:1<=es.length
  ·by_cases h6:es.length<=6
   ·have h1':(1:Int)<=es.length:=by omega
    have h6':(es.length:Int)<=6:=by omega
    simp [h1',h6'];refine Bn (ds:=es) (h1:=h) (j:=λ_=>some es) (λx=> .bl (AH x es.length)) (D5 (jE hl)) rfl (λR r=>⟨.tup es,rfl,r⟩) (λd hd Q' q'=> ?_) (λp hp=> ?_)
    ·exact⟨d,rfl,.tup es,rfl,d,es.length,rfl,ht d hd,q'⟩
    ·refine⟨p,es.map λx=>AH x es.length,rfl,by rw [jd];simp,h,?_,?_⟩
     ·rw [wf hp];exact Sub.refl h
     ·simpa [Tr,h1,h6,A5,Y1] using q
   ·have h1':(1:Int)<=es.length:=by omega
    have h6': ¬ (es.length:Int)<=6:=by omega
    simp [h1',h6'];exact⟨h,Sub.refl h,by simpa [Tr,h1,h6] using q⟩
  ·have h1': ¬ (1:Int)<=es.length:=by omega
   simp [h1'];exact⟨h,Sub.refl h,by simpa [Tr,h1] using q⟩
 |_=>cases hn<;>exact⟨h,Sub.refl h,q⟩
theorem SW {x:Int}(h:0<=x):kP (.int x)=true:=G6 h
variable {e:Nat}{T:List (List Int)}
theorem SX (h:Sq n e T){r:List Int}(hr:r∈T):AH (Np r) n=true:=by
 simp only [AH,Np,G0,h.row r hr,decide_true,G0T,A5,R7,V2];intro x hx;exact SW (h.nn r hr x hx)
theorem SY (h:Sq n e T)(h1:1<=n)(h6:n<=6):Tr (jL T)=true:=by
 simp only [Tr,jL,G0,h.len,G6 h1,G6 h6,G0T,A5,R7,V2];intro r hr;exact SX h hr
theorem kr (h:Sq n e T)(h6:n<=6):okD (jL T)=true:=
 ZX (by rw [G0,h.len];omega) λd hd=>by
  obtain⟨r,hr,rfl⟩:=D1.mp hd;exact ZX (by rw [G0,h.row r hr];omega) λd hd=>by obtain⟨x,_,rfl⟩:=D1.mp hd;rfl
def jQ:RDn:=λds h Q=> ∃T,∃n e:Nat,ds= [jL T]/\Sq n e T/\1<=n/\n<=6/\Q .non h
theorem XL (Z:Zs mg)(F:Fun K "want_table" "want_table" vO f fd)(Yl:ji P w K mg base n "has_table_form" ["thing"] yP):FnOk P w K mg base CX0 (n+1) f fd ["thing"] (LSp K jQ):=by
 obtain⟨RO,DL,Ym,WL,WN,WO⟩:=Yl;refine F.okJ XD (λds h Q q=>by obtain⟨T,k,b,e,hT,h1,h6,q⟩:=q;subst e;rfl) _ (λcdv A outer s H E hr=>(jg (Wn (yK (wP (jy Ym hr rfl WO WN WL (jac (jv 0) jc)))) (jg UC) zg))) ?_;intro ds h Q q;obtain⟨T,k,b,e,hT,h1,h6,q⟩:=q;subst e;refine⟨_,rfl,jL T,rfl,kr hT h6,_,rfl,?_⟩;rw [SY hT h1 h6];exact wY ⟨h,Sub.refl h,q⟩
def VJ:RDn:=λds h Q=> ∃ (T:List (List Int)) (S:List Nat) (n:Nat),ds= [jL T,jt S]/\T.length=n/\IsS n S/\n<=6/\Q .non h
theorem Dg (Z:Zs mg)(F:Fun K "want_set" "want_set" WA f fd)(OH:ji P w K mg base n "is_set" ["thing","size"] Gp):FnOk P w K mg base CX0 (n+1) f fd ["table","thing"] (LSp K VJ):=by
 obtain⟨Ts,Ti,OM,Fl,Fx,FB⟩:=OH;refine F.okJ PZ (λds h Q q=>by obtain⟨T,S,k,e,hT,hS,h6,q⟩:=q;subst e;rfl) _ (λcdv A outer s H E hr=>(jg (Wn (yK (wP (jy OM hr rfl FB Fx Fl (jac (jv 1) (by exact(jac (jG za rfl Z.len R6 (jac (jv 0) jc)) jc)))))) (jg UC) zg))) ?_;intro ds h Q q;obtain⟨T,S,k,e,hT,hS,h6,q⟩:=q;subst e;refine⟨_,rfl,_,rfl,_,k,by rw [G0,hT],h6,.inl ⟨S,rfl,hS,_,rfl,?_⟩⟩;exact wY ⟨h,Sub.refl h,q⟩
def ZY:RDn:=λds h Q=> ∃ (T:List (List Int)) (o:List Nat) (n:Nat),ds= [jL T,jt o]/\T.length=n/\Ordr n o/\n<=6/\Q .non h
theorem XM (Z:Zs mg)(F:Fun K "want_order" "want_order" vP f fd)(MM:ji P w K mg base n "is_order" ["thing","size"] VH):FnOk P w K mg base CX0 (n+1) f fd ["table","thing"] (LSp K ZY):=by
 obtain⟨AJ,Ac,MR,DA,DN,DS⟩:=MM;refine F.okJ XE (λds h Q q=>by obtain⟨T,o,k,e,hT,ho,h6,q⟩:=q;subst e;rfl) _ (λcdv A outer s H E hr=>(jg (Wn (yK (wP (jy MR hr rfl DS DN DA (jac (jv 1) (by exact(jac (jG za rfl Z.len R6 (jac (jv 0) jc)) jc)))))) (jg UC) zg))) ?_;intro ds h Q q;obtain⟨T,o,k,e,hT,ho,h6,q⟩:=q;subst e;refine⟨_,rfl,_,rfl,_,k,by rw [G0,hT],h6,.inl ⟨o,rfl,ho,_,rfl,?_⟩⟩;exact wY ⟨h,Sub.refl h,q⟩
def JC:RDn:=λds h Q=> ∃k lo hi:Int,ds= [.int k,.int lo,.int hi]/\lo<=k/\k<=hi/\Q .non h
theorem Uj (Z:Zs mg)(F:Fun K "want_number" "want_number" yX f fd)(zX:ji P w K mg base n "is_within" ["thing","least","most"] wA):FnOk P w K mg base CX0 (n+1) f fd ["thing","least","most"] (LSp K JC):=by
 obtain⟨vg,yE,zY,zF,zG,zH⟩:=zX;refine F.okJ Ui (λds h Q q=>by obtain⟨k,lo,hi,e,h1,h2,q⟩:=q;subst e;rfl) _ (λcdv A outer s H E hr=>(jg (Wn (yK (wP (jy zY hr rfl zH zG zF (jac (jv 0) (by exact(jac (jv 1) (by exact(jac (jv 2) jc)))))))) (jg UC) zg))) ?_;intro ds h Q q;obtain⟨k,lo,hi,e,h1,h2,q⟩:=q;subst e;refine⟨_,rfl,_,rfl,_,rfl,.int k,lo,hi,rfl,rfl,_,rfl,?_⟩;have e0:jU (.int k) lo hi=true:=by
  show (decide (lo<=k)&&decide (k<=hi))=true;rw [G6 h1,G6 h2];rfl
 rw [e0];exact wY ⟨h,Sub.refl h,q⟩
def UO:RDn:=λds h Q=> ∃T,∃n e:Nat,ds= [jL T]/\Sq n e T/\n<=6/\ ∀R rs h',GB n h h' R rs (wk T n)->Q (.lst R) h'
theorem MF (Z:Zs mg)(F:Fun K "reaches" "reaches" VD f fd):FnOk P w K mg base CX0 (n+1) f fd ["table"] (LSp K UO):=by
 refine F.okJ wx (λds h Q q=>by obtain⟨T,n,b,e,hT,h6,q⟩:=q;subst e;rfl) _ (λcdv A outer s H E hr=>(je (Jy (i:=1) wx.nd rfl (by first|exact Or.inr rfl|exact Or.inl rfl) (jG za rfl Z.len R6 (jac (jv 0) jc))) (by exact(je (BB (i:=4) (k:=2) (js:= [4]) rfl wx.nd rfl (Or.inl rfl) (jk (by rfl)) (ZM rfl Z.range (jac (jv 1) jc)) (by decide) rfl (by first|exact Or.inl rfl|exact Or.inr rfl) (λX' hX=>jP) (λX' hX=>by obtain⟨C,s₀,H₀,ex,rfl⟩:=hX;exact(jlc (i:=5) (js:= [5]) rfl (jk (by rfl)) (ZM rfl Z.range (jac (jv 1) jc)) (by decide) wx.nd rfl (by first|exact Or.inl rfl|exact Or.inr rfl) (λX' hX=>jP) (λX' hX=>by obtain⟨C,s₀,H₀,ex,rfl⟩:=hX;exact(jor (Bx (Qz hr.units) (jv 4) (jv 5) (jI _)) (Ay (Bx oq_ne (jix (jix (jv 0) (jv 4) (λ_ _=>rfl)) (jv 5) (λ_ _=>rfl)) jN (jI _)))))))) (by exact(je (Mk M8 rfl (ZM rfl Z.range (jac (jv 1) jc)) (ya (i:=3) wx.nd rfl (Or.inl rfl)) (jg (Mk M8 rfl (ZM rfl Z.range (jac (jv 1) jc)) (ya (i:=4) wx.nd rfl (by first|exact Or.inr rfl|exact Or.inl rfl)) (jg (Mk M8 rfl (ZM rfl Z.range (jac (jv 1) jc)) (ya (i:=5) wx.nd rfl (by first|exact Or.inr rfl|exact Or.inl rfl)) (jg (Wn (jpt (Mj (wP (jix (jix (jv 2) (jv 4) (λ_ _=>rfl)) (jv 3) (λ_ _=>rfl))) (By (wP (jix (jix (jv 2) (jv 3) (λ_ _=>rfl)) (jv 5) (λ_ _=>rfl)))))) (jg (Sd jbl (QC (jix (jv 2) (jv 4) (λ_ _=>rfl)) (jv 5)))) zg))))))) (by exact(jg (wu (jv 2)))))))))) ?_;intro ds h Q q;obtain⟨T,n,b,e,hT,h6,q⟩:=q;subst e;refine jh (λσ' h'=>σ'= [some (jL T),some (.int (n:Int)),none,none,none,none]/\h=h') (λC hC=>⟨_,rfl,hC _ _ ⟨by rw [G0,hT.len];rfl,rfl⟩⟩) ?_;rintro _ _ ⟨rfl,rfl⟩;refine jh (λσ' h'=> ∃R rs u v w,σ'= [some (jL T),some (.int (n:Int)),some (.lst R),u,v,w]/\GB n h h' R rs (wk T 0)) (λC hC=> ?_) ?_
 ·refine Ky (h1:=h) n (λi ys h'=> ∃rs,ys=rs.map D.lst/\rs.length=i/\Sub h h'/\rs.Nodup/\ ∀m a,rs[m]? =some a->h a=none/\h' a=some ((List.range n).map λj=>D.bl (wk T 0 m j))) (by omega) (λR r=>⟨_,rfl,r⟩) ⟨[],rfl,rfl,Sub.refl h,G0E,by simp⟩ (λi ys h' ⟨rs,e,el,_⟩=>by rw [e,G0];exact el) ?_ ?_
  ·rintro i ys h3 hi ⟨rs,rfl,lrs,sb3,nd3,rows3⟩;refine lcA (List.range n) (λj=> .int (j:Int)) (λj=> .bl (wk T 0 i j)) (by rw [P4];omega) rfl (λR r=>⟨_,rfl,(n:Int),rfl,by omega,by omega,r⟩) (λj hj Q' q'=>⟨_,rfl,_,rfl,_,rfl,?_⟩) (λp5 e5=> ?_)
   ·have hj:=D2.mp hj;have q':Q' (.bl (decide (i=j)|| !decide (ent T i j=0))) h3:=q';have ed:decide ((i:Int)=(j:Int))=decide (i=j):=by rw [B3,N2,N2];omega
    rw [ed]
    by_cases c:i=j
    ·rw [G6 c] at q' ⊢;exact JJ q'
    ·rw [D7 c] at q' ⊢;exact wY ⟨_,rfl,_,rfl,_,Wq hT hi,_,rfl,_,Wr (hT.row _ (Sq.getRow hT hi)) hj,q'⟩
   ·refine⟨_,Sub.refl _,by omega,rs++ [p5],by rw [T6];rfl,by rw [G9,lrs];rfl,Sub.newAt sb3 e5,?_,λm a ha=> ?_⟩
    ·rw [A0];refine⟨nd3,by simp,λa ha b hb z=> ?_⟩;rw [G5.mp hb] at z;subst z;obtain⟨m,hm⟩:=J9 ha;rw [(rows3 m _ hm).2] at e5;cases e5
    ·by_cases hm:m<rs.length
     ·rw [D8 hm] at ha;exact⟨(rows3 m a ha).1,jM (rows3 m a ha).2 e5⟩
     ·rw [P5 (by omega)] at ha;have em:m-rs.length=0:=by
       have:=(G7.mp ha).1;simp at this;omega
      rw [em] at ha;have ea:p5=a:=by simpa using ha
      subst ea;have:m=i:=by omega
      subst this;exact⟨Xy sb3 e5,jd⟩
  ·rintro ys h3 ⟨rs,rfl,lrs,sb3,nd3,rows3⟩ R eR;refine hC _ _ ⟨R,rs,_,_,_,rfl,jd,lrs,λhR=> ?_,nd3,Sub.newAt sb3 eR,λi a ha=>⟨(rows3 i a ha).1,jM (rows3 i a ha).2 eR⟩⟩;obtain⟨m,hm⟩:=J9 hR;rw [(rows3 m _ hm).2] at eR;cases eR
 rintro _ h3 ⟨R,rs,u,v,w,rfl,G⟩;refine jh (λσ' h'=> ∃u v w,σ'= [some (jL T),some (.int (n:Int)),some (.lst R),u,v,w]/\GB n h h' R rs (wk T n)) (λC hC=> ?_) ?_
 ·refine YX n (λk σ' h'=> ∃u v w,σ'= [some (jL T),some (.int (n:Int)),some (.lst R),u,v,w]/\GB n h h' R rs (wk T k)) (by omega) (λR r=>⟨_,rfl,r⟩) ⟨u,v,w,rfl,G⟩ (λσ' h' z=>hC _ _ z) ?_;clear G;rintro k _ h4 hk ⟨u,v,w,rfl,G⟩;refine YX n (λi σ' h'=> ∃v w,σ'= [some (jL T),some (.int (n:Int)),some (.lst R),some (.int (k:Int)),v,w]/\GB n h h' R rs (fW T k i 0)) (by omega) (λR r=>⟨_,rfl,r⟩) ⟨v,w,rfl,G.as λx y _ _=>SK T k x y⟩ (λσ' h' ⟨v,w,e,G⟩=>⟨_,Sub.refl _,by omega,_,v,w,e,G.as λx y hx _=>kh T k x y hx⟩) ?_;clear G;rintro i _ h5 hi ⟨v,w,rfl,G⟩;refine YX n (λj σ' h'=> ∃w,σ'= [some (jL T),some (.int (n:Int)),some (.lst R),some (.int (k:Int)),some (.int (i:Int)),w]/\GB n h h' R rs (fW T k i j)) (by omega) (λR r=>⟨_,rfl,r⟩) ⟨w,rfl,G⟩ (λσ' h' ⟨w,e,G⟩=>⟨_,Sub.refl _,by omega,_,w,e,G.as λx y _ hy=>SJ T k i x y hy⟩) ?_;clear G;rintro j _ h6' hj ⟨w,rfl,G⟩;obtain⟨a,ha,a1,a2⟩:=G.pick hi;obtain⟨c,hc,c1,c2⟩:=G.pick hk;refine⟨_,rfl,_,rfl,_,_,G.at_,a1,_,rfl,_,_,a2,Ry hk,_,rfl,?_⟩;rw [ke];refine Mb (λz1=> ?_) λz1=> ?_
  ·refine⟨_,rfl,_,rfl,_,_,G.at_,c1,_,rfl,_,_,c2,Ry hj,_,rfl,?_⟩;rw [kf];refine Mb (λz2=> ?_) λz2=> ?_
   ·exact⟨_,rfl,_,rfl,_,_,G.at_,a1,_,rfl,a,(j:Int),_,j,rfl,rfl,a2,Xs (by rw [G0,P4];exact hj),_,Sub.refl _,by omega,_,rfl,(G.put ha).as λx y _ _=>kg z1 z2 x y⟩
   ·exact⟨_,Sub.refl _,by omega,_,rfl,G.as λx y _ _=>Cu (λz=>z2 z.2) x y⟩
  ·exact⟨_,Sub.refl _,by omega,_,rfl,G.as λx y _ _=>Cu (λz=>z1 z.1) x y⟩
 rintro _ h4 ⟨u,v,w,rfl,G⟩;exact⟨_,rfl,_,Sub.refl _,q R rs h4 G⟩
def WW:RDn:=λds h Q=> ∃R rs h0 T,∃n:Nat,ds= [.lst R]/\GB n h0 h R rs (wk T n)/\n<=6/\ ∀A h',h A=none->h' A=some ((WT T n).map jt)->Sub h h'->Q (.lst A) h'
theorem Gq (Z:Zs mg)(F:Fun K "pieces_by" "pieces_by" JX f fd):FnOk P w K mg base CX0 (n+1) f fd ["come"] (LSp K WW):=by
 refine F.okJ wb (λds h Q q=>by obtain⟨R,rs,h0,T,n,e,G,h6,q⟩:=q;subst e;rfl) _ (λcdv A outer s H E hr=>(je (Jy (i:=1) wb.nd rfl (Or.inl rfl) (jG za rfl Z.len R6 (jac (jv 0) jc))) (by exact(je (Jy (i:=2) wb.nd rfl (Or.inl rfl) (Bz jc)) (by exact(je (Mk M8 rfl (ZM rfl Z.range (jac (jv 1) jc)) (ya (i:=3) wb.nd rfl (by first|exact Or.inr rfl|exact Or.inl rfl)) (je (Jy (i:=4) wb.nd rfl (Or.inl rfl) (wC wg rfl Z.tuple (by decide +kernel) (jac (jlc (i:=5) (js:= [5]) rfl (jk (by rfl)) (ZM rfl Z.range (jac (jv 1) jc)) (by decide) wb.nd rfl (by first|exact Or.inl rfl|exact Or.inr rfl) (λX' hX=>by obtain⟨C,s₀,H₀,ex,rfl⟩:=hX;exact Va (jpt (Mj (wP (jix (jix (jv 0) (jv 3) (λ_ _=>rfl)) (jv 5) (λ_ _=>rfl))) (By (wP (jix (jix (jv 0) (jv 5) (λ_ _=>rfl)) (jv 3) (λ_ _=>rfl))))))) (λX' hX=>by obtain⟨C,s₀,H₀,ex,rfl⟩:=hX;exact(jv 5))) jc))) (by exact(jg (Wn (wc (Qz hr.units) (jix (jv 4) jN (λ_ _=>rfl)) (jv 3) (jI _)) (jg (JP (qj (jv 2) (jv 4)))) zg))))) (by exact(jg (wu (jv 2)))))))))) ?_;intro ds h Q q;obtain⟨R,rs,h0,T,n,e,G,h6,q⟩:=q;subst e;refine jh (λσ' h'=>σ'= [some (.lst R),some (.int (n:Int)),none,none,none,none]/\h=h') (λC hC=> ?_) ?_
 ·exact⟨_,rfl,_,G.at_,hC _ _ ⟨by rw [G0,G.len];rfl,rfl⟩⟩
 rintro _ _ ⟨rfl,rfl⟩;refine jh (λσ' h'=> ∃A,σ'= [some (.lst R),some (.int (n:Int)),some (.lst A),none,none,none]/\h A=none/\Sub h h'/\h' A=some []) (λC hC=>⟨(by show 0<=sizeLine;decide),λA eA=>hC _ _ ⟨A,rfl,eA,Sub.newAt (Sub.refl h) eA,jd⟩⟩) ?_;rintro _ h1 ⟨A,rfl,nA,sb,kA⟩;refine jh (λσ' h'=> ∃u v w,σ'= [some (.lst R),some (.int (n:Int)),some (.lst A),u,v,w]/\Sub h h'/\h' A=some ((WT T n).map jt)) (λC hC=> ?_) ?_
 ·refine YX n (λk σ' h'=> ∃u v w,σ'= [some (.lst R),some (.int (n:Int)),some (.lst A),u,v,w]/\Sub h h'/\h' A=some (((((List.range k).filter (λp=>decide ((pcS T n p).headD 0=p))).map (pcS T n))).map jt)) (by omega) (λR r=>⟨_,rfl,r⟩) ⟨_,_,_,rfl,sb,kA⟩ (λσ' h' z=>hC _ _ z) ?_;clear sb kA;rintro k _ h2 hk ⟨u,v,w,rfl,sb,kA⟩;have GG:=G.up sb;obtain⟨a,ha,a1,a2⟩:=GG.pick hk;refine jh (λσ' h'=> ∃w,σ'= [some (.lst R),some (.int (n:Int)),some (.lst A),some (.int (k:Int)),some (jt (pcS T n k)),w]/\h2=h') (λC hC=> ?_) ?_
  ·refine LX n (λj ys h'=>h'=h2/\ys=((List.range j).filter λi=>wk T n k i&&wk T n i k).map λ(i:Nat)=>D.int (i:Int)) (by omega) (λR r=>⟨_,rfl,r⟩) ⟨rfl,rfl⟩ (λj ys h' w=> ?_) (λj ys h' hj w=> ?_) (λys h' w=> ?_)
   ·rw [w.2,G0];exact R1 (C5 _ _) (by rw [P4];exact P1 _)
   ·obtain⟨rfl,rfl⟩:=w;obtain⟨c,hc,c1,c2⟩:=GG.pick hj;refine⟨_,rfl,_,rfl,_,_,GG.at_,a1,_,rfl,_,_,a2,Ry hj,_,rfl,Mb (λz1=> ?_) λz1=> ?_⟩
    ·refine⟨_,rfl,_,rfl,_,_,GG.at_,c1,_,rfl,_,_,c2,Ry hk,_,rfl,Mb (λz2=> ?_) λz2=> ?_⟩
     ·refine⟨_,rfl,_,Sub.refl _,by omega,rfl,?_⟩;rw [F8,L7,T6,L8 (by rw [z1,z2];rfl)];rfl
     ·refine⟨_,Sub.refl _,by omega,rfl,?_⟩;rw [F8,L7,T6,E2 (by rw [S5];exact λz=>z2 z.2)];simp
    ·refine⟨_,Sub.refl _,by omega,rfl,?_⟩;rw [F8,L7,T6,E2 (by rw [S5];exact λz=>z1 z.1)];simp
   ·obtain⟨rfl,rfl⟩:=w;exact hC _ _ ⟨_,rfl,rfl⟩
  rintro _ _ ⟨w',rfl,rfl⟩;obtain⟨r,er⟩:=CH (T:=T) hk;have a0:((pcS T n k).map λ(i:Nat)=>D.int (i:Int))[0]? =some (.int (((pcS T n k).headD 0:Nat):Int)):=by
   cases z:pcS T n k with
   |nil=>rw [z] at er;cases er
   |cons x r=>rfl
  refine⟨_,rfl,_,wW (j:=0) a0,_,rfl,?_⟩;show ∃k_1,D.bl (decide ((((pcS T n k).headD 0:Nat):Int)=(k:Int)))= .bl k_1/\_;refine⟨_,rfl,Mb (λz=> ?_) λz=> ?_⟩
  ·have z:(pcS T n k).headD 0=k:=by have:=M0 z;omega
   refine⟨_,rfl,A,rfl,_,rfl,_,kA,?_,_,Sub.refl _,by omega,_,_,_,rfl,sb.over nA,?_⟩
   ·rw [G0,G0];exact jE (R1 (C5 _ _) (by rw [P4];omega))
   ·rw [jd,F8,L7,L8 (by rw [N2];exact z),G1a,T6,T6];rfl
  ·have z: ¬ (pcS T n k).headD 0=k:=λe=>z (G6 (by omega))
   refine⟨_,Sub.refl _,by omega,_,_,_,rfl,sb,?_⟩;rw [kA,F8,L7,E2 (by rw [N2];exact z),G1a,F7]
 rintro _ h4 ⟨u,v,w,rfl,sb4,k4⟩;exact⟨_,rfl,_,Sub.refl _,q A h4 nA k4 sb4⟩
def Gr:RDn:=λds h Q=> ∃T,∃n e:Nat,ds= [jL T]/\Sq n e T/\1<=n/\n<=6/\ ∀A h',h A=none->h' A=some ((WT T n).map jt)->Sub h h'->Q (.lst A) h'
theorem CZ (Z:Zs mg)(F:Fun K "pieces" "pieces" XF f fd)(jA:ji P w K mg base n "want_table" ["thing"] jQ)(Dq:ji P w K mg base n "pieces_by" ["come"] WW)(Fg:ji P w K mg base n "reaches" ["table"] UO):FnOk P w K mg base CX0 (n+1) f fd ["table"] (LSp K Gr):=by
 obtain⟨zc,jV,jB,ju,jw,jx⟩:=jA;obtain⟨OZ,FO,Dx,GK,GZ,Pf⟩:=Dq;obtain⟨Tg,AO,Fj,MW,Ni,Nl⟩:=Fg;refine F.okJ CS (λds h Q q=>by obtain⟨T,n,b,e,hT,h1,h6,q⟩:=q;subst e;rfl) _ (λcdv A outer s H E hr=>(je (JP (jy jB hr rfl jx jw ju (jac (jv 0) jc))) (by exact(jg (wu (jy Dx hr rfl Pf GZ GK (jac (jy Fj hr rfl Nl Ni MW (jac (jv 0) jc)) jc))))))) ?_;intro ds h Q q;obtain⟨T,n,b,e,hT,h1,h6,q⟩:=q;subst e;refine jh (λσ' h'=>σ'= [some (jL T)]/\h=h') (λC hC=>⟨_,rfl,T,n,b,rfl,hT,h1,h6,hC _ _ ⟨rfl,rfl⟩⟩) ?_;rintro _ _ ⟨rfl,rfl⟩;exact⟨_,rfl,T,n,b,rfl,hT,h6,λR rs h2 G=>⟨R,rs,h,T,n,rfl,G,h6,λA h3 nA kA sb=>⟨_,Sub.refl _,q A h3 (Xy G.sb nA) kA ((G.sb).trans sb)⟩⟩⟩
def Gs:RDn:=λds h Q=> ∃T,∃n e:Nat,ds= [jL T]/\Sq n e T/\1<=n/\n<=6/\Q (.bl (decide ((WT T n).length=1))) h
theorem Fa (Z:Zs mg)(F:Fun K "joined" "joined" XG f fd)(OK:ji P w K mg base n "pieces" ["table"] Gr):FnOk P w K mg base CX0 (n+1) f fd ["table"] (LSp K Gs):=by
 obtain⟨Tu,Tk,OO,Fn,Fz,FD⟩:=OK;refine F.okJ CT (λds h Q q=>by obtain⟨T,n,b,e,hT,h1,h6,q⟩:=q;subst e;rfl) _ (λcdv A outer s H E hr=>(jg (wu (Bx oq_eq (jG za rfl Z.len R6 (jac (jy OO hr rfl FD Fz Fn (jac (jv 0) jc)) jc)) jN (jI _))))) ?_;intro ds h Q q;obtain⟨T,n,b,e,hT,h1,h6,q⟩:=q;subst e;refine⟨_,rfl,T,n,b,rfl,hT,h1,h6,λA h2 nA kA sb=>⟨_,kA,?_⟩⟩;show ∃h0,Sub h0 h2/\Q (.bl (decide (((((WT T n).map jt).length:Nat):Int)=1))) h0;refine⟨h,sb,?_⟩;rw [G0,show decide ((((WT T n).length:Nat):Int)=1)=decide ((WT T n).length=1) from by rw [B3,N2,N2];omega];exact q
theorem SZ {r:List Int}(h:r.length=n):Pz (r.map D.int)=(List.range n).map λ(j:Nat)=>D.tup [.int (j:Int),.int (r.getD j 0)]:=by
 apply Y2;intro i
 by_cases hi:i<n
 ·have hi':i<(Pz (r.map D.int)).length:=by rw [yV,G0,h];exact hi
  obtain⟨x,hx,ed⟩:=Xq (G1 hi');rw [G1 hi',ed];rw [P3,N4 hi];rw [P3,G1 (by omega)] at hx;injection hx with hx
  rw [<-hx];show some (D.tup [D.int (i:Int),D.int r[i]])=some (D.tup [D.int (i:Int),D.int (r.getD i 0)]);rw [G3,G1 (show i<r.length by omega)];rfl
 ·rw [N8 (by rw [yV,G0];omega),N8 (by simp;omega)]
def XN:RDn:=λds h Q=> ∃T,∃n e p:Nat,ds= [jL T,.int (p:Int)]/\Sq n e T/\n<=6/\p<n/\ ∀F,h F=none->Q (.lst F) (wq h F ((Pi T n p).map λ(k:Nat)=>D.int (k:Int)))
theorem Oz (Z:Zs mg)(F:Fun K "heads" "heads" Da f fd):FnOk P w K mg base CX0 (n+1) f fd ["table","place"] (LSp K XN):=by
 refine F.okJ RR (λds h Q q=>by obtain⟨T,n,bb,p,e,hT,n6,hp,q⟩:=q;subst e;rfl) _ (λcdv A outer s H E hr=>(jg (wu (xm (i:=2) (j:=3) (js:= [2,3]) rfl (jk (by rfl)) (PB rfl Z.enumerate (jac (jix (jv 0) (jv 1) (λ_ _=>rfl)) jc)) (by decide) (by decide) (by decide) RR.nd rfl rfl (by first|exact Or.inl rfl|exact Or.inr rfl) (by first|exact Or.inl rfl|exact Or.inr rfl) (λX' hX=>by obtain⟨C,s₀,H₀,ex,rfl⟩:=hX;exact Va (wc oq_ne (jv 3) jN (jI _))) (λX' hX=>by obtain⟨C,s₀,H₀,ex,rfl⟩:=hX;exact(jv 2)))))) ?_;intro ds h Q q;obtain⟨T,n,bb,p,e,hT,n6,hp,q⟩:=q;subst e;refine jaq (j:=λ_=>some (Pz ((T.getD p []).map D.int))) (List.range n) (λj=> .int (j:Int)) (λj=> .int ((T.getD p []).getD j 0)) (λj=> .int (j:Int)) (λj=>decide (ent T p j>0)) (by rw [P4];omega) (congrArg some (SZ (hT.row _ (Sq.getRow hT hp)))) (λR r=>⟨_,rfl,_,rfl,_,Wq hT hp,_,rfl,r⟩) (λx hx Q' q'=>⟨_,rfl,_,rfl,?_⟩) (λx hx _ Q' q'=>⟨_,rfl,q'⟩) (λF eF=>⟨_,Sub.refl _,q F eF⟩);have hnn:=(hT.ent_nn hp (D2.mp hx)).1;have e4:(!decide (((T.getD p []).getD x 0)=0))=decide (ent T p x>0):=by
  show (!decide (ent T p x=0))=_
  by_cases z:ent T p x=0
  ·rw [z];rfl
  ·rw [D7 z,G6 (by omega)];rfl
 rw [<-e4] at q';exact q'
def zt:RDn:=λds h Q=> ∃T d,∃n e:Nat,ds= [jL T,d]/\Sq n e T/\1<=n/\n<=6/\okD d=true/\Q (.bl (Ug T n d)) h
theorem Yj (Z:Zs mg)(F:Fun K "has_walk_form" "has_walk_form" yf f fd)(zC:ji P w K mg base n "are_places" ["thing","size"] wo):FnOk P w K mg base CX0 (n+1) f fd ["table","thing"] (LSp K zt):=by
 obtain⟨yD,ym,zE,zm,zn,zr⟩:=zC;refine F.okJ vG (λds h Q q=>by obtain⟨T,d,n,bb,e,hT,n1,n6,ok,q⟩:=q;subst e;rfl) _ (λcdv A outer s H E hr=>(je (Wn (jpt (Rf (yK (wP (jy zE hr rfl zr zn zm (jac (jv 1) (by exact(jac (jG za rfl Z.len R6 (jac (jv 0) jc)) jc)))))) (Mi (wc (Qz hr.units) (jv 1) (FG jc) (jI _))))) (jg (wu jbl)) zg) (by exact(jg (wu (jG (YV rfl) rfl Z.all L5 (jac (xm (i:=2) (j:=3) (js:= [2,3]) rfl (jk (by rfl)) (AA rfl Z.zip (jac (jv 1) (by exact(jac (Vb (jv 1) (vK jN) Wo) jc)))) (by decide) (by decide) (by decide) vG.nd rfl rfl (by first|exact Or.inl rfl|exact Or.inr rfl) (by first|exact Or.inl rfl|exact Or.inr rfl) (λX' hX=>jP) (λX' hX=>by obtain⟨C,s₀,H₀,ex,rfl⟩:=hX;exact(Bx oq_ne (jix (jix (jv 0) (jv 2) (λ_ _=>rfl)) (jv 3) (λ_ _=>rfl)) jN (jI _)))) jc))))))) ?_;intro ds h Q q;obtain⟨T,d,n,bb,e,hT,n1,n6,ok,q⟩:=q;subst e;have hlen:(((T.map Np).length:Nat):Int)=(n:Int):=by rw [G0,hT.len]
 refine jh (λσ' h'=> ∃W,d=jt W/\(∀i∈W,i<n)/\W.length<=1000/\Ug T n d=Yh T W/\W.isEmpty=false/\σ'= [some (jL T),some (jt W),none,none]/\h=h') (λC hC=> ?_) ?_
 ·refine⟨_,rfl,_,rfl,d,_,rfl,ok,_,rfl,?_⟩;rw [hlen];cases hp:wD d n with
  |false=>
   have:Ug T n d=false:=by unfold Ug;rw [hp];rfl
   rw [this] at q;exact JJ (JJ ⟨h,Sub.refl h,q⟩)
  |true=>
   obtain⟨e1,hW⟩:=UF hp;have e2:Ug T n d=Yh T (yp d):=by unfold Ug;rw [hp];rfl
   generalize yp d=W at e1 hW e2;have hl:W.length<=1000:=by
    have:=(WE (e1 ▸ ok)).1
    rwa [G0] at this
   refine wY ⟨_,rfl,(by show 0<=sizeLine;decide),?_⟩;rw [e1];refine⟨Ph W,.tuple [],yW h W,⟨_,rfl,rfl⟩,yO _,rfl,_,rfl,?_⟩;cases W with
   |nil=>
    have:Ug T n d=false:=by rw [e2];rfl
    rw [this] at q;exact JJ ⟨h,Sub.refl h,q⟩
   |cons w W=>exact wY (hC _ _ ⟨w::W,e1,hW,hl,e2,rfl,rfl,rfl⟩)
 rintro _ _ ⟨W,e1,hW,hl,e2,hne,rfl,rfl⟩;rw [e2] at q;have e3:Yh T W=(W.zip (W.drop 1)).all λp=>decide (ent T p.1 p.2>0):=by unfold Yh;rw [hne];rfl
 rw [e3] at q;refine KM (j:=λ_=>some (LL (W.map λ(k:Nat)=>D.int (k:Int)) (Wm (W.map λ(k:Nat)=>D.int (k:Int)) (some 1) none))) (W.zip (W.drop 1)) (λp=> .int (p.1:Int)) (λp=> .int (p.2:Int)) (λp=>decide (ent T p.1 p.2>0)) (by rw [G0i];omega) (congrArg some (BW W)) (λR r=>⟨_,rfl,_,rfl,_,rfl,_,_,rfl,r⟩) (λp hp Q' q'=> ?_) ⟨h,Sub.refl h,q⟩;have hi:=hW _ (W0 hp).1;have hj:=hW _ (M6 (W0 hp).2);refine⟨_,rfl,_,rfl,_,Wq hT hi,_,rfl,_,Wr (hT.row _ (Sq.getRow hT hi)) hj,?_⟩;have hnn:=(hT.ent_nn hi hj).1;have e4:(!decide (((T.getD p.1 []).getD p.2 0)=0))=decide (ent T p.1 p.2>0):=by
  show (!decide (ent T p.1 p.2=0))=_
  by_cases z:ent T p.1 p.2=0
  ·rw [z];rfl
  ·rw [D7 z,G6 (by omega)];rfl
 rw [<-e4] at q';exact q'
theorem MG (Z:Zs mg)(F:Fun K "is_walk" "is_walk" VE f fd)(jA:ji P w K mg base n "want_table" ["thing"] jQ)(yk:ji P w K mg base n "has_walk_form" ["table","thing"] zt):FnOk P w K mg base CX0 (n+1) f fd ["table","thing"] (LSp K zt):=by
 obtain⟨zc,jV,jB,ju,jw,jx⟩:=jA;obtain⟨WM,Wi,yl,wF,wG,wH⟩:=yk;refine F.okJ MD (λds h Q q=>by obtain⟨T,d,n,bb,e,hT,n1,n6,ok,q⟩:=q;subst e;rfl) _ (λcdv A outer s H E hr=>(je (JP (jy jB hr rfl jx jw ju (jac (jv 0) jc))) (by exact(jg (wu (jy yl hr rfl wH wG wF (jac (jv 0) (by exact(jac (jv 1) jc))))))))) ?_;intro ds h Q q;obtain⟨T,d,n,bb,e,hT,n1,n6,ok,q⟩:=q;subst e;refine jh (λσ' h'=>σ'= [some (jL T),some d]/\h=h') (λC hC=>⟨_,rfl,T,n,bb,rfl,hT,n1,n6,hC _ _ ⟨rfl,rfl⟩⟩) ?_;rintro _ _ ⟨rfl,rfl⟩;exact⟨_,rfl,_,rfl,T,d,n,bb,rfl,hT,n1,n6,ok,h,Sub.refl h,q⟩
theorem ifT {c:Bool}{A B:Prop}(e:c=true)(a:A):if c=true then A else B:=by rw [if_pos e];exact a
theorem ifF {c:Bool}{A B:Prop}(e:c=false)(b:B):if c=true then A else B:=by subst e;exact b
def vD:RDn:=λds h Q=> ∃a b:Nat,ds= [.int (a:Int),.int (b:Int)]/\Q (.int ((Nat.gcd a b:Nat):Int)) h
theorem Yk (Z:Zs mg)(F:Fun K "greatest_into" "greatest_into" yg f fd):FnOk P w K mg base CX0 (n+1) f fd ["one","other"] (LSp K vD):=by
 refine F.okJ vF (λds h Q q=>by obtain⟨a,b,e,q⟩:=q;subst e;rfl) _ (λcdv A outer s H E hr=>(je (Ri M8 (wc oq_ne (jv 1) jN (jI _)) (jg (jah (i:=0) (j:=1) rfl vF.nd rfl rfl (by decide) rfl rfl (jac (jv 1) (by exact(jac (jop wJ (jv 0) (jv 1)) jc))) rfl))) (by exact(jg (wu (jv 0)))))) ?_;intro ds h Q q;obtain⟨a,b,e,q⟩:=q;subst e;refine jh (λσ' h'=> ∃d,σ'= [some (.int ((Nat.gcd a b:Nat):Int)),d]/\h=h') (λC hC=> ?_) ?_
 ·refine Yw (λm σ' h'=> ∃x:Nat,σ'= [some (.int (x:Int)),some (.int (m:Int))]/\h=h'/\Nat.gcd x m=Nat.gcd a b) b ⟨a,rfl,rfl,rfl⟩ ?_;rintro m _ _ ⟨x,rfl,rfl,hg⟩;refine⟨_,rfl,_,rfl,?_⟩
  by_cases z:m=0
  ·subst z;rw [Nat.gcd_zero_right] at hg;subst hg;exact ifF (by decide) (hC _ _ ⟨_,rfl,rfl⟩)
  ·refine ifT (congrArg not (D7 (show ¬ (m:Int)=0 by omega))) ⟨_,rfl,_,rfl,_,rfl,(by omega:(0:Int)<(m:Int)),_,_,rfl,x%m,_,A3 _ (by omega),Sub.refl _,m,?_,rfl,?_⟩
   ·rw [C8];rfl
   ·rw [Nat.gcd_comm,<-Nat.gcd_rec,Nat.gcd_comm];exact hg
 rintro _ _ ⟨d,rfl,rfl⟩;exact⟨_,rfl,h,Sub.refl h,q⟩
def VL:RDn:=λds h Q=> ∃T d,∃n e:Nat,ds= [jL T,d]/\Sq n e T/\1<=n/\n<=6/\okD d=true/\qy d/\Q (.bl (Gf T n d)) h
theorem Dh (Z:Zs mg)(F:Fun K "is_round" "is_round" WB f fd)(jA:ji P w K mg base n "want_table" ["thing"] jQ)(zC:ji P w K mg base n "are_places" ["thing","size"] wo)(yk:ji P w K mg base n "has_walk_form" ["table","thing"] zt):FnOk P w K mg base CX0 (n+1) f fd ["table","thing"] (LSp K VL):=by
 obtain⟨zc,jV,jB,ju,jw,jx⟩:=jA;obtain⟨yD,ym,zE,zm,zn,zr⟩:=zC;obtain⟨WM,Wi,yl,wF,wG,wH⟩:=yk;refine F.okJ Db (λds h Q q=>by obtain⟨T,d,n,b,e,hT,h1,h6,ok,few,q⟩:=q;subst e;rfl) _ (λcdv A outer s H E hr=>(je (JP (jy jB hr rfl jx jw ju (jac (jv 0) jc))) (by exact(je (Wn (jpt (Rf (yK (wP (jy zE hr rfl zr zn zm (jac (jv 1) (by exact(jac (jG za rfl Z.len R6 (jac (jv 0) jc)) jc)))))) (Mi (wc (Qz hr.units) (jv 1) (FG jc) (jI _))))) (jg (wu jbl)) zg) (by exact(je (Wn (jpt (Rf (wc (Re hr.units) (jix (jv 1) jN (λ_ _=>rfl)) (jG (Sm rfl) rfl Z.min (by decide +kernel) (jac (jv 1) jc)) (jI _)) (Mi (wc oq_ne (jls rfl rfl Z.len rfl Z.set (jac (jv 1) jc)) (jG za rfl Z.len R6 (jac (jv 1) jc)) (jI _))))) (jg (wu jbl)) zg) (by exact(jg (wu (jy yl hr rfl wH wG wF (jac (jv 0) (by exact(jac (jop wK (jv 1) (Vb (jv 1) Wo (vK jN))) jc))))))))))))) ?_;intro ds h Q q;obtain⟨T,d,n,b,e,hT,h1,h6,ok,few,q⟩:=q;subst e;refine jh (λσ' h'=>σ'= [some (jL T),some d]/\h=h') (λC hC=>⟨_,rfl,T,n,b,rfl,hT,h1,h6,hC _ _ ⟨rfl,rfl⟩⟩) ?_;rintro _ _ ⟨rfl,rfl⟩;have nl:((T.map Np).length:Int)=(n:Int):=by rw [G0,hT.len]
 cases pl:wD d (n:Int) with
 |false=>
  refine jh (λ_ _=>False) (λC hC=>⟨_,rfl,_,rfl,d,(n:Int),by rw [nl],ok,_,rfl,?_⟩) (λ_ _ z=>z.elim);rw [pl];refine JJ ⟨h,Sub.refl h,?_⟩;unfold Gf at q;rw [pl] at q;exact q
 |true=>
  obtain⟨ed,lt⟩:=UF pl;generalize yp d=W at ed lt;subst ed;have hlW:W.length<=53:=by have:=few _ rfl;rw [G0] at this;exact this
  unfold Gf at q;rw [pl,YB] at q;have q:Q (.bl (kO T W)) h:=q
  by_cases ne:W= []
  ·subst ne;refine jh (λ_ _=>False) (λC hC=>⟨_,rfl,_,rfl,jt [],(n:Int),by rw [nl],ok,_,rfl,?_⟩) (λ_ _ z=>z.elim);rw [pl];exact wY ⟨_,rfl,(by show 0<=sizeLine;decide),KN rfl ⟨_,rfl,JJ ⟨h,Sub.refl h,q⟩⟩⟩
  obtain⟨t,hl⟩: ∃t,W.length=t+1:=⟨W.length-1,by have:=V1.mpr ne;omega⟩;have hne:toI W≠ []:=λz=>ne (List.map_eq_nil_iff.mp z)
  have mh: ∀m:Int,m∈toI W->(∀x∈toI W,m<=x)->(((W.headD 0:Nat):Int)=m↔ ∀x∈W,W.headD 0<=x):=λm m1 m2=>by
   constructor
   ·intro e x hx;have:=m2 (x:Int) (D1.mpr ⟨x,hx,rfl⟩);omega
   ·intro z;obtain⟨y,hy,rfl⟩:=D1.mp m1;have a:=z y hy;have b:=m2 ((W.headD 0:Nat):Int) (D1.mpr ⟨_,RB hl,rfl⟩);omega
  refine jh (λσ' h'=>σ'= [some (jL T),some (jt W)]/\h=h') (λC hC=>⟨_,rfl,_,rfl,jt W,(n:Int),by rw [nl],ok,_,rfl,?_⟩) ?_
  ·rw [pl];exact wY ⟨_,rfl,(by show 0<=sizeLine;decide),SH (b:= []) ne ⟨_,rfl,wY (hC _ _ ⟨rfl,rfl⟩)⟩⟩
  rintro _ _ ⟨rfl,rfl⟩;unfold kO at q;rw [show W.isEmpty=false from by cases W with|nil=>exact absurd rfl ne|cons _ _=>rfl] at q
  by_cases low: ∀x∈W,W.headD 0<=x
  ·by_cases nd:W.Nodup
   ·refine jh (λσ' h'=>σ'= [some (jL T),some (jt W)]/\h=h') (λC hC=>⟨_,rfl,_,Ji hl,_,rfl,(toI W),h,hne,Sub.refl h,.inl (congrArg (λx=> [x]) (ZV W)),λm m1 m2=> ?_⟩) ?_
    ·show ∃c,D.bl (!decide (((W.headD 0:Nat):Int)=m))=D.bl c/\_;rw [G6 ((mh m m1 m2).mpr low)];refine⟨_,rfl,wY ⟨_,rfl,toI W,.inl (congrArg (λx=> [x]) (ZV W)),by rw [G0];omega,λk k1 k2=>⟨_,rfl,?_⟩⟩⟩;show ∃c,D.bl (!decide ((k:Int)=((W.map λ(k:Nat)=>D.int (k:Int)).length:Int)))=D.bl c/\_;rw [G6 (by rw [k2.mpr (toI_nodup.mpr nd),G0,G0])];exact⟨_,rfl,wY (hC _ _ ⟨rfl,rfl⟩)⟩
    rintro _ _ ⟨rfl,rfl⟩;have ea:D.tup ((W.map λ(k:Nat)=>D.int (k:Int))++Wm (W.map λ(k:Nat)=>D.int (k:Int)) none (some 1))=jt (W++W.take 1):=by
     rw [Xh];unfold jt;rw [T6]
     congr 3
     unfold Wm HT.sIx;simp
    have ok2:okD (jt (W++W.take 1))=true:=ZX (by rw [G0,G9,D4];omega) λd hd=>by obtain⟨x,_,rfl⟩:=D1.mp hd;rfl
    refine⟨_,rfl,_,rfl,_,rfl,_,rfl,?_,T,jt (W++W.take 1),n,b,by rw [ea],hT,h1,h6,ok2,h,Sub.refl h,?_⟩
    ·have:(Wm (W.map λ(k:Nat)=>D.int (k:Int)) none (some 1)).length<=(W.map λ(k:Nat)=>D.int (k:Int)).length:=by unfold Wm;rw [List.length_take,List.length_drop];omega
     rw [G0] at this ⊢;exact D5 (jE (by omega))
    ·unfold Ug;rw [Vz λi hi=>(P6.mp hi).elim (lt i) λz=>lt i (M7 z),YB];rw [G6 low,G6 nd] at q;exact q
   ·refine jh (λ_ _=>False) (λC hC=>⟨_,rfl,_,Ji hl,_,rfl,(toI W),h,hne,Sub.refl h,.inl (congrArg (λx=> [x]) (ZV W)),λm m1 m2=> ?_⟩) (λ_ _ z=>z.elim);show ∃c,D.bl (!decide (((W.headD 0:Nat):Int)=m))=D.bl c/\_;rw [G6 ((mh m m1 m2).mpr low)];refine⟨_,rfl,wY ⟨_,rfl,toI W,.inl (congrArg (λx=> [x]) (ZV W)),by rw [G0];omega,λk k1 k2=>⟨_,rfl,?_⟩⟩⟩;show ∃c,D.bl (!decide ((k:Int)=((W.map λ(k:Nat)=>D.int (k:Int)).length:Int)))=D.bl c/\_;rw [D7 λz=>nd (toI_nodup.mp (k2.mp (by rw [G0] at z ⊢;omega)))];refine⟨_,rfl,JJ ⟨h,Sub.refl h,?_⟩⟩;rw [G6 low,D7 nd] at q;exact q
  ·refine jh (λ_ _=>False) (λC hC=>⟨_,rfl,_,Ji hl,_,rfl,(toI W),h,hne,Sub.refl h,.inl (congrArg (λx=> [x]) (ZV W)),λm m1 m2=> ?_⟩) (λ_ _ z=>z.elim);show ∃c,D.bl (!decide (((W.headD 0:Nat):Int)=m))=D.bl c/\_;rw [D7 λz=>low ((mh m m1 m2).mp z)];refine⟨_,rfl,JJ ⟨h,Sub.refl h,?_⟩⟩;rw [D7 low] at q;exact q
theorem Fb (w:List Nat):((Pi T n (w.getLastD 0)).filter λj=>decide (w.headD 0<j)&& !decide (j∈w)).map (λj=>jt (w++ [j]))=(ki (vH T) n w).map jt:=by
 unfold ki Pi;rw [List.filter_filter,T5];have:(λj=>(decide (w.headD 0<j)&& !decide (j∈w))&&decide (ent T (w.getLastD 0) j>0))=SM (vH T) w:=by
  funext j
  unfold SM vH;rw [Bool.and_comm]
 rw [this];rfl
theorem RL {t:Nat}:((lev (vH T) n t).flatMap λw=>((Pi T n (w.getLastD 0)).filter λj=>decide (w.headD 0<j)&& !decide (j∈w)).map λj=>jt (w++ [j]))=(lev (vH T) n (t+1)).map jt:=by
 show _=((lev (vH T) n t).flatMap (ki (vH T) n)).map jt;rw [List.map_flatMap];exact congrArg (λf=>(lev (vH T) n t).flatMap f) (funext λw=>Fb w)
def wS:RDn:=λds h Q=> ∃T,∃n e:Nat,ds= [jL T]/\Sq n e T/\1<=n/\n<=6/\ ∀A h',h A=none->h' A=some ((jD T n).map jt)->Sub h h'->Q (.lst A) h'
theorem XO (Z:Zs mg)(F:Fun K "all_rounds" "all_rounds" vQ f fd)(jA:ji P w K mg base n "want_table" ["thing"] jQ)(Dp:ji P w K mg base n "heads" ["table","place"] XN):FnOk P w K mg base CX0 (n+1) f fd ["table"] (LSp K wS):=by
 obtain⟨zc,jV,jB,ju,jw,jx⟩:=jA;obtain⟨Ft,Nf,Dw,XV,Qb,Qe⟩:=Dp;refine F.okJ zM (λds h Q q=>by obtain⟨T,n,b,e,hT,h1,h6,q⟩:=q;subst e;rfl) _ (λcdv A outer s H E hr=>(je (JP (jy jB hr rfl jx jw ju (jac (jv 0) jc))) (by exact(je (Jy (i:=1) zM.nd rfl (Or.inl rfl) (Bz jc)) (by exact(je (BB (i:=3) (k:=2) (js:= [3]) rfl zM.nd rfl (Or.inl rfl) (jk (by rfl)) (ZM rfl Z.range (jac (jG za rfl Z.len R6 (jac (jv 0) jc)) jc)) (by decide) rfl (by first|exact Or.inl rfl|exact Or.inr rfl) (λX' hX=>jP) (λX' hX=>by obtain⟨C,s₀,H₀,ex,rfl⟩:=hX;exact(FG (jac (jv 3) jc)))) (by exact(je (Ri M8 (xr (jv 2)) (je (Jy (i:=1) zM.nd rfl (Or.inl rfl) (jop wK (jv 1) (jlc (i:=4) (js:= [4]) rfl (jk (by rfl)) (zZ (jv 2)) (by decide) zM.nd rfl (by first|exact Or.inl rfl|exact Or.inr rfl) (λX' hX=>by obtain⟨C,s₀,H₀,ex,rfl⟩:=hX;exact Va (wc oq_ne (jix (jix (jv 0) (jix (jv 4) (KG jN) (λ_ _=>rfl)) (λ_ _=>rfl)) (jix (jv 4) jN (λ_ _=>rfl)) (λ_ _=>rfl)) jN (jI _))) (λX' hX=>by obtain⟨C,s₀,H₀,ex,rfl⟩:=hX;exact(jv 4))))) (by exact(jg (SL (i:=4) (i':=5) (k:=2) (js:= [4,5]) rfl zM.nd rfl (Or.inl rfl) (jk (by rfl)) (zZ (jv 2)) (by decide) (by decide) (by decide) rfl rfl (by first|exact Or.inl rfl|exact Or.inr rfl) (by first|exact Or.inl rfl|exact Or.inr rfl) (λX' hX=>jP) (λX' hX=>by obtain⟨C,s₀,H₀,ex,rfl⟩:=hX;exact(zZ (jy Dw hr rfl Qe Qb XV (jac (jv 0) (by exact(jac (jix (jv 4) (KG jN) (λ_ _=>rfl)) jc)))))) (λX' hX=>by obtain⟨C,s₀,H₀,ex,rfl⟩:=hX;exact Va (jpt (Mj (wc Kh (jv 5) (jix (jv 4) jN (λ_ _=>rfl)) (jI _)) (By (wc (Rk hr.units) (jv 5) (jv 4) (by with_unfolding_all rfl)))))) (λX' hX=>by obtain⟨C,s₀,H₀,ex,rfl⟩:=hX;exact(jop wK (jv 4) (FG (jac (jv 5) jc))))))))) (by exact(jg (wu (jG (Mw hr) rfl Z.sorted (by decide +kernel) (jac (jv 1) jc))))))))))))) ?_;intro ds h Q q;obtain⟨T,n,b,e,hT,h1,h6,q⟩:=q;subst e;refine jh (λσ' h'=>σ'= [some (jL T),none,none,none,none,none]/\h=h') (λC hC=>⟨_,rfl,T,n,b,rfl,hT,h1,h6,hC _ _ ⟨rfl,rfl⟩⟩) ?_;rintro _ _ ⟨rfl,rfl⟩;refine jh (λσ' h'=> ∃A,σ'= [some (jL T),some (.lst A),none,none,none,none]/\h' A=some []/\Sub h h') (λC hC=>⟨(by show 0<=sizeLine;decide),λA eA=>hC _ _ ⟨A,rfl,jd,Sub.newAt (Sub.refl h) eA⟩⟩) ?_;rintro _ h2 ⟨A,rfl,kA,sA⟩;refine jh (λσ' h'=> ∃B c,σ'= [some (jL T),some (.lst A),some (.lst B),c,none,none]/\h' A=some ((Vy (vH T) n 0).map jt)/\h' B=some ((lev (vH T) n 0).map jt)/\Sub h h') (λC hC=> ?_) ?_
 ·refine lcA (List.range n) (λj=> .int (j:Int)) (λi=>jt [i]) (by rw [P4];omega) rfl (λR r=>⟨_,rfl,(n:Int),by rw [G0,hT.len],by omega,by omega,r⟩) (λj hj Q' q'=>⟨_,rfl,(by show 1<=sizeLine;decide),q'⟩) (λB eB=>hC _ _ ⟨B,_,rfl,jM kA eB,?_,Sub.newAt sA eB⟩);rw [jd];show _=some (((List.range n).map λi=> [i]).map jt);rw [T5];rfl
 rintro _ h3 ⟨B,c,rfl,kA,kB,sb⟩;refine jh (λσ' h'=> ∃A B c,σ'= [some (jL T),some (.lst A),some (.lst B),c,none,none]/\h' A=some ((Vy (vH T) n n).map jt)/\Sub h h') (λC hC=> ?_) ?_
 ·refine Yw (λm σ' h'=> ∃ (t:Nat) (A B:Addr) (c:Option D),σ'= [some (jL T),some (.lst A),some (.lst B),c,none,none]/\m=n-t/\t<=n/\h' A=some ((Vy (vH T) n t).map jt)/\h' B=some ((lev (vH T) n t).map jt)/\Sub h h') n ⟨0,A,B,c,rfl,rfl,S8 _,kA,kB,sb⟩ ?_;clear kA kB sb;rintro m _ h4 ⟨t,A,B,c,rfl,rfl,tn,kA,kB,sb⟩;refine⟨_,rfl,!((lev (vH T) n t).map jt).isEmpty,⟨_,kB,rfl⟩,?_⟩
  by_cases z:(lev (vH T) n t)= []
  ·rw [z];refine wY (hC _ _ ⟨A,B,c,rfl,?_,sb⟩);have:=(Ge (n-t) z).1;rw [show t+(n-t)=n by omega] at this;rw [this];exact kA
  ·have tl:t<n:=by
    rcases H0 t n with w|w
    ·exact w
    ·have:t=n:=by omega
     subst this;exact absurd (SO h6) z
   have ll:=Cv (g:=vH T) h6 (show t<=6 by omega);have rl:=RA (g:=vH T) h6 (show t<=6 by omega);have l2:=Cv (g:=vH T) h6 (show t+1<=6 by omega);rw [show (!((lev (vH T) n t).map jt).isEmpty)=true from by cases e:(lev (vH T) n t) with|nil=>exact absurd e z|cons _ _=>rfl];refine JJ ?_;refine jh (λσ' h'=> ∃A,σ'= [some (jL T),some (.lst A),some (.lst B),c,none,none]/\h' A=some ((Vy (vH T) n (t+1)).map jt)/\h' B=some ((lev (vH T) n t).map jt)/\Sub h h') (λC hC=>⟨_,rfl,?_⟩) ?_
   ·refine lcF (j:=λh=>h B) (lev (vH T) n t) jt jt (λw=>vH T (w.getLastD 0) (w.headD 0)) (by omega) kB (λR r=>⟨_,rfl,r⟩) (λw hw Q' q'=> ?_) (λw hw _ Q' q'=>⟨_,rfl,q'⟩) (λF eF=>⟨_,_,jM kA eF,jd,?_,λp e=>hC _ _ ⟨p,rfl,?_,jM (jM kB eF) e,(((sb).newAt eF).newAt e)⟩⟩)
    ·have o:=ZT hw;have he:=o.lt _ (Cy o.len);have hh:=o.lt _ (RB o.len);refine⟨_,rfl,_,rfl,_,Cw o.len,_,Wq hT he,_,rfl,_,Ji o.len,_,Wr (hT.row _ (Sq.getRow hT he)) hh,?_⟩;have nn:=(hT.ent_nn he hh).1;have:(!decide (ent T (w.getLastD 0) (w.headD 0)=0))=vH T (w.getLastD 0) (w.headD 0):=by
      unfold vH;rw [B3,N2,Bool.not_eq_true',G0R];omega
     rw [<-this] at q';exact⟨_,rfl,q'⟩
    ·have:=C5 (λw=>vH T (w.getLastD 0) (w.headD 0)) (lev (vH T) n t);rw [G0,G0];exact D5 (jE (by omega))
    ·rw [jd];show _=some (((Vy (vH T) n t)++(lev (vH T) n t).filter λw=>vH T (w.getLastD 0) (w.headD 0)).map jt);rw [T6]
   clear kA kB sb;rintro _ h5 ⟨A,rfl,kA,kB,sb⟩;refine AG (j:=λh=>h B) (lev (vH T) n t) jt (λw=>Pi T n (w.getLastD 0)) (λ(j:Nat)=> .int (j:Int)) (λw j=>decide (w.headD 0<j)&& !decide (j∈w)) (λw j=>jt (w++ [j])) ?_ (λh' s=>s _ _ kB) (λR r=>⟨_,rfl,r⟩) (λw hw h' s R r=> ?_) (λw hw j hj h' s Q' q'=> ?_) (λw hw j hj _ h' s Q' q'=> ?_) (λa h' s ea=> ?_)
   ·rw [RL,G0];exact D5 (jE (by omega))
   ·have o:=ZT hw;exact⟨_,rfl,_,rfl,_,Cw o.len,T,n,b,w.getLastD 0,rfl,hT,h6,o.lt _ (Cy o.len),λF eF=>r _ _ (Sub.newAt (Sub.refl _) eF) λh3 s3=>s3 _ _ jd⟩
   ·have o:=ZT hw;refine⟨_,rfl,_,rfl,_,Ji o.len,?_⟩;show ∃k,D.bl (decide (((w.headD 0:Nat):Int)<(j:Int)))=D.bl k/\_;rw [show decide (((w.headD 0:Nat):Int)<(j:Int))=decide (w.headD 0<j) from by rw [B3,N2,N2];omega];refine⟨_,rfl,?_⟩
    by_cases c:w.headD 0<j
    ·rw [G6 c] at q' ⊢;exact JJ ⟨_,rfl,_,rfl,Ct ⟨_,rfl,q'⟩⟩
    ·rw [D7 c] at q' ⊢;exact wY q'
   ·have o:=ZT hw;have e:jt (w++ [j])= .tup ((w.map λ(k:Nat)=>D.int (k:Int))++ [.int (j:Int)]):=by unfold jt;rw [List.map_append];rfl
    rw [e] at q';refine⟨_,rfl,_,rfl,(by show 1<=sizeLine;decide),?_,q'⟩;rw [G0,o.len];exact D5 (jE (by simp only [P9,T4];omega))
   ·rw [RL];exact⟨n-(t+1),_,by omega,Sub.refl _,t+1,A,a,_,rfl,rfl,by omega,jM (s _ _ kA) ea,jd,(((sb).trans s).newAt ea)⟩
 clear kA kB sb;rintro _ h4 ⟨A,B,c,rfl,kA,sb⟩;refine⟨_,rfl,A,(Vy (vH T) n n).map toI,rfl,?_,?_,λp mss hp pm sr=>⟨_,Sub.refl _,q p _ (Xy sb hp) (by rw [jd,Cs pm sr];rfl) (Sub.newAt sb hp)⟩⟩
 ·rw [kA,T5];exact congrArg some (S9 λS _=>(Cn S).symm)
 ·rw [G0];have:=RA (g:=vH T) h6 h6;exact jE (by omega)
/-- the greatest number that goes into the lengths of all jD -/
def jJ (T:List (List Int))(n:Nat):Nat:=((jD T n).map List.length).foldl Nat.gcd 0
def VM:RDn:=λds h Q=> ∃T,∃n e:Nat,ds= [jL T]/\Sq n e T/\1<=n/\n<=6/\(WT T n).length=1/\Q (.int ((jJ T n:Nat):Int)) h
theorem Ta (Z:Zs mg)(F:Fun K "beat" "beat" CU f fd)(OJ:ji P w K mg base n "joined" ["table"] Gs)(wB:ji P w K mg base n "all_rounds" ["table"] wS)(VP:ji P w K mg base n "greatest_into" ["one","other"] vD):FnOk P w K mg base CX0 (n+1) f fd ["table"] (LSp K VM):=by
 obtain⟨Tt,Tj,ON,Fm,Fy,FC⟩:=OJ;obtain⟨JD,Je,wa,zJ,zK,zL⟩:=wB;obtain⟨Nd,RQ,VQ,Yn,Yp,Yq⟩:=VP;refine F.okJ Qg (λds h Q q=>by obtain⟨T,n,b,e,hT,h1,h6,one,q⟩:=q;subst e;rfl) _ (λcdv A outer s H E hr=>(je (Wn (yK (wP (jy ON hr rfl FC Fy Fm (jac (jv 0) jc)))) (jg UC) zg) (by exact(je (Jy (i:=1) Qg.nd rfl (Or.inl rfl) jN) (by exact(je (Mk M8 rfl (zZ (jy wa hr rfl zL zK zJ (jac (jv 0) jc))) (ya (i:=2) Qg.nd rfl (Or.inl rfl)) (jg (Jy (i:=1) Qg.nd rfl (Or.inl rfl) (jy VQ hr rfl Yq Yp Yn (jac (jv 1) (by exact(jac (jG za rfl Z.len R6 (jac (jv 2) jc)) jc))))))) (by exact(jg (wu (jv 1)))))))))) ?_;intro ds h Q q;obtain⟨T,n,b,e,hT,h1,h6,one,q⟩:=q;subst e;refine jh (λσ' h'=>σ'= [some (jL T),none,none]/\h=h') (λC hC=>⟨_,rfl,T,n,b,rfl,hT,h1,h6,_,rfl,?_⟩) ?_
 ·rw [G6 one];exact wY (hC _ _ ⟨rfl,rfl⟩)
 rintro _ _ ⟨rfl,rfl⟩;refine jh (λσ' h'=>σ'= [some (jL T),some (.int 0),none]/\h=h') (λC hC=>hC _ _ ⟨rfl,rfl⟩) ?_;rintro _ _ ⟨rfl,rfl⟩;refine jh (λσ' h'=> ∃v,σ'= [some (jL T),some (.int ((jJ T n:Nat):Int)),v]/\Sub h h') (λC hC=>⟨_,rfl,T,n,b,rfl,hT,h1,h6,λA h2 nA kA sb=> ?_⟩) (λ_ h' ⟨v,e,sb⟩=>by subst e;exact⟨_,rfl,_,sb,q⟩);refine ZK (j:=λh=>h A) ((jD T n).map jt) (λi σ' h'=> ∃v,σ'= [some (jL T),some (.int (((((jD T n).take i).map List.length).foldl Nat.gcd 0:Nat):Int)),v]/\h2=h') (λi σ' h' ⟨_,_,z⟩=>by rw [<-z];exact kA) ⟨_,rfl,rfl⟩ (λσ' h' ⟨v,e,z⟩=>hC _ _ ⟨v,by rw [e,G0,U8];rfl,by rw [<-z];exact sb⟩) ?_;rintro i d _ _ hi ⟨v,rfl,rfl⟩;rw [P3] at hi;obtain⟨W,hW,rfl⟩:=F5.mp hi;have hil:=(G7.mp hW).1;refine⟨_,rfl,_,rfl,_,_,rfl,_,Sub.refl _,by rw [G0];omega,some (jt W),?_,rfl⟩;rw [N6,hW,T6,List.foldl_append,G0];rfl
def yZ:RDn:=λds h Q=> ∃T S,∃n e:Nat,ds= [jL T,jt S]/\Sq n e T/\IsS n S/\n<=6/\Q (jt (zd n T S)) h
theorem XQ (Z:Zs mg)(F:Fun K "step_after" "step_after" vR f fd):FnOk P w K mg base CX0 (n+1) f fd ["table","some"] (LSp K yZ):=by
 refine F.okJ vy (λds h Q q=>by obtain⟨T,S,k,b,e,hT,hS,h6,q⟩:=q;subst e;rfl) _ (λcdv A outer s H E hr=>(jg (wu (wC wg rfl Z.tuple (by decide +kernel) (jac (jlc (i:=2) (js:= [2]) rfl (jk (by rfl)) (ZM rfl Z.range (jac (jG za rfl Z.len R6 (jac (jv 0) jc)) jc)) (by decide) vy.nd rfl (by first|exact Or.inl rfl|exact Or.inr rfl) (λX' hX=>by obtain⟨C,s₀,H₀,ex,rfl⟩:=hX;exact Va (wP (jG (Ko rfl) rfl Z.any (by decide +kernel) (jac (jlc (i:=3) (js:= [3]) rfl (jk (by rfl)) (zZ (jv 1)) (by decide) vy.nd rfl (by first|exact Or.inl rfl|exact Or.inr rfl) (λX' hX=>jP) (λX' hX=>by obtain⟨C,s₀,H₀,ex,rfl⟩:=hX;exact(Bx oq_ne (jix (jix (jv 0) (jv 3) (λ_ _=>rfl)) (jv 2) (λ_ _=>rfl)) jN (jI _)))) jc)))) (λX' hX=>by obtain⟨C,s₀,H₀,ex,rfl⟩:=hX;exact(jv 2))) jc))))) ?_;intro ds h Q q;obtain⟨T,S,k,b,e,hT,hS,h6,q⟩:=q;subst e;have hlen:=hS.len;refine xo (List.range k) (λj=> .int (j:Int)) (λj=> .int (j:Int)) (λj=>S.any λi=>decide (ent T i j≠0)) (by rw [P4];omega) rfl (λR r=>⟨_,rfl,(k:Int),by rw [G0,hT.len],by omega,by omega,r⟩) (λj hj Q' q'=> ?_) (λj hj hp Q' q'=>⟨_,rfl,q'⟩) ⟨h,Sub.refl h,q⟩;refine jal S (λi=> .int (i:Int)) (λi=>decide (ent T i j≠0)) (by omega) rfl (λR r=>⟨_,rfl,r⟩) (λi hi Q'' q''=> ?_) ⟨_,rfl,q'⟩;have hi':=hS.lt hi;refine⟨_,rfl,_,rfl,_,Wq hT hi',_,rfl,_,Wr (hT.row _ (Sq.getRow hT hi')) (D2.mp hj),?_⟩;have e:(!decide (((T.getD i []).getD j 0)=0))=decide (ent T i j≠0):=by simp [ent]
 rw [<-e] at q'';exact q''
def WX:RDn:=λds h Q=> ∃T S,∃n e k:Nat,ds= [jL T,jt S,.int (k:Int)]/\Sq n e T/\1<=n/\n<=6/\IsS n S/\k<=1000000000/\Q (jt (itF (zd n T) S k)) h
theorem Gt (Z:Zs mg)(F:Fun K "set_after" "set_after" JY f fd)(jA:ji P w K mg base n "want_table" ["thing"] jQ)(MP:ji P w K mg base n "want_set" ["table","thing"] VJ)(XT:ji P w K mg base n "want_number" ["thing","least","most"] JC)(vW:ji P w K mg base n "step_after" ["table","some"] yZ)(Ja: ∃tk,mg "MOST_STEPS" =some (.int 1000000000 tk)):FnOk P w K mg base CX0 (n+1) f fd ["table","some","k"] (LSp K WX):=by
 obtain⟨zc,jV,jB,ju,jw,jx⟩:=jA;obtain⟨AM,Af,MU,DE,DQ,DV⟩:=MP;obtain⟨Fu,Nt,XU,Um,Ur,Us⟩:=XT;obtain⟨Uq,VW,vY,vd,vk,vt⟩:=vW;obtain⟨tk_MOST_STEPS,m_MOST_STEPS⟩:=Ja;refine F.okJ yw (λds h Q q=>by obtain⟨T,S,n,bb,k,e,hT,h1,h6,hS,hk,q⟩:=q;subst e;rfl) _ (λcdv A outer s H E hr=>(je (JP (jy jB hr rfl jx jw ju (jac (jv 0) jc))) (by exact(je (JP (jy MU hr rfl DV DQ DE (jac (jv 0) (by exact(jac (jv 1) jc))))) (by exact(je (JP (jy XU hr rfl Us Ur Um (jac (jv 2) (by exact(jac jN (by exact(jac (Sb rfl m_MOST_STEPS) jc))))))) (by exact(je (Jy (i:=3) yw.nd rfl (Or.inl rfl) (Bz (jac (jv 1) jc))) (by exact(je (Ri M8 (wc Bh (jG za rfl Z.len R6 (jac (jv 3) jc)) (jv 2) (jI _)) (je (Jy (i:=4) yw.nd rfl (Or.inl rfl) (jy vY hr rfl vt vk vd (jac (jv 0) (by exact(jac (jix (jv 3) (KG jN) (λ_ _=>rfl)) jc))))) (by exact(je (Wn (wc (xp hr.units) (jv 4) (jv 3) (by with_unfolding_all rfl)) (je (Jy (i:=5) yw.nd rfl (Or.inl rfl) (jao hr.units (jv 3) (jv 4))) (by exact(jg (wu (jix (jv 3) (jop wK (jv 5) (jop wJ (jop YU (jv 2) (jv 5)) (jop YU (jG za rfl Z.len R6 (jac (jv 3) jc)) (jv 5)))) (λ_ _=>rfl)))))) zg) (by exact(jg (JP (qj (jv 3) (jv 4))))))))) (by exact(jg (wu (jix (jv 3) (jv 2) (λ_ _=>rfl))))))))))))))) ?_;intro ds h Q q;obtain⟨T,S,n,bb,k,e,hT,h1,h6,hS,hk,q⟩:=q;subst e;refine jh (λσ' h'=>σ'= [some (jL T),some (jt S),some (.int (k:Int)),none,none,none]/\h=h') (λC hC=>⟨_,rfl,T,n,bb,rfl,hT,h1,h6,hC _ _ ⟨rfl,rfl⟩⟩) ?_;rintro _ _ ⟨rfl,rfl⟩;refine jh (λσ' h'=>σ'= [some (jL T),some (jt S),some (.int (k:Int)),none,none,none]/\h=h') (λC hC=>⟨_,rfl,_,rfl,T,S,n,rfl,hT.len,hS,h6,hC _ _ ⟨rfl,rfl⟩⟩) ?_;rintro _ _ ⟨rfl,rfl⟩;refine jh (λσ' h'=>σ'= [some (jL T),some (jt S),some (.int (k:Int)),none,none,none]/\h=h') (λC hC=>⟨_,rfl,(k:Int),0,1000000000,rfl,by omega,by omega,hC _ _ ⟨rfl,rfl⟩⟩) ?_;rintro _ _ ⟨rfl,rfl⟩;have itS: ∀j,IsS n (itF (zd n T) S j):=λj=>hS.it j
 refine jh (λσ' h'=> ∃A,σ'= [some (jL T),some (jt S),some (.int (k:Int)),some (.lst A),none,none]/\h A=none/\h' A=some ((List.range 1).map λj=>jt (itF (zd n T) S j))/\Sub h h') (λC hC=> ?_) ?_
 ·exact⟨_,rfl,(by show 1<=sizeLine;decide),λA eA=>hC _ _ ⟨A,rfl,eA,jd,Sub.newAt (Sub.refl h) eA⟩⟩
 rintro _ h1' ⟨A,rfl,fA,kA,sbA⟩;refine jh (λσ' h'=> ∃a b,σ'= [some (jL T),some (jt S),some (.int (k:Int)),some (.lst A),a,b]/\h' A=some ((List.range (k+1)).map λj=>jt (itF (zd n T) S j))/\Sub h h') (λC hC=> ?_) ?_
 ·refine Yw (λm σ' h'=> ∃L a b,σ'= [some (jL T),some (jt S),some (.int (k:Int)),some (.lst A),a,b]/\h' A=some ((List.range L).map λj=>jt (itF (zd n T) S j))/\Sub h h'/\1<=L/\L<=k+1/\m=k+1-L/\((List.range L).map (itF (zd n T) S)).Nodup) k ⟨1,none,none,rfl,kA,sbA,by decide,by omega,by omega,by simp⟩ ?_;rintro m _ h2 ⟨L,a,b,rfl,kA2,sb2,hL1,hLk,hm,nd⟩;have hL64:L<=64:=by
   have:=LW h6 nd λX hX=>by obtain⟨j,_,rfl⟩:=D1.mp hX;exact itS j
   simpa using this
  refine⟨_,rfl,_,kA2,_,rfl,_,rfl,Mb (λc=> ?_) (λc=> ?_)⟩
  rotate_left
  ·have c': ¬ (((List.range L).map λj=>jt (itF (zd n T) S j)).length:Int)<=(k:Int):=λz=>c (G6 z)
   rw [G0,P4] at c';have eL:L=k+1:=by omega
   subst eL;exact hC _ _ ⟨a,b,rfl,kA2,sb2⟩
  have c':(((List.range L).map λj=>jt (itF (zd n T) S j)).length:Int)<=(k:Int):=M0 c;rw [G0,P4] at c';have hLk2:L<=k:=by omega
  have eqL:zd n T (itF (zd n T) S (L-1))=itF (zd n T) S L:=by
   obtain⟨L',rfl⟩: ∃L',L=L'+1:=⟨L-1,by omega⟩;rfl
  refine jh (λσ' h'=>σ'= [some (jL T),some (jt S),some (.int (k:Int)),some (.lst A),some (jt (itF (zd n T) S L)),b]/\h2=h') (λC2 hC2=> ?_) ?_
  ·refine⟨_,rfl,_,rfl,_,_,kA2,BV hL1,T,_,n,bb,rfl,hT,itS _,h6,hC2 _ _ ⟨?_,rfl⟩⟩;rw [eqL];rfl
  rintro _ _ ⟨rfl,rfl⟩;have kA3:h2 A=some (((List.range L).map (itF (zd n T) S)).map jt):=by rw [kA2,T5];rfl
  refine jh (λσ' h'=>σ'= [some (jL T),some (jt S),some (.int (k:Int)),some (.lst A),some (jt (itF (zd n T) S L)),b]/\h2=h'/\itF (zd n T) S L ∉ (List.range L).map (itF (zd n T) S)) (λC2 hC2=> ?_) ?_
  ·refine⟨_,rfl,_,rfl,Su kA3 ⟨_,rfl,Mb (λc=> ?_) (λc=>hC2 _ _ ⟨rfl,rfl,λz=>c (by rw [G6 z];rfl)⟩)⟩⟩;have hin:itF (zd n T) S L∈(List.range L).map (itF (zd n T) S):=by
    cases z:decide (itF (zd n T) S L∈(List.range L).map (itF (zd n T) S)) with
    |true=>exact M0 z
    |false=>rw [z] at c;exact absurd c (by decide)
   have hjl:=A7.mpr hin;have hat:=J4 hjl;generalize hJ:((List.range L).map (itF (zd n T) S)).idxOf (itF (zd n T) S L)=J at hjl hat;have hJL:J<L:=by simpa using hjl
   have hJe:itF (zd n T) S L=itF (zd n T) S J:=by
    rw [<-hat];simp
   refine jh (λσ' h'=>σ'= [some (jL T),some (jt S),some (.int (k:Int)),some (.lst A),some (jt (itF (zd n T) S L)),some (.int (J:Int))]/\h2=h') (λC3 hC3=> ?_) ?_
   ·refine⟨_,rfl,A,rfl,_,rfl,?_⟩;obtain⟨pd,ps,jj,zz,t1,t2,c1,c2,c3,c4,c5,c6,c7,ej⟩:=Sv (Q:=λd _=>d= .int (J:Int)) kA3 hin (by simp;omega) (by rw [hJ]);have ejj:jj=J:=by injection ej with ej;omega
    subst ejj;exact⟨pd,ps,jj,zz,t1,t2,c1,c2,c3,c4,c5,c6,c7,hC3 _ _ ⟨rfl,rfl⟩⟩
   rintro _ _ ⟨rfl,rfl⟩;have hpos:(0:Int)<(((List.range L).map λj=>jt (itF (zd n T) S j)).length:Int)-(J:Int):=by
    rw [G0,P4];omega
   have hix:(J:Int)+((k:Int)-(J:Int))%((((List.range L).map λj=>jt (itF (zd n T) S j)).length:Int)-(J:Int))=((J+(k-J)%(L-J):Nat):Int):=by
    rw [G0,P4,W7,C8,Int.natCast_sub (by omega),Int.natCast_sub (by omega)]
   have hlt:J+(k-J)%(L-J)<L:=by
    have:=A3 (k-J) (show 0<L-J by omega);omega
   refine⟨_,rfl,_,rfl,_,rfl,_,rfl,_,rfl,_,kA2,_,rfl,hpos,_,jt (itF (zd n T) S (J+(k-J)%(L-J))),kA2,?_,h,sb2,?_⟩
   ·rw [hix];exact PD hlt
   ·rw [So hJe hJL (by omega)];exact q
  rintro _ _ ⟨rfl,rfl,hni⟩;refine⟨_,rfl,A,rfl,_,rfl,_,kA2,?_,k+1-(L+1),_,by omega,Sub.refl _,L+1,_,_,rfl,?_,?_,by omega,by omega,rfl,?_⟩
  ·rw [G0,P4];exact jE (by omega)
  ·rw [jd,F8,T6];rfl
  ·exact(sb2).over fA
  ·rw [F8,T6,A0];exact⟨nd,by simp,λx hx y hy=>by rw [G5.mp (show y∈ [itF (zd n T) S L] from hy)];intro e;exact hni (e ▸ hx)⟩
 rintro _ h3 ⟨a,b,rfl,kA3,sb3⟩;exact⟨_,rfl,_,rfl,_,_,kA3,PD (by omega),h,sb3,q⟩
def Gu:RDn:=λds h Q=> ∃T,∃n e:Nat,ds= [jL T]/\Sq n e T/\1<=n/\n<=6/\Q (jL (ZN n T)) h
theorem Fc (Z:Zs mg)(F:Fun K "turned" "turned" XH f fd)(jA:ji P w K mg base n "want_table" ["thing"] jQ):FnOk P w K mg base CX0 (n+1) f fd ["table"] (LSp K Gu):=by
 obtain⟨zc,jV,jB,ju,jw,jx⟩:=jA;refine F.okJ Ub (λds h Q q=>by obtain⟨T,k,b,e,hT,h1,h6,q⟩:=q;subst e;rfl) _ (λcdv A outer s H E hr=>(je (JP (jy jB hr rfl jx jw ju (jac (jv 0) jc))) (by exact(jg (wu (wC wg rfl Z.tuple (by decide +kernel) (jac (jlc (i:=1) (js:= [1]) rfl (jk (by rfl)) (ZM rfl Z.range (jac (jG za rfl Z.len R6 (jac (jv 0) jc)) jc)) (by decide) Ub.nd rfl (by first|exact Or.inl rfl|exact Or.inr rfl) (λX' hX=>jP) (λX' hX=>by obtain⟨C,s₀,H₀,ex,rfl⟩:=hX;exact(wC wg rfl Z.tuple (by decide +kernel) (jac (jlc (i:=2) (js:= [2]) rfl (jk (by rfl)) (zZ (jv 0)) (by decide) Ub.nd rfl (by first|exact Or.inl rfl|exact Or.inr rfl) (λX' hX=>jP) (λX' hX=>by obtain⟨C,s₀,H₀,ex,rfl⟩:=hX;exact(jix (jv 2) (jv 1) (λ_ _=>rfl)))) jc)))) jc))))))) ?_;intro ds h Q q;obtain⟨T,k,b,e,hT,h1,h6,q⟩:=q;subst e;refine jh (λσ' h'=>σ'= [some (jL T),none,none]/\h=h') (λC hC=>⟨_,rfl,T,k,b,rfl,hT,h1,h6,hC _ _ ⟨rfl,rfl⟩⟩) ?_;rintro _ _ ⟨rfl,rfl⟩;refine Se (List.range k) (λj=> .int (j:Int)) (λj=> .tup (T.map λr=> .int (r.getD j 0))) (by rw [P4];omega) rfl (λR r=>⟨_,rfl,(k:Int),by rw [G0,hT.len],by omega,by omega,r⟩) (λj hj Q' q'=> ?_) ⟨h,Sub.refl h,?_⟩
 ·refine Se T Np (λr=> .int (r.getD j 0)) (by rw [hT.len];omega) rfl (λR r=>⟨_,rfl,r⟩) (λr hr Q'' q''=>⟨_,rfl,_,rfl,_,Wr (hT.row r hr) (D2.mp hj),q''⟩) q'
 ·have e1: ∀j,T.map (λr=>D.int (r.getD j 0))=(List.range k).map λi=>D.int (ent T i j):=λj=>by
   conv=>lhs;rw [wQ T [],hT.len]
   rw [T5];rfl
  have e2:((List.range k).map λj=>D.tup (T.map λr=> .int (r.getD j 0)))=(List.range k).map λj=>D.tup ((List.range k).map λi=>D.int (ent T i j)):=S9 λj _=>by rw [e1]
  rw [e2,BF];exact q
def UP:RDn:=λds h Q=> ∃T,∃n e:Nat,∃o,ds= [jL T,jt o]/\Sq n e T/\Ordr n o/\1<=n/\n<=6/\Q (jL (Ve n o T)) h
theorem MJ (Z:Zs mg)(F:Fun K "renamed" "renamed" VF f fd)(jA:ji P w K mg base n "want_table" ["thing"] jQ)(GD:ji P w K mg base n "want_order" ["table","thing"] ZY):FnOk P w K mg base CX0 (n+1) f fd ["table","order"] (LSp K UP):=by
 obtain⟨zc,jV,jB,ju,jw,jx⟩:=jA;obtain⟨FJ,Fw,GE,XW,Qc,Qf⟩:=GD;refine F.okJ yR (λds h Q q=>by obtain⟨T,k,b,o,e,hT,ho,h1,h6,q⟩:=q;subst e;rfl) _ (λcdv A outer s H E hr=>(je (JP (jy jB hr rfl jx jw ju (jac (jv 0) jc))) (by exact(je (JP (jy GE hr rfl Qf Qc XW (jac (jv 0) (by exact(jac (jv 1) jc))))) (by exact(je (Jy (i:=2) yR.nd rfl (by first|exact Or.inr rfl|exact Or.inl rfl) (jlc (i:=3) (js:= [3]) rfl (jk (by rfl)) (ZM rfl Z.range (jac (jG za rfl Z.len R6 (jac (jv 0) jc)) jc)) (by decide) yR.nd rfl (by first|exact Or.inl rfl|exact Or.inr rfl) (λX' hX=>jP) (λX' hX=>by obtain⟨C,s₀,H₀,ex,rfl⟩:=hX;exact(jaj (jv 1) (jv 3))))) (by exact(jg (wu (wC wg rfl Z.tuple (by decide +kernel) (jac (jlc (i:=4) (js:= [4]) rfl (jk (by rfl)) (zZ (jv 2)) (by decide) yR.nd rfl (by first|exact Or.inl rfl|exact Or.inr rfl) (λX' hX=>jP) (λX' hX=>by obtain⟨C,s₀,H₀,ex,rfl⟩:=hX;exact(wC wg rfl Z.tuple (by decide +kernel) (jac (jlc (i:=5) (js:= [5]) rfl (jk (by rfl)) (zZ (jv 2)) (by decide) yR.nd rfl (by first|exact Or.inl rfl|exact Or.inr rfl) (λX' hX=>jP) (λX' hX=>by obtain⟨C,s₀,H₀,ex,rfl⟩:=hX;exact(jix (jix (jv 0) (jv 4) (λ_ _=>rfl)) (jv 5) (λ_ _=>rfl)))) jc)))) jc))))))))))) ?_;intro ds h Q q;obtain⟨T,k,b,o,e,hT,ho,h1,h6,q⟩:=q;subst e;refine jh (λσ' h'=>σ'= [some (jL T),some (jt o),none,none,none,none]/\h=h') (λC hC=>⟨_,rfl,T,k,b,rfl,hT,h1,h6,hC _ _ ⟨rfl,rfl⟩⟩) ?_;rintro _ _ ⟨rfl,rfl⟩;refine jh (λσ' h'=>σ'= [some (jL T),some (jt o),none,none,none,none]/\h=h') (λC hC=>⟨_,rfl,_,rfl,T,o,k,rfl,hT.len,ho,h6,hC _ _ ⟨rfl,rfl⟩⟩) ?_;rintro _ _ ⟨rfl,rfl⟩;have lt: ∀i,i∈List.range k->o.idxOf i<k:=λi hi=>ho.ord.lt (D2.mp hi)
 refine jh (λσ' h'=> ∃p,σ'= [some (jL T),some (jt o),some (.lst p),none,none,none]/\h p=none/\h'=wq h p ((List.range k).map λi=> .int ((o.idxOf i:Nat):Int))) (λC hC=> ?_) ?_
 ·refine lcA (List.range k) (λj=> .int (j:Int)) (λi=> .int ((o.idxOf i:Nat):Int)) (by rw [P4];omega) rfl (λR r=>⟨_,rfl,(k:Int),by rw [G0,hT.len],by omega,by omega,r⟩) (λi hi Q' q'=> ?_) (λp hp=>hC _ _ ⟨p,rfl,hp,rfl⟩);refine⟨_,rfl,zT o,Xo o,_,rfl,(i:Int),rfl,Lw (ho.mem_iff.mpr hi),?_⟩;rw [Lv];exact q'
 rintro _ _ ⟨p,rfl,hp,rfl⟩;refine Se (j:=λh=>h p) (List.range k) (λi=> .int ((o.idxOf i:Nat):Int)) (λi=> .tup ((List.range k).map λj=> .int (ent T (o.idxOf i) (o.idxOf j)))) (by rw [P4];omega) jd (λR r=>⟨_,rfl,r⟩) (λi hi Q' q'=> ?_) ⟨h,Sub.newAt (Sub.refl h) hp,?_⟩
 ·refine Se (j:=λh=>h p) (List.range k) (λi=> .int ((o.idxOf i:Nat):Int)) (λj=> .int (ent T (o.idxOf i) (o.idxOf j))) (by rw [P4];omega) jd (λR r=>⟨_,rfl,r⟩) (λj hj Q'' q''=> ?_) q';exact⟨_,rfl,_,rfl,_,Wq hT (lt i hi),_,rfl,_,Wr (hT.row _ (Sq.getRow hT (lt i hi))) (lt j hj),q''⟩
 ·rw [BF];exact q
def vE (d:D)(n k:Int):Bool:=match d with
 | .tup es=>decide ((es.length:Int)=n)&&es.all (λx=>jU x 0 (k-1))
 |_=>false
def WY:RDn:=λds h Q=> ∃d,∃n k:Int,ds= [d,.int n,.int k]/\okD d=true/\Q (.bl (vE d n k)) h
theorem Gv (Z:Zs mg)(F:Fun K "are_rests" "are_rests" JZ f fd)(zX:ji P w K mg base n "is_within" ["thing","least","most"] wA):FnOk P w K mg base CX0 (n+1) f fd ["thing","size","d"] (LSp K WY):=by
 obtain⟨vg,yE,zY,zF,zG,zH⟩:=zX;refine F.okJ Ye (λds h Q q=>by obtain⟨d,n,k,e,ok,q⟩:=q;subst e;rfl) _ (λcdv A outer s H E hr=>(je (Wn (jpt (Rf (yK (wP (Px (T:= "tuple") (by decide) rfl Z.isinstance rfl Z.tuple (by decide +kernel) (jv 0)))) (Mi (wc oq_ne (jG za rfl Z.len R6 (jac (jv 0) jc)) (jv 1) (jI _))))) (jg (wu jbl)) zg) (by exact(jg (wu (jG (YV rfl) rfl Z.all L5 (jac (jlc (i:=3) (js:= [3]) rfl (jk (by rfl)) (zZ (jv 0)) (by decide) Ye.nd rfl (by first|exact Or.inl rfl|exact Or.inr rfl) (λX' hX=>jP) (λX' hX=>by obtain⟨C,s₀,H₀,ex,rfl⟩:=hX;exact(jy zY hr rfl zH zG zF (jac (jv 3) (by exact(jac jN (by exact(jac (jop YU (jv 2) jN) jc)))))))) jc))))))) ?_;intro ds h Q q;obtain⟨d,n,k,e,ok,q⟩:=q;subst e;obtain⟨nm,hn⟩:=yY ok;cases d with
 |tup es=>
  obtain⟨hl,ht⟩:=WE ok;refine jh (λσ' h'=>(es.length:Int)=n/\σ'= [some (.tup es),some (.int n),some (.int k),none]/\h=h') (λC hC=>⟨_,rfl,_,rfl,_,rfl,wY ⟨_,rfl,_,rfl,?_⟩⟩) ?_
  ·show ∃b,D.bl (!decide ((es.length:Int)=n))= .bl b/\_
   by_cases z:(es.length:Int)=n
   ·rw [G6 z];exact⟨_,rfl,wY (hC _ _ ⟨z,rfl,rfl⟩)⟩
   ·have e:vE (.tup es) n k=false:=by show (decide _&&_)=false;rw [D7 z];rfl
    rw [e] at q;rw [D7 z];exact⟨_,rfl,JJ ⟨h,Sub.refl h,q⟩⟩
  rintro _ _ ⟨z,rfl,rfl⟩;have e:vE (.tup es) n k=es.all (λx=>jU x 0 (k-1)):=by show (decide _&&_)=_;rw [G6 z];rfl
  rw [e] at q;exact qk es (λx=>x) (λx=>jU x 0 (k-1)) hl (by rw [List.map_id']) (λR r=>⟨_,rfl,r⟩) (λx hx Q' q'=>⟨_,rfl,_,rfl,x,0,k-1,rfl,ht x hx,q'⟩) ⟨h,Sub.refl h,q⟩
 |_=>cases hn<;>exact jh (λ_ _=>False) (λC hC=>⟨_,rfl,_,rfl,_,rfl,JJ (JJ ⟨h,Sub.refl h,q⟩)⟩) (λ_ _ z=>z.elim)
theorem OA {b:D->SD->SD->Prop}{js:List Nat}{ti ti':TID}{tt tt':TTD}{i':Nat}{te:TED}{E:EndsD}{σ:SD}{h:HD}(x:EQ b js ti tt i' ti' tt' te σ h λv h1=>EW [v] h1 λd h2=>E.rt d h2):Bd (dCB EW (yI (EQ b js ti tt i' ti' tt' te) Xc)) E σ h:=x
theorem RM {α:Type}{f:Nat->List α}: ∀ {xs:List Nat},(∀x∈xs,(f x).length<=6)->(xs.flatMap f).length<=6*xs.length
 | [],_=>S8 _
 |x::xs,h=>by
  have a:=h x D9;have b:=RM (xs:=xs) λy hy=>h y (R4 _ hy)
  rw [Q0,G9,P9];omega
def wL (d:D)(j:Nat):Int:=match d with
 | .tup es=>(match es.getD j .non with| .int x=>x|_=>0)
 |_=>0
def OB (T:List (List Int))(n:Nat)(x:D)(k:Int):Bool:=(List.range n).all λp=>(Pi T n p).all λj=>decide (wL x j=(wL x p+1)%k)
/-- turns of a table,whatever both are -/
def Gw (T:List (List Int))(n:Nat)(d x:D):Bool:=match d with
 | .int k=>jU (.int k) 1 6&&(vE x n k&&OB T n x k)
 |_=>false
theorem OC {es:List D}{n k:Int}(h:vE (.tup es) n k=true):(es.length:Int)=n/\ ∀j:Nat,j<es.length-> ∃r:Int,atI es (j:Int)=some (.int r)/\wL (.tup es) j=r/\0<=r/\r<=k-1:=by
 have h':(decide ((es.length:Int)=n)&&es.all (λx=>jU x 0 (k-1)))=true:=h;rw [S5,N2,R7] at h';refine⟨h'.1,λj hj=> ?_⟩;have w:=h'.2 es[j] (R8 hj);cases e:es[j] with
 |int r=>
  rw [e] at w;have w':(decide ((0:Int)<=r)&&decide (r<=k-1))=true:=w;rw [S5,N2,N2] at w';refine⟨r,wW (by rw [G1 hj,e]),?_,w'.1,w'.2⟩;unfold wL;dsimp only;rw [G3,G1 hj,e];rfl
 |_=>rw [e] at w;cases w
theorem Fd {α β:Type}{f g:α->List β}: ∀ {xs:List α},(∀x∈xs,f x=g x)->xs.flatMap f=xs.flatMap g
 | [],_=>rfl
 |x::xs,h=>by rw [Q0,Q0,h x D9,Fd λy hy=>h y (R4 _ hy)]
def WZ:RDn:=λds h Q=> ∃T d x,∃n e:Nat,ds= [jL T,d,x]/\Sq n e T/\1<=n/\n<=6/\okD d=true/\okD x=true/\Q (.bl (Gw T n d x)) h
theorem Gx (Z:Zs mg)(F:Fun K "are_turns" "are_turns" Za f fd)(Dm:ji P w K mg base n "are_rests" ["thing","size","d"] WY)(zX:ji P w K mg base n "is_within" ["thing","least","most"] wA)(Dp:ji P w K mg base n "heads" ["table","place"] XN)(Jb: ∃tk,mg "MOST_TURNS" =some (.int 6 tk)):FnOk P w K mg base CX0 (n+1) f fd ["table","d","rests"] (LSp K WZ):=by
 obtain⟨OX,FM,Du,GI,GX,Pd⟩:=Dm;obtain⟨vg,yE,zY,zF,zG,zH⟩:=zX;obtain⟨Ft,Nf,Dw,XV,Qb,Qe⟩:=Dp;obtain⟨tk_MOST_TURNS,m_MOST_TURNS⟩:=Jb;refine F.okJ Yf (λds h Q q=>by obtain⟨T,d,x,n,b,e,hT,h1,h6,okd,okx,q⟩:=q;subst e;rfl) _ (λcdv A outer s H E hr=>(je (Wn (jpt (Rf (yK (wP (jy zY hr rfl zH zG zF (jac (jv 1) (by exact(jac jN (by exact(jac (Sb rfl m_MOST_TURNS) jc)))))))) (Mi (yK (wP (jy Du hr rfl Pd GX GI (jac (jv 2) (by exact(jac (jG za rfl Z.len R6 (jac (jv 0) jc)) (by exact(jac (jv 1) jc))))))))))) (jg (wu jbl)) zg) (by exact(jg (wu (jG (YV rfl) rfl Z.all L5 (jac (jai (i:=3) (i':=4) (js:= [3,4]) rfl (jk (by rfl)) (ZM rfl Z.range (jac (jG za rfl Z.len R6 (jac (jv 0) jc)) jc)) (by decide) (by decide) (by decide) Yf.nd rfl rfl (by first|exact Or.inl rfl|exact Or.inr rfl) (by first|exact Or.inl rfl|exact Or.inr rfl) (λX' hX=>jP) (λX' hX=>by obtain⟨C,s₀,H₀,ex,rfl⟩:=hX;exact(zZ (jy Dw hr rfl Qe Qb XV (jac (jv 0) (by exact(jac (jv 3) jc)))))) (λX' hX=>jP) (λX' hX=>by obtain⟨C,s₀,H₀,ex,rfl⟩:=hX;exact(Bx oq_eq (jix (jv 2) (jv 4) (λ_ _=>rfl)) (jop wJ (jop wK (jix (jv 2) (jv 3) (λ_ _=>rfl)) jN) (jv 1)) (jI _)))) jc))))))) ?_;intro ds h Q q;obtain⟨T,d,x,n,b,e,hT,h1,h6,okd,okx,q⟩:=q;subst e;have hlen:(((T.map Np).length:Nat):Int)=(n:Int):=by rw [G0,hT.len]
 refine jh (λσ' h'=> ∃k es,d= .int k/\x= .tup es/\jU (.int k) 1 6=true/\vE (.tup es) n k=true/\σ'= [some (jL T),some (.int k),some (.tup es),none,none]/\h=h') (λC hC=>⟨_,rfl,d,1,6,rfl,okd,_,rfl,?_⟩) ?_
 ·cases hw:jU d 1 6 with
  |false=>
   have e:Gw T n d x=false:=by
    cases d with
    |int k=>show (jU (.int k) 1 6&&_)=false;rw [hw];rfl
    |_=>rfl
   rw [e] at q;exact JJ (JJ ⟨h,Sub.refl h,q⟩)
  |true=>
   cases d with
   |int k=>
    refine wY ⟨_,rfl,_,rfl,_,rfl,x,_,k,rfl,okx,_,rfl,?_⟩;rw [hlen];cases hr:vE x n k with
    |false=>
     have e:Gw T n (.int k) x=false:=by show (_&&(vE x n k&&_))=false;rw [hr,G1k,G1n]
     rw [e] at q;exact JJ ⟨h,Sub.refl h,q⟩
    |true=>
     cases x with
     |tup es=>exact wY (hC _ _ ⟨k,es,rfl,rfl,hw,hr,rfl,rfl⟩)
     |_=>cases hr
   |_=>cases hw
 rintro _ _ ⟨k,es,rfl,rfl,hw,hr,rfl,rfl⟩;have e:Gw T n (.int k) (.tup es)=OB T n (.tup es) k:=by show (_&&(vE _ n k&&_))=_;rw [hw,hr];rfl
 rw [e] at q;obtain⟨el,at_⟩:=OC hr;have kp:0<k:=by
  have w':(decide ((1:Int)<=k)&&decide (k<=6))=true:=hw;rw [S5,N2] at w';omega
 refine OA (AG (List.range n) (λ(i:Nat)=> .int (i:Int)) (λp=>Pi T n p) (λ(j:Nat)=> .int (j:Int)) (λ_ _=>true) (λp j=> .bl (decide (wL (.tup es) j=(wL (.tup es) p+1)%k))) ?_ (λh' _=>rfl) (λR r=>⟨_,rfl,(n:Int),by rw [G0,hT.len],by omega,by omega,r⟩) (λp hp h' s R r=>⟨_,rfl,_,rfl,T,n,b,p,rfl,hT,h6,D2.mp hp,λF eF=>r (λh=>h F) _ (Sub.newAt (Sub.refl _) eF) λh3 s3=>s3 _ _ jd⟩) (λp hp j hj h' s Q' q'=>q') (λp hp j hj _ h' s Q' q'=> ?_) λa h' s ha=> ?_)
 ·exact R1 (RM λp _=>by rw [G0];exact R1 (C5 _ _) (R1 (Sz p) h6)) (D5 (jE (by rw [P4];omega)))
 ·have hp:=D2.mp hp;have hj:=KO hj;obtain⟨r,a1,a2,_⟩:=at_ j (by omega);obtain⟨r',b1,b2,_⟩:=at_ p (by omega);rw [a2,b2] at q';exact⟨_,rfl,_,rfl,_,a1,_,rfl,_,rfl,_,b1,_,rfl,kp,q'⟩
 ·refine⟨a,(List.range n).flatMap λp=>(Pi T n p).map λj=>decide (wL (.tup es) j=(wL (.tup es) p+1)%k),rfl,?_,?_⟩
  ·rw [jd,List.map_flatMap];refine congrArg some (Fd λp _=> ?_);rw [G1u.mpr (λ_ _=>rfl),T5];rfl
  ·rw [wf ha,List.all_flatMap];refine⟨h,s,?_⟩;rw [show ((List.range n).all λp=>((Pi T n p).map λj=>decide (wL (.tup es) j=(wL (.tup es) p+1)%k)).all id)=OB T n (.tup es) k from congrArg (List.all (List.range n)) (funext λp=>by rw [A5];rfl)];exact q
theorem ku {b:D->SD->SD->Prop}{js:List Nat}{ti:TID}{tt:TTD}{te:TED}{E:EndsD}{σ:SD}{h:HD}(x:JL b js ti tt te σ h λv h1=>E.rt v h1):Bd (JL b js ti tt te) E σ h:=x
def yh:RDn:=λds h Q=> ∃T,∃n e:Nat,ds= [jL T]/\Sq n e T/\1<=n/\n<=6/\(WT T n).length=1/\ ∀ (st:List Nat) (A:Addr) (h':HD),st.length=n->(∀j,j<n->RP n T (st.getD j 0) 0 j)->st.getD 0 0=0->h' A=some (st.map λ(k:Nat)=>D.int (k:Int))->Sub h h'->Q (.lst A) h'
theorem Zf (Z:Zs mg)(F:Fun K "steps_from_start" "steps_from_start" wm f fd)(vW:ji P w K mg base n "step_after" ["table","some"] yZ):FnOk P w K mg base CX0 (n+1) f fd ["table"] (LSp K yh):=by
 obtain⟨Uq,VW,vY,vd,vk,vt⟩:=vW;refine F.okJ jC (λds h Q q=>by obtain⟨T,n,b,e,hT,n1,n6,one,q⟩:=q;subst e;rfl) _ (λcdv A outer s H E hr=>(je (Jy (i:=1) jC.nd rfl (by first|exact Or.inr rfl|exact Or.inl rfl) kq) (by exact(je (Jy (i:=2) jC.nd rfl (Or.inl rfl) (FG (jac jN jc))) (by exact(je (Jy (i:=3) jC.nd rfl (Or.inl rfl) jN) (by exact(je (Ri M8 (wc ES (jG SU rfl Z.len R6 (jac (jv 1) jc)) (jG za rfl Z.len R6 (jac (jv 0) jc)) (jI _)) (je (Jy (i:=2) jC.nd rfl (Or.inl rfl) (jy vY hr rfl vt vk vd (jac (jv 0) (by exact(jac (jv 2) jc))))) (by exact(je (Sl (i:=3) jC.nd rfl (Or.inl rfl) jN) (by exact(jg (Mk M8 rfl (zZ (jv 2)) (ya (i:=4) jC.nd rfl (Or.inl rfl)) (jg (JP (jav hr (jv 1) (jv 4) (jv 3))))))))))) (by exact(jg (wu (jlc (i:=4) (js:= [4]) rfl (jk (by rfl)) (ZM rfl Z.range (jac (jG za rfl Z.len R6 (jac (jv 0) jc)) jc)) (by decide) jC.nd rfl (by first|exact Or.inl rfl|exact Or.inr rfl) (λX' hX=>jP) (λX' hX=>by obtain⟨C,s₀,H₀,ex,rfl⟩:=hX;exact(jat hr (jv 1) (jv 4))))))))))))))) ?_;intro ds h Q q;obtain⟨T,n,b,e,hT,n1,n6,one,q⟩:=q;subst e;have h8:n<=8:=by omega
 have hlen:(((T.map Np).length:Nat):Int)=(n:Int):=by rw [G0,hT.len]
 refine jh (λσ' h'=> ∃a,σ'= [some (jL T),some (.dct a),none,none,none]/\h.dc a=none/\h'.dc a=some (.ik [(0,.int 0)])/\Sub h h') (λC hC=>λa ea=>hC _ _ ⟨a,rfl,ea,ZI,.newC ea⟩) ?_;rintro _ h1 ⟨a,rfl,fa,ka,sb⟩;refine jh (λσ' h'=>σ'= [some (jL T),some (.dct a),some (jt [0]),none,none]/\h1=h') (λC hC=>⟨(by show 1<=sizeLine;decide),hC _ _ ⟨rfl,rfl⟩⟩) ?_;rintro _ _ ⟨rfl,rfl⟩;refine jh (λσ' h'=>σ'= [some (jL T),some (.dct a),some (jt [0]),some (.int 0),none]/\h1=h') (λC hC=>hC _ _ ⟨rfl,rfl⟩) ?_;rintro _ _ ⟨rfl,rfl⟩;refine jh (λσ' h'=> ∃kv s x2 x3 x4,σ'= [some (jL T),some (.dct a),x2,x3,x4]/\h'.dc a=some (.ik kv)/\FI n T s s kv/\n<=kv.length/\Sub h h') (λC hC=> ?_) ?_
 ·refine Yw (λm σ' h'=> ∃ (kv:List (Int×D)) (s:Nat) (x4:Option D),σ'= [some (jL T),some (.dct a),some (jt (itF (zd n T) [0] s)),some (.int (s:Int)),x4]/\m=n-kv.length/\h'.dc a=some (.ik kv)/\FI n T s s kv/\Sub h h') (n-1) ⟨_,0,none,rfl,rfl,ka,.first n1,sb⟩ ?_;clear ka sb;rintro m _ h2 ⟨kv,s,x4,rfl,rfl,ka,g,sb⟩;refine⟨_,rfl,a,kv,rfl,ka,_,rfl,_,rfl,?_⟩;show if decide (((kv.length:Nat):Int)<(((T.map Np).length:Nat):Int))=true then _ else _
  rw [hlen];have gl:=g.len
  by_cases full:kv.length<n
  ·rw [G6 (by omega)];refine JJ ?_;have isS:IsS n (itF (zd n T) [0] s):=(CM (show 0<n by omega)).it s;refine jh (λσ' h'=>σ'= [some (jL T),some (.dct a),some (jt (itF (zd n T) [0] (s+1))),some (.int (s:Int)),x4]/\h2=h') (λC hC=>⟨_,rfl,_,rfl,T,_,n,b,rfl,hT,isS,n6,hC _ _ ⟨rfl,rfl⟩⟩) ?_;rintro _ _ ⟨rfl,rfl⟩;refine jh (λσ' h'=>σ'= [some (jL T),some (.dct a),some (jt (itF (zd n T) [0] (s+1))),some (.int ((s+1:Nat):Int)),x4]/\h2=h') (λC hC=>⟨_,rfl,1,rfl,hC _ _ ⟨rfl,rfl⟩⟩) ?_;rintro _ _ ⟨rfl,rfl⟩;have mem:=RH hT h8 (show 0<n by omega) (s+1);generalize hSe:itF (zd n T) [0] (s+1)=S at mem;refine Xk (j:=λ_=>some (S.map λ(k:Nat)=>D.int (k:Int))) (S.map λ(k:Nat)=>D.int (k:Int)) (λi σ' h'=> ∃ (kv':List (Int×D)) (x4:Option D),σ'= [some (jL T),some (.dct a),some (jt S),some (.int ((s+1:Nat):Int)),x4]/\h'.dc a=some (.ik kv')/\FI n T s (s+1) kv'/\(∀y∈kv.map (·.1),y∈kv'.map (·.1))/\(∀j∈S.take i,(j:Int)∈kv'.map (·.1))/\Sub h h') (λR r=>⟨_,rfl,r⟩) (λ_ _ _ _=>rfl) ⟨kv,x4,rfl,ka,⟨g.nd,λp hp=>by
    obtain⟨j,v,e1,hj,hv,r⟩:=g.ok p hp;exact⟨j,v,e1,hj,by omega,r⟩,g.all,g.zero⟩,λy hy=>hy,(λj hj=>by rw [G0D] at hj;cases hj),sb⟩ ?_ ?_
   ·rintro _ h3 ⟨kv',x4',rfl,ka',g',old,new,sb'⟩;rw [G0,U8] at new;obtain⟨v,hv,rv,vn⟩:=FI.grow hT h8 n1 one g full;have big:kv.length<kv'.length:=by
     have:=ye (xs:=(v:Int)::kv.map (·.1)) (ys:=kv'.map (·.1)) (L6.mpr ⟨vn,g.nd⟩) λy hy=>by
      rcases R0.mp hy with z|z
      ·rw [z];exact new v ((mem v).mpr ⟨hv,rv⟩)
      ·exact old y z
     rw [P9,G0,G0] at this;omega
    refine⟨n-kv'.length,h3,by omega,Sub.refl _,kv',s+1,x4',?_,rfl,ka',⟨g'.nd,g'.ok,λj w hj hw r=> ?_,g'.zero⟩,sb'⟩
    ·rw [hSe]
    ·rcases H0 s w with z|z
     ·rw [show w=s+1 by omega] at r;exact new j ((mem j).mpr ⟨hj,r⟩)
     ·exact g'.all j w hj z r
   ·rintro i d _ h3 hd ⟨kv',x4',rfl,ka',g',old,new,sb'⟩;rw [P3] at hd;obtain⟨j,hj,rfl⟩:=F5.mp hd;have il:i<(S.map λ(k:Nat)=>D.int (k:Int)).length:=by rw [G0];exact(G7.mp hj).1
    obtain⟨jn,rj⟩:=(mem j).mp (G8 hj);have tk:S.take (i+1)=S.take i++ [j]:=by rw [N6,hj];rfl
    refine⟨_,rfl,a,kv',rfl,ka',_,rfl,_,rfl,(j:Int),kv',rfl,ka',by have:=g'.len;omega,λd hd=> ?_,λhn=> ?_⟩
    ·refine⟨_,Sub.refl _,by omega,kv',_,rfl,ka',g',old,λx hx=> ?_,sb'⟩;rw [tk] at hx;rcases P6.mp hx with z|z
     ·exact new x z
     ·rw [G5.mp z];exact D1.mpr ⟨_,RF hd,rfl⟩
    ·refine⟨_,Sub.refl _,by omega,_,_,rfl,ZI,g'.put hn jn (P1 _) rj,λy hy=>(YE hn y).mpr (.inl (old y hy)),λx hx=> ?_,sb'.overC fa⟩;rw [tk] at hx;rcases P6.mp hx with z|z
     ·exact(YE hn _).mpr (.inl (new x z))
     ·rw [G5.mp z];exact(YE hn _).mpr (.inr rfl)
  ·rw [D7 (by omega)];exact wY (hC _ _ ⟨kv,s,_,_,_,rfl,ka,g,by omega,sb⟩)
 rintro _ h2 ⟨kv,s,x2,x3,x4,rfl,ka',g,fl,sb⟩;have get:=λj hj=>g.get (j:=j) (g.full fl hj)
 refine ku (lcA (List.range n) (λ(i:Nat)=> .int (i:Int)) (λ(i:Nat)=>(Jz kv (i:Int)).getD .non) (by rw [P4];omega) rfl (λR r=>⟨_,rfl,(n:Int),by rw [hlen],by omega,by omega,r⟩) (λi hi Q' q'=> ?_) λA eA=> ?_)
 ·obtain⟨v,hv,_⟩:=get i (D2.mp hi);rw [hv] at q';exact⟨_,rfl,_,rfl,a,_,kv,_,rfl,rfl,ka',hv,q'⟩
 ·let st:List Nat:=(List.range n).map λ(j:Nat)=>match Jz kv (j:Int) with
   |some (.int v)=>v.toNat
   |_=>0
  have at_: ∀j,j<n-> ∃v:Nat,Jz kv (j:Int)=some (.int (v:Int))/\st.getD j 0=v/\RP n T v 0 j:=λj hj=>by
   obtain⟨v,hv,_,r⟩:=get j hj;refine⟨v,hv,?_,r⟩;show ((List.range n).map _).getD j 0=v;rw [G3,P3,N4 hj];show (match Jz kv (j:Int) with|some (.int v)=>v.toNat|_=>0)=v;rw [hv];rfl
  refine⟨_,Sub.refl _,q st A _ (by show ((List.range n).map _).length=n;rw [G0,P4]) (λj hj=>by obtain⟨v,_,e1,r⟩:=at_ j hj;rw [e1];exact r) ?_ ?_ (sb.newAt eA)⟩
  ·obtain⟨v,hv,e1,_⟩:=at_ 0 (by omega);have:=g.zero;rw [show (0:Int)=((0:Nat):Int) from rfl,hv] at this;injection this with this
   injection this with this
   rw [e1];omega
  ·rw [jd];show _=some (((List.range n).map _).map _);rw [T5];refine congrArg some (S9 λj hj=> ?_);obtain⟨v,hv,e1,_⟩:=at_ j (D2.mp hj);show (Jz kv (j:Int)).getD .non=D.int (((match Jz kv (j:Int) with|some (.int v)=>v.toNat|_=>0:Nat)):Int);rw [hv];rfl
/-- a number of turns and a rest for each place -/
def Fe (T:List (List Int))(n:Nat)(d:D):Bool:=match d with
 | .tup [a,x]=>Gw T n a x
 |_=>false
theorem kC {es:List D}(h:((es.length:Nat):Int)=2): ∃a x,es= [a,x]:=by
 cases es with
 |nil=>cases h
 |cons a r=>cases r with
  |nil=>cases h
  |cons x r=>cases r with
   |nil=>exact⟨a,x,rfl⟩
   |cons y r=>simp only [P9] at h;omega
theorem OD {es:List D}(h: ¬ ((es.length:Nat):Int)=2):Fe T n (.tup es)=false:=by
 unfold Fe;split
 ·rename_i e;injection e with e;rw [e] at h;exact absurd rfl h
 ·rfl
def ZZ:RDn:=λds h Q=> ∃T d,∃n e:Nat,ds= [jL T,d]/\Sq n e T/\1<=n/\n<=6/\okD d=true/\Q (.bl (Fe T n d)) h
theorem XR (Z:Zs mg)(F:Fun K "turns_hold" "turns_hold" vS f fd)(jA:ji P w K mg base n "want_table" ["thing"] jQ)(Do:ji P w K mg base n "are_turns" ["table","d","rests"] WZ):FnOk P w K mg base CX0 (n+1) f fd ["table","thing"] (LSp K ZZ):=by
 obtain⟨zc,jV,jB,ju,jw,jx⟩:=jA;obtain⟨OY,FN,Dv,GJ,GY,Pe⟩:=Do;refine F.okJ XI (λds h Q q=>by obtain⟨T,d,n,b,e,hT,h1,h6,ok,q⟩:=q;subst e;rfl) _ (λcdv A outer s H E hr=>(je (JP (jy jB hr rfl jx jw ju (jac (jv 0) jc))) (by exact(je (Wn (jpt (Rf (yK (wP (Px (T:= "tuple") (by decide) rfl Z.isinstance rfl Z.tuple (by decide +kernel) (jv 1)))) (Mi (wc oq_ne (jG za rfl Z.len R6 (jac (jv 1) jc)) jN (jI _))))) (jg (wu jbl)) zg) (by exact(jg (wu (jy Dv hr rfl Pe GY GJ (jac (jv 0) (by exact(jac (jix (jv 1) jN (λ_ _=>rfl)) (by exact(jac (jix (jv 1) jN (λ_ _=>rfl)) jc))))))))))))) ?_;intro ds h Q q;obtain⟨T,d,n,b,e,hT,h1,h6,ok,q⟩:=q;subst e;refine jh (λσ' h'=>σ'= [some (jL T),some d]/\h=h') (λC hC=>⟨_,rfl,T,n,b,rfl,hT,h1,h6,hC _ _ ⟨rfl,rfl⟩⟩) ?_;rintro _ _ ⟨rfl,rfl⟩;obtain⟨nm,hn⟩:=yY ok;cases d with
 |tup es=>
  cases hn;obtain⟨hl,ht⟩:=WE ok;refine jh (λσ' h'=>(∃a x,es= [a,x])/\σ'= [some (jL T),some (.tup es)]/\h=h') (λC hC=>⟨_,rfl,"tuple",rfl,_,rfl,wY ⟨_,rfl,_,rfl,?_⟩⟩) ?_
  ·show if (!decide (((es.length:Nat):Int)=2))=true then _ else _
   by_cases z:((es.length:Nat):Int)=2
   ·rw [G6 z];exact wY (hC _ _ ⟨kC z,rfl,rfl⟩)
   ·rw [D7 z];rw [OD z] at q;exact JJ ⟨h,Sub.refl h,q⟩
  rintro _ _ ⟨⟨a,x,rfl⟩,rfl,rfl⟩;exact⟨_,rfl,_,rfl,_,rfl,_,rfl,_,rfl,T,a,x,n,b,rfl,hT,h1,h6,ht a (by simp),ht x (by simp),_,Sub.refl h,q⟩
 |_=>cases hn<;>exact jh (λ_ _=>False) (λC hC=>⟨_,rfl,_,rfl,_,rfl,JJ ⟨h,Sub.refl h,q⟩⟩) (λ_ _ z=>z.elim)
/-- turns: a rest for each place,that go on by one along arrows -/
structure TurnsOf (T:List (List Int))(n d:Nat)(rs:List Nat):Prop where
 len:rs.length=n
 lt: ∀j,j<n->rs.getD j 0<d
 go: ∀i j,i<n->j<n->ent T i j≠0->rs.getD j 0=(rs.getD i 0+1)%d
theorem OE {b:D->SD->SD->Prop}{js:List Nat}{ti:TID}{tt:TTD}{te:TED}{σ:SD}{h:HD}{Q:KD}(x:ti σ h λj h1=>dCB Jx (yI (JL b js (λ_ _ R=>R j h1) tt te) Xc) σ h1 Q):dCB Jx (yI (JL b js ti tt te) Xc) σ h Q:=x
theorem WG (h6:n<=6)(nz:jJ T n≠0):1<=jJ T n/\jJ T n<=6:=by
 have ne:jD T n≠ []:=λz=>nz (by show ((jD T n).map List.length).foldl Nat.gcd 0=0;rw [z];rfl)
 obtain⟨w,hw⟩:=G0G _ ne;obtain⟨s,hs,o,_⟩:=ZU hw;have dv:jJ T n∣w.length:=((Yx ((jD T n).map List.length) 0 (jJ T n)).mp (G1E _)).2 _ (V0 hw);have:=Nat.le_of_dvd (by rw [o.len];omega) dv;have:=o.len;omega
def Zg:RDn:=λds h Q=> ∃T,∃n e:Nat,ds= [jL T]/\Sq n e T/\1<=n/\n<=6/\(WT T n).length=1/\jJ T n≠0/\ ∀ (rs:List Nat) (h':HD),TurnsOf T n (jJ T n) rs->rs.getD 0 0=0->Sub h h'->Q (.tup [.int ((jJ T n:Nat):Int),jt rs]) h'
theorem Di (Z:Zs mg)(F:Fun K "turns_of" "turns_of" WC f fd)(VO:ji P w K mg base n "beat" ["table"] VM)(Wb:ji P w K mg base n "steps_from_start" ["table"] yh):FnOk P w K mg base CX0 (n+1) f fd ["table"] (LSp K Zg):=by
 obtain⟨XY,VU,Wd,vc,vj,vq⟩:=VO;obtain⟨Pk,GU,We,Zp,Zx,ZB⟩:=Wb;refine F.okJ ZD (λds h Q q=>by obtain⟨T,n,b,e,hT,n1,n6,one,nz,q⟩:=q;subst e;rfl) _ (λcdv A outer s H E hr=>(je (Jy (i:=1) ZD.nd rfl (by first|exact Or.inr rfl|exact Or.inl rfl) (jy Wd hr rfl vq vj vc (jac (jv 0) jc))) (by exact(je (Wn (wc oq_eq (jv 1) jN (jI _)) (jg UC) zg) (by exact(jg (wu (FG (jac (jv 1) (by exact(jac (wC wg rfl Z.tuple (by decide +kernel) (jac (jlc (i:=2) (js:= [2]) rfl (jk (by rfl)) (zZ (jy We hr rfl ZB Zx Zp (jac (jv 0) jc))) (by decide) ZD.nd rfl (by first|exact Or.inl rfl|exact Or.inr rfl) (λX' hX=>jP) (λX' hX=>by obtain⟨C,s₀,H₀,ex,rfl⟩:=hX;exact(jop wJ (jv 2) (jv 1)))) jc)) jc))))))))))) ?_;intro ds h Q q;obtain⟨T,n,b,e,hT,n1,n6,one,nz,q⟩:=q;subst e;obtain⟨b1,b6⟩:=WG n6 nz;refine jh (λσ' h'=>σ'= [some (jL T),some (.int ((jJ T n:Nat):Int)),none]/\h=h') (λC hC=>⟨_,rfl,T,n,b,rfl,hT,n1,n6,one,hC _ _ ⟨rfl,rfl⟩⟩) ?_;rintro _ _ ⟨rfl,rfl⟩;refine jh (λσ' h'=>σ'= [some (jL T),some (.int ((jJ T n:Nat):Int)),none]/\h=h') (λC hC=>⟨_,rfl,_,rfl,?_⟩) ?_
 ·show if decide (((jJ T n:Nat):Int)=0)=true then _ else _
  rw [D7 (by omega)];exact wY (hC _ _ ⟨rfl,rfl⟩)
 rintro _ _ ⟨rfl,rfl⟩;refine⟨_,rfl,OE ⟨_,rfl,T,n,b,rfl,hT,n1,n6,one,λst A h' sl sr s0 kA sb=> ?_⟩⟩;refine Se (j:=λh=>h A) st (λ(k:Nat)=> .int (k:Int)) (λ(k:Nat)=> .int ((k%jJ T n:Nat):Int)) (by omega) kA (λR r=>r) (λk hk Q' q'=>⟨_,rfl,_,rfl,by omega,?_⟩) ⟨(by show 2<=sizeLine;decide),h,sb,?_⟩
 ·rw [<-C8];exact q'
 ·have at_: ∀j,(st.map λk=>k%jJ T n).getD j 0=st.getD j 0%jJ T n:=λj=>by
   rw [G3,G3,P3];cases st[j]? with
   |none=>rw [Option.map_none];exact(Y9 _).symm
   |some x=>rfl
  have:=q (st.map λk=>k%jJ T n) h ⟨by rw [G0];exact sl,λj hj=>by rw [at_];exact A3 _ b1,λi j hi hj ar=>by
   rw [at_,at_,G1d];exact Ov hT (by omega) one hi hj n1 (sr i hi) (sr j hj) ar (G1E (jJ T n))⟩ (by rw [at_,s0];exact Y9 _) (Sub.refl h)
  unfold jt at this;rw [T5] at this;exact this
def Ya:RDn:=λds h Q=> ∃ns k,ds= [.scr ns,.int k]/\0<=k/\ ∀n,Q (.int n) h
theorem Gy (Z:Zs mg)(F:Fun K "_law_cell" "_law_cell" Zb f fd):FnOk P w K mg base CX0 (n+1) f fd ["_law_script","_law_k"] (LSp K Ya):=by
 refine F.okJ Gm (λds h Q q=>by obtain⟨ns,k,e,h0,q⟩:=q;subst e;rfl) _ (λcdv A outer s H E hr=>(je (Wn (wc ES (jv 1) (jG za rfl Z.len R6 (jac (jv 0) jc)) (jI _)) (jg (wu (jix (jv 0) (jv 1) (λ_ _=>rfl)))) zg) (by exact(jg (wu jN))))) ?_;intro ds h Q q;obtain⟨ns,k,e,h0,q⟩:=q;subst e;simp only [No,Tn,YR,dOp,Lg,vB,T3,E3,P9,T4,J1,B6,X2,L9,Q1,dCB,yI,Xc,Kk,Au,D.bl.injEq,Bd,ixD,Ll,U3,Me,dC];refine Mb (λc=> ?_) (λ_=>⟨h,Sub.refl h,q 0⟩);have c':k<(ns.length:Int):=M0 c;have hk:k.toNat<ns.length:=by omega
 have ek:k=((k.toNat:Nat):Int):=by omega
 have z:=wW (G1 hk);rw [<-ek] at z;exact⟨ns[k.toNat],z,h,Sub.refl h,q _⟩
def VN:RDn:=λds h Q=> ∃c,ds= [.int c]/\ ∀p l fl,h p=none->0<=l->(fl=0\/fl=1)->Q (.lst p) (wq h p [.int l,.int fl])
theorem Dj (Z:Zs mg)(F:Fun K "_law_pen" "_law_pen" WD f fd):FnOk P w K mg base CX0 (n+1) f fd ["_law_cell_here"] (LSp K VN):=by
 refine F.okJ VZ (λds h Q q=>by obtain⟨c,e,q⟩:=q;subst e;rfl) _ (λcdv A outer s H E hr=>(je (Jy (i:=1) VZ.nd rfl (Or.inl rfl) (jG (Km rfl) rfl Z.max (by decide +kernel) (jac (jv 0) (by exact(jac (jop YU jN (jv 0)) jc))))) (by exact(jg (wu (Bz (jac (jv 1) (by exact(jac (wC Kl rfl Z.int (by decide +kernel) (jac (Bx Ki (jv 1) (jop Kg jN jN) (jI _)) jc)) jc))))))))) ?_;intro ds h Q q;obtain⟨c,e,q⟩:=q;subst e;simp only [No,EB,dCB,yI,Lg,vB,T3,E3,P9,T4,List.replicate,J1,B6,L9,Q1,dOp,dC,xX,Xc,xb,Bd,HF,List.set_cons_succ,List.set_cons_zero,X2,xZ,Au,xa,Ll,U3];refine⟨⟨by decide,by decide,by decide⟩,by decide,λp hp=>⟨_,Sub.refl _,q p _ _ hp ?_ ?_⟩⟩
 ·split<;>omega
 ·split<;>simp<;>omega
def yr:RDn:=λds h Q=> ∃p l fl m,ds= [.lst p,.int m]/\h p=some [.int l,.int fl]/\0<=l/\0<m/\m<2^200/\ ∀r l',0<=r->r<m->0<=l'->Q (.int r) (wq h p [.int l',.int fl])
theorem Gz (Z:Zs mg)(F:Fun K "_law_draw" "_law_draw" Zc f fd):FnOk P w K mg base CX0 (n+1) f fd ["_law_pen_here","_law_many"] (LSp K yr):=by
 refine F.okJ yu (λds h Q q=>by obtain⟨p,l,fl,m,e,hp,h0,hm,hm2,q⟩:=q;subst e;rfl) _ (λcdv A outer s H E hr=>(je (Wn (wc oq_eq (jix (jv 0) jN (λ_ _=>rfl)) jN (jI _)) (je (Sd (jG Mo rfl Z.divmod (by decide +kernel) (jac (jix (jv 0) jN (λ_ _=>rfl)) (by exact(jac (jv 1) jc)))) (Rg (i:=2) (j:=3) rfl yu.nd rfl rfl (Or.inl rfl) (Or.inl rfl))) (by exact(je (Sd (jv 2) (QC (jv 0) jN)) (by exact(jg (wu (jv 3))))))) zg) (by exact(je (Jy (i:=4) yu.nd rfl (Or.inl rfl) (jop wJ (jop Pt (jop wK (jop wJ (jix (jv 0) jN (λ_ _=>rfl)) jN) jN) jN) jN)) (by exact(je (Jy (i:=4) yu.nd rfl (Or.inl rfl) (jop wJ (jop wK (jop Pt (jv 4) (jv 4)) jN) jN)) (by exact(je (Sd (jop wJ (jop wK (jop Pt (jv 4) jN) jN) jN) (QC (jv 0) jN)) (by exact(jg (wu (jop wJ (jop ER (jix (jv 0) jN (λ_ _=>rfl)) jN) (jv 1))))))))))))) ?_;intro ds h Q q;obtain⟨p,l,fl,m,e,hp,h0,hm,hm2,q⟩:=q;subst e;refine jh (λσ' h'=>σ'= [some (.lst p),some (.int m),none,none,none]/\h=h') (λC hC=>⟨_,rfl,_,_,hp,rfl,?_⟩) ?_
 ·show ∃k,D.bl (decide (fl=1))= .bl k/\_;refine⟨_,rfl,Mb (λ_=> ?_) λ_=>hC _ _ ⟨rfl,rfl⟩⟩;exact⟨_,rfl,_,_,hp,rfl,_,rfl,_,_,rfl,⟨hm,hm2⟩,_,_,rfl,_,rfl,_,rfl,p,0,_,0,rfl,rfl,hp,rfl,_,rfl,_,Sub.refl _,q (l%m) (l / m) (E9 _ (Int.ne_of_gt hm)) (X1 _ hm) (Int.ediv_nonneg h0 (Int.le_of_lt hm))⟩
 rintro _ _ ⟨rfl,rfl⟩;refine jh (λσ' h'=> ∃z:Int,σ'= [some (.lst p),some (.int m),none,none,some (.int z)]/\(0<=z/\z<2147483629)/\h=h') (λC hC=>⟨_,rfl,_,_,hp,rfl,by decide,.inr ⟨by decide,by decide⟩,by decide,hC _ _ ⟨_,rfl,⟨E9 _ (by decide),X1 _ (by decide)⟩,rfl⟩⟩) ?_;rintro _ _ ⟨z,rfl,⟨z0,z1⟩,rfl⟩;refine jh (λσ' h'=> ∃y:Int,σ'= [some (.lst p),some (.int m),none,none,some (.int y)]/\h=h') (λC hC=>⟨_,rfl,_,rfl,.inl ⟨Int.lt_of_lt_of_le (by decide) z0,Int.lt_trans z1 (by decide)⟩,by decide,hC _ _ ⟨_,rfl,rfl⟩⟩) ?_;rintro _ _ ⟨y,rfl,rfl⟩;refine jh (λσ' h'=> ∃x:Int,σ'= [some (.lst p),some (.int m),none,none,some (.int y)]/\0<=x/\h'=wq h p [.int x,.int fl]) (λC hC=>⟨_,rfl,.inr ⟨by decide,by decide⟩,by decide,_,rfl,p,0,_,0,rfl,rfl,hp,rfl,hC _ _ ⟨_,rfl,E9 _ (by decide),rfl⟩⟩) ?_;rintro _ _ ⟨x,rfl,x0,rfl⟩;exact⟨_,rfl,_,_,jd,rfl,⟨by decide,by decide⟩,_,rfl,hm,_,Sub.refl _,q (x / 32%m) x (E9 _ (Int.ne_of_gt hm)) (X1 _ hm) x0⟩
def Yb:RDn:=λds h Q=> ∃p l fl,ds= [.lst p]/\h p=some [.int l,.int fl]/\0<=l/\ ∀ (k:Nat) l',1<=k->k<=6->0<=l'->Q (.int (k:Int)) (wq h p [.int l',.int fl])
theorem GA (Z:Zs mg)(F:Fun K "_law_size" "_law_size" Zd f fd)(yj:ji P w K mg base n "_law_draw" ["_law_pen_here","_law_many"] yr):FnOk P w K mg base CX0 (n+1) f fd ["_law_pen_here"] (LSp K Yb):=by
 obtain⟨Wh,JF,zb,jR,jS,jT⟩:=yj;refine F.okJ Gn (λds h Q q=>by obtain⟨p,l,fl,e,hp,h0,q⟩:=q;subst e;rfl) _ (λcdv A outer s H E hr=>(jg (wu (jix (Bz (jac jN (by exact(jac jN (by exact(jac jN (by exact(jac jN (by exact(jac jN (by exact(jac jN (by exact(jac jN (by exact(jac jN (by exact(jac jN (by exact(jac jN (by exact(jac jN (by exact(jac jN jc)))))))))))))))))))))))) (jy zb hr rfl jT jS jR (jac (jv 0) (by exact(jac jN jc)))) (λ_ _=>rfl))))) ?_;intro ds h Q q;obtain⟨p,l,fl,e,hp,h0,q⟩:=q;subst e;simp only [Bd,dOp,HF,yI,dC,Xc,P9,T4,dCB,Lg,vB,T3,E3,J1,B6,L9,Q1,ixD,Ll,U3];refine⟨by decide,λp1 e1=>⟨p,l,fl,12,rfl,jM hp e1,h0,by decide,by decide,λr l' r0 r1 l0=> ?_⟩⟩;obtain⟨d,hd,ed⟩:=Xj (xs:= [D.int 1,D.int 2,D.int 3,D.int 4,D.int 5,D.int 3,D.int 4,D.int 2,D.int 6,D.int 5,D.int 4,D.int 3]) r0 r1;refine⟨_,d,jH (zA hp e1) jd,ed,_,Sub.both (Sub.newAt (Sub.refl h) e1),?_⟩;have q': ∀k:Nat,1<=k->k<=6->Q (.int (k:Int)) (wq h p [.int l',.int fl]):=λk a b=>q k l' a b l0
 simp only [R0,N5,Y6] at hd;rcases hd with e|e|e|e|e|e|e|e|e|e|e|e<;>subst e
 ·exact q' 1 (by decide) (by decide)
 ·exact q' 2 (by decide) (by decide)
 ·exact q' 3 (by decide) (by decide)
 ·exact q' 4 (by decide) (by decide)
 ·exact q' 5 (by decide) (by decide)
 ·exact q' 3 (by decide) (by decide)
 ·exact q' 4 (by decide) (by decide)
 ·exact q' 2 (by decide) (by decide)
 ·exact q' 6 (by decide) (by decide)
 ·exact q' 5 (by decide) (by decide)
 ·exact q' 4 (by decide) (by decide)
 ·exact q' 3 (by decide) (by decide)
def va:RDn:=λds h Q=> ∃p l fl,∃k:Nat,ds= [.lst p,.int (k:Int)]/\h p=some [.int l,.int fl]/\0<=l/\k<=6/\ ∀o l',Ordr k o->0<=l'->Q (jt o) (wq h p [.int l',.int fl])
theorem XS (Z:Zs mg)(F:Fun K "_law_order" "_law_order" vT f fd)(yj:ji P w K mg base n "_law_draw" ["_law_pen_here","_law_many"] yr):FnOk P w K mg base CX0 (n+1) f fd ["_law_pen_here","_law_many"] (LSp K va):=by
 obtain⟨Wh,JF,zb,jR,jS,jT⟩:=yj;refine F.okJ vx (λds h Q q=>by obtain⟨p,l,fl,k,e,hp,h0,hk,q⟩:=q;subst e;rfl) _ (λcdv A outer s H E hr=>(je (Jy (i:=2) vx.nd rfl (Or.inl rfl) (Bz jc)) (by exact(je (Mk M8 rfl (ZM rfl Z.range (jac (jv 1) jc)) (ya (i:=3) vx.nd rfl (Or.inl rfl)) (jg (JP (jak (jv 2) (jy zb hr rfl jT jS jR (jac (jv 0) (by exact(jac (jop wK (jv 3) jN) jc)))) (jv 3))))) (by exact(jg (wu (wC cq_tuple rfl Z.tuple (by decide +kernel) (jac (jv 2) jc))))))))) ?_;intro ds h Q q;obtain⟨p,l,fl,k,e,hp,h0,hk,q⟩:=q;subst e;refine jh (λσ' h'=> ∃R,σ'= [some (.lst p),some (.int (k:Int)),some (.lst R),none]/\R≠p/\h R=none/\h' R=some []/\h' p=some [.int l,.int fl]/\But p h h') (λC hC=> ?_) ?_
 ·exact⟨(by show 0<=sizeLine;decide),λR eR=>hC _ _ ⟨R,rfl,zA hp eR,eR,jd,jM hp eR,(But.refl p h).new eR⟩⟩
 rintro σ' h1 ⟨R,rfl,nR,fR,kR,kp,bt⟩;refine jh (λσ' h'=> ∃a l2 o,σ'= [some (.lst p),some (.int (k:Int)),some (.lst R),a]/\0<=l2/\Ordr k o/\h' R=some (o.map λ(i:Nat)=>D.int (i:Int))/\h' p=some [.int l2,.int fl]/\But p h h') (λC hC=> ?_) ?_
 ·refine YX k (λi σ' h'=> ∃a l2 o,σ'= [some (.lst p),some (.int (k:Int)),some (.lst R),a]/\0<=l2/\Ordr i o/\h' R=some (o.map λ(i:Nat)=>D.int (i:Int))/\h' p=some [.int l2,.int fl]/\But p h h') (by omega) (λR' r=>⟨_,rfl,r⟩) ⟨none,l,[],rfl,h0,List.Perm.nil,kR,kp,bt⟩ (λσ' h' z=>hC _ _ z) ?_;rintro i _ h2 hi ⟨a,l2,o,rfl,l20,ho,kR2,kp2,bt2⟩;refine⟨_,rfl,R,rfl,_,rfl,_,rfl,p,l2,fl,(i:Int)+1,rfl,kp2,l20,by omega,by omega,λr l3 r0 r1 l30=> ?_⟩;have lo:o.length=i:=ho.ord.len;refine⟨_,rfl,r.toNat,_,by rw [G0j r0],by omega,jH nR kR2,?_,_,Sub.refl _,by omega,_,l3,o.take r.toNat++i::o.drop r.toNat,rfl,l30,ho.insert r.toNat,?_,jH (Ne.symm nR) jd,(bt2.put).putNew fR⟩
  ·rw [G0];exact W4 (show o.length<=1000 by omega) (by decide)
  ·rw [jd,T6,T3,List.map_take,G1w]
 rintro _ h3 ⟨a,l2,o,rfl,l20,ho,kR3,kp3,bt3⟩;exact⟨_,rfl,_,kR3,_,bt3.sub kp3,q o l2 ho l20⟩
def wM:RDn:=λds h Q=> ∃p l fl,∃k:Nat,ds= [.lst p,.int (k:Int)]/\h p=some [.int l,.int fl]/\0<=l/\1<=k/\k<=6/\ ∀T l',GoodTab k T->(∃o,Ordr k o/\ ∀t,t<k->ent T (o.getD t 0) (o.getD ((t+1)%k) 0)≠0)->0<=l'->Q (jL T) (wq h p [.int l',.int fl])
theorem Jo (Z:Zs mg)(F:Fun K "_law_joined_table" "_law_joined_table" zV f fd)(vV:ji P w K mg base n "_law_order" ["_law_pen_here","_law_many"] va)(yj:ji P w K mg base n "_law_draw" ["_law_pen_here","_law_many"] yr):FnOk P w K mg base CX0 (n+1) f fd ["_law_pen_here","_law_size_here"] (LSp K wM):=by
 obtain⟨Up,VT,vX,vb,vh,vp⟩:=vV;obtain⟨Wh,JF,zb,jR,jS,jT⟩:=yj;refine F.okJ jl (λds h Q q=>by obtain⟨p,l,fl,k,e,hp,h0,hk1,hk6,q⟩:=q;subst e;rfl) _ (λcdv A outer s H E hr=>(je (Jy (i:=2) jl.nd rfl (by first|exact Or.inr rfl|exact Or.inl rfl) (jy vX hr rfl vp vh vb (jac (jv 0) (by exact(jac (jv 1) jc))))) (by exact(je (Jy (i:=3) jl.nd rfl (Or.inl rfl) (jix (Bz (jac jN (by exact(jac jN (by exact(jac jN (by exact(jac (jv 1) (by exact(jac jN jc)))))))))) (jy zb hr rfl jT jS jR (jac (jv 0) (by exact(jac jN jc)))) (λ_ _=>rfl))) (by exact(je (Jy (i:=4) jl.nd rfl (Or.inl rfl) (jix (Bz (jac jN (by exact(jac jN (by exact(jac jN jc)))))) (jy zb hr rfl jT jS jR (jac (jv 0) (by exact(jac jN jc)))) (λ_ _=>rfl))) (by exact(je (Jy (i:=5) jl.nd rfl (Or.inl rfl) (jix (Bz (jac jN (by exact(jac jN (by exact(jac jN jc)))))) (jy zb hr rfl jT jS jR (jac (jv 0) (by exact(jac jN jc)))) (λ_ _=>rfl))) (by exact(je (BB (i:=11) (k:=6) (js:= [11]) rfl jl.nd rfl (Or.inl rfl) (jk (by rfl)) (zZ (jv 2)) (by decide) rfl (by first|exact Or.inl rfl|exact Or.inr rfl) (λX' hX=>jP) (λX' hX=>by obtain⟨C,s₀,H₀,ex,rfl⟩:=hX;exact(jlc (i:=12) (js:= [12]) rfl (jk (by rfl)) (zZ (jv 2)) (by decide) jl.nd rfl (by first|exact Or.inl rfl|exact Or.inr rfl) (λX' hX=>jP) (λX' hX=>by obtain⟨C,s₀,H₀,ex,rfl⟩:=hX;exact jN)))) (by exact(je (Mk M8 rfl (PB rfl Z.enumerate (jac (jv 2) jc)) (Rg (i:=7) (j:=8) rfl jl.nd rfl rfl (Or.inl rfl) (Or.inl rfl)) (je (Sd (jop wK jN (jy zb hr rfl jT jS jR (jac (jv 0) (by exact(jac (jv 5) jc))))) (QC (jix (jv 6) (jv 8) (λ_ _=>rfl)) (jix (jv 2) (jop wJ (jop wK (jv 7) jN) (jv 1)) (λ_ _=>rfl)))) (by exact(jg (Mk M8 rfl (PB rfl Z.enumerate (jac (jv 2) jc)) (Rg (i:=9) (j:=10) rfl jl.nd rfl rfl (Or.inl rfl) (Or.inl rfl)) (jg (Wn (jpt (Mj (wc oq_eq (jy zb hr rfl jT jS jR (jac (jv 0) (by exact(jac (jv 4) jc)))) jN (jI _)) (Mj (wc oq_eq (jop wJ (jop YU (jop YU (jv 9) (jv 7)) jN) (jv 3)) jN (jI _)) (By (jpt (Rf (wc oq_eq (jop wJ (jv 1) (jv 3)) jN (jI _)) (Mi (wc Kh (jv 9) (jv 7) (jI _))))))))) (jg (Sd (jop wK jN (jy zb hr rfl jT jS jR (jac (jv 0) (by exact(jac (jv 5) jc))))) (QC (jix (jv 6) (jv 8) (λ_ _=>rfl)) (jv 10)))) zg))))))) (by exact(jg (wu (wC wg rfl Z.tuple (by decide +kernel) (jac (jlc (i:=11) (js:= [11]) rfl (jk (by rfl)) (zZ (jv 6)) (by decide) jl.nd rfl (by first|exact Or.inl rfl|exact Or.inr rfl) (λX' hX=>jP) (λX' hX=>by obtain⟨C,s₀,H₀,ex,rfl⟩:=hX;exact(wC cq_tuple rfl Z.tuple (by decide +kernel) (jac (jv 11) jc)))) jc))))))))))))))))) ?_;intro ds h Q q;obtain⟨p,l,fl,k,e,hp,h0,hk1,hk6,q⟩:=q;subst e;refine jh (λσ' h'=> ∃o l2,σ'= [some (.lst p),some (.int (k:Int)),some (jt o),none,none,none,none,none,none,none,none,none,none]/\Ordr k o/\0<=l2/\h' p=some [.int l2,.int fl]/\But p h h') (λC hC=>⟨_,rfl,_,rfl,p,l,fl,k,rfl,hp,h0,hk6,λo l2 ho l20=>hC _ _ ⟨o,l2,rfl,ho,l20,jd,But.upd⟩⟩) ?_;rintro _ h1 ⟨o,l2,rfl,ho,l20,kp,bt⟩;have hlo:o.length=k:=ho.ord.len;refine jh (λσ' h'=> ∃dv l3,σ'= [some (.lst p),some (.int (k:Int)),some (jt o),some (.int dv),none,none,none,none,none,none,none,none,none]/\0<dv/\dv<1000/\0<=l3/\h' p=some [.int l3,.int fl]/\But p h h') (λC hC=> ?_) ?_
 ·refine⟨_,rfl,(by show 5<=sizeLine;decide),λp1 e1=>⟨_,rfl,p,l2,fl,5,rfl,jM kp e1,l20,by decide,by decide,λr l3 r0 r1 l30=> ?_⟩⟩;obtain⟨oft',ho',eo⟩:=Xj (xs:= [D.int 1,D.int 2,D.int 3,D.int (k:Int),D.int 1]) r0 r1;refine⟨_,oft',jH (zA kp e1) jd,eo,?_⟩;obtain⟨x,rfl,x1,x2⟩: ∃x:Int,oft'= .int x/\0<x/\x<1000:=by
   simp only [R0,N5,Y6] at ho';rcases ho' with e|e|e|e|e<;>exact⟨_,e,by omega,by omega⟩
  exact hC _ _ ⟨x,l3,rfl,x1,x2,l30,jd,(bt.new e1).put⟩
 rintro _ h2 ⟨dv,l3,rfl,dv1,dv2,l30,kp,bt⟩;refine jh (λσ' h'=> ∃oft l4,σ'= [some (.lst p),some (.int (k:Int)),some (jt o),some (.int dv),some (.int oft),none,none,none,none,none,none,none,none]/\0<oft/\oft<1000/\0<=l4/\h' p=some [.int l4,.int fl]/\But p h h') (λC hC=> ?_) ?_
 ·refine⟨(by show 3<=sizeLine;decide),λp1 e1=>⟨_,rfl,p,l3,fl,3,rfl,jM kp e1,l30,by decide,by decide,λr l4 r0 r1 l40=> ?_⟩⟩;obtain⟨oft',ho',eo⟩:=Xj (xs:= [D.int 2,D.int 3,D.int 6]) r0 r1;refine⟨_,oft',jH (zA kp e1) jd,eo,?_⟩;obtain⟨x,rfl,x1,x2⟩: ∃x:Int,oft'= .int x/\0<x/\x<1000:=by
   simp only [R0,N5,Y6] at ho';rcases ho' with e|e|e<;>exact⟨_,e,by omega,by omega⟩
  exact hC _ _ ⟨x,l4,rfl,x1,x2,l40,jd,(bt.new e1).put⟩
 rintro _ h2 ⟨oft,l4,rfl,of1,of2,l40,kp,bt⟩;refine jh (λσ' h'=> ∃mo l5,σ'= [some (.lst p),some (.int (k:Int)),some (jt o),some (.int dv),some (.int oft),some (.int mo),none,none,none,none,none,none,none]/\0<mo/\mo<1000/\0<=l5/\h' p=some [.int l5,.int fl]/\But p h h') (λC hC=> ?_) ?_
 ·refine⟨(by show 3<=sizeLine;decide),λp1 e1=>⟨_,rfl,p,l4,fl,3,rfl,jM kp e1,l40,by decide,by decide,λr l5 r0 r1 l50=> ?_⟩⟩;obtain⟨oft',ho',eo⟩:=Xj (xs:= [D.int 1,D.int 1,D.int 5]) r0 r1;refine⟨_,oft',jH (zA kp e1) jd,eo,?_⟩;obtain⟨x,rfl,x1,x2⟩: ∃x:Int,oft'= .int x/\0<x/\x<1000:=by
   simp only [R0,N5,Y6] at ho';rcases ho' with e|e|e<;>exact⟨_,e,by omega,by omega⟩
  exact hC _ _ ⟨x,l5,rfl,x1,x2,l50,jd,(bt.new e1).put⟩
 rintro _ h2 ⟨mo,l5,rfl,mo1,mo2,l50,kp,bt⟩;refine jh (λσ' h'=> ∃R rs,σ'= [some (.lst p),some (.int (k:Int)),some (jt o),some (.int dv),some (.int oft),some (.int mo),some (.lst R),none,none,none,none,none,none]/\h' p=some [.int l5,.int fl]/\But p h h'/\ ∃f,GQ k h h' p R rs f) (λC hC=> ?_) ?_
 ·refine Sx (h1:=h2) (o.map λ(k:Nat)=>D.int (k:Int)) (λi ys h'=> ∃rs,ys=rs.map D.lst/\rs.length=i/\h' p=some [.int l5,.int fl]/\But p h h'/\p ∉ rs/\rs.Nodup/\ ∀a∈rs,h a=none/\ ∃r,h' a=some (r.map D.int)/\Xm k r) (by rw [G0];omega) (λR r=>⟨_,rfl,r⟩) ⟨[],rfl,rfl,kp,bt,by simp,G0E,by simp⟩ (λi ys h' ⟨rs,e,el,_⟩=>by rw [e,G0];omega) ?_ ?_
  ·rintro i ys h3 d hd ⟨rs,rfl,lrs,kp3,bt3,nprs,nd3,rows3⟩;have hi:i<k:=by have:=(G7.mp hd).1;rw [G0] at this;omega
   refine lcA o (λ(k:Nat)=>D.int (k:Int)) (λ_=>D.int 0) (by omega) rfl (λR r=>⟨_,rfl,r⟩) (λx hx Q' q'=>q') (λq4 e4=> ?_);refine⟨_,Sub.refl _,by rw [G0];omega,rs++ [q4],by rw [T6];rfl,by simp [lrs],jM kp3 e4,bt3.new e4,?_,?_,λa ha=> ?_⟩
   ·intro z;rcases P6.mp z with y|y
    ·exact nprs y
    ·exact zA kp3 e4 (G5.mp y).symm
   ·rw [A0];refine⟨nd3,by simp,λa ha b hb z=> ?_⟩;rw [G5.mp hb] at z;subst z;obtain⟨_,r',e',_⟩:=rows3 a ha;rw [e'] at e4;cases e4
   ·rcases P6.mp ha with z|z
    ·obtain⟨f',r',e',g'⟩:=rows3 a z;exact⟨f',r',jM e' e4,g'⟩
    ·have:=G5.mp z;subst this;refine⟨Br bt3 e4 (zA kp3 e4),o.map λ_=>(0:Int),by rw [jd,T5];rfl,by rw [G0];exact hlo,λx hx=> ?_⟩;obtain⟨_,_,rfl⟩:=D1.mp hx;exact⟨by decide,by decide⟩
  ·rintro ys h3 ⟨rs,rfl,lrs,kp3,bt3,nprs,nd3,rows3⟩ R eR;rw [G0] at lrs;refine hC _ _ ⟨R,rs,rfl,jM kp3 eR,bt3.new eR,GQ.of_grid ⟨jd,by rw [lrs];exact hlo,?_,Br bt3 eR (zA kp3 eR),nprs,zA kp3 eR,λa ha=>⟨(rows3 a ha).1,?_⟩⟩ nd3⟩
   ·intro hR;obtain⟨_,r,e',_⟩:=rows3 R hR;rw [e'] at eR;cases eR
   ·obtain⟨r,e',g'⟩:=(rows3 a ha).2;exact⟨r,jM e' eR,g'⟩
 rintro _ h3 ⟨R,rs,rfl,kp,bt,f0,g⟩;have hen:(Pz (o.map λ(k:Nat)=>D.int (k:Int))).length=k:=by rw [yV,G0];exact hlo
 have hel: ∀i d,(Pz (o.map λ(k:Nat)=>D.int (k:Int)))[i]? =some d->i<k/\o.getD i 0<k/\d= .tup [.int (i:Int),.int ((o.getD i 0:Nat):Int)]:=λi d hd=>by
  have hi:i<k:=by have:=(G7.mp hd).1;omega
  obtain⟨x,hx,ed⟩:=Xq hd;have hi':i<o.length:=by omega
  rw [P3,G1 hi'] at hx;injection hx with hx
  have eg:o.getD i 0=o[i]:=by rw [G3,G1 hi'];rfl
  exact⟨hi,by rw [eg];exact D2.mp (ho.mem_iff.mp (R8 hi')),by rw [ed,<-hx,eg]⟩
 refine jh (λσ' h'=> ∃a b c d l6,σ'= [some (.lst p),some (.int (k:Int)),some (jt o),some (.int dv),some (.int oft),some (.int mo),some (.lst R),a,b,c,d,none,none]/\0<=l6/\h' p=some [.int l6,.int fl]/\But p h h'/\ ∃f,GQ k h h' p R rs f/\ ∀t,t<k->1<=f (o.getD t 0) (o.getD ((t+1)%k) 0)) (λC hC=> ?_) ?_
 ·refine Xk (h1:=h3) (j:=λ_=>some (Pz (o.map λ(k:Nat)=>D.int (k:Int)))) (Pz (o.map λ(k:Nat)=>D.int (k:Int))) (λi σ' h'=> ∃a b c d l6,σ'= [some (.lst p),some (.int (k:Int)),some (jt o),some (.int dv),some (.int oft),some (.int mo),some (.lst R),a,b,c,d,none,none]/\0<=l6/\h' p=some [.int l6,.int fl]/\But p h h'/\ ∃f,GQ k h h' p R rs f/\ ∀t,t<i->1<=f (o.getD t 0) (o.getD ((t+1)%k) 0)) (λR r=>⟨_,rfl,_,rfl,r⟩) (λ_ _ _ _=>rfl) ⟨none,none,none,none,l5,rfl,l50,kp,bt,f0,g,λt ht=>absurd ht (Nat.not_lt_zero _)⟩ (λσ' h' z=>hC _ _ (by rw [hen] at z;exact z)) ?_;rintro i dd _ h4 hdd ⟨a,b,c,d,l6,rfl,l60,kp4,bt4,f4,g4,rg4⟩;obtain⟨hi,hy1,rfl⟩:=hel i dd hdd;refine⟨_,_,rfl,?_⟩;obtain⟨hy3,ey3⟩:=Rm ho (A3 (i+1) (by omega:0<k));have em:((i:Int)+1)%(k:Int)=(((i+1)%k:Nat):Int):=by rw [C8,W7];rfl
  rw [<-em] at ey3;refine jh (λσ' h'=> ∃l6,σ'= [some (.lst p),some (.int (k:Int)),some (jt o),some (.int dv),some (.int oft),some (.int mo),some (.lst R),some (.int (i:Int)),some (.int ((o.getD i 0:Nat):Int)),c,d,none,none]/\0<=l6/\h' p=some [.int l6,.int fl]/\But p h h'/\ ∃f,GQ k h h' p R rs f/\ ∀t,t<i+1->1<=f (o.getD t 0) (o.getD ((t+1)%k) 0)) (λC2 hC2=> ?_) ?_
  ·refine⟨_,rfl,_,rfl,p,l6,fl,mo,rfl,kp4,l60,mo1,by omega,λv l7 v0 v1 l70=> ?_⟩;have g5:=g4.pen [.int l7,.int fl];obtain⟨a',ha',at',er',fa',na'⟩:=g5.pick hy1;refine⟨_,rfl,_,rfl,_,_,g5.at_,at',_,rfl,_,rfl,_,rfl,(by omega:(0:Int)<(k:Int)),_,ey3,a',_,_,o.getD ((i+1)%k) 0,rfl,rfl,er',Xs (by rw [G0,P4];exact hy3),hC2 _ _ ⟨l7,rfl,l70,jH (Ne.symm na') jd,(bt4.put).putNew fa',_,g5.put ha' (by omega) (by omega),λt ht=> ?_⟩⟩;split
   ·omega
   ·rename_i z;refine rg4 t (J7 λw=>z ?_);have:t=i:=by omega
    subst this;exact⟨rfl,rfl⟩
  rintro _ h5 ⟨l6,rfl,l60,kp5,bt5,f5,g5,rg5⟩;refine Xk (h1:=h5) (j:=λ_=>some (Pz (o.map λ(k:Nat)=>D.int (k:Int)))) (Pz (o.map λ(k:Nat)=>D.int (k:Int))) (λ_ σ' h'=> ∃c d l6,σ'= [some (.lst p),some (.int (k:Int)),some (jt o),some (.int dv),some (.int oft),some (.int mo),some (.lst R),some (.int (i:Int)),some (.int ((o.getD i 0:Nat):Int)),c,d,none,none]/\0<=l6/\h' p=some [.int l6,.int fl]/\But p h h'/\ ∃f,GQ k h h' p R rs f/\ ∀t,t<i+1->1<=f (o.getD t 0) (o.getD ((t+1)%k) 0)) (λR r=>⟨_,rfl,_,rfl,r⟩) (λ_ _ _ _=>rfl) ⟨c,d,l6,rfl,l60,kp5,bt5,f5,g5,rg5⟩ ?_ ?_
  ·rintro _ h6 ⟨c,d,l6,rfl,l60,kp6,bt6,f6,g6,rg6⟩;exact⟨_,Sub.refl _,by omega,_,_,_,_,l6,rfl,l60,kp6,bt6,f6,g6,rg6⟩
  rintro i2 dd _ h6 hdd2 ⟨c,d,l6,rfl,l60,kp6,bt6,f6,g6,rg6⟩;obtain⟨hi2,hy2,rfl⟩:=hel i2 dd hdd2;refine⟨_,_,rfl,?_⟩;refine⟨_,rfl,_,rfl,p,l6,fl,oft,rfl,kp6,l60,of1,by omega,λw l7 w0 w1 l70=>⟨_,rfl,Mb (λ_=> ?_) (λ_=>wY ⟨_,Sub.refl _,by omega,_,_,l7,rfl,l70,jd,bt6.put,f6,g6.pen _,rg6⟩)⟩⟩;refine⟨_,rfl,_,rfl,_,rfl,dv1,_,rfl,Mb (λ_=> ?_) (λ_=>wY ⟨_,Sub.refl _,by omega,_,_,l7,rfl,l70,jd,bt6.put,f6,g6.pen _,rg6⟩)⟩;refine⟨_,rfl,_,rfl,dv1,_,rfl,Mb (λ_=>JJ ?_) (λ_=> ?_)⟩
  ·refine⟨_,rfl,_,rfl,p,l7,fl,mo,rfl,jd,l70,mo1,by omega,λv l8 v0 v1 l80=> ?_⟩;have g8:=(g6.pen [.int l7,.int fl]).pen [.int l8,.int fl];obtain⟨a',ha',at',er',fa',na'⟩:=g8.pick hy1;refine⟨_,rfl,_,rfl,_,_,g8.at_,at',_,rfl,a',_,_,o.getD i2 0,rfl,rfl,er',Xs (by rw [G0,P4];exact hy2),_,Sub.refl _,by omega,_,_,l8,rfl,l80,jH (Ne.symm na') jd,((bt6.put).put).putNew fa',_,g8.put ha' (by omega) (by omega),λt ht=> ?_⟩;split
   ·omega
   ·exact rg6 t ht
  ·refine⟨_,rfl,_,rfl,_,rfl,Mb (λ_=> ?_) (λ_=>⟨_,Sub.refl _,by omega,_,_,l7,rfl,l70,jd,bt6.put,f6,g6.pen _,rg6⟩)⟩;refine⟨_,rfl,_,rfl,p,l7,fl,mo,rfl,jd,l70,mo1,by omega,λv l8 v0 v1 l80=> ?_⟩;have g8:=(g6.pen [.int l7,.int fl]).pen [.int l8,.int fl];obtain⟨a',ha',at',er',fa',na'⟩:=g8.pick hy1;refine⟨_,rfl,_,rfl,_,_,g8.at_,at',_,rfl,a',_,_,o.getD i2 0,rfl,rfl,er',Xs (by rw [G0,P4];exact hy2),_,Sub.refl _,by omega,_,_,l8,rfl,l80,jH (Ne.symm na') jd,((bt6.put).put).putNew fa',_,g8.put ha' (by omega) (by omega),λt ht=> ?_⟩;split
   ·omega
   ·exact rg6 t ht
 rintro _ h6 ⟨a,b,c,d,l6,rfl,l60,kp,bt,f6,g,rg⟩;have gT:GoodTab k (mkT k f6):=GoodTab.of_mk g.nn;have gl: ∀t,t<k->o.getD t 0<k:=λt ht=>(Rm ho ht).1
 have ring: ∀t,t<k->ent (mkT k f6) (o.getD t 0) (o.getD ((t+1)%k) 0)≠0:=λt ht=>by
  rw [yL (gl t ht) (gl _ (A3 _ (by omega)))];have:=rg t ht;omega
 refine Se (j:=λh=>h R) rs D.lst (λa=> .tup ((h6 a).getD [])) (by rw [g.len];omega) g.at_ (λR r=>⟨_,rfl,r⟩) (λa ha Q' q'=> ?_) ⟨_,bt.sub kp,?_⟩
 ·obtain⟨i,hi⟩:=J9 ha;have er:=(g.row i a hi).2;rw [er] at q';exact⟨_,rfl,_,er,q'⟩
 ·rw [g.tab,BF];exact q _ l6 gT ⟨o,ho,ring⟩ l60
theorem MK (h:Sq n e T)(hn:n<=8){w:List Nat}(hw:w∈jD T n):Yh T (w++w.take 1)=true:=by
 obtain⟨s,hs,lv,back⟩:=XA ((wV _).mem_iff.mp hw);have o:=ZT lv;have ne:w≠ []:=λz=>by have:=o.len;rw [z] at this;cases this
 have ww:Yh T w=true:=by
  unfold Yh;rw [S5,R7];refine⟨by cases w with|nil=>exact absurd rfl ne|cons _ _=>rfl,λp hp=> ?_⟩;obtain⟨i,hi,rfl⟩:=C6 hp;rw [List.getElem_zip,G0K];rw [G0i,S7] at hi;refine CI lv i _ _ (G1 (by omega)) ?_;rw [G1 (show i+1<w.length by omega)];exact congrArg some (getElem_congr_idx (by omega))
 rw [RD ne,CF _ ne,ww];exact back
theorem OF (h:Sq n e T)(hn:n<=8){w:List Nat}(hw:w∈jD T n):Gf T n (jt w)=true/\Ug T n (jt (w++w.take 1))=true:=by
 obtain⟨s,hs,o,_⟩:=ZU hw;have ww:=MK h hn hw;have ne:w≠ []:=λz=>by have:=o.len;rw [z] at this;cases this
 refine⟨?_,?_⟩
 ·unfold Gf kO;rw [Vz o.lt,YB,ww,G6 o.low,G6 o.nd];cases w with|nil=>exact absurd rfl ne|cons _ _=>rfl
 ·unfold Ug;rw [Vz λi hi=>(P6.mp hi).elim (o.lt i) λz=>o.lt i (M7 z),YB,ww];rfl
def wN:RDn:=λds h Q=> ∃T,∃n e:Nat,ds= [jL T]/\Sq n e T/\1<=n/\n<=6/\(WT T n).length=1/\jJ T n≠0/\Q (.bl true) h
theorem Jp (Z:Zs mg)(F:Fun K "_law_rounds_right" "_law_rounds_right" zW f fd)(VO:ji P w K mg base n "beat" ["table"] VM)(wB:ji P w K mg base n "all_rounds" ["table"] wS)(Ff:ji P w K mg base n "is_walk" ["table","thing"] zt)(MO:ji P w K mg base n "is_round" ["table","thing"] VL)(Dr:ji P w K mg base n "set_after" ["table","some","k"] WX):FnOk P w K mg base CX0 (n+1) f fd ["_law_table"] (LSp K wN):=by
 obtain⟨XY,VU,Wd,vc,vj,vq⟩:=VO;obtain⟨JD,Je,wa,zJ,zK,zL⟩:=wB;obtain⟨Tf,AN,Fi,MV,Nh,Nk⟩:=Ff;obtain⟨AL,Ae,MT,DD,DP,DU⟩:=MO;obtain⟨Aa,FP,Dy,GL,Pa,Pg⟩:=Dr;refine F.okJ zN (λds h Q q=>by obtain⟨T,n,b,e,hT,n1,n6,one,nz,q⟩:=q;subst e;rfl) _ (λcdv A outer s H E hr=>(je (Jy (i:=1) zN.nd rfl (Or.inl rfl) (jy Wd hr rfl vq vj vc (jac (jv 0) jc))) (by exact(je (Mk M8 rfl (zZ (jy wa hr rfl zL zK zJ (jac (jv 0) jc))) (ya (i:=2) zN.nd rfl (Or.inl rfl)) (je (Wn (jpt (Rf (yK (wP (jy MT hr rfl DU DP DD (jac (jv 0) (by exact(jac (jv 2) jc)))))) (Rf (yK (wP (jy Fi hr rfl Nk Nh MV (jac (jv 0) (by exact(jac (jop wK (jv 2) (Vb (jv 2) Wo (vK jN))) jc)))))) (Mi (wc oq_ne (jop wJ (jG za rfl Z.len R6 (jac (jv 2) jc)) (jv 1)) jN (jI _)))))) (jg (wu jbl)) zg) (by exact(jg (Wn (wc (Rk hr.units) (jix (jv 2) jN (λ_ _=>rfl)) (jy Dy hr rfl Pg Pa GL (jac (jv 0) (by exact(jac (Vb (jv 2) Wo (vK jN)) (by exact(jac (jG za rfl Z.len R6 (jac (jv 2) jc)) jc)))))) (by with_unfolding_all rfl)) (jg (wu jbl)) zg))))) (by exact(jg (wu jbl))))))) ?_;intro ds h Q q;obtain⟨T,n,b,e,hT,n1,n6,one,nz,q⟩:=q;subst e;have h8:n<=8:=by omega
 obtain⟨b1,b6⟩:=WG n6 nz;refine jh (λσ' h'=>σ'= [some (jL T),some (.int ((jJ T n:Nat):Int)),none]/\h=h') (λC hC=>⟨_,rfl,T,n,b,rfl,hT,n1,n6,one,hC _ _ ⟨rfl,rfl⟩⟩) ?_;rintro _ _ ⟨rfl,rfl⟩;refine jh (λσ' h'=>Sub h h') (λC hC=>⟨_,rfl,T,n,b,rfl,hT,n1,n6,λA h2 nA kA sA=> ?_⟩) (λ_ h' sb=>⟨h,sb,q⟩);refine ZK (j:=λh=>h A) ((jD T n).map jt) (λi σ' h'=> ∃x,σ'= [some (jL T),some (.int ((jJ T n:Nat):Int)),x]/\h2=h') (λi σ' h' ⟨_,_,z⟩=>by rw [<-z];exact kA) ⟨_,rfl,rfl⟩ (λσ' h' ⟨_,_,z⟩=>hC _ _ (z ▸ sA)) ?_;rintro i d _ _ hi ⟨x,rfl,rfl⟩;have il:=(G7.mp hi).1;rw [P3] at hi;obtain⟨w,hwi,rfl⟩:=F5.mp hi;have hw:=G8 hwi;obtain⟨s,hs,o,_⟩:=ZU hw;obtain⟨rt,wt⟩:=OF hT h8 hw;have l1:1<=w.length:=by rw [o.len];omega
 have l6:w.length<=6:=by rw [o.len];omega
 have ne:w≠ []:=λz=>by rw [z] at l1;simp at l1
 have okw: ∀v:List Nat,v.length<=13->okD (jt v)=true:=λv hv=>ZX (by rw [G0];omega) λd hd=>by obtain⟨x,_,rfl⟩:=D1.mp hd;rfl
 have few:qy (jt w):=λes e=>by injection e with e;rw [<-e,G0];omega
 have c1:Wm (w.map λ(k:Nat)=>D.int (k:Int)) none (some 1)=(w.take 1).map λ(k:Nat)=>D.int (k:Int):=by
  rw [Xh]
  congr 1
  unfold Wm HT.sIx;simp
 have ea:D.tup ((w.map λ(k:Nat)=>D.int (k:Int))++Wm (w.map λ(k:Nat)=>D.int (k:Int)) none (some 1))=jt (w++w.take 1):=by
  rw [c1];unfold jt;rw [List.map_append]
 have e1:D.tup (Wm (w.map λ(k:Nat)=>D.int (k:Int)) none (some 1))=jt [w.headD 0]:=by
  rw [c1,RD ne];rfl
 have hm:w.headD 0∈w:=by cases w with|nil=>exact absurd rfl ne|cons a r=>exact D9 ..
 show No _ _ _ [some (jL T),some (.int ((jJ T n:Nat):Int)),some (jt w)] h2;refine jh (λσ' h'=>σ'= [some (jL T),some (.int ((jJ T n:Nat):Int)),some (jt w)]/\h2=h') (λC2 hC2=>⟨_,rfl,_,rfl,T,jt w,n,b,rfl,hT,n1,n6,okw w (by omega),few,_,rfl,?_⟩) ?_
 ·rw [rt];refine wY ⟨_,rfl,_,rfl,_,rfl,_,rfl,?_,T,jt (w++w.take 1),n,b,by rw [ea],hT,n1,n6,okw _ (by rw [G9,D4];omega),_,rfl,?_⟩
  ·rw [c1,G0,G0,D4];exact D5 (jE (by omega))
  ·rw [wt];refine wY ⟨_,rfl,_,rfl,by omega,_,rfl,?_⟩;show if (!decide ((((w.map λ(k:Nat)=>D.int (k:Int)).length:Nat):Int)%((jJ T n:Nat):Int)=0))=true then _ else _
   have dv:jJ T n∣w.length:=Gg hw;rw [G0,<-C8,Nat.mod_eq_zero_of_dvd dv];exact wY (hC2 _ _ ⟨rfl,rfl⟩)
 rintro _ _ ⟨rfl,rfl⟩;obtain⟨t,ht⟩: ∃t,w.length=t+1:=⟨w.length-1,by omega⟩;have inS:w.headD 0∈itF (zd n T) [w.headD 0] w.length:=(RH hT h8 (o.lt _ hm) _ _).mpr ⟨o.lt _ hm,XB hT h8 hw hm⟩;refine⟨_,rfl,_,Ji ht,_,rfl,_,rfl,_,rfl,_,rfl,T,[w.headD 0],n,b,w.length,by rw [e1];simp only [G0],hT,n1,n6,CM (o.lt _ hm),by omega,Ct ⟨_,rfl,?_⟩⟩;rw [G6 inS];exact wY ⟨_,Sub.refl _,by omega,_,rfl,rfl⟩
theorem hds_in {p j:Nat}:j∈Pi T n p↔j<n/\ent T p j>0:=by unfold Pi;rw [List.mem_filter,List.mem_range,decide_eq_true_iff]
theorem Tb {x:D}{k:Int}{p j:Nat}(hp:p<n)(hj:j<n)(ha:ent T p j>0)(h: ¬wL x j=(wL x p+1)%k):OB T n x k=false:=by
 cases c:OB T n x k with
 |false=>rfl
 |true=>exact absurd (M0 (R7.mp (R7.mp c p (D2.mpr hp)) j (hds_in.mpr ⟨hj,ha⟩))) h
theorem OG {x:D}{k:Int}(h: ∀p j,p<n->j<n->ent T p j>0->wL x j=(wL x p+1)%k):OB T n x k=true:=
 R7.mpr λp hp=>R7.mpr λj hj=>G6 (h p j (D2.mp hp) (hds_in.mp hj).1 (hds_in.mp hj).2)
variable {rs:List Nat}
theorem Jl {j:Nat}:wL (jt rs) j=(rs.getD j 0:Int):=by
 unfold wL jt;dsimp only;rw [G3,G3,P3];cases rs[j]? with
 |none=>rfl
 |some x=>rfl
theorem TurnsOf.hold {d:Nat}(t:TurnsOf T n d rs)(d1:1<=d)(d6:d<=6):Fe T n (.tup [.int (d:Int),jt rs])=true:=by
 show (jU (.int (d:Int)) 1 6&&(vE (jt rs) n (d:Int)&&OB T n (jt rs) (d:Int)))=true;have a:jU (.int (d:Int)) 1 6=true:=by show (decide ((1:Int)<=d)&&decide ((d:Int)<=6))=true;rw [G6 (by omega),G6 (by omega)];rfl
 have b:vE (jt rs) n (d:Int)=true:=by
  show (decide (((rs.map λ(k:Nat)=>D.int (k:Int)).length:Int)=n)&&(rs.map λ(k:Nat)=>D.int (k:Int)).all (λx=>jU x 0 ((d:Int)-1)))=true;rw [G0,t.len,G6 rfl,G0T,A5,R7];intro x hx;obtain⟨j,hj,rfl⟩:=C6 hx;have:=t.lt j (by rw [<-t.len];exact hj);rw [G3,G1 hj] at this;have this:rs[j]<d:=this;show (decide ((0:Int)<=(rs[j]:Int))&&decide ((rs[j]:Int)<=(d:Int)-1))=true;rw [G6 (by omega),G6 (by omega)];rfl
 rw [a,b,OG λp j hp hj ar=>by rw [Jl,Jl,t.go p j hp hj (by omega),C8];rfl];rfl
theorem TurnsOf.less {d l:Nat}(t:TurnsOf T n d rs)(l1:1<=l)(hl:l∣d):TurnsOf T n l (rs.map λr=>r%l):=by
 have at_: ∀j,(rs.map λr=>r%l).getD j 0=rs.getD j 0%l:=λj=>by
  rw [G3,G3,P3];cases rs[j]? with
  |none=>rw [Option.map_none];exact(Y9 _).symm
  |some x=>rfl
 refine⟨by rw [G0];exact t.len,λj hj=>by rw [at_];exact A3 _ l1,λi j hi hj ar=> ?_⟩;rw [at_,at_,t.go i j hi hj ar,Nat.mod_mod_of_dvd _ hl,G1d]
/-- one rest otherwise: they hold no more -/
theorem TurnsOf.later {d:Nat}(h:Sq n e T)(hn:n<=8)(n1:1<=n)(one:(WT T n).length=1)(t:TurnsOf T n d rs)(d2:2<=d)(db:d=VA T n){ls:List Nat}(e1: ∀j,j+1<n->ls.getD j 0=rs.getD j 0)(e2:ls.getD (n-1) 0=(rs.getD (n-1) 0+1)%d):Fe T n (.tup [.int (d:Int),jt ls])=false:=by
 have r1:=t.lt (n-1) (by omega);have noloop: ∀i,i<n->ent T i i=0:=λi hi=>by
  rcases G0y (ent T i i=0) with z|z
  ·exact z
  ·have:=wj h hn 1 hi ((vM h hn).mpr z);have:=Nat.le_of_dvd (by decide) this;omega
 obtain⟨u,hu,ar⟩: ∃u,u<n/\ent T u (n-1)≠0:=by
  have: ∃m k,1<=k/\m<n/\RP n T k m (n-1):=by
   rcases H0 1 n with z|z
   ·obtain⟨k,r⟩:=VB h hn one (show 0<n by omega) (show n-1<n by omega);refine⟨0,k,?_,by omega,r⟩;rcases Nat.eq_zero_or_pos k with y|y
    ·rw [y] at r;have:=(yA (show 0<n by omega) (show n-1<n by omega)).mp r;omega
    ·exact y
   ·have nz:jD T n≠ []:=λw=>by
     have:VA T n=0:=by unfold VA;rw [w];rfl
     omega
    obtain⟨w,hw⟩:=G0G _ nz;obtain⟨l1,_,cl,_⟩:=Jk h hn hw;have hp:w.getD (0%w.length) 0∈w:=by
     rw [Y9,G3,G1 (by omega)];exact R8 _
    have c0:=cl 0;have r:=XB h hn hw hp;rw [show w.getD (0%w.length) 0=n-1 by omega] at r;exact⟨n-1,w.length,l1,by omega,r⟩
  obtain⟨m,k,k1,hm,r⟩:=this;obtain⟨j,rfl⟩: ∃j,k=j+1:=⟨k-1,by omega⟩;obtain⟨u,hu,_,b⟩:=(WR h hn j 1 hm (by omega)).mp r;exact⟨u,hu,(vM h hn).mp b⟩
 have un:u≠n-1:=λz=>ar (by rw [z];exact noloop _ (by omega))
 have g:=t.go u (n-1) hu (by omega) ar;have nn:=(h.ent_nn hu (show n-1<n by omega)).1;have no:OB T n (jt ls) (d:Int)=false:=Tb hu (show n-1<n by omega) (by omega) (by
  rw [Jl,Jl,e2,e1 u (by omega)];intro z;have z:(((rs.getD (n-1) 0+1)%d:Nat):Int)=(((rs.getD u 0+1)%d:Nat):Int):=by rw [z,C8];rfl
  rw [<-g] at z;have z:(rs.getD (n-1) 0+1)%d=rs.getD (n-1) 0:=by omega
  rcases H0 (rs.getD (n-1) 0+1) d with y|y
  ·rw [N9 y] at z;omega
  ·rw [show rs.getD (n-1) 0+1=d by omega,Nat.mod_self] at z;omega)
 show (jU (.int (d:Int)) 1 6&&(vE (jt ls) n (d:Int)&&OB T n (jt ls) (d:Int)))=false;rw [no,G1n,G1n]
def yi:RDn:=λds h Q=> ∃T,∃n e:Nat,ds= [jL T]/\Sq n e T/\1<=n/\n<=6/\(WT T n).length=1/\jJ T n≠0/\Q (.bl true) h
theorem Zh (Z:Zs mg)(F:Fun K "_law_turns_right" "_law_turns_right" wn f fd)(WI:ji P w K mg base n "turns_of" ["table"] Zg)(GC:ji P w K mg base n "turns_hold" ["table","thing"] ZZ)(VO:ji P w K mg base n "beat" ["table"] VM):FnOk P w K mg base CX0 (n+1) f fd ["_law_table"] (LSp K yi):=by
 obtain⟨GS,Qa,WK,Zq,Zy,ZC⟩:=WI;obtain⟨FH,Fv,vZ,ve,vo,vw⟩:=GC;obtain⟨XY,VU,Wd,vc,vj,vq⟩:=VO;refine F.okJ jK (λds h Q q=>by obtain⟨T,n,b,e,hT,n1,n6,one,nz,q⟩:=q;subst e;rfl) _ (λcdv A outer s H E hr=>(je (Sd (jy WK hr rfl ZC Zy Zq (jac (jv 0) jc)) (Rg (i:=1) (j:=2) rfl jK.nd rfl rfl (Or.inl rfl) (Or.inl rfl))) (by exact(je (Wn (jpt (Rf (wc (Re hr.units) (jv 1) (jy Wd hr rfl vq vj vc (jac (jv 0) jc)) (jI _)) (Mi (yK (wP (jy vZ hr rfl vw vo ve (jac (jv 0) (by exact(jac (FG (jac (jv 1) (by exact(jac (jv 2) jc)))) jc))))))))) (jg (wu jbl)) zg) (by exact(je (Mk M8 rfl (xq rfl Z.range (jac jN (by exact(jac jN jc)))) (ya (i:=3) jK.nd rfl (by first|exact Or.inr rfl|exact Or.inl rfl)) (je (Jy (i:=4) jK.nd rfl (Or.inl rfl) (wC wg rfl Z.tuple (by decide +kernel) (jac (jlc (i:=6) (js:= [6]) rfl (jk (by rfl)) (zZ (jv 2)) (by decide) jK.nd rfl (by first|exact Or.inl rfl|exact Or.inr rfl) (λX' hX=>jP) (λX' hX=>by obtain⟨C,s₀,H₀,ex,rfl⟩:=hX;exact(jop wJ (jv 6) (jv 3)))) jc))) (by exact(jg (Wn (jpt (Mj (wc oq_eq (jop wJ (jv 1) (jv 3)) jN (jI _)) (By (yK (wP (jy vZ hr rfl vw vo ve (jac (jv 0) (by exact(jac (FG (jac (jv 3) (by exact(jac (jv 4) jc)))) jc))))))))) (jg (wu jbl)) zg))))) (by exact(je (Jy (i:=5) jK.nd rfl (Or.inl rfl) (jop wK (Vb (jv 2) Wo (vK (KG jN))) (FG (jac (jop wJ (jop wK (jix (jv 2) (KG jN) (λ_ _=>rfl)) jN) (jv 1)) jc)))) (by exact(jg (wu (jor (Bx oq_eq (jv 1) jN (jI _)) (Ay (qi (jy vZ hr rfl vw vo ve (jac (jv 0) (by exact(jac (FG (jac (jv 1) (by exact(jac (jv 5) jc)))) jc)))))))))))))))))) ?_;intro ds h Q q;obtain⟨T,n,b,e,hT,n1,n6,one,nz,q⟩:=q;subst e;have h8:n<=8:=by omega
 obtain⟨b1,b6⟩:=WG n6 nz;refine jh (λσ' h'=> ∃rs,σ'= [some (jL T),some (.int ((jJ T n:Nat):Int)),some (jt rs),none,none,none,none]/\TurnsOf T n (jJ T n) rs/\Sub h h') (λC hC=>⟨_,rfl,T,n,b,rfl,hT,n1,n6,one,nz,λrs h' tr _ sb=>⟨_,_,rfl,hC _ _ ⟨rs,rfl,tr,sb⟩⟩⟩) ?_;rintro _ h1 ⟨rs,rfl,tr,sb⟩;have okw: ∀v:List Nat,v.length<=13->okD (jt v)=true:=λv hv=>ZX (by rw [G0];omega) λd hd=>by obtain⟨x,_,rfl⟩:=D1.mp hd;rfl
 have okp: ∀ (k:Int) (v:List Nat),v.length<=13->okD (.tup [.int k,jt v])=true:=λk v hv=>ZX (by show 2<=1000;decide) λd hd=>by
  simp only [R0,N5,Y6] at hd;rcases hd with e|e<;>subst e
  ·rfl
  ·exact okw v hv
 have rl:=tr.len;have hold:=tr.hold b1 b6;refine jh (λσ' h'=>σ'= [some (jL T),some (.int ((jJ T n:Nat):Int)),some (jt rs),none,none,none,none]/\h1=h') (λC hC=>⟨_,rfl,_,rfl,T,n,b,rfl,hT,n1,n6,one,?_⟩) ?_
 ·show ∃c,D.bl (!decide (((jJ T n:Nat):Int)=((jJ T n:Nat):Int)))= .bl c/\_;rw [G6 rfl];refine⟨_,rfl,wY ⟨_,rfl,_,rfl,_,rfl,(by show 2<=sizeLine;decide),T,.tup [.int ((jJ T n:Nat):Int),jt rs],n,b,rfl,hT,n1,n6,okp _ rs (by omega),_,rfl,?_⟩⟩;rw [hold];exact wY (hC _ _ ⟨rfl,rfl⟩)
 rintro _ _ ⟨rfl,rfl⟩;refine jh (λσ' h'=> ∃x3 x4,σ'= [some (jL T),some (.int ((jJ T n:Nat):Int)),some (jt rs),x3,x4,none,none]/\h1=h') (λC hC=> ?_) ?_
 ·refine LU 1 6 (λi σ' h'=> ∃x3 x4,σ'= [some (jL T),some (.int ((jJ T n:Nat):Int)),some (jt rs),x3,x4,none,none]/\h1=h') (by decide) (by decide) (by decide) (λR r=>r) ⟨_,_,rfl,rfl⟩ (λσ' h' z=>hC _ _ z) ?_;rintro i _ _ hi ⟨x3,x4,rfl,rfl⟩;show No _ _ _ [some (jL T),some (.int ((jJ T n:Nat):Int)),some (jt rs),some (.int (1+(i:Int))),x4,none,none] h1;rw [show (1+(i:Int))=((1+i:Nat):Int) by omega];generalize hl:1+i=l;refine jh (λσ' h'=>σ'= [some (jL T),some (.int ((jJ T n:Nat):Int)),some (jt rs),some (.int (l:Int)),some (jt (rs.map λr=>r%l)),none,none]/\h1=h') (λC2 hC2=>Se rs (λ(k:Nat)=> .int (k:Int)) (λ(k:Nat)=> .int ((k%l:Nat):Int)) (by omega) rfl (λR r=>⟨_,rfl,r⟩) (λk hk Q' q'=>⟨_,rfl,_,rfl,by omega,by rw [<-Int.natCast_emod];exact q'⟩) (hC2 _ _ ⟨by unfold jt;rw [List.map_map];rfl,rfl⟩)) ?_;rintro _ _ ⟨rfl,rfl⟩;refine⟨_,rfl,_,rfl,by omega,_,rfl,?_⟩;show if decide (((jJ T n:Nat):Int)%(l:Int)=0)=true then _ else _
  by_cases z:((jJ T n:Nat):Int)%(l:Int)=0
  ·rw [G6 z];have dv:l∣jJ T n:=Nat.dvd_of_mod_eq_zero (by rw [<-C8] at z;omega);refine JJ ⟨_,rfl,_,rfl,_,rfl,(by show 2<=sizeLine;decide),T,.tup [.int (l:Int),jt (rs.map λr=>r%l)],n,b,rfl,hT,n1,n6,okp _ _ (by rw [G0];omega),_,rfl,?_⟩;rw [(tr.less (by omega) dv).hold (by omega) (by omega)];exact wY ⟨_,Sub.refl _,by omega,_,_,rfl,rfl⟩
  ·rw [D7 z];exact wY (wY ⟨_,Sub.refl _,by omega,_,_,rfl,rfl⟩)
 rintro _ _ ⟨x3,x4,rfl,rfl⟩;obtain⟨t,ht⟩: ∃t,rs.length=t+1:=⟨rs.length-1,by omega⟩;have cd:Wm (rs.map λ(k:Nat)=>D.int (k:Int)) none (some (-1))=(rs.take t).map λ(k:Nat)=>D.int (k:Int):=by
  rw [Xh]
  congr 1
  show (rs.drop 0).take ((-1+(rs.length:Int)).toNat-0)=_;rw [G0B,G1B,ht]
  congr 1
  omega
 let ls:=rs.take t++ [(rs.getLastD 0+1)%jJ T n]
 refine jh (λσ' h'=>σ'= [some (jL T),some (.int ((jJ T n:Nat):Int)),some (jt rs),x3,x4,some (jt ls),none]/\h1=h') (λC hC=>⟨_,rfl,_,rfl,_,rfl,_,Cw ht,_,rfl,by omega,(by show 1<=sizeLine;decide),?_,hC _ _ ⟨?_,rfl⟩⟩) ?_
 ·rw [cd,G0,D4];exact D5 (jE (by simp only [P9,T4];omega))
 ·rw [cd];show [some (jL T),some (.int ((jJ T n:Nat):Int)),some (jt rs),x3,x4,some (.tup (((rs.take t).map λ(k:Nat)=>D.int (k:Int))++ [.int ((((rs.getLastD 0:Nat):Int)+1)%((jJ T n:Nat):Int))])),none]= [some (jL T),some (.int ((jJ T n:Nat):Int)),some (jt rs),x3,x4,some (.tup ((rs.take t++ [(rs.getLastD 0+1)%jJ T n]).map λ(k:Nat)=>D.int (k:Int))),none];rw [T6];rfl
 rintro _ _ ⟨rfl,rfl⟩;refine⟨_,rfl,_,rfl,?_⟩;show if decide (((jJ T n:Nat):Int)=1)=true then _ else _
 by_cases z:((jJ T n:Nat):Int)=1
 ·rw [G6 z];exact JJ ⟨h,sb,q⟩
 ·rw [D7 z];refine wY ⟨_,rfl,_,rfl,_,rfl,(by show 2<=sizeLine;decide),T,.tup [.int ((jJ T n:Nat):Int),jt ls],n,b,rfl,hT,n1,n6,okp _ ls (by show (rs.take t++ [_]).length<=13;rw [G9,D4,B2];omega),_,rfl,h,sb,?_⟩;have tn:t=n-1:=by omega
  have la:rs.getLastD 0=rs.getD (n-1) 0:=by
   rw [B7,B8,G3,rl]
  have e1: ∀j,j+1<n->ls.getD j 0=rs.getD j 0:=λj hj=>by
   show (rs.take t++ [_]).getD j 0=_;rw [G3,G3,D8 (by rw [D4];omega),K5 (by omega)]
  have e2:ls.getD (n-1) 0=(rs.getD (n-1) 0+1)%jJ T n:=by
   show (rs.take t++ [(rs.getLastD 0+1)%jJ T n]).getD (n-1) 0=_;rw [G3,P5 (by rw [D4];omega),D4,show n-1-min t rs.length=0 by omega,la];rfl
  rw [TurnsOf.later hT h8 n1 one tr (by omega) rfl e1 e2];exact q
theorem kD (Z:Zs mg)(F:Fun K "law" "law" ME f fd)(Dk:ji P w K mg base n "_law_cell" ["_law_script","_law_k"] Ya)(ML:ji P w K mg base n "_law_pen" ["_law_cell_here"] VN)(Dl:ji P w K mg base n "_law_size" ["_law_pen_here"] Yb)(Zi:ji P w K mg base n "_law_joined_table" ["_law_pen_here","_law_size_here"] wM)(Wa:ji P w K mg base n "_law_turns_right" ["_law_table"] yi)(Zj:ji P w K mg base n "_law_rounds_right" ["_law_table"] wN)(Fh:ji P w K mg base n "renamed" ["table","order"] UP)(vV:ji P w K mg base n "_law_order" ["_law_pen_here","_law_many"] va)(OL:ji P w K mg base n "turned" ["table"] Gu)(wB:ji P w K mg base n "all_rounds" ["table"] wS)(VO:ji P w K mg base n "beat" ["table"] VM)(WI:ji P w K mg base n "turns_of" ["table"] Zg):FnOk P w K mg base CX0 (n+1) f fd ["_law_script"] (LSp K Bp):=by
 obtain⟨OV,FK,Ds,GF,GV,Pb⟩:=Dk;obtain⟨AI,Ab,MQ,Dz,DM,DR⟩:=ML;obtain⟨OW,FL,Dt,GH,GW,Pc⟩:=Dl;obtain⟨GO,Qh,Zk,Jq,Js,Ju⟩:=Zi;obtain⟨Pj,GT,Wc,Zn,Zv,Zz⟩:=Wa;obtain⟨GP,Qi,Zl,Jr,Jt,Jv⟩:=Zj;obtain⟨Th,AQ,Fk,MX,Nj,Nm⟩:=Fh;obtain⟨Up,VT,vX,vb,vh,vp⟩:=vV;obtain⟨Tv,Tl,OP,Fo,FA,FE⟩:=OL;obtain⟨JD,Je,wa,zJ,zK,zL⟩:=wB;obtain⟨XY,VU,Wd,vc,vj,vq⟩:=VO;obtain⟨GS,Qa,WK,Zq,Zy,ZC⟩:=WI;refine F.okJ Ua (λds h Q q=>by obtain⟨ns,e,hh,hns,q⟩:=q;subst e;rfl) _ (λcdv A outer s H E hr=>(je (Mk M8 rfl (BA (jop wK (Bz (jac (jy Ds hr rfl Pb GV GF (jac (jv 0) (by exact(jac jN jc)))) jc)) (Vb (jv 0) (vK jN) (vK jN)))) (ya (i:=1) Ua.nd rfl (Or.inl rfl)) (je (Jy (i:=2) Ua.nd rfl (Or.inl rfl) (jy MQ hr rfl DR DM Dz (jac (jv 1) jc))) (by exact(je (Jy (i:=3) Ua.nd rfl (Or.inl rfl) (jy Dt hr rfl Pc GW GH (jac (jv 2) jc))) (by exact(je (Jy (i:=4) Ua.nd rfl (Or.inl rfl) (jy Zk hr rfl Ju Js Jq (jac (jv 2) (by exact(jac (jv 3) jc))))) (by exact(je (Wn (jpt (Rf (yK (wP (jy Zl hr rfl Jv Jt Jr (jac (jv 4) jc)))) (Mi (yK (wP (jy Wc hr rfl Zz Zv Zn (jac (jv 4) jc))))))) (jg (wu jbl)) zg) (by exact(je (Jy (i:=5) Ua.nd rfl (Or.inl rfl) (jy Fk hr rfl Nm Nj MX (jac (jv 4) (by exact(jac (jy vX hr rfl vp vh vb (jac (jv 2) (by exact(jac (jv 3) jc)))) jc))))) (by exact(jg (Mk M8 rfl (BA (Bz (jac (jv 5) (by exact(jac (jy OP hr rfl FE FA Fo (jac (jv 4) jc)) jc))))) (ya (i:=6) Ua.nd rfl (Or.inl rfl)) (je (Wn (jpt (Rf (wc (Re hr.units) (jy Wd hr rfl vq vj vc (jac (jv 6) jc)) (jy Wd hr rfl vq vj vc (jac (jv 4) jc)) (jI _)) (Mi (wc oq_ne (jG za rfl Z.len R6 (jac (jy wa hr rfl zL zK zJ (jac (jv 6) jc)) jc)) (jG za rfl Z.len R6 (jac (jy wa hr rfl zL zK zJ (jac (jv 4) jc)) jc)) (jI _))))) (jg (wu jbl)) zg) (by exact(jg (Wn (wc (Re hr.units) (jix (jy WK hr rfl ZC Zy Zq (jac (jv 6) jc)) jN (λ_ _=>rfl)) (jy Wd hr rfl vq vj vc (jac (jv 4) jc)) (jI _)) (jg (wu jbl)) zg))))))))))))))))) (by exact(jg (wu jbl))))) ?_;intro ds h Q q;obtain⟨ns,e,hh,hns,q⟩:=q;subst e;refine jh (λσ' h'=>True) (λC hC=> ?_) (λσ' h3 hV=>⟨h3,Sub.refl _,q h3⟩);refine⟨_,rfl,ns,0,rfl,(by decide),λn0=>⟨(by show 1<=sizeLine;decide),λp1 e1=>⟨_,rfl,_,rfl,_,rfl,λp2 e2=>⟨_,_,jM jd e2,jd,?_,λp3 e3=>⟨p3,rfl,?_⟩⟩⟩⟩⟩
 ·have:(Wm ns (some 1) (some 3)).length<=ns.length:=by unfold Wm;rw [List.length_take,List.length_drop];omega
  rw [G0];exact D5 (jE (by simp only [P9,T4];omega))
 generalize hcs:([D.int n0]++(Wm ns (some 1) (some 3)).map D.int)=cs;have hint: ∀d∈cs,∃c,d= .int c:=λd hd=>by
  rw [<-hcs] at hd;rcases P6.mp hd with z|z
  ·exact⟨n0,G5.mp z⟩
  ·obtain⟨x,_,e⟩:=D1.mp z;exact⟨x,e.symm⟩
 refine ZK cs (λi σ' h'=> ∃a1 a2 a3 a4 a5 a6,σ'= [some (.scr ns),a1,a2,a3,a4,a5,a6]/\h' p3=some cs) (λi σ' h' ⟨_,_,_,_,_,_,_,k⟩=>k) ⟨_,_,_,_,_,_,rfl,jd⟩ (λσ' h' _=>hC _ _ True.intro) ?_;rintro i d _ h4 hi ⟨b1,b2,b3,b4,b5,b6,rfl,k3⟩;obtain⟨c,rfl⟩:=hint d (G8 hi);have hil:i<cs.length:=(G7.mp hi).1;show No _ _ _ [some (.scr ns),some (.int c),b2,b3,b4,b5,b6] h4;refine jh (λσ' h'=> ∃p l fl,σ'= [some (.scr ns),some (.int c),some (.lst p),b3,b4,b5,b6]/\h' p=some [.int l,.int fl]/\0<=l/\h' p3=some cs/\p3≠p) (λC hC=> ?_) ?_
 ·refine⟨_,rfl,c,rfl,λp l fl ep l0 _=>hC _ _ ⟨p,l,fl,rfl,jd,l0,jM k3 ep,Ne.symm (zA k3 ep)⟩⟩
 rintro _ h5 ⟨p,l,fl,rfl,kp,l0,k3,n3⟩;refine jh (λσ' h'=> ∃ (n:Nat) (l2:Int),σ'= [some (.scr ns),some (.int c),some (.lst p),some (.int (n:Int)),b4,b5,b6]/\1<=n/\n<=6/\h' p=some [.int l2,.int fl]/\0<=l2/\h' p3=some cs) (λC hC=>⟨_,rfl,p,l,fl,rfl,kp,l0,λn l2 n1 n6 l20=>hC _ _ ⟨n,l2,rfl,n1,n6,jd,l20,jH n3 k3⟩⟩) ?_;clear kp l0 k3;rintro _ h6 ⟨n,l2,rfl,n1,n6,kp,l20,k3⟩;refine jh (λσ' h'=> ∃T l2,σ'= [some (.scr ns),some (.int c),some (.lst p),some (.int (n:Int)),some (jL T),b5,b6]/\Sq n 20 T/\(WT T n).length=1/\jJ T n≠0/\h' p=some [.int l2,.int fl]/\0<=l2/\h' p3=some cs) (λC hC=>⟨_,rfl,_,rfl,p,l2,fl,n,rfl,kp,l20,n1,n6,λT l3 gT ⟨o,ho,ring⟩ l30=>hC _ _ ⟨T,l3,rfl,gT.sq,(RI gT.sq (by omega) n1 ho ring).1,(RI gT.sq (by omega) n1 ho ring).2,jd,l30,jH n3 k3⟩⟩) ?_;clear kp l20 k3;rintro _ h7 ⟨T,l2,rfl,hT,one,nz,kp,l20,k3⟩;have h8:n<=8:=by omega
 refine jh (λσ' h'=>σ'= [some (.scr ns),some (.int c),some (.lst p),some (.int (n:Int)),some (jL T),b5,b6]/\h7=h') (λC hC=>⟨_,rfl,T,n,20,rfl,hT,n1,n6,one,nz,_,rfl,wY ⟨_,rfl,T,n,20,rfl,hT,n1,n6,one,nz,_,rfl,wY (hC _ _ ⟨rfl,rfl⟩)⟩⟩) ?_;rintro _ _ ⟨rfl,rfl⟩;refine jh (λσ' h'=> ∃o l2,σ'= [some (.scr ns),some (.int c),some (.lst p),some (.int (n:Int)),some (jL T),some (jL (Ve n o T)),b6]/\Ordr n o/\h' p=some [.int l2,.int fl]/\0<=l2/\h' p3=some cs) (λC hC=>⟨_,rfl,_,rfl,_,rfl,p,l2,fl,n,rfl,kp,l20,n6,λo l3 ho l30=>⟨T,n,20,o,rfl,hT,ho,n1,n6,hC _ _ ⟨o,l3,rfl,ho,jd,l30,jH n3 k3⟩⟩⟩) ?_;clear kp l20 k3;rintro _ h9 ⟨o,l3,rfl,ho,kp,l30,k3⟩;have hR:Sq n 20 (Ve n o T):=hT.ren ho.ord;have aR:=CP hT ho h8 n1 hR;have aT:=MC hT h8 n1;have good: ∀d∈ [jL (Ve n o T),jL (ZN n T)],∃U,d=jL U/\Sq n 20 U/\AlikeT n T U:=λd hd=>by
  simp only [R0,N5,Y6] at hd;rcases hd with e|e
  ·exact⟨_,e,hR,aR⟩
  ·exact⟨_,e,hT.turn,aT⟩
 refine⟨_,rfl,_,rfl,T,n,20,rfl,hT,n1,n6,(by show 2<=sizeLine;decide),λW eW=>⟨W,rfl,?_⟩⟩;refine ZK [jL (Ve n o T),jL (ZN n T)] (λi σ' h'=> ∃x,σ'= [some (.scr ns),some (.int c),some (.lst p),some (.int (n:Int)),some (jL T),some (jL (Ve n o T)),x]/\h' W=some [jL (Ve n o T),jL (ZN n T)]/\h' p3=some cs) (λi σ' h' ⟨_,_,z,_⟩=>z) ⟨_,rfl,jd,jM k3 eW⟩ (λσ' h' ⟨x,e,_,k3⟩=>⟨_,Sub.refl _,by omega,_,_,_,_,_,_,e,k3⟩) ?_;clear kp k3;rintro i d _ hA hd ⟨x,rfl,kW,k3⟩;have il:=(G7.mp hd).1;obtain⟨U,rfl,hU,al⟩:=good d (G8 hd);have oneU:=al.one one;have bU:jJ U n=jJ T n:=al.beat;show No _ _ _ [some (.scr ns),some (.int c),some (.lst p),some (.int (n:Int)),some (jL T),some (jL (Ve n o T)),some (jL U)] hA;refine jh (λσ' h'=>σ'= [some (.scr ns),some (.int c),some (.lst p),some (.int (n:Int)),some (jL T),some (jL (Ve n o T)),some (jL U)]/\Sub hA h') (λC hC=>⟨_,rfl,U,n,20,rfl,hU,n1,n6,oneU,_,rfl,T,n,20,rfl,hT,n1,n6,one,?_⟩) ?_
 ·show ∃c,D.bl (!decide (((jJ U n:Nat):Int)=((jJ T n:Nat):Int)))= .bl c/\_;rw [bU,G6 rfl];refine⟨_,rfl,wY ⟨_,rfl,U,n,20,rfl,hU,n1,n6,λA hB fA kA sA=> ?_⟩⟩;refine⟨_,kA,_,rfl,T,n,20,rfl,hT,n1,n6,λB hE fB kB sE=>⟨_,kB,_,rfl,?_⟩⟩;show if (!decide (((((jD U n).map jt).length:Nat):Int)=((((jD T n).map jt).length:Nat):Int)))=true then _ else _
  rw [G0,G0,al.many,G6 rfl];exact wY (hC _ _ ⟨rfl,sA.trans sE⟩)
 rintro _ hB ⟨rfl,sB⟩;refine⟨_,rfl,U,n,20,rfl,hU,n1,n6,oneU,by rw [bU];exact nz,λrs hE tr _ sE=>⟨_,rfl,_,rfl,T,n,20,rfl,hT,n1,n6,one,?_⟩⟩;show ∃c,D.bl (!decide (((jJ U n:Nat):Int)=((jJ T n:Nat):Int)))= .bl c/\_;rw [bU,G6 rfl];exact⟨_,rfl,wY ⟨hA,sB.trans sE,by omega,_,rfl,kW,k3⟩⟩
end
theorem kE {l:PySem.W.OpenLaw}{w:World}{K:PySem.W.Frag}{h:Heap}{mg:Str->Option Value}{fa:Addr}(X:K.In h)(G:h.Ns mainGlobals mg)(hfa:mg "law" =some (.ref fa))
 {f0:Addr}{e0:FuncData}(d0:DefIn K "is_whole" Wx f0 e0)
 {f1:Addr}{e1:FuncData}(d1:DefIn K "is_within" JV f1 e1)
 {f2:Addr}{e2:FuncData}(d2:DefIn K "is_place" Wy f2 e2)
 {f3:Addr}{e3:FuncData}(d3:DefIn K "are_places" vN f3 e3)
 {f4:Addr}{e4:FuncData}(d4:DefIn K "rises" PX f4 e4)
 {f5:Addr}{e5:FuncData}(d5:DefIn K "is_set" XC f5 e5)
 {f6:Addr}{e6:FuncData}(d6:DefIn K "is_order" Wz f6 e6)
 {f7:Addr}{e7:FuncData}(d7:DefIn K "is_table_row" yC f7 e7)
 {f8:Addr}{e8:FuncData}(d8:DefIn K "has_table_form" wE f8 e8)
 {f9:Addr}{e9:FuncData}(d9:DefIn K "want_table" vO f9 e9)
 {f10:Addr}{e10:FuncData}(d10:DefIn K "want_set" WA f10 e10)
 {f11:Addr}{e11:FuncData}(d11:DefIn K "want_order" vP f11 e11)
 {f12:Addr}{e12:FuncData}(d12:DefIn K "want_number" yX f12 e12)
 {f13:Addr}{e13:FuncData}(d13:DefIn K "reaches" VD f13 e13)
 {f14:Addr}{e14:FuncData}(d14:DefIn K "pieces_by" JX f14 e14)
 {f15:Addr}{e15:FuncData}(d15:DefIn K "pieces" XF f15 e15)
 {f16:Addr}{e16:FuncData}(d16:DefIn K "joined" XG f16 e16)
 {f17:Addr}{e17:FuncData}(d17:DefIn K "heads" Da f17 e17)
 {f18:Addr}{e18:FuncData}(d18:DefIn K "has_walk_form" yf f18 e18)
 {f19:Addr}{e19:FuncData}(d19:DefIn K "is_walk" VE f19 e19)
 {f20:Addr}{e20:FuncData}(d20:DefIn K "greatest_into" yg f20 e20)
 {f21:Addr}{e21:FuncData}(d21:DefIn K "is_round" WB f21 e21)
 {f22:Addr}{e22:FuncData}(d22:DefIn K "all_rounds" vQ f22 e22)
 {f23:Addr}{e23:FuncData}(d23:DefIn K "beat" CU f23 e23)
 {f24:Addr}{e24:FuncData}(d24:DefIn K "step_after" vR f24 e24)
 {f25:Addr}{e25:FuncData}(d25:DefIn K "set_after" JY f25 e25)
 {f26:Addr}{e26:FuncData}(d26:DefIn K "turned" XH f26 e26)
 {f27:Addr}{e27:FuncData}(d27:DefIn K "renamed" VF f27 e27)
 {f28:Addr}{e28:FuncData}(d28:DefIn K "are_rests" JZ f28 e28)
 {f29:Addr}{e29:FuncData}(d29:DefIn K "are_turns" Za f29 e29)
 {f30:Addr}{e30:FuncData}(d30:DefIn K "steps_from_start" wm f30 e30)
 {f31:Addr}{e31:FuncData}(d31:DefIn K "turns_hold" vS f31 e31)
 {f32:Addr}{e32:FuncData}(d32:DefIn K "turns_of" WC f32 e32)
 {f33:Addr}{e33:FuncData}(d33:DefIn K "_law_cell" Zb f33 e33)
 {f34:Addr}{e34:FuncData}(d34:DefIn K "_law_pen" WD f34 e34)
 {f35:Addr}{e35:FuncData}(d35:DefIn K "_law_draw" Zc f35 e35)
 {f36:Addr}{e36:FuncData}(d36:DefIn K "_law_size" Zd f36 e36)
 {f37:Addr}{e37:FuncData}(d37:DefIn K "_law_order" vT f37 e37)
 {f38:Addr}{e38:FuncData}(d38:DefIn K "_law_joined_table" zV f38 e38)
 {f39:Addr}{e39:FuncData}(d39:DefIn K "_law_rounds_right" zW f39 e39)
 {f40:Addr}{e40:FuncData}(d40:DefIn K "_law_turns_right" wn f40 e40)
 {f41:Addr}{e41:FuncData}(d41:DefIn K "law" ME f41 e41)
 {tk0:Tok}(v0:PySem.W.nsIn K mainGlobals "MOST_ROWS" =some (some (.int 6 tk0)))
 {tk1:Tok}(v1:PySem.W.nsIn K mainGlobals "MOST_STEPS" =some (some (.int 1000000000 tk1)))
 {tk2:Tok}(v2:PySem.W.nsIn K mainGlobals "MOST_TURNS" =some (some (.int 6 tk2)))
 (z:zsB K=true)
 : ∃fd:FuncData,(∀ (s:Shared) (v:Value),BindsTo s fd ⟨[v],[]⟩ [("_law_script",v)])/\ ∀base:Heap,K.In base->base.Ns mainGlobals mg->Bm mg base->FnOk l.prog w K mg base CX0 10 fa fd ["_law_script"] (LSp K Bp):=by
 have e:=hfa.symm.trans (d41.nm X G);cases e;have Zm: ∃tk,mg "MOST_ROWS" =some (.int 6 tk):=⟨_,G1y X G v0⟩;have Ja: ∃tk,mg "MOST_STEPS" =some (.int 1000000000 tk):=⟨_,G1y X G v1⟩;have Jb: ∃tk,mg "MOST_TURNS" =some (.int 6 tk):=⟨_,G1y X G v2⟩;have Z:=xA X G z;obtain⟨_,_,kV,dc,pm,an,cd,ct,_,rfl,_⟩:=d41.fn.ex;refine⟨PySem.W.fnOf "law" "law" (vI ME) (wX ME) (jf ME) .none kV dc pm an cd ct,λs v=> .of_eq rfl,λbase _ _ B=> ?_⟩;have UQ:=λn=>d0.cal l w base X G (Dc (n:=n+0) Z d0.fn)
 have vf:=λn=>d1.cal l w base X G (Go (n:=n+1) Z d1.fn (UQ (n+0)))
 have Na:=λn=>d2.cal l w base X G (De (n:=n+2) Z d2.fn (vf (n+0)))
 have yt:=λn=>d3.cal l w base X G (XJ (n:=n+3) Z d3.fn (Na (n+0)))
 have Te:=λn=>d4.cal l w base X G (Ox (n:=n+0) Z d4.fn)
 have OR:=λn=>d5.cal l w base X G (CY (n:=n+4) Z d5.fn (Te (n+3)) (yt (n+0)))
 have MZ:=λn=>d6.cal l w base X G (Df (n:=n+4) Z d6.fn (yt (n+0)))
 have Uo:=λn=>d7.cal l w base X G (VI (n:=n+1) Z d7.fn (UQ (n+0)))
 have Yo:=λn=>d8.cal l w base X G (WF (n:=n+2) Z d8.fn (Uo (n+0)) Zm)
 have zh:=λn=>d9.cal l w base X G (XL (n:=n+3) Z d9.fn (Yo (n+0)))
 have Nc:=λn=>d10.cal l w base X G (Dg (n:=n+5) Z d10.fn (OR (n+0)))
 have GN:=λn=>d11.cal l w base X G (XM (n:=n+5) Z d11.fn (MZ (n+0)))
 have XX:=λn=>d12.cal l w base X G (Uj (n:=n+2) Z d12.fn (vf (n+0)))
 have Fr:=λn=>d13.cal l w base X G (MF (n:=n+0) Z d13.fn)
 have DJ:=λn=>d14.cal l w base X G (Gq (n:=n+0) Z d14.fn)
 have OT:=λn=>d15.cal l w base X G (CZ (n:=n+4) Z d15.fn (zh (n+0)) (DJ (n+3)) (Fr (n+3)))
 have OS:=λn=>d16.cal l w base X G (Fa (n:=n+5) Z d16.fn (OT (n+0)))
 have Fp:=λn=>d17.cal l w base X G (Oz (n:=n+0) Z d17.fn)
 have Jd:=λn=>d18.cal l w base X G (Yj (n:=n+4) Z d18.fn (yt (n+0)))
 have Fq:=λn=>d19.cal l w base X G (MG (n:=n+5) Z d19.fn (zh (n+1)) (Jd (n+0)))
 have VS:=λn=>d20.cal l w base X G (Yk (n:=n+0) Z d20.fn)
 have Nb:=λn=>d21.cal l w base X G (Dh (n:=n+5) Z d21.fn (zh (n+1)) (yt (n+1)) (Jd (n+0)))
 have Jc:=λn=>d22.cal l w base X G (XO (n:=n+4) Z d22.fn (zh (n+0)) (Fp (n+3)))
 have RN:=λn=>d23.cal l w base X G (Ta (n:=n+6) Z d23.fn (OS (n+0)) (Jc (n+1)) (VS (n+5)))
 have Yd:=λn=>d24.cal l w base X G (XQ (n:=n+0) Z d24.fn)
 have DK:=λn=>d25.cal l w base X G (Gt (n:=n+6) Z d25.fn (zh (n+2)) (Nc (n+0)) (XX (n+3)) (Yd (n+5)) Ja)
 have OU:=λn=>d26.cal l w base X G (Fc (n:=n+4) Z d26.fn (zh (n+0)))
 have Fs:=λn=>d27.cal l w base X G (MJ (n:=n+6) Z d27.fn (zh (n+2)) (GN (n+0)))
 have DH:=λn=>d28.cal l w base X G (Gv (n:=n+2) Z d28.fn (vf (n+0)))
 have DI:=λn=>d29.cal l w base X G (Gx (n:=n+3) Z d29.fn (DH (n+0)) (vf (n+1)) (Fp (n+2)) Jb)
 have Wg:=λn=>d30.cal l w base X G (Zf (n:=n+1) Z d30.fn (Yd (n+0)))
 have GM:=λn=>d31.cal l w base X G (XR (n:=n+4) Z d31.fn (zh (n+0)) (DI (n+0)))
 have UR:=λn=>d32.cal l w base X G (Di (n:=n+7) Z d32.fn (RN (n+0)) (Wg (n+5)))
 have DF:=λn=>d33.cal l w base X G (Gy (n:=n+0) Z d33.fn)
 have MY:=λn=>d34.cal l w base X G (Dj (n:=n+0) Z d34.fn)
 have Zr:=λn=>d35.cal l w base X G (Gz (n:=n+0) Z d35.fn)
 have DG:=λn=>d36.cal l w base X G (GA (n:=n+1) Z d36.fn (Zr (n+0)))
 have Yc:=λn=>d37.cal l w base X G (XS (n:=n+1) Z d37.fn (Zr (n+0)))
 have Zt:=λn=>d38.cal l w base X G (Jo (n:=n+2) Z d38.fn (Yc (n+0)) (Zr (n+1)))
 have Zu:=λn=>d39.cal l w base X G (Jp (n:=n+7) Z d39.fn (RN (n+0)) (Jc (n+2)) (Fq (n+1)) (Nb (n+1)) (DK (n+0)))
 have Wf:=λn=>d40.cal l w base X G (Zh (n:=n+8) Z d40.fn (UR (n+0)) (GM (n+3)) (RN (n+1)))
 exact kD (n:=9) Z d41.fn (DF 8) (MY 8) (DG 7) (Zt 6) (Wf 0) (Zu 1) (Fs 2) (Yc 7) (OU 4) (Jc 4) (RN 2) (UR 1)
end My
namespace PySem.W.Fast
def tw8821501770321238297:=()
def tw4733434053344089144:=()
def tw6049735860612576109:=()
def tw79314626334942872:=()
def tw8381074248297259905:=()
def tw238607989366879297:=()
def tw8825013918429683992:=()
def tw17580599868245265730:=()
def tw4727337622748222419:=()
def tw9024076311364611273:=()
def tw4953383647796090896:=()
def tw10254096231741016162:=()
def tw1882245304669804802:=()
def tw18418795130814033759:=()
def tw4977537934194755246:=()
def tw6571686143016560719:=()
def tw10595835335768494191:=()
def tw211133966925330457:=()
def tw7101923891956156588:=()
def tw9621584878249288719:=()
def tw11323821747116411640:=()
def tw7496031372962473283:=()
def tw16295545128683890641:=()
def tw10733299476598692446:=()
def tw2992434984419542964:=()
def tw1557015250559138580:=()
def tw9651888159265251105:=()
def tw10138075216129591022:=()
def tw4474857219468618699:=()
def tw5018673596302130289:=()
def tw11774216590917790036:=()
def tw10783382888274899376:=()
def tw2141087019202418804:=()
def tw13588684357379127882:=()
def tw2334283533002728976:=()
def tw3378374216842478168:=()
def tw12630650668308674639:=()
def tw5619275212173670530:=()
def tw10556743377938556025:=()
def tw5200926737993555584:=()
def tw11843271450764039388:=()
def tw3708537346177993933:=()
def tw11094962112177111003:=()
def tw10840352234806155028:=()
def tw3433879281496340334:=()
def tw3463614438000352047:=()
def tw9521400468832565340:=()
def tw17214592379482243598:=()
def tw17672146380309960857:=()
def tw15843342046255211502:=()
def tw14186096505549534369:=()
def tw1903748604553415853:=()
def tw8925623784414413651:=()
def tw3976679706297693742:=()
def tw15715215173680863649:=()
def tw10672905440881322533:=()
def tw14995281196834770869:=()
def tw13931535184338615892:=()
def tw5978724118710570721:=()
def tw2255164717490826584:=()
def tw2382526749050649061:=()
def tw9097286578266053597:=()
def tw1493660437190285932:=()
def tw13153399828784378549:=()
def tw14747366360393493939:=()
def tw5863313319091499934:=()
def tw332377983577468266:=()
def tw8154873185205709257:=()
def tw10750789801894769524:=()
def tw10255930963646464424:=()
def tw8363938110916431716:=()
def tw18232311226416063670:=()
def tw12595509417116478410:=()
def tw8085860220935984148:=()
def tw15337410451379177649:=()
def tw1173867623044266154:=()
def tw9578806599696132674:=()
def tw12131313842093749623:=()
def tw307734059135844657:=()
def tw18326760154114737024:=()
def tw10450297360977618542:=()
def tw9227109123419575278:=()
def tw4952275046980513311:=()
def tw8799376336414230183:=()
def tw16153986474707685294:=()
def tw2212123560869979016:=()
def tw15331457706409811707:=()
def tw3027839931625094957:=()
def tw1128034105779888771:=()
def tw17574715717418439659:=()
def tw9197987589203225786:=()
def tw322813581448612334:=()
def tw811046008276942095:=()
def tw6779514815934554632:=()
def tw16822850485501153360:=()
def tw3996786889801026198:=()
def tw14271151753782919733:=()
def tw5357576703915469760:=()
def tw11590508055188827658:=()
def tw1107467591221256295:=()
def tw3357448340704239456:=()
def tw8693913057559519872:=()
def tw11448981451010517243:=()
def tw52883299186158673:=()
def tw5583203980344477124:=()
def tw4996265268113957770:=()
def tw14888399040178427555:=()
def tw16105941874802975393:=()
def tw13078682352049554844:=()
def tw16998236742901605169:=()
def tw9142335074277399973:=()
def tw9273510478251130121:=()
def tw10688991673830702078:=()
def tw5313320024731709556:=()
def tw8801155800263188933:=()
def tw2752400358102560348:=()
def tw12179759301697961534:=()
def tw17670414862535772307:=()
def tw4642625327406503106:=()
def tw642462220465261910:=()
def tw14759286007390970834:=()
def tw11592881456527245413:=()
def tw3876768497518037626:=()
def tw10495350862880713729:=()
def tw5474802008093696657:=()
def tw2786761517275564870:=()
def tw8977093294455713757:=()
def tw10426952789999446350:=()
def tw849798368418656625:=()
def tw3978821640275503353:=()
def tw7078044804306415130:=()
def tw4422660791741245590:=()
def tw18005699104981013574:=()
def tw6017912948966042837:=()
def tw16581746828760997163:=()
def tw13659621015881593015:=()
def tw7524483500422188115:=()
def tw6674807507163719314:=()
def tw1018246622853850035:=()
def tw18155721430599608430:=()
def tw16580923486954467829:=()
def tw2542696846665413704:=()
def tw13158361377252006251:=()
def tw12229940167726483773:=()
def tw17716405564463682808:=()
def tw4225114420371986103:=()
def tw4323390843305398020:=()
def tw5962293101317632631:=()
def tw14418970951280636961:=()
def tw1416549519725874457:=()
def tw15661503675825094366:=()
def tw445861533116821984:=()
def tw10693470807023675892:=()
end PySem.W.Fast
open PySem PySem.W PyProof.Rows
set_option maxRecDepth 100000 in
set_option maxHeartbeats 0 in
theorem PySem.Challenge.cw_firstpowers_k31_whole_rounds_and_turns_holds : PySem.Challenge.rw_firstpowers_k31_whole_rounds_and_turns.Holds := by
  w_on; o_law; k_head; (case hw => w_witness2)
  k_fill
  refine L2.Lp (l := PySem.Challenge.rw_firstpowers_k31_whole_rounds_and_turns) (k := 10) (x := "_law_script") rfl rfl ⟨rfl, by decide, by decide, rfl⟩ (fun w h Y => PySem.W.kIn_of Y) ?B ?F
  case B => intro w; kernel_rfl
  case F =>
    intro w mg fa h KX G hmg
    refine' My.kE KX G hmg ?d0 ?d1 ?d2 ?d3 ?d4 ?d5 ?d6 ?d7 ?d8 ?d9 ?d10 ?d11 ?d12 ?d13 ?d14 ?d15 ?d16 ?d17 ?d18 ?d19 ?d20 ?d21 ?d22 ?d23 ?d24 ?d25 ?d26 ?d27 ?d28 ?d29 ?d30 ?d31 ?d32 ?d33 ?d34 ?d35 ?d36 ?d37 ?d38 ?d39 ?d40 ?d41 ?v0 ?v1 ?v2 ?z
    case d0 | d1 | d2 | d3 | d4 | d5 | d6 | d7 | d8 | d9 | d10 | d11 | d12 | d13 | d14 | d15 | d16 | d17 | d18 | d19 | d20 | d21 | d22 | d23 | d24 | d25 | d26 | d27 | d28 | d29 | d30 | d31 | d32 | d33 | d34 | d35 | d36 | d37 | d38 | d39 | d40 | d41 => refine' L2.km ?a ?l ?c ?k; (case a => k_is); (case l => k_is); (case c => k_is); (case k => k_is)
    case v0 | v1 | v2 => k_is
    case z => kernel_rfl
