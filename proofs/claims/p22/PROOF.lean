import PyProof.Rows.All
import Wide.All
import OpenK.AllK
import Wide.FinOn
import Lean
import PyProof.EqAt
import PyProof.EqKinds
import PyProof.TupleCall
import PyProof.Rows.TopTwo
import KE.KIsAll
import PyProof.ExcAttrAll.ValueError
import KE.KTryMore
import KE.KRevIter
import PyProof.SetRoads
import PySem.Challenge.RW_firstpowers_k22_whole_pieces
set_option Elab.async false
set_option linter.all false
set_option maxRecDepth 100000
set_option maxHeartbeats 8000000
abbrev G0:= @List.length_map
abbrev G1:= @List.getElem?_eq_getElem
abbrev G2:= @List.mem_singleton
abbrev G3:= @PySem.Heap.get?_push_of_some
abbrev G5:= @List.getElem?_eq_some_iff
abbrev G6:= @Nat.le_refl
abbrev G7:= @List.length_append
abbrev G8:= @List.append_assoc
abbrev G9:= @List.mem_of_getElem?
abbrev P1:= @PySem.wpAny_pure
abbrev P2:= @List.mem_range
abbrev P3:= @List.mem_append_right
abbrev P4:= @List.size_toArray
abbrev P5:= @Bool.false_ne_true
abbrev P6:= @List.getElem?_append_right
abbrev P7:= @decide_eq_true
abbrev P8:= @List.mem_cons_self
abbrev P9:= @List.getElem?_map
abbrev D1:= @List.length_range
abbrev D2:= @List.getD_eq_getElem?_getD
abbrev D3:= @PySem.Heap.lt_size
abbrev D4:= @List.mem_append
abbrev D5:= @List.length_cons
abbrev D6:= @Nat.le_of_lt
abbrev D7:= @List.take_append_drop
abbrev D8:= @List.mem_cons_of_mem
abbrev D9:= @PySem.Heap.get?_push_size
abbrev R0:= @List.take_of_length_le
abbrev R1:= @List.length_take
abbrev R3:= @List.getElem?_append_left
abbrev R4:= @List.mem_map
abbrev R5:= @List.mem_cons
abbrev R6:= @Nat.le_trans
abbrev R7:= @List.pairwise_append
abbrev R8:= @Nat.lt_of_lt_of_le
abbrev R9:= @List.getElem_mem
abbrev S0:= @List.map_map
abbrev S1:= @Nat.ne_of_lt
abbrev S2:= @List.mem_filter
abbrev S3:= @PySem.wpAny_mono
abbrev S4:= @List.length_drop
abbrev S5:= @List.map_congr_left
abbrev S6:= @decide_eq_false
abbrev S7:= @List.length_reverse
abbrev S8:= @List.all_eq_true
abbrev S9:= @Array.getElem?_toList
abbrev T0:= @Array.length_toList
abbrev T1:= @List.mem_append_left
abbrev T3:= @List.mem_of_mem_drop
abbrev T4:= @List.pairwise_singleton
abbrev T5:= @Bool.eq_iff_iff
abbrev T6:= @List.pairwise_map
abbrev T7:= @Nat.zero_le
abbrev T8:= @Array.toList_append
abbrev T9:= @List.length_nil
abbrev M0:= @List.map_append
abbrev M1:= @List.take_add_one
abbrev M5:= @of_decide_eq_true
abbrev M6:= @Nat.lt_of_le_of_lt
abbrev M7:= @Option.some.inj
abbrev M8:= @List.map_cons
abbrev M9:= @decide_eq_true_iff
abbrev N0:= @PySem.PassesOwn.never
abbrev N2:= @List.drop_eq_nil_of_le
abbrev N3:= @Nat.lt_irrefl
abbrev N4:= @List.mem_of_mem_take
abbrev N5:= @PySem.wpAny_truthy_bool
abbrev N6:= @List.nil_append
abbrev N7:= @List.getElem?_range
abbrev N8:= @List.not_mem_nil
abbrev N9:= @List.drop_sublist
abbrev B0:= @Nat.lt_of_le_of_ne
abbrev B1:= @PySem.wpAny_call_entry
abbrev B2:= @Bool.and_eq_true
abbrev B3:= @List.getElem?_set_ne
abbrev B6:= @PySem.W.kia_one
abbrev B7:= @Function.comp_apply
abbrev B8:= @List.getElem_of_mem
abbrev B9:= @List.length_singleton
abbrev C0:= @PySem.wpAny_holding
abbrev C1:= @PyProof.Rows.callWith_type1
abbrev C3:= @List.append_nil
abbrev C4:= @PySem.wpAny_callSpecial?_slot
abbrev C5:= @List.length_eq_zero_iff
abbrev C6:= @List.range_succ
abbrev C7:= @List.getElem?_cons_zero
abbrev C8:= @List.lookup_cons
abbrev C9:= @List.mem_reverse
abbrev F4:= @PyProof.Rows.slot_tuple_getitem
abbrev F5:= @List.replicate_succ
abbrev F6:= @Nat.lt_of_succ_lt
abbrev F7:= @List.reverse_perm
abbrev F8:= @List.getElem?_eq_none
abbrev F9:= @List.all_map
abbrev H0:= @List.length_filter_le
abbrev L0:= @PyProof.Rows.boot_all
abbrev L5:= @List.filter_append
abbrev L6:= @Nat.lt_succ_self
abbrev L7:= @List.drop_append_of_le_length
abbrev L8:= @List.take_append_of_le_length
abbrev L9:= @Nat.zero_add
abbrev O0:= @List.take_sublist
abbrev O3:= @List.nodup_cons
abbrev O4:= @Nat.min_eq_left
abbrev O5:= @Option.map_eq_some_iff
abbrev O6:= @List.range_succ_eq_map
abbrev O7:= @PySem.F.slot_tuple_iterator_next
abbrev O8:= @PySem.MeetsSeq.plain_remove_loop
abbrev O9:= @List.cons_append
abbrev A1:= @Nat.le_of_eq
abbrev A2:= @Decidable.byContradiction
abbrev A3:= @List.pairwise_iff_getElem
abbrev A4:= @List.drop_drop
abbrev A5:= @Nat.pow_le_pow_right
abbrev A6:= @Array.toList_extract
abbrev A7:= @PySem.wpAny_newObj_type
abbrev A8:= @PySem.wpAny_passesOwn
abbrev A9:= @Int.toNat_natCast
abbrev E1:= @List.flatten_cons
abbrev E2:= @List.idxOf_lt_length_iff
abbrev E3:= @Array.toList_push
abbrev E4:= @List.Perm.eq_of_pairwise
abbrev E5:= @Option.some.injEq
abbrev E6:= @PySem.mem_of_lookup
abbrev E7:= @PySem.F.plainAttrs_list
abbrev E8:= @Nat.add_assoc
abbrev E9:= @List.filter_eq_self
abbrev I0:= @Nat.min_le_right
abbrev J0:= @List.take_length
abbrev J1:= @List.getElem_idxOf
abbrev J3:= @List.pairwise_cons
abbrev J4:= @List.getElem?_drop
abbrev J5:= @Nat.ne_of_gt
abbrev J6:= @PySem.wpAny_loadPart'
abbrev J7:= @PySem.Heap.get?_update_self
abbrev J8:= @List.map_nil
abbrev J9:= @Nat.lt_trans
abbrev K0:= @List.perm_append_comm
abbrev K1:= @Nat.le_add_left
abbrev K2:= @List.getElem?_reverse
abbrev K3:= @exists_eq_left'
abbrev K4:= @PySem.wpAny_pyIter_list
abbrev K5:= @decide_eq_true_eq
abbrev K6:= @Std.Legacy.Range.forIn_eq_forIn_range'
abbrev K7:= @Function.comp_def
abbrev K8:= @List.filter_congr
abbrev K9:= @Bool.eq_false_iff
abbrev Q0:= @List.nodup_append
abbrev Q1:= @List.perm_ext_iff_of_nodup
abbrev Q4:= @Classical.byContradiction
abbrev Q5:= @List.drop_eq_getElem_cons
abbrev Q6:= @List.any_eq_true
abbrev Q7:= @Nat.le_add_right
abbrev Q8:= @PySem.Heap.SameBut.update
abbrev Q9:= @Nat.add_le_add_left
abbrev U0:= @List.getElem?_take_of_lt
abbrev U1:= @PySem.F.args_tuple_add_2
abbrev U2:= @Nat.not_lt
abbrev U3:= @PySem.wpAny_standAt
abbrev U4:= @List.mem_filterMap
abbrev U5:= @List.zip_cons_cons
abbrev U6:= @PySem.F.entry_tuple_add
abbrev U7:= @Bool.or_eq_true
abbrev U8:= @PySem.codeAny_builtin
abbrev U9:= @Nat.pos_of_ne_zero
abbrev V0:= @List.filter_cons_of_pos
abbrev V1:= @List.getElem?_cons_succ
abbrev V2:= @List.filter_cons_of_neg
abbrev V3:= @List.getElem?_set_self
abbrev V4:= @PySem.F.slot_tuple_add
abbrev V5:= @List.length_pos_of_mem
abbrev V6:= @List.getElem?_set
abbrev V7:= @Nat.lt_of_succ_le
abbrev V8:= @Nat.lt_succ_of_lt
abbrev V9:= @List.flatMap_cons
abbrev W0:= @Nat.succ_le_of_lt
abbrev W1:= @Nat.sub_lt
abbrev W3:= @List.eraseIdxIfInBounds_toArray
abbrev W4:= @PySem.F.slot_tuple_lt
abbrev W5:= @List.pairwise_reverse
abbrev W6:= @Nat.add_zero
abbrev W7:= @List.nodup_range
abbrev W8:= @Nat.succ_le_succ
abbrev W9:= @List.eq_nil_of_length_eq_zero
abbrev X0:= @Nat.mod_eq_of_lt
abbrev X1:= @PySem.Around.under_plainId
abbrev X2:= @Array.toArray_toList
abbrev X3:= @Array.toList_reverse
abbrev X4:= @PySem.F.args_tuple_iterator_next_1
abbrev X5:= @PySem.wpAny_rule
abbrev X6:= @PySem.call_meets
abbrev X7:= @beq_eq_false_iff_ne
abbrev X8:= @PySem.wpAny_execs_nil
abbrev X9:= @PySem.F.slot_int_rmul
abbrev Y0:= @List.forIn_cons
abbrev Y1:= @List.mem_map_of_mem
abbrev Y2:= @List.flatMap_append
abbrev Y3:= @PySem.F.entry_tuple_iterator_next
abbrev Y4:= @Nat.div_add_mod
abbrev Y5:= @Nat.add_sub_cancel'
abbrev Y6:= @PySem.Heap.get?_update_ne
abbrev Y7:= @Int.emod_nonneg
abbrev Y8:= @PySem.Calls.Name_function_global
abbrev Y9:= @Int.fdiv_eq_ediv_of_nonneg
abbrev Z0:= @Int.fmod_eq_emod_of_nonneg
abbrev Z4:= @Array.isEmpty_eq_false_iff
abbrev Z5:= @Array.getElem?_eq_none_iff
abbrev Z6:= @Array.getElem?_eq_some_iff
abbrev Z7:= @Array.toList_setIfInBounds
abbrev Z8:= @PySem.MeetsSeq.entry_remove_loop
abbrev Z9:= @PyProof.Rows.assignInOrder_cons
abbrev G0a:= @PySem.wpAny_Call_Name_kw
abbrev G0b:= @Nat.succ_mul
abbrev G0c:= @PySem.wpAny_pyIter_tuple
abbrev G0d:= @List.getElem_range
abbrev G0e:= @Nat.lt_or_ge
abbrev G0f:= @Int.emod_lt_of_pos
abbrev G0g:= @PySem.wpAny_binaryOp_repeat_ref
abbrev G0h:= @PySem.Heap.size_push
abbrev G0i:= @PySem.Calls.call_function_entry
abbrev G0j:= @List.drop_zero
abbrev G0k:= @List.getElem?_eq_none_iff
abbrev G0l:= @List.getLastD_eq_getLast?
abbrev G0m:= @List.getLast?_eq_getElem?
abbrev G0n:= @Option.isSome_iff_exists
abbrev G0o:= @List.zip_nil_left
abbrev G0p:= @PySem.F.slot_tuple_index
abbrev G0q:= @List.length_erase_of_mem
abbrev G0r:= @List.Pairwise.imp_of_mem
abbrev G0s:= @List.getElem_take
abbrev G0t:= @Array.size_setIfInBounds
abbrev G0u:= @List.mapM_toArray
abbrev G0v:= @Nat.mod_lt
abbrev G0w:= @List.getElem?_replicate
abbrev G0x:= @PySem.F.args_tuple_lt_2
abbrev G0y:= @or_false
abbrev G0z:= @List.map_drop
abbrev G0A:= @Nat.add_sub_cancel_left
abbrev G0B:= @List.length_eraseIdx_le
abbrev G0C:= @PySem.noFill_tuple_add
abbrev G0D:= @Nat.le_of_not_lt
abbrev G0E:= @List.range'_succ
abbrev G0F:= @List.ext_getElem
abbrev G0G:= @List.perm_middle
abbrev G0H:= @List.all_toArray
abbrev G0I:= @List.mem_flatten
abbrev G0J:= @PySem.W.cellsFrom_some
abbrev G0K:= @PySem.F.entry_tuple_lt
abbrev G0L:= @List.pairwise_lt_range
abbrev G0M:= @Nat.dvd_of_mod_eq_zero
abbrev G0N:= @List.length_eq_one_iff
abbrev G0O:= @PySem.codeAny_mono
abbrev G0P:= @List.of_mem_zip
abbrev G0Q:= @List.any_map
abbrev G0R:= @Int.mul_comm
abbrev G0S:= @List.getElem?_toArray
abbrev G0T:= @Nat.mul_succ
abbrev G0U:= @PySem.W.kat_nil
abbrev G0V:= @PySem.typeIs_int
abbrev G0W:= @Bool.or_eq_false_iff
abbrev G0X:= @PySem.intBits_le_iff
abbrev G0Y:= @List.mem_erase_of_ne
abbrev G0Z:= @List.getLast?_concat
abbrev G00:= @List.getElem?_of_mem
abbrev G01:= @List.take_zero
abbrev G02:= @List.drop_take
abbrev G03:= @List.take_take
abbrev G04:= @PyProof.Rows.lt_int
abbrev G05:= @Int.le_refl
abbrev G06:= @List.take_succ_cons
abbrev G07:= @List.map_id
abbrev G08:= @List.length_pos_iff
abbrev G09:= @Nat.mul_le_mul_left
abbrev G1a:= @List.filter_sublist
abbrev G1b:= @List.flatten_append
abbrev G1c:= @if_false
abbrev G1d:= @Bool.true_and
abbrev G1e:= @beq_iff_eq
abbrev G1f:= @Nat.add_comm
abbrev G1g:= @Nat.mul_comm
abbrev G1h:= @exists_congr
abbrev G1i:= @Nat.le_succ
abbrev G1j:= @Int.pow_pos
abbrev G1k:= @Nat.mul_add
namespace L2
open PySem PySem.Spec PyProof.Rows
abbrev Key:=Sum Int Str
def CO:Key->Value->Bool
 | .inl k,v=>Value.isInt k v
 | .inr x,v=>Value.isStrOf x v
def Sg (w:World):Key->Int
 | .inl k=>hashInt k
 | .inr x=>hashStr w x
theorem jS: ∀ {k:Key} {v:Value},CO k v=true->(∃i t,k=Sum.inl i/\v=Value.int i t)\/(∃x t,k=Sum.inr x/\v=Value.str x t)
 | .inl i,v,h=>by
  obtain⟨t,e⟩:=Value.isInt_shape (k:=i) (v:=v) h;exact .inl ⟨i,t,rfl,e⟩
 | .inr x,v,h=>by
  obtain⟨t,e⟩:=Value.isStrOf_shape (x:=x) (v:=v) h;exact .inr ⟨x,t,rfl,e⟩
theorem CP (a b:Int):decide ((Sum.inl a:Key)=Sum.inl b)=(a==b):=by
 by_cases e:a=b
 ·subst e;simp
 ·have h: ¬ (Sum.inl a:Key)=Sum.inl b:=λq=>e (Sum.inl.inj q)
  rw [S6 h];exact(X7.mpr e).symm
theorem CQ (a b:Str):decide ((Sum.inr a:Key)=Sum.inr b)=decide (a=b):=by
 by_cases e:a=b
 ·subst e;simp
 ·have h: ¬ (Sum.inr a:Key)=Sum.inr b:=λq=>e (Sum.inr.inj q)
  rw [S6 h,S6 e]
theorem CS (a:Int)(b:Str):decide ((Sum.inl a:Key)=Sum.inr b)=false:=S6 (λq=>nomatch q)
theorem CT (a:Str)(b:Int):decide ((Sum.inr a:Key)=Sum.inl b)=false:=S6 (λq=>nomatch q)
def Gi (prog:Program)(w:World):PySem.KeyKind prog w Key where
 is:=CO
 hash:=Sg w
 inj:=λv a b ha hb=>by
  rcases jS ha with ⟨i,t,rfl,rfl⟩|⟨x,t,rfl,rfl⟩
  ·rcases jS hb with ⟨j,u,rfl,e⟩|⟨y,u,rfl,e⟩
   ·injection e with e1 _;rw [e1]
   ·exact nomatch e
  ·rcases jS hb with ⟨j,u,rfl,e⟩|⟨y,u,rfl,e⟩
   ·exact nomatch e
   ·injection e with e1 _;rw [e1]
 byValue:=λk v h=>by
  rcases jS h with ⟨i,t,rfl,rfl⟩|⟨x,t,rfl,rfl⟩<;>rfl
 pyHash:=λhv h=>by
  rcases jS hv with ⟨i,t,rfl,rfl⟩|⟨x,t,rfl,rfl⟩
  ·exact wpAny_pyHash_int h
  ·exact wpAny_pyHash_str h
 eqBool:=λhu hv h=>by
  rcases jS hu with ⟨i,t,rfl,rfl⟩|⟨x,t,rfl,rfl⟩
  ·rcases jS hv with ⟨j,u,rfl,rfl⟩|⟨y,u,rfl,rfl⟩
   ·rw [CP] at h;exact wpAny_eqBool_int h
   ·rw [CS] at h;exact SeqAt.EqAt.int_str i t y u _ _ _ _ h
  ·rcases jS hv with ⟨j,u,rfl,rfl⟩|⟨y,u,rfl,rfl⟩
   ·rw [CT] at h;exact SeqAt.EqAt.str_int x t j u _ _ _ _ h
   ·rw [CQ] at h;exact wpAny_eqBool_str h
 «strs» :=λk x t v h=>by
  rcases jS h with ⟨i,u,rfl,e⟩|⟨y,u,rfl,e⟩
  ·exact nomatch e
  ·injection e with e1 _
   subst e1;cases v<;>rfl
inductive V where
 |non|bl (b:Bool)|int (i:Int)|str (x:Str)|byt (b:Array UInt8)|flt (b:UInt64)|ref (a:Addr)|ty (n:String)
 deriving DecidableEq
def RelV:V->Value->Prop
 | .non,u=>u=Value.none
 | .bl b,u=>u=Value.bool b
 | .int i,u=> ∃t,u=Value.int i t
 | .str x,u=> ∃t,u=Value.str x t
 | .byt b,u=> ∃t,u=Value.bytes b t
 | .flt b,u=> ∃t,u=Value.float b t
 | .ref a,u=>u=Value.ref a
 | .ty n,u=>u=Value.type n
abbrev Vals:List V->List Value->Prop:=Paired RelV
theorem Vals.length {xs:List V}{us:List Value}(r:Vals xs us):xs.length=us.length:=Paired.length r
theorem Vals.get: ∀ {xs:List V} {us:List Value} {i:Nat} {x:V},Vals xs us->xs[i]? =some x-> ∃u,us[i]? =some u/\RelV x u
 |_,_,_,_,.nil,e=>by simp at e
 |_,_,0,_,.cons r _,e=>by simp at e;subst e;exact⟨_,rfl,r⟩
 |_,_,i+1,x,.cons _ t,e=>by
  obtain⟨u,h1,h2⟩:=Vals.get (i:=i) (x:=x) t (by simpa using e);exact⟨u,by simpa using h1,h2⟩
variable {u:Value}
theorem Vals.set {x:V}(r:RelV x u): ∀ {xs:List V} {us:List Value} (i:Nat),Vals xs us->Vals (xs.set i x) (us.set i u)
 |_,_,_,.nil=> .nil
 |_,_,0,.cons _ t=> .cons r t
 |_,_,i+1,.cons q t=> .cons q (Vals.set r i t)
theorem Vals.append: ∀ {xs ys:List V} {us ws:List Value},Vals xs us->Vals ys ws->Vals (xs++ys) (us++ws)
 |_,_,_,_,.nil,s=>s
 |_,_,_,_,.cons r t,s=> .cons r (Vals.append t s)
theorem Vals.take: ∀ {xs:List V} {us:List Value} (n:Nat),Vals xs us->Vals (xs.take n) (us.take n)
 |_,_,0,_=> .nil
 |_,_,_+1,.nil=> .nil
 |_,_,n+1,.cons r t=> .cons r (Vals.take n t)
theorem Vals.drop: ∀ {xs:List V} {us:List Value} (n:Nat),Vals xs us->Vals (xs.drop n) (us.drop n)
 |_,_,0,r=>r
 |_,_,_+1,.nil=> .nil
 |_,_,n+1,.cons _ t=>Vals.drop n t
def OS:Option V->Option Value->Prop
 |some v,some u=>RelV v u
 |none,none=>True
 |_,_=>False
def KV {κ:Type}:List (κ×V)->List (κ×Value)->Prop:=Paired λ(p:κ×V) (q:κ×Value)=>p.1=q.1/\RelV p.2 q.2
def kV:Key->V
 | .inl i=> .int i
 | .inr x=> .str x
inductive HO where
 /-- a list -/
 |lst (xs:List V)
 /-- a tuple (never changes) -/
 |tup (xs:List V)
 /-- a dict whose keys are ints and texts;one whose keys are tuples of ints and texts (the empty one is both) -/
 |dK (kvs:List (Key×V))|dT (kvs:List (List Key×V))
 /-- a set of ints: its members,its size -/
 |set (S:Int->Bool) (n:Nat)
 /-- an instance of the class at C,its dict at dx,its attributes -/
 |ins (C dx:Addr) (fs:List (Str×V))
 /-- the dict of the instance at x -/
 |own (x:Addr)
 /-- the dict of an exception -/
 |xd (fs:List (Str×V))
 /-- a bound method,f of x -/
 |met (f x:Addr)
 /-- a range object lo,lo+1,.. below hi -/
 |rng (lo hi:Int)
 /-- a thing that is known to the object (the script;a dict while a loop walks it):read,never written while it is so -/
 |frz (o:Obj) (u:HO)
 /-- a code object's table -/
 |tbl (ps:Array Value)
 /-- any other thing,by what is true of its one object (a def of one's own: SetO a S n:=HO.ext λh=> ..) -/
 |ext (φ:Heap->Prop)
abbrev Hp:=Addr->Option HO
def upd (H:Hp)(a:Addr)(o:HO):Hp:=λb=>if b=a then some o else H b
variable {H:Hp}{a:Addr}{o:HO}
theorem jq:upd H a o a=some o:=by unfold upd;rw [if_pos rfl]
variable {b:Addr}
theorem jt (h:b≠a):upd H a o b=H b:=by unfold upd;rw [if_neg h]
theorem Qh {u:HO}(h:H a=some o)(h':H b=some u)(d:o≠u):a≠b:=by
 intro e;subst e;rw [h] at h';exact d (M7 h')
theorem jl (h:H a=some o)(h':H b=none):a≠b:=by
 intro e;subst e;rw [h] at h';cases h'
def IsTupN (h:Heap)(a:Addr)(items:Array Value):Prop:= ∃o,h.get? a=some o/\o.cls= .type "tuple" /\o.dict=none/\ ∃n,o.data= .seq items n
theorem IsTupN.tup {h:Heap}{a:Addr}{items:Array Value}(x:IsTupN h a items):IsTup h a items:=let ⟨o,e,c,_,n,d⟩:=x;⟨o,e,c,n,d⟩
theorem IsTupN.new (h:Heap)(items:Array Value):IsTupN (h.push {cls:= .type "tuple",data:= .seq items}) h.objs.size items:=⟨_,D9 _ rfl,rfl,rfl,_,rfl⟩
section
variable (P:Program)(w:World)
def ObjOk (H:Hp)(h:Heap)(a:Addr):HO->Prop
 | .lst xs=>xs.length<=sizeLine/\ ∃ (its:List Value) (n:Nat),Vals xs its/\h.get? a=some {cls:= .type "list",data:= .seq its.toArray n}
 | .tup xs=>xs.length<=sizeLine/\ ∃its:List Value,Vals xs its/\IsTupN h a its.toArray
 | .dK kvs=>kvs.length<=sizeLine/\(a==sysModules)=false/\ ∃vs,KV kvs vs/\h.DictOf (Gi P w) a vs
 | .dT kvs=>kvs.length<=sizeLine/\(a==sysModules)=false/\ ∃xs:List (List Key×Addr×Value),
  Paired (λ(p:List Key×V) (q:List Key×Addr×Value)=>p.1=q.1/\H q.2.1=some (.tup (p.1.map kV))/\RelV p.2 q.2.2) kvs xs/\
  ∃o es ep,h.get? a=some o/\o.ExactDict/\o.data= .dict es ep/\es.toList=xs.map (entryOfKey (tupleKind (Gi P w)))/\(xs.map (·.1)).Nodup
 | .set S n=>h.SetOf (intKind P w) a S n
 | .ins C dx fs=>H dx=some (.own a)/\fs.length<=1000/\dx≠a/\h.get? a=some (PySem.W.instObj C dx)/\
  ∃mA,h.Ns1 dx mA/\(∀f,OS (fs.lookup f) (mA f))/\PySem.Within mA (fs.map (·.1))
 | .own _=> ∃o,h.get? a=some o
 | .xd fs=> ∃mA,h.Ns1 a mA/\ ∀f,OS (fs.lookup f) (mA f)
 | .rng lo hi=> ∃t u v,h.get? a=some {cls:= .type "range",data:= .fields #[.int lo t,.int hi u,.int 1 v]}
 | .frz o u=>h.get? a=some o/\ObjOk H h a u
 | .tbl ps=>h.get? a=some {cls:= .none,data:= .fields ps}
 | .met f x=>h.get? a=some (PySem.W.methodObj (.ref f) (.ref x))
 | .ext φ=>φ h/\(∃o,h.get? a=some o)/\ ∀h1 h2:Heap,φ h1->(∀o,h1.get? a=some o->h2.get? a=some o)->φ h2
def HOk (H:Hp)(h:Heap):Prop:= ∀a o,H a=some o->ObjOk P w H h a o
end
section
variable {P:Program}{w:World}{H H':Hp}{h h':Heap}{a:Addr}{o:HO}
theorem ObjOk.lt (x:ObjOk P w H h a o):a<h.objs.size:=by
 cases o with
 |lst xs=>obtain⟨_,_,_,_,e⟩:=x;exact D3 e
 |tup xs=>obtain⟨_,_,_,p⟩:=x;exact p.tup.lt
 |dK kvs=>obtain⟨_,_,_,_,o,_,_,e,_⟩:=x;exact D3 e
 |dT kvs=>obtain⟨_,_,_,_,o,_,_,e,_⟩:=x;exact D3 e
 |set S n=>obtain⟨o,_,_,_,e,_⟩:=x;exact D3 e
 |ins C dx fs=>obtain⟨_,_,_,e,_⟩:=x;exact D3 e
 |own y=>obtain⟨_,e⟩:=x;exact D3 e
 |xd fs=>obtain⟨_,⟨_,_,_,e,_⟩,_⟩:=x;exact D3 e
 |rng lo hi=>obtain⟨_,_,_,e⟩:=x;exact D3 e
 |frz ob u=>obtain⟨e,_⟩:=x;exact D3 e
 |tbl ps=>exact D3 (show h.get? a=some _ from x)
 |met f y=>exact D3 (show h.get? a=some _ from x)
 |ext φ=>obtain⟨_,⟨_,e⟩,_⟩:=x;exact D3 e
theorem Paired.mapP {α β:Type}{F G:α->β->Prop}: ∀ {l₁:List α} {l₂:List β},Paired F l₁ l₂->(∀a b,F a b->G a b)->Paired G l₁ l₂
 |_,_,.nil,_=> .nil
 |_,_,.cons r t,f=> .cons (f _ _ r) (Paired.mapP t f)
theorem ObjOk.stay (x:ObjOk P w H h a o)(k: ∀b u,(b=a\/H b=some (.own a))->h.get? b=some u->h'.get? b=some u)
 (ho: ∀b,H b=some (.own a)->H' b=some (.own a))(ht: ∀b xs,H b=some (.tup xs)->H' b=some (.tup xs)):ObjOk P w H' h' a o:=by
 induction o with
 |lst xs=>obtain⟨z,its,n,r,e⟩:=x;exact⟨z,its,n,r,k _ _ (.inl rfl) e⟩
 |tup xs=>obtain⟨z,its,r,ob,e,c⟩:=x;exact⟨z,its,r,ob,k _ _ (.inl rfl) e,c⟩
 |dK kvs=>obtain⟨z,y,vs,r,ob,es,ep,e,c⟩:=x;exact⟨z,y,vs,r,ob,es,ep,k _ _ (.inl rfl) e,c⟩
 |dT kvs=>
  obtain⟨z,y,xs,r,ob,es,ep,e,c⟩:=x;exact⟨z,y,xs,Paired.mapP r λp q z=>⟨z.1,ht _ _ z.2.1,z.2.2⟩,ob,es,ep,k _ _ (.inl rfl) e,c⟩
 |set S n=>obtain⟨ob,es,ep,t,e,c⟩:=x;exact⟨ob,es,ep,t,k _ _ (.inl rfl) e,c⟩
 |ins C dx fs=>
  obtain⟨d,z,ne,e,mA,⟨od,es,ep,e2,c⟩,r⟩:=x;exact⟨ho _ d,z,ne,k _ _ (.inl rfl) e,mA,⟨od,es,ep,k _ _ (.inr d) e2,c⟩,r⟩
 |own y=>obtain⟨ob,e⟩:=x;exact⟨ob,k _ _ (.inl rfl) e⟩
 |xd fs=>obtain⟨mA,⟨od,es,ep,e,c⟩,r⟩:=x;exact⟨mA,⟨od,es,ep,k _ _ (.inl rfl) e,c⟩,r⟩
 |rng lo hi=>obtain⟨t,u,v,e⟩:=x;exact⟨t,u,v,k _ _ (.inl rfl) e⟩
 |frz ob u ih=>obtain⟨e,q⟩:=x;exact⟨k _ _ (.inl rfl) e,ih q⟩
 |tbl ps=>
  have e:h.get? a=some {cls:= .none,data:= .fields ps}:=x;show h'.get? a=some {cls:= .none,data:= .fields ps};exact k a _ (.inl rfl) e
 |met f y=>
  have e:h.get? a=some (PySem.W.methodObj (.ref f) (.ref y)):=x;show h'.get? a=some (PySem.W.methodObj (.ref f) (.ref y));exact k a _ (.inl rfl) e
 |ext φ=>obtain⟨p,⟨o,e⟩,st⟩:=x;exact⟨st _ _ p λo q=>k _ _ (.inl rfl) q,⟨o,k _ _ (.inl rfl) e⟩,st⟩
theorem HOk.lt (x:HOk P w H h)(e:H a=some o):a<h.objs.size:=(x a o e).lt
theorem HOk.fresh (x:HOk P w H h)(e:h.objs.size<=a):H a=none:=by
 cases q:H a with
 |none=>rfl
 |some u=>exact absurd (R8 (x.lt q) e) (N3 _)
theorem HOk.kept (x:HOk P w H h)(k: ∀b u,h.get? b=some u->h'.get? b=some u):HOk P w H h':=λa o e=>
 (x a o e).stay (λb u _ q=>k b u q) (λ_ q=>q) λ_ _ q=>q
theorem HOk.laid (x:HOk P w H h)(k: ∀b u,h.get? b=some u->h'.get? b=some u)(hp:h.objs.size<=a)(new:ObjOk P w (upd H a o) h' a o):HOk P w (upd H a o) h':=λb u e=>by
 have hn:=x.fresh hp
 by_cases hb:b=a
 ·subst hb;rw [jq] at e;cases e;exact new
 ·rw [jt hb] at e;exact(x b u e).stay (λc v _ q=>k c v q) (λc q=>by rw [jt (jl q hn)];exact q) λc xs q=>by rw [jt (jl q hn)];exact q
end
def Rd (H:Hp)(a:Addr)(u:HO):Prop:=H a=some u\/ ∃o,H a=some (.frz o u)
variable {P:Program}{w:World}{h:Heap}
theorem Rd.ok {u:HO}(r:Rd H a u)(x:HOk P w H h):ObjOk P w H h a u:=by
 rcases r with r|⟨o,r⟩
 ·exact x a u r
 ·obtain⟨_,q⟩:=x a _ r;exact q
def Mut:Option HO->Prop
 |some (.lst _)=>True
 |some (.dK _)=>True
 |some (.dT _)=>True
 |some (.set _ _)=>True
 |some (.ins _ _ _)=>True
 |some (.ext _)=>True
 |_=>False
section
variable {P:Program}{w:World}{H:Hp}{h h':Heap}{x e:Addr}{o':HO}
theorem HOk.write (ok:HOk P w H h)(mu:Mut (H x))(he:e=x\/H e=some (.own x))(k: ∀b u,b≠e->h.get? b=some u->h'.get? b=some u)(heo: ∃u,h'.get? e=some u)
 (new:ObjOk P w (upd H x o') h' x o'):HOk P w (upd H x o') h':=λb u q=>by
 have nown: ∀c y,H c=some (.own y)->c≠x:=λc y r z=>by subst z;rw [r] at mu;exact mu
 have ntup: ∀c xs,H c=some (.tup xs)->c≠x:=λc xs r z=>by subst z;rw [r] at mu;exact mu
 by_cases hb:b=x
 ·subst hb;rw [jq] at q;cases q;exact new
 ·rw [jt hb] at q
  by_cases hbe:b=e
  ·have q':H b=some (.own x):=by
    rcases he with z|z
    ·exact absurd (hbe.trans z) hb
    ·rw [hbe];exact z
   rw [q] at q';cases q';obtain⟨v,hv⟩:=heo;exact⟨v,by rw [hbe];exact hv⟩
  ·refine(ok b u q).stay (λc v hc r=>k c v ?_ r) (λc r=>by rw [jt (nown c b r)];exact r) λc xs r=>by rw [jt (ntup c xs r)];exact r
   rcases hc with rfl|hc
   ·exact hbe
   ·rintro rfl;rcases he with z|z
    ·exact nown c b hc z
    ·rw [hc] at z;cases z;exact hb rfl
end
structure Un (fs ex:List Addr)(H H':Hp)(h h':Heap):Prop where
 keep: ∀b o,h.get? b=some o->H b=none->b ∉ fs->b ∉ ex->h'.get? b=some o
 slot: ∀b o,h.get? b=some o->H b=none->b∈fs->b ∉ ex-> ∃sl,h'.get? b=some {o with slots:=sl}
 free: ∀b o,h.get? b=some o->H b=none->b ∉ ex->H' b=none
 there: ∀b o,h.get? b=some o->b ∉ ex-> ∃o',h'.get? b=some o'
 tups: ∀b xs,H b=some (.tup xs)->H' b=some (.tup xs)
 frzs: ∀b o u,H b=some (.frz o u)->H' b=some (.frz o u)
 tbls: ∀b ps,H b=some (.tbl ps)-> ∃more,H' b=some (.tbl (ps++more))
section
variable {fs fs' ex ex':List Addr}{H H1 H2:Hp}{h h1 h2 h':Heap}{a x e:Addr}{o:HO}
theorem Un.any (u:Un fs ex H H1 h h1){b:Addr}{ob:Obj}(q:h.get? b=some ob)(n:H b=none)(hx:b ∉ ex): ∃sl,h1.get? b=some {ob with slots:=sl}:=by
 by_cases hb:b∈fs
 ·exact u.slot b ob q n hb hx
 ·exact⟨ob.slots,u.keep b ob q n hb hx⟩
theorem Un.kept (k: ∀b u,h.get? b=some u->h'.get? b=some u):Un fs ex H H h h':=
 ⟨λb ob q _ _ _=>k b ob q,λb ob q _ _ _=>⟨ob.slots,k b ob q⟩,λ_ _ _ n _=>n,λb ob q _=>⟨ob,k b ob q⟩,λ_ _ q=>q,λ_ _ _ q=>q,λ_ ps q=>⟨#[],by rw [q];simp⟩⟩
theorem Un.refl:Un fs ex H H h h:=Un.kept λ_ _ q=>q
theorem Un.laid (k: ∀b u,h.get? b=some u->h'.get? b=some u)(hp:h.objs.size<=a)(hn:H a=none):Un fs ex H (upd H a o) h h' where
 keep:=λb u q _ _ _=>k b u q
 slot:=λb u q _ _ _=>⟨u.slots,k b u q⟩
 free:=λb u q n _=>by rw [jt (S1 (R8 (D3 q) hp))];exact n
 there:=λb u q _=>⟨u,k b u q⟩
 tups:=λb xs q=>by rw [jt (jl q hn)];exact q
 frzs:=λb u xs q=>by rw [jt (jl q hn)];exact q
 tbls:=λb ps q=>⟨#[],by rw [jt (jl q hn),q];simp⟩
theorem Un.write (mu:Mut (H x))(he:e=x\/H e=some (.own x))(k: ∀b u,b≠e->h.get? b=some u->h'.get? b=some u)(heo: ∃u,h'.get? e=some u):Un fs ex H (upd H x o) h h':=by
 have hx: ∀b,H b=none->b≠x:=λb n z=>by subst z;rw [n] at mu;exact mu
 have hb: ∀b,H b=none->b≠e:=λb n z=>by
  subst z;rcases he with r|r
  ·exact hx b n r
  ·rw [n] at r;cases r
 have hm: ∀b u,H b=some u-> ¬Mut (some u)->b≠x:=λb u q nm z=>by subst z;rw [q] at mu;exact nm mu
 refine⟨λb u q n _ _=>k b u (hb b n) q,λb u q n _ _=>⟨u.slots,k b u (hb b n) q⟩,λb u q n _=>by rw [jt (hx b n)];exact n,λb u q _=> ?_,
  λb xs q=>by rw [jt (hm b _ q λz=>z)];exact q,λb u xs q=>by rw [jt (hm b _ q λz=>z)];exact q,λb ps q=>⟨#[],by rw [jt (hm b _ q λz=>z),q];simp⟩⟩
 by_cases hbe:b=e
 ·subst hbe;exact heo
 ·exact⟨u,k b u hbe q⟩
end
def trk (h:Heap)(H:Hp):List Addr:=(List.range h.objs.size).filter λa=>(H a).isSome
def DR (h:Heap)(H:Hp):Heap:=PySem.W.hideAll h (trk h H)
theorem Gj (h:Heap)(H:Hp):(DR h H).objs.size=h.objs.size:=PySem.W.hideAll_size _ _
theorem Yi {o:Obj}(e:h.get? b=some o)(n:H b=none):(DR h H).get? b=some o:=
 PySem.W.hideAll_get _ e λhm=>by
  have q:(H b).isSome=true:=(S2.mp hm).2;rw [n] at q;simp at q
theorem Nq {o:Obj}(e:(DR h H).get? b=some o):h.get? b=some o/\H b=none:=by
 have e':h.get? b=some o:=PySem.W.of_hideAll (trk h H) e;refine⟨e',?_⟩;cases q:H b with
 |none=>rfl
 |some x=>
  have hm:b∈trk h H:=S2.mpr ⟨P2.mpr (D3 e'),by simp [q]⟩;have z:(DR h H).get? b=none:=PySem.W.hideAll_none (trk h H) hm;rw [z] at e;cases e
def Nr (g h:Heap)(L:Addr):List (Addr×Obj):=(List.range h.objs.size).filterMap λa=>if a=L\/(g.get? a).isSome=true then none else (h.get? a).map λo=>(a,o)
def rest (g h:Heap)(L d:Addr):List (Addr×Obj):=(Nr g h L).filter λp=>decide (p.1≠d)
structure Mod (K:PySem.W.Frag)(mg:Str->Option Value)(base:Heap):Prop where
 kin:K.In base
 glob:base.Ns mainGlobals mg
 blt: ∃mb,base.Ns builtinsNs mb/\ ∀x:Str,x≠ "__name__" ->mb x=bootBuiltins x
 nolimit:base.NoLimit
structure Cx where
 prog:Program
 w:World
 K:PySem.W.Frag
 mg:Str->Option Value
 base:Heap
 A:Around
 N:List Str
 s₀:Shared
 H₀:Hp
 env:Env
 outer:List Env
 stack:List Env
 ex:List Addr
 fn:Str->Bool
 calm:Bool
 pn:List (Addr×Obj)
 xe:Value->Shared->Prop
def frs (l:List Env):List Addr:=l.filterMap (·.frame)
abbrev Cx.fs (X:Cx):List Addr:=frs X.outer
def Vis (sc:Scope)(x:Str):Prop:=sc.names.lookup x=some .local\/sc.names.lookup x=some .cell\/sc.names.lookup x=some .free
def Loc (sc:Scope)(x:Str):Prop:=sc.names.lookup x=some .local\/sc.names.lookup x=some .cell
def Sh (env:Env)(h:Heap)(m:Str->Option Value)(x:Str)(u:Value):Prop:=
 (env.kindOf x=some .local/\m x=some u)\/((env.kindOf x=some .cell\/env.kindOf x=some .free)/\ ∃c,env.cells.lookup x=some c/\h.IsCell c (some u))
structure Cx.Ok (X:Cx):Prop where
 mod:Mod X.K X.mg X.base
 kind:X.env.scope.kind= .function
 glob:X.env.globals=mainGlobals
 blt:X.env.builtins=builtinsNs
 above:X.s₀.heap.objs.size<=X.env.locals
 inj: ∀x y c,X.env.cells.lookup x=some c->X.env.cells.lookup y=some c->x=y
 has: ∀x,(X.env.kindOf x=some .cell\/X.env.kindOf x=some .free)-> ∃c,X.env.cells.lookup x=some c
 cab: ∀x c,X.fn x=true->X.env.cells.lookup x=some c->X.s₀.heap.objs.size<=c
 hd:X.calm=true->X.A.handled=none
 frames:X.A.frames=some X.stack
 stk:X.stack=X.outer\/(X.stack=X.env::X.outer/\X.env.frame=some X.env.locals)
 exf: ∀b∈X.ex,b≠X.env.locals/\ ∀x c,X.env.cells.lookup x=some c->c≠b
 bs: ∀b o,X.base.get? b=some o->X.s₀.heap.get? b=some o/\X.H₀ b=none
 bsz:X.base.objs.size<=X.s₀.heap.objs.size
 noex: ∀b o,X.base.get? b=some o->b ∉ X.ex
 exfs: ∀b∈X.ex,b ∉ X.fs
 funs:X.s₀.heap.FunFrames X.base X.outer
 frf: ∀b∈X.fs,X.H₀ b=none
structure Inv (X:Cx)(pins:List (Addr×Obj))(σ:List (Option V))(H:Hp)(s:Shared):Prop where
 ok:X.Ok
 os:s.os=X.s₀.os
 bare:AllBare s.gens
 base:Un X.fs X.ex X.H₀ H X.s₀.heap s.heap
 loc: ∃m,s.heap.Ns X.env.locals m/\ ∀ (i:Nat) (x:Str) (v:V),X.N[i]? =some x->σ[i]? =some (some v)->Vis X.env.scope x-> ∃u,RelV v u/\Sh X.env s.heap m x u
 cell: ∀x c,X.env.cells.lookup x=some c-> ∃v,s.heap.IsCell c v
 free:H X.env.locals=none
 freeC: ∀x c,X.env.cells.lookup x=some c->H c=none
 pin: ∀p∈X.pn++pins,s.heap.get? p.1=some p.2/\H p.1=none/\p.1≠X.env.locals/\p.1 ∉ X.fs/\ ∀v,p.2.data≠ .cell v
 hok:HOk X.prog X.w H s.heap
 len:σ.length=X.N.length
section
variable {X:Cx}{pins:List (Addr×Obj)}{σ:List (Option V)}{H H':Hp}{s:Shared}{h':Heap}
theorem Cx.Ok.nofr (ok:X.Ok){b:Addr}{o:Obj}(e:X.base.get? b=some o):b ∉ X.fs:=λhb=>by
 have:=(ok.funs.mem hb).1;rw [e] at this;cases this
theorem Inv.bs (I:Inv X pins σ H s): ∀b o,X.base.get? b=some o->s.heap.get? b=some o/\H b=none:=λb o e=>
 ⟨I.base.keep b o (I.ok.bs b o e).1 (I.ok.bs b o e).2 (I.ok.nofr e) (I.ok.noex b o e),I.base.free b o (I.ok.bs b o e).1 (I.ok.bs b o e).2 (I.ok.noex b o e)⟩
theorem Inv.bk (I:Inv X pins σ H s): ∀b o,X.base.get? b=some o->s.heap.get? b=some o:=λb o e=>(I.bs b o e).1
theorem Inv.mod (I:Inv X pins σ H s):Mod X.K X.mg X.base:=I.ok.mod
theorem Inv.kIn (I:Inv X pins σ H s):X.K.In s.heap:=I.ok.mod.kin.keeps I.bk
theorem Inv.lt (I:Inv X pins σ H s):X.env.locals<s.heap.objs.size:=let ⟨_,hn,_⟩:=I.loc;hn.lt
theorem Inv.sz (I:Inv X pins σ H s):X.s₀.heap.objs.size<=s.heap.objs.size:=R6 I.ok.above (D6 I.lt)
theorem Inv.nofs (I:Inv X pins σ H s){a:Addr}(h:s.heap.objs.size<=a):a ∉ X.fs:=λhb=>by
 obtain⟨_,o,ho,_⟩:=I.ok.funs.mem hb;exact absurd (R8 (D3 ho) (R6 I.sz h)) (N3 _)
theorem Inv.cne (I:Inv X pins σ H s): ∀x c,X.env.cells.lookup x=some c->c≠X.env.locals:=λx c e z=>by
 obtain⟨v,o,ho,hd⟩:=I.cell x c e;obtain⟨m,⟨o',es,ep,ho',hd',_⟩,_⟩:=I.loc;rw [z,ho'] at ho;cases ho;rw [hd'] at hd;cases hd
theorem Inv.funs (I:Inv X pins σ H s):s.heap.FunFrames X.base X.outer:=by
 have all: ∀ (l:List Env),(∀b∈frs l,b∈X.fs)->X.s₀.heap.FunFrames X.base l->s.heap.FunFrames X.base l:=by
  intro l
  induction l with
  |nil=>intro _ _;trivial
  |cons env r ih=>
   intro hs hl;obtain⟨hk,⟨L,o,hf,hn,ho,hd⟩,hr⟩:=hl;have hL:L∈X.fs:=hs L (by unfold frs;rw [List.filterMap_cons,hf];exact List.mem_cons_self);obtain⟨sl,e⟩:=I.base.slot L o ho (I.ok.frf L hL) hL λz=>I.ok.exfs L z hL
   exact⟨hk,⟨L,_,hf,hn,e,hd⟩,ih (λb hb=>hs b (by unfold frs;rw [List.filterMap_cons,hf];exact List.mem_cons_of_mem _ hb)) hr⟩
 exact all X.outer (λ_ hb=>hb) I.ok.funs
theorem Inv.stack (I:Inv X pins σ H s):s.heap.FunFrames X.base X.stack:=by
 rcases I.ok.stk with e|⟨e,hf⟩
 ·rw [e];exact I.funs
 ·rw [e];obtain⟨m,hn,_⟩:=I.loc;refine .cons (by rw [I.ok.kind];decide) hf hn ?_ I.funs;exact Heap.get?_none_of_le (R6 I.ok.bsz I.ok.above)
theorem Inv.stkSub (I:Inv X pins σ H s): ∀b∈frs X.stack,b∈X.env.locals::X.fs:=λb hb=>by
 rcases I.ok.stk with e|⟨e,hf⟩
 ·rw [e] at hb;exact D8 _ hb
 ·rw [e] at hb;unfold frs at hb;rw [List.filterMap_cons,hf] at hb;exact hb
theorem Inv.stkFree (I:Inv X pins σ H s): ∀b∈frs X.stack,H b=none:=λb hb=>by
 rcases R5.mp (I.stkSub b hb) with e|hb
 ·rw [e];exact I.free
 ·obtain⟨_,o,ho,_⟩:=I.ok.funs.mem hb;exact I.base.free b o ho (I.ok.frf b hb) λz=>I.ok.exfs b z hb
variable {t':Nat}
theorem Inv.step {g':Array GenState}{d':Drawn}{ch:List Addr}(I:Inv X pins σ H s)
 (hch: ∀b∈ch,(b∈X.ex\/X.s₀.heap.objs.size<=b)/\b≠X.env.locals/\(∀x c,X.env.cells.lookup x=some c->c≠b)/\ ∀p∈X.pn++pins,p.1≠b)
 (keep: ∀b o,b≠X.env.locals->b ∉ X.fs->b ∉ ch->s.heap.get? b=some o->H b=none->h'.get? b=some o)
 (slot: ∀b o,b≠X.env.locals->b∈X.fs->b ∉ ch->s.heap.get? b=some o->H b=none-> ∃sl,h'.get? b=some {o with slots:=sl})(free: ∀b o,b ∉ ch->s.heap.get? b=some o->H b=none->H' b=none)
 (there: ∀b o,b ∉ ch->s.heap.get? b=some o-> ∃o',h'.get? b=some o')
 (tups: ∀b xs,H b=some (.tup xs)->H' b=some (.tup xs))(frzs: ∀b o u,H b=some (.frz o u)->H' b=some (.frz o u))(tbls: ∀b ps,H b=some (.tbl ps)-> ∃more,H' b=some (.tbl (ps++more)))
 (ns: ∀m,s.heap.Ns X.env.locals m->h'.Ns X.env.locals m)(hok:HOk X.prog X.w H' h')(hg:AllBare g'):
 Inv X pins σ H' {s with heap:=h',gens:=g',drawn:=d',toks:=t'}:=by
 have neL: ∀b o,X.s₀.heap.get? b=some o->b≠X.env.locals:=λb o e=>S1 (R8 (D3 e) I.ok.above)
 have neC: ∀b o,X.s₀.heap.get? b=some o->b ∉ X.ex->b ∉ ch:=λb o e hx hb=>by
  rcases (hch b hb).1 with z|z
  ·exact hx z
  ·exact absurd (R8 (D3 e) z) (N3 _)
 have cellK: ∀x c,X.env.cells.lookup x=some c-> ∀v,s.heap.IsCell c v->h'.IsCell c v:=λx c e v ⟨o,ho,hd⟩=>by
  have nch:c ∉ ch:=λz=>(hch c z).2.2.1 x c e rfl
  by_cases hc:c∈X.fs
  ·obtain⟨sl,q⟩:=slot c o (I.cne x c e) hc nch ho (I.freeC x c e);exact⟨_,q,hd⟩
  ·exact⟨o,keep c o (I.cne x c e) hc nch ho (I.freeC x c e),hd⟩
 refine⟨I.ok,I.os,hg,⟨λb o e n hb hx=> ?_,λb o e n hb hx=> ?_,λb o e n hx=> ?_,λb o e hx=> ?_,λb xs e=>tups b xs (I.base.tups b xs e),λb o xs e=>frzs b o xs (I.base.frzs b o xs e),λb ps e=> ?_⟩,?_,λx c e=> ?_,?_,λx c e=> ?_,λp hp=> ?_,hok,I.len⟩
 ·exact keep b o (neL b o e) hb (neC b o e hx) (I.base.keep b o e n hb hx) (I.base.free b o e n hx)
 ·obtain⟨sl,e1⟩:=I.base.slot b o e n hb hx;obtain⟨sl',e2⟩:=slot b _ (neL b o e) hb (neC b o e hx) e1 (I.base.free b o e n hx);exact⟨sl',e2⟩
 ·obtain⟨o',e1⟩:=I.base.there b o e hx;exact free b o' (neC b o e hx) e1 (I.base.free b o e n hx)
 ·obtain⟨o',e1⟩:=I.base.there b o e hx;exact there b o' (neC b o e hx) e1
 ·obtain⟨m1,e1⟩:=I.base.tbls b ps e;obtain⟨m2,e2⟩:=tbls b _ e1;exact⟨m1++m2,by rw [e2,Array.append_assoc]⟩
 ·obtain⟨m,hn,hl⟩:=I.loc;refine⟨m,ns m hn,λi x v e1 e2 e3=> ?_⟩;obtain⟨u,r,l⟩:=hl i x v e1 e2 e3;refine⟨u,r,?_⟩;rcases l with l|⟨k,c,e,z⟩
  ·exact .inl l
  ·exact .inr ⟨k,c,e,cellK x c e _ z⟩
 ·obtain⟨v,z⟩:=I.cell x c e;exact⟨v,cellK x c e v z⟩
 ·obtain⟨m,⟨o,_,_,ho,_⟩,_⟩:=I.loc;exact free _ o (λz=>(hch _ z).2.1 rfl) ho I.free
 ·obtain⟨v,o,ho,hd⟩:=I.cell x c e;exact free c o (λz=>(hch c z).2.2.1 x c e rfl) ho (I.freeC x c e)
 ·obtain⟨e,n,ne,nf,d⟩:=I.pin p hp;have nch:p.1 ∉ ch:=λz=>(hch p.1 z).2.2.2 p hp rfl
  exact⟨keep p.1 p.2 ne nf nch e n,free p.1 p.2 nch e n,ne,nf,d⟩
theorem Inv.un (I:Inv X pins σ H s)(u:Un X.fs [] H H' s.heap h')(hok:HOk X.prog X.w H' h'):Inv X pins σ H' {s with heap:=h',toks:=t'}:=by
 obtain⟨m,⟨o,es,ep,ho,r⟩,_⟩:=id I.loc;obtain⟨sl,hL⟩:=u.any ho I.free (by simp);exact I.step (g':=s.gens) (d':=s.drawn) (ch:= []) (λ_ z=>nomatch z) (λb o _ hb _ e n=>u.keep b o e n hb (by simp)) (λb o _ hb _ e n=>u.slot b o e n hb (by simp)) (λb o _ e n=>u.free b o e n (by simp)) (λb o _ e=>u.there b o e (by simp)) u.tups u.frzs u.tbls (λm' hm=>by
  obtain⟨o',es',ep',ho',r'⟩:=hm;rw [ho] at ho';cases ho';exact⟨_,es',ep',hL,r'⟩) hok I.bare
theorem Inv.call {g':Array GenState}{d':Drawn}{ch:List Addr}(I:Inv X pins σ H s)(u:Un (frs X.stack) ch H H' s.heap h')(hok:HOk X.prog X.w H' h')(hg:AllBare g')
 (hch: ∀b∈ch,(b∈X.ex\/X.s₀.heap.objs.size<=b)/\b≠X.env.locals/\(∀x c,X.env.cells.lookup x=some c->c≠b)/\ ∀p∈X.pn++pins,p.1≠b):
 Inv X pins σ H' {s with heap:=h',gens:=g',drawn:=d',toks:=t'}:=by
 obtain⟨m,⟨o,es,ep,ho,r⟩,_⟩:=id I.loc;obtain⟨sl,hL⟩:=u.any ho I.free λz=>(hch _ z).2.1 rfl
 exact I.step (ch:=ch) hch (λb o hL hb hc e n=>u.keep b o e n (λz=>(R5.mp (I.stkSub b z)).elim hL hb) hc) (λb o _ _ hc e n=>u.any e n hc) (λb o hc e n=>u.free b o e n hc) (λb o hc e=>u.there b o e hc) u.tups u.frzs u.tbls (λm' hm=>by
  obtain⟨o',es',ep',ho',r'⟩:=hm;rw [ho] at ho';cases ho';exact⟨_,es',ep',hL,r'⟩) hok hg
theorem Inv.turned {it:Addr}(I:Inv X pins σ H s)(k: ∀b o,b≠it->s.heap.get? b=some o->h'.get? b=some o)(hn:H it=none)(hL:it≠X.env.locals)
 (h1:it∈X.ex\/X.s₀.heap.objs.size<=it)(h2: ∀x c,X.env.cells.lookup x=some c->c≠it)(h3: ∀p∈X.pn++pins,p.1≠it):Inv X pins σ H {s with heap:=h',toks:=t'}:=by
 have nit: ∀b u,H b=some u->b≠it:=λb u e z=>by rw [z,hn] at e;cases e
 refine I.step (g':=s.gens) (d':=s.drawn) (ch:= [it]) (λb hb=> ?_) (λb o _ _ hc e _=>k b o (λz=>hc (by simp [z])) e) (λb o _ _ hc e _=>⟨o.slots,k b o (λz=>hc (by simp [z])) e⟩) (λ_ _ _ _ n=>n)
  (λb o hc e=>⟨o,k b o (λz=>hc (by simp [z])) e⟩) (λ_ _ e=>e) (λ_ _ _ e=>e) (λb ps e=>⟨#[],by rw [e];simp⟩) (λm hm=> ?_) (λb u e=> ?_) I.bare
 ·have e:b=it:=by simpa using hb
  subst e;exact⟨h1,hL,h2,h3⟩
 ·obtain⟨o,es,ep,ho,r⟩:=hm;exact⟨o,es,ep,k _ o (Ne.symm hL) ho,r⟩
 ·refine(I.hok b u e).stay (λc v hc q=>k c v ?_ q) (λ_ q=>q) λ_ _ q=>q
  rcases hc with z|z
  ·rw [z];exact nit b u e
  ·exact nit c _ z
theorem Inv.tok (I:Inv X pins σ H s)(t:Nat):Inv X pins σ H {s with toks:=t}:=I.un (h':=s.heap) (t':=t) Un.refl I.hok
theorem Inv.kept (I:Inv X pins σ H s)(k: ∀b u,s.heap.get? b=some u->h'.get? b=some u):Inv X pins σ H {s with heap:=h',toks:=t'}:=I.un (Un.kept k) (I.hok.kept k)
theorem Inv.laid {a:Addr}{o:HO}(I:Inv X pins σ H s)(k: ∀b u,s.heap.get? b=some u->h'.get? b=some u)(hp:s.heap.objs.size<=a)(new:ObjOk X.prog X.w (upd H a o) h' a o):
 Inv X pins σ (upd H a o) {s with heap:=h',toks:=t'}:=I.un (Un.laid k hp (I.hok.fresh hp)) (I.hok.laid k hp new)
theorem Inv.write {x e:Addr}{o:HO}(I:Inv X pins σ H s)(mu:Mut (H x))(he:e=x\/H e=some (.own x))(k: ∀b u,b≠e->s.heap.get? b=some u->h'.get? b=some u)(heo: ∃u,h'.get? e=some u)
 (new:ObjOk X.prog X.w (upd H x o) h' x o):Inv X pins σ (upd H x o) {s with heap:=h',toks:=t'}:=I.un (Un.write mu he k heo) (I.hok.write mu he k heo new)
theorem Inv.weak {σ':List (Option V)}(I:Inv X pins σ H s)(hl:σ'.length=σ.length)(w: ∀ (i:Nat) v,σ'[i]? =some (some v)->σ[i]? =some (some v)):Inv X pins σ' H s:=
 ⟨I.ok,I.os,I.bare,I.base,let ⟨m,hn,hl'⟩:=I.loc;⟨m,hn,λi x v e1 e2 e3=>hl' i x v e1 (w i v e2) e3⟩,I.cell,I.free,I.freeC,I.pin,I.hok,hl.trans I.len⟩
theorem Inv.pins_of {pins':List (Addr×Obj)}(I:Inv X pins σ H s)(h: ∀p∈pins',s.heap.get? p.1=some p.2/\H p.1=none/\p.1≠X.env.locals/\p.1 ∉ X.fs/\ ∀v,p.2.data≠ .cell v):Inv X pins' σ H s:=
 ⟨I.ok,I.os,I.bare,I.base,I.loc,I.cell,I.free,I.freeC,λp hp=>(D4.mp hp).elim (λz=>I.pin p (T1 _ z)) (h p),I.hok,I.len⟩
theorem Xr {N:List Str}(hN:N.Nodup){i j:Nat}{x:Str}(a:N[i]? =some x)(b:N[j]? =some x):i=j:=by
 obtain⟨h1,e1⟩:=G5.mp a;obtain⟨h2,e2⟩:=G5.mp b;exact(List.getElem_inj hN).mp (e1.trans e2.symm)
theorem Gk {M:Model}{A:Around}{E:Value->Shared->Prop}{i:Nat}{x:Str}{v:V}{u:Value}{Q:Unit->Shared->Prop}(I:Inv X pins σ H s)(hN:X.N.Nodup)(hi:X.N[i]? =some x)(hx:Loc X.env.scope x)(r:RelV v u)
 (h: ∀s',Inv X pins (σ.set i (some v)) H s'->(∃a,Heap.SameBut a s.heap s'.heap/\(a=X.env.locals\/X.env.cells.lookup x=some a))->Q () s')(hf:X.fn x=true\/X.env.scope.names.lookup x=some .local:=by first|exact .inl rfl|exact .inr rfl|assumption):wpAny M A (storeName X.env x u) Q E s:=by
 obtain⟨m,hn,hl⟩:=id I.loc;have hcls:(X.env.scope.kind== .class||(X.env.scope.kind== .module&&X.env.locals !=X.env.globals))=false:=by rw [I.ok.kind];rfl
 have hiσ:i<σ.length:=by rw [I.len];exact(G5.mp hi).1
 have cne:=I.cne;have tracked: ∀ {a:Addr} {h':Heap},(∃o,s.heap.get? a=some o/\H a=none)->Heap.SameBut a s.heap h'->HOk X.prog X.w H h':=λ{a h'} ha hs b ob e=>by
  obtain⟨_,_,hfree⟩:=ha;refine(I.hok b ob e).stay (λc w' hc q=>(hs.2 c ?_).trans q) (λ_ q=>q) λ_ _ q=>q
  rintro rfl;rcases hc with rfl|hc
  ·rw [hfree] at e;cases e
  ·rw [hfree] at hc;cases hc
 rcases hx with hk|hk
 ·refine wpAny_storeName_local hk hn (λh' hn' hs=> ?_) hcls;obtain⟨oL,_,_,hoL,_⟩:=id hn;refine h _ ⟨I.ok,I.os,I.bare,⟨λb o e n hb hx=> ?_,λb o e n hb hx=> ?_,I.base.free,λb o e hx=> ?_,I.base.tups,I.base.frzs,I.base.tbls⟩,⟨_,hn',λj y v' e1 e2 e3=> ?_⟩,λy c e=> ?_,I.free,I.freeC,λp hp=> ?_,tracked ⟨oL,hoL,I.free⟩ hs,by simpa using I.len⟩ ⟨_,hs,.inl rfl⟩
  ·exact(hs.2 b (S1 (R8 (D3 e) I.ok.above))).trans (I.base.keep b o e n hb hx)
  ·obtain⟨sl,e1⟩:=I.base.slot b o e n hb hx;exact⟨sl,(hs.2 b (S1 (R8 (D3 e) I.ok.above))).trans e1⟩
  ·obtain⟨o',e1⟩:=I.base.there b o e hx;exact⟨o',(hs.2 b (S1 (R8 (D3 e) I.ok.above))).trans e1⟩
  ·by_cases hj:j=i
   ·subst hj;rw [hi] at e1;cases e1;rw [V3 hiσ] at e2;cases e2;exact⟨u,r,.inl ⟨hk,by simp⟩⟩
   ·rw [B3 (Ne.symm hj)] at e2;obtain⟨u',r',q⟩:=hl j y v' e1 e2 e3;refine⟨u',r',?_⟩;rcases q with ⟨k,e⟩|⟨k,c,e,z⟩
    ·refine .inl ⟨k,?_⟩;have:y≠x:=λe=>hj (Xr hN e1 (e ▸ hi))
     simp [this,e]
    ·exact .inr ⟨k,c,e,z.sameBut hs (cne y c e)⟩
  ·obtain⟨w',z⟩:=I.cell y c e;exact⟨w',z.sameBut hs (cne y c e)⟩
  ·obtain⟨e,n,ne,nf,d⟩:=I.pin p hp;exact⟨(hs.2 p.1 ne).trans e,n,ne,nf,d⟩
 ·have hfn:X.fn x=true:=by
   rcases hf with z|z
   ·exact z
   ·rw [z] at hk;cases hk
  obtain⟨c,hc⟩:=I.ok.has x (.inl hk);obtain⟨w',z⟩:=I.cell x c hc;refine wpAny_storeName_cell I.ok.kind hk hc z (λh' hc' hs=> ?_);obtain⟨oc,hoc,hocd⟩:=id z;refine h {s with heap:=h'} ⟨I.ok,I.os,I.bare,⟨λb o e n hb hx=> ?_,λb o e n hb hx=> ?_,I.base.free,λb o e hx=> ?_,I.base.tups,I.base.frzs,I.base.tbls⟩,⟨m,hn.sameBut hs (Ne.symm (cne x c hc)),λj y v' e1 e2 e3=> ?_⟩,λy c' e=> ?_,I.free,I.freeC,λp hp=> ?_,tracked ⟨oc,hoc,I.freeC x c hc⟩ hs,by simpa using I.len⟩ ⟨c,hs,.inr hc⟩
  ·exact(hs.2 b (S1 (R8 (D3 e) (I.ok.cab x c hfn hc)))).trans (I.base.keep b o e n hb hx)
  ·obtain⟨sl,e1⟩:=I.base.slot b o e n hb hx;exact⟨sl,(hs.2 b (S1 (R8 (D3 e) (I.ok.cab x c hfn hc)))).trans e1⟩
  ·obtain⟨o',e1⟩:=I.base.there b o e hx;exact⟨o',(hs.2 b (S1 (R8 (D3 e) (I.ok.cab x c hfn hc)))).trans e1⟩
  ·by_cases hj:j=i
   ·subst hj;rw [hi] at e1;cases e1;rw [V3 hiσ] at e2;cases e2;exact⟨u,r,.inr ⟨.inl hk,c,hc,hc'⟩⟩
   ·rw [B3 (Ne.symm hj)] at e2;obtain⟨u',r',q⟩:=hl j y v' e1 e2 e3;refine⟨u',r',?_⟩;rcases q with q|⟨k,c',e,z'⟩
    ·exact .inl q
    ·refine .inr ⟨k,c',e,z'.sameBut hs ?_⟩;rintro rfl;exact hj (Xr hN e1 (I.ok.inj _ _ _ e hc ▸ hi))
  ·by_cases hcc:c'=c
   ·subst hcc;exact⟨_,hc'⟩
   ·obtain⟨w2,z2⟩:=I.cell y c' e;exact⟨w2,z2.sameBut hs hcc⟩
  ·obtain⟨e,n,ne,nf,d⟩:=I.pin p hp;refine⟨(hs.2 p.1 ?_).trans e,n,ne,nf,d⟩;intro q;rw [q,hoc] at e;have q':oc=p.2:=M7 e;exact d w' (by rw [<-q'];exact hocd)
theorem JV {M:Model}{A:Around}{E:Value->Shared->Prop}{i:Nat}{x:Str}{v:V}{u:Value}{Q:Unit->Shared->Prop}(I:Inv X pins σ H s)(hN:X.N.Nodup)(hi:X.N[i]? =some x)(hx:Loc X.env.scope x)(r:RelV v u)
 (h: ∀s',Inv X pins (σ.set i (some v)) H s'->Q () s')(hf:X.fn x=true\/X.env.scope.names.lookup x=some .local:=by first|exact .inl rfl|exact .inr rfl|assumption):wpAny M A (storeName X.env x u) Q E s:=
 Gk I hN hi hx r (λs' I' _=>h s' I') hf
theorem Inv.call' {s':Shared}{ch:List Addr}(I:Inv X pins σ H s)(ho:s'.os=s.os)(u:Un (frs X.stack) ch H H' s.heap s'.heap)(hok:HOk X.prog X.w H' s'.heap)(hg:AllBare s'.gens)
 (hch: ∀b∈ch,(b∈X.ex\/X.s₀.heap.objs.size<=b)/\b≠X.env.locals/\(∀x c,X.env.cells.lookup x=some c->c≠b)/\ ∀p∈X.pn++pins,p.1≠b):Inv X pins σ H' s':=by
 obtain⟨h',g',d',t',o'⟩:=s';have e:o'=s.os:=ho;subst e;exact I.call (g':=g') (t':=t') (d':=d') u hok hg hch
end
abbrev XK:=Value->Option Addr->Hp->Prop
abbrev St:=List (Option V)
abbrev VK:=V->Hp->Prop
abbrev TE:=St->Hp->VK->Prop
abbrev TT:=St->Hp->(Bool->Hp->Prop)->Prop
abbrev TA:=St->Hp->(List V->Hp->Prop)->Prop
structure Ends where
 nx:St->Hp->Prop
 rt:VK
 bk:St->Hp->Prop:=λ_ _=>False
 ct:St->Hp->Prop:=λ_ _=>False
abbrev TS:=Ends->St->Hp->Prop
def EP (X:Cx)(pins:List (Addr×Obj))(σ:St)(Q:VK)(u:Value)(s':Shared):Prop:= ∃v H',Inv X pins σ H' s'/\RelV v u/\Q v H'
def TP (X:Cx)(pins:List (Addr×Obj))(σ:St)(Q:Bool->Hp->Prop)(b:Bool)(s':Shared):Prop:= ∃H',Inv X pins σ H' s'/\Q b H'
def AP (X:Cx)(pins:List (Addr×Obj))(σ:St)(Q:List V->Hp->Prop)(us:List Value)(s':Shared):Prop:= ∃vs H',Inv X pins σ H' s'/\Vals vs us/\Q vs H'
def SP (X:Cx)(pins:List (Addr×Obj))(D:Ends)(f:Flow)(s':Shared):Prop:=
 match f with
 | .next=> ∃σ' H',Inv X pins σ' H' s'/\D.nx σ' H'
 | .brk=> ∃σ' H',Inv X pins σ' H' s'/\D.bk σ' H'
 | .cont=> ∃σ' H',Inv X pins σ' H' s'/\D.ct σ' H'
 | .ret u=> ∃v σ' H',Inv X pins σ' H' s'/\RelV v u/\D.rt v H'
def PE (X:Cx)(e:Expr)(t:TE):Prop:=
 ∀ (pins:List (Addr×Obj)) (s:Shared) (σ:St) (H:Hp) (Q:VK),Inv X pins σ H s->t σ H Q->wpAny (model X.prog X.w) X.A (eval e X.env) (EP X pins σ Q) X.xe s
def PT (X:Cx)(e:Expr)(t:TT):Prop:=
 ∀ (pins:List (Addr×Obj)) (s:Shared) (σ:St) (H:Hp) (Q:Bool->Hp->Prop),Inv X pins σ H s->t σ H Q->wpAny (model X.prog X.w) X.A (isTrue e X.env (eval e X.env)) (TP X pins σ Q) X.xe s
def PW (X:Cx)(e:Expr)(t:TT):Prop:=
 ∀ (whole:Sem Value) (pins:List (Addr×Obj)) (s:Shared) (σ:St) (H:Hp) (Q:Bool->Hp->Prop),Inv X pins σ H s->t σ H Q->wpAny (model X.prog X.w) X.A (isTrue e X.env whole) (TP X pins σ Q) X.xe s
variable {X:Cx}
theorem PW.pt {e:Expr}{t:TT}(h:PW X e t):PT X e t:=h _
def PA (X:Cx)(es:List Expr)(t:TA):Prop:=
 ∀ (pos:Pos) (pins:List (Addr×Obj)) (s:Shared) (σ:St) (H:Hp) (Q:List V->Hp->Prop),Inv X pins σ H s->t σ H Q->wpAny (model X.prog X.w) X.A (spliced (backTo pos (starEach es X.env))) (AP X pins σ Q) X.xe s
def PS (X:Cx)(st:Stmt)(t:TS):Prop:=
 ∀ (pins:List (Addr×Obj)) (s:Shared) (σ:St) (H:Hp) (D:Ends),Inv X pins σ H s->t D σ H->wpAny (model X.prog X.w) X.A (exec st X.env) (SP X pins D) X.xe s
def PSs (X:Cx)(st:List Stmt)(t:TS):Prop:=
 ∀ (pins:List (Addr×Obj)) (s:Shared) (σ:St) (H:Hp) (D:Ends),Inv X pins σ H s->t D σ H->wpAny (model X.prog X.w) X.A (execs st X.env) (SP X pins D) X.xe s
variable {A:Around}{s:Shared}
theorem thn {α:Type}{t:Sem α}{Q Q':α->Shared->Prop}{M:Model}{E:Value->Shared->Prop}(h:wpAny M A t Q E s)(hQ: ∀a s,Q a s->Q' a s):wpAny M A t Q' E s:=S3 h hQ λ_ _ x=>x
section
variable {X:Cx}
def Eo (i:Nat):TE:=λσ H Q=> ∃v,σ[i]? =some (some v)/\Q v H
def tC (v:V):TE:=λ_ H Q=>Q v H
variable {x:Str}
theorem CU {i:Nat}{pos:Pos}(hN:X.N[i]? =some x)(hv:Vis X.env.scope x)(hd:(x==("__debug__" :Str))=false:=by decide)(hcd:(x==("__classdict__" :Str))=false:=by decide):PE X (.Name x pos) (Eo i):=by
 intro pins s σ H Q I h;obtain⟨v,e,h⟩:=h;obtain⟨m,hn,hl⟩:=I.loc;obtain⟨u,r,l⟩:=hl i x v hN e hv;have fin:EP X pins σ Q u s:=⟨v,H,I,r,h⟩;rcases l with ⟨hk,hm⟩|⟨hk,c,hc,hcell⟩
 ·exact wpAny_Name (wpAny_loadName_local I.ok.kind hk hn hm fin) hd
 ·rcases hk with hk|hk
  ·exact wpAny_Name (wpAny_loadName_cell I.ok.kind hk hc hcell fin) hd
  ·exact wpAny_Name (wpAny_loadName_free I.ok.kind hk hc hcell fin hcd) hd
theorem pe_int {i j pos}:PE X (.Constant (.int i) j pos) (tC (.int i)):=λ_ _ _ H _ I h=>wpAny_Constant_int ⟨.int i,H,I.tok _,⟨_,rfl⟩,h⟩
theorem pe_bl {b j pos}:PE X (.Constant (.bool b) j pos) (tC (.bl b)):=λ_ _ _ H _ I h=>Constant_bool ⟨.bl b,H,I,rfl,h⟩
theorem pe_non {j pos}:PE X (.Constant .none j pos) (tC .non):=λ_ _ _ H _ I h=>Constant_none ⟨.non,H,I,rfl,h⟩
def Gl (X:Cx)(x:Str):Prop:=X.env.kindOf x=some .globalImplicit
variable {u:Value}
theorem Gm {E:Value->Shared->Prop}{pins:List (Addr×Obj)}{s:Shared}{σ:St}{H:Hp}{pos:Pos}{Q:Value->Shared->Prop}(I:Inv X pins σ H s)(hg:Gl X x)(hm:X.mg x=some u)(h:Q u s)
 (hd:(x==("__debug__" :Str))=false:=by decide):wpAny (model X.prog X.w) X.A (eval (.Name x pos) X.env) Q E s:=
 Y8 I.ok.kind hg (Calls.loadGlobal_global (by rw [I.ok.glob];exact I.mod.glob.keeps I.bk) hm h) hd
theorem Zk {E:Value->Shared->Prop}{pins:List (Addr×Obj)}{s:Shared}{σ:St}{H:Hp}{pos:Pos}{Q:Value->Shared->Prop}(I:Inv X pins σ H s)(hg:Gl X x)(hm:X.mg x=none)(hv:bootBuiltins x=some u)(h:Q u s)
 (hn:x≠ "__name__" :=by decide)(hd:(x==("__debug__" :Str))=false:=by decide):wpAny (model X.prog X.w) X.A (eval (.Name x pos) X.env) Q E s:=by
 obtain⟨mb,h1,h2⟩:=I.mod.blt;exact Y8 I.ok.kind hg (Calls.loadGlobal_builtin (by rw [I.ok.glob];exact I.mod.glob.keeps I.bk) hm (by rw [I.ok.blt];exact h1.keeps I.bk) ((h2 x hn).trans hv) h) hd
theorem Nt {v:V}{pos:Pos}(hg:Gl X x)(hm:X.mg x=some u)(r:RelV v u)(hd:(x==("__debug__" :Str))=false:=by decide):PE X (.Name x pos) (tC v):=
 λ_ _ _ H _ I h=>Gm I hg hm ⟨v,H,I,r,h⟩ hd
theorem Nu {v:V}{pos:Pos}(hg:Gl X x)(hm:X.mg x=none)(hv:bootBuiltins x=some u)(r:RelV v u)(hn:x≠ "__name__" :=by decide)(hd:(x==("__debug__" :Str))=false:=by decide):PE X (.Name x pos) (tC v):=
 λ_ _ _ H _ I h=>Zk I hg hm hv ⟨v,H,I,r,h⟩ hn hd
variable {a b:Expr}{ta tb:TE}{pos:Pos}
def tB (t:TE):TT:=λσ H Q=>t σ H λx H1=> ∃c,x= .bl c/\Q c H1
theorem CV {e:Expr}{t:TE}(h:PE X e t)(he: ∀whole,isTrue e X.env whole=(do let v <-whole;standAt e.pos;holding [v] (truthy v)):=by intro _;rfl):PT X e (tB t):=by
 intro pins s σ H Q I hw;refine isTrue_plain (thn (h pins s σ H _ I hw) λv s1 ⟨x,H1,I1,r1,q1⟩=> ?_) (he _);obtain⟨d,rfl,q⟩:=q1;cases r1;exact N5 ⟨H1,I1,q⟩
variable {tA tB':TT}{rest:List Expr}
def Ep (t u:TT):TT:=λσ H Q=>t σ H λc H1=>if c=true then u σ H1 Q else Q false H1
def tOr (t u:TT):TT:=λσ H Q=>t σ H λc H1=>if c=true then Q true H1 else u σ H1 Q
def Er (t:TT):TT:=λσ H Q=>t σ H λc H1=>Q (!c) H1
theorem Nv (ha:PT X a tA):PW X (.BoolOp .And [a] pos) tA:=by
 intro wh pins s σ H Q I h;refine isTrue_and (thn (ha pins s σ H Q I h) λc s1 e=> ?_);cases c with
 |true=>exact isTrue_and_nil e
 |false=>exact e
theorem CW (ha:PT X a tA):PW X (.BoolOp .Or [a] pos) tA:=by
 intro wh pins s σ H Q I h;refine isTrue_or (thn (ha pins s σ H Q I h) λc s1 e=> ?_);cases c with
 |false=>exact isTrue_or_nil e
 |true=>exact e
theorem CY (ha:PT X a tA)(hb:PW X (.BoolOp .And (b::rest) pos) tB'):PW X (.BoolOp .And (a::b::rest) pos) (Ep tA tB'):=by
 intro wh pins s σ H Q I h;refine isTrue_and (thn (ha pins s σ H _ I h) λc s1 ⟨H1,I1,q1⟩=> ?_);cases c with
 |true=>exact hb wh pins s1 σ H1 Q I1 q1
 |false=>exact⟨H1,I1,q1⟩
theorem OT (ha:PT X a tA)(hb:PW X (.BoolOp .Or (b::rest) pos) tB'):PW X (.BoolOp .Or (a::b::rest) pos) (tOr tA tB'):=by
 intro wh pins s σ H Q I h;refine isTrue_or (thn (ha pins s σ H _ I h) λc s1 ⟨H1,I1,q1⟩=> ?_);cases c with
 |true=>exact⟨H1,I1,q1⟩
 |false=>exact hb wh pins s1 σ H1 Q I1 q1
theorem CZ (ha:PT X a tA):PT X (.UnaryOp .Not a pos) (Er tA):=by
 intro pins s σ H Q I h;exact isTrue_not (ha pins s σ H (λc H1=>Q (!c) H1) I h)
def Fa (ta tb:TE):TE:=λσ H Q=>ta σ H λx H1=> ∃c,x= .bl c/\if c=true then tb σ H1 Q else Q (.bl false) H1
def Es (ta tb:TE):TE:=λσ H Q=>ta σ H λx H1=> ∃c,x= .bl c/\if c=true then Q (.bl true) H1 else tb σ H1 Q
def Fb (ta:TE):TE:=λσ H Q=>ta σ H λx H1=> ∃c,x= .bl c/\Q (.bl (!c)) H1
theorem Fc {op}{t:TE}(h:PE X a t):PE X (.BoolOp op [a] pos) t:=λpins s σ H Q I hw=>BoolOp_one (h pins s σ H Q I hw)
theorem Fd (ha:PE X a ta)(hb:PE X (.BoolOp .And (b::rest) pos) tb):PE X (.BoolOp .And (a::b::rest) pos) (Fa ta tb):=by
 intro pins s σ H Q I h;refine BoolOp_and (thn (ha pins s σ H _ I h) λv s1 ⟨x,H1,I1,r1,q1⟩=> ?_);obtain⟨c,rfl,q1⟩:=q1;cases r1;refine N5 ?_;cases c with
 |true=>exact hb pins s1 σ H1 Q I1 q1
 |false=>exact⟨.bl false,H1,I1,rfl,q1⟩
theorem OU (ha:PE X a ta)(hb:PE X (.BoolOp .Or (b::rest) pos) tb):PE X (.BoolOp .Or (a::b::rest) pos) (Es ta tb):=by
 intro pins s σ H Q I h;refine BoolOp_or (thn (ha pins s σ H _ I h) λv s1 ⟨x,H1,I1,r1,q1⟩=> ?_);obtain⟨c,rfl,q1⟩:=q1;cases r1;refine N5 ?_;cases c with
 |false=>exact hb pins s1 σ H1 Q I1 q1
 |true=>exact⟨.bl true,H1,I1,rfl,q1⟩
theorem Fe (ha:PE X a ta):PE X (.UnaryOp .Not a pos) (Fb ta):=by
 intro pins s σ H Q I h;refine UnaryOp_ (thn (ha pins s σ H _ I h) λv s1 ⟨x,H1,I1,r1,q1⟩=> ?_);obtain⟨c,rfl,q1⟩:=q1;cases r1;exact not_of (N5 ⟨.bl (!c),H1,I1,rfl,q1⟩)
def tIf (t:TT)(ta tb:TE):TE:=λσ H Q=>t σ H λc H1=>if c=true then ta σ H1 Q else tb σ H1 Q
theorem DS {c:Expr}(hc:PT X c tA)(ha:PE X a ta)(hb:PE X b tb):PE X (.IfExp c a b pos) (tIf tA ta tb):=by
 intro pins s σ H Q I h;refine wpAny_IfExp (thn (hc pins s σ H _ I h) λd s1 ⟨H1,I1,q1⟩=> ?_);cases d with
 |true=>exact ha pins s1 σ H1 Q I1 q1
 |false=>exact hb pins s1 σ H1 Q I1 q1
end
def SqL (K:PySem.W.Frag)(H:Hp)(a:Addr)(xs:List V):Prop:=
 Rd H a (.lst xs)\/
  ∃ (o:Obj) (its:Array Value) (n:Nat),K.lookup a=some o/\o.cls= .type "list" /\o.dict=none/\o.data= .seq its n/\its.size<=sizeLine/\Vals xs its.toList
def SqT (K:PySem.W.Frag)(H:Hp)(a:Addr)(xs:List V):Prop:=
 Rd H a (.tup xs)\/
  ∃ (o:Obj) (its:Array Value) (n:Nat),K.lookup a=some o/\o.cls= .type "tuple" /\o.data= .seq its n/\its.size<=sizeLine/\Vals xs its.toList
def Si:Value->Option V
 | .none=>some .non
 | .bool b=>some (.bl b)
 | .int i _=>some (.int i)
 | .str x _=>some (.str x)
 | .bytes b _=>some (.byt b)
 | .float b _=>some (.flt b)
 | .ref a=>some (.ref a)
 | .type n=>some (.ty n)
 |_=>none
theorem RelV.abs {x:V}(r:RelV x u):Si u=some x:=by
 cases x with
 |non=>cases r;rfl
 |bl _=>cases r;rfl
 |int _=>obtain⟨t,rfl⟩:=r;rfl
 |str _=>obtain⟨t,rfl⟩:=r;rfl
 |byt _=>obtain⟨t,rfl⟩:=r;rfl
 |flt _=>obtain⟨t,rfl⟩:=r;rfl
 |ref _=>cases r;rfl
 |ty _=>cases r;rfl
theorem RelV.inj {x y:V}(r:RelV x u)(q:RelV y u):x=y:=M7 (r.abs.symm.trans q.abs)
theorem Vals.inj: ∀ {xs ys:List V} {us:List Value},Vals xs us->Vals ys us->xs=ys
 |_,_,_,.nil,.nil=>rfl
 |_,_,_,.cons r t,.cons r' t'=>by rw [r.inj r',Vals.inj t t']
section
variable {X:Cx}{pins:List (Addr×Obj)}{σ:St}{H:Hp}{s:Shared}{a:Addr}{xs ys:List V}
theorem SqL.of {K:PySem.W.Frag}(h:H a=some (.lst xs)):SqL K H a xs:= .inl (.inl h)
theorem SqT.of {K:PySem.W.Frag}(h:H a=some (.tup xs)):SqT K H a xs:= .inl (.inl h)
theorem Inv.list (I:Inv X pins σ H s)(h:SqL X.K H a xs): ∃its:List Value,Vals xs its/\PlainL s.heap a its.toArray/\xs.length<=sizeLine:=by
 rcases h with h|⟨o,its,n,hk,hc,hd,hs,hz,r⟩
 ·obtain⟨z,its,n,r,e⟩:=h.ok I.hok;exact⟨its,r,⟨_,n,e,rfl,rfl,rfl⟩,z⟩
 ·refine⟨its.toList,r,⟨o,n,I.kIn a o hk,hc,hd,by simpa using hs⟩,?_⟩;have e:=r.length;simp only [T0] at e;omega
theorem Inv.tuple (I:Inv X pins σ H s)(h:SqT X.K H a xs): ∃its:List Value,Vals xs its/\IsTup s.heap a its.toArray/\xs.length<=sizeLine:=by
 rcases h with h|⟨o,its,n,hk,hc,hs,hz,r⟩
 ·obtain⟨z,its,r,p⟩:=h.ok I.hok;exact⟨its,r,p.tup,z⟩
 ·refine⟨its.toList,r,⟨o,I.kIn a o hk,hc,n,by simpa using hs⟩,?_⟩;have e:=r.length;simp only [T0] at e;omega
theorem Inv.list_inj (I:Inv X pins σ H s)(h:SqL X.K H a xs)(h':SqL X.K H a ys):xs=ys:=by
 obtain⟨its,r,⟨o,n,e,_,_,d⟩,_⟩:=I.list h;obtain⟨its',r',⟨o',n',e',_,_,d'⟩,_⟩:=I.list h';rw [e] at e';cases e';rw [d] at d';injection d' with d1 _
 have:its=its':=by simpa using congrArg Array.toList d1
 subst this;exact r.inj r'
theorem Inv.tuple_inj (I:Inv X pins σ H s)(h:SqT X.K H a xs)(h':SqT X.K H a ys):xs=ys:=by
 obtain⟨its,r,⟨o,e,_,n,d⟩,_⟩:=I.tuple h;obtain⟨its',r',⟨o',e',_,n',d'⟩,_⟩:=I.tuple h';rw [e] at e';cases e';rw [d] at d';injection d' with d1 _
 have:its=its':=by simpa using congrArg Array.toList d1
 subst this;exact r.inj r'
end
abbrev Cx.wish (X:Cx)(E:Value->Shared->Prop):Cx:= {X with xe:=E}
abbrev Cx.nox (X:Cx):Cx:=X.wish λ_ _=>False
theorem Cx.Ok.wish (ok:X.Ok)(E:Value->Shared->Prop):(X.wish E).Ok:=
 ⟨ok.mod,ok.kind,ok.glob,ok.blt,ok.above,ok.inj,ok.has,ok.cab,ok.hd,ok.frames,ok.stk,ok.exf,ok.bs,ok.bsz,ok.noex,ok.exfs,ok.funs,ok.frf⟩
theorem Cx.Ok.unwish {E:Value->Shared->Prop}(ok:(X.wish E).Ok):X.Ok:=
 ⟨ok.mod,ok.kind,ok.glob,ok.blt,ok.above,ok.inj,ok.has,ok.cab,ok.hd,ok.frames,ok.stk,ok.exf,ok.bs,ok.bsz,ok.noex,ok.exfs,ok.funs,ok.frf⟩
section
variable {X:Cx}{pins:List (Addr×Obj)}{σ:St}{H:Hp}{s:Shared}{E:Value->Shared->Prop}
theorem Inv.wish (I:Inv X pins σ H s)(E:Value->Shared->Prop):Inv (X.wish E) pins σ H s:=⟨I.ok.wish E,I.os,I.bare,I.base,I.loc,I.cell,I.free,I.freeC,I.pin,I.hok,I.len⟩
theorem Inv.unwish (I:Inv (X.wish E) pins σ H s):Inv X pins σ H s:=⟨I.ok.unwish,I.os,I.bare,I.base,I.loc,I.cell,I.free,I.freeC,I.pin,I.hok,I.len⟩
theorem SP.unwish {D:Ends}{f:Flow}{s':Shared}(h:SP (X.wish E) pins D f s'):SP X pins D f s':=by
 cases f with
 |next=>obtain⟨σ',H',I,q⟩:=h;exact⟨σ',H',I.unwish,q⟩
 |brk=>obtain⟨σ',H',I,q⟩:=h;exact⟨σ',H',I.unwish,q⟩
 |cont=>obtain⟨σ',H',I,q⟩:=h;exact⟨σ',H',I.unwish,q⟩
 |ret u=>obtain⟨v,σ',H',I,r,q⟩:=h;exact⟨v,σ',H',I.unwish,r,q⟩
theorem PSs.nox {st:List Stmt}{t:TS}(h:PSs X.nox st t):PSs X st t:=λpins s σ H D I hw=>
 S3 (h pins s σ H D (I.wish _) hw) (λ_ _ q=>q.unwish) λ_ _ z=>False.elim z
end
section
variable {X:Cx}{st:Stmt}{rest:List Stmt}{t u:TS}{e:Expr}{te:TE}{pos:Pos}
def Ff:TS:=λD σ H=>D.nx σ H
def Et (t u:TS):TS:=λD σ H=>t {D with nx:=u D} σ H
theorem pss_nil:PSs X [] Ff:=λ_ _ σ H _ I h=>X8 ⟨σ,H,I,h⟩
theorem DT (h1:PS X st t)(h2:PSs X rest u):PSs X (st::rest) (Et t u):=by
 intro pins s σ H D I h;refine wpAny_execs_cons (thn (h1 pins s σ H {D with nx:=u D} I h) λf s1 q=> ?_);cases f with
 |next=>
  obtain⟨σ',H',I',q⟩:=q;exact h2 pins s1 σ' H' D I' q
 |ret v=>exact q
 |brk=>exact q
 |cont=>exact q
theorem Nw (h1:PS X st t):PSs X [st] t:=by
 intro pins s σ H D I h;refine wpAny_execs_cons (thn (h1 pins s σ H D I h) λf s1 q=> ?_);cases f with
 |next=>exact X8 q
 |ret v=>exact q
 |brk=>exact q
 |cont=>exact q
theorem Inv.quiet {pins:List (Addr×Obj)}{σ:St}{H:Hp}{s:Shared}(I:Inv X pins σ H s):interactive X.env=false:=by simp [interactive,I.ok.kind]
def Fg (te:TE):TS:=λD σ H=>te σ H λ_ H1=>D.nx σ H1
theorem Nx (he:PE X e te)(hs:swapsWith e none pos.line X.env=pure false:=by rfl):PS X (.Expr e pos) (Fg te):=by
 intro pins s σ H D I h;exact wpAny_Expr_any (thn (he pins s σ H _ I h) λv s1 ⟨x,H1,I1,r1,q1⟩=>⟨σ,H1,I1,q1⟩) I.quiet hs
def Eu (te:TE):TS:=λD σ H=>te σ H D.rt
theorem Fh (he:PE X e te):PS X (.Return (some e) pos) (Eu te):=by
 intro pins s σ H D I h;exact wpAny_Return_some (thn (he pins s σ H _ I h) λv s1 ⟨x,H1,I1,r1,q1⟩=>⟨x,σ,H1,I1,r1,q1⟩)
def Ev (c:TT)(t u:TS):TS:=λD σ H=>c σ H λb H1=>if b=true then t D σ H1 else u D σ H1
theorem OV {c:Expr}{a b:List Stmt}{tc:TT}(hc:PT X c tc)(ha:PSs X a t)(hb:PSs X b u):PS X (.If c a b pos) (Ev tc t u):=by
 intro pins s σ H D I h;refine wpAny_If (thn (hc pins s σ H _ I h) λd s1 ⟨H1,I1,q1⟩=> ?_);cases d with
 |true=>exact ha pins s1 σ H1 D I1 q1
 |false=>exact hb pins s1 σ H1 D I1 q1
end
abbrev TG:=V->St->Hp->(St->Hp->Prop)->Prop
abbrev TGs:=List V->St->Hp->(St->Hp->Prop)->Prop
def PG (X:Cx)(target:Expr)(t:TG):Prop:=
 ∀ (pins:List (Addr×Obj)) (s:Shared) (σ:St) (H:Hp) (v:V) (u:Value) (Q:St->Hp->Prop),Inv X pins σ H s->RelV v u->t v σ H Q->
  wpAny (model X.prog X.w) X.A (assign target X.env u) (λ_ s'=> ∃σ' H',Inv X pins σ' H' s'/\Q σ' H') X.xe s
def PGs (X:Cx)(ts:List Expr)(t:TGs):Prop:=
 ∀ (pins:List (Addr×Obj)) (s:Shared) (σ:St) (H:Hp) (vs:List V) (us:List Value) (Q:St->Hp->Prop),Inv X pins σ H s->Vals vs us->t vs σ H Q->
  wpAny (model X.prog X.w) X.A (assignInOrder ((assignEach ts X.env).map (·.2)) us) (λ_ s'=> ∃σ' H',Inv X pins σ' H' s'/\Q σ' H') X.xe s
abbrev OW:=V->V->V->Hp->(Hp->Prop)->Prop
def Ew (X:Cx)(t:OW):Prop:=
 ∀ (pins:List (Addr×Obj)) (s:Shared) (σ:St) (H:Hp) (o i v:V) (ov iv u:Value) (Q:Hp->Prop),Inv X pins σ H s->RelV o ov->RelV i iv->RelV v u->t o i v H Q->
  wpAny (model X.prog X.w) X.A (setItem ov iv u) (λ_ s'=> ∃H',Inv X pins σ H' s'/\Q H') X.xe s
section
variable {X:Cx}{pos:Pos}
def yE (i:Nat):TG:=λv σ H Q=>Q (σ.set i (some v)) H
theorem vY {i:Nat}{x:Str}(hN:X.N.Nodup)(hi:X.N[i]? =some x)(hx:Loc X.env.scope x)(hf:X.fn x=true\/X.env.scope.names.lookup x=some .local:=by first|exact .inl rfl|exact .inr rfl|assumption):PG X (.Name x pos) (yE i):=by
 intro pins s σ H v u Q I r h;exact wpAny_assign_Name (JV I hN hi hx r (λs' I'=>⟨_,H,I',h⟩) hf)
def OX:TGs:=λvs σ H Q=>vs= []/\Q σ H
def Gn (t:TG)(u:TGs):TGs:=λvs σ H Q=> ∃v r,vs=v::r/\t v σ H λσ' H'=>u r σ' H' Q
theorem Go:PGs X [] OX:=by
 intro pins s σ H vs us Q I r h;obtain⟨e,h⟩:=h;subst e;cases r;exact assignInOrder_nil ⟨σ,H,I,h⟩
theorem JX {e:Expr}{es:List Expr}{t:TG}{u:TGs}(h1:PG X e t)(h2:PGs X es u)
 (hs:(assignEach (e::es) X.env).map (·.2)=assign e X.env::(assignEach es X.env).map (·.2):=by rfl):PGs X (e::es) (Gn t u):=by
 intro pins s σ H vs us Q I r h;obtain⟨v,vr,e1,h⟩:=h;subst e1;cases r with
 |cons r rr=>
  rw [hs];refine Z9 (thn (h1 pins s σ H _ _ _ I r h) λ_ s1 ⟨σ1,H1,I1,q1⟩=> ?_);exact h2 pins s1 σ1 H1 _ _ Q I1 rr q1
def OY (K:PySem.W.Frag)(n:Nat)(t:TGs):TG:=λv σ H Q=> ∃a xs,v= .ref a/\SqT K H a xs/\xs.length=n/\t xs σ H Q
theorem MP {es:List Expr}{k:Nat}{t:TGs}{n:Nat}(hc:X.calm=true)(h:PGs X es t)
 (hn:(assignEach es X.env).length=n:=by rfl)(hst:(assignEach es X.env).findIdx? (·.1)=none:=by rfl):PG X (.Tuple es k pos) (OY X.K n t):=by
 intro pins s σ H v u Q I r hw;obtain⟨a,xs,e1,hq,hl,hw⟩:=hw;subst e1;cases r;obtain⟨its,rv,ht,hz⟩:=I.tuple hq;refine assign_Tuple_tuple (I.ok.hd hc) ht (by simp [hn,<-hl,rv.length]) hst λh' hx=> ?_
 have I1:Inv X pins σ H {s with heap:=h'}:=I.kept (t':=s.toks) λb o e=>hx b o (S1 (D3 e)) e
 exact h pins _ σ H xs _ Q I1 (by simpa using rv) hw
def Sj (to ti:TE)(t:OW):TG:=λv σ H Q=>to σ H λo H1=>ti σ H1 λi H2=>t o i v H2 λH3=>Q σ H3
theorem Fi {o i:Expr}{to ti:TE}{t:OW}(ho:PE X o to)(hi:PE X i ti)(hs:Ew X t)
 (ha: ∀v,assign (.Subscript o i pos) X.env v=(do
  let ov <-holding [v] (eval o X.env)
  let iv <-holding [v,ov] (eval i X.env)
  standAt pos
  holding [v,ov,iv] (setItem ov iv v)
  release [v,ov,iv] []):=by intro _;rfl):PG X (.Subscript o i pos) (Sj to ti t):=by
 intro pins s σ H v u Q I r h;rw [ha];refine wpAny_bind (C0 (thn (ho pins s σ H _ I h) λov s1 ⟨x,H1,I1,r1,q1⟩=> ?_));refine wpAny_bind (C0 (thn (hi pins s1 σ H1 _ I1 q1) λiv s2 ⟨y,H2,I2,r2,q2⟩=> ?_));refine wpAny_bind (U3 (wpAny_bind (C0 (thn (hs pins s2 σ H2 x y v ov iv u _ I2 r1 r2 r q2) λ_ s3 ⟨H3,I3,q3⟩=> ?_))));exact wpAny_release ⟨σ,H3,I3,q3⟩
def Ny (te:TE)(g:TG):TS:=λD σ H=>te σ H λx H1=>g x σ H1 D.nx
theorem Fj {tg e:Expr}{te:TE}{g:TG}(he:PE X e te)(hg:PG X tg g)(hs:swapsWithSole [tg] e pos.line X.env=pure false:=by rfl)(hw:swappedStores [tg] e X.env=pure none:=by rfl)
 (h1:(assignEach [tg] X.env).map (·.2)= [assign tg X.env]:=by rfl):PS X (.Assign [tg] e pos) (Ny te g):=by
 intro pins s σ H D I h;refine wpAny_Assign_stores (thn (he pins s σ H _ I h) λv s1 ⟨x,H1,I1,r1,q1⟩=> ?_) hs hw;rw [h1];exact thn (hg pins s1 σ H1 x v _ I1 r1 q1) λ_ s2 q=>q
theorem Fk {i:Nat}{x:Str}{e:Expr}{te:TE}{pos':Pos}(hN:X.N.Nodup)(hi:X.N[i]? =some x)(hx:Loc X.env.scope x)(he:PE X e te)(hs:swapsWith e (some (.Name x pos')) pos.line X.env=pure false:=by rfl)(hf:X.fn x=true\/X.env.scope.names.lookup x=some .local:=by first|exact .inl rfl|exact .inr rfl|assumption):
 PS X (.Assign [.Name x pos'] e pos) (Ny te (yE i)):=by
 intro pins s σ H D I h;refine wpAny_Assign_Name (thn (he pins s σ H _ I h) λv s1 ⟨y,H1,I1,r1,q1⟩=> ?_) hs;exact JV I1 hN hi hx r1 (λs2 I2=>⟨_,H1,I2,q1⟩) hf
def Ex (i j:Nat)(ta:TA):TS:=λD σ H=>ta σ H λvs H1=> ∃v w,vs= [v,w]/\D.nx ((σ.set i (some v)).set j (some w)) H1
theorem Fl {i j:Nat}{x y:Str}{a b:Expr}{ta:TA}{px py pt:Pos}{kt k2 pt2}(hc:X.calm=true)(hN:X.N.Nodup)(hi:X.N[i]? =some x)(hj:X.N[j]? =some y)(hij:i≠j)
 (hx:X.env.scope.names.lookup x=some .local)(hy:X.env.scope.names.lookup y=some .local)(ha:PA X [a,b] ta)
 (hw:swappedStores [.Tuple [.Name x px,.Name y py] kt pt] (.Tuple [a,b] k2 pt2) X.env=pure (some [x,y]))
 (hs:swapsWithSole [.Tuple [.Name x px,.Name y py] kt pt] (.Tuple [a,b] k2 pt2) pos.line X.env=pure false:=by rfl):
 PS X (.Assign [.Tuple [.Name x px,.Name y py] kt pt] (.Tuple [a,b] k2 pt2) pos) (Ex i j ta):=by
 intro pins s σ H D I h;rw [exec_Assign_arm];refine wpAny_bind (U3 ?_);rw [hs];refine wpAny_bind (P1 ?_);rw [if_neg (by decide)];refine wpAny_bind (Tuple_ (thn (ha _ pins s σ H _ I h) λus s1 ⟨vs,H1,I1,r1,q1⟩=> ?_));obtain⟨v,w,e1,q1⟩:=q1;subst e1;obtain⟨u1,u2,rfl,rv,rw'⟩: ∃u1 u2,us= [u1,u2]/\RelV v u1/\RelV w u2:=by
  cases r1 with
  |cons p q=>
   cases q with
   |cons p' q'=>
    cases q';exact⟨_,_,rfl,p,p'⟩
 refine A7 ?_ (by show 2<=sizeLine;decide);have I2:Inv X pins σ H1 {s1 with heap:=s1.heap.push {cls:= .type "tuple",data:= .seq [u1,u2].toArray}}:=I1.kept (t':=s1.toks) λb o e=>G3 _ e
 rw [hw];refine wpAny_bind (P1 ?_);show wpAny (model X.prog X.w) X.A (do rule "assign.swapped-stores";let items <-unpackItems (.ref s1.heap.objs.size) 2 none;assignInOrder [λv=>bindName X.env y v,λv=>bindName X.env x v] items.reverse;pure Flow.next) _ _ _;refine wpAny_bind (X5 (wpAny_bind (unpackItems_tuple (items:= #[u1,u2]) (I.ok.hd hc) (IsTup.new s1.heap _) λh' hx'=> ?_)));have I3:=I2.kept (h':=h') (t':=s1.toks) λb o e=>hx' b o (S1 (D3 e)) e
 show wpAny _ _ (assignInOrder [λv=>bindName X.env y v,λv=>bindName X.env x v] [u2,u1] >>= λ_=>pure Flow.next) _ _ _;refine wpAny_bind (Z9 (wpAny_bindName (JV I3 hN hj (.inl hy) rw' (λs2 I4=> ?_) (.inr hy))));refine Z9 (wpAny_bindName (JV I4 hN hi (.inl hx) rv (λs3 I5=>assignInOrder_nil (P1 ?_)) (.inr hx)));rw [List.set_comm _ _ (Ne.symm hij)] at I5;exact⟨_,H1,I5,q1⟩
def MQ (c:TT)(tb:TS):TS:=λD σ H=> ∃W:Nat->St->Hp->Prop,(∃m,W m σ H)/\ ∀m σ H,W m σ H->
 c σ H λb H1=>if b=true then ∃N:St->Hp->Prop,(∀σ' H',N σ' H'-> ∃m',m'<m/\W m' σ' H')/\tb {D with nx:=N,ct:=N,bk:=D.nx} σ H1 else D.nx σ H1
theorem DU {c:Expr}{body:List Stmt}{tc:TT}{tb:TS}(hp:PassesOwn (model X.prog X.w) X.A X.env X.xe)(hc:PT X c tc)(hb:PSs X body tb):PS X (.While c body [] pos) (MQ tc tb):=by
 intro pins s σ H D I h;obtain⟨W,⟨m0,w0⟩,turn⟩:=h;refine wpAny_While (codeAny_whileLoop (λn s'=> ∃σ' H',Inv X pins σ' H' s'/\W n σ' H') ?_ m0 ⟨σ,H,I,w0⟩);rintro n s1 ⟨σ1,H1,I1,w1⟩;refine A8 hp (thn (hc pins s1 σ1 H1 _ I1 (turn n σ1 H1 w1)) λb s2 ⟨H2,I2,q2⟩=> ?_);cases b with
 |true=>
  obtain⟨N,hN,q2⟩:=q2;rw [if_pos rfl];refine A8 hp (thn (hb pins s2 σ1 H2 _ I2 q2) λf s3 q3=> ?_);cases f with
  |next=>
   obtain⟨σ3,H3,I3,n3⟩:=q3;obtain⟨m',hm,w3⟩:=hN σ3 H3 n3;exact⟨m',hm,σ3,H3,I3,w3⟩
  |cont=>
   obtain⟨σ3,H3,I3,n3⟩:=q3;obtain⟨m',hm,w3⟩:=hN σ3 H3 n3;exact⟨m',hm,σ3,H3,I3,w3⟩
  |brk=>exact q3
  |ret v=>exact q3
 |false=>
  rw [if_neg P5];exact X8 ⟨σ1,H2,I2,q2⟩
end
structure It where
 go:Nat->Hp->Prop
 yld:Nat->Hp->V->Hp->Prop
 stop:Nat->Hp->Prop
def Gh (X:Cx)(pins:List (Addr×Obj))(H:Hp)(b:Addr):Prop:=
 H b=none/\b≠X.env.locals/\b ∉ X.fs/\(b∈X.ex\/X.s₀.heap.objs.size<=b)/\(∀x c,X.env.cells.lookup x=some c->c≠b)/\ ∀p∈X.pn++pins,p.1≠b
theorem Inv.fpOk {pins:List (Addr×Obj)}{σ:St}{H':Hp}(I:Inv X pins σ H s)(hb:s.heap.objs.size<=b)(hn:H' b=none):Gh X pins H' b:=by
 refine⟨hn,J5 (R8 I.lt hb),I.nofs hb,.inr (R6 I.sz hb),λx c e z=> ?_,λp hp z=> ?_⟩
 ·obtain⟨v,q⟩:=I.cell x c e;exact absurd (R8 q.lt (by rw [z];exact hb)) (N3 _)
 ·exact absurd (R8 (D3 (I.pin p hp).1) (by rw [z];exact hb)) (N3 _)
structure Turn (P:Program)(w:World)(K:PySem.W.Frag)(tg:Expr)(J:It)(fp:List Addr)(it:Addr)(tn:Nat->Heap->Prop):Prop where
 mem:it∈fp
 obj: ∀i h,tn i h-> ∀b∈fp,∃o,h.get? b=some o/\ ∀v,o.data≠ .cell v
 keep: ∀i h h',tn i h->(∀b∈fp,∀o,h.get? b=some o->h'.get? b=some o)->tn i h'
 item: ∀ (X:Cx),X.prog=P->X.w=w->X.K=K->X.calm=true-> ∀ (i:Nat) (pins:List (Addr×Obj)) (s:Shared) (σ:St) (H:Hp) (E:Value->Shared->Prop),Inv X pins σ H s->(∀b∈fp,Gh X pins H b)->tn i s.heap->J.go i H->
  wpAny (model P w) X.A (pyNext (.ref it)) (λr s1=> ∃u,r=some u/\
   wpAny (model P w) X.A (letOwnedTupleGo tg (.ref it) u) (λ_ s2=> ∃x H',Inv X pins σ H' s2/\RelV x u/\J.yld i H x H'/\tn (i+1) s2.heap/\ ∀b∈fp,H' b=none) E s1) E s
 done: ∀ (X:Cx),X.prog=P->X.w=w->X.K=K->X.calm=true-> ∀ (i:Nat) (pins:List (Addr×Obj)) (s:Shared) (σ:St) (H:Hp) (E:Value->Shared->Prop),Inv X pins σ H s->(∀b∈fp,Gh X pins H b)->tn i s.heap->J.stop i H->
  wpAny (model P w) X.A (pyNext (.ref it)) (λr s1=>r=none/\Inv X pins σ H s1) E s
 self: ∀ (A:Around) (i:Nat) (s:Shared) (Q:Value->Shared->Prop) (E:Value->Shared->Prop),tn i s.heap->Q (.ref it) s->wpAny (model P w) A (pyIter (.ref it)) Q E s
abbrev TI:=St->Hp->(It->Hp->Prop)->Prop
def PIE (X:Cx)(pins:List (Addr×Obj))(σ:St)(tg:Expr)(R:It->Hp->Prop)(itv:Value)(s2:Shared):Prop:=
 ∃ (it:Addr) (fp:List Addr) (tn:Nat->Heap->Prop) (J:It) (H':Hp),itv= .ref it/\Inv X pins σ H' s2/\Turn X.prog X.w X.K tg J fp it tn/\tn 0 s2.heap/\(∀b∈fp,Gh X pins H' b)/\R J H'
def PI (X:Cx)(tg iter:Expr)(wi:TI):Prop:=
 ∀ (pins:List (Addr×Obj)) (s:Shared) (σ:St) (H:Hp) (R:It->Hp->Prop),Inv X pins σ H s->wi σ H R->
  wpAny (model X.prog X.w) X.A (eval iter X.env) (λv s1=>wpAny (model X.prog X.w) X.A (pyIter v) (PIE X pins σ tg R) X.xe s1) X.xe s
variable {tg:Expr}
theorem Nz {M : Model} {E : Value → Shared → Prop} {it : Addr} {o : Obj} {n : String} {vs : Array Value} {Q : Unit → Shared → Prop} (ho : s.heap.get? it = some o) (hc : o.cls = .type n) (hd : o.data = .fields vs)
    (hn : ["enumerate", "zip", "dict_itemiterator", "dict_reverseitemiterator", "odict_iterator", "itertools.zip_longest", "itertools.pairwise"].contains n = false) (hQ : Q () s) : wpAny M A (letOwnedTupleGo tg (.ref it) u) Q E s := by
  unfold letOwnedTupleGo
  cases tg <;> first
    | exact P1 hQ
    | (cases u <;> first
        | exact P1 hQ
        | (refine wpAny_bind (wpAny_load ho ?_)
           rw [hc, hd]
           show wpAny M A (if (["enumerate", "zip", "dict_itemiterator", "dict_reverseitemiterator", "odict_iterator", "itertools.zip_longest", "itertools.pairwise"].contains n && vs[0]? == some (rawInt _)) = true then _ else _) Q E s
           rw [if_neg (by intro h; rw [hn, Bool.false_and] at h; cases h)]
           exact P1 hQ))
def Itl (K:PySem.W.Frag)(a:Addr):It:=
 ⟨λi H=> ∃xs x,SqL K H a xs/\xs[i]? =some x,λi H x H'=>H'=H/\ ∀xs,SqL K H a xs->xs[i]? =some x,λi H=> ∃xs,SqL K H a xs/\xs.length<=i⟩
def Itt (K:PySem.W.Frag)(a:Addr):It:=
 ⟨λi H=> ∃xs x,SqT K H a xs/\xs[i]? =some x,λi H x H'=>H'=H/\ ∀xs,SqT K H a xs->xs[i]? =some x,λi H=> ∃xs,SqT K H a xs/\xs.length<=i⟩
def Itr (lo:Int)(n:Nat):It:=⟨λi _=>i<n,λi H x H'=>H'=H/\x= .int (lo+i),λi _=>n<=i⟩
variable {K:PySem.W.Frag}
theorem Vb (a it:Addr):Turn P w K tg (Itl K a) [it] it (λi h=>h.IsListIter it a i) where
 mem:=by simp
 obj:=λi h st b hb=>by
  have e:b=it:=by simpa using hb
  subst e;obtain⟨o,e,c,d⟩:=st;exact⟨o,e,λv z=>by rw [d] at z;cases z⟩
 keep:=λi h h' st k=>st.at λo e=>k it (by simp) o e
 item:=by
  intro X hP hw hK hc i pins s σ H E I hf st hg;subst hP hw hK;obtain⟨xs,x,hq,hx⟩:=hg;obtain⟨its,rv,p,hz⟩:=I.list hq;obtain⟨u,hu,ru⟩:=rv.get hx;obtain⟨f0,f1,f2,f3,f4,f5⟩:=hf it (by simp);refine wpAny_pyNext_list_item st p.isList (x:=u) (by simpa using hu) λh' st' sb=> ?_
  have I1:Inv X pins σ H {s with heap:=h'}:=I.turned (t':=s.toks) (λb o hb e=>(sb.2 b hb).trans e) f0 f1 f3 f4 f5;obtain⟨o,e,c,d⟩:=id st';exact⟨u,rfl,Nz (s:= {s with heap:=h'}) e c d (by decide) ⟨x,H,I1,ru,⟨rfl,λys hy=>by rw [I.list_inj hy hq];exact hx⟩,st',λb hb=>(hf b hb).1⟩⟩
 done:=by
  intro X hP hw hK hc i pins s σ H E I hf st hg;subst hP hw hK;obtain⟨xs,hq,hx⟩:=hg;obtain⟨its,rv,p,hz⟩:=I.list hq;obtain⟨f0,f1,f2,f3,f4,f5⟩:=hf it (by simp);have hl:=rv.length;exact wpAny_pyNext_list_end (I.ok.hd hc) st p.isList (by simp;omega) λh' eb=>⟨rfl,I.turned (t':=s.toks) (λb o hb e=>eb b o hb e) f0 f1 f3 f4 f5⟩
 self:=λ_ _ _ _ _ st h=>wpAny_pyIter_listiter st h
theorem Qi (a it:Addr):Turn P w K tg (Itt K a) [it] it (λi h=>h.IsTupleIter it a i) where
 mem:=by simp
 obj:=λi h st b hb=>by
  have e:b=it:=by simpa using hb
  subst e;obtain⟨o,e,c,d⟩:=st;exact⟨o,e,λv z=>by rw [d] at z;cases z⟩
 keep:=λi h h' st k=>st.at λo e=>k it (by simp) o e
 item:=by
  intro X hP hw hK hc i pins s σ H E I hf st hg;subst hP hw hK;obtain⟨xs,x,hq,hx⟩:=hg;obtain⟨its,rv,p,hz⟩:=I.tuple hq;obtain⟨u,hu,ru⟩:=rv.get hx;obtain⟨f0,f1,f2,f3,f4,f5⟩:=hf it (by simp);refine wpAny_pyNext_tuple_item st (show s.heap.IsTuple a its.toArray from p) (x:=u) (by simpa using hu) λh' st' sb=> ?_
  have I1:Inv X pins σ H {s with heap:=h'}:=I.turned (t':=s.toks) (λb o hb e=>(sb.2 b hb).trans e) f0 f1 f3 f4 f5;obtain⟨o,e,c,d⟩:=id st';exact⟨u,rfl,Nz (s:= {s with heap:=h'}) e c d (by decide) ⟨x,H,I1,ru,⟨rfl,λys hy=>by rw [I.tuple_inj hy hq];exact hx⟩,st',λb hb=>(hf b hb).1⟩⟩
 done:=by
  intro X hP hw hK hc i pins s σ H E I hf st hg;subst hP hw hK;obtain⟨xs,hq,hx⟩:=hg;obtain⟨its,rv,p,hz⟩:=I.tuple hq;obtain⟨f0,f1,f2,f3,f4,f5⟩:=hf it (by simp);have hl:=rv.length;exact wpAny_pyNext_tuple_end (I.ok.hd hc) st (show s.heap.IsTuple a its.toArray from p) (by simp;omega) λh' eb=>⟨rfl,I.turned (t':=s.toks) (λb o hb e=>eb b o hb e) f0 f1 f3 f4 f5⟩
 self:=λ_ _ _ _ _ st h=>wpAny_pyIter_tupleiter st h
theorem Qj (it:Addr)(lo:Int)(n:Nat):Turn P w K tg (Itr lo n) [it] it (λi h=>IsRangeIter h it (lo+(i:Nat)*1) ((n:Int)-(i:Nat)) 1) where
 mem:=by simp
 obj:=λi h st b hb=>by
  have e:b=it:=by simpa using hb
  subst e;exact⟨_,st,λv z=>by
   have z':Data.fields _=Data.cell v:=z;cases z'⟩
 keep:=λi h h' st k=>k it (by simp) _ st
 item:=by
  intro X hP hw hK hc i pins s σ H E I hf st hg;subst hP hw hK;obtain⟨f0,f1,f2,f3,f4,f5⟩:=hf it (by simp);have W:=Walks.range (prog:=X.prog) (w:=X.w) (I.ok.hd hc) it lo 1 n;refine W.item i s _ _ hg st λv h' tk hv st' kk=> ?_
  obtain⟨t,rfl⟩:=hv;have I1:Inv X pins σ H {s with heap:=h',toks:=tk}:=I.turned (λb o hb e=>kk b o (by simpa using hb) e) f0 f1 f3 f4 f5;refine⟨_,rfl,Nz (s:= {s with heap:=h',toks:=tk}) (n:= "range_iterator") st' rfl rfl (by decide) ⟨.int (lo+i),H,I1,⟨t,?_⟩,⟨rfl,rfl⟩,st',λb hb=>(hf b hb).1⟩⟩;rw [Int.mul_one]
 done:=by
  intro X hP hw hK hc i pins s σ H E I hf st hg;subst hP hw hK;obtain⟨f0,f1,f2,f3,f4,f5⟩:=hf it (by simp);exact wpAny_pyNext_range_end (I.ok.hd hc) st (by have:n<=i:=hg;omega) λh' eb=>⟨rfl,I.turned (t':=s.toks) (λb o hb e=>eb b o hb e) f0 f1 f3 f4 f5⟩
 self:=λ_ _ _ _ _ st h=>wpAny_pyIter_rangeiter st h
section
variable {X:Cx}{tg:Expr}
def Fm (K:PySem.W.Frag)(tl:TE):TI:=λσ H R=>tl σ H λx H1=> ∃a,x= .ref a/\(∃xs,SqL K H1 a xs)/\R (Itl K a) H1
theorem NA {l:Expr}{tl:TE}(hl:PE X l tl):PI X tg l (Fm X.K tl):=by
 intro pins s σ H R I h;refine thn (hl pins s σ H _ I h) λv s1 ⟨x,H1,I1,r1,q1⟩=> ?_
 obtain⟨a,e,⟨xs,hq⟩,q⟩:=q1;subst e;cases r1;obtain⟨its,rv,p,hz⟩:=I1.list hq;refine K4 p.isList ?_;refine⟨s1.heap.objs.size,[s1.heap.objs.size],_,_,H1,rfl,I1.kept (t':=s1.toks) λb o e=>G3 _ e,Vb a _,⟨_,D9 _ rfl,rfl,rfl⟩,λb hb=> ?_,q⟩;have e:b=s1.heap.objs.size:=by simpa using hb
 subst e;exact I1.fpOk (G6 _) (I1.hok.fresh (G6 _))
variable {pins:List (Addr×Obj)}
theorem DV {σ:St}{H:Hp}{s:Shared}{R:It->Hp->Prop}{E:Value->Shared->Prop}{lo hi:Int}{t u v:Tok}{tk:Nat}(I:Inv X pins σ H s)(h1: -(2^62)<=lo)(h2:lo<2^62)(h3: -(2^62)<=hi)(h4:hi<2^62)
 (q:R (Itr lo (hi-lo).toNat) H):wpAny (model X.prog X.w) X.A (pyIter (.ref s.heap.objs.size)) (PIE X pins σ tg R) E {s with heap:=s.heap.push {cls:= .type "range",data:= .fields #[.int lo t,.int hi u,.int 1 v]},toks:=tk}:=by
 refine wpAny_pyIter_range (IsRange.new ..) (small_one h1 h2 h3 h4) ?_;have I1:Inv X pins σ H {s with heap:=s.heap.push {cls:= .type "range",data:= .fields #[.int lo t,.int hi u,.int 1 v]},toks:=tk}:=I.kept λb o e=>G3 _ e
 refine⟨(s.heap.push {cls:= .type "range",data:= .fields #[.int lo t,.int hi u,.int 1 v]}).objs.size,[(s.heap.push {cls:= .type "range",data:= .fields #[.int lo t,.int hi u,.int 1 v]}).objs.size],_,_,H,rfl,
  I1.kept (t':=tk) λb o e=>G3 _ e,Qj _ lo (hi-lo).toNat,?_,λb hb=> ?_,q⟩
 ·have e1:lo+((0:Nat):Int)*1=lo:=by simp
  have e2:(((hi-lo).toNat:Nat):Int)-((0:Nat):Int)=Builtin.Range.rangeSize lo hi 1:=by rw [rangeSize_one];split<;>omega
  show IsRangeIter _ _ (lo+((0:Nat):Int)*1) ((((hi-lo).toNat:Nat):Int)-((0:Nat):Int)) 1;rw [e1,e2];exact D9 _ rfl
 ·have e:b=(s.heap.push {cls:= .type "range",data:= .fields #[.int lo t,.int hi u,.int 1 v]}).objs.size:=by simpa using hb
  subst e;exact I1.fpOk (G6 _) (I1.hok.fresh (G6 _))
def Fn (ta:TA):TI:=λσ H R=>ta σ H λvs H1=> ∃j:Int,vs= [.int j]/\ -(2^62)<=j/\j<2^62/\R (Itr 0 j.toNat) H1
theorem Gp {a:Expr}{ta:TA}{p pos:Pos}(hg:Gl X "range")(hm:X.mg "range" =none)(ha:PA X [a] ta)(hs:starEach [a] X.env= [(false,eval a X.env)]:=by rfl):PI X tg (.Call (.Name "range" p) [a] [] pos) (Fn ta):=by
 intro pins s σ H R I h;refine Call_ (Zk I hg hm boot_range (C1 (thn (ha pos pins s σ H _ I h) λus s1 ⟨vs,H1,I1,r1,q1⟩=> ?_) hs rfl));obtain⟨j,e,q1,q2,q⟩:=q1;subst e;cases r1 with
 |cons r rr=>
  cases rr;obtain⟨t,rfl⟩:=r;exact call_range_1 (DV I1 (by omega) (by omega) q1 q2 (by simpa using q))
def Ey (wi:TI)(g:TG)(tb:TS):TS:=λD σ H=>wi σ H λJ H1=> ∃W:Nat->Nat->St->Hp->Prop,(∃m,W 0 m σ H1)/\ ∀i m σ H,W i m σ H->
 (J.stop i H/\D.nx σ H)\/(J.go i H/\ ∃N:St->Hp->Prop,(∀σ' H',N σ' H'-> ∃m',m'<m/\W (i+1) m' σ' H')/\ ∀x H',J.yld i H x H'->g x σ H' λσ2 H2=>tb {D with nx:=N,ct:=N,bk:=D.nx} σ2 H2)
def yJ (fp:List Addr)(h:Heap):List (Addr×Obj):=fp.filterMap λb=>(h.get? b).map λo=>(b,o)
theorem zT {fp:List Addr}{h:Heap}{b:Addr}{o:Obj}(hb:b∈fp)(e:h.get? b=some o):(b,o)∈yJ fp h:=U4.mpr ⟨b,hb,by rw [e];rfl⟩
theorem Zl {fp:List Addr}{h:Heap}{p:Addr×Obj}(hp:p∈yJ fp h):p.1∈fp/\h.get? p.1=some p.2:=by
 obtain⟨b,hb,e⟩:=U4.mp hp;cases q:h.get? b with
 |none=>rw [q] at e;cases e
 |some o=>
  rw [q] at e;have e':(b,o)=p:=M7 e;subst e';exact⟨hb,q⟩
theorem Inv.pinned {σ:St}{H:Hp}{s:Shared}{fp:List Addr}(I:Inv X pins σ H s)(hf: ∀b∈fp,Gh X pins H b)(ho: ∀b∈fp,∃o,s.heap.get? b=some o/\ ∀v,o.data≠ .cell v):Inv X (pins++yJ fp s.heap) σ H s:=
 I.pins_of λp hp=>(D4.mp hp).elim (λz=>I.pin p (P3 _ z)) λz=>by
  obtain⟨hb,e⟩:=Zl z;obtain⟨f0,f1,f2,_⟩:=hf p.1 hb;obtain⟨o,e',d⟩:=ho p.1 hb;rw [e] at e';cases e';exact⟨e,f0,f1,f2,d⟩
theorem Inv.unpinned {pl:List (Addr×Obj)}{σ:St}{H:Hp}{s:Shared}(I:Inv X (pins++pl) σ H s):Inv X pins σ H s:=I.pins_of λp hp=>I.pin p (P3 _ (T1 _ hp))
theorem Fo {iter:Expr}{body:List Stmt}{wi:TI}{g:TG}{tb:TS}{pos:Pos}(hp:PassesOwn (model X.prog X.w) X.A X.env X.xe)(hc:X.calm=true)(hi:PI X tg iter wi)(hg:PG X tg g)(hb:PSs X body tb)
 (hs: ∀x,foldedSetIterable iter X.env x=pure x:=by intro _;rfl):PS X (.For tg iter body [] pos) (Ey wi g tb):=by
 intro pins s σ H D I h;refine wpAny_For (thn (hi pins s σ H _ I h) λv s1 h1=>thn h1 λitv s2 h2=> ?_) hs;obtain⟨it,fp,tn,J,H2,e,I2,T,st2,f2,W,⟨m0,w0⟩,turn⟩:=h2;subst e
 -- what stays true of the iterator's objects through the loop
 have stat: ∀ {H':Hp},(∀b∈fp,H' b=none)-> ∀b∈fp,Gh X pins H' b:=λhn b hb=>⟨hn b hb,(f2 b hb).2⟩
 refine codeAny_forLoop_any (λn s'=> ∃i σ' H',Inv X pins σ' H' s'/\tn i s'.heap/\(∀b∈fp,H' b=none)/\W i n σ' H') ?_ m0 ⟨0,σ,H2,I2,st2,λb hb=>(f2 b hb).1,w0⟩;rintro n s3 ⟨i,σ3,H3,I3,st3,fr3,w3⟩;rcases turn i n σ3 H3 w3 with ⟨stop,qn⟩|⟨go,N,hN,step⟩
 ·refine A8 hp (thn (T.done X rfl rfl rfl hc i pins s3 σ3 H3 X.xe I3 (stat fr3) st3 stop) λr s4 ⟨hr,I4⟩=> ?_);subst hr;exact X8 ⟨σ3,H3,I4,qn⟩
 ·refine A8 hp (thn (T.item X rfl rfl rfl hc i pins s3 σ3 H3 X.xe I3 (stat fr3) st3 go) λr s4 ⟨u,hr,h4⟩=> ?_);subst hr;refine A8 hp (thn h4 λ_ s5 ⟨x,H5,I5,r5,y5,st5,fr5⟩=> ?_);have I5':=I5.pinned (stat fr5) (T.obj _ _ st5);refine A8 hp (thn (hg _ s5 σ3 H5 x u _ I5' r5 (step x H5 y5)) λ_ s6 ⟨σ6,H6,I6,q6⟩=> ?_);refine A8 hp (thn (hb _ s6 σ6 H6 _ I6 q6) λf s7 q7=> ?_);have again: ∀ {σ7:St} {H7:Hp},Inv X (pins++yJ fp s5.heap) σ7 H7 s7->N σ7 H7-> ∃m,m<n/\ ∃i σ' H',Inv X pins σ' H' s7/\tn i s7.heap/\(∀b∈fp,H' b=none)/\W i m σ' H':=λ{σ7 H7} I7 n7=>by
   obtain⟨m',hm,w7⟩:=hN σ7 H7 n7;refine⟨m',hm,i+1,σ7,H7,I7.unpinned,T.keep _ _ _ st5 λb hb o e=>(I7.pin (b,o) (P3 _ (P3 _ (zT hb e)))).1,λb hb=> ?_,w7⟩;obtain⟨o,e,d⟩:=T.obj _ _ st5 b hb;exact(I7.pin (b,o) (P3 _ (P3 _ (zT hb e)))).2.1
  cases f with
  |next=>obtain⟨σ7,H7,I7,n7⟩:=q7;exact again I7 n7
  |cont=>obtain⟨σ7,H7,I7,n7⟩:=q7;exact again I7 n7
  |brk=>obtain⟨σ7,H7,I7,q7⟩:=q7;exact⟨σ7,H7,I7.unpinned,q7⟩
  |ret v=>obtain⟨x7,σ7,H7,I7,r7,q7⟩:=q7;exact⟨x7,σ7,H7,I7.unpinned,r7,q7⟩
end
abbrev R2:=V->V->Hp->VK->Prop
def OpR (X:Cx)(f:Value->Value->Sem Value)(r:R2):Prop:=
 ∀ (pins:List (Addr×Obj)) (s:Shared) (σ:St) (H:Hp) (x y:V) (v u:Value) (Q:VK),Inv X pins σ H s->RelV x v->RelV y u->r x y H Q->
  wpAny (model X.prog X.w) X.A (f v u) (EP X pins σ Q) X.xe s
def UnR (X:Cx)(f:Value->Sem Value)(r:V->Hp->VK->Prop):Prop:=
 ∀ (pins:List (Addr×Obj)) (s:Shared) (σ:St) (H:Hp) (x:V) (v:Value) (Q:VK),Inv X pins σ H s->RelV x v->r x H Q->
  wpAny (model X.prog X.w) X.A (f v) (EP X pins σ Q) X.xe s
def CallR (X:Cx)(f:Value)(r:List V->Hp->VK->Prop):Prop:=
 ∀ (pins:List (Addr×Obj)) (s:Shared) (σ:St) (H:Hp) (xs:List V) (us:List Value) (Q:VK),Inv X pins σ H s->Vals xs us->r xs H Q->
  wpAny (model X.prog X.w) X.A (call f us) (EP X pins σ Q) X.xe s
def tOp (r:R2)(ta tb:TE):TE:=λσ H Q=>ta σ H λx H1=>tb σ H1 λy H2=>r x y H2 Q
def tUn (r:V->Hp->VK->Prop)(ta:TE):TE:=λσ H Q=>ta σ H λx H1=>r x H1 Q
def rI (C:Int->Int->Prop)(g:Int->Int->V):R2:=λx y H Q=> ∃i j,x= .int i/\y= .int j/\C i j/\Q (g i j) H
def rI0 (g:Int->Int->V):R2:=λx y H Q=> ∃i j,x= .int i/\y= .int j/\Q (g i j) H
def rU (g:Int->V):V->Hp->VK->Prop:=λx H Q=> ∃i,x= .int i/\Q (g i) H
section
variable {X:Cx}{a b c:Expr}{ta tb tc:TE}{pos:Pos}
theorem OZ (ha:PE X a ta)(hb:PE X b tb){pins:List (Addr×Obj)}{s:Shared}{σ:St}{H:Hp}{R:V->V->Hp->Prop}(I:Inv X pins σ H s)
 (h:ta σ H λx H1=>tb σ H1 λy H2=>R x y H2){Q:Value->Shared->Prop}{f:Value->Value->Sem Value}
 (hf: ∀v u s2 x y H2,Inv X pins σ H2 s2->RelV x v->RelV y u->R x y H2->wpAny (model X.prog X.w) X.A (f v u) Q X.xe s2):
 wpAny (model X.prog X.w) X.A (eval a X.env) (λv s₁=>wpAny (model X.prog X.w) X.A (eval b X.env) (λu s₂=>wpAny (model X.prog X.w) X.A (f v u) Q X.xe s₂) X.xe s₁) X.xe s:=by
 refine thn (ha pins s σ H _ I h) λv s1 ⟨x,H1,I1,r1,q1⟩=> ?_
 refine thn (hb pins s1 σ H1 _ I1 q1) λu s2 ⟨y,H2,I2,r2,q2⟩=> ?_
 exact hf v u s2 x y H2 I2 r1 r2 q2
theorem Aa {op:Operator}{r:R2}(ho:OpR X (binaryOp op) r)(ha:PE X a ta)(hb:PE X b tb):PE X (.BinOp a op b pos) (tOp r ta tb):=by
 intro pins s σ H Q I h;exact wpAny_BinOp (OZ ha hb I h λv u s2 x y H2 I2 rx ry q=>ho pins s2 σ H2 x y v u Q I2 rx ry q)
theorem Ab {op:UnaryOp}{r:V->Hp->VK->Prop}(ho:UnR X (unaryOp op) r)(ha:PE X a ta):PE X (.UnaryOp op a pos) (tUn r ta):=by
 intro pins s σ H Q I h;exact UnaryOp_ (thn (ha pins s σ H _ I h) λv s1 ⟨x,H1,I1,r1,q1⟩=>ho pins s1 σ H1 x v Q I1 r1 q1)
variable {f:Value->Value->Sem Value}
theorem opI {C:Int->Int->Prop}{g:Int->Int->Int}
 (rule: ∀ (i j:Int) (t u:Tok) (s:Shared) (Q:Value->Shared->Prop) (E:Value->Shared->Prop),C i j->Q (.int (g i j) s.toks) {s with toks:=s.toks+1}->wpAny (model X.prog X.w) X.A (f (.int i t) (.int j u)) Q E s):
 OpR X f (rI C λi j=> .int (g i j)):=by
 intro pins s σ H x y v u Q I rx ry h;obtain⟨i,j,rfl,rfl,hc,q⟩:=h;obtain⟨t,rfl⟩:=rx;obtain⟨t',rfl⟩:=ry;exact rule i j t t' s _ _ hc ⟨.int (g i j),H,I.tok _,⟨_,rfl⟩,q⟩
theorem Ez {g:Int->Int->Int}
 (rule: ∀ (i j:Int) (t u:Tok) (s:Shared) (Q:Value->Shared->Prop) (E:Value->Shared->Prop),Q (.int (g i j) s.toks) {s with toks:=s.toks+1}->wpAny (model X.prog X.w) X.A (f (.int i t) (.int j u)) Q E s):
 OpR X f (rI0 λi j=> .int (g i j)):=by
 intro pins s σ H x y v u Q I rx ry h;obtain⟨i,j,rfl,rfl,q⟩:=h;obtain⟨t,rfl⟩:=rx;obtain⟨t',rfl⟩:=ry;exact rule i j t t' s _ _ ⟨.int (g i j),H,I.tok _,⟨_,rfl⟩,q⟩
theorem Ac {g:Int->Int->Bool}
 (rule: ∀ (i j:Int) (t u:Tok) (s:Shared) (Q:Value->Shared->Prop) (E:Value->Shared->Prop),Q (.bool (g i j)) s->wpAny (model X.prog X.w) X.A (f (.int i t) (.int j u)) Q E s):
 OpR X f (rI0 λi j=> .bl (g i j)):=by
 intro pins s σ H x y v u Q I rx ry h;obtain⟨i,j,rfl,rfl,q⟩:=h;obtain⟨t,rfl⟩:=rx;obtain⟨t',rfl⟩:=ry;exact rule i j t t' s _ _ ⟨.bl (g i j),H,I,rfl,q⟩
def EA (i j:Int):Prop:=0<j/\j<1073741824
def EB (i j:Int):Prop:=0<=j/\j<=1000000/\i.natAbs<2^64
def CMul (i j:Int):Prop:=(-(2^64)<i/\i<2^64)\/(-(2^64)<j/\j<2^64)
theorem CMul.ok {i j:Int}(h:CMul i j):IntMulOk i j:=by
 rcases h with ⟨h1,h2⟩|⟨h1,h2⟩
 ·exact .of_left (intBits_le_64 h1 h2)
 ·exact .of_right (intBits_le_64 h1 h2)
theorem op_add:OpR X (binaryOp .Add) (rI0 λi j=> .int (i+j)):=Ez λ_ _ _ _ _ _ _ q=>add_int q
theorem Fp:OpR X (binaryOp .Sub) (rI0 λi j=> .int (i-j)):=Ez λ_ _ _ _ _ _ _ q=>sub_int q
theorem op_mul:OpR X (binaryOp .Mult) (rI CMul λi j=> .int (i*j)):=opI λ_ _ _ _ _ _ _ hc q=>mul_int q hc.ok
theorem NB:OpR X (binaryOp .FloorDiv) (rI EA λi j=> .int (i / j)):=opI λi j _ _ _ _ _ hc q=>by
 have h1:(0:Int)<j:=hc.1;have h2:j<1073741824:=hc.2;exact floordiv_int (by omega) (by rw [Y9 i (by omega)];exact q) (.inl (PyProof.noPylong_small (by omega)))
theorem Fq:OpR X (binaryOp .Mod) (rI (λ_ j=>0<j) λi j=> .int (i%j)):=opI λi j _ _ _ _ _ hc q=>by
 have h1:(0:Int)<j:=hc;exact mod_int' (by omega) (by rw [Z0 i (by omega)];exact q)
theorem Fr:OpR X (binaryOp .Pow) (rI EB λi j=> .int (i^j.toNat)):=opI λ_ _ _ _ _ _ _ hc q=>pow_int_small hc.1 hc.2.1 hc.2.2 q
theorem unI {f:Value->Sem Value}{g:Int->Int}
 (rule: ∀ (i:Int) (t:Tok) (s:Shared) (Q:Value->Shared->Prop) (E:Value->Shared->Prop),Q (.int (g i) s.toks) {s with toks:=s.toks+1}->wpAny (model X.prog X.w) X.A (f (.int i t)) Q E s):
 UnR X f (rU λi=> .int (g i)):=by
 intro pins s σ H x v Q I rx h;obtain⟨i,rfl,q⟩:=h;obtain⟨t,rfl⟩:=rx;exact rule i t s _ _ ⟨.int (g i),H,I.tok _,⟨_,rfl⟩,q⟩
theorem Fs:UnR X (unaryOp .USub) (rU λi=> .int (-i)):=unI λ_ _ _ _ _ q=>neg_int q
end
def EC:V->V->Bool
 | .non,.non=>true| .non,.int _=>true| .int _,.non=>true| .non,.bl _=>true| .bl _,.non=>true| .non,.str _=>true| .str _,.non=>true
 | .int _,.int _=>true| .bl _,.bl _=>true| .str _,.str _=>true| .byt _,.byt _=>true
 | .int _,.str _=>true| .str _,.int _=>true| .bl _,.str _=>true| .str _,.bl _=>true
 |_,_=>false
def rEq:R2:=λx y H Q=>EC x y=true/\Q (.bl (decide (x=y))) H
def rNe:R2:=λx y H Q=>EC x y=true/\Q (.bl (!decide (x=y))) H
theorem Gq {i j:Int}:decide (V.int i=V.int j)=(i==j):=by
 rw [T5];simp
theorem MR {i j:Bool}:decide (V.bl i=V.bl j)=(i==j):=by
 rw [T5];simp
theorem Gr {i j:Str}:decide (V.str i=V.str j)=(i==j):=by
 rw [T5];simp
theorem Gs {i j:Array UInt8}:decide (V.byt i=V.byt j)=(i.toList==j.toList):=by
 rw [T5];cases i;cases j;simp
section
variable {X:Cx}{a b c:Expr}{ta tb tc:TE}{pos:Pos}
theorem jF {pins:List (Addr×Obj)}{σ:St}{H:Hp}{s:Shared}{Q:VK}{k k':Bool}(I:Inv X pins σ H s)(q:Q (.bl k) H)(e:k=k'):EP X pins σ Q (.bool k') s:=by
 subst e;exact⟨.bl k,H,I,rfl,q⟩
theorem op_eq:OpR X (compareOp .Eq) rEq:=by
 intro pins s σ H x y v u Q I rx ry h;obtain⟨hs,q⟩:=h;cases x with
 |non=>
  cases rx;cases y with
  |non=>cases ry;exact PySem.EqNone.eq_none_none (jF I q (by simp))
  |bl j=>cases ry;exact PySem.EqNone.eq_none_bool (jF I q (by simp))
  |int j=>obtain⟨t',rfl⟩:=ry;exact PySem.EqNone.eq_none_int (jF I q (by simp))
  |str j=>obtain⟨t',rfl⟩:=ry;exact PySem.EqNone.eq_none_str (jF I q (by simp))
  |_=>exact absurd (show false=true from hs) P5
 |bl i=>
  cases rx;cases y with
  |non=>cases ry;exact PySem.EqNone.eq_bool_none (jF I q (by simp))
  |bl j=>cases ry;exact eq_bool (jF I q MR)
  |str j=>obtain⟨t',rfl⟩:=ry;exact PySem.EqMixed.eq_bool_str (jF I q (by simp))
  |_=>exact absurd (show false=true from hs) P5
 |int i=>
  obtain⟨t,rfl⟩:=rx;cases y with
  |non=>cases ry;exact PySem.EqNone.eq_int_none (jF I q (by simp))
  |int j=>obtain⟨t',rfl⟩:=ry;exact eq_int (jF I q Gq)
  |str j=>obtain⟨t',rfl⟩:=ry;exact PySem.EqMixed.eq_int_str (jF I q (by simp))
  |_=>exact absurd (show false=true from hs) P5
 |str i=>
  obtain⟨t,rfl⟩:=rx;cases y with
  |non=>cases ry;exact PySem.EqNone.eq_str_none (jF I q (by simp))
  |bl j=>cases ry;exact PySem.EqMixed.eq_str_bool (jF I q (by simp))
  |int j=>obtain⟨t',rfl⟩:=ry;exact PySem.EqMixed.eq_str_int (jF I q (by simp))
  |str j=>obtain⟨t',rfl⟩:=ry;exact eq_str (jF I q Gr)
  |_=>exact absurd (show false=true from hs) P5
 |byt i=>
  obtain⟨t,rfl⟩:=rx;cases y with
  |byt j=>obtain⟨t',rfl⟩:=ry;exact PySem.W.eq_bytes (jF I q Gs)
  |_=>exact absurd (show false=true from hs) P5
 |_=>cases y<;>exact absurd (show false=true from hs) P5
theorem op_ne:OpR X (compareOp .NotEq) rNe:=by
 intro pins s σ H x y v u Q I rx ry h;obtain⟨hs,q⟩:=h;cases x with
 |non=>
  cases rx;cases y with
  |non=>cases ry;exact PySem.EqNone.ne_none_none (jF I q (by simp))
  |bl j=>cases ry;exact PySem.EqNone.ne_none_bool (jF I q (by simp))
  |int j=>obtain⟨t',rfl⟩:=ry;exact PySem.EqNone.ne_none_int (jF I q (by simp))
  |str j=>obtain⟨t',rfl⟩:=ry;exact PySem.EqNone.ne_none_str (jF I q (by simp))
  |_=>exact absurd (show false=true from hs) P5
 |bl i=>
  cases rx;cases y with
  |non=>cases ry;exact PySem.EqNone.ne_bool_none (jF I q (by simp))
  |bl j=>cases ry;exact ne_bool (jF I q (congrArg not MR))
  |str j=>obtain⟨t',rfl⟩:=ry;exact PySem.EqMixed.ne_bool_str (jF I q (by simp))
  |_=>exact absurd (show false=true from hs) P5
 |int i=>
  obtain⟨t,rfl⟩:=rx;cases y with
  |non=>cases ry;exact PySem.EqNone.ne_int_none (jF I q (by simp))
  |int j=>obtain⟨t',rfl⟩:=ry;exact ne_int (jF I q (congrArg not Gq))
  |str j=>obtain⟨t',rfl⟩:=ry;exact PySem.EqMixed.ne_int_str (jF I q (by simp))
  |_=>exact absurd (show false=true from hs) P5
 |str i=>
  obtain⟨t,rfl⟩:=rx;cases y with
  |non=>cases ry;exact PySem.EqNone.ne_str_none (jF I q (by simp))
  |bl j=>cases ry;exact PySem.EqMixed.ne_str_bool (jF I q (by simp))
  |int j=>obtain⟨t',rfl⟩:=ry;exact PySem.EqMixed.ne_str_int (jF I q (by simp))
  |str j=>obtain⟨t',rfl⟩:=ry;exact ne_str (jF I q (congrArg not Gr))
  |_=>exact absurd (show false=true from hs) P5
 |byt i=>
  obtain⟨t,rfl⟩:=rx;cases y with
  |byt j=>obtain⟨t',rfl⟩:=ry;exact PySem.W.ne_bytes (jF I q (congrArg not Gs))
  |_=>exact absurd (show false=true from hs) P5
 |_=>cases y<;>exact absurd (show false=true from hs) P5
theorem Ad:OpR X (compareOp .Lt) (rI0 λi j=> .bl (decide (i<j))):=Ac λ_ _ _ _ _ _ _ q=>lt_int q
theorem Ae:OpR X (compareOp .LtE) (rI0 λi j=> .bl (decide (i<=j))):=Ac λ_ _ _ _ _ _ _ q=>le_int q
theorem Af:OpR X (compareOp .GtE) (rI0 λi j=> .bl (decide (j<=i))):=Ac λ_ _ _ _ _ _ _ q=>ge_int q
theorem Ft:OpR X (compareOp .Is) (λx y H Q=>y= .non/\Q (.bl (decide (x= .non))) H):=by
 intro pins s σ H x y v u Q I rx ry h;obtain⟨rfl,q⟩:=h;cases ry;refine is_none_gen (jF I q ?_);cases x<;>first
  |(cases rx;rfl)
  |(obtain⟨t,rfl⟩:=rx;rfl)
theorem NC:OpR X (compareOp .IsNot) (λx y H Q=>y= .non/\Q (.bl (!decide (x= .non))) H):=by
 intro pins s σ H x y v u Q I rx ry h;obtain⟨rfl,q⟩:=h;cases ry;refine isnot_none_gen (jF I q ?_);cases x<;>first
  |(cases rx;rfl)
  |(obtain⟨t,rfl⟩:=rx;rfl)
variable {r:R2}
theorem OpR.or {f:Value->Value->Sem Value}{r':R2}(h:OpR X f r)(h':OpR X f r'):OpR X f (λx y H Q=>r x y H Q\/r' x y H Q):=by
 intro pins s σ H x y v u Q I rx ry q;rcases q with q|q
 ·exact h pins s σ H x y v u Q I rx ry q
 ·exact h' pins s σ H x y v u Q I rx ry q
theorem MS (b:Expr){op:CmpOp}(h:op≠ .In:=by decide)(h2:op≠ .NotIn:=by decide):behindInMarks op b=false:=by
 have e1:(op==CmpOp.In)=false:=by cases op<;>first|rfl|exact absurd rfl h
 have e2:(op==CmpOp.NotIn)=false:=by cases op<;>first|rfl|exact absurd rfl h2
 cases b<;>simp [behindInMarks,e1,e2]
variable {op:CmpOp}
theorem ND (ho:OpR X (compareOp op) r)(ha:PE X a ta)(hb:PE X b tb)(hm:behindInMarks op b=false):PE X (.Compare a [op] [b] pos) (tOp r ta tb):=by
 intro pins s σ H Q I h;exact wpAny_Compare1 (OZ ha hb I h λv u s2 x y H2 I2 rx ry q=>ho pins s2 σ H2 x y v u Q I2 rx ry q) hm
def NE (t:TE):TT:=λσ H Q=>t σ H λx H'=> ∃k,x= .bl k/\Q k H'
theorem NF (ho:OpR X (compareOp op) r)(ha:PE X a ta)(hb:PE X b tb)(hm:behindInMarks op b=false):PT X (.Compare a [op] [b] pos) (NE (tOp r ta tb)):=by
 intro pins s σ H Q I h;refine wpAny_isTrue_Compare1 (thn (ha pins s σ H _ I h) λv s1 ⟨x,H1,I1,r1,q1⟩=>thn (hb pins s1 σ H1 _ I1 q1) λu s2 ⟨y,H2,I2,r2,q2⟩=>
  thn (ho pins s2 σ H2 x y v u _ I2 r1 r2 q2) λc s3 ⟨z,H3,I3,r3,k,e,q3⟩=> ?_) hm
 subst e;cases r3;exact N5 ⟨H3,I3,q3⟩
def Gt (r r':R2)(ta tb tc:TE):TE:=λσ H Q=>ta σ H λx H1=>tb σ H1 λy H2=>r x y H2 λz H3=> ∃k,z= .bl k/\
 (if k=true then tc σ H3 λw' H4=>r' y w' H4 Q else Q (.bl false) H3)
theorem DW {op':CmpOp}{r':R2}(ho:OpR X (compareOp op) r)(ho':OpR X (compareOp op') r')(ha:PE X a ta)(hb:PE X b tb)(hc:PE X c tc)
 (hm:lastMarks [op,op'] [b,c]=false:=by with_unfolding_all rfl):PE X (.Compare a [op,op'] [b,c] pos) (Gt r r' ta tb tc):=by
 intro pins s σ H Q I h;refine Compare_chain (thn (ha pins s σ H _ I h) λv s1 ⟨x,H1,I1,r1,q1⟩=>chain_link (thn (hb pins s1 σ H1 _ I1 q1) λu s2 ⟨y,H2,I2,r2,q2⟩=>
  thn (ho pins s2 σ H2 x y v u _ I2 r1 r2 q2) λd s3 ⟨z,H3,I3,r3,k,e,q3⟩=> ?_)) hm
 subst e;cases r3;refine N5 ?_;cases k with
 |false=>exact ite_ff ⟨.bl false,H3,I3,rfl,q3⟩
 |true=>exact ite_tt (chain_last (thn (hc pins s3 σ H3 _ I3 q3) λw' s4 ⟨z',H4,I4,r4,q4⟩=>ho' pins s4 σ H4 y z' u w' Q I4 r2 r4 q4))
theorem DY {op':CmpOp}{r':R2}(ho:OpR X (compareOp op) r)(ho':OpR X (compareOp op') r')(ha:PE X a ta)(hb:PE X b tb)(hc:PE X c tc)
 (hm:lastMarks [op,op'] [b,c]=false:=by with_unfolding_all rfl):PT X (.Compare a [op,op'] [b,c] pos) (NE (Gt r r' ta tb tc)):=by
 intro pins s σ H Q I h;refine isTrue_chain (thn (ha pins s σ H _ I h) λv s1 ⟨x,H1,I1,r1,q1⟩=>test_link (thn (hb pins s1 σ H1 _ I1 q1) λu s2 ⟨y,H2,I2,r2,q2⟩=>
  thn (ho pins s2 σ H2 x y v u _ I2 r1 r2 q2) λd s3 ⟨z,H3,I3,r3,k,e,q3⟩=> ?_)) hm
 subst e;cases r3;refine N5 ?_;cases k with
 |false=>
  obtain⟨k',e',q'⟩:=q3;cases e';exact ite_ff ⟨H3,I3,q'⟩
 |true=>
  refine ite_tt (test_last (thn (hc pins s3 σ H3 _ I3 q3) λw' s4 ⟨z',H4,I4,r4,q4⟩=>thn (ho' pins s4 σ H4 y z' u w' _ I4 r2 r4 q4) λd' s5 ⟨z2,H5,I5,r5,k2,e2,q5⟩=> ?_));subst e2;cases r5;exact N5 ⟨H5,I5,q5⟩
theorem Vc:(sizeLine:Nat)<2^63:=by rw [sizeLine_eq];decide
theorem yF {x:V}{us:List Value}(r:Vals [x] us): ∃u,us= [u]/\RelV x u:=by
 cases r with
 |cons r1 r2=>cases r2;exact⟨_,rfl,r1⟩
theorem DZ {x y:V}{us:List Value}(r:Vals [x,y] us): ∃u w',us= [u,w']/\RelV x u/\RelV y w':=by
 cases r with
 |cons r1 r2=>
  cases r2 with
  |cons r3 r4=>cases r4;exact⟨_,_,rfl,r1,r3⟩
theorem Gu (hc:X.calm=true):CallR X (.builtin "max") (λxs H Q=> ∃i j,xs= [.int i,.int j]/\Q (.int (if j>i then j else i)) H):=by
 intro pins s σ H xs us Q I r h;obtain⟨i,j,rfl,q⟩:=h;obtain⟨u,w',rfl,⟨t,rfl⟩,⟨t',rfl⟩⟩:=DZ r;refine max_two_ints (I.ok.hd hc) λh' tk k=>⟨_,H,I.kept k,?_,q⟩
 by_cases hj:j>i
 ·rw [if_pos hj,if_pos hj];exact⟨_,rfl⟩
 ·rw [if_neg hj,if_neg hj];exact⟨_,rfl⟩
theorem call_int1:CallR X (.type "int") (λxs H Q=>(∃i,xs= [.int i]/\Q (.int i) H)\/ ∃k,xs= [.bl k]/\Q (.int (if k then 1 else 0)) H):=by
 intro pins s σ H xs us Q I r h;rcases h with ⟨i,rfl,q⟩|⟨k,rfl,q⟩
 ·obtain⟨u,rfl,t,rfl⟩:=yF r;exact call_int_int ⟨.int i,H,I,⟨_,rfl⟩,q⟩
 ·obtain⟨u,rfl,r1⟩:=yF r;cases r1;exact call_int_bool ⟨.int (if k then 1 else 0),H,I.tok _,⟨_,rfl⟩,q⟩
end
structure ObjM (h:Heap)(x dx C:Addr)(mA:Str->Option Value):Prop where
 obj:h.get? x=some (PySem.W.instObj C dx)
 ns:h.Ns1 dx mA
 ne:dx≠x
theorem Gv {dx:Addr}{mA:Str->Option Value}(n:h.Ns1 dx mA): ∃od,h.get? dx=some od/\ ∀name,PySem.W.lookIn name od=some (mA name):=by
 obtain⟨o,es,ep,ho,hd,hk,_,hm⟩:=n;refine⟨o,ho,λname=> ?_⟩;have e:=hm name;unfold nsFind findBy at e;rw [<-Array.find?_toList] at e;unfold PySem.W.lookIn;rw [hd];dsimp only;split
 ·rename_i y q;rw [q] at e;exact congrArg some e
 ·rename_i q;rw [q] at e;have a:es.toList.any (·.refKey)=false:=by
   rw [List.any_eq_false];intro y hy;obtain⟨z,t,hkey⟩:=hk y (Array.mem_toList_iff.mp hy);simp [DictEntry.refKey,hkey]
  have a': ¬es.toList.any (·.refKey)=true:=by rw [a];exact P5
  rw [if_neg a'];exact congrArg some e
theorem ObjM.look {x dx C:Addr}{mA:Str->Option Value}(I:ObjM h x dx C mA): ∃od,PySem.W.InstAt h x (PySem.W.instObj C dx) C (some od)/\ ∀name,PySem.W.lookIn name od=some (mA name):=
 let ⟨od,ho,hl⟩:=Gv I.ns
 ⟨od,⟨I.obj,rfl,rfl,ho⟩,hl⟩
section
variable {P:Program}{w:World}{H H':Hp}{h h':Heap}{a C dx:Addr}{fs fs':List (Str×V)}
theorem NG (hok:HOk P w H h)(e:H a=some (.ins C dx fs)): ∃mA,ObjM h a dx C mA/\(∀f,OS (fs.lookup f) (mA f))/\PySem.Within mA (fs.map (·.1))/\fs.length<=1000/\H dx=some (.own a):=by
 obtain⟨d,z,ne,ob,mA,n,r,q⟩:=(show ObjOk P w H h a (.ins C dx fs) from hok a _ e);exact⟨mA,⟨ob,n,ne⟩,r,q,z,d⟩
end
structure Cls (K:PySem.W.Frag)(C:Addr):Prop where
 pg:PySem.W.plainGet K C Str.empty=true
 hd:PySem.W.hasDictIn K C=true
 po:PySem.W.plainOver K C=true
 sa:PySem.W.findIn K (.ref C) "__setattr__" =some (some (.builtin "object.__setattr__"))
theorem Cls.get {C:Addr}(c:Cls K C)(f:Str):PySem.W.plainGet K C f=true:=c.pg
section
variable {X:Cx}{pins:List (Addr×Obj)}{σ:St}{H:Hp}{s:Shared}{A:Around}{E:Value->Shared->Prop}{Q:Value->Shared->Prop}{c:Value}{b:Bool}
inductive TyOf (K:PySem.W.Frag)(H:Hp):V->Value->Prop where
 |non:TyOf K H .non (.type "NoneType")
 |bl (x:Bool):TyOf K H (.bl x) (.type "bool")
 |int (i:Int):TyOf K H (.int i) (.type "int")
 |str (x:Str):TyOf K H (.str x) (.type "str")
 |flt (x:UInt64):TyOf K H (.flt x) (.type "float")
 |lst {a:Addr} {xs:List V} (e:H a=some (.lst xs)):TyOf K H (.ref a) (.type "list")
 |frz {a:Addr} {o:Obj} {xs:List V} (e:H a=some (.frz o (.lst xs))):TyOf K H (.ref a) (.type "list")
 |tup {a:Addr} {xs:List V} (e:H a=some (.tup xs)):TyOf K H (.ref a) (.type "tuple")
 |dK {a:Addr} {kvs:List (Key×V)} (e:H a=some (.dK kvs)):TyOf K H (.ref a) (.type "dict")
 |dT {a:Addr} {kvs:List (List Key×V)} (e:H a=some (.dT kvs)):TyOf K H (.ref a) (.type "dict")
 |ins {a C dx:Addr} {fs:List (Str×V)} (e:H a=some (.ins C dx fs)) (cl:Cls K C) (ha:PySem.W.findIn K (.ref C) "__class__" =some (some (.builtin "object.__class__")))
  (hn:PySem.W.specialIn K (.builtin "object.__class__") "__get__" =some (some (.builtin "getset_descriptor.__get__"))) (htk:PySem.W.takesIn K (.builtin "object.__class__")=some true)
  (hm:PySem.W.mroIn K C (.type "object")=some true):TyOf K H (.ref a) (.ref C)
theorem Gw {x:V}{u t:Value}(I:Inv X pins σ H s)(rx:RelV x u)(ty:TyOf X.K H x t)(e:PySem.W.kitOne X.K t c=some b)(h: ∀tk,Q (.bool b) {s with toks:=tk}):
 wpAny (model X.prog X.w) A (call (.builtin "isinstance") [u,c]) Q E s:=by
 cases ty with
 |non=>cases (show u=Value.none from rx);exact B6 PySem.W.kitx_none I.kIn True.intro e (λz=>nomatch z) h
 |bl y=>cases (show u=Value.bool y from rx);exact B6 PySem.W.kitx_bool I.kIn True.intro e (λz=>nomatch z) h
 |int i=>obtain⟨t,q⟩:=(show ∃t,u=Value.int i t from rx);cases q;exact B6 PySem.W.kitx_int I.kIn True.intro e (λz=>nomatch z) h
 |str y=>obtain⟨t,q⟩:=(show ∃t,u=Value.str y t from rx);cases q;exact B6 PySem.W.kitx_str I.kIn True.intro e (λz=>nomatch z) h
 |flt y=>obtain⟨t,q⟩:=(show ∃t,u=Value.float y t from rx);cases q;exact B6 PySem.W.kitx_float I.kIn True.intro e (λz=>nomatch z) h
 | @lst a xs ea=>
  cases (show u=Value.ref a from rx);obtain⟨_,_,n,_,h1⟩:=(show ObjOk X.prog X.w H s.heap a (.lst xs) from I.hok a _ ea);exact B6 PySem.W.kitx_list I.kIn ⟨_,h1,rfl⟩ e (λz=>nomatch z) h
 | @frz a ob xs ea=>
  cases (show u=Value.ref a from rx);obtain⟨_,_,_,n,_,h1⟩:=(show ObjOk X.prog X.w H s.heap a (.frz ob (.lst xs)) from I.hok a _ ea);exact B6 PySem.W.kitx_list I.kIn ⟨_,h1,rfl⟩ e (λz=>nomatch z) h
 | @tup a xs ea=>
  cases (show u=Value.ref a from rx);obtain⟨_,_,_,p⟩:=(show ObjOk X.prog X.w H s.heap a (.tup xs) from I.hok a _ ea);obtain⟨o,h1,h2,_⟩:=p;exact B6 PySem.W.kitx_tuple I.kIn ⟨o,h1,h2⟩ e (λz=>nomatch z) h
 | @dK a kvs ea=>
  cases (show u=Value.ref a from rx);obtain⟨_,_,vs,_,p⟩:=(show ObjOk X.prog X.w H s.heap a (.dK kvs) from I.hok a _ ea);obtain⟨o,es,ep,h1,h2,_⟩:=p;exact B6 PySem.W.kitx_dict I.kIn ⟨o,h1,h2.1⟩ e (λz=>nomatch z) h
 | @dT a kvs ea=>
  cases (show u=Value.ref a from rx);obtain⟨_,_,xs,_,o,es,ep,h1,h2,_⟩:=(show ObjOk X.prog X.w H s.heap a (.dT kvs) from I.hok a _ ea);exact B6 PySem.W.kitx_dict I.kIn ⟨o,h1,h2.1⟩ e (λz=>nomatch z) h
 | @ins a C dx fs ea cl ha hn htk hm=>
  cases (show u=Value.ref a from rx);obtain⟨mA,O,_⟩:=NG I.hok ea;obtain⟨od,J,_⟩:=O.look;exact B6 (PySem.W.kitx_own (cl.get _) cl.hd ha hn htk hm) I.kIn J e (λz=>nomatch z) h
end
structure Room (k:Nat)(A:Around):Prop where
 hd:A.handled=none
 dp:A.depth+3*k+5<recursionLimit
 un:A.units+16*k+200<cLine
 gd:A.guards=some []
variable {k:Nat}
theorem Room.deeper (r:Room (k+1) A)(env:Env):Room k (A.deeper env):=
 ⟨r.hd,by have:=r.dp;show A.depth+1+3*k+5<_;omega,by have:=r.un;show A.units+3+16*k+200<_;omega,r.gd⟩
theorem Room.depth (r:Room k A):A.depth<recursionLimit:=by have:=r.dp;omega
theorem Room.units (r:Room k A):A.units+64<cLine:=by have:=r.un;omega
def ED:TA:=λ_ H Q=>Q [] H
def Fu (ta:TE)(tr:TA):TA:=λσ H Q=>ta σ H λx H1=>tr σ H1 λxs H2=>Q (x::xs) H2
section
variable {X:Cx}{e:Expr}{es:List Expr}{te:TE}{t:TA}{pos:Pos}
theorem pa_nil:PA X [] ED:=λ_ _ _ _ H Q I h=>Calls.spliced_nil ⟨[],H,I,.nil,h⟩
theorem wt (ha:PE X e te)(hr:PA X es t)(hs:starEach (e::es) X.env=(false,eval e X.env)::starEach es X.env:=by rfl):PA X (e::es) (Fu te t):=by
 intro pos pins s σ H Q I h;rw [hs];show wpAny _ _ (spliced ((false,eval e X.env)::backTo pos (starEach es X.env))) _ _ s;refine Calls.spliced_cons (thn (ha pins s σ H _ I h) λu s1 ⟨x,H1,I1,r1,q1⟩=> ?_);exact thn (hr pos pins s1 σ H1 _ I1 q1) λus s2 ⟨xs,H2,I2,r2,q2⟩=>⟨x::xs,H2,I2,.cons r1 r2,q2⟩
def EE (t:TA):TE:=λσ H Q=>t σ H λxs H1=>xs.length<=sizeLine/\ ∀p,H1 p=none->Q (.ref p) (upd H1 p (.tup xs))
def EF (t:TA):TE:=λσ H Q=>t σ H λxs H1=>xs.length<=sizeLine/\ ∀p,H1 p=none->Q (.ref p) (upd H1 p (.lst xs))
theorem Fv {x1}(h:PA X es t):PE X (.Tuple es x1 pos) (EE t):=by
 intro pins s σ H Q I hq;refine wpAny_Tuple_spliced (thn (h pos pins s σ H _ I hq) λus s1 ⟨xs,H1,I1,r,z,q⟩=>⟨by rw [<-r.length];exact z,?_⟩);have hf:H1 s1.heap.objs.size=none:=I1.hok.fresh (G6 _);refine⟨.ref s1.heap.objs.size,upd H1 s1.heap.objs.size (.tup xs),I1.laid (t':=s1.toks) (λb u e=>G3 _ e) (G6 _) ?_,rfl,q _ hf⟩;exact⟨z,us,r,IsTupN.new _ _⟩
theorem Fw (h:PA X es t):PE X (.List es pos) (EF t):=by
 intro pins s σ H Q I hq;refine wpAny_List_spliced (thn (h pos pins s σ H _ I hq) λus s1 ⟨xs,H1,I1,r,z,q⟩=>⟨by rw [<-r.length];exact z,?_⟩);have hf:H1 s1.heap.objs.size=none:=I1.hok.fresh (G6 _);refine⟨.ref s1.heap.objs.size,upd H1 s1.heap.objs.size (.lst xs),I1.laid (t':=s1.toks) (λb u e=>G3 _ e) (G6 _) ?_,rfl,q _ hf⟩;exact⟨z,us,0,r,D9 _ rfl⟩
end
abbrev Sp:=List V->Hp->VK->XK->Prop
abbrev CXT:=List Env->Hp->Shared->XK->Value->Shared->Prop
structure Env0 (P:Program)(w:World)(K:PySem.W.Frag)(mg:Str->Option Value)(base:Heap)(A:Around)(outer:List Env)(s:Shared)(H:Hp):Prop where
 frames:A.frames=some outer
 mod:Mod K mg base
 bs: ∀b o,base.get? b=some o->s.heap.get? b=some o/\H b=none
 bsz:base.objs.size<=s.heap.objs.size
 funs:s.heap.FunFrames base outer
 frf: ∀b∈frs outer,H b=none
 hok:HOk P w H s.heap
 bare:AllBare s.gens
def CE (outer:List Env)(P:Program)(w:World)(H:Hp)(s:Shared)(Q:VK)(u:Value)(s':Shared):Prop:=
 ∃v H',s'.os=s.os/\AllBare s'.gens/\Un (frs outer) [] H H' s.heap s'.heap/\HOk P w H' s'.heap/\RelV v u/\Q v H'
def CR (CX:CXT)(outer:List Env)(P:Program)(w:World)(H:Hp)(s:Shared)(Q:VK)(E:XK)(r:Result)(s':Shared):Prop:=
 match r with
 | .ok (.ret u)=>CE outer P w H s Q u s'
 | .ok _=>False
 | .error e=>CX outer H s E e s'
structure FnOk (P:Program)(w:World)(K:PySem.W.Frag)(mg:Str->Option Value)(base:Heap)(CX:CXT)(k:Nat)(f:Addr)(fd:FuncData)(ps:List Str)(sp:Sp):Prop where
 len: ∀vs H Q E,sp vs H Q E->vs.length=ps.length
 run: ∀ (A:Around) (outer:List Env) (s:Shared) (H:Hp) (args:Args) (us:List Value) (vs:List V) (Q:VK) (E:XK),Room k A->Env0 P w K mg base A outer s H->BindsTo s fd args (ps.zip us)->Vals vs us->sp vs H Q E->
  codeAny (model P w) A (.call (.ref f) args) (CR CX outer P w H s Q E) s
section
variable {X:Cx}{pins:List (Addr×Obj)}{σ:St}{H:Hp}{s s':Shared}
theorem Inv.env0 (I:Inv X pins σ H s):Env0 X.prog X.w X.K X.mg X.base X.A X.stack s H:=
 ⟨I.ok.frames,I.ok.mod,I.bs,R6 I.ok.bsz I.sz,I.stack,I.stkFree,I.hok,I.bare⟩
theorem Inv.after {Q:VK}{u:Value}(I:Inv X pins σ H s)(h:CE X.stack X.prog X.w H s Q u s'):EP X pins σ Q u s':=by
 obtain⟨v,H',os,bare,un,hok,r,q⟩:=h;obtain⟨hh,g,d,t,os'⟩:=s';obtain rfl:os'=s.os:=os;exact⟨v,H',I.call (h':=hh) (g':=g) (d':=d) (t':=t) (ch:= []) un hok bare (λb z=>absurd z (by simp)),r,q⟩
end
def Fx (sp:Sp)(dvs:List V)(E:XK)(t:TA):TE:=λσ H Q=>t σ H λvs H1=>sp (vs++dvs) H1 Q E
def Binds (K:PySem.W.Frag)(fd:FuncData)(ps:List Str)(ds:List Value):Prop:=
 ∀ (s:Shared) (us:List Value),K.In s.heap->(us++ds).length=ps.length->BindsTo s fd ⟨us,[]⟩ (ps.zip (us++ds))
theorem Binds.all {fd:FuncData}{ps:List Str}(h: ∀us:List Value,us.length=ps.length->bindArgs fd ⟨us,[]⟩=pure (ps.zip us)):Binds K fd ps []:=λs us _ hl=>by
 rw [C3] at hl ⊢;exact .of_eq (h us hl)
def Gx (CX:CXT)(X:Cx)(E:XK):Prop:= ∀ (pins:List (Addr×Obj)) (σ:St) (H:Hp) (s:Shared) (e:Value) (s':Shared),Inv X pins σ H s->CX X.stack H s E e s'->X.xe e s'
section
variable {X:Cx}{CX:CXT}{k:Nat}{f C:Addr}{fd:FuncData}{ps:List Str}{sp:Sp}{dvs:List V}{ds:List Value}{E:XK}{x m:Str}{p pos apos:Pos}{e o:Expr}{es:List Expr}{ta:TE}{t:TA}
theorem Fy {pins:List (Addr×Obj)}{σ:St}{H:Hp}{s:Shared}{Q:VK}{us:List Value}{vs:List V}(F:FnOk X.prog X.w X.K X.mg X.base CX k f fd ps sp)(hr:Room k X.A)(hb:Binds X.K fd ps ds)(hd:Vals dvs ds)(hx:Gx CX X E)
 (I:Inv X pins σ H s)(r:Vals vs us)(h:sp (vs++dvs) H Q E):wpAny (model X.prog X.w) X.A (call (.ref f) us) (EP X pins σ Q) X.xe s:=by
 have r2:Vals (vs++dvs) (us++ds):=r.append hd;have hl:(us++ds).length=ps.length:=by rw [<-r2.length];exact F.len _ _ _ _ h
 refine wpAny_call (G0O (F.run X.A X.stack s H ⟨us,[]⟩ (us++ds) (vs++dvs) Q E hr I.env0 (hb s us I.kIn hl) r2 h) λr s' hq=> ?_);cases r with
 |error e=>exact hx pins σ H s e s' I hq
 |ok fl=>
  cases fl with
  |ret u=>exact I.after hq
  |next=>exact False.elim hq
  |brk=>exact False.elim hq
  |cont=>exact False.elim hq
theorem NH (F:FnOk X.prog X.w X.K X.mg X.base CX k f fd ps sp)(hr:Room k X.A)(hg:Gl X x)(hm:X.mg x=some (.ref f))(hk:PySem.W.keepIn X.K (.ref f)=true)(hb:Binds X.K fd ps ds)(hd:Vals dvs ds)(hx:Gx CX X E)
 (ha:PA X (e::es) t)(hdb:(x==("__debug__" :Str))=false:=by decide)(he:starEach (e::es) X.env=(false,eval e X.env)::starEach es X.env:=by rfl)(hpl:(backTo pos (starEach es X.env)).any (·.1)=false:=by rfl):
 PE X (.Call (.Name x p) (e::es) [] pos) (Fx sp dvs E t):=by
 intro pins s σ H Q I h;refine G0a (Gm I hg hm ?_ hdb);refine PySem.W.callWith_K (h₀:=X.base) I.ok.mod.kin hk (thn (ha pos pins s σ H _ I h) λus s1 ⟨vs,H1,I1,r,q⟩=>⟨I1.kIn,?_⟩) he hpl;exact Fy F hr hb hd hx I1 r q
end
structure FnScope (N P:List Str)(sc:Scope):Prop where
 kind:sc.kind= .function
 co:sc.isCoroutine=false
 gen:sc.isGenerator=false
 nd:N.Nodup
 pre:N.take P.length=P
 par: ∀x∈P,sc.names.lookup x=some .local\/sc.names.lookup x=some .cell
 nofree: ∀y∈sc.names,y.2≠ .free
variable {kindOf:Str->Option NameKind}{x:Str}
theorem Vd: ∀ {binds:List (Str×Value)} {m:Str->Option Value},(∀v,(x,v) ∉ binds)->bindL kindOf binds m x=m x
 | [],_,_=>rfl
 |(n,v)::r,m,h=>by
  unfold bindL;rw [Vd λw hw=>h w (D8 _ hw)];split
  ·have:x≠n:=by rintro rfl;exact h v P8
   simp [this]
  ·rfl
theorem Ve: ∀ {binds:List (Str×Value)} {m:Str->Option Value},(∀v,(x,v) ∉ binds)->bindC kindOf binds m x=m x
 | [],_,_=>rfl
 |(n,v)::r,m,h=>by
  unfold bindC;rw [Ve λw hw=>h w (D8 _ hw)];split
  ·rfl
  ·have:x≠n:=by rintro rfl;exact h v P8
   simp [this]
theorem Vf {v:Value}: ∀ {P:List Str} {vs:List Value} {i:Nat} {m:Str->Option Value},P.Nodup->P[i]? =some x->vs[i]? =some v->kindOf x=some .local->
 bindL kindOf (P.zip vs) m x=some v
 | [],_,_,_,_,h,_,_=>by simp at h
 |_::_,[],_,_,_,_,h,_=>by simp at h
 |p::P,w::vs,0,m,nd,h1,h2,hk=>by
  simp at h1 h2;subst h1;subst h2;show bindL kindOf ((p,w)::P.zip vs) m p=_;unfold bindL;rw [Vd λv hv=>(O3.mp nd).1 (G0P hv).1,if_pos hk];simp
 |p::P,w::vs,i+1,m,nd,h1,h2,hk=>by
  show bindL kindOf ((p,w)::P.zip vs) m x=_;unfold bindL;exact Vf (i:=i) (O3.mp nd).2 (by simpa using h1) (by simpa using h2) hk
theorem Vg {v:Value}: ∀ {P:List Str} {vs:List Value} {i:Nat} {m:Str->Option Value},P.Nodup->P[i]? =some x->vs[i]? =some v->kindOf x≠some .local->
 bindC kindOf (P.zip vs) m x=some v
 | [],_,_,_,_,h,_,_=>by simp at h
 |_::_,[],_,_,_,_,h,_=>by simp at h
 |p::P,w::vs,0,m,nd,h1,h2,hk=>by
  simp at h1 h2;subst h1;subst h2;show bindC kindOf ((p,w)::P.zip vs) m p=_;unfold bindC;rw [Ve λv hv=>(O3.mp nd).1 (G0P hv).1,if_neg hk];simp
 |p::P,w::vs,i+1,m,nd,h1,h2,hk=>by
  show bindC kindOf ((p,w)::P.zip vs) m x=_;unfold bindC;exact Vg (i:=i) (O3.mp nd).2 (by simpa using h1) (by simpa using h2) hk
def start (N:List Str)(vs:List V):St:=vs.map some++List.replicate (N.length-vs.length) none
def Ra (CX:CXT)(P:Program)(w:World)(K:PySem.W.Frag)(mg:Str->Option Value)(base:Heap)(N:List Str)(qual:Str)(scope:Scope)(f:Addr)(cd:Value)(A:Around)(outer:List Env)(s:Shared)(H:Hp)(E:XK):Cx where
 prog:=P
 w:=w
 K:=K
 mg:=mg
 base:=base
 A:=A.deeper (envOfC qual scope s.heap.objs.size f cd)
 N:=N
 s₀:=s
 H₀:=H
 env:=envOfC qual scope s.heap.objs.size f cd
 outer:=outer
 stack:=envOfC qual scope s.heap.objs.size f cd::outer
 ex:= []
 calm:=true
 fn:=λ_=>true
 pn:= []
 xe:=λe s'=>wpAny (model P w) (A.deeper (envOfC qual scope s.heap.objs.size f cd)) (leaving (envOfC qual scope s.heap.objs.size f cd) e) (λ_ s''=>CX outer H s E e s'') (λe' s''=>CX outer H s E e' s'') s'
theorem JY {sc:Scope}{n:Nat}(h:sc.names.lookup x=some .cell): ∃c,(cellsFrom n sc.names []).lookup x=some c:=by
 have q:=G0J sc.names n [] (.inl h);exact G0n.mp q
theorem Gy {CX:CXT}{mg:Str->Option Value}{base:Heap}{N ps:List Str}{qual:Str}{scope:Scope}{f:Addr}{cd:Value}{outer:List Env}{s1:Shared}{E:XK}{us:List Value}{vs:List V}
 (S:FnScope N ps scope)(hd:A.handled=none)(e0:Env0 P w K mg base A outer s H)(hl:vs.length=ps.length)(r:Vals vs us)
 (x:InCallC s s.heap.objs.size (bindL (envOfC qual scope s.heap.objs.size f cd).kindOf (ps.zip us) λ_=>none) (cellsFrom (s.heap.objs.size+1) scope.names []) (bindC (envOfC qual scope s.heap.objs.size f cd).kindOf (ps.zip us) λ_=>none) s1):
 Inv (Ra CX P w K mg base N qual scope f cd A outer s H E) [] (start N vs) H s1:=by
 have hpl:ps.length<=N.length:=by have:=congrArg List.length S.pre;rw [R1] at this;omega
 obtain⟨h1,tk,rfl,hk⟩:=x.done;have noA: ∀b:Addr,b ∉ (Ra CX P w K mg base N qual scope f cd A outer s H E).ex:=λb z=>absurd (show b∈([]:List Addr) from z) (by simp)
 refine⟨⟨e0.mod,S.kind,rfl,rfl,G6 _,λy z c h1 h2=> ?_,λy hy=> ?_,λy c _ h=> ?_,λ_=>hd,Around.frames_deeper e0.frames,.inr ⟨rfl,rfl⟩,λb z=>absurd z (noA b),e0.bs,e0.bsz,λb _ _=>noA b,λb z=>absurd z (noA b),e0.funs,e0.frf⟩,
  rfl,e0.bare,Un.kept hk,⟨_,x.toInCall.ns,λi y v h1 h2 h3=> ?_⟩,λy c h=>⟨_,x.cell y c h⟩,e0.hok.fresh (G6 _),λy c h=> ?_,λp hp=>absurd (show p∈([]:List (Addr×Obj)) from hp) (by simp),e0.hok.kept hk,?_⟩
 ·exact name_of_addr x.apart (E6 h1) (E6 h2)
 ·have hy:scope.names.lookup y=some .cell\/scope.names.lookup y=some .free:=hy;rcases hy with hy|hy
  ·exact JY hy
  ·exact absurd rfl (S.nofree _ (E6 hy))
 ·exact D6 (x.above y c (E6 h))
 ·have hi:i<vs.length:=by
   unfold start at h2
   by_cases hi:i<vs.length
   ·exact hi
   ·rw [P6 (by simpa using hi)] at h2;rw [G0w] at h2;split at h2<;>cases h2
  have ha:vs[i]? =some v:=by
   unfold start at h2;rw [R3 (by simpa using hi),P9] at h2;cases e:vs[i]? with
   |none=>rw [e] at h2;cases h2
   |some a=>rw [e] at h2;cases h2;rfl
  obtain⟨u,hu,rv⟩:=r.get ha;have hp:ps[i]? =some y:=by
   rw [<-S.pre,U0 (by omega)];exact h1
  have ndP:ps.Nodup:=by rw [<-S.pre];exact S.nd.sublist (O0 _ _)
  refine⟨u,rv,?_⟩;rcases S.par y (G9 hp) with k|k
  ·exact .inl ⟨k,Vf ndP hp hu k⟩
  ·obtain⟨c,e⟩:=JY (n:=s.heap.objs.size+1) k;refine .inr ⟨.inl k,c,e,?_⟩;have q:=x.cell y c e;rw [Vg ndP hp hu (by show scope.names.lookup y≠_;rw [k];decide)] at q;exact q
 ·exact e0.hok.fresh (D6 (x.above y c (E6 h)))
 ·unfold start;show _=N.length;rw [G7,G0,List.length_replicate];omega
theorem Ag {CX:CXT}{mg:Str->Option Value}{base:Heap}{f:Addr}{name qual:Str}{params:Arguments}{body:List Stmt}{scope:Scope}{dV kV doc pm cdv ct oc:Value}{an od:Option Addr}{osl:Array (Option Value)}{N ps:List Str}{sp:Sp}(lk:K.lookup f=some ⟨oc,od,.func (PySem.W.fnOf name qual params body scope dV kV doc pm an cdv ct),osl⟩)(hcd:PySem.W.codeIn K cdv qual=true)(S:FnScope N ps scope)
 (len: ∀vs H Q E,sp vs H Q E->vs.length=ps.length)
 (hbody: ∀ (A:Around) (outer:List Env) (s:Shared) (H:Hp) (vs:List V) (Q:VK) (E:XK),Room k (A.deeper (envOfC qual scope s.heap.objs.size f cdv))->sp vs H Q E->
  ∃t,PSs (Ra CX P w K mg base N qual scope f cdv A outer s H E) body t/\t {nx:=λ_ H'=>Q .non H',rt:=Q} (start N vs) H):
 FnOk P w K mg base CX (k+1) f (PySem.W.fnOf name qual params body scope dV kV doc pm an cdv ct) ps sp:=by
 refine⟨len,λA outer s H args us vs Q E hr e0 hb r hsp=> ?_⟩;have hl:=len _ _ _ _ hsp;have KX:K.In s.heap:=e0.mod.kin.keeps λb o e=>(e0.bs b o e).1
 have lim:s.heap.NoLimit:=e0.mod.nolimit.keeps λb o e=>(e0.bs b o e).1
 have hkind: ∀y∈ps.zip us,scope.names.lookup y.1=some .local\/(scope.names.lookup y.1=some .cell/\((cellsFrom (s.heap.objs.size+1) scope.names []).lookup y.1).isSome=true):=λ⟨n,v⟩ hy=>by
  rcases S.par n (G0P hy).1 with q|q
  ·exact .inl q
  ·exact .inr ⟨q,G0J _ _ _ (.inl q)⟩
 refine codeAny_call_function hr.depth (KX _ _ lk) rfl S.co S.gen rfl (PySem.W.codeRec_of KX hcd) (hb _ _ _ _ ?_);refine wpAny_newFunctionEnv_cells S.kind hkind λenv he s1 x=> ?_
 subst he;refine⟨lim.keeps x.toInCall.keep,codeAny_func ?_⟩;obtain⟨t,ht,hq⟩:=hbody A outer s H vs Q E (hr.deeper _) hsp;have I:Inv (Ra CX P w K mg base N qual scope f cdv A outer s H E) [] (start N vs) H s1:=Gy S hr.hd e0 hl r x;refine S3 (ht [] s1 (start N vs) H _ I hq) (λfl s' hs=> ?_) λe s' hs=>hs
 have fin: ∀ {σ':St} {H':Hp} {v:V} {u:Value},Inv (Ra CX P w K mg base N qual scope f cdv A outer s H E) [] σ' H' s'->RelV v u->Q v H'->CE outer P w H s Q u s':=
  λ{σ' H' v u} J rv q=>⟨v,H',J.os,J.bare,J.base,J.hok,rv,q⟩
 cases fl with
 |ret u=>
  obtain⟨v,σ',H',J,rv,q⟩:=hs;exact fin J rv q
 |next=>
  obtain⟨σ',H',J,q⟩:=hs;exact fin (v:=V.non) (u:=Value.none) J rfl q
 |brk=>
  obtain⟨_,_,_,q⟩:=hs;exact False.elim q
 |cont=>
  obtain⟨_,_,_,q⟩:=hs;exact False.elim q
section
variable {X:Cx}{x:Str}{p pos:Pos}{e:Expr}{es:List Expr}{t:TA}{id T:String}{r:List V->Hp->VK->Prop}
def tCB (r:List V->Hp->VK->Prop)(t:TA):TE:=λσ H Q=>t σ H λvs H1=>r vs H1 Q
theorem Xs (hc:CallR X (.builtin id) r)(hg:Gl X x)(hm:X.mg x=none)(hv:bootBuiltins x=some (.builtin id))(ha:PA X (e::es) t)(hn:x≠ "__name__" :=by decide)(hdb:(x==("__debug__" :Str))=false:=by decide)
 (he:starEach (e::es) X.env=(false,eval e X.env)::starEach es X.env:=by rfl)(hpl:(backTo pos (starEach es X.env)).any (·.1)=false:=by rfl):PE X (.Call (.Name x p) (e::es) [] pos) (tCB r t):=by
 intro pins s σ H Q I h;refine G0a (Zk I hg hm hv ?_ hn hdb);exact PyProof.Rows.callWith_builtin1 (thn (ha pos pins s σ H _ I h) λus s1 ⟨vs,H1,I1,r1,q1⟩=>hc pins s1 σ H1 vs us Q I1 r1 q1) he hpl
theorem Zm (hc:CallR X (.type T) r)(hg:Gl X x)(hm:X.mg x=none)(hv:bootBuiltins x=some (.type T))(ha:PA X (e::es) t)(hn:x≠ "__name__" :=by decide)(hdb:(x==("__debug__" :Str))=false:=by decide)
 (he:starEach (e::es) X.env=(false,eval e X.env)::starEach es X.env:=by rfl)(hpl:(backTo pos (starEach es X.env)).any (·.1)=false:=by rfl):PE X (.Call (.Name x p) (e::es) [] pos) (tCB r t):=by
 intro pins s σ H Q I h;refine G0a (Zk I hg hm hv ?_ hn hdb);exact C1 (thn (ha pos pins s σ H _ I h) λus s1 ⟨vs,H1,I1,r1,q1⟩=>hc pins s1 σ H1 vs us Q I1 r1 q1) he hpl
end
end L2
namespace HT
open PySem PyProof.Rows
def jP:List Int->List Int->Bool
 | [],[]=>false
 | [],_::_=>true
 |_::_,[]=>false
 |x::xs,y::ys=>if x=y then jP xs ys else decide (x<y)
theorem vZ (x y:Int)(xs ys:List Int):jP (x::xs) (y::ys)=if x=y then jP xs ys else decide (x<y):=rfl
theorem Yj:jP [] []=false:=rfl
theorem Wt (y:Int)(ys:List Int):jP [] (y::ys)=true:=rfl
theorem Wu (x:Int)(xs:List Int):jP (x::xs) []=false:=rfl
theorem Xt (A:Around)(s:Shared)(a:Int)(t:Tok)(c:Int)(u:Tok): ∃e,SeqAt.EqAt A s (.int a t) (.int c u) e/\(e=true↔a=c):=
 ⟨(a==c),SeqAt.EqAt.int_int a t c u,by simp⟩
theorem Rb (A:Around)(s:Shared)(a:Int)(t:Tok)(c:Int)(u:Tok)(prog:Program)(w:World)(E:Value->Shared->Prop)(Q:Value->Shared->Prop)(h:Q (.bool (decide (a<c))) s):
 wpAny (model prog w) A (richCompare .Lt (.int a t) (.int c u)) Q E s:=
 (G04 h:wpAny (model prog w) A (compareOp .Lt (.int a t) (.int c u)) Q E s)
section
open PySem.SeqAt
open PySem.AutoSeq1 (wpAny_loadPart')
open PySem.MeetsSeq PySem.MeetsSeq2 PySem.MeetsSeq3
theorem vt (l b:Addr)(items items2:Array Value)(n n2:Nat)(dd dd2:Option Addr)(sl sl2:Array (Option Value))(ns ms:List Int)(hi:IntsAre items.toList ns)(hj:IntsAre items2.toList ms):
 Meets (Builtin.«tuple.__lt__» ⟨[.ref l,.ref b],[]⟩)
  (λ_ R s=>s.heap.get? l=some {cls:= .type "tuple",dict:=dd,data:= .seq items n,slots:=sl}/\s.heap.get? b=some {cls:= .type "tuple",dict:=dd2,data:= .seq items2 n2,slots:=sl2}/\
   R (.ok (.ret (.bool (jP ns ms)))) s):=
 .of_wp λprog w A R s h=>by
  obtain⟨hp,g,d,tk,os⟩:=s;obtain⟨hl,hb,h⟩:=h;have f2:=AutoSeq1.sub_tuple_tuple;have z1:items.size=ns.length:=by rw [<-hi.length];simp
  have z2:items2.size=ms.length:=by rw [<-hj.length];simp
  wp_walk using J6 hl,J6 hb,wpAny_forIn_list _ (λrest b s'=>b.1=none/\s'=⟨hp,g,d,tk,os⟩/\ ∃ (vs ws:List Value) (ns' ms':List Int),rest=vs.zip ws/\
   IntsAre vs ns'/\IntsAre ws ms'/\ns'.length+items2.size=ms'.length+items.size/\R (.ok (.ret (.bool (jP ns' ms')))) ⟨hp,g,d,tk,os⟩) _
  case turn=>
   rintro ⟨y,x⟩ rest b s' ⟨hb',rfl,vs,ws,ns',ms',hz,hvi,hwi,hlen,hR⟩;cases hvi with
   |nil=>rw [G0o] at hz;cases hz
   |cons a t hvi'=>
    cases hwi with
    |nil=>rw [List.zip_nil_right] at hz;cases hz
    |cons c u hwi'=>
     rw [U5] at hz;injection hz with hyx hrest
     injection hyx with hy hx
     subst hy hx;rw [vZ] at hR;simp only [D5] at hlen;obtain⟨e,he,hiff⟩:=Xt A.in1 ⟨hp,g,d,tk,os⟩ a t c u;refine wpAny_bind (he prog w _ _ ?_);cases e with
     |true=>
      rw [if_pos (hiff.mp rfl)] at hR
      wp_walk
      exact⟨rfl,rfl,_,_,_,_,hrest,hvi',hwi',by omega,hR⟩
     |false=>
      rw [if_neg (λq=>absurd (hiff.mpr q) P5)] at hR;have hri:=Rb A.in1 ⟨hp,g,d,tk,os⟩ a t c u prog w
      wp_walk using hri
      exact⟨_,rfl,by simpa using hR⟩
  case fin=>
   rintro ⟨b1,b2⟩ s' ⟨hb',rfl,vs,ws,ns',ms',hz,hvi,hwi,hlen,hR⟩;simp only at hb';subst hb';have hv:jP ns' ms'=decide (items.size<items2.size):=by
    cases hvi with
    |nil=>
     cases hwi with
     |nil=>
      simp only [T9] at hlen;rw [Yj];exact(S6 (by omega)).symm
     |cons c u hw=>
      simp only [T9,D5] at hlen;rw [Wt];exact(P7 (by omega)).symm
    |cons a t hv=>
     cases hwi with
     |nil=>
      simp only [T9,D5] at hlen;rw [Wu];exact(S6 (by omega)).symm
     |cons c u hw=>
      rw [U5] at hz;cases hz
   rw [hv] at hR
   wp_walk
   exact⟨_,rfl,by simpa [Builtin.Tuple.tupleCompareSizes] using hR⟩
  case h=>
   exact⟨rfl,rfl,items.toList,items2.toList,ns,ms,rfl,hi,hj,by omega,h⟩
end
section
variable {prog:Program}{w:World}{A:Around}{E:Value->Shared->Prop}{s:Shared}
theorem Qk {l b:Addr}{items items2:Array Value}{ns ms:List Int}{Q:Value->Shared->Prop}(hl:IsTup s.heap l items)(hb:IsTup s.heap b items2)(hi:IntsAre items.toList ns)(hj:IntsAre items2.toList ms)
 (hu:A.units<cLine)(h:Q (.bool (jP ns ms)) s):wpAny (model prog w) A (compareOp .Lt (.ref l) (.ref b)) Q E s:=by
 obtain⟨⟨cls,dd,data,sl⟩,ho,hc,n,hd⟩:=id hl;obtain⟨⟨cls2,dd2,data2,sl2⟩,ho2,hc2,n2,hd2⟩:=id hb;simp only at hc hd hc2 hd2;subst hc hd hc2 hd2;exact richCompare_meets_room (op:= .Lt) ⟨_,ho,rfl⟩ ⟨_,ho2,rfl⟩ W4 G0K (G0x _ _) (vt l b items items2 n n2 dd dd2 sl sl2 ns ms hi hj)
  ⟨ho,ho2,show Value.bool (jP ns ms)≠Value.notImplemented/\Q (.bool (jP ns ms)) s from ⟨(λx=>nomatch x),h⟩⟩ hu
theorem NI {t b:Addr}{vs ws:List Value}{Q:Value->Shared->Prop}(ht:IsTup s.heap t vs.toArray)(hb:IsTup s.heap b ws.toArray)(hv:vs≠ [])
 (h1:ws= []->Q (.ref t) s)(h2:ws≠ []->Q (.ref s.heap.objs.size) {s with heap:=s.heap.push {cls:= .type "tuple",data:= .seq (vs++ws).toArray}})
 (hsz:vs.length+ws.length<=sizeLine):wpAny (model prog w) A (binaryOp .Add (.ref t) (.ref b)) Q E s:=by
 obtain⟨⟨cls,dd,data,sl⟩,ho,hc,n,hd⟩:=id ht;obtain⟨⟨cls2,dd2,data2,sl2⟩,ho2,hc2,n2,hd2⟩:=id hb;simp only at hc hd hc2 hd2;subst hc hd hc2 hd2;have e:vs.toArray++ws.toArray=(vs++ws).toArray:=by simp
 by_cases hw:ws= []
 ·exact concat_meets ⟨_,ho,rfl⟩ ⟨_,ho2,rfl⟩ G0C seq_tuple_add V4 U6 (U1 _ _)
   (tuple_addW1 t b vs.toArray ws.toArray n n2 dd dd2 sl sl2 (by simpa using hv) (by simp [hw])) ⟨ho,ho2,h1 hw⟩
 ·refine concat_meets ⟨_,ho,rfl⟩ ⟨_,ho2,rfl⟩ G0C seq_tuple_add V4 U6 (U1 _ _)
   (tuple_addW2 t b vs.toArray ws.toArray n n2 dd dd2 sl sl2 (by simpa using hv) (by simpa using hw) (by rw [P4,P4];exact hsz)) ⟨ho,ho2,?_⟩
  rw [e];exact h2 hw
def sIx (n d:Nat):Option Int->Nat
 |none=>d
 |some v=>if v<0 then (v+(n:Int)).toNat else min v.toNat n
theorem Rc (n d:Nat):sIx n d none=d:=rfl
theorem NJ (n d k:Nat):sIx n d (some (k:Int))=min k n:=by
 show (if (k:Int)<0 then ((k:Int)+(n:Int)).toNat else min (k:Int).toNat n)=min k n;rw [if_neg (by omega),A9]
theorem Fz (n d:Nat)(hd:d<=n)(o:Option Int):sIx n d o<=n:=by
 cases o with
 |none=>exact hd
 |some v=>
  show (if v<0 then (v+(n:Int)).toNat else min v.toNat n)<=n
  by_cases hv:v<0
  ·rw [if_pos hv];omega
  ·rw [if_neg hv];exact I0 _ _
theorem Gz (v:Int)(n d:Nat):(if v<0 then max (v+(n:Int)) 0 else min v (n:Int))=((sIx n d (some v):Nat):Int):=by
 show (if v<0 then max (v+(n:Int)) 0 else min v (n:Int))=(((if v<0 then (v+(n:Int)).toNat else min v.toNat n):Nat):Int)
 by_cases hv:v<0
 ·simp only [if_pos hv];omega
 ·simp only [if_neg hv];omega
theorem Ql (lo hi:Option Int)(n:Nat):Builtin.Slice.sliceAdjust lo hi 1 (n:Int)=(((sIx n 0 lo:Nat):Int),((sIx n n hi:Nat):Int)):=by
 have h1: ¬ ((1:Int)<0):=by omega
 unfold Builtin.Slice.sliceAdjust;simp only [h1,G1c];refine Prod.ext ?_ ?_
 ·cases lo with
  |none=>rfl
  |some v=>exact Gz v n 0
 ·cases hi with
  |none=>rfl
  |some v=>exact Gz v n n
theorem Qm (i j:Nat):Builtin.Slice.slicePlaces (i:Int) (j:Int) 1=j-i:=by
 unfold Builtin.Slice.slicePlaces;have h1:(1:Int)>0:=by omega
 simp only [h1,if_true,Int.ediv_one];split<;>omega
theorem WH {v:Value}{o:Option Int}{Q:Option Int->Shared->Prop}(p:IsPart v o)(h:Q o s):wpAny (model prog w) A (Builtin.Slice.slicePartIndex v) Q E s:=by
 cases p with
 |none=>exact slicePart_none h
 |int i t=>exact slicePart_int h
theorem wY {sl:Addr}{vl vu:Value}{lo hi:Option Int}{n:Nat}{Q:Int×Int×Nat->Shared->Prop}(hs:s.heap.IsSliceOf sl vl vu .none)(pl:IsPart vl lo)(pu:IsPart vu hi)
 (h:Q (((sIx n 0 lo:Nat):Int),1,sIx n n hi-sIx n 0 lo) s):wpAny (model prog w) A (Builtin.Slice.sliceApplied (.ref sl) (pure (n:Int))) Q E s:=by
 obtain⟨os,hos,hcs,hds⟩:=id hs;unfold Builtin.Slice.sliceApplied Builtin.Slice.sliceFields;refine wpAny_bind (wpAny_bind (wpAny_field hos hds (x:=vl) rfl (wpAny_bind (wpAny_field hos hds (x:=vu) rfl (wpAny_bind (wpAny_field hos hds (x:= .none) rfl (P1 ?_)))))));refine wpAny_bind (slicePart_none ?_);show wpAny _ _ (if ((1:Int)==0)=true then _ else _) _ _ s;rw [if_neg (by decide)];refine wpAny_bind (WH pl (wpAny_bind (WH pu (wpAny_bind (P1 ?_)))));show wpAny _ _ (match Builtin.Slice.sliceAdjust lo hi 1 (n:Int) with|(lo,hi)=>pure (lo,(1:Int),Builtin.Slice.slicePlaces lo hi 1)) _ _ s;rw [Ql lo hi n];show wpAny _ _ (pure (((sIx n 0 lo:Nat):Int),(1:Int),Builtin.Slice.slicePlaces ((sIx n 0 lo:Nat):Int) ((sIx n n hi:Nat):Int) 1)) _ _ s;rw [Qm];exact P1 h
theorem Re (xs:Array Value)(i k:Nat):((List.range k).filterMap λ(m:Nat)=>xs[((i:Int)+(m:Int)*1).toNat]?).toArray=((xs.toList.drop i).take k).toArray:=by
 have e:(λ(m:Nat)=>xs[((i:Int)+(m:Int)*1).toNat]?)=λm=>xs[i+m]? :=by
  funext m
  have:((i:Int)+(m:Int)*1).toNat=i+m:=by omega
  rw [this]
 rw [e];have:=pick_run xs i k;rw [List.filterMap_map] at this;have e2:((λx=>xs[x]?)∘λx=>i+x)=λm=>xs[i+m]? :=rfl
 rw [e2] at this;rw [this]
theorem Ja {t sl:Addr}{items:Array Value}{vl vu:Value}{lo hi:Option Int}{Q:Value->Shared->Prop}(ht:IsTup s.heap t items)(hs:s.heap.IsSliceOf sl vl vu .none)(pl:IsPart vl lo)(pu:IsPart vu hi)
 (hw: ¬ (sIx items.size 0 lo=0/\sIx items.size items.size hi=items.size))
 (h:Q (.ref s.heap.objs.size) {s with heap:=s.heap.push {cls:= .type "tuple",data:= .seq ((items.toList.drop (sIx items.size 0 lo)).take (sIx items.size items.size hi-sIx items.size 0 lo)).toArray}})
 (hsz:items.size<=sizeLine):wpAny (model prog w) A (getItem (.ref t) (.ref sl)) Q E s:=by
 have htake:sizeOk (.seq ((items.toList.drop (sIx items.size 0 lo)).take (sIx items.size items.size hi-sIx items.size 0 lo)).toArray):=by
  show ((items.toList.drop (sIx items.size 0 lo)).take (sIx items.size items.size hi-sIx items.size 0 lo)).toArray.size<=sizeLine;rw [P4,R1,S4,T0];omega
 have hj:sIx items.size items.size hi<=items.size:=Fz _ _ (G6 _) hi;obtain⟨os,hos,hcs,hds⟩:=id hs;have hTs:s.TypeIs (.ref sl) "slice" :=⟨os,hos,hcs⟩;unfold getItem
 try with_reducible refine C0 ?_
 first|refine wpAny_bind (P1 ?_)|skip
 refine wpAny_bind (wpAny_sequenceKey ht.typeIs (by decide) ?_);refine wpAny_bind (C4 (name:=Str.ofString "__getitem__") ht.typeIs F4
  (B1 F4 ht.typeIs entry_tuple_getitem ?_ (args_tuple_getitem _ _)))
 show wpAny _ _ (Builtin.Tuple.tupleItemsOf (.ref t) >>= _) _ _ s;refine wpAny_bind (tupleItemsOf_ ht ?_);refine wpAny_bind (wpAny_typeOf hTs ?_);rw [if_pos (by decide)];refine wpAny_bind (wY hs pl pu ?_);have hno: ¬ ((((sIx items.size 0 lo:Nat):Int)==0&&(1:Int)==1&&(sIx items.size items.size hi-sIx items.size 0 lo)==items.size)=true):=by
  intro q;rw [B2,B2] at q;have q1:((sIx items.size 0 lo:Nat):Int)=0:=eq_of_beq q.1.1;have q2:sIx items.size items.size hi-sIx items.size 0 lo=items.size:=eq_of_beq q.2;exact hw ⟨by omega,by omega⟩
 show wpAny _ _ (if (((sIx items.size 0 lo:Nat):Int)==0&&(1:Int)==1&&(sIx items.size items.size hi-sIx items.size 0 lo)==items.size)=true then _ else _) _ _ s;rw [if_neg hno,Re]
 first
  |exact wpAny_bind (m:=Builtin.Tuple.tupleExact _) (A7 (P1 ⟨_,rfl,P1 h⟩) htake)
  |exact wpAny_bind (m:=Builtin.Tuple.tupleExact _) (A7 (wpAny_bind (P1 (P1 ⟨_,rfl,P1 h⟩))) htake)
  |exact wpAny_bind (wpAny_bind (m:=Builtin.Tuple.tupleExact _) (A7 (P1 (P1 ⟨_,rfl,P1 h⟩)) htake))
  |exact wpAny_bind (wpAny_bind (m:=Builtin.Tuple.tupleExact _) (A7 (P1 ⟨_,rfl,P1 h⟩) htake))
end
end HT
namespace L2
open PySem PySem.Spec PyProof.Rows
abbrev TO:=St->Hp->(Option Int->Hp->Prop)->Prop
def PO (X:Cx)(e:Option Expr)(t:TO):Prop:=
 ∀ (pins:List (Addr×Obj)) (s:Shared) (σ:St) (H:Hp) (Q:Option Int->Hp->Prop),Inv X pins σ H s->t σ H Q->
  wpAny (model X.prog X.w) X.A (evalPart e X.env) (λu s'=> ∃o H',Inv X pins σ H' s'/\IsPart u o/\Q o H') X.xe s
def NK:TO:=λ_ H Q=>Q none H
def Ah (t:TE):TO:=λσ H Q=>t σ H λx H1=> ∃i,x= .int i/\Q (some i) H1
section
variable {X:Cx}{e:Expr}{te:TE}{lo hi:Option Expr}{tl th:TO}{pos p2:Pos}
theorem po_none:PO X none NK:=by
 intro pins s σ H Q I h;rw [evalPart_none];exact P1 ⟨none,H,I,.none,h⟩
theorem NL (h:PE X e te):PO X (some e) (Ah te):=by
 intro pins s σ H Q I hw;rw [evalPart_some];refine thn (h pins s σ H _ I hw) λu s1 ⟨x,H1,I1,r1,q1⟩=> ?_
 obtain⟨i,rfl,q⟩:=q1;obtain⟨t,rfl⟩:=r1;exact⟨some i,H1,I1,.int i t,q⟩
def SlR (X:Cx)(r:V->Option Int->Option Int->Hp->VK->Prop):Prop:=
 ∀ (pins:List (Addr×Obj)) (s:Shared) (σ:St) (H:Hp) (x:V) (v vl vu:Value) (lo hi:Option Int) (sl:Addr) (Q:VK),Inv X pins σ H s->RelV x v->s.heap.IsSliceOf sl vl vu .none->IsPart vl lo->IsPart vu hi->r x lo hi H Q->
  ∃T id,typeLookup (.type T) "__getitem__" =pure (some (.builtin id))/\s.TypeIs v T/\wpAny (model X.prog X.w) X.A (getItem v (.ref sl)) (EP X pins σ Q) X.xe s
theorem SlR.or {r r':V->Option Int->Option Int->Hp->VK->Prop}(h:SlR X r)(h':SlR X r'):SlR X (λx lo hi H Q=>r x lo hi H Q\/r' x lo hi H Q):=by
 intro pins s σ H x v vl vu lo hi sl Q I rx hs pl pu q;rcases q with q|q
 ·exact h pins s σ H x v vl vu lo hi sl Q I rx hs pl pu q
 ·exact h' pins s σ H x v vl vu lo hi sl Q I rx hs pl pu q
def tSl (r:V->Option Int->Option Int->Hp->VK->Prop)(te:TE)(tl th:TO):TE:=λσ H Q=>te σ H λx H1=>tl σ H1 λl H2=>th σ H2 λu H3=>r x l u H3 Q
theorem Rf {r:V->Option Int->Option Int->Hp->VK->Prop}(hr:SlR X r)(he:PE X e te)(hl:PO X lo tl)(hu:PO X hi th):PE X (.Subscript e (.Slice lo hi none p2) pos) (tSl r te tl th):=by
 intro pins s σ H Q I h;refine Subscript_ (thn (he pins s σ H _ I h) λv s1 ⟨x,H1,I1,r1,q1⟩=> ?_);refine wpAny_Slice (thn (hl pins s1 σ H1 _ I1 q1) λvl s2 ⟨l,H2,I2,pl,q2⟩=>thn (hu pins s2 σ H2 _ I2 q2) λvu s3 ⟨u,H3,I3,pu,q3⟩=> ?_);rw [evalPart_none];refine P1 ?_;have I4:Inv X pins σ H3 {s3 with heap:=s3.heap.push {cls:= .type "slice",data:= .fields #[vl,vu,.none]}}:=I3.kept (t':=s3.toks) λb ob q=>G3 _ q
 obtain⟨T,id,hT,ht,hg⟩:=hr pins {s3 with heap:=s3.heap.push {cls:= .type "slice",data:= .fields #[vl,vu,.none]}} σ H3 x v vl vu l u s3.heap.objs.size Q I4 r1 (Heap.IsSliceOf.new ..) pl pu q3;show wpAny (model X.prog X.w) X.A (subscriptTail e (.Slice lo hi none p2) v (.ref s3.heap.objs.size)) (EP X pins σ Q) X.xe {s3 with heap:=s3.heap.push {cls:= .type "slice",data:= .fields #[vl,vu,.none]}};exact tail_any (ops:= [.ref s3.heap.objs.size,v]) ht hT hg (by with_unfolding_all rfl)
def DN (xs:List V)(lo hi:Option Int):List V:=(xs.drop (HT.sIx xs.length 0 lo)).take (HT.sIx xs.length xs.length hi-HT.sIx xs.length 0 lo)
theorem Zn (xs:List V)(lo hi:Option Int):(DN xs lo hi).length<=xs.length:=by
 unfold DN;rw [R1,S4];omega
def Sk (K:PySem.W.Frag):V->Option Int->Option Int->Hp->VK->Prop:=λx lo hi H Q=> ∃a xs,x= .ref a/\SqT K H a xs/\
 ¬ (HT.sIx xs.length 0 lo=0/\HT.sIx xs.length xs.length hi=xs.length)/\ ∀p,H p=none->Q (.ref p) (upd H p (.tup (DN xs lo hi)))
theorem sl_tup:SlR X (Sk X.K):=by
 intro pins s σ H x v vl vu lo hi sl Q I rx hs pl pu h;obtain⟨a,xs,rfl,hx,hw,q⟩:=h;cases rx;obtain⟨its,r,ht,hz⟩:=I.tuple hx;have hlen:its.toArray.size=xs.length:=by rw [P4];exact r.length.symm
 refine⟨"tuple",_,PyProof.Rows.slot_tuple_getitem.lookup,ht.typeIs,?_⟩;refine HT.Ja ht hs pl pu (by rw [hlen];exact hw) ?_ (by rw [hlen];exact hz);rw [hlen];refine⟨.ref s.heap.objs.size,_,I.laid (t':=s.toks) (o:= .tup (DN xs lo hi)) (λb ob q=>G3 _ q) (G6 _) ?_,rfl,q _ (I.hok.fresh (G6 _))⟩;exact⟨R6 (Zn xs lo hi) hz,_,(r.drop (HT.sIx xs.length 0 lo)).take (HT.sIx xs.length xs.length hi-HT.sIx xs.length 0 lo),IsTupN.new _ _⟩
def Ai (K:PySem.W.Frag):R2:=λx y H Q=> ∃a b xs ys,x= .ref a/\y= .ref b/\SqT K H a xs/\SqT K H b ys/\xs≠ []/\xs.length+ys.length<=sizeLine/\
 (ys= []->Q (.ref a) H)/\(ys≠ []-> ∀p,H p=none->Q (.ref p) (upd H p (.tup (xs++ys))))
theorem Vals.nil_iff {xs:List V}{us:List Value}(r:Vals xs us):us= []↔xs= []:=by
 cases r with
 |nil=>simp
 |cons _ _=>simp
theorem op_catT:OpR X (binaryOp .Add) (Ai X.K):=by
 intro pins s σ H x y v u Q I rx ry h;obtain⟨a,b,xs,ys,rfl,rfl,ha,hb,hx,hz,q1,q2⟩:=h;cases rx;cases ry;obtain⟨its,r1,p1,_⟩:=I.tuple ha;obtain⟨its2,r2,p2,_⟩:=I.tuple hb;refine HT.NI p1 p2 (λz=>hx (r1.nil_iff.mp z)) (λz=>⟨.ref a,H,I,rfl,q1 (r2.nil_iff.mp z)⟩) (λz=> ?_) (by rw [<-r1.length,<-r2.length];exact hz);refine⟨.ref s.heap.objs.size,_,I.laid (t':=s.toks) (o:= .tup (xs++ys)) (λb ob q=>G3 _ q) (G6 _) ?_,rfl,q2 (λw=>z (r2.nil_iff.mpr w)) _ (I.hok.fresh (G6 _))⟩;exact⟨by rw [G7];exact hz,_,r1.append r2,IsTupN.new _ _⟩
end
def ixN (n:Nat)(i:Int):Option Nat:=if 0<=i then (if i<n then some i.toNat else none) else if-(n:Int)<=i then some (i+n).toNat else none
def atI {α:Type}(xs:List α)(i:Int):Option α:=(ixN xs.length i).bind λj=>xs[j]?
theorem GA {n:Nat}{i:Int}{j:Nat}(h:ixN n i=some j):seqIndex? i n=some j/\j<n/\ -(n:Int)<=i/\i<n:=by
 unfold ixN at h
 by_cases h0:0<=i
 ·rw [if_pos h0] at h
  by_cases h1:i<n
  ·rw [if_pos h1] at h;have e:i.toNat=j:=M7 h;exact⟨by rw [seqIndex_of h0 h1,e],by omega,by omega,h1⟩
  ·rw [if_neg h1] at h;cases h
 ·rw [if_neg h0] at h
  by_cases h1: -(n:Int)<=i
  ·rw [if_pos h1] at h;have e:(i+n).toNat=j:=M7 h;exact⟨by rw [seqIndex_neg (by omega) h1,e],by omega,h1,by omega⟩
  ·rw [if_neg h1] at h;cases h
theorem Us {α:Type}{xs:List α}{i:Int}{v:α}(h:atI xs i=some v): ∃j,seqIndex? i xs.length=some j/\xs[j]? =some v/\j<xs.length/\ -(xs.length:Int)<=i/\i<xs.length:=by
 unfold atI at h;cases e:ixN xs.length i with
 |none=>rw [e] at h;cases h
 |some j=>
  rw [e] at h;obtain⟨h1,h2,h3,h4⟩:=GA e;exact⟨j,h1,h,h2,h3,h4⟩
theorem wu {α:Type}{xs:List α}{j:Nat}{v:α}(h:xs[j]? =some v):atI xs (j:Int)=some v:=by
 have hj:j<xs.length:=(G5.mp h).1;have e:ixN xs.length (j:Int)=some j:=by
  unfold ixN;rw [if_pos (by omega),if_pos (by omega)];simp
 unfold atI;rw [e];exact h
def Yk (b:Expr):Prop:= ∀o i,subscripted b false o i=operate [o,i] (getItem o i)
def IxR (X:Cx)(r:R2):Prop:=
 ∀ (value slice:Expr) (pins:List (Addr×Obj)) (s:Shared) (σ:St) (H:Hp) (x y:V) (v u:Value) (Q:VK),Inv X pins σ H s->RelV x v->RelV y u->r x y H Q->
  subscripted slice false v u=operate [v,u] (getItem v u)->wpAny (model X.prog X.w) X.A (subscriptTail value slice v u) (EP X pins σ Q) X.xe s
def MtR (X:Cx)(id:String)(r:V->List V->Hp->VK->Prop):Prop:=
 ∀ (pins:List (Addr×Obj)) (s:Shared) (σ:St) (H:Hp) (x:V) (xs:List V) (v:Value) (us:List Value) (Q:VK),Inv X pins σ H s->RelV x v->Vals xs us->r x xs H Q->
  wpAny (model X.prog X.w) X.A (call (.builtin id) (v::us)) (EP X pins σ Q) X.xe s
section
variable {X:Cx}{a b:Expr}{ta tb:TE}{pos:Pos}
theorem IxR.or {r r':R2}(h:IxR X r)(h':IxR X r'):IxR X (λx y H Q=>r x y H Q\/r' x y H Q):=by
 intro value slice pins s σ H x y v u Q I rx ry q hs;rcases q with q|q
 ·exact h value slice pins s σ H x y v u Q I rx ry q hs
 ·exact h' value slice pins s σ H x y v u Q I rx ry q hs
theorem Aj {r:R2}(hr:IxR X r)(ha:PE X a ta)(hb:PE X b tb)(hs:Yk b):PE X (.Subscript a b pos) (tOp r ta tb):=by
 intro pins s σ H Q I h;exact Subscript_ (OZ ha hb I h λv u s2 x y H2 I2 rx ry q=>hr a b pins s2 σ H2 x y v u Q I2 rx ry q (hs _ _))
def EG (K:PySem.W.Frag):R2:=λx y H Q=> ∃p xs i v,x= .ref p/\y= .int i/\SqL K H p xs/\atI xs i=some v/\Q v H
def EH (K:PySem.W.Frag):R2:=λx y H Q=> ∃p xs i v,x= .ref p/\y= .int i/\SqT K H p xs/\atI xs i=some v/\Q v H
def EI:R2:=λx y H Q=> ∃z i c,x= .str z/\y= .int i/\z.length<=sizeLine/\atI z.cps.toList i=some c/\Q (.str ⟨#[c]⟩) H
theorem ix_list:IxR X (EG X.K):=by
 intro value slice pins s σ H x y v u Q I rx ry h hs;obtain⟨p,xs,i,z,rfl,rfl,hq,he,q⟩:=h;cases rx;obtain⟨t,rfl⟩:=ry;obtain⟨its,r,pl,hz⟩:=I.list hq;obtain⟨j,h1,h2,h3,h4,h5⟩:=Us he;obtain⟨w,ew,rw'⟩:=r.get h2;have hl:=r.length;have hn:=Vc;have fin:EP X pins σ Q w s:=⟨z,H,I,rw',q⟩
 by_cases h0:0<=i
 ·have hj:i.toNat=j:=by
   rw [seqIndex_of h0 h5] at h1;exact M7 h1
  exact item_listR pl.isList h0 (by omega) (by rw [hj];simpa using ew) fin hs
 ·have hj:(i+(its.toArray.size:Int)).toNat=j:=by
   rw [seqIndex_neg (by omega) h4] at h1;rw [P4,<-hl];exact M7 h1
  exact subscriptTail_builtinR (x:=w) pl.isList.typeIs slot_list_getitem.lookup
   (wpAny_getItem_list_neg (Q:=λr s'=>r=w/\EP X pins σ Q r s') pl.isList (by omega) (by rw [P4]<;>omega) (by omega) (by rw [hj];simpa using ew) ⟨rfl,fin⟩) hs
theorem ix_tup:IxR X (EH X.K):=by
 intro value slice pins s σ H x y v u Q I rx ry h hs;obtain⟨p,xs,i,z,rfl,rfl,hq,he,q⟩:=h;cases rx;obtain⟨t,rfl⟩:=ry;obtain⟨its,r,pl,hz⟩:=I.tuple hq;obtain⟨j,h1,h2,h3,h4,h5⟩:=Us he;obtain⟨w,ew,rw'⟩:=r.get h2;have hl:=r.length;have hn:=Vc;have fin:EP X pins σ Q w s:=⟨z,H,I,rw',q⟩;exact subscriptTail_builtinR (x:=w) pl.typeIs slot_tuple_getitem.lookup
  (getItem_tuple (j:=j) (Q:=λr s'=>r=w/\EP X pins σ Q r s') pl (by omega) (by omega) (by rw [P4,<-hl];exact h1) (by simpa using ew) ⟨rfl,fin⟩) hs
theorem FA:IxR X EI:=by
 intro value slice pins s σ H x y v u Q I rx ry h hs;obtain⟨z,i,c,rfl,rfl,hz,he,q⟩:=h;obtain⟨t,rfl⟩:=rx;obtain⟨t',rfl⟩:=ry;obtain⟨j,h1,h2,h3,h4,h5⟩:=Us he;have hl:z.cps.toList.length=z.length:=by simp [Str.length]
 rw [hl] at h1 h4 h5;have hn:=Vc;exact tail_any (typeIs_str s z t) slot_str_getitem.lookup (getItem_str (c:=c) (by
  have e1:decide (i< -(2^63:Int))=false:=S6 (by omega);have e2:decide (i>=2^63)=false:=S6 (by omega);rw [e1,e2,Bool.or_false]) (by rw [h1];simpa using h2) ⟨.str ⟨#[c]⟩,H,I.tok _,⟨_,rfl⟩,q⟩) hs
def rIx (K:PySem.W.Frag):R2:=λx y H Q=>EG K x y H Q\/EH K x y H Q\/EI x y H Q
theorem FB:IxR X (rIx X.K):=ix_list.or (ix_tup.or FA)
theorem Qn (its:List Value)(n j:Nat)(u:Value):Obj.mapSeq (·.setIfInBounds j u) {cls:= .type "list",data:= .seq its.toArray n}= {cls:= .type "list",data:= .seq (its.set j u).toArray n}:=by
 simp [Obj.mapSeq]
theorem Inv.lst {pins:List (Addr×Obj)}{σ:St}{H:Hp}{s:Shared}{p:Addr}{xs:List V}(I:Inv X pins σ H s)(h:H p=some (.lst xs)):
 ∃ (its:List Value) (n:Nat),Vals xs its/\s.heap.get? p=some {cls:= .type "list",data:= .seq its.toArray n}/\xs.length<=sizeLine:=by
 obtain⟨z,its,n,r,e⟩:=I.hok p _ h;exact⟨its,n,r,e,z⟩
theorem Inv.lstUpd {pins:List (Addr×Obj)}{σ:St}{H:Hp}{s:Shared}{p:Addr}{xs ys:List V}{its its':List Value}{n n':Nat}{f:Obj->Obj}(I:Inv X pins σ H s)(h:H p=some (.lst xs))
 (ho:s.heap.get? p=some {cls:= .type "list",data:= .seq its.toArray n})(hf:f {cls:= .type "list",data:= .seq its.toArray n}= {cls:= .type "list",data:= .seq its'.toArray n'})(r:Vals ys its')(hz:ys.length<=sizeLine)(t:Nat):
 Inv X pins σ (upd H p (.lst ys)) {s with heap:=s.heap.update p f,toks:=t}:=by
 have e:(s.heap.update p f).get? p=some {cls:= .type "list",data:= .seq its'.toArray n'}:=by
  rw [J7 f ho (by rw [hf]<;>rfl),hf]
 refine I.write (x:=p) (e:=p) (by rw [h];trivial) (.inl rfl) (λb u hb q=>(Heap.get?_update_other _ _ (Ne.symm hb)).trans q) ⟨_,e⟩ ?_;exact⟨hz,its',n',r,e⟩
def Ak:V->V->V->Hp->(Hp->Prop)->Prop:=λo i v H Q=> ∃p xs k j,o= .ref p/\i= .int k/\H p=some (.lst xs)/\ixN xs.length k=some j/\Q (upd H p (.lst (xs.set j v)))
theorem Rg:Ew X Ak:=by
 intro pins s σ H o i v ov iv u Q I ro ri rv h;obtain⟨p,xs,k,j,rfl,rfl,hp,hj,q⟩:=h;cases ro;obtain⟨t,rfl⟩:=ri;obtain⟨its,n,r,ho,hz⟩:=I.lst hp;obtain⟨h1,h2,h3,h4⟩:=GA hj;have hl:=r.length;have hn:=Vc;have I':Inv X pins σ (upd H p (.lst (xs.set j v))) {s with heap:=s.heap.update p (Obj.mapSeq (·.setIfInBounds j u))}:=
  I.lstUpd hp ho (Qn its n j u) (r.set rv j) (by rw [List.length_set];exact hz) s.toks
 by_cases h0:0<=k
 ·have hk:k.toNat=j:=by
   rw [seqIndex_of h0 h4] at h1;exact M7 h1
  exact PySem.W.ki_setAt ho h0 (by omega) (by rw [P4,<-hl];exact h4) (by rw [hk];exact⟨_,I',q⟩)
 ·have hk:(k+(its.toArray.size:Int)).toNat=j:=by
   rw [seqIndex_neg (by omega) h3] at h1;rw [P4,<-hl];exact M7 h1
  exact PySem.W.ki_setBack ho (by omega) (by rw [P4,<-hl];exact h3) (by omega) (by rw [hk];exact⟨_,I',q⟩)
theorem Vh (lo hi:Option Int)(n:Nat):(sliceBounds lo hi none n).1=((HT.sIx n 0 lo:Nat):Int)/\(sliceBounds lo hi none n).2.1=((HT.sIx n n hi:Nat):Int)/\(sliceBounds lo hi none n).2.2=1:=by
 refine⟨?_,?_,rfl⟩
 ·cases lo with
  |none=>simp [sliceBounds,HT.sIx]
  |some i=>
   simp only [sliceBounds,HT.sIx,Option.getD_none,show (1:Int)>0 by decide,if_true]
   by_cases h:i<0
   ·simp only [h,if_true]<;>omega
   ·simp only [h,G1c]<;>omega
 ·cases hi with
  |none=>simp [sliceBounds,HT.sIx]
  |some i=>
   simp only [sliceBounds,HT.sIx,Option.getD_none,show (1:Int)>0 by decide,if_true]
   by_cases h:i<0
   ·simp only [h,if_true]<;>omega
   ·simp only [h,G1c]<;>omega
theorem Yl (its:List Value)(lo hi:Option Int):slicePick its.toArray lo hi none=((its.drop (HT.sIx its.length 0 lo)).take (HT.sIx its.length its.length hi-HT.sIx its.length 0 lo)).toArray:=by
 obtain⟨h1,h2,h3⟩:=Vh lo hi its.toArray.size;unfold slicePick;rw [h1,h2,h3];simp only [sliceRange_one,pick_run,P4]<;>rfl
def Sl (K:PySem.W.Frag):V->Option Int->Option Int->Hp->VK->Prop:=λx lo hi H Q=> ∃a xs,x= .ref a/\SqL K H a xs/\ ∀p,H p=none->Q (.ref p) (upd H p (.lst (DN xs lo hi)))
theorem NM:SlR X (Sl X.K):=by
 intro pins s σ H x v vl vu lo hi sl Q I rx hs pl pu h;obtain⟨a,xs,rfl,hx,q⟩:=h;cases rx;obtain⟨its,r,ht,hz⟩:=I.list hx;have hlen:=r.length;refine⟨"list",_,slot_list_getitem.lookup,ht.isList.typeIs,?_⟩;refine wpAny_getItem_list_slice ht.isList hs pl pu .none (by simp) ?_ (by rw [P4]<;>omega);rw [Yl,<-hlen];refine⟨.ref s.heap.objs.size,_,I.laid (t':=s.toks) (o:= .lst (DN xs lo hi)) (λb ob q=>G3 _ q) (G6 _) ?_,rfl,q _ (I.hok.fresh (G6 _))⟩;exact⟨R6 (Zn xs lo hi) hz,_,0,(r.drop (HT.sIx xs.length 0 lo)).take (HT.sIx xs.length xs.length hi-HT.sIx xs.length 0 lo),D9 _ rfl⟩
theorem call_len_seq:CallR X (.builtin "len") (λxs H Q=> ∃p ys,xs= [.ref p]/\(SqL X.K H p ys\/SqT X.K H p ys)/\Q (.int ys.length) H):=by
 intro pins s σ H xs us Q I r h;obtain⟨p,ys,rfl,hq,q⟩:=h;obtain⟨u,rfl,rx⟩:=yF r;cases rx;have hn:=Vc;rcases hq with hq|hq
 ·obtain⟨its,r',pl,hz⟩:=I.list hq;have hlen:=r'.length;exact Calls.call_len_list pl.isList (by simp only [P4]<;>omega) ⟨.int ys.length,H,I.tok _,⟨s.toks+1,by rw [P4,hlen]⟩,q⟩
 ·obtain⟨its,r',pl,hz⟩:=I.tuple hq;have hlen:=r'.length;exact len_tuple pl (by simp only [P4]<;>omega) ⟨.int ys.length,H,I.tok _,⟨s.toks+1,by rw [P4,hlen]⟩,q⟩
theorem call_list_of:CallR X (.type "list") (λxs H Q=> ∃p ys,xs= [.ref p]/\(SqL X.K H p ys\/SqT X.K H p ys)/\ ∀l,H l=none->Q (.ref l) (upd H l (.lst ys))):=by
 intro pins s σ H xs us Q I r h;obtain⟨p,ys,rfl,hq,q⟩:=h;obtain⟨u,rfl,rx⟩:=yF r;cases rx;have fin: ∀ (its:List Value),Vals ys its->ys.length<=sizeLine-> ∀ (h':Heap) (c':Nat),(∀b o',s.heap.get? b=some o'->h'.get? b=some o')->
  h'.get? s.heap.objs.size=some {cls:= .type "list",dict:=none,data:= .seq its.toArray c',slots:= #[]}->EP X pins σ Q (.ref s.heap.objs.size) {s with heap:=h'}:=λits r' hz h' c' kp e=>
  ⟨.ref s.heap.objs.size,_,I.laid (t':=s.toks) kp (G6 _) (show ObjOk X.prog X.w _ h' _ (.lst ys) from ⟨hz,its,c',r',e⟩),rfl,q _ (I.hok.fresh (G6 _))⟩
 rcases hq with hq|hq
 ·obtain⟨its,r',pl,hz⟩:=I.list hq;have hlen:=r'.length;obtain⟨o,ho,hc,n,hd⟩:=pl.isList;exact call_list_seq p (.inl rfl) ho hc hd (λh' c' kp e=>fin its r' hz h' c' kp e) (by simp only [P4]<;>omega)
 ·obtain⟨its,r',pl,hz⟩:=I.tuple hq;have hlen:=r'.length;obtain⟨o,ho,hc,n,hd⟩:=pl;exact call_list_seq p (.inr rfl) ho hc hd (λh' c' kp e=>fin its r' hz h' c' kp e) (by simp only [P4]<;>omega)
theorem call_tuple_of:CallR X (.type "tuple") (λxs H Q=> ∃p ys,xs= [.ref p]/\((SqL X.K H p ys/\ ∀l,H l=none->Q (.ref l) (upd H l (.tup ys)))\/(SqT X.K H p ys/\Q (.ref p) H))):=by
 intro pins s σ H xs us Q I r h;obtain⟨p,ys,rfl,h⟩:=h;obtain⟨u,rfl,rx⟩:=yF r;cases rx;rcases h with ⟨hq,q⟩|⟨hq,q⟩
 ·obtain⟨its,r',pl,hz⟩:=I.list hq;have hlen:=r'.length;refine call_tuple_list pl.isList (λh' kp=> ?_) (by simp only [P4]<;>omega);have I1:Inv X pins σ H {s with heap:=h'}:=I.kept (t':=s.toks) kp;have I2:Inv X pins σ (upd H h'.objs.size (.tup ys)) {s with heap:=h'.push {cls:= .type "tuple",data:= .seq its.toArray}}:=
   I1.laid (t':=s.toks) (λb o e=>G3 _ e) (G6 _) (show ObjOk X.prog X.w _ _ _ (.tup ys) from ⟨hz,its,r',IsTupN.new _ _⟩)
  exact⟨.ref h'.objs.size,_,I2,rfl,q _ (I1.hok.fresh (G6 _))⟩
 ·obtain⟨its,r',pl,hz⟩:=I.tuple hq;exact call_tuple_same pl ⟨.ref p,H,I,rfl,q⟩
def tyV (K:PySem.W.Frag)(T:String)(x:V)(H:Hp):Prop:=match x with
 | .str _=>T= "str"
 | .int _=>T= "int"
 | .ref p=>(T= "list" /\ ∃xs,SqL K H p xs)\/(T= "tuple" /\ ∃o,K.lookup p=some o/\o.cls= .type "tuple" /\o.dict=none)\/
  (T= "dict" /\((∃kvs,H p=some (.dK kvs))\/ ∃kvs,H p=some (.dT kvs)))\/(T= "set" /\ ∃S n,H p=some (.set S n))
 |_=>False
theorem FC {pins:List (Addr×Obj)}{σ:St}{H:Hp}{s:Shared}{T:String}{x:V}{v:Value}(I:Inv X pins σ H s)(r:RelV x v)(ty:tyV X.K T x H):
 s.TypeIs v T/\ ∀a,v= .ref a-> ∃ob,s.heap.get? a=some ob/\ob.dict=none:=by
 cases x with
 |str z=>
  obtain⟨t,rfl⟩:=r;cases (show T= "str" from ty);exact⟨typeIs_str s z t,λ_ e=>nomatch e⟩
 |int i=>
  obtain⟨t,rfl⟩:=r;cases (show T= "int" from ty);exact⟨G0V s i t,λ_ e=>nomatch e⟩
 |ref p=>
  cases r;rcases ty with ⟨rfl,xs,hq⟩|⟨rfl,o,hk,hc,hd⟩|⟨rfl,hk⟩|⟨rfl,S,n,hk⟩
  ·obtain⟨its,_,pl,_⟩:=I.list hq;refine⟨pl.isList.typeIs,λa e=> ?_⟩;cases e;obtain⟨o,n,e,c,hd,_⟩:=pl;exact⟨o,e,hd⟩
  ·refine⟨⟨o,I.kIn p o hk,hc⟩,λa e=> ?_⟩;cases e;exact⟨o,I.kIn _ o hk,hd⟩
  ·have z: ∃o,s.heap.get? p=some o/\o.ExactDict:=by
    rcases hk with ⟨kvs,hk⟩|⟨kvs,hk⟩
    ·obtain⟨_,_,_,_,o,_,_,e,ex,_⟩:=I.hok p _ hk;exact⟨o,e,ex⟩
    ·obtain⟨_,_,_,_,o,_,_,e,ex,_⟩:=I.hok p _ hk;exact⟨o,e,ex⟩
   obtain⟨o,e,ex⟩:=z;refine⟨⟨o,e,ex.1⟩,λa e2=> ?_⟩;cases e2;exact⟨o,e,ex.2.1⟩
  ·obtain⟨o,_,_,_,e,ex,_⟩:=I.hok p _ hk;refine⟨⟨o,e,ex.1⟩,λa e2=> ?_⟩;cases e2;exact⟨o,e,ex.2.1⟩
 |_=>exact False.elim ty
def tBM (K:PySem.W.Frag)(T:String)(r:V->List V->Hp->VK->Prop)(to:TE)(t:TA):TE:=λσ H Q=>to σ H λx H1=>tyV K T x H1/\t σ H1 λxs H2=>r x xs H2 Q
variable {o e:Expr}{es:List Expr}{to:TE}{t:TA}{name:Str}{apos cpos:Pos}{T id:String}{r:V->List V->Hp->VK->Prop}
theorem Rh (pa:PlainAttrs T)(slot:Slot T name id)(hty:typeOf (.builtin id)=pure (.type "method_descriptor"))(hm:MtR X id r)(ho:PE X o to)(ha:PA X (e::es) t)
 (hbase:attributeBase o name X.env (eval o X.env)=eval o X.env:=by rfl)
 (hfew:((backTo cpos (starEach (e::es) X.env)).all (λx=> !x.1)&&(backToKw cpos (keywordEach [] X.env)).all (λx=>x.1.isSome)
  &&decide ((e::es).length+([]:List Keyword).length+(if ([]:List Keyword).isEmpty then 0 else 1)<30))=true:=by rfl)
 (hline:(apos.endLine==cpos.line)=true:=by rfl)(hs:starEach (e::es) X.env=(false,eval e X.env)::starEach es X.env:=by rfl)(hplain:(backTo cpos (starEach es X.env)).any (·.1)=false:=by rfl):
 PE X (.Call (.Attribute o name apos) (e::es) [] cpos) (tBM X.K T r to t):=by
 intro pins s σ H Q I h;refine wpAny_Call_method_late hbase hfew hline rfl (thn (ho pins s σ H _ I h) λv s1 ⟨x,H1,I1,r1,ty,q1⟩=> ?_);obtain⟨h1,h2⟩:=FC I1 r1 ty;refine⟨T,id,pa,slot,hty,h1,h2,?_⟩;have hA:=ha cpos pins s1 σ H1 _ I1 q1;rw [hs] at hA ⊢;refine Calls.callWith_builtin (by show (false||(backTo cpos (starEach es X.env)).any (·.1))=false;rw [hplain]<;>rfl) (Calls.evalArgs_plain ?_);exact thn hA λus s2 ⟨vs,H2,I2,r2,q2⟩=>hm pins s2 σ H2 x vs v us Q I2 r1 r2 q2
end
def MtM (X:Cx)(id:String)(r:V->List V->Hp->VK->Prop):Prop:=
 ∀ (pins:List (Addr×Obj)) (s:Shared) (σ:St) (H:Hp) (x:V) (xs:List V) (v:Value) (us:List Value) (Q:VK),Inv X pins σ H s->RelV x v->Vals xs us->r x xs H Q->
  wpAny (model X.prog X.w) X.A (call (.builtin id) (v::us)) (EP X pins σ Q) X.xe s
theorem Vals.one: ∀ {x:V} {us:List Value},Vals [x] us-> ∃u,us= [u]/\RelV x u
 |_,_,.cons r .nil=>⟨_,rfl,r⟩
theorem Vals.eraseIdx: ∀ {xs:List V} {us:List Value} (i:Nat),Vals xs us->Vals (xs.eraseIdx i) (us.eraseIdx i)
 |_,_,_,.nil=> .nil
 |_,_,0,.cons _ t=>t
 |_,_,i+1,.cons r t=> .cons r (Vals.eraseIdx i t)
theorem Vals.rep {xs:List V}{us:List Value}(h:Vals xs us): ∀k:Nat,Vals (List.replicate k xs).flatten (List.replicate k us).flatten
 |0=> .nil
 |k+1=>by
  rw [F5,F5,E1,E1];exact Vals.append h (Vals.rep h k)
theorem Zo (its:List Value): ∀ (k:Nat) (acc:List Value),
 List.foldl (λx1 x2=>x1++x2) acc.toArray (List.replicate k its.toArray)=(acc++(List.replicate k its).flatten).toArray
 |0,acc=>by simp
 |k+1,acc=>by
  have e:acc.toArray++its.toArray=(acc++its).toArray:=by simp
  have e2:(acc++its)++(List.replicate k its).flatten=acc++(List.replicate (k+1) its).flatten:=by
   rw [F5,E1,G8]
  rw [<-e2,<-Zo its k (acc++its),<-e,F5,List.foldl_cons]
section
variable {X:Cx}{pins:List (Addr×Obj)}{σ:St}{H:Hp}{s:Shared}{l b:Addr}{xs ys zs:List V}
theorem Inv.lset {its its':List Value}{n:Nat}{f:Array Value->Array Value}{t':Nat}(I:Inv X pins σ H s)(hH:H l=some (.lst xs))
 (e:s.heap.get? l=some {cls:= .type "list",data:= .seq its.toArray n})(hf:f its.toArray=its'.toArray)(hv:Vals ys its')(hz:ys.length<=sizeLine):
 Inv X pins σ (upd H l (.lst ys)) {s with heap:=s.heap.update l (Obj.mapSeq f),toks:=t'}:=by
 have q:=PySem.IsL.update e f;rw [hf] at q;refine I.write (x:=l) (e:=l) (by rw [hH];exact trivial) (.inl rfl) (λb' u hb hu=>(Heap.get?_update_other s.heap (Obj.mapSeq f) (Ne.symm hb)).trans hu) ⟨_,q⟩ ?_;exact⟨hz,its',_,hv,q⟩
theorem Inv.lnew {its:List Value}{t':Nat}(I:Inv X pins σ H s)(hv:Vals ys its)(hz:ys.length<=sizeLine):
 Inv X pins σ (upd H s.heap.objs.size (.lst ys)) {s with heap:=s.heap.push {cls:= .type "list",data:= .seq its.toArray},toks:=t'}:=
 I.laid (λ_ _ q=>G3 _ q) (G6 _) ⟨hz,its,0,hv,D9 _ rfl⟩
theorem Inv.fresh (I:Inv X pins σ H s):H s.heap.objs.size=none:=I.hok.fresh (G6 _)
theorem Inv.lstM (I:Inv X pins σ H s)(hH:H l=some (.lst xs)):xs.length<=sizeLine/\ ∃ (its:List Value) (n:Nat),Vals xs its/\xs.length=its.length/\s.heap.get? l=some {cls:= .type "list",data:= .seq its.toArray n}:=by
 obtain⟨z,its,n,r,e⟩:=I.hok l _ hH;exact⟨z,its,n,r,r.length,e⟩
theorem Ri {n:Nat}(h:n<=sizeLine):Builtin.List.listTooLong n=false:=by
 unfold Builtin.List.listTooLong;exact S6 (by omega)
end
section
variable {X:Cx}
def NN:V->List V->Hp->VK->Prop:=λx vs H Q=> ∃l xs y,x= .ref l/\vs= [y]/\H l=some (.lst xs)/\xs.length<sizeLine/\Q .non (upd H l (.lst (xs++ [y])))
theorem GC:MtM X "list.append" NN:=by
 intro pins s σ H x vs v us Q I rx rv h;obtain⟨l,xs,y,rfl,rfl,hH,hz,q⟩:=h;cases rx;obtain⟨u,rfl,ru⟩:=rv.one;obtain⟨z,its,n,r,hl,e⟩:=I.lstM hH;refine X6 F.slot_list_append ⟨_,e,rfl⟩ F.entry_list_append (F.args_list_append_2 _ _) (PySem.list_append l its.toArray n u (by rw [P4];omega)) ⟨e,?_⟩;refine⟨.non,_,I.lset (its':=its++ [u]) hH e (by simp) (r.append (.cons ru .nil)) ?_,rfl,q⟩;rw [G7,B9];omega
def Sm:R2:=λx y H Q=> ∃l b xs zs,x= .ref l/\y= .ref b/\H l=some (.lst xs)/\H b=some (.lst zs)/\xs.length+zs.length<=sizeLine/\ ∀p,H p=none->Q (.ref p) (upd H p (.lst (xs++zs)))
theorem FD:OpR X (binaryOp .Add) Sm:=by
 intro pins s σ H x y v u Q I rx ry h;obtain⟨l,b,xs,zs,rfl,rfl,hH,hB,hz,q⟩:=h;cases rx;cases ry;obtain⟨z,its,n,r,hl,e⟩:=I.lstM hH;obtain⟨z2,its2,n2,r2,hl2,e2⟩:=I.lstM hB;refine PySem.P.add_list e e2 ?_ (by rw [P4,P4];omega);have ea:its.toArray++its2.toArray=(its++its2).toArray:=by simp
 rw [ea];exact⟨.ref _,_,I.lnew (t':=s.toks) (r.append r2) (by rw [G7];omega),rfl,q _ I.fresh⟩
def Sn:R2:=λx y H Q=> ∃l k xs,x= .ref l/\y= .int k/\H l=some (.lst xs)/\ -(2^63)<=k/\k<2^63/\xs.length*k.toNat<=sizeLine/\
 ∀p,H p=none->Q (.ref p) (upd H p (.lst (List.replicate k.toNat xs).flatten))
theorem Ut {α:Type}(xs:List α)(k:Nat):(List.replicate k xs).flatten.length=k*xs.length:=by
 induction k with
 |zero=>simp
 |succ k ih=>rw [F5,E1,G7,ih,G0b,G1f]
theorem FE:OpR X (binaryOp .Mult) Sn:=by
 intro pins s σ H x y v u Q I rx ry h;obtain⟨l,k,xs,rfl,rfl,hH,h1,h2,hz,q⟩:=h;cases rx;obtain⟨t,rfl⟩:=ry;obtain⟨z,its,n,r,hl,e⟩:=I.lstM hH;have hlen:its.toArray.size*k.toNat<=sizeLine:=by rw [P4,<-hl];exact hz
 have hcap: ¬its.toArray.size*k.toNat>(2^63-1) / 8:=by
  have:(sizeLine:Nat)<=(2^63-1) / 8:=by decide
  omega
 have hfit: ¬ (!Builtin.List.listFitsIndex k)=true:=by
  rw [fitsIndex_both h1 h2];exact P5
 have hlong: ¬Builtin.List.listTooLong (its.toArray.size*k.toNat)=true:=by
  rw [Ri hlen];exact P5
 have hnew:List.foldl (λx1 x2=>x1++x2) #[] (List.replicate (if its.toArray.isEmpty=true then 0 else k.toNat) its.toArray)=(List.replicate k.toNat its).flatten.toArray:=by
  have f0: ∀m:Nat,List.foldl (λx1 x2=>x1++x2) #[] (List.replicate m its.toArray)=(List.replicate m its).flatten.toArray:=λm=>by
   have:=Zo its m [];rw [N6] at this;exact this
  rw [f0];cases its with
  |nil=>simp
  |cons a r'=>rw [if_neg (by simp)]
 refine G0g (T:= "list") (U:= "int") (by decide) ⟨_,e,rfl⟩ (λs'=>G0V s' k t) noFill_list_mul F.fills_int_mul X9 repeat_list F.slot_int_index.lookup
  (X6 X9 (G0V s k t) F.entry_int_rmul (F.args_int_rmul_2 _ _) (int___rmul___int_list k t l its.toArray n)
   ⟨e,rfl,⟨_,e,rfl⟩,X6 F.slot_list_mul ⟨_,e,rfl⟩ F.entry_list_mul (F.args_list_mul_2 _ _) (AutoListH.list___mul___list_int_3 l its.toArray n k t hfit hcap hlong) ⟨e,?_⟩⟩)
 rw [hnew];exact⟨.ref _,_,I.lnew (t':=s.toks) (r.rep k.toNat) (by rw [Ut,G1g];exact hz),rfl,q _ I.fresh⟩
end
end L2
namespace Att
open PySem PySem.W PySem.Calls PyProof.Rows
theorem Zp {P:Params}{h:Heap}: ∀ (ns:List Int) (vs:List Value),WellAll P h vs (ns.map WData.int)->IntsAre vs ns:=by
 intro ns
 induction ns with
 |nil=>
  intro vs w;rw [J8] at w;cases w;exact .nil
 |cons n ns ih=>
  intro vs w;rw [M8] at w;cases w with
  |cons a b=>
   cases a;exact .cons _ _ (ih _ b)
theorem GD {l:OpenLaw}{n:Nat}(hn:l.most=some n){P:Params}{h:Heap}{args:List WData}{vals:List Value}
 (hpre:l.row.toRowW.claim.pre args=true)(hwl:WellAll P h vals args):
 ∃a vs ns,vals= [Value.ref a]/\args= [WData.list (ns.map WData.int)]/\h.get? a=some {cls:= .type "list",data:= .seq vs.toArray}/\IntsAre vs ns/\ns.length<=n:=by
 have hsh:WShape.hasAll [] args [.list .int]=true:=(pre_splitW hpre).1;have hc:l.pre.holds [] {args:=args}=true:=(pre_splitW hpre).2;obtain⟨d,r,rfl,h1,h2⟩:=hasAllW_cons hsh;obtain rfl:=hasAllW_nil h2;obtain⟨xs,rfl,h3⟩:=hasW_list h1;obtain⟨ns,rfl⟩:=items_int h3;have hlen:ns.length<=n:=by
  unfold OpenLaw.pre at hc;have h4:(WTm.not (.lt (.lit (.int (n:Int))) (.len (.arg 0)))).holds [] {args:= [.list (ns.map .int)]}=true:=by
   have h4:=(holds_andW hc).1;rw [hn] at h4;exact h4
  have h5:=condW_of h4 (w_not (w_lt w_lit (w_len_list (w_arg rfl))));rw [G0] at h5;refine G0D λq=> ?_
  have q':(n:Int)<((ns.length:Nat):Int):=by omega
  first
   |(rw [P7 q'] at h5;exact absurd h5 (by decide))
   |(simp at h5;omega)
 cases hwl with
 |cons w1 w2=>
  cases w2;cases w1 with
  |list ho hall=>exact⟨_,_,ns,rfl,rfl,ho,Zp ns _ hall,hlen⟩
theorem GE (l:OpenLaw)(args:List WData):l.row.toRowW.claim.post args (.bool true) args=true:=
 postW_of (r:=l.row.toRowW) (X:=(true==true))
  (show WShape.has [] (.bool true) .bool=true by first|rfl|decide|simp [WShape.has,WShape.arms,WShape.armsAll])
  (show (WTm.eq .res (.lit (.bool true))).value [] {args:=args,res:=some (.bool true),after:=args}=some (.bool (true==true)) from w_eq_bool (w_res rfl) w_lit) rfl
theorem attach_call {l:OpenLaw}{n:Nat}{q:Program}{loose:List Str}{XP:(Str->Option Value)->Heap->Prop}{YP:World->Heap->Prop}{d:DefRec}
 (hn:l.most=some n)(hdf:d.params.defaults= [])
 (call: ∀ (w:World) (s₀ s₁:Shared) (mg mb:Str->Option Value) (fa:Addr) (o:Obj) (pm cd doc:Value) (a:Addr) (vs:List Value) (ns:List Int),
  Ground q loose [] XP w s₀ mg mb s₁.heap->YP w s₁.heap->
  s₁.heap.get? fa=some o->o.data= .func (docDef d.name d.params d.body d.scope pm cd doc)->s₁.heap.CodeRec cd d.name->mg d.name=some (.ref fa)->
  s₁.heap.get? a=some {cls:= .type "list",data:= .seq vs.toArray}->IntsAre vs ns->ns.length<=n->s₁.gens= #[]->
  codeAny (model l.prog w) callerA (.call (.ref fa) ⟨[.ref a],[]⟩) (λr s'=>r= .ok (.ret (.bool true))/\OldK s₁.heap s'.heap/\s'.os=s₁.os/\AllBare s'.gens) s₁):
 WalkO q loose XP YP l.row.toRowW d [] (λf vs=>PySem.call f vs):=by
 intro w s₀ s₁ mg mb G Y fa o pm cd doc dV kV ho hd hcd hD hmg hg args vals as hpre hlay hrd hwl hlo;obtain rfl:dV= .none:=Dflts.none hD hdf;obtain rfl:kV= .none:=Dflts.noKw hD;obtain⟨a,vs,ns,rfl,rfl,hobj,hints,hlen⟩:=GD hn hpre hwl;refine enter_call (G0O (call w s₀ s₁ mg mb fa o pm cd doc a vs ns G Y ho (fd_plain hd) hcd hmg hobj hints hlen hg) λr s' hq=> ?_);obtain⟨rfl,h2,h3,h4⟩:=hq;exact⟨.inl ⟨.bool true,.bool true,[],rfl,λ_=>rfl,.bool true,GE l _,λ_=>⟨List.Pairwise.nil,λ_ hm=>(nomatch hm)⟩⟩,h2,h3,h4⟩
end Att
namespace L2
open PySem PySem.Spec PyProof.Rows
theorem Vi: ∀ {vs:List Value} {ns:List Int},IntsAre vs ns->Vals (ns.map V.int) vs
 |_,_,.nil=> .nil
 |_,_,.cons n t h=> .cons ⟨t,rfl⟩ (Vi h)
def Only (H:Hp):Prop:= ∀b,H b=none\/ ∃o xs,H b=some (.frz o (.lst xs))
def ya (s:Stmt):Arguments:=match s with
 | .FunctionDef _ a _ _ _ _ _ _ _ _=>a
 |_=> {posonlyargs:= [],args:= [],vararg:=none,kwonlyargs:= [],kw_defaults:= [],kwarg:=none,defaults:= []}
def zJ (s:Stmt):List Stmt:=match s with
 | .FunctionDef _ _ b _ _ _ _ _ _ _=>b
 |_=> []
def jd (s:Stmt):Scope:=match s with
 | .FunctionDef _ _ _ _ _ _ sc _ _ _=>sc
 |_=> {kind:= .function,names:= [],isGenerator:=false,isCoroutine:=false}
abbrev CX0:CXT:=λ_ _ _ _ _ _=>False
abbrev E0:XK:=λ_ _ _=>False
variable {X:Cx}
theorem Al:Gx CX0 X E0:=λ_ _ _ _ _ _ _ h=>h.elim
structure Fun (K:PySem.W.Frag)(x qual:Str)(st:Stmt)(f:Addr)(fd:FuncData):Prop where
 ex: ∃ (oc:Value) (od:Option Addr) (kV doc pm:Value) (an:Option Addr) (cdv ct:Value) (osl:Array (Option Value)),
  fd=PySem.W.fnOf x qual (ya st) (zJ st) (jd st) .none kV doc pm an cdv ct/\K.lookup f=some ⟨oc,od,.func fd,osl⟩/\PySem.W.codeIn K cdv qual=true
 kp:PySem.W.keepIn K (.ref f)=true
section
variable {P:Program}{w:World}{K:PySem.W.Frag}{mg:Str->Option Value}{base:Heap}
variable {qual:Str}
theorem Fun.ok {x:Str}{st:Stmt}{f:Addr}{fd:FuncData}{N ps:List Str}{k:Nat}{sp:Sp}(F:Fun K x qual st f fd)(S:FnScope N ps (jd st))(len: ∀vs H Q E,sp vs H Q E->vs.length=ps.length)
 (hbody: ∀ (cdv:Value) (A:Around) (outer:List Env) (s:Shared) (H:Hp) (vs:List V) (Q:VK) (E:XK),Room k (A.deeper (envOfC qual (jd st) s.heap.objs.size f cdv))->sp vs H Q E->
  ∃t,PSs (Ra CX0 P w K mg base N qual (jd st) f cdv A outer s H E).nox (zJ st) t/\t {nx:=λ_ H'=>Q .non H',rt:=Q} (start N vs) H):FnOk P w K mg base CX0 (k+1) f fd ps sp:=by
 obtain⟨oc,od,kV,doc,pm,an,cdv,ct,osl,rfl,lk,hcd⟩:=F.ex;refine Ag lk hcd S len λA outer s H vs Q E hr hsp=> ?_
 obtain⟨t,h,q⟩:=hbody cdv A outer s H vs Q E hr hsp;exact⟨t,h.nox,q⟩
theorem Fun.binds {x:Str}{st:Stmt}{f:Addr}{fd:FuncData}{ps:List Str}(F:Fun K x qual st f fd)
 (h: ∀ (kV doc pm:Value) (an:Option Addr) (cdv ct:Value) (us:List Value),us.length=ps.length->bindArgs (PySem.W.fnOf x qual (ya st) (zJ st) (jd st) .none kV doc pm an cdv ct) ⟨us,[]⟩=pure (ps.zip us)):Binds K fd ps []:=by
 obtain⟨oc,od,kV,doc,pm,an,cdv,ct,osl,rfl,lk,hcd⟩:=F.ex;exact .all (h kV doc pm an cdv ct)
theorem FF {x:Str}{st:Stmt}{f:Addr}{oc:Value}{od an:Option Addr}{osl:Array (Option Value)}{kV doc pm cdv ct:Value}(l:K.lookup f=some ⟨oc,od,.func (PySem.W.fnOf x qual (ya st) (zJ st) (jd st) .none kV doc pm an cdv ct),osl⟩)
 (c:PySem.W.codeIn K cdv qual=true)(k:PySem.W.keepIn K (.ref f)=true):Fun K x qual st f (PySem.W.fnOf x qual (ya st) (zJ st) (jd st) .none kV doc pm an cdv ct):=⟨⟨oc,od,kV,doc,pm,an,cdv,ct,osl,rfl,l,c⟩,k⟩
end
theorem jE {n:Nat}(h:n<=1000):n<sizeLine:=M6 h (by decide)
theorem Jb {A B:Prop}(h:B):if false=true then A else B:=by
 rw [if_neg P5];exact h
theorem Qo {A B:Prop}(h:A):if true=true then A else B:=by
 rw [if_pos rfl];exact h
theorem Vj {c A B:Prop}[Decidable c](h1:c->A)(h2: ¬c->B):if c then A else B:=by
 by_cases h:c
 ·rw [if_pos h];exact h1 h
 ·rw [if_neg h];exact h2 h
structure M2 (X:Cx)(o:Expr)(m:Str)(apos:Pos)(e f:Expr)(cpos:Pos):Prop where
 base:attributeBase o m X.env (eval o X.env)=eval o X.env
 few:((backTo cpos (starEach [e,f] X.env)).all (λx=> !x.1)&&(backToKw cpos (keywordEach [] X.env)).all (λx=>x.1.isSome)
  &&decide (([e,f]:List Expr).length+([]:List Keyword).length+(if ([]:List Keyword).isEmpty then 0 else 1)<30))=true
 line:(apos.endLine==cpos.line)=true
 trees:backTo cpos (starEach [e,f] X.env)= [(false,eval e X.env),(false,eval f X.env)]
def wv (names:List (Str×NameKind))(env:Env)(cs:List (Str×Addr)):List (Str×Addr):=
 names.foldl (λcs p=>if p.2= .free then (match env.cells.lookup p.1 with|some c=>(p.1,c)::cs|none=>cs) else cs) cs
theorem zG (p:Str×NameKind)(l:List (Str×NameKind))(env:Env)(cs:List (Str×Addr)):
 wv (p::l) env cs=wv l env (if p.2= .free then (match env.cells.lookup p.1 with|some c=>(p.1,c)::cs|none=>cs) else cs):=rfl
variable {env:Env}
theorem Zq {f:Str×NameKind->List (Str×Addr)->Sem (ForInStep (List (Str×Addr)))}
 (h1: ∀p cs,p.2≠ .free->f p cs=pure (.yield cs))(h2: ∀p cs c,p.2= .free->env.cells.lookup p.1=some c->f p cs=pure (.yield ((p.1,c)::cs))):
 ∀ (l:List (Str×NameKind)) (cs:List (Str×Addr)),(∀p∈l,p.2= .free-> ∃c,env.cells.lookup p.1=some c)->forIn l cs f=pure (wv l env cs)
 | [],cs,_=>rfl
 |p::l,cs,h=>by
  have ih:=Zq h1 h2 l
  by_cases hp:p.2= .free
  ·obtain⟨c,hc⟩:=h p P8 hp;rw [Y0,h2 p cs c hp hc,pure_bind];show forIn l ((p.1,c)::cs) f=_;rw [ih _ λq hq=>h q (D8 _ hq),zG,if_pos hp,hc]
  ·rw [Y0,h1 p cs hp,pure_bind];show forIn l cs f=_;rw [ih _ λq hq=>h q (D8 _ hq),zG,if_neg hp]
variable {scope:Scope}
theorem Ym (h: ∀p∈scope.names,p.2= .free-> ∃c,env.cells.lookup p.1=some c):closureFor scope env=pure (wv scope.names env []):=by
 simp only [closureFor];rw [Zq (env:=env) (λp cs hp=> ?_) (λp cs c hp hc=> ?_) _ _ h]
 ·rfl
 ·obtain⟨n,k⟩:=p;have hb:(k==NameKind.free)=false:=by simpa using hp
  simp only [hb,Bool.false_eq_true,G1c]
 ·obtain⟨n,k⟩:=p;have hb:(k==NameKind.free)=true:=by simpa using hp
  have hc':env.cells.lookup n=some c:=hc;simp only [hb,if_true,cellOf,hc',pure_bind]
theorem Zr: ∀ (l:List (Str×NameKind)) (cs:List (Str×Addr)),(∀p∈cs,env.cells.lookup p.1=some p.2)-> ∀p∈wv l env cs,env.cells.lookup p.1=some p.2
 | [],cs,h,p,hp=>h p hp
 |q::l,cs,h,p,hp=>by
  rw [zG] at hp;refine Zr l _ (λr hr=> ?_) p hp
  by_cases hq:q.2= .free
  ·rw [if_pos hq] at hr;cases e:env.cells.lookup q.1 with
   |none=>rw [e] at hr;exact h r hr
   |some c=>
    rw [e] at hr;rcases R5.mp hr with rfl|hr
    ·exact e
    ·exact h r hr
  ·rw [if_neg hq] at hr;exact h r hr
theorem Zt: ∀ (l:List (Str×NameKind)) (cs:List (Str×Addr)),∀p∈cs,p∈wv l env cs
 | [],cs,p,hp=>hp
 |q::l,cs,p,hp=>by
  rw [zG];refine Zt l _ p ?_
  by_cases hq:q.2= .free
  ·rw [if_pos hq];cases e:env.cells.lookup q.1 with
   |none=>exact hp
   |some c=>exact D8 _ hp
  ·rw [if_neg hq];exact hp
variable {x:Str}
theorem Zu {c:Addr}(hc:env.cells.lookup x=some c): ∀ (l:List (Str×NameKind)) (cs:List (Str×Addr)),(x,NameKind.free)∈l->(x,c)∈wv l env cs
 |q::l,cs,h=>by
  rw [zG];rcases R5.mp h with e|h
  ·subst e;rw [if_pos rfl,hc];exact Zt l _ _ P8
  ·exact Zu hc l _ h
theorem zU {α:Type}: ∀ {l:List (Str×α)} {x:Str} {c:α},l.lookup x=some c->(x,c)∈l
 | [],_,_,h=>by simp at h
 |(n,k)::r,x,c,h=>by
  rw [C8] at h;cases hx:x==n with
  |true=>
   rw [hx] at h;have e:x=n:=eq_of_beq hx;cases h;subst e;exact P8
  |false=>rw [hx] at h;exact D8 _ (zU h)
theorem WI {α:Type}: ∀ {l:List (Str×α)} {x:Str} {c:α},(x,c)∈l-> ∃c',l.lookup x=some c'
 |(n,k)::r,x,c,h=>by
  rw [C8];cases hx:x==n with
  |true=>exact⟨_,rfl⟩
  |false=>
   rcases R5.mp h with e|h
   ·cases e;simp at hx
   ·exact WI h
theorem WJ {l:List (Str×NameKind)}{c:Addr}(h:(wv l env []).lookup x=some c):env.cells.lookup x=some c:=
 Zr l [] (λ_ z=>nomatch z) (x,c) (zU h)
theorem GF {l:List (Str×NameKind)}{c:Addr}(hc:env.cells.lookup x=some c)(h:(x,NameKind.free)∈l):(wv l env []).lookup x=some c:=by
 obtain⟨c',e⟩:=WI (Zu hc l [] h);have:=WJ e;rw [hc] at this;cases this;exact e
theorem wM {κ:Type}{f:Str×κ->Str×κ}{g:Str->κ->κ}(hf: ∀n k,f (n,k)=(n,g n k))(x:Str): ∀l:List (Str×κ),(l.map f).lookup x=(l.lookup x).map (g x)
 | []=>rfl
 |(n,k)::r=>by
  rw [M8,hf,C8,C8,wM hf x r];cases same:x==n with
  |false=>rfl
  |true=>rw [eq_of_beq same];rfl
theorem jX {names:List (Str×NameKind)}{k:NameKind}(found:
 (names.map λ(n,k)=>if (k==NameKind.free&&env.scope.kind== .function&&env.kindOf n==some .cell) then (n,NameKind.cell) else (n,k)).lookup x=some k):
  names.lookup x=some k\/names.lookup x=some .free:=by
 rw [wM (g:=λn k=>if (k==NameKind.free&&env.scope.kind== .function&&env.kindOf n==some .cell) then .cell else k) (λn k=>by dsimp only;split<;>rfl)] at found;obtain⟨k0,was,now⟩:=O5.mp found;split at now
 ·rename_i c;simp only [B2,G1e] at c;exact .inr (by rw [was,c.1.1])
 ·exact .inl (by rw [was,now])
theorem zQ: ∀ (names:List (Str×NameKind)) (n:Nat) (acc:List (Str×Addr)) (p:Str×Addr),p∈cellsFrom n names acc->p∈acc\/(n<=p.2/\(p.1,NameKind.cell)∈names)
 | [],_,_,_,h=> .inl h
 |(x,k)::r,n,acc,p,h=>by
  unfold cellsFrom at h;split at h
  ·rename_i hk;rcases zQ r (n+1) _ p h with z|⟨z1,z2⟩
   ·rcases R5.mp z with e|z
    ·subst e;have:k= .cell:=by simpa using hk
     subst this;exact .inr ⟨G6 _,P8⟩
    ·exact .inl z
   ·exact .inr ⟨by omega,D8 _ z2⟩
  ·rcases zQ r n acc p h with z|⟨z1,z2⟩
   ·exact .inl z
   ·exact .inr ⟨z1,D8 _ z2⟩
theorem jQ: ∀ (names:List (Str×NameKind)) (n:Nat) (acc:List (Str×Addr)),cellsFrom n names acc=cellsFrom n names []++acc
 | [],_,_=>rfl
 |(x,k)::r,n,acc=>by
  unfold cellsFrom;split
  ·rw [jQ r (n+1) ((x,n)::acc),jQ r (n+1) [(x,n)],G8];rfl
  ·exact jQ r n acc
theorem Jc {α:Type}(l l':List (Str×α))(x:Str):(l++l').lookup x=(match l.lookup x with|some c=>some c|none=>l'.lookup x):=by
 induction l with
 |nil=>rfl
 |cons p l ih=>
  obtain⟨n,c⟩:=p;rw [O9,C8,C8];cases x==n with
  |true=>rfl
  |false=>exact ih
theorem yP {names:List (Str×NameKind)}(here:names.lookup x=some .cell):
 (names.map λ(n,k)=>if (k==NameKind.free&&env.scope.kind== .function&&env.kindOf n==some .cell) then (n,NameKind.cell) else (n,k)).lookup x=some .cell:=by
 rw [wM (g:=λn k=>if (k==NameKind.free&&env.scope.kind== .function&&env.kindOf n==some .cell) then .cell else k) (λn k=>by dsimp only;split<;>rfl),here];simp
section
variable {M:Model}{A:Around}{E:Value->Shared->Prop}{s:Shared}
theorem Qp (h:Heap)(names:List (Str×NameKind)):(∀n c,(n,c)∈cellsFrom h.objs.size names []->(pushCells h names).IsCell c none/\h.objs.size<=c)/\(cellsFrom h.objs.size names []).Pairwise λx y=>x.2≠y.2:=
 have laid:=cellsFrom_ok names h h.objs.size [] ⟨by simp,.nil⟩ (G6 _)
 ⟨laid.empty,laid.apart⟩
theorem Vk {scope:Scope}{globals:Addr}{closure:List (Str×Addr)}{qual:Str}{func:Option Addr}{code:Value}{outer:Env}{builtins:Addr}{Q:Env->Shared->Prop}
 (hQ: ∀h',h'.Ns s.heap.objs.size (λ_=>none)->(∀b o,s.heap.get? b=some o->h'.get? b=some o)->(∀n c,(n,c)∈cellsFrom (s.heap.objs.size+1) scope.names []->h'.IsCell c none/\s.heap.objs.size+1<=c)->
  ((cellsFrom (s.heap.objs.size+1) scope.names []).Pairwise λx y=>x.2≠y.2)->
  Q (newEnv scope s.heap.objs.size globals (cellsFrom (s.heap.objs.size+1) scope.names closure) qual func code (some outer) builtins) {s with heap:=h'}):
 wpAny M A (newFunctionEnv scope globals closure [] qual func code (some outer) builtins) Q E s:=by
 have names:=Qp (s.heap.push {cls:= .type "dict",data:= .dict #[]}) scope.names;have first:(s.heap.push {cls:= .type "dict",data:= .dict #[]}).objs.size=s.heap.objs.size+1:=G0h ..
 rw [first] at names;unfold newFunctionEnv;refine wpAny_bind (wpAny_alloc (wpAny_bind (wpAny_layCells _ (λn k cs=>rfl) _ _ _ _ ?_)));simp only [Option.isSome_some,if_true];rw [first];exact wpAny_bind (P1 (P1 (hQ _ ((Heap.Ns.new _ _).keeps (pushCells_keeps _ _)) (λb o here=>pushCells_keeps _ _ b o (G3 _ here)) names.1 names.2)))
end
def jK (X:Cx)(scope:Scope)(C:Addr):List (Str×Addr):=cellsFrom (C+1) scope.names (wv scope.names X.env [])
def yQ (X:Cx)(scope:Scope)(C:Addr)(s₀:Shared)(H₀:Hp)(ex:List Addr):Cx:=
 {X with s₀:=s₀,H₀:=H₀,env:=compEnvC scope (jK X scope C) C X.env,outer:=X.stack,ex:=ex,fn:=λx=>scope.names.lookup x==some .cell,pn:= [],xe:=λ_ _=>False}
def jp (X:Cx)(scope:Scope)(X':Cx):Prop:= ∃C s₀ H₀ ex,X'=yQ X scope C s₀ H₀ ex
structure BlockOk (X:Cx)(scope:Scope)(js:List Nat):Prop where
 kind:scope.kind= .function
 locs: ∀p∈scope.names,p.2= .local->scope.names.lookup p.1=some .local
 cels: ∀p∈scope.names,p.2= .cell->scope.names.lookup p.1=some .cell
 free: ∀p∈scope.names,p.2= .free->X.env.scope.names.lookup p.1=some .cell\/X.env.scope.names.lookup p.1=some .free
 js: ∀ (i:Nat) (x:Str),X.N[i]? =some x->(scope.names.lookup x=some .local\/scope.names.lookup x=some .cell)->i∈js
variable {js:List Nat}
theorem wB (S:BlockOk X scope js){C:Addr}{x:Str}{c:Addr}(h:(jK X scope C).lookup x=some c):
 (scope.names.lookup x≠some .cell/\X.env.cells.lookup x=some c)\/(scope.names.lookup x=some .cell/\(x,c)∈cellsFrom (C+1) scope.names []):=by
 unfold jK at h;rw [jQ,Jc] at h;cases e:(cellsFrom (C+1) scope.names []).lookup x with
 |some d=>
  rw [e] at h;cases h;have m:=zU e;rcases zQ _ _ _ _ m with z|⟨_,z⟩
  ·exact absurd z (by simp)
  ·exact .inr ⟨S.cels _ z rfl,m⟩
 |none=>
  rw [e] at h;refine .inl ⟨λz=> ?_,WJ h⟩;obtain⟨d,hd⟩:=JY (sc:=scope) (n:=C+1) z;rw [e] at hd;cases hd
theorem JB (S:BlockOk X scope js){C:Addr}{x:Str}{c:Addr}(hc:X.env.cells.lookup x=some c)(h:(x,NameKind.free)∈scope.names)(hn:scope.names.lookup x≠some .cell):(jK X scope C).lookup x=some c:=by
 unfold jK;rw [jQ,Jc];cases e:(cellsFrom (C+1) scope.names []).lookup x with
 |some d=>
  rcases zQ _ _ _ _ (zU e) with z|⟨_,z⟩
  ·exact absurd z (by simp)
  ·exact absurd (S.cels _ z rfl) hn
 |none=>exact GF hc h
def zN:List Nat->St->St
 | [],σ=>σ
 |j::js,σ=>zN js (σ.set j none)
theorem WK: ∀ (js:List Nat) (σ:St),(zN js σ).length=σ.length
 | [],_=>rfl
 |j::js,σ=>by rw [zN,WK js];simp
theorem Zv: ∀ (js:List Nat) (σ:St) (i:Nat) (v:V),(zN js σ)[i]? =some (some v)->σ[i]? =some (some v)
 | [],_,_,_,h=>h
 |j::js,σ,i,v,h=>by
  have h1:=Zv js _ i v h
  by_cases e:i=j
  ·subst e;rw [V6] at h1;simp at h1
  ·rwa [B3 (Ne.symm e)] at h1
theorem zv: ∀ (js:List Nat) (σ:St) (i:Nat) (v:V),i∈js-> ¬ (zN js σ)[i]? =some (some v)
 |j::js,σ,i,v,hm,h=>by
  rcases R5.mp hm with rfl|hm
  ·have h1:=Zv js _ i v h;rw [V6] at h1;simp at h1
  ·exact zv js _ i v hm h
theorem HOk.track {P:Program}{w:World}{H:Hp}{h:Heap}{a:Addr}{o:HO}(x:HOk P w H h)(hn:H a=none)(new:ObjOk P w (upd H a o) h a o):HOk P w (upd H a o) h:=λb u e=>by
 by_cases hb:b=a
 ·subst hb;rw [jq] at e;cases e;exact new
 ·rw [jt hb] at e;exact(x b u e).stay (λc v _ q=>q) (λc q=>by rw [jt (jl q hn)];exact q) λc xs q=>by rw [jt (jl q hn)];exact q
def Agree (σ σ':St):Prop:=σ'.length=σ.length/\ ∀ (i:Nat) (v:V),σ[i]? =some (some v)->σ'[i]? =some (some v)
theorem Agree.set {σ:St}{j:Nat}(v:V)(h: ∀u,¬σ[j]? =some (some u)):Agree σ (σ.set j (some v)):=⟨by simp,λi u q=>by
 by_cases e:j=i
 ·subst e;exact absurd q (h u)
 ·rw [B3 e];exact q⟩
theorem Agree.trans {a b c:St}(x:Agree a b)(y:Agree b c):Agree a c:=⟨y.1.trans x.1,λi v h=>y.2 i v (x.2 i v h)⟩
def PTs (X:Cx)(ifs:List Expr)(t:TT):Prop:=
 ∀ (pins:List (Addr×Obj)) (s:Shared) (σ:St) (H:Hp) (Q:Bool->Hp->Prop),Inv X pins σ H s->t σ H Q->
  wpAny (model X.prog X.w) X.A (forIn ifs true λc r=>if r=true then do let ok <-isTrue c X.env (eval c X.env);pure (ForInStep.yield ok) else pure (ForInStep.yield r)) (TP X pins σ Q) X.xe s
def EJ:TT:=λ_ H Q=>Q true H
theorem NO:PTs X [] EJ:=λ_ _ _ H _ I h=>wpAny_tests_nil ⟨H,I,h⟩
theorem NP {c:Expr}{t:TT}(hc:PT X c t):PTs X [c] t:=λpins s σ H Q I h=>wpAny_tests_one (hc pins s σ H Q I h)
def WL (iter target:Expr)(ifs:List Expr)(it:Value)(env:Env)(act:Sem Unit)(nxt:Code):Sem PySem.Fin:=do
 standAt iter.pos
 match <-pyNext it with
 |none=>pure (.done .next)
 |some v=>
  letOwnedTupleGo target it v
  assign target env v
  let mut ok:=true
  for c in ifs do
   if ok then ok <-isTrue c env (eval c env)
  if ok then act
  again nxt
variable {elt iter:Expr}{pos:Pos}{ifs:List Expr}
theorem Xu {prog:Program}{w:World}{A:Around}{R:Result->Shared->Prop}{s:Shared}{target:Expr}{gens:List Comprehension}{depth:Nat}{it acc:Value}{act:Sem Unit}(I:Nat->Shared->Prop)
 (heq:compTurn (.ListComp elt gens scope pos) depth it acc env=WL iter target ifs it env act (.compLoop (.ListComp elt gens scope pos) depth it acc env))
 (turn: ∀n s,I n s->wpAny (model prog w) A (pyNext it) (λr s₁=>match r with
  |none=>R (.ok .next) s₁
  |some v=>wpAny (model prog w) A (letOwnedTupleGo target it v) (λ_ s₁=>wpAny (model prog w) A (assign target env v) (λ_ s₂=>
   wpAny (model prog w) A (forIn ifs true λc r=>if r=true then do let ok <-PySem.isTrue c env (eval c env);pure (ForInStep.yield ok) else pure (ForInStep.yield r)) (λok s₃=>
    if ok=true then wpAny (model prog w) A act (λ_ s₅=> ∃m,m<n/\I m s₅) (λ_ _=>False) s₃
    else ∃m,m<n/\I m s₃) (λ_ _=>False) s₂) (λ_ _=>False) s₁) (λ_ _=>False) s₁) (λ_ _=>False) s)
 (n:Nat)(h:I n s):
 codeAny (model prog w) A (.compLoop (.ListComp elt gens scope pos) depth it acc env) R s:=by
 refine codeAny_loop rfl I (λn s hI=> ?_) n h;show wpAny _ A ((compTurn (.ListComp elt gens scope pos) depth it acc env).onRaise (λx=>do noteFrame x env;theTreesLotGoes x)) _ _ s;refine wpAny_noted ?_;rw [heq];unfold WL;refine wpAny_bind (U3 (wpAny_bind (S3 (turn n s hI) (λr s₁ h₁=> ?_) λ_ _ h'=>h'.elim)));cases r with
 |none=>exact P1 h₁
 |some v=>
  refine wpAny_bind (S3 h₁ (λ_ s₁ h₁=> ?_) λ_ _ h'=>h'.elim);refine wpAny_bind (S3 h₁ (λ_ s₂ h₂=>wpAny_bind (S3 h₂ (λok s₃ h₃=> ?_) λ_ _ h'=>h'.elim)) λ_ _ h'=>h'.elim);cases ok with
  |false=>exact P1 ⟨rfl,h₃⟩
  |true=>exact wpAny_bind (S3 h₃ (λ_ s₅ h₅=>P1 ⟨rfl,h₅⟩) λ_ _ h'=>h'.elim)
abbrev TM:=St->Hp->List V->(List V->Hp->Prop)->Prop
def OJ (X:Cx)(D:Addr)(act:Sem Unit)(t:TM):Prop:=
 ∀ (pins:List (Addr×Obj)) (s:Shared) (σ:St) (H:Hp) (ys:List V) (us:List Value) (Q:List V->Hp->Prop),Inv X ([(D,LCg.lst us)]++pins) σ H s->Vals ys us->ys.length<=sizeLine->D∈X.ex->(∀x c,X.env.cells.lookup x=some c->c≠D)->(∀p∈X.pn++pins,p.1≠D)->t σ H ys Q->
  wpAny (model X.prog X.w) X.A act (λ_ s'=> ∃ys' us' H',Vals ys' us'/\Inv X ([(D,LCg.lst us')]++pins) σ H' s'/\Q ys' H') (λ_ _=>False) s
def FG (te:TE):TM:=λσ H ys Q=>te σ H λy H1=>Q (ys++ [y]) H1
def WM (elt:Expr)(env:Env)(acc:Value):Sem Unit:=do let _ <-call (.builtin "list.append") [acc,<-eval elt env]
variable {te:TE}
theorem Yn {D:Addr}(hx:X.xe=λ_ _=>False)(he:PE X elt te):OJ X D (WM elt X.env (.ref D)) (FG te):=by
 intro pins s σ H ys us Q I hv hz DX cD pD h;have q:=he _ s σ H _ I h;rw [hx] at q;unfold WM;refine wpAny_bind (S3 q (λy s1 ⟨yv,H1,I1,r1,q1⟩=> ?_) λ_ _ z=>z);have zD:=I1.pin (D,LCg.lst us) (P3 _ (T1 _ P8));refine wpAny_bind (append_at (its:=us.toArray) (n:=us.length) zD.1 (λh11 hs11 hD11=>P1 ?_) (by rw [P4,<-hv.length];exact hz));have I10u:Inv X pins σ H1 s1:=I1.pins_of λp hp=>I1.pin p (P3 _ (P3 _ hp))
 have I11:Inv X pins σ H1 {s1 with heap:=h11}:=I10u.turned (t':=s1.toks) (it:=D) (λb o hb e=>hs11.extBut b o hb e) zD.2.1 zD.2.2.1 (.inl DX) cD pD;have eD:h11.get? D=some (LCg.lst (us++ [y])):=by rw [hD11];exact congrArg some (LCg.lst_snoc us y)
 refine⟨ys++ [yv],us++ [y],H1,hv.append (.cons r1 .nil),I11.pins_of λp hp=> ?_,q1⟩;rcases D4.mp hp with z|z
 ·rcases G2.mp z with rfl
  exact⟨eD,zD.2.1,zD.2.2.1,zD.2.2.2.1,λv z=>by cases z⟩
 ·exact I11.pin p (P3 _ z)
def OK (js : List Nat) (wi : TI) (g : TG) (tt : TT) (tm : TM) : TE := fun σ H Q => wi σ H fun J H1 =>
  ∃ W : Nat → Nat → List V → Hp → Prop, (∃ m, W 0 m [] H1) ∧ ∀ i m ys H, W i m ys H → ys.length ≤ sizeLine ∧
    ((J.stop i H ∧ ∀ p, H p = none → Q (.ref p) (upd H p (.lst ys))) ∨
     (J.go i H ∧ ∀ x H', J.yld i H x H' → g x (zN js σ) H' fun σ2 H2 => Agree (zN js σ) σ2 ∧ tt σ2 H2 fun b H3 =>
        if b = true then tm σ2 H3 ys fun ys' H4 => ∃ m', m' < m ∧ W (i + 1) m' ys' H4 else ∃ m', m' < m ∧ W (i + 1) m' ys H3))
def tLC (js:List Nat)(wi:TI)(g:TG)(tt:TT)(te:TE):TE:=OK js wi g tt (FG te)
variable {tg:Expr}{wi:TI}{g:TG}{tt:TT}
theorem GH {e:Expr}{rest:List Comprehension}{pos0:Pos}{tm:TM}{use:Option (Value->Sem Unit)}{Qv:Value->Shared->Prop}(hc:X.calm=true)(S:BlockOk X scope js)(hi:PI X tg iter wi)
 (he0:e= .ListComp elt (⟨tg,iter,ifs,0⟩::rest) scope pos)
 (hg: ∀X',jp X scope X'->PG X' tg g)(ht: ∀X',jp X scope X'->PTs X' ifs tt)
 (act:Env->Value->Sem Unit)(hturn: ∀it acc env,compTurn e 0 it acc env=WL iter tg ifs it env (act env acc) (.compLoop e 0 it acc env))(he: ∀X',jp X scope X'-> ∀D,OJ X' D (act X'.env (.ref D)) tm)
 (hs: ∀x,foldedSetIterable iter X.env x=pure x){pins:List (Addr×Obj)}{s:Shared}{σ:St}{H:Hp}{Q:VK}(I:Inv X pins σ H s)(h:OK js wi g tt tm σ H Q)
 (fin: ∀ (D C:Addr) (H':Hp) (s':Shared) (m:Str->Option Value),s'.heap.Ns C m->(∀h',Heap.SameBut C s'.heap h'->Inv X pins σ H' {s' with heap:=h'})->H' C=none->C≠X.env.locals->C ∉ X.fs->X.s₀.heap.objs.size<=C->(∀x c,X.env.cells.lookup x=some c->c≠C)->(∀p∈X.pn++pins,p.1≠C)->
  Q (.ref D) H'->compPost (model X.prog X.w) X.A X.xe use Qv (.ref D) C (.ok .next) s'):
 wpAny (model X.prog X.w) X.A (comprehension e scope X.env pos0 (newList []) false (eval iter X.env) use) Qv X.xe s:=by
 have hclos:=Ym (scope:=scope) (env:=X.env) (λp hp e=>I.ok.has p.1 (S.free p hp e));subst he0;refine wpAny_comprehension_free (use:=use) rfl hs hclos S.kind S.locs (thn (hi pins s σ H _ I h) λv s1 h1=>thn h1 λitv s2 h2=> ?_);obtain⟨it,fp,tn,J,H2,e,I2,T,st2,f2,W,⟨m0,w0⟩,turn⟩:=h2;subst e;refine A7 (Vk (λh₁ hns₁ hkp₁ hcl₁ hap₁=> ?_));dsimp only at hns₁ hkp₁ hcl₁ hap₁ ⊢;generalize hD:s2.heap.objs.size=D;generalize hH3:s2.heap.push {cls:= .type "list",dict:=none,data:= .seq ([]:List Value).toArray}=h3 at hns₁ hkp₁ hcl₁ hap₁ ⊢;have sz3:h3.objs.size=D+1:=by rw [<-hH3,G0h,hD]
 have up3: ∀b o,s2.heap.get? b=some o->h3.get? b=some o:=λb o e=>hH3 ▸ G3 _ e
 have I3:Inv X pins σ H2 {s2 with heap:=h3}:=I2.kept (t':=s2.toks) up3;have hD3:h3.get? D=some (LCg.lst []):=by rw [<-hH3,<-hD];exact D9 _ rfl
 have fD:Gh X pins H2 D:=I2.fpOk (by rw [hD];exact G6 _) (I2.hok.fresh (by rw [hD];exact G6 _));have obf: ∀b∈fp,∃o,s2.heap.get? b=some o/\ ∀v,o.data≠ .cell v:=T.obj _ _ st2;have ltf: ∀b∈fp,b<D:=λb hb=>by obtain⟨o,e,_⟩:=obf b hb;rw [<-hD];exact D3 e
 generalize hC:h3.objs.size=C at hns₁ hcl₁ hap₁ ⊢;have CD:C=D+1:=hC.symm.trans sz3;have upC: ∀b o,h3.get? b=some o->h₁.get? b=some o:=hkp₁;generalize hX:yQ X scope C {s2 with heap:=h3} H2 (fp++ [D])=X';have iX:jp X scope X':=⟨C,_,_,_,hX.symm⟩;have hf: ∀b∈fp++ [D],Gh X pins H2 b:=λb hb=>(D4.mp hb).elim (f2 b) λz=>by rw [G2.mp z];exact fD
 have cl: ∀x c,(jK X scope C).lookup x=some c->X.env.cells.lookup x=some c\/C<c:=λx c e=>by
  rcases wB S e with ⟨_,z⟩|⟨_,z⟩
  ·exact .inl z
  ·exact .inr (V7 (hcl₁ x c z).2)
 have olt: ∀x c,X.env.cells.lookup x=some c->c<C:=λx c e=>by obtain⟨v,q⟩:=I3.cell x c e;rw [<-hC];exact q.lt
 have ltb: ∀b∈fp++ [D],b<C:=λb hb=>(D4.mp hb).elim (λz=>by have:=ltf b z;rw [CD];exact V8 this) λz=>by rw [G2.mp z,CD];exact L6 _
 have okX:X'.Ok:=by
  subst hX;refine⟨I.ok.mod,S.kind,I.ok.glob,I.ok.blt,A1 hC,λx y c e1 e2=> ?_,λx hx=> ?_,λx c z e=> ?_,I.ok.hd,I.ok.frames,.inl rfl,λb hb=>⟨S1 (ltb b hb),λx c e=>(cl x c e).elim (λz=>(hf b hb).2.2.2.2.1 x c z) λz=>J5 (J9 (ltb b hb) z)⟩,
   I3.bs,R6 I.ok.bsz I3.sz,λb o e hb=> ?_,λb hb z=> ?_,I3.stack,I3.stkFree⟩
  ·rcases wB S e1 with ⟨_,z1⟩|⟨_,z1⟩<;>rcases wB S e2 with ⟨_,z2⟩|⟨_,z2⟩
   ·exact I.ok.inj x y c z1 z2
   ·exact absurd (J9 (olt x c z1) (V7 (hcl₁ y c z2).2)) (N3 _)
   ·exact absurd (J9 (olt y c z2) (V7 (hcl₁ x c z1).2)) (N3 _)
   ·exact name_of_addr hap₁ z1 z2
  ·have own:scope.names.lookup x=some .cell-> ∃c,(jK X scope C).lookup x=some c:=λz=>by
    obtain⟨c,hc⟩:=JY (sc:=scope) (n:=C+1) z;exact⟨c,by unfold jK;rw [jQ,Jc,hc]⟩
   have shr:scope.names.lookup x=some .free-> ∃c,(jK X scope C).lookup x=some c:=λz=>by
    have fm:=zU z;obtain⟨c,hc⟩:=I.ok.has x (S.free _ fm rfl);exact⟨c,JB S hc fm (by rw [z];decide)⟩
   rcases hx with hx|hx
   ·rcases jX (env:=X.env) hx with z|z
    ·exact own z
    ·exact shr z
   ·rcases jX (env:=X.env) hx with z|z<;>exact shr z
  ·have z':scope.names.lookup x=some .cell:=by
    have z2:(scope.names.lookup x==some NameKind.cell)=true:=z;simpa using z2
   rcases wB S e with ⟨n,_⟩|⟨_,m⟩
   ·exact absurd z' n
   ·show h3.objs.size<=c;rw [hC];exact D6 (V7 (hcl₁ x c m).2)
  ·rcases (hf b hb).2.2.2.1 with z|z
   ·exact I.ok.noex b o e z
   ·exact absurd (R8 (D3 e) (R6 I.ok.bsz z)) (N3 _)
  ·rcases R5.mp (I.stkSub b z) with q|q
   ·exact(hf b hb).2.1 q
   ·exact(hf b hb).2.2.1 q
 -- the block's first state
 have I4:Inv X' [(D,LCg.lst [])] (zN js σ) H2 {s2 with heap:=h₁}:=by
  subst hX;have hDC:D≠C:=by rw [CD];exact S1 (L6 _)
  refine⟨okX,rfl,I2.bare,Un.kept (λb u e=>upC b u e),⟨_,hns₁,λi x v e1 e2 e3=> ?_⟩,λx c e=> ?_,I3.hok.fresh (A1 hC),λx c e=>(cl x c e).elim (λz=>I2.freeC x c z) (λz=>I3.hok.fresh (by rw [<-hC] at z;exact D6 z)),λp hp=> ?_,I3.hok.kept upC,(WK js σ).trans I2.len⟩
  ·have fr:scope.names.lookup x=some .free:=by
    rcases e3 with e3|e3|e3
    ·rcases jX (env:=X.env) e3 with z|z
     ·exact absurd e2 (zv js σ i v (S.js i x e1 (.inl z)))
     ·exact z
    ·rcases jX (env:=X.env) e3 with z|z
     ·exact absurd e2 (zv js σ i v (S.js i x e1 (.inr z)))
     ·exact z
    ·rcases jX (env:=X.env) e3 with z|z<;>exact z
   have fm:=zU fr;obtain⟨m,hm,hl⟩:=I2.loc;have vis:=S.free _ fm rfl;obtain⟨u,r,lk⟩:=hl i x v e1 (Zv js σ i v e2) (.inr vis);have kd:(relabel scope X.env).names.lookup x=some .cell\/(relabel scope X.env).names.lookup x=some .free:=by
    rcases e3 with e3|e3|e3
    ·rcases jX (env:=X.env) e3 with z|z
     ·rw [fr] at z;cases z
     ·exfalso;have z2:=e3
      -- a local's kind stays
      exact absurd e2 (zv js σ i v (S.js i x e1 (.inl (by
       have q: ∀ (l:List (Str×NameKind)),(l.map λ(n,k)=>if (k==NameKind.free&&X.env.scope.kind== .function&&X.env.kindOf n==some .cell) then (n,NameKind.cell) else (n,k)).lookup x=some .local->l.lookup x=some .local:=by
        intro l
        induction l with
        |nil=>intro h;simp at h
        |cons p l ih=>
         obtain⟨n,k'⟩:=p;intro h;have h':List.lookup x ((if (k'==NameKind.free&&X.env.scope.kind== .function&&X.env.kindOf n==some .cell)=true then (n,NameKind.cell) else (n,k'))::(l.map λ(n,k)=>if (k==NameKind.free&&X.env.scope.kind== .function&&X.env.kindOf n==some .cell) then (n,NameKind.cell) else (n,k)))=some .local:=h;rw [C8]
         by_cases hc:(k'==NameKind.free&&X.env.scope.kind== .function&&X.env.kindOf n==some .cell)=true
         ·rw [if_pos hc,C8] at h';cases hx:x==n with
          |true=>rw [hx] at h';cases h'
          |false=>rw [hx] at h';exact ih h'
         ·rw [if_neg hc,C8] at h';cases hx:x==n with
          |true=>rw [hx] at h';exact h'
          |false=>rw [hx] at h';exact ih h'
       exact q _ z2))))
    ·exact .inl e3
    ·exact .inr e3
   rcases lk with ⟨k,_⟩|⟨_,c,hc,hcell⟩
   ·have k':X.env.scope.names.lookup x=some .local:=k;rcases vis with z|z<;>(rw [k'] at z;cases z)
   ·refine⟨u,r,.inr ⟨kd,c,JB S hc fm (by rw [fr];decide),?_⟩⟩;obtain⟨o,ho,hd⟩:=hcell;exact⟨o,upC _ _ (up3 _ _ ho),hd⟩
  ·rcases wB S e with ⟨_,z⟩|⟨_,z⟩
   ·obtain⟨v,o,ho,hd⟩:=I2.cell x c z;exact⟨v,o,upC _ _ (up3 _ _ ho),hd⟩
   ·exact⟨none,(hcl₁ x c z).1⟩
  ·have hp':p∈ [(D,LCg.lst [])]:=hp;rcases G2.mp hp' with rfl
   refine⟨upC _ _ hD3,fD.1,hDC,λz=> ?_,λv z=>by cases z⟩;rcases R5.mp (I.stkSub D z) with q|q
   ·exact fD.2.1 q
   ·exact fD.2.2.1 q
 have st4:tn 0 h₁:=T.keep _ _ _ st2 λb _ o e=>upC _ _ (up3 _ _ e)
 have eA:X'.A=X.A:=by rw [<-hX];rfl
 have eP:X'.prog=X.prog:=by rw [<-hX];rfl
 have eW:X'.w=X.w:=by rw [<-hX];rfl
 have eK:X'.K=X.K:=by rw [<-hX];rfl
 have eC:X'.calm=true:=by rw [<-hX];exact hc
 have eV:X'.env=compEnvC scope (jK X scope C) C X.env:=by rw [<-hX];rfl
 have eE:X'.xe=λ_ _=>False:=by rw [<-hX];rfl
 -- what stays true of the iterator's objects
 have stat: ∀ {us:List Value} {H':Hp},(∀b∈fp,H' b=none)-> ∀b∈fp,Gh X' [(D,LCg.lst us)] H' b:=λ{us H'} hn b hb=>by
  have q:=hf b (T1 _ hb);subst hX;refine⟨hn b hb,S1 (ltb b (T1 _ hb)),λz=> ?_,.inl (T1 _ hb),λx c e=>(cl x c e).elim (λz=>q.2.2.2.2.1 x c z) (λz=>J5 (J9 (ltb b (T1 _ hb)) z)),λp hp=> ?_⟩
  ·rcases R5.mp (I.stkSub b z) with r|r
   ·exact q.2.1 r
   ·exact q.2.2.1 r
  ·have hp':p∈ [(D,LCg.lst us)]:=hp;rcases G2.mp hp' with rfl
   exact J5 (ltf b hb)
 have loop: ∀s₃:Shared,s₃= {s2 with heap:=h₁}->
  codeAny (model X.prog X.w) X.A (.compLoop (.ListComp elt (⟨tg,iter,ifs,0⟩::rest) scope pos) 0 (.ref it) (.ref D) (compEnvC scope (jK X scope C) C X.env))
   (compPost (model X.prog X.w) X.A X.xe use Qv (.ref D) C) s₃:=by
  rintro s₃ rfl;refine Xu (act:=act (compEnvC scope (jK X scope C) C X.env) (.ref D)) (λn s'=> ∃i ys us H',Vals ys us/\Inv X' [(D,LCg.lst us)] (zN js σ) H' s'/\tn i s'.heap/\(∀b∈fp,H' b=none)/\W i n ys H') (hturn _ _ _) ?_ m0
   ⟨0,[],[],H2,.nil,I4,st4,λb hb=>(f2 b hb).1,w0⟩
  rintro n s5 ⟨i,ys,us,H5,hv5,I5,st5,fr5,w5⟩;obtain⟨hz,tr⟩:=turn i n ys H5 w5;rcases tr with ⟨stop,qn⟩|⟨go,step⟩
  ·have q:=T.done X' eP eW eK eC i _ s5 _ H5 (λ_ _=>False) I5 (stat fr5) st5 stop;rw [eA] at q;refine S3 q (λr s6 ⟨hr,I6⟩=> ?_) λ_ _ z=>z
   subst hr;obtain⟨m6,hm6,_⟩:=I6.loc;rw [eV] at hm6;have zD:=I6.pin (D,LCg.lst us) (P3 _ P8);have HD:H5 D=none:=zD.2.1;have oD:s6.heap.get? D=some (LCg.lst us):=zD.1;have hDC:D≠C:=by rw [CD];exact S1 (L6 _)
   have HC:H5 C=none:=by have z:=I6.free;rw [eV] at z;exact z
   have B:=I6.base;have os6:s6.os=s2.os:=by have z:=I6.os;rw [<-hX] at z;exact z
   have Bu:Un (frs X.stack) (fp++ [D]) H2 H5 h3 s6.heap:=by rw [<-hX] at B;exact B
   have neC: ∀b o,h3.get? b=some o->b≠C:=λb o e=>by rw [<-hC];exact S1 (D3 e)
   refine fin D C (upd H5 D (.lst ys)) s6 m6 hm6 (λh' hs'=> ?_) (by rw [jt (Ne.symm hDC)];exact HC) ?_ ?_ ?_ (λx c e=>S1 (olt x c e)) ?_ (qn D HD)
   ·have hk5:HOk X.prog X.w H5 h':=λb u e=>by
     have z:=I6.hok b u e;rw [eP,eW] at z;refine z.stay (λc v hc q=>hs'.extBut c v ?_ q) (λ_ q=>q) λ_ _ q=>q
     rcases hc with rfl|hc
     ·exact jl e HC
     ·exact jl hc HC
    refine I3.call' (ch:=fp++ [D]) os6 ⟨λb o e n hb hx=> ?_,λb o e n hb hx=> ?_,λb o e n hx=> ?_,λb o e hx=> ?_,λb xs e=> ?_,λb o u e=> ?_,λb ps e=> ?_⟩ (hk5.track HD ?_) I6.bare λb hb=> ?_
    ·exact hs'.extBut b o (neC b o e) (Bu.keep b o e n hb hx)
    ·obtain⟨sl,q⟩:=Bu.slot b o e n hb hx;exact⟨sl,hs'.extBut b _ (neC b o e) q⟩
    ·rw [jt λz=>hx (by rw [z];exact P3 _ P8)];exact Bu.free b o e n hx
    ·obtain⟨o',q⟩:=Bu.there b o e hx;exact⟨o',hs'.extBut b _ (neC b o e) q⟩
    ·have z:=Bu.tups b xs e;rw [jt (jl z HD)];exact z
    ·have z:=Bu.frzs b o u e;rw [jt (jl z HD)];exact z
    ·obtain⟨more,z⟩:=Bu.tbls b ps e;exact⟨more,by rw [jt (jl z HD)];exact z⟩
    ·exact⟨hz,us,us.length,hv5,hs'.extBut D _ hDC oD⟩
    ·have q:=hf b hb;exact⟨q.2.2.2.1,q.2.1,q.2.2.2.2.1,q.2.2.2.2.2⟩
   ·rw [<-hC];exact J5 I3.lt
   ·exact I3.nofs (A1 hC)
   ·rw [<-hC];exact I3.sz
   ·intro p hp;have:=(I3.pin p hp).1;rw [<-hC];exact S1 (D3 this)
  ·have q:=T.item X' eP eW eK eC i _ s5 _ H5 (λ_ _=>False) I5 (stat fr5) st5 go;rw [eA] at q;refine S3 q (λr s6 ⟨u,hr,h6⟩=> ?_) λ_ _ z=>z
   subst hr;refine S3 h6 (λ_ s7 ⟨x,H7,I7,r7,y7,st7,fr7⟩=> ?_) λ_ _ z=>z
   have I7':=I7.pinned (stat fr7) (T.obj _ _ st7);have q7:=hg X' iX _ s7 _ H7 x u _ I7' r7 (step x H7 y7);rw [eP,eW,eA,eV,eE] at q7;refine S3 q7 (λ_ s8 ⟨σ8,H8,I8,ag8,q8⟩=> ?_) λ_ _ z=>z
   have q9:=ht X' iX _ s8 σ8 H8 _ I8 q8;rw [eP,eW,eA,eV,eE] at q9;refine S3 q9 (λok s9 ⟨H9,I9,q9⟩=> ?_) λ_ _ z=>z
   have keepT: ∀ {σ':St} {H':Hp} {s':Shared} {us:List Value},Inv X' ([(D,LCg.lst us)]++yJ fp s7.heap) σ' H' s'->tn (i+1) s'.heap/\ ∀b∈fp,H' b=none:=λ{σ' H' s' us} I'=>
    ⟨T.keep _ _ _ st7 λb hb o e=>(I'.pin (b,o) (P3 _ (P3 _ (zT hb e)))).1,λb hb=>by
     obtain⟨o,e,_⟩:=T.obj _ _ st7 b hb;exact(I'.pin (b,o) (P3 _ (P3 _ (zT hb e)))).2.1⟩
   cases ok with
   |false=>
    have q9: ∃m',m'<n/\W (i+1) m' ys H9:=q9;obtain⟨m',hm,w9⟩:=q9;obtain⟨t9,f9⟩:=keepT I9;exact⟨m',hm,i+1,ys,us,H9,hv5,(I9.unpinned).weak ag8.1.symm ag8.2,t9,f9,w9⟩
   |true=>
    have q9:tm σ8 H9 ys λys' H4=> ∃m',m'<n/\W (i+1) m' ys' H4:=q9
    have DX:D∈X'.ex:=by rw [<-hX];exact P3 _ P8
    have pD: ∀p∈X'.pn++yJ fp s7.heap,p.1≠D:=λp hp=>by
     have hp':p∈yJ fp s7.heap:=by rw [<-hX] at hp;simpa [yQ] using hp
     exact S1 (ltf _ (Zl hp').1)
    have cD: ∀x c,X'.env.cells.lookup x=some c->c≠D:=λx c e=>by
     rw [eV] at e;exact(cl x c e).elim (λz=>fD.2.2.2.2.1 x c z) λz=>J5 (J9 (by rw [CD];exact L6 _) z)
    have q10:=he X' iX D _ s9 σ8 H9 ys us _ I9 hv5 hz DX cD pD q9;rw [eP,eW,eA,eV] at q10;show wpAny _ _ (act _ _) _ _ s9;refine S3 q10 (λ_ s10 ⟨ys',us',H10,hv10,I10,m',hm,w10⟩=> ?_) λ_ _ z=>z
    obtain⟨t10,f10⟩:=keepT I10;exact⟨m',hm,i+1,ys',us',H10,hv10,(I10.unpinned).weak ag8.1.symm ag8.2,t10,f10,w10⟩
 exact codeAny_compStart_list (loop _ rfl) (T.self X.A 0 _ _ _ st4 (loop _ rfl))
theorem FH (hc:X.calm=true)(S:BlockOk X scope js)(hi:PI X tg iter wi)
 (hg: ∀X',jp X scope X'->PG X' tg g)(ht: ∀X',jp X scope X'->PTs X' ifs tt)(he: ∀X',jp X scope X'->PE X' elt te)
 (hs: ∀x,foldedSetIterable iter X.env x=pure x:=by intro _;rfl):PE X (.ListComp elt [⟨tg,iter,ifs,0⟩] scope pos) (tLC js wi g tt te):=by
 intro pins s σ H Q I h;rw [eval_ListComp];exact GH (use:=none) hc S hi rfl hg ht (WM elt) (λ_ _ _=>rfl) (λX' hX D=>Yn (by obtain⟨_,_,_,_,rfl⟩:=hX;rfl) (he X' hX)) hs I h
  λD C H' s' m hn hk _ _ _ _ _ _ q=>⟨m,hn,λh' hs'=>⟨.ref D,H',hk h' hs',rfl,q⟩⟩
theorem NQ {e:Expr}{rest:List Comprehension}{pos' spos:Pos}{g':TG}{tm:TM}(hc:X.calm=true)(S:BlockOk X scope js)(hi:PI X tg iter wi)
 (he0:e= .ListComp elt (⟨tg,iter,ifs,0⟩::rest) scope pos)(hg: ∀X',jp X scope X'->PG X' tg g)(ht: ∀X',jp X scope X'->PTs X' ifs tt)
 (act:Env->Value->Sem Unit)(hturn: ∀it acc env,compTurn e 0 it acc env=WL iter tg ifs it env (act env acc) (.compLoop e 0 it acc env))(he: ∀X',jp X scope X'-> ∀D,OJ X' D (act X'.env (.ref D)) tm)
 (hg':PG X (.Name x pos') g')(hsw:swapsWith e (some (.Name x pos')) spos.line X.env=pure true)
 (hs: ∀x,foldedSetIterable iter X.env x=pure x):PS X (.Assign [.Name x pos'] e spos) (Ny (OK js wi g tt tm) g'):=by
 intro pins s σ H Dn I h;rw [exec_Assign_Name_used _ _ _ _ hsw];refine wpAny_bind (U3 (wpAny_bind ?_));subst he0;rw [arm_evalThenUse_ListComp];show wpAny _ X.A (do let _ <-comprehension (.ListComp elt (⟨tg,iter,ifs,0⟩::rest) scope pos) scope X.env _ (newList []) false (eval iter X.env) (some (assign (.Name x pos') X.env))) _ _ s;refine wpAny_bind (S3 (GH (use:=some (assign (.Name x pos') X.env)) (Qv:=λ_ s'=>SP X pins Dn .next s') hc S hi rfl hg ht act hturn he hs I h ?_) (λ_ s' hq=>P1 (P1 hq)) λ_ _ e=>e);intro D C H' s' m hn hk HC nL nf sz ncell npin q;show wpAny _ X.A (assign (.Name x pos') X.env (.ref D)) _ _ s';obtain⟨o,es,ep,ho,hd,hr⟩:=id hn;have I1:Inv X pins σ H' s':=hk s'.heap (Heap.SameBut.refl ..);have I2:Inv X (pins++ [(C,o)]) σ H' s':=I1.pins_of λp hp=>by
  rcases D4.mp hp with z|z
  ·exact I1.pin p (P3 _ z)
  ·rcases G2.mp z with rfl
   exact⟨ho,HC,nL,nf,λv z=>by rw [hd] at z;cases z⟩
 refine S3 (hg' _ s' σ H' (.ref D) (.ref D) _ I2 rfl q) (λ_ s3 ⟨σ3,H3,I3,q3⟩=> ?_) λ_ _ z=>z
 have pC:=I3.pin (C,o) (P3 _ (P3 _ P8));refine⟨m,hn.at' λo' e'=> ?_,λh' hs'=> ?_⟩
 ·rw [ho] at e';cases e';exact pC.1
 ·exact⟨σ3,H3,(I3.unpinned).turned (t':=s3.toks) (it:=C) (λb o hb e=>hs'.extBut b o hb e) pC.2.1 nL (.inr sz) ncell npin,q3⟩
theorem Rj {pos' spos:Pos}{g':TG}(hc:X.calm=true)(S:BlockOk X scope js)(hi:PI X tg iter wi)
 (hg: ∀X',jp X scope X'->PG X' tg g)(ht: ∀X',jp X scope X'->PTs X' ifs tt)(he: ∀X',jp X scope X'->PE X' elt te)
 (hg':PG X (.Name x pos') g')(hsw:swapsWith (.ListComp elt [⟨tg,iter,ifs,0⟩] scope pos) (some (.Name x pos')) spos.line X.env=pure true)
 (hs: ∀x,foldedSetIterable iter X.env x=pure x:=by intro _;rfl):PS X (.Assign [.Name x pos'] (.ListComp elt [⟨tg,iter,ifs,0⟩] scope pos) spos) (Ny (tLC js wi g tt te) g'):=
 NQ hc S hi rfl hg ht (WM elt) (λ_ _ _=>rfl) (λX' hX D=>Yn (by obtain⟨_,_,_,_,rfl⟩:=hX;rfl) (he X' hX)) hg' hsw hs
def GI (e iter:Expr)(env:Env)(acc:Value):Sem Unit:=do
 let x <-eval iter env
 standAt iter.pos
 let x <-foldedSetIterable iter env x
 let _ <-runOwn (.compStart e 1 (<-holding [x] (pyIter x)) acc env) env
def mIn (wi : TI) (g : TG) (tt : TT) (tm : TM) : TM := fun σ H ys Q => wi σ H fun J H1 =>
  ∃ W : Nat → Nat → List V → Hp → Prop, (∃ m, W 0 m ys H1) ∧ ∀ i m ys H, W i m ys H → ys.length ≤ sizeLine ∧
    ((J.stop i H ∧ Q ys H) ∨
     (J.go i H ∧ ∀ x H', J.yld i H x H' → g x σ H' fun σ2 H2 => Agree σ σ2 ∧ tt σ2 H2 fun b H3 =>
        if b = true then tm σ2 H3 ys fun ys' H4 => ∃ m', m' < m ∧ W (i + 1) m' ys' H4 else ∃ m', m' < m ∧ W (i + 1) m' ys H3))
theorem vw {prog:Program}{w:World}{A:Around}{R:Result->Shared->Prop}{s:Shared}{g0 g1:Comprehension}{it acc:Value}(ha:g1.is_async=0)
 (h0:codeAny (model prog w) A (.compLoop (.ListComp elt [g0,g1] scope pos) 1 it acc env) R s)
 (h:wpAny (model prog w) A (pyIter it) (λit' s'=>codeAny (model prog w) A (.compLoop (.ListComp elt [g0,g1] scope pos) 1 it' acc env) R s')
  (notedBy (model prog w) A env λx s'=>R (.error x) s') s):
 codeAny (model prog w) A (.compStart (.ListComp elt [g0,g1] scope pos) 1 it acc env) R s:=by
 obtain⟨tg,iter,ifs,as⟩:=g1;cases (show as=0 from ha);refine codeAny_of_tree (wpAny_notedAt ?_);obtain⟨hp,g,d,tk,os⟩:=s;unfold compStart
 wp_walk
 refine wpAny_askSetting ?_;split
 ·exact P1 ⟨rfl,h0⟩
 ·exact wpAny_bind (X5 (wpAny_bind (U3 (wpAny_bind (S3 h (λ_ _ on=>P1 ⟨rfl,on⟩) λ_ _ x=>x)))))
theorem NR {D:Addr}{g0:Comprehension}(hc:X.calm=true)(hx:X.xe=λ_ _=>False)
 (hi:PI X tg iter wi)(hg:PG X tg g)(ht:PTs X ifs tt)(he:PE X elt te)(hs: ∀x,foldedSetIterable iter X.env x=pure x):
 OJ X D (GI (.ListComp elt [g0,⟨tg,iter,ifs,0⟩] scope pos) iter X.env (.ref D)) (mIn wi g tt (FG te)):=by
 intro pins s σ H ys us Q I hv hz DX cD pD h;have q:=hi _ s σ H _ I h;rw [hx] at q;unfold GI;refine wpAny_bind (S3 q (λv s1 h1=>wpAny_bind (U3 (wpAny_bind (wpAny_of_eq (hs v) (wpAny_bind (C0 (S3 h1 (λitv s2 h2=> ?_) λ_ _ z=>z))))))) λ_ _ z=>z);obtain⟨it,fp,tn,J,H2,e,I2,T,st2,f2,W,⟨m0,w0⟩,turn⟩:=h2;subst e;refine wpAny_bind (wpAny_runOwn ?_);have neD: ∀b∈fp,b≠D:=λb hb=>by
  have z:=(f2 b hb).2.2.2.2.2 (D,LCg.lst us) (P3 _ (T1 _ P8));exact Ne.symm z
 have stat: ∀ {us':List Value} {H':Hp},(∀b∈fp,H' b=none)-> ∀b∈fp,Gh X ([(D,LCg.lst us')]++pins) H' b:=λ{us' H'} hn b hb=>by
  have q:=f2 b hb;refine⟨hn b hb,q.2.1,q.2.2.1,q.2.2.2.1,q.2.2.2.2.1,λp hp=> ?_⟩;rcases D4.mp hp with z|z
  ·exact q.2.2.2.2.2 p (T1 _ z)
  ·rcases D4.mp z with z|z
   ·rcases G2.mp z with rfl
    exact Ne.symm (neD b hb)
   ·exact q.2.2.2.2.2 p (P3 _ (P3 _ z))
 have loop:codeAny (model X.prog X.w) X.A (.compLoop (.ListComp elt [g0,⟨tg,iter,ifs,0⟩] scope pos) 1 (.ref it) (.ref D) X.env)
  (λr s'=>match r with| .ok f=>wpAny (model X.prog X.w) X.A (pure ()) (λ_ s'=> ∃ys' us' H',Vals ys' us'/\Inv X ([(D,LCg.lst us')]++pins) σ H' s'/\Q ys' H') (λ_ _=>False) s'| .error e=>cameBackBy (model X.prog X.w) X.A X.env (λ_ _=>False) e s') s2:=by
  refine Xu (act:=WM elt X.env (.ref D)) (λn s'=> ∃i ys us H',Vals ys us/\Inv X ([(D,LCg.lst us)]++pins) σ H' s'/\tn i s'.heap/\(∀b∈fp,H' b=none)/\W i n ys H') rfl ?_ m0
   ⟨0,ys,us,H2,hv,I2,st2,λb hb=>(f2 b hb).1,w0⟩
  rintro n s5 ⟨i,ys,us,H5,hv5,I5,st5,fr5,w5⟩;obtain⟨hz,tr⟩:=turn i n ys H5 w5;rcases tr with ⟨stop,qn⟩|⟨go,step⟩
  ·refine S3 (T.done X rfl rfl rfl hc i _ s5 _ H5 (λ_ _=>False) I5 (stat fr5) st5 stop) (λr s6 ⟨hr,I6⟩=> ?_) λ_ _ z=>z
   subst hr;exact P1 ⟨ys,us,H5,hv5,I6,qn⟩
  ·refine S3 (T.item X rfl rfl rfl hc i _ s5 _ H5 (λ_ _=>False) I5 (stat fr5) st5 go) (λr s6 ⟨u,hr,h6⟩=> ?_) λ_ _ z=>z
   subst hr;refine S3 h6 (λ_ s7 ⟨x,H7,I7,r7,y7,st7,fr7⟩=> ?_) λ_ _ z=>z
   have I7':=I7.pinned (stat fr7) (T.obj _ _ st7);have q7:=hg _ s7 _ H7 x u _ I7' r7 (step x H7 y7);rw [hx] at q7;refine S3 q7 (λ_ s8 ⟨σ8,H8,I8,ag8,q8⟩=> ?_) λ_ _ z=>z
   have q9:=ht _ s8 σ8 H8 _ I8 q8;rw [hx] at q9;refine S3 q9 (λok s9 ⟨H9,I9,q9⟩=> ?_) λ_ _ z=>z
   have keepT: ∀ {σ':St} {H':Hp} {s':Shared} {us:List Value},Inv X (([(D,LCg.lst us)]++pins)++yJ fp s7.heap) σ' H' s'->tn (i+1) s'.heap/\ ∀b∈fp,H' b=none:=λ{σ' H' s' us} I'=>
    ⟨T.keep _ _ _ st7 λb hb o e=>(I'.pin (b,o) (P3 _ (P3 _ (zT hb e)))).1,λb hb=>by
     obtain⟨o,e,_⟩:=T.obj _ _ st7 b hb;exact(I'.pin (b,o) (P3 _ (P3 _ (zT hb e)))).2.1⟩
   cases ok with
   |false=>
    have q9: ∃m',m'<n/\W (i+1) m' ys H9:=q9;obtain⟨m',hm,w9⟩:=q9;obtain⟨t9,f9⟩:=keepT I9;exact⟨m',hm,i+1,ys,us,H9,hv5,(I9.unpinned).weak ag8.1.symm ag8.2,t9,f9,w9⟩
   |true=>
    have q9:FG te σ8 H9 ys λys' H4=> ∃m',m'<n/\W (i+1) m' ys' H4:=q9
    have pD': ∀p∈X.pn++(pins++yJ fp s7.heap),p.1≠D:=λp hp=>by
     rcases D4.mp hp with z|z
     ·exact pD p (T1 _ z)
     ·rcases D4.mp z with z|z
      ·exact pD p (P3 _ z)
      ·exact neD _ (Zl z).1
    rw [G8] at I9;have q10:=Yn (D:=D) hx he (pins++yJ fp s7.heap) s9 σ8 H9 ys us _ I9 hv5 hz DX cD pD' q9;show wpAny _ _ (WM _ _ _) _ _ s9;refine S3 q10 (λ_ s10 ⟨ys',us',H10,hv10,I10,m',hm,w10⟩=> ?_) λ_ _ z=>z
    rw [<-G8] at I10;obtain⟨t10,f10⟩:=keepT I10;exact⟨m',hm,i+1,ys',us',H10,hv10,(I10.unpinned).weak ag8.1.symm ag8.2,t10,f10,w10⟩
 exact vw rfl loop (T.self X.A 0 _ _ _ st2 loop)
theorem NS (elt iter tg iter' tg':Expr)(ifs ifs':List Expr)(scope:Scope)(pos:Pos)(it acc:Value)(env:Env):
 compTurn (.ListComp elt [⟨tg,iter,ifs,0⟩,⟨tg',iter',ifs',0⟩] scope pos) 0 it acc env=
  WL iter tg ifs it env (GI (.ListComp elt [⟨tg,iter,ifs,0⟩,⟨tg',iter',ifs',0⟩] scope pos) iter' env acc) (.compLoop (.ListComp elt [⟨tg,iter,ifs,0⟩,⟨tg',iter',ifs',0⟩] scope pos) 0 it acc env):=by
 unfold WL GI;simp only [bind_assoc,pure_bind];rfl
def Am (js:List Nat)(wi:TI)(g:TG)(tt:TT)(wi':TI)(g':TG)(tt':TT)(te:TE):TE:=OK js wi g tt (mIn wi' g' tt' (FG te))
theorem FI {iter' tg':Expr}{ifs':List Expr}{wi':TI}{g':TG}{tt':TT}(hc:X.calm=true)(S:BlockOk X scope js)(hi:PI X tg iter wi)
 (hg: ∀X',jp X scope X'->PG X' tg g)(ht: ∀X',jp X scope X'->PTs X' ifs tt)(hi': ∀X',jp X scope X'->PI X' tg' iter' wi')
 (hg': ∀X',jp X scope X'->PG X' tg' g')(ht': ∀X',jp X scope X'->PTs X' ifs' tt')(he: ∀X',jp X scope X'->PE X' elt te)
 (hs: ∀x,foldedSetIterable iter X.env x=pure x:=by intro _;rfl)(hs': ∀env x,foldedSetIterable iter' env x=pure x:=by intro _ _;rfl):
 PE X (.ListComp elt [⟨tg,iter,ifs,0⟩,⟨tg',iter',ifs',0⟩] scope pos) (Am js wi g tt wi' g' tt' te):=by
 intro pins s σ H Q I h;rw [eval_ListComp];exact GH (use:=none) hc S hi rfl hg ht (λenv acc=>GI (.ListComp elt [⟨tg,iter,ifs,0⟩,⟨tg',iter',ifs',0⟩] scope pos) iter' env acc) (λ_ _ _=>NS ..)
  (λX' hX D=>NR (by obtain⟨_,_,_,_,rfl⟩:=hX;exact hc) (by obtain⟨_,_,_,_,rfl⟩:=hX;rfl) (hi' X' hX) (hg' X' hX) (ht' X' hX) (he X' hX) (hs' _)) hs I h
  λD C H' s' m hn hk _ _ _ _ _ _ q=>⟨m,hn,λh' hs'=>⟨.ref D,H',hk h' hs',rfl,q⟩⟩
inductive D where
 |non|bl (b:Bool)|int (i:Int)|str (x:Str)|tup (ds:List D)|lst (a:Addr)|dic (x:Str) (i:Int)|dct (a:Addr)|scr (ns:List Int)|exc (C:Addr)|fn (a:Addr)
def Scr (K:PySem.W.Frag)(H:Hp)(a:Addr)(ns:List Int):Prop:=
 (∃o,H a=some (.frz o (.lst (ns.map V.int))))\/
  ∃ (o:Obj) (its:Array Value) (n:Nat),K.lookup a=some o/\o.cls= .type "list" /\o.dict=none/\o.data= .seq its n/\its.size<=sizeLine/\Vals (ns.map V.int) its.toList
theorem Scr.sq {K:PySem.W.Frag}{H:Hp}{a:Addr}{ns:List Int}(h:Scr K H a ns):SqL K H a (ns.map V.int):=h.elim (λz=> .inl (.inr z)) .inr
mutual
def RelD (K:PySem.W.Frag)(H:Hp):D->V->Prop
 | .non,v=>v= .non
 | .bl b,v=>v= .bl b
 | .int i,v=>v= .int i
 | .str x,v=>v= .str x
 | .tup ds,v=> ∃a vs,v= .ref a/\H a=some (.tup vs)/\RelDs K H ds vs
 | .lst a,v=>v= .ref a/\ ∃vs,H a=some (.lst vs)
 | .dic x i,v=> ∃a,v= .ref a/\H a=some (.dK [(Sum.inr x,V.int i)])
 | .dct a,v=>v= .ref a
 | .scr ns,v=> ∃a,v= .ref a/\Scr K H a ns
 | .exc C,v=> ∃x o vs,v= .ref x/\H x=some (.frz o (.own 0))/\o.cls= .ref C/\o.data= .fields vs
 | .fn a,v=>v= .ref a/\PySem.W.keepIn K (.ref a)=true
def RelDs (K:PySem.W.Frag)(H:Hp):List D->List V->Prop
 | [],vs=>vs= []
 |d::ds,vs=> ∃v r,vs=v::r/\RelD K H d v/\RelDs K H ds r
end
structure Kept (H H':Hp):Prop where
 tup: ∀a xs,H a=some (.tup xs)->H' a=some (.tup xs)
 lst: ∀a xs,H a=some (.lst xs)-> ∃ys,H' a=some (.lst ys)
 dic: ∀a x i,H a=some (.dK [(Sum.inr x,V.int i)])->H' a=some (.dK [(Sum.inr x,V.int i)])
 frz: ∀a o u,H a=some (.frz o u)->H' a=some (.frz o u)
theorem Kept.refl (H:Hp):Kept H H:=⟨λ_ _ h=>h,λ_ xs h=>⟨xs,h⟩,λ_ _ _ h=>h,λ_ _ _ h=>h⟩
theorem Kept.trans {A B C:Hp}(x:Kept A B)(y:Kept B C):Kept A C:=
 ⟨λa xs h=>y.tup a xs (x.tup a xs h),λa xs h=>let ⟨_,e⟩:=x.lst a xs h;y.lst a _ e,λa k i h=>y.dic a k i (x.dic a k i h),λa o u h=>y.frz a o u (x.frz a o u h)⟩
theorem Kept.new {H:Hp}{p:Addr}{o:HO}(h:H p=none):Kept H (upd H p o):=
 ⟨λa xs e=>by rw [jt (jl e h)];exact e,λa xs e=>⟨xs,by rw [jt (jl e h)];exact e⟩,λa k i e=>by rw [jt (jl e h)];exact e,λa o u e=>by rw [jt (jl e h)];exact e⟩
theorem Kept.put {H:Hp}{p:Addr}{xs ys:List V}(h:H p=some (.lst xs)):Kept H (upd H p (.lst ys)):=
 ⟨λa zs e=>by rw [jt (Qh e h (by intro z;cases z))];exact e,λa zs e=>by
  by_cases q:a=p
  ·subst q;exact⟨ys,jq⟩
  ·exact⟨zs,by rw [jt q];exact e⟩,
  λa k i e=>by rw [jt (Qh e h (by intro z;cases z))];exact e,λa o u e=>by rw [jt (Qh e h (by intro z;cases z))];exact e⟩
def DObj (o:HO):Prop:=(∃kvs:List (Int×V),o= .dK (kvs.map λp=>((Sum.inl p.1:Key),p.2)))\/ ∃φ,o= .ext φ
theorem DObj.no {o:HO}(d:DObj o):(∀xs,o≠ .tup xs)/\(∀xs,o≠ .lst xs)/\(∀x i,o≠ .dK [(Sum.inr x,V.int i)])/\(∀p u,o≠ .frz p u)/\ ∀ps,o≠ .tbl ps:=by
 rcases d with ⟨kvs,rfl⟩|⟨φ,rfl⟩
 ·refine⟨λ_ z=>(nomatch z),λ_ z=>(nomatch z),λx i z=> ?_,λ_ _ z=>(nomatch z),λ_ z=>(nomatch z)⟩;injection z with z
  cases kvs with
  |nil=>cases z
  |cons p r=>injection z with z _;injection z with z _;cases z
 ·exact⟨λ_ z=>(nomatch z),λ_ z=>(nomatch z),λ_ _ z=>(nomatch z),λ_ _ z=>(nomatch z),λ_ z=>(nomatch z)⟩
mutual
theorem RelD.mono {K:PySem.W.Frag}{H H':Hp}(k:Kept H H'): ∀ {d:D} {v:V},RelD K H d v->RelD K H' d v
 | .non,_,h=>h
 | .bl _,_,h=>h
 | .int _,_,h=>h
 | .str _,_,h=>h
 | .tup ds,v,h=>by
  obtain⟨a,vs,e,h1,h2⟩:=(show ∃a vs,v= .ref a/\H a=some (.tup vs)/\RelDs K H ds vs from h);exact⟨a,vs,e,k.tup _ _ h1,RelDs.mono k h2⟩
 | .lst a,v,h=>by
  obtain⟨e,vs,h1⟩:=(show v= .ref a/\ ∃vs,H a=some (.lst vs) from h);exact⟨e,k.lst _ _ h1⟩
 | .dic x i,v,h=>by
  obtain⟨a,e,h1⟩:=(show ∃a,v= .ref a/\H a=some (.dK [(Sum.inr x,V.int i)]) from h);exact⟨a,e,k.dic _ _ _ h1⟩
 | .dct a,v,h=>h
 | .scr ns,v,h=>by
  obtain⟨a,e,h1⟩:=(show ∃a,v= .ref a/\Scr K H a ns from h);exact⟨a,e,h1.elim (λ⟨o,z⟩=> .inl ⟨o,k.frz _ _ _ z⟩) .inr⟩
 | .exc C,v,h=>by
  obtain⟨x,o,vs,e,h1,r⟩:=(show ∃x o vs,v= .ref x/\H x=some (.frz o (.own 0))/\o.cls= .ref C/\o.data= .fields vs from h);exact⟨x,o,vs,e,k.frz _ _ _ h1,r⟩
 | .fn a,v,h=>h
theorem RelDs.mono {K:PySem.W.Frag}{H H':Hp}(k:Kept H H'): ∀ {ds:List D} {vs:List V},RelDs K H ds vs->RelDs K H' ds vs
 | [],_,h=>h
 |d::ds,vs,h=>by
  obtain⟨v,r,e,h1,h2⟩:=(show ∃v r,vs=v::r/\RelD K H d v/\RelDs K H ds r from h);exact⟨v,r,e,RelD.mono k h1,RelDs.mono k h2⟩
end
section
variable {K:PySem.W.Frag}{H:Hp}
theorem RelDs.nil:RelDs K H [] []:=rfl
theorem RelDs.cons {d:D}{v:V}{ds:List D}{vs:List V}(h:RelD K H d v)(t:RelDs K H ds vs):RelDs K H (d::ds) (v::vs):=⟨v,vs,rfl,h,t⟩
theorem RelDs.length: ∀ {ds:List D} {vs:List V},RelDs K H ds vs->ds.length=vs.length
 | [],_,h=>by cases (show _= [] from h);rfl
 |d::ds,vs,h=>by
  obtain⟨v,r,e,_,h2⟩:=(show ∃v r,vs=v::r/\RelD K H d v/\RelDs K H ds r from h);subst e;simp [RelDs.length h2]
theorem RelDs.append: ∀ {ds es:List D} {vs us:List V},RelDs K H ds vs->RelDs K H es us->RelDs K H (ds++es) (vs++us)
 | [],_,_,_,h,g=>by cases (show _= [] from h);exact g
 |d::ds,es,vs,us,h,g=>by
  obtain⟨v,r,e,h1,h2⟩:=(show ∃v r,vs=v::r/\RelD K H d v/\RelDs K H ds r from h);subst e;exact .cons h1 (RelDs.append h2 g)
theorem RelDs.get: ∀ {ds:List D} {vs:List V} {i:Nat} {d:D},RelDs K H ds vs->ds[i]? =some d-> ∃v,vs[i]? =some v/\RelD K H d v
 |d'::ds,vs,i,d,h,e=>by
  obtain⟨v,r,q,h1,h2⟩:=(show ∃v r,vs=v::r/\RelD K H d' v/\RelDs K H ds r from h);subst q;cases i with
  |zero=>simp at e;subst e;exact⟨v,rfl,h1⟩
  |succ i=>
   obtain⟨u,q1,q2⟩:=RelDs.get h2 (i:=i) (d:=d) (by simpa using e);exact⟨u,by simpa using q1,q2⟩
theorem RelDs.take (n:Nat): ∀ {ds:List D} {vs:List V},RelDs K H ds vs->RelDs K H (ds.take n) (vs.take n):=by
 induction n with
 |zero=>intro ds vs _;exact(rfl:RelDs K H [] [])
 |succ n ih=>
  intro ds vs h;cases ds with
  |nil=>cases (show vs= [] from h);exact .nil
  |cons d ds=>
   obtain⟨v,r,e,h1,h2⟩:=(show ∃v r,vs=v::r/\RelD K H d v/\RelDs K H ds r from h);subst e;exact .cons h1 (ih h2)
theorem RelDs.drop (n:Nat): ∀ {ds:List D} {vs:List V},RelDs K H ds vs->RelDs K H (ds.drop n) (vs.drop n):=by
 induction n with
 |zero=>intro ds vs h;exact h
 |succ n ih=>
  intro ds vs h;cases ds with
  |nil=>cases (show vs= [] from h);exact .nil
  |cons d ds=>
   obtain⟨v,r,e,h1,h2⟩:=(show ∃v r,vs=v::r/\RelD K H d v/\RelDs K H ds r from h);subst e;exact ih h2
theorem RelDs.set {d:D}{v:V}(q:RelD K H d v): ∀ {ds:List D} {vs:List V} (i:Nat),RelDs K H ds vs->RelDs K H (ds.set i d) (vs.set i v)
 | [],_,_,h=>by cases (show _= [] from h);exact .nil
 |e::ds,vs,i,h=>by
  obtain⟨u,r,z,h1,h2⟩:=(show ∃u r,vs=u::r/\RelD K H e u/\RelDs K H ds r from h);subst z;cases i with
  |zero=>exact .cons q h2
  |succ i=>exact .cons h1 (RelDs.set q i h2)
theorem wC: ∀ns:List Int,RelDs K H (ns.map D.int) (ns.map V.int)
 | []=> .nil
 |n::ns=> .cons rfl (wC ns)
end
inductive DC where
 |ik (kv:List (Int×D))
 |tk (kv:List (List (List Int)×D))
structure HD where
 ls:Addr->Option (List D)
 dc:Addr->Option DC
instance:CoeFun HD λ_=>Addr->Option (List D):=⟨HD.ls⟩
def zC (h:HD)(a:Addr)(ds:List D):HD:=⟨λb=>if b=a then some ds else h b,h.dc⟩
def Wv (h:HD)(a:Addr):HD:=⟨λb=>if b=a then none else h b,h.dc⟩
theorem jc {h:HD}{a:Addr}{ds:List D}:zC h a ds a=some ds:=if_pos rfl
theorem zW {h:HD}{a b:Addr}{ds:List D}(e:b≠a):zC h a ds b=h b:=if_neg e
theorem za {h:HD}{a:Addr}{ds:List D}(e:h a=none):Wv (zC h a ds) a=h:=by
 obtain⟨l,d⟩:=h;refine congrArg (HD.mk · d) ?_
 funext b
 show (if b=a then none else if b=a then some ds else l b)=l b
 by_cases q:b=a
 ·subst q;rw [if_pos rfl];exact e.symm
 ·rw [if_neg q,if_neg q]
def LN:List Str:= ["law","_law_right","_law_words","_law_other_words","_law_many_right","_law_all","_law_told_row","_law_all_right","_law_desk_right","_law_signs_right","_law_lists_right","_law_text_right"]
def TabK (K:PySem.W.Frag)(P:Addr):Prop:= ∃x∈LN,∃c,PySem.W.tabIn K x=some (c,P)
def CodesOk (H:Hp)(ps:Array Value):Prop:=TriplesOk ps.toList/\ ∀pos cv,codeAmong pos ps.toList=some cv-> ∃ (c:Addr) (o:Obj) (vs:Array Value) (q:Str) (t:Tok),cv= .ref c/\H c=some (.frz o (.own 0))/\o.data= .fields vs/\vs[1]? =some (.str q t)
def CTabs (K:PySem.W.Frag)(H:Hp):Prop:= ∀P,TabK K P-> ∃ps,H P=some (.tbl ps)/\CodesOk H ps
theorem CodesOk.mono {H H':Hp}{ps:Array Value}(k: ∀a o u,H a=some (.frz o u)->H' a=some (.frz o u))(c:CodesOk H ps):CodesOk H' ps:=
 ⟨c.1,λpos cv e=>let ⟨c',o,vs,q,t,e1,e2,r⟩:=c.2 pos cv e;⟨c',o,vs,q,t,e1,k _ _ _ e2,r⟩⟩
theorem CTabs.mono {K:PySem.W.Frag}{H H':Hp}(x:CTabs K H)(k: ∀a o u,H a=some (.frz o u)->H' a=some (.frz o u))(kt: ∀a ps,H a=some (.tbl ps)->H' a=some (.tbl ps)):CTabs K H':=λP hP=>
 let ⟨ps,e,c⟩:=x P hP;⟨ps,kt _ _ e,c.mono k⟩
theorem CTabs.new {K:PySem.W.Frag}{H:Hp}{p:Addr}{o:HO}(x:CTabs K H)(e:H p=none):CTabs K (upd H p o):=
 x.mono (λa o' u h=>by rw [jt (jl h e)];exact h) λa ps h=>by rw [jt (jl h e)];exact h
theorem CTabs.put {K:PySem.W.Frag}{H:Hp}{p:Addr}{o:HO}{xs:List V}(x:CTabs K H)(e:H p=some (.lst xs)):CTabs K (upd H p o):=
 x.mono (λa o' u h=>by rw [jt (Qh h e (by intro z;cases z))];exact h) λa ps h=>by rw [jt (Qh h e (by intro z;cases z))];exact h
def NT (T:List (List Int)):Int:=reduceHash (Builtin.Tuple.tupleHashOf (T.map λr=>reduceHash (Builtin.Tuple.tupleHashOf (r.map hashInt))))
def So (a:Addr)(xs:List (List (List Int)×Addr×V)):HO:= .ext λh=>(a==sysModules)=false/\xs.length<=sizeLine/\ ∃ys:List (List (List Int)×Addr×Value),Paired (λp q=>p.1=q.1/\p.2.1=q.2.1/\RelV p.2.2 q.2.2) xs ys/\
 ∃o es ep,h.get? a=some o/\o.ExactDict/\o.data= .dict es ep/\es.toList=ys.map λx=>⟨NT x.1,.ref x.2.1,x.2.2⟩
def DRel (K:PySem.W.Frag)(H:Hp)(a:Addr):DC->Prop
 | .ik kv=> ∃kvs:List (Int×V),H a=some (.dK (kvs.map λp=>((Sum.inl p.1:Key),p.2)))/\kv.map (·.1)=kvs.map (·.1)/\RelDs K H (kv.map (·.2)) (kvs.map (·.2))
 | .tk kv=> ∃xs:List (List (List Int)×Addr×V),H a=some (So a xs)/\(kv.map (·.1)).Nodup/\kv.map (·.1)=xs.map (·.1)/\(∀x∈xs,RelD K H (.tup (x.1.map λr=> .tup (r.map D.int))) (.ref x.2.1))/\RelDs K H (kv.map (·.2)) (xs.map (·.2.2))
theorem DRel.obj {K:PySem.W.Frag}{H:Hp}{a:Addr}: ∀ {c:DC},DRel K H a c-> ∃o,H a=some o/\DObj o
 | .ik _,⟨kvs,e,_⟩=>⟨_,e,.inl ⟨kvs,rfl⟩⟩
 | .tk _,⟨xs,e,_⟩=>⟨_,e,.inr ⟨_,rfl⟩⟩
theorem DRel.mono {K:PySem.W.Frag}{H H':Hp}{a:Addr}(k:Kept H H')(z: ∀o,H a=some o->H' a=some o): ∀ {c:DC},DRel K H a c->DRel K H' a c
 | .ik _,⟨kvs,e,q,r⟩=>⟨kvs,z _ e,q,r.mono k⟩
 | .tk _,⟨xs,e,n,q,t,r⟩=>⟨xs,z _ e,n,q,λx hx=>(t x hx).mono k,r.mono k⟩
structure RelH (K:PySem.W.Frag)(h:HD)(H:Hp):Prop where
 ls: ∀a ds,h a=some ds-> ∃vs,H a=some (.lst vs)/\RelDs K H ds vs
 tb:CTabs K H
 dc: ∀a c,h.dc a=some c->DRel K H a c
instance {K:PySem.W.Frag}{h:HD}{H:Hp}:CoeFun (RelH K h H) λ_=> ∀a ds,h a=some ds-> ∃vs,H a=some (.lst vs)/\RelDs K H ds vs:=⟨RelH.ls⟩
structure Sub (h h':HD):Prop where
 ls: ∀a ds,h a=some ds->h' a=some ds
 dc: ∀a c,h.dc a=some c->h'.dc a=some c
instance {h h':HD}:CoeFun (Sub h h') λ_=> ∀a ds,h a=some ds->h' a=some ds:=⟨Sub.ls⟩
theorem Sub.refl (h:HD):Sub h h:=⟨λ_ _ e=>e,λ_ _ e=>e⟩
theorem Sub.trans {a b c:HD}(x:Sub a b)(y:Sub b c):Sub a c:=⟨λd ds e=>y d ds (x d ds e),λd ds e=>y.dc d ds (x.dc d ds e)⟩
theorem Sub.drop (h:HD)(a:Addr):Sub (Wv h a) h:=⟨λb ds e=>by
 have e:(if b=a then none else h b)=some ds:=e;split at e
 ·cases e
 ·exact e,λ_ _ e=>e⟩
theorem Sub.new {h:HD}{p:Addr}{ds:List D}(e:h p=none):Sub h (zC h p ds):=⟨λa es q=>(by
 rw [zW];exact q;intro z;subst z;rw [e] at q;cases q),λ_ _ e=>e⟩
section
variable {K:PySem.W.Frag}{h h':HD}{H:Hp}
theorem RelH.sub (r:RelH K h H)(s:Sub h' h):RelH K h' H:=⟨λa ds e=>r a ds (s a ds e),r.tb,λa c e=>r.dc a c (s.dc a c e)⟩
theorem RelH.free (r:RelH K h H){p:Addr}(e:H p=none):h p=none:=by
 cases q:h p with
 |none=>rfl
 |some ds=>obtain⟨vs,z,_⟩:=r p ds q;rw [e] at z;cases z
theorem RelH.dcN (r:RelH K h H){p:Addr}{o:HO}(e:H p=none): ∀a c,h.dc a=some c->DRel K (upd H p o) a c:=λa c q=>
 (r.dc a c q).mono (.new e) λu z=>by rw [jt (jl z e)];exact z
theorem RelH.new (r:RelH K h H){p:Addr}{o:HO}(e:H p=none):RelH K h (upd H p o):=⟨λa ds q=>by
 obtain⟨vs,z,w⟩:=r a ds q;exact⟨vs,by rw [jt (jl z e)];exact z,w.mono (.new e)⟩,r.tb.new e,r.dcN e⟩
theorem RelH.newL (r:RelH K h H){p:Addr}{ds:List D}{vs:List V}(e:H p=none)(q:RelDs K H ds vs):RelH K (zC h p ds) (upd H p (.lst vs)):=⟨λa es z=>by
 by_cases w:a=p
 ·subst w;rw [jc] at z;cases z;exact⟨vs,jq,q.mono (.new e)⟩
 ·rw [zW w] at z;obtain⟨us,z1,z2⟩:=r a es z;exact⟨us,by rw [jt w];exact z1,z2.mono (.new e)⟩,r.tb.new e,r.dcN e⟩
theorem RelH.put (r:RelH K h H){p:Addr}{ds:List D}{vs us:List V}(e:H p=some (.lst us))(q:RelDs K H ds vs):RelH K (zC h p ds) (upd H p (.lst vs)):=⟨λa es z=>by
 by_cases w:a=p
 ·subst w;rw [jc] at z;cases z;exact⟨vs,jq,q.mono (.put e)⟩
 ·rw [zW w] at z;obtain⟨us,z1,z2⟩:=r a es z;exact⟨us,by rw [jt w];exact z1,z2.mono (.put e)⟩,r.tb.put e,λa c z=>(r.dc a c z).mono (.put e) λo w=>by
   obtain⟨u,w',d⟩:=(r.dc a c z).obj;rw [jt (Qh w' e (d.no.2.1 _))];exact w⟩
end
abbrev SD:=List (Option D)
def RelS (K:PySem.W.Frag)(H:Hp)(σd:SD)(σ:St):Prop:=σd.length=σ.length/\ ∀ (i:Nat) (d:D),σd[i]? =some (some d)-> ∃v,σ[i]? =some (some v)/\RelD K H d v
theorem RelS.mono {K:PySem.W.Frag}{H H':Hp}{σd:SD}{σ:St}(r:RelS K H σd σ)(k:Kept H H'):RelS K H' σd σ:=⟨r.1,λi d e=>let ⟨v,a,b⟩:=r.2 i d e;⟨v,a,b.mono k⟩⟩
theorem RelS.set {K:PySem.W.Frag}{H:Hp}{σd:SD}{σ:St}{d:D}{v:V}(r:RelS K H σd σ)(q:RelD K H d v)(i:Nat):RelS K H (σd.set i (some d)) (σ.set i (some v)):=⟨by simp [r.1],λj e h=>by
 by_cases z:i=j
 ·subst z;rw [V6] at h ⊢
  by_cases hl:i<σd.length
  ·rw [if_pos rfl,if_pos hl] at h;rw [if_pos rfl,if_pos (by rw [<-r.1];exact hl)];cases h;exact⟨v,rfl,q⟩
  ·rw [if_pos rfl,if_neg hl] at h;cases h
 ·rw [B3 z] at h ⊢;exact r.2 j e h⟩
theorem RelS.clear1 {K:PySem.W.Frag}{H:Hp}{σd:SD}{σ:St}(r:RelS K H σd σ)(i:Nat):RelS K H (σd.set i none) (σ.set i none):=⟨by simp [r.1],λj e h=>by
 by_cases z:i=j
 ·subst z;rw [V6] at h;split at h
  ·split at h<;>cases h
  ·contradiction
 ·rw [B3 z] at h ⊢;exact r.2 j e h⟩
def jJ:List Nat->SD->SD
 | [],σ=>σ
 |j::js,σ=>jJ js (σ.set j none)
theorem RelS.clear {K:PySem.W.Frag}{H:Hp}: ∀ (js:List Nat) {σd:SD} {σ:St},RelS K H σd σ->RelS K H (jJ js σd) (zN js σ)
 | [],_,_,r=>r
 |j::js,_,_,r=>RelS.clear js (r.clear1 j)
abbrev KD:=D->HD->Prop
abbrev TED:=SD->HD->KD->Prop
abbrev TTD:=SD->HD->(Bool->HD->Prop)->Prop
abbrev TAD:=SD->HD->(List D->HD->Prop)->Prop
abbrev RD2:=D->D->HD->KD->Prop
abbrev RDn:=List D->HD->KD->Prop
structure EndsD where
 nx:SD->HD->Prop
 rt:KD
 bk:SD->HD->Prop:=λ_ _=>False
 ct:SD->HD->Prop:=λ_ _=>False
abbrev TSD:=EndsD->SD->HD->Prop
abbrev TGD:=D->SD->HD->(SD->HD->Prop)->Prop
def NU (K:PySem.W.Frag)(H:Hp)(Qd:KD)(Q:VK):Prop:= ∀d v h' H',Kept H H'->RelH K h' H'->RelD K H' d v->Qd d h'->Q v H'
def LE (K:PySem.W.Frag)(t:TED):TE:=λσ H Q=> ∃σd h Qd,RelS K H σd σ/\RelH K h H/\t σd h Qd/\NU K H Qd Q
def LT (K:PySem.W.Frag)(t:TTD):TT:=λσ H Q=> ∃σd h Qd,RelS K H σd σ/\RelH K h H/\t σd h Qd/\ ∀b h' H',Kept H H'->RelH K h' H'->Qd b h'->Q b H'
def LA (K:PySem.W.Frag)(t:TAD):TA:=λσ H Q=> ∃σd h Qd,RelS K H σd σ/\RelH K h H/\t σd h Qd/\ ∀ds vs h' H',Kept H H'->RelH K h' H'->RelDs K H' ds vs->Qd ds h'->Q vs H'
def LR (K:PySem.W.Frag)(f:RD2):R2:=λx y H Q=> ∃dx dy h Qd,RelD K H dx x/\RelD K H dy y/\RelH K h H/\f dx dy h Qd/\NU K H Qd Q
def LC (K:PySem.W.Frag)(f:RDn):List V->Hp->VK->Prop:=λxs H Q=> ∃ds h Qd,RelDs K H ds xs/\RelH K h H/\f ds h Qd/\NU K H Qd Q
def LG (K:PySem.W.Frag)(g:TGD):TG:=λv σ H Q=> ∃d σd h Qd,RelD K H d v/\RelS K H σd σ/\RelH K h H/\g d σd h Qd/\ ∀σd' h' σ' H',Kept H H'->RelS K H' σd' σ'->RelH K h' H'->Qd σd' h'->Q σ' H'
def LS (K:PySem.W.Frag)(t:TSD):TS:=λD₀ σ H=> ∃σd h Dd,RelS K H σd σ/\RelH K h H/\t Dd σd h/\
 (∀σd' h' σ' H',Kept H H'->RelS K H' σd' σ'->RelH K h' H'->Dd.nx σd' h'->D₀.nx σ' H')/\NU K H Dd.rt D₀.rt/\
 (∀σd' h' σ' H',Kept H H'->RelS K H' σd' σ'->RelH K h' H'->Dd.bk σd' h'->D₀.bk σ' H')/\(∀σd' h' σ' H',Kept H H'->RelS K H' σd' σ'->RelH K h' H'->Dd.ct σd' h'->D₀.ct σ' H')
theorem PE.imp {X:Cx}{e:Expr}{t t':TE}(h:PE X e t)(i: ∀σ H Q,t' σ H Q->t σ H Q):PE X e t':=λpins s σ H Q I q=>h pins s σ H Q I (i σ H Q q)
theorem PT.imp {X:Cx}{e:Expr}{t t':TT}(h:PT X e t)(i: ∀σ H Q,t' σ H Q->t σ H Q):PT X e t':=λpins s σ H Q I q=>h pins s σ H Q I (i σ H Q q)
theorem PW.imp {X:Cx}{e:Expr}{t t':TT}(h:PW X e t)(i: ∀σ H Q,t' σ H Q->t σ H Q):PW X e t':=λwh pins s σ H Q I q=>h wh pins s σ H Q I (i σ H Q q)
theorem PA.imp {X:Cx}{e:List Expr}{t t':TA}(h:PA X e t)(i: ∀σ H Q,t' σ H Q->t σ H Q):PA X e t':=λpos pins s σ H Q I q=>h pos pins s σ H Q I (i σ H Q q)
theorem PS.imp {X:Cx}{e:Stmt}{t t':TS}(h:PS X e t)(i: ∀D σ H,t' D σ H->t D σ H):PS X e t':=λpins s σ H D I q=>h pins s σ H D I (i D σ H q)
theorem PSs.imp {X:Cx}{e:List Stmt}{t t':TS}(h:PSs X e t)(i: ∀D σ H,t' D σ H->t D σ H):PSs X e t':=λpins s σ H D I q=>h pins s σ H D I (i D σ H q)
theorem PG.imp {X:Cx}{e:Expr}{t t':TG}(h:PG X e t)(i: ∀v σ H Q,t' v σ H Q->t v σ H Q):PG X e t':=λpins s σ H v u Q I r q=>h pins s σ H v u Q I r (i v σ H Q q)
theorem OpR.imp {X:Cx}{f:Value->Value->Sem Value}{r r':R2}(h:OpR X f r)(i: ∀x y H Q,r' x y H Q->r x y H Q):OpR X f r':=λpins s σ H x y v u Q I a b q=>h pins s σ H x y v u Q I a b (i x y H Q q)
theorem CallR.imp {X:Cx}{f:Value}{r r':List V->Hp->VK->Prop}(h:CallR X f r)(i: ∀xs H Q,r' xs H Q->r xs H Q):CallR X f r':=λpins s σ H xs us Q I a q=>h pins s σ H xs us Q I a (i xs H Q q)
def Rk (i:Nat):TED:=λσ h Q=> ∃d,σ[i]? =some (some d)/\Q d h
def dC (d:D):TED:=λ_ h Q=>Q d h
def dOp (f:RD2)(ta tb:TED):TED:=λσ h Q=>ta σ h λx h1=>tb σ h1 λy h2=>f x y h2 Q
def vX:TAD:=λ_ h Q=>Q [] h
def zb (ta:TED)(tr:TAD):TAD:=λσ h Q=>ta σ h λx h1=>tr σ h1 λxs h2=>Q (x::xs) h2
def An (t:TAD):TED:=λσ h Q=>t σ h λds h1=>ds.length<=sizeLine/\Q (.tup ds) h1
def FJ (t:TAD):TED:=λσ h Q=>t σ h λds h1=>ds.length<=sizeLine/\ ∀p,h1 p=none->Q (.lst p) (zC h1 p ds)
def dCB (r:RDn)(t:TAD):TED:=λσ h Q=>t σ h λds h1=>r ds h1 Q
def JP (t:TED):TTD:=λσ h Q=>t σ h λx h1=> ∃k,x= .bl k/\Q k h1
def Zw (r r':RD2)(ta tb tc:TED):TED:=λσ h Q=>ta σ h λx h1=>tb σ h1 λy h2=>r x y h2 λz h3=> ∃k,z= .bl k/\
 (if k=true then tc σ h3 λw h4=>r' y w h4 Q else Q (.bl false) h3)
def NV (t u:TTD):TTD:=λσ h Q=>t σ h λc h1=>if c=true then u σ h1 Q else Q false h1
def FK (t u:TTD):TTD:=λσ h Q=>t σ h λc h1=>if c=true then Q true h1 else u σ h1 Q
def GJ (t:TTD):TTD:=λσ h Q=>t σ h λc h1=>Q (!c) h1
def Rl (ta tb:TED):TED:=λσ h Q=>ta σ h λx h1=> ∃c,x= .bl c/\if c=true then tb σ h1 Q else Q (.bl false) h1
def Ao (ta tb:TED):TED:=λσ h Q=>ta σ h λx h1=> ∃c,x= .bl c/\if c=true then Q (.bl true) h1 else tb σ h1 Q
def GK (ta:TED):TED:=λσ h Q=>ta σ h λx h1=> ∃c,x= .bl c/\Q (.bl (!c)) h1
def dIf (t:TTD)(ta tb:TED):TED:=λσ h Q=>t σ h λc h1=>if c=true then ta σ h1 Q else tb σ h1 Q
section
variable {K:PySem.W.Frag}
theorem FL (i:Nat): ∀σ H Q,LE K (Rk i) σ H Q->Eo i σ H Q:=λσ H Q ⟨σd,h,Qd,rs,rh,⟨d,e,q⟩,p⟩=>let ⟨v,e1,e2⟩:=rs.2 i d e;⟨v,e1,p d v h H (.refl H) rh e2 q⟩
theorem OL {d:D}{v:V}(r: ∀H,RelD K H d v): ∀σ H Q,LE K (dC d) σ H Q->tC v σ H Q:=λσ H Q ⟨σd,h,Qd,rs,rh,q,p⟩=>p d v h H (.refl H) rh (r H) q
variable {H:Hp}
theorem jG {H1:Hp}{Qd:KD}{Q:VK}(p:NU K H Qd Q)(k:Kept H H1):NU K H1 Qd Q:=λd v h' H' k'=>p d v h' H' (k.trans k')
variable {ta:TED}
theorem LE.bind {σ:St}{σd:SD}{h:HD}{kd:KD}{k:VK}(rs:RelS K H σd σ)(rh:RelH K h H)(t:ta σd h kd)(f: ∀d v h' H',Kept H H'->RelS K H' σd σ->RelH K h' H'->RelD K H' d v->kd d h'->k v H'):LE K ta σ H k:=
 ⟨σd,h,kd,rs,rh,t,λd v h' H' kp r1 r2 q=>f d v h' H' kp (rs.mono kp) r1 r2 q⟩
theorem LT.bind {ta:TTD}{σ:St}{σd:SD}{h:HD}{kd:Bool->HD->Prop}{k:Bool->Hp->Prop}(rs:RelS K H σd σ)(rh:RelH K h H)(t:ta σd h kd)(f: ∀b h' H',Kept H H'->RelS K H' σd σ->RelH K h' H'->kd b h'->k b H'):LT K ta σ H k:=
 ⟨σd,h,kd,rs,rh,t,λb h' H' kp r1 q=>f b h' H' kp (rs.mono kp) r1 q⟩
theorem LA.bind {ta:TAD}{σ:St}{σd:SD}{h:HD}{kd:List D->HD->Prop}{k:List V->Hp->Prop}(rs:RelS K H σd σ)(rh:RelH K h H)(t:ta σd h kd)(f: ∀ds vs h' H',Kept H H'->RelS K H' σd σ->RelH K h' H'->RelDs K H' ds vs->kd ds h'->k vs H'):LA K ta σ H k:=
 ⟨σd,h,kd,rs,rh,t,λd v h' H' kp r1 r2 q=>f d v h' H' kp (rs.mono kp) r1 r2 q⟩
variable {tb:TED}
theorem NW {f:RD2}: ∀σ H Q,LE K (dOp f ta tb) σ H Q->tOp (LR K f) (LE K ta) (LE K tb) σ H Q:=λσ H Q ⟨σd,h,Qd,rs,rh,t,p⟩=>
 LE.bind rs rh t λd v h1 H1 k1 rs1 rh1 r1 t1=>LE.bind rs1 rh1 t1 λd2 v2 h2 H2 k2 rs2 rh2 r2 t2=>⟨d,d2,h2,Qd,r1.mono k2,r2,rh2,t2,jG p (k1.trans k2)⟩
theorem FM: ∀σ H Q,LA K vX σ H Q->ED σ H Q:=λσ H Q ⟨σd,h,Qd,rs,rh,t,p⟩=>p [] [] h H (.refl H) rh rfl t
theorem NX {tr:TAD}: ∀σ H Q,LA K (zb ta tr) σ H Q->Fu (LE K ta) (LA K tr) σ H Q:=λσ H Q ⟨σd,h,Qd,rs,rh,t,p⟩=>
 LE.bind rs rh t λd v h1 H1 k1 rs1 rh1 r1 t1=>LA.bind rs1 rh1 t1 λds vs h2 H2 k2 rs2 rh2 r2 t2=>p _ _ h2 H2 (k1.trans k2) rh2 (.cons (r1.mono k2) r2) t2
theorem FN {t:TAD}: ∀σ H Q,LE K (An t) σ H Q->EE (LA K t) σ H Q:=λσ H Q ⟨σd,h,Qd,rs,rh,t,p⟩=>
 LA.bind rs rh t λds vs h1 H1 k1 rs1 rh1 r1 ⟨z,q⟩=>⟨by rw [<-r1.length];exact z,λa ha=>p (.tup ds) (.ref a) h1 _ (k1.trans (.new ha)) (rh1.new ha) ⟨a,vs,rfl,jq,r1.mono (.new ha)⟩ q⟩
theorem FO {t:TAD}: ∀σ H Q,LE K (FJ t) σ H Q->EF (LA K t) σ H Q:=λσ H Q ⟨σd,h,Qd,rs,rh,t,p⟩=>
 LA.bind rs rh t λds vs h1 H1 k1 rs1 rh1 r1 ⟨z,q⟩=>⟨by rw [<-r1.length];exact z,λa ha=>p (.lst a) (.ref a) _ _ (k1.trans (.new ha)) (rh1.newL ha r1) ⟨rfl,vs,jq⟩ (q a (rh1.free ha))⟩
theorem FP {r:RDn}{t:TAD}: ∀σ H Q,LE K (dCB r t) σ H Q->tCB (LC K r) (LA K t) σ H Q:=λσ H Q ⟨σd,h,Qd,rs,rh,t,p⟩=>
 LA.bind rs rh t λds vs h1 H1 k1 rs1 rh1 r1 q=>⟨ds,h1,Qd,r1,rh1,q,jG p k1⟩
theorem GL {t:TED}: ∀σ H Q,LT K (JP t) σ H Q->NE (LE K t) σ H Q:=λσ H Q ⟨σd,h,Qd,rs,rh,t,p⟩=>
 LE.bind rs rh t λd v h1 H1 k1 rs1 rh1 r1 ⟨k,e,q⟩=>by subst e;exact⟨k,r1,p k h1 H1 k1 rh1 q⟩
theorem Rm {t:TED}: ∀σ H Q,LT K (JP t) σ H Q->tB (LE K t) σ H Q:=λσ H Q ⟨σd,h,Qd,rs,rh,t,p⟩=>
 LE.bind rs rh t λd v h1 H1 k1 rs1 rh1 r1 ⟨k,e,q⟩=>by subst e;exact⟨k,r1,p k h1 H1 k1 rh1 q⟩
theorem Xv {r r':RD2}{tc:TED}: ∀σ H Q,LE K (Zw r r' ta tb tc) σ H Q->Gt (LR K r) (LR K r') (LE K ta) (LE K tb) (LE K tc) σ H Q:=λσ H Q ⟨σd,h,Qd,rs,rh,t,p⟩=>
 LE.bind rs rh t λd v h1 H1 k1 rs1 rh1 r1 t1=>LE.bind rs1 rh1 t1 λd2 v2 h2 H2 k2 rs2 rh2 r2 t2=>⟨d,d2,h2,_,r1.mono k2,r2,rh2,t2,λd3 v3 h3 H3 k3 rh3 r3 ⟨k,e,q⟩=>by
  subst e;refine⟨k,r3,?_⟩;cases k with
  |true=>
   rw [if_pos rfl] at q ⊢;exact LE.bind (rs2.mono k3) rh3 q λd4 v4 h4 H4 k4 rs4 rh4 r4 t4=>⟨d2,d4,h4,Qd,(r2.mono k3).mono k4,r4,rh4,t4,jG p (k1.trans (k2.trans (k3.trans k4)))⟩
  |false=>
   rw [if_neg P5] at q ⊢;exact p (.bl false) _ h3 H3 (k1.trans (k2.trans k3)) rh3 rfl q⟩
variable {t:TTD}
theorem FQ {u:TTD}: ∀σ H Q,LT K (NV t u) σ H Q->Ep (LT K t) (LT K u) σ H Q:=λσ H Q ⟨σd,h,Qd,rs,rh,t,p⟩=>
 LT.bind rs rh t λb h1 H1 k1 rs1 rh1 q=>by
  cases b with
  |true=>rw [if_pos rfl] at q ⊢;exact⟨σd,h1,Qd,rs1,rh1,q,λb h' H' k=>p b h' H' (k1.trans k)⟩
  |false=>rw [if_neg P5] at q ⊢;exact p _ _ _ k1 rh1 q
theorem Ap {u:TTD}: ∀σ H Q,LT K (FK t u) σ H Q->tOr (LT K t) (LT K u) σ H Q:=λσ H Q ⟨σd,h,Qd,rs,rh,t,p⟩=>
 LT.bind rs rh t λb h1 H1 k1 rs1 rh1 q=>by
  cases b with
  |true=>rw [if_pos rfl] at q ⊢;exact p _ _ _ k1 rh1 q
  |false=>rw [if_neg P5] at q ⊢;exact⟨σd,h1,Qd,rs1,rh1,q,λb h' H' k=>p b h' H' (k1.trans k)⟩
theorem FR: ∀σ H Q,LT K (GJ t) σ H Q->Er (LT K t) σ H Q:=λσ H Q ⟨σd,h,Qd,rs,rh,t,p⟩=>
 LT.bind rs rh t λb h1 H1 k1 rs1 rh1 q=>p _ _ _ k1 rh1 q
theorem FS: ∀σ H Q,LE K (Rl ta tb) σ H Q->Fa (LE K ta) (LE K tb) σ H Q:=λσ H Q ⟨σd,h,Qd,rs,rh,t,p⟩=>
 LE.bind rs rh t λd v h1 H1 k1 rs1 rh1 r1 ⟨c,e,q⟩=>by
  subst e;refine⟨c,r1,?_⟩;cases c with
  |true=>rw [if_pos rfl] at q ⊢;exact⟨σd,h1,Qd,rs1,rh1,q,jG p k1⟩
  |false=>rw [if_neg P5] at q ⊢;exact p (.bl false) _ _ _ k1 rh1 rfl q
theorem Aq: ∀σ H Q,LE K (Ao ta tb) σ H Q->Es (LE K ta) (LE K tb) σ H Q:=λσ H Q ⟨σd,h,Qd,rs,rh,t,p⟩=>
 LE.bind rs rh t λd v h1 H1 k1 rs1 rh1 r1 ⟨c,e,q⟩=>by
  subst e;refine⟨c,r1,?_⟩;cases c with
  |true=>rw [if_pos rfl] at q ⊢;exact p (.bl true) _ _ _ k1 rh1 rfl q
  |false=>rw [if_neg P5] at q ⊢;exact⟨σd,h1,Qd,rs1,rh1,q,jG p k1⟩
theorem FT: ∀σ H Q,LE K (GK ta) σ H Q->Fb (LE K ta) σ H Q:=λσ H Q ⟨σd,h,Qd,rs,rh,t,p⟩=>
 LE.bind rs rh t λd v h1 H1 k1 rs1 rh1 r1 ⟨c,e,q⟩=>by subst e;exact⟨c,r1,p (.bl (!c)) _ _ _ k1 rh1 rfl q⟩
theorem Ar: ∀σ H Q,LE K (dIf t ta tb) σ H Q->tIf (LT K t) (LE K ta) (LE K tb) σ H Q:=λσ H Q ⟨σd,h,Qd,rs,rh,t,p⟩=>
 LT.bind rs rh t λb h1 H1 k1 rs1 rh1 q=>by
  cases b with
  |true=>rw [if_pos rfl] at q ⊢;exact⟨σd,h1,Qd,rs1,rh1,q,jG p k1⟩
  |false=>rw [if_neg P5] at q ⊢;exact⟨σd,h1,Qd,rs1,rh1,q,jG p k1⟩
end
abbrev QE (X:Cx)(e:Expr)(t:TED):Prop:=PE X e (LE X.K t)
abbrev QT (X:Cx)(e:Expr)(t:TTD):Prop:=PT X e (LT X.K t)
abbrev QW (X:Cx)(e:Expr)(t:TTD):Prop:=PW X e (LT X.K t)
abbrev QA (X:Cx)(es:List Expr)(t:TAD):Prop:=PA X es (LA X.K t)
abbrev QS (X:Cx)(s:Stmt)(t:TSD):Prop:=PS X s (LS X.K t)
abbrev QSs (X:Cx)(s:List Stmt)(t:TSD):Prop:=PSs X s (LS X.K t)
abbrev QG (X:Cx)(e:Expr)(t:TGD):Prop:=PG X e (LG X.K t)
abbrev OpQ (X:Cx)(f:Value->Value->Sem Value)(r:RD2):Prop:=OpR X f (LR X.K r)
abbrev yG (X:Cx)(f:Value)(r:RDn):Prop:=CallR X f (LC X.K r)
section
variable {X:Cx}{a b c e:Expr}{es rest:List Expr}{ta tb tc te:TED}{t u:TAD}{tt tu:TTD}{pos:Pos}{f r r':RD2}
theorem qv (i:Nat){x:Str}(hN:X.N[i]? =some x:=by rfl)(hv:Vis X.env.scope x:=by first|exact Or.inl rfl|exact Or.inr (Or.inl rfl)|exact Or.inr (Or.inr rfl))(hd:(x==("__debug__" :Str))=false:=by decide)
 (hcd:(x==("__classdict__" :Str))=false:=by decide):QE X (.Name x pos) (Rk i):=(CU hN hv hd hcd).imp (FL i)
theorem Sr {i:Int}{j:Nat}:QE X (.Constant (.int i) j pos) (dC (.int i)):=pe_int.imp (OL λ_=>rfl)
theorem qbl {i:Bool}{j:Nat}:QE X (.Constant (.bool i) j pos) (dC (.bl i)):=pe_bl.imp (OL λ_=>rfl)
theorem Ss {j:Nat}:QE X (.Constant .none j pos) (dC .non):=pe_non.imp (OL λ_=>rfl)
theorem As {x:Str}{i:Int}{tk:Tok}(hg:Gl X x)(hm:X.mg x=some (.int i tk))(hd:(x==("__debug__" :Str))=false:=by decide):QE X (.Name x pos) (dC (.int i)):=
 (Nt (v:= .int i) hg hm ⟨tk,rfl⟩ hd).imp (OL λ_=>rfl)
theorem qop {op:Operator}(ho:OpQ X (binaryOp op) f)(ha:QE X a ta)(hb:QE X b tb):QE X (.BinOp a op b pos) (dOp f ta tb):=(Aa ho ha hb).imp NW
variable {op:CmpOp}
theorem Su (ho:OpQ X (compareOp op) f)(ha:QE X a ta)(hb:QE X b tb)(hm:behindInMarks op b=false):QE X (.Compare a [op] [b] pos) (dOp f ta tb):=(ND ho ha hb hm).imp NW
theorem At (ho:OpQ X (compareOp op) f)(ha:QE X a ta)(hb:QE X b tb)(hm:behindInMarks op b=false):QT X (.Compare a [op] [b] pos) (JP (dOp f ta tb)):=
 (NF ho ha hb hm).imp λσ H Q h=>by
  obtain⟨σd,h,Qd,rs,rh,t,p⟩:=GL (t:=dOp f ta tb) σ H Q h;exact NW σ H _ ⟨σd,h,Qd,rs,rh,t,p⟩
theorem FU {op':CmpOp}(ho:OpQ X (compareOp op) r)(ho':OpQ X (compareOp op') r')(ha:QE X a ta)(hb:QE X b tb)(hc:QE X c tc)(hm:lastMarks [op,op'] [b,c]=false:=by with_unfolding_all rfl):
 QE X (.Compare a [op,op'] [b,c] pos) (Zw r r' ta tb tc):=(DW ho ho' ha hb hc hm).imp Xv
theorem NY {op':CmpOp}(ho:OpQ X (compareOp op) r)(ho':OpQ X (compareOp op') r')(ha:QE X a ta)(hb:QE X b tb)(hc:QE X c tc)(hm:lastMarks [op,op'] [b,c]=false:=by with_unfolding_all rfl):
 QT X (.Compare a [op,op'] [b,c] pos) (JP (Zw r r' ta tb tc)):=(DY ho ho' ha hb hc hm).imp λσ H Q h=>by
 obtain⟨σd,h,Qd,rs,rh,t,p⟩:=GL (t:=Zw r r' ta tb tc) σ H Q h;exact Xv σ H _ ⟨σd,h,Qd,rs,rh,t,p⟩
theorem Au (ha:QE X a ta)(he: ∀whole,isTrue a X.env whole=(do let v <-whole;standAt a.pos;holding [v] (truthy v)):=by intro _;rfl):QT X a (JP ta):=(CV ha he).imp Rm
theorem Av (ha:QT X a tt):QW X (.BoolOp .And [a] pos) tt:=Nv ha
theorem Sv (ha:QT X a tt):QW X (.BoolOp .Or [a] pos) tt:=CW ha
theorem Aw (ha:QT X a tt)(hb:QW X (.BoolOp .And (b::rest) pos) tu):QW X (.BoolOp .And (a::b::rest) pos) (NV tt tu):=(CY ha hb).imp FQ
theorem Sw (ha:QT X a tt)(hb:QW X (.BoolOp .Or (b::rest) pos) tu):QW X (.BoolOp .Or (a::b::rest) pos) (FK tt tu):=(OT ha hb).imp Ap
theorem Ax (ha:QT X a tt):QT X (.UnaryOp .Not a pos) (GJ tt):=(CZ ha).imp FR
theorem Sx {op:BoolOp}(ha:QE X a ta):QE X (.BoolOp op [a] pos) ta:=Fc ha
theorem Sy (ha:QE X a ta)(hb:QE X (.BoolOp .And (b::rest) pos) tb):QE X (.BoolOp .And (a::b::rest) pos) (Rl ta tb):=(Fd ha hb).imp FS
theorem qor (ha:QE X a ta)(hb:QE X (.BoolOp .Or (b::rest) pos) tb):QE X (.BoolOp .Or (a::b::rest) pos) (Ao ta tb):=(OU ha hb).imp Aq
theorem Sz (ha:QE X a ta):QE X (.UnaryOp .Not a pos) (GK ta):=(Fe ha).imp FT
theorem qif {c:Expr}(hc:QT X c tt)(ha:QE X a ta)(hb:QE X b tb):QE X (.IfExp c a b pos) (dIf tt ta tb):=(DS hc ha hb).imp Ar
theorem MT:QA X [] vX:=pa_nil.imp FM
theorem GM (ha:QE X e te)(hr:QA X es t)(hs:starEach (e::es) X.env=(false,eval e X.env)::starEach es X.env:=by rfl):QA X (e::es) (zb te t):=(wt ha hr hs).imp NX
theorem SA {k:Nat}(h:QA X es t):QE X (.Tuple es k pos) (An t):=(Fv h).imp FN
theorem SB (h:QA X es t):QE X (.List es pos) (FJ t):=(Fw h).imp FO
end
def Qq:TSD:=λD σ h=>D.nx σ h
def Rn (t u:TSD):TSD:=λD σ h=>t {D with nx:=u D} σ h
def NZ (te:TED):TSD:=λD σ h=>te σ h λ_ h1=>D.nx σ h1
def DO (te:TED):TSD:=λD σ h=>te σ h D.rt
def CJ (c:TTD)(t u:TSD):TSD:=λD σ h=>c σ h λb h1=>if b=true then t D σ h1 else u D σ h1
def Ro (i:Nat)(te:TED):TSD:=λD σ h=>te σ h λd h1=>D.nx (σ.set i (some d)) h1
def Ay (te:TED)(g:TGD):TSD:=λD σ h=>te σ h λx h1=>g x σ h1 D.nx
def Az (i j:Nat)(ta:TAD):TSD:=λD σ h=>ta σ h λds h1=> ∃v w,ds= [v,w]/\D.nx ((σ.set i (some v)).set j (some w)) h1
def gN (i:Nat):TGD:=λd σ h Q=>Q (σ.set i (some d)) h
def gT2 (i j:Nat):TGD:=λd σ h Q=> ∃x y,d= .tup [x,y]/\Q ((σ.set i (some x)).set j (some y)) h
section
variable {K:PySem.W.Frag}
theorem LS.of {t:TSD}{D₀:Ends}{σ:St}{H:Hp}{σd:SD}{h:HD}{Dd:EndsD}(rs:RelS K H σd σ)(rh:RelH K h H)(q:t Dd σd h)
 (nx: ∀σd' h' σ' H',Kept H H'->RelS K H' σd' σ'->RelH K h' H'->Dd.nx σd' h'->D₀.nx σ' H')(rt:NU K H Dd.rt D₀.rt)
 (bk: ∀σd' h' σ' H',Kept H H'->RelS K H' σd' σ'->RelH K h' H'->Dd.bk σd' h'->D₀.bk σ' H')(ct: ∀σd' h' σ' H',Kept H H'->RelS K H' σd' σ'->RelH K h' H'->Dd.ct σd' h'->D₀.ct σ' H'):LS K t D₀ σ H:=⟨σd,h,Dd,rs,rh,q,nx,rt,bk,ct⟩
theorem Ba: ∀D σ H,LS K Qq D σ H->Ff D σ H:=λD σ H ⟨σd,h,Dd,rs,rh,q,nx,_⟩=>nx σd h σ H (.refl H) rs rh q
theorem FV {t u:TSD}: ∀D σ H,LS K (Rn t u) D σ H->Et (LS K t) (LS K u) D σ H:=λD σ H ⟨σd,h,Dd,rs,rh,q,nx,rt,bk,ct⟩=>
 LS.of rs rh q (λσd' h' σ' H' k rs' rh' q'=>⟨σd',h',Dd,rs',rh',q',λa b c d k'=>nx a b c d (k.trans k'),jG rt k,λa b c d k'=>bk a b c d (k.trans k'),λa b c d k'=>ct a b c d (k.trans k')⟩) rt bk ct
variable {te:TED}
theorem Bb: ∀D σ H,LS K (NZ te) D σ H->Fg (LE K te) D σ H:=λD σ H ⟨σd,h,Dd,rs,rh,q,nx,rt,bk,ct⟩=>
 LE.bind rs rh q λd v h1 H1 k1 rs1 rh1 r1 q1=>nx _ _ _ _ k1 rs1 rh1 q1
theorem FW: ∀D σ H,LS K (DO te) D σ H->Eu (LE K te) D σ H:=λD σ H ⟨σd,h,Dd,rs,rh,q,nx,rt,bk,ct⟩=>⟨σd,h,Dd.rt,rs,rh,q,rt⟩
theorem AA {c:TTD}{t u:TSD}: ∀D σ H,LS K (CJ c t u) D σ H->Ev (LT K c) (LS K t) (LS K u) D σ H:=λD σ H ⟨σd,h,Dd,rs,rh,q,nx,rt,bk,ct⟩=>
 LT.bind rs rh q λb h1 H1 k rs1 rh1 q1=>by
  cases b with
  |true=>rw [if_pos rfl] at q1 ⊢;exact⟨σd,h1,Dd,rs1,rh1,q1,λa b c d k'=>nx a b c d (k.trans k'),jG rt k,λa b c d k'=>bk a b c d (k.trans k'),λa b c d k'=>ct a b c d (k.trans k')⟩
  |false=>rw [if_neg P5] at q1 ⊢;exact⟨σd,h1,Dd,rs1,rh1,q1,λa b c d k'=>nx a b c d (k.trans k'),jG rt k,λa b c d k'=>bk a b c d (k.trans k'),λa b c d k'=>ct a b c d (k.trans k')⟩
theorem MU {i:Nat}: ∀D σ H,LS K (Ro i te) D σ H->Ny (LE K te) (yE i) D σ H:=λD σ H ⟨σd,h,Dd,rs,rh,q,nx,rt,bk,ct⟩=>
 LE.bind rs rh q λd v h1 H1 k1 rs1 rh1 r1 q1=>nx _ _ _ _ k1 (rs1.set r1 i) rh1 q1
theorem FX {g:TGD}: ∀D σ H,LS K (Ay te g) D σ H->Ny (LE K te) (LG K g) D σ H:=λD σ H ⟨σd,h,Dd,rs,rh,q,nx,rt,bk,ct⟩=>
 LE.bind rs rh q λd v h1 H1 k1 rs1 rh1 r1 q1=>⟨d,σd,h1,_,r1,rs1,rh1,q1,λa b c e k'=>nx a b c e (k1.trans k')⟩
theorem FY {i j:Nat}{ta:TAD}: ∀D σ H,LS K (Az i j ta) D σ H->Ex i j (LA K ta) D σ H:=λD σ H ⟨σd,h,Dd,rs,rh,q,nx,rt,bk,ct⟩=>
 LA.bind rs rh q λds vs h1 H1 k1 rs1 rh1 r1 ⟨x,y,e,q1⟩=>by
  subst e;obtain⟨v,r,e,r2,r3⟩:=(show ∃v r,vs=v::r/\RelD K H1 x v/\RelDs K H1 [y] r from r1);obtain⟨w,r',e',r4,r5⟩:=(show ∃v r',r=v::r'/\RelD K H1 y v/\RelDs K H1 [] r' from r3);cases (show r'= [] from r5);subst e' e;exact⟨v,w,rfl,nx _ _ _ _ k1 ((rs1.set r2 i).set r4 j) rh1 q1⟩
theorem Bc (i:Nat): ∀v σ H Q,LG K (gN i) v σ H Q->yE i v σ H Q:=λv σ H Q ⟨d,σd,h,Qd,r,rs,rh,q,p⟩=>p _ _ _ _ (.refl H) (rs.set r i) rh q
theorem yb {H:Hp}{x y:D}{vs:List V}(r:RelDs K H [x,y] vs): ∃v w,vs= [v,w]/\RelD K H x v/\RelD K H y w:=by
 obtain⟨v,r1,e,r2,r3⟩:=(show ∃v r,vs=v::r/\RelD K H x v/\RelDs K H [y] r from r);obtain⟨w,z,e',r4,r5⟩:=(show ∃v z,r1=v::z/\RelD K H y v/\RelDs K H [] z from r3);cases (show z= [] from r5);subst e' e;exact⟨v,w,rfl,r2,r4⟩
theorem jw {H:Hp}{x:D}{vs:List V}(r:RelDs K H [x] vs): ∃v,vs= [v]/\RelD K H x v:=by
 obtain⟨v,r1,e,r2,r3⟩:=(show ∃v r,vs=v::r/\RelD K H x v/\RelDs K H [] r from r);cases (show r1= [] from r3);exact⟨v,e,r2⟩
theorem FZ (i j:Nat): ∀v σ H Q,LG K (gT2 i j) v σ H Q->OY K 2 (Gn (yE i) (Gn (yE j) OX)) v σ H Q:=λv σ H Q ⟨d,σd,h,Qd,r,rs,rh,⟨x,y,e,q⟩,p⟩=>by
 subst e;obtain⟨a,vs,e,hH,r1⟩:=(show ∃a vs,v= .ref a/\H a=some (.tup vs)/\RelDs K H [x,y] vs from r);obtain⟨v1,v2,e1,r2,r3⟩:=yb r1;subst e e1;exact⟨a,[v1,v2],rfl,SqT.of hH,rfl,v1,[v2],rfl,v2,[],rfl,rfl,p _ _ _ _ (.refl H) ((rs.set r2 i).set r3 j) rh q⟩
end
section
variable {X:Cx}{st:Stmt}{sts:List Stmt}{t u:TSD}{e:Expr}{te:TED}{pos:Pos}
theorem La:QSs X [] Qq:=pss_nil.imp Ba
theorem Bd (h1:QS X st t)(h2:QSs X sts u):QSs X (st::sts) (Rn t u):=(DT h1 h2).imp FV
theorem Lb (h1:QS X st t):QSs X [st] t:=Nw h1
theorem AB (he:QE X e te)(hs:swapsWith e none pos.line X.env=pure false:=by rfl):QS X (.Expr e pos) (NZ te):=(Nx he hs).imp Bb
theorem SC (he:QE X e te):QS X (.Return (some e) pos) (DO te):=(Fh he).imp FW
theorem SE {c:Expr}{a b:List Stmt}{tc:TTD}(hc:QT X c tc)(ha:QSs X a t)(hb:QSs X b u):QS X (.If c a b pos) (CJ tc t u):=(OV hc ha hb).imp AA
variable {i:Nat}{x:Str}
theorem SF {pos':Pos}(hN:X.N.Nodup)(hi:X.N[i]? =some x)(hx:Loc X.env.scope x)(he:QE X e te)(hs:swapsWith e (some (.Name x pos')) pos.line X.env=pure false:=by rfl)
 (hf:X.fn x=true\/X.env.scope.names.lookup x=some .local:=by first|exact .inl rfl|exact .inr rfl|assumption):QS X (.Assign [.Name x pos'] e pos) (Ro i te):=(Fk hN hi hx he hs hf).imp MU
theorem Be (hN:X.N.Nodup)(hi:X.N[i]? =some x)(hx:Loc X.env.scope x)(hf:X.fn x=true\/X.env.scope.names.lookup x=some .local:=by first|exact .inl rfl|exact .inr rfl|assumption):QG X (.Name x pos) (gN i):=
 (vY hN hi hx hf).imp (Bc i)
theorem Lc {j:Nat}{y:Str}{p1 p2:Pos}{k:Nat}(hc:X.calm=true)(hN:X.N.Nodup)(hi:X.N[i]? =some x)(hj:X.N[j]? =some y)(hx:Loc X.env.scope x)(hy:Loc X.env.scope y)
 (hf:X.fn x=true\/X.env.scope.names.lookup x=some .local:=by first|exact .inl rfl|exact .inr rfl|assumption)(hf2:X.fn y=true\/X.env.scope.names.lookup y=some .local:=by first|exact .inl rfl|exact .inr rfl|assumption):
 QG X (.Tuple [.Name x p1,.Name y p2] k pos) (gT2 i j):=(MP hc (JX (vY hN hi hx hf) (JX (vY hN hj hy hf2) Go))).imp (FZ i j)
theorem SG {tg:Expr}{g:TGD}(he:QE X e te)(hg:QG X tg g)(hs:swapsWithSole [tg] e pos.line X.env=pure false:=by rfl)(hsw:swappedStores [tg] e X.env=pure none:=by rfl)
 (h1:(assignEach [tg] X.env).map (·.2)= [assign tg X.env]:=by rfl):QS X (.Assign [tg] e pos) (Ay te g):=(Fj he hg hs hsw h1).imp FX
theorem SH {j:Nat}{y:Str}{a b:Expr}{ta:TAD}{px py pt:Pos}{kt k2 pt2}(hc:X.calm=true)(hN:X.N.Nodup)(hi:X.N[i]? =some x)(hj:X.N[j]? =some y)(hij:i≠j)
 (hx:X.env.scope.names.lookup x=some .local)(hy:X.env.scope.names.lookup y=some .local)(ha:QA X [a,b] ta)
 (hw:swappedStores [.Tuple [.Name x px,.Name y py] kt pt] (.Tuple [a,b] k2 pt2) X.env=pure (some [x,y]))
 (hs:swapsWithSole [.Tuple [.Name x px,.Name y py] kt pt] (.Tuple [a,b] k2 pt2) pos.line X.env=pure false:=by rfl):
 QS X (.Assign [.Tuple [.Name x px,.Name y py] kt pt] (.Tuple [a,b] k2 pt2) pos) (Az i j ta):=(Fl hc hN hi hj hij hx hy ha hw hs).imp FY
end
abbrev ItD:=HD->Option (List D)
def Bf (K:PySem.W.Frag)(H:Hp)(j:ItD)(J:It):Prop:= ∀H' h',Kept H H'->RelH K h' H'-> ∀ds,j h'=some ds-> ∀i:Nat,
 (∀d,ds[i]? =some d->J.go i H'/\ ∀x H'',J.yld i H' x H''->Kept H' H''/\RelH K h' H''/\RelD K H'' d x)/\(ds.length<=i->J.stop i H')
abbrev TID:=SD->HD->(ItD->HD->Prop)->Prop
def LI (K:PySem.W.Frag)(t:TID):TI:=λσ H R=> ∃σd h Rd,RelS K H σd σ/\RelH K h H/\t σd h Rd/\ ∀j J h' H',Kept H H'->RelH K h' H'->Bf K H' j J->Rd j h'->R J H'
abbrev QI (X:Cx)(tg iter:Expr)(t:TID):Prop:=PI X tg iter (LI X.K t)
theorem PI.imp {X:Cx}{tg e:Expr}{t t':TI}(h:PI X tg e t)(i: ∀σ H R,t' σ H R->t σ H R):PI X tg e t':=λpins s σ H R I q=>h pins s σ H R I (i σ H R q)
def iL (te:TED):TID:=λσ h R=>te σ h λx h1=> ∃a,x= .lst a/\R (λh=>h a) h1
def iR1 (ta:TAD):TID:=λσ h R=>ta σ h λds h1=> ∃n:Int,ds= [.int n]/\ -(2^62)<=n/\n<2^62/\R (λ_=>some ((List.range n.toNat).map λ(k:Nat)=>D.int (k:Int))) h1
section
variable {K:PySem.W.Frag}
theorem Vl (H:Hp)(a:Addr):Bf K H (λh=>h a) (Itl K a):=λH' h' k rh ds e i=>by
 obtain⟨vs,hv,r⟩:=rh a ds e;refine⟨λd hd=> ?_,λhl=>⟨vs,SqL.of hv,by rw [<-r.length];exact hl⟩⟩;obtain⟨v,e1,e2⟩:=r.get hd;refine⟨⟨vs,v,SqL.of hv,e1⟩,λx H'' ⟨eH,hx⟩=> ?_⟩;subst eH;have:=hx vs (SqL.of hv);rw [e1] at this;cases this;exact⟨.refl _,rh,e2⟩
theorem Rp {H:Hp}{a:Addr}{vs:List V}{ds:List D}(hv:H a=some (.tup vs))(r:RelDs K H ds vs):Bf K H (λ_=>some ds) (Itt K a):=λH' h' k rh ds' e i=>by
 cases e;have hv':=k.tup _ _ hv;have r':=r.mono k;refine⟨λd hd=> ?_,λhl=>⟨vs,SqT.of hv',by rw [<-r.length];exact hl⟩⟩;obtain⟨v,e1,e2⟩:=r'.get hd;refine⟨⟨vs,v,SqT.of hv',e1⟩,λx H'' ⟨eH,hx⟩=> ?_⟩;subst eH;have:=hx vs (SqT.of hv');rw [e1] at this;cases this;exact⟨.refl _,rh,e2⟩
theorem Qr (H:Hp)(lo:Int)(n:Nat)(ds:List D)(hd:ds=(List.range n).map λ(k:Nat)=>D.int (lo+(k:Int))):Bf K H (λ_=>some ds) (Itr lo n):=λH' h' k rh ds' e i=>by
 cases e;subst hd;refine⟨λd hd=> ?_,λhl=>(show n<=i by simpa using hl)⟩;rw [P9] at hd;have hi:i<n:=by
  by_cases z:i<n
  ·exact z
  ·rw [F8 (by simpa using z)] at hd;cases hd
 rw [N7 hi] at hd;cases hd;refine⟨hi,λx H'' ⟨eH,hx⟩=> ?_⟩;subst eH hx;exact⟨.refl _,rh,rfl⟩
theorem Bg {te:TED}: ∀σ H R,LI K (iL te) σ H R->Fm K (LE K te) σ H R:=λσ H R ⟨σd,h,Rd,rs,rh,q,p⟩=>
 LE.bind rs rh q λd v h1 H1 k1 rs1 rh1 r1 ⟨a,e,q1⟩=>by
  subst e;obtain⟨e,vs,hv⟩:=(show v= .ref a/\ ∃vs,H1 a=some (.lst vs) from r1);exact⟨a,e,⟨vs,SqL.of hv⟩,p _ _ _ _ k1 rh1 (Vl H1 a) q1⟩
theorem AC {ta:TAD}: ∀σ H R,LI K (iR1 ta) σ H R->Fn (LA K ta) σ H R:=λσ H R ⟨σd,h,Rd,rs,rh,q,p⟩=>
 LA.bind rs rh q λds vs h1 H1 k1 rs1 rh1 r1 ⟨n,e,b1,b2,q1⟩=>by
  subst e;obtain⟨v,e,r2⟩:=jw r1;cases (show v= .int n from r2);exact⟨n,e,b1,b2,p _ _ _ _ k1 rh1 (Qr H1 0 n.toNat _ (by simp)) q1⟩
end
def Ld (ti:TID)(g:TGD)(tb:TSD):TSD:=λD σ h=>ti σ h λj h1=> ∃ (n:Nat) (W:Nat->SD->HD->Prop),W 0 σ h1/\ ∀i σ' h',W i σ' h'-> ∃ds,j h'=some ds/\ds.length<=n/\(ds.length<=i->D.nx σ' h')/\
 ∀d,ds[i]? =some d->g d σ' h' λσ2 h2=>tb {D with nx:=λσ3 h3=> ∃h4,Sub h4 h3/\W (i+1) σ3 h4,ct:=λσ3 h3=> ∃h4,Sub h4 h3/\W (i+1) σ3 h4,bk:=D.nx} σ2 h2
theorem Le {K:PySem.W.Frag}{ti:TID}{g:TGD}{tb:TSD}: ∀D σ H,LS K (Ld ti g tb) D σ H->Ey (LI K ti) (LG K g) (LS K tb) D σ H:=λD σ H ⟨σd,h,Dd,rs,rh,q,nx,rt,bk,ct⟩=>by
 refine⟨σd,h,_,rs,rh,q,λj J h1 H1 k1 rh1 jo ⟨n,W,w0,turn⟩=> ?_⟩;refine⟨λi m σ' H'=>m=n-i/\Kept H1 H'/\ ∃σd' h',RelS K H' σd' σ'/\RelH K h' H'/\W i σd' h',⟨n-0,rfl,.refl _,σd,h1,rs.mono k1,rh1,w0⟩,?_⟩;rintro i m σ' H' ⟨rfl,kp,σd',h',rs',rh',w⟩;obtain⟨ds,ej,hn,stop,go⟩:=turn i σd' h' w;have jo':=jo H' h' kp rh' ds ej i
 by_cases hi:i<ds.length
 ·obtain⟨g1,y1⟩:=jo'.1 ds[i] (G1 hi);refine .inr ⟨g1,λσ2 H2=>Kept H1 H2/\ ∃σd2 h2,RelS K H2 σd2 σ2/\RelH K h2 H2/\W (i+1) σd2 h2,λσ2 H2 ⟨k2,a,b,c,d,e⟩=>⟨n-(i+1),by omega,rfl,k2,a,b,c,d,e⟩,λx H'' y=> ?_⟩;obtain⟨k2,rh2,r2⟩:=y1 x H'' y;refine⟨ds[i],σd',h',_,r2,rs'.mono k2,rh2,go ds[i] (G1 hi),λσd3 h3 σ3 H3 k3 rs3 rh3 q3=> ?_⟩;have kk:Kept H H3:=k1.trans (kp.trans (k2.trans k3));have kk1:Kept H1 H3:=kp.trans (k2.trans k3);exact⟨σd3,h3,_,rs3,rh3,q3,λa b c d k4 rs4 rh4 ⟨h4,sb,w4⟩=>⟨kk1.trans k4,a,h4,rs4,rh4.sub sb,w4⟩,jG rt kk,λa b c d k4 rs4 rh4 q4=>nx a b c d (kk.trans k4) rs4 rh4 q4,λa b c d k4 rs4 rh4 ⟨h4,sb,w4⟩=>⟨kk1.trans k4,a,h4,rs4,rh4.sub sb,w4⟩⟩
 ·exact .inl ⟨jo'.2 (U2.mp hi),nx _ _ _ _ (k1.trans kp) rs' rh' (stop (U2.mp hi))⟩
def yR:TTD:=λ_ h Q=>Q true h
def wL (bind:D->SD->SD->Prop)(js:List Nat)(ti:TID)(tt:TTD)(te:TED):TED:=λσ h Q=>ti σ h λj h1=> ∃ (n:Nat) (W:Nat->List D->HD->Prop),W 0 [] h1/\ ∀i ys h',W i ys h'->ys.length<=sizeLine/\
 ∃ds,j h'=some ds/\ds.length<=n/\(ds.length<=i-> ∀p,h' p=none->Q (.lst p) (zC h' p ys))/\
  ∀d,ds[i]? =some d-> ∃σ2,bind d (jJ js σ) σ2/\tt σ2 h' λb h3=>if b=true then te σ2 h3 λy h4=> ∃h5,Sub h5 h4/\W (i+1) (ys++ [y]) h5 else ∃h5,Sub h5 h3/\W (i+1) ys h5
def bN (i:Nat):D->SD->SD->Prop:=λd σ σ2=>σ2=σ.set i (some d)
def b2 (i j:Nat):D->SD->SD->Prop:=λd σ σ2=> ∃x y,d= .tup [x,y]/\σ2=(σ.set i (some x)).set j (some y)
theorem Lf {K:PySem.W.Frag}: ∀σ H Q,LT K yR σ H Q->EJ σ H Q:=λσ H Q ⟨σd,h,Qd,rs,rh,q,p⟩=>p true h H (.refl H) rh q
def GN (K:PySem.W.Frag)(js:List Nat)(bind:D->SD->SD->Prop)(g:TG):Prop:= ∀ (σ:St) (σd σd2:SD) (H:Hp) (d:D) (v:V) (Q:St->Hp->Prop),RelS K H (jJ js σd) (zN js σ)->RelD K H d v->bind d (jJ js σd) σd2->
 (∀σ2,Agree (zN js σ) σ2->RelS K H σd2 σ2->Q σ2 H)->g v (zN js σ) H Q
theorem Lg {K:PySem.W.Frag}{js:List Nat}{i:Nat}(hi:i∈js):GN K js (bN i) (yE i):=λσ σd σd2 H d v Q rs r b q=>by
 cases (show σd2=_ from b);exact q _ (.set v λu=>zv js σ i u hi) (rs.set r i)
theorem AD {K:PySem.W.Frag}{js:List Nat}{i j:Nat}(hi:i∈js)(hj:j∈js)(hij:i≠j):GN K js (b2 i j) (OY K 2 (Gn (yE i) (Gn (yE j) OX))):=λσ σd σd2 H d v Q rs r b q=>by
 obtain⟨x,y,e,e2⟩:=b;subst e e2;obtain⟨a,vs,e,hH,r1⟩:=(show ∃a vs,v= .ref a/\H a=some (.tup vs)/\RelDs K H [x,y] vs from r);obtain⟨v1,v2,e1,r2,r3⟩:=yb r1;subst e e1;refine⟨a,[v1,v2],rfl,SqT.of hH,rfl,v1,[v2],rfl,v2,[],rfl,rfl,q _ (.trans (.set v1 λu=>zv js σ i u hi) (.set v2 λu z=> ?_)) ((rs.set r2 i).set r3 j)⟩;rw [B3 hij] at z;exact zv js σ j u hj z
theorem Bh {K:PySem.W.Frag}{bind:D->SD->SD->Prop}{js:List Nat}{ti:TID}{tt:TTD}{te:TED}{g:TG}(hb:GN K js bind g): ∀σ H Q,LE K (wL bind js ti tt te) σ H Q->tLC js (LI K ti) g (LT K tt) (LE K te) σ H Q:=
 λσ H Q ⟨σd,h,Qd,rs,rh,q,p⟩=>by
  refine⟨σd,h,_,rs,rh,q,λj J h1 H1 k1 rh1 jo ⟨n,W,w0,turn⟩=> ?_⟩;refine⟨λi m ys H'=>m=n-i/\Kept H1 H'/\ ∃ds h',RelDs K H' ds ys/\RelH K h' H'/\W i ds h',⟨n-0,rfl,.refl _,[],h1,rfl,rh1,w0⟩,?_⟩;rintro i m ys H' ⟨rfl,kp,yd,h',ry,rh',w⟩;obtain⟨hz,ds,ej,hn,stop,go⟩:=turn i yd h' w;refine⟨by rw [<-ry.length];exact hz,?_⟩;have jo':=jo H' h' kp rh' ds ej i;have kk:Kept H H':=k1.trans kp
  by_cases hi:i<ds.length
  ·obtain⟨g1,y1⟩:=jo'.1 ds[i] (G1 hi);refine .inr ⟨g1,λx H'' y=> ?_⟩;obtain⟨k2,rh2,r2⟩:=y1 x H'' y;obtain⟨σd2,bd,q2⟩:=go ds[i] (G1 hi);refine hb σ σd σd2 H'' ds[i] x _ (((rs.mono (kk.trans k2))).clear js) r2 bd λσ2 ag rs2=>⟨ag,?_⟩
   refine LT.bind rs2 rh2 q2 λb h3 H3 k3 rs3 rh3 q3=> ?_
   cases b with
   |true=>
    rw [if_pos rfl] at q3 ⊢;refine LE.bind rs3 rh3 q3 λd4 v4 h4 H4 k4 rs4 rh4 r4 ⟨h5,sb,w5⟩=>⟨n-(i+1),by omega,rfl,kp.trans (k2.trans (k3.trans k4)),yd++ [d4],h5,(ry.mono (k2.trans (k3.trans k4))).append (.cons r4 .nil),rh4.sub sb,w5⟩
   |false=>
    rw [if_neg P5] at q3 ⊢;obtain⟨h5,sb,w5⟩:=q3;exact⟨n-(i+1),by omega,rfl,kp.trans (k2.trans k3),yd,h5,ry.mono (k2.trans k3),rh3.sub sb,w5⟩
  ·refine .inl ⟨jo'.2 (U2.mp hi),λa ha=>p (.lst a) (.ref a) _ _ (kk.trans (.new ha)) (rh'.newL ha ry) ⟨rfl,ys,jq⟩ (stop (U2.mp hi) a (rh'.free ha))⟩
theorem yw {X:Cx}{scope:Scope}{C:Addr}{s₀:Shared}{H₀:Hp}{ex:List Addr}{i:Nat}{x:Str}{p:Pos}(hN:X.N.Nodup)(hx:X.N[i]? =some x)(hl:scope.names.lookup x=some .local\/scope.names.lookup x=some .cell):
 PG (yQ X scope C s₀ H₀ ex) (.Name x p) (yE i):=by
 rcases hl with z|z
 ·exact vY hN hx (.inl (lookup_relabel_local z)) (.inr (lookup_relabel_local z))
 ·exact vY hN hx (.inr (yP z)) (.inl (by show (scope.names.lookup x==some NameKind.cell)=true;rw [z];rfl))
section
variable {X:Cx}{tg e iter elt:Expr}{te:TED}{ti:TID}{g:TGD}{tb:TSD}{tt:TTD}{pos:Pos}{ta:TAD}{scope:Scope}{js:List Nat}{ifs:List Expr}
theorem Bi (he:QE X e te):QI X tg e (iL te):=(NA he).imp Bg
theorem AE {p:Pos}{a:Expr}(hg:Gl X "range")(hm:X.mg "range" =none)(ha:QA X [a] ta)(hs:starEach [a] X.env= [(false,eval a X.env)]:=by rfl):QI X tg (.Call (.Name "range" p) [a] [] pos) (iR1 ta):=(Gp hg hm ha hs).imp AC
theorem SI {body:List Stmt}(hp:PassesOwn (model X.prog X.w) X.A X.env X.xe)(hc:X.calm=true)(hi:QI X tg iter ti)(hg:QG X tg g)(hb:QSs X body tb)(hs: ∀x,foldedSetIterable iter X.env x=pure x:=by intro _;rfl):
 QS X (.For tg iter body [] pos) (Ld ti g tb):=(Fo hp hc hi hg hb hs).imp Le
theorem Bj:PTs X [] (LT X.K yR):=λpins s σ H Q I h=>NO pins s σ H Q I (Lf σ H Q h)
theorem Bk {c:Expr}(hc:QT X c tt):PTs X [c] (LT X.K tt):=NP hc
theorem qlc {i:Nat}{x:Str}{p:Pos}(hc:X.calm=true)(S:BlockOk X scope js)(hi:QI X (.Name x p) iter ti)(hj:i∈js)(hN:X.N.Nodup)(hx:X.N[i]? =some x)(hl:scope.names.lookup x=some .local\/scope.names.lookup x=some .cell)
 (ht: ∀X',jp X scope X'->PTs X' ifs (LT X'.K tt))(he: ∀X',jp X scope X'->QE X' elt te)(hs: ∀x,foldedSetIterable iter X.env x=pure x:=by intro _;rfl):
 QE X (.ListComp elt [⟨.Name x p,iter,ifs,0⟩] scope pos) (wL (bN i) js ti tt te):=
 (FH hc S hi (λX' hX=>by obtain⟨C,s₀,H₀,ex,rfl⟩:=hX;exact yw hN hx hl) (λX' hX=>by have:=ht X' hX;obtain⟨C,s₀,H₀,ex,rfl⟩:=hX;exact this)
  (λX' hX=>by have:=he X' hX;obtain⟨C,s₀,H₀,ex,rfl⟩:=hX;exact this) hs).imp (Bh (Lg hj))
theorem SJ {i j:Nat}{x y:Str}{p1 p2 p3:Pos}{k:Nat}(hc:X.calm=true)(S:BlockOk X scope js)(hi:QI X (.Tuple [.Name x p1,.Name y p2] k p3) iter ti)(hj:i∈js)(hj2:j∈js)(hij:i≠j)(hN:X.N.Nodup)(hx:X.N[i]? =some x)(hy:X.N[j]? =some y)
 (hl:scope.names.lookup x=some .local\/scope.names.lookup x=some .cell)(hl2:scope.names.lookup y=some .local\/scope.names.lookup y=some .cell)
 (ht: ∀X',jp X scope X'->PTs X' ifs (LT X'.K tt))(he: ∀X',jp X scope X'->QE X' elt te)(hs: ∀x,foldedSetIterable iter X.env x=pure x:=by intro _;rfl):
 QE X (.ListComp elt [⟨.Tuple [.Name x p1,.Name y p2] k p3,iter,ifs,0⟩] scope pos) (wL (b2 i j) js ti tt te):=
 (FH hc S hi (λX' hX=>by
  obtain⟨C,s₀,H₀,ex,rfl⟩:=hX;exact MP hc (JX (yw hN hx hl) (JX (yw hN hy hl2) Go))) (λX' hX=>by have:=ht X' hX;obtain⟨C,s₀,H₀,ex,rfl⟩:=hX;exact this)
  (λX' hX=>by have:=he X' hX;obtain⟨C,s₀,H₀,ex,rfl⟩:=hX;exact this) hs).imp (Bh (AD hj hj2 hij))
end
def LSp (K:PySem.W.Frag)(spd:RDn):Sp:=λvs H Q _=>LC K spd vs H Q
theorem Bl {K:PySem.W.Frag}{spd:RDn}{t:TAD}{E:XK}: ∀σ H Q,LE K (dCB spd t) σ H Q->Fx (LSp K spd) [] E (LA K t) σ H Q:=λσ H Q ⟨σd,h,Qd,rs,rh,t,p⟩=>
 LA.bind rs rh t λds vs h1 H1 k1 rs1 rh1 r1 q=>by rw [C3];exact⟨ds,h1,Qd,r1,rh1,q,jG p k1⟩
section
variable {X:Cx}{k:Nat}{f:Addr}{fd:FuncData}{ps:List Str}{spd:RDn}{x:Str}{p pos:Pos}{e:Expr}{es:List Expr}{t:TAD}
theorem AF (F:FnOk X.prog X.w X.K X.mg X.base CX0 k f fd ps (LSp X.K spd))(hr:Room k X.A)(hg:Gl X x)(hm:X.mg x=some (.ref f))(hk:PySem.W.keepIn X.K (.ref f)=true)(hb:Binds X.K fd ps [])
 (ha:QA X (e::es) t)(hdb:(x==("__debug__" :Str))=false:=by decide)(he:starEach (e::es) X.env=(false,eval e X.env)::starEach es X.env:=by rfl)(hpl:(backTo pos (starEach es X.env)).any (·.1)=false:=by rfl):
 QE X (.Call (.Name x p) (e::es) [] pos) (dCB spd t):=(NH F hr hg hm hk hb .nil Al ha hdb he hpl).imp Bl
theorem Lh {id:String}{r:RDn}(hc:yG X (.builtin id) r)(hg:Gl X x)(hm:X.mg x=none)(hv:bootBuiltins x=some (.builtin id))(ha:QA X (e::es) t)(hn:x≠ "__name__" :=by decide)(hdb:(x==("__debug__" :Str))=false:=by decide)
 (he:starEach (e::es) X.env=(false,eval e X.env)::starEach es X.env:=by rfl)(hpl:(backTo pos (starEach es X.env)).any (·.1)=false:=by rfl):QE X (.Call (.Name x p) (e::es) [] pos) (dCB r t):=(Xs hc hg hm hv ha hn hdb he hpl).imp FP
theorem Bn {T:String}{r:RDn}(hc:yG X (.type T) r)(hg:Gl X x)(hm:X.mg x=none)(hv:bootBuiltins x=some (.type T))(ha:QA X (e::es) t)(hn:x≠ "__name__" :=by decide)(hdb:(x==("__debug__" :Str))=false:=by decide)
 (he:starEach (e::es) X.env=(false,eval e X.env)::starEach es X.env:=by rfl)(hpl:(backTo pos (starEach es X.env)).any (·.1)=false:=by rfl):QE X (.Call (.Name x p) (e::es) [] pos) (dCB r t):=(Zm hc hg hm hv ha hn hdb he hpl).imp FP
end
def wD (N:List Str)(ds:List D):SD:=ds.map some++List.replicate (N.length-ds.length) none
theorem Qs {K:PySem.W.Frag}{H:Hp}{N:List Str}{ds:List D}{vs:List V}(r:RelDs K H ds vs):RelS K H (wD N ds) (start N vs):=by
 have hl:=r.length;refine⟨by unfold wD start;simp [hl],λi d e=> ?_⟩;unfold wD at e;unfold start
 by_cases hi:i<ds.length
 ·rw [R3 (by simpa using hi),P9] at e;cases q:ds[i]? with
  |none=>rw [q] at e;cases e
  |some d'=>
   rw [q] at e;cases e;obtain⟨v,e1,e2⟩:=r.get q;exact⟨v,by rw [R3 (by simpa [<-hl] using hi),P9,e1];rfl,e2⟩
 ·rw [P6 (by simpa using hi),G0w] at e;split at e<;>cases e
def DP (Q:KD):EndsD:= {nx:=λ_ h=> ∃h',Sub h' h/\Q .non h',rt:=λd h=> ∃h',Sub h' h/\Q d h'}
section
variable {P:Program}{w:World}{K:PySem.W.Frag}{mg:Str->Option Value}{base:Heap}
theorem Fun.okD {x qual:Str}{st:Stmt}{f:Addr}{fd:FuncData}{N ps:List Str}{k:Nat}{spd:RDn}(F:Fun K x qual st f fd)(S:FnScope N ps (jd st))(len: ∀ds h Q,spd ds h Q->ds.length=ps.length)
 (tb:TSD)(hbody: ∀ (cdv:Value) (A:Around) (outer:List Env) (s:Shared) (H:Hp) (E:XK),Room k (A.deeper (envOfC qual (jd st) s.heap.objs.size f cdv))->QSs (Ra CX0 P w K mg base N qual (jd st) f cdv A outer s H E).nox (zJ st) tb)
 (read: ∀ds h Q,spd ds h Q->tb (DP Q) (wD N ds) h):FnOk P w K mg base CX0 (k+1) f fd ps (LSp K spd):=by
 refine F.ok S (λvs H Q E h=> ?_) (λcdv A outer s H vs Q E hr h=> ?_)
 ·obtain⟨ds,h,Qd,r,rh,q,p⟩:=h;rw [<-r.length];exact len _ _ _ q
 ·obtain⟨ds,h,Qd,r,rh,q,p⟩:=h;refine⟨_,hbody cdv A outer s H E hr,wD N ds,h,DP Qd,Qs r,rh,read ds h Qd q,λσd' h' σ' H' k rs' rh' ⟨h2,sb,q'⟩=>p .non .non h2 H' k (rh'.sub sb) rfl q',λd v h' H' k rh' r' ⟨h2,sb,q'⟩=>p d v h2 H' k (rh'.sub sb) r' q',λ_ _ _ _ _ _ _ z=>z.elim,λ_ _ _ _ _ _ _ z=>z.elim⟩
end
section
variable {X:Cx}{iter elt:Expr}{te:TED}{ti:TID}{tt:TTD}{pos spos:Pos}{scope:Scope}{js:List Nat}{ifs:List Expr}
theorem Li {i k:Nat}{x y:Str}{p py:Pos}(hc:X.calm=true)(hN:X.N.Nodup)(hk:X.N[k]? =some y)(hy:Loc X.env.scope y)(S:BlockOk X scope js)(hi:QI X (.Name x p) iter ti)(hj:i∈js)(hx:X.N[i]? =some x)(hl:scope.names.lookup x=some .local\/scope.names.lookup x=some .cell)
 (ht: ∀X',jp X scope X'->PTs X' ifs (LT X'.K tt))(he: ∀X',jp X scope X'->QE X' elt te)
 (hsw:swapsWith (.ListComp elt [⟨.Name x p,iter,ifs,0⟩] scope pos) (some (.Name y py)) spos.line X.env=pure true:=by rfl)
 (hf:X.fn y=true\/X.env.scope.names.lookup y=some .local:=by first|exact .inl rfl|exact .inr rfl|assumption)(hs: ∀x,foldedSetIterable iter X.env x=pure x:=by intro _;rfl):
 QS X (.Assign [.Name y py] (.ListComp elt [⟨.Name x p,iter,ifs,0⟩] scope pos) spos) (Ro k (wL (bN i) js ti tt te)):=by
 have base:PS X (.Assign [.Name y py] (.ListComp elt [⟨.Name x p,iter,ifs,0⟩] scope pos) spos) (Ny (tLC js (LI X.K ti) (yE i) (LT X.K tt) (LE X.K te)) (yE k)):=
  Rj hc S hi (λX' hX=>by obtain⟨C,s₀,H₀,ex,rfl⟩:=hX;exact yw hN hx hl) (λX' hX=>by have:=ht X' hX;obtain⟨C,s₀,H₀,ex,rfl⟩:=hX;exact this)
   (λX' hX=>by have:=he X' hX;obtain⟨C,s₀,H₀,ex,rfl⟩:=hX;exact this) (vY hN hk hy hf) hsw hs
 exact base.imp λD σ H h=>by
  obtain⟨σd,hd,Qd,rs,rh,t,p⟩:=MU (K:=X.K) D σ H h;exact Bh (Lg hj) σ H _ ⟨σd,hd,Qd,rs,rh,t,p⟩
end
def dIn (i':Nat)(ti:TID)(tt:TTD)(te:TED)(V:List D->HD->Prop)(ys:List D):SD->HD->Prop:=λσ h=>ti σ h λj h1=> ∃ (n:Nat) (W:Nat->List D->HD->Prop),W 0 ys h1/\ ∀i ys h',W i ys h'->ys.length<=sizeLine/\
 ∃ds,j h'=some ds/\ds.length<=n/\(ds.length<=i->V ys h')/\
  ∀d,ds[i]? =some d->tt (σ.set i' (some d)) h' λb h3=>if b=true then te (σ.set i' (some d)) h3 λy h4=> ∃h5,Sub h5 h4/\W (i+1) (ys++ [y]) h5 else ∃h5,Sub h5 h3/\W (i+1) ys h5
def CK (bind:D->SD->SD->Prop)(js:List Nat)(ti:TID)(tt:TTD)(i':Nat)(ti':TID)(tt':TTD)(te:TED):TED:=λσ h Q=>ti σ h λj h1=> ∃ (n:Nat) (W:Nat->List D->HD->Prop),W 0 [] h1/\ ∀i ys h',W i ys h'->ys.length<=sizeLine/\
 ∃ds,j h'=some ds/\ds.length<=n/\(ds.length<=i-> ∀p,h' p=none->Q (.lst p) (zC h' p ys))/\
  ∀d,ds[i]? =some d-> ∃σ2,bind d (jJ js σ) σ2/\tt σ2 h' λb h3=>if b=true then dIn i' ti' tt' te (λys' h6=> ∃h5,Sub h5 h6/\W (i+1) ys' h5) ys σ2 h3 else ∃h5,Sub h5 h3/\W (i+1) ys h5
def GO (K:PySem.W.Frag)(js:List Nat)(i':Nat)(bind:D->SD->SD->Prop)(g:TG):Prop:= ∀ (σ:St) (σd σd2:SD) (H:Hp) (d:D) (v:V) (Q:St->Hp->Prop),RelS K H (jJ js σd) (zN js σ)->RelD K H d v->bind d (jJ js σd) σd2->
 (∀σ2,Agree (zN js σ) σ2->(∀u,¬σ2[i']? =some (some u))->RelS K H σd2 σ2->Q σ2 H)->g v (zN js σ) H Q
theorem Lj {K:PySem.W.Frag}{js:List Nat}{i i':Nat}(hi:i∈js)(hi':i'∈js)(hne:i≠i'):GO K js i' (bN i) (yE i):=λσ σd σd2 H d v Q rs r b q=>by
 cases (show σd2=_ from b);refine q _ (.set v λu=>zv js σ i u hi) (λu z=> ?_) (rs.set r i);rw [B3 hne] at z;exact zv js σ i' u hi' z
theorem Lk {K:PySem.W.Frag}{bind:D->SD->SD->Prop}{js:List Nat}{i':Nat}{ti ti':TID}{tt tt':TTD}{te:TED}{g:TG}(hb:GO K js i' bind g): ∀σ H Q,LE K (CK bind js ti tt i' ti' tt' te) σ H Q->Am js (LI K ti) g (LT K tt) (LI K ti') (yE i') (LT K tt') (LE K te) σ H Q:=
 λσ H Q ⟨σd,h,Qd,rs,rh,q,p⟩=>by
  refine⟨σd,h,_,rs,rh,q,λj J h1 H1 k1 rh1 jo ⟨n,W,w0,turn⟩=> ?_⟩;refine⟨λi m ys H'=>m=n-i/\Kept H1 H'/\ ∃ds h',RelDs K H' ds ys/\RelH K h' H'/\W i ds h',⟨n-0,rfl,.refl _,[],h1,rfl,rh1,w0⟩,?_⟩;rintro i m ys H' ⟨rfl,kp,yd,h',ry,rh',w⟩;obtain⟨hz,ds,ej,hn,stop,go⟩:=turn i yd h' w;refine⟨by rw [<-ry.length];exact hz,?_⟩;have jo':=jo H' h' kp rh' ds ej i;have kk:Kept H H':=k1.trans kp
  by_cases hi:i<ds.length
  ·obtain⟨g1,y1⟩:=jo'.1 ds[i] (G1 hi);refine .inr ⟨g1,λx H'' y=> ?_⟩;obtain⟨k2,rh2,r2⟩:=y1 x H'' y;obtain⟨σd2,bd,q2⟩:=go ds[i] (G1 hi);refine hb σ σd σd2 H'' ds[i] x _ (((rs.mono (kk.trans k2))).clear js) r2 bd λσ2 ag un rs2=>⟨ag,?_⟩
   refine LT.bind rs2 rh2 q2 λb h3 H3 k3 rs3 rh3 q3=> ?_
   cases b with
   |true=>
    rw [if_pos rfl] at q3 ⊢
    -- the second clause
    refine⟨σd2,h3,_,rs3,rh3,q3,λj2 J2 h4 H4 k4 rh4 jo2 ⟨n2,W2,w20,turn2⟩=> ?_⟩;refine⟨λi2 m2 ys2 H5=>m2=n2-i2/\Kept H4 H5/\ ∃ds h5,RelDs K H5 ds ys2/\RelH K h5 H5/\W2 i2 ds h5,⟨n2-0,rfl,.refl _,yd,h4,ry.mono (k2.trans (k3.trans k4)),rh4,w20⟩,?_⟩;rintro i2 m2 ys2 H5 ⟨rfl,kp5,yd5,h5,ry5,rh5,w5⟩;obtain⟨hz5,ds5,ej5,hn5,stop5,go5⟩:=turn2 i2 yd5 h5 w5;refine⟨by rw [<-ry5.length];exact hz5,?_⟩;have jo5:=jo2 H5 h5 kp5 rh5 ds5 ej5 i2;have kk5:Kept H1 H5:=kp.trans (k2.trans (k3.trans (k4.trans kp5)))
    by_cases hi5:i2<ds5.length
    ·obtain⟨g5,y5⟩:=jo5.1 ds5[i2] (G1 hi5);refine .inr ⟨g5,λx6 H6 yy6=> ?_⟩;obtain⟨k6,rh6,r6⟩:=y5 x6 H6 yy6;refine⟨.set x6 un,?_⟩;have rs6:=(rs3.mono (k4.trans (kp5.trans k6))).set r6 i';refine LT.bind rs6 rh6 (go5 ds5[i2] (G1 hi5)) λb h7 H7 k7 rs7 rh7 q7=> ?_
     cases b with
     |true=>
      rw [if_pos rfl] at q7 ⊢;exact LE.bind rs7 rh7 q7 λd8 v8 h8 H8 k8 rs8 rh8 r8 ⟨h9,sb,w9⟩=>⟨n2-(i2+1),by omega,rfl,kp5.trans (k6.trans (k7.trans k8)),yd5++ [d8],h9,(ry5.mono (k6.trans (k7.trans k8))).append (.cons r8 .nil),rh8.sub sb,w9⟩
     |false=>
      rw [if_neg P5] at q7 ⊢;obtain⟨h9,sb,w9⟩:=q7;exact⟨n2-(i2+1),by omega,rfl,kp5.trans (k6.trans k7),yd5,h9,ry5.mono (k6.trans k7),rh7.sub sb,w9⟩
    ·obtain⟨h9,sb,w9⟩:=stop5 (U2.mp hi5);exact .inl ⟨jo5.2 (U2.mp hi5),n-(i+1),by omega,rfl,kk5,yd5,h9,ry5,rh5.sub sb,w9⟩
   |false=>
    rw [if_neg P5] at q3 ⊢;obtain⟨h5,sb,w5⟩:=q3;exact⟨n-(i+1),by omega,rfl,kp.trans (k2.trans k3),yd,h5,ry.mono (k2.trans k3),rh3.sub sb,w5⟩
  ·refine .inl ⟨jo'.2 (U2.mp hi),λa ha=>p (.lst a) (.ref a) _ _ (kk.trans (.new ha)) (rh'.newL ha ry) ⟨rfl,ys,jq⟩ (stop (U2.mp hi) a (rh'.free ha))⟩
section
variable {X:Cx}{iter iter' elt:Expr}{te:TED}{ti ti':TID}{tt tt':TTD}{pos:Pos}{scope:Scope}{js:List Nat}{ifs ifs':List Expr}
theorem SK {i i':Nat}{x y:Str}{p py:Pos}(hc:X.calm=true)(S:BlockOk X scope js)(hi:QI X (.Name x p) iter ti)(hj:i∈js)(hj':i'∈js)(hne:i≠i')(hN:X.N.Nodup)(hx:X.N[i]? =some x)(hy:X.N[i']? =some y)
 (hl:scope.names.lookup x=some .local\/scope.names.lookup x=some .cell)(hl':scope.names.lookup y=some .local\/scope.names.lookup y=some .cell)
 (ht: ∀X',jp X scope X'->PTs X' ifs (LT X'.K tt))(hi': ∀X',jp X scope X'->QI X' (.Name y py) iter' ti')(ht': ∀X',jp X scope X'->PTs X' ifs' (LT X'.K tt'))(he: ∀X',jp X scope X'->QE X' elt te)
 (hs: ∀x,foldedSetIterable iter X.env x=pure x:=by intro _;rfl)(hs': ∀env x,foldedSetIterable iter' env x=pure x:=by intro _ _;rfl):
 QE X (.ListComp elt [⟨.Name x p,iter,ifs,0⟩,⟨.Name y py,iter',ifs',0⟩] scope pos) (CK (bN i) js ti tt i' ti' tt' te):=
 (show PE X _ (Am js (LI X.K ti) (yE i) (LT X.K tt) (LI X.K ti') (yE i') (LT X.K tt') (LE X.K te)) from FI hc S hi (λX' hX=>by obtain⟨C,s₀,H₀,ex,rfl⟩:=hX;exact yw hN hx hl) (λX' hX=>by have:=ht X' hX;obtain⟨C,s₀,H₀,ex,rfl⟩:=hX;exact this) (λX' hX=>by have:=hi' X' hX;obtain⟨C,s₀,H₀,ex,rfl⟩:=hX;exact this)
  (λX' hX=>by obtain⟨C,s₀,H₀,ex,rfl⟩:=hX;exact yw hN hy hl') (λX' hX=>by have:=ht' X' hX;obtain⟨C,s₀,H₀,ex,rfl⟩:=hX;exact this)
  (λX' hX=>by have:=he X' hX;obtain⟨C,s₀,H₀,ex,rfl⟩:=hX;exact this) hs hs').imp (Lk (Lj hj hj' hne))
end
def SL:RD2:=λx y h Q=>match x,y with
 | .int i,.int j=>Q (.int (i+j)) h
 | .tup a,.tup b=>a.length+b.length<=sizeLine/\Q (.tup (a++b)) h
 | .lst a,.lst b=> ∃xs ys,h a=some xs/\h b=some ys/\xs.length+ys.length<=sizeLine/\ ∀p,h p=none->Q (.lst p) (zC h p (xs++ys))
 |_,_=>False
def EK:RD2:=λx y h Q=>match x,y with
 | .int i,.int j=>Q (.int (i-j)) h
 |_,_=>False
def EL:RD2:=λx y h Q=>match x,y with
 | .int i,.int j=>CMul i j/\Q (.int (i*j)) h
 | .lst a,.int k=> ∃xs,h a=some xs/\ -(2^63)<=k/\k<2^63/\xs.length*k.toNat<=sizeLine/\ ∀p,h p=none->Q (.lst p) (zC h p (List.replicate k.toNat xs).flatten)
 |_,_=>False
def SM:RD2:=λx y h Q=>match x,y with
 | .int i,.int j=>0<j/\Q (.int (i%j)) h
 |_,_=>False
def AG:RD2:=λx y h Q=>match x,y with
 | .int i,.int j=>EA i j/\Q (.int (i / j)) h
 |_,_=>False
def EM:RD2:=λx y h Q=>match x,y with
 | .int i,.int j=>EB i j/\Q (.int (i^j.toNat)) h
 |_,_=>False
def Bo (p:Int->Int->Bool):RD2:=λx y h Q=>match x,y with
 | .int i,.int j=>Q (.bl (p i j)) h
 |_,_=>False
def eqD:RD2:=λx y h Q=>match x,y with
 | .int i,.int j=>Q (.bl (decide (i=j))) h
 | .bl i,.bl j=>Q (.bl (decide (i=j))) h
 | .str i,.str j=>Q (.bl (decide (i=j))) h
 |_,_=>False
def neD:RD2:=λx y h Q=>match x,y with
 | .int i,.int j=>Q (.bl (!decide (i=j))) h
 | .bl i,.bl j=>Q (.bl (!decide (i=j))) h
 | .str i,.str j=>Q (.bl (!decide (i=j))) h
 |_,_=>False
section
variable {X:Cx}
theorem Yo {f:Value->Value->Sem Value}{C:Int->Int->Prop}{g:Int->Int->V}{gd:Int->Int->D}{r:RD2}(ho:OpR X f (rI C g))(hg: ∀i j H,RelD X.K H (gd i j) (g i j))
 (hr: ∀x y h Q,r x y h Q-> ∃i j,x= .int i/\y= .int j/\C i j/\Q (gd i j) h):OpQ X f r:=ho.imp λx y H Q ⟨dx,dy,h,Qd,rx,ry,rh,q,p⟩=>by
 obtain⟨i,j,e1,e2,c,q'⟩:=hr dx dy h Qd q;subst e1 e2;exact⟨i,j,rx,ry,c,p _ _ _ _ (.refl H) rh (hg i j H) q'⟩
theorem JZ {f:Value->Value->Sem Value}{g:Int->Int->V}{gd:Int->Int->D}{r:RD2}(ho:OpR X f (rI0 g))(hg: ∀i j H,RelD X.K H (gd i j) (g i j))
 (hr: ∀x y h Q,r x y h Q-> ∃i j,x= .int i/\y= .int j/\Q (gd i j) h):OpQ X f r:=ho.imp λx y H Q ⟨dx,dy,h,Qd,rx,ry,rh,q,p⟩=>by
 obtain⟨i,j,e1,e2,q'⟩:=hr dx dy h Qd q;subst e1 e2;exact⟨i,j,rx,ry,p _ _ _ _ (.refl H) rh (hg i j H) q'⟩
theorem GP:OpQ X (binaryOp .Sub) EK:=JZ (gd:=λi j=> .int (i-j)) Fp (λ_ _ _=>rfl) λx y h Q q=>by
 cases x<;>cases y<;>first|exact False.elim q|exact⟨_,_,rfl,rfl,q⟩
theorem Zx:OpQ X (binaryOp .Mod) SM:=Yo (gd:=λi j=> .int (i%j)) Fq (λ_ _ _=>rfl) λx y h Q q=>by
 cases x<;>cases y<;>first|exact False.elim q|exact⟨_,_,rfl,rfl,q.1,q.2⟩
theorem Bp:OpQ X (binaryOp .FloorDiv) AG:=Yo (gd:=λi j=> .int (i / j)) NB (λ_ _ _=>rfl) λx y h Q q=>by
 cases x<;>cases y<;>first|exact False.elim q|exact⟨_,_,rfl,rfl,q.1,q.2⟩
theorem MV:OpQ X (binaryOp .Pow) EM:=Yo (gd:=λi j=> .int (i^j.toNat)) Fr (λ_ _ _=>rfl) λx y h Q q=>by
 cases x<;>cases y<;>first|exact False.elim q|exact⟨_,_,rfl,rfl,q.1,q.2⟩
theorem Uu {p:Int->Int->Bool}: ∀x y h Q,Bo p x y h Q-> ∃i j,x= .int i/\y= .int j/\Q (.bl (p i j)) h:=λx y h Q q=>by
 cases x<;>cases y<;>first|exact False.elim q|exact⟨_,_,rfl,rfl,q⟩
theorem Bq:OpQ X (compareOp .Lt) (Bo λi j=>decide (i<j)):=JZ (gd:=λi j=> .bl (decide (i<j))) Ad (λ_ _ _=>rfl) Uu
theorem Rq:OpQ X (compareOp .LtE) (Bo λi j=>decide (i<=j)):=JZ (gd:=λi j=> .bl (decide (i<=j))) Ae (λ_ _ _=>rfl) Uu
theorem Br:OpQ X (compareOp .GtE) (Bo λi j=>decide (j<=i)):=JZ (gd:=λi j=> .bl (decide (j<=i))) Af (λ_ _ _=>rfl) Uu
theorem CL {α:Type}[DecidableEq α]{f:α->V}(hf: ∀a b,f a=f b->a=b)(a b:α):decide (f a=f b)=decide (a=b):=by
 by_cases h:a=b
 ·subst h;simp
 ·rw [S6 h,S6 (λe=>h (hf a b e))]
theorem oq_eq:OpQ X (compareOp .Eq) eqD:=op_eq.imp λx y H Q ⟨dx,dy,h,Qd,rx,ry,rh,q,p⟩=>by
 cases dx<;>cases dy<;>first
  |exact False.elim q
  |(cases (show x= .int _ from rx);cases (show y= .int _ from ry);refine⟨rfl,p _ _ _ _ (.refl H) rh ?_ q⟩;rw [CL (f:=V.int) (λa b e=>by cases e;rfl)];rfl)
  |(cases (show x= .bl _ from rx);cases (show y= .bl _ from ry);refine⟨rfl,p _ _ _ _ (.refl H) rh ?_ q⟩;rw [CL (f:=V.bl) (λa b e=>by cases e;rfl)];rfl)
  |(cases (show x= .str _ from rx);cases (show y= .str _ from ry);refine⟨rfl,p _ _ _ _ (.refl H) rh ?_ q⟩;rw [CL (f:=V.str) (λa b e=>by cases e;rfl)];rfl)
theorem oq_ne:OpQ X (compareOp .NotEq) neD:=op_ne.imp λx y H Q ⟨dx,dy,h,Qd,rx,ry,rh,q,p⟩=>by
 cases dx<;>cases dy<;>first
  |exact False.elim q
  |(cases (show x= .int _ from rx);cases (show y= .int _ from ry);refine⟨rfl,p _ _ _ _ (.refl H) rh ?_ q⟩;rw [CL (f:=V.int) (λa b e=>by cases e;rfl)];rfl)
  |(cases (show x= .bl _ from rx);cases (show y= .bl _ from ry);refine⟨rfl,p _ _ _ _ (.refl H) rh ?_ q⟩;rw [CL (f:=V.bl) (λa b e=>by cases e;rfl)];rfl)
  |(cases (show x= .str _ from rx);cases (show y= .str _ from ry);refine⟨rfl,p _ _ _ _ (.refl H) rh ?_ q⟩;rw [CL (f:=V.str) (λa b e=>by cases e;rfl)];rfl)
def Ll (K:PySem.W.Frag):R2:=λx y H Q=> ∃a b xs ys,x= .ref a/\y= .ref b/\SqT K H a xs/\SqT K H b ys/\xs= []/\Q (.ref b) H
theorem op_catT0:OpR X (binaryOp .Add) (Ll X.K):=by
 intro pins s σ H x y v u Q I rx ry h;obtain⟨a,b,xs,ys,rfl,rfl,ha,hb,hx,q⟩:=h;cases rx;cases ry;obtain⟨its,r1,p1,_⟩:=I.tuple ha;obtain⟨its2,r2,p2,_⟩:=I.tuple hb;have hv:its= []:=r1.nil_iff.mpr hx;obtain⟨⟨cls,dd,data,sl⟩,ho,hc,n,hd⟩:=id p1;obtain⟨⟨cls2,dd2,data2,sl2⟩,ho2,hc2,n2,hd2⟩:=id p2;simp only at hc hd hc2 hd2;subst hc hd hc2 hd2;exact concat_meets ⟨_,ho,rfl⟩ ⟨_,ho2,rfl⟩ G0C seq_tuple_add V4 U6 (U1 _ _)
  (tuple_addW0 a b its.toArray its2.toArray n n2 dd dd2 sl sl2 (by simp [hv])) ⟨ho,ho2,.ref b,H,I,rfl,q⟩
theorem wg:OpQ X (binaryOp .Add) SL:=(op_add.or (op_catT.or (op_catT0.or FD))).imp λx y H Q ⟨dx,dy,h,Qd,rx,ry,rh,q,p⟩=>by
 cases dx<;>cases dy<;>first
  |exact False.elim q
  |skip
 ·exact .inl ⟨_,_,rx,ry,p (.int _) _ _ _ (.refl H) rh rfl q⟩
 ·rename_i ds es;obtain⟨a,vs,e1,h1,r1⟩:=(show ∃a vs,x= .ref a/\H a=some (.tup vs)/\RelDs X.K H ds vs from rx);obtain⟨b,us,e2,h2,r2⟩:=(show ∃a vs,y= .ref a/\H a=some (.tup vs)/\RelDs X.K H es vs from ry);subst e1 e2;obtain⟨hz,q⟩:=q
  by_cases hv:vs= []
  ·subst hv;have e:ds= []:=C5.mp r1.length;subst e;exact .inr (.inr (.inl ⟨a,b,[],us,rfl,rfl,SqT.of h1,SqT.of h2,rfl,p (.tup es) _ _ _ (.refl H) rh ⟨b,us,rfl,h2,r2⟩ q⟩))
  ·refine .inr (.inl ⟨a,b,vs,us,rfl,rfl,SqT.of h1,SqT.of h2,hv,by rw [<-r1.length,<-r2.length];exact hz,λe=> ?_,λ_ c hc=> ?_⟩)
   ·subst e;have e:es= []:=C5.mp r2.length;subst e;rw [C3] at q;exact p (.tup ds) _ _ _ (.refl H) rh ⟨a,vs,rfl,h1,r1⟩ q
   ·exact p (.tup (ds++es)) _ _ _ (.new hc) (rh.new hc) ⟨c,vs++us,rfl,jq,(r1.append r2).mono (.new hc)⟩ q
 ·rename_i a b;obtain⟨xs,ys,h1,h2,hz,q⟩:=q;obtain⟨vs,e1,r1⟩:=rh a xs h1;obtain⟨us,e2,r2⟩:=rh b ys h2;refine .inr (.inr (.inr ⟨a,b,vs,us,rx.1,ry.1,e1,e2,by rw [<-r1.length,<-r2.length];exact hz,λc hc=> ?_⟩));exact p (.lst c) _ _ _ (.new hc) (rh.newL hc (r1.append r2)) ⟨rfl,_,jq⟩ (q c (rh.free hc))
theorem RelDs.flat {K:PySem.W.Frag}{H:Hp}{ds:List D}{vs:List V}(r:RelDs K H ds vs): ∀k:Nat,RelDs K H (List.replicate k ds).flatten (List.replicate k vs).flatten
 |0=>by simp;exact .nil
 |k+1=>by rw [F5,F5,E1,E1];exact r.append (RelDs.flat r k)
theorem oq_mul:OpQ X (binaryOp .Mult) EL:=(op_mul.or FE).imp λx y H Q ⟨dx,dy,h,Qd,rx,ry,rh,q,p⟩=>by
 cases dx<;>cases dy<;>first
  |exact False.elim q
  |skip
 ·exact .inl ⟨_,_,rx,ry,q.1,p (.int _) _ _ _ (.refl H) rh rfl q.2⟩
 ·obtain⟨xs,h1,b1,b2,hz,q⟩:=q;obtain⟨vs,e1,r1⟩:=rh _ xs h1;refine .inr ⟨_,_,vs,rx.1,ry,e1,b1,b2,by rw [<-r1.length];exact hz,λc hc=> ?_⟩;exact p (.lst c) _ _ _ (.new hc) (rh.newL hc (r1.flat _)) ⟨rfl,_,jq⟩ (q c (rh.free hc))
end
def ixD:RD2:=λx y h Q=>match x,y with
 | .tup ds,.int i=> ∃d,atI ds i=some d/\Q d h
 | .lst a,.int i=> ∃ds d,h a=some ds/\atI ds i=some d/\Q d h
 | .scr ns,.int i=> ∃n,atI ns i=some n/\Q (.int n) h
 |_,_=>False
theorem GQ {K:PySem.W.Frag}{H:Hp}{ds:List D}{vs:List V}(r:RelDs K H ds vs){i:Int}{d:D}(e:atI ds i=some d): ∃v,atI vs i=some v/\RelD K H d v:=by
 unfold atI at e ⊢;rw [<-r.length];cases q:ixN ds.length i with
 |none=>rw [q] at e;cases e
 |some j=>rw [q] at e;exact r.get e
theorem Bs {α β:Type}(f:α->β){xs:List α}{i:Int}{x:α}(e:atI xs i=some x):atI (xs.map f) i=some (f x):=by
 unfold atI at e ⊢;rw [G0];cases q:ixN xs.length i with
 |none=>rw [q] at e;cases e
 |some j=>
  rw [q] at e;show (xs.map f)[j]? =_;rw [P9,(show xs[j]? =some x from e)];rfl
section
variable {X:Cx}{a b e:Expr}{ta tb te:TED}{pos p2:Pos}
theorem AH: ∀σ H Q,LE X.K (dOp ixD ta tb) σ H Q->tOp (rIx X.K) (LE X.K ta) (LE X.K tb) σ H Q:=λσ H Q ⟨σd,h,Qd,rs,rh,t,p⟩=>
 LE.bind rs rh t λdx x h1 H1 k1 rs1 rh1 r1 t1=>LE.bind rs1 rh1 t1 λdy y h2 H2 k2 rs2 rh2 ry q=>by
  have rx:=r1.mono k2;have kk:=k1.trans k2;cases dx<;>cases dy<;>first
   |exact False.elim q
   |skip
  ·rename_i ds i;obtain⟨d,e,q⟩:=q;obtain⟨a,vs,e1,hH,r⟩:=(show ∃a vs,x= .ref a/\H2 a=some (.tup vs)/\RelDs X.K H2 ds vs from rx);obtain⟨v,e2,rv⟩:=GQ r e;exact .inr (.inl ⟨a,vs,i,v,e1,ry,SqT.of hH,e2,p _ _ _ _ kk rh2 rv q⟩)
  ·rename_i a i;obtain⟨ds,d,hd,e,q⟩:=q;obtain⟨vs,hH,r⟩:=rh2 a ds hd;obtain⟨v,e2,rv⟩:=GQ r e;exact .inl ⟨a,vs,i,v,rx.1,ry,SqL.of hH,e2,p _ _ _ _ kk rh2 rv q⟩
  ·rename_i ns i;obtain⟨n,e,q⟩:=q;obtain⟨a,e1,hS⟩:=(show ∃a,x= .ref a/\Scr X.K H2 a ns from rx);exact .inl ⟨a,_,i,.int n,e1,ry,hS.sq,Bs V.int e,p (.int n) _ _ _ kk rh2 rfl q⟩
theorem qix (ha:QE X a ta)(hb:QE X b tb)(hs:Yk b):QE X (.Subscript a b pos) (dOp ixD ta tb):=(Aj FB ha hb hs).imp AH
end
def CM:RDn:=λds h Q=>match ds with
 | [.tup xs]=>Q (.int xs.length) h
 | [.lst a]=> ∃xs,h a=some xs/\Q (.int xs.length) h
 | [.scr ns]=>Q (.int ns.length) h
 |_=>False
def AI:RDn:=λds h Q=>match ds with
 | [.int i]=>Q (.int i) h
 | [.bl k]=>Q (.int (if k then 1 else 0)) h
 |_=>False
def AJ:RDn:=λds h Q=>match ds with
 | [.int i,.int j]=>Q (.int (if j>i then j else i)) h
 |_=>False
def Xw:RDn:=λds h Q=>match ds with
 | [.tup xs]=>Q (.tup xs) h
 | [.lst a]=> ∃xs,h a=some xs/\Q (.tup xs) h
 |_=>False
def JC:RDn:=λds h Q=>match ds with
 | [.lst a]=> ∃xs,h a=some xs/\Q (.tup xs) (Wv h a)
 |_=>False
def Lm:RDn:=λds h Q=>match ds with
 | [.tup xs]=> ∀p,h p=none->Q (.lst p) (zC h p xs)
 | [.lst a]=> ∃xs,h a=some xs/\ ∀p,h p=none->Q (.lst p) (zC h p xs)
 |_=>False
section
variable {X:Cx}
theorem Ln:yG X (.builtin "len") CM:=call_len_seq.imp λxs H Q ⟨ds,h,Qd,r,rh,q,p⟩=>by
 unfold CM at q;split at q
 ·rename_i es;obtain⟨v,e,r1⟩:=jw r;obtain⟨a,vs,e1,hH,r2⟩:=(show ∃a vs,v= .ref a/\H a=some (.tup vs)/\RelDs X.K H es vs from r1);subst e e1;exact⟨a,vs,rfl,.inr (SqT.of hH),by rw [<-r2.length];exact p (.int _) _ _ _ (.refl H) rh rfl q⟩
 ·rename_i a;obtain⟨es,hd,q⟩:=q;obtain⟨v,e,r1⟩:=jw r;obtain⟨vs,hH,r2⟩:=rh a es hd;have e1:v= .ref a:=r1.1;subst e e1;exact⟨a,vs,rfl,.inl (SqL.of hH),by rw [<-r2.length];exact p (.int _) _ _ _ (.refl H) rh rfl q⟩
 ·rename_i ns;obtain⟨v,e,r1⟩:=jw r;obtain⟨a,e1,hS⟩:=(show ∃a,v= .ref a/\Scr X.K H a ns from r1);subst e e1;exact⟨a,_,rfl,.inl hS.sq,by rw [G0];exact p (.int _) _ _ _ (.refl H) rh rfl q⟩
 ·exact q.elim
theorem MW:yG X (.type "int") AI:=call_int1.imp λxs H Q ⟨ds,h,Qd,r,rh,q,p⟩=>by
 unfold AI at q;split at q
 ·rename_i i;obtain⟨v,e,r1⟩:=jw r;cases (show v= .int i from r1);exact .inl ⟨i,e,p (.int i) _ _ _ (.refl H) rh rfl q⟩
 ·rename_i k;obtain⟨v,e,r1⟩:=jw r;cases (show v= .bl k from r1);exact .inr ⟨k,e,p (.int _) _ _ _ (.refl H) rh rfl q⟩
 ·exact q.elim
theorem Lo (hc:X.calm=true):yG X (.builtin "max") AJ:=(Gu hc).imp λxs H Q ⟨ds,h,Qd,r,rh,q,p⟩=>by
 unfold AJ at q;split at q
 ·rename_i i j;obtain⟨v,w,e,r1,r2⟩:=yb r;cases (show v= .int i from r1);cases (show w= .int j from r2);exact⟨i,j,e,p (.int _) _ _ _ (.refl H) rh rfl q⟩
 ·exact q.elim
theorem cq_tuple:yG X (.type "tuple") Xw:=call_tuple_of.imp λxs H Q ⟨ds,h,Qd,r,rh,q,p⟩=>by
 unfold Xw at q;split at q
 ·rename_i es;obtain⟨v,e,r1⟩:=jw r;obtain⟨a,vs,e1,hH,r2⟩:=(show ∃a vs,v= .ref a/\H a=some (.tup vs)/\RelDs X.K H es vs from r1);subst e e1;exact⟨a,vs,rfl,.inr ⟨SqT.of hH,p (.tup es) _ _ _ (.refl H) rh ⟨a,vs,rfl,hH,r2⟩ q⟩⟩
 ·rename_i a;obtain⟨es,hd,q⟩:=q;obtain⟨v,e,r1⟩:=jw r;obtain⟨vs,hH,r2⟩:=rh a es hd;have e1:v= .ref a:=r1.1;subst e e1;exact⟨a,vs,rfl,.inl ⟨SqL.of hH,λc hc=>p (.tup es) _ _ _ (.new hc) (rh.new hc) ⟨c,vs,rfl,jq,r2.mono (.new hc)⟩ q⟩⟩
 ·exact q.elim
theorem jW:yG X (.type "tuple") JC:=cq_tuple.imp λxs H Q ⟨ds,h,Qd,r,rh,q,p⟩=>by
 unfold JC at q;split at q
 ·rename_i a;obtain⟨es,hd,q⟩:=q;exact⟨[.lst a],h,λd h'=>Qd d (Wv h' a),r,rh,⟨es,hd,q⟩,λd v h' H' k rh' rd q'=>p d v _ H' k (rh'.sub (Sub.drop h' a)) rd q'⟩
 ·exact q.elim
theorem GR:yG X (.type "list") Lm:=call_list_of.imp λxs H Q ⟨ds,h,Qd,r,rh,q,p⟩=>by
 unfold Lm at q;split at q
 ·rename_i es;obtain⟨v,e,r1⟩:=jw r;obtain⟨a,vs,e1,hH,r2⟩:=(show ∃a vs,v= .ref a/\H a=some (.tup vs)/\RelDs X.K H es vs from r1);subst e e1;exact⟨a,vs,rfl,.inr (SqT.of hH),λc hc=>p (.lst c) _ _ _ (.new hc) (rh.newL hc r2) ⟨rfl,_,jq⟩ (q c (rh.free hc))⟩
 ·rename_i a;obtain⟨es,hd,q⟩:=q;obtain⟨v,e,r1⟩:=jw r;obtain⟨vs,hH,r2⟩:=rh a es hd;have e1:v= .ref a:=r1.1;subst e e1;exact⟨a,vs,rfl,.inl (SqL.of hH),λc hc=>p (.lst c) _ _ _ (.new hc) (rh.newL hc r2) ⟨rfl,_,jq⟩ (q c (rh.free hc))⟩
 ·exact q.elim
end
def Vm:D->Option String
 | .non=>some "NoneType" | .bl _=>some "bool" | .int _=>some "int" | .str _=>some "str" | .tup _=>some "tuple" | .lst _=>some "list" | .dic _ _=>some "dict" | .dct _=>none| .scr _=>none| .exc _=>none| .fn _=>none
def Lp (T:String)(n:String):Bool:=n==T||(T== "int" &&n== "bool")
theorem Rr {K:PySem.W.Frag}{H:Hp}{d:D}{v:V}{n:String}(r:RelD K H d v)(e:Vm d=some n):TyOf K H v (.type n):=by
 cases d with
 |non=>cases (show v= .non from r);cases e;exact .non
 |bl b=>cases (show v= .bl b from r);cases e;exact .bl b
 |int i=>cases (show v= .int i from r);cases e;exact .int i
 |str x=>cases (show v= .str x from r);cases e;exact .str x
 |tup ds=>
  obtain⟨a,vs,e1,hH,_⟩:=(show ∃a vs,v= .ref a/\H a=some (.tup vs)/\RelDs K H ds vs from r);subst e1;cases e;exact .tup hH
 |lst a=>
  obtain⟨e1,vs,hH⟩:=(show v= .ref a/\ ∃vs,H a=some (.lst vs) from r);subst e1;cases e;exact .lst hH
 |dic x i=>
  obtain⟨a,e1,hH⟩:=(show ∃a,v= .ref a/\H a=some (.dK [(Sum.inr x,V.int i)]) from r);subst e1;cases e;exact .dK hH
 |dct a=>cases e
 |scr ns=>cases e
 |exc C=>cases e
 |fn a=>cases e
def Bv:List String:= ["NoneType","bool","int","str","tuple","list","dict"]
theorem Qt {d:D}{n:String}(e:Vm d=some n):n∈Bv:=by
 cases d<;>cases e<;>decide
def AK (K:PySem.W.Frag):Prop:= ∀n∈Bv,∀T∈ ["tuple","int","bool","list","str"],PySem.W.kitOne K (.type n) (.type T)=some (Lp T n)
theorem Bw (K:PySem.W.Frag):AK K:=by
 intro n hn T hT;simp only [Bv,R5,N8,G0y] at hn hT;rcases hn with rfl|rfl|rfl|rfl|rfl|rfl|rfl<;>rcases hT with rfl|rfl|rfl|rfl|rfl<;>with_unfolding_all rfl
theorem GS {X:Cx}(T:String):CallR X (.builtin "isinstance") (λxs H Q=> ∃x t b,xs= [x,.ty T]/\TyOf X.K H x t/\PySem.W.kitOne X.K t (.type T)=some b/\Q (.bl b) H):=by
 intro pins s σ H xs us Q I r h;obtain⟨x,t,b,rfl,ty,e,q⟩:=h;obtain⟨u,w',rfl,rx,rt⟩:=DZ r;cases (show w'=Value.type T from rt);exact Gw I rx ty e λtk=>⟨.bl b,H,I.tok tk,rfl,q⟩
def dIs (T:String)(ta:TED):TED:=λσ h Q=>ta σ h λx h1=> ∃n,Vm x=some n/\Q (.bl (Lp T n)) h1
theorem AL {X:Cx}{a:Expr}{ta:TED}{T:String}{t:Str}{p p2 pos:Pos}(hT:T∈ ["tuple","int","bool","list","str"])(hg:Gl X "isinstance")(hm:X.mg "isinstance" =none)(hg2:Gl X t)(hm2:X.mg t=none)(hv:bootBuiltins t=some (.type T))(ha:QE X a ta)
 (hn:t≠ "__name__" :=by decide)(hd:(t==("__debug__" :Str))=false:=by decide)
 (h1:starEach [a,.Name t p2] X.env=(false,eval a X.env)::starEach [.Name t p2] X.env:=by rfl)(h2:(backTo pos (starEach [.Name t p2] X.env)).any (·.1)=false:=by rfl):
 QE X (.Call (.Name "isinstance" p) [a,.Name t p2] [] pos) (dIs T ta):=
 (Xs (GS T) hg hm PyProof.Rows.boot_isinstance (wt ha (wt (Nu (v:= .ty T) hg2 hm2 hv rfl hn hd) pa_nil (by rfl)) h1) (by decide) (by decide) h1 h2).imp
  λσ H Q ⟨σd,h,Qd,rs,rh,t,p⟩=>LE.bind rs rh t λd v h1 H1 k1 rs1 rh1 r1 ⟨n,e,q⟩=>⟨v,.type n,Lp T n,rfl,Rr r1 e,Bw _ n (Qt e) T hT,p (.bl _) _ _ _ k1 rh1 rfl q⟩
theorem GT (bs:List Bool):(List.range bs.length).all (λi=>bs.getD i false)=bs.all id:=by
 induction bs with
 |nil=>rfl
 |cons b bs ih=>
  rw [D5,O6,List.all_cons,F9,List.all_cons];show (b&&_)=(b&&bs.all id);rw [<-ih];rfl
theorem GU (bs:List Bool):(List.range bs.length).any (λi=>bs.getD i false)=bs.any id:=by
 induction bs with
 |nil=>rfl
 |cons b bs ih=>
  rw [D5,O6,List.any_cons,G0Q,List.any_cons];show (b||_)=(b||bs.any id);rw [<-ih];rfl
theorem Vn {bs:List Bool}{its:List Value}(r:Vals (bs.map V.bl) its){i:Nat}{v:Value}(e:its[i]? =some v):v= .bool (bs.getD i false):=by
 have hl:=r.length;rw [G0] at hl;have hi:i<its.length:=(G5.mp e).1;have hb:(bs.map V.bl)[i]? =some (.bl bs[i]):=by rw [P9,G1 (by omega)];rfl
 obtain⟨u,e1,r1⟩:=r.get hb;rw [e] at e1;cases e1;rw [D2,G1 (by omega)];exact r1
section
variable {X:Cx}
theorem Yp (hc:X.calm=true):CallR X (.builtin "all") (λxs H Q=> ∃ (a:Addr) (bs:List Bool),xs= [.ref a]/\SqL X.K H a (bs.map V.bl)/\Q (.bl (bs.all id)) H):=by
 intro pins s σ H xs us Q I r h;obtain⟨a,bs,rfl,hS,q⟩:=h;obtain⟨u,rfl,ru⟩:=yF r;cases ru;obtain⟨its,rv,pl,hz⟩:=I.list hS;have hl:=pl.isList;have hlt:a<s.heap.objs.size:=by obtain⟨_,e,_⟩:=hl;exact D3 e
 refine call_all_walk (K4 hl ?_);refine⟨s.heap.objs.size,_,_,_,_,_,λi=>bs.getD i false,rfl,Walks.list (A:=X.A.in1) (show X.A.in1.handled=none from I.ok.hd hc) s.heap.objs.size a (S1 hlt) its.toArray,⟨⟨_,D9 _ rfl,rfl,rfl⟩,hl.push _⟩,?_,λh' tk hk=> ?_⟩
 ·intro i v s' Q' E' hP hQ;have e:its[i]? =some v:=by simpa using hP
  rw [Vn rv e];exact N5 hQ
 ·have hn:its.toArray.size=bs.length:=by rw [P4,<-rv.length,G0]
  rw [hn,GT];exact⟨.bl _,H,I.kept (t':=tk) (λb o e=>hk b o (λz=>by rw [G2.mp z] at e;exact absurd (D3 e) (N3 _)) (G3 _ e)),rfl,q⟩
theorem Yq (hc:X.calm=true):CallR X (.builtin "any") (λxs H Q=> ∃ (a:Addr) (bs:List Bool),xs= [.ref a]/\SqL X.K H a (bs.map V.bl)/\Q (.bl (bs.any id)) H):=by
 intro pins s σ H xs us Q I r h;obtain⟨a,bs,rfl,hS,q⟩:=h;obtain⟨u,rfl,ru⟩:=yF r;cases ru;obtain⟨its,rv,pl,hz⟩:=I.list hS;have hl:=pl.isList;have hlt:a<s.heap.objs.size:=by obtain⟨_,e,_⟩:=hl;exact D3 e
 refine call_any_walk (K4 hl ?_);refine⟨s.heap.objs.size,_,_,_,_,_,λi=>bs.getD i false,rfl,Walks.list (A:=X.A.in1) (show X.A.in1.handled=none from I.ok.hd hc) s.heap.objs.size a (S1 hlt) its.toArray,⟨⟨_,D9 _ rfl,rfl,rfl⟩,hl.push _⟩,?_,λh' tk hk=> ?_⟩
 ·intro i v s' Q' E' hP hQ;have e:its[i]? =some v:=by simpa using hP
  rw [Vn rv e];exact N5 hQ
 ·have hn:its.toArray.size=bs.length:=by rw [P4,<-rv.length,G0]
  rw [hn,GU];exact⟨.bl _,H,I.kept (t':=tk) (λb o e=>hk b o (λz=>by rw [G2.mp z] at e;exact absurd (D3 e) (N3 _)) (G3 _ e)),rfl,q⟩
theorem yS {K:PySem.W.Frag}{H:Hp}: ∀ {bs:List Bool} {vs:List V},RelDs K H (bs.map D.bl) vs->vs=bs.map V.bl
 | [],_,h=>h
 |b::bs,vs,h=>by
  obtain⟨v,r,e,h1,h2⟩:=(show ∃v r,vs=v::r/\RelD K H (.bl b) v/\RelDs K H (bs.map D.bl) r from h);rw [e,yS h2,(show v= .bl b from h1)];rfl
def Bx:RDn:=λds h Q=> ∃ (a:Addr) (bs:List Bool),ds= [.lst a]/\h a=some (bs.map D.bl)/\Q (.bl (bs.all id)) (Wv h a)
def Lq:RDn:=λds h Q=> ∃ (a:Addr) (bs:List Bool),ds= [.lst a]/\h a=some (bs.map D.bl)/\Q (.bl (bs.any id)) (Wv h a)
theorem WN (hc:X.calm=true):yG X (.builtin "all") Bx:=(Yp hc).imp λxs H Q ⟨ds,h,Qd,r,rh,⟨a,bs,e,hd,q⟩,p⟩=>by
 subst e;obtain⟨v,e,r1⟩:=jw r;obtain⟨vs,hH,r2⟩:=rh a _ hd;have e1:v= .ref a:=r1.1;rw [yS r2] at hH;subst e e1;exact⟨a,bs,rfl,SqL.of hH,p (.bl _) _ _ _ (.refl H) (rh.sub (Sub.drop h a)) rfl q⟩
theorem MX (hc:X.calm=true):yG X (.builtin "any") Lq:=(Yq hc).imp λxs H Q ⟨ds,h,Qd,r,rh,⟨a,bs,e,hd,q⟩,p⟩=>by
 subst e;obtain⟨v,e,r1⟩:=jw r;obtain⟨vs,hH,r2⟩:=rh a _ hd;have e1:v= .ref a:=r1.1;rw [yS r2] at hH;subst e e1;exact⟨a,bs,rfl,SqL.of hH,p (.bl _) _ _ _ (.refl H) (rh.sub (Sub.drop h a)) rfl q⟩
end
def EN (to:TED)(te:TED):TED:=λσ h Q=>to σ h λx h1=> ∃a,x= .lst a/\te σ h1 λy h2=> ∃xs,h2 a=some xs/\xs.length<sizeLine/\Q .non (zC h2 a (xs++ [y]))
section
variable {X:Cx}{o e i:Expr}{to te ti:TED}{apos cpos pos:Pos}
theorem SN (ho:QE X o to)(he:QE X e te)(hbase:attributeBase o "append" X.env (eval o X.env)=eval o X.env:=by rfl)
 (hfew:((backTo cpos (starEach [e] X.env)).all (λx=> !x.1)&&(backToKw cpos (keywordEach [] X.env)).all (λx=>x.1.isSome)&&decide ([e].length+([]:List Keyword).length+(if ([]:List Keyword).isEmpty then 0 else 1)<30))=true:=by rfl)
 (hline:(apos.endLine==cpos.line)=true:=by rfl)(hs:starEach [e] X.env=(false,eval e X.env)::starEach [] X.env:=by rfl)(hplain:(backTo cpos (starEach [] X.env)).any (·.1)=false:=by rfl):
 QE X (.Call (.Attribute o "append" apos) [e] [] cpos) (EN to te):=
 (Rh E7 PySem.F.slot_list_append PySem.F.type_list_append GC ho (wt he pa_nil hs) hbase hfew hline hs hplain).imp
  λσ H Q ⟨σd,h,Qd,rs,rh,t,p⟩=>LE.bind rs rh t λd v h1 H1 k1 rs1 rh1 r1 ⟨a,e,q⟩=>by
   subst e;obtain⟨e1,vs,hH⟩:=(show v= .ref a/\ ∃vs,H1 a=some (.lst vs) from r1);subst e1;refine⟨.inl ⟨rfl,vs,SqL.of hH⟩,?_⟩;refine LE.bind rs1 rh1 q λy u h2 H2 k2 rs2 rh2 r2 ⟨xs,hx,hz,q2⟩=> ?_
   obtain⟨ws,hW,r3⟩:=rh2 a xs hx;refine⟨a,ws,u,rfl,rfl,hW,by rw [<-r3.length];exact hz,p .non _ _ _ (k1.trans (k2.trans (.put hW))) (rh2.put hW (r3.append (.cons r2 .nil))) rfl q2⟩
def Lr (to ti:TED):TGD:=λd σ h Q=>to σ h λo h1=>ti σ h1 λi h2=> ∃a k xs j,o= .lst a/\i= .int k/\h2 a=some xs/\ixN xs.length k=some j/\Q σ (zC h2 a (xs.set j d))
theorem Lt (ho:QE X o to)(hi:QE X i ti)
 (ha: ∀v,assign (.Subscript o i pos) X.env v=(do
  let ov <-holding [v] (eval o X.env)
  let iv <-holding [v,ov] (eval i X.env)
  standAt pos
  holding [v,ov,iv] (setItem ov iv v)
  release [v,ov,iv] []):=by intro _;rfl):QG X (.Subscript o i pos) (Lr to ti):=
 (Fi ho hi Rg ha).imp λv σ H Q ⟨d,σd,h,Qd,r,rs,rh,q,p⟩=>
  LE.bind rs rh q λd1 v1 h1 H1 k1 rs1 rh1 r1 q1=>LE.bind rs1 rh1 q1 λd2 v2 h2 H2 k2 rs2 rh2 r2 ⟨a,k,xs,j,e1,e2,hx,hj,q2⟩=>by
   subst e1 e2;have e3:v1= .ref a:=(r1.mono k2).1;obtain⟨ws,hW,r3⟩:=rh2 a xs hx;refine⟨a,ws,k,j,e3,r2,hW,by rw [<-r3.length];exact hj,p _ _ _ _ (k1.trans (k2.trans (.put hW))) (rs2.mono (.put hW)) (rh2.put hW (RelDs.set ((r.mono k1).mono k2) j r3)) q2⟩
end
def Xx (N:List Str)(sc:List (Str×NameKind))(scope:Scope)(js:List Nat):Bool:=
 scope.kind== .function&&scope.names.all (λp=>p.2 != .cell||scope.names.lookup p.1==some .cell)&&scope.names.all (λp=>p.2 != .local||scope.names.lookup p.1==some .local)&&
 scope.names.all (λp=>p.2 != .free||sc.lookup p.1==some .cell||sc.lookup p.1==some .free)&&
 (List.range N.length).all λi=>(scope.names.lookup (N.getD i Str.empty) !=some .local&&scope.names.lookup (N.getD i Str.empty) !=some .cell)||js.contains i
theorem wE {X:Cx}{scope:Scope}{js:List Nat}(h:Xx X.N X.env.scope.names scope js=true):BlockOk X scope js:=by
 unfold Xx at h;simp only [B2] at h;obtain⟨⟨⟨⟨h1,h2⟩,h3⟩,h4⟩,h5⟩:=h;refine⟨eq_of_beq h1,λp hp e=> ?_,λp hp e=> ?_,λp hp e=> ?_,λi x e1 e2=> ?_⟩
 ·have:=S8.mp h3 p hp;rw [e] at this;simpa using this
 ·have:=S8.mp h2 p hp;rw [e] at this;simpa using this
 ·have:=S8.mp h4 p hp;rw [e] at this;simpa using this
 ·have hi:i<X.N.length:=(G5.mp e1).1;have:=S8.mp h5 i (P2.mpr hi);rw [D2,e1,Option.getD_some] at this;rcases e2 with e2|e2<;>(rw [e2] at this;simpa using this)
theorem qpt {X:Cx}{e:Expr}{t:TTD}(h:QW X e t):QT X e t:=h.pt
theorem GV {i:Nat}{js:List Nat}{ti:TID}{te:TED}{σ:SD}{h h1:HD}{Q:KD}{ds:List D}{j:ItD}(f:D->D)(hz:ds.length<=sizeLine)(hj:j h1=some ds)
 (ht: ∀R:ItD->HD->Prop,R j h1->ti σ h R)(he: ∀d∈ds,∀Q':KD,Q' (f d) h1->te ((jJ js σ).set i (some d)) h1 Q')(hq: ∀p,h1 p=none->Q (.lst p) (zC h1 p (ds.map f))):wL (bN i) js ti yR te σ h Q:=by
 refine ht _ ⟨ds.length,λk ys h'=>h'=h1/\ys=(ds.take k).map f,⟨rfl,by simp⟩,?_⟩;rintro k ys h' ⟨rfl,rfl⟩;refine⟨by simp only [G0,R1];omega,ds,hj,G6 _,λhl p hp=> ?_,λd hd=>⟨_,rfl,?_⟩⟩
 ·rw [R0 hl];exact hq p hp
 ·unfold yR;dsimp only;rw [if_pos rfl];refine he d (G9 hd) _ ⟨h',Sub.refl _,rfl,?_⟩;rw [M1,hd];simp
end L2
namespace HT
open PySem PySem.Spec PyProof.Rows
section
variable {prog:Program}{w:World}{A:Around}{E:Value->Shared->Prop}{s:Shared}
theorem yT {t sl:Addr}{items:Array Value}{vl vu:Value}{lo hi:Option Int}{Q:Value->Shared->Prop}(ht:IsTup s.heap t items)(hs:s.heap.IsSliceOf sl vl vu .none)(pl:IsPart vl lo)(pu:IsPart vu hi)
 (hw:sIx items.size 0 lo=0/\sIx items.size items.size hi=items.size)(h:Q (.ref t) s):wpAny (model prog w) A (getItem (.ref t) (.ref sl)) Q E s:=by
 obtain⟨os,hos,hcs,hds⟩:=id hs;have hTs:s.TypeIs (.ref sl) "slice" :=⟨os,hos,hcs⟩;unfold getItem
 try with_reducible refine C0 ?_
 first|refine wpAny_bind (P1 ?_)|skip
 refine wpAny_bind (wpAny_sequenceKey ht.typeIs (by decide) ?_);refine wpAny_bind (C4 (name:=Str.ofString "__getitem__") ht.typeIs F4
  (B1 F4 ht.typeIs entry_tuple_getitem ?_ (args_tuple_getitem _ _)))
 show wpAny _ _ (Builtin.Tuple.tupleItemsOf (.ref t) >>= _) _ _ s;refine wpAny_bind (tupleItemsOf_ ht ?_);refine wpAny_bind (wpAny_typeOf hTs ?_);rw [if_pos (by decide)];refine wpAny_bind (wY hs pl pu ?_);have hyes:((((sIx items.size 0 lo:Nat):Int)==0&&(1:Int)==1&&(sIx items.size items.size hi-sIx items.size 0 lo)==items.size)=true):=by
  rw [hw.1,hw.2];simp
 show wpAny _ _ (if (((sIx items.size 0 lo:Nat):Int)==0&&(1:Int)==1&&(sIx items.size items.size hi-sIx items.size 0 lo)==items.size)=true then _ else _) _ _ s;rw [if_pos hyes];refine wpAny_bind (m:=Builtin.Tuple.tupleIsExact (.ref t)) ?_;unfold Builtin.Tuple.tupleIsExact;refine wpAny_bind (wpAny_typeOf ht.typeIs (P1 ?_));rw [if_pos (by decide)];exact wpAny_bind (X5 (P1 ⟨_,rfl,P1 h⟩))
end
end HT
namespace L2
open PySem PySem.Spec PyProof.Rows
def SO (K:PySem.W.Frag):V->Option Int->Option Int->Hp->VK->Prop:=λx lo hi H Q=> ∃a xs,x= .ref a/\SqT K H a xs/\(HT.sIx xs.length 0 lo=0/\HT.sIx xs.length xs.length hi=xs.length)/\Q (.ref a) H
variable {X:Cx}
theorem sl_whole:SlR X (SO X.K):=by
 intro pins s σ H x v vl vu lo hi sl Q I rx hs pl pu h;obtain⟨a,xs,rfl,hx,hw,q⟩:=h;cases rx;obtain⟨its,r,ht,hz⟩:=I.tuple hx;have hlen:its.toArray.size=xs.length:=by rw [P4];exact r.length.symm
 refine⟨"tuple",_,PyProof.Rows.slot_tuple_getitem.lookup,ht.typeIs,?_⟩;exact HT.yT ht hs pl pu (by rw [hlen];exact hw) ⟨.ref a,H,I,rfl,q⟩
def WO {α:Type}(xs:List α)(lo hi:Option Int):List α:=(xs.drop (HT.sIx xs.length 0 lo)).take (HT.sIx xs.length xs.length hi-HT.sIx xs.length 0 lo)
abbrev TOD:=SD->HD->(Option Int->HD->Prop)->Prop
def GW:TOD:=λ_ h Q=>Q none h
def Lu (t:TED):TOD:=λσ h Q=>t σ h λx h1=> ∃i,x= .int i/\Q (some i) h1
def LO (K:PySem.W.Frag)(t:TOD):TO:=λσ H Q=> ∃σd h Qd,RelS K H σd σ/\RelH K h H/\t σd h Qd/\ ∀o h' H',Kept H H'->RelH K h' H'->Qd o h'->Q o H'
theorem LO.bind {K:PySem.W.Frag}{ta:TOD}{σ:St}{H:Hp}{σd:SD}{h:HD}{kd:Option Int->HD->Prop}{k:Option Int->Hp->Prop}(rs:RelS K H σd σ)(rh:RelH K h H)(t:ta σd h kd)(f: ∀o h' H',Kept H H'->RelS K H' σd σ->RelH K h' H'->kd o h'->k o H'):LO K ta σ H k:=
 ⟨σd,h,kd,rs,rh,t,λo h' H' kp r1 q=>f o h' H' kp (rs.mono kp) r1 q⟩
theorem PO.imp {e:Option Expr}{t t':TO}(h:PO X e t)(i: ∀σ H Q,t' σ H Q->t σ H Q):PO X e t':=λpins s σ H Q I q=>h pins s σ H Q I (i σ H Q q)
abbrev QO (X:Cx)(e:Option Expr)(t:TOD):Prop:=PO X e (LO X.K t)
theorem By:QO X none GW:=po_none.imp λσ H Q ⟨σd,h,Qd,rs,rh,q,p⟩=>p none h H (.refl H) rh q
theorem Bz {e:Expr}{te:TED}(he:QE X e te):QO X (some e) (Lu te):=(NL he).imp λσ H Q ⟨σd,h,Qd,rs,rh,q,p⟩=>
 LE.bind rs rh q λd v h1 H1 k1 rs1 rh1 r1 ⟨i,e,q1⟩=>by subst e;exact⟨i,r1,p _ _ _ k1 rh1 q1⟩
def slD:D->Option Int->Option Int->HD->KD->Prop:=λx lo hi h Q=>match x with
 | .tup ds=>Q (.tup (WO ds lo hi)) h
 | .scr ns=> ∀p,h p=none->Q (.lst p) (zC h p ((WO ns lo hi).map D.int))
 | .lst a=> ∃ds,h a=some ds/\ ∀p,h p=none->Q (.lst p) (zC h p (WO ds lo hi))
 |_=>False
def dSl (te:TED)(tl th:TOD):TED:=λσ h Q=>te σ h λx h1=>tl σ h1 λl h2=>th σ h2 λu h3=>slD x l u h3 Q
theorem Yr {K:PySem.W.Frag}{H:Hp}{ds:List D}{vs:List V}(r:RelDs K H ds vs)(lo hi:Option Int):RelDs K H (WO ds lo hi) (DN vs lo hi):=by
 unfold WO DN;rw [r.length];exact(r.drop _).take _
theorem BA {α β:Type}(f:α->β)(xs:List α)(lo hi:Option Int):WO (xs.map f) lo hi=(WO xs lo hi).map f:=by
 unfold WO;rw [G0,List.map_take,G0z]
theorem Lv {e:Expr}{te:TED}{lo hi:Option Expr}{tl th:TOD}{pos p2:Pos}(he:QE X e te)(hl:QO X lo tl)(hu:QO X hi th):QE X (.Subscript e (.Slice lo hi none p2) pos) (dSl te tl th):=
 (Rf (sl_tup.or (sl_whole.or NM)) he hl hu).imp λσ H Q ⟨σd,h,Qd,rs,rh,q,p⟩=>
  LE.bind rs rh q λd v h1 H1 k1 rs1 rh1 r1 q1=>LO.bind rs1 rh1 q1 λl h2 H2 k2 rs2 rh2 q2=>LO.bind rs2 rh2 q2 λu h3 H3 k3 rs3 rh3 q3=>by
   have rv:=(r1.mono k2).mono k3;have kk:=k1.trans (k2.trans k3);cases d<;>first
    |exact False.elim q3
    |skip
   ·rename_i ds;obtain⟨a,vs,e1,hH,r⟩:=(show ∃a vs,v= .ref a/\H3 a=some (.tup vs)/\RelDs X.K H3 ds vs from rv)
    by_cases hw:HT.sIx vs.length 0 l=0/\HT.sIx vs.length vs.length u=vs.length
    ·refine .inr (.inl ⟨a,vs,e1,SqT.of hH,hw,p (.tup (WO ds l u)) _ _ _ kk rh3 ⟨a,vs,rfl,hH,?_⟩ q3⟩);have z:=Yr r l u;have e:DN vs l u=vs:=by unfold DN;rw [hw.1,hw.2];simp
     rwa [e] at z
    ·exact .inl ⟨a,vs,e1,SqT.of hH,hw,λc hc=>p (.tup (WO ds l u)) _ _ _ (kk.trans (.new hc)) (rh3.new hc) ⟨c,_,rfl,jq,(Yr r l u).mono (.new hc)⟩ q3⟩
   ·rename_i a;obtain⟨ds,hd,q3⟩:=q3;obtain⟨vs,hH,r⟩:=rh3 a ds hd;exact .inr (.inr ⟨a,vs,rv.1,SqL.of hH,λc hc=>p (.lst c) _ _ _ (kk.trans (.new hc)) (rh3.newL hc (Yr r l u)) ⟨rfl,_,jq⟩ (q3 c (rh3.free hc))⟩)
   ·rename_i ns;obtain⟨a,e1,hS⟩:=(show ∃a,v= .ref a/\Scr X.K H3 a ns from rv);refine .inr (.inr ⟨a,_,e1,hS.sq,λc hc=>p (.lst c) _ _ _ (kk.trans (.new hc)) (rh3.newL hc ?_) ⟨rfl,_,jq⟩ (q3 c (rh3.free hc))⟩);have z:=Yr (wC (K:=X.K) (H:=H3) ns) l u
    rwa [BA] at z
end L2
namespace HT
open PySem PySem.Spec PyProof.Rows
open Sem (wp)
open Builtin
theorem JQ:fillsNumberSlot (.type "tuple") "mul" =pure false:=
 PySem.fillsNumberSlot_seq (id:= "tuple.__mul__") (r:=some (.builtin "tuple.__rmul__")) F.slot_tuple_mul.lookup (by decide +kernel) F.slot_tuple_rmul.lookup (by decide +kernel)
theorem Vo:seqRepeat? (.type "tuple")=pure (some (.builtin "tuple.__mul__")):=by
 unfold seqRepeat?;rw [PySem.seqSlot_of (T:= "tuple") (name:= "__mul__") (id:= "tuple.__mul__") F.slot_tuple_mul.lookup (by decide +kernel),PySem.seqSlot_of (T:= "tuple") (name:= "__rmul__") (id:= "tuple.__rmul__") F.slot_tuple_rmul.lookup (by decide +kernel)];rfl
section
variable {prog:Program}{w:World}{A:Around}{E:Value->Shared->Prop}{s:Shared}
theorem Ys {k:Int}{t:Tok}{l:Addr}{o:Obj}{its:Array Value}{n:Nat}{P:PySem.Fin->Shared->Prop}(at_:s.heap.get? l=some o)(tup:o.cls= .type "tuple")(dat:o.data= .seq its n)(h:P (.done (.ret .notImplemented)) s):wpAny (model prog w) A (Builtin.«int.__rmul__» ⟨[.int k t,.ref l],[]⟩) P E s:=by
 obtain⟨c,dd,dt,sl⟩:=o;cases tup;cases dat;obtain⟨hp,g,d,tk,os⟩:=s
 wp_walk
 exact h
theorem Uv {l:Addr}{its:Array Value}{n:Nat}{x:Int}{u:Tok}{dd:Option Addr}{sl:Array (Option Value)}{P:PySem.Fin->Shared->Prop}(at_:s.heap.get? l=some {cls:= .type "tuple",dict:=dd,data:= .seq its n,slots:=sl})(fits: -(2^63)<=x/\x<2^63)
 (same:(its.isEmpty||x==1)=true->P (.done (.ret (.ref l))) s)
 (gone:(its.isEmpty||x==1)=false->(decide (x<=0)||its.isEmpty)=true->P (.done (.ret (.ref s.heap.objs.size))) {s with heap:=s.heap.push {cls:= .type "tuple",data:= .seq #[]}})
 (more:(its.isEmpty||x==1)=false->(decide (x<=0)||its.isEmpty)=false-> ¬ (its.size:Int)*x>(2^63-1) / 8/\Builtin.Tuple.tupleTooMany ((its.size:Int)*x)=false/\((List.replicate x.toNat its).foldl (· ++ ·) #[]).size<=sizeLine/\
  P (.done (.ret (.ref s.heap.objs.size))) {s with heap:=s.heap.push {cls:= .type "tuple",data:= .seq ((List.replicate x.toNat its).foldl (· ++ ·) #[])}}):
 wpAny (model prog w) A (Builtin.«tuple.__mul__» ⟨[.ref l,.int x u],[]⟩) P E s:=by
 obtain⟨hp,g,d,tk,os⟩:=s
 wp_walk
 rw [if_neg (by simp only [U7,K5];omega)]
 wp_walk
 cases c1:(its.isEmpty||x==1) with
 |true=>
  rw [if_pos rfl]
  wp_walk
  exact same c1
 |false=>
  rw [if_neg P5];cases c2:(decide (x<=0)||its.isEmpty) with
  |true=>
   rw [if_pos rfl]
   wp_walk
   exact gone c1 c2
  |false=>
   obtain⟨m1,m2,m3,m4⟩:=more c1 c2;rw [if_neg P5];dsimp only;rw [if_neg m1,m2,if_neg P5]
   wp_walk
   exact m4
end
end HT
namespace L2
open PySem PySem.Spec PyProof.Rows
def AM (K:PySem.W.Frag):R2:=λx y H Q=> ∃ (a:Addr) (k:Int) (xs:List V),x= .ref a/\y= .int k/\SqT K H a xs/\ -(2^63)<=k/\k<2^63/\xs.length*k.toNat<=sizeLine/\
 ((xs= []\/k=1)->Q (.ref a) H)/\(¬ (xs= []\/k=1)-> ∀p,H p=none->Q (.ref p) (upd H p (.tup (List.replicate k.toNat xs).flatten)))
theorem Za {l:List Value}:l.toArray= #[]↔l= []:=by cases l<;>simp
variable {X:Cx}
theorem BB:OpR X (binaryOp .Mult) (AM X.K):=by
 intro pins s σ H x y v u Q I rx ry h;obtain⟨a,k,xs,rfl,rfl,hH,h1,h2,hz,q1,q2⟩:=h;cases rx;obtain⟨t,rfl⟩:=ry;obtain⟨its,r,ht,_⟩:=I.tuple hH;obtain⟨⟨cls,dd,data,sl⟩,ho,hc,n,hd⟩:=id ht;simp only at hc hd;subst hc hd;have hl:=r.length;have hnew:(List.replicate k.toNat its.toArray).foldl (· ++ ·) #[]=(List.replicate k.toNat its).flatten.toArray:=by
  have:=Zo its k.toNat [];rw [N6] at this;exact this
 have few:its.length*k.toNat<=sizeLine:=by rw [<-hl];exact hz
 have free:=I.hok.fresh (G6 _);refine G0g (T:= "tuple") (U:= "int") (by decide) ⟨_,ho,rfl⟩ (λs'=>G0V s' k t) HT.JQ F.fills_int_mul X9 HT.Vo F.slot_int_index.lookup
  (B1 X9 (G0V s k t) F.entry_int_rmul (HT.Ys ho rfl rfl ⟨_,rfl,rfl,⟨_,ho,rfl⟩,B1 F.slot_tuple_mul ⟨_,ho,rfl⟩ F.entry_tuple_mul (HT.Uv ho ⟨h1,h2⟩ (λc=> ?_) (λc c0=> ?_) (λc c0=> ?_)) (F.args_tuple_mul_2 _ _)⟩) (F.args_int_rmul_2 _ _))
 ·refine⟨_,rfl,.ref a,H,I,rfl,q1 ?_⟩;simp only [U7,G1e,Array.isEmpty_iff,Za] at c;exact c.imp (λe=>r.nil_iff.mp e) id
 ·simp only [G0W,X7,Z4,ne_eq,Za] at c;have k0:k.toNat=0:=by
   simp only [U7,K5,Array.isEmpty_iff,Za] at c0;have:=c0.resolve_right c.1;omega
  have last:=q2 (λz=>z.elim (λe=>c.1 (r.nil_iff.mpr e)) c.2) _ free;rw [k0] at last;exact⟨_,rfl,.ref s.heap.objs.size,_,I.laid (t':=s.toks) (o:= .tup []) (λb ob q=>G3 _ q) (G6 _) ⟨by decide,[],.nil,IsTupN.new _ _⟩,rfl,last⟩
 ·simp only [G0W,X7,Z4,ne_eq,Za,decide_eq_false_iff_not] at c c0;have em:((its.toArray.size:Nat):Int)*k=((its.length*k.toNat:Nat):Int):=by rw [Int.natCast_mul,P4,show ((k.toNat:Nat):Int)=k by omega]
  have cap:(sizeLine:Nat)<=(2^63-1) / 8:=by decide
  rw [em,hnew];refine⟨by omega,by unfold Builtin.Tuple.tupleTooMany;exact decide_eq_false (by omega),by rw [List.size_toArray,Ut,Nat.mul_comm];exact few,_,rfl,.ref s.heap.objs.size,_,I.laid (t':=s.toks) (o:= .tup (List.replicate k.toNat xs).flatten) (λb ob q=>Heap.get?_push_of_some _ q) (Nat.le_refl _) ⟨by rw [Ut,Nat.mul_comm];exact hz,_,r.rep k.toNat,IsTupN.new _ _⟩,rfl,q2 (λz=>z.elim (λe=>c.1 (r.nil_iff.mpr e)) c.2) _ free⟩
def EO:RD2:=λx y h Q=>match x,y with
 | .tup ds,.int k=> -(2^63)<=k/\k<2^63/\ds.length*k.toNat<=sizeLine/\Q (.tup (List.replicate k.toNat ds).flatten) h
 |x,y=>EL x y h Q
theorem Yt:OpQ X (binaryOp .Mult) EO:=(oq_mul.or BB).imp λx y H Q ⟨dx,dy,h,Qd,rx,ry,rh,q,p⟩=>by
 by_cases ht: ∃ds k,dx= .tup ds/\dy= .int k
 ·obtain⟨ds,k,e1,e2⟩:=ht;subst e1 e2;obtain⟨b1,b2,hz,q⟩:=q;obtain⟨a,vs,e,hH,r⟩:=(show ∃a vs,x= .ref a/\H a=some (.tup vs)/\RelDs X.K H ds vs from rx);refine .inr ⟨a,k,vs,e,ry,SqT.of hH,b1,b2,by rw [<-r.length];exact hz,λhs=> ?_,λ_ c hc=>p (.tup _) _ _ _ (.new hc) (rh.new hc) ⟨c,_,rfl,jq,(r.flat _).mono (.new hc)⟩ q⟩;refine p (.tup _) _ _ _ (.refl H) rh ⟨a,vs,rfl,hH,?_⟩ q;rcases hs with e0|e1
  ·subst e0;have:ds= []:=C5.mp r.length;subst this;simpa using r
  ·subst e1;simpa using r
 ·refine .inl ⟨dx,dy,h,Qd,rx,ry,rh,?_,p⟩;unfold EO at q;split at q
  ·exact absurd ⟨_,_,rfl,rfl⟩ ht
  ·exact q
def EQ:D->HD->KD->Prop:=λx h Q=>match x with
 | .int i=>Q (.int (-i)) h
 |_=>False
def dUn (f:D->HD->KD->Prop)(ta:TED):TED:=λσ h Q=>ta σ h λx h1=>f x h1 Q
theorem SQ {a:Expr}{ta:TED}{pos:Pos}(ha:QE X a ta):QE X (.UnaryOp .USub a pos) (dUn EQ ta):=
 (Ab Fs ha).imp λσ H Q ⟨σd,h,Qd,rs,rh,t,p⟩=>LE.bind rs rh t λd v h1 H1 k1 rs1 rh1 r1 q=>by
  cases d<;>first
   |exact False.elim q
   |exact⟨_,r1,p (.int _) _ _ _ k1 rh1 rfl q⟩
def Lw (K:PySem.W.Frag)(tl:TE):TI:=λσ H R=>tl σ H λx H1=> ∃a,x= .ref a/\((∃xs,SqL K H1 a xs/\R (Itl K a) H1)\/ ∃xs,SqT K H1 a xs/\R (Itt K a) H1)
theorem Lx {tg l:Expr}{tl:TE}(hl:PE X l tl):PI X tg l (Lw X.K tl):=by
 intro pins s σ H R I h;refine thn (hl pins s σ H _ I h) λv s1 ⟨x,H1,I1,r1,q1⟩=> ?_
 obtain⟨a,e,q⟩:=q1;subst e;cases r1;rcases q with ⟨xs,hq,q⟩|⟨xs,hq,q⟩
 ·obtain⟨its,rv,p,hz⟩:=I1.list hq;refine K4 p.isList ?_;refine⟨s1.heap.objs.size,[s1.heap.objs.size],_,_,H1,rfl,I1.kept (t':=s1.toks) λb o e=>G3 _ e,Vb a _,⟨_,D9 _ rfl,rfl,rfl⟩,λb hb=> ?_,q⟩;have e:b=s1.heap.objs.size:=by simpa using hb
  subst e;exact I1.fpOk (G6 _) (I1.hok.fresh (G6 _))
 ·obtain⟨its,rv,p,hz⟩:=I1.tuple hq;refine G0c (show s1.heap.IsTuple a its.toArray from p) ?_;refine⟨s1.heap.objs.size,[s1.heap.objs.size],_,_,H1,rfl,I1.kept (t':=s1.toks) λb o e=>G3 _ e,Qi a _,⟨_,D9 _ rfl,rfl,rfl⟩,λb hb=> ?_,q⟩;have e:b=s1.heap.objs.size:=by simpa using hb
  subst e;exact I1.fpOk (G6 _) (I1.hok.fresh (G6 _))
def iS (te:TED):TID:=λσ h R=>te σ h λx h1=>match x with
 | .lst a=>R (λh=>h a) h1
 | .tup ds=>R (λ_=>some ds) h1
 | .scr ns=>R (λ_=>some (ns.map D.int)) h1
 |_=>False
variable {K:PySem.W.Frag}
theorem Rt {H:Hp}{a:Addr}{ns:List Int}(hs:Scr K H a ns):Bf K H (λ_=>some (ns.map D.int)) (Itl K a):=λH' h' k rh ds' e i=>by
 cases e;have hs':Scr K H' a ns:=hs.elim (λ⟨o,z⟩=> .inl ⟨o,k.frz _ _ _ z⟩) .inr;refine⟨λd hd=> ?_,λhl=>⟨_,hs'.sq,by simpa using hl⟩⟩;obtain⟨v,e1,e2⟩:=(wC (K:=K) (H:=H') ns).get hd;refine⟨⟨_,v,hs'.sq,e1⟩,λx H'' ⟨eH,hx⟩=> ?_⟩;subst eH;have:=hx _ hs'.sq;rw [e1] at this;cases this;exact⟨.refl _,rh,e2⟩
variable {te:TED}
theorem Ly: ∀σ H R,LI K (iS te) σ H R->Lw K (LE K te) σ H R:=λσ H R ⟨σd,h,Rd,rs,rh,q,p⟩=>
 LE.bind rs rh q λd v h1 H1 k1 rs1 rh1 r1 q1=>by
  cases d<;>first
   |exact False.elim q1
   |skip
  ·rename_i ds;obtain⟨a,vs,e,hv,r⟩:=(show ∃a vs,v= .ref a/\H1 a=some (.tup vs)/\RelDs K H1 ds vs from r1);exact⟨a,e,.inr ⟨vs,SqT.of hv,p _ _ _ _ k1 rh1 (Rp hv r) q1⟩⟩
  ·rename_i a;obtain⟨e,vs,hv⟩:=(show v= .ref a/\ ∃vs,H1 a=some (.lst vs) from r1);exact⟨a,e,.inl ⟨vs,SqL.of hv,p _ _ _ _ k1 rh1 (Vl H1 a) q1⟩⟩
  ·rename_i ns;obtain⟨a,e,hS⟩:=(show ∃a,v= .ref a/\Scr K H1 a ns from r1);exact⟨a,e,.inl ⟨_,hS.sq,p _ _ _ _ k1 rh1 (Rt hS) q1⟩⟩
theorem Lz {tg e:Expr}(he:QE X e te):QI X tg e (iS te):=(Lx he).imp Ly
def MY:TSD:=λ_ _ _=>False
theorem LB {st:Stmt}:QS X st MY:=λ_ _ _ _ _ _ ⟨_,_,_,_,_,z,_⟩=>z.elim
structure Zs (mg:Str->Option Value):Prop where
 len:mg "len" =none
 max:mg "max" =none
 min:mg "min" =none
 divmod:mg "divmod" =none
 all:mg "all" =none
 any:mg "any" =none
 repr:mg "repr" =none
 sum:mg "sum" =none
 sorted:mg "sorted" =none
 int:mg "int" =none
 tuple:mg "tuple" =none
 list:mg "list" =none
 set:mg "set" =none
 bool:mg "bool" =none
 isinstance:mg "isinstance" =none
 range:mg "range" =none
 zip:mg "zip" =none
 enumerate:mg "enumerate" =none
 reversed:mg "reversed" =none
def ji (P:Program)(w:World)(K:PySem.W.Frag)(mg:Str->Option Value)(base:Heap)(n:Nat)(x:Str)(ps:List Str)(sp:RDn):Prop:=
 ∃ (g:Addr) (gd:FuncData),FnOk P w K mg base CX0 n g gd ps (LSp K sp)/\Binds K gd ps []/\PySem.W.keepIn K (.ref g)=true/\mg x=some (.ref g)
def GX:RDn:=λds h Q=> ∃ns,ds= [.scr ns]/\(∀a,h a=none)/\ns.length<=63/\ ∀h',Q (.bl true) h'
def Bm (mg:Str->Option Value)(base:Heap):Prop:= ∃bm ob,mg "__builtins__" =some (.ref bm)/\bm≠builtinsNs/\base.get? bm=some ob/\ob.cls= .type "module" /\ob.dict=some builtinsNs/\ob.data= .plain
def wj (K:PySem.W.Frag):List (Addr×Addr):=LN.filterMap (PySem.W.tabIn K)
theorem TabK.mem {P:Addr}(h:TabK K P): ∃c,(c,P)∈wj K:=let ⟨x,hx,c,e⟩:=h;⟨c,U4.mpr ⟨x,hx,e⟩⟩
theorem GY {P:Program}{w:World}{mg mb:Str->Option Value}{k:Nat}{fa a:Addr}{fd:FuncData}{x:Str}{s₁:Shared}{vs:List Value}{ns:List Int}
 (KX:K.In s₁.heap)(hns:s₁.heap.Ns mainGlobals mg)(hb:s₁.heap.Ns builtinsNs mb)(hbb: ∀x:Str,x≠ "__name__" ->mb x=bootBuiltins x)(hlim:s₁.heap.NoLimit)(hg:s₁.gens= #[])
 (ha:s₁.heap.get? a=some {cls:= .type "list",data:= .seq vs.toArray})(hi:IntsAre vs ns)(hl:ns.length<=63)(hr:Room k callerA)
 (hbm:Bm mg s₁.heap)(F: ∀base:Heap,K.In base->base.Ns mainGlobals mg->Bm mg base->FnOk P w K mg base CX0 k fa fd [x] (LSp K GX))(hbind: ∀ (s:Shared) (u:Value),BindsTo s fd ⟨[u],[]⟩ [(x,u)])
 (hT: ∀p∈wj K,PySem.W.CodeHd s₁.heap p.1 p.2/\s₁.heap.get? p.2=some (PySem.W.tabObj #[])/\K.lookup p.2=none):
 codeAny (model P w) callerA (.call (.ref fa) ⟨[.ref a],[]⟩) (λr s'=>r= .ok (.ret (.bool true))/\OldK s₁.heap s'.heap/\s'.os=s₁.os/\AllBare s'.gens) s₁:=by
 have rv:=Vi hi;have lenV:=hi.length;have hz:ns.length<=sizeLine:=R6 hl (by decide);have hT': ∀b,b∈(wj K).map (·.2)-> ∃c,PySem.W.CodeHd s₁.heap c b/\s₁.heap.get? b=some (PySem.W.tabObj #[])/\K.lookup b=none:=λb hb=>by
  obtain⟨p,hp,rfl⟩:=R4.mp hb;exact⟨p.1,hT p hp⟩
 have core: ∀H:Hp,Scr K H a ns->HOk P w H s₁.heap->(∀b u,H b=some u->(b=a/\K.lookup a=none/\ ∃o xs,u= .frz o (.lst xs))\/(b∈(wj K).map (·.2)/\u= .tbl #[]))->(∀b,b∈(wj K).map (·.2)->H b=some (.tbl #[]))->
  codeAny (model P w) callerA (.call (.ref fa) ⟨[.ref a],[]⟩) (λr s'=>r= .ok (.ret (.bool true))/\OldK s₁.heap s'.heap/\s'.os=s₁.os/\AllBare s'.gens) s₁:=by
  intro H hS hok hA hTt;have noA: ∀ {b:Addr} {o:Obj} {es:Array DictEntry} {ep:Nat},s₁.heap.get? b=some o->o.data= .dict es ep->H b=none:=λ{b o es ep} e d=>by
   cases q:H b with
   |none=>rfl
   |some u=>
    rcases hA b u q with ⟨rfl,_,_⟩|⟨z,_⟩
    ·rw [ha] at e;cases e;have d':Data.seq vs.toArray _=Data.dict es ep:=d;cases d'
    ·obtain⟨c,_,e2,_⟩:=hT' b z;rw [e2] at e;cases e;have d':Data.fields _=Data.dict es ep:=d;cases d'
  have nsK: ∀ {b:Addr} {m:Str->Option Value},s₁.heap.Ns b m->(DR s₁.heap H).Ns b m:=λ{b m} ⟨o,es,ep,e,d,r⟩=>⟨o,es,ep,Yi e (noA e d),d,r⟩
  have hKb:K.In (DR s₁.heap H):=λb o e=>Yi (KX b o e) (by
   cases q:H b with
   |none=>rfl
   |some u=>
    rcases hA b u q with ⟨rfl,z,_⟩|⟨z,_⟩
    ·rw [z] at e;cases e
    ·obtain⟨c,_,_,z2⟩:=hT' b z;rw [z2] at e;cases e)
  have hM:Mod K mg (DR s₁.heap H):=⟨hKb,nsK hns,⟨mb,nsK hb,hbb⟩,let ⟨mc,h1,h2⟩:=hlim;⟨mc,nsK h1,h2⟩⟩;have e0:Env0 P w K mg (DR s₁.heap H) callerA [] s₁ H:=⟨rfl,hM,λb o e=>Nq e,A1 (Gj _ _),trivial,λb hb=>absurd (show b∈([]:List Addr) from hb) (by simp),hok,.of_eq hg⟩;have hsp:LSp K GX [.ref a] H (λv _=>v= .bl true) (λ_ _ _=>False):=by
   refine⟨[.scr ns],⟨λ_=>none,λ_=>none⟩,λd _=>d= .bl true,⟨.ref a,[],rfl,⟨a,rfl,hS⟩,rfl⟩,⟨λb ds e=>(by cases e),λp hp=> ?_,λb c e=>(by cases e)⟩,⟨ns,rfl,λ_=>rfl,hl,λ_=>rfl⟩,?_⟩
   ·obtain⟨c,hc⟩:=hp.mem;exact⟨#[],hTt p (Y1 (f:=(·.2)) hc),trivial,λpos cv e=>(by cases e)⟩
   ·intro d v h' H' _ _ r e;subst e;exact r
  have hBm:Bm mg (DR s₁.heap H):=by
   obtain⟨bm,ob,b1,b2,b3,b4,r⟩:=hbm;refine⟨bm,ob,b1,b2,Yi b3 ?_,b4,r⟩;cases q:H bm with
   |none=>rfl
   |some u=>
    rcases hA bm u q with ⟨rfl,_,_⟩|⟨z,_⟩
    ·rw [ha] at b3;cases b3;exact absurd (Value.type.inj b4) (by decide)
    ·obtain⟨c,_,e2,_⟩:=hT' bm z;rw [e2] at b3;cases b3;cases b4
  refine G0O ((F _ hKb (nsK hns) hBm).run callerA [] s₁ H ⟨[.ref a],[]⟩ [.ref a] [.ref a] _ _ hr e0 (hbind s₁ (.ref a)) (.cons rfl .nil) hsp) λr s' h=> ?_
  cases r with
  |error e=>exact False.elim h
  |ok fl=>
   cases fl with
   |next=>exact False.elim h
   |brk=>exact False.elim h
   |cont=>exact False.elim h
   |ret u=>
    obtain⟨v,H',os,bare,un,hok',r',q⟩:=h;have q':v= .bl true:=q;subst q';obtain rfl:u=Value.bool true:=r';have one: ∀b o,s₁.heap.get? b=some o->s'.heap.get? b=some o\/(b∈(wj K).map (·.2)/\ ∃more,s'.heap.get? b=some (PySem.W.tabObj more)):=λb o e=>by
     cases q:H b with
     |none=>exact .inl (un.keep b o e q (by intro z;exact absurd (show b∈([]:List Addr) from z) (by simp)) (by simp))
     |some u=>
      rcases hA b u q with ⟨rfl,_,ob,xs,rfl⟩|⟨z,rfl⟩
      ·have z2:=un.frzs _ ob _ q;obtain⟨e1,_⟩:=hok _ _ q;obtain⟨e2,_⟩:=hok' _ _ z2;rw [e] at e1;cases e1;exact .inl e2
      ·obtain⟨more,z2⟩:=un.tbls b _ q;exact .inr ⟨z,_,(show s'.heap.get? b=some _ from hok' b _ z2)⟩
    refine⟨rfl,⟨λb o e=> ?_,λb o e=> ?_⟩,os,bare⟩
    ·rcases one b o e with z|⟨z,more,z2⟩
     ·exact .inl z
     ·obtain⟨c,hc,e2,_⟩:=hT' b z;rw [e] at e2;cases e2;refine .inr (.inl ⟨(hc.tab e).isCodeTable,rfl,#[],more,rfl,?_⟩);rw [z2];simp
    ·rcases one b o e with z|⟨z,more,z2⟩
     ·exact⟨_,z⟩
     ·exact⟨_,z2⟩
 have nT:a ∉ (wj K).map (·.2):=λz=>by
  obtain⟨c,_,e2,_⟩:=hT' a z;rw [ha] at e2;cases e2
 have okT: ∀ {H:Hp} (b:Addr),b∈(wj K).map (·.2)->ObjOk P w H s₁.heap b (.tbl #[]):=λb hb=>let ⟨_,_,e,_⟩:=hT' b hb;e
 cases hk:K.lookup a with
 |some o=>
  have e:=KX a o hk;rw [ha] at e;cases e;refine core (λb=>if b∈(wj K).map (·.2) then some (.tbl #[]) else none) (.inr ⟨_,vs.toArray,_,hk,rfl,rfl,rfl,by rw [P4,lenV];exact hz,by simpa using rv⟩) (λb u z=> ?_) (λb u z=> ?_) λb hb=>if_pos hb
  ·by_cases hb:b∈(wj K).map (·.2)
   ·have z':=(if_pos hb).symm.trans z;cases z';exact okT b hb
   ·have z':=(if_neg hb).symm.trans z;cases z'
  ·by_cases hb:b∈(wj K).map (·.2)
   ·have z':=(if_pos hb).symm.trans z;cases z';exact .inr ⟨hb,rfl⟩
   ·have z':=(if_neg hb).symm.trans z;cases z'
 |none=>
  refine core (λb=>if b=a then some (.frz {cls:= .type "list",data:= .seq vs.toArray} (.lst (ns.map V.int))) else if b∈(wj K).map (·.2) then some (.tbl #[]) else none) (.inl ⟨{cls:= .type "list",data:= .seq vs.toArray},if_pos rfl⟩) (λb u z=> ?_) (λb u z=> ?_) λb hb=> ?_
  ·by_cases hb:b=a
   ·have z':=(if_pos hb).symm.trans z;cases z';subst hb;exact⟨ha,by rw [G0];exact hz,vs,_,rv,ha⟩
   ·have z':=(if_neg hb).symm.trans z
    by_cases hb2:b∈(wj K).map (·.2)
    ·have z2:=(if_pos hb2).symm.trans z';cases z2;exact okT b hb2
    ·have z2:=(if_neg hb2).symm.trans z';cases z2
  ·by_cases hb:b=a
   ·have z':=(if_pos hb).symm.trans z;cases z';exact .inl ⟨hb,hk,_,_,rfl⟩
   ·have z':=(if_neg hb).symm.trans z
    by_cases hb2:b∈(wj K).map (·.2)
    ·have z2:=(if_pos hb2).symm.trans z';cases z2;exact .inr ⟨hb2,rfl⟩
    ·have z2:=(if_neg hb2).symm.trans z';cases z2
  ·have:b≠a:=λz=>nT (z ▸ hb)
   show (if b=a then _ else _)=_;rw [if_neg this,if_pos hb]
def AN (q:Program)(K:PySem.W.Frag):Bool:=LN.all λx=>match PySem.W.tabIn K x with
 |some p=>(K.lookup p.2).isNone&&((PyProof.Rows.recsOf q).find? (λe=>e.name==x)).isSome
 |none=>true
theorem Ru {l:PySem.W.OpenLaw}{k:Nat}{q:Program}{loose:List Str}{XP:(Str->Option Value)->Heap->Prop}{YP:World->Heap->Prop}{d:DefRec}{K:Params->PySem.W.Frag}{x:Str}(hn:l.most=some 63)(hdf:d.params.defaults= [])(hr:Room k callerA)
 (hY: ∀ (w:World) (h:Heap),YP w h->(K w.params).In h)(hB: ∀w:World,AN q (K w.params)=true)
 (F: ∀ (w:World) (mg:Str->Option Value) (fa:Addr) (h:Heap),(K w.params).In h->h.Ns mainGlobals mg->mg d.name=some (.ref fa)->
  ∃fd:FuncData,(∀ (s:Shared) (u:Value),BindsTo s fd ⟨[u],[]⟩ [(x,u)])/\ ∀base:Heap,(K w.params).In base->base.Ns mainGlobals mg->Bm mg base->FnOk l.prog w (K w.params) mg base CX0 k fa fd [x] (LSp (K w.params) GX)):
 PySem.W.WalkO q loose XP YP l.row.toRowW d [] (λf vs=>PySem.call f vs):=by
 refine Att.attach_call hn hdf λw s₀ s₁ mg mb fa o pm cd doc a vs ns G Y ho hd hcd hmg hobj hints hlen hg=> ?_
 have KX:=hY w _ Y;obtain⟨fd,hb,hF⟩:=F w mg fa _ KX G.T.g hmg;refine GY KX G.T.g G.T.b G.T.builtins G.T.nolimit hg hobj hints hlen hr G.T.bmain hF hb λp hp=> ?_
 obtain⟨x,hx,e⟩:=U4.mp hp;have z:=S8.mp (hB w) x hx;rw [e] at z;simp only [B2,Option.isNone_iff_eq_none] at z;obtain⟨dd,hdd⟩:=G0n.mp z.2;have t:=PySem.W.tab_of (c:=p.1) (P:=p.2) G.T KX hdd e;exact⟨t.1,t.2,z.1⟩
def zj:Expr->Bool
 | .Starred .. =>false
 |_=>true
theorem Uw {e:Expr}{es:List Expr}{env:Env}(h:zj e=true):starEach (e::es) env=(false,eval e env)::starEach es env:=by
 cases e<;>first|rfl|cases h
theorem qac {e:Expr}{es:List Expr}{t:TAD}(ha:QE X e te)(hr:QA X es t)(h:zj e=true:=by rfl):QA X (e::es) (zb te t):=GM ha hr (Uw h)
theorem Ux {α:Type}{xs:List α}{i:Int}(h0:0<=i)(h1:i<xs.length): ∃x∈xs,atI xs i=some x:=by
 have hk:i.toNat<xs.length:=by omega
 have ek:i=((i.toNat:Nat):Int):=by omega
 have z:=wu (G1 hk);rw [<-ek] at z;exact⟨xs[i.toNat],R9 hk,z⟩
variable {h h':HD}{p:Addr}{L:List D}
theorem Sub.both (s:Sub h h'):Sub (zC h p L) (zC h' p L):=⟨λa ds e=>(by
 by_cases q:a=p
 ·subst q;rw [jc] at e ⊢;exact e
 ·rw [zW q] at e ⊢;exact s a ds e),s.dc⟩
theorem Sub.newAt (s:Sub h h')(e:h' p=none):Sub h (zC h' p L):=s.trans (.new e)
structure But (p:Addr)(h h':HD):Prop where
 ls: ∀a ds,a≠p->h a=some ds->h' a=some ds
 dc: ∀a c,h.dc a=some c->h'.dc a=some c
instance {p:Addr}{h h':HD}:CoeFun (But p h h') λ_=> ∀a ds,a≠p->h a=some ds->h' a=some ds:=⟨But.ls⟩
theorem But.refl (p:Addr)(h:HD):But p h h:=⟨λ_ _ _ e=>e,λ_ _ e=>e⟩
variable {q:Addr}
theorem But.new (s:But p h h')(e:h' q=none):But p h (zC h' q L):=⟨λa ds n z=>(by
 have:=s a ds n z;rw [zW (λw=>by subst w;rw [e] at this;cases this)];exact this),s.dc⟩
theorem But.put (s:But p h h'):But p h (zC h' p L):=⟨λa ds n z=>(by rw [zW n];exact s a ds n z),s.dc⟩
theorem But.putNew (s:But p h h')(e:h q=none):But p h (zC h' q L):=⟨λa ds n z=>(by
 rw [zW (λw=>by subst w;rw [e] at z;cases z)];exact s a ds n z),s.dc⟩
theorem But.sub (s:But p h h')(e:h' p=some L):Sub (zC h p L) h':=⟨λa ds z=>(by
 by_cases q:a=p
 ·subst q;rw [jc] at z;cases z;exact e
 ·rw [zW q] at z;exact s a ds q z),s.dc⟩
theorem But.upd:But p h (zC h p L):=⟨λa ds n z=>(by rw [zW n];exact z),λ_ _ e=>e⟩
theorem jY (e:h p=some L)(f:h q=none):q≠p:=λz=>by subst z;rw [e] at f;cases f
theorem jg {M:List D}(e:h p=some L)(f:h q=none):zC h q M p=some L:=by rw [zW (λz=>by subst z;rw [e] at f;cases f)];exact e
theorem ju {a b:Addr}{M:List D}(n:b≠a)(e:h b=some M):zC h a L b=some M:=by rw [zW n];exact e
theorem Zy {n:Nat}{i:Nat}{d:D}(h:((List.range n).map λ(k:Nat)=>D.int (k:Int))[i]? =some d):i<n/\d= .int i:=by
 rw [P9] at h
 by_cases hi:i<n
 ·rw [N7 hi] at h;cases h;exact⟨hi,rfl⟩
 ·rw [F8 (by simpa using hi)] at h;cases h
variable {E:EndsD}{σ:SD}
theorem jh {t u:TSD}(V:SD->HD->Prop)(first: ∀K:SD->HD->Prop,(∀σ' h',V σ' h'->K σ' h')->t {E with nx:=K} σ h)(rest: ∀σ' h',V σ' h'->u E σ' h'):Rn t u E σ h:=first (u E) rest
theorem GZ (b:But p h h')(e:h' q=none)(n:q≠p):h q=none:=by
 cases z:h q with
 |none=>rfl
 |some ds=>rw [b q ds n z] at e;cases e
def Nxt (E:EndsD)(V:SD->HD->Prop):EndsD:= {E with nx:=λσ3 h3=> ∃h4,Sub h4 h3/\V σ3 h4,ct:=λσ3 h3=> ∃h4,Sub h4 h3/\V σ3 h4,bk:=E.nx}
variable {h1:HD}
theorem wN {ta:TAD}{g:TGD}{tb:TSD}(n:Nat)(W:Nat->SD->HD->Prop)(hn:n<1000000)
 (ht: ∀R:List D->HD->Prop,R [.int (n:Int)] h1->ta σ h R)(w0:W 0 σ h1)(done: ∀σ' h',W n σ' h'->E.nx σ' h')
 (turn: ∀i σ' h',i<n->W i σ' h'->g (.int (i:Int)) σ' h' λσ2 h2=>tb (Nxt E λσ3 h4=>i+1<=n/\W (i+1) σ3 h4) σ2 h2):Ld (iR1 ta) g tb E σ h:=by
 refine ht _ ⟨(n:Int),rfl,by omega,by omega,n,λi σ' h'=>i<=n/\W i σ' h',⟨T7 _,w0⟩,?_⟩;rintro i σ' h' ⟨hi,w⟩;refine⟨_,rfl,by simp,λhl=> ?_,λd hd=> ?_⟩
 ·have:i=n:=by simp at hl;omega
  subst this;exact done _ _ w
 ·obtain⟨hi',e⟩:=Zy hd;have hi2:i<n:=by omega
  subst e;exact turn i σ' h' hi2 w
theorem Rv {ti:TID}{g:TGD}{tb:TSD}{j:ItD}(ds:List D)(W:Nat->SD->HD->Prop)
 (ht: ∀R:ItD->HD->Prop,R j h1->ti σ h R)(hj: ∀i σ' h',W i σ' h'->j h'=some ds)(w0:W 0 σ h1)(done: ∀σ' h',W ds.length σ' h'->E.nx σ' h')
 (turn: ∀i d σ' h',ds[i]? =some d->W i σ' h'->g d σ' h' λσ2 h2=>tb (Nxt E λσ3 h4=>i+1<=ds.length/\W (i+1) σ3 h4) σ2 h2):Ld ti g tb E σ h:=by
 refine ht _ ⟨ds.length,λi σ' h'=>i<=ds.length/\W i σ' h',⟨T7 _,w0⟩,?_⟩;rintro i σ' h' ⟨hi,w⟩;refine⟨ds,hj i σ' h' w,G6 _,λhl=> ?_,λd hd=>turn i d σ' h' hd w⟩;have:i=ds.length:=by omega
 subst this;exact done _ _ w
theorem Zz {g:TGD}{tb:TSD}{j:ItD}(ds:List D)(W:Nat->SD->HD->Prop)
 (hj: ∀i σ' h',W i σ' h'->j h'=some ds)(w0:W 0 σ h1)(done: ∀σ' h',W ds.length σ' h'->E.nx σ' h')
 (turn: ∀i d σ' h',ds[i]? =some d->W i σ' h'->g d σ' h' λσ2 h2=>tb (Nxt E λσ3 h4=>i+1<=ds.length/\W (i+1) σ3 h4) σ2 h2):
 ∃ (n:Nat) (W:Nat->SD->HD->Prop),W 0 σ h1/\ ∀i σ' h',W i σ' h'-> ∃ds,j h'=some ds/\ds.length<=n/\(ds.length<=i->E.nx σ' h')/\
  ∀d,ds[i]? =some d->g d σ' h' λσ2 h2=>tb {E with nx:=λσ3 h3=> ∃h4,Sub h4 h3/\W (i+1) σ3 h4,ct:=λσ3 h3=> ∃h4,Sub h4 h3/\W (i+1) σ3 h4,bk:=E.nx} σ2 h2:=by
 refine⟨ds.length,λi σ' h'=>i<=ds.length/\W i σ' h',⟨T7 _,w0⟩,?_⟩;rintro i σ' h' ⟨hi,w⟩;refine⟨ds,hj i σ' h' w,G6 _,λhl=> ?_,λd hd=>turn i d σ' h' hd w⟩;have:i=ds.length:=by omega
 subst this;exact done _ _ w
theorem LD {i:Nat}{js:List Nat}{ta:TAD}{Q:KD}(n:Nat)(W:Nat->List D->HD->Prop)(hn:n<=1000)(ht: ∀R:List D->HD->Prop,R [.int (n:Int)] h1->ta σ h R)
 (w0:W 0 [] h1)(wl: ∀k ys h',W k ys h'->ys.length=k)(turn: ∀k ys h',k<n->W k ys h'->te ((jJ js σ).set i (some (.int (k:Int)))) h' λy h4=> ∃h5,Sub h5 h4/\(k+1<=n/\W (k+1) (ys++ [y]) h5))
 (done: ∀ys h',W n ys h'-> ∀p,h' p=none->Q (.lst p) (zC h' p ys)):wL (bN i) js (iR1 ta) yR te σ h Q:=by
 refine ht _ ⟨(n:Int),rfl,by omega,by omega,n,λk ys h'=>k<=n/\W k ys h',⟨T7 _,w0⟩,?_⟩;rintro k ys h' ⟨hk,w⟩;refine⟨by rw [wl k ys h' w];exact D6 (jE (by omega)),_,rfl,by simp,λhl p hp=> ?_,λd hd=>⟨_,rfl,?_⟩⟩
 ·have:k=n:=by simp at hl;omega
  subst this;exact done ys h' w p hp
 ·obtain⟨hi',e⟩:=Zy hd;subst e;unfold yR;dsimp only;rw [if_pos rfl];exact turn k ys h' (by omega) w
end L2
namespace L2
open PySem PySem.Spec PyProof.Rows PySem.SeqAt
mutual
def ToP (h:HD):D->PyData->Prop
 |d,.none=>d= .non
 |d,.bool b=>d= .bl b
 |d,.int i=>d= .int i
 |d,.str x=>d= .str x
 |d,.tuple ps=> ∃ds,d= .tup ds/\ToPs h ds ps
 |d,.list ps=> ∃a ds,d= .lst a/\h a=some ds/\ToPs h ds ps
 |_,.dict _=>False
def ToPs (h:HD):List D->List PyData->Prop
 |ds,[]=>ds= []
 |ds,p::ps=> ∃d r,ds=d::r/\ToP h d p/\ToPs h r ps
end
section
variable {X:Cx}{pins:List (Addr×Obj)}{σ:St}{H:Hp}{s:Shared}{h:HD}
mutual
theorem zk (I:Inv X pins σ H s)(rh:RelH X.K h H): ∀ {p:PyData} {d:D} {v:V} {u:Value},ToP h d p->RelD X.K H d v->RelV v u-> ∃as,Reads s.heap u p as
 | .none,d,v,u,t,r,ru=>by cases (show d= .non from t);cases (show v= .non from r);cases (show u= .none from ru);exact⟨[],.none⟩
 | .bool b,d,v,u,t,r,ru=>by cases (show d= .bl b from t);cases (show v= .bl b from r);cases (show u= .bool b from ru);exact⟨[],.bool b⟩
 | .int i,d,v,u,t,r,ru=>by cases (show d= .int i from t);cases (show v= .int i from r);obtain⟨k,rfl⟩:=(show ∃t,u=Value.int i t from ru);exact⟨[],.int i k⟩
 | .str x,d,v,u,t,r,ru=>by cases (show d= .str x from t);cases (show v= .str x from r);obtain⟨k,rfl⟩:=(show ∃t,u=Value.str x t from ru);exact⟨[],.str x k⟩
 | .tuple ps,d,v,u,t,r,ru=>by
  obtain⟨ds,e,ts⟩:=(show ∃ds,d= .tup ds/\ToPs h ds ps from t);subst e;obtain⟨a,vs,e,hH,rs⟩:=(show ∃a vs,v= .ref a/\H a=some (.tup vs)/\RelDs X.K H ds vs from r);subst e;cases (show u= .ref a from ru);obtain⟨its,rv,ht,_⟩:=I.tuple (SqT.of hH);obtain⟨o,ho,hc,n,hd⟩:=ht;obtain⟨as,q⟩:=reads_Ds I rh ts rs rv;exact⟨as,.tuple ho hc hd q⟩
 | .list ps,d,v,u,t,r,ru=>by
  obtain⟨a,ds,e,ha,ts⟩:=(show ∃a ds,d= .lst a/\h a=some ds/\ToPs h ds ps from t);subst e;obtain⟨vs,hH,rs⟩:=rh a ds ha;have e:v= .ref a:=r.1;subst e;cases (show u= .ref a from ru);obtain⟨its,rv,pl,_⟩:=I.list (SqL.of hH);obtain⟨o,ho,hc,n,hd⟩:=pl.isList;obtain⟨as,q⟩:=reads_Ds I rh ts rs rv;exact⟨a::as,.list ho hc hd q⟩
 | .dict _,_,_,_,t,_,_=>(show False from t).elim
theorem reads_Ds (I:Inv X pins σ H s)(rh:RelH X.K h H): ∀ {ps:List PyData} {ds:List D} {vs:List V} {us:List Value},ToPs h ds ps->RelDs X.K H ds vs->Vals vs us-> ∃as,ReadsAll s.heap us ps as
 | [],ds,vs,us,t,r,rv=>by
  cases (show ds= [] from t);cases (show vs= [] from r);cases rv;exact⟨[],.nil⟩
 |p::ps,ds,vs,us,t,r,rv=>by
  obtain⟨d,dr,e,t1,t2⟩:=(show ∃d r,ds=d::r/\ToP h d p/\ToPs h r ps from t);subst e;obtain⟨v,vr,e,r1,r2⟩:=(show ∃v r,vs=v::r/\RelD X.K H d v/\RelDs X.K H dr r from r);subst e;cases rv with
  |cons ru rt=>
   obtain⟨as,q1⟩:=zk I rh t1 r1 ru;obtain⟨bs,q2⟩:=reads_Ds I rh t2 r2 rt;exact⟨as++bs,.cons q1 q2⟩
end
end
def eqE:RD2:=λx y h Q=>match x,y with
 | .int i,.int j=>Q (.bl (decide (i=j))) h
 | .bl i,.bl j=>Q (.bl (decide (i=j))) h
 | .str i,.str j=>Q (.bl (decide (i=j))) h
 |x,y=> ∃p q,ToP h x p/\ToP h y q/\shaped p=true/\shaped q=true/\Q (.bl (PyData.eqv p q)) h
def neE:RD2:=λx y h Q=>match x,y with
 | .int i,.int j=>Q (.bl (!decide (i=j))) h
 | .bl i,.bl j=>Q (.bl (!decide (i=j))) h
 | .str i,.str j=>Q (.bl (!decide (i=j))) h
 |x,y=> ∃p q,ToP h x p/\ToP h y q/\shaped p=true/\shaped q=true/\Q (.bl (!PyData.eqv p q)) h
section
variable {X:Cx}
def eqG:RD2:=λx y h Q=> ∃p q,ToP h x p/\ToP h y q/\shaped p=true/\shaped q=true/\Q (.bl (PyData.eqv p q)) h
def neG:RD2:=λx y h Q=> ∃p q,ToP h x p/\ToP h y q/\shaped p=true/\shaped q=true/\Q (.bl (!PyData.eqv p q)) h
theorem LF (hu:X.A.units+64<cLine):OpQ X (compareOp .Eq) eqG:=by
 intro pins s σ H x y v u Q I rx ry h;obtain⟨dx,dy,h,Qd,r1,r2,rh,⟨p,q,t1,t2,s1,s2,qq⟩,post⟩:=h;obtain⟨as,a1⟩:=zk I rh t1 r1 rx;obtain⟨bs,b1⟩:=zk I rh t2 r2 ry;exact compareEq_shaped a1 b1 s1 s2 hu ⟨.bl _,H,I,rfl,post (.bl _) _ _ _ (.refl H) rh rfl qq⟩
theorem LH (hu:X.A.units+64<cLine):OpQ X (compareOp .NotEq) neG:=by
 intro pins s σ H x y v u Q I rx ry h;obtain⟨dx,dy,h,Qd,r1,r2,rh,⟨p,q,t1,t2,s1,s2,qq⟩,post⟩:=h;obtain⟨as,a1⟩:=zk I rh t1 r1 rx;obtain⟨bs,b1⟩:=zk I rh t2 r2 ry;exact compareNe_shaped a1 b1 s1 s2 hu ⟨.bl _,H,I,rfl,post (.bl _) _ _ _ (.refl H) rh rfl qq⟩
theorem OpQ.or' {f:Value->Value->Sem Value}{r r' r2:RD2}(h:OpQ X f r)(h':OpQ X f r')(i: ∀x y hh Q,r2 x y hh Q->r x y hh Q\/r' x y hh Q):OpQ X f r2:=λpins s σ H x y v u Q I rx ry ⟨dx,dy,hd,Qd,r1,r2',rh,q,p⟩=>
 (i dx dy hd Qd q).elim (λz=>h pins s σ H x y v u Q I rx ry ⟨dx,dy,hd,Qd,r1,r2',rh,z,p⟩) λz=>h' pins s σ H x y v u Q I rx ry ⟨dx,dy,hd,Qd,r1,r2',rh,z,p⟩
theorem ZA (hu:X.A.units+64<cLine):OpQ X (compareOp .Eq) eqE:=oq_eq.or' (LF hu) λx y h Q q=>by
 unfold eqE at q;split at q
 ·exact .inl q
 ·exact .inl q
 ·exact .inl q
 ·exact .inr q
theorem JD (hu:X.A.units+64<cLine):OpQ X (compareOp .NotEq) neE:=oq_ne.or' (LH hu) λx y h Q q=>by
 unfold neE at q;split at q
 ·exact .inl q
 ·exact .inl q
 ·exact .inl q
 ·exact .inr q
def isN:D->Bool
 | .non=>true
 |_=>false
def isV (neg:Bool):RD2:=λx y h Q=>match y with
 | .non=>Q (.bl (neg !=isN x)) h
 | .bl c=>match x with
  | .bl b=>Q (.bl (neg !=(b==c))) h
  | .non=>Q (.bl neg) h
  |_=>False
 |_=>False
theorem Pa {K:PySem.W.Frag}{H:Hp}{d:D}{v:V}(r:RelD K H d v):decide (v=V.non)=isN d:=by
 cases d with
 |non=>cases (show v= .non from r);rfl
 |bl b=>cases (show v= .bl b from r);rfl
 |int b=>cases (show v= .int b from r);rfl
 |str b=>cases (show v= .str b from r);rfl
 |tup ds=>obtain⟨a,vs,e,_⟩:=(show ∃a vs,v= .ref a/\H a=some (.tup vs)/\RelDs K H ds vs from r);subst e;rfl
 |lst a=>cases (show v= .ref a from r.1);rfl
 |dic x i=>obtain⟨a,e,_⟩:=(show ∃a,v= .ref a/\H a=some (.dK [(Sum.inr x,V.int i)]) from r);subst e;rfl
 |dct a=>cases (show v= .ref a from r);rfl
 |scr ns=>obtain⟨a,e,_⟩:=(show ∃a,v= .ref a/\Scr K H a ns from r);subst e;rfl
 |exc C=>obtain⟨x,o,vs,e,_⟩:=(show ∃x o vs,v= .ref x/\H x=some (.frz o (.own 0))/\o.cls= .ref C/\o.data= .fields vs from r);subst e;rfl
 |fn a=>cases (show v= .ref a from r.1);rfl
theorem AO:OpQ X (compareOp .Is) (isV false):=by
 intro pins s σ H x y v u Q I rx ry h;obtain⟨dx,dy,h,Qd,r1,r2,rh,q,post⟩:=h;cases dy with
 |non=>
  have e:y= .non:=r2;subst e;refine Ft pins s σ H x .non v u Q I rx ry ⟨rfl,?_⟩;rw [Pa r1];have q':Qd (.bl (isN dx)) h:=by simpa [isV] using q
  exact post (.bl _) _ _ _ (.refl H) rh rfl q'
 |bl c=>
  have e:y= .bl c:=r2;subst e;cases (show u= .bool c from ry);cases dx<;>first
   |exact False.elim q
   |skip
  ·have e:x= .non:=r1;subst e;cases (show v= .none from rx);exact wpAny_is_plain (by rfl) ⟨.bl false,H,I,rfl,post (.bl false) _ _ _ (.refl H) rh rfl q⟩
  ·rename_i b;have e:x= .bl b:=r1;subst e;cases (show v= .bool b from rx);have eb:(Value.bool b==Value.bool c)=(b==c):=by cases b<;>cases c<;>rfl
   refine wpAny_is_plain (by rfl) ⟨.bl (b==c),H,I,by rw [eb];rfl,post (.bl (b==c)) _ _ _ (.refl H) rh rfl ?_⟩;simpa [isV] using q
 |_=>exact False.elim q
theorem Rw:OpQ X (compareOp .IsNot) (isV true):=by
 intro pins s σ H x y v u Q I rx ry h;obtain⟨dx,dy,h,Qd,r1,r2,rh,q,post⟩:=h;cases dy with
 |non=>
  have e:y= .non:=r2;subst e;refine NC pins s σ H x .non v u Q I rx ry ⟨rfl,?_⟩;rw [Pa r1];have q':Qd (.bl (!isN dx)) h:=by simpa [isV] using q
  exact post (.bl _) _ _ _ (.refl H) rh rfl q'
 |bl c=>
  have e:y= .bl c:=r2;subst e;cases (show u= .bool c from ry);cases dx<;>first
   |exact False.elim q
   |skip
  ·have e:x= .non:=r1;subst e;cases (show v= .none from rx);exact wpAny_isNot_plain (by rfl) ⟨.bl true,H,I,rfl,post (.bl true) _ _ _ (.refl H) rh rfl q⟩
  ·rename_i b;have e:x= .bl b:=r1;subst e;cases (show v= .bool b from rx);have eb:(!(Value.bool b==Value.bool c))= !(b==c):=by cases b<;>cases c<;>rfl
   refine wpAny_isNot_plain (by rfl) ⟨.bl (!(b==c)),H,I,by rw [eb];rfl,post (.bl (!(b==c))) _ _ _ (.refl H) rh rfl ?_⟩;simpa [isV] using q
 |_=>exact False.elim q
end
end L2
namespace HT
open PySem PySem.Spec PyProof.Rows
section
variable {prog:Program}{w:World}{A:Around}{E:Value->Shared->Prop}{s:Shared}
theorem Vp (k:Int){vs:List Value}{ns:List Int}(hi:IntsAre vs ns)(j:Nat)(h:j<ns.length): ∃t,vs[j]? =some (.int ns[j] t):=by
 induction hi generalizing j with
 |nil=>simp at h
 |cons n t r ih=>
  cases j with
  |zero=>exact⟨t,rfl⟩
  |succ j=>obtain⟨u,e⟩:=ih j (by simpa using h);exact⟨u,by simpa using e⟩
theorem Uy {a:Addr}{vs:List Value}{ns:List Int}{k:Int}{t:Tok}{Q:Value->Shared->Prop}(ht:IsTup s.heap a vs.toArray)(hi:IntsAre vs ns)(hk:k∈ns)(h:Q (.int (ns.idxOf k:Nat) s.toks) {s with toks:=s.toks+1}):
 wpAny (model prog w) A (call (.builtin "tuple.index") [.ref a,.int k t]) Q E s:=by
 refine B1 G0p ht.typeIs PySem.F.entry_tuple_index ?_ (PySem.F.args_tuple_index_2 _ _);unfold Builtin.«tuple.index»;have hj:ns.idxOf k<ns.length:=E2.mpr hk;have hlen:=hi.length;show wpAny _ _ (Builtin.Tuple.tupleItemsOf (.ref a) >>= _) _ _ s;refine wpAny_bind (tupleItemsOf_ ht ?_);have go:wpAny (model prog w) A.in1 (forIn [0:min vs.toArray.size vs.toArray.size] ((none,()):Option PySem.Fin×Unit) λi __s=>
  match vs.toArray[i]? with
  |some y=>do
   let b <-eqBool y (.int k t)
   if b=true then do
    let r <-retInt ((i:Nat):Int)
    pure (ForInStep.done (some r,()))
    else pure (ForInStep.yield (none,()))
  |x=>pure (ForInStep.yield (none,())))
  (λr s'=>r=(some (.done (.ret (.int (ns.idxOf k:Nat) s.toks))),())/\s'= {s with toks:=s.toks+1}) E s:=by
  rw [K6];refine wpAny_forIn_list _ (λrest b s'=>b=(none,())/\s'=s/\ ∃i,i<=ns.idxOf k/\rest=List.range' i (ns.length-i)) _ ?_ ?_ _ _ ⟨rfl,rfl,0,T7 _,?_⟩
  ·rintro x rest b s' ⟨rfl,rfl,i,hil,e⟩;have hin:i<ns.length:=by omega
   obtain⟨n,hn⟩: ∃n,ns.length-i=n+1:=⟨ns.length-i-1,by omega⟩;rw [hn,G0E] at e;injection e with e1 e2
   subst e1 e2;obtain⟨u,hu⟩:=Vp k hi x hin;have hu':vs.toArray[x]? =some (.int ns[x] u):=by simpa using hu
   rw [hu'];refine wpAny_bind (wpAny_eqBool_int ?_)
   by_cases hx:x=ns.idxOf k
   ·have he:(ns[x]==k)=true:=by subst hx;simpa using J1 hj
    rw [if_pos he];subst hx;refine wpAny_bind ?_;exact wpAny_bind (wpAny_mkInt (P1 (P1 ⟨rfl,rfl⟩)))
   ·have hlt:x<ns.idxOf k:=by omega
    have he: ¬ (ns[x]==k)=true:=by rw [ne_of_lt_idxOf hlt hin];exact P5
    rw [if_neg he];refine P1 ⟨rfl,rfl,x+1,hlt,?_⟩;have:n=ns.length-(x+1):=by omega
    rw [this]
  ·rintro b s' ⟨rfl,rfl,i,hil,e⟩;have hin:i<ns.length:=by omega
   obtain⟨n,hn⟩: ∃n,ns.length-i=n+1:=⟨ns.length-i-1,by omega⟩;rw [hn,G0E] at e;cases e
  ·simp [hlen]
 refine wpAny_bind (P1 (wpAny_bind (P1 (wpAny_bind (S3 go (λr s' e=> ?_) λ_ _ e=>e)))));obtain⟨rfl,rfl⟩:=e;exact P1 ⟨_,rfl,h⟩
end
section
variable {prog:Program}{w:World}{A:Around}{E:Value->Shared->Prop}{s:Shared}
theorem Qu {l:Addr}{vs:List Value}{ns:List Int}{Q:Value->Shared->Prop}(hl:IsTup s.heap l vs.toArray)(hI:IntsAre vs ns)(h64:vs.length<64)
 (h: ∀ (h1 h':Heap) (out:Array Value) (ns':List Int) (c:Nat),(∀b o,s.heap.get? b=some o->h1.get? b=some o)->(∀b o,h1.get? b=some o->h'.get? b=some o)->h'.get? h1.objs.size=some (seqObj "list" out c)->
  IntsAre out.toList ns'->ns'.Perm ns->ns'.Pairwise (· <= ·)->Q (.ref h1.objs.size) {s with heap:=h'}):wpAny (model prog w) A (call (.builtin "sorted") [.ref l]) Q E s:=by
 have few:vs.length<=sizeLine:=D6 (J9 h64 (by decide));obtain⟨o,at_,cl,n,dat⟩:=hl;refine G0i kind_sorted plain_sorted entry_sorted (args_sorted1 _) (wpAny_bind (P1 (wpAny_bind (wpAny_collect_seq l (.inr rfl) at_ cl dat (λh1 grown=> ?_) (by simpa using few)))));have fresh:(h1.push (seqObj "list" vs.toArray 0)).get? h1.objs.size=some (seqObj "list" vs.toArray 0):=D9 _ rfl;refine wpAny_bind (wpAny_newList (wpAny_bind (C0 (B1 slot_list_sort ⟨_,fresh,rfl⟩ entry_list_sort (list_sort_tree fresh hI h64 λout ns' i1 i2 i3=>⟨_,rfl,?_⟩) (args_list_sort _)))) few);obtain⟨c,lies⟩:=sortedHeap_at (vs:=vs) (out:=out) fresh;refine P1 ⟨_,rfl,h h1 _ out ns' c grown (λb ob e=> ?_) lies i1 i2 i3⟩;have lt:=D3 e;rw [sortedHeap_old (S1 lt) (by rw [size_push'];exact V8 lt)];exact G3 _ e
end
end HT
namespace L2
open PySem PySem.Spec PyProof.Rows
theorem WP: ∀ {ns:List Int} {us:List Value},Vals (ns.map V.int) us->IntsAre us ns
 | [],_,r=>by cases r;exact .nil
 |n::ns,_,r=>by
  cases r with
  |cons r t=>obtain⟨k,rfl⟩:=r;exact .cons n k (WP t)
theorem ZB: ∀ {ns:List Int} {us:List Value},IntsAre us ns->Vals (ns.map V.int) us
 |_,_,.nil=> .nil
 |_,_,.cons n t r=> .cons ⟨t,rfl⟩ (ZB r)
theorem zd {K:PySem.W.Frag}{H:Hp}: ∀ {ns:List Int} {vs:List V},RelDs K H (ns.map D.int) vs->vs=ns.map V.int
 | [],_,h=>h
 |n::ns,vs,h=>by
  obtain⟨v,r,e,h1,h2⟩:=(show ∃v r,vs=v::r/\RelD K H (.int n) v/\RelDs K H (ns.map D.int) r from h);rw [e,zd h2,(show v= .int n from h1)];rfl
theorem yU: ∀ {xs:List V} {us:List Value},xs.length=us.length->(∀ (i:Nat) (x:V) (u:Value),xs[i]? =some x->us[i]? =some u->RelV x u)->Vals xs us
 | [],[],_,_=> .nil
 |x::xs,u::us,hl,h=> .cons (h 0 x u rfl rfl) (yU (by simpa using hl) λi y w e1 e2=>h (i+1) y w (by simpa using e1) (by simpa using e2))
 | [],_::_,hl,_=>by simp at hl
 |_::_,[],hl,_=>by simp at hl
theorem WQ (ns:List Int): ∀k,k<=ns.length->preSum (λi=>ns.getD i 0) k=(ns.take k).sum
 |0,_=>by simp [preSum]
 |k+1,h=>by
  have hk:k<ns.length:=by omega
  rw [preSum,WQ ns k (by omega),M1,G1 hk,List.sum_append,D2,G1 hk];simp
variable {X:Cx}
theorem Yu (hc:X.calm=true):CallR X (.builtin "sum") (λxs H Q=> ∃ (a:Addr) (ns:List Int),xs= [.ref a]/\SqL X.K H a (ns.map V.int)/\Q (.int ns.sum) H):=by
 intro pins s σ H xs us Q I r h;obtain⟨a,ns,rfl,hS,q⟩:=h;obtain⟨u,rfl,ru⟩:=yF r;cases ru;obtain⟨its,rv,pl,hz⟩:=I.list hS;have hl:=pl.isList;have hlt:a<s.heap.objs.size:=by obtain⟨_,e,_⟩:=hl;exact D3 e
 have hi:=WP rv;have hn:its.length=ns.length:=hi.length;refine call_sum_walkAnyS (K4 hl ?_);refine⟨s.heap.objs.size,_,_,_,_,_,_,λi=>ns.getD i 0,rfl,(Walks.list (A:=X.A.in1) (show X.A.in1.handled=none from I.ok.hd hc) s.heap.objs.size a (S1 hlt) its.toArray).toS,⟨⟨_,D9 _ rfl,rfl,rfl⟩,hl.push _⟩,?_,?_,λs' t' hm=> ?_⟩
 ·intro b hb;simp only [R5,N8,G0y] at hb;show b<(s.heap.push _).objs.size;rw [G0h];rcases hb with e|e
  ·rw [e];exact L6 _
  ·rw [e];exact V8 hlt
 ·intro i v hP;have e:its[i]? =some v:=by simpa using hP
  have hil:i<ns.length:=by rw [<-hn];exact(G5.mp e).1
  obtain⟨t,e2⟩:=HT.Vp 0 hi i hil;rw [e] at e2;cases e2;refine⟨t,?_⟩;show Value.int ns[i] t=Value.int (ns.getD i 0) t;rw [D2,G1 hil];rfl
 ·have e:preSum (λi=>ns.getD i 0) its.toArray.size=ns.sum:=by
   rw [P4,hn,WQ ns _ (G6 _),J0]
  rw [e];obtain⟨h',g',d',tk',o'⟩:=s';obtain⟨m1,m2,m3,m4,_⟩:=hm;simp only at m1 m2 m3 m4;subst m2 m3 m4;refine⟨.int ns.sum,H,I.kept (t':=tk') (λb o e=>m1 b o (λz=> ?_) (G3 _ e)),⟨_,rfl⟩,q⟩;rw [G2.mp z] at e;exact absurd (D3 e) (N3 _)
def AQ:RDn:=λds h Q=> ∃ (a:Addr) (ns:List Int),ds= [.lst a]/\h a=some (ns.map D.int)/\Q (.int ns.sum) (Wv h a)
theorem BC (hc:X.calm=true):yG X (.builtin "sum") AQ:=(Yu hc).imp λxs H Q ⟨ds,h,Qd,r,rh,⟨a,ns,e,hd,q⟩,p⟩=>by
 subst e;obtain⟨v,e,r1⟩:=jw r;obtain⟨vs,hH,r2⟩:=rh a _ hd;have e1:v= .ref a:=r1.1;rw [zd r2] at hH;subst e e1;exact⟨a,ns,rfl,SqL.of hH,p (.int _) _ _ _ (.refl H) (rh.sub (Sub.drop h a)) rfl q⟩
def BD:RDn:=λds h Q=> ∃ns:List Int,(ds= [.tup (ns.map D.int)]\/ ∃a,ds= [.lst a]/\h a=some (ns.map D.int))/\ns.length<64/\ ∀ (p:Addr) (ns':List Int),h p=none->ns'.Perm ns->ns'.Pairwise (· <= ·)->Q (.lst p) (zC h p (ns'.map D.int))
theorem call_sorted_ints:CallR X (.builtin "sorted") (λxs H Q=> ∃ (a:Addr) (ns:List Int),xs= [.ref a]/\(SqL X.K H a (ns.map V.int)\/SqT X.K H a (ns.map V.int))/\ns.length<64/\ ∀ (p:Addr) (ns':List Int),H p=none->ns'.Perm ns->ns'.Pairwise (· <= ·)->Q (.ref p) (upd H p (.lst (ns'.map V.int)))):=by
 intro pins s σ H xs us Q I r h;obtain⟨a,ns,rfl,hS,h64,q⟩:=h;obtain⟨u,rfl,ru⟩:=yF r;cases ru;have fin: ∀ (vs:List Value) (out:Array Value) (ns':List Int),IntsAre out.toList ns'->ns'.Perm ns->ns'.Pairwise (· <= ·)->EP X pins σ Q (.ref (s.heap.objs.size+1)) {s with heap:=sortedAll s.heap vs out}:=λvs out ns' a1 a2 a3=>by
  obtain⟨e,he⟩:=sortedAll_at s.heap vs out;have hf:H (s.heap.objs.size+1)=none:=I.hok.fresh (G1i _);refine⟨.ref _,_,I.laid (t':=s.toks) (o:= .lst (ns'.map V.int)) (λb ob q=>sortedAll_old q) (G1i _) ?_,rfl,q _ ns' hf a2 a3⟩;refine⟨?_,out.toList,e,ZB a1,he⟩;rw [G0,a2.length_eq];exact D6 (J9 h64 (by decide))
 rcases hS with hS|hS
 ·obtain⟨its,rv,pl,hz⟩:=I.list hS;have hi:=WP rv;exact sorted_ints pl.isList hi (by rw [hi.length];exact h64) (fin its)
 ·obtain⟨its,rv,pl,hz⟩:=I.tuple hS;have hi:=WP rv;refine HT.Qu pl hi (by rw [hi.length];exact h64) λh1 h' out ns' c k1 k2 lies a1 a2 a3=> ?_
  have I1:=I.kept (t':=s.toks) k1;refine⟨.ref _,_,I1.laid (t':=s.toks) (o:= .lst (ns'.map V.int)) k2 (G6 _) ⟨?_,out.toList,c,ZB a1,lies⟩,rfl,q _ ns' (I1.hok.fresh (G6 _)) a2 a3⟩;rw [G0,a2.length_eq];exact D6 (J9 h64 (by decide))
theorem vx:yG X (.builtin "sorted") BD:=call_sorted_ints.imp λxs H Q ⟨ds,h,Qd,r,rh,⟨ns,hd,h64,q⟩,p⟩=>by
 have fin: ∀ (c:Addr) (ns':List Int),H c=none->ns'.Perm ns->ns'.Pairwise (· <= ·)->Q (.ref c) (upd H c (.lst (ns'.map V.int))):=λc ns' hc a b=>
  p (.lst c) _ _ _ (.new hc) (rh.newL hc (wC ns')) ⟨rfl,_,jq⟩ (q c ns' (rh.free hc) a b)
 rcases hd with e|⟨a,e,ha⟩
 ·subst e;obtain⟨v,e,r1⟩:=jw r;obtain⟨a,vs,e1,hH,r2⟩:=(show ∃a vs,v= .ref a/\H a=some (.tup vs)/\RelDs X.K H (ns.map D.int) vs from r1);rw [zd r2] at hH;subst e e1;exact⟨a,ns,rfl,.inr (SqT.of hH),h64,fin⟩
 ·subst e;obtain⟨v,e,r1⟩:=jw r;obtain⟨vs,hH,r2⟩:=rh a _ ha;have e1:v= .ref a:=r1.1;rw [zd r2] at hH;subst e e1;exact⟨a,ns,rfl,.inl (SqL.of hH),h64,fin⟩
def ER (to te:TED):TED:=λσ h Q=>to σ h λx h1=> ∃ns:List Int,x= .tup (ns.map D.int)/\te σ h1 λy h2=> ∃k:Int,y= .int k/\k∈ns/\Q (.int (ns.idxOf k:Nat)) h2
def ES (to ti te:TED):TED:=λσ h Q=>to σ h λx h1=> ∃a,x= .lst a/\ti σ h1 λi h2=>te σ h2 λy h3=> ∃ (k:Nat) (xs:List D),i= .int (k:Int)/\k<=1000/\h3 a=some xs/\xs.length<sizeLine/\Q .non (zC h3 a (xs.take k++y::xs.drop k))
section
variable {X:Cx}{o e i:Expr}{to te ti:TED}{apos cpos:Pos}
theorem SR (ho:QE X o to)(he:QE X e te)(hbase:attributeBase o "index" X.env (eval o X.env)=eval o X.env:=by rfl)
 (hfew:((backTo cpos (starEach [e] X.env)).all (λx=> !x.1)&&(backToKw cpos (keywordEach [] X.env)).all (λx=>x.1.isSome)&&decide ([e].length+([]:List Keyword).length+(if ([]:List Keyword).isEmpty then 0 else 1)<30))=true:=by rfl)
 (hline:(apos.endLine==cpos.line)=true:=by rfl)(hs:starEach [e] X.env=(false,eval e X.env)::starEach [] X.env:=by rfl)(hplain:(backTo cpos (starEach [] X.env)).any (·.1)=false:=by rfl):
 QE X (.Call (.Attribute o "index" apos) [e] [] cpos) (ER to te):=by
 intro pins s σ H Q I h;obtain⟨σd,h,Qd,rs,rh,t,p⟩:=h;have h1:LE X.K to σ H (λv H1=> ∃ (ns:List Int) (a:Addr) (h1:HD),v= .ref a/\H1 a=some (.tup (ns.map V.int))/\RelH X.K h1 H1/\Kept H H1/\te σd h1 λy h2=> ∃k:Int,y= .int k/\k∈ns/\Qd (.int (ns.idxOf k:Nat)) h2):=
  ⟨σd,h,_,rs,rh,t,λd v h' H' k rh' rd ⟨ns,e,q⟩=>by
   subst e;obtain⟨a,vs,e1,hH,r2⟩:=(show ∃a vs,v= .ref a/\H' a=some (.tup vs)/\RelDs X.K H' (ns.map D.int) vs from rd);rw [zd r2] at hH;exact⟨ns,a,h',e1,hH,rh',k,q⟩⟩
 refine wpAny_Call_method_late hbase hfew hline rfl (thn (ho pins s σ H _ I h1) λv s1 ⟨x,H1,I1,r1,ns,a,h1,ex,hH,rh1,k1,q1⟩=> ?_);subst ex;cases (show v= .ref a from r1);obtain⟨z,its,rv,ob,g1,g2,g3,g4⟩:=(show ObjOk X.prog X.w H1 s1.heap a (.tup (ns.map V.int)) from I1.hok a _ hH);refine⟨"tuple","tuple.index",PySem.F.plainAttrs_tuple,G0p,PySem.F.type_tuple_index,⟨ob,g1,g2⟩,λb e=>by cases e;exact⟨ob,g1,g3⟩,?_⟩;have h2:LA X.K (zb te vX) σ H1 (λus H2=> ∃ (k:Int) (h2:HD),us= [.int k]/\k∈ns/\RelH X.K h2 H2/\Kept H1 H2/\Qd (.int (ns.idxOf k:Nat)) h2):=
  ⟨σd,h1,λds h2=> ∃k:Int,ds= [.int k]/\k∈ns/\Qd (.int (ns.idxOf k:Nat)) h2,rs.mono k1,rh1,by
   show te σd h1 λy h2=> ∃k:Int,[y]= [.int k]/\k∈ns/\Qd (.int (ns.idxOf k:Nat)) h2
   have:(λy h2=> ∃k:Int,y=D.int k/\k∈ns/\Qd (.int (ns.idxOf k:Nat)) h2)=λy h2=> ∃k:Int,[y]= [D.int k]/\k∈ns/\Qd (.int (ns.idxOf k:Nat)) h2:=by
    funext y h2;simp
   rw [<-this];exact q1,λds vs h' H' k rh' rd ⟨kk,e,hm,q⟩=>by
   subst e;obtain⟨v,e,r2⟩:=jw rd;cases (show v= .int kk from r2);exact⟨kk,h',e,hm,rh',k,q⟩⟩
 have hA:=(GM he MT hs:QA X [e] (zb te vX)) cpos pins s1 σ H1 _ I1 h2;rw [hs] at hA ⊢;refine Calls.callWith_builtin (by show (false||(backTo cpos (starEach [] X.env)).any (·.1))=false;rw [hplain]<;>rfl) (Calls.evalArgs_plain ?_);refine thn hA λus s2 ⟨vs,H2,I2,r2,k,h2,ev,hm,rh2,k2,q2⟩=> ?_
 subst ev;obtain⟨u,rfl,ru⟩:=yF r2;obtain⟨tk,rfl⟩:=ru;obtain⟨its2,rv2,ht2,_⟩:=I2.tuple (SqT.of (k2.tup _ _ hH));exact HT.Uy ht2 (WP rv2) hm ⟨.int _,H2,I2.tok _,⟨_,rfl⟩,p (.int _) _ _ _ (k1.trans k2) rh2 rfl q2⟩
end
theorem Pb:MtM X "list.insert" (λx vs H Q=> ∃ (l:Addr) (xs:List V) (k:Nat) (y:V),x= .ref l/\vs= [.int (k:Int),y]/\H l=some (.lst xs)/\k<=1000/\xs.length<sizeLine/\Q .non (upd H l (.lst (xs.take k++y::xs.drop k)))):=by
 intro pins s σ H x vs v us Q I rx rv h;obtain⟨l,xs,k,y,rfl,rfl,hH,hk,hz,q⟩:=h;cases rx;obtain⟨u,w',rfl,⟨t,rfl⟩,ry⟩:=DZ rv;obtain⟨z,its,n,r,hl,e⟩:=I.lstM hH;have hfit: ¬ (!Builtin.List.listFitsIndex (k:Int))=true:=by rw [fitsIndex_both (by omega) (by omega)];exact P5
 have hsz:its.toArray.size<=sizeLine:=by rw [P4];omega
 generalize har:its.toArray=ar at e hsz;obtain⟨kk,hkk⟩: ∃kk:Int,kk=(k:Int):=⟨_,rfl⟩;rw [<-hkk] at hfit ⊢;refine X6 F.slot_list_insert ⟨_,e,rfl⟩ F.entry_list_insert (F.args_list_insert_3 _ _ _) (AutoListH.list_insert_list_int_val_1 l ar n kk t w' hfit hsz) ⟨e,?_⟩;subst har hkk;refine⟨.non,_,I.lset (its':=its.take k++w'::its.drop k) hH e ?_ ((r.take k).append (.cons ry (r.drop k))) ?_,rfl,q⟩
 ·have hk0: ¬ ((k:Int)<0):=by omega
  simp only [hk0,G1c,A9,P4];have e1:its.take (min k its.length)=its.take k:=by
   by_cases hh:k<=its.length
   ·rw [O4 hh]
   ·rw [Nat.min_eq_right (by omega),J0,R0 (by omega)]
  have e2:its.drop (min k its.length)=its.drop k:=by
   by_cases hh:k<=its.length
   ·rw [O4 hh]
   ·rw [Nat.min_eq_right (by omega),List.drop_length,List.drop_of_length_le (by omega)]
  have e3:(its.drop k).take (its.length-min k its.length)=its.drop k:=R0 (by rw [S4];omega);apply Array.ext';simp only [T8,E3,List.extract_toArray,List.extract_eq_drop_take,G0j,Nat.sub_zero];rw [e1,e2,e3,G8];rfl
 ·rw [G7,D5,R1,S4];omega
section
variable {X:Cx}{o e i:Expr}{to te ti:TED}{apos cpos:Pos}
theorem SS (ho:QE X o to)(hi:QE X i ti)(he:QE X e te)(hbase:attributeBase o "insert" X.env (eval o X.env)=eval o X.env:=by rfl)
 (hfew:((backTo cpos (starEach [i,e] X.env)).all (λx=> !x.1)&&(backToKw cpos (keywordEach [] X.env)).all (λx=>x.1.isSome)&&decide ([i,e].length+([]:List Keyword).length+(if ([]:List Keyword).isEmpty then 0 else 1)<30))=true:=by rfl)
 (hline:(apos.endLine==cpos.line)=true:=by rfl)(hs:starEach [i,e] X.env=(false,eval i X.env)::starEach [e] X.env:=by rfl)(hs2:starEach [e] X.env=(false,eval e X.env)::starEach [] X.env:=by rfl)(hplain:(backTo cpos (starEach [e] X.env)).any (·.1)=false:=by rfl):
 QE X (.Call (.Attribute o "insert" apos) [i,e] [] cpos) (ES to ti te):=
 (Rh E7 PySem.F.slot_list_insert PySem.F.type_list_insert Pb ho (wt hi (wt he pa_nil hs2) hs) hbase hfew hline hs hplain).imp
  λσ H Q ⟨σd,h,Qd,rs,rh,t,p⟩=>LE.bind rs rh t λd v h1 H1 k1 rs1 rh1 r1 ⟨a,e,q⟩=>by
   subst e;obtain⟨e1,vs,hH⟩:=(show v= .ref a/\ ∃vs,H1 a=some (.lst vs) from r1);subst e1;refine⟨.inl ⟨rfl,vs,SqL.of hH⟩,?_⟩;refine LE.bind rs1 rh1 q λdi vi h2 H2 k2 rs2 rh2 r2 q2=>LE.bind rs2 rh2 q2 λy u h3 H3 k3 rs3 rh3 r3 ⟨k,xs,ei,hk,hx,hz,q3⟩=> ?_
   subst ei;have ev:vi= .int (k:Int):=r2;obtain⟨ws,hW,r4⟩:=rh3 a xs hx;refine⟨a,ws,k,u,rfl,by rw [ev],hW,hk,by rw [<-r4.length];exact hz,p .non _ _ _ (k1.trans (k2.trans (k3.trans (.put hW)))) (rh3.put hW ((r4.take k).append (.cons r3 (r4.drop k)))) rfl q3⟩
end
def LJ (ta:TA):TE:=λσ H Q=>ta σ H λvs H1=> ∃j:Int,vs= [.int j]/\ ∀p,H1 p=none->Q (.ref p) (upd H1 p (.rng 0 j))
variable {a:Expr}{p pos:Pos}
theorem Xy {ta:TA}(hg:Gl X "range")(hm:X.mg "range" =none)(ha:PA X [a] ta)(hs:starEach [a] X.env= [(false,eval a X.env)]:=by rfl):PE X (.Call (.Name "range" p) [a] [] pos) (LJ ta):=by
 intro pins s σ H Q I h;refine Call_ (Zk I hg hm boot_range (C1 (thn (ha pos pins s σ H _ I h) λus s1 ⟨vs,H1,I1,r1,q1⟩=> ?_) hs rfl));obtain⟨j,e,q⟩:=q1;subst e;obtain⟨u,rfl,ru⟩:=yF r1;obtain⟨t,rfl⟩:=ru;refine call_range_1 ⟨.ref s1.heap.objs.size,_,I1.laid (o:= .rng 0 j) (λb ob q=>G3 _ q) (G6 _) ?_,rfl,q _ (I1.hok.fresh (G6 _))⟩;exact⟨_,_,_,D9 _ rfl⟩
theorem Yv (hc:X.calm=true):CallR X (.type "list") (λxs H Q=> ∃ (p:Addr) (n:Nat),xs= [.ref p]/\H p=some (.rng 0 (n:Int))/\n<=1000/\ ∀l,H l=none->Q (.ref l) (upd H l (.lst ((List.range n).map λ(k:Nat)=>V.int (k:Int))))):=by
 intro pins s σ H xs us Q I r h;obtain⟨p,n,rfl,hH,hn,q⟩:=h;obtain⟨u,rfl,ru⟩:=yF r;cases ru;obtain⟨t,u,v,e⟩:=(show ObjOk X.prog X.w H s.heap p (.rng 0 (n:Int)) from I.hok p _ hH);refine call_list_range (n:=n) (I.ok.hd hc) e (small_one (by decide) (by decide) (by omega) (by omega)) ?_ (R6 hn (by decide)) λh' tk acc c' kp e' hacc=> ?_
 ·rw [rangeSize_one];try (split<;>omega)
 ·refine⟨.ref s.heap.objs.size,_,I.laid (t':=tk) (o:= .lst ((List.range n).map λ(k:Nat)=>V.int (k:Int))) (λb ob q=>kp b ob q) (G6 _) ?_,rfl,q _ (I.hok.fresh (G6 _))⟩;obtain⟨hs,hit⟩:=hacc;refine⟨by rw [G0,D1];exact D6 (jE hn),acc.toList,c',?_,by simpa using e'⟩;refine yU (by simp [hs]) λi x u hx hu=> ?_
  rw [P9] at hx;have hi:i<n:=by
   by_cases z:i<n
   ·exact z
   ·rw [F8 (by simpa using z)] at hx;cases hx
  rw [N7 hi] at hx;cases hx;obtain⟨t,e⟩:=hit i u (by simpa using hu);exact⟨t,by rw [e];simp⟩
def LK (ta:TAD):TED:=λσ h Q=>ta σ h λds h1=> ∃n:Nat,ds= [.int (n:Int)]/\n<=1000/\ ∀p,h1 p=none->Q (.lst p) (zC h1 p ((List.range n).map λ(k:Nat)=>D.int (k:Int)))
theorem ZC {K:PySem.W.Frag}{H:Hp}(f:Nat->Int): ∀l:List Nat,RelDs K H (l.map λk=>D.int (f k)) (l.map λk=>V.int (f k))
 | []=> .nil
 |k::l=> .cons rfl (ZC f l)
theorem Kept.drop2 {H:Hp}{p q:Addr}{o o':HO}(hp:H p=none)(hq:upd H p o q=none):Kept H (upd (upd H p o) q o'):=(Kept.new hp).trans (.new hq)
variable {p2:Pos}
theorem AR {ta:TAD}{pos2:Pos}(hc:X.calm=true)(hg:Gl X "list")(hm:X.mg "list" =none)(hg2:Gl X "range")(hm2:X.mg "range" =none)(ha:QA X [a] ta)(hs:starEach [a] X.env= [(false,eval a X.env)]:=by rfl)
 (h1:starEach [.Call (.Name "range" p2) [a] [] pos2] X.env=(false,eval (.Call (.Name "range" p2) [a] [] pos2) X.env)::starEach [] X.env:=by rfl)(h2:(backTo pos (starEach [] X.env)).any (·.1)=false:=by rfl):
 QE X (.Call (.Name "list" p) [.Call (.Name "range" p2) [a] [] pos2] [] pos) (LK ta):=
 (Zm (Yv hc) hg hm (by decide +kernel) (wt (Xy hg2 hm2 ha hs) pa_nil h1) (by decide) (by decide) h1 h2).imp
  λσ H Q ⟨σd,h,Qd,rs,rh,t,post⟩=>LA.bind rs rh t λds vs h1 H1 k1 rs1 rh1 r1 ⟨n,e,hn,q⟩=>by
   subst e;obtain⟨v,e,r2⟩:=jw r1;cases (show v= .int (n:Int) from r2);refine⟨n,e,λc hcn=>⟨c,n,rfl,jq,hn,λl hl=> ?_⟩⟩;have rh2:=(rh1.new (o:= .rng 0 (n:Int)) hcn);exact post (.lst l) (.ref l) _ _ (k1.trans (.drop2 hcn hl)) (rh2.newL hl (ZC (λk=>(k:Int)) (List.range n))) ⟨rfl,_,jq⟩ (q l (rh2.free hl))
structure JE (X:Cx)(e:Expr)(t:TED):Prop where
 to:QE X e t
structure JT (X:Cx)(e:Expr)(t:TTD):Prop where
 to:QT X e t
structure JW (X:Cx)(e:Expr)(t:TTD):Prop where
 to:QW X e t
structure JA (X:Cx)(e:List Expr)(t:TAD):Prop where
 to:QA X e t
structure JS (X:Cx)(e:Stmt)(t:TSD):Prop where
 to:QS X e t
structure JSs (X:Cx)(e:List Stmt)(t:TSD):Prop where
 to:QSs X e t
structure JG (X:Cx)(e:Expr)(t:TGD):Prop where
 to:QG X e t
structure JI (X:Cx)(tg e:Expr)(t:TID):Prop where
 to:QI X tg e t
structure JO (X:Cx)(e:Option Expr)(t:TOD):Prop where
 to:QO X e t
section
variable {X:Cx}{a b c e:Expr}{es rest:List Expr}{ta tb tc te:TED}{t u:TAD}{tt tu:TTD}{pos:Pos}{f r r':RD2}
theorem jv (i:Nat){x:Str}(hN:X.N[i]? =some x:=by rfl)(hv:Vis X.env.scope x:=by first|exact Or.inl rfl|exact Or.inr (Or.inl rfl)|exact Or.inr (Or.inr rfl))(hd:(x==("__debug__" :Str))=false:=by decide)(hcd:(x==("__classdict__" :Str))=false:=by decide):JE X (.Name x pos) (Rk i):=⟨qv (i:=i) (hN:=hN) (hv:=hv) (hd:=hd) (hcd:=hcd)⟩
theorem jR {i:Int}{j:Nat}:JE X (.Constant (.int i) j pos) (dC (.int i)):=⟨Sr⟩
theorem jbl {i:Bool}{j:Nat}:JE X (.Constant (.bool i) j pos) (dC (.bl i)):=⟨qbl⟩
theorem ET {j:Nat}:JE X (.Constant .none j pos) (dC .non):=⟨Ss⟩
theorem AS {x:Str}{i:Int}{tk:Tok}(hg:Gl X x)(hm:X.mg x=some (.int i tk))(hd:(x==("__debug__" :Str))=false:=by decide):JE X (.Name x pos) (dC (.int i)):=⟨As (hg:=hg) (hm:=hm) (hd:=hd)⟩
theorem jop {op:Operator}(ho:OpQ X (binaryOp op) f)(ha:JE X a ta)(hb:JE X b tb):JE X (.BinOp a op b pos) (dOp f ta tb):=⟨qop (ho:=ho) (ha:=ha.to) (hb:=hb.to)⟩
variable {op:CmpOp}
theorem EU (ho:OpQ X (compareOp op) f)(ha:JE X a ta)(hb:JE X b tb)(hm:behindInMarks op b=false):JE X (.Compare a [op] [b] pos) (dOp f ta tb):=⟨Su (ho:=ho) (ha:=ha.to) (hb:=hb.to) (hm:=hm)⟩
theorem LL (ho:OpQ X (compareOp op) f)(ha:JE X a ta)(hb:JE X b tb)(hm:behindInMarks op b=false):JT X (.Compare a [op] [b] pos) (JP (dOp f ta tb)):=⟨At (ho:=ho) (ha:=ha.to) (hb:=hb.to) (hm:=hm)⟩
theorem LM {op':CmpOp}(ho:OpQ X (compareOp op) r)(ho':OpQ X (compareOp op') r')(ha:JE X a ta)(hb:JE X b tb)(hc:JE X c tc)(hm:lastMarks [op,op'] [b,c]=false:=by with_unfolding_all rfl):JE X (.Compare a [op,op'] [b,c] pos) (Zw r r' ta tb tc):=⟨FU (ho:=ho) (ho':=ho') (ha:=ha.to) (hb:=hb.to) (hc:=hc.to) (hm:=hm)⟩
theorem BE {op':CmpOp}(ho:OpQ X (compareOp op) r)(ho':OpQ X (compareOp op') r')(ha:JE X a ta)(hb:JE X b tb)(hc:JE X c tc)(hm:lastMarks [op,op'] [b,c]=false:=by with_unfolding_all rfl):JT X (.Compare a [op,op'] [b,c] pos) (JP (Zw r r' ta tb tc)):=⟨NY (ho:=ho) (ho':=ho') (ha:=ha.to) (hb:=hb.to) (hc:=hc.to) (hm:=hm)⟩
theorem yc (ha:JE X a ta)(he: ∀whole,isTrue a X.env whole=(do let v <-whole;standAt a.pos;holding [v] (truthy v)):=by intro _;rfl):JT X a (JP ta):=⟨Au (ha:=ha.to) (he:=he)⟩
theorem LP (ha:JT X a tt):JW X (.BoolOp .And [a] pos) tt:=⟨Av (ha:=ha.to)⟩
theorem LQ (ha:JT X a tt):JW X (.BoolOp .Or [a] pos) tt:=⟨Sv (ha:=ha.to)⟩
theorem LU (ha:JT X a tt)(hb:JW X (.BoolOp .And (b::rest) pos) tu):JW X (.BoolOp .And (a::b::rest) pos) (NV tt tu):=⟨Aw (ha:=ha.to) (hb:=hb.to)⟩
theorem BF (ha:JT X a tt)(hb:JW X (.BoolOp .Or (b::rest) pos) tu):JW X (.BoolOp .Or (a::b::rest) pos) (FK tt tu):=⟨Sw (ha:=ha.to) (hb:=hb.to)⟩
theorem Ww (ha:JT X a tt):JT X (.UnaryOp .Not a pos) (GJ tt):=⟨Ax (ha:=ha.to)⟩
theorem Qw {op:BoolOp}(ha:JE X a ta):JE X (.BoolOp op [a] pos) ta:=⟨Sx (ha:=ha.to)⟩
theorem Rx (ha:JE X a ta)(hb:JE X (.BoolOp .And (b::rest) pos) tb):JE X (.BoolOp .And (a::b::rest) pos) (Rl ta tb):=⟨Sy (ha:=ha.to) (hb:=hb.to)⟩
theorem jor (ha:JE X a ta)(hb:JE X (.BoolOp .Or (b::rest) pos) tb):JE X (.BoolOp .Or (a::b::rest) pos) (Ao ta tb):=⟨qor (ha:=ha.to) (hb:=hb.to)⟩
theorem EV (ha:JE X a ta):JE X (.UnaryOp .Not a pos) (GK ta):=⟨Sz (ha:=ha.to)⟩
theorem jif {c:Expr}(hc:JT X c tt)(ha:JE X a ta)(hb:JE X b tb):JE X (.IfExp c a b pos) (dIf tt ta tb):=⟨qif (hc:=hc.to) (ha:=ha.to) (hb:=hb.to)⟩
theorem ye:JA X [] vX:=⟨MT⟩
theorem LV {k:Nat}(h:JA X es t):JE X (.Tuple es k pos) (An t):=⟨SA (h:=h.to)⟩
theorem Uz (h:JA X es t):JE X (.List es pos) (FJ t):=⟨SB (h:=h.to)⟩
end
section
variable {X:Cx}{st:Stmt}{sts:List Stmt}{t u:TSD}{e:Expr}{te:TED}{pos:Pos}
theorem ze:JSs X [] Qq:=⟨La⟩
theorem je (h1:JS X st t)(h2:JSs X sts u):JSs X (st::sts) (Rn t u):=⟨Bd (h1:=h1.to) (h2:=h2.to)⟩
theorem jf (h1:JS X st t):JSs X [st] t:=⟨Lb (h1:=h1.to)⟩
theorem wO (he:JE X e te)(hs:swapsWith e none pos.line X.env=pure false:=by rfl):JS X (.Expr e pos) (NZ te):=⟨AB (he:=he.to) (hs:=hs)⟩
theorem zK (he:JE X e te):JS X (.Return (some e) pos) (DO te):=⟨SC (he:=he.to)⟩
theorem Wx {c:Expr}{a b:List Stmt}{tc:TTD}(hc:JT X c tc)(ha:JSs X a t)(hb:JSs X b u):JS X (.If c a b pos) (CJ tc t u):=⟨SE (hc:=hc.to) (ha:=ha.to) (hb:=hb.to)⟩
variable {i:Nat}{x:Str}
theorem ST {pos':Pos}(hN:X.N.Nodup)(hi:X.N[i]? =some x)(hx:Loc X.env.scope x)(he:JE X e te)(hs:swapsWith e (some (.Name x pos')) pos.line X.env=pure false:=by rfl)(hf:X.fn x=true\/X.env.scope.names.lookup x=some .local:=by first|exact .inl rfl|exact .inr rfl|assumption):JS X (.Assign [.Name x pos'] e pos) (Ro i te):=⟨SF (hN:=hN) (hi:=hi) (hx:=hx) (he:=he.to) (hs:=hs) (hf:=hf)⟩
theorem BG (hN:X.N.Nodup)(hi:X.N[i]? =some x)(hx:Loc X.env.scope x)(hf:X.fn x=true\/X.env.scope.names.lookup x=some .local:=by first|exact .inl rfl|exact .inr rfl|assumption):JG X (.Name x pos) (gN i):=⟨Be (hN:=hN) (hi:=hi) (hx:=hx) (hf:=hf)⟩
theorem MZ {j:Nat}{y:Str}{p1 p2:Pos}{k:Nat}(hc:X.calm=true)(hN:X.N.Nodup)(hi:X.N[i]? =some x)(hj:X.N[j]? =some y)(hx:Loc X.env.scope x)(hy:Loc X.env.scope y)(hf:X.fn x=true\/X.env.scope.names.lookup x=some .local:=by first|exact .inl rfl|exact .inr rfl|assumption)(hf2:X.fn y=true\/X.env.scope.names.lookup y=some .local:=by first|exact .inl rfl|exact .inr rfl|assumption):JG X (.Tuple [.Name x p1,.Name y p2] k pos) (gT2 i j):=⟨Lc (hc:=hc) (hN:=hN) (hi:=hi) (hj:=hj) (hx:=hx) (hy:=hy) (hf:=hf) (hf2:=hf2)⟩
theorem OM {tg:Expr}{g:TGD}(he:JE X e te)(hg:JG X tg g)(hs:swapsWithSole [tg] e pos.line X.env=pure false:=by rfl)(hsw:swappedStores [tg] e X.env=pure none:=by rfl)(h1:(assignEach [tg] X.env).map (·.2)= [assign tg X.env]:=by rfl):JS X (.Assign [tg] e pos) (Ay te g):=⟨SG (he:=he.to) (hg:=hg.to) (hs:=hs) (hsw:=hsw) (h1:=h1)⟩
theorem AT {j:Nat}{y:Str}{a b:Expr}{ta:TAD}{px py pt:Pos}{kt k2 pt2}(hc:X.calm=true)(hN:X.N.Nodup)(hi:X.N[i]? =some x)(hj:X.N[j]? =some y)(hij:i≠j)(hx:X.env.scope.names.lookup x=some .local)(hy:X.env.scope.names.lookup y=some .local)(ha:JA X [a,b] ta)(hw:swappedStores [.Tuple [.Name x px,.Name y py] kt pt] (.Tuple [a,b] k2 pt2) X.env=pure (some [x,y]))(hs:swapsWithSole [.Tuple [.Name x px,.Name y py] kt pt] (.Tuple [a,b] k2 pt2) pos.line X.env=pure false:=by rfl):JS X (.Assign [.Tuple [.Name x px,.Name y py] kt pt] (.Tuple [a,b] k2 pt2) pos) (Az i j ta):=⟨SH (hc:=hc) (hN:=hN) (hi:=hi) (hj:=hj) (hij:=hij) (hx:=hx) (hy:=hy) (ha:=ha.to) (hw:=hw) (hs:=hs)⟩
end
section
variable {X:Cx}{tg e iter elt:Expr}{te:TED}{ti:TID}{g:TGD}{tb:TSD}{tt:TTD}{pos:Pos}{ta:TAD}{scope:Scope}{js:List Nat}{ifs:List Expr}
theorem BH (he:JE X e te):JI X tg e (iL te):=⟨Bi (he:=he.to)⟩
theorem AU {p:Pos}{a:Expr}(hg:Gl X "range")(hm:X.mg "range" =none)(ha:JA X [a] ta)(hs:starEach [a] X.env= [(false,eval a X.env)]:=by rfl):JI X tg (.Call (.Name "range" p) [a] [] pos) (iR1 ta):=⟨AE (hg:=hg) (hm:=hm) (ha:=ha.to) (hs:=hs)⟩
theorem Qx {body:List Stmt}(hp:PassesOwn (model X.prog X.w) X.A X.env X.xe)(hc:X.calm=true)(hi:JI X tg iter ti)(hg:JG X tg g)(hb:JSs X body tb)(hs: ∀x,foldedSetIterable iter X.env x=pure x:=by intro _;rfl):JS X (.For tg iter body [] pos) (Ld ti g tb):=⟨SI (hp:=hp) (hc:=hc) (hi:=hi.to) (hg:=hg.to) (hb:=hb.to) (hs:=hs)⟩
theorem ZD:PTs X [] (LT X.K yR):=Bj
theorem BI {c:Expr}(hc:JT X c tt):PTs X [c] (LT X.K tt):=Bk (hc:=hc.to)
theorem jlc {i:Nat}{x:Str}{p:Pos}(hc:X.calm=true)(S:BlockOk X scope js)(hi:JI X (.Name x p) iter ti)(hj:i∈js)(hN:X.N.Nodup)(hx:X.N[i]? =some x)(hl:scope.names.lookup x=some .local\/scope.names.lookup x=some .cell)(ht: ∀X',jp X scope X'->PTs X' ifs (LT X'.K tt))(he: ∀X',jp X scope X'->JE X' elt te)(hs: ∀x,foldedSetIterable iter X.env x=pure x:=by intro _;rfl):JE X (.ListComp elt [⟨.Name x p,iter,ifs,0⟩] scope pos) (wL (bN i) js ti tt te):=⟨qlc (hc:=hc) (S:=S) (hi:=hi.to) (hj:=hj) (hN:=hN) (hx:=hx) (hl:=hl) (ht:=ht) (he:=λX' hX=>(he X' hX).to) (hs:=hs)⟩
theorem SU {i j:Nat}{x y:Str}{p1 p2 p3:Pos}{k:Nat}(hc:X.calm=true)(S:BlockOk X scope js)(hi:JI X (.Tuple [.Name x p1,.Name y p2] k p3) iter ti)(hj:i∈js)(hj2:j∈js)(hij:i≠j)(hN:X.N.Nodup)(hx:X.N[i]? =some x)(hy:X.N[j]? =some y)(hl:scope.names.lookup x=some .local\/scope.names.lookup x=some .cell)(hl2:scope.names.lookup y=some .local\/scope.names.lookup y=some .cell)(ht: ∀X',jp X scope X'->PTs X' ifs (LT X'.K tt))(he: ∀X',jp X scope X'->JE X' elt te)(hs: ∀x,foldedSetIterable iter X.env x=pure x:=by intro _;rfl):JE X (.ListComp elt [⟨.Tuple [.Name x p1,.Name y p2] k p3,iter,ifs,0⟩] scope pos) (wL (b2 i j) js ti tt te):=⟨SJ (hc:=hc) (S:=S) (hi:=hi.to) (hj:=hj) (hj2:=hj2) (hij:=hij) (hN:=hN) (hx:=hx) (hy:=hy) (hl:=hl) (hl2:=hl2) (ht:=ht) (he:=λX' hX=>(he X' hX).to) (hs:=hs)⟩
end
section
variable {X:Cx}{k:Nat}{f:Addr}{fd:FuncData}{ps:List Str}{spd:RDn}{x:Str}{p pos:Pos}{e:Expr}{es:List Expr}{t:TAD}
theorem AV (F:FnOk X.prog X.w X.K X.mg X.base CX0 k f fd ps (LSp X.K spd))(hr:Room k X.A)(hg:Gl X x)(hm:X.mg x=some (.ref f))(hk:PySem.W.keepIn X.K (.ref f)=true)(hb:Binds X.K fd ps [])(ha:JA X (e::es) t)(hdb:(x==("__debug__" :Str))=false:=by decide)(he:starEach (e::es) X.env=(false,eval e X.env)::starEach es X.env:=by rfl)(hpl:(backTo pos (starEach es X.env)).any (·.1)=false:=by rfl):JE X (.Call (.Name x p) (e::es) [] pos) (dCB spd t):=⟨AF (F:=F) (hr:=hr) (hg:=hg) (hm:=hm) (hk:=hk) (hb:=hb) (ha:=ha.to) (hdb:=hdb) (he:=he) (hpl:=hpl)⟩
theorem zf {id:String}{r:RDn}(hc:yG X (.builtin id) r)(hg:Gl X x)(hm:X.mg x=none)(hv:bootBuiltins x=some (.builtin id))(ha:JA X (e::es) t)(hn:x≠ "__name__" :=by decide)(hdb:(x==("__debug__" :Str))=false:=by decide)(he:starEach (e::es) X.env=(false,eval e X.env)::starEach es X.env:=by rfl)(hpl:(backTo pos (starEach es X.env)).any (·.1)=false:=by rfl):JE X (.Call (.Name x p) (e::es) [] pos) (dCB r t):=⟨Lh (hc:=hc) (hg:=hg) (hm:=hm) (hv:=hv) (ha:=ha.to) (hn:=hn) (hdb:=hdb) (he:=he) (hpl:=hpl)⟩
theorem jN {T:String}{r:RDn}(hc:yG X (.type T) r)(hg:Gl X x)(hm:X.mg x=none)(hv:bootBuiltins x=some (.type T))(ha:JA X (e::es) t)(hn:x≠ "__name__" :=by decide)(hdb:(x==("__debug__" :Str))=false:=by decide)(he:starEach (e::es) X.env=(false,eval e X.env)::starEach es X.env:=by rfl)(hpl:(backTo pos (starEach es X.env)).any (·.1)=false:=by rfl):JE X (.Call (.Name x p) (e::es) [] pos) (dCB r t):=⟨Bn (hc:=hc) (hg:=hg) (hm:=hm) (hv:=hv) (ha:=ha.to) (hn:=hn) (hdb:=hdb) (he:=he) (hpl:=hpl)⟩
end
section
variable {X:Cx}{iter elt:Expr}{te:TED}{ti:TID}{tt:TTD}{pos spos:Pos}{scope:Scope}{js:List Nat}{ifs:List Expr}
theorem LW {i k:Nat}{x y:Str}{p py:Pos}(hc:X.calm=true)(hN:X.N.Nodup)(hk:X.N[k]? =some y)(hy:Loc X.env.scope y)(S:BlockOk X scope js)(hi:JI X (.Name x p) iter ti)(hj:i∈js)(hx:X.N[i]? =some x)(hl:scope.names.lookup x=some .local\/scope.names.lookup x=some .cell)(ht: ∀X',jp X scope X'->PTs X' ifs (LT X'.K tt))(he: ∀X',jp X scope X'->JE X' elt te)(hsw:swapsWith (.ListComp elt [⟨.Name x p,iter,ifs,0⟩] scope pos) (some (.Name y py)) spos.line X.env=pure true:=by rfl)(hf:X.fn y=true\/X.env.scope.names.lookup y=some .local:=by first|exact .inl rfl|exact .inr rfl|assumption)(hs: ∀x,foldedSetIterable iter X.env x=pure x:=by intro _;rfl):JS X (.Assign [.Name y py] (.ListComp elt [⟨.Name x p,iter,ifs,0⟩] scope pos) spos) (Ro k (wL (bN i) js ti tt te)):=⟨Li (hc:=hc) (hN:=hN) (hk:=hk) (hy:=hy) (S:=S) (hi:=hi.to) (hj:=hj) (hx:=hx) (hl:=hl) (ht:=ht) (he:=λX' hX=>(he X' hX).to) (hsw:=hsw) (hf:=hf) (hs:=hs)⟩
end
section
variable {X:Cx}{iter iter' elt:Expr}{te:TED}{ti ti':TID}{tt tt':TTD}{pos:Pos}{scope:Scope}{js:List Nat}{ifs ifs':List Expr}
theorem SV {i i':Nat}{x y:Str}{p py:Pos}(hc:X.calm=true)(S:BlockOk X scope js)(hi:JI X (.Name x p) iter ti)(hj:i∈js)(hj':i'∈js)(hne:i≠i')(hN:X.N.Nodup)(hx:X.N[i]? =some x)(hy:X.N[i']? =some y)(hl:scope.names.lookup x=some .local\/scope.names.lookup x=some .cell)(hl':scope.names.lookup y=some .local\/scope.names.lookup y=some .cell)(ht: ∀X',jp X scope X'->PTs X' ifs (LT X'.K tt))(hi': ∀X',jp X scope X'->JI X' (.Name y py) iter' ti')(ht': ∀X',jp X scope X'->PTs X' ifs' (LT X'.K tt'))(he: ∀X',jp X scope X'->JE X' elt te)(hs: ∀x,foldedSetIterable iter X.env x=pure x:=by intro _;rfl)(hs': ∀env x,foldedSetIterable iter' env x=pure x:=by intro _ _;rfl):JE X (.ListComp elt [⟨.Name x p,iter,ifs,0⟩,⟨.Name y py,iter',ifs',0⟩] scope pos) (CK (bN i) js ti tt i' ti' tt' te):=⟨SK (hc:=hc) (S:=S) (hi:=hi.to) (hj:=hj) (hj':=hj') (hne:=hne) (hN:=hN) (hx:=hx) (hy:=hy) (hl:=hl) (hl':=hl') (ht:=ht) (hi':=λX' hX=>(hi' X' hX).to) (ht':=ht') (he:=λX' hX=>(he X' hX).to) (hs:=hs) (hs':=hs')⟩
end
section
variable {X:Cx}{a b e:Expr}{ta tb te:TED}{pos p2:Pos}
theorem jix (ha:JE X a ta)(hb:JE X b tb)(hs:Yk b):JE X (.Subscript a b pos) (dOp ixD ta tb):=⟨qix (ha:=ha.to) (hb:=hb.to) (hs:=hs)⟩
end
theorem Pc {ta:TED}{T:String}{t:Str}(hT:T∈ ["tuple","int","bool","list","str"])(hg:Gl X "isinstance")(hm:X.mg "isinstance" =none)(hg2:Gl X t)(hm2:X.mg t=none)(hv:bootBuiltins t=some (.type T))(ha:JE X a ta)(hn:t≠ "__name__" :=by decide)(hd:(t==("__debug__" :Str))=false:=by decide)(h1:starEach [a,.Name t p2] X.env=(false,eval a X.env)::starEach [.Name t p2] X.env:=by rfl)(h2:(backTo pos (starEach [.Name t p2] X.env)).any (·.1)=false:=by rfl):JE X (.Call (.Name "isinstance" p) [a,.Name t p2] [] pos) (dIs T ta):=⟨AL (hT:=hT) (hg:=hg) (hm:=hm) (hg2:=hg2) (hm2:=hm2) (hv:=hv) (ha:=ha.to) (hn:=hn) (hd:=hd) (h1:=h1) (h2:=h2)⟩
section
variable {X:Cx}{o e i:Expr}{to te ti:TED}{apos cpos pos:Pos}
theorem LX (ho:JE X o to)(he:JE X e te)(hbase:attributeBase o "append" X.env (eval o X.env)=eval o X.env:=by rfl)(hfew:((backTo cpos (starEach [e] X.env)).all (λx=> !x.1)&&(backToKw cpos (keywordEach [] X.env)).all (λx=>x.1.isSome)&&decide ([e].length+([]:List Keyword).length+(if ([]:List Keyword).isEmpty then 0 else 1)<30))=true:=by rfl)(hline:(apos.endLine==cpos.line)=true:=by rfl)(hs:starEach [e] X.env=(false,eval e X.env)::starEach [] X.env:=by rfl)(hplain:(backTo cpos (starEach [] X.env)).any (·.1)=false:=by rfl):JE X (.Call (.Attribute o "append" apos) [e] [] cpos) (EN to te):=⟨SN (ho:=ho.to) (he:=he.to) (hbase:=hbase) (hfew:=hfew) (hline:=hline) (hs:=hs) (hplain:=hplain)⟩
theorem Pd (ho:JE X o to)(hi:JE X i ti)(ha: ∀v,assign (.Subscript o i pos) X.env v=(do
 let ov <-holding [v] (eval o X.env)
 let iv <-holding [v,ov] (eval i X.env)
 standAt pos
 holding [v,ov,iv] (setItem ov iv v)
 release [v,ov,iv] []):=by intro _;rfl):JG X (.Subscript o i pos) (Lr to ti):=⟨Lt (ho:=ho.to) (hi:=hi.to) (ha:=ha)⟩
end
theorem jpt {e:Expr}{t:TTD}(h:JW X e t):JT X e t:=⟨qpt (h:=h.to)⟩
theorem Pe:JO X none GW:=⟨By⟩
variable {te:TED}
theorem Yw {e:Expr}(he:JE X e te):JO X (some e) (Lu te):=⟨Bz (he:=he.to)⟩
theorem Pf {e:Expr}{lo hi:Option Expr}{tl th:TOD}(he:JE X e te)(hl:JO X lo tl)(hu:JO X hi th):JE X (.Subscript e (.Slice lo hi none p2) pos) (dSl te tl th):=⟨Lv (he:=he.to) (hl:=hl.to) (hu:=hu.to)⟩
theorem SW {ta:TED}(ha:JE X a ta):JE X (.UnaryOp .USub a pos) (dUn EQ ta):=⟨SQ (ha:=ha.to)⟩
theorem zc {tg e:Expr}(he:JE X e te):JI X tg e (iS te):=⟨Lz (he:=he.to)⟩
theorem Xz {st:Stmt}:JS X st MY:=⟨LB⟩
theorem jac {e:Expr}{es:List Expr}{t:TAD}(ha:JE X e te)(hr:JA X es t)(h:zj e=true:=by rfl):JA X (e::es) (zb te t):=⟨qac (ha:=ha.to) (hr:=hr.to) (h:=h)⟩
section
variable {X:Cx}{o e i:Expr}{to te ti:TED}{apos cpos:Pos}
theorem SX (ho:JE X o to)(he:JE X e te)(hbase:attributeBase o "index" X.env (eval o X.env)=eval o X.env:=by rfl)(hfew:((backTo cpos (starEach [e] X.env)).all (λx=> !x.1)&&(backToKw cpos (keywordEach [] X.env)).all (λx=>x.1.isSome)&&decide ([e].length+([]:List Keyword).length+(if ([]:List Keyword).isEmpty then 0 else 1)<30))=true:=by rfl)(hline:(apos.endLine==cpos.line)=true:=by rfl)(hs:starEach [e] X.env=(false,eval e X.env)::starEach [] X.env:=by rfl)(hplain:(backTo cpos (starEach [] X.env)).any (·.1)=false:=by rfl):JE X (.Call (.Attribute o "index" apos) [e] [] cpos) (ER to te):=⟨SR (ho:=ho.to) (he:=he.to) (hbase:=hbase) (hfew:=hfew) (hline:=hline) (hs:=hs) (hplain:=hplain)⟩
theorem SY (ho:JE X o to)(hi:JE X i ti)(he:JE X e te)(hbase:attributeBase o "insert" X.env (eval o X.env)=eval o X.env:=by rfl)(hfew:((backTo cpos (starEach [i,e] X.env)).all (λx=> !x.1)&&(backToKw cpos (keywordEach [] X.env)).all (λx=>x.1.isSome)&&decide ([i,e].length+([]:List Keyword).length+(if ([]:List Keyword).isEmpty then 0 else 1)<30))=true:=by rfl)(hline:(apos.endLine==cpos.line)=true:=by rfl)(hs:starEach [i,e] X.env=(false,eval i X.env)::starEach [e] X.env:=by rfl)(hs2:starEach [e] X.env=(false,eval e X.env)::starEach [] X.env:=by rfl)(hplain:(backTo cpos (starEach [e] X.env)).any (·.1)=false:=by rfl):JE X (.Call (.Attribute o "insert" apos) [i,e] [] cpos) (ES to ti te):=⟨SS (ho:=ho.to) (hi:=hi.to) (he:=he.to) (hbase:=hbase) (hfew:=hfew) (hline:=hline) (hs:=hs) (hs2:=hs2) (hplain:=hplain)⟩
end
theorem LY {ta:TAD}{pos2:Pos}(hc:X.calm=true)(hg:Gl X "list")(hm:X.mg "list" =none)(hg2:Gl X "range")(hm2:X.mg "range" =none)(ha:JA X [a] ta)(hs:starEach [a] X.env= [(false,eval a X.env)]:=by rfl)(h1:starEach [.Call (.Name "range" p2) [a] [] pos2] X.env=(false,eval (.Call (.Name "range" p2) [a] [] pos2) X.env)::starEach [] X.env:=by rfl)(h2:(backTo pos (starEach [] X.env)).any (·.1)=false:=by rfl):JE X (.Call (.Name "list" p) [.Call (.Name "range" p2) [a] [] pos2] [] pos) (LK ta):=⟨AR (hc:=hc) (hg:=hg) (hm:=hm) (hg2:=hg2) (hm2:=hm2) (ha:=ha.to) (hs:=hs) (h1:=h1) (h2:=h2)⟩
section
variable {P:Program}{w:World}{K:PySem.W.Frag}{mg:Str->Option Value}{base:Heap}
theorem Fun.okJ {x qual:Str}{st:Stmt}{f:Addr}{fd:FuncData}{N ps:List Str}{k:Nat}{spd:RDn}(F:Fun K x qual st f fd)(S:FnScope N ps (jd st))(len: ∀ds h Q,spd ds h Q->ds.length=ps.length)
 (tb:TSD)(hbody: ∀ (cdv:Value) (A:Around) (outer:List Env) (s:Shared) (H:Hp) (E:XK),Room k (A.deeper (envOfC qual (jd st) s.heap.objs.size f cdv))->JSs (Ra CX0 P w K mg base N qual (jd st) f cdv A outer s H E).nox (zJ st) tb)
 (read: ∀ds h Q,spd ds h Q->tb (DP Q) (wD N ds) h):FnOk P w K mg base CX0 (k+1) f fd ps (LSp K spd):=F.okD S len tb (λcdv A outer s H E hr=>(hbody cdv A outer s H E hr).to) read
end
def Zb (r:List Int):D:= .tup (r.map D.int)
def jC (T:List (List Int)):D:= .tup (T.map Zb)
def UA (n:Nat)(r:List Int):Prop:=r.length=n/\ ∀x∈r,0<=x/\x<=1000000
def GoodTab (n:Nat)(T:List (List Int)):Prop:=T.length=n/\ ∀r∈T,UA n r
structure Sq (n e:Nat)(T:List (List Int)):Prop where
 len:T.length=n
 row: ∀r∈T,r.length=n
 nn: ∀r∈T,∀x∈r,0<=x
 bit: ∀r∈T,∀x∈r,x<2^e
variable {n:Nat}{T:List (List Int)}
theorem GoodTab.sq (g:GoodTab n T):Sq n 20 T:=⟨g.1,λr hr=>(g.2 r hr).1,λr hr x hx=>((g.2 r hr).2 x hx).1,λr hr x hx=>Int.lt_of_le_of_lt ((g.2 r hr).2 x hx).2 (by decide)⟩
variable {e f:Nat}
theorem Sq.mono (h:Sq n e T)(l:e<=f):Sq n f T:=⟨h.len,h.row,h.nn,λr hr x hx=>Int.lt_of_lt_of_le (h.bit r hr x hx) (by
 have:(2:Nat)^e<=2^f:=A5 (by decide) l;have h2:((2^e:Nat):Int)<=((2^f:Nat):Int):=by exact_mod_cast this
 simpa using h2)⟩
def ent (T:List (List Int))(i j:Nat):Int:=(T.getD i []).getD j 0
def mkT (n:Nat)(f:Nat->Nat->Int):List (List Int):=(List.range n).map λi=>(List.range n).map λj=>f i j
theorem wm {i j:Nat}{f:Nat->Nat->Int}(hi:i<n)(hj:j<n):ent (mkT n f) i j=f i j:=by
 unfold ent mkT;simp [D2,hi,hj]
theorem zR {α:Type}(xs:List α)(d:α):xs=(List.range xs.length).map λi=>xs.getD i d:=by
 apply G0F (by simp);intro i h1 h2;simp [D2,h1]
theorem Sq.eq_mk (h:Sq n e T):T=mkT n (ent T):=by
 have h1:=zR T [];rw [h.len] at h1;unfold mkT
 conv=>lhs;rw [h1]
 apply S5;intro i hi;have hi':i<T.length:=by rw [h.len];exact P2.mp hi
 have hr:(T.getD i []).length=n:=by
  rw [D2,G1 hi'];exact h.row _ (R9 hi')
 have h2:=zR (T.getD i []) 0;rw [hr] at h2;exact h2
theorem XA {f g:Nat->Nat->Int}(h: ∀i j,i<n->j<n->f i j=g i j):mkT n f=mkT n g:=by
 unfold mkT;apply S5;intro i hi;apply S5;intro j hj;exact h i j (P2.mp hi) (P2.mp hj)
theorem Sq.of_mk {f:Nat->Nat->Int}(h0: ∀i j,i<n->j<n->0<=f i j)(h1: ∀i j,i<n->j<n->f i j<2^e):Sq n e (mkT n f):=by
 have key: ∀r∈mkT n f,∃i,i<n/\r=(List.range n).map λj=>f i j:=λr hr=>by
  obtain⟨i,hi,e⟩:=R4.mp hr;exact⟨i,P2.mp hi,e.symm⟩
 refine⟨by simp [mkT],λr hr=> ?_,λr hr x hx=> ?_,λr hr x hx=> ?_⟩
 ·obtain⟨i,_,e⟩:=key r hr;rw [e];simp
 ·obtain⟨i,hi,e⟩:=key r hr;rw [e] at hx;obtain⟨j,hj,e2⟩:=R4.mp hx;rw [<-e2];exact h0 i j hi (P2.mp hj)
 ·obtain⟨i,hi,e⟩:=key r hr;rw [e] at hx;obtain⟨j,hj,e2⟩:=R4.mp hx;rw [<-e2];exact h1 i j hi (P2.mp hj)
theorem Sq.ent_nn (h:Sq n e T){i j:Nat}(hi:i<n)(hj:j<n):0<=ent T i j/\ent T i j<2^e:=by
 have hi':i<T.length:=by rw [h.len];exact hi
 have hr:T.getD i []=T[i]:=by rw [D2,G1 hi'];rfl
 have hm:T[i]∈T:=R9 hi';have hj':j<T[i].length:=by rw [h.row _ hm];exact hj
 have he:ent T i j=T[i][j]:=by unfold ent;rw [hr,List.getD_eq_getElem?_getD,List.getElem?_eq_getElem hj'];rfl
 rw [he];exact⟨h.nn _ hm _ (R9 hj'),h.bit _ hm _ (R9 hj')⟩
variable {U:List (List Int)}
theorem Sq.ext (h:Sq n e T)(g:Sq n f U)(k: ∀i j,i<n->j<n->ent T i j=ent U i j):T=U:=by
 rw [h.eq_mk,g.eq_mk];exact XA k
def jH (n:Nat)(f:Nat->Int):Int:=((List.range n).map f).sum
theorem wF (f:Nat->Int):jH 0 f=0:=rfl
theorem jz (n:Nat)(f:Nat->Int):jH (n+1) f=jH n f+f n:=by
 unfold jH;rw [List.range_succ,List.map_append,List.sum_append];simp
theorem jT {f g:Nat->Int}(h: ∀k,k<n->f k=g k):jH n f=jH n g:=by
 unfold jH;congr 1;apply List.map_congr_left;intro k hk;exact h k (List.mem_range.mp hk)
theorem vy {f:Nat->Int}(h: ∀k,k<n->0<=f k):0<=jH n f:=by
 induction n with
 |zero=>exact G05 _
 |succ n ih=>rw [jz];have:=ih λk hk=>h k (by omega);have:=h n (by omega);omega
theorem Yx {f:Nat->Int}{b:Int}(h: ∀k,k<n->f k<=b):jH n f<=n*b:=by
 induction n with
 |zero=>simp [wF]
 |succ n ih=>
  rw [jz];have h1:=ih λk hk=>h k (by omega);have h2:=h n (by omega)
  have:((n+1:Nat):Int)*b=(n:Int)*b+b:=by rw [Int.natCast_add,Int.add_mul];simp
  omega
theorem Pg (n:Nat)(f g:Nat->Int):jH n (λk=>f k+g k)=jH n f+jH n g:=by
 induction n with
 |zero=>rfl
 |succ n ih=>rw [jz,jz,jz,ih];omega
theorem ZE (n:Nat)(c:Int)(f:Nat->Int):jH n (λk=>c*f k)=c*jH n f:=by
 induction n with
 |zero=>simp [wF]
 |succ n ih=>rw [jz,jz,ih,Int.mul_add]
theorem Qy (n:Nat)(c:Int)(f:Nat->Int):jH n (λk=>f k*c)=jH n f*c:=by
 rw [G0R,<-ZE];exact jT λk _=>G0R _ _
theorem Qz (m n:Nat)(f:Nat->Nat->Int):jH m (λi=>jH n (f i))=jH n (λj=>jH m λi=>f i j):=by
 induction m with
 |zero=>
  rw [wF]
  induction n with
  |zero=>rfl
  |succ n ih=>rw [jz,<-ih,wF];rfl
 |succ m ih=>
  rw [jz,ih,<-Pg];exact jT λj _=>(jz m λi=>f i j).symm
theorem Vq {f:Nat->Int}{i:Nat}(hi:i<n)(h: ∀k,k<n->k≠i->f k=0):jH n f=f i:=by
 induction n with
 |zero=>omega
 |succ n ih=>
  rw [jz]
  by_cases e:i=n
  ·subst e;have:jH i f=0:=by
    have:jH i f=jH i (λ_=>0*1):=jT λk hk=>by rw [h k (by omega) (by omega)];rfl
    rw [this,ZE];simp
   omega
  ·rw [ih (by omega) λk hk hne=>h k (by omega) hne,h n (by omega) (by omega)];omega
theorem Ph {f:Nat->Int}(h: ∀k,k<n->0<=f k):0<jH n f↔ ∃k,k<n/\0<f k:=by
 induction n with
 |zero=>simp [wF]
 |succ n ih=>
  rw [jz];have h1:=vy λk (hk:k<n)=>h k (by omega)
  have h2:=h n (by omega);have ih':=ih λk hk=>h k (by omega)
  constructor
  ·intro z
   by_cases q:0<f n
   ·exact⟨n,by omega,q⟩
   ·obtain⟨k,a,b⟩:=ih'.mp (by omega);exact⟨k,by omega,b⟩
  ·rintro ⟨k,a,b⟩
   by_cases q:k=n
   ·subst q;omega
   ·have:=ih'.mpr ⟨k,by omega,b⟩;omega
def yf (n:Nat)(T U:List (List Int)):List (List Int):=mkT n λi j=>jH n λk=>ent T i k*ent U k j
theorem Sq.mul (h:Sq n e T)(g:Sq n f U)(hn:n<=8):Sq n (e+f+3) (yf n T U):=by
 have nn: ∀i j,i<n->j<n-> ∀k,k<n->0<=ent T i k*ent U k j:=λi j hi hj k hk=>Int.mul_nonneg (h.ent_nn hi hk).1 (g.ent_nn hk hj).1
 refine Sq.of_mk (λi j hi hj=>vy (nn i j hi hj)) λi j hi hj=> ?_
 have hle: ∀k,k<n->ent T i k*ent U k j<=2^e*2^f-1:=λk hk=>by
  have a:=h.ent_nn hi hk;have b:=g.ent_nn hk hj;have:ent T i k*ent U k j<2^e*2^f:=by
   have p:(0:Int)<2^f:=G1j (by decide)
   calc ent T i k*ent U k j<=ent T i k*2^f:=Int.mul_le_mul_of_nonneg_left (Int.le_of_lt b.2) a.1
    _<2^e*2^f:=Int.mul_lt_mul_of_pos_right a.2 p
  omega
 have s:=Yx hle;have p:(0:Int)<2^e*2^f:=Int.mul_pos (G1j (by decide)) (G1j (by decide));have e1:(2:Int)^(e+f+3)=8*(2^e*2^f):=by rw [Int.pow_add,Int.pow_add];rw [G0R];rfl
 rw [e1];have hn':(n:Int)<=8:=by omega
 have:(n:Int)*(2^e*2^f-1)<=8*(2^e*2^f-1):=Int.mul_le_mul_of_nonneg_right hn' (by omega);omega
theorem zX {i j:Nat}(hi:i<n)(hj:j<n):ent (yf n T U) i j=jH n λk=>ent T i k*ent U k j:=wm hi hj
def YZ (n:Nat):List (List Int):=mkT n λi j=>if i=j then 1 else 0
theorem Sq.one (n:Nat):Sq n 1 (YZ n):=Sq.of_mk (f:=λi j=>if i=j then 1 else 0) (λi j _ _=>by split<;>decide) λi j _ _=>by split<;>decide
theorem mul_assoc {g:Nat}{V:List (List Int)}(hT:Sq n e T)(hU:Sq n f U)(hV:Sq n g V)(hn:n<=8):yf n (yf n T U) V=yf n T (yf n U V):=by
 refine((hT.mul hU hn).mul hV hn).ext (hT.mul (hU.mul hV hn) hn) λi j hi hj=> ?_
 rw [zX hi hj,zX hi hj];have e1:(jH n λk=>ent (yf n T U) i k*ent V k j)=jH n λk=>jH n λl=>ent T i l*ent U l k*ent V k j:=
  jT λk hk=>by rw [zX hi hk,<-Qy]
 have e2:(jH n λl=>ent T i l*ent (yf n U V) l j)=jH n λl=>jH n λk=>ent T i l*(ent U l k*ent V k j):=
  jT λl hl=>by rw [zX hl hj,<-ZE]
 rw [e1,e2,Qz];exact jT λl _=>jT λk _=>Int.mul_assoc _ _ _
theorem XB (hT:Sq n e T)(hn:n<=8):yf n (YZ n) T=T:=by
 refine((Sq.one n).mul hT hn).ext hT λi j hi hj=> ?_
 rw [zX hi hj,Vq hi λk hk hne=>by rw [YZ,wm hi hk,if_neg (Ne.symm hne)];simp];rw [YZ,wm hi hi,if_pos rfl];simp
theorem Ry (hT:Sq n e T)(hn:n<=8):yf n T (YZ n)=T:=by
 refine(hT.mul (Sq.one n) hn).ext hT λi j hi hj=> ?_
 rw [zX hi hj,Vq hj λk hk hne=>by rw [YZ,wm hk hj,if_neg hne];simp];rw [YZ,wm hj hj,if_pos rfl];simp
def zl (n:Nat)(T:List (List Int)):Nat->List (List Int)
 |0=>YZ n
 |k+1=>yf n (zl n T k) T
theorem Sq.pow (hT:Sq n e T)(hn:n<=8): ∀k,Sq n (k*(e+3)+1) (zl n T k)
 |0=>(Sq.one n).mono (by omega)
 |k+1=>((Sq.pow hT hn k).mul hT hn).mono (by rw [G0b];omega)
def vz (n:Nat)(T:List (List Int)):List (List Int):=mkT n λi j=>ent T j i
def jB (n:Nat)(T:List (List Int)):List (List Int):=mkT n λi j=>if ent T i j=0 then 0 else 1
def Va (n:Nat)(o:List Nat)(T:List (List Int)):List (List Int):=mkT n λi j=>ent T (o.idxOf i) (o.idxOf j)
theorem Sq.turn (h:Sq n e T):Sq n e (vz n T):=Sq.of_mk (λi j hi hj=>(h.ent_nn hj hi).1) λi j hi hj=>(h.ent_nn hj hi).2
theorem Sq.mark (T:List (List Int)):Sq n 1 (jB n T):=Sq.of_mk (f:=λi j=>if ent T i j=0 then 0 else 1) (λi j _ _=>by split<;>decide) λi j _ _=>by split<;>decide
structure Ord (n:Nat)(o:List Nat):Prop where
 len:o.length=n
 all: ∀i,i<n->i∈o
theorem Ord.lt {o:List Nat}(h:Ord n o){i:Nat}(hi:i<n):o.idxOf i<n:=by rw [<-h.len];exact E2.mpr (h.all i hi)
theorem Sq.ren {o:List Nat}(h:Sq n e T)(ho:Ord n o):Sq n e (Va n o T):=Sq.of_mk (λi j hi hj=>(h.ent_nn (ho.lt hi) (ho.lt hj)).1) λi j hi hj=>(h.ent_nn (ho.lt hi) (ho.lt hj)).2
def zm (T:List (List Int)):Bool:=T.all λr=>r.all λx=>decide (x≠0)
theorem UB (n:Nat)(f:Nat->Nat->Int):zm (mkT n f)=true↔ ∀i j,i<n->j<n->f i j≠0:=by
 unfold zm mkT;simp only [F9,S8,P2,B7,K5];exact⟨λh i j hi hj=>h i hi j hj,λh i hi j hj=>h i j hi hj⟩
theorem Pi (h:Sq n e T):zm (jB n T)=zm T:=by
 have h1:zm T=zm (mkT n (ent T)):=by rw [<-h.eq_mk]
 rw [h1,T5,jB,UB,UB];constructor
 ·intro z i j hi hj w;exact z i j hi hj (by rw [if_pos w])
 ·intro z i j hi hj w;rw [if_neg (z i j hi hj)] at w;cases w
def MulOk (i j:Int):Prop:= ∃m n:Nat,i.natAbs<2^m/\j.natAbs<2^n/\m+n<=134217728
theorem MulOk.ok {i j:Int}(h:MulOk i j):IntMulOk i j:=by
 obtain⟨m,n,a,b,c⟩:=h;exact .of_le (G0X.mpr a) (G0X.mpr b) c
theorem BJ:OpR X (binaryOp .Mult) (rI MulOk λi j=> .int (i*j)):=opI λ_ _ _ _ _ _ _ hc q=>mul_int q hc.ok
def SZ:RD2:=λx y h Q=>match x,y with
 | .int i,.int j=>MulOk i j/\Q (.int (i*j)) h
 |_,_=>False
theorem BK:OpQ X (binaryOp .Mult) SZ:=Yo (gd:=λi j=> .int (i*j)) BJ (λ_ _ _=>rfl) λx y h Q q=>by
 cases x<;>cases y<;>first|exact False.elim q|exact⟨_,_,rfl,rfl,q.1,q.2⟩
theorem ZF {x:Int}(h0:0<=x)(h1:x<2^e):x.natAbs<2^e:=by
 have:((2^e:Nat):Int)=2^e:=by simp
 omega
theorem Rz {x y:Int}(hx:0<=x/\x<2^e)(hy:0<=y/\y<2^f)(h:e+f<=134217728):MulOk x y:=⟨e,f,ZF hx.1 hx.2,ZF hy.1 hy.2,h⟩
section
variable {α β:Type}{i i':Nat}{js:List Nat}{ti ti':TID}{te:TED}{σ:SD}{h:HD}{Q:KD}{j:ItD}
theorem lcA (xs:List α)(c g:α->D)(hz:xs.length<=1000)(hj:j h=some (xs.map c))(ht: ∀R:ItD->HD->Prop,R j h->ti σ h R)
 (he: ∀x∈xs,∀Q':KD,Q' (g x) h->te ((jJ js σ).set i (some (c x))) h Q')(hq: ∀p,h p=none->Q (.lst p) (zC h p (xs.map g))):wL (bN i) js ti yR te σ h Q:=by
 refine ht _ ⟨xs.length,λk ys h'=>h'=h/\ys=(xs.take k).map g,⟨rfl,by simp⟩,?_⟩;rintro k ys h' ⟨rfl,rfl⟩;refine⟨by simp only [G0,R1];exact D6 (jE (by omega)),xs.map c,hj,by simp,λhl p hp=> ?_,λd hd=>⟨_,rfl,?_⟩⟩
 ·rw [R0 (by simpa using hl)];exact hq p hp
 ·unfold yR;dsimp only;rw [if_pos rfl];rw [P9] at hd;cases hx:xs[k]? with
  |none=>rw [hx] at hd;cases hd
  |some x=>
   rw [hx] at hd;cases hd;refine he x (G9 hx) _ ⟨h',Sub.refl _,rfl,?_⟩;rw [M1,hx];simp
theorem lcF (xs:List α)(c g:α->D)(p:α->Bool){tt:TTD}(hz:xs.length<=1000)(hj:j h=some (xs.map c))(ht: ∀R:ItD->HD->Prop,R j h->ti σ h R)
 (hp: ∀x∈xs,∀Q':Bool->HD->Prop,Q' (p x) h->tt ((jJ js σ).set i (some (c x))) h Q')(he: ∀x∈xs,p x=true-> ∀Q':KD,Q' (g x) h->te ((jJ js σ).set i (some (c x))) h Q')(hq: ∀a,h a=none->Q (.lst a) (zC h a ((xs.filter p).map g))):wL (bN i) js ti tt te σ h Q:=by
 refine ht _ ⟨xs.length,λk ys h'=>h'=h/\ys=((xs.take k).filter p).map g,⟨rfl,by simp⟩,?_⟩;rintro k ys h' ⟨rfl,rfl⟩;refine⟨?_,xs.map c,hj,by simp,λhl a ha=> ?_,λd hd=>⟨_,rfl,?_⟩⟩
 ·have:=H0 p (xs.take k);simp only [G0,R1] at this ⊢;exact D6 (jE (by omega))
 ·rw [R0 (by simpa using hl)];exact hq a ha
 ·rw [P9] at hd;cases hx:xs[k]? with
  |none=>rw [hx] at hd;cases hd
  |some x=>
   rw [hx] at hd;cases hd;refine hp x (G9 hx) _ ?_;cases hb:p x with
   |true=>
    rw [if_pos rfl];refine he x (G9 hx) hb _ ⟨h',Sub.refl _,rfl,?_⟩;rw [M1,hx];simp [hb]
   |false=>
    rw [if_neg P5];refine⟨h',Sub.refl _,rfl,?_⟩;rw [M1,hx];simp [hb]
theorem lcB (xs:List α)(c:α->D)(ys:α->List β)(c':β->D)(g:α->β->D)(hz:(xs.flatMap ys).length<=1000)(hj:j h=some (xs.map c))(ht: ∀R:ItD->HD->Prop,R j h->ti σ h R)
 (hin: ∀x∈xs,∀R:ItD->HD->Prop,R (λ_=>some ((ys x).map c')) h->ti' ((jJ js σ).set i (some (c x))) h R)
 (he: ∀x∈xs,∀y∈ys x,∀Q':KD,Q' (g x y) h->te (((jJ js σ).set i (some (c x))).set i' (some (c' y))) h Q')(hq: ∀p,h p=none->Q (.lst p) (zC h p (xs.flatMap λx=>(ys x).map (g x)))):CK (bN i) js ti yR i' ti' yR te σ h Q:=by
 have len: ∀l:List α,(l.flatMap λx=>(ys x).map (g x)).length=(l.flatMap ys).length:=λl=>by
  induction l with
  |nil=>rfl
  |cons x l ih=>simp [V9,ih]
 have lek: ∀k,((xs.take k).flatMap ys).length<=(xs.flatMap ys).length:=λk=>by
  conv=>rhs;rw [<-D7 k xs,Y2,G7]
  omega
 have lek1: ∀k x m,xs[k]? =some x->m<=(ys x).length->((xs.take k).flatMap ys).length+m<=(xs.flatMap ys).length:=λk x m hx hm=>by
  have:=lek (k+1);rw [M1,hx,Y2,G7] at this;simp at this;simp;omega
 refine ht _ ⟨xs.length,λk zs h'=>h'=h/\zs=(xs.take k).flatMap λx=>(ys x).map (g x),⟨rfl,by simp⟩,?_⟩;rintro k zs h' ⟨rfl,rfl⟩;refine⟨by rw [len];exact D6 (jE (R6 (lek k) hz)),xs.map c,hj,by simp,λhl p hp=> ?_,λd hd=>⟨_,rfl,?_⟩⟩
 ·rw [R0 (by simpa using hl)];exact hq p hp
 ·unfold yR;dsimp only;rw [if_pos rfl];rw [P9] at hd;cases hx:xs[k]? with
  |none=>rw [hx] at hd;cases hd
  |some x=>
   rw [hx] at hd;cases hd;have xm:=G9 hx;refine hin x xm _ ⟨(ys x).length,λm zs h2=>h2=h'/\zs=((xs.take k).flatMap λx=>(ys x).map (g x))++((ys x).take m).map (g x),⟨rfl,by simp⟩,?_⟩;rintro m zs h2 ⟨rfl,rfl⟩;refine⟨?_,(ys x).map c',rfl,by simp,λhl=>⟨h2,Sub.refl _,rfl,?_⟩,λd hd=> ?_⟩
   ·rw [G7,len,G0,R1];have:=lek1 k x (min m (ys x).length) hx (I0 _ _);exact D6 (jE (by omega))
   ·have hm:(ys x).take m=ys x:=R0 (by simpa using hl);rw [hm,M1,hx,Y2];simp
   ·rw [P9] at hd;cases hy:(ys x)[m]? with
    |none=>rw [hy] at hd;cases hd
    |some y=>
     rw [hy] at hd;cases hd
     first
      |rw [if_pos rfl]
      |(dsimp only;rw [if_pos rfl])
     refine he x xm y (G9 hy) _ ⟨h2,Sub.refl _,rfl,?_⟩;rw [M1,hy];simp
theorem DQ (xs:List α)(c g:α->D)(hz:xs.length<=1000)(hj:j h=some (xs.map c))(ht: ∀R:ItD->HD->Prop,R j h->ti σ h R)
 (he: ∀x∈xs,∀Q':KD,Q' (g x) h->te ((jJ js σ).set i (some (c x))) h Q')(hq:Q (.tup (xs.map g)) h):dCB JC (zb (wL (bN i) js ti yR te) vX) σ h Q:=by
 show wL (bN i) js ti yR te σ h (λx h1=>JC [x] h1 Q);exact lcA xs c g hz hj ht he λp hp=>(show ∃ys,zC h p (xs.map g) p=some ys/\Q (.tup ys) (Wv (zC h p (xs.map g)) p) from ⟨_,jc,by rw [za hp];exact hq⟩)
theorem AW (xs:List α)(c g:α->D)(p:α->Bool){tt:TTD}(hz:xs.length<=1000)(hj:j h=some (xs.map c))(ht: ∀R:ItD->HD->Prop,R j h->ti σ h R)
 (hp: ∀x∈xs,∀Q':Bool->HD->Prop,Q' (p x) h->tt ((jJ js σ).set i (some (c x))) h Q')(he: ∀x∈xs,p x=true-> ∀Q':KD,Q' (g x) h->te ((jJ js σ).set i (some (c x))) h Q')(hq:Q (.tup ((xs.filter p).map g)) h):dCB JC (zb (wL (bN i) js ti tt te) vX) σ h Q:=by
 show wL (bN i) js ti tt te σ h (λx h1=>JC [x] h1 Q);exact lcF xs c g p hz hj ht hp he λa ha=>(show ∃ys,zC h a ((xs.filter p).map g) a=some ys/\Q (.tup ys) (Wv (zC h a ((xs.filter p).map g)) a) from ⟨_,jc,by rw [za ha];exact hq⟩)
theorem Ta (xs:List α)(c:α->D)(g:α->Int)(hz:xs.length<=1000)(hj:j h=some (xs.map c))(ht: ∀R:ItD->HD->Prop,R j h->ti σ h R)
 (he: ∀x∈xs,∀Q':KD,Q' (.int (g x)) h->te ((jJ js σ).set i (some (c x))) h Q')(hq:Q (.int (xs.map g).sum) h):dCB AQ (zb (wL (bN i) js ti yR te) vX) σ h Q:=by
 show wL (bN i) js ti yR te σ h (λx h1=>AQ [x] h1 Q);exact lcA xs c (λx=> .int (g x)) hz hj ht he λp hp=>⟨p,xs.map g,rfl,by rw [jc,S0];rfl,by rw [za hp];exact hq⟩
theorem EW (xs:List α)(c:α->D)(g:α->Bool)(hz:xs.length<=1000)(hj:j h=some (xs.map c))(ht: ∀R:ItD->HD->Prop,R j h->ti σ h R)
 (he: ∀x∈xs,∀Q':KD,Q' (.bl (g x)) h->te ((jJ js σ).set i (some (c x))) h Q')(hq:Q (.bl (xs.all g)) h):dCB Bx (zb (wL (bN i) js ti yR te) vX) σ h Q:=by
 show wL (bN i) js ti yR te σ h (λx h1=>Bx [x] h1 Q);exact lcA xs c (λx=> .bl (g x)) hz hj ht he λp hp=>⟨p,xs.map g,rfl,by rw [jc,S0];rfl,by rw [za hp,F9];exact hq⟩
theorem Tb (xs:List α)(c:α->D)(g:α->Bool)(hz:xs.length<=1000)(hj:j h=some (xs.map c))(ht: ∀R:ItD->HD->Prop,R j h->ti σ h R)
 (he: ∀x∈xs,∀Q':KD,Q' (.bl (g x)) h->te ((jJ js σ).set i (some (c x))) h Q')(hq:Q (.bl (xs.any g)) h):dCB Lq (zb (wL (bN i) js ti yR te) vX) σ h Q:=by
 show wL (bN i) js ti yR te σ h (λx h1=>Lq [x] h1 Q);exact lcA xs c (λx=> .bl (g x)) hz hj ht he λp hp=>⟨p,xs.map g,rfl,by rw [jc,S0];rfl,by rw [za hp,G0Q];exact hq⟩
theorem Tc (xs:List α)(c:α->D)(ys:α->List β)(c':β->D)(g:α->β->Bool)(hz:(xs.flatMap ys).length<=1000)(hj:j h=some (xs.map c))(ht: ∀R:ItD->HD->Prop,R j h->ti σ h R)
 (hin: ∀x∈xs,∀R:ItD->HD->Prop,R (λ_=>some ((ys x).map c')) h->ti' ((jJ js σ).set i (some (c x))) h R)
 (he: ∀x∈xs,∀y∈ys x,∀Q':KD,Q' (.bl (g x y)) h->te (((jJ js σ).set i (some (c x))).set i' (some (c' y))) h Q')(hq:Q (.bl (xs.all λx=>(ys x).all (g x))) h):dCB Bx (zb (CK (bN i) js ti yR i' ti' yR te) vX) σ h Q:=by
 show CK (bN i) js ti yR i' ti' yR te σ h (λx h1=>Bx [x] h1 Q);refine lcB xs c ys c' (λx y=> .bl (g x y)) hz hj ht hin he λp hp=> ?_
 ·have e:(xs.flatMap λx=>(ys x).map λy=>D.bl (g x y))=(xs.flatMap λx=>(ys x).map (g x)).map D.bl:=by
   clear hz hj ht hin he hq
   induction xs with
   |nil=>rfl
   |cons x l ih=>simp [V9,ih,S0]
  refine⟨p,xs.flatMap λx=>(ys x).map (g x),rfl,by rw [jc,e],?_⟩;rw [za hp];have e2:(xs.flatMap λx=>(ys x).map (g x)).all id=xs.all λx=>(ys x).all (g x):=by
   clear hz hj ht hin he hq e
   induction xs with
   |nil=>rfl
   |cons x l ih=>simp [V9,ih,F9]
  rw [e2];exact hq
end
end L2
namespace L2
open PySem PySem.Spec PyProof.Rows PySem.SeqAt
def AX (j:ItD):TID:=λ_ h R=>R j h
theorem RA {b:D->SD->SD->Prop}{js:List Nat}{ti:TID}{tt:TTD}{te:TED}{σ:SD}{h:HD}{Q:KD}(x:ti σ h λj h1=>wL b js (AX j) tt te σ h1 Q):wL b js ti tt te σ h Q:=x
def jx (o:List Nat):D:= .tup (o.map λ(k:Nat)=>D.int (k:Int))
def Ordr (n:Nat)(o:List Nat):Prop:=o.Perm (List.range n)
variable {n:Nat}{o:List Nat}
theorem Ordr.ord (h:Ordr n o):Ord n o:=⟨by rw [h.length_eq,D1],λi hi=>h.mem_iff.mpr (P2.mpr hi)⟩
def jI (o:List Nat):List Int:=o.map λ(k:Nat)=>(k:Int)
theorem Yy (o:List Nat):jx o= .tup ((jI o).map D.int):=by unfold jx jI;rw [List.map_map];rfl
theorem RB (o:List Nat)(i:Nat):(jI o).idxOf (i:Int)=o.idxOf i:=by
 induction o with
 |nil=>rfl
 |cons a o ih=>
  show ((a:Int)::jI o).idxOf (i:Int)=_;rw [List.idxOf_cons,List.idxOf_cons,ih]
  by_cases e:a=i
  ·subst e;simp
  ·have e1:(a==i)=false:=by simpa using e
   have e2:((a:Int)==(i:Int))=false:=by simp;omega
   rw [e1,e2]
variable {i:Nat}
theorem RC (h:i∈o):(i:Int)∈jI o:=R4.mpr ⟨i,h,rfl⟩
theorem Vr: ∀n:Nat,(jI (List.range n)).Pairwise (· <= ·):=λn=>by
 unfold jI;rw [T6];exact List.pairwise_le_range.imp λh=>by omega
theorem Ordr.insert (h:Ordr n o)(k:Nat):Ordr (n+1) (o.take k++n::o.drop k):=by
 unfold Ordr;rw [C6];refine G0G.trans ?_;rw [D7];exact(List.Perm.cons n h).trans (List.perm_append_singleton n _).symm
theorem zw (h:HD): ∀ns:List Int,ToPs h (ns.map D.int) (ns.map PyData.int)
 | []=>rfl
 |n::ns=>⟨_,_,rfl,rfl,zw h ns⟩
theorem wP: ∀ns:List Int,PyData.canLayAll0 (ns.map PyData.int)=true
 | []=>rfl
 |n::ns=>by show (PyData.canLay0 (.int n)&&_)=true;rw [wP ns];rfl
theorem ZG: ∀ns:List Int,PyData.eqvAll (ns.map PyData.int) (ns.map PyData.int)=true
 | []=>rfl
 |n::ns=>by show ((n==n)&&PyData.eqvAll _ _)=true;rw [ZG ns];simp
theorem yy: ∀ns:List Int,PyData.depthAll (ns.map PyData.int)<=1
 | []=>by simp [PyData.depthAll]
 |n::ns=>by
  have:=yy ns;simp only [M8,PyData.depthAll,PyData.depth];omega
theorem zE (ns:List Int):shaped (.list (ns.map .int))=true:=by
 unfold shaped;have h1:PyData.canLay0 (.list (ns.map .int))=true:=by simp only [PyData.canLay0];exact wP ns
 have h2:=yy ns;have h3:PyData.depth (.list (ns.map .int))<=64:=by simp only [PyData.depth];omega
 rw [h1,P7 h3];rfl
def ZH (r:List Int):PyData:= .tuple (r.map .int)
def ON (T:List (List Int)):PyData:= .tuple (T.map ZH)
theorem Vs (h:HD): ∀T:List (List Int),ToPs h (T.map Zb) (T.map ZH)
 | []=>rfl
 |r::T=>⟨_,_,rfl,⟨_,rfl,zw h r⟩,Vs h T⟩
theorem BL (h:HD)(T:List (List Int)):ToP h (jC T) (ON T):=⟨_,rfl,Vs h T⟩
theorem ZI: ∀T:List (List Int),PyData.canLayAll0 (T.map ZH)=true
 | []=>rfl
 |r::T=>by
  show (PyData.canLay0 (ZH r)&&_)=true;rw [ZI T];have:PyData.canLay0 (ZH r)=true:=by unfold ZH;simp only [PyData.canLay0];exact wP r
  rw [this];rfl
theorem WR: ∀T:List (List Int),PyData.depthAll (T.map ZH)<=3
 | []=>by simp [PyData.depthAll]
 |r::T=>by
  have:=WR T;have h2:=yy r;simp only [M8,PyData.depthAll,PyData.depth,ZH];omega
variable {e:Nat}{T:List (List Int)}
theorem ZJ (h:Sq n e T){i:Nat}(hi:i<n):atI (T.map Zb) (i:Int)=some (Zb (T.getD i [])):=by
 have hi':i<T.length:=by rw [h.len];exact hi
 exact wu (by rw [P9,D2,G1 hi'];rfl)
theorem Sq.getRow (h:Sq n e T){i:Nat}(hi:i<n):T.getD i []∈T:=by
 have hi':i<T.length:=by rw [h.len];exact hi
 rw [D2,G1 hi'];exact R9 hi'
theorem yV {r:List Int}(h:r.length=n){j:Nat}(hj:j<n):atI (r.map D.int) (j:Int)=some (.int (r.getD j 0)):=by
 have hj':j<r.length:=by rw [h];exact hj
 exact wu (by rw [P9,D2,G1 hj'];rfl)
theorem Na (n:Nat)(f:Nat->Nat->Int):D.tup ((List.range n).map λi=>D.tup ((List.range n).map λj=>D.int (f i j)))=jC (mkT n f):=by
 unfold jC Zb mkT;rw [S0]
 congr 1
 apply S5;intro i _;simp [S0,K7]
theorem BM (T:List (List Int))(f:Int->Int):D.tup (T.map λr=>D.tup (r.map λx=>D.int (f x)))=jC (T.map λr=>r.map f):=by
 unfold jC Zb;rw [S0]
 congr 1
 apply S5;intro r _;simp [S0,K7]
theorem BN (h:Sq n e T):jB n T=T.map λr=>r.map λx=>if x≠0 then 1 else 0:=by
 conv=>rhs;rw [h.eq_mk]
 unfold jB mkT;rw [S0];apply S5;intro i _;simp only [B7,S0];apply S5;intro j _;simp only [B7]
 by_cases z:ent T i j=0
 ·rw [if_pos z,if_neg (by simpa using z)]
 ·rw [if_neg z,if_pos z]
theorem RD (h:Sq n e T)(h6:n<=6):(T.flatMap λr=>r).length<=1000:=by
 have: ∀U:List (List Int),(∀r∈U,r.length=n)->(U.flatMap λr=>r).length=U.length*n:=λU=>by
  induction U with
  |nil=>intro _;simp
  |cons r U ih=>
   intro hU;rw [V9,G7,ih λr hr=>hU r (D8 _ hr),hU r P8,D5,G0b];omega
 rw [this T h.row,h.len];have:=Nat.mul_le_mul h6 h6;omega
variable {U:List (List Int)}
theorem RE (h:Sq n e T):(T.map λr=>D.tup ((List.range n).map λj=>D.int (jH n λm=>r.getD m 0*ent U m j)))=(yf n T U).map Zb:=by
 conv=>lhs;rw [zR T [],h.len]
 unfold yf mkT;rw [S0,S0];apply S5;intro i _;simp only [B7,Zb,S0];rfl
theorem pow_add (h:Sq n e T)(hn:n<=8)(a:Nat): ∀b,zl n T (a+b)=yf n (zl n T a) (zl n T b)
 |0=>by rw [show zl n T 0=YZ n from rfl,Ry (h.pow hn a) hn];rfl
 |b+1=>by
  show yf n (zl n T (a+b)) T=yf n (zl n T a) (yf n (zl n T b) T);rw [pow_add h hn a b,mul_assoc (h.pow hn a) (h.pow hn b) h hn]
theorem Pj (h:Sq n e T)(hn:n<=8):zl n T 1=T:=XB h hn
theorem ZK (h:Sq n e T)(hn:n<=8)(b:Nat):zl n T (b+1)=yf n T (zl n T b):=by
 rw [G1f,pow_add h hn,Pj h hn]
variable {j:Nat}
theorem vA (hi:i<n)(hj:j<n):ent (vz n T) i j=ent T j i:=wm hi hj
variable {f:Nat}
theorem RF (h:Sq n e T)(g:Sq n f U)(hn:n<=8):vz n (yf n T U)=yf n (vz n U) (vz n T):=
 (h.mul g hn).turn.ext (g.turn.mul h.turn hn) λi j hi hj=>by
  rw [vA hi hj,zX hj hi,zX hi hj];exact jT λk hk=>by rw [vA hi hk,vA hk hj,G0R]
theorem RG (n:Nat):vz n (YZ n)=YZ n:=
 (Sq.one n).turn.ext (Sq.one n) λi j hi hj=>by
  rw [vA hi hj,YZ,wm hj hi,wm hi hj]
  by_cases e:i=j
  ·rw [if_pos e,if_pos e.symm]
  ·rw [if_neg e,if_neg (λz=>e z.symm)]
theorem XC (h:Sq n e T)(hn:n<=8): ∀k,vz n (zl n T k)=zl n (vz n T) k
 |0=>RG n
 |k+1=>by
  rw [ZK h hn,RF h (h.pow hn k) hn,XC h hn k];rfl
theorem RH {a b:List Int}(h:a.Perm b):a.sum=b.sum:=by
 induction h with
 |nil=>rfl
 |cons x _ ih=>simp [ih]
 |swap x y l=>simp;omega
 |trans _ _ i1 i2=>rw [i1,i2]
theorem Ordr.nodup (h:Ordr n o):o.Nodup:=h.symm.nodup W7
theorem Pk (h:Ordr n o)(f:Nat->Int):jH n (λm=>f (o.idxOf m))=jH n f:=by
 unfold jH;have h1:((List.range n).map λm=>f (o.idxOf m)).sum=(o.map λm=>f (o.idxOf m)).sum:=RH (h.symm.map _);have hl:=h.ord.len;have h2:(o.map λm=>f (o.idxOf m))=(List.range n).map f:=by
  apply G0F (by simp [hl]);intro i a b;simp only [List.getElem_map,G0d];rw [h.nodup.idxOf_getElem]
 rw [h1,h2]
theorem ZL (hi:i<n)(hj:j<n):ent (Va n o T) i j=ent T (o.idxOf i) (o.idxOf j):=wm hi hj
theorem BO (h : Sq n e T) (g : Sq n f U) (ho : Ordr n o) (hn : n ≤ 8) : Va n o (yf n T U) = yf n (Va n o T) (Va n o U) :=
  ((h.mul g hn).ren ho.ord).ext ((h.ren ho.ord).mul (g.ren ho.ord) hn) fun i j hi hj => by
    rw [ZL hi hj, zX (ho.ord.lt hi) (ho.ord.lt hj), zX hi hj, ← Pk ho]
    exact jT fun k hk => by rw [ZL hi hk, ZL hk hj]
theorem BP (ho:Ordr n o){i j:Nat}(hi:i<n)(hj:j<n)(e:o.idxOf i=o.idxOf j):i=j:=by
 have a:o.idxOf i<o.length:=by rw [ho.ord.len];exact ho.ord.lt hi
 have b:o.idxOf j<o.length:=by rw [ho.ord.len];exact ho.ord.lt hj
 have c:=J1 a;have d:=J1 b;rw [<-c,<-d];simp only [e]
theorem BQ (ho : Ordr n o) : Va n o (YZ n) = YZ n :=
  ((Sq.one n).ren ho.ord).ext (Sq.one n) fun i j hi hj => by
    rw [ZL hi hj, YZ, wm (ho.ord.lt hi) (ho.ord.lt hj), wm hi hj]
    by_cases e : i = j
    · rw [if_pos e, if_pos (by rw [e])]
    · rw [if_neg e, if_neg (fun z => e (BP ho hi hj z))]
theorem Pl (h:Sq n e T)(ho:Ordr n o)(hn:n<=8): ∀k,Va n o (zl n T k)=zl n (Va n o T) k
 |0=>BQ ho
 |k+1=>by
  show Va n o (yf n (zl n T k) T)=yf n (zl n (Va n o T) k) (Va n o T);rw [BO (h.pow hn k) h ho hn,Pl h ho hn k]
theorem RI (hi:i<n)(hj:j<n):ent (jB n T) i j=if ent T i j=0 then 0 else 1:=wm hi hj
theorem XD (h: ∀i j,i<n->j<n->(ent T i j=0↔ent U i j=0)):jB n T=jB n U:=XA λi j hi hj=>by
 by_cases z:ent T i j=0
 ·rw [if_pos z,if_pos ((h i j hi hj).mp z)]
 ·rw [if_neg z,if_neg (λw=>z ((h i j hi hj).mpr w))]
theorem zY (hi:i<n)(hj:j<n):ent (jB n T) i j=0↔ent T i j=0:=by
 rw [RI hi hj]
 by_cases z:ent T i j=0
 ·rw [if_pos z];simp [z]
 ·rw [if_neg z];simp [z]
theorem Vt (T:List (List Int)):jB n (jB n T)=jB n T:=XD λi j hi hj=>zY hi hj
theorem zH (h:Sq n e T)(g:Sq n f U)(hi:i<n)(hj:j<n):ent (yf n T U) i j≠0↔ ∃k,k<n/\ent T i k≠0/\ent U k j≠0:=by
 rw [zX hi hj];have nn: ∀k,k<n->0<=ent T i k*ent U k j:=λk hk=>Int.mul_nonneg (h.ent_nn hi hk).1 (g.ent_nn hk hj).1
 have s:=vy nn;have p:=Ph nn;constructor
 ·intro z;obtain⟨k,hk,w⟩:=p.mp (by omega);refine⟨k,hk,λq=> ?_,λq=> ?_⟩
  ·rw [q] at w;simp at w
  ·rw [q] at w;simp at w
 ·rintro ⟨k,hk,a,b⟩ z;have c:=(h.ent_nn hi hk).1;have d:=(g.ent_nn hk hj).1;have:0<ent T i k*ent U k j:=Int.mul_pos (by omega) (by omega);have:=p.mpr ⟨k,hk,this⟩;omega
theorem Zc (h:Sq n e T)(g:Sq n f U):jB n (yf n T U)=jB n (yf n (jB n T) (jB n U)):=
 XD λi j hi hj=>by
  have a:=zH h g hi hj;have b:=zH (Sq.mark (n:=n) T) (Sq.mark (n:=n) U) hi hj;have c:(∃k,k<n/\ent T i k≠0/\ent U k j≠0)↔ ∃k,k<n/\ent (jB n T) i k≠0/\ent (jB n U) k j≠0:=
   ⟨λ⟨k,hk,x,y⟩=>⟨k,hk,λz=>x ((zY hi hk).mp z),λz=>y ((zY hk hj).mp z)⟩,λ⟨k,hk,x,y⟩=>⟨k,hk,λz=>x ((zY hi hk).mpr z),λz=>y ((zY hk hj).mpr z)⟩⟩
  exact⟨λz=>A2 λw=>(a.mpr (c.mpr (b.mp w))) z,λz=>A2 λw=>(b.mpr (c.mp (a.mp w))) z⟩
theorem XE (h:Sq n e T)(hn:n<=8): ∀k,jB n (zl n T k)=jB n (zl n (jB n T) k)
 |0=>rfl
 |k+1=>by
  show jB n (yf n (zl n T k) T)=jB n (yf n (zl n (jB n T) k) (jB n T));rw [Zc (h.pow hn k) h,Zc ((Sq.mark (n:=n) T).pow hn k) (Sq.mark (n:=n) T),Vt,XE h hn k]
theorem vB (h:Sq n e T):zm T=true↔ ∀i j,i<n->j<n->ent T i j≠0:=by
 have h1:zm T=zm (mkT n (ent T)):=by rw [<-h.eq_mk]
 rw [h1,UB]
theorem Pm {a:Nat}(h:Sq n e T)(hn:n<=8)(ha:0<a)(f:zm (zl n T a)=true):zm (zl n T (a+1))=true:=by
 rw [vB (h.pow hn _)] at f ⊢;intro i j hi hj;obtain⟨b,rfl⟩: ∃b,a=b+1:=⟨a-1,by omega⟩;have z:=f i j hi hj;rw [ZK h hn b,zH h (h.pow hn b) hi hj] at z;obtain⟨k,hk,x,_⟩:=z;rw [ZK h hn (b+1),zH h (h.pow hn (b+1)) hi hj];exact⟨k,hk,x,f k j hk hj⟩
theorem UC {a:Nat}(h:Sq n e T)(hn:n<=8)(ha:0<a)(f:zm (zl n T a)=true): ∀b,zm (zl n T (a+b))=true
 |0=>f
 |b+1=>Pm (a:=a+b) h hn (by omega) (UC h hn ha f b)
section
variable {prog:Program}{w:World}{A:Around}{E:Value->Shared->Prop}{s:Shared}
variable {items:Array Value}
theorem Po {it t:Addr}{i n:Nat}{d1 d2:Option Addr}{s1 s2:Array (Option Value)}{P:PySem.Fin->Shared->Prop}(a1:s.heap.get? it=some {cls:= .type "tuple_iterator",dict:=d1,data:= .fields #[.ref t,.int i 0],slots:=s1})(a2:s.heap.get? t=some {cls:= .type "tuple",dict:=d2,data:= .seq items n,slots:=s2})
 (more: ∀x h',items[i]? =some x->h'.IsTupleIter it t (i+1)->Heap.SameBut it s.heap h'->P (.done (.ret x)) {s with heap:=h'})
 (none_:items[i]? =none->wpAny (model prog w) A (do setField (.ref it) 0 .none;Builtin.SmallTypes.stopIteration) P E s):wpAny (model prog w) A (Builtin.«tuple_iterator.__next__» ⟨[.ref it],[]⟩) P E s:=by
 obtain⟨hp,g,d,tk,os⟩:=s
 wp_walk
 rw [A9];cases hx:items[i]? with
 |none=>exact wpAny_bind (X5 (none_ hx))
 |some x=>
  refine wpAny_bind (wpAny_setField a1 rfl (by simp) (P1 (more x _ hx ⟨_,J7 _ a1 ?_,rfl,?_⟩ (Q8 ..))))
  ·rfl
  ·simp [Obj.mapFields,rawInt]
theorem UD {Q:PySem.Fin->Shared->Prop}(hh:A.handled=none)(hE: ∀h' e,(∀b o,s.heap.get? b=some o->h'.get? b=some o)->(∃o,h'.get? e=some o/\o.cls= .type "StopIteration")->E (.ref e) {s with heap:=h'}):wpAny (model prog w) A Builtin.SmallTypes.stopIteration Q E s:=by
 obtain⟨hp,g,d,tk,os⟩:=s;unfold Builtin.SmallTypes.stopIteration
 wp_walk
 unfold raiseNew;refine wpAny_bind (wpAny_handled ?_);rw [hh];exact wpAny_bind (P1 (wpAny_throw (hE _ _ (λb o q=>G3 _ (G3 _ q)) ⟨_,D9 _ rfl,rfl⟩)))
theorem WS {it t:Addr}{i:Nat}{x:Value}{Q:Value->Shared->Prop}(hit:s.heap.IsTupleIter it t i)(ht:s.heap.IsTuple t items)(hx:items[i]? =some x)
 (hQ: ∀h',h'.IsTupleIter it t (i+1)->Heap.SameBut it s.heap h'->Q x {s with heap:=h'}):wpAny (model prog w) A (Builtin.SmallTypes.nextOf (.ref it)) Q E s:=by
 obtain⟨⟨c,d1,dt,s1⟩,ho,rfl,rfl⟩:=id hit;obtain⟨⟨c2,d2,dt2,s2⟩,hol,rfl,nl,rfl⟩:=ht;exact wpAny_bind (C4 hit.typeIs O7 (B1 O7 hit.typeIs Y3 (Po ho hol (λy h' e b1 b2=>⟨y,rfl,P1 (by rw [hx] at e;cases e;exact hQ h' b1 b2)⟩) λe=>by rw [hx] at e;cases e) (X4 _)))
theorem yK {it t:Addr}{i:Nat}{Q:Value->Shared->Prop}(hh:A.handled=none)(hit:s.heap.IsTupleIter it t i)(ht:s.heap.IsTuple t items)(hx:items[i]? =none)
 (hE: ∀h' e,Heap.ExtBut it s.heap h'->(∃o,h'.get? e=some o/\o.cls= .type "StopIteration")->E (.ref e) {s with heap:=h'}):wpAny (model prog w) A (Builtin.SmallTypes.nextOf (.ref it)) Q E s:=by
 obtain⟨⟨c,d1,dt,s1⟩,ho,rfl,rfl⟩:=id hit;obtain⟨⟨c2,d2,dt2,s2⟩,hol,rfl,nl,rfl⟩:=ht;refine wpAny_bind (C4 hit.typeIs O7 (B1 O7 hit.typeIs Y3 (Po ho hol (λy h' e b1 b2=>by rw [hx] at e;cases e) λ_=>wpAny_bind (wpAny_setField ho rfl (by simp) ?_)) (X4 _)));exact UD (s:= {s with heap:=_}) hh λh' e grown stop=>hE h' e (λb o ne q=>grown b o ((Q8 ..).extBut b o ne q)) stop
end
section
variable {X:Cx}{pins:List (Addr×Obj)}{σ:List (Option V)}{H:Hp}{s:Shared}{h':Heap}
theorem Inv.turnL {t':Nat}{ch:List Addr}(I:Inv X pins σ H s)(k: ∀b o,b ∉ ch->s.heap.get? b=some o->h'.get? b=some o)(hc: ∀b∈ch,Gh X pins H b):Inv X pins σ H {s with heap:=h',toks:=t'}:=by
 refine I.step (g':=s.gens) (d':=s.drawn) (ch:=ch) (λb hb=>let ⟨_,f1,_,f3,f4,f5⟩:=hc b hb;⟨f3,f1,f4,f5⟩) (λb o _ _ nb e _=>k b o nb e) (λb o _ _ nb e _=>⟨o.slots,k b o nb e⟩) (λ_ _ _ _ n=>n)
  (λb o nb e=>⟨o,k b o nb e⟩) (λ_ _ e=>e) (λ_ _ _ e=>e) (λb ps e=>⟨#[],by rw [e];simp⟩) (λm hm=> ?_) (λb u e=> ?_) I.bare
 ·obtain⟨o,es,ep,ho,r⟩:=hm;exact⟨o,es,ep,k _ o (λz=>(hc _ z).2.1 rfl) ho,r⟩
 ·refine(I.hok b u e).stay (λc v hb q=>k c v (λz=> ?_) q) (λ_ q=>q) λ_ _ q=>q
  have f:=(hc c z).1;rcases hb with w|w
  ·rw [w,e] at f;cases f
  ·rw [w] at f;cases f
theorem Inv.turnLaid {t':Nat}{ch:List Addr}{a:Addr}{o:HO}(I:Inv X pins σ H s)(k: ∀b u,b ∉ ch->s.heap.get? b=some u->h'.get? b=some u)(hc: ∀b∈ch,Gh X pins H b)(hp:s.heap.objs.size<=a)
 (new:ObjOk X.prog X.w (upd H a o) h' a o):Inv X pins σ (upd H a o) {s with heap:=h',toks:=t'}:=by
 have hn:=I.hok.fresh hp;refine I.step (g':=s.gens) (d':=s.drawn) (ch:=ch) (λb hb=>let ⟨_,f1,_,f3,f4,f5⟩:=hc b hb;⟨f3,f1,f4,f5⟩) (λb u _ _ nb e _=>k b u nb e) (λb u _ _ nb e _=>⟨u.slots,k b u nb e⟩)
  (λb u _ e n=>by rw [jt (S1 (R8 (D3 e) hp))];exact n) (λb u nb e=>⟨u,k b u nb e⟩) (λb xs q=>by rw [jt (jl q hn)];exact q) (λb u xs q=>by rw [jt (jl q hn)];exact q)
  (λb ps q=>⟨#[],by rw [jt (jl q hn),q];simp⟩) (λm hm=> ?_) (λb u e=> ?_) I.bare
 ·obtain⟨u,es,ep,ho,r⟩:=hm;exact⟨u,es,ep,k _ u (λz=>(hc _ z).2.1 rfl) ho,r⟩
 ·by_cases hb:b=a
  ·subst hb;rw [jq] at e;cases e;exact new
  ·rw [jt hb] at e;refine(I.hok b u e).stay (λc v hb q=>k c v (λz=> ?_) q) (λc q=>by rw [jt (jl q hn)];exact q) λc xs q=>by rw [jt (jl q hn)];exact q
   have f:=(hc c z).1;rcases hb with w|w
   ·rw [w,e] at f;cases f
   ·rw [w] at f;cases f
end
def Pq (ds:List D):List D:=ds.zipIdx.map λp=> .tup [.int (p.2:Int),p.1]
theorem XF {ds:List D}{d:D}(h:(Pq ds)[i]? =some d): ∃x,ds[i]? =some x/\d= .tup [.int (i:Int),x]:=by
 unfold Pq at h;rw [P9,List.getElem?_zipIdx] at h;cases q:ds[i]? with
 |none=>rw [q] at h;cases h
 |some x=>
  rw [q] at h;refine⟨x,rfl,?_⟩;have h':some (D.tup [.int ((0+i:Nat):Int),x])=some d:=h;rw [L9] at h';exact(M7 h').symm
theorem yW (ds:List D):(Pq ds).length=ds.length:=by simp [Pq]
def Pr (c:TTD)(tb:TSD):TSD:=λD σ h=> ∃W:Nat->SD->HD->Prop,(∃m,W m σ h)/\ ∀m σ' h',W m σ' h'->c σ' h' λb h1=>
 if b=true then tb {D with nx:=λσ2 h2=> ∃m' h3,m'<m/\Sub h3 h2/\W m' σ2 h3,ct:=λσ2 h2=> ∃m' h3,m'<m/\Sub h3 h2/\W m' σ2 h3,bk:=D.nx} σ' h1 else D.nx σ' h1
theorem RJ {K:PySem.W.Frag}{c:TTD}{tb:TSD}: ∀D σ H,LS K (Pr c tb) D σ H->MQ (LT K c) (LS K tb) D σ H:=λD σ H ⟨σd,h,Dd,rs,rh,⟨W,⟨m0,w0⟩,turn⟩,nx,rt,bk,ct⟩=>by
 refine⟨λm σ' H'=>Kept H H'/\ ∃σd' h',RelS K H' σd' σ'/\RelH K h' H'/\W m σd' h',⟨m0,.refl _,σd,h,rs,rh,w0⟩,?_⟩;rintro m σ' H' ⟨kp,σd',h',rs',rh',w⟩;refine LT.bind rs' rh' (turn m σd' h' w) λb h1 H1 k1 rs1 rh1 q1=> ?_
 cases b with
 |false=>
  rw [if_neg P5] at q1 ⊢;exact nx _ _ _ _ (kp.trans k1) rs1 rh1 q1
 |true=>
  rw [if_pos rfl] at q1 ⊢;have kk:Kept H H1:=kp.trans k1;refine⟨λσ2 H2=>Kept H H2/\ ∃m',m'<m/\ ∃σd2 h2,RelS K H2 σd2 σ2/\RelH K h2 H2/\W m' σd2 h2,λσ2 H2 ⟨k2,m',hm,a,b,c,d,e⟩=>⟨m',hm,k2,a,b,c,d,e⟩,?_⟩;exact⟨σd',h1,_,rs1,rh1,q1,λa b c d k4 rs4 rh4 ⟨m',h4,hm,sb,w4⟩=>⟨kk.trans k4,m',hm,a,h4,rs4,rh4.sub sb,w4⟩,jG rt kk,λa b c d k4 rs4 rh4 q4=>nx a b c d (kk.trans k4) rs4 rh4 q4,λa b c d k4 rs4 rh4 ⟨m',h4,hm,sb,w4⟩=>⟨kk.trans k4,m',hm,a,h4,rs4,rh4.sub sb,w4⟩⟩
section
variable {X:Cx}{pos:Pos}
theorem Nb {c:Expr}{body:List Stmt}{tc:TTD}{tb:TSD}(hp:PassesOwn (model X.prog X.w) X.A X.env X.xe)(hc:JT X c tc)(hb:JSs X body tb):JS X (.While c body [] pos) (Pr tc tb):=⟨(DU hp hc.to hb.to).imp RJ⟩
end
theorem XG {c:TTD}{tb:TSD}{E:EndsD}{σ:SD}{h:HD}(W:Nat->SD->HD->Prop)(m:Nat)(w0:W m σ h)
 (turn: ∀m σ' h',W m σ' h'->c σ' h' λb h1=>if b=true then tb {E with nx:=λσ2 h2=> ∃m' h3,m'<m/\Sub h3 h2/\W m' σ2 h3,ct:=λσ2 h2=> ∃m' h3,m'<m/\Sub h3 h2/\W m' σ2 h3,bk:=E.nx} σ' h1 else E.nx σ' h1):Pr c tb E σ h:=⟨W,⟨m,w0⟩,turn⟩
def Off (W:List Addr)(h h':Heap):Prop:=h'.objs.size=h.objs.size/\ ∀b o,b ∉ W->h.get? b=some o->h'.get? b=some o
theorem Off.refl (W:List Addr)(h:Heap):Off W h h:=⟨rfl,λ_ _ _ e=>e⟩
theorem Off.of {c:Addr}{W:List Addr}{h h':Heap}(x:Heap.SameBut c h h')(m:c∈W):Off W h h':=⟨x.1,λb o n e=>x.extBut b o (λq=>n (q ▸ m)) e⟩
theorem Off.trans {W:List Addr}{h h' h'':Heap}(x:Off W h h')(y:Off W h' h''):Off W h h'':=⟨y.1.trans x.1,λb o n e=>y.2 b o n (x.2 b o n e)⟩
abbrev Ps (f0:Value)(b1:Bool)(TI TO:Addr):Obj:= {cls:= .type "zip",dict:=none,data:= .fields #[f0,.bool b1,.bool false,.ref TI,.ref TO],slots:= #[]}
def ZipAt (h:Heap)(z TI TO:Addr):Prop:= ∃f0 b1,h.get? z=some (Ps f0 b1 TI TO)/\(f0= .none\/ ∃a t,f0= .int a t)
theorem ZipAt.off {h h':Heap}{z TI TO:Addr}{W:List Addr}(Z:ZipAt h z TI TO)(o:Off W h h')(n:z ∉ W):ZipAt h' z TI TO:=let ⟨f,b,e,q⟩:=Z;⟨f,b,o.2 _ _ n e,q⟩
section
variable {prog:Program}{w:World}{A:Around}{E:Value->Shared->Prop}{s:Shared}{z TI TO i1 i2:Addr}
theorem RK {Q:Bool->Shared->Prop}(Z:ZipAt s.heap z TI TO)(k: ∀b h',ZipAt h' z TI TO->Off [z] s.heap h'->Q b {s with heap:=h'}):wpAny (model prog w) A (Builtin.SmallTypes.ownedTupleIsFree (.ref z)) Q E s:=by
 obtain⟨f0,b1,hz,hf⟩:=id Z;have stay:=λb=>k b s.heap Z (Off.refl _ _)
 rcases hf with rfl|⟨a,t,rfl⟩
 ·wp_walk
  exact stay true
 ·have read: ∀ {P:Option Obj->Shared->Prop} {E':Value->Shared->Prop},P (s.heap.get? a.toNat) s->wpAny (model prog w) A (loadIfAlive a.toNat) P E' s:=λp _ _ _=>p
  wp_walk using read
  cases s.heap.get? a.toNat with
  |none=>exact P1 (stay true)
  |some o=>
   wp_walk
   cases b1 with
   |true=>exact P1 (stay false)
   |false=>exact wpAny_bind <| wpAny_setField_rec hz (by simp) λh' z' same=>P1 (k false h' ⟨_,_,z',.inr ⟨a,t,rfl⟩⟩ (.of same (by simp)))
structure ZApart (z TI TO i1 i2:Addr):Prop where
 z1:z≠i1
 z2:z≠i2
 zO:z≠TO
 zI:z≠TI
 O1:TO≠i1
 O2:TO≠i2
 OI:TO≠TI
 I1:TI≠i1
 I2:TI≠i2
abbrev LZ (z:Addr)(h:Heap)(E:Value->Shared->Prop):Value->Shared->Prop:=λe s'=>(∀o,h.get? z=some o->s'.heap.get? z=some o)/\ ∀h',Heap.ExtBut z s'.heap h'->E e {s' with heap:=h'}
theorem Pt {Q:Value->Shared->Prop}(ap:ZApart z TI TO i1 i2)(Z:ZipAt s.heap z TI TO)(hTI:IsPair s.heap TI (.ref i1) (.ref i2))(hTO: ∃a b,IsPair s.heap TO a b)
 (go: ∀h₁,Off [z] s.heap h₁->(∃o,h₁.get? z=some o/\o.cls= .type "zip")->wpAny (model prog w) A (Builtin.SmallTypes.nextOf (.ref i1)) (λx s₁=>Off [i1] h₁ s₁.heap/\ ∀h₂,Off [TO] s₁.heap h₂->
  wpAny (model prog w) A (Builtin.SmallTypes.nextOf (.ref i2)) (λy s₂=>Off [i2] h₂ s₂.heap/\ ∀h₃,(∀b o,b ∉ [z,TO]->s₂.heap.get? b=some o->h₃.get? b=some o)->IsPair h₃ s₂.heap.objs.size x y->
   ZipAt h₃ z TI TO->IsPair h₃ TI (.ref i1) (.ref i2)->(∃a b,IsPair h₃ TO a b)->Q (.ref s₂.heap.objs.size) {s₂ with heap:=h₃}) (LZ z h₂ E) {s₁ with heap:=h₂}) (LZ z h₁ E) {s with heap:=h₁}):
 wpAny (model prog w) A (Builtin.«zip.__next__» ⟨[.ref z],[]⟩) (λfin s'=> ∃v,fin= .done (.ret v)/\Q v s') E s:=by
 obtain⟨f0,b1,hz,hf⟩:=id Z;have ask:=λ{P:Bool->Shared->Prop} {E':Value->Shared->Prop} (k: ∀b h',ZipAt h' z TI TO->Off [z] s.heap h'->P b {s with heap:=h'})=>RK (prog:=prog) (w:=w) (A:=A) (E:=E') Z k
 wp_walk using ask
 intro b h₀ Z₀ off₀;have I₀:=off₀.2 _ _ (by simp [ap.zI.symm]) hTI;obtain⟨a',b',O₀⟩: ∃a b,IsPair h₀ TO a b:=let ⟨a,b,e⟩:=hTO;⟨a,b,off₀.2 _ _ (by simp [ap.zO.symm]) e⟩;cases b with
 |false=>
  have d1:=go h₀ off₀ (let ⟨_,_,e,_⟩:=Z₀;⟨_,e,rfl⟩);rw [if_neg (by decide)];refine wpAny_bind ?_;rw [<-Array.forIn_toList];simp only [Y0,List.forIn_nil];refine wpAny_bind (wpAny_bind (C0 ?_));refine wpAny_bind (m:=Builtin.SmallTypes.nextOf (.ref i1)) (S3 d1 (λx s₁ d=>P1 (P1 ?_)) λe s' f=>f.2 s'.heap λ_ _ _ e=>e);obtain⟨o1,d2⟩:=d;refine wpAny_bind (wpAny_bind (C0 ?_));refine wpAny_bind (m:=Builtin.SmallTypes.nextOf (.ref i2)) (S3 (d2 s₁.heap (.refl _ _)) (λy s₂ d=>P1 (P1 (P1 ?_))) λe s' f=>f.2 s'.heap λ_ _ _ e=>e);obtain⟨o2,fin⟩:=d;show wpAny _ _ (newTuple [x,y] >>= _) _ _ _;have n1: ∀ {b},b≠i1->b ∉ [i1]:=λh=>by simpa using h
  have n2: ∀ {b},b≠i2->b ∉ [i2]:=λh=>by simpa using h
  have Z₂:=(Z₀.off o1 (n1 ap.z1)).off o2 (n2 ap.z2);have keep: ∀ {b o},b≠i1->b≠i2->h₀.get? b=some o->(s₂.heap.push {cls:= .type "tuple",data:= .seq #[x,y]}).get? b=some o:=λq1 q2 e=>G3 _ (o2.2 _ _ (n2 q2) (o1.2 _ _ (n1 q1) e))
  refine wpAny_bind (wpAny_newTuple (P1 ⟨_,rfl,fin _ (λb o _ e=>G3 _ e) (D9 _ rfl) ?_ (keep ap.I1 ap.I2 I₀) ⟨_,_,keep ap.O1 ap.O2 O₀⟩⟩));exact let ⟨f,b,e,q⟩:=Z₂;⟨f,b,G3 _ e,q⟩
 |true=>
  obtain⟨f0',b1',hz₀,_⟩:=Z₀;have note:=λ{P:Unit->Shared->Prop} {E':Value->Shared->Prop} (k: ∀h',h'.get? z=some (Ps .ellipsis b1' TI TO)->Heap.SameBut z h₀ h'->P () {s with heap:=h'})=>
   wpAny_setField_rec (prog:=prog) (w:=w) (A:=A) (E:=E') (s:= {s with heap:=h₀}) (k:=0) (x:= .ellipsis) hz₀ (by simp) k
  wp_walk using note
  intro h₁ z₁ same₁;have off₁:Off [z] s.heap h₁:=off₀.trans (.of same₁ (by simp));have O₁:=same₁.extBut _ _ ap.zO.symm O₀;have I₁:=same₁.extBut _ _ ap.zI.symm I₀;have fell: ∀ {h:Heap} {e:Value} {s':Shared},h.get? z=some (Ps .ellipsis b1' TI TO)->LZ z h E e s'->wpAny (model prog w) A (setField (.ref z) 0 .none) (λ_ s''=>E e s'') E s':=λhz' f=>
   wpAny_setField_rec (f.1 _ hz') (by simp) λh' _ same=>f.2 h' same.extBut
  have draw:=λ{P:Value->Shared->Prop} {E':Value->Shared->Prop} (k: ∀x s₁,_->P x s₁) (f: ∀e s',LZ z h₁ E e s'->E' e s')=>S3 (go h₁ off₁ ⟨_,z₁,rfl⟩) k f
  wp_walk using wpAny_onRaise,draw
  case f=>exact λe s' f=>fell z₁ f
  intro x s₁ ⟨o1,go2⟩;have z₂:=o1.2 _ _ (by simp [ap.z1]) z₁;have O₂:IsPair s₁.heap TO a' b':=o1.2 _ _ (by simp [ap.O1]) O₁;have I₂:=o1.2 _ _ (by simp [ap.I1]) I₁;have lay:=λ{P:Unit->Shared->Prop} {E':Value->Shared->Prop}=>wpAny_updateSeq_pair (prog:=prog) (w:=w) (A:=A) (E:=E') (s:=s₁) (k:=0) (x:=x) (Q:=P) O₂
  wp_walk using lay
  intro h₂ O₃ same₂
  replace O₃:IsPair h₂ TO x b':=O₃
  have z₃:=same₂.extBut _ _ ap.zO z₂;have I₃:=same₂.extBut _ _ ap.OI.symm I₂;have draw2:=λ{P:Value->Shared->Prop} {E':Value->Shared->Prop} (k: ∀y s₂,_->P y s₂) (f: ∀e s',LZ z h₂ E e s'->E' e s')=>S3 (go2 h₂ (.of same₂ (by simp))) k f
  wp_walk using wpAny_onRaise,draw2
  case f=>exact λe s' f=>fell z₃ f
  intro y s₂ ⟨o2,fin⟩;have z₄:=o2.2 _ _ (by simp [ap.z2]) z₃;have O₄:IsPair s₂.heap TO x b':=o2.2 _ _ (by simp [ap.O2]) O₃;have I₄:=o2.2 _ _ (by simp [ap.I2]) I₃;have lay2:=λ{P:Unit->Shared->Prop} {E':Value->Shared->Prop}=>wpAny_updateSeq_pair (prog:=prog) (w:=w) (A:=A) (E:=E') (s:=s₂) (k:=1) (x:=y) (Q:=P) O₄
  wp_walk using lay2
  intro h₄ O₅ same₃
  replace O₅:IsPair h₄ TO x y:=O₅
  have z₅:=same₃.extBut _ _ ap.zO z₄;have I₅:=same₃.extBut _ _ ap.OI.symm I₄
  wp_walk
  have size:h₄.objs.size=s₂.heap.objs.size:=same₃.1;have zp:=G3 {cls:= .type "tuple",data:= .seq #[x,y]} z₅;have zu:=J7 (Obj.mapFields λv=>v.setIfInBounds 0 (rawInt h₄.objs.size)) zp rfl;have zu':=J7 (Obj.mapFields λv=>v.setIfInBounds 1 (Value.bool false)) zu rfl;have away: ∀ {b o},b≠z->(h₄.push {cls:= .type "tuple",data:= .seq #[x,y]}).get? b=some o->
   (((h₄.push {cls:= .type "tuple",data:= .seq #[x,y]}).update z (Obj.mapFields λv=>v.setIfInBounds 0 (rawInt h₄.objs.size))).update z (Obj.mapFields λv=>v.setIfInBounds 1 (Value.bool false))).get? b=some o:=λn e=>
   (Q8 ..).extBut _ _ n ((Q8 ..).extBut _ _ n e)
  have new:=away (b:=h₄.objs.size) (λq=>N3 _ (q ▸ D3 z₅)) (D9 _ rfl);refine⟨_,rfl,?_⟩;have done:=fin _ (λb o n e=>away (λq=>n (by simp [q])) (G3 _ (same₃.extBut _ _ (λq=>n (by simp [q])) e))) (size ▸ new) ⟨_,_,zu',.inr ⟨_,_,rfl⟩⟩ (away ap.zI.symm (G3 _ I₅)) ⟨_,_,away ap.zO.symm (G3 _ O₅)⟩;rw [<-size] at done;exact done
theorem BR {tg : Expr} {v : Value} {Q : Unit → Shared → Prop} (Z : ZipAt s.heap z TI TO) (k : ∀ h', ZipAt h' z TI TO → Off [z] s.heap h' → Q () { s with heap := h' }) : wpAny (model prog w) A (letOwnedTupleGo tg (.ref z) v) Q E s := by
  obtain ⟨f0, b1, hz, hf⟩ := id Z
  have stay := k s.heap Z (.refl _ _)
  have gone : wpAny (model prog w) A (updateField z 0 .none) Q E s := wpAny_setField_rec (k := 0) (x := .none) hz (by simp) fun h' z' same => k h' ⟨_, _, z', .inl rfl⟩ (.of same (by simp))
  unfold letOwnedTupleGo
  cases tg <;> first
    | exact P1 stay
    | (cases v <;> wp_walk <;> first
        | exact stay
        | (split
           · exact wpAny_bind (X5 gone)
           · exact P1 stay))
theorem RL {Q:Option Value->Shared->Prop}(Z:ZipAt s.heap z TI TO)
 (h:wpAny (model prog w) A.in1 (Builtin.«zip.__next__» ⟨[.ref z],[]⟩) (λfin s'=> ∃v,fin= .done (.ret v)/\Q (some v) s') (λe s'=>s'.TypeIs e "StopIteration" /\Q none s') s):wpAny (model prog w) A (pyNext (.ref z)) Q E s:=by
 obtain⟨_,_,hz,_⟩:=Z;have ty:s.TypeIs (.ref z) "zip" :=⟨_,hz,rfl⟩;have asked:=B1 F.slot_zip_next ty F.entry_zip_next h (F.args_zip_next_1 _);exact wpAny_bind (wpAny_attempt (C4 (name:= "__next__") ty F.slot_zip_next (S3 asked (λ_ _ q=>P1 q) λe s' q=>wpAny_bind (wpAny_isInstance (b:=true) q.1 isSubtype_stop (P1 q.2)))))
theorem RM {l1 l2:Addr}{xs ys:Array Value}{P:PySem.Fin->Shared->Prop}(t1:s.heap.IsTuple l1 xs)(t2:s.heap.IsTuple l2 ys)
 (h: ∀h' n,n=s.heap.objs.size->ZipAt h' (n+4) (n+2) (n+3)->IsPair h' (n+2) (.ref n) (.ref (n+1))->(∃a b,IsPair h' (n+3) a b)->h'.IsTupleIter n l1 0->h'.IsTupleIter (n+1) l2 0->
  (∀b o,s.heap.get? b=some o->h'.get? b=some o)->P (.done (.ret (.ref (n+4)))) {s with heap:=h'}):
 wpAny (model prog w) A (Builtin.«zip.__new__» ⟨[.type "zip",.ref l1,.ref l2],[]⟩) P E s:=by
 have fine:=sub_zip;obtain⟨hp,g,d,tk,os⟩:=s;have first:Heap.IsTuple (Shared.heap ⟨hp,g,d,tk,os⟩) l1 xs:=t1
 have second: ∀o,Heap.IsTuple (Shared.heap ⟨hp.push o,g,d,tk,os⟩) l2 ys:=λo=>Heap.IsTuple.push t2 o
 wp_walk using G0c first,G0c (second _)
 have size: ∀ (q:Heap) o,(q.push o).objs.size=q.objs.size+1:=λq o=>G0h ..
 have n2: ∀o1 o2,((hp.push o1).push o2).objs.size=hp.objs.size+2:=λ_ _=>by rw [size,size]
 have n3: ∀o1 o2 o3,(((hp.push o1).push o2).push o3).objs.size=hp.objs.size+3:=λ_ _ _=>by rw [size,n2]
 have n4: ∀o1 o2 o3 o4,((((hp.push o1).push o2).push o3).push o4).objs.size=hp.objs.size+4:=λ_ _ _ _=>by rw [size,n3]
 have up: ∀ {q:Heap} {b o} o',q.get? b=some o->(q.push o').get? b=some o:=λo' e=>G3 o' e
 show P (.done (.ret (.ref (Heap.objs (((((hp.push _).push _).push _).push _))).size))) _;rw [n4];have at1:=D9 (hp.push {cls:= .type "tuple_iterator",data:= .fields #[.ref l1,.int 0 0]}) (o:= {cls:= .type "tuple_iterator",data:= .fields #[.ref l2,.int 0 0]}) rfl;rw [size] at at1;have top: ∀ (q:Heap) (o:Obj) (m:Nat),q.objs.size=m->o.isFreed=false->(q.push o).get? m=some o:=λq o m e f=>e ▸ D9 q f
 refine h _ hp.objs.size rfl ⟨.none,false,(top _ _ _ (n4 ..) rfl).trans ?_,.inl rfl⟩ ((up _ (up _ (top _ _ _ (n2 ..) rfl))).trans ?_) ⟨.none,.none,up _ (top _ _ _ (n3 ..) rfl)⟩ ⟨_,up _ (up _ (up _ (up _ (D9 _ rfl)))),rfl,rfl⟩ ⟨_,up _ (up _ (up _ at1)),rfl,rfl⟩ λb o e=>up _ (up _ (up _ (up _ (up _ e))))
 ·simp only [size,E8];rfl
 ·simp only [size];rfl
theorem UE {T newId initId:String}{pos:List Value}{kw:List (Str×Value)}{Made:Value->Shared->Prop}{Q:Value->Shared->Prop}(ft:TypeCalled T newId initId)(fits:checkTypeCall T ⟨pos,kw⟩=pure ())
 (made:wpAny (model prog w) A.in1 (call (.builtin newId) (.type T::pos) kw) Made E s)
 (begun: ∀o s₁,Made o s₁->s₁.TypeIs o T/\wpAny (model prog w) A.in1 (callSpecial? o "__init__" pos kw) (λr s₂=>r=some .none/\Q o s₂) E s₁):
 wpAny (model prog w) A (call (.type T) pos kw) Q E s:=by
 have f1:=ft.notType;have f2:=ft.canCreate;have f3:=ft.made;have f4:=ft.sub;obtain⟨_,_,f5⟩:=ft.mro;have first:=λ{Q':Value->Shared->Prop} (k: ∀o s₁,Made o s₁->Q' o s₁)=>S3 (E':=E) made k λ_ _ z=>z
 refine wpAny_call (codeAny_of_tree (P1 ⟨Code.quiet_builtin _ (by decide +kernel),U8 F.entry_type_call ?_⟩));rw [Around.under_plain (weight_type_call_type T pos kw) (units_type_call_type T pos kw)]
 wp_walk using first
 intro o s₁ m;obtain⟨ty,then_⟩:=begun o s₁ m;refine wpAny_bind (wpAny_isInstance (b:=true) ty f4 (wpAny_bind (C0 (S3 then_ (λr s₂ q=> ?_) λ_ _ z=>z))));obtain⟨rfl,q⟩:=q;exact P1 q
theorem Vu {T newId:String}{o:Value}{pos:List Value}{kw:List (Str×Value)}{Q:Option Value->Shared->Prop}(ft:TypeCalled T newId "object.__init__")(other:(some newId !=some "object.__new__")=true)(ty:s.TypeIs o T)
 (fits:argsOk "object.__init__" ⟨o::pos,kw⟩)(q:Q (some .none) s):wpAny (model prog w) A (callSpecial? o "__init__" pos kw) Q E s:=by
 have f1:=ft.init.lookup;have f2:=ft.made;refine C4 ty ft.init (wpAny_call_entry_kw ft.init ty F.entry_object_init ?_ fits);cases e:(!pos.isEmpty|| !kw.isEmpty)<;>(wp_walk;exact⟨_,rfl,q⟩)
theorem Vv {l1 l2:Addr}{xs ys:Array Value}{Q:Value->Shared->Prop}(t1:s.heap.IsTuple l1 xs)(t2:s.heap.IsTuple l2 ys)
 (h: ∀h' n,n=s.heap.objs.size->ZipAt h' (n+4) (n+2) (n+3)->IsPair h' (n+2) (.ref n) (.ref (n+1))->(∃a b,IsPair h' (n+3) a b)->h'.IsTupleIter n l1 0->h'.IsTupleIter (n+1) l2 0->
  (∀b o,s.heap.get? b=some o->h'.get? b=some o)->Q (.ref (n+4)) {s with heap:=h'}):wpAny (model prog w) A (call (.type "zip") [.ref l1,.ref l2]) Q E s:=
 UE (Made:=λo s₁=>s₁.TypeIs o "zip" /\Q o s₁) F.called_zip (F.typeCall_zip_2 _ _)
  (wpAny_call (codeAny_call_builtin F.called_zip.plain F.entry_zip_new (wpAny_of_eq (F.newCall_zip_2 _ _) (RM t1 t2 λh' n en zp i o a b k=>⟨let ⟨_,_,e,_⟩:=zp;⟨_,e,rfl⟩,h h' n en zp i o a b k⟩))))
  λ_ _ ⟨ty,q⟩=>⟨ty,Vu F.called_zip (by decide) ty (F.args_object_init_3 _ _ _) ⟨rfl,q⟩⟩
end
def Itz (K : PySem.W.Frag) (a b : Addr) : It :=
  ⟨fun i H => ∃ xs ys x y, SqT K H a xs ∧ SqT K H b ys ∧ xs[i]? = some x ∧ ys[i]? = some y,
   fun i H x H' => ∃ p v u, H p = none ∧ (∀ xs, SqT K H a xs → xs[i]? = some v) ∧ (∀ ys, SqT K H b ys → ys[i]? = some u) ∧ x = .ref p ∧ H' = upd H p (.tup [v, u]),
   fun i H => ∃ xs ys, SqT K H a xs ∧ SqT K H b ys ∧ (xs.length ≤ i ∨ ys.length ≤ i)⟩
theorem Vw {prog:Program}{w:World}{A:Around}{Q:Option Value->Shared->Prop}{E:Value->Shared->Prop}{s:Shared}{z TI TO i1 i2 l1 l2:Addr}{xs ys:Array Value}(calm:A.handled=none)(ap:ZApart z TI TO i1 i2)(n1:l1 ∉ [z,TO,i1,i2])(n2:l2 ∉ [z,TO,i1,i2])(i12:i1≠i2)
 (Z:ZipAt s.heap z TI TO)(hTI:IsPair s.heap TI (.ref i1) (.ref i2))(hTO: ∃a b,IsPair s.heap TO a b)(t1:s.heap.IsTuple l1 xs)(t2:s.heap.IsTuple l2 ys)(at1:s.heap.IsTupleIter i1 l1 i)(at2:s.heap.IsTupleIter i2 l2 i)
 (pair: ∀x y h' tk,xs[i]? =some x->ys[i]? =some y->(∀b o,b ∉ [z,TO,i1,i2]->s.heap.get? b=some o->h'.get? b=some o)->IsPair h' s.heap.objs.size x y->ZipAt h' z TI TO->IsPair h' TI (.ref i1) (.ref i2)->(∃a b,IsPair h' TO a b)->
  h'.IsTupleIter i1 l1 (i+1)->h'.IsTupleIter i2 l2 (i+1)->Q (some (.ref s.heap.objs.size)) {s with heap:=h',toks:=tk})
 (ended:(xs.size<=i\/ys.size<=i)-> ∀h' tk,(∀b o,b ∉ [z,TO,i1,i2]->s.heap.get? b=some o->h'.get? b=some o)->Q none {s with heap:=h',toks:=tk}):wpAny (model prog w) A (pyNext (.ref z)) Q E s:=by
 have sub: ∀ {b:Addr} {W:List Addr},b ∉ [z,TO,i1,i2]->(∀c∈W,c∈ [z,TO,i1,i2])->b ∉ W:=λn m q=>n (m _ q)
 have z': ∀c∈ [z],c∈ [z,TO,i1,i2]:=by simp
 have o': ∀c∈ [TO],c∈ [z,TO,i1,i2]:=by simp
 have a': ∀c∈ [i1],c∈ [z,TO,i1,i2]:=by simp
 have b': ∀c∈ [i2],c∈ [z,TO,i1,i2]:=by simp
 have zo: ∀c∈ [z,TO],c∈ [z,TO,i1,i2]:=by simp
 refine RL Z (Pt ap Z hTI hTO λh₁ off₁ isz=> ?_);have u1:h₁.IsTuple l1 xs:=t1.at λo e=>off₁.2 _ _ (sub n1 z') e
 have v1:h₁.IsTupleIter i1 l1 i:=at1.at λo e=>off₁.2 _ _ (by simp [ap.z1.symm]) e
 have stop: ∀ {h h':Heap} {it e:Addr},z≠it->Heap.ExtBut it h h'->(∃o,h.get? z=some o/\o.cls= .type "zip")->(∃o,h'.get? e=some o/\o.cls= .type "StopIteration")->e≠z:=λnz x ⟨o,e1,c1⟩ ⟨o2,e2,c2⟩ q=>by
  subst q;rw [x _ _ nz e1] at e2;cases e2;rw [c1] at c2;simp at c2
 cases hx:xs[i]? with
 |none=>
  refine yK (s:= {s with heap:=h₁}) calm v1 u1 hx λh' e grown st=>⟨λo q=>grown _ _ ap.z1 q,λh2 k=>⟨?_,ended (.inl (Z5.mp hx)) _ _ λb o n q=>k _ _ (λy=>sub n z' (by simp [y])) (grown _ _ (λy=>sub n a' (by simp [y])) (off₁.2 _ _ (sub n z') q))⟩⟩
  have ne:=stop ap.z1 grown isz st;obtain⟨o,q,c⟩:=st;exact⟨o,k _ _ ne q,c⟩
 |some x=>
  refine WS (s:= {s with heap:=h₁}) v1 u1 hx λh1' w1 same₁=>⟨.of same₁ (by simp),λh₂ off₂=> ?_⟩
  have all: ∀ {b o},b ∉ [z,TO,i1,i2]->s.heap.get? b=some o->h₂.get? b=some o:=λn e=>off₂.2 _ _ (sub n o') (same₁.extBut _ _ (λy=>sub n a' (by simp [y])) (off₁.2 _ _ (sub n z') e))
  have u2:h₂.IsTuple l2 ys:=t2.at λo e=>all n2 e
  have v2:h₂.IsTupleIter i2 l2 i:=at2.at λo e=>off₂.2 _ _ (by simp [ap.O2.symm]) (same₁.extBut _ _ i12.symm (off₁.2 _ _ (by simp [ap.z2.symm]) e))
  have w2:h₂.IsTupleIter i1 l1 (i+1):=w1.at λo e=>off₂.2 _ _ (by simp [ap.O1.symm]) e
  have isz2: ∃o,h₂.get? z=some o/\o.cls= .type "zip" :=let ⟨o,e,c⟩:=isz;⟨o,off₂.2 _ _ (by simp [ap.zO]) (same₁.extBut _ _ ap.z1 e),c⟩;cases hy:ys[i]? with
  |none=>
   refine yK (s:= {s with heap:=h₂}) calm v2 u2 hy λh' e grown st=>⟨λo q=>grown _ _ ap.z2 q,λh3 k=>⟨?_,ended (.inr (Z5.mp hy)) _ _ λb o n q=>k _ _ (λy=>sub n z' (by simp [y])) (grown _ _ (λy=>sub n b' (by simp [y])) (all n q))⟩⟩
   have ne:=stop ap.z2 grown isz2 st;obtain⟨o,q,c⟩:=st;exact⟨o,k _ _ ne q,c⟩
  |some y=>
   refine WS (s:= {s with heap:=h₂}) v2 u2 hy λh2' w3 same₂=>⟨.of same₂ (by simp),λh₃ kept new zip its out=> ?_⟩
   have size:h2'.objs.size=s.heap.objs.size:=by rw [same₂.1,off₂.1,same₁.1,off₁.1]
   have done:=pair x y h₃ s.toks hx hy (λb o n e=>kept _ _ (sub n zo) (same₂.extBut _ _ (λy=>sub n b' (by simp [y])) (all n e))) (size ▸ new) zip its out
    (w2.at λo e=>kept _ _ (by simp [ap.z1.symm,ap.O1.symm]) (same₂.extBut _ _ i12 e)) (w3.at λo e=>kept _ _ (by simp [ap.z2.symm,ap.O2.symm]) e)
   rw [<-size] at done;exact done
theorem QB (n:Nat):ZApart (n+4) (n+2) (n+3) n (n+1):=by
 have d: ∀ {i j:Nat},i≠j->n+i≠n+j:=λh q=>h (Nat.add_left_cancel q)
 exact⟨d (j:=0) (by decide),d (by decide),d (by decide),d (by decide),d (j:=0) (by decide),d (by decide),d (by decide),d (j:=0) (by decide),d (by decide)⟩
theorem Vx {c:Nat}(h:c<n):c ∉ [n+4,n+3,n,n+1]:=by
 simp only [R5,N8,G0y,not_or];omega
theorem RN {c:Nat}(h:c∈ [n+4,n+2,n+3,n,n+1]):n<=c:=by
 simp only [R5,N8,G0y] at h;omega
theorem XH {prog:Program}{w:World}{A:Around}{E:Value->Shared->Prop}{s:Shared}{z TI TO:Addr}{Q:Value->Shared->Prop}(Z:ZipAt s.heap z TI TO)(h:Q (.ref z) s):wpAny (model prog w) A (pyIter (.ref z)) Q E s:=by
 obtain⟨_,_,hz,_⟩:=Z;have ty:s.TypeIs (.ref z) "zip" :=⟨_,hz,rfl⟩;exact wpAny_pyIter_slot ty F.slot_zip_iter (B1 F.slot_zip_iter ty F.entry_zip_iter (P1 ⟨_,rfl,_,_,ty,F.slot_zip_next.lookup,h⟩) (F.args_zip_iter_1 _))
theorem RO {P:Program}{w:World}{K:PySem.W.Frag}(tg:Expr)(l1 l2 z TI TO i1 i2:Addr)(ap:ZApart z TI TO i1 i2)(n1:l1 ∉ [z,TO,i1,i2])(n2:l2 ∉ [z,TO,i1,i2])(i12:i1≠i2):
 Turn P w K tg (Itz K l1 l2) [z,TI,TO,i1,i2] z (λi h=>ZipAt h z TI TO/\IsPair h TI (.ref i1) (.ref i2)/\(∃a b,IsPair h TO a b)/\h.IsTupleIter i1 l1 i/\h.IsTupleIter i2 l2 i):=by
 have inW: ∀ {b:Addr},b ∉ [z,TI,TO,i1,i2]->b ∉ [z,TO,i1,i2]:=λn q=>n (by simp only [R5] at q ⊢;rcases q with q|q|q|q|q<;>simp [q] at*)
 have there: ∀ {i:Nat} {h:Heap},(ZipAt h z TI TO/\IsPair h TI (.ref i1) (.ref i2)/\(∃a b,IsPair h TO a b)/\h.IsTupleIter i1 l1 i/\h.IsTupleIter i2 l2 i)-> ∀b∈ [z,TI,TO,i1,i2],∃o,h.get? b=some o/\ ∀v,o.data≠ .cell v:=λ⟨⟨_,_,a1,_⟩,a2,⟨_,_,a3⟩,⟨o4,a4,_,d4⟩,⟨o5,a5,_,d5⟩⟩ b hb=>by
  simp only [R5,N8,G0y] at hb;rcases hb with e|e|e|e|e<;>subst e
  ·exact⟨_,a1,λv z=>by cases z⟩
  ·exact⟨_,a2,λv z=>by cases z⟩
  ·exact⟨_,a3,λv z=>by cases z⟩
  ·exact⟨o4,a4,λv z=>by rw [d4] at z;cases z⟩
  ·exact⟨o5,a5,λv z=>by rw [d5] at z;cases z⟩
 refine⟨by simp,λi h st=>there st,λi h h' ⟨⟨f,b,a1,qf⟩,a2,⟨x,y,a3⟩,a4,a5⟩ q=>⟨⟨f,b,q z (by simp) _ a1,qf⟩,q TI (by simp) _ a2,⟨x,y,q TO (by simp) _ a3⟩,a4.at λo e=>q i1 (by simp) o e,a5.at λo e=>q i2 (by simp) o e⟩,?_,?_,λ_ _ _ _ _ st h=>XH st.1 h⟩
 ·intro X hP hw hK hc i pins s σ H E I hf st hg;subst hP hw hK;obtain⟨xs,ys,x,y,hq,hq2,hx,hy⟩:=hg;obtain⟨its,rv,p,_⟩:=I.tuple hq;obtain⟨jts,rw',p2,_⟩:=I.tuple hq2;obtain⟨u,hu,ru⟩:=rv.get hx;obtain⟨v,hv,rv'⟩:=rw'.get hy;obtain⟨a1,a2,a3,a4,a5⟩:=id st;have lt: ∀b∈ [z,TI,TO,i1,i2],b≠s.heap.objs.size:=λb hb=>let ⟨_,e,_⟩:=there st b hb;S1 (D3 e)
  have l1':i<its.toArray.size:=by have:=(G5.mp hu).1;simpa using this
  have l2':i<jts.toArray.size:=by have:=(G5.mp hv).1;simpa using this
  refine Vw (I.ok.hd hc) ap n1 n2 i12 a1 a2 a3 p p2 a4 a5 (λx' y' h' tk hx' hy' kept new zip it out w1 w2=>⟨_,rfl,?_⟩) λends=>absurd ends (by omega)
  have ex:x'=u:=by simp only [G0S] at hx';rw [hu] at hx';cases hx';rfl
  have ey:y'=v:=by simp only [G0S] at hy';rw [hv] at hy';cases hy';rfl
  subst ex ey;refine BR (s:= {s with heap:=h',toks:=tk}) zip λh2 zip2 off=> ?_
  have hn:H s.heap.objs.size=none:=I.hok.fresh (G6 _);have nz: ∀ {b},b≠z->b ∉ [z]:=λh=>by simpa using h
  have T2:IsPair h2 s.heap.objs.size x' y':=off.2 _ _ (nz (lt z (by simp)).symm) new;refine⟨.ref s.heap.objs.size,upd H s.heap.objs.size (.tup [x,y]),?_,rfl,⟨_,x,y,hn,λws hw=>by rw [I.tuple_inj hw hq];exact hx,λws hw=>by rw [I.tuple_inj hw hq2];exact hy,rfl,rfl⟩,
   ⟨zip2,off.2 _ _ (nz ap.zI.symm) it,let ⟨a,b,e⟩:=out;⟨a,b,off.2 _ _ (nz ap.zO.symm) e⟩,w1.at λo e=>off.2 _ _ (nz ap.z1.symm) e,w2.at λo e=>off.2 _ _ (nz ap.z2.symm) e⟩,λb hb=> ?_⟩
  ·refine I.turnLaid (h':=h2) (t':=tk) (ch:= [z,TI,TO,i1,i2]) (λb u hb q=>off.2 _ _ (λy=>inW hb (by simp only [G2] at y;simp [y])) (kept b u (inW hb) q)) hf (G6 _) ⟨by show 2<=sizeLine;decide,[x',y'],.cons ru (.cons rv' .nil),⟨_,T2,rfl,rfl,_,rfl⟩⟩
  ·rw [jt (lt b hb)];exact(hf b hb).1
 ·intro X hP hw hK hc i pins s σ H E I hf st hg;subst hP hw hK;obtain⟨xs,ys,hq,hq2,hl⟩:=hg;obtain⟨its,rv,p,_⟩:=I.tuple hq;obtain⟨jts,rw',p2,_⟩:=I.tuple hq2;have e1:=rv.length;have e2:=rw'.length;obtain⟨a1,a2,a3,a4,a5⟩:=id st;refine Vw (I.ok.hd hc) ap n1 n2 i12 a1 a2 a3 p p2 a4 a5 (λx' y' h' tk hx' hy' _ _ _ _ _ _ _=> ?_) λ_ h' tk kept=>⟨rfl,I.turnL (ch:= [z,TI,TO,i1,i2]) (λb o hb q=>kept b o (inW hb) q) hf⟩
  have b1:=(Z6.mp hx').1;have b2:=(Z6.mp hy').1;simp only [P4] at b1 b2;omega
section
variable {X:Cx}
def EX (K:PySem.W.Frag)(ta:TA):TI:=λσ H R=>ta σ H λvs H1=> ∃a b,vs= [.ref a,.ref b]/\(∃xs,SqT K H1 a xs)/\(∃ys,SqT K H1 b ys)/\R (Itz K a b) H1
theorem Oa {tg:Expr}{a b:Expr}{ta:TA}{p pos:Pos}(hg:Gl X "zip")(hm:X.mg "zip" =none)(ha:PA X [a,b] ta)(hs:starEach [a,b] X.env= [(false,eval a X.env),(false,eval b X.env)]:=by rfl)(hs2:starEach [b] X.env= [(false,eval b X.env)]:=by rfl):
 PI X tg (.Call (.Name "zip" p) [a,b] [] pos) (EX X.K ta):=by
 intro pins s σ H R I h;refine Call_ (Zk I hg hm boot_zip (C1 (thn (ha pos pins s σ H _ I h) λus s1 ⟨vs,H1,I1,r1,q1⟩=> ?_) (by rw [hs,hs2]) (by rw [hs2];rfl)));obtain⟨a,b,e,⟨xs,hq⟩,⟨ys,hq2⟩,q⟩:=q1;subst e;cases r1 with
 |cons r rr=>
  cases rr with
  |cons r' rr=>
   cases rr;cases r;cases r';obtain⟨its,rv,p,_⟩:=I1.tuple hq;obtain⟨jts,rw',p2,_⟩:=I1.tuple hq2;have la:a<s1.heap.objs.size:=by obtain⟨o,ho,_⟩:=p;exact D3 ho
   have lb:b<s1.heap.objs.size:=by obtain⟨o,ho,_⟩:=p2;exact D3 ho
   refine Vv (show s1.heap.IsTuple a its.toArray from p) (show s1.heap.IsTuple b jts.toArray from p2) λh' n en z1 z2 z3 z4 z5 hk=> ?_
   subst en;refine XH z1 ⟨s1.heap.objs.size+4,[s1.heap.objs.size+4,s1.heap.objs.size+2,s1.heap.objs.size+3,s1.heap.objs.size,s1.heap.objs.size+1],_,_,H1,rfl,I1.kept (t':=s1.toks) hk,
    RO _ a b _ _ _ _ _ (QB _) (Vx la) (Vx lb) (S1 (L6 _)),⟨z1,z2,z3,z4,z5⟩,λc hc=> ?_,q⟩
   have hb':s1.heap.objs.size<=c:=RN hc;exact I1.fpOk hb' (I1.hok.fresh hb')
end
def Nc (ds es:List D):List D:=(ds.zip es).map λp=> .tup [p.1,p.2]
def iZ (ta:TAD):TID:=λσ h R=>ta σ h λxs h1=> ∃ds es,xs= [.tup ds,.tup es]/\R (λ_=>some (Nc ds es)) h1
theorem RQ {ds es:List D}{d:D}(h:(Nc ds es)[i]? =some d): ∃x y,ds[i]? =some x/\es[i]? =some y/\d= .tup [x,y]:=by
 unfold Nc at h;rw [P9] at h;cases q:(ds.zip es)[i]? with
 |none=>rw [q] at h;cases h
 |some p=>
  rw [q] at h;obtain⟨x,y⟩:=p;rw [List.getElem?_zip_eq_some] at q;exact⟨x,y,q.1,q.2,(M7 h).symm⟩
section
variable {K:PySem.W.Frag}
theorem RR {H:Hp}{a b:Addr}{vs us:List V}{ds es:List D}(hv:H a=some (.tup vs))(r:RelDs K H ds vs)(hu:H b=some (.tup us))(ru:RelDs K H es us):Bf K H (λ_=>some (Nc ds es)) (Itz K a b):=λH' h' k rh ds' e i=>by
 cases e;have hv':=k.tup _ _ hv;have hu':=k.tup _ _ hu;have r':=r.mono k;have ru':=ru.mono k;refine⟨λd hd=> ?_,λhl=>⟨vs,us,SqT.of hv',SqT.of hu',?_⟩⟩
 ·obtain⟨x,y,hx,hy,ed⟩:=RQ hd;subst ed;obtain⟨v,e1,e2⟩:=r'.get hx;obtain⟨u,e3,e4⟩:=ru'.get hy;refine⟨⟨vs,us,v,u,SqT.of hv',SqT.of hu',e1,e3⟩,λx' H'' ⟨p,v',u',hp,hx',hy',ex,eH⟩=> ?_⟩;subst ex eH;have ev:v'=v:=by have:=hx' vs (SqT.of hv');rw [e1] at this;exact(M7 this).symm
  have eu:u'=u:=by have:=hy' us (SqT.of hu');rw [e3] at this;exact(M7 this).symm
  subst ev eu;have k2:Kept H' (upd H' p (.tup [v',u'])):= .new hp;exact⟨k2,RelH.new rh hp,p,[v',u'],rfl,jq,_,_,rfl,e2.mono k2,_,_,rfl,e4.mono k2,rfl⟩
 ·have l1:=r.length;have l2:=ru.length;unfold Nc at hl;rw [G0,List.length_zip] at hl;omega
theorem Ob {ta:TAD}: ∀σ H R,LI K (iZ ta) σ H R->EX K (LA K ta) σ H R:=λσ H R ⟨σd,h,Rd,rs,rh,q,p⟩=>
 LA.bind rs rh q λds vs h1 H1 k1 rs1 rh1 r1 ⟨es,fs,e,q1⟩=>by
  subst e;obtain⟨v,w,e,r2,r3⟩:=yb r1;obtain⟨a,ws,e',hv,r⟩:=(show ∃a vs,v= .ref a/\H1 a=some (.tup vs)/\RelDs K H1 es vs from r2);obtain⟨b,us,e'',hu,r'⟩:=(show ∃a vs,w= .ref a/\H1 a=some (.tup vs)/\RelDs K H1 fs vs from r3);subst e' e'';exact⟨a,b,e,⟨ws,SqT.of hv⟩,⟨us,SqT.of hu⟩,p _ _ _ _ k1 rh1 (RR hv r hu r') q1⟩
end
section
variable {X:Cx}
theorem Oc {tg:Expr}{a b:Expr}{ta:TAD}{p pos:Pos}(hg:Gl X "zip")(hm:X.mg "zip" =none)(ha:JA X [a,b] ta)(hs:starEach [a,b] X.env= [(false,eval a X.env),(false,eval b X.env)]:=by rfl)(hs2:starEach [b] X.env= [(false,eval b X.env)]:=by rfl):
 JI X tg (.Call (.Name "zip" p) [a,b] [] pos) (iZ ta):=⟨(Oa hg hm ha.to hs hs2).imp Ob⟩
end
def inE (neg:Bool):RD2:=λx y h Q=> ∃ (p:PyData) (ps:List PyData),ToP h x p/\(ToP h y (.list ps)\/ToP h y (.tuple ps))/\p.canLay0=true/\PyData.canLayAll0 ps=true/\p.depth<=60/\Q (.bl (neg !=ps.any λz=>PyData.eqv z p)) h
section
variable {X:Cx}
theorem AY (hu:X.A.units+64<cLine):OpQ X (compareOp .In) (inE false):=by
 intro pins s σ H x y v u Q I rx ry h;obtain⟨dx,dy,h,Qd,r1,r2,rh,⟨p,ps,t1,t2,c1,c2,c3,qq⟩,post⟩:=h;obtain⟨as,a1⟩:=zk I rh t1 r1 rx;have hu':X.A.units+1+min (PyData.depthAll ps) p.depth<cLine:=by have:=I0 (PyData.depthAll ps) p.depth;omega
 have q':Qd (.bl (ps.any λz=>PyData.eqv z p)) h:=by simpa using qq
 rcases t2 with t2|t2
 ·obtain⟨bs,b1⟩:=zk I rh t2 r2 ry;exact in_list_reads b1 a1 c2 c1 hu' ⟨.bl _,H,I,rfl,post (.bl _) _ _ _ (.refl H) rh rfl q'⟩
 ·obtain⟨bs,b1⟩:=zk I rh t2 r2 ry;exact in_tuple_reads b1 a1 c2 c1 hu' ⟨.bl _,H,I,rfl,post (.bl _) _ _ _ (.refl H) rh rfl q'⟩
theorem RS (hu:X.A.units+64<cLine):OpQ X (compareOp .NotIn) (inE true):=by
 intro pins s σ H x y v u Q I rx ry h;obtain⟨dx,dy,h,Qd,r1,r2,rh,⟨p,ps,t1,t2,c1,c2,c3,qq⟩,post⟩:=h;obtain⟨as,a1⟩:=zk I rh t1 r1 rx;have hu':X.A.units+1+min (PyData.depthAll ps) p.depth<cLine:=by have:=I0 (PyData.depthAll ps) p.depth;omega
 have q':Qd (.bl (!ps.any λz=>PyData.eqv z p)) h:=by simpa using qq
 rcases t2 with t2|t2
 ·obtain⟨bs,b1⟩:=zk I rh t2 r2 ry;exact notIn_list_reads b1 a1 c2 c1 hu' ⟨.bl _,H,I,rfl,post (.bl _) _ _ _ (.refl H) rh rfl q'⟩
 ·obtain⟨bs,b1⟩:=zk I rh t2 r2 ry;exact notIn_tuple_reads b1 a1 c2 c1 hu' ⟨.bl _,H,I,rfl,post (.bl _) _ _ _ (.refl H) rh rfl q'⟩
end
end L2
namespace HT
open PySem PySem.Spec PyProof.Rows
open AutoSeq1 (wpAny_loadPart')
section
variable {prog:Program}{w:World}{A:Around}{E:Value->Shared->Prop}{s:Shared}
def Od (s:Shared)(n:Nat)(P:Nat->Value->Prop)(r:Result)(s':Shared):Prop:=
 ∃h' tk acc c,r= .ok (.ret (.ref s.heap.objs.size))/\s'= {s with heap:=h',toks:=tk}/\h'.get? s.heap.objs.size=some {cls:= .type "list",dict:=none,data:= .seq acc c,slots:= #[]}/\(∀b o,s.heap.get? b=some o->h'.get? b=some o)/\ItemsOf P acc n
structure RangeOf (h:Heap)(r:Addr)(a b c:Int)(n:Nat):Prop where
 at_: ∃t u v,IsRange h r a b c t u v
 small:Builtin.Range.small a b c=true
 many:Builtin.Range.rangeSize a b c=n
 fits:n<=2^24
theorem Vy {r:Addr}{a b c:Int}{n:Nat}(calm:A.handled=none)(G:RangeOf s.heap r a b c n):
 codeAny (model prog w) A (.builtin "proto.collect" ⟨[.ref r],[]⟩) (Od s n λi v=> ∃t,v= .int (a+i*c) t) s:=by
 obtain⟨t,u,v,isr⟩:=G.at_;have old: ∀ {b o o'},s.heap.get? b=some o->(s.heap.push o').get? b=some o:=λe=>G3 _ e
 refine U8 F.entry_proto_collect ?_
 wp_walk
 refine⟨plainId_quiet F.plain_list_iadd _,U8 F.entry_list_iadd ?_⟩;rw [X1 F.plain_list_iadd];refine wpAny_extend_range calm (old isr) G.small G.many G.fits s.heap.objs.size (.ref s.heap.objs.size) 0 (D9 _ rfl) λh' tk acc c' kept made items=> ?_
 exact⟨h',tk,acc,c',rfl,rfl,made,λb o e=>kept b o (λz=>N3 _ (z ▸ D3 e)) (old e),items⟩
theorem ZM {r:Addr}{a b c:Int}{n:Nat}{Q:List Value->Shared->Prop}(calm:A.handled=none)(G:RangeOf s.heap r a b c n)
 (k: ∀h' tk acc,(∀b o,s.heap.get? b=some o->h'.get? b=some o)->ItemsOf (λi v=> ∃t,v= .int (a+i*c) t) acc n->Q acc.toList {s with heap:=h',toks:=tk}):wpAny (model prog w) A (collect (.ref r)) Q E s:=by
 refine wpAny_bind (wpAny_runValue (G0O (Vy calm G) λres s' filled=> ?_));obtain⟨h',tk,acc,c',rfl,rfl,made,kept,items⟩:=filled;exact wpAny_bind (wpAny_load made (P1 (k h' tk acc kept items)))
theorem Wy {r:Addr}{a b c:Int}{n:Nat}{Q:Value->Shared->Prop}(calm:A.handled=none)(G:RangeOf s.heap r a b c n)
 (k: ∀ (h':Heap) tk acc,(∀b o,s.heap.get? b=some o->h'.get? b=some o)->ItemsOf (λi v=> ∃t,v= .int (a+i*c) t) acc n->Q (.ref h'.objs.size) {s with heap:=h'.push {cls:= .type "tuple",data:= .seq acc},toks:=tk}):
 wpAny (model prog w) A (call (.type "tuple") [.ref r]) Q E s:=by
 obtain⟨t,u,v,isr⟩:=id G.at_;have range:s.TypeIs (.ref r) "range" :=⟨_,isr,rfl⟩;have made:codeAny (model prog w) A.in1 (.call (.builtin "tuple.__new__") ⟨[.type "tuple",.ref r],[]⟩) (wants (λo s₁=>s₁.TypeIs o "tuple" /\Q o s₁) E) s:=by
  have f1:=sub_tuple_self;have f2:=init_tuple_lookup;have f3:=madeHere_tuple;refine codeAny_call_builtin F.plain_tuple_new F.entry_tuple_new (wpAny_of_eq (F.newCall_tuple_1 _) ?_)
  wp_walk using ZM (A:=A.in1.in1) calm G
  intro h' tk acc kept items
  wp_walk
  have few: ¬acc.toList.toArray.size>sizeLine:=by rw [X2,items.1];exact U2.mpr G.fits
  rw [if_neg few];have done:=k h' tk acc kept items
  wp_walk
  rw [X2];exact⟨⟨_,D9 _ rfl,rfl⟩,done⟩
 exact callType_codes F.called_tuple (F.typeCall_tuple_1 _) F.entry_object_init made λo s₁ end_=>⟨end_.1,F.args_object_init_2 o _,object_init_meets F.called_tuple.init.lookup F.called_tuple.made (by decide) prog w A.in1 _ s₁ ⟨end_.1,rfl,end_.2⟩⟩
end
end HT
namespace L2
open PySem PySem.Spec PyProof.Rows PySem.SeqAt
variable {X:Cx}
theorem ZN (hc:X.calm=true):CallR X (.type "tuple") (λxs H Q=> ∃ (p:Addr) (n:Nat),xs= [.ref p]/\H p=some (.rng 0 (n:Int))/\n<=1000/\ ∀l,H l=none->Q (.ref l) (upd H l (.tup ((List.range n).map λ(k:Nat)=>V.int (k:Int))))):=by
 intro pins s σ H xs us Q I r h;obtain⟨p,n,rfl,hH,hn,q⟩:=h;obtain⟨u,rfl,ru⟩:=yF r;cases ru;obtain⟨t,u,v,e⟩:=(show ObjOk X.prog X.w H s.heap p (.rng 0 (n:Int)) from I.hok p _ hH);refine HT.Wy (n:=n) (I.ok.hd hc) ⟨⟨_,_,_,e⟩,small_one (by decide) (by decide) (by omega) (by omega),?_,R6 hn (by decide)⟩ λh' tk acc kp hacc=> ?_
 ·rw [rangeSize_one];try (split<;>omega)
 ·have I1:Inv X pins σ H {s with heap:=h',toks:=tk}:=I.kept kp;refine⟨.ref h'.objs.size,_,I1.laid (t':=tk) (o:= .tup ((List.range n).map λ(k:Nat)=>V.int (k:Int))) (λb ob q=>G3 _ q) (G6 _) ?_,rfl,q _ (I1.hok.fresh (G6 _))⟩;obtain⟨hs,hit⟩:=hacc;refine⟨by rw [G0,D1];exact D6 (jE hn),acc.toList,?_,by simpa using IsTupN.new h' acc⟩;refine yU (by simp [hs]) λi x u hx hu=> ?_
  rw [P9] at hx;have hi:i<n:=by
   by_cases z:i<n
   ·exact z
   ·rw [F8 (by simpa using z)] at hx;cases hx
  rw [N7 hi] at hx;cases hx;obtain⟨t,e⟩:=hit i u (by simpa using hu);exact⟨t,by rw [e];simp⟩
def AZ (ta:TAD):TED:=λσ h Q=>ta σ h λds h1=> ∃n:Nat,ds= [.int (n:Int)]/\n<=1000/\Q (jx (List.range n)) h1
theorem Ea {a : Expr} {ta : TAD} {p p2 pos pos2 : Pos} (hc : X.calm = true) (hg : Gl X "tuple") (hm : X.mg "tuple" = none) (hg2 : Gl X "range") (hm2 : X.mg "range" = none) (ha : JA X [a] ta) (hs : starEach [a] X.env = [(false, eval a X.env)] := by rfl)
    (h1 : starEach [.Call (.Name "range" p2) [a] [] pos2] X.env = (false, eval (.Call (.Name "range" p2) [a] [] pos2) X.env) :: starEach [] X.env := by rfl) (h2 : (backTo pos (starEach [] X.env)).any (·.1) = false := by rfl) :
    JE X (.Call (.Name "tuple" p) [.Call (.Name "range" p2) [a] [] pos2] [] pos) (AZ ta) :=
  ⟨(Zm (ZN hc) hg hm (by decide +kernel) (wt (Xy hg2 hm2 ha.to hs) pa_nil h1) (by decide) (by decide) h1 h2).imp
    fun σ H Q ⟨σd, h, Qd, rs, rh, t, post⟩ => LA.bind rs rh t fun ds vs h1 H1 k1 rs1 rh1 r1 ⟨n, e, hn, q⟩ => by
      subst e
      obtain ⟨v, e, r2⟩ := jw r1
      cases (show v = .int (n : Int) from r2)
      refine ⟨n, e, fun c hcn => ⟨c, n, rfl, jq, hn, fun l hl => ?_⟩⟩
      have rh2 := (rh1.new (o := .rng 0 (n : Int)) hcn)
      exact post (jx (List.range n)) (.ref l) _ _ (k1.trans (.drop2 hcn hl)) (rh2.new hl) ⟨l, _, rfl, jq, ZC (fun k => (k : Int)) (List.range n)⟩ q⟩
theorem RT (hu:X.A.units+64<cLine):MtM X "list.index" (λx vs H Q=> ∃ (a:Addr) (y:V) (dy:D) (h:HD) (p:PyData) (ps:List PyData) (j:Nat) (z:PyData),x= .ref a/\vs= [y]/\RelD X.K H dy y/\RelH X.K h H/\ToP h (.lst a) (.list ps)/\ToP h dy p/\p.canLay0=true/\PyData.canLayAll0 ps=true/\p.depth<=60/\j<1000000/\ps[j]? =some z/\PyData.eqv z p=true/\(∀m y,m<j->ps[m]? =some y->PyData.eqv y p=false)/\Q (.int (j:Int)) H):=by
 intro pins s σ H x vs v us Q I rx rv h;obtain⟨a,y,dy,h,p,ps,j,z,rfl,rfl,rd,rh,t1,t2,c1,c2,c3,hj,hz,hit,hno,q⟩:=h;cases rx;obtain⟨u,rfl,ru⟩:=yF rv;obtain⟨a',ds,ea,ha,ts⟩:=(show ∃a' ds,D.lst a= .lst a'/\h a'=some ds/\ToPs h ds ps from t1);cases ea;obtain⟨ws,hH,_⟩:=rh a ds ha;obtain⟨as,r1⟩:=zk I rh t1 (show RelD X.K H (.lst a) (.ref a) from ⟨rfl,ws,hH⟩) (show RelV (.ref a) (.ref a) from rfl);obtain⟨bs,r2⟩:=zk I rh t2 rd ru;cases r1 with
 |list h1 h2 h3 h4=>
  rename_i o its n cs;have em:=readsAll_map ps _ _ c2 h4;have gm: ∀m (hm:m<its.size),ps[m]? =some (readOf s.heap its[m]):=λm hm=>by
   rw [<-em,P9,S9,Array.getElem?_eq_getElem hm];rfl
  have hlen:its.size=ps.length:=by rw [<-em,G0,T0]
  have hjs:j<its.size:=by rw [hlen];exact(G5.mp hz).1
  have hu':X.A.units+1+min (PyData.depthAll ps) p.depth<cLine:=by have:=I0 (PyData.depthAll ps) p.depth;omega
  obtain⟨oc,od,odt,osl⟩:=o;simp only at h2 h3;subst h2 h3;refine X6 F.slot_list_index ⟨_,h1,rfl⟩ F.entry_list_index (F.args_list_index_2 _ _) (list_indexAt a its n od osl u (λy=>PyData.eqv (readOf s.heap y) p) j hjs (by omega) ?_ ?_) ⟨h1,items_eqAt h4 r2 c2 c1 hu',?_⟩
  ·have:=gm j hjs;rw [hz] at this;injection this with this
   rw [<-this];exact hit
  ·intro m hm hmj;exact hno m _ hmj (gm m hm)
  ·exact⟨.int (j:Int),H,I.tok _,⟨_,rfl⟩,q⟩
def Td (to te:TED):TED:=λσ h Q=>to σ h λx h1=> ∃a,x= .lst a/\te σ h1 λy h2=> ∃ (p:PyData) (ps:List PyData) (j:Nat) (z:PyData),ToP h2 (.lst a) (.list ps)/\ToP h2 y p/\p.canLay0=true/\PyData.canLayAll0 ps=true/\p.depth<=60/\j<1000000/\ps[j]? =some z/\PyData.eqv z p=true/\(∀m y,m<j->ps[m]? =some y->PyData.eqv y p=false)/\Q (.int (j:Int)) h2
section
variable {X:Cx}{o e i:Expr}{to te ti:TED}{apos cpos:Pos}
theorem Te (hu : X.A.units + 64 < cLine) (ho : JE X o to) (he : JE X e te) (hbase : attributeBase o "index" X.env (eval o X.env) = eval o X.env := by rfl)
    (hfew : ((backTo cpos (starEach [e] X.env)).all (fun x => !x.1) && (backToKw cpos (keywordEach [] X.env)).all (fun x => x.1.isSome) && decide ([e].length + ([] : List Keyword).length + (if ([] : List Keyword).isEmpty then 0 else 1) < 30)) = true := by rfl)
    (hline : (apos.endLine == cpos.line) = true := by rfl) (hs : starEach [e] X.env = (false, eval e X.env) :: starEach [] X.env := by rfl) (hplain : (backTo cpos (starEach [] X.env)).any (·.1) = false := by rfl) :
    JE X (.Call (.Attribute o "index" apos) [e] [] cpos) (Td to te) :=
  ⟨(Rh E7 PySem.F.slot_list_index PySem.F.type_list_index (RT hu) ho.to (wt he.to pa_nil hs) hbase hfew hline hs hplain).imp
    fun σ H Q ⟨σd, h, Qd, rs, rh, t, p⟩ => LE.bind rs rh t fun d v h1 H1 k1 rs1 rh1 r1 ⟨a, e, q⟩ => by
      subst e
      obtain ⟨e1, vs, hH⟩ := (show v = .ref a ∧ ∃ vs, H1 a = some (.lst vs) from r1)
      subst e1
      refine ⟨.inl ⟨rfl, vs, SqL.of hH⟩, ?_⟩
      refine LE.bind rs1 rh1 q fun y u h2 H2 k2 rs2 rh2 r2 ⟨pd, ps, j, z, t1, t2, c1, c2, c3, hj, hz, hit, hno, q2⟩ => ?_
      exact ⟨a, u, y, h2, pd, ps, j, z, rfl, rfl, r2, rh2, t1, t2, c1, c2, c3, hj, hz, hit, hno, p (.int _) _ _ _ (k1.trans k2) rh2 rfl q2⟩⟩
end
variable {i:Nat}
theorem BS {js:List Nat}{ta:TAD}{tt:TTD}{te:TED}{σ:SD}{h h1:HD}{Q:KD}(n:Nat)(W:Nat->List D->HD->Prop)(hn:n<=1000)(ht: ∀R:List D->HD->Prop,R [.int (n:Int)] h1->ta σ h R)
 (w0:W 0 [] h1)(wl: ∀k ys h',W k ys h'->ys.length<=k)(turn: ∀k ys h',k<n->W k ys h'->tt ((jJ js σ).set i (some (.int (k:Int)))) h' λb h3=>if b=true then te ((jJ js σ).set i (some (.int (k:Int)))) h3 λy h4=> ∃h5,Sub h5 h4/\(k+1<=n/\W (k+1) (ys++ [y]) h5) else ∃h5,Sub h5 h3/\(k+1<=n/\W (k+1) ys h5))
 (done: ∀ys h',W n ys h'-> ∀p,h' p=none->Q (.lst p) (zC h' p ys)):wL (bN i) js (iR1 ta) tt te σ h Q:=by
 refine ht _ ⟨(n:Int),rfl,by omega,by omega,n,λk ys h'=>k<=n/\W k ys h',⟨T7 _,w0⟩,?_⟩;rintro k ys h' ⟨hk,w⟩;refine⟨R6 (wl k ys h' w) (D6 (jE (by omega))),_,rfl,by simp,λhl p hp=> ?_,λd hd=>⟨_,rfl,?_⟩⟩
 ·have:k=n:=by simp at hl;omega
  subst this;exact done _ _ w p hp
 ·obtain⟨hi',e⟩:=Zy hd;have hk2:k<n:=by omega
  subst e;exact turn k ys h' hk2 w
section
variable {α:Type}{i i':Nat}{js:List Nat}{ti:TID}{te:TED}{σ:SD}{h:HD}{Q:KD}{j:ItD}
theorem Tf (xs:List α)(c c' g:α->D)(hz:xs.length<=1000)(hj:j h=some (xs.map λx=> .tup [c x,c' x]))(ht: ∀R:ItD->HD->Prop,R j h->ti σ h R)
 (he: ∀x∈xs,∀Q':KD,Q' (g x) h->te (((jJ js σ).set i (some (c x))).set i' (some (c' x))) h Q')(hq: ∀p,h p=none->Q (.lst p) (zC h p (xs.map g))):wL (b2 i i') js ti yR te σ h Q:=by
 refine ht _ ⟨xs.length,λk ys h'=>h'=h/\ys=(xs.take k).map g,⟨rfl,by simp⟩,?_⟩;rintro k ys h' ⟨rfl,rfl⟩;refine⟨by simp only [G0,R1];exact D6 (jE (by omega)),_,hj,by simp,λhl p hp=> ?_,λd hd=> ?_⟩
 ·rw [R0 (by simpa using hl)];exact hq p hp
 ·rw [P9] at hd;cases hx:xs[k]? with
  |none=>rw [hx] at hd;cases hd
  |some x=>
   rw [hx] at hd;cases hd;refine⟨_,⟨_,_,rfl,rfl⟩,?_⟩;unfold yR;dsimp only;rw [if_pos rfl];refine he x (G9 hx) _ ⟨h',Sub.refl _,rfl,?_⟩;rw [M1,hx];simp
theorem Eb (xs:List α)(c c':α->D)(g:α->Bool)(hz:xs.length<=1000)(hj:j h=some (xs.map λx=> .tup [c x,c' x]))(ht: ∀R:ItD->HD->Prop,R j h->ti σ h R)
 (he: ∀x∈xs,∀Q':KD,Q' (.bl (g x)) h->te (((jJ js σ).set i (some (c x))).set i' (some (c' x))) h Q')(hq:Q (.bl (xs.all g)) h):dCB Bx (zb (wL (b2 i i') js ti yR te) vX) σ h Q:=by
 show wL (b2 i i') js ti yR te σ h (λx h1=>Bx [x] h1 Q);exact Tf xs c c' (λx=> .bl (g x)) hz hj ht he λp hp=>⟨p,xs.map g,rfl,by rw [jc,S0];rfl,by rw [za hp,F9];exact hq⟩
end
def IsS (n:Nat)(S:List Nat):Prop:= ∃p:Nat->Bool,S=(List.range n).filter p
variable {n:Nat}{S:List Nat}
theorem IsS.lt (h:IsS n S){i:Nat}(hi:i∈S):i<n:=by
 obtain⟨p,rfl⟩:=h;exact P2.mp (S2.mp hi).1
theorem IsS.len (h:IsS n S):S.length<=n:=by
 obtain⟨p,rfl⟩:=h;have:=H0 p (List.range n)
 rwa [D1] at this
theorem IsS.rise (h:IsS n S):S.Pairwise (· < ·):=by
 obtain⟨p,rfl⟩:=h;exact List.pairwise_lt_range.filter p
def Vz (n:Nat)(T:List (List Int))(S:List Nat):List Nat:=(List.range n).filter λj=>S.any λi=>decide (ent T i j≠0)
theorem IsS.step (T:List (List Int))(S:List Nat):IsS n (Vz n T S):=⟨_,rfl⟩
def itF {α:Type}(f:α->α)(x:α):Nat->α
 |0=>x
 |k+1=>f (itF f x k)
variable {α:Type}
theorem UF (f:α->α)(x:α)(a:Nat): ∀b,itF f x (a+b)=itF f (itF f x a) b
 |0=>rfl
 |b+1=>by show f (itF f x (a+b))=f (itF f (itF f x a) b);rw [UF f x a b]
theorem VA {α:Type}{f:α->α}{x:α}{a p:Nat}(e:itF f x (a+p)=itF f x a)(r:Nat): ∀q,itF f x (a+p*q+r)=itF f x (a+r)
 |0=>by simp
 |q+1=>by
  have h1:a+p*(q+1)+r=(a+p)+(p*q+r):=by rw [G0T];omega
  rw [h1,UF,e,<-UF,<-E8,VA e r q]
theorem BT {α:Type}{f:α->α}{x:α}{a m k:Nat}(e:itF f x m=itF f x a)(ha:a<m)(hk:a<=k):itF f x (a+(k-a)%(m-a))=itF f x k:=by
 have e':itF f x (a+(m-a))=itF f x a:=by rw [show a+(m-a)=m by omega];exact e
 have h:=VA e' ((k-a)%(m-a)) ((k-a) / (m-a));have h2:=Y4 (k-a) (m-a);rw [show a+(m-a)*((k-a) / (m-a))+(k-a)%(m-a)=k by omega] at h;exact h.symm
theorem VB [DecidableEq α]: ∀ {l m:List α},l.Nodup->(∀x∈l,x∈m)->l.length<=m.length
 | [],_,_,_=>T7 _
 |a::l,m,nd,h=>by
  have hm:=h a P8;have h2:l.length<=(m.erase a).length:=VB (O3.mp nd).2 λx hx=>by
   have hxa:x≠a:=λe=>(O3.mp nd).1 (e ▸ hx)
   exact(G0Y hxa).mpr (h x (D8 _ hx))
  rw [G0q hm] at h2;have:=V5 hm;simp only [D5];omega
def WT (S:List Nat):PyData:=ZH (jI S)
theorem Jd (h:HD)(S:List Nat):ToP h (jx S) (WT S):=by rw [Yy];exact⟨_,rfl,zw h _⟩
theorem WU (r:List Int):(ZH r).canLay0=true:=by unfold ZH;simp only [PyData.canLay0];exact wP r
theorem ZO (r:List Int):(ZH r).depth<=2:=by unfold ZH;simp only [PyData.depth];have:=yy r;omega
theorem Je: ∀a b:List Int,PyData.eqvAll (a.map PyData.int) (b.map PyData.int)=decide (a=b)
 | [],[]=>by simp [PyData.eqvAll]
 | [],_::_=>by simp [PyData.eqvAll]
 |_::_,[]=>by simp [PyData.eqvAll]
 |x::a,y::b=>by
  show ((x==y)&&PyData.eqvAll (a.map .int) (b.map .int))=_;rw [Je a b,T5];simp
theorem Pu (a b:List Int):PyData.eqv (ZH a) (ZH b)=decide (a=b):=Je a b
theorem Pv {a b:List Nat}(h:jI a=jI b):a=b:=by
 have:=congrArg (List.map Int.toNat) h;unfold jI at this;simpa [S0,K7] using this
theorem UG (a b:List Nat):PyData.eqv (WT a) (WT b)=decide (a=b):=by
 unfold WT;rw [Pu,T5,K5,K5];exact⟨Pv,λe=>by rw [e]⟩
theorem yA (r:List Int):shaped (ZH r)=true:=by
 unfold shaped;rw [WU,P7 (by have:=ZO r;omega)];rfl
theorem Pw {α:Type}{f:Nat->α}{L:Nat}(h:1<=L):atI ((List.range L).map f) (-1)=some (f (L-1)):=by
 unfold atI ixN;rw [G0,D1,if_neg (by decide),if_pos (by omega)];show ((List.range L).map f)[(-1+(L:Int)).toNat]? =_;rw [show (-1+(L:Int)).toNat=L-1 by omega,P9,N7 (by omega)];rfl
theorem BU {α:Type}{f:Nat->α}{L:Nat}(h:i<L):atI ((List.range L).map f) (i:Int)=some (f i):=
 wu (by rw [P9,N7 h];rfl)
theorem BV (xs:List α):WO xs (some 1) none=xs.drop 1:=by
 unfold WO;cases xs with
 |nil=>simp
 |cons x xs=>simp [HT.sIx]
theorem BW (S:List Nat):Nc (S.map λ(k:Nat)=>D.int (k:Int)) (WO (S.map λ(k:Nat)=>D.int (k:Int)) (some 1) none)=(S.zip (S.drop 1)).map λp=>D.tup [.int (p.1:Int),.int (p.2:Int)]:=by
 rw [BV];unfold Nc;rw [<-G0z,List.zip_map,S0];rfl
theorem XI: ∀ {S:List Nat},S.Pairwise (· < ·)-> ∀p∈S.zip (S.drop 1),p.1<p.2
 | [],_,p,hp=>by simp at hp
 | [a],_,p,hp=>by simp at hp
 |a::b::l,h,p,hp=>by
  have h':=J3.mp h;rcases R5.mp (show p∈(a,b)::(b::l).zip ((b::l).drop 1) from hp) with e|e
  ·subst e;exact h'.1 b P8
  ·exact XI h'.2 p e
theorem RU {js:List Nat}{ta:TAD}{tt:TTD}{te:TED}{σ:SD}{h h1:HD}{Q:KD}(n:Nat)(W:Nat->List D->HD->Prop)(hn:n<=1000)(ht: ∀R:List D->HD->Prop,R [.int (n:Int)] h1->ta σ h R)
 (w0:W 0 [] h1)(wl: ∀k ys h',W k ys h'->ys.length<=k)(turn: ∀k ys h',k<n->W k ys h'->tt ((jJ js σ).set i (some (.int (k:Int)))) h' λb h3=>if b=true then te ((jJ js σ).set i (some (.int (k:Int)))) h3 λy h4=> ∃h5,Sub h5 h4/\(k+1<=n/\W (k+1) (ys++ [y]) h5) else ∃h5,Sub h5 h3/\(k+1<=n/\W (k+1) ys h5))
 (done: ∀ys h',W n ys h'->Q (.tup ys) h'):dCB JC (zb (wL (bN i) js (iR1 ta) tt te) vX) σ h Q:=by
 show wL (bN i) js (iR1 ta) tt te σ h (λx h1=>JC [x] h1 Q);exact BS n W hn ht w0 wl turn λys h' w p hp=>(show ∃zs,zC h' p ys p=some zs/\Q (.tup zs) (Wv (zC h' p ys) p) from ⟨_,jc,by rw [za hp];exact done ys h' w⟩)
theorem IsS.more {k:Nat}(h:IsS k S)(b:Bool):IsS (k+1) (if b=true then S++ [k] else S):=by
 obtain⟨p,rfl⟩:=h;refine⟨λi=>if i=k then b else p i,?_⟩;rw [C6,L5];have e:(List.range k).filter (λi=>if i=k then b else p i)=(List.range k).filter p:=K8 λi hi=>by
  rw [if_neg (by have:=P2.mp hi;omega)]
 rw [e];cases b<;>simp
theorem IsS.nil (n:Nat):IsS n []:=⟨λ_=>false,by simp⟩
theorem IsS.all (n:Nat):IsS n (List.range n):=⟨λ_=>true,(E9.mpr λ_ _=>rfl).symm⟩
structure Enc {α:Type}[DecidableEq α](e:α->D)(p:α->PyData):Prop where
 to: ∀ (h:HD) a,ToP h (e a) (p a)
 lay: ∀a,(p a).canLay0=true
 dp: ∀a,(p a).depth<=60
 eq: ∀a b,PyData.eqv (p a) (p b)=decide (a=b)
section
variable {α:Type}[DecidableEq α]{e:α->D}{p:α->PyData}
theorem Enc.tos (E:Enc e p)(h:HD): ∀as:List α,ToPs h (as.map e) (as.map p)
 | []=>rfl
 |a::as=>⟨_,_,rfl,E.to h a,E.tos h as⟩
theorem Enc.lays (E:Enc e p): ∀as:List α,PyData.canLayAll0 (as.map p)=true
 | []=>rfl
 |a::as=>by show (PyData.canLay0 (p a)&&_)=true;rw [E.lays as,E.lay a];rfl
theorem Oe (E:Enc e p){neg:Bool}{x:α}{as:List α}{a:Addr}{h:HD}{Q:KD}(ha:h a=some (as.map e))(q: ∀b:Bool,(b=true↔x∈as)->Q (.bl (neg !=b)) h):inE neg (e x) (.lst a) h Q:=by
 refine⟨p x,as.map p,E.to h x,.inl ⟨a,_,rfl,ha,E.tos h as⟩,E.lay x,E.lays as,E.dp x,q _ ?_⟩;rw [G0Q,Q6];constructor
 ·rintro ⟨y,hy,z⟩;have:y=x:=by simpa [B7,E.eq] using z
  rw [<-this];exact hy
 ·intro hi;exact⟨x,hi,by simp [B7,E.eq]⟩
theorem Nd (E:Enc e p){x:α}{as:List α}{a:Addr}{h:HD}(ha:h a=some (as.map e))(hx:x∈as)(hl:as.length<=100000):
 ∃ (j:Nat) (q:PyData) (qs:List PyData) (z:PyData),as[j]? =some x/\ToP h (.lst a) (.list qs)/\ToP h (e x) q/\q.canLay0=true/\PyData.canLayAll0 qs=true/\q.depth<=60/\j<1000000/\qs[j]? =some z/\PyData.eqv z q=true/\(∀m y,m<j->qs[m]? =some y->PyData.eqv y q=false):=by
 have hj:=E2.mpr hx;have ex:as[as.idxOf x]? =some x:=by rw [G1 hj,J1 hj]
 refine⟨as.idxOf x,p x,as.map p,p x,ex,⟨a,_,rfl,ha,E.tos h as⟩,E.to h x,E.lay x,E.lays as,E.dp x,by omega,?_,by rw [E.eq,P7 rfl],λm y hm hy=> ?_⟩
 ·rw [P9,ex];rfl
 ·rw [P9] at hy;have hml:m<as.length:=by omega
  rw [G1 hml] at hy;cases hy;rw [E.eq];have:=List.not_of_lt_findIdx (p:=(· ==x)) (xs:=as) hm;simpa using this
end
theorem zZ: ∀a b:List (List Int),PyData.eqvAll (a.map ZH) (b.map ZH)=decide (a=b)
 | [],[]=>by simp [PyData.eqvAll]
 | [],_::_=>by simp [PyData.eqvAll]
 |_::_,[]=>by simp [PyData.eqvAll]
 |x::a,y::b=>by
  show (PyData.eqv (ZH x) (ZH y)&&PyData.eqvAll (a.map ZH) (b.map ZH))=_;rw [zZ a b,Pu,T5];simp
theorem EY:Enc jC ON:=⟨BL,λT=>by unfold ON;simp only [PyData.canLay0];exact ZI T,λT=>by unfold ON;simp only [PyData.depth];have:=WR T;omega,zZ⟩
def mk1 (n:Nat)(T:List (List Int))(M:List (List Int)):List (List Int):=jB n (yf n M T)
def wQ (n:Nat)(T:List (List Int))(i:Nat):List (List Int):=itF (mk1 n T) (jB n T) i
theorem Px (n:Nat)(T:List (List Int)): ∀i,∃M,wQ n T i=jB n M
 |0=>⟨T,rfl⟩
 |_+1=>⟨_,rfl⟩
theorem UH (n:Nat)(T:List (List Int))(i:Nat):Sq n 1 (wQ n T i):=by
 obtain⟨M,e⟩:=Px n T i;rw [e];exact Sq.mark M
theorem Zd {e:Nat}{T:List (List Int)}(h:Sq n e T)(hn:n<=8): ∀i,wQ n T i=jB n (zl n T (i+1))
 |0=>by
  show jB n T=jB n (yf n (YZ n) T);rw [XB h hn]
 |i+1=>by
  show jB n (yf n (wQ n T i) T)=jB n (yf n (zl n T (i+1)) T);rw [Zd h hn i,Zc (Sq.mark (n:=n) _) h,Zc (h.pow hn (i+1)) h,Vt]
def RP (n:Nat)(T:List (List Int))(k i j:Nat):Prop:=ent (zl n T k) i j≠0
section
variable {n e:Nat}{T:List (List Int)}
theorem wa (h:Sq n e T)(hn:n<=8)(a b:Nat){i j:Nat}(hi:i<n)(hj:j<n):RP n T (a+b) i j↔ ∃k,k<n/\RP n T a i k/\RP n T b k j:=by
 unfold RP;rw [pow_add h hn a b];exact zH (h.pow hn a) (h.pow hn b) hi hj
theorem yX (h:Sq n e T)(hn:n<=8){c x:Nat}(hx:x<n)(l:RP n T c x x): ∀q,RP n T (c*(q+1)) x x
 |0=>by rw [L9,Nat.mul_one];exact l
 |q+1=>by
  rw [G0T];exact(wa h hn _ _ hx hx).mpr ⟨x,hx,yX h hn hx l q,l⟩
theorem ww {i j:Nat}(hi:i<n)(hj:j<n):RP n T 0 i j↔i=j:=by
 unfold RP;show ent (YZ n) i j≠0↔_;unfold YZ;rw [wm hi hj]
 by_cases z:i=j
 ·simp [z]
 ·simp [z]
theorem XJ (h:Sq n e T)(hn:n<=8): ∀ (m:Nat) {i j:Nat},i<n->j<n->RP n T m i j-> ∃v:Nat->Nat,v 0=i/\v m=j/\(∀t,t<=m->v t<n)/\ ∀t,t<m->RP n T 1 (v t) (v (t+1))
 |0,i,j,hi,hj,r=>by
  have:=(ww hi hj).mp r;exact⟨λ_=>i,rfl,this,λ_ _=>hi,λt ht=>by omega⟩
 |m+1,i,j,hi,hj,r=>by
  obtain⟨k,hk,r1,r2⟩:=(wa h hn m 1 hi hj).mp r;obtain⟨v,v0,vm,vl,vr⟩:=XJ h hn m hi hk r1;refine⟨λt=>if t<=m then v t else j,?_,?_,λt _=> ?_,λt ht=> ?_⟩
  ·simp [v0]
  ·show (if m+1<=m then v (m+1) else j)=j;rw [if_neg (by omega)]
  ·show (if t<=m then v t else j)<n;split
   ·exact vl t (by assumption)
   ·exact hj
  ·show RP n T 1 (if t<=m then v t else j) (if t+1<=m then v (t+1) else j);rw [if_pos (by omega)]
   by_cases z:t+1<=m
   ·rw [if_pos z];exact vr t (by omega)
   ·rw [if_neg z,show t=m by omega,vm];exact r2
theorem wR (h:Sq n e T)(hn:n<=8){m:Nat}{v:Nat->Nat}(vl: ∀t,t<=m->v t<n)(vr: ∀t,t<m->RP n T 1 (v t) (v (t+1)))(a:Nat): ∀b,a+b<=m->RP n T b (v a) (v (a+b))
 |0,hb=>(ww (vl a (by omega)) (vl a (by omega))).mpr rfl
 |b+1,hb=>(wa h hn b 1 (vl a (by omega)) (vl _ hb)).mpr ⟨v (a+b),vl _ (by omega),wR h hn vl vr a b (by omega),vr (a+b) (by omega)⟩
theorem Nf {n:Nat}{v:Nat->Nat}(hv: ∀t,t<=n->v t<n): ∃a b,a<b/\b<=n/\v a=v b:=by
 by_cases z: ∃a b,a<b/\b<=n/\v a=v b
 ·exact z
 ·exfalso;have nd:((List.range (n+1)).map v).Nodup:=by
   unfold List.Nodup;rw [T6];refine G0r (λ{a b} _ hb hab=> ?_) (G0L (n:=n+1));intro e;exact z ⟨a,b,hab,by have:=P2.mp hb;omega,e⟩
  have:=VB nd (m:=List.range n) λx hx=>by
   obtain⟨t,ht,e⟩:=R4.mp hx;rw [<-e];exact P2.mpr (hv t (by have:=P2.mp ht;omega))
  simp at this;omega
theorem BX (h:Sq n e T)(h6:n<=6){m i j:Nat}(hm:n<=m)(hi:i<n)(hj:j<n)(r:RP n T m i j):RP n T (m+60) i j:=by
 have hn:n<=8:=by omega
 obtain⟨v,v0,vm,vl,vr⟩:=XJ h hn m hi hj r;obtain⟨a,b,hab,hbn,eq⟩:=Nf (n:=n) (v:=v) λt ht=>vl t (by omega)
 have ha:=vl a (by omega);have p1:RP n T a i (v a):=by have:=wR h hn vl vr 0 a (by omega);rw [v0,L9] at this;exact this
 have p2:RP n T (b-a) (v a) (v a):=by
  have:=wR h hn vl vr a (b-a) (by omega);rw [show a+(b-a)=b by omega,<-eq] at this;exact this
 have p3:RP n T (m-a) (v a) j:=by
  have:=wR h hn vl vr a (m-a) (by omega);rw [show a+(m-a)=m by omega,vm] at this;exact this
 have p4:RP n T 60 (v a) (v a):=by
  have hc:b-a=1\/b-a=2\/b-a=3\/b-a=4\/b-a=5\/b-a=6:=by omega
  rcases hc with c|c|c|c|c|c<;>rw [c] at p2
  ·exact yX h hn ha p2 59
  ·exact yX h hn ha p2 29
  ·exact yX h hn ha p2 19
  ·exact yX h hn ha p2 14
  ·exact yX h hn ha p2 11
  ·exact yX h hn ha p2 9
 have p5:RP n T (60+(m-a)) (v a) j:=(wa h hn _ _ ha hj).mpr ⟨v a,ha,p4,p3⟩;have p6:RP n T (a+(60+(m-a))) i j:=(wa h hn _ _ hi hj).mpr ⟨v a,ha,p1,p5⟩;rw [show a+(60+(m-a))=m+60 by omega] at p6;exact p6
end
theorem yB {f g:Nat->Int}(h: ∀k,k<n->f k<=g k):jH n f<=jH n g:=by
 induction n with
 |zero=>exact G05 _
 |succ n ih=>rw [jz,jz];have:=ih λk hk=>h k (by omega);have:=h n (by omega);omega
theorem WV {f g:Nat->Int}(h: ∀k,k<n->f k<=g k)(e:jH n g<=jH n f): ∀k,k<n->f k=g k:=by
 induction n with
 |zero=>intro k hk;omega
 |succ n ih=>
  rw [jz,jz] at e;have a:=yB λk (hk:k<n)=>h k (by omega)
  have b:=h n (by omega);intro k hk
  by_cases z:k=n
  ·subst z;omega
  ·exact ih (λk hk=>h k (by omega)) (by omega) k (by omega)
section
variable {n e:Nat}{T:List (List Int)}
def tot (n:Nat)(T:List (List Int))(k:Nat):Int:=jH n λi=>jH n λj=>ent (jB n (zl n T k)) i j
theorem Jf {M:List (List Int)}{i j:Nat}(hi:i<n)(hj:j<n):ent (jB n M) i j=if ent M i j=0 then 0 else 1:=wm hi hj
theorem BY (h:Sq n e T)(h6:n<=6){m:Nat}(hm:n<=m): ∀i j,i<n->j<n->ent (jB n (zl n T m)) i j<=ent (jB n (zl n T (m+60))) i j:=λi j hi hj=>by
 rw [Jf hi hj,Jf hi hj]
 by_cases z:ent (zl n T m) i j=0
 ·rw [if_pos z];split<;>omega
 ·rw [if_neg z,if_neg (BX h h6 hm hi hj z)];exact G05 _
theorem RV (h:Sq n e T)(h6:n<=6){m:Nat}(hm:n<=m):jB n (zl n T m)=jB n (zl n T (m+60))\/tot n T m+1<=tot n T (m+60):=by
 have le:=BY h h6 hm;have a:tot n T m<=tot n T (m+60):=yB λi hi=>yB λj hj=>le i j hi hj
 by_cases z:tot n T (m+60)<=tot n T m
 ·left;refine(Sq.mark (n:=n) _).ext (Sq.mark (n:=n) _) λi j hi hj=> ?_
  have b:=WV (λi hi=>yB λj hj=>le i j hi hj) z i hi;exact WV (λj hj=>le i j hi hj) (by rw [b];exact G05 _) j hj
 ·right;omega
theorem VC (k:Nat)(h6:n<=6):0<=tot n T k/\tot n T k<=36:=by
 have r: ∀i,i<n->0<=(jH n λj=>ent (jB n (zl n T k)) i j)/\(jH n λj=>ent (jB n (zl n T k)) i j)<=6:=λi hi=>by
  have a: ∀j,j<n->0<=ent (jB n (zl n T k)) i j/\ent (jB n (zl n T k)) i j<=1:=λj hj=>by
   rw [Jf hi hj];split<;>omega
  refine⟨vy λj hj=>(a j hj).1,?_⟩;have:=Yx (f:=λj=>ent (jB n (zl n T k)) i j) λj hj=>(a j hj).2
  omega
 refine⟨vy λi hi=>(r i hi).1,?_⟩;have b:=Yx (f:=λi=>jH n λj=>ent (jB n (zl n T k)) i j) λi hi=>(r i hi).2
 unfold tot;omega
theorem QC (h:Sq n e T)(h6:n<=6): ∃t,t<=36/\jB n (zl n T (n+60*t))=jB n (zl n T (n+60*(t+1))):=by
 by_cases z: ∃t,t<=36/\jB n (zl n T (n+60*t))=jB n (zl n T (n+60*(t+1)))
 ·exact z
 ·exfalso;have g: ∀t:Nat,t<=37->(t:Int)<=tot n T (n+60*t):=by
   intro t
   induction t with
   |zero=>intro _;exact(VC _ h6).1
   |succ t ih=>
    intro ht;have a:=ih (by omega);rcases RV h h6 (m:=n+60*t) (by omega) with b|b
    ·exact(z ⟨t,by omega,by rw [b];rfl⟩).elim
    ·have e1:n+60*t+60=n+60*(t+1):=by omega
     rw [e1] at b;omega
  have a:=g 37 (G6 _);have b:=(VC (T:=T) (n+60*37) h6).2;omega
theorem Py (h:Sq n e T)(h1:1<=n)(h6:n<=6){L:Nat}(nd:((List.range L).map (wQ n T)).Nodup):L<=2225:=by
 by_cases z:L<=2225
 ·exact z
 ·exfalso;obtain⟨t,ht,eq⟩:=QC h h6;have e1:wQ n T (n+60*t-1)=wQ n T (n+60*t+59):=by
   rw [Zd h (by omega),Zd h (by omega),show n+60*t-1+1=n+60*t by omega,show n+60*t+59+1=n+60*(t+1) by omega];exact eq
  have inj:=nd;unfold List.Nodup at inj;rw [T6] at inj;have h2:=A3.mp inj (n+60*t-1) (n+60*t+59) (by simp;omega) (by simp;omega) (by omega);simp only [G0d] at h2;exact h2 e1
structure Course (n:Nat)(T:List (List Int))(L J:Nat):Prop where
 nd:((List.range L).map (wQ n T)).Nodup
 lt:J<L
 eq:wQ n T L=wQ n T J
end
theorem BZ (h:i<n):ixN n (i:Int)=some i:=by
 unfold ixN;simp;omega
theorem call_divmodB:CallR X (.builtin "divmod") (λxs H Q=> ∃i j,xs= [.int i,.int j]/\(0<j/\j<2^200)/\ ∀p,H p=none->Q (.ref p) (upd H p (.tup [.int (i / j),.int (i%j)]))):=by
 intro pins s σ H xs us Q I r h;obtain⟨i,j,rfl,⟨h1,h2⟩,q⟩:=h;obtain⟨u,w',rfl,⟨t,rfl⟩,⟨t',rfl⟩⟩:=DZ r;refine divmod_int (by omega) ?_ (.inl (PyProof.noPylong_of_log2 ?_))
 ·rw [Y9 i (by omega),Z0 i (by omega)];have hn:H s.heap.objs.size=none:=I.hok.fresh (G6 _);refine⟨.ref s.heap.objs.size,_,?_,rfl,q _ hn⟩;refine I.laid (λb o e=>G3 _ e) (G6 _) ⟨by simp only [D5,T9];rw [sizeLine_eq];decide,[.int (i / j) s.toks,.int (i%j) (s.toks+1)],.cons ⟨_,rfl⟩ (.cons ⟨_,rfl⟩ .nil),?_⟩;exact⟨_,D9 s.heap rfl,rfl,rfl,0,rfl⟩
 ·have h3:j.natAbs<2^200:=ZF (by omega) h2;have h4:=(Nat.log2_lt (by omega:j.natAbs≠0)).mpr h3;omega
def Ca:RDn:=λds h Q=> ∃i j:Int,ds= [.int i,.int j]/\(0<j/\j<2^200)/\Q (.tup [.int (i / j),.int (i%j)]) h
theorem QD:yG X (.builtin "divmod") Ca:=call_divmodB.imp λxs H Q ⟨ds,h,Qd,r,rh,⟨i,j,e,c,q⟩,p⟩=>by
 subst e;obtain⟨v,w,e,r1,r2⟩:=yb r;cases (show v= .int i from r1);cases (show w= .int j from r2);exact⟨i,j,e,c,λa ha=>p (.tup [.int (i / j),.int (i%j)]) _ _ _ (.new ha) (rh.new ha) ⟨a,_,rfl,jq,.cons rfl (.cons rfl .nil)⟩ q⟩
theorem Of {T:List (List Int)}{L J:Nat}(c:Course n T L J){i:Nat}(hi:J<=i):wQ n T (J+(i-J)%(L-J))=wQ n T i:=BT c.eq c.lt hi
theorem QF {prog:Program}{w:World}{A:Around}(hh:A.handled=none)(it t:Addr)(items:Array Value)(n:Nat)(hn:items.size<=n):
 Draws prog w A it [it,t] n (λ_ _=>False) (λi h=>i=n/\h.IsListIter it t n/\h.IsList t items) where
 live:=λ_ _ st=>let ⟨o,ho,_⟩:=st.2.1;⟨o,ho⟩
 frame:=λ_ _ _ st hk=>⟨st.1,st.2.1.at λo e=>hk it (by simp) o e,st.2.2.at λo e=>hk t (by simp) o e⟩
 item:=λi s Q E hi st hQ=>absurd st.1 (S1 hi)
 done:=λs Q E st hE=>wpAny_nextOf_list_end hh st.2.1 st.2.2 (Array.getElem?_eq_none hn) hE
def Ec (K:PySem.W.Frag)(a:Addr):It:=
 ⟨λi H=> ∃xs x,SqL K H a xs/\xs[i]? =some x,λi H x H'=> ∃p v,H p=none/\(∀xs,SqL K H a xs->xs[i]? =some v)/\x= .ref p/\H'=upd H p (.tup [.int i,v]),λi H=> ∃xs,SqL K H a xs/\xs.length<=i⟩
theorem QH {P:Program}{w:World}{K:PySem.W.Frag}{es:List Expr}{k:Nat}{pos:Pos}(a it e:Addr)(hei:e≠it)(hae:a≠e)(hai:a≠it):Turn P w K (.Tuple es k pos) (Ec K a) [e,it] e (λi h=>(∃old,IsEnum h e it i old)/\h.IsListIter it a i) where
 mem:=by simp
 obj:=λi h st b hb=>by
  rcases R5.mp hb with z|z
  ·subst z;obtain⟨old,q⟩:=st.1;exact⟨_,q,λv z=>by cases z⟩
  ·have z:=G2.mp z;subst z;obtain⟨o,q,c,d⟩:=st.2;exact⟨o,q,λv z=>by rw [d] at z;cases z⟩
 keep:=λi h h' st k=>⟨let ⟨old,q⟩:=st.1;⟨old,k e (by simp) _ q⟩,st.2.at λo q=>k it (by simp) o q⟩
 item:=by
  intro X hP hw hK hc i pins s σ H E I hf st hg;subst hP hw hK;obtain⟨xs,x,hq,hx⟩:=hg;obtain⟨its,rv,p,hz⟩:=I.list hq;obtain⟨u,hu,ru⟩:=rv.get hx;have hi:i<its.toArray.size:=by have:=(G5.mp hu).1;simpa using this
  obtain⟨old,he⟩:=st.1;have helt:e<s.heap.objs.size:=D3 he;refine wpAny_pyNext_enum_itemD (Draws.list (prog:=X.prog) (w:=X.w) (A:=X.A.in1) (I.ok.hd hc) it a hai its.toArray) he ⟨st.2,p.isList⟩ hi hei (by simp [hei,Ne.symm hae]) λx' h' tk hx' ho hs' hT hsz hk=> ?_
  have ex:x'=u:=M7 (hx'.symm.trans (show its.toArray[i]? =some u by simpa using hu));subst ex;refine⟨_,rfl,wpAny_letOwnedTupleGo_enum ho λh2 he2 hs2=> ?_⟩;have hn:H s.heap.objs.size=none:=I.hok.fresh (G6 _);have hT2:h2.get? s.heap.objs.size=some {cls:= .type "tuple",data:= .seq #[.int i tk,x']}:=(hs2.2 _ (J5 helt)).trans hT;refine⟨.ref s.heap.objs.size,upd H s.heap.objs.size (.tup [.int i,x]),?_,rfl,⟨_,x,hn,λys hy=>by rw [I.list_inj hy hq];exact hx,rfl,rfl⟩,⟨⟨x',by simpa using he2⟩,hs'.1.at λo y=>(hs2.2 it (Ne.symm hei)).trans y⟩,λb hb=> ?_⟩
  ·refine I.turnLaid (h':=h2) (t':=tk+1) (ch:= [e,it]) (λb u hb q=> ?_) hf (G6 _) ⟨by show 2<=sizeLine;decide,[.int i tk,x'],.cons ⟨tk,rfl⟩ (.cons ru .nil),⟨_,hT2,rfl,rfl,_,rfl⟩⟩;have b1:b≠e:=λz=>hb (by simp [z])
   have b2:b≠it:=λz=>hb (by simp [z])
   exact(hs2.2 b b1).trans (hk b u b1 b2 q)
  ·have f:=(hf b hb).1;have:b≠s.heap.objs.size:=λz=>by
    rcases R5.mp hb with w|w
    ·rw [<-w,z] at helt;exact absurd helt (N3 _)
    ·have w:=G2.mp w;obtain⟨o,ho',_⟩:=st.2;have:=D3 ho';rw [<-w,z] at this;exact absurd this (N3 _)
   rw [jt this];exact f
 done:=by
  intro X hP hw hK hc i pins s σ H E I hf st hg;subst hP hw hK;obtain⟨xs,hq,hx⟩:=hg;obtain⟨its,rv,p,hz⟩:=I.list hq;obtain⟨old,he⟩:=st.1;have hl:=rv.length;refine wpAny_pyNext_enum_endD (QF (prog:=X.prog) (w:=X.w) (A:=X.A.in1) (I.ok.hd hc) it a its.toArray i (by simp;omega)) he ⟨rfl,st.2,p.isList⟩ λh' hx'=>⟨rfl,I.turnL (t':=s.toks) (ch:= [it]) (λb o hb q=>hx' b o (λz=>hb (by simp [z])) q) λb hb=>hf b (D8 _ hb)⟩
 self:=λ_ _ _ _ _ st h=>let ⟨_,q⟩:=st.1;wpAny_pyIter_enum q h
section
variable {X:Cx}
def Og (K:PySem.W.Frag)(ta:TA):TI:=λσ H R=>ta σ H λvs H1=> ∃a,vs= [.ref a]/\(∃xs,SqL K H1 a xs)/\R (Ec K a) H1
theorem RW {es:List Expr}{k:Nat}{tp:Pos}{a:Expr}{ta:TA}{p pos:Pos}(hg:Gl X "enumerate")(hm:X.mg "enumerate" =none)(ha:PA X [a] ta)(hs:starEach [a] X.env= [(false,eval a X.env)]:=by rfl):
 PI X (.Tuple es k tp) (.Call (.Name "enumerate" p) [a] [] pos) (Og X.K ta):=by
 intro pins s σ H R I h;refine Call_ (Zk I hg hm (show bootBuiltins "enumerate" =some (.type "enumerate") by decide +kernel) (C1 (thn (ha pos pins s σ H _ I h) λus s1 ⟨vs,H1,I1,r1,q1⟩=> ?_) hs rfl));obtain⟨a,e,⟨xs,hq⟩,q⟩:=q1;subst e;cases r1 with
 |cons r rr=>
  cases rr;cases r;obtain⟨its,rv,p,hz⟩:=I1.list hq;have hlt:a<s1.heap.objs.size:=by obtain⟨o,ho,_⟩:=p.isList;exact D3 ho
  refine call_enumerate_list p.isList λh' he hit _ hk=> ?_
  refine wpAny_pyIter_enum he ?_;refine⟨s1.heap.objs.size+1,[s1.heap.objs.size+1,s1.heap.objs.size],_,_,H1,rfl,I1.kept (t':=s1.toks) hk,QH a s1.heap.objs.size (s1.heap.objs.size+1) (J5 (L6 _)) (S1 (V8 hlt)) (S1 hlt),⟨⟨_,he⟩,hit⟩,λb hb=> ?_,q⟩;have hb':s1.heap.objs.size<=b:=by
   rcases R5.mp hb with w|w
   ·rw [w];exact G1i _
   ·rw [G2.mp w];exact G6 _
  exact I1.fpOk hb' (I1.hok.fresh hb')
end
def iEL (ta:TAD):TID:=λσ h R=>ta σ h λxs h1=> ∃a,xs= [.lst a]/\R (λh=>(h a).map Pq) h1
section
variable {K:PySem.W.Frag}
theorem QJ (H:Hp)(a:Addr):Bf K H (λh=>(h a).map Pq) (Ec K a):=λH' h' k rh ds' e i=>by
 have e:(h' a).map Pq=some ds':=e;cases hd:h' a with
 |none=>rw [hd] at e;cases e
 |some ds=>
  rw [hd] at e;cases e;obtain⟨vs,hv',r'⟩:=rh a ds hd;refine⟨λd hd=> ?_,λhl=>⟨vs,SqL.of hv',by rw [<-r'.length,<-yW];exact hl⟩⟩;obtain⟨x,hx,ed⟩:=XF hd;subst ed;obtain⟨v,e1,e2⟩:=r'.get hx;refine⟨⟨vs,v,SqL.of hv',e1⟩,λx' H'' ⟨p,v',hp,hx',ex,eH⟩=> ?_⟩;subst ex eH;have ev:v'=v:=by have:=hx' vs (SqL.of hv');rw [e1] at this;exact(M7 this).symm
  subst ev;have k2:Kept H' (upd H' p (.tup [.int i,v'])):= .new hp;exact⟨k2,RelH.new rh hp,p,[.int i,v'],rfl,jq,_,_,rfl,rfl,_,_,rfl,e2.mono k2,rfl⟩
theorem RX {ta:TAD}: ∀σ H R,LI K (iEL ta) σ H R->Og K (LA K ta) σ H R:=λσ H R ⟨σd,h,Rd,rs,rh,q,p⟩=>
 LA.bind rs rh q λds vs h1 H1 k1 rs1 rh1 r1 ⟨a,e,q1⟩=>by
  subst e;obtain⟨v,e,r2⟩:=jw r1;obtain⟨e',ws,hv⟩:=(show v= .ref a/\ ∃vs,H1 a=some (.lst vs) from r2);subst e';exact⟨a,e,⟨ws,SqL.of hv⟩,p _ _ _ _ k1 rh1 (QJ H1 a) q1⟩
end
section
variable {X:Cx}
theorem RY {es:List Expr}{k:Nat}{tp:Pos}{a:Expr}{ta:TAD}{p pos:Pos}(hg:Gl X "enumerate")(hm:X.mg "enumerate" =none)(ha:JA X [a] ta)(hs:starEach [a] X.env= [(false,eval a X.env)]:=by rfl):
 JI X (.Tuple es k tp) (.Call (.Name "enumerate" p) [a] [] pos) (iEL ta):=⟨(RW hg hm ha.to hs).imp RX⟩
end
def Jg (d:D)(a b:Int):Bool:=match d with
 | .int x=>decide (a<=x)&&decide (x<=b)
 |_=>false
def Jh (d:D)(m:Int):Bool:=match d with
 | .tup es=>es.all λx=>Jg x 0 (m-1)
 |_=>false
end L2
set_option maxRecDepth 35000
namespace L2
open PySem PySem.Spec PyProof.Rows PySem.SeqAt
def Ed (T:List (List Int))(n p:Nat):List Nat:=(List.range n).filter λj=>decide (ent T p j>0)
def cnt (T:List (List Int))(n o:Nat):Nat->Nat->Int
 |0,p=>if p=o then 1 else 0
 |t+1,p=>((Ed T n p).map (cnt T n o t)).sum
section
variable {T:List (List Int)}{n o:Nat}
def Tg (T:List (List Int))(n o t p:Nat):Nat:=(Ed T n p).findIdx λj=>decide (cnt T n o t j>0)
def nxt (T:List (List Int))(n o t p:Nat):Nat:=(Ed T n p).getD (Tg T n o t p) 0
end
end L2
namespace L2
open PySem PySem.Spec PyProof.Rows PySem.W
abbrev TXD:=SD->HD->(Str->HD->Prop)->Prop
abbrev RDx:=List D->HD->(Str->HD->Prop)->Prop
abbrev N1:List Str:= ["_law_call","_law_found","_law_e","_law_word"]
end L2
namespace L2
open PySem PySem.Spec PyProof.Rows PySem.SeqAt
theorem VD {α:Type}{p q:α->Bool}: ∀ {l:List α},(∀x∈l,p x=true->q x=true)->(∃x,x∈l/\p x=false/\q x=true)->l.countP p+1<=l.countP q
 | [],_,⟨_,hx,_⟩=>by cases hx
 |a::l,hm,⟨x,hx,h1,h2⟩=>by
  have hm': ∀x∈l,p x=true->q x=true:=λy hy=>hm y (D8 _ hy)
  have le:l.countP p<=l.countP q:=List.countP_mono_left hm';rw [List.countP_cons,List.countP_cons]
  by_cases z:x=a
  ·subst z;rw [h1,h2];simp;omega
  ·have hx':x∈l:=(R5.mp hx).resolve_left z;have:=VD hm' ⟨x,hx',h1,h2⟩
   by_cases w:p a=true
   ·rw [w,hm a P8 w];simp;omega
   ·rw [show p a=false by simpa using w];simp;omega
theorem Oh {n:Nat}(P:Nat->Nat->Bool)(up: ∀m i,i<n->P m i=true->P (m+1) i=true)(st: ∀m,(∀i,i<n->P (m+1) i=P m i)-> ∀i,i<n->P (m+2) i=P (m+1) i)
 (M:Nat)(hM: ∀m,M<=m-> ∀i,i<n->P m i=true)(ne: ∃i,i<n/\P 0 i=true): ∀i,i<n->P (n-1) i=true:=by
 have key: ∀m,(∀i,i<n->P m i=true)\/m+1<=(List.range n).countP (P m):=by
  intro m
  induction m with
  |zero=>
   obtain⟨i,hi,e⟩:=ne;exact .inr (List.countP_pos_iff.mpr ⟨i,P2.mpr hi,e⟩)
  |succ m ih=>
   rcases ih with ih|ih
   ·exact .inl λi hi=>up m i hi (ih i hi)
   ·by_cases eq: ∀i,i<n->P (m+1) i=P m i
    ·left;have go: ∀t i,i<n->P (m+t+1) i=P (m+t) i:=by
      intro t
      induction t with
      |zero=>exact eq
      |succ t iht=>exact st (m+t) iht
     have all: ∀t i,i<n->P (m+t) i=P m i:=by
      intro t
      induction t with
      |zero=>intro i _;rfl
      |succ t iht=>intro i hi;rw [<-iht i hi];exact go t i hi
     intro i hi;rw [eq i hi,<-all M i hi];exact hM (m+M) (by omega) i hi
    ·right;have ⟨i,hi⟩: ∃i,i<n/\P (m+1) i≠P m i:=Q4 λw=>eq λi hi=>Q4 λw2=>w ⟨i,hi,w2⟩
     have hf:P m i=false:=by
      cases hp:P m i with
      |false=>rfl
      |true=>exact absurd ((up m i hi.1 hp).trans hp.symm) hi.2
     have ht:P (m+1) i=true:=by
      cases hp:P (m+1) i with
      |true=>rfl
      |false=>exact absurd (hp.trans hf.symm) hi.2
     have:=VD (l:=List.range n) (p:=P m) (q:=P (m+1)) (λx hx=>up m x (P2.mp hx)) ⟨i,P2.mpr hi.1,hf,ht⟩;omega
 intro i hi;rcases key (n-1) with h|h
 ·exact h i hi
 ·have hle:(List.range n).countP (P (n-1))<=(List.range n).length:=List.countP_le_length;rw [D1] at hle;have:(List.range n).countP (P (n-1))=(List.range n).length:=by rw [D1];omega
  exact List.countP_eq_length.mp this i (P2.mpr hi)
section
variable {n e:Nat}{T:List (List Int)}
instance (k i j:Nat):Decidable (RP n T k i j):=inferInstanceAs (Decidable (ent (zl n T k) i j≠0))
theorem UI (h:Sq n e T)(hn:n<=8)(n2:2<=n){K:Nat}(f: ∀i j,i<n->j<n->RP n T K i j)(f1: ∀i j,i<n->j<n->RP n T (K+1) i j): ∃s c,1<=s/\s<=n-1/\c<n/\RP n T s c c:=by
 refine Q4 λz=> ?_
 have drop: ∀m i j,i<n->j<n->n<=m->RP n T m i j->RP n T (m-n) i j:=by
  intro m i j hi hj hm r;obtain⟨v,v0,vm,vl,vr⟩:=XJ h hn m hi hj r;obtain⟨a,b,hab,hbn,eq⟩:=Nf (n:=n) (v:=v) λt ht=>vl t (by omega)
  have ha:=vl a (by omega);have p2:RP n T (b-a) (v a) (v a):=by
   have:=wR h hn vl vr a (b-a) (by omega);rw [show a+(b-a)=b by omega,<-eq] at this;exact this
  have hba:b-a=n:=by
   by_cases w:b-a<=n-1
   ·exact absurd ⟨b-a,v a,by omega,w,ha,p2⟩ z
   ·omega
  have a0:a=0:=by omega
  have bn:b=n:=by omega
  subst a0;subst bn;have p3:=wR h hn vl vr b (m-b) (by omega);rw [show b+(m-b)=m by omega,vm,<-eq,v0] at p3;exact p3
 have h0:0<n:=by omega
 have mod0: ∀m,RP n T m 0 0->m%n=0:=by
  intro m
  induction m using Nat.strongRecOn with
  |_ m ih=>
   intro r
   by_cases w:m<n
   ·by_cases y:m=0
    ·subst y;exact Nat.zero_mod n
    ·exact absurd ⟨m,0,by omega,by omega,h0,r⟩ z
   ·rw [Nat.mod_eq_sub_mod (by omega)];exact ih (m-n) (by omega) (drop m 0 0 h0 h0 (by omega) r)
 have a:=G0M (mod0 K (f 0 0 h0 h0));have b:=G0M (mod0 (K+1) (f1 0 0 h0 h0));have c:=(Nat.dvd_add_right a).mp b;have:=Nat.le_of_dvd (by decide) c;omega
theorem Th (h:Sq n e T)(n1:1<=n)(h6:n<=6){K:Nat}(hK:1<=K)(f:zm (zl n T K)=true): ∃k,1<=k/\k<=30/\zm (zl n T k)=true:=by
 have hn:n<=8:=by omega
 have all: ∀m,K<=m-> ∀i j,i<n->j<n->RP n T m i j:=λm hm=>by
  have:=UC h hn (a:=K) (by omega) f (m-K);rw [show K+(m-K)=m by omega] at this;exact(vB (h.pow hn m)).mp this
 have pre: ∀j,j<n-> ∃k,k<n/\RP n T 1 k j:=λj hj=>by
  have:=all (K-1+1) (by omega) 0 j (by omega) hj;obtain⟨k,hk,_,r⟩:=(wa h hn (K-1) 1 (by omega) hj).mp this;exact⟨k,hk,r⟩
 have keep: ∀i m t,i<n->(∀j,j<n->RP n T m i j)-> ∀j,j<n->RP n T (m+t) i j:=by
  intro i m t hi r
  induction t with
  |zero=>exact r
  |succ t ih=>intro j hj;obtain⟨k,hk,r1⟩:=pre j hj;exact(wa h hn (m+t) 1 hi hj).mpr ⟨k,hk,ih k hk,r1⟩
 by_cases n2:2<=n
 ·obtain⟨s,c,s1,sn,hc,rc⟩:=UI h hn n2 (all K (G6 _)) (all (K+1) (by omega));have e1: ∀m,s*(m+1)=s+s*m:=λm=>by rw [G0T];omega
  have A:=Oh (n:=n) (λm j=>decide (RP n T (s*m) c j)) (λm j hj r=>P7 (by rw [e1];exact(wa h hn s (s*m) hc hj).mpr ⟨c,hc,rc,M5 r⟩))
   (λm eq j hj=>by
    have key: ∀m,RP n T (s*(m+1)) c j↔ ∃k,k<n/\RP n T (s*m) c k/\RP n T s k j:=λm=>by rw [G0T];exact wa h hn (s*m) s hc hj
    have eq2: ∀k,k<n->(RP n T (s*(m+1)) c k↔RP n T (s*m) c k):=λk hk=>by simpa using eq k hk
    have:RP n T (s*(m+1+1)) c j↔RP n T (s*(m+1)) c j:=by
     rw [key (m+1),key m];exact⟨λ⟨k,hk,a,b⟩=>⟨k,hk,(eq2 k hk).mp a,b⟩,λ⟨k,hk,a,b⟩=>⟨k,hk,(eq2 k hk).mpr a,b⟩⟩
    simpa using this) K (λm hm j hj=>P7 (all _ (R6 hm (Nat.le_mul_of_pos_left m s1)) c j hc hj)) ⟨c,hc,P7 (by rw [Nat.mul_zero];exact(ww hc hc).mpr rfl)⟩
  have any_iff: ∀m i,((List.range (m+1)).any (λt=>decide (RP n T t i c))=true)↔ ∃t,t<=m/\RP n T t i c:=λm i=>by
   rw [Q6];exact⟨λ⟨t,ht,r⟩=>⟨t,by have:=P2.mp ht;omega,M5 r⟩,λ⟨t,ht,r⟩=>⟨t,P2.mpr (by omega),P7 r⟩⟩
  have stp: ∀m i,i<n->((∃t,t<=m+1/\RP n T t i c)↔(i=c\/ ∃k,k<n/\RP n T 1 i k/\ ∃t,t<=m/\RP n T t k c)):=λm i hi=>by
   constructor
   ·rintro ⟨t,ht,r⟩;cases t with
    |zero=>exact .inl ((ww hi hc).mp r)
    |succ t=>
     rw [G1f] at r;obtain⟨k,hk,a,b⟩:=(wa h hn 1 t hi hc).mp r;exact .inr ⟨k,hk,a,t,by omega,b⟩
   ·rintro (r|⟨k,hk,a,t,ht,b⟩)
    ·exact⟨0,by omega,(ww hi hc).mpr r⟩
    ·exact⟨1+t,by omega,(wa h hn 1 t hi hc).mpr ⟨k,hk,a,b⟩⟩
  have beq: ∀ {a b:Bool},(a=true↔b=true)->a=b:=λ{a b} h=>by cases a<;>cases b<;>simp_all
  have B:=Oh (n:=n) (λm i=>(List.range (m+1)).any (λt=>decide (RP n T t i c))) (λm i hi r=>by
   obtain⟨t,ht,r⟩:=(any_iff m i).mp r;exact(any_iff (m+1) i).mpr ⟨t,by omega,r⟩)
   (λm eq i hi=>beq (by
    have eq2: ∀k,k<n->((∃t,t<=m+1/\RP n T t k c)↔ ∃t,t<=m/\RP n T t k c):=λk hk=>by
     rw [<-any_iff (m+1) k,<-any_iff m k];have:=eq k hk;rw [this]
    rw [any_iff (m+2) i,any_iff (m+1) i,stp (m+1) i hi,stp m i hi];exact⟨λw=>w.elim .inl λ⟨k,hk,a,b⟩=> .inr ⟨k,hk,a,(eq2 k hk).mp b⟩,λw=>w.elim .inl λ⟨k,hk,a,b⟩=> .inr ⟨k,hk,a,(eq2 k hk).mpr b⟩⟩))
   K (λm hm i hi=>(any_iff m i).mpr ⟨K,hm,all K (G6 _) i c hi hc⟩) ⟨c,hc,(any_iff 0 c).mpr ⟨0,G6 _,(ww hc hc).mpr rfl⟩⟩
  refine⟨(n-1)+s*(n-1),by omega,?_,(vB (h.pow hn _)).mpr λi j hi hj=> ?_⟩
  ·have a:=Nat.mul_le_mul (show s<=5 by omega) (show n-1<=5 by omega);omega
  ·obtain⟨t,ht,r⟩:=(any_iff (n-1) i).mp (B i hi);have row: ∀j,j<n->RP n T (t+s*(n-1)) i j:=λj hj=>(wa h hn t (s*(n-1)) hi hj).mpr ⟨c,hc,r,M5 (A j hj)⟩
   have:=keep i (t+s*(n-1)) (n-1-t) hi row j hj;rw [show t+s*(n-1)+(n-1-t)=n-1+s*(n-1) by omega] at this;exact this
 ·have hn1:n=1:=by omega
  refine⟨1,G6 _,by decide,(vB (h.pow hn 1)).mpr λi j hi hj=> ?_⟩;obtain⟨k,hk,r⟩:=pre j hj;rw [show i=k by omega];exact r
end
end L2
namespace L2
open PySem PySem.Spec PyProof.Rows
def TrV (K:PySem.W.Frag)(H:Hp):V->Bool->Prop
 | .bl b,c=>c=b
 | .int i,c=>c=(i !=0)
 | .non,c=>c=false
 | .ref a,c=> ∃xs,SqL K H a xs/\c= !xs.isEmpty
 |_,_=>False
def TrD (h:HD):D->Bool->Prop
 | .bl b,c=>c=b
 | .int i,c=>c=(i !=0)
 | .non,c=>c=false
 | .lst a,c=> ∃ds,h a=some ds/\c= !ds.isEmpty
 |_,_=>False
theorem TrD.to {K:PySem.W.Frag}{H:Hp}{h:HD}{d:D}{v:V}{c:Bool}(t:TrD h d c)(r:RelD K H d v)(rh:RelH K h H):TrV K H v c:=by
 cases d<;>try exact t.elim
 ·have e:v= .non:=r;subst e;exact t
 ·have e:v= .bl _:=r;subst e;exact t
 ·have e:v= .int _:=r;subst e;exact t
 ·obtain⟨e,_⟩:=r;subst e;obtain⟨ds,hd,e⟩:=t;obtain⟨vs,hv,r'⟩:=rh _ ds hd;refine⟨vs,SqL.of hv,?_⟩;rw [e];have:=r'.length;cases ds<;>cases vs<;>first|rfl|(simp at this)
section
variable {X:Cx}{pins:List (Addr×Obj)}{σ:St}{H:Hp}{s:Shared}{E:Value->Shared->Prop}
theorem Inv.trv {v:V}{u:Value}{c:Bool}{Q:Bool->Shared->Prop}(I:Inv X pins σ H s)(r:RelV v u)(t:TrV X.K H v c)(q: ∀s',Inv X pins σ H s'->Q c s'):wpAny (model X.prog X.w) X.A (truthy u) Q E s:=by
 cases v<;>try exact t.elim
 ·have e:u=Value.none:=r;subst e;have e:c=false:=t;subst e;exact truthy_none (q _ I)
 ·have e:u=Value.bool _:=r;subst e;have e:c=_:=t;subst e;exact N5 (q _ I)
 ·obtain⟨t',e⟩:=r;subst e;have e:c=_:=t;subst e;exact truthy_int (q _ I)
 ·have e:u=Value.ref _:=r;subst e;obtain⟨xs,hx,e⟩:=t;obtain⟨its,rv,p,hz⟩:=I.list hx;have hl:=rv.length;have e2:c= !its.toArray.isEmpty:=by
   rw [e];cases xs<;>cases its<;>first|rfl|(simp at hl)
  refine wpAny_truthy_list p.isList ?_ ?_
  ·have:xs.length<=16777216:=R6 hz (by decide);simp only [P4];have e3:((2:Int)^63)=9223372036854775808:=by decide
   rw [e3];omega
  ·rw [<-e2];exact q _ (I.tok _)
end
section
variable {X:Cx}{a b:Expr}{rest:List Expr}{pos:Pos}
def EZ (K:PySem.W.Frag)(t:TE):TT:=λσ H Q=>t σ H λx H1=> ∃c,TrV K H1 x c/\Q c H1
theorem Oi {e:Expr}{t:TE}(h:PE X e t)(he: ∀whole,isTrue e X.env whole=(do let v <-whole;standAt e.pos;holding [v] (truthy v)):=by intro _;rfl):PT X e (EZ X.K t):=by
 intro pins s σ H Q I hw;refine isTrue_plain (thn (h pins s σ H _ I hw) λv s1 ⟨x,H1,I1,r1,q1⟩=> ?_) (he _);obtain⟨c,t1,q⟩:=q1;exact I1.trv r1 t1 λs' I'=>⟨H1,I',q⟩
def Sa (t:TED):TTD:=λσ h Q=>t σ h λx h1=> ∃c,TrD h1 x c/\Q c h1
variable {K:PySem.W.Frag}
theorem Oj {t:TED}: ∀σ H Q,LT K (Sa t) σ H Q->EZ K (LE K t) σ H Q:=λσ H Q ⟨σd,h,Qd,rs,rh,t,p⟩=>
 LE.bind rs rh t λd v h1 H1 k1 rs1 rh1 r1 ⟨k,e,q⟩=>⟨k,e.to r1 rh1,p k h1 H1 k1 rh1 q⟩
theorem Ee {ta:TED}(ha:JE X a ta)(he: ∀whole,isTrue a X.env whole=(do let v <-whole;standAt a.pos;holding [v] (truthy v)):=by intro _;rfl):JT X a (Sa ta):=⟨(Oi ha.to he).imp Oj⟩
end
end L2
namespace L2
open PySem PySem.Spec PyProof.Rows PySem.SeqAt
section
variable {n e:Nat}{T:List (List Int)}
theorem UJ (h:Sq n e T)(hn:n<=8){a b i j k:Nat}(hi:i<n)(hk:k<n)(hj:j<n)(x:RP n T a i k)(y:RP n T b k j):RP n T (a+b) i j:=(wa h hn a b hi hj).mpr ⟨k,hk,x,y⟩
theorem Cb (h:Sq n e T)(hn:n<=8){k:Nat}:zm (zl n T k)=true↔ ∀i j,i<n->j<n->RP n T k i j:=vB (h.pow hn k)
theorem WW (h:Sq n e T)(hn:n<=8){i j:Nat}:RP n T 1 i j↔ent T i j≠0:=by unfold RP;rw [Pj h hn]
end
theorem RZ {n:Nat}{o:List Nat}(ho:Ordr n o){i:Nat}(hi:i<n):o.getD i 0<n/\atI (o.map λ(k:Nat)=>D.int (k:Int)) (i:Int)=some (.int ((o.getD i 0:Nat):Int)):=by
 have hi':i<o.length:=by rw [ho.ord.len];exact hi
 rw [D2,G1 hi'];exact⟨P2.mp (ho.mem_iff.mp (R9 hi')),wu (by rw [P9,G1 hi'];rfl)⟩
end L2
namespace L2
theorem IsS.ext {n:Nat}{S S':List Nat}(h:IsS n S)(h':IsS n S')(m: ∀j,j∈S↔j∈S'):S=S':=by
 obtain⟨p,rfl⟩:=h;obtain⟨q,rfl⟩:=h';refine K8 λj hj=> ?_
 have:=m j;rw [S2,S2] at this;have e:p j=true↔q j=true:=⟨λz=>(this.mp ⟨hj,z⟩).2,λz=>(this.mpr ⟨hj,z⟩).2⟩;cases hp:p j<;>cases hq:q j<;>simp_all
inductive Made (L:List Nat):Nat->Prop
 |z:Made L 0
 |s {n l:Nat}:Made L n->l∈L->Made L (n+l)
theorem XL: ∀ (L:List Nat) (g d:Nat),d∣L.foldl Nat.gcd g↔d∣g/\ ∀l∈L,d∣l
 | [],g,d=>by simp
 |x::L,g,d=>by
  show d∣L.foldl Nat.gcd (Nat.gcd g x)↔_;rw [XL L,Nat.dvd_gcd_iff];simp only [R5,forall_eq_or_imp];exact⟨λ⟨⟨a,b⟩,c⟩=>⟨a,b,c⟩,λ⟨a,b,c⟩=>⟨⟨a,b⟩,c⟩⟩
end L2
namespace HT
open PySem PyProof.Rows
section
variable {prog:Program}{w:World}{A:Around}{E:Value->Shared->Prop}{σ α β:Type}{J:Shared->Prop}
def Tm (prog:Program)(w:World)(A:Around)(E:Value->Shared->Prop)(J:Shared->Prop){σ α:Type}(m:StateT σ Sem α)(Q:α->σ->Prop)(st:σ):Prop:=
 ∀s,J s->wpAny (model prog w) A (m.run st) (λr s'=>Q r.1 r.2/\J s') E s
theorem Tm.pure {a:α}{Q:α->σ->Prop}{st:σ}(h:Q a st):Tm prog w A E J (Pure.pure a:StateT σ Sem α) Q st:=λs j=>by
 rw [StateT.run_pure];exact P1 ⟨h,j⟩
theorem Tm.bind {m:StateT σ Sem α}{f:α->StateT σ Sem β}{Q:β->σ->Prop}{st:σ}(h:Tm prog w A E J m (λa st'=>Tm prog w A E J (f a) Q st') st):Tm prog w A E J (m >>= f) Q st:=λs j=>by
 rw [StateT.run_bind];exact wpAny_bind (S3 (h s j) (λr s' x=>x.1 s' x.2) λ_ _ e=>e)
theorem Tm.get {Q:σ->σ->Prop}{st:σ}(h:Q st st):Tm prog w A E J (MonadState.get:StateT σ Sem σ) Q st:=λs j=>by
 show wpAny _ _ ((StateT.get:StateT σ Sem σ).run st) _ _ _;exact P1 ⟨h,j⟩
theorem Tm.mono {m:StateT σ Sem α}{Q Q':α->σ->Prop}{st:σ}(h:Tm prog w A E J m Q st)(q: ∀a st',Q a st'->Q' a st'):Tm prog w A E J m Q' st:=λs j=>
 S3 (h s j) (λr s' x=>⟨q _ _ x.1,x.2⟩) λ_ _ e=>e
theorem Tm.range' {f:Nat->β->StateT σ Sem (ForInStep β)}(I:Nat->β->σ->Prop){Q:β->σ->Prop}{b:Nat}(step: ∀i c st,i<b->I i c st->Tm prog w A E J (f i c) (λr st'=>match r with| .done c'=>Q c' st'| .yield c'=>I (i+1) c' st') st)(fin: ∀c st,I b c st->Q c st):
 ∀ (k i:Nat) (c:β) (st:σ),i+k=b->I i c st->Tm prog w A E J (forIn (List.range' i k) c f) Q st
 |0,i,c,st,e,h=>by
  rw [List.range'_zero,List.forIn_nil];exact .pure (fin c st (by rw [<-e];exact h))
 |k+1,i,c,st,e,h=>by
  rw [G0E,Y0];refine .bind ((step i c st (by omega) h).mono λr st' x=> ?_);cases r with
  |done c'=>exact .pure x
  |yield c'=>exact Tm.range' I step fin k (i+1) c' st' (by omega) x
theorem Tm.range {f:Nat->β->StateT σ Sem (ForInStep β)}(I:Nat->β->σ->Prop){Q:β->σ->Prop}{a b:Nat}{c:β}{st:σ}(hab:a<=b)(h:I a c st)(step: ∀i c st,i<b->I i c st->Tm prog w A E J (f i c) (λr st'=>match r with| .done c'=>Q c' st'| .yield c'=>I (i+1) c' st') st)(fin: ∀c st,I b c st->Q c st):
 Tm prog w A E J (forIn [a:b] c f) Q st:=λs j=>by
 rw [K6];have e:([a:b]:Std.Legacy.Range).size=b-a:=by simp [Std.Legacy.Range.size]
 rw [e];exact Tm.range' I step fin (b-a) a c st (by omega) h s j
end
section
variable {prog:Program}{w:World}{A:Around}{E:Value->Shared->Prop}{J:Shared->Prop}{κ:SortKind}{U:Keyed->Prop}{R:Keyed->Keyed->Bool}
def Yz (prog:Program)(w:World)(A:Around)(J:Shared->Prop)(κ:SortKind)(U:Keyed->Prop)(R:Keyed->Keyed->Bool):Prop:=
 ∀x y,U x->U y-> ∀s,J s->wpAny (model prog w) A (keyLt' κ x.1 y.1) (λb s'=>b=R x y/\J s') (λ_ _=>False) s
theorem Tm.lt {x y:Keyed}{st:SortSt}{Q:Option Bool->SortSt->Prop}(a:Yz prog w A J κ U R)(k:kindOf st=κ)(hx:U x)(hy:U y)(q:Q (some (R x y)) st):Tm prog w A E J (lt' x y) Q st:=by
 rw [lt'_eq];refine .bind (.get ?_);rw [k];intro s j;rw [StateT.run_bind];refine wpAny_bind ?_;show wpAny _ _ ((StateT.lift _:StateT SortSt Sem _).run st) _ _ _;rw [StateT.run_lift];refine wpAny_bind (wpAny_attempt (S3 (a x y hx hy s j) (λb s' x=> ?_) λ_ _ e=>e.elim));obtain⟨rfl,j'⟩:=x;exact P1 (Tm.pure (prog:=prog) (w:=w) (A:=A) (E:=E) (J:=J) q s' j')
theorem Tm.elem {arr:Array Keyed}{i:Nat}{x:Keyed}{st:SortSt}{Q:Keyed->SortSt->Prop}(e:arr[i]? =some x)(q:Q x st):Tm prog w A E J (elem' arr i) Q st:=by
 rw [elem'_eq,e];exact .pure q
theorem Ol {n lo hi:Nat}{g:Nat->Bool}{st:SortSt}{f:Nat->Option (Option Nat)×Nat×Nat->StateT SortSt Sem (ForInStep (Option (Option Nat)×Nat×Nat))}(anti: ∀i j,i<=j->j<n->g j=true->g i=true)
 (h1:lo<=hi)(h2:hi<=n)(a1: ∀i,i<lo->g i=true)(a2: ∀i,hi<=i->i<n->g i=false)
 (stop: ∀i l,Tm prog w A E J (f i (none,l,l)) (λr st'=>st'=st/\r= .done (none,l,l)) st)
 (step: ∀i l u,l<u->u<=n->Tm prog w A E J (f i (none,l,u)) (λr st'=>st'=st/\r=if g (l+(u-l) / 2)=true then .yield (none,l+(u-l) / 2+1,u) else .yield (none,l,l+(u-l) / 2)) st):
 Tm prog w A E J (forIn [0:n] (none,lo,hi) f) (λc st'=>st'=st/\c.1=none/\c.2.2<=n/\(∀i,i<c.2.2->g i=true)/\ ∀i,c.2.2<=i->i<n->g i=false) st:=by
 have no: ∀i j,i<=j->j<n->g i=false->g j=false:=λi j hij hj z=>by
  cases hb:g j with
  |false=>rfl
  |true=>rw [anti i j hij hj hb] at z;cases z
 refine Tm.range (λi c st'=>st'=st/\c.1=none/\c.2.1<=c.2.2/\c.2.2<=n/\(∀i,i<c.2.1->g i=true)/\(∀i,c.2.2<=i->i<n->g i=false)/\c.2.2-c.2.1+i<=n) (Nat.zero_le _) ⟨rfl,rfl,h1,h2,a1,a2,by dsimp only;omega⟩ ?_ ?_
 ·rintro i ⟨r,l,u⟩ _ hi ⟨rfl,hr,b1,b2,b3,b4,b5⟩;dsimp only at hr b1 b2 b3 b4 b5;subst hr
  by_cases z:l=u
  ·subst z;refine(stop i l).mono ?_;rintro _ _ ⟨rfl,rfl⟩;exact⟨rfl,rfl,b2,b3,b4⟩
  ·refine(step i l u (by omega) b2).mono ?_;rintro _ _ ⟨rfl,rfl⟩;cases hg:g (l+(u-l) / 2) with
   |true=>
    rw [if_pos rfl];exact⟨rfl,rfl,by dsimp only;omega,b2,λj hj=>anti j _ (by dsimp only at hj;omega) (by omega) hg,b4,by dsimp only;omega⟩
   |false=>
    rw [if_neg (by decide)];exact⟨rfl,rfl,by dsimp only;omega,by dsimp only;omega,b3,λj hj hn=>no _ j hj hn hg,by dsimp only;omega⟩
 ·rintro ⟨r,l,u⟩ _ ⟨rfl,hr,b1,b2,b3,b4,b5⟩;dsimp only at hr b1 b2 b3 b4 b5 ⊢;exact⟨rfl,hr,b2,λj hj=>b3 j (by omega),b4⟩
def gal:Bool->Keyed->Array Keyed->Nat->Nat->Nat->StateT SortSt Sem (Option Nat):=sortPriv% PySem.Builtin.gallop
def byd (R:Keyed->Keyed->Bool)(left:Bool)(key:Keyed)(arr:Array Keyed)(base i:Nat):Bool:=
 match arr[base+i]? with
 |some x=>if left=true then R x key else !R key x
 |none=>false
theorem Pz {left:Bool}{key:Keyed}{arr:Array Keyed}{base n hint:Nat}{st:SortSt}{Q:Option Nat->SortSt->Prop}(a:Yz prog w A J κ U R)(k:kindOf st=κ)(uk:U key)(ua: ∀i,i<n-> ∃x,arr[base+i]? =some x/\U x)
 (anti: ∀i j,i<=j->j<n->byd R left key arr base j=true->byd R left key arr base i=true)(hh:hint<n)
 (q: ∀m,m<=n->(∀i,i<m->byd R left key arr base i=true)->(∀i,m<=i->i<n->byd R left key arr base i=false)->Q (some m) st):Tm prog w A E J (gal left key arr base n hint) Q st:=by
 have ask: ∀i (Q':Option Bool->SortSt->Prop),i<n->Q' (some (byd R left key arr base i)) st->Tm prog w A E J (do let x <-elem' arr (base+i);if left=true then lt' x key else do let b <-lt' key x;Pure.pure (b.map λz=> !z)) Q' st:=λi Q' hi q'=>by
  obtain⟨x,ex,ux⟩:=ua i hi;refine .bind (.elem ex ?_);unfold byd at q';rw [ex] at q';cases left with
  |true=>exact .lt a k ux uk q'
  |false=>exact .bind (.lt a k uk ux (.pure q'))
 have no: ∀i j,i<=j->j<n->byd R left key arr base i=false->byd R left key arr base j=false:=λi j hij hj z=>by
  cases hb:byd R left key arr base j with
  |false=>rfl
  |true=>rw [anti i j hij hj hb] at z;cases z
 unfold gal;refine .bind (ask hint _ hh ?_);dsimp only;cases hb:byd R left key arr base hint with
 |true=>
  rw [if_pos rfl];refine .bind (Tm.mono (Tm.range (λi c st'=>st'=st/\c.1=none/\c.2.1<c.2.2/\hint+c.2.1<n/\byd R left key arr base (hint+c.2.1)=true/\i+1<=c.2.2)
   (Q:=λc st'=>st'=st/\c.1=none/\c.2.1<c.2.2/\hint+c.2.1<n/\byd R left key arr base (hint+c.2.1)=true/\(n-hint<=c.2.2\/byd R left key arr base (hint+c.2.2)=false)) (T7 _) ⟨rfl,rfl,by decide,by omega,by simpa using hb,by decide⟩ ?_ ?_) ?_)
  ·rintro i ⟨r,lo,of⟩ _ hi ⟨rfl,hr,h1,h2,h3,h4⟩;dsimp only at hr h1 h2 h3 h4 ⊢;subst hr
   by_cases z:of>=n-hint
   ·rw [if_pos z];exact .pure ⟨rfl,rfl,h1,h2,h3,.inl z⟩
   ·rw [if_neg z];refine .bind (ask (hint+of) _ (by omega) ?_);dsimp only;cases hc:byd R left key arr base (hint+of) with
    |true=>exact .pure ⟨rfl,rfl,by dsimp only;omega,by dsimp only;omega,hc,by dsimp only;omega⟩
    |false=>exact .pure ⟨rfl,rfl,h1,h2,h3,.inr hc⟩
  ·rintro ⟨r,lo,of⟩ _ ⟨rfl,hr,h1,h2,h3,h4⟩;exact⟨rfl,hr,h1,h2,h3,.inl (by dsimp only at h4 ⊢;omega)⟩
  ·rintro ⟨r,lo,of⟩ _ ⟨rfl,hr,h1,h2,h3,h4⟩;dsimp only at hr h1 h2 h3 h4 ⊢;subst hr;dsimp only;refine .bind (Tm.mono (Ol (g:=byd R left key arr base) anti (by omega) (by omega) (λi hi=>anti i _ (by omega) h2 h3) (λi hi hn=> ?_) (λi l=> ?_) (λi l u hl hu=> ?_)) ?_)
   ·rcases h4 with z|z
    ·omega
    ·exact no (hint+of) i (by omega) hn z
   ·rw [if_pos (G6 l)];exact .pure ⟨rfl,rfl⟩
   ·rw [if_neg (show ¬l>=u by omega)];refine .bind (ask (l+(u-l) / 2) _ (by omega) ?_);dsimp only;cases byd R left key arr base (l+(u-l) / 2)<;>exact .pure ⟨rfl,rfl⟩
   ·rintro ⟨r,l,u⟩ _ ⟨rfl,hr,b2,b3,b4⟩;dsimp only at hr b2 b3 b4 ⊢;subst hr;exact .pure (q u b2 b3 b4)
 |false=>
  rw [if_neg (by decide)];refine .bind (Tm.mono (Tm.range (λi c st'=>st'=st/\c.1=none/\c.2.1<c.2.2/\c.2.1<=hint/\byd R left key arr base (hint-c.2.1)=false/\i+1<=c.2.2)
   (Q:=λc st'=>st'=st/\c.1=none/\c.2.1<c.2.2/\c.2.1<=hint/\byd R left key arr base (hint-c.2.1)=false/\(hint+1<=c.2.2\/byd R left key arr base (hint-c.2.2)=true)) (Nat.zero_le _) ⟨rfl,rfl,by decide,by dsimp only;omega,by simpa using hb,by decide⟩ ?_ ?_) ?_)
  ·rintro i ⟨r,lo,of⟩ _ hi ⟨rfl,hr,h1,h2,h3,h4⟩;dsimp only at hr h1 h2 h3 h4 ⊢;subst hr
   by_cases z:of>=hint+1
   ·rw [if_pos z];exact .pure ⟨rfl,rfl,h1,h2,h3,.inl z⟩
   ·rw [if_neg z];refine .bind (ask (hint-of) _ (by omega) ?_);dsimp only;cases hc:byd R left key arr base (hint-of) with
    |false=>exact .pure ⟨rfl,rfl,by dsimp only;omega,by dsimp only;omega,hc,by dsimp only;omega⟩
    |true=>exact .pure ⟨rfl,rfl,h1,h2,h3,.inr hc⟩
  ·rintro ⟨r,lo,of⟩ _ ⟨rfl,hr,h1,h2,h3,h4⟩;exact⟨rfl,hr,h1,h2,h3,.inl (by dsimp only at h4 ⊢;omega)⟩
  ·rintro ⟨r,lo,of⟩ _ ⟨rfl,hr,h1,h2,h3,h4⟩;dsimp only at hr h1 h2 h3 h4 ⊢;subst hr;dsimp only;refine .bind (Tm.mono (Ol (g:=byd R left key arr base) anti (by omega) (by omega) (λi hi=> ?_) (λi hi hn=>no _ i hi hn h3) (λi l=> ?_) (λi l u hl hu=> ?_)) ?_)
   ·rcases h4 with z|z
    ·omega
    ·exact anti i (hint-of) (by omega) (by omega) z
   ·rw [if_pos (G6 l)];exact .pure ⟨rfl,rfl⟩
   ·rw [if_neg (show ¬l>=u by omega)];refine .bind (ask (l+(u-l) / 2) _ (by omega) ?_);dsimp only;cases byd R left key arr base (l+(u-l) / 2)<;>exact .pure ⟨rfl,rfl⟩
   ·rintro ⟨r,l,u⟩ _ ⟨rfl,hr,b2,b3,b4⟩;dsimp only at hr b2 b3 b4 ⊢;subst hr;exact .pure (q u b2 b3 b4)
end
section
variable {κ:Type}{U:κ->Prop}{R:κ->κ->Bool}{al bl:List κ}
structure Ordd (U:κ->Prop)(R:κ->κ->Bool):Prop where
 asym: ∀x y,U x->U y->R x y=true->R y x=false
 neg: ∀x y z,U x->U y->U z->R x z=true->R x y=true\/R y z=true
theorem Ordd.refl (o:Ordd U R){x:κ}(u:U x):R x x=false:=by
 cases h:R x x with
 |false=>rfl
 |true=>have:=o.asym x x u u h;rw [h] at this;exact this
theorem Ordd.trans (o:Ordd U R){x y z:κ}(ux:U x)(uy:U y)(uz:U z)(a:R y x=false)(b:R z y=false):R z x=false:=by
 cases h:R z x with
 |false=>rfl
 |true=>
  rcases o.neg z y x uz uy ux h with z|z
  ·rw [b] at z;cases z
  ·rw [a] at z;cases z
abbrev Srt (R:κ->κ->Bool)(l:List κ):Prop:=l.Pairwise λx y=>R y x=false
structure MI (R:κ->κ->Bool)(al bl:List κ)(ia ib:Nat)(out:List κ):Prop where
 perm:out.Perm (al.take ia++bl.take ib)
 srt:Srt R out
 ra: ∀x∈out,∀y∈al.drop ia,R y x=false
 rb: ∀x∈out,∀y∈bl.drop ib,R y x=false
theorem zg {l:List κ}{i:Nat}{y:κ}(h:l[i]? =some y):l.drop i=y::l.drop (i+1):=by
 obtain⟨hi,e⟩:=G5.mp h;rw [Q5 hi,e]
theorem ZP {l:List κ}{i:Nat}{y:κ}(h:l[i]? =some y):l.take (i+1)=l.take i++ [y]:=by
 rw [M1,h];rfl
theorem MI.start (al bl:List κ):MI R al bl 0 0 []:=⟨.refl _,.nil,λx hx=>(N8 hx).elim,λx hx=>(N8 hx).elim⟩
variable {ia ib:Nat}
theorem MI.pushB {out:List κ}{y:κ}(m:MI R al bl ia ib out)(o:Ordd U R)(ua: ∀x∈al,U x)(ub: ∀x∈bl,U x)(sa:Srt R al)(sb:Srt R bl)(hy:bl[ib]? =some y)(lt: ∀z,al[ia]? =some z->R y z=true):MI R al bl ia (ib+1) (out++ [y]):=by
 have dy:=zg hy;have uy:=ub y (G9 hy);have sdb:Srt R (bl.drop ib):=sb.sublist (N9 _ _);rw [dy] at sdb;refine⟨?_,?_,λx hx z hz=> ?_,λx hx z hz=> ?_⟩
 ·rw [ZP hy,<-G8];exact m.perm.append_right _
 ·refine R7.mpr ⟨m.srt,T4 _ _,λx hx z hz=> ?_⟩;rw [G2.mp hz];exact m.rb x hx y (by rw [dy];exact P8 ..)
 ·rcases D4.mp hx with w|w
  ·exact m.ra x w z hz
  ·rw [G2.mp w];cases e:al[ia]? with
   |none=>rw [N2 (G0k.mp e)] at hz;cases hz
   |some a0=>
    have da:=zg e;have ua0:=ua a0 (G9 e);have sda:Srt R (al.drop ia):=sa.sublist (N9 _ _);rw [da] at sda hz;have l0:=o.asym y a0 uy ua0 (lt a0 e);rcases R5.mp hz with v|v
    ·rw [v];exact l0
    ·exact o.trans uy ua0 (ua z (T3 v)) l0 ((J3.mp sda).1 z v)
 ·rcases D4.mp hx with w|w
  ·exact m.rb x w z (by rw [dy];exact D8 _ hz)
  ·rw [G2.mp w];exact(J3.mp sdb).1 z hz
theorem MI.pushA {out:List κ}{y:κ}(m:MI R al bl ia ib out)(o:Ordd U R)(ua: ∀x∈al,U x)(ub: ∀x∈bl,U x)(sa:Srt R al)(sb:Srt R bl)(hy:al[ia]? =some y)(ge: ∀z,bl[ib]? =some z->R z y=false):MI R al bl (ia+1) ib (out++ [y]):=by
 have dy:=zg hy;have uy:=ua y (G9 hy);have sda:Srt R (al.drop ia):=sa.sublist (N9 _ _);rw [dy] at sda;refine⟨?_,?_,λx hx z hz=> ?_,λx hx z hz=> ?_⟩
 ·rw [ZP hy];refine(m.perm.append_right [y]).trans ?_;rw [G8,G8];exact(K0).append_left _
 ·refine R7.mpr ⟨m.srt,T4 _ _,λx hx z hz=> ?_⟩;rw [G2.mp hz];exact m.ra x hx y (by rw [dy];exact P8 ..)
 ·rcases D4.mp hx with w|w
  ·exact m.ra x w z (by rw [dy];exact D8 _ hz)
  ·rw [G2.mp w];exact(J3.mp sda).1 z hz
 ·rcases D4.mp hx with w|w
  ·exact m.rb x w z hz
  ·rw [G2.mp w];cases e:bl[ib]? with
   |none=>rw [N2 (G0k.mp e)] at hz;cases hz
   |some b0=>
    have db:=zg e;have ub0:=ub b0 (G9 e);have sdb:Srt R (bl.drop ib):=sb.sublist (N9 _ _);rw [db] at sdb hz;have l0:=ge b0 e;rcases R5.mp hz with v|v
    ·rw [v];exact l0
    ·exact o.trans uy ub0 (ub z (T3 v)) l0 ((J3.mp sdb).1 z v)
theorem MI.manyA (o:Ordd U R)(ua: ∀x∈al,U x)(ub: ∀x∈bl,U x)(sa:Srt R al)(sb:Srt R bl): ∀ (k:Nat) {ia:Nat} {out:List κ},MI R al bl ia ib out->ia+k<=al.length->(∀i,i<k-> ∀y,al[ia+i]? =some y-> ∀z,bl[ib]? =some z->R z y=false)->MI R al bl (ia+k) ib (out++(al.drop ia).take k)
 |0,ia,out,m,_,_=>by rw [G01,C3];exact m
 |k+1,ia,out,m,hk,h=>by
  obtain⟨y,hy⟩: ∃y,al[ia]? =some y:=⟨_,G1 (by omega)⟩;have m1:=m.pushA o ua ub sa sb hy (h 0 (by omega) y hy);have:=MI.manyA o ua ub sa sb k m1 (by omega) (λi hi y hy=>h (i+1) (by omega) y (by rw [show ia+(i+1)=ia+1+i by omega];exact hy));rw [show ia+(k+1)=ia+1+k by omega,zg hy,G06,List.append_cons];exact this
theorem MI.manyB (o:Ordd U R)(ua: ∀x∈al,U x)(ub: ∀x∈bl,U x)(sa:Srt R al)(sb:Srt R bl): ∀ (k:Nat) {ib:Nat} {out:List κ},MI R al bl ia ib out->ib+k<=bl.length->(∀i,i<k-> ∀y,bl[ib+i]? =some y-> ∀z,al[ia]? =some z->R y z=true)->MI R al bl ia (ib+k) (out++(bl.drop ib).take k)
 |0,ib,out,m,_,_=>by rw [G01,C3];exact m
 |k+1,ib,out,m,hk,h=>by
  obtain⟨y,hy⟩: ∃y,bl[ib]? =some y:=⟨_,G1 (by omega)⟩;have m1:=m.pushB o ua ub sa sb hy (h 0 (by omega) y hy);have:=MI.manyB o ua ub sa sb k m1 (by omega) (λi hi y hy=>h (i+1) (by omega) y (by rw [show ib+(i+1)=ib+1+i by omega];exact hy));rw [show ib+(k+1)=ib+1+k by omega,zg hy,G06,List.append_cons];exact this
theorem MI.all {out:List κ}(m:MI R al bl al.length bl.length out):out.Perm (al++bl)/\Srt R out:=by
 have:=m.perm;rw [J0,J0] at this;exact⟨this,m.srt⟩
theorem MI.done {out:List κ}(m:MI R al bl ia ib out)(o:Ordd U R)(ua: ∀x∈al,U x)(ub: ∀x∈bl,U x)(sa:Srt R al)(sb:Srt R bl)(ha:ia<=al.length)(hb:ib<=bl.length)(h:ia=al.length\/ib=bl.length):(out++al.drop ia++bl.drop ib).Perm (al++bl)/\Srt R (out++al.drop ia++bl.drop ib):=by
 have m1:=MI.manyA o ua ub sa sb (al.length-ia) m (by omega) (λi hi y hy z hz=>by
  have:=(G5.mp hz).1;omega)
 rw [show ia+(al.length-ia)=al.length by omega,R0 (by rw [S4];exact G6 _)] at m1;have m2:=MI.manyB o ua ub sa sb (bl.length-ib) m1 (by omega) (λi hi y hy z hz=>by
  have:=(G5.mp hz).1;omega)
 rw [show ib+(bl.length-ib)=bl.length by omega,R0 (l:=bl.drop ib) (by rw [S4];exact G6 _)] at m2;exact m2.all
theorem MI.lastA {out:List κ}(m:MI R al bl ia ib out)(o:Ordd U R)(ua: ∀x∈al,U x)(ub: ∀x∈bl,U x)(sa:Srt R al)(sb:Srt R bl)(ha:ia+1=al.length)(hb:ib<=bl.length)(h: ∀y∈bl,∀z,al[al.length-1]? =some z->R y z=true):(out++bl.drop ib++al.drop ia).Perm (al++bl)/\Srt R (out++bl.drop ib++al.drop ia):=by
 have m2:=MI.manyB o ua ub sa sb (bl.length-ib) m (by omega) (λi hi y hy z hz=>h y (G9 hy) z (by rw [<-ha];exact hz));rw [show ib+(bl.length-ib)=bl.length by omega,R0 (by rw [S4];exact G6 _)] at m2;have m1:=MI.manyA o ua ub sa sb (al.length-ia) m2 (by omega) (λi hi y hy z hz=>by
  have:=(G5.mp hz).1;omega)
 rw [show ia+(al.length-ia)=al.length by omega,R0 (l:=al.drop ia) (by rw [S4];exact G6 _)] at m1;exact m1.all
end
section
variable {prog:Program}{w:World}{A:Around}{E:Value->Shared->Prop}{J:Shared->Prop}{κ:SortKind}{U:Keyed->Prop}{R:Keyed->Keyed->Bool}
theorem Tm.rule {σ:Type}{x:String}{Q:Unit->σ->Prop}{st:σ}(q:Q () st):Tm prog w A E J (liftM (PySem.rule x):StateT σ Sem Unit) Q st:=λs j=>by
 show wpAny _ _ ((StateT.lift _:StateT σ Sem _).run st) _ _ _;rw [StateT.run_lift];exact wpAny_bind (X5 (P1 ⟨q,j⟩))
theorem Tm.modify {σ:Type}{f:σ->σ}{Q:Unit->σ->Prop}{st:σ}(q:Q () (f st)):Tm prog w A E J (_root_.modify f:StateT σ Sem PUnit) Q st:=λs j=>by
 rw [StateT.run_modify];exact P1 ⟨q,j⟩
def mLo:Array Keyed->Array Keyed->StateT SortSt Sem (Array Keyed):=sortPriv% PySem.Builtin.mergeLo
def Gal (st st':SortSt):Prop:=kindOf st'=kindOf st/\arrOf st'=arrOf st/\pendingOf st'=pendingOf st/\failedOf st'=failedOf st
theorem Gal.refl (st:SortSt):Gal st st:=⟨rfl,rfl,rfl,rfl⟩
theorem Ze (a:Array Keyed)(i:Nat):(a.extract i).toList=a.toList.drop i:=by
 rw [A6,List.extract_eq_drop_take];exact R0 (by simp)
theorem XM (a:Array Keyed)(i k:Nat):(a.extract i (i+k)).toList=(a.toList.drop i).take k:=by
 rw [A6,List.extract_eq_drop_take,G0A]
def yH (R:Keyed->Keyed->Bool)(a b c:Array Keyed):Prop:=c.toList.Perm (a.toList++b.toList)/\Srt R c.toList
structure Two (U:Keyed->Prop)(R:Keyed->Keyed->Bool)(a b:Array Keyed):Prop where
 o:Ordd U R
 ua: ∀x∈a.toList,U x
 ub: ∀x∈b.toList,U x
 sa:Srt R a.toList
 sb:Srt R b.toList
 last: ∀y∈b.toList,∀z,a.toList[a.toList.length-1]? =some z->R y z=true
abbrev MA (R:Keyed->Keyed->Bool)(a b:Array Keyed)(ia ib:Nat)(out:Array Keyed):Prop:=MI R a.toList b.toList ia ib out.toList
section
variable {a b out:Array Keyed}{ia ib:Nat}
theorem MA.done (t:Two U R a b)(m:MA R a b ia ib out)(ha:ia<=a.size)(hb:ib<=b.size)(h:ia=a.size\/ib=b.size):yH R a b (out++a.extract ia++b.extract ib):=by
 have:=MI.done m t.o t.ua t.ub t.sa t.sb (by simpa using ha) (by simpa using hb) (by simpa using h);unfold yH;rw [T8,T8,Ze,Ze];exact this
theorem MA.lastA (t:Two U R a b)(m:MA R a b ia ib out)(ha:ia+1=a.size)(hb:ib<=b.size):yH R a b (out++b.extract ib++a.extract ia):=by
 have:=MI.lastA m t.o t.ua t.ub t.sa t.sb (by simpa using ha) (by simpa using hb) t.last;unfold yH;rw [T8,T8,Ze,Ze];exact this
theorem MA.pushB (t:Two U R a b){y:Keyed}(m:MA R a b ia ib out)(hy:b.toList[ib]? =some y)(lt: ∀z,a.toList[ia]? =some z->R y z=true):MA R a b ia (ib+1) (out.push y):=by
 have:=MI.pushB m t.o t.ua t.ub t.sa t.sb hy lt;show MI R _ _ _ _ (out.push y).toList;rw [E3];exact this
theorem MA.pushA (t:Two U R a b){y:Keyed}(m:MA R a b ia ib out)(hy:a.toList[ia]? =some y)(ge: ∀z,b.toList[ib]? =some z->R z y=false):MA R a b (ia+1) ib (out.push y):=by
 have:=MI.pushA m t.o t.ua t.ub t.sa t.sb hy ge;show MI R _ _ _ _ (out.push y).toList;rw [E3];exact this
theorem MA.manyA (t:Two U R a b)(m:MA R a b ia ib out)(k:Nat)(hk:ia+k<=a.size)(h: ∀i,i<k-> ∀y,a.toList[ia+i]? =some y-> ∀z,b.toList[ib]? =some z->R z y=false):MA R a b (ia+k) ib (out++a.extract ia (ia+k)):=by
 have:=MI.manyA t.o t.ua t.ub t.sa t.sb k m (by simpa using hk) h;show MI R _ _ _ _ (out++a.extract ia (ia+k)).toList;rw [T8,XM];exact this
theorem MA.manyB (t:Two U R a b)(m:MA R a b ia ib out)(k:Nat)(hk:ib+k<=b.size)(h: ∀i,i<k-> ∀y,b.toList[ib+i]? =some y-> ∀z,a.toList[ia]? =some z->R y z=true):MA R a b ia (ib+k) (out++b.extract ib (ib+k)):=by
 have:=MI.manyB t.o t.ua t.ub t.sa t.sb k m (by simpa using hk) h;show MI R _ _ _ _ (out++b.extract ib (ib+k)).toList;rw [T8,XM];exact this
end
variable {arr:Array Keyed}{base:Nat}
theorem wZ {left:Bool}{key x:Keyed}{i:Nat}(h:arr.toList[base+i]? =some x):byd R left key arr base i=if left=true then R x key else !R key x:=by
 unfold byd;rw [<-S9,h]
theorem ZQ {l:List Keyed}(s:Srt R l)(o:Ordd U R)(u: ∀x∈l,U x){i j:Nat}{x y:Keyed}(hij:i<=j)(hx:l[i]? =some x)(hy:l[j]? =some y):R y x=false:=by
 by_cases z:i=j
 ·subst z;rw [hx] at hy;injection hy with hy;subst hy
  exact o.refl (u x (G9 hx))
 ·obtain⟨h1,e1⟩:=G5.mp hx;obtain⟨h2,e2⟩:=G5.mp hy;have:=A3.mp s i j h1 h2 (by omega);rw [e1,e2] at this;exact this
theorem ZR {i:Nat}(h:i<arr.size): ∃x,arr.toList[i]? =some x/\arr[i]? =some x:=⟨arr[i],by simp [h],by simp [h]⟩
theorem Sb {y:Keyed}{n hint:Nat}{st:SortSt}{Q:Option Nat->SortSt->Prop}(ak:Yz prog w A J κ U R)(kd:kindOf st=κ)(o:Ordd U R)(u: ∀x∈arr.toList,U x)(s:Srt R arr.toList)(uy:U y)(hn:base+n<=arr.size)(hh:hint<n)
 (q: ∀k,k<=n->(∀i,i<k-> ∀x,arr.toList[base+i]? =some x->R y x=false)->(∀i,k<=i->i<n-> ∀x,arr.toList[base+i]? =some x->R y x=true)->Q (some k) st):Tm prog w A E J (gal false y arr base n hint) Q st:=by
 refine Pz ak kd uy (λi hi=> ?_) (λi j hij hj h=> ?_) hh (λk k1 k2 k3=>q k k1 (λi hi x hx=> ?_) (λi h1 h2 x hx=> ?_))
 ·obtain⟨x,lx,ex⟩:=ZR (show base+i<arr.size by omega);exact⟨x,ex,u x (G9 lx)⟩
 ·obtain⟨x,lx,_⟩:=ZR (show base+i<arr.size by omega);obtain⟨z,lz,_⟩:=ZR (show base+j<arr.size by omega);rw [wZ lz] at h;rw [wZ lx];have hz:R y z=false:=by simpa using h
  have:=o.trans (u x (G9 lx)) (u z (G9 lz)) uy (ZQ s o u (by omega) lx lz) hz;simp [this]
 ·have:=k2 i hi;rw [wZ hx] at this;simpa using this
 ·have:=k3 i h1 h2;rw [wZ hx] at this;simpa using this
theorem Sc {y:Keyed}{n hint:Nat}{st:SortSt}{Q:Option Nat->SortSt->Prop}(ak:Yz prog w A J κ U R)(kd:kindOf st=κ)(o:Ordd U R)(u: ∀x∈arr.toList,U x)(s:Srt R arr.toList)(uy:U y)(hn:base+n<=arr.size)(hh:hint<n)
 (q: ∀k,k<=n->(∀i,i<k-> ∀x,arr.toList[base+i]? =some x->R x y=true)->(∀i,k<=i->i<n-> ∀x,arr.toList[base+i]? =some x->R x y=false)->Q (some k) st):Tm prog w A E J (gal true y arr base n hint) Q st:=by
 refine Pz ak kd uy (λi hi=> ?_) (λi j hij hj h=> ?_) hh (λk k1 k2 k3=>q k k1 (λi hi x hx=> ?_) (λi h1 h2 x hx=> ?_))
 ·obtain⟨x,lx,ex⟩:=ZR (show base+i<arr.size by omega);exact⟨x,ex,u x (G9 lx)⟩
 ·obtain⟨x,lx,_⟩:=ZR (show base+i<arr.size by omega);obtain⟨z,lz,_⟩:=ZR (show base+j<arr.size by omega);rw [wZ lz] at h;rw [wZ lx];have hz:R z y=true:=by simpa using h
  rcases o.neg z x y (u z (G9 lz)) (u x (G9 lx)) uy hz with v|v
  ·rw [ZQ s o u (by omega) lx lz] at v;cases v
  ·simp [v]
 ·have:=k2 i hi;rw [wZ hx] at this;simpa using this
 ·have:=k3 i h1 h2;rw [wZ hx] at this;simpa using this
section
variable {σ α β γ:Type}{c:Prop}[Decidable c]{t e:StateT σ Sem α}{Q:α->σ->Prop}{st:σ}{x y:β}{z:γ}
theorem Tm.if2 (T:c->Tm prog w A E J t Q st)(F: ¬c->Tm prog w A E J e Q st):Tm prog w A E J (if c then t else e) Q st:=by
 split
 ·exact T ‹_›
 ·exact F ‹_›
theorem Tm.eq2 {x y:Nat}(T:x=y->Tm prog w A E J t Q st)(F: ¬x=y->Tm prog w A E J e Q st):Tm prog w A E J (if (x==y)=true then t else e) Q st:=
 .if2 (λh=>T (eq_of_beq h)) λh=>F λg=>h (G1e.mpr g)
theorem Tm.both {f:β->StateT σ Sem α}(he:e=f y)(ht:t=f x)(H: ∀m,Tm prog w A E J (f m) Q st):Tm prog w A E J (if c then t else e) Q st:=by
 subst he ht;exact .if2 (λ_=>H _) λ_=>H _
theorem Tm.join {f:β->γ->StateT σ Sem α}{I:β->γ->Prop}(he:e=f x z)(G: ∀m o,I m o->Tm prog w A E J (f m o) Q st)(T:c->(∀m o,I m o->Tm prog w A E J (f m o) Q st)->Tm prog w A E J t Q st)(F: ¬c->I x z):Tm prog w A E J (if c then t else e) Q st:=by
 subst he;exact .if2 (λh=>T h G) λh=>G _ _ (F h)
end
theorem OO {A B C D F:Type}{P:A×B×C×D×F->Prop}(h: ∀a b c d f,P (a,b,c,d,f)): ∀c,P c:=λc=>h c.1 c.2.1 c.2.2.1 c.2.2.2.1 c.2.2.2.2
theorem OP {A B C D F G:Type}{P:A×B×C×D×F×G->Prop}(h: ∀a b c d f g,P (a,b,c,d,f,g)): ∀c,P c:=λc=>h c.1 c.2.1 c.2.2.1 c.2.2.2.1 c.2.2.2.2.1 c.2.2.2.2.2
theorem OQ {A B C D F G H:Type}{P:A×B×C×D×F×G×H->Prop}(h: ∀a b c d f g k,P (a,b,c,d,f,g,k)): ∀c,P c:=λc=>h c.1 c.2.1 c.2.2.1 c.2.2.2.1 c.2.2.2.2.1 c.2.2.2.2.2.1 c.2.2.2.2.2.2
theorem wx {a:Array Keyed}(u: ∀x∈a.toList,U x){i:Nat}(h:i<a.size){P:Prop}(q: ∀y,a[i]? =some y->a.toList[i]? =some y->U y->P):P:=q a[i] (by simp [h]) (by simp [h]) (u _ (by simp))
structure LoI (R:Keyed->Keyed->Bool)(a b:Array Keyed)(st st':SortSt)(n:Nat)(out:Array Keyed)(ia ib:Nat):Prop where
 g:Gal st st'
 m:MA R a b ia ib out
 a:ia+1<a.size
 b:ib<b.size
 n:n<=ia+ib
def LoO (R:Keyed->Keyed->Bool)(a b:Array Keyed)(st st':SortSt)(n:Nat)(r:Option (Array Keyed))(out:Array Keyed)(ia ib:Nat):Prop:=Gal st st'/\match r with|some c=>yH R a b c|none=>LoI R a b st st' n out ia ib
section
variable {a b out:Array Keyed}{st st':SortSt}{n k ia ib:Nat}
theorem LoI.more (h:LoI R a b st st' n out ia ib)(l:k<=n):LoI R a b st st' k out ia ib:=⟨h.g,h.m,h.a,h.b,R6 l h.n⟩
theorem LoI.here (h:LoI R a b st st' n out ia ib):LoI R a b st st' (ia+ib) out ia ib:=⟨h.g,h.m,h.a,h.b,G6 _⟩
theorem LoI.at {s:SortSt}(h:LoI R a b st st' n out ia ib)(g:Gal st s)(l:k<=n):LoI R a b st s k out ia ib:=⟨g,h.m,h.a,h.b,R6 l h.n⟩
theorem LoI.never {P:Prop}(h:LoI R a b st st' n out ia ib)(l:a.size+b.size<=n):P:=absurd (R6 l h.n) (Nat.not_le_of_lt (Nat.add_lt_add (F6 h.a) h.b))
end
theorem Om {a b:Array Keyed}{st:SortSt}{Q:Array Keyed->SortSt->Prop}(ak:Yz prog w A J κ U R)(kd:kindOf st=κ)(t:Two U R a b)
 (na:1<=a.size)(nb:1<=b.size)(first: ∀y z,b.toList[0]? =some y->a.toList[0]? =some z->R y z=true)
 (q: ∀c st',Gal st st'->yH R a b c->Q c st'):Tm prog w A E J (mLo a b) Q st:=by
 refine .bind (.rule (.bind (wx t.ub nb λb0 eb0 lb0 ub0=> .elem eb0 ?_)));have m0:MA R a b 0 1 #[b0]:=MA.pushB t (out:= #[]) (MI.start _ _) lb0 (λz hz=>first _ z lb0 hz);refine .eq2 (x:=1) (y:=b.size) (λz1=> .pure (q _ _ (Gal.refl st) (MA.done t m0 (T7 _) nb (.inr z1)))) λz1=> .eq2 (x:=0+1) (y:=a.size) (λz2=> .pure (q _ _ (Gal.refl st) (MA.lastA t m0 z2 nb))) λz2=> .bind (.get ?_)
 refine .bind (Tm.mono (Tm.range (λi c st'=>LoI R a b st st' (i+1) c.2.1 c.2.2.1 c.2.2.2.1)
  (Q:=λc st'=> ∃r,c.1=some r/\Gal st st'/\yH R a b r) (T7 _) ⟨Gal.refl st,m0,B0 na z2,B0 nb z1,G6 _⟩ ?_ ?_) ?_)
 ·intro i c st1 hi;revert c;refine OO λr out ia ib mg h=> ?_
  refine .bind (Tm.mono (Tm.range (λj c st'=>LoI R a b st st' (ia+ib+j) c.2.1 c.2.2.1 c.2.2.2.1)
   (Q:=λc st'=>LoO R a b st st' (ia+ib+1) c.1 c.2.1 c.2.2.1 c.2.2.2.1) (T7 _) h.here ?_ ?_) ?_)
  ·intro j c st2 hj;revert c;refine OP λr out ja jb ac bc h=> ?_
   refine .bind (wx t.ub h.b λy ey ly uy=> .elem ey (.bind (wx t.ua (F6 h.a) λx ex lx ux=> .elem ex (.bind (.lt ak (h.g.1.trans kd) uy ux (.if2 (c:=R y x=true) (λhb=> .bind (.elem ey ?_)) λhb=> .bind (.elem ex ?_)))))))
   ·have m1:=MA.pushB t h.m ly (λz hz=>by rw [lx] at hz;injection hz with hz;rw [<-hz];exact hb);refine .eq2 (x:=jb+1) (y:=b.size) (λc1=> .pure ⟨h.g,MA.done t m1 (D6 (F6 h.a)) h.b (.inr c1)⟩) λc1=> ?_
    have d:LoI R a b st st2 (ia+ib+(j+1)) (out.push y) ja (jb+1):=⟨h.g,m1,h.a,B0 (W0 h.b) c1,W8 h.n⟩;exact .if2 (λ_=> .pure ⟨h.g,d.more (Q9 (K1 _ _) _)⟩) λ_=> .pure d
   ·have m1:=MA.pushA t h.m lx (λz hz=>by rw [ly] at hz;injection hz with hz;rw [<-hz];exact K9.mpr hb);refine .eq2 (x:=ja+1+1) (y:=a.size) (λc1=> .pure ⟨h.g,MA.lastA t m1 c1 (D6 h.b)⟩) λc1=> ?_
    have d:LoI R a b st st2 (ia+ib+(j+1)) (out.push x) (ja+1) jb:=⟨h.g,m1,B0 (W0 h.a) c1,h.b,R6 (W8 h.n) (A1 (Nat.succ_add _ _).symm)⟩;exact .if2 (λ_=> .pure ⟨h.g,d.more (Q9 (K1 _ _) _)⟩) λ_=> .pure d
  ·exact λc st2 h=>h.never (K1 _ _)
  ·intro c st2;revert c;refine OP λr out ja jb ac bc h'=> ?_
   cases r with
   |some r=>exact .pure ⟨r,rfl,h'⟩
   |none=>
   replace h':=h'.2
   refine .bind (.rule (.bind (Tm.mono (Tm.range (λj c st'=>LoI R a b st st' (ja+jb+j) c.2.1 c.2.2.1 c.2.2.2.1)
    (Q:=λc st'=>LoO R a b st st' (ja+jb) c.1 c.2.1 c.2.2.1 c.2.2.2.1) (T7 _) h'.here ?_ ?_) ?_)))
   ·clear h;intro j c st2 hj;revert c;refine OQ λr out pa pb mg ac bc h=> ?_
    refine wx t.ub h.b λy ey ly uy=> ?_
    have g2:0<a.size-pa:=Nat.sub_pos_of_lt (F6 h.a);have g1:pa+(a.size-pa)<=a.size:=A1 (Y5 (D6 (F6 h.a)));refine Tm.both (y:=mg) (x:=mg-1) (by rfl) (by rfl) λmg=> ?_
    refine .bind (Tm.modify (.bind (.elem ey (.bind (Sb (base:=pa) (n:=a.size-pa) ak (h.g.1.trans kd) t.o t.ua t.sa uy g1 g2 λk k1 k2 k3=> ?_)))));refine Tm.join (I:=λo ia=>MA R a b ia pb o/\ia+1<a.size/\pa<=ia/\ ∀x,a.toList[ia]? =some x->R y x=true) (x:=out) (z:=pa) (by rfl) ?_ ?_ ?_
    ·refine λo qa i1=> ?_
     have M2:=MA.pushB t i1.1 ly i1.2.2.2;have p1:=F6 i1.2.1;refine .bind (.elem ey (.eq2 (x:=pb+1) (y:=b.size) (λc3=> .pure ⟨h.g,MA.done t M2 (D6 p1) (A1 c3) (.inr c3)⟩) λc3=> ?_));have c8:pb+1<b.size:=B0 (W0 h.b) c3;have g2:=Nat.sub_pos_of_lt c8;refine .bind (wx t.ua p1 λx ex lx ux=> .elem ex (.bind (Sc (base:=pb+1) (n:=b.size-(pb+1)) ak (h.g.1.trans kd) t.o t.ub t.sb ux (A1 (Y5 (D6 c8))) g2 λk' q1 q2 q3=> ?_)));dsimp only;generalize ep:pb+1=p2 at M2 q1 q2 q3 c8 g2 ⊢;generalize eo:o.push y=o2 at M2 ⊢;refine Tm.join (I:=λo ib=>MA R a b qa ib o/\ib<b.size/\p2<=ib/\ ∀x',b.toList[ib]? =some x'->R x' x=false) (x:=o2) (z:=p2) (by rfl) ?_ ?_ ?_
     ·refine λo qb i2=> ?_
      have M4:=MA.pushA t i2.1 lx i2.2.2.2;refine .bind (.elem ex (.eq2 (x:=qa+1+1) (y:=a.size) (λc5=> .pure ⟨h.g,MA.lastA t M4 c5 (D6 i2.2.1)⟩) λc5=> ?_));have n1:ja+jb+j<=pa+pb:=h.n;have n2:ja+jb+(j+1)<=qa+1+qb:=by have:=i1.2.2.1;have:=i2.2.2.1;omega
      have d:LoI R a b st st2 (ja+jb+(j+1)) (o.push x) (qa+1) qb:=⟨h.g,M4,B0 (W0 i1.2.1) c5,i2.2.1,n2⟩;exact .if2 (λ_=> .pure ⟨h.g,d.at h.g (Q7 _ _)⟩) λ_=> .pure (d.at h.g (G6 _))
     ·intro kz' H;have g3:p2+k'<=b.size:=R6 (Q9 q1 _) (A1 (Y5 (D6 c8)));have M3:=MA.manyB t M2 k' g3 (λi hi y' hy z hz=>by rw [lx] at hz;injection hz with hz;rw [<-hz];exact q2 i hi y' hy);exact .eq2 (x:=p2+k') (y:=b.size) (λc4=> .pure ⟨h.g,MA.done t M3 (D6 p1) g3 (.inr c4)⟩) λc4=>H _ _ ⟨M3,B0 g3 c4,Q7 _ _,λz hz=>q3 k' (G6 _) (by omega) z hz⟩
     ·exact λkz'=>⟨M2,c8,G6 _,λz hz=>q3 0 (G0D kz') g2 z hz⟩
    ·intro kz H;have g3:pa+k<=a.size:=R6 (Q9 k1 _) g1;have m1:=MA.manyA t h.m k g3 (λi hi x hx z hz=>by rw [ly] at hz;injection hz with hz;rw [<-hz];exact k2 i hi x hx);exact .eq2 (x:=pa+k+1) (y:=a.size) (λc1=> .pure ⟨h.g,MA.lastA t m1 c1 (D6 h.b)⟩) λc1=> .eq2 (x:=pa+k) (y:=a.size) (λc2=> .pure ⟨h.g,MA.done t m1 g3 (D6 h.b) (.inl c2)⟩) λc2=>H _ _ ⟨m1,B0 (B0 g3 c2) c1,Q7 _ _,λx hx=>k3 k (G6 _) (by omega) x hx⟩
    ·exact λkz=>⟨h.m,h.a,G6 _,λx hx=>k3 0 (G0D kz) g2 x hx⟩
   ·exact λc st3 h=>h.never (K1 _ _)
   ·intro c st3;revert c;refine OQ λr out pa pb mg ac bc h3=> ?_
    cases r with
    |some r=>exact .pure ⟨r,rfl,h3⟩
    |none=>exact .bind (Tm.modify (.pure (h3.2.at h3.1 (R6 (W8 h.n) h'.n))))
 ·exact λc st1 h=>h.never (Q7 _ _)
 ·intro c st1;revert c;refine OO λr out ia ib mg h=> ?_
  obtain⟨c,rfl,gl,wh⟩:=h;exact .pure (q c st1 gl wh)
end
section
variable {prog:Program}{w:World}{A:Around}{E:Value->Shared->Prop}{J:Shared->Prop}{κ:SortKind}{U:Keyed->Prop}{R:Keyed->Keyed->Bool}
abbrev Flp (R:Keyed->Keyed->Bool):Keyed->Keyed->Bool:=λx y=>R y x
theorem Ordd.flip (o:Ordd U R):Ordd U (Flp R):=⟨λx y ux uy h=>o.asym y x uy ux h,λx y z ux uy uz h=>(o.neg z y x uz uy ux h).symm⟩
variable {l:List Keyed}
theorem zi (s:Srt R l):Srt (Flp R) l.reverse:=W5.mpr s
theorem XN (s:Srt (Flp R) l):Srt R l.reverse:=W5.mpr s
variable {n:Nat}
theorem PB (h1:1<=n)(hn:n<=l.length):l.reverse[l.length-n]? =l[n-1]? :=by
 rw [K2 (by omega)]
 congr 1;omega
theorem zS {z:Keyed}(hn:n<=l.length)(h:l.reverse[l.length-n]? =some z):1<=n/\l[n-1]? =some z:=by
 have:=(G5.mp h).1;rw [S7] at this;have n1:1<=n:=by omega
 exact⟨n1,by rw [<-PB n1 hn];exact h⟩
theorem vC (l:List Keyed){n:Nat}(hn:n<=l.length):l.reverse.drop (l.length-n)=(l.take n).reverse:=by
 rw [List.drop_reverse]
 congr 2;omega
def MH (R:Keyed->Keyed->Bool)(a b:Array Keyed)(na nb:Nat)(out:Array Keyed):Prop:=MI (Flp R) b.toList.reverse a.toList.reverse (b.toList.length-nb) (a.toList.length-na) out.toList
structure TwoH (U:Keyed->Prop)(R:Keyed->Keyed->Bool)(a b:Array Keyed):Prop where
 o:Ordd U R
 ua: ∀x∈a.toList,U x
 ub: ∀x∈b.toList,U x
 sa:Srt R a.toList
 sb:Srt R b.toList
 first: ∀z∈a.toList,∀y,b.toList[0]? =some y->R y z=true
section
variable {a b out:Array Keyed}{na nb:Nat}
theorem TwoH.fa (t:TwoH U R a b): ∀x∈a.toList.reverse,U x:=λx hx=>t.ua x (C9.mp hx)
theorem TwoH.fb (t:TwoH U R a b): ∀x∈b.toList.reverse,U x:=λx hx=>t.ub x (C9.mp hx)
theorem MH.start (a b:Array Keyed):MH R a b a.toList.length b.toList.length #[]:=by
 unfold MH;rw [Nat.sub_self,Nat.sub_self];exact MI.start _ _
theorem MH.pushA (t:TwoH U R a b){y:Keyed}(m:MH R a b na nb out)(h1:1<=na)(hn:na<=a.toList.length)(hb:nb<=b.toList.length)(hy:a.toList[na-1]? =some y)(lt: ∀z,1<=nb->b.toList[nb-1]? =some z->R z y=true):MH R a b (na-1) nb (out.push y):=by
 have:=MI.pushB m t.o.flip t.fb t.fa (zi t.sb) (zi t.sa) (by rw [PB h1 hn];exact hy) (λz hz=>lt z (zS hb hz).1 (zS hb hz).2);unfold MH;rw [E3,show a.toList.length-(na-1)=a.toList.length-na+1 by omega];exact this
theorem MH.pushB (t:TwoH U R a b){y:Keyed}(m:MH R a b na nb out)(h1:1<=nb)(hn:nb<=b.toList.length)(ha:na<=a.toList.length)(hy:b.toList[nb-1]? =some y)(ge: ∀z,1<=na->a.toList[na-1]? =some z->R y z=false):MH R a b na (nb-1) (out.push y):=by
 have:=MI.pushA m t.o.flip t.fb t.fa (zi t.sb) (zi t.sa) (by rw [PB h1 hn];exact hy) (λz hz=>ge z (zS ha hz).1 (zS ha hz).2);unfold MH;rw [E3,show b.toList.length-(nb-1)=b.toList.length-nb+1 by omega];exact this
theorem vD (a:Array Keyed)(n:Nat):(a.extract 0 n).toList=a.toList.take n:=by
 rw [A6,List.extract_eq_drop_take,G0j,Nat.sub_zero]
theorem MH.done (t:TwoH U R a b)(m:MH R a b na nb out)(ha:na<=a.toList.length)(hb:nb<=b.toList.length)(h:na=0\/nb=0):yH R a b (a.extract 0 na++b.extract 0 nb++out.reverse):=by
 have:=MI.done m t.o.flip t.fb t.fa (zi t.sb) (zi t.sa) (by rw [S7];omega) (by rw [S7];omega) (by rw [S7,S7];omega);rw [vC _ ha,vC _ hb] at this;have e:(a.extract 0 na++b.extract 0 nb++out.reverse).toList=(out.toList++(b.toList.take nb).reverse++(a.toList.take na).reverse).reverse:=by
  rw [T8,T8,vD,vD,X3];simp [G8]
 unfold yH;rw [e];refine⟨(F7 _).trans (this.1.trans ?_),XN this.2⟩;exact(List.Perm.append (F7 _) (F7 _)).trans K0
theorem MH.firstB (t:TwoH U R a b)(m:MH R a b na nb out)(ha:na<=a.toList.length)(hb:nb=1)(hb':1<=b.toList.length):yH R a b (b.extract 0 nb++a.extract 0 na++out.reverse):=by
 subst hb;have:=MI.lastA m t.o.flip t.fb t.fa (zi t.sb) (zi t.sa) (by rw [S7];omega) (by rw [S7];omega) (λz hz y hy=>by
  rw [S7] at hy;have:=(zS hb' hy).2;exact t.first z (C9.mp hz) y (by simpa using this))
 rw [vC _ ha,vC _ hb'] at this;have e:(b.extract 0 1++a.extract 0 na++out.reverse).toList=(out.toList++(a.toList.take na).reverse++(b.toList.take 1).reverse).reverse:=by
  rw [T8,T8,vD,vD,X3];simp [G8]
 unfold yH;rw [e];refine⟨(F7 _).trans (this.1.trans ?_),XN this.2⟩;exact(List.Perm.append (F7 _) (F7 _)).trans K0
theorem XO (l:List Keyed){p n:Nat}(h1:p<=n)(hn:n<=l.length):(l.reverse.drop (l.length-n)).take (n-p)=((l.drop p).take (n-p)).reverse:=by
 rw [vC l hn,List.take_reverse,R1,G02,O4 hn,show n-(n-p)=p by omega]
theorem PC (a:Array Keyed){p n:Nat}(h:p<=n):(a.extract p n).reverse.toList=((a.toList.drop p).take (n-p)).reverse:=by
 rw [X3,A6,List.extract_eq_drop_take]
theorem MH.manyA (t:TwoH U R a b)(m:MH R a b na nb out)(p:Nat)(hp:p<=na)(hn:na<=a.toList.length)(hb:nb<=b.toList.length)(h: ∀i,p<=i->i<na-> ∀y,a.toList[i]? =some y-> ∀z,1<=nb->b.toList[nb-1]? =some z->R z y=true):MH R a b p nb (out++(a.extract p na).reverse):=by
 have:=MI.manyB t.o.flip t.fb t.fa (zi t.sb) (zi t.sa) (na-p) m (by rw [S7];omega) (λi hi y hy z hz=>by
  rw [K2 (by omega)] at hy;exact h _ (by omega) (by omega) y hy z (zS hb hz).1 (zS hb hz).2)
 rw [XO _ hp hn] at this;unfold MH;rw [T8,PC _ hp,show a.toList.length-p=a.toList.length-na+(na-p) by omega];exact this
theorem MH.manyB (t:TwoH U R a b)(m:MH R a b na nb out)(p:Nat)(hp:p<=nb)(hn:nb<=b.toList.length)(ha:na<=a.toList.length)(h: ∀i,p<=i->i<nb-> ∀y,b.toList[i]? =some y-> ∀z,1<=na->a.toList[na-1]? =some z->R y z=false):MH R a b na p (out++(b.extract p nb).reverse):=by
 have:=MI.manyA t.o.flip t.fb t.fa (zi t.sb) (zi t.sa) (nb-p) m (by rw [S7];omega) (λi hi y hy z hz=>by
  rw [K2 (by omega)] at hy;exact h _ (by omega) (by omega) y hy z (zS ha hz).1 (zS ha hz).2)
 rw [XO _ hp hn] at this;unfold MH;rw [T8,PC _ hp,show b.toList.length-p=b.toList.length-nb+(nb-p) by omega];exact this
end
def mHi:Array Keyed->Array Keyed->StateT SortSt Sem (Array Keyed):=sortPriv% PySem.Builtin.mergeHi
section
variable {arr:Array Keyed}{y:Keyed}{n hint:Nat}{st:SortSt}{Q:Option Nat->SortSt->Prop}
theorem Ef (ak:Yz prog w A J κ U R)(kd:kindOf st=κ)(o:Ordd U R)(u: ∀x∈arr.toList,U x)(s:Srt R arr.toList)(uy:U y)(hn:n<=arr.size)(hh:hint<n)
 (q: ∀k,k<=n->(∀i,i<k-> ∀x,arr.toList[i]? =some x->R y x=false)->(∀i,k<=i->i<n-> ∀x,arr.toList[i]? =some x->R y x=true)->Q (some k) st):Tm prog w A E J (gal false y arr 0 n hint) Q st:=
 Sb ak kd o u s uy (by rw [L9];exact hn) hh λk h k2 k3=>q k h (λi hi x hx=>k2 i hi x (by rw [L9];exact hx)) λi hi hj x hx=>k3 i hi hj x (by rw [L9];exact hx)
theorem Eg (ak:Yz prog w A J κ U R)(kd:kindOf st=κ)(o:Ordd U R)(u: ∀x∈arr.toList,U x)(s:Srt R arr.toList)(uy:U y)(hn:n<=arr.size)(hh:hint<n)
 (q: ∀k,k<=n->(∀i,i<k-> ∀x,arr.toList[i]? =some x->R x y=true)->(∀i,k<=i->i<n-> ∀x,arr.toList[i]? =some x->R x y=false)->Q (some k) st):Tm prog w A E J (gal true y arr 0 n hint) Q st:=
 Sc ak kd o u s uy (by rw [L9];exact hn) hh λk h k2 k3=>q k h (λi hi x hx=>k2 i hi x (by rw [L9];exact hx)) λi hi hj x hx=>k3 i hi hj x (by rw [L9];exact hx)
end
structure HiI (R:Keyed->Keyed->Bool)(a b:Array Keyed)(st st':SortSt)(n N na nb:Nat)(out:Array Keyed):Prop where
 g:Gal st st'
 m:MH R a b na nb out
 a':na<=a.size
 b':nb<=b.size
 a:1<=na
 b:2<=nb
 n:n+na+nb<=N
def HiO (R:Keyed->Keyed->Bool)(a b:Array Keyed)(st st':SortSt)(n N:Nat)(r:Option (Array Keyed))(na nb:Nat)(out:Array Keyed):Prop:=Gal st st'/\match r with|some c=>yH R a b c|none=>HiI R a b st st' n N na nb out
section
variable {a b out:Array Keyed}{st st' s:SortSt}{n N k M na nb:Nat}
theorem HiI.at (h:HiI R a b st st' n N na nb out)(g:Gal st s)(l:n+na+nb<=N->k+na+nb<=M):HiI R a b st s k M na nb out:=⟨g,h.m,h.a',h.b',h.a,h.b,l h.n⟩
theorem HiI.here (h:HiI R a b st st' n N na nb out):HiI R a b st st' 0 (na+nb) na nb out:=h.at h.g λ_=>by omega
theorem HiI.never {P:Prop}(h:HiI R a b st st' n N na nb out)(l:N<=n):P:=by have:=h.n;have:=h.a;omega
theorem HiI.le (h:HiI R a b st st' n N na nb out):na+nb<=a.size+b.size:=Nat.add_le_add h.a' h.b'
theorem HiI.a1 (h:HiI R a b st st' n N na nb out):na-1<a.size:=R8 (W1 h.a Nat.one_pos) h.a'
theorem HiI.b1 (h:HiI R a b st st' n N na nb out):nb-1<b.size:=R8 (W1 (F6 h.b) Nat.one_pos) h.b'
end
theorem Ng (h:2<=n)(c: ¬n-1=1):2<=n-1:=by omega
theorem PD (c: ¬n-1=0):1<=n-1:=U9 c
theorem On {a b:Array Keyed}{st:SortSt}{Q:Array Keyed->SortSt->Prop}(ak:Yz prog w A J κ U R)(kd:kindOf st=κ)(t:TwoH U R a b)
 (na:1<=a.size)(nb:1<=b.size)(last: ∀y z,b.toList[b.size-1]? =some y->a.toList[a.size-1]? =some z->R y z=true)
 (q: ∀c st',Gal st st'->yH R a b c->Q c st'):Tm prog w A E J (mHi a b) Q st:=by
 refine .bind (.rule (.bind (wx t.ua (W1 na Nat.one_pos) λa0 ea0 la0 ua0=> .elem ea0 ?_)));have m0:MH R a b (a.size-1) b.size #[a0]:=MH.pushA t (MH.start (R:=R) a b) na (G6 _) (G6 _) la0 (λz _ hz=>last z a0 hz la0);have n1:a.size-1<=a.size:=Nat.sub_le _ _;refine .eq2 (x:=a.size-1) (y:=0) (λz1=> .pure (q _ _ (Gal.refl st) (MH.done t m0 n1 (G6 _) (.inl z1)))) λz1=> .eq2 (x:=b.size) (y:=1) (λz2=> .pure (q _ _ (Gal.refl st) (MH.firstB t m0 n1 z2 nb))) λz2=> .bind (.get ?_)
 refine .bind (Tm.mono (Tm.range (λi c st'=>HiI R a b st st' (i+1) (a.size+b.size) c.2.1 c.2.2.1 c.2.2.2.1)
  (Q:=λc st'=> ∃r,c.1=some r/\Gal st st'/\yH R a b r) (Nat.zero_le _) ⟨Gal.refl st,m0,n1,Nat.le_refl _,PD z1,by dsimp only;omega,by dsimp only;omega⟩ ?_ ?_) ?_)
 ·intro i c st1 hi;revert c;refine OO λr ia ib out mg h=> ?_
  refine .bind (Tm.mono (Tm.range (λj c st'=>HiI R a b st st' j (ia+ib) c.2.1 c.2.2.1 c.2.2.2.1)
   (Q:=λc st'=>HiO R a b st st' 1 (ia+ib) c.1 c.2.1 c.2.2.1 c.2.2.2.1) (T7 _) h.here ?_ ?_) ?_)
  ·intro j c st2 hj;revert c;refine OP λr ja jb out ac bc h=> ?_
   refine .bind (wx t.ub h.b1 λy ey ly uy=> .elem ey (.bind (wx t.ua h.a1 λx ex lx ux=> .elem ex (.bind (.lt ak (h.g.1.trans kd) uy ux (.if2 (c:=R y x=true) (λhb=> .bind (.elem ex ?_)) λhb=> .bind (.elem ey ?_)))))))
   ·have m1:=MH.pushA t h.m h.a h.a' h.b' lx (λz _ hz=>by rw [ly] at hz;injection hz with hz;rw [<-hz];exact hb);refine .eq2 (x:=ja-1) (y:=0) (λc1=> .pure ⟨h.g,MH.done t m1 (D6 h.a1) h.b' (.inl c1)⟩) λc1=> ?_
    have d:HiI R a b st st2 (j+1) (ia+ib) (ja-1) jb (out.push x):=⟨h.g,m1,D6 h.a1,h.b',PD c1,h.b,by have:j+ja+jb<=ia+ib:=h.n;have:1<=ja:=h.a;have:2<=jb:=h.b;omega⟩;exact .if2 (λ_=> .pure ⟨h.g,d.at h.g λ_=>by omega⟩) λ_=> .pure d
   ·have m1:=MH.pushB t h.m (D6 h.b) h.b' h.a' ly (λz _ hz=>by rw [lx] at hz;injection hz with hz;rw [<-hz];exact K9.mpr hb);refine .eq2 (x:=jb-1) (y:=1) (λc1=> .pure ⟨h.g,MH.firstB t m1 h.a' c1 nb⟩) λc1=> ?_
    have d:HiI R a b st st2 (j+1) (ia+ib) ja (jb-1) (out.push y):=⟨h.g,m1,h.a',D6 h.b1,h.a,Ng h.b c1,by have:j+ja+jb<=ia+ib:=h.n;have:1<=ja:=h.a;have:2<=jb:=h.b;omega⟩;exact .if2 (λ_=> .pure ⟨h.g,d.at h.g λ_=>by omega⟩) λ_=> .pure d
  ·exact λc st2 h'=>h'.never h.le
  ·intro c st2;revert c;refine OP λr ja jb out ac bc h'=> ?_
   cases r with
   |some r=>exact .pure ⟨r,rfl,h'⟩
   |none=>
   replace h':=h'.2
   refine .bind (.rule (.bind (Tm.mono (Tm.range (λj c st'=>HiI R a b st st' j (ja+jb) c.2.1 c.2.2.1 c.2.2.2.1)
    (Q:=λc st'=>HiO R a b st st' 0 (ja+jb) c.1 c.2.1 c.2.2.1 c.2.2.2.1) (T7 _) h'.here ?_ ?_) ?_)))
   ·clear h;intro j c st2 hj;revert c;refine OQ λr pa pb out mg ac bc h=> ?_
    refine wx t.ub h.b1 λy ey ly uy=> ?_
    refine Tm.both (y:=mg) (x:=mg-1) (by rfl) (by rfl) λmg=> ?_
    refine .bind (Tm.modify (.bind (.elem ey (.bind (Ef (n:=pa) ak (h.g.1.trans kd) t.o t.ua t.sa uy h.a' (W1 h.a Nat.one_pos) λk k1 k2 k3=> ?_)))));dsimp only;generalize eac:pa-k=ac;refine Tm.join (I:=λna o=>MH R a b na pb o/\1<=na/\na<=pa/\ ∀z,a.toList[na-1]? =some z->R y z=false) (x:=pa) (z:=out) (by rfl) ?_ ?_ ?_
    ·refine λqa o i1=> ?_
     have la:=R6 i1.2.2.1 h.a';have M2:=MH.pushB t i1.1 (D6 h.b) h.b' la ly (λz _ hz=>i1.2.2.2 z hz);refine .bind (.elem ey (.eq2 (x:=pb-1) (y:=1) (λc3=> .pure ⟨h.g,MH.firstB t M2 la c3 nb⟩) λc3=> ?_));have c8:=Ng h.b c3;have lb:=D6 h.b1;have n1:j+pa+pb<=ja+jb:=h.n;have n2:pb=pb-1+1:=(Nat.sub_add_cancel (D6 h.b)).symm;refine .bind (wx t.ua (R8 (W1 i1.2.1 Nat.one_pos) la) λx ex lx ux=> .elem ex (.bind (Eg (n:=pb-1) ak (h.g.1.trans kd) t.o t.ub t.sb ux lb (W1 (F6 c8) Nat.one_pos) λk' q1 q2 q3=> ?_)));dsimp only;dsimp only at c8 lb;generalize ep:pb-1=p2 at M2 q1 q2 q3 c8 lb n2 ⊢;generalize eo:o.push y=o2 at M2 ⊢;generalize ebc:p2-k'=bc;refine Tm.join (I:=λnb o=>MH R a b qa nb o/\2<=nb/\nb<=p2/\ ∀z,b.toList[nb-1]? =some z->R z x=true) (x:=p2) (z:=o2) (by rfl) ?_ ?_ ?_
     ·refine λqb o i2=> ?_
      have lb':=R6 i2.2.2.1 lb;have M4:=MH.pushA t i2.1 i1.2.1 la lb' lx (λz _ hz=>i2.2.2.2 z hz);have la':=R6 (Nat.sub_le qa 1) la;refine .bind (.elem ex (.eq2 (x:=qa-1) (y:=0) (λc5=> .pure ⟨h.g,MH.done t M4 la' lb' (.inl c5)⟩) λc5=> ?_));have n3:j+1+(qa-1)+qb<=ja+jb:=by have:=i1.2.1;have:=i1.2.2.1;have:=i2.2.2.1;omega
      have d:HiI R a b st st2 (j+1) (ja+jb) (qa-1) qb (o.push x):=⟨h.g,M4,la',lb',PD c5,i2.2.1,n3⟩;exact .if2 (λ_=> .pure ⟨h.g,d.at h.g λ_=>by omega⟩) λ_=> .pure (d.at h.g id)
     ·intro kz' H;have M3:=MH.manyB t M2 k' q1 lb la (λi hi1 hi2 y' hy z hz1 hz=>by rw [lx] at hz;injection hz with hz;rw [<-hz];exact q3 i hi1 hi2 y' hy);exact .eq2 (x:=k') (y:=1) (λc4=> .pure ⟨h.g,MH.firstB t M3 la c4 nb⟩) λc4=> .eq2 (x:=k') (y:=0) (λc7=> .pure ⟨h.g,MH.done t M3 la (R6 q1 lb) (.inr c7)⟩) λc7=>H _ _ ⟨M3,by omega,q1,λz hz=>q2 (k'-1) (W1 (U9 c7) Nat.one_pos) z hz⟩
     ·exact λkz'=>⟨M2,c8,G6 _,λz hz=>q2 (p2-1) (by omega) z hz⟩
    ·intro kz H;have m1:=MH.manyA t h.m k k1 h.a' h.b' (λi hi1 hi2 x hx z hz1 hz=>by rw [ly] at hz;injection hz with hz;rw [<-hz];exact k3 i hi1 hi2 x hx);exact .eq2 (x:=k) (y:=0) (λc1=> .pure ⟨h.g,MH.done t m1 (R6 k1 h.a') h.b' (.inl c1)⟩) λc1=>H _ _ ⟨m1,U9 c1,k1,λz hz=>k2 (k-1) (W1 (U9 c1) Nat.one_pos) z hz⟩
    ·exact λkz=>⟨h.m,h.a,G6 _,λz hz=>k2 (pa-1) (by have:1<=pa:=h.a;omega) z hz⟩
   ·exact λc st3 h=>h.never h'.le
   ·intro c st3;revert c;refine OQ λr pa pb out mg ac bc h3=> ?_
    cases r with
    |some r=>exact .pure ⟨r,rfl,h3⟩
    |none=>exact .bind (Tm.modify (.pure (h3.2.at h3.1 λl=>by have n1:i+1+ia+ib<=a.size+b.size:=h.n;have n2:1+ja+jb<=ia+ib:=h'.n;dsimp only at l ⊢;omega)))
 ·exact λc st1 h=>h.never (Q7 _ _)
 ·intro c st1;revert c;refine OO λr ia ib out mg h=> ?_
  obtain⟨c,rfl,gl,wh⟩:=h;exact .pure (q c st1 gl wh)
end
section
variable {prog:Program}{w:World}{A:Around}{E:Value->Shared->Prop}{J:Shared->Prop}{κ:SortKind}{U:Keyed->Prop}{R:Keyed->Keyed->Bool}
def seg (l:List Keyed)(p n:Nat):List Keyed:=(l.drop p).take n
variable {n:Nat}
theorem WX {l:List Keyed}{p i:Nat}(hi:i<n):(seg l p n)[i]? =l[p+i]? :=by
 unfold seg;rw [U0 hi,J4]
theorem ZS {l:List Keyed}{p:Nat}(h:p+n<=l.length):(seg l p n).length=n:=by
 unfold seg;rw [R1,S4];omega
theorem UK {l:List Keyed}{p:Nat}{x:Keyed}(h:x∈seg l p n):x∈l:=T3 (N4 h)
theorem Sd {left:Bool}{arr:Array Keyed}{y:Keyed}{base hint:Nat}{st:SortSt}{Q:Option Nat->SortSt->Prop}(ak:Yz prog w A J κ U R)(kd:kindOf st=κ)(o:Ordd U R)(u: ∀x∈arr.toList,U x)(s:Srt R (seg arr.toList base n))(uy:U y)(hn:base+n<=arr.size)(hh:hint<n)
 (q: ∀k,k<=n->(∀x∈(seg arr.toList base n).take k,(if left=true then R x y else !R y x)=true)->(∀x∈(seg arr.toList base n).drop k,(if left=true then R x y else !R y x)=false)->Q (some k) st):Tm prog w A E J (gal left y arr base n hint) Q st:=by
 have ln:arr.toList.length=arr.size:=by simp
 have sl:(seg arr.toList base n).length=n:=ZS (by omega);have us: ∀x∈seg arr.toList base n,U x:=λx hx=>u x (UK hx)
 refine Pz ak kd uy (λi hi=> ?_) (λi j hij hj h=> ?_) hh (λk k1 k2 k3=>q k k1 (λx hx=> ?_) (λx hx=> ?_))
 ·obtain⟨x,lx,ex⟩:=ZR (show base+i<arr.size by omega);exact⟨x,ex,u x (G9 lx)⟩
 ·obtain⟨x,lx,_⟩:=ZR (show base+i<arr.size by omega);obtain⟨z,lz,_⟩:=ZR (show base+j<arr.size by omega);have ux:=u x (G9 lx);have uz:=u z (G9 lz);have le:=ZQ s o us hij (by rw [WX (by omega)];exact lx) (by rw [WX hj];exact lz);rw [wZ lz] at h;rw [wZ lx];cases left with
  |true=>
   have hz:R z y=true:=by simpa using h
   rcases o.neg z x y uz ux uy hz with v|v
   ·rw [le] at v;cases v
   ·simp [v]
  |false=>
   have hz:R y z=false:=by simpa using h
   have:=o.trans ux uz uy le hz;simp [this]
 ·obtain⟨i,hi,e⟩:=B8 hx;rw [R1,sl] at hi;have lx:arr.toList[base+i]? =some x:=by
   rw [<-WX (n:=n) (by omega),G1 (by omega),<-e,G0s]
  have:=k2 i (by omega);rw [wZ lx] at this;exact this
 ·obtain⟨i,hi,e⟩:=B8 hx;rw [S4,sl] at hi;have lx:arr.toList[base+(k+i)]? =some x:=by
   rw [<-WX (n:=n) (by omega),G1 (by omega),<-e,List.getElem_drop]
  have:=k3 (k+i) (by omega) (by omega);rw [wZ lx] at this;exact this
theorem XQ: ∀ (m:List Keyed) (arr:Array Keyed) (p d:Nat),p+d+m.length<=arr.size->((m.zipIdx d).foldl (λ(c:Array Keyed) (x:Keyed×Nat)=>c.setIfInBounds (p+x.2) x.1) arr).toList=arr.toList.take (p+d)++m++arr.toList.drop (p+d+m.length)
 | [],arr,p,d,_=>by simp
 |x::m,arr,p,d,h=>by
  rw [D5] at h;rw [List.zipIdx_cons,List.foldl_cons];rw [XQ m _ p (d+1) (by rw [G0t];omega)];have hl:arr.toList.length=arr.size:=by simp
  rw [Z7];have e1:(arr.toList.set (p+d) x).take (p+(d+1))=arr.toList.take (p+d)++ [x]:=by
   rw [show p+(d+1)=p+d+1 by omega,M1,V3 (by omega)];rw [List.take_set_of_le (G6 _)];rfl
  have e2:(arr.toList.set (p+d) x).drop (p+(d+1)+m.length)=arr.toList.drop (p+d+(m.length+1)):=by
   rw [List.drop_set_of_lt (by omega),show p+(d+1)+m.length=p+d+(m.length+1) by omega]
  rw [e1,e2,D5];simp [G8]
end
section
variable {prog:Program}{w:World}{A:Around}{E:Value->Shared->Prop}{J:Shared->Prop}{κ:SortKind}{U:Keyed->Prop}{R:Keyed->Keyed->Bool}
theorem Tm.set {σ:Type}{st st':σ}{Q:PUnit->σ->Prop}(q:Q ⟨⟩ st'):Tm prog w A E J (MonadStateOf.set st':StateT σ Sem PUnit) Q st:=λs j=>by
 show wpAny _ _ ((StateT.set st':StateT σ Sem PUnit).run st) _ _ _;exact P1 ⟨q,j⟩
theorem PF (a:Array Keyed){p n:Nat}(h:p<=n):(a.extract p n).toList=seg a.toList p (n-p):=by
 rw [A6,List.extract_eq_drop_take];rfl
theorem PH (o:Ordd U R){l:List Keyed}(u: ∀x∈l,U x)(s:Srt R l){z:Keyed}(hz:l[l.length-1]? =some z){x:Keyed}(hx:x∈l):R z x=false:=by
 obtain⟨i,hi,e⟩:=B8 hx;exact ZQ s o u (show i<=l.length-1 by omega) (by rw [G1 hi,e]) hz
theorem XR (o:Ordd U R){l:List Keyed}(u: ∀x∈l,U x)(s:Srt R l){z:Keyed}(hz:l[0]? =some z){x:Keyed}(hx:x∈l):R x z=false:=by
 obtain⟨i,hi,e⟩:=B8 hx;exact ZQ s o u (T7 _) hz (by rw [G1 hi,e])
theorem ZT (o:Ordd U R){X Y c:List Keyed}{k k2:Nat}{y0 x9:Keyed}(uX: ∀x∈X,U x)(uY: ∀x∈Y,U x)(sX:Srt R X)(sY:Srt R Y)(hy:Y[0]? =some y0)(hx:X[X.length-1]? =some x9)
 (f1: ∀x∈X.take k,R y0 x=false)(g2: ∀y∈Y.drop k2,R y x9=false)(hp:c.Perm (X.drop k++Y.take k2))(sc:Srt R c):(X.take k++c++Y.drop k2).Perm (X++Y)/\Srt R (X.take k++c++Y.drop k2):=by
 have uy0:=uY y0 (G9 hy);have ux9:=uX x9 (G9 hx);constructor
 ·have e:X++Y=X.take k++(X.drop k++Y.take k2)++Y.drop k2:=by
   rw [<-G8,D7,G8,D7]
  rw [e];exact(hp.append_left _).append_right _
 ·have inX: ∀x∈X.take k,∀z∈X.drop k,R z x=false:=λx hx z hz=>by
   have:Srt R (X.take k++X.drop k):=by rw [D7];exact sX
   exact(R7.mp this).2.2 x hx z hz
  have inY: ∀x∈Y.take k2,∀z∈Y.drop k2,R z x=false:=λx hx z hz=>by
   have:Srt R (Y.take k2++Y.drop k2):=by rw [D7];exact sY
   exact(R7.mp this).2.2 x hx z hz
  have xy: ∀x∈X.take k,∀y∈Y,R y x=false:=λx hx y hy'=>o.trans (uX x (N4 hx)) uy0 (uY y hy') (f1 x hx) (XR o uY sY hy hy')
  have yx: ∀x∈X,∀y∈Y.drop k2,R y x=false:=λx hx' y hy'=>o.trans (uX x hx') ux9 (uY y (T3 hy')) (PH o uX sX hx hx') (g2 y hy')
  have xc: ∀x∈X.take k,∀z∈c,R z x=false:=λx hx z hz=>by
   rcases D4.mp (hp.mem_iff.mp hz) with v|v
   ·exact inX x hx z v
   ·exact xy x hx z (N4 v)
  refine R7.mpr ⟨R7.mpr ⟨sX.sublist (O0 _ _),sc,xc⟩,sY.sublist (N9 _ _),λx hx y hy=> ?_⟩;rcases D4.mp hx with v|v
  ·exact xy x v y (T3 hy)
  ·rcases D4.mp (hp.mem_iff.mp v) with v|v
   ·exact yx x (T3 v) y hy
   ·exact inY x v y hy
theorem VE (l:List Keyed){p n m:Nat}:l=l.take p++(seg l p n++seg l (p+n) m)++l.drop (p+n+m):=by
 unfold seg;have e1:(l.drop (p+n)).take m++l.drop (p+n+m)=l.drop (p+n):=by
  rw [show l.drop (p+n+m)=(l.drop (p+n)).drop m by rw [A4],D7]
 have e2:(l.drop p).take n++l.drop (p+n)=l.drop p:=by
  rw [show l.drop (p+n)=(l.drop p).drop n by rw [A4],D7]
 rw [G8,G8,e1,e2,D7]
theorem Oo {st:SortSt}{Q:Bool->SortSt->Prop}{i sa na pw sb nb pw2:Nat}(ak:Yz prog w A J κ U R)(kd:kindOf st=κ)(o:Ordd U R)(u: ∀x∈(arrOf st).toList,U x)(p1:(pendingOf st)[i]? =some (sa,na,pw))(p2:(pendingOf st)[i+1]? =some (sb,nb,pw2))
 (hs:sa+na=sb)(n1:1<=na)(n2:1<=nb)(hz:sb+nb<=(arrOf st).size)(s1:Srt R (seg (arrOf st).toList sa na))(s2:Srt R (seg (arrOf st).toList sb nb))(hf:failedOf st=none)
 (q: ∀st' Z,kindOf st'=κ->failedOf st'=none->pendingOf st'=((pendingOf st).setIfInBounds i (sa,na+nb,pw)).eraseIdxIfInBounds (i+1)->(arrOf st').toList=(arrOf st).toList.take sa++Z++(arrOf st).toList.drop (sb+nb)->Z.Perm (seg (arrOf st).toList sa na++seg (arrOf st).toList sb nb)->Srt R Z->Q true st'):
 Tm prog w A E J (mergeAt' i) Q st:=by
 have ln:(arrOf st).toList.length=(arrOf st).size:=by simp
 unfold mergeAt';refine .bind (.get ?_);dsimp only;rw [p1,p2];dsimp only;refine .bind (Tm.set ?_);subst hs;have lX:(seg (arrOf st).toList sa na).length=na:=ZS (by omega);have lY:(seg (arrOf st).toList (sa+na) nb).length=nb:=ZS (by omega);have uX: ∀x∈seg (arrOf st).toList sa na,U x:=λx hx=>u x (UK hx)
 have uY: ∀x∈seg (arrOf st).toList (sa+na) nb,U x:=λx hx=>u x (UK hx)
 obtain⟨y0,ly0,ey0⟩:=ZR (arr:=arrOf st) (show sa+na<(arrOf st).size by omega);obtain⟨x9,lx9,ex9⟩:=ZR (arr:=arrOf st) (show sa+(na-1)<(arrOf st).size by omega);have hy:(seg (arrOf st).toList (sa+na) nb)[0]? =some y0:=by rw [WX (by omega)];exact ly0
 have hx:(seg (arrOf st).toList sa na)[(seg (arrOf st).toList sa na).length-1]? =some x9:=by rw [lX,WX (by omega)];exact lx9
 have uy0:=u y0 (G9 ly0);have ux9:=u x9 (G9 lx9);have c3:=VE (arrOf st).toList (p:=sa) (n:=na) (m:=nb);have same: ∀ (st':SortSt),arrOf st'=arrOf st-> ∀k k2,(∀x∈(seg (arrOf st).toList sa na).take k,R y0 x=false)->(∀y∈(seg (arrOf st).toList (sa+na) nb).drop k2,R y x9=false)->(na<=k\/k2=0)->Srt R (seg (arrOf st).toList sa na++seg (arrOf st).toList (sa+na) nb):=λst' e k k2 f1 g2 h=>by
  have pl:(((seg (arrOf st).toList sa na).drop k++(seg (arrOf st).toList (sa+na) nb).take k2)).Perm ((seg (arrOf st).toList sa na).drop k++(seg (arrOf st).toList (sa+na) nb).take k2):= .refl _;have sc:Srt R ((seg (arrOf st).toList sa na).drop k++(seg (arrOf st).toList (sa+na) nb).take k2):=by
   rcases h with h|h
   ·rw [N2 (by omega),N6];exact s2.sublist (O0 _ _)
   ·rw [h,G01,C3];exact s1.sublist (N9 _ _)
  have:=(ZT o uX uY s1 s2 hy hx f1 g2 pl sc).2;rw [<-G8,D7,G8,D7] at this;exact this
 refine .bind (.elem ey0 (.bind (Sd (left:=false) ak kd o u s1 uy0 (show sa+na<=(arrOf st).size by omega) (by omega) λk k1 f1 f2=> ?_)));have f1: ∀x∈(seg (arrOf st).toList sa na).take k,R y0 x=false:=λx hx=>by simpa using f1 x hx
 have f2: ∀x∈(seg (arrOf st).toList sa na).drop k,R y0 x=true:=λx hx=>by simpa using f2 x hx
 dsimp only
 by_cases z1:na-k=0
 ·rw [if_pos (by simpa using z1)];refine .pure (q _ (seg (arrOf st).toList sa na++seg (arrOf st).toList (sa+na) nb) kd hf rfl c3 (.refl _) (same st rfl k nb f1 (λy hy=> ?_) (.inl (by omega))));rw [N2 (by omega)] at hy;cases hy
 rw [if_neg (by simpa using z1)];refine .bind (.elem (show _=some x9 by rw [show sa+k+(na-k)-1=sa+(na-1) by omega];exact ex9) (.bind (Sd (left:=true) ak kd o u s2 ux9 (show sa+na+nb<=(arrOf st).size by omega) (by omega) λk2 j1 g1 g2=> ?_)));have g1: ∀y∈(seg (arrOf st).toList (sa+na) nb).take k2,R y x9=true:=λx hx=>by simpa using g1 x hx
 have g2: ∀y∈(seg (arrOf st).toList (sa+na) nb).drop k2,R y x9=false:=λx hx=>by simpa using g2 x hx
 dsimp only
 by_cases z2:k2=0
 ·rw [if_pos (by simpa using z2)];exact .pure (q _ _ kd hf rfl c3 (.refl _) (same st rfl k k2 f1 g2 (.inr z2)))
 rw [if_neg (by simpa using z2)];have eX:((arrOf st).extract (sa+k) (sa+na)).toList=(seg (arrOf st).toList sa na).drop k:=by
  rw [PF _ (by omega)];unfold seg;rw [G02,A4,show sa+na-(sa+k)=na-k by omega]
 have eY:((arrOf st).extract (sa+na) (sa+na+k2)).toList=(seg (arrOf st).toList (sa+na) nb).take k2:=by
  rw [PF _ (by omega)];unfold seg;rw [G03,show sa+na+k2-(sa+na)=min k2 nb by omega]
 have sx:((arrOf st).extract (sa+k) (sa+na)).size=na-k:=by rw [<-T0,eX,S4,lX]
 have sy:((arrOf st).extract (sa+na) (sa+na+k2)).size=k2:=by rw [<-T0,eY,R1,lY];omega
 have hx2: ∀z,((seg (arrOf st).toList sa na).drop k)[((seg (arrOf st).toList sa na).drop k).length-1]? =some z->z=x9:=λz hz'=>by
  rw [S4,J4,lX,show k+(na-k-1)=na-1 by omega] at hz';rw [lX] at hx;rw [hx] at hz';injection hz' with hz';exact hz'.symm
 have hy2: ∀z,((seg (arrOf st).toList (sa+na) nb).take k2)[0]? =some z->z=y0:=λz hz'=>by
  rw [U0 (by omega),hy] at hz';injection hz' with hz';exact hz'.symm
 have put: ∀c:Array Keyed,yH R ((arrOf st).extract (sa+k) (sa+na)) ((arrOf st).extract (sa+na) (sa+na+k2)) c->(c.toList.zipIdx.foldl (λ(d:Array Keyed) (x:Keyed×Nat)=>d.setIfInBounds (sa+k+x.2) x.1) (arrOf st)).toList=(arrOf st).toList.take sa++((seg (arrOf st).toList sa na).take k++c.toList++(seg (arrOf st).toList (sa+na) nb).drop k2)++(arrOf st).toList.drop (sa+na+nb):=λc wh=>by
  have lc:c.toList.length=na-k+k2:=by
   rw [wh.1.length_eq,G7,T0,T0,sx,sy]
  have:=XQ c.toList (arrOf st) (sa+k) 0 (by omega);rw [this,lc,W6,show sa+k+(na-k+k2)=sa+na+k2 by omega];have e1:(arrOf st).toList.take (sa+k)=(arrOf st).toList.take sa++(seg (arrOf st).toList sa na).take k:=by
   unfold seg;rw [G03,O4 k1,List.take_add]
  have e2:(arrOf st).toList.drop (sa+na+k2)=(seg (arrOf st).toList (sa+na) nb).drop k2++(arrOf st).toList.drop (sa+na+nb):=by
   unfold seg;have h1:((arrOf st).toList.drop (sa+na)).drop k2=(((arrOf st).toList.drop (sa+na)).take nb++((arrOf st).toList.drop (sa+na)).drop nb).drop k2:=by rw [D7]
   rw [L7 (by rw [R1,S4];omega),A4,A4] at h1;exact h1
  rw [e1,e2];simp [G8]
 have jr: ∀c:Array Keyed,yH R ((arrOf st).extract (sa+k) (sa+na)) ((arrOf st).extract (sa+na) (sa+na+k2)) c->_:=λc wh=>ZT o (c:=c.toList) uX uY s1 s2 hy hx f1 g2 (by have:=wh.1;rw [eX,eY] at this;exact this) wh.2
 by_cases z3:na-k<=k2
 ·rw [if_pos z3];refine .bind (Om ak kd ⟨o,λx hx=> ?_,λx hx=> ?_,?_,?_,λy hy z hz'=> ?_⟩ (by rw [sx];omega) (by rw [sy];omega) (λy z hy' hz'=> ?_) λc st' gl wh=> .bind (Tm.modify (.bind (.get (.pure ?_)))))
  ·rw [eX] at hx;exact uX x (T3 hx)
  ·rw [eY] at hx;exact uY x (N4 hx)
  ·rw [eX];exact s1.sublist (N9 _ _)
  ·rw [eY];exact s2.sublist (O0 _ _)
  ·rw [eY] at hy;rw [eX] at hz';rw [hx2 z hz'];exact g1 y hy
  ·rw [eY] at hy';rw [eX] at hz';rw [hy2 y hy'];exact f2 z (G9 hz')
  ·have e:failedOf st'=none:=gl.2.2.2.trans hf;show Q (failedOf st').isNone _;rw [e];refine q _ _ (gl.1.trans kd) e gl.2.2.1 ?_ (jr c wh).1 (jr c wh).2;have ea:arrOf st'=arrOf st:=gl.2.1;show (c.toList.zipIdx.foldl _ (arrOf st')).toList=_;rw [ea];exact put c wh
 ·rw [if_neg z3];refine .bind (On ak kd ⟨o,λx hx=> ?_,λx hx=> ?_,?_,?_,λz hz' y hy'=> ?_⟩ (by rw [sx];omega) (by rw [sy];omega) (λy z hy' hz'=> ?_) λc st' gl wh=> .bind (Tm.modify (.bind (.get (.pure ?_)))))
  ·rw [eX] at hx;exact uX x (T3 hx)
  ·rw [eY] at hx;exact uY x (N4 hx)
  ·rw [eX];exact s1.sublist (N9 _ _)
  ·rw [eY];exact s2.sublist (O0 _ _)
  ·rw [eY] at hy';rw [eX] at hz';rw [hy2 y hy'];exact f2 z hz'
  ·rw [eY] at hy';rw [eX,sx] at hz';have:=hx2 z (by rw [S4,lX];exact hz');rw [this];exact g1 y (G9 hy')
  ·have e:failedOf st'=none:=gl.2.2.2.trans hf;show Q (failedOf st').isNone _;rw [e];refine q _ _ (gl.1.trans kd) e gl.2.2.1 ?_ (jr c wh).1 (jr c wh).2;have ea:arrOf st'=arrOf st:=gl.2.1;show (c.toList.zipIdx.foldl _ (arrOf st')).toList=_;rw [ea];exact put c wh
end
section
variable {prog:Program}{w:World}{A:Around}{E:Value->Shared->Prop}{J:Shared->Prop}{κ:SortKind}{U:Keyed->Prop}{R:Keyed->Keyed->Bool}
def Lies (st:SortSt)(P Z S:List Keyed):Prop:=(arrOf st).toList=P++Z++S
def Arr (st st':SortSt):Prop:=kindOf st'=kindOf st/\pendingOf st'=pendingOf st/\failedOf st'=failedOf st/\gallopOf st'=gallopOf st
theorem Arr.refl (st:SortSt):Arr st st:=⟨rfl,rfl,rfl,rfl⟩
theorem Ma (xs:Array Keyed)(P Z S:List Keyed)(h:xs.toList=P++Z++S):(mirror xs P.length (P.length+Z.length) ((P.length+Z.length-P.length) / 2)).toList=P++Z.reverse++S:=by
 have hl:xs.size=P.length+Z.length+S.length:=by rw [<-T0,h];simp [E8]
 refine List.ext_getElem? λk=> ?_
 rw [S9,getElem?_mirror_all (by omega)]
 by_cases c:P.length<=k/\k<P.length+Z.length
 ·rw [if_pos c,<-S9,h,G8,G8];have e1:(P++(Z++S))[P.length+(P.length+Z.length)-1-k]? =Z[P.length+Z.length-1-k]? :=by
   rw [P6 (by omega),R3 (by omega)]
   congr 1;omega
  have e2:(P++(Z.reverse++S))[k]? =Z[P.length+Z.length-1-k]? :=by
   rw [P6 (by omega),R3 (by rw [S7];omega),K2 (by omega)]
   congr 1;omega
  rw [e1,e2]
 ·rw [if_neg c,<-S9,h,G8,G8]
  by_cases d:k<P.length
  ·rw [R3 d,R3 d]
  ·have e1:(P++(Z++S))[k]? =S[k-P.length-Z.length]? :=by
    rw [P6 (by omega),P6 (by omega)]
   have e2:(P++(Z.reverse++S))[k]? =S[k-P.length-Z.length]? :=by
    rw [P6 (by omega),P6 (by rw [S7];omega),S7]
   rw [e1,e2]
theorem Tm.rev {st:SortSt}{P Z S:List Keyed}{i j:Nat}{Q:Unit->SortSt->Prop}(h:Lies st P Z S)(hi:i=P.length)(hj:j=P.length+Z.length)(q: ∀st',Arr st st'->Lies st' P Z.reverse S->Q () st'):Tm prog w A E J (reverseSlice' i j) Q st:=by
 rw [reverseSlice'_eq];subst hi hj;exact .modify (q _ ⟨rfl,rfl,rfl,rfl⟩ (Ma _ P Z S h))
theorem Tm.ltAt {st:SortSt}{x y:Keyed}{i j:Nat}{Q:Option Bool->SortSt->Prop}(ak:Yz prog w A J κ U R)(kd:kindOf st=κ)(hx:(arrOf st).toList[i]? =some x)(hy:(arrOf st).toList[j]? =some y)(ux:U x)(uy:U y)(q:Q (some (R x y)) st):Tm prog w A E J (ltAt' i j) Q st:=by
 rw [ltAt'_eq];exact .bind (.get (.bind (.elem (by rw [<-S9];exact hx) (.bind (.elem (by rw [<-S9];exact hy) (.lt ak kd ux uy q))))))
abbrev Dsc (R:Keyed->Keyed->Bool)(l:List Keyed):Prop:=l.Pairwise λx y=>R x y=false
theorem Cc {l:List Keyed}(d:Dsc R l):Srt R l.reverse:=W5.mpr d
theorem Mb (o:Ordd U R){l:List Keyed}{x y:Keyed}(u: ∀z∈l++ [x],U z)(uy:U y)(s:Srt R (l++ [x]))(h:R y x=false):Srt R (l++ [x]++ [y]):=by
 refine R7.mpr ⟨s,T4 _ _,λz hz v hv=> ?_⟩;rw [G2.mp hv];have ux:=u x (by simp);rcases D4.mp hz with w|w
 ·exact o.trans (u z hz) ux uy ((R7.mp s).2.2 z w x (by simp)) h
 ·rw [G2.mp w];exact h
theorem Mc {l m:List Keyed}(s:Dsc R (l++m))(alike: ∀x∈m,∀y∈m,R x y=false):Dsc R (l++m.reverse):=by
 obtain⟨a,b,c⟩:=R7.mp s;refine R7.mpr ⟨a,?_,λx hx y hy=>c x hx y (C9.mp hy)⟩;rw [A3];intro i j hi hj _;exact alike _ (C9.mp (R9 hi)) _ (C9.mp (R9 hj))
end
section
variable {prog:Program}{w:World}{A:Around}{E:Value->Shared->Prop}{J:Shared->Prop}{κ:SortKind}{U:Keyed->Prop}{R:Keyed->Keyed->Bool}
theorem Arr.trans {a b c:SortSt}(x:Arr a b)(y:Arr b c):Arr a c:=⟨y.1.trans x.1,y.2.1.trans x.2.1,y.2.2.1.trans x.2.2.1,y.2.2.2.trans x.2.2.2⟩
variable {P Z:List Keyed}
theorem Lies.rest {st:SortSt}{S:List Keyed}(h:Lies st P Z S){i:Nat}:(arrOf st).toList[P.length+Z.length+i]? =S[i]? :=by
 rw [h,P6 (by rw [G7];omega),G7]
 congr 1;omega
theorem Lies.end {st:SortSt}{W S:List Keyed}{x:Keyed}(h:Lies st P (W++ [x]) S):(arrOf st).toList[P.length+W.length]? =some x:=by
 rw [h,G8,P6 (by omega),G8,P6 (by omega)];simp
theorem WY {l:List Keyed}(h:1<=l.length): ∃W x,l=W++ [x]:=by
 rcases List.eq_nil_or_concat l with e|⟨W,x,e⟩
 ·subst e;simp at h
 ·exact⟨W,x,by rw [e,List.concat_eq_append]⟩
structure Fall (R:Keyed->Keyed->Bool)(T Z1 Z2:List Keyed)(n:Nat):Prop where
 len:(Z1++Z2).length=n
 perm:(Z1++Z2).Perm (T.take n)
 dsc:Dsc R (Z1++Z2)
 alike: ∀x∈Z2,∀y∈Z2,R x y=false
 ne:1<=Z2.length
variable {T:List Keyed}{n:Nat}
theorem Fall.turn {Z1 Z2:List Keyed}(f:Fall R T Z1 Z2 n):Fall R T Z1 Z2.reverse n:=
 ⟨by have:=f.len;simp only [G7,S7] at this ⊢;exact this,((F7 Z2).append_left Z1).trans f.perm,Mc f.dsc f.alike,λx hx y hy=>f.alike x (C9.mp hx) y (C9.mp hy),by rw [S7];exact f.ne⟩
theorem Fall.mem {Z1 Z2:List Keyed}(f:Fall R T Z1 Z2 n){x:Keyed}(h:x∈Z1++Z2):x∈T:=N4 (f.perm.mem_iff.mp h)
theorem vE {y:Keyed}(h:Z.Perm (T.take n))(hy:T[n]? =some y):(Z++ [y]).Perm (T.take (n+1)):=by
 rw [ZP hy];exact h.append_right _
theorem Fall.below (o:Ordd U R){T Z1 Z2:List Keyed}{n:Nat}{x y:Keyed}(u: ∀x∈T,U x)(f:Fall R T Z1 Z2 n)(hx:x∈Z2)(hy:T[n]? =some y)(h:R y x=true):Fall R T (Z1++Z2) [y] (n+1):=by
 have uy:=u y (G9 hy);have ux:=u x (f.mem (D4.mpr (.inr hx)));have xy:=o.asym y x uy ux h;refine⟨by rw [G7,f.len];rfl,vE f.perm hy,?_,λa ha b hb=> ?_,by simp⟩
 ·refine R7.mpr ⟨f.dsc,T4 _ _,λz hz v hv=> ?_⟩;rw [G2.mp hv];have uz:=u z (f.mem hz);have zx:R z x=false:=by
   rcases D4.mp hz with w|w
   ·exact(R7.mp f.dsc).2.2 z w x hx
   ·exact f.alike z w x hx
  exact o.trans uy ux uz xy zx
 ·rw [G2.mp ha,G2.mp hb];exact o.refl uy
theorem Fall.like (o:Ordd U R){T Z1 Z2:List Keyed}{n:Nat}{x y:Keyed}(u: ∀x∈T,U x)(f:Fall R T Z1 Z2 n)(hx:x∈Z2)(hy:T[n]? =some y)(h:R y x=false)(h':R x y=false):Fall R T Z1 (Z2++ [y]) (n+1):=by
 have uy:=u y (G9 hy);have ux:=u x (f.mem (D4.mpr (.inr hx)));have zy: ∀z∈Z1++Z2,R z y=false:=λz hz=>by
  have uz:=u z (f.mem hz);have zx:R z x=false:=by
   rcases D4.mp hz with w|w
   ·exact(R7.mp f.dsc).2.2 z w x hx
   ·exact f.alike z w x hx
  exact o.trans uy ux uz h' zx
 have yz: ∀z∈Z2,R y z=false:=λz hz=>o.trans (u z (f.mem (D4.mpr (.inr hz)))) ux uy (f.alike x hx z hz) h
 refine⟨by rw [<-G8,G7,f.len];rfl,by rw [<-G8];exact vE f.perm hy,?_,λa ha b hb=> ?_,by simp⟩
 ·rw [<-G8];refine R7.mpr ⟨f.dsc,T4 _ _,λz hz v hv=> ?_⟩;rw [G2.mp hv];exact zy z hz
 ·rcases D4.mp ha with p|p<;>rcases D4.mp hb with r|r
  ·exact f.alike a p b r
  ·rw [G2.mp r];exact zy a (D4.mpr (.inr p))
  ·rw [G2.mp p];exact yz b r
  ·rw [G2.mp p,G2.mp r];exact o.refl uy
theorem Lies.more {st:SortSt}{m:Nat}{y:Keyed}(L:Lies st P Z (T.drop m))(hy:T[m]? =some y):Lies st P (Z++ [y]) (T.drop (m+1)):=by
 unfold Lies at L ⊢;rw [L,zg hy];simp
theorem Lies.part {st:SortSt}{Z1 Z2 S:List Keyed}:Lies st P (Z1++Z2) S↔Lies st (P++Z1) Z2 S:=by
 unfold Lies;simp only [List.append_assoc]
theorem Lies.two {st:SortSt}{m:Nat}{y:Keyed}(L:Lies st P Z (T.drop m))(lz:Z.length=m)(m1:1<=m)(hy:T[m]? =some y):(arrOf st).toList[P.length+m]? =some y/\ ∃W x,Z=W++ [x]/\(arrOf st).toList[P.length+m-1]? =some x:=by
 have a:=L.rest (i:=0);rw [J4,lz,W6,W6,hy] at a;obtain⟨W,x,e⟩:=WY (l:=Z) (by omega);subst e;refine⟨a,W,x,rfl,?_⟩;rw [<-L.end]
 congr 1
 rw [G7,B9] at lz;omega
section
variable {σ ρ τ α:Type}{st:σ}
theorem Tm.rangeN {f:Nat->Option ρ×τ->StateT σ Sem (ForInStep (Option ρ×τ))}(I:Nat->τ->σ->Prop){Q:τ->σ->Prop}{Q':Option ρ×τ->σ->Prop}{a b:Nat}{c:τ}(hab:a<=b)(h:I a c st)(step: ∀i c st,i<b->I i c st->Tm prog w A E J (f i (none,c)) (λr st'=>match r with| .done c'=>c'.1=none/\Q c'.2 st'| .yield c'=>c'.1=none/\I (i+1) c'.2 st') st)(fin: ∀c st,I b c st->Q c st)(q: ∀c st,Q c st->Q' (none,c) st):Tm prog w A E J (forIn [a:b] ((none:Option ρ),c) f) Q' st:=by
 refine Tm.mono (Tm.range (λi c st=>c.1=none/\I i c.2 st) (Q:=λc st=>c.1=none/\Q c.2 st) hab ⟨rfl,h⟩ ?_ λc st h=>⟨h.1,fin _ _ h.2⟩) ?_
 ·rintro i ⟨_,c⟩ st hi ⟨rfl,h⟩;exact(step i c st hi h).mono λr st' x=>by cases r<;>exact x
 ·rintro ⟨_,c⟩ st ⟨rfl,h⟩;exact q c st h
theorem Tm.fork {c:Prop}[Decidable c]{t e:StateT σ Sem α}{Q:α->σ->Prop}(I:σ->Prop)(G: ∀s,I s->Tm prog w A E J e Q s)(T:c->(∀s,I s->Tm prog w A E J e Q s)->Tm prog w A E J t Q st)(F: ¬c->I st):Tm prog w A E J (if c then t else e) Q st:=
 .if2 (λh=>T h G) λh=>G _ (F h)
end
section
variable {st:SortSt}{P T Z:List Keyed}{m:Nat}
theorem PJ {f:Nat->Option (Option Nat)×Nat->StateT SortSt Sem (ForInStep (Option (Option Nat)×Nat))}{G:Nat->Option Bool->StateT SortSt Sem (ForInStep (Option (Option Nat)×Nat))}{Q:Option (Option Nat)×Nat->SortSt->Prop}(ak:Yz prog w A J κ U R)(kd:kindOf st=κ)(o:Ordd U R)(u: ∀x∈T,U x)
 (hf: ∀i n,f i (none,n)=ltAt' (P.length+n) (P.length+n-1) >>= G n)(hG: ∀n,G n (some true)=Pure.pure (.done (none,n))/\G n (some false)=Pure.pure (.yield (none,n+1)))
 (m1:1<=m)(m2:m<=T.length)(L:Lies st P Z (T.drop m))(p:Z.Perm (T.take m))(s:Srt R Z)
 (q: ∀n Z',1<=n->n<=T.length->Lies st P Z' (T.drop n)->Z'.Perm (T.take n)->Srt R Z'->(∀y,T[n]? =some y-> ∃W x,Z'=W++ [x]/\R y x=true)->Q (none,n) st):Tm prog w A E J (forIn [m:T.length] ((none:Option (Option Nat)),m) f) Q st:=by
 refine Tm.rangeN (λi c s=>s=st/\c=i/\1<=i/\ ∃Z,Lies st P Z (T.drop i)/\Z.Perm (T.take i)/\Srt R Z) (Q:=λn s=>s=st/\Q (none,n) st) m2 ⟨rfl,rfl,m1,Z,L,p,s⟩ ?_ ?_ λc s h=>h.1 ▸ h.2
 ·rintro _ i _ hi ⟨rfl,rfl,i1,Z,L,p,s⟩;have hy:=G1 hi;obtain⟨ay,W,x,rfl,ax⟩:=L.two (by rw [p.length_eq,R1,O4 (D6 hi)]) i1 hy;have uy:=u _ (R9 hi);have uZ: ∀z∈W++ [x],U z:=λz hz=>u z (N4 (p.mem_iff.mp hz))
  rw [hf];refine .bind (.ltAt ak kd ay ax uy (uZ x (by simp)) ?_);cases hb:R T[i] x with
  |true=>
   rw [(hG _).1];exact .pure ⟨rfl,rfl,q i _ i1 (D6 hi) L p s λy h=>⟨W,x,rfl,by rw [hy] at h;injection h with h;rw [<-h];exact hb⟩⟩
  |false=>
   rw [(hG _).2];exact .pure ⟨rfl,rfl,rfl,W8 (T7 _),_,L.more hy,vE p hy,Mb o uZ uy s hb⟩
 ·rintro _ _ ⟨rfl,rfl,i1,Z,L,p,s⟩;exact⟨rfl,q _ Z i1 (G6 _) L p s λy h=>absurd (G5.mp h).1 (N3 _)⟩
end
def Fell (R:Keyed->Keyed->Bool)(P T:List Keyed)(st st':SortSt)(n k:Nat):Prop:=Arr st st'/\ ∃Z1 Z2,Lies st' P (Z1++Z2) (T.drop n)/\Fall R T Z1 Z2 n/\Z2.length=k+1
theorem Fell.rev {st s2:SortSt}{k:Nat}{Q:Unit->SortSt->Prop}(h:Fell R P T st s2 n k)(q: ∀s3,Fell R P T st s3 n k->Q () s3):Tm prog w A E J (reverseSlice' (P.length+n-(k+1)) (P.length+n)) Q s2:=by
 obtain⟨ar,Z1,Z2,L,F,l⟩:=h;have l12:=F.len;rw [G7] at l12;exact .rev (Lies.part.mp L) (by rw [G7];omega) (by rw [G7];omega) λs3 ar3 L3=>q s3 ⟨ar.trans ar3,Z1,_,Lies.part.mpr L3,F.turn,by rw [S7];exact l⟩
theorem Md {st:SortSt}{Q:Option Nat->SortSt->Prop}(ak:Yz prog w A J κ U R)(kd:kindOf st=κ)(o:Ordd U R)(u: ∀x∈T,U x)(h:Lies st P [] T)(h1:1<=T.length)
 (q: ∀n st' Z,1<=n->n<=T.length->Arr st st'->Lies st' P Z (T.drop n)->Z.Perm (T.take n)->Srt R Z->Q (some n) st'):Tm prog w A E J (countRun' P.length T.length) Q st:=by
 refine .bind (PJ (m:=1) (Z:=T.take 1) ak kd o u (by exact λi n=>rfl) (by exact λn=>⟨rfl,rfl⟩) (G6 _) h1 ?_ (.refl _) ?_ λn Z n1 n2 L p sr br=> ?_)
 ·unfold Lies at h ⊢;rw [h,C3,G8,D7]
 ·match T,h1 with
  |x::r,_=>exact T4 _ _
 refine .eq2 (x:=n) (y:=T.length) (λz1=> .pure (q n _ _ n1 n2 (Arr.refl _) L p sr)) λz1=> ?_
 have n3:n<T.length:=B0 n2 z1;have hy:=G1 n3;have uZ: ∀z∈Z,U z:=λz hz=>u z (N4 (p.mem_iff.mp hz))
 obtain⟨W,x,e,yx⟩:=br _ hy;have lz:Z.length=n:=by rw [p.length_eq,R1,O4 n2]
 have xin:x∈Z:=by rw [e];simp
 have xl:Z[Z.length-1]? =some x:=by rw [e];simp
 have F0:(∀p∈Z,∀r∈Z,R p r=false)->Fall R T [] Z n:=λal=>⟨lz,p,A3.mpr λi j hi hj _=>al _ (R9 hi) _ (R9 hj),al,by rw [lz];exact n1⟩
 refine Tm.fork (λs=>Fell R P T st s (n+1) 0) ?_ ?_ ?_
 ·intro s1 F1;refine .bind (.rule (.bind (Tm.rangeN (λi c s=>c.1=i/\Fell R P T st s c.1 c.2) (Q:=λc s=>c.1<=T.length/\Fell R P T st s c.1 c.2) n3 ⟨rfl,F1⟩ ?_ (λc s h=>⟨A1 h.1,h.2⟩) ?_)))
  ·intro i c s2 hi h2;have hc:c.1<T.length:=by rw [h2.1];exact hi
   have hy:=G1 hc;have uy:=u _ (R9 hc);obtain⟨e1,ar2,Z1,Z2,L2,F2,l2⟩:=h2;have l12:=F2.len;obtain⟨ay,W,x,eW,ax⟩:=L2.two l12 (by rw [<-l12,G7,l2];exact K1 _ _) hy;have xin:x∈Z2:=by
    obtain⟨V,v,e⟩:=WY F2.ne;have e':=congrArg List.getLast? eW;rw [e,<-G8,G0Z,G0Z] at e';injection e' with e'
    rw [e,<-e'];simp
   have ux:=u x (F2.mem (D4.mpr (.inr xin)));refine .bind (.ltAt ak (ar2.1.trans kd) ay ax uy ux (.if2 (c:=R _ x=true) (λhb=> ?_) λhb=> .bind (.ltAt ak (ar2.1.trans kd) ax ay ux uy (.if2 (c:=R x _=true) (λhc'=> .pure ⟨rfl,D6 hc,ar2,Z1,Z2,L2,F2,l2⟩) λhc'=> ?_))))
   ·refine Tm.fork (λs=>Fell R P T st s (c.1+1) 0) (λs h=> .pure ⟨rfl,congrArg Nat.succ e1,h⟩) (λzq H=> .bind ?_) λzq=>⟨ar2,Z1++Z2,[T[c.1]],L2.more hy,F2.below o u xin hy hb,rfl⟩
    have l12':=l12;rw [G7] at l12';exact .rev (Lies.part.mp L2) (by rw [List.length_append];dsimp only;omega) (by rw [List.length_append];dsimp only;omega) λs3 ar3 L3=>H s3 ⟨ar2.trans ar3,Z1++Z2.reverse,[T[c.1]],(Lies.part.mpr L3).more hy,F2.turn.below o u (List.mem_reverse.mpr xin) hy hb,rfl⟩
   ·refine .pure ⟨rfl,congrArg Nat.succ e1,ar2,Z1,Z2++ [T[c.1]],?_,F2.like o u xin hy (K9.mpr hb) (K9.mpr hc'),by rw [G7,l2];rfl⟩;rw [<-G8];exact L2.more hy
  ·intro c s2 h2;refine Tm.fork (λs=> ∃k,Fell R P T st s c.1 k) ?_ (λzq H=> .bind (h2.2.rev λs h=>H s ⟨_,h⟩)) λzq=>⟨_,h2.2⟩
   intro s3 h3;obtain⟨k,ar3,Z1,Z2,L3,F3,l3⟩:=h3;have m1:1<=c.1:=by rw [<-F3.len,G7,l3];exact K1 _ _
   exact .bind (.rev L3 rfl (by rw [F3.len]) λs4 ar4 L4=> .bind (PJ ak ((ar3.trans ar4).1.trans kd) o u (by exact λi n=>rfl) (by exact λn=>⟨rfl,rfl⟩) m1 h2.1 L4 ((F7 _).trans F3.perm) (Cc F3.dsc) λn Z n1 n2 L p sr _=> .pure (q n s4 Z n1 n2 (ar3.trans ar4) L p sr)))
 ·intro z2 H;obtain⟨x0,V,eV⟩: ∃x0 V,Z=x0::V:=by
   match Z,xin with
   |a::r,_=>exact⟨a,r,rfl⟩
  have ux:=uZ x xin;have ux0:=uZ x0 (by rw [eV];simp);have a0:(arrOf st).toList[P.length]? =some x0:=by rw [L,eV];simp
  have a1:(arrOf st).toList[P.length+n-1]? =some x:=by
   obtain⟨_,W',x',e',ax⟩:=L.two lz n1 hy;rw [e] at e';rw [ax,(List.append_inj' e' rfl).2 |> λh=>(List.cons.inj h).1]
  exact .bind (.ltAt ak kd a0 a1 ux0 ux (.if2 (c:=R x0 x=true) (λ_=> .pure (q n _ _ n1 n2 (Arr.refl _) L p sr)) λhr0=> .bind (.rev L rfl (by rw [lz]) λs1 ar1 L1=>H s1 ⟨ar1,_,_,L1.more hy,Fall.below o u (Z1:= []) (Fall.turn (F0 λp hp r hr=>o.trans (uZ r hr) ux (uZ p hp) (PH o uZ sr xl hr) (K9.mpr λv=>(o.neg p x0 x (uZ p hp) ux0 ux v).elim (λv=>by rw [XR o uZ sr (z:=x0) (by rw [eV];rfl) hp] at v;cases v) hr0))) (C9.mpr xin) hy yx,rfl⟩)))
 ·intro z2;have w0:W= []:=W9 (by rw [e,G7,B9] at lz;omega);have f: ∀z∈Z,z=x:=λz hz=>by rw [e,w0] at hz;exact G2.mp hz
  exact⟨Arr.refl st,_,_,L.more hy,Fall.below o u (Z1:= []) (F0 λp hp r hr=>by rw [f p hp,f r hr];exact o.refl (uZ x xin)) xin hy yx,rfl⟩
end
section
variable {prog:Program}{w:World}{A:Around}{E:Value->Shared->Prop}{J:Shared->Prop}{κ:SortKind}{U:Keyed->Prop}{R:Keyed->Keyed->Bool}
theorem Me (xs:Array Keyed)(P Z S:List Keyed)(y:Keyed)(l:Nat)(hl:l<=Z.length)(h:xs.toList=P++Z++y::S):(bubble xs (P.length+Z.length) (Z.length-l)).toList=P++(Z.take l++ [y]++Z.drop l)++S:=by
 have hz:xs.size=P.length+Z.length+(S.length+1):=by rw [<-T0,h];simp [E8]
 have at_: ∀k,xs[k]? =(P++Z++y::S)[k]? :=λk=>by rw [<-S9,h]
 refine List.ext_getElem? λk=> ?_
 rw [S9,getElem?_bubble (by omega) _ (by omega)];have lt:(Z.take l).length=l:=by rw [R1];omega
 by_cases c:k=P.length+Z.length-(Z.length-l)
 ·rw [if_pos c,at_];have e1:(P++Z++y::S)[P.length+Z.length]? =some y:=by
   rw [P6 (by rw [G7];omega),G7,Nat.sub_self];rfl
  have e2:(P++(Z.take l++ [y]++Z.drop l)++S)[k]? =some y:=by
   rw [G8,P6 (by omega),G8,G8,P6 (by rw [lt];omega),lt,show k-P.length-l=0 by omega];rfl
  rw [e1,e2]
 ·rw [if_neg c]
  by_cases d:P.length+Z.length-(Z.length-l)<k/\k<=P.length+Z.length
  ·rw [if_pos d,at_];have e1:(P++Z++y::S)[k-1]? =Z[k-1-P.length]? :=by
    rw [G8,P6 (by omega),R3 (by omega)]
   have e2:(P++(Z.take l++ [y]++Z.drop l)++S)[k]? =Z[k-1-P.length]? :=by
    rw [G8,P6 (by omega),R3 (by simp only [G7,R1,S4,B9];omega),P6 (by rw [G7,lt];simp;omega),G7,lt,J4]
    congr 1;simp;omega
   rw [e1,e2]
  ·rw [if_neg d,at_]
   by_cases f:k<P.length+l
   ·have e1:(P++Z++y::S)[k]? =(P++Z.take l)[k]? :=by
     have:P++Z++y::S=P++Z.take l++(Z.drop l++y::S):=by
      rw [G8,G8,<-G8 (Z.take l),D7]
     rw [this,R3 (by rw [G7,lt];omega)]
    have e2:(P++(Z.take l++ [y]++Z.drop l)++S)[k]? =(P++Z.take l)[k]? :=by
     have:P++(Z.take l++ [y]++Z.drop l)++S=P++Z.take l++([y]++Z.drop l++S):=by simp [G8]
     rw [this,R3 (by rw [G7,lt];omega)]
    rw [e1,e2]
   ·have e1:(P++Z++y::S)[k]? =S[k-P.length-Z.length-1]? :=by
     rw [P6 (by rw [G7];omega),G7,List.getElem?_cons,if_neg (by omega)]
     congr 1;omega
    have e2:(P++(Z.take l++ [y]++Z.drop l)++S)[k]? =S[k-P.length-Z.length-1]? :=by
     rw [P6 (by simp only [G7,R1,S4,B9];omega)]
     congr 1;simp only [G7,R1,S4,B9];omega
    rw [e1,e2]
theorem Cd (o:Ordd U R){Z:List Keyed}{y:Keyed}{l:Nat}(u: ∀z∈Z,U z)(uy:U y)(s:Srt R Z)(a: ∀z∈Z.take l,R y z=false)(b: ∀z∈Z.drop l,R y z=true):Srt R (Z.take l++ [y]++Z.drop l):=by
 have s':Srt R (Z.take l++Z.drop l):=by rw [D7];exact s
 obtain⟨s1,s2,s3⟩:=R7.mp s';refine R7.mpr ⟨R7.mpr ⟨s1,T4 _ _,λx hx z hz=> ?_⟩,s2,λx hx z hz=> ?_⟩
 ·rw [G2.mp hz];exact a x hx
 ·rcases D4.mp hx with v|v
  ·exact s3 x v z hz
  ·rw [G2.mp v];exact o.asym y z uy (u z (T3 hz)) (b z hz)
theorem Op {st:SortSt}{Q:Bool->SortSt->Prop}{P T Z:List Keyed}{n k:Nat}(ak:Yz prog w A J κ U R)(kd:kindOf st=κ)(o:Ordd U R)(u: ∀x∈T,U x)(h:Lies st P Z (T.drop k))(hp:Z.Perm (T.take k))(hs:Srt R Z)(k1:1<=k)(kn:k<=n)(hn:n<=T.length)
 (q: ∀st' Z',Arr st st'->Lies st' P Z' (T.drop n)->Z'.Perm (T.take n)->Srt R Z'->Q true st'):Tm prog w A E J (binarySort' P.length n k) Q st:=by
 unfold binarySort';refine .bind (Tm.mono (Tm.range (λi c s1=>Arr st s1/\c.1=none/\1<=i/\ ∃Z,Lies s1 P Z (T.drop i)/\Z.Perm (T.take i)/\Srt R Z) (Q:=λc s1=>Arr st s1/\c.1=none/\ ∃Z,Lies s1 P Z (T.drop n)/\Z.Perm (T.take n)/\Srt R Z) (by omega) ⟨Arr.refl st,rfl,by omega,Z,by rw [Nat.max_eq_left k1];exact h,by rw [Nat.max_eq_left k1];exact hp,hs⟩ ?_ ?_) ?_)
 ·rintro i ⟨r,c2⟩ s1 hi ⟨ar,hr,i1,Z,L,p,s⟩;dsimp only at hr ⊢;subst hr;obtain⟨y,hy⟩: ∃y,T[i]? =some y:=⟨_,G1 (by omega)⟩;have uy:=u y (G9 hy);have lz:Z.length=i:=by rw [p.length_eq,R1];omega
  have uZ: ∀z∈Z,U z:=λz hz=>u z (N4 (p.mem_iff.mp hz))
  have ay:(arrOf s1).toList[P.length+i]? =some y:=by
   have:=L.rest (i:=0);rw [J4,lz] at this;rw [W6] at this;rw [this];exact hy
  have az: ∀m,m<i-> ∃z,Z[m]? =some z/\(arrOf s1).toList[P.length+m]? =some z:=λm hm=>by
   refine⟨Z[m],G1 (by omega),?_⟩;rw [L,G8,P6 (by omega),R3 (by omega),G0A,G1 (by omega)]
  refine .bind (Tm.mono (Tm.range (λj c s2=>s2=s1/\c.1=none/\c.2.1<=c.2.2/\c.2.2<=i/\(∀z∈Z.take c.2.1,R y z=false)/\(∀z∈Z.drop c.2.2,R y z=true)/\c.2.2-c.2.1+j<=i) (Q:=λc s2=>s2=s1/\c.1=none/\c.2.1<=i/\(∀z∈Z.take c.2.1,R y z=false)/\(∀z∈Z.drop c.2.1,R y z=true)) (Nat.zero_le _) ⟨rfl,rfl,Nat.zero_le _,Nat.le_refl _,λz hz=> ?_,λz hz=> ?_,by dsimp only;omega⟩ ?_ ?_) ?_)
  ·dsimp only at hz;rw [List.take_zero] at hz;cases hz
  ·dsimp only at hz;rw [List.drop_eq_nil_of_le (by omega)] at hz;cases hz
  ·rintro j ⟨r,l,v⟩ _ hj ⟨rfl,hr,b1,b2,b3,b4,b5⟩;dsimp only at hr b1 b2 b3 b4 b5 ⊢;subst hr
   by_cases c1:l>=v
   ·rw [if_pos c1];have:l=v:=by omega
    subst this;exact .pure ⟨rfl,rfl,b2,b3,b4⟩
   rw [if_neg c1];obtain⟨z,hz,ez⟩:=az ((l+v) / 2) (by omega);have uz:=uZ z (G9 hz);refine .bind (.ltAt ak (ar.1.trans kd) ay ez uy uz ?_);dsimp only;cases hb:R y z with
   |true=>
    rw [if_pos rfl];refine .pure ⟨rfl,rfl,by dsimp only;omega,by dsimp only;omega,b3,λx hx=> ?_,by dsimp only;omega⟩;dsimp only at hx;have zx:R x z=false:=by
     obtain⟨t,ht,e⟩:=B8 hx;rw [S4] at ht;exact ZQ s o uZ (show (l+v) / 2<=(l+v) / 2+t by omega) hz (by rw [G1 (by omega),<-e,List.getElem_drop])
    rcases o.neg y x z uy (uZ x (T3 hx)) uz hb with w|w
    ·exact w
    ·rw [zx] at w;cases w
   |false=>
    rw [if_neg (by decide)];refine .pure ⟨rfl,rfl,by dsimp only;omega,b2,λx hx=> ?_,b4,by dsimp only;omega⟩;dsimp only at hx;have xz:R z x=false:=by
     obtain⟨t,ht,e⟩:=B8 hx;rw [R1] at ht;exact ZQ s o uZ (show t<=(l+v) / 2 by omega) (by rw [G1 (by omega),<-e,G0s]) hz
    exact o.trans (uZ x (N4 hx)) uz uy xz hb
  ·rintro ⟨r,l,v⟩ _ ⟨rfl,hr,b1,b2,b3,b4,b5⟩;dsimp only at hr b1 b2 b3 b4 b5 ⊢;have:l=v:=by omega
   subst this;exact⟨rfl,hr,b2,b3,b4⟩
  ·rintro ⟨r,l,v⟩ s2 ⟨rfl,hr,b2,b3,b4⟩;dsimp only at hr b2 b3 b4 ⊢;subst hr;dsimp only;refine .bind ?_;show Tm prog w A E J (moveDown' (P.length+i) (P.length+l)) _ _;rw [moveDown'_eq];refine .modify (.pure ⟨ar.trans ⟨rfl,rfl,rfl,rfl⟩,rfl,by omega,Z.take l++ [y]++Z.drop l,?_,?_,Cd o uZ uy s b3 b4⟩)
   ·have:=Me (arrOf s2) P Z (T.drop (i+1)) y l (by omega) (by rw [<-zg hy];exact L);rw [lz] at this;rw [show P.length+i-(P.length+l)=i-l by omega];exact this
   ·refine List.Perm.trans ?_ (vE p hy);rw [G8];have e:Z++ [y]=Z.take l++(Z.drop l++ [y]):=by rw [<-G8,D7]
    rw [e];exact(K0).append_left _
 ·rintro ⟨r,c2⟩ s1 ⟨ar,hr,i1,Z,L,p,s⟩;exact⟨ar,hr,Z,L,p,s⟩
 ·rintro ⟨r,c2⟩ s1 ⟨ar,hr,Z,L,p,s⟩;dsimp only at hr ⊢;subst hr;exact .pure (q s1 Z ar L p s)
end
section
variable {prog:Program}{w:World}{A:Around}{E:Value->Shared->Prop}{J:Shared->Prop}{κ:SortKind}{U:Keyed->Prop}{R:Keyed->Keyed->Bool}
def Stk (R:Keyed->Keyed->Bool)(l:List Keyed):List (Nat×Nat×Nat)->Nat->Nat->Prop
 | [],s,e=>s=e
 |(p,n,_)::rest,s,e=>p=s/\1<=n/\Srt R (seg l p n)/\Stk R l rest (s+n) e
variable {l:List Keyed}
theorem Stk.le: ∀ {pl:List (Nat×Nat×Nat)} {s e:Nat},Stk R l pl s e->s+pl.length<=e
 | [],s,e,h=>by cases h;simp
 |(p,n,_)::rest,s,e,⟨_,n1,_,h⟩=>by have:=Stk.le h;simp only [D5];omega
theorem Mf {l':List Keyed}{p n e:Nat}(h:l.take e=l'.take e)(he:p+n<=e):seg l p n=seg l' p n:=by
 have cut: ∀k:List Keyed,seg k p n=seg (k.take e) p n:=λk=>by
  unfold seg;rw [G02,G03,O4 (by omega)]
 rw [cut l,cut l',h]
theorem Stk.same {l':List Keyed}: ∀ {pl:List (Nat×Nat×Nat)} {s e:Nat},Stk R l pl s e->l.take e=l'.take e->Stk R l' pl s e
 | [],s,e,h,_=>h
 |(p,n,_)::rest,s,e,⟨a,b,c,d⟩,h=>by
  have:=d.le;exact⟨a,b,by rw [<-Mf h (by omega)];exact c,d.same h⟩
theorem Stk.shift {l':List Keyed}: ∀ {pl:List (Nat×Nat×Nat)} {s e:Nat},Stk R l pl s e->l.drop s=l'.drop s->Stk R l' pl s e
 | [],s,e,h,_=>h
 |(p,n,_)::rest,s,e,⟨a,b,c,d⟩,h=>by
  subst a;refine⟨rfl,b,by unfold seg at c ⊢;rw [<-h];exact c,d.shift ?_⟩;rw [<-A4,<-A4,h]
theorem Stk.append: ∀ {a b:List (Nat×Nat×Nat)} {s e:Nat},Stk R l (a++b) s e↔ ∃m,Stk R l a s m/\Stk R l b m e
 | [],b,s,e=>⟨λh=>⟨s,rfl,h⟩,λ⟨m,h,h'⟩=>by cases h;exact h'⟩
 |(p,n,w)::a,b,s,e=>by
  constructor
  ·rintro ⟨x,y,z,h⟩;obtain⟨m,h1,h2⟩:=Stk.append.mp h;exact⟨m,⟨x,y,z,h1⟩,h2⟩
  ·rintro ⟨m,⟨x,y,z,h1⟩,h2⟩;exact⟨x,y,z,Stk.append.mpr ⟨m,h1,h2⟩⟩
structure Bt (R:Keyed->Keyed->Bool)(κ:SortKind)(l0:List Keyed)(lo:Nat)(st:SortSt):Prop where
 kind:kindOf st=κ
 failed:failedOf st=none
 perm:(arrOf st).toList.Perm l0
 stk:Stk R (arrOf st).toList (pendingOf st).toList 0 lo
variable {l0:List Keyed}{lo:Nat}
theorem Bt.size {st:SortSt}(b:Bt R κ l0 lo st):(arrOf st).size=l0.length:=by rw [<-T0,b.perm.length_eq]
theorem Bt.merge {st:SortSt}{Q:Bool->SortSt->Prop}{i:Nat}(ak:Yz prog w A J κ U R)(o:Ordd U R)(u: ∀x∈l0,U x)(b:Bt R κ l0 lo st)(hlo:lo<=l0.length)(hi:i+1<(pendingOf st).size)
 (q: ∀st',Bt R κ l0 lo st'->(pendingOf st').size+1=(pendingOf st).size->(arrOf st').toList.drop lo=(arrOf st).toList.drop lo->Q true st'):Tm prog w A E J (mergeAt' i) Q st:=by
 have lp:(pendingOf st).toList.length=(pendingOf st).size:=by simp
 obtain⟨⟨sa,na,pw⟩,hx⟩: ∃x,(pendingOf st).toList[i]? =some x:=⟨_,G1 (by omega)⟩;obtain⟨⟨sb,nb,pw2⟩,hy⟩: ∃y,(pendingOf st).toList[i+1]? =some y:=⟨_,G1 (by omega)⟩;have e:(pendingOf st).toList=(pendingOf st).toList.take i++(sa,na,pw)::(sb,nb,pw2)::(pendingOf st).toList.drop (i+2):=by
  rw [<-zg hy,<-zg hx,D7]
 have stk:=b.stk;rw [e] at stk;obtain⟨m,k1,em,n1,s1,eb,n2,s2,k2⟩:=Stk.append.mp stk;subst em;subst eb;have le:=k2.le;have sz:=b.size;have hz:sa+na+nb<=(arrOf st).size:=by omega
 have ln:(arrOf st).toList.length=(arrOf st).size:=by simp
 refine Oo ak b.kind o (λx hx=>u x (b.perm.mem_iff.mp hx)) (by rw [<-S9];exact hx) (by rw [<-S9];exact hy) rfl n1 n2 hz s1 s2 b.failed λst' Z kd hf hp ha pz sz'=> ?_
 have hpl:(pendingOf st').toList=(pendingOf st).toList.take i++(sa,na+nb,pw)::(pendingOf st).toList.drop (i+2):=by
  rw [hp,Array.eraseIdxIfInBounds_eq,dif_pos (by rw [G0t];exact hi),Array.toList_eraseIdx,Z7];generalize (pendingOf st).toList.drop (i+2)=B at e ⊢;have li:((pendingOf st).toList.take i).length=i:=by rw [R1];omega
  generalize (pendingOf st).toList.take i=A at e li ⊢;rw [e];subst li;simp [List.set_append,List.eraseIdx_append];intro z;omega
 have lZ:Z.length=na+nb:=by rw [pz.length_eq,G7,ZS (by omega),ZS (by omega)]
 have lt:((arrOf st).toList.take sa).length=sa:=by rw [R1];omega
 refine q st' ⟨kd,hf,?_,?_⟩ ?_ ?_
 ·rw [ha];refine List.Perm.trans ?_ b.perm;have c3:=VE (arrOf st).toList (p:=sa) (n:=na) (m:=nb);have pp:=(pz.append_left ((arrOf st).toList.take sa)).append_right ((arrOf st).toList.drop (sa+na+nb));rw [<-c3] at pp;exact pp
 ·rw [hpl,ha];refine Stk.append.mpr ⟨sa,k1.same ?_,rfl,by omega,?_,?_⟩
  ·rw [G8,L8 (by omega),R0 (l:=(arrOf st).toList.take sa) (by omega)]
  ·unfold seg;rw [G8,L7 (by omega),N2 (by omega),N6,L8 (by omega),R0 (by omega)];exact sz'
  ·rw [<-E8];refine k2.shift ?_;have:((arrOf st).toList.take sa++Z).length=sa+na+nb:=by rw [G7,lt,lZ];omega
   rw [L7 (by omega),N2 (as:=(arrOf st).toList.take sa++Z) (by omega),N6]
 ·rw [<-T0,<-T0,hpl];have:(pendingOf st).toList.length=((pendingOf st).toList.take i++(sa,na,pw)::(sa+na,nb,pw2)::(pendingOf st).toList.drop (i+2)).length:=congrArg List.length e;rw [this];simp only [G7,D5];omega
 ·rw [ha];have c1:((arrOf st).toList.take sa++Z).length=sa+na+nb:=by rw [G7,lt,lZ];omega
  have c2:sa+na+nb<=lo:=by omega
  rw [List.drop_append,N2 (as:=(arrOf st).toList.take sa++Z) (by omega),N6,A4,c1]
  congr 1;omega
theorem Bt.run {Z:List Keyed}{n:Nat}{s1 s2:SortSt}(b:Bt R κ l0 lo s1)(hlo:lo<=l0.length)(ar:Arr s1 s2)(L:Lies s2 ((arrOf s1).toList.take lo) Z (((arrOf s1).toList.drop lo).drop n))(p:Z.Perm (((arrOf s1).toList.drop lo).take n))(sr:Srt R Z)(hn:n<=l0.length-lo):Bt R κ l0 lo s2/\Srt R (seg (arrOf s2).toList lo n):=by
 have ln:(arrOf s1).toList.length=l0.length:=b.perm.length_eq;have lP:((arrOf s1).toList.take lo).length=lo:=by rw [R1];omega
 have lZ:Z.length=n:=by rw [p.length_eq,R1,S4];omega
 have e:(arrOf s2).toList=(arrOf s1).toList.take lo++Z++((arrOf s1).toList.drop lo).drop n:=L;refine⟨⟨ar.1.trans b.kind,ar.2.2.1.trans b.failed,?_,?_⟩,?_⟩
 ·rw [e];refine List.Perm.trans ?_ b.perm;have pp:=(p.append_left ((arrOf s1).toList.take lo)).append_right (((arrOf s1).toList.drop lo).drop n);rw [G8 _ (((arrOf s1).toList.drop lo).take n),D7,D7] at pp;exact pp
 ·rw [ar.2.1];refine b.stk.same ?_;rw [e,G8,L8 (by omega),R0 (l:=(arrOf s1).toList.take lo) (by omega)]
 ·rw [e];unfold seg;rw [G8,L7 (by omega),N2 (by omega),N6,L8 (by omega),R0 (by omega)];exact sr
theorem Bt.push {n:Nat}{s:SortSt}(b:Bt R κ l0 lo s)(n1:1<=n)(g:Srt R (seg (arrOf s).toList lo n)):Bt R κ l0 (lo+n) (setPending s ((pendingOf s).push (lo,n,0))):=by
 refine⟨b.kind,b.failed,b.perm,?_⟩;show Stk R (arrOf s).toList ((pendingOf s).push (lo,n,0)).toList 0 (lo+n);rw [E3];exact Stk.append.mpr ⟨lo,b.stk,rfl,n1,g,rfl⟩
theorem Stk.mod {f:Nat×Nat×Nat->Nat×Nat×Nat}(hf: ∀x,(f x).1=x.1/\(f x).2.1=x.2.1): ∀ {pl:List (Nat×Nat×Nat)} {k s e:Nat},Stk R l pl s e->Stk R l (pl.modify k f) s e
 | [],k,s,e,h=>by rw [List.modify_nil];exact h
 |(p,n,w)::rest,0,s,e,⟨a,b,c,d⟩=>by
  rw [List.modify_zero_cons];have e1:=(hf (p,n,w)).1;have e2:=(hf (p,n,w)).2;generalize f (p,n,w)=x at e1 e2;obtain⟨p',n',w'⟩:=x;dsimp only at e1 e2;subst e1 e2;exact⟨a,b,c,d⟩
 |(p,n,w)::rest,k+1,s,e,⟨a,b,c,d⟩=>by
  rw [List.modify_succ_cons];exact⟨a,b,c,d.mod hf⟩
theorem Bt.mod {k:Nat}{s:SortSt}{f:Nat×Nat×Nat->Nat×Nat×Nat}(b:Bt R κ l0 lo s)(hf: ∀x,(f x).1=x.1/\(f x).2.1=x.2.1):Bt R κ l0 lo (setPending s ((pendingOf s).modify k f)):=by
 refine⟨b.kind,b.failed,b.perm,?_⟩;show Stk R (arrOf s).toList ((pendingOf s).modify k f).toList 0 lo;rw [Array.toList_modify];exact b.stk.mod hf
theorem Mg (c:Bool)(x:Nat):(if c=true then x-1 else x)<=x:=by cases c<;>simp
theorem Ce {st:SortSt}{Q:Unit->SortSt->Prop}(ak:Yz prog w A J κ U R)(o:Ordd U R)(u: ∀x∈l0,U x)(kd:kindOf st=κ)(hf:failedOf st=none)(hp:pendingOf st= #[])(hl:(arrOf st).toList=l0)
 (q: ∀st',failedOf st'=none->(arrOf st').toList.Perm l0->Srt R (arrOf st').toList->Q () st'):Tm prog w A E J sortRuns' Q st:=by
 have b0:Bt R κ l0 0 st:=⟨kd,hf,by rw [hl],by rw [hp];rfl⟩;rw [sortRuns'_eq];refine .bind (.get ?_);dsimp only;rw [b0.size];generalize minRun' l0.length l0.length 0=mr;refine .bind (Tm.mono (Tm.range (λi c s1=>c.1=none/\c.2<=l0.length/\i<=c.2/\Bt R κ l0 c.2 s1) (Q:=λc s1=>c.1=none/\Bt R κ l0 l0.length s1) (T7 _) ⟨rfl,T7 _,T7 _,b0⟩ ?_ ?_) ?_)
 ·rintro i ⟨r,lo⟩ s1 hi ⟨hr,h1,h2,b⟩;dsimp only at hr h1 h2 b ⊢;subst hr
  by_cases z1:lo>=l0.length
  ·rw [if_pos z1];have:lo=l0.length:=by omega
   subst this;exact .pure ⟨rfl,b⟩
  rw [if_neg z1];have ln:(arrOf s1).toList.length=l0.length:=b.perm.length_eq;have lP:((arrOf s1).toList.take lo).length=lo:=by rw [R1];omega
  have lT:((arrOf s1).toList.drop lo).length=l0.length-lo:=by rw [S4,ln]
  have uT: ∀x∈(arrOf s1).toList.drop lo,U x:=λx hx=>u x (b.perm.mem_iff.mp (T3 hx))
  have ct:=λ{Q}=>Md (prog:=prog) (w:=w) (A:=A) (E:=E) (J:=J) (Q:=Q) (st:=s1) (P:=(arrOf s1).toList.take lo) (T:=(arrOf s1).toList.drop lo) ak b.kind o uT (by unfold Lies;rw [List.append_nil,List.take_append_drop]) (by omega)
  rw [lP,lT] at ct;refine .bind (ct λn s2 Z n1 n2 ar L p sr=> ?_);dsimp only
  by_cases z2:n<mr
  ·rw [if_pos z2];have bn:=λ{Q}=>Op (prog:=prog) (w:=w) (A:=A) (E:=E) (J:=J) (Q:=Q) (st:=s2) (P:=(arrOf s1).toList.take lo) (T:=(arrOf s1).toList.drop lo) (n:=min (l0.length-lo) mr) ak (ar.1.trans b.kind) o uT L p sr n1 (by omega) (by omega)
   rw [lP] at bn;refine .bind (.rule (.bind (bn λs3 Z3 ar3 L3 p3 sr3=> ?_)));obtain⟨B,G⟩:=b.run h1 (ar.trans ar3) L3 p3 sr3 (by omega);have N1:1<=min (l0.length-lo) mr:=by omega
   rw [if_neg (by decide)];refine .bind (.get ?_);split
   ·refine .bind (Tm.mono (Tm.range (λj c s4=>c.1=none/\Bt R κ l0 lo s4/\Srt R (seg (arrOf s4).toList lo (min (l0.length-lo) mr))) (Q:=λc s4=>c.1=none/\Bt R κ l0 lo s4/\Srt R (seg (arrOf s4).toList lo (min (l0.length-lo) mr))) (T7 _) ⟨rfl,B,G⟩ ?_ (λ_ _ h=>h)) ?_)
    ·rintro j ⟨r,c⟩ s4 hj ⟨hr,B4,G4⟩;dsimp only at hr ⊢;subst hr;refine .bind (.get ?_);split
     ·rename_i older heq;split
      ·exact .pure ⟨rfl,B4,G4⟩
      ·have two:(pendingOf s4).size>1:=A2 λz=>by rw [if_neg z] at heq;cases heq
       refine .bind (Bt.merge ak o u B4 h1 (by omega) λs5 B5 _ dr=> ?_);refine .pure ⟨rfl,B5,?_⟩;unfold seg at G4 ⊢;rw [dr];exact G4
     ·exact .pure ⟨rfl,B4,G4⟩
    ·rintro ⟨r,c⟩ s4 ⟨hr,B4,G4⟩;dsimp only at hr ⊢;subst hr;dsimp only;refine .bind (.modify (.bind (.modify (.pure ⟨rfl,?_,?_,Bt.push (Bt.mod B4 λx=>⟨rfl,rfl⟩) N1 G4⟩))))
     ·dsimp only;omega
     ·dsimp only;omega
   ·refine .bind (.modify (.pure ⟨rfl,?_,?_,Bt.push B N1 G⟩))
    ·dsimp only;omega
    ·dsimp only;omega
  ·rw [if_neg z2];obtain⟨B,G⟩:=b.run h1 ar L p sr n2;have N1:=n1;refine .bind (.get ?_);split
   ·refine .bind (Tm.mono (Tm.range (λj c s4=>c.1=none/\Bt R κ l0 lo s4/\Srt R (seg (arrOf s4).toList lo (n))) (Q:=λc s4=>c.1=none/\Bt R κ l0 lo s4/\Srt R (seg (arrOf s4).toList lo (n))) (T7 _) ⟨rfl,B,G⟩ ?_ (λ_ _ h=>h)) ?_)
    ·rintro j ⟨r,c⟩ s4 hj ⟨hr,B4,G4⟩;dsimp only at hr ⊢;subst hr;refine .bind (.get ?_);split
     ·rename_i older heq;split
      ·exact .pure ⟨rfl,B4,G4⟩
      ·have two:(pendingOf s4).size>1:=A2 λz=>by rw [if_neg z] at heq;cases heq
       refine .bind (Bt.merge ak o u B4 h1 (by omega) λs5 B5 _ dr=> ?_);refine .pure ⟨rfl,B5,?_⟩;unfold seg at G4 ⊢;rw [dr];exact G4
     ·exact .pure ⟨rfl,B4,G4⟩
    ·rintro ⟨r,c⟩ s4 ⟨hr,B4,G4⟩;dsimp only at hr ⊢;subst hr;dsimp only;refine .bind (.modify (.bind (.modify (.pure ⟨rfl,?_,?_,Bt.push (Bt.mod B4 λx=>⟨rfl,rfl⟩) N1 G4⟩))))
     ·dsimp only;omega
     ·dsimp only;omega
   ·refine .bind (.modify (.pure ⟨rfl,?_,?_,Bt.push B N1 G⟩))
    ·dsimp only;omega
    ·dsimp only;omega
 ·rintro ⟨r,lo⟩ s1 ⟨hr,h1,h2,b⟩;dsimp only at hr h1 h2 b;have:lo=l0.length:=by omega
  subst this;exact⟨hr,b⟩
 ·rintro ⟨r,lo⟩ s1 ⟨hr,b⟩;dsimp only at hr ⊢;subst hr;dsimp only;have le0:=b.stk.le;have lp0:(pendingOf s1).toList.length=(pendingOf s1).size:=by simp
  refine .bind (Tm.mono (Tm.range (λj c s4=>c.1=none/\Bt R κ l0 l0.length s4/\(pendingOf s4).size+j<=l0.length) (Q:=λc s4=>c.1=none/\Bt R κ l0 l0.length s4/\(pendingOf s4).size<=1) (T7 _) ⟨rfl,b,by omega⟩ ?_ (λc s4 ⟨x,y,z⟩=>⟨x,y,by omega⟩)) ?_)
  ·rintro j ⟨r,c⟩ s4 hj ⟨hr,B4,z4⟩;dsimp only at hr ⊢;subst hr;refine .bind (.get ?_)
   by_cases c1:(pendingOf s4).size<=1
   ·rw [if_pos c1];exact .pure ⟨rfl,B4,c1⟩
   rw [if_neg c1];refine .bind (Bt.merge ak o u B4 (G6 _) (M6 (Nat.add_le_add_right (Mg _ _) 1) (by omega)) λs5 B5 z5 _=> ?_);exact .pure ⟨rfl,B5,by omega⟩
  ·rintro ⟨r,c⟩ s4 ⟨hr,B4,z4⟩;dsimp only at hr ⊢;subst hr;refine .pure (q s4 B4.failed B4.perm ?_);have stk:=B4.stk;have ln:(arrOf s4).toList.length=l0.length:=B4.perm.length_eq;have lp:(pendingOf s4).toList.length=(pendingOf s4).size:=by simp
   generalize (pendingOf s4).toList=pl at stk lp
   match pl,stk,lp with
   | [],e,_=>
    have:l0.length=0:=e.symm;have:(arrOf s4).toList= []:=C5.mp (by omega);rw [this];exact .nil
   | [(p,n,_)],⟨e1,_,sr,e2⟩,_=>
    subst e1;have en:n=l0.length:=by have:0+n=l0.length:=e2;omega
    unfold seg at sr;rw [G0j,R0 (by omega)] at sr;exact sr
   |_::_::_,_,h=>simp only [D5] at h;omega
end
section
variable {prog:Program}{w:World}{A:Around}{E:Value->Shared->Prop}{s:Shared}{κ:SortKind}{U:Keyed->Prop}{R:Keyed->Keyed->Bool}
def Oq (s:Shared)(a:Addr)(h':Heap):Prop:= ∀b o,b≠a->s.heap.get? b=some o->h'.get? b=some o
def Only (s:Shared)(h':Heap):Shared->Prop:=λs'=> ∃tk,s'= {s with heap:=h',toks:=tk}
theorem Mh {M:Model}{α β:Type}{c:Prop}[Decidable c]{m m':Sem α}{F:α->Sem β}{Q:β->Shared->Prop}(h:wpAny M A ((if c then m else m') >>= F) Q E s):wpAny M A (if c then m >>= F else m' >>= F) Q E s:=by
 by_cases z:c
 ·rw [if_pos z] at h ⊢;exact h
 ·rw [if_neg z] at h ⊢;exact h
theorem Ji (vs:List Value):(vs.toArray.zip vs.toArray).toList=vs.map λv=>(v,v):=by
 rw [Array.toList_zip];show vs.zip vs=_
 induction vs with
 |nil=>rfl
 |cons v vs ih=>rw [U5,ih,M8]
theorem Mi {a:Addr}{vs:List Value}{n:Nat}{P:Fin->Shared->Prop}(ho:s.heap.get? a=some (seqObj "list" vs.toArray n))(hz:vs.length<=sizeLine)
 (hk:2<=vs.length-> ∀h',Oq s a h'->wpAny (model prog w) A (keyKind' vs.toArray) (λk s'=>k=κ/\Only s h' s') (λ_ _=>False) {s with heap:=h'})(ak: ∀h',Oq s a h'->Yz prog w A (Only s h') κ U R)(o:Ordd U R)(u: ∀v∈vs,U (v,v))
 (q: ∀ (out:List Value) (c tk:Nat) (h':Heap),Oq s a h'->h'.get? a=some (seqObj "list" out.toArray c)->out.Perm vs->(out.map λv=>(v,v)).Pairwise (λx y=>R y x=false)->P (.done (.ret .none)) {s with heap:=h',toks:=tk}):
 wpAny (model prog w) A (Builtin.«list.sort» ⟨[.ref a],[]⟩) P E s:=by
 have alt:=D3 ho;have sv:vs.toArray.size=vs.length:=P4 ..;rw [list_sort_plain];refine wpAny_bind (listItems_at ho rfl ?_);obtain⟨c1,ho1⟩: ∃c,(s.heap.update a (Obj.mapSeq λ_=>(#[]:Array Value))).get? a=some (seqObj "list" #[] c):=⟨_,get?_update_seq ho λ_=> #[]⟩;refine wpAny_bind (listUpdate_at ho rfl ?_ (by rw [sv];exact hz) (T7 _));refine wpAny_bind (seqEpoch_at ho1 rfl ?_);refine wpAny_bind (wpAny_newTuple ?_ hz);refine wpAny_bind (wpAny_newList ?_ (T7 _));refine C0 ?_;have past:Oq s a (((s.heap.update a (Obj.mapSeq λ_=>(#[]:Array Value))).push {cls:= .type "tuple",data:= .seq vs.toArray.toList.toArray}).push {cls:= .type "list",data:= .seq ([]:List Value).toArray}):=λb x ne e=>by
  refine G3 _ (G3 _ ?_);rw [Y6 _ _ _ _ ne];exact e
 have ho3:=G3 ({cls:= .type "list",data:= .seq ([]:List Value).toArray}:Obj) (G3 ({cls:= .type "tuple",data:= .seq vs.toArray.toList.toArray}:Obj) ho1);revert past ho3;generalize ((s.heap.update a (Obj.mapSeq λ_=>(#[]:Array Value))).push ({cls:= .type "tuple",data:= .seq vs.toArray.toList.toArray}:Obj)).push ({cls:= .type "list",data:= .seq ([]:List Value).toArray}:Obj)=H3;intro past ho3;have kd:wpAny (model prog w) A (if vs.toArray.size<2 then pure general' else keyKind' vs.toArray) (λk s0=>(2<=vs.length->k=κ)/\Only s H3 s0) (λ_ _=>False) {s with heap:=H3}:=by
  by_cases c:vs.toArray.size<2
  ·rw [if_pos c];exact P1 ⟨λz=>by omega,s.toks,rfl⟩
  ·rw [if_neg c];exact S3 (hk (by omega) H3 past) (λk s0 x=>⟨λ_=>x.1,x.2⟩) λ_ _ e=>e
 have rn: ∀k s0,(2<=vs.length->k=κ)->Only s H3 s0->wpAny (model prog w) A ((if vs.toArray.size<2 then pure () else sortRuns':StateT SortSt Sem Unit).run (SortSt.mk' k (vs.toArray.zip vs.toArray) #[] 7 none)) (λr s'=>(failedOf r.2=none/\(arrOf r.2).toList.Perm (vs.map λv=>(v,v))/\Srt R (arrOf r.2).toList)/\Only s H3 s') E s0:=by
  intro k s0 ek j
  by_cases c:vs.toArray.size<2
  ·rw [if_pos c,StateT.run_pure];refine P1 ⟨⟨rfl,?_,?_⟩,j⟩
   ·show (vs.toArray.zip vs.toArray).toList.Perm _;rw [Ji]
   ·show Srt R (vs.toArray.zip vs.toArray).toList;rw [Ji];rw [sv] at c
    match vs,c with
    | [],_=>exact List.Pairwise.nil
    | [v],_=>exact T4 _ _
  ·rw [if_neg c];have ek:=ek (by omega);subst ek;refine Ce (E:=E) (ak H3 past) o (l0:=vs.map λv=>(v,v)) (st:=SortSt.mk' k (vs.toArray.zip vs.toArray) #[] 7 none) (λx hx=> ?_) rfl rfl rfl (Ji vs) (Q:=λ_ st'=>failedOf st'=none/\(arrOf st').toList.Perm (vs.map λv=>(v,v))/\Srt R (arrOf st').toList) (λst' a1 a2 a3=>⟨a1,a2,a3⟩) s0 j;obtain⟨v,hv,rfl⟩:=R4.mp hx;exact u v hv
 dsimp only;refine Mh (wpAny_bind (S3 kd (λk s0 x=> ?_) λ_ _ e=>e.elim));refine wpAny_bind (S3 (rn k s0 x.1 x.2) ?_ λ_ _ e=>e);rintro ⟨⟨⟩,st'⟩ s1 ⟨⟨hf,hp,hs⟩,tk,rfl⟩;dsimp only;have eo:((arrOf st').map λx=>x.2)=((arrOf st').toList.map λx=>x.2).toArray:=by
  rw [<-Array.toList_map,X2]
 have two:(arrOf st').toList=((arrOf st').toList.map λx=>x.2).map λv=>(v,v):=by
  rw [S0];refine(G07 _).symm.trans (S5 λx hx=> ?_);obtain⟨v,_,rfl⟩:=R4.mp (hp.mem_iff.mp hx);rfl
 have po:((arrOf st').toList.map λx=>x.2).Perm vs:=by
  have:=hp.map λx=>x.2
  rw [S0] at this;refine this.trans ?_;rw [show ((λx:Keyed=>x.2)∘λv:Value=>(v,v))=id from rfl,G07]
 rw [two] at hs;rw [eo];generalize (arrOf st').toList.map (λx=>x.2)=out at hs po;obtain⟨c2,ho4⟩: ∃c,(H3.update a (Obj.mapSeq λ_=>out.toArray)).get? a=some (seqObj "list" out.toArray c):=⟨_,get?_update_seq ho3 λ_=>out.toArray⟩;refine wpAny_bind (seqEpoch_at (s:= {s with heap:=H3,toks:=tk}) ho3 rfl ?_);refine wpAny_bind (listUpdate_at (s:= {s with heap:=H3,toks:=tk}) ho3 rfl ?_ (T7 _) (by rw [P4,po.length_eq];exact Nat.le_succ_of_le hz));rw [hf];simp only [bne_self_eq_false,Bool.false_eq_true,G1c];refine P1 (q out c2 tk _ (λb x ne e=> ?_) ho4 po hs);rw [Y6 _ _ _ _ ne];exact past b x ne e
abbrev ZU (h h':Heap):Prop:= ∀b o,h.get? b=some o->h'.get? b=some o
theorem QK {l:Addr}{vs:List Value}{Q:Value->Shared->Prop}(hl:s.heap.IsList l vs.toArray)(hz:vs.length<sizeLine)
 (hk:2<=vs.length-> ∀h',ZU s.heap h'->wpAny (model prog w) A.in1.in1 (keyKind' vs.toArray) (λk s'=>k=κ/\Only s h' s') (λ_ _=>False) {s with heap:=h'})(ak: ∀h',ZU s.heap h'->Yz prog w A.in1.in1 (Only s h') κ U R)(o:Ordd U R)(u: ∀v∈vs,U (v,v))
 (q: ∀ (h1 h':Heap) (tk c:Nat) (out:List Value),ZU s.heap h1->ZU h1 h'->h'.get? h1.objs.size=some (seqObj "list" out.toArray c)->out.Perm vs->(out.map λv=>(v,v)).Pairwise (λx y=>R y x=false)->Q (.ref h1.objs.size) {s with heap:=h',toks:=tk}):
 wpAny (model prog w) A (call (.builtin "sorted") [.ref l]) Q E s:=by
 refine G0i kind_sorted plain_sorted entry_sorted (args_sorted1 _) (wpAny_bind (P1 (wpAny_bind (collect_list hl ?_ (by omega)))));have k1:ZU s.heap ((s.heap.push (seqObj "list" #[] 0)).update s.heap.objs.size (Obj.mapSeq (· ++vs.toArray))):=λb x e=>by
  rw [Y6 _ _ _ _ (S1 (D3 e))];exact G3 _ e
 revert k1;generalize (s.heap.push (seqObj "list" #[] 0)).update s.heap.objs.size (Obj.mapSeq (· ++vs.toArray))=H1;intro k1;have fresh:(H1.push (seqObj "list" vs.toArray 0)).get? H1.objs.size=some (seqObj "list" vs.toArray 0):=D9 _ rfl;have kp: ∀h',Oq {s with heap:=H1.push (seqObj "list" vs.toArray 0)} H1.objs.size h'->ZU H1 h':=λh' p b x e=>p b x (S1 (D3 e)) (G3 _ e)
 refine wpAny_bind (wpAny_newList (wpAny_bind (C0 (B1 slot_list_sort ⟨_,fresh,rfl⟩ entry_list_sort (Mi (s:= {s with heap:=H1.push (seqObj "list" vs.toArray 0)}) (κ:=κ) (U:=U) (R:=R) fresh (D6 hz) (λh2 h' p=>hk h2 h' λb x e=>kp h' p b x (k1 b x e)) (λh' p=>ak h' λb x e=>kp h' p b x (k1 b x e)) o u λout c tk h' p e1 e2 e3=>⟨_,rfl,?_⟩) (args_list_sort _)))) (D6 hz));exact P1 ⟨_,rfl,q H1 h' tk c out k1 (kp h' p) e1 e2 e3⟩
end
theorem Jj: ∀a b:List Int,jP a b=true->jP b a=false
 | [],[],h=>rfl
 | [],_::_,_=>rfl
 |_::_,[],h=>by cases h
 |x::xs,y::ys,h=>by
  unfold jP at h ⊢
  by_cases e:x=y
  ·subst e;rw [if_pos rfl] at h ⊢;exact Jj xs ys h
  ·rw [if_neg e] at h;rw [if_neg (Ne.symm e)];have:=M5 h;exact S6 (by omega)
theorem ZV: ∀a b c:List Int,jP a c=true->jP a b=true\/jP b c=true
 | [],[],c,h=> .inr h
 | [],_::_,_,_=> .inl rfl
 |_::_,_,[],h=>by cases h
 |x::xs,[],z::zs,h=> .inr rfl
 |x::xs,y::ys,z::zs,h=>by
  unfold jP at h ⊢
  by_cases e:x=z
  ·subst e;rw [if_pos rfl] at h
   by_cases f:x=y
   ·subst f;rw [if_pos rfl,if_pos rfl];exact ZV xs ys zs h
   ·rw [if_neg f,if_neg (Ne.symm f)]
    by_cases g:x<y
    ·exact .inl (P7 g)
    ·exact .inr (P7 (by omega))
  ·rw [if_neg e] at h;have lt:=M5 h
   by_cases f:x=y
   ·subst f;rw [if_neg e];exact .inr h
   ·rw [if_neg f]
    by_cases g:x<y
    ·exact .inl (P7 g)
    ·refine .inr ?_;rw [if_neg (by omega)];exact P7 (by omega)
theorem ZW: ∀a b:List Int,jP a b=false->jP b a=false->a=b
 | [],[],_,_=>rfl
 | [],_::_,h,_=>by cases h
 |_::_,[],_,h=>by cases h
 |x::xs,y::ys,h,h'=>by
  unfold jP at h h'
  by_cases e:x=y
  ·subst e;rw [if_pos rfl] at h h';rw [ZW xs ys h h']
  ·rw [if_neg e] at h;rw [if_neg (Ne.symm e)] at h';have:=of_decide_eq_false h;have:=of_decide_eq_false h';omega
theorem PK {U:Keyed->Prop}(key:Value->List Int):Ordd U (λx y=>jP (key x.1) (key y.1)):=⟨λx y _ _ h=>Jj _ _ h,λx y z _ _ _ h=>ZV _ _ _ h⟩
def IT (h:Heap)(v:Value)(ns:List Int):Prop:= ∃a its,v= .ref a/\IsTup h a its/\IntsAre its.toList ns
theorem IT.keeps {h h':Heap}{v:Value}{ns:List Int}(x:IT h v ns)(k:ZU h h'):IT h' v ns:=let ⟨a,its,e,t,i⟩:=x;⟨a,its,e,t.keeps k,i⟩
theorem XS: ∀ {vs:List Value} {ns ms:List Int},IntsAre vs ns->IntsAre vs ms->ns=ms
 |_,_,_,.nil,.nil=>rfl
 |_,_,_,.cons n t a,.cons _ _ b=>by rw [XS a b]
theorem IT.one {h:Heap}{v:Value}{ns ms:List Int}(x:IT h v ns)(y:IT h v ms):ns=ms:=by
 obtain⟨a,its,rfl,⟨o,e,c,n,d⟩,i⟩:=x;obtain⟨a',its',e2,⟨o',e',c',n',d'⟩,i'⟩:=y;cases e2;rw [e] at e';cases e';rw [d] at d';cases d';exact XS i i'
open Classical in
noncomputable def zh (h:Heap)(v:Value):List Int:=if e: ∃ns,IT h v ns then e.choose else []
theorem IT.nums {h:Heap}{v:Value}{ns:List Int}(x:IT h v ns):zh h v=ns:=by
 have e: ∃ns,IT h v ns:=⟨ns,x⟩;unfold zh;rw [dif_pos e];exact e.choose_spec.one x
section
variable {prog:Program}{w:World}{A:Around}{E:Value->Shared->Prop}{s:Shared}
theorem vF {α β:Type}{M:Model}{f:α->Sem β}(r:α->β): ∀ (l:List α) {Q:List β->Shared->Prop},(∀v∈l,∀Q':β->Shared->Prop,Q' (r v) s->wpAny M A (f v) Q' E s)->Q (l.map r) s->wpAny M A (l.mapM f) Q E s
 | [],_,_,q=>by
  rw [List.mapM_nil];exact P1 q
 |v::l,Q,hf,q=>by
  rw [List.mapM_cons];refine wpAny_bind (hf v P8 _ (wpAny_bind ?_));exact vF r l (λu hu=>hf u (D8 _ hu)) (P1 q)
def zn (h:Heap):Value->Option Value
 | .ref a=>match h.get? a with
  |some o=>match o.data with
   | .seq xs _=>xs[0]?
   |_=>none
  |none=>none
 |_=>none
variable {v:Value}{ns:List Int}
theorem Mj {Q:Option Value->Shared->Prop}(x:IT s.heap v ns)(q:Q (zn s.heap v) s):wpAny (model prog w) A (firstOfTuple' v) Q E s:=by
 obtain⟨a,its,rfl,⟨o,e,c,n,d⟩,i⟩:=x;have fe:zn s.heap (.ref a)=its[0]? :=by
  unfold zn;dsimp only;rw [e];dsimp only;rw [d]
 rw [PySem.W.kas_first_eq];refine wpAny_bind (PySem.W.Looks.here (show PySem.W.Looks (model prog w) s.heap (typeOf (.ref a)) o.cls from (PySem.W.Looks.ld e).andThen .now) ?_);rw [c,if_neg (by decide)];refine wpAny_bind (listItems_at e d (P1 ?_));rw [<-fe];exact q
variable {h:Heap}
theorem QL (x:IT h v []):zn h v=none:=by
 obtain⟨a,its,rfl,⟨o,e,c,n,d⟩,i⟩:=x;unfold zn;dsimp only;rw [e];dsimp only;rw [d];dsimp only;obtain⟨l⟩:=its;cases i;rfl
theorem WZ {n:Int}(x:IT h v (n::ns)): ∃t,zn h v=some (.int n t):=by
 obtain⟨a,its,rfl,⟨o,e,c,k,d⟩,i⟩:=x;obtain⟨l⟩:=its;cases i with
 |cons _ t i=>exact⟨t,by unfold zn;dsimp only;rw [e];dsimp only;rw [d];rfl⟩
theorem Mk (x:IT h v ns):(zn h v).isSome= !ns.isEmpty:=by
 cases ns with
 |nil=>rw [QL x];rfl
 |cons n ns=>obtain⟨t,e⟩:=WZ x;rw [e];rfl
noncomputable def PL (h:Heap)(vs:List Value):SortKind:=
 if (vs.all λv=> !(zh h v).isEmpty)=true then tuples' true else if ((vs[0]?.map λv=> !(zh h v).isEmpty)=some true) then general' else oneType'
theorem PM {vs:List Value}(h2:2<=vs.length)(x: ∀v∈vs,∃ns,IT h v ns){Q:SortKind->Shared->Prop}(e:ZU h s.heap)(q:Q (PL h vs) s):wpAny (model prog w) A (keyKind' vs.toArray) Q E s:=by
 have fr: ∀v∈vs,(zn s.heap v).isSome= !(zh h v).isEmpty:=λv hv=>by
  obtain⟨ns,t⟩:=x v hv;rw [t.nums,Mk (t.keeps e)]
 rw [keyKind'_eq,G0u,map_eq_pure_bind];refine wpAny_bind (wpAny_bind (vF (zn s.heap) vs (λv hv Q' q'=> ?_) (P1 ?_)))
 ·obtain⟨ns,t⟩:=x v hv;exact Mj (t.keeps e) q'
 have all_:((vs.map (zn s.heap)).toArray.all λo=>o.isSome)=vs.all λv=> !(zh h v).isEmpty:=by
  rw [G0H,F9];rw [T5,S8,S8];exact⟨λz v hv=>by rw [<-fr v hv];exact z v hv,λz v hv=>by show (zn s.heap v).isSome=true;rw [fr v hv];exact z v hv⟩
 rw [all_];unfold PL at q
 by_cases a1:(vs.all λv=> !(zh h v).isEmpty)=true
 ·rw [if_pos a1] at q;rw [if_pos a1];refine wpAny_bind (X5 ?_);obtain⟨fs,efs,nums,ne⟩: ∃fs:List Value,vs.map (zn s.heap)=fs.map some/\(∀f∈fs,∃n t,f=Value.int n t)/\fs.length=vs.length:=by
   have go: ∀l:List Value,(∀v∈l,v∈vs)-> ∃fs:List Value,l.map (zn s.heap)=fs.map some/\(∀f∈fs,∃n t,f=Value.int n t)/\fs.length=l.length:=by
    intro l
    induction l with
    |nil=>exact λ_=>⟨[],rfl,λf hf=>absurd hf N8,rfl⟩
    |cons v l ih=>
     intro sub;obtain⟨fs,e1,e2,e3⟩:=ih λu hu=>sub u (D8 _ hu)
     have hv:=sub v P8;obtain⟨ns,t⟩:=x v hv;have ne:=S8.mp a1 v hv;rw [t.nums] at ne;cases ns with
     |nil=>cases ne
     |cons n ns=>
      obtain⟨tk,ef⟩:=WZ (t.keeps e);refine⟨.int n tk::fs,by rw [M8,M8,ef,e1],λf hf=> ?_,by rw [D5,D5,e3]⟩;rcases R5.mp hf with rfl|hf
      ·exact⟨n,tk,rfl⟩
      ·exact e2 f hf
   exact go vs λ_ hv=>hv
  rw [efs];have fm:((fs.map some).toArray.filterMap id)=fs.toArray:=by simp
  rw [fm,oneTypeOnly'_eq,G0u,map_eq_pure_bind];refine wpAny_bind (wpAny_bind (wpAny_bind (vF (λ_=>Value.type "int") fs (λf hf Q' q'=> ?_) (P1 ?_))))
  ·obtain⟨n,t,rfl⟩:=nums f hf;exact P1 q'
  ·match fs,ne with
   | [],ne=>rw [T9] at ne;omega
   |f::fs,_=>
    have h0:(List.map (λ_=>Value.type "int") (f::fs)).toArray[0]? =some (Value.type "int"):=by simp
    have h1:((List.map (λ_=>Value.type "int") (f::fs)).toArray.all λy=>y==Value.type "int")=true:=by
     rw [G0H,F9,S8];exact λ_ _=>rfl
    rw [h0];simp only [h1,if_true];exact P1 (P1 q)
 rw [if_neg a1] at q;rw [if_neg a1]
 match vs,h2,x,fr,q with
 |v::vs,h2,x,fr,q=>
  have h0:((List.map (zn s.heap) (v::vs)).toArray[0]?.bind id).isSome= !(zh h v).isEmpty:=by
   rw [<-fr v P8];simp
  rw [h0];have h0':(((v::vs)[0]?.map λv=> !(zh h v).isEmpty)=some true)↔(!(zh h v).isEmpty)=true:=by simp
  by_cases a2:(!(zh h v).isEmpty)=true
  ·rw [if_pos (h0'.mpr a2)] at q;rw [if_pos a2];exact P1 q
  rw [if_neg λz=>a2 (h0'.mp z)] at q;rw [if_neg a2];rw [oneTypeOnly'_eq,G0u,map_eq_pure_bind];refine wpAny_bind (wpAny_bind (wpAny_bind (vF (λ_=>Value.type "tuple") (v::vs) (λf hf Q' q'=> ?_) (P1 ?_))))
  ·obtain⟨ns,t⟩:=x f hf;obtain⟨a,its,rfl,⟨o,e1,c,n,d⟩,i⟩:=t.keeps e;refine PySem.W.Looks.here (show PySem.W.Looks (model prog w) s.heap (typeOf (.ref a)) o.cls from (PySem.W.Looks.ld e1).andThen .now) ?_;rw [c];exact q'
  ·have h3:(List.map (λ_=>Value.type "tuple") (v::vs)).toArray[0]? =some (Value.type "tuple"):=by simp
   have h1:((List.map (λ_=>Value.type "tuple") (v::vs)).toArray.all λy=>y==Value.type "tuple")=true:=by
    rw [G0H,F9,S8];exact λ_ _=>rfl
   rw [h3];simp only [h1,if_true];exact P1 (P1 q)
theorem XT {fin:Bool}{Q:Bool->Shared->Prop}{m n:Nat}(ef:fin=decide (m<n)): ∀ {vs us:List Value} {ns ms:List Int} (i:Nat),IntsAre vs ns->IntsAre us ms->ns.length+n=ms.length+m->Q (jP ns ms) s->PySem.W.KatLex prog w A true fin Q (vs.zip us) i s
 |_,_,_,_,i,.nil,.nil,l,q=>by
  subst ef;rw [G0o];refine G0U ?_;rw [S6 (by rw [T9] at l;omega)];exact q
 |_,_,_,_,i,.nil,.cons c u y,l,q=>by
  subst ef;rw [G0o];refine G0U ?_;rw [P7 (by rw [T9,D5] at l;omega)];exact q
 |_,_,_,_,i,.cons a t x,.nil,l,q=>by
  subst ef;rw [List.zip_nil_right];refine G0U ?_;rw [S6 (by rw [T9,D5] at l;omega)];exact q
 |_,_,_,_,i,.cons a t x,.cons c u y,l,q=>by
  rw [U5];rw [vZ] at q;obtain⟨e,he,hiff⟩:=Xt A s a t c u;refine PySem.W.kat_cons (he prog w _ _ ?_);refine PySem.W.kat_go (λz=>PySem.W.kat_yes ?_) λz=>PySem.W.kat_no ?_
  ·rw [if_pos (hiff.mp z)] at q;exact XT ef (i+1) x y (by rw [D5,D5] at l;omega) q
  ·rw [if_neg λz'=>by rw [hiff.mpr z'] at z;cases z] at q;cases (true&&i==0) with
   |true=>exact oneLt_int q
   |false=>exact PySem.W.kat_one _ _ (G04 q)
theorem Os {u:Value}{ms:List Int}{Q:Bool->Shared->Prop}(hu:A.units<cLine)(x:IT s.heap v ns)(y:IT s.heap u ms)(q:Q (jP ns ms) s):wpAny (model prog w) A (oneLt' true v u) Q E s:=by
 obtain⟨a,its,rfl,⟨⟨cls,dd,data,sl⟩,e1,c,n,d⟩,i⟩:=x;obtain⟨b,its2,rfl,⟨⟨cls2,dd2,data2,sl2⟩,e2,c2,n2,d2⟩,i2⟩:=y;simp only at c d c2 d2;subst c d c2 d2;rw [oneLt'_eq];simp only [if_true];refine wpAny_bind (wpAny_cRoomFor hu (wpAny_bind (wpAny_callSpecialIfBound?_slot ⟨_,e1,rfl⟩ W4 (X6 W4 ⟨_,e1,rfl⟩ G0K (G0x _ _) (vt a b its its2 n n2 dd dd2 sl sl2 ns ms i i2) ⟨e1,e2,?_⟩))));exact N5 q
theorem Ot {u:Value}{ms:List Int}{Q:Bool->Shared->Prop}(hu:A.units<cLine)(x:IT s.heap v ns)(y:IT s.heap u ms)(q:Q (jP ns ms) s):wpAny (model prog w) A (oneLt' false v u) Q E s:=by
 obtain⟨a,its,rfl,t,i⟩:=x;obtain⟨b,its2,rfl,t2,i2⟩:=y;exact PySem.W.kat_one _ _ (Qk t t2 i i2 hu q)
theorem PN {vs:List Value}(hu:A.units<cLine){h':Heap}(k:ZU s.heap h'):Yz prog w A (Only s h') (PL s.heap vs) (λx=> ∃ns,IT s.heap x.1 ns) (λx y=>jP (zh s.heap x.1) (zh s.heap y.1)):=by
 rintro ⟨x,x'⟩ ⟨y,y'⟩ ⟨ns,tx⟩ ⟨ms,ty⟩ s1 ⟨tk,rfl⟩;dsimp only at tx ty ⊢;have q:(jP ns ms=jP (zh s.heap x) (zh s.heap y)/\Only s h' {s with heap:=h',toks:=tk}):=⟨by rw [tx.nums,ty.nums],tk,rfl⟩;have kx:=tx.keeps k;have ky:=ty.keeps k;unfold PL
 by_cases a1:(vs.all λv=> !(zh s.heap v).isEmpty)=true
 ·rw [if_pos a1];obtain⟨a,its,rfl,⟨o,e1,c,n,d⟩,i⟩:=kx;obtain⟨b,its2,rfl,⟨o2,e2,c2,n2,d2⟩,i2⟩:=ky;refine PySem.W.kat_lt e1 d e2 d2 (XT rfl 0 i i2 ?_ q);have z1:=i.length;have z2:=i2.length;rw [T0] at z1 z2;omega
 rw [if_neg a1]
 by_cases a2:(vs[0]?.map λv=> !(zh s.heap v).isEmpty)=some true
 ·rw [if_pos a2];show wpAny _ _ (oneLt' false x y) _ _ _;exact Ot hu kx ky q
 ·rw [if_neg a2,keyLt'_oneType];exact Os hu kx ky q
theorem UL {l:Addr}{vs:List Value}{Q:Value->Shared->Prop}(hu:A.in1.in1.units<cLine)(hl:s.heap.IsList l vs.toArray)(hz:vs.length<sizeLine)(x: ∀v∈vs,∃ns,IT s.heap v ns)
 (q: ∀ (h1 h':Heap) (tk c:Nat) (out:List Value),ZU s.heap h1->ZU h1 h'->h'.get? h1.objs.size=some (seqObj "list" out.toArray c)->out.Perm vs->out.Pairwise (λx y=>jP (zh s.heap y) (zh s.heap x)=false)->Q (.ref h1.objs.size) {s with heap:=h',toks:=tk}):
 wpAny (model prog w) A (call (.builtin "sorted") [.ref l]) Q E s:=by
 refine QK (κ:=PL s.heap vs) (U:=λx=> ∃ns,IT s.heap x.1 ns) (R:=λx y=>jP (zh s.heap x.1) (zh s.heap y.1)) hl hz (λh2 h' k=> ?_) (λh' k=>PN hu k) (PK _) x λh1 h' tk c out k1 k2 e1 e2 e3=>q h1 h' tk c out k1 k2 e1 e2 ?_
 ·exact PM (s:= {s with heap:=h'}) h2 x k ⟨rfl,s.toks,rfl⟩
 ·rw [T6] at e3;exact e3
end
end HT
namespace L2
open PySem PySem.Spec PyProof.Rows PySem.SeqAt HT
theorem ZX {α β:Type}{f:α->β}: ∀ {out:List β} {l:List α},out.Perm (l.map f)-> ∃l':List α,l'.Perm l/\l'.map f=out
 | [],l,p=>by
  have e:=p.length_eq;rw [G0,T9] at e;exact⟨[],by rw [W9 e.symm],rfl⟩
 |x::out,l,p=>by
  obtain⟨y,hy,rfl⟩:=R4.mp (p.mem_iff.mp P8);obtain⟨l1,l2,rfl⟩:=List.append_of_mem hy;have p2:out.Perm ((l1++l2).map f):=by
   refine List.Perm.cons_inv (a:=f y) (p.trans ?_);rw [M0,M0,M8];exact G0G
  obtain⟨l',a,b⟩:=ZX p2;exact⟨y::l',(a.cons y).trans G0G.symm,by rw [M8,b]⟩
def Eh (H:Hp)(v:V)(ns:List Int):Prop:= ∃a,v= .ref a/\H a=some (.tup (ns.map V.int))
theorem VF {X:Cx}{k:Nat}(hr:Room k X.A):CallR X (.builtin "sorted") (λxs H Q=> ∃ (a:Addr) (ps:List (V×List Int)),xs= [.ref a]/\SqL X.K H a (ps.map (·.1))/\ps.length<sizeLine/\(∀p∈ps,Eh H p.1 p.2)/\ ∀ (q:Addr) (ps':List (V×List Int)),H q=none->ps'.Perm ps->(ps'.map (·.2)).Pairwise (λx y=>HT.jP y x=false)->Q (.ref q) (upd H q (.lst (ps'.map (·.1))))):=by
 intro pins s σ H xs us Q I r h;obtain⟨a,ps,rfl,hS,hz,ht,q⟩:=h;obtain⟨u,rfl,ru⟩:=yF r;cases ru;obtain⟨its,rv,pl,hz'⟩:=I.list hS;obtain⟨zs,e1,e2,e3⟩: ∃zs:List (Value×V×List Int),its=zs.map (·.1)/\ps=zs.map (·.2)/\ ∀z∈zs,RelV z.2.1 z.1:=by
  clear hS q hz ht hz' pl
  induction ps generalizing its with
  |nil=>cases rv;exact⟨[],rfl,rfl,λz hz=>by cases hz⟩
  |cons p ps ih=>
   rw [M8] at rv;cases rv with
   |cons r1 r2=>
    obtain⟨zs,e1,e2,e3⟩:=ih _ r2;exact⟨(_,p)::zs,by rw [M8,<-e1],by rw [M8,<-e2],λz hz=>by
     rcases R5.mp hz with rfl|hz
     ·exact r1
     ·exact e3 z hz⟩
 subst e1 e2;have it: ∀z∈zs,IT s.heap z.1 z.2.2:=λz hm=>by
  obtain⟨b,eb,hb⟩:=ht z.2 (Y1 hm);have rz:=e3 z hm;rw [eb] at rz;have rz:z.1= .ref b:=rz;obtain⟨_,us,r2,p⟩:=I.hok b _ hb;exact⟨b,us.toArray,rz,p.tup,WP r2⟩
 have hu:X.A.in1.in1.units<cLine:=by
  have:=hr.un;show X.A.units+1+1<cLine;omega
 rw [G0] at hz;refine HT.UL hu pl.isList (by rw [G0];exact hz) (λv hv=> ?_) λh1 h' tk c out k1 k2 e4 pm srt=> ?_
 ·obtain⟨z,hm,rfl⟩:=R4.mp hv;exact⟨_,it z hm⟩
 obtain⟨zs',pz,rfl⟩:=ZX pm;have I1:=I.kept (t':=s.toks) k1;have vv: ∀l:List (Value×V×List Int),(∀z∈l,z∈zs)->Vals ((l.map (·.2)).map (·.1)) (l.map (·.1)):=λl=>by
  induction l with
  |nil=>exact λ_=> .nil
  |cons z l ih=>exact λsub=> .cons (e3 z (sub z P8)) (ih λy hy=>sub y (D8 _ hy))
 refine⟨.ref _,_,I1.laid (t':=tk) (o:= .lst ((zs'.map (·.2)).map (·.1))) k2 (G6 _) ⟨?_,_,c,vv zs' λz hm=>pz.mem_iff.mp hm,e4⟩,rfl,q _ (zs'.map (·.2)) (I1.hok.fresh (G6 _)) (pz.map _) ?_⟩
 ·rw [G0,G0,pz.length_eq];exact D6 hz
 ·rw [T6,T6];rw [T6] at srt;refine srt.imp_of_mem λ{y z} hy hz e=> ?_
  rw [<- (it y (pz.mem_iff.mp hy)).nums,<- (it z (pz.mem_iff.mp hz)).nums];exact e
abbrev tI (ns:List Int):D:= .tup (ns.map D.int)
def Cf:RDn:=λds h Q=> ∃ (a:Addr) (nss:List (List Int)),ds= [.lst a]/\h a=some (nss.map tI)/\nss.length<sizeLine/\ ∀ (p:Addr) (mss:List (List Int)),h p=none->mss.Perm nss->mss.Pairwise (λx y=>HT.jP y x=false)->Q (.lst p) (zC h p (mss.map tI))
theorem PP {K:PySem.W.Frag}{H:Hp}: ∀ {nss:List (List Int)} {vs:List V},RelDs K H (nss.map tI) vs-> ∃ps:List (V×List Int),vs=ps.map (·.1)/\nss=ps.map (·.2)/\ ∀p∈ps,Eh H p.1 p.2
 | [],vs,r=>⟨[],r,rfl,λp hp=>by cases hp⟩
 |ns::nss,vs,r=>by
  obtain⟨v,us,e,r1,r2⟩:=(show ∃v r,vs=v::r/\RelD K H (tI ns) v/\RelDs K H (nss.map tI) r from r);obtain⟨ps,e1,e2,e3⟩:=PP r2;obtain⟨a,ws,e4,hH,r4⟩:=(show ∃a vs,v= .ref a/\H a=some (.tup vs)/\RelDs K H (ns.map D.int) vs from r1);rw [zd r4] at hH;exact⟨(v,ns)::ps,by rw [e,e1];rfl,by rw [e2];rfl,λp hp=>by
   rcases R5.mp hp with rfl|hp
   ·exact⟨a,e4,hH⟩
   ·exact e3 p hp⟩
theorem PQ {K:PySem.W.Frag}{H:Hp}: ∀ {ps:List (V×List Int)},(∀p∈ps,Eh H p.1 p.2)->RelDs K H ((ps.map (·.2)).map tI) (ps.map (·.1))
 | [],_=> .nil
 |p::ps,h=> .cons (by
  obtain⟨a,e,hH⟩:=h p P8;exact⟨a,_,e,hH,wC _⟩) (PQ λq hq=>h q (D8 _ hq))
theorem wG {X:Cx}{k:Nat}(hr:Room k X.A):yG X (.builtin "sorted") Cf:=(VF hr).imp λxs H Q ⟨ds,h,Qd,r,rh,⟨a,nss,e,hd,hz,q⟩,p⟩=>by
 subst e;obtain⟨v,e,r1⟩:=jw r;obtain⟨vs,hH,r2⟩:=rh a _ hd;have e1:v= .ref a:=r1.1;subst e e1;obtain⟨ps,rfl,rfl,ht⟩:=PP r2;refine⟨a,ps,rfl,SqL.of hH,by rw [G0] at hz;exact hz,ht,λc ps' hc pm srt=> ?_⟩;exact p (.lst c) _ _ _ (.new hc) (rh.newL hc (PQ λx hx=>ht x (pm.mem_iff.mp hx))) ⟨rfl,_,jq⟩ (q c _ (rh.free hc) (pm.map _) srt)
def zL:Nat->List (List Nat)
 |0=> [[]]
 |k+1=>zL k++(zL k).map λS=>S++ [k]
theorem vG: ∀n,(zL n).length=2^n
 |0=>rfl
 |k+1=>by
  show (zL k++(zL k).map λS=>S++ [k]).length=_;rw [G7,G0,vG k,Nat.pow_succ];omega
theorem vH: ∀ {n:Nat} {S:List Nat},S∈zL n->IsS n S
 |0,S,h=>by
  rw [show zL 0= [[]] from rfl,G2] at h;subst h;exact IsS.nil 0
 |k+1,S,h=>by
  rcases D4.mp (show S∈zL k++(zL k).map λS=>S++ [k] from h) with h|h
  ·exact(vH h).more false
  ·obtain⟨S',h',rfl⟩:=R4.mp h;exact(vH h').more true
theorem ZY: ∀ {n:Nat} (p:Nat->Bool),(List.range n).filter p∈zL n
 |0,p=>G2.mpr rfl
 |k+1,p=>by
  show _∈zL k++(zL k).map λS=>S++ [k]
  rw [C6,L5,D4];cases e:p k with
  |false=>
   left;rw [show [k].filter p= [] by simp [e],C3];exact ZY p
  |true=>
   right;rw [show [k].filter p= [k] by simp [e]];exact R4.mpr ⟨_,ZY p,rfl⟩
theorem PU {n:Nat}{S:List Nat}:S∈zL n↔IsS n S:=⟨vH,λ⟨p,e⟩=>by rw [e];exact ZY p⟩
theorem yY: ∀n,(zL n).Nodup
 |0=>T4 _ _
 |k+1=>by
  show (zL k++(zL k).map λS=>S++ [k]).Nodup;refine Q0.mpr ⟨yY k,?_,λx hx y hy e=> ?_⟩
  ·have nd:=yY k;unfold List.Nodup at nd ⊢;rw [T6];exact nd.imp λne e=>ne (List.append_cancel_right e)
  ·obtain⟨S,hS,rfl⟩:=R4.mp hy;subst e;exact N3 k ((vH hx).lt (P3 _ (G2.mpr rfl)))
abbrev toI (S:List Nat):List Int:=S.map λ(k:Nat)=>(k:Int)
theorem PV {S S':List Nat}(h:toI S=toI S'):S=S':=by
 have:=congrArg (List.map Int.toNat) h;rw [S0,S0] at this;have e:(Int.toNat∘λ(k:Nat)=>(k:Int))=id:=by funext k;exact A9 k
 rw [e,G07,G07] at this;exact this
theorem PX (S:List Nat):tI (toI S)=jx S:=by
 show D.tup _=D.tup _;rw [S0];rfl
def leS (a b:List Nat):Bool:= !HT.jP (toI b) (toI a)
theorem PY (a b c:List Nat)(h:leS a b=true)(h':leS b c=true):leS a c=true:=by
 unfold leS at*
 cases e:HT.jP (toI c) (toI a) with
 |false=>rfl
 |true=>
  rcases ZV _ (toI b) _ e with z|z
  ·rw [z] at h';cases h'
  ·rw [z] at h;cases h
theorem VG (a b:List Nat):(leS a b||leS b a)=true:=by
 unfold leS;cases e:HT.jP (toI b) (toI a) with
 |false=>rfl
 |true=>rw [Jj _ _ e];rfl
theorem XU {a b:List Nat}(h:leS a b=true)(h':leS b a=true):a=b:=by
 unfold leS at*
 refine PV (ZW _ _ ?_ ?_)
 ·cases e:HT.jP (toI a) (toI b) with
  |false=>rfl
  |true=>rw [e] at h';cases h'
 ·cases e:HT.jP (toI b) (toI a) with
  |false=>rfl
  |true=>rw [e] at h;cases h
def Wz (l:List (List Nat)):List (List Nat):=l.mergeSort leS
theorem zV (l:List (List Nat)):(Wz l).Perm l:=List.mergeSort_perm _ _
theorem Jk (l:List (List Nat)):(Wz l).Pairwise λa b=>leS a b=true:=List.pairwise_mergeSort PY VG l
theorem VH {l P:List (List Nat)}(p:P.Perm l)(r:P.Pairwise λa b=>leS a b=true):P=Wz l:=
 E4 (λa b _ _ x y=>XU x y) r (Jk l) (p.trans (zV l).symm)
theorem yg {l:List (List Nat)}{mss:List (List Int)}(p:mss.Perm (l.map toI))(r:mss.Pairwise λx y=>HT.jP y x=false):mss.map tI=(Wz l).map jx:=by
 obtain⟨P,pP,rfl⟩:=ZX p;rw [T6] at r;rw [<-VH pP (r.imp λe=>by unfold leS;rw [e];rfl),List.map_map];exact S5 λS _=>PX S
def WA (n:Nat):List (List Nat):=Wz (zL n)
theorem setsS_mem {n:Nat}{S:List Nat}:S∈WA n↔IsS n S:=(zV _).mem_iff.trans PU
theorem PZ (n:Nat):(WA n).length=2^n:=(zV _).length_eq.trans (vG n)
theorem Ml {n:Nat}(h:n<=6):(WA n).length<=64:=by
 rw [PZ];exact A5 (by decide) h
theorem UM (n:Nat):(WA n).Nodup:=(zV _).nodup_iff.mpr (yY n)
end L2
namespace L2
open PySem PySem.Spec PyProof.Rows PySem.SeqAt
theorem XV: ∀l:List Int,PyData.canLayAll0 (l.map PyData.int)=true
 | []=>rfl
 |x::l=>by show (PyData.canLay0 (.int x)&&_)=true;rw [XV l];rfl
variable {S:List Nat}{h:HD}
theorem Cg {neg:Bool}{x:Nat}{Q:KD}(q: ∀b:Bool,(b=true↔x∈S)->Q (.bl (neg !=b)) h):inE neg (.int (x:Int)) (jx S) h Q:=by
 refine⟨.int x,(jI S).map PyData.int,rfl,.inr (Jd h S),rfl,XV _,(by show (0:Nat)<=60;decide),q _ ?_⟩;rw [Q6];constructor
 ·rintro ⟨z,hz,e⟩;obtain⟨m,hm,rfl⟩:=R4.mp hz;obtain⟨y,hy,rfl⟩:=R4.mp (show m∈S.map λ(k:Nat)=>(k:Int) from hm);have:(y:Int)=x:=by simpa [PyData.eqv] using e
  have:y=x:=by omega
  exact this ▸ hy
 ·intro z;exact⟨.int x,R4.mpr ⟨_,R4.mpr ⟨x,z,rfl⟩,rfl⟩,by simp [PyData.eqv]⟩
def WB (S:List Nat)(T:List (List Int)):List (List Int):=S.map λi=>S.map λj=>ent T i j
variable {n:Nat}{T:List (List Int)}
theorem UN {e:Nat}(h:Sq n e T)(hS: ∀i∈S,i<n):Sq S.length e (WB S T):=by
 refine⟨by unfold WB;rw [List.length_map],λr hr=> ?_,λr hr x hx=> ?_,λr hr x hx=> ?_⟩<;>obtain⟨i,hi,rfl⟩:=R4.mp hr
 ·rw [G0]
 ·obtain⟨j,hj,rfl⟩:=R4.mp hx;exact(h.ent_nn (hS i hi) (hS j hj)).1
 ·obtain⟨j,hj,rfl⟩:=R4.mp hx;exact(h.ent_nn (hS i hi) (hS j hj)).2
theorem Ch {a b:List Nat}{Q:KD}(e:a≠b)(q:Q (.bl false) h):eqE (jx a) (jx b) h Q:=⟨_,_,Jd h a,Jd h b,yA _,yA _,by rw [UG,S6 e];exact q⟩
theorem Ci {x:Nat}{Q:KD}(q:Q (.bl (decide (x∈S))) h):inE false (.int (x:Int)) (jx S) h Q:=Cg λbo hb=>by
 have:(false !=bo)=decide (x∈S):=by
  cases bo with
  |true=>rw [P7 (hb.mp rfl)];rfl
  |false=>rw [S6 λz=>by have:=hb.mpr z;cases this];rfl
 rw [this];exact q
def yZ (n:Nat)(T:List (List Int))(S:List Nat):Bool:=(Vz n T S).all λj=>decide (j∈S)
theorem Da:(Vz n T S).length<=n:=(IsS.step T S).len
theorem vI {h':HD}{a:Addr}(sb:Sub h h')(e:h' a=none):h a=none:=by
 cases z:h a with
 |none=>rfl
 |some ds=>rw [sb a ds z] at e;cases e
theorem Sub.over {h':HD}{a:Addr}{ds:List D}(sb:Sub h h')(e:h a=none):Sub h (zC h' a ds):=⟨λb xs k=>ju (λz=>by subst z;rw [e] at k;cases k) (sb b xs k),sb.dc⟩
structure GB (n:Nat)(h0 h:HD)(R:Addr)(rs:List Addr)(f:Nat->Nat->Bool):Prop where
 at_:h R=some (rs.map D.lst)
 len:rs.length=n
 nR:R ∉ rs
 nd:rs.Nodup
 sb:Sub h0 h
 row: ∀i a,rs[i]? =some a->h0 a=none/\h a=some ((List.range n).map λj=>D.bl (f i j))
section
variable {n:Nat}{h0 h:HD}{R:Addr}{rs:List Addr}{f g:Nat->Nat->Bool}
theorem GB.put (G:GB n h0 h R rs f){i j:Nat}{a:Addr}{v:Bool}(ha:rs[i]? =some a):GB n h0 (zC h a (((List.range n).map λj=>D.bl (f i j)).set j (.bl v))) R rs (λx y=>if x=i/\y=j then v else f x y):=by
 have hm:=G9 ha;have il:=(G5.mp ha).1;refine⟨ju (λz=>G.nR (z ▸ hm)) G.at_,G.len,G.nR,G.nd,G.sb.over (G.row i a ha).1,λx b hb=>⟨(G.row x b hb).1,?_⟩⟩
 by_cases z:x=i
 ·subst z;have eb:b=a:=by rw [ha] at hb;injection hb with hb;exact hb.symm
  subst eb;rw [jc];refine congrArg some (G0F (by simp) λm h1 h2=> ?_);rw [List.getElem_set];simp only [List.getElem_map,G0d]
  by_cases e:j=m
  ·subst e;simp
  ·rw [if_neg e,if_neg λw=>e w.2.symm]
 ·have ne:b≠a:=λw=>z ((List.getElem?_inj (G5.mp hb).1 G.nd).mp (hb.trans (by rw [w];exact ha.symm)))
  rw [ju ne (G.row x b hb).2];exact congrArg some (S5 λy _=>by rw [if_neg λw=>z w.1])
theorem GB.pick (G:GB n h0 h R rs f){i:Nat}(hi:i<n): ∃a,rs[i]? =some a/\atI (rs.map D.lst) (i:Int)=some (.lst a)/\h a=some ((List.range n).map λj=>D.bl (f i j)):=by
 have hi':i<rs.length:=by rw [G.len];exact hi
 exact⟨rs[i],G1 hi',wu (by rw [P9,G1 hi'];rfl),(G.row i _ (G1 hi')).2⟩
theorem GB.as (G:GB n h0 h R rs f)(e: ∀i j,i<n->j<n->f i j=g i j):GB n h0 h R rs g:=
 ⟨G.at_,G.len,G.nR,G.nd,G.sb,λi a ha=>⟨(G.row i a ha).1,by
  have hi:i<n:=by rw [<-G.len];exact(G5.mp ha).1
  rw [(G.row i a ha).2];exact congrArg some (S5 λj hj=>by rw [e i j hi (P2.mp hj)])⟩⟩
theorem GB.up (G:GB n h0 h R rs f){h':HD}(s:Sub h h'):GB n h0 h' R rs f:=⟨s _ _ G.at_,G.len,G.nR,G.nd,G.sb.trans s,λi a ha=>⟨(G.row i a ha).1,s _ _ (G.row i a ha).2⟩⟩
end
variable {j:Nat}
theorem VI {f:Nat->Bool}(hj:j<n):atI ((List.range n).map λj=>D.bl (f j)) (j:Int)=some (.bl (f j)):=BU hj
def wk (T:List (List Int)):Nat->Nat->Nat->Bool
 |0,i,j=>decide (i=j)|| !decide (ent T i j=0)
 |b+1,i,j=>wk T b i j||(wk T b i b&&wk T b b j)
theorem Jl (T:List (List Int)): ∀b i,wk T b i i=true
 |0,i=>by unfold wk;rw [decide_eq_true rfl];rfl
 |b+1,i=>by unfold wk;rw [Jl T b i];rfl
theorem Nh (T:List (List Int))(b i:Nat):wk T (b+1) i b=wk T b i b:=by
 show (wk T b i b||(wk T b i b&&wk T b b b))=_;cases wk T b i b<;>rfl
theorem Ni (T:List (List Int))(b j:Nat):wk T (b+1) b j=wk T b b j:=by
 show (wk T b b j||(wk T b b b&&wk T b b j))=_;cases wk T b b j<;>cases wk T b b b<;>rfl
variable {i:Nat}
theorem Zf (h:ent T i j≠0): ∀b,wk T b i j=true
 |0=>by unfold wk;rw [decide_eq_false h];simp
 |b+1=>by unfold wk;rw [Zf h b];rfl
variable {b:Nat}
theorem wk_by:wk T (b+1) i j=true↔wk T b i j=true\/(wk T b i b=true/\wk T b b j=true):=by
 show (wk T b i j||(wk T b i b&&wk T b b j))=true↔_;rw [U7,B2]
theorem jU: ∀ {b i k j:Nat},k<b->wk T b i k=true->wk T b k j=true->wk T b i j=true
 |b+1,i,k,j,hk,x,y=>by
  by_cases e:k=b
  ·subst e;rw [Nh] at x;rw [Ni] at y;exact wk_by.mpr (.inr ⟨x,y⟩)
  ·have lt:k<b:=by omega
   rcases wk_by.mp x with x|⟨x1,x2⟩
   ·rcases wk_by.mp y with y|⟨y1,y2⟩
    ·exact wk_by.mpr (.inl (jU lt x y))
    ·exact wk_by.mpr (.inr ⟨jU lt x y1,y2⟩)
   ·rcases wk_by.mp y with y|⟨y1,y2⟩
    ·exact wk_by.mpr (.inr ⟨x1,jU lt x2 y⟩)
    ·exact wk_by.mpr (.inr ⟨x1,y2⟩)
theorem vJ {P:Nat->Nat->Prop}(r: ∀i,P i i)(a: ∀i j,ent T i j≠0->P i j)(t: ∀i k j,P i k->P k j->P i j): ∀ {b i j:Nat},wk T b i j=true->P i j
 |0,i,j,h=>by
  have h:(decide (i=j)|| !decide (ent T i j=0))=true:=h;rw [U7] at h;rcases h with h|h
  ·rw [M5 h];exact r j
  ·exact a i j λz=>by rw [P7 z] at h;cases h
 |b+1,i,j,h=>by
  rcases wk_by.mp h with h|⟨h1,h2⟩
  ·exact vJ r a t h
  ·exact t _ _ _ (vJ r a t h1) (vJ r a t h2)
def clS (n:Nat)(T:List (List Int))(S:List Nat):List Nat:=(List.range n).filter λj=>S.any λi=>wk T n i j
theorem Nj (n:Nat)(T:List (List Int))(S:List Nat):IsS n (clS n T S):=⟨_,rfl⟩
theorem mem_cl:j∈clS n T S↔j<n/\ ∃i∈S,wk T n i j=true:=by
 unfold clS;rw [S2,P2,Q6]
theorem Ou (hS:IsS n S){j:Nat}(hj:j∈S):j∈clS n T S:=mem_cl.mpr ⟨hS.lt hj,j,hj,Jl T n j⟩
theorem mem_stepS:j∈Vz n T S↔j<n/\ ∃i∈S,ent T i j≠0:=by
 unfold Vz;rw [S2,P2,Q6];exact⟨λ⟨a,i,hi,z⟩=>⟨a,i,hi,by simpa using z⟩,λ⟨a,i,hi,z⟩=>⟨a,i,hi,by simpa using z⟩⟩
theorem shut_iff:yZ n T S=true↔ ∀i∈S,∀j,j<n->ent T i j≠0->j∈S:=by
 unfold yZ;rw [S8];constructor
 ·intro h i hi j hj e;exact M5 (h j (mem_stepS.mpr ⟨hj,i,hi,e⟩))
 ·intro h j hj;obtain⟨a,i,hi,e⟩:=mem_stepS.mp hj;exact P7 (h i hi j a e)
theorem Cj (n:Nat)(T:List (List Int))(S:List Nat):yZ n T (clS n T S)=true:=by
 rw [shut_iff];intro i hi j hj e;obtain⟨a,s,hs,w⟩:=mem_cl.mp hi;exact mem_cl.mpr ⟨hj,s,hs,jU a w (Zf e n)⟩
theorem Ei {U:List Nat}(hU:yZ n T U=true)(out: ∀i j,ent T i j≠0->j<n)(sub: ∀i∈S,i∈U){j:Nat}(hj:j∈clS n T S):j∈U:=by
 obtain⟨_,s,hs,w⟩:=mem_cl.mp hj;exact vJ (P:=λi j=>i∈U->j∈U) (λ_ x=>x) (λi j e x=>shut_iff.mp hU i x j (out i j e) e) (λi k j x y z=>y (x z)) w (sub s hs)
theorem Db {e:Nat}(h:Sq n e T)(i j:Nat)(z:ent T i j≠0):j<n:=by
 by_cases hj:j<n
 ·exact hj
 ·exfalso;apply z;unfold ent
  by_cases hi:i<T.length
  ·have hr:=h.row (T.getD i []) (by rw [D2,G1 hi];exact R9 hi);rw [D2,F8 (by rw [hr];omega)];rfl
  ·rw [D2 (l:=T),F8 (by omega)];rfl
theorem Ej {e:Nat}(h:Sq n e T){S:List Nat}(hS:IsS n S)(sh:yZ n T S=true):clS n T S=S:=
 IsS.ext (Nj n T S) hS λj=>⟨λhj=>Ei sh (Db h) (λ_ x=>x) hj,λhj=>Ou hS hj⟩
def fW (T:List (List Int))(b i j x y:Nat):Bool:=if x<i\/(x=i/\y<j) then wk T (b+1) x y else wk T b x y
theorem Ov (T:List (List Int))(b i j x:Nat):fW T b i j x b=wk T b x b:=by
 unfold fW;rw [Nh]
 by_cases c:x<i\/(x=i/\b<j)
 ·rw [if_pos c]
 ·rw [if_neg c]
theorem Ow (T:List (List Int))(b i j y:Nat):fW T b i j b y=wk T b b y:=by
 unfold fW;rw [Ni]
 by_cases c:b<i\/(b=i/\y<j)
 ·rw [if_pos c]
 ·rw [if_neg c]
theorem Ox (h1:wk T b i b=true)(h2:wk T b b j=true)(x y:Nat):(if x=i/\y=j then true else fW T b i j x y)=fW T b i (j+1) x y:=by
 by_cases e:x=i/\y=j
 ·obtain⟨rfl,rfl⟩:=e;unfold fW;rw [if_pos ⟨rfl,rfl⟩,if_pos (.inr ⟨rfl,L6 _⟩)];exact(wk_by.mpr (.inr ⟨h1,h2⟩)).symm
 ·rw [if_neg e];unfold fW
  by_cases c:x<i\/(x=i/\y<j)
  ·rw [if_pos c,if_pos (by omega)]
  ·rw [if_neg c,if_neg (by omega)]
theorem Dc (h: ¬ (wk T b i b=true/\wk T b b j=true))(x y:Nat):fW T b i j x y=fW T b i (j+1) x y:=by
 unfold fW
 by_cases c:x<i\/(x=i/\y<j)
 ·rw [if_pos c,if_pos (by omega)]
 ·rw [if_neg c]
  by_cases e:x=i/\y=j
  ·obtain⟨rfl,rfl⟩:=e;rw [if_pos (by omega),T5,wk_by];exact⟨.inl,λz=>z.resolve_right h⟩
  ·rw [if_neg (by omega)]
theorem Ck (T:List (List Int))(b i x y:Nat)(hy:y<n):fW T b i n x y=fW T b (i+1) 0 x y:=by
 unfold fW
 by_cases c:x<i\/(x=i/\y<n)
 ·rw [if_pos c,if_pos (by omega)]
 ·rw [if_neg c,if_neg (by omega)]
theorem Oy (T:List (List Int))(b x y:Nat)(hx:x<n):fW T b n 0 x y=wk T (b+1) x y:=by
 unfold fW;rw [if_pos (.inl hx)]
theorem Cl (T:List (List Int))(b x y:Nat):wk T b x y=fW T b 0 0 x y:=by
 unfold fW;rw [if_neg (by omega)]
theorem Mm {n:Nat}{a:Nat}(ha:a<S.length)(hb:b<S.length):ent (WB S T) a b=ent T (S.getD a 0) (S.getD b 0):=by
 unfold WB ent;simp [D2,ha,hb]
def Se (g:Nat->Nat->Bool)(w:List Nat)(j:Nat):Bool:=g (w.getLastD 0) j&&(decide (w.headD 0<j)&& !decide (j∈w))
def Ti (g:Nat->Nat->Bool)(n:Nat)(w:List Nat):List (List Nat):=((List.range n).filter (Se g w)).map λj=>w++ [j]
def lev (g:Nat->Nat->Bool)(n:Nat):Nat->List (List Nat)
 |0=>(List.range n).map λi=> [i]
 |t+1=>(lev g n t).flatMap (Ti g n)
def Ek (g:Nat->Nat->Bool)(n:Nat):Nat->List (List Nat)
 |0=> []
 |t+1=>Ek g n t++(lev g n t).filter λw=>g (w.getLastD 0) (w.headD 0)
def Sf (T:List (List Int))(i j:Nat):Bool:=decide (ent T i j>0)
def XW (T:List (List Int))(n:Nat):List (List Nat):=Wz (Ek (Sf T) n n)
theorem encO:Enc jx WT:=⟨Jd,λS=>WU _,λS=>R6 (ZO _) (by decide),UG⟩
end L2
namespace L2
open PySem PySem.Spec PyProof.Rows PySem.SeqAt HT
open Classical in
noncomputable def readOf (h:Heap)(v:Value):PyData:=if e: ∃p as,p.canLay0=true/\Reads h v p as then e.choose else .none
end L2
namespace L2
open PySem PySem.Spec PyProof.Rows
def s5:Nat->Nat
 |0=>0
 |d+1=>5*s5 d+1
def f5 (N:Nat):Nat->Nat->Nat
 |0,a=>a
 |d+1,a=>(f5 N d a*5+1)%N
theorem XX: ∀ (fuel k n:Nat),3<=k-> ∃m,3<=m/\SetTable.sizeAbove.go n fuel (2^k)=2^m/\(n<2^(k+fuel)->n<2^m)
 |0,k,n,h=>⟨k,h,rfl,λz=>z⟩
 |fuel+1,k,n,h=>by
  unfold SetTable.sizeAbove.go
  by_cases c:2^k<=n
  ·rw [if_pos c,<-Nat.pow_succ];obtain⟨m,a,b,d⟩:=XX fuel (k+1) n (by omega);exact⟨m,a,b,λz=>d (by rw [Nat.add_right_comm,E8];exact z)⟩
  ·rw [if_neg c];exact⟨k,h,rfl,λ_=>by omega⟩
theorem above {n:Nat}(h:n<2^67): ∃m,SetTable.sizeAbove n=2^m/\n<SetTable.sizeAbove n/\8<=SetTable.sizeAbove n:=by
 obtain⟨m,a,b,c⟩:=XX 64 3 n (by decide);have b:SetTable.sizeAbove n=2^m:=b;refine⟨m,b,by rw [b];exact c h,?_⟩;rw [b];exact A5 (show 0<2 by decide) a
end L2
namespace L2
open PySem PySem.Spec PyProof.Rows HT
def Cm (h h':Heap):Prop:= ∀ (b:Addr) (o:Obj),o.cls= .type "tuple" ->h.get? b=some o->h'.get? b=some o
structure MemK (prog:Program)(w:World)(K:Type)[DecidableEq K] where
 is:Heap->K->Addr->Prop
 hash:K->Int
 inj: ∀ {h:Heap} {x y:K} {a:Addr},is h x a->is h y a->x=y
 keep: ∀ {h h':Heap} {x:K} {a:Addr},Cm h h'->is h x a->is h' x a
 hashed: ∀ {A:Around} {E:Value->Shared->Prop} {s:Shared} {x:K} {a:Addr} {Q:Int->Shared->Prop},A.units+8<cLine->is s.heap x a->(∀tk,Q (hash x) {s with toks:=tk})->wpAny (model prog w) A (pyHash (.ref a)) Q E s
 same: ∀ {A:Around} {E:Value->Shared->Prop} {s:Shared} {x y:K} {a b:Addr} {Q:Bool->Shared->Prop},A.units+8<cLine->is s.heap x a->is s.heap y b->Q (decide (x=y)) s->wpAny (model prog w) A (eqBool (.ref a) (.ref b)) Q E s
 quiet: ∀ {A:Around} {E:Value->Shared->Prop} {s:Shared} {x:K} {a:Addr} {Q:Bool->Shared->Prop},is s.heap x a->Q true s->wpAny (model prog w) A (eqIsQuiet 8 (.ref a)) Q E s
 cls: ∀ {A:Around} {E:Value->Shared->Prop} {s:Shared} {x:K} {a:Addr} {Q:Bool->Shared->Prop},is s.heap x a->Q false s->wpAny (model prog w) A (ofAClassStatement 8 (.ref a)) Q E s
 byv: ∀ {A:Around} {E:Value->Shared->Prop} {s:Shared} {x:K} {a:Addr} {Q:Bool->Shared->Prop},is s.heap x a->Q true s->wpAny (model prog w) A (hashByValue 8 (.ref a)) Q E s
section
variable {prog:Program}{w:World}{A:Around}{E:Value->Shared->Prop}{s:Shared}{K:Type}[DecidableEq K]
theorem VJ: ∀ {xs ys:List K},xs.Nodup->(∀x∈xs,x∈ys)->xs.length<=ys.length
 | [],_,_,_=>T7 _
 |x::xs,ys,nd,h=>by
  obtain⟨n1,n2⟩:=O3.mp nd;have le:=VJ (ys:=ys.erase x) n2 λy hy=>(G0Y (λ(e:y=x)=>n1 (by rw [<-e];exact hy))).mpr (h y (.tail _ hy))
  rw [G0q (h x (.head _))] at le;have pos:=V5 (h x (.head _));rw [D5];omega
end
end L2
namespace L2
open PySem PySem.Spec PyProof.Rows PySem.SeqAt HT
def pcS (T:List (List Int))(n p:Nat):List Nat:=(List.range n).filter λj=>wk T n p j&&wk T n j p
def jZ (T:List (List Int))(n:Nat):List (List Nat):=((List.range n).filter λp=>decide ((pcS T n p).headD 0=p)).map (pcS T n)
section
variable {T:List (List Int)}{n e:Nat}
theorem UO (p:Nat):IsS n (pcS T n p):=⟨_,rfl⟩
variable {p:Nat}
theorem mem_pc {j:Nat}:j∈pcS T n p↔j<n/\wk T n p j=true/\wk T n j p=true:=by
 unfold pcS;rw [S2,P2,B2]
theorem Jm (hp:p<n):p∈pcS T n p:=mem_pc.mpr ⟨hp,Jl T n p,Jl T n p⟩
theorem YA {q:Nat}(hp:p<n)(h:q∈pcS T n p):pcS T n q=pcS T n p:=by
 obtain⟨hq,h1,h2⟩:=mem_pc.mp h;refine(UO q).ext (UO p) λj=> ?_
 rw [mem_pc,mem_pc];exact⟨λ⟨a,b,c⟩=>⟨a,jU hq h1 b,jU hq c h2⟩,λ⟨a,b,c⟩=>⟨a,jU hp h2 b,jU hp c h1⟩⟩
theorem Jn (hp:p<n): ∃r,pcS T n p=(pcS T n p).headD 0::r:=by
 cases h:pcS T n p with
 |nil=>have:=Jm (T:=T) hp;rw [h] at this;cases this
 |cons x r=>exact⟨r,rfl⟩
theorem De (hp:p<n):(pcS T n p).headD 0<n/\pcS T n ((pcS T n p).headD 0)=pcS T n p:=by
 obtain⟨r,h⟩:=Jn (T:=T) hp;have m:(pcS T n p).headD 0∈pcS T n p:=by
  generalize (pcS T n p).headD 0=x at h;rw [h];exact P8
 exact⟨(mem_pc.mp m).1,YA hp m⟩
theorem mem_pcs {S:List Nat}:S∈jZ T n↔ ∃p,p<n/\S=pcS T n p:=by
 unfold jZ;rw [R4];constructor
 ·rintro ⟨p,hp,rfl⟩;exact⟨p,P2.mp (S2.mp hp).1,rfl⟩
 ·rintro ⟨p,hp,rfl⟩;obtain⟨a,b⟩:=De (T:=T) hp;exact⟨(pcS T n p).headD 0,S2.mpr ⟨P2.mpr a,P7 (by rw [b])⟩,b⟩
theorem vK: ∀S∈jZ T n,IsS n S:=λS hS=>by
 obtain⟨p,_,rfl⟩:=mem_pcs.mp hS;exact UO p
theorem YB:(jZ T n).length<=n:=by
 unfold jZ;rw [G0];exact R6 (H0 _ _) (by rw [D1];exact G6 _)
theorem pcs_rise:(jZ T n).Pairwise λx y=>HT.jP (toI x) (toI y)=true:=by
 unfold jZ;rw [T6];refine(List.Pairwise.filter _ G0L).imp_of_mem λ{p q} hp hq lt=> ?_
 obtain⟨p1,p2⟩:=S2.mp hp;obtain⟨q1,q2⟩:=S2.mp hq;obtain⟨r,e1⟩:=Jn (T:=T) (P2.mp p1);obtain⟨r',e2⟩:=Jn (T:=T) (P2.mp q1);rw [M5 p2] at e1;rw [M5 q2] at e2;rw [e1,e2];show HT.jP ((p:Int)::toI r) ((q:Int)::toI r')=true;rw [vZ,if_neg (by omega)];exact P7 (by omega)
end
end L2
namespace L2
open PySem PySem.Spec PyProof.Rows PySem.W
structure DefIn (K:Frag)(x:Str)(st:Stmt)(f:Addr)(fd:FuncData):Prop where
 at_:nsIn K mainGlobals x=some (some (.ref f))
 fn:Fun K x x st f fd
variable {K:Frag}{h base:Heap}{mg:Str->Option Value}{x:Str}{st:Stmt}{f:Addr}{fd:FuncData}{P:Program}{w:World}{n:Nat}{ps:List Str}
theorem Oz {oc:Value}{od an:Option Addr}{osl:Array (Option Value)}{kV doc pm cdv ct:Value}(a:nsIn K mainGlobals x=some (some (.ref f)))(l:K.lookup f=some ⟨oc,od,.func (fnOf x x (ya st) (zJ st) (jd st) .none kV doc pm an cdv ct),osl⟩)
 (c:codeIn K cdv x=true)(k:keepIn K (.ref f)=true):DefIn K x st f (fnOf x x (ya st) (zJ st) (jd st) .none kV doc pm an cdv ct):=⟨a,FF l c k⟩
abbrev El (x:Str)(st:Stmt)(ps:List Str):Prop:= ∀ (kV doc pm:Value) (an:Option Addr) (cdv ct:Value) (us:List Value),us.length=ps.length->bindArgs (fnOf x x (ya st) (zJ st) (jd st) .none kV doc pm an cdv ct) ⟨us,[]⟩=pure (ps.zip us)
theorem DefIn.nm (d:DefIn K x st f fd)(X:K.In h)(G:h.Ns mainGlobals mg):mg x=some (.ref f):=mg_of X G d.at_
theorem DefIn.cal {sp:RDn}(d:DefIn K x st f fd)(l:OpenLaw)(w:World)(base:Heap)(X:K.In h)(G:h.Ns mainGlobals mg)(ok:FnOk l.prog w K mg base CX0 n f fd ps (LSp K sp))(b:El x st ps:=by first|(exact λ_ _ _ _ _ _ us hl=>match us,hl with| [_],_=>rfl)|(exact λ_ _ _ _ _ _ us hl=>match us,hl with| [_,_],_=>rfl)|(exact λ_ _ _ _ _ _ us hl=>match us,hl with| [_,_,_],_=>rfl)|(exact λ_ _ _ _ _ _ us hl=>match us,hl with| [_,_,_,_],_=>rfl)|(exact λ_ _ _ _ _ _ us hl=>match us,hl with| [_,_,_,_,_],_=>rfl)):ji l.prog w K mg base n x ps sp:=⟨_,_,ok,d.fn.binds b,d.fn.kp,d.nm X G⟩
def zsB (K:Frag):Bool:= ["len","max","min","divmod","all","any","repr","sum","sorted","int","tuple","list","set","bool","isinstance","range","zip","enumerate","reversed"].all λx=>nsIn K mainGlobals (Str.ofString x)==some none
theorem Em (X:K.In h)(G:h.Ns mainGlobals mg)(e:zsB K=true):Zs mg:=by
 unfold zsB at e;rw [S8] at e;have m:=λ(x:String) hx=>mg_none_of X G (G1e.mp (e x hx))
 exact⟨m "len" (by decide),m "max" (by decide),m "min" (by decide),m "divmod" (by decide),m "all" (by decide),m "any" (by decide),m "repr" (by decide),m "sum" (by decide),m "sorted" (by decide),m "int" (by decide),m "tuple" (by decide),m "list" (by decide),m "set" (by decide),m "bool" (by decide),m "isinstance" (by decide),m "range" (by decide),m "zip" (by decide),m "enumerate" (by decide),m "reversed" (by decide)⟩
end L2
namespace L2
theorem Df {g:Nat->Nat->Bool}{n:Nat}: ∀ {t:Nat} {w:List Nat},w.length=t+1->(∀i∈w,i<n)->w.Nodup->(∀i∈w,w.headD 0<=i)->(∀i x y,w[i]? =some x->w[i+1]? =some y->g x y=true)->w∈lev g n t
 |0,w,hl,lt,_,_,_=>by
  obtain⟨a,rfl⟩:=G0N.mp hl;exact R4.mpr ⟨a,P2.mpr (lt a (by simp)),rfl⟩
 |t+1,w,hl,lt,nd,low,go=>by
  obtain⟨v,j,rfl⟩: ∃v j,w=v++ [j]:=⟨w.dropLast,w.getLast (by intro z;rw [z] at hl;cases hl),(List.dropLast_concat_getLast _).symm⟩;have lv:v.length=t+1:=by rw [G7,B9] at hl;omega
  have hd:(v++ [j]).headD 0=v.headD 0:=by cases v with|nil=>cases lv|cons a r=>rfl
  have nv:=Q0.mp nd;have jn:j ∉ v:=λz=>nv.2.2 j z j (by simp) rfl
  have hh:v.headD 0∈v:=by cases v with|nil=>cases lv|cons a r=>exact P8 ..
  rw [hd] at low;have mv:=Df (g:=g) (n:=n) lv (λi hi=>lt i (T1 _ hi)) nv.1 (λi hi=>low i (T1 _ hi)) λi x y e1 e2=>go i x y (by rw [R3 (G5.mp e1).1];exact e1) (by rw [R3 (G5.mp e2).1];exact e2)
  refine List.mem_flatMap.mpr ⟨v,mv,R4.mpr ⟨j,S2.mpr ⟨P2.mpr (lt j (by simp)),?_⟩,rfl⟩⟩;have la:v[t]? =some (v.getLastD 0):=by rw [G0l,G0m,lv,Nat.add_sub_cancel,G1 (by omega)];rfl
  have g1:=go t _ j (by rw [R3 (by omega)];exact la) (by rw [P6 (by omega),lv,Nat.sub_self];rfl);have lj:=low j (by simp);have ne:v.headD 0≠j:=λz=>jn (z ▸ hh)
  unfold Se;rw [g1,P7 (show v.headD 0<j by omega),S6 jn];rfl
theorem Dg {g:Nat->Nat->Bool}{n s:Nat}{w:List Nat}(h:w∈lev g n s)(b:g (w.getLastD 0) (w.headD 0)=true): ∀t,s<t->w∈Ek g n t
 |t+1,ht=>by
  rcases G0e s t with z|z
  ·exact T1 _ (Dg h b t z)
  ·have:t=s:=by omega
   subst this;exact P3 _ (S2.mpr ⟨h,b⟩)
theorem wb {n:Nat}{w:List Nat}(nd:w.Nodup)(lt: ∀i∈w,i<n):w.length<=n:=by
 have:=VJ (ys:=List.range n) nd λx hx=>P2.mpr (lt x hx)
 rwa [D1] at this
section
variable {n e:Nat}{T:List (List Int)}
theorem QM {w:List Nat}(ne:w≠ [])(lt: ∀i∈w,i<n)(nd:w.Nodup)(low: ∀i∈w,w.headD 0<=i)(go: ∀i x y,w[i]? =some x->w[i+1]? =some y->ent T x y>0)(back:ent T (w.getLastD 0) (w.headD 0)>0):w∈XW T n:=by
 obtain⟨t,ht⟩: ∃t,w.length=t+1:=⟨w.length-1,by have:=G08.mpr ne;omega⟩;have:=wb nd lt;exact(zV _).mem_iff.mpr (Dg (Df (g:=Sf T) ht lt nd low λi x y e1 e2=>P7 (go i x y e1 e2)) (P7 back) n (by omega))
theorem Dh (h:Sq n e T){i j:Nat}(hi:i<n)(hj:j<n)(z:ent T i j≠0):ent T i j>0:=by have:=(h.ent_nn hi hj).1;omega
theorem QN (h:Sq n e T)(hn:n<=8){m:Nat}(m1:1<=m){v:Nat->Nat}(vl: ∀t,v t<n)(per: ∀t,v (t+m)=v t)(inj: ∀a b,a<m->b<m->v a=v b->a=b)(st: ∀t,RP n T 1 (v t) (v (t+1))): ∃s,(List.range m).map (λt=>v (s+t))∈XW T n:=by
 obtain⟨s,hs⟩: ∃s,∀t,v s<=v t:=by
  have key: ∀k,∃s,∀t,t<k+1->v s<=v t:=λk=>by
   induction k with
   |zero=>exact⟨0,λt ht=>by rw [show t=0 by omega];exact G6 _⟩
   |succ k ih=>
    obtain⟨s,hs⟩:=ih;rcases G0e (v (k+1)) (v s) with z|z
    ·exact⟨k+1,λt ht=>by
      rcases G0e t (k+1) with y|y
      ·have:=hs t y;omega
      ·rw [show t=k+1 by omega];exact G6 _⟩
    ·exact⟨s,λt ht=>by
      rcases G0e t (k+1) with y|y
      ·exact hs t y
      ·rw [show t=k+1 by omega];exact z⟩
  obtain⟨s,hs⟩:=key m;have red: ∀t,v t=v (t%m):=λt=>by
   have: ∀q r,v (r+q*m)=v r:=λq r=>by
    induction q with
    |zero=>rw [Nat.zero_mul,W6]
    |succ q ih=>rw [G0b,<-E8,per,ih]
   have e:=this (t / m) (t%m);rw [G1g,Nat.mod_add_div] at e;exact e
  exact⟨s,λt=>by rw [red t];exact hs _ (by have:=G0v t m1;omega)⟩
 have red: ∀t,v t=v (t%m):=λt=>by
  have: ∀q r,v (r+q*m)=v r:=λq r=>by
   induction q with
   |zero=>rw [Nat.zero_mul,W6]
   |succ q ih=>rw [G0b,<-E8,per,ih]
  have e:=this (t / m) (t%m);rw [G1g,Nat.mod_add_div] at e;exact e
 have hd:((List.range m).map λt=>v (s+t)).headD 0=v s:=by
  obtain⟨k,rfl⟩: ∃k,m=k+1:=⟨m-1,by omega⟩;rw [O6];rfl
 refine⟨s,QM ?_ (λi hi=>by obtain⟨t,_,rfl⟩:=R4.mp hi;exact vl _) ?_ (λi hi=>by obtain⟨t,_,rfl⟩:=R4.mp hi;rw [hd];exact hs _) (λi x y e1 e2=> ?_) ?_⟩
 ·intro z;have:=congrArg List.length z;rw [G0,D1] at this;simp at this;omega
 ·refine T6.mpr ((W7 (n:=m)).imp_of_mem λ{a b} ha hb ne z=> ?_);have ha:=P2.mp ha;have hb:=P2.mp hb;have z:v (s+a)=v (s+b):=z;rw [red (s+a),red (s+b)] at z;have:=inj _ _ (G0v _ m1) (G0v _ m1) z;refine ne ?_;have d1:=Y4 (s+a) m;have d2:=Y4 (s+b) m;rcases Nat.lt_trichotomy ((s+a) / m) ((s+b) / m) with c|c|c
  ·have:=G09 m (show (s+a) / m+1<=(s+b) / m from c);rw [G1k] at this;omega
  ·rw [c] at d1;omega
  ·have:=G09 m (show (s+b) / m+1<=(s+a) / m from c);rw [G1k] at this;omega
 ·have h1:=(G5.mp e2).1;rw [G0,D1] at h1;rw [P9,N7 (by omega)] at e1 e2;injection e1 with e1
  injection e2 with e2
  subst e1;subst e2;exact Dh h (vl _) (vl _) ((WW h hn).mp (st (s+i)))
 ·have la:((List.range m).map λt=>v (s+t)).getLastD 0=v (s+(m-1)):=by
   rw [G0l,G0m,G0,D1,P9,N7 (by omega)];rfl
  rw [hd,la];have:=st (s+(m-1));rw [show s+(m-1)+1=s+m by omega,per] at this;exact Dh h (vl _) (vl _) ((WW h hn).mp this)
def Mn (T:List (List Int))(n:Nat):Nat:=((XW T n).map List.length).foldl Nat.gcd 0
theorem Di {w:List Nat}(hw:w∈XW T n):Mn T n∣w.length:=((XL _ 0 (Mn T n)).mp (Nat.dvd_refl _)).2 _ (Y1 hw)
theorem VL (h:Sq n e T)(hn:n<=8): ∀ (m:Nat) {p:Nat},p<n->RP n T m p p->Mn T n∣m:=by
 intro m
 induction m using Nat.strongRecOn with
 |_ m ih=>
  intro p hp r;rcases Nat.eq_zero_or_pos m with z|m1
  ·rw [z];exact Nat.dvd_zero _
  obtain⟨v,v0,vm,vl,vr⟩:=XJ h hn m hp hp r
  by_cases c: ∃a b,a<b/\b<m/\v a=v b
  ·obtain⟨a,b,ab,bm,e1⟩:=c;have r1:=wR h hn vl vr a (b-a) (by omega);rw [show a+(b-a)=b by omega,<-e1] at r1;have r2:=wR h hn vl vr 0 a (by omega);rw [L9,v0] at r2;have r3:=wR h hn vl vr b (m-b) (by omega);rw [show b+(m-b)=m by omega,vm,<-e1] at r3;have d1:=ih (b-a) (by omega) (vl a (by omega)) r1;have d2:=ih (a+(m-b)) (by omega) hp (UJ h hn hp (vl a (by omega)) hp r2 r3);have:=Nat.dvd_add d1 d2
   rwa [show b-a+(a+(m-b))=m by omega] at this
  ·obtain⟨s,hs⟩:=QN h hn (T:=T) (n:=n) m1 (v:=λt=>v (t%m)) (λt=>vl _ (by have:=G0v t m1;omega)) (λt=>by show v ((t+m)%m)=_;rw [Nat.add_mod_right]) (λa b ha hb z=>by
    have z:v (a%m)=v (b%m):=z;rw [X0 ha,X0 hb] at z;rcases Nat.lt_trichotomy a b with y|y|y
    ·exact absurd ⟨a,b,y,hb,z⟩ c
    ·exact y
    ·exact absurd ⟨b,a,y,ha,z.symm⟩ c) (λt=>by
    show RP n T 1 (v (t%m)) (v ((t+1)%m));have lt:=G0v t m1;have:=vr (t%m) lt;rcases G0e (t%m+1) m with z|z
    ·rw [show (t+1)%m=t%m+1 by rw [Nat.add_mod,X0 (show 1<m by omega),X0 z]];exact this
    ·have e2:(t+1)%m=0:=by
      rw [<-Y4 t m,show m*(t / m)+t%m+1=m*(t / m+1) by rw [G1k];omega];exact Nat.mul_mod_right _ _
     rw [e2,v0,<-vm,show m=t%m+1 by omega];rw [show t%(t%m+1)=t%m by rw [show t%m+1=m by omega]];exact this)
   have:=Di hs
   rwa [G0,D1] at this
theorem Mo (h:Sq n e T)(hn:n<=8){i j:Nat}(hi:i<n)(w:wk T n i j=true):j<n/\ ∃k,RP n T k i j:=
 vJ (P:=λi j=>i<n->j<n/\ ∃k,RP n T k i j) (λi hi=>⟨hi,0,(ww hi hi).mpr rfl⟩) (λi j z hi=>⟨Db h i j z,1,(WW h hn).mpr z⟩) (λi k j a b hi=>by
  obtain⟨hk,k1,r1⟩:=a hi;obtain⟨hj,k2,r2⟩:=b hk;exact⟨hj,k1+k2,UJ h hn hi hk hj r1 r2⟩) w hi
theorem UP (h:Sq n e T)(hn:n<=8): ∀ (k:Nat) {i j:Nat},i<n->j<n->RP n T k i j->wk T n i j=true
 |0,i,j,hi,hj,r=>by rw [(ww hi hj).mp r];exact Jl T n j
 |k+1,i,j,hi,hj,r=>by
  obtain⟨x,hx,a,b⟩:=(wa h hn k 1 hi hj).mp r;exact jU hx (UP h hn k hi hx a) (Zf ((WW h hn).mp b) n)
theorem Cn (h:Sq n e T)(hn:n<=8)(one:(jZ T n).length=1){i j:Nat}(hi:i<n)(hj:j<n): ∃k,RP n T k i j:=by
 obtain⟨S,e1⟩:=G0N.mp one;have a:pcS T n i∈jZ T n:=mem_pcs.mpr ⟨i,hi,rfl⟩;have b:pcS T n j∈jZ T n:=mem_pcs.mpr ⟨j,hj,rfl⟩;rw [e1] at a b;have:j∈pcS T n i:=by rw [G2.mp a,<-G2.mp b];exact Jm hj
 exact(Mo h hn hi (mem_pc.mp this).2.1).2
theorem UQ (h:Sq n e T)(hn:n<=8)(n1:1<=n)(all: ∀i j,i<n->j<n-> ∃k,RP n T k i j):(jZ T n).length=1:=by
 have same: ∀p,p<n->pcS T n p=List.range n:=λp hp=>E9.mpr λj hj=>by
  have hj:=P2.mp hj;obtain⟨k,r⟩:=all p j hp hj;obtain⟨k',r'⟩:=all j p hj hp;rw [UP h hn k hp hj r,UP h hn k' hj hp r'];rfl
 have hd:(List.range n).headD 0=0:=by
  obtain⟨k,rfl⟩: ∃k,n=k+1:=⟨n-1,by omega⟩;rw [O6];rfl
 unfold jZ;rw [G0];have e1:((List.range n).filter λp=>decide ((pcS T n p).headD 0=p))= [0]:=by
  have:((List.range n).filter λp=>decide ((pcS T n p).headD 0=p))=(List.range n).filter λp=>decide (p=0):=K8 λp hp=>by
   rw [same p (P2.mp hp),hd];exact decide_eq_decide.mpr ⟨Eq.symm,Eq.symm⟩
  rw [this];obtain⟨k,rfl⟩: ∃k,n=k+1:=⟨n-1,by omega⟩;rw [O6,V0 (by decide),List.filter_map,List.filter_eq_nil_iff.mpr (by intro a _;simp),J8]
 rw [e1];rfl
end
section
variable {n e:Nat}{T U:List (List Int)}
theorem Mp (h:Sq n e T)(hn:n<=8){k i j:Nat}(hi:i<n)(hj:j<n):RP n (vz n T) k i j↔RP n T k j i:=by
 unfold RP;rw [<-XC h hn,vA hi hj]
theorem Co (h:Sq n e T){o:List Nat}(ho:Ordr n o)(hn:n<=8){k i j:Nat}(hi:i<n)(hj:j<n):RP n (Va n o T) k i j↔RP n T k (o.idxOf i) (o.idxOf j):=by
 unfold RP;rw [<-Pl h ho hn,ZL hi hj]
theorem VM {o:List Nat}(ho:Ordr n o){i:Nat}(hi:i<n):o.idxOf i<n/\o.getD (o.idxOf i) 0=i:=by
 have hm:i∈o:=ho.mem_iff.mpr (P2.mpr hi);have hl:o.length=n:=by have:=ho.length_eq;rwa [D1] at this
 have:=E2.mpr hm;refine⟨by omega,?_⟩;rw [D2,G1 this,J1 this];rfl
theorem wn {o:List Nat}(ho:Ordr n o){i:Nat}(hi:i<n):o.getD i 0<n/\o.idxOf (o.getD i 0)=i:=by
 have hl:o.length=n:=by have:=ho.length_eq;rwa [D1] at this
 have e1:o.getD i 0=o[i]'(by omega):=by rw [D2,G1 (show i<o.length by omega)];rfl
 have nd:o.Nodup:=ho.nodup_iff.mpr W7;have lt:=P2.mp (ho.mem_iff.mp (R9 (show i<o.length by omega)));rw [e1];exact⟨lt,nd.idxOf_getElem i (by omega)⟩
end
section
variable {n e:Nat}{T:List (List Int)}{S:List Nat}
theorem Nk (i:Nat)(hi:i<S.length):S.getD i 0=S[i]:=by rw [D2,G1 hi];rfl
theorem Dj (h:Sq n e T)(hn:n<=8){p:Nat}(hp:p<n): ∀ (k:Nat) {i j:Nat},i<(pcS T n p).length->j<(pcS T n p).length->RP n T k ((pcS T n p).getD i 0) ((pcS T n p).getD j 0)->RP (pcS T n p).length (WB (pcS T n p) T) k i j:=by
 have hS:IsS n (pcS T n p):=UO p;have nd:(pcS T n p).Nodup:=hS.rise.imp λ{a b} z=>by omega
 have hq:=UN h λi hi=>hS.lt hi
 have l8:(pcS T n p).length<=8:=R6 hS.len hn;intro k
 induction k with
 |zero=>
  intro i j hi hj r;have lt: ∀x,x<(pcS T n p).length->(pcS T n p).getD x 0<n:=λx hx=>by rw [Nk x hx];exact hS.lt (R9 hx)
  have:=(ww (lt i hi) (lt j hj)).mp r;rw [Nk i hi,Nk j hj] at this;rw [(List.getElem_inj nd).mp this];exact(ww hj hj).mpr rfl
 |succ k ih=>
  intro i j hi hj r;have mi:(pcS T n p).getD i 0∈pcS T n p:=by rw [Nk i hi];exact R9 hi
  have mj:(pcS T n p).getD j 0∈pcS T n p:=by rw [Nk j hj];exact R9 hj
  obtain⟨i1,i2,i3⟩:=mem_pc.mp mi;obtain⟨j1,j2,j3⟩:=mem_pc.mp mj;obtain⟨u,hu,a,b⟩:=(wa h hn k 1 i1 j1).mp r;have mu:u∈pcS T n p:=mem_pc.mpr ⟨hu,jU i1 i2 (UP h hn k i1 hu a),jU j1 (UP h hn 1 hu j1 b) j3⟩;obtain⟨x,hx,ex⟩:=B8 mu;have ex':(pcS T n p).getD x 0=u:=by rw [Nk x hx];exact ex
  refine UJ hq l8 hi hx hj (ih hi hx (by rw [ex'];exact a)) ((WW hq l8).mpr ?_);rw [Mm (n:=n) hx hj,ex'];exact(WW h hn).mp b
theorem Mq (h:Sq n e T)(hn:n<=8){p:Nat}(hp:p<n):(jZ (WB (pcS T n p) T) (pcS T n p).length).length=1:=by
 have hS:IsS n (pcS T n p):=UO p;have hq:=UN h λi hi=>hS.lt hi
 refine UQ hq (R6 hS.len hn) (V5 (Jm hp)) λi j hi hj=> ?_
 have mi:(pcS T n p).getD i 0∈pcS T n p:=by rw [Nk i hi];exact R9 hi
 have mj:(pcS T n p).getD j 0∈pcS T n p:=by rw [Nk j hj];exact R9 hj
 obtain⟨i1,i2,i3⟩:=mem_pc.mp mi;obtain⟨j1,j2,j3⟩:=mem_pc.mp mj;obtain⟨_,k,r⟩:=Mo h hn i1 (jU hp i3 j2);exact⟨k,Dj h hn hp k hi hj r⟩
theorem Dk (h:Sq n e T):(jZ T n).Pairwise λa b=> ∀x∈a,x ∉ b:=by
 unfold jZ;refine T6.mpr (((W7 (n:=n)).filter _).imp_of_mem λ{p q} hp hq ne x hx hy=> ?_);obtain⟨p1,p2⟩:=S2.mp hp;obtain⟨q1,q2⟩:=S2.mp hq;have p1:=P2.mp p1;have q1:=P2.mp q1;have a:=YA p1 hx;have b:=YA q1 hy;have c:pcS T n p=pcS T n q:=a.symm.trans b;have p2:=M5 p2;have q2:=M5 q2;exact ne (by rw [<-p2,<-q2,c])
end
end L2
set_option maxRecDepth 35000
namespace L2
section
variable {n e:Nat}{T:List (List Int)}
theorem UR (h:Sq n e T)(hn:n<=8)(n1:1<=n){K:Nat}(all: ∀m,K<=m-> ∀i j,i<n->j<n->RP n T m i j):(jZ T n).length=1/\Mn T n=1:=by
 refine⟨UQ h hn n1 λi j hi hj=>⟨K,all K (G6 _) i j hi hj⟩,?_⟩;have a:=VL h hn _ (show 0<n by omega) (all K (G6 _) 0 0 (by omega) (by omega));have b:=VL h hn _ (show 0<n by omega) (all (K+1) (by omega) 0 0 (by omega) (by omega));exact Nat.dvd_one.mp ((Nat.dvd_add_right a).mp b)
end
end L2
namespace L2
open PySem PySem.Spec PyProof.Rows PySem.SeqAt
theorem Dl {its:List Value}{i:Nat}{x:Value}{r:List Value}(h:its.drop i=x::r):i<its.length/\its[i]? =some x/\x∈its/\its.drop (i+1)=r:=by
 have hi:i<its.length:=Nat.lt_of_not_le λz=>by rw [N2 z] at h;cases h
 have e:=Q5 hi;rw [h] at e;injection e with e1 e2
 exact⟨hi,by rw [G1 hi,e1],by rw [e1];exact R9 hi,e2.symm⟩
theorem Cp (l:Addr)(u:Value)(e:Value->Bool)(its:List Value)(n:Nat){y:Value}{rest:List Value}(ey:e y=true)(hz:its.length<=sizeLine):
 ∀ (bad:List Value) (i:Nat),its.drop i=bad++y::rest->(∀x∈bad,e x=false)->Meets (Builtin.«list.remove.loop» ⟨[.ref l,u,rawInt (i:Int)],[]⟩)
  (λA R s=>s.heap.get? l=some {cls:= .type "list",data:= .seq its.toArray n}/\(∀x∈its,EqAt A.in1 s x u (e x))/\R (.ok (.ret .none)) {s with heap:=s.heap.update l (Obj.mapSeq λxs=>xs.eraseIdxIfInBounds (i+bad.length))}):=by
 intro bad
 induction bad with
 |nil=>
  rintro i hd-prog w A R ⟨hp,g,d,tk,os⟩ ⟨hl,he,h⟩;obtain⟨hi,gi,mi,_⟩:=Dl hd;have at_:its.toArray[((i:Nat):Int).toNat]? =some y:=by rw [A9,<-S9];exact gi
  wp_walk using J6 hl
  rw [at_];refine wpAny_bind (he y mi prog w _ _ ?_);rw [ey];have small:its.toArray.size<=sizeLine:=by rw [P4];exact hz
  have less:(its.toArray.eraseIdxIfInBounds i).size<=sizeLine+1:=by
   rw [W3,P4];have:=G0B its i;omega
  wp_walk using (wpAny_updateSeq hl rfl (hz:=small) (_hz':=less)),J6 hl
  exact h
 |cons b bad ih=>
  rintro i hd no prog w A R ⟨hp,g,d,tk,os⟩ ⟨hl,he,h⟩;obtain⟨hi,gi,mi,hd'⟩:=Dl hd;have at_:its.toArray[((i:Nat):Int).toNat]? =some b:=by rw [A9,<-S9];exact gi
  wp_walk using J6 hl
  rw [at_];refine wpAny_bind (he b mi prog w _ _ ?_);rw [no b P8]
  wp_walk
  refine⟨plainId_quiet O8 _,U8 Z8 ?_⟩;rw [X1 O8 _,show ((i:Int)+1)=((i+1:Nat):Int) from rfl];refine ih (i+1) hd' (λx hx=>no x (D8 _ hx)) prog w A R _ ⟨hl,he,?_⟩;rw [show i+1+bad.length=i+(b::bad).length by rw [D5];omega];exact h
theorem Cq (l:Addr)(u:Value)(e:Value->Bool)(its:List Value)(n:Nat){y:Value}{bad rest:List Value}(ey:e y=true)(hz:its.length<=sizeLine)(hd:its=bad++y::rest)(no: ∀x∈bad,e x=false):Meets (Builtin.«list.remove» ⟨[.ref l,u],[]⟩)
 (λA R s=>s.heap.get? l=some {cls:= .type "list",data:= .seq its.toArray n}/\(∀x∈its,EqAt A.in1 s x u (e x))/\R (.ok (.ret .none)) {s with heap:=s.heap.update l (Obj.mapSeq λxs=>xs.eraseIdxIfInBounds bad.length)}):=by
 rintro prog w A R ⟨hp,g,d,tk,os⟩ ⟨hl,he,h⟩
 wp_walk using J6 hl
 refine⟨plainId_quiet O8 _,U8 Z8 ?_⟩;rw [X1 O8 _];refine Cp l u e its n ey hz bad 0 (by rw [G0j];exact hd) no prog w A R _ ⟨hl,he,?_⟩;rw [L9];exact h
theorem Dm {X:Cx}(hu:X.A.units+64<cLine):MtM X "list.remove" (λx vs H Q=> ∃ (a:Addr) (y:V) (dy:D) (h:HD) (p:PyData) (ps:List PyData) (ws:List V) (j:Nat) (z:PyData),x= .ref a/\vs= [y]/\RelD X.K H dy y/\RelH X.K h H/\ToP h (.lst a) (.list ps)/\ToP h dy p/\p.canLay0=true/\PyData.canLayAll0 ps=true/\p.depth<=60/\ps[j]? =some z/\PyData.eqv z p=true/\(∀m y,m<j->ps[m]? =some y->PyData.eqv y p=false)/\H a=some (.lst ws)/\Q .non (upd H a (.lst (ws.eraseIdx j)))):=by
 intro pins s σ H x vs v us Q I rx rv h;obtain⟨a,y,dy,h,p,ps,ws,j,z,rfl,rfl,rd,rh,t1,t2,c1,c2,c3,hz,hit,hno,hH,q⟩:=h;cases rx;obtain⟨u,rfl,ru⟩:=yF rv;obtain⟨as,r1⟩:=zk I rh t1 (show RelD X.K H (.lst a) (.ref a) from ⟨rfl,ws,hH⟩) (show RelV (.ref a) (.ref a) from rfl);obtain⟨bs,r2⟩:=zk I rh t2 rd ru;obtain⟨sz,its,n,r,hl,e⟩:=I.lstM hH;cases r1 with
 |list h1 h2 h3 h4=>
  rename_i o jts n' cs;have eo:=h1.symm.trans e;injection eo with eo
  subst eo;have ej:jts=its.toArray:=by
   have h3:(.seq its.toArray n:Data)= .seq jts n':=h3;injection h3 with h3
   exact h3.symm
  subst ej;have em:=readsAll_map ps _ _ c2 h4;have gm: ∀m,ps[m]? =(its[m]?).map (SeqAt.readOf s.heap):=λm=>by rw [<-em,P9]
  have hu':X.A.units+1+min (PyData.depthAll ps) p.depth<cLine:=by have:=I0 (PyData.depthAll ps) p.depth;omega
  rw [gm] at hz;obtain⟨w,hw,ez⟩:=O5.mp hz;obtain⟨hj,ew⟩:=G5.mp hw;have cut:its=its.take j++w::its.drop (j+1):=by
   conv=>lhs;rw [<-D7 j its,Q5 hj,ew]
  have len:(its.take j).length=j:=by rw [R1];omega
  refine X6 F.slot_list_remove ⟨_,e,rfl⟩ F.entry_list_remove (F.args_list_remove_2 _ _) (Cq a u (λy=>PyData.eqv (SeqAt.readOf s.heap y) p) its n (y:=w) (by rw [ez];exact hit) (by omega) cut λx hx=> ?_) ⟨e,λx hx=>items_eqAt h4 r2 c2 c1 hu' x (by simpa using hx),?_⟩
  ·obtain⟨m,hm,rfl⟩:=B8 hx;rw [len] at hm;refine hno m _ hm ?_;rw [gm,G1 (by omega),G0s];rfl
  ·rw [len];exact⟨.non,_,I.lset (its':=its.eraseIdx j) hH e (by rw [W3]) (r.eraseIdx j) (by have:=G0B ws j;omega),rfl,q⟩
def Tj (to te:TED):TED:=λσ h Q=>to σ h λx h1=> ∃a,x= .lst a/\te σ h1 λy h2=> ∃ (p:PyData) (ps:List PyData) (ds:List D) (j:Nat) (z:PyData),ToP h2 (.lst a) (.list ps)/\ToP h2 y p/\p.canLay0=true/\PyData.canLayAll0 ps=true/\p.depth<=60/\ps[j]? =some z/\PyData.eqv z p=true/\(∀m y,m<j->ps[m]? =some y->PyData.eqv y p=false)/\h2 a=some ds/\Q .non (zC h2 a (ds.eraseIdx j))
section
variable {X:Cx}{o e i:Expr}{to te ti:TED}{apos cpos:Pos}
theorem ZZ {K:PySem.W.Frag}{H:Hp}: ∀ {ds:List D} {vs:List V} (j:Nat),RelDs K H ds vs->RelDs K H (ds.eraseIdx j) (vs.eraseIdx j)
 | [],vs,j,r=>by
  have:vs= []:=r;subst this;exact r
 |d::ds,vs,j,r=>by
  obtain⟨v,t,rfl,r1,r2⟩:=(show ∃v t,vs=v::t/\RelD K H d v/\RelDs K H ds t from r);cases j with
  |zero=>exact r2
  |succ j=>exact⟨v,t.eraseIdx j,rfl,r1,ZZ j r2⟩
theorem Tk (hu : X.A.units + 64 < cLine) (ho : JE X o to) (he : JE X e te) (hbase : attributeBase o "remove" X.env (eval o X.env) = eval o X.env := by rfl)
    (hfew : ((backTo cpos (starEach [e] X.env)).all (fun x => !x.1) && (backToKw cpos (keywordEach [] X.env)).all (fun x => x.1.isSome) && decide ([e].length + ([] : List Keyword).length + (if ([] : List Keyword).isEmpty then 0 else 1) < 30)) = true := by rfl)
    (hline : (apos.endLine == cpos.line) = true := by rfl) (hs : starEach [e] X.env = (false, eval e X.env) :: starEach [] X.env := by rfl) (hplain : (backTo cpos (starEach [] X.env)).any (·.1) = false := by rfl) :
    JE X (.Call (.Attribute o "remove" apos) [e] [] cpos) (Tj to te) :=
  ⟨(Rh E7 PySem.F.slot_list_remove PySem.F.type_list_remove (Dm hu) ho.to (wt he.to pa_nil hs) hbase hfew hline hs hplain).imp
    fun σ H Q ⟨σd, h, Qd, rs, rh, t, p⟩ => LE.bind rs rh t fun d v h1 H1 k1 rs1 rh1 r1 ⟨a, e, q⟩ => by
      subst e
      obtain ⟨e1, vs, hH⟩ := (show v = .ref a ∧ ∃ vs, H1 a = some (.lst vs) from r1)
      subst e1
      refine ⟨.inl ⟨rfl, vs, SqL.of hH⟩, ?_⟩
      refine LE.bind rs1 rh1 q fun y u h2 H2 k2 rs2 rh2 r2 ⟨pd, ps, ds, j, z, t1, t2, c1, c2, c3, hz, hit, hno, hd, q2⟩ => ?_
      obtain ⟨ws, hW, rW⟩ := rh2 a ds hd
      exact ⟨a, u, y, h2, pd, ps, ws, j, z, rfl, rfl, r2, rh2, t1, t2, c1, c2, c3, hz, hit, hno, hW, p .non _ _ _ ((k1.trans k2).trans (.put hW)) (rh2.put hW (ZZ j rW)) rfl q2⟩⟩
end
end L2
namespace L2
open PySem PySem.Spec PyProof.Rows
section
variable {n e:Nat}{T U:List (List Int)}{S P:List Nat}
theorem Ya (h:Sq n e T)(hn:n<=8){i j:Nat}(hi:i<n)(hj:j<n):wk T n i j=true↔ ∃k,RP n T k i j:=⟨λw=>(Mo h hn hi w).2,λ⟨k,r⟩=>UP h hn k hi hj r⟩
def frB (T:List (List Int))(n:Nat)(P:List Nat)(Ls:List (List Nat)):Bool:= !((Ls.filter λo=> !decide (o=P)).any λo=>wk T n (o.headD 0) (P.headD 0))
theorem fr_iff {Ls:List (List Nat)}:frB T n P Ls=true↔ ∀o∈Ls,o≠P->wk T n (o.headD 0) (P.headD 0)=false:=by
 unfold frB;rw [Bool.not_eq_true',List.any_eq_false];constructor
 ·intro h o ho ne;have:=h o (S2.mpr ⟨ho,by rw [S6 ne];rfl⟩);cases z:wk T n (o.headD 0) (P.headD 0) with
  |false=>rfl
  |true=>exact absurd z this
 ·intro h o ho z;obtain⟨ho,ne⟩:=S2.mp ho;have:=h o ho (λe=>by rw [P7 e] at ne;cases ne);rw [this] at z;cases z
theorem yC {P:List Nat}(hP:P∈jZ T n):P.headD 0<n/\pcS T n (P.headD 0)=P:=by
 obtain⟨p,hp,rfl⟩:=mem_pcs.mp hP;exact De hp
theorem Mr {P P':List Nat}(hP:P∈jZ T n)(hP':P'∈jZ T n)(a:wk T n (P.headD 0) (P'.headD 0)=true)(b:wk T n (P'.headD 0) (P.headD 0)=true):P=P':=by
 obtain⟨h1,e1⟩:=yC hP;obtain⟨h2,e2⟩:=yC hP';rw [<-e1,<-e2];exact(YA h1 (mem_pc.mpr ⟨h2,a,b⟩)).symm
theorem Nl {α:Type}(r:α->α->Prop)(ir: ∀x,¬r x x)(tr: ∀x y z,r x y->r y z->r x z): ∀l:List α,l≠ []-> ∃m∈l,∀o∈l,¬r o m
 | [],h=>absurd rfl h
 | [x],_=>⟨x,G2.mpr rfl,λo ho=>by rw [G2.mp ho];exact ir x⟩
 |x::y::l,_=>by
  obtain⟨m,hm,lo⟩:=Nl r ir tr (y::l) (by simp)
  by_cases z:r x m
  ·refine⟨x,P8,λo ho w=> ?_⟩;rcases R5.mp ho with e|e
   ·rw [e] at w;exact ir x w
   ·exact lo o e (tr _ _ _ w z)
  ·refine⟨m,D8 _ hm,λo ho w=> ?_⟩;rcases R5.mp ho with e|e
   ·rw [e] at w;exact z w
   ·exact lo o e w
theorem En {Ls:List (List Nat)}(sub: ∀P∈Ls,P∈jZ T n)(ne:Ls≠ []): ∃P∈Ls,frB T n P Ls=true:=by
 obtain⟨m,hm,lo⟩:=Nl (λ(x y: {P:List Nat // P∈jZ T n})=>x≠y/\wk T n (x.1.headD 0) (y.1.headD 0)=true) (λx h=>h.1 rfl) (λx y z a b=>⟨λe=>by
  subst e;exact a.1 (Subtype.ext (Mr x.2 y.2 a.2 b.2)),jU (yC y.2).1 a.2 b.2⟩) (Ls.attach.map λ(x: {x // x∈Ls})=>(⟨x.1,sub x.1 x.2⟩: {P:List Nat // P∈jZ T n})) (λz=>ne (by have:=congrArg List.length z;rw [G0,List.length_attach] at this;exact C5.mp this))
 obtain⟨x,hx,rfl⟩:=R4.mp hm;refine⟨x.1,x.2,fr_iff.mpr λo ho no=> ?_⟩;cases z:wk T n (o.headD 0) (x.1.headD 0) with
 |false=>rfl
 |true=>exact absurd ⟨λe=>no (congrArg Subtype.val e),z⟩ (lo ⟨o,sub o ho⟩ (R4.mpr ⟨⟨o,ho⟩,List.mem_attach _ _,rfl⟩))
theorem Wa:(jZ T n).Nodup:=pcs_rise.imp λ{a b} h e=>by
 rw [e] at h;have:=VG b b;unfold leS at this;rw [h] at this;cases this
structure Lad (T:List (List Int))(n:Nat)(R:List (List Nat)):Prop where
 perm:R.Perm (jZ T n)
 go:R.Pairwise λx y=>wk T n (y.headD 0) (x.headD 0)=false
theorem Do (h:Sq n e T){R:List (List Nat)}(l:Lad T n R)(k:Nat): ∀i∈(R.drop k).flatten,∀j,j<n->ent T i j≠0->j∈(R.drop k).flatten:=by
 intro i hi j hj ar;obtain⟨P,hP,iP⟩:=G0I.mp hi;have PR:P∈R:=T3 hP;have Pp:=l.perm.mem_iff.mp PR;have jj:pcS T n j∈jZ T n:=mem_pcs.mpr ⟨j,hj,rfl⟩;have QR:=l.perm.mem_iff.mpr jj;rw [<-D7 k R] at QR;rcases D4.mp QR with z|z
 ·exfalso;have go:=l.go;rw [<-D7 k R,R7] at go;have no:=go.2.2 _ z P hP;obtain⟨h1,e1⟩:=yC Pp;obtain⟨h2,e2⟩:=yC jj;have a:wk T n (P.headD 0) i=true:=by rw [<-e1] at iP;exact(mem_pc.mp iP).2.1
  have b:wk T n j ((pcS T n j).headD 0)=true:=by
   have:(pcS T n j).headD 0∈pcS T n j:=by obtain⟨r,er⟩:=Jn (T:=T) hj;rw [er];exact P8
   exact(mem_pc.mp this).2.1
  have hin:i<n:=(vK P Pp).lt iP;rw [jU hj (jU hin a (Zf ar n)) b] at no;cases no
 ·exact G0I.mpr ⟨_,z,Jm hj⟩
theorem XY (h:Sq n e T){R:List (List Nat)}(p:R.Perm (jZ T n)):R.flatten.Nodup/\ ∀x,x∈R.flatten↔x<n:=by
 have mem: ∀x,x∈R.flatten↔x<n:=λx=>by
  rw [G0I];constructor
  ·rintro ⟨P,hP,hx⟩;exact(vK P (p.mem_iff.mp hP)).lt hx
  ·exact λhx=>⟨_,p.mem_iff.mpr (mem_pcs.mpr ⟨x,hx,rfl⟩),Jm hx⟩
 refine⟨?_,mem⟩;have nd0:(jZ T n).flatten.Nodup:=by
  unfold List.Nodup;rw [List.pairwise_flatten];refine⟨λP hP=>(vK P hP).rise.imp λz=>S1 z,?_⟩;exact(Dk h).imp λz x hx y hy e=>by rw [e] at hx;exact z y hx hy
 exact(p.flatten).nodup_iff.mpr nd0
def inP (n:Nat)(D:List Nat):List Nat:=(List.range n).filter λj=>decide (j∈D)
theorem XZ (n:Nat)(D:List Nat):IsS n (inP n D):=⟨_,rfl⟩
theorem mem_inP {D:List Nat}{j:Nat}:j∈inP n D↔j<n/\j∈D:=by
 unfold inP;rw [List.mem_filter,List.mem_range,decide_eq_true_iff]
theorem Jo {D:List Nat}(nd:D.Nodup)(lt: ∀x∈D,x<n){ms:List Int}(p:ms.Perm (jI D))(r:ms.Pairwise (· <= ·)):ms=jI (inP n D):=by
 have pp:(inP n D).Perm D:=(Q1 ((XZ n D).rise.imp λz=>S1 z) nd).mpr λj=>by
  rw [mem_inP];exact⟨λz=>z.2,λz=>⟨lt j z,z⟩⟩
 refine E4 (le:=(· <= ·)) (λa b _ _ x y=>by omega) r ?_ (p.trans (pp.map _).symm);unfold jI;rw [T6];exact(XZ n D).rise.imp λz=>by omega
theorem Nm {e':Nat}(x: ∀p j,p<n->j<n->(wk U n p j&&wk U n j p)=(wk T n p j&&wk T n j p)):jZ U n=jZ T n:=by
 have same: ∀p,p<n->pcS U n p=pcS T n p:=λp hp=>K8 λj hj=>x p j hp (P2.mp hj)
 unfold jZ;rw [K8 (q:=λp=>decide ((pcS T n p).headD 0=p)) λp hp=>by rw [same p (P2.mp hp)]];exact S5 λp hp=>same p (P2.mp (S2.mp hp).1)
theorem Ms (h:Sq n e T)(hn:n<=8):jZ (vz n T) n=jZ T n:=Nm (e':=0) λp j hp hj=>by
 have t: ∀i j,i<n->j<n->wk (vz n T) n i j=wk T n j i:=λi j hi hj=>by
  rw [T5,Ya h.turn hn hi hj,Ya h hn hj hi];exact G1h λk=>Mp h hn hi hj
 rw [t p j hp hj,t j p hj hp,Bool.and_comm]
theorem Mt (h:Sq n e T)(hn:n<=8){k i j:Nat}(hi:i<n)(hj:j<n):RP n (jB n T) k i j↔RP n T k i j:=by
 unfold RP;rw [Ne,Ne,<-zY hi hj (T:=zl n (jB n T) k),<-XE h hn,zY hi hj]
theorem Mu (h:Sq n e T)(hn:n<=8):jZ (jB n T) n=jZ T n:=Nm (e':=0) λp j hp hj=>by
 have t: ∀i j,i<n->j<n->wk (jB n T) n i j=wk T n i j:=λi j hi hj=>by
  rw [T5,Ya (Sq.mark T) hn hi hj,Ya h hn hi hj];exact G1h λk=>Mt h hn hi hj
 rw [t p j hp hj,t j p hj hp]
def Cr (n:Nat)(o S:List Nat):List Nat:=inP n (S.map λi=>o.getD i 0)
theorem Jp {o:List Nat}(ho:Ordr n o)(lt: ∀x∈S,x<n){j:Nat}(hj:j<n):j∈Cr n o S↔o.idxOf j∈S:=by
 unfold Cr;rw [mem_inP,R4];constructor
 ·rintro ⟨_,i,hi,rfl⟩;rw [(wn ho (lt i hi)).2];exact hi
 ·exact λz=>⟨hj,_,z,(VM ho hj).2⟩
theorem Nn (h:Sq n e T){o:List Nat}(ho:Ordr n o)(hn:n<=8){p:Nat}(hp:p<n):pcS (Va n o T) n (o.getD p 0)=Cr n o (pcS T n p):=by
 have hr:=h.ren ho.ord;have t: ∀i j,i<n->j<n->wk (Va n o T) n i j=wk T n (o.idxOf i) (o.idxOf j):=λi j hi hj=>by
  rw [T5,Ya hr hn hi hj,Ya h hn (VM ho hi).1 (VM ho hj).1];exact G1h λk=>Co h ho hn hi hj
 obtain⟨q1,q2⟩:=wn ho hp;refine IsS.ext (UO _) (XZ n _) λj=> ?_
 rw [mem_pc];constructor
 ·rintro ⟨hj,a,b⟩;rw [t _ _ q1 hj,q2] at a;rw [t _ _ hj q1,q2] at b;exact(Jp ho (λx hx=>(mem_pc.mp hx).1) hj).mpr (mem_pc.mpr ⟨(VM ho hj).1,a,b⟩)
 ·intro z;have hj:=(mem_inP.mp z).1;obtain⟨_,a,b⟩:=mem_pc.mp ((Jp ho (λx hx=>(mem_pc.mp hx).1) hj).mp z);exact⟨hj,by rw [t _ _ q1 hj,q2];exact a,by rw [t _ _ hj q1,q2];exact b⟩
theorem Cs (h:Sq n e T){o:List Nat}(ho:Ordr n o)(hn:n<=8):(jZ (Va n o T) n).Perm ((jZ T n).map (Cr n o)):=by
 refine(Q1 Wa ?_).mpr λX=> ?_
 ·unfold List.Nodup;rw [T6];refine G0r ?_ (Wa (T:=T) (n:=n));intro a b ha hb ne z;refine ne (IsS.ext (vK a ha) (vK b hb) λi=> ?_);have la: ∀x∈a,x<n:=λx hx=>(vK a ha).lt hx
  have lb: ∀x∈b,x<n:=λx hx=>(vK b hb).lt hx
  constructor
  ·intro hi;have:=(Jp ho la (wn ho (la i hi)).1).mpr (by rw [(wn ho (la i hi)).2];exact hi);rw [z,Jp ho lb (wn ho (la i hi)).1,(wn ho (la i hi)).2] at this;exact this
  ·intro hi;have:=(Jp ho lb (wn ho (lb i hi)).1).mpr (by rw [(wn ho (lb i hi)).2];exact hi);rw [<-z,Jp ho la (wn ho (lb i hi)).1,(wn ho (lb i hi)).2] at this;exact this
 ·rw [mem_pcs,R4];constructor
  ·rintro ⟨p,hp,rfl⟩;obtain⟨i1,i2⟩:=VM ho hp;exact⟨_,mem_pcs.mpr ⟨_,i1,rfl⟩,by rw [<-Nn h ho hn i1,i2]⟩
  ·rintro ⟨S,hS,rfl⟩;obtain⟨p,hp,rfl⟩:=mem_pcs.mp hS;exact⟨_,(wn ho hp).1,(Nn h ho hn hp).symm⟩
theorem Wb {l l':List (List Nat)}(p:l.Perm l'):Wz l=Wz l':=VH ((zV l).trans p) (Jk l)
theorem Ct {n:Nat}{S:List Nat}(h:IsS n S)(l: ¬S.length<n):S=List.range n:=by
 obtain⟨p,rfl⟩:=h;have:((List.range n).filter p).length=(List.range n).length:=by
  have:=H0 p (List.range n);rw [D1] at this ⊢;omega
 exact E9.mpr (List.length_filter_eq_length_iff.mp this)
theorem Mv (h:Sq n e T)(hn:n<=8)(n1:1<=n):(jZ T n).length=1↔(WA n).filter (yZ n T)= [[],List.range n]:=by
 have nil_:yZ n T []=true:=shut_iff.mpr λi hi=>absurd hi N8
 have all_:yZ n T (List.range n)=true:=shut_iff.mpr λi hi j hj ar=>P2.mpr hj
 constructor
 ·intro one;have no: ∀S,IsS n S->yZ n T S=true->S= []\/S=List.range n:=λS iS sh=>by
   by_cases p1:0<S.length
   ·right;refine Ct iS λp2=> ?_
    obtain⟨i,hi⟩:=List.exists_mem_of_length_pos p1;have sub: ∀j,j<n->j∈S:=λj hj=>by
     obtain⟨k,r⟩:=Cn h hn one (iS.lt hi) hj;rw [<-Ej h iS sh];exact mem_cl.mpr ⟨hj,i,hi,UP h hn k (iS.lt hi) hj r⟩
    obtain⟨p,rfl⟩:=iS;rw [E9.mpr λj hj=>(S2.mp (sub j (P2.mp hj))).2,D1] at p2;omega
   ·left;exact C5.mp (by omega)
  have ne:([]:List Nat)≠List.range n:=λz=>by have:=congrArg List.length z;rw [D1] at this;simp at this;omega
  refine E4 (le:=λa b=>leS a b=true) (λa b _ _ x y=>XU x y) ((Jk _).sublist G1a) ?_ ((Q1 ((UM n).sublist G1a) (by simp [ne])).mpr λS=> ?_)
  ·refine List.Pairwise.cons (λb hb=> ?_) (T4 _ _);rw [G2.mp hb];unfold leS toI;cases List.range n<;>rfl
  ·rw [S2,setsS_mem,R5,G2];constructor
   ·exact λz=>no S z.1 z.2
   ·rintro (rfl|rfl)
    ·exact⟨IsS.nil n,nil_⟩
    ·exact⟨IsS.all n,all_⟩
 ·intro z;refine UQ h hn n1 λi j hi hj=> ?_
  have m:clS n T [i]∈(WA n).filter (yZ n T):=S2.mpr ⟨setsS_mem.mpr (Nj n T [i]),Cj n T [i]⟩;have mi:i∈clS n T [i]:=mem_cl.mpr ⟨hi,i,G2.mpr rfl,Jl T n i⟩;rw [z,R5,G2] at m;rcases m with e|e
  ·rw [e] at mi;cases mi
  ·have mj:j∈clS n T [i]:=by rw [e];exact P2.mpr hj
   obtain⟨_,x,hx,w⟩:=mem_cl.mp mj;rw [G2.mp hx] at w;exact(Mo h hn hi w).2
theorem Wc (P P':List (List Nat)):PyData.eqvAll (P.map WT) (P'.map WT)=decide (P=P'):=by
 have e: ∀X:List (List Nat),X.map WT=(X.map jI).map ZH:=λX=>by rw [S0];rfl
 rw [e,e,zZ,T5,M9,M9];exact List.map_inj_right (f:=jI) λx y z=>PV z
theorem wS (P:List (List Nat)):SeqAt.shaped (.list (P.map WT))=true:=by
 have d:PyData.depthAll (P.map WT)<=10:=by
  induction P with
  |nil=>simp [PyData.depthAll]
  |cons x P ih=>
   show max _ _<=10;have:=R6 (ZO (jI x)) (show _<=10 by decide);have e:(WT x).depth<=10:=this;omega
 unfold SeqAt.shaped;rw [show PyData.canLay0 (.list (P.map WT))=true from by simp only [PyData.canLay0];exact encO.lays P,P7 (by simp only [PyData.depth];omega)];rfl
theorem Mw {h:HD}{A B:Addr}{P P':List (List Nat)}{Q:KD}(k:h A=some (P.map jx))(k':h B=some (P'.map jx))(q:Q (.bl (decide (P=P'))) h):eqE (.lst A) (.lst B) h Q:=
 ⟨.list (P.map WT),.list (P'.map WT),⟨A,_,rfl,k,encO.tos h P⟩,⟨B,_,rfl,k',encO.tos h P'⟩,wS P,wS P',by rw [show PyData.eqv (.list (P.map WT)) (.list (P'.map WT))=decide (P=P') from Wc P P'];exact q⟩
theorem Zg {h:HD}{A B:Addr}{P P':List (List Nat)}{Q:KD}(k:h A=some (P.map jx))(k':h B=some (P'.map jx))(e:P=P')(q:Q (.bl false) h):neE (.lst A) (.lst B) h Q:=
 ⟨.list (P.map WT),.list (P'.map WT),⟨A,_,rfl,k,encO.tos h P⟩,⟨B,_,rfl,k',encO.tos h P'⟩,wS P,wS P',by rw [show PyData.eqv (.list (P.map WT)) (.list (P'.map WT))=true from (Wc P P').trans (P7 e)];exact q⟩
theorem Mx {h:HD}{A B:Addr}{ns:List Int}{Q:KD}(k:h A=some (ns.map D.int))(k':h B=some (ns.map D.int))(q:Q (.bl false) h):neE (.lst A) (.lst B) h Q:=
 ⟨.list (ns.map .int),.list (ns.map .int),⟨A,_,rfl,k,zw h ns⟩,⟨B,_,rfl,k',zw h ns⟩,zE _,zE _,by rw [show PyData.eqv (.list (ns.map .int)) (.list (ns.map .int))=true from (Je ns ns).trans (P7 rfl)];exact q⟩
end
section
variable {X:Cx}{k i:Nat}{ps N Pn:List Str}{spd:RDn}{x:Str}{p pos pos':Pos}{e e2 e3 e4 iter elt:Expr}{es ifs:List Expr}{t:TAD}{te te2 te3 te4:TED}{ti:TID}{tt:TTD}{scope sc:Scope}{c:Expr}
theorem jk (C:ji X.prog X.w X.K X.mg X.base k x ps spd)(hr:Room k X.A)(ha:JA X (e::es) t)(hg:Gl X x:=by rfl)(hdb:(x==("__debug__" :Str))=false:=by decide)(he:starEach (e::es) X.env=(false,eval e X.env)::starEach es X.env:=by rfl)(hpl:(backTo pos (starEach es X.env)).any (·.1)=false:=by rfl):JE X (.Call (.Name x p) (e::es) [] pos) (dCB spd t):=by
 obtain⟨g,gd,F,hb,hk,hm⟩:=C;exact AV F hr hg hm hk hb ha hdb he hpl
theorem j1 (a:JE X e te)(h:zj e=true:=by rfl):JA X [e] (zb te vX):=jac a ye h
theorem j2 (a:JE X e te)(b:JE X e2 te2)(h:zj e=true:=by rfl)(h2:zj e2=true:=by rfl):JA X [e,e2] (zb te (zb te2 vX)):=jac a (j1 b h2) h
theorem j3 (a:JE X e te)(b:JE X e2 te2)(c:JE X e3 te3)(h:zj e=true:=by rfl)(h2:zj e2=true:=by rfl)(h3:zj e3=true:=by rfl):JA X [e,e2,e3] (zb te (zb te2 (zb te3 vX))):=jac a (j2 b c h2 h3) h
theorem j4 (a:JE X e te)(b:JE X e2 te2)(c:JE X e3 te3)(d:JE X e4 te4)(h:zj e=true:=by rfl)(h2:zj e2=true:=by rfl)(h3:zj e3=true:=by rfl)(h4:zj e4=true:=by rfl):JA X [e,e2,e3,e4] (zb te (zb te2 (zb te3 (zb te4 vX)))):=jac a (j3 b c d h2 h3 h4) h
theorem VN (Z:Zs X.mg)(a:JE X e te)(hg:Gl X "len" :=by rfl)(h:zj e=true:=by rfl)(he:starEach [e] X.env=(false,eval e X.env)::starEach [] X.env:=by rfl)(hpl:(backTo pos (starEach [] X.env)).any (·.1)=false:=by rfl):JE X (.Call (.Name "len" p) [e] [] pos) (dCB CM (zb te vX)):=zf Ln hg Z.len PySem.boot_len (j1 a h) (by decide) (by decide) he hpl
theorem jse (i:Nat)(S:FnScope X.N Pn sc)(he:JE X e te)(hi:X.N[i]? =some x:=by rfl)(hx:Loc X.env.scope x:=by first|exact Or.inl rfl|exact Or.inr rfl)(hs:swapsWith e (some (.Name x pos')) pos.line X.env=pure false:=by rfl)(hf:X.fn x=true\/X.env.scope.names.lookup x=some .local:=by first|exact .inl rfl|exact .inr rfl|assumption):JS X (.Assign [.Name x pos'] e pos) (Ro i te):=ST S.nd hi hx he hs hf
theorem jgn (i:Nat)(S:FnScope X.N Pn sc)(hi:X.N[i]? =some x:=by rfl)(hx:Loc X.env.scope x:=by first|exact Or.inl rfl|exact Or.inr rfl)(hf:X.fn x=true\/X.env.scope.names.lookup x=some .local:=by first|exact .inl rfl|exact .inr rfl|assumption):JG X (.Name x pos) (gN i):=BG S.nd hi hx hf
theorem jl1 (i:Nat)(S:FnScope X.N Pn sc)(hi:JI X (.Name x p) iter ti)(ht: ∀C s₀ H₀ ex,JT (yQ X scope C s₀ H₀ ex) c tt)(he: ∀C s₀ H₀ ex,JE (yQ X scope C s₀ H₀ ex) elt te)(hc:X.calm=true:=by rfl)(hB:Xx X.N X.env.scope.names scope [i]=true:=by rfl)(hx:X.N[i]? =some x:=by rfl)(hl:scope.names.lookup x=some .local\/scope.names.lookup x=some .cell:=by first|exact Or.inl rfl|exact Or.inr rfl)(hs: ∀x,foldedSetIterable iter X.env x=pure x:=by intro _;rfl):JE X (.ListComp elt [⟨.Name x p,iter,[c],0⟩] scope pos) (wL (bN i) [i] ti tt te):=
 jlc hc (wE hB) hi (G2.mpr rfl) S.nd hx hl (λX' hX=>by obtain⟨C,s₀,H₀,ex,rfl⟩:=hX;exact BI (ht C s₀ H₀ ex)) (λX' hX=>by obtain⟨C,s₀,H₀,ex,rfl⟩:=hX;exact he C s₀ H₀ ex) hs
theorem jl0 (i:Nat)(S:FnScope X.N Pn sc)(hi:JI X (.Name x p) iter ti)(he: ∀C s₀ H₀ ex,JE (yQ X scope C s₀ H₀ ex) elt te)(hc:X.calm=true:=by rfl)(hB:Xx X.N X.env.scope.names scope [i]=true:=by rfl)(hx:X.N[i]? =some x:=by rfl)(hl:scope.names.lookup x=some .local\/scope.names.lookup x=some .cell:=by first|exact Or.inl rfl|exact Or.inr rfl)(hs: ∀x,foldedSetIterable iter X.env x=pure x:=by intro _;rfl):JE X (.ListComp elt [⟨.Name x p,iter,[],0⟩] scope pos) (wL (bN i) [i] ti yR te):=
 jlc hc (wE hB) hi (G2.mpr rfl) S.nd hx hl (λX' hX=>ZD) (λX' hX=>by obtain⟨C,s₀,H₀,ex,rfl⟩:=hX;exact he C s₀ H₀ ex) hs
theorem fsc {N P:List Str}(a:sc.kind= .function:=by rfl)(b:sc.isCoroutine=false:=by rfl)(c:sc.isGenerator=false:=by rfl)(d:N.Nodup:=by decide +kernel)(e:N.take P.length=P:=by rfl)(f: ∀x∈P,sc.names.lookup x=some .local\/sc.names.lookup x=some .cell:=by decide +kernel)(g: ∀y∈sc.names,y.2≠ .free:=by decide +kernel):FnScope N P sc:=⟨a,b,c,d,e,f,g⟩
theorem jc1 {op:CmpOp}{f:RD2}(ho:OpQ X (compareOp op) f)(ha:JE X e te)(hb:JE X e2 te2)(hm:behindInMarks op e2=false:=by exact MS _):JE X (.Compare e [op] [e2] pos) (dOp f te te2):=EU ho ha hb hm
theorem jt1 {op:CmpOp}{f:RD2}(ho:OpQ X (compareOp op) f)(ha:JE X e te)(hb:JE X e2 te2)(hm:behindInMarks op e2=false:=by exact MS _):JT X (.Compare e [op] [e2] pos) (JP (dOp f te te2)):=LL ho ha hb hm
theorem ji1 (ha:JE X e te)(hb:JE X e2 te2)(hs:Yk e2:=by exact λ_ _=>rfl):JE X (.Subscript e e2 pos) (dOp ixD te te2):=jix ha hb hs
theorem jrg {tg:Expr}(Z:Zs X.mg)(ha:JE X e te)(hg:Gl X "range" :=by rfl)(h:zj e=true:=by rfl)(hs:starEach [e] X.env= [(false,eval e X.env)]:=by rfl):JI X tg (.Call (.Name "range" p) [e] [] pos) (iR1 (zb te vX)):=AU hg Z.range (j1 ha h) hs
end
section
variable {P:Program}{w:World}{K:PySem.W.Frag}{mg:Str->Option Value}{base:Heap}{x qual:Str}{st:Stmt}{f:Addr}{fd:FuncData}{N ps:List Str}{k:Nat}
theorem Fun.okM {spd:RDn}(F:Fun K x qual st f fd)(S:FnScope N ps (jd st)){tb:TSD}(hbody: ∀ {cdv:Value} {A:Around} {outer:List Env} {s:Shared} {H:Hp} {E:XK},Room k (A.deeper (envOfC qual (jd st) s.heap.objs.size f cdv))->JSs (Ra CX0 P w K mg base N qual (jd st) f cdv A outer s H E).nox (zJ st) tb)
 (read: ∀ds h Q,spd ds h Q->ds.length=ps.length/\tb (DP Q) (wD N ds) h):FnOk P w K mg base CX0 (k+1) f fd ps (LSp K spd):=F.okJ S (λds h Q q=>(read ds h Q q).1) tb (λ_ _ _ _ _ _ hr=>hbody hr) λds h Q q=>(read ds h Q q).2
end
theorem sz3:3<=sizeLine:=by decide
end L2
namespace My
open PySem L2
def top (i:Nat):Stmt:=PySem.Challenge.pw_firstpowers_k22_whole_pieces.main.body.getD i (.Pass ⟨0,0,0,0⟩)
abbrev Jq:Stmt:=top 7
theorem US:FnScope ["thing"] ["thing"] (jd Jq):=fsc
abbrev va:Stmt:=top 8
theorem VO:FnScope ["thing","least","most"] ["thing","least","most"] (jd va):=fsc
abbrev Jr:Stmt:=top 9
theorem UT:FnScope ["thing","size"] ["thing","size"] (jd Jr):=fsc
abbrev yh:Stmt:=top 10
theorem vL:FnScope ["thing","size","each"] ["thing","size"] (jd yh):=fsc
abbrev UU:Stmt:=top 11
theorem Qg:FnScope ["row","one","other"] ["row"] (jd UU):=fsc
abbrev YC:Stmt:=top 12
theorem Dp:FnScope ["thing","size"] ["thing","size"] (jd YC):=fsc
abbrev Js:Stmt:=top 13
theorem UV:FnScope ["thing","size"] ["thing","size"] (jd Js):=fsc
abbrev wy:Stmt:=top 14
theorem yi:FnScope ["thing","size","number"] ["thing","size"] (jd wy):=fsc
abbrev zM:Stmt:=top 15
theorem wH:FnScope ["thing","row"] ["thing"] (jd zM):=fsc
abbrev yj:Stmt:=top 16
theorem YD:FnScope ["thing"] ["thing"] (jd yj):=fsc
abbrev Jt:Stmt:=top 17
theorem UW:FnScope ["table","thing"] ["table","thing"] (jd Jt):=fsc
abbrev yk:Stmt:=top 18
theorem YE:FnScope ["table","thing"] ["table","thing"] (jd yk):=fsc
abbrev Wd:Stmt:=top 20
theorem zF:FnScope ["table","size","come","by","one","other"] ["table"] (jd Wd):=fsc
abbrev vb:Stmt:=top 21
theorem zt:FnScope ["come","size","told","place","piece","other"] ["come"] (jd vb):=fsc
abbrev We:Stmt:=top 22
theorem Yb:FnScope ["piece","left","come","other"] ["piece","left","come"] (jd We):=fsc
abbrev YF:Stmt:=top 23
theorem Dq:FnScope ["table"] ["table"] (jd YF):=fsc
abbrev YG:Stmt:=top 24
theorem Dr:FnScope ["table"] ["table"] (jd YG):=fsc
abbrev YH:Stmt:=top 25
theorem wI:FnScope ["table","come","left","told","piece","each"] ["table"] (jd YH):=fsc
abbrev Ds:Stmt:=top 26
theorem UX:FnScope ["table","some","one","other"] ["table","some"] (jd Ds):=fsc
abbrev yl:Stmt:=top 28
theorem wT:FnScope ["table","some","head","place"] ["table","some"] (jd yl):=fsc
abbrev ym:Stmt:=top 30
theorem zA:FnScope ["one","other","size","row","place","by"] ["one","other"] (jd ym):=fsc
abbrev Dt:Stmt:=top 32
theorem DM:FnScope ["table","row","number"] ["table"] (jd Dt):=fsc
abbrev UY:Stmt:=top 33
theorem YI:FnScope ["table","row","number"] ["table"] (jd UY):=fsc
abbrev YJ:Stmt:=top 34
theorem Wf:FnScope ["table","place","row"] ["table"] (jd YJ):=fsc
abbrev Wg:Stmt:=top 35
theorem wJ:FnScope ["table","order","olds","name","one","other"] ["table","order"] (jd Wg):=fsc
abbrev wU:Stmt:=top 37
theorem WC:FnScope ["ahead","table"] ["ahead","table"] (jd wU):=fsc
abbrev zB:Stmt:=top 38
theorem jV:FnScope ["table","told","later"] ["table"] (jd zB):=fsc
abbrev vc:Stmt:=top 39
theorem VP:FnScope ["table"] ["table"] (jd vc):=fsc
abbrev wV:Stmt:=top 41
theorem yO:FnScope ["table","at","each"] ["table"] (jd wV):=fsc
abbrev wz:Stmt:=top 43
theorem yn:FnScope ["table","some","head"] ["table","some"] (jd wz):=fsc
abbrev Ju:Stmt:=top 44
theorem wc:FnScope ["size","told","place","some"] ["size"] (jd Ju):=fsc
abbrev Wh:Stmt:=top 45
theorem QP:FnScope ["table","some"] ["table","some"] (jd Wh):=fsc
abbrev vd:Stmt:=top 46
theorem JF:FnScope ["table","some"] ["table"] (jd vd):=fsc
abbrev ve:Stmt:=top 48
theorem VQ:FnScope ["_law_script","_law_k"] ["_law_script","_law_k"] (jd ve):=fsc
abbrev Jv:Stmt:=top 49
theorem Wi:FnScope ["_law_cell_here","_law_left"] ["_law_cell_here"] (jd Jv):=fsc
abbrev vf:Stmt:=top 50
theorem wr:FnScope ["_law_pen_here","_law_many","_law_left","_law_found","_law_stir"] ["_law_pen_here","_law_many"] (jd vf):=fsc
abbrev vg:Stmt:=top 51
theorem VR:FnScope ["_law_pen_here"] ["_law_pen_here"] (jd vg):=fsc
abbrev yo:Stmt:=top 52
theorem jy:FnScope ["_law_pen_here","_law_size_here","_law_way","_law_often","_law_most","_law_rows","_law_one","_law_row","_law_other","_law_goes"] ["_law_pen_here","_law_size_here"] (jd yo):=fsc
abbrev yp:Stmt:=top 53
theorem wW:FnScope ["_law_pen_here","_law_many","_law_found","_law_what"] ["_law_pen_here","_law_many"] (jd yp):=fsc
abbrev yq:Stmt:=top 54
theorem jM:FnScope ["_law_table_here","_law_order_here","_law_found","_law_size_here","_law_places","_law_piece","_law_named","_law_place"] ["_law_table_here","_law_order_here"] (jd yq):=fsc
abbrev zr:Stmt:=top 55
theorem jA:FnScope ["_law_table_here","_law_row","_law_at","_law_rest","_law_piece"] ["_law_table_here"] (jd zr):=fsc
abbrev QQ:Stmt:=top 56
theorem Ur:FnScope ["_law_script","_law_cell_here","_law_pen_here","_law_size_here","_law_table_here","_law_order_here"] ["_law_script"] (jd QQ):=fsc
section
variable {P:Program}{w:World}{K:PySem.W.Frag}{mg:Str->Option Value}{base:Heap}
/-- no def is asked of the script's list: a thing -/
def Du:D->Bool
 | .int _=>true
 |_=>false
/-- a row of so many numbers from 0 on -/
def OR:D->Bool
 | .int i=>decide (0<=i)
 |_=>false
def No (d:D)(k:Int):Bool:=match d with
 | .tup ds=>decide ((ds.length:Int)=k)&&ds.all OR
 |_=>false
/-! every part has a kind that is told,and no tuple is long -/
mutual
def okD:D->Bool
 | .scr _=>false| .exc _=>false| .fn _=>false| .dct _=>false
 | .tup ds=>decide (ds.length<=1000)&&okDs ds
 |_=>true
def okDs:List D->Bool
 | []=>true
 |d::ds=>okD d&&okDs ds
end
theorem Qa: ∀ {ds:List D},okDs ds=true-> ∀d∈ds,okD d=true
 |d::ds,h,x,hx=>by
  have h':(okD d&&okDs ds)=true:=h;rw [B2] at h';rcases R5.mp hx with e|e
  ·subst e;exact h'.1
  ·exact Qa h'.2 x e
theorem Dv: ∀ {ds:List D},(∀d∈ds,okD d=true)->okDs ds=true
 | [],_=>rfl
 |d::ds,h=>by
  show (okD d&&okDs ds)=true;rw [h d P8,Dv λx hx=>h x (D8 _ hx)];rfl
theorem UZ {ds:List D}(h:okD (.tup ds)=true):ds.length<=1000/\ ∀d∈ds,okD d=true:=by
 have h':(decide (ds.length<=1000)&&okDs ds)=true:=h;rw [B2] at h';exact⟨M5 h'.1,Qa h'.2⟩
theorem VS {ds:List D}(h:ds.length<=1000)(h2: ∀d∈ds,okD d=true):okD (.tup ds)=true:=by
 show (decide (ds.length<=1000)&&okDs ds)=true;rw [P7 h,Dv h2];rfl
theorem vM {d:D}(h:okD d=true): ∃n,Vm d=some n:=by
 cases d<;>first|exact⟨_,rfl⟩|cases h
/-- a table -/
def CN:D->Bool
 | .tup rs=>decide (1<=rs.length)&&decide (rs.length<=6)&&rs.all λr=>No r rs.length
 |_=>false
def vh:RDn:=λds h Q=> ∃d n,ds= [d]/\Vm d=some n/\Q (.bl (Du d)) h
variable {n:Nat}{f:Addr}{fd:FuncData}
theorem Xa (Z:Zs mg)(F:Fun K "is_whole" "is_whole" Jq f fd):FnOk P w K mg base CX0 (n+1) f fd ["thing"] (LSp K vh):=by
 refine F.okM US (λhr=>(jf (zK (Rx (Pc (T:= "int") (by decide) rfl Z.isinstance rfl Z.int (by decide +kernel) (jv 0)) (Qw (EV (Pc (T:= "bool") (by decide) rfl Z.isinstance rfl Z.bool (by decide +kernel) (jv 0)))))))) ?_;rintro ds h Q ⟨d,nm,rfl,hn,q⟩;refine⟨rfl,?_⟩;simp only [DO,Rl,dIs,Rk,wD,M8,J8,D5,T9,O9,N6,C7,E5,D.bl.injEq,GK,DP,K3,hn];cases d<;>cases hn<;>exact⟨h,Sub.refl h,q⟩
def JH:RDn:=λds h Q=> ∃d,∃a b:Int,ds= [d,.int a,.int b]/\okD d=true/\Q (.bl (Jg d a b)) h
theorem VT (Z:Zs mg)(F:Fun K "is_within" "is_within" va f fd)(Jy:ji P w K mg base n "is_whole" ["thing"] vh):FnOk P w K mg base CX0 (n+1) f fd ["thing","least","most"] (LSp K JH):=by
 refine F.okM VO (λhr=>(jf (zK (Rx (jk Jy hr (j1 (jv 0))) (Qw (LM Rq Rq (jv 1) (jv 0) (jv 2))))))) ?_;rintro ds h Q ⟨d,a,b,rfl,ok,q⟩;refine⟨rfl,?_⟩;obtain⟨nm,hn⟩:=vM ok;refine⟨_,rfl,d,nm,rfl,hn,Du d,rfl,?_⟩;cases d with
 |int x=>
  refine Qo ⟨_,rfl,_,rfl,_,rfl,?_⟩;show if decide (a<=x)=true then _ else _
  by_cases h1:a<=x
  ·rw [P7 h1];simp only [Jg,P7 h1,G1d] at q;exact Qo ⟨_,rfl,h,Sub.refl h,q⟩
  ·rw [S6 h1];simp only [Jg,S6 h1,Bool.false_and] at q;exact Jb ⟨h,Sub.refl h,q⟩
 |_=>exact Jb ⟨h,Sub.refl h,q⟩
def Wj:RDn:=λds h Q=> ∃d,∃n:Int,ds= [d,.int n]/\okD d=true/\Q (.bl (Jg d 0 (n-1))) h
theorem Xb (Z:Zs mg)(F:Fun K "is_place" "is_place" Jr f fd)(Xj:ji P w K mg base n "is_within" ["thing","least","most"] JH):FnOk P w K mg base CX0 (n+1) f fd ["thing","size"] (LSp K Wj):=by
 refine F.okM UT (λhr=>(jf (zK (jk Xj hr (j3 (jv 0) jR (jop GP (jv 1) jR)))))) ?_;rintro ds h Q ⟨d,k,rfl,ok,q⟩;refine⟨rfl,?_⟩;exact⟨_,rfl,_,rfl,d,0,k-1,rfl,ok,h,Sub.refl h,q⟩
def wX:RDn:=λds h Q=> ∃d,∃n:Int,ds= [d,.int n]/\okD d=true/\Q (.bl (Jh d n)) h
theorem YK (Z:Zs mg)(F:Fun K "are_places" "are_places" yh f fd)(Gc:ji P w K mg base n "is_place" ["thing","size"] Wj):FnOk P w K mg base CX0 (n+1) f fd ["thing","size"] (LSp K wX):=by
 refine F.okM vL (λhr=>(jf (zK (Rx (Pc (T:= "tuple") (by decide) rfl Z.isinstance rfl Z.tuple (by decide +kernel) (jv 0)) (Qw (zf (WN rfl) rfl Z.all L0 (j1 (jl0 2 vL (zc (jv 0)) (λ_ _ _ _=>(jk Gc hr (j2 (jv 2) (jv 1)))))))))))) ?_;rintro ds h Q ⟨d,k,rfl,ok,q⟩;refine⟨rfl,?_⟩;obtain⟨nm,hn⟩:=vM ok;refine⟨_,rfl,nm,hn,?_⟩;cases d with
 |tup es=>
  cases hn;obtain⟨hl,ht⟩:=UZ ok;refine⟨_,rfl,Qo ?_⟩;exact EW es (λx=>x) (λx=>Jg x 0 (k-1)) hl (by rw [List.map_id']) (λR r=>⟨_,rfl,r⟩) (λx hx Q' q'=>⟨_,rfl,_,rfl,x,k,rfl,ht x hx,q'⟩) ⟨h,Sub.refl h,q⟩
 |_=>cases hn<;>exact⟨_,rfl,Jb ⟨h,Sub.refl h,q⟩⟩
def Qb:RDn:=λds h Q=> ∃S:List Nat,ds= [jx S]/\S.length<=1000/\Q (.bl ((S.zip (S.drop 1)).all λp=>decide ((p.1:Int)<(p.2:Int)))) h
theorem Mz (Z:Zs mg)(F:Fun K "rises" "rises" UU f fd):FnOk P w K mg base CX0 (n+1) f fd ["row"] (LSp K Qb):=by
 refine F.okM Qg (λhr=>(jf (zK (zf (WN rfl) rfl Z.all L0 (j1 (SU (i:=1) (j:=2) (js:= [1,2]) rfl (wE (by rfl)) (Oc rfl Z.zip (j2 (jv 0) (Pf (jv 0) (Yw jR) Pe))) (by decide) (by decide) (by decide) Qg.nd rfl rfl (by first|exact Or.inl rfl|exact Or.inr rfl) (by first|exact Or.inl rfl|exact Or.inr rfl) (λX' hX=>ZD) (λX' hX=>by obtain⟨C,s₀,H₀,ex,rfl⟩:=hX;exact(jc1 Bq (jv 1) (jv 2))))))))) ?_;rintro ds h Q ⟨S,rfl,hl,q⟩;refine⟨rfl,?_⟩;refine Eb (j:=λ_=>some (Nc (S.map λ(k:Nat)=>D.int (k:Int)) (WO (S.map λ(k:Nat)=>D.int (k:Int)) (some 1) none))) (S.zip (S.drop 1)) (λp=> .int (p.1:Int)) (λp=> .int (p.2:Int)) (λp=>decide ((p.1:Int)<(p.2:Int))) (by rw [List.length_zip];omega) (congrArg some (BW S)) (λR r=>⟨_,rfl,_,rfl,_,rfl,_,_,rfl,r⟩) (λp hp Q' q'=>⟨_,rfl,_,rfl,q'⟩) ⟨h,Sub.refl h,q⟩
theorem MB {S:List Nat}(h:S.Pairwise (· < ·)):((S.zip (S.drop 1)).all λp=>decide ((p.1:Int)<(p.2:Int)))=true:=by
 rw [S8];intro p hp;have:=XI h p hp;exact P7 (by omega)
def Tl (n:Nat)(d:D):Prop:=(okD d=true/\Jh d (n:Int)=false)\/ ∃S:List Nat,d=jx S/\(∀i∈S,i<n)/\S.length<=1000/\((S.zip (S.drop 1)).all λp=>decide ((p.1:Int)<(p.2:Int)))=false
def VU:RDn:=λds h Q=> ∃d,∃n:Nat,ds= [d,.int (n:Int)]/\n<=6/\((∃S,d=jx S/\IsS n S/\Q (.bl true) h)\/(Tl n d/\Q (.bl false) h))
theorem Dw (Z:Zs mg)(F:Fun K "is_set" "is_set" YC f fd)(CH:ji P w K mg base n "rises" ["row"] Qb)(yu:ji P w K mg base n "are_places" ["thing","size"] wX):FnOk P w K mg base CX0 (n+1) f fd ["thing","size"] (LSp K VU):=by
 refine F.okM Dp (λhr=>(jf (zK (Rx (jk yu hr (j2 (jv 0) (jv 1))) (Qw (jk CH hr (j1 (jv 0)))))))) ?_;rintro ds h Q ⟨d,n,rfl,hn,q⟩;refine⟨rfl,?_⟩;have okO: ∀S:List Nat,S.length<=1000->okD (jx S)=true:=λS hS=>VS (by rw [G0];exact hS) λd hd=>by obtain⟨x,_,rfl⟩:=R4.mp hd;rfl
 have plO: ∀S:List Nat,(∀i∈S,i<n)->Jh (jx S) (n:Int)=true:=λS hS=>by
  show (S.map _).all _=true;rw [S8];intro x hx;obtain⟨i,hi,rfl⟩:=R4.mp hx;have:=hS i hi;show (decide ((0:Int)<=(i:Int))&&decide ((i:Int)<=(n:Int)-1))=true;rw [P7 (show (0:Int)<=(i:Int) by omega),P7 (show (i:Int)<=(n:Int)-1 by omega)];rfl
 rcases q with ⟨S,rfl,hS,q⟩|⟨⟨ok,bad⟩|⟨S,rfl,hS,hl,hr⟩,q⟩
 ·have hlen:=hS.len;refine⟨_,rfl,_,rfl,jx S,(n:Int),rfl,okO S (by omega),?_⟩;rw [plO S λi hi=>hS.lt hi];refine⟨_,rfl,Qo ⟨_,rfl,S,rfl,by omega,?_⟩⟩;rw [MB hS.rise];exact⟨h,Sub.refl h,q⟩
 ·refine⟨_,rfl,_,rfl,d,(n:Int),rfl,ok,?_⟩;rw [bad];exact⟨_,rfl,Jb ⟨h,Sub.refl h,q⟩⟩
 ·refine⟨_,rfl,_,rfl,jx S,(n:Int),rfl,okO S hl,?_⟩;rw [plO S hS];refine⟨_,rfl,Qo ⟨_,rfl,S,rfl,hl,?_⟩⟩;rw [hr];exact⟨h,Sub.refl h,q⟩
theorem Yc: ∀ {a b:List PyData},PyData.eqvAll a b=true->a.length=b.length
 | [],[],_=>rfl
 | [],_::_,h=>by simp [PyData.eqvAll] at h
 |_::_,[],h=>by simp [PyData.eqvAll] at h
 |x::a,y::b,h=>by
  have h2:(PyData.eqv x y&&PyData.eqvAll a b)=true:=h;rw [D5,D5,Yc (Bool.and_eq_true_iff.mp h2).2]
def Tn (n:Nat)(d:D):Prop:=(okD d=true/\Jh d (n:Int)=false)\/ ∃o:List Nat,d=jx o/\(∀x∈o,x<n)/\o.length<=60/\o.length≠n
def Wk:RDn:=λds h Q=> ∃d,∃n:Nat,ds= [d,.int (n:Int)]/\n<=6/\((∃o,d=jx o/\Ordr n o/\Q (.bl true) h)\/(Tn n d/\Q (.bl false) h))
theorem Xc (Z:Zs mg)(F:Fun K "is_order" "is_order" Js f fd)(yu:ji P w K mg base n "are_places" ["thing","size"] wX):FnOk P w K mg base CX0 (n+1) f fd ["thing","size"] (LSp K Wk):=by
 refine F.okM UV (λhr=>(jf (zK (Rx (jk yu hr (j2 (jv 0) (jv 1))) (Qw (jc1 (ZA hr.units) (zf vx rfl Z.sorted (by decide +kernel) (j1 (jv 0))) (LY rfl rfl Z.list rfl Z.range (j1 (jv 1))))))))) ?_;rintro ds h Q ⟨d,k,rfl,hk,q⟩;refine⟨rfl,?_⟩;rcases q with ⟨o,rfl,ho,q⟩|⟨⟨ok,bad⟩|⟨o,rfl,hlt,hle,hne⟩,q⟩
 ·have hlen:o.length=k:=ho.ord.len;have hle:o.length<=60:=by omega
  have hlt: ∀x∈o,x<k:=λx hx=>P2.mp (ho.mem_iff.mp hx)
  have okO:okD (jx o)=true:=VS (by rw [G0];omega) λd hd=>by obtain⟨x,_,rfl⟩:=R4.mp hd;rfl
  have plO:Jh (jx o) (k:Int)=true:=by
   show (o.map _).all _=true;rw [S8];intro x hx;obtain⟨i,hi,rfl⟩:=R4.mp hx;have:=hlt i hi;show (decide ((0:Int)<=(i:Int))&&decide ((i:Int)<=(k:Int)-1))=true;rw [P7 (show (0:Int)<=(i:Int) by omega),P7 (show (i:Int)<=(k:Int)-1 by omega)];rfl
  have hlc:(jI o).length<=60:=by unfold jI;rw [List.length_map];exact hle
  refine⟨_,rfl,_,rfl,jx o,(k:Int),rfl,okO,?_⟩;rw [plO];refine⟨_,rfl,Qo ⟨_,rfl,jI o,Or.inl (by rw [Yy]),by omega,λp1 ns' e1 hp hpw=>⟨_,rfl,k,rfl,by omega,λp2 e2=> ?_⟩⟩⟩;have er:((List.range k).map λ(i:Nat)=>D.int (i:Int))=(jI (List.range k)).map D.int:=by unfold jI;rw [List.map_map];rfl
  refine⟨.list (ns'.map .int),.list ((jI (List.range k)).map .int),⟨p1,_,rfl,jg jc e2,zw _ _⟩,⟨p2,_,rfl,by rw [jc,er],zw _ _⟩,zE _,zE _,h,Sub.newAt (Sub.newAt (Sub.refl h) e1) e2,?_⟩;have ee:PyData.eqv (.list (ns'.map .int)) (.list ((jI (List.range k)).map .int))=true:=by
   have es:ns'=jI (List.range k):=E4 (le:=λ(x y:Int)=>x<=y) (λ_ _ _ _ a b=>Int.le_antisymm a b) hpw (Vr k) (hp.trans (ho.map _));rw [es];exact ZG _
  rw [ee];exact q
 ·refine⟨_,rfl,_,rfl,d,(k:Int),rfl,ok,?_⟩;rw [bad];exact⟨_,rfl,Jb ⟨h,Sub.refl h,q⟩⟩
 ·skip
  have okO:okD (jx o)=true:=VS (by rw [G0];omega) λd hd=>by obtain⟨x,_,rfl⟩:=R4.mp hd;rfl
  have plO:Jh (jx o) (k:Int)=true:=by
   show (o.map _).all _=true;rw [S8];intro x hx;obtain⟨i,hi,rfl⟩:=R4.mp hx;have:=hlt i hi;show (decide ((0:Int)<=(i:Int))&&decide ((i:Int)<=(k:Int)-1))=true;rw [P7 (show (0:Int)<=(i:Int) by omega),P7 (show (i:Int)<=(k:Int)-1 by omega)];rfl
  have hlc:(jI o).length<=60:=by unfold jI;rw [List.length_map];exact hle
  refine⟨_,rfl,_,rfl,jx o,(k:Int),rfl,okO,?_⟩;rw [plO];refine⟨_,rfl,Qo ⟨_,rfl,jI o,Or.inl (by rw [Yy]),by omega,λp1 ns' e1 hp hpw=>⟨_,rfl,k,rfl,by omega,λp2 e2=> ?_⟩⟩⟩;have er:((List.range k).map λ(i:Nat)=>D.int (i:Int))=(jI (List.range k)).map D.int:=by unfold jI;rw [List.map_map];rfl
  refine⟨.list (ns'.map .int),.list ((jI (List.range k)).map .int),⟨p1,_,rfl,jg jc e2,zw _ _⟩,⟨p2,_,rfl,by rw [jc,er],zw _ _⟩,zE _,zE _,h,Sub.newAt (Sub.newAt (Sub.refl h) e1) e2,?_⟩;have ee:PyData.eqv (.list (ns'.map .int)) (.list ((jI (List.range k)).map .int))=false:=by
   cases hb:PyData.eqv (.list (ns'.map .int)) (.list ((jI (List.range k)).map .int)) with
   |false=>rfl
   |true=>
    have:=Yc (show PyData.eqvAll (ns'.map .int) ((jI (List.range k)).map .int)=true from hb);rw [G0,G0,hp.length_eq] at this;unfold jI at this;rw [G0,G0,D1] at this;exact absurd this hne
  rw [ee];exact q
def yr:RDn:=λds h Q=> ∃d k,ds= [d,.int k]/\okD d=true/\Q (.bl (No d k)) h
theorem Wl (Z:Zs mg)(F:Fun K "is_table_row" "is_table_row" wy f fd)(Jy:ji P w K mg base n "is_whole" ["thing"] vh):FnOk P w K mg base CX0 (n+1) f fd ["thing","size"] (LSp K yr):=by
 refine F.okM yi (λhr=>(je (Wx (jpt (BF (Ww (yc (Pc (T:= "tuple") (by decide) rfl Z.isinstance rfl Z.tuple (by decide +kernel) (jv 0)))) (LQ (jt1 oq_ne (VN Z (jv 0)) (jv 1))))) (jf (zK jbl)) ze) (by exact(jf (zK (zf (WN rfl) rfl Z.all L0 (j1 (jl0 2 yi (zc (jv 0)) (λ_ _ _ _=>(Rx (jk Jy hr (j1 (jv 2))) (Qw (jc1 Br (jv 2) jR)))))))))))) ?_;rintro ds h Q ⟨d,k,rfl,ok,q⟩;refine⟨rfl,?_⟩;obtain⟨nm,hn⟩:=vM ok;simp only [Rn,CJ,FK,GJ,JP,dIs,Rk,wD,M8,J8,D5,T9,List.replicate,O9,N6,C7,E5,D.bl.injEq,DO,dC,DP,Qq,dCB,zb,vX,dOp,CM,V1,neD,K3,hn];cases d with
 |tup es=>
  cases hn;obtain⟨hl,ht⟩:=UZ ok;simp only [Lp]
  by_cases hk:(es.length:Int)=k
  ·simp only [hk];simp;refine GV (ds:=es) (h1:=h) (j:=λ_=>some es) (λx=> .bl (OR x)) (D6 (jE hl)) rfl (λR r=>⟨.tup es,rfl,r⟩) (λd hd Q' q'=> ?_) (λp hp=> ?_)
   ·obtain⟨nn,hnn⟩:=vM (ht d hd);refine⟨d,rfl,d,nn,rfl,hnn,Du d,rfl,?_⟩;cases d with
    |int i=>exact Qo ⟨.int i,rfl,q'⟩
    |_=>exact Jb q'
   ·refine⟨p,es.map OR,rfl,by rw [jc];simp,h,?_,?_⟩
    ·rw [za hp];exact Sub.refl h
    ·simpa [No,hk,F9,K7] using q
  ·simp [hk];exact⟨h,Sub.refl h,by simpa [No,hk] using q⟩
 |_=>cases hn<;>exact⟨h,Sub.refl h,q⟩
def wK:RDn:=λds h Q=> ∃d,ds= [d]/\okD d=true/\Q (.bl (CN d)) h
theorem Jw (Z:Zs mg)(F:Fun K "has_table_form" "has_table_form" zM f fd)(WF:ji P w K mg base n "is_table_row" ["thing","size"] yr)(vo: ∃tk,mg "MOST_ROWS" =some (.int 6 tk)):FnOk P w K mg base CX0 (n+1) f fd ["thing"] (LSp K wK):=by
 obtain⟨tk_MOST_ROWS,m_MOST_ROWS⟩:=vo;refine F.okM wH (λhr=>(je (Wx (jpt (BF (Ww (yc (Pc (T:= "tuple") (by decide) rfl Z.isinstance rfl Z.tuple (by decide +kernel) (jv 0)))) (LQ (Ww (BE Rq Rq jR (VN Z (jv 0)) (AS rfl m_MOST_ROWS)))))) (jf (zK jbl)) ze) (by exact(jf (zK (zf (WN rfl) rfl Z.all L0 (j1 (jl0 1 wH (zc (jv 0)) (λ_ _ _ _=>(jk WF hr (j2 (jv 1) (VN Z (jv 0))))))))))))) ?_;rintro ds h Q ⟨d,rfl,ok,q⟩;refine⟨rfl,?_⟩;obtain⟨nm,hn⟩:=vM ok;simp only [Rn,CJ,FK,GJ,JP,dIs,Rk,wD,M8,J8,D5,T9,List.replicate,O9,N6,C7,E5,D.bl.injEq,DO,dC,DP,Qq,dCB,zb,vX,Zw,CM,Bo,K3,hn];cases d with
 |tup es=>
  cases hn;obtain⟨hl,ht⟩:=UZ ok;simp only [Lp]
  by_cases h1:1<=es.length
  ·by_cases h6:es.length<=6
   ·have h1':(1:Int)<=es.length:=by omega
    have h6':(es.length:Int)<=6:=by omega
    simp [h1',h6'];refine GV (ds:=es) (h1:=h) (j:=λ_=>some es) (λx=> .bl (No x es.length)) (D6 (jE hl)) rfl (λR r=>⟨.tup es,rfl,r⟩) (λd hd Q' q'=> ?_) (λp hp=> ?_)
    ·exact⟨d,rfl,.tup es,rfl,d,es.length,rfl,ht d hd,q'⟩
    ·refine⟨p,es.map λx=>No x es.length,rfl,by rw [jc];simp,h,?_,?_⟩
     ·rw [za hp];exact Sub.refl h
     ·simpa [CN,h1,h6,F9,K7] using q
   ·have h1':(1:Int)<=es.length:=by omega
    have h6': ¬ (es.length:Int)<=6:=by omega
    simp [h1',h6'];exact⟨h,Sub.refl h,by simpa [CN,h1,h6] using q⟩
  ·have h1': ¬ (1:Int)<=es.length:=by omega
   simp [h1'];exact⟨h,Sub.refl h,by simpa [CN,h1] using q⟩
 |_=>cases hn<;>exact⟨h,Sub.refl h,q⟩
theorem Cu {x:Int}(h:0<=x):OR (.int x)=true:=P7 h
variable {e:Nat}{T:List (List Int)}
theorem Cv (h:Sq n e T){r:List Int}(hr:r∈T):No (Zb r) n=true:=by
 simp only [No,Zb,G0,h.row r hr,decide_true,G1d,F9,S8,B7];intro x hx;exact Cu (h.nn r hr x hx)
theorem Cw (h:Sq n e T)(h1:1<=n)(h6:n<=6):CN (jC T)=true:=by
 simp only [CN,jC,G0,h.len,P7 h1,P7 h6,G1d,F9,S8,B7];intro r hr;exact Cv h hr
theorem OA (h:Sq n e T)(h6:n<=6):okD (jC T)=true:=
 VS (by rw [G0,h.len];omega) λd hd=>by
  obtain⟨r,hr,rfl⟩:=R4.mp hd;exact VS (by rw [G0,h.row r hr];omega) λd hd=>by obtain⟨x,_,rfl⟩:=R4.mp hd;rfl
def jD:RDn:=λds h Q=> ∃T,∃n e:Nat,ds= [jC T]/\Sq n e T/\1<=n/\n<=6/\Q .non h
theorem YL (Z:Zs mg)(F:Fun K "want_table" "want_table" yj f fd)(JR:ji P w K mg base n "has_table_form" ["thing"] wK):FnOk P w K mg base CX0 (n+1) f fd ["thing"] (LSp K jD):=by
 refine F.okM YD (λhr=>(jf (Wx (Ww (yc (jk JR hr (j1 (jv 0))))) (jf Xz) ze))) ?_;rintro ds h Q ⟨T,k,b,rfl,hT,h1,h6,q⟩;refine⟨rfl,?_⟩;refine⟨_,rfl,jC T,rfl,OA hT h6,_,rfl,?_⟩;rw [Cw hT h1 h6];exact Jb ⟨h,Sub.refl h,q⟩
def vj:RDn:=λds h Q=> ∃ (T:List (List Int)) (S:List Nat) (n:Nat),ds= [jC T,jx S]/\T.length=n/\IsS n S/\n<=6/\Q .non h
theorem Xd (Z:Zs mg)(F:Fun K "want_set" "want_set" Jt f fd)(MK:ji P w K mg base n "is_set" ["thing","size"] VU):FnOk P w K mg base CX0 (n+1) f fd ["table","thing"] (LSp K vj):=by
 refine F.okM UW (λhr=>(jf (Wx (Ww (yc (jk MK hr (j2 (jv 1) (VN Z (jv 0)))))) (jf Xz) ze))) ?_;rintro ds h Q ⟨T,S,k,rfl,hT,hS,h6,q⟩;refine⟨rfl,?_⟩;refine⟨_,rfl,_,rfl,_,k,by rw [G0,hT],h6,.inl ⟨S,rfl,hS,_,rfl,?_⟩⟩;exact Jb ⟨h,Sub.refl h,q⟩
def vN:RDn:=λds h Q=> ∃ (T:List (List Int)) (o:List Nat) (n:Nat),ds= [jC T,jx o]/\T.length=n/\Ordr n o/\n<=6/\Q .non h
theorem YM (Z:Zs mg)(F:Fun K "want_order" "want_order" yk f fd)(Gb:ji P w K mg base n "is_order" ["thing","size"] Wk):FnOk P w K mg base CX0 (n+1) f fd ["table","thing"] (LSp K vN):=by
 refine F.okM YE (λhr=>(jf (Wx (Ww (yc (jk Gb hr (j2 (jv 1) (VN Z (jv 0)))))) (jf Xz) ze))) ?_;rintro ds h Q ⟨T,o,k,rfl,hT,ho,h6,q⟩;refine⟨rfl,?_⟩;refine⟨_,rfl,_,rfl,_,k,by rw [G0,hT],h6,.inl ⟨o,rfl,ho,_,rfl,?_⟩⟩;exact Jb ⟨h,Sub.refl h,q⟩
def Jx:RDn:=λds h Q=> ∃T,∃n e:Nat,ds= [jC T]/\Sq n e T/\n<=6/\ ∀R rs h',GB n h h' R rs (wk T n)->Q (.lst R) h'
theorem QU (Z:Zs mg)(F:Fun K "reaches" "reaches" Wd f fd):FnOk P w K mg base CX0 (n+1) f fd ["table"] (LSp K Jx):=by
 refine F.okM zF (λhr=>(je (jse 1 zF (VN Z (jv 0))) (by exact(je (LW (i:=4) (k:=2) (js:= [4]) rfl zF.nd rfl (Or.inl rfl) (wE (by rfl)) (jrg Z (jv 1)) (by decide) rfl (by first|exact Or.inl rfl|exact Or.inr rfl) (λX' hX=>ZD) (λX' hX=>by obtain⟨C,s₀,H₀,ex,rfl⟩:=hX;exact(jl0 5 zF (jrg Z (jv 1)) (λ_ _ _ _=>(jor (jc1 (ZA hr.units) (jv 4) (jv 5)) (Qw (jc1 oq_ne (ji1 (ji1 (jv 0) (jv 4)) (jv 5)) jR))))))) (by exact(je (Qx N0 rfl (jrg Z (jv 1)) (jgn 3 zF) (jf (Qx N0 rfl (jrg Z (jv 1)) (jgn 4 zF) (jf (Qx N0 rfl (jrg Z (jv 1)) (jgn 5 zF) (jf (Wx (jpt (LU (yc (ji1 (ji1 (jv 2) (jv 4)) (jv 3))) (LP (yc (ji1 (ji1 (jv 2) (jv 3)) (jv 5)))))) (jf (OM jbl (Pd (ji1 (jv 2) (jv 4)) (jv 5)))) ze))))))) (by exact(jf (zK (jv 2)))))))))) ?_;rintro ds h Q ⟨T,n,b,rfl,hT,h6,q⟩;refine⟨rfl,?_⟩;refine jh (λσ' h'=>σ'= [some (jC T),some (.int (n:Int)),none,none,none,none]/\h=h') (λC hC=>⟨_,rfl,hC _ _ ⟨by rw [G0,hT.len];rfl,rfl⟩⟩) ?_;rintro _ _ ⟨rfl,rfl⟩;refine jh (λσ' h'=> ∃R rs u v w,σ'= [some (jC T),some (.int (n:Int)),some (.lst R),u,v,w]/\GB n h h' R rs (wk T 0)) (λC hC=> ?_) ?_
 ·refine LD (h1:=h) n (λi ys h'=> ∃rs,ys=rs.map D.lst/\rs.length=i/\Sub h h'/\rs.Nodup/\ ∀m a,rs[m]? =some a->h a=none/\h' a=some ((List.range n).map λj=>D.bl (wk T 0 m j))) (by omega) (λR r=>⟨_,rfl,r⟩) ⟨[],rfl,rfl,Sub.refl h,List.nodup_nil,by simp⟩ (λi ys h' ⟨rs,e,el,_⟩=>by rw [e,G0];exact el) ?_ ?_
  ·rintro i ys h3 hi ⟨rs,rfl,lrs,sb3,nd3,rows3⟩;refine lcA (List.range n) (λj=> .int (j:Int)) (λj=> .bl (wk T 0 i j)) (by rw [D1];omega) rfl (λR r=>⟨_,rfl,(n:Int),rfl,by omega,by omega,r⟩) (λj hj Q' q'=>⟨_,rfl,_,rfl,_,rfl,?_⟩) (λp5 e5=> ?_)
   ·have hj:=P2.mp hj;have q':Q' (.bl (decide (i=j)|| !decide (ent T i j=0))) h3:=q';have ed:decide ((i:Int)=(j:Int))=decide (i=j):=by rw [T5,M9,M9];omega
    rw [ed]
    by_cases c:i=j
    ·rw [P7 c] at q' ⊢;exact Qo q'
    ·rw [S6 c] at q' ⊢;exact Jb ⟨_,rfl,_,rfl,_,ZJ hT hi,_,rfl,_,yV (hT.row _ (Sq.getRow hT hi)) hj,q'⟩
   ·refine⟨_,Sub.refl _,by omega,rs++ [p5],by rw [M0];rfl,by rw [G7,lrs];rfl,Sub.newAt sb3 e5,?_,λm a ha=> ?_⟩
    ·rw [Q0];refine⟨nd3,by simp,λa ha b hb z=> ?_⟩;rw [G2.mp hb] at z;subst z;obtain⟨m,hm⟩:=G00 ha;rw [(rows3 m _ hm).2] at e5;cases e5
    ·by_cases hm:m<rs.length
     ·rw [R3 hm] at ha;exact⟨(rows3 m a ha).1,jg (rows3 m a ha).2 e5⟩
     ·rw [P6 (by omega)] at ha;have em:m-rs.length=0:=by
       have:=(G5.mp ha).1;simp at this;omega
      rw [em] at ha;have ea:p5=a:=by simpa using ha
      subst ea;have:m=i:=by omega
      subst this;exact⟨vI sb3 e5,jc⟩
  ·rintro ys h3 ⟨rs,rfl,lrs,sb3,nd3,rows3⟩ R eR;refine hC _ _ ⟨R,rs,_,_,_,rfl,jc,lrs,λhR=> ?_,nd3,Sub.newAt sb3 eR,λi a ha=>⟨(rows3 i a ha).1,jg (rows3 i a ha).2 eR⟩⟩;obtain⟨m,hm⟩:=G00 hR;rw [(rows3 m _ hm).2] at eR;cases eR
 rintro _ h3 ⟨R,rs,u,v,w,rfl,G⟩;refine jh (λσ' h'=> ∃u v w,σ'= [some (jC T),some (.int (n:Int)),some (.lst R),u,v,w]/\GB n h h' R rs (wk T n)) (λC hC=> ?_) ?_
 ·refine wN n (λk σ' h'=> ∃u v w,σ'= [some (jC T),some (.int (n:Int)),some (.lst R),u,v,w]/\GB n h h' R rs (wk T k)) (by omega) (λR r=>⟨_,rfl,r⟩) ⟨u,v,w,rfl,G⟩ (λσ' h' z=>hC _ _ z) ?_;clear G;rintro k _ h4 hk ⟨u,v,w,rfl,G⟩;refine wN n (λi σ' h'=> ∃v w,σ'= [some (jC T),some (.int (n:Int)),some (.lst R),some (.int (k:Int)),v,w]/\GB n h h' R rs (fW T k i 0)) (by omega) (λR r=>⟨_,rfl,r⟩) ⟨v,w,rfl,G.as λx y _ _=>Cl T k x y⟩ (λσ' h' ⟨v,w,e,G⟩=>⟨_,Sub.refl _,by omega,_,v,w,e,G.as λx y hx _=>Oy T k x y hx⟩) ?_;clear G;rintro i _ h5 hi ⟨v,w,rfl,G⟩;refine wN n (λj σ' h'=> ∃w,σ'= [some (jC T),some (.int (n:Int)),some (.lst R),some (.int (k:Int)),some (.int (i:Int)),w]/\GB n h h' R rs (fW T k i j)) (by omega) (λR r=>⟨_,rfl,r⟩) ⟨w,rfl,G⟩ (λσ' h' ⟨w,e,G⟩=>⟨_,Sub.refl _,by omega,_,w,e,G.as λx y _ hy=>Ck T k i x y hy⟩) ?_;clear G;rintro j _ h6' hj ⟨w,rfl,G⟩;obtain⟨a,ha,a1,a2⟩:=G.pick hi;obtain⟨c,hc,c1,c2⟩:=G.pick hk;refine⟨_,rfl,_,rfl,_,_,G.at_,a1,_,rfl,_,_,a2,VI hk,_,rfl,?_⟩;rw [Ov];refine Vj (λz1=> ?_) λz1=> ?_
  ·refine⟨_,rfl,_,rfl,_,_,G.at_,c1,_,rfl,_,_,c2,VI hj,_,rfl,?_⟩;rw [Ow];refine Vj (λz2=> ?_) λz2=> ?_
   ·exact⟨_,rfl,_,rfl,_,_,G.at_,a1,_,rfl,a,(j:Int),_,j,rfl,rfl,a2,BZ (by rw [G0,D1];exact hj),_,Sub.refl _,by omega,_,rfl,(G.put ha).as λx y _ _=>Ox z1 z2 x y⟩
   ·exact⟨_,Sub.refl _,by omega,_,rfl,G.as λx y _ _=>Dc (λz=>z2 z.2) x y⟩
  ·exact⟨_,Sub.refl _,by omega,_,rfl,G.as λx y _ _=>Dc (λz=>z1 z.1) x y⟩
 rintro _ h4 ⟨u,v,w,rfl,G⟩;exact⟨_,rfl,_,Sub.refl _,q R rs h4 G⟩
def yt:RDn:=λds h Q=> ∃R rs h0 T,∃n:Nat,ds= [.lst R]/\GB n h0 h R rs (wk T n)/\n<=6/\ ∀A h',h A=none->h' A=some ((jZ T n).map jx)->Sub h h'->Q (.lst A) h'
theorem VV (Z:Zs mg)(F:Fun K "pieces_by" "pieces_by" vb f fd):FnOk P w K mg base CX0 (n+1) f fd ["come"] (LSp K yt):=by
 refine F.okM zt (λhr=>(je (jse 1 zt (VN Z (jv 0))) (by exact(je (jse 2 zt (Uz ye)) (by exact(je (Qx N0 rfl (jrg Z (jv 1)) (jgn 3 zt) (je (jse 4 zt (jN jW rfl Z.tuple (by decide +kernel) (j1 (jl1 5 zt (jrg Z (jv 1)) (λ_ _ _ _=>(jpt (LU (yc (ji1 (ji1 (jv 0) (jv 3)) (jv 5))) (LP (yc (ji1 (ji1 (jv 0) (jv 5)) (jv 3))))))) (λ_ _ _ _=>(jv 5)))))) (by exact(jf (Wx (jt1 (ZA hr.units) (ji1 (jv 4) jR) (jv 3)) (jf (wO (LX (jv 2) (jv 4)))) ze))))) (by exact(jf (zK (jv 2)))))))))) ?_;rintro ds h Q ⟨R,rs,h0,T,n,rfl,G,h6,q⟩;refine⟨rfl,?_⟩;refine jh (λσ' h'=>σ'= [some (.lst R),some (.int (n:Int)),none,none,none,none]/\h=h') (λC hC=> ?_) ?_
 ·exact⟨_,rfl,_,G.at_,hC _ _ ⟨by rw [G0,G.len];rfl,rfl⟩⟩
 rintro _ _ ⟨rfl,rfl⟩;refine jh (λσ' h'=> ∃A,σ'= [some (.lst R),some (.int (n:Int)),some (.lst A),none,none,none]/\h A=none/\Sub h h'/\h' A=some []) (λC hC=>⟨(by show 0<=sizeLine;decide),λA eA=>hC _ _ ⟨A,rfl,eA,Sub.newAt (Sub.refl h) eA,jc⟩⟩) ?_;rintro _ h1 ⟨A,rfl,nA,sb,kA⟩;refine jh (λσ' h'=> ∃u v w,σ'= [some (.lst R),some (.int (n:Int)),some (.lst A),u,v,w]/\Sub h h'/\h' A=some ((jZ T n).map jx)) (λC hC=> ?_) ?_
 ·refine wN n (λk σ' h'=> ∃u v w,σ'= [some (.lst R),some (.int (n:Int)),some (.lst A),u,v,w]/\Sub h h'/\h' A=some (((((List.range k).filter (λp=>decide ((pcS T n p).headD 0=p))).map (pcS T n))).map jx)) (by omega) (λR r=>⟨_,rfl,r⟩) ⟨_,_,_,rfl,sb,kA⟩ (λσ' h' z=>hC _ _ z) ?_;clear sb kA;rintro k _ h2 hk ⟨u,v,w,rfl,sb,kA⟩;have GG:=G.up sb;obtain⟨a,ha,a1,a2⟩:=GG.pick hk;refine jh (λσ' h'=> ∃w,σ'= [some (.lst R),some (.int (n:Int)),some (.lst A),some (.int (k:Int)),some (jx (pcS T n k)),w]/\h2=h') (λC hC=> ?_) ?_
  ·refine RU n (λj ys h'=>h'=h2/\ys=((List.range j).filter λi=>wk T n k i&&wk T n i k).map λ(i:Nat)=>D.int (i:Int)) (by omega) (λR r=>⟨_,rfl,r⟩) ⟨rfl,rfl⟩ (λj ys h' w=> ?_) (λj ys h' hj w=> ?_) (λys h' w=> ?_)
   ·rw [w.2,G0];exact R6 (H0 _ _) (by rw [D1];exact G6 _)
   ·obtain⟨rfl,rfl⟩:=w;obtain⟨c,hc,c1,c2⟩:=GG.pick hj;refine⟨_,rfl,_,rfl,_,_,GG.at_,a1,_,rfl,_,_,a2,VI hj,_,rfl,Vj (λz1=> ?_) λz1=> ?_⟩
    ·refine⟨_,rfl,_,rfl,_,_,GG.at_,c1,_,rfl,_,_,c2,VI hk,_,rfl,Vj (λz2=> ?_) λz2=> ?_⟩
     ·refine⟨_,rfl,_,Sub.refl _,by omega,rfl,?_⟩;rw [C6,L5,M0,V0 (by rw [z1,z2];rfl)];rfl
     ·refine⟨_,Sub.refl _,by omega,rfl,?_⟩;rw [C6,L5,M0,V2 (by rw [B2];exact λz=>z2 z.2)];simp
    ·refine⟨_,Sub.refl _,by omega,rfl,?_⟩;rw [C6,L5,M0,V2 (by rw [B2];exact λz=>z1 z.1)];simp
   ·obtain⟨rfl,rfl⟩:=w;exact hC _ _ ⟨_,rfl,rfl⟩
  rintro _ _ ⟨w',rfl,rfl⟩;obtain⟨r,er⟩:=Jn (T:=T) hk;have a0:((pcS T n k).map λ(i:Nat)=>D.int (i:Int))[0]? =some (.int (((pcS T n k).headD 0:Nat):Int)):=by
   cases z:pcS T n k with
   |nil=>rw [z] at er;cases er
   |cons x r=>rfl
  refine⟨_,rfl,_,wu (j:=0) a0,_,rfl,?_⟩;show ∃k_1,D.bl (decide ((((pcS T n k).headD 0:Nat):Int)=(k:Int)))= .bl k_1/\_;refine⟨_,rfl,Vj (λz=> ?_) λz=> ?_⟩
  ·have z:(pcS T n k).headD 0=k:=by have:=M5 z;omega
   refine⟨_,rfl,A,rfl,_,rfl,_,kA,?_,_,Sub.refl _,by omega,_,_,_,rfl,sb.over nA,?_⟩
   ·rw [G0,G0];exact jE (R6 (H0 _ _) (by rw [D1];omega))
   ·rw [jc,C6,L5,V0 (by rw [M9];exact z),List.filter_nil,M0,M0];rfl
  ·have z: ¬ (pcS T n k).headD 0=k:=λe=>z (P7 (by omega))
   refine⟨_,Sub.refl _,by omega,_,_,_,rfl,sb,?_⟩;rw [kA,C6,L5,V2 (by rw [M9];exact z),List.filter_nil,C3]
 rintro _ h4 ⟨u,v,w,rfl,sb4,k4⟩;exact⟨_,rfl,_,Sub.refl _,q A h4 nA k4 sb4⟩
variable {b:D->SD->SD->Prop}{js:List Nat}{ti:TID}{tt:TTD}{te:TED}{σ:SD}{h:HD}
theorem MC {E:EndsD}(x:wL b js ti tt te σ h λv h1=>Lq [v] h1 λy h2=> ∃c,y= .bl c/\E.rt (.bl (!c)) h2):DO (GK (dCB Lq (zb (wL b js ti tt te) vX))) E σ h:=x
theorem Dx {P:List Nat}(h:P≠ []):atI (P.map λ(k:Nat)=>D.int (k:Int)) 0=some (.int ((P.headD 0:Nat):Int)):=by
 refine wu (j:=0) ?_;cases P with
 |nil=>exact absurd rfl h
 |cons x r=>rfl
variable {Q:KD}
theorem Cy {a b:List Nat}(q:Q (.bl (!decide (a=b))) h):neE (jx a) (jx b) h Q:=⟨_,_,Jd h a,Jd h b,yA _,yA _,by rw [UG];exact q⟩
def Yd:RDn:=λds h Q=> ∃P A R rs h0 T,∃Ls:List (List Nat),∃n:Nat,ds= [jx P,.lst A,.lst R]/\GB n h0 h R rs (wk T n)/\n<=6/\h A=some (Ls.map jx)/\Ls.length<=6/\(∀o∈Ls,o≠ []/\o.headD 0<n)/\P≠ []/\P.headD 0<n/\Q (.bl (frB T n P Ls)) h
theorem QV (Z:Zs mg)(F:Fun K "is_free" "is_free" We f fd):FnOk P w K mg base CX0 (n+1) f fd ["piece","left","come"] (LSp K Yd):=by
 refine F.okM Yb (λhr=>(jf (zK (EV (zf (MX rfl) rfl Z.any (by decide +kernel) (j1 (jl1 3 Yb (zc (jv 1)) (λ_ _ _ _=>(jt1 (JD hr.units) (jv 3) (jv 0))) (λ_ _ _ _=>(ji1 (ji1 (jv 2) (ji1 (jv 3) jR)) (ji1 (jv 0) jR)))))))))) ?_;rintro ds h Q ⟨P,A,R,rs,h0,T,Ls,n,rfl,G,h6,kA,l6,lo,p0,pn,q⟩;refine⟨rfl,?_⟩;have at_: ∀o∈Ls,∃a,atI (rs.map D.lst) ((o.headD 0:Nat):Int)=some (.lst a)/\h a=some ((List.range n).map λj=>D.bl (wk T n (o.headD 0) j)):=λo ho=>by
  obtain⟨a,_,a1,a2⟩:=G.pick (lo o ho).2;exact⟨a,a1,a2⟩
 refine MC (lcF (j:=λh=>h A) Ls jx (λo=> .bl (wk T n (o.headD 0) (P.headD 0))) (λo=> !decide (o=P)) (by omega) kA (λR r=>⟨_,rfl,r⟩) (λo ho Q' q'=>⟨_,rfl,_,rfl,Cy ⟨_,rfl,q'⟩⟩) (λo ho _ Q' q'=> ?_) λB eB=> ?_)
 ·obtain⟨a,a1,a2⟩:=at_ o ho;exact⟨_,rfl,_,rfl,_,Dx (lo o ho).1,_,_,G.at_,a1,_,rfl,_,Dx p0,_,_,a2,VI pn,q'⟩
 ·refine⟨B,(Ls.filter λo=> !decide (o=P)).map λo=>wk T n (o.headD 0) (P.headD 0),rfl,by rw [jc,S0];rfl,_,rfl,?_⟩;rw [za eB,G0Q];exact⟨h,Sub.refl h,q⟩
def vO:RDn:=λds h Q=> ∃T,∃n e:Nat,ds= [jC T]/\Sq n e T/\1<=n/\n<=6/\ ∀A h',h A=none->h' A=some ((jZ T n).map jx)->Sub h h'->Q (.lst A) h'
theorem Dy (Z:Zs mg)(F:Fun K "pieces" "pieces" YF f fd)(jm:ji P w K mg base n "want_table" ["thing"] jD)(vn:ji P w K mg base n "pieces_by" ["come"] yt)(Wr:ji P w K mg base n "reaches" ["table"] Jx):FnOk P w K mg base CX0 (n+1) f fd ["table"] (LSp K vO):=by
 refine F.okM Dq (λhr=>(je (wO (jk jm hr (j1 (jv 0)))) (by exact(jf (zK (jk vn hr (j1 (jk Wr hr (j1 (jv 0)))))))))) ?_;rintro ds h Q ⟨T,n,b,rfl,hT,h1,h6,q⟩;refine⟨rfl,?_⟩;refine jh (λσ' h'=>σ'= [some (jC T)]/\h=h') (λC hC=>⟨_,rfl,T,n,b,rfl,hT,h1,h6,hC _ _ ⟨rfl,rfl⟩⟩) ?_;rintro _ _ ⟨rfl,rfl⟩;exact⟨_,rfl,T,n,b,rfl,hT,h6,λR rs h2 G=>⟨R,rs,h,T,n,rfl,G,h6,λA h3 nA kA sb=>⟨_,Sub.refl _,q A h3 (vI G.sb nA) kA ((G.sb).trans sb)⟩⟩⟩
def VW:RDn:=λds h Q=> ∃T,∃n e:Nat,ds= [jC T]/\Sq n e T/\1<=n/\n<=6/\Q (.bl (decide ((jZ T n).length=1))) h
theorem Dz (Z:Zs mg)(F:Fun K "joined" "joined" YG f fd)(wq:ji P w K mg base n "pieces" ["table"] vO):FnOk P w K mg base CX0 (n+1) f fd ["table"] (LSp K VW):=by
 refine F.okM Dr (λhr=>(jf (zK (jc1 oq_eq (VN Z (jk wq hr (j1 (jv 0)))) jR)))) ?_;rintro ds h Q ⟨T,n,b,rfl,hT,h1,h6,q⟩;refine⟨rfl,?_⟩;refine⟨_,rfl,T,n,b,rfl,hT,h1,h6,λA h2 nA kA sb=>⟨_,kA,?_⟩⟩;show ∃h0,Sub h0 h2/\Q (.bl (decide (((((jZ T n).map jx).length:Nat):Int)=1))) h0;refine⟨h,sb,?_⟩;rw [G0,show decide ((((jZ T n).length:Nat):Int)=1)=decide ((jZ T n).length=1) from by rw [T5,M9,M9];omega];exact q
variable {α:Type}
theorem Qc: ∀ {l:List α} {j:Nat} (h:j<l.length),(l[j]::l.eraseIdx j).Perm l
 |x::l,0,_=>List.Perm.refl _
 |x::l,j+1,h=>(List.Perm.swap x _ _).trans ((Qc (l:=l) (j:=j) (by simpa using h)).cons x)
theorem DA {β:Type}(f:α->β): ∀ (l:List α) (j:Nat),(l.map f).eraseIdx j=(l.eraseIdx j).map f
 | [],j=>rfl
 |x::l,0=>rfl
 |x::l,j+1=>by show f x::(l.map f).eraseIdx j=_;rw [DA f l j];rfl
theorem MD {k:Nat}{i0:Int}{E:EndsD}(x:wL b js ti tt te σ h λv h1=>ixD v (.int i0) h1 λd h2=>E.nx (σ.set k (some d)) h2):Ro k (dOp ixD (wL b js ti tt te) (dC (.int i0))) E σ h:=x
def VX:RDn:=λds h Q=> ∃T,∃n e:Nat,ds= [jC T]/\Sq n e T/\1<=n/\n<=6/\ ∀A R h',h A=none->Lad T n R->h' A=some (R.map jx)->Sub h h'->Q (.lst A) h'
theorem DB (Z:Zs mg)(F:Fun K "ladder" "ladder" YH f fd)(jm:ji P w K mg base n "want_table" ["thing"] jD)(Wr:ji P w K mg base n "reaches" ["table"] Jx)(vn:ji P w K mg base n "pieces_by" ["come"] yt)(DG:ji P w K mg base n "is_free" ["piece","left","come"] Yd):FnOk P w K mg base CX0 (n+1) f fd ["table"] (LSp K VX):=by
 refine F.okM wI (λhr=>(je (wO (jk jm hr (j1 (jv 0)))) (by exact(je (jse 1 wI (jk Wr hr (j1 (jv 0)))) (by exact(je (jse 2 wI (jk vn hr (j1 (jv 1)))) (by exact(je (jse 3 wI (Uz ye)) (by exact(je (Nb N0 (Ee (jv 2)) (je (jse 4 wI (ji1 (jl1 5 wI (zc (jv 2)) (λ_ _ _ _=>(yc (jk DG hr (j3 (jv 5) (jv 2) (jv 1))))) (λ_ _ _ _=>(jv 5))) jR)) (by exact(je (wO (LX (jv 3) (jv 4))) (by exact(jf (wO (Tk hr.units (jv 2) (jv 4))))))))) (by exact(jf (zK (jv 3)))))))))))))) ?_;rintro ds h Q ⟨T,n,b,rfl,hT,h1,h6,q⟩;refine⟨rfl,?_⟩;have h8:n<=8:=by omega
 refine jh (λσ' h'=>σ'= [some (jC T),none,none,none,none,none]/\h=h') (λC hC=>⟨_,rfl,T,n,b,rfl,hT,h1,h6,hC _ _ ⟨rfl,rfl⟩⟩) ?_;rintro _ _ ⟨rfl,rfl⟩;refine jh (λσ' h'=> ∃R rs,σ'= [some (jC T),some (.lst R),none,none,none,none]/\GB n h h' R rs (wk T n)) (λC hC=>⟨_,rfl,T,n,b,rfl,hT,h6,λR rs h' G=>hC _ _ ⟨R,rs,rfl,G⟩⟩) ?_;rintro _ h2 ⟨R,rs,rfl,G⟩;refine jh (λσ' h'=> ∃A,σ'= [some (jC T),some (.lst R),some (.lst A),none,none,none]/\h2 A=none/\h' A=some ((jZ T n).map jx)/\Sub h2 h') (λC hC=>⟨_,rfl,R,rs,h,T,n,rfl,G,h6,λA h' fA kA sb=>hC _ _ ⟨A,rfl,fA,kA,sb⟩⟩) ?_;rintro _ h3 ⟨A,rfl,fA,kA0,sb0⟩;refine jh (λσ' h'=> ∃B,σ'= [some (jC T),some (.lst R),some (.lst A),some (.lst B),none,none]/\h3 B=none/\h' B=some []/\h' A=some ((jZ T n).map jx)/\Sub h2 h') (λC hC=>⟨(by show 0<=sizeLine;decide),λB eB=>hC _ _ ⟨B,rfl,eB,jc,jg kA0 eB,sb0.newAt eB⟩⟩) ?_;rintro _ h4 ⟨B,rfl,fB,kB,kA,sb⟩;have fB2:h2 B=none:=vI sb0 fB;have nAB:A≠B:=λz=>by
  rw [<-z] at fB;rw [kA0] at fB;cases fB
 have fB1:h B=none:=vI G.sb fB2;refine jh (λσ' h'=> ∃Rs x,σ'= [some (jC T),some (.lst R),some (.lst A),some (.lst B),x,none]/\h' B=some (Rs.map jx)/\Lad T n Rs/\Sub h2 h') (λC hC=> ?_) ?_
 ·refine XG (λm σ' h'=> ∃ (Ls Rs:List (List Nat)) (x:Option D),σ'= [some (jC T),some (.lst R),some (.lst A),some (.lst B),x,none]/\m=Ls.length/\h' A=some (Ls.map jx)/\h' B=some (Rs.map jx)/\(Rs++Ls).Perm (jZ T n)/\Rs.Pairwise (λx y=>wk T n (y.headD 0) (x.headD 0)=false)/\(∀x∈Rs,∀y∈Ls,wk T n (y.headD 0) (x.headD 0)=false)/\Sub h2 h') (jZ T n).length ⟨_,[],none,rfl,rfl,kA,kB,by rw [N6],.nil,λx hx=>(by cases hx),sb⟩ ?_;clear kA kB sb;rintro m _ h5 ⟨Ls,Rs,x4,rfl,rfl,kA,kB,pm,pw,cr,sb⟩;have GG:=G.up sb;refine⟨_,rfl,!(Ls.map jx).isEmpty,⟨_,kA,rfl⟩,?_⟩
  by_cases z:Ls= []
  ·subst z;rw [C3] at pm;exact Jb (hC _ _ ⟨Rs,x4,rfl,kB,⟨pm,pw⟩,sb⟩)
  have ee:(!(Ls.map jx).isEmpty)=true:=by cases Ls with|nil=>exact absurd rfl z|cons=>rfl
  rw [ee];refine Qo ?_;have sub: ∀P∈Ls,P∈jZ T n:=λP hP=>pm.mem_iff.mp (P3 _ hP)
  have nd:Ls.Nodup:=(Q0.mp (pm.nodup_iff.mpr Wa)).2.1;have ln:=pm.length_eq;rw [G7] at ln;have pl:=YB (T:=T) (n:=n);have good: ∀o∈Ls,o≠ []/\o.headD 0<n:=λo ho=>by
   refine⟨λw=> ?_,(yC (sub o ho)).1⟩;obtain⟨p,hp,ep⟩:=mem_pcs.mp (sub o ho);obtain⟨r,er⟩:=Jn (T:=T) hp;rw [<-ep,w] at er;cases er
  obtain⟨P0,hP0,fP0⟩:=En sub z;obtain⟨P,r,eF⟩: ∃P r,Ls.filter (λP=>frB T n P Ls)=P::r:=by
   cases w:Ls.filter (λP=>frB T n P Ls) with
   |nil=>
    have:=(S2 (p:=λP=>frB T n P Ls)).mpr ⟨hP0,fP0⟩;rw [w] at this;cases this
   |cons P r=>exact⟨P,r,rfl⟩
  have mP:P∈Ls.filter (λP=>frB T n P Ls):=by rw [eF];exact P8
  obtain⟨hP,fP⟩:=S2.mp mP;have fP:=fr_iff.mp fP;refine jh (λσ' h'=>σ'= [some (jC T),some (.lst R),some (.lst A),some (.lst B),some (jx P),none]/\h' A=some (Ls.map jx)/\h' B=some (Rs.map jx)/\Sub h2 h') (λC hC=>MD ?_) ?_
  ·refine lcF (j:=λh=>h A) Ls jx jx (λP=>frB T n P Ls) (by omega) kA (λR r=>⟨_,rfl,r⟩) (λX hX Q' q'=>⟨_,rfl,_,rfl,_,rfl,X,A,R,rs,h,T,Ls,n,rfl,GG,h6,kA,by omega,good,(good X hX).1,(good X hX).2,_,rfl,q'⟩) (λX hX _ Q' q'=>⟨_,rfl,q'⟩) (λY eY=>⟨_,_,jc,?_,hC _ _ ⟨rfl,jg kA eY,jg kB eY,sb.newAt eY⟩⟩);rw [eF];exact wu (j:=0) rfl
  clear kA kB sb GG;rintro _ h6' ⟨rfl,kA,kB,sb⟩;refine jh (λσ' h'=>σ'= [some (jC T),some (.lst R),some (.lst A),some (.lst B),some (jx P),none]/\h' A=some (Ls.map jx)/\h' B=some ((Rs++ [P]).map jx)/\Sub h2 h') (λC hC=>⟨_,rfl,B,rfl,_,rfl,_,kB,?_,hC _ _ ⟨rfl,ju nAB kA,?_,sb.over fB2⟩⟩) ?_
  ·rw [G0];exact R8 (show Rs.length<100 by omega) (by decide)
  ·rw [jc,M0];rfl
  clear kA kB sb;rintro _ h7 ⟨rfl,kA,kB,sb⟩;obtain⟨j,pq,qs,zz,ej,t1,t2,c1,c2,c3,_,hz,hit,hno⟩:=Nd encO kA hP (by omega);obtain⟨hj,ejj⟩:=G5.mp ej;have pe:(P::Ls.eraseIdx j).Perm Ls:=by rw [<-ejj];exact Qc hj
  have nP:P ∉ Ls.eraseIdx j:=(O3.mp (pe.nodup_iff.mpr nd)).1;have inL: ∀y∈Ls.eraseIdx j,y∈Ls:=λy hy=>pe.mem_iff.mp (D8 _ hy)
  refine⟨_,rfl,A,rfl,_,rfl,pq,qs,_,j,zz,t1,t2,c1,c2,c3,hz,hit,hno,kA,(Ls.eraseIdx j).length,_,?_,Sub.refl _,Ls.eraseIdx j,Rs++ [P],_,rfl,rfl,?_,ju (Ne.symm nAB) kB,?_,?_,?_,sb.over fA⟩
  ·rw [List.length_eraseIdx_of_lt hj];omega
  ·rw [jc,DA]
  ·rw [G8];exact(List.Perm.append_left Rs pe).trans pm
  ·rw [R7];exact⟨pw,T4 _ _,λx hx y hy=>by rw [G2.mp hy];exact cr x hx P hP⟩
  ·intro x hx y hy;rcases D4.mp hx with w|w
   ·exact cr x w y (inL y hy)
   ·rw [G2.mp w];exact fP y (inL y hy) λe=>nP (by rw [<-e];exact hy)
 rintro _ h5 ⟨Rs,x,rfl,kB',lad,sb'⟩;exact⟨_,rfl,h5,Sub.refl _,q B Rs h5 fB1 lad kB' (G.sb.trans sb')⟩
def DD:RDn:=λds h Q=> ∃T S,∃n e:Nat,ds= [jC T,jx S]/\Sq n e T/\1<=n/\n<=6/\IsS n S/\S≠ []/\Q (jC (WB S T)) h
theorem Cz (Z:Zs mg)(F:Fun K "part" "part" Ds f fd)(jm:ji P w K mg base n "want_table" ["thing"] jD)(Jz:ji P w K mg base n "want_set" ["table","thing"] vj):FnOk P w K mg base CX0 (n+1) f fd ["table","some"] (LSp K DD):=by
 refine F.okM UX (λhr=>(je (wO (jk jm hr (j1 (jv 0)))) (by exact(je (wO (jk Jz hr (j2 (jv 0) (jv 1)))) (by exact(je (Wx (jt1 (ZA hr.units) (jv 1) (LV ye)) (jf Xz) ze) (by exact(jf (zK (jN jW rfl Z.tuple (by decide +kernel) (j1 (jl0 2 UX (zc (jv 1)) (λ_ _ _ _=>(jN jW rfl Z.tuple (by decide +kernel) (j1 (jl0 3 UX (zc (jv 1)) (λ_ _ _ _=>(ji1 (ji1 (jv 0) (jv 2)) (jv 3))))))))))))))))))) ?_;rintro ds h Q ⟨T,S,n,b,rfl,hT,h1,h6,hS,ne,q⟩;refine⟨rfl,?_⟩;refine jh (λσ' h'=>σ'= [some (jC T),some (jx S),none,none]/\h=h') (λC hC=>⟨_,rfl,T,n,b,rfl,hT,h1,h6,hC _ _ ⟨rfl,rfl⟩⟩) ?_;rintro _ _ ⟨rfl,rfl⟩;refine jh (λσ' h'=>σ'= [some (jC T),some (jx S),none,none]/\h=h') (λC hC=>⟨_,rfl,_,rfl,T,S,n,rfl,hT.len,hS,h6,hC _ _ ⟨rfl,rfl⟩⟩) ?_;rintro _ _ ⟨rfl,rfl⟩;refine jh (λσ' h'=>σ'= [some (jC T),some (jx S),none,none]/\h=h') (λC hC=>⟨_,rfl,(by show 0<=sizeLine;decide),Ch (b:= []) ne ⟨_,rfl,Jb (hC _ _ ⟨rfl,rfl⟩)⟩⟩) ?_;rintro _ _ ⟨rfl,rfl⟩;have lS:=hS.len;refine DQ S (λ(i:Nat)=> .int (i:Int)) (λi=> .tup (S.map λj=> .int (ent T i j))) (by omega) rfl (λR r=>⟨_,rfl,r⟩) (λi hi Q' q'=> ?_) ⟨h,Sub.refl h,?_⟩
 ·exact DQ S (λ(j:Nat)=> .int (j:Int)) (λj=> .int (ent T i j)) (by omega) rfl (λR r=>⟨_,rfl,r⟩) (λj hj Q'' q''=>⟨_,rfl,_,rfl,_,ZJ hT (hS.lt hi),_,rfl,_,yV (hT.row _ (Sq.getRow hT (hS.lt hi))) (hS.lt hj),q''⟩) q'
 ·have e:jC (WB S T)= .tup (S.map λi=> .tup (S.map λj=> .int (ent T i j))):=by
   unfold jC WB;rw [S0];refine congrArg D.tup (S5 λi _=> ?_);show D.tup _=_;rw [S0];rfl
  rw [e] at q;exact q
def vP:RDn:=λds h Q=> ∃T S,∃n e:Nat,ds= [jC T,jx S]/\Sq n e T/\IsS n S/\n<=6/\Q (jx (Vz n T S)) h
theorem YN (Z:Zs mg)(F:Fun K "step_after" "step_after" yl f fd):FnOk P w K mg base CX0 (n+1) f fd ["table","some"] (LSp K vP):=by
 refine F.okM wT (λhr=>(jf (zK (jN jW rfl Z.tuple (by decide +kernel) (j1 (jl1 2 wT (jrg Z (VN Z (jv 0))) (λ_ _ _ _=>(yc (zf (MX rfl) rfl Z.any (by decide +kernel) (j1 (jl0 3 wT (zc (jv 1)) (λ_ _ _ _=>(jc1 oq_ne (ji1 (ji1 (jv 0) (jv 3)) (jv 2)) jR))))))) (λ_ _ _ _=>(jv 2)))))))) ?_;rintro ds h Q ⟨T,S,k,b,rfl,hT,hS,h6,q⟩;refine⟨rfl,?_⟩;have hlen:=hS.len;refine AW (List.range k) (λj=> .int (j:Int)) (λj=> .int (j:Int)) (λj=>S.any λi=>decide (ent T i j≠0)) (by rw [D1];omega) rfl (λR r=>⟨_,rfl,(k:Int),by rw [G0,hT.len],by omega,by omega,r⟩) (λj hj Q' q'=> ?_) (λj hj hp Q' q'=>⟨_,rfl,q'⟩) ⟨h,Sub.refl h,q⟩;refine Tb S (λi=> .int (i:Int)) (λi=>decide (ent T i j≠0)) (by omega) rfl (λR r=>⟨_,rfl,r⟩) (λi hi Q'' q''=> ?_) ⟨_,rfl,q'⟩;have hi':=hS.lt hi;refine⟨_,rfl,_,rfl,_,ZJ hT hi',_,rfl,_,yV (hT.row _ (Sq.getRow hT hi')) (P2.mp hj),?_⟩;have e:(!decide (((T.getD i []).getD j 0)=0))=decide (ent T i j≠0):=by simp [ent]
 rw [<-e] at q'';exact q''
def vQ:RDn:=λds h Q=> ∃T U,∃n e f:Nat,ds= [jC T,jC U]/\Sq n e T/\Sq n f U/\e+f<=1000000/\n<=6/\Q (jC (yf n T U)) h
theorem YO (Z:Zs mg)(F:Fun K "multiplied" "multiplied" ym f fd):FnOk P w K mg base CX0 (n+1) f fd ["one","other"] (LSp K vQ):=by
 refine F.okM zA (λhr=>(je (jse 2 zA (VN Z (jv 0))) (by exact(jf (zK (jN jW rfl Z.tuple (by decide +kernel) (j1 (jl0 3 zA (zc (jv 0)) (λ_ _ _ _=>(jN jW rfl Z.tuple (by decide +kernel) (j1 (jl0 4 zA (jrg Z (jv 2)) (λ_ _ _ _=>(zf (BC rfl) rfl Z.sum (by decide +kernel) (j1 (jl0 5 zA (jrg Z (jv 2)) (λ_ _ _ _=>(jop BK (ji1 (jv 3) (jv 5)) (ji1 (ji1 (jv 1) (jv 5)) (jv 4)))))))))))))))))))) ?_;rintro ds h Q ⟨T,U,k,b,f,rfl,hT,hU,hb,h6,q⟩;refine⟨rfl,?_⟩;refine jh (λσ' h'=>σ'= [some (jC T),some (jC U),some (.int (k:Int)),none,none,none]/\h=h') (λC hC=>⟨_,rfl,hC _ _ ⟨by rw [G0,hT.len];rfl,rfl⟩⟩) ?_;rintro _ _ ⟨rfl,rfl⟩;refine DQ T Zb (λr=> .tup ((List.range k).map λj=> .int (jH k λm=>r.getD m 0*ent U m j))) (by rw [hT.len];omega) rfl (λR r=>⟨_,rfl,r⟩) (λr hr Q' q'=> ?_) ⟨h,Sub.refl h,?_⟩
 ·refine DQ (List.range k) (λj=> .int (j:Int)) (λj=> .int (jH k λm=>r.getD m 0*ent U m j)) (by rw [D1];omega) rfl (λR rr=>⟨_,rfl,(k:Int),rfl,by omega,by omega,rr⟩) (λj hj Q'' q''=> ?_) q';refine Ta (List.range k) (λm=> .int (m:Int)) (λm=>r.getD m 0*ent U m j) (by rw [D1];omega) rfl (λR rr=>⟨_,rfl,(k:Int),rfl,by omega,by omega,rr⟩) (λm hm Q3 q3=> ?_) q'';have hm':=P2.mp hm;have hj':=P2.mp hj;refine⟨_,rfl,_,rfl,_,yV (hT.row r hr) hm',_,rfl,_,rfl,_,ZJ hU hm',_,rfl,_,yV (hU.row _ (Sq.getRow hU hm')) hj',?_,q3⟩;refine Rz (e:=b) (f:=f) ?_ (hU.ent_nn hm' hj') (by omega);have hm2:m<r.length:=by rw [hT.row r hr];exact hm'
  have e1:r.getD m 0=r[m]:=by rw [D2,G1 hm2];rfl
  rw [e1];exact⟨hT.nn r hr _ (R9 hm2),hT.bit r hr _ (R9 hm2)⟩
 ·rw [RE hT];exact q
def DE:RDn:=λds h Q=> ∃T,∃n e:Nat,ds= [jC T]/\Sq n e T/\1<=n/\n<=6/\Q (.bl (zm T)) h
theorem CA (Z:Zs mg)(F:Fun K "full" "full" Dt f fd)(jm:ji P w K mg base n "want_table" ["thing"] jD):FnOk P w K mg base CX0 (n+1) f fd ["table"] (LSp K DE):=by
 refine F.okM DM (λhr=>(je (wO (jk jm hr (j1 (jv 0)))) (by exact(jf (zK (zf (WN rfl) rfl Z.all L0 (j1 (SV (i:=1) (i':=2) (js:= [1,2]) rfl (wE (by rfl)) (zc (jv 0)) (by decide) (by decide) (by decide) DM.nd rfl rfl (by first|exact Or.inl rfl|exact Or.inr rfl) (by first|exact Or.inl rfl|exact Or.inr rfl) (λX' hX=>ZD) (λX' hX=>by obtain⟨C,s₀,H₀,ex,rfl⟩:=hX;exact(zc (jv 1))) (λX' hX=>ZD) (λX' hX=>by obtain⟨C,s₀,H₀,ex,rfl⟩:=hX;exact(jc1 oq_ne (jv 2) jR)))))))))) ?_;rintro ds h Q ⟨T,k,b,rfl,hT,h1,h6,q⟩;refine⟨rfl,?_⟩;refine jh (λσ' h'=>σ'= [some (jC T),none,none]/\h=h') (λC hC=>⟨_,rfl,T,k,b,rfl,hT,h1,h6,hC _ _ ⟨rfl,rfl⟩⟩) ?_;rintro _ _ ⟨rfl,rfl⟩;refine Tc T Zb (λr=>r) D.int (λ_ x=>decide (x≠0)) (RD hT h6) rfl (λR r=>⟨_,rfl,r⟩) (λr hr R rr=>⟨_,rfl,rr⟩) (λr hr x hx Q' q'=>⟨_,rfl,?_⟩) ⟨h,Sub.refl h,q⟩;show Q' (.bl (!decide (x=0))) h;have e:(!decide (x=0))=decide (x≠0):=by simp
 rw [e];exact q'
def Zh:RDn:=λds h Q=> ∃T,∃n e:Nat,ds= [jC T]/\Sq n e T/\1<=n/\n<=6/\Q (jC (jB n T)) h
theorem ME (Z:Zs mg)(F:Fun K "marks" "marks" UY f fd)(jm:ji P w K mg base n "want_table" ["thing"] jD):FnOk P w K mg base CX0 (n+1) f fd ["table"] (LSp K Zh):=by
 refine F.okM YI (λhr=>(je (wO (jk jm hr (j1 (jv 0)))) (by exact(jf (zK (jN jW rfl Z.tuple (by decide +kernel) (j1 (jl0 1 YI (zc (jv 0)) (λ_ _ _ _=>(jN jW rfl Z.tuple (by decide +kernel) (j1 (jl0 2 YI (zc (jv 1)) (λ_ _ _ _=>(jif (jt1 oq_ne (jv 2) jR) jR jR)))))))))))))) ?_;rintro ds h Q ⟨T,k,b,rfl,hT,h1,h6,q⟩;refine⟨rfl,?_⟩;refine jh (λσ' h'=>σ'= [some (jC T),none,none]/\h=h') (λC hC=>⟨_,rfl,T,k,b,rfl,hT,h1,h6,hC _ _ ⟨rfl,rfl⟩⟩) ?_;rintro _ _ ⟨rfl,rfl⟩;refine DQ T Zb (λr=> .tup (r.map λx=> .int (if x≠0 then 1 else 0))) (by rw [hT.len];omega) rfl (λR r=>⟨_,rfl,r⟩) (λr hr Q' q'=> ?_) ⟨h,Sub.refl h,?_⟩
 ·refine DQ r D.int (λx=> .int (if x≠0 then 1 else 0)) (by rw [hT.row r hr];omega) rfl (λR r=>⟨_,rfl,r⟩) (λx hx Q'' q''=>⟨_,rfl,_,rfl,?_⟩) q'
  by_cases z:x=0
  ·subst z;exact Jb q''
  ·have e:(!decide (x=0))=true:=by simp [z]
   rw [e];rw [if_pos z] at q'';exact Qo q''
 ·rw [BM,<-BN hT];exact q
def Wm:RDn:=λds h Q=> ∃T,∃n e:Nat,ds= [jC T]/\Sq n e T/\1<=n/\n<=6/\Q (jC (vz n T)) h
theorem DF (Z:Zs mg)(F:Fun K "turned" "turned" YJ f fd)(jm:ji P w K mg base n "want_table" ["thing"] jD):FnOk P w K mg base CX0 (n+1) f fd ["table"] (LSp K Wm):=by
 refine F.okM Wf (λhr=>(je (wO (jk jm hr (j1 (jv 0)))) (by exact(jf (zK (jN jW rfl Z.tuple (by decide +kernel) (j1 (jl0 1 Wf (jrg Z (VN Z (jv 0))) (λ_ _ _ _=>(jN jW rfl Z.tuple (by decide +kernel) (j1 (jl0 2 Wf (zc (jv 0)) (λ_ _ _ _=>(ji1 (jv 2) (jv 1))))))))))))))) ?_;rintro ds h Q ⟨T,k,b,rfl,hT,h1,h6,q⟩;refine⟨rfl,?_⟩;refine jh (λσ' h'=>σ'= [some (jC T),none,none]/\h=h') (λC hC=>⟨_,rfl,T,k,b,rfl,hT,h1,h6,hC _ _ ⟨rfl,rfl⟩⟩) ?_;rintro _ _ ⟨rfl,rfl⟩;refine DQ (List.range k) (λj=> .int (j:Int)) (λj=> .tup (T.map λr=> .int (r.getD j 0))) (by rw [D1];omega) rfl (λR r=>⟨_,rfl,(k:Int),by rw [G0,hT.len],by omega,by omega,r⟩) (λj hj Q' q'=> ?_) ⟨h,Sub.refl h,?_⟩
 ·refine DQ T Zb (λr=> .int (r.getD j 0)) (by rw [hT.len];omega) rfl (λR r=>⟨_,rfl,r⟩) (λr hr Q'' q''=>⟨_,rfl,_,rfl,_,yV (hT.row r hr) (P2.mp hj),q''⟩) q'
 ·have e1: ∀j,T.map (λr=>D.int (r.getD j 0))=(List.range k).map λi=>D.int (ent T i j):=λj=>by
   conv=>lhs;rw [zR T [],hT.len]
   rw [S0];rfl
  have e2:((List.range k).map λj=>D.tup (T.map λr=> .int (r.getD j 0)))=(List.range k).map λj=>D.tup ((List.range k).map λi=>D.int (ent T i j)):=S5 λj _=>by rw [e1]
  rw [e2,Na];exact q
def Ye:RDn:=λds h Q=> ∃T,∃n e:Nat,∃o,ds= [jC T,jx o]/\Sq n e T/\Ordr n o/\1<=n/\n<=6/\Q (jC (Va n o T)) h
theorem QX (Z:Zs mg)(F:Fun K "renamed" "renamed" Wg f fd)(jm:ji P w K mg base n "want_table" ["thing"] jD)(Ui:ji P w K mg base n "want_order" ["table","thing"] vN):FnOk P w K mg base CX0 (n+1) f fd ["table","order"] (LSp K Ye):=by
 refine F.okM wJ (λhr=>(je (wO (jk jm hr (j1 (jv 0)))) (by exact(je (wO (jk Ui hr (j2 (jv 0) (jv 1)))) (by exact(je (jse 2 wJ (jl0 3 wJ (jrg Z (VN Z (jv 0))) (λ_ _ _ _=>(SX (jv 1) (jv 3))))) (by exact(jf (zK (jN jW rfl Z.tuple (by decide +kernel) (j1 (jl0 4 wJ (zc (jv 2)) (λ_ _ _ _=>(jN jW rfl Z.tuple (by decide +kernel) (j1 (jl0 5 wJ (zc (jv 2)) (λ_ _ _ _=>(ji1 (ji1 (jv 0) (jv 4)) (jv 5))))))))))))))))))) ?_;rintro ds h Q ⟨T,k,b,o,rfl,hT,ho,h1,h6,q⟩;refine⟨rfl,?_⟩;refine jh (λσ' h'=>σ'= [some (jC T),some (jx o),none,none,none,none]/\h=h') (λC hC=>⟨_,rfl,T,k,b,rfl,hT,h1,h6,hC _ _ ⟨rfl,rfl⟩⟩) ?_;rintro _ _ ⟨rfl,rfl⟩;refine jh (λσ' h'=>σ'= [some (jC T),some (jx o),none,none,none,none]/\h=h') (λC hC=>⟨_,rfl,_,rfl,T,o,k,rfl,hT.len,ho,h6,hC _ _ ⟨rfl,rfl⟩⟩) ?_;rintro _ _ ⟨rfl,rfl⟩;have lt: ∀i,i∈List.range k->o.idxOf i<k:=λi hi=>ho.ord.lt (P2.mp hi)
 refine jh (λσ' h'=> ∃p,σ'= [some (jC T),some (jx o),some (.lst p),none,none,none]/\h p=none/\h'=zC h p ((List.range k).map λi=> .int ((o.idxOf i:Nat):Int))) (λC hC=> ?_) ?_
 ·refine lcA (List.range k) (λj=> .int (j:Int)) (λi=> .int ((o.idxOf i:Nat):Int)) (by rw [D1];omega) rfl (λR r=>⟨_,rfl,(k:Int),by rw [G0,hT.len],by omega,by omega,r⟩) (λi hi Q' q'=> ?_) (λp hp=>hC _ _ ⟨p,rfl,hp,rfl⟩);refine⟨_,rfl,jI o,Yy o,_,rfl,(i:Int),rfl,RC (ho.mem_iff.mpr hi),?_⟩;rw [RB];exact q'
 rintro _ _ ⟨p,rfl,hp,rfl⟩;refine DQ (j:=λh=>h p) (List.range k) (λi=> .int ((o.idxOf i:Nat):Int)) (λi=> .tup ((List.range k).map λj=> .int (ent T (o.idxOf i) (o.idxOf j)))) (by rw [D1];omega) jc (λR r=>⟨_,rfl,r⟩) (λi hi Q' q'=> ?_) ⟨h,Sub.newAt (Sub.refl h) hp,?_⟩
 ·refine DQ (j:=λh=>h p) (List.range k) (λi=> .int ((o.idxOf i:Nat):Int)) (λj=> .int (ent T (o.idxOf i) (o.idxOf j))) (by rw [D1];omega) jc (λR r=>⟨_,rfl,r⟩) (λj hj Q'' q''=> ?_) q';exact⟨_,rfl,_,rfl,_,ZJ hT (lt i hi),_,rfl,_,yV (hT.row _ (Sq.getRow hT (lt i hi))) (lt j hj),q''⟩
 ·rw [Na];exact q
def yL:RDn:=λds h Q=> ∃M T,∃n e:Nat,ds= [jC M,jC T]/\Sq n 1 M/\Sq n e T/\1<=n/\n<=6/\e<=1000/\Q (jC (mk1 n T M)) h
theorem WD (Z:Zs mg)(F:Fun K "marks_after" "marks_after" wU f fd)(Wq:ji P w K mg base n "marks" ["table"] Zh)(Ug:ji P w K mg base n "multiplied" ["one","other"] vQ):FnOk P w K mg base CX0 (n+1) f fd ["ahead","table"] (LSp K yL):=by
 refine F.okM WC (λhr=>(jf (zK (jk Wq hr (j1 (jk Ug hr (j2 (jv 0) (jv 1)))))))) ?_;rintro ds h Q ⟨M,T,n,b,rfl,hM,hT,h1,h6,hb,q⟩;refine⟨rfl,?_⟩;exact⟨_,rfl,_,rfl,M,T,n,1,b,rfl,hM,hT,by omega,h6,yf n M T,n,_,rfl,hM.mul hT (by omega),h1,h6,h,Sub.refl h,q⟩
def wd:RDn:=λds h Q=> ∃T,∃n e:Nat,ds= [jC T]/\Sq n e T/\1<=n/\n<=6/\e<=1000/\ ∀A L J h',h A=none->h' A=some ((List.range L).map λi=>jC (wQ n T i))->Sub h h'->Course n T L J->L<=2225->Q (.tup [.lst A,.int ((J:Nat):Int)]) h'
theorem vk (Z:Zs mg)(F:Fun K "marks_and_return" "marks_and_return" zB f fd)(Wq:ji P w K mg base n "marks" ["table"] Zh)(vU:ji P w K mg base n "marks_after" ["ahead","table"] yL):FnOk P w K mg base CX0 (n+1) f fd ["table"] (LSp K wd):=by
 refine F.okM jV (λhr=>(je (jse 1 jV (Uz (j1 (jk Wq hr (j1 (jv 0)))))) (by exact(je (jse 2 jV (jk vU hr (j2 (ji1 (jv 1) (SW jR)) (jv 0)))) (by exact(je (Nb N0 (LL (RS hr.units) (jv 2) (jv 1) (by with_unfolding_all rfl)) (je (wO (LX (jv 1) (jv 2))) (by exact(jf (jse 2 jV (jk vU hr (j2 (jv 2) (jv 0)))))))) (by exact(jf (zK (LV (j2 (jv 1) (Te hr.units (jv 1) (jv 2))))))))))))) ?_;rintro ds h Q ⟨T,n,bb,rfl,hT,h1,h6,hb,q⟩;refine⟨rfl,?_⟩;refine jh (λσ' h'=> ∃A,σ'= [some (jC T),some (.lst A),none]/\h A=none/\h' A=some ((List.range 1).map λi=>jC (wQ n T i))/\Sub h h') (λC hC=>⟨_,rfl,T,n,bb,rfl,hT,h1,h6,(by show 1<=sizeLine;decide),λA eA=>hC _ _ ⟨A,rfl,eA,jc,Sub.newAt (Sub.refl h) eA⟩⟩) ?_;rintro _ h1' ⟨A,rfl,fA,kA,sbA⟩;refine jh (λσ' h'=>σ'= [some (jC T),some (.lst A),some (jC (wQ n T 1))]/\h1'=h') (λC hC=>⟨_,rfl,_,_,kA,Pw (by decide),_,rfl,wQ n T 0,T,n,bb,rfl,UH n T 0,hT,h1,h6,hb,hC _ _ ⟨rfl,rfl⟩⟩) ?_;rintro _ _ ⟨rfl,rfl⟩;refine jh (λσ' h'=> ∃L,σ'= [some (jC T),some (.lst A),some (jC (wQ n T L))]/\h' A=some ((List.range L).map λi=>jC (wQ n T i))/\Sub h h'/\L<=2225/\((List.range L).map (wQ n T)).Nodup/\wQ n T L∈(List.range L).map (wQ n T)) (λC hC=> ?_) ?_
 ·refine XG (λm σ' h'=> ∃L,σ'= [some (jC T),some (.lst A),some (jC (wQ n T L))]/\h' A=some ((List.range L).map λi=>jC (wQ n T i))/\Sub h h'/\m=2226-L/\((List.range L).map (wQ n T)).Nodup) _ ⟨_,rfl,kA,sbA,rfl,by simp⟩ ?_;rintro m _ h2 ⟨L,rfl,kA2,sb2,hm,nd⟩;have hL:=Py hT h1 h6 nd;have kA3:h2 A=some (((List.range L).map (wQ n T)).map jC):=by rw [kA2,S0];rfl
  refine⟨_,rfl,_,rfl,Oe EY kA3 λbo hbo=>⟨_,rfl,Vj (λc=> ?_) (λc=> ?_)⟩⟩
  rotate_left
  ·refine hC _ _ ⟨L,rfl,kA2,sb2,hL,nd,hbo.mp ?_⟩;cases bo with
   |true=>rfl
   |false=>exact absurd rfl c
  have hni:wQ n T L ∉ (List.range L).map (wQ n T):=λz=>by rw [hbo.mpr z] at c;exact absurd c (by decide)
  refine jh (λσ' h'=>σ'= [some (jC T),some (.lst A),some (jC (wQ n T L))]/\h' A=some ((List.range (L+1)).map λi=>jC (wQ n T i))/\Sub h h') (λC2 hC2=> ?_) ?_
  ·refine⟨_,rfl,A,rfl,_,rfl,_,kA2,?_,hC2 _ _ ⟨rfl,?_,?_⟩⟩
   ·rw [G0,D1];exact M6 hL (by decide)
   ·rw [jc,C6,M0];rfl
   ·exact(sb2).over fA
  rintro _ h3 ⟨rfl,kA4,sb4⟩;refine⟨_,rfl,_,rfl,wQ n T L,T,n,bb,rfl,UH n T L,hT,h1,h6,hb,2226-(L+1),_,by omega,Sub.refl _,L+1,rfl,kA4,sb4,rfl,?_⟩;rw [C6,M0,Q0];exact⟨nd,by simp,λx hx y hy=>by rw [G2.mp (show y∈ [wQ n T L] from hy)];intro e;exact hni (e ▸ hx)⟩
 rintro _ h3 ⟨L,rfl,kA3,sb3,hL,nd,hin⟩;have kA4:h3 A=some (((List.range L).map (wQ n T)).map jC):=by rw [kA3,S0];rfl
 obtain⟨J,pd,ps,zz,hat,t1,t2,c1,c2,c3,c4,c5,c6,c7⟩:=Nd EY kA4 hin (by simp;omega);have hJL:J<L:=by have:=(G5.mp hat).1;simpa using this
 have hJe:wQ n T L=wQ n T J:=by
  rw [P9,N7 hJL] at hat;injection hat with hat
  exact hat.symm
 exact⟨_,rfl,_,rfl,A,rfl,_,rfl,pd,ps,J,zz,t1,t2,c1,c2,c3,c4,c5,c6,c7,(by show 2<=sizeLine;decide),h3,Sub.refl _,q A L J h3 fA kA3 sb3 ⟨nd,hJL,hJe⟩ hL⟩
def JJ:RDn:=λds h Q=> ∃T,∃n e:Nat,ds= [jC T]/\Sq n e T/\1<=n/\n<=6/\e<=1000/\ ∀A L J h',h A=none->h' A=some ((List.range L).map λi=>jC (wQ n T i))->Sub h h'->Course n T L J->L<=2225->Q (.lst A) h'
theorem VY (Z:Zs mg)(F:Fun K "all_marks" "all_marks" vc f fd)(vV:ji P w K mg base n "marks_and_return" ["table"] wd):FnOk P w K mg base CX0 (n+1) f fd ["table"] (LSp K JJ):=by
 refine F.okM VP (λhr=>(jf (zK (ji1 (jk vV hr (j1 (jv 0))) jR)))) ?_;rintro ds h Q ⟨T,n,bb,rfl,hT,h1,h6,hb,q⟩;refine⟨rfl,?_⟩;exact⟨_,rfl,T,n,bb,rfl,hT,h1,h6,hb,λA L J h' fA kA sb c hL=>⟨_,rfl,h',Sub.refl _,q A L J h' fA kA sb c hL⟩⟩
def Fst (n:Nat)(T:List (List Int)):Option Nat->Prop
 |none=> ∀k,1<=k->zm (zl n T k)=false
 |some k=>1<=k/\k<=30/\zm (zl n T k)=true/\ ∀j,1<=j->j<k->zm (zl n T j)=false
def To:Option Nat->D
 |none=> .non
 |some k=> .int (k:Int)
section
variable {n e:Nat}{T:List (List Int)}
theorem OB (h:Sq n e T)(n1:1<=n)(h6:n<=6): ∃o,Fst n T o:=by
 by_cases z: ∃k,1<=k/\zm (zl n T k)=true
 ·obtain⟨K,hK,f⟩:=z;obtain⟨k,k1,k30,fk⟩:=Th h n1 h6 hK f;clear f hK
  induction k using Nat.strongRecOn with
  |_ k ih=>
   by_cases w: ∃j,1<=j/\j<k/\zm (zl n T j)=true
   ·obtain⟨j,j1,jk,fj⟩:=w;exact ih j jk j1 (by omega) fj
   ·exact⟨some k,k1,k30,fk,λj j1 jk=>by
     cases hf:zm (zl n T j) with
     |false=>rfl
     |true=>exact absurd ⟨j,j1,jk,hf⟩ w⟩
 ·exact⟨none,λk hk=>by
   cases hf:zm (zl n T k) with
   |false=>rfl
   |true=>exact absurd ⟨k,hk,hf⟩ z⟩
theorem CB {o:Option Nat}(ho:Fst n T o){i:Nat}(hi:zm (zl n T (i+1))=true)(lo: ∀m,m<i->zm (zl n T (m+1))=false):o=some (i+1):=by
 cases o with
 |none=>have:=ho (i+1) (by omega);rw [hi] at this;cases this
 |some k=>
  obtain⟨k1,k30,fk,fl⟩:=ho;have a: ¬ (i+1<k):=λz=>by have:=fl (i+1) (by omega) z;rw [hi] at this;cases this
  have b: ¬ (k<i+1):=λz=>by have:=lo (k-1) (by omega);rw [show k-1+1=k by omega,fk] at this;cases this
  rw [show k=i+1 by omega]
theorem MF {o:Option Nat}(ho:Fst n T o)(lo: ∀m,m<30->zm (zl n T (m+1))=false):o=none:=by
 cases o with
 |none=>rfl
 |some k=>
  obtain⟨k1,k30,fk,fl⟩:=ho;have:=lo (k-1) (by omega);rw [show k-1+1=k by omega,fk] at this;cases this
theorem YQ (h:Sq n e T)(hn:n<=8)(i:Nat):zm (wQ n T i)=zm (zl n T (i+1)):=by rw [Zd h hn,Pi (h.pow hn _)]
end
def yM:RDn:=λds h Q=> ∃T,∃n e:Nat,∃o,ds= [jC T]/\Sq n e T/\1<=n/\n<=6/\e<=1000/\Fst n T o/\Q (To o) h
theorem WE (Z:Zs mg)(F:Fun K "first_power" "first_power" wV f fd)(Xi:ji P w K mg base n "all_marks" ["table"] JJ)(OE:ji P w K mg base n "full" ["table"] DE):FnOk P w K mg base CX0 (n+1) f fd ["table"] (LSp K yM):=by
 refine F.okM yO (λhr=>(je (Qx N0 rfl (RY rfl Z.enumerate (j1 (jk Xi hr (j1 (jv 0))))) (MZ (i:=1) (j:=2) rfl yO.nd rfl rfl (Or.inl rfl) (Or.inl rfl)) (jf (Wx (yc (jk OE hr (j1 (jv 2)))) (jf (zK (jop wg (jv 1) jR))) ze))) (by exact(jf (zK ET))))) ?_;rintro ds h Q ⟨T,k,b,o,rfl,hT,h1,h6,hb,ho,q⟩;refine⟨rfl,?_⟩;have hn:k<=8:=by omega
 refine jh (λσ' h'=>o=none/\Sub h h') (λC hC=> ?_) ?_
 ·refine⟨_,rfl,T,k,b,rfl,hT,h1,h6,hb,λA L J h' fA kA sb hc hL=>⟨A,rfl,?_⟩⟩;refine Zz (j:=λh=>(h A).map Pq) (Pq ((List.range L).map λi=>jC (wQ k T i))) (λi σ' h2=> ∃a b',σ'= [some (jC T),a,b']/\h'=h2/\ ∀m,m<i->zm (zl k T (m+1))=false) (λi σ' h2 ⟨_,_,_,e,_⟩=>by rw [<-e];show (h' A).map Pq=_;rw [kA];rfl) ⟨none,none,rfl,rfl,λm hm=>absurd hm (Nat.not_lt_zero _)⟩ ?_ ?_
  ·rintro σ' h2 ⟨a,b',e,eh,lo⟩;rw [yW,G0,D1] at lo;refine hC _ _ ⟨MF ho λm _=> ?_,eh ▸ sb⟩
   by_cases z:m<L
   ·exact lo m z
   ·have lt:=hc.lt;rw [<-YQ hT hn m,<-Of hc (show J<=m by omega),YQ hT hn];exact lo _ (by have:=G0v (m-J) (show 0<L-J by omega);omega)
  rintro i d _ _ hd ⟨a,b',rfl,rfl,lo⟩;obtain⟨x,hx,rfl⟩:=XF hd;have hil:i+1<=(Pq ((List.range L).map λi=>jC (wQ k T i))).length:=(G5.mp hd).1;have hiL:i<L:=by rw [yW,G0,D1] at hil;exact hil
  rw [P9,N7 hiL] at hx;injection hx with hx
  subst hx;refine⟨_,_,rfl,_,rfl,wQ k T i,k,1,rfl,UH k T i,h1,h6,_,rfl,?_⟩;rw [YQ hT hn];cases hf:zm (zl k T (i+1)) with
  |true=>
   refine Qo ⟨_,rfl,h,sb,?_⟩;rw [CB ho hf lo] at q;exact q
  |false=>
   refine Jb ⟨_,Sub.refl _,hil,_,_,rfl,rfl,λm hm=> ?_⟩
   by_cases z:m=i
   ·subst z;exact hf
   ·exact lo m (by omega)
 rintro _ h2 ⟨e,sb⟩;subst e;exact⟨h,sb,q⟩
def we:RDn:=λds h Q=> ∃T S,∃n e:Nat,ds= [jC T,jx S]/\Sq n e T/\IsS n S/\n<=6/\Q (.bl (yZ n T S)) h
theorem Wn (Z:Zs mg)(F:Fun K "keeps_arrows" "keeps_arrows" wz f fd)(Uh:ji P w K mg base n "step_after" ["table","some"] vP):FnOk P w K mg base CX0 (n+1) f fd ["table","some"] (LSp K we):=by
 refine F.okM yn (λhr=>(jf (zK (zf (WN rfl) rfl Z.all L0 (j1 (jl0 2 yn (zc (jk Uh hr (j2 (jv 0) (jv 1)))) (λ_ _ _ _=>(EU (AY hr.units) (jv 2) (jv 1) (by with_unfolding_all rfl))))))))) ?_;rintro ds h Q ⟨T,S,n,b,rfl,hT,hS,h6,q⟩;refine⟨rfl,?_⟩;have l:=Da (n:=n) (T:=T) (S:=S);exact EW (j:=λ_=>some ((Vz n T S).map λ(k:Nat)=>D.int (k:Int))) (Vz n T S) (λ(k:Nat)=> .int (k:Int)) (λj=>decide (j∈S)) (by omega) rfl (λR r=>⟨_,rfl,_,rfl,T,S,n,b,rfl,hT,hS,h6,r⟩) (λj hj Q' q'=>⟨_,rfl,_,rfl,Ci q'⟩) ⟨h,Sub.refl h,q⟩
def Wo:RDn:=λds h Q=> ∃n:Nat,ds= [.int (n:Int)]/\n<=6/\ ∀A h',h' A=some ((WA n).map jx)->Sub h h'->Q (.lst A) h'
theorem Xe (Z:Zs mg)(F:Fun K "all_sets" "all_sets" Ju f fd):FnOk P w K mg base CX0 (n+1) f fd ["size"] (LSp K Wo):=by
 refine F.okM wc (λhr=>(je (jse 1 wc (Uz (j1 (LV ye)))) (by exact(je (Qx N0 rfl (jrg Z (jv 0)) (jgn 2 wc) (jf (jse 1 wc (jop wg (jv 1) (jl0 3 wc (zc (jv 1)) (λ_ _ _ _=>(jop wg (jv 3) (LV (j1 (jv 2)))))))))) (by exact(jf (zK (zf (wG hr) rfl Z.sorted (by decide +kernel) (j1 (jv 1)))))))))) ?_;rintro ds h Q ⟨n,rfl,h6,q⟩;refine⟨rfl,?_⟩;refine jh (λσ' h'=> ∃A,σ'= [some (.int (n:Int)),some (.lst A),none,none]/\h' A=some ((zL 0).map jx)/\Sub h h') (λC hC=>⟨(by show 0<=sizeLine;decide),(by show 1<=sizeLine;decide),λA eA=>hC _ _ ⟨A,rfl,jc,Sub.newAt (Sub.refl h) eA⟩⟩) ?_;rintro _ h2 ⟨A0,rfl,kA0,sb0⟩;refine jh (λσ' h'=> ∃A a b,σ'= [some (.int (n:Int)),some (.lst A),a,b]/\h' A=some ((zL n).map jx)/\Sub h h') (λC hC=> ?_) ?_
 ·refine wN n (λt σ' h'=> ∃A a b,σ'= [some (.int (n:Int)),some (.lst A),a,b]/\h' A=some ((zL t).map jx)/\Sub h h') (by omega) (λR r=>⟨_,rfl,r⟩) ⟨A0,none,none,rfl,kA0,sb0⟩ (λσ' h' z=>hC _ _ z) ?_;clear kA0 sb0;rintro t _ h3 ht ⟨A,a,b,rfl,kA,sb⟩;have l64:(zL t).length<=64:=by rw [vG];exact A5 (by decide) (show t<=6 by omega)
  refine⟨_,rfl,?_⟩;refine lcA (j:=λh=>h A) (zL t) jx (λS=>jx (S++ [t])) (by omega) kA (λR r=>⟨_,rfl,r⟩) (λS hS Q' q'=>⟨_,rfl,_,rfl,(by show 1<=sizeLine;decide),?_,?_⟩) (λF eF=> ?_)
  ·have:=(vH hS).len;rw [G0];exact D6 (jE (by simp only [D5,T9];omega))
  ·have:jx (S++ [t])= .tup ((S.map λ(k:Nat)=>D.int (k:Int))++ [.int (t:Int)]):=by unfold jx;rw [List.map_append];rfl
   rw [this] at q';exact q'
  ·refine⟨_,_,jg kA eF,jc,?_,λp3 e3=>⟨_,Sub.refl _,by omega,p3,_,_,rfl,?_,(((sb).newAt eF).newAt e3)⟩⟩
   ·rw [G0,G0];exact D6 (jE (by omega))
   ·rw [jc];show _=some ((zL t++(zL t).map λS=>S++ [t]).map jx);rw [M0,S0];rfl
 rintro _ h3 ⟨A,a,b,rfl,kA,sb⟩;refine⟨_,rfl,A,(zL n).map toI,rfl,?_,?_,λp mss hp pm sr=>⟨_,Sub.refl _,q p _ (by rw [jc,yg pm sr];rfl) (Sub.newAt sb hp)⟩⟩
 ·rw [kA,S0];exact congrArg some (S5 λS _=>(PX S).symm)
 ·rw [G0,vG];exact M6 (A5 (by decide) h6) (by decide)
def Yf:RDn:=λds h Q=> ∃T S,∃n e:Nat,ds= [jC T,jx S]/\Sq n e T/\1<=n/\n<=6/\IsS n S/\Q (.bl (yZ n T S)) h
theorem QY (Z:Zs mg)(F:Fun K "is_shut" "is_shut" Wh f fd)(jm:ji P w K mg base n "want_table" ["thing"] jD)(Jz:ji P w K mg base n "want_set" ["table","thing"] vj)(wA:ji P w K mg base n "keeps_arrows" ["table","some"] we):FnOk P w K mg base CX0 (n+1) f fd ["table","some"] (LSp K Yf):=by
 refine F.okM QP (λhr=>(je (wO (jk jm hr (j1 (jv 0)))) (by exact(je (wO (jk Jz hr (j2 (jv 0) (jv 1)))) (by exact(jf (zK (jk wA hr (j2 (jv 0) (jv 1)))))))))) ?_;rintro ds h Q ⟨T,S,n,b,rfl,hT,h1,h6,hS,q⟩;refine⟨rfl,?_⟩;refine jh (λσ' h'=>σ'= [some (jC T),some (jx S)]/\h=h') (λC hC=>⟨_,rfl,T,n,b,rfl,hT,h1,h6,hC _ _ ⟨rfl,rfl⟩⟩) ?_;rintro _ _ ⟨rfl,rfl⟩;refine jh (λσ' h'=>σ'= [some (jC T),some (jx S)]/\h=h') (λC hC=>⟨_,rfl,_,rfl,T,S,n,rfl,hT.len,hS,h6,hC _ _ ⟨rfl,rfl⟩⟩) ?_;rintro _ _ ⟨rfl,rfl⟩;exact⟨_,rfl,_,rfl,T,S,n,b,rfl,hT,hS,h6,h,Sub.refl h,q⟩
def JK:RDn:=λds h Q=> ∃T,∃n e:Nat,ds= [jC T]/\Sq n e T/\1<=n/\n<=6/\ ∀A h',h A=none->h' A=some (((WA n).filter (yZ n T)).map jx)->Sub h h'->Q (.lst A) h'
theorem VZ (Z:Zs mg)(F:Fun K "shut_sets" "shut_sets" vd f fd)(jm:ji P w K mg base n "want_table" ["thing"] jD)(Ga:ji P w K mg base n "all_sets" ["size"] Wo)(wA:ji P w K mg base n "keeps_arrows" ["table","some"] we):FnOk P w K mg base CX0 (n+1) f fd ["table"] (LSp K JK):=by
 refine F.okM JF (λhr=>(je (wO (jk jm hr (j1 (jv 0)))) (by exact(jf (zK (jl1 1 JF (zc (jk Ga hr (j1 (VN Z (jv 0))))) (λ_ _ _ _=>(yc (jk wA hr (j2 (jv 0) (jv 1))))) (λ_ _ _ _=>(jv 1)))))))) ?_;rintro ds h Q ⟨T,n,b,rfl,hT,h1,h6,q⟩;refine⟨rfl,?_⟩;refine jh (λσ' h'=>σ'= [some (jC T),none]/\h=h') (λC hC=>⟨_,rfl,T,n,b,rfl,hT,h1,h6,hC _ _ ⟨rfl,rfl⟩⟩) ?_;rintro _ _ ⟨rfl,rfl⟩;have l64:=Ml h6;refine RA ⟨_,rfl,n,by rw [G0,hT.len],h6,λA h2 kA sb=> ?_⟩;refine lcF (j:=λh=>h A) (WA n) jx jx (yZ n T) (by omega) kA (λR r=>r) (λS hS Q' q'=>⟨_,rfl,_,rfl,T,S,n,b,rfl,hT,setsS_mem.mp hS,h6,_,rfl,q'⟩) (λS hS _ Q' q'=>⟨_,rfl,q'⟩) (λF eF=>⟨_,Sub.refl _,q F _ (vI sb eF) jc (Sub.newAt sb eF)⟩)
def JL:RDn:=λds h Q=> ∃ns k,ds= [.scr ns,.int k]/\0<=k/\ ∀n,Q (.int n) h
theorem Ua (Z:Zs mg)(F:Fun K "_law_cell" "_law_cell" ve f fd):FnOk P w K mg base CX0 (n+1) f fd ["_law_script","_law_k"] (LSp K JL):=by
 refine F.okM VQ (λhr=>(je (Wx (jt1 Bq (jv 1) (VN Z (jv 0))) (jf (zK (ji1 (jv 0) (jv 1)))) ze) (by exact(jf (zK jR))))) ?_;rintro ds h Q ⟨ns,k,rfl,h0,q⟩;refine⟨rfl,?_⟩;simp only [Rn,CJ,JP,dOp,Rk,wD,M8,J8,D5,T9,O9,N6,V1,C7,E5,dCB,zb,vX,CM,Bo,D.bl.injEq,DO,ixD,DP,K3,Qq,dC];refine Vj (λc=> ?_) (λ_=>⟨h,Sub.refl h,q 0⟩);have c':k<(ns.length:Int):=M5 c;have hk:k.toNat<ns.length:=by omega
 have ek:k=((k.toNat:Nat):Int):=by omega
 have z:=wu (G1 hk);rw [<-ek] at z;exact⟨ns[k.toNat],z,h,Sub.refl h,q _⟩
def Wp:RDn:=λds h Q=> ∃c,ds= [.int c]/\ ∀p l fl,h p=none->0<=l->(fl=0\/fl=1)->Q (.lst p) (zC h p [.int l,.int fl])
theorem Xf (Z:Zs mg)(F:Fun K "_law_pen" "_law_pen" Jv f fd):FnOk P w K mg base CX0 (n+1) f fd ["_law_cell_here"] (LSp K Wp):=by
 refine F.okM Wi (λhr=>(je (jse 1 Wi (zf (Lo rfl) rfl Z.max (by decide +kernel) (j2 (jv 0) (jop GP jR (jv 0))))) (by exact(jf (zK (Uz (j2 (jv 1) (jN MW rfl Z.int (by decide +kernel) (j1 (jc1 Br (jv 1) (jop MV jR jR))))))))))) ?_;rintro ds h Q ⟨c,rfl,q⟩;refine⟨rfl,?_⟩;simp only [Rn,Ro,dCB,zb,Rk,wD,M8,J8,D5,T9,List.replicate,O9,N6,C7,E5,dOp,dC,EK,vX,AJ,DO,FJ,List.set_cons_succ,List.set_cons_zero,V1,EM,Bo,AI,DP,K3];refine⟨⟨by decide,by decide,by decide⟩,by decide,λp hp=>⟨_,Sub.refl _,q p _ _ hp ?_ ?_⟩⟩
 ·split<;>omega
 ·split<;>simp<;>omega
def wo:RDn:=λds h Q=> ∃p l fl m,ds= [.lst p,.int m]/\h p=some [.int l,.int fl]/\0<=l/\0<m/\m<2^200/\ ∀r l',0<=r->r<m->0<=l'->Q (.int r) (zC h p [.int l',.int fl])
theorem Ub (Z:Zs mg)(F:Fun K "_law_draw" "_law_draw" vf f fd):FnOk P w K mg base CX0 (n+1) f fd ["_law_pen_here","_law_many"] (LSp K wo):=by
 refine F.okM wr (λhr=>(je (Wx (jt1 oq_eq (ji1 (jv 0) jR) jR) (je (OM (zf QD rfl Z.divmod (by decide +kernel) (j2 (ji1 (jv 0) jR) (jv 1))) (MZ (i:=2) (j:=3) rfl wr.nd rfl rfl (Or.inl rfl) (Or.inl rfl))) (by exact(je (OM (jv 2) (Pd (jv 0) jR)) (by exact(jf (zK (jv 3))))))) ze) (by exact(je (jse 4 wr (jop Zx (jop Yt (jop wg (jop Zx (ji1 (jv 0) jR) jR) jR) jR) jR)) (by exact(je (jse 4 wr (jop Zx (jop wg (jop Yt (jv 4) (jv 4)) jR) jR)) (by exact(je (OM (jop Zx (jop wg (jop Yt (jv 4) jR) jR) jR) (Pd (jv 0) jR)) (by exact(jf (zK (jop Zx (jop Bp (ji1 (jv 0) jR) jR) (jv 1))))))))))))) ?_;rintro ds h Q ⟨p,l,fl,m,rfl,hp,h0,hm,hm2,q⟩;refine⟨rfl,?_⟩;refine jh (λσ' h'=>σ'= [some (.lst p),some (.int m),none,none,none]/\h=h') (λC hC=>⟨_,rfl,_,_,hp,rfl,?_⟩) ?_
 ·show ∃k,D.bl (decide (fl=1))= .bl k/\_;refine⟨_,rfl,Vj (λ_=> ?_) λ_=>hC _ _ ⟨rfl,rfl⟩⟩;exact⟨_,rfl,_,_,hp,rfl,_,rfl,_,_,rfl,⟨hm,hm2⟩,_,_,rfl,_,rfl,_,rfl,p,0,_,0,rfl,rfl,hp,rfl,_,rfl,_,Sub.refl _,q (l%m) (l / m) (Y7 _ (Int.ne_of_gt hm)) (G0f _ hm) (Int.ediv_nonneg h0 (Int.le_of_lt hm))⟩
 rintro _ _ ⟨rfl,rfl⟩;refine jh (λσ' h'=> ∃z:Int,σ'= [some (.lst p),some (.int m),none,none,some (.int z)]/\(0<=z/\z<2147483629)/\h=h') (λC hC=>⟨_,rfl,_,_,hp,rfl,by decide,.inr ⟨by decide,by decide⟩,by decide,hC _ _ ⟨_,rfl,⟨Y7 _ (by decide),G0f _ (by decide)⟩,rfl⟩⟩) ?_;rintro _ _ ⟨z,rfl,⟨z0,z1⟩,rfl⟩;refine jh (λσ' h'=> ∃y:Int,σ'= [some (.lst p),some (.int m),none,none,some (.int y)]/\h=h') (λC hC=>⟨_,rfl,_,rfl,.inl ⟨Int.lt_of_lt_of_le (by decide) z0,Int.lt_trans z1 (by decide)⟩,by decide,hC _ _ ⟨_,rfl,rfl⟩⟩) ?_;rintro _ _ ⟨y,rfl,rfl⟩;refine jh (λσ' h'=> ∃x:Int,σ'= [some (.lst p),some (.int m),none,none,some (.int y)]/\0<=x/\h'=zC h p [.int x,.int fl]) (λC hC=>⟨_,rfl,.inr ⟨by decide,by decide⟩,by decide,_,rfl,p,0,_,0,rfl,rfl,hp,rfl,hC _ _ ⟨_,rfl,Y7 _ (by decide),rfl⟩⟩) ?_;rintro _ _ ⟨x,rfl,x0,rfl⟩;exact⟨_,rfl,_,_,jc,rfl,⟨by decide,by decide⟩,_,rfl,hm,_,Sub.refl _,q (x / 32%m) x (Y7 _ (Int.ne_of_gt hm)) (G0f _ hm) x0⟩
def JM:RDn:=λds h Q=> ∃p l fl,ds= [.lst p]/\h p=some [.int l,.int fl]/\0<=l/\ ∀ (k:Nat) l',1<=k->k<=6->0<=l'->Q (.int (k:Int)) (zC h p [.int l',.int fl])
theorem Uc (Z:Zs mg)(F:Fun K "_law_size" "_law_size" vg f fd)(jO:ji P w K mg base n "_law_draw" ["_law_pen_here","_law_many"] wo):FnOk P w K mg base CX0 (n+1) f fd ["_law_pen_here"] (LSp K JM):=by
 refine F.okM VR (λhr=>(jf (zK (ji1 (Uz (jac jR (by exact(jac jR (by exact(jac jR (by exact(jac jR (by exact(jac jR (by exact(jac jR (by exact(jac jR (by exact(jac jR (by exact(j4 jR jR jR jR)))))))))))))))))) (jk jO hr (j2 (jv 0) jR)))))) ?_;rintro ds h Q ⟨p,l,fl,rfl,hp,h0,q⟩;refine⟨rfl,?_⟩;simp only [DO,dOp,FJ,zb,dC,vX,D5,T9,dCB,Rk,wD,M8,J8,O9,N6,C7,E5,ixD,DP,K3];refine⟨by decide,λp1 e1=>⟨p,l,fl,12,rfl,jg hp e1,h0,by decide,by decide,λr l' r0 r1 l0=> ?_⟩⟩;obtain⟨d,hd,ed⟩:=Ux (xs:= [D.int 1,D.int 2,D.int 3,D.int 4,D.int 5,D.int 3,D.int 4,D.int 2,D.int 6,D.int 5,D.int 4,D.int 3]) r0 r1;refine⟨_,d,ju (jY hp e1) jc,ed,_,Sub.both (Sub.newAt (Sub.refl h) e1),?_⟩;have q': ∀k:Nat,1<=k->k<=6->Q (.int (k:Int)) (zC h p [.int l',.int fl]):=λk a b=>q k l' a b l0
 simp only [R5,N8,G0y] at hd;rcases hd with e|e|e|e|e|e|e|e|e|e|e|e<;>subst e
 ·exact q' 1 (by decide) (by decide)
 ·exact q' 2 (by decide) (by decide)
 ·exact q' 3 (by decide) (by decide)
 ·exact q' 4 (by decide) (by decide)
 ·exact q' 5 (by decide) (by decide)
 ·exact q' 3 (by decide) (by decide)
 ·exact q' 4 (by decide) (by decide)
 ·exact q' 2 (by decide) (by decide)
 ·exact q' 6 (by decide) (by decide)
 ·exact q' 5 (by decide) (by decide)
 ·exact q' 4 (by decide) (by decide)
 ·exact q' 3 (by decide) (by decide)
def vR:RDn:=λds h Q=> ∃p l fl,∃k:Nat,ds= [.lst p,.int (k:Int)]/\h p=some [.int l,.int fl]/\0<=l/\1<=k/\k<=6/\ ∀T l',GoodTab k T->0<=l'->Q (jC T) (zC h p [.int l',.int fl])
theorem YR (Z:Zs mg)(F:Fun K "_law_table" "_law_table" yo f fd)(jO:ji P w K mg base n "_law_draw" ["_law_pen_here","_law_many"] wo):FnOk P w K mg base CX0 (n+1) f fd ["_law_pen_here","_law_size_here"] (LSp K vR):=by
 refine F.okM jy (λhr=>(je (AT (i:=2) (j:=3) rfl jy.nd rfl rfl (by decide) rfl rfl (j2 (jk jO hr (j2 (jv 0) jR)) (ji1 (Uz (j3 jR jR jR)) (jk jO hr (j2 (jv 0) jR)))) rfl) (by exact(je (jse 4 jy (ji1 (Uz (j4 jR jR jR (jop MV jR jR))) (jk jO hr (j2 (jv 0) jR)))) (by exact(je (jse 5 jy (Uz ye)) (by exact(je (Qx N0 rfl (jrg Z (jv 1)) (jgn 6 jy) (je (jse 7 jy (Uz ye)) (by exact(je (Qx N0 rfl (jrg Z (jv 1)) (jgn 8 jy) (je (jse 9 jy (jc1 oq_eq (jk jO hr (j2 (jv 0) (jv 3))) jR)) (by exact(je (Wx (jt1 Bq (jv 2) jR) (jf (jse 9 jy (jor (jc1 oq_eq (jv 8) (jop Zx (jop wg (jv 6) jR) (jv 1))) (Qw (Rx (jv 9) (Qw (jc1 (ZA hr.units) (jk jO hr (j2 (jv 0) jR)) (jv 2)))))))) ze) (by exact(je (Wx (jt1 oq_eq (jv 2) jR) (jf (jse 9 jy (jor (Rx (jv 9) (Qw (jc1 oq_eq (jop Zx (jop GP (jv 8) (jv 6)) jR) jR))) (Qw (jc1 (ZA hr.units) (jv 8) (jop wg (jv 6) jR)))))) ze) (by exact(je (Wx (jt1 oq_eq (jv 2) jR) (jf (jse 9 jy (Rx (jv 9) (Qw (jc1 Br (jv 8) (jv 6)))))) ze) (by exact(jf (wO (LX (jv 7) (jop Yt (jN MW rfl Z.int (by decide +kernel) (j1 (jv 9))) (jop wg jR (jk jO hr (j2 (jv 0) (jv 4))))))))))))))))) (by exact(jf (wO (LX (jv 5) (jN cq_tuple rfl Z.tuple (by decide +kernel) (j1 (jv 7))))))))))) (by exact(jf (zK (jN cq_tuple rfl Z.tuple (by decide +kernel) (j1 (jv 5)))))))))))))) ?_;rintro ds h Q ⟨p,l,fl,k,rfl,hp,h0,hk1,hk6,q⟩;refine⟨rfl,?_⟩;refine jh (λσ' h'=> ∃way o l2,σ'= [some (.lst p),some (.int (k:Int)),some (.int way),some (.int o),none,none,none,none,none,none]/\0<o/\o<1000/\0<=l2/\h' p=some [.int l2,.int fl]/\But p h h') (λC hC=>⟨_,rfl,p,l,fl,6,rfl,hp,h0,by decide,by decide,λway l1 w0 w1 l10=>⟨(by show 3<=sizeLine;decide),λp1 e1=>⟨_,rfl,p,l1,fl,3,rfl,jg jc e1,l10,by decide,by decide,λr l2 r0 r1 l20=> ?_⟩⟩⟩) ?_
 ·obtain⟨oft,ho,eo⟩:=Ux (xs:= [D.int 2,D.int 3,D.int 5]) r0 r1;obtain⟨o,e,o1,o2⟩: ∃o:Int,oft= .int o/\0<o/\o<1000:=by
   simp only [R5,N8,G0y] at ho;rcases ho with e|e|e<;>exact⟨_,e,by decide,by decide⟩
  subst e;exact⟨_,_,ju (jY jc e1) jc,eo,_,_,rfl,hC _ _ ⟨way,o,l2,rfl,o1,o2,l20,jc,((But.upd).new e1).put⟩⟩
 rintro _ h1 ⟨way,o,l2,rfl,o1,o2,l20,kA,bA⟩;refine jh (λσ' h'=> ∃m l3,σ'= [some (.lst p),some (.int (k:Int)),some (.int way),some (.int o),some (.int m),none,none,none,none,none]/\0<m/\m<=1000000/\0<=l3/\h' p=some [.int l3,.int fl]/\But p h h') (λC hC=>⟨⟨by decide,by decide,by decide⟩,(by show 4<=sizeLine;decide),λp1 e1=>⟨_,rfl,p,l2,fl,4,rfl,jg kA e1,l20,by decide,by decide,λr l3 r0 r1 l30=> ?_⟩⟩) ?_
 ·obtain⟨most,ho,eo⟩:=Ux (xs:= [D.int 1,D.int 1,D.int 3,D.int (10^Int.toNat 6)]) r0 r1;obtain⟨m,e,m1,m2⟩: ∃o:Int,most= .int o/\0<o/\o<=1000000:=by
   simp only [R5,N8,G0y] at ho;rcases ho with e|e|e|e<;>exact⟨_,e,by decide,by decide⟩
  subst e;exact⟨_,_,ju (jY kA e1) jc,eo,hC _ _ ⟨m,l3,rfl,m1,m2,l30,jc,(bA.new e1).put⟩⟩
 clear kA bA;rintro _ h2 ⟨m,l3,rfl,m1,m2,l30,kB,bB⟩;refine jh (λσ' h'=> ∃R,σ'= [some (.lst p),some (.int (k:Int)),some (.int way),some (.int o),some (.int m),some (.lst R),none,none,none,none]/\R≠p/\h R=none/\h' R=some []/\h' p=some [.int l3,.int fl]/\But p h h') (λC hC=>⟨(by show 0<=sizeLine;decide),λR eR=>hC _ _ ⟨R,rfl,jY kB eR,GZ bB eR (jY kB eR),jc,jg kB eR,bB.new eR⟩⟩) ?_;clear kB bB;rintro _ h3 ⟨R,rfl,nR,fR,kR,kC,bC⟩;refine jh (λσ' h'=> ∃a b c d l4 rows,σ'= [some (.lst p),some (.int (k:Int)),some (.int way),some (.int o),some (.int m),some (.lst R),a,b,c,d]/\0<=l4/\h' p=some [.int l4,.int fl]/\h' R=some (rows.map Zb)/\But p h h'/\GoodTab k rows) (λC hC=> ?_) (λσ' h' ⟨a,b,c,d,l4,rows,e,l40,kD,kE,bD,g⟩=>by subst e;exact⟨_,rfl,_,kE,_,bD.sub kD,q rows l4 g l40⟩);refine wN k (λi σ' h'=> ∃a b c d l4 rows,σ'= [some (.lst p),some (.int (k:Int)),some (.int way),some (.int o),some (.int m),some (.lst R),a,b,c,d]/\0<=l4/\h' p=some [.int l4,.int fl]/\h' R=some (rows.map Zb)/\But p h h'/\rows.length=i/\ ∀r∈rows,UA k r) (by omega) (λR' r=>⟨_,rfl,r⟩)
  ⟨none,none,none,none,l3,[],rfl,l30,kC,kR,bC,rfl,λr hr=>nomatch hr⟩ (λσ' h' z=>hC _ _ z) ?_
 clear kC kR bC;rintro i _ h4 hi ⟨a,b,c,d,l4,rows,rfl,l40,kD,kE,bD,g1,g2⟩;refine jh (λσ' h'=> ∃S,σ'= [some (.lst p),some (.int (k:Int)),some (.int way),some (.int o),some (.int m),some (.lst R),some (.int (i:Int)),some (.lst S),c,d]/\S≠p/\S≠R/\h S=none/\h' S=some []/\h' p=some [.int l4,.int fl]/\h' R=some (rows.map Zb)/\But p h h') (λC hC=>⟨(by show 0<=sizeLine;decide),λS eS=>hC _ _ ⟨S,rfl,jY kD eS,jY kE eS,GZ bD eS (jY kD eS),jc,jg kD eS,jg kE eS,bD.new eS⟩⟩) ?_;clear kD kE bD;rintro _ h5 ⟨S,rfl,nS,nSR,fS,kS,kD,kE,bD⟩;refine jh (λσ' h'=> ∃c d l5 row,σ'= [some (.lst p),some (.int (k:Int)),some (.int way),some (.int o),some (.int m),some (.lst R),some (.int (i:Int)),some (.lst S),c,d]/\0<=l5/\h' p=some [.int l5,.int fl]/\h' R=some (rows.map Zb)/\h' S=some (row.map D.int)/\But p h h'/\UA k row) (λC hC=> ?_) ?_
 rotate_left
 ·rintro _ h6 ⟨c,d,l5,row,rfl,l50,kD,kE,kF,bD,g⟩;refine⟨_,rfl,R,rfl,_,rfl,_,kF,_,kE,?_,_,Sub.refl _,by omega,_,_,_,_,l5,rows++ [row],rfl,l50,ju (Ne.symm nR) kD,?_,bD.putNew fR,by rw [G7,g1];rfl,?_⟩
  ·rw [G0];exact M6 (show rows.length<=1000 by omega) (by decide)
  ·rw [jc,M0];rfl
  ·intro r hr;rcases D4.mp hr with z|z
   ·exact g2 r z
   ·rw [G2.mp z];exact g
 refine wN k (λj σ' h'=> ∃c d l5 row,σ'= [some (.lst p),some (.int (k:Int)),some (.int way),some (.int o),some (.int m),some (.lst R),some (.int (i:Int)),some (.lst S),c,d]/\0<=l5/\h' p=some [.int l5,.int fl]/\h' R=some (rows.map Zb)/\h' S=some (row.map D.int)/\But p h h'/\row.length=j/\ ∀x∈row,0<=x/\x<=1000000) (by omega) (λR' r=>⟨_,rfl,r⟩)
  ⟨_,_,l4,[],rfl,l40,kD,kE,kS,bD,rfl,λr hr=>nomatch hr⟩ (λσ' h' z=>hC _ _ z) ?_
 clear kD kE kS bD;rintro j _ h6 hj ⟨c,d,l5,row,rfl,l50,kD,kE,kF,bD,g1',g2'⟩;refine jh (λσ' h'=> ∃ (g:Bool) (l6:Int),σ'= [some (.lst p),some (.int (k:Int)),some (.int way),some (.int o),some (.int m),some (.lst R),some (.int (i:Int)),some (.lst S),some (.int (j:Int)),some (.bl g)]/\0<=l6/\h' p=some [.int l6,.int fl]/\h' R=some (rows.map Zb)/\h' S=some (row.map D.int)/\But p h h') (λC hC=>⟨_,rfl,_,rfl,p,l5,fl,o,rfl,kD,l50,o1,by omega,λr l6 r0 r1 l60=>hC _ _ ⟨_,l6,rfl,l60,jc,ju nR kE,ju nS kF,bD.put⟩⟩) ?_;clear kD kE kF bD;rintro _ _ ⟨g,l6,rfl,l60,kD,kE,kF,bD⟩;refine jh (λσ' h'=> ∃ (g:Bool) (l6:Int),σ'= [some (.lst p),some (.int (k:Int)),some (.int way),some (.int o),some (.int m),some (.lst R),some (.int (i:Int)),some (.lst S),some (.int (j:Int)),some (.bl g)]/\0<=l6/\h' p=some [.int l6,.int fl]/\h' R=some (rows.map Zb)/\h' S=some (row.map D.int)/\But p h h') (λC hC=>⟨_,rfl,_,rfl,Vj (λ_=>⟨_,rfl,_,rfl,_,rfl,by omega,_,rfl,Vj (λ_=>hC _ _ ⟨_,l6,rfl,l60,kD,kE,kF,bD⟩) λ_=>⟨_,rfl,_,rfl,Vj (λ_=>⟨_,rfl,p,l6,fl,2,rfl,kD,l60,by decide,by decide,λr l7 r0 r1 l70=>⟨_,rfl,hC _ _ ⟨_,l7,rfl,l70,jc,ju nR kE,ju nS kF,bD.put⟩⟩⟩) λ_=>hC _ _ ⟨_,l6,rfl,l60,kD,kE,kF,bD⟩⟩⟩) λ_=>hC _ _ ⟨_,l6,rfl,l60,kD,kE,kF,bD⟩⟩) ?_;clear kD kE kF bD;rintro _ _ ⟨g,l6,rfl,l60,kD,kE,kF,bD⟩;refine jh (λσ' h'=> ∃ (g:Bool) (l6:Int),σ'= [some (.lst p),some (.int (k:Int)),some (.int way),some (.int o),some (.int m),some (.lst R),some (.int (i:Int)),some (.lst S),some (.int (j:Int)),some (.bl g)]/\0<=l6/\h' p=some [.int l6,.int fl]/\h' R=some (rows.map Zb)/\h' S=some (row.map D.int)/\But p h h') (λC hC=>⟨_,rfl,_,rfl,Vj (λ_=>⟨_,rfl,_,rfl,Vj (λ_=>⟨_,rfl,_,rfl,by decide,_,rfl,Vj (λ_=>hC _ _ ⟨_,l6,rfl,l60,kD,kE,kF,bD⟩) λ_=>⟨_,rfl,_,rfl,hC _ _ ⟨_,l6,rfl,l60,kD,kE,kF,bD⟩⟩⟩) λ_=>⟨_,rfl,Vj (λ_=>hC _ _ ⟨_,l6,rfl,l60,kD,kE,kF,bD⟩) λ_=>⟨_,rfl,_,rfl,hC _ _ ⟨_,l6,rfl,l60,kD,kE,kF,bD⟩⟩⟩⟩) λ_=>hC _ _ ⟨_,l6,rfl,l60,kD,kE,kF,bD⟩⟩) ?_;clear kD kE kF bD;rintro _ _ ⟨g,l6,rfl,l60,kD,kE,kF,bD⟩;refine jh (λσ' h'=> ∃ (g:Bool) (l6:Int),σ'= [some (.lst p),some (.int (k:Int)),some (.int way),some (.int o),some (.int m),some (.lst R),some (.int (i:Int)),some (.lst S),some (.int (j:Int)),some (.bl g)]/\0<=l6/\h' p=some [.int l6,.int fl]/\h' R=some (rows.map Zb)/\h' S=some (row.map D.int)/\But p h h') (λC hC=>⟨_,rfl,_,rfl,Vj (λ_=>⟨_,rfl,_,rfl,Vj (λ_=>⟨_,rfl,_,rfl,hC _ _ ⟨_,l6,rfl,l60,kD,kE,kF,bD⟩⟩) λ_=>hC _ _ ⟨_,l6,rfl,l60,kD,kE,kF,bD⟩⟩) λ_=>hC _ _ ⟨_,l6,rfl,l60,kD,kE,kF,bD⟩⟩) ?_;clear kD kE kF bD;rintro _ _ ⟨g,l6,rfl,l60,kD,kE,kF,bD⟩;have gi: ∀x r:Int,0<=r->r<m->x=0\/x=1->CMul x (1+r)/\0<=x*(1+r)/\x*(1+r)<=1000000:=λx r r0 r1 hx=>by
  rcases hx with e|e<;>subst e
  ·exact⟨.inl ⟨by decide,by decide⟩,by omega,by omega⟩
  ·exact⟨.inl ⟨by decide,by decide⟩,by omega,by omega⟩
 refine⟨_,rfl,S,rfl,_,rfl,_,rfl,_,rfl,p,l6,fl,m,rfl,kD,l60,m1,by omega,λr l7 r0 r1 l70=> ?_⟩;have gg:=gi (if g=true then 1 else 0) r r0 r1 (by cases g<;>decide);refine⟨gg.1,_,ju nS kF,?_,_,Sub.refl _,by omega,_,_,l7,row++ [(if g=true then 1 else 0)*(1+r)],rfl,l70,ju (Ne.symm nS) jc,ju (Ne.symm nSR) (ju nR kE),?_,(bD.put).putNew fS,by rw [G7,g1'];rfl,?_⟩
 ·rw [G0];exact M6 (show row.length<=1000 by omega) (by decide)
 ·rw [jc,M0];rfl
 ·intro x hx;rcases D4.mp hx with z|z
  ·exact g2' x z
  ·rw [G2.mp z];exact gg.2
def vS:RDn:=λds h Q=> ∃p l fl,∃k:Nat,ds= [.lst p,.int (k:Int)]/\h p=some [.int l,.int fl]/\0<=l/\k<=6/\ ∀o l',Ordr k o->0<=l'->Q (jx o) (zC h p [.int l',.int fl])
theorem YS (Z:Zs mg)(F:Fun K "_law_order" "_law_order" yp f fd)(jO:ji P w K mg base n "_law_draw" ["_law_pen_here","_law_many"] wo):FnOk P w K mg base CX0 (n+1) f fd ["_law_pen_here","_law_many"] (LSp K vS):=by
 refine F.okM wW (λhr=>(je (jse 2 wW (Uz ye)) (by exact(je (Qx N0 rfl (jrg Z (jv 1)) (jgn 3 wW) (jf (wO (SY (jv 2) (jk jO hr (j2 (jv 0) (jop wg (jv 3) jR))) (jv 3))))) (by exact(jf (zK (jN cq_tuple rfl Z.tuple (by decide +kernel) (j1 (jv 2)))))))))) ?_;rintro ds h Q ⟨p,l,fl,k,rfl,hp,h0,hk,q⟩;refine⟨rfl,?_⟩;refine jh (λσ' h'=> ∃R,σ'= [some (.lst p),some (.int (k:Int)),some (.lst R),none]/\R≠p/\h R=none/\h' R=some []/\h' p=some [.int l,.int fl]/\But p h h') (λC hC=> ?_) ?_
 ·exact⟨(by show 0<=sizeLine;decide),λR eR=>hC _ _ ⟨R,rfl,jY hp eR,eR,jc,jg hp eR,(But.refl p h).new eR⟩⟩
 rintro σ' h1 ⟨R,rfl,nR,fR,kR,kp,bt⟩;refine jh (λσ' h'=> ∃a l2 o,σ'= [some (.lst p),some (.int (k:Int)),some (.lst R),a]/\0<=l2/\Ordr k o/\h' R=some (o.map λ(i:Nat)=>D.int (i:Int))/\h' p=some [.int l2,.int fl]/\But p h h') (λC hC=> ?_) ?_
 ·refine wN k (λi σ' h'=> ∃a l2 o,σ'= [some (.lst p),some (.int (k:Int)),some (.lst R),a]/\0<=l2/\Ordr i o/\h' R=some (o.map λ(i:Nat)=>D.int (i:Int))/\h' p=some [.int l2,.int fl]/\But p h h') (by omega) (λR' r=>⟨_,rfl,r⟩) ⟨none,l,[],rfl,h0,List.Perm.nil,kR,kp,bt⟩ (λσ' h' z=>hC _ _ z) ?_;rintro i _ h2 hi ⟨a,l2,o,rfl,l20,ho,kR2,kp2,bt2⟩;refine⟨_,rfl,R,rfl,_,rfl,_,rfl,p,l2,fl,(i:Int)+1,rfl,kp2,l20,by omega,by omega,λr l3 r0 r1 l30=> ?_⟩;have lo:o.length=i:=ho.ord.len;refine⟨_,rfl,r.toNat,_,by rw [Int.toNat_of_nonneg r0],by omega,ju nR kR2,?_,_,Sub.refl _,by omega,_,l3,o.take r.toNat++i::o.drop r.toNat,rfl,l30,ho.insert r.toNat,?_,ju (Ne.symm nR) jc,(bt2.put).putNew fR⟩
  ·rw [G0];exact M6 (show o.length<=1000 by omega) (by decide)
  ·rw [jc,M0,M8,List.map_take,G0z]
 rintro _ h3 ⟨a,l2,o,rfl,l20,ho,kR3,kp3,bt3⟩;exact⟨_,rfl,_,kR3,_,bt3.sub kp3,q o l2 ho l20⟩
theorem MG {a b:Int}{c:Bool}(e:decide (a=b)=c)(q:Q (.bl c) h):eqD (.int a) (.int b) h Q:=by
 subst e;exact q
theorem Zi {α:Type}{l l':List (List α)}(h:l.Sublist l'):l.flatten.Sublist l'.flatten:=by
 induction h with
 |slnil=>exact .slnil
 |cons a _ ih=>exact ih.trans (List.sublist_append_right a _)
 |cons_cons a _ ih=>exact(List.Sublist.refl a).append ih
theorem MJ (xs:List α){i:Nat}(hi:i<=xs.length):WO xs (some (i:Int)) none=xs.drop i:=by
 unfold WO;rw [HT.NJ,HT.Rc,O4 hi];exact R0 (by rw [S4];exact G6 _)
theorem CC {k:Nat}(h:Sq n e T)(hn:n<=8)(n1:1<=n)(ho:Fst n T (some k)):(jZ T n).length=1:=(UR h hn n1 (K:=k) λm hm i j hi hj=>by
 have:=UC h hn ho.1 ho.2.2.1 (m-k);rw [show k+(m-k)=m by omega] at this;exact(Cb h hn).mp this i j hi hj).1
theorem Np {a b:Bool}(e:a=b)(q:Q (.bl false) h):neE (.bl a) (.bl b) h Q:=by
 subst e;show Q (.bl (!decide (a=a))) h;rw [P7 rfl];exact q
theorem CF {k:Nat}{r:RDn}{E:EndsD}(x:wL b js ti tt te σ h λv h1=>r [v] h1 λy h2=>E.nx (σ.set k (some y)) h2):Ro k (dCB r (zb (wL b js ti tt te) vX)) E σ h:=x
theorem CG {r:RDn}(x:wL b js ti tt te σ h λv h1=>r [v] h1 λy h2=>Xw [y] h2 Q):dCB Xw (zb (dCB r (zb (wL b js ti tt te) vX)) vX) σ h Q:=x
theorem lcK {i:Nat}{j:ItD}(xs:List α)(c g:α->D)(hz:xs.length<=1000)(hj:j h=some (xs.map c))(ht: ∀R:ItD->HD->Prop,R j h->ti σ h R)
 (he: ∀x∈xs,∀Q':KD,(∀h',Sub h h'->Q' (g x) h')->te ((jJ js σ).set i (some (c x))) h Q')(hq: ∀p,h p=none->Q (.lst p) (zC h p (xs.map g))):wL (bN i) js ti yR te σ h Q:=by
 refine ht _ ⟨xs.length,λk ys h'=>h'=h/\ys=(xs.take k).map g,⟨rfl,by simp⟩,?_⟩;rintro k ys h' ⟨rfl,rfl⟩;refine⟨by simp only [G0,R1];exact D6 (jE (by omega)),xs.map c,hj,by simp,λhl p hp=> ?_,λd hd=>⟨_,rfl,?_⟩⟩
 ·rw [R0 (by simpa using hl)];exact hq p hp
 ·unfold yR;dsimp only;rw [if_pos rfl];rw [P9] at hd;obtain⟨x,hx,rfl⟩:=O5.mp hd;refine he x (G9 hx) _ λh2 s=>⟨h',s,rfl,?_⟩
  rw [M1,hx];simp
theorem yD (D0:List Nat):(jI D0).map D.int=D0.map λ(k:Nat)=>D.int (k:Int):=by unfold jI;rw [List.map_map];rfl
theorem Qe {l:List (List Nat)}:(l.map toI).map tI=l.map jx:=by rw [S0];exact S5 λS _=>PX S
def vT:RDn:=λds h Q=> ∃T o,∃n e:Nat,ds= [jC T,jx o]/\Sq n e T/\1<=n/\n<=6/\e<=1000/\Ordr n o/\Q (.bl true) h
theorem YT (Z:Zs mg)(F:Fun K "_law_right" "_law_right" yq f fd)(wq:ji P w K mg base n "pieces" ["table"] vO)(Zj:ji P w K mg base n "joined" ["table"] VW)(OF:ji P w K mg base n "part" ["table","some"] DD)(Wq:ji P w K mg base n "marks" ["table"] Zh)(YV:ji P w K mg base n "turned" ["table"] Wm)(DI:ji P w K mg base n "renamed" ["table","order"] Ye)(Xk:ji P w K mg base n "shut_sets" ["table"] JK)(YU:ji P w K mg base n "first_power" ["table"] yM):FnOk P w K mg base CX0 (n+1) f fd ["_law_table_here","_law_order_here"] (LSp K vT):=by
 refine F.okM jM (λhr=>(je (AT (i:=2) (j:=3) rfl jM.nd rfl rfl (by decide) rfl rfl (j2 (jk wq hr (j1 (jv 0))) (VN Z (jv 0))) rfl) (by exact(je (jse 4 jM (Uz ye)) (by exact(je (Qx N0 rfl (zc (jv 2)) (jgn 5 jM) (je (jse 4 jM (jop wg (jv 4) (jN GR rfl Z.list (by decide +kernel) (j1 (jv 5))))) (by exact(jf (Wx (jt1 Rw (jk Zj hr (j1 (jk OF hr (j2 (jv 0) (jv 5))))) jbl) (jf (zK jbl)) ze))))) (by exact(je (Wx (jpt (BF (jt1 (JD hr.units) (zf vx rfl Z.sorted (by decide +kernel) (j1 (jv 4))) (LY rfl rfl Z.list rfl Z.range (j1 (jv 3)))) (BF (jt1 (JD hr.units) (jk wq hr (j1 (jk YV hr (j1 (jv 0))))) (jv 2)) (LQ (jt1 (JD hr.units) (jk wq hr (j1 (jk Wq hr (j1 (jv 0))))) (jv 2)))))) (jf (zK jbl)) ze) (by exact(je (jse 6 jM (zf (wG hr) rfl Z.sorted (by decide +kernel) (j1 (jl0 5 jM (zc (jv 2)) (λ_ _ _ _=>(jN cq_tuple rfl Z.tuple (by decide +kernel) (j1 (zf vx rfl Z.sorted (by decide +kernel) (j1 (jl0 7 jM (zc (jv 5)) (λ_ _ _ _=>(ji1 (jv 1) (jv 7))))))))))))) (by exact(je (Wx (jt1 (JD hr.units) (zf (wG hr) rfl Z.sorted (by decide +kernel) (j1 (jk wq hr (j1 (jk DI hr (j2 (jv 0) (jv 1))))))) (jv 6)) (jf (zK jbl)) ze) (by exact(je (Wx (jpt (BF (jt1 (JD hr.units) (jk Zj hr (j1 (jv 0))) (jc1 (ZA hr.units) (jk Xk hr (j1 (jv 0))) (Uz (j2 (LV ye) (Ea rfl rfl Z.tuple rfl Z.range (j1 (jv 3))))))) (LQ (jt1 (JD hr.units) (jk Zj hr (j1 (jv 0))) (jc1 oq_eq (VN Z (jv 2)) jR))))) (jf (zK jbl)) ze) (by exact(jf (zK (jor (jc1 AO (jk YU hr (j1 (jv 0))) ET) (Qw (jk Zj hr (j1 (jv 0)))))))))))))))))))))) ?_;rintro ds h Q ⟨T,o,n,b,rfl,hT,h1,h6,hb,ho,q⟩;refine⟨rfl,?_⟩;have h8:n<=8:=by omega
 have hlen:(((T.map Zb).length:Nat):Int)=(n:Int):=by rw [G0,hT.len]
 have pl:=YB (T:=T) (n:=n);obtain⟨fnd,fmem⟩:=XY hT (List.Perm.refl (jZ T n));obtain⟨r,fr⟩:=OB hT h1 h6;refine jh (λσ' h'=> ∃A,σ'= [some (jC T),some (jx o),some (.lst A),some (.int (n:Int)),none,none,none,none]/\h' A=some ((jZ T n).map jx)/\Sub h h') (λC hC=>⟨_,rfl,T,n,b,rfl,hT,h1,h6,λA h' fA kA sb=>⟨_,rfl,_,_,rfl,hC _ _ ⟨A,by rw [hlen];rfl,kA,sb⟩⟩⟩) ?_;rintro _ h2 ⟨A,rfl,kA,sb⟩;refine jh (λσ' h'=> ∃B,σ'= [some (jC T),some (jx o),some (.lst A),some (.int (n:Int)),some (.lst B),none,none,none]/\h' B=some []/\h' A=some ((jZ T n).map jx)/\Sub h h') (λC hC=>⟨(by show 0<=sizeLine;decide),λB eB=>hC _ _ ⟨B,rfl,jc,jg kA eB,sb.newAt eB⟩⟩) ?_;clear kA sb;rintro _ h3 ⟨B,rfl,kB,kA,sb⟩;refine jh (λσ' h'=> ∃B x,σ'= [some (jC T),some (jx o),some (.lst A),some (.int (n:Int)),some (.lst B),x,none,none]/\h' B=some ((jZ T n).flatten.map λ(k:Nat)=>D.int (k:Int))/\h' A=some ((jZ T n).map jx)/\Sub h h') (λC hC=> ?_) ?_
 ·refine Rv (h1:=h3) (j:=λh=>h A) ((jZ T n).map jx) (λi σ' h'=> ∃B x,σ'= [some (jC T),some (jx o),some (.lst A),some (.int (n:Int)),some (.lst B),x,none,none]/\h' B=some (((jZ T n).take i).flatten.map λ(k:Nat)=>D.int (k:Int))/\h' A=some ((jZ T n).map jx)/\Sub h h') (λR r=>⟨_,rfl,r⟩) (λi σ' h' ⟨_,_,_,_,k,_⟩=>k) ⟨B,none,rfl,kB,kA,sb⟩ (λσ' h' ⟨B,x,e,kB,kA,sb⟩=>hC _ _ ⟨B,x,e,by rw [G0,J0] at kB;exact kB,kA,sb⟩) ?_;clear kA kB sb;rintro i d _ h4 hd ⟨B,x,rfl,kB,kA,sb⟩;have hil:=(G5.mp hd).1;rw [P9] at hd;obtain⟨P,eP,rfl⟩:=O5.mp hd;have mP:=G9 eP;obtain⟨p,hp,rfl⟩:=mem_pcs.mp mP;have iP:=UO (T:=T) (n:=n) p;have pne:pcS T n p≠ []:=λz=>by have:=Jm (T:=T) hp;rw [z] at this;cases this
  have fl6: ∀k,((jZ T n).take k).flatten.length<=6:=λk=>by
   have s:((jZ T n).take k).flatten.Sublist (jZ T n).flatten:=Zi (O0 _ _);have:=wb (n:=n) fnd (λx hx=>(fmem x).mp hx);have:=s.length_le;omega
  refine jh (λσ' h'=> ∃B,σ'= [some (jC T),some (jx o),some (.lst A),some (.int (n:Int)),some (.lst B),some (jx (pcS T n p)),none,none]/\h' B=some (((jZ T n).take (i+1)).flatten.map λ(k:Nat)=>D.int (k:Int))/\h' A=some ((jZ T n).map jx)/\Sub h h') (λC hC=> ?_) ?_
  ·refine⟨_,rfl,_,rfl,λL eL=>⟨_,_,jg kB eL,jc,?_,λE eE=>hC _ _ ⟨E,rfl,?_,jg (jg kA eL) eE,(sb.newAt eL).newAt eE⟩⟩⟩
   ·have:=fl6 i;have:=iP.len;rw [G0,G0];exact R6 (show _<=100 by omega) (by decide)
   ·rw [jc,M1,eP,G1b,M0];simp
  clear kA kB sb;rintro _ h5 ⟨B,rfl,kB,kA,sb⟩;refine⟨_,rfl,_,rfl,T,pcS T n p,n,b,rfl,hT,h1,h6,iP,pne,WB (pcS T n p) T,(pcS T n p).length,b,rfl,UN hT (λi hi=>iP.lt hi),by have:=G08.mpr pne;omega,by have:=iP.len;omega,?_⟩;rw [P7 (Mq hT h8 hp)];exact⟨_,rfl,Jb ⟨_,Sub.refl _,hil,B,_,rfl,kB,kA,sb⟩⟩
 clear kA kB sb;rintro _ h4 ⟨B,x,rfl,kB,kA,sb⟩;have allP:inP n (jZ T n).flatten=List.range n:=E9.mpr λj hj=>P7 ((fmem j).mpr (P2.mp hj))
 refine jh (λσ' h'=>σ'= [some (jC T),some (jx o),some (.lst A),some (.int (n:Int)),some (.lst B),x,none,none]/\h' A=some ((jZ T n).map jx)/\Sub h h') (λC hC=>⟨_,rfl,jI (jZ T n).flatten,.inr ⟨B,rfl,by rw [yD];exact kB⟩,?_,λE ms eE pm rs=>⟨_,rfl,n,rfl,by omega,λF eF=> ?_⟩⟩) ?_
 ·unfold jI;rw [G0];have:=wb (n:=n) fnd (λx hx=>(fmem x).mp hx);omega
 ·have em:=Jo fnd (λx hx=>(fmem x).mp hx) pm rs;rw [allP] at em;subst em;have kA2:(zC (zC h4 E ((jI (List.range n)).map D.int)) F ((List.range n).map λ(k:Nat)=>D.int (k:Int))) A=some ((jZ T n).map jx):=jg (jg kA eE) eF;refine Mx (ns:=jI (List.range n)) (jg jc eF) (by rw [jc,yD]) ⟨_,rfl,Jb ⟨_,rfl,T,n,b,rfl,hT,h1,h6,vz n T,n,b,rfl,hT.turn,h1,h6,λX h' fX kX sbX=>⟨_,rfl,Zg kX (sbX _ _ kA2) (Ms hT h8) ⟨_,rfl,Jb ⟨_,rfl,T,n,b,rfl,hT,h1,h6,jB n T,n,1,rfl,Sq.mark T,h1,h6,λY h'' fY kY sbY=>⟨_,rfl,Zg kY (sbY _ _ (sbX _ _ kA2)) (Mu hT h8) ⟨_,rfl,Jb (hC _ _ ⟨rfl,sbY _ _ (sbX _ _ kA2),(((sb.newAt eE).newAt eF).trans sbX).trans sbY⟩)⟩⟩⟩⟩⟩⟩⟩
 clear kA kB sb;rintro _ h5 ⟨rfl,kA,sb⟩;refine jh (λσ' h'=> ∃N,σ'= [some (jC T),some (jx o),some (.lst A),some (.int (n:Int)),some (.lst B),x,some (.lst N),none]/\h' N=some ((Wz ((jZ T n).map (Cr n o))).map jx)/\h' A=some ((jZ T n).map jx)/\Sub h h') (λC hC=>CF (lcK (j:=λh=>h A) (jZ T n) jx (λS=>jx (Cr n o S)) (by omega) kA (λR r=>⟨_,rfl,r⟩) (λS hS Q' q'=>CG ?_) λY eY=> ?_)) ?_
 ·have iS:=vK S hS;have lt: ∀x∈S,x<n:=λx hx=>iS.lt hx
  refine lcA (j:=λ_=>some (S.map λ(k:Nat)=>D.int (k:Int))) S (λ(k:Nat)=> .int (k:Int)) (λk=> .int ((o.getD k 0:Nat):Int)) (by have:=iS.len;omega) rfl (λR r=>⟨_,rfl,r⟩) (λk hk Q2 q2=>⟨_,rfl,_,rfl,_,(RZ ho (lt k hk)).2,q2⟩) λL eL=> ?_
  refine⟨jI (S.map λk=>o.getD k 0),.inr ⟨L,rfl,by rw [jc,yD,S0];rfl⟩,?_,λE ms eE pm rs=> ?_⟩
  ·unfold jI;rw [G0,G0];have:=iS.len;omega
  ·have nd:(S.map λk=>o.getD k 0).Nodup:=by
    unfold List.Nodup;rw [T6];exact iS.rise.imp_of_mem λ{x y} hx hy l z=>by
     have:=congrArg (λm=>o.idxOf m) z;have this:o.idxOf (o.getD x 0)=o.idxOf (o.getD y 0):=this;rw [(wn ho (lt x hx)).2,(wn ho (lt y hy)).2] at this;omega
   have em:=Jo (n:=n) nd (λx hx=>by obtain⟨k,hk,rfl⟩:=R4.mp hx;exact(wn ho (lt k hk)).1) pm rs;subst em;refine⟨_,jc,?_⟩;rw [yD];exact q' _ (((Sub.refl _).newAt eL).newAt eE)
 ·refine⟨Y,((jZ T n).map (Cr n o)).map toI,rfl,?_,?_,λN mss eN pm rs=> ?_⟩
  ·rw [jc,Qe,S0];rfl
  ·rw [G0,G0];exact M6 pl (M6 h6 (by decide))
  ·rw [yg pm rs];exact hC _ _ ⟨N,rfl,jc,jg (jg kA eY) eN,(sb.newAt eY).newAt eN⟩
 clear kA sb;rintro _ h6' ⟨N,rfl,kN,kA,sb⟩;have hR:=hT.ren ho.ord;refine jh (λσ' h'=>σ'= [some (jC T),some (jx o),some (.lst A),some (.int (n:Int)),some (.lst B),x,some (.lst N),none]/\h' A=some ((jZ T n).map jx)/\Sub h h') (λC hC=>⟨_,rfl,_,rfl,T,n,b,o,rfl,hT,ho,h1,h6,Va n o T,n,b,rfl,hR,h1,h6,λX h' fX kX sbX=>⟨X,(jZ (Va n o T) n).map toI,rfl,by rw [Qe];exact kX,?_,λY mss eY pm rs=> ?_⟩⟩) ?_
 ·rw [G0];exact M6 YB (M6 h6 (by decide))
 ·rw [yg pm rs];exact⟨_,rfl,Zg jc (jg (sbX _ _ kN) eY) (Wb (Cs hT ho h8)) ⟨_,rfl,Jb (hC _ _ ⟨rfl,jg (sbX _ _ kA) eY,(sb.trans sbX).newAt eY⟩)⟩⟩
 clear kA kN sb;rintro _ h7 ⟨rfl,kA,sb⟩;refine jh (λσ' h'=>σ'= [some (jC T),some (jx o),some (.lst A),some (.int (n:Int)),some (.lst B),x,some (.lst N),none]/\Sub h h') (λC hC=>⟨_,rfl,T,n,b,rfl,hT,h1,h6,_,rfl,T,n,b,rfl,hT,h1,h6,λX h' fX kX sbX=>⟨(by show 0<=sizeLine;decide),_,rfl,n,rfl,by omega,(by show 2<=sizeLine;decide),λY eY=>Mw (P':= [[],List.range n]) (jg kX eY) (by rw [jc];rfl) ?_⟩⟩) ?_
 ·show neE (.bl (decide ((jZ T n).length=1))) (.bl (decide ((WA n).filter (yZ n T)= [[],List.range n]))) _ _;refine Np ?_ ⟨_,rfl,Jb ⟨_,rfl,T,n,b,rfl,hT,h1,h6,_,rfl,_,jg (sbX _ _ kA) eY,?_⟩⟩
  ·rw [T5,M9,M9];exact Mv hT h8 h1
  dsimp only [dC];refine MG (c:=decide ((jZ T n).length=1)) ?_ ?_
  ·rw [G0,T5,M9,M9];omega
  refine Np rfl ?_;exact⟨_,rfl,Jb (hC _ _ ⟨rfl,(sb.trans sbX).newAt eY⟩)⟩
 clear kA sb;rintro _ h9 ⟨rfl,sb⟩;refine⟨_,rfl,T,n,b,r,rfl,hT,h1,h6,hb,fr,?_⟩;cases r with
 |none=>exact⟨_,rfl,Qo ⟨h,sb,q⟩⟩
 |some k=>
  refine⟨_,rfl,Jb ⟨_,rfl,T,n,b,rfl,hT,h1,h6,h,sb,?_⟩⟩;rw [P7 (CC hT h8 h1 fr)];exact q
def zP:RDn:=λds h Q=> ∃T,∃n e:Nat,ds= [jC T]/\Sq n e T/\1<=n/\n<=6/\Q (.bl true) h
theorem yI (Z:Zs mg)(F:Fun K "_law_ladder_right" "_law_ladder_right" zr f fd)(ML:ji P w K mg base n "ladder" ["table"] VX)(wq:ji P w K mg base n "pieces" ["table"] vO)(DH:ji P w K mg base n "is_shut" ["table","some"] Yf):FnOk P w K mg base CX0 (n+1) f fd ["_law_table_here"] (LSp K zP):=by
 refine F.okM jA (λhr=>(je (jse 1 jA (jk ML hr (j1 (jv 0)))) (by exact(je (Wx (jt1 (JD hr.units) (zf (wG hr) rfl Z.sorted (by decide +kernel) (j1 (jv 1))) (zf (wG hr) rfl Z.sorted (by decide +kernel) (j1 (jk wq hr (j1 (jv 0)))))) (jf (zK jbl)) ze) (by exact(je (Qx N0 rfl (jrg Z (jop wg (VN Z (jv 1)) jR)) (jgn 2 jA) (je (jse 3 jA (Uz ye)) (by exact(je (Qx N0 rfl (zc (Pf (jv 1) (Yw (jv 2)) Pe)) (jgn 4 jA) (jf (jse 3 jA (jop wg (jv 3) (jN GR rfl Z.list (by decide +kernel) (j1 (jv 4))))))) (by exact(jf (Wx (Ww (yc (jk DH hr (j2 (jv 0) (jN cq_tuple rfl Z.tuple (by decide +kernel) (j1 (zf vx rfl Z.sorted (by decide +kernel) (j1 (jv 3))))))))) (jf (zK jbl)) ze))))))) (by exact(jf (zK jbl))))))))) ?_;rintro ds h Q ⟨T,n,b,rfl,hT,h1,h6,q⟩;refine⟨rfl,?_⟩;have h8:n<=8:=by omega
 have pl:=YB (T:=T) (n:=n);refine jh (λσ' h'=> ∃A R,σ'= [some (jC T),some (.lst A),none,none,none]/\Lad T n R/\h' A=some (R.map jx)/\Sub h h') (λC hC=>⟨_,rfl,T,n,b,rfl,hT,h1,h6,λA R h' fA lad kA sb=>hC _ _ ⟨A,R,rfl,lad,kA,sb⟩⟩) ?_;rintro _ h2 ⟨A,R,rfl,lad,kA,sb⟩;obtain⟨fnd,fmem⟩:=XY hT lad.perm;have rl:=lad.perm.length_eq;refine jh (λσ' h'=>σ'= [some (jC T),some (.lst A),none,none,none]/\h' A=some (R.map jx)/\Sub h h') (λC hC=>⟨_,rfl,A,R.map toI,rfl,by rw [Qe];exact kA,?_,λE mss eE pm rs=>⟨_,rfl,T,n,b,rfl,hT,h1,h6,λX h' fX kX sbX=>⟨X,(jZ T n).map toI,rfl,by rw [Qe];exact kX,?_,λY mss' eY pm' rs'=> ?_⟩⟩⟩) ?_
 ·rw [G0];exact M6 (show _<=6 by omega) (by decide)
 ·rw [G0];exact M6 (show _<=6 by omega) (by decide)
 ·have e1:=yg pm rs;have e2:=yg pm' rs';rw [e2];refine Zg (P:=Wz R) (jg (sbX _ _ (by rw [jc,e1])) eY) jc (Wb lad.perm) ⟨_,rfl,Jb (hC _ _ ⟨rfl,jg (sbX _ _ (jg kA eE)) eY,((sb.newAt eE).trans sbX).newAt eY⟩)⟩
 clear kA sb;rintro _ h3 ⟨rfl,kA,sb⟩;refine jh (λσ' h'=>Sub h h') (λC hC=> ?_) (λ_ h' sb=>⟨h,sb,q⟩);refine wN (R.length+1) (λi σ' h'=> ∃x y z,σ'= [some (jC T),some (.lst A),x,y,z]/\h' A=some (R.map jx)/\Sub h h') (by omega) (λR' r=>⟨_,rfl,_,kA,?_⟩) ⟨_,_,_,rfl,kA,sb⟩ (λσ' h' ⟨_,_,_,_,_,s⟩=>hC _ _ s) ?_
 ·show R' [.int ((((R.map jx).length:Nat):Int)+1)] h3;rw [G0];exact r
 clear kA sb;rintro i _ h4 hi ⟨x,y,z,rfl,kA,sb⟩;have fl6: ∀k,((R.drop i).take k).flatten.length<=6:=λk=>by
  have s:((R.drop i).take k).flatten.Sublist R.flatten:=Zi ((O0 _ _).trans (N9 _ _));have:=wb (n:=n) fnd (λx hx=>(fmem x).mp hx);have:=s.length_le;omega
 refine jh (λσ' h'=> ∃B,σ'= [some (jC T),some (.lst A),some (.int (i:Int)),some (.lst B),z]/\h' B=some []/\h' A=some (R.map jx)/\Sub h h') (λC hC=>⟨(by show 0<=sizeLine;decide),λB eB=>hC _ _ ⟨B,rfl,jc,jg kA eB,sb.newAt eB⟩⟩) ?_;clear kA sb;rintro _ h5 ⟨B,rfl,kB,kA,sb⟩;refine jh (λσ' h'=> ∃B z,σ'= [some (jC T),some (.lst A),some (.int (i:Int)),some (.lst B),z]/\h' B=some ((R.drop i).flatten.map λ(k:Nat)=>D.int (k:Int))/\h' A=some (R.map jx)/\Sub h h') (λC hC=>⟨_,rfl,_,rfl,_,rfl,_,kA,λX eX=> ?_⟩) ?_
 ·have cut:WO (R.map jx) (some (i:Int)) none=(R.drop i).map jx:=by rw [MJ _ (by rw [G0];omega),G0z]
  refine Zz (j:=λh=>h X) ((R.drop i).map jx) (λk σ' h'=> ∃B z,σ'= [some (jC T),some (.lst A),some (.int (i:Int)),some (.lst B),z]/\h' B=some (((R.drop i).take k).flatten.map λ(k:Nat)=>D.int (k:Int))/\h' X=some ((R.drop i).map jx)/\h' A=some (R.map jx)/\Sub h h') (λk σ' h' ⟨_,_,_,_,k,_⟩=>k) ⟨B,z,rfl,jg kB eX,by rw [jc,cut],jg kA eX,sb.newAt eX⟩ (λσ' h' ⟨B,z,e,kB,_,kA,sb⟩=>hC _ _ ⟨B,z,e,by rw [G0,J0] at kB;exact kB,kA,sb⟩) ?_;clear kA kB sb;rintro k d _ h6' hd ⟨B,z,rfl,kB,kX,kA,sb⟩;have hkl:=(G5.mp hd).1;rw [P9] at hd;obtain⟨P,eP,rfl⟩:=O5.mp hd;have iP:=vK P (lad.perm.mem_iff.mp (T3 (G9 eP)));refine⟨_,rfl,_,rfl,λL eL=>⟨_,_,jg kB eL,jc,?_,λE eE=>⟨_,Sub.refl _,hkl,E,_,rfl,?_,jg (jg kX eL) eE,jg (jg kA eL) eE,(sb.newAt eL).newAt eE⟩⟩⟩
  ·have:=fl6 k;have:=iP.len;rw [G0,G0];exact R6 (show _<=100 by omega) (by decide)
  ·rw [jc,M1,eP,G1b,M0];simp
 clear kA kB sb;rintro _ h6' ⟨B,z',rfl,kB,kA,sb⟩;have nd:(R.drop i).flatten.Nodup:=fnd.sublist (Zi (N9 _ _));have lt: ∀x∈(R.drop i).flatten,x<n:=λx hx=>(fmem x).mp ((Zi (N9 i R)).subset hx)
 refine⟨_,rfl,_,rfl,jI (R.drop i).flatten,.inr ⟨B,rfl,by rw [yD];exact kB⟩,?_,λE ms eE pm rs=> ?_⟩
 ·unfold jI;rw [G0];have:=wb (n:=n) nd lt;omega
 ·have em:=Jo nd lt pm rs;subst em;refine⟨_,jc,?_⟩;rw [yD];refine⟨T,inP n (R.drop i).flatten,n,b,rfl,hT,h1,h6,XZ n _,_,rfl,?_⟩;rw [shut_iff.mpr λa ha j hj ar=>mem_inP.mpr ⟨hj,Do hT lad i a (mem_inP.mp ha).2 j hj ar⟩];exact Jb ⟨_,Sub.refl _,by omega,_,_,_,rfl,jg kA eE,sb.newAt eE⟩
theorem OC (Z:Zs mg)(F:Fun K "law" "law" QQ f fd)(Xg:ji P w K mg base n "_law_cell" ["_law_script","_law_k"] JL)(QZ:ji P w K mg base n "_law_pen" ["_law_cell_here"] Wp)(Xh:ji P w K mg base n "_law_size" ["_law_pen_here"] JM)(Ud:ji P w K mg base n "_law_order" ["_law_pen_here","_law_many"] vS)(Uf:ji P w K mg base n "_law_table" ["_law_pen_here","_law_size_here"] vR)(wf:ji P w K mg base n "_law_ladder_right" ["_law_table_here"] zP)(YV:ji P w K mg base n "turned" ["table"] Wm)(Ue:ji P w K mg base n "_law_right" ["_law_table_here","_law_order_here"] vT):FnOk P w K mg base CX0 (n+1) f fd ["_law_script"] (LSp K GX):=by
 refine F.okM Ur (λhr=>(je (Qx N0 rfl (BH (jop wg (Uz (j1 (jk Xg hr (j2 (jv 0) jR)))) (Pf (jv 0) (Yw jR) (Yw jR)))) (jgn 1 Ur) (je (jse 2 Ur (jk QZ hr (j1 (jv 1)))) (by exact(je (jse 3 Ur (jk Xh hr (j1 (jv 2)))) (by exact(je (AT (i:=4) (j:=5) rfl Ur.nd rfl rfl (by decide) rfl rfl (j2 (jk Uf hr (j2 (jv 2) (jv 3))) (jk Ud hr (j2 (jv 2) (jv 3)))) rfl) (by exact(jf (Wx (jpt (BF (Ww (yc (jk Ue hr (j2 (jv 4) (jv 5))))) (BF (Ww (yc (jk wf hr (j1 (jv 4))))) (LQ (Ww (yc (jk wf hr (j1 (jk YV hr (j1 (jv 4))))))))))) (jf (zK jbl)) ze))))))))) (by exact(jf (zK jbl))))) ?_;rintro ds h Q ⟨ns,rfl,hh,hns,q⟩;refine⟨rfl,?_⟩;refine jh (λσ' h'=>True) (λC hC=> ?_) (λσ' h3 hV=>⟨h3,Sub.refl _,q h3⟩);refine⟨_,rfl,ns,0,rfl,(by decide),λn0=>⟨(by show 1<=sizeLine;decide),λp1 e1=>⟨_,rfl,_,rfl,_,rfl,λp2 e2=>⟨_,_,jg jc e2,jc,?_,λp3 e3=>⟨p3,rfl,?_⟩⟩⟩⟩⟩
 ·have:(WO ns (some 1) (some 5)).length<=ns.length:=by unfold WO;rw [List.length_take,List.length_drop];omega
  rw [G0];exact D6 (jE (by simp only [D5,T9];omega))
 generalize hcs:([D.int n0]++(WO ns (some 1) (some 5)).map D.int)=cs;have hint: ∀d∈cs,∃c,d= .int c:=λd hd=>by
  rw [<-hcs] at hd;rcases D4.mp hd with z|z
  ·exact⟨n0,G2.mp z⟩
  ·obtain⟨x,_,e⟩:=R4.mp z;exact⟨x,e.symm⟩
 refine Zz cs (λi σ' h'=> ∃a1 a2 a3 a4 a5,σ'= [some (.scr ns),a1,a2,a3,a4,a5]/\h' p3=some cs) (λi σ' h' ⟨_,_,_,_,_,_,k⟩=>k) ⟨_,_,_,_,_,rfl,jc⟩ (λσ' h' _=>hC _ _ True.intro) ?_;rintro i d _ h4 hi ⟨b1,b2,b3,b4,b5,rfl,k3⟩;obtain⟨c,rfl⟩:=hint d (G9 hi);have hil:i<cs.length:=(G5.mp hi).1;show Rn _ _ _ [some (.scr ns),some (.int c),b2,b3,b4,b5] h4;refine jh (λσ' h'=> ∃p l fl,σ'= [some (.scr ns),some (.int c),some (.lst p),b3,b4,b5]/\h' p=some [.int l,.int fl]/\0<=l/\h' p3=some cs/\p3≠p) (λC hC=> ?_) ?_
 ·refine⟨_,rfl,c,rfl,λp l fl ep l0 _=>hC _ _ ⟨p,l,fl,rfl,jc,l0,jg k3 ep,Ne.symm (jY k3 ep)⟩⟩
 rintro _ h5 ⟨p,l,fl,rfl,kp,l0,k3,n3⟩;refine jh (λσ' h'=> ∃ (n:Nat) (l2:Int),σ'= [some (.scr ns),some (.int c),some (.lst p),some (.int (n:Int)),b4,b5]/\1<=n/\n<=6/\h' p=some [.int l2,.int fl]/\0<=l2/\h' p3=some cs) (λC hC=>⟨_,rfl,p,l,fl,rfl,kp,l0,λn l2 n1 n6 l20=>hC _ _ ⟨n,l2,rfl,n1,n6,jc,l20,ju n3 k3⟩⟩) ?_;clear kp l0 k3;rintro _ h6 ⟨n,l2,rfl,n1,n6,kp,l20,k3⟩;refine jh (λσ' h'=> ∃ (T:List (List Int)) (o:List Nat) (l2:Int),σ'= [some (.scr ns),some (.int c),some (.lst p),some (.int (n:Int)),some (jC T),some (jx o)]/\GoodTab n T/\Ordr n o/\h' p=some [.int l2,.int fl]/\0<=l2/\h' p3=some cs) (λC hC=>⟨_,rfl,_,rfl,p,l2,fl,n,rfl,kp,l20,n1,n6,λT l3 gT l30=>⟨_,rfl,_,rfl,p,l3,fl,n,rfl,jc,l30,n6,λo l4 ho l40=>⟨_,_,rfl,hC _ _ ⟨T,o,l4,rfl,gT,ho,jc,l40,ju n3 (ju n3 k3)⟩⟩⟩⟩) ?_;clear kp l20 k3;rintro _ h7 ⟨T,o,l2,rfl,gT,ho,kp,l20,k3⟩;exact⟨_,rfl,_,rfl,T,o,n,20,rfl,gT.sq,n1,n6,by decide,ho,_,rfl,Jb ⟨_,rfl,T,n,20,rfl,gT.sq,n1,n6,_,rfl,Jb ⟨_,rfl,T,n,20,rfl,gT.sq,n1,n6,vz n T,n,20,rfl,gT.sq.turn,n1,n6,_,rfl,Jb ⟨_,Sub.refl _,hil,_,_,_,_,_,rfl,k3⟩⟩⟩⟩
end
theorem OD {l:PySem.W.OpenLaw}{w:World}{K:PySem.W.Frag}{h:Heap}{mg:Str->Option Value}{fa:Addr}(X:K.In h)(G:h.Ns mainGlobals mg)(hfa:mg "law" =some (.ref fa))
 (d0:DefIn K "is_whole" Jq fu0 eu0)
 (d1:DefIn K "is_within" va fu1 eu1)
 (d2:DefIn K "is_place" Jr fu2 eu2)
 (d3:DefIn K "are_places" yh fu3 eu3)
 (d4:DefIn K "rises" UU fu4 eu4)
 (d5:DefIn K "is_set" YC fu5 eu5)
 (d6:DefIn K "is_order" Js fu6 eu6)
 (d7:DefIn K "is_table_row" wy fu7 eu7)
 (d8:DefIn K "has_table_form" zM fu8 eu8)
 (d9:DefIn K "want_table" yj fu9 eu9)
 (d10:DefIn K "want_set" Jt fu10 eu10)
 (d11:DefIn K "want_order" yk fu11 eu11)
 (d12:DefIn K "reaches" Wd fu12 eu12)
 (d13:DefIn K "pieces_by" vb fu13 eu13)
 (d14:DefIn K "is_free" We fu14 eu14)
 (d15:DefIn K "pieces" YF fu15 eu15)
 (d16:DefIn K "joined" YG fu16 eu16)
 (d17:DefIn K "ladder" YH fu17 eu17)
 (d18:DefIn K "part" Ds fu18 eu18)
 (d19:DefIn K "step_after" yl fu19 eu19)
 (d20:DefIn K "multiplied" ym fu20 eu20)
 (d21:DefIn K "full" Dt fu21 eu21)
 (d22:DefIn K "marks" UY fu22 eu22)
 (d23:DefIn K "turned" YJ fu23 eu23)
 (d24:DefIn K "renamed" Wg fu24 eu24)
 (d25:DefIn K "marks_after" wU fu25 eu25)
 (d26:DefIn K "marks_and_return" zB fu26 eu26)
 (d27:DefIn K "all_marks" vc fu27 eu27)
 (d28:DefIn K "first_power" wV fu28 eu28)
 (d29:DefIn K "keeps_arrows" wz fu29 eu29)
 (d30:DefIn K "all_sets" Ju fu30 eu30)
 (d31:DefIn K "is_shut" Wh fu31 eu31)
 (d32:DefIn K "shut_sets" vd fu32 eu32)
 (d33:DefIn K "_law_cell" ve fu33 eu33)
 (d34:DefIn K "_law_pen" Jv fu34 eu34)
 (d35:DefIn K "_law_draw" vf fu35 eu35)
 (d36:DefIn K "_law_size" vg fu36 eu36)
 (d37:DefIn K "_law_table" yo fu37 eu37)
 (d38:DefIn K "_law_order" yp fu38 eu38)
 (d39:DefIn K "_law_right" yq fu39 eu39)
 (d40:DefIn K "_law_ladder_right" zr fu40 eu40)
 (d41:DefIn K "law" QQ fu41 eu41)
 {tk0:Tok}(v0:PySem.W.nsIn K mainGlobals "MOST_ROWS" =some (some (.int 6 tk0)))
 (z:zsB K=true)
 : ∃fd:FuncData,(∀ (s:Shared) (v:Value),BindsTo s fd ⟨[v],[]⟩ [("_law_script",v)])/\ ∀base:Heap,K.In base->base.Ns mainGlobals mg->Bm mg base->FnOk l.prog w K mg base CX0 11 fa fd ["_law_script"] (LSp K GX):=by
 have e:=hfa.symm.trans (d41.nm X G);cases e;have vo: ∃tk,mg "MOST_ROWS" =some (.int 6 tk):=⟨_,PySem.W.mg_of X G v0⟩;have Z:=Em X G z;obtain⟨_,_,kV,dc,pm,an,cd,ct,_,rfl,_⟩:=d41.fn.ex;refine⟨PySem.W.fnOf "law" "law" (ya QQ) (zJ QQ) (jd QQ) .none kV dc pm an cd ct,λs v=> .of_eq rfl,λbase _ _ B=> ?_⟩;have Yg:=λn=>d0.cal l w base X G (Xa (n:=n+0) Z d0.fn)
 have Xo:=λn=>d1.cal l w base X G (VT (n:=n+1) Z d1.fn (Yg (n+0)))
 have Gg:=λn=>d2.cal l w base X G (Xb (n:=n+2) Z d2.fn (Xo (n+0)))
 have JN:=λn=>d3.cal l w base X G (YK (n:=n+3) Z d3.fn (Gg (n+0)))
 have CI:=λn=>d4.cal l w base X G (Mz (n:=n+0) Z d4.fn)
 have MM:=λn=>d5.cal l w base X G (Dw (n:=n+4) Z d5.fn (CI (n+3)) (JN (n+0)))
 have Gf:=λn=>d6.cal l w base X G (Xc (n:=n+4) Z d6.fn (JN (n+0)))
 have WG:=λn=>d7.cal l w base X G (Wl (n:=n+1) Z d7.fn (Yg (n+0)))
 have JU:=λn=>d8.cal l w base X G (Jw (n:=n+2) Z d8.fn (WG (n+0)) vo)
 have jL:=λn=>d9.cal l w base X G (YL (n:=n+3) Z d9.fn (JU (n+0)))
 have Yh:=λn=>d10.cal l w base X G (Xd (n:=n+5) Z d10.fn (MM (n+0)))
 have Uq:=λn=>d11.cal l w base X G (YM (n:=n+5) Z d11.fn (Gf (n+0)))
 have Uo:=λn=>d12.cal l w base X G (QU (n:=n+0) Z d12.fn)
 have Ws:=λn=>d13.cal l w base X G (VV (n:=n+0) Z d13.fn)
 have DJ:=λn=>d14.cal l w base X G (QV (n:=n+0) Z d14.fn)
 have YY:=λn=>d15.cal l w base X G (Dy (n:=n+4) Z d15.fn (jL (n+0)) (Ws (n+3)) (Uo (n+3)))
 have MN:=λn=>d16.cal l w base X G (Dz (n:=n+5) Z d16.fn (YY (n+0)))
 have MO:=λn=>d17.cal l w base X G (DB (n:=n+4) Z d17.fn (jL (n+0)) (Uo (n+3)) (Ws (n+3)) (DJ (n+3)))
 have OH:=λn=>d18.cal l w base X G (Cz (n:=n+6) Z d18.fn (jL (n+2)) (Yh (n+0)))
 have Up:=λn=>d19.cal l w base X G (YN (n:=n+0) Z d19.fn)
 have Um:=λn=>d20.cal l w base X G (YO (n:=n+0) Z d20.fn)
 have OG:=λn=>d21.cal l w base X G (CA (n:=n+4) Z d21.fn (jL (n+0)))
 have Xp:=λn=>d22.cal l w base X G (ME (n:=n+4) Z d22.fn (jL (n+0)))
 have Qf:=λn=>d23.cal l w base X G (DF (n:=n+4) Z d23.fn (jL (n+0)))
 have DL:=λn=>d24.cal l w base X G (QX (n:=n+6) Z d24.fn (jL (n+2)) (Uq (n+0)))
 have YX:=λn=>d25.cal l w base X G (WD (n:=n+5) Z d25.fn (Xp (n+0)) (Um (n+4)))
 have vW:=λn=>d26.cal l w base X G (vk (n:=n+6) Z d26.fn (Xp (n+1)) (YX (n+0)))
 have Xn:=λn=>d27.cal l w base X G (VY (n:=n+7) Z d27.fn (vW (n+0)))
 have YW:=λn=>d28.cal l w base X G (WE (n:=n+8) Z d28.fn (Xn (n+0)) (OG (n+3)))
 have yN:=λn=>d29.cal l w base X G (Wn (n:=n+1) Z d29.fn (Up (n+0)))
 have Ge:=λn=>d30.cal l w base X G (Xe (n:=n+0) Z d30.fn)
 have DK:=λn=>d31.cal l w base X G (QY (n:=n+6) Z d31.fn (jL (n+2)) (Yh (n+0)) (yN (n+4)))
 have Xq:=λn=>d32.cal l w base X G (VZ (n:=n+4) Z d32.fn (jL (n+0)) (Ge (n+3)) (yN (n+2)))
 have Xl:=λn=>d33.cal l w base X G (Ua (n:=n+0) Z d33.fn)
 have Gd:=λn=>d34.cal l w base X G (Xf (n:=n+0) Z d34.fn)
 have vp:=λn=>d35.cal l w base X G (Ub (n:=n+0) Z d35.fn)
 have Xm:=λn=>d36.cal l w base X G (Uc (n:=n+1) Z d36.fn (vp (n+0)))
 have Ul:=λn=>d37.cal l w base X G (YR (n:=n+1) Z d37.fn (vp (n+0)))
 have Uj:=λn=>d38.cal l w base X G (YS (n:=n+1) Z d38.fn (vp (n+0)))
 have Uk:=λn=>d39.cal l w base X G (YT (n:=n+9) Z d39.fn (YY (n+4)) (MN (n+3)) (OH (n+2)) (Xp (n+4)) (Qf (n+4)) (DL (n+2)) (Xq (n+4)) (YW (n+0)))
 have vq:=λn=>d40.cal l w base X G (yI (n:=n+7) Z d40.fn (MO (n+2)) (YY (n+2)) (DK (n+0)))
 exact OC (n:=10) Z d41.fn (Xl 9) (Gd 9) (Xm 8) (Uj 8) (Ul 8) (vq 2) (Qf 5) (Uk 0)
end My
namespace PySem.W.Fast
def tw15360365134406493089:=()
def tw1569161400807113935:=()
def tw10669999493452255164:=()
def tw7349829460568874670:=()
def tw5100837209515501929:=()
def tw5096635370944681942:=()
def tw3944962551464483378:=()
def tw3152334194158632246:=()
def tw18022669350572478401:=()
def tw3392863443344292902:=()
def tw12229287104178518457:=()
def tw12858682496105917896:=()
def tw3984000558959315747:=()
def tw9512813395728363091:=()
def tw15141710571735810186:=()
def tw4789126671413193022:=()
def tw11618227294093001157:=()
def tw7507413759220659859:=()
def tw6907869770311663573:=()
def tw150258806024709406:=()
def tw17549019474615261095:=()
def tw16084128528835748050:=()
def tw17785779298797939148:=()
def tw530454878584042873:=()
def tw11031017628448856076:=()
def tw4797789239492755213:=()
def tw2277781192584750893:=()
def tw12903777983055376300:=()
def tw2813404985168481748:=()
def tw1015651073766004829:=()
def tw7961197874392086740:=()
def tw14125489509790587161:=()
def tw16017351534844942799:=()
def tw11310379725082191094:=()
def tw402145872432478839:=()
def tw10607554322914548402:=()
def tw828019339557004046:=()
def tw7004074229914707375:=()
def tw11840498209955182318:=()
def tw5283640187758822201:=()
def tw5639533340893909757:=()
def tw2228574645494017742:=()
def tw7214861932506552074:=()
def tw4558147084411970132:=()
def tw15085875902247468947:=()
def tw15039316408993969138:=()
def tw13061460562077721203:=()
def tw4765616041674198303:=()
def tw3877687609722426475:=()
def tw11342328180496591289:=()
def tw10607389117526538214:=()
def tw2355665929109087650:=()
def tw11556257197699086905:=()
def tw15818387080881680151:=()
def tw13452430208483196246:=()
def tw7997674467336126389:=()
def tw5084536858356352996:=()
def tw14025606795811404281:=()
def tw4062750276267948634:=()
def tw9751600852475999782:=()
def tw3037551094918195619:=()
def tw3052143391753433607:=()
def tw1030764882748366701:=()
def tw6900601122692299647:=()
def tw10101261724138573709:=()
def tw6798216324571862547:=()
def tw8450487978539134203:=()
def tw11747190957815565118:=()
def tw14469611765370476662:=()
def tw16885716345882088208:=()
def tw8775155288507754177:=()
def tw6518720882731402929:=()
def tw2239396767743504351:=()
def tw17364494423934252058:=()
def tw17663657200695339601:=()
def tw134040713388776126:=()
def tw15648220923665065839:=()
def tw1694066230607311079:=()
def tw15404566287978816601:=()
def tw4813803858368293130:=()
def tw13479945932674614419:=()
def tw15548364330279753272:=()
def tw6903983117516563529:=()
def tw5259021086999912403:=()
def tw6197298823891761285:=()
def tw14236369554536860324:=()
def tw2613817659983885689:=()
def tw17247228040954930622:=()
def tw14542380971251678672:=()
def tw3605464723974887924:=()
def tw16464124585458794131:=()
def tw14337660476816199674:=()
def tw9919340366768846963:=()
def tw3712522992832311857:=()
def tw1860710475368615904:=()
def tw14961747583257024186:=()
def tw13234449167117327809:=()
def tw4700947119715836412:=()
def tw1182374513241787385:=()
def tw8837613818744184922:=()
def tw6752446955786076073:=()
def tw17380590981063524253:=()
def tw8027016736640125113:=()
def tw10441878945459495346:=()
def tw3380938257856383576:=()
def tw4972938715149301103:=()
def tw14594193536106417584:=()
def tw4062182979202576329:=()
def tw8912688600457209578:=()
def tw2348096629891426970:=()
def tw200254242250790714:=()
def tw18195119851407379726:=()
def tw4821963650182127719:=()
def tw2471808532516406630:=()
def tw5756385620715788217:=()
def tw4619974076687217754:=()
def tw9125767684356527256:=()
def tw10906629662968803431:=()
def tw1170082644324355477:=()
def tw16365836974430800844:=()
def tw2732037102235972183:=()
def tw16585429550469358300:=()
def tw13319062203160145540:=()
def tw9261384782969575680:=()
def tw15422672564148059047:=()
def tw7093036048857373016:=()
def tw6353160083154531979:=()
def tw1373324019140361431:=()
def tw4258129173867946513:=()
def tw11765469526574110731:=()
def tw1932691799370428524:=()
def tw15414541441871674516:=()
def tw12778465244965746211:=()
end PySem.W.Fast
open PySem PySem.W PyProof.Rows
set_option maxRecDepth 100000 in
set_option maxHeartbeats 0 in
theorem PySem.Challenge.cw_firstpowers_k22_whole_pieces_holds : PySem.Challenge.rw_firstpowers_k22_whole_pieces.Holds := by
  w_on; o_law; k_head; (case hw => w_witness2)
  k_fill
  refine L2.Ru (l := PySem.Challenge.rw_firstpowers_k22_whole_pieces) (k := 11) (x := "_law_script") rfl rfl ⟨rfl, by decide, by decide, rfl⟩ (fun w h Y => PySem.W.kIn_of Y) ?B ?F
  case B => intro w; kernel_rfl
  case F =>
    intro w mg fa h KX G hmg
    refine' My.OD KX G hmg ?d0 ?d1 ?d2 ?d3 ?d4 ?d5 ?d6 ?d7 ?d8 ?d9 ?d10 ?d11 ?d12 ?d13 ?d14 ?d15 ?d16 ?d17 ?d18 ?d19 ?d20 ?d21 ?d22 ?d23 ?d24 ?d25 ?d26 ?d27 ?d28 ?d29 ?d30 ?d31 ?d32 ?d33 ?d34 ?d35 ?d36 ?d37 ?d38 ?d39 ?d40 ?d41 ?v0 ?z
    case d0 | d1 | d2 | d3 | d4 | d5 | d6 | d7 | d8 | d9 | d10 | d11 | d12 | d13 | d14 | d15 | d16 | d17 | d18 | d19 | d20 | d21 | d22 | d23 | d24 | d25 | d26 | d27 | d28 | d29 | d30 | d31 | d32 | d33 | d34 | d35 | d36 | d37 | d38 | d39 | d40 | d41 => refine' L2.Oz ?a ?l ?c ?k; (case a => k_is); (case l => k_is); (case c => k_is); (case k => k_is)
    case v0 => k_is
    case z => kernel_rfl
