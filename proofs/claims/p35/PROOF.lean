import PyProof.Rows.All
import Wide.All
import OpenK.AllK
import Wide.FinOn
import Lean
import PyProof.EqAt
import PyProof.EqKinds
import PyProof.TupleCall
import PyProof.Rows.TopTwo
import KE.KIsAll
import PyProof.ExcAttrAll.ValueError
import KE.KTryMore
import KE.KRevIter
import PyProof.SetRoads
import PySem.Challenge.RW_firstpowers_k35_why_never
set_option Elab.async false
set_option linter.all false
set_option maxRecDepth 100000
set_option maxHeartbeats 8000000
abbrev G0:= @List.length_map
abbrev G1:= @List.getElem?_eq_getElem
abbrev G2:= @List.mem_singleton
abbrev G3:= @PySem.Heap.get?_push_of_some
abbrev G5:= @List.getElem?_eq_some_iff
abbrev G6:= @List.length_append
abbrev G7:= @List.mem_of_getElem?
abbrev G8:= @Nat.le_refl
abbrev G9:= @decide_eq_true
abbrev P0:= @List.append_assoc
abbrev P1:= @List.getD_eq_getElem?_getD
abbrev P2:= @List.mem_range
abbrev P3:= @List.getElem?_append_right
abbrev P4:= @PySem.wpAny_pure
abbrev P5:= @PySem.Heap.lt_size
abbrev P6:= @List.mem_append_right
abbrev P7:= @Bool.false_ne_true
abbrev P8:= @List.size_toArray
abbrev P9:= @List.mem_append
abbrev D0:= @List.mem_cons
abbrev D1:= @decide_eq_false
abbrev D2:= @List.getElem?_map
abbrev D3:= @List.length_cons
abbrev D4:= @List.getElem?_append_left
abbrev D5:= @Nat.le_of_lt
abbrev D6:= @Nat.lt_of_lt_of_le
abbrev D7:= @List.mem_cons_self
abbrev D8:= @List.mem_map
abbrev D9:= @PySem.Heap.get?_push_size
abbrev R0:= @List.all_eq_true
abbrev R1:= @List.mem_cons_of_mem
abbrev R3:= @List.length_take
abbrev R4:= @List.length_range
abbrev R5:= @PySem.wpAny_mono
abbrev R6:= @Nat.ne_of_lt
abbrev R7:= @List.take_append_drop
abbrev R8:= @List.length_nil
abbrev R9:= @Nat.le_trans
abbrev S0:= @List.take_of_length_le
abbrev S1:= @List.map_cons
abbrev S2:= @List.pairwise_append
abbrev S3:= @List.map_congr_left
abbrev S4:= @List.map_map
abbrev S5:= @Bool.and_eq_true
abbrev S6:= @PySem.PassesOwn.never
abbrev S7:= @List.length_reverse
abbrev S8:= @List.mem_filter
abbrev S9:= @of_decide_eq_true
abbrev T0:= @List.length_drop
abbrev T1:= @List.getElem_mem
abbrev T2:= @Nat.zero_le
abbrev T3:= @Array.length_toList
abbrev T4:= @Array.toList_append
abbrev T5:= @List.mem_append_left
abbrev T6:= @List.pairwise_singleton
abbrev T7:= @List.map_append
abbrev T8:= @List.take_add_one
abbrev T9:= @Array.getElem?_toList
abbrev M0:= @List.not_mem_nil
abbrev M1:= @List.nil_append
abbrev M5:= @Nat.lt_irrefl
abbrev M6:= @Option.map_eq_some_iff
abbrev M7:= @List.mem_of_mem_drop
abbrev M8:= @Bool.eq_iff_iff
abbrev M9:= @decide_eq_true_iff
abbrev N0:= @List.mem_of_mem_take
abbrev N2:= @List.lookup_cons
abbrev N3:= @Option.some.inj
abbrev N4:= @PySem.wpAny_truthy_bool
abbrev N5:= @Option.isSome_iff_exists
abbrev N6:= @PySem.mem_of_lookup
abbrev N7:= @List.getElem?_cons_zero
abbrev N8:= @List.getElem?_set_ne
abbrev N9:= @List.drop_eq_nil_of_le
abbrev B0:= @Nat.lt_of_le_of_ne
abbrev B1:= @List.append_nil
abbrev B2:= @List.length_singleton
abbrev B3:= @List.cons_append
abbrev B6:= @List.filter_append
abbrev B7:= @PySem.W.kia_one
abbrev B8:= @List.getLastD_eq_getLast?
abbrev B9:= @List.getLast?_eq_getElem?
abbrev C0:= @Function.comp_apply
abbrev C3:= @List.getElem_of_mem
abbrev C4:= @List.getElem?_eq_none
abbrev C5:= @List.length_filter_le
abbrev C6:= @List.pairwise_map
abbrev C7:= @Nat.lt_or_ge
abbrev C8:= @Nat.lt_of_le_of_lt
abbrev C9:= @List.filter_cons_of_pos
abbrev F4:= @Nat.pow_le_pow_right
abbrev F7:= @List.map_nil
abbrev F8:= @Nat.lt_succ_self
abbrev F9:= @List.mem_reverse
abbrev H0:= @PyProof.Rows.slot_tuple_getitem
abbrev L0:= @List.replicate_succ
abbrev L5:= @List.getElem?_range
abbrev L6:= @decide_eq_true_eq
abbrev L7:= @List.drop_sublist
abbrev L8:= @Nat.lt_of_succ_lt
abbrev L9:= @List.reverse_perm
abbrev O0:= @Option.some.injEq
abbrev O1:= @PySem.wpAny_holding
abbrev O2:= @List.nodup_cons
abbrev O3:= @PyProof.Rows.boot_all
abbrev O4:= @List.getElem?_take_of_lt
abbrev O5:= @PySem.wpAny_execs_cons
abbrev O6:= @List.drop_append_of_le_length
abbrev O7:= @List.take_append_of_le_length
abbrev O8:= @List.filter_cons_of_neg
abbrev O9:= @Nat.ne_of_gt
abbrev A1:= @List.all_map
abbrev A2:= @PySem.wpAny_pyIter_list
abbrev A3:= @List.take_sublist
abbrev A4:= @PyProof.Rows.callWith_type1
abbrev A5:= @List.find?_cons
abbrev A6:= @List.range_succ
abbrev A7:= @exists_eq_left'
abbrev A8:= @List.getElem?_set_self
abbrev A9:= @List.range_succ_eq_map
abbrev E1:= @PySem.F.slot_tuple_iterator_next
abbrev E2:= @PySem.wpAny_call_entry
abbrev E3:= @List.take_length
abbrev E4:= @List.any_eq_true
abbrev E5:= @Nat.mod_eq_of_lt
abbrev E6:= @PySem.wpAny_Call_Name_kw
abbrev E7:= @Nat.le_of_eq
abbrev E8:= @Nat.zero_add
abbrev E9:= @Decidable.byContradiction
abbrev I0:= @Classical.byContradiction
abbrev J0:= @List.drop_drop
abbrev J4:= @PySem.W.hideAll_none
abbrev J5:= @Array.toList_extract
abbrev J6:= @PySem.wpAny_newObj_type
abbrev J7:= @PySem.wpAny_passesOwn
abbrev J8:= @List.flatten_cons
abbrev J9:= @PySem.W.hideAll_get
abbrev K0:= @PySem.wpAny_callSpecial?_slot
abbrev K1:= @List.length_eq_zero_iff
abbrev K2:= @List.length_pos_iff
abbrev K3:= @List.getElem?_cons_succ
abbrev K4:= @List.eq_nil_of_length_eq_zero
abbrev K5:= @PySem.W.cellsFrom_some
abbrev K6:= @List.mem_filterMap
abbrev K7:= @PySem.Calls.spliced_cons
abbrev K8:= @PyProof.Rows.boot_isinstance
abbrev K9:= @PySem.wpAny_pyIter_tuple
abbrev Q0:= @List.pairwise_cons
abbrev Q1:= @List.getElem?_drop
abbrev Q4:= @Nat.eq_zero_or_pos
abbrev Q5:= @PySem.wpAny_execs_nil
abbrev Q6:= @Bool.or_eq_true
abbrev Q7:= @List.perm_append_comm
abbrev Q8:= @Nat.le_add_left
abbrev Q9:= @List.getElem?_reverse
abbrev U0:= @Array.toList_push
abbrev U1:= @Bool.eq_false_iff
abbrev U2:= @Nat.add_assoc
abbrev U3:= @List.nodup_append
abbrev U4:= @Nat.mod_lt
abbrev U5:= @PySem.wpAny_newFunctionEnv_cells
abbrev U6:= @List.pairwise_iff_getElem
abbrev U7:= @Nat.min_le_right
abbrev U8:= @Nat.le_add_right
abbrev U9:= @beq_eq_false_iff_ne
abbrev V0:= @List.mem_map_of_mem
abbrev V1:= @Nat.add_le_add_left
abbrev V2:= @Nat.mul_le_mul_left
abbrev V3:= @PySem.F.args_tuple_add_2
abbrev V4:= @beq_iff_eq
abbrev V5:= @Nat.not_lt
abbrev V6:= @PySem.AutoSeq1.wpAny_loadPart'
abbrev V7:= @List.length_erase_of_mem
abbrev V8:= @Nat.add_zero
abbrev V9:= @PySem.wpAny_standAt
abbrev W0:= @List.of_mem_zip
abbrev W1:= @List.getElem?_replicate
abbrev W3:= @List.zip_cons_cons
abbrev W4:= @PySem.F.entry_tuple_add
abbrev W5:= @or_false
abbrev W6:= @PySem.F.plainAttrs_list
abbrev W7:= @Nat.min_eq_left
abbrev W8:= @Nat.pos_of_ne_zero
abbrev W9:= @Nat.div_add_mod
abbrev X0:= @PySem.F.slot_tuple_add
abbrev X1:= @List.length_pos_of_mem
abbrev X2:= @PySem.Calls.spliced_nil
abbrev X3:= @List.getElem?_set
abbrev X4:= @Nat.lt_of_succ_le
abbrev X5:= @Nat.lt_succ_of_lt
abbrev X6:= @Function.comp_def
abbrev X7:= @Nat.succ_le_of_lt
abbrev X8:= @Nat.sub_lt
abbrev X9:= @Bool.false_and
abbrev Y0:= @PySem.Heap.size_push
abbrev Y1:= @List.take_zero
abbrev Y2:= @PySem.codeAny_mono
abbrev Y3:= @PySem.codeAny_call_function
abbrev Y4:= @PySem.F.slot_tuple_lt
abbrev Y5:= @Nat.lt_trans
abbrev Y6:= @List.pairwise_reverse
abbrev Y7:= @Nat.le_of_not_lt
abbrev Y8:= @Nat.succ_le_succ
abbrev Y9:= @PySem.wpAny_loadName_local
abbrev Z0:= @PySem.Around.frames_deeper
abbrev Z4:= @PySem.Calls.evalArgs_plain
abbrev Z5:= @List.mem_erase_of_ne
abbrev Z6:= @Array.toList_reverse
abbrev Z7:= @List.any_cons
abbrev Z8:= @PySem.F.args_tuple_iterator_next_1
abbrev Z9:= @PySem.F.slot_dict_setdefault
abbrev G0a:= @PySem.F.slot_int_rmul
abbrev G0b:= @List.forIn_cons
abbrev G0c:= @PySem.F.entry_tuple_iterator_next
abbrev G0d:= @Nat.add_sub_cancel'
abbrev G0e:= @PySem.Heap.get?_update_ne
abbrev G0f:= @Nat.mul_add
abbrev G0g:= @Int.emod_nonneg
abbrev G0h:= @PySem.Calls.Name_function_global
abbrev G0i:= @Int.fdiv_eq_ediv_of_nonneg
abbrev G0j:= @Int.fmod_eq_emod_of_nonneg
abbrev G0k:= @Array.isEmpty_eq_false_iff
abbrev G0l:= @Array.toList_setIfInBounds
abbrev G0m:= @PySem.W.of_hideAll
abbrev G0n:= @PyProof.Rows.assignInOrder_cons
abbrev G0o:= @PySem.W.callWith_K
abbrev G0p:= @PySem.W.codeRec_of
abbrev G0q:= @Int.emod_lt_of_pos
abbrev G0r:= @PySem.wpAny_binaryOp_repeat_ref
abbrev G0s:= @List.getElem?_eq_none_iff
abbrev G0t:= @Nat.add_mul_mod_self_left
abbrev G0u:= @PySem.wpAny_rule
abbrev G0v:= @PySem.wpAny_call
abbrev G0w:= @List.zip_nil_left
abbrev G0x:= @PySem.call_meets
abbrev G0y:= @List.filter_congr
abbrev G0z:= @PySem.W.Looks.here
abbrev G0A:= @Nat.dvd_add_right
abbrev G0B:= @Array.size_setIfInBounds
abbrev G0C:= @List.ext_getElem?
abbrev G0D:= @List.mapM_toArray
abbrev G0E:= @List.flatMap_cons
abbrev G0F:= @PySem.F.args_tuple_lt_2
abbrev G0G:= @decide_eq_false_iff_not
abbrev G0H:= @PySem.F.slot_list_count
abbrev G0I:= @Nat.add_sub_cancel_left
abbrev G0J:= @Bool.true_and
abbrev G0K:= @PySem.noFill_tuple_add
abbrev G0L:= @List.all_toArray
abbrev G0M:= @List.mem_flatMap
abbrev G0N:= @Int.natCast_emod
abbrev G0O:= @PySem.F.entry_tuple_lt
abbrev G0P:= @Nat.dvd_of_mod_eq_zero
abbrev G0Q:= @List.length_eq_one_iff
abbrev G0R:= @List.filter_eq_nil_iff
abbrev G0S:= @List.length_replicate
abbrev G0T:= @Nat.succ_mul
abbrev G0U:= @List.min?_eq_some_iff
abbrev G0V:= @Nat.zero_mod
abbrev G0W:= @PySem.W.kat_nil
abbrev G0X:= @List.filter_nil
abbrev G0Y:= @PySem.typeIs_int
abbrev G0Z:= @PySem.Walks.list
abbrev G00:= @Bool.or_eq_false_iff
abbrev G01:= @PySem.intBits_le_iff
abbrev G02:= @List.getLast?_concat
abbrev G03:= @List.getElem?_of_mem
abbrev G04:= @PySem.wpAny_bindName
abbrev G05:= @List.drop_take
abbrev G06:= @List.take_take
abbrev G07:= @List.filterMap_cons
abbrev G08:= @PySem.sizeLine_eq
abbrev G09:= @PyProof.Rows.lt_int
abbrev G1a:= @PySem.wpAny_field
abbrev G1b:= @List.take_succ_cons
abbrev G1c:= @List.map_id
abbrev G1d:= @List.flatMap_append
abbrev G1e:= @List.filter_eq_self
abbrev G1f:= @if_false
abbrev G1g:= @PySem.wpAny_Name
abbrev G1h:= @Nat.add_comm
abbrev G1i:= @Nat.mul_comm
abbrev G1j:= @List.any_map
abbrev G1k:= @Int.mul_comm
abbrev G1l:= @Nat.mul_succ
abbrev G1m:= @Nat.mul_zero
abbrev G1n:= @Nat.sub_self
abbrev G1o:= @Nat.zero_mul
abbrev G1p:= @Nat.dvd_refl
abbrev G1q:= @Nat.le_total
abbrev G1r:= @Classical.em
abbrev G1s:= @Int.pow_pos
abbrev G1t:= @Nat.add_mod
namespace L2
open PySem PySem.Spec PyProof.Rows
abbrev Key:=Sum Int Str
def QL:Key->Value->Bool
 | .inl k,v=>Value.isInt k v
 | .inr x,v=>Value.isStrOf x v
def Hh (w:World):Key->Int
 | .inl k=>hashInt k
 | .inr x=>hashStr w x
theorem jJ: ∀ {k:Key} {v:Value},QL k v=true->(∃i t,k=Sum.inl i/\v=Value.int i t)\/(∃x t,k=Sum.inr x/\v=Value.str x t)
 | .inl i,v,h=>by
  obtain⟨t,e⟩:=Value.isInt_shape (k:=i) (v:=v) h;exact .inl ⟨i,t,rfl,e⟩
 | .inr x,v,h=>by
  obtain⟨t,e⟩:=Value.isStrOf_shape (x:=x) (v:=v) h;exact .inr ⟨x,t,rfl,e⟩
theorem GQ (i:Int)(t:Tok):QL (.inl i) (.int i t)=true:=by simp [QL,Value.isInt]
theorem GR (x:Str)(t:Tok):QL (.inr x) (.str x t)=true:=by simp [QL,Value.isStrOf]
theorem Lj (a b:Int):decide ((Sum.inl a:Key)=Sum.inl b)=(a==b):=by
 by_cases e:a=b
 ·subst e;simp
 ·have h: ¬ (Sum.inl a:Key)=Sum.inl b:=λq=>e (Sum.inl.inj q)
  rw [D1 h];exact(U9.mpr e).symm
theorem Lk (a b:Str):decide ((Sum.inr a:Key)=Sum.inr b)=decide (a=b):=by
 by_cases e:a=b
 ·subst e;simp
 ·have h: ¬ (Sum.inr a:Key)=Sum.inr b:=λq=>e (Sum.inr.inj q)
  rw [D1 h,D1 e]
theorem Ll (a:Int)(b:Str):decide ((Sum.inl a:Key)=Sum.inr b)=false:=D1 (λq=>nomatch q)
theorem Lm (a:Str)(b:Int):decide ((Sum.inr a:Key)=Sum.inl b)=false:=D1 (λq=>nomatch q)
def zg (prog:Program)(w:World):PySem.KeyKind prog w Key where
 is:=QL
 hash:=Hh w
 inj:=λv a b ha hb=>by
  rcases jJ ha with ⟨i,t,rfl,rfl⟩|⟨x,t,rfl,rfl⟩
  ·rcases jJ hb with ⟨j,u,rfl,e⟩|⟨y,u,rfl,e⟩
   ·injection e with e1 _;rw [e1]
   ·exact nomatch e
  ·rcases jJ hb with ⟨j,u,rfl,e⟩|⟨y,u,rfl,e⟩
   ·exact nomatch e
   ·injection e with e1 _;rw [e1]
 byValue:=λk v h=>by
  rcases jJ h with ⟨i,t,rfl,rfl⟩|⟨x,t,rfl,rfl⟩<;>rfl
 pyHash:=λhv h=>by
  rcases jJ hv with ⟨i,t,rfl,rfl⟩|⟨x,t,rfl,rfl⟩
  ·exact wpAny_pyHash_int h
  ·exact wpAny_pyHash_str h
 eqBool:=λhu hv h=>by
  rcases jJ hu with ⟨i,t,rfl,rfl⟩|⟨x,t,rfl,rfl⟩
  ·rcases jJ hv with ⟨j,u,rfl,rfl⟩|⟨y,u,rfl,rfl⟩
   ·rw [Lj] at h;exact wpAny_eqBool_int h
   ·rw [Ll] at h;exact SeqAt.EqAt.int_str i t y u _ _ _ _ h
  ·rcases jJ hv with ⟨j,u,rfl,rfl⟩|⟨y,u,rfl,rfl⟩
   ·rw [Lm] at h;exact SeqAt.EqAt.str_int x t j u _ _ _ _ h
   ·rw [Lk] at h;exact wpAny_eqBool_str h
 «strs» :=λk x t v h=>by
  rcases jJ h with ⟨i,u,rfl,e⟩|⟨y,u,rfl,e⟩
  ·exact nomatch e
  ·injection e with e1 _
   subst e1;cases v<;>rfl
theorem UO (prog:Program)(w:World)(i:Int)(t:Tok):(zg prog w).is (.inl i) (.int i t)=true:=GQ i t
theorem UP (prog:Program)(w:World)(x:Str)(t:Tok):(zg prog w).is (.inr x) (.str x t)=true:=GR x t
inductive V where
 |non|bl (b:Bool)|int (i:Int)|str (x:Str)|byt (b:Array UInt8)|flt (b:UInt64)|ref (a:Addr)|ty (n:String)
 deriving DecidableEq
def RelV:V->Value->Prop
 | .non,u=>u=Value.none
 | .bl b,u=>u=Value.bool b
 | .int i,u=> ∃t,u=Value.int i t
 | .str x,u=> ∃t,u=Value.str x t
 | .byt b,u=> ∃t,u=Value.bytes b t
 | .flt b,u=> ∃t,u=Value.float b t
 | .ref a,u=>u=Value.ref a
 | .ty n,u=>u=Value.type n
abbrev Vals:List V->List Value->Prop:=Paired RelV
theorem Vals.length {xs:List V}{us:List Value}(r:Vals xs us):xs.length=us.length:=Paired.length r
theorem Vals.get: ∀ {xs:List V} {us:List Value} {i:Nat} {x:V},Vals xs us->xs[i]? =some x-> ∃u,us[i]? =some u/\RelV x u
 |_,_,_,_,.nil,e=>by simp at e
 |_,_,0,_,.cons r _,e=>by simp at e;subst e;exact⟨_,rfl,r⟩
 |_,_,i+1,x,.cons _ t,e=>by
  obtain⟨u,h1,h2⟩:=Vals.get (i:=i) (x:=x) t (by simpa using e);exact⟨u,by simpa using h1,h2⟩
variable {u:Value}
theorem Vals.set {x:V}(r:RelV x u): ∀ {xs:List V} {us:List Value} (i:Nat),Vals xs us->Vals (xs.set i x) (us.set i u)
 |_,_,_,.nil=> .nil
 |_,_,0,.cons _ t=> .cons r t
 |_,_,i+1,.cons q t=> .cons q (Vals.set r i t)
theorem Vals.append: ∀ {xs ys:List V} {us ws:List Value},Vals xs us->Vals ys ws->Vals (xs++ys) (us++ws)
 |_,_,_,_,.nil,s=>s
 |_,_,_,_,.cons r t,s=> .cons r (Vals.append t s)
theorem Vals.take: ∀ {xs:List V} {us:List Value} (n:Nat),Vals xs us->Vals (xs.take n) (us.take n)
 |_,_,0,_=> .nil
 |_,_,_+1,.nil=> .nil
 |_,_,n+1,.cons r t=> .cons r (Vals.take n t)
theorem Vals.drop: ∀ {xs:List V} {us:List Value} (n:Nat),Vals xs us->Vals (xs.drop n) (us.drop n)
 |_,_,0,r=>r
 |_,_,_+1,.nil=> .nil
 |_,_,n+1,.cons _ t=>Vals.drop n t
def RelO:Option V->Option Value->Prop
 |some v,some u=>RelV v u
 |none,none=>True
 |_,_=>False
def KV {κ:Type}:List (κ×V)->List (κ×Value)->Prop:=Paired λ(p:κ×V) (q:κ×Value)=>p.1=q.1/\RelV p.2 q.2
def kV:Key->V
 | .inl i=> .int i
 | .inr x=> .str x
inductive HO where
 /-- a list -/
 |lst (xs:List V)
 /-- a tuple (never changes) -/
 |tup (xs:List V)
 /-- a dict whose keys are ints and texts;one whose keys are tuples of ints and texts (the empty one is both) -/
 |dK (kvs:List (Key×V))|dT (kvs:List (List Key×V))
 /-- a set of ints: its members,its size -/
 |set (S:Int->Bool) (n:Nat)
 /-- an instance of the class at C,its dict at dx,its attributes -/
 |ins (C dx:Addr) (fs:List (Str×V))
 /-- the dict of the instance at x -/
 |own (x:Addr)
 /-- the dict of an exception -/
 |xd (fs:List (Str×V))
 /-- a bound method,f of x -/
 |met (f x:Addr)
 /-- a range object lo,lo+1,.. below hi -/
 |rng (lo hi:Int)
 /-- a thing that is known to the object (the script;a dict while a loop walks it):read,never written while it is so -/
 |frz (o:Obj) (u:HO)
 /-- a code object's table -/
 |tbl (ps:Array Value)
 /-- any other thing,by what is true of its one object (a def of one's own: SetO a S n:=HO.ext λh=> ..) -/
 |ext (φ:Heap->Prop)
abbrev Hp:=Addr->Option HO
def upd (H:Hp)(a:Addr)(o:HO):Hp:=λb=>if b=a then some o else H b
variable {H:Hp}{a:Addr}{o:HO}
theorem jl:upd H a o a=some o:=by unfold upd;rw [if_pos rfl]
variable {b:Addr}
theorem jh (h:b≠a):upd H a o b=H b:=by unfold upd;rw [if_neg h]
theorem QM {u:HO}(h:H a=some o)(h':H b=some u)(d:o≠u):a≠b:=by
 intro e;subst e;rw [h] at h';exact d (N3 h')
theorem jj (h:H a=some o)(h':H b=none):a≠b:=by
 intro e;subst e;rw [h] at h';cases h'
def IsTupN (h:Heap)(a:Addr)(items:Array Value):Prop:= ∃o,h.get? a=some o/\o.cls= .type "tuple" /\o.dict=none/\ ∃n,o.data= .seq items n
theorem IsTupN.tup {h:Heap}{a:Addr}{items:Array Value}(x:IsTupN h a items):IsTup h a items:=let ⟨o,e,c,_,n,d⟩:=x;⟨o,e,c,n,d⟩
theorem IsTupN.new (h:Heap)(items:Array Value):IsTupN (h.push {cls:= .type "tuple",data:= .seq items}) h.objs.size items:=⟨_,D9 _ rfl,rfl,rfl,_,rfl⟩
section
variable (P:Program)(w:World)
def ObjOk (H:Hp)(h:Heap)(a:Addr):HO->Prop
 | .lst xs=>xs.length<=sizeLine/\ ∃ (its:List Value) (n:Nat),Vals xs its/\h.get? a=some {cls:= .type "list",data:= .seq its.toArray n}
 | .tup xs=>xs.length<=sizeLine/\ ∃its:List Value,Vals xs its/\IsTupN h a its.toArray
 | .dK kvs=>kvs.length<=sizeLine/\(a==sysModules)=false/\ ∃vs,KV kvs vs/\h.DictOf (zg P w) a vs
 | .dT kvs=>kvs.length<=sizeLine/\(a==sysModules)=false/\ ∃xs:List (List Key×Addr×Value),
  Paired (λ(p:List Key×V) (q:List Key×Addr×Value)=>p.1=q.1/\H q.2.1=some (.tup (p.1.map kV))/\RelV p.2 q.2.2) kvs xs/\
  ∃o es ep,h.get? a=some o/\o.ExactDict/\o.data= .dict es ep/\es.toList=xs.map (entryOfKey (tupleKind (zg P w)))/\(xs.map (·.1)).Nodup
 | .set S n=>h.SetOf (intKind P w) a S n
 | .ins C dx fs=>H dx=some (.own a)/\fs.length<=1000/\dx≠a/\h.get? a=some (PySem.W.instObj C dx)/\
  ∃mA,h.Ns1 dx mA/\(∀f,RelO (fs.lookup f) (mA f))/\PySem.Within mA (fs.map (·.1))
 | .own _=> ∃o,h.get? a=some o
 | .xd fs=> ∃mA,h.Ns1 a mA/\ ∀f,RelO (fs.lookup f) (mA f)
 | .rng lo hi=> ∃t u v,h.get? a=some {cls:= .type "range",data:= .fields #[.int lo t,.int hi u,.int 1 v]}
 | .frz o u=>h.get? a=some o/\ObjOk H h a u
 | .tbl ps=>h.get? a=some {cls:= .none,data:= .fields ps}
 | .met f x=>h.get? a=some (PySem.W.methodObj (.ref f) (.ref x))
 | .ext φ=>φ h/\(∃o,h.get? a=some o)/\ ∀h1 h2:Heap,φ h1->(∀o,h1.get? a=some o->h2.get? a=some o)->φ h2
def HOk (H:Hp)(h:Heap):Prop:= ∀a o,H a=some o->ObjOk P w H h a o
end
section
variable {P:Program}{w:World}{H H':Hp}{h h':Heap}{a:Addr}{o:HO}
theorem ObjOk.lt (x:ObjOk P w H h a o):a<h.objs.size:=by
 cases o with
 |lst xs=>obtain⟨_,_,_,_,e⟩:=x;exact P5 e
 |tup xs=>obtain⟨_,_,_,p⟩:=x;exact p.tup.lt
 |dK kvs=>obtain⟨_,_,_,_,o,_,_,e,_⟩:=x;exact P5 e
 |dT kvs=>obtain⟨_,_,_,_,o,_,_,e,_⟩:=x;exact P5 e
 |set S n=>obtain⟨o,_,_,_,e,_⟩:=x;exact P5 e
 |ins C dx fs=>obtain⟨_,_,_,e,_⟩:=x;exact P5 e
 |own y=>obtain⟨_,e⟩:=x;exact P5 e
 |xd fs=>obtain⟨_,⟨_,_,_,e,_⟩,_⟩:=x;exact P5 e
 |rng lo hi=>obtain⟨_,_,_,e⟩:=x;exact P5 e
 |frz ob u=>obtain⟨e,_⟩:=x;exact P5 e
 |tbl ps=>exact P5 (show h.get? a=some _ from x)
 |met f y=>exact P5 (show h.get? a=some _ from x)
 |ext φ=>obtain⟨_,⟨_,e⟩,_⟩:=x;exact P5 e
theorem Paired.mapP {α β:Type}{F G:α->β->Prop}: ∀ {l₁:List α} {l₂:List β},Paired F l₁ l₂->(∀a b,F a b->G a b)->Paired G l₁ l₂
 |_,_,.nil,_=> .nil
 |_,_,.cons r t,f=> .cons (f _ _ r) (Paired.mapP t f)
theorem ObjOk.stay (x:ObjOk P w H h a o)(k: ∀b u,(b=a\/H b=some (.own a))->h.get? b=some u->h'.get? b=some u)
 (ho: ∀b,H b=some (.own a)->H' b=some (.own a))(ht: ∀b xs,H b=some (.tup xs)->H' b=some (.tup xs)):ObjOk P w H' h' a o:=by
 induction o with
 |lst xs=>obtain⟨z,its,n,r,e⟩:=x;exact⟨z,its,n,r,k _ _ (.inl rfl) e⟩
 |tup xs=>obtain⟨z,its,r,ob,e,c⟩:=x;exact⟨z,its,r,ob,k _ _ (.inl rfl) e,c⟩
 |dK kvs=>obtain⟨z,y,vs,r,ob,es,ep,e,c⟩:=x;exact⟨z,y,vs,r,ob,es,ep,k _ _ (.inl rfl) e,c⟩
 |dT kvs=>
  obtain⟨z,y,xs,r,ob,es,ep,e,c⟩:=x;exact⟨z,y,xs,Paired.mapP r λp q z=>⟨z.1,ht _ _ z.2.1,z.2.2⟩,ob,es,ep,k _ _ (.inl rfl) e,c⟩
 |set S n=>obtain⟨ob,es,ep,t,e,c⟩:=x;exact⟨ob,es,ep,t,k _ _ (.inl rfl) e,c⟩
 |ins C dx fs=>
  obtain⟨d,z,ne,e,mA,⟨od,es,ep,e2,c⟩,r⟩:=x;exact⟨ho _ d,z,ne,k _ _ (.inl rfl) e,mA,⟨od,es,ep,k _ _ (.inr d) e2,c⟩,r⟩
 |own y=>obtain⟨ob,e⟩:=x;exact⟨ob,k _ _ (.inl rfl) e⟩
 |xd fs=>obtain⟨mA,⟨od,es,ep,e,c⟩,r⟩:=x;exact⟨mA,⟨od,es,ep,k _ _ (.inl rfl) e,c⟩,r⟩
 |rng lo hi=>obtain⟨t,u,v,e⟩:=x;exact⟨t,u,v,k _ _ (.inl rfl) e⟩
 |frz ob u ih=>obtain⟨e,q⟩:=x;exact⟨k _ _ (.inl rfl) e,ih q⟩
 |tbl ps=>
  have e:h.get? a=some {cls:= .none,data:= .fields ps}:=x;show h'.get? a=some {cls:= .none,data:= .fields ps};exact k a _ (.inl rfl) e
 |met f y=>
  have e:h.get? a=some (PySem.W.methodObj (.ref f) (.ref y)):=x;show h'.get? a=some (PySem.W.methodObj (.ref f) (.ref y));exact k a _ (.inl rfl) e
 |ext φ=>obtain⟨p,⟨o,e⟩,st⟩:=x;exact⟨st _ _ p λo q=>k _ _ (.inl rfl) q,⟨o,k _ _ (.inl rfl) e⟩,st⟩
theorem HOk.lt (x:HOk P w H h)(e:H a=some o):a<h.objs.size:=(x a o e).lt
theorem HOk.fresh (x:HOk P w H h)(e:h.objs.size<=a):H a=none:=by
 cases q:H a with
 |none=>rfl
 |some u=>exact absurd (D6 (x.lt q) e) (M5 _)
theorem HOk.kept (x:HOk P w H h)(k: ∀b u,h.get? b=some u->h'.get? b=some u):HOk P w H h':=λa o e=>
 (x a o e).stay (λb u _ q=>k b u q) (λ_ q=>q) λ_ _ q=>q
theorem HOk.laid (x:HOk P w H h)(k: ∀b u,h.get? b=some u->h'.get? b=some u)(hp:h.objs.size<=a)(new:ObjOk P w (upd H a o) h' a o):HOk P w (upd H a o) h':=λb u e=>by
 have hn:=x.fresh hp
 by_cases hb:b=a
 ·subst hb;rw [jl] at e;cases e;exact new
 ·rw [jh hb] at e;exact(x b u e).stay (λc v _ q=>k c v q) (λc q=>by rw [jh (jj q hn)];exact q) λc xs q=>by rw [jh (jj q hn)];exact q
end
def Rd (H:Hp)(a:Addr)(u:HO):Prop:=H a=some u\/ ∃o,H a=some (.frz o u)
variable {P:Program}{w:World}{h:Heap}
theorem Rd.ok {u:HO}(r:Rd H a u)(x:HOk P w H h):ObjOk P w H h a u:=by
 rcases r with r|⟨o,r⟩
 ·exact x a u r
 ·obtain⟨_,q⟩:=x a _ r;exact q
def Mut:Option HO->Prop
 |some (.lst _)=>True
 |some (.dK _)=>True
 |some (.dT _)=>True
 |some (.set _ _)=>True
 |some (.ins _ _ _)=>True
 |some (.ext _)=>True
 |_=>False
section
variable {P:Program}{w:World}{H:Hp}{h h':Heap}{x e:Addr}{o':HO}
theorem HOk.write (ok:HOk P w H h)(mu:Mut (H x))(he:e=x\/H e=some (.own x))(k: ∀b u,b≠e->h.get? b=some u->h'.get? b=some u)(heo: ∃u,h'.get? e=some u)
 (new:ObjOk P w (upd H x o') h' x o'):HOk P w (upd H x o') h':=λb u q=>by
 have nown: ∀c y,H c=some (.own y)->c≠x:=λc y r z=>by subst z;rw [r] at mu;exact mu
 have ntup: ∀c xs,H c=some (.tup xs)->c≠x:=λc xs r z=>by subst z;rw [r] at mu;exact mu
 by_cases hb:b=x
 ·subst hb;rw [jl] at q;cases q;exact new
 ·rw [jh hb] at q
  by_cases hbe:b=e
  ·have q':H b=some (.own x):=by
    rcases he with z|z
    ·exact absurd (hbe.trans z) hb
    ·rw [hbe];exact z
   rw [q] at q';cases q';obtain⟨v,hv⟩:=heo;exact⟨v,by rw [hbe];exact hv⟩
  ·refine(ok b u q).stay (λc v hc r=>k c v ?_ r) (λc r=>by rw [jh (nown c b r)];exact r) λc xs r=>by rw [jh (ntup c xs r)];exact r
   rcases hc with rfl|hc
   ·exact hbe
   ·rintro rfl;rcases he with z|z
    ·exact nown c b hc z
    ·rw [hc] at z;cases z;exact hb rfl
end
structure Un (fs ex:List Addr)(H H':Hp)(h h':Heap):Prop where
 keep: ∀b o,h.get? b=some o->H b=none->b ∉ fs->b ∉ ex->h'.get? b=some o
 slot: ∀b o,h.get? b=some o->H b=none->b∈fs->b ∉ ex-> ∃sl,h'.get? b=some {o with slots:=sl}
 free: ∀b o,h.get? b=some o->H b=none->b ∉ ex->H' b=none
 there: ∀b o,h.get? b=some o->b ∉ ex-> ∃o',h'.get? b=some o'
 tups: ∀b xs,H b=some (.tup xs)->H' b=some (.tup xs)
 frzs: ∀b o u,H b=some (.frz o u)->H' b=some (.frz o u)
 tbls: ∀b ps,H b=some (.tbl ps)-> ∃more,H' b=some (.tbl (ps++more))
section
variable {fs fs' ex ex':List Addr}{H H1 H2:Hp}{h h1 h2 h':Heap}{a x e:Addr}{o:HO}
theorem Un.any (u:Un fs ex H H1 h h1){b:Addr}{ob:Obj}(q:h.get? b=some ob)(n:H b=none)(hx:b ∉ ex): ∃sl,h1.get? b=some {ob with slots:=sl}:=by
 by_cases hb:b∈fs
 ·exact u.slot b ob q n hb hx
 ·exact⟨ob.slots,u.keep b ob q n hb hx⟩
theorem Un.kept (k: ∀b u,h.get? b=some u->h'.get? b=some u):Un fs ex H H h h':=
 ⟨λb ob q _ _ _=>k b ob q,λb ob q _ _ _=>⟨ob.slots,k b ob q⟩,λ_ _ _ n _=>n,λb ob q _=>⟨ob,k b ob q⟩,λ_ _ q=>q,λ_ _ _ q=>q,λ_ ps q=>⟨#[],by rw [q];simp⟩⟩
theorem Un.refl:Un fs ex H H h h:=Un.kept λ_ _ q=>q
theorem Un.laid (k: ∀b u,h.get? b=some u->h'.get? b=some u)(hp:h.objs.size<=a)(hn:H a=none):Un fs ex H (upd H a o) h h' where
 keep:=λb u q _ _ _=>k b u q
 slot:=λb u q _ _ _=>⟨u.slots,k b u q⟩
 free:=λb u q n _=>by rw [jh (R6 (D6 (P5 q) hp))];exact n
 there:=λb u q _=>⟨u,k b u q⟩
 tups:=λb xs q=>by rw [jh (jj q hn)];exact q
 frzs:=λb u xs q=>by rw [jh (jj q hn)];exact q
 tbls:=λb ps q=>⟨#[],by rw [jh (jj q hn),q];simp⟩
theorem Un.write (mu:Mut (H x))(he:e=x\/H e=some (.own x))(k: ∀b u,b≠e->h.get? b=some u->h'.get? b=some u)(heo: ∃u,h'.get? e=some u):Un fs ex H (upd H x o) h h':=by
 have hx: ∀b,H b=none->b≠x:=λb n z=>by subst z;rw [n] at mu;exact mu
 have hb: ∀b,H b=none->b≠e:=λb n z=>by
  subst z;rcases he with r|r
  ·exact hx b n r
  ·rw [n] at r;cases r
 have hm: ∀b u,H b=some u-> ¬Mut (some u)->b≠x:=λb u q nm z=>by subst z;rw [q] at mu;exact nm mu
 refine⟨λb u q n _ _=>k b u (hb b n) q,λb u q n _ _=>⟨u.slots,k b u (hb b n) q⟩,λb u q n _=>by rw [jh (hx b n)];exact n,λb u q _=> ?_,
  λb xs q=>by rw [jh (hm b _ q λz=>z)];exact q,λb u xs q=>by rw [jh (hm b _ q λz=>z)];exact q,λb ps q=>⟨#[],by rw [jh (hm b _ q λz=>z),q];simp⟩⟩
 by_cases hbe:b=e
 ·subst hbe;exact heo
 ·exact⟨u,k b u hbe q⟩
end
def trk (h:Heap)(H:Hp):List Addr:=(List.range h.objs.size).filter λa=>(H a).isSome
def Mi (h:Heap)(H:Hp):Heap:=PySem.W.hideAll h (trk h H)
theorem GT (h:Heap)(H:Hp):(Mi h H).objs.size=h.objs.size:=PySem.W.hideAll_size _ _
theorem Yy {o:Obj}(e:h.get? b=some o)(n:H b=none):(Mi h H).get? b=some o:=
 J9 _ e λhm=>by
  have q:(H b).isSome=true:=(S8.mp hm).2;rw [n] at q;simp at q
theorem Bz {o:Obj}(e:(Mi h H).get? b=some o):h.get? b=some o/\H b=none:=by
 have e':h.get? b=some o:=G0m (trk h H) e;refine⟨e',?_⟩;cases q:H b with
 |none=>rfl
 |some x=>
  have hm:b∈trk h H:=S8.mpr ⟨P2.mpr (P5 e'),by simp [q]⟩;have z:(Mi h H).get? b=none:=J4 (trk h H) hm;rw [z] at e;cases e
def BB (g h:Heap)(L:Addr):List (Addr×Obj):=(List.range h.objs.size).filterMap λa=>if a=L\/(g.get? a).isSome=true then none else (h.get? a).map λo=>(a,o)
def rest (g h:Heap)(L d:Addr):List (Addr×Obj):=(BB g h L).filter λp=>decide (p.1≠d)
structure Mod (K:PySem.W.Frag)(mg:Str->Option Value)(base:Heap):Prop where
 kin:K.In base
 glob:base.Ns mainGlobals mg
 blt: ∃mb,base.Ns builtinsNs mb/\ ∀x:Str,x≠ "__name__" ->mb x=bootBuiltins x
 nolimit:base.NoLimit
structure Cx where
 prog:Program
 w:World
 K:PySem.W.Frag
 mg:Str->Option Value
 base:Heap
 A:Around
 N:List Str
 s₀:Shared
 H₀:Hp
 env:Env
 outer:List Env
 stack:List Env
 ex:List Addr
 fn:Str->Bool
 calm:Bool
 pn:List (Addr×Obj)
 xe:Value->Shared->Prop
def frs (l:List Env):List Addr:=l.filterMap (·.frame)
abbrev Cx.fs (X:Cx):List Addr:=frs X.outer
def Vis (sc:Scope)(x:Str):Prop:=sc.names.lookup x=some .local\/sc.names.lookup x=some .cell\/sc.names.lookup x=some .free
def Loc (sc:Scope)(x:Str):Prop:=sc.names.lookup x=some .local\/sc.names.lookup x=some .cell
def Hi (env:Env)(h:Heap)(m:Str->Option Value)(x:Str)(u:Value):Prop:=
 (env.kindOf x=some .local/\m x=some u)\/((env.kindOf x=some .cell\/env.kindOf x=some .free)/\ ∃c,env.cells.lookup x=some c/\h.IsCell c (some u))
structure Cx.Ok (X:Cx):Prop where
 mod:Mod X.K X.mg X.base
 kind:X.env.scope.kind= .function
 glob:X.env.globals=mainGlobals
 blt:X.env.builtins=builtinsNs
 above:X.s₀.heap.objs.size<=X.env.locals
 inj: ∀x y c,X.env.cells.lookup x=some c->X.env.cells.lookup y=some c->x=y
 has: ∀x,(X.env.kindOf x=some .cell\/X.env.kindOf x=some .free)-> ∃c,X.env.cells.lookup x=some c
 cab: ∀x c,X.fn x=true->X.env.cells.lookup x=some c->X.s₀.heap.objs.size<=c
 hd:X.calm=true->X.A.handled=none
 frames:X.A.frames=some X.stack
 stk:X.stack=X.outer\/(X.stack=X.env::X.outer/\X.env.frame=some X.env.locals)
 exf: ∀b∈X.ex,b≠X.env.locals/\ ∀x c,X.env.cells.lookup x=some c->c≠b
 bs: ∀b o,X.base.get? b=some o->X.s₀.heap.get? b=some o/\X.H₀ b=none
 bsz:X.base.objs.size<=X.s₀.heap.objs.size
 noex: ∀b o,X.base.get? b=some o->b ∉ X.ex
 exfs: ∀b∈X.ex,b ∉ X.fs
 funs:X.s₀.heap.FunFrames X.base X.outer
 frf: ∀b∈X.fs,X.H₀ b=none
structure Inv (X:Cx)(pins:List (Addr×Obj))(σ:List (Option V))(H:Hp)(s:Shared):Prop where
 ok:X.Ok
 os:s.os=X.s₀.os
 bare:AllBare s.gens
 base:Un X.fs X.ex X.H₀ H X.s₀.heap s.heap
 loc: ∃m,s.heap.Ns X.env.locals m/\ ∀ (i:Nat) (x:Str) (v:V),X.N[i]? =some x->σ[i]? =some (some v)->Vis X.env.scope x-> ∃u,RelV v u/\Hi X.env s.heap m x u
 cell: ∀x c,X.env.cells.lookup x=some c-> ∃v,s.heap.IsCell c v
 free:H X.env.locals=none
 freeC: ∀x c,X.env.cells.lookup x=some c->H c=none
 pin: ∀p∈X.pn++pins,s.heap.get? p.1=some p.2/\H p.1=none/\p.1≠X.env.locals/\p.1 ∉ X.fs/\ ∀v,p.2.data≠ .cell v
 hok:HOk X.prog X.w H s.heap
 len:σ.length=X.N.length
section
variable {X:Cx}{pins:List (Addr×Obj)}{σ:List (Option V)}{H H':Hp}{s:Shared}{h':Heap}
theorem Cx.Ok.nofr (ok:X.Ok){b:Addr}{o:Obj}(e:X.base.get? b=some o):b ∉ X.fs:=λhb=>by
 have:=(ok.funs.mem hb).1;rw [e] at this;cases this
theorem Inv.bs (I:Inv X pins σ H s): ∀b o,X.base.get? b=some o->s.heap.get? b=some o/\H b=none:=λb o e=>
 ⟨I.base.keep b o (I.ok.bs b o e).1 (I.ok.bs b o e).2 (I.ok.nofr e) (I.ok.noex b o e),I.base.free b o (I.ok.bs b o e).1 (I.ok.bs b o e).2 (I.ok.noex b o e)⟩
theorem Inv.bk (I:Inv X pins σ H s): ∀b o,X.base.get? b=some o->s.heap.get? b=some o:=λb o e=>(I.bs b o e).1
theorem Inv.mod (I:Inv X pins σ H s):Mod X.K X.mg X.base:=I.ok.mod
theorem Inv.kIn (I:Inv X pins σ H s):X.K.In s.heap:=I.ok.mod.kin.keeps I.bk
theorem Inv.lt (I:Inv X pins σ H s):X.env.locals<s.heap.objs.size:=let ⟨_,hn,_⟩:=I.loc;hn.lt
theorem Inv.sz (I:Inv X pins σ H s):X.s₀.heap.objs.size<=s.heap.objs.size:=R9 I.ok.above (D5 I.lt)
theorem Inv.nofs (I:Inv X pins σ H s){a:Addr}(h:s.heap.objs.size<=a):a ∉ X.fs:=λhb=>by
 obtain⟨_,o,ho,_⟩:=I.ok.funs.mem hb;exact absurd (D6 (P5 ho) (R9 I.sz h)) (M5 _)
theorem Inv.cne (I:Inv X pins σ H s): ∀x c,X.env.cells.lookup x=some c->c≠X.env.locals:=λx c e z=>by
 obtain⟨v,o,ho,hd⟩:=I.cell x c e;obtain⟨m,⟨o',es,ep,ho',hd',_⟩,_⟩:=I.loc;rw [z,ho'] at ho;cases ho;rw [hd'] at hd;cases hd
theorem Inv.funs (I:Inv X pins σ H s):s.heap.FunFrames X.base X.outer:=by
 have all: ∀ (l:List Env),(∀b∈frs l,b∈X.fs)->X.s₀.heap.FunFrames X.base l->s.heap.FunFrames X.base l:=by
  intro l
  induction l with
  |nil=>intro _ _;trivial
  |cons env r ih=>
   intro hs hl;obtain⟨hk,⟨L,o,hf,hn,ho,hd⟩,hr⟩:=hl;have hL:L∈X.fs:=hs L (by unfold frs;rw [List.filterMap_cons,hf];exact List.mem_cons_self);obtain⟨sl,e⟩:=I.base.slot L o ho (I.ok.frf L hL) hL λz=>I.ok.exfs L z hL
   exact⟨hk,⟨L,_,hf,hn,e,hd⟩,ih (λb hb=>hs b (by unfold frs;rw [List.filterMap_cons,hf];exact List.mem_cons_of_mem _ hb)) hr⟩
 exact all X.outer (λ_ hb=>hb) I.ok.funs
theorem Inv.stack (I:Inv X pins σ H s):s.heap.FunFrames X.base X.stack:=by
 rcases I.ok.stk with e|⟨e,hf⟩
 ·rw [e];exact I.funs
 ·rw [e];obtain⟨m,hn,_⟩:=I.loc;refine .cons (by rw [I.ok.kind];decide) hf hn ?_ I.funs;exact Heap.get?_none_of_le (R9 I.ok.bsz I.ok.above)
theorem Inv.stkSub (I:Inv X pins σ H s): ∀b∈frs X.stack,b∈X.env.locals::X.fs:=λb hb=>by
 rcases I.ok.stk with e|⟨e,hf⟩
 ·rw [e] at hb;exact R1 _ hb
 ·rw [e] at hb;unfold frs at hb;rw [G07,hf] at hb;exact hb
theorem Inv.stkFree (I:Inv X pins σ H s): ∀b∈frs X.stack,H b=none:=λb hb=>by
 rcases D0.mp (I.stkSub b hb) with e|hb
 ·rw [e];exact I.free
 ·obtain⟨_,o,ho,_⟩:=I.ok.funs.mem hb;exact I.base.free b o ho (I.ok.frf b hb) λz=>I.ok.exfs b z hb
variable {t':Nat}
theorem Inv.step {g':Array GenState}{d':Drawn}{ch:List Addr}(I:Inv X pins σ H s)
 (hch: ∀b∈ch,(b∈X.ex\/X.s₀.heap.objs.size<=b)/\b≠X.env.locals/\(∀x c,X.env.cells.lookup x=some c->c≠b)/\ ∀p∈X.pn++pins,p.1≠b)
 (keep: ∀b o,b≠X.env.locals->b ∉ X.fs->b ∉ ch->s.heap.get? b=some o->H b=none->h'.get? b=some o)
 (slot: ∀b o,b≠X.env.locals->b∈X.fs->b ∉ ch->s.heap.get? b=some o->H b=none-> ∃sl,h'.get? b=some {o with slots:=sl})(free: ∀b o,b ∉ ch->s.heap.get? b=some o->H b=none->H' b=none)
 (there: ∀b o,b ∉ ch->s.heap.get? b=some o-> ∃o',h'.get? b=some o')
 (tups: ∀b xs,H b=some (.tup xs)->H' b=some (.tup xs))(frzs: ∀b o u,H b=some (.frz o u)->H' b=some (.frz o u))(tbls: ∀b ps,H b=some (.tbl ps)-> ∃more,H' b=some (.tbl (ps++more)))
 (ns: ∀m,s.heap.Ns X.env.locals m->h'.Ns X.env.locals m)(hok:HOk X.prog X.w H' h')(hg:AllBare g'):
 Inv X pins σ H' {s with heap:=h',gens:=g',drawn:=d',toks:=t'}:=by
 have neL: ∀b o,X.s₀.heap.get? b=some o->b≠X.env.locals:=λb o e=>R6 (D6 (P5 e) I.ok.above)
 have neC: ∀b o,X.s₀.heap.get? b=some o->b ∉ X.ex->b ∉ ch:=λb o e hx hb=>by
  rcases (hch b hb).1 with z|z
  ·exact hx z
  ·exact absurd (D6 (P5 e) z) (M5 _)
 have cellK: ∀x c,X.env.cells.lookup x=some c-> ∀v,s.heap.IsCell c v->h'.IsCell c v:=λx c e v ⟨o,ho,hd⟩=>by
  have nch:c ∉ ch:=λz=>(hch c z).2.2.1 x c e rfl
  by_cases hc:c∈X.fs
  ·obtain⟨sl,q⟩:=slot c o (I.cne x c e) hc nch ho (I.freeC x c e);exact⟨_,q,hd⟩
  ·exact⟨o,keep c o (I.cne x c e) hc nch ho (I.freeC x c e),hd⟩
 refine⟨I.ok,I.os,hg,⟨λb o e n hb hx=> ?_,λb o e n hb hx=> ?_,λb o e n hx=> ?_,λb o e hx=> ?_,λb xs e=>tups b xs (I.base.tups b xs e),λb o xs e=>frzs b o xs (I.base.frzs b o xs e),λb ps e=> ?_⟩,?_,λx c e=> ?_,?_,λx c e=> ?_,λp hp=> ?_,hok,I.len⟩
 ·exact keep b o (neL b o e) hb (neC b o e hx) (I.base.keep b o e n hb hx) (I.base.free b o e n hx)
 ·obtain⟨sl,e1⟩:=I.base.slot b o e n hb hx;obtain⟨sl',e2⟩:=slot b _ (neL b o e) hb (neC b o e hx) e1 (I.base.free b o e n hx);exact⟨sl',e2⟩
 ·obtain⟨o',e1⟩:=I.base.there b o e hx;exact free b o' (neC b o e hx) e1 (I.base.free b o e n hx)
 ·obtain⟨o',e1⟩:=I.base.there b o e hx;exact there b o' (neC b o e hx) e1
 ·obtain⟨m1,e1⟩:=I.base.tbls b ps e;obtain⟨m2,e2⟩:=tbls b _ e1;exact⟨m1++m2,by rw [e2,Array.append_assoc]⟩
 ·obtain⟨m,hn,hl⟩:=I.loc;refine⟨m,ns m hn,λi x v e1 e2 e3=> ?_⟩;obtain⟨u,r,l⟩:=hl i x v e1 e2 e3;refine⟨u,r,?_⟩;rcases l with l|⟨k,c,e,z⟩
  ·exact .inl l
  ·exact .inr ⟨k,c,e,cellK x c e _ z⟩
 ·obtain⟨v,z⟩:=I.cell x c e;exact⟨v,cellK x c e v z⟩
 ·obtain⟨m,⟨o,_,_,ho,_⟩,_⟩:=I.loc;exact free _ o (λz=>(hch _ z).2.1 rfl) ho I.free
 ·obtain⟨v,o,ho,hd⟩:=I.cell x c e;exact free c o (λz=>(hch c z).2.2.1 x c e rfl) ho (I.freeC x c e)
 ·obtain⟨e,n,ne,nf,d⟩:=I.pin p hp;have nch:p.1 ∉ ch:=λz=>(hch p.1 z).2.2.2 p hp rfl
  exact⟨keep p.1 p.2 ne nf nch e n,free p.1 p.2 nch e n,ne,nf,d⟩
theorem Inv.un (I:Inv X pins σ H s)(u:Un X.fs [] H H' s.heap h')(hok:HOk X.prog X.w H' h'):Inv X pins σ H' {s with heap:=h',toks:=t'}:=by
 obtain⟨m,⟨o,es,ep,ho,r⟩,_⟩:=id I.loc;obtain⟨sl,hL⟩:=u.any ho I.free (by simp);exact I.step (g':=s.gens) (d':=s.drawn) (ch:= []) (λ_ z=>nomatch z) (λb o _ hb _ e n=>u.keep b o e n hb (by simp)) (λb o _ hb _ e n=>u.slot b o e n hb (by simp)) (λb o _ e n=>u.free b o e n (by simp)) (λb o _ e=>u.there b o e (by simp)) u.tups u.frzs u.tbls (λm' hm=>by
  obtain⟨o',es',ep',ho',r'⟩:=hm;rw [ho] at ho';cases ho';exact⟨_,es',ep',hL,r'⟩) hok I.bare
theorem Inv.call {g':Array GenState}{d':Drawn}{ch:List Addr}(I:Inv X pins σ H s)(u:Un (frs X.stack) ch H H' s.heap h')(hok:HOk X.prog X.w H' h')(hg:AllBare g')
 (hch: ∀b∈ch,(b∈X.ex\/X.s₀.heap.objs.size<=b)/\b≠X.env.locals/\(∀x c,X.env.cells.lookup x=some c->c≠b)/\ ∀p∈X.pn++pins,p.1≠b):
 Inv X pins σ H' {s with heap:=h',gens:=g',drawn:=d',toks:=t'}:=by
 obtain⟨m,⟨o,es,ep,ho,r⟩,_⟩:=id I.loc;obtain⟨sl,hL⟩:=u.any ho I.free λz=>(hch _ z).2.1 rfl
 exact I.step (ch:=ch) hch (λb o hL hb hc e n=>u.keep b o e n (λz=>(D0.mp (I.stkSub b z)).elim hL hb) hc) (λb o _ _ hc e n=>u.any e n hc) (λb o hc e n=>u.free b o e n hc) (λb o hc e=>u.there b o e hc) u.tups u.frzs u.tbls (λm' hm=>by
  obtain⟨o',es',ep',ho',r'⟩:=hm;rw [ho] at ho';cases ho';exact⟨_,es',ep',hL,r'⟩) hok hg
theorem Inv.turned {it:Addr}(I:Inv X pins σ H s)(k: ∀b o,b≠it->s.heap.get? b=some o->h'.get? b=some o)(hn:H it=none)(hL:it≠X.env.locals)
 (h1:it∈X.ex\/X.s₀.heap.objs.size<=it)(h2: ∀x c,X.env.cells.lookup x=some c->c≠it)(h3: ∀p∈X.pn++pins,p.1≠it):Inv X pins σ H {s with heap:=h',toks:=t'}:=by
 have nit: ∀b u,H b=some u->b≠it:=λb u e z=>by rw [z,hn] at e;cases e
 refine I.step (g':=s.gens) (d':=s.drawn) (ch:= [it]) (λb hb=> ?_) (λb o _ _ hc e _=>k b o (λz=>hc (by simp [z])) e) (λb o _ _ hc e _=>⟨o.slots,k b o (λz=>hc (by simp [z])) e⟩) (λ_ _ _ _ n=>n)
  (λb o hc e=>⟨o,k b o (λz=>hc (by simp [z])) e⟩) (λ_ _ e=>e) (λ_ _ _ e=>e) (λb ps e=>⟨#[],by rw [e];simp⟩) (λm hm=> ?_) (λb u e=> ?_) I.bare
 ·have e:b=it:=by simpa using hb
  subst e;exact⟨h1,hL,h2,h3⟩
 ·obtain⟨o,es,ep,ho,r⟩:=hm;exact⟨o,es,ep,k _ o (Ne.symm hL) ho,r⟩
 ·refine(I.hok b u e).stay (λc v hc q=>k c v ?_ q) (λ_ q=>q) λ_ _ q=>q
  rcases hc with z|z
  ·rw [z];exact nit b u e
  ·exact nit c _ z
theorem Inv.tok (I:Inv X pins σ H s)(t:Nat):Inv X pins σ H {s with toks:=t}:=I.un (h':=s.heap) (t':=t) Un.refl I.hok
theorem Inv.kept (I:Inv X pins σ H s)(k: ∀b u,s.heap.get? b=some u->h'.get? b=some u):Inv X pins σ H {s with heap:=h',toks:=t'}:=I.un (Un.kept k) (I.hok.kept k)
theorem Inv.laid {a:Addr}{o:HO}(I:Inv X pins σ H s)(k: ∀b u,s.heap.get? b=some u->h'.get? b=some u)(hp:s.heap.objs.size<=a)(new:ObjOk X.prog X.w (upd H a o) h' a o):
 Inv X pins σ (upd H a o) {s with heap:=h',toks:=t'}:=I.un (Un.laid k hp (I.hok.fresh hp)) (I.hok.laid k hp new)
theorem Inv.write {x e:Addr}{o:HO}(I:Inv X pins σ H s)(mu:Mut (H x))(he:e=x\/H e=some (.own x))(k: ∀b u,b≠e->s.heap.get? b=some u->h'.get? b=some u)(heo: ∃u,h'.get? e=some u)
 (new:ObjOk X.prog X.w (upd H x o) h' x o):Inv X pins σ (upd H x o) {s with heap:=h',toks:=t'}:=I.un (Un.write mu he k heo) (I.hok.write mu he k heo new)
theorem Inv.weak {σ':List (Option V)}(I:Inv X pins σ H s)(hl:σ'.length=σ.length)(w: ∀ (i:Nat) v,σ'[i]? =some (some v)->σ[i]? =some (some v)):Inv X pins σ' H s:=
 ⟨I.ok,I.os,I.bare,I.base,let ⟨m,hn,hl'⟩:=I.loc;⟨m,hn,λi x v e1 e2 e3=>hl' i x v e1 (w i v e2) e3⟩,I.cell,I.free,I.freeC,I.pin,I.hok,hl.trans I.len⟩
theorem Inv.pins_of {pins':List (Addr×Obj)}(I:Inv X pins σ H s)(h: ∀p∈pins',s.heap.get? p.1=some p.2/\H p.1=none/\p.1≠X.env.locals/\p.1 ∉ X.fs/\ ∀v,p.2.data≠ .cell v):Inv X pins' σ H s:=
 ⟨I.ok,I.os,I.bare,I.base,I.loc,I.cell,I.free,I.freeC,λp hp=>(P9.mp hp).elim (λz=>I.pin p (T5 _ z)) (h p),I.hok,I.len⟩
theorem Yz {N:List Str}(hN:N.Nodup){i j:Nat}{x:Str}(a:N[i]? =some x)(b:N[j]? =some x):i=j:=by
 obtain⟨h1,e1⟩:=G5.mp a;obtain⟨h2,e2⟩:=G5.mp b;exact(List.getElem_inj hN).mp (e1.trans e2.symm)
theorem GV {M:Model}{A:Around}{E:Value->Shared->Prop}{i:Nat}{x:Str}{v:V}{u:Value}{Q:Unit->Shared->Prop}(I:Inv X pins σ H s)(hN:X.N.Nodup)(hi:X.N[i]? =some x)(hx:Loc X.env.scope x)(r:RelV v u)
 (h: ∀s',Inv X pins (σ.set i (some v)) H s'->(∃a,Heap.SameBut a s.heap s'.heap/\(a=X.env.locals\/X.env.cells.lookup x=some a))->Q () s')(hf:X.fn x=true\/X.env.scope.names.lookup x=some .local:=by first|exact .inl rfl|exact .inr rfl|assumption):wpAny M A (storeName X.env x u) Q E s:=by
 obtain⟨m,hn,hl⟩:=id I.loc;have hcls:(X.env.scope.kind== .class||(X.env.scope.kind== .module&&X.env.locals !=X.env.globals))=false:=by rw [I.ok.kind];rfl
 have hiσ:i<σ.length:=by rw [I.len];exact(G5.mp hi).1
 have cne:=I.cne;have tracked: ∀ {a:Addr} {h':Heap},(∃o,s.heap.get? a=some o/\H a=none)->Heap.SameBut a s.heap h'->HOk X.prog X.w H h':=λ{a h'} ha hs b ob e=>by
  obtain⟨_,_,hfree⟩:=ha;refine(I.hok b ob e).stay (λc w' hc q=>(hs.2 c ?_).trans q) (λ_ q=>q) λ_ _ q=>q
  rintro rfl;rcases hc with rfl|hc
  ·rw [hfree] at e;cases e
  ·rw [hfree] at hc;cases hc
 rcases hx with hk|hk
 ·refine wpAny_storeName_local hk hn (λh' hn' hs=> ?_) hcls;obtain⟨oL,_,_,hoL,_⟩:=id hn;refine h _ ⟨I.ok,I.os,I.bare,⟨λb o e n hb hx=> ?_,λb o e n hb hx=> ?_,I.base.free,λb o e hx=> ?_,I.base.tups,I.base.frzs,I.base.tbls⟩,⟨_,hn',λj y v' e1 e2 e3=> ?_⟩,λy c e=> ?_,I.free,I.freeC,λp hp=> ?_,tracked ⟨oL,hoL,I.free⟩ hs,by simpa using I.len⟩ ⟨_,hs,.inl rfl⟩
  ·exact(hs.2 b (R6 (D6 (P5 e) I.ok.above))).trans (I.base.keep b o e n hb hx)
  ·obtain⟨sl,e1⟩:=I.base.slot b o e n hb hx;exact⟨sl,(hs.2 b (R6 (D6 (P5 e) I.ok.above))).trans e1⟩
  ·obtain⟨o',e1⟩:=I.base.there b o e hx;exact⟨o',(hs.2 b (R6 (D6 (P5 e) I.ok.above))).trans e1⟩
  ·by_cases hj:j=i
   ·subst hj;rw [hi] at e1;cases e1;rw [A8 hiσ] at e2;cases e2;exact⟨u,r,.inl ⟨hk,by simp⟩⟩
   ·rw [N8 (Ne.symm hj)] at e2;obtain⟨u',r',q⟩:=hl j y v' e1 e2 e3;refine⟨u',r',?_⟩;rcases q with ⟨k,e⟩|⟨k,c,e,z⟩
    ·refine .inl ⟨k,?_⟩;have:y≠x:=λe=>hj (Yz hN e1 (e ▸ hi))
     simp [this,e]
    ·exact .inr ⟨k,c,e,z.sameBut hs (cne y c e)⟩
  ·obtain⟨w',z⟩:=I.cell y c e;exact⟨w',z.sameBut hs (cne y c e)⟩
  ·obtain⟨e,n,ne,nf,d⟩:=I.pin p hp;exact⟨(hs.2 p.1 ne).trans e,n,ne,nf,d⟩
 ·have hfn:X.fn x=true:=by
   rcases hf with z|z
   ·exact z
   ·rw [z] at hk;cases hk
  obtain⟨c,hc⟩:=I.ok.has x (.inl hk);obtain⟨w',z⟩:=I.cell x c hc;refine wpAny_storeName_cell I.ok.kind hk hc z (λh' hc' hs=> ?_);obtain⟨oc,hoc,hocd⟩:=id z;refine h {s with heap:=h'} ⟨I.ok,I.os,I.bare,⟨λb o e n hb hx=> ?_,λb o e n hb hx=> ?_,I.base.free,λb o e hx=> ?_,I.base.tups,I.base.frzs,I.base.tbls⟩,⟨m,hn.sameBut hs (Ne.symm (cne x c hc)),λj y v' e1 e2 e3=> ?_⟩,λy c' e=> ?_,I.free,I.freeC,λp hp=> ?_,tracked ⟨oc,hoc,I.freeC x c hc⟩ hs,by simpa using I.len⟩ ⟨c,hs,.inr hc⟩
  ·exact(hs.2 b (R6 (D6 (P5 e) (I.ok.cab x c hfn hc)))).trans (I.base.keep b o e n hb hx)
  ·obtain⟨sl,e1⟩:=I.base.slot b o e n hb hx;exact⟨sl,(hs.2 b (R6 (D6 (P5 e) (I.ok.cab x c hfn hc)))).trans e1⟩
  ·obtain⟨o',e1⟩:=I.base.there b o e hx;exact⟨o',(hs.2 b (R6 (D6 (P5 e) (I.ok.cab x c hfn hc)))).trans e1⟩
  ·by_cases hj:j=i
   ·subst hj;rw [hi] at e1;cases e1;rw [A8 hiσ] at e2;cases e2;exact⟨u,r,.inr ⟨.inl hk,c,hc,hc'⟩⟩
   ·rw [N8 (Ne.symm hj)] at e2;obtain⟨u',r',q⟩:=hl j y v' e1 e2 e3;refine⟨u',r',?_⟩;rcases q with q|⟨k,c',e,z'⟩
    ·exact .inl q
    ·refine .inr ⟨k,c',e,z'.sameBut hs ?_⟩;rintro rfl;exact hj (Yz hN e1 (I.ok.inj _ _ _ e hc ▸ hi))
  ·by_cases hcc:c'=c
   ·subst hcc;exact⟨_,hc'⟩
   ·obtain⟨w2,z2⟩:=I.cell y c' e;exact⟨w2,z2.sameBut hs hcc⟩
  ·obtain⟨e,n,ne,nf,d⟩:=I.pin p hp;refine⟨(hs.2 p.1 ?_).trans e,n,ne,nf,d⟩;intro q;rw [q,hoc] at e;have q':oc=p.2:=N3 e;exact d w' (by rw [<-q'];exact hocd)
theorem wz {M:Model}{A:Around}{E:Value->Shared->Prop}{i:Nat}{x:Str}{v:V}{u:Value}{Q:Unit->Shared->Prop}(I:Inv X pins σ H s)(hN:X.N.Nodup)(hi:X.N[i]? =some x)(hx:Loc X.env.scope x)(r:RelV v u)
 (h: ∀s',Inv X pins (σ.set i (some v)) H s'->Q () s')(hf:X.fn x=true\/X.env.scope.names.lookup x=some .local:=by first|exact .inl rfl|exact .inr rfl|assumption):wpAny M A (storeName X.env x u) Q E s:=
 GV I hN hi hx r (λs' I' _=>h s' I') hf
theorem Inv.call' {s':Shared}{ch:List Addr}(I:Inv X pins σ H s)(ho:s'.os=s.os)(u:Un (frs X.stack) ch H H' s.heap s'.heap)(hok:HOk X.prog X.w H' s'.heap)(hg:AllBare s'.gens)
 (hch: ∀b∈ch,(b∈X.ex\/X.s₀.heap.objs.size<=b)/\b≠X.env.locals/\(∀x c,X.env.cells.lookup x=some c->c≠b)/\ ∀p∈X.pn++pins,p.1≠b):Inv X pins σ H' s':=by
 obtain⟨h',g',d',t',o'⟩:=s';have e:o'=s.os:=ho;subst e;exact I.call (g':=g') (t':=t') (d':=d') u hok hg hch
end
abbrev XK:=Value->Option Addr->Hp->Prop
abbrev St:=List (Option V)
abbrev VK:=V->Hp->Prop
abbrev TE:=St->Hp->VK->Prop
abbrev TT:=St->Hp->(Bool->Hp->Prop)->Prop
abbrev TA:=St->Hp->(List V->Hp->Prop)->Prop
structure Ends where
 nx:St->Hp->Prop
 rt:VK
 bk:St->Hp->Prop:=λ_ _=>False
 ct:St->Hp->Prop:=λ_ _=>False
abbrev TS:=Ends->St->Hp->Prop
def EP (X:Cx)(pins:List (Addr×Obj))(σ:St)(Q:VK)(u:Value)(s':Shared):Prop:= ∃v H',Inv X pins σ H' s'/\RelV v u/\Q v H'
def TP (X:Cx)(pins:List (Addr×Obj))(σ:St)(Q:Bool->Hp->Prop)(b:Bool)(s':Shared):Prop:= ∃H',Inv X pins σ H' s'/\Q b H'
def AP (X:Cx)(pins:List (Addr×Obj))(σ:St)(Q:List V->Hp->Prop)(us:List Value)(s':Shared):Prop:= ∃vs H',Inv X pins σ H' s'/\Vals vs us/\Q vs H'
def SP (X:Cx)(pins:List (Addr×Obj))(D:Ends)(f:Flow)(s':Shared):Prop:=
 match f with
 | .next=> ∃σ' H',Inv X pins σ' H' s'/\D.nx σ' H'
 | .brk=> ∃σ' H',Inv X pins σ' H' s'/\D.bk σ' H'
 | .cont=> ∃σ' H',Inv X pins σ' H' s'/\D.ct σ' H'
 | .ret u=> ∃v σ' H',Inv X pins σ' H' s'/\RelV v u/\D.rt v H'
def PE (X:Cx)(e:Expr)(t:TE):Prop:=
 ∀ (pins:List (Addr×Obj)) (s:Shared) (σ:St) (H:Hp) (Q:VK),Inv X pins σ H s->t σ H Q->wpAny (model X.prog X.w) X.A (eval e X.env) (EP X pins σ Q) X.xe s
def PT (X:Cx)(e:Expr)(t:TT):Prop:=
 ∀ (pins:List (Addr×Obj)) (s:Shared) (σ:St) (H:Hp) (Q:Bool->Hp->Prop),Inv X pins σ H s->t σ H Q->wpAny (model X.prog X.w) X.A (isTrue e X.env (eval e X.env)) (TP X pins σ Q) X.xe s
def PW (X:Cx)(e:Expr)(t:TT):Prop:=
 ∀ (whole:Sem Value) (pins:List (Addr×Obj)) (s:Shared) (σ:St) (H:Hp) (Q:Bool->Hp->Prop),Inv X pins σ H s->t σ H Q->wpAny (model X.prog X.w) X.A (isTrue e X.env whole) (TP X pins σ Q) X.xe s
variable {X:Cx}
theorem PW.pt {e:Expr}{t:TT}(h:PW X e t):PT X e t:=h _
def PA (X:Cx)(es:List Expr)(t:TA):Prop:=
 ∀ (pos:Pos) (pins:List (Addr×Obj)) (s:Shared) (σ:St) (H:Hp) (Q:List V->Hp->Prop),Inv X pins σ H s->t σ H Q->wpAny (model X.prog X.w) X.A (spliced (backTo pos (starEach es X.env))) (AP X pins σ Q) X.xe s
def PS (X:Cx)(st:Stmt)(t:TS):Prop:=
 ∀ (pins:List (Addr×Obj)) (s:Shared) (σ:St) (H:Hp) (D:Ends),Inv X pins σ H s->t D σ H->wpAny (model X.prog X.w) X.A (exec st X.env) (SP X pins D) X.xe s
def PSs (X:Cx)(st:List Stmt)(t:TS):Prop:=
 ∀ (pins:List (Addr×Obj)) (s:Shared) (σ:St) (H:Hp) (D:Ends),Inv X pins σ H s->t D σ H->wpAny (model X.prog X.w) X.A (execs st X.env) (SP X pins D) X.xe s
variable {A:Around}{s:Shared}
theorem thn {α:Type}{t:Sem α}{Q Q':α->Shared->Prop}{M:Model}{E:Value->Shared->Prop}(h:wpAny M A t Q E s)(hQ: ∀a s,Q a s->Q' a s):wpAny M A t Q' E s:=R5 h hQ λ_ _ x=>x
section
variable {X:Cx}
def Tj (i:Nat):TE:=λσ H Q=> ∃v,σ[i]? =some (some v)/\Q v H
def tC (v:V):TE:=λ_ H Q=>Q v H
variable {x:Str}
theorem Ln {i:Nat}{pos:Pos}(hN:X.N[i]? =some x)(hv:Vis X.env.scope x)(hd:(x==("__debug__" :Str))=false:=by decide)(hcd:(x==("__classdict__" :Str))=false:=by decide):PE X (.Name x pos) (Tj i):=by
 intro pins s σ H Q I h;obtain⟨v,e,h⟩:=h;obtain⟨m,hn,hl⟩:=I.loc;obtain⟨u,r,l⟩:=hl i x v hN e hv;have fin:EP X pins σ Q u s:=⟨v,H,I,r,h⟩;rcases l with ⟨hk,hm⟩|⟨hk,c,hc,hcell⟩
 ·exact G1g (Y9 I.ok.kind hk hn hm fin) hd
 ·rcases hk with hk|hk
  ·exact G1g (wpAny_loadName_cell I.ok.kind hk hc hcell fin) hd
  ·exact G1g (wpAny_loadName_free I.ok.kind hk hc hcell fin hcd) hd
theorem pe_int {i j pos}:PE X (.Constant (.int i) j pos) (tC (.int i)):=λ_ _ _ H _ I h=>wpAny_Constant_int ⟨.int i,H,I.tok _,⟨_,rfl⟩,h⟩
theorem pe_bl {b j pos}:PE X (.Constant (.bool b) j pos) (tC (.bl b)):=λ_ _ _ H _ I h=>Constant_bool ⟨.bl b,H,I,rfl,h⟩
theorem pe_non {j pos}:PE X (.Constant .none j pos) (tC .non):=λ_ _ _ H _ I h=>Constant_none ⟨.non,H,I,rfl,h⟩
theorem pe_str {x j pos}:PE X (.Constant (.str x) j pos) (tC (.str x)):=λ_ _ _ H _ I h=>Calls.Constant_str ⟨.str x,H,I.tok _,⟨_,rfl⟩,h⟩
def Gl (X:Cx)(x:Str):Prop:=X.env.kindOf x=some .globalImplicit
variable {u:Value}
theorem Jy {E:Value->Shared->Prop}{pins:List (Addr×Obj)}{s:Shared}{σ:St}{H:Hp}{pos:Pos}{Q:Value->Shared->Prop}(I:Inv X pins σ H s)(hg:Gl X x)(hm:X.mg x=some u)(h:Q u s)
 (hd:(x==("__debug__" :Str))=false:=by decide):wpAny (model X.prog X.w) X.A (eval (.Name x pos) X.env) Q E s:=
 G0h I.ok.kind hg (Calls.loadGlobal_global (by rw [I.ok.glob];exact I.mod.glob.keeps I.bk) hm h) hd
theorem Yb {E:Value->Shared->Prop}{pins:List (Addr×Obj)}{s:Shared}{σ:St}{H:Hp}{pos:Pos}{Q:Value->Shared->Prop}(I:Inv X pins σ H s)(hg:Gl X x)(hm:X.mg x=none)(hv:bootBuiltins x=some u)(h:Q u s)
 (hn:x≠ "__name__" :=by decide)(hd:(x==("__debug__" :Str))=false:=by decide):wpAny (model X.prog X.w) X.A (eval (.Name x pos) X.env) Q E s:=by
 obtain⟨mb,h1,h2⟩:=I.mod.blt;exact G0h I.ok.kind hg (Calls.loadGlobal_builtin (by rw [I.ok.glob];exact I.mod.glob.keeps I.bk) hm (by rw [I.ok.blt];exact h1.keeps I.bk) ((h2 x hn).trans hv) h) hd
theorem GW {v:V}{pos:Pos}(hg:Gl X x)(hm:X.mg x=some u)(r:RelV v u)(hd:(x==("__debug__" :Str))=false:=by decide):PE X (.Name x pos) (tC v):=
 λ_ _ _ H _ I h=>Jy I hg hm ⟨v,H,I,r,h⟩ hd
theorem GX {v:V}{pos:Pos}(hg:Gl X x)(hm:X.mg x=none)(hv:bootBuiltins x=some u)(r:RelV v u)(hn:x≠ "__name__" :=by decide)(hd:(x==("__debug__" :Str))=false:=by decide):PE X (.Name x pos) (tC v):=
 λ_ _ _ H _ I h=>Yb I hg hm hv ⟨v,H,I,r,h⟩ hn hd
variable {a b:Expr}{ta tb:TE}{pos:Pos}
def tB (t:TE):TT:=λσ H Q=>t σ H λx H1=> ∃c,x= .bl c/\Q c H1
theorem Lo {e:Expr}{t:TE}(h:PE X e t)(he: ∀whole,isTrue e X.env whole=(do let v <-whole;standAt e.pos;holding [v] (truthy v)):=by intro _;rfl):PT X e (tB t):=by
 intro pins s σ H Q I hw;refine isTrue_plain (thn (h pins s σ H _ I hw) λv s1 ⟨x,H1,I1,r1,q1⟩=> ?_) (he _);obtain⟨d,rfl,q⟩:=q1;cases r1;exact N4 ⟨H1,I1,q⟩
variable {tA tB':TT}{rest:List Expr}
def Tk (t u:TT):TT:=λσ H Q=>t σ H λc H1=>if c=true then u σ H1 Q else Q false H1
def tOr (t u:TT):TT:=λσ H Q=>t σ H λc H1=>if c=true then Q true H1 else u σ H1 Q
def Tl (t:TT):TT:=λσ H Q=>t σ H λc H1=>Q (!c) H1
theorem BC (ha:PT X a tA):PW X (.BoolOp .And [a] pos) tA:=by
 intro wh pins s σ H Q I h;refine isTrue_and (thn (ha pins s σ H Q I h) λc s1 e=> ?_);cases c with
 |true=>exact isTrue_and_nil e
 |false=>exact e
theorem Lp (ha:PT X a tA):PW X (.BoolOp .Or [a] pos) tA:=by
 intro wh pins s σ H Q I h;refine isTrue_or (thn (ha pins s σ H Q I h) λc s1 e=> ?_);cases c with
 |false=>exact isTrue_or_nil e
 |true=>exact e
theorem Lq (ha:PT X a tA)(hb:PW X (.BoolOp .And (b::rest) pos) tB'):PW X (.BoolOp .And (a::b::rest) pos) (Tk tA tB'):=by
 intro wh pins s σ H Q I h;refine isTrue_and (thn (ha pins s σ H _ I h) λc s1 ⟨H1,I1,q1⟩=> ?_);cases c with
 |true=>exact hb wh pins s1 σ H1 Q I1 q1
 |false=>exact⟨H1,I1,q1⟩
theorem ED (ha:PT X a tA)(hb:PW X (.BoolOp .Or (b::rest) pos) tB'):PW X (.BoolOp .Or (a::b::rest) pos) (tOr tA tB'):=by
 intro wh pins s σ H Q I h;refine isTrue_or (thn (ha pins s σ H _ I h) λc s1 ⟨H1,I1,q1⟩=> ?_);cases c with
 |true=>exact⟨H1,I1,q1⟩
 |false=>exact hb wh pins s1 σ H1 Q I1 q1
theorem Lr (ha:PT X a tA):PT X (.UnaryOp .Not a pos) (Tl tA):=by
 intro pins s σ H Q I h;exact isTrue_not (ha pins s σ H (λc H1=>Q (!c) H1) I h)
def Ls (ta tb:TE):TE:=λσ H Q=>ta σ H λx H1=> ∃c,x= .bl c/\if c=true then tb σ H1 Q else Q (.bl false) H1
def Tn (ta tb:TE):TE:=λσ H Q=>ta σ H λx H1=> ∃c,x= .bl c/\if c=true then Q (.bl true) H1 else tb σ H1 Q
def Lt (ta:TE):TE:=λσ H Q=>ta σ H λx H1=> ∃c,x= .bl c/\Q (.bl (!c)) H1
theorem Lu {op}{t:TE}(h:PE X a t):PE X (.BoolOp op [a] pos) t:=λpins s σ H Q I hw=>BoolOp_one (h pins s σ H Q I hw)
theorem Lv (ha:PE X a ta)(hb:PE X (.BoolOp .And (b::rest) pos) tb):PE X (.BoolOp .And (a::b::rest) pos) (Ls ta tb):=by
 intro pins s σ H Q I h;refine BoolOp_and (thn (ha pins s σ H _ I h) λv s1 ⟨x,H1,I1,r1,q1⟩=> ?_);obtain⟨c,rfl,q1⟩:=q1;cases r1;refine N4 ?_;cases c with
 |true=>exact hb pins s1 σ H1 Q I1 q1
 |false=>exact⟨.bl false,H1,I1,rfl,q1⟩
theorem EF (ha:PE X a ta)(hb:PE X (.BoolOp .Or (b::rest) pos) tb):PE X (.BoolOp .Or (a::b::rest) pos) (Tn ta tb):=by
 intro pins s σ H Q I h;refine BoolOp_or (thn (ha pins s σ H _ I h) λv s1 ⟨x,H1,I1,r1,q1⟩=> ?_);obtain⟨c,rfl,q1⟩:=q1;cases r1;refine N4 ?_;cases c with
 |false=>exact hb pins s1 σ H1 Q I1 q1
 |true=>exact⟨.bl true,H1,I1,rfl,q1⟩
theorem Lw (ha:PE X a ta):PE X (.UnaryOp .Not a pos) (Lt ta):=by
 intro pins s σ H Q I h;refine UnaryOp_ (thn (ha pins s σ H _ I h) λv s1 ⟨x,H1,I1,r1,q1⟩=> ?_);obtain⟨c,rfl,q1⟩:=q1;cases r1;exact not_of (N4 ⟨.bl (!c),H1,I1,rfl,q1⟩)
def tIf (t:TT)(ta tb:TE):TE:=λσ H Q=>t σ H λc H1=>if c=true then ta σ H1 Q else tb σ H1 Q
theorem Mj {c:Expr}(hc:PT X c tA)(ha:PE X a ta)(hb:PE X b tb):PE X (.IfExp c a b pos) (tIf tA ta tb):=by
 intro pins s σ H Q I h;refine wpAny_IfExp (thn (hc pins s σ H _ I h) λd s1 ⟨H1,I1,q1⟩=> ?_);cases d with
 |true=>exact ha pins s1 σ H1 Q I1 q1
 |false=>exact hb pins s1 σ H1 Q I1 q1
end
def SqL (K:PySem.W.Frag)(H:Hp)(a:Addr)(xs:List V):Prop:=
 Rd H a (.lst xs)\/
  ∃ (o:Obj) (its:Array Value) (n:Nat),K.lookup a=some o/\o.cls= .type "list" /\o.dict=none/\o.data= .seq its n/\its.size<=sizeLine/\Vals xs its.toList
def SqT (K:PySem.W.Frag)(H:Hp)(a:Addr)(xs:List V):Prop:=
 Rd H a (.tup xs)\/
  ∃ (o:Obj) (its:Array Value) (n:Nat),K.lookup a=some o/\o.cls= .type "tuple" /\o.data= .seq its n/\its.size<=sizeLine/\Vals xs its.toList
def Hj:Value->Option V
 | .none=>some .non
 | .bool b=>some (.bl b)
 | .int i _=>some (.int i)
 | .str x _=>some (.str x)
 | .bytes b _=>some (.byt b)
 | .float b _=>some (.flt b)
 | .ref a=>some (.ref a)
 | .type n=>some (.ty n)
 |_=>none
theorem RelV.abs {x:V}(r:RelV x u):Hj u=some x:=by
 cases x with
 |non=>cases r;rfl
 |bl _=>cases r;rfl
 |int _=>obtain⟨t,rfl⟩:=r;rfl
 |str _=>obtain⟨t,rfl⟩:=r;rfl
 |byt _=>obtain⟨t,rfl⟩:=r;rfl
 |flt _=>obtain⟨t,rfl⟩:=r;rfl
 |ref _=>cases r;rfl
 |ty _=>cases r;rfl
theorem RelV.inj {x y:V}(r:RelV x u)(q:RelV y u):x=y:=N3 (r.abs.symm.trans q.abs)
theorem Vals.inj: ∀ {xs ys:List V} {us:List Value},Vals xs us->Vals ys us->xs=ys
 |_,_,_,.nil,.nil=>rfl
 |_,_,_,.cons r t,.cons r' t'=>by rw [r.inj r',Vals.inj t t']
section
variable {X:Cx}{pins:List (Addr×Obj)}{σ:St}{H:Hp}{s:Shared}{a:Addr}{xs ys:List V}
theorem SqL.of {K:PySem.W.Frag}(h:H a=some (.lst xs)):SqL K H a xs:= .inl (.inl h)
theorem SqT.of {K:PySem.W.Frag}(h:H a=some (.tup xs)):SqT K H a xs:= .inl (.inl h)
theorem Inv.list (I:Inv X pins σ H s)(h:SqL X.K H a xs): ∃its:List Value,Vals xs its/\PlainL s.heap a its.toArray/\xs.length<=sizeLine:=by
 rcases h with h|⟨o,its,n,hk,hc,hd,hs,hz,r⟩
 ·obtain⟨z,its,n,r,e⟩:=h.ok I.hok;exact⟨its,r,⟨_,n,e,rfl,rfl,rfl⟩,z⟩
 ·refine⟨its.toList,r,⟨o,n,I.kIn a o hk,hc,hd,by simpa using hs⟩,?_⟩;have e:=r.length;simp only [T3] at e;omega
theorem Inv.tuple (I:Inv X pins σ H s)(h:SqT X.K H a xs): ∃its:List Value,Vals xs its/\IsTup s.heap a its.toArray/\xs.length<=sizeLine:=by
 rcases h with h|⟨o,its,n,hk,hc,hs,hz,r⟩
 ·obtain⟨z,its,r,p⟩:=h.ok I.hok;exact⟨its,r,p.tup,z⟩
 ·refine⟨its.toList,r,⟨o,I.kIn a o hk,hc,n,by simpa using hs⟩,?_⟩;have e:=r.length;simp only [T3] at e;omega
theorem Inv.list_inj (I:Inv X pins σ H s)(h:SqL X.K H a xs)(h':SqL X.K H a ys):xs=ys:=by
 obtain⟨its,r,⟨o,n,e,_,_,d⟩,_⟩:=I.list h;obtain⟨its',r',⟨o',n',e',_,_,d'⟩,_⟩:=I.list h';rw [e] at e';cases e';rw [d] at d';injection d' with d1 _
 have:its=its':=by simpa using congrArg Array.toList d1
 subst this;exact r.inj r'
theorem Inv.tuple_inj (I:Inv X pins σ H s)(h:SqT X.K H a xs)(h':SqT X.K H a ys):xs=ys:=by
 obtain⟨its,r,⟨o,e,_,n,d⟩,_⟩:=I.tuple h;obtain⟨its',r',⟨o',e',_,n',d'⟩,_⟩:=I.tuple h';rw [e] at e';cases e';rw [d] at d';injection d' with d1 _
 have:its=its':=by simpa using congrArg Array.toList d1
 subst this;exact r.inj r'
end
abbrev Cx.wish (X:Cx)(E:Value->Shared->Prop):Cx:= {X with xe:=E}
abbrev Cx.nox (X:Cx):Cx:=X.wish λ_ _=>False
theorem Cx.Ok.wish (ok:X.Ok)(E:Value->Shared->Prop):(X.wish E).Ok:=
 ⟨ok.mod,ok.kind,ok.glob,ok.blt,ok.above,ok.inj,ok.has,ok.cab,ok.hd,ok.frames,ok.stk,ok.exf,ok.bs,ok.bsz,ok.noex,ok.exfs,ok.funs,ok.frf⟩
theorem Cx.Ok.unwish {E:Value->Shared->Prop}(ok:(X.wish E).Ok):X.Ok:=
 ⟨ok.mod,ok.kind,ok.glob,ok.blt,ok.above,ok.inj,ok.has,ok.cab,ok.hd,ok.frames,ok.stk,ok.exf,ok.bs,ok.bsz,ok.noex,ok.exfs,ok.funs,ok.frf⟩
section
variable {X:Cx}{pins:List (Addr×Obj)}{σ:St}{H:Hp}{s:Shared}{E:Value->Shared->Prop}
theorem Inv.wish (I:Inv X pins σ H s)(E:Value->Shared->Prop):Inv (X.wish E) pins σ H s:=⟨I.ok.wish E,I.os,I.bare,I.base,I.loc,I.cell,I.free,I.freeC,I.pin,I.hok,I.len⟩
theorem Inv.unwish (I:Inv (X.wish E) pins σ H s):Inv X pins σ H s:=⟨I.ok.unwish,I.os,I.bare,I.base,I.loc,I.cell,I.free,I.freeC,I.pin,I.hok,I.len⟩
theorem SP.unwish {D:Ends}{f:Flow}{s':Shared}(h:SP (X.wish E) pins D f s'):SP X pins D f s':=by
 cases f with
 |next=>obtain⟨σ',H',I,q⟩:=h;exact⟨σ',H',I.unwish,q⟩
 |brk=>obtain⟨σ',H',I,q⟩:=h;exact⟨σ',H',I.unwish,q⟩
 |cont=>obtain⟨σ',H',I,q⟩:=h;exact⟨σ',H',I.unwish,q⟩
 |ret u=>obtain⟨v,σ',H',I,r,q⟩:=h;exact⟨v,σ',H',I.unwish,r,q⟩
theorem PSs.nox {st:List Stmt}{t:TS}(h:PSs X.nox st t):PSs X st t:=λpins s σ H D I hw=>
 R5 (h pins s σ H D (I.wish _) hw) (λ_ _ q=>q.unwish) λ_ _ z=>False.elim z
end
section
variable {X:Cx}{st:Stmt}{rest:List Stmt}{t u:TS}{e:Expr}{te:TE}{pos:Pos}
def Lx:TS:=λD σ H=>D.nx σ H
def To (t u:TS):TS:=λD σ H=>t {D with nx:=u D} σ H
theorem pss_nil:PSs X [] Lx:=λ_ _ σ H _ I h=>Q5 ⟨σ,H,I,h⟩
theorem Mk (h1:PS X st t)(h2:PSs X rest u):PSs X (st::rest) (To t u):=by
 intro pins s σ H D I h;refine O5 (thn (h1 pins s σ H {D with nx:=u D} I h) λf s1 q=> ?_);cases f with
 |next=>
  obtain⟨σ',H',I',q⟩:=q;exact h2 pins s1 σ' H' D I' q
 |ret v=>exact q
 |brk=>exact q
 |cont=>exact q
theorem BD (h1:PS X st t):PSs X [st] t:=by
 intro pins s σ H D I h;refine O5 (thn (h1 pins s σ H D I h) λf s1 q=> ?_);cases f with
 |next=>exact Q5 q
 |ret v=>exact q
 |brk=>exact q
 |cont=>exact q
theorem Inv.quiet {pins:List (Addr×Obj)}{σ:St}{H:Hp}{s:Shared}(I:Inv X pins σ H s):interactive X.env=false:=by simp [interactive,I.ok.kind]
def Ly (te:TE):TS:=λD σ H=>te σ H λ_ H1=>D.nx σ H1
theorem BE (he:PE X e te)(hs:swapsWith e none pos.line X.env=pure false:=by rfl):PS X (.Expr e pos) (Ly te):=by
 intro pins s σ H D I h;exact wpAny_Expr_any (thn (he pins s σ H _ I h) λv s1 ⟨x,H1,I1,r1,q1⟩=>⟨σ,H1,I1,q1⟩) I.quiet hs
def Tp (te:TE):TS:=λD σ H=>te σ H D.rt
theorem Lz (he:PE X e te):PS X (.Return (some e) pos) (Tp te):=by
 intro pins s σ H D I h;exact wpAny_Return_some (thn (he pins s σ H _ I h) λv s1 ⟨x,H1,I1,r1,q1⟩=>⟨x,σ,H1,I1,r1,q1⟩)
def Tq (c:TT)(t u:TS):TS:=λD σ H=>c σ H λb H1=>if b=true then t D σ H1 else u D σ H1
theorem EG {c:Expr}{a b:List Stmt}{tc:TT}(hc:PT X c tc)(ha:PSs X a t)(hb:PSs X b u):PS X (.If c a b pos) (Tq tc t u):=by
 intro pins s σ H D I h;refine wpAny_If (thn (hc pins s σ H _ I h) λd s1 ⟨H1,I1,q1⟩=> ?_);cases d with
 |true=>exact ha pins s1 σ H1 D I1 q1
 |false=>exact hb pins s1 σ H1 D I1 q1
end
abbrev TG:=V->St->Hp->(St->Hp->Prop)->Prop
abbrev TGs:=List V->St->Hp->(St->Hp->Prop)->Prop
def PG (X:Cx)(target:Expr)(t:TG):Prop:=
 ∀ (pins:List (Addr×Obj)) (s:Shared) (σ:St) (H:Hp) (v:V) (u:Value) (Q:St->Hp->Prop),Inv X pins σ H s->RelV v u->t v σ H Q->
  wpAny (model X.prog X.w) X.A (assign target X.env u) (λ_ s'=> ∃σ' H',Inv X pins σ' H' s'/\Q σ' H') X.xe s
def PGs (X:Cx)(ts:List Expr)(t:TGs):Prop:=
 ∀ (pins:List (Addr×Obj)) (s:Shared) (σ:St) (H:Hp) (vs:List V) (us:List Value) (Q:St->Hp->Prop),Inv X pins σ H s->Vals vs us->t vs σ H Q->
  wpAny (model X.prog X.w) X.A (assignInOrder ((assignEach ts X.env).map (·.2)) us) (λ_ s'=> ∃σ' H',Inv X pins σ' H' s'/\Q σ' H') X.xe s
abbrev EH:=V->V->V->Hp->(Hp->Prop)->Prop
def Tr (X:Cx)(t:EH):Prop:=
 ∀ (pins:List (Addr×Obj)) (s:Shared) (σ:St) (H:Hp) (o i v:V) (ov iv u:Value) (Q:Hp->Prop),Inv X pins σ H s->RelV o ov->RelV i iv->RelV v u->t o i v H Q->
  wpAny (model X.prog X.w) X.A (setItem ov iv u) (λ_ s'=> ∃H',Inv X pins σ H' s'/\Q H') X.xe s
abbrev TIp:=V->V->Hp->VK->Prop
def PIp (X:Cx)(op:Operator)(t:TIp):Prop:=
 ∀ (pins:List (Addr×Obj)) (s:Shared) (σ:St) (H:Hp) (x y:V) (v u:Value) (Q:VK),Inv X pins σ H s->RelV x v->RelV y u->t x y H Q->
  wpAny (model X.prog X.w) X.A (inplaceOp op v u) (EP X pins σ Q) X.xe s
section
variable {X:Cx}{pos:Pos}
def yu (i:Nat):TG:=λv σ H Q=>Q (σ.set i (some v)) H
variable {i:Nat}{x:Str}
theorem vy (hN:X.N.Nodup)(hi:X.N[i]? =some x)(hx:Loc X.env.scope x)(hf:X.fn x=true\/X.env.scope.names.lookup x=some .local:=by first|exact .inl rfl|exact .inr rfl|assumption):PG X (.Name x pos) (yu i):=by
 intro pins s σ H v u Q I r h;exact wpAny_assign_Name (wz I hN hi hx r (λs' I'=>⟨_,H,I',h⟩) hf)
def EI:TGs:=λvs σ H Q=>vs= []/\Q σ H
def GY (t:TG)(u:TGs):TGs:=λvs σ H Q=> ∃v r,vs=v::r/\t v σ H λσ' H'=>u r σ' H' Q
theorem GZ:PGs X [] EI:=by
 intro pins s σ H vs us Q I r h;obtain⟨e,h⟩:=h;subst e;cases r;exact assignInOrder_nil ⟨σ,H,I,h⟩
variable {e:Expr}
theorem Zw {es:List Expr}{t:TG}{u:TGs}(h1:PG X e t)(h2:PGs X es u)
 (hs:(assignEach (e::es) X.env).map (·.2)=assign e X.env::(assignEach es X.env).map (·.2):=by rfl):PGs X (e::es) (GY t u):=by
 intro pins s σ H vs us Q I r h;obtain⟨v,vr,e1,h⟩:=h;subst e1;cases r with
 |cons r rr=>
  rw [hs];refine G0n (thn (h1 pins s σ H _ _ _ I r h) λ_ s1 ⟨σ1,H1,I1,q1⟩=> ?_);exact h2 pins s1 σ1 H1 _ _ Q I1 rr q1
def EJ (K:PySem.W.Frag)(n:Nat)(t:TGs):TG:=λv σ H Q=> ∃a xs,v= .ref a/\SqT K H a xs/\xs.length=n/\t xs σ H Q
theorem NT {es:List Expr}{k:Nat}{t:TGs}{n:Nat}(hc:X.calm=true)(h:PGs X es t)
 (hn:(assignEach es X.env).length=n:=by rfl)(hst:(assignEach es X.env).findIdx? (·.1)=none:=by rfl):PG X (.Tuple es k pos) (EJ X.K n t):=by
 intro pins s σ H v u Q I r hw;obtain⟨a,xs,e1,hq,hl,hw⟩:=hw;subst e1;cases r;obtain⟨its,rv,ht,hz⟩:=I.tuple hq;refine assign_Tuple_tuple (I.ok.hd hc) ht (by simp [hn,<-hl,rv.length]) hst λh' hx=> ?_
 have I1:Inv X pins σ H {s with heap:=h'}:=I.kept (t':=s.toks) λb o e=>hx b o (R6 (P5 e)) e
 exact h pins _ σ H xs _ Q I1 (by simpa using rv) hw
def Hk (to ti:TE)(t:EH):TG:=λv σ H Q=>to σ H λo H1=>ti σ H1 λi H2=>t o i v H2 λH3=>Q σ H3
theorem LB {o i:Expr}{to ti:TE}{t:EH}(ho:PE X o to)(hi:PE X i ti)(hs:Tr X t)
 (ha: ∀v,assign (.Subscript o i pos) X.env v=(do
  let ov <-holding [v] (eval o X.env)
  let iv <-holding [v,ov] (eval i X.env)
  standAt pos
  holding [v,ov,iv] (setItem ov iv v)
  release [v,ov,iv] []):=by intro _;rfl):PG X (.Subscript o i pos) (Hk to ti t):=by
 intro pins s σ H v u Q I r h;rw [ha];refine wpAny_bind (O1 (thn (ho pins s σ H _ I h) λov s1 ⟨x,H1,I1,r1,q1⟩=> ?_));refine wpAny_bind (O1 (thn (hi pins s1 σ H1 _ I1 q1) λiv s2 ⟨y,H2,I2,r2,q2⟩=> ?_));refine wpAny_bind (V9 (wpAny_bind (O1 (thn (hs pins s2 σ H2 x y v ov iv u _ I2 r1 r2 r q2) λ_ s3 ⟨H3,I3,q3⟩=> ?_))));exact wpAny_release ⟨σ,H3,I3,q3⟩
def NU (te:TE)(g:TG):TS:=λD σ H=>te σ H λx H1=>g x σ H1 D.nx
theorem LD {tg:Expr}{te:TE}{g:TG}(he:PE X e te)(hg:PG X tg g)(hs:swapsWithSole [tg] e pos.line X.env=pure false:=by rfl)(hw:swappedStores [tg] e X.env=pure none:=by rfl)
 (h1:(assignEach [tg] X.env).map (·.2)= [assign tg X.env]:=by rfl):PS X (.Assign [tg] e pos) (NU te g):=by
 intro pins s σ H D I h;refine wpAny_Assign_stores (thn (he pins s σ H _ I h) λv s1 ⟨x,H1,I1,r1,q1⟩=> ?_) hs hw;rw [h1];exact thn (hg pins s1 σ H1 x v _ I1 r1 q1) λ_ s2 q=>q
theorem LF {te:TE}{pos':Pos}(hN:X.N.Nodup)(hi:X.N[i]? =some x)(hx:Loc X.env.scope x)(he:PE X e te)(hs:swapsWith e (some (.Name x pos')) pos.line X.env=pure false:=by rfl)(hf:X.fn x=true\/X.env.scope.names.lookup x=some .local:=by first|exact .inl rfl|exact .inr rfl|assumption):
 PS X (.Assign [.Name x pos'] e pos) (NU te (yu i)):=by
 intro pins s σ H D I h;refine wpAny_Assign_Name (thn (he pins s σ H _ I h) λv s1 ⟨y,H1,I1,r1,q1⟩=> ?_) hs;exact wz I1 hN hi hx r1 (λs2 I2=>⟨_,H1,I2,q1⟩) hf
def Ts (i j:Nat)(ta:TA):TS:=λD σ H=>ta σ H λvs H1=> ∃v w,vs= [v,w]/\D.nx ((σ.set i (some v)).set j (some w)) H1
theorem LH {j:Nat}{y:Str}{a b:Expr}{ta:TA}{px py pt:Pos}{kt k2 pt2}(hc:X.calm=true)(hN:X.N.Nodup)(hi:X.N[i]? =some x)(hj:X.N[j]? =some y)(hij:i≠j)
 (hx:X.env.scope.names.lookup x=some .local)(hy:X.env.scope.names.lookup y=some .local)(ha:PA X [a,b] ta)
 (hw:swappedStores [.Tuple [.Name x px,.Name y py] kt pt] (.Tuple [a,b] k2 pt2) X.env=pure (some [x,y]))
 (hs:swapsWithSole [.Tuple [.Name x px,.Name y py] kt pt] (.Tuple [a,b] k2 pt2) pos.line X.env=pure false:=by rfl):
 PS X (.Assign [.Tuple [.Name x px,.Name y py] kt pt] (.Tuple [a,b] k2 pt2) pos) (Ts i j ta):=by
 intro pins s σ H D I h;rw [exec_Assign_arm];refine wpAny_bind (V9 ?_);rw [hs];refine wpAny_bind (P4 ?_);rw [if_neg (by decide)];refine wpAny_bind (Tuple_ (thn (ha _ pins s σ H _ I h) λus s1 ⟨vs,H1,I1,r1,q1⟩=> ?_));obtain⟨v,w,e1,q1⟩:=q1;subst e1;obtain⟨u1,u2,rfl,rv,rw'⟩: ∃u1 u2,us= [u1,u2]/\RelV v u1/\RelV w u2:=by
  cases r1 with
  |cons p q=>
   cases q with
   |cons p' q'=>
    cases q';exact⟨_,_,rfl,p,p'⟩
 refine J6 ?_ (by show 2<=sizeLine;decide);have I2:Inv X pins σ H1 {s1 with heap:=s1.heap.push {cls:= .type "tuple",data:= .seq [u1,u2].toArray}}:=I1.kept (t':=s1.toks) λb o e=>G3 _ e
 rw [hw];refine wpAny_bind (P4 ?_);show wpAny (model X.prog X.w) X.A (do rule "assign.swapped-stores";let items <-unpackItems (.ref s1.heap.objs.size) 2 none;assignInOrder [λv=>bindName X.env y v,λv=>bindName X.env x v] items.reverse;pure Flow.next) _ _ _;refine wpAny_bind (G0u (wpAny_bind (unpackItems_tuple (items:= #[u1,u2]) (I.ok.hd hc) (IsTup.new s1.heap _) λh' hx'=> ?_)));have I3:=I2.kept (h':=h') (t':=s1.toks) λb o e=>hx' b o (R6 (P5 e)) e
 show wpAny _ _ (assignInOrder [λv=>bindName X.env y v,λv=>bindName X.env x v] [u2,u1] >>= λ_=>pure Flow.next) _ _ _;refine wpAny_bind (G0n (G04 (wz I3 hN hj (.inl hy) rw' (λs2 I4=> ?_) (.inr hy))));refine G0n (G04 (wz I4 hN hi (.inl hx) rv (λs3 I5=>assignInOrder_nil (P4 ?_)) (.inr hx)));rw [List.set_comm _ _ (Ne.symm hij)] at I5;exact⟨_,H1,I5,q1⟩
def Tt (i:Nat)(te:TE)(ti:TIp):TS:=λD σ H=> ∃x,σ[i]? =some (some x)/\te σ H λy H1=>ti x y H1 λz H2=>D.nx (σ.set i (some z)) H2
theorem LJ {te:TE}{op:Operator}{ti:TIp}{pos':Pos}(hN:X.N.Nodup)(hi:X.N[i]? =some x)(hx:Loc X.env.scope x)(he:PE X e te)(ho:PIp X op ti)(hf:X.fn x=true\/X.env.scope.names.lookup x=some .local:=by first|exact .inl rfl|exact .inr rfl|assumption):
 PS X (.AugAssign (.Name x pos') op e pos) (Tt i te ti):=by
 intro pins s σ H D I h;obtain⟨v,e1,h⟩:=h;obtain⟨m,hn,hl⟩:=I.loc;have vis:Vis X.env.scope x:=by rcases hx with k|k;exact .inl k;exact .inr (.inl k)
 obtain⟨u,r,l⟩:=hl i x v hi e1 vis;refine wpAny_AugAssign_Name ?_;have go:wpAny (model X.prog X.w) X.A (eval e X.env) (λw s₂=>wpAny (model X.prog X.w) X.A (inplaceOp op u w) (λr s₃=>wpAny (model X.prog X.w) X.A (storeName X.env x r) (λ_=>SP X pins D .next) X.xe s₃) X.xe s₂) X.xe s:=by
  refine thn (he pins s σ H _ I h) λw s1 ⟨y,H1,I1,r1,q1⟩=> ?_
  refine thn (ho pins s1 σ H1 v y u w _ I1 r r1 q1) λz s2 ⟨zv,H2,I2,r2,q2⟩=> ?_
  exact wz I2 hN hi hx r2 (λs3 I3=>⟨_,H2,I3,q2⟩) hf
 rcases l with ⟨hk,hm⟩|⟨hk,c,hc,hcell⟩
 ·exact Y9 I.ok.kind hk hn hm go
 ·rcases hk with hk|hk
  ·exact wpAny_loadName_cell I.ok.kind hk hc hcell go
  ·rcases hx with k|k
   ·have:X.env.scope.names.lookup x=some .free:=hk;rw [k] at this;cases this
   ·have:X.env.scope.names.lookup x=some .free:=hk;rw [k] at this;cases this
def ipI (f:Int->Int->Int):TIp:=λx y H Q=> ∃i j,x= .int i/\y= .int j/\Q (.int (f i j)) H
theorem LK:PIp X .Add (ipI λi j=>i+j):=by
 intro pins s σ H x y v u Q I r1 r2 h;obtain⟨i,j,e1,e2,q⟩:=h;subst e1;subst e2;obtain⟨t,rfl⟩:=r1;obtain⟨t',rfl⟩:=r2;exact iadd_int ⟨.int _,H,I.tok _,⟨_,rfl⟩,q⟩
def NV (c:TT)(tb:TS):TS:=λD σ H=> ∃W:Nat->St->Hp->Prop,(∃m,W m σ H)/\ ∀m σ H,W m σ H->
 c σ H λb H1=>if b=true then ∃N:St->Hp->Prop,(∀σ' H',N σ' H'-> ∃m',m'<m/\W m' σ' H')/\tb {D with nx:=N,ct:=N,bk:=D.nx} σ H1 else D.nx σ H1
theorem Ml {c:Expr}{body:List Stmt}{tc:TT}{tb:TS}(hp:PassesOwn (model X.prog X.w) X.A X.env X.xe)(hc:PT X c tc)(hb:PSs X body tb):PS X (.While c body [] pos) (NV tc tb):=by
 intro pins s σ H D I h;obtain⟨W,⟨m0,w0⟩,turn⟩:=h;refine wpAny_While (codeAny_whileLoop (λn s'=> ∃σ' H',Inv X pins σ' H' s'/\W n σ' H') ?_ m0 ⟨σ,H,I,w0⟩);rintro n s1 ⟨σ1,H1,I1,w1⟩;refine J7 hp (thn (hc pins s1 σ1 H1 _ I1 (turn n σ1 H1 w1)) λb s2 ⟨H2,I2,q2⟩=> ?_);cases b with
 |true=>
  obtain⟨N,hN,q2⟩:=q2;rw [if_pos rfl];refine J7 hp (thn (hb pins s2 σ1 H2 _ I2 q2) λf s3 q3=> ?_);cases f with
  |next=>
   obtain⟨σ3,H3,I3,n3⟩:=q3;obtain⟨m',hm,w3⟩:=hN σ3 H3 n3;exact⟨m',hm,σ3,H3,I3,w3⟩
  |cont=>
   obtain⟨σ3,H3,I3,n3⟩:=q3;obtain⟨m',hm,w3⟩:=hN σ3 H3 n3;exact⟨m',hm,σ3,H3,I3,w3⟩
  |brk=>exact q3
  |ret v=>exact q3
 |false=>
  rw [if_neg P7];exact Q5 ⟨σ1,H2,I2,q2⟩
end
structure It where
 go:Nat->Hp->Prop
 yld:Nat->Hp->V->Hp->Prop
 stop:Nat->Hp->Prop
def GK (X:Cx)(pins:List (Addr×Obj))(H:Hp)(b:Addr):Prop:=
 H b=none/\b≠X.env.locals/\b ∉ X.fs/\(b∈X.ex\/X.s₀.heap.objs.size<=b)/\(∀x c,X.env.cells.lookup x=some c->c≠b)/\ ∀p∈X.pn++pins,p.1≠b
theorem Inv.fpOk {pins:List (Addr×Obj)}{σ:St}{H':Hp}(I:Inv X pins σ H s)(hb:s.heap.objs.size<=b)(hn:H' b=none):GK X pins H' b:=by
 refine⟨hn,O9 (D6 I.lt hb),I.nofs hb,.inr (R9 I.sz hb),λx c e z=> ?_,λp hp z=> ?_⟩
 ·obtain⟨v,q⟩:=I.cell x c e;exact absurd (D6 q.lt (by rw [z];exact hb)) (M5 _)
 ·exact absurd (D6 (P5 (I.pin p hp).1) (by rw [z];exact hb)) (M5 _)
structure Turn (P:Program)(w:World)(K:PySem.W.Frag)(tg:Expr)(J:It)(fp:List Addr)(it:Addr)(tn:Nat->Heap->Prop):Prop where
 mem:it∈fp
 obj: ∀i h,tn i h-> ∀b∈fp,∃o,h.get? b=some o/\ ∀v,o.data≠ .cell v
 keep: ∀i h h',tn i h->(∀b∈fp,∀o,h.get? b=some o->h'.get? b=some o)->tn i h'
 item: ∀ (X:Cx),X.prog=P->X.w=w->X.K=K->X.calm=true-> ∀ (i:Nat) (pins:List (Addr×Obj)) (s:Shared) (σ:St) (H:Hp) (E:Value->Shared->Prop),Inv X pins σ H s->(∀b∈fp,GK X pins H b)->tn i s.heap->J.go i H->
  wpAny (model P w) X.A (pyNext (.ref it)) (λr s1=> ∃u,r=some u/\
   wpAny (model P w) X.A (letOwnedTupleGo tg (.ref it) u) (λ_ s2=> ∃x H',Inv X pins σ H' s2/\RelV x u/\J.yld i H x H'/\tn (i+1) s2.heap/\ ∀b∈fp,H' b=none) E s1) E s
 done: ∀ (X:Cx),X.prog=P->X.w=w->X.K=K->X.calm=true-> ∀ (i:Nat) (pins:List (Addr×Obj)) (s:Shared) (σ:St) (H:Hp) (E:Value->Shared->Prop),Inv X pins σ H s->(∀b∈fp,GK X pins H b)->tn i s.heap->J.stop i H->
  wpAny (model P w) X.A (pyNext (.ref it)) (λr s1=>r=none/\Inv X pins σ H s1) E s
 self: ∀ (A:Around) (i:Nat) (s:Shared) (Q:Value->Shared->Prop) (E:Value->Shared->Prop),tn i s.heap->Q (.ref it) s->wpAny (model P w) A (pyIter (.ref it)) Q E s
abbrev TI:=St->Hp->(It->Hp->Prop)->Prop
def PIE (X:Cx)(pins:List (Addr×Obj))(σ:St)(tg:Expr)(R:It->Hp->Prop)(itv:Value)(s2:Shared):Prop:=
 ∃ (it:Addr) (fp:List Addr) (tn:Nat->Heap->Prop) (J:It) (H':Hp),itv= .ref it/\Inv X pins σ H' s2/\Turn X.prog X.w X.K tg J fp it tn/\tn 0 s2.heap/\(∀b∈fp,GK X pins H' b)/\R J H'
def PI (X:Cx)(tg iter:Expr)(wi:TI):Prop:=
 ∀ (pins:List (Addr×Obj)) (s:Shared) (σ:St) (H:Hp) (R:It->Hp->Prop),Inv X pins σ H s->wi σ H R->
  wpAny (model X.prog X.w) X.A (eval iter X.env) (λv s1=>wpAny (model X.prog X.w) X.A (pyIter v) (PIE X pins σ tg R) X.xe s1) X.xe s
variable {tg:Expr}
theorem BF {M : Model} {E : Value → Shared → Prop} {it : Addr} {o : Obj} {n : String} {vs : Array Value} {Q : Unit → Shared → Prop} (ho : s.heap.get? it = some o) (hc : o.cls = .type n) (hd : o.data = .fields vs)
    (hn : ["enumerate", "zip", "dict_itemiterator", "dict_reverseitemiterator", "odict_iterator", "itertools.zip_longest", "itertools.pairwise"].contains n = false) (hQ : Q () s) : wpAny M A (letOwnedTupleGo tg (.ref it) u) Q E s := by
  unfold letOwnedTupleGo
  cases tg <;> first
    | exact P4 hQ
    | (cases u <;> first
        | exact P4 hQ
        | (refine wpAny_bind (wpAny_load ho ?_)
           rw [hc, hd]
           show wpAny M A (if (["enumerate", "zip", "dict_itemiterator", "dict_reverseitemiterator", "odict_iterator", "itertools.zip_longest", "itertools.pairwise"].contains n && vs[0]? == some (rawInt _)) = true then _ else _) Q E s
           rw [if_neg (by intro h; rw [hn, X9] at h; cases h)]
           exact P4 hQ))
def Itl (K:PySem.W.Frag)(a:Addr):It:=
 ⟨λi H=> ∃xs x,SqL K H a xs/\xs[i]? =some x,λi H x H'=>H'=H/\ ∀xs,SqL K H a xs->xs[i]? =some x,λi H=> ∃xs,SqL K H a xs/\xs.length<=i⟩
def Itt (K:PySem.W.Frag)(a:Addr):It:=
 ⟨λi H=> ∃xs x,SqT K H a xs/\xs[i]? =some x,λi H x H'=>H'=H/\ ∀xs,SqT K H a xs->xs[i]? =some x,λi H=> ∃xs,SqT K H a xs/\xs.length<=i⟩
def Itr (lo:Int)(n:Nat):It:=⟨λi _=>i<n,λi H x H'=>H'=H/\x= .int (lo+i),λi _=>n<=i⟩
variable {K:PySem.W.Frag}
theorem VA (a it:Addr):Turn P w K tg (Itl K a) [it] it (λi h=>h.IsListIter it a i) where
 mem:=by simp
 obj:=λi h st b hb=>by
  have e:b=it:=by simpa using hb
  subst e;obtain⟨o,e,c,d⟩:=st;exact⟨o,e,λv z=>by rw [d] at z;cases z⟩
 keep:=λi h h' st k=>st.at λo e=>k it (by simp) o e
 item:=by
  intro X hP hw hK hc i pins s σ H E I hf st hg;subst hP hw hK;obtain⟨xs,x,hq,hx⟩:=hg;obtain⟨its,rv,p,hz⟩:=I.list hq;obtain⟨u,hu,ru⟩:=rv.get hx;obtain⟨f0,f1,f2,f3,f4,f5⟩:=hf it (by simp);refine wpAny_pyNext_list_item st p.isList (x:=u) (by simpa using hu) λh' st' sb=> ?_
  have I1:Inv X pins σ H {s with heap:=h'}:=I.turned (t':=s.toks) (λb o hb e=>(sb.2 b hb).trans e) f0 f1 f3 f4 f5;obtain⟨o,e,c,d⟩:=id st';exact⟨u,rfl,BF (s:= {s with heap:=h'}) e c d (by decide) ⟨x,H,I1,ru,⟨rfl,λys hy=>by rw [I.list_inj hy hq];exact hx⟩,st',λb hb=>(hf b hb).1⟩⟩
 done:=by
  intro X hP hw hK hc i pins s σ H E I hf st hg;subst hP hw hK;obtain⟨xs,hq,hx⟩:=hg;obtain⟨its,rv,p,hz⟩:=I.list hq;obtain⟨f0,f1,f2,f3,f4,f5⟩:=hf it (by simp);have hl:=rv.length;exact wpAny_pyNext_list_end (I.ok.hd hc) st p.isList (by simp;omega) λh' eb=>⟨rfl,I.turned (t':=s.toks) (λb o hb e=>eb b o hb e) f0 f1 f3 f4 f5⟩
 self:=λ_ _ _ _ _ st h=>wpAny_pyIter_listiter st h
theorem QN (a it:Addr):Turn P w K tg (Itt K a) [it] it (λi h=>h.IsTupleIter it a i) where
 mem:=by simp
 obj:=λi h st b hb=>by
  have e:b=it:=by simpa using hb
  subst e;obtain⟨o,e,c,d⟩:=st;exact⟨o,e,λv z=>by rw [d] at z;cases z⟩
 keep:=λi h h' st k=>st.at λo e=>k it (by simp) o e
 item:=by
  intro X hP hw hK hc i pins s σ H E I hf st hg;subst hP hw hK;obtain⟨xs,x,hq,hx⟩:=hg;obtain⟨its,rv,p,hz⟩:=I.tuple hq;obtain⟨u,hu,ru⟩:=rv.get hx;obtain⟨f0,f1,f2,f3,f4,f5⟩:=hf it (by simp);refine wpAny_pyNext_tuple_item st (show s.heap.IsTuple a its.toArray from p) (x:=u) (by simpa using hu) λh' st' sb=> ?_
  have I1:Inv X pins σ H {s with heap:=h'}:=I.turned (t':=s.toks) (λb o hb e=>(sb.2 b hb).trans e) f0 f1 f3 f4 f5;obtain⟨o,e,c,d⟩:=id st';exact⟨u,rfl,BF (s:= {s with heap:=h'}) e c d (by decide) ⟨x,H,I1,ru,⟨rfl,λys hy=>by rw [I.tuple_inj hy hq];exact hx⟩,st',λb hb=>(hf b hb).1⟩⟩
 done:=by
  intro X hP hw hK hc i pins s σ H E I hf st hg;subst hP hw hK;obtain⟨xs,hq,hx⟩:=hg;obtain⟨its,rv,p,hz⟩:=I.tuple hq;obtain⟨f0,f1,f2,f3,f4,f5⟩:=hf it (by simp);have hl:=rv.length;exact wpAny_pyNext_tuple_end (I.ok.hd hc) st (show s.heap.IsTuple a its.toArray from p) (by simp;omega) λh' eb=>⟨rfl,I.turned (t':=s.toks) (λb o hb e=>eb b o hb e) f0 f1 f3 f4 f5⟩
 self:=λ_ _ _ _ _ st h=>wpAny_pyIter_tupleiter st h
theorem QP (it:Addr)(lo:Int)(n:Nat):Turn P w K tg (Itr lo n) [it] it (λi h=>IsRangeIter h it (lo+(i:Nat)*1) ((n:Int)-(i:Nat)) 1) where
 mem:=by simp
 obj:=λi h st b hb=>by
  have e:b=it:=by simpa using hb
  subst e;exact⟨_,st,λv z=>by
   have z':Data.fields _=Data.cell v:=z;cases z'⟩
 keep:=λi h h' st k=>k it (by simp) _ st
 item:=by
  intro X hP hw hK hc i pins s σ H E I hf st hg;subst hP hw hK;obtain⟨f0,f1,f2,f3,f4,f5⟩:=hf it (by simp);have W:=Walks.range (prog:=X.prog) (w:=X.w) (I.ok.hd hc) it lo 1 n;refine W.item i s _ _ hg st λv h' tk hv st' kk=> ?_
  obtain⟨t,rfl⟩:=hv;have I1:Inv X pins σ H {s with heap:=h',toks:=tk}:=I.turned (λb o hb e=>kk b o (by simpa using hb) e) f0 f1 f3 f4 f5;refine⟨_,rfl,BF (s:= {s with heap:=h',toks:=tk}) (n:= "range_iterator") st' rfl rfl (by decide) ⟨.int (lo+i),H,I1,⟨t,?_⟩,⟨rfl,rfl⟩,st',λb hb=>(hf b hb).1⟩⟩;rw [Int.mul_one]
 done:=by
  intro X hP hw hK hc i pins s σ H E I hf st hg;subst hP hw hK;obtain⟨f0,f1,f2,f3,f4,f5⟩:=hf it (by simp);exact wpAny_pyNext_range_end (I.ok.hd hc) st (by have:n<=i:=hg;omega) λh' eb=>⟨rfl,I.turned (t':=s.toks) (λb o hb e=>eb b o hb e) f0 f1 f3 f4 f5⟩
 self:=λ_ _ _ _ _ st h=>wpAny_pyIter_rangeiter st h
section
variable {X:Cx}{tg:Expr}
def LL (K:PySem.W.Frag)(tl:TE):TI:=λσ H R=>tl σ H λx H1=> ∃a,x= .ref a/\(∃xs,SqL K H1 a xs)/\R (Itl K a) H1
theorem BG {l:Expr}{tl:TE}(hl:PE X l tl):PI X tg l (LL X.K tl):=by
 intro pins s σ H R I h;refine thn (hl pins s σ H _ I h) λv s1 ⟨x,H1,I1,r1,q1⟩=> ?_
 obtain⟨a,e,⟨xs,hq⟩,q⟩:=q1;subst e;cases r1;obtain⟨its,rv,p,hz⟩:=I1.list hq;refine A2 p.isList ?_;refine⟨s1.heap.objs.size,[s1.heap.objs.size],_,_,H1,rfl,I1.kept (t':=s1.toks) λb o e=>G3 _ e,VA a _,⟨_,D9 _ rfl,rfl,rfl⟩,λb hb=> ?_,q⟩;have e:b=s1.heap.objs.size:=by simpa using hb
 subst e;exact I1.fpOk (G8 _) (I1.hok.fresh (G8 _))
variable {pins:List (Addr×Obj)}
theorem XO {σ:St}{H:Hp}{s:Shared}{R:It->Hp->Prop}{E:Value->Shared->Prop}{lo hi:Int}{t u v:Tok}{tk:Nat}(I:Inv X pins σ H s)(h1: -(2^62)<=lo)(h2:lo<2^62)(h3: -(2^62)<=hi)(h4:hi<2^62)
 (q:R (Itr lo (hi-lo).toNat) H):wpAny (model X.prog X.w) X.A (pyIter (.ref s.heap.objs.size)) (PIE X pins σ tg R) E {s with heap:=s.heap.push {cls:= .type "range",data:= .fields #[.int lo t,.int hi u,.int 1 v]},toks:=tk}:=by
 refine wpAny_pyIter_range (IsRange.new ..) (small_one h1 h2 h3 h4) ?_;have I1:Inv X pins σ H {s with heap:=s.heap.push {cls:= .type "range",data:= .fields #[.int lo t,.int hi u,.int 1 v]},toks:=tk}:=I.kept λb o e=>G3 _ e
 refine⟨(s.heap.push {cls:= .type "range",data:= .fields #[.int lo t,.int hi u,.int 1 v]}).objs.size,[(s.heap.push {cls:= .type "range",data:= .fields #[.int lo t,.int hi u,.int 1 v]}).objs.size],_,_,H,rfl,
  I1.kept (t':=tk) λb o e=>G3 _ e,QP _ lo (hi-lo).toNat,?_,λb hb=> ?_,q⟩
 ·have e1:lo+((0:Nat):Int)*1=lo:=by simp
  have e2:(((hi-lo).toNat:Nat):Int)-((0:Nat):Int)=Builtin.Range.rangeSize lo hi 1:=by rw [rangeSize_one];split<;>omega
  show IsRangeIter _ _ (lo+((0:Nat):Int)*1) ((((hi-lo).toNat:Nat):Int)-((0:Nat):Int)) 1;rw [e1,e2];exact D9 _ rfl
 ·have e:b=(s.heap.push {cls:= .type "range",data:= .fields #[.int lo t,.int hi u,.int 1 v]}).objs.size:=by simpa using hb
  subst e;exact I1.fpOk (G8 _) (I1.hok.fresh (G8 _))
def LM (ta:TA):TI:=λσ H R=>ta σ H λvs H1=> ∃j:Int,vs= [.int j]/\ -(2^62)<=j/\j<2^62/\R (Itr 0 j.toNat) H1
def LP (ta:TA):TI:=λσ H R=>ta σ H λvs H1=> ∃i j:Int,vs= [.int i,.int j]/\(-(2^62)<=i/\i<2^62/\ -(2^62)<=j/\j<2^62)/\R (Itr i (j-i).toNat) H1
theorem Pa {a:Expr}{ta:TA}{p pos:Pos}(hg:Gl X "range")(hm:X.mg "range" =none)(ha:PA X [a] ta)(hs:starEach [a] X.env= [(false,eval a X.env)]:=by rfl):PI X tg (.Call (.Name "range" p) [a] [] pos) (LM ta):=by
 intro pins s σ H R I h;refine Call_ (Yb I hg hm boot_range (A4 (thn (ha pos pins s σ H _ I h) λus s1 ⟨vs,H1,I1,r1,q1⟩=> ?_) hs rfl));obtain⟨j,e,q1,q2,q⟩:=q1;subst e;cases r1 with
 |cons r rr=>
  cases rr;obtain⟨t,rfl⟩:=r;exact call_range_1 (XO I1 (by omega) (by omega) q1 q2 (by simpa using q))
theorem Pb {a b:Expr}{ta:TA}{p pos:Pos}(hg:Gl X "range")(hm:X.mg "range" =none)(ha:PA X [a,b] ta)(hs:starEach [a,b] X.env= [(false,eval a X.env),(false,eval b X.env)]:=by rfl)(hs2:starEach [b] X.env= [(false,eval b X.env)]:=by rfl):
 PI X tg (.Call (.Name "range" p) [a,b] [] pos) (LP ta):=by
 intro pins s σ H R I h;refine Call_ (Yb I hg hm boot_range (A4 (thn (ha pos pins s σ H _ I h) λus s1 ⟨vs,H1,I1,r1,q1⟩=> ?_) (by rw [hs,hs2]) (by rw [hs2];rfl)));obtain⟨i,j,e,⟨q1,q2,q3,q4⟩,q⟩:=q1;subst e;cases r1 with
 |cons r rr=>
  cases rr with
  |cons r' rr=>
   cases rr;obtain⟨t,rfl⟩:=r;obtain⟨t',rfl⟩:=r';exact call_range_2 (XO I1 q1 q2 q3 q4 q)
def Tu (wi:TI)(g:TG)(tb:TS):TS:=λD σ H=>wi σ H λJ H1=> ∃W:Nat->Nat->St->Hp->Prop,(∃m,W 0 m σ H1)/\ ∀i m σ H,W i m σ H->
 (J.stop i H/\D.nx σ H)\/(J.go i H/\ ∃N:St->Hp->Prop,(∀σ' H',N σ' H'-> ∃m',m'<m/\W (i+1) m' σ' H')/\ ∀x H',J.yld i H x H'->g x σ H' λσ2 H2=>tb {D with nx:=N,ct:=N,bk:=D.nx} σ2 H2)
def vh (fp:List Addr)(h:Heap):List (Addr×Obj):=fp.filterMap λb=>(h.get? b).map λo=>(b,o)
theorem wb {fp:List Addr}{h:Heap}{b:Addr}{o:Obj}(hb:b∈fp)(e:h.get? b=some o):(b,o)∈vh fp h:=K6.mpr ⟨b,hb,by rw [e];rfl⟩
theorem ZK {fp:List Addr}{h:Heap}{p:Addr×Obj}(hp:p∈vh fp h):p.1∈fp/\h.get? p.1=some p.2:=by
 obtain⟨b,hb,e⟩:=K6.mp hp;cases q:h.get? b with
 |none=>rw [q] at e;cases e
 |some o=>
  rw [q] at e;have e':(b,o)=p:=N3 e;subst e';exact⟨hb,q⟩
theorem Inv.pinned {σ:St}{H:Hp}{s:Shared}{fp:List Addr}(I:Inv X pins σ H s)(hf: ∀b∈fp,GK X pins H b)(ho: ∀b∈fp,∃o,s.heap.get? b=some o/\ ∀v,o.data≠ .cell v):Inv X (pins++vh fp s.heap) σ H s:=
 I.pins_of λp hp=>(P9.mp hp).elim (λz=>I.pin p (P6 _ z)) λz=>by
  obtain⟨hb,e⟩:=ZK z;obtain⟨f0,f1,f2,_⟩:=hf p.1 hb;obtain⟨o,e',d⟩:=ho p.1 hb;rw [e] at e';cases e';exact⟨e,f0,f1,f2,d⟩
theorem Inv.unpinned {pl:List (Addr×Obj)}{σ:St}{H:Hp}{s:Shared}(I:Inv X (pins++pl) σ H s):Inv X pins σ H s:=I.pins_of λp hp=>I.pin p (P6 _ (T5 _ hp))
theorem LQ {iter:Expr}{body:List Stmt}{wi:TI}{g:TG}{tb:TS}{pos:Pos}(hp:PassesOwn (model X.prog X.w) X.A X.env X.xe)(hc:X.calm=true)(hi:PI X tg iter wi)(hg:PG X tg g)(hb:PSs X body tb)
 (hs: ∀x,foldedSetIterable iter X.env x=pure x:=by intro _;rfl):PS X (.For tg iter body [] pos) (Tu wi g tb):=by
 intro pins s σ H D I h;refine wpAny_For (thn (hi pins s σ H _ I h) λv s1 h1=>thn h1 λitv s2 h2=> ?_) hs;obtain⟨it,fp,tn,J,H2,e,I2,T,st2,f2,W,⟨m0,w0⟩,turn⟩:=h2;subst e
 -- what stays true of the iterator's objects through the loop
 have stat: ∀ {H':Hp},(∀b∈fp,H' b=none)-> ∀b∈fp,GK X pins H' b:=λhn b hb=>⟨hn b hb,(f2 b hb).2⟩
 refine codeAny_forLoop_any (λn s'=> ∃i σ' H',Inv X pins σ' H' s'/\tn i s'.heap/\(∀b∈fp,H' b=none)/\W i n σ' H') ?_ m0 ⟨0,σ,H2,I2,st2,λb hb=>(f2 b hb).1,w0⟩;rintro n s3 ⟨i,σ3,H3,I3,st3,fr3,w3⟩;rcases turn i n σ3 H3 w3 with ⟨stop,qn⟩|⟨go,N,hN,step⟩
 ·refine J7 hp (thn (T.done X rfl rfl rfl hc i pins s3 σ3 H3 X.xe I3 (stat fr3) st3 stop) λr s4 ⟨hr,I4⟩=> ?_);subst hr;exact Q5 ⟨σ3,H3,I4,qn⟩
 ·refine J7 hp (thn (T.item X rfl rfl rfl hc i pins s3 σ3 H3 X.xe I3 (stat fr3) st3 go) λr s4 ⟨u,hr,h4⟩=> ?_);subst hr;refine J7 hp (thn h4 λ_ s5 ⟨x,H5,I5,r5,y5,st5,fr5⟩=> ?_);have I5':=I5.pinned (stat fr5) (T.obj _ _ st5);refine J7 hp (thn (hg _ s5 σ3 H5 x u _ I5' r5 (step x H5 y5)) λ_ s6 ⟨σ6,H6,I6,q6⟩=> ?_);refine J7 hp (thn (hb _ s6 σ6 H6 _ I6 q6) λf s7 q7=> ?_);have again: ∀ {σ7:St} {H7:Hp},Inv X (pins++vh fp s5.heap) σ7 H7 s7->N σ7 H7-> ∃m,m<n/\ ∃i σ' H',Inv X pins σ' H' s7/\tn i s7.heap/\(∀b∈fp,H' b=none)/\W i m σ' H':=λ{σ7 H7} I7 n7=>by
   obtain⟨m',hm,w7⟩:=hN σ7 H7 n7;refine⟨m',hm,i+1,σ7,H7,I7.unpinned,T.keep _ _ _ st5 λb hb o e=>(I7.pin (b,o) (P6 _ (P6 _ (wb hb e)))).1,λb hb=> ?_,w7⟩;obtain⟨o,e,d⟩:=T.obj _ _ st5 b hb;exact(I7.pin (b,o) (P6 _ (P6 _ (wb hb e)))).2.1
  cases f with
  |next=>obtain⟨σ7,H7,I7,n7⟩:=q7;exact again I7 n7
  |cont=>obtain⟨σ7,H7,I7,n7⟩:=q7;exact again I7 n7
  |brk=>obtain⟨σ7,H7,I7,q7⟩:=q7;exact⟨σ7,H7,I7.unpinned,q7⟩
  |ret v=>obtain⟨x7,σ7,H7,I7,r7,q7⟩:=q7;exact⟨x7,σ7,H7,I7.unpinned,r7,q7⟩
end
abbrev R2:=V->V->Hp->VK->Prop
def OpR (X:Cx)(f:Value->Value->Sem Value)(r:R2):Prop:=
 ∀ (pins:List (Addr×Obj)) (s:Shared) (σ:St) (H:Hp) (x y:V) (v u:Value) (Q:VK),Inv X pins σ H s->RelV x v->RelV y u->r x y H Q->
  wpAny (model X.prog X.w) X.A (f v u) (EP X pins σ Q) X.xe s
def UnR (X:Cx)(f:Value->Sem Value)(r:V->Hp->VK->Prop):Prop:=
 ∀ (pins:List (Addr×Obj)) (s:Shared) (σ:St) (H:Hp) (x:V) (v:Value) (Q:VK),Inv X pins σ H s->RelV x v->r x H Q->
  wpAny (model X.prog X.w) X.A (f v) (EP X pins σ Q) X.xe s
def CallR (X:Cx)(f:Value)(r:List V->Hp->VK->Prop):Prop:=
 ∀ (pins:List (Addr×Obj)) (s:Shared) (σ:St) (H:Hp) (xs:List V) (us:List Value) (Q:VK),Inv X pins σ H s->Vals xs us->r xs H Q->
  wpAny (model X.prog X.w) X.A (call f us) (EP X pins σ Q) X.xe s
def tOp (r:R2)(ta tb:TE):TE:=λσ H Q=>ta σ H λx H1=>tb σ H1 λy H2=>r x y H2 Q
def tUn (r:V->Hp->VK->Prop)(ta:TE):TE:=λσ H Q=>ta σ H λx H1=>r x H1 Q
def rI (C:Int->Int->Prop)(g:Int->Int->V):R2:=λx y H Q=> ∃i j,x= .int i/\y= .int j/\C i j/\Q (g i j) H
def rI0 (g:Int->Int->V):R2:=λx y H Q=> ∃i j,x= .int i/\y= .int j/\Q (g i j) H
def rU (g:Int->V):V->Hp->VK->Prop:=λx H Q=> ∃i,x= .int i/\Q (g i) H
section
variable {X:Cx}{a b c:Expr}{ta tb tc:TE}{pos:Pos}
theorem EK (ha:PE X a ta)(hb:PE X b tb){pins:List (Addr×Obj)}{s:Shared}{σ:St}{H:Hp}{R:V->V->Hp->Prop}(I:Inv X pins σ H s)
 (h:ta σ H λx H1=>tb σ H1 λy H2=>R x y H2){Q:Value->Shared->Prop}{f:Value->Value->Sem Value}
 (hf: ∀v u s2 x y H2,Inv X pins σ H2 s2->RelV x v->RelV y u->R x y H2->wpAny (model X.prog X.w) X.A (f v u) Q X.xe s2):
 wpAny (model X.prog X.w) X.A (eval a X.env) (λv s₁=>wpAny (model X.prog X.w) X.A (eval b X.env) (λu s₂=>wpAny (model X.prog X.w) X.A (f v u) Q X.xe s₂) X.xe s₁) X.xe s:=by
 refine thn (ha pins s σ H _ I h) λv s1 ⟨x,H1,I1,r1,q1⟩=> ?_
 refine thn (hb pins s1 σ H1 _ I1 q1) λu s2 ⟨y,H2,I2,r2,q2⟩=> ?_
 exact hf v u s2 x y H2 I2 r1 r2 q2
theorem EL {op:Operator}{r:R2}(ho:OpR X (binaryOp op) r)(ha:PE X a ta)(hb:PE X b tb):PE X (.BinOp a op b pos) (tOp r ta tb):=by
 intro pins s σ H Q I h;exact wpAny_BinOp (EK ha hb I h λv u s2 x y H2 I2 rx ry q=>ho pins s2 σ H2 x y v u Q I2 rx ry q)
theorem EM {op:UnaryOp}{r:V->Hp->VK->Prop}(ho:UnR X (unaryOp op) r)(ha:PE X a ta):PE X (.UnaryOp op a pos) (tUn r ta):=by
 intro pins s σ H Q I h;exact UnaryOp_ (thn (ha pins s σ H _ I h) λv s1 ⟨x,H1,I1,r1,q1⟩=>ho pins s1 σ H1 x v Q I1 r1 q1)
variable {f:Value->Value->Sem Value}
theorem opI {C:Int->Int->Prop}{g:Int->Int->Int}
 (rule: ∀ (i j:Int) (t u:Tok) (s:Shared) (Q:Value->Shared->Prop) (E:Value->Shared->Prop),C i j->Q (.int (g i j) s.toks) {s with toks:=s.toks+1}->wpAny (model X.prog X.w) X.A (f (.int i t) (.int j u)) Q E s):
 OpR X f (rI C λi j=> .int (g i j)):=by
 intro pins s σ H x y v u Q I rx ry h;obtain⟨i,j,rfl,rfl,hc,q⟩:=h;obtain⟨t,rfl⟩:=rx;obtain⟨t',rfl⟩:=ry;exact rule i j t t' s _ _ hc ⟨.int (g i j),H,I.tok _,⟨_,rfl⟩,q⟩
theorem Tv {g:Int->Int->Int}
 (rule: ∀ (i j:Int) (t u:Tok) (s:Shared) (Q:Value->Shared->Prop) (E:Value->Shared->Prop),Q (.int (g i j) s.toks) {s with toks:=s.toks+1}->wpAny (model X.prog X.w) X.A (f (.int i t) (.int j u)) Q E s):
 OpR X f (rI0 λi j=> .int (g i j)):=by
 intro pins s σ H x y v u Q I rx ry h;obtain⟨i,j,rfl,rfl,q⟩:=h;obtain⟨t,rfl⟩:=rx;obtain⟨t',rfl⟩:=ry;exact rule i j t t' s _ _ ⟨.int (g i j),H,I.tok _,⟨_,rfl⟩,q⟩
theorem En {g:Int->Int->Bool}
 (rule: ∀ (i j:Int) (t u:Tok) (s:Shared) (Q:Value->Shared->Prop) (E:Value->Shared->Prop),Q (.bool (g i j)) s->wpAny (model X.prog X.w) X.A (f (.int i t) (.int j u)) Q E s):
 OpR X f (rI0 λi j=> .bl (g i j)):=by
 intro pins s σ H x y v u Q I rx ry h;obtain⟨i,j,rfl,rfl,q⟩:=h;obtain⟨t,rfl⟩:=rx;obtain⟨t',rfl⟩:=ry;exact rule i j t t' s _ _ ⟨.bl (g i j),H,I,rfl,q⟩
def Tw (i j:Int):Prop:=0<j/\j<1073741824
def Tx (i j:Int):Prop:=0<=j/\j<=1000000/\i.natAbs<2^64
def CMul (i j:Int):Prop:=(-(2^64)<i/\i<2^64)\/(-(2^64)<j/\j<2^64)
theorem CMul.ok {i j:Int}(h:CMul i j):IntMulOk i j:=by
 rcases h with ⟨h1,h2⟩|⟨h1,h2⟩
 ·exact .of_left (intBits_le_64 h1 h2)
 ·exact .of_right (intBits_le_64 h1 h2)
theorem op_add:OpR X (binaryOp .Add) (rI0 λi j=> .int (i+j)):=Tv λ_ _ _ _ _ _ _ q=>add_int q
theorem LU:OpR X (binaryOp .Sub) (rI0 λi j=> .int (i-j)):=Tv λ_ _ _ _ _ _ _ q=>sub_int q
theorem op_mul:OpR X (binaryOp .Mult) (rI CMul λi j=> .int (i*j)):=opI λ_ _ _ _ _ _ _ hc q=>mul_int q hc.ok
theorem BH:OpR X (binaryOp .FloorDiv) (rI Tw λi j=> .int (i / j)):=opI λi j _ _ _ _ _ hc q=>by
 have h1:(0:Int)<j:=hc.1;have h2:j<1073741824:=hc.2;exact floordiv_int (by omega) (by rw [G0i i (by omega)];exact q) (.inl (PyProof.noPylong_small (by omega)))
theorem LV:OpR X (binaryOp .Mod) (rI (λ_ j=>0<j) λi j=> .int (i%j)):=opI λi j _ _ _ _ _ hc q=>by
 have h1:(0:Int)<j:=hc;exact mod_int' (by omega) (by rw [G0j i (by omega)];exact q)
theorem LW:OpR X (binaryOp .Pow) (rI Tx λi j=> .int (i^j.toNat)):=opI λ_ _ _ _ _ _ _ hc q=>pow_int_small hc.1 hc.2.1 hc.2.2 q
theorem unI {f:Value->Sem Value}{g:Int->Int}
 (rule: ∀ (i:Int) (t:Tok) (s:Shared) (Q:Value->Shared->Prop) (E:Value->Shared->Prop),Q (.int (g i) s.toks) {s with toks:=s.toks+1}->wpAny (model X.prog X.w) X.A (f (.int i t)) Q E s):
 UnR X f (rU λi=> .int (g i)):=by
 intro pins s σ H x v Q I rx h;obtain⟨i,rfl,q⟩:=h;obtain⟨t,rfl⟩:=rx;exact rule i t s _ _ ⟨.int (g i),H,I.tok _,⟨_,rfl⟩,q⟩
theorem LX:UnR X (unaryOp .USub) (rU λi=> .int (-i)):=unI λ_ _ _ _ _ q=>neg_int q
end
def Ty:V->V->Bool
 | .non,.non=>true| .non,.int _=>true| .int _,.non=>true| .non,.bl _=>true| .bl _,.non=>true| .non,.str _=>true| .str _,.non=>true
 | .int _,.int _=>true| .bl _,.bl _=>true| .str _,.str _=>true| .byt _,.byt _=>true
 | .int _,.str _=>true| .str _,.int _=>true| .bl _,.str _=>true| .str _,.bl _=>true
 |_,_=>false
def rEq:R2:=λx y H Q=>Ty x y=true/\Q (.bl (decide (x=y))) H
def rNe:R2:=λx y H Q=>Ty x y=true/\Q (.bl (!decide (x=y))) H
theorem Pc {i j:Int}:decide (V.int i=V.int j)=(i==j):=by
 rw [M8];simp
theorem NW {i j:Bool}:decide (V.bl i=V.bl j)=(i==j):=by
 rw [M8];simp
theorem Pd {i j:Str}:decide (V.str i=V.str j)=(i==j):=by
 rw [M8];simp
theorem Pe {i j:Array UInt8}:decide (V.byt i=V.byt j)=(i.toList==j.toList):=by
 rw [M8];cases i;cases j;simp
section
variable {X:Cx}{a b c:Expr}{ta tb tc:TE}{pos:Pos}
theorem jB {pins:List (Addr×Obj)}{σ:St}{H:Hp}{s:Shared}{Q:VK}{k k':Bool}(I:Inv X pins σ H s)(q:Q (.bl k) H)(e:k=k'):EP X pins σ Q (.bool k') s:=by
 subst e;exact⟨.bl k,H,I,rfl,q⟩
theorem op_eq:OpR X (compareOp .Eq) rEq:=by
 intro pins s σ H x y v u Q I rx ry h;obtain⟨hs,q⟩:=h;cases x with
 |non=>
  cases rx;cases y with
  |non=>cases ry;exact PySem.EqNone.eq_none_none (jB I q (by simp))
  |bl j=>cases ry;exact PySem.EqNone.eq_none_bool (jB I q (by simp))
  |int j=>obtain⟨t',rfl⟩:=ry;exact PySem.EqNone.eq_none_int (jB I q (by simp))
  |str j=>obtain⟨t',rfl⟩:=ry;exact PySem.EqNone.eq_none_str (jB I q (by simp))
  |_=>exact absurd (show false=true from hs) P7
 |bl i=>
  cases rx;cases y with
  |non=>cases ry;exact PySem.EqNone.eq_bool_none (jB I q (by simp))
  |bl j=>cases ry;exact eq_bool (jB I q NW)
  |str j=>obtain⟨t',rfl⟩:=ry;exact PySem.EqMixed.eq_bool_str (jB I q (by simp))
  |_=>exact absurd (show false=true from hs) P7
 |int i=>
  obtain⟨t,rfl⟩:=rx;cases y with
  |non=>cases ry;exact PySem.EqNone.eq_int_none (jB I q (by simp))
  |int j=>obtain⟨t',rfl⟩:=ry;exact eq_int (jB I q Pc)
  |str j=>obtain⟨t',rfl⟩:=ry;exact PySem.EqMixed.eq_int_str (jB I q (by simp))
  |_=>exact absurd (show false=true from hs) P7
 |str i=>
  obtain⟨t,rfl⟩:=rx;cases y with
  |non=>cases ry;exact PySem.EqNone.eq_str_none (jB I q (by simp))
  |bl j=>cases ry;exact PySem.EqMixed.eq_str_bool (jB I q (by simp))
  |int j=>obtain⟨t',rfl⟩:=ry;exact PySem.EqMixed.eq_str_int (jB I q (by simp))
  |str j=>obtain⟨t',rfl⟩:=ry;exact eq_str (jB I q Pd)
  |_=>exact absurd (show false=true from hs) P7
 |byt i=>
  obtain⟨t,rfl⟩:=rx;cases y with
  |byt j=>obtain⟨t',rfl⟩:=ry;exact PySem.W.eq_bytes (jB I q Pe)
  |_=>exact absurd (show false=true from hs) P7
 |_=>cases y<;>exact absurd (show false=true from hs) P7
theorem op_ne:OpR X (compareOp .NotEq) rNe:=by
 intro pins s σ H x y v u Q I rx ry h;obtain⟨hs,q⟩:=h;cases x with
 |non=>
  cases rx;cases y with
  |non=>cases ry;exact PySem.EqNone.ne_none_none (jB I q (by simp))
  |bl j=>cases ry;exact PySem.EqNone.ne_none_bool (jB I q (by simp))
  |int j=>obtain⟨t',rfl⟩:=ry;exact PySem.EqNone.ne_none_int (jB I q (by simp))
  |str j=>obtain⟨t',rfl⟩:=ry;exact PySem.EqNone.ne_none_str (jB I q (by simp))
  |_=>exact absurd (show false=true from hs) P7
 |bl i=>
  cases rx;cases y with
  |non=>cases ry;exact PySem.EqNone.ne_bool_none (jB I q (by simp))
  |bl j=>cases ry;exact ne_bool (jB I q (congrArg not NW))
  |str j=>obtain⟨t',rfl⟩:=ry;exact PySem.EqMixed.ne_bool_str (jB I q (by simp))
  |_=>exact absurd (show false=true from hs) P7
 |int i=>
  obtain⟨t,rfl⟩:=rx;cases y with
  |non=>cases ry;exact PySem.EqNone.ne_int_none (jB I q (by simp))
  |int j=>obtain⟨t',rfl⟩:=ry;exact ne_int (jB I q (congrArg not Pc))
  |str j=>obtain⟨t',rfl⟩:=ry;exact PySem.EqMixed.ne_int_str (jB I q (by simp))
  |_=>exact absurd (show false=true from hs) P7
 |str i=>
  obtain⟨t,rfl⟩:=rx;cases y with
  |non=>cases ry;exact PySem.EqNone.ne_str_none (jB I q (by simp))
  |bl j=>cases ry;exact PySem.EqMixed.ne_str_bool (jB I q (by simp))
  |int j=>obtain⟨t',rfl⟩:=ry;exact PySem.EqMixed.ne_str_int (jB I q (by simp))
  |str j=>obtain⟨t',rfl⟩:=ry;exact ne_str (jB I q (congrArg not Pd))
  |_=>exact absurd (show false=true from hs) P7
 |byt i=>
  obtain⟨t,rfl⟩:=rx;cases y with
  |byt j=>obtain⟨t',rfl⟩:=ry;exact PySem.W.ne_bytes (jB I q (congrArg not Pe))
  |_=>exact absurd (show false=true from hs) P7
 |_=>cases y<;>exact absurd (show false=true from hs) P7
theorem EN:OpR X (compareOp .Lt) (rI0 λi j=> .bl (decide (i<j))):=En λ_ _ _ _ _ _ _ q=>lt_int q
theorem EO:OpR X (compareOp .LtE) (rI0 λi j=> .bl (decide (i<=j))):=En λ_ _ _ _ _ _ _ q=>le_int q
theorem EQ:OpR X (compareOp .Gt) (rI0 λi j=> .bl (decide (j<i))):=En λ_ _ _ _ _ _ _ q=>gt_int q
theorem ER:OpR X (compareOp .GtE) (rI0 λi j=> .bl (decide (j<=i))):=En λ_ _ _ _ _ _ _ q=>ge_int q
theorem LY:OpR X (compareOp .Is) (λx y H Q=>y= .non/\Q (.bl (decide (x= .non))) H):=by
 intro pins s σ H x y v u Q I rx ry h;obtain⟨rfl,q⟩:=h;cases ry;refine is_none_gen (jB I q ?_);cases x<;>first
  |(cases rx;rfl)
  |(obtain⟨t,rfl⟩:=rx;rfl)
theorem BI:OpR X (compareOp .IsNot) (λx y H Q=>y= .non/\Q (.bl (!decide (x= .non))) H):=by
 intro pins s σ H x y v u Q I rx ry h;obtain⟨rfl,q⟩:=h;cases ry;refine isnot_none_gen (jB I q ?_);cases x<;>first
  |(cases rx;rfl)
  |(obtain⟨t,rfl⟩:=rx;rfl)
variable {r:R2}
theorem OpR.or {f:Value->Value->Sem Value}{r':R2}(h:OpR X f r)(h':OpR X f r'):OpR X f (λx y H Q=>r x y H Q\/r' x y H Q):=by
 intro pins s σ H x y v u Q I rx ry q;rcases q with q|q
 ·exact h pins s σ H x y v u Q I rx ry q
 ·exact h' pins s σ H x y v u Q I rx ry q
theorem Pf (b:Expr){op:CmpOp}(h:op≠ .In:=by decide)(h2:op≠ .NotIn:=by decide):behindInMarks op b=false:=by
 have e1:(op==CmpOp.In)=false:=by cases op<;>first|rfl|exact absurd rfl h
 have e2:(op==CmpOp.NotIn)=false:=by cases op<;>first|rfl|exact absurd rfl h2
 cases b<;>simp [behindInMarks,e1,e2]
variable {op:CmpOp}
theorem BJ (ho:OpR X (compareOp op) r)(ha:PE X a ta)(hb:PE X b tb)(hm:behindInMarks op b=false):PE X (.Compare a [op] [b] pos) (tOp r ta tb):=by
 intro pins s σ H Q I h;exact wpAny_Compare1 (EK ha hb I h λv u s2 x y H2 I2 rx ry q=>ho pins s2 σ H2 x y v u Q I2 rx ry q) hm
def BK (t:TE):TT:=λσ H Q=>t σ H λx H'=> ∃k,x= .bl k/\Q k H'
theorem BL (ho:OpR X (compareOp op) r)(ha:PE X a ta)(hb:PE X b tb)(hm:behindInMarks op b=false):PT X (.Compare a [op] [b] pos) (BK (tOp r ta tb)):=by
 intro pins s σ H Q I h;refine wpAny_isTrue_Compare1 (thn (ha pins s σ H _ I h) λv s1 ⟨x,H1,I1,r1,q1⟩=>thn (hb pins s1 σ H1 _ I1 q1) λu s2 ⟨y,H2,I2,r2,q2⟩=>
  thn (ho pins s2 σ H2 x y v u _ I2 r1 r2 q2) λc s3 ⟨z,H3,I3,r3,k,e,q3⟩=> ?_) hm
 subst e;cases r3;exact N4 ⟨H3,I3,q3⟩
def Pg (r r':R2)(ta tb tc:TE):TE:=λσ H Q=>ta σ H λx H1=>tb σ H1 λy H2=>r x y H2 λz H3=> ∃k,z= .bl k/\
 (if k=true then tc σ H3 λw' H4=>r' y w' H4 Q else Q (.bl false) H3)
theorem Mm {op':CmpOp}{r':R2}(ho:OpR X (compareOp op) r)(ho':OpR X (compareOp op') r')(ha:PE X a ta)(hb:PE X b tb)(hc:PE X c tc)
 (hm:lastMarks [op,op'] [b,c]=false:=by with_unfolding_all rfl):PE X (.Compare a [op,op'] [b,c] pos) (Pg r r' ta tb tc):=by
 intro pins s σ H Q I h;refine Compare_chain (thn (ha pins s σ H _ I h) λv s1 ⟨x,H1,I1,r1,q1⟩=>chain_link (thn (hb pins s1 σ H1 _ I1 q1) λu s2 ⟨y,H2,I2,r2,q2⟩=>
  thn (ho pins s2 σ H2 x y v u _ I2 r1 r2 q2) λd s3 ⟨z,H3,I3,r3,k,e,q3⟩=> ?_)) hm
 subst e;cases r3;refine N4 ?_;cases k with
 |false=>exact ite_ff ⟨.bl false,H3,I3,rfl,q3⟩
 |true=>exact ite_tt (chain_last (thn (hc pins s3 σ H3 _ I3 q3) λw' s4 ⟨z',H4,I4,r4,q4⟩=>ho' pins s4 σ H4 y z' u w' Q I4 r2 r4 q4))
theorem Mn {op':CmpOp}{r':R2}(ho:OpR X (compareOp op) r)(ho':OpR X (compareOp op') r')(ha:PE X a ta)(hb:PE X b tb)(hc:PE X c tc)
 (hm:lastMarks [op,op'] [b,c]=false:=by with_unfolding_all rfl):PT X (.Compare a [op,op'] [b,c] pos) (BK (Pg r r' ta tb tc)):=by
 intro pins s σ H Q I h;refine isTrue_chain (thn (ha pins s σ H _ I h) λv s1 ⟨x,H1,I1,r1,q1⟩=>test_link (thn (hb pins s1 σ H1 _ I1 q1) λu s2 ⟨y,H2,I2,r2,q2⟩=>
  thn (ho pins s2 σ H2 x y v u _ I2 r1 r2 q2) λd s3 ⟨z,H3,I3,r3,k,e,q3⟩=> ?_)) hm
 subst e;cases r3;refine N4 ?_;cases k with
 |false=>
  obtain⟨k',e',q'⟩:=q3;cases e';exact ite_ff ⟨H3,I3,q'⟩
 |true=>
  refine ite_tt (test_last (thn (hc pins s3 σ H3 _ I3 q3) λw' s4 ⟨z',H4,I4,r4,q4⟩=>thn (ho' pins s4 σ H4 y z' u w' _ I4 r2 r4 q4) λd' s5 ⟨z2,H5,I5,r5,k2,e2,q5⟩=> ?_));subst e2;cases r5;exact N4 ⟨H5,I5,q5⟩
theorem VB:(sizeLine:Nat)<2^63:=by rw [G08];decide
theorem Jz {x:V}{us:List Value}(r:Vals [x] us): ∃u,us= [u]/\RelV x u:=by
 cases r with
 |cons r1 r2=>cases r2;exact⟨_,rfl,r1⟩
theorem Mo {x y:V}{us:List Value}(r:Vals [x,y] us): ∃u w',us= [u,w']/\RelV x u/\RelV y w':=by
 cases r with
 |cons r1 r2=>
  cases r2 with
  |cons r3 r4=>cases r4;exact⟨_,_,rfl,r1,r3⟩
theorem Ph (hc:X.calm=true):CallR X (.builtin "max") (λxs H Q=> ∃i j,xs= [.int i,.int j]/\Q (.int (if j>i then j else i)) H):=by
 intro pins s σ H xs us Q I r h;obtain⟨i,j,rfl,q⟩:=h;obtain⟨u,w',rfl,⟨t,rfl⟩,⟨t',rfl⟩⟩:=Mo r;refine max_two_ints (I.ok.hd hc) λh' tk k=>⟨_,H,I.kept k,?_,q⟩
 by_cases hj:j>i
 ·rw [if_pos hj,if_pos hj];exact⟨_,rfl⟩
 ·rw [if_neg hj,if_neg hj];exact⟨_,rfl⟩
theorem call_int1:CallR X (.type "int") (λxs H Q=>(∃i,xs= [.int i]/\Q (.int i) H)\/ ∃k,xs= [.bl k]/\Q (.int (if k then 1 else 0)) H):=by
 intro pins s σ H xs us Q I r h;rcases h with ⟨i,rfl,q⟩|⟨k,rfl,q⟩
 ·obtain⟨u,rfl,t,rfl⟩:=Jz r;exact call_int_int ⟨.int i,H,I,⟨_,rfl⟩,q⟩
 ·obtain⟨u,rfl,r1⟩:=Jz r;cases r1;exact call_int_bool ⟨.int (if k then 1 else 0),H,I.tok _,⟨_,rfl⟩,q⟩
end
structure ObjM (h:Heap)(x dx C:Addr)(mA:Str->Option Value):Prop where
 obj:h.get? x=some (PySem.W.instObj C dx)
 ns:h.Ns1 dx mA
 ne:dx≠x
theorem Pi {dx:Addr}{mA:Str->Option Value}(n:h.Ns1 dx mA): ∃od,h.get? dx=some od/\ ∀name,PySem.W.lookIn name od=some (mA name):=by
 obtain⟨o,es,ep,ho,hd,hk,_,hm⟩:=n;refine⟨o,ho,λname=> ?_⟩;have e:=hm name;unfold nsFind findBy at e;rw [<-Array.find?_toList] at e;unfold PySem.W.lookIn;rw [hd];dsimp only;split
 ·rename_i y q;rw [q] at e;exact congrArg some e
 ·rename_i q;rw [q] at e;have a:es.toList.any (·.refKey)=false:=by
   rw [List.any_eq_false];intro y hy;obtain⟨z,t,hkey⟩:=hk y (Array.mem_toList_iff.mp hy);simp [DictEntry.refKey,hkey]
  have a': ¬es.toList.any (·.refKey)=true:=by rw [a];exact P7
  rw [if_neg a'];exact congrArg some e
theorem ObjM.look {x dx C:Addr}{mA:Str->Option Value}(I:ObjM h x dx C mA): ∃od,PySem.W.InstAt h x (PySem.W.instObj C dx) C (some od)/\ ∀name,PySem.W.lookIn name od=some (mA name):=
 let ⟨od,ho,hl⟩:=Pi I.ns
 ⟨od,⟨I.obj,rfl,rfl,ho⟩,hl⟩
theorem RelO.some_of {v:V}{o:Option Value}(r:RelO (some v) o): ∃u,o=some u/\RelV v u:=by
 cases o with
 |none=>exact(show False from r).elim
 |some u=>exact⟨u,rfl,r⟩
section
variable {P:Program}{w:World}{H H':Hp}{h h':Heap}{a C dx:Addr}{fs fs':List (Str×V)}
theorem BM (hok:HOk P w H h)(e:H a=some (.ins C dx fs)): ∃mA,ObjM h a dx C mA/\(∀f,RelO (fs.lookup f) (mA f))/\PySem.Within mA (fs.map (·.1))/\fs.length<=1000/\H dx=some (.own a):=by
 obtain⟨d,z,ne,ob,mA,n,r,q⟩:=(show ObjOk P w H h a (.ins C dx fs) from hok a _ e);exact⟨mA,⟨ob,n,ne⟩,r,q,z,d⟩
end
structure Cls (K:PySem.W.Frag)(C:Addr):Prop where
 pg:PySem.W.plainGet K C Str.empty=true
 hd:PySem.W.hasDictIn K C=true
 po:PySem.W.plainOver K C=true
 sa:PySem.W.findIn K (.ref C) "__setattr__" =some (some (.builtin "object.__setattr__"))
theorem Cls.get {C:Addr}(c:Cls K C)(f:Str):PySem.W.plainGet K C f=true:=c.pg
section
variable {X:Cx}{pins:List (Addr×Obj)}{σ:St}{H:Hp}{s:Shared}{A:Around}{E:Value->Shared->Prop}{Q:Value->Shared->Prop}{c:Value}{b:Bool}
inductive TyOf (K:PySem.W.Frag)(H:Hp):V->Value->Prop where
 |non:TyOf K H .non (.type "NoneType")
 |bl (x:Bool):TyOf K H (.bl x) (.type "bool")
 |int (i:Int):TyOf K H (.int i) (.type "int")
 |str (x:Str):TyOf K H (.str x) (.type "str")
 |flt (x:UInt64):TyOf K H (.flt x) (.type "float")
 |lst {a:Addr} {xs:List V} (e:H a=some (.lst xs)):TyOf K H (.ref a) (.type "list")
 |frz {a:Addr} {o:Obj} {xs:List V} (e:H a=some (.frz o (.lst xs))):TyOf K H (.ref a) (.type "list")
 |tup {a:Addr} {xs:List V} (e:H a=some (.tup xs)):TyOf K H (.ref a) (.type "tuple")
 |dK {a:Addr} {kvs:List (Key×V)} (e:H a=some (.dK kvs)):TyOf K H (.ref a) (.type "dict")
 |dT {a:Addr} {kvs:List (List Key×V)} (e:H a=some (.dT kvs)):TyOf K H (.ref a) (.type "dict")
 |ins {a C dx:Addr} {fs:List (Str×V)} (e:H a=some (.ins C dx fs)) (cl:Cls K C) (ha:PySem.W.findIn K (.ref C) "__class__" =some (some (.builtin "object.__class__")))
  (hn:PySem.W.specialIn K (.builtin "object.__class__") "__get__" =some (some (.builtin "getset_descriptor.__get__"))) (htk:PySem.W.takesIn K (.builtin "object.__class__")=some true)
  (hm:PySem.W.mroIn K C (.type "object")=some true):TyOf K H (.ref a) (.ref C)
theorem Pj {x:V}{u t:Value}(I:Inv X pins σ H s)(rx:RelV x u)(ty:TyOf X.K H x t)(e:PySem.W.kitOne X.K t c=some b)(h: ∀tk,Q (.bool b) {s with toks:=tk}):
 wpAny (model X.prog X.w) A (call (.builtin "isinstance") [u,c]) Q E s:=by
 cases ty with
 |non=>cases (show u=Value.none from rx);exact B7 PySem.W.kitx_none I.kIn True.intro e (λz=>nomatch z) h
 |bl y=>cases (show u=Value.bool y from rx);exact B7 PySem.W.kitx_bool I.kIn True.intro e (λz=>nomatch z) h
 |int i=>obtain⟨t,q⟩:=(show ∃t,u=Value.int i t from rx);cases q;exact B7 PySem.W.kitx_int I.kIn True.intro e (λz=>nomatch z) h
 |str y=>obtain⟨t,q⟩:=(show ∃t,u=Value.str y t from rx);cases q;exact B7 PySem.W.kitx_str I.kIn True.intro e (λz=>nomatch z) h
 |flt y=>obtain⟨t,q⟩:=(show ∃t,u=Value.float y t from rx);cases q;exact B7 PySem.W.kitx_float I.kIn True.intro e (λz=>nomatch z) h
 | @lst a xs ea=>
  cases (show u=Value.ref a from rx);obtain⟨_,_,n,_,h1⟩:=(show ObjOk X.prog X.w H s.heap a (.lst xs) from I.hok a _ ea);exact B7 PySem.W.kitx_list I.kIn ⟨_,h1,rfl⟩ e (λz=>nomatch z) h
 | @frz a ob xs ea=>
  cases (show u=Value.ref a from rx);obtain⟨_,_,_,n,_,h1⟩:=(show ObjOk X.prog X.w H s.heap a (.frz ob (.lst xs)) from I.hok a _ ea);exact B7 PySem.W.kitx_list I.kIn ⟨_,h1,rfl⟩ e (λz=>nomatch z) h
 | @tup a xs ea=>
  cases (show u=Value.ref a from rx);obtain⟨_,_,_,p⟩:=(show ObjOk X.prog X.w H s.heap a (.tup xs) from I.hok a _ ea);obtain⟨o,h1,h2,_⟩:=p;exact B7 PySem.W.kitx_tuple I.kIn ⟨o,h1,h2⟩ e (λz=>nomatch z) h
 | @dK a kvs ea=>
  cases (show u=Value.ref a from rx);obtain⟨_,_,vs,_,p⟩:=(show ObjOk X.prog X.w H s.heap a (.dK kvs) from I.hok a _ ea);obtain⟨o,es,ep,h1,h2,_⟩:=p;exact B7 PySem.W.kitx_dict I.kIn ⟨o,h1,h2.1⟩ e (λz=>nomatch z) h
 | @dT a kvs ea=>
  cases (show u=Value.ref a from rx);obtain⟨_,_,xs,_,o,es,ep,h1,h2,_⟩:=(show ObjOk X.prog X.w H s.heap a (.dT kvs) from I.hok a _ ea);exact B7 PySem.W.kitx_dict I.kIn ⟨o,h1,h2.1⟩ e (λz=>nomatch z) h
 | @ins a C dx fs ea cl ha hn htk hm=>
  cases (show u=Value.ref a from rx);obtain⟨mA,O,_⟩:=BM I.hok ea;obtain⟨od,J,_⟩:=O.look;exact B7 (PySem.W.kitx_own (cl.get _) cl.hd ha hn htk hm) I.kIn J e (λz=>nomatch z) h
end
structure Room (k:Nat)(A:Around):Prop where
 hd:A.handled=none
 dp:A.depth+3*k+5<recursionLimit
 un:A.units+16*k+200<cLine
 gd:A.guards=some []
variable {k:Nat}
theorem Room.mono {j:Nat}(r:Room k A)(h:j<=k):Room j A:=⟨r.hd,by have:=r.dp;omega,by have:=r.un;omega,r.gd⟩
theorem Room.deeper (r:Room (k+1) A)(env:Env):Room k (A.deeper env):=
 ⟨r.hd,by have:=r.dp;show A.depth+1+3*k+5<_;omega,by have:=r.un;show A.units+3+16*k+200<_;omega,r.gd⟩
theorem Room.depth (r:Room k A):A.depth<recursionLimit:=by have:=r.dp;omega
theorem Room.units (r:Room k A):A.units+64<cLine:=by have:=r.un;omega
def ES:TA:=λ_ H Q=>Q [] H
def Mp (ta:TE)(tr:TA):TA:=λσ H Q=>ta σ H λx H1=>tr σ H1 λxs H2=>Q (x::xs) H2
section
variable {X:Cx}{e:Expr}{es:List Expr}{te:TE}{t:TA}{pos:Pos}
theorem pa_nil:PA X [] ES:=λ_ _ _ _ H Q I h=>X2 ⟨[],H,I,.nil,h⟩
theorem wG (ha:PE X e te)(hr:PA X es t)(hs:starEach (e::es) X.env=(false,eval e X.env)::starEach es X.env:=by rfl):PA X (e::es) (Mp te t):=by
 intro pos pins s σ H Q I h;rw [hs];show wpAny _ _ (spliced ((false,eval e X.env)::backTo pos (starEach es X.env))) _ _ s;refine K7 (thn (ha pins s σ H _ I h) λu s1 ⟨x,H1,I1,r1,q1⟩=> ?_);exact thn (hr pos pins s1 σ H1 _ I1 q1) λus s2 ⟨xs,H2,I2,r2,q2⟩=>⟨x::xs,H2,I2,.cons r1 r2,q2⟩
def Tz (t:TA):TE:=λσ H Q=>t σ H λxs H1=>xs.length<=sizeLine/\ ∀p,H1 p=none->Q (.ref p) (upd H1 p (.tup xs))
def TB (t:TA):TE:=λσ H Q=>t σ H λxs H1=>xs.length<=sizeLine/\ ∀p,H1 p=none->Q (.ref p) (upd H1 p (.lst xs))
theorem LZ {x1}(h:PA X es t):PE X (.Tuple es x1 pos) (Tz t):=by
 intro pins s σ H Q I hq;refine wpAny_Tuple_spliced (thn (h pos pins s σ H _ I hq) λus s1 ⟨xs,H1,I1,r,z,q⟩=>⟨by rw [<-r.length];exact z,?_⟩);have hf:H1 s1.heap.objs.size=none:=I1.hok.fresh (G8 _);refine⟨.ref s1.heap.objs.size,upd H1 s1.heap.objs.size (.tup xs),I1.laid (t':=s1.toks) (λb u e=>G3 _ e) (G8 _) ?_,rfl,q _ hf⟩;exact⟨z,us,r,IsTupN.new _ _⟩
theorem Oa (h:PA X es t):PE X (.List es pos) (TB t):=by
 intro pins s σ H Q I hq;refine wpAny_List_spliced (thn (h pos pins s σ H _ I hq) λus s1 ⟨xs,H1,I1,r,z,q⟩=>⟨by rw [<-r.length];exact z,?_⟩);have hf:H1 s1.heap.objs.size=none:=I1.hok.fresh (G8 _);refine⟨.ref s1.heap.objs.size,upd H1 s1.heap.objs.size (.lst xs),I1.laid (t':=s1.toks) (λb u e=>G3 _ e) (G8 _) ?_,rfl,q _ hf⟩;exact⟨z,us,0,r,D9 _ rfl⟩
end
abbrev Sp:=List V->Hp->VK->XK->Prop
abbrev CXT:=List Env->Hp->Shared->XK->Value->Shared->Prop
structure Env0 (P:Program)(w:World)(K:PySem.W.Frag)(mg:Str->Option Value)(base:Heap)(A:Around)(outer:List Env)(s:Shared)(H:Hp):Prop where
 frames:A.frames=some outer
 mod:Mod K mg base
 bs: ∀b o,base.get? b=some o->s.heap.get? b=some o/\H b=none
 bsz:base.objs.size<=s.heap.objs.size
 funs:s.heap.FunFrames base outer
 frf: ∀b∈frs outer,H b=none
 hok:HOk P w H s.heap
 bare:AllBare s.gens
def CE (outer:List Env)(P:Program)(w:World)(H:Hp)(s:Shared)(Q:VK)(u:Value)(s':Shared):Prop:=
 ∃v H',s'.os=s.os/\AllBare s'.gens/\Un (frs outer) [] H H' s.heap s'.heap/\HOk P w H' s'.heap/\RelV v u/\Q v H'
def CR (CX:CXT)(outer:List Env)(P:Program)(w:World)(H:Hp)(s:Shared)(Q:VK)(E:XK)(r:Result)(s':Shared):Prop:=
 match r with
 | .ok (.ret u)=>CE outer P w H s Q u s'
 | .ok _=>False
 | .error e=>CX outer H s E e s'
structure FnOk (P:Program)(w:World)(K:PySem.W.Frag)(mg:Str->Option Value)(base:Heap)(CX:CXT)(k:Nat)(f:Addr)(fd:FuncData)(ps:List Str)(sp:Sp):Prop where
 len: ∀vs H Q E,sp vs H Q E->vs.length=ps.length
 run: ∀ (A:Around) (outer:List Env) (s:Shared) (H:Hp) (args:Args) (us:List Value) (vs:List V) (Q:VK) (E:XK),Room k A->Env0 P w K mg base A outer s H->BindsTo s fd args (ps.zip us)->Vals vs us->sp vs H Q E->
  codeAny (model P w) A (.call (.ref f) args) (CR CX outer P w H s Q E) s
section
variable {X:Cx}{pins:List (Addr×Obj)}{σ:St}{H:Hp}{s s':Shared}
theorem Inv.env0 (I:Inv X pins σ H s):Env0 X.prog X.w X.K X.mg X.base X.A X.stack s H:=
 ⟨I.ok.frames,I.ok.mod,I.bs,R9 I.ok.bsz I.sz,I.stack,I.stkFree,I.hok,I.bare⟩
theorem Inv.after {Q:VK}{u:Value}(I:Inv X pins σ H s)(h:CE X.stack X.prog X.w H s Q u s'):EP X pins σ Q u s':=by
 obtain⟨v,H',os,bare,un,hok,r,q⟩:=h;obtain⟨hh,g,d,t,os'⟩:=s';obtain rfl:os'=s.os:=os;exact⟨v,H',I.call (h':=hh) (g':=g) (d':=d) (t':=t) (ch:= []) un hok bare (λb z=>absurd z (by simp)),r,q⟩
end
def BN (sp:Sp)(dvs:List V)(E:XK)(t:TA):TE:=λσ H Q=>t σ H λvs H1=>sp (vs++dvs) H1 Q E
def Binds (K:PySem.W.Frag)(fd:FuncData)(ps:List Str)(ds:List Value):Prop:=
 ∀ (s:Shared) (us:List Value),K.In s.heap->(us++ds).length=ps.length->BindsTo s fd ⟨us,[]⟩ (ps.zip (us++ds))
theorem Binds.all {fd:FuncData}{ps:List Str}(h: ∀us:List Value,us.length=ps.length->bindArgs fd ⟨us,[]⟩=pure (ps.zip us)):Binds K fd ps []:=λs us _ hl=>by
 rw [B1] at hl ⊢;exact .of_eq (h us hl)
def ZL (CX:CXT)(X:Cx)(E:XK):Prop:= ∀ (pins:List (Addr×Obj)) (σ:St) (H:Hp) (s:Shared) (e:Value) (s':Shared),Inv X pins σ H s->CX X.stack H s E e s'->X.xe e s'
section
variable {X:Cx}{CX:CXT}{k:Nat}{f C:Addr}{fd:FuncData}{ps:List Str}{sp:Sp}{dvs:List V}{ds:List Value}{E:XK}{x m:Str}{p pos apos:Pos}{e o:Expr}{es:List Expr}{ta:TE}{t:TA}
theorem Ob {pins:List (Addr×Obj)}{σ:St}{H:Hp}{s:Shared}{Q:VK}{us:List Value}{vs:List V}(F:FnOk X.prog X.w X.K X.mg X.base CX k f fd ps sp)(hr:Room k X.A)(hb:Binds X.K fd ps ds)(hd:Vals dvs ds)(hx:ZL CX X E)
 (I:Inv X pins σ H s)(r:Vals vs us)(h:sp (vs++dvs) H Q E):wpAny (model X.prog X.w) X.A (call (.ref f) us) (EP X pins σ Q) X.xe s:=by
 have r2:Vals (vs++dvs) (us++ds):=r.append hd;have hl:(us++ds).length=ps.length:=by rw [<-r2.length];exact F.len _ _ _ _ h
 refine G0v (Y2 (F.run X.A X.stack s H ⟨us,[]⟩ (us++ds) (vs++dvs) Q E hr I.env0 (hb s us I.kIn hl) r2 h) λr s' hq=> ?_);cases r with
 |error e=>exact hx pins σ H s e s' I hq
 |ok fl=>
  cases fl with
  |ret u=>exact I.after hq
  |next=>exact False.elim hq
  |brk=>exact False.elim hq
  |cont=>exact False.elim hq
theorem Pk (F:FnOk X.prog X.w X.K X.mg X.base CX k f fd ps sp)(hr:Room k X.A)(hg:Gl X x)(hm:X.mg x=some (.ref f))(hk:PySem.W.keepIn X.K (.ref f)=true)(hb:Binds X.K fd ps ds)(hd:Vals dvs ds)(hx:ZL CX X E)
 (ha:PA X (e::es) t)(hdb:(x==("__debug__" :Str))=false:=by decide)(he:starEach (e::es) X.env=(false,eval e X.env)::starEach es X.env:=by rfl)(hpl:(backTo pos (starEach es X.env)).any (·.1)=false:=by rfl):
 PE X (.Call (.Name x p) (e::es) [] pos) (BN sp dvs E t):=by
 intro pins s σ H Q I h;refine E6 (Jy I hg hm ?_ hdb);refine G0o (h₀:=X.base) I.ok.mod.kin hk (thn (ha pos pins s σ H _ I h) λus s1 ⟨vs,H1,I1,r,q⟩=>⟨I1.kIn,?_⟩) he hpl;exact Ob F hr hb hd hx I1 r q
end
structure FnScope (N P:List Str)(sc:Scope):Prop where
 kind:sc.kind= .function
 co:sc.isCoroutine=false
 gen:sc.isGenerator=false
 nd:N.Nodup
 pre:N.take P.length=P
 par: ∀x∈P,sc.names.lookup x=some .local\/sc.names.lookup x=some .cell
 nofree: ∀y∈sc.names,y.2≠ .free
variable {kindOf:Str->Option NameKind}{x:Str}
theorem VC: ∀ {binds:List (Str×Value)} {m:Str->Option Value},(∀v,(x,v) ∉ binds)->bindL kindOf binds m x=m x
 | [],_,_=>rfl
 |(n,v)::r,m,h=>by
  unfold bindL;rw [VC λw hw=>h w (R1 _ hw)];split
  ·have:x≠n:=by rintro rfl;exact h v D7
   simp [this]
  ·rfl
theorem VD: ∀ {binds:List (Str×Value)} {m:Str->Option Value},(∀v,(x,v) ∉ binds)->bindC kindOf binds m x=m x
 | [],_,_=>rfl
 |(n,v)::r,m,h=>by
  unfold bindC;rw [VD λw hw=>h w (R1 _ hw)];split
  ·rfl
  ·have:x≠n:=by rintro rfl;exact h v D7
   simp [this]
theorem ZM {v:Value}: ∀ {P:List Str} {vs:List Value} {i:Nat} {m:Str->Option Value},P.Nodup->P[i]? =some x->vs[i]? =some v->kindOf x=some .local->
 bindL kindOf (P.zip vs) m x=some v
 | [],_,_,_,_,h,_,_=>by simp at h
 |_::_,[],_,_,_,_,h,_=>by simp at h
 |p::P,w::vs,0,m,nd,h1,h2,hk=>by
  simp at h1 h2;subst h1;subst h2;show bindL kindOf ((p,w)::P.zip vs) m p=_;unfold bindL;rw [VC λv hv=>(O2.mp nd).1 (W0 hv).1,if_pos hk];simp
 |p::P,w::vs,i+1,m,nd,h1,h2,hk=>by
  show bindL kindOf ((p,w)::P.zip vs) m x=_;unfold bindL;exact ZM (i:=i) (O2.mp nd).2 (by simpa using h1) (by simpa using h2) hk
theorem ZN {v:Value}: ∀ {P:List Str} {vs:List Value} {i:Nat} {m:Str->Option Value},P.Nodup->P[i]? =some x->vs[i]? =some v->kindOf x≠some .local->
 bindC kindOf (P.zip vs) m x=some v
 | [],_,_,_,_,h,_,_=>by simp at h
 |_::_,[],_,_,_,_,h,_=>by simp at h
 |p::P,w::vs,0,m,nd,h1,h2,hk=>by
  simp at h1 h2;subst h1;subst h2;show bindC kindOf ((p,w)::P.zip vs) m p=_;unfold bindC;rw [VD λv hv=>(O2.mp nd).1 (W0 hv).1,if_neg hk];simp
 |p::P,w::vs,i+1,m,nd,h1,h2,hk=>by
  show bindC kindOf ((p,w)::P.zip vs) m x=_;unfold bindC;exact ZN (i:=i) (O2.mp nd).2 (by simpa using h1) (by simpa using h2) hk
def start (N:List Str)(vs:List V):St:=vs.map some++List.replicate (N.length-vs.length) none
def WL (CX:CXT)(P:Program)(w:World)(K:PySem.W.Frag)(mg:Str->Option Value)(base:Heap)(N:List Str)(qual:Str)(scope:Scope)(f:Addr)(cd:Value)(A:Around)(outer:List Env)(s:Shared)(H:Hp)(E:XK):Cx where
 prog:=P
 w:=w
 K:=K
 mg:=mg
 base:=base
 A:=A.deeper (envOfC qual scope s.heap.objs.size f cd)
 N:=N
 s₀:=s
 H₀:=H
 env:=envOfC qual scope s.heap.objs.size f cd
 outer:=outer
 stack:=envOfC qual scope s.heap.objs.size f cd::outer
 ex:= []
 calm:=true
 fn:=λ_=>true
 pn:= []
 xe:=λe s'=>wpAny (model P w) (A.deeper (envOfC qual scope s.heap.objs.size f cd)) (leaving (envOfC qual scope s.heap.objs.size f cd) e) (λ_ s''=>CX outer H s E e s'') (λe' s''=>CX outer H s E e' s'') s'
theorem yX {sc:Scope}{n:Nat}(h:sc.names.lookup x=some .cell): ∃c,(cellsFrom n sc.names []).lookup x=some c:=by
 have q:=K5 sc.names n [] (.inl h);exact N5.mp q
theorem VE {CX:CXT}{mg:Str->Option Value}{base:Heap}{N ps:List Str}{qual:Str}{scope:Scope}{f:Addr}{cd:Value}{outer:List Env}{s1:Shared}{E:XK}{us:List Value}{vs:List V}
 (S:FnScope N ps scope)(hd:A.handled=none)(e0:Env0 P w K mg base A outer s H)(hl:vs.length=ps.length)(r:Vals vs us)
 (x:InCallC s s.heap.objs.size (bindL (envOfC qual scope s.heap.objs.size f cd).kindOf (ps.zip us) λ_=>none) (cellsFrom (s.heap.objs.size+1) scope.names []) (bindC (envOfC qual scope s.heap.objs.size f cd).kindOf (ps.zip us) λ_=>none) s1):
 Inv (WL CX P w K mg base N qual scope f cd A outer s H E) [] (start N vs) H s1:=by
 have hpl:ps.length<=N.length:=by have:=congrArg List.length S.pre;rw [R3] at this;omega
 obtain⟨h1,tk,rfl,hk⟩:=x.done;have noA: ∀b:Addr,b ∉ (WL CX P w K mg base N qual scope f cd A outer s H E).ex:=λb z=>absurd (show b∈([]:List Addr) from z) (by simp)
 refine⟨⟨e0.mod,S.kind,rfl,rfl,G8 _,λy z c h1 h2=> ?_,λy hy=> ?_,λy c _ h=> ?_,λ_=>hd,Z0 e0.frames,.inr ⟨rfl,rfl⟩,λb z=>absurd z (noA b),e0.bs,e0.bsz,λb _ _=>noA b,λb z=>absurd z (noA b),e0.funs,e0.frf⟩,
  rfl,e0.bare,Un.kept hk,⟨_,x.toInCall.ns,λi y v h1 h2 h3=> ?_⟩,λy c h=>⟨_,x.cell y c h⟩,e0.hok.fresh (G8 _),λy c h=> ?_,λp hp=>absurd (show p∈([]:List (Addr×Obj)) from hp) (by simp),e0.hok.kept hk,?_⟩
 ·exact name_of_addr x.apart (N6 h1) (N6 h2)
 ·have hy:scope.names.lookup y=some .cell\/scope.names.lookup y=some .free:=hy;rcases hy with hy|hy
  ·exact yX hy
  ·exact absurd rfl (S.nofree _ (N6 hy))
 ·exact D5 (x.above y c (N6 h))
 ·have hi:i<vs.length:=by
   unfold start at h2
   by_cases hi:i<vs.length
   ·exact hi
   ·rw [P3 (by simpa using hi)] at h2;rw [W1] at h2;split at h2<;>cases h2
  have ha:vs[i]? =some v:=by
   unfold start at h2;rw [D4 (by simpa using hi),D2] at h2;cases e:vs[i]? with
   |none=>rw [e] at h2;cases h2
   |some a=>rw [e] at h2;cases h2;rfl
  obtain⟨u,hu,rv⟩:=r.get ha;have hp:ps[i]? =some y:=by
   rw [<-S.pre,O4 (by omega)];exact h1
  have ndP:ps.Nodup:=by rw [<-S.pre];exact S.nd.sublist (A3 _ _)
  refine⟨u,rv,?_⟩;rcases S.par y (G7 hp) with k|k
  ·exact .inl ⟨k,ZM ndP hp hu k⟩
  ·obtain⟨c,e⟩:=yX (n:=s.heap.objs.size+1) k;refine .inr ⟨.inl k,c,e,?_⟩;have q:=x.cell y c e;rw [ZN ndP hp hu (by show scope.names.lookup y≠_;rw [k];decide)] at q;exact q
 ·exact e0.hok.fresh (D5 (x.above y c (N6 h)))
 ·unfold start;show _=N.length;rw [G6,G0,G0S];omega
theorem BO {CX:CXT}{mg:Str->Option Value}{base:Heap}{f:Addr}{name qual:Str}{params:Arguments}{body:List Stmt}{scope:Scope}{dV kV doc pm cdv ct oc:Value}{an od:Option Addr}{osl:Array (Option Value)}{N ps:List Str}{sp:Sp}(lk:K.lookup f=some ⟨oc,od,.func (PySem.W.fnOf name qual params body scope dV kV doc pm an cdv ct),osl⟩)(hcd:PySem.W.codeIn K cdv qual=true)(S:FnScope N ps scope)
 (len: ∀vs H Q E,sp vs H Q E->vs.length=ps.length)
 (hbody: ∀ (A:Around) (outer:List Env) (s:Shared) (H:Hp) (vs:List V) (Q:VK) (E:XK),Room k (A.deeper (envOfC qual scope s.heap.objs.size f cdv))->sp vs H Q E->
  ∃t,PSs (WL CX P w K mg base N qual scope f cdv A outer s H E) body t/\t {nx:=λ_ H'=>Q .non H',rt:=Q} (start N vs) H):
 FnOk P w K mg base CX (k+1) f (PySem.W.fnOf name qual params body scope dV kV doc pm an cdv ct) ps sp:=by
 refine⟨len,λA outer s H args us vs Q E hr e0 hb r hsp=> ?_⟩;have hl:=len _ _ _ _ hsp;have KX:K.In s.heap:=e0.mod.kin.keeps λb o e=>(e0.bs b o e).1
 have lim:s.heap.NoLimit:=e0.mod.nolimit.keeps λb o e=>(e0.bs b o e).1
 have hkind: ∀y∈ps.zip us,scope.names.lookup y.1=some .local\/(scope.names.lookup y.1=some .cell/\((cellsFrom (s.heap.objs.size+1) scope.names []).lookup y.1).isSome=true):=λ⟨n,v⟩ hy=>by
  rcases S.par n (W0 hy).1 with q|q
  ·exact .inl q
  ·exact .inr ⟨q,K5 _ _ _ (.inl q)⟩
 refine Y3 hr.depth (KX _ _ lk) rfl S.co S.gen rfl (G0p KX hcd) (hb _ _ _ _ ?_);refine U5 S.kind hkind λenv he s1 x=> ?_
 subst he;refine⟨lim.keeps x.toInCall.keep,codeAny_func ?_⟩;obtain⟨t,ht,hq⟩:=hbody A outer s H vs Q E (hr.deeper _) hsp;have I:Inv (WL CX P w K mg base N qual scope f cdv A outer s H E) [] (start N vs) H s1:=VE S hr.hd e0 hl r x;refine R5 (ht [] s1 (start N vs) H _ I hq) (λfl s' hs=> ?_) λe s' hs=>hs
 have fin: ∀ {σ':St} {H':Hp} {v:V} {u:Value},Inv (WL CX P w K mg base N qual scope f cdv A outer s H E) [] σ' H' s'->RelV v u->Q v H'->CE outer P w H s Q u s':=
  λ{σ' H' v u} J rv q=>⟨v,H',J.os,J.bare,J.base,J.hok,rv,q⟩
 cases fl with
 |ret u=>
  obtain⟨v,σ',H',J,rv,q⟩:=hs;exact fin J rv q
 |next=>
  obtain⟨σ',H',J,q⟩:=hs;exact fin (v:=V.non) (u:=Value.none) J rfl q
 |brk=>
  obtain⟨_,_,_,q⟩:=hs;exact False.elim q
 |cont=>
  obtain⟨_,_,_,q⟩:=hs;exact False.elim q
section
variable {X:Cx}{x:Str}{p pos:Pos}{e:Expr}{es:List Expr}{t:TA}{id T:String}{r:List V->Hp->VK->Prop}
def tCB (r:List V->Hp->VK->Prop)(t:TA):TE:=λσ H Q=>t σ H λvs H1=>r vs H1 Q
theorem Zx (hc:CallR X (.builtin id) r)(hg:Gl X x)(hm:X.mg x=none)(hv:bootBuiltins x=some (.builtin id))(ha:PA X (e::es) t)(hn:x≠ "__name__" :=by decide)(hdb:(x==("__debug__" :Str))=false:=by decide)
 (he:starEach (e::es) X.env=(false,eval e X.env)::starEach es X.env:=by rfl)(hpl:(backTo pos (starEach es X.env)).any (·.1)=false:=by rfl):PE X (.Call (.Name x p) (e::es) [] pos) (tCB r t):=by
 intro pins s σ H Q I h;refine E6 (Yb I hg hm hv ?_ hn hdb);exact PyProof.Rows.callWith_builtin1 (thn (ha pos pins s σ H _ I h) λus s1 ⟨vs,H1,I1,r1,q1⟩=>hc pins s1 σ H1 vs us Q I1 r1 q1) he hpl
theorem Pl (hc:CallR X (.type T) r)(hg:Gl X x)(hm:X.mg x=none)(hv:bootBuiltins x=some (.type T))(ha:PA X (e::es) t)(hn:x≠ "__name__" :=by decide)(hdb:(x==("__debug__" :Str))=false:=by decide)
 (he:starEach (e::es) X.env=(false,eval e X.env)::starEach es X.env:=by rfl)(hpl:(backTo pos (starEach es X.env)).any (·.1)=false:=by rfl):PE X (.Call (.Name x p) (e::es) [] pos) (tCB r t):=by
 intro pins s σ H Q I h;refine E6 (Yb I hg hm hv ?_ hn hdb);exact A4 (thn (ha pos pins s σ H _ I h) λus s1 ⟨vs,H1,I1,r1,q1⟩=>hc pins s1 σ H1 vs us Q I1 r1 q1) he hpl
end
end L2
namespace HT
open PySem PyProof.Rows
def jK:List Int->List Int->Bool
 | [],[]=>false
 | [],_::_=>true
 |_::_,[]=>false
 |x::xs,y::ys=>if x=y then jK xs ys else decide (x<y)
theorem Yc (x y:Int)(xs ys:List Int):jK (x::xs) (y::ys)=if x=y then jK xs ys else decide (x<y):=rfl
theorem YA:jK [] []=false:=rfl
theorem WM (y:Int)(ys:List Int):jK [] (y::ys)=true:=rfl
theorem WN (x:Int)(xs:List Int):jK (x::xs) []=false:=rfl
theorem XQ (A:Around)(s:Shared)(a:Int)(t:Tok)(c:Int)(u:Tok): ∃e,SeqAt.EqAt A s (.int a t) (.int c u) e/\(e=true↔a=c):=
 ⟨(a==c),SeqAt.EqAt.int_int a t c u,by simp⟩
theorem Mq (A:Around)(s:Shared)(a:Int)(t:Tok)(c:Int)(u:Tok)(prog:Program)(w:World)(E:Value->Shared->Prop)(Q:Value->Shared->Prop)(h:Q (.bool (decide (a<c))) s):
 wpAny (model prog w) A (richCompare .Lt (.int a t) (.int c u)) Q E s:=
 (G09 h:wpAny (model prog w) A (compareOp .Lt (.int a t) (.int c u)) Q E s)
section
open PySem.SeqAt
open PySem.AutoSeq1 (wpAny_loadPart')
open PySem.MeetsSeq PySem.MeetsSeq2 PySem.MeetsSeq3
theorem vR (l b:Addr)(items items2:Array Value)(n n2:Nat)(dd dd2:Option Addr)(sl sl2:Array (Option Value))(ns ms:List Int)(hi:IntsAre items.toList ns)(hj:IntsAre items2.toList ms):
 Meets (Builtin.«tuple.__lt__» ⟨[.ref l,.ref b],[]⟩)
  (λ_ R s=>s.heap.get? l=some {cls:= .type "tuple",dict:=dd,data:= .seq items n,slots:=sl}/\s.heap.get? b=some {cls:= .type "tuple",dict:=dd2,data:= .seq items2 n2,slots:=sl2}/\
   R (.ok (.ret (.bool (jK ns ms)))) s):=
 .of_wp λprog w A R s h=>by
  obtain⟨hp,g,d,tk,os⟩:=s;obtain⟨hl,hb,h⟩:=h;have f2:=AutoSeq1.sub_tuple_tuple;have z1:items.size=ns.length:=by rw [<-hi.length];simp
  have z2:items2.size=ms.length:=by rw [<-hj.length];simp
  wp_walk using wpAny_loadPart' hl,wpAny_loadPart' hb,wpAny_forIn_list _ (λrest b s'=>b.1=none/\s'=⟨hp,g,d,tk,os⟩/\ ∃ (vs ws:List Value) (ns' ms':List Int),rest=vs.zip ws/\
   IntsAre vs ns'/\IntsAre ws ms'/\ns'.length+items2.size=ms'.length+items.size/\R (.ok (.ret (.bool (jK ns' ms')))) ⟨hp,g,d,tk,os⟩) _
  case turn=>
   rintro ⟨y,x⟩ rest b s' ⟨hb',rfl,vs,ws,ns',ms',hz,hvi,hwi,hlen,hR⟩;cases hvi with
   |nil=>rw [G0w] at hz;cases hz
   |cons a t hvi'=>
    cases hwi with
    |nil=>rw [List.zip_nil_right] at hz;cases hz
    |cons c u hwi'=>
     rw [W3] at hz;injection hz with hyx hrest
     injection hyx with hy hx
     subst hy hx;rw [Yc] at hR;simp only [D3] at hlen;obtain⟨e,he,hiff⟩:=XQ A.in1 ⟨hp,g,d,tk,os⟩ a t c u;refine wpAny_bind (he prog w _ _ ?_);cases e with
     |true=>
      rw [if_pos (hiff.mp rfl)] at hR
      wp_walk
      exact⟨rfl,rfl,_,_,_,_,hrest,hvi',hwi',by omega,hR⟩
     |false=>
      rw [if_neg (λq=>absurd (hiff.mpr q) P7)] at hR;have hri:=Mq A.in1 ⟨hp,g,d,tk,os⟩ a t c u prog w
      wp_walk using hri
      exact⟨_,rfl,by simpa using hR⟩
  case fin=>
   rintro ⟨b1,b2⟩ s' ⟨hb',rfl,vs,ws,ns',ms',hz,hvi,hwi,hlen,hR⟩;simp only at hb';subst hb';have hv:jK ns' ms'=decide (items.size<items2.size):=by
    cases hvi with
    |nil=>
     cases hwi with
     |nil=>
      simp only [R8] at hlen;rw [YA];exact(D1 (by omega)).symm
     |cons c u hw=>
      simp only [R8,D3] at hlen;rw [WM];exact(G9 (by omega)).symm
    |cons a t hv=>
     cases hwi with
     |nil=>
      simp only [R8,D3] at hlen;rw [WN];exact(D1 (by omega)).symm
     |cons c u hw=>
      rw [W3] at hz;cases hz
   rw [hv] at hR
   wp_walk
   exact⟨_,rfl,by simpa [Builtin.Tuple.tupleCompareSizes] using hR⟩
  case h=>
   exact⟨rfl,rfl,items.toList,items2.toList,ns,ms,rfl,hi,hj,by omega,h⟩
end
section
variable {prog:Program}{w:World}{A:Around}{E:Value->Shared->Prop}{s:Shared}
theorem QQ {l b:Addr}{items items2:Array Value}{ns ms:List Int}{Q:Value->Shared->Prop}(hl:IsTup s.heap l items)(hb:IsTup s.heap b items2)(hi:IntsAre items.toList ns)(hj:IntsAre items2.toList ms)
 (hu:A.units<cLine)(h:Q (.bool (jK ns ms)) s):wpAny (model prog w) A (compareOp .Lt (.ref l) (.ref b)) Q E s:=by
 obtain⟨⟨cls,dd,data,sl⟩,ho,hc,n,hd⟩:=id hl;obtain⟨⟨cls2,dd2,data2,sl2⟩,ho2,hc2,n2,hd2⟩:=id hb;simp only at hc hd hc2 hd2;subst hc hd hc2 hd2;exact richCompare_meets_room (op:= .Lt) ⟨_,ho,rfl⟩ ⟨_,ho2,rfl⟩ Y4 G0O (G0F _ _) (vR l b items items2 n n2 dd dd2 sl sl2 ns ms hi hj)
  ⟨ho,ho2,show Value.bool (jK ns ms)≠Value.notImplemented/\Q (.bool (jK ns ms)) s from ⟨(λx=>nomatch x),h⟩⟩ hu
theorem BP {t b:Addr}{vs ws:List Value}{Q:Value->Shared->Prop}(ht:IsTup s.heap t vs.toArray)(hb:IsTup s.heap b ws.toArray)(hv:vs≠ [])
 (h1:ws= []->Q (.ref t) s)(h2:ws≠ []->Q (.ref s.heap.objs.size) {s with heap:=s.heap.push {cls:= .type "tuple",data:= .seq (vs++ws).toArray}})
 (hsz:vs.length+ws.length<=sizeLine):wpAny (model prog w) A (binaryOp .Add (.ref t) (.ref b)) Q E s:=by
 obtain⟨⟨cls,dd,data,sl⟩,ho,hc,n,hd⟩:=id ht;obtain⟨⟨cls2,dd2,data2,sl2⟩,ho2,hc2,n2,hd2⟩:=id hb;simp only at hc hd hc2 hd2;subst hc hd hc2 hd2;have e:vs.toArray++ws.toArray=(vs++ws).toArray:=by simp
 by_cases hw:ws= []
 ·exact concat_meets ⟨_,ho,rfl⟩ ⟨_,ho2,rfl⟩ G0K seq_tuple_add X0 W4 (V3 _ _)
   (tuple_addW1 t b vs.toArray ws.toArray n n2 dd dd2 sl sl2 (by simpa using hv) (by simp [hw])) ⟨ho,ho2,h1 hw⟩
 ·refine concat_meets ⟨_,ho,rfl⟩ ⟨_,ho2,rfl⟩ G0K seq_tuple_add X0 W4 (V3 _ _)
   (tuple_addW2 t b vs.toArray ws.toArray n n2 dd dd2 sl sl2 (by simpa using hv) (by simpa using hw) (by rw [P8,P8];exact hsz)) ⟨ho,ho2,?_⟩
  rw [e];exact h2 hw
def sIx (n d:Nat):Option Int->Nat
 |none=>d
 |some v=>if v<0 then (v+(n:Int)).toNat else min v.toNat n
theorem Oc (n d:Nat)(hd:d<=n)(o:Option Int):sIx n d o<=n:=by
 cases o with
 |none=>exact hd
 |some v=>
  show (if v<0 then (v+(n:Int)).toNat else min v.toNat n)<=n
  by_cases hv:v<0
  ·rw [if_pos hv];omega
  ·rw [if_neg hv];exact U7 _ _
theorem Pm (v:Int)(n d:Nat):(if v<0 then max (v+(n:Int)) 0 else min v (n:Int))=((sIx n d (some v):Nat):Int):=by
 show (if v<0 then max (v+(n:Int)) 0 else min v (n:Int))=(((if v<0 then (v+(n:Int)).toNat else min v.toNat n):Nat):Int)
 by_cases hv:v<0
 ·simp only [if_pos hv];omega
 ·simp only [if_neg hv];omega
theorem QR (lo hi:Option Int)(n:Nat):Builtin.Slice.sliceAdjust lo hi 1 (n:Int)=(((sIx n 0 lo:Nat):Int),((sIx n n hi:Nat):Int)):=by
 have h1: ¬ ((1:Int)<0):=by omega
 unfold Builtin.Slice.sliceAdjust;simp only [h1,G1f];refine Prod.ext ?_ ?_
 ·cases lo with
  |none=>rfl
  |some v=>exact Pm v n 0
 ·cases hi with
  |none=>rfl
  |some v=>exact Pm v n n
theorem QU (i j:Nat):Builtin.Slice.slicePlaces (i:Int) (j:Int) 1=j-i:=by
 unfold Builtin.Slice.slicePlaces;have h1:(1:Int)>0:=by omega
 simp only [h1,if_true,Int.ediv_one];split<;>omega
theorem Yd {v:Value}{o:Option Int}{Q:Option Int->Shared->Prop}(p:IsPart v o)(h:Q o s):wpAny (model prog w) A (Builtin.Slice.slicePartIndex v) Q E s:=by
 cases p with
 |none=>exact slicePart_none h
 |int i t=>exact slicePart_int h
theorem yj {sl:Addr}{vl vu:Value}{lo hi:Option Int}{n:Nat}{Q:Int×Int×Nat->Shared->Prop}(hs:s.heap.IsSliceOf sl vl vu .none)(pl:IsPart vl lo)(pu:IsPart vu hi)
 (h:Q (((sIx n 0 lo:Nat):Int),1,sIx n n hi-sIx n 0 lo) s):wpAny (model prog w) A (Builtin.Slice.sliceApplied (.ref sl) (pure (n:Int))) Q E s:=by
 obtain⟨os,hos,hcs,hds⟩:=id hs;unfold Builtin.Slice.sliceApplied Builtin.Slice.sliceFields;refine wpAny_bind (wpAny_bind (G1a hos hds (x:=vl) rfl (wpAny_bind (G1a hos hds (x:=vu) rfl (wpAny_bind (G1a hos hds (x:= .none) rfl (P4 ?_)))))));refine wpAny_bind (slicePart_none ?_);show wpAny _ _ (if ((1:Int)==0)=true then _ else _) _ _ s;rw [if_neg (by decide)];refine wpAny_bind (Yd pl (wpAny_bind (Yd pu (wpAny_bind (P4 ?_)))));show wpAny _ _ (match Builtin.Slice.sliceAdjust lo hi 1 (n:Int) with|(lo,hi)=>pure (lo,(1:Int),Builtin.Slice.slicePlaces lo hi 1)) _ _ s;rw [QR lo hi n];show wpAny _ _ (pure (((sIx n 0 lo:Nat):Int),(1:Int),Builtin.Slice.slicePlaces ((sIx n 0 lo:Nat):Int) ((sIx n n hi:Nat):Int) 1)) _ _ s;rw [QU];exact P4 h
theorem Mr (xs:Array Value)(i k:Nat):((List.range k).filterMap λ(m:Nat)=>xs[((i:Int)+(m:Int)*1).toNat]?).toArray=((xs.toList.drop i).take k).toArray:=by
 have e:(λ(m:Nat)=>xs[((i:Int)+(m:Int)*1).toNat]?)=λm=>xs[i+m]? :=by
  funext m
  have:((i:Int)+(m:Int)*1).toNat=i+m:=by omega
  rw [this]
 rw [e];have:=pick_run xs i k;rw [List.filterMap_map] at this;have e2:((λx=>xs[x]?)∘λx=>i+x)=λm=>xs[i+m]? :=rfl
 rw [e2] at this;rw [this]
theorem JB {t sl:Addr}{items:Array Value}{vl vu:Value}{lo hi:Option Int}{Q:Value->Shared->Prop}(ht:IsTup s.heap t items)(hs:s.heap.IsSliceOf sl vl vu .none)(pl:IsPart vl lo)(pu:IsPart vu hi)
 (hw: ¬ (sIx items.size 0 lo=0/\sIx items.size items.size hi=items.size))
 (h:Q (.ref s.heap.objs.size) {s with heap:=s.heap.push {cls:= .type "tuple",data:= .seq ((items.toList.drop (sIx items.size 0 lo)).take (sIx items.size items.size hi-sIx items.size 0 lo)).toArray}})
 (hsz:items.size<=sizeLine):wpAny (model prog w) A (getItem (.ref t) (.ref sl)) Q E s:=by
 have htake:sizeOk (.seq ((items.toList.drop (sIx items.size 0 lo)).take (sIx items.size items.size hi-sIx items.size 0 lo)).toArray):=by
  show ((items.toList.drop (sIx items.size 0 lo)).take (sIx items.size items.size hi-sIx items.size 0 lo)).toArray.size<=sizeLine;rw [P8,R3,T0,T3];omega
 have hj:sIx items.size items.size hi<=items.size:=Oc _ _ (G8 _) hi;obtain⟨os,hos,hcs,hds⟩:=id hs;have hTs:s.TypeIs (.ref sl) "slice" :=⟨os,hos,hcs⟩;unfold getItem
 try with_reducible refine O1 ?_
 first|refine wpAny_bind (P4 ?_)|skip
 refine wpAny_bind (wpAny_sequenceKey ht.typeIs (by decide) ?_);refine wpAny_bind (K0 (name:=Str.ofString "__getitem__") ht.typeIs H0
  (E2 H0 ht.typeIs entry_tuple_getitem ?_ (args_tuple_getitem _ _)))
 show wpAny _ _ (Builtin.Tuple.tupleItemsOf (.ref t) >>= _) _ _ s;refine wpAny_bind (tupleItemsOf_ ht ?_);refine wpAny_bind (wpAny_typeOf hTs ?_);rw [if_pos (by decide)];refine wpAny_bind (yj hs pl pu ?_);have hno: ¬ ((((sIx items.size 0 lo:Nat):Int)==0&&(1:Int)==1&&(sIx items.size items.size hi-sIx items.size 0 lo)==items.size)=true):=by
  intro q;rw [S5,S5] at q;have q1:((sIx items.size 0 lo:Nat):Int)=0:=eq_of_beq q.1.1;have q2:sIx items.size items.size hi-sIx items.size 0 lo=items.size:=eq_of_beq q.2;exact hw ⟨by omega,by omega⟩
 show wpAny _ _ (if (((sIx items.size 0 lo:Nat):Int)==0&&(1:Int)==1&&(sIx items.size items.size hi-sIx items.size 0 lo)==items.size)=true then _ else _) _ _ s;rw [if_neg hno,Mr]
 first
  |exact wpAny_bind (m:=Builtin.Tuple.tupleExact _) (J6 (P4 ⟨_,rfl,P4 h⟩) htake)
  |exact wpAny_bind (m:=Builtin.Tuple.tupleExact _) (J6 (wpAny_bind (P4 (P4 ⟨_,rfl,P4 h⟩))) htake)
  |exact wpAny_bind (wpAny_bind (m:=Builtin.Tuple.tupleExact _) (J6 (P4 (P4 ⟨_,rfl,P4 h⟩)) htake))
  |exact wpAny_bind (wpAny_bind (m:=Builtin.Tuple.tupleExact _) (J6 (P4 ⟨_,rfl,P4 h⟩) htake))
end
end HT
namespace L2
open PySem PySem.Spec PyProof.Rows
abbrev TO:=St->Hp->(Option Int->Hp->Prop)->Prop
def PO (X:Cx)(e:Option Expr)(t:TO):Prop:=
 ∀ (pins:List (Addr×Obj)) (s:Shared) (σ:St) (H:Hp) (Q:Option Int->Hp->Prop),Inv X pins σ H s->t σ H Q->
  wpAny (model X.prog X.w) X.A (evalPart e X.env) (λu s'=> ∃o H',Inv X pins σ H' s'/\IsPart u o/\Q o H') X.xe s
def BQ:TO:=λ_ H Q=>Q none H
def ET (t:TE):TO:=λσ H Q=>t σ H λx H1=> ∃i,x= .int i/\Q (some i) H1
section
variable {X:Cx}{e:Expr}{te:TE}{lo hi:Option Expr}{tl th:TO}{pos p2:Pos}
theorem po_none:PO X none BQ:=by
 intro pins s σ H Q I h;rw [evalPart_none];exact P4 ⟨none,H,I,.none,h⟩
theorem BR (h:PE X e te):PO X (some e) (ET te):=by
 intro pins s σ H Q I hw;rw [evalPart_some];refine thn (h pins s σ H _ I hw) λu s1 ⟨x,H1,I1,r1,q1⟩=> ?_
 obtain⟨i,rfl,q⟩:=q1;obtain⟨t,rfl⟩:=r1;exact⟨some i,H1,I1,.int i t,q⟩
def SlR (X:Cx)(r:V->Option Int->Option Int->Hp->VK->Prop):Prop:=
 ∀ (pins:List (Addr×Obj)) (s:Shared) (σ:St) (H:Hp) (x:V) (v vl vu:Value) (lo hi:Option Int) (sl:Addr) (Q:VK),Inv X pins σ H s->RelV x v->s.heap.IsSliceOf sl vl vu .none->IsPart vl lo->IsPart vu hi->r x lo hi H Q->
  ∃T id,typeLookup (.type T) "__getitem__" =pure (some (.builtin id))/\s.TypeIs v T/\wpAny (model X.prog X.w) X.A (getItem v (.ref sl)) (EP X pins σ Q) X.xe s
theorem SlR.or {r r':V->Option Int->Option Int->Hp->VK->Prop}(h:SlR X r)(h':SlR X r'):SlR X (λx lo hi H Q=>r x lo hi H Q\/r' x lo hi H Q):=by
 intro pins s σ H x v vl vu lo hi sl Q I rx hs pl pu q;rcases q with q|q
 ·exact h pins s σ H x v vl vu lo hi sl Q I rx hs pl pu q
 ·exact h' pins s σ H x v vl vu lo hi sl Q I rx hs pl pu q
def tSl (r:V->Option Int->Option Int->Hp->VK->Prop)(te:TE)(tl th:TO):TE:=λσ H Q=>te σ H λx H1=>tl σ H1 λl H2=>th σ H2 λu H3=>r x l u H3 Q
theorem Ms {r:V->Option Int->Option Int->Hp->VK->Prop}(hr:SlR X r)(he:PE X e te)(hl:PO X lo tl)(hu:PO X hi th):PE X (.Subscript e (.Slice lo hi none p2) pos) (tSl r te tl th):=by
 intro pins s σ H Q I h;refine Subscript_ (thn (he pins s σ H _ I h) λv s1 ⟨x,H1,I1,r1,q1⟩=> ?_);refine wpAny_Slice (thn (hl pins s1 σ H1 _ I1 q1) λvl s2 ⟨l,H2,I2,pl,q2⟩=>thn (hu pins s2 σ H2 _ I2 q2) λvu s3 ⟨u,H3,I3,pu,q3⟩=> ?_);rw [evalPart_none];refine P4 ?_;have I4:Inv X pins σ H3 {s3 with heap:=s3.heap.push {cls:= .type "slice",data:= .fields #[vl,vu,.none]}}:=I3.kept (t':=s3.toks) λb ob q=>G3 _ q
 obtain⟨T,id,hT,ht,hg⟩:=hr pins {s3 with heap:=s3.heap.push {cls:= .type "slice",data:= .fields #[vl,vu,.none]}} σ H3 x v vl vu l u s3.heap.objs.size Q I4 r1 (Heap.IsSliceOf.new ..) pl pu q3;show wpAny (model X.prog X.w) X.A (subscriptTail e (.Slice lo hi none p2) v (.ref s3.heap.objs.size)) (EP X pins σ Q) X.xe {s3 with heap:=s3.heap.push {cls:= .type "slice",data:= .fields #[vl,vu,.none]}};exact tail_any (ops:= [.ref s3.heap.objs.size,v]) ht hT hg (by with_unfolding_all rfl)
def Mg (xs:List V)(lo hi:Option Int):List V:=(xs.drop (HT.sIx xs.length 0 lo)).take (HT.sIx xs.length xs.length hi-HT.sIx xs.length 0 lo)
theorem ZO (xs:List V)(lo hi:Option Int):(Mg xs lo hi).length<=xs.length:=by
 unfold Mg;rw [R3,T0];omega
def Hl (K:PySem.W.Frag):V->Option Int->Option Int->Hp->VK->Prop:=λx lo hi H Q=> ∃a xs,x= .ref a/\SqT K H a xs/\
 ¬ (HT.sIx xs.length 0 lo=0/\HT.sIx xs.length xs.length hi=xs.length)/\ ∀p,H p=none->Q (.ref p) (upd H p (.tup (Mg xs lo hi)))
theorem sl_tup:SlR X (Hl X.K):=by
 intro pins s σ H x v vl vu lo hi sl Q I rx hs pl pu h;obtain⟨a,xs,rfl,hx,hw,q⟩:=h;cases rx;obtain⟨its,r,ht,hz⟩:=I.tuple hx;have hlen:its.toArray.size=xs.length:=by rw [P8];exact r.length.symm
 refine⟨"tuple",_,PyProof.Rows.slot_tuple_getitem.lookup,ht.typeIs,?_⟩;refine HT.JB ht hs pl pu (by rw [hlen];exact hw) ?_ (by rw [hlen];exact hz);rw [hlen];refine⟨.ref s.heap.objs.size,_,I.laid (t':=s.toks) (o:= .tup (Mg xs lo hi)) (λb ob q=>G3 _ q) (G8 _) ?_,rfl,q _ (I.hok.fresh (G8 _))⟩;exact⟨R9 (ZO xs lo hi) hz,_,(r.drop (HT.sIx xs.length 0 lo)).take (HT.sIx xs.length xs.length hi-HT.sIx xs.length 0 lo),IsTupN.new _ _⟩
def EU (K:PySem.W.Frag):R2:=λx y H Q=> ∃a b xs ys,x= .ref a/\y= .ref b/\SqT K H a xs/\SqT K H b ys/\xs≠ []/\xs.length+ys.length<=sizeLine/\
 (ys= []->Q (.ref a) H)/\(ys≠ []-> ∀p,H p=none->Q (.ref p) (upd H p (.tup (xs++ys))))
theorem Vals.nil_iff {xs:List V}{us:List Value}(r:Vals xs us):us= []↔xs= []:=by
 cases r with
 |nil=>simp
 |cons _ _=>simp
theorem op_catT:OpR X (binaryOp .Add) (EU X.K):=by
 intro pins s σ H x y v u Q I rx ry h;obtain⟨a,b,xs,ys,rfl,rfl,ha,hb,hx,hz,q1,q2⟩:=h;cases rx;cases ry;obtain⟨its,r1,p1,_⟩:=I.tuple ha;obtain⟨its2,r2,p2,_⟩:=I.tuple hb;refine HT.BP p1 p2 (λz=>hx (r1.nil_iff.mp z)) (λz=>⟨.ref a,H,I,rfl,q1 (r2.nil_iff.mp z)⟩) (λz=> ?_) (by rw [<-r1.length,<-r2.length];exact hz);refine⟨.ref s.heap.objs.size,_,I.laid (t':=s.toks) (o:= .tup (xs++ys)) (λb ob q=>G3 _ q) (G8 _) ?_,rfl,q2 (λw=>z (r2.nil_iff.mpr w)) _ (I.hok.fresh (G8 _))⟩;exact⟨by rw [G6];exact hz,_,r1.append r2,IsTupN.new _ _⟩
end
def ixN (n:Nat)(i:Int):Option Nat:=if 0<=i then (if i<n then some i.toNat else none) else if-(n:Int)<=i then some (i+n).toNat else none
def atI {α:Type}(xs:List α)(i:Int):Option α:=(ixN xs.length i).bind λj=>xs[j]?
theorem Po {n:Nat}{i:Int}{j:Nat}(h:ixN n i=some j):seqIndex? i n=some j/\j<n/\ -(n:Int)<=i/\i<n:=by
 unfold ixN at h
 by_cases h0:0<=i
 ·rw [if_pos h0] at h
  by_cases h1:i<n
  ·rw [if_pos h1] at h;have e:i.toNat=j:=N3 h;exact⟨by rw [seqIndex_of h0 h1,e],by omega,by omega,h1⟩
  ·rw [if_neg h1] at h;cases h
 ·rw [if_neg h0] at h
  by_cases h1: -(n:Int)<=i
  ·rw [if_pos h1] at h;have e:(i+n).toNat=j:=N3 h;exact⟨by rw [seqIndex_neg (by omega) h1,e],by omega,h1,by omega⟩
  ·rw [if_neg h1] at h;cases h
theorem UQ {α:Type}{xs:List α}{i:Int}{v:α}(h:atI xs i=some v): ∃j,seqIndex? i xs.length=some j/\xs[j]? =some v/\j<xs.length/\ -(xs.length:Int)<=i/\i<xs.length:=by
 unfold atI at h;cases e:ixN xs.length i with
 |none=>rw [e] at h;cases h
 |some j=>
  rw [e] at h;obtain⟨h1,h2,h3,h4⟩:=Po e;exact⟨j,h1,h,h2,h3,h4⟩
theorem wW {α:Type}{xs:List α}{j:Nat}{v:α}(h:xs[j]? =some v):atI xs (j:Int)=some v:=by
 have hj:j<xs.length:=(G5.mp h).1;have e:ixN xs.length (j:Int)=some j:=by
  unfold ixN;rw [if_pos (by omega),if_pos (by omega)];simp
 unfold atI;rw [e];exact h
def YB (b:Expr):Prop:= ∀o i,subscripted b false o i=operate [o,i] (getItem o i)
def IxR (X:Cx)(r:R2):Prop:=
 ∀ (value slice:Expr) (pins:List (Addr×Obj)) (s:Shared) (σ:St) (H:Hp) (x y:V) (v u:Value) (Q:VK),Inv X pins σ H s->RelV x v->RelV y u->r x y H Q->
  subscripted slice false v u=operate [v,u] (getItem v u)->wpAny (model X.prog X.w) X.A (subscriptTail value slice v u) (EP X pins σ Q) X.xe s
def MtR (X:Cx)(id:String)(r:V->List V->Hp->VK->Prop):Prop:=
 ∀ (pins:List (Addr×Obj)) (s:Shared) (σ:St) (H:Hp) (x:V) (xs:List V) (v:Value) (us:List Value) (Q:VK),Inv X pins σ H s->RelV x v->Vals xs us->r x xs H Q->
  wpAny (model X.prog X.w) X.A (call (.builtin id) (v::us)) (EP X pins σ Q) X.xe s
section
variable {X:Cx}{a b:Expr}{ta tb:TE}{pos:Pos}
theorem IxR.or {r r':R2}(h:IxR X r)(h':IxR X r'):IxR X (λx y H Q=>r x y H Q\/r' x y H Q):=by
 intro value slice pins s σ H x y v u Q I rx ry q hs;rcases q with q|q
 ·exact h value slice pins s σ H x y v u Q I rx ry q hs
 ·exact h' value slice pins s σ H x y v u Q I rx ry q hs
theorem EV {r:R2}(hr:IxR X r)(ha:PE X a ta)(hb:PE X b tb)(hs:YB b):PE X (.Subscript a b pos) (tOp r ta tb):=by
 intro pins s σ H Q I h;exact Subscript_ (EK ha hb I h λv u s2 x y H2 I2 rx ry q=>hr a b pins s2 σ H2 x y v u Q I2 rx ry q (hs _ _))
def TC (K:PySem.W.Frag):R2:=λx y H Q=> ∃p xs i v,x= .ref p/\y= .int i/\SqL K H p xs/\atI xs i=some v/\Q v H
def TD (K:PySem.W.Frag):R2:=λx y H Q=> ∃p xs i v,x= .ref p/\y= .int i/\SqT K H p xs/\atI xs i=some v/\Q v H
def TF:R2:=λx y H Q=> ∃z i c,x= .str z/\y= .int i/\z.length<=sizeLine/\atI z.cps.toList i=some c/\Q (.str ⟨#[c]⟩) H
theorem ix_list:IxR X (TC X.K):=by
 intro value slice pins s σ H x y v u Q I rx ry h hs;obtain⟨p,xs,i,z,rfl,rfl,hq,he,q⟩:=h;cases rx;obtain⟨t,rfl⟩:=ry;obtain⟨its,r,pl,hz⟩:=I.list hq;obtain⟨j,h1,h2,h3,h4,h5⟩:=UQ he;obtain⟨w,ew,rw'⟩:=r.get h2;have hl:=r.length;have hn:=VB;have fin:EP X pins σ Q w s:=⟨z,H,I,rw',q⟩
 by_cases h0:0<=i
 ·have hj:i.toNat=j:=by
   rw [seqIndex_of h0 h5] at h1;exact N3 h1
  exact item_listR pl.isList h0 (by omega) (by rw [hj];simpa using ew) fin hs
 ·have hj:(i+(its.toArray.size:Int)).toNat=j:=by
   rw [seqIndex_neg (by omega) h4] at h1;rw [P8,<-hl];exact N3 h1
  exact subscriptTail_builtinR (x:=w) pl.isList.typeIs slot_list_getitem.lookup
   (wpAny_getItem_list_neg (Q:=λr s'=>r=w/\EP X pins σ Q r s') pl.isList (by omega) (by rw [P8]<;>omega) (by omega) (by rw [hj];simpa using ew) ⟨rfl,fin⟩) hs
theorem ix_tup:IxR X (TD X.K):=by
 intro value slice pins s σ H x y v u Q I rx ry h hs;obtain⟨p,xs,i,z,rfl,rfl,hq,he,q⟩:=h;cases rx;obtain⟨t,rfl⟩:=ry;obtain⟨its,r,pl,hz⟩:=I.tuple hq;obtain⟨j,h1,h2,h3,h4,h5⟩:=UQ he;obtain⟨w,ew,rw'⟩:=r.get h2;have hl:=r.length;have hn:=VB;have fin:EP X pins σ Q w s:=⟨z,H,I,rw',q⟩;exact subscriptTail_builtinR (x:=w) pl.typeIs slot_tuple_getitem.lookup
  (getItem_tuple (j:=j) (Q:=λr s'=>r=w/\EP X pins σ Q r s') pl (by omega) (by omega) (by rw [P8,<-hl];exact h1) (by simpa using ew) ⟨rfl,fin⟩) hs
theorem Od:IxR X TF:=by
 intro value slice pins s σ H x y v u Q I rx ry h hs;obtain⟨z,i,c,rfl,rfl,hz,he,q⟩:=h;obtain⟨t,rfl⟩:=rx;obtain⟨t',rfl⟩:=ry;obtain⟨j,h1,h2,h3,h4,h5⟩:=UQ he;have hl:z.cps.toList.length=z.length:=by simp [Str.length]
 rw [hl] at h1 h4 h5;have hn:=VB;exact tail_any (typeIs_str s z t) slot_str_getitem.lookup (getItem_str (c:=c) (by
  have e1:decide (i< -(2^63:Int))=false:=D1 (by omega);have e2:decide (i>=2^63)=false:=D1 (by omega);rw [e1,e2,Bool.or_false]) (by rw [h1];simpa using h2) ⟨.str ⟨#[c]⟩,H,I.tok _,⟨_,rfl⟩,q⟩) hs
def rIx (K:PySem.W.Frag):R2:=λx y H Q=>TC K x y H Q\/TD K x y H Q\/TF x y H Q
theorem Oe:IxR X (rIx X.K):=ix_list.or (ix_tup.or Od)
theorem QV (its:List Value)(n j:Nat)(u:Value):Obj.mapSeq (·.setIfInBounds j u) {cls:= .type "list",data:= .seq its.toArray n}= {cls:= .type "list",data:= .seq (its.set j u).toArray n}:=by
 simp [Obj.mapSeq]
theorem Inv.lst {pins:List (Addr×Obj)}{σ:St}{H:Hp}{s:Shared}{p:Addr}{xs:List V}(I:Inv X pins σ H s)(h:H p=some (.lst xs)):
 ∃ (its:List Value) (n:Nat),Vals xs its/\s.heap.get? p=some {cls:= .type "list",data:= .seq its.toArray n}/\xs.length<=sizeLine:=by
 obtain⟨z,its,n,r,e⟩:=I.hok p _ h;exact⟨its,n,r,e,z⟩
theorem Inv.lstUpd {pins:List (Addr×Obj)}{σ:St}{H:Hp}{s:Shared}{p:Addr}{xs ys:List V}{its its':List Value}{n n':Nat}{f:Obj->Obj}(I:Inv X pins σ H s)(h:H p=some (.lst xs))
 (ho:s.heap.get? p=some {cls:= .type "list",data:= .seq its.toArray n})(hf:f {cls:= .type "list",data:= .seq its.toArray n}= {cls:= .type "list",data:= .seq its'.toArray n'})(r:Vals ys its')(hz:ys.length<=sizeLine)(t:Nat):
 Inv X pins σ (upd H p (.lst ys)) {s with heap:=s.heap.update p f,toks:=t}:=by
 have e:(s.heap.update p f).get? p=some {cls:= .type "list",data:= .seq its'.toArray n'}:=by
  rw [Heap.get?_update_self f ho (by rw [hf]<;>rfl),hf]
 refine I.write (x:=p) (e:=p) (by rw [h];trivial) (.inl rfl) (λb u hb q=>(Heap.get?_update_other _ _ (Ne.symm hb)).trans q) ⟨_,e⟩ ?_;exact⟨hz,its',n',r,e⟩
def EW:V->V->V->Hp->(Hp->Prop)->Prop:=λo i v H Q=> ∃p xs k j,o= .ref p/\i= .int k/\H p=some (.lst xs)/\ixN xs.length k=some j/\Q (upd H p (.lst (xs.set j v)))
theorem Mt:Tr X EW:=by
 intro pins s σ H o i v ov iv u Q I ro ri rv h;obtain⟨p,xs,k,j,rfl,rfl,hp,hj,q⟩:=h;cases ro;obtain⟨t,rfl⟩:=ri;obtain⟨its,n,r,ho,hz⟩:=I.lst hp;obtain⟨h1,h2,h3,h4⟩:=Po hj;have hl:=r.length;have hn:=VB;have I':Inv X pins σ (upd H p (.lst (xs.set j v))) {s with heap:=s.heap.update p (Obj.mapSeq (·.setIfInBounds j u))}:=
  I.lstUpd hp ho (QV its n j u) (r.set rv j) (by rw [List.length_set];exact hz) s.toks
 by_cases h0:0<=k
 ·have hk:k.toNat=j:=by
   rw [seqIndex_of h0 h4] at h1;exact N3 h1
  exact PySem.W.ki_setAt ho h0 (by omega) (by rw [P8,<-hl];exact h4) (by rw [hk];exact⟨_,I',q⟩)
 ·have hk:(k+(its.toArray.size:Int)).toNat=j:=by
   rw [seqIndex_neg (by omega) h3] at h1;rw [P8,<-hl];exact N3 h1
  exact PySem.W.ki_setBack ho (by omega) (by rw [P8,<-hl];exact h3) (by omega) (by rw [hk];exact⟨_,I',q⟩)
theorem VF (lo hi:Option Int)(n:Nat):(sliceBounds lo hi none n).1=((HT.sIx n 0 lo:Nat):Int)/\(sliceBounds lo hi none n).2.1=((HT.sIx n n hi:Nat):Int)/\(sliceBounds lo hi none n).2.2=1:=by
 refine⟨?_,?_,rfl⟩
 ·cases lo with
  |none=>simp [sliceBounds,HT.sIx]
  |some i=>
   simp only [sliceBounds,HT.sIx,Option.getD_none,show (1:Int)>0 by decide,if_true]
   by_cases h:i<0
   ·simp only [h,if_true]<;>omega
   ·simp only [h,G1f]<;>omega
 ·cases hi with
  |none=>simp [sliceBounds,HT.sIx]
  |some i=>
   simp only [sliceBounds,HT.sIx,Option.getD_none,show (1:Int)>0 by decide,if_true]
   by_cases h:i<0
   ·simp only [h,if_true]<;>omega
   ·simp only [h,G1f]<;>omega
theorem YC (its:List Value)(lo hi:Option Int):slicePick its.toArray lo hi none=((its.drop (HT.sIx its.length 0 lo)).take (HT.sIx its.length its.length hi-HT.sIx its.length 0 lo)).toArray:=by
 obtain⟨h1,h2,h3⟩:=VF lo hi its.toArray.size;unfold slicePick;rw [h1,h2,h3];simp only [sliceRange_one,pick_run,P8]<;>rfl
def Hm (K:PySem.W.Frag):V->Option Int->Option Int->Hp->VK->Prop:=λx lo hi H Q=> ∃a xs,x= .ref a/\SqL K H a xs/\ ∀p,H p=none->Q (.ref p) (upd H p (.lst (Mg xs lo hi)))
theorem BS:SlR X (Hm X.K):=by
 intro pins s σ H x v vl vu lo hi sl Q I rx hs pl pu h;obtain⟨a,xs,rfl,hx,q⟩:=h;cases rx;obtain⟨its,r,ht,hz⟩:=I.list hx;have hlen:=r.length;refine⟨"list",_,slot_list_getitem.lookup,ht.isList.typeIs,?_⟩;refine wpAny_getItem_list_slice ht.isList hs pl pu .none (by simp) ?_ (by rw [P8]<;>omega);rw [YC,<-hlen];refine⟨.ref s.heap.objs.size,_,I.laid (t':=s.toks) (o:= .lst (Mg xs lo hi)) (λb ob q=>G3 _ q) (G8 _) ?_,rfl,q _ (I.hok.fresh (G8 _))⟩;exact⟨R9 (ZO xs lo hi) hz,_,0,(r.drop (HT.sIx xs.length 0 lo)).take (HT.sIx xs.length xs.length hi-HT.sIx xs.length 0 lo),D9 _ rfl⟩
theorem call_len_seq:CallR X (.builtin "len") (λxs H Q=> ∃p ys,xs= [.ref p]/\(SqL X.K H p ys\/SqT X.K H p ys)/\Q (.int ys.length) H):=by
 intro pins s σ H xs us Q I r h;obtain⟨p,ys,rfl,hq,q⟩:=h;obtain⟨u,rfl,rx⟩:=Jz r;cases rx;have hn:=VB;rcases hq with hq|hq
 ·obtain⟨its,r',pl,hz⟩:=I.list hq;have hlen:=r'.length;exact Calls.call_len_list pl.isList (by simp only [P8]<;>omega) ⟨.int ys.length,H,I.tok _,⟨s.toks+1,by rw [P8,hlen]⟩,q⟩
 ·obtain⟨its,r',pl,hz⟩:=I.tuple hq;have hlen:=r'.length;exact len_tuple pl (by simp only [P8]<;>omega) ⟨.int ys.length,H,I.tok _,⟨s.toks+1,by rw [P8,hlen]⟩,q⟩
theorem call_tuple_of:CallR X (.type "tuple") (λxs H Q=> ∃p ys,xs= [.ref p]/\((SqL X.K H p ys/\ ∀l,H l=none->Q (.ref l) (upd H l (.tup ys)))\/(SqT X.K H p ys/\Q (.ref p) H))):=by
 intro pins s σ H xs us Q I r h;obtain⟨p,ys,rfl,h⟩:=h;obtain⟨u,rfl,rx⟩:=Jz r;cases rx;rcases h with ⟨hq,q⟩|⟨hq,q⟩
 ·obtain⟨its,r',pl,hz⟩:=I.list hq;have hlen:=r'.length;refine call_tuple_list pl.isList (λh' kp=> ?_) (by simp only [P8]<;>omega);have I1:Inv X pins σ H {s with heap:=h'}:=I.kept (t':=s.toks) kp;have I2:Inv X pins σ (upd H h'.objs.size (.tup ys)) {s with heap:=h'.push {cls:= .type "tuple",data:= .seq its.toArray}}:=
   I1.laid (t':=s.toks) (λb o e=>G3 _ e) (G8 _) (show ObjOk X.prog X.w _ _ _ (.tup ys) from ⟨hz,its,r',IsTupN.new _ _⟩)
  exact⟨.ref h'.objs.size,_,I2,rfl,q _ (I1.hok.fresh (G8 _))⟩
 ·obtain⟨its,r',pl,hz⟩:=I.tuple hq;exact call_tuple_same pl ⟨.ref p,H,I,rfl,q⟩
def tyV (K:PySem.W.Frag)(T:String)(x:V)(H:Hp):Prop:=match x with
 | .str _=>T= "str"
 | .int _=>T= "int"
 | .ref p=>(T= "list" /\ ∃xs,SqL K H p xs)\/(T= "tuple" /\ ∃o,K.lookup p=some o/\o.cls= .type "tuple" /\o.dict=none)\/
  (T= "dict" /\((∃kvs,H p=some (.dK kvs))\/ ∃kvs,H p=some (.dT kvs)))\/(T= "set" /\ ∃S n,H p=some (.set S n))
 |_=>False
theorem Of {pins:List (Addr×Obj)}{σ:St}{H:Hp}{s:Shared}{T:String}{x:V}{v:Value}(I:Inv X pins σ H s)(r:RelV x v)(ty:tyV X.K T x H):
 s.TypeIs v T/\ ∀a,v= .ref a-> ∃ob,s.heap.get? a=some ob/\ob.dict=none:=by
 cases x with
 |str z=>
  obtain⟨t,rfl⟩:=r;cases (show T= "str" from ty);exact⟨typeIs_str s z t,λ_ e=>nomatch e⟩
 |int i=>
  obtain⟨t,rfl⟩:=r;cases (show T= "int" from ty);exact⟨G0Y s i t,λ_ e=>nomatch e⟩
 |ref p=>
  cases r;rcases ty with ⟨rfl,xs,hq⟩|⟨rfl,o,hk,hc,hd⟩|⟨rfl,hk⟩|⟨rfl,S,n,hk⟩
  ·obtain⟨its,_,pl,_⟩:=I.list hq;refine⟨pl.isList.typeIs,λa e=> ?_⟩;cases e;obtain⟨o,n,e,c,hd,_⟩:=pl;exact⟨o,e,hd⟩
  ·refine⟨⟨o,I.kIn p o hk,hc⟩,λa e=> ?_⟩;cases e;exact⟨o,I.kIn _ o hk,hd⟩
  ·have z: ∃o,s.heap.get? p=some o/\o.ExactDict:=by
    rcases hk with ⟨kvs,hk⟩|⟨kvs,hk⟩
    ·obtain⟨_,_,_,_,o,_,_,e,ex,_⟩:=I.hok p _ hk;exact⟨o,e,ex⟩
    ·obtain⟨_,_,_,_,o,_,_,e,ex,_⟩:=I.hok p _ hk;exact⟨o,e,ex⟩
   obtain⟨o,e,ex⟩:=z;refine⟨⟨o,e,ex.1⟩,λa e2=> ?_⟩;cases e2;exact⟨o,e,ex.2.1⟩
  ·obtain⟨o,_,_,_,e,ex,_⟩:=I.hok p _ hk;refine⟨⟨o,e,ex.1⟩,λa e2=> ?_⟩;cases e2;exact⟨o,e,ex.2.1⟩
 |_=>exact False.elim ty
def tBM (K:PySem.W.Frag)(T:String)(r:V->List V->Hp->VK->Prop)(to:TE)(t:TA):TE:=λσ H Q=>to σ H λx H1=>tyV K T x H1/\t σ H1 λxs H2=>r x xs H2 Q
variable {o e:Expr}{es:List Expr}{to:TE}{t:TA}{name:Str}{apos cpos:Pos}{T id:String}{r:V->List V->Hp->VK->Prop}
theorem BT (pa:PlainAttrs T)(slot:Slot T name id)(hty:typeOf (.builtin id)=pure (.type "method_descriptor"))(hm:MtR X id r)(ho:PE X o to)(ha:PA X (e::es) t)
 (hbase:attributeBase o name X.env (eval o X.env)=eval o X.env:=by rfl)
 (hfew:((backTo cpos (starEach (e::es) X.env)).all (λx=> !x.1)&&(backToKw cpos (keywordEach [] X.env)).all (λx=>x.1.isSome)
  &&decide ((e::es).length+([]:List Keyword).length+(if ([]:List Keyword).isEmpty then 0 else 1)<30))=true:=by rfl)
 (hline:(apos.endLine==cpos.line)=true:=by rfl)(hs:starEach (e::es) X.env=(false,eval e X.env)::starEach es X.env:=by rfl)(hplain:(backTo cpos (starEach es X.env)).any (·.1)=false:=by rfl):
 PE X (.Call (.Attribute o name apos) (e::es) [] cpos) (tBM X.K T r to t):=by
 intro pins s σ H Q I h;refine wpAny_Call_method_late hbase hfew hline rfl (thn (ho pins s σ H _ I h) λv s1 ⟨x,H1,I1,r1,ty,q1⟩=> ?_);obtain⟨h1,h2⟩:=Of I1 r1 ty;refine⟨T,id,pa,slot,hty,h1,h2,?_⟩;have hA:=ha cpos pins s1 σ H1 _ I1 q1;rw [hs] at hA ⊢;refine Calls.callWith_builtin (by show (false||(backTo cpos (starEach es X.env)).any (·.1))=false;rw [hplain]<;>rfl) (Z4 ?_);exact thn hA λus s2 ⟨vs,H2,I2,r2,q2⟩=>hm pins s2 σ H2 x vs v us Q I2 r1 r2 q2
end
def MtM (X:Cx)(id:String)(r:V->List V->Hp->VK->Prop):Prop:=
 ∀ (pins:List (Addr×Obj)) (s:Shared) (σ:St) (H:Hp) (x:V) (xs:List V) (v:Value) (us:List Value) (Q:VK),Inv X pins σ H s->RelV x v->Vals xs us->r x xs H Q->
  wpAny (model X.prog X.w) X.A (call (.builtin id) (v::us)) (EP X pins σ Q) X.xe s
theorem Vals.one: ∀ {x:V} {us:List Value},Vals [x] us-> ∃u,us= [u]/\RelV x u
 |_,_,.cons r .nil=>⟨_,rfl,r⟩
theorem Vals.rep {xs:List V}{us:List Value}(h:Vals xs us): ∀k:Nat,Vals (List.replicate k xs).flatten (List.replicate k us).flatten
 |0=> .nil
 |k+1=>by
  rw [L0,L0,J8,J8];exact Vals.append h (Vals.rep h k)
theorem ZP (its:List Value): ∀ (k:Nat) (acc:List Value),
 List.foldl (λx1 x2=>x1++x2) acc.toArray (List.replicate k its.toArray)=(acc++(List.replicate k its).flatten).toArray
 |0,acc=>by simp
 |k+1,acc=>by
  have e:acc.toArray++its.toArray=(acc++its).toArray:=by simp
  have e2:(acc++its)++(List.replicate k its).flatten=acc++(List.replicate (k+1) its).flatten:=by
   rw [L0,J8,P0]
  rw [<-e2,<-ZP its k (acc++its),<-e,L0,List.foldl_cons]
section
variable {X:Cx}{pins:List (Addr×Obj)}{σ:St}{H:Hp}{s:Shared}{l b:Addr}{xs ys zs:List V}
theorem Inv.lset {its its':List Value}{n:Nat}{f:Array Value->Array Value}{t':Nat}(I:Inv X pins σ H s)(hH:H l=some (.lst xs))
 (e:s.heap.get? l=some {cls:= .type "list",data:= .seq its.toArray n})(hf:f its.toArray=its'.toArray)(hv:Vals ys its')(hz:ys.length<=sizeLine):
 Inv X pins σ (upd H l (.lst ys)) {s with heap:=s.heap.update l (Obj.mapSeq f),toks:=t'}:=by
 have q:=PySem.IsL.update e f;rw [hf] at q;refine I.write (x:=l) (e:=l) (by rw [hH];exact trivial) (.inl rfl) (λb' u hb hu=>(Heap.get?_update_other s.heap (Obj.mapSeq f) (Ne.symm hb)).trans hu) ⟨_,q⟩ ?_;exact⟨hz,its',_,hv,q⟩
theorem Inv.lnew {its:List Value}{t':Nat}(I:Inv X pins σ H s)(hv:Vals ys its)(hz:ys.length<=sizeLine):
 Inv X pins σ (upd H s.heap.objs.size (.lst ys)) {s with heap:=s.heap.push {cls:= .type "list",data:= .seq its.toArray},toks:=t'}:=
 I.laid (λ_ _ q=>G3 _ q) (G8 _) ⟨hz,its,0,hv,D9 _ rfl⟩
theorem Inv.fresh (I:Inv X pins σ H s):H s.heap.objs.size=none:=I.hok.fresh (G8 _)
theorem Inv.lstM (I:Inv X pins σ H s)(hH:H l=some (.lst xs)):xs.length<=sizeLine/\ ∃ (its:List Value) (n:Nat),Vals xs its/\xs.length=its.length/\s.heap.get? l=some {cls:= .type "list",data:= .seq its.toArray n}:=by
 obtain⟨z,its,n,r,e⟩:=I.hok l _ hH;exact⟨z,its,n,r,r.length,e⟩
theorem Mu {n:Nat}(h:n<=sizeLine):Builtin.List.listTooLong n=false:=by
 unfold Builtin.List.listTooLong;exact D1 (by omega)
end
section
variable {X:Cx}
def BU:V->List V->Hp->VK->Prop:=λx vs H Q=> ∃l xs y,x= .ref l/\vs= [y]/\H l=some (.lst xs)/\xs.length<sizeLine/\Q .non (upd H l (.lst (xs++ [y])))
theorem Pp:MtM X "list.append" BU:=by
 intro pins s σ H x vs v us Q I rx rv h;obtain⟨l,xs,y,rfl,rfl,hH,hz,q⟩:=h;cases rx;obtain⟨u,rfl,ru⟩:=rv.one;obtain⟨z,its,n,r,hl,e⟩:=I.lstM hH;refine G0x F.slot_list_append ⟨_,e,rfl⟩ F.entry_list_append (F.args_list_append_2 _ _) (PySem.list_append l its.toArray n u (by rw [P8];omega)) ⟨e,?_⟩;refine⟨.non,_,I.lset (its':=its++ [u]) hH e (by simp) (r.append (.cons ru .nil)) ?_,rfl,q⟩;rw [G6,B2];omega
def Hn:R2:=λx y H Q=> ∃l b xs zs,x= .ref l/\y= .ref b/\H l=some (.lst xs)/\H b=some (.lst zs)/\xs.length+zs.length<=sizeLine/\ ∀p,H p=none->Q (.ref p) (upd H p (.lst (xs++zs)))
theorem Og:OpR X (binaryOp .Add) Hn:=by
 intro pins s σ H x y v u Q I rx ry h;obtain⟨l,b,xs,zs,rfl,rfl,hH,hB,hz,q⟩:=h;cases rx;cases ry;obtain⟨z,its,n,r,hl,e⟩:=I.lstM hH;obtain⟨z2,its2,n2,r2,hl2,e2⟩:=I.lstM hB;refine PySem.P.add_list e e2 ?_ (by rw [P8,P8];omega);have ea:its.toArray++its2.toArray=(its++its2).toArray:=by simp
 rw [ea];exact⟨.ref _,_,I.lnew (t':=s.toks) (r.append r2) (by rw [G6];omega),rfl,q _ I.fresh⟩
def Ho:R2:=λx y H Q=> ∃l k xs,x= .ref l/\y= .int k/\H l=some (.lst xs)/\ -(2^63)<=k/\k<2^63/\xs.length*k.toNat<=sizeLine/\
 ∀p,H p=none->Q (.ref p) (upd H p (.lst (List.replicate k.toNat xs).flatten))
theorem UR {α:Type}(xs:List α)(k:Nat):(List.replicate k xs).flatten.length=k*xs.length:=by
 induction k with
 |zero=>simp
 |succ k ih=>rw [L0,J8,G6,ih,G0T,G1h]
theorem Oh:OpR X (binaryOp .Mult) Ho:=by
 intro pins s σ H x y v u Q I rx ry h;obtain⟨l,k,xs,rfl,rfl,hH,h1,h2,hz,q⟩:=h;cases rx;obtain⟨t,rfl⟩:=ry;obtain⟨z,its,n,r,hl,e⟩:=I.lstM hH;have hlen:its.toArray.size*k.toNat<=sizeLine:=by rw [P8,<-hl];exact hz
 have hcap: ¬its.toArray.size*k.toNat>(2^63-1) / 8:=by
  have:(sizeLine:Nat)<=(2^63-1) / 8:=by decide
  omega
 have hfit: ¬ (!Builtin.List.listFitsIndex k)=true:=by
  rw [fitsIndex_both h1 h2];exact P7
 have hlong: ¬Builtin.List.listTooLong (its.toArray.size*k.toNat)=true:=by
  rw [Mu hlen];exact P7
 have hnew:List.foldl (λx1 x2=>x1++x2) #[] (List.replicate (if its.toArray.isEmpty=true then 0 else k.toNat) its.toArray)=(List.replicate k.toNat its).flatten.toArray:=by
  have f0: ∀m:Nat,List.foldl (λx1 x2=>x1++x2) #[] (List.replicate m its.toArray)=(List.replicate m its).flatten.toArray:=λm=>by
   have:=ZP its m [];rw [M1] at this;exact this
  rw [f0];cases its with
  |nil=>simp
  |cons a r'=>rw [if_neg (by simp)]
 refine G0r (T:= "list") (U:= "int") (by decide) ⟨_,e,rfl⟩ (λs'=>G0Y s' k t) noFill_list_mul F.fills_int_mul G0a repeat_list F.slot_int_index.lookup
  (G0x G0a (G0Y s k t) F.entry_int_rmul (F.args_int_rmul_2 _ _) (int___rmul___int_list k t l its.toArray n)
   ⟨e,rfl,⟨_,e,rfl⟩,G0x F.slot_list_mul ⟨_,e,rfl⟩ F.entry_list_mul (F.args_list_mul_2 _ _) (AutoListH.list___mul___list_int_3 l its.toArray n k t hfit hcap hlong) ⟨e,?_⟩⟩)
 rw [hnew];exact⟨.ref _,_,I.lnew (t':=s.toks) (r.rep k.toNat) (by rw [UR,G1i];exact hz),rfl,q _ I.fresh⟩
end
end L2
namespace Att
open PySem PySem.W PySem.Calls PyProof.Rows
theorem ZQ {P:Params}{h:Heap}: ∀ (ns:List Int) (vs:List Value),WellAll P h vs (ns.map WData.int)->IntsAre vs ns:=by
 intro ns
 induction ns with
 |nil=>
  intro vs w;rw [F7] at w;cases w;exact .nil
 |cons n ns ih=>
  intro vs w;rw [S1] at w;cases w with
  |cons a b=>
   cases a;exact .cons _ _ (ih _ b)
theorem Pq {l:OpenLaw}{n:Nat}(hn:l.most=some n){P:Params}{h:Heap}{args:List WData}{vals:List Value}
 (hpre:l.row.toRowW.claim.pre args=true)(hwl:WellAll P h vals args):
 ∃a vs ns,vals= [Value.ref a]/\args= [WData.list (ns.map WData.int)]/\h.get? a=some {cls:= .type "list",data:= .seq vs.toArray}/\IntsAre vs ns/\ns.length<=n:=by
 have hsh:WShape.hasAll [] args [.list .int]=true:=(pre_splitW hpre).1;have hc:l.pre.holds [] {args:=args}=true:=(pre_splitW hpre).2;obtain⟨d,r,rfl,h1,h2⟩:=hasAllW_cons hsh;obtain rfl:=hasAllW_nil h2;obtain⟨xs,rfl,h3⟩:=hasW_list h1;obtain⟨ns,rfl⟩:=items_int h3;have hlen:ns.length<=n:=by
  unfold OpenLaw.pre at hc;have h4:(WTm.not (.lt (.lit (.int (n:Int))) (.len (.arg 0)))).holds [] {args:= [.list (ns.map .int)]}=true:=by
   have h4:=(holds_andW hc).1;rw [hn] at h4;exact h4
  have h5:=condW_of h4 (w_not (w_lt w_lit (w_len_list (w_arg rfl))));rw [G0] at h5;refine Y7 λq=> ?_
  have q':(n:Int)<((ns.length:Nat):Int):=by omega
  first
   |(rw [G9 q'] at h5;exact absurd h5 (by decide))
   |(simp at h5;omega)
 cases hwl with
 |cons w1 w2=>
  cases w2;cases w1 with
  |list ho hall=>exact⟨_,_,ns,rfl,rfl,ho,ZQ ns _ hall,hlen⟩
theorem Pr (l:OpenLaw)(args:List WData):l.row.toRowW.claim.post args (.bool true) args=true:=
 postW_of (r:=l.row.toRowW) (X:=(true==true))
  (show WShape.has [] (.bool true) .bool=true by first|rfl|decide|simp [WShape.has,WShape.arms,WShape.armsAll])
  (show (WTm.eq .res (.lit (.bool true))).value [] {args:=args,res:=some (.bool true),after:=args}=some (.bool (true==true)) from w_eq_bool (w_res rfl) w_lit) rfl
theorem attach_call {l:OpenLaw}{n:Nat}{q:Program}{loose:List Str}{XP:(Str->Option Value)->Heap->Prop}{YP:World->Heap->Prop}{d:DefRec}
 (hn:l.most=some n)(hdf:d.params.defaults= [])
 (call: ∀ (w:World) (s₀ s₁:Shared) (mg mb:Str->Option Value) (fa:Addr) (o:Obj) (pm cd doc:Value) (a:Addr) (vs:List Value) (ns:List Int),
  Ground q loose [] XP w s₀ mg mb s₁.heap->YP w s₁.heap->
  s₁.heap.get? fa=some o->o.data= .func (docDef d.name d.params d.body d.scope pm cd doc)->s₁.heap.CodeRec cd d.name->mg d.name=some (.ref fa)->
  s₁.heap.get? a=some {cls:= .type "list",data:= .seq vs.toArray}->IntsAre vs ns->ns.length<=n->s₁.gens= #[]->
  codeAny (model l.prog w) callerA (.call (.ref fa) ⟨[.ref a],[]⟩) (λr s'=>r= .ok (.ret (.bool true))/\OldK s₁.heap s'.heap/\s'.os=s₁.os/\AllBare s'.gens) s₁):
 WalkO q loose XP YP l.row.toRowW d [] (λf vs=>PySem.call f vs):=by
 intro w s₀ s₁ mg mb G Y fa o pm cd doc dV kV ho hd hcd hD hmg hg args vals as hpre hlay hrd hwl hlo;obtain rfl:dV= .none:=Dflts.none hD hdf;obtain rfl:kV= .none:=Dflts.noKw hD;obtain⟨a,vs,ns,rfl,rfl,hobj,hints,hlen⟩:=Pq hn hpre hwl;refine enter_call (Y2 (call w s₀ s₁ mg mb fa o pm cd doc a vs ns G Y ho (fd_plain hd) hcd hmg hobj hints hlen hg) λr s' hq=> ?_);obtain⟨rfl,h2,h3,h4⟩:=hq;exact⟨.inl ⟨.bool true,.bool true,[],rfl,λ_=>rfl,.bool true,Pr l _,λ_=>⟨List.Pairwise.nil,λ_ hm=>(nomatch hm)⟩⟩,h2,h3,h4⟩
end Att
namespace L2
open PySem PySem.Spec PyProof.Rows
theorem VG: ∀ {vs:List Value} {ns:List Int},IntsAre vs ns->Vals (ns.map V.int) vs
 |_,_,.nil=> .nil
 |_,_,.cons n t h=> .cons ⟨t,rfl⟩ (VG h)
def Only (H:Hp):Prop:= ∀b,H b=none\/ ∃o xs,H b=some (.frz o (.lst xs))
def yB (s:Stmt):Arguments:=match s with
 | .FunctionDef _ a _ _ _ _ _ _ _ _=>a
 |_=> {posonlyargs:= [],args:= [],vararg:=none,kwonlyargs:= [],kw_defaults:= [],kwarg:=none,defaults:= []}
def jL (s:Stmt):List Stmt:=match s with
 | .FunctionDef _ _ b _ _ _ _ _ _ _=>b
 |_=> []
def jc (s:Stmt):Scope:=match s with
 | .FunctionDef _ _ _ _ _ _ sc _ _ _=>sc
 |_=> {kind:= .function,names:= [],isGenerator:=false,isCoroutine:=false}
abbrev CX0:CXT:=λ_ _ _ _ _ _=>False
abbrev E0:XK:=λ_ _ _=>False
variable {X:Cx}
theorem BV:ZL CX0 X E0:=λ_ _ _ _ _ _ _ h=>h.elim
structure Fun (K:PySem.W.Frag)(x qual:Str)(st:Stmt)(f:Addr)(fd:FuncData):Prop where
 ex: ∃ (oc:Value) (od:Option Addr) (kV doc pm:Value) (an:Option Addr) (cdv ct:Value) (osl:Array (Option Value)),
  fd=PySem.W.fnOf x qual (yB st) (jL st) (jc st) .none kV doc pm an cdv ct/\K.lookup f=some ⟨oc,od,.func fd,osl⟩/\PySem.W.codeIn K cdv qual=true
 kp:PySem.W.keepIn K (.ref f)=true
section
variable {P:Program}{w:World}{K:PySem.W.Frag}{mg:Str->Option Value}{base:Heap}
variable {qual:Str}
theorem Fun.ok {x:Str}{st:Stmt}{f:Addr}{fd:FuncData}{N ps:List Str}{k:Nat}{sp:Sp}(F:Fun K x qual st f fd)(S:FnScope N ps (jc st))(len: ∀vs H Q E,sp vs H Q E->vs.length=ps.length)
 (hbody: ∀ (cdv:Value) (A:Around) (outer:List Env) (s:Shared) (H:Hp) (vs:List V) (Q:VK) (E:XK),Room k (A.deeper (envOfC qual (jc st) s.heap.objs.size f cdv))->sp vs H Q E->
  ∃t,PSs (WL CX0 P w K mg base N qual (jc st) f cdv A outer s H E).nox (jL st) t/\t {nx:=λ_ H'=>Q .non H',rt:=Q} (start N vs) H):FnOk P w K mg base CX0 (k+1) f fd ps sp:=by
 obtain⟨oc,od,kV,doc,pm,an,cdv,ct,osl,rfl,lk,hcd⟩:=F.ex;refine BO lk hcd S len λA outer s H vs Q E hr hsp=> ?_
 obtain⟨t,h,q⟩:=hbody cdv A outer s H vs Q E hr hsp;exact⟨t,h.nox,q⟩
theorem Fun.binds {x:Str}{st:Stmt}{f:Addr}{fd:FuncData}{ps:List Str}(F:Fun K x qual st f fd)
 (h: ∀ (kV doc pm:Value) (an:Option Addr) (cdv ct:Value) (us:List Value),us.length=ps.length->bindArgs (PySem.W.fnOf x qual (yB st) (jL st) (jc st) .none kV doc pm an cdv ct) ⟨us,[]⟩=pure (ps.zip us)):Binds K fd ps []:=by
 obtain⟨oc,od,kV,doc,pm,an,cdv,ct,osl,rfl,lk,hcd⟩:=F.ex;exact .all (h kV doc pm an cdv ct)
theorem Oi {x:Str}{st:Stmt}{f:Addr}{oc:Value}{od an:Option Addr}{osl:Array (Option Value)}{kV doc pm cdv ct:Value}(l:K.lookup f=some ⟨oc,od,.func (PySem.W.fnOf x qual (yB st) (jL st) (jc st) .none kV doc pm an cdv ct),osl⟩)
 (c:PySem.W.codeIn K cdv qual=true)(k:PySem.W.keepIn K (.ref f)=true):Fun K x qual st f (PySem.W.fnOf x qual (yB st) (jL st) (jc st) .none kV doc pm an cdv ct):=⟨⟨oc,od,kV,doc,pm,an,cdv,ct,osl,rfl,l,c⟩,k⟩
end
theorem jx {n:Nat}(h:n<=1000):n<sizeLine:=C8 h (by decide)
theorem wc {A B:Prop}(h:B):if false=true then A else B:=by
 rw [if_neg P7];exact h
theorem vS {A B:Prop}(h:A):if true=true then A else B:=by
 rw [if_pos rfl];exact h
theorem UN {c A B:Prop}[Decidable c](h1:c->A)(h2: ¬c->B):if c then A else B:=by
 by_cases h:c
 ·rw [if_pos h];exact h1 h
 ·rw [if_neg h];exact h2 h
section
variable {κ:Type}[DecidableEq κ]
def WO (kvs:List (κ×V))(k:κ):Option V:=(kvs.find? λkv=>decide (kv.1=k)).map (·.2)
def XR (kvs:List (κ×V))(k:κ)(v:V):List (κ×V):=
 if (kvs.any λkv=>decide (kv.1=k))=true then kvs.map (λkv=>if kv.1=k then (kv.1,v) else kv) else kvs++ [(k,v)]
theorem Zy {p:κ×V}{r:List (κ×V)}{k:κ}(e:p.1=k):WO (p::r) k=some p.2:=by simp [WO,A5,e]
theorem Zz {p:κ×V}{r:List (κ×V)}{k:κ}(e: ¬p.1=k):WO (p::r) k=WO r k:=by simp [WO,A5,e]
theorem YD (k:κ): ∀kvs:List (κ×V),(kvs.any λkv=>decide (kv.1=k))=(WO kvs k).isSome
 | []=>rfl
 |p::r=>by
  rw [Z7]
  by_cases e:p.1=k
  ·simp only [Zy e,G9 e,Bool.true_or,Option.isSome_some]
  ·rw [Zz e,D1 e,Bool.false_or];exact YD k r
theorem ZR (kvs:List (κ×V))(k:κ)(v:V):(XR kvs k v).length<=kvs.length+1:=by
 unfold XR;split
 ·rw [G0];omega
 ·rw [G6,D3,R8];omega
theorem Mv {kvs:List (κ×V)}{k:κ}(v:V)(h:WO kvs k=none):XR kvs k v=kvs++ [(k,v)]:=by
 unfold XR;rw [YD,h];exact if_neg (by decide)
theorem KV.val {kvs:List (κ×V)}{vs:List (κ×Value)}(r:KV kvs vs)(k:κ):RelO (WO kvs k) (valueAt vs k):=by
 unfold KV at r
 induction r with
 |nil=>exact True.intro
 | @cons p q ps qs h t ih=>
  obtain⟨h1,h2⟩:=h
  by_cases e:p.1=k
  ·have e':q.1=k:=h1.symm.trans e;have b:valueAt (q::qs) k=some q.2:=by simp [valueAt,A5,e']
   rw [Zy e,b];exact h2
  ·have e': ¬q.1=k:=λz=>e (h1.trans z)
   have b:valueAt (q::qs) k=valueAt qs k:=by simp [valueAt,A5,e']
   rw [Zz e,b];exact ih
theorem KV.any {kvs:List (κ×V)}{vs:List (κ×Value)}(r:KV kvs vs)(k:κ):(kvs.any λkv=>decide (kv.1=k))=vs.any λkv=>decide (kv.1=k):=by
 unfold KV at r
 induction r with
 |nil=>rfl
 |cons h t ih=>rw [Z7,Z7,ih,h.1]
theorem KV.repl {kvs:List (κ×V)}{vs:List (κ×Value)}(r:KV kvs vs)(k:κ){y:V}{u:Value}(ry:RelV y u):
 KV (kvs.map λkv=>if kv.1=k then (kv.1,y) else kv) (vs.map λkv=>if kv.1=k then (kv.1,u) else kv):=by
 unfold KV at r ⊢
 induction r with
 |nil=>exact .nil
 | @cons p q ps qs h t ih=>
  rw [S1,S1];refine .cons ?_ ih;obtain⟨h1,h2⟩:=h
  by_cases e:p.1=k
  ·rw [if_pos e,if_pos (h1.symm.trans e)];exact⟨h1,ry⟩
  ·rw [if_neg e,if_neg (λz=>e (h1.trans z))];exact⟨h1,h2⟩
theorem KV.put {kvs:List (κ×V)}{vs:List (κ×Value)}(r:KV kvs vs)(k:κ){y:V}{u:Value}(ry:RelV y u):KV (XR kvs k y) (stored vs k u):=by
 unfold XR stored;rw [r.any k]
 by_cases e:(vs.any λkv=>decide (kv.1=k))=true
 ·rw [if_pos e,if_pos e];exact r.repl k ry
 ·rw [if_neg e,if_neg e];exact Paired.snoc r ⟨rfl,ry⟩
theorem KV.length {kvs:List (κ×V)}{vs:List (κ×Value)}(r:KV kvs vs):kvs.length=vs.length:=Paired.length r
end
variable {P:Program}{w:World}
theorem Mw {k:Key}{u:Value}(r:RelV (kV k) u):(zg P w).is k u=true:=by
 cases k with
 |inl i=>obtain⟨t,e⟩:=(show ∃t,u=Value.int i t from r);subst e;exact UO P w i t
 |inr x=>obtain⟨t,e⟩:=(show ∃t,u=Value.str x t from r);subst e;exact UP P w x t
theorem VH: ∀ {ks:List Key} {us:List Value},Vals (ks.map kV) us->ItemsAre (zg P w) ks us
 | [],_,r=>by rw [F7] at r;cases r;exact .nil
 |k::ks,_,r=>by
  rw [S1] at r;cases r with
  |cons h t=>exact .cons (Mw h) (VH t)
abbrev KT (H:Hp):List (List Key×V)->List (List Key×Addr×Value)->Prop:=Paired λp q=>p.1=q.1/\H q.2.1=some (.tup (p.1.map kV))/\RelV p.2 q.2.2
variable {H:Hp}
theorem KT.val {kvs:List (List Key×V)}{xs:List (List Key×Addr×Value)}(r:KT H kvs xs)(k:List Key):RelO (WO kvs k) ((atKey xs k).map (·.2)):=by
 induction r with
 |nil=>exact True.intro
 | @cons p q ps qs h t ih=>
  obtain⟨h1,_,h2⟩:=h
  by_cases e:p.1=k
  ·have e':q.1=k:=h1.symm.trans e;have b:atKey (q::qs) k=some q.2:=by simp [atKey,A5,e']
   rw [Zy e,b];exact h2
  ·have e': ¬q.1=k:=λz=>e (h1.trans z)
   have b:atKey (q::qs) k=atKey qs k:=by simp [atKey,A5,e']
   rw [Zz e,b];exact ih
section
variable {P:Program}{w:World}{H:Hp}{h:Heap}{a:Addr}
theorem Oj {u:HO}(ok:HOk P w H h)(e:Rd H a u):ObjOk P w H h a u:=e.ok ok
theorem Ps {kvs:List (Key×V)}(ok:HOk P w H h)(e:Rd H a (.dK kvs)):kvs.length<=sizeLine/\(a==sysModules)=false/\ ∃vs,KV kvs vs/\h.DictOf (zg P w) a vs:=
 show ObjOk P w H h a (.dK kvs) from Oj ok e
theorem Ol {kvs:List (Key×V)}(ok:HOk P w H h)(e:H a=some (.dK kvs)):kvs.length<=sizeLine/\(a==sysModules)=false/\ ∃vs,KV kvs vs/\h.DictOf (zg P w) a vs:=Ps ok (.inl e)
theorem NX {ks:List Key}(ok:HOk P w H h)(e:H a=some (.tup (ks.map kV))):(tupleKind (zg P w)).is h ks a:=by
 obtain⟨_,its,r,o,h1,h2,_,n,h3⟩:=(show ObjOk P w H h a (.tup (ks.map kV)) from ok a _ e);exact⟨o,its.toArray,n,h1,h2,h3,by simpa using VH r⟩
theorem BW {kvs:List (List Key×V)}(ok:HOk P w H h)(e:Rd H a (.dT kvs)):kvs.length<=sizeLine/\(a==sysModules)=false/\
 ∃xs,KT H kvs xs/\h.DictOfH (tupleKind (zg P w)) a xs:=by
 obtain⟨z,y,xs,r,o,es,ep,h1,h2,h3,h4,h5⟩:=(show ObjOk P w H h a (.dT kvs) from Oj ok e);refine⟨z,y,xs,r,o,es,ep,h1,h2,h3,h4,λx hx=> ?_,h5⟩;have all: ∀ {l:List (List Key×V)} {m:List (List Key×Addr×Value)},KT H l m-> ∀x∈m,(tupleKind (zg P w)).is h x.1 x.2.1:=by
  intro l m q
  induction q with
  |nil=>intro x hx;exact nomatch hx
  | @cons p q ps qs hq t ih=>
   intro x hx;rcases D0.mp hx with e|hx
   ·subst e;exact NX ok (by rw [<-hq.1];exact hq.2.1)
   ·exact ih x hx
 exact all r x hx
end
def DGet (H:Hp)(a:Addr)(y:V)(r:Option V):Prop:=
 (∃kvs k,Rd H a (.dK kvs)/\y=kV k/\r=WO kvs k)\/ ∃kvs k b,Rd H a (.dT kvs)/\y= .ref b/\H b=some (.tup (k.map kV))/\r=WO kvs k
variable {a:Addr}
theorem DGet.k {kvs:List (Key×V)}{k:Key}(e:H a=some (.dK kvs)):DGet H a (kV k) (WO kvs k):= .inl ⟨kvs,k,.inl e,rfl,rfl⟩
section
variable {X:Cx}{pins:List (Addr×Obj)}{σ:St}{H:Hp}{s:Shared}{a:Addr}{y v:V}{u r:Value}{o:Option V}{A:Around}{E:Value->Shared->Prop}
theorem Inv.big (I:Inv X pins σ H s):sysModules<s.heap.objs.size:=by
 have h:mainGlobals<s.heap.objs.size:=(I.mod.glob.keeps I.bk).lt;exact Y5 (by decide) h
theorem Pu {Q:Value->Shared->Prop}(hu:A.units+1<cLine)(I:Inv X pins σ H s)(g:DGet H a y (some v))(ry:RelV y u)(h: ∀w' s',Inv X pins σ H s'->RelV v w'->Q w' s'):
 wpAny (model X.prog X.w) A (getItem (.ref a) u) Q E s:=by
 rcases g with ⟨kvs,k,e,ey,l⟩|⟨kvs,k,b,e,ey,eb,l⟩
 ·subst ey;obtain⟨z,hd,vs,rel,dd⟩:=Ps I.hok e;obtain⟨w',hw,rw'⟩:=RelO.some_of (v:=v) (o:=valueAt vs k) (by rw [l];exact rel.val k);exact wpAny_getItem_of (Mw ry) dd.mapOf hw (h w' _ (I.tok _) rw')
 ·subst ey;cases (show u=Value.ref b from ry);obtain⟨z,hd,xs,rel,dd⟩:=BW I.hok e;obtain⟨w',hw,rw'⟩:=RelO.some_of (v:=v) (o:=(atKey xs k).map (·.2)) (by rw [l];exact rel.val k);obtain⟨p,hp,hp2⟩:=M6.mp hw;refine wpAny_getItem_heap (tupleKind_room_in1 hu) (NX I.hok eb) dd hp ?_;rw [hp2];exact h w' _ (I.tok _) rw'
theorem Pv {h':Heap}{t':Nat}{ob:HO}(I:Inv X pins σ H s)(mu:Mut (H a))(hs:Heap.SameBut a s.heap h')(he: ∃q,h'.get? a=some q)(new:ObjOk X.prog X.w (upd H a ob) h' a ob):
 Inv X pins σ (upd H a ob) {s with heap:=h',toks:=t'}:=
 I.write (x:=a) (e:=a) mu (.inl rfl) (λb q hb z=>(hs.2 b hb).trans z) he new
theorem NY {P:Program}{w:World}{H':Hp}{h':Heap}{kvs:List (Key×V)}{vs:List (Key×Value)}(z:kvs.length<=sizeLine)(hd:(a==sysModules)=false)(rel:KV kvs vs)(dd:h'.DictOf (zg P w) a vs):
 ObjOk P w H' h' a (.dK kvs):=⟨z,hd,vs,rel,dd⟩
end
section
variable {X:Cx}{pins:List (Addr×Obj)}{σ:St}{H:Hp}{s:Shared}{a:Addr}{kvs:List (Key×V)}{k:Key}{u:Value}{A:Around}{E:Value->Shared->Prop}
theorem EX {Q:Value->Shared->Prop}(I:Inv X pins σ H s)(e:Rd H a (.dK kvs))(h: ∀t s',Inv X pins σ H s'->Q (.int kvs.length t) s'):wpAny (model X.prog X.w) A (call (.builtin "len") [.ref a]) Q E s:=by
 obtain⟨z,hd,vs,rel,dd⟩:=Ps I.hok e;refine call_len_dict hd dd (by rw [<-rel.length];rw [G08] at z;omega) ?_;rw [<-rel.length];exact h _ _ (I.tok _)
end
def EY (i:Expr):Prop:= ∀ov iv,subscripted i false ov iv=operate [ov,iv] (getItem ov iv)
variable {prog:Program}{s:Shared}{env:Env}{pos:Pos}
theorem BX {A:Around}{E:Value->Shared->Prop}{value slice:Expr}{T id:String}{Q:Value->Shared->Prop}
 (hl:typeLookup (.type T) "__getitem__" =pure (some (.builtin id)))(hs:EY slice)
 (h:wpAny (model prog w) A (eval value env) (λo s₁=>wpAny (model prog w) A (eval slice env) (λi s₂=>s₂.TypeIs o T/\wpAny (model prog w) A (getItem o i) Q E s₂) E s₁) E s):
 wpAny (model prog w) A (eval (.Subscript value slice pos) env) Q E s:=by
 refine Subscript_ (R5 h (λo s₁ h₁=>R5 h₁ (λi s₂ h₂=> ?_) λ_ _ x=>x) λ_ _ x=>x);obtain⟨hT,h₂⟩:=h₂;unfold subscriptTail;refine wpAny_bind ?_;rw [getitemInPython_of_ne hT.not_modules];refine wpAny_bind (wpAny_specialOf hT hl ?_);have fin:wpAny (model prog w) A (subscripted slice false o i) (λr s₃=>wpAny (model prog w) A (letTemporaryGo value o r >>= λ_=>pure r) Q E s₃) E s₂:=by
  rw [hs o i];exact wpAny_operating (R5 h₂ (λr s₃ h₃=>wpAny_bind (wpAny_letTemporaryGo (P4 h₃))) λ_ _ x=>x)
 first
  |exact P4 (wpAny_bind fin)
  |exact wpAny_bind (P4 (wpAny_bind fin))
  |exact wpAny_bind fin
theorem US {pins:List (Addr×Obj)}{σ:St}{y:V}{o:Option V}(I:Inv X pins σ H s)(g:DGet H a y o):s.TypeIs (.ref a) "dict" :=by
 rcases g with ⟨kvs,k,e,_,_⟩|⟨kvs,k,b,e,_,_,_⟩
 ·obtain⟨_,_,vs,_,dd⟩:=Ps I.hok e;exact dd.typeIs
 ·obtain⟨_,_,xs,_,dd⟩:=BW I.hok e;exact dd.typeIs
def EZ (td ty:TE):TE:=λσ H Q=>td σ H λx H1=>ty σ H1 λy H2=> ∃a v,x= .ref a/\DGet H2 a y (some v)/\Q v H2
section
variable {X:Cx}{o i e value:Expr}{pos pos' tpos:Pos}{td ty tv:TE}
theorem BY (hu:X.A.units+1<cLine)(ho:PE X o td)(hi:PE X i ty)(hs:EY i):PE X (.Subscript o i pos) (EZ td ty):=by
 intro pins s σ H Q I h;refine BX PySem.F.slot_dict_getitem.lookup hs (thn (ho pins s σ H _ I h) λu s1 ⟨x,H1,I1,rx,q1⟩=>thn (hi pins s1 σ H1 _ I1 q1) λiv s2 ⟨y,H2,I2,ry,a,v,ex,g,q2⟩=> ?_);subst ex;obtain rfl:u=Value.ref a:=rx;exact⟨US I2 g,Pu hu I2 g ry λw' s3 I3 rw'=>⟨v,H2,I3,rw',q2⟩⟩
end
theorem Mx (h:Heap)(hb:sysModules<h.objs.size):ObjOk P w H (h.push {cls:= .type "dict",data:= .dict #[]}) h.objs.size (.dK []):=
 ⟨T2 _,U9.mpr (Ne.symm (R6 hb)),[],.nil,Heap.DictOf.new h⟩
def Pw:List (TE×TE)->St->Hp->(List (V×V)->Hp->Prop)->Prop
 | [],_,H,Q=>Q [] H
 |(tk,tv)::r,σ,H,Q=>tk σ H λx H1=>tv σ H1 λy H2=>Pw r σ H2 λps H3=>Q ((x,y)::ps) H3
abbrev VV:List (V×V)->List (Value×Value)->Prop:=Paired λp q=>RelV p.1 q.1/\RelV p.2 q.2
def PPs (X:Cx)(pos:Pos)(keys:List (Option Expr))(values:List Expr)(trs:List (TE×TE)):Prop:=
 ∀ (pins:List (Addr×Obj)) (s:Shared) (σ:St) (H:Hp) (Q:List (V×V)->Hp->Prop),Inv X pins σ H s->Pw trs σ H Q->
  wpAny (model X.prog X.w) X.A (evalPairs (pairTrees keys values X.env pos)) (λvs s'=> ∃ps H',Inv X pins σ H' s'/\VV ps vs/\Q ps H') X.xe s
theorem Px:PPs X pos [] [] []:=λpins s σ H Q I h=>pairTrees_nil_walk ⟨[],H,I,.nil,h⟩
theorem XS {k v:Expr}{ks:List (Option Expr)}{vs:List Expr}{tk tv:TE}{trs:List (TE×TE)}(hk:PE X k tk)(hv:PE X v tv)(hr:PPs X pos ks vs trs):
 PPs X pos (some k::ks) (v::vs) ((tk,tv)::trs):=λpins s σ H Q I h=>
 pairTrees_cons_walk (thn (hk pins s σ H _ I h) λu s1 ⟨x,H1,I1,rx,q1⟩=>thn (hv pins s1 σ H1 _ I1 q1) λw2 s2 ⟨y,H2,I2,ry,q2⟩=>
  thn (hr pins s2 σ H2 _ I2 q2) λws s3 ⟨ps,H3,I3,rel,q3⟩=>⟨(x,y)::ps,H3,I3,.cons ⟨rx,ry⟩ rel,q3⟩)
def VI (kvs more:List (Key×V)):List (Key×V):=more.foldl (λacc kv=>XR acc kv.1 kv.2) kvs
theorem KV.merge: ∀ {more:List (Key×V)} {rs:List (Key×Value)} {kvs:List (Key×V)} {vs:List (Key×Value)},KV more rs->KV kvs vs->KV (VI kvs more) (merged vs rs):=by
 intro more rs kvs vs r;unfold KV at r
 induction r generalizing kvs vs with
 |nil=>intro q;exact q
 | @cons p q ps qs h t ih=>
  intro r0;have e:KV (XR kvs p.1 p.2) (stored vs q.1 q.2):=by
   have:=r0.put p.1 h.2;rw [<-h.1];exact this
  exact ih e
theorem vT: ∀ (more kvs:List (Key×V)),(VI kvs more).length<=kvs.length+more.length
 | [],kvs=>by show kvs.length<=kvs.length+0;omega
 |p::r,kvs=>by
  have h1:=vT r (XR kvs p.1 p.2);have h2:=ZR kvs p.1 p.2;show (VI (XR kvs p.1 p.2) r).length<=_;rw [D3];omega
theorem Ye {P:Program}{w:World}: ∀ {kvs:List (Key×V)} {ws:List (Value×Value)},VV (kvs.map λkv=>(kV kv.1,kv.2)) ws-> ∃rs,Carries (zg P w) ws rs/\KV kvs rs
 | [],_,r=>by rw [F7] at r;cases r;exact⟨[],True.intro,.nil⟩
 |p::kvs,_,r=>by
  rw [S1] at r;cases r with
  | @cons a b as bs h t=>
   obtain⟨rs,c,q⟩:=Ye (P:=P) (w:=w) t;obtain⟨b1,b2⟩:=b;exact⟨(p.1,b2)::rs,⟨Mw h.1,rfl,c⟩,.cons ⟨rfl,h.2⟩ q⟩
def Sa (trs:List (TE×TE)):TE:=λσ H Q=> ∀p,H p=none->Pw trs σ (upd H p (.dK [])) λps H2=>H2 p=some (.dK [])/\ ∃kvs:List (Key×V),ps=kvs.map (λkv=>(kV kv.1,kv.2))/\kvs.length<=15/\Q (.ref p) (upd H2 p (.dK (VI [] kvs)))
theorem Py {keys:List (Option Expr)}{values:List Expr}{trs:List (TE×TE)}(h:PPs X pos keys values trs)(hall:keys.all (·.isSome)=true)(hl:keys.length=values.length)(h0:keys≠ [])
 (h15:keys.length<=15):PE X (.Dict keys values pos) (Sa trs):=by
 intro pins s σ H Q I q;have hn:=I.hok.fresh (G8 s.heap.objs.size);have I1:=I.laid (a:=s.heap.objs.size) (o:= .dK []) (h':=s.heap.push {cls:= .type "dict",data:= .dict #[]}) (t':=s.toks) (λ_ _ q=>G3 _ q) (G8 _) (Mx s.heap I.big);refine wpAny_Dict_walk (knd:=zg X.prog X.w) hall hl h0 h15 (thn (h pins _ σ _ _ I1 (q _ hn)) λws s2 ⟨ps,H2,I2,rel,e,kvs,ep,lk,q2⟩=> ?_);subst ep;obtain⟨rs,c,rk⟩:=Ye (P:=X.prog) (w:=X.w) rel;obtain⟨z,hd,vs0,r0,dd⟩:=Ol I2.hok e;cases r0;refine⟨rs,c,dd,λh' dd' hs=>⟨.ref s.heap.objs.size,_,?_,rfl,q2⟩⟩;have hz:(VI [] kvs).length<=sizeLine:=by
  have h1:=vT kvs [];rw [R8] at h1;rw [G08];omega
 have he: ∃q,h'.get? s.heap.objs.size=some q:=let ⟨q,_,_,hq,_⟩:=dd';⟨q,hq⟩;exact Pv I2 (by rw [e];exact True.intro) hs he (NY hz hd (rk.merge .nil) dd')
structure M2 (X:Cx)(o:Expr)(m:Str)(apos:Pos)(e f:Expr)(cpos:Pos):Prop where
 base:attributeBase o m X.env (eval o X.env)=eval o X.env
 few:((backTo cpos (starEach [e,f] X.env)).all (λx=> !x.1)&&(backToKw cpos (keywordEach [] X.env)).all (λx=>x.1.isSome)
  &&decide (([e,f]:List Expr).length+([]:List Keyword).length+(if ([]:List Keyword).isEmpty then 0 else 1)<30))=true
 line:(apos.endLine==cpos.line)=true
 trees:backTo cpos (starEach [e,f] X.env)= [(false,eval e X.env),(false,eval f X.env)]
def IsD (H:Hp)(a:Addr):Prop:=(∃kvs,Rd H a (.dK kvs))\/ ∃kvs,Rd H a (.dT kvs)
theorem Om {pins:List (Addr×Obj)}{σ:St}(I:Inv X pins σ H s)(d:IsD H a):
 s.TypeIs (.ref a) "dict" /\(∀b,Value.ref a= .ref b-> ∃ob,s.heap.get? b=some ob/\ob.dict=none)/\(a==sysModules)=false:=by
 rcases d with ⟨kvs,e⟩|⟨kvs,e⟩
 ·obtain⟨_,hd,vs,_,dd⟩:=Ps I.hok e;refine⟨dd.typeIs,λb q=> ?_,hd⟩;cases q;obtain⟨ob,_,_,h1,h2,_⟩:=dd;exact⟨ob,h1,h2.2.1⟩
 ·obtain⟨_,hd,xs,_,dd⟩:=BW I.hok e;refine⟨dd.typeIs,λb q=> ?_,hd⟩;cases q;obtain⟨ob,_,_,h1,h2,_⟩:=dd;exact⟨ob,h1,h2.2.1⟩
def wH (names:List (Str×NameKind))(env:Env)(cs:List (Str×Addr)):List (Str×Addr):=
 names.foldl (λcs p=>if p.2= .free then (match env.cells.lookup p.1 with|some c=>(p.1,c)::cs|none=>cs) else cs) cs
theorem zJ (p:Str×NameKind)(l:List (Str×NameKind))(env:Env)(cs:List (Str×Addr)):
 wH (p::l) env cs=wH l env (if p.2= .free then (match env.cells.lookup p.1 with|some c=>(p.1,c)::cs|none=>cs) else cs):=rfl
theorem ZS {f:Str×NameKind->List (Str×Addr)->Sem (ForInStep (List (Str×Addr)))}
 (h1: ∀p cs,p.2≠ .free->f p cs=pure (.yield cs))(h2: ∀p cs c,p.2= .free->env.cells.lookup p.1=some c->f p cs=pure (.yield ((p.1,c)::cs))):
 ∀ (l:List (Str×NameKind)) (cs:List (Str×Addr)),(∀p∈l,p.2= .free-> ∃c,env.cells.lookup p.1=some c)->forIn l cs f=pure (wH l env cs)
 | [],cs,_=>rfl
 |p::l,cs,h=>by
  have ih:=ZS h1 h2 l
  by_cases hp:p.2= .free
  ·obtain⟨c,hc⟩:=h p D7 hp;rw [G0b,h2 p cs c hp hc,pure_bind];show forIn l ((p.1,c)::cs) f=_;rw [ih _ λq hq=>h q (R1 _ hq),zJ,if_pos hp,hc]
  ·rw [G0b,h1 p cs hp,pure_bind];show forIn l cs f=_;rw [ih _ λq hq=>h q (R1 _ hq),zJ,if_neg hp]
variable {scope:Scope}
theorem YE (h: ∀p∈scope.names,p.2= .free-> ∃c,env.cells.lookup p.1=some c):closureFor scope env=pure (wH scope.names env []):=by
 simp only [closureFor];rw [ZS (env:=env) (λp cs hp=> ?_) (λp cs c hp hc=> ?_) _ _ h]
 ·rfl
 ·obtain⟨n,k⟩:=p;have hb:(k==NameKind.free)=false:=by simpa using hp
  simp only [hb,Bool.false_eq_true,G1f]
 ·obtain⟨n,k⟩:=p;have hb:(k==NameKind.free)=true:=by simpa using hp
  have hc':env.cells.lookup n=some c:=hc;simp only [hb,if_true,cellOf,hc',pure_bind]
theorem ZT: ∀ (l:List (Str×NameKind)) (cs:List (Str×Addr)),(∀p∈cs,env.cells.lookup p.1=some p.2)-> ∀p∈wH l env cs,env.cells.lookup p.1=some p.2
 | [],cs,h,p,hp=>h p hp
 |q::l,cs,h,p,hp=>by
  rw [zJ] at hp;refine ZT l _ (λr hr=> ?_) p hp
  by_cases hq:q.2= .free
  ·rw [if_pos hq] at hr;cases e:env.cells.lookup q.1 with
   |none=>rw [e] at hr;exact h r hr
   |some c=>
    rw [e] at hr;rcases D0.mp hr with rfl|hr
    ·exact e
    ·exact h r hr
  ·rw [if_neg hq] at hr;exact h r hr
theorem ZU: ∀ (l:List (Str×NameKind)) (cs:List (Str×Addr)),∀p∈cs,p∈wH l env cs
 | [],cs,p,hp=>hp
 |q::l,cs,p,hp=>by
  rw [zJ];refine ZU l _ p ?_
  by_cases hq:q.2= .free
  ·rw [if_pos hq];cases e:env.cells.lookup q.1 with
   |none=>exact hp
   |some c=>exact R1 _ hp
  ·rw [if_neg hq];exact hp
variable {x:Str}
theorem ZV {c:Addr}(hc:env.cells.lookup x=some c): ∀ (l:List (Str×NameKind)) (cs:List (Str×Addr)),(x,NameKind.free)∈l->(x,c)∈wH l env cs
 |q::l,cs,h=>by
  rw [zJ];rcases D0.mp h with e|h
  ·subst e;rw [if_pos rfl,hc];exact ZU l _ _ D7
  ·exact ZV hc l _ h
theorem wd {α:Type}: ∀ {l:List (Str×α)} {x:Str} {c:α},l.lookup x=some c->(x,c)∈l
 | [],_,_,h=>by simp at h
 |(n,k)::r,x,c,h=>by
  rw [N2] at h;cases hx:x==n with
  |true=>
   rw [hx] at h;have e:x=n:=eq_of_beq hx;cases h;subst e;exact D7
  |false=>rw [hx] at h;exact R1 _ (wd h)
theorem Yf {α:Type}: ∀ {l:List (Str×α)} {x:Str} {c:α},(x,c)∈l-> ∃c',l.lookup x=some c'
 |(n,k)::r,x,c,h=>by
  rw [N2];cases hx:x==n with
  |true=>exact⟨_,rfl⟩
  |false=>
   rcases D0.mp h with e|h
   ·cases e;simp at hx
   ·exact Yf h
theorem Yg {l:List (Str×NameKind)}{c:Addr}(h:(wH l env []).lookup x=some c):env.cells.lookup x=some c:=
 ZT l [] (λ_ z=>nomatch z) (x,c) (wd h)
theorem Pz {l:List (Str×NameKind)}{c:Addr}(hc:env.cells.lookup x=some c)(h:(x,NameKind.free)∈l):(wH l env []).lookup x=some c:=by
 obtain⟨c',e⟩:=Yf (ZV hc l [] h);have:=Yg e;rw [hc] at this;cases this;exact e
theorem wX {κ:Type}{f:Str×κ->Str×κ}{g:Str->κ->κ}(hf: ∀n k,f (n,k)=(n,g n k))(x:Str): ∀l:List (Str×κ),(l.map f).lookup x=(l.lookup x).map (g x)
 | []=>rfl
 |(n,k)::r=>by
  rw [S1,hf,N2,N2,wX hf x r];cases same:x==n with
  |false=>rfl
  |true=>rw [eq_of_beq same];rfl
theorem jM {names:List (Str×NameKind)}{k:NameKind}(found:
 (names.map λ(n,k)=>if (k==NameKind.free&&env.scope.kind== .function&&env.kindOf n==some .cell) then (n,NameKind.cell) else (n,k)).lookup x=some k):
  names.lookup x=some k\/names.lookup x=some .free:=by
 rw [wX (g:=λn k=>if (k==NameKind.free&&env.scope.kind== .function&&env.kindOf n==some .cell) then .cell else k) (λn k=>by dsimp only;split<;>rfl)] at found;obtain⟨k0,was,now⟩:=M6.mp found;split at now
 ·rename_i c;simp only [S5,V4] at c;exact .inr (by rw [was,c.1.1])
 ·exact .inl (by rw [was,now])
theorem zV: ∀ (names:List (Str×NameKind)) (n:Nat) (acc:List (Str×Addr)) (p:Str×Addr),p∈cellsFrom n names acc->p∈acc\/(n<=p.2/\(p.1,NameKind.cell)∈names)
 | [],_,_,_,h=> .inl h
 |(x,k)::r,n,acc,p,h=>by
  unfold cellsFrom at h;split at h
  ·rename_i hk;rcases zV r (n+1) _ p h with z|⟨z1,z2⟩
   ·rcases D0.mp z with e|z
    ·subst e;have:k= .cell:=by simpa using hk
     subst this;exact .inr ⟨G8 _,D7⟩
    ·exact .inl z
   ·exact .inr ⟨by omega,R1 _ z2⟩
  ·rcases zV r n acc p h with z|⟨z1,z2⟩
   ·exact .inl z
   ·exact .inr ⟨z1,R1 _ z2⟩
theorem jI: ∀ (names:List (Str×NameKind)) (n:Nat) (acc:List (Str×Addr)),cellsFrom n names acc=cellsFrom n names []++acc
 | [],_,_=>rfl
 |(x,k)::r,n,acc=>by
  unfold cellsFrom;split
  ·rw [jI r (n+1) ((x,n)::acc),jI r (n+1) [(x,n)],P0];rfl
  ·exact jI r n acc
theorem JC {α:Type}(l l':List (Str×α))(x:Str):(l++l').lookup x=(match l.lookup x with|some c=>some c|none=>l'.lookup x):=by
 induction l with
 |nil=>rfl
 |cons p l ih=>
  obtain⟨n,c⟩:=p;rw [B3,N2,N2];cases x==n with
  |true=>rfl
  |false=>exact ih
theorem vz {names:List (Str×NameKind)}(here:names.lookup x=some .cell):
 (names.map λ(n,k)=>if (k==NameKind.free&&env.scope.kind== .function&&env.kindOf n==some .cell) then (n,NameKind.cell) else (n,k)).lookup x=some .cell:=by
 rw [wX (g:=λn k=>if (k==NameKind.free&&env.scope.kind== .function&&env.kindOf n==some .cell) then .cell else k) (λn k=>by dsimp only;split<;>rfl),here];simp
section
variable {M:Model}{A:Around}{E:Value->Shared->Prop}{s:Shared}
theorem QX (h:Heap)(names:List (Str×NameKind)):(∀n c,(n,c)∈cellsFrom h.objs.size names []->(pushCells h names).IsCell c none/\h.objs.size<=c)/\(cellsFrom h.objs.size names []).Pairwise λx y=>x.2≠y.2:=
 have laid:=cellsFrom_ok names h h.objs.size [] ⟨by simp,.nil⟩ (G8 _)
 ⟨laid.empty,laid.apart⟩
theorem VJ {scope:Scope}{globals:Addr}{closure:List (Str×Addr)}{qual:Str}{func:Option Addr}{code:Value}{outer:Env}{builtins:Addr}{Q:Env->Shared->Prop}
 (hQ: ∀h',h'.Ns s.heap.objs.size (λ_=>none)->(∀b o,s.heap.get? b=some o->h'.get? b=some o)->(∀n c,(n,c)∈cellsFrom (s.heap.objs.size+1) scope.names []->h'.IsCell c none/\s.heap.objs.size+1<=c)->
  ((cellsFrom (s.heap.objs.size+1) scope.names []).Pairwise λx y=>x.2≠y.2)->
  Q (newEnv scope s.heap.objs.size globals (cellsFrom (s.heap.objs.size+1) scope.names closure) qual func code (some outer) builtins) {s with heap:=h'}):
 wpAny M A (newFunctionEnv scope globals closure [] qual func code (some outer) builtins) Q E s:=by
 have names:=QX (s.heap.push {cls:= .type "dict",data:= .dict #[]}) scope.names;have first:(s.heap.push {cls:= .type "dict",data:= .dict #[]}).objs.size=s.heap.objs.size+1:=Y0 ..
 rw [first] at names;unfold newFunctionEnv;refine wpAny_bind (wpAny_alloc (wpAny_bind (wpAny_layCells _ (λn k cs=>rfl) _ _ _ _ ?_)));simp only [Option.isSome_some,if_true];rw [first];exact wpAny_bind (P4 (P4 (hQ _ ((Heap.Ns.new _ _).keeps (pushCells_keeps _ _)) (λb o here=>pushCells_keeps _ _ b o (G3 _ here)) names.1 names.2)))
end
def jD (X:Cx)(scope:Scope)(C:Addr):List (Str×Addr):=cellsFrom (C+1) scope.names (wH scope.names X.env [])
def vA (X:Cx)(scope:Scope)(C:Addr)(s₀:Shared)(H₀:Hp)(ex:List Addr):Cx:=
 {X with s₀:=s₀,H₀:=H₀,env:=compEnvC scope (jD X scope C) C X.env,outer:=X.stack,ex:=ex,fn:=λx=>scope.names.lookup x==some .cell,pn:= [],xe:=λ_ _=>False}
def jt (X:Cx)(scope:Scope)(X':Cx):Prop:= ∃C s₀ H₀ ex,X'=vA X scope C s₀ H₀ ex
structure BlockOk (X:Cx)(scope:Scope)(js:List Nat):Prop where
 kind:scope.kind= .function
 locs: ∀p∈scope.names,p.2= .local->scope.names.lookup p.1=some .local
 cels: ∀p∈scope.names,p.2= .cell->scope.names.lookup p.1=some .cell
 free: ∀p∈scope.names,p.2= .free->X.env.scope.names.lookup p.1=some .cell\/X.env.scope.names.lookup p.1=some .free
 js: ∀ (i:Nat) (x:Str),X.N[i]? =some x->(scope.names.lookup x=some .local\/scope.names.lookup x=some .cell)->i∈js
variable {js:List Nat}
theorem wP (S:BlockOk X scope js){C:Addr}{x:Str}{c:Addr}(h:(jD X scope C).lookup x=some c):
 (scope.names.lookup x≠some .cell/\X.env.cells.lookup x=some c)\/(scope.names.lookup x=some .cell/\(x,c)∈cellsFrom (C+1) scope.names []):=by
 unfold jD at h;rw [jI,JC] at h;cases e:(cellsFrom (C+1) scope.names []).lookup x with
 |some d=>
  rw [e] at h;cases h;have m:=wd e;rcases zV _ _ _ _ m with z|⟨_,z⟩
  ·exact absurd z (by simp)
  ·exact .inr ⟨S.cels _ z rfl,m⟩
 |none=>
  rw [e] at h;refine .inl ⟨λz=> ?_,Yg h⟩;obtain⟨d,hd⟩:=yX (sc:=scope) (n:=C+1) z;rw [e] at hd;cases hd
theorem JZ (S:BlockOk X scope js){C:Addr}{x:Str}{c:Addr}(hc:X.env.cells.lookup x=some c)(h:(x,NameKind.free)∈scope.names)(hn:scope.names.lookup x≠some .cell):(jD X scope C).lookup x=some c:=by
 unfold jD;rw [jI,JC];cases e:(cellsFrom (C+1) scope.names []).lookup x with
 |some d=>
  rcases zV _ _ _ _ (wd e) with z|⟨_,z⟩
  ·exact absurd z (by simp)
  ·exact absurd (S.cels _ z rfl) hn
 |none=>exact Pz hc h
def zR:List Nat->St->St
 | [],σ=>σ
 |j::js,σ=>zR js (σ.set j none)
theorem Yh: ∀ (js:List Nat) (σ:St),(zR js σ).length=σ.length
 | [],_=>rfl
 |j::js,σ=>by rw [zR,Yh js];simp
theorem ZW: ∀ (js:List Nat) (σ:St) (i:Nat) (v:V),(zR js σ)[i]? =some (some v)->σ[i]? =some (some v)
 | [],_,_,_,h=>h
 |j::js,σ,i,v,h=>by
  have h1:=ZW js _ i v h
  by_cases e:i=j
  ·subst e;rw [X3] at h1;simp at h1
  ·rwa [N8 (Ne.symm e)] at h1
theorem zr: ∀ (js:List Nat) (σ:St) (i:Nat) (v:V),i∈js-> ¬ (zR js σ)[i]? =some (some v)
 |j::js,σ,i,v,hm,h=>by
  rcases D0.mp hm with rfl|hm
  ·have h1:=ZW js _ i v h;rw [X3] at h1;simp at h1
  ·exact zr js _ i v hm h
theorem HOk.track {h:Heap}{o:HO}(x:HOk P w H h)(hn:H a=none)(new:ObjOk P w (upd H a o) h a o):HOk P w (upd H a o) h:=λb u e=>by
 by_cases hb:b=a
 ·subst hb;rw [jl] at e;cases e;exact new
 ·rw [jh hb] at e;exact(x b u e).stay (λc v _ q=>q) (λc q=>by rw [jh (jj q hn)];exact q) λc xs q=>by rw [jh (jj q hn)];exact q
def Agree (σ σ':St):Prop:=σ'.length=σ.length/\ ∀ (i:Nat) (v:V),σ[i]? =some (some v)->σ'[i]? =some (some v)
theorem Agree.set {σ:St}{j:Nat}(v:V)(h: ∀u,¬σ[j]? =some (some u)):Agree σ (σ.set j (some v)):=⟨by simp,λi u q=>by
 by_cases e:j=i
 ·subst e;exact absurd q (h u)
 ·rw [N8 e];exact q⟩
theorem Agree.trans {a b c:St}(x:Agree a b)(y:Agree b c):Agree a c:=⟨y.1.trans x.1,λi v h=>y.2 i v (x.2 i v h)⟩
def PTs (X:Cx)(ifs:List Expr)(t:TT):Prop:=
 ∀ (pins:List (Addr×Obj)) (s:Shared) (σ:St) (H:Hp) (Q:Bool->Hp->Prop),Inv X pins σ H s->t σ H Q->
  wpAny (model X.prog X.w) X.A (forIn ifs true λc r=>if r=true then do let ok <-isTrue c X.env (eval c X.env);pure (ForInStep.yield ok) else pure (ForInStep.yield r)) (TP X pins σ Q) X.xe s
def TH:TT:=λ_ H Q=>Q true H
theorem BZ:PTs X [] TH:=λ_ _ _ H _ I h=>wpAny_tests_nil ⟨H,I,h⟩
theorem Ca {c:Expr}{t:TT}(hc:PT X c t):PTs X [c] t:=λpins s σ H Q I h=>wpAny_tests_one (hc pins s σ H Q I h)
def Yi (iter target:Expr)(ifs:List Expr)(it:Value)(env:Env)(act:Sem Unit)(nxt:Code):Sem PySem.Fin:=do
 standAt iter.pos
 match <-pyNext it with
 |none=>pure (.done .next)
 |some v=>
  letOwnedTupleGo target it v
  assign target env v
  let mut ok:=true
  for c in ifs do
   if ok then ok <-isTrue c env (eval c env)
  if ok then act
  again nxt
variable {elt iter:Expr}{ifs:List Expr}
theorem XT {A:Around}{R:Result->Shared->Prop}{target:Expr}{gens:List Comprehension}{depth:Nat}{it acc:Value}{act:Sem Unit}(I:Nat->Shared->Prop)
 (heq:compTurn (.ListComp elt gens scope pos) depth it acc env=Yi iter target ifs it env act (.compLoop (.ListComp elt gens scope pos) depth it acc env))
 (turn: ∀n s,I n s->wpAny (model prog w) A (pyNext it) (λr s₁=>match r with
  |none=>R (.ok .next) s₁
  |some v=>wpAny (model prog w) A (letOwnedTupleGo target it v) (λ_ s₁=>wpAny (model prog w) A (assign target env v) (λ_ s₂=>
   wpAny (model prog w) A (forIn ifs true λc r=>if r=true then do let ok <-PySem.isTrue c env (eval c env);pure (ForInStep.yield ok) else pure (ForInStep.yield r)) (λok s₃=>
    if ok=true then wpAny (model prog w) A act (λ_ s₅=> ∃m,m<n/\I m s₅) (λ_ _=>False) s₃
    else ∃m,m<n/\I m s₃) (λ_ _=>False) s₂) (λ_ _=>False) s₁) (λ_ _=>False) s₁) (λ_ _=>False) s)
 (n:Nat)(h:I n s):
 codeAny (model prog w) A (.compLoop (.ListComp elt gens scope pos) depth it acc env) R s:=by
 refine codeAny_loop rfl I (λn s hI=> ?_) n h;show wpAny _ A ((compTurn (.ListComp elt gens scope pos) depth it acc env).onRaise (λx=>do noteFrame x env;theTreesLotGoes x)) _ _ s;refine wpAny_noted ?_;rw [heq];unfold Yi;refine wpAny_bind (V9 (wpAny_bind (R5 (turn n s hI) (λr s₁ h₁=> ?_) λ_ _ h'=>h'.elim)));cases r with
 |none=>exact P4 h₁
 |some v=>
  refine wpAny_bind (R5 h₁ (λ_ s₁ h₁=> ?_) λ_ _ h'=>h'.elim);refine wpAny_bind (R5 h₁ (λ_ s₂ h₂=>wpAny_bind (R5 h₂ (λok s₃ h₃=> ?_) λ_ _ h'=>h'.elim)) λ_ _ h'=>h'.elim);cases ok with
  |false=>exact P4 ⟨rfl,h₃⟩
  |true=>exact wpAny_bind (R5 h₃ (λ_ s₅ h₅=>P4 ⟨rfl,h₅⟩) λ_ _ h'=>h'.elim)
abbrev TM:=St->Hp->List V->(List V->Hp->Prop)->Prop
def Eo (X:Cx)(D:Addr)(act:Sem Unit)(t:TM):Prop:=
 ∀ (pins:List (Addr×Obj)) (s:Shared) (σ:St) (H:Hp) (ys:List V) (us:List Value) (Q:List V->Hp->Prop),Inv X ([(D,LCg.lst us)]++pins) σ H s->Vals ys us->ys.length<=sizeLine->D∈X.ex->(∀x c,X.env.cells.lookup x=some c->c≠D)->(∀p∈X.pn++pins,p.1≠D)->t σ H ys Q->
  wpAny (model X.prog X.w) X.A act (λ_ s'=> ∃ys' us' H',Vals ys' us'/\Inv X ([(D,LCg.lst us')]++pins) σ H' s'/\Q ys' H') (λ_ _=>False) s
def On (te:TE):TM:=λσ H ys Q=>te σ H λy H1=>Q (ys++ [y]) H1
def Yj (elt:Expr)(env:Env)(acc:Value):Sem Unit:=do let _ <-call (.builtin "list.append") [acc,<-eval elt env]
variable {te:TE}
theorem YF {D:Addr}(hx:X.xe=λ_ _=>False)(he:PE X elt te):Eo X D (Yj elt X.env (.ref D)) (On te):=by
 intro pins s σ H ys us Q I hv hz DX cD pD h;have q:=he _ s σ H _ I h;rw [hx] at q;unfold Yj;refine wpAny_bind (R5 q (λy s1 ⟨yv,H1,I1,r1,q1⟩=> ?_) λ_ _ z=>z);have zD:=I1.pin (D,LCg.lst us) (P6 _ (T5 _ D7));refine wpAny_bind (append_at (its:=us.toArray) (n:=us.length) zD.1 (λh11 hs11 hD11=>P4 ?_) (by rw [P8,<-hv.length];exact hz));have I10u:Inv X pins σ H1 s1:=I1.pins_of λp hp=>I1.pin p (P6 _ (P6 _ hp))
 have I11:Inv X pins σ H1 {s1 with heap:=h11}:=I10u.turned (t':=s1.toks) (it:=D) (λb o hb e=>hs11.extBut b o hb e) zD.2.1 zD.2.2.1 (.inl DX) cD pD;have eD:h11.get? D=some (LCg.lst (us++ [y])):=by rw [hD11];exact congrArg some (LCg.lst_snoc us y)
 refine⟨ys++ [yv],us++ [y],H1,hv.append (.cons r1 .nil),I11.pins_of λp hp=> ?_,q1⟩;rcases P9.mp hp with z|z
 ·rcases G2.mp z with rfl
  exact⟨eD,zD.2.1,zD.2.2.1,zD.2.2.2.1,λv z=>by cases z⟩
 ·exact I11.pin p (P6 _ z)
def Ep (js : List Nat) (wi : TI) (g : TG) (tt : TT) (tm : TM) : TE := fun σ H Q => wi σ H fun J H1 =>
  ∃ W : Nat → Nat → List V → Hp → Prop, (∃ m, W 0 m [] H1) ∧ ∀ i m ys H, W i m ys H → ys.length ≤ sizeLine ∧
    ((J.stop i H ∧ ∀ p, H p = none → Q (.ref p) (upd H p (.lst ys))) ∨
     (J.go i H ∧ ∀ x H', J.yld i H x H' → g x (zR js σ) H' fun σ2 H2 => Agree (zR js σ) σ2 ∧ tt σ2 H2 fun b H3 =>
        if b = true then tm σ2 H3 ys fun ys' H4 => ∃ m', m' < m ∧ W (i + 1) m' ys' H4 else ∃ m', m' < m ∧ W (i + 1) m' ys H3))
def tLC (js:List Nat)(wi:TI)(g:TG)(tt:TT)(te:TE):TE:=Ep js wi g tt (On te)
variable {tg:Expr}{wi:TI}{g:TG}{tt:TT}
theorem NZ {e:Expr}{rest:List Comprehension}{pos0:Pos}{tm:TM}{use:Option (Value->Sem Unit)}{Qv:Value->Shared->Prop}(hc:X.calm=true)(S:BlockOk X scope js)(hi:PI X tg iter wi)
 (he0:e= .ListComp elt (⟨tg,iter,ifs,0⟩::rest) scope pos)
 (hg: ∀X',jt X scope X'->PG X' tg g)(ht: ∀X',jt X scope X'->PTs X' ifs tt)
 (act:Env->Value->Sem Unit)(hturn: ∀it acc env,compTurn e 0 it acc env=Yi iter tg ifs it env (act env acc) (.compLoop e 0 it acc env))(he: ∀X',jt X scope X'-> ∀D,Eo X' D (act X'.env (.ref D)) tm)
 (hs: ∀x,foldedSetIterable iter X.env x=pure x){pins:List (Addr×Obj)}{s:Shared}{σ:St}{H:Hp}{Q:VK}(I:Inv X pins σ H s)(h:Ep js wi g tt tm σ H Q)
 (fin: ∀ (D C:Addr) (H':Hp) (s':Shared) (m:Str->Option Value),s'.heap.Ns C m->(∀h',Heap.SameBut C s'.heap h'->Inv X pins σ H' {s' with heap:=h'})->H' C=none->C≠X.env.locals->C ∉ X.fs->X.s₀.heap.objs.size<=C->(∀x c,X.env.cells.lookup x=some c->c≠C)->(∀p∈X.pn++pins,p.1≠C)->
  Q (.ref D) H'->compPost (model X.prog X.w) X.A X.xe use Qv (.ref D) C (.ok .next) s'):
 wpAny (model X.prog X.w) X.A (comprehension e scope X.env pos0 (newList []) false (eval iter X.env) use) Qv X.xe s:=by
 have hclos:=YE (scope:=scope) (env:=X.env) (λp hp e=>I.ok.has p.1 (S.free p hp e));subst he0;refine wpAny_comprehension_free (use:=use) rfl hs hclos S.kind S.locs (thn (hi pins s σ H _ I h) λv s1 h1=>thn h1 λitv s2 h2=> ?_);obtain⟨it,fp,tn,J,H2,e,I2,T,st2,f2,W,⟨m0,w0⟩,turn⟩:=h2;subst e;refine J6 (VJ (λh₁ hns₁ hkp₁ hcl₁ hap₁=> ?_));dsimp only at hns₁ hkp₁ hcl₁ hap₁ ⊢;generalize hD:s2.heap.objs.size=D;generalize hH3:s2.heap.push {cls:= .type "list",dict:=none,data:= .seq ([]:List Value).toArray}=h3 at hns₁ hkp₁ hcl₁ hap₁ ⊢;have sz3:h3.objs.size=D+1:=by rw [<-hH3,Y0,hD]
 have up3: ∀b o,s2.heap.get? b=some o->h3.get? b=some o:=λb o e=>hH3 ▸ G3 _ e
 have I3:Inv X pins σ H2 {s2 with heap:=h3}:=I2.kept (t':=s2.toks) up3;have hD3:h3.get? D=some (LCg.lst []):=by rw [<-hH3,<-hD];exact D9 _ rfl
 have fD:GK X pins H2 D:=I2.fpOk (by rw [hD];exact G8 _) (I2.hok.fresh (by rw [hD];exact G8 _));have obf: ∀b∈fp,∃o,s2.heap.get? b=some o/\ ∀v,o.data≠ .cell v:=T.obj _ _ st2;have ltf: ∀b∈fp,b<D:=λb hb=>by obtain⟨o,e,_⟩:=obf b hb;rw [<-hD];exact P5 e
 generalize hC:h3.objs.size=C at hns₁ hcl₁ hap₁ ⊢;have CD:C=D+1:=hC.symm.trans sz3;have upC: ∀b o,h3.get? b=some o->h₁.get? b=some o:=hkp₁;generalize hX:vA X scope C {s2 with heap:=h3} H2 (fp++ [D])=X';have iX:jt X scope X':=⟨C,_,_,_,hX.symm⟩;have hf: ∀b∈fp++ [D],GK X pins H2 b:=λb hb=>(P9.mp hb).elim (f2 b) λz=>by rw [G2.mp z];exact fD
 have cl: ∀x c,(jD X scope C).lookup x=some c->X.env.cells.lookup x=some c\/C<c:=λx c e=>by
  rcases wP S e with ⟨_,z⟩|⟨_,z⟩
  ·exact .inl z
  ·exact .inr (X4 (hcl₁ x c z).2)
 have olt: ∀x c,X.env.cells.lookup x=some c->c<C:=λx c e=>by obtain⟨v,q⟩:=I3.cell x c e;rw [<-hC];exact q.lt
 have ltb: ∀b∈fp++ [D],b<C:=λb hb=>(P9.mp hb).elim (λz=>by have:=ltf b z;rw [CD];exact X5 this) λz=>by rw [G2.mp z,CD];exact F8 _
 have okX:X'.Ok:=by
  subst hX;refine⟨I.ok.mod,S.kind,I.ok.glob,I.ok.blt,E7 hC,λx y c e1 e2=> ?_,λx hx=> ?_,λx c z e=> ?_,I.ok.hd,I.ok.frames,.inl rfl,λb hb=>⟨R6 (ltb b hb),λx c e=>(cl x c e).elim (λz=>(hf b hb).2.2.2.2.1 x c z) λz=>O9 (Y5 (ltb b hb) z)⟩,
   I3.bs,R9 I.ok.bsz I3.sz,λb o e hb=> ?_,λb hb z=> ?_,I3.stack,I3.stkFree⟩
  ·rcases wP S e1 with ⟨_,z1⟩|⟨_,z1⟩<;>rcases wP S e2 with ⟨_,z2⟩|⟨_,z2⟩
   ·exact I.ok.inj x y c z1 z2
   ·exact absurd (Y5 (olt x c z1) (X4 (hcl₁ y c z2).2)) (M5 _)
   ·exact absurd (Y5 (olt y c z2) (X4 (hcl₁ x c z1).2)) (M5 _)
   ·exact name_of_addr hap₁ z1 z2
  ·have own:scope.names.lookup x=some .cell-> ∃c,(jD X scope C).lookup x=some c:=λz=>by
    obtain⟨c,hc⟩:=yX (sc:=scope) (n:=C+1) z;exact⟨c,by unfold jD;rw [jI,JC,hc]⟩
   have shr:scope.names.lookup x=some .free-> ∃c,(jD X scope C).lookup x=some c:=λz=>by
    have fm:=wd z;obtain⟨c,hc⟩:=I.ok.has x (S.free _ fm rfl);exact⟨c,JZ S hc fm (by rw [z];decide)⟩
   rcases hx with hx|hx
   ·rcases jM (env:=X.env) hx with z|z
    ·exact own z
    ·exact shr z
   ·rcases jM (env:=X.env) hx with z|z<;>exact shr z
  ·have z':scope.names.lookup x=some .cell:=by
    have z2:(scope.names.lookup x==some NameKind.cell)=true:=z;simpa using z2
   rcases wP S e with ⟨n,_⟩|⟨_,m⟩
   ·exact absurd z' n
   ·show h3.objs.size<=c;rw [hC];exact D5 (X4 (hcl₁ x c m).2)
  ·rcases (hf b hb).2.2.2.1 with z|z
   ·exact I.ok.noex b o e z
   ·exact absurd (D6 (P5 e) (R9 I.ok.bsz z)) (M5 _)
  ·rcases D0.mp (I.stkSub b z) with q|q
   ·exact(hf b hb).2.1 q
   ·exact(hf b hb).2.2.1 q
 -- the block's first state
 have I4:Inv X' [(D,LCg.lst [])] (zR js σ) H2 {s2 with heap:=h₁}:=by
  subst hX;have hDC:D≠C:=by rw [CD];exact R6 (F8 _)
  refine⟨okX,rfl,I2.bare,Un.kept (λb u e=>upC b u e),⟨_,hns₁,λi x v e1 e2 e3=> ?_⟩,λx c e=> ?_,I3.hok.fresh (E7 hC),λx c e=>(cl x c e).elim (λz=>I2.freeC x c z) (λz=>I3.hok.fresh (by rw [<-hC] at z;exact D5 z)),λp hp=> ?_,I3.hok.kept upC,(Yh js σ).trans I2.len⟩
  ·have fr:scope.names.lookup x=some .free:=by
    rcases e3 with e3|e3|e3
    ·rcases jM (env:=X.env) e3 with z|z
     ·exact absurd e2 (zr js σ i v (S.js i x e1 (.inl z)))
     ·exact z
    ·rcases jM (env:=X.env) e3 with z|z
     ·exact absurd e2 (zr js σ i v (S.js i x e1 (.inr z)))
     ·exact z
    ·rcases jM (env:=X.env) e3 with z|z<;>exact z
   have fm:=wd fr;obtain⟨m,hm,hl⟩:=I2.loc;have vis:=S.free _ fm rfl;obtain⟨u,r,lk⟩:=hl i x v e1 (ZW js σ i v e2) (.inr vis);have kd:(relabel scope X.env).names.lookup x=some .cell\/(relabel scope X.env).names.lookup x=some .free:=by
    rcases e3 with e3|e3|e3
    ·rcases jM (env:=X.env) e3 with z|z
     ·rw [fr] at z;cases z
     ·exfalso;have z2:=e3
      -- a local's kind stays
      exact absurd e2 (zr js σ i v (S.js i x e1 (.inl (by
       have q: ∀ (l:List (Str×NameKind)),(l.map λ(n,k)=>if (k==NameKind.free&&X.env.scope.kind== .function&&X.env.kindOf n==some .cell) then (n,NameKind.cell) else (n,k)).lookup x=some .local->l.lookup x=some .local:=by
        intro l
        induction l with
        |nil=>intro h;simp at h
        |cons p l ih=>
         obtain⟨n,k'⟩:=p;intro h;have h':List.lookup x ((if (k'==NameKind.free&&X.env.scope.kind== .function&&X.env.kindOf n==some .cell)=true then (n,NameKind.cell) else (n,k'))::(l.map λ(n,k)=>if (k==NameKind.free&&X.env.scope.kind== .function&&X.env.kindOf n==some .cell) then (n,NameKind.cell) else (n,k)))=some .local:=h;rw [N2]
         by_cases hc:(k'==NameKind.free&&X.env.scope.kind== .function&&X.env.kindOf n==some .cell)=true
         ·rw [if_pos hc,N2] at h';cases hx:x==n with
          |true=>rw [hx] at h';cases h'
          |false=>rw [hx] at h';exact ih h'
         ·rw [if_neg hc,N2] at h';cases hx:x==n with
          |true=>rw [hx] at h';exact h'
          |false=>rw [hx] at h';exact ih h'
       exact q _ z2))))
    ·exact .inl e3
    ·exact .inr e3
   rcases lk with ⟨k,_⟩|⟨_,c,hc,hcell⟩
   ·have k':X.env.scope.names.lookup x=some .local:=k;rcases vis with z|z<;>(rw [k'] at z;cases z)
   ·refine⟨u,r,.inr ⟨kd,c,JZ S hc fm (by rw [fr];decide),?_⟩⟩;obtain⟨o,ho,hd⟩:=hcell;exact⟨o,upC _ _ (up3 _ _ ho),hd⟩
  ·rcases wP S e with ⟨_,z⟩|⟨_,z⟩
   ·obtain⟨v,o,ho,hd⟩:=I2.cell x c z;exact⟨v,o,upC _ _ (up3 _ _ ho),hd⟩
   ·exact⟨none,(hcl₁ x c z).1⟩
  ·have hp':p∈ [(D,LCg.lst [])]:=hp;rcases G2.mp hp' with rfl
   refine⟨upC _ _ hD3,fD.1,hDC,λz=> ?_,λv z=>by cases z⟩;rcases D0.mp (I.stkSub D z) with q|q
   ·exact fD.2.1 q
   ·exact fD.2.2.1 q
 have st4:tn 0 h₁:=T.keep _ _ _ st2 λb _ o e=>upC _ _ (up3 _ _ e)
 have eA:X'.A=X.A:=by rw [<-hX];rfl
 have eP:X'.prog=X.prog:=by rw [<-hX];rfl
 have eW:X'.w=X.w:=by rw [<-hX];rfl
 have eK:X'.K=X.K:=by rw [<-hX];rfl
 have eC:X'.calm=true:=by rw [<-hX];exact hc
 have eV:X'.env=compEnvC scope (jD X scope C) C X.env:=by rw [<-hX];rfl
 have eE:X'.xe=λ_ _=>False:=by rw [<-hX];rfl
 -- what stays true of the iterator's objects
 have stat: ∀ {us:List Value} {H':Hp},(∀b∈fp,H' b=none)-> ∀b∈fp,GK X' [(D,LCg.lst us)] H' b:=λ{us H'} hn b hb=>by
  have q:=hf b (T5 _ hb);subst hX;refine⟨hn b hb,R6 (ltb b (T5 _ hb)),λz=> ?_,.inl (T5 _ hb),λx c e=>(cl x c e).elim (λz=>q.2.2.2.2.1 x c z) (λz=>O9 (Y5 (ltb b (T5 _ hb)) z)),λp hp=> ?_⟩
  ·rcases D0.mp (I.stkSub b z) with r|r
   ·exact q.2.1 r
   ·exact q.2.2.1 r
  ·have hp':p∈ [(D,LCg.lst us)]:=hp;rcases G2.mp hp' with rfl
   exact O9 (ltf b hb)
 have loop: ∀s₃:Shared,s₃= {s2 with heap:=h₁}->
  codeAny (model X.prog X.w) X.A (.compLoop (.ListComp elt (⟨tg,iter,ifs,0⟩::rest) scope pos) 0 (.ref it) (.ref D) (compEnvC scope (jD X scope C) C X.env))
   (compPost (model X.prog X.w) X.A X.xe use Qv (.ref D) C) s₃:=by
  rintro s₃ rfl;refine XT (act:=act (compEnvC scope (jD X scope C) C X.env) (.ref D)) (λn s'=> ∃i ys us H',Vals ys us/\Inv X' [(D,LCg.lst us)] (zR js σ) H' s'/\tn i s'.heap/\(∀b∈fp,H' b=none)/\W i n ys H') (hturn _ _ _) ?_ m0
   ⟨0,[],[],H2,.nil,I4,st4,λb hb=>(f2 b hb).1,w0⟩
  rintro n s5 ⟨i,ys,us,H5,hv5,I5,st5,fr5,w5⟩;obtain⟨hz,tr⟩:=turn i n ys H5 w5;rcases tr with ⟨stop,qn⟩|⟨go,step⟩
  ·have q:=T.done X' eP eW eK eC i _ s5 _ H5 (λ_ _=>False) I5 (stat fr5) st5 stop;rw [eA] at q;refine R5 q (λr s6 ⟨hr,I6⟩=> ?_) λ_ _ z=>z
   subst hr;obtain⟨m6,hm6,_⟩:=I6.loc;rw [eV] at hm6;have zD:=I6.pin (D,LCg.lst us) (P6 _ D7);have HD:H5 D=none:=zD.2.1;have oD:s6.heap.get? D=some (LCg.lst us):=zD.1;have hDC:D≠C:=by rw [CD];exact R6 (F8 _)
   have HC:H5 C=none:=by have z:=I6.free;rw [eV] at z;exact z
   have B:=I6.base;have os6:s6.os=s2.os:=by have z:=I6.os;rw [<-hX] at z;exact z
   have Bu:Un (frs X.stack) (fp++ [D]) H2 H5 h3 s6.heap:=by rw [<-hX] at B;exact B
   have neC: ∀b o,h3.get? b=some o->b≠C:=λb o e=>by rw [<-hC];exact R6 (P5 e)
   refine fin D C (upd H5 D (.lst ys)) s6 m6 hm6 (λh' hs'=> ?_) (by rw [jh (Ne.symm hDC)];exact HC) ?_ ?_ ?_ (λx c e=>R6 (olt x c e)) ?_ (qn D HD)
   ·have hk5:HOk X.prog X.w H5 h':=λb u e=>by
     have z:=I6.hok b u e;rw [eP,eW] at z;refine z.stay (λc v hc q=>hs'.extBut c v ?_ q) (λ_ q=>q) λ_ _ q=>q
     rcases hc with rfl|hc
     ·exact jj e HC
     ·exact jj hc HC
    refine I3.call' (ch:=fp++ [D]) os6 ⟨λb o e n hb hx=> ?_,λb o e n hb hx=> ?_,λb o e n hx=> ?_,λb o e hx=> ?_,λb xs e=> ?_,λb o u e=> ?_,λb ps e=> ?_⟩ (hk5.track HD ?_) I6.bare λb hb=> ?_
    ·exact hs'.extBut b o (neC b o e) (Bu.keep b o e n hb hx)
    ·obtain⟨sl,q⟩:=Bu.slot b o e n hb hx;exact⟨sl,hs'.extBut b _ (neC b o e) q⟩
    ·rw [jh λz=>hx (by rw [z];exact P6 _ D7)];exact Bu.free b o e n hx
    ·obtain⟨o',q⟩:=Bu.there b o e hx;exact⟨o',hs'.extBut b _ (neC b o e) q⟩
    ·have z:=Bu.tups b xs e;rw [jh (jj z HD)];exact z
    ·have z:=Bu.frzs b o u e;rw [jh (jj z HD)];exact z
    ·obtain⟨more,z⟩:=Bu.tbls b ps e;exact⟨more,by rw [jh (jj z HD)];exact z⟩
    ·exact⟨hz,us,us.length,hv5,hs'.extBut D _ hDC oD⟩
    ·have q:=hf b hb;exact⟨q.2.2.2.1,q.2.1,q.2.2.2.2.1,q.2.2.2.2.2⟩
   ·rw [<-hC];exact O9 I3.lt
   ·exact I3.nofs (E7 hC)
   ·rw [<-hC];exact I3.sz
   ·intro p hp;have:=(I3.pin p hp).1;rw [<-hC];exact R6 (P5 this)
  ·have q:=T.item X' eP eW eK eC i _ s5 _ H5 (λ_ _=>False) I5 (stat fr5) st5 go;rw [eA] at q;refine R5 q (λr s6 ⟨u,hr,h6⟩=> ?_) λ_ _ z=>z
   subst hr;refine R5 h6 (λ_ s7 ⟨x,H7,I7,r7,y7,st7,fr7⟩=> ?_) λ_ _ z=>z
   have I7':=I7.pinned (stat fr7) (T.obj _ _ st7);have q7:=hg X' iX _ s7 _ H7 x u _ I7' r7 (step x H7 y7);rw [eP,eW,eA,eV,eE] at q7;refine R5 q7 (λ_ s8 ⟨σ8,H8,I8,ag8,q8⟩=> ?_) λ_ _ z=>z
   have q9:=ht X' iX _ s8 σ8 H8 _ I8 q8;rw [eP,eW,eA,eV,eE] at q9;refine R5 q9 (λok s9 ⟨H9,I9,q9⟩=> ?_) λ_ _ z=>z
   have keepT: ∀ {σ':St} {H':Hp} {s':Shared} {us:List Value},Inv X' ([(D,LCg.lst us)]++vh fp s7.heap) σ' H' s'->tn (i+1) s'.heap/\ ∀b∈fp,H' b=none:=λ{σ' H' s' us} I'=>
    ⟨T.keep _ _ _ st7 λb hb o e=>(I'.pin (b,o) (P6 _ (P6 _ (wb hb e)))).1,λb hb=>by
     obtain⟨o,e,_⟩:=T.obj _ _ st7 b hb;exact(I'.pin (b,o) (P6 _ (P6 _ (wb hb e)))).2.1⟩
   cases ok with
   |false=>
    have q9: ∃m',m'<n/\W (i+1) m' ys H9:=q9;obtain⟨m',hm,w9⟩:=q9;obtain⟨t9,f9⟩:=keepT I9;exact⟨m',hm,i+1,ys,us,H9,hv5,(I9.unpinned).weak ag8.1.symm ag8.2,t9,f9,w9⟩
   |true=>
    have q9:tm σ8 H9 ys λys' H4=> ∃m',m'<n/\W (i+1) m' ys' H4:=q9
    have DX:D∈X'.ex:=by rw [<-hX];exact P6 _ D7
    have pD: ∀p∈X'.pn++vh fp s7.heap,p.1≠D:=λp hp=>by
     have hp':p∈vh fp s7.heap:=by rw [<-hX] at hp;simpa [vA] using hp
     exact R6 (ltf _ (ZK hp').1)
    have cD: ∀x c,X'.env.cells.lookup x=some c->c≠D:=λx c e=>by
     rw [eV] at e;exact(cl x c e).elim (λz=>fD.2.2.2.2.1 x c z) λz=>O9 (Y5 (by rw [CD];exact F8 _) z)
    have q10:=he X' iX D _ s9 σ8 H9 ys us _ I9 hv5 hz DX cD pD q9;rw [eP,eW,eA,eV] at q10;show wpAny _ _ (act _ _) _ _ s9;refine R5 q10 (λ_ s10 ⟨ys',us',H10,hv10,I10,m',hm,w10⟩=> ?_) λ_ _ z=>z
    obtain⟨t10,f10⟩:=keepT I10;exact⟨m',hm,i+1,ys',us',H10,hv10,(I10.unpinned).weak ag8.1.symm ag8.2,t10,f10,w10⟩
 exact codeAny_compStart_list (loop _ rfl) (T.self X.A 0 _ _ _ st4 (loop _ rfl))
theorem Oo (hc:X.calm=true)(S:BlockOk X scope js)(hi:PI X tg iter wi)
 (hg: ∀X',jt X scope X'->PG X' tg g)(ht: ∀X',jt X scope X'->PTs X' ifs tt)(he: ∀X',jt X scope X'->PE X' elt te)
 (hs: ∀x,foldedSetIterable iter X.env x=pure x:=by intro _;rfl):PE X (.ListComp elt [⟨tg,iter,ifs,0⟩] scope pos) (tLC js wi g tt te):=by
 intro pins s σ H Q I h;rw [eval_ListComp];exact NZ (use:=none) hc S hi rfl hg ht (Yj elt) (λ_ _ _=>rfl) (λX' hX D=>YF (by obtain⟨_,_,_,_,rfl⟩:=hX;rfl) (he X' hX)) hs I h
  λD C H' s' m hn hk _ _ _ _ _ _ q=>⟨m,hn,λh' hs'=>⟨.ref D,H',hk h' hs',rfl,q⟩⟩
theorem PB {e:Expr}{rest:List Comprehension}{pos' spos:Pos}{g':TG}{tm:TM}(hc:X.calm=true)(S:BlockOk X scope js)(hi:PI X tg iter wi)
 (he0:e= .ListComp elt (⟨tg,iter,ifs,0⟩::rest) scope pos)(hg: ∀X',jt X scope X'->PG X' tg g)(ht: ∀X',jt X scope X'->PTs X' ifs tt)
 (act:Env->Value->Sem Unit)(hturn: ∀it acc env,compTurn e 0 it acc env=Yi iter tg ifs it env (act env acc) (.compLoop e 0 it acc env))(he: ∀X',jt X scope X'-> ∀D,Eo X' D (act X'.env (.ref D)) tm)
 (hg':PG X (.Name x pos') g')(hsw:swapsWith e (some (.Name x pos')) spos.line X.env=pure true)
 (hs: ∀x,foldedSetIterable iter X.env x=pure x):PS X (.Assign [.Name x pos'] e spos) (NU (Ep js wi g tt tm) g'):=by
 intro pins s σ H Dn I h;rw [exec_Assign_Name_used _ _ _ _ hsw];refine wpAny_bind (V9 (wpAny_bind ?_));subst he0;rw [arm_evalThenUse_ListComp];show wpAny _ X.A (do let _ <-comprehension (.ListComp elt (⟨tg,iter,ifs,0⟩::rest) scope pos) scope X.env _ (newList []) false (eval iter X.env) (some (assign (.Name x pos') X.env))) _ _ s;refine wpAny_bind (R5 (NZ (use:=some (assign (.Name x pos') X.env)) (Qv:=λ_ s'=>SP X pins Dn .next s') hc S hi rfl hg ht act hturn he hs I h ?_) (λ_ s' hq=>P4 (P4 hq)) λ_ _ e=>e);intro D C H' s' m hn hk HC nL nf sz ncell npin q;show wpAny _ X.A (assign (.Name x pos') X.env (.ref D)) _ _ s';obtain⟨o,es,ep,ho,hd,hr⟩:=id hn;have I1:Inv X pins σ H' s':=hk s'.heap (Heap.SameBut.refl ..);have I2:Inv X (pins++ [(C,o)]) σ H' s':=I1.pins_of λp hp=>by
  rcases P9.mp hp with z|z
  ·exact I1.pin p (P6 _ z)
  ·rcases G2.mp z with rfl
   exact⟨ho,HC,nL,nf,λv z=>by rw [hd] at z;cases z⟩
 refine R5 (hg' _ s' σ H' (.ref D) (.ref D) _ I2 rfl q) (λ_ s3 ⟨σ3,H3,I3,q3⟩=> ?_) λ_ _ z=>z
 have pC:=I3.pin (C,o) (P6 _ (P6 _ D7));refine⟨m,hn.at' λo' e'=> ?_,λh' hs'=> ?_⟩
 ·rw [ho] at e';cases e';exact pC.1
 ·exact⟨σ3,H3,(I3.unpinned).turned (t':=s3.toks) (it:=C) (λb o hb e=>hs'.extBut b o hb e) pC.2.1 nL (.inr sz) ncell npin,q3⟩
theorem Mz {pos' spos:Pos}{g':TG}(hc:X.calm=true)(S:BlockOk X scope js)(hi:PI X tg iter wi)
 (hg: ∀X',jt X scope X'->PG X' tg g)(ht: ∀X',jt X scope X'->PTs X' ifs tt)(he: ∀X',jt X scope X'->PE X' elt te)
 (hg':PG X (.Name x pos') g')(hsw:swapsWith (.ListComp elt [⟨tg,iter,ifs,0⟩] scope pos) (some (.Name x pos')) spos.line X.env=pure true)
 (hs: ∀x,foldedSetIterable iter X.env x=pure x:=by intro _;rfl):PS X (.Assign [.Name x pos'] (.ListComp elt [⟨tg,iter,ifs,0⟩] scope pos) spos) (NU (tLC js wi g tt te) g'):=
 PB hc S hi rfl hg ht (Yj elt) (λ_ _ _=>rfl) (λX' hX D=>YF (by obtain⟨_,_,_,_,rfl⟩:=hX;rfl) (he X' hX)) hg' hsw hs
def PC (e iter:Expr)(env:Env)(acc:Value):Sem Unit:=do
 let x <-eval iter env
 standAt iter.pos
 let x <-foldedSetIterable iter env x
 let _ <-runOwn (.compStart e 1 (<-holding [x] (pyIter x)) acc env) env
def mIn (wi : TI) (g : TG) (tt : TT) (tm : TM) : TM := fun σ H ys Q => wi σ H fun J H1 =>
  ∃ W : Nat → Nat → List V → Hp → Prop, (∃ m, W 0 m ys H1) ∧ ∀ i m ys H, W i m ys H → ys.length ≤ sizeLine ∧
    ((J.stop i H ∧ Q ys H) ∨
     (J.go i H ∧ ∀ x H', J.yld i H x H' → g x σ H' fun σ2 H2 => Agree σ σ2 ∧ tt σ2 H2 fun b H3 =>
        if b = true then tm σ2 H3 ys fun ys' H4 => ∃ m', m' < m ∧ W (i + 1) m' ys' H4 else ∃ m', m' < m ∧ W (i + 1) m' ys H3))
theorem vU {A:Around}{R:Result->Shared->Prop}{g0 g1:Comprehension}{it acc:Value}(ha:g1.is_async=0)
 (h0:codeAny (model prog w) A (.compLoop (.ListComp elt [g0,g1] scope pos) 1 it acc env) R s)
 (h:wpAny (model prog w) A (pyIter it) (λit' s'=>codeAny (model prog w) A (.compLoop (.ListComp elt [g0,g1] scope pos) 1 it' acc env) R s')
  (notedBy (model prog w) A env λx s'=>R (.error x) s') s):
 codeAny (model prog w) A (.compStart (.ListComp elt [g0,g1] scope pos) 1 it acc env) R s:=by
 obtain⟨tg,iter,ifs,as⟩:=g1;cases (show as=0 from ha);refine codeAny_of_tree (wpAny_notedAt ?_);obtain⟨hp,g,d,tk,os⟩:=s;unfold compStart
 wp_walk
 refine wpAny_askSetting ?_;split
 ·exact P4 ⟨rfl,h0⟩
 ·exact wpAny_bind (G0u (wpAny_bind (V9 (wpAny_bind (R5 h (λ_ _ on=>P4 ⟨rfl,on⟩) λ_ _ x=>x)))))
theorem Cb {D:Addr}{g0:Comprehension}(hc:X.calm=true)(hx:X.xe=λ_ _=>False)
 (hi:PI X tg iter wi)(hg:PG X tg g)(ht:PTs X ifs tt)(he:PE X elt te)(hs: ∀x,foldedSetIterable iter X.env x=pure x):
 Eo X D (PC (.ListComp elt [g0,⟨tg,iter,ifs,0⟩] scope pos) iter X.env (.ref D)) (mIn wi g tt (On te)):=by
 intro pins s σ H ys us Q I hv hz DX cD pD h;have q:=hi _ s σ H _ I h;rw [hx] at q;unfold PC;refine wpAny_bind (R5 q (λv s1 h1=>wpAny_bind (V9 (wpAny_bind (wpAny_of_eq (hs v) (wpAny_bind (O1 (R5 h1 (λitv s2 h2=> ?_) λ_ _ z=>z))))))) λ_ _ z=>z);obtain⟨it,fp,tn,J,H2,e,I2,T,st2,f2,W,⟨m0,w0⟩,turn⟩:=h2;subst e;refine wpAny_bind (wpAny_runOwn ?_);have neD: ∀b∈fp,b≠D:=λb hb=>by
  have z:=(f2 b hb).2.2.2.2.2 (D,LCg.lst us) (P6 _ (T5 _ D7));exact Ne.symm z
 have stat: ∀ {us':List Value} {H':Hp},(∀b∈fp,H' b=none)-> ∀b∈fp,GK X ([(D,LCg.lst us')]++pins) H' b:=λ{us' H'} hn b hb=>by
  have q:=f2 b hb;refine⟨hn b hb,q.2.1,q.2.2.1,q.2.2.2.1,q.2.2.2.2.1,λp hp=> ?_⟩;rcases P9.mp hp with z|z
  ·exact q.2.2.2.2.2 p (T5 _ z)
  ·rcases P9.mp z with z|z
   ·rcases G2.mp z with rfl
    exact Ne.symm (neD b hb)
   ·exact q.2.2.2.2.2 p (P6 _ (P6 _ z))
 have loop:codeAny (model X.prog X.w) X.A (.compLoop (.ListComp elt [g0,⟨tg,iter,ifs,0⟩] scope pos) 1 (.ref it) (.ref D) X.env)
  (λr s'=>match r with| .ok f=>wpAny (model X.prog X.w) X.A (pure ()) (λ_ s'=> ∃ys' us' H',Vals ys' us'/\Inv X ([(D,LCg.lst us')]++pins) σ H' s'/\Q ys' H') (λ_ _=>False) s'| .error e=>cameBackBy (model X.prog X.w) X.A X.env (λ_ _=>False) e s') s2:=by
  refine XT (act:=Yj elt X.env (.ref D)) (λn s'=> ∃i ys us H',Vals ys us/\Inv X ([(D,LCg.lst us)]++pins) σ H' s'/\tn i s'.heap/\(∀b∈fp,H' b=none)/\W i n ys H') rfl ?_ m0
   ⟨0,ys,us,H2,hv,I2,st2,λb hb=>(f2 b hb).1,w0⟩
  rintro n s5 ⟨i,ys,us,H5,hv5,I5,st5,fr5,w5⟩;obtain⟨hz,tr⟩:=turn i n ys H5 w5;rcases tr with ⟨stop,qn⟩|⟨go,step⟩
  ·refine R5 (T.done X rfl rfl rfl hc i _ s5 _ H5 (λ_ _=>False) I5 (stat fr5) st5 stop) (λr s6 ⟨hr,I6⟩=> ?_) λ_ _ z=>z
   subst hr;exact P4 ⟨ys,us,H5,hv5,I6,qn⟩
  ·refine R5 (T.item X rfl rfl rfl hc i _ s5 _ H5 (λ_ _=>False) I5 (stat fr5) st5 go) (λr s6 ⟨u,hr,h6⟩=> ?_) λ_ _ z=>z
   subst hr;refine R5 h6 (λ_ s7 ⟨x,H7,I7,r7,y7,st7,fr7⟩=> ?_) λ_ _ z=>z
   have I7':=I7.pinned (stat fr7) (T.obj _ _ st7);have q7:=hg _ s7 _ H7 x u _ I7' r7 (step x H7 y7);rw [hx] at q7;refine R5 q7 (λ_ s8 ⟨σ8,H8,I8,ag8,q8⟩=> ?_) λ_ _ z=>z
   have q9:=ht _ s8 σ8 H8 _ I8 q8;rw [hx] at q9;refine R5 q9 (λok s9 ⟨H9,I9,q9⟩=> ?_) λ_ _ z=>z
   have keepT: ∀ {σ':St} {H':Hp} {s':Shared} {us:List Value},Inv X (([(D,LCg.lst us)]++pins)++vh fp s7.heap) σ' H' s'->tn (i+1) s'.heap/\ ∀b∈fp,H' b=none:=λ{σ' H' s' us} I'=>
    ⟨T.keep _ _ _ st7 λb hb o e=>(I'.pin (b,o) (P6 _ (P6 _ (wb hb e)))).1,λb hb=>by
     obtain⟨o,e,_⟩:=T.obj _ _ st7 b hb;exact(I'.pin (b,o) (P6 _ (P6 _ (wb hb e)))).2.1⟩
   cases ok with
   |false=>
    have q9: ∃m',m'<n/\W (i+1) m' ys H9:=q9;obtain⟨m',hm,w9⟩:=q9;obtain⟨t9,f9⟩:=keepT I9;exact⟨m',hm,i+1,ys,us,H9,hv5,(I9.unpinned).weak ag8.1.symm ag8.2,t9,f9,w9⟩
   |true=>
    have q9:On te σ8 H9 ys λys' H4=> ∃m',m'<n/\W (i+1) m' ys' H4:=q9
    have pD': ∀p∈X.pn++(pins++vh fp s7.heap),p.1≠D:=λp hp=>by
     rcases P9.mp hp with z|z
     ·exact pD p (T5 _ z)
     ·rcases P9.mp z with z|z
      ·exact pD p (P6 _ z)
      ·exact neD _ (ZK z).1
    rw [P0] at I9;have q10:=YF (D:=D) hx he (pins++vh fp s7.heap) s9 σ8 H9 ys us _ I9 hv5 hz DX cD pD' q9;show wpAny _ _ (Yj _ _ _) _ _ s9;refine R5 q10 (λ_ s10 ⟨ys',us',H10,hv10,I10,m',hm,w10⟩=> ?_) λ_ _ z=>z
    rw [<-P0] at I10;obtain⟨t10,f10⟩:=keepT I10;exact⟨m',hm,i+1,ys',us',H10,hv10,(I10.unpinned).weak ag8.1.symm ag8.2,t10,f10,w10⟩
 exact vU rfl loop (T.self X.A 0 _ _ _ st2 loop)
theorem Cc (elt iter tg iter' tg':Expr)(ifs ifs':List Expr)(scope:Scope)(pos:Pos)(it acc:Value)(env:Env):
 compTurn (.ListComp elt [⟨tg,iter,ifs,0⟩,⟨tg',iter',ifs',0⟩] scope pos) 0 it acc env=
  Yi iter tg ifs it env (PC (.ListComp elt [⟨tg,iter,ifs,0⟩,⟨tg',iter',ifs',0⟩] scope pos) iter' env acc) (.compLoop (.ListComp elt [⟨tg,iter,ifs,0⟩,⟨tg',iter',ifs',0⟩] scope pos) 0 it acc env):=by
 unfold Yi PC;simp only [bind_assoc,pure_bind];rfl
def TJ (js:List Nat)(wi:TI)(g:TG)(tt:TT)(wi':TI)(g':TG)(tt':TT)(te:TE):TE:=Ep js wi g tt (mIn wi' g' tt' (On te))
inductive D where
 |non|bl (b:Bool)|int (i:Int)|str (x:Str)|tup (ds:List D)|lst (a:Addr)|dic (x:Str) (i:Int)|dct (a:Addr)|scr (ns:List Int)|exc (C:Addr)|fn (a:Addr)
def Scr (K:PySem.W.Frag)(H:Hp)(a:Addr)(ns:List Int):Prop:=
 (∃o,H a=some (.frz o (.lst (ns.map V.int))))\/
  ∃ (o:Obj) (its:Array Value) (n:Nat),K.lookup a=some o/\o.cls= .type "list" /\o.dict=none/\o.data= .seq its n/\its.size<=sizeLine/\Vals (ns.map V.int) its.toList
theorem Scr.sq {K:PySem.W.Frag}{ns:List Int}(h:Scr K H a ns):SqL K H a (ns.map V.int):=h.elim (λz=> .inl (.inr z)) .inr
mutual
def RelD (K:PySem.W.Frag)(H:Hp):D->V->Prop
 | .non,v=>v= .non
 | .bl b,v=>v= .bl b
 | .int i,v=>v= .int i
 | .str x,v=>v= .str x
 | .tup ds,v=> ∃a vs,v= .ref a/\H a=some (.tup vs)/\RelDs K H ds vs
 | .lst a,v=>v= .ref a/\ ∃vs,H a=some (.lst vs)
 | .dic x i,v=> ∃a,v= .ref a/\H a=some (.dK [(Sum.inr x,V.int i)])
 | .dct a,v=>v= .ref a
 | .scr ns,v=> ∃a,v= .ref a/\Scr K H a ns
 | .exc C,v=> ∃x o vs,v= .ref x/\H x=some (.frz o (.own 0))/\o.cls= .ref C/\o.data= .fields vs
 | .fn a,v=>v= .ref a/\PySem.W.keepIn K (.ref a)=true
def RelDs (K:PySem.W.Frag)(H:Hp):List D->List V->Prop
 | [],vs=>vs= []
 |d::ds,vs=> ∃v r,vs=v::r/\RelD K H d v/\RelDs K H ds r
end
structure Kept (H H':Hp):Prop where
 tup: ∀a xs,H a=some (.tup xs)->H' a=some (.tup xs)
 lst: ∀a xs,H a=some (.lst xs)-> ∃ys,H' a=some (.lst ys)
 dic: ∀a x i,H a=some (.dK [(Sum.inr x,V.int i)])->H' a=some (.dK [(Sum.inr x,V.int i)])
 frz: ∀a o u,H a=some (.frz o u)->H' a=some (.frz o u)
theorem Kept.refl (H:Hp):Kept H H:=⟨λ_ _ h=>h,λ_ xs h=>⟨xs,h⟩,λ_ _ _ h=>h,λ_ _ _ h=>h⟩
theorem Kept.trans {A B C:Hp}(x:Kept A B)(y:Kept B C):Kept A C:=
 ⟨λa xs h=>y.tup a xs (x.tup a xs h),λa xs h=>let ⟨_,e⟩:=x.lst a xs h;y.lst a _ e,λa k i h=>y.dic a k i (x.dic a k i h),λa o u h=>y.frz a o u (x.frz a o u h)⟩
theorem Kept.new {H:Hp}{p:Addr}{o:HO}(h:H p=none):Kept H (upd H p o):=
 ⟨λa xs e=>by rw [jh (jj e h)];exact e,λa xs e=>⟨xs,by rw [jh (jj e h)];exact e⟩,λa k i e=>by rw [jh (jj e h)];exact e,λa o u e=>by rw [jh (jj e h)];exact e⟩
theorem Kept.put {H:Hp}{p:Addr}{xs ys:List V}(h:H p=some (.lst xs)):Kept H (upd H p (.lst ys)):=
 ⟨λa zs e=>by rw [jh (QM e h (by intro z;cases z))];exact e,λa zs e=>by
  by_cases q:a=p
  ·subst q;exact⟨ys,jl⟩
  ·exact⟨zs,by rw [jh q];exact e⟩,
  λa k i e=>by rw [jh (QM e h (by intro z;cases z))];exact e,λa o u e=>by rw [jh (QM e h (by intro z;cases z))];exact e⟩
def DObj (o:HO):Prop:=(∃kvs:List (Int×V),o= .dK (kvs.map λp=>((Sum.inl p.1:Key),p.2)))\/ ∃φ,o= .ext φ
theorem DObj.no {o:HO}(d:DObj o):(∀xs,o≠ .tup xs)/\(∀xs,o≠ .lst xs)/\(∀x i,o≠ .dK [(Sum.inr x,V.int i)])/\(∀p u,o≠ .frz p u)/\ ∀ps,o≠ .tbl ps:=by
 rcases d with ⟨kvs,rfl⟩|⟨φ,rfl⟩
 ·refine⟨λ_ z=>(nomatch z),λ_ z=>(nomatch z),λx i z=> ?_,λ_ _ z=>(nomatch z),λ_ z=>(nomatch z)⟩;injection z with z
  cases kvs with
  |nil=>cases z
  |cons p r=>injection z with z _;injection z with z _;cases z
 ·exact⟨λ_ z=>(nomatch z),λ_ z=>(nomatch z),λ_ _ z=>(nomatch z),λ_ _ z=>(nomatch z),λ_ z=>(nomatch z)⟩
theorem Kept.putD {H:Hp}{p:Addr}{o o':HO}(h:H p=some o)(d:DObj o):Kept H (upd H p o'):=by
 obtain⟨d1,d2,d3,d4,_⟩:=d.no;have ne: ∀ {a:Addr} {u:HO},H a=some u->o≠u->a≠p:=λe n z=>by subst z;rw [h] at e;injection e with e;exact n e
 exact⟨λa xs e=>by rw [jh (ne e (d1 xs))];exact e,λa xs e=>⟨xs,by rw [jh (ne e (d2 xs))];exact e⟩,λa x i e=>by rw [jh (ne e (d3 x i))];exact e,λa q u e=>by rw [jh (ne e (d4 q u))];exact e⟩
mutual
theorem RelD.mono {K:PySem.W.Frag}{H H':Hp}(k:Kept H H'): ∀ {d:D} {v:V},RelD K H d v->RelD K H' d v
 | .non,_,h=>h
 | .bl _,_,h=>h
 | .int _,_,h=>h
 | .str _,_,h=>h
 | .tup ds,v,h=>by
  obtain⟨a,vs,e,h1,h2⟩:=(show ∃a vs,v= .ref a/\H a=some (.tup vs)/\RelDs K H ds vs from h);exact⟨a,vs,e,k.tup _ _ h1,RelDs.mono k h2⟩
 | .lst a,v,h=>by
  obtain⟨e,vs,h1⟩:=(show v= .ref a/\ ∃vs,H a=some (.lst vs) from h);exact⟨e,k.lst _ _ h1⟩
 | .dic x i,v,h=>by
  obtain⟨a,e,h1⟩:=(show ∃a,v= .ref a/\H a=some (.dK [(Sum.inr x,V.int i)]) from h);exact⟨a,e,k.dic _ _ _ h1⟩
 | .dct a,v,h=>h
 | .scr ns,v,h=>by
  obtain⟨a,e,h1⟩:=(show ∃a,v= .ref a/\Scr K H a ns from h);exact⟨a,e,h1.elim (λ⟨o,z⟩=> .inl ⟨o,k.frz _ _ _ z⟩) .inr⟩
 | .exc C,v,h=>by
  obtain⟨x,o,vs,e,h1,r⟩:=(show ∃x o vs,v= .ref x/\H x=some (.frz o (.own 0))/\o.cls= .ref C/\o.data= .fields vs from h);exact⟨x,o,vs,e,k.frz _ _ _ h1,r⟩
 | .fn a,v,h=>h
theorem RelDs.mono {K:PySem.W.Frag}{H H':Hp}(k:Kept H H'): ∀ {ds:List D} {vs:List V},RelDs K H ds vs->RelDs K H' ds vs
 | [],_,h=>h
 |d::ds,vs,h=>by
  obtain⟨v,r,e,h1,h2⟩:=(show ∃v r,vs=v::r/\RelD K H d v/\RelDs K H ds r from h);exact⟨v,r,e,RelD.mono k h1,RelDs.mono k h2⟩
end
section
variable {K:PySem.W.Frag}{H:Hp}
theorem RelDs.nil:RelDs K H [] []:=rfl
theorem RelDs.cons {d:D}{v:V}{ds:List D}{vs:List V}(h:RelD K H d v)(t:RelDs K H ds vs):RelDs K H (d::ds) (v::vs):=⟨v,vs,rfl,h,t⟩
theorem RelDs.length: ∀ {ds:List D} {vs:List V},RelDs K H ds vs->ds.length=vs.length
 | [],_,h=>by cases (show _= [] from h);rfl
 |d::ds,vs,h=>by
  obtain⟨v,r,e,_,h2⟩:=(show ∃v r,vs=v::r/\RelD K H d v/\RelDs K H ds r from h);subst e;simp [RelDs.length h2]
theorem RelDs.append: ∀ {ds es:List D} {vs us:List V},RelDs K H ds vs->RelDs K H es us->RelDs K H (ds++es) (vs++us)
 | [],_,_,_,h,g=>by cases (show _= [] from h);exact g
 |d::ds,es,vs,us,h,g=>by
  obtain⟨v,r,e,h1,h2⟩:=(show ∃v r,vs=v::r/\RelD K H d v/\RelDs K H ds r from h);subst e;exact .cons h1 (RelDs.append h2 g)
theorem RelDs.get: ∀ {ds:List D} {vs:List V} {i:Nat} {d:D},RelDs K H ds vs->ds[i]? =some d-> ∃v,vs[i]? =some v/\RelD K H d v
 |d'::ds,vs,i,d,h,e=>by
  obtain⟨v,r,q,h1,h2⟩:=(show ∃v r,vs=v::r/\RelD K H d' v/\RelDs K H ds r from h);subst q;cases i with
  |zero=>simp at e;subst e;exact⟨v,rfl,h1⟩
  |succ i=>
   obtain⟨u,q1,q2⟩:=RelDs.get h2 (i:=i) (d:=d) (by simpa using e);exact⟨u,by simpa using q1,q2⟩
theorem RelDs.take (n:Nat): ∀ {ds:List D} {vs:List V},RelDs K H ds vs->RelDs K H (ds.take n) (vs.take n):=by
 induction n with
 |zero=>intro ds vs _;exact(rfl:RelDs K H [] [])
 |succ n ih=>
  intro ds vs h;cases ds with
  |nil=>cases (show vs= [] from h);exact .nil
  |cons d ds=>
   obtain⟨v,r,e,h1,h2⟩:=(show ∃v r,vs=v::r/\RelD K H d v/\RelDs K H ds r from h);subst e;exact .cons h1 (ih h2)
theorem RelDs.drop (n:Nat): ∀ {ds:List D} {vs:List V},RelDs K H ds vs->RelDs K H (ds.drop n) (vs.drop n):=by
 induction n with
 |zero=>intro ds vs h;exact h
 |succ n ih=>
  intro ds vs h;cases ds with
  |nil=>cases (show vs= [] from h);exact .nil
  |cons d ds=>
   obtain⟨v,r,e,h1,h2⟩:=(show ∃v r,vs=v::r/\RelD K H d v/\RelDs K H ds r from h);subst e;exact ih h2
theorem RelDs.set {d:D}{v:V}(q:RelD K H d v): ∀ {ds:List D} {vs:List V} (i:Nat),RelDs K H ds vs->RelDs K H (ds.set i d) (vs.set i v)
 | [],_,_,h=>by cases (show _= [] from h);exact .nil
 |e::ds,vs,i,h=>by
  obtain⟨u,r,z,h1,h2⟩:=(show ∃u r,vs=u::r/\RelD K H e u/\RelDs K H ds r from h);subst z;cases i with
  |zero=>exact .cons q h2
  |succ i=>exact .cons h1 (RelDs.set q i h2)
theorem yY: ∀ns:List Int,RelDs K H (ns.map D.int) (ns.map V.int)
 | []=> .nil
 |n::ns=> .cons rfl (yY ns)
end
inductive DC where
 |ik (kv:List (Int×D))
 |tk (kv:List (List (List Int)×D))
structure HD where
 ls:Addr->Option (List D)
 dc:Addr->Option DC
instance:CoeFun HD λ_=>Addr->Option (List D):=⟨HD.ls⟩
def we (h:HD)(a:Addr)(ds:List D):HD:=⟨λb=>if b=a then some ds else h b,h.dc⟩
def WP (h:HD)(a:Addr):HD:=⟨λb=>if b=a then none else h b,h.dc⟩
theorem jd {h:HD}{a:Addr}{ds:List D}:we h a ds a=some ds:=if_pos rfl
theorem wg {h:HD}{a b:Addr}{ds:List D}(e:b≠a):we h a ds b=h b:=if_neg e
theorem zK {h:HD}{a:Addr}{ds:List D}(e:h a=none):WP (we h a ds) a=h:=by
 obtain⟨l,d⟩:=h;refine congrArg (HD.mk · d) ?_
 funext b
 show (if b=a then none else if b=a then some ds else l b)=l b
 by_cases q:b=a
 ·subst q;rw [if_pos rfl];exact e.symm
 ·rw [if_neg q,if_neg q]
def LN:List Str:= ["law","_law_right","_law_words","_law_other_words","_law_many_right","_law_all","_law_told_row","_law_all_right","_law_desk_right","_law_signs_right","_law_lists_right","_law_text_right"]
def TabK (K:PySem.W.Frag)(P:Addr):Prop:= ∃x∈LN,∃c,PySem.W.tabIn K x=some (c,P)
def CodesOk (H:Hp)(ps:Array Value):Prop:=TriplesOk ps.toList/\ ∀pos cv,codeAmong pos ps.toList=some cv-> ∃ (c:Addr) (o:Obj) (vs:Array Value) (q:Str) (t:Tok),cv= .ref c/\H c=some (.frz o (.own 0))/\o.data= .fields vs/\vs[1]? =some (.str q t)
def CTabs (K:PySem.W.Frag)(H:Hp):Prop:= ∀P,TabK K P-> ∃ps,H P=some (.tbl ps)/\CodesOk H ps
theorem CodesOk.mono {H H':Hp}{ps:Array Value}(k: ∀a o u,H a=some (.frz o u)->H' a=some (.frz o u))(c:CodesOk H ps):CodesOk H' ps:=
 ⟨c.1,λpos cv e=>let ⟨c',o,vs,q,t,e1,e2,r⟩:=c.2 pos cv e;⟨c',o,vs,q,t,e1,k _ _ _ e2,r⟩⟩
theorem CTabs.mono {K:PySem.W.Frag}{H H':Hp}(x:CTabs K H)(k: ∀a o u,H a=some (.frz o u)->H' a=some (.frz o u))(kt: ∀a ps,H a=some (.tbl ps)->H' a=some (.tbl ps)):CTabs K H':=λP hP=>
 let ⟨ps,e,c⟩:=x P hP;⟨ps,kt _ _ e,c.mono k⟩
theorem CTabs.new {K:PySem.W.Frag}{H:Hp}{p:Addr}{o:HO}(x:CTabs K H)(e:H p=none):CTabs K (upd H p o):=
 x.mono (λa o' u h=>by rw [jh (jj h e)];exact h) λa ps h=>by rw [jh (jj h e)];exact h
theorem CTabs.put {K:PySem.W.Frag}{H:Hp}{p:Addr}{o:HO}{xs:List V}(x:CTabs K H)(e:H p=some (.lst xs)):CTabs K (upd H p o):=
 x.mono (λa o' u h=>by rw [jh (QM h e (by intro z;cases z))];exact h) λa ps h=>by rw [jh (QM h e (by intro z;cases z))];exact h
def Cd (T:List (List Int)):Int:=reduceHash (Builtin.Tuple.tupleHashOf (T.map λr=>reduceHash (Builtin.Tuple.tupleHashOf (r.map hashInt))))
def Hq (a:Addr)(xs:List (List (List Int)×Addr×V)):HO:= .ext λh=>(a==sysModules)=false/\xs.length<=sizeLine/\ ∃ys:List (List (List Int)×Addr×Value),Paired (λp q=>p.1=q.1/\p.2.1=q.2.1/\RelV p.2.2 q.2.2) xs ys/\
 ∃o es ep,h.get? a=some o/\o.ExactDict/\o.data= .dict es ep/\es.toList=ys.map λx=>⟨Cd x.1,.ref x.2.1,x.2.2⟩
def DRel (K:PySem.W.Frag)(H:Hp)(a:Addr):DC->Prop
 | .ik kv=> ∃kvs:List (Int×V),H a=some (.dK (kvs.map λp=>((Sum.inl p.1:Key),p.2)))/\kv.map (·.1)=kvs.map (·.1)/\RelDs K H (kv.map (·.2)) (kvs.map (·.2))
 | .tk kv=> ∃xs:List (List (List Int)×Addr×V),H a=some (Hq a xs)/\(kv.map (·.1)).Nodup/\kv.map (·.1)=xs.map (·.1)/\(∀x∈xs,RelD K H (.tup (x.1.map λr=> .tup (r.map D.int))) (.ref x.2.1))/\RelDs K H (kv.map (·.2)) (xs.map (·.2.2))
theorem DRel.obj {K:PySem.W.Frag}{H:Hp}{a:Addr}: ∀ {c:DC},DRel K H a c-> ∃o,H a=some o/\DObj o
 | .ik _,⟨kvs,e,_⟩=>⟨_,e,.inl ⟨kvs,rfl⟩⟩
 | .tk _,⟨xs,e,_⟩=>⟨_,e,.inr ⟨_,rfl⟩⟩
theorem DRel.mono {K:PySem.W.Frag}{H H':Hp}{a:Addr}(k:Kept H H')(z: ∀o,H a=some o->H' a=some o): ∀ {c:DC},DRel K H a c->DRel K H' a c
 | .ik _,⟨kvs,e,q,r⟩=>⟨kvs,z _ e,q,r.mono k⟩
 | .tk _,⟨xs,e,n,q,t,r⟩=>⟨xs,z _ e,n,q,λx hx=>(t x hx).mono k,r.mono k⟩
structure RelH (K:PySem.W.Frag)(h:HD)(H:Hp):Prop where
 ls: ∀a ds,h a=some ds-> ∃vs,H a=some (.lst vs)/\RelDs K H ds vs
 tb:CTabs K H
 dc: ∀a c,h.dc a=some c->DRel K H a c
instance {K:PySem.W.Frag}{h:HD}{H:Hp}:CoeFun (RelH K h H) λ_=> ∀a ds,h a=some ds-> ∃vs,H a=some (.lst vs)/\RelDs K H ds vs:=⟨RelH.ls⟩
structure Sub (h h':HD):Prop where
 ls: ∀a ds,h a=some ds->h' a=some ds
 dc: ∀a c,h.dc a=some c->h'.dc a=some c
instance {h h':HD}:CoeFun (Sub h h') λ_=> ∀a ds,h a=some ds->h' a=some ds:=⟨Sub.ls⟩
theorem Sub.refl (h:HD):Sub h h:=⟨λ_ _ e=>e,λ_ _ e=>e⟩
theorem Sub.trans {a b c:HD}(x:Sub a b)(y:Sub b c):Sub a c:=⟨λd ds e=>y d ds (x d ds e),λd ds e=>y.dc d ds (x.dc d ds e)⟩
theorem Sub.drop (h:HD)(a:Addr):Sub (WP h a) h:=⟨λb ds e=>by
 have e:(if b=a then none else h b)=some ds:=e;split at e
 ·cases e
 ·exact e,λ_ _ e=>e⟩
theorem Sub.new {h:HD}{p:Addr}{ds:List D}(e:h p=none):Sub h (we h p ds):=⟨λa es q=>(by
 rw [wg];exact q;intro z;subst z;rw [e] at q;cases q),λ_ _ e=>e⟩
section
variable {K:PySem.W.Frag}{h h':HD}{H:Hp}
theorem RelH.sub (r:RelH K h H)(s:Sub h' h):RelH K h' H:=⟨λa ds e=>r a ds (s a ds e),r.tb,λa c e=>r.dc a c (s.dc a c e)⟩
theorem RelH.free (r:RelH K h H){p:Addr}(e:H p=none):h p=none:=by
 cases q:h p with
 |none=>rfl
 |some ds=>obtain⟨vs,z,_⟩:=r p ds q;rw [e] at z;cases z
theorem RelH.freeC (r:RelH K h H){p:Addr}(e:H p=none):h.dc p=none:=by
 cases q:h.dc p with
 |none=>rfl
 |some c=>obtain⟨o,z,_⟩:=(r.dc p c q).obj;rw [e] at z;cases z
theorem RelH.dcN (r:RelH K h H){p:Addr}{o:HO}(e:H p=none): ∀a c,h.dc a=some c->DRel K (upd H p o) a c:=λa c q=>
 (r.dc a c q).mono (.new e) λu z=>by rw [jh (jj z e)];exact z
theorem RelH.new (r:RelH K h H){p:Addr}{o:HO}(e:H p=none):RelH K h (upd H p o):=⟨λa ds q=>by
 obtain⟨vs,z,w⟩:=r a ds q;exact⟨vs,by rw [jh (jj z e)];exact z,w.mono (.new e)⟩,r.tb.new e,r.dcN e⟩
theorem RelH.newL (r:RelH K h H){p:Addr}{ds:List D}{vs:List V}(e:H p=none)(q:RelDs K H ds vs):RelH K (we h p ds) (upd H p (.lst vs)):=⟨λa es z=>by
 by_cases w:a=p
 ·subst w;rw [jd] at z;cases z;exact⟨vs,jl,q.mono (.new e)⟩
 ·rw [wg w] at z;obtain⟨us,z1,z2⟩:=r a es z;exact⟨us,by rw [jh w];exact z1,z2.mono (.new e)⟩,r.tb.new e,r.dcN e⟩
theorem RelH.put (r:RelH K h H){p:Addr}{ds:List D}{vs us:List V}(e:H p=some (.lst us))(q:RelDs K H ds vs):RelH K (we h p ds) (upd H p (.lst vs)):=⟨λa es z=>by
 by_cases w:a=p
 ·subst w;rw [jd] at z;cases z;exact⟨vs,jl,q.mono (.put e)⟩
 ·rw [wg w] at z;obtain⟨us,z1,z2⟩:=r a es z;exact⟨us,by rw [jh w];exact z1,z2.mono (.put e)⟩,r.tb.put e,λa c z=>(r.dc a c z).mono (.put e) λo w=>by
   obtain⟨u,w',d⟩:=(r.dc a c z).obj;rw [jh (QM w' e (d.no.2.1 _))];exact w⟩
end
def Ba (h:HD)(p:Addr)(c:DC):HD:=⟨h.ls,λb=>if b=p then some c else h.dc b⟩
theorem vV {h:HD}{p:Addr}{c:DC}:(Ba h p c).dc p=some c:=if_pos rfl
theorem YG {h:HD}{a p:Addr}{c:DC}(e:a≠p):(Ba h p c).dc a=h.dc a:=if_neg e
theorem Sub.newC {h:HD}{p:Addr}{c:DC}(e:h.dc p=none):Sub h (Ba h p c):=⟨λ_ _ e=>e,λa d q=>by
 rw [YG];exact q;intro z;subst z;rw [e] at q;cases q⟩
section
variable {K:PySem.W.Frag}{h:HD}{H:Hp}
theorem RelH.newC (r:RelH K h H){p:Addr}{o:HO}{c:DC}(e:H p=none)(d:DRel K (upd H p o) p c):RelH K (Ba h p c) (upd H p o):=⟨(r.new e).ls,r.tb.new e,λa k z=>by
 by_cases w:a=p
 ·subst w;rw [vV] at z;cases z;exact d
 ·rw [YG w] at z;exact r.dcN e a k z⟩
theorem RelH.putC (r:RelH K h H){p:Addr}{o o':HO}{c:DC}(e:H p=some o)(ob:DObj o)(d:DRel K (upd H p o') p c):RelH K (Ba h p c) (upd H p o'):=by
 obtain⟨d1,d2,d3,d4,d5⟩:=ob.no;have ne: ∀ {a:Addr} {u:HO},H a=some u->o≠u->a≠p:=λq n z=>by subst z;rw [e] at q;injection q with q;exact n q
 refine⟨λa ds z=> ?_,r.tb.mono (λa q u z=>by rw [jh (ne z (d4 q u))];exact z) (λa ps z=>by rw [jh (ne z (d5 ps))];exact z),λa k z=> ?_⟩
 ·obtain⟨vs,z1,z2⟩:=r a ds z;exact⟨vs,by rw [jh (ne z1 (d2 vs))];exact z1,z2.mono (.putD e ob)⟩
 ·by_cases w:a=p
  ·subst w;rw [vV] at z;cases z;exact d
  ·rw [YG w] at z;exact(r.dc a k z).mono (.putD e ob) λu q=>by rw [jh w];exact q
end
abbrev SD:=List (Option D)
def RelS (K:PySem.W.Frag)(H:Hp)(σd:SD)(σ:St):Prop:=σd.length=σ.length/\ ∀ (i:Nat) (d:D),σd[i]? =some (some d)-> ∃v,σ[i]? =some (some v)/\RelD K H d v
theorem RelS.mono {K:PySem.W.Frag}{H H':Hp}{σd:SD}{σ:St}(r:RelS K H σd σ)(k:Kept H H'):RelS K H' σd σ:=⟨r.1,λi d e=>let ⟨v,a,b⟩:=r.2 i d e;⟨v,a,b.mono k⟩⟩
theorem RelS.set {K:PySem.W.Frag}{H:Hp}{σd:SD}{σ:St}{d:D}{v:V}(r:RelS K H σd σ)(q:RelD K H d v)(i:Nat):RelS K H (σd.set i (some d)) (σ.set i (some v)):=⟨by simp [r.1],λj e h=>by
 by_cases z:i=j
 ·subst z;rw [X3] at h ⊢
  by_cases hl:i<σd.length
  ·rw [if_pos rfl,if_pos hl] at h;rw [if_pos rfl,if_pos (by rw [<-r.1];exact hl)];cases h;exact⟨v,rfl,q⟩
  ·rw [if_pos rfl,if_neg hl] at h;cases h
 ·rw [N8 z] at h ⊢;exact r.2 j e h⟩
theorem RelS.clear1 {K:PySem.W.Frag}{H:Hp}{σd:SD}{σ:St}(r:RelS K H σd σ)(i:Nat):RelS K H (σd.set i none) (σ.set i none):=⟨by simp [r.1],λj e h=>by
 by_cases z:i=j
 ·subst z;rw [X3] at h;split at h
  ·split at h<;>cases h
  ·contradiction
 ·rw [N8 z] at h ⊢;exact r.2 j e h⟩
def jF:List Nat->SD->SD
 | [],σ=>σ
 |j::js,σ=>jF js (σ.set j none)
theorem RelS.clear {K:PySem.W.Frag}{H:Hp}: ∀ (js:List Nat) {σd:SD} {σ:St},RelS K H σd σ->RelS K H (jF js σd) (zR js σ)
 | [],_,_,r=>r
 |j::js,_,_,r=>RelS.clear js (r.clear1 j)
abbrev KD:=D->HD->Prop
abbrev TED:=SD->HD->KD->Prop
abbrev TTD:=SD->HD->(Bool->HD->Prop)->Prop
abbrev TAD:=SD->HD->(List D->HD->Prop)->Prop
abbrev RD2:=D->D->HD->KD->Prop
abbrev RDn:=List D->HD->KD->Prop
structure EndsD where
 nx:SD->HD->Prop
 rt:KD
 bk:SD->HD->Prop:=λ_ _=>False
 ct:SD->HD->Prop:=λ_ _=>False
abbrev TSD:=EndsD->SD->HD->Prop
abbrev TGD:=D->SD->HD->(SD->HD->Prop)->Prop
def Bb (K:PySem.W.Frag)(H:Hp)(Qd:KD)(Q:VK):Prop:= ∀d v h' H',Kept H H'->RelH K h' H'->RelD K H' d v->Qd d h'->Q v H'
def LE (K:PySem.W.Frag)(t:TED):TE:=λσ H Q=> ∃σd h Qd,RelS K H σd σ/\RelH K h H/\t σd h Qd/\Bb K H Qd Q
def LT (K:PySem.W.Frag)(t:TTD):TT:=λσ H Q=> ∃σd h Qd,RelS K H σd σ/\RelH K h H/\t σd h Qd/\ ∀b h' H',Kept H H'->RelH K h' H'->Qd b h'->Q b H'
def LA (K:PySem.W.Frag)(t:TAD):TA:=λσ H Q=> ∃σd h Qd,RelS K H σd σ/\RelH K h H/\t σd h Qd/\ ∀ds vs h' H',Kept H H'->RelH K h' H'->RelDs K H' ds vs->Qd ds h'->Q vs H'
def LR (K:PySem.W.Frag)(f:RD2):R2:=λx y H Q=> ∃dx dy h Qd,RelD K H dx x/\RelD K H dy y/\RelH K h H/\f dx dy h Qd/\Bb K H Qd Q
def LC (K:PySem.W.Frag)(f:RDn):List V->Hp->VK->Prop:=λxs H Q=> ∃ds h Qd,RelDs K H ds xs/\RelH K h H/\f ds h Qd/\Bb K H Qd Q
def LG (K:PySem.W.Frag)(g:TGD):TG:=λv σ H Q=> ∃d σd h Qd,RelD K H d v/\RelS K H σd σ/\RelH K h H/\g d σd h Qd/\ ∀σd' h' σ' H',Kept H H'->RelS K H' σd' σ'->RelH K h' H'->Qd σd' h'->Q σ' H'
def LS (K:PySem.W.Frag)(t:TSD):TS:=λD₀ σ H=> ∃σd h Dd,RelS K H σd σ/\RelH K h H/\t Dd σd h/\
 (∀σd' h' σ' H',Kept H H'->RelS K H' σd' σ'->RelH K h' H'->Dd.nx σd' h'->D₀.nx σ' H')/\Bb K H Dd.rt D₀.rt/\
 (∀σd' h' σ' H',Kept H H'->RelS K H' σd' σ'->RelH K h' H'->Dd.bk σd' h'->D₀.bk σ' H')/\(∀σd' h' σ' H',Kept H H'->RelS K H' σd' σ'->RelH K h' H'->Dd.ct σd' h'->D₀.ct σ' H')
theorem PE.imp {X:Cx}{e:Expr}{t t':TE}(h:PE X e t)(i: ∀σ H Q,t' σ H Q->t σ H Q):PE X e t':=λpins s σ H Q I q=>h pins s σ H Q I (i σ H Q q)
theorem PT.imp {X:Cx}{e:Expr}{t t':TT}(h:PT X e t)(i: ∀σ H Q,t' σ H Q->t σ H Q):PT X e t':=λpins s σ H Q I q=>h pins s σ H Q I (i σ H Q q)
theorem PW.imp {X:Cx}{e:Expr}{t t':TT}(h:PW X e t)(i: ∀σ H Q,t' σ H Q->t σ H Q):PW X e t':=λwh pins s σ H Q I q=>h wh pins s σ H Q I (i σ H Q q)
theorem PA.imp {X:Cx}{e:List Expr}{t t':TA}(h:PA X e t)(i: ∀σ H Q,t' σ H Q->t σ H Q):PA X e t':=λpos pins s σ H Q I q=>h pos pins s σ H Q I (i σ H Q q)
theorem PS.imp {X:Cx}{e:Stmt}{t t':TS}(h:PS X e t)(i: ∀D σ H,t' D σ H->t D σ H):PS X e t':=λpins s σ H D I q=>h pins s σ H D I (i D σ H q)
theorem PSs.imp {X:Cx}{e:List Stmt}{t t':TS}(h:PSs X e t)(i: ∀D σ H,t' D σ H->t D σ H):PSs X e t':=λpins s σ H D I q=>h pins s σ H D I (i D σ H q)
theorem PG.imp {X:Cx}{e:Expr}{t t':TG}(h:PG X e t)(i: ∀v σ H Q,t' v σ H Q->t v σ H Q):PG X e t':=λpins s σ H v u Q I r q=>h pins s σ H v u Q I r (i v σ H Q q)
theorem OpR.imp {X:Cx}{f:Value->Value->Sem Value}{r r':R2}(h:OpR X f r)(i: ∀x y H Q,r' x y H Q->r x y H Q):OpR X f r':=λpins s σ H x y v u Q I a b q=>h pins s σ H x y v u Q I a b (i x y H Q q)
theorem CallR.imp {X:Cx}{f:Value}{r r':List V->Hp->VK->Prop}(h:CallR X f r)(i: ∀xs H Q,r' xs H Q->r xs H Q):CallR X f r':=λpins s σ H xs us Q I a q=>h pins s σ H xs us Q I a (i xs H Q q)
def GL (i:Nat):TED:=λσ h Q=> ∃d,σ[i]? =some (some d)/\Q d h
def dC (d:D):TED:=λ_ h Q=>Q d h
def dOp (f:RD2)(ta tb:TED):TED:=λσ h Q=>ta σ h λx h1=>tb σ h1 λy h2=>f x y h2 Q
def Zo:TAD:=λ_ h Q=>Q [] h
def jY (ta:TED)(tr:TAD):TAD:=λσ h Q=>ta σ h λx h1=>tr σ h1 λxs h2=>Q (x::xs) h2
def Op (t:TAD):TED:=λσ h Q=>t σ h λds h1=>ds.length<=sizeLine/\Q (.tup ds) h1
def Lc (t:TAD):TED:=λσ h Q=>t σ h λds h1=>ds.length<=sizeLine/\ ∀p,h1 p=none->Q (.lst p) (we h1 p ds)
def dCB (r:RDn)(t:TAD):TED:=λσ h Q=>t σ h λds h1=>r ds h1 Q
def Zp (t:TED):TTD:=λσ h Q=>t σ h λx h1=> ∃k,x= .bl k/\Q k h1
def ZX (r r':RD2)(ta tb tc:TED):TED:=λσ h Q=>ta σ h λx h1=>tb σ h1 λy h2=>r x y h2 λz h3=> ∃k,z= .bl k/\
 (if k=true then tc σ h3 λw h4=>r' y w h4 Q else Q (.bl false) h3)
def Ce (t u:TTD):TTD:=λσ h Q=>t σ h λc h1=>if c=true then u σ h1 Q else Q false h1
def Oq (t u:TTD):TTD:=λσ h Q=>t σ h λc h1=>if c=true then Q true h1 else u σ h1 Q
def PD (t:TTD):TTD:=λσ h Q=>t σ h λc h1=>Q (!c) h1
def PF (ta tb:TED):TED:=λσ h Q=>ta σ h λx h1=> ∃c,x= .bl c/\if c=true then tb σ h1 Q else Q (.bl false) h1
def Sb (ta tb:TED):TED:=λσ h Q=>ta σ h λx h1=> ∃c,x= .bl c/\if c=true then Q (.bl true) h1 else tb σ h1 Q
def PH (ta:TED):TED:=λσ h Q=>ta σ h λx h1=> ∃c,x= .bl c/\Q (.bl (!c)) h1
def dIf (t:TTD)(ta tb:TED):TED:=λσ h Q=>t σ h λc h1=>if c=true then ta σ h1 Q else tb σ h1 Q
section
variable {K:PySem.W.Frag}
theorem Os (i:Nat): ∀σ H Q,LE K (GL i) σ H Q->Tj i σ H Q:=λσ H Q ⟨σd,h,Qd,rs,rh,⟨d,e,q⟩,p⟩=>let ⟨v,e1,e2⟩:=rs.2 i d e;⟨v,e1,p d v h H (.refl H) rh e2 q⟩
theorem Ot {d:D}{v:V}(r: ∀H,RelD K H d v): ∀σ H Q,LE K (dC d) σ H Q->tC v σ H Q:=λσ H Q ⟨σd,h,Qd,rs,rh,q,p⟩=>p d v h H (.refl H) rh (r H) q
variable {H:Hp}
theorem jz {H1:Hp}{Qd:KD}{Q:VK}(p:Bb K H Qd Q)(k:Kept H H1):Bb K H1 Qd Q:=λd v h' H' k'=>p d v h' H' (k.trans k')
variable {ta:TED}
theorem LE.bind {σ:St}{σd:SD}{h:HD}{kd:KD}{k:VK}(rs:RelS K H σd σ)(rh:RelH K h H)(t:ta σd h kd)(f: ∀d v h' H',Kept H H'->RelS K H' σd σ->RelH K h' H'->RelD K H' d v->kd d h'->k v H'):LE K ta σ H k:=
 ⟨σd,h,kd,rs,rh,t,λd v h' H' kp r1 r2 q=>f d v h' H' kp (rs.mono kp) r1 r2 q⟩
theorem LT.bind {ta:TTD}{σ:St}{σd:SD}{h:HD}{kd:Bool->HD->Prop}{k:Bool->Hp->Prop}(rs:RelS K H σd σ)(rh:RelH K h H)(t:ta σd h kd)(f: ∀b h' H',Kept H H'->RelS K H' σd σ->RelH K h' H'->kd b h'->k b H'):LT K ta σ H k:=
 ⟨σd,h,kd,rs,rh,t,λb h' H' kp r1 q=>f b h' H' kp (rs.mono kp) r1 q⟩
theorem LA.bind {ta:TAD}{σ:St}{σd:SD}{h:HD}{kd:List D->HD->Prop}{k:List V->Hp->Prop}(rs:RelS K H σd σ)(rh:RelH K h H)(t:ta σd h kd)(f: ∀ds vs h' H',Kept H H'->RelS K H' σd σ->RelH K h' H'->RelDs K H' ds vs->kd ds h'->k vs H'):LA K ta σ H k:=
 ⟨σd,h,kd,rs,rh,t,λd v h' H' kp r1 r2 q=>f d v h' H' kp (rs.mono kp) r1 r2 q⟩
variable {tb:TED}
theorem Cf {f:RD2}: ∀σ H Q,LE K (dOp f ta tb) σ H Q->tOp (LR K f) (LE K ta) (LE K tb) σ H Q:=λσ H Q ⟨σd,h,Qd,rs,rh,t,p⟩=>
 LE.bind rs rh t λd v h1 H1 k1 rs1 rh1 r1 t1=>LE.bind rs1 rh1 t1 λd2 v2 h2 H2 k2 rs2 rh2 r2 t2=>⟨d,d2,h2,Qd,r1.mono k2,r2,rh2,t2,jz p (k1.trans k2)⟩
theorem Ou: ∀σ H Q,LA K Zo σ H Q->ES σ H Q:=λσ H Q ⟨σd,h,Qd,rs,rh,t,p⟩=>p [] [] h H (.refl H) rh rfl t
theorem Cg {tr:TAD}: ∀σ H Q,LA K (jY ta tr) σ H Q->Mp (LE K ta) (LA K tr) σ H Q:=λσ H Q ⟨σd,h,Qd,rs,rh,t,p⟩=>
 LE.bind rs rh t λd v h1 H1 k1 rs1 rh1 r1 t1=>LA.bind rs1 rh1 t1 λds vs h2 H2 k2 rs2 rh2 r2 t2=>p _ _ h2 H2 (k1.trans k2) rh2 (.cons (r1.mono k2) r2) t2
theorem Ov {t:TAD}: ∀σ H Q,LE K (Op t) σ H Q->Tz (LA K t) σ H Q:=λσ H Q ⟨σd,h,Qd,rs,rh,t,p⟩=>
 LA.bind rs rh t λds vs h1 H1 k1 rs1 rh1 r1 ⟨z,q⟩=>⟨by rw [<-r1.length];exact z,λa ha=>p (.tup ds) (.ref a) h1 _ (k1.trans (.new ha)) (rh1.new ha) ⟨a,vs,rfl,jl,r1.mono (.new ha)⟩ q⟩
theorem Ow {t:TAD}: ∀σ H Q,LE K (Lc t) σ H Q->TB (LA K t) σ H Q:=λσ H Q ⟨σd,h,Qd,rs,rh,t,p⟩=>
 LA.bind rs rh t λds vs h1 H1 k1 rs1 rh1 r1 ⟨z,q⟩=>⟨by rw [<-r1.length];exact z,λa ha=>p (.lst a) (.ref a) _ _ (k1.trans (.new ha)) (rh1.newL ha r1) ⟨rfl,vs,jl⟩ (q a (rh1.free ha))⟩
theorem Ox {r:RDn}{t:TAD}: ∀σ H Q,LE K (dCB r t) σ H Q->tCB (LC K r) (LA K t) σ H Q:=λσ H Q ⟨σd,h,Qd,rs,rh,t,p⟩=>
 LA.bind rs rh t λds vs h1 H1 k1 rs1 rh1 r1 q=>⟨ds,h1,Qd,r1,rh1,q,jz p k1⟩
theorem PJ {t:TED}: ∀σ H Q,LT K (Zp t) σ H Q->BK (LE K t) σ H Q:=λσ H Q ⟨σd,h,Qd,rs,rh,t,p⟩=>
 LE.bind rs rh t λd v h1 H1 k1 rs1 rh1 r1 ⟨k,e,q⟩=>by subst e;exact⟨k,r1,p k h1 H1 k1 rh1 q⟩
theorem MB {t:TED}: ∀σ H Q,LT K (Zp t) σ H Q->tB (LE K t) σ H Q:=λσ H Q ⟨σd,h,Qd,rs,rh,t,p⟩=>
 LE.bind rs rh t λd v h1 H1 k1 rs1 rh1 r1 ⟨k,e,q⟩=>by subst e;exact⟨k,r1,p k h1 H1 k1 rh1 q⟩
theorem XU {r r':RD2}{tc:TED}: ∀σ H Q,LE K (ZX r r' ta tb tc) σ H Q->Pg (LR K r) (LR K r') (LE K ta) (LE K tb) (LE K tc) σ H Q:=λσ H Q ⟨σd,h,Qd,rs,rh,t,p⟩=>
 LE.bind rs rh t λd v h1 H1 k1 rs1 rh1 r1 t1=>LE.bind rs1 rh1 t1 λd2 v2 h2 H2 k2 rs2 rh2 r2 t2=>⟨d,d2,h2,_,r1.mono k2,r2,rh2,t2,λd3 v3 h3 H3 k3 rh3 r3 ⟨k,e,q⟩=>by
  subst e;refine⟨k,r3,?_⟩;cases k with
  |true=>
   rw [if_pos rfl] at q ⊢;exact LE.bind (rs2.mono k3) rh3 q λd4 v4 h4 H4 k4 rs4 rh4 r4 t4=>⟨d2,d4,h4,Qd,(r2.mono k3).mono k4,r4,rh4,t4,jz p (k1.trans (k2.trans (k3.trans k4)))⟩
  |false=>
   rw [if_neg P7] at q ⊢;exact p (.bl false) _ h3 H3 (k1.trans (k2.trans k3)) rh3 rfl q⟩
variable {t:TTD}
theorem Oy {u:TTD}: ∀σ H Q,LT K (Ce t u) σ H Q->Tk (LT K t) (LT K u) σ H Q:=λσ H Q ⟨σd,h,Qd,rs,rh,t,p⟩=>
 LT.bind rs rh t λb h1 H1 k1 rs1 rh1 q=>by
  cases b with
  |true=>rw [if_pos rfl] at q ⊢;exact⟨σd,h1,Qd,rs1,rh1,q,λb h' H' k=>p b h' H' (k1.trans k)⟩
  |false=>rw [if_neg P7] at q ⊢;exact p _ _ _ k1 rh1 q
theorem Sc {u:TTD}: ∀σ H Q,LT K (Oq t u) σ H Q->tOr (LT K t) (LT K u) σ H Q:=λσ H Q ⟨σd,h,Qd,rs,rh,t,p⟩=>
 LT.bind rs rh t λb h1 H1 k1 rs1 rh1 q=>by
  cases b with
  |true=>rw [if_pos rfl] at q ⊢;exact p _ _ _ k1 rh1 q
  |false=>rw [if_neg P7] at q ⊢;exact⟨σd,h1,Qd,rs1,rh1,q,λb h' H' k=>p b h' H' (k1.trans k)⟩
theorem Oz: ∀σ H Q,LT K (PD t) σ H Q->Tl (LT K t) σ H Q:=λσ H Q ⟨σd,h,Qd,rs,rh,t,p⟩=>
 LT.bind rs rh t λb h1 H1 k1 rs1 rh1 q=>p _ _ _ k1 rh1 q
theorem OA: ∀σ H Q,LE K (PF ta tb) σ H Q->Ls (LE K ta) (LE K tb) σ H Q:=λσ H Q ⟨σd,h,Qd,rs,rh,t,p⟩=>
 LE.bind rs rh t λd v h1 H1 k1 rs1 rh1 r1 ⟨c,e,q⟩=>by
  subst e;refine⟨c,r1,?_⟩;cases c with
  |true=>rw [if_pos rfl] at q ⊢;exact⟨σd,h1,Qd,rs1,rh1,q,jz p k1⟩
  |false=>rw [if_neg P7] at q ⊢;exact p (.bl false) _ _ _ k1 rh1 rfl q
theorem Sd: ∀σ H Q,LE K (Sb ta tb) σ H Q->Tn (LE K ta) (LE K tb) σ H Q:=λσ H Q ⟨σd,h,Qd,rs,rh,t,p⟩=>
 LE.bind rs rh t λd v h1 H1 k1 rs1 rh1 r1 ⟨c,e,q⟩=>by
  subst e;refine⟨c,r1,?_⟩;cases c with
  |true=>rw [if_pos rfl] at q ⊢;exact p (.bl true) _ _ _ k1 rh1 rfl q
  |false=>rw [if_neg P7] at q ⊢;exact⟨σd,h1,Qd,rs1,rh1,q,jz p k1⟩
theorem OB: ∀σ H Q,LE K (PH ta) σ H Q->Lt (LE K ta) σ H Q:=λσ H Q ⟨σd,h,Qd,rs,rh,t,p⟩=>
 LE.bind rs rh t λd v h1 H1 k1 rs1 rh1 r1 ⟨c,e,q⟩=>by subst e;exact⟨c,r1,p (.bl (!c)) _ _ _ k1 rh1 rfl q⟩
theorem Se: ∀σ H Q,LE K (dIf t ta tb) σ H Q->tIf (LT K t) (LE K ta) (LE K tb) σ H Q:=λσ H Q ⟨σd,h,Qd,rs,rh,t,p⟩=>
 LT.bind rs rh t λb h1 H1 k1 rs1 rh1 q=>by
  cases b with
  |true=>rw [if_pos rfl] at q ⊢;exact⟨σd,h1,Qd,rs1,rh1,q,jz p k1⟩
  |false=>rw [if_neg P7] at q ⊢;exact⟨σd,h1,Qd,rs1,rh1,q,jz p k1⟩
end
abbrev QE (X:Cx)(e:Expr)(t:TED):Prop:=PE X e (LE X.K t)
abbrev QT (X:Cx)(e:Expr)(t:TTD):Prop:=PT X e (LT X.K t)
abbrev QW (X:Cx)(e:Expr)(t:TTD):Prop:=PW X e (LT X.K t)
abbrev QA (X:Cx)(es:List Expr)(t:TAD):Prop:=PA X es (LA X.K t)
abbrev QS (X:Cx)(s:Stmt)(t:TSD):Prop:=PS X s (LS X.K t)
abbrev QSs (X:Cx)(s:List Stmt)(t:TSD):Prop:=PSs X s (LS X.K t)
abbrev QG (X:Cx)(e:Expr)(t:TGD):Prop:=PG X e (LG X.K t)
abbrev OpQ (X:Cx)(f:Value->Value->Sem Value)(r:RD2):Prop:=OpR X f (LR X.K r)
abbrev yw (X:Cx)(f:Value)(r:RDn):Prop:=CallR X f (LC X.K r)
section
variable {X:Cx}{a b c e:Expr}{es rest:List Expr}{ta tb tc te:TED}{t u:TAD}{tt tu:TTD}{pos:Pos}{f r r':RD2}
theorem qv (i:Nat){x:Str}(hN:X.N[i]? =some x:=by rfl)(hv:Vis X.env.scope x:=by first|exact Or.inl rfl|exact Or.inr (Or.inl rfl)|exact Or.inr (Or.inr rfl))(hd:(x==("__debug__" :Str))=false:=by decide)
 (hcd:(x==("__classdict__" :Str))=false:=by decide):QE X (.Name x pos) (GL i):=(Ln hN hv hd hcd).imp (Os i)
variable {j:Nat}
theorem Hr {i:Int}:QE X (.Constant (.int i) j pos) (dC (.int i)):=pe_int.imp (Ot λ_=>rfl)
theorem qbl {i:Bool}:QE X (.Constant (.bool i) j pos) (dC (.bl i)):=pe_bl.imp (Ot λ_=>rfl)
theorem Hs:QE X (.Constant .none j pos) (dC .non):=pe_non.imp (Ot λ_=>rfl)
theorem Ht {x:Str}:QE X (.Constant (.str x) j pos) (dC (.str x)):=pe_str.imp (Ot λ_=>rfl)
theorem Sf {x:Str}{i:Int}{tk:Tok}(hg:Gl X x)(hm:X.mg x=some (.int i tk))(hd:(x==("__debug__" :Str))=false:=by decide):QE X (.Name x pos) (dC (.int i)):=
 (GW (v:= .int i) hg hm ⟨tk,rfl⟩ hd).imp (Ot λ_=>rfl)
theorem qop {op:Operator}(ho:OpQ X (binaryOp op) f)(ha:QE X a ta)(hb:QE X b tb):QE X (.BinOp a op b pos) (dOp f ta tb):=(EL ho ha hb).imp Cf
variable {op:CmpOp}
theorem Hu (ho:OpQ X (compareOp op) f)(ha:QE X a ta)(hb:QE X b tb)(hm:behindInMarks op b=false):QE X (.Compare a [op] [b] pos) (dOp f ta tb):=(BJ ho ha hb hm).imp Cf
theorem Sg (ho:OpQ X (compareOp op) f)(ha:QE X a ta)(hb:QE X b tb)(hm:behindInMarks op b=false):QT X (.Compare a [op] [b] pos) (Zp (dOp f ta tb)):=
 (BL ho ha hb hm).imp λσ H Q h=>by
  obtain⟨σd,h,Qd,rs,rh,t,p⟩:=PJ (t:=dOp f ta tb) σ H Q h;exact Cf σ H _ ⟨σd,h,Qd,rs,rh,t,p⟩
theorem OC {op':CmpOp}(ho:OpQ X (compareOp op) r)(ho':OpQ X (compareOp op') r')(ha:QE X a ta)(hb:QE X b tb)(hc:QE X c tc)(hm:lastMarks [op,op'] [b,c]=false:=by with_unfolding_all rfl):
 QE X (.Compare a [op,op'] [b,c] pos) (ZX r r' ta tb tc):=(Mm ho ho' ha hb hc hm).imp XU
theorem Ch {op':CmpOp}(ho:OpQ X (compareOp op) r)(ho':OpQ X (compareOp op') r')(ha:QE X a ta)(hb:QE X b tb)(hc:QE X c tc)(hm:lastMarks [op,op'] [b,c]=false:=by with_unfolding_all rfl):
 QT X (.Compare a [op,op'] [b,c] pos) (Zp (ZX r r' ta tb tc)):=(Mn ho ho' ha hb hc hm).imp λσ H Q h=>by
 obtain⟨σd,h,Qd,rs,rh,t,p⟩:=PJ (t:=ZX r r' ta tb tc) σ H Q h;exact XU σ H _ ⟨σd,h,Qd,rs,rh,t,p⟩
theorem Sh (ha:QE X a ta)(he: ∀whole,isTrue a X.env whole=(do let v <-whole;standAt a.pos;holding [v] (truthy v)):=by intro _;rfl):QT X a (Zp ta):=(Lo ha he).imp MB
theorem Si (ha:QT X a tt):QW X (.BoolOp .And [a] pos) tt:=BC ha
theorem Hv (ha:QT X a tt):QW X (.BoolOp .Or [a] pos) tt:=Lp ha
theorem Sj (ha:QT X a tt)(hb:QW X (.BoolOp .And (b::rest) pos) tu):QW X (.BoolOp .And (a::b::rest) pos) (Ce tt tu):=(Lq ha hb).imp Oy
theorem Hw (ha:QT X a tt)(hb:QW X (.BoolOp .Or (b::rest) pos) tu):QW X (.BoolOp .Or (a::b::rest) pos) (Oq tt tu):=(ED ha hb).imp Sc
theorem Sk (ha:QT X a tt):QT X (.UnaryOp .Not a pos) (PD tt):=(Lr ha).imp Oz
theorem Hx {op:BoolOp}(ha:QE X a ta):QE X (.BoolOp op [a] pos) ta:=Lu ha
theorem Hy (ha:QE X a ta)(hb:QE X (.BoolOp .And (b::rest) pos) tb):QE X (.BoolOp .And (a::b::rest) pos) (PF ta tb):=(Lv ha hb).imp OA
theorem qor (ha:QE X a ta)(hb:QE X (.BoolOp .Or (b::rest) pos) tb):QE X (.BoolOp .Or (a::b::rest) pos) (Sb ta tb):=(EF ha hb).imp Sd
theorem Hz (ha:QE X a ta):QE X (.UnaryOp .Not a pos) (PH ta):=(Lw ha).imp OB
theorem qif {c:Expr}(hc:QT X c tt)(ha:QE X a ta)(hb:QE X b tb):QE X (.IfExp c a b pos) (dIf tt ta tb):=(Mj hc ha hb).imp Se
theorem OD:QA X [] Zo:=pa_nil.imp Ou
theorem Ci (ha:QE X e te)(hr:QA X es t)(hs:starEach (e::es) X.env=(false,eval e X.env)::starEach es X.env:=by rfl):QA X (e::es) (jY te t):=(wG ha hr hs).imp Cg
theorem HA {k:Nat}(h:QA X es t):QE X (.Tuple es k pos) (Op t):=(LZ h).imp Ov
theorem HB (h:QA X es t):QE X (.List es pos) (Lc t):=(Oa h).imp Ow
end
def QY:TSD:=λD σ h=>D.nx σ h
def PK (t u:TSD):TSD:=λD σ h=>t {D with nx:=u D} σ h
def Cj (te:TED):TSD:=λD σ h=>te σ h λ_ h1=>D.nx σ h1
def QZ (te:TED):TSD:=λD σ h=>te σ h D.rt
def Ld (c:TTD)(t u:TSD):TSD:=λD σ h=>c σ h λb h1=>if b=true then t D σ h1 else u D σ h1
def MC (i:Nat)(te:TED):TSD:=λD σ h=>te σ h λd h1=>D.nx (σ.set i (some d)) h1
def Sl (te:TED)(g:TGD):TSD:=λD σ h=>te σ h λx h1=>g x σ h1 D.nx
def Sm (i j:Nat)(ta:TAD):TSD:=λD σ h=>ta σ h λds h1=> ∃v w,ds= [v,w]/\D.nx ((σ.set i (some v)).set j (some w)) h1
def gN (i:Nat):TGD:=λd σ h Q=>Q (σ.set i (some d)) h
def gT2 (i j:Nat):TGD:=λd σ h Q=> ∃x y,d= .tup [x,y]/\Q ((σ.set i (some x)).set j (some y)) h
section
variable {K:PySem.W.Frag}
theorem LS.of {t:TSD}{D₀:Ends}{σ:St}{H:Hp}{σd:SD}{h:HD}{Dd:EndsD}(rs:RelS K H σd σ)(rh:RelH K h H)(q:t Dd σd h)
 (nx: ∀σd' h' σ' H',Kept H H'->RelS K H' σd' σ'->RelH K h' H'->Dd.nx σd' h'->D₀.nx σ' H')(rt:Bb K H Dd.rt D₀.rt)
 (bk: ∀σd' h' σ' H',Kept H H'->RelS K H' σd' σ'->RelH K h' H'->Dd.bk σd' h'->D₀.bk σ' H')(ct: ∀σd' h' σ' H',Kept H H'->RelS K H' σd' σ'->RelH K h' H'->Dd.ct σd' h'->D₀.ct σ' H'):LS K t D₀ σ H:=⟨σd,h,Dd,rs,rh,q,nx,rt,bk,ct⟩
theorem Ck: ∀D σ H,LS K QY D σ H->Lx D σ H:=λD σ H ⟨σd,h,Dd,rs,rh,q,nx,_⟩=>nx σd h σ H (.refl H) rs rh q
theorem OE {t u:TSD}: ∀D σ H,LS K (PK t u) D σ H->To (LS K t) (LS K u) D σ H:=λD σ H ⟨σd,h,Dd,rs,rh,q,nx,rt,bk,ct⟩=>
 LS.of rs rh q (λσd' h' σ' H' k rs' rh' q'=>⟨σd',h',Dd,rs',rh',q',λa b c d k'=>nx a b c d (k.trans k'),jz rt k,λa b c d k'=>bk a b c d (k.trans k'),λa b c d k'=>ct a b c d (k.trans k')⟩) rt bk ct
variable {te:TED}
theorem Cl: ∀D σ H,LS K (Cj te) D σ H->Ly (LE K te) D σ H:=λD σ H ⟨σd,h,Dd,rs,rh,q,nx,rt,bk,ct⟩=>
 LE.bind rs rh q λd v h1 H1 k1 rs1 rh1 r1 q1=>nx _ _ _ _ k1 rs1 rh1 q1
theorem OF: ∀D σ H,LS K (QZ te) D σ H->Tp (LE K te) D σ H:=λD σ H ⟨σd,h,Dd,rs,rh,q,nx,rt,bk,ct⟩=>⟨σd,h,Dd.rt,rs,rh,q,rt⟩
theorem Sn {c:TTD}{t u:TSD}: ∀D σ H,LS K (Ld c t u) D σ H->Tq (LT K c) (LS K t) (LS K u) D σ H:=λD σ H ⟨σd,h,Dd,rs,rh,q,nx,rt,bk,ct⟩=>
 LT.bind rs rh q λb h1 H1 k rs1 rh1 q1=>by
  cases b with
  |true=>rw [if_pos rfl] at q1 ⊢;exact⟨σd,h1,Dd,rs1,rh1,q1,λa b c d k'=>nx a b c d (k.trans k'),jz rt k,λa b c d k'=>bk a b c d (k.trans k'),λa b c d k'=>ct a b c d (k.trans k')⟩
  |false=>rw [if_neg P7] at q1 ⊢;exact⟨σd,h1,Dd,rs1,rh1,q1,λa b c d k'=>nx a b c d (k.trans k'),jz rt k,λa b c d k'=>bk a b c d (k.trans k'),λa b c d k'=>ct a b c d (k.trans k')⟩
theorem PL {i:Nat}: ∀D σ H,LS K (MC i te) D σ H->NU (LE K te) (yu i) D σ H:=λD σ H ⟨σd,h,Dd,rs,rh,q,nx,rt,bk,ct⟩=>
 LE.bind rs rh q λd v h1 H1 k1 rs1 rh1 r1 q1=>nx _ _ _ _ k1 (rs1.set r1 i) rh1 q1
theorem OG {g:TGD}: ∀D σ H,LS K (Sl te g) D σ H->NU (LE K te) (LG K g) D σ H:=λD σ H ⟨σd,h,Dd,rs,rh,q,nx,rt,bk,ct⟩=>
 LE.bind rs rh q λd v h1 H1 k1 rs1 rh1 r1 q1=>⟨d,σd,h1,_,r1,rs1,rh1,q1,λa b c e k'=>nx a b c e (k1.trans k')⟩
theorem OH {i j:Nat}{ta:TAD}: ∀D σ H,LS K (Sm i j ta) D σ H->Ts i j (LA K ta) D σ H:=λD σ H ⟨σd,h,Dd,rs,rh,q,nx,rt,bk,ct⟩=>
 LA.bind rs rh q λds vs h1 H1 k1 rs1 rh1 r1 ⟨x,y,e,q1⟩=>by
  subst e;obtain⟨v,r,e,r2,r3⟩:=(show ∃v r,vs=v::r/\RelD K H1 x v/\RelDs K H1 [y] r from r1);obtain⟨w,r',e',r4,r5⟩:=(show ∃v r',r=v::r'/\RelD K H1 y v/\RelDs K H1 [] r' from r3);cases (show r'= [] from r5);subst e' e;exact⟨v,w,rfl,nx _ _ _ _ k1 ((rs1.set r2 i).set r4 j) rh1 q1⟩
theorem Cm (i:Nat): ∀v σ H Q,LG K (gN i) v σ H Q->yu i v σ H Q:=λv σ H Q ⟨d,σd,h,Qd,r,rs,rh,q,p⟩=>p _ _ _ _ (.refl H) (rs.set r i) rh q
theorem yC {H:Hp}{x y:D}{vs:List V}(r:RelDs K H [x,y] vs): ∃v w,vs= [v,w]/\RelD K H x v/\RelD K H y w:=by
 obtain⟨v,r1,e,r2,r3⟩:=(show ∃v r,vs=v::r/\RelD K H x v/\RelDs K H [y] r from r);obtain⟨w,z,e',r4,r5⟩:=(show ∃v z,r1=v::z/\RelD K H y v/\RelDs K H [] z from r3);cases (show z= [] from r5);subst e' e;exact⟨v,w,rfl,r2,r4⟩
theorem jA {H:Hp}{x:D}{vs:List V}(r:RelDs K H [x] vs): ∃v,vs= [v]/\RelD K H x v:=by
 obtain⟨v,r1,e,r2,r3⟩:=(show ∃v r,vs=v::r/\RelD K H x v/\RelDs K H [] r from r);cases (show r1= [] from r3);exact⟨v,e,r2⟩
theorem OI (i j:Nat): ∀v σ H Q,LG K (gT2 i j) v σ H Q->EJ K 2 (GY (yu i) (GY (yu j) EI)) v σ H Q:=λv σ H Q ⟨d,σd,h,Qd,r,rs,rh,⟨x,y,e,q⟩,p⟩=>by
 subst e;obtain⟨a,vs,e,hH,r1⟩:=(show ∃a vs,v= .ref a/\H a=some (.tup vs)/\RelDs K H [x,y] vs from r);obtain⟨v1,v2,e1,r2,r3⟩:=yC r1;subst e e1;exact⟨a,[v1,v2],rfl,SqT.of hH,rfl,v1,[v2],rfl,v2,[],rfl,rfl,p _ _ _ _ (.refl H) ((rs.set r2 i).set r3 j) rh q⟩
end
section
variable {X:Cx}{st:Stmt}{sts:List Stmt}{t u:TSD}{e:Expr}{te:TED}{pos:Pos}
theorem OJ:QSs X [] QY:=pss_nil.imp Ck
theorem Cn (h1:QS X st t)(h2:QSs X sts u):QSs X (st::sts) (PK t u):=(Mk h1 h2).imp OE
theorem OK (h1:QS X st t):QSs X [st] t:=BD h1
theorem So (he:QE X e te)(hs:swapsWith e none pos.line X.env=pure false:=by rfl):QS X (.Expr e pos) (Cj te):=(BE he hs).imp Cl
theorem HE (he:QE X e te):QS X (.Return (some e) pos) (QZ te):=(Lz he).imp OF
theorem HF {c:Expr}{a b:List Stmt}{tc:TTD}(hc:QT X c tc)(ha:QSs X a t)(hb:QSs X b u):QS X (.If c a b pos) (Ld tc t u):=(EG hc ha hb).imp Sn
variable {i:Nat}{x:Str}
theorem HG {pos':Pos}(hN:X.N.Nodup)(hi:X.N[i]? =some x)(hx:Loc X.env.scope x)(he:QE X e te)(hs:swapsWith e (some (.Name x pos')) pos.line X.env=pure false:=by rfl)
 (hf:X.fn x=true\/X.env.scope.names.lookup x=some .local:=by first|exact .inl rfl|exact .inr rfl|assumption):QS X (.Assign [.Name x pos'] e pos) (MC i te):=(LF hN hi hx he hs hf).imp PL
theorem Co (hN:X.N.Nodup)(hi:X.N[i]? =some x)(hx:Loc X.env.scope x)(hf:X.fn x=true\/X.env.scope.names.lookup x=some .local:=by first|exact .inl rfl|exact .inr rfl|assumption):QG X (.Name x pos) (gN i):=
 (vy hN hi hx hf).imp (Cm i)
theorem OL {j:Nat}{y:Str}{p1 p2:Pos}{k:Nat}(hc:X.calm=true)(hN:X.N.Nodup)(hi:X.N[i]? =some x)(hj:X.N[j]? =some y)(hx:Loc X.env.scope x)(hy:Loc X.env.scope y)
 (hf:X.fn x=true\/X.env.scope.names.lookup x=some .local:=by first|exact .inl rfl|exact .inr rfl|assumption)(hf2:X.fn y=true\/X.env.scope.names.lookup y=some .local:=by first|exact .inl rfl|exact .inr rfl|assumption):
 QG X (.Tuple [.Name x p1,.Name y p2] k pos) (gT2 i j):=(NT hc (Zw (vy hN hi hx hf) (Zw (vy hN hj hy hf2) GZ))).imp (OI i j)
theorem HH {tg:Expr}{g:TGD}(he:QE X e te)(hg:QG X tg g)(hs:swapsWithSole [tg] e pos.line X.env=pure false:=by rfl)(hsw:swappedStores [tg] e X.env=pure none:=by rfl)
 (h1:(assignEach [tg] X.env).map (·.2)= [assign tg X.env]:=by rfl):QS X (.Assign [tg] e pos) (Sl te g):=(LD he hg hs hsw h1).imp OG
theorem HI {j:Nat}{y:Str}{a b:Expr}{ta:TAD}{px py pt:Pos}{kt k2 pt2}(hc:X.calm=true)(hN:X.N.Nodup)(hi:X.N[i]? =some x)(hj:X.N[j]? =some y)(hij:i≠j)
 (hx:X.env.scope.names.lookup x=some .local)(hy:X.env.scope.names.lookup y=some .local)(ha:QA X [a,b] ta)
 (hw:swappedStores [.Tuple [.Name x px,.Name y py] kt pt] (.Tuple [a,b] k2 pt2) X.env=pure (some [x,y]))
 (hs:swapsWithSole [.Tuple [.Name x px,.Name y py] kt pt] (.Tuple [a,b] k2 pt2) pos.line X.env=pure false:=by rfl):
 QS X (.Assign [.Tuple [.Name x px,.Name y py] kt pt] (.Tuple [a,b] k2 pt2) pos) (Sm i j ta):=(LH hc hN hi hj hij hx hy ha hw hs).imp OH
end
abbrev ItD:=HD->Option (List D)
def Le (K:PySem.W.Frag)(H:Hp)(j:ItD)(J:It):Prop:= ∀H' h',Kept H H'->RelH K h' H'-> ∀ds,j h'=some ds-> ∀i:Nat,
 (∀d,ds[i]? =some d->J.go i H'/\ ∀x H'',J.yld i H' x H''->Kept H' H''/\RelH K h' H''/\RelD K H'' d x)/\(ds.length<=i->J.stop i H')
abbrev TID:=SD->HD->(ItD->HD->Prop)->Prop
def LI (K:PySem.W.Frag)(t:TID):TI:=λσ H R=> ∃σd h Rd,RelS K H σd σ/\RelH K h H/\t σd h Rd/\ ∀j J h' H',Kept H H'->RelH K h' H'->Le K H' j J->Rd j h'->R J H'
abbrev QI (X:Cx)(tg iter:Expr)(t:TID):Prop:=PI X tg iter (LI X.K t)
theorem PI.imp {X:Cx}{tg e:Expr}{t t':TI}(h:PI X tg e t)(i: ∀σ H R,t' σ H R->t σ H R):PI X tg e t':=λpins s σ H R I q=>h pins s σ H R I (i σ H R q)
def iL (te:TED):TID:=λσ h R=>te σ h λx h1=> ∃a,x= .lst a/\R (λh=>h a) h1
def iR1 (ta:TAD):TID:=λσ h R=>ta σ h λds h1=> ∃n:Int,ds= [.int n]/\ -(2^62)<=n/\n<2^62/\R (λ_=>some ((List.range n.toNat).map λ(k:Nat)=>D.int (k:Int))) h1
def iR2 (ta:TAD):TID:=λσ h R=>ta σ h λds h1=> ∃m n:Int,ds= [.int m,.int n]/\(-(2^62)<=m/\m<2^62/\ -(2^62)<=n/\n<2^62)/\R (λ_=>some ((List.range (n-m).toNat).map λ(k:Nat)=>D.int (m+(k:Int)))) h1
section
variable {K:PySem.W.Frag}
theorem VL (H:Hp)(a:Addr):Le K H (λh=>h a) (Itl K a):=λH' h' k rh ds e i=>by
 obtain⟨vs,hv,r⟩:=rh a ds e;refine⟨λd hd=> ?_,λhl=>⟨vs,SqL.of hv,by rw [<-r.length];exact hl⟩⟩;obtain⟨v,e1,e2⟩:=r.get hd;refine⟨⟨vs,v,SqL.of hv,e1⟩,λx H'' ⟨eH,hx⟩=> ?_⟩;subst eH;have:=hx vs (SqL.of hv);rw [e1] at this;cases this;exact⟨.refl _,rh,e2⟩
theorem MD {H:Hp}{a:Addr}{vs:List V}{ds:List D}(hv:H a=some (.tup vs))(r:RelDs K H ds vs):Le K H (λ_=>some ds) (Itt K a):=λH' h' k rh ds' e i=>by
 cases e;have hv':=k.tup _ _ hv;have r':=r.mono k;refine⟨λd hd=> ?_,λhl=>⟨vs,SqT.of hv',by rw [<-r.length];exact hl⟩⟩;obtain⟨v,e1,e2⟩:=r'.get hd;refine⟨⟨vs,v,SqT.of hv',e1⟩,λx H'' ⟨eH,hx⟩=> ?_⟩;subst eH;have:=hx vs (SqT.of hv');rw [e1] at this;cases this;exact⟨.refl _,rh,e2⟩
theorem Yk (H:Hp)(lo:Int)(n:Nat)(ds:List D)(hd:ds=(List.range n).map λ(k:Nat)=>D.int (lo+(k:Int))):Le K H (λ_=>some ds) (Itr lo n):=λH' h' k rh ds' e i=>by
 cases e;subst hd;refine⟨λd hd=> ?_,λhl=>(show n<=i by simpa using hl)⟩;rw [D2] at hd;have hi:i<n:=by
  by_cases z:i<n
  ·exact z
  ·rw [C4 (by simpa using z)] at hd;cases hd
 rw [L5 hi] at hd;cases hd;refine⟨hi,λx H'' ⟨eH,hx⟩=> ?_⟩;subst eH hx;exact⟨.refl _,rh,rfl⟩
theorem Cp {te:TED}: ∀σ H R,LI K (iL te) σ H R->LL K (LE K te) σ H R:=λσ H R ⟨σd,h,Rd,rs,rh,q,p⟩=>
 LE.bind rs rh q λd v h1 H1 k1 rs1 rh1 r1 ⟨a,e,q1⟩=>by
  subst e;obtain⟨e,vs,hv⟩:=(show v= .ref a/\ ∃vs,H1 a=some (.lst vs) from r1);exact⟨a,e,⟨vs,SqL.of hv⟩,p _ _ _ _ k1 rh1 (VL H1 a) q1⟩
theorem Sr {ta:TAD}: ∀σ H R,LI K (iR1 ta) σ H R->LM (LA K ta) σ H R:=λσ H R ⟨σd,h,Rd,rs,rh,q,p⟩=>
 LA.bind rs rh q λds vs h1 H1 k1 rs1 rh1 r1 ⟨n,e,b1,b2,q1⟩=>by
  subst e;obtain⟨v,e,r2⟩:=jA r1;cases (show v= .int n from r2);exact⟨n,e,b1,b2,p _ _ _ _ k1 rh1 (Yk H1 0 n.toNat _ (by simp)) q1⟩
theorem Ss {ta:TAD}: ∀σ H R,LI K (iR2 ta) σ H R->LP (LA K ta) σ H R:=λσ H R ⟨σd,h,Rd,rs,rh,q,p⟩=>
 LA.bind rs rh q λds vs h1 H1 k1 rs1 rh1 r1 ⟨m,n,e,b,q1⟩=>by
  subst e;obtain⟨v,w,e,r2,r3⟩:=yC r1;cases (show v= .int m from r2);cases (show w= .int n from r3);exact⟨m,n,e,b,p _ _ _ _ k1 rh1 (Yk H1 m (n-m).toNat _ rfl) q1⟩
end
def Lf (ti:TID)(g:TGD)(tb:TSD):TSD:=λD σ h=>ti σ h λj h1=> ∃ (n:Nat) (W:Nat->SD->HD->Prop),W 0 σ h1/\ ∀i σ' h',W i σ' h'-> ∃ds,j h'=some ds/\ds.length<=n/\(ds.length<=i->D.nx σ' h')/\
 ∀d,ds[i]? =some d->g d σ' h' λσ2 h2=>tb {D with nx:=λσ3 h3=> ∃h4,Sub h4 h3/\W (i+1) σ3 h4,ct:=λσ3 h3=> ∃h4,Sub h4 h3/\W (i+1) σ3 h4,bk:=D.nx} σ2 h2
theorem OM {K:PySem.W.Frag}{ti:TID}{g:TGD}{tb:TSD}: ∀D σ H,LS K (Lf ti g tb) D σ H->Tu (LI K ti) (LG K g) (LS K tb) D σ H:=λD σ H ⟨σd,h,Dd,rs,rh,q,nx,rt,bk,ct⟩=>by
 refine⟨σd,h,_,rs,rh,q,λj J h1 H1 k1 rh1 jo ⟨n,W,w0,turn⟩=> ?_⟩;refine⟨λi m σ' H'=>m=n-i/\Kept H1 H'/\ ∃σd' h',RelS K H' σd' σ'/\RelH K h' H'/\W i σd' h',⟨n-0,rfl,.refl _,σd,h1,rs.mono k1,rh1,w0⟩,?_⟩;rintro i m σ' H' ⟨rfl,kp,σd',h',rs',rh',w⟩;obtain⟨ds,ej,hn,stop,go⟩:=turn i σd' h' w;have jo':=jo H' h' kp rh' ds ej i
 by_cases hi:i<ds.length
 ·obtain⟨g1,y1⟩:=jo'.1 ds[i] (G1 hi);refine .inr ⟨g1,λσ2 H2=>Kept H1 H2/\ ∃σd2 h2,RelS K H2 σd2 σ2/\RelH K h2 H2/\W (i+1) σd2 h2,λσ2 H2 ⟨k2,a,b,c,d,e⟩=>⟨n-(i+1),by omega,rfl,k2,a,b,c,d,e⟩,λx H'' y=> ?_⟩;obtain⟨k2,rh2,r2⟩:=y1 x H'' y;refine⟨ds[i],σd',h',_,r2,rs'.mono k2,rh2,go ds[i] (G1 hi),λσd3 h3 σ3 H3 k3 rs3 rh3 q3=> ?_⟩;have kk:Kept H H3:=k1.trans (kp.trans (k2.trans k3));have kk1:Kept H1 H3:=kp.trans (k2.trans k3);exact⟨σd3,h3,_,rs3,rh3,q3,λa b c d k4 rs4 rh4 ⟨h4,sb,w4⟩=>⟨kk1.trans k4,a,h4,rs4,rh4.sub sb,w4⟩,jz rt kk,λa b c d k4 rs4 rh4 q4=>nx a b c d (kk.trans k4) rs4 rh4 q4,λa b c d k4 rs4 rh4 ⟨h4,sb,w4⟩=>⟨kk1.trans k4,a,h4,rs4,rh4.sub sb,w4⟩⟩
 ·exact .inl ⟨jo'.2 (V5.mp hi),nx _ _ _ _ (k1.trans kp) rs' rh' (stop (V5.mp hi))⟩
def WK:TTD:=λ_ h Q=>Q true h
def yD (bind:D->SD->SD->Prop)(js:List Nat)(ti:TID)(tt:TTD)(te:TED):TED:=λσ h Q=>ti σ h λj h1=> ∃ (n:Nat) (W:Nat->List D->HD->Prop),W 0 [] h1/\ ∀i ys h',W i ys h'->ys.length<=sizeLine/\
 ∃ds,j h'=some ds/\ds.length<=n/\(ds.length<=i-> ∀p,h' p=none->Q (.lst p) (we h' p ys))/\
  ∀d,ds[i]? =some d-> ∃σ2,bind d (jF js σ) σ2/\tt σ2 h' λb h3=>if b=true then te σ2 h3 λy h4=> ∃h5,Sub h5 h4/\W (i+1) (ys++ [y]) h5 else ∃h5,Sub h5 h3/\W (i+1) ys h5
def bN (i:Nat):D->SD->SD->Prop:=λd σ σ2=>σ2=σ.set i (some d)
def b2 (i j:Nat):D->SD->SD->Prop:=λd σ σ2=> ∃x y,d= .tup [x,y]/\σ2=(σ.set i (some x)).set j (some y)
theorem ON {K:PySem.W.Frag}: ∀σ H Q,LT K WK σ H Q->TH σ H Q:=λσ H Q ⟨σd,h,Qd,rs,rh,q,p⟩=>p true h H (.refl H) rh q
def PM (K:PySem.W.Frag)(js:List Nat)(bind:D->SD->SD->Prop)(g:TG):Prop:= ∀ (σ:St) (σd σd2:SD) (H:Hp) (d:D) (v:V) (Q:St->Hp->Prop),RelS K H (jF js σd) (zR js σ)->RelD K H d v->bind d (jF js σd) σd2->
 (∀σ2,Agree (zR js σ) σ2->RelS K H σd2 σ2->Q σ2 H)->g v (zR js σ) H Q
theorem OO {K:PySem.W.Frag}{js:List Nat}{i:Nat}(hi:i∈js):PM K js (bN i) (yu i):=λσ σd σd2 H d v Q rs r b q=>by
 cases (show σd2=_ from b);exact q _ (.set v λu=>zr js σ i u hi) (rs.set r i)
theorem Su {K:PySem.W.Frag}{js:List Nat}{i j:Nat}(hi:i∈js)(hj:j∈js)(hij:i≠j):PM K js (b2 i j) (EJ K 2 (GY (yu i) (GY (yu j) EI))):=λσ σd σd2 H d v Q rs r b q=>by
 obtain⟨x,y,e,e2⟩:=b;subst e e2;obtain⟨a,vs,e,hH,r1⟩:=(show ∃a vs,v= .ref a/\H a=some (.tup vs)/\RelDs K H [x,y] vs from r);obtain⟨v1,v2,e1,r2,r3⟩:=yC r1;subst e e1;refine⟨a,[v1,v2],rfl,SqT.of hH,rfl,v1,[v2],rfl,v2,[],rfl,rfl,q _ (.trans (.set v1 λu=>zr js σ i u hi) (.set v2 λu z=> ?_)) ((rs.set r2 i).set r3 j)⟩;rw [N8 hij] at z;exact zr js σ j u hj z
theorem Cq {K:PySem.W.Frag}{bind:D->SD->SD->Prop}{js:List Nat}{ti:TID}{tt:TTD}{te:TED}{g:TG}(hb:PM K js bind g): ∀σ H Q,LE K (yD bind js ti tt te) σ H Q->tLC js (LI K ti) g (LT K tt) (LE K te) σ H Q:=
 λσ H Q ⟨σd,h,Qd,rs,rh,q,p⟩=>by
  refine⟨σd,h,_,rs,rh,q,λj J h1 H1 k1 rh1 jo ⟨n,W,w0,turn⟩=> ?_⟩;refine⟨λi m ys H'=>m=n-i/\Kept H1 H'/\ ∃ds h',RelDs K H' ds ys/\RelH K h' H'/\W i ds h',⟨n-0,rfl,.refl _,[],h1,rfl,rh1,w0⟩,?_⟩;rintro i m ys H' ⟨rfl,kp,yd,h',ry,rh',w⟩;obtain⟨hz,ds,ej,hn,stop,go⟩:=turn i yd h' w;refine⟨by rw [<-ry.length];exact hz,?_⟩;have jo':=jo H' h' kp rh' ds ej i;have kk:Kept H H':=k1.trans kp
  by_cases hi:i<ds.length
  ·obtain⟨g1,y1⟩:=jo'.1 ds[i] (G1 hi);refine .inr ⟨g1,λx H'' y=> ?_⟩;obtain⟨k2,rh2,r2⟩:=y1 x H'' y;obtain⟨σd2,bd,q2⟩:=go ds[i] (G1 hi);refine hb σ σd σd2 H'' ds[i] x _ (((rs.mono (kk.trans k2))).clear js) r2 bd λσ2 ag rs2=>⟨ag,?_⟩
   refine LT.bind rs2 rh2 q2 λb h3 H3 k3 rs3 rh3 q3=> ?_
   cases b with
   |true=>
    rw [if_pos rfl] at q3 ⊢;refine LE.bind rs3 rh3 q3 λd4 v4 h4 H4 k4 rs4 rh4 r4 ⟨h5,sb,w5⟩=>⟨n-(i+1),by omega,rfl,kp.trans (k2.trans (k3.trans k4)),yd++ [d4],h5,(ry.mono (k2.trans (k3.trans k4))).append (.cons r4 .nil),rh4.sub sb,w5⟩
   |false=>
    rw [if_neg P7] at q3 ⊢;obtain⟨h5,sb,w5⟩:=q3;exact⟨n-(i+1),by omega,rfl,kp.trans (k2.trans k3),yd,h5,ry.mono (k2.trans k3),rh3.sub sb,w5⟩
  ·refine .inl ⟨jo'.2 (V5.mp hi),λa ha=>p (.lst a) (.ref a) _ _ (kk.trans (.new ha)) (rh'.newL ha ry) ⟨rfl,ys,jl⟩ (stop (V5.mp hi) a (rh'.free ha))⟩
theorem yZ {X:Cx}{scope:Scope}{C:Addr}{s₀:Shared}{H₀:Hp}{ex:List Addr}{i:Nat}{x:Str}{p:Pos}(hN:X.N.Nodup)(hx:X.N[i]? =some x)(hl:scope.names.lookup x=some .local\/scope.names.lookup x=some .cell):
 PG (vA X scope C s₀ H₀ ex) (.Name x p) (yu i):=by
 rcases hl with z|z
 ·exact vy hN hx (.inl (lookup_relabel_local z)) (.inr (lookup_relabel_local z))
 ·exact vy hN hx (.inr (vz z)) (.inl (by show (scope.names.lookup x==some NameKind.cell)=true;rw [z];rfl))
section
variable {X:Cx}{tg e iter elt:Expr}{te:TED}{ti:TID}{g:TGD}{tb:TSD}{tt:TTD}{pos:Pos}{ta:TAD}{scope:Scope}{js:List Nat}{ifs:List Expr}
theorem Cr (he:QE X e te):QI X tg e (iL te):=(BG he).imp Cp
theorem Sv {p:Pos}{a:Expr}(hg:Gl X "range")(hm:X.mg "range" =none)(ha:QA X [a] ta)(hs:starEach [a] X.env= [(false,eval a X.env)]:=by rfl):QI X tg (.Call (.Name "range" p) [a] [] pos) (iR1 ta):=(Pa hg hm ha hs).imp Sr
theorem HJ {body:List Stmt}(hp:PassesOwn (model X.prog X.w) X.A X.env X.xe)(hc:X.calm=true)(hi:QI X tg iter ti)(hg:QG X tg g)(hb:QSs X body tb)(hs: ∀x,foldedSetIterable iter X.env x=pure x:=by intro _;rfl):
 QS X (.For tg iter body [] pos) (Lf ti g tb):=(LQ hp hc hi hg hb hs).imp OM
theorem Cs:PTs X [] (LT X.K WK):=λpins s σ H Q I h=>BZ pins s σ H Q I (ON σ H Q h)
theorem Ct {c:Expr}(hc:QT X c tt):PTs X [c] (LT X.K tt):=Ca hc
theorem qlc {i:Nat}{x:Str}{p:Pos}(hc:X.calm=true)(S:BlockOk X scope js)(hi:QI X (.Name x p) iter ti)(hj:i∈js)(hN:X.N.Nodup)(hx:X.N[i]? =some x)(hl:scope.names.lookup x=some .local\/scope.names.lookup x=some .cell)
 (ht: ∀X',jt X scope X'->PTs X' ifs (LT X'.K tt))(he: ∀X',jt X scope X'->QE X' elt te)(hs: ∀x,foldedSetIterable iter X.env x=pure x:=by intro _;rfl):
 QE X (.ListComp elt [⟨.Name x p,iter,ifs,0⟩] scope pos) (yD (bN i) js ti tt te):=
 (Oo hc S hi (λX' hX=>by obtain⟨C,s₀,H₀,ex,rfl⟩:=hX;exact yZ hN hx hl) (λX' hX=>by have:=ht X' hX;obtain⟨C,s₀,H₀,ex,rfl⟩:=hX;exact this)
  (λX' hX=>by have:=he X' hX;obtain⟨C,s₀,H₀,ex,rfl⟩:=hX;exact this) hs).imp (Cq (OO hj))
theorem HK {i j:Nat}{x y:Str}{p1 p2 p3:Pos}{k:Nat}(hc:X.calm=true)(S:BlockOk X scope js)(hi:QI X (.Tuple [.Name x p1,.Name y p2] k p3) iter ti)(hj:i∈js)(hj2:j∈js)(hij:i≠j)(hN:X.N.Nodup)(hx:X.N[i]? =some x)(hy:X.N[j]? =some y)
 (hl:scope.names.lookup x=some .local\/scope.names.lookup x=some .cell)(hl2:scope.names.lookup y=some .local\/scope.names.lookup y=some .cell)
 (ht: ∀X',jt X scope X'->PTs X' ifs (LT X'.K tt))(he: ∀X',jt X scope X'->QE X' elt te)(hs: ∀x,foldedSetIterable iter X.env x=pure x:=by intro _;rfl):
 QE X (.ListComp elt [⟨.Tuple [.Name x p1,.Name y p2] k p3,iter,ifs,0⟩] scope pos) (yD (b2 i j) js ti tt te):=
 (Oo hc S hi (λX' hX=>by
  obtain⟨C,s₀,H₀,ex,rfl⟩:=hX;exact NT hc (Zw (yZ hN hx hl) (Zw (yZ hN hy hl2) GZ))) (λX' hX=>by have:=ht X' hX;obtain⟨C,s₀,H₀,ex,rfl⟩:=hX;exact this)
  (λX' hX=>by have:=he X' hX;obtain⟨C,s₀,H₀,ex,rfl⟩:=hX;exact this) hs).imp (Cq (Su hj hj2 hij))
end
def LSp (K:PySem.W.Frag)(spd:RDn):Sp:=λvs H Q _=>LC K spd vs H Q
theorem PN {K:PySem.W.Frag}{spd:RDn}{t:TAD}{E:XK}: ∀σ H Q,LE K (dCB spd t) σ H Q->BN (LSp K spd) [] E (LA K t) σ H Q:=λσ H Q ⟨σd,h,Qd,rs,rh,t,p⟩=>
 LA.bind rs rh t λds vs h1 H1 k1 rs1 rh1 r1 q=>by rw [B1];exact⟨ds,h1,Qd,r1,rh1,q,jz p k1⟩
section
variable {X:Cx}{k:Nat}{f:Addr}{fd:FuncData}{ps:List Str}{spd:RDn}{x:Str}{p pos:Pos}{e:Expr}{es:List Expr}{t:TAD}
theorem Sw (F:FnOk X.prog X.w X.K X.mg X.base CX0 k f fd ps (LSp X.K spd))(hr:Room k X.A)(hg:Gl X x)(hm:X.mg x=some (.ref f))(hk:PySem.W.keepIn X.K (.ref f)=true)(hb:Binds X.K fd ps [])
 (ha:QA X (e::es) t)(hdb:(x==("__debug__" :Str))=false:=by decide)(he:starEach (e::es) X.env=(false,eval e X.env)::starEach es X.env:=by rfl)(hpl:(backTo pos (starEach es X.env)).any (·.1)=false:=by rfl):
 QE X (.Call (.Name x p) (e::es) [] pos) (dCB spd t):=(Pk F hr hg hm hk hb .nil BV ha hdb he hpl).imp PN
theorem OP {id:String}{r:RDn}(hc:yw X (.builtin id) r)(hg:Gl X x)(hm:X.mg x=none)(hv:bootBuiltins x=some (.builtin id))(ha:QA X (e::es) t)(hn:x≠ "__name__" :=by decide)(hdb:(x==("__debug__" :Str))=false:=by decide)
 (he:starEach (e::es) X.env=(false,eval e X.env)::starEach es X.env:=by rfl)(hpl:(backTo pos (starEach es X.env)).any (·.1)=false:=by rfl):QE X (.Call (.Name x p) (e::es) [] pos) (dCB r t):=(Zx hc hg hm hv ha hn hdb he hpl).imp Ox
theorem Cu {T:String}{r:RDn}(hc:yw X (.type T) r)(hg:Gl X x)(hm:X.mg x=none)(hv:bootBuiltins x=some (.type T))(ha:QA X (e::es) t)(hn:x≠ "__name__" :=by decide)(hdb:(x==("__debug__" :Str))=false:=by decide)
 (he:starEach (e::es) X.env=(false,eval e X.env)::starEach es X.env:=by rfl)(hpl:(backTo pos (starEach es X.env)).any (·.1)=false:=by rfl):QE X (.Call (.Name x p) (e::es) [] pos) (dCB r t):=(Pl hc hg hm hv ha hn hdb he hpl).imp Ox
end
def jQ (N:List Str)(ds:List D):SD:=ds.map some++List.replicate (N.length-ds.length) none
theorem va {K:PySem.W.Frag}{H:Hp}{N:List Str}{ds:List D}{vs:List V}(r:RelDs K H ds vs):RelS K H (jQ N ds) (start N vs):=by
 have hl:=r.length;refine⟨by unfold jQ start;simp [hl],λi d e=> ?_⟩;unfold jQ at e;unfold start
 by_cases hi:i<ds.length
 ·rw [D4 (by simpa using hi),D2] at e;cases q:ds[i]? with
  |none=>rw [q] at e;cases e
  |some d'=>
   rw [q] at e;cases e;obtain⟨v,e1,e2⟩:=r.get q;exact⟨v,by rw [D4 (by simpa [<-hl] using hi),D2,e1];rfl,e2⟩
 ·rw [P3 (by simpa using hi),W1] at e;split at e<;>cases e
def VM (Q:KD):EndsD:= {nx:=λ_ h=> ∃h',Sub h' h/\Q .non h',rt:=λd h=> ∃h',Sub h' h/\Q d h'}
section
variable {P:Program}{w:World}{K:PySem.W.Frag}{mg:Str->Option Value}{base:Heap}
theorem Fun.okD {x qual:Str}{st:Stmt}{f:Addr}{fd:FuncData}{N ps:List Str}{k:Nat}{spd:RDn}(F:Fun K x qual st f fd)(S:FnScope N ps (jc st))(len: ∀ds h Q,spd ds h Q->ds.length=ps.length)
 (tb:TSD)(hbody: ∀ (cdv:Value) (A:Around) (outer:List Env) (s:Shared) (H:Hp) (E:XK),Room k (A.deeper (envOfC qual (jc st) s.heap.objs.size f cdv))->QSs (WL CX0 P w K mg base N qual (jc st) f cdv A outer s H E).nox (jL st) tb)
 (read: ∀ds h Q,spd ds h Q->tb (VM Q) (jQ N ds) h):FnOk P w K mg base CX0 (k+1) f fd ps (LSp K spd):=by
 refine F.ok S (λvs H Q E h=> ?_) (λcdv A outer s H vs Q E hr h=> ?_)
 ·obtain⟨ds,h,Qd,r,rh,q,p⟩:=h;rw [<-r.length];exact len _ _ _ q
 ·obtain⟨ds,h,Qd,r,rh,q,p⟩:=h;refine⟨_,hbody cdv A outer s H E hr,jQ N ds,h,VM Qd,va r,rh,read ds h Qd q,λσd' h' σ' H' k rs' rh' ⟨h2,sb,q'⟩=>p .non .non h2 H' k (rh'.sub sb) rfl q',λd v h' H' k rh' r' ⟨h2,sb,q'⟩=>p d v h2 H' k (rh'.sub sb) r' q',λ_ _ _ _ _ _ _ z=>z.elim,λ_ _ _ _ _ _ _ z=>z.elim⟩
end
section
variable {X:Cx}{iter elt:Expr}{te:TED}{ti:TID}{tt:TTD}{pos spos:Pos}{scope:Scope}{js:List Nat}{ifs:List Expr}
theorem OQ {i k:Nat}{x y:Str}{p py:Pos}(hc:X.calm=true)(hN:X.N.Nodup)(hk:X.N[k]? =some y)(hy:Loc X.env.scope y)(S:BlockOk X scope js)(hi:QI X (.Name x p) iter ti)(hj:i∈js)(hx:X.N[i]? =some x)(hl:scope.names.lookup x=some .local\/scope.names.lookup x=some .cell)
 (ht: ∀X',jt X scope X'->PTs X' ifs (LT X'.K tt))(he: ∀X',jt X scope X'->QE X' elt te)
 (hsw:swapsWith (.ListComp elt [⟨.Name x p,iter,ifs,0⟩] scope pos) (some (.Name y py)) spos.line X.env=pure true:=by rfl)
 (hf:X.fn y=true\/X.env.scope.names.lookup y=some .local:=by first|exact .inl rfl|exact .inr rfl|assumption)(hs: ∀x,foldedSetIterable iter X.env x=pure x:=by intro _;rfl):
 QS X (.Assign [.Name y py] (.ListComp elt [⟨.Name x p,iter,ifs,0⟩] scope pos) spos) (MC k (yD (bN i) js ti tt te)):=by
 have base:PS X (.Assign [.Name y py] (.ListComp elt [⟨.Name x p,iter,ifs,0⟩] scope pos) spos) (NU (tLC js (LI X.K ti) (yu i) (LT X.K tt) (LE X.K te)) (yu k)):=
  Mz hc S hi (λX' hX=>by obtain⟨C,s₀,H₀,ex,rfl⟩:=hX;exact yZ hN hx hl) (λX' hX=>by have:=ht X' hX;obtain⟨C,s₀,H₀,ex,rfl⟩:=hX;exact this)
   (λX' hX=>by have:=he X' hX;obtain⟨C,s₀,H₀,ex,rfl⟩:=hX;exact this) (vy hN hk hy hf) hsw hs
 exact base.imp λD σ H h=>by
  obtain⟨σd,hd,Qd,rs,rh,t,p⟩:=PL (K:=X.K) D σ H h;exact Cq (OO hj) σ H _ ⟨σd,hd,Qd,rs,rh,t,p⟩
end
def dIn (i':Nat)(ti:TID)(tt:TTD)(te:TED)(V:List D->HD->Prop)(ys:List D):SD->HD->Prop:=λσ h=>ti σ h λj h1=> ∃ (n:Nat) (W:Nat->List D->HD->Prop),W 0 ys h1/\ ∀i ys h',W i ys h'->ys.length<=sizeLine/\
 ∃ds,j h'=some ds/\ds.length<=n/\(ds.length<=i->V ys h')/\
  ∀d,ds[i]? =some d->tt (σ.set i' (some d)) h' λb h3=>if b=true then te (σ.set i' (some d)) h3 λy h4=> ∃h5,Sub h5 h4/\W (i+1) (ys++ [y]) h5 else ∃h5,Sub h5 h3/\W (i+1) ys h5
def Sx (bind:D->SD->SD->Prop)(js:List Nat)(ti:TID)(tt:TTD)(i':Nat)(ti':TID)(tt':TTD)(te:TED):TED:=λσ h Q=>ti σ h λj h1=> ∃ (n:Nat) (W:Nat->List D->HD->Prop),W 0 [] h1/\ ∀i ys h',W i ys h'->ys.length<=sizeLine/\
 ∃ds,j h'=some ds/\ds.length<=n/\(ds.length<=i-> ∀p,h' p=none->Q (.lst p) (we h' p ys))/\
  ∀d,ds[i]? =some d-> ∃σ2,bind d (jF js σ) σ2/\tt σ2 h' λb h3=>if b=true then dIn i' ti' tt' te (λys' h6=> ∃h5,Sub h5 h6/\W (i+1) ys' h5) ys σ2 h3 else ∃h5,Sub h5 h3/\W (i+1) ys h5
def PP (K:PySem.W.Frag)(js:List Nat)(i':Nat)(bind:D->SD->SD->Prop)(g:TG):Prop:= ∀ (σ:St) (σd σd2:SD) (H:Hp) (d:D) (v:V) (Q:St->Hp->Prop),RelS K H (jF js σd) (zR js σ)->RelD K H d v->bind d (jF js σd) σd2->
 (∀σ2,Agree (zR js σ) σ2->(∀u,¬σ2[i']? =some (some u))->RelS K H σd2 σ2->Q σ2 H)->g v (zR js σ) H Q
theorem OR {K:PySem.W.Frag}{js:List Nat}{i i':Nat}(hi:i∈js)(hi':i'∈js)(hne:i≠i'):PP K js i' (bN i) (yu i):=λσ σd σd2 H d v Q rs r b q=>by
 cases (show σd2=_ from b);refine q _ (.set v λu=>zr js σ i u hi) (λu z=> ?_) (rs.set r i);rw [N8 hne] at z;exact zr js σ i' u hi' z
theorem OS {K:PySem.W.Frag}{bind:D->SD->SD->Prop}{js:List Nat}{i':Nat}{ti ti':TID}{tt tt':TTD}{te:TED}{g:TG}(hb:PP K js i' bind g): ∀σ H Q,LE K (Sx bind js ti tt i' ti' tt' te) σ H Q->TJ js (LI K ti) g (LT K tt) (LI K ti') (yu i') (LT K tt') (LE K te) σ H Q:=
 λσ H Q ⟨σd,h,Qd,rs,rh,q,p⟩=>by
  refine⟨σd,h,_,rs,rh,q,λj J h1 H1 k1 rh1 jo ⟨n,W,w0,turn⟩=> ?_⟩;refine⟨λi m ys H'=>m=n-i/\Kept H1 H'/\ ∃ds h',RelDs K H' ds ys/\RelH K h' H'/\W i ds h',⟨n-0,rfl,.refl _,[],h1,rfl,rh1,w0⟩,?_⟩;rintro i m ys H' ⟨rfl,kp,yd,h',ry,rh',w⟩;obtain⟨hz,ds,ej,hn,stop,go⟩:=turn i yd h' w;refine⟨by rw [<-ry.length];exact hz,?_⟩;have jo':=jo H' h' kp rh' ds ej i;have kk:Kept H H':=k1.trans kp
  by_cases hi:i<ds.length
  ·obtain⟨g1,y1⟩:=jo'.1 ds[i] (G1 hi);refine .inr ⟨g1,λx H'' y=> ?_⟩;obtain⟨k2,rh2,r2⟩:=y1 x H'' y;obtain⟨σd2,bd,q2⟩:=go ds[i] (G1 hi);refine hb σ σd σd2 H'' ds[i] x _ (((rs.mono (kk.trans k2))).clear js) r2 bd λσ2 ag un rs2=>⟨ag,?_⟩
   refine LT.bind rs2 rh2 q2 λb h3 H3 k3 rs3 rh3 q3=> ?_
   cases b with
   |true=>
    rw [if_pos rfl] at q3 ⊢
    -- the second clause
    refine⟨σd2,h3,_,rs3,rh3,q3,λj2 J2 h4 H4 k4 rh4 jo2 ⟨n2,W2,w20,turn2⟩=> ?_⟩;refine⟨λi2 m2 ys2 H5=>m2=n2-i2/\Kept H4 H5/\ ∃ds h5,RelDs K H5 ds ys2/\RelH K h5 H5/\W2 i2 ds h5,⟨n2-0,rfl,.refl _,yd,h4,ry.mono (k2.trans (k3.trans k4)),rh4,w20⟩,?_⟩;rintro i2 m2 ys2 H5 ⟨rfl,kp5,yd5,h5,ry5,rh5,w5⟩;obtain⟨hz5,ds5,ej5,hn5,stop5,go5⟩:=turn2 i2 yd5 h5 w5;refine⟨by rw [<-ry5.length];exact hz5,?_⟩;have jo5:=jo2 H5 h5 kp5 rh5 ds5 ej5 i2;have kk5:Kept H1 H5:=kp.trans (k2.trans (k3.trans (k4.trans kp5)))
    by_cases hi5:i2<ds5.length
    ·obtain⟨g5,y5⟩:=jo5.1 ds5[i2] (G1 hi5);refine .inr ⟨g5,λx6 H6 yy6=> ?_⟩;obtain⟨k6,rh6,r6⟩:=y5 x6 H6 yy6;refine⟨.set x6 un,?_⟩;have rs6:=(rs3.mono (k4.trans (kp5.trans k6))).set r6 i';refine LT.bind rs6 rh6 (go5 ds5[i2] (G1 hi5)) λb h7 H7 k7 rs7 rh7 q7=> ?_
     cases b with
     |true=>
      rw [if_pos rfl] at q7 ⊢;exact LE.bind rs7 rh7 q7 λd8 v8 h8 H8 k8 rs8 rh8 r8 ⟨h9,sb,w9⟩=>⟨n2-(i2+1),by omega,rfl,kp5.trans (k6.trans (k7.trans k8)),yd5++ [d8],h9,(ry5.mono (k6.trans (k7.trans k8))).append (.cons r8 .nil),rh8.sub sb,w9⟩
     |false=>
      rw [if_neg P7] at q7 ⊢;obtain⟨h9,sb,w9⟩:=q7;exact⟨n2-(i2+1),by omega,rfl,kp5.trans (k6.trans k7),yd5,h9,ry5.mono (k6.trans k7),rh7.sub sb,w9⟩
    ·obtain⟨h9,sb,w9⟩:=stop5 (V5.mp hi5);exact .inl ⟨jo5.2 (V5.mp hi5),n-(i+1),by omega,rfl,kk5,yd5,h9,ry5,rh5.sub sb,w9⟩
   |false=>
    rw [if_neg P7] at q3 ⊢;obtain⟨h5,sb,w5⟩:=q3;exact⟨n-(i+1),by omega,rfl,kp.trans (k2.trans k3),yd,h5,ry.mono (k2.trans k3),rh3.sub sb,w5⟩
  ·refine .inl ⟨jo'.2 (V5.mp hi),λa ha=>p (.lst a) (.ref a) _ _ (kk.trans (.new ha)) (rh'.newL ha ry) ⟨rfl,ys,jl⟩ (stop (V5.mp hi) a (rh'.free ha))⟩
def TK:RD2:=λx y h Q=>match x,y with
 | .int i,.int j=>Q (.int (i+j)) h
 | .tup a,.tup b=>a.length+b.length<=sizeLine/\Q (.tup (a++b)) h
 | .lst a,.lst b=> ∃xs ys,h a=some xs/\h b=some ys/\xs.length+ys.length<=sizeLine/\ ∀p,h p=none->Q (.lst p) (we h p (xs++ys))
 |_,_=>False
def TL:RD2:=λx y h Q=>match x,y with
 | .int i,.int j=>Q (.int (i-j)) h
 |_,_=>False
def TN:RD2:=λx y h Q=>match x,y with
 | .int i,.int j=>CMul i j/\Q (.int (i*j)) h
 | .lst a,.int k=> ∃xs,h a=some xs/\ -(2^63)<=k/\k<2^63/\xs.length*k.toNat<=sizeLine/\ ∀p,h p=none->Q (.lst p) (we h p (List.replicate k.toNat xs).flatten)
 |_,_=>False
def HL:RD2:=λx y h Q=>match x,y with
 | .int i,.int j=>0<j/\Q (.int (i%j)) h
 |_,_=>False
def Sy:RD2:=λx y h Q=>match x,y with
 | .int i,.int j=>Tw i j/\Q (.int (i / j)) h
 |_,_=>False
def TQ:RD2:=λx y h Q=>match x,y with
 | .int i,.int j=>Tx i j/\Q (.int (i^j.toNat)) h
 |_,_=>False
def Bc (p:Int->Int->Bool):RD2:=λx y h Q=>match x,y with
 | .int i,.int j=>Q (.bl (p i j)) h
 |_,_=>False
def eqD:RD2:=λx y h Q=>match x,y with
 | .int i,.int j=>Q (.bl (decide (i=j))) h
 | .bl i,.bl j=>Q (.bl (decide (i=j))) h
 | .str i,.str j=>Q (.bl (decide (i=j))) h
 |_,_=>False
def neD:RD2:=λx y h Q=>match x,y with
 | .int i,.int j=>Q (.bl (!decide (i=j))) h
 | .bl i,.bl j=>Q (.bl (!decide (i=j))) h
 | .str i,.str j=>Q (.bl (!decide (i=j))) h
 |_,_=>False
section
variable {X:Cx}
theorem YH {f:Value->Value->Sem Value}{C:Int->Int->Prop}{g:Int->Int->V}{gd:Int->Int->D}{r:RD2}(ho:OpR X f (rI C g))(hg: ∀i j H,RelD X.K H (gd i j) (g i j))
 (hr: ∀x y h Q,r x y h Q-> ∃i j,x= .int i/\y= .int j/\C i j/\Q (gd i j) h):OpQ X f r:=ho.imp λx y H Q ⟨dx,dy,h,Qd,rx,ry,rh,q,p⟩=>by
 obtain⟨i,j,e1,e2,c,q'⟩:=hr dx dy h Qd q;subst e1 e2;exact⟨i,j,rx,ry,c,p _ _ _ _ (.refl H) rh (hg i j H) q'⟩
theorem vW {f:Value->Value->Sem Value}{g:Int->Int->V}{gd:Int->Int->D}{r:RD2}(ho:OpR X f (rI0 g))(hg: ∀i j H,RelD X.K H (gd i j) (g i j))
 (hr: ∀x y h Q,r x y h Q-> ∃i j,x= .int i/\y= .int j/\Q (gd i j) h):OpQ X f r:=ho.imp λx y H Q ⟨dx,dy,h,Qd,rx,ry,rh,q,p⟩=>by
 obtain⟨i,j,e1,e2,q'⟩:=hr dx dy h Qd q;subst e1 e2;exact⟨i,j,rx,ry,p _ _ _ _ (.refl H) rh (hg i j H) q'⟩
theorem XV:OpQ X (binaryOp .Sub) TL:=vW (gd:=λi j=> .int (i-j)) LU (λ_ _ _=>rfl) λx y h Q q=>by
 cases x<;>cases y<;>first|exact False.elim q|exact⟨_,_,rfl,rfl,q⟩
theorem vi:OpQ X (binaryOp .Mod) HL:=YH (gd:=λi j=> .int (i%j)) LV (λ_ _ _=>rfl) λx y h Q q=>by
 cases x<;>cases y<;>first|exact False.elim q|exact⟨_,_,rfl,rfl,q.1,q.2⟩
theorem Cv:OpQ X (binaryOp .FloorDiv) Sy:=YH (gd:=λi j=> .int (i / j)) BH (λ_ _ _=>rfl) λx y h Q q=>by
 cases x<;>cases y<;>first|exact False.elim q|exact⟨_,_,rfl,rfl,q.1,q.2⟩
theorem Bd:OpQ X (binaryOp .Pow) TQ:=YH (gd:=λi j=> .int (i^j.toNat)) LW (λ_ _ _=>rfl) λx y h Q q=>by
 cases x<;>cases y<;>first|exact False.elim q|exact⟨_,_,rfl,rfl,q.1,q.2⟩
theorem YI {p:Int->Int->Bool}: ∀x y h Q,Bc p x y h Q-> ∃i j,x= .int i/\y= .int j/\Q (.bl (p i j)) h:=λx y h Q q=>by
 cases x<;>cases y<;>first|exact False.elim q|exact⟨_,_,rfl,rfl,q⟩
theorem UT:OpQ X (compareOp .Lt) (Bc λi j=>decide (i<j)):=vW (gd:=λi j=> .bl (decide (i<j))) EN (λ_ _ _=>rfl) YI
theorem PQ:OpQ X (compareOp .LtE) (Bc λi j=>decide (i<=j)):=vW (gd:=λi j=> .bl (decide (i<=j))) EO (λ_ _ _=>rfl) YI
theorem Ga:OpQ X (compareOp .Gt) (Bc λi j=>decide (j<i)):=vW (gd:=λi j=> .bl (decide (j<i))) EQ (λ_ _ _=>rfl) YI
theorem ME:OpQ X (compareOp .GtE) (Bc λi j=>decide (j<=i)):=vW (gd:=λi j=> .bl (decide (j<=i))) ER (λ_ _ _=>rfl) YI
theorem Lg {α:Type}[DecidableEq α]{f:α->V}(hf: ∀a b,f a=f b->a=b)(a b:α):decide (f a=f b)=decide (a=b):=by
 by_cases h:a=b
 ·subst h;simp
 ·rw [D1 h,D1 (λe=>h (hf a b e))]
theorem oq_eq:OpQ X (compareOp .Eq) eqD:=op_eq.imp λx y H Q ⟨dx,dy,h,Qd,rx,ry,rh,q,p⟩=>by
 cases dx<;>cases dy<;>first
  |exact False.elim q
  |(cases (show x= .int _ from rx);cases (show y= .int _ from ry);refine⟨rfl,p _ _ _ _ (.refl H) rh ?_ q⟩;rw [Lg (f:=V.int) (λa b e=>by cases e;rfl)];rfl)
  |(cases (show x= .bl _ from rx);cases (show y= .bl _ from ry);refine⟨rfl,p _ _ _ _ (.refl H) rh ?_ q⟩;rw [Lg (f:=V.bl) (λa b e=>by cases e;rfl)];rfl)
  |(cases (show x= .str _ from rx);cases (show y= .str _ from ry);refine⟨rfl,p _ _ _ _ (.refl H) rh ?_ q⟩;rw [Lg (f:=V.str) (λa b e=>by cases e;rfl)];rfl)
theorem oq_ne:OpQ X (compareOp .NotEq) neD:=op_ne.imp λx y H Q ⟨dx,dy,h,Qd,rx,ry,rh,q,p⟩=>by
 cases dx<;>cases dy<;>first
  |exact False.elim q
  |(cases (show x= .int _ from rx);cases (show y= .int _ from ry);refine⟨rfl,p _ _ _ _ (.refl H) rh ?_ q⟩;rw [Lg (f:=V.int) (λa b e=>by cases e;rfl)];rfl)
  |(cases (show x= .bl _ from rx);cases (show y= .bl _ from ry);refine⟨rfl,p _ _ _ _ (.refl H) rh ?_ q⟩;rw [Lg (f:=V.bl) (λa b e=>by cases e;rfl)];rfl)
  |(cases (show x= .str _ from rx);cases (show y= .str _ from ry);refine⟨rfl,p _ _ _ _ (.refl H) rh ?_ q⟩;rw [Lg (f:=V.str) (λa b e=>by cases e;rfl)];rfl)
def OT (K:PySem.W.Frag):R2:=λx y H Q=> ∃a b xs ys,x= .ref a/\y= .ref b/\SqT K H a xs/\SqT K H b ys/\xs= []/\Q (.ref b) H
theorem op_catT0:OpR X (binaryOp .Add) (OT X.K):=by
 intro pins s σ H x y v u Q I rx ry h;obtain⟨a,b,xs,ys,rfl,rfl,ha,hb,hx,q⟩:=h;cases rx;cases ry;obtain⟨its,r1,p1,_⟩:=I.tuple ha;obtain⟨its2,r2,p2,_⟩:=I.tuple hb;have hv:its= []:=r1.nil_iff.mpr hx;obtain⟨⟨cls,dd,data,sl⟩,ho,hc,n,hd⟩:=id p1;obtain⟨⟨cls2,dd2,data2,sl2⟩,ho2,hc2,n2,hd2⟩:=id p2;simp only at hc hd hc2 hd2;subst hc hd hc2 hd2;exact concat_meets ⟨_,ho,rfl⟩ ⟨_,ho2,rfl⟩ G0K seq_tuple_add X0 W4 (V3 _ _)
  (tuple_addW0 a b its.toArray its2.toArray n n2 dd dd2 sl sl2 (by simp [hv])) ⟨ho,ho2,.ref b,H,I,rfl,q⟩
theorem zn:OpQ X (binaryOp .Add) TK:=(op_add.or (op_catT.or (op_catT0.or Og))).imp λx y H Q ⟨dx,dy,h,Qd,rx,ry,rh,q,p⟩=>by
 cases dx<;>cases dy<;>first
  |exact False.elim q
  |skip
 ·exact .inl ⟨_,_,rx,ry,p (.int _) _ _ _ (.refl H) rh rfl q⟩
 ·rename_i ds es;obtain⟨a,vs,e1,h1,r1⟩:=(show ∃a vs,x= .ref a/\H a=some (.tup vs)/\RelDs X.K H ds vs from rx);obtain⟨b,us,e2,h2,r2⟩:=(show ∃a vs,y= .ref a/\H a=some (.tup vs)/\RelDs X.K H es vs from ry);subst e1 e2;obtain⟨hz,q⟩:=q
  by_cases hv:vs= []
  ·subst hv;have e:ds= []:=K1.mp r1.length;subst e;exact .inr (.inr (.inl ⟨a,b,[],us,rfl,rfl,SqT.of h1,SqT.of h2,rfl,p (.tup es) _ _ _ (.refl H) rh ⟨b,us,rfl,h2,r2⟩ q⟩))
  ·refine .inr (.inl ⟨a,b,vs,us,rfl,rfl,SqT.of h1,SqT.of h2,hv,by rw [<-r1.length,<-r2.length];exact hz,λe=> ?_,λ_ c hc=> ?_⟩)
   ·subst e;have e:es= []:=K1.mp r2.length;subst e;rw [B1] at q;exact p (.tup ds) _ _ _ (.refl H) rh ⟨a,vs,rfl,h1,r1⟩ q
   ·exact p (.tup (ds++es)) _ _ _ (.new hc) (rh.new hc) ⟨c,vs++us,rfl,jl,(r1.append r2).mono (.new hc)⟩ q
 ·rename_i a b;obtain⟨xs,ys,h1,h2,hz,q⟩:=q;obtain⟨vs,e1,r1⟩:=rh a xs h1;obtain⟨us,e2,r2⟩:=rh b ys h2;refine .inr (.inr (.inr ⟨a,b,vs,us,rx.1,ry.1,e1,e2,by rw [<-r1.length,<-r2.length];exact hz,λc hc=> ?_⟩));exact p (.lst c) _ _ _ (.new hc) (rh.newL hc (r1.append r2)) ⟨rfl,_,jl⟩ (q c (rh.free hc))
theorem RelDs.flat {K:PySem.W.Frag}{H:Hp}{ds:List D}{vs:List V}(r:RelDs K H ds vs): ∀k:Nat,RelDs K H (List.replicate k ds).flatten (List.replicate k vs).flatten
 |0=>by simp;exact .nil
 |k+1=>by rw [L0,L0,J8,J8];exact r.append (RelDs.flat r k)
theorem oq_mul:OpQ X (binaryOp .Mult) TN:=(op_mul.or Oh).imp λx y H Q ⟨dx,dy,h,Qd,rx,ry,rh,q,p⟩=>by
 cases dx<;>cases dy<;>first
  |exact False.elim q
  |skip
 ·exact .inl ⟨_,_,rx,ry,q.1,p (.int _) _ _ _ (.refl H) rh rfl q.2⟩
 ·obtain⟨xs,h1,b1,b2,hz,q⟩:=q;obtain⟨vs,e1,r1⟩:=rh _ xs h1;refine .inr ⟨_,_,vs,rx.1,ry,e1,b1,b2,by rw [<-r1.length];exact hz,λc hc=> ?_⟩;exact p (.lst c) _ _ _ (.new hc) (rh.newL hc (r1.flat _)) ⟨rfl,_,jl⟩ (q c (rh.free hc))
end
def ixD:RD2:=λx y h Q=>match x,y with
 | .tup ds,.int i=> ∃d,atI ds i=some d/\Q d h
 | .lst a,.int i=> ∃ds d,h a=some ds/\atI ds i=some d/\Q d h
 | .scr ns,.int i=> ∃n,atI ns i=some n/\Q (.int n) h
 |_,_=>False
theorem PR {K:PySem.W.Frag}{H:Hp}{ds:List D}{vs:List V}(r:RelDs K H ds vs){i:Int}{d:D}(e:atI ds i=some d): ∃v,atI vs i=some v/\RelD K H d v:=by
 unfold atI at e ⊢;rw [<-r.length];cases q:ixN ds.length i with
 |none=>rw [q] at e;cases e
 |some j=>rw [q] at e;exact r.get e
theorem Cw {α β:Type}(f:α->β){xs:List α}{i:Int}{x:α}(e:atI xs i=some x):atI (xs.map f) i=some (f x):=by
 unfold atI at e ⊢;rw [G0];cases q:ixN xs.length i with
 |none=>rw [q] at e;cases e
 |some j=>
  rw [q] at e;show (xs.map f)[j]? =_;rw [D2,(show xs[j]? =some x from e)];rfl
section
variable {X:Cx}{a b e:Expr}{ta tb te:TED}{pos p2:Pos}
theorem Sz: ∀σ H Q,LE X.K (dOp ixD ta tb) σ H Q->tOp (rIx X.K) (LE X.K ta) (LE X.K tb) σ H Q:=λσ H Q ⟨σd,h,Qd,rs,rh,t,p⟩=>
 LE.bind rs rh t λdx x h1 H1 k1 rs1 rh1 r1 t1=>LE.bind rs1 rh1 t1 λdy y h2 H2 k2 rs2 rh2 ry q=>by
  have rx:=r1.mono k2;have kk:=k1.trans k2;cases dx<;>cases dy<;>first
   |exact False.elim q
   |skip
  ·rename_i ds i;obtain⟨d,e,q⟩:=q;obtain⟨a,vs,e1,hH,r⟩:=(show ∃a vs,x= .ref a/\H2 a=some (.tup vs)/\RelDs X.K H2 ds vs from rx);obtain⟨v,e2,rv⟩:=PR r e;exact .inr (.inl ⟨a,vs,i,v,e1,ry,SqT.of hH,e2,p _ _ _ _ kk rh2 rv q⟩)
  ·rename_i a i;obtain⟨ds,d,hd,e,q⟩:=q;obtain⟨vs,hH,r⟩:=rh2 a ds hd;obtain⟨v,e2,rv⟩:=PR r e;exact .inl ⟨a,vs,i,v,rx.1,ry,SqL.of hH,e2,p _ _ _ _ kk rh2 rv q⟩
  ·rename_i ns i;obtain⟨n,e,q⟩:=q;obtain⟨a,e1,hS⟩:=(show ∃a,x= .ref a/\Scr X.K H2 a ns from rx);exact .inl ⟨a,_,i,.int n,e1,ry,hS.sq,Cw V.int e,p (.int n) _ _ _ kk rh2 rfl q⟩
theorem qix (ha:QE X a ta)(hb:QE X b tb)(hs:YB b):QE X (.Subscript a b pos) (dOp ixD ta tb):=(EV Oe ha hb hs).imp Sz
end
def Lh:RDn:=λds h Q=>match ds with
 | [.tup xs]=>Q (.int xs.length) h
 | [.lst a]=> ∃xs,h a=some xs/\Q (.int xs.length) h
 | [.scr ns]=>Q (.int ns.length) h
 |_=>False
def SA:RDn:=λds h Q=>match ds with
 | [.int i]=>Q (.int i) h
 | [.bl k]=>Q (.int (if k then 1 else 0)) h
 |_=>False
def SB:RDn:=λds h Q=>match ds with
 | [.int i,.int j]=>Q (.int (if j>i then j else i)) h
 |_=>False
def Be:RDn:=λds h Q=>match ds with
 | [.tup xs]=>Q (.tup xs) h
 | [.lst a]=> ∃xs,h a=some xs/\Q (.tup xs) h
 |_=>False
def vj:RDn:=λds h Q=>match ds with
 | [.lst a]=> ∃xs,h a=some xs/\Q (.tup xs) (WP h a)
 |_=>False
section
variable {X:Cx}
theorem OU:yw X (.builtin "len") Lh:=call_len_seq.imp λxs H Q ⟨ds,h,Qd,r,rh,q,p⟩=>by
 unfold Lh at q;split at q
 ·rename_i es;obtain⟨v,e,r1⟩:=jA r;obtain⟨a,vs,e1,hH,r2⟩:=(show ∃a vs,v= .ref a/\H a=some (.tup vs)/\RelDs X.K H es vs from r1);subst e e1;exact⟨a,vs,rfl,.inr (SqT.of hH),by rw [<-r2.length];exact p (.int _) _ _ _ (.refl H) rh rfl q⟩
 ·rename_i a;obtain⟨es,hd,q⟩:=q;obtain⟨v,e,r1⟩:=jA r;obtain⟨vs,hH,r2⟩:=rh a es hd;have e1:v= .ref a:=r1.1;subst e e1;exact⟨a,vs,rfl,.inl (SqL.of hH),by rw [<-r2.length];exact p (.int _) _ _ _ (.refl H) rh rfl q⟩
 ·rename_i ns;obtain⟨v,e,r1⟩:=jA r;obtain⟨a,e1,hS⟩:=(show ∃a,v= .ref a/\Scr X.K H a ns from r1);subst e e1;exact⟨a,_,rfl,.inl hS.sq,by rw [G0];exact p (.int _) _ _ _ (.refl H) rh rfl q⟩
 ·exact q.elim
theorem PU:yw X (.type "int") SA:=call_int1.imp λxs H Q ⟨ds,h,Qd,r,rh,q,p⟩=>by
 unfold SA at q;split at q
 ·rename_i i;obtain⟨v,e,r1⟩:=jA r;cases (show v= .int i from r1);exact .inl ⟨i,e,p (.int i) _ _ _ (.refl H) rh rfl q⟩
 ·rename_i k;obtain⟨v,e,r1⟩:=jA r;cases (show v= .bl k from r1);exact .inr ⟨k,e,p (.int _) _ _ _ (.refl H) rh rfl q⟩
 ·exact q.elim
theorem OV (hc:X.calm=true):yw X (.builtin "max") SB:=(Ph hc).imp λxs H Q ⟨ds,h,Qd,r,rh,q,p⟩=>by
 unfold SB at q;split at q
 ·rename_i i j;obtain⟨v,w,e,r1,r2⟩:=yC r;cases (show v= .int i from r1);cases (show w= .int j from r2);exact⟨i,j,e,p (.int _) _ _ _ (.refl H) rh rfl q⟩
 ·exact q.elim
theorem cq_tuple:yw X (.type "tuple") Be:=call_tuple_of.imp λxs H Q ⟨ds,h,Qd,r,rh,q,p⟩=>by
 unfold Be at q;split at q
 ·rename_i es;obtain⟨v,e,r1⟩:=jA r;obtain⟨a,vs,e1,hH,r2⟩:=(show ∃a vs,v= .ref a/\H a=some (.tup vs)/\RelDs X.K H es vs from r1);subst e e1;exact⟨a,vs,rfl,.inr ⟨SqT.of hH,p (.tup es) _ _ _ (.refl H) rh ⟨a,vs,rfl,hH,r2⟩ q⟩⟩
 ·rename_i a;obtain⟨es,hd,q⟩:=q;obtain⟨v,e,r1⟩:=jA r;obtain⟨vs,hH,r2⟩:=rh a es hd;have e1:v= .ref a:=r1.1;subst e e1;exact⟨a,vs,rfl,.inl ⟨SqL.of hH,λc hc=>p (.tup es) _ _ _ (.new hc) (rh.new hc) ⟨c,vs,rfl,jl,r2.mono (.new hc)⟩ q⟩⟩
 ·exact q.elim
theorem wj:yw X (.type "tuple") vj:=cq_tuple.imp λxs H Q ⟨ds,h,Qd,r,rh,q,p⟩=>by
 unfold vj at q;split at q
 ·rename_i a;obtain⟨es,hd,q⟩:=q;exact⟨[.lst a],h,λd h'=>Qd d (WP h' a),r,rh,⟨es,hd,q⟩,λd v h' H' k rh' rd q'=>p d v _ H' k (rh'.sub (Sub.drop h' a)) rd q'⟩
 ·exact q.elim
end
def VN:D->Option String
 | .non=>some "NoneType" | .bl _=>some "bool" | .int _=>some "int" | .str _=>some "str" | .tup _=>some "tuple" | .lst _=>some "list" | .dic _ _=>some "dict" | .dct _=>none| .scr _=>none| .exc _=>none| .fn _=>none
def OW (T:String)(n:String):Bool:=n==T||(T== "int" &&n== "bool")
theorem MF {K:PySem.W.Frag}{H:Hp}{d:D}{v:V}{n:String}(r:RelD K H d v)(e:VN d=some n):TyOf K H v (.type n):=by
 cases d with
 |non=>cases (show v= .non from r);cases e;exact .non
 |bl b=>cases (show v= .bl b from r);cases e;exact .bl b
 |int i=>cases (show v= .int i from r);cases e;exact .int i
 |str x=>cases (show v= .str x from r);cases e;exact .str x
 |tup ds=>
  obtain⟨a,vs,e1,hH,_⟩:=(show ∃a vs,v= .ref a/\H a=some (.tup vs)/\RelDs K H ds vs from r);subst e1;cases e;exact .tup hH
 |lst a=>
  obtain⟨e1,vs,hH⟩:=(show v= .ref a/\ ∃vs,H a=some (.lst vs) from r);subst e1;cases e;exact .lst hH
 |dic x i=>
  obtain⟨a,e1,hH⟩:=(show ∃a,v= .ref a/\H a=some (.dK [(Sum.inr x,V.int i)]) from r);subst e1;cases e;exact .dK hH
 |dct a=>cases e
 |scr ns=>cases e
 |exc C=>cases e
 |fn a=>cases e
def Cy:List String:= ["NoneType","bool","int","str","tuple","list","dict"]
theorem Gb {d:D}{n:String}(e:VN d=some n):n∈Cy:=by
 cases d<;>cases e<;>decide
def SC (K:PySem.W.Frag):Prop:= ∀n∈Cy,∀T∈ ["tuple","int","bool","list","str"],PySem.W.kitOne K (.type n) (.type T)=some (OW T n)
theorem Cz (K:PySem.W.Frag):SC K:=by
 intro n hn T hT;simp only [Cy,D0,M0,W5] at hn hT;rcases hn with rfl|rfl|rfl|rfl|rfl|rfl|rfl<;>rcases hT with rfl|rfl|rfl|rfl|rfl<;>with_unfolding_all rfl
theorem PV {X:Cx}(T:String):CallR X (.builtin "isinstance") (λxs H Q=> ∃x t b,xs= [x,.ty T]/\TyOf X.K H x t/\PySem.W.kitOne X.K t (.type T)=some b/\Q (.bl b) H):=by
 intro pins s σ H xs us Q I r h;obtain⟨x,t,b,rfl,ty,e,q⟩:=h;obtain⟨u,w',rfl,rx,rt⟩:=Mo r;cases (show w'=Value.type T from rt);exact Pj I rx ty e λtk=>⟨.bl b,H,I.tok tk,rfl,q⟩
def dIs (T:String)(ta:TED):TED:=λσ h Q=>ta σ h λx h1=> ∃n,VN x=some n/\Q (.bl (OW T n)) h1
theorem SE {X:Cx}{a:Expr}{ta:TED}{T:String}{t:Str}{p p2 pos:Pos}(hT:T∈ ["tuple","int","bool","list","str"])(hg:Gl X "isinstance")(hm:X.mg "isinstance" =none)(hg2:Gl X t)(hm2:X.mg t=none)(hv:bootBuiltins t=some (.type T))(ha:QE X a ta)
 (hn:t≠ "__name__" :=by decide)(hd:(t==("__debug__" :Str))=false:=by decide)
 (h1:starEach [a,.Name t p2] X.env=(false,eval a X.env)::starEach [.Name t p2] X.env:=by rfl)(h2:(backTo pos (starEach [.Name t p2] X.env)).any (·.1)=false:=by rfl):
 QE X (.Call (.Name "isinstance" p) [a,.Name t p2] [] pos) (dIs T ta):=
 (Zx (PV T) hg hm K8 (wG ha (wG (GX (v:= .ty T) hg2 hm2 hv rfl hn hd) pa_nil (by rfl)) h1) (by decide) (by decide) h1 h2).imp
  λσ H Q ⟨σd,h,Qd,rs,rh,t,p⟩=>LE.bind rs rh t λd v h1 H1 k1 rs1 rh1 r1 ⟨n,e,q⟩=>⟨v,.type n,OW T n,rfl,MF r1 e,Cz _ n (Gb e) T hT,p (.bl _) _ _ _ k1 rh1 rfl q⟩
theorem PX (bs:List Bool):(List.range bs.length).all (λi=>bs.getD i false)=bs.all id:=by
 induction bs with
 |nil=>rfl
 |cons b bs ih=>
  rw [D3,A9,List.all_cons,A1,List.all_cons];show (b&&_)=(b&&bs.all id);rw [<-ih];rfl
theorem PY (bs:List Bool):(List.range bs.length).any (λi=>bs.getD i false)=bs.any id:=by
 induction bs with
 |nil=>rfl
 |cons b bs ih=>
  rw [D3,A9,Z7,G1j,Z7];show (b||_)=(b||bs.any id);rw [<-ih];rfl
theorem VO {bs:List Bool}{its:List Value}(r:Vals (bs.map V.bl) its){i:Nat}{v:Value}(e:its[i]? =some v):v= .bool (bs.getD i false):=by
 have hl:=r.length;rw [G0] at hl;have hi:i<its.length:=(G5.mp e).1;have hb:(bs.map V.bl)[i]? =some (.bl bs[i]):=by rw [D2,G1 (by omega)];rfl
 obtain⟨u,e1,r1⟩:=r.get hb;rw [e] at e1;cases e1;rw [P1,G1 (by omega)];exact r1
section
variable {X:Cx}
theorem YJ (hc:X.calm=true):CallR X (.builtin "all") (λxs H Q=> ∃ (a:Addr) (bs:List Bool),xs= [.ref a]/\SqL X.K H a (bs.map V.bl)/\Q (.bl (bs.all id)) H):=by
 intro pins s σ H xs us Q I r h;obtain⟨a,bs,rfl,hS,q⟩:=h;obtain⟨u,rfl,ru⟩:=Jz r;cases ru;obtain⟨its,rv,pl,hz⟩:=I.list hS;have hl:=pl.isList;have hlt:a<s.heap.objs.size:=by obtain⟨_,e,_⟩:=hl;exact P5 e
 refine call_all_walk (A2 hl ?_);refine⟨s.heap.objs.size,_,_,_,_,_,λi=>bs.getD i false,rfl,G0Z (A:=X.A.in1) (show X.A.in1.handled=none from I.ok.hd hc) s.heap.objs.size a (R6 hlt) its.toArray,⟨⟨_,D9 _ rfl,rfl,rfl⟩,hl.push _⟩,?_,λh' tk hk=> ?_⟩
 ·intro i v s' Q' E' hP hQ;have e:its[i]? =some v:=by simpa using hP
  rw [VO rv e];exact N4 hQ
 ·have hn:its.toArray.size=bs.length:=by rw [P8,<-rv.length,G0]
  rw [hn,PX];exact⟨.bl _,H,I.kept (t':=tk) (λb o e=>hk b o (λz=>by rw [G2.mp z] at e;exact absurd (P5 e) (M5 _)) (G3 _ e)),rfl,q⟩
theorem YK (hc:X.calm=true):CallR X (.builtin "any") (λxs H Q=> ∃ (a:Addr) (bs:List Bool),xs= [.ref a]/\SqL X.K H a (bs.map V.bl)/\Q (.bl (bs.any id)) H):=by
 intro pins s σ H xs us Q I r h;obtain⟨a,bs,rfl,hS,q⟩:=h;obtain⟨u,rfl,ru⟩:=Jz r;cases ru;obtain⟨its,rv,pl,hz⟩:=I.list hS;have hl:=pl.isList;have hlt:a<s.heap.objs.size:=by obtain⟨_,e,_⟩:=hl;exact P5 e
 refine call_any_walk (A2 hl ?_);refine⟨s.heap.objs.size,_,_,_,_,_,λi=>bs.getD i false,rfl,G0Z (A:=X.A.in1) (show X.A.in1.handled=none from I.ok.hd hc) s.heap.objs.size a (R6 hlt) its.toArray,⟨⟨_,D9 _ rfl,rfl,rfl⟩,hl.push _⟩,?_,λh' tk hk=> ?_⟩
 ·intro i v s' Q' E' hP hQ;have e:its[i]? =some v:=by simpa using hP
  rw [VO rv e];exact N4 hQ
 ·have hn:its.toArray.size=bs.length:=by rw [P8,<-rv.length,G0]
  rw [hn,PY];exact⟨.bl _,H,I.kept (t':=tk) (λb o e=>hk b o (λz=>by rw [G2.mp z] at e;exact absurd (P5 e) (M5 _)) (G3 _ e)),rfl,q⟩
theorem vB {K:PySem.W.Frag}{H:Hp}: ∀ {bs:List Bool} {vs:List V},RelDs K H (bs.map D.bl) vs->vs=bs.map V.bl
 | [],_,h=>h
 |b::bs,vs,h=>by
  obtain⟨v,r,e,h1,h2⟩:=(show ∃v r,vs=v::r/\RelD K H (.bl b) v/\RelDs K H (bs.map D.bl) r from h);rw [e,vB h2,(show v= .bl b from h1)];rfl
def SF:RDn:=λds h Q=> ∃ (a:Addr) (bs:List Bool),ds= [.lst a]/\h a=some (bs.map D.bl)/\Q (.bl (bs.all id)) (WP h a)
def SG:RDn:=λds h Q=> ∃ (a:Addr) (bs:List Bool),ds= [.lst a]/\h a=some (bs.map D.bl)/\Q (.bl (bs.any id)) (WP h a)
theorem Yl (hc:X.calm=true):yw X (.builtin "all") SF:=(YJ hc).imp λxs H Q ⟨ds,h,Qd,r,rh,⟨a,bs,e,hd,q⟩,p⟩=>by
 subst e;obtain⟨v,e,r1⟩:=jA r;obtain⟨vs,hH,r2⟩:=rh a _ hd;have e1:v= .ref a:=r1.1;rw [vB r2] at hH;subst e e1;exact⟨a,bs,rfl,SqL.of hH,p (.bl _) _ _ _ (.refl H) (rh.sub (Sub.drop h a)) rfl q⟩
theorem OX (hc:X.calm=true):yw X (.builtin "any") SG:=(YK hc).imp λxs H Q ⟨ds,h,Qd,r,rh,⟨a,bs,e,hd,q⟩,p⟩=>by
 subst e;obtain⟨v,e,r1⟩:=jA r;obtain⟨vs,hH,r2⟩:=rh a _ hd;have e1:v= .ref a:=r1.1;rw [vB r2] at hH;subst e e1;exact⟨a,bs,rfl,SqL.of hH,p (.bl _) _ _ _ (.refl H) (rh.sub (Sub.drop h a)) rfl q⟩
end
def TR (to:TED)(te:TED):TED:=λσ h Q=>to σ h λx h1=> ∃a,x= .lst a/\te σ h1 λy h2=> ∃xs,h2 a=some xs/\xs.length<sizeLine/\Q .non (we h2 a (xs++ [y]))
section
variable {X:Cx}{o e i:Expr}{to te ti:TED}{apos cpos pos:Pos}
theorem HM (ho:QE X o to)(he:QE X e te)(hbase:attributeBase o "append" X.env (eval o X.env)=eval o X.env:=by rfl)
 (hfew:((backTo cpos (starEach [e] X.env)).all (λx=> !x.1)&&(backToKw cpos (keywordEach [] X.env)).all (λx=>x.1.isSome)&&decide ([e].length+([]:List Keyword).length+(if ([]:List Keyword).isEmpty then 0 else 1)<30))=true:=by rfl)
 (hline:(apos.endLine==cpos.line)=true:=by rfl)(hs:starEach [e] X.env=(false,eval e X.env)::starEach [] X.env:=by rfl)(hplain:(backTo cpos (starEach [] X.env)).any (·.1)=false:=by rfl):
 QE X (.Call (.Attribute o "append" apos) [e] [] cpos) (TR to te):=
 (BT W6 PySem.F.slot_list_append PySem.F.type_list_append Pp ho (wG he pa_nil hs) hbase hfew hline hs hplain).imp
  λσ H Q ⟨σd,h,Qd,rs,rh,t,p⟩=>LE.bind rs rh t λd v h1 H1 k1 rs1 rh1 r1 ⟨a,e,q⟩=>by
   subst e;obtain⟨e1,vs,hH⟩:=(show v= .ref a/\ ∃vs,H1 a=some (.lst vs) from r1);subst e1;refine⟨.inl ⟨rfl,vs,SqL.of hH⟩,?_⟩;refine LE.bind rs1 rh1 q λy u h2 H2 k2 rs2 rh2 r2 ⟨xs,hx,hz,q2⟩=> ?_
   obtain⟨ws,hW,r3⟩:=rh2 a xs hx;refine⟨a,ws,u,rfl,rfl,hW,by rw [<-r3.length];exact hz,p .non _ _ _ (k1.trans (k2.trans (.put hW))) (rh2.put hW (r3.append (.cons r2 .nil))) rfl q2⟩
def OY (to ti:TED):TGD:=λd σ h Q=>to σ h λo h1=>ti σ h1 λi h2=> ∃a k xs j,o= .lst a/\i= .int k/\h2 a=some xs/\ixN xs.length k=some j/\Q σ (we h2 a (xs.set j d))
theorem OZ (ho:QE X o to)(hi:QE X i ti)
 (ha: ∀v,assign (.Subscript o i pos) X.env v=(do
  let ov <-holding [v] (eval o X.env)
  let iv <-holding [v,ov] (eval i X.env)
  standAt pos
  holding [v,ov,iv] (setItem ov iv v)
  release [v,ov,iv] []):=by intro _;rfl):QG X (.Subscript o i pos) (OY to ti):=
 (LB ho hi Mt ha).imp λv σ H Q ⟨d,σd,h,Qd,r,rs,rh,q,p⟩=>
  LE.bind rs rh q λd1 v1 h1 H1 k1 rs1 rh1 r1 q1=>LE.bind rs1 rh1 q1 λd2 v2 h2 H2 k2 rs2 rh2 r2 ⟨a,k,xs,j,e1,e2,hx,hj,q2⟩=>by
   subst e1 e2;have e3:v1= .ref a:=(r1.mono k2).1;obtain⟨ws,hW,r3⟩:=rh2 a xs hx;refine⟨a,ws,k,j,e3,r2,hW,by rw [<-r3.length];exact hj,p _ _ _ _ (k1.trans (k2.trans (.put hW))) (rs2.mono (.put hW)) (rh2.put hW (RelDs.set ((r.mono k1).mono k2) j r3)) q2⟩
end
def XW (N:List Str)(sc:List (Str×NameKind))(scope:Scope)(js:List Nat):Bool:=
 scope.kind== .function&&scope.names.all (λp=>p.2 != .cell||scope.names.lookup p.1==some .cell)&&scope.names.all (λp=>p.2 != .local||scope.names.lookup p.1==some .local)&&
 scope.names.all (λp=>p.2 != .free||sc.lookup p.1==some .cell||sc.lookup p.1==some .free)&&
 (List.range N.length).all λi=>(scope.names.lookup (N.getD i Str.empty) !=some .local&&scope.names.lookup (N.getD i Str.empty) !=some .cell)||js.contains i
theorem wf {X:Cx}{scope:Scope}{js:List Nat}(h:XW X.N X.env.scope.names scope js=true):BlockOk X scope js:=by
 unfold XW at h;simp only [S5] at h;obtain⟨⟨⟨⟨h1,h2⟩,h3⟩,h4⟩,h5⟩:=h;refine⟨eq_of_beq h1,λp hp e=> ?_,λp hp e=> ?_,λp hp e=> ?_,λi x e1 e2=> ?_⟩
 ·have:=R0.mp h3 p hp;rw [e] at this;simpa using this
 ·have:=R0.mp h2 p hp;rw [e] at this;simpa using this
 ·have:=R0.mp h4 p hp;rw [e] at this;simpa using this
 ·have hi:i<X.N.length:=(G5.mp e1).1;have:=R0.mp h5 i (P2.mpr hi);rw [P1,e1,Option.getD_some] at this;rcases e2 with e2|e2<;>(rw [e2] at this;simpa using this)
theorem qpt {X:Cx}{e:Expr}{t:TTD}(h:QW X e t):QT X e t:=h.pt
theorem PZ {i:Nat}{js:List Nat}{ti:TID}{te:TED}{σ:SD}{h h1:HD}{Q:KD}{ds:List D}{j:ItD}(f:D->D)(hz:ds.length<=sizeLine)(hj:j h1=some ds)
 (ht: ∀R:ItD->HD->Prop,R j h1->ti σ h R)(he: ∀d∈ds,∀Q':KD,Q' (f d) h1->te ((jF js σ).set i (some d)) h1 Q')(hq: ∀p,h1 p=none->Q (.lst p) (we h1 p (ds.map f))):yD (bN i) js ti WK te σ h Q:=by
 refine ht _ ⟨ds.length,λk ys h'=>h'=h1/\ys=(ds.take k).map f,⟨rfl,by simp⟩,?_⟩;rintro k ys h' ⟨rfl,rfl⟩;refine⟨by simp only [G0,R3];omega,ds,hj,G8 _,λhl p hp=> ?_,λd hd=>⟨_,rfl,?_⟩⟩
 ·rw [S0 hl];exact hq p hp
 ·unfold WK;dsimp only;rw [if_pos rfl];refine he d (G7 hd) _ ⟨h',Sub.refl _,rfl,?_⟩;rw [T8,hd];simp
end L2
namespace HT
open PySem PySem.Spec PyProof.Rows
section
variable {prog:Program}{w:World}{A:Around}{E:Value->Shared->Prop}{s:Shared}
theorem vC {t sl:Addr}{items:Array Value}{vl vu:Value}{lo hi:Option Int}{Q:Value->Shared->Prop}(ht:IsTup s.heap t items)(hs:s.heap.IsSliceOf sl vl vu .none)(pl:IsPart vl lo)(pu:IsPart vu hi)
 (hw:sIx items.size 0 lo=0/\sIx items.size items.size hi=items.size)(h:Q (.ref t) s):wpAny (model prog w) A (getItem (.ref t) (.ref sl)) Q E s:=by
 obtain⟨os,hos,hcs,hds⟩:=id hs;have hTs:s.TypeIs (.ref sl) "slice" :=⟨os,hos,hcs⟩;unfold getItem
 try with_reducible refine O1 ?_
 first|refine wpAny_bind (P4 ?_)|skip
 refine wpAny_bind (wpAny_sequenceKey ht.typeIs (by decide) ?_);refine wpAny_bind (K0 (name:=Str.ofString "__getitem__") ht.typeIs H0
  (E2 H0 ht.typeIs entry_tuple_getitem ?_ (args_tuple_getitem _ _)))
 show wpAny _ _ (Builtin.Tuple.tupleItemsOf (.ref t) >>= _) _ _ s;refine wpAny_bind (tupleItemsOf_ ht ?_);refine wpAny_bind (wpAny_typeOf hTs ?_);rw [if_pos (by decide)];refine wpAny_bind (yj hs pl pu ?_);have hyes:((((sIx items.size 0 lo:Nat):Int)==0&&(1:Int)==1&&(sIx items.size items.size hi-sIx items.size 0 lo)==items.size)=true):=by
  rw [hw.1,hw.2];simp
 show wpAny _ _ (if (((sIx items.size 0 lo:Nat):Int)==0&&(1:Int)==1&&(sIx items.size items.size hi-sIx items.size 0 lo)==items.size)=true then _ else _) _ _ s;rw [if_pos hyes];refine wpAny_bind (m:=Builtin.Tuple.tupleIsExact (.ref t)) ?_;unfold Builtin.Tuple.tupleIsExact;refine wpAny_bind (wpAny_typeOf ht.typeIs (P4 ?_));rw [if_pos (by decide)];exact wpAny_bind (G0u (P4 ⟨_,rfl,P4 h⟩))
end
end HT
namespace L2
open PySem PySem.Spec PyProof.Rows
def HN (K:PySem.W.Frag):V->Option Int->Option Int->Hp->VK->Prop:=λx lo hi H Q=> ∃a xs,x= .ref a/\SqT K H a xs/\(HT.sIx xs.length 0 lo=0/\HT.sIx xs.length xs.length hi=xs.length)/\Q (.ref a) H
variable {X:Cx}
theorem sl_whole:SlR X (HN X.K):=by
 intro pins s σ H x v vl vu lo hi sl Q I rx hs pl pu h;obtain⟨a,xs,rfl,hx,hw,q⟩:=h;cases rx;obtain⟨its,r,ht,hz⟩:=I.tuple hx;have hlen:its.toArray.size=xs.length:=by rw [P8];exact r.length.symm
 refine⟨"tuple",_,PyProof.Rows.slot_tuple_getitem.lookup,ht.typeIs,?_⟩;exact HT.vC ht hs pl pu (by rw [hlen];exact hw) ⟨.ref a,H,I,rfl,q⟩
def UU {α:Type}(xs:List α)(lo hi:Option Int):List α:=(xs.drop (HT.sIx xs.length 0 lo)).take (HT.sIx xs.length xs.length hi-HT.sIx xs.length 0 lo)
abbrev TOD:=SD->HD->(Option Int->HD->Prop)->Prop
def Da:TOD:=λ_ h Q=>Q none h
def Aa (t:TED):TOD:=λσ h Q=>t σ h λx h1=> ∃i,x= .int i/\Q (some i) h1
def LO (K:PySem.W.Frag)(t:TOD):TO:=λσ H Q=> ∃σd h Qd,RelS K H σd σ/\RelH K h H/\t σd h Qd/\ ∀o h' H',Kept H H'->RelH K h' H'->Qd o h'->Q o H'
theorem LO.bind {K:PySem.W.Frag}{ta:TOD}{σ:St}{H:Hp}{σd:SD}{h:HD}{kd:Option Int->HD->Prop}{k:Option Int->Hp->Prop}(rs:RelS K H σd σ)(rh:RelH K h H)(t:ta σd h kd)(f: ∀o h' H',Kept H H'->RelS K H' σd σ->RelH K h' H'->kd o h'->k o H'):LO K ta σ H k:=
 ⟨σd,h,kd,rs,rh,t,λo h' H' kp r1 q=>f o h' H' kp (rs.mono kp) r1 q⟩
theorem PO.imp {e:Option Expr}{t t':TO}(h:PO X e t)(i: ∀σ H Q,t' σ H Q->t σ H Q):PO X e t':=λpins s σ H Q I q=>h pins s σ H Q I (i σ H Q q)
abbrev QO (X:Cx)(e:Option Expr)(t:TOD):Prop:=PO X e (LO X.K t)
theorem CA:QO X none Da:=po_none.imp λσ H Q ⟨σd,h,Qd,rs,rh,q,p⟩=>p none h H (.refl H) rh q
theorem CB {e:Expr}{te:TED}(he:QE X e te):QO X (some e) (Aa te):=(BR he).imp λσ H Q ⟨σd,h,Qd,rs,rh,q,p⟩=>
 LE.bind rs rh q λd v h1 H1 k1 rs1 rh1 r1 ⟨i,e,q1⟩=>by subst e;exact⟨i,r1,p _ _ _ k1 rh1 q1⟩
def slD:D->Option Int->Option Int->HD->KD->Prop:=λx lo hi h Q=>match x with
 | .tup ds=>Q (.tup (UU ds lo hi)) h
 | .scr ns=> ∀p,h p=none->Q (.lst p) (we h p ((UU ns lo hi).map D.int))
 | .lst a=> ∃ds,h a=some ds/\ ∀p,h p=none->Q (.lst p) (we h p (UU ds lo hi))
 |_=>False
def dSl (te:TED)(tl th:TOD):TED:=λσ h Q=>te σ h λx h1=>tl σ h1 λl h2=>th σ h2 λu h3=>slD x l u h3 Q
theorem YL {K:PySem.W.Frag}{H:Hp}{ds:List D}{vs:List V}(r:RelDs K H ds vs)(lo hi:Option Int):RelDs K H (UU ds lo hi) (Mg vs lo hi):=by
 unfold UU Mg;rw [r.length];exact(r.drop _).take _
theorem Db {α β:Type}(f:α->β)(xs:List α)(lo hi:Option Int):UU (xs.map f) lo hi=(UU xs lo hi).map f:=by
 unfold UU;rw [G0,List.map_take,List.map_drop]
theorem Ab {e:Expr}{te:TED}{lo hi:Option Expr}{tl th:TOD}{pos p2:Pos}(he:QE X e te)(hl:QO X lo tl)(hu:QO X hi th):QE X (.Subscript e (.Slice lo hi none p2) pos) (dSl te tl th):=
 (Ms (sl_tup.or (sl_whole.or BS)) he hl hu).imp λσ H Q ⟨σd,h,Qd,rs,rh,q,p⟩=>
  LE.bind rs rh q λd v h1 H1 k1 rs1 rh1 r1 q1=>LO.bind rs1 rh1 q1 λl h2 H2 k2 rs2 rh2 q2=>LO.bind rs2 rh2 q2 λu h3 H3 k3 rs3 rh3 q3=>by
   have rv:=(r1.mono k2).mono k3;have kk:=k1.trans (k2.trans k3);cases d<;>first
    |exact False.elim q3
    |skip
   ·rename_i ds;obtain⟨a,vs,e1,hH,r⟩:=(show ∃a vs,v= .ref a/\H3 a=some (.tup vs)/\RelDs X.K H3 ds vs from rv)
    by_cases hw:HT.sIx vs.length 0 l=0/\HT.sIx vs.length vs.length u=vs.length
    ·refine .inr (.inl ⟨a,vs,e1,SqT.of hH,hw,p (.tup (UU ds l u)) _ _ _ kk rh3 ⟨a,vs,rfl,hH,?_⟩ q3⟩);have z:=YL r l u;have e:Mg vs l u=vs:=by unfold Mg;rw [hw.1,hw.2];simp
     rwa [e] at z
    ·exact .inl ⟨a,vs,e1,SqT.of hH,hw,λc hc=>p (.tup (UU ds l u)) _ _ _ (kk.trans (.new hc)) (rh3.new hc) ⟨c,_,rfl,jl,(YL r l u).mono (.new hc)⟩ q3⟩
   ·rename_i a;obtain⟨ds,hd,q3⟩:=q3;obtain⟨vs,hH,r⟩:=rh3 a ds hd;exact .inr (.inr ⟨a,vs,rv.1,SqL.of hH,λc hc=>p (.lst c) _ _ _ (kk.trans (.new hc)) (rh3.newL hc (YL r l u)) ⟨rfl,_,jl⟩ (q3 c (rh3.free hc))⟩)
   ·rename_i ns;obtain⟨a,e1,hS⟩:=(show ∃a,v= .ref a/\Scr X.K H3 a ns from rv);refine .inr (.inr ⟨a,_,e1,hS.sq,λc hc=>p (.lst c) _ _ _ (kk.trans (.new hc)) (rh3.newL hc ?_) ⟨rfl,_,jl⟩ (q3 c (rh3.free hc))⟩);have z:=YL (yY (K:=X.K) (H:=H3) ns) l u
    rwa [Db] at z
end L2
namespace HT
open PySem PySem.Spec PyProof.Rows
open Sem (wp)
open Builtin
theorem Zq:fillsNumberSlot (.type "tuple") "mul" =pure false:=
 PySem.fillsNumberSlot_seq (id:= "tuple.__mul__") (r:=some (.builtin "tuple.__rmul__")) F.slot_tuple_mul.lookup (by decide +kernel) F.slot_tuple_rmul.lookup (by decide +kernel)
theorem VP:seqRepeat? (.type "tuple")=pure (some (.builtin "tuple.__mul__")):=by
 unfold seqRepeat?;rw [PySem.seqSlot_of (T:= "tuple") (name:= "__mul__") (id:= "tuple.__mul__") F.slot_tuple_mul.lookup (by decide +kernel),PySem.seqSlot_of (T:= "tuple") (name:= "__rmul__") (id:= "tuple.__rmul__") F.slot_tuple_rmul.lookup (by decide +kernel)];rfl
section
variable {prog:Program}{w:World}{A:Around}{E:Value->Shared->Prop}{s:Shared}
theorem YM {k:Int}{t:Tok}{l:Addr}{o:Obj}{its:Array Value}{n:Nat}{P:PySem.Fin->Shared->Prop}(at_:s.heap.get? l=some o)(tup:o.cls= .type "tuple")(dat:o.data= .seq its n)(h:P (.done (.ret .notImplemented)) s):wpAny (model prog w) A (Builtin.«int.__rmul__» ⟨[.int k t,.ref l],[]⟩) P E s:=by
 obtain⟨c,dd,dt,sl⟩:=o;cases tup;cases dat;obtain⟨hp,g,d,tk,os⟩:=s
 wp_walk
 exact h
theorem UV {l:Addr}{its:Array Value}{n:Nat}{x:Int}{u:Tok}{dd:Option Addr}{sl:Array (Option Value)}{P:PySem.Fin->Shared->Prop}(at_:s.heap.get? l=some {cls:= .type "tuple",dict:=dd,data:= .seq its n,slots:=sl})(fits: -(2^63)<=x/\x<2^63)
 (same:(its.isEmpty||x==1)=true->P (.done (.ret (.ref l))) s)
 (gone:(its.isEmpty||x==1)=false->(decide (x<=0)||its.isEmpty)=true->P (.done (.ret (.ref s.heap.objs.size))) {s with heap:=s.heap.push {cls:= .type "tuple",data:= .seq #[]}})
 (more:(its.isEmpty||x==1)=false->(decide (x<=0)||its.isEmpty)=false-> ¬ (its.size:Int)*x>(2^63-1) / 8/\Builtin.Tuple.tupleTooMany ((its.size:Int)*x)=false/\((List.replicate x.toNat its).foldl (· ++ ·) #[]).size<=sizeLine/\
  P (.done (.ret (.ref s.heap.objs.size))) {s with heap:=s.heap.push {cls:= .type "tuple",data:= .seq ((List.replicate x.toNat its).foldl (· ++ ·) #[])}}):
 wpAny (model prog w) A (Builtin.«tuple.__mul__» ⟨[.ref l,.int x u],[]⟩) P E s:=by
 obtain⟨hp,g,d,tk,os⟩:=s
 wp_walk
 rw [if_neg (by simp only [Q6,L6];omega)]
 wp_walk
 cases c1:(its.isEmpty||x==1) with
 |true=>
  rw [if_pos rfl]
  wp_walk
  exact same c1
 |false=>
  rw [if_neg P7];cases c2:(decide (x<=0)||its.isEmpty) with
  |true=>
   rw [if_pos rfl]
   wp_walk
   exact gone c1 c2
  |false=>
   obtain⟨m1,m2,m3,m4⟩:=more c1 c2;rw [if_neg P7];dsimp only;rw [if_neg m1,m2,if_neg P7]
   wp_walk
   exact m4
end
end HT
namespace L2
open PySem PySem.Spec PyProof.Rows
def SH (K:PySem.W.Frag):R2:=λx y H Q=> ∃ (a:Addr) (k:Int) (xs:List V),x= .ref a/\y= .int k/\SqT K H a xs/\ -(2^63)<=k/\k<2^63/\xs.length*k.toNat<=sizeLine/\
 ((xs= []\/k=1)->Q (.ref a) H)/\(¬ (xs= []\/k=1)-> ∀p,H p=none->Q (.ref p) (upd H p (.tup (List.replicate k.toNat xs).flatten)))
theorem ZA {l:List Value}:l.toArray= #[]↔l= []:=by cases l<;>simp
variable {X:Cx}
theorem CC:OpR X (binaryOp .Mult) (SH X.K):=by
 intro pins s σ H x y v u Q I rx ry h;obtain⟨a,k,xs,rfl,rfl,hH,h1,h2,hz,q1,q2⟩:=h;cases rx;obtain⟨t,rfl⟩:=ry;obtain⟨its,r,ht,_⟩:=I.tuple hH;obtain⟨⟨cls,dd,data,sl⟩,ho,hc,n,hd⟩:=id ht;simp only at hc hd;subst hc hd;have hl:=r.length;have hnew:(List.replicate k.toNat its.toArray).foldl (· ++ ·) #[]=(List.replicate k.toNat its).flatten.toArray:=by
  have:=ZP its k.toNat [];rw [M1] at this;exact this
 have few:its.length*k.toNat<=sizeLine:=by rw [<-hl];exact hz
 have free:=I.hok.fresh (G8 _);refine G0r (T:= "tuple") (U:= "int") (by decide) ⟨_,ho,rfl⟩ (λs'=>G0Y s' k t) HT.Zq F.fills_int_mul G0a HT.VP F.slot_int_index.lookup
  (E2 G0a (G0Y s k t) F.entry_int_rmul (HT.YM ho rfl rfl ⟨_,rfl,rfl,⟨_,ho,rfl⟩,E2 F.slot_tuple_mul ⟨_,ho,rfl⟩ F.entry_tuple_mul (HT.UV ho ⟨h1,h2⟩ (λc=> ?_) (λc c0=> ?_) (λc c0=> ?_)) (F.args_tuple_mul_2 _ _)⟩) (F.args_int_rmul_2 _ _))
 ·refine⟨_,rfl,.ref a,H,I,rfl,q1 ?_⟩;simp only [Q6,V4,Array.isEmpty_iff,ZA] at c;exact c.imp (λe=>r.nil_iff.mp e) id
 ·simp only [G00,U9,G0k,ne_eq,ZA] at c;have k0:k.toNat=0:=by
   simp only [Q6,L6,Array.isEmpty_iff,ZA] at c0;have:=c0.resolve_right c.1;omega
  have last:=q2 (λz=>z.elim (λe=>c.1 (r.nil_iff.mpr e)) c.2) _ free;rw [k0] at last;exact⟨_,rfl,.ref s.heap.objs.size,_,I.laid (t':=s.toks) (o:= .tup []) (λb ob q=>G3 _ q) (G8 _) ⟨by decide,[],.nil,IsTupN.new _ _⟩,rfl,last⟩
 ·simp only [G00,U9,G0k,ne_eq,ZA,G0G] at c c0;have em:((its.toArray.size:Nat):Int)*k=((its.length*k.toNat:Nat):Int):=by rw [Int.natCast_mul,P8,show ((k.toNat:Nat):Int)=k by omega]
  have cap:(sizeLine:Nat)<=(2^63-1) / 8:=by decide
  rw [em,hnew];refine⟨by omega,by unfold Builtin.Tuple.tupleTooMany;exact decide_eq_false (by omega),by rw [List.size_toArray,UR,Nat.mul_comm];exact few,_,rfl,.ref s.heap.objs.size,_,I.laid (t':=s.toks) (o:= .tup (List.replicate k.toNat xs).flatten) (λb ob q=>Heap.get?_push_of_some _ q) (Nat.le_refl _) ⟨by rw [UR,Nat.mul_comm];exact hz,_,r.rep k.toNat,IsTupN.new _ _⟩,rfl,q2 (λz=>z.elim (λe=>c.1 (r.nil_iff.mpr e)) c.2) _ free⟩
def SI:RD2:=λx y h Q=>match x,y with
 | .tup ds,.int k=> -(2^63)<=k/\k<2^63/\ds.length*k.toNat<=sizeLine/\Q (.tup (List.replicate k.toNat ds).flatten) h
 |x,y=>TN x y h Q
theorem JD:OpQ X (binaryOp .Mult) SI:=(oq_mul.or CC).imp λx y H Q ⟨dx,dy,h,Qd,rx,ry,rh,q,p⟩=>by
 by_cases ht: ∃ds k,dx= .tup ds/\dy= .int k
 ·obtain⟨ds,k,e1,e2⟩:=ht;subst e1 e2;obtain⟨b1,b2,hz,q⟩:=q;obtain⟨a,vs,e,hH,r⟩:=(show ∃a vs,x= .ref a/\H a=some (.tup vs)/\RelDs X.K H ds vs from rx);refine .inr ⟨a,k,vs,e,ry,SqT.of hH,b1,b2,by rw [<-r.length];exact hz,λhs=> ?_,λ_ c hc=>p (.tup _) _ _ _ (.new hc) (rh.new hc) ⟨c,_,rfl,jl,(r.flat _).mono (.new hc)⟩ q⟩;refine p (.tup _) _ _ _ (.refl H) rh ⟨a,vs,rfl,hH,?_⟩ q;rcases hs with e0|e1
  ·subst e0;have:ds= []:=K1.mp r.length;subst this;simpa using r
  ·subst e1;simpa using r
 ·refine .inl ⟨dx,dy,h,Qd,rx,ry,rh,?_,p⟩;unfold SI at q;split at q
  ·exact absurd ⟨_,_,rfl,rfl⟩ ht
  ·exact q
def SJ:D->HD->KD->Prop:=λx h Q=>match x with
 | .int i=>Q (.int (-i)) h
 |_=>False
def dUn (f:D->HD->KD->Prop)(ta:TED):TED:=λσ h Q=>ta σ h λx h1=>f x h1 Q
theorem HP {a:Expr}{ta:TED}{pos:Pos}(ha:QE X a ta):QE X (.UnaryOp .USub a pos) (dUn SJ ta):=
 (EM LX ha).imp λσ H Q ⟨σd,h,Qd,rs,rh,t,p⟩=>LE.bind rs rh t λd v h1 H1 k1 rs1 rh1 r1 q=>by
  cases d<;>first
   |exact False.elim q
   |exact⟨_,r1,p (.int _) _ _ _ k1 rh1 rfl q⟩
def XX (x:Str)(i:Int):TED:=λ_ h Q=>Q (.dic x i) h
variable {p:Addr}
theorem XY {H:Hp}{a b:HO}:upd (upd H p a) p b=upd H p b:=by
 funext q;unfold upd;split<;>rfl
variable {x:Str}
theorem Ac {i:Int}{j k:Nat}{pos p1 p2:Pos}:QE X (.Dict [some (.Constant (.str x) j p1)] [.Constant (.int i) k p2] pos) (XX x i):=by
 have h0:PPs X pos [some (.Constant (.str x) j p1)] [.Constant (.int i) k p2] [(tC (.str x),tC (.int i))]:=XS pe_str pe_int Px;refine PE.imp (Py h0 rfl rfl (by simp) (by simp)) ?_;rintro σ H Q ⟨σd,h,Qd,rs,rh,t,p⟩ q hq;show upd H q (.dK []) q=some (.dK [])/\_;refine⟨jl,[((Sum.inr x:Key),V.int i)],rfl,by simp,?_⟩;rw [XY];exact p (.dic x i) (.ref q) h _ (.new hq) (rh.new hq) ⟨q,rfl,jl⟩ t
def UW:List (Option Expr)->List Expr->Option (Str×Int)
 | [some (.Constant (.str x) _ _)],[.Constant (.int i) _ _]=>some (x,i)
 |_,_=>none
theorem Ad {ks:List (Option Expr)}{vs:List Expr}{pos:Pos}{i:Int}(h:UW ks vs=some (x,i):=by rfl):QE X (.Dict ks vs pos) (XX x i):=by
 unfold UW at h;split at h
 ·cases h;exact Ac
 ·cases h
def Ae (K:PySem.W.Frag)(tl:TE):TI:=λσ H R=>tl σ H λx H1=> ∃a,x= .ref a/\((∃xs,SqL K H1 a xs/\R (Itl K a) H1)\/ ∃xs,SqT K H1 a xs/\R (Itt K a) H1)
theorem Af {tg l:Expr}{tl:TE}(hl:PE X l tl):PI X tg l (Ae X.K tl):=by
 intro pins s σ H R I h;refine thn (hl pins s σ H _ I h) λv s1 ⟨x,H1,I1,r1,q1⟩=> ?_
 obtain⟨a,e,q⟩:=q1;subst e;cases r1;rcases q with ⟨xs,hq,q⟩|⟨xs,hq,q⟩
 ·obtain⟨its,rv,p,hz⟩:=I1.list hq;refine A2 p.isList ?_;refine⟨s1.heap.objs.size,[s1.heap.objs.size],_,_,H1,rfl,I1.kept (t':=s1.toks) λb o e=>G3 _ e,VA a _,⟨_,D9 _ rfl,rfl,rfl⟩,λb hb=> ?_,q⟩;have e:b=s1.heap.objs.size:=by simpa using hb
  subst e;exact I1.fpOk (G8 _) (I1.hok.fresh (G8 _))
 ·obtain⟨its,rv,p,hz⟩:=I1.tuple hq;refine K9 (show s1.heap.IsTuple a its.toArray from p) ?_;refine⟨s1.heap.objs.size,[s1.heap.objs.size],_,_,H1,rfl,I1.kept (t':=s1.toks) λb o e=>G3 _ e,QN a _,⟨_,D9 _ rfl,rfl,rfl⟩,λb hb=> ?_,q⟩;have e:b=s1.heap.objs.size:=by simpa using hb
  subst e;exact I1.fpOk (G8 _) (I1.hok.fresh (G8 _))
def iS (te:TED):TID:=λσ h R=>te σ h λx h1=>match x with
 | .lst a=>R (λh=>h a) h1
 | .tup ds=>R (λ_=>some ds) h1
 | .scr ns=>R (λ_=>some (ns.map D.int)) h1
 |_=>False
variable {K:PySem.W.Frag}
theorem MG {H:Hp}{a:Addr}{ns:List Int}(hs:Scr K H a ns):Le K H (λ_=>some (ns.map D.int)) (Itl K a):=λH' h' k rh ds' e i=>by
 cases e;have hs':Scr K H' a ns:=hs.elim (λ⟨o,z⟩=> .inl ⟨o,k.frz _ _ _ z⟩) .inr;refine⟨λd hd=> ?_,λhl=>⟨_,hs'.sq,by simpa using hl⟩⟩;obtain⟨v,e1,e2⟩:=(yY (K:=K) (H:=H') ns).get hd;refine⟨⟨_,v,hs'.sq,e1⟩,λx H'' ⟨eH,hx⟩=> ?_⟩;subst eH;have:=hx _ hs'.sq;rw [e1] at this;cases this;exact⟨.refl _,rh,e2⟩
variable {te:TED}
theorem Ag: ∀σ H R,LI K (iS te) σ H R->Ae K (LE K te) σ H R:=λσ H R ⟨σd,h,Rd,rs,rh,q,p⟩=>
 LE.bind rs rh q λd v h1 H1 k1 rs1 rh1 r1 q1=>by
  cases d<;>first
   |exact False.elim q1
   |skip
  ·rename_i ds;obtain⟨a,vs,e,hv,r⟩:=(show ∃a vs,v= .ref a/\H1 a=some (.tup vs)/\RelDs K H1 ds vs from r1);exact⟨a,e,.inr ⟨vs,SqT.of hv,p _ _ _ _ k1 rh1 (MD hv r) q1⟩⟩
  ·rename_i a;obtain⟨e,vs,hv⟩:=(show v= .ref a/\ ∃vs,H1 a=some (.lst vs) from r1);exact⟨a,e,.inl ⟨vs,SqL.of hv,p _ _ _ _ k1 rh1 (VL H1 a) q1⟩⟩
  ·rename_i ns;obtain⟨a,e,hS⟩:=(show ∃a,v= .ref a/\Scr K H1 a ns from r1);exact⟨a,e,.inl ⟨_,hS.sq,p _ _ _ _ k1 rh1 (MG hS) q1⟩⟩
theorem Ah {tg e:Expr}(he:QE X e te):QI X tg e (iS te):=(Af he).imp Ag
def Bf:TSD:=λ_ _ _=>False
theorem Ai {st:Stmt}:QS X st Bf:=λ_ _ _ _ _ _ ⟨_,_,_,_,_,z,_⟩=>z.elim
structure Zs (mg:Str->Option Value):Prop where
 len:mg "len" =none
 max:mg "max" =none
 min:mg "min" =none
 divmod:mg "divmod" =none
 all:mg "all" =none
 any:mg "any" =none
 repr:mg "repr" =none
 sum:mg "sum" =none
 sorted:mg "sorted" =none
 int:mg "int" =none
 tuple:mg "tuple" =none
 list:mg "list" =none
 set:mg "set" =none
 bool:mg "bool" =none
 isinstance:mg "isinstance" =none
 range:mg "range" =none
 zip:mg "zip" =none
 enumerate:mg "enumerate" =none
 reversed:mg "reversed" =none
def jq (P:Program)(w:World)(K:PySem.W.Frag)(mg:Str->Option Value)(base:Heap)(n:Nat)(x:Str)(ps:List Str)(sp:RDn):Prop:=
 ∃ (g:Addr) (gd:FuncData),FnOk P w K mg base CX0 n g gd ps (LSp K sp)/\Binds K gd ps []/\PySem.W.keepIn K (.ref g)=true/\mg x=some (.ref g)
def Dc:RDn:=λds h Q=> ∃ns,ds= [.scr ns]/\(∀a,h a=none)/\ns.length<=63/\ ∀h',Q (.bl true) h'
def Bm (mg:Str->Option Value)(base:Heap):Prop:= ∃bm ob,mg "__builtins__" =some (.ref bm)/\bm≠builtinsNs/\base.get? bm=some ob/\ob.cls= .type "module" /\ob.dict=some builtinsNs/\ob.data= .plain
def wA (K:PySem.W.Frag):List (Addr×Addr):=LN.filterMap (PySem.W.tabIn K)
theorem TabK.mem {P:Addr}(h:TabK K P): ∃c,(c,P)∈wA K:=let ⟨x,hx,c,e⟩:=h;⟨c,K6.mpr ⟨x,hx,e⟩⟩
theorem De {P:Program}{w:World}{mg mb:Str->Option Value}{k:Nat}{fa a:Addr}{fd:FuncData}{s₁:Shared}{vs:List Value}{ns:List Int}
 (KX:K.In s₁.heap)(hns:s₁.heap.Ns mainGlobals mg)(hb:s₁.heap.Ns builtinsNs mb)(hbb: ∀x:Str,x≠ "__name__" ->mb x=bootBuiltins x)(hlim:s₁.heap.NoLimit)(hg:s₁.gens= #[])
 (ha:s₁.heap.get? a=some {cls:= .type "list",data:= .seq vs.toArray})(hi:IntsAre vs ns)(hl:ns.length<=63)(hr:Room k callerA)
 (hbm:Bm mg s₁.heap)(F: ∀base:Heap,K.In base->base.Ns mainGlobals mg->Bm mg base->FnOk P w K mg base CX0 k fa fd [x] (LSp K Dc))(hbind: ∀ (s:Shared) (u:Value),BindsTo s fd ⟨[u],[]⟩ [(x,u)])
 (hT: ∀p∈wA K,PySem.W.CodeHd s₁.heap p.1 p.2/\s₁.heap.get? p.2=some (PySem.W.tabObj #[])/\K.lookup p.2=none):
 codeAny (model P w) callerA (.call (.ref fa) ⟨[.ref a],[]⟩) (λr s'=>r= .ok (.ret (.bool true))/\OldK s₁.heap s'.heap/\s'.os=s₁.os/\AllBare s'.gens) s₁:=by
 have rv:=VG hi;have lenV:=hi.length;have hz:ns.length<=sizeLine:=R9 hl (by decide);have hT': ∀b,b∈(wA K).map (·.2)-> ∃c,PySem.W.CodeHd s₁.heap c b/\s₁.heap.get? b=some (PySem.W.tabObj #[])/\K.lookup b=none:=λb hb=>by
  obtain⟨p,hp,rfl⟩:=D8.mp hb;exact⟨p.1,hT p hp⟩
 have core: ∀H:Hp,Scr K H a ns->HOk P w H s₁.heap->(∀b u,H b=some u->(b=a/\K.lookup a=none/\ ∃o xs,u= .frz o (.lst xs))\/(b∈(wA K).map (·.2)/\u= .tbl #[]))->(∀b,b∈(wA K).map (·.2)->H b=some (.tbl #[]))->
  codeAny (model P w) callerA (.call (.ref fa) ⟨[.ref a],[]⟩) (λr s'=>r= .ok (.ret (.bool true))/\OldK s₁.heap s'.heap/\s'.os=s₁.os/\AllBare s'.gens) s₁:=by
  intro H hS hok hA hTt;have noA: ∀ {b:Addr} {o:Obj} {es:Array DictEntry} {ep:Nat},s₁.heap.get? b=some o->o.data= .dict es ep->H b=none:=λ{b o es ep} e d=>by
   cases q:H b with
   |none=>rfl
   |some u=>
    rcases hA b u q with ⟨rfl,_,_⟩|⟨z,_⟩
    ·rw [ha] at e;cases e;have d':Data.seq vs.toArray _=Data.dict es ep:=d;cases d'
    ·obtain⟨c,_,e2,_⟩:=hT' b z;rw [e2] at e;cases e;have d':Data.fields _=Data.dict es ep:=d;cases d'
  have nsK: ∀ {b:Addr} {m:Str->Option Value},s₁.heap.Ns b m->(Mi s₁.heap H).Ns b m:=λ{b m} ⟨o,es,ep,e,d,r⟩=>⟨o,es,ep,Yy e (noA e d),d,r⟩
  have hKb:K.In (Mi s₁.heap H):=λb o e=>Yy (KX b o e) (by
   cases q:H b with
   |none=>rfl
   |some u=>
    rcases hA b u q with ⟨rfl,z,_⟩|⟨z,_⟩
    ·rw [z] at e;cases e
    ·obtain⟨c,_,_,z2⟩:=hT' b z;rw [z2] at e;cases e)
  have hM:Mod K mg (Mi s₁.heap H):=⟨hKb,nsK hns,⟨mb,nsK hb,hbb⟩,let ⟨mc,h1,h2⟩:=hlim;⟨mc,nsK h1,h2⟩⟩;have e0:Env0 P w K mg (Mi s₁.heap H) callerA [] s₁ H:=⟨rfl,hM,λb o e=>Bz e,E7 (GT _ _),trivial,λb hb=>absurd (show b∈([]:List Addr) from hb) (by simp),hok,.of_eq hg⟩;have hsp:LSp K Dc [.ref a] H (λv _=>v= .bl true) (λ_ _ _=>False):=by
   refine⟨[.scr ns],⟨λ_=>none,λ_=>none⟩,λd _=>d= .bl true,⟨.ref a,[],rfl,⟨a,rfl,hS⟩,rfl⟩,⟨λb ds e=>(by cases e),λp hp=> ?_,λb c e=>(by cases e)⟩,⟨ns,rfl,λ_=>rfl,hl,λ_=>rfl⟩,?_⟩
   ·obtain⟨c,hc⟩:=hp.mem;exact⟨#[],hTt p (V0 (f:=(·.2)) hc),trivial,λpos cv e=>(by cases e)⟩
   ·intro d v h' H' _ _ r e;subst e;exact r
  have hBm:Bm mg (Mi s₁.heap H):=by
   obtain⟨bm,ob,b1,b2,b3,b4,r⟩:=hbm;refine⟨bm,ob,b1,b2,Yy b3 ?_,b4,r⟩;cases q:H bm with
   |none=>rfl
   |some u=>
    rcases hA bm u q with ⟨rfl,_,_⟩|⟨z,_⟩
    ·rw [ha] at b3;cases b3;exact absurd (Value.type.inj b4) (by decide)
    ·obtain⟨c,_,e2,_⟩:=hT' bm z;rw [e2] at b3;cases b3;cases b4
  refine Y2 ((F _ hKb (nsK hns) hBm).run callerA [] s₁ H ⟨[.ref a],[]⟩ [.ref a] [.ref a] _ _ hr e0 (hbind s₁ (.ref a)) (.cons rfl .nil) hsp) λr s' h=> ?_
  cases r with
  |error e=>exact False.elim h
  |ok fl=>
   cases fl with
   |next=>exact False.elim h
   |brk=>exact False.elim h
   |cont=>exact False.elim h
   |ret u=>
    obtain⟨v,H',os,bare,un,hok',r',q⟩:=h;have q':v= .bl true:=q;subst q';obtain rfl:u=Value.bool true:=r';have one: ∀b o,s₁.heap.get? b=some o->s'.heap.get? b=some o\/(b∈(wA K).map (·.2)/\ ∃more,s'.heap.get? b=some (PySem.W.tabObj more)):=λb o e=>by
     cases q:H b with
     |none=>exact .inl (un.keep b o e q (by intro z;exact absurd (show b∈([]:List Addr) from z) (by simp)) (by simp))
     |some u=>
      rcases hA b u q with ⟨rfl,_,ob,xs,rfl⟩|⟨z,rfl⟩
      ·have z2:=un.frzs _ ob _ q;obtain⟨e1,_⟩:=hok _ _ q;obtain⟨e2,_⟩:=hok' _ _ z2;rw [e] at e1;cases e1;exact .inl e2
      ·obtain⟨more,z2⟩:=un.tbls b _ q;exact .inr ⟨z,_,(show s'.heap.get? b=some _ from hok' b _ z2)⟩
    refine⟨rfl,⟨λb o e=> ?_,λb o e=> ?_⟩,os,bare⟩
    ·rcases one b o e with z|⟨z,more,z2⟩
     ·exact .inl z
     ·obtain⟨c,hc,e2,_⟩:=hT' b z;rw [e] at e2;cases e2;refine .inr (.inl ⟨(hc.tab e).isCodeTable,rfl,#[],more,rfl,?_⟩);rw [z2];simp
    ·rcases one b o e with z|⟨z,more,z2⟩
     ·exact⟨_,z⟩
     ·exact⟨_,z2⟩
 have nT:a ∉ (wA K).map (·.2):=λz=>by
  obtain⟨c,_,e2,_⟩:=hT' a z;rw [ha] at e2;cases e2
 have okT: ∀ {H:Hp} (b:Addr),b∈(wA K).map (·.2)->ObjOk P w H s₁.heap b (.tbl #[]):=λb hb=>let ⟨_,_,e,_⟩:=hT' b hb;e
 cases hk:K.lookup a with
 |some o=>
  have e:=KX a o hk;rw [ha] at e;cases e;refine core (λb=>if b∈(wA K).map (·.2) then some (.tbl #[]) else none) (.inr ⟨_,vs.toArray,_,hk,rfl,rfl,rfl,by rw [P8,lenV];exact hz,by simpa using rv⟩) (λb u z=> ?_) (λb u z=> ?_) λb hb=>if_pos hb
  ·by_cases hb:b∈(wA K).map (·.2)
   ·have z':=(if_pos hb).symm.trans z;cases z';exact okT b hb
   ·have z':=(if_neg hb).symm.trans z;cases z'
  ·by_cases hb:b∈(wA K).map (·.2)
   ·have z':=(if_pos hb).symm.trans z;cases z';exact .inr ⟨hb,rfl⟩
   ·have z':=(if_neg hb).symm.trans z;cases z'
 |none=>
  refine core (λb=>if b=a then some (.frz {cls:= .type "list",data:= .seq vs.toArray} (.lst (ns.map V.int))) else if b∈(wA K).map (·.2) then some (.tbl #[]) else none) (.inl ⟨{cls:= .type "list",data:= .seq vs.toArray},if_pos rfl⟩) (λb u z=> ?_) (λb u z=> ?_) λb hb=> ?_
  ·by_cases hb:b=a
   ·have z':=(if_pos hb).symm.trans z;cases z';subst hb;exact⟨ha,by rw [G0];exact hz,vs,_,rv,ha⟩
   ·have z':=(if_neg hb).symm.trans z
    by_cases hb2:b∈(wA K).map (·.2)
    ·have z2:=(if_pos hb2).symm.trans z';cases z2;exact okT b hb2
    ·have z2:=(if_neg hb2).symm.trans z';cases z2
  ·by_cases hb:b=a
   ·have z':=(if_pos hb).symm.trans z;cases z';exact .inl ⟨hb,hk,_,_,rfl⟩
   ·have z':=(if_neg hb).symm.trans z
    by_cases hb2:b∈(wA K).map (·.2)
    ·have z2:=(if_pos hb2).symm.trans z';cases z2;exact .inr ⟨hb2,rfl⟩
    ·have z2:=(if_neg hb2).symm.trans z';cases z2
  ·have:b≠a:=λz=>nT (z ▸ hb)
   show (if b=a then _ else _)=_;rw [if_neg this,if_pos hb]
def SK (q:Program)(K:PySem.W.Frag):Bool:=LN.all λx=>match PySem.W.tabIn K x with
 |some p=>(K.lookup p.2).isNone&&((PyProof.Rows.recsOf q).find? (λe=>e.name==x)).isSome
 |none=>true
theorem MJ {l:PySem.W.OpenLaw}{k:Nat}{q:Program}{loose:List Str}{XP:(Str->Option Value)->Heap->Prop}{YP:World->Heap->Prop}{d:DefRec}{K:Params->PySem.W.Frag}(hn:l.most=some 63)(hdf:d.params.defaults= [])(hr:Room k callerA)
 (hY: ∀ (w:World) (h:Heap),YP w h->(K w.params).In h)(hB: ∀w:World,SK q (K w.params)=true)
 (F: ∀ (w:World) (mg:Str->Option Value) (fa:Addr) (h:Heap),(K w.params).In h->h.Ns mainGlobals mg->mg d.name=some (.ref fa)->
  ∃fd:FuncData,(∀ (s:Shared) (u:Value),BindsTo s fd ⟨[u],[]⟩ [(x,u)])/\ ∀base:Heap,(K w.params).In base->base.Ns mainGlobals mg->Bm mg base->FnOk l.prog w (K w.params) mg base CX0 k fa fd [x] (LSp (K w.params) Dc)):
 PySem.W.WalkO q loose XP YP l.row.toRowW d [] (λf vs=>PySem.call f vs):=by
 refine Att.attach_call hn hdf λw s₀ s₁ mg mb fa o pm cd doc a vs ns G Y ho hd hcd hmg hobj hints hlen hg=> ?_
 have KX:=hY w _ Y;obtain⟨fd,hb,hF⟩:=F w mg fa _ KX G.T.g hmg;refine De KX G.T.g G.T.b G.T.builtins G.T.nolimit hg hobj hints hlen hr G.T.bmain hF hb λp hp=> ?_
 obtain⟨x,hx,e⟩:=K6.mp hp;have z:=R0.mp (hB w) x hx;rw [e] at z;simp only [S5,Option.isNone_iff_eq_none] at z;obtain⟨dd,hdd⟩:=N5.mp z.2;have t:=PySem.W.tab_of (c:=p.1) (P:=p.2) G.T KX hdd e;exact⟨t.1,t.2,z.1⟩
def zh:Expr->Bool
 | .Starred .. =>false
 |_=>true
theorem UX {e:Expr}{es:List Expr}{env:Env}(h:zh e=true):starEach (e::es) env=(false,eval e env)::starEach es env:=by
 cases e<;>first|rfl|cases h
theorem qac {e:Expr}{es:List Expr}{t:TAD}(ha:QE X e te)(hr:QA X es t)(h:zh e=true:=by rfl):QA X (e::es) (jY te t):=Ci ha hr (UX h)
theorem YN {α:Type}{xs:List α}{i:Int}(h0:0<=i)(h1:i<xs.length): ∃x∈xs,atI xs i=some x:=by
 have hk:i.toNat<xs.length:=by omega
 have ek:i=((i.toNat:Nat):Int):=by omega
 have z:=wW (G1 hk);rw [<-ek] at z;exact⟨xs[i.toNat],T1 hk,z⟩
variable {h h':HD}{L:List D}
theorem Sub.both (s:Sub h h'):Sub (we h p L) (we h' p L):=⟨λa ds e=>(by
 by_cases q:a=p
 ·subst q;rw [jd] at e ⊢;exact e
 ·rw [wg q] at e ⊢;exact s a ds e),s.dc⟩
theorem Sub.newAt (s:Sub h h')(e:h' p=none):Sub h (we h' p L):=s.trans (.new e)
structure But (p:Addr)(h h':HD):Prop where
 ls: ∀a ds,a≠p->h a=some ds->h' a=some ds
 dc: ∀a c,h.dc a=some c->h'.dc a=some c
instance {p:Addr}{h h':HD}:CoeFun (But p h h') λ_=> ∀a ds,a≠p->h a=some ds->h' a=some ds:=⟨But.ls⟩
theorem But.refl (p:Addr)(h:HD):But p h h:=⟨λ_ _ _ e=>e,λ_ _ e=>e⟩
variable {q:Addr}
theorem But.new (s:But p h h')(e:h' q=none):But p h (we h' q L):=⟨λa ds n z=>(by
 have:=s a ds n z;rw [wg (λw=>by subst w;rw [e] at this;cases this)];exact this),s.dc⟩
theorem But.put (s:But p h h'):But p h (we h' p L):=⟨λa ds n z=>(by rw [wg n];exact s a ds n z),s.dc⟩
theorem But.putNew (s:But p h h')(e:h q=none):But p h (we h' q L):=⟨λa ds n z=>(by
 rw [wg (λw=>by subst w;rw [e] at z;cases z)];exact s a ds n z),s.dc⟩
theorem But.sub (s:But p h h')(e:h' p=some L):Sub (we h p L) h':=⟨λa ds z=>(by
 by_cases q:a=p
 ·subst q;rw [jd] at z;cases z;exact e
 ·rw [wg q] at z;exact s a ds q z),s.dc⟩
theorem But.upd:But p h (we h p L):=⟨λa ds n z=>(by rw [wg n];exact z),λ_ _ e=>e⟩
theorem jN (e:h p=some L)(f:h q=none):q≠p:=λz=>by subst z;rw [e] at f;cases f
theorem ji {M:List D}(e:h p=some L)(f:h q=none):we h q M p=some L:=by rw [wg (λz=>by subst z;rw [e] at f;cases f)];exact e
theorem jy {a b:Addr}{M:List D}(n:b≠a)(e:h b=some M):we h a L b=some M:=by rw [wg n];exact e
theorem ZY {n:Nat}{i:Nat}{d:D}(h:((List.range n).map λ(k:Nat)=>D.int (k:Int))[i]? =some d):i<n/\d= .int i:=by
 rw [D2] at h
 by_cases hi:i<n
 ·rw [L5 hi] at h;cases h;exact⟨hi,rfl⟩
 ·rw [C4 (by simpa using hi)] at h;cases h
variable {E:EndsD}{σ:SD}
theorem jg {t u:TSD}(V:SD->HD->Prop)(first: ∀K:SD->HD->Prop,(∀σ' h',V σ' h'->K σ' h')->t {E with nx:=K} σ h)(rest: ∀σ' h',V σ' h'->u E σ' h'):PK t u E σ h:=first (u E) rest
theorem Dg (b:But p h h')(e:h' q=none)(n:q≠p):h q=none:=by
 cases z:h q with
 |none=>rfl
 |some ds=>rw [b q ds n z] at e;cases e
def Nxt (E:EndsD)(V:SD->HD->Prop):EndsD:= {E with nx:=λσ3 h3=> ∃h4,Sub h4 h3/\V σ3 h4,ct:=λσ3 h3=> ∃h4,Sub h4 h3/\V σ3 h4,bk:=E.nx}
variable {h1:HD}
theorem wI {ta:TAD}{g:TGD}{tb:TSD}(n:Nat)(W:Nat->SD->HD->Prop)(hn:n<1000000)
 (ht: ∀R:List D->HD->Prop,R [.int (n:Int)] h1->ta σ h R)(w0:W 0 σ h1)(done: ∀σ' h',W n σ' h'->E.nx σ' h')
 (turn: ∀i σ' h',i<n->W i σ' h'->g (.int (i:Int)) σ' h' λσ2 h2=>tb (Nxt E λσ3 h4=>i+1<=n/\W (i+1) σ3 h4) σ2 h2):Lf (iR1 ta) g tb E σ h:=by
 refine ht _ ⟨(n:Int),rfl,by omega,by omega,n,λi σ' h'=>i<=n/\W i σ' h',⟨T2 _,w0⟩,?_⟩;rintro i σ' h' ⟨hi,w⟩;refine⟨_,rfl,by simp,λhl=> ?_,λd hd=> ?_⟩
 ·have:i=n:=by simp at hl;omega
  subst this;exact done _ _ w
 ·obtain⟨hi',e⟩:=ZY hd;have hi2:i<n:=by omega
  subst e;exact turn i σ' h' hi2 w
theorem ZB {ti:TID}{g:TGD}{tb:TSD}{j:ItD}(ds:List D)(W:Nat->SD->HD->Prop)
 (ht: ∀R:ItD->HD->Prop,R j h1->ti σ h R)(hj: ∀i σ' h',W i σ' h'->j h'=some ds)(w0:W 0 σ h1)(done: ∀σ' h',W ds.length σ' h'->E.nx σ' h')
 (turn: ∀i d σ' h',ds[i]? =some d->W i σ' h'->g d σ' h' λσ2 h2=>tb (Nxt E λσ3 h4=>i+1<=ds.length/\W (i+1) σ3 h4) σ2 h2):Lf ti g tb E σ h:=by
 refine ht _ ⟨ds.length,λi σ' h'=>i<=ds.length/\W i σ' h',⟨T2 _,w0⟩,?_⟩;rintro i σ' h' ⟨hi,w⟩;refine⟨ds,hj i σ' h' w,G8 _,λhl=> ?_,λd hd=>turn i d σ' h' hd w⟩;have:i=ds.length:=by omega
 subst this;exact done _ _ w
theorem vX {g:TGD}{tb:TSD}{j:ItD}(ds:List D)(W:Nat->SD->HD->Prop)
 (hj: ∀i σ' h',W i σ' h'->j h'=some ds)(w0:W 0 σ h1)(done: ∀σ' h',W ds.length σ' h'->E.nx σ' h')
 (turn: ∀i d σ' h',ds[i]? =some d->W i σ' h'->g d σ' h' λσ2 h2=>tb (Nxt E λσ3 h4=>i+1<=ds.length/\W (i+1) σ3 h4) σ2 h2):
 ∃ (n:Nat) (W:Nat->SD->HD->Prop),W 0 σ h1/\ ∀i σ' h',W i σ' h'-> ∃ds,j h'=some ds/\ds.length<=n/\(ds.length<=i->E.nx σ' h')/\
  ∀d,ds[i]? =some d->g d σ' h' λσ2 h2=>tb {E with nx:=λσ3 h3=> ∃h4,Sub h4 h3/\W (i+1) σ3 h4,ct:=λσ3 h3=> ∃h4,Sub h4 h3/\W (i+1) σ3 h4,bk:=E.nx} σ2 h2:=by
 refine⟨ds.length,λi σ' h'=>i<=ds.length/\W i σ' h',⟨T2 _,w0⟩,?_⟩;rintro i σ' h' ⟨hi,w⟩;refine⟨ds,hj i σ' h' w,G8 _,λhl=> ?_,λd hd=>turn i d σ' h' hd w⟩;have:i=ds.length:=by omega
 subst this;exact done _ _ w
theorem Aj {i:Nat}{js:List Nat}{ta:TAD}{Q:KD}(n:Nat)(W:Nat->List D->HD->Prop)(hn:n<=1000)(ht: ∀R:List D->HD->Prop,R [.int (n:Int)] h1->ta σ h R)
 (w0:W 0 [] h1)(wl: ∀k ys h',W k ys h'->ys.length=k)(turn: ∀k ys h',k<n->W k ys h'->te ((jF js σ).set i (some (.int (k:Int)))) h' λy h4=> ∃h5,Sub h5 h4/\(k+1<=n/\W (k+1) (ys++ [y]) h5))
 (done: ∀ys h',W n ys h'-> ∀p,h' p=none->Q (.lst p) (we h' p ys)):yD (bN i) js (iR1 ta) WK te σ h Q:=by
 refine ht _ ⟨(n:Int),rfl,by omega,by omega,n,λk ys h'=>k<=n/\W k ys h',⟨T2 _,w0⟩,?_⟩;rintro k ys h' ⟨hk,w⟩;refine⟨by rw [wl k ys h' w];exact D5 (jx (by omega)),_,rfl,by simp,λhl p hp=> ?_,λd hd=>⟨_,rfl,?_⟩⟩
 ·have:k=n:=by simp at hl;omega
  subst this;exact done ys h' w p hp
 ·obtain⟨hi',e⟩:=ZY hd;subst e;unfold WK;dsimp only;rw [if_pos rfl];exact turn k ys h' (by omega) w
end L2
namespace L2
open PySem PySem.Spec PyProof.Rows PySem.SeqAt
mutual
def ToP (h:HD):D->PyData->Prop
 |d,.none=>d= .non
 |d,.bool b=>d= .bl b
 |d,.int i=>d= .int i
 |d,.str x=>d= .str x
 |d,.tuple ps=> ∃ds,d= .tup ds/\ToPs h ds ps
 |d,.list ps=> ∃a ds,d= .lst a/\h a=some ds/\ToPs h ds ps
 |_,.dict _=>False
def ToPs (h:HD):List D->List PyData->Prop
 |ds,[]=>ds= []
 |ds,p::ps=> ∃d r,ds=d::r/\ToP h d p/\ToPs h r ps
end
section
variable {X:Cx}{pins:List (Addr×Obj)}{σ:St}{H:Hp}{s:Shared}{h:HD}
mutual
theorem zi (I:Inv X pins σ H s)(rh:RelH X.K h H): ∀ {p:PyData} {d:D} {v:V} {u:Value},ToP h d p->RelD X.K H d v->RelV v u-> ∃as,Reads s.heap u p as
 | .none,d,v,u,t,r,ru=>by cases (show d= .non from t);cases (show v= .non from r);cases (show u= .none from ru);exact⟨[],.none⟩
 | .bool b,d,v,u,t,r,ru=>by cases (show d= .bl b from t);cases (show v= .bl b from r);cases (show u= .bool b from ru);exact⟨[],.bool b⟩
 | .int i,d,v,u,t,r,ru=>by cases (show d= .int i from t);cases (show v= .int i from r);obtain⟨k,rfl⟩:=(show ∃t,u=Value.int i t from ru);exact⟨[],.int i k⟩
 | .str x,d,v,u,t,r,ru=>by cases (show d= .str x from t);cases (show v= .str x from r);obtain⟨k,rfl⟩:=(show ∃t,u=Value.str x t from ru);exact⟨[],.str x k⟩
 | .tuple ps,d,v,u,t,r,ru=>by
  obtain⟨ds,e,ts⟩:=(show ∃ds,d= .tup ds/\ToPs h ds ps from t);subst e;obtain⟨a,vs,e,hH,rs⟩:=(show ∃a vs,v= .ref a/\H a=some (.tup vs)/\RelDs X.K H ds vs from r);subst e;cases (show u= .ref a from ru);obtain⟨its,rv,ht,_⟩:=I.tuple (SqT.of hH);obtain⟨o,ho,hc,n,hd⟩:=ht;obtain⟨as,q⟩:=reads_Ds I rh ts rs rv;exact⟨as,.tuple ho hc hd q⟩
 | .list ps,d,v,u,t,r,ru=>by
  obtain⟨a,ds,e,ha,ts⟩:=(show ∃a ds,d= .lst a/\h a=some ds/\ToPs h ds ps from t);subst e;obtain⟨vs,hH,rs⟩:=rh a ds ha;have e:v= .ref a:=r.1;subst e;cases (show u= .ref a from ru);obtain⟨its,rv,pl,_⟩:=I.list (SqL.of hH);obtain⟨o,ho,hc,n,hd⟩:=pl.isList;obtain⟨as,q⟩:=reads_Ds I rh ts rs rv;exact⟨a::as,.list ho hc hd q⟩
 | .dict _,_,_,_,t,_,_=>(show False from t).elim
theorem reads_Ds (I:Inv X pins σ H s)(rh:RelH X.K h H): ∀ {ps:List PyData} {ds:List D} {vs:List V} {us:List Value},ToPs h ds ps->RelDs X.K H ds vs->Vals vs us-> ∃as,ReadsAll s.heap us ps as
 | [],ds,vs,us,t,r,rv=>by
  cases (show ds= [] from t);cases (show vs= [] from r);cases rv;exact⟨[],.nil⟩
 |p::ps,ds,vs,us,t,r,rv=>by
  obtain⟨d,dr,e,t1,t2⟩:=(show ∃d r,ds=d::r/\ToP h d p/\ToPs h r ps from t);subst e;obtain⟨v,vr,e,r1,r2⟩:=(show ∃v r,vs=v::r/\RelD X.K H d v/\RelDs X.K H dr r from r);subst e;cases rv with
  |cons ru rt=>
   obtain⟨as,q1⟩:=zi I rh t1 r1 ru;obtain⟨bs,q2⟩:=reads_Ds I rh t2 r2 rt;exact⟨as++bs,.cons q1 q2⟩
end
end
def eqE:RD2:=λx y h Q=>match x,y with
 | .int i,.int j=>Q (.bl (decide (i=j))) h
 | .bl i,.bl j=>Q (.bl (decide (i=j))) h
 | .str i,.str j=>Q (.bl (decide (i=j))) h
 |x,y=> ∃p q,ToP h x p/\ToP h y q/\shaped p=true/\shaped q=true/\Q (.bl (PyData.eqv p q)) h
def neE:RD2:=λx y h Q=>match x,y with
 | .int i,.int j=>Q (.bl (!decide (i=j))) h
 | .bl i,.bl j=>Q (.bl (!decide (i=j))) h
 | .str i,.str j=>Q (.bl (!decide (i=j))) h
 |x,y=> ∃p q,ToP h x p/\ToP h y q/\shaped p=true/\shaped q=true/\Q (.bl (!PyData.eqv p q)) h
section
variable {X:Cx}
def eqG:RD2:=λx y h Q=> ∃p q,ToP h x p/\ToP h y q/\shaped p=true/\shaped q=true/\Q (.bl (PyData.eqv p q)) h
def neG:RD2:=λx y h Q=> ∃p q,ToP h x p/\ToP h y q/\shaped p=true/\shaped q=true/\Q (.bl (!PyData.eqv p q)) h
theorem Ak (hu:X.A.units+64<cLine):OpQ X (compareOp .Eq) eqG:=by
 intro pins s σ H x y v u Q I rx ry h;obtain⟨dx,dy,h,Qd,r1,r2,rh,⟨p,q,t1,t2,s1,s2,qq⟩,post⟩:=h;obtain⟨as,a1⟩:=zi I rh t1 r1 rx;obtain⟨bs,b1⟩:=zi I rh t2 r2 ry;exact compareEq_shaped a1 b1 s1 s2 hu ⟨.bl _,H,I,rfl,post (.bl _) _ _ _ (.refl H) rh rfl qq⟩
theorem Al (hu:X.A.units+64<cLine):OpQ X (compareOp .NotEq) neG:=by
 intro pins s σ H x y v u Q I rx ry h;obtain⟨dx,dy,h,Qd,r1,r2,rh,⟨p,q,t1,t2,s1,s2,qq⟩,post⟩:=h;obtain⟨as,a1⟩:=zi I rh t1 r1 rx;obtain⟨bs,b1⟩:=zi I rh t2 r2 ry;exact compareNe_shaped a1 b1 s1 s2 hu ⟨.bl _,H,I,rfl,post (.bl _) _ _ _ (.refl H) rh rfl qq⟩
theorem OpQ.or' {f:Value->Value->Sem Value}{r r' r2:RD2}(h:OpQ X f r)(h':OpQ X f r')(i: ∀x y hh Q,r2 x y hh Q->r x y hh Q\/r' x y hh Q):OpQ X f r2:=λpins s σ H x y v u Q I rx ry ⟨dx,dy,hd,Qd,r1,r2',rh,q,p⟩=>
 (i dx dy hd Qd q).elim (λz=>h pins s σ H x y v u Q I rx ry ⟨dx,dy,hd,Qd,r1,r2',rh,z,p⟩) λz=>h' pins s σ H x y v u Q I rx ry ⟨dx,dy,hd,Qd,r1,r2',rh,z,p⟩
theorem VQ (hu:X.A.units+64<cLine):OpQ X (compareOp .Eq) eqE:=oq_eq.or' (Ak hu) λx y h Q q=>by
 unfold eqE at q;split at q
 ·exact .inl q
 ·exact .inl q
 ·exact .inl q
 ·exact .inr q
theorem Bg (hu:X.A.units+64<cLine):OpQ X (compareOp .NotEq) neE:=oq_ne.or' (Al hu) λx y h Q q=>by
 unfold neE at q;split at q
 ·exact .inl q
 ·exact .inl q
 ·exact .inl q
 ·exact .inr q
def isN:D->Bool
 | .non=>true
 |_=>false
def isV (neg:Bool):RD2:=λx y h Q=>match y with
 | .non=>Q (.bl (neg !=isN x)) h
 | .bl c=>match x with
  | .bl b=>Q (.bl (neg !=(b==c))) h
  | .non=>Q (.bl neg) h
  |_=>False
 |_=>False
theorem Dh {K:PySem.W.Frag}{H:Hp}{d:D}{v:V}(r:RelD K H d v):decide (v=V.non)=isN d:=by
 cases d with
 |non=>cases (show v= .non from r);rfl
 |bl b=>cases (show v= .bl b from r);rfl
 |int b=>cases (show v= .int b from r);rfl
 |str b=>cases (show v= .str b from r);rfl
 |tup ds=>obtain⟨a,vs,e,_⟩:=(show ∃a vs,v= .ref a/\H a=some (.tup vs)/\RelDs K H ds vs from r);subst e;rfl
 |lst a=>cases (show v= .ref a from r.1);rfl
 |dic x i=>obtain⟨a,e,_⟩:=(show ∃a,v= .ref a/\H a=some (.dK [(Sum.inr x,V.int i)]) from r);subst e;rfl
 |dct a=>cases (show v= .ref a from r);rfl
 |scr ns=>obtain⟨a,e,_⟩:=(show ∃a,v= .ref a/\Scr K H a ns from r);subst e;rfl
 |exc C=>obtain⟨x,o,vs,e,_⟩:=(show ∃x o vs,v= .ref x/\H x=some (.frz o (.own 0))/\o.cls= .ref C/\o.data= .fields vs from r);subst e;rfl
 |fn a=>cases (show v= .ref a from r.1);rfl
theorem SL:OpQ X (compareOp .Is) (isV false):=by
 intro pins s σ H x y v u Q I rx ry h;obtain⟨dx,dy,h,Qd,r1,r2,rh,q,post⟩:=h;cases dy with
 |non=>
  have e:y= .non:=r2;subst e;refine LY pins s σ H x .non v u Q I rx ry ⟨rfl,?_⟩;rw [Dh r1];have q':Qd (.bl (isN dx)) h:=by simpa [isV] using q
  exact post (.bl _) _ _ _ (.refl H) rh rfl q'
 |bl c=>
  have e:y= .bl c:=r2;subst e;cases (show u= .bool c from ry);cases dx<;>first
   |exact False.elim q
   |skip
  ·have e:x= .non:=r1;subst e;cases (show v= .none from rx);exact wpAny_is_plain (by rfl) ⟨.bl false,H,I,rfl,post (.bl false) _ _ _ (.refl H) rh rfl q⟩
  ·rename_i b;have e:x= .bl b:=r1;subst e;cases (show v= .bool b from rx);have eb:(Value.bool b==Value.bool c)=(b==c):=by cases b<;>cases c<;>rfl
   refine wpAny_is_plain (by rfl) ⟨.bl (b==c),H,I,by rw [eb];rfl,post (.bl (b==c)) _ _ _ (.refl H) rh rfl ?_⟩;simpa [isV] using q
 |_=>exact False.elim q
theorem XZ:OpQ X (compareOp .IsNot) (isV true):=by
 intro pins s σ H x y v u Q I rx ry h;obtain⟨dx,dy,h,Qd,r1,r2,rh,q,post⟩:=h;cases dy with
 |non=>
  have e:y= .non:=r2;subst e;refine BI pins s σ H x .non v u Q I rx ry ⟨rfl,?_⟩;rw [Dh r1];have q':Qd (.bl (!isN dx)) h:=by simpa [isV] using q
  exact post (.bl _) _ _ _ (.refl H) rh rfl q'
 |bl c=>
  have e:y= .bl c:=r2;subst e;cases (show u= .bool c from ry);cases dx<;>first
   |exact False.elim q
   |skip
  ·have e:x= .non:=r1;subst e;cases (show v= .none from rx);exact wpAny_isNot_plain (by rfl) ⟨.bl true,H,I,rfl,post (.bl true) _ _ _ (.refl H) rh rfl q⟩
  ·rename_i b;have e:x= .bl b:=r1;subst e;cases (show v= .bool b from rx);have eb:(!(Value.bool b==Value.bool c))= !(b==c):=by cases b<;>cases c<;>rfl
   refine wpAny_isNot_plain (by rfl) ⟨.bl (!(b==c)),H,I,by rw [eb];rfl,post (.bl (!(b==c))) _ _ _ (.refl H) rh rfl ?_⟩;simpa [isV] using q
 |_=>exact False.elim q
end
end L2
namespace HT
open PySem PySem.Spec PyProof.Rows
section
variable {prog:Program}{w:World}{A:Around}{E:Value->Shared->Prop}{s:Shared}
theorem Di (k:Int){vs:List Value}{ns:List Int}(hi:IntsAre vs ns)(j:Nat)(h:j<ns.length): ∃t,vs[j]? =some (.int ns[j] t):=by
 induction hi generalizing j with
 |nil=>simp at h
 |cons n t r ih=>
  cases j with
  |zero=>exact⟨t,rfl⟩
  |succ j=>obtain⟨u,e⟩:=ih j (by simpa using h);exact⟨u,by simpa using e⟩
end
end HT
namespace L2
open PySem PySem.Spec PyProof.Rows
theorem ZZ: ∀ {ns:List Int} {us:List Value},Vals (ns.map V.int) us->IntsAre us ns
 | [],_,r=>by cases r;exact .nil
 |n::ns,_,r=>by
  cases r with
  |cons r t=>obtain⟨k,rfl⟩:=r;exact .cons n k (ZZ t)
theorem zt {K:PySem.W.Frag}{H:Hp}: ∀ {ns:List Int} {vs:List V},RelDs K H (ns.map D.int) vs->vs=ns.map V.int
 | [],_,h=>h
 |n::ns,vs,h=>by
  obtain⟨v,r,e,h1,h2⟩:=(show ∃v r,vs=v::r/\RelD K H (.int n) v/\RelDs K H (ns.map D.int) r from h);rw [e,zt h2,(show v= .int n from h1)];rfl
theorem Ym (ns:List Int): ∀k,k<=ns.length->preSum (λi=>ns.getD i 0) k=(ns.take k).sum
 |0,_=>by simp [preSum]
 |k+1,h=>by
  have hk:k<ns.length:=by omega
  rw [preSum,Ym ns k (by omega),T8,G1 hk,List.sum_append,P1,G1 hk];simp
variable {X:Cx}
theorem YO (hc:X.calm=true):CallR X (.builtin "sum") (λxs H Q=> ∃ (a:Addr) (ns:List Int),xs= [.ref a]/\SqL X.K H a (ns.map V.int)/\Q (.int ns.sum) H):=by
 intro pins s σ H xs us Q I r h;obtain⟨a,ns,rfl,hS,q⟩:=h;obtain⟨u,rfl,ru⟩:=Jz r;cases ru;obtain⟨its,rv,pl,hz⟩:=I.list hS;have hl:=pl.isList;have hlt:a<s.heap.objs.size:=by obtain⟨_,e,_⟩:=hl;exact P5 e
 have hi:=ZZ rv;have hn:its.length=ns.length:=hi.length;refine call_sum_walkAnyS (A2 hl ?_);refine⟨s.heap.objs.size,_,_,_,_,_,_,λi=>ns.getD i 0,rfl,(G0Z (A:=X.A.in1) (show X.A.in1.handled=none from I.ok.hd hc) s.heap.objs.size a (R6 hlt) its.toArray).toS,⟨⟨_,D9 _ rfl,rfl,rfl⟩,hl.push _⟩,?_,?_,λs' t' hm=> ?_⟩
 ·intro b hb;simp only [D0,M0,W5] at hb;show b<(s.heap.push _).objs.size;rw [Y0];rcases hb with e|e
  ·rw [e];exact F8 _
  ·rw [e];exact X5 hlt
 ·intro i v hP;have e:its[i]? =some v:=by simpa using hP
  have hil:i<ns.length:=by rw [<-hn];exact(G5.mp e).1
  obtain⟨t,e2⟩:=HT.Di 0 hi i hil;rw [e] at e2;cases e2;refine⟨t,?_⟩;show Value.int ns[i] t=Value.int (ns.getD i 0) t;rw [P1,G1 hil];rfl
 ·have e:preSum (λi=>ns.getD i 0) its.toArray.size=ns.sum:=by
   rw [P8,hn,Ym ns _ (G8 _),E3]
  rw [e];obtain⟨h',g',d',tk',o'⟩:=s';obtain⟨m1,m2,m3,m4,_⟩:=hm;simp only at m1 m2 m3 m4;subst m2 m3 m4;refine⟨.int ns.sum,H,I.kept (t':=tk') (λb o e=>m1 b o (λz=> ?_) (G3 _ e)),⟨_,rfl⟩,q⟩;rw [G2.mp z] at e;exact absurd (P5 e) (M5 _)
def SM:RDn:=λds h Q=> ∃ (a:Addr) (ns:List Int),ds= [.lst a]/\h a=some (ns.map D.int)/\Q (.int ns.sum) (WP h a)
theorem CF (hc:X.calm=true):yw X (.builtin "sum") SM:=(YO hc).imp λxs H Q ⟨ds,h,Qd,r,rh,⟨a,ns,e,hd,q⟩,p⟩=>by
 subst e;obtain⟨v,e,r1⟩:=jA r;obtain⟨vs,hH,r2⟩:=rh a _ hd;have e1:v= .ref a:=r1.1;rw [zt r2] at hH;subst e e1;exact⟨a,ns,rfl,SqL.of hH,p (.int _) _ _ _ (.refl H) (rh.sub (Sub.drop h a)) rfl q⟩
structure JE (X:Cx)(e:Expr)(t:TED):Prop where
 to:QE X e t
structure JT (X:Cx)(e:Expr)(t:TTD):Prop where
 to:QT X e t
structure JW (X:Cx)(e:Expr)(t:TTD):Prop where
 to:QW X e t
structure JA (X:Cx)(e:List Expr)(t:TAD):Prop where
 to:QA X e t
structure JS (X:Cx)(e:Stmt)(t:TSD):Prop where
 to:QS X e t
structure JSs (X:Cx)(e:List Stmt)(t:TSD):Prop where
 to:QSs X e t
structure JG (X:Cx)(e:Expr)(t:TGD):Prop where
 to:QG X e t
structure JI (X:Cx)(tg e:Expr)(t:TID):Prop where
 to:QI X tg e t
structure JO (X:Cx)(e:Option Expr)(t:TOD):Prop where
 to:QO X e t
section
variable {X:Cx}{a b c e:Expr}{es rest:List Expr}{ta tb tc te:TED}{t u:TAD}{tt tu:TTD}{pos:Pos}{f r r':RD2}
theorem jv (i:Nat){x:Str}(hN:X.N[i]? =some x:=by rfl)(hv:Vis X.env.scope x:=by first|exact Or.inl rfl|exact Or.inr (Or.inl rfl)|exact Or.inr (Or.inr rfl))(hd:(x==("__debug__" :Str))=false:=by decide)(hcd:(x==("__classdict__" :Str))=false:=by decide):JE X (.Name x pos) (GL i):=⟨qv (i:=i) (hN:=hN) (hv:=hv) (hd:=hd) (hcd:=hcd)⟩
variable {j:Nat}
theorem jm {i:Int}:JE X (.Constant (.int i) j pos) (dC (.int i)):=⟨Hr⟩
theorem jbl {i:Bool}:JE X (.Constant (.bool i) j pos) (dC (.bl i)):=⟨qbl⟩
theorem CG:JE X (.Constant .none j pos) (dC .non):=⟨Hs⟩
theorem Za {x:Str}:JE X (.Constant (.str x) j pos) (dC (.str x)):=⟨Ht⟩
theorem SN {x:Str}{i:Int}{tk:Tok}(hg:Gl X x)(hm:X.mg x=some (.int i tk))(hd:(x==("__debug__" :Str))=false:=by decide):JE X (.Name x pos) (dC (.int i)):=⟨Sf (hg:=hg) (hm:=hm) (hd:=hd)⟩
theorem jop {op:Operator}(ho:OpQ X (binaryOp op) f)(ha:JE X a ta)(hb:JE X b tb):JE X (.BinOp a op b pos) (dOp f ta tb):=⟨qop (ho:=ho) (ha:=ha.to) (hb:=hb.to)⟩
variable {op:CmpOp}
theorem SO (ho:OpQ X (compareOp op) f)(ha:JE X a ta)(hb:JE X b tb)(hm:behindInMarks op b=false):JE X (.Compare a [op] [b] pos) (dOp f ta tb):=⟨Hu (ho:=ho) (ha:=ha.to) (hb:=hb.to) (hm:=hm)⟩
theorem Gc (ho:OpQ X (compareOp op) f)(ha:JE X a ta)(hb:JE X b tb)(hm:behindInMarks op b=false):JT X (.Compare a [op] [b] pos) (Zp (dOp f ta tb)):=⟨Sg (ho:=ho) (ha:=ha.to) (hb:=hb.to) (hm:=hm)⟩
theorem Am {op':CmpOp}(ho:OpQ X (compareOp op) r)(ho':OpQ X (compareOp op') r')(ha:JE X a ta)(hb:JE X b tb)(hc:JE X c tc)(hm:lastMarks [op,op'] [b,c]=false:=by with_unfolding_all rfl):JE X (.Compare a [op,op'] [b,c] pos) (ZX r r' ta tb tc):=⟨OC (ho:=ho) (ho':=ho') (ha:=ha.to) (hb:=hb.to) (hc:=hc.to) (hm:=hm)⟩
theorem UY {op':CmpOp}(ho:OpQ X (compareOp op) r)(ho':OpQ X (compareOp op') r')(ha:JE X a ta)(hb:JE X b tb)(hc:JE X c tc)(hm:lastMarks [op,op'] [b,c]=false:=by with_unfolding_all rfl):JT X (.Compare a [op,op'] [b,c] pos) (Zp (ZX r r' ta tb tc)):=⟨Ch (ho:=ho) (ho':=ho') (ha:=ha.to) (hb:=hb.to) (hc:=hc.to) (hm:=hm)⟩
theorem wy (ha:JE X a ta)(he: ∀whole,isTrue a X.env whole=(do let v <-whole;standAt a.pos;holding [v] (truthy v)):=by intro _;rfl):JT X a (Zp ta):=⟨Sh (ha:=ha.to) (he:=he)⟩
theorem Dj (ha:JT X a tt):JW X (.BoolOp .And [a] pos) tt:=⟨Si (ha:=ha.to)⟩
theorem Bh (ha:JT X a tt):JW X (.BoolOp .Or [a] pos) tt:=⟨Hv (ha:=ha.to)⟩
theorem Dk (ha:JT X a tt)(hb:JW X (.BoolOp .And (b::rest) pos) tu):JW X (.BoolOp .And (a::b::rest) pos) (Ce tt tu):=⟨Sj (ha:=ha.to) (hb:=hb.to)⟩
theorem GM (ha:JT X a tt)(hb:JW X (.BoolOp .Or (b::rest) pos) tu):JW X (.BoolOp .Or (a::b::rest) pos) (Oq tt tu):=⟨Hw (ha:=ha.to) (hb:=hb.to)⟩
theorem yE (ha:JT X a tt):JT X (.UnaryOp .Not a pos) (PD tt):=⟨Sk (ha:=ha.to)⟩
theorem GN {op:BoolOp}(ha:JE X a ta):JE X (.BoolOp op [a] pos) ta:=⟨Hx (ha:=ha.to)⟩
theorem Mh (ha:JE X a ta)(hb:JE X (.BoolOp .And (b::rest) pos) tb):JE X (.BoolOp .And (a::b::rest) pos) (PF ta tb):=⟨Hy (ha:=ha.to) (hb:=hb.to)⟩
theorem jor (ha:JE X a ta)(hb:JE X (.BoolOp .Or (b::rest) pos) tb):JE X (.BoolOp .Or (a::b::rest) pos) (Sb ta tb):=⟨qor (ha:=ha.to) (hb:=hb.to)⟩
theorem TU (ha:JE X a ta):JE X (.UnaryOp .Not a pos) (PH ta):=⟨Hz (ha:=ha.to)⟩
theorem jif {c:Expr}(hc:JT X c tt)(ha:JE X a ta)(hb:JE X b tb):JE X (.IfExp c a b pos) (dIf tt ta tb):=⟨qif (hc:=hc.to) (ha:=ha.to) (hb:=hb.to)⟩
theorem zS:JA X [] Zo:=⟨OD⟩
theorem zC {k:Nat}(h:JA X es t):JE X (.Tuple es k pos) (Op t):=⟨HA (h:=h.to)⟩
theorem Zb (h:JA X es t):JE X (.List es pos) (Lc t):=⟨HB (h:=h.to)⟩
end
section
variable {X:Cx}{st:Stmt}{sts:List Stmt}{t u:TSD}{e:Expr}{te:TED}{pos:Pos}
theorem jG:JSs X [] QY:=⟨OJ⟩
theorem je (h1:JS X st t)(h2:JSs X sts u):JSs X (st::sts) (PK t u):=⟨Cn (h1:=h1.to) (h2:=h2.to)⟩
theorem jf (h1:JS X st t):JSs X [st] t:=⟨OK (h1:=h1.to)⟩
theorem VR (he:JE X e te)(hs:swapsWith e none pos.line X.env=pure false:=by rfl):JS X (.Expr e pos) (Cj te):=⟨So (he:=he.to) (hs:=hs)⟩
theorem zB (he:JE X e te):JS X (.Return (some e) pos) (QZ te):=⟨HE (he:=he.to)⟩
theorem vY {c:Expr}{a b:List Stmt}{tc:TTD}(hc:JT X c tc)(ha:JSs X a t)(hb:JSs X b u):JS X (.If c a b pos) (Ld tc t u):=⟨HF (hc:=hc.to) (ha:=ha.to) (hb:=hb.to)⟩
variable {i:Nat}{x:Str}
theorem TV {pos':Pos}(hN:X.N.Nodup)(hi:X.N[i]? =some x)(hx:Loc X.env.scope x)(he:JE X e te)(hs:swapsWith e (some (.Name x pos')) pos.line X.env=pure false:=by rfl)(hf:X.fn x=true\/X.env.scope.names.lookup x=some .local:=by first|exact .inl rfl|exact .inr rfl|assumption):JS X (.Assign [.Name x pos'] e pos) (MC i te):=⟨HG (hN:=hN) (hi:=hi) (hx:=hx) (he:=he.to) (hs:=hs) (hf:=hf)⟩
theorem CH (hN:X.N.Nodup)(hi:X.N[i]? =some x)(hx:Loc X.env.scope x)(hf:X.fn x=true\/X.env.scope.names.lookup x=some .local:=by first|exact .inl rfl|exact .inr rfl|assumption):JG X (.Name x pos) (gN i):=⟨Co (hN:=hN) (hi:=hi) (hx:=hx) (hf:=hf)⟩
theorem Qa {j:Nat}{y:Str}{p1 p2:Pos}{k:Nat}(hc:X.calm=true)(hN:X.N.Nodup)(hi:X.N[i]? =some x)(hj:X.N[j]? =some y)(hx:Loc X.env.scope x)(hy:Loc X.env.scope y)(hf:X.fn x=true\/X.env.scope.names.lookup x=some .local:=by first|exact .inl rfl|exact .inr rfl|assumption)(hf2:X.fn y=true\/X.env.scope.names.lookup y=some .local:=by first|exact .inl rfl|exact .inr rfl|assumption):JG X (.Tuple [.Name x p1,.Name y p2] k pos) (gT2 i j):=⟨OL (hc:=hc) (hN:=hN) (hi:=hi) (hj:=hj) (hx:=hx) (hy:=hy) (hf:=hf) (hf2:=hf2)⟩
theorem An {tg:Expr}{g:TGD}(he:JE X e te)(hg:JG X tg g)(hs:swapsWithSole [tg] e pos.line X.env=pure false:=by rfl)(hsw:swappedStores [tg] e X.env=pure none:=by rfl)(h1:(assignEach [tg] X.env).map (·.2)= [assign tg X.env]:=by rfl):JS X (.Assign [tg] e pos) (Sl te g):=⟨HH (he:=he.to) (hg:=hg.to) (hs:=hs) (hsw:=hsw) (h1:=h1)⟩
theorem TW {j:Nat}{y:Str}{a b:Expr}{ta:TAD}{px py pt:Pos}{kt k2 pt2}(hc:X.calm=true)(hN:X.N.Nodup)(hi:X.N[i]? =some x)(hj:X.N[j]? =some y)(hij:i≠j)(hx:X.env.scope.names.lookup x=some .local)(hy:X.env.scope.names.lookup y=some .local)(ha:JA X [a,b] ta)(hw:swappedStores [.Tuple [.Name x px,.Name y py] kt pt] (.Tuple [a,b] k2 pt2) X.env=pure (some [x,y]))(hs:swapsWithSole [.Tuple [.Name x px,.Name y py] kt pt] (.Tuple [a,b] k2 pt2) pos.line X.env=pure false:=by rfl):JS X (.Assign [.Tuple [.Name x px,.Name y py] kt pt] (.Tuple [a,b] k2 pt2) pos) (Sm i j ta):=⟨HI (hc:=hc) (hN:=hN) (hi:=hi) (hj:=hj) (hij:=hij) (hx:=hx) (hy:=hy) (ha:=ha.to) (hw:=hw) (hs:=hs)⟩
end
section
variable {X:Cx}{tg e iter elt:Expr}{te:TED}{ti:TID}{g:TGD}{tb:TSD}{tt:TTD}{pos:Pos}{ta:TAD}{scope:Scope}{js:List Nat}{ifs:List Expr}
theorem Dl (he:JE X e te):JI X tg e (iL te):=⟨Cr (he:=he.to)⟩
theorem SQ {p:Pos}{a:Expr}(hg:Gl X "range")(hm:X.mg "range" =none)(ha:JA X [a] ta)(hs:starEach [a] X.env= [(false,eval a X.env)]:=by rfl):JI X tg (.Call (.Name "range" p) [a] [] pos) (iR1 ta):=⟨Sv (hg:=hg) (hm:=hm) (ha:=ha.to) (hs:=hs)⟩
theorem YQ {body:List Stmt}(hp:PassesOwn (model X.prog X.w) X.A X.env X.xe)(hc:X.calm=true)(hi:JI X tg iter ti)(hg:JG X tg g)(hb:JSs X body tb)(hs: ∀x,foldedSetIterable iter X.env x=pure x:=by intro _;rfl):JS X (.For tg iter body [] pos) (Lf ti g tb):=⟨HJ (hp:=hp) (hc:=hc) (hi:=hi.to) (hg:=hg.to) (hb:=hb.to) (hs:=hs)⟩
theorem YR:PTs X [] (LT X.K WK):=Cs
theorem UZ {c:Expr}(hc:JT X c tt):PTs X [c] (LT X.K tt):=Ct (hc:=hc.to)
theorem jlc {i:Nat}{x:Str}{p:Pos}(hc:X.calm=true)(S:BlockOk X scope js)(hi:JI X (.Name x p) iter ti)(hj:i∈js)(hN:X.N.Nodup)(hx:X.N[i]? =some x)(hl:scope.names.lookup x=some .local\/scope.names.lookup x=some .cell)(ht: ∀X',jt X scope X'->PTs X' ifs (LT X'.K tt))(he: ∀X',jt X scope X'->JE X' elt te)(hs: ∀x,foldedSetIterable iter X.env x=pure x:=by intro _;rfl):JE X (.ListComp elt [⟨.Name x p,iter,ifs,0⟩] scope pos) (yD (bN i) js ti tt te):=⟨qlc (hc:=hc) (S:=S) (hi:=hi.to) (hj:=hj) (hN:=hN) (hx:=hx) (hl:=hl) (ht:=ht) (he:=λX' hX=>(he X' hX).to) (hs:=hs)⟩
theorem HQ {i j:Nat}{x y:Str}{p1 p2 p3:Pos}{k:Nat}(hc:X.calm=true)(S:BlockOk X scope js)(hi:JI X (.Tuple [.Name x p1,.Name y p2] k p3) iter ti)(hj:i∈js)(hj2:j∈js)(hij:i≠j)(hN:X.N.Nodup)(hx:X.N[i]? =some x)(hy:X.N[j]? =some y)(hl:scope.names.lookup x=some .local\/scope.names.lookup x=some .cell)(hl2:scope.names.lookup y=some .local\/scope.names.lookup y=some .cell)(ht: ∀X',jt X scope X'->PTs X' ifs (LT X'.K tt))(he: ∀X',jt X scope X'->JE X' elt te)(hs: ∀x,foldedSetIterable iter X.env x=pure x:=by intro _;rfl):JE X (.ListComp elt [⟨.Tuple [.Name x p1,.Name y p2] k p3,iter,ifs,0⟩] scope pos) (yD (b2 i j) js ti tt te):=⟨HK (hc:=hc) (S:=S) (hi:=hi.to) (hj:=hj) (hj2:=hj2) (hij:=hij) (hN:=hN) (hx:=hx) (hy:=hy) (hl:=hl) (hl2:=hl2) (ht:=ht) (he:=λX' hX=>(he X' hX).to) (hs:=hs)⟩
end
section
variable {X:Cx}{k:Nat}{f:Addr}{fd:FuncData}{ps:List Str}{spd:RDn}{x:Str}{p pos:Pos}{e:Expr}{es:List Expr}{t:TAD}
theorem SR (F:FnOk X.prog X.w X.K X.mg X.base CX0 k f fd ps (LSp X.K spd))(hr:Room k X.A)(hg:Gl X x)(hm:X.mg x=some (.ref f))(hk:PySem.W.keepIn X.K (.ref f)=true)(hb:Binds X.K fd ps [])(ha:JA X (e::es) t)(hdb:(x==("__debug__" :Str))=false:=by decide)(he:starEach (e::es) X.env=(false,eval e X.env)::starEach es X.env:=by rfl)(hpl:(backTo pos (starEach es X.env)).any (·.1)=false:=by rfl):JE X (.Call (.Name x p) (e::es) [] pos) (dCB spd t):=⟨Sw (F:=F) (hr:=hr) (hg:=hg) (hm:=hm) (hk:=hk) (hb:=hb) (ha:=ha.to) (hdb:=hdb) (he:=he) (hpl:=hpl)⟩
theorem zE {id:String}{r:RDn}(hc:yw X (.builtin id) r)(hg:Gl X x)(hm:X.mg x=none)(hv:bootBuiltins x=some (.builtin id))(ha:JA X (e::es) t)(hn:x≠ "__name__" :=by decide)(hdb:(x==("__debug__" :Str))=false:=by decide)(he:starEach (e::es) X.env=(false,eval e X.env)::starEach es X.env:=by rfl)(hpl:(backTo pos (starEach es X.env)).any (·.1)=false:=by rfl):JE X (.Call (.Name x p) (e::es) [] pos) (dCB r t):=⟨OP (hc:=hc) (hg:=hg) (hm:=hm) (hv:=hv) (ha:=ha.to) (hn:=hn) (hdb:=hdb) (he:=he) (hpl:=hpl)⟩
theorem zF {T:String}{r:RDn}(hc:yw X (.type T) r)(hg:Gl X x)(hm:X.mg x=none)(hv:bootBuiltins x=some (.type T))(ha:JA X (e::es) t)(hn:x≠ "__name__" :=by decide)(hdb:(x==("__debug__" :Str))=false:=by decide)(he:starEach (e::es) X.env=(false,eval e X.env)::starEach es X.env:=by rfl)(hpl:(backTo pos (starEach es X.env)).any (·.1)=false:=by rfl):JE X (.Call (.Name x p) (e::es) [] pos) (dCB r t):=⟨Cu (hc:=hc) (hg:=hg) (hm:=hm) (hv:=hv) (ha:=ha.to) (hn:=hn) (hdb:=hdb) (he:=he) (hpl:=hpl)⟩
end
section
variable {X:Cx}{iter elt:Expr}{te:TED}{ti:TID}{tt:TTD}{pos spos:Pos}{scope:Scope}{js:List Nat}{ifs:List Expr}
theorem Bi {i k:Nat}{x y:Str}{p py:Pos}(hc:X.calm=true)(hN:X.N.Nodup)(hk:X.N[k]? =some y)(hy:Loc X.env.scope y)(S:BlockOk X scope js)(hi:JI X (.Name x p) iter ti)(hj:i∈js)(hx:X.N[i]? =some x)(hl:scope.names.lookup x=some .local\/scope.names.lookup x=some .cell)(ht: ∀X',jt X scope X'->PTs X' ifs (LT X'.K tt))(he: ∀X',jt X scope X'->JE X' elt te)(hsw:swapsWith (.ListComp elt [⟨.Name x p,iter,ifs,0⟩] scope pos) (some (.Name y py)) spos.line X.env=pure true:=by rfl)(hf:X.fn y=true\/X.env.scope.names.lookup y=some .local:=by first|exact .inl rfl|exact .inr rfl|assumption)(hs: ∀x,foldedSetIterable iter X.env x=pure x:=by intro _;rfl):JS X (.Assign [.Name y py] (.ListComp elt [⟨.Name x p,iter,ifs,0⟩] scope pos) spos) (MC k (yD (bN i) js ti tt te)):=⟨OQ (hc:=hc) (hN:=hN) (hk:=hk) (hy:=hy) (S:=S) (hi:=hi.to) (hj:=hj) (hx:=hx) (hl:=hl) (ht:=ht) (he:=λX' hX=>(he X' hX).to) (hsw:=hsw) (hf:=hf) (hs:=hs)⟩
end
section
variable {X:Cx}{a b e:Expr}{ta tb te:TED}{pos p2:Pos}
theorem jix (ha:JE X a ta)(hb:JE X b tb)(hs:YB b):JE X (.Subscript a b pos) (dOp ixD ta tb):=⟨qix (ha:=ha.to) (hb:=hb.to) (hs:=hs)⟩
end
variable {pos:Pos}
theorem YS {a:Expr}{ta:TED}{T:String}{t:Str}{p p2:Pos}(hT:T∈ ["tuple","int","bool","list","str"])(hg:Gl X "isinstance")(hm:X.mg "isinstance" =none)(hg2:Gl X t)(hm2:X.mg t=none)(hv:bootBuiltins t=some (.type T))(ha:JE X a ta)(hn:t≠ "__name__" :=by decide)(hd:(t==("__debug__" :Str))=false:=by decide)(h1:starEach [a,.Name t p2] X.env=(false,eval a X.env)::starEach [.Name t p2] X.env:=by rfl)(h2:(backTo pos (starEach [.Name t p2] X.env)).any (·.1)=false:=by rfl):JE X (.Call (.Name "isinstance" p) [a,.Name t p2] [] pos) (dIs T ta):=⟨SE (hT:=hT) (hg:=hg) (hm:=hm) (hg2:=hg2) (hm2:=hm2) (hv:=hv) (ha:=ha.to) (hn:=hn) (hd:=hd) (h1:=h1) (h2:=h2)⟩
section
variable {X:Cx}{o e i:Expr}{to te ti:TED}{apos cpos pos:Pos}
theorem Er (ho:JE X o to)(he:JE X e te)(hbase:attributeBase o "append" X.env (eval o X.env)=eval o X.env:=by rfl)(hfew:((backTo cpos (starEach [e] X.env)).all (λx=> !x.1)&&(backToKw cpos (keywordEach [] X.env)).all (λx=>x.1.isSome)&&decide ([e].length+([]:List Keyword).length+(if ([]:List Keyword).isEmpty then 0 else 1)<30))=true:=by rfl)(hline:(apos.endLine==cpos.line)=true:=by rfl)(hs:starEach [e] X.env=(false,eval e X.env)::starEach [] X.env:=by rfl)(hplain:(backTo cpos (starEach [] X.env)).any (·.1)=false:=by rfl):JE X (.Call (.Attribute o "append" apos) [e] [] cpos) (TR to te):=⟨HM (ho:=ho.to) (he:=he.to) (hbase:=hbase) (hfew:=hfew) (hline:=hline) (hs:=hs) (hplain:=hplain)⟩
theorem Dm (ho:JE X o to)(hi:JE X i ti)(ha: ∀v,assign (.Subscript o i pos) X.env v=(do
 let ov <-holding [v] (eval o X.env)
 let iv <-holding [v,ov] (eval i X.env)
 standAt pos
 holding [v,ov,iv] (setItem ov iv v)
 release [v,ov,iv] []):=by intro _;rfl):JG X (.Subscript o i pos) (OY to ti):=⟨OZ (ho:=ho.to) (hi:=hi.to) (ha:=ha)⟩
end
theorem jpt {e:Expr}{t:TTD}(h:JW X e t):JT X e t:=⟨qpt (h:=h.to)⟩
theorem Do:JO X none Da:=⟨CA⟩
variable {te:TED}
theorem YT {e:Expr}(he:JE X e te):JO X (some e) (Aa te):=⟨CB (he:=he.to)⟩
theorem Dp {e:Expr}{lo hi:Option Expr}{tl th:TOD}{p2:Pos}(he:JE X e te)(hl:JO X lo tl)(hu:JO X hi th):JE X (.Subscript e (.Slice lo hi none p2) pos) (dSl te tl th):=⟨Ab (he:=he.to) (hl:=hl.to) (hu:=hu.to)⟩
theorem SS {a:Expr}{ta:TED}(ha:JE X a ta):JE X (.UnaryOp .USub a pos) (dUn SJ ta):=⟨HP (ha:=ha.to)⟩
theorem Ao {ks:List (Option Expr)}{vs:List Expr}{x:Str}{i:Int}(h:UW ks vs=some (x,i):=by rfl):JE X (.Dict ks vs pos) (XX x i):=⟨Ad (h:=h)⟩
theorem jX {tg e:Expr}(he:JE X e te):JI X tg e (iS te):=⟨Ah (he:=he.to)⟩
theorem VS {st:Stmt}:JS X st Bf:=⟨Ai⟩
theorem jac {e:Expr}{es:List Expr}{t:TAD}(ha:JE X e te)(hr:JA X es t)(h:zh e=true:=by rfl):JA X (e::es) (jY te t):=⟨qac (ha:=ha.to) (hr:=hr.to) (h:=h)⟩
section
variable {P:Program}{w:World}{K:PySem.W.Frag}{mg:Str->Option Value}{base:Heap}
theorem Fun.okJ {x qual:Str}{st:Stmt}{f:Addr}{fd:FuncData}{N ps:List Str}{k:Nat}{spd:RDn}(F:Fun K x qual st f fd)(S:FnScope N ps (jc st))(len: ∀ds h Q,spd ds h Q->ds.length=ps.length)
 (tb:TSD)(hbody: ∀ (cdv:Value) (A:Around) (outer:List Env) (s:Shared) (H:Hp) (E:XK),Room k (A.deeper (envOfC qual (jc st) s.heap.objs.size f cdv))->JSs (WL CX0 P w K mg base N qual (jc st) f cdv A outer s H E).nox (jL st) tb)
 (read: ∀ds h Q,spd ds h Q->tb (VM Q) (jQ N ds) h):FnOk P w K mg base CX0 (k+1) f fd ps (LSp K spd):=F.okD S len tb (λcdv A outer s H E hr=>(hbody cdv A outer s H E hr).to) read
end
def vk (r:List Int):D:= .tup (r.map D.int)
def jw (T:List (List Int)):D:= .tup (T.map vk)
def Xa (n:Nat)(r:List Int):Prop:=r.length=n/\ ∀x∈r,0<=x/\x<=1000000
def GoodTab (n:Nat)(T:List (List Int)):Prop:=T.length=n/\ ∀r∈T,Xa n r
structure Sq (n e:Nat)(T:List (List Int)):Prop where
 len:T.length=n
 row: ∀r∈T,r.length=n
 nn: ∀r∈T,∀x∈r,0<=x
 bit: ∀r∈T,∀x∈r,x<2^e
variable {n:Nat}{T:List (List Int)}
theorem GoodTab.sq (g:GoodTab n T):Sq n 20 T:=⟨g.1,λr hr=>(g.2 r hr).1,λr hr x hx=>((g.2 r hr).2 x hx).1,λr hr x hx=>Int.lt_of_le_of_lt ((g.2 r hr).2 x hx).2 (by decide)⟩
variable {e f:Nat}
theorem Sq.mono (h:Sq n e T)(l:e<=f):Sq n f T:=⟨h.len,h.row,h.nn,λr hr x hx=>Int.lt_of_lt_of_le (h.bit r hr x hx) (by
 have:(2:Nat)^e<=2^f:=F4 (by decide) l;have h2:((2^e:Nat):Int)<=((2^f:Nat):Int):=by exact_mod_cast this
 simpa using h2)⟩
def ent (T:List (List Int))(i j:Nat):Int:=(T.getD i []).getD j 0
def mkT (n:Nat)(f:Nat->Nat->Int):List (List Int):=(List.range n).map λi=>(List.range n).map λj=>f i j
theorem Wa {i j:Nat}{f:Nat->Nat->Int}(hi:i<n)(hj:j<n):ent (mkT n f) i j=f i j:=by
 unfold ent mkT;simp [P1,hi,hj]
theorem wY {α:Type}(xs:List α)(d:α):xs=(List.range xs.length).map λi=>xs.getD i d:=by
 apply List.ext_getElem (by simp);intro i h1 h2;simp [P1,h1]
theorem Sq.eq_mk (h:Sq n e T):T=mkT n (ent T):=by
 have h1:=wY T [];rw [h.len] at h1;unfold mkT
 conv=>lhs;rw [h1]
 apply S3;intro i hi;have hi':i<T.length:=by rw [h.len];exact P2.mp hi
 have hr:(T.getD i []).length=n:=by
  rw [P1,G1 hi'];exact h.row _ (T1 hi')
 have h2:=wY (T.getD i []) 0;rw [hr] at h2;exact h2
theorem Qb {f g:Nat->Nat->Int}(h: ∀i j,i<n->j<n->f i j=g i j):mkT n f=mkT n g:=by
 unfold mkT;apply S3;intro i hi;apply S3;intro j hj;exact h i j (P2.mp hi) (P2.mp hj)
theorem Sq.of_mk {f:Nat->Nat->Int}(h0: ∀i j,i<n->j<n->0<=f i j)(h1: ∀i j,i<n->j<n->f i j<2^e):Sq n e (mkT n f):=by
 have key: ∀r∈mkT n f,∃i,i<n/\r=(List.range n).map λj=>f i j:=λr hr=>by
  obtain⟨i,hi,e⟩:=D8.mp hr;exact⟨i,P2.mp hi,e.symm⟩
 refine⟨by simp [mkT],λr hr=> ?_,λr hr x hx=> ?_,λr hr x hx=> ?_⟩
 ·obtain⟨i,_,e⟩:=key r hr;rw [e];simp
 ·obtain⟨i,hi,e⟩:=key r hr;rw [e] at hx;obtain⟨j,hj,e2⟩:=D8.mp hx;rw [<-e2];exact h0 i j hi (P2.mp hj)
 ·obtain⟨i,hi,e⟩:=key r hr;rw [e] at hx;obtain⟨j,hj,e2⟩:=D8.mp hx;rw [<-e2];exact h1 i j hi (P2.mp hj)
theorem Sq.ent_nn (h:Sq n e T){i j:Nat}(hi:i<n)(hj:j<n):0<=ent T i j/\ent T i j<2^e:=by
 have hi':i<T.length:=by rw [h.len];exact hi
 have hr:T.getD i []=T[i]:=by rw [P1,G1 hi'];rfl
 have hm:T[i]∈T:=T1 hi';have hj':j<T[i].length:=by rw [h.row _ hm];exact hj
 have he:ent T i j=T[i][j]:=by unfold ent;rw [hr,List.getD_eq_getElem?_getD,List.getElem?_eq_getElem hj'];rfl
 rw [he];exact⟨h.nn _ hm _ (T1 hj'),h.bit _ hm _ (T1 hj')⟩
variable {U:List (List Int)}
theorem Sq.ext (h:Sq n e T)(g:Sq n f U)(k: ∀i j,i<n->j<n->ent T i j=ent U i j):T=U:=by
 rw [h.eq_mk,g.eq_mk];exact Qb k
def jP (n:Nat)(f:Nat->Int):Int:=((List.range n).map f).sum
theorem wQ (f:Nat->Int):jP 0 f=0:=rfl
theorem jE (n:Nat)(f:Nat->Int):jP (n+1) f=jP n f+f n:=by
 unfold jP;rw [List.range_succ,List.map_append,List.sum_append];simp
theorem zj {f g:Nat->Int}(h: ∀k,k<n->f k=g k):jP n f=jP n g:=by
 unfold jP;congr 1;apply List.map_congr_left;intro k hk;exact h k (List.mem_range.mp hk)
theorem YU {f:Nat->Int}(h: ∀k,k<n->0<=f k):0<=jP n f:=by
 induction n with
 |zero=>exact Int.le_refl _
 |succ n ih=>rw [jE];have:=ih λk hk=>h k (by omega);have:=h n (by omega);omega
theorem MK {f:Nat->Int}{b:Int}(h: ∀k,k<n->f k<=b):jP n f<=n*b:=by
 induction n with
 |zero=>simp [wQ]
 |succ n ih=>
  rw [jE];have h1:=ih λk hk=>h k (by omega);have h2:=h n (by omega)
  have:((n+1:Nat):Int)*b=(n:Int)*b+b:=by rw [Int.natCast_add,Int.add_mul];simp
  omega
theorem Dq (n:Nat)(f g:Nat->Int):jP n (λk=>f k+g k)=jP n f+jP n g:=by
 induction n with
 |zero=>rfl
 |succ n ih=>rw [jE,jE,jE,ih];omega
theorem Wb (n:Nat)(c:Int)(f:Nat->Int):jP n (λk=>c*f k)=c*jP n f:=by
 induction n with
 |zero=>simp [wQ]
 |succ n ih=>rw [jE,jE,ih,Int.mul_add]
theorem Gd (n:Nat)(c:Int)(f:Nat->Int):jP n (λk=>f k*c)=jP n f*c:=by
 rw [G1k,<-Wb];exact zj λk _=>G1k _ _
theorem Ge (m n:Nat)(f:Nat->Nat->Int):jP m (λi=>jP n (f i))=jP n (λj=>jP m λi=>f i j):=by
 induction m with
 |zero=>
  rw [wQ]
  induction n with
  |zero=>rfl
  |succ n ih=>rw [jE,<-ih,wQ];rfl
 |succ m ih=>
  rw [jE,ih,<-Dq];exact zj λj _=>(jE m λi=>f i j).symm
theorem VT {f:Nat->Int}{i:Nat}(hi:i<n)(h: ∀k,k<n->k≠i->f k=0):jP n f=f i:=by
 induction n with
 |zero=>omega
 |succ n ih=>
  rw [jE]
  by_cases e:i=n
  ·subst e;have:jP i f=0:=by
    have:jP i f=jP i (λ_=>0*1):=zj λk hk=>by rw [h k (by omega) (by omega)];rfl
    rw [this,Wb];simp
   omega
  ·rw [ih (by omega) λk hk hne=>h k (by omega) hne,h n (by omega) (by omega)];omega
theorem Dr {f:Nat->Int}(h: ∀k,k<n->0<=f k):0<jP n f↔ ∃k,k<n/\0<f k:=by
 induction n with
 |zero=>simp [wQ]
 |succ n ih=>
  rw [jE];have h1:=YU λk (hk:k<n)=>h k (by omega)
  have h2:=h n (by omega);have ih':=ih λk hk=>h k (by omega)
  constructor
  ·intro z
   by_cases q:0<f n
   ·exact⟨n,by omega,q⟩
   ·obtain⟨k,a,b⟩:=ih'.mp (by omega);exact⟨k,by omega,b⟩
  ·rintro ⟨k,a,b⟩
   by_cases q:k=n
   ·subst q;omega
   ·have:=ih'.mpr ⟨k,by omega,b⟩;omega
def vZ (n:Nat)(T U:List (List Int)):List (List Int):=mkT n λi j=>jP n λk=>ent T i k*ent U k j
theorem Sq.mul (h:Sq n e T)(g:Sq n f U)(hn:n<=8):Sq n (e+f+3) (vZ n T U):=by
 have nn: ∀i j,i<n->j<n-> ∀k,k<n->0<=ent T i k*ent U k j:=λi j hi hj k hk=>Int.mul_nonneg (h.ent_nn hi hk).1 (g.ent_nn hk hj).1
 refine Sq.of_mk (λi j hi hj=>YU (nn i j hi hj)) λi j hi hj=> ?_
 have hle: ∀k,k<n->ent T i k*ent U k j<=2^e*2^f-1:=λk hk=>by
  have a:=h.ent_nn hi hk;have b:=g.ent_nn hk hj;have:ent T i k*ent U k j<2^e*2^f:=by
   have p:(0:Int)<2^f:=G1s (by decide)
   calc ent T i k*ent U k j<=ent T i k*2^f:=Int.mul_le_mul_of_nonneg_left (Int.le_of_lt b.2) a.1
    _<2^e*2^f:=Int.mul_lt_mul_of_pos_right a.2 p
  omega
 have s:=MK hle;have p:(0:Int)<2^e*2^f:=Int.mul_pos (G1s (by decide)) (G1s (by decide));have e1:(2:Int)^(e+f+3)=8*(2^e*2^f):=by rw [Int.pow_add,Int.pow_add];rw [G1k];rfl
 rw [e1];have hn':(n:Int)<=8:=by omega
 have:(n:Int)*(2^e*2^f-1)<=8*(2^e*2^f-1):=Int.mul_le_mul_of_nonneg_right hn' (by omega);omega
theorem vD {i j:Nat}(hi:i<n)(hj:j<n):ent (vZ n T U) i j=jP n λk=>ent T i k*ent U k j:=Wa hi hj
def GO (n:Nat):List (List Int):=mkT n λi j=>if i=j then 1 else 0
theorem Sq.one (n:Nat):Sq n 1 (GO n):=Sq.of_mk (f:=λi j=>if i=j then 1 else 0) (λi j _ _=>by split<;>decide) λi j _ _=>by split<;>decide
theorem mul_assoc {g:Nat}{V:List (List Int)}(hT:Sq n e T)(hU:Sq n f U)(hV:Sq n g V)(hn:n<=8):vZ n (vZ n T U) V=vZ n T (vZ n U V):=by
 refine((hT.mul hU hn).mul hV hn).ext (hT.mul (hU.mul hV hn) hn) λi j hi hj=> ?_
 rw [vD hi hj,vD hi hj];have e1:(jP n λk=>ent (vZ n T U) i k*ent V k j)=jP n λk=>jP n λl=>ent T i l*ent U l k*ent V k j:=
  zj λk hk=>by rw [vD hi hk,<-Gd]
 have e2:(jP n λl=>ent T i l*ent (vZ n U V) l j)=jP n λl=>jP n λk=>ent T i l*(ent U l k*ent V k j):=
  zj λl hl=>by rw [vD hl hj,<-Wb]
 rw [e1,e2,Ge];exact zj λl _=>zj λk _=>Int.mul_assoc _ _ _
theorem Qc (hT:Sq n e T)(hn:n<=8):vZ n (GO n) T=T:=by
 refine((Sq.one n).mul hT hn).ext hT λi j hi hj=> ?_
 rw [vD hi hj,VT hi λk hk hne=>by rw [GO,Wa hi hk,if_neg (Ne.symm hne)];simp];rw [GO,Wa hi hi,if_pos rfl];simp
theorem ML (hT:Sq n e T)(hn:n<=8):vZ n T (GO n)=T:=by
 refine(hT.mul (Sq.one n) hn).ext hT λi j hi hj=> ?_
 rw [vD hi hj,VT hj λk hk hne=>by rw [GO,Wa hk hj,if_neg hne];simp];rw [GO,Wa hj hj,if_pos rfl];simp
def yy (n:Nat)(T:List (List Int)):Nat->List (List Int)
 |0=>GO n
 |k+1=>vZ n (yy n T k) T
theorem Sq.pow (hT:Sq n e T)(hn:n<=8): ∀k,Sq n (k*(e+3)+1) (yy n T k)
 |0=>(Sq.one n).mono (by omega)
 |k+1=>((Sq.pow hT hn k).mul hT hn).mono (by rw [G0T];omega)
def jO (n:Nat)(T:List (List Int)):List (List Int):=mkT n λi j=>if ent T i j=0 then 0 else 1
theorem Sq.mark (T:List (List Int)):Sq n 1 (jO n T):=Sq.of_mk (f:=λi j=>if ent T i j=0 then 0 else 1) (λi j _ _=>by split<;>decide) λi j _ _=>by split<;>decide
def jU (T:List (List Int)):Bool:=T.all λr=>r.all λx=>decide (x≠0)
theorem Xb (n:Nat)(f:Nat->Nat->Int):jU (mkT n f)=true↔ ∀i j,i<n->j<n->f i j≠0:=by
 unfold jU mkT;simp only [A1,R0,P2,C0,L6];exact⟨λh i j hi hj=>h i hi j hj,λh i hi j hj=>h i j hi hj⟩
theorem Ds (h:Sq n e T):jU (jO n T)=jU T:=by
 have h1:jU T=jU (mkT n (ent T)):=by rw [<-h.eq_mk]
 rw [h1,M8,jO,Xb,Xb];constructor
 ·intro z i j hi hj w;exact z i j hi hj (by rw [if_pos w])
 ·intro z i j hi hj w;rw [if_neg (z i j hi hj)] at w;cases w
def MulOk (i j:Int):Prop:= ∃m n:Nat,i.natAbs<2^m/\j.natAbs<2^n/\m+n<=134217728
theorem MulOk.ok {i j:Int}(h:MulOk i j):IntMulOk i j:=by
 obtain⟨m,n,a,b,c⟩:=h;exact .of_le (G01.mpr a) (G01.mpr b) c
theorem CI:OpR X (binaryOp .Mult) (rI MulOk λi j=> .int (i*j)):=opI λ_ _ _ _ _ _ _ hc q=>mul_int q hc.ok
def HR:RD2:=λx y h Q=>match x,y with
 | .int i,.int j=>MulOk i j/\Q (.int (i*j)) h
 |_,_=>False
theorem CJ:OpQ X (binaryOp .Mult) HR:=YH (gd:=λi j=> .int (i*j)) CI (λ_ _ _=>rfl) λx y h Q q=>by
 cases x<;>cases y<;>first|exact False.elim q|exact⟨_,_,rfl,rfl,q.1,q.2⟩
theorem Wc {x:Int}(h0:0<=x)(h1:x<2^e):x.natAbs<2^e:=by
 have:((2^e:Nat):Int)=2^e:=by simp
 omega
theorem MM {x y:Int}(hx:0<=x/\x<2^e)(hy:0<=y/\y<2^f)(h:e+f<=134217728):MulOk x y:=⟨e,f,Wc hx.1 hx.2,Wc hy.1 hy.2,h⟩
section
variable {α β:Type}{i i':Nat}{js:List Nat}{ti ti':TID}{te:TED}{σ:SD}{h:HD}{Q:KD}{j:ItD}
theorem lcA (xs:List α)(c g:α->D)(hz:xs.length<=1000)(hj:j h=some (xs.map c))(ht: ∀R:ItD->HD->Prop,R j h->ti σ h R)
 (he: ∀x∈xs,∀Q':KD,Q' (g x) h->te ((jF js σ).set i (some (c x))) h Q')(hq: ∀p,h p=none->Q (.lst p) (we h p (xs.map g))):yD (bN i) js ti WK te σ h Q:=by
 refine ht _ ⟨xs.length,λk ys h'=>h'=h/\ys=(xs.take k).map g,⟨rfl,by simp⟩,?_⟩;rintro k ys h' ⟨rfl,rfl⟩;refine⟨by simp only [G0,R3];exact D5 (jx (by omega)),xs.map c,hj,by simp,λhl p hp=> ?_,λd hd=>⟨_,rfl,?_⟩⟩
 ·rw [S0 (by simpa using hl)];exact hq p hp
 ·unfold WK;dsimp only;rw [if_pos rfl];rw [D2] at hd;cases hx:xs[k]? with
  |none=>rw [hx] at hd;cases hd
  |some x=>
   rw [hx] at hd;cases hd;refine he x (G7 hx) _ ⟨h',Sub.refl _,rfl,?_⟩;rw [T8,hx];simp
theorem lcF (xs:List α)(c g:α->D)(p:α->Bool){tt:TTD}(hz:xs.length<=1000)(hj:j h=some (xs.map c))(ht: ∀R:ItD->HD->Prop,R j h->ti σ h R)
 (hp: ∀x∈xs,∀Q':Bool->HD->Prop,Q' (p x) h->tt ((jF js σ).set i (some (c x))) h Q')(he: ∀x∈xs,p x=true-> ∀Q':KD,Q' (g x) h->te ((jF js σ).set i (some (c x))) h Q')(hq: ∀a,h a=none->Q (.lst a) (we h a ((xs.filter p).map g))):yD (bN i) js ti tt te σ h Q:=by
 refine ht _ ⟨xs.length,λk ys h'=>h'=h/\ys=((xs.take k).filter p).map g,⟨rfl,by simp⟩,?_⟩;rintro k ys h' ⟨rfl,rfl⟩;refine⟨?_,xs.map c,hj,by simp,λhl a ha=> ?_,λd hd=>⟨_,rfl,?_⟩⟩
 ·have:=C5 p (xs.take k);simp only [G0,R3] at this ⊢;exact D5 (jx (by omega))
 ·rw [S0 (by simpa using hl)];exact hq a ha
 ·rw [D2] at hd;cases hx:xs[k]? with
  |none=>rw [hx] at hd;cases hd
  |some x=>
   rw [hx] at hd;cases hd;refine hp x (G7 hx) _ ?_;cases hb:p x with
   |true=>
    rw [if_pos rfl];refine he x (G7 hx) hb _ ⟨h',Sub.refl _,rfl,?_⟩;rw [T8,hx];simp [hb]
   |false=>
    rw [if_neg P7];refine⟨h',Sub.refl _,rfl,?_⟩;rw [T8,hx];simp [hb]
theorem Es (xs:List α)(c g:α->D)(hz:xs.length<=1000)(hj:j h=some (xs.map c))(ht: ∀R:ItD->HD->Prop,R j h->ti σ h R)
 (he: ∀x∈xs,∀Q':KD,Q' (g x) h->te ((jF js σ).set i (some (c x))) h Q')(hq:Q (.tup (xs.map g)) h):dCB vj (jY (yD (bN i) js ti WK te) Zo) σ h Q:=by
 show yD (bN i) js ti WK te σ h (λx h1=>vj [x] h1 Q);exact lcA xs c g hz hj ht he λp hp=>(show ∃ys,we h p (xs.map g) p=some ys/\Q (.tup ys) (WP (we h p (xs.map g)) p) from ⟨_,jd,by rw [zK hp];exact hq⟩)
theorem Ap (xs:List α)(c g:α->D)(p:α->Bool){tt:TTD}(hz:xs.length<=1000)(hj:j h=some (xs.map c))(ht: ∀R:ItD->HD->Prop,R j h->ti σ h R)
 (hp: ∀x∈xs,∀Q':Bool->HD->Prop,Q' (p x) h->tt ((jF js σ).set i (some (c x))) h Q')(he: ∀x∈xs,p x=true-> ∀Q':KD,Q' (g x) h->te ((jF js σ).set i (some (c x))) h Q')(hq:Q (.tup ((xs.filter p).map g)) h):dCB vj (jY (yD (bN i) js ti tt te) Zo) σ h Q:=by
 show yD (bN i) js ti tt te σ h (λx h1=>vj [x] h1 Q);exact lcF xs c g p hz hj ht hp he λa ha=>(show ∃ys,we h a ((xs.filter p).map g) a=some ys/\Q (.tup ys) (WP (we h a ((xs.filter p).map g)) a) from ⟨_,jd,by rw [zK ha];exact hq⟩)
theorem HS (xs:List α)(c:α->D)(g:α->Int)(hz:xs.length<=1000)(hj:j h=some (xs.map c))(ht: ∀R:ItD->HD->Prop,R j h->ti σ h R)
 (he: ∀x∈xs,∀Q':KD,Q' (.int (g x)) h->te ((jF js σ).set i (some (c x))) h Q')(hq:Q (.int (xs.map g).sum) h):dCB SM (jY (yD (bN i) js ti WK te) Zo) σ h Q:=by
 show yD (bN i) js ti WK te σ h (λx h1=>SM [x] h1 Q);exact lcA xs c (λx=> .int (g x)) hz hj ht he λp hp=>⟨p,xs.map g,rfl,by rw [jd,S4];rfl,by rw [zK hp];exact hq⟩
theorem Et (xs:List α)(c:α->D)(g:α->Bool)(hz:xs.length<=1000)(hj:j h=some (xs.map c))(ht: ∀R:ItD->HD->Prop,R j h->ti σ h R)
 (he: ∀x∈xs,∀Q':KD,Q' (.bl (g x)) h->te ((jF js σ).set i (some (c x))) h Q')(hq:Q (.bl (xs.all g)) h):dCB SF (jY (yD (bN i) js ti WK te) Zo) σ h Q:=by
 show yD (bN i) js ti WK te σ h (λx h1=>SF [x] h1 Q);exact lcA xs c (λx=> .bl (g x)) hz hj ht he λp hp=>⟨p,xs.map g,rfl,by rw [jd,S4];rfl,by rw [zK hp,A1];exact hq⟩
theorem HU (xs:List α)(c:α->D)(g:α->Bool)(hz:xs.length<=1000)(hj:j h=some (xs.map c))(ht: ∀R:ItD->HD->Prop,R j h->ti σ h R)
 (he: ∀x∈xs,∀Q':KD,Q' (.bl (g x)) h->te ((jF js σ).set i (some (c x))) h Q')(hq:Q (.bl (xs.any g)) h):dCB SG (jY (yD (bN i) js ti WK te) Zo) σ h Q:=by
 show yD (bN i) js ti WK te σ h (λx h1=>SG [x] h1 Q);exact lcA xs c (λx=> .bl (g x)) hz hj ht he λp hp=>⟨p,xs.map g,rfl,by rw [jd,S4];rfl,by rw [zK hp,G1j];exact hq⟩
end
end L2
namespace L2
open PySem PySem.Spec PyProof.Rows PySem.SeqAt
def ST (j:ItD):TID:=λ_ h R=>R j h
theorem MN {b:D->SD->SD->Prop}{js:List Nat}{ti:TID}{tt:TTD}{te:TED}{σ:SD}{h:HD}{Q:KD}(x:ti σ h λj h1=>yD b js (ST j) tt te σ h1 Q):yD b js ti tt te σ h Q:=x
def jC (o:List Nat):D:= .tup (o.map λ(k:Nat)=>D.int (k:Int))
def Xc (o:List Nat):List Int:=o.map λ(k:Nat)=>(k:Int)
theorem CK (o:List Nat):jC o= .tup ((Xc o).map D.int):=by unfold jC Xc;rw [List.map_map];rfl
theorem VU (h:HD): ∀ns:List Int,ToPs h (ns.map D.int) (ns.map PyData.int)
 | []=>rfl
 |n::ns=>⟨_,_,rfl,rfl,VU h ns⟩
theorem Wd: ∀ns:List Int,PyData.canLayAll0 (ns.map PyData.int)=true
 | []=>rfl
 |n::ns=>by show (PyData.canLay0 (.int n)&&_)=true;rw [Wd ns];rfl
theorem Yn: ∀ns:List Int,PyData.depthAll (ns.map PyData.int)<=1
 | []=>by simp [PyData.depthAll]
 |n::ns=>by
  have:=Yn ns;simp only [S1,PyData.depthAll,PyData.depth];omega
def Bj (r:List Int):PyData:= .tuple (r.map .int)
def TY (T:List (List Int)):PyData:= .tuple (T.map Bj)
variable {n e:Nat}{T:List (List Int)}
theorem JF (h:Sq n e T){i:Nat}(hi:i<n):atI (T.map vk) (i:Int)=some (vk (T.getD i [])):=by
 have hi':i<T.length:=by rw [h.len];exact hi
 exact wW (by rw [D2,P1,G1 hi'];rfl)
theorem Sq.getRow (h:Sq n e T){i:Nat}(hi:i<n):T.getD i []∈T:=by
 have hi':i<T.length:=by rw [h.len];exact hi
 rw [P1,G1 hi'];exact T1 hi'
theorem JH {r:List Int}(h:r.length=n){j:Nat}(hj:j<n):atI (r.map D.int) (j:Int)=some (.int (r.getD j 0)):=by
 have hj':j<r.length:=by rw [h];exact hj
 exact wW (by rw [D2,P1,G1 hj'];rfl)
theorem CL (T:List (List Int))(f:Int->Int):D.tup (T.map λr=>D.tup (r.map λx=>D.int (f x)))=jw (T.map λr=>r.map f):=by
 unfold jw vk;rw [S4]
 congr 1
 apply S3;intro r _;simp [S4,X6]
theorem CM (h:Sq n e T):jO n T=T.map λr=>r.map λx=>if x≠0 then 1 else 0:=by
 conv=>rhs;rw [h.eq_mk]
 unfold jO mkT;rw [S4];apply S3;intro i _;simp only [C0,S4];apply S3;intro j _;simp only [C0]
 by_cases z:ent T i j=0
 ·rw [if_pos z,if_neg (by simpa using z)]
 ·rw [if_neg z,if_pos z]
variable {U:List (List Int)}
theorem MO (h:Sq n e T):(T.map λr=>D.tup ((List.range n).map λj=>D.int (jP n λm=>r.getD m 0*ent U m j)))=(vZ n T U).map vk:=by
 conv=>lhs;rw [wY T [],h.len]
 unfold vZ mkT;rw [S4,S4];apply S3;intro i _;simp only [C0,vk,S4];rfl
theorem pow_add (h:Sq n e T)(hn:n<=8)(a:Nat): ∀b,yy n T (a+b)=vZ n (yy n T a) (yy n T b)
 |0=>by rw [show yy n T 0=GO n from rfl,ML (h.pow hn a) hn];rfl
 |b+1=>by
  show vZ n (yy n T (a+b)) T=vZ n (yy n T a) (vZ n (yy n T b) T);rw [pow_add h hn a b,mul_assoc (h.pow hn a) (h.pow hn b) h hn]
theorem Dt (h:Sq n e T)(hn:n<=8):yy n T 1=T:=Qc h hn
theorem VW (h:Sq n e T)(hn:n<=8)(b:Nat):yy n T (b+1)=vZ n T (yy n T b):=by
 rw [G1h,pow_add h hn,Dt h hn]
variable {i:Nat}
theorem MP {j:Nat}(hi:i<n)(hj:j<n):ent (jO n T) i j=if ent T i j=0 then 0 else 1:=Wa hi hj
theorem Qe (h: ∀i j,i<n->j<n->(ent T i j=0↔ent U i j=0)):jO n T=jO n U:=Qb λi j hi hj=>by
 by_cases z:ent T i j=0
 ·rw [if_pos z,if_pos ((h i j hi hj).mp z)]
 ·rw [if_neg z,if_neg (λw=>z ((h i j hi hj).mpr w))]
theorem yF {j:Nat}(hi:i<n)(hj:j<n):ent (jO n T) i j=0↔ent T i j=0:=by
 rw [MP hi hj]
 by_cases z:ent T i j=0
 ·rw [if_pos z];simp [z]
 ·rw [if_neg z];simp [z]
theorem VX (T:List (List Int)):jO n (jO n T)=jO n T:=Qe λi j hi hj=>yF hi hj
theorem zL {f j:Nat}(h:Sq n e T)(g:Sq n f U)(hi:i<n)(hj:j<n):ent (vZ n T U) i j≠0↔ ∃k,k<n/\ent T i k≠0/\ent U k j≠0:=by
 rw [vD hi hj];have nn: ∀k,k<n->0<=ent T i k*ent U k j:=λk hk=>Int.mul_nonneg (h.ent_nn hi hk).1 (g.ent_nn hk hj).1
 have s:=YU nn;have p:=Dr nn;constructor
 ·intro z;obtain⟨k,hk,w⟩:=p.mp (by omega);refine⟨k,hk,λq=> ?_,λq=> ?_⟩
  ·rw [q] at w;simp at w
  ·rw [q] at w;simp at w
 ·rintro ⟨k,hk,a,b⟩ z;have c:=(h.ent_nn hi hk).1;have d:=(g.ent_nn hk hj).1;have:0<ent T i k*ent U k j:=Int.mul_pos (by omega) (by omega);have:=p.mpr ⟨k,hk,this⟩;omega
theorem ZC {f:Nat}(h:Sq n e T)(g:Sq n f U):jO n (vZ n T U)=jO n (vZ n (jO n T) (jO n U)):=
 Qe λi j hi hj=>by
  have a:=zL h g hi hj;have b:=zL (Sq.mark (n:=n) T) (Sq.mark (n:=n) U) hi hj;have c:(∃k,k<n/\ent T i k≠0/\ent U k j≠0)↔ ∃k,k<n/\ent (jO n T) i k≠0/\ent (jO n U) k j≠0:=
   ⟨λ⟨k,hk,x,y⟩=>⟨k,hk,λz=>x ((yF hi hk).mp z),λz=>y ((yF hk hj).mp z)⟩,λ⟨k,hk,x,y⟩=>⟨k,hk,λz=>x ((yF hi hk).mpr z),λz=>y ((yF hk hj).mpr z)⟩⟩
  exact⟨λz=>E9 λw=>(a.mpr (c.mpr (b.mp w))) z,λz=>E9 λw=>(b.mpr (c.mp (a.mp w))) z⟩
theorem Ja (h:Sq n e T):jU T=true↔ ∀i j,i<n->j<n->ent T i j≠0:=by
 have h1:jU T=jU (mkT n (ent T)):=by rw [<-h.eq_mk]
 rw [h1,Xb]
theorem Du {a:Nat}(h:Sq n e T)(hn:n<=8)(ha:0<a)(f:jU (yy n T a)=true):jU (yy n T (a+1))=true:=by
 rw [Ja (h.pow hn _)] at f ⊢;intro i j hi hj;obtain⟨b,rfl⟩: ∃b,a=b+1:=⟨a-1,by omega⟩;have z:=f i j hi hj;rw [VW h hn b,zL h (h.pow hn b) hi hj] at z;obtain⟨k,hk,x,_⟩:=z;rw [VW h hn (b+1),zL h (h.pow hn (b+1)) hi hj];exact⟨k,hk,x,f k j hk hj⟩
theorem Xd {a:Nat}(h:Sq n e T)(hn:n<=8)(ha:0<a)(f:jU (yy n T a)=true): ∀b,jU (yy n T (a+b))=true
 |0=>f
 |b+1=>Du (a:=a+b) h hn (by omega) (Xd h hn ha f b)
section
variable {prog:Program}{w:World}{A:Around}{E:Value->Shared->Prop}{s:Shared}
variable {items:Array Value}
theorem Dv {it t:Addr}{i n:Nat}{d1 d2:Option Addr}{s1 s2:Array (Option Value)}{P:PySem.Fin->Shared->Prop}(a1:s.heap.get? it=some {cls:= .type "tuple_iterator",dict:=d1,data:= .fields #[.ref t,.int i 0],slots:=s1})(a2:s.heap.get? t=some {cls:= .type "tuple",dict:=d2,data:= .seq items n,slots:=s2})
 (more: ∀x h',items[i]? =some x->h'.IsTupleIter it t (i+1)->Heap.SameBut it s.heap h'->P (.done (.ret x)) {s with heap:=h'})
 (none_:items[i]? =none->wpAny (model prog w) A (do setField (.ref it) 0 .none;Builtin.SmallTypes.stopIteration) P E s):wpAny (model prog w) A (Builtin.«tuple_iterator.__next__» ⟨[.ref it],[]⟩) P E s:=by
 obtain⟨hp,g,d,tk,os⟩:=s
 wp_walk
 rw [Int.toNat_natCast];cases hx:items[i]? with
 |none=>exact wpAny_bind (G0u (none_ hx))
 |some x=>
  refine wpAny_bind (wpAny_setField a1 rfl (by simp) (P4 (more x _ hx ⟨_,Heap.get?_update_self _ a1 ?_,rfl,?_⟩ (Heap.SameBut.update ..))))
  ·rfl
  ·simp [Obj.mapFields,rawInt]
theorem Xe {Q:PySem.Fin->Shared->Prop}(hh:A.handled=none)(hE: ∀h' e,(∀b o,s.heap.get? b=some o->h'.get? b=some o)->(∃o,h'.get? e=some o/\o.cls= .type "StopIteration")->E (.ref e) {s with heap:=h'}):wpAny (model prog w) A Builtin.SmallTypes.stopIteration Q E s:=by
 obtain⟨hp,g,d,tk,os⟩:=s;unfold Builtin.SmallTypes.stopIteration
 wp_walk
 unfold raiseNew;refine wpAny_bind (wpAny_handled ?_);rw [hh];exact wpAny_bind (P4 (wpAny_throw (hE _ _ (λb o q=>G3 _ (G3 _ q)) ⟨_,D9 _ rfl,rfl⟩)))
theorem Gf {it t:Addr}{i:Nat}{x:Value}{Q:Value->Shared->Prop}(hit:s.heap.IsTupleIter it t i)(ht:s.heap.IsTuple t items)(hx:items[i]? =some x)
 (hQ: ∀h',h'.IsTupleIter it t (i+1)->Heap.SameBut it s.heap h'->Q x {s with heap:=h'}):wpAny (model prog w) A (Builtin.SmallTypes.nextOf (.ref it)) Q E s:=by
 obtain⟨⟨c,d1,dt,s1⟩,ho,rfl,rfl⟩:=id hit;obtain⟨⟨c2,d2,dt2,s2⟩,hol,rfl,nl,rfl⟩:=ht;exact wpAny_bind (K0 hit.typeIs E1 (E2 E1 hit.typeIs G0c (Dv ho hol (λy h' e b1 b2=>⟨y,rfl,P4 (by rw [hx] at e;cases e;exact hQ h' b1 b2)⟩) λe=>by rw [hx] at e;cases e) (Z8 _)))
theorem vo {it t:Addr}{i:Nat}{Q:Value->Shared->Prop}(hh:A.handled=none)(hit:s.heap.IsTupleIter it t i)(ht:s.heap.IsTuple t items)(hx:items[i]? =none)
 (hE: ∀h' e,Heap.ExtBut it s.heap h'->(∃o,h'.get? e=some o/\o.cls= .type "StopIteration")->E (.ref e) {s with heap:=h'}):wpAny (model prog w) A (Builtin.SmallTypes.nextOf (.ref it)) Q E s:=by
 obtain⟨⟨c,d1,dt,s1⟩,ho,rfl,rfl⟩:=id hit;obtain⟨⟨c2,d2,dt2,s2⟩,hol,rfl,nl,rfl⟩:=ht;refine wpAny_bind (K0 hit.typeIs E1 (E2 E1 hit.typeIs G0c (Dv ho hol (λy h' e b1 b2=>by rw [hx] at e;cases e) λ_=>wpAny_bind (wpAny_setField ho rfl (by simp) ?_)) (Z8 _)));exact Xe (s:= {s with heap:=_}) hh λh' e grown stop=>hE h' e (λb o ne q=>grown b o ((Heap.SameBut.update ..).extBut b o ne q)) stop
end
theorem Dw {prog:Program}{w:World}{A:Around}(hh:A.handled=none)(it t:Addr)(hne:t≠it)(items:Array Value):
 Draws prog w A it [it,t] items.size (λi v=>items[i]? =some v) (λi h=>h.IsTupleIter it t i/\h.IsTuple t items) where
 live:=λ_ _ st=>let ⟨o,ho,_⟩:=st.1;⟨o,ho⟩
 frame:=λ_ _ _ st hk=>⟨st.1.at λo e=>hk it (by simp) o e,st.2.at λo e=>hk t (by simp) o e⟩
 item:=λi s Q E hi st hQ=>Gf st.1 st.2 (x:=items[i]) (by simp [hi]) λh' hit' hs'=>hQ _ h' s.toks (by simp [hi]) ⟨hit',st.2.extBut hs'.extBut hne⟩ hs'
 done:=λs Q E st hE=>vo hh st.1 st.2 (by simp) hE
theorem Dx {prog:Program}{w:World}{A:Around}(hh:A.handled=none)(it t:Addr)(items:Array Value)(n:Nat)(hn:items.size<=n):
 Draws prog w A it [it,t] n (λ_ _=>False) (λi h=>i=n/\h.IsTupleIter it t n/\h.IsTuple t items) where
 live:=λ_ _ st=>let ⟨o,ho,_⟩:=st.2.1;⟨o,ho⟩
 frame:=λ_ _ _ st hk=>⟨st.1,st.2.1.at λo e=>hk it (by simp) o e,st.2.2.at λo e=>hk t (by simp) o e⟩
 item:=λi s Q E hi st hQ=>absurd st.1 (R6 hi)
 done:=λs Q E st hE=>vo hh st.2.1 st.2.2 (Array.getElem?_eq_none hn) hE
section
variable {prog:Program}{w:World}{A:Around}{E:Value->Shared->Prop}{s:Shared}
theorem Dy {l:Addr}{its:Array Value}{P:PySem.Fin->Shared->Prop}(at_:s.heap.IsTuple l its)
 (h: ∀h',IsEnum h' (s.heap.objs.size+1) s.heap.objs.size 0 .none->h'.IsTupleIter s.heap.objs.size l 0->(∀b o,s.heap.get? b=some o->h'.get? b=some o)->P (.done (.ret (.ref (s.heap.objs.size+1)))) {s with heap:=h'}):
 wpAny (model prog w) A (Builtin.«enumerate.__new__» ⟨[.type "enumerate",.ref l],[]⟩) P E s:=by
 have fine:=sub_enumerate;obtain⟨⟨c,dd,dt,sl⟩,there,rfl,n,rfl⟩:=id at_;obtain⟨hp,g,d,tk,os⟩:=s;have size: ∀o,(hp.push o).objs.size=hp.objs.size+1:=λo=>Y0 ..
 have made:=D9 (hp.push {cls:= .type "tuple_iterator",data:= .fields #[.ref l,.int 0 0]}) (o:= {cls:= .type "enumerate",data:= .fields #[.none,.bool false,.ref hp.objs.size,rawInt 0,.none,.none]}) rfl;have fin:=h _ (by rw [<-size];exact made) ⟨_,G3 _ (D9 _ rfl),rfl,rfl⟩ λb o old=>G3 _ (G3 _ old)
 rw [<-size {cls:= .type "tuple_iterator",data:= .fields #[.ref l,.int 0 0]}] at fin
 wp_walk using V6 there
 refine wpAny_stack_any λcalls=>P4 ?_
 split
 case h_1 c _ _ _ _ _=>cases c==Value.type "enumerate" <;>(wp_walk using V6 there,K9 at_;exact fin)
 case h_2=>wp_walk using V6 there,K9 at_;exact fin
theorem YV {l:Addr}{items:Array Value}{Q:Value->Shared->Prop}(hL:s.heap.IsTuple l items)
 (h: ∀h',IsEnum h' (s.heap.objs.size+1) s.heap.objs.size 0 .none->h'.IsTupleIter s.heap.objs.size l 0->(∀b o,s.heap.get? b=some o->h'.get? b=some o)->Q (.ref (s.heap.objs.size+1)) {s with heap:=h'}):
 wpAny (model prog w) A (call (.type "enumerate") [.ref l]) Q E s:=
 callType_new F.called_enumerate (by decide) (F.typeCall_enumerate_1 _) (F.newCall_enumerate_1 _) (λ_=>F.args_object_init_2 _ _) F.entry_enumerate_new
  (S:=λ_ R s=>s.heap.IsTuple l items/\ ∀h',IsEnum h' (s.heap.objs.size+1) s.heap.objs.size 0 .none->h'.IsTupleIter s.heap.objs.size l 0->(∀b o,s.heap.get? b=some o->h'.get? b=some o)->R (.ok (.ret (.ref (s.heap.objs.size+1)))) {s with heap:=h'})
  (.of_wp λ_ _ _ _ _ ⟨tup,k⟩=>Dy tup λh' e i old=>⟨_,rfl,k h' e i old⟩) ⟨hL,λh' e i old=>⟨⟨_,e,rfl⟩,h h' e i old⟩⟩
end
section
variable {X:Cx}{pins:List (Addr×Obj)}{σ:List (Option V)}{H:Hp}{s:Shared}{h':Heap}
theorem Inv.turnL {t':Nat}{ch:List Addr}(I:Inv X pins σ H s)(k: ∀b o,b ∉ ch->s.heap.get? b=some o->h'.get? b=some o)(hc: ∀b∈ch,GK X pins H b):Inv X pins σ H {s with heap:=h',toks:=t'}:=by
 refine I.step (g':=s.gens) (d':=s.drawn) (ch:=ch) (λb hb=>let ⟨_,f1,_,f3,f4,f5⟩:=hc b hb;⟨f3,f1,f4,f5⟩) (λb o _ _ nb e _=>k b o nb e) (λb o _ _ nb e _=>⟨o.slots,k b o nb e⟩) (λ_ _ _ _ n=>n)
  (λb o nb e=>⟨o,k b o nb e⟩) (λ_ _ e=>e) (λ_ _ _ e=>e) (λb ps e=>⟨#[],by rw [e];simp⟩) (λm hm=> ?_) (λb u e=> ?_) I.bare
 ·obtain⟨o,es,ep,ho,r⟩:=hm;exact⟨o,es,ep,k _ o (λz=>(hc _ z).2.1 rfl) ho,r⟩
 ·refine(I.hok b u e).stay (λc v hb q=>k c v (λz=> ?_) q) (λ_ q=>q) λ_ _ q=>q
  have f:=(hc c z).1;rcases hb with w|w
  ·rw [w,e] at f;cases f
  ·rw [w] at f;cases f
theorem Inv.turnLaid {t':Nat}{ch:List Addr}{a:Addr}{o:HO}(I:Inv X pins σ H s)(k: ∀b u,b ∉ ch->s.heap.get? b=some u->h'.get? b=some u)(hc: ∀b∈ch,GK X pins H b)(hp:s.heap.objs.size<=a)
 (new:ObjOk X.prog X.w (upd H a o) h' a o):Inv X pins σ (upd H a o) {s with heap:=h',toks:=t'}:=by
 have hn:=I.hok.fresh hp;refine I.step (g':=s.gens) (d':=s.drawn) (ch:=ch) (λb hb=>let ⟨_,f1,_,f3,f4,f5⟩:=hc b hb;⟨f3,f1,f4,f5⟩) (λb u _ _ nb e _=>k b u nb e) (λb u _ _ nb e _=>⟨u.slots,k b u nb e⟩)
  (λb u _ e n=>by rw [jh (R6 (D6 (P5 e) hp))];exact n) (λb u nb e=>⟨u,k b u nb e⟩) (λb xs q=>by rw [jh (jj q hn)];exact q) (λb u xs q=>by rw [jh (jj q hn)];exact q)
  (λb ps q=>⟨#[],by rw [jh (jj q hn),q];simp⟩) (λm hm=> ?_) (λb u e=> ?_) I.bare
 ·obtain⟨u,es,ep,ho,r⟩:=hm;exact⟨u,es,ep,k _ u (λz=>(hc _ z).2.1 rfl) ho,r⟩
 ·by_cases hb:b=a
  ·subst hb;rw [jl] at e;cases e;exact new
  ·rw [jh hb] at e;refine(I.hok b u e).stay (λc v hb q=>k c v (λz=> ?_) q) (λc q=>by rw [jh (jj q hn)];exact q) λc xs q=>by rw [jh (jj q hn)];exact q
   have f:=(hc c z).1;rcases hb with w|w
   ·rw [w,e] at f;cases f
   ·rw [w] at f;cases f
end
def Ite (K:PySem.W.Frag)(a:Addr):It:=
 ⟨λi H=> ∃xs x,SqT K H a xs/\xs[i]? =some x,λi H x H'=> ∃p v,H p=none/\(∀xs,SqT K H a xs->xs[i]? =some v)/\x= .ref p/\H'=upd H p (.tup [.int i,v]),λi H=> ∃xs,SqT K H a xs/\xs.length<=i⟩
theorem Dz {P:Program}{w:World}{K:PySem.W.Frag}{es:List Expr}{k:Nat}{pos:Pos}(a it e:Addr)(hei:e≠it)(hae:a≠e)(hai:a≠it):Turn P w K (.Tuple es k pos) (Ite K a) [e,it] e (λi h=>(∃old,IsEnum h e it i old)/\h.IsTupleIter it a i) where
 mem:=by simp
 obj:=λi h st b hb=>by
  rcases D0.mp hb with z|z
  ·subst z;obtain⟨old,q⟩:=st.1;exact⟨_,q,λv z=>by cases z⟩
  ·have z:=G2.mp z;subst z;obtain⟨o,q,c,d⟩:=st.2;exact⟨o,q,λv z=>by rw [d] at z;cases z⟩
 keep:=λi h h' st k=>⟨let ⟨old,q⟩:=st.1;⟨old,k e (by simp) _ q⟩,st.2.at λo q=>k it (by simp) o q⟩
 item:=by
  intro X hP hw hK hc i pins s σ H E I hf st hg;subst hP hw hK;obtain⟨xs,x,hq,hx⟩:=hg;obtain⟨its,rv,p,hz⟩:=I.tuple hq;obtain⟨u,hu,ru⟩:=rv.get hx;have hi:i<its.toArray.size:=by have:=(G5.mp hu).1;simpa using this
  obtain⟨old,he⟩:=st.1;have helt:e<s.heap.objs.size:=P5 he;refine wpAny_pyNext_enum_itemD (Dw (prog:=X.prog) (w:=X.w) (A:=X.A.in1) (I.ok.hd hc) it a hai its.toArray) he ⟨st.2,p⟩ hi hei (by simp [hei,Ne.symm hae]) λx' h' tk hx' ho hs' hT hsz hk=> ?_
  have ex:x'=u:=N3 (hx'.symm.trans (show its.toArray[i]? =some u by simpa using hu));subst ex;refine⟨_,rfl,wpAny_letOwnedTupleGo_enum ho λh2 he2 hs2=> ?_⟩;have hn:H s.heap.objs.size=none:=I.hok.fresh (G8 _);have hT2:h2.get? s.heap.objs.size=some {cls:= .type "tuple",data:= .seq #[.int i tk,x']}:=(hs2.2 _ (O9 helt)).trans hT;refine⟨.ref s.heap.objs.size,upd H s.heap.objs.size (.tup [.int i,x]),?_,rfl,⟨_,x,hn,λys hy=>by rw [I.tuple_inj hy hq];exact hx,rfl,rfl⟩,⟨⟨x',by simpa using he2⟩,hs'.1.at λo y=>(hs2.2 it (Ne.symm hei)).trans y⟩,λb hb=> ?_⟩
  ·refine I.turnLaid (h':=h2) (t':=tk+1) (ch:= [e,it]) (λb u hb q=> ?_) hf (G8 _) ⟨by show 2<=sizeLine;decide,[.int i tk,x'],.cons ⟨tk,rfl⟩ (.cons ru .nil),⟨_,hT2,rfl,rfl,_,rfl⟩⟩;have b1:b≠e:=λz=>hb (by simp [z])
   have b2:b≠it:=λz=>hb (by simp [z])
   exact(hs2.2 b b1).trans (hk b u b1 b2 q)
  ·have f:=(hf b hb).1;have:b≠s.heap.objs.size:=λz=>by
    rcases D0.mp hb with w|w
    ·rw [<-w,z] at helt;exact absurd helt (M5 _)
    ·have w:=G2.mp w;obtain⟨o,ho',_⟩:=st.2;have:=P5 ho';rw [<-w,z] at this;exact absurd this (M5 _)
   rw [jh this];exact f
 done:=by
  intro X hP hw hK hc i pins s σ H E I hf st hg;subst hP hw hK;obtain⟨xs,hq,hx⟩:=hg;obtain⟨its,rv,p,hz⟩:=I.tuple hq;obtain⟨old,he⟩:=st.1;have hl:=rv.length;refine wpAny_pyNext_enum_endD (Dx (prog:=X.prog) (w:=X.w) (A:=X.A.in1) (I.ok.hd hc) it a its.toArray i (by simp;omega)) he ⟨rfl,st.2,p⟩ λh' hx'=>⟨rfl,I.turnL (t':=s.toks) (ch:= [it]) (λb o hb q=>hx' b o (λz=>hb (by simp [z])) q) λb hb=>hf b (R1 _ hb)⟩
 self:=λ_ _ _ _ _ st h=>let ⟨_,q⟩:=st.1;wpAny_pyIter_enum q h
section
variable {X:Cx}
def TZ (K:PySem.W.Frag)(ta:TA):TI:=λσ H R=>ta σ H λvs H1=> ∃a,vs= [.ref a]/\(∃xs,SqT K H1 a xs)/\R (Ite K a) H1
theorem CO {es:List Expr}{k:Nat}{tp:Pos}{a:Expr}{ta:TA}{p pos:Pos}(hg:Gl X "enumerate")(hm:X.mg "enumerate" =none)(ha:PA X [a] ta)(hs:starEach [a] X.env= [(false,eval a X.env)]:=by rfl):
 PI X (.Tuple es k tp) (.Call (.Name "enumerate" p) [a] [] pos) (TZ X.K ta):=by
 intro pins s σ H R I h;refine Call_ (Yb I hg hm (show bootBuiltins "enumerate" =some (.type "enumerate") by decide +kernel) (A4 (thn (ha pos pins s σ H _ I h) λus s1 ⟨vs,H1,I1,r1,q1⟩=> ?_) hs rfl));obtain⟨a,e,⟨xs,hq⟩,q⟩:=q1;subst e;cases r1 with
 |cons r rr=>
  cases rr;cases r;obtain⟨its,rv,p,hz⟩:=I1.tuple hq;have hlt:a<s1.heap.objs.size:=by obtain⟨o,ho,_⟩:=p;exact P5 ho
  refine YV (show s1.heap.IsTuple a its.toArray from p) λh' he hit hk=> ?_
  refine wpAny_pyIter_enum he ?_;refine⟨s1.heap.objs.size+1,[s1.heap.objs.size+1,s1.heap.objs.size],_,_,H1,rfl,I1.kept (t':=s1.toks) hk,Dz a s1.heap.objs.size (s1.heap.objs.size+1) (O9 (F8 _)) (R6 (X5 hlt)) (R6 hlt),⟨⟨_,he⟩,hit⟩,λb hb=> ?_,q⟩;have hb':s1.heap.objs.size<=b:=by
   rcases D0.mp hb with w|w
   ·rw [w];exact Nat.le_succ _
   ·rw [G2.mp w];exact G8 _
  exact I1.fpOk hb' (I1.hok.fresh hb')
end
def Gg (ds:List D):List D:=ds.zipIdx.map λp=> .tup [.int (p.2:Int),p.1]
def iE (ta:TAD):TID:=λσ h R=>ta σ h λxs h1=> ∃ds,xs= [.tup ds]/\R (λ_=>some (Gg ds)) h1
theorem ZD {ds:List D}{d:D}(h:(Gg ds)[i]? =some d): ∃x,ds[i]? =some x/\d= .tup [.int (i:Int),x]:=by
 unfold Gg at h;rw [D2,List.getElem?_zipIdx] at h;cases q:ds[i]? with
 |none=>rw [q] at h;cases h
 |some x=>
  rw [q] at h;refine⟨x,rfl,?_⟩;have h':some (D.tup [.int ((0+i:Nat):Int),x])=some d:=h;rw [E8] at h';exact(N3 h').symm
theorem jR (ds:List D):(Gg ds).length=ds.length:=by simp [Gg]
section
variable {K:PySem.W.Frag}
theorem DA {H:Hp}{a:Addr}{vs:List V}{ds:List D}(hv:H a=some (.tup vs))(r:RelDs K H ds vs):Le K H (λ_=>some (Gg ds)) (Ite K a):=λH' h' k rh ds' e i=>by
 cases e;have hv':=k.tup _ _ hv;have r':=r.mono k;refine⟨λd hd=> ?_,λhl=>⟨vs,SqT.of hv',by rw [<-r.length,<-jR];exact hl⟩⟩;obtain⟨x,hx,ed⟩:=ZD hd;subst ed;obtain⟨v,e1,e2⟩:=r'.get hx;refine⟨⟨vs,v,SqT.of hv',e1⟩,λx' H'' ⟨p,v',hp,hx',ex,eH⟩=> ?_⟩;subst ex eH;have ev:v'=v:=by have:=hx' vs (SqT.of hv');rw [e1] at this;exact(N3 this).symm
 subst ev;have k2:Kept H' (upd H' p (.tup [.int i,v'])):= .new hp;exact⟨k2,RelH.new rh hp,p,[.int i,v'],rfl,jl,_,_,rfl,rfl,_,_,rfl,e2.mono k2,rfl⟩
theorem CP {ta:TAD}: ∀σ H R,LI K (iE ta) σ H R->TZ K (LA K ta) σ H R:=λσ H R ⟨σd,h,Rd,rs,rh,q,p⟩=>
 LA.bind rs rh q λds vs h1 H1 k1 rs1 rh1 r1 ⟨es,e,q1⟩=>by
  subst e;obtain⟨v,e,r2⟩:=jA r1;obtain⟨a,ws,e',hv,r⟩:=(show ∃a vs,v= .ref a/\H1 a=some (.tup vs)/\RelDs K H1 es vs from r2);subst e';exact⟨a,e,⟨ws,SqT.of hv⟩,p _ _ _ _ k1 rh1 (DA hv r) q1⟩
end
section
variable {X:Cx}
theorem Xf {es:List Expr}{k:Nat}{tp:Pos}{a:Expr}{ta:TAD}{p pos:Pos}(hg:Gl X "enumerate")(hm:X.mg "enumerate" =none)(ha:JA X [a] ta)(hs:starEach [a] X.env= [(false,eval a X.env)]:=by rfl):
 JI X (.Tuple es k tp) (.Call (.Name "enumerate" p) [a] [] pos) (iE ta):=⟨(CO hg hm ha.to hs).imp CP⟩
end
def DB (c:TTD)(tb:TSD):TSD:=λD σ h=> ∃W:Nat->SD->HD->Prop,(∃m,W m σ h)/\ ∀m σ' h',W m σ' h'->c σ' h' λb h1=>
 if b=true then tb {D with nx:=λσ2 h2=> ∃m' h3,m'<m/\Sub h3 h2/\W m' σ2 h3,ct:=λσ2 h2=> ∃m' h3,m'<m/\Sub h3 h2/\W m' σ2 h3,bk:=D.nx} σ' h1 else D.nx σ' h1
theorem MQ {K:PySem.W.Frag}{c:TTD}{tb:TSD}: ∀D σ H,LS K (DB c tb) D σ H->NV (LT K c) (LS K tb) D σ H:=λD σ H ⟨σd,h,Dd,rs,rh,⟨W,⟨m0,w0⟩,turn⟩,nx,rt,bk,ct⟩=>by
 refine⟨λm σ' H'=>Kept H H'/\ ∃σd' h',RelS K H' σd' σ'/\RelH K h' H'/\W m σd' h',⟨m0,.refl _,σd,h,rs,rh,w0⟩,?_⟩;rintro m σ' H' ⟨kp,σd',h',rs',rh',w⟩;refine LT.bind rs' rh' (turn m σd' h' w) λb h1 H1 k1 rs1 rh1 q1=> ?_
 cases b with
 |false=>
  rw [if_neg P7] at q1 ⊢;exact nx _ _ _ _ (kp.trans k1) rs1 rh1 q1
 |true=>
  rw [if_pos rfl] at q1 ⊢;have kk:Kept H H1:=kp.trans k1;refine⟨λσ2 H2=>Kept H H2/\ ∃m',m'<m/\ ∃σd2 h2,RelS K H2 σd2 σ2/\RelH K h2 H2/\W m' σd2 h2,λσ2 H2 ⟨k2,m',hm,a,b,c,d,e⟩=>⟨m',hm,k2,a,b,c,d,e⟩,?_⟩;exact⟨σd',h1,_,rs1,rh1,q1,λa b c d k4 rs4 rh4 ⟨m',h4,hm,sb,w4⟩=>⟨kk.trans k4,m',hm,a,h4,rs4,rh4.sub sb,w4⟩,jz rt kk,λa b c d k4 rs4 rh4 q4=>nx a b c d (kk.trans k4) rs4 rh4 q4,λa b c d k4 rs4 rh4 ⟨m',h4,hm,sb,w4⟩=>⟨kk.trans k4,m',hm,a,h4,rs4,rh4.sub sb,w4⟩⟩
section
variable {X:Cx}{pos:Pos}
theorem DD {c:Expr}{body:List Stmt}{tc:TTD}{tb:TSD}(hp:PassesOwn (model X.prog X.w) X.A X.env X.xe)(hc:JT X c tc)(hb:JSs X body tb):JS X (.While c body [] pos) (DB tc tb):=⟨(Ml hp hc.to hb.to).imp MQ⟩
end
theorem YW {c:TTD}{tb:TSD}{E:EndsD}{σ:SD}{h:HD}(W:Nat->SD->HD->Prop)(m:Nat)(w0:W m σ h)
 (turn: ∀m σ' h',W m σ' h'->c σ' h' λb h1=>if b=true then tb {E with nx:=λσ2 h2=> ∃m' h3,m'<m/\Sub h3 h2/\W m' σ2 h3,ct:=λσ2 h2=> ∃m' h3,m'<m/\Sub h3 h2/\W m' σ2 h3,bk:=E.nx} σ' h1 else E.nx σ' h1):DB c tb E σ h:=⟨W,⟨m,w0⟩,turn⟩
def inE (neg:Bool):RD2:=λx y h Q=> ∃ (p:PyData) (ps:List PyData),ToP h x p/\(ToP h y (.list ps)\/ToP h y (.tuple ps))/\p.canLay0=true/\PyData.canLayAll0 ps=true/\p.depth<=60/\Q (.bl (neg !=ps.any λz=>PyData.eqv z p)) h
section
variable {X:Cx}
theorem CQ (hu:X.A.units+64<cLine):OpQ X (compareOp .In) (inE false):=by
 intro pins s σ H x y v u Q I rx ry h;obtain⟨dx,dy,h,Qd,r1,r2,rh,⟨p,ps,t1,t2,c1,c2,c3,qq⟩,post⟩:=h;obtain⟨as,a1⟩:=zi I rh t1 r1 rx;have hu':X.A.units+1+min (PyData.depthAll ps) p.depth<cLine:=by have:=U7 (PyData.depthAll ps) p.depth;omega
 have q':Qd (.bl (ps.any λz=>PyData.eqv z p)) h:=by simpa using qq
 rcases t2 with t2|t2
 ·obtain⟨bs,b1⟩:=zi I rh t2 r2 ry;exact in_list_reads b1 a1 c2 c1 hu' ⟨.bl _,H,I,rfl,post (.bl _) _ _ _ (.refl H) rh rfl q'⟩
 ·obtain⟨bs,b1⟩:=zi I rh t2 r2 ry;exact in_tuple_reads b1 a1 c2 c1 hu' ⟨.bl _,H,I,rfl,post (.bl _) _ _ _ (.refl H) rh rfl q'⟩
theorem YX (hu:X.A.units+64<cLine):OpQ X (compareOp .NotIn) (inE true):=by
 intro pins s σ H x y v u Q I rx ry h;obtain⟨dx,dy,h,Qd,r1,r2,rh,⟨p,ps,t1,t2,c1,c2,c3,qq⟩,post⟩:=h;obtain⟨as,a1⟩:=zi I rh t1 r1 rx;have hu':X.A.units+1+min (PyData.depthAll ps) p.depth<cLine:=by have:=U7 (PyData.depthAll ps) p.depth;omega
 have q':Qd (.bl (!ps.any λz=>PyData.eqv z p)) h:=by simpa using qq
 rcases t2 with t2|t2
 ·obtain⟨bs,b1⟩:=zi I rh t2 r2 ry;exact notIn_list_reads b1 a1 c2 c1 hu' ⟨.bl _,H,I,rfl,post (.bl _) _ _ _ (.refl H) rh rfl q'⟩
 ·obtain⟨bs,b1⟩:=zi I rh t2 r2 ry;exact notIn_tuple_reads b1 a1 c2 c1 hu' ⟨.bl _,H,I,rfl,post (.bl _) _ _ _ (.refl H) rh rfl q'⟩
theorem SU {tg:Expr}{p pos:Pos}{a b:Expr}{ta:TAD}(hg:Gl X "range")(hm:X.mg "range" =none)(ha:JA X [a,b] ta)(hs:starEach [a,b] X.env= [(false,eval a X.env),(false,eval b X.env)]:=by rfl)(hs2:starEach [b] X.env= [(false,eval b X.env)]:=by rfl):JI X tg (.Call (.Name "range" p) [a,b] [] pos) (iR2 ta):=⟨(Pb hg hm ha.to hs hs2).imp Ss⟩
end
def Ha (i:Nat)(f:Int->Int->Int)(te:TED):TSD:=λD σ h=> ∃x:Int,σ[i]? =some (some (.int x))/\te σ h λy h1=> ∃j:Int,y= .int j/\D.nx (σ.set i (some (.int (f x j)))) h1
theorem Aq {K:PySem.W.Frag}{f:Int->Int->Int}{te:TED}: ∀D σ H,LS K (Ha i f te) D σ H->Tt i (LE K te) (ipI f) D σ H:=λD σ H ⟨σd,h,Dd,rs,rh,⟨x,hx,q⟩,nx,rt,bk,ct⟩=>by
 obtain⟨v,e1,r1⟩:=rs.2 i _ hx;cases (show v= .int x from r1);exact⟨_,e1,LE.bind rs rh q λd u h1 H1 k1 rs1 rh1 r1 ⟨j,e,q1⟩=>by
  subst e;cases (show u= .int j from r1);exact⟨x,j,rfl,rfl,nx _ _ _ _ k1 (rs1.set (d:= .int (f x j)) rfl i) rh1 q1⟩⟩
section
variable {X:Cx}{i:Nat}{x:Str}{e:Expr}{te:TED}{pos pos':Pos}
theorem CT (hN:X.N.Nodup)(hi:X.N[i]? =some x)(hx:Loc X.env.scope x)(he:JE X e te)(hf:X.fn x=true\/X.env.scope.names.lookup x=some .local:=by first|exact .inl rfl|exact .inr rfl|assumption):JS X (.AugAssign (.Name x pos') .Add e pos) (Ha i (λa b=>a+b) te):=⟨(LJ hN hi hx he.to LK hf).imp Aq⟩
end
end L2
namespace L2
open PySem PySem.Spec PyProof.Rows
section
variable {prog:Program}{w:World}{A:Around}{E:Value->Shared->Prop}{s:Shared}
theorem wm: ∀ {vs:List Value} {ns:List Int},IntsAre vs ns-> ∀ {i:Nat} {v:Value},vs[i]? =some v-> ∃t,v= .int (ns.getD i 0) t/\i<ns.length
 |_,_,.nil,_,_,hv=>by simp at hv
 |_,_,.cons _ t _,0,_,hv=>⟨t,by simpa using hv.symm,by simp⟩
 |_,_,.cons _ _ r,i+1,_,hv=>by
  obtain⟨t,e,lt⟩:=wm r (i:=i) (by simpa using hv);exact⟨t,by simpa using e,by simpa using lt⟩
theorem Jb {l:Addr}{o:Obj}(here:l<s.heap.objs.size): ∀b∈ [s.heap.objs.size,l],b<(s.heap.push o).objs.size:=λb hb=>by
 rw [Y0];simp only [D0,M0,W5] at hb;rcases hb with e|e<;>subst e
 ·exact F8 _
 ·exact X5 here
theorem Jc {o:Obj}{h':Heap}(k: ∀b u,b ∉ [s.heap.objs.size]->(s.heap.push o).get? b=some u->h'.get? b=some u): ∀b u,s.heap.get? b=some u->h'.get? b=some u:=λb u e=>
 k b u (λm=>absurd (P5 e) (by rw [G2.mp m];exact M5 _)) (G3 _ e)
end
section
variable {X:Cx}
theorem DE (hc:X.calm=true):CallR X (.builtin "min") (λxs H Q=> ∃ (a:Addr) (ns:List Int),xs= [.ref a]/\ns≠ []/\(SqL X.K H a (ns.map V.int)\/SqT X.K H a (ns.map V.int))/\ ∀m∈ns,(∀x∈ns,m<=x)->Q (.int m) H):=by
 intro pins s σ H xs us Q I r h;obtain⟨a,ns,rfl,hne,hS,q⟩:=h;obtain⟨u,rfl,ru⟩:=Jz r;cases ru;have fin: ∀ {its:List Value} (hi:IntsAre its ns) (v:Value) (h':Heap) (tk:Nat),its.toArray[argBest (λi j=>decide (ns.getD i 0<ns.getD j 0)) (its.toArray.size-1)]? =some v->(∀b o,s.heap.get? b=some o->h'.get? b=some o)->EP X pins σ Q v {s with heap:=h',toks:=tk}:=λ{its} hi v h' tk hv kept=>by
  obtain⟨t,rfl,lt⟩:=wm hi (show its[_]? =some v by simpa using hv);refine⟨.int _,H,I.kept kept,⟨t,rfl⟩,q _ (getD_mem lt) λx hx=> ?_⟩;obtain⟨j,hj,rfl⟩:=mem_getD hx;exact(argBest_lt (λi=>ns.getD i 0) (its.toArray.size-1)).2 j (by rw [P8,hi.length];omega)
 refine call_min_walk ?_;rcases hS with hS|hS
 ·obtain⟨its,rv,pl,_⟩:=I.list hS;have hi:=ZZ rv;obtain⟨o,e,r⟩:=id pl.isList;have W:=G0Z (prog:=X.prog) (w:=X.w) (A:=X.A.in1) (I.ok.hd hc) s.heap.objs.size a (R6 (P5 e)) its.toArray;exact A2 pl.isList ⟨_,_,_,_,_,_,_,rfl,W,⟨⟨_,D9 _ rfl,rfl,rfl⟩,⟨o,G3 _ e,r⟩⟩,Jb (P5 e),by rw [P8,hi.length];exact K2.mpr hne,CmpOf.ints_lt (λi=>ns.getD i 0) (λi v hv=>(wm hi (by simpa using hv)).imp λ_ z=>z.1),λv h' tk hv k=>fin hi v h' tk hv (Jc k)⟩
 ·obtain⟨its,rv,pl,_⟩:=I.tuple hS;have hi:=ZZ rv;obtain⟨o,e,r⟩:=id pl;have W:=Walks.tuple (prog:=X.prog) (w:=X.w) (A:=X.A.in1) (I.ok.hd hc) s.heap.objs.size a (R6 (P5 e)) its.toArray;exact K9 (show s.heap.IsTuple a its.toArray from pl) ⟨_,_,_,_,_,_,_,rfl,W,⟨⟨_,D9 _ rfl,rfl,rfl⟩,⟨o,G3 _ e,r⟩⟩,Jb (P5 e),by rw [P8,hi.length];exact K2.mpr hne,CmpOf.ints_lt (λi=>ns.getD i 0) (λi v hv=>(wm hi (by simpa using hv)).imp λ_ z=>z.1),λv h' tk hv k=>fin hi v h' tk hv (Jc k)⟩
theorem DF (hc:X.calm=true):CallR X (.builtin "max") (λxs H Q=> ∃ (a:Addr) (ns:List Int),xs= [.ref a]/\ns≠ []/\(SqL X.K H a (ns.map V.int)\/SqT X.K H a (ns.map V.int))/\ ∀m∈ns,(∀x∈ns,x<=m)->Q (.int m) H):=by
 intro pins s σ H xs us Q I r h;obtain⟨a,ns,rfl,hne,hS,q⟩:=h;obtain⟨u,rfl,ru⟩:=Jz r;cases ru;have fin: ∀ {its:List Value} (hi:IntsAre its ns) (v:Value) (h':Heap) (tk:Nat),its.toArray[argBest (λi j=>decide (ns.getD i 0>ns.getD j 0)) (its.toArray.size-1)]? =some v->(∀b o,s.heap.get? b=some o->h'.get? b=some o)->EP X pins σ Q v {s with heap:=h',toks:=tk}:=λ{its} hi v h' tk hv kept=>by
  obtain⟨t,rfl,lt⟩:=wm hi (show its[_]? =some v by simpa using hv);refine⟨.int _,H,I.kept kept,⟨t,rfl⟩,q _ (getD_mem lt) λx hx=> ?_⟩;obtain⟨j,hj,rfl⟩:=mem_getD hx;exact(argBest_gt (λi=>ns.getD i 0) (its.toArray.size-1)).2 j (by rw [P8,hi.length];omega)
 refine call_max_walk ?_;rcases hS with hS|hS
 ·obtain⟨its,rv,pl,_⟩:=I.list hS;have hi:=ZZ rv;obtain⟨o,e,r⟩:=id pl.isList;have W:=G0Z (prog:=X.prog) (w:=X.w) (A:=X.A.in1) (I.ok.hd hc) s.heap.objs.size a (R6 (P5 e)) its.toArray;exact A2 pl.isList ⟨_,_,_,_,_,_,_,rfl,W,⟨⟨_,D9 _ rfl,rfl,rfl⟩,⟨o,G3 _ e,r⟩⟩,Jb (P5 e),by rw [P8,hi.length];exact K2.mpr hne,CmpOf.ints_gt (λi=>ns.getD i 0) (λi v hv=>(wm hi (by simpa using hv)).imp λ_ z=>z.1),λv h' tk hv k=>fin hi v h' tk hv (Jc k)⟩
 ·obtain⟨its,rv,pl,_⟩:=I.tuple hS;have hi:=ZZ rv;obtain⟨o,e,r⟩:=id pl;have W:=Walks.tuple (prog:=X.prog) (w:=X.w) (A:=X.A.in1) (I.ok.hd hc) s.heap.objs.size a (R6 (P5 e)) its.toArray;exact K9 (show s.heap.IsTuple a its.toArray from pl) ⟨_,_,_,_,_,_,_,rfl,W,⟨⟨_,D9 _ rfl,rfl,rfl⟩,⟨o,G3 _ e,r⟩⟩,Jb (P5 e),by rw [P8,hi.length];exact K2.mpr hne,CmpOf.ints_gt (λi=>ns.getD i 0) (λi v hv=>(wm hi (by simpa using hv)).imp λ_ z=>z.1),λv h' tk hv k=>fin hi v h' tk hv (Jc k)⟩
def CV (B:List Int->Int->Prop):RDn:=λds h Q=> ∃ (ns:List Int) (h':HD),ns≠ []/\Sub h' h/\(ds= [.tup (ns.map D.int)]\/ ∃a,ds= [.lst a]/\h a=some (ns.map D.int))/\ ∀m∈ns,B ns m->Q (.int m) h'
abbrev Eu:RDn:=CV λns m=> ∀x∈ns,m<=x
abbrev HV:RDn:=CV λns m=> ∀x∈ns,x<=m
theorem Qf {B:List Int->Int->Prop}{f:Value}(c:CallR X f (λxs H Q=> ∃ (a:Addr) (ns:List Int),xs= [.ref a]/\ns≠ []/\(SqL X.K H a (ns.map V.int)\/SqT X.K H a (ns.map V.int))/\ ∀m∈ns,B ns m->Q (.int m) H)):yw X f (CV B):=
 c.imp λxs H Q ⟨ds,h,Qd,r,rh,⟨ns,h',hne,hs,e,q⟩,p⟩=>by
  rcases e with e|⟨a,e,ha⟩
  ·subst e;obtain⟨v,e,r1⟩:=jA r;obtain⟨a,vs,e1,hH,r2⟩:=(show ∃a vs,v= .ref a/\H a=some (.tup vs)/\RelDs X.K H (ns.map D.int) vs from r1);rw [zt r2] at hH;subst e e1;exact⟨a,ns,rfl,hne,.inr (SqT.of hH),λm m1 m2=>p (.int m) _ _ _ (.refl H) (rh.sub hs) rfl (q m m1 m2)⟩
  ·subst e;obtain⟨v,e,r1⟩:=jA r;obtain⟨vs,hH,r2⟩:=rh a _ ha;have e1:v= .ref a:=r1.1;rw [zt r2] at hH;subst e e1;exact⟨a,ns,rfl,hne,.inl (SqL.of hH),λm m1 m2=>p (.int m) _ _ _ (.refl H) (rh.sub hs) rfl (q m m1 m2)⟩
theorem DG (hc:X.calm=true):yw X (.builtin "min") Eu:=Qf (DE hc)
theorem CY (hc:X.calm=true):yw X (.builtin "max") HV:=Qf (DF hc)
end
theorem MR {ta:TAD}{g:TGD}{tb:TSD}{E:EndsD}{σ:SD}{h h1:HD}(m:Int)(n:Nat)(W:Nat->SD->HD->Prop)(hm:0<=m)(hm2:m<1000000)(hn:n<1000000)
 (ht: ∀R:List D->HD->Prop,R [.int m,.int (m+(n:Int))] h1->ta σ h R)(w0:W 0 σ h1)(done: ∀σ' h',W n σ' h'->E.nx σ' h')
 (turn: ∀i σ' h',i<n->W i σ' h'->g (.int (m+(i:Int))) σ' h' λσ2 h2=>tb (Nxt E λσ3 h4=>i+1<=n/\W (i+1) σ3 h4) σ2 h2):Lf (iR2 ta) g tb E σ h:=by
 refine ht _ ⟨m,m+(n:Int),rfl,⟨by omega,by omega,by omega,by omega⟩,n,λi σ' h'=>i<=n/\W i σ' h',⟨T2 _,w0⟩,?_⟩;rintro i σ' h' ⟨hi,w⟩;have en:(m+(n:Int)-m).toNat=n:=by omega
 refine⟨_,rfl,by simp [en],λhl=> ?_,λd hd=> ?_⟩
 ·have:i=n:=by simp [en] at hl;omega
  subst this;exact done _ _ w
 ·rw [en,D2] at hd;cases hx:(List.range n)[i]? with
  |none=>rw [hx] at hd;cases hd
  |some y=>
   rw [hx] at hd;cases hd;obtain⟨hi2,e⟩:=G5.mp hx;simp at hi2 e;subst e;exact turn i σ' h' hi2 w
theorem CZ {r:List Int}{h:HD}{Q:KD}(hne:r≠ [])(q: ∀m∈r,(∀x∈r,m<=x)->Q (.int m) h):Eu [vk r] h Q:=⟨r,h,hne,Sub.refl h,.inl rfl,q⟩
def Zc (r:List Int):Int:=(r.min?).getD 0
theorem DH {r:List Int}{m:Int}(h:m∈r)(l: ∀x∈r,m<=x):m=Zc r:=by
 unfold Zc;rw [G0U.mpr ⟨h,l⟩];rfl
theorem Yo {r:List Int}(h:r≠ []):Zc r∈r/\ ∀x∈r,Zc r<=x:=by
 cases e:r.min? with
 |none=>exact absurd (List.min?_eq_none_iff.mp e) h
 |some m=>
  have:=G0U.mp e;unfold Zc;rw [e];exact this
theorem YY {n e:Nat}{T:List (List Int)}(h:Sq n e T)(ne: ∀r∈T,r≠ []){m:Int}(m1:m∈T.map Zc)(m2: ∀x∈T.map Zc,m<=x):decide (m>0)=jU T:=by
 rw [M8,L6];unfold jU;simp only [R0,L6];constructor
 ·intro hm r hr x hx;have a:=m2 _ (D8.mpr ⟨r,hr,rfl⟩);have b:=(Yo (ne r hr)).2 x hx;omega
 ·intro z;obtain⟨r,hr,rfl⟩:=D8.mp m1;have a:=(Yo (ne r hr)).1;have b:=z r hr _ a;have c:=h.nn r hr _ a;omega
section
variable {α β:Type}{i i':Nat}{js:List Nat}{ti ti':TID}{te:TED}{σ:SD}{h:HD}{Q:KD}{j:ItD}
theorem HW (xs:List α)(c:α->D)(g:α->Int)(hz:xs.length<=1000)(hj:j h=some (xs.map c))(ht: ∀R:ItD->HD->Prop,R j h->ti σ h R)
 (he: ∀x∈xs,∀Q':KD,Q' (.int (g x)) h->te ((jF js σ).set i (some (c x))) h Q')(hne:xs≠ [])(hq: ∀m∈xs.map g,(∀x∈xs.map g,m<=x)->Q (.int m) h):dCB Eu (jY (yD (bN i) js ti WK te) Zo) σ h Q:=by
 show yD (bN i) js ti WK te σ h (λx h1=>Eu [x] h1 Q);exact lcA xs c (λx=> .int (g x)) hz hj ht he λp hp=>⟨xs.map g,h,λz=>hne (List.map_eq_nil_iff.mp z),Sub.newAt (Sub.refl h) hp,.inr ⟨p,rfl,by rw [jd,S4];rfl⟩,hq⟩
end
end L2
namespace L2
open PySem PySem.Spec PyProof.Rows PySem.SeqAt
theorem MS {X:Cx}(hu:X.A.units+64<cLine):MtM X "list.index" (λx vs H Q=> ∃ (a:Addr) (y:V) (dy:D) (h:HD) (p:PyData) (ps:List PyData) (j:Nat) (z:PyData),x= .ref a/\vs= [y]/\RelD X.K H dy y/\RelH X.K h H/\ToP h (.lst a) (.list ps)/\ToP h dy p/\p.canLay0=true/\PyData.canLayAll0 ps=true/\p.depth<=60/\j<1000000/\ps[j]? =some z/\PyData.eqv z p=true/\(∀m y,m<j->ps[m]? =some y->PyData.eqv y p=false)/\Q (.int (j:Int)) H):=by
 intro pins s σ H x vs v us Q I rx rv h;obtain⟨a,y,dy,h,p,ps,j,z,rfl,rfl,rd,rh,t1,t2,c1,c2,c3,hj,hz,hit,hno,q⟩:=h;cases rx;obtain⟨u,rfl,ru⟩:=Jz rv;obtain⟨a',ds,ea,ha,ts⟩:=(show ∃a' ds,D.lst a= .lst a'/\h a'=some ds/\ToPs h ds ps from t1);cases ea;obtain⟨ws,hH,_⟩:=rh a ds ha;obtain⟨as,r1⟩:=zi I rh t1 (show RelD X.K H (.lst a) (.ref a) from ⟨rfl,ws,hH⟩) (show RelV (.ref a) (.ref a) from rfl);obtain⟨bs,r2⟩:=zi I rh t2 rd ru;cases r1 with
 |list h1 h2 h3 h4=>
  rename_i o its n cs;have em:=readsAll_map ps _ _ c2 h4;have gm: ∀m (hm:m<its.size),ps[m]? =some (readOf s.heap its[m]):=λm hm=>by
   rw [<-em,D2,T9,Array.getElem?_eq_getElem hm];rfl
  have hlen:its.size=ps.length:=by rw [<-em,G0,T3]
  have hjs:j<its.size:=by rw [hlen];exact(G5.mp hz).1
  have hu':X.A.units+1+min (PyData.depthAll ps) p.depth<cLine:=by have:=U7 (PyData.depthAll ps) p.depth;omega
  obtain⟨oc,od,odt,osl⟩:=o;simp only at h2 h3;subst h2 h3;refine G0x F.slot_list_index ⟨_,h1,rfl⟩ F.entry_list_index (F.args_list_index_2 _ _) (list_indexAt a its n od osl u (λy=>PyData.eqv (readOf s.heap y) p) j hjs (by omega) ?_ ?_) ⟨h1,items_eqAt h4 r2 c2 c1 hu',?_⟩
  ·have:=gm j hjs;rw [hz] at this;injection this with this
   rw [<-this];exact hit
  ·intro m hm hmj;exact hno m _ hmj (gm m hm)
  ·exact⟨.int (j:Int),H,I.tok _,⟨_,rfl⟩,q⟩
def HX (to te:TED):TED:=λσ h Q=>to σ h λx h1=> ∃a,x= .lst a/\te σ h1 λy h2=> ∃ (p:PyData) (ps:List PyData) (j:Nat) (z:PyData),ToP h2 (.lst a) (.list ps)/\ToP h2 y p/\p.canLay0=true/\PyData.canLayAll0 ps=true/\p.depth<=60/\j<1000000/\ps[j]? =some z/\PyData.eqv z p=true/\(∀m y,m<j->ps[m]? =some y->PyData.eqv y p=false)/\Q (.int (j:Int)) h2
section
variable {X:Cx}{o e i:Expr}{to te ti:TED}{apos cpos:Pos}
theorem HY (hu : X.A.units + 64 < cLine) (ho : JE X o to) (he : JE X e te) (hbase : attributeBase o "index" X.env (eval o X.env) = eval o X.env := by rfl)
    (hfew : ((backTo cpos (starEach [e] X.env)).all (fun x => !x.1) && (backToKw cpos (keywordEach [] X.env)).all (fun x => x.1.isSome) && decide ([e].length + ([] : List Keyword).length + (if ([] : List Keyword).isEmpty then 0 else 1) < 30)) = true := by rfl)
    (hline : (apos.endLine == cpos.line) = true := by rfl) (hs : starEach [e] X.env = (false, eval e X.env) :: starEach [] X.env := by rfl) (hplain : (backTo cpos (starEach [] X.env)).any (·.1) = false := by rfl) :
    JE X (.Call (.Attribute o "index" apos) [e] [] cpos) (HX to te) :=
  ⟨(BT W6 PySem.F.slot_list_index PySem.F.type_list_index (MS hu) ho.to (wG he.to pa_nil hs) hbase hfew hline hs hplain).imp
    fun σ H Q ⟨σd, h, Qd, rs, rh, t, p⟩ => LE.bind rs rh t fun d v h1 H1 k1 rs1 rh1 r1 ⟨a, e, q⟩ => by
      subst e
      obtain ⟨e1, vs, hH⟩ := (show v = .ref a ∧ ∃ vs, H1 a = some (.lst vs) from r1)
      subst e1
      refine ⟨.inl ⟨rfl, vs, SqL.of hH⟩, ?_⟩
      refine LE.bind rs1 rh1 q fun y u h2 H2 k2 rs2 rh2 r2 ⟨pd, ps, j, z, t1, t2, c1, c2, c3, hj, hz, hit, hno, q2⟩ => ?_
      exact ⟨a, u, y, h2, pd, ps, j, z, rfl, rfl, r2, rh2, t1, t2, c1, c2, c3, hj, hz, hit, hno, p (.int _) _ _ _ (k1.trans k2) rh2 rfl q2⟩⟩
end
variable {i:Nat}
theorem Fa {js:List Nat}{ta:TAD}{tt:TTD}{te:TED}{σ:SD}{h h1:HD}{Q:KD}(n:Nat)(W:Nat->List D->HD->Prop)(hn:n<=1000)(ht: ∀R:List D->HD->Prop,R [.int (n:Int)] h1->ta σ h R)
 (w0:W 0 [] h1)(wl: ∀k ys h',W k ys h'->ys.length<=k)(turn: ∀k ys h',k<n->W k ys h'->tt ((jF js σ).set i (some (.int (k:Int)))) h' λb h3=>if b=true then te ((jF js σ).set i (some (.int (k:Int)))) h3 λy h4=> ∃h5,Sub h5 h4/\(k+1<=n/\W (k+1) (ys++ [y]) h5) else ∃h5,Sub h5 h3/\(k+1<=n/\W (k+1) ys h5))
 (done: ∀ys h',W n ys h'-> ∀p,h' p=none->Q (.lst p) (we h' p ys)):yD (bN i) js (iR1 ta) tt te σ h Q:=by
 refine ht _ ⟨(n:Int),rfl,by omega,by omega,n,λk ys h'=>k<=n/\W k ys h',⟨T2 _,w0⟩,?_⟩;rintro k ys h' ⟨hk,w⟩;refine⟨R9 (wl k ys h' w) (D5 (jx (by omega))),_,rfl,by simp,λhl p hp=> ?_,λd hd=>⟨_,rfl,?_⟩⟩
 ·have:k=n:=by simp at hl;omega
  subst this;exact done _ _ w p hp
 ·obtain⟨hi',e⟩:=ZY hd;have hk2:k<n:=by omega
  subst e;exact turn k ys h' hk2 w
def IsS (n:Nat)(S:List Nat):Prop:= ∃p:Nat->Bool,S=(List.range n).filter p
variable {n:Nat}{S:List Nat}
theorem IsS.lt (h:IsS n S){i:Nat}(hi:i∈S):i<n:=by
 obtain⟨p,rfl⟩:=h;exact P2.mp (S8.mp hi).1
theorem IsS.len (h:IsS n S):S.length<=n:=by
 obtain⟨p,rfl⟩:=h;have:=C5 p (List.range n)
 rwa [R4] at this
def wJ (n:Nat)(T:List (List Int))(S:List Nat):List Nat:=(List.range n).filter λj=>S.any λi=>decide (ent T i j≠0)
theorem IsS.step (T:List (List Int))(S:List Nat):IsS n (wJ n T S):=⟨_,rfl⟩
def itF {α:Type}(f:α->α)(x:α):Nat->α
 |0=>x
 |k+1=>f (itF f x k)
variable {T:List (List Int)}
theorem IsS.it (h:IsS n S): ∀k,IsS n (itF (wJ n T) S k)
 |0=>h
 |_+1=>IsS.step _ _
theorem VY {α:Type}[DecidableEq α]: ∀ {l m:List α},l.Nodup->(∀x∈l,x∈m)->l.length<=m.length
 | [],_,_,_=>T2 _
 |a::l,m,nd,h=>by
  have hm:=h a D7;have h2:l.length<=(m.erase a).length:=VY (O2.mp nd).2 λx hx=>by
   have hxa:x≠a:=λe=>(O2.mp nd).1 (e ▸ hx)
   exact(Z5 hxa).mpr (h x (R1 _ hx))
  rw [V7 hm] at h2;have:=X1 hm;simp only [D3];omega
def Bk (S:List Nat):PyData:=Bj (Xc S)
theorem YZ (h:HD)(S:List Nat):ToP h (jC S) (Bk S):=by rw [CK];exact⟨_,rfl,VU h _⟩
theorem Gh (r:List Int):(Bj r).canLay0=true:=by unfold Bj;simp only [PyData.canLay0];exact Wd r
theorem VZ (r:List Int):(Bj r).depth<=2:=by unfold Bj;simp only [PyData.depth];have:=Yn r;omega
theorem Yp: ∀a b:List Int,PyData.eqvAll (a.map PyData.int) (b.map PyData.int)=decide (a=b)
 | [],[]=>by simp [PyData.eqvAll]
 | [],_::_=>by simp [PyData.eqvAll]
 |_::_,[]=>by simp [PyData.eqvAll]
 |x::a,y::b=>by
  show ((x==y)&&PyData.eqvAll (a.map .int) (b.map .int))=_;rw [Yp a b,M8];simp
theorem Fb (a b:List Int):PyData.eqv (Bj a) (Bj b)=decide (a=b):=Yp a b
theorem DI {a b:List Nat}(h:Xc a=Xc b):a=b:=by
 have:=congrArg (List.map Int.toNat) h;unfold Xc at this;simpa [S4,X6] using this
theorem Fc (a b:List Nat):PyData.eqv (Bk a) (Bk b)=decide (a=b):=by
 unfold Bk;rw [Fb,M8,L6,L6];exact⟨DI,λe=>by rw [e]⟩
theorem Fd {α:Type}{f:Nat->α}{L:Nat}(h:i<L):atI ((List.range L).map f) (i:Int)=some (f i):=
 wW (by rw [D2,L5 h];rfl)
theorem Fe {α:Type}(xs:List α):UU xs (some 1) none=xs.drop 1:=by
 unfold UU;cases xs with
 |nil=>simp
 |cons x xs=>simp [HT.sIx]
theorem Gi {e:Nat}(hT:Sq n e T)(hS:IsS n S){j:Nat}(hj:j<n){m:Int}(m1:m∈0::S.map λi=>ent T i j)(m2: ∀x∈0::S.map λi=>ent T i j,x<=m):decide (m>0)=S.any λi=>decide (ent T i j≠0):=by
 rw [M8,L6,E4];constructor
 ·intro z;rcases D0.mp m1 with e|e
  ·omega
  ·obtain⟨i,hi,rfl⟩:=D8.mp e;exact⟨i,hi,G9 (by omega)⟩
 ·rintro ⟨i,hi,z⟩;have z':=S9 z;have a:=(hT.ent_nn (hS.lt hi) hj).1;have b:=m2 _ (R1 _ (D8.mpr ⟨i,hi,rfl⟩));omega
theorem MT {js:List Nat}{ta:TAD}{tt:TTD}{te:TED}{σ:SD}{h h1:HD}{Q:KD}(n:Nat)(W:Nat->List D->HD->Prop)(hn:n<=1000)(ht: ∀R:List D->HD->Prop,R [.int (n:Int)] h1->ta σ h R)
 (w0:W 0 [] h1)(wl: ∀k ys h',W k ys h'->ys.length<=k)(turn: ∀k ys h',k<n->W k ys h'->tt ((jF js σ).set i (some (.int (k:Int)))) h' λb h3=>if b=true then te ((jF js σ).set i (some (.int (k:Int)))) h3 λy h4=> ∃h5,Sub h5 h4/\(k+1<=n/\W (k+1) (ys++ [y]) h5) else ∃h5,Sub h5 h3/\(k+1<=n/\W (k+1) ys h5))
 (done: ∀ys h',W n ys h'->Q (.tup ys) h'):dCB vj (jY (yD (bN i) js (iR1 ta) tt te) Zo) σ h Q:=by
 show yD (bN i) js (iR1 ta) tt te σ h (λx h1=>vj [x] h1 Q);exact Fa n W hn ht w0 wl turn λys h' w p hp=>(show ∃zs,we h' p ys p=some zs/\Q (.tup zs) (WP (we h' p ys) p) from ⟨_,jd,by rw [zK hp];exact done ys h' w⟩)
theorem IsS.more {k:Nat}(h:IsS k S)(b:Bool):IsS (k+1) (if b=true then S++ [k] else S):=by
 obtain⟨p,rfl⟩:=h;refine⟨λi=>if i=k then b else p i,?_⟩;rw [A6,B6];have e:(List.range k).filter (λi=>if i=k then b else p i)=(List.range k).filter p:=G0y λi hi=>by
  rw [if_neg (by have:=P2.mp hi;omega)]
 rw [e];cases b<;>simp
theorem IsS.nil (n:Nat):IsS n []:=⟨λ_=>false,by simp⟩
structure Enc {α:Type}[DecidableEq α](e:α->D)(p:α->PyData):Prop where
 to: ∀ (h:HD) a,ToP h (e a) (p a)
 lay: ∀a,(p a).canLay0=true
 dp: ∀a,(p a).depth<=60
 eq: ∀a b,PyData.eqv (p a) (p b)=decide (a=b)
section
variable {α:Type}[DecidableEq α]{e:α->D}{p:α->PyData}
theorem Enc.tos (E:Enc e p)(h:HD): ∀as:List α,ToPs h (as.map e) (as.map p)
 | []=>rfl
 |a::as=>⟨_,_,rfl,E.to h a,E.tos h as⟩
theorem Enc.lays (E:Enc e p): ∀as:List α,PyData.canLayAll0 (as.map p)=true
 | []=>rfl
 |a::as=>by show (PyData.canLay0 (p a)&&_)=true;rw [E.lays as,E.lay a];rfl
theorem Ar (E:Enc e p){neg:Bool}{x:α}{as:List α}{a:Addr}{h:HD}{Q:KD}(ha:h a=some (as.map e))(q: ∀b:Bool,(b=true↔x∈as)->Q (.bl (neg !=b)) h):inE neg (e x) (.lst a) h Q:=by
 refine⟨p x,as.map p,E.to h x,.inl ⟨a,_,rfl,ha,E.tos h as⟩,E.lay x,E.lays as,E.dp x,q _ ?_⟩;rw [G1j,E4];constructor
 ·rintro ⟨y,hy,z⟩;have:y=x:=by simpa [C0,E.eq] using z
  rw [<-this];exact hy
 ·intro hi;exact⟨x,hi,by simp [C0,E.eq]⟩
end
def mk1 (n:Nat)(T:List (List Int))(M:List (List Int)):List (List Int):=jO n (vZ n M T)
def Gj (n:Nat)(T:List (List Int))(i:Nat):List (List Int):=itF (mk1 n T) (jO n T) i
theorem DJ (n:Nat)(T:List (List Int)): ∀i,∃M,Gj n T i=jO n M
 |0=>⟨T,rfl⟩
 |_+1=>⟨_,rfl⟩
theorem We (n:Nat)(T:List (List Int))(i:Nat):Sq n 1 (Gj n T i):=by
 obtain⟨M,e⟩:=DJ n T i;rw [e];exact Sq.mark M
theorem Qg {e:Nat}(h:Sq n e T)(hn:n<=8): ∀i,Gj n T i=jO n (yy n T (i+1))
 |0=>by
  show jO n T=jO n (vZ n (GO n) T);rw [Qc h hn]
 |i+1=>by
  show jO n (vZ n (Gj n T i) T)=jO n (vZ n (yy n T (i+1)) T);rw [Qg h hn i,ZC (Sq.mark (n:=n) _) h,ZC (h.pow hn (i+1)) h,VX]
def RP (n:Nat)(T:List (List Int))(k i j:Nat):Prop:=ent (yy n T k) i j≠0
section
variable {n e:Nat}{T:List (List Int)}
theorem zT (h:Sq n e T)(hn:n<=8)(a b:Nat){i j:Nat}(hi:i<n)(hj:j<n):RP n T (a+b) i j↔ ∃k,k<n/\RP n T a i k/\RP n T b k j:=by
 unfold RP;rw [pow_add h hn a b];exact zL (h.pow hn a) (h.pow hn b) hi hj
theorem DK (h:Sq n e T)(hn:n<=8){c x:Nat}(hx:x<n)(l:RP n T c x x): ∀q,RP n T (c*(q+1)) x x
 |0=>by rw [E8,Nat.mul_one];exact l
 |q+1=>by
  rw [G1l];exact(zT h hn _ _ hx hx).mpr ⟨x,hx,DK h hn hx l q,l⟩
theorem jS {i j:Nat}(hi:i<n)(hj:j<n):RP n T 0 i j↔i=j:=by
 unfold RP;show ent (GO n) i j≠0↔_;unfold GO;rw [Wa hi hj]
 by_cases z:i=j
 ·simp [z]
 ·simp [z]
theorem DL (h:Sq n e T)(hn:n<=8): ∀ (m:Nat) {i j:Nat},i<n->j<n->RP n T m i j-> ∃v:Nat->Nat,v 0=i/\v m=j/\(∀t,t<=m->v t<n)/\ ∀t,t<m->RP n T 1 (v t) (v (t+1))
 |0,i,j,hi,hj,r=>by
  have:=(jS hi hj).mp r;exact⟨λ_=>i,rfl,this,λ_ _=>hi,λt ht=>by omega⟩
 |m+1,i,j,hi,hj,r=>by
  obtain⟨k,hk,r1,r2⟩:=(zT h hn m 1 hi hj).mp r;obtain⟨v,v0,vm,vl,vr⟩:=DL h hn m hi hk r1;refine⟨λt=>if t<=m then v t else j,?_,?_,λt _=> ?_,λt ht=> ?_⟩
  ·simp [v0]
  ·show (if m+1<=m then v (m+1) else j)=j;rw [if_neg (by omega)]
  ·show (if t<=m then v t else j)<n;split
   ·exact vl t (by assumption)
   ·exact hj
  ·show RP n T 1 (if t<=m then v t else j) (if t+1<=m then v (t+1) else j);rw [if_pos (by omega)]
   by_cases z:t+1<=m
   ·rw [if_pos z];exact vr t (by omega)
   ·rw [if_neg z,show t=m by omega,vm];exact r2
theorem JJ (h:Sq n e T)(hn:n<=8){m:Nat}{v:Nat->Nat}(vl: ∀t,t<=m->v t<n)(vr: ∀t,t<m->RP n T 1 (v t) (v (t+1)))(a:Nat): ∀b,a+b<=m->RP n T b (v a) (v (a+b))
 |0,hb=>(jS (vl a (by omega)) (vl a (by omega))).mpr rfl
 |b+1,hb=>(zT h hn b 1 (vl a (by omega)) (vl _ hb)).mpr ⟨v (a+b),vl _ (by omega),JJ h hn vl vr a b (by omega),vr (a+b) (by omega)⟩
theorem As {n:Nat}{v:Nat->Nat}(hv: ∀t,t<=n->v t<n): ∃a b,a<b/\b<=n/\v a=v b:=by
 by_cases z: ∃a b,a<b/\b<=n/\v a=v b
 ·exact z
 ·exfalso;have nd:((List.range (n+1)).map v).Nodup:=by
   unfold List.Nodup;rw [C6];refine List.Pairwise.imp_of_mem (λ{a b} _ hb hab=> ?_) (List.pairwise_lt_range (n:=n+1));intro e;exact z ⟨a,b,hab,by have:=P2.mp hb;omega,e⟩
  have:=VY nd (m:=List.range n) λx hx=>by
   obtain⟨t,ht,e⟩:=D8.mp hx;rw [<-e];exact P2.mpr (hv t (by have:=P2.mp ht;omega))
  simp at this;omega
end
theorem Ff (h:i<n):ixN n (i:Int)=some i:=by
 unfold ixN;simp;omega
theorem MU {e:Nat}(h:Sq n e T)(i:Nat):jO n (vZ n (Gj n T i) (jO n T))=Gj n T (i+1):=by
 show _=jO n (vZ n (Gj n T i) T);rw [ZC (We n T i) (Sq.mark (n:=n) T),ZC (We n T i) h,VX]
theorem call_divmodB {X:Cx}:CallR X (.builtin "divmod") (λxs H Q=> ∃i j,xs= [.int i,.int j]/\(0<j/\j<2^200)/\ ∀p,H p=none->Q (.ref p) (upd H p (.tup [.int (i / j),.int (i%j)]))):=by
 intro pins s σ H xs us Q I r h;obtain⟨i,j,rfl,⟨h1,h2⟩,q⟩:=h;obtain⟨u,w',rfl,⟨t,rfl⟩,⟨t',rfl⟩⟩:=Mo r;refine divmod_int (by omega) ?_ (.inl (PyProof.noPylong_of_log2 ?_))
 ·rw [G0i i (by omega),G0j i (by omega)];have hn:H s.heap.objs.size=none:=I.hok.fresh (G8 _);refine⟨.ref s.heap.objs.size,_,?_,rfl,q _ hn⟩;refine I.laid (λb o e=>G3 _ e) (G8 _) ⟨by simp only [D3,R8];rw [G08];decide,[.int (i / j) s.toks,.int (i%j) (s.toks+1)],.cons ⟨_,rfl⟩ (.cons ⟨_,rfl⟩ .nil),?_⟩;exact⟨_,D9 s.heap rfl,rfl,rfl,0,rfl⟩
 ·have h3:j.natAbs<2^200:=Wc (by omega) h2;have h4:=(Nat.log2_lt (by omega:j.natAbs≠0)).mpr h3;omega
def Fg:RDn:=λds h Q=> ∃i j:Int,ds= [.int i,.int j]/\(0<j/\j<2^200)/\Q (.tup [.int (i / j),.int (i%j)]) h
theorem Gk {X:Cx}:yw X (.builtin "divmod") Fg:=call_divmodB.imp λxs H Q ⟨ds,h,Qd,r,rh,⟨i,j,e,c,q⟩,p⟩=>by
 subst e;obtain⟨v,w,e,r1,r2⟩:=yC r;cases (show v= .int i from r1);cases (show w= .int j from r2);exact⟨i,j,e,c,λa ha=>p (.tup [.int (i / j),.int (i%j)]) _ _ _ (.new ha) (rh.new ha) ⟨a,_,rfl,jl,.cons rfl (.cons rfl .nil)⟩ q⟩
def zk (d:D)(a b:Int):Bool:=match d with
 | .int x=>decide (a<=x)&&decide (x<=b)
 |_=>false
theorem At (x m:Int):decide (x<m)=decide (x<=m-1):=by
 by_cases h:x<m
 ·rw [G9 h,G9 (by omega)]
 ·rw [D1 h,D1 (by omega)]
end L2
set_option maxRecDepth 35000
namespace L2
open PySem PySem.Spec PyProof.Rows PySem.SeqAt
section
variable {α:Type}{i i':Nat}{js:List Nat}{ti:TID}{te:TED}{σ:SD}{h:HD}{Q:KD}{j:ItD}
theorem HZ (xs:List α)(c c' g:α->D)(p:α->Bool){tt:TTD}(hz:xs.length<=1000)(hj:j h=some (xs.map λx=> .tup [c x,c' x]))(ht: ∀R:ItD->HD->Prop,R j h->ti σ h R)
 (hp: ∀x∈xs,∀Q':Bool->HD->Prop,Q' (p x) h->tt (((jF js σ).set i (some (c x))).set i' (some (c' x))) h Q')(he: ∀x∈xs,p x=true-> ∀Q':KD,Q' (g x) h->te (((jF js σ).set i (some (c x))).set i' (some (c' x))) h Q')(hq: ∀a,h a=none->Q (.lst a) (we h a ((xs.filter p).map g))):yD (b2 i i') js ti tt te σ h Q:=by
 refine ht _ ⟨xs.length,λk ys h'=>h'=h/\ys=((xs.take k).filter p).map g,⟨rfl,by simp⟩,?_⟩;rintro k ys h' ⟨rfl,rfl⟩;refine⟨?_,_,hj,by simp,λhl a ha=> ?_,λd hd=> ?_⟩
 ·have:=C5 p (xs.take k);simp only [G0,R3] at this ⊢;exact D5 (jx (by omega))
 ·rw [S0 (by simpa using hl)];exact hq a ha
 ·rw [D2] at hd;cases hx:xs[k]? with
  |none=>rw [hx] at hd;cases hd
  |some x=>
   rw [hx] at hd;cases hd;refine⟨_,⟨_,_,rfl,rfl⟩,?_⟩;refine hp x (G7 hx) _ ?_;cases hb:p x with
   |true=>
    rw [if_pos rfl];refine he x (G7 hx) hb _ ⟨_,Sub.refl _,rfl,?_⟩;rw [T8,hx];simp [hb]
   |false=>
    rw [if_neg (by decide)];refine⟨_,Sub.refl _,rfl,?_⟩;rw [T8,hx];simp [hb]
end
def DM (T:List (List Int))(n p:Nat):List Nat:=(List.range n).filter λj=>decide (ent T p j>0)
def cnt (T:List (List Int))(n o:Nat):Nat->Nat->Int
 |0,p=>if p=o then 1 else 0
 |t+1,p=>((DM T n p).map (cnt T n o t)).sum
section
variable {T:List (List Int)}{n o:Nat}
def Ka (T:List (List Int))(n o t p:Nat):Nat:=(DM T n p).findIdx λj=>decide (cnt T n o t j>0)
def nxt (T:List (List Int))(n o t p:Nat):Nat:=(DM T n p).getD (Ka T n o t p) 0
end
theorem MV {α:Type}{xs:List α}{x:α}(h1:1<=xs.length)(h:xs[xs.length-1]? =some x):atI xs (-1)=some x:=by
 unfold atI ixN;rw [if_neg (by decide),if_pos (by omega)];show xs[(-1+(xs.length:Int)).toNat]? =_;rw [show (-1+(xs.length:Int)).toNat=xs.length-1 by omega];exact h
end L2
namespace L2
open PySem PySem.Spec PyProof.Rows
theorem ObjOk.there {P:Program}{w:World}{H:Hp}{h:Heap}{a:Addr}{o:HO}(x:ObjOk P w H h a o): ∃u,h.get? a=some u:=by
 cases o with
 |lst xs=>obtain⟨_,_,_,_,e⟩:=x;exact⟨_,e⟩
 |tup xs=>obtain⟨_,_,_,p⟩:=x;obtain⟨o,e,_⟩:=p;exact⟨_,e⟩
 |dK kvs=>obtain⟨_,_,_,_,o,_,_,e,_⟩:=x;exact⟨_,e⟩
 |dT kvs=>obtain⟨_,_,_,_,o,_,_,e,_⟩:=x;exact⟨_,e⟩
 |set S n=>obtain⟨o,_,_,_,e,_⟩:=x;exact⟨_,e⟩
 |ins C dx fs=>obtain⟨_,_,_,e,_⟩:=x;exact⟨_,e⟩
 |own y=>obtain⟨_,e⟩:=x;exact⟨_,e⟩
 |xd fs=>obtain⟨_,⟨_,_,_,e,_⟩,_⟩:=x;exact⟨_,e⟩
 |rng lo hi=>obtain⟨_,_,_,e⟩:=x;exact⟨_,e⟩
 |frz ob u=>obtain⟨e,_⟩:=x;exact⟨_,e⟩
 |tbl ps=>exact⟨_,(show h.get? a=some _ from x)⟩
 |met f y=>exact⟨_,(show h.get? a=some _ from x)⟩
 |ext φ=>obtain⟨_,⟨_,e⟩,_⟩:=x;exact⟨_,e⟩
theorem ze {h b b':Heap}: ∀ {l:List Env},h.FunFrames b l->(∀a∈frs l,b'.get? a=none)->h.FunFrames b' l
 | [],_,_=>trivial
 |env::r,⟨hk,⟨L,o,hf,_,ho,hd⟩,hr⟩,n=>by
  refine⟨hk,⟨L,o,hf,n L ?_,ho,hd⟩,ze hr λa ha=>n a ?_⟩
  ·unfold frs;rw [List.filterMap_cons,hf];exact .head _
  ·unfold frs;rw [List.filterMap_cons,hf];exact .tail _ ha
structure Fly (h0:Heap)(H:Hp)(h:Heap)(x C:Addr):Prop where
 ex: ∃ (oe:Obj) (vs:Array Value) (a0:Value) (T:Addr) (oT:Obj) (ts:Array Value),h.get? x=some oe/\oe.cls= .ref C/\oe.data= .fields vs/\vs[0]? =some a0/\vs[1]? =some (.ref T)/\T≠x/\
  h.get? T=some oT/\oT.data= .fields ts/\ts[3]? =some .none/\H T=none/\h0.get? T=none
 nx:H x=none
 n0:h0.get? x=none
def CXR (P:Program)(w:World):CXT:=λouter H s E e s'=> ∃x C H',e= .ref x/\s'.os=s.os/\AllBare s'.gens/\Un (frs outer) [] H H' s.heap s'.heap/\HOk P w H' s'.heap/\Fly s.heap H' s'.heap x C/\E (.ref C) none H'
structure Rz0 (X:Cx):Prop where
 stk:X.stack=X.env::X.outer
 fr:X.env.frame=some X.env.locals
 ex:X.ex= []
structure Rz (X:Cx)(E:XK):Prop extends Rz0 X where
 xe: ∀e s',wpAny (model X.prog X.w) X.A (leaving X.env e) (λ_ s''=>CXR X.prog X.w X.outer X.H₀ X.s₀ E e s'') (λe' s''=>CXR X.prog X.w X.outer X.H₀ X.s₀ E e' s'') s'->X.xe e s'
section
variable {X:Cx}{pins:List (Addr×Obj)}{σ:St}{H:Hp}{s:Shared}{E:XK}{x C:Addr}
theorem DN (I:Inv X pins σ H s)(Z:Rz0 X){ys:List Addr}(hy: ∀y∈ys,H y=none/\X.s₀.heap.get? y=none){h':Heap}
 (kb: ∀b o,s.heap.get? b=some o->b ∉ ys->b ∉ frs (X.env::X.outer)->h'.get? b=some o)
 (up: ∀b o,s.heap.get? b=some o->b∈frs (X.env::X.outer)-> ∃sl,h'.get? b=some {o with slots:=sl}):
 Un X.fs [] X.H₀ H X.s₀.heap h'/\HOk X.prog X.w H h'/\
  ∀T oT ts,h'.get? T=some oT->oT.data= .fields ts->(∀o,s.heap.get? T=some o->T∈ys\/T∈frs (X.env::X.outer))->H T=none/\X.s₀.heap.get? T=none:=by
 have nex: ∀b,b ∉ X.ex:=λb=>by rw [Z.ex];simp
 have neL: ∀b o,X.s₀.heap.get? b=some o->b≠X.env.locals:=λb o e=>R6 (D6 (P5 e) I.ok.above)
 have mem: ∀b,b∈frs (X.env::X.outer)↔b=X.env.locals\/b∈X.fs:=λb=>by
  show b∈List.filterMap _ _↔_;rw [G07,Z.fr];exact D0
 have nys: ∀b o,X.s₀.heap.get? b=some o->b ∉ ys:=λb o e z=>by rw [(hy b z).2] at e;cases e
 have trf: ∀b u,H b=some u->b ∉ ys/\b ∉ frs (X.env::X.outer):=λb u e=>by
  refine⟨λz=> ?_,λz=> ?_⟩
  ·rw [(hy b z).1] at e;cases e
  ·have:=I.stkFree b (by rw [Z.stk];exact z);rw [this] at e;cases e
 refine⟨⟨λb o e n hb hx=> ?_,λb o e n hb hx=> ?_,λb o e n hx=>I.base.free b o e n (nex b),λb o e hx=> ?_,I.base.tups,I.base.frzs,I.base.tbls⟩,λa o e=> ?_,λT oT ts hT hd hn=>⟨?_,?_⟩⟩
 ·exact kb b o (I.base.keep b o e n hb (nex b)) (nys b o e) λz=>((mem b).mp z).elim (neL b o e) hb
 ·obtain⟨sl,e1⟩:=I.base.slot b o e n hb (nex b);obtain⟨sl',e2⟩:=up b _ e1 ((mem b).mpr (.inr hb));exact⟨sl',e2⟩
 ·obtain⟨o',e1⟩:=I.base.there b o e (nex b)
  by_cases hb:b∈frs (X.env::X.outer)
  ·obtain⟨sl,e2⟩:=up b o' e1 hb;exact⟨_,e2⟩
  ·exact⟨_,kb b o' e1 (nys b o e) hb⟩
 ·refine(I.hok a o e).stay (λb u hb q=> ?_) (λ_ q=>q) λ_ _ q=>q
  rcases hb with rfl|hb
  ·exact kb b u q (trf b _ e).1 (trf b _ e).2
  ·exact kb b u q (trf b _ hb).1 (trf b _ hb).2
 ·cases q:H T with
  |none=>rfl
  |some u=>
   obtain⟨o,e⟩:=(I.hok T u q).there;exact absurd (hn o e) λz=>z.elim (trf T u q).1 (trf T u q).2
 ·cases q:X.s₀.heap.get? T with
  |none=>rfl
  |some o=>
   exfalso;obtain⟨o',e1⟩:=I.base.there T o q (nex T);rcases hn o' e1 with z|z
   ·exact nys T o q z
   ·rcases (mem T).mp z with z'|z'
    ·exact neL T o q z'
    ·obtain⟨_,o2,e2,nd⟩:=(show s.heap.FunFrames X.base (X.env::X.outer) from Z.stk ▸ I.stack).mem z;obtain⟨sl,e3⟩:=up T o2 e2 z;rw [hT] at e3;cases e3;exact nd ts hd
theorem DO {Q:Unit->Shared->Prop}{M:Model}{EE:Value->Shared->Prop}(I:Inv X pins σ H s)(Z:Rz X E)(fl:Fly X.s₀.heap H s.heap x C)
 (k: ∀h',Un X.fs [] X.H₀ H X.s₀.heap h'->HOk X.prog X.w H h'->Fly X.s₀.heap H h' x C->Q () {s with heap:=h'}):wpAny M X.A (leaving X.env (.ref x)) Q EE s:=by
 obtain⟨oe,vs,a0,T,oT,ts,he,hc,hd,h0,h1,hTx,hT,hTd,h3,hHT,h0T⟩:=fl.ex;have hfr:X.A.frames=some (X.env::X.outer):=by rw [I.ok.frames,Z.stk]
 have stk:s.heap.FunFrames X.base (X.env::X.outer):=Z.stk ▸ I.stack;have ff:s.heap.FunFrames (PySem.W.hideAll s.heap (x::T::frs (X.env::X.outer))) (X.env::X.outer):=ze stk λa ha=>J4 _ (.tail _ (.tail _ ha))
 refine wpAny_leaves_onW (base:=PySem.W.hideAll s.heap (x::T::frs (X.env::X.outer))) (cls:= .ref C) (a0:=a0) hfr Z.fr
  ⟨λb o e=>G0m _ e,J4 _ (.head _),ff,oe,vs,T,oT,ts,he,⟨hc,h0⟩,hd,h1,J4 _ (.tail _ (.head _)),hTx,hT,hTd,h3⟩ λh' hfl' hup=> ?_
 obtain⟨st,_,_,oe',vs',T',oT',ts',he',⟨hc',h0'⟩,hd',h1',hTB,hTx',hT',hTd',h3'⟩:=hfl';obtain⟨r1,r2,r3⟩:=DN (ys:= [x,T]) (h':=h') I Z.toRz0 (λy hy=>by
  rcases D0.mp hy with rfl|hy
  ·exact⟨fl.nx,fl.n0⟩
  ·rcases D0.mp hy with rfl|hy
   ·exact⟨hHT,h0T⟩
   ·cases hy) (λb o e n1 n2=>st b o (J9 _ e λz=>by
    rcases D0.mp z with rfl|z
    ·exact n1 (.head _)
    ·rcases D0.mp z with rfl|z
     ·exact n1 (.tail _ (.head _))
     ·exact n2 z)) λb o e hb=>by
  obtain⟨_,o2,e2,nd⟩:=stk.mem hb;rw [e] at e2;cases e2;exact hup b o e nd
 obtain⟨q1,q2⟩:=r3 T' oT' ts' hT' hTd' λo e=>by
  by_cases z:T'∈frs (X.env::X.outer)
  ·exact .inr z
  ·refine .inl ?_
   by_cases z1:T'=x
   ·rw [z1];exact .head _
   ·by_cases z2:T'=T
    ·rw [z2];exact .tail _ (.head _)
    ·rw [J9 _ e (by simp only [D0,not_or];exact⟨z1,z2,z⟩)] at hTB;cases hTB
 exact k h' r1 r2 ⟨⟨oe',vs',a0,T',oT',ts',he',hc',hd',h0',h1',hTx',hT',hTd',h3',q1,q2⟩,fl.nx,fl.n0⟩
theorem Gm {Q:Unit->Shared->Prop}{M:Model}{EE:Value->Shared->Prop}{h1:Heap}{args:List Value}(I:Inv X pins σ H s)(Z:Rz X E)(hm:Heap.MadeExcOf s.heap h1 x (.ref C) args)
 (k: ∀h',Un X.fs [] X.H₀ H X.s₀.heap h'->HOk X.prog X.w H h'->Fly X.s₀.heap H h' x C->Q () {s with heap:=h'}):wpAny M X.A (leaving X.env (.ref x)) Q EE {s with heap:=h1}:=by
 have hfr:X.A.frames=some (X.env::X.outer):=by rw [I.ok.frames,Z.stk]
 have stk:s.heap.FunFrames X.base (X.env::X.outer):=Z.stk ▸ I.stack;have ff:s.heap.FunFrames (PySem.W.hideAll s.heap (frs (X.env::X.outer))) (X.env::X.outer):=ze stk λa ha=>J4 _ ha
 refine wpAny_leaves_madeW (base:=PySem.W.hideAll s.heap (frs (X.env::X.outer))) (h:=s.heap) (s:= {s with heap:=h1}) hfr Z.fr (λb o e=>G0m _ e) ff hm λh' t hfl' _ _ hup=> ?_
 obtain⟨st,_,_,oe',vs',T',oT',ts',he',⟨hc',h0'⟩,hd',h1',hTB,hTx',hT',hTd',h3'⟩:=hfl';obtain⟨r1,r2,r3⟩:=DN (ys:= []) (h':=h') I Z.toRz0 (λy hy=>nomatch hy) (λb o e _ n2=>st b o (J9 _ e n2)) λb o e hb=>by
  obtain⟨_,o2,e2,nd⟩:=stk.mem hb;rw [e] at e2;cases e2;exact hup b o (hm.keeps b o e) nd
 obtain⟨q1,q2⟩:=r3 T' oT' ts' hT' hTd' λo e=>by
  by_cases z:T'∈frs (X.env::X.outer)
  ·exact .inr z
  ·rw [J9 _ e z] at hTB;cases hTB
 obtain⟨p1,p2⟩:=r3 x oe' vs' he' hd' λo e=>by rw [hm.new] at e;cases e
 exact k h' r1 r2 ⟨⟨oe',vs',_,T',oT',ts',he',hc',hd',h0',h1',hTx',hT',hTd',h3',q1,q2⟩,p1,p2⟩
theorem SV (Z:Rz X E):ZL (CXR X.prog X.w) X E:=by
 intro pins σ H s e s' I ⟨x,C,H',he,os,bare,un,hok,fl,q⟩;subst he;obtain⟨hh,g,d,t,os'⟩:=s';obtain rfl:os'=s.os:=os;have I':=I.call (h':=hh) (g':=g) (d':=d) (t':=t) (ch:= []) un hok bare (λb z=>absurd z (by simp));have nex: ∀b,b ∉ X.ex:=λb=>by rw [Z.ex];simp
 have f0: ∀b,s.heap.get? b=none->X.s₀.heap.get? b=none:=λb n=>by
  cases q:X.s₀.heap.get? b with
  |none=>rfl
  |some o=>obtain⟨o',e⟩:=I.base.there b o q (nex b);rw [n] at e;cases e
 have fl':Fly X.s₀.heap H' hh x C:=by
  obtain⟨⟨oe,vs,a0,T,oT,ts,a1,a2,a3,a4,a5,a6,a7,a8,a9,a10,a11⟩,nx,n0⟩:=fl;exact⟨⟨oe,vs,a0,T,oT,ts,a1,a2,a3,a4,a5,a6,a7,a8,a9,a10,f0 _ a11⟩,nx,f0 _ n0⟩
 exact Z.xe _ _ (DO I' Z fl' λh' u hk f=>⟨x,C,H',rfl,I'.os,I'.bare,u,hk,f,q⟩)
end
end L2
namespace L2
open PySem PySem.Spec PyProof.Rows PySem.W
def Zr (cells:List (Str×Addr)):List (Str×NameKind)->List (Str×Addr)->List (Str×Addr)
 | [],cs=>cs
 |(n,k)::r,cs=>Zr cells r (if k== .free then (match cells.lookup n with|some c=>(n,c)::cs|none=>cs) else cs)
theorem wZ {env:Env}: ∀ (names:List (Str×NameKind)) (cs:List (Str×Addr)),(∀n,(n,NameKind.free)∈names-> ∃c,env.cells.lookup n=some c)->
 (forIn names cs (λ(x:Str×NameKind) (r:List (Str×Addr))=>do
  let (name,kind):=x
  if kind== .free then
   let c <-cellOf env name
   pure (ForInStep.yield ((name,c)::r))
  else pure (ForInStep.yield r)):Sem (List (Str×Addr)))=pure (Zr env.cells names cs)
 | [],cs,_=>rfl
 |(n,k)::r,cs,h=>by
  rw [G0b]
  by_cases hk:(k==NameKind.free)=true
  ·have hk':k= .free:=eq_of_beq hk;subst hk';obtain⟨c,hc⟩:=h n (.head _);unfold Zr;simp only [beq_self_eq_true,if_true,cellOf,hc,pure_bind];exact wZ r _ λn hn=>h n (.tail _ hn)
  ·unfold Zr;simp only [hk,G1f,pure_bind];exact wZ r _ λn hn=>h n (.tail _ hn)
variable {scope:Scope}
theorem Wf {env:Env}(h: ∀n,(n,NameKind.free)∈scope.names-> ∃c,env.cells.lookup n=some c):closureFor scope env=pure (Zr env.cells scope.names []):=by
 have:=wZ (env:=env) scope.names [] h;unfold closureFor
 first
  |exact this
  |simpa using this
theorem wR {cells:List (Str×Addr)}: ∀ (names:List (Str×NameKind)) (cs:List (Str×Addr)),(∀x c,cs.lookup x=some c->cells.lookup x=some c)-> ∀x c,(Zr cells names cs).lookup x=some c->cells.lookup x=some c
 | [],_,h,x,c,e=>h x c e
 |(n,k)::r,cs,h,x,c,e=>by
  unfold Zr at e;refine wR r _ (λy d hy=> ?_) x c e;split at hy
  ·split at hy
   ·rename_i c' hc';rw [N2] at hy
    by_cases q:(y==n)=true
    ·rw [q] at hy;cases hy;rw [eq_of_beq q];exact hc'
    ·simp only [q] at hy;exact h y d hy
   ·exact h y d hy
  ·exact h y d hy
theorem Wg {cells:List (Str×Addr)}: ∀ (names:List (Str×NameKind)) (cs:List (Str×Addr)) (x:Str),((x,NameKind.free)∈names/\(∃c,cells.lookup x=some c)\/ ∃c,cs.lookup x=some c)-> ∃c,(Zr cells names cs).lookup x=some c
 | [],_,x,h=>h.elim (λz=>nomatch z.1) id
 |(n,k)::r,cs,x,h=>by
  unfold Zr;refine Wg r _ x ?_;rcases h with ⟨hm,c,hc⟩|⟨c,hc⟩
  ·rcases D0.mp hm with q|q
   ·cases q;right;simp only [beq_self_eq_true,if_true,hc];exact⟨c,by simp⟩
   ·exact .inl ⟨q,c,hc⟩
  ·right;split
   ·split
    ·rename_i c' hc'
     by_cases q:(x==n)=true
     ·exact⟨c',by rw [N2,q]⟩
     ·exact⟨c,by rw [N2];simp only [q];exact hc⟩
    ·exact⟨c,hc⟩
   ·exact⟨c,hc⟩
structure LamOk (sc:Scope):Prop where
 kind:sc.kind= .function
 co:sc.isCoroutine=false
 gen:sc.isGenerator=false
 nocell: ∀y∈sc.names,y.2≠ .cell/\y.2≠ .local
def WQ:Arguments:= {posonlyargs:= [],args:= [],vararg:=none,kwonlyargs:= [],kw_defaults:= [],kwarg:=none,defaults:= []}
theorem Ua {a0 b0:Nat}{c:Value}: ∀l:List Value,TriplesOk l->TriplesOk (l++ [rawInt a0,rawInt b0,c]):=by
 intro l h
 fun_induction TriplesOk l with
 |case1=>simp [TriplesOk,rawInt]
 |case2 a t b u x rest ih=>simp only [B3,TriplesOk];exact ih h
 |case3 l h1 h2=>exact h.elim
theorem Gn {p:Pos}{a0 b0:Nat}{c cv:Value}: ∀l:List Value,TriplesOk l->codeAmong p (l++ [rawInt a0,rawInt b0,c])=some cv->codeAmong p l=some cv\/cv=c:=by
 intro l h e
 fun_induction TriplesOk l with
 |case1=>
  right;simp only [M1,codeAmong,rawInt] at e;split at e
  ·exact(N3 e).symm
  ·cases e
 |case2 a t b u x rest ih=>
  simp only [B3,codeAmong] at e ⊢;split at e
  ·rename_i hc;left;rw [if_pos hc];exact e
  ·rename_i hc;rw [if_neg hc];exact ih h e
 |case3 l h1 h2=>exact h.elim
def CodeF (H:Hp)(cv:Value)(q:Str):Prop:= ∃ (c:Addr) (o:Obj) (vs:Array Value) (t:Tok),cv= .ref c/\H c=some (.frz o (.own 0))/\o.data= .fields vs/\vs[1]? =some (.str q t)
variable {w:World}{H:Hp}{q:Str}
theorem CodeF.rec {P:Program}{h:Heap}{cv:Value}(x:CodeF H cv q)(ok:HOk P w H h):h.CodeRec cv q:=let ⟨c,o,vs,t,e,e2,r⟩:=x;⟨c,o,vs,t,e,(ok c _ e2).1,r⟩
section
variable {X:Cx}{pins:List (Addr×Obj)}{σ:St}{H:Hp}{s:Shared}
theorem MW {M:Model}{A:Around}{E:Value->Shared->Prop}{Q:Value->Shared->Prop}{body:Expr}{scope:Scope}{pos:Pos}{c P:Addr}{ps:Array Value}{clos:List (Str×Addr)}(I:Inv X pins σ H s)(B:Bm X.mg X.base)
 (hcode:X.env.code= .ref c)(hc:codeHdIn X.K c P=true)(hP:H P=some (.tbl ps))(hps:CodesOk H ps)(hcl:closureFor scope X.env=pure clos)
 (k: ∀ (f:Addr) (q qual:Str) (pm cv ctv:Value) (H':Hp) (h':Heap) (tk:Tok),Inv X pins σ H' {s with heap:=h',toks:=tk}->Kept H H'->(∀a o,H a=some o->(∀ps',o≠ .tbl ps')->H' a=some o)->
  (∀a ps',H a=some (.tbl ps')->a≠P->H' a=some (.tbl ps'))->(∃ps',H' P=some (.tbl ps')/\CodesOk H' ps')->
  h'.get? f=some {cls:= .type "function",data:= .func (kla_fn "<lambda>" qual WQ body scope clos pm cv ctv)}->CodeF H' cv q->H' f=none->(∀x d,X.env.cells.lookup x=some d->d≠f)->f≠X.env.locals->f ∉ X.fs->Q (.ref f) {s with heap:=h',toks:=tk}):
 wpAny M A (eval (.Lambda WQ body scope pos) X.env) Q E s:=by
 have hPg:s.heap.get? P=some (tabObj ps):=I.hok P _ hP;have C:CodeHd s.heap c P:=codeHd_of_K I.kIn hc;have hgs:s.heap.Ns mainGlobals X.mg:=I.mod.glob.keeps I.bk;obtain⟨bm,ob,b1,b2,b3,b4,b5,b6⟩:=B;have bb:=I.bs _ _ b3;have hgP:mainGlobals≠P:=λq=>by
  obtain⟨o,es,ep,e,hd,_⟩:=hgs;rw [q,hPg] at e;cases e;cases hd
 have hbP:bm≠P:=λq=>by rw [q,hP] at bb;cases bb.2
 have hbG:bm≠mainGlobals:=λq=>by
  obtain⟨o,es,ep,e,hd,_⟩:=hgs;rw [q,e] at bb;cases bb.1;rw [hd] at b6;cases b6
 have BA:s.heap.BuiltinsAt X.mg P:=⟨bm,ob,b1,b2,hbG,hbP,bb.1,b4,b5,b6⟩;have away: ∀f,s.heap.objs.size<=f->(∀x d,X.env.cells.lookup x=some d->d≠f)/\f≠X.env.locals/\f ∉ X.fs:=λf hf=>⟨λx d e z=>by
  obtain⟨v,o,ho,_⟩:=I.cell x d e;exact absurd (D6 (P5 ho) (z ▸ hf)) (M5 _),λz=>absurd (D6 I.lt (z ▸ hf)) (M5 _),I.nofs hf⟩
 refine kla_eval rfl ?_;cases hf:codeAmong pos ps.toList with
 |none=>
  refine kla_makeFunction (mg:=X.mg) hcl I.ok.glob hgs hcode C hPg hps.1 hf hgP BA λc' ctv h' tk hx hge hlt hrec htb=> ?_
  have hP':P<s.heap.objs.size:=P5 hPg;have hcP:c'≠P:=O9 (D6 hP' hge);have hcn:H c'=none:=I.hok.fresh hge;obtain⟨c₂,oc,vs,t,e2,hoc,hd,hv⟩:=hrec;cases e2;have szle:s.heap.objs.size<=h'.objs.size:=D5 (C8 hge hlt);have kp: ∀ (o2:Obj) b o,b≠P->s.heap.get? b=some o->(h'.push o2).get? b=some o:=λo2 b o nb e=>G3 _ (hx b o nb e)
  have hnP: ∀b u,H b=some u->(∀ps',u≠ .tbl ps')->b≠P:=λb u e n z=>by rw [z,hP] at e;cases e;exact n _ rfl
  have look: ∀b,b≠P->b≠c'->upd (upd H c' (.frz oc (.own 0))) P (.tbl (ps++ #[rawInt pos.line,rawInt pos.col,.ref c'])) b=H b:=λb n1 n2=>by rw [jh n1,jh n2]
  have ncs: ∀b u,H b=some u->b≠c':=λb u e z=>by rw [z,hcn] at e;cases e
  have frzs: ∀b o u,H b=some (.frz o u)->upd (upd H c' (.frz oc (.own 0))) P (.tbl (ps++ #[rawInt pos.line,rawInt pos.col,.ref c'])) b=some (.frz o u):=λb o u e=>by
   rw [look b (hnP b _ e (by intro _ z;cases z)) (ncs b _ e)];exact e
  refine k h'.objs.size (X.env.qual++ "<lambda>") (X.env.qual++ "<lambda>") _ (.ref c') ctv (upd (upd H c' (.frz oc (.own 0))) P (.tbl (ps++ #[rawInt pos.line,rawInt pos.col,.ref c']))) _ tk ?_ ?_ ?_ ?_ ?_ (D9 _ rfl) ⟨c',oc,vs,t,rfl,by rw [jh hcP,jl],hd,hv⟩ ?_ (away _ szle).1 (away _ szle).2.1 (away _ szle).2.2
  ·refine I.un (t':=tk) ⟨λb o e n hb hx'=>kp _ b o (λz=>by rw [z,hP] at n;cases n) e,λb o e n hb hx'=>⟨o.slots,kp _ b o (λz=>by rw [z,hP] at n;cases n) e⟩,λb o e n hx'=> ?_,λb o e hx'=> ?_,λb xs e=> ?_,frzs,λb ps' e=> ?_⟩ λa o e=> ?_
   ·rw [look b (λz=>by rw [z,hP] at n;cases n) (R6 (D6 (P5 e) hge))];exact n
   ·by_cases z:b=P
    ·rw [z];exact⟨_,G3 _ htb⟩
    ·exact⟨_,kp _ b o z e⟩
   ·rw [look b (hnP b _ e (by intro _ z;cases z)) (ncs b _ e)];exact e
   ·by_cases z:b=P
    ·subst z;rw [hP] at e;cases e;exact⟨_,jl⟩
    ·exact⟨#[],by rw [look b z (ncs b _ e),e];simp⟩
   ·by_cases z:a=P
    ·subst z;rw [jl] at e;cases e;exact G3 _ htb
    ·rw [jh z] at e
     by_cases z2:a=c'
     ·subst z2;rw [jl] at e;cases e;exact⟨G3 _ hoc,⟨oc,G3 _ hoc⟩⟩
     ·rw [jh z2] at e;refine(I.hok a o e).stay (λb u hb q=> ?_) (λb q=> ?_) λb xs q=> ?_
      ·rcases hb with rfl|hb
       ·exact kp _ b u z q
       ·exact kp _ b u (hnP b _ hb (by intro _ z;cases z)) q
      ·rw [look b (hnP b _ q (by intro _ z;cases z)) (ncs b _ q)];exact q
      ·rw [look b (hnP b _ q (by intro _ z;cases z)) (ncs b _ q)];exact q
  ·refine⟨λa xs e=> ?_,λa xs e=>⟨xs,?_⟩,λa kk i e=> ?_,frzs⟩<;>(rw [look a (hnP a _ e (by intro _ z;cases z)) (ncs a _ e)];exact e)
  ·intro a o e n;rw [look a (hnP a _ e n) (ncs a _ e)];exact e
  ·intro a ps' e n;rw [look a n (ncs a _ e)];exact e
  ·refine⟨_,jl,?_,λp cv e=> ?_⟩
   ·simp only [T4];exact Ua _ hps.1
   ·simp only [T4] at e;rcases Gn ps.toList hps.1 e with e|e
    ·obtain⟨c1,o,vs',q',t',e1,e2,r⟩:=hps.2 p cv e;exact⟨c1,o,vs',q',t',e1,frzs _ _ _ e2,r⟩
    ·exact⟨c',oc,vs,_,t,e,by rw [jh hcP,jl],hd,hv⟩
  ·have:H h'.objs.size=none:=I.hok.fresh szle;rw [look _ (O9 (D6 hP' szle)) (O9 hlt)];exact this
 |some cv=>
  obtain⟨c1,o,vs,q,t,rfl,e2,hd,hv⟩:=hps.2 pos cv hf;obtain⟨ho,_⟩:=I.hok c1 _ e2;refine kla_makeFunctionHit (mg:=X.mg) hcl I.ok.glob hgs hcode C hPg hps.1 hf BA λctv h' tk hk hsz=> ?_
  exact k h'.objs.size q (X.env.qual++ "<lambda>") _ (.ref c1) ctv H _ tk (I.kept (t':=tk) λb u e=>G3 _ (hk b u e)) (.refl H) (λ_ _ e _=>e) (λ_ _ e _=>e) ⟨ps,hP,hps⟩ (D9 _ rfl) ⟨c1,o,vs,t,rfl,e2,hd,hv⟩
   (I.hok.fresh hsz) (away _ hsz).1 (away _ hsz).2.1 (away _ hsz).2.2
end
structure Cap (N:List Str)(σ:St)(sc:Scope)(cl:List (Str×Addr))(h:Heap)(H:Hp):Prop where
 len:σ.length=N.length
 inj: ∀x y c,cl.lookup x=some c->cl.lookup y=some c->x=y
 has: ∀x,sc.names.lookup x=some .free-> ∃c,cl.lookup x=some c
 cell: ∀x c,cl.lookup x=some c->(∃v,h.IsCell c v)/\H c=none
 loc: ∀ (i:Nat) (x:Str) (v:V),N[i]? =some x->σ[i]? =some (some v)->sc.names.lookup x=some .free-> ∃u c,RelV v u/\cl.lookup x=some c/\h.IsCell c (some u)
theorem wn {α β:Type}[BEq α][LawfulBEq α]: ∀ {l:List (α×β)} {x:α} {y:β},l.lookup x=some y->(x,y)∈l
 | [],_,_,h=>by cases h
 |(a,b)::r,x,y,h=>by
  rw [N2] at h
  by_cases q:(x==a)=true
  ·rw [q] at h;cases h;rw [eq_of_beq q];exact .head _
  ·simp only [q] at h;exact .tail _ (wn h)
def DP (sc:Scope)(env:Env):Prop:= ∀n,(n,NameKind.free)∈sc.names->env.kindOf n=some .cell\/env.kindOf n=some .free
variable {σ:St}{s:Shared}
theorem Cap.of {X:Cx}{pins:List (Addr×Obj)}{sc:Scope}(I:Inv X pins σ H s)(hf:DP sc X.env):Cap X.N σ sc (Zr X.env.cells sc.names []) s.heap H where
 len:=I.len
 inj:=λx y c h1 h2=>I.ok.inj x y c (wR _ _ (λ_ _ z=>by cases z) _ _ h1) (wR _ _ (λ_ _ z=>by cases z) _ _ h2)
 has:=λx h=>Wg _ _ _ (.inl ⟨wn h,I.ok.has x (hf x (wn h))⟩)
 cell:=λx c h=>⟨I.cell x c (wR _ _ (λ_ _ z=>by cases z) _ _ h),I.freeC x c (wR _ _ (λ_ _ z=>by cases z) _ _ h)⟩
 loc:=λi x v h1 h2 h3=>by
  obtain⟨m,hn,hl⟩:=I.loc;have hk:=hf x (wn h3);obtain⟨u,r,l⟩:=hl i x v h1 h2 (.inr hk);obtain⟨c,hc⟩:=Wg (cells:=X.env.cells) sc.names [] x (.inl ⟨wn h3,I.ok.has x hk⟩);refine⟨u,c,r,hc,?_⟩;have hc':=wR _ _ (λ_ _ z=>by cases z) _ _ hc;rcases l with ⟨k,_⟩|⟨_,c2,e,z⟩
  ·rcases hk with k2|k2<;>(rw [k] at k2;cases k2)
  ·rw [hc'] at e;cases e;exact z
variable {cl:List (Str×Addr)}
theorem Cap.step {N:List Str}{sc:Scope}{h h':Heap}{H':Hp}{fs:List Addr}(C:Cap N σ sc cl h H)(u:Un fs [] H H' h h'):Cap N σ sc cl h' H':=by
 have k: ∀x c v,cl.lookup x=some c->h.IsCell c v->h'.IsCell c v:=λx c v e ⟨o,ho,hd⟩=>by
  obtain⟨sl,q⟩:=u.any ho (C.cell x c e).2 (by simp);exact⟨_,q,hd⟩
 exact⟨C.len,C.inj,C.has,λx c e=>by
  obtain⟨⟨v,z⟩,n⟩:=C.cell x c e;obtain⟨o,ho,_⟩:=id z;exact⟨⟨v,k x c v e z⟩,u.free c o ho n (by simp)⟩,λi x v h1 h2 h3=>let ⟨uu,c,r,e,z⟩:=C.loc i x v h1 h2 h3;⟨uu,c,r,e,k x c _ e z⟩⟩
def cxL (CX:CXT)(P:Program)(w:World)(K:PySem.W.Frag)(mg:Str->Option Value)(base:Heap)(N:List Str)(q:Str)(scope:Scope)(f:Addr)(cd:Value)(cl:List (Str×Addr))(A:Around)(outer:List Env)(s:Shared)(H:Hp)(E:XK):Cx where
 prog:=P
 w:=w
 K:=K
 mg:=mg
 base:=base
 A:=A.deeper (envX q scope s.heap.objs.size f cd cl)
 N:=N
 s₀:=s
 H₀:=H
 env:=envX q scope s.heap.objs.size f cd cl
 outer:=outer
 stack:=envX q scope s.heap.objs.size f cd cl::outer
 ex:= []
 calm:=true
 fn:=λ_=>false
 pn:= []
 xe:=λe s'=>wpAny (model P w) (A.deeper (envX q scope s.heap.objs.size f cd cl)) (leaving (envX q scope s.heap.objs.size f cd cl) e) (λ_ s''=>CX outer H s E e s'') (λe' s''=>CX outer H s E e' s'') s'
variable {mg:Str->Option Value}{base:Heap}
theorem Fh {CX:CXT}{P:Program}{K:PySem.W.Frag}{N:List Str}{f:Addr}{cd:Value}{A:Around}{outer:List Env}{E:XK}{h₁:Heap}{tk:Tok}
 (L:LamOk scope)(hd:A.handled=none)(e0:Env0 P w K mg base A outer s H)(C:Cap N σ scope cl s.heap H)(hns:h₁.Ns s.heap.objs.size (λ_=>none))(hk: ∀b o,s.heap.get? b=some o->h₁.get? b=some o):
 Inv (cxL CX P w K mg base N q scope f cd cl A outer s H E) [] σ H {s with heap:=h₁,toks:=tk}:=by
 have noA: ∀b:Addr,b ∉ (cxL CX P w K mg base N q scope f cd cl A outer s H E).ex:=λb z=>absurd (show b∈([]:List Addr) from z) (by simp)
 have nofr: ∀y,scope.names.lookup y=some .cell\/scope.names.lookup y=some .free->scope.names.lookup y=some .free:=λy hy=>hy.elim (λz=>absurd rfl (L.nocell _ (wn z)).1) id
 refine⟨⟨e0.mod,L.kind,rfl,rfl,G8 _,λy z c h1 h2=>C.inj y z c h1 h2,λy hy=>C.has y (nofr y hy),λy c z=>(by cases z),λ_=>hd,Z0 e0.frames,.inr ⟨rfl,rfl⟩,λb z=>absurd z (noA b),e0.bs,e0.bsz,λb _ _=>noA b,λb z=>absurd z (noA b),e0.funs,e0.frf⟩,
  rfl,e0.bare,Un.kept hk,⟨_,hns,λi y v h1 h2 h3=> ?_⟩,λy c h=> ?_,e0.hok.fresh (G8 _),λy c h=>(C.cell y c h).2,λp hp=>absurd (show p∈([]:List (Addr×Obj)) from hp) (by simp),e0.hok.kept hk,C.len⟩
 ·have h3':scope.names.lookup y=some .free:=by
   rcases h3 with z|z
   ·exact absurd rfl (L.nocell _ (wn z)).2
   ·exact nofr y z
  obtain⟨u,c,r,e,o,ho,hd'⟩:=C.loc i y v h1 h2 h3';exact⟨u,r,.inr ⟨.inr h3',c,e,o,hk _ _ ho,hd'⟩⟩
 ·obtain⟨⟨v,o,ho,hd'⟩,_⟩:=C.cell y c h;exact⟨v,o,hk _ _ ho,hd'⟩
theorem DQ {prog:Program}{A:Around}{R:Result->Shared->Prop}{f:Addr}{o:Obj}{qual:Str}{body:Expr}{pm cd ctv:Value}(L:LamOk scope)(deep:A.depth<recursionLimit)
 (there:s.heap.get? f=some o)(lam:o.data= .func (kla_fn "<lambda>" qual WQ body scope cl pm cd ctv))(named:s.heap.CodeRec cd q)(lim:s.heap.NoLimit)
 (go: ∀h₁,h₁.Ns s.heap.objs.size (λ_=>none)->(∀b o,s.heap.get? b=some o->h₁.get? b=some o)->
  codeAny (model prog w) A (.expr body (envX q scope s.heap.objs.size f cd cl)) R {s with heap:=h₁,toks:=s.toks+0}):
 codeAny (model prog w) A (.call (.ref f) ⟨[],[]⟩) R s:=by
 obtain⟨c,oc,vs,t,rfl,hoc,hdc,hq⟩:=named;obtain⟨h,g,d,tk,os⟩:=s;have frame:=λ{A':Around} {Q:Env->Shared->Prop} {E:Value->Shared->Prop} (k: ∀h₁,_->_->Q _ _)=>wpAny_newFunctionEnv (M:=model prog w) (A:=A') (s:=⟨h,g,d,tk,os⟩) (E:=E) (scope:=scope) (globals:=mainGlobals) (closure:=cl) (binds:= []) (qual:=q++ ".<locals>.") (func:=some f) (code:= .ref c) (around:=none) (builtins:=builtinsNs) (Q:=Q) (λx hx=>(L.nocell x hx).1) (λx hx=>nomatch hx) k L.kind
 refine codeAny_of_tree ?_;show wpAny _ A.in1 (callAny (.ref f) ⟨[],[]⟩) _ _ _
 wp_walk using wpAny_load there
 rw [lam];have nothing:bindArgs (kla_fn "<lambda>" qual WQ body scope cl pm (.ref c) ctv) ⟨[],[]⟩=pure []:=rfl;show wpAny _ _ (callFunction f (kla_fn "<lambda>" qual WQ body scope cl pm (.ref c) ctv) ⟨[],[]⟩) _ _ _;unfold callFunction;rw [nothing];show wpAny _ _ (field (.ref c) 1 >>= _) _ _ _;refine wpAny_bind (G1a hoc hdc hq ?_)
 repeat refine wpAny_bind (P4 ?_)
 refine wpAny_bind (frame λh₁ empty same=>wpAny_bind (wpAny_enterFrame (lim.fresh _ same) deep ?_));simp only [kla_fn,L.co,L.gen];exact P4 ⟨rfl,go h₁ empty λb o old=>same.extBut _ _ (λz=>absurd (P5 old) (by rw [z];exact M5 _)) (G3 _ old)⟩
theorem Fi {CX:CXT}{P:Program}{K:PySem.W.Frag}{N:List Str}{qual:Str}{f:Addr}{cd pm ctv:Value}{A:Around}{outer:List Env}{E:XK}{o:Obj}{body:Expr}{t:TE}{Q:VK}{k:Nat}
 (L:LamOk scope)(hr:Room (k+1) A)(e0:Env0 P w K mg base A outer s H)(C:Cap N σ scope cl s.heap H)(ho:s.heap.get? f=some o)(hd:o.data= .func (kla_fn "<lambda>" qual WQ body scope cl pm cd ctv))(hc:CodeF H cd q)
 (hb:PE (cxL CX P w K mg base N q scope f cd cl A outer s H E) body t)(ht:t σ H Q):codeAny (model P w) A (.call (.ref f) ⟨[],[]⟩) (CR CX outer P w H s Q E) s:=by
 have lim:s.heap.NoLimit:=e0.mod.nolimit.keeps λb o e=>(e0.bs b o e).1
 refine DQ L hr.depth ho hd (hc.rec e0.hok) lim λh₁ hns hk₁=> ?_
 have I:=Fh (CX:=CX) (q:=q) (f:=f) (cd:=cd) (E:=E) (tk:=s.toks+0) L hr.hd e0 C hns hk₁;refine kla_codeExpr (R5 (hb [] _ σ H Q I ht) (λv s' hs=> ?_) λ_ _ y=>y);obtain⟨v',H',J,rv,q'⟩:=hs;exact⟨v',H',J.os,J.bare,J.base,J.hok,rv,q'⟩
abbrev TXD:=SD->HD->(Str->HD->Prop)->Prop
def WX (X:Cx)(E:XK)(H:Hp)(R:Str->HD->Prop):Prop:= ∀c C h' H',Kept H H'->RelH X.K h' H'->X.mg c=some (.ref C)->R c h'->E (.ref C) none H'
theorem WX.mono {X:Cx}{E:XK}{H':Hp}{R:Str->HD->Prop}(w:WX X E H R)(k:Kept H H'):WX X E H' R:=λc C h2 H2 k2=>w c C h2 H2 (k.trans k2)
structure JX (X:Cx)(sts:List Stmt)(t:TXD):Prop where
 to: ∀ (E:XK),Rz X E-> ∀ (pins:List (Addr×Obj)) (s:Shared) (σ:St) (H:Hp) (σd:SD) (h:HD) (R:Str->HD->Prop),Inv X pins σ H s->RelS X.K H σd σ->RelH X.K h H->t σd h R->WX X E H R->
  wpAny (model X.prog X.w) X.A (execs sts X.env) (λ_ _=>False) X.xe s
structure JXE (X:Cx)(e:Expr)(t:TXD):Prop where
 to: ∀ (E:XK),Rz X E-> ∀ (pins:List (Addr×Obj)) (s:Shared) (σ:St) (H:Hp) (σd:SD) (h:HD) (R:Str->HD->Prop),Inv X pins σ H s->RelS X.K H σd σ->RelH X.K h H->t σd h R->WX X E H R->
  wpAny (model X.prog X.w) X.A (eval e X.env) (λ_ _=>False) X.xe s
def xIf (t:TTD)(u:TXD):TXD:=λσ h R=>t σ h λk h'=>k=true/\u σ h' R
def xRz (c:Str):TXD:=λ_ h R=>R c h
abbrev RDx:=List D->HD->(Str->HD->Prop)->Prop
def Au (spr:RDx)(t:TAD):TXD:=λσ h R=>t σ h λds h1=>spr ds h1 R
def MX (mg:Str->Option Value)(K:PySem.W.Frag)(spr:RDx):Sp:=λvs H _ E=> ∃ds h R,RelDs K H ds vs/\RelH K h H/\spr ds h R/\ ∀c C h' H',Kept H H'->RelH K h' H'->mg c=some (.ref C)->R c h'->E (.ref C) none H'
def bmV:List Value:= [.type "ValueError",.type "Exception",.type "BaseException",.type "object"]
theorem MY {K:Frag}(P:Program)(M:Mod K mg base): ∃loose mb,TopRead P loose mg mb base:=by
 obtain⟨mb,laid,boot⟩:=M.blt;obtain⟨o,es,ep,at_,isd,texts,finds⟩:=id M.glob;refine⟨es.toList.filterMap λe=>match e.key with| .str n _=>some n|_=>none,mb,M.glob,laid,M.nolimit,boot,λx _ out _ _ _=> ?_⟩;rw [<-finds x];cases hit:nsFind es x with
 |none=>rfl
 |some v=>
  refine absurd ?_ out;unfold nsFind findBy at hit;obtain⟨e,hf,_⟩:=M6.mp hit;have isx:e.key.isStr x=true:=Array.find?_some (p:=λ(e:DictEntry)=>e.key.isStr x) hf;have mem:=Array.mem_of_find?_eq_some hf;obtain⟨n,t,ek⟩:=texts e mem;rw [ek] at isx;have nx:n=x:=by simpa [Value.isStr] using isx
  exact K6.mpr ⟨e,by simpa using mem,by rw [ek,nx]⟩
def OwnX (K:PySem.W.Frag)(mg:Str->Option Value)(c:Str):Prop:= ∃C,mg c=some (.ref C)/\nsIn K mainGlobals c=some (some (.ref C))/\excIn K C bmV "ValueError.__new__" =true
theorem OwnX.at {K:Frag}{h:Heap}{c:Str}(P:Program)(O:OwnX K mg c)(M:Mod K mg base)(kept: ∀b o,base.get? b=some o->h.get? b=some o): ∃C,mg c=some (.ref C)/\OwnCls c C bmV "ValueError.__new__" mg h:=
 let ⟨C,hm,hn,hx⟩:=O
 let ⟨_,_,T⟩:=MY P M
 ⟨C,hm,(own_of_in M.kin T hn hx).keeps kept⟩
section
variable {X:Cx}{c:Expr}{e:Expr}{es:List Expr}{st:Stmt}{a b rest:List Stmt}{t:TSD}{tt:TTD}{u:TXD}{ta:TAD}{pos p:Pos}
theorem SW (hc:JT X c tt)(ha:JX X a u):JX X (.If c a b pos::rest) (xIf tt u):=⟨λE Z pins s σ H σd h R I rs rh ht w=>by
 refine O5 (R5 (wpAny_If (Q:=λ_ _=>False) (thn (hc.to pins s σ H (λk H'=>k=true/\ ∃h',Kept H H'/\RelS X.K H' σd σ/\RelH X.K h' H'/\u σd h' R) I
  ⟨σd,h,_,rs,rh,ht,λk h' H' kp rh' q=>⟨q.1,h',kp,rs.mono kp,rh',q.2⟩⟩) λd s1 q=> ?_)) (λ_ _ z=>z.elim) λ_ _ z=>z)
 obtain⟨H',I',rfl,h',kp,rs',rh',q⟩:=q;exact ha.to E Z pins s1 σ H' σd h' R I' rs' rh' q (w.mono kp)⟩
theorem Fj (he:JXE X e u)(hs:swapsWith e none pos.line X.env=pure false:=by rfl):JX X (.Expr e pos::rest) u:=⟨λE Z pins s σ H σd h R I rs rh ht w=>
 O5 (wpAny_Expr_any (R5 (he.to E Z pins s σ H σd h R I rs rh ht w) (λ_ _ z=>z.elim) λ_ _ z=>z) I.quiet hs)⟩
theorem MZ {x:Str}{np cpos p2:Pos}{m:Str}{j:Nat}(hg:Gl X x)(O:OwnX X.K X.mg x)(hcalm:X.calm=true)(hd:(x==("__debug__" :Str))=false:=by decide)
 (he:starEach [Expr.Constant (.str m) j p2] X.env=(false,eval (.Constant (.str m) j p2) X.env)::starEach [] X.env:=by rfl):
 JX X (.Raise (some (.Call (.Name x np) [.Constant (.str m) j p2] [] cpos)) none pos::rest) (xRz x):=⟨λE Z pins s σ H σd h R I rs rh ht w=>by
 obtain⟨C,hm,own⟩:=O.at X.prog I.mod I.bk;refine O5 (R5 (?_:wpAny _ _ _ (λ_ _=>False) _ _) (λ_ _ z=>z.elim) λ_ _ z=>z);obtain⟨_,_,_,_,_,_,_,_,_,_,_,_,_,_,_,_,_,isC,laid,noInit,tail⟩:=own.obj;refine' wpAny_Raise_call_subT PySem.F.excBase_ValueError (tail.hasType PySem.F.excBase_ValueError.hasBase) (I.ok.hd hcalm) (by rw [he];rfl) noInit (Jy I hg hm ⟨rfl,?_⟩ hd)
 rotate_right 1
 rw [he];refine Z4 (K7 (PySem.Calls.Constant_str (k:=j) (pos:=p2) (X2 ⟨rfl,(by show 1<=sizeLine;decide),isC,laid,tail,λh' e hme=> ?_⟩)));refine Z.xe _ _ (Gm (s:= {s with toks:=s.toks+1}) (I.tok _) Z hme λh2 un hok fl=> ?_);exact⟨e,C,H,rfl,I.os,I.bare,un,hok,fl,w x C h H (.refl H) rh hm ht⟩⟩
theorem Fk {k:Nat}{f:Addr}{fd:FuncData}{ps:List Str}{spr:RDx}{x:Str}(F:FnOk X.prog X.w X.K X.mg X.base (CXR X.prog X.w) k f fd ps (MX X.mg X.K spr))(hr:Room k X.A)(hg:Gl X x)(hm:X.mg x=some (.ref f))(hk:PySem.W.keepIn X.K (.ref f)=true)(hb:Binds X.K fd ps [])
 (ha:JA X (e::es) ta)(hdb:(x==("__debug__" :Str))=false:=by decide)(he:starEach (e::es) X.env=(false,eval e X.env)::starEach es X.env:=by rfl)(hpl:(backTo pos (starEach es X.env)).any (·.1)=false:=by rfl):
 JXE X (.Call (.Name x p) (e::es) [] pos) (Au spr ta):=⟨λE Z pins s σ H σd h R I rs rh ht w=>by
 refine thn (Pk F hr hg hm hk hb .nil (SV Z) ha.to hdb he hpl pins s σ H (λ_ _=>False) I
  ⟨σd,h,_,rs,rh,ht,λds vs h' H' kp rh' r q=>by show MX X.mg X.K spr (vs++ []) H' (λ_ _=>False) E;rw [B1];exact⟨ds,h',R,r,rh',q,λc C h2 H2 k2=>w c C h2 H2 (kp.trans k2)⟩⟩) λ_ _ ⟨_,_,_,_,z⟩=>z⟩
end
section
variable {P:Program}{w:World}{K:PySem.W.Frag}{mg:Str->Option Value}{base:Heap}
theorem Fl {N:List Str}{qual:Str}{scope:Scope}{f:Addr}{cd:Value}{A:Around}{outer:List Env}{s:Shared}{H:Hp}{E:XK}:Rz (WL (CXR P w) P w K mg base N qual scope f cd A outer s H E) E:=⟨⟨rfl,rfl,rfl⟩,λ_ _ h=>h⟩
theorem Av {N:List Str}{q:Str}{scope:Scope}{f:Addr}{cd:Value}{cl:List (Str×Addr)}{A:Around}{outer:List Env}{s:Shared}{H:Hp}{E:XK}:Rz (cxL (CXR P w) P w K mg base N q scope f cd cl A outer s H E) E:=⟨⟨rfl,rfl,rfl⟩,λ_ _ h=>h⟩
theorem Fun.okX {x qual:Str}{st:Stmt}{f:Addr}{fd:FuncData}{N ps:List Str}{k:Nat}{spr:RDx}(F:Fun K x qual st f fd)(S:FnScope N ps (jc st))(len: ∀ds h R,spr ds h R->ds.length=ps.length)
 (tb:TXD)(hbody: ∀ (cdv:Value) (A:Around) (outer:List Env) (s:Shared) (H:Hp) (E:XK),Room k (A.deeper (envOfC qual (jc st) s.heap.objs.size f cdv))->JX (WL (CXR P w) P w K mg base N qual (jc st) f cdv A outer s H E) (jL st) tb)
 (read: ∀ds h R,spr ds h R->tb (jQ N ds) h R):FnOk P w K mg base (CXR P w) (k+1) f fd ps (MX mg K spr):=by
 obtain⟨oc,od,kV,doc,pm,an,cdv,ct,osl,rfl,lk,hcd⟩:=F.ex;refine BO lk hcd S (λvs H Q E h=> ?_) λA outer s H vs Q E hr hsp=> ?_
 ·obtain⟨ds,h,R,r,rh,q,p⟩:=h;rw [<-r.length];exact len _ _ _ q
 ·obtain⟨ds,h,R,r,rh,q,p⟩:=hsp;refine⟨λ_ σ H'=>σ=start N vs/\H'=H,λpins s' σ H' D I ⟨e1,e2⟩=> ?_,rfl,rfl⟩;subst e1;subst e2;exact R5 ((hbody cdv A outer s H' E hr).to E Fl pins s' _ H' (jQ N ds) h R I (va r) rh (read ds h R q) p) (λ_ _ z=>z.elim) λ_ _ z=>z
end
def Wh (P:Program)(w:World)(K:PySem.W.Frag)(mg:Str->Option Value)(base:Heap)(n:Nat)(x:Str)(ps:List Str)(spr:RDx):Prop:=
 ∃ (g:Addr) (gd:FuncData),FnOk P w K mg base (CXR P w) n g gd ps (MX mg K spr)/\Binds K gd ps []/\PySem.W.keepIn K (.ref g)=true/\mg x=some (.ref g)
end L2
namespace L2
open PySem PySem.Spec PyProof.Rows
structure RoomU (k:Nat)(A:Around):Prop where
 dp:A.depth+3*k+5<recursionLimit
 un:A.units+16*k+200<cLine
 gd:A.guards=some []
variable {k:Nat}{A:Around}
theorem Room.u (r:Room k A):RoomU k A:=⟨r.dp,r.un,r.gd⟩
theorem RoomU.deeper (r:RoomU (k+1) A)(env:Env):RoomU k (A.deeper env):=
 ⟨by have:=r.dp;show A.depth+1+3*k+5<_;omega,by have:=r.un;show A.units+3+16*k+200<_;omega,r.gd⟩
theorem RoomU.depth (r:RoomU k A):A.depth<recursionLimit:=by have:=r.dp;omega
theorem RoomU.units (r:RoomU k A):A.units+64<cLine:=by have:=r.un;omega
structure FnOkU (P:Program)(w:World)(K:PySem.W.Frag)(mg:Str->Option Value)(base:Heap)(CX:CXT)(k:Nat)(f:Addr)(fd:FuncData)(ps:List Str)(sp:Sp):Prop where
 len: ∀vs H Q E,sp vs H Q E->vs.length=ps.length
 run: ∀ (A:Around) (outer:List Env) (s:Shared) (H:Hp) (args:Args) (us:List Value) (vs:List V) (Q:VK) (E:XK),RoomU k A->Env0 P w K mg base A outer s H->BindsTo s fd args (ps.zip us)->Vals vs us->sp vs H Q E->
  codeAny (model P w) A (.call (.ref f) args) (CR CX outer P w H s Q E) s
section
variable {X:Cx}{CX:CXT}{k:Nat}{f C:Addr}{fd:FuncData}{ps:List Str}{sp:Sp}{dvs:List V}{ds:List Value}{E:XK}{x m:Str}{p pos apos:Pos}{e o:Expr}{es:List Expr}{ta:TE}{t:TA}
theorem Fm {pins:List (Addr×Obj)}{σ:St}{H:Hp}{s:Shared}{Q:VK}{us:List Value}{vs:List V}(F:FnOkU X.prog X.w X.K X.mg X.base CX k f fd ps sp)(hr:RoomU k X.A)(hb:Binds X.K fd ps ds)(hd:Vals dvs ds)(hx:ZL CX X E)
 (I:Inv X pins σ H s)(r:Vals vs us)(h:sp (vs++dvs) H Q E):wpAny (model X.prog X.w) X.A (call (.ref f) us) (EP X pins σ Q) X.xe s:=by
 have r2:Vals (vs++dvs) (us++ds):=r.append hd;have hl:(us++ds).length=ps.length:=by rw [<-r2.length];exact F.len _ _ _ _ h
 refine G0v (Y2 (F.run X.A X.stack s H ⟨us,[]⟩ (us++ds) (vs++dvs) Q E hr I.env0 (hb s us I.kIn hl) r2 h) λr s' hq=> ?_);cases r with
 |error e=>exact hx pins σ H s e s' I hq
 |ok fl=>
  cases fl with
  |ret u=>exact I.after hq
  |next=>exact False.elim hq
  |brk=>exact False.elim hq
  |cont=>exact False.elim hq
theorem Na (F:FnOkU X.prog X.w X.K X.mg X.base CX k f fd ps sp)(hr:RoomU k X.A)(hg:Gl X x)(hm:X.mg x=some (.ref f))(hk:PySem.W.keepIn X.K (.ref f)=true)(hb:Binds X.K fd ps ds)(hd:Vals dvs ds)(hx:ZL CX X E)
 (ha:PA X (e::es) t)(hdb:(x==("__debug__" :Str))=false:=by decide)(he:starEach (e::es) X.env=(false,eval e X.env)::starEach es X.env:=by rfl)(hpl:(backTo pos (starEach es X.env)).any (·.1)=false:=by rfl):
 PE X (.Call (.Name x p) (e::es) [] pos) (BN sp dvs E t):=by
 intro pins s σ H Q I h;refine E6 (Jy I hg hm ?_ hdb);refine G0o (h₀:=X.base) I.ok.mod.kin hk (thn (ha pos pins s σ H _ I h) λus s1 ⟨vs,H1,I1,r,q⟩=>⟨I1.kIn,?_⟩) he hpl;exact Fm F hr hb hd hx I1 r q
end
def Ub (CX:CXT)(P:Program)(w:World)(K:PySem.W.Frag)(mg:Str->Option Value)(base:Heap)(N:List Str)(qual:Str)(scope:Scope)(f:Addr)(cd:Value)(A:Around)(outer:List Env)(s:Shared)(H:Hp)(E:XK):Cx where
 prog:=P
 w:=w
 K:=K
 mg:=mg
 base:=base
 A:=A.deeper (envOfC qual scope s.heap.objs.size f cd)
 N:=N
 s₀:=s
 H₀:=H
 env:=envOfC qual scope s.heap.objs.size f cd
 outer:=outer
 stack:=envOfC qual scope s.heap.objs.size f cd::outer
 ex:= []
 calm:=false
 fn:=λ_=>true
 pn:= []
 xe:=λe s'=>wpAny (model P w) (A.deeper (envOfC qual scope s.heap.objs.size f cd)) (leaving (envOfC qual scope s.heap.objs.size f cd) e) (λ_ s''=>CX outer H s E e s'') (λe' s''=>CX outer H s E e' s'') s'
variable {mg:Str->Option Value}{base:Heap}{qual:Str}{scope:Scope}
theorem Go {CX:CXT}{P:Program}{w:World}{K:PySem.W.Frag}{N ps:List Str}{f:Addr}{cd:Value}{outer:List Env}{s s1:Shared}{H:Hp}{E:XK}{us:List Value}{vs:List V}
 (S:FnScope N ps scope)(e0:Env0 P w K mg base A outer s H)(hl:vs.length=ps.length)(r:Vals vs us)
 (x:InCallC s s.heap.objs.size (bindL (envOfC qual scope s.heap.objs.size f cd).kindOf (ps.zip us) λ_=>none) (cellsFrom (s.heap.objs.size+1) scope.names []) (bindC (envOfC qual scope s.heap.objs.size f cd).kindOf (ps.zip us) λ_=>none) s1):
 Inv (Ub CX P w K mg base N qual scope f cd A outer s H E) [] (start N vs) H s1:=by
 have hpl:ps.length<=N.length:=by have:=congrArg List.length S.pre;rw [R3] at this;omega
 obtain⟨h1,tk,rfl,hk⟩:=x.done;have noA: ∀b:Addr,b ∉ (Ub CX P w K mg base N qual scope f cd A outer s H E).ex:=λb z=>absurd (show b∈([]:List Addr) from z) (by simp)
 refine⟨⟨e0.mod,S.kind,rfl,rfl,G8 _,λy z c h1 h2=> ?_,λy hy=> ?_,λy c _ h=> ?_,λz=>(by cases z),Z0 e0.frames,.inr ⟨rfl,rfl⟩,λb z=>absurd z (noA b),e0.bs,e0.bsz,λb _ _=>noA b,λb z=>absurd z (noA b),e0.funs,e0.frf⟩,
  rfl,e0.bare,Un.kept hk,⟨_,x.toInCall.ns,λi y v h1 h2 h3=> ?_⟩,λy c h=>⟨_,x.cell y c h⟩,e0.hok.fresh (G8 _),λy c h=> ?_,λp hp=>absurd (show p∈([]:List (Addr×Obj)) from hp) (by simp),e0.hok.kept hk,?_⟩
 ·exact name_of_addr x.apart (N6 h1) (N6 h2)
 ·have hy:scope.names.lookup y=some .cell\/scope.names.lookup y=some .free:=hy;rcases hy with hy|hy
  ·exact yX hy
  ·exact absurd rfl (S.nofree _ (N6 hy))
 ·exact D5 (x.above y c (N6 h))
 ·have hi:i<vs.length:=by
   unfold start at h2
   by_cases hi:i<vs.length
   ·exact hi
   ·rw [P3 (by simpa using hi)] at h2;rw [W1] at h2;split at h2<;>cases h2
  have ha:vs[i]? =some v:=by
   unfold start at h2;rw [D4 (by simpa using hi),D2] at h2;cases e:vs[i]? with
   |none=>rw [e] at h2;cases h2
   |some a=>rw [e] at h2;cases h2;rfl
  obtain⟨u,hu,rv⟩:=r.get ha;have hp:ps[i]? =some y:=by
   rw [<-S.pre,O4 (by omega)];exact h1
  have ndP:ps.Nodup:=by rw [<-S.pre];exact S.nd.sublist (A3 _ _)
  refine⟨u,rv,?_⟩;rcases S.par y (G7 hp) with k|k
  ·exact .inl ⟨k,ZM ndP hp hu k⟩
  ·obtain⟨c,e⟩:=yX (n:=s.heap.objs.size+1) k;refine .inr ⟨.inl k,c,e,?_⟩;have q:=x.cell y c e;rw [ZN ndP hp hu (by show scope.names.lookup y≠_;rw [k];decide)] at q;exact q
 ·exact e0.hok.fresh (D5 (x.above y c (N6 h)))
 ·unfold start;show _=N.length;rw [G6,G0,G0S];omega
theorem Aw {CX:CXT}{P:Program}{w:World}{K:PySem.W.Frag}{f:Addr}{name:Str}{params:Arguments}{body:List Stmt}{dV kV doc pm cdv ct oc:Value}{an od:Option Addr}{osl:Array (Option Value)}{N ps:List Str}{sp:Sp}(lk:K.lookup f=some ⟨oc,od,.func (PySem.W.fnOf name qual params body scope dV kV doc pm an cdv ct),osl⟩)(hcd:PySem.W.codeIn K cdv qual=true)(S:FnScope N ps scope)
 (len: ∀vs H Q E,sp vs H Q E->vs.length=ps.length)
 (hbody: ∀ (A:Around) (outer:List Env) (s:Shared) (H:Hp) (vs:List V) (Q:VK) (E:XK),RoomU k (A.deeper (envOfC qual scope s.heap.objs.size f cdv))->sp vs H Q E->
  ∃t,PSs (Ub CX P w K mg base N qual scope f cdv A outer s H E) body t/\t {nx:=λ_ H'=>Q .non H',rt:=Q} (start N vs) H):
 FnOkU P w K mg base CX (k+1) f (PySem.W.fnOf name qual params body scope dV kV doc pm an cdv ct) ps sp:=by
 refine⟨len,λA outer s H args us vs Q E hr e0 hb r hsp=> ?_⟩;have hl:=len _ _ _ _ hsp;have KX:K.In s.heap:=e0.mod.kin.keeps λb o e=>(e0.bs b o e).1
 have lim:s.heap.NoLimit:=e0.mod.nolimit.keeps λb o e=>(e0.bs b o e).1
 have hkind: ∀y∈ps.zip us,scope.names.lookup y.1=some .local\/(scope.names.lookup y.1=some .cell/\((cellsFrom (s.heap.objs.size+1) scope.names []).lookup y.1).isSome=true):=λ⟨n,v⟩ hy=>by
  rcases S.par n (W0 hy).1 with q|q
  ·exact .inl q
  ·exact .inr ⟨q,K5 _ _ _ (.inl q)⟩
 refine Y3 hr.depth (KX _ _ lk) rfl S.co S.gen rfl (G0p KX hcd) (hb _ _ _ _ ?_);refine U5 S.kind hkind λenv he s1 x=> ?_
 subst he;refine⟨lim.keeps x.toInCall.keep,codeAny_func ?_⟩;obtain⟨t,ht,hq⟩:=hbody A outer s H vs Q E (hr.deeper _) hsp;have I:Inv (Ub CX P w K mg base N qual scope f cdv A outer s H E) [] (start N vs) H s1:=Go S e0 hl r x;refine R5 (ht [] s1 (start N vs) H _ I hq) (λfl s' hs=> ?_) λe s' hs=>hs
 have fin: ∀ {σ':St} {H':Hp} {v:V} {u:Value},Inv (Ub CX P w K mg base N qual scope f cdv A outer s H E) [] σ' H' s'->RelV v u->Q v H'->CE outer P w H s Q u s':=
  λ{σ' H' v u} J rv q=>⟨v,H',J.os,J.bare,J.base,J.hok,rv,q⟩
 cases fl with
 |ret u=>
  obtain⟨v,σ',H',J,rv,q⟩:=hs;exact fin J rv q
 |next=>
  obtain⟨σ',H',J,q⟩:=hs;exact fin (v:=V.non) (u:=Value.none) J rfl q
 |brk=>
  obtain⟨_,_,_,q⟩:=hs;exact False.elim q
 |cont=>
  obtain⟨_,_,_,q⟩:=hs;exact False.elim q
section
variable {P:Program}{w:World}{K:PySem.W.Frag}{mg:Str->Option Value}{base:Heap}
variable {qual:Str}
theorem Fun.okU {x:Str}{st:Stmt}{f:Addr}{fd:FuncData}{N ps:List Str}{k:Nat}{sp:Sp}(F:Fun K x qual st f fd)(S:FnScope N ps (jc st))(len: ∀vs H Q E,sp vs H Q E->vs.length=ps.length)
 (hbody: ∀ (cdv:Value) (A:Around) (outer:List Env) (s:Shared) (H:Hp) (vs:List V) (Q:VK) (E:XK),RoomU k (A.deeper (envOfC qual (jc st) s.heap.objs.size f cdv))->sp vs H Q E->
  ∃t,PSs (Ub CX0 P w K mg base N qual (jc st) f cdv A outer s H E).nox (jL st) t/\t {nx:=λ_ H'=>Q .non H',rt:=Q} (start N vs) H):FnOkU P w K mg base CX0 (k+1) f fd ps sp:=by
 obtain⟨oc,od,kV,doc,pm,an,cdv,ct,osl,rfl,lk,hcd⟩:=F.ex;refine Aw lk hcd S len λA outer s H vs Q E hr hsp=> ?_
 obtain⟨t,h,q⟩:=hbody cdv A outer s H vs Q E hr hsp;exact⟨t,h.nox,q⟩
theorem Fun.okDU {x:Str}{st:Stmt}{f:Addr}{fd:FuncData}{N ps:List Str}{k:Nat}{spd:RDn}(F:Fun K x qual st f fd)(S:FnScope N ps (jc st))(len: ∀ds h Q,spd ds h Q->ds.length=ps.length)
 (tb:TSD)(hbody: ∀ (cdv:Value) (A:Around) (outer:List Env) (s:Shared) (H:Hp) (E:XK),RoomU k (A.deeper (envOfC qual (jc st) s.heap.objs.size f cdv))->QSs (Ub CX0 P w K mg base N qual (jc st) f cdv A outer s H E).nox (jL st) tb)
 (read: ∀ds h Q,spd ds h Q->tb (VM Q) (jQ N ds) h):FnOkU P w K mg base CX0 (k+1) f fd ps (LSp K spd):=by
 refine F.okU S (λvs H Q E h=> ?_) (λcdv A outer s H vs Q E hr h=> ?_)
 ·obtain⟨ds,h,Qd,r,rh,q,p⟩:=h;rw [<-r.length];exact len _ _ _ q
 ·obtain⟨ds,h,Qd,r,rh,q,p⟩:=h;refine⟨_,hbody cdv A outer s H E hr,jQ N ds,h,VM Qd,va r,rh,read ds h Qd q,λσd' h' σ' H' k rs' rh' ⟨h2,sb,q'⟩=>p .non .non h2 H' k (rh'.sub sb) rfl q',λd v h' H' k rh' r' ⟨h2,sb,q'⟩=>p d v h2 H' k (rh'.sub sb) r' q',λ_ _ _ _ _ _ _ z=>z.elim,λ_ _ _ _ _ _ _ z=>z.elim⟩
theorem Fun.okJU {x:Str}{st:Stmt}{f:Addr}{fd:FuncData}{N ps:List Str}{k:Nat}{spd:RDn}(F:Fun K x qual st f fd)(S:FnScope N ps (jc st))(len: ∀ds h Q,spd ds h Q->ds.length=ps.length)
 (tb:TSD)(hbody: ∀ (cdv:Value) (A:Around) (outer:List Env) (s:Shared) (H:Hp) (E:XK),RoomU k (A.deeper (envOfC qual (jc st) s.heap.objs.size f cdv))->JSs (Ub CX0 P w K mg base N qual (jc st) f cdv A outer s H E).nox (jL st) tb)
 (read: ∀ds h Q,spd ds h Q->tb (VM Q) (jQ N ds) h):FnOkU P w K mg base CX0 (k+1) f fd ps (LSp K spd):=F.okDU S len tb (λcdv A outer s H E hr=>(hbody cdv A outer s H E hr).to) read
end
structure FnOkS (P:Program)(w:World)(K:PySem.W.Frag)(mg:Str->Option Value)(base:Heap)(CX:CXT)(k:Nat)(f:Addr)(fd:FuncData)(ps:List Str)(sp:Shared->Sp):Prop where
 len: ∀s vs H Q E,sp s vs H Q E->vs.length=ps.length
 run: ∀ (A:Around) (outer:List Env) (s:Shared) (H:Hp) (args:Args) (us:List Value) (vs:List V) (Q:VK) (E:XK),Room k A->Env0 P w K mg base A outer s H->BindsTo s fd args (ps.zip us)->Vals vs us->sp s vs H Q E->
  codeAny (model P w) A (.call (.ref f) args) (CR CX outer P w H s Q E) s
section
variable {X:Cx}{CX:CXT}{k:Nat}{f C:Addr}{fd:FuncData}{ps:List Str}{sp:Sp}{dvs:List V}{ds:List Value}{E:XK}{x m:Str}{p pos apos:Pos}{e o:Expr}{es:List Expr}{ta:TE}{t:TA}
theorem Fn {pins:List (Addr×Obj)}{σ:St}{H:Hp}{s:Shared}{Q:VK}{us:List Value}{vs:List V}{sp:Shared->Sp}(F:FnOkS X.prog X.w X.K X.mg X.base CX k f fd ps sp)(hr:Room k X.A)(hb:Binds X.K fd ps ds)(hd:Vals dvs ds)(hx:ZL CX X E)
 (I:Inv X pins σ H s)(r:Vals vs us)(h:sp s (vs++dvs) H Q E):wpAny (model X.prog X.w) X.A (call (.ref f) us) (EP X pins σ Q) X.xe s:=by
 have r2:Vals (vs++dvs) (us++ds):=r.append hd;have hl:(us++ds).length=ps.length:=by rw [<-r2.length];exact F.len _ _ _ _ _ h
 refine G0v (Y2 (F.run X.A X.stack s H ⟨us,[]⟩ (us++ds) (vs++dvs) Q E hr I.env0 (hb s us I.kIn hl) r2 h) λr s' hq=> ?_);cases r with
 |error e=>exact hx pins σ H s e s' I hq
 |ok fl=>
  cases fl with
  |ret u=>exact I.after hq
  |next=>exact False.elim hq
  |brk=>exact False.elim hq
  |cont=>exact False.elim hq
end
theorem Ax {CX:CXT}{P:Program}{w:World}{K:PySem.W.Frag}{f:Addr}{name:Str}{params:Arguments}{body:List Stmt}{dV kV doc pm cdv ct oc:Value}{an od:Option Addr}{osl:Array (Option Value)}{N ps:List Str}{sp:Shared->Sp}(lk:K.lookup f=some ⟨oc,od,.func (PySem.W.fnOf name qual params body scope dV kV doc pm an cdv ct),osl⟩)(hcd:PySem.W.codeIn K cdv qual=true)(S:FnScope N ps scope)
 (len: ∀s vs H Q E,sp s vs H Q E->vs.length=ps.length)
 (hbody: ∀ (A:Around) (outer:List Env) (s:Shared) (H:Hp) (vs:List V) (Q:VK) (E:XK),Room k (A.deeper (envOfC qual scope s.heap.objs.size f cdv))->sp s vs H Q E->
  ∀s1,Inv (WL CX P w K mg base N qual scope f cdv A outer s H E) [] (start N vs) H s1->wpAny (model P w) (A.deeper (envOfC qual scope s.heap.objs.size f cdv)) (execs body (envOfC qual scope s.heap.objs.size f cdv)) (SP (WL CX P w K mg base N qual scope f cdv A outer s H E) [] {nx:=λ_ H'=>Q .non H',rt:=Q}) (WL CX P w K mg base N qual scope f cdv A outer s H E).xe s1):
 FnOkS P w K mg base CX (k+1) f (PySem.W.fnOf name qual params body scope dV kV doc pm an cdv ct) ps sp:=by
 refine⟨len,λA outer s H args us vs Q E hr e0 hb r hsp=> ?_⟩;have hl:=len _ _ _ _ _ hsp;have KX:K.In s.heap:=e0.mod.kin.keeps λb o e=>(e0.bs b o e).1
 have lim:s.heap.NoLimit:=e0.mod.nolimit.keeps λb o e=>(e0.bs b o e).1
 have hkind: ∀y∈ps.zip us,scope.names.lookup y.1=some .local\/(scope.names.lookup y.1=some .cell/\((cellsFrom (s.heap.objs.size+1) scope.names []).lookup y.1).isSome=true):=λ⟨n,v⟩ hy=>by
  rcases S.par n (W0 hy).1 with q|q
  ·exact .inl q
  ·exact .inr ⟨q,K5 _ _ _ (.inl q)⟩
 refine Y3 hr.depth (KX _ _ lk) rfl S.co S.gen rfl (G0p KX hcd) (hb _ _ _ _ ?_);refine U5 S.kind hkind λenv he s1 x=> ?_
 subst he;refine⟨lim.keeps x.toInCall.keep,codeAny_func ?_⟩;have ht:=hbody A outer s H vs Q E (hr.deeper _) hsp;have I:Inv (WL CX P w K mg base N qual scope f cdv A outer s H E) [] (start N vs) H s1:=VE S hr.hd e0 hl r x;refine R5 (ht s1 I) (λfl s' hs=> ?_) λe s' hs=>hs
 have fin: ∀ {σ':St} {H':Hp} {v:V} {u:Value},Inv (WL CX P w K mg base N qual scope f cdv A outer s H E) [] σ' H' s'->RelV v u->Q v H'->CE outer P w H s Q u s':=
  λ{σ' H' v u} J rv q=>⟨v,H',J.os,J.bare,J.base,J.hok,rv,q⟩
 cases fl with
 |ret u=>
  obtain⟨v,σ',H',J,rv,q⟩:=hs;exact fin J rv q
 |next=>
  obtain⟨σ',H',J,q⟩:=hs;exact fin (v:=V.non) (u:=Value.none) J rfl q
 |brk=>
  obtain⟨_,_,_,q⟩:=hs;exact False.elim q
 |cont=>
  obtain⟨_,_,_,q⟩:=hs;exact False.elim q
section
variable {X:Cx}{k:Nat}{f:Addr}{fd:FuncData}{ps:List Str}{spd:RDn}{x:Str}{p pos:Pos}{e:Expr}{es:List Expr}{t:TAD}
theorem Ay (F:FnOkU X.prog X.w X.K X.mg X.base CX0 k f fd ps (LSp X.K spd))(hr:RoomU k X.A)(hg:Gl X x)(hm:X.mg x=some (.ref f))(hk:PySem.W.keepIn X.K (.ref f)=true)(hb:Binds X.K fd ps [])
 (ha:JA X (e::es) t)(hdb:(x==("__debug__" :Str))=false:=by decide)(he:starEach (e::es) X.env=(false,eval e X.env)::starEach es X.env:=by rfl)(hpl:(backTo pos (starEach es X.env)).any (·.1)=false:=by rfl):
 JE X (.Call (.Name x p) (e::es) [] pos) (dCB spd t):=⟨(Na F hr hg hm hk hb .nil BV ha.to hdb he hpl).imp PN⟩
end
def DR (P:Program)(w:World)(K:PySem.W.Frag)(mg:Str->Option Value)(base:Heap)(n:Nat)(x:Str)(ps:List Str)(sp:RDn):Prop:=
 ∃ (g:Addr) (gd:FuncData),FnOkU P w K mg base CX0 n g gd ps (LSp K sp)/\Binds K gd ps []/\PySem.W.keepIn K (.ref g)=true/\mg x=some (.ref g)
end L2
namespace L2
open PySem PySem.Spec PyProof.Rows PySem.W PySem.Calls PySem.Builtin PySem.Builtin.ObjectAttr PySem.Builtin.Getset_descriptor
section
variable {prog:Program}{w:World}{A:Around}{E:Value->Shared->Prop}{s:Shared}{K:Frag}{x D:Addr}
structure ExcK (K:Frag)(D:Addr):Prop where
 cls:(clsIn K D).isSome=true
 ga:findIn K (.ref D) "__getattribute__" =some (some (.builtin "BaseException.__getattribute__"))
 hk:findIn K (.ref D) "__getattr__" =some none
 ca:findIn K (.ref D) "__class__" =some (some (.builtin "object.__class__"))
 gt:specialIn K (.builtin "object.__class__") "__get__" =some (some (.builtin "getset_descriptor.__get__"))
 tk:takesIn K (.builtin "object.__class__")=some true
 ob:mroIn K D (.type "object")=some true
 be:mroIn K D (.type "BaseException")=some true
def ExcAt (x D:Addr)(h:Heap):Prop:= ∃o,h.get? x=some o/\o.cls= .ref D
theorem ExcAt.type {M:Model}{h:Heap}(I:ExcAt x D h):Looks M h (typeOf (.ref x)) (.ref D):=let ⟨o,h1,h2⟩:=I;h2 ▸ (Looks.ld h1).andThen .now
theorem Gp {tp:Value}{R:Result->Shared->Prop}(X:K.In s.heap)(I:ExcAt x D s.heap)(ob:mroIn K D (.type "object")=some true)
 (h:R (.ok (.ret (.ref D))) s):codeAny (model prog w) A (.call (.builtin "getset_descriptor.__get__") ⟨[.builtin "object.__class__",.ref x,tp],[]⟩) R s:=by
 obtain⟨hp,g,dr,t,os⟩:=s;have known:Looks (model prog w) hp (isInstance (.ref x) (.type "object")) true:=I.type.andThen (looks_mroIn X ob);have passed:Looks (model prog w) hp (descrCheckInstance (.builtin "object.__class__") (.ref x)) ():=
  Looks.andThen (a:=(("__class__" :Str),Value.type "object")) (Looks.of_pure (congrArg (λp:String×String=>(pure (Str.ofString p.2,Value.type p.1):Sem (Str×Value))) KF.owner_class)) (known.andThen .now)
 have shown:Looks (model prog w) hp (shownTypeOf (.ref x)) (.ref D):=I.type.andThen .now;have asked:=KF.slot_gs.check (model prog w) A.in1 (λe s'=>R (.error e) s') ⟨hp,g,dr,t,os⟩ (.builtin "object.__class__") [.ref x,tp] [];refine codeAny_call_builtin KF.slot_gs.plain KF.entry_gs (asked _ KF.type_class (KF.args_gs _ _ _) ?_);show wpAny _ _ (descrGetArgs _ >>= _) _ _ _;rw [dga_obj];refine wpAny_bind (P4 (wpAny_bind (passed.at (P4 ⟨Code.quiet_builtin _ (by decide +kernel),codeAny_builtin KF.entry_class ?_⟩))));exact wpAny_bind (shown.at (P4 h))
theorem Nb {M:Model}{h:Heap}(X:K.In h)(Z:ExcK K D):Looks M h (find (.ref x) (.ref D) "__class__") (.bind (.builtin "getset_descriptor.__get__") (.builtin "object.__class__")):=by
 have L1:=looks_findIn (M:=M) X Z.ca;have L2:Looks M h (getOf (some (.builtin "object.__class__"))) (some (.builtin "getset_descriptor.__get__")):=looks_specialIn X Z.gt;have L3:=looks_takesIn (M:=M) X Z.tk;exact L1.andThen (L2.andThen ((show Looks M h (dataDescriptor? (some (.builtin "object.__class__")) (some (.builtin "getset_descriptor.__get__"))) (some (.builtin "getset_descriptor.__get__",.builtin "object.__class__")) from L3.andThen .now).andThen (Looks.tag .now)))
theorem Fo {M:Model}{h:Heap}(X:K.In h)(I:ExcAt x D h)(Z:ExcK K D)(n:Value):Looks M h (checkBuiltinCall "BaseException.__getattribute__" ⟨[.ref x,n],[]⟩) ():=by
 have known:Looks M h (isInstance (.ref x) (.type "BaseException")) true:=I.type.andThen (looks_mroIn X Z.be);have fits:=PySem.F.args_bexc_ga (.ref x) n;unfold checkBuiltinCall;rw [show builtinKind "BaseException.__getattribute__" =some .slot by decide +kernel,show splitId "BaseException.__getattribute__" =some ("BaseException","__getattribute__") by decide +kernel];exact known.andThen (Looks.of_pure fits)
theorem WR {tk:Tok}{R:Result->Shared->Prop}(X:K.In s.heap)(I:ExcAt x D s.heap)(Z:ExcK K D)(h:R (.ok (.ret (.ref D))) s):
 codeAny (model prog w) A (.call (.builtin "BaseException.__getattribute__") ⟨[.ref x,.str "__class__" tk],[]⟩) R s:=
 codeAny_call_builtin PySem.F.attr_ValueError.ga.plain PySem.F.entry_bexc_ga (G0z (Fo X I Z _) (wpAny_bind (P4 (wpAny_bind (P4 (wpAny_bind (G0z I.type (wpAny_bind (G0z (Nb X Z) (wpAny_bind (O1 (G0v (Gp X I Z.ob (P4 h))))))))))))))
theorem Gq {Q:Option Value->Shared->Prop}(X:K.In s.heap)(I:ExcAt x D s.heap)(Z:ExcK K D)(h:Q (some (.ref D)) {s with toks:=s.toks+1}):wpAny (model prog w) A (getAttr? (.ref x) "__class__") Q E s:=by
 have byReader:=PySem.F.attr_ValueError.ga.bind (.ref x);have asked: ∀ {A':Around} {P:Value->Shared->Prop} {E':Value->Shared->Prop},P (.ref D) {s with toks:=s.toks+1}->wpAny (model prog w) A' (boundAndCalled (.builtin "BaseException.__getattribute__") (.ref x) (.str "__class__" s.toks)) P E' {s with toks:=s.toks+1}:=λp=>by
  unfold boundAndCalled;rw [byReader];exact wpAny_bind (P4 (G0v (WR (s:= {s with toks:=s.toks+1}) X I Z p)))
 have own: ∀ {A':Around} {P:Value->Shared->Prop} {E':Value->Shared->Prop},P (.ref D) {s with toks:=s.toks+1}->wpAny (model prog w) A' (getAttrByItsOwn (.ref x) (.str "__class__" s.toks) (.ref D) (.builtin "BaseException.__getattribute__") false false) P E' {s with toks:=s.toks+1}:=λp=>
  wpAny_bind (G0z (s:= {s with toks:=s.toks+1}) (looks_findIn X Z.hk) (wpAny_bind (wpAny_attempt (O1 (asked (P4 p))))))
 exact wpAny_bind (wpAny_mkText (wpAny_bind (wpAny_attempt (O1 (wpAny_bind (G0z (s:= {s with toks:=s.toks+1}) I.type (wpAny_bind (G0z (s:= {s with toks:=s.toks+1}) (looks_findIn X Z.ga) (own (P4 h))))))))))
theorem Nc (Z:ExcK K D):KitX K (.ref x) (.ref D) (ExcAt x D):=by
 have isClass: ∀ {h:Heap},K.In h-> ∃o c,h.get? D=some o/\o.data= .cls c:=λX=>by
  obtain⟨c,hc⟩:=N5.mp Z.cls;revert hc;unfold clsIn;split
  ·rename_i ho;exact λ_=>⟨_,_,X _ _ ho,rfl⟩
  ·exact λz=>nomatch z
 refine⟨λ_ _ _ I=>I.type,λM h X _=> ?_,λh tp dd its n sl X htp=> ?_,λX I k=>Gq X I Z k⟩
 ·obtain⟨o,c,ho,hd⟩:=isClass X;exact(Looks.ld ho).andThen (Looks.of_pure (by rw [hd]))
 ·obtain⟨o,c,ho,hd⟩:=isClass X;cases hq:(Value.ref D==Value.ref tp) with
  |false=>rfl
  |true=>
   cases (V4.mp hq);rw [htp] at ho;cases ho;cases hd
end
end L2
namespace L2
open PySem PySem.Spec PyProof.Rows PySem.SeqAt PySem.W
theorem Nd {X:Cx}(hu:X.A.units+64<cLine):MtM X "list.count" (λx vs H Q=> ∃ (a:Addr) (y:V) (dy:D) (h:HD) (p:PyData) (ps:List PyData),x= .ref a/\vs= [y]/\RelD X.K H dy y/\RelH X.K h H/\ToP h (.lst a) (.list ps)/\ToP h dy p/\p.canLay0=true/\PyData.canLayAll0 ps=true/\p.depth<=60/\Q (.int ((ps.countP λz=>PyData.eqv z p:Nat):Int)) H):=by
 intro pins s σ H x vs v us Q I rx rv h;obtain⟨a,y,dy,h,p,ps,rfl,rfl,rd,rh,t1,t2,c1,c2,c3,q⟩:=h;cases rx;obtain⟨u,rfl,ru⟩:=Jz rv;obtain⟨a',ds,ea,ha,ts⟩:=(show ∃a' ds,D.lst a= .lst a'/\h a'=some ds/\ToPs h ds ps from t1);cases ea;obtain⟨ws,hH,_⟩:=rh a ds ha;obtain⟨as,r1⟩:=zi I rh t1 (show RelD X.K H (.lst a) (.ref a) from ⟨rfl,ws,hH⟩) (show RelV (.ref a) (.ref a) from rfl);obtain⟨bs,r2⟩:=zi I rh t2 rd ru;cases r1 with
 |list h1 h2 h3 h4=>
  rename_i o its n cs;have em:=readsAll_map ps _ _ c2 h4;have hu':X.A.units+1+min (PyData.depthAll ps) p.depth<cLine:=by have:=U7 (PyData.depthAll ps) p.depth;omega
  obtain⟨oc,od,odt,osl⟩:=o;simp only at h2 h3;subst h2 h3;refine G0x G0H ⟨_,h1,rfl⟩ PySem.F.entry_list_count (PySem.F.args_list_count_2 _ _) (list_countAt a its n od osl u (λy=>PyData.eqv (readOf s.heap y) p)) ⟨h1,items_eqAt h4 r2 c2 c1 hu',?_⟩;have e:its.toList.countP (λy=>PyData.eqv (readOf s.heap y) p)=ps.countP λz=>PyData.eqv z p:=by
   rw [<-em,List.countP_map];rfl
  exact⟨.int _,H,I.tok _,⟨_,by rw [e]⟩,q⟩
def Kb (to te:TED):TED:=λσ h Q=>to σ h λx h1=> ∃a,x= .lst a/\te σ h1 λy h2=> ∃ (p:PyData) (ps:List PyData),ToP h2 (.lst a) (.list ps)/\ToP h2 y p/\p.canLay0=true/\PyData.canLayAll0 ps=true/\p.depth<=60/\Q (.int ((ps.countP λz=>PyData.eqv z p:Nat):Int)) h2
section
variable {X:Cx}{o e i:Expr}{to te ti:TED}{apos cpos:Pos}
theorem Kc (hu : X.A.units + 64 < cLine) (ho : JE X o to) (he : JE X e te) (hbase : attributeBase o "count" X.env (eval o X.env) = eval o X.env := by rfl)
    (hfew : ((backTo cpos (starEach [e] X.env)).all (fun x => !x.1) && (backToKw cpos (keywordEach [] X.env)).all (fun x => x.1.isSome) && decide ([e].length + ([] : List Keyword).length + (if ([] : List Keyword).isEmpty then 0 else 1) < 30)) = true := by rfl)
    (hline : (apos.endLine == cpos.line) = true := by rfl) (hs : starEach [e] X.env = (false, eval e X.env) :: starEach [] X.env := by rfl) (hplain : (backTo cpos (starEach [] X.env)).any (·.1) = false := by rfl) :
    JE X (.Call (.Attribute o "count" apos) [e] [] cpos) (Kb to te) :=
  ⟨(BT W6 G0H PySem.F.type_list_count (Nd hu) ho.to (wG he.to pa_nil hs) hbase hfew hline hs hplain).imp
    fun σ H Q ⟨σd, h, Qd, rs, rh, t, p⟩ => LE.bind rs rh t fun d v h1 H1 k1 rs1 rh1 r1 ⟨a, e, q⟩ => by
      subst e
      obtain ⟨e1, vs, hH⟩ := (show v = .ref a ∧ ∃ vs, H1 a = some (.lst vs) from r1)
      subst e1
      refine ⟨.inl ⟨rfl, vs, SqL.of hH⟩, ?_⟩
      refine LE.bind rs1 rh1 q fun y u h2 H2 k2 rs2 rh2 r2 ⟨pd, ps, t1, t2, c1, c2, c3, q2⟩ => ?_
      exact ⟨a, u, y, h2, pd, ps, rfl, rfl, r2, rh2, t1, t2, c1, c2, c3, p (.int _) _ _ _ (k1.trans k2) rh2 rfl q2⟩⟩
end
def SX (K:Frag)(c:Value)(ta:TED):TED:=λσ h Q=>ta σ h λx h1=> ∃C b,x= .exc C/\ExcK K C/\kitOne K (.ref C) c=some b/\Q (.bl b) h1
theorem Yq {X:Cx}{v:V}{c:Value}(rc: ∀u,RelV v u->u=c):CallR X (.builtin "isinstance") (λxs H Q=> ∃x C o b,xs= [.ref x,v]/\H x=some (.frz o (.own 0))/\o.cls= .ref C/\ExcK X.K C/\kitOne X.K (.ref C) c=some b/\Q (.bl b) H):=by
 intro pins s σ H xs us Q I r h;obtain⟨x,C,o,b,rfl,hx,hc,Z,e,q⟩:=h;obtain⟨u,w',rfl,rx,rt⟩:=Mo r;cases rx;cases rc _ rt;exact kia_one (Nc Z) I.kIn ⟨o,(I.hok x _ hx).1,hc⟩ e (λz=>nomatch z) λtk=>⟨.bl b,H,I.tok tk,rfl,q⟩
section
variable {X:Cx}{a:Expr}{ta:TED}{t:Str}{p p2 pos:Pos}
theorem DS {v:V}{c:Value}: ∀σ H Q,LE X.K (SX X.K c ta) σ H Q->tCB (λxs H Q=> ∃x C o b,xs= [.ref x,v]/\H x=some (.frz o (.own 0))/\o.cls= .ref C/\ExcK X.K C/\kitOne X.K (.ref C) c=some b/\Q (.bl b) H) (Mp (LE X.K ta) (Mp (tC v) ES)) σ H Q:=
 λσ H Q ⟨σd,h,Qd,rs,rh,t,p⟩=>LE.bind rs rh t λd u h1 H1 k1 rs1 rh1 r1 ⟨C,b,e,Z,k,q⟩=>by
  subst e;obtain⟨x,o,vs,e1,hx,hc,_⟩:=(show ∃x o vs,u= .ref x/\H1 x=some (.frz o (.own 0))/\o.cls= .ref C/\o.data= .fields vs from r1);subst e1;exact⟨x,C,o,b,rfl,hx,hc,Z,k,p (.bl b) _ _ _ k1 rh1 rfl q⟩
theorem Gr {KK:Frag}{D:Addr}(hg:Gl X "isinstance")(hm:X.mg "isinstance" =none)(hg2:Gl X t)(hm2:X.mg t=some (.ref D))(ha:JE X a ta)(hd:(t==("__debug__" :Str))=false:=by decide)
 (h1:starEach [a,.Name t p2] X.env=(false,eval a X.env)::starEach [.Name t p2] X.env:=by rfl)(h2:(backTo pos (starEach [.Name t p2] X.env)).any (·.1)=false:=by rfl)(hK:X.K=KK:=by rfl):
 JE X (.Call (.Name "isinstance" p) [a,.Name t p2] [] pos) (SX KK (.ref D) ta):=
 hK ▸ ⟨(Zx (Yq (v:= .ref D) λu r=>r) hg hm K8 (wG ha.to (wG (GW (v:= .ref D) hg2 hm2 rfl hd) pa_nil (by rfl)) h1) (by decide) (by decide) h1 h2).imp DS⟩
theorem Kd {KK:Frag}{T:String}(hg:Gl X "isinstance")(hm:X.mg "isinstance" =none)(hg2:Gl X t)(hm2:X.mg t=none)(hv:bootBuiltins t=some (.type T))(ha:JE X a ta)(hn:t≠ "__name__" :=by decide)(hd:(t==("__debug__" :Str))=false:=by decide)
 (h1:starEach [a,.Name t p2] X.env=(false,eval a X.env)::starEach [.Name t p2] X.env:=by rfl)(h2:(backTo pos (starEach [.Name t p2] X.env)).any (·.1)=false:=by rfl)(hK:X.K=KK:=by rfl):
 JE X (.Call (.Name "isinstance" p) [a,.Name t p2] [] pos) (SX KK (.type T) ta):=
 hK ▸ ⟨(Zx (Yq (v:= .ty T) λu r=>r) hg hm K8 (wG ha.to (wG (GX (v:= .ty T) hg2 hm2 hv rfl hn hd) pa_nil (by rfl)) h1) (by decide) (by decide) h1 h2).imp DS⟩
end
end L2
namespace L2
open PySem PySem.Spec PyProof.Rows PySem.W
section
variable {X:Cx}{σ:St}{H:Hp}{s:Shared}{x C:Addr}
theorem Inv.relaid {B h':Heap}{T:Addr}{a0:Value}(I:Inv X [] σ H s)(Z:Rz0 X)(hpn:X.pn= [])(hx:H x=none/\X.s₀.heap.get? x=none)(hT:H T=none/\X.s₀.heap.get? T=none)
 (hB:B=hideAll s.heap (x::T::frs (X.env::X.outer)))(fl:Heap.FlyingW B (X.env::X.outer) x (.ref C) a0 h')(up:s.heap.UpToSlots h'):Inv X [] σ H {s with heap:=h'}/\Fly X.s₀.heap H h' x C:=by
 subst hB;have stk:s.heap.FunFrames X.base (X.env::X.outer):=Z.stk ▸ I.stack;obtain⟨st,_,_,oe',vs',T',oT',ts',he',⟨hc',h0'⟩,hd',h1',hTB,hTx',hT',hTd',h3'⟩:=fl;obtain⟨r1,r2,r3⟩:=DN (ys:= [x,T]) (h':=h') I Z (λy hy=>by
  rcases D0.mp hy with rfl|hy
  ·exact hx
  ·rcases D0.mp hy with rfl|hy
   ·exact hT
   ·cases hy) (λb o e n1 n2=>st b o (hideAll_get _ e λz=>by
    rcases D0.mp z with rfl|z
    ·exact n1 (.head _)
    ·rcases D0.mp z with rfl|z
     ·exact n1 (.tail _ (.head _))
     ·exact n2 z)) λb o e hb=>by
  obtain⟨_,o2,e2,nd⟩:=stk.mem hb;rw [e] at e2;cases e2;exact up b o e nd
 obtain⟨q1,q2⟩:=r3 T' oT' ts' hT' hTd' λo e=>by
  by_cases z:T'∈frs (X.env::X.outer)
  ·exact .inr z
  ·refine .inl ?_
   by_cases z1:T'=x
   ·rw [z1];exact .head _
   ·by_cases z2:T'=T
    ·rw [z2];exact .tail _ (.head _)
    ·rw [hideAll_get _ e (by simp only [D0,not_or];exact⟨z1,z2,z⟩)] at hTB;cases hTB
 have cellK: ∀c v,s.heap.IsCell c v->h'.IsCell c v:=λc v ⟨o,ho,hd⟩=>by
  obtain⟨sl,e⟩:=up c o ho λws q=>by rw [hd] at q;cases q
  exact⟨_,e,hd⟩
 refine⟨⟨I.ok,I.os,I.bare,by rw [Z.ex];exact r1,?_,λy c e=> ?_,I.free,I.freeC,λp hp=> ?_,r2,I.len⟩,⟨⟨oe',vs',a0,T',oT',ts',he',hc',hd',h0',h1',hTx',hT',hTd',h3',q1,q2⟩,hx.1,hx.2⟩⟩
 ·obtain⟨m,hn,hl⟩:=I.loc;refine⟨m,up.ns hn,λi y v e1 e2 e3=> ?_⟩;obtain⟨u,r,l⟩:=hl i y v e1 e2 e3;exact⟨u,r,l.imp id λ⟨k,c,e,z⟩=>⟨k,c,e,cellK c _ z⟩⟩
 ·obtain⟨v,z⟩:=I.cell y c e;exact⟨v,cellK c v z⟩
 ·rw [hpn] at hp;cases hp
theorem Inv.track {oe:Obj}{vs:Array Value}(I:Inv X [] σ H s)(hpn:X.pn= [])(hn:H x=none)(h0:X.s₀.heap.get? x=none)(hx:s.heap.get? x=some oe)(hd:oe.data= .fields vs):Inv X [] σ (upd H x (.frz oe (.own 0))) s:=by
 have ne: ∀b u,H b=some u->b≠x:=λb u e z=>by rw [z,hn] at e;cases e
 have ne0: ∀b o,X.s₀.heap.get? b=some o->b≠x:=λb o e z=>by rw [z,h0] at e;cases e
 have cn: ∀y c,X.env.cells.lookup y=some c->c≠x:=λy c e z=>by
  obtain⟨v,o,ho,hc⟩:=I.cell y c e;rw [z,hx] at ho;cases ho;rw [hd] at hc;cases hc
 refine⟨I.ok,I.os,I.bare,⟨I.base.keep,I.base.slot,λb o e n hx=> ?_,I.base.there,λb xs e=> ?_,λb o u e=> ?_,λb ps e=> ?_⟩,I.loc,I.cell,?_,λy c e=> ?_,λp hp=> ?_,λa o e=> ?_,I.len⟩
 ·rw [jh (ne0 b o e)];exact I.base.free b o e n hx
 ·have:=I.base.tups b xs e;rw [jh (ne b _ this)];exact this
 ·have:=I.base.frzs b o u e;rw [jh (ne b _ this)];exact this
 ·obtain⟨more,this⟩:=I.base.tbls b ps e;exact⟨more,by rw [jh (ne b _ this)];exact this⟩
 ·rw [jh (λz=> ?_)]
  ·exact I.free
  ·obtain⟨m,⟨o,es,ep,e,d,_⟩,_⟩:=I.loc;rw [z,hx] at e;cases e;rw [hd] at d;cases d
 ·rw [jh (cn y c e)];exact I.freeC y c e
 ·rw [hpn] at hp;cases hp
 ·by_cases z:a=x
  ·subst z;rw [jl] at e;cases e;exact⟨hx,⟨oe,hx⟩⟩
  ·rw [jh z] at e;exact(I.hok a o e).stay (λ_ _ _ q=>q) (λb q=>by rw [jh (ne b _ q)];exact q) λb xs q=>by rw [jh (ne b _ q)];exact q
theorem DT {M:Model}{A:Around}{E:Value->Shared->Prop}{i:Nat}{y:Str}{v:V}{Q:Unit->Shared->Prop}(I:Inv X [] σ H s)(hpn:X.pn= [])(hN:X.N.Nodup)(hi:X.N[i]? =some y)(hk:X.env.scope.names.lookup y=some .local)(hv:σ[i]? =some (some v))
 (h: ∀s',Inv X [] (σ.set i none) H s'->Q () s'):wpAny M A (unbindName X.env y) Q E s:=by
 obtain⟨m,hn,hl⟩:=id I.loc;have hcls:(X.env.scope.kind== .class||(X.env.scope.kind== .module&&X.env.locals !=X.env.globals))=false:=by rw [I.ok.kind];rfl
 have hiσ:i<σ.length:=by rw [I.len];exact(G5.mp hi).1
 obtain⟨u,r,l⟩:=hl i y v hi hv (.inl hk);have hm:m y=some u:=by
  rcases l with ⟨_,e⟩|⟨k,_⟩
  ·exact e
  ·rcases k with k|k<;>(have k':X.env.scope.names.lookup y=_:=k;rw [hk] at k';cases k')
 refine wpAny_unbindName_local hk hn hm hcls λh' u' hn' hs=> ?_
 obtain⟨oL,_,_,hoL,_⟩:=id hn;have cne:=I.cne;refine h _ ⟨I.ok,I.os,I.bare,⟨λb o e n hb hx=> ?_,λb o e n hb hx=> ?_,I.base.free,λb o e hx=> ?_,I.base.tups,I.base.frzs,I.base.tbls⟩,⟨_,hn',λj z v' e1 e2 e3=> ?_⟩,λz c e=> ?_,I.free,I.freeC,λp hp=> ?_,λb ob e=> ?_,by simpa using I.len⟩
 ·exact(hs.2 b (R6 (D6 (P5 e) I.ok.above))).trans (I.base.keep b o e n hb hx)
 ·obtain⟨sl,e1⟩:=I.base.slot b o e n hb hx;exact⟨sl,(hs.2 b (R6 (D6 (P5 e) I.ok.above))).trans e1⟩
 ·obtain⟨o',e1⟩:=I.base.there b o e hx;exact⟨o',(hs.2 b (R6 (D6 (P5 e) I.ok.above))).trans e1⟩
 ·by_cases hj:j=i
  ·subst hj;rw [A8 hiσ] at e2;cases e2
  ·rw [N8 (Ne.symm hj)] at e2;obtain⟨u2,r',q⟩:=hl j z v' e1 e2 e3;refine⟨u2,r',?_⟩;rcases q with ⟨k,e⟩|⟨k,c,e,q⟩
   ·refine .inl ⟨k,?_⟩;have:z≠y:=λe=>hj (Yz hN e1 (e ▸ hi))
    simp [this,e]
   ·exact .inr ⟨k,c,e,q.sameBut hs (cne z c e)⟩
 ·obtain⟨w',q⟩:=I.cell z c e;exact⟨w',q.sameBut hs (cne z c e)⟩
 ·rw [hpn] at hp;cases hp
 ·refine(I.hok b ob e).stay (λc w' hc q=>(hs.2 c ?_).trans q) (λ_ q=>q) λ_ _ q=>q
  rintro rfl;rcases hc with rfl|hc
  ·rw [I.free] at e;cases e
  ·rw [I.free] at hc;cases hc
end
def cxH (X:Cx)(x:Addr):Cx:= {X with A:=X.A.mark (some (.ref x)),calm:=false,xe:=λ_ _=>False}
section
variable {X:Cx}{pins:List (Addr×Obj)}{σ:St}{H:Hp}{s:Shared}{x C:Addr}
theorem Inv.suite (I:Inv X pins σ H s)(x:Addr):Inv (cxH X x) pins σ H s:=
 ⟨⟨I.ok.mod,I.ok.kind,I.ok.glob,I.ok.blt,I.ok.above,I.ok.inj,I.ok.has,I.ok.cab,λz=>(by cases z),I.ok.frames,I.ok.stk,I.ok.exf,I.ok.bs,I.ok.bsz,I.ok.noex,I.ok.exfs,I.ok.funs,I.ok.frf⟩,I.os,I.bare,I.base,I.loc,I.cell,I.free,I.freeC,I.pin,I.hok,I.len⟩
theorem Inv.unsuite (I:Inv (cxH X x) pins σ H s)(ok:X.Ok):Inv X pins σ H s:=⟨ok,I.os,I.bare,I.base,I.loc,I.cell,I.free,I.freeC,I.pin,I.hok,I.len⟩
theorem Nf {E:Value->Shared->Prop}{n:Str}{i:Nat}{PE:Addr}{b0:Stmt}{suite:List Stmt}{t:TS}{D:Ends}{np pos:Pos}(Z:Rz0 X)(hpn:X.pn= [])(hN:X.N.Nodup)(hi:X.N[i]? =some n)(hl:X.env.scope.names.lookup n=some .local)
 (hg:Gl X "PowerError")(hm:X.mg "PowerError" =some (.ref PE))(hex:exmOne X.K (.ref C) (.ref PE)=some true)(I:Inv X [] σ H s)(fl:Fly X.s₀.heap H s.heap x C)(hs:PSs (cxH X x) (b0::suite) t)
 (ht: ∀oe vs,oe.cls= .ref C->oe.data= .fields vs->t {nx:=λ_ _=>False,rt:=D.rt} (σ.set i (some (.ref x))) (upd H x (.frz oe (.own 0)))):
 wpAny (model X.prog X.w) X.A (noteFrame (.ref x) X.env) (λ_ s₂=>wpAny (model X.prog X.w) X.A (setFlight (.ref x) none) (λ_ s₃=>wpAny (model X.prog X.w) X.A (handleBy (.ref x) X.env [.ExceptHandler (some (.Name "PowerError" np)) (some n) (b0::suite) pos]) (SP X [] D) E s₃) E s₂) E s:=by
 obtain⟨oe0,vs0,a0,T,oT,ts,he,hc,hd,h0,h1,hTx,hT,hTd,h3,hHT,h0T⟩:=fl.ex;have hfr:X.A.frames=some (X.env::X.outer):=by rw [I.ok.frames,Z.stk]
 have stk:s.heap.FunFrames X.base (X.env::X.outer):=Z.stk ▸ I.stack;have ff:s.heap.FunFrames (hideAll s.heap (x::T::frs (X.env::X.outer))) (X.env::X.outer):=ze stk λa ha=>hideAll_none _ (.tail _ (.tail _ ha))
 refine wpAny_looks_onW (base:=hideAll s.heap (x::T::frs (X.env::X.outer))) (cls:= .ref C) (a0:=a0) hfr Z.fr
  ⟨λb o e=>of_hideAll _ e,hideAll_none _ (.head _),ff,oe0,vs0,T,oT,ts,he,⟨hc,h0⟩,hd,h1,hideAll_none _ (.tail _ (.head _)),hTx,hT,hTd,h3⟩ λh₄ hheld₄ hup₄=> ?_
 refine wpAny_landsW hheld₄ λh₅ hfl₅ hup₅=> ?_
 obtain⟨I5,F5⟩:=I.relaid Z hpn ⟨fl.nx,fl.n0⟩ ⟨hHT,h0T⟩ rfl hfl₅ (hup₄.trans hup₅);refine wpAny_handleBy_cons (codeAny_handlers_test (Jy (X:=cxH X x) (I5.suite x) hg hm ?_)) (by intro q;cases q);have at5:ExcAt x C h₅:=let ⟨oe,_,_,_,_,_,e,c,_⟩:=F5.ex;⟨oe,e,c⟩;refine(exm_one (M:=model X.prog X.w) (h:=h₅) I5.kIn at5.type hex).here ?_;refine codeAny_handlers_suite_as ?_;refine lands_againW hfl₅ λh₆ hfl₆ hup₆=> ?_
 obtain⟨I6,F6⟩:=I.relaid Z hpn ⟨fl.nx,fl.n0⟩ ⟨hHT,h0T⟩ rfl hfl₆ (hup₄.trans (hup₅.trans hup₆));obtain⟨oe,vs,_,_,_,_,e6,c6,d6,_⟩:=F6.ex;have I7:=I6.track hpn F6.nx F6.n0 e6 d6;refine wz I7 hN hi (.inl hl) (v:= .ref x) rfl (λs8 I8=> ?_) (.inr hl);refine R5 (hs [] s8 _ _ _ (I8.suite x) (ht oe vs c6 d6)) (λf s9 q=> ?_) λ_ _ z=>z.elim
 cases f with
 |next=>obtain⟨_,_,_,z⟩:=q;exact z.elim
 |brk=>obtain⟨_,_,_,z⟩:=q;exact z.elim
 |cont=>obtain⟨_,_,_,z⟩:=q;exact z.elim
 |ret u=>
  obtain⟨v,σ',H3,J,rv,qq⟩:=q;have J1:Inv X [] σ' H3 s9:=J.unsuite I.ok;refine wpAny_bind (G04 (wz J1 hN hi (.inl hl) (v:= .non) rfl (λs10 J2=> ?_) (.inr hl)));unfold unbindBehindTheSuite;have hlt:i<σ'.length:=by rw [J1.len];exact(G5.mp hi).1
  exact wpAny_onRaise (DT J2 hpn hN hi hl (v:= .non) (by rw [A8 hlt]) λs11 J3=>⟨v,_,H3,J3,rv,qq⟩)
end
def CW:List (Str×Str):= [("NoTable","table"),("NoPlace","place"),("NoNumber","number"),("NoOrder","order"),("NoSet","set"),("NoWalk","walk"),("NoLengths","lengths"),("NoWay","way"),("Apart","apart"),("NoRow","row")]
def CN:List Str:= ["NoTable","NoPlace","NoNumber","NoOrder","NoSet","NoWalk","NoLengths","NoWay","Apart","NoRow"]
def Jd (c:Str):Str:=(CW.lookup c).getD "other"
def Qh (P:Program)(w:World)(K:PySem.W.Frag)(mg:Str->Option Value)(base:Heap)(n:Nat):Shared->Sp:=λs vs H Q _=>
 ∃ (f:Addr) (o:Obj) (qual:Str) (pm cv ctv:Value) (cl:List (Str×Addr)) (q:Str) (N:List Str) (σ:St) (scope:Scope) (body:Expr) (h:HD) (Qd:KD),vs= [.ref f]/\s.heap.get? f=some o/\o.data= .func (kla_fn "<lambda>" qual WQ body scope cl pm cv ctv)/\CodeF H cv q/\H f=none/\LamOk scope/\Cap N σ scope cl s.heap H/\RelH K h H/\Bb K H Qd Q/\
 ((∃QT:VK,(∀ (A':Around) (outer':List Env) (s':Shared) (E':XK),Room n (A'.deeper (envX q scope s'.heap.objs.size f cv cl))-> ∃t,PE (cxL CX0 P w K mg base N q scope f cv cl A' outer' s' H E') body t/\t σ H QT)/\
  ∀v H',QT v H'-> ∃d h',Kept H H'/\RelH K h' H'/\RelD K H' d v/\Qd (.tup [.str "told",d]) h')\/
  (∃RT:Addr->Hp->Prop,(∀ (A':Around) (outer':List Env) (s':Shared),Room n (A'.deeper (envX q scope s'.heap.objs.size f cv cl))-> ∀pins s2,Inv (cxL (CXR P w) P w K mg base N q scope f cv cl A' outer' s' H (λc _ H'=> ∃C,c= .ref C/\RT C H')) pins σ H s2->
   wpAny (model P w) (A'.deeper (envX q scope s'.heap.objs.size f cv cl)) (eval body (envX q scope s'.heap.objs.size f cv cl)) (λ_ _=>False) (cxL (CXR P w) P w K mg base N q scope f cv cl A' outer' s' H (λc _ H'=> ∃C,c= .ref C/\RT C H')).xe s2)/\
   ∀C H',RT C H'-> ∃c h',mg c=some (.ref C)/\c∈CN/\Kept H H'/\RelH K h' H'/\Qd (.tup [.str (Jd c)]) h'))
abbrev N1:List Str:= ["_law_call","_law_found","_law_e","_law_word"]
theorem RoomU.mark {k:Nat}{A:Around}{v:Option Value}(r:RoomU k A):RoomU k (A.mark v):=⟨r.dp,r.un,r.gd⟩
theorem DU {M:Model}{f:Addr}(h:Heap)(X: ∃o fd,h.get? f=some o/\o.data= .func fd): ∃k,(k=Keeper.frame\/k=Keeper.machine\/k=Keeper.boundFrame)/\Looks M h (keeperOf (.ref f)) k:=by
 obtain⟨o,fd,e,d⟩:=X;refine⟨.frame,.inl rfl,(Looks.ld (part:=none) e).andThen ?_⟩;rw [d];exact .now
variable {mg:Str->Option Value}
theorem Fp {P:Program}{w:World}{K:PySem.W.Frag}{base:Heap}{st:Stmt}{fs:Addr}{fds:FuncData}{n:Nat}{pe:Addr}{p1 p2 p3 p4 p5 p6 p7 p8 p9 p10 p11:Pos}{j k:Nat}{b0:Stmt}{suite:List Stmt}
 (F:Fun K "_law_said" "_law_said" st fs fds)(S:FnScope N1 ["_law_call"] (jc st))
 (hb:jL st= [.Try [.Assign [.Name "_law_found" p1] (.Call (.Name "_law_call" p2) [] [] p3) p4] [.ExceptHandler (some (.Name "PowerError" p5)) (some "_law_e") (b0::suite) p6] [] [] p7,.Return (some (.Tuple [.Constant (.str "told") j p8,.Name "_law_found" p9] k p10)) p11])
 (l0:(jc st).names.lookup ("_law_call" :Str)=some .local)(l1:(jc st).names.lookup ("_law_found" :Str)=some .local)(l2:(jc st).names.lookup ("_law_e" :Str)=some .local)(lp:(jc st).names.lookup ("PowerError" :Str)=some .globalImplicit)
 (hm:mg "PowerError" =some (.ref pe))(hex: ∀c∈CN,∀C,mg c=some (.ref C)->exmOne K (.ref C) (.ref pe)=some true)(tS:TSD)
 (hsuite: ∀ (cdv:Value) (A:Around) (outer:List Env) (s:Shared) (H:Hp) (E:XK) (x:Addr),RoomU n ((A.deeper (envOfC "_law_said" (jc st) s.heap.objs.size fs cdv)).mark (some (.ref x)))->JSs (cxH (WL CX0 P w K mg base N1 "_law_said" (jc st) fs cdv A outer s H E) x) (b0::suite) tS)
 (hread: ∀c∈CN,∀ (C:Addr) (h:HD) (Qd:KD),mg c=some (.ref C)->Qd (.tup [.str (Jd c)]) h->tS {nx:=λ_ _=>False,rt:=λd h'=> ∃h2,Sub h2 h'/\Qd d h2} [none,none,some (.exc C),none] h):
 FnOkS P w K mg base CX0 (n+2) fs fds ["_law_call"] (Qh P w K mg base n):=by
 obtain⟨oc,od,kV,doc,pm,an,cdv,ct,osl,rfl,lk,hcd⟩:=F.ex;refine Ax lk hcd S (λs vs H Q E h=> ?_) λA outer s H vs Q E hr hsp s1 I=> ?_
 ·obtain⟨f,_,_,_,_,_,_,_,_,_,_,_,_,_,rfl,_⟩:=h;rfl
 obtain⟨f,o,qual,pmv,cv,ctv,cl,q,N,σ,scope,body,h,Qd,rfl,ho,hod,hcf,hHf,L,C,rh,post,alt⟩:=hsp;have un:=I.base;obtain⟨sl,ho1⟩:=un.any ho hHf (by intro z;cases z);have C1:Cap N σ scope cl s1.heap H:=C.step un;have hr0:Room (n+1) (A.deeper (envOfC "_law_said" (jc st) s.heap.objs.size fs cdv)):=hr;rw [hb];have callee: ∀ {CX:CXT} {E':XK} {QT:VK} {t:TE} {Q2:Value->Shared->Prop} {EE:Value->Shared->Prop},PE (cxL CX P w K mg base N q scope f cv cl (A.deeper (envOfC "_law_said" (jc st) s.heap.objs.size fs cdv)) (envOfC "_law_said" (jc st) s.heap.objs.size fs cdv::outer) s1 H E') body t->t σ H QT->
  (∀r s2,CR CX (envOfC "_law_said" (jc st) s.heap.objs.size fs cdv::outer) P w H s1 QT E' r s2->match r with| .ok (.ret v)=>Q2 v s2| .ok _=>False| .error e=>EE e s2)->
  wpAny (model P w) (A.deeper (envOfC "_law_said" (jc st) s.heap.objs.size fs cdv)) (eval (.Call (.Name "_law_call" p2) [] [] p3) (envOfC "_law_said" (jc st) s.heap.objs.size fs cdv)) Q2 EE s1:=by
  intro CX E' QT t Q2 EE hbt ht hk;refine E6 ?_;obtain⟨m,hn,hl⟩:=I.loc;obtain⟨u,ru,l⟩:=hl 0 "_law_call" (.ref f) rfl rfl (.inl l0);cases ru;have hmm:m "_law_call" =some (.ref f):=by
   rcases l with ⟨_,e⟩|⟨kk,_⟩
   ·exact e
   ·rcases kk with kk|kk<;>(have k':(jc st).names.lookup ("_law_call" :Str)=_:=kk;rw [l0] at k';cases k')
  refine G1g (Y9 S.kind l0 hn hmm ?_) (by decide);refine callWith_of (P:=λh=> ∃o fd,h.get? f=some o/\o.data= .func fd) rfl DU (evalArgs_nil3 ⟨⟨_,_,ho1,hod⟩,?_⟩);exact G0v (Y2 (Fi (CX:=CX) (k:=n) L hr0 I.env0 C1 ho1 hod hcf hbt ht) hk)
 refine O5 (wpAny_Try_except ?_);refine O5 (wpAny_Assign_Name ?_ rfl);rcases alt with ⟨QT,hT,hQ⟩|⟨RT,hR,hQ⟩
 ·obtain⟨t,hbt,ht⟩:=hT (A.deeper (envOfC "_law_said" (jc st) s.heap.objs.size fs cdv)) (envOfC "_law_said" (jc st) s.heap.objs.size fs cdv::outer) s1 E0 (hr0.deeper _);refine callee hbt ht λr s2 hq=> ?_
  cases r with
  |error e=>exact False.elim hq
  |ok fl=>
   cases fl with
   |next=>exact False.elim hq
   |brk=>exact False.elim hq
   |cont=>exact False.elim hq
   |ret u=>
    obtain⟨v,H',I2,rv,qt⟩:=I.after hq;obtain⟨d,h',kp,rh',rd,qd⟩:=hQ v H' qt;refine wz I2 (i:=1) (x:= "_law_found") S.nd rfl (.inl l1) rv (λs3 I3=> ?_) (.inr l1);refine Q5 (Q5 ?_);have hret:JSs (WL CX0 P w K mg base N1 "_law_said" (jc st) fs cdv A outer s H E) [.Return (some (.Tuple [.Constant (.str "told") j p8,.Name "_law_found" p9] k p10)) p11] (QZ (Op (jY (dC (.str "told")) (jY (GL 1) Zo)))):=
     jf (zB (zC (jac Za (jac (jv 1 rfl (.inl l1)) zS))))
    exact hret.to [] s3 _ H' _ I3 ⟨[none,some d,none,none],h',{nx:=λ_ _=>False,rt:=Qd},⟨rfl,λi d' e=>by
     match i,e with
     |0,e=>cases e
     |1,e=>cases e;exact⟨v,rfl,rd⟩
     |2,e=>cases e
     |3,e=>cases e
     |i+4,e=>simp at e⟩,rh',⟨_,rfl,(by show 2<=sizeLine;decide),qd⟩,λ_ _ _ _ _ _ _ z=>z.elim,jz post kp,λ_ _ _ _ _ _ _ z=>z.elim,λ_ _ _ _ _ _ _ z=>z.elim⟩
 ·refine callee (CX:=CXR P w) (E':=λc _ H'=> ∃C,c= .ref C/\RT C H') (QT:=λ_ _=>False) (t:=λσ' H' _=>σ'=σ/\H'=H)
   (λpins s2 σ' H' Q' I' ⟨e1,e2⟩=> ?_) ⟨rfl,rfl⟩ λr s2 hq=> ?_
  ·subst e1;subst e2;exact R5 (hR _ _ s1 (hr0.deeper _) pins s2 I') (λ_ _ z=>z.elim) λ_ _ z=>z
  cases r with
  |ok fl=>
   cases fl with
   |next=>exact False.elim hq
   |brk=>exact False.elim hq
   |cont=>exact False.elim hq
   |ret u=>obtain⟨_,_,_,_,_,_,_,z⟩:=hq;exact z.elim
  |error e=>
   obtain⟨x,C',H',rfl,os,bare,un2,hok,fl,C2,eC,rt⟩:=hq;cases eC;obtain⟨c,h',hmc,hcn,kp,rh',qd⟩:=hQ C' H' rt;have I2:=I.call' (ch:= []) os un2 hok bare (λb z=>absurd z (by simp));have f0: ∀b,s1.heap.get? b=none->s.heap.get? b=none:=λb nb=>by
    cases qq:s.heap.get? b with
    |none=>rfl
    |some o=>obtain⟨o',e⟩:=I.base.there b o qq (by intro z;cases z);rw [nb] at e;cases e
   have fl':Fly s.heap H' s2.heap x C':=by
    obtain⟨⟨oe,vs,a0,T,oT,ts,a1,a2,a3,a4,a5,a6,a7,a8,a9,a10,a11⟩,nx,n0⟩:=fl;exact⟨⟨oe,vs,a0,T,oT,ts,a1,a2,a3,a4,a5,a6,a7,a8,a9,a10,f0 _ a11⟩,nx,f0 _ n0⟩
   have hsu:=hsuite cdv A outer s H E x (RoomU.mark ((hr0.mono (Nat.le_succ n)).u));refine R5 (Nf (X:=WL CX0 P w K mg base N1 "_law_said" (jc st) fs cdv A outer s H E) (σ:=start N1 [V.ref f]) (i:=2) (n:= "_law_e") (C:=C') (t:=LS K tS) (D:= {nx:=λ_ _=>False,rt:=Q}) ⟨rfl,rfl,rfl⟩ rfl S.nd rfl l2 lp hm (hex c hcn C' hmc) I2 fl' hsu.to λoe vs hc hd=> ?_) (λ_ s3 h3=>R5 h3 (λ_ s4 h4=>R5 h4 (λfl s5 h5=> ?_) λ_ _ z=>z) λ_ _ z=>z) λ_ _ z=>z
   ·refine⟨[none,none,some (.exc C'),none],h',_,⟨rfl,λi d' e=> ?_⟩,rh'.new fl'.nx,hread c hcn C' h' Qd hmc qd,λ_ _ _ _ _ _ _ z=>z.elim,λd v h2 H2 k2 rh2 rd ⟨h3,sb,q3⟩=>post d v h3 H2 ((kp.trans (.new fl'.nx)).trans k2) (rh2.sub sb) rd q3,λ_ _ _ _ _ _ _ z=>z.elim,λ_ _ _ _ _ _ _ z=>z.elim⟩
    match i,e with
    |0,e=>cases e
    |1,e=>cases e
    |3,e=>cases e
    |i+4,e=>simp at e
    |2,e=>cases e;exact⟨.ref x,rfl,x,oe,vs,rfl,jl,hc,hd⟩
   ·cases fl with
    |next=>obtain⟨_,_,_,z⟩:=h5;exact z.elim
    |brk=>obtain⟨_,_,_,z⟩:=h5;exact z.elim
    |cont=>obtain⟨_,_,_,z⟩:=h5;exact z.elim
    |ret u=>exact h5
def SY (tT:TED)(tR:TXD):TED:=λσ h Q=>tT σ h (λd h'=>Q (.tup [.str "told",d]) h')\/tR σ h (λc h'=>c∈CN/\Q (.tup [.str (Jd c)]) h')
def dNo:TED:=λ_ _ _=>False
theorem jno {X:Cx}{e:Expr}:JE X e dNo:=⟨λ_ _ _ _ _ _ ⟨_,_,_,_,_,z,_⟩=>z.elim⟩
def Hb (sc:Scope):Bool:=sc.kind== .function&& !sc.isCoroutine&& !sc.isGenerator&&sc.names.all λy=>y.2 != .cell&&y.2 != .local
theorem Az {sc:Scope}(hk:sc.kind= .function)(h:Hb sc=true):LamOk sc:=by
 unfold Hb at h;simp only [S5,Bool.not_eq_true',R0,bne_iff_ne,ne_eq] at h;exact⟨hk,h.1.1.2,h.1.2,λy hy=>h.2 y hy⟩
def AA (sc sc':Scope):Bool:=sc.names.all λy=>y.2 != .free||(sc'.names.lookup y.1==some .cell||sc'.names.lookup y.1==some .free)
theorem Fq {sc:Scope}{env:Env}(h:AA sc env.scope=true):DP sc env:=λn hn=>by
 have:=R0.mp h _ hn;simp only [bne_self_eq_false,Bool.false_or,Q6,V4] at this;exact this
theorem SZ {X:Cx}{n:Nat}{fs:Addr}{fds:FuncData}{scope:Scope}{body:Expr}{lpos p pos:Pos}{tT:TED}{tR:TXD}{c P:Addr}
 (F:FnOkS X.prog X.w X.K X.mg X.base CX0 (n+2) fs fds ["_law_call"] (Qh X.prog X.w X.K X.mg X.base n))(hr:Room (n+2) X.A)(hg:Gl X "_law_said")(hm:X.mg "_law_said" =some (.ref fs))(hk:keepIn X.K (.ref fs)=true)(hb:Binds X.K fds ["_law_call"] [])
 (B:Bm X.mg X.base)(hcode:X.env.code= .ref c)(hc:codeHdIn X.K c P=true)(hTK:TabK X.K P)(L:LamOk scope)(hfr:DP scope X.env)
 (hT: ∀ (q:Str) (cv:Value) (cl:List (Str×Addr)) (f:Addr) (A:Around) (outer:List Env) (s:Shared) (H:Hp) (E:XK),Room n (A.deeper (envX q scope s.heap.objs.size f cv cl))->JE (cxL CX0 X.prog X.w X.K X.mg X.base X.N q scope f cv cl A outer s H E) body tT)
 (hR: ∀ (q:Str) (cv:Value) (cl:List (Str×Addr)) (f:Addr) (A:Around) (outer:List Env) (s:Shared) (H:Hp) (E:XK),Room n (A.deeper (envX q scope s.heap.objs.size f cv cl))->JXE (cxL (CXR X.prog X.w) X.prog X.w X.K X.mg X.base X.N q scope f cv cl A outer s H E) body tR)
 (he:starEach [Expr.Lambda WQ body scope lpos] X.env=(false,eval (.Lambda WQ body scope lpos) X.env)::starEach [] X.env:=by rfl)(hpl:(backTo pos (starEach [] X.env)).any (·.1)=false:=by rfl):
 JE X (.Call (.Name "_law_said" p) [.Lambda WQ body scope lpos] [] pos) (SY tT tR):=⟨λpins s σ H Q I ⟨σd,h,Qd,rs,rh,alt,post⟩=>by
 refine E6 (Jy I hg hm ?_ (by decide));refine G0o (h₀:=X.base) I.ok.mod.kin hk ?_ he hpl;rw [he];obtain⟨ps,hP,hps⟩:=rh.tb P hTK;have hcl:closureFor scope X.env=pure (Zr X.env.cells scope.names []):=Wf λn hn=>I.ok.has n (hfr n hn)
 refine K7 (MW I B hcode hc hP hps hcl λf q qual pm cv ctv H1 h1 tk I1 kp lsts tbls TY hf hcf hHf _ _ _=>X2 ⟨I1.kIn,?_⟩);have rh1:RelH X.K h H1:=⟨λa ds e=>by
  obtain⟨vs,e1,e2⟩:=rh a ds e;exact⟨vs,lsts _ _ e1 (by intro _ z;cases z),e2.mono kp⟩,λP' hP'=>by
  by_cases z:P'=P
  ·subst z;exact TY
  ·obtain⟨ps',e1,e2⟩:=rh.tb P' hP';exact⟨ps',tbls _ _ e1 z,e2.mono kp.frz⟩,λa c e=>(rh.dc a c e).mono kp λo w=>by
  obtain⟨u,w',d⟩:=(rh.dc a c e).obj;rw [w] at w';cases w';exact lsts _ _ w d.no.2.2.2.2⟩
 have rs1:RelS X.K H1 σd σ:=rs.mono kp;refine Fn (us:= [.ref f]) (vs:= [.ref f]) (dvs:= []) (ds:= []) (E:=E0) F hr hb .nil BV I1 (.cons rfl .nil) ?_;refine⟨f,_,qual,pm,cv,ctv,Zr X.env.cells scope.names [],q,X.N,σ,scope,body,h,Qd,rfl,hf,rfl,hcf,hHf,L,Cap.of I1 hfr,rh1,jz post kp,?_⟩;rcases alt with t|t
 ·refine .inl ⟨λv H'=> ∃d h',Kept H1 H'/\RelH X.K h' H'/\RelD X.K H' d v/\Qd (.tup [.str "told",d]) h',λA' outer' s' E' hr'=>⟨_,(hT q cv _ f A' outer' s' H1 E' hr').to,σd,h,_,rs1,rh1,t,λd v h' H' k r1 r2 q=>⟨d,h',k,r1,r2,q⟩⟩,λv H' q=>q⟩
 ·refine .inr ⟨λC H'=> ∃c h',X.mg c=some (.ref C)/\c∈CN/\Kept H1 H'/\RelH X.K h' H'/\Qd (.tup [.str (Jd c)]) h',λA' outer' s' hr' pins2 s2 I2=> ?_,λC H' q=>q⟩;exact(hR q cv _ f A' outer' s' H1 _ hr').to _ Av pins2 s2 σ H1 σd h _ I2 rs1 rh1 t λc C h' H' k rh' hmc ⟨hcn,qq⟩=>⟨C,rfl,c,h',hmc,hcn,k,rh',qq⟩⟩
variable {K:Frag}{x:Str}
theorem Ng {f c P:Addr}{oc:Value}{od:Option Addr}{fd:FuncData}{osl:Array (Option Value)}(a:nsIn K mainGlobals x=some (some (.ref f)))(l:K.lookup f=some ⟨oc,od,.func fd,osl⟩)(t:tabIn K x=some (c,P)):fd.code= .ref c:=by
 unfold tabIn at t;rw [a] at t;simp only [l] at t;split at t
 ·rename_i c' hc';split at t
  ·split at t
   ·cases t;exact hc'
   ·cases t
  ·cases t
 ·cases t
def CN13:List Str:= ["NoTable","NoPlace","NoNumber","NoOrder","NoSet","NoWalk","NoLengths","NoWay","Apart","NoRow","NoTables","NoText","TooGreat"]
def adr (K:Frag)(x:Str):Option Addr:=match nsIn K mainGlobals x with
 |some (some (.ref a))=>some a
 |_=>none
def Nh (K:Frag)(C:Addr):Bool:=(clsIn K C).isSome&&findIn K (.ref C) "__getattribute__" ==some (some (.builtin "BaseException.__getattribute__"))&&findIn K (.ref C) "__getattr__" ==some none
 &&findIn K (.ref C) "__class__" ==some (some (.builtin "object.__class__"))&&specialIn K (.builtin "object.__class__") "__get__" ==some (some (.builtin "getset_descriptor.__get__"))
 &&takesIn K (.builtin "object.__class__")==some true&&mroIn K C (.type "object")==some true&&mroIn K C (.type "BaseException")==some true
theorem Fr {C:Addr}(h:Nh K C=true):ExcK K C:=by
 unfold Nh at h;simp only [S5,V4] at h;obtain⟨⟨⟨⟨⟨⟨⟨a,b⟩,c⟩,d⟩,e⟩,f⟩,g⟩,i⟩:=h;exact⟨a,b,c,d,e,f,g,i⟩
def Bl (K:Frag)(c:Str):Bool:=match adr K c,adr K "PowerError" with
 |some C,some pe=>excIn K C bmV "ValueError.__new__" &&Nh K C&&kitOne K (.ref C) (.type "ValueError")==some true&&exmOne K (.ref C) (.ref pe)==some true&&CN13.all λd=>match adr K d with
  |some D=>kitOne K (.ref C) (.ref D)==some (c==d)
  |none=>false
 |_,_=>false
def Ta (K:Frag):Bool:=CN.all (Bl K)&&CN13.all (λd=>(adr K d).isSome)&&(adr K "PowerError").isSome&&nsIn K mainGlobals "ValueError" ==some none
structure Exc (K:Frag)(mg:Str->Option Value):Prop where
 own: ∀c∈CN,OwnX K mg c
 ek: ∀c∈CN,∀C,mg c=some (.ref C)->ExcK K C
 kit: ∀c∈CN,∀d∈CN13,∀C D,mg c=some (.ref C)->mg d=some (.ref D)->kitOne K (.ref C) (.ref D)=some (c==d)
 val: ∀c∈CN,∀C,mg c=some (.ref C)->kitOne K (.ref C) (.type "ValueError")=some true
 pe: ∃pe,mg "PowerError" =some (.ref pe)/\ ∀c∈CN,∀C,mg c=some (.ref C)->exmOne K (.ref C) (.ref pe)=some true
 cls: ∀d∈CN13,∃D,mg d=some (.ref D)
 ve:mg "ValueError" =none
theorem Qi {h:Heap}{a:Addr}(X:K.In h)(G:h.Ns mainGlobals mg)(e:adr K x=some a):mg x=some (.ref a):=by
 unfold adr at e;split at e
 ·rename_i q;cases e;exact mg_of X G q
 ·cases e
theorem AB {a:Addr}(e:adr K x=some a):nsIn K mainGlobals x=some (some (.ref a)):=by
 unfold adr at e;split at e
 ·rename_i q;cases e;exact q
 ·cases e
theorem AC {h:Heap}(X:K.In h)(G:h.Ns mainGlobals mg)(e:Ta K=true):Exc K mg:=by
 unfold Ta at e;simp only [S5,R0,V4] at e;obtain⟨⟨⟨e1,e2⟩,e3⟩,e4⟩:=e;obtain⟨pe,hpe⟩:=N5.mp e3;have A: ∀c∈CN,∃C,adr K c=some C/\mg c=some (.ref C)/\excIn K C bmV "ValueError.__new__" =true/\Nh K C=true/\kitOne K (.ref C) (.type "ValueError")=some true/\exmOne K (.ref C) (.ref pe)=some true/\ ∀d∈CN13,∀D,adr K d=some D->kitOne K (.ref C) (.ref D)=some (c==d):=λc hc=>by
  have q:=e1 c hc;unfold Bl at q;rw [hpe] at q;split at q
  ·rename_i C pe' h1 h2;cases h2;simp only [S5,R0,V4] at q;obtain⟨⟨⟨⟨q1,q2⟩,q3⟩,q4⟩,q5⟩:=q;refine⟨C,h1,Qi X G h1,q1,q2,q3,q4,λd hd D hD=> ?_⟩;have:=q5 d hd;rw [hD] at this;simpa using this
  ·cases q
 have same: ∀ {c:Str} {C C':Addr},mg c=some (.ref C)->mg c=some (.ref C')->C=C':=λa b=>by rw [a] at b;cases b;rfl
 refine⟨λc hc=> ?_,λc hc C h=> ?_,λc hc d hd C D h1 h2=> ?_,λc hc C h=> ?_,⟨pe,Qi X G hpe,λc hc C h=> ?_⟩,λd hd=> ?_,mg_none_of X G e4⟩
 ·obtain⟨C,a,m,q,_⟩:=A c hc;exact⟨C,m,AB a,q⟩
 ·obtain⟨C',_,m,_,q,_⟩:=A c hc;cases same h m;exact Fr q
 ·obtain⟨C',_,m,_,_,_,_,q⟩:=A c hc;cases same h1 m;obtain⟨D',hD⟩:=N5.mp (e2 d hd);cases same h2 (Qi X G hD);exact q d hd D hD
 ·obtain⟨C',_,m,_,_,q,_⟩:=A c hc;cases same h m;exact q
 ·obtain⟨C',_,m,_,_,_,q,_⟩:=A c hc;cases same h m;exact q
 ·obtain⟨D',hD⟩:=N5.mp (e2 d hd);exact⟨D',Qi X G hD⟩
section
variable {P:Program}{w:World}{K:PySem.W.Frag}{mg:Str->Option Value}{base:Heap}
theorem Fun.okJL {x qual:Str}{st:Stmt}{f c Pt:Addr}{fd:FuncData}{N ps:List Str}{k:Nat}{spd:RDn}(F:Fun K x qual st f fd)(a:nsIn K mainGlobals x=some (some (.ref f)))(T:tabIn K x=some (c,Pt))(S:FnScope N ps (jc st))(len: ∀ds h Q,spd ds h Q->ds.length=ps.length)
 (tb:TSD)(hbody: ∀ (A:Around) (outer:List Env) (s:Shared) (H:Hp) (E:XK),Room k (A.deeper (envOfC qual (jc st) s.heap.objs.size f (.ref c)))->JSs (WL CX0 P w K mg base N qual (jc st) f (.ref c) A outer s H E).nox (jL st) tb)
 (read: ∀ds h Q,spd ds h Q->tb (VM Q) (jQ N ds) h):FnOk P w K mg base CX0 (k+1) f fd ps (LSp K spd):=by
 obtain⟨oc,od,kV,doc,pm,an,cdv,ct,osl,rfl,lk,hcd⟩:=F.ex;have e:cdv= .ref c:=Ng a lk T;subst e;refine BO lk hcd S (λvs H Q E h=> ?_) λA outer s H vs Q E hr h=> ?_
 ·obtain⟨ds,h,Qd,r,rh,q,p⟩:=h;rw [<-r.length];exact len _ _ _ q
 ·obtain⟨ds,h,Qd,r,rh,q,p⟩:=h;refine⟨_,((hbody A outer s H E hr).to).nox,jQ N ds,h,VM Qd,va r,rh,read ds h Qd q,λσd' h' σ' H' k rs' rh' ⟨h2,sb,q'⟩=>p .non .non h2 H' k (rh'.sub sb) rfl q',λd v h' H' k rh' r' ⟨h2,sb,q'⟩=>p d v h2 H' k (rh'.sub sb) r' q',λ_ _ _ _ _ _ _ z=>z.elim,λ_ _ _ _ _ _ _ z=>z.elim⟩
end
def AD (P:Program)(w:World)(K:PySem.W.Frag)(mg:Str->Option Value)(base:Heap)(n:Nat):Prop:=
 ∃ (g:Addr) (gd:FuncData),FnOkS P w K mg base CX0 (n+2) g gd ["_law_call"] (Qh P w K mg base n)/\Binds K gd ["_law_call"] []/\PySem.W.keepIn K (.ref g)=true/\mg "_law_said" =some (.ref g)
def Fs (K:Frag)(x:Str):Bool:=match tabIn K x with
 |some p=>codeHdIn K p.1 p.2
 |none=>false
theorem Ft (h:Fs K x=true): ∃c P,tabIn K x=some (c,P)/\codeHdIn K c P=true:=by
 unfold Fs at h;split at h
 ·rename_i p e;exact⟨p.1,p.2,e,h⟩
 ·cases h
def DV (mg:Str->Option Value):RDn:=λds h Q=> ∃c C,ds= [.exc C]/\c∈CN/\mg c=some (.ref C)/\ ∀h',Sub h h'->Q (.str (Jd c)) h'
end L2
namespace L2
open PySem PySem.Spec PyProof.Rows PySem.SeqAt
theorem Uc {α:Type}{p q:α->Bool}: ∀ {l:List α},(∀x∈l,p x=true->q x=true)->(∃x,x∈l/\p x=false/\q x=true)->l.countP p+1<=l.countP q
 | [],_,⟨_,hx,_⟩=>by cases hx
 |a::l,hm,⟨x,hx,h1,h2⟩=>by
  have hm': ∀x∈l,p x=true->q x=true:=λy hy=>hm y (R1 _ hy)
  have le:l.countP p<=l.countP q:=List.countP_mono_left hm';rw [List.countP_cons,List.countP_cons]
  by_cases z:x=a
  ·subst z;rw [h1,h2];simp;omega
  ·have hx':x∈l:=(D0.mp hx).resolve_left z;have:=Uc hm' ⟨x,hx',h1,h2⟩
   by_cases w:p a=true
   ·rw [w,hm a D7 w];simp;omega
   ·rw [show p a=false by simpa using w];simp;omega
theorem AE {n:Nat}(P:Nat->Nat->Bool)(up: ∀m i,i<n->P m i=true->P (m+1) i=true)(st: ∀m,(∀i,i<n->P (m+1) i=P m i)-> ∀i,i<n->P (m+2) i=P (m+1) i)
 (M:Nat)(hM: ∀m,M<=m-> ∀i,i<n->P m i=true)(ne: ∃i,i<n/\P 0 i=true): ∀i,i<n->P (n-1) i=true:=by
 have key: ∀m,(∀i,i<n->P m i=true)\/m+1<=(List.range n).countP (P m):=by
  intro m
  induction m with
  |zero=>
   obtain⟨i,hi,e⟩:=ne;exact .inr (List.countP_pos_iff.mpr ⟨i,P2.mpr hi,e⟩)
  |succ m ih=>
   rcases ih with ih|ih
   ·exact .inl λi hi=>up m i hi (ih i hi)
   ·by_cases eq: ∀i,i<n->P (m+1) i=P m i
    ·left;have go: ∀t i,i<n->P (m+t+1) i=P (m+t) i:=by
      intro t
      induction t with
      |zero=>exact eq
      |succ t iht=>exact st (m+t) iht
     have all: ∀t i,i<n->P (m+t) i=P m i:=by
      intro t
      induction t with
      |zero=>intro i _;rfl
      |succ t iht=>intro i hi;rw [<-iht i hi];exact go t i hi
     intro i hi;rw [eq i hi,<-all M i hi];exact hM (m+M) (by omega) i hi
    ·right;have ⟨i,hi⟩: ∃i,i<n/\P (m+1) i≠P m i:=I0 λw=>eq λi hi=>I0 λw2=>w ⟨i,hi,w2⟩
     have hf:P m i=false:=by
      cases hp:P m i with
      |false=>rfl
      |true=>exact absurd ((up m i hi.1 hp).trans hp.symm) hi.2
     have ht:P (m+1) i=true:=by
      cases hp:P (m+1) i with
      |true=>rfl
      |false=>exact absurd (hp.trans hf.symm) hi.2
     have:=Uc (l:=List.range n) (p:=P m) (q:=P (m+1)) (λx hx=>up m x (P2.mp hx)) ⟨i,P2.mpr hi.1,hf,ht⟩;omega
 intro i hi;rcases key (n-1) with h|h
 ·exact h i hi
 ·have hle:(List.range n).countP (P (n-1))<=(List.range n).length:=List.countP_le_length;rw [R4] at hle;have:(List.range n).countP (P (n-1))=(List.range n).length:=by rw [R4];omega
  exact List.countP_eq_length.mp this i (P2.mpr hi)
section
variable {n e:Nat}{T:List (List Int)}
instance (k i j:Nat):Decidable (RP n T k i j):=inferInstanceAs (Decidable (ent (yy n T k) i j≠0))
theorem Xg (h:Sq n e T)(hn:n<=8)(n2:2<=n){K:Nat}(f: ∀i j,i<n->j<n->RP n T K i j)(f1: ∀i j,i<n->j<n->RP n T (K+1) i j): ∃s c,1<=s/\s<=n-1/\c<n/\RP n T s c c:=by
 refine I0 λz=> ?_
 have drop: ∀m i j,i<n->j<n->n<=m->RP n T m i j->RP n T (m-n) i j:=by
  intro m i j hi hj hm r;obtain⟨v,v0,vm,vl,vr⟩:=DL h hn m hi hj r;obtain⟨a,b,hab,hbn,eq⟩:=As (n:=n) (v:=v) λt ht=>vl t (by omega)
  have ha:=vl a (by omega);have p2:RP n T (b-a) (v a) (v a):=by
   have:=JJ h hn vl vr a (b-a) (by omega);rw [show a+(b-a)=b by omega,<-eq] at this;exact this
  have hba:b-a=n:=by
   by_cases w:b-a<=n-1
   ·exact absurd ⟨b-a,v a,by omega,w,ha,p2⟩ z
   ·omega
  have a0:a=0:=by omega
  have bn:b=n:=by omega
  subst a0;subst bn;have p3:=JJ h hn vl vr b (m-b) (by omega);rw [show b+(m-b)=m by omega,vm,<-eq,v0] at p3;exact p3
 have h0:0<n:=by omega
 have mod0: ∀m,RP n T m 0 0->m%n=0:=by
  intro m
  induction m using Nat.strongRecOn with
  |_ m ih=>
   intro r
   by_cases w:m<n
   ·by_cases y:m=0
    ·subst y;exact G0V n
    ·exact absurd ⟨m,0,by omega,by omega,h0,r⟩ z
   ·rw [Nat.mod_eq_sub_mod (by omega)];exact ih (m-n) (by omega) (drop m 0 0 h0 h0 (by omega) r)
 have a:=G0P (mod0 K (f 0 0 h0 h0));have b:=G0P (mod0 (K+1) (f1 0 0 h0 h0));have c:=(G0A a).mp b;have:=Nat.le_of_dvd (by decide) c;omega
theorem Ke (h:Sq n e T)(n1:1<=n)(h6:n<=6){K:Nat}(hK:1<=K)(f:jU (yy n T K)=true): ∃k,1<=k/\k<=30/\jU (yy n T k)=true:=by
 have hn:n<=8:=by omega
 have all: ∀m,K<=m-> ∀i j,i<n->j<n->RP n T m i j:=λm hm=>by
  have:=Xd h hn (a:=K) (by omega) f (m-K);rw [show K+(m-K)=m by omega] at this;exact(Ja (h.pow hn m)).mp this
 have pre: ∀j,j<n-> ∃k,k<n/\RP n T 1 k j:=λj hj=>by
  have:=all (K-1+1) (by omega) 0 j (by omega) hj;obtain⟨k,hk,_,r⟩:=(zT h hn (K-1) 1 (by omega) hj).mp this;exact⟨k,hk,r⟩
 have keep: ∀i m t,i<n->(∀j,j<n->RP n T m i j)-> ∀j,j<n->RP n T (m+t) i j:=by
  intro i m t hi r
  induction t with
  |zero=>exact r
  |succ t ih=>intro j hj;obtain⟨k,hk,r1⟩:=pre j hj;exact(zT h hn (m+t) 1 hi hj).mpr ⟨k,hk,ih k hk,r1⟩
 by_cases n2:2<=n
 ·obtain⟨s,c,s1,sn,hc,rc⟩:=Xg h hn n2 (all K (G8 _)) (all (K+1) (by omega));have e1: ∀m,s*(m+1)=s+s*m:=λm=>by rw [G1l];omega
  have A:=AE (n:=n) (λm j=>decide (RP n T (s*m) c j)) (λm j hj r=>G9 (by rw [e1];exact(zT h hn s (s*m) hc hj).mpr ⟨c,hc,rc,S9 r⟩))
   (λm eq j hj=>by
    have key: ∀m,RP n T (s*(m+1)) c j↔ ∃k,k<n/\RP n T (s*m) c k/\RP n T s k j:=λm=>by rw [G1l];exact zT h hn (s*m) s hc hj
    have eq2: ∀k,k<n->(RP n T (s*(m+1)) c k↔RP n T (s*m) c k):=λk hk=>by simpa using eq k hk
    have:RP n T (s*(m+1+1)) c j↔RP n T (s*(m+1)) c j:=by
     rw [key (m+1),key m];exact⟨λ⟨k,hk,a,b⟩=>⟨k,hk,(eq2 k hk).mp a,b⟩,λ⟨k,hk,a,b⟩=>⟨k,hk,(eq2 k hk).mpr a,b⟩⟩
    simpa using this) K (λm hm j hj=>G9 (all _ (R9 hm (Nat.le_mul_of_pos_left m s1)) c j hc hj)) ⟨c,hc,G9 (by rw [G1m];exact(jS hc hc).mpr rfl)⟩
  have any_iff: ∀m i,((List.range (m+1)).any (λt=>decide (RP n T t i c))=true)↔ ∃t,t<=m/\RP n T t i c:=λm i=>by
   rw [E4];exact⟨λ⟨t,ht,r⟩=>⟨t,by have:=P2.mp ht;omega,S9 r⟩,λ⟨t,ht,r⟩=>⟨t,P2.mpr (by omega),G9 r⟩⟩
  have stp: ∀m i,i<n->((∃t,t<=m+1/\RP n T t i c)↔(i=c\/ ∃k,k<n/\RP n T 1 i k/\ ∃t,t<=m/\RP n T t k c)):=λm i hi=>by
   constructor
   ·rintro ⟨t,ht,r⟩;cases t with
    |zero=>exact .inl ((jS hi hc).mp r)
    |succ t=>
     rw [G1h] at r;obtain⟨k,hk,a,b⟩:=(zT h hn 1 t hi hc).mp r;exact .inr ⟨k,hk,a,t,by omega,b⟩
   ·rintro (r|⟨k,hk,a,t,ht,b⟩)
    ·exact⟨0,by omega,(jS hi hc).mpr r⟩
    ·exact⟨1+t,by omega,(zT h hn 1 t hi hc).mpr ⟨k,hk,a,b⟩⟩
  have beq: ∀ {a b:Bool},(a=true↔b=true)->a=b:=λ{a b} h=>by cases a<;>cases b<;>simp_all
  have B:=AE (n:=n) (λm i=>(List.range (m+1)).any (λt=>decide (RP n T t i c))) (λm i hi r=>by
   obtain⟨t,ht,r⟩:=(any_iff m i).mp r;exact(any_iff (m+1) i).mpr ⟨t,by omega,r⟩)
   (λm eq i hi=>beq (by
    have eq2: ∀k,k<n->((∃t,t<=m+1/\RP n T t k c)↔ ∃t,t<=m/\RP n T t k c):=λk hk=>by
     rw [<-any_iff (m+1) k,<-any_iff m k];have:=eq k hk;rw [this]
    rw [any_iff (m+2) i,any_iff (m+1) i,stp (m+1) i hi,stp m i hi];exact⟨λw=>w.elim .inl λ⟨k,hk,a,b⟩=> .inr ⟨k,hk,a,(eq2 k hk).mp b⟩,λw=>w.elim .inl λ⟨k,hk,a,b⟩=> .inr ⟨k,hk,a,(eq2 k hk).mpr b⟩⟩))
   K (λm hm i hi=>(any_iff m i).mpr ⟨K,hm,all K (G8 _) i c hi hc⟩) ⟨c,hc,(any_iff 0 c).mpr ⟨0,G8 _,(jS hc hc).mpr rfl⟩⟩
  refine⟨(n-1)+s*(n-1),by omega,?_,(Ja (h.pow hn _)).mpr λi j hi hj=> ?_⟩
  ·have a:=Nat.mul_le_mul (show s<=5 by omega) (show n-1<=5 by omega);omega
  ·obtain⟨t,ht,r⟩:=(any_iff (n-1) i).mp (B i hi);have row: ∀j,j<n->RP n T (t+s*(n-1)) i j:=λj hj=>(zT h hn t (s*(n-1)) hi hj).mpr ⟨c,hc,r,S9 (A j hj)⟩
   have:=keep i (t+s*(n-1)) (n-1-t) hi row j hj;rw [show t+s*(n-1)+(n-1-t)=n-1+s*(n-1) by omega] at this;exact this
 ·have hn1:n=1:=by omega
  refine⟨1,G8 _,by decide,(Ja (h.pow hn 1)).mpr λi j hi hj=> ?_⟩;obtain⟨k,hk,r⟩:=pre j hj;rw [show i=k by omega];exact r
end
end L2
namespace L2
open PySem PySem.Spec PyProof.Rows PySem.W
section
variable {X:Cx}{e a b iter:Expr}{es:List Expr}{u:TXD}{pos p:Pos}{rest:List Stmt}
theorem AF {tg:Expr}{body:List Stmt}(hi:JXE X iter u)(hs: ∀x,foldedSetIterable iter X.env x=pure x:=by intro _;rfl):JX X (.For tg iter body [] pos::rest) u:=⟨λE Z pins s σ H σd h R I rs rh ht w=>
 O5 (wpAny_For (R5 (hi.to E Z pins s σ H σd h R I rs rh ht w) (λ_ _ z=>z.elim) λ_ _ z=>z) hs)⟩
end
end L2
namespace L2
open PySem PySem.Spec PyProof.Rows
def TrV (K:PySem.W.Frag)(H:Hp):V->Bool->Prop
 | .bl b,c=>c=b
 | .int i,c=>c=(i !=0)
 | .non,c=>c=false
 | .ref a,c=> ∃xs,SqL K H a xs/\c= !xs.isEmpty
 |_,_=>False
def TrD (h:HD):D->Bool->Prop
 | .bl b,c=>c=b
 | .int i,c=>c=(i !=0)
 | .non,c=>c=false
 | .lst a,c=> ∃ds,h a=some ds/\c= !ds.isEmpty
 |_,_=>False
theorem TrD.to {K:PySem.W.Frag}{H:Hp}{h:HD}{d:D}{v:V}{c:Bool}(t:TrD h d c)(r:RelD K H d v)(rh:RelH K h H):TrV K H v c:=by
 cases d<;>try exact t.elim
 ·have e:v= .non:=r;subst e;exact t
 ·have e:v= .bl _:=r;subst e;exact t
 ·have e:v= .int _:=r;subst e;exact t
 ·obtain⟨e,_⟩:=r;subst e;obtain⟨ds,hd,e⟩:=t;obtain⟨vs,hv,r'⟩:=rh _ ds hd;refine⟨vs,SqL.of hv,?_⟩;rw [e];have:=r'.length;cases ds<;>cases vs<;>first|rfl|(simp at this)
section
variable {X:Cx}{pins:List (Addr×Obj)}{σ:St}{H:Hp}{s:Shared}{E:Value->Shared->Prop}
theorem Inv.trv {v:V}{u:Value}{c:Bool}{Q:Bool->Shared->Prop}(I:Inv X pins σ H s)(r:RelV v u)(t:TrV X.K H v c)(q: ∀s',Inv X pins σ H s'->Q c s'):wpAny (model X.prog X.w) X.A (truthy u) Q E s:=by
 cases v<;>try exact t.elim
 ·have e:u=Value.none:=r;subst e;have e:c=false:=t;subst e;exact truthy_none (q _ I)
 ·have e:u=Value.bool _:=r;subst e;have e:c=_:=t;subst e;exact N4 (q _ I)
 ·obtain⟨t',e⟩:=r;subst e;have e:c=_:=t;subst e;exact truthy_int (q _ I)
 ·have e:u=Value.ref _:=r;subst e;obtain⟨xs,hx,e⟩:=t;obtain⟨its,rv,p,hz⟩:=I.list hx;have hl:=rv.length;have e2:c= !its.toArray.isEmpty:=by
   rw [e];cases xs<;>cases its<;>first|rfl|(simp at hl)
  refine wpAny_truthy_list p.isList ?_ ?_
  ·have:xs.length<=16777216:=R9 hz (by decide);simp only [P8];have e3:((2:Int)^63)=9223372036854775808:=by decide
   rw [e3];omega
  ·rw [<-e2];exact q _ (I.tok _)
end
section
variable {X:Cx}{a b:Expr}{rest:List Expr}{pos:Pos}
def Hc (K:PySem.W.Frag)(t:TE):TT:=λσ H Q=>t σ H λx H1=> ∃c,TrV K H1 x c/\Q c H1
theorem AG {e:Expr}{t:TE}(h:PE X e t)(he: ∀whole,isTrue e X.env whole=(do let v <-whole;standAt e.pos;holding [v] (truthy v)):=by intro _;rfl):PT X e (Hc X.K t):=by
 intro pins s σ H Q I hw;refine isTrue_plain (thn (h pins s σ H _ I hw) λv s1 ⟨x,H1,I1,r1,q1⟩=> ?_) (he _);obtain⟨c,t1,q⟩:=q1;exact I1.trv r1 t1 λs' I'=>⟨H1,I',q⟩
def Hd (t:TED):TTD:=λσ h Q=>t σ h λx h1=> ∃c,TrD h1 x c/\Q c h1
variable {K:PySem.W.Frag}
theorem AH {t:TED}: ∀σ H Q,LT K (Hd t) σ H Q->Hc K (LE K t) σ H Q:=λσ H Q ⟨σd,h,Qd,rs,rh,t,p⟩=>
 LE.bind rs rh t λd v h1 H1 k1 rs1 rh1 r1 ⟨k,e,q⟩=>⟨k,e.to r1 rh1,p k h1 H1 k1 rh1 q⟩
theorem Tb {ta:TED}(ha:JE X a ta)(he: ∀whole,isTrue a X.env whole=(do let v <-whole;standAt a.pos;holding [v] (truthy v)):=by intro _;rfl):JT X a (Hd ta):=⟨(AG ha.to he).imp AH⟩
end
end L2
namespace L2
open PySem PySem.Spec PyProof.Rows PySem.SeqAt
section
variable {n e:Nat}{T:List (List Int)}
theorem Xh (h:Sq n e T)(hn:n<=8){c x:Nat}(hx:x<n)(l:RP n T c x x): ∀q,RP n T (c*q) x x
 |0=>by rw [G1m];exact(jS hx hx).mpr rfl
 |q+1=>DK h hn hx l q
theorem jZ (h:Sq n e T)(hn:n<=8){a b i j k:Nat}(hi:i<n)(hk:k<n)(hj:j<n)(x:RP n T a i k)(y:RP n T b k j):RP n T (a+b) i j:=(zT h hn a b hi hj).mpr ⟨k,hk,x,y⟩
theorem DW (h:Sq n e T)(hn:n<=8){k:Nat}:jU (yy n T k)=true↔ ∀i j,i<n->j<n->RP n T k i j:=Ja (h.pow hn k)
theorem DY (h:Sq n e T)(hn:n<=8){c:Nat->Nat}(cl: ∀t,c t<n)(st: ∀t,RP n T 1 (c t) (c (t+1)))(t:Nat): ∀s,RP n T s (c t) (c (t+s))
 |0=>(jS (cl t) (cl t)).mpr rfl
 |s+1=>jZ h hn (cl _) (cl (t+s)) (cl _) (DY h hn cl st t s) (st (t+s))
theorem Je (h:Sq n e T)(hn:n<=8){i j:Nat}:RP n T 1 i j↔ent T i j≠0:=by unfold RP;rw [Dt h hn]
end
end L2
namespace L2
theorem IsS.ext {n:Nat}{S S':List Nat}(h:IsS n S)(h':IsS n S')(m: ∀j,j∈S↔j∈S'):S=S':=by
 obtain⟨p,rfl⟩:=h;obtain⟨q,rfl⟩:=h';refine G0y λj hj=> ?_
 have:=m j;rw [S8,S8] at this;have e:p j=true↔q j=true:=⟨λz=>(this.mp ⟨hj,z⟩).2,λz=>(this.mpr ⟨hj,z⟩).2⟩;cases hp:p j<;>cases hq:q j<;>simp_all
theorem Va: ∀ (L:List Nat) (g d:Nat),d∣L.foldl Nat.gcd g↔d∣g/\ ∀l∈L,d∣l
 | [],g,d=>by simp
 |x::L,g,d=>by
  show d∣L.foldl Nat.gcd (Nat.gcd g x)↔_;rw [Va L,Nat.dvd_gcd_iff];simp only [D0,forall_eq_or_imp];exact⟨λ⟨⟨a,b⟩,c⟩=>⟨a,b,c⟩,λ⟨a,b,c⟩=>⟨⟨a,b⟩,c⟩⟩
end L2
namespace HT
open PySem PyProof.Rows
section
variable {prog:Program}{w:World}{A:Around}{E:Value->Shared->Prop}{σ α β:Type}{J:Shared->Prop}
def Tm (prog:Program)(w:World)(A:Around)(E:Value->Shared->Prop)(J:Shared->Prop){σ α:Type}(m:StateT σ Sem α)(Q:α->σ->Prop)(st:σ):Prop:=
 ∀s,J s->wpAny (model prog w) A (m.run st) (λr s'=>Q r.1 r.2/\J s') E s
theorem Tm.pure {a:α}{Q:α->σ->Prop}{st:σ}(h:Q a st):Tm prog w A E J (Pure.pure a:StateT σ Sem α) Q st:=λs j=>by
 rw [StateT.run_pure];exact P4 ⟨h,j⟩
theorem Tm.bind {m:StateT σ Sem α}{f:α->StateT σ Sem β}{Q:β->σ->Prop}{st:σ}(h:Tm prog w A E J m (λa st'=>Tm prog w A E J (f a) Q st') st):Tm prog w A E J (m >>= f) Q st:=λs j=>by
 rw [StateT.run_bind];exact wpAny_bind (R5 (h s j) (λr s' x=>x.1 s' x.2) λ_ _ e=>e)
theorem Tm.get {Q:σ->σ->Prop}{st:σ}(h:Q st st):Tm prog w A E J (MonadState.get:StateT σ Sem σ) Q st:=λs j=>by
 show wpAny _ _ ((StateT.get:StateT σ Sem σ).run st) _ _ _;exact P4 ⟨h,j⟩
theorem Tm.mono {m:StateT σ Sem α}{Q Q':α->σ->Prop}{st:σ}(h:Tm prog w A E J m Q st)(q: ∀a st',Q a st'->Q' a st'):Tm prog w A E J m Q' st:=λs j=>
 R5 (h s j) (λr s' x=>⟨q _ _ x.1,x.2⟩) λ_ _ e=>e
theorem Tm.range' {f:Nat->β->StateT σ Sem (ForInStep β)}(I:Nat->β->σ->Prop){Q:β->σ->Prop}{b:Nat}(step: ∀i c st,i<b->I i c st->Tm prog w A E J (f i c) (λr st'=>match r with| .done c'=>Q c' st'| .yield c'=>I (i+1) c' st') st)(fin: ∀c st,I b c st->Q c st):
 ∀ (k i:Nat) (c:β) (st:σ),i+k=b->I i c st->Tm prog w A E J (forIn (List.range' i k) c f) Q st
 |0,i,c,st,e,h=>by
  rw [List.range'_zero,List.forIn_nil];exact .pure (fin c st (by rw [<-e];exact h))
 |k+1,i,c,st,e,h=>by
  rw [List.range'_succ,G0b];refine .bind ((step i c st (by omega) h).mono λr st' x=> ?_);cases r with
  |done c'=>exact .pure x
  |yield c'=>exact Tm.range' I step fin k (i+1) c' st' (by omega) x
theorem Tm.range {f:Nat->β->StateT σ Sem (ForInStep β)}(I:Nat->β->σ->Prop){Q:β->σ->Prop}{a b:Nat}{c:β}{st:σ}(hab:a<=b)(h:I a c st)(step: ∀i c st,i<b->I i c st->Tm prog w A E J (f i c) (λr st'=>match r with| .done c'=>Q c' st'| .yield c'=>I (i+1) c' st') st)(fin: ∀c st,I b c st->Q c st):
 Tm prog w A E J (forIn [a:b] c f) Q st:=λs j=>by
 rw [Std.Legacy.Range.forIn_eq_forIn_range'];have e:([a:b]:Std.Legacy.Range).size=b-a:=by simp [Std.Legacy.Range.size]
 rw [e];exact Tm.range' I step fin (b-a) a c st (by omega) h s j
end
section
variable {prog:Program}{w:World}{A:Around}{E:Value->Shared->Prop}{J:Shared->Prop}{κ:SortKind}{U:Keyed->Prop}{R:Keyed->Keyed->Bool}
def Vb (prog:Program)(w:World)(A:Around)(J:Shared->Prop)(κ:SortKind)(U:Keyed->Prop)(R:Keyed->Keyed->Bool):Prop:=
 ∀x y,U x->U y-> ∀s,J s->wpAny (model prog w) A (keyLt' κ x.1 y.1) (λb s'=>b=R x y/\J s') (λ_ _=>False) s
theorem Tm.lt {x y:Keyed}{st:SortSt}{Q:Option Bool->SortSt->Prop}(a:Vb prog w A J κ U R)(k:kindOf st=κ)(hx:U x)(hy:U y)(q:Q (some (R x y)) st):Tm prog w A E J (lt' x y) Q st:=by
 rw [lt'_eq];refine .bind (.get ?_);rw [k];intro s j;rw [StateT.run_bind];refine wpAny_bind ?_;show wpAny _ _ ((StateT.lift _:StateT SortSt Sem _).run st) _ _ _;rw [StateT.run_lift];refine wpAny_bind (wpAny_attempt (R5 (a x y hx hy s j) (λb s' x=> ?_) λ_ _ e=>e.elim));obtain⟨rfl,j'⟩:=x;exact P4 (Tm.pure (prog:=prog) (w:=w) (A:=A) (E:=E) (J:=J) q s' j')
theorem Tm.elem {arr:Array Keyed}{i:Nat}{x:Keyed}{st:SortSt}{Q:Keyed->SortSt->Prop}(e:arr[i]? =some x)(q:Q x st):Tm prog w A E J (elem' arr i) Q st:=by
 rw [elem'_eq,e];exact .pure q
theorem AI {n lo hi:Nat}{g:Nat->Bool}{st:SortSt}{f:Nat->Option (Option Nat)×Nat×Nat->StateT SortSt Sem (ForInStep (Option (Option Nat)×Nat×Nat))}(anti: ∀i j,i<=j->j<n->g j=true->g i=true)
 (h1:lo<=hi)(h2:hi<=n)(a1: ∀i,i<lo->g i=true)(a2: ∀i,hi<=i->i<n->g i=false)
 (stop: ∀i l,Tm prog w A E J (f i (none,l,l)) (λr st'=>st'=st/\r= .done (none,l,l)) st)
 (step: ∀i l u,l<u->u<=n->Tm prog w A E J (f i (none,l,u)) (λr st'=>st'=st/\r=if g (l+(u-l) / 2)=true then .yield (none,l+(u-l) / 2+1,u) else .yield (none,l,l+(u-l) / 2)) st):
 Tm prog w A E J (forIn [0:n] (none,lo,hi) f) (λc st'=>st'=st/\c.1=none/\c.2.2<=n/\(∀i,i<c.2.2->g i=true)/\ ∀i,c.2.2<=i->i<n->g i=false) st:=by
 have no: ∀i j,i<=j->j<n->g i=false->g j=false:=λi j hij hj z=>by
  cases hb:g j with
  |false=>rfl
  |true=>rw [anti i j hij hj hb] at z;cases z
 refine Tm.range (λi c st'=>st'=st/\c.1=none/\c.2.1<=c.2.2/\c.2.2<=n/\(∀i,i<c.2.1->g i=true)/\(∀i,c.2.2<=i->i<n->g i=false)/\c.2.2-c.2.1+i<=n) (Nat.zero_le _) ⟨rfl,rfl,h1,h2,a1,a2,by dsimp only;omega⟩ ?_ ?_
 ·rintro i ⟨r,l,u⟩ _ hi ⟨rfl,hr,b1,b2,b3,b4,b5⟩;dsimp only at hr b1 b2 b3 b4 b5;subst hr
  by_cases z:l=u
  ·subst z;refine(stop i l).mono ?_;rintro _ _ ⟨rfl,rfl⟩;exact⟨rfl,rfl,b2,b3,b4⟩
  ·refine(step i l u (by omega) b2).mono ?_;rintro _ _ ⟨rfl,rfl⟩;cases hg:g (l+(u-l) / 2) with
   |true=>
    rw [if_pos rfl];exact⟨rfl,rfl,by dsimp only;omega,b2,λj hj=>anti j _ (by dsimp only at hj;omega) (by omega) hg,b4,by dsimp only;omega⟩
   |false=>
    rw [if_neg (by decide)];exact⟨rfl,rfl,by dsimp only;omega,by dsimp only;omega,b3,λj hj hn=>no _ j hj hn hg,by dsimp only;omega⟩
 ·rintro ⟨r,l,u⟩ _ ⟨rfl,hr,b1,b2,b3,b4,b5⟩;dsimp only at hr b1 b2 b3 b4 b5 ⊢;exact⟨rfl,hr,b2,λj hj=>b3 j (by omega),b4⟩
def gal:Bool->Keyed->Array Keyed->Nat->Nat->Nat->StateT SortSt Sem (Option Nat):=sortPriv% PySem.Builtin.gallop
def byd (R:Keyed->Keyed->Bool)(left:Bool)(key:Keyed)(arr:Array Keyed)(base i:Nat):Bool:=
 match arr[base+i]? with
 |some x=>if left=true then R x key else !R key x
 |none=>false
theorem DZ {left:Bool}{key:Keyed}{arr:Array Keyed}{base n hint:Nat}{st:SortSt}{Q:Option Nat->SortSt->Prop}(a:Vb prog w A J κ U R)(k:kindOf st=κ)(uk:U key)(ua: ∀i,i<n-> ∃x,arr[base+i]? =some x/\U x)
 (anti: ∀i j,i<=j->j<n->byd R left key arr base j=true->byd R left key arr base i=true)(hh:hint<n)
 (q: ∀m,m<=n->(∀i,i<m->byd R left key arr base i=true)->(∀i,m<=i->i<n->byd R left key arr base i=false)->Q (some m) st):Tm prog w A E J (gal left key arr base n hint) Q st:=by
 have ask: ∀i (Q':Option Bool->SortSt->Prop),i<n->Q' (some (byd R left key arr base i)) st->Tm prog w A E J (do let x <-elem' arr (base+i);if left=true then lt' x key else do let b <-lt' key x;Pure.pure (b.map λz=> !z)) Q' st:=λi Q' hi q'=>by
  obtain⟨x,ex,ux⟩:=ua i hi;refine .bind (.elem ex ?_);unfold byd at q';rw [ex] at q';cases left with
  |true=>exact .lt a k ux uk q'
  |false=>exact .bind (.lt a k uk ux (.pure q'))
 have no: ∀i j,i<=j->j<n->byd R left key arr base i=false->byd R left key arr base j=false:=λi j hij hj z=>by
  cases hb:byd R left key arr base j with
  |false=>rfl
  |true=>rw [anti i j hij hj hb] at z;cases z
 unfold gal;refine .bind (ask hint _ hh ?_);dsimp only;cases hb:byd R left key arr base hint with
 |true=>
  rw [if_pos rfl];refine .bind (Tm.mono (Tm.range (λi c st'=>st'=st/\c.1=none/\c.2.1<c.2.2/\hint+c.2.1<n/\byd R left key arr base (hint+c.2.1)=true/\i+1<=c.2.2)
   (Q:=λc st'=>st'=st/\c.1=none/\c.2.1<c.2.2/\hint+c.2.1<n/\byd R left key arr base (hint+c.2.1)=true/\(n-hint<=c.2.2\/byd R left key arr base (hint+c.2.2)=false)) (T2 _) ⟨rfl,rfl,by decide,by omega,by simpa using hb,by decide⟩ ?_ ?_) ?_)
  ·rintro i ⟨r,lo,of⟩ _ hi ⟨rfl,hr,h1,h2,h3,h4⟩;dsimp only at hr h1 h2 h3 h4 ⊢;subst hr
   by_cases z:of>=n-hint
   ·rw [if_pos z];exact .pure ⟨rfl,rfl,h1,h2,h3,.inl z⟩
   ·rw [if_neg z];refine .bind (ask (hint+of) _ (by omega) ?_);dsimp only;cases hc:byd R left key arr base (hint+of) with
    |true=>exact .pure ⟨rfl,rfl,by dsimp only;omega,by dsimp only;omega,hc,by dsimp only;omega⟩
    |false=>exact .pure ⟨rfl,rfl,h1,h2,h3,.inr hc⟩
  ·rintro ⟨r,lo,of⟩ _ ⟨rfl,hr,h1,h2,h3,h4⟩;exact⟨rfl,hr,h1,h2,h3,.inl (by dsimp only at h4 ⊢;omega)⟩
  ·rintro ⟨r,lo,of⟩ _ ⟨rfl,hr,h1,h2,h3,h4⟩;dsimp only at hr h1 h2 h3 h4 ⊢;subst hr;dsimp only;refine .bind (Tm.mono (AI (g:=byd R left key arr base) anti (by omega) (by omega) (λi hi=>anti i _ (by omega) h2 h3) (λi hi hn=> ?_) (λi l=> ?_) (λi l u hl hu=> ?_)) ?_)
   ·rcases h4 with z|z
    ·omega
    ·exact no (hint+of) i (by omega) hn z
   ·rw [if_pos (G8 l)];exact .pure ⟨rfl,rfl⟩
   ·rw [if_neg (show ¬l>=u by omega)];refine .bind (ask (l+(u-l) / 2) _ (by omega) ?_);dsimp only;cases byd R left key arr base (l+(u-l) / 2)<;>exact .pure ⟨rfl,rfl⟩
   ·rintro ⟨r,l,u⟩ _ ⟨rfl,hr,b2,b3,b4⟩;dsimp only at hr b2 b3 b4 ⊢;subst hr;exact .pure (q u b2 b3 b4)
 |false=>
  rw [if_neg (by decide)];refine .bind (Tm.mono (Tm.range (λi c st'=>st'=st/\c.1=none/\c.2.1<c.2.2/\c.2.1<=hint/\byd R left key arr base (hint-c.2.1)=false/\i+1<=c.2.2)
   (Q:=λc st'=>st'=st/\c.1=none/\c.2.1<c.2.2/\c.2.1<=hint/\byd R left key arr base (hint-c.2.1)=false/\(hint+1<=c.2.2\/byd R left key arr base (hint-c.2.2)=true)) (Nat.zero_le _) ⟨rfl,rfl,by decide,by dsimp only;omega,by simpa using hb,by decide⟩ ?_ ?_) ?_)
  ·rintro i ⟨r,lo,of⟩ _ hi ⟨rfl,hr,h1,h2,h3,h4⟩;dsimp only at hr h1 h2 h3 h4 ⊢;subst hr
   by_cases z:of>=hint+1
   ·rw [if_pos z];exact .pure ⟨rfl,rfl,h1,h2,h3,.inl z⟩
   ·rw [if_neg z];refine .bind (ask (hint-of) _ (by omega) ?_);dsimp only;cases hc:byd R left key arr base (hint-of) with
    |false=>exact .pure ⟨rfl,rfl,by dsimp only;omega,by dsimp only;omega,hc,by dsimp only;omega⟩
    |true=>exact .pure ⟨rfl,rfl,h1,h2,h3,.inr hc⟩
  ·rintro ⟨r,lo,of⟩ _ ⟨rfl,hr,h1,h2,h3,h4⟩;exact⟨rfl,hr,h1,h2,h3,.inl (by dsimp only at h4 ⊢;omega)⟩
  ·rintro ⟨r,lo,of⟩ _ ⟨rfl,hr,h1,h2,h3,h4⟩;dsimp only at hr h1 h2 h3 h4 ⊢;subst hr;dsimp only;refine .bind (Tm.mono (AI (g:=byd R left key arr base) anti (by omega) (by omega) (λi hi=> ?_) (λi hi hn=>no _ i hi hn h3) (λi l=> ?_) (λi l u hl hu=> ?_)) ?_)
   ·rcases h4 with z|z
    ·omega
    ·exact anti i (hint-of) (by omega) (by omega) z
   ·rw [if_pos (G8 l)];exact .pure ⟨rfl,rfl⟩
   ·rw [if_neg (show ¬l>=u by omega)];refine .bind (ask (l+(u-l) / 2) _ (by omega) ?_);dsimp only;cases byd R left key arr base (l+(u-l) / 2)<;>exact .pure ⟨rfl,rfl⟩
   ·rintro ⟨r,l,u⟩ _ ⟨rfl,hr,b2,b3,b4⟩;dsimp only at hr b2 b3 b4 ⊢;subst hr;exact .pure (q u b2 b3 b4)
end
section
variable {κ:Type}{U:κ->Prop}{R:κ->κ->Bool}{al bl:List κ}
structure Ordd (U:κ->Prop)(R:κ->κ->Bool):Prop where
 asym: ∀x y,U x->U y->R x y=true->R y x=false
 neg: ∀x y z,U x->U y->U z->R x z=true->R x y=true\/R y z=true
theorem Ordd.refl (o:Ordd U R){x:κ}(u:U x):R x x=false:=by
 cases h:R x x with
 |false=>rfl
 |true=>have:=o.asym x x u u h;rw [h] at this;exact this
theorem Ordd.trans (o:Ordd U R){x y z:κ}(ux:U x)(uy:U y)(uz:U z)(a:R y x=false)(b:R z y=false):R z x=false:=by
 cases h:R z x with
 |false=>rfl
 |true=>
  rcases o.neg z y x uz uy ux h with z|z
  ·rw [b] at z;cases z
  ·rw [a] at z;cases z
abbrev Srt (R:κ->κ->Bool)(l:List κ):Prop:=l.Pairwise λx y=>R y x=false
structure MI (R:κ->κ->Bool)(al bl:List κ)(ia ib:Nat)(out:List κ):Prop where
 perm:out.Perm (al.take ia++bl.take ib)
 srt:Srt R out
 ra: ∀x∈out,∀y∈al.drop ia,R y x=false
 rb: ∀x∈out,∀y∈bl.drop ib,R y x=false
theorem za {l:List κ}{i:Nat}{y:κ}(h:l[i]? =some y):l.drop i=y::l.drop (i+1):=by
 obtain⟨hi,e⟩:=G5.mp h;rw [List.drop_eq_getElem_cons hi,e]
theorem Wi {l:List κ}{i:Nat}{y:κ}(h:l[i]? =some y):l.take (i+1)=l.take i++ [y]:=by
 rw [T8,h];rfl
theorem MI.start (al bl:List κ):MI R al bl 0 0 []:=⟨.refl _,.nil,λx hx=>(M0 hx).elim,λx hx=>(M0 hx).elim⟩
variable {ia ib:Nat}
theorem MI.pushB {out:List κ}{y:κ}(m:MI R al bl ia ib out)(o:Ordd U R)(ua: ∀x∈al,U x)(ub: ∀x∈bl,U x)(sa:Srt R al)(sb:Srt R bl)(hy:bl[ib]? =some y)(lt: ∀z,al[ia]? =some z->R y z=true):MI R al bl ia (ib+1) (out++ [y]):=by
 have dy:=za hy;have uy:=ub y (G7 hy);have sdb:Srt R (bl.drop ib):=sb.sublist (L7 _ _);rw [dy] at sdb;refine⟨?_,?_,λx hx z hz=> ?_,λx hx z hz=> ?_⟩
 ·rw [Wi hy,<-P0];exact m.perm.append_right _
 ·refine S2.mpr ⟨m.srt,T6 _ _,λx hx z hz=> ?_⟩;rw [G2.mp hz];exact m.rb x hx y (by rw [dy];exact D7 ..)
 ·rcases P9.mp hx with w|w
  ·exact m.ra x w z hz
  ·rw [G2.mp w];cases e:al[ia]? with
   |none=>rw [N9 (G0s.mp e)] at hz;cases hz
   |some a0=>
    have da:=za e;have ua0:=ua a0 (G7 e);have sda:Srt R (al.drop ia):=sa.sublist (L7 _ _);rw [da] at sda hz;have l0:=o.asym y a0 uy ua0 (lt a0 e);rcases D0.mp hz with v|v
    ·rw [v];exact l0
    ·exact o.trans uy ua0 (ua z (M7 v)) l0 ((Q0.mp sda).1 z v)
 ·rcases P9.mp hx with w|w
  ·exact m.rb x w z (by rw [dy];exact R1 _ hz)
  ·rw [G2.mp w];exact(Q0.mp sdb).1 z hz
theorem MI.pushA {out:List κ}{y:κ}(m:MI R al bl ia ib out)(o:Ordd U R)(ua: ∀x∈al,U x)(ub: ∀x∈bl,U x)(sa:Srt R al)(sb:Srt R bl)(hy:al[ia]? =some y)(ge: ∀z,bl[ib]? =some z->R z y=false):MI R al bl (ia+1) ib (out++ [y]):=by
 have dy:=za hy;have uy:=ua y (G7 hy);have sda:Srt R (al.drop ia):=sa.sublist (L7 _ _);rw [dy] at sda;refine⟨?_,?_,λx hx z hz=> ?_,λx hx z hz=> ?_⟩
 ·rw [Wi hy];refine(m.perm.append_right [y]).trans ?_;rw [P0,P0];exact(Q7).append_left _
 ·refine S2.mpr ⟨m.srt,T6 _ _,λx hx z hz=> ?_⟩;rw [G2.mp hz];exact m.ra x hx y (by rw [dy];exact D7 ..)
 ·rcases P9.mp hx with w|w
  ·exact m.ra x w z (by rw [dy];exact R1 _ hz)
  ·rw [G2.mp w];exact(Q0.mp sda).1 z hz
 ·rcases P9.mp hx with w|w
  ·exact m.rb x w z hz
  ·rw [G2.mp w];cases e:bl[ib]? with
   |none=>rw [N9 (G0s.mp e)] at hz;cases hz
   |some b0=>
    have db:=za e;have ub0:=ub b0 (G7 e);have sdb:Srt R (bl.drop ib):=sb.sublist (L7 _ _);rw [db] at sdb hz;have l0:=ge b0 e;rcases D0.mp hz with v|v
    ·rw [v];exact l0
    ·exact o.trans uy ub0 (ub z (M7 v)) l0 ((Q0.mp sdb).1 z v)
theorem MI.manyA (o:Ordd U R)(ua: ∀x∈al,U x)(ub: ∀x∈bl,U x)(sa:Srt R al)(sb:Srt R bl): ∀ (k:Nat) {ia:Nat} {out:List κ},MI R al bl ia ib out->ia+k<=al.length->(∀i,i<k-> ∀y,al[ia+i]? =some y-> ∀z,bl[ib]? =some z->R z y=false)->MI R al bl (ia+k) ib (out++(al.drop ia).take k)
 |0,ia,out,m,_,_=>by rw [Y1,B1];exact m
 |k+1,ia,out,m,hk,h=>by
  obtain⟨y,hy⟩: ∃y,al[ia]? =some y:=⟨_,G1 (by omega)⟩;have m1:=m.pushA o ua ub sa sb hy (h 0 (by omega) y hy);have:=MI.manyA o ua ub sa sb k m1 (by omega) (λi hi y hy=>h (i+1) (by omega) y (by rw [show ia+(i+1)=ia+1+i by omega];exact hy));rw [show ia+(k+1)=ia+1+k by omega,za hy,G1b,List.append_cons];exact this
theorem MI.manyB (o:Ordd U R)(ua: ∀x∈al,U x)(ub: ∀x∈bl,U x)(sa:Srt R al)(sb:Srt R bl): ∀ (k:Nat) {ib:Nat} {out:List κ},MI R al bl ia ib out->ib+k<=bl.length->(∀i,i<k-> ∀y,bl[ib+i]? =some y-> ∀z,al[ia]? =some z->R y z=true)->MI R al bl ia (ib+k) (out++(bl.drop ib).take k)
 |0,ib,out,m,_,_=>by rw [Y1,B1];exact m
 |k+1,ib,out,m,hk,h=>by
  obtain⟨y,hy⟩: ∃y,bl[ib]? =some y:=⟨_,G1 (by omega)⟩;have m1:=m.pushB o ua ub sa sb hy (h 0 (by omega) y hy);have:=MI.manyB o ua ub sa sb k m1 (by omega) (λi hi y hy=>h (i+1) (by omega) y (by rw [show ib+(i+1)=ib+1+i by omega];exact hy));rw [show ib+(k+1)=ib+1+k by omega,za hy,G1b,List.append_cons];exact this
theorem MI.all {out:List κ}(m:MI R al bl al.length bl.length out):out.Perm (al++bl)/\Srt R out:=by
 have:=m.perm;rw [E3,E3] at this;exact⟨this,m.srt⟩
theorem MI.done {out:List κ}(m:MI R al bl ia ib out)(o:Ordd U R)(ua: ∀x∈al,U x)(ub: ∀x∈bl,U x)(sa:Srt R al)(sb:Srt R bl)(ha:ia<=al.length)(hb:ib<=bl.length)(h:ia=al.length\/ib=bl.length):(out++al.drop ia++bl.drop ib).Perm (al++bl)/\Srt R (out++al.drop ia++bl.drop ib):=by
 have m1:=MI.manyA o ua ub sa sb (al.length-ia) m (by omega) (λi hi y hy z hz=>by
  have:=(G5.mp hz).1;omega)
 rw [show ia+(al.length-ia)=al.length by omega,S0 (by rw [T0];exact G8 _)] at m1;have m2:=MI.manyB o ua ub sa sb (bl.length-ib) m1 (by omega) (λi hi y hy z hz=>by
  have:=(G5.mp hz).1;omega)
 rw [show ib+(bl.length-ib)=bl.length by omega,S0 (l:=bl.drop ib) (by rw [T0];exact G8 _)] at m2;exact m2.all
theorem MI.lastA {out:List κ}(m:MI R al bl ia ib out)(o:Ordd U R)(ua: ∀x∈al,U x)(ub: ∀x∈bl,U x)(sa:Srt R al)(sb:Srt R bl)(ha:ia+1=al.length)(hb:ib<=bl.length)(h: ∀y∈bl,∀z,al[al.length-1]? =some z->R y z=true):(out++bl.drop ib++al.drop ia).Perm (al++bl)/\Srt R (out++bl.drop ib++al.drop ia):=by
 have m2:=MI.manyB o ua ub sa sb (bl.length-ib) m (by omega) (λi hi y hy z hz=>h y (G7 hy) z (by rw [<-ha];exact hz));rw [show ib+(bl.length-ib)=bl.length by omega,S0 (by rw [T0];exact G8 _)] at m2;have m1:=MI.manyA o ua ub sa sb (al.length-ia) m2 (by omega) (λi hi y hy z hz=>by
  have:=(G5.mp hz).1;omega)
 rw [show ia+(al.length-ia)=al.length by omega,S0 (l:=al.drop ia) (by rw [T0];exact G8 _)] at m1;exact m1.all
end
section
variable {prog:Program}{w:World}{A:Around}{E:Value->Shared->Prop}{J:Shared->Prop}{κ:SortKind}{U:Keyed->Prop}{R:Keyed->Keyed->Bool}
theorem Tm.rule {σ:Type}{x:String}{Q:Unit->σ->Prop}{st:σ}(q:Q () st):Tm prog w A E J (liftM (PySem.rule x):StateT σ Sem Unit) Q st:=λs j=>by
 show wpAny _ _ ((StateT.lift _:StateT σ Sem _).run st) _ _ _;rw [StateT.run_lift];exact wpAny_bind (G0u (P4 ⟨q,j⟩))
theorem Tm.modify {σ:Type}{f:σ->σ}{Q:Unit->σ->Prop}{st:σ}(q:Q () (f st)):Tm prog w A E J (_root_.modify f:StateT σ Sem PUnit) Q st:=λs j=>by
 rw [StateT.run_modify];exact P4 ⟨q,j⟩
def mLo:Array Keyed->Array Keyed->StateT SortSt Sem (Array Keyed):=sortPriv% PySem.Builtin.mergeLo
def Gal (st st':SortSt):Prop:=kindOf st'=kindOf st/\arrOf st'=arrOf st/\pendingOf st'=pendingOf st/\failedOf st'=failedOf st
theorem Gal.refl (st:SortSt):Gal st st:=⟨rfl,rfl,rfl,rfl⟩
theorem ZE (a:Array Keyed)(i:Nat):(a.extract i).toList=a.toList.drop i:=by
 rw [J5,List.extract_eq_drop_take];exact S0 (by simp)
theorem Qj (a:Array Keyed)(i k:Nat):(a.extract i (i+k)).toList=(a.toList.drop i).take k:=by
 rw [J5,List.extract_eq_drop_take,G0I]
def vd (R:Keyed->Keyed->Bool)(a b c:Array Keyed):Prop:=c.toList.Perm (a.toList++b.toList)/\Srt R c.toList
structure Two (U:Keyed->Prop)(R:Keyed->Keyed->Bool)(a b:Array Keyed):Prop where
 o:Ordd U R
 ua: ∀x∈a.toList,U x
 ub: ∀x∈b.toList,U x
 sa:Srt R a.toList
 sb:Srt R b.toList
 last: ∀y∈b.toList,∀z,a.toList[a.toList.length-1]? =some z->R y z=true
abbrev MA (R:Keyed->Keyed->Bool)(a b:Array Keyed)(ia ib:Nat)(out:Array Keyed):Prop:=MI R a.toList b.toList ia ib out.toList
section
variable {a b out:Array Keyed}{ia ib:Nat}
theorem MA.done (t:Two U R a b)(m:MA R a b ia ib out)(ha:ia<=a.size)(hb:ib<=b.size)(h:ia=a.size\/ib=b.size):vd R a b (out++a.extract ia++b.extract ib):=by
 have:=MI.done m t.o t.ua t.ub t.sa t.sb (by simpa using ha) (by simpa using hb) (by simpa using h);unfold vd;rw [T4,T4,ZE,ZE];exact this
theorem MA.lastA (t:Two U R a b)(m:MA R a b ia ib out)(ha:ia+1=a.size)(hb:ib<=b.size):vd R a b (out++b.extract ib++a.extract ia):=by
 have:=MI.lastA m t.o t.ua t.ub t.sa t.sb (by simpa using ha) (by simpa using hb) t.last;unfold vd;rw [T4,T4,ZE,ZE];exact this
theorem MA.pushB (t:Two U R a b){y:Keyed}(m:MA R a b ia ib out)(hy:b.toList[ib]? =some y)(lt: ∀z,a.toList[ia]? =some z->R y z=true):MA R a b ia (ib+1) (out.push y):=by
 have:=MI.pushB m t.o t.ua t.ub t.sa t.sb hy lt;show MI R _ _ _ _ (out.push y).toList;rw [U0];exact this
theorem MA.pushA (t:Two U R a b){y:Keyed}(m:MA R a b ia ib out)(hy:a.toList[ia]? =some y)(ge: ∀z,b.toList[ib]? =some z->R z y=false):MA R a b (ia+1) ib (out.push y):=by
 have:=MI.pushA m t.o t.ua t.ub t.sa t.sb hy ge;show MI R _ _ _ _ (out.push y).toList;rw [U0];exact this
theorem MA.manyA (t:Two U R a b)(m:MA R a b ia ib out)(k:Nat)(hk:ia+k<=a.size)(h: ∀i,i<k-> ∀y,a.toList[ia+i]? =some y-> ∀z,b.toList[ib]? =some z->R z y=false):MA R a b (ia+k) ib (out++a.extract ia (ia+k)):=by
 have:=MI.manyA t.o t.ua t.ub t.sa t.sb k m (by simpa using hk) h;show MI R _ _ _ _ (out++a.extract ia (ia+k)).toList;rw [T4,Qj];exact this
theorem MA.manyB (t:Two U R a b)(m:MA R a b ia ib out)(k:Nat)(hk:ib+k<=b.size)(h: ∀i,i<k-> ∀y,b.toList[ib+i]? =some y-> ∀z,a.toList[ia]? =some z->R y z=true):MA R a b ia (ib+k) (out++b.extract ib (ib+k)):=by
 have:=MI.manyB t.o t.ua t.ub t.sa t.sb k m (by simpa using hk) h;show MI R _ _ _ _ (out++b.extract ib (ib+k)).toList;rw [T4,Qj];exact this
end
variable {arr:Array Keyed}{base:Nat}
theorem yk {left:Bool}{key x:Keyed}{i:Nat}(h:arr.toList[base+i]? =some x):byd R left key arr base i=if left=true then R x key else !R key x:=by
 unfold byd;rw [<-T9,h]
theorem Wj {l:List Keyed}(s:Srt R l)(o:Ordd U R)(u: ∀x∈l,U x){i j:Nat}{x y:Keyed}(hij:i<=j)(hx:l[i]? =some x)(hy:l[j]? =some y):R y x=false:=by
 by_cases z:i=j
 ·subst z;rw [hx] at hy;injection hy with hy;subst hy
  exact o.refl (u x (G7 hx))
 ·obtain⟨h1,e1⟩:=G5.mp hx;obtain⟨h2,e2⟩:=G5.mp hy;have:=U6.mp s i j h1 h2 (by omega);rw [e1,e2] at this;exact this
theorem Wk {i:Nat}(h:i<arr.size): ∃x,arr.toList[i]? =some x/\arr[i]? =some x:=⟨arr[i],by simp [h],by simp [h]⟩
theorem He {y:Keyed}{n hint:Nat}{st:SortSt}{Q:Option Nat->SortSt->Prop}(ak:Vb prog w A J κ U R)(kd:kindOf st=κ)(o:Ordd U R)(u: ∀x∈arr.toList,U x)(s:Srt R arr.toList)(uy:U y)(hn:base+n<=arr.size)(hh:hint<n)
 (q: ∀k,k<=n->(∀i,i<k-> ∀x,arr.toList[base+i]? =some x->R y x=false)->(∀i,k<=i->i<n-> ∀x,arr.toList[base+i]? =some x->R y x=true)->Q (some k) st):Tm prog w A E J (gal false y arr base n hint) Q st:=by
 refine DZ ak kd uy (λi hi=> ?_) (λi j hij hj h=> ?_) hh (λk k1 k2 k3=>q k k1 (λi hi x hx=> ?_) (λi h1 h2 x hx=> ?_))
 ·obtain⟨x,lx,ex⟩:=Wk (show base+i<arr.size by omega);exact⟨x,ex,u x (G7 lx)⟩
 ·obtain⟨x,lx,_⟩:=Wk (show base+i<arr.size by omega);obtain⟨z,lz,_⟩:=Wk (show base+j<arr.size by omega);rw [yk lz] at h;rw [yk lx];have hz:R y z=false:=by simpa using h
  have:=o.trans (u x (G7 lx)) (u z (G7 lz)) uy (Wj s o u (by omega) lx lz) hz;simp [this]
 ·have:=k2 i hi;rw [yk hx] at this;simpa using this
 ·have:=k3 i h1 h2;rw [yk hx] at this;simpa using this
theorem Hf {y:Keyed}{n hint:Nat}{st:SortSt}{Q:Option Nat->SortSt->Prop}(ak:Vb prog w A J κ U R)(kd:kindOf st=κ)(o:Ordd U R)(u: ∀x∈arr.toList,U x)(s:Srt R arr.toList)(uy:U y)(hn:base+n<=arr.size)(hh:hint<n)
 (q: ∀k,k<=n->(∀i,i<k-> ∀x,arr.toList[base+i]? =some x->R x y=true)->(∀i,k<=i->i<n-> ∀x,arr.toList[base+i]? =some x->R x y=false)->Q (some k) st):Tm prog w A E J (gal true y arr base n hint) Q st:=by
 refine DZ ak kd uy (λi hi=> ?_) (λi j hij hj h=> ?_) hh (λk k1 k2 k3=>q k k1 (λi hi x hx=> ?_) (λi h1 h2 x hx=> ?_))
 ·obtain⟨x,lx,ex⟩:=Wk (show base+i<arr.size by omega);exact⟨x,ex,u x (G7 lx)⟩
 ·obtain⟨x,lx,_⟩:=Wk (show base+i<arr.size by omega);obtain⟨z,lz,_⟩:=Wk (show base+j<arr.size by omega);rw [yk lz] at h;rw [yk lx];have hz:R z y=true:=by simpa using h
  rcases o.neg z x y (u z (G7 lz)) (u x (G7 lx)) uy hz with v|v
  ·rw [Wj s o u (by omega) lx lz] at v;cases v
  ·simp [v]
 ·have:=k2 i hi;rw [yk hx] at this;simpa using this
 ·have:=k3 i h1 h2;rw [yk hx] at this;simpa using this
section
variable {σ α β γ:Type}{c:Prop}[Decidable c]{t e:StateT σ Sem α}{Q:α->σ->Prop}{st:σ}{x y:β}{z:γ}
theorem Tm.if2 (T:c->Tm prog w A E J t Q st)(F: ¬c->Tm prog w A E J e Q st):Tm prog w A E J (if c then t else e) Q st:=by
 split
 ·exact T ‹_›
 ·exact F ‹_›
theorem Tm.eq2 {x y:Nat}(T:x=y->Tm prog w A E J t Q st)(F: ¬x=y->Tm prog w A E J e Q st):Tm prog w A E J (if (x==y)=true then t else e) Q st:=
 .if2 (λh=>T (eq_of_beq h)) λh=>F λg=>h (V4.mpr g)
theorem Tm.both {f:β->StateT σ Sem α}(he:e=f y)(ht:t=f x)(H: ∀m,Tm prog w A E J (f m) Q st):Tm prog w A E J (if c then t else e) Q st:=by
 subst he ht;exact .if2 (λ_=>H _) λ_=>H _
theorem Tm.join {f:β->γ->StateT σ Sem α}{I:β->γ->Prop}(he:e=f x z)(G: ∀m o,I m o->Tm prog w A E J (f m o) Q st)(T:c->(∀m o,I m o->Tm prog w A E J (f m o) Q st)->Tm prog w A E J t Q st)(F: ¬c->I x z):Tm prog w A E J (if c then t else e) Q st:=by
 subst he;exact .if2 (λh=>T h G) λh=>G _ _ (F h)
end
theorem Ev {A B C D F:Type}{P:A×B×C×D×F->Prop}(h: ∀a b c d f,P (a,b,c,d,f)): ∀c,P c:=λc=>h c.1 c.2.1 c.2.2.1 c.2.2.2.1 c.2.2.2.2
theorem Ew {A B C D F G:Type}{P:A×B×C×D×F×G->Prop}(h: ∀a b c d f g,P (a,b,c,d,f,g)): ∀c,P c:=λc=>h c.1 c.2.1 c.2.2.1 c.2.2.2.1 c.2.2.2.2.1 c.2.2.2.2.2
theorem Ey {A B C D F G H:Type}{P:A×B×C×D×F×G×H->Prop}(h: ∀a b c d f g k,P (a,b,c,d,f,g,k)): ∀c,P c:=λc=>h c.1 c.2.1 c.2.2.1 c.2.2.2.1 c.2.2.2.2.1 c.2.2.2.2.2.1 c.2.2.2.2.2.2
theorem wK {a:Array Keyed}(u: ∀x∈a.toList,U x){i:Nat}(h:i<a.size){P:Prop}(q: ∀y,a[i]? =some y->a.toList[i]? =some y->U y->P):P:=q a[i] (by simp [h]) (by simp [h]) (u _ (by simp))
structure LoI (R:Keyed->Keyed->Bool)(a b:Array Keyed)(st st':SortSt)(n:Nat)(out:Array Keyed)(ia ib:Nat):Prop where
 g:Gal st st'
 m:MA R a b ia ib out
 a:ia+1<a.size
 b:ib<b.size
 n:n<=ia+ib
def LoO (R:Keyed->Keyed->Bool)(a b:Array Keyed)(st st':SortSt)(n:Nat)(r:Option (Array Keyed))(out:Array Keyed)(ia ib:Nat):Prop:=Gal st st'/\match r with|some c=>vd R a b c|none=>LoI R a b st st' n out ia ib
section
variable {a b out:Array Keyed}{st st':SortSt}{n k ia ib:Nat}
theorem LoI.more (h:LoI R a b st st' n out ia ib)(l:k<=n):LoI R a b st st' k out ia ib:=⟨h.g,h.m,h.a,h.b,R9 l h.n⟩
theorem LoI.here (h:LoI R a b st st' n out ia ib):LoI R a b st st' (ia+ib) out ia ib:=⟨h.g,h.m,h.a,h.b,G8 _⟩
theorem LoI.at {s:SortSt}(h:LoI R a b st st' n out ia ib)(g:Gal st s)(l:k<=n):LoI R a b st s k out ia ib:=⟨g,h.m,h.a,h.b,R9 l h.n⟩
theorem LoI.never {P:Prop}(h:LoI R a b st st' n out ia ib)(l:a.size+b.size<=n):P:=absurd (R9 l h.n) (Nat.not_le_of_lt (Nat.add_lt_add (L8 h.a) h.b))
end
theorem AJ {a b:Array Keyed}{st:SortSt}{Q:Array Keyed->SortSt->Prop}(ak:Vb prog w A J κ U R)(kd:kindOf st=κ)(t:Two U R a b)
 (na:1<=a.size)(nb:1<=b.size)(first: ∀y z,b.toList[0]? =some y->a.toList[0]? =some z->R y z=true)
 (q: ∀c st',Gal st st'->vd R a b c->Q c st'):Tm prog w A E J (mLo a b) Q st:=by
 refine .bind (.rule (.bind (wK t.ub nb λb0 eb0 lb0 ub0=> .elem eb0 ?_)));have m0:MA R a b 0 1 #[b0]:=MA.pushB t (out:= #[]) (MI.start _ _) lb0 (λz hz=>first _ z lb0 hz);refine .eq2 (x:=1) (y:=b.size) (λz1=> .pure (q _ _ (Gal.refl st) (MA.done t m0 (T2 _) nb (.inr z1)))) λz1=> .eq2 (x:=0+1) (y:=a.size) (λz2=> .pure (q _ _ (Gal.refl st) (MA.lastA t m0 z2 nb))) λz2=> .bind (.get ?_)
 refine .bind (Tm.mono (Tm.range (λi c st'=>LoI R a b st st' (i+1) c.2.1 c.2.2.1 c.2.2.2.1)
  (Q:=λc st'=> ∃r,c.1=some r/\Gal st st'/\vd R a b r) (T2 _) ⟨Gal.refl st,m0,B0 na z2,B0 nb z1,G8 _⟩ ?_ ?_) ?_)
 ·intro i c st1 hi;revert c;refine Ev λr out ia ib mg h=> ?_
  refine .bind (Tm.mono (Tm.range (λj c st'=>LoI R a b st st' (ia+ib+j) c.2.1 c.2.2.1 c.2.2.2.1)
   (Q:=λc st'=>LoO R a b st st' (ia+ib+1) c.1 c.2.1 c.2.2.1 c.2.2.2.1) (T2 _) h.here ?_ ?_) ?_)
  ·intro j c st2 hj;revert c;refine Ew λr out ja jb ac bc h=> ?_
   refine .bind (wK t.ub h.b λy ey ly uy=> .elem ey (.bind (wK t.ua (L8 h.a) λx ex lx ux=> .elem ex (.bind (.lt ak (h.g.1.trans kd) uy ux (.if2 (c:=R y x=true) (λhb=> .bind (.elem ey ?_)) λhb=> .bind (.elem ex ?_)))))))
   ·have m1:=MA.pushB t h.m ly (λz hz=>by rw [lx] at hz;injection hz with hz;rw [<-hz];exact hb);refine .eq2 (x:=jb+1) (y:=b.size) (λc1=> .pure ⟨h.g,MA.done t m1 (D5 (L8 h.a)) h.b (.inr c1)⟩) λc1=> ?_
    have d:LoI R a b st st2 (ia+ib+(j+1)) (out.push y) ja (jb+1):=⟨h.g,m1,h.a,B0 (X7 h.b) c1,Y8 h.n⟩;exact .if2 (λ_=> .pure ⟨h.g,d.more (V1 (Q8 _ _) _)⟩) λ_=> .pure d
   ·have m1:=MA.pushA t h.m lx (λz hz=>by rw [ly] at hz;injection hz with hz;rw [<-hz];exact U1.mpr hb);refine .eq2 (x:=ja+1+1) (y:=a.size) (λc1=> .pure ⟨h.g,MA.lastA t m1 c1 (D5 h.b)⟩) λc1=> ?_
    have d:LoI R a b st st2 (ia+ib+(j+1)) (out.push x) (ja+1) jb:=⟨h.g,m1,B0 (X7 h.a) c1,h.b,R9 (Y8 h.n) (E7 (Nat.succ_add _ _).symm)⟩;exact .if2 (λ_=> .pure ⟨h.g,d.more (V1 (Q8 _ _) _)⟩) λ_=> .pure d
  ·exact λc st2 h=>h.never (Q8 _ _)
  ·intro c st2;revert c;refine Ew λr out ja jb ac bc h'=> ?_
   cases r with
   |some r=>exact .pure ⟨r,rfl,h'⟩
   |none=>
   replace h':=h'.2
   refine .bind (.rule (.bind (Tm.mono (Tm.range (λj c st'=>LoI R a b st st' (ja+jb+j) c.2.1 c.2.2.1 c.2.2.2.1)
    (Q:=λc st'=>LoO R a b st st' (ja+jb) c.1 c.2.1 c.2.2.1 c.2.2.2.1) (T2 _) h'.here ?_ ?_) ?_)))
   ·clear h;intro j c st2 hj;revert c;refine Ey λr out pa pb mg ac bc h=> ?_
    refine wK t.ub h.b λy ey ly uy=> ?_
    have g2:0<a.size-pa:=Nat.sub_pos_of_lt (L8 h.a);have g1:pa+(a.size-pa)<=a.size:=E7 (G0d (D5 (L8 h.a)));refine Tm.both (y:=mg) (x:=mg-1) (by rfl) (by rfl) λmg=> ?_
    refine .bind (Tm.modify (.bind (.elem ey (.bind (He (base:=pa) (n:=a.size-pa) ak (h.g.1.trans kd) t.o t.ua t.sa uy g1 g2 λk k1 k2 k3=> ?_)))));refine Tm.join (I:=λo ia=>MA R a b ia pb o/\ia+1<a.size/\pa<=ia/\ ∀x,a.toList[ia]? =some x->R y x=true) (x:=out) (z:=pa) (by rfl) ?_ ?_ ?_
    ·refine λo qa i1=> ?_
     have M2:=MA.pushB t i1.1 ly i1.2.2.2;have p1:=L8 i1.2.1;refine .bind (.elem ey (.eq2 (x:=pb+1) (y:=b.size) (λc3=> .pure ⟨h.g,MA.done t M2 (D5 p1) (E7 c3) (.inr c3)⟩) λc3=> ?_));have c8:pb+1<b.size:=B0 (X7 h.b) c3;have g2:=Nat.sub_pos_of_lt c8;refine .bind (wK t.ua p1 λx ex lx ux=> .elem ex (.bind (Hf (base:=pb+1) (n:=b.size-(pb+1)) ak (h.g.1.trans kd) t.o t.ub t.sb ux (E7 (G0d (D5 c8))) g2 λk' q1 q2 q3=> ?_)));dsimp only;generalize ep:pb+1=p2 at M2 q1 q2 q3 c8 g2 ⊢;generalize eo:o.push y=o2 at M2 ⊢;refine Tm.join (I:=λo ib=>MA R a b qa ib o/\ib<b.size/\p2<=ib/\ ∀x',b.toList[ib]? =some x'->R x' x=false) (x:=o2) (z:=p2) (by rfl) ?_ ?_ ?_
     ·refine λo qb i2=> ?_
      have M4:=MA.pushA t i2.1 lx i2.2.2.2;refine .bind (.elem ex (.eq2 (x:=qa+1+1) (y:=a.size) (λc5=> .pure ⟨h.g,MA.lastA t M4 c5 (D5 i2.2.1)⟩) λc5=> ?_));have n1:ja+jb+j<=pa+pb:=h.n;have n2:ja+jb+(j+1)<=qa+1+qb:=by have:=i1.2.2.1;have:=i2.2.2.1;omega
      have d:LoI R a b st st2 (ja+jb+(j+1)) (o.push x) (qa+1) qb:=⟨h.g,M4,B0 (X7 i1.2.1) c5,i2.2.1,n2⟩;exact .if2 (λ_=> .pure ⟨h.g,d.at h.g (U8 _ _)⟩) λ_=> .pure (d.at h.g (G8 _))
     ·intro kz' H;have g3:p2+k'<=b.size:=R9 (V1 q1 _) (E7 (G0d (D5 c8)));have M3:=MA.manyB t M2 k' g3 (λi hi y' hy z hz=>by rw [lx] at hz;injection hz with hz;rw [<-hz];exact q2 i hi y' hy);exact .eq2 (x:=p2+k') (y:=b.size) (λc4=> .pure ⟨h.g,MA.done t M3 (D5 p1) g3 (.inr c4)⟩) λc4=>H _ _ ⟨M3,B0 g3 c4,U8 _ _,λz hz=>q3 k' (G8 _) (by omega) z hz⟩
     ·exact λkz'=>⟨M2,c8,G8 _,λz hz=>q3 0 (Y7 kz') g2 z hz⟩
    ·intro kz H;have g3:pa+k<=a.size:=R9 (V1 k1 _) g1;have m1:=MA.manyA t h.m k g3 (λi hi x hx z hz=>by rw [ly] at hz;injection hz with hz;rw [<-hz];exact k2 i hi x hx);exact .eq2 (x:=pa+k+1) (y:=a.size) (λc1=> .pure ⟨h.g,MA.lastA t m1 c1 (D5 h.b)⟩) λc1=> .eq2 (x:=pa+k) (y:=a.size) (λc2=> .pure ⟨h.g,MA.done t m1 g3 (D5 h.b) (.inl c2)⟩) λc2=>H _ _ ⟨m1,B0 (B0 g3 c2) c1,U8 _ _,λx hx=>k3 k (G8 _) (by omega) x hx⟩
    ·exact λkz=>⟨h.m,h.a,G8 _,λx hx=>k3 0 (Y7 kz) g2 x hx⟩
   ·exact λc st3 h=>h.never (Q8 _ _)
   ·intro c st3;revert c;refine Ey λr out pa pb mg ac bc h3=> ?_
    cases r with
    |some r=>exact .pure ⟨r,rfl,h3⟩
    |none=>exact .bind (Tm.modify (.pure (h3.2.at h3.1 (R9 (Y8 h.n) h'.n))))
 ·exact λc st1 h=>h.never (U8 _ _)
 ·intro c st1;revert c;refine Ev λr out ia ib mg h=> ?_
  obtain⟨c,rfl,gl,wh⟩:=h;exact .pure (q c st1 gl wh)
end
section
variable {prog:Program}{w:World}{A:Around}{E:Value->Shared->Prop}{J:Shared->Prop}{κ:SortKind}{U:Keyed->Prop}{R:Keyed->Keyed->Bool}
abbrev Flp (R:Keyed->Keyed->Bool):Keyed->Keyed->Bool:=λx y=>R y x
theorem Ordd.flip (o:Ordd U R):Ordd U (Flp R):=⟨λx y ux uy h=>o.asym y x uy ux h,λx y z ux uy uz h=>(o.neg z y x uz uy ux h).symm⟩
variable {l:List Keyed}
theorem zf (s:Srt R l):Srt (Flp R) l.reverse:=Y6.mpr s
theorem Qk (s:Srt (Flp R) l):Srt R l.reverse:=Y6.mpr s
variable {n:Nat}
theorem Ra (h1:1<=n)(hn:n<=l.length):l.reverse[l.length-n]? =l[n-1]? :=by
 rw [Q9 (by omega)]
 congr 1;omega
theorem zW {z:Keyed}(hn:n<=l.length)(h:l.reverse[l.length-n]? =some z):1<=n/\l[n-1]? =some z:=by
 have:=(G5.mp h).1;rw [S7] at this;have n1:1<=n:=by omega
 exact⟨n1,by rw [<-Ra n1 hn];exact h⟩
theorem Jf (l:List Keyed){n:Nat}(hn:n<=l.length):l.reverse.drop (l.length-n)=(l.take n).reverse:=by
 rw [List.drop_reverse]
 congr 2;omega
def MH (R:Keyed->Keyed->Bool)(a b:Array Keyed)(na nb:Nat)(out:Array Keyed):Prop:=MI (Flp R) b.toList.reverse a.toList.reverse (b.toList.length-nb) (a.toList.length-na) out.toList
structure TwoH (U:Keyed->Prop)(R:Keyed->Keyed->Bool)(a b:Array Keyed):Prop where
 o:Ordd U R
 ua: ∀x∈a.toList,U x
 ub: ∀x∈b.toList,U x
 sa:Srt R a.toList
 sb:Srt R b.toList
 first: ∀z∈a.toList,∀y,b.toList[0]? =some y->R y z=true
section
variable {a b out:Array Keyed}{na nb:Nat}
theorem TwoH.fa (t:TwoH U R a b): ∀x∈a.toList.reverse,U x:=λx hx=>t.ua x (F9.mp hx)
theorem TwoH.fb (t:TwoH U R a b): ∀x∈b.toList.reverse,U x:=λx hx=>t.ub x (F9.mp hx)
theorem MH.start (a b:Array Keyed):MH R a b a.toList.length b.toList.length #[]:=by
 unfold MH;rw [Nat.sub_self,Nat.sub_self];exact MI.start _ _
theorem MH.pushA (t:TwoH U R a b){y:Keyed}(m:MH R a b na nb out)(h1:1<=na)(hn:na<=a.toList.length)(hb:nb<=b.toList.length)(hy:a.toList[na-1]? =some y)(lt: ∀z,1<=nb->b.toList[nb-1]? =some z->R z y=true):MH R a b (na-1) nb (out.push y):=by
 have:=MI.pushB m t.o.flip t.fb t.fa (zf t.sb) (zf t.sa) (by rw [Ra h1 hn];exact hy) (λz hz=>lt z (zW hb hz).1 (zW hb hz).2);unfold MH;rw [U0,show a.toList.length-(na-1)=a.toList.length-na+1 by omega];exact this
theorem MH.pushB (t:TwoH U R a b){y:Keyed}(m:MH R a b na nb out)(h1:1<=nb)(hn:nb<=b.toList.length)(ha:na<=a.toList.length)(hy:b.toList[nb-1]? =some y)(ge: ∀z,1<=na->a.toList[na-1]? =some z->R y z=false):MH R a b na (nb-1) (out.push y):=by
 have:=MI.pushA m t.o.flip t.fb t.fa (zf t.sb) (zf t.sa) (by rw [Ra h1 hn];exact hy) (λz hz=>ge z (zW ha hz).1 (zW ha hz).2);unfold MH;rw [U0,show b.toList.length-(nb-1)=b.toList.length-nb+1 by omega];exact this
theorem Jg (a:Array Keyed)(n:Nat):(a.extract 0 n).toList=a.toList.take n:=by
 rw [J5,List.extract_eq_drop_take,List.drop_zero,Nat.sub_zero]
theorem MH.done (t:TwoH U R a b)(m:MH R a b na nb out)(ha:na<=a.toList.length)(hb:nb<=b.toList.length)(h:na=0\/nb=0):vd R a b (a.extract 0 na++b.extract 0 nb++out.reverse):=by
 have:=MI.done m t.o.flip t.fb t.fa (zf t.sb) (zf t.sa) (by rw [S7];omega) (by rw [S7];omega) (by rw [S7,S7];omega);rw [Jf _ ha,Jf _ hb] at this;have e:(a.extract 0 na++b.extract 0 nb++out.reverse).toList=(out.toList++(b.toList.take nb).reverse++(a.toList.take na).reverse).reverse:=by
  rw [T4,T4,Jg,Jg,Z6];simp [P0]
 unfold vd;rw [e];refine⟨(L9 _).trans (this.1.trans ?_),Qk this.2⟩;exact(List.Perm.append (L9 _) (L9 _)).trans Q7
theorem MH.firstB (t:TwoH U R a b)(m:MH R a b na nb out)(ha:na<=a.toList.length)(hb:nb=1)(hb':1<=b.toList.length):vd R a b (b.extract 0 nb++a.extract 0 na++out.reverse):=by
 subst hb;have:=MI.lastA m t.o.flip t.fb t.fa (zf t.sb) (zf t.sa) (by rw [S7];omega) (by rw [S7];omega) (λz hz y hy=>by
  rw [S7] at hy;have:=(zW hb' hy).2;exact t.first z (F9.mp hz) y (by simpa using this))
 rw [Jf _ ha,Jf _ hb'] at this;have e:(b.extract 0 1++a.extract 0 na++out.reverse).toList=(out.toList++(a.toList.take na).reverse++(b.toList.take 1).reverse).reverse:=by
  rw [T4,T4,Jg,Jg,Z6];simp [P0]
 unfold vd;rw [e];refine⟨(L9 _).trans (this.1.trans ?_),Qk this.2⟩;exact(List.Perm.append (L9 _) (L9 _)).trans Q7
theorem Ql (l:List Keyed){p n:Nat}(h1:p<=n)(hn:n<=l.length):(l.reverse.drop (l.length-n)).take (n-p)=((l.drop p).take (n-p)).reverse:=by
 rw [Jf l hn,List.take_reverse,R3,G05,W7 hn,show n-(n-p)=p by omega]
theorem Rb (a:Array Keyed){p n:Nat}(h:p<=n):(a.extract p n).reverse.toList=((a.toList.drop p).take (n-p)).reverse:=by
 rw [Z6,J5,List.extract_eq_drop_take]
theorem MH.manyA (t:TwoH U R a b)(m:MH R a b na nb out)(p:Nat)(hp:p<=na)(hn:na<=a.toList.length)(hb:nb<=b.toList.length)(h: ∀i,p<=i->i<na-> ∀y,a.toList[i]? =some y-> ∀z,1<=nb->b.toList[nb-1]? =some z->R z y=true):MH R a b p nb (out++(a.extract p na).reverse):=by
 have:=MI.manyB t.o.flip t.fb t.fa (zf t.sb) (zf t.sa) (na-p) m (by rw [S7];omega) (λi hi y hy z hz=>by
  rw [Q9 (by omega)] at hy;exact h _ (by omega) (by omega) y hy z (zW hb hz).1 (zW hb hz).2)
 rw [Ql _ hp hn] at this;unfold MH;rw [T4,Rb _ hp,show a.toList.length-p=a.toList.length-na+(na-p) by omega];exact this
theorem MH.manyB (t:TwoH U R a b)(m:MH R a b na nb out)(p:Nat)(hp:p<=nb)(hn:nb<=b.toList.length)(ha:na<=a.toList.length)(h: ∀i,p<=i->i<nb-> ∀y,b.toList[i]? =some y-> ∀z,1<=na->a.toList[na-1]? =some z->R y z=false):MH R a b na p (out++(b.extract p nb).reverse):=by
 have:=MI.manyA t.o.flip t.fb t.fa (zf t.sb) (zf t.sa) (nb-p) m (by rw [S7];omega) (λi hi y hy z hz=>by
  rw [Q9 (by omega)] at hy;exact h _ (by omega) (by omega) y hy z (zW ha hz).1 (zW ha hz).2)
 rw [Ql _ hp hn] at this;unfold MH;rw [T4,Rb _ hp,show b.toList.length-p=b.toList.length-nb+(nb-p) by omega];exact this
end
def mHi:Array Keyed->Array Keyed->StateT SortSt Sem (Array Keyed):=sortPriv% PySem.Builtin.mergeHi
section
variable {arr:Array Keyed}{y:Keyed}{n hint:Nat}{st:SortSt}{Q:Option Nat->SortSt->Prop}
theorem Tc (ak:Vb prog w A J κ U R)(kd:kindOf st=κ)(o:Ordd U R)(u: ∀x∈arr.toList,U x)(s:Srt R arr.toList)(uy:U y)(hn:n<=arr.size)(hh:hint<n)
 (q: ∀k,k<=n->(∀i,i<k-> ∀x,arr.toList[i]? =some x->R y x=false)->(∀i,k<=i->i<n-> ∀x,arr.toList[i]? =some x->R y x=true)->Q (some k) st):Tm prog w A E J (gal false y arr 0 n hint) Q st:=
 He ak kd o u s uy (by rw [E8];exact hn) hh λk h k2 k3=>q k h (λi hi x hx=>k2 i hi x (by rw [E8];exact hx)) λi hi hj x hx=>k3 i hi hj x (by rw [E8];exact hx)
theorem Td (ak:Vb prog w A J κ U R)(kd:kindOf st=κ)(o:Ordd U R)(u: ∀x∈arr.toList,U x)(s:Srt R arr.toList)(uy:U y)(hn:n<=arr.size)(hh:hint<n)
 (q: ∀k,k<=n->(∀i,i<k-> ∀x,arr.toList[i]? =some x->R x y=true)->(∀i,k<=i->i<n-> ∀x,arr.toList[i]? =some x->R x y=false)->Q (some k) st):Tm prog w A E J (gal true y arr 0 n hint) Q st:=
 Hf ak kd o u s uy (by rw [E8];exact hn) hh λk h k2 k3=>q k h (λi hi x hx=>k2 i hi x (by rw [E8];exact hx)) λi hi hj x hx=>k3 i hi hj x (by rw [E8];exact hx)
end
structure HiI (R:Keyed->Keyed->Bool)(a b:Array Keyed)(st st':SortSt)(n N na nb:Nat)(out:Array Keyed):Prop where
 g:Gal st st'
 m:MH R a b na nb out
 a':na<=a.size
 b':nb<=b.size
 a:1<=na
 b:2<=nb
 n:n+na+nb<=N
def HiO (R:Keyed->Keyed->Bool)(a b:Array Keyed)(st st':SortSt)(n N:Nat)(r:Option (Array Keyed))(na nb:Nat)(out:Array Keyed):Prop:=Gal st st'/\match r with|some c=>vd R a b c|none=>HiI R a b st st' n N na nb out
section
variable {a b out:Array Keyed}{st st' s:SortSt}{n N k M na nb:Nat}
theorem HiI.at (h:HiI R a b st st' n N na nb out)(g:Gal st s)(l:n+na+nb<=N->k+na+nb<=M):HiI R a b st s k M na nb out:=⟨g,h.m,h.a',h.b',h.a,h.b,l h.n⟩
theorem HiI.here (h:HiI R a b st st' n N na nb out):HiI R a b st st' 0 (na+nb) na nb out:=h.at h.g λ_=>by omega
theorem HiI.never {P:Prop}(h:HiI R a b st st' n N na nb out)(l:N<=n):P:=by have:=h.n;have:=h.a;omega
theorem HiI.le (h:HiI R a b st st' n N na nb out):na+nb<=a.size+b.size:=Nat.add_le_add h.a' h.b'
theorem HiI.a1 (h:HiI R a b st st' n N na nb out):na-1<a.size:=D6 (X8 h.a Nat.one_pos) h.a'
theorem HiI.b1 (h:HiI R a b st st' n N na nb out):nb-1<b.size:=D6 (X8 (L8 h.b) Nat.one_pos) h.b'
end
theorem Bn (h:2<=n)(c: ¬n-1=1):2<=n-1:=by omega
theorem Rc (c: ¬n-1=0):1<=n-1:=W8 c
theorem AK {a b:Array Keyed}{st:SortSt}{Q:Array Keyed->SortSt->Prop}(ak:Vb prog w A J κ U R)(kd:kindOf st=κ)(t:TwoH U R a b)
 (na:1<=a.size)(nb:1<=b.size)(last: ∀y z,b.toList[b.size-1]? =some y->a.toList[a.size-1]? =some z->R y z=true)
 (q: ∀c st',Gal st st'->vd R a b c->Q c st'):Tm prog w A E J (mHi a b) Q st:=by
 refine .bind (.rule (.bind (wK t.ua (X8 na Nat.one_pos) λa0 ea0 la0 ua0=> .elem ea0 ?_)));have m0:MH R a b (a.size-1) b.size #[a0]:=MH.pushA t (MH.start (R:=R) a b) na (G8 _) (G8 _) la0 (λz _ hz=>last z a0 hz la0);have n1:a.size-1<=a.size:=Nat.sub_le _ _;refine .eq2 (x:=a.size-1) (y:=0) (λz1=> .pure (q _ _ (Gal.refl st) (MH.done t m0 n1 (G8 _) (.inl z1)))) λz1=> .eq2 (x:=b.size) (y:=1) (λz2=> .pure (q _ _ (Gal.refl st) (MH.firstB t m0 n1 z2 nb))) λz2=> .bind (.get ?_)
 refine .bind (Tm.mono (Tm.range (λi c st'=>HiI R a b st st' (i+1) (a.size+b.size) c.2.1 c.2.2.1 c.2.2.2.1)
  (Q:=λc st'=> ∃r,c.1=some r/\Gal st st'/\vd R a b r) (Nat.zero_le _) ⟨Gal.refl st,m0,n1,Nat.le_refl _,Rc z1,by dsimp only;omega,by dsimp only;omega⟩ ?_ ?_) ?_)
 ·intro i c st1 hi;revert c;refine Ev λr ia ib out mg h=> ?_
  refine .bind (Tm.mono (Tm.range (λj c st'=>HiI R a b st st' j (ia+ib) c.2.1 c.2.2.1 c.2.2.2.1)
   (Q:=λc st'=>HiO R a b st st' 1 (ia+ib) c.1 c.2.1 c.2.2.1 c.2.2.2.1) (T2 _) h.here ?_ ?_) ?_)
  ·intro j c st2 hj;revert c;refine Ew λr ja jb out ac bc h=> ?_
   refine .bind (wK t.ub h.b1 λy ey ly uy=> .elem ey (.bind (wK t.ua h.a1 λx ex lx ux=> .elem ex (.bind (.lt ak (h.g.1.trans kd) uy ux (.if2 (c:=R y x=true) (λhb=> .bind (.elem ex ?_)) λhb=> .bind (.elem ey ?_)))))))
   ·have m1:=MH.pushA t h.m h.a h.a' h.b' lx (λz _ hz=>by rw [ly] at hz;injection hz with hz;rw [<-hz];exact hb);refine .eq2 (x:=ja-1) (y:=0) (λc1=> .pure ⟨h.g,MH.done t m1 (D5 h.a1) h.b' (.inl c1)⟩) λc1=> ?_
    have d:HiI R a b st st2 (j+1) (ia+ib) (ja-1) jb (out.push x):=⟨h.g,m1,D5 h.a1,h.b',Rc c1,h.b,by have:j+ja+jb<=ia+ib:=h.n;have:1<=ja:=h.a;have:2<=jb:=h.b;omega⟩;exact .if2 (λ_=> .pure ⟨h.g,d.at h.g λ_=>by omega⟩) λ_=> .pure d
   ·have m1:=MH.pushB t h.m (D5 h.b) h.b' h.a' ly (λz _ hz=>by rw [lx] at hz;injection hz with hz;rw [<-hz];exact U1.mpr hb);refine .eq2 (x:=jb-1) (y:=1) (λc1=> .pure ⟨h.g,MH.firstB t m1 h.a' c1 nb⟩) λc1=> ?_
    have d:HiI R a b st st2 (j+1) (ia+ib) ja (jb-1) (out.push y):=⟨h.g,m1,h.a',D5 h.b1,h.a,Bn h.b c1,by have:j+ja+jb<=ia+ib:=h.n;have:1<=ja:=h.a;have:2<=jb:=h.b;omega⟩;exact .if2 (λ_=> .pure ⟨h.g,d.at h.g λ_=>by omega⟩) λ_=> .pure d
  ·exact λc st2 h'=>h'.never h.le
  ·intro c st2;revert c;refine Ew λr ja jb out ac bc h'=> ?_
   cases r with
   |some r=>exact .pure ⟨r,rfl,h'⟩
   |none=>
   replace h':=h'.2
   refine .bind (.rule (.bind (Tm.mono (Tm.range (λj c st'=>HiI R a b st st' j (ja+jb) c.2.1 c.2.2.1 c.2.2.2.1)
    (Q:=λc st'=>HiO R a b st st' 0 (ja+jb) c.1 c.2.1 c.2.2.1 c.2.2.2.1) (T2 _) h'.here ?_ ?_) ?_)))
   ·clear h;intro j c st2 hj;revert c;refine Ey λr pa pb out mg ac bc h=> ?_
    refine wK t.ub h.b1 λy ey ly uy=> ?_
    refine Tm.both (y:=mg) (x:=mg-1) (by rfl) (by rfl) λmg=> ?_
    refine .bind (Tm.modify (.bind (.elem ey (.bind (Tc (n:=pa) ak (h.g.1.trans kd) t.o t.ua t.sa uy h.a' (X8 h.a Nat.one_pos) λk k1 k2 k3=> ?_)))));dsimp only;generalize eac:pa-k=ac;refine Tm.join (I:=λna o=>MH R a b na pb o/\1<=na/\na<=pa/\ ∀z,a.toList[na-1]? =some z->R y z=false) (x:=pa) (z:=out) (by rfl) ?_ ?_ ?_
    ·refine λqa o i1=> ?_
     have la:=R9 i1.2.2.1 h.a';have M2:=MH.pushB t i1.1 (D5 h.b) h.b' la ly (λz _ hz=>i1.2.2.2 z hz);refine .bind (.elem ey (.eq2 (x:=pb-1) (y:=1) (λc3=> .pure ⟨h.g,MH.firstB t M2 la c3 nb⟩) λc3=> ?_));have c8:=Bn h.b c3;have lb:=D5 h.b1;have n1:j+pa+pb<=ja+jb:=h.n;have n2:pb=pb-1+1:=(Nat.sub_add_cancel (D5 h.b)).symm;refine .bind (wK t.ua (D6 (X8 i1.2.1 Nat.one_pos) la) λx ex lx ux=> .elem ex (.bind (Td (n:=pb-1) ak (h.g.1.trans kd) t.o t.ub t.sb ux lb (X8 (L8 c8) Nat.one_pos) λk' q1 q2 q3=> ?_)));dsimp only;dsimp only at c8 lb;generalize ep:pb-1=p2 at M2 q1 q2 q3 c8 lb n2 ⊢;generalize eo:o.push y=o2 at M2 ⊢;generalize ebc:p2-k'=bc;refine Tm.join (I:=λnb o=>MH R a b qa nb o/\2<=nb/\nb<=p2/\ ∀z,b.toList[nb-1]? =some z->R z x=true) (x:=p2) (z:=o2) (by rfl) ?_ ?_ ?_
     ·refine λqb o i2=> ?_
      have lb':=R9 i2.2.2.1 lb;have M4:=MH.pushA t i2.1 i1.2.1 la lb' lx (λz _ hz=>i2.2.2.2 z hz);have la':=R9 (Nat.sub_le qa 1) la;refine .bind (.elem ex (.eq2 (x:=qa-1) (y:=0) (λc5=> .pure ⟨h.g,MH.done t M4 la' lb' (.inl c5)⟩) λc5=> ?_));have n3:j+1+(qa-1)+qb<=ja+jb:=by have:=i1.2.1;have:=i1.2.2.1;have:=i2.2.2.1;omega
      have d:HiI R a b st st2 (j+1) (ja+jb) (qa-1) qb (o.push x):=⟨h.g,M4,la',lb',Rc c5,i2.2.1,n3⟩;exact .if2 (λ_=> .pure ⟨h.g,d.at h.g λ_=>by omega⟩) λ_=> .pure (d.at h.g id)
     ·intro kz' H;have M3:=MH.manyB t M2 k' q1 lb la (λi hi1 hi2 y' hy z hz1 hz=>by rw [lx] at hz;injection hz with hz;rw [<-hz];exact q3 i hi1 hi2 y' hy);exact .eq2 (x:=k') (y:=1) (λc4=> .pure ⟨h.g,MH.firstB t M3 la c4 nb⟩) λc4=> .eq2 (x:=k') (y:=0) (λc7=> .pure ⟨h.g,MH.done t M3 la (R9 q1 lb) (.inr c7)⟩) λc7=>H _ _ ⟨M3,by omega,q1,λz hz=>q2 (k'-1) (X8 (W8 c7) Nat.one_pos) z hz⟩
     ·exact λkz'=>⟨M2,c8,G8 _,λz hz=>q2 (p2-1) (by omega) z hz⟩
    ·intro kz H;have m1:=MH.manyA t h.m k k1 h.a' h.b' (λi hi1 hi2 x hx z hz1 hz=>by rw [ly] at hz;injection hz with hz;rw [<-hz];exact k3 i hi1 hi2 x hx);exact .eq2 (x:=k) (y:=0) (λc1=> .pure ⟨h.g,MH.done t m1 (R9 k1 h.a') h.b' (.inl c1)⟩) λc1=>H _ _ ⟨m1,W8 c1,k1,λz hz=>k2 (k-1) (X8 (W8 c1) Nat.one_pos) z hz⟩
    ·exact λkz=>⟨h.m,h.a,G8 _,λz hz=>k2 (pa-1) (by have:1<=pa:=h.a;omega) z hz⟩
   ·exact λc st3 h=>h.never h'.le
   ·intro c st3;revert c;refine Ey λr pa pb out mg ac bc h3=> ?_
    cases r with
    |some r=>exact .pure ⟨r,rfl,h3⟩
    |none=>exact .bind (Tm.modify (.pure (h3.2.at h3.1 λl=>by have n1:i+1+ia+ib<=a.size+b.size:=h.n;have n2:1+ja+jb<=ia+ib:=h'.n;dsimp only at l ⊢;omega)))
 ·exact λc st1 h=>h.never (U8 _ _)
 ·intro c st1;revert c;refine Ev λr ia ib out mg h=> ?_
  obtain⟨c,rfl,gl,wh⟩:=h;exact .pure (q c st1 gl wh)
end
section
variable {prog:Program}{w:World}{A:Around}{E:Value->Shared->Prop}{J:Shared->Prop}{κ:SortKind}{U:Keyed->Prop}{R:Keyed->Keyed->Bool}
def seg (l:List Keyed)(p n:Nat):List Keyed:=(l.drop p).take n
variable {n:Nat}
theorem Yr {l:List Keyed}{p i:Nat}(hi:i<n):(seg l p n)[i]? =l[p+i]? :=by
 unfold seg;rw [O4 hi,Q1]
theorem Wl {l:List Keyed}{p:Nat}(h:p+n<=l.length):(seg l p n).length=n:=by
 unfold seg;rw [R3,T0];omega
theorem Xi {l:List Keyed}{p:Nat}{x:Keyed}(h:x∈seg l p n):x∈l:=M7 (N0 h)
theorem Hg {left:Bool}{arr:Array Keyed}{y:Keyed}{base hint:Nat}{st:SortSt}{Q:Option Nat->SortSt->Prop}(ak:Vb prog w A J κ U R)(kd:kindOf st=κ)(o:Ordd U R)(u: ∀x∈arr.toList,U x)(s:Srt R (seg arr.toList base n))(uy:U y)(hn:base+n<=arr.size)(hh:hint<n)
 (q: ∀k,k<=n->(∀x∈(seg arr.toList base n).take k,(if left=true then R x y else !R y x)=true)->(∀x∈(seg arr.toList base n).drop k,(if left=true then R x y else !R y x)=false)->Q (some k) st):Tm prog w A E J (gal left y arr base n hint) Q st:=by
 have ln:arr.toList.length=arr.size:=by simp
 have sl:(seg arr.toList base n).length=n:=Wl (by omega);have us: ∀x∈seg arr.toList base n,U x:=λx hx=>u x (Xi hx)
 refine DZ ak kd uy (λi hi=> ?_) (λi j hij hj h=> ?_) hh (λk k1 k2 k3=>q k k1 (λx hx=> ?_) (λx hx=> ?_))
 ·obtain⟨x,lx,ex⟩:=Wk (show base+i<arr.size by omega);exact⟨x,ex,u x (G7 lx)⟩
 ·obtain⟨x,lx,_⟩:=Wk (show base+i<arr.size by omega);obtain⟨z,lz,_⟩:=Wk (show base+j<arr.size by omega);have ux:=u x (G7 lx);have uz:=u z (G7 lz);have le:=Wj s o us hij (by rw [Yr (by omega)];exact lx) (by rw [Yr hj];exact lz);rw [yk lz] at h;rw [yk lx];cases left with
  |true=>
   have hz:R z y=true:=by simpa using h
   rcases o.neg z x y uz ux uy hz with v|v
   ·rw [le] at v;cases v
   ·simp [v]
  |false=>
   have hz:R y z=false:=by simpa using h
   have:=o.trans ux uz uy le hz;simp [this]
 ·obtain⟨i,hi,e⟩:=C3 hx;rw [R3,sl] at hi;have lx:arr.toList[base+i]? =some x:=by
   rw [<-Yr (n:=n) (by omega),G1 (by omega),<-e,List.getElem_take]
  have:=k2 i (by omega);rw [yk lx] at this;exact this
 ·obtain⟨i,hi,e⟩:=C3 hx;rw [T0,sl] at hi;have lx:arr.toList[base+(k+i)]? =some x:=by
   rw [<-Yr (n:=n) (by omega),G1 (by omega),<-e,List.getElem_drop]
  have:=k3 (k+i) (by omega) (by omega);rw [yk lx] at this;exact this
theorem Qm: ∀ (m:List Keyed) (arr:Array Keyed) (p d:Nat),p+d+m.length<=arr.size->((m.zipIdx d).foldl (λ(c:Array Keyed) (x:Keyed×Nat)=>c.setIfInBounds (p+x.2) x.1) arr).toList=arr.toList.take (p+d)++m++arr.toList.drop (p+d+m.length)
 | [],arr,p,d,_=>by simp
 |x::m,arr,p,d,h=>by
  rw [D3] at h;rw [List.zipIdx_cons,List.foldl_cons];rw [Qm m _ p (d+1) (by rw [G0B];omega)];have hl:arr.toList.length=arr.size:=by simp
  rw [G0l];have e1:(arr.toList.set (p+d) x).take (p+(d+1))=arr.toList.take (p+d)++ [x]:=by
   rw [show p+(d+1)=p+d+1 by omega,T8,A8 (by omega)];rw [List.take_set_of_le (G8 _)];rfl
  have e2:(arr.toList.set (p+d) x).drop (p+(d+1)+m.length)=arr.toList.drop (p+d+(m.length+1)):=by
   rw [List.drop_set_of_lt (by omega),show p+(d+1)+m.length=p+d+(m.length+1) by omega]
  rw [e1,e2,D3];simp [P0]
end
section
variable {prog:Program}{w:World}{A:Around}{E:Value->Shared->Prop}{J:Shared->Prop}{κ:SortKind}{U:Keyed->Prop}{R:Keyed->Keyed->Bool}
theorem Tm.set {σ:Type}{st st':σ}{Q:PUnit->σ->Prop}(q:Q ⟨⟩ st'):Tm prog w A E J (MonadStateOf.set st':StateT σ Sem PUnit) Q st:=λs j=>by
 show wpAny _ _ ((StateT.set st':StateT σ Sem PUnit).run st) _ _ _;exact P4 ⟨q,j⟩
theorem Re (a:Array Keyed){p n:Nat}(h:p<=n):(a.extract p n).toList=seg a.toList p (n-p):=by
 rw [J5,List.extract_eq_drop_take];rfl
theorem Rf (o:Ordd U R){l:List Keyed}(u: ∀x∈l,U x)(s:Srt R l){z:Keyed}(hz:l[l.length-1]? =some z){x:Keyed}(hx:x∈l):R z x=false:=by
 obtain⟨i,hi,e⟩:=C3 hx;exact Wj s o u (show i<=l.length-1 by omega) (by rw [G1 hi,e]) hz
theorem Qn (o:Ordd U R){l:List Keyed}(u: ∀x∈l,U x)(s:Srt R l){z:Keyed}(hz:l[0]? =some z){x:Keyed}(hx:x∈l):R x z=false:=by
 obtain⟨i,hi,e⟩:=C3 hx;exact Wj s o u (T2 _) hz (by rw [G1 hi,e])
theorem Wm (o:Ordd U R){X Y c:List Keyed}{k k2:Nat}{y0 x9:Keyed}(uX: ∀x∈X,U x)(uY: ∀x∈Y,U x)(sX:Srt R X)(sY:Srt R Y)(hy:Y[0]? =some y0)(hx:X[X.length-1]? =some x9)
 (f1: ∀x∈X.take k,R y0 x=false)(g2: ∀y∈Y.drop k2,R y x9=false)(hp:c.Perm (X.drop k++Y.take k2))(sc:Srt R c):(X.take k++c++Y.drop k2).Perm (X++Y)/\Srt R (X.take k++c++Y.drop k2):=by
 have uy0:=uY y0 (G7 hy);have ux9:=uX x9 (G7 hx);constructor
 ·have e:X++Y=X.take k++(X.drop k++Y.take k2)++Y.drop k2:=by
   rw [<-P0,R7,P0,R7]
  rw [e];exact(hp.append_left _).append_right _
 ·have inX: ∀x∈X.take k,∀z∈X.drop k,R z x=false:=λx hx z hz=>by
   have:Srt R (X.take k++X.drop k):=by rw [R7];exact sX
   exact(S2.mp this).2.2 x hx z hz
  have inY: ∀x∈Y.take k2,∀z∈Y.drop k2,R z x=false:=λx hx z hz=>by
   have:Srt R (Y.take k2++Y.drop k2):=by rw [R7];exact sY
   exact(S2.mp this).2.2 x hx z hz
  have xy: ∀x∈X.take k,∀y∈Y,R y x=false:=λx hx y hy'=>o.trans (uX x (N0 hx)) uy0 (uY y hy') (f1 x hx) (Qn o uY sY hy hy')
  have yx: ∀x∈X,∀y∈Y.drop k2,R y x=false:=λx hx' y hy'=>o.trans (uX x hx') ux9 (uY y (M7 hy')) (Rf o uX sX hx hx') (g2 y hy')
  have xc: ∀x∈X.take k,∀z∈c,R z x=false:=λx hx z hz=>by
   rcases P9.mp (hp.mem_iff.mp hz) with v|v
   ·exact inX x hx z v
   ·exact xy x hx z (N0 v)
  refine S2.mpr ⟨S2.mpr ⟨sX.sublist (A3 _ _),sc,xc⟩,sY.sublist (L7 _ _),λx hx y hy=> ?_⟩;rcases P9.mp hx with v|v
  ·exact xy x v y (M7 hy)
  ·rcases P9.mp (hp.mem_iff.mp v) with v|v
   ·exact yx x (M7 v) y hy
   ·exact inY x v y hy
theorem Ud (l:List Keyed){p n m:Nat}:l=l.take p++(seg l p n++seg l (p+n) m)++l.drop (p+n+m):=by
 unfold seg;have e1:(l.drop (p+n)).take m++l.drop (p+n+m)=l.drop (p+n):=by
  rw [show l.drop (p+n+m)=(l.drop (p+n)).drop m by rw [J0],R7]
 have e2:(l.drop p).take n++l.drop (p+n)=l.drop p:=by
  rw [show l.drop (p+n)=(l.drop p).drop n by rw [J0],R7]
 rw [P0,P0,e1,e2,R7]
theorem AL {st:SortSt}{Q:Bool->SortSt->Prop}{i sa na pw sb nb pw2:Nat}(ak:Vb prog w A J κ U R)(kd:kindOf st=κ)(o:Ordd U R)(u: ∀x∈(arrOf st).toList,U x)(p1:(pendingOf st)[i]? =some (sa,na,pw))(p2:(pendingOf st)[i+1]? =some (sb,nb,pw2))
 (hs:sa+na=sb)(n1:1<=na)(n2:1<=nb)(hz:sb+nb<=(arrOf st).size)(s1:Srt R (seg (arrOf st).toList sa na))(s2:Srt R (seg (arrOf st).toList sb nb))(hf:failedOf st=none)
 (q: ∀st' Z,kindOf st'=κ->failedOf st'=none->pendingOf st'=((pendingOf st).setIfInBounds i (sa,na+nb,pw)).eraseIdxIfInBounds (i+1)->(arrOf st').toList=(arrOf st).toList.take sa++Z++(arrOf st).toList.drop (sb+nb)->Z.Perm (seg (arrOf st).toList sa na++seg (arrOf st).toList sb nb)->Srt R Z->Q true st'):
 Tm prog w A E J (mergeAt' i) Q st:=by
 have ln:(arrOf st).toList.length=(arrOf st).size:=by simp
 unfold mergeAt';refine .bind (.get ?_);dsimp only;rw [p1,p2];dsimp only;refine .bind (Tm.set ?_);subst hs;have lX:(seg (arrOf st).toList sa na).length=na:=Wl (by omega);have lY:(seg (arrOf st).toList (sa+na) nb).length=nb:=Wl (by omega);have uX: ∀x∈seg (arrOf st).toList sa na,U x:=λx hx=>u x (Xi hx)
 have uY: ∀x∈seg (arrOf st).toList (sa+na) nb,U x:=λx hx=>u x (Xi hx)
 obtain⟨y0,ly0,ey0⟩:=Wk (arr:=arrOf st) (show sa+na<(arrOf st).size by omega);obtain⟨x9,lx9,ex9⟩:=Wk (arr:=arrOf st) (show sa+(na-1)<(arrOf st).size by omega);have hy:(seg (arrOf st).toList (sa+na) nb)[0]? =some y0:=by rw [Yr (by omega)];exact ly0
 have hx:(seg (arrOf st).toList sa na)[(seg (arrOf st).toList sa na).length-1]? =some x9:=by rw [lX,Yr (by omega)];exact lx9
 have uy0:=u y0 (G7 ly0);have ux9:=u x9 (G7 lx9);have c3:=Ud (arrOf st).toList (p:=sa) (n:=na) (m:=nb);have same: ∀ (st':SortSt),arrOf st'=arrOf st-> ∀k k2,(∀x∈(seg (arrOf st).toList sa na).take k,R y0 x=false)->(∀y∈(seg (arrOf st).toList (sa+na) nb).drop k2,R y x9=false)->(na<=k\/k2=0)->Srt R (seg (arrOf st).toList sa na++seg (arrOf st).toList (sa+na) nb):=λst' e k k2 f1 g2 h=>by
  have pl:(((seg (arrOf st).toList sa na).drop k++(seg (arrOf st).toList (sa+na) nb).take k2)).Perm ((seg (arrOf st).toList sa na).drop k++(seg (arrOf st).toList (sa+na) nb).take k2):= .refl _;have sc:Srt R ((seg (arrOf st).toList sa na).drop k++(seg (arrOf st).toList (sa+na) nb).take k2):=by
   rcases h with h|h
   ·rw [N9 (by omega),M1];exact s2.sublist (A3 _ _)
   ·rw [h,Y1,B1];exact s1.sublist (L7 _ _)
  have:=(Wm o uX uY s1 s2 hy hx f1 g2 pl sc).2;rw [<-P0,R7,P0,R7] at this;exact this
 refine .bind (.elem ey0 (.bind (Hg (left:=false) ak kd o u s1 uy0 (show sa+na<=(arrOf st).size by omega) (by omega) λk k1 f1 f2=> ?_)));have f1: ∀x∈(seg (arrOf st).toList sa na).take k,R y0 x=false:=λx hx=>by simpa using f1 x hx
 have f2: ∀x∈(seg (arrOf st).toList sa na).drop k,R y0 x=true:=λx hx=>by simpa using f2 x hx
 dsimp only
 by_cases z1:na-k=0
 ·rw [if_pos (by simpa using z1)];refine .pure (q _ (seg (arrOf st).toList sa na++seg (arrOf st).toList (sa+na) nb) kd hf rfl c3 (.refl _) (same st rfl k nb f1 (λy hy=> ?_) (.inl (by omega))));rw [N9 (by omega)] at hy;cases hy
 rw [if_neg (by simpa using z1)];refine .bind (.elem (show _=some x9 by rw [show sa+k+(na-k)-1=sa+(na-1) by omega];exact ex9) (.bind (Hg (left:=true) ak kd o u s2 ux9 (show sa+na+nb<=(arrOf st).size by omega) (by omega) λk2 j1 g1 g2=> ?_)));have g1: ∀y∈(seg (arrOf st).toList (sa+na) nb).take k2,R y x9=true:=λx hx=>by simpa using g1 x hx
 have g2: ∀y∈(seg (arrOf st).toList (sa+na) nb).drop k2,R y x9=false:=λx hx=>by simpa using g2 x hx
 dsimp only
 by_cases z2:k2=0
 ·rw [if_pos (by simpa using z2)];exact .pure (q _ _ kd hf rfl c3 (.refl _) (same st rfl k k2 f1 g2 (.inr z2)))
 rw [if_neg (by simpa using z2)];have eX:((arrOf st).extract (sa+k) (sa+na)).toList=(seg (arrOf st).toList sa na).drop k:=by
  rw [Re _ (by omega)];unfold seg;rw [G05,J0,show sa+na-(sa+k)=na-k by omega]
 have eY:((arrOf st).extract (sa+na) (sa+na+k2)).toList=(seg (arrOf st).toList (sa+na) nb).take k2:=by
  rw [Re _ (by omega)];unfold seg;rw [G06,show sa+na+k2-(sa+na)=min k2 nb by omega]
 have sx:((arrOf st).extract (sa+k) (sa+na)).size=na-k:=by rw [<-T3,eX,T0,lX]
 have sy:((arrOf st).extract (sa+na) (sa+na+k2)).size=k2:=by rw [<-T3,eY,R3,lY];omega
 have hx2: ∀z,((seg (arrOf st).toList sa na).drop k)[((seg (arrOf st).toList sa na).drop k).length-1]? =some z->z=x9:=λz hz'=>by
  rw [T0,Q1,lX,show k+(na-k-1)=na-1 by omega] at hz';rw [lX] at hx;rw [hx] at hz';injection hz' with hz';exact hz'.symm
 have hy2: ∀z,((seg (arrOf st).toList (sa+na) nb).take k2)[0]? =some z->z=y0:=λz hz'=>by
  rw [O4 (by omega),hy] at hz';injection hz' with hz';exact hz'.symm
 have put: ∀c:Array Keyed,vd R ((arrOf st).extract (sa+k) (sa+na)) ((arrOf st).extract (sa+na) (sa+na+k2)) c->(c.toList.zipIdx.foldl (λ(d:Array Keyed) (x:Keyed×Nat)=>d.setIfInBounds (sa+k+x.2) x.1) (arrOf st)).toList=(arrOf st).toList.take sa++((seg (arrOf st).toList sa na).take k++c.toList++(seg (arrOf st).toList (sa+na) nb).drop k2)++(arrOf st).toList.drop (sa+na+nb):=λc wh=>by
  have lc:c.toList.length=na-k+k2:=by
   rw [wh.1.length_eq,G6,T3,T3,sx,sy]
  have:=Qm c.toList (arrOf st) (sa+k) 0 (by omega);rw [this,lc,V8,show sa+k+(na-k+k2)=sa+na+k2 by omega];have e1:(arrOf st).toList.take (sa+k)=(arrOf st).toList.take sa++(seg (arrOf st).toList sa na).take k:=by
   unfold seg;rw [G06,W7 k1,List.take_add]
  have e2:(arrOf st).toList.drop (sa+na+k2)=(seg (arrOf st).toList (sa+na) nb).drop k2++(arrOf st).toList.drop (sa+na+nb):=by
   unfold seg;have h1:((arrOf st).toList.drop (sa+na)).drop k2=(((arrOf st).toList.drop (sa+na)).take nb++((arrOf st).toList.drop (sa+na)).drop nb).drop k2:=by rw [R7]
   rw [O6 (by rw [R3,T0];omega),J0,J0] at h1;exact h1
  rw [e1,e2];simp [P0]
 have jr: ∀c:Array Keyed,vd R ((arrOf st).extract (sa+k) (sa+na)) ((arrOf st).extract (sa+na) (sa+na+k2)) c->_:=λc wh=>Wm o (c:=c.toList) uX uY s1 s2 hy hx f1 g2 (by have:=wh.1;rw [eX,eY] at this;exact this) wh.2
 by_cases z3:na-k<=k2
 ·rw [if_pos z3];refine .bind (AJ ak kd ⟨o,λx hx=> ?_,λx hx=> ?_,?_,?_,λy hy z hz'=> ?_⟩ (by rw [sx];omega) (by rw [sy];omega) (λy z hy' hz'=> ?_) λc st' gl wh=> .bind (Tm.modify (.bind (.get (.pure ?_)))))
  ·rw [eX] at hx;exact uX x (M7 hx)
  ·rw [eY] at hx;exact uY x (N0 hx)
  ·rw [eX];exact s1.sublist (L7 _ _)
  ·rw [eY];exact s2.sublist (A3 _ _)
  ·rw [eY] at hy;rw [eX] at hz';rw [hx2 z hz'];exact g1 y hy
  ·rw [eY] at hy';rw [eX] at hz';rw [hy2 y hy'];exact f2 z (G7 hz')
  ·have e:failedOf st'=none:=gl.2.2.2.trans hf;show Q (failedOf st').isNone _;rw [e];refine q _ _ (gl.1.trans kd) e gl.2.2.1 ?_ (jr c wh).1 (jr c wh).2;have ea:arrOf st'=arrOf st:=gl.2.1;show (c.toList.zipIdx.foldl _ (arrOf st')).toList=_;rw [ea];exact put c wh
 ·rw [if_neg z3];refine .bind (AK ak kd ⟨o,λx hx=> ?_,λx hx=> ?_,?_,?_,λz hz' y hy'=> ?_⟩ (by rw [sx];omega) (by rw [sy];omega) (λy z hy' hz'=> ?_) λc st' gl wh=> .bind (Tm.modify (.bind (.get (.pure ?_)))))
  ·rw [eX] at hx;exact uX x (M7 hx)
  ·rw [eY] at hx;exact uY x (N0 hx)
  ·rw [eX];exact s1.sublist (L7 _ _)
  ·rw [eY];exact s2.sublist (A3 _ _)
  ·rw [eY] at hy';rw [eX] at hz';rw [hy2 y hy'];exact f2 z hz'
  ·rw [eY] at hy';rw [eX,sx] at hz';have:=hx2 z (by rw [T0,lX];exact hz');rw [this];exact g1 y (G7 hy')
  ·have e:failedOf st'=none:=gl.2.2.2.trans hf;show Q (failedOf st').isNone _;rw [e];refine q _ _ (gl.1.trans kd) e gl.2.2.1 ?_ (jr c wh).1 (jr c wh).2;have ea:arrOf st'=arrOf st:=gl.2.1;show (c.toList.zipIdx.foldl _ (arrOf st')).toList=_;rw [ea];exact put c wh
end
section
variable {prog:Program}{w:World}{A:Around}{E:Value->Shared->Prop}{J:Shared->Prop}{κ:SortKind}{U:Keyed->Prop}{R:Keyed->Keyed->Bool}
def Lies (st:SortSt)(P Z S:List Keyed):Prop:=(arrOf st).toList=P++Z++S
def Arr (st st':SortSt):Prop:=kindOf st'=kindOf st/\pendingOf st'=pendingOf st/\failedOf st'=failedOf st/\gallopOf st'=gallopOf st
theorem Arr.refl (st:SortSt):Arr st st:=⟨rfl,rfl,rfl,rfl⟩
theorem Ni (xs:Array Keyed)(P Z S:List Keyed)(h:xs.toList=P++Z++S):(mirror xs P.length (P.length+Z.length) ((P.length+Z.length-P.length) / 2)).toList=P++Z.reverse++S:=by
 have hl:xs.size=P.length+Z.length+S.length:=by rw [<-T3,h];simp [U2]
 refine G0C λk=> ?_
 rw [T9,getElem?_mirror_all (by omega)]
 by_cases c:P.length<=k/\k<P.length+Z.length
 ·rw [if_pos c,<-T9,h,P0,P0];have e1:(P++(Z++S))[P.length+(P.length+Z.length)-1-k]? =Z[P.length+Z.length-1-k]? :=by
   rw [P3 (by omega),D4 (by omega)]
   congr 1;omega
  have e2:(P++(Z.reverse++S))[k]? =Z[P.length+Z.length-1-k]? :=by
   rw [P3 (by omega),D4 (by rw [S7];omega),Q9 (by omega)]
   congr 1;omega
  rw [e1,e2]
 ·rw [if_neg c,<-T9,h,P0,P0]
  by_cases d:k<P.length
  ·rw [D4 d,D4 d]
  ·have e1:(P++(Z++S))[k]? =S[k-P.length-Z.length]? :=by
    rw [P3 (by omega),P3 (by omega)]
   have e2:(P++(Z.reverse++S))[k]? =S[k-P.length-Z.length]? :=by
    rw [P3 (by omega),P3 (by rw [S7];omega),S7]
   rw [e1,e2]
theorem Tm.rev {st:SortSt}{P Z S:List Keyed}{i j:Nat}{Q:Unit->SortSt->Prop}(h:Lies st P Z S)(hi:i=P.length)(hj:j=P.length+Z.length)(q: ∀st',Arr st st'->Lies st' P Z.reverse S->Q () st'):Tm prog w A E J (reverseSlice' i j) Q st:=by
 rw [reverseSlice'_eq];subst hi hj;exact .modify (q _ ⟨rfl,rfl,rfl,rfl⟩ (Ni _ P Z S h))
theorem Tm.ltAt {st:SortSt}{x y:Keyed}{i j:Nat}{Q:Option Bool->SortSt->Prop}(ak:Vb prog w A J κ U R)(kd:kindOf st=κ)(hx:(arrOf st).toList[i]? =some x)(hy:(arrOf st).toList[j]? =some y)(ux:U x)(uy:U y)(q:Q (some (R x y)) st):Tm prog w A E J (ltAt' i j) Q st:=by
 rw [ltAt'_eq];exact .bind (.get (.bind (.elem (by rw [<-T9];exact hx) (.bind (.elem (by rw [<-T9];exact hy) (.lt ak kd ux uy q))))))
abbrev Dsc (R:Keyed->Keyed->Bool)(l:List Keyed):Prop:=l.Pairwise λx y=>R x y=false
theorem Fu {l:List Keyed}(d:Dsc R l):Srt R l.reverse:=Y6.mpr d
theorem Nj (o:Ordd U R){l:List Keyed}{x y:Keyed}(u: ∀z∈l++ [x],U z)(uy:U y)(s:Srt R (l++ [x]))(h:R y x=false):Srt R (l++ [x]++ [y]):=by
 refine S2.mpr ⟨s,T6 _ _,λz hz v hv=> ?_⟩;rw [G2.mp hv];have ux:=u x (by simp);rcases P9.mp hz with w|w
 ·exact o.trans (u z hz) ux uy ((S2.mp s).2.2 z w x (by simp)) h
 ·rw [G2.mp w];exact h
theorem Nk {l m:List Keyed}(s:Dsc R (l++m))(alike: ∀x∈m,∀y∈m,R x y=false):Dsc R (l++m.reverse):=by
 obtain⟨a,b,c⟩:=S2.mp s;refine S2.mpr ⟨a,?_,λx hx y hy=>c x hx y (F9.mp hy)⟩;rw [U6];intro i j hi hj _;exact alike _ (F9.mp (T1 hi)) _ (F9.mp (T1 hj))
end
section
variable {prog:Program}{w:World}{A:Around}{E:Value->Shared->Prop}{J:Shared->Prop}{κ:SortKind}{U:Keyed->Prop}{R:Keyed->Keyed->Bool}
theorem Arr.trans {a b c:SortSt}(x:Arr a b)(y:Arr b c):Arr a c:=⟨y.1.trans x.1,y.2.1.trans x.2.1,y.2.2.1.trans x.2.2.1,y.2.2.2.trans x.2.2.2⟩
variable {P Z:List Keyed}
theorem Lies.rest {st:SortSt}{S:List Keyed}(h:Lies st P Z S){i:Nat}:(arrOf st).toList[P.length+Z.length+i]? =S[i]? :=by
 rw [h,P3 (by rw [G6];omega),G6]
 congr 1;omega
theorem Lies.end {st:SortSt}{W S:List Keyed}{x:Keyed}(h:Lies st P (W++ [x]) S):(arrOf st).toList[P.length+W.length]? =some x:=by
 rw [h,P0,P3 (by omega),P0,P3 (by omega)];simp
theorem Ys {l:List Keyed}(h:1<=l.length): ∃W x,l=W++ [x]:=by
 rcases List.eq_nil_or_concat l with e|⟨W,x,e⟩
 ·subst e;simp at h
 ·exact⟨W,x,by rw [e,List.concat_eq_append]⟩
structure Fall (R:Keyed->Keyed->Bool)(T Z1 Z2:List Keyed)(n:Nat):Prop where
 len:(Z1++Z2).length=n
 perm:(Z1++Z2).Perm (T.take n)
 dsc:Dsc R (Z1++Z2)
 alike: ∀x∈Z2,∀y∈Z2,R x y=false
 ne:1<=Z2.length
variable {T:List Keyed}{n:Nat}
theorem Fall.turn {Z1 Z2:List Keyed}(f:Fall R T Z1 Z2 n):Fall R T Z1 Z2.reverse n:=
 ⟨by have:=f.len;simp only [G6,S7] at this ⊢;exact this,((L9 Z2).append_left Z1).trans f.perm,Nk f.dsc f.alike,λx hx y hy=>f.alike x (F9.mp hx) y (F9.mp hy),by rw [S7];exact f.ne⟩
theorem Fall.mem {Z1 Z2:List Keyed}(f:Fall R T Z1 Z2 n){x:Keyed}(h:x∈Z1++Z2):x∈T:=N0 (f.perm.mem_iff.mp h)
theorem Jh {y:Keyed}(h:Z.Perm (T.take n))(hy:T[n]? =some y):(Z++ [y]).Perm (T.take (n+1)):=by
 rw [Wi hy];exact h.append_right _
theorem Fall.below (o:Ordd U R){T Z1 Z2:List Keyed}{n:Nat}{x y:Keyed}(u: ∀x∈T,U x)(f:Fall R T Z1 Z2 n)(hx:x∈Z2)(hy:T[n]? =some y)(h:R y x=true):Fall R T (Z1++Z2) [y] (n+1):=by
 have uy:=u y (G7 hy);have ux:=u x (f.mem (P9.mpr (.inr hx)));have xy:=o.asym y x uy ux h;refine⟨by rw [G6,f.len];rfl,Jh f.perm hy,?_,λa ha b hb=> ?_,by simp⟩
 ·refine S2.mpr ⟨f.dsc,T6 _ _,λz hz v hv=> ?_⟩;rw [G2.mp hv];have uz:=u z (f.mem hz);have zx:R z x=false:=by
   rcases P9.mp hz with w|w
   ·exact(S2.mp f.dsc).2.2 z w x hx
   ·exact f.alike z w x hx
  exact o.trans uy ux uz xy zx
 ·rw [G2.mp ha,G2.mp hb];exact o.refl uy
theorem Fall.like (o:Ordd U R){T Z1 Z2:List Keyed}{n:Nat}{x y:Keyed}(u: ∀x∈T,U x)(f:Fall R T Z1 Z2 n)(hx:x∈Z2)(hy:T[n]? =some y)(h:R y x=false)(h':R x y=false):Fall R T Z1 (Z2++ [y]) (n+1):=by
 have uy:=u y (G7 hy);have ux:=u x (f.mem (P9.mpr (.inr hx)));have zy: ∀z∈Z1++Z2,R z y=false:=λz hz=>by
  have uz:=u z (f.mem hz);have zx:R z x=false:=by
   rcases P9.mp hz with w|w
   ·exact(S2.mp f.dsc).2.2 z w x hx
   ·exact f.alike z w x hx
  exact o.trans uy ux uz h' zx
 have yz: ∀z∈Z2,R y z=false:=λz hz=>o.trans (u z (f.mem (P9.mpr (.inr hz)))) ux uy (f.alike x hx z hz) h
 refine⟨by rw [<-P0,G6,f.len];rfl,by rw [<-P0];exact Jh f.perm hy,?_,λa ha b hb=> ?_,by simp⟩
 ·rw [<-P0];refine S2.mpr ⟨f.dsc,T6 _ _,λz hz v hv=> ?_⟩;rw [G2.mp hv];exact zy z hz
 ·rcases P9.mp ha with p|p<;>rcases P9.mp hb with r|r
  ·exact f.alike a p b r
  ·rw [G2.mp r];exact zy a (P9.mpr (.inr p))
  ·rw [G2.mp p];exact yz b r
  ·rw [G2.mp p,G2.mp r];exact o.refl uy
theorem Lies.more {st:SortSt}{m:Nat}{y:Keyed}(L:Lies st P Z (T.drop m))(hy:T[m]? =some y):Lies st P (Z++ [y]) (T.drop (m+1)):=by
 unfold Lies at L ⊢;rw [L,za hy];simp
theorem Lies.part {st:SortSt}{Z1 Z2 S:List Keyed}:Lies st P (Z1++Z2) S↔Lies st (P++Z1) Z2 S:=by
 unfold Lies;simp only [List.append_assoc]
theorem Lies.two {st:SortSt}{m:Nat}{y:Keyed}(L:Lies st P Z (T.drop m))(lz:Z.length=m)(m1:1<=m)(hy:T[m]? =some y):(arrOf st).toList[P.length+m]? =some y/\ ∃W x,Z=W++ [x]/\(arrOf st).toList[P.length+m-1]? =some x:=by
 have a:=L.rest (i:=0);rw [Q1,lz,V8,V8,hy] at a;obtain⟨W,x,e⟩:=Ys (l:=Z) (by omega);subst e;refine⟨a,W,x,rfl,?_⟩;rw [<-L.end]
 congr 1
 rw [G6,B2] at lz;omega
section
variable {σ ρ τ α:Type}{st:σ}
theorem Tm.rangeN {f:Nat->Option ρ×τ->StateT σ Sem (ForInStep (Option ρ×τ))}(I:Nat->τ->σ->Prop){Q:τ->σ->Prop}{Q':Option ρ×τ->σ->Prop}{a b:Nat}{c:τ}(hab:a<=b)(h:I a c st)(step: ∀i c st,i<b->I i c st->Tm prog w A E J (f i (none,c)) (λr st'=>match r with| .done c'=>c'.1=none/\Q c'.2 st'| .yield c'=>c'.1=none/\I (i+1) c'.2 st') st)(fin: ∀c st,I b c st->Q c st)(q: ∀c st,Q c st->Q' (none,c) st):Tm prog w A E J (forIn [a:b] ((none:Option ρ),c) f) Q' st:=by
 refine Tm.mono (Tm.range (λi c st=>c.1=none/\I i c.2 st) (Q:=λc st=>c.1=none/\Q c.2 st) hab ⟨rfl,h⟩ ?_ λc st h=>⟨h.1,fin _ _ h.2⟩) ?_
 ·rintro i ⟨_,c⟩ st hi ⟨rfl,h⟩;exact(step i c st hi h).mono λr st' x=>by cases r<;>exact x
 ·rintro ⟨_,c⟩ st ⟨rfl,h⟩;exact q c st h
theorem Tm.fork {c:Prop}[Decidable c]{t e:StateT σ Sem α}{Q:α->σ->Prop}(I:σ->Prop)(G: ∀s,I s->Tm prog w A E J e Q s)(T:c->(∀s,I s->Tm prog w A E J e Q s)->Tm prog w A E J t Q st)(F: ¬c->I st):Tm prog w A E J (if c then t else e) Q st:=
 .if2 (λh=>T h G) λh=>G _ (F h)
end
section
variable {st:SortSt}{P T Z:List Keyed}{m:Nat}
theorem Rg {f:Nat->Option (Option Nat)×Nat->StateT SortSt Sem (ForInStep (Option (Option Nat)×Nat))}{G:Nat->Option Bool->StateT SortSt Sem (ForInStep (Option (Option Nat)×Nat))}{Q:Option (Option Nat)×Nat->SortSt->Prop}(ak:Vb prog w A J κ U R)(kd:kindOf st=κ)(o:Ordd U R)(u: ∀x∈T,U x)
 (hf: ∀i n,f i (none,n)=ltAt' (P.length+n) (P.length+n-1) >>= G n)(hG: ∀n,G n (some true)=Pure.pure (.done (none,n))/\G n (some false)=Pure.pure (.yield (none,n+1)))
 (m1:1<=m)(m2:m<=T.length)(L:Lies st P Z (T.drop m))(p:Z.Perm (T.take m))(s:Srt R Z)
 (q: ∀n Z',1<=n->n<=T.length->Lies st P Z' (T.drop n)->Z'.Perm (T.take n)->Srt R Z'->(∀y,T[n]? =some y-> ∃W x,Z'=W++ [x]/\R y x=true)->Q (none,n) st):Tm prog w A E J (forIn [m:T.length] ((none:Option (Option Nat)),m) f) Q st:=by
 refine Tm.rangeN (λi c s=>s=st/\c=i/\1<=i/\ ∃Z,Lies st P Z (T.drop i)/\Z.Perm (T.take i)/\Srt R Z) (Q:=λn s=>s=st/\Q (none,n) st) m2 ⟨rfl,rfl,m1,Z,L,p,s⟩ ?_ ?_ λc s h=>h.1 ▸ h.2
 ·rintro _ i _ hi ⟨rfl,rfl,i1,Z,L,p,s⟩;have hy:=G1 hi;obtain⟨ay,W,x,rfl,ax⟩:=L.two (by rw [p.length_eq,R3,W7 (D5 hi)]) i1 hy;have uy:=u _ (T1 hi);have uZ: ∀z∈W++ [x],U z:=λz hz=>u z (N0 (p.mem_iff.mp hz))
  rw [hf];refine .bind (.ltAt ak kd ay ax uy (uZ x (by simp)) ?_);cases hb:R T[i] x with
  |true=>
   rw [(hG _).1];exact .pure ⟨rfl,rfl,q i _ i1 (D5 hi) L p s λy h=>⟨W,x,rfl,by rw [hy] at h;injection h with h;rw [<-h];exact hb⟩⟩
  |false=>
   rw [(hG _).2];exact .pure ⟨rfl,rfl,rfl,Y8 (T2 _),_,L.more hy,Jh p hy,Nj o uZ uy s hb⟩
 ·rintro _ _ ⟨rfl,rfl,i1,Z,L,p,s⟩;exact⟨rfl,q _ Z i1 (G8 _) L p s λy h=>absurd (G5.mp h).1 (M5 _)⟩
end
def Fell (R:Keyed->Keyed->Bool)(P T:List Keyed)(st st':SortSt)(n k:Nat):Prop:=Arr st st'/\ ∃Z1 Z2,Lies st' P (Z1++Z2) (T.drop n)/\Fall R T Z1 Z2 n/\Z2.length=k+1
theorem Fell.rev {st s2:SortSt}{k:Nat}{Q:Unit->SortSt->Prop}(h:Fell R P T st s2 n k)(q: ∀s3,Fell R P T st s3 n k->Q () s3):Tm prog w A E J (reverseSlice' (P.length+n-(k+1)) (P.length+n)) Q s2:=by
 obtain⟨ar,Z1,Z2,L,F,l⟩:=h;have l12:=F.len;rw [G6] at l12;exact .rev (Lies.part.mp L) (by rw [G6];omega) (by rw [G6];omega) λs3 ar3 L3=>q s3 ⟨ar.trans ar3,Z1,_,Lies.part.mpr L3,F.turn,by rw [S7];exact l⟩
theorem Nl {st:SortSt}{Q:Option Nat->SortSt->Prop}(ak:Vb prog w A J κ U R)(kd:kindOf st=κ)(o:Ordd U R)(u: ∀x∈T,U x)(h:Lies st P [] T)(h1:1<=T.length)
 (q: ∀n st' Z,1<=n->n<=T.length->Arr st st'->Lies st' P Z (T.drop n)->Z.Perm (T.take n)->Srt R Z->Q (some n) st'):Tm prog w A E J (countRun' P.length T.length) Q st:=by
 refine .bind (Rg (m:=1) (Z:=T.take 1) ak kd o u (by exact λi n=>rfl) (by exact λn=>⟨rfl,rfl⟩) (G8 _) h1 ?_ (.refl _) ?_ λn Z n1 n2 L p sr br=> ?_)
 ·unfold Lies at h ⊢;rw [h,B1,P0,R7]
 ·match T,h1 with
  |x::r,_=>exact T6 _ _
 refine .eq2 (x:=n) (y:=T.length) (λz1=> .pure (q n _ _ n1 n2 (Arr.refl _) L p sr)) λz1=> ?_
 have n3:n<T.length:=B0 n2 z1;have hy:=G1 n3;have uZ: ∀z∈Z,U z:=λz hz=>u z (N0 (p.mem_iff.mp hz))
 obtain⟨W,x,e,yx⟩:=br _ hy;have lz:Z.length=n:=by rw [p.length_eq,R3,W7 n2]
 have xin:x∈Z:=by rw [e];simp
 have xl:Z[Z.length-1]? =some x:=by rw [e];simp
 have F0:(∀p∈Z,∀r∈Z,R p r=false)->Fall R T [] Z n:=λal=>⟨lz,p,U6.mpr λi j hi hj _=>al _ (T1 hi) _ (T1 hj),al,by rw [lz];exact n1⟩
 refine Tm.fork (λs=>Fell R P T st s (n+1) 0) ?_ ?_ ?_
 ·intro s1 F1;refine .bind (.rule (.bind (Tm.rangeN (λi c s=>c.1=i/\Fell R P T st s c.1 c.2) (Q:=λc s=>c.1<=T.length/\Fell R P T st s c.1 c.2) n3 ⟨rfl,F1⟩ ?_ (λc s h=>⟨E7 h.1,h.2⟩) ?_)))
  ·intro i c s2 hi h2;have hc:c.1<T.length:=by rw [h2.1];exact hi
   have hy:=G1 hc;have uy:=u _ (T1 hc);obtain⟨e1,ar2,Z1,Z2,L2,F2,l2⟩:=h2;have l12:=F2.len;obtain⟨ay,W,x,eW,ax⟩:=L2.two l12 (by rw [<-l12,G6,l2];exact Q8 _ _) hy;have xin:x∈Z2:=by
    obtain⟨V,v,e⟩:=Ys F2.ne;have e':=congrArg List.getLast? eW;rw [e,<-P0,G02,G02] at e';injection e' with e'
    rw [e,<-e'];simp
   have ux:=u x (F2.mem (P9.mpr (.inr xin)));refine .bind (.ltAt ak (ar2.1.trans kd) ay ax uy ux (.if2 (c:=R _ x=true) (λhb=> ?_) λhb=> .bind (.ltAt ak (ar2.1.trans kd) ax ay ux uy (.if2 (c:=R x _=true) (λhc'=> .pure ⟨rfl,D5 hc,ar2,Z1,Z2,L2,F2,l2⟩) λhc'=> ?_))))
   ·refine Tm.fork (λs=>Fell R P T st s (c.1+1) 0) (λs h=> .pure ⟨rfl,congrArg Nat.succ e1,h⟩) (λzq H=> .bind ?_) λzq=>⟨ar2,Z1++Z2,[T[c.1]],L2.more hy,F2.below o u xin hy hb,rfl⟩
    have l12':=l12;rw [G6] at l12';exact .rev (Lies.part.mp L2) (by rw [List.length_append];dsimp only;omega) (by rw [List.length_append];dsimp only;omega) λs3 ar3 L3=>H s3 ⟨ar2.trans ar3,Z1++Z2.reverse,[T[c.1]],(Lies.part.mpr L3).more hy,F2.turn.below o u (List.mem_reverse.mpr xin) hy hb,rfl⟩
   ·refine .pure ⟨rfl,congrArg Nat.succ e1,ar2,Z1,Z2++ [T[c.1]],?_,F2.like o u xin hy (U1.mpr hb) (U1.mpr hc'),by rw [G6,l2];rfl⟩;rw [<-P0];exact L2.more hy
  ·intro c s2 h2;refine Tm.fork (λs=> ∃k,Fell R P T st s c.1 k) ?_ (λzq H=> .bind (h2.2.rev λs h=>H s ⟨_,h⟩)) λzq=>⟨_,h2.2⟩
   intro s3 h3;obtain⟨k,ar3,Z1,Z2,L3,F3,l3⟩:=h3;have m1:1<=c.1:=by rw [<-F3.len,G6,l3];exact Q8 _ _
   exact .bind (.rev L3 rfl (by rw [F3.len]) λs4 ar4 L4=> .bind (Rg ak ((ar3.trans ar4).1.trans kd) o u (by exact λi n=>rfl) (by exact λn=>⟨rfl,rfl⟩) m1 h2.1 L4 ((L9 _).trans F3.perm) (Fu F3.dsc) λn Z n1 n2 L p sr _=> .pure (q n s4 Z n1 n2 (ar3.trans ar4) L p sr)))
 ·intro z2 H;obtain⟨x0,V,eV⟩: ∃x0 V,Z=x0::V:=by
   match Z,xin with
   |a::r,_=>exact⟨a,r,rfl⟩
  have ux:=uZ x xin;have ux0:=uZ x0 (by rw [eV];simp);have a0:(arrOf st).toList[P.length]? =some x0:=by rw [L,eV];simp
  have a1:(arrOf st).toList[P.length+n-1]? =some x:=by
   obtain⟨_,W',x',e',ax⟩:=L.two lz n1 hy;rw [e] at e';rw [ax,(List.append_inj' e' rfl).2 |> λh=>(List.cons.inj h).1]
  exact .bind (.ltAt ak kd a0 a1 ux0 ux (.if2 (c:=R x0 x=true) (λ_=> .pure (q n _ _ n1 n2 (Arr.refl _) L p sr)) λhr0=> .bind (.rev L rfl (by rw [lz]) λs1 ar1 L1=>H s1 ⟨ar1,_,_,L1.more hy,Fall.below o u (Z1:= []) (Fall.turn (F0 λp hp r hr=>o.trans (uZ r hr) ux (uZ p hp) (Rf o uZ sr xl hr) (U1.mpr λv=>(o.neg p x0 x (uZ p hp) ux0 ux v).elim (λv=>by rw [Qn o uZ sr (z:=x0) (by rw [eV];rfl) hp] at v;cases v) hr0))) (F9.mpr xin) hy yx,rfl⟩)))
 ·intro z2;have w0:W= []:=K4 (by rw [e,G6,B2] at lz;omega);have f: ∀z∈Z,z=x:=λz hz=>by rw [e,w0] at hz;exact G2.mp hz
  exact⟨Arr.refl st,_,_,L.more hy,Fall.below o u (Z1:= []) (F0 λp hp r hr=>by rw [f p hp,f r hr];exact o.refl (uZ x xin)) xin hy yx,rfl⟩
end
section
variable {prog:Program}{w:World}{A:Around}{E:Value->Shared->Prop}{J:Shared->Prop}{κ:SortKind}{U:Keyed->Prop}{R:Keyed->Keyed->Bool}
theorem Nm (xs:Array Keyed)(P Z S:List Keyed)(y:Keyed)(l:Nat)(hl:l<=Z.length)(h:xs.toList=P++Z++y::S):(bubble xs (P.length+Z.length) (Z.length-l)).toList=P++(Z.take l++ [y]++Z.drop l)++S:=by
 have hz:xs.size=P.length+Z.length+(S.length+1):=by rw [<-T3,h];simp [U2]
 have at_: ∀k,xs[k]? =(P++Z++y::S)[k]? :=λk=>by rw [<-T9,h]
 refine G0C λk=> ?_
 rw [T9,getElem?_bubble (by omega) _ (by omega)];have lt:(Z.take l).length=l:=by rw [R3];omega
 by_cases c:k=P.length+Z.length-(Z.length-l)
 ·rw [if_pos c,at_];have e1:(P++Z++y::S)[P.length+Z.length]? =some y:=by
   rw [P3 (by rw [G6];omega),G6,G1n];rfl
  have e2:(P++(Z.take l++ [y]++Z.drop l)++S)[k]? =some y:=by
   rw [P0,P3 (by omega),P0,P0,P3 (by rw [lt];omega),lt,show k-P.length-l=0 by omega];rfl
  rw [e1,e2]
 ·rw [if_neg c]
  by_cases d:P.length+Z.length-(Z.length-l)<k/\k<=P.length+Z.length
  ·rw [if_pos d,at_];have e1:(P++Z++y::S)[k-1]? =Z[k-1-P.length]? :=by
    rw [P0,P3 (by omega),D4 (by omega)]
   have e2:(P++(Z.take l++ [y]++Z.drop l)++S)[k]? =Z[k-1-P.length]? :=by
    rw [P0,P3 (by omega),D4 (by simp only [G6,R3,T0,B2];omega),P3 (by rw [G6,lt];simp;omega),G6,lt,Q1]
    congr 1;simp;omega
   rw [e1,e2]
  ·rw [if_neg d,at_]
   by_cases f:k<P.length+l
   ·have e1:(P++Z++y::S)[k]? =(P++Z.take l)[k]? :=by
     have:P++Z++y::S=P++Z.take l++(Z.drop l++y::S):=by
      rw [P0,P0,<-P0 (Z.take l),R7]
     rw [this,D4 (by rw [G6,lt];omega)]
    have e2:(P++(Z.take l++ [y]++Z.drop l)++S)[k]? =(P++Z.take l)[k]? :=by
     have:P++(Z.take l++ [y]++Z.drop l)++S=P++Z.take l++([y]++Z.drop l++S):=by simp [P0]
     rw [this,D4 (by rw [G6,lt];omega)]
    rw [e1,e2]
   ·have e1:(P++Z++y::S)[k]? =S[k-P.length-Z.length-1]? :=by
     rw [P3 (by rw [G6];omega),G6,List.getElem?_cons,if_neg (by omega)]
     congr 1;omega
    have e2:(P++(Z.take l++ [y]++Z.drop l)++S)[k]? =S[k-P.length-Z.length-1]? :=by
     rw [P3 (by simp only [G6,R3,T0,B2];omega)]
     congr 1;simp only [G6,R3,T0,B2];omega
    rw [e1,e2]
theorem Fv (o:Ordd U R){Z:List Keyed}{y:Keyed}{l:Nat}(u: ∀z∈Z,U z)(uy:U y)(s:Srt R Z)(a: ∀z∈Z.take l,R y z=false)(b: ∀z∈Z.drop l,R y z=true):Srt R (Z.take l++ [y]++Z.drop l):=by
 have s':Srt R (Z.take l++Z.drop l):=by rw [R7];exact s
 obtain⟨s1,s2,s3⟩:=S2.mp s';refine S2.mpr ⟨S2.mpr ⟨s1,T6 _ _,λx hx z hz=> ?_⟩,s2,λx hx z hz=> ?_⟩
 ·rw [G2.mp hz];exact a x hx
 ·rcases P9.mp hx with v|v
  ·exact s3 x v z hz
  ·rw [G2.mp v];exact o.asym y z uy (u z (M7 hz)) (b z hz)
theorem AM {st:SortSt}{Q:Bool->SortSt->Prop}{P T Z:List Keyed}{n k:Nat}(ak:Vb prog w A J κ U R)(kd:kindOf st=κ)(o:Ordd U R)(u: ∀x∈T,U x)(h:Lies st P Z (T.drop k))(hp:Z.Perm (T.take k))(hs:Srt R Z)(k1:1<=k)(kn:k<=n)(hn:n<=T.length)
 (q: ∀st' Z',Arr st st'->Lies st' P Z' (T.drop n)->Z'.Perm (T.take n)->Srt R Z'->Q true st'):Tm prog w A E J (binarySort' P.length n k) Q st:=by
 unfold binarySort';refine .bind (Tm.mono (Tm.range (λi c s1=>Arr st s1/\c.1=none/\1<=i/\ ∃Z,Lies s1 P Z (T.drop i)/\Z.Perm (T.take i)/\Srt R Z) (Q:=λc s1=>Arr st s1/\c.1=none/\ ∃Z,Lies s1 P Z (T.drop n)/\Z.Perm (T.take n)/\Srt R Z) (by omega) ⟨Arr.refl st,rfl,by omega,Z,by rw [Nat.max_eq_left k1];exact h,by rw [Nat.max_eq_left k1];exact hp,hs⟩ ?_ ?_) ?_)
 ·rintro i ⟨r,c2⟩ s1 hi ⟨ar,hr,i1,Z,L,p,s⟩;dsimp only at hr ⊢;subst hr;obtain⟨y,hy⟩: ∃y,T[i]? =some y:=⟨_,G1 (by omega)⟩;have uy:=u y (G7 hy);have lz:Z.length=i:=by rw [p.length_eq,R3];omega
  have uZ: ∀z∈Z,U z:=λz hz=>u z (N0 (p.mem_iff.mp hz))
  have ay:(arrOf s1).toList[P.length+i]? =some y:=by
   have:=L.rest (i:=0);rw [Q1,lz] at this;rw [V8] at this;rw [this];exact hy
  have az: ∀m,m<i-> ∃z,Z[m]? =some z/\(arrOf s1).toList[P.length+m]? =some z:=λm hm=>by
   refine⟨Z[m],G1 (by omega),?_⟩;rw [L,P0,P3 (by omega),D4 (by omega),G0I,G1 (by omega)]
  refine .bind (Tm.mono (Tm.range (λj c s2=>s2=s1/\c.1=none/\c.2.1<=c.2.2/\c.2.2<=i/\(∀z∈Z.take c.2.1,R y z=false)/\(∀z∈Z.drop c.2.2,R y z=true)/\c.2.2-c.2.1+j<=i) (Q:=λc s2=>s2=s1/\c.1=none/\c.2.1<=i/\(∀z∈Z.take c.2.1,R y z=false)/\(∀z∈Z.drop c.2.1,R y z=true)) (Nat.zero_le _) ⟨rfl,rfl,Nat.zero_le _,Nat.le_refl _,λz hz=> ?_,λz hz=> ?_,by dsimp only;omega⟩ ?_ ?_) ?_)
  ·dsimp only at hz;rw [List.take_zero] at hz;cases hz
  ·dsimp only at hz;rw [List.drop_eq_nil_of_le (by omega)] at hz;cases hz
  ·rintro j ⟨r,l,v⟩ _ hj ⟨rfl,hr,b1,b2,b3,b4,b5⟩;dsimp only at hr b1 b2 b3 b4 b5 ⊢;subst hr
   by_cases c1:l>=v
   ·rw [if_pos c1];have:l=v:=by omega
    subst this;exact .pure ⟨rfl,rfl,b2,b3,b4⟩
   rw [if_neg c1];obtain⟨z,hz,ez⟩:=az ((l+v) / 2) (by omega);have uz:=uZ z (G7 hz);refine .bind (.ltAt ak (ar.1.trans kd) ay ez uy uz ?_);dsimp only;cases hb:R y z with
   |true=>
    rw [if_pos rfl];refine .pure ⟨rfl,rfl,by dsimp only;omega,by dsimp only;omega,b3,λx hx=> ?_,by dsimp only;omega⟩;dsimp only at hx;have zx:R x z=false:=by
     obtain⟨t,ht,e⟩:=C3 hx;rw [T0] at ht;exact Wj s o uZ (show (l+v) / 2<=(l+v) / 2+t by omega) hz (by rw [G1 (by omega),<-e,List.getElem_drop])
    rcases o.neg y x z uy (uZ x (M7 hx)) uz hb with w|w
    ·exact w
    ·rw [zx] at w;cases w
   |false=>
    rw [if_neg (by decide)];refine .pure ⟨rfl,rfl,by dsimp only;omega,b2,λx hx=> ?_,b4,by dsimp only;omega⟩;dsimp only at hx;have xz:R z x=false:=by
     obtain⟨t,ht,e⟩:=C3 hx;rw [R3] at ht;exact Wj s o uZ (show t<=(l+v) / 2 by omega) (by rw [G1 (by omega),<-e,List.getElem_take]) hz
    exact o.trans (uZ x (N0 hx)) uz uy xz hb
  ·rintro ⟨r,l,v⟩ _ ⟨rfl,hr,b1,b2,b3,b4,b5⟩;dsimp only at hr b1 b2 b3 b4 b5 ⊢;have:l=v:=by omega
   subst this;exact⟨rfl,hr,b2,b3,b4⟩
  ·rintro ⟨r,l,v⟩ s2 ⟨rfl,hr,b2,b3,b4⟩;dsimp only at hr b2 b3 b4 ⊢;subst hr;dsimp only;refine .bind ?_;show Tm prog w A E J (moveDown' (P.length+i) (P.length+l)) _ _;rw [moveDown'_eq];refine .modify (.pure ⟨ar.trans ⟨rfl,rfl,rfl,rfl⟩,rfl,by omega,Z.take l++ [y]++Z.drop l,?_,?_,Fv o uZ uy s b3 b4⟩)
   ·have:=Nm (arrOf s2) P Z (T.drop (i+1)) y l (by omega) (by rw [<-za hy];exact L);rw [lz] at this;rw [show P.length+i-(P.length+l)=i-l by omega];exact this
   ·refine List.Perm.trans ?_ (Jh p hy);rw [P0];have e:Z++ [y]=Z.take l++(Z.drop l++ [y]):=by rw [<-P0,R7]
    rw [e];exact(Q7).append_left _
 ·rintro ⟨r,c2⟩ s1 ⟨ar,hr,i1,Z,L,p,s⟩;exact⟨ar,hr,Z,L,p,s⟩
 ·rintro ⟨r,c2⟩ s1 ⟨ar,hr,Z,L,p,s⟩;dsimp only at hr ⊢;subst hr;exact .pure (q s1 Z ar L p s)
end
section
variable {prog:Program}{w:World}{A:Around}{E:Value->Shared->Prop}{J:Shared->Prop}{κ:SortKind}{U:Keyed->Prop}{R:Keyed->Keyed->Bool}
def Stk (R:Keyed->Keyed->Bool)(l:List Keyed):List (Nat×Nat×Nat)->Nat->Nat->Prop
 | [],s,e=>s=e
 |(p,n,_)::rest,s,e=>p=s/\1<=n/\Srt R (seg l p n)/\Stk R l rest (s+n) e
variable {l:List Keyed}
theorem Stk.le: ∀ {pl:List (Nat×Nat×Nat)} {s e:Nat},Stk R l pl s e->s+pl.length<=e
 | [],s,e,h=>by cases h;simp
 |(p,n,_)::rest,s,e,⟨_,n1,_,h⟩=>by have:=Stk.le h;simp only [D3];omega
theorem Nn {l':List Keyed}{p n e:Nat}(h:l.take e=l'.take e)(he:p+n<=e):seg l p n=seg l' p n:=by
 have cut: ∀k:List Keyed,seg k p n=seg (k.take e) p n:=λk=>by
  unfold seg;rw [G05,G06,W7 (by omega)]
 rw [cut l,cut l',h]
theorem Stk.same {l':List Keyed}: ∀ {pl:List (Nat×Nat×Nat)} {s e:Nat},Stk R l pl s e->l.take e=l'.take e->Stk R l' pl s e
 | [],s,e,h,_=>h
 |(p,n,_)::rest,s,e,⟨a,b,c,d⟩,h=>by
  have:=d.le;exact⟨a,b,by rw [<-Nn h (by omega)];exact c,d.same h⟩
theorem Stk.shift {l':List Keyed}: ∀ {pl:List (Nat×Nat×Nat)} {s e:Nat},Stk R l pl s e->l.drop s=l'.drop s->Stk R l' pl s e
 | [],s,e,h,_=>h
 |(p,n,_)::rest,s,e,⟨a,b,c,d⟩,h=>by
  subst a;refine⟨rfl,b,by unfold seg at c ⊢;rw [<-h];exact c,d.shift ?_⟩;rw [<-J0,<-J0,h]
theorem Stk.append: ∀ {a b:List (Nat×Nat×Nat)} {s e:Nat},Stk R l (a++b) s e↔ ∃m,Stk R l a s m/\Stk R l b m e
 | [],b,s,e=>⟨λh=>⟨s,rfl,h⟩,λ⟨m,h,h'⟩=>by cases h;exact h'⟩
 |(p,n,w)::a,b,s,e=>by
  constructor
  ·rintro ⟨x,y,z,h⟩;obtain⟨m,h1,h2⟩:=Stk.append.mp h;exact⟨m,⟨x,y,z,h1⟩,h2⟩
  ·rintro ⟨m,⟨x,y,z,h1⟩,h2⟩;exact⟨x,y,z,Stk.append.mpr ⟨m,h1,h2⟩⟩
structure Bt (R:Keyed->Keyed->Bool)(κ:SortKind)(l0:List Keyed)(lo:Nat)(st:SortSt):Prop where
 kind:kindOf st=κ
 failed:failedOf st=none
 perm:(arrOf st).toList.Perm l0
 stk:Stk R (arrOf st).toList (pendingOf st).toList 0 lo
variable {l0:List Keyed}{lo:Nat}
theorem Bt.size {st:SortSt}(b:Bt R κ l0 lo st):(arrOf st).size=l0.length:=by rw [<-T3,b.perm.length_eq]
theorem Bt.merge {st:SortSt}{Q:Bool->SortSt->Prop}{i:Nat}(ak:Vb prog w A J κ U R)(o:Ordd U R)(u: ∀x∈l0,U x)(b:Bt R κ l0 lo st)(hlo:lo<=l0.length)(hi:i+1<(pendingOf st).size)
 (q: ∀st',Bt R κ l0 lo st'->(pendingOf st').size+1=(pendingOf st).size->(arrOf st').toList.drop lo=(arrOf st).toList.drop lo->Q true st'):Tm prog w A E J (mergeAt' i) Q st:=by
 have lp:(pendingOf st).toList.length=(pendingOf st).size:=by simp
 obtain⟨⟨sa,na,pw⟩,hx⟩: ∃x,(pendingOf st).toList[i]? =some x:=⟨_,G1 (by omega)⟩;obtain⟨⟨sb,nb,pw2⟩,hy⟩: ∃y,(pendingOf st).toList[i+1]? =some y:=⟨_,G1 (by omega)⟩;have e:(pendingOf st).toList=(pendingOf st).toList.take i++(sa,na,pw)::(sb,nb,pw2)::(pendingOf st).toList.drop (i+2):=by
  rw [<-za hy,<-za hx,R7]
 have stk:=b.stk;rw [e] at stk;obtain⟨m,k1,em,n1,s1,eb,n2,s2,k2⟩:=Stk.append.mp stk;subst em;subst eb;have le:=k2.le;have sz:=b.size;have hz:sa+na+nb<=(arrOf st).size:=by omega
 have ln:(arrOf st).toList.length=(arrOf st).size:=by simp
 refine AL ak b.kind o (λx hx=>u x (b.perm.mem_iff.mp hx)) (by rw [<-T9];exact hx) (by rw [<-T9];exact hy) rfl n1 n2 hz s1 s2 b.failed λst' Z kd hf hp ha pz sz'=> ?_
 have hpl:(pendingOf st').toList=(pendingOf st).toList.take i++(sa,na+nb,pw)::(pendingOf st).toList.drop (i+2):=by
  rw [hp,Array.eraseIdxIfInBounds_eq,dif_pos (by rw [G0B];exact hi),Array.toList_eraseIdx,G0l];generalize (pendingOf st).toList.drop (i+2)=B at e ⊢;have li:((pendingOf st).toList.take i).length=i:=by rw [R3];omega
  generalize (pendingOf st).toList.take i=A at e li ⊢;rw [e];subst li;simp [List.set_append,List.eraseIdx_append];intro z;omega
 have lZ:Z.length=na+nb:=by rw [pz.length_eq,G6,Wl (by omega),Wl (by omega)]
 have lt:((arrOf st).toList.take sa).length=sa:=by rw [R3];omega
 refine q st' ⟨kd,hf,?_,?_⟩ ?_ ?_
 ·rw [ha];refine List.Perm.trans ?_ b.perm;have c3:=Ud (arrOf st).toList (p:=sa) (n:=na) (m:=nb);have pp:=(pz.append_left ((arrOf st).toList.take sa)).append_right ((arrOf st).toList.drop (sa+na+nb));rw [<-c3] at pp;exact pp
 ·rw [hpl,ha];refine Stk.append.mpr ⟨sa,k1.same ?_,rfl,by omega,?_,?_⟩
  ·rw [P0,O7 (by omega),S0 (l:=(arrOf st).toList.take sa) (by omega)]
  ·unfold seg;rw [P0,O6 (by omega),N9 (by omega),M1,O7 (by omega),S0 (by omega)];exact sz'
  ·rw [<-U2];refine k2.shift ?_;have:((arrOf st).toList.take sa++Z).length=sa+na+nb:=by rw [G6,lt,lZ];omega
   rw [O6 (by omega),N9 (as:=(arrOf st).toList.take sa++Z) (by omega),M1]
 ·rw [<-T3,<-T3,hpl];have:(pendingOf st).toList.length=((pendingOf st).toList.take i++(sa,na,pw)::(sa+na,nb,pw2)::(pendingOf st).toList.drop (i+2)).length:=congrArg List.length e;rw [this];simp only [G6,D3];omega
 ·rw [ha];have c1:((arrOf st).toList.take sa++Z).length=sa+na+nb:=by rw [G6,lt,lZ];omega
  have c2:sa+na+nb<=lo:=by omega
  rw [List.drop_append,N9 (as:=(arrOf st).toList.take sa++Z) (by omega),M1,J0,c1]
  congr 1;omega
theorem Bt.run {Z:List Keyed}{n:Nat}{s1 s2:SortSt}(b:Bt R κ l0 lo s1)(hlo:lo<=l0.length)(ar:Arr s1 s2)(L:Lies s2 ((arrOf s1).toList.take lo) Z (((arrOf s1).toList.drop lo).drop n))(p:Z.Perm (((arrOf s1).toList.drop lo).take n))(sr:Srt R Z)(hn:n<=l0.length-lo):Bt R κ l0 lo s2/\Srt R (seg (arrOf s2).toList lo n):=by
 have ln:(arrOf s1).toList.length=l0.length:=b.perm.length_eq;have lP:((arrOf s1).toList.take lo).length=lo:=by rw [R3];omega
 have lZ:Z.length=n:=by rw [p.length_eq,R3,T0];omega
 have e:(arrOf s2).toList=(arrOf s1).toList.take lo++Z++((arrOf s1).toList.drop lo).drop n:=L;refine⟨⟨ar.1.trans b.kind,ar.2.2.1.trans b.failed,?_,?_⟩,?_⟩
 ·rw [e];refine List.Perm.trans ?_ b.perm;have pp:=(p.append_left ((arrOf s1).toList.take lo)).append_right (((arrOf s1).toList.drop lo).drop n);rw [P0 _ (((arrOf s1).toList.drop lo).take n),R7,R7] at pp;exact pp
 ·rw [ar.2.1];refine b.stk.same ?_;rw [e,P0,O7 (by omega),S0 (l:=(arrOf s1).toList.take lo) (by omega)]
 ·rw [e];unfold seg;rw [P0,O6 (by omega),N9 (by omega),M1,O7 (by omega),S0 (by omega)];exact sr
theorem Bt.push {n:Nat}{s:SortSt}(b:Bt R κ l0 lo s)(n1:1<=n)(g:Srt R (seg (arrOf s).toList lo n)):Bt R κ l0 (lo+n) (setPending s ((pendingOf s).push (lo,n,0))):=by
 refine⟨b.kind,b.failed,b.perm,?_⟩;show Stk R (arrOf s).toList ((pendingOf s).push (lo,n,0)).toList 0 (lo+n);rw [U0];exact Stk.append.mpr ⟨lo,b.stk,rfl,n1,g,rfl⟩
theorem Stk.mod {f:Nat×Nat×Nat->Nat×Nat×Nat}(hf: ∀x,(f x).1=x.1/\(f x).2.1=x.2.1): ∀ {pl:List (Nat×Nat×Nat)} {k s e:Nat},Stk R l pl s e->Stk R l (pl.modify k f) s e
 | [],k,s,e,h=>by rw [List.modify_nil];exact h
 |(p,n,w)::rest,0,s,e,⟨a,b,c,d⟩=>by
  rw [List.modify_zero_cons];have e1:=(hf (p,n,w)).1;have e2:=(hf (p,n,w)).2;generalize f (p,n,w)=x at e1 e2;obtain⟨p',n',w'⟩:=x;dsimp only at e1 e2;subst e1 e2;exact⟨a,b,c,d⟩
 |(p,n,w)::rest,k+1,s,e,⟨a,b,c,d⟩=>by
  rw [List.modify_succ_cons];exact⟨a,b,c,d.mod hf⟩
theorem Bt.mod {k:Nat}{s:SortSt}{f:Nat×Nat×Nat->Nat×Nat×Nat}(b:Bt R κ l0 lo s)(hf: ∀x,(f x).1=x.1/\(f x).2.1=x.2.1):Bt R κ l0 lo (setPending s ((pendingOf s).modify k f)):=by
 refine⟨b.kind,b.failed,b.perm,?_⟩;show Stk R (arrOf s).toList ((pendingOf s).modify k f).toList 0 lo;rw [Array.toList_modify];exact b.stk.mod hf
theorem No (c:Bool)(x:Nat):(if c=true then x-1 else x)<=x:=by cases c<;>simp
theorem Fw {st:SortSt}{Q:Unit->SortSt->Prop}(ak:Vb prog w A J κ U R)(o:Ordd U R)(u: ∀x∈l0,U x)(kd:kindOf st=κ)(hf:failedOf st=none)(hp:pendingOf st= #[])(hl:(arrOf st).toList=l0)
 (q: ∀st',failedOf st'=none->(arrOf st').toList.Perm l0->Srt R (arrOf st').toList->Q () st'):Tm prog w A E J sortRuns' Q st:=by
 have b0:Bt R κ l0 0 st:=⟨kd,hf,by rw [hl],by rw [hp];rfl⟩;rw [sortRuns'_eq];refine .bind (.get ?_);dsimp only;rw [b0.size];generalize minRun' l0.length l0.length 0=mr;refine .bind (Tm.mono (Tm.range (λi c s1=>c.1=none/\c.2<=l0.length/\i<=c.2/\Bt R κ l0 c.2 s1) (Q:=λc s1=>c.1=none/\Bt R κ l0 l0.length s1) (T2 _) ⟨rfl,T2 _,T2 _,b0⟩ ?_ ?_) ?_)
 ·rintro i ⟨r,lo⟩ s1 hi ⟨hr,h1,h2,b⟩;dsimp only at hr h1 h2 b ⊢;subst hr
  by_cases z1:lo>=l0.length
  ·rw [if_pos z1];have:lo=l0.length:=by omega
   subst this;exact .pure ⟨rfl,b⟩
  rw [if_neg z1];have ln:(arrOf s1).toList.length=l0.length:=b.perm.length_eq;have lP:((arrOf s1).toList.take lo).length=lo:=by rw [R3];omega
  have lT:((arrOf s1).toList.drop lo).length=l0.length-lo:=by rw [T0,ln]
  have uT: ∀x∈(arrOf s1).toList.drop lo,U x:=λx hx=>u x (b.perm.mem_iff.mp (M7 hx))
  have ct:=λ{Q}=>Nl (prog:=prog) (w:=w) (A:=A) (E:=E) (J:=J) (Q:=Q) (st:=s1) (P:=(arrOf s1).toList.take lo) (T:=(arrOf s1).toList.drop lo) ak b.kind o uT (by unfold Lies;rw [List.append_nil,List.take_append_drop]) (by omega)
  rw [lP,lT] at ct;refine .bind (ct λn s2 Z n1 n2 ar L p sr=> ?_);dsimp only
  by_cases z2:n<mr
  ·rw [if_pos z2];have bn:=λ{Q}=>AM (prog:=prog) (w:=w) (A:=A) (E:=E) (J:=J) (Q:=Q) (st:=s2) (P:=(arrOf s1).toList.take lo) (T:=(arrOf s1).toList.drop lo) (n:=min (l0.length-lo) mr) ak (ar.1.trans b.kind) o uT L p sr n1 (by omega) (by omega)
   rw [lP] at bn;refine .bind (.rule (.bind (bn λs3 Z3 ar3 L3 p3 sr3=> ?_)));obtain⟨B,G⟩:=b.run h1 (ar.trans ar3) L3 p3 sr3 (by omega);have N1:1<=min (l0.length-lo) mr:=by omega
   rw [if_neg (by decide)];refine .bind (.get ?_);split
   ·refine .bind (Tm.mono (Tm.range (λj c s4=>c.1=none/\Bt R κ l0 lo s4/\Srt R (seg (arrOf s4).toList lo (min (l0.length-lo) mr))) (Q:=λc s4=>c.1=none/\Bt R κ l0 lo s4/\Srt R (seg (arrOf s4).toList lo (min (l0.length-lo) mr))) (T2 _) ⟨rfl,B,G⟩ ?_ (λ_ _ h=>h)) ?_)
    ·rintro j ⟨r,c⟩ s4 hj ⟨hr,B4,G4⟩;dsimp only at hr ⊢;subst hr;refine .bind (.get ?_);split
     ·rename_i older heq;split
      ·exact .pure ⟨rfl,B4,G4⟩
      ·have two:(pendingOf s4).size>1:=E9 λz=>by rw [if_neg z] at heq;cases heq
       refine .bind (Bt.merge ak o u B4 h1 (by omega) λs5 B5 _ dr=> ?_);refine .pure ⟨rfl,B5,?_⟩;unfold seg at G4 ⊢;rw [dr];exact G4
     ·exact .pure ⟨rfl,B4,G4⟩
    ·rintro ⟨r,c⟩ s4 ⟨hr,B4,G4⟩;dsimp only at hr ⊢;subst hr;dsimp only;refine .bind (.modify (.bind (.modify (.pure ⟨rfl,?_,?_,Bt.push (Bt.mod B4 λx=>⟨rfl,rfl⟩) N1 G4⟩))))
     ·dsimp only;omega
     ·dsimp only;omega
   ·refine .bind (.modify (.pure ⟨rfl,?_,?_,Bt.push B N1 G⟩))
    ·dsimp only;omega
    ·dsimp only;omega
  ·rw [if_neg z2];obtain⟨B,G⟩:=b.run h1 ar L p sr n2;have N1:=n1;refine .bind (.get ?_);split
   ·refine .bind (Tm.mono (Tm.range (λj c s4=>c.1=none/\Bt R κ l0 lo s4/\Srt R (seg (arrOf s4).toList lo (n))) (Q:=λc s4=>c.1=none/\Bt R κ l0 lo s4/\Srt R (seg (arrOf s4).toList lo (n))) (T2 _) ⟨rfl,B,G⟩ ?_ (λ_ _ h=>h)) ?_)
    ·rintro j ⟨r,c⟩ s4 hj ⟨hr,B4,G4⟩;dsimp only at hr ⊢;subst hr;refine .bind (.get ?_);split
     ·rename_i older heq;split
      ·exact .pure ⟨rfl,B4,G4⟩
      ·have two:(pendingOf s4).size>1:=E9 λz=>by rw [if_neg z] at heq;cases heq
       refine .bind (Bt.merge ak o u B4 h1 (by omega) λs5 B5 _ dr=> ?_);refine .pure ⟨rfl,B5,?_⟩;unfold seg at G4 ⊢;rw [dr];exact G4
     ·exact .pure ⟨rfl,B4,G4⟩
    ·rintro ⟨r,c⟩ s4 ⟨hr,B4,G4⟩;dsimp only at hr ⊢;subst hr;dsimp only;refine .bind (.modify (.bind (.modify (.pure ⟨rfl,?_,?_,Bt.push (Bt.mod B4 λx=>⟨rfl,rfl⟩) N1 G4⟩))))
     ·dsimp only;omega
     ·dsimp only;omega
   ·refine .bind (.modify (.pure ⟨rfl,?_,?_,Bt.push B N1 G⟩))
    ·dsimp only;omega
    ·dsimp only;omega
 ·rintro ⟨r,lo⟩ s1 ⟨hr,h1,h2,b⟩;dsimp only at hr h1 h2 b;have:lo=l0.length:=by omega
  subst this;exact⟨hr,b⟩
 ·rintro ⟨r,lo⟩ s1 ⟨hr,b⟩;dsimp only at hr ⊢;subst hr;dsimp only;have le0:=b.stk.le;have lp0:(pendingOf s1).toList.length=(pendingOf s1).size:=by simp
  refine .bind (Tm.mono (Tm.range (λj c s4=>c.1=none/\Bt R κ l0 l0.length s4/\(pendingOf s4).size+j<=l0.length) (Q:=λc s4=>c.1=none/\Bt R κ l0 l0.length s4/\(pendingOf s4).size<=1) (T2 _) ⟨rfl,b,by omega⟩ ?_ (λc s4 ⟨x,y,z⟩=>⟨x,y,by omega⟩)) ?_)
  ·rintro j ⟨r,c⟩ s4 hj ⟨hr,B4,z4⟩;dsimp only at hr ⊢;subst hr;refine .bind (.get ?_)
   by_cases c1:(pendingOf s4).size<=1
   ·rw [if_pos c1];exact .pure ⟨rfl,B4,c1⟩
   rw [if_neg c1];refine .bind (Bt.merge ak o u B4 (G8 _) (C8 (Nat.add_le_add_right (No _ _) 1) (by omega)) λs5 B5 z5 _=> ?_);exact .pure ⟨rfl,B5,by omega⟩
  ·rintro ⟨r,c⟩ s4 ⟨hr,B4,z4⟩;dsimp only at hr ⊢;subst hr;refine .pure (q s4 B4.failed B4.perm ?_);have stk:=B4.stk;have ln:(arrOf s4).toList.length=l0.length:=B4.perm.length_eq;have lp:(pendingOf s4).toList.length=(pendingOf s4).size:=by simp
   generalize (pendingOf s4).toList=pl at stk lp
   match pl,stk,lp with
   | [],e,_=>
    have:l0.length=0:=e.symm;have:(arrOf s4).toList= []:=K1.mp (by omega);rw [this];exact .nil
   | [(p,n,_)],⟨e1,_,sr,e2⟩,_=>
    subst e1;have en:n=l0.length:=by have:0+n=l0.length:=e2;omega
    unfold seg at sr;rw [List.drop_zero,S0 (by omega)] at sr;exact sr
   |_::_::_,_,h=>simp only [D3] at h;omega
end
section
variable {prog:Program}{w:World}{A:Around}{E:Value->Shared->Prop}{s:Shared}{κ:SortKind}{U:Keyed->Prop}{R:Keyed->Keyed->Bool}
def AN (s:Shared)(a:Addr)(h':Heap):Prop:= ∀b o,b≠a->s.heap.get? b=some o->h'.get? b=some o
def Only (s:Shared)(h':Heap):Shared->Prop:=λs'=> ∃tk,s'= {s with heap:=h',toks:=tk}
theorem Np {M:Model}{α β:Type}{c:Prop}[Decidable c]{m m':Sem α}{F:α->Sem β}{Q:β->Shared->Prop}(h:wpAny M A ((if c then m else m') >>= F) Q E s):wpAny M A (if c then m >>= F else m' >>= F) Q E s:=by
 by_cases z:c
 ·rw [if_pos z] at h ⊢;exact h
 ·rw [if_neg z] at h ⊢;exact h
theorem JK (vs:List Value):(vs.toArray.zip vs.toArray).toList=vs.map λv=>(v,v):=by
 rw [Array.toList_zip];show vs.zip vs=_
 induction vs with
 |nil=>rfl
 |cons v vs ih=>rw [W3,ih,S1]
theorem Nq {a:Addr}{vs:List Value}{n:Nat}{P:Fin->Shared->Prop}(ho:s.heap.get? a=some (seqObj "list" vs.toArray n))(hz:vs.length<=sizeLine)
 (hk:2<=vs.length-> ∀h',AN s a h'->wpAny (model prog w) A (keyKind' vs.toArray) (λk s'=>k=κ/\Only s h' s') (λ_ _=>False) {s with heap:=h'})(ak: ∀h',AN s a h'->Vb prog w A (Only s h') κ U R)(o:Ordd U R)(u: ∀v∈vs,U (v,v))
 (q: ∀ (out:List Value) (c tk:Nat) (h':Heap),AN s a h'->h'.get? a=some (seqObj "list" out.toArray c)->out.Perm vs->(out.map λv=>(v,v)).Pairwise (λx y=>R y x=false)->P (.done (.ret .none)) {s with heap:=h',toks:=tk}):
 wpAny (model prog w) A (Builtin.«list.sort» ⟨[.ref a],[]⟩) P E s:=by
 have alt:=P5 ho;have sv:vs.toArray.size=vs.length:=P8 ..;rw [list_sort_plain];refine wpAny_bind (listItems_at ho rfl ?_);obtain⟨c1,ho1⟩: ∃c,(s.heap.update a (Obj.mapSeq λ_=>(#[]:Array Value))).get? a=some (seqObj "list" #[] c):=⟨_,get?_update_seq ho λ_=> #[]⟩;refine wpAny_bind (listUpdate_at ho rfl ?_ (by rw [sv];exact hz) (T2 _));refine wpAny_bind (seqEpoch_at ho1 rfl ?_);refine wpAny_bind (wpAny_newTuple ?_ hz);refine wpAny_bind (wpAny_newList ?_ (T2 _));refine O1 ?_;have past:AN s a (((s.heap.update a (Obj.mapSeq λ_=>(#[]:Array Value))).push {cls:= .type "tuple",data:= .seq vs.toArray.toList.toArray}).push {cls:= .type "list",data:= .seq ([]:List Value).toArray}):=λb x ne e=>by
  refine G3 _ (G3 _ ?_);rw [G0e _ _ _ _ ne];exact e
 have ho3:=G3 ({cls:= .type "list",data:= .seq ([]:List Value).toArray}:Obj) (G3 ({cls:= .type "tuple",data:= .seq vs.toArray.toList.toArray}:Obj) ho1);revert past ho3;generalize ((s.heap.update a (Obj.mapSeq λ_=>(#[]:Array Value))).push ({cls:= .type "tuple",data:= .seq vs.toArray.toList.toArray}:Obj)).push ({cls:= .type "list",data:= .seq ([]:List Value).toArray}:Obj)=H3;intro past ho3;have kd:wpAny (model prog w) A (if vs.toArray.size<2 then pure general' else keyKind' vs.toArray) (λk s0=>(2<=vs.length->k=κ)/\Only s H3 s0) (λ_ _=>False) {s with heap:=H3}:=by
  by_cases c:vs.toArray.size<2
  ·rw [if_pos c];exact P4 ⟨λz=>by omega,s.toks,rfl⟩
  ·rw [if_neg c];exact R5 (hk (by omega) H3 past) (λk s0 x=>⟨λ_=>x.1,x.2⟩) λ_ _ e=>e
 have rn: ∀k s0,(2<=vs.length->k=κ)->Only s H3 s0->wpAny (model prog w) A ((if vs.toArray.size<2 then pure () else sortRuns':StateT SortSt Sem Unit).run (SortSt.mk' k (vs.toArray.zip vs.toArray) #[] 7 none)) (λr s'=>(failedOf r.2=none/\(arrOf r.2).toList.Perm (vs.map λv=>(v,v))/\Srt R (arrOf r.2).toList)/\Only s H3 s') E s0:=by
  intro k s0 ek j
  by_cases c:vs.toArray.size<2
  ·rw [if_pos c,StateT.run_pure];refine P4 ⟨⟨rfl,?_,?_⟩,j⟩
   ·show (vs.toArray.zip vs.toArray).toList.Perm _;rw [JK]
   ·show Srt R (vs.toArray.zip vs.toArray).toList;rw [JK];rw [sv] at c
    match vs,c with
    | [],_=>exact List.Pairwise.nil
    | [v],_=>exact T6 _ _
  ·rw [if_neg c];have ek:=ek (by omega);subst ek;refine Fw (E:=E) (ak H3 past) o (l0:=vs.map λv=>(v,v)) (st:=SortSt.mk' k (vs.toArray.zip vs.toArray) #[] 7 none) (λx hx=> ?_) rfl rfl rfl (JK vs) (Q:=λ_ st'=>failedOf st'=none/\(arrOf st').toList.Perm (vs.map λv=>(v,v))/\Srt R (arrOf st').toList) (λst' a1 a2 a3=>⟨a1,a2,a3⟩) s0 j;obtain⟨v,hv,rfl⟩:=D8.mp hx;exact u v hv
 dsimp only;refine Np (wpAny_bind (R5 kd (λk s0 x=> ?_) λ_ _ e=>e.elim));refine wpAny_bind (R5 (rn k s0 x.1 x.2) ?_ λ_ _ e=>e);rintro ⟨⟨⟩,st'⟩ s1 ⟨⟨hf,hp,hs⟩,tk,rfl⟩;dsimp only;have eo:((arrOf st').map λx=>x.2)=((arrOf st').toList.map λx=>x.2).toArray:=by
  rw [<-Array.toList_map,Array.toArray_toList]
 have two:(arrOf st').toList=((arrOf st').toList.map λx=>x.2).map λv=>(v,v):=by
  rw [S4];refine(G1c _).symm.trans (S3 λx hx=> ?_);obtain⟨v,_,rfl⟩:=D8.mp (hp.mem_iff.mp hx);rfl
 have po:((arrOf st').toList.map λx=>x.2).Perm vs:=by
  have:=hp.map λx=>x.2
  rw [S4] at this;refine this.trans ?_;rw [show ((λx:Keyed=>x.2)∘λv:Value=>(v,v))=id from rfl,G1c]
 rw [two] at hs;rw [eo];generalize (arrOf st').toList.map (λx=>x.2)=out at hs po;obtain⟨c2,ho4⟩: ∃c,(H3.update a (Obj.mapSeq λ_=>out.toArray)).get? a=some (seqObj "list" out.toArray c):=⟨_,get?_update_seq ho3 λ_=>out.toArray⟩;refine wpAny_bind (seqEpoch_at (s:= {s with heap:=H3,toks:=tk}) ho3 rfl ?_);refine wpAny_bind (listUpdate_at (s:= {s with heap:=H3,toks:=tk}) ho3 rfl ?_ (T2 _) (by rw [P8,po.length_eq];exact Nat.le_succ_of_le hz));rw [hf];simp only [bne_self_eq_false,Bool.false_eq_true,G1f];refine P4 (q out c2 tk _ (λb x ne e=> ?_) ho4 po hs);rw [G0e _ _ _ _ ne];exact past b x ne e
abbrev Wn (h h':Heap):Prop:= ∀b o,h.get? b=some o->h'.get? b=some o
theorem Gs {l:Addr}{vs:List Value}{Q:Value->Shared->Prop}(hl:s.heap.IsList l vs.toArray)(hz:vs.length<sizeLine)
 (hk:2<=vs.length-> ∀h',Wn s.heap h'->wpAny (model prog w) A.in1.in1 (keyKind' vs.toArray) (λk s'=>k=κ/\Only s h' s') (λ_ _=>False) {s with heap:=h'})(ak: ∀h',Wn s.heap h'->Vb prog w A.in1.in1 (Only s h') κ U R)(o:Ordd U R)(u: ∀v∈vs,U (v,v))
 (q: ∀ (h1 h':Heap) (tk c:Nat) (out:List Value),Wn s.heap h1->Wn h1 h'->h'.get? h1.objs.size=some (seqObj "list" out.toArray c)->out.Perm vs->(out.map λv=>(v,v)).Pairwise (λx y=>R y x=false)->Q (.ref h1.objs.size) {s with heap:=h',toks:=tk}):
 wpAny (model prog w) A (call (.builtin "sorted") [.ref l]) Q E s:=by
 refine Calls.call_function_entry kind_sorted plain_sorted entry_sorted (args_sorted1 _) (wpAny_bind (P4 (wpAny_bind (collect_list hl ?_ (by omega)))));have k1:Wn s.heap ((s.heap.push (seqObj "list" #[] 0)).update s.heap.objs.size (Obj.mapSeq (· ++vs.toArray))):=λb x e=>by
  rw [G0e _ _ _ _ (R6 (P5 e))];exact G3 _ e
 revert k1;generalize (s.heap.push (seqObj "list" #[] 0)).update s.heap.objs.size (Obj.mapSeq (· ++vs.toArray))=H1;intro k1;have fresh:(H1.push (seqObj "list" vs.toArray 0)).get? H1.objs.size=some (seqObj "list" vs.toArray 0):=D9 _ rfl;have kp: ∀h',AN {s with heap:=H1.push (seqObj "list" vs.toArray 0)} H1.objs.size h'->Wn H1 h':=λh' p b x e=>p b x (R6 (P5 e)) (G3 _ e)
 refine wpAny_bind (wpAny_newList (wpAny_bind (O1 (E2 slot_list_sort ⟨_,fresh,rfl⟩ entry_list_sort (Nq (s:= {s with heap:=H1.push (seqObj "list" vs.toArray 0)}) (κ:=κ) (U:=U) (R:=R) fresh (D5 hz) (λh2 h' p=>hk h2 h' λb x e=>kp h' p b x (k1 b x e)) (λh' p=>ak h' λb x e=>kp h' p b x (k1 b x e)) o u λout c tk h' p e1 e2 e3=>⟨_,rfl,?_⟩) (args_list_sort _)))) (D5 hz));exact P4 ⟨_,rfl,q H1 h' tk c out k1 (kp h' p) e1 e2 e3⟩
end
theorem JL: ∀a b:List Int,jK a b=true->jK b a=false
 | [],[],h=>rfl
 | [],_::_,_=>rfl
 |_::_,[],h=>by cases h
 |x::xs,y::ys,h=>by
  unfold jK at h ⊢
  by_cases e:x=y
  ·subst e;rw [if_pos rfl] at h ⊢;exact JL xs ys h
  ·rw [if_neg e] at h;rw [if_neg (Ne.symm e)];have:=S9 h;exact D1 (by omega)
theorem Wo: ∀a b c:List Int,jK a c=true->jK a b=true\/jK b c=true
 | [],[],c,h=> .inr h
 | [],_::_,_,_=> .inl rfl
 |_::_,_,[],h=>by cases h
 |x::xs,[],z::zs,h=> .inr rfl
 |x::xs,y::ys,z::zs,h=>by
  unfold jK at h ⊢
  by_cases e:x=z
  ·subst e;rw [if_pos rfl] at h
   by_cases f:x=y
   ·subst f;rw [if_pos rfl,if_pos rfl];exact Wo xs ys zs h
   ·rw [if_neg f,if_neg (Ne.symm f)]
    by_cases g:x<y
    ·exact .inl (G9 g)
    ·exact .inr (G9 (by omega))
  ·rw [if_neg e] at h;have lt:=S9 h
   by_cases f:x=y
   ·subst f;rw [if_neg e];exact .inr h
   ·rw [if_neg f]
    by_cases g:x<y
    ·exact .inl (G9 g)
    ·refine .inr ?_;rw [if_neg (by omega)];exact G9 (by omega)
theorem Wp: ∀a b:List Int,jK a b=false->jK b a=false->a=b
 | [],[],_,_=>rfl
 | [],_::_,h,_=>by cases h
 |_::_,[],_,h=>by cases h
 |x::xs,y::ys,h,h'=>by
  unfold jK at h h'
  by_cases e:x=y
  ·subst e;rw [if_pos rfl] at h h';rw [Wp xs ys h h']
  ·rw [if_neg e] at h;rw [if_neg (Ne.symm e)] at h';have:=of_decide_eq_false h;have:=of_decide_eq_false h';omega
theorem Rh {U:Keyed->Prop}(key:Value->List Int):Ordd U (λx y=>jK (key x.1) (key y.1)):=⟨λx y _ _ h=>JL _ _ h,λx y z _ _ _ h=>Wo _ _ _ h⟩
def IT (h:Heap)(v:Value)(ns:List Int):Prop:= ∃a its,v= .ref a/\IsTup h a its/\IntsAre its.toList ns
theorem IT.keeps {h h':Heap}{v:Value}{ns:List Int}(x:IT h v ns)(k:Wn h h'):IT h' v ns:=let ⟨a,its,e,t,i⟩:=x;⟨a,its,e,t.keeps k,i⟩
theorem Qo: ∀ {vs:List Value} {ns ms:List Int},IntsAre vs ns->IntsAre vs ms->ns=ms
 |_,_,_,.nil,.nil=>rfl
 |_,_,_,.cons n t a,.cons _ _ b=>by rw [Qo a b]
theorem IT.one {h:Heap}{v:Value}{ns ms:List Int}(x:IT h v ns)(y:IT h v ms):ns=ms:=by
 obtain⟨a,its,rfl,⟨o,e,c,n,d⟩,i⟩:=x;obtain⟨a',its',e2,⟨o',e',c',n',d'⟩,i'⟩:=y;cases e2;rw [e] at e';cases e';rw [d] at d';cases d';exact Qo i i'
open Classical in
noncomputable def zb (h:Heap)(v:Value):List Int:=if e: ∃ns,IT h v ns then e.choose else []
theorem IT.nums {h:Heap}{v:Value}{ns:List Int}(x:IT h v ns):zb h v=ns:=by
 have e: ∃ns,IT h v ns:=⟨ns,x⟩;unfold zb;rw [dif_pos e];exact e.choose_spec.one x
section
variable {prog:Program}{w:World}{A:Around}{E:Value->Shared->Prop}{s:Shared}
theorem Ji {α β:Type}{M:Model}{f:α->Sem β}(r:α->β): ∀ (l:List α) {Q:List β->Shared->Prop},(∀v∈l,∀Q':β->Shared->Prop,Q' (r v) s->wpAny M A (f v) Q' E s)->Q (l.map r) s->wpAny M A (l.mapM f) Q E s
 | [],_,_,q=>by
  rw [List.mapM_nil];exact P4 q
 |v::l,Q,hf,q=>by
  rw [List.mapM_cons];refine wpAny_bind (hf v D7 _ (wpAny_bind ?_));exact Ji r l (λu hu=>hf u (R1 _ hu)) (P4 q)
def zm (h:Heap):Value->Option Value
 | .ref a=>match h.get? a with
  |some o=>match o.data with
   | .seq xs _=>xs[0]?
   |_=>none
  |none=>none
 |_=>none
variable {v:Value}{ns:List Int}
theorem Nr {Q:Option Value->Shared->Prop}(x:IT s.heap v ns)(q:Q (zm s.heap v) s):wpAny (model prog w) A (firstOfTuple' v) Q E s:=by
 obtain⟨a,its,rfl,⟨o,e,c,n,d⟩,i⟩:=x;have fe:zm s.heap (.ref a)=its[0]? :=by
  unfold zm;dsimp only;rw [e];dsimp only;rw [d]
 rw [PySem.W.kas_first_eq];refine wpAny_bind (PySem.W.Looks.here (show PySem.W.Looks (model prog w) s.heap (typeOf (.ref a)) o.cls from (PySem.W.Looks.ld e).andThen .now) ?_);rw [c,if_neg (by decide)];refine wpAny_bind (listItems_at e d (P4 ?_));rw [<-fe];exact q
variable {h:Heap}
theorem Gt (x:IT h v []):zm h v=none:=by
 obtain⟨a,its,rfl,⟨o,e,c,n,d⟩,i⟩:=x;unfold zm;dsimp only;rw [e];dsimp only;rw [d];dsimp only;obtain⟨l⟩:=its;cases i;rfl
theorem Yt {n:Int}(x:IT h v (n::ns)): ∃t,zm h v=some (.int n t):=by
 obtain⟨a,its,rfl,⟨o,e,c,k,d⟩,i⟩:=x;obtain⟨l⟩:=its;cases i with
 |cons _ t i=>exact⟨t,by unfold zm;dsimp only;rw [e];dsimp only;rw [d];rfl⟩
theorem Nt (x:IT h v ns):(zm h v).isSome= !ns.isEmpty:=by
 cases ns with
 |nil=>rw [Gt x];rfl
 |cons n ns=>obtain⟨t,e⟩:=Yt x;rw [e];rfl
noncomputable def Ri (h:Heap)(vs:List Value):SortKind:=
 if (vs.all λv=> !(zb h v).isEmpty)=true then tuples' true else if ((vs[0]?.map λv=> !(zb h v).isEmpty)=some true) then general' else oneType'
theorem Rj {vs:List Value}(h2:2<=vs.length)(x: ∀v∈vs,∃ns,IT h v ns){Q:SortKind->Shared->Prop}(e:Wn h s.heap)(q:Q (Ri h vs) s):wpAny (model prog w) A (keyKind' vs.toArray) Q E s:=by
 have fr: ∀v∈vs,(zm s.heap v).isSome= !(zb h v).isEmpty:=λv hv=>by
  obtain⟨ns,t⟩:=x v hv;rw [t.nums,Nt (t.keeps e)]
 rw [keyKind'_eq,G0D,map_eq_pure_bind];refine wpAny_bind (wpAny_bind (Ji (zm s.heap) vs (λv hv Q' q'=> ?_) (P4 ?_)))
 ·obtain⟨ns,t⟩:=x v hv;exact Nr (t.keeps e) q'
 have all_:((vs.map (zm s.heap)).toArray.all λo=>o.isSome)=vs.all λv=> !(zb h v).isEmpty:=by
  rw [G0L,A1];rw [M8,R0,R0];exact⟨λz v hv=>by rw [<-fr v hv];exact z v hv,λz v hv=>by show (zm s.heap v).isSome=true;rw [fr v hv];exact z v hv⟩
 rw [all_];unfold Ri at q
 by_cases a1:(vs.all λv=> !(zb h v).isEmpty)=true
 ·rw [if_pos a1] at q;rw [if_pos a1];refine wpAny_bind (G0u ?_);obtain⟨fs,efs,nums,ne⟩: ∃fs:List Value,vs.map (zm s.heap)=fs.map some/\(∀f∈fs,∃n t,f=Value.int n t)/\fs.length=vs.length:=by
   have go: ∀l:List Value,(∀v∈l,v∈vs)-> ∃fs:List Value,l.map (zm s.heap)=fs.map some/\(∀f∈fs,∃n t,f=Value.int n t)/\fs.length=l.length:=by
    intro l
    induction l with
    |nil=>exact λ_=>⟨[],rfl,λf hf=>absurd hf M0,rfl⟩
    |cons v l ih=>
     intro sub;obtain⟨fs,e1,e2,e3⟩:=ih λu hu=>sub u (R1 _ hu)
     have hv:=sub v D7;obtain⟨ns,t⟩:=x v hv;have ne:=R0.mp a1 v hv;rw [t.nums] at ne;cases ns with
     |nil=>cases ne
     |cons n ns=>
      obtain⟨tk,ef⟩:=Yt (t.keeps e);refine⟨.int n tk::fs,by rw [S1,S1,ef,e1],λf hf=> ?_,by rw [D3,D3,e3]⟩;rcases D0.mp hf with rfl|hf
      ·exact⟨n,tk,rfl⟩
      ·exact e2 f hf
   exact go vs λ_ hv=>hv
  rw [efs];have fm:((fs.map some).toArray.filterMap id)=fs.toArray:=by simp
  rw [fm,oneTypeOnly'_eq,G0D,map_eq_pure_bind];refine wpAny_bind (wpAny_bind (wpAny_bind (Ji (λ_=>Value.type "int") fs (λf hf Q' q'=> ?_) (P4 ?_))))
  ·obtain⟨n,t,rfl⟩:=nums f hf;exact P4 q'
  ·match fs,ne with
   | [],ne=>rw [R8] at ne;omega
   |f::fs,_=>
    have h0:(List.map (λ_=>Value.type "int") (f::fs)).toArray[0]? =some (Value.type "int"):=by simp
    have h1:((List.map (λ_=>Value.type "int") (f::fs)).toArray.all λy=>y==Value.type "int")=true:=by
     rw [G0L,A1,R0];exact λ_ _=>rfl
    rw [h0];simp only [h1,if_true];exact P4 (P4 q)
 rw [if_neg a1] at q;rw [if_neg a1]
 match vs,h2,x,fr,q with
 |v::vs,h2,x,fr,q=>
  have h0:((List.map (zm s.heap) (v::vs)).toArray[0]?.bind id).isSome= !(zb h v).isEmpty:=by
   rw [<-fr v D7];simp
  rw [h0];have h0':(((v::vs)[0]?.map λv=> !(zb h v).isEmpty)=some true)↔(!(zb h v).isEmpty)=true:=by simp
  by_cases a2:(!(zb h v).isEmpty)=true
  ·rw [if_pos (h0'.mpr a2)] at q;rw [if_pos a2];exact P4 q
  rw [if_neg λz=>a2 (h0'.mp z)] at q;rw [if_neg a2];rw [oneTypeOnly'_eq,G0D,map_eq_pure_bind];refine wpAny_bind (wpAny_bind (wpAny_bind (Ji (λ_=>Value.type "tuple") (v::vs) (λf hf Q' q'=> ?_) (P4 ?_))))
  ·obtain⟨ns,t⟩:=x f hf;obtain⟨a,its,rfl,⟨o,e1,c,n,d⟩,i⟩:=t.keeps e;refine PySem.W.Looks.here (show PySem.W.Looks (model prog w) s.heap (typeOf (.ref a)) o.cls from (PySem.W.Looks.ld e1).andThen .now) ?_;rw [c];exact q'
  ·have h3:(List.map (λ_=>Value.type "tuple") (v::vs)).toArray[0]? =some (Value.type "tuple"):=by simp
   have h1:((List.map (λ_=>Value.type "tuple") (v::vs)).toArray.all λy=>y==Value.type "tuple")=true:=by
    rw [G0L,A1,R0];exact λ_ _=>rfl
   rw [h3];simp only [h1,if_true];exact P4 (P4 q)
theorem Qp {fin:Bool}{Q:Bool->Shared->Prop}{m n:Nat}(ef:fin=decide (m<n)): ∀ {vs us:List Value} {ns ms:List Int} (i:Nat),IntsAre vs ns->IntsAre us ms->ns.length+n=ms.length+m->Q (jK ns ms) s->PySem.W.KatLex prog w A true fin Q (vs.zip us) i s
 |_,_,_,_,i,.nil,.nil,l,q=>by
  subst ef;rw [G0w];refine G0W ?_;rw [D1 (by rw [R8] at l;omega)];exact q
 |_,_,_,_,i,.nil,.cons c u y,l,q=>by
  subst ef;rw [G0w];refine G0W ?_;rw [G9 (by rw [R8,D3] at l;omega)];exact q
 |_,_,_,_,i,.cons a t x,.nil,l,q=>by
  subst ef;rw [List.zip_nil_right];refine G0W ?_;rw [D1 (by rw [R8,D3] at l;omega)];exact q
 |_,_,_,_,i,.cons a t x,.cons c u y,l,q=>by
  rw [W3];rw [Yc] at q;obtain⟨e,he,hiff⟩:=XQ A s a t c u;refine PySem.W.kat_cons (he prog w _ _ ?_);refine PySem.W.kat_go (λz=>PySem.W.kat_yes ?_) λz=>PySem.W.kat_no ?_
  ·rw [if_pos (hiff.mp z)] at q;exact Qp ef (i+1) x y (by rw [D3,D3] at l;omega) q
  ·rw [if_neg λz'=>by rw [hiff.mpr z'] at z;cases z] at q;cases (true&&i==0) with
   |true=>exact oneLt_int q
   |false=>exact PySem.W.kat_one _ _ (G09 q)
theorem AO {u:Value}{ms:List Int}{Q:Bool->Shared->Prop}(hu:A.units<cLine)(x:IT s.heap v ns)(y:IT s.heap u ms)(q:Q (jK ns ms) s):wpAny (model prog w) A (oneLt' true v u) Q E s:=by
 obtain⟨a,its,rfl,⟨⟨cls,dd,data,sl⟩,e1,c,n,d⟩,i⟩:=x;obtain⟨b,its2,rfl,⟨⟨cls2,dd2,data2,sl2⟩,e2,c2,n2,d2⟩,i2⟩:=y;simp only at c d c2 d2;subst c d c2 d2;rw [oneLt'_eq];simp only [if_true];refine wpAny_bind (wpAny_cRoomFor hu (wpAny_bind (wpAny_callSpecialIfBound?_slot ⟨_,e1,rfl⟩ Y4 (G0x Y4 ⟨_,e1,rfl⟩ G0O (G0F _ _) (vR a b its its2 n n2 dd dd2 sl sl2 ns ms i i2) ⟨e1,e2,?_⟩))));exact N4 q
theorem AQ {u:Value}{ms:List Int}{Q:Bool->Shared->Prop}(hu:A.units<cLine)(x:IT s.heap v ns)(y:IT s.heap u ms)(q:Q (jK ns ms) s):wpAny (model prog w) A (oneLt' false v u) Q E s:=by
 obtain⟨a,its,rfl,t,i⟩:=x;obtain⟨b,its2,rfl,t2,i2⟩:=y;exact PySem.W.kat_one _ _ (QQ t t2 i i2 hu q)
theorem Rk {vs:List Value}(hu:A.units<cLine){h':Heap}(k:Wn s.heap h'):Vb prog w A (Only s h') (Ri s.heap vs) (λx=> ∃ns,IT s.heap x.1 ns) (λx y=>jK (zb s.heap x.1) (zb s.heap y.1)):=by
 rintro ⟨x,x'⟩ ⟨y,y'⟩ ⟨ns,tx⟩ ⟨ms,ty⟩ s1 ⟨tk,rfl⟩;dsimp only at tx ty ⊢;have q:(jK ns ms=jK (zb s.heap x) (zb s.heap y)/\Only s h' {s with heap:=h',toks:=tk}):=⟨by rw [tx.nums,ty.nums],tk,rfl⟩;have kx:=tx.keeps k;have ky:=ty.keeps k;unfold Ri
 by_cases a1:(vs.all λv=> !(zb s.heap v).isEmpty)=true
 ·rw [if_pos a1];obtain⟨a,its,rfl,⟨o,e1,c,n,d⟩,i⟩:=kx;obtain⟨b,its2,rfl,⟨o2,e2,c2,n2,d2⟩,i2⟩:=ky;refine PySem.W.kat_lt e1 d e2 d2 (Qp rfl 0 i i2 ?_ q);have z1:=i.length;have z2:=i2.length;rw [T3] at z1 z2;omega
 rw [if_neg a1]
 by_cases a2:(vs[0]?.map λv=> !(zb s.heap v).isEmpty)=some true
 ·rw [if_pos a2];show wpAny _ _ (oneLt' false x y) _ _ _;exact AQ hu kx ky q
 ·rw [if_neg a2,keyLt'_oneType];exact AO hu kx ky q
theorem Xj {l:Addr}{vs:List Value}{Q:Value->Shared->Prop}(hu:A.in1.in1.units<cLine)(hl:s.heap.IsList l vs.toArray)(hz:vs.length<sizeLine)(x: ∀v∈vs,∃ns,IT s.heap v ns)
 (q: ∀ (h1 h':Heap) (tk c:Nat) (out:List Value),Wn s.heap h1->Wn h1 h'->h'.get? h1.objs.size=some (seqObj "list" out.toArray c)->out.Perm vs->out.Pairwise (λx y=>jK (zb s.heap y) (zb s.heap x)=false)->Q (.ref h1.objs.size) {s with heap:=h',toks:=tk}):
 wpAny (model prog w) A (call (.builtin "sorted") [.ref l]) Q E s:=by
 refine Gs (κ:=Ri s.heap vs) (U:=λx=> ∃ns,IT s.heap x.1 ns) (R:=λx y=>jK (zb s.heap x.1) (zb s.heap y.1)) hl hz (λh2 h' k=> ?_) (λh' k=>Rk hu k) (Rh _) x λh1 h' tk c out k1 k2 e1 e2 e3=>q h1 h' tk c out k1 k2 e1 e2 ?_
 ·exact Rj (s:= {s with heap:=h'}) h2 x k ⟨rfl,s.toks,rfl⟩
 ·rw [C6] at e3;exact e3
end
end HT
namespace L2
open PySem PySem.Spec PyProof.Rows PySem.SeqAt HT
theorem Wq {α β:Type}{f:α->β}: ∀ {out:List β} {l:List α},out.Perm (l.map f)-> ∃l':List α,l'.Perm l/\l'.map f=out
 | [],l,p=>by
  have e:=p.length_eq;rw [G0,R8] at e;exact⟨[],by rw [K4 e.symm],rfl⟩
 |x::out,l,p=>by
  obtain⟨y,hy,rfl⟩:=D8.mp (p.mem_iff.mp D7);obtain⟨l1,l2,rfl⟩:=List.append_of_mem hy;have p2:out.Perm ((l1++l2).map f):=by
   refine List.Perm.cons_inv (a:=f y) (p.trans ?_);rw [T7,T7,S1];exact List.perm_middle
  obtain⟨l',a,b⟩:=Wq p2;exact⟨y::l',(a.cons y).trans List.perm_middle.symm,by rw [S1,b]⟩
def Te (H:Hp)(v:V)(ns:List Int):Prop:= ∃a,v= .ref a/\H a=some (.tup (ns.map V.int))
theorem Ue {X:Cx}{k:Nat}(hr:Room k X.A):CallR X (.builtin "sorted") (λxs H Q=> ∃ (a:Addr) (ps:List (V×List Int)),xs= [.ref a]/\SqL X.K H a (ps.map (·.1))/\ps.length<sizeLine/\(∀p∈ps,Te H p.1 p.2)/\ ∀ (q:Addr) (ps':List (V×List Int)),H q=none->ps'.Perm ps->(ps'.map (·.2)).Pairwise (λx y=>HT.jK y x=false)->Q (.ref q) (upd H q (.lst (ps'.map (·.1))))):=by
 intro pins s σ H xs us Q I r h;obtain⟨a,ps,rfl,hS,hz,ht,q⟩:=h;obtain⟨u,rfl,ru⟩:=Jz r;cases ru;obtain⟨its,rv,pl,hz'⟩:=I.list hS;obtain⟨zs,e1,e2,e3⟩: ∃zs:List (Value×V×List Int),its=zs.map (·.1)/\ps=zs.map (·.2)/\ ∀z∈zs,RelV z.2.1 z.1:=by
  clear hS q hz ht hz' pl
  induction ps generalizing its with
  |nil=>cases rv;exact⟨[],rfl,rfl,λz hz=>by cases hz⟩
  |cons p ps ih=>
   rw [S1] at rv;cases rv with
   |cons r1 r2=>
    obtain⟨zs,e1,e2,e3⟩:=ih _ r2;exact⟨(_,p)::zs,by rw [S1,<-e1],by rw [S1,<-e2],λz hz=>by
     rcases D0.mp hz with rfl|hz
     ·exact r1
     ·exact e3 z hz⟩
 subst e1 e2;have it: ∀z∈zs,IT s.heap z.1 z.2.2:=λz hm=>by
  obtain⟨b,eb,hb⟩:=ht z.2 (V0 hm);have rz:=e3 z hm;rw [eb] at rz;have rz:z.1= .ref b:=rz;obtain⟨_,us,r2,p⟩:=I.hok b _ hb;exact⟨b,us.toArray,rz,p.tup,ZZ r2⟩
 have hu:X.A.in1.in1.units<cLine:=by
  have:=hr.un;show X.A.units+1+1<cLine;omega
 rw [G0] at hz;refine HT.Xj hu pl.isList (by rw [G0];exact hz) (λv hv=> ?_) λh1 h' tk c out k1 k2 e4 pm srt=> ?_
 ·obtain⟨z,hm,rfl⟩:=D8.mp hv;exact⟨_,it z hm⟩
 obtain⟨zs',pz,rfl⟩:=Wq pm;have I1:=I.kept (t':=s.toks) k1;have vv: ∀l:List (Value×V×List Int),(∀z∈l,z∈zs)->Vals ((l.map (·.2)).map (·.1)) (l.map (·.1)):=λl=>by
  induction l with
  |nil=>exact λ_=> .nil
  |cons z l ih=>exact λsub=> .cons (e3 z (sub z D7)) (ih λy hy=>sub y (R1 _ hy))
 refine⟨.ref _,_,I1.laid (t':=tk) (o:= .lst ((zs'.map (·.2)).map (·.1))) k2 (G8 _) ⟨?_,_,c,vv zs' λz hm=>pz.mem_iff.mp hm,e4⟩,rfl,q _ (zs'.map (·.2)) (I1.hok.fresh (G8 _)) (pz.map _) ?_⟩
 ·rw [G0,G0,pz.length_eq];exact D5 hz
 ·rw [C6,C6];rw [C6] at srt;refine srt.imp_of_mem λ{y z} hy hz e=> ?_
  rw [<- (it y (pz.mem_iff.mp hy)).nums,<- (it z (pz.mem_iff.mp hz)).nums];exact e
abbrev tI (ns:List Int):D:= .tup (ns.map D.int)
def Fx:RDn:=λds h Q=> ∃ (a:Addr) (nss:List (List Int)),ds= [.lst a]/\h a=some (nss.map tI)/\nss.length<sizeLine/\ ∀ (p:Addr) (mss:List (List Int)),h p=none->mss.Perm nss->mss.Pairwise (λx y=>HT.jK y x=false)->Q (.lst p) (we h p (mss.map tI))
theorem Rl {K:PySem.W.Frag}{H:Hp}: ∀ {nss:List (List Int)} {vs:List V},RelDs K H (nss.map tI) vs-> ∃ps:List (V×List Int),vs=ps.map (·.1)/\nss=ps.map (·.2)/\ ∀p∈ps,Te H p.1 p.2
 | [],vs,r=>⟨[],r,rfl,λp hp=>by cases hp⟩
 |ns::nss,vs,r=>by
  obtain⟨v,us,e,r1,r2⟩:=(show ∃v r,vs=v::r/\RelD K H (tI ns) v/\RelDs K H (nss.map tI) r from r);obtain⟨ps,e1,e2,e3⟩:=Rl r2;obtain⟨a,ws,e4,hH,r4⟩:=(show ∃a vs,v= .ref a/\H a=some (.tup vs)/\RelDs K H (ns.map D.int) vs from r1);rw [zt r4] at hH;exact⟨(v,ns)::ps,by rw [e,e1];rfl,by rw [e2];rfl,λp hp=>by
   rcases D0.mp hp with rfl|hp
   ·exact⟨a,e4,hH⟩
   ·exact e3 p hp⟩
theorem Rm {K:PySem.W.Frag}{H:Hp}: ∀ {ps:List (V×List Int)},(∀p∈ps,Te H p.1 p.2)->RelDs K H ((ps.map (·.2)).map tI) (ps.map (·.1))
 | [],_=> .nil
 |p::ps,h=> .cons (by
  obtain⟨a,e,hH⟩:=h p D7;exact⟨a,_,e,hH,yY _⟩) (Rm λq hq=>h q (R1 _ hq))
theorem JM {X:Cx}{k:Nat}(hr:Room k X.A):yw X (.builtin "sorted") Fx:=(Ue hr).imp λxs H Q ⟨ds,h,Qd,r,rh,⟨a,nss,e,hd,hz,q⟩,p⟩=>by
 subst e;obtain⟨v,e,r1⟩:=jA r;obtain⟨vs,hH,r2⟩:=rh a _ hd;have e1:v= .ref a:=r1.1;subst e e1;obtain⟨ps,rfl,rfl,ht⟩:=Rl r2;refine⟨a,ps,rfl,SqL.of hH,by rw [G0] at hz;exact hz,ht,λc ps' hc pm srt=> ?_⟩;exact p (.lst c) _ _ _ (.new hc) (rh.newL hc (Rm λx hx=>ht x (pm.mem_iff.mp hx))) ⟨rfl,_,jl⟩ (q c _ (rh.free hc) (pm.map _) srt)
def jT:Nat->List (List Nat)
 |0=> [[]]
 |k+1=>jT k++(jT k).map λS=>S++ [k]
theorem wS: ∀n,(jT n).length=2^n
 |0=>rfl
 |k+1=>by
  show (jT k++(jT k).map λS=>S++ [k]).length=_;rw [G6,G0,wS k,Nat.pow_succ];omega
theorem vb: ∀ {n:Nat} {S:List Nat},S∈jT n->IsS n S
 |0,S,h=>by
  rw [show jT 0= [[]] from rfl,G2] at h;subst h;exact IsS.nil 0
 |k+1,S,h=>by
  rcases P9.mp (show S∈jT k++(jT k).map λS=>S++ [k] from h) with h|h
  ·exact(vb h).more false
  ·obtain⟨S',h',rfl⟩:=D8.mp h;exact(vb h').more true
theorem Wr: ∀ {n:Nat} (p:Nat->Bool),(List.range n).filter p∈jT n
 |0,p=>G2.mpr rfl
 |k+1,p=>by
  show _∈jT k++(jT k).map λS=>S++ [k]
  rw [A6,B6,P9];cases e:p k with
  |false=>
   left;rw [show [k].filter p= [] by simp [e],B1];exact Wr p
  |true=>
   right;rw [show [k].filter p= [k] by simp [e]];exact D8.mpr ⟨_,Wr p,rfl⟩
theorem Rn {n:Nat}{S:List Nat}:S∈jT n↔IsS n S:=⟨vb,λ⟨p,e⟩=>by rw [e];exact Wr p⟩
theorem vE: ∀n,(jT n).Nodup
 |0=>T6 _ _
 |k+1=>by
  show (jT k++(jT k).map λS=>S++ [k]).Nodup;refine U3.mpr ⟨vE k,?_,λx hx y hy e=> ?_⟩
  ·have nd:=vE k;unfold List.Nodup at nd ⊢;rw [C6];exact nd.imp λne e=>ne (List.append_cancel_right e)
  ·obtain⟨S,hS,rfl⟩:=D8.mp hy;subst e;exact M5 k ((vb hx).lt (P6 _ (G2.mpr rfl)))
abbrev toI (S:List Nat):List Int:=S.map λ(k:Nat)=>(k:Int)
theorem Fy {S S':List Nat}(h:toI S=toI S'):S=S':=by
 have:=congrArg (List.map Int.toNat) h;rw [S4,S4] at this;have e:(Int.toNat∘λ(k:Nat)=>(k:Int))=id:=by funext k;exact Int.toNat_natCast k
 rw [e,G1c,G1c] at this;exact this
theorem Qq (S:List Nat):tI (toI S)=jC S:=by
 show D.tup _=D.tup _;rw [S4];rfl
def leS (a b:List Nat):Bool:= !HT.jK (toI b) (toI a)
theorem Ro (a b c:List Nat)(h:leS a b=true)(h':leS b c=true):leS a c=true:=by
 unfold leS at*
 cases e:HT.jK (toI c) (toI a) with
 |false=>rfl
 |true=>
  rcases Wo _ (toI b) _ e with z|z
  ·rw [z] at h';cases h'
  ·rw [z] at h;cases h
theorem Rp (a b:List Nat):(leS a b||leS b a)=true:=by
 unfold leS;cases e:HT.jK (toI b) (toI a) with
 |false=>rfl
 |true=>rw [JL _ _ e];rfl
theorem Nu {a b:List Nat}(h:leS a b=true)(h':leS b a=true):a=b:=by
 unfold leS at*
 refine Fy (Wp _ _ ?_ ?_)
 ·cases e:HT.jK (toI a) (toI b) with
  |false=>rfl
  |true=>rw [e] at h';cases h'
 ·cases e:HT.jK (toI b) (toI a) with
  |false=>rfl
  |true=>rw [e] at h;cases h
def Xk (l:List (List Nat)):List (List Nat):=l.mergeSort leS
theorem zG (l:List (List Nat)):(Xk l).Perm l:=List.mergeSort_perm _ _
theorem Yu (l:List (List Nat)):(Xk l).Pairwise λa b=>leS a b=true:=List.pairwise_mergeSort Ro Rp l
theorem Rq {l P:List (List Nat)}(p:P.Perm l)(r:P.Pairwise λa b=>leS a b=true):P=Xk l:=
 List.Perm.eq_of_pairwise (λa b _ _ x y=>Nu x y) r (Yu l) (p.trans (zG l).symm)
theorem Ws {l:List (List Nat)}{mss:List (List Int)}(p:mss.Perm (l.map toI))(r:mss.Pairwise λx y=>HT.jK y x=false):mss.map tI=(Xk l).map jC:=by
 obtain⟨P,pP,rfl⟩:=Wq p;rw [C6] at r;rw [<-Rq pP (r.imp λe=>by unfold leS;rw [e];rfl),List.map_map];exact S3 λS _=>Qq S
def vf (n:Nat):List (List Nat):=Xk (jT n)
theorem setsS_mem {n:Nat}{S:List Nat}:S∈vf n↔IsS n S:=(zG _).mem_iff.trans Rn
theorem Rr (n:Nat):(vf n).length=2^n:=(zG _).length_eq.trans (wS n)
theorem Nv {n:Nat}(h:n<=6):(vf n).length<=64:=by
 rw [Rr];exact F4 (by decide) h
theorem Xl (n:Nat):(vf n).Nodup:=(zG _).nodup_iff.mpr (vE n)
theorem Gu (n:Nat): ∃r,vf n= []::r/\ ∀S∈r,S≠ []:=by
 have hm:([]:List Nat)∈vf n:=setsS_mem.mpr (IsS.nil n);have ri:=Yu (jT n);have nd:=Xl n
 match e:vf n,hm with
 |x::r,hm=>
  rw [e] at nd;rw [show Xk (jT n)=x::r from e] at ri;have nd:=O2.mp nd;have x0:x= []:=by
   rcases D0.mp hm with z|z
   ·exact z.symm
   ·have:=(Q0.mp ri).1 [] z;cases x with
    |nil=>rfl
    |cons a x=>cases this
  subst x0;exact⟨r,rfl,λS hS z=>nd.1 (z ▸ hS)⟩
end L2
namespace L2
open PySem PySem.Spec PyProof.Rows PySem.SeqAt
theorem Qr: ∀l:List Int,PyData.canLayAll0 (l.map PyData.int)=true
 | []=>rfl
 |x::l=>by show (PyData.canLay0 (.int x)&&_)=true;rw [Qr l];rfl
variable {S:List Nat}{h:HD}
theorem Rs {neg:Bool}{x:Nat}{Q:KD}(q: ∀b:Bool,(b=true↔x∈S)->Q (.bl (neg !=b)) h):inE neg (.int (x:Int)) (jC S) h Q:=by
 refine⟨.int x,(Xc S).map PyData.int,rfl,.inr (YZ h S),rfl,Qr _,(by show (0:Nat)<=60;decide),q _ ?_⟩;rw [E4];constructor
 ·rintro ⟨z,hz,e⟩;obtain⟨m,hm,rfl⟩:=D8.mp hz;obtain⟨y,hy,rfl⟩:=D8.mp (show m∈S.map λ(k:Nat)=>(k:Int) from hm);have:(y:Int)=x:=by simpa [PyData.eqv] using e
  have:y=x:=by omega
  exact this ▸ hy
 ·intro z;exact⟨.int x,D8.mpr ⟨_,D8.mpr ⟨x,z,rfl⟩,rfl⟩,by simp [PyData.eqv]⟩
theorem Rt {x:Nat}{Q:KD}(q:Q (.bl (decide (x∈S))) h):inE false (.int (x:Int)) (jC S) h Q:=Rs λbo hb=>by
 have:(false !=bo)=decide (x∈S):=by
  cases bo with
  |true=>rw [G9 (hb.mp rfl)];rfl
  |false=>rw [D1 λz=>by have:=hb.mpr z;cases this];rfl
 rw [this];exact q
def vg (n:Nat)(T:List (List Int))(S:List Nat):Bool:=(wJ n T S).all λj=>decide (j∈S)
variable {n:Nat}{T:List (List Int)}
theorem Uf:(wJ n T S).length<=n:=(IsS.step T S).len
theorem ZF {h':HD}{a:Addr}(sb:Sub h h')(e:h' a=none):h a=none:=by
 cases z:h a with
 |none=>rfl
 |some ds=>rw [sb a ds z] at e;cases e
theorem Sub.over {h':HD}{a:Addr}{ds:List D}(sb:Sub h h')(e:h a=none):Sub h (we h' a ds):=⟨λb xs k=>jy (λz=>by subst z;rw [e] at k;cases k) (sb b xs k),sb.dc⟩
theorem Fz {x:Nat}{Q:KD}(q:Q (.bl (!decide (x∈S))) h):inE true (.int (x:Int)) (jC S) h Q:=Rs λbo hb=>by
 have:(true !=bo)= !decide (x∈S):=by
  cases bo with
  |true=>rw [G9 (hb.mp rfl)];rfl
  |false=>rw [D1 λz=>by have:=hb.mpr z;cases this];rfl
 rw [this];exact q
structure GB (n:Nat)(h0 h:HD)(R:Addr)(rs:List Addr)(f:Nat->Nat->Bool):Prop where
 at_:h R=some (rs.map D.lst)
 len:rs.length=n
 nR:R ∉ rs
 nd:rs.Nodup
 sb:Sub h0 h
 row: ∀i a,rs[i]? =some a->h0 a=none/\h a=some ((List.range n).map λj=>D.bl (f i j))
section
variable {n:Nat}{h0 h:HD}{R:Addr}{rs:List Addr}{f g:Nat->Nat->Bool}
theorem GB.put (G:GB n h0 h R rs f){i j:Nat}{a:Addr}{v:Bool}(ha:rs[i]? =some a):GB n h0 (we h a (((List.range n).map λj=>D.bl (f i j)).set j (.bl v))) R rs (λx y=>if x=i/\y=j then v else f x y):=by
 have hm:=G7 ha;have il:=(G5.mp ha).1;refine⟨jy (λz=>G.nR (z ▸ hm)) G.at_,G.len,G.nR,G.nd,G.sb.over (G.row i a ha).1,λx b hb=>⟨(G.row x b hb).1,?_⟩⟩
 by_cases z:x=i
 ·subst z;have eb:b=a:=by rw [ha] at hb;injection hb with hb;exact hb.symm
  subst eb;rw [jd];refine congrArg some (List.ext_getElem (by simp) λm h1 h2=> ?_);rw [List.getElem_set];simp only [List.getElem_map,List.getElem_range]
  by_cases e:j=m
  ·subst e;simp
  ·rw [if_neg e,if_neg λw=>e w.2.symm]
 ·have ne:b≠a:=λw=>z ((List.getElem?_inj (G5.mp hb).1 G.nd).mp (hb.trans (by rw [w];exact ha.symm)))
  rw [jy ne (G.row x b hb).2];exact congrArg some (S3 λy _=>by rw [if_neg λw=>z w.1])
theorem GB.pick (G:GB n h0 h R rs f){i:Nat}(hi:i<n): ∃a,rs[i]? =some a/\atI (rs.map D.lst) (i:Int)=some (.lst a)/\h a=some ((List.range n).map λj=>D.bl (f i j)):=by
 have hi':i<rs.length:=by rw [G.len];exact hi
 exact⟨rs[i],G1 hi',wW (by rw [D2,G1 hi'];rfl),(G.row i _ (G1 hi')).2⟩
theorem GB.as (G:GB n h0 h R rs f)(e: ∀i j,i<n->j<n->f i j=g i j):GB n h0 h R rs g:=
 ⟨G.at_,G.len,G.nR,G.nd,G.sb,λi a ha=>⟨(G.row i a ha).1,by
  have hi:i<n:=by rw [<-G.len];exact(G5.mp ha).1
  rw [(G.row i a ha).2];exact congrArg some (S3 λj hj=>by rw [e i j hi (P2.mp hj)])⟩⟩
theorem GB.up (G:GB n h0 h R rs f){h':HD}(s:Sub h h'):GB n h0 h' R rs f:=⟨s _ _ G.at_,G.len,G.nR,G.nd,G.sb.trans s,λi a ha=>⟨(G.row i a ha).1,s _ _ (G.row i a ha).2⟩⟩
end
variable {j:Nat}
theorem Qs {f:Nat->Bool}(hj:j<n):atI ((List.range n).map λj=>D.bl (f j)) (j:Int)=some (.bl (f j)):=Fd hj
def wk (T:List (List Int)):Nat->Nat->Nat->Bool
 |0,i,j=>decide (i=j)|| !decide (ent T i j=0)
 |b+1,i,j=>wk T b i j||(wk T b i b&&wk T b b j)
theorem JN (T:List (List Int)): ∀b i,wk T b i i=true
 |0,i=>by unfold wk;rw [decide_eq_true rfl];rfl
 |b+1,i=>by unfold wk;rw [JN T b i];rfl
theorem Bo (T:List (List Int))(b i:Nat):wk T (b+1) i b=wk T b i b:=by
 show (wk T b i b||(wk T b i b&&wk T b b b))=_;cases wk T b i b<;>rfl
theorem Bp (T:List (List Int))(b j:Nat):wk T (b+1) b j=wk T b b j:=by
 show (wk T b b j||(wk T b b b&&wk T b b j))=_;cases wk T b b j<;>cases wk T b b b<;>rfl
variable {i:Nat}
theorem Vc (h:ent T i j≠0): ∀b,wk T b i j=true
 |0=>by unfold wk;rw [decide_eq_false h];simp
 |b+1=>by unfold wk;rw [Vc h b];rfl
theorem wk_by {b:Nat}:wk T (b+1) i j=true↔wk T b i j=true\/(wk T b i b=true/\wk T b b j=true):=by
 show (wk T b i j||(wk T b i b&&wk T b b j))=true↔_;rw [Q6,S5]
theorem zX: ∀ {b i k j:Nat},k<b->wk T b i k=true->wk T b k j=true->wk T b i j=true
 |b+1,i,k,j,hk,x,y=>by
  by_cases e:k=b
  ·subst e;rw [Bo] at x;rw [Bp] at y;exact wk_by.mpr (.inr ⟨x,y⟩)
  ·have lt:k<b:=by omega
   rcases wk_by.mp x with x|⟨x1,x2⟩
   ·rcases wk_by.mp y with y|⟨y1,y2⟩
    ·exact wk_by.mpr (.inl (zX lt x y))
    ·exact wk_by.mpr (.inr ⟨zX lt x y1,y2⟩)
   ·rcases wk_by.mp y with y|⟨y1,y2⟩
    ·exact wk_by.mpr (.inr ⟨x1,zX lt x2 y⟩)
    ·exact wk_by.mpr (.inr ⟨x1,y2⟩)
theorem Jj {P:Nat->Nat->Prop}(r: ∀i,P i i)(a: ∀i j,ent T i j≠0->P i j)(t: ∀i k j,P i k->P k j->P i j): ∀ {b i j:Nat},wk T b i j=true->P i j
 |0,i,j,h=>by
  have h:(decide (i=j)|| !decide (ent T i j=0))=true:=h;rw [Q6] at h;rcases h with h|h
  ·rw [S9 h];exact r j
  ·exact a i j λz=>by rw [G9 z] at h;cases h
 |b+1,i,j,h=>by
  rcases wk_by.mp h with h|⟨h1,h2⟩
  ·exact Jj r a t h
  ·exact t _ _ _ (Jj r a t h1) (Jj r a t h2)
def clS (n:Nat)(T:List (List Int))(S:List Nat):List Nat:=(List.range n).filter λj=>S.any λi=>wk T n i j
theorem Ru (n:Nat)(T:List (List Int))(S:List Nat):IsS n (clS n T S):=⟨_,rfl⟩
theorem mem_cl:j∈clS n T S↔j<n/\ ∃i∈S,wk T n i j=true:=by
 unfold clS;rw [S8,P2,E4]
theorem AR (hS:IsS n S){j:Nat}(hj:j∈S):j∈clS n T S:=mem_cl.mpr ⟨hS.lt hj,j,hj,JN T n j⟩
theorem mem_stepS:j∈wJ n T S↔j<n/\ ∃i∈S,ent T i j≠0:=by
 unfold wJ;rw [S8,P2,E4];exact⟨λ⟨a,i,hi,z⟩=>⟨a,i,hi,by simpa using z⟩,λ⟨a,i,hi,z⟩=>⟨a,i,hi,by simpa using z⟩⟩
theorem shut_iff:vg n T S=true↔ ∀i∈S,∀j,j<n->ent T i j≠0->j∈S:=by
 unfold vg;rw [R0];constructor
 ·intro h i hi j hj e;exact S9 (h j (mem_stepS.mpr ⟨hj,i,hi,e⟩))
 ·intro h j hj;obtain⟨a,i,hi,e⟩:=mem_stepS.mp hj;exact G9 (h i hi j a e)
theorem FA (n:Nat)(T:List (List Int))(S:List Nat):vg n T (clS n T S)=true:=by
 rw [shut_iff];intro i hi j hj e;obtain⟨a,s,hs,w⟩:=mem_cl.mp hi;exact mem_cl.mpr ⟨hj,s,hs,zX a w (Vc e n)⟩
theorem Tf {U:List Nat}(hU:vg n T U=true)(out: ∀i j,ent T i j≠0->j<n)(sub: ∀i∈S,i∈U){j:Nat}(hj:j∈clS n T S):j∈U:=by
 obtain⟨_,s,hs,w⟩:=mem_cl.mp hj;exact Jj (P:=λi j=>i∈U->j∈U) (λ_ x=>x) (λi j e x=>shut_iff.mp hU i x j (out i j e) e) (λi k j x y z=>y (x z)) w (sub s hs)
theorem Rv {e:Nat}(h:Sq n e T)(i j:Nat)(z:ent T i j≠0):j<n:=by
 by_cases hj:j<n
 ·exact hj
 ·exfalso;apply z;unfold ent
  by_cases hi:i<T.length
  ·have hr:=h.row (T.getD i []) (by rw [P1,G1 hi];exact T1 hi);rw [P1,C4 (by rw [hr];omega)];rfl
  ·rw [P1 (l:=T),C4 (by omega)];rfl
theorem Tg {e:Nat}(h:Sq n e T){S:List Nat}(hS:IsS n S)(sh:vg n T S=true):clS n T S=S:=
 IsS.ext (Ru n T S) hS λj=>⟨λhj=>Tf sh (Rv h) (λ_ x=>x) hj,λhj=>AR hS hj⟩
def fW (T:List (List Int))(b i j x y:Nat):Bool:=if x<i\/(x=i/\y<j) then wk T (b+1) x y else wk T b x y
theorem AS (T:List (List Int))(b i j x:Nat):fW T b i j x b=wk T b x b:=by
 unfold fW;rw [Bo]
 by_cases c:x<i\/(x=i/\b<j)
 ·rw [if_pos c]
 ·rw [if_neg c]
theorem AT (T:List (List Int))(b i j y:Nat):fW T b i j b y=wk T b b y:=by
 unfold fW;rw [Bp]
 by_cases c:b<i\/(b=i/\y<j)
 ·rw [if_pos c]
 ·rw [if_neg c]
theorem AU {b:Nat}(h1:wk T b i b=true)(h2:wk T b b j=true)(x y:Nat):(if x=i/\y=j then true else fW T b i j x y)=fW T b i (j+1) x y:=by
 by_cases e:x=i/\y=j
 ·obtain⟨rfl,rfl⟩:=e;unfold fW;rw [if_pos ⟨rfl,rfl⟩,if_pos (.inr ⟨rfl,F8 _⟩)];exact(wk_by.mpr (.inr ⟨h1,h2⟩)).symm
 ·rw [if_neg e];unfold fW
  by_cases c:x<i\/(x=i/\y<j)
  ·rw [if_pos c,if_pos (by omega)]
  ·rw [if_neg c,if_neg (by omega)]
theorem Rw {b:Nat}(h: ¬ (wk T b i b=true/\wk T b b j=true))(x y:Nat):fW T b i j x y=fW T b i (j+1) x y:=by
 unfold fW
 by_cases c:x<i\/(x=i/\y<j)
 ·rw [if_pos c,if_pos (by omega)]
 ·rw [if_neg c]
  by_cases e:x=i/\y=j
  ·obtain⟨rfl,rfl⟩:=e;rw [if_pos (by omega),M8,wk_by];exact⟨.inl,λz=>z.resolve_right h⟩
  ·rw [if_neg (by omega)]
theorem FB (T:List (List Int))(b i x y:Nat)(hy:y<n):fW T b i n x y=fW T b (i+1) 0 x y:=by
 unfold fW
 by_cases c:x<i\/(x=i/\y<n)
 ·rw [if_pos c,if_pos (by omega)]
 ·rw [if_neg c,if_neg (by omega)]
theorem AV (T:List (List Int))(b x y:Nat)(hx:x<n):fW T b n 0 x y=wk T (b+1) x y:=by
 unfold fW;rw [if_pos (.inl hx)]
theorem FC (T:List (List Int))(b x y:Nat):wk T b x y=fW T b 0 0 x y:=by
 unfold fW;rw [if_neg (by omega)]
section
variable {X:Cx}{iter iter' elt:Expr}{te:TED}{ti ti':TID}{tt tt':TTD}{pos spos:Pos}{scope:Scope}{js:List Nat}{ifs ifs':List Expr}
theorem FD {i i' k:Nat}{x z y:Str}{p pz py:Pos}(hc:X.calm=true)(hN:X.N.Nodup)(hk:X.N[k]? =some y)(hy:Loc X.env.scope y)(S:BlockOk X scope js)(hi:JI X (.Name x p) iter ti)(hj:i∈js)(hj':i'∈js)(hne:i≠i')(hx:X.N[i]? =some x)(hz:X.N[i']? =some z)
 (hl:scope.names.lookup x=some .local\/scope.names.lookup x=some .cell)(hl':scope.names.lookup z=some .local\/scope.names.lookup z=some .cell)
 (ht: ∀X',jt X scope X'->PTs X' ifs (LT X'.K tt))(hi': ∀X',jt X scope X'->JI X' (.Name z pz) iter' ti')(ht': ∀X',jt X scope X'->PTs X' ifs' (LT X'.K tt'))(he: ∀X',jt X scope X'->JE X' elt te)
 (hsw:swapsWith (.ListComp elt [⟨.Name x p,iter,ifs,0⟩,⟨.Name z pz,iter',ifs',0⟩] scope pos) (some (.Name y py)) spos.line X.env=pure true:=by rfl)
 (hf:X.fn y=true\/X.env.scope.names.lookup y=some .local:=by first|exact .inl rfl|exact .inr rfl|assumption)(hs: ∀x,foldedSetIterable iter X.env x=pure x:=by intro _;rfl)(hs': ∀env x,foldedSetIterable iter' env x=pure x:=by intro _ _;rfl):
 JS X (.Assign [.Name y py] (.ListComp elt [⟨.Name x p,iter,ifs,0⟩,⟨.Name z pz,iter',ifs',0⟩] scope pos) spos) (MC k (Sx (bN i) js ti tt i' ti' tt' te)):=by
 have base:PS X (.Assign [.Name y py] (.ListComp elt [⟨.Name x p,iter,ifs,0⟩,⟨.Name z pz,iter',ifs',0⟩] scope pos) spos) (NU (TJ js (LI X.K ti) (yu i) (LT X.K tt) (LI X.K ti') (yu i') (LT X.K tt') (LE X.K te)) (yu k)):=
  PB hc S hi.to rfl (λX' hX=>by obtain⟨C,s₀,H₀,ex,rfl⟩:=hX;exact yZ hN hx hl) (λX' hX=>by have:=ht X' hX;obtain⟨C,s₀,H₀,ex,rfl⟩:=hX;exact this)
   (λenv acc=>PC (.ListComp elt [⟨.Name x p,iter,ifs,0⟩,⟨.Name z pz,iter',ifs',0⟩] scope pos) iter' env acc) (λ_ _ _=>Cc ..)
   (λX' hX D=>by
    have a:=(hi' X' hX).to;have b:=ht' X' hX;have c:=(he X' hX).to;obtain⟨C,s₀,H₀,ex,rfl⟩:=hX;exact Cb (g:=yu i') hc rfl a (yZ hN hz hl') b c (hs' _))
   (vy hN hk hy hf) hsw hs
 exact⟨base.imp λD σ H h=>by
  obtain⟨σd,hd,Qd,rs,rh,t,p⟩:=PL (K:=X.K) D σ H h;exact OS (OR hj hj' hne) σ H _ ⟨σd,hd,Qd,rs,rh,t,p⟩⟩
end
def FE (g:Nat->Nat->Bool)(w:List Nat)(j:Nat):Bool:=g (w.getLastD 0) j&&(decide (w.headD 0<j)&& !decide (j∈w))
def Ez (g:Nat->Nat->Bool)(n:Nat)(w:List Nat):List (List Nat):=((List.range n).filter (FE g w)).map λj=>w++ [j]
def lev (g:Nat->Nat->Bool)(n:Nat):Nat->List (List Nat)
 |0=>(List.range n).map λi=> [i]
 |t+1=>(lev g n t).flatMap (Ez g n)
variable {α:Type}
theorem wo {p q:α->Bool}(h: ∀a,p a=true->q a=true): ∀l:List α,(l.filter p).Sublist (l.filter q)
 | []=> .slnil
 |a::l=>by
  cases e:p a with
  |true=>rw [C9 e,C9 (h a e)];exact(wo h l).cons₂ a
  |false=>
   rw [O8 (by rw [e];exact P7)];cases e':q a with
   |true=>rw [C9 e'];exact(wo h l).cons a
   |false=>rw [O8 (by rw [e'];exact P7)];exact wo h l
theorem Wt {β:Type}{f g:α->List β}(h: ∀a,(f a).Sublist (g a)): ∀ {l m:List α},l.Sublist m->(l.flatMap f).Sublist (m.flatMap g)
 |_,_,.slnil=> .slnil
 |_,_,.cons a s=>by rw [G0E];exact(Wt h s).trans (List.sublist_append_right _ _)
 |_,_,.cons₂ a s=>by rw [G0E,G0E];exact(h a).append (Wt h s)
variable {g:Nat->Nat->Bool}
theorem ZG {g':Nat->Nat->Bool}(h: ∀i j,g i j=true->g' i j=true)(n:Nat): ∀t,(lev g n t).Sublist (lev g' n t)
 |0=>List.Sublist.refl _
 |t+1=>Wt (λw=>(wo (λj e=>by
  unfold FE at*
  rw [S5] at*
  exact⟨h _ _ e.1,e.2⟩) (List.range n)).map _) (ZG h n t)
def EA:Nat->Nat->Bool:=λ_ _=>true
theorem FF: ∀n,n<=6-> ∀t,t<=6->(lev EA n t).length<=144:=by decide +kernel
variable {t:Nat}
theorem Rx (h6:n<=6)(ht:t<=6):(lev g n t).length<=144:=R9 (ZG (λ_ _ _=>rfl) n t).length_le (FF n h6 t ht)
theorem Nw (n:Nat)(h6:n<=6):lev EA n n= []:=by
 have: ∀n,n<=6->lev EA n n= []:=by decide +kernel
 exact this n h6
theorem FG (h6:n<=6):lev g n n= []:=K4 (Nat.le_zero.mp (by rw [<-R8 (α:=List Nat),<-Nw n h6];exact(ZG (λ_ _ _=>rfl) n n).length_le))
theorem AW (h:lev g n t= []):lev g n (t+1)= []:=by
 show (lev g n t).flatMap _= [];rw [h];rfl
structure LevOk (n t:Nat)(w:List Nat):Prop where
 len:w.length=t+1
 lt: ∀i∈w,i<n
 nd:w.Nodup
 low: ∀i∈w,w.headD 0<=i
theorem Wu: ∀ {t:Nat} {w:List Nat},w∈lev g n t->LevOk n t w
 |0,w,h=>by
  obtain⟨i,hi,rfl⟩:=D8.mp h;exact⟨rfl,λj hj=>by rw [G2.mp hj];exact P2.mp hi,T6 _ _,λj hj=>by rw [G2.mp hj];exact G8 _⟩
 |t+1,w,h=>by
  obtain⟨v,hv,hw⟩:=G0M.mp h;have o:=Wu hv;obtain⟨j,hj,rfl⟩:=D8.mp hw;obtain⟨hj1,hj2⟩:=S8.mp hj;unfold FE at hj2;rw [S5,S5] at hj2;obtain⟨_,h3,h4⟩:=hj2;have h3:=S9 h3;have h4:j ∉ v:=λz=>by rw [G9 z] at h4;cases h4
  have hd:(v++ [j]).headD 0=v.headD 0:=by
   cases v with
   |nil=>have:=o.len;cases this
   |cons a v=>rfl
  refine⟨by rw [G6,o.len];rfl,λi hi=> ?_,?_,λi hi=> ?_⟩
  ·rcases P9.mp hi with z|z
   ·exact o.lt i z
   ·rw [G2.mp z];exact P2.mp hj1
  ·exact U3.mpr ⟨o.nd,T6 _ _,λa ha b hb e=>by rw [G2.mp hb] at e;subst e;exact h4 ha⟩
  ·rw [hd];rcases P9.mp hi with z|z
   ·exact o.low i z
   ·rw [G2.mp z];exact D5 h3
def WS (g:Nat->Nat->Bool)(n:Nat):Nat->List (List Nat)
 |0=> []
 |t+1=>WS g n t++(lev g n t).filter λw=>g (w.getLastD 0) (w.headD 0)
def yA (T:List (List Int))(i j:Nat):Bool:=decide (ent T i j>0)
def wq (T:List (List Int))(n:Nat):List (List Nat):=Xk (WS (yA T) n n)
theorem Ug {g':Nat->Nat->Bool}(h: ∀i j,g i j=true->g' i j=true)(n:Nat): ∀t,(WS g n t).length<=(WS g' n t).length
 |0=>G8 _
 |t+1=>by
  show (WS g n t++_).length<=(WS g' n t++_).length;rw [G6,G6];exact Nat.add_le_add (Ug h n t) (((ZG h n t).filter _).trans (wo (λw e=>h _ _ e) _)).length_le
theorem FH: ∀n,n<=6-> ∀t,t<=6->(WS EA n t).length<=415:=by decide +kernel
theorem Qt (h6:n<=6)(ht:t<=6):(WS g n t).length<=415:=R9 (Ug (λ_ _ _=>rfl) n t) (FH n h6 t ht)
theorem Uh: ∀ {t:Nat} (k:Nat),lev g n t= []->WS g n (t+k)=WS g n t/\lev g n (t+k)= []
 |t,0,h=>⟨rfl,h⟩
 |t,k+1,h=>by
  obtain⟨a,b⟩:=Uh k h;refine⟨?_,AW b⟩;show WS g n (t+k)++(lev g n (t+k)).filter _=_;rw [b,a,G0X,B1]
theorem Ry: ∀ {t:Nat} {w:List Nat},w∈WS g n t-> ∃s,s<t/\LevOk n s w/\g (w.getLastD 0) (w.headD 0)=true
 |t+1,w,h=>by
  rcases P9.mp (show w∈WS g n t++(lev g n t).filter _ from h) with z|z
  ·obtain⟨s,a,b⟩:=Ry z;exact⟨s,by omega,b⟩
  ·obtain⟨z1,z2⟩:=S8.mp z;exact⟨t,F8 t,Wu z1,z2⟩
variable {w:List Nat}
theorem RA (h:w∈wq T n): ∃s,s<n/\LevOk n s w/\ent T (w.getLastD 0) (w.headD 0)>0:=by
 obtain⟨s,a,b,c⟩:=Ry ((zG _).mem_iff.mp h);exact⟨s,a,b,S9 c⟩
theorem Qu (h:w.length=t+1):atI (w.map λ(k:Nat)=>D.int (k:Int)) 0=some (.int ((w.headD 0:Nat):Int)):=by
 cases w with
 |nil=>cases h
 |cons a w=>exact wW (j:=0) rfl
theorem Bq (h:w.length=t+1):atI (w.map λ(k:Nat)=>D.int (k:Int)) (-1)=some (.int ((w.getLastD 0:Nat):Int)):=by
 refine MV (by rw [G0];omega) ?_;rw [G0,D2,B8,B9,G1 (by omega)];rfl
theorem RB (h:w.length=t+1):w.getLastD 0∈w:=by
 rw [B8,B9,G1 (by omega)];exact T1 _
theorem Nx (h:w.length=t+1):w.headD 0∈w:=by
 cases w with
 |nil=>cases h
 |cons a w=>exact D7
variable {β:Type}
theorem RC (f:α->List β){xs:List α}{k:Nat}{x:α}(h:xs[k]? =some x):(xs.take (k+1)).flatMap f=(xs.take k).flatMap f++f x:=by
 rw [T8,h,G1d];simp
theorem RD (p:α->Bool)(g:α->β){xs:List α}{k:Nat}{x:α}(h:xs[k]? =some x):((xs.take (k+1)).filter p).map g=((xs.take k).filter p).map g++if p x=true then [g x] else []:=by
 rw [T8,h,B6,T7]
 congr 1
 by_cases c:p x=true
 ·rw [if_pos c];simp [c]
 ·rw [if_neg c];simp [c]
theorem Zd (f:α->List β)(xs:List α)(k:Nat):((xs.take k).flatMap f).length<=(xs.flatMap f).length:=by
 conv=>rhs;rw [<-R7 k xs,G1d,G6]
 omega
section
variable {α β:Type}{i i':Nat}{js:List Nat}{ti ti':TID}{tt':TTD}{te:TED}{σ:SD}{h:HD}{Q:KD}{j:ItD}
theorem AX (xs:List α)(c:α->D)(ys:α->List β)(c':β->D)(p:α->β->Bool)(g:α->β->D)(hz:(xs.flatMap λx=>((ys x).filter (p x)).map (g x)).length<=sizeLine)(hj: ∀h',Sub h h'->j h'=some (xs.map c))(ht: ∀R:ItD->HD->Prop,R j h->ti σ h R)
 (hin: ∀x∈xs,∀h',Sub h h'-> ∀R:ItD->HD->Prop,(∀j' h2,Sub h' h2->(∀h3,Sub h2 h3->j' h3=some ((ys x).map c'))->R j' h2)->ti' ((jF js σ).set i (some (c x))) h' R)
 (hp: ∀x∈xs,∀y∈ys x,∀h',Sub h h'-> ∀Q':Bool->HD->Prop,Q' (p x y) h'->tt' (((jF js σ).set i (some (c x))).set i' (some (c' y))) h' Q')
 (he: ∀x∈xs,∀y∈ys x,p x y=true-> ∀h',Sub h h'-> ∀Q':KD,Q' (g x y) h'->te (((jF js σ).set i (some (c x))).set i' (some (c' y))) h' Q')
 (hq: ∀a h',Sub h h'->h' a=none->Q (.lst a) (we h' a (xs.flatMap λx=>((ys x).filter (p x)).map (g x)))):Sx (bN i) js ti WK i' ti' tt' te σ h Q:=by
 refine ht _ ⟨xs.length,λk zs h'=>Sub h h'/\zs=(xs.take k).flatMap λx=>((ys x).filter (p x)).map (g x),⟨Sub.refl h,rfl⟩,?_⟩;rintro k zs h1 ⟨s1,rfl⟩;refine⟨R9 (Zd _ xs k) hz,xs.map c,hj h1 s1,by rw [G0];exact G8 _,λhl a ha=> ?_,λd hd=> ?_⟩
 ·rw [G0] at hl;rw [S0 hl];exact hq a h1 s1 ha
 rw [D2] at hd;cases ex:xs[k]? with
 |none=>rw [ex] at hd;cases hd
 |some x=>
  rw [ex] at hd;injection hd with hd
  subst hd;have mx:=G7 ex;refine⟨_,rfl,?_⟩;unfold WK;refine vS ?_;refine hin x mx h1 s1 _ λj' h2 s2 hj'=>⟨(ys x).length,λm zs h'=>Sub h2 h'/\zs=((xs.take k).flatMap λx=>((ys x).filter (p x)).map (g x))++(((ys x).take m).filter (p x)).map (g x),⟨Sub.refl h2,by simp⟩,?_⟩
  rintro m zs h3 ⟨s3,rfl⟩;have s03:Sub h h3:=(s1.trans s2).trans s3;have tk:=RC (λx=>((ys x).filter (p x)).map (g x)) ex;refine⟨?_,(ys x).map c',hj' h3 s3,by rw [G0];exact G8 _,λhl=> ?_,λd hd=> ?_⟩
  ·refine R9 ?_ (R9 (Zd (λx=>((ys x).filter (p x)).map (g x)) xs (k+1)) hz);rw [tk,G6,G6,G0,G0];have:=(A3 m (ys x)).filter (p x) |>.length_le;omega
  ·rw [G0] at hl;refine⟨h3,Sub.refl _,s03,?_⟩;rw [tk,S0 hl]
  ·rw [D2] at hd;cases ey:(ys x)[m]? with
   |none=>rw [ey] at hd;cases hd
   |some y=>
    rw [ey] at hd;injection hd with hd
    subst hd;have my:=G7 ey;have tf:=RD (p x) (g x) ey;refine hp x mx y my h3 s03 _ ?_
    by_cases cp:p x y=true
    ·rw [if_pos cp] at tf ⊢;refine he x mx y my cp h3 s03 _ ⟨h3,Sub.refl _,s3,?_⟩;rw [tf,P0]
    ·rw [if_neg cp] at tf ⊢;refine⟨h3,Sub.refl _,s3,?_⟩;rw [tf,B1]
end
theorem encO:Enc jC Bk:=⟨YZ,λS=>Gh _,λS=>R9 (VZ _) (by decide),Fc⟩
end L2
namespace L2
open PySem PySem.Spec PyProof.Rows PySem.SeqAt HT
open Classical in
noncomputable def readOf (h:Heap)(v:Value):PyData:=if e: ∃p as,p.canLay0=true/\Reads h v p as then e.choose else .none
end L2
namespace L2
open PySem PySem.Spec PyProof.Rows
def s5:Nat->Nat
 |0=>0
 |d+1=>5*s5 d+1
def f5 (N:Nat):Nat->Nat->Nat
 |0,a=>a
 |d+1,a=>(f5 N d a*5+1)%N
theorem Qw: ∀ (fuel k n:Nat),3<=k-> ∃m,3<=m/\SetTable.sizeAbove.go n fuel (2^k)=2^m/\(n<2^(k+fuel)->n<2^m)
 |0,k,n,h=>⟨k,h,rfl,λz=>z⟩
 |fuel+1,k,n,h=>by
  unfold SetTable.sizeAbove.go
  by_cases c:2^k<=n
  ·rw [if_pos c,<-Nat.pow_succ];obtain⟨m,a,b,d⟩:=Qw fuel (k+1) n (by omega);exact⟨m,a,b,λz=>d (by rw [Nat.add_right_comm,U2];exact z)⟩
  ·rw [if_neg c];exact⟨k,h,rfl,λ_=>by omega⟩
theorem above {n:Nat}(h:n<2^67): ∃m,SetTable.sizeAbove n=2^m/\n<SetTable.sizeAbove n/\8<=SetTable.sizeAbove n:=by
 obtain⟨m,a,b,c⟩:=Qw 64 3 n (by decide);have b:SetTable.sizeAbove n=2^m:=b;refine⟨m,b,by rw [b];exact c h,?_⟩;rw [b];exact F4 (show 0<2 by decide) a
end L2
namespace L2
open PySem PySem.Spec PyProof.Rows HT
def FJ (h h':Heap):Prop:= ∀ (b:Addr) (o:Obj),o.cls= .type "tuple" ->h.get? b=some o->h'.get? b=some o
structure MemK (prog:Program)(w:World)(K:Type)[DecidableEq K] where
 is:Heap->K->Addr->Prop
 hash:K->Int
 inj: ∀ {h:Heap} {x y:K} {a:Addr},is h x a->is h y a->x=y
 keep: ∀ {h h':Heap} {x:K} {a:Addr},FJ h h'->is h x a->is h' x a
 hashed: ∀ {A:Around} {E:Value->Shared->Prop} {s:Shared} {x:K} {a:Addr} {Q:Int->Shared->Prop},A.units+8<cLine->is s.heap x a->(∀tk,Q (hash x) {s with toks:=tk})->wpAny (model prog w) A (pyHash (.ref a)) Q E s
 same: ∀ {A:Around} {E:Value->Shared->Prop} {s:Shared} {x y:K} {a b:Addr} {Q:Bool->Shared->Prop},A.units+8<cLine->is s.heap x a->is s.heap y b->Q (decide (x=y)) s->wpAny (model prog w) A (eqBool (.ref a) (.ref b)) Q E s
 quiet: ∀ {A:Around} {E:Value->Shared->Prop} {s:Shared} {x:K} {a:Addr} {Q:Bool->Shared->Prop},is s.heap x a->Q true s->wpAny (model prog w) A (eqIsQuiet 8 (.ref a)) Q E s
 cls: ∀ {A:Around} {E:Value->Shared->Prop} {s:Shared} {x:K} {a:Addr} {Q:Bool->Shared->Prop},is s.heap x a->Q false s->wpAny (model prog w) A (ofAClassStatement 8 (.ref a)) Q E s
 byv: ∀ {A:Around} {E:Value->Shared->Prop} {s:Shared} {x:K} {a:Addr} {Q:Bool->Shared->Prop},is s.heap x a->Q true s->wpAny (model prog w) A (hashByValue 8 (.ref a)) Q E s
section
variable {prog:Program}{w:World}{A:Around}{E:Value->Shared->Prop}{s:Shared}{K:Type}[DecidableEq K]
theorem wT: ∀ {xs ys:List K},xs.Nodup->(∀x∈xs,x∈ys)->xs.length<=ys.length
 | [],_,_,_=>T2 _
 |x::xs,ys,nd,h=>by
  obtain⟨n1,n2⟩:=O2.mp nd;have le:=wT (ys:=ys.erase x) n2 λy hy=>(Z5 (λ(e:y=x)=>n1 (by rw [<-e];exact hy))).mpr (h y (.tail _ hy))
  rw [V7 (h x (.head _))] at le;have pos:=X1 (h x (.head _));rw [D3];omega
end
end L2
namespace L2
open PySem PySem.Spec PyProof.Rows PySem.SeqAt HT
def pcS (T:List (List Int))(n p:Nat):List Nat:=(List.range n).filter λj=>wk T n p j&&wk T n j p
def vQ (T:List (List Int))(n:Nat):List (List Nat):=((List.range n).filter λp=>decide ((pcS T n p).headD 0=p)).map (pcS T n)
section
variable {T:List (List Int)}{n e:Nat}
theorem AY (p:Nat):IsS n (pcS T n p):=⟨_,rfl⟩
variable {p:Nat}
theorem mem_pc {j:Nat}:j∈pcS T n p↔j<n/\wk T n p j=true/\wk T n j p=true:=by
 unfold pcS;rw [S8,P2,S5]
theorem RE (hp:p<n):p∈pcS T n p:=mem_pc.mpr ⟨hp,JN T n p,JN T n p⟩
theorem FK {q:Nat}(hp:p<n)(h:q∈pcS T n p):pcS T n q=pcS T n p:=by
 obtain⟨hq,h1,h2⟩:=mem_pc.mp h;refine(AY q).ext (AY p) λj=> ?_
 rw [mem_pc,mem_pc];exact⟨λ⟨a,b,c⟩=>⟨a,zX hq h1 b,zX hq c h2⟩,λ⟨a,b,c⟩=>⟨a,zX hp h2 b,zX hp c h1⟩⟩
theorem RF (hp:p<n): ∃r,pcS T n p=(pcS T n p).headD 0::r:=by
 cases h:pcS T n p with
 |nil=>have:=RE (T:=T) hp;rw [h] at this;cases this
 |cons x r=>exact⟨r,rfl⟩
theorem FL (hp:p<n):(pcS T n p).headD 0<n/\pcS T n ((pcS T n p).headD 0)=pcS T n p:=by
 obtain⟨r,h⟩:=RF (T:=T) hp;have m:(pcS T n p).headD 0∈pcS T n p:=by
  generalize (pcS T n p).headD 0=x at h;rw [h];exact D7
 exact⟨(mem_pc.mp m).1,FK hp m⟩
theorem mem_pcs {S:List Nat}:S∈vQ T n↔ ∃p,p<n/\S=pcS T n p:=by
 unfold vQ;rw [D8];constructor
 ·rintro ⟨p,hp,rfl⟩;exact⟨p,P2.mp (S8.mp hp).1,rfl⟩
 ·rintro ⟨p,hp,rfl⟩;obtain⟨a,b⟩:=FL (T:=T) hp;exact⟨(pcS T n p).headD 0,S8.mpr ⟨P2.mpr a,G9 (by rw [b])⟩,b⟩
end
end L2
namespace L2
open PySem PySem.Spec PyProof.Rows PySem.W
structure DefIn (K:Frag)(x:Str)(st:Stmt)(f:Addr)(fd:FuncData):Prop where
 at_:nsIn K mainGlobals x=some (some (.ref f))
 fn:Fun K x x st f fd
variable {K:Frag}{h base:Heap}{mg:Str->Option Value}{x:Str}{st:Stmt}{f:Addr}{fd:FuncData}{P:Program}{w:World}{n:Nat}{ps:List Str}
theorem AZ {oc:Value}{od an:Option Addr}{osl:Array (Option Value)}{kV doc pm cdv ct:Value}(a:nsIn K mainGlobals x=some (some (.ref f)))(l:K.lookup f=some ⟨oc,od,.func (fnOf x x (yB st) (jL st) (jc st) .none kV doc pm an cdv ct),osl⟩)
 (c:codeIn K cdv x=true)(k:keepIn K (.ref f)=true):DefIn K x st f (fnOf x x (yB st) (jL st) (jc st) .none kV doc pm an cdv ct):=⟨a,Oi l c k⟩
abbrev Ea (x:Str)(st:Stmt)(ps:List Str):Prop:= ∀ (kV doc pm:Value) (an:Option Addr) (cdv ct:Value) (us:List Value),us.length=ps.length->bindArgs (fnOf x x (yB st) (jL st) (jc st) .none kV doc pm an cdv ct) ⟨us,[]⟩=pure (ps.zip us)
theorem DefIn.nm (d:DefIn K x st f fd)(X:K.In h)(G:h.Ns mainGlobals mg):mg x=some (.ref f):=mg_of X G d.at_
theorem DefIn.cal {sp:RDn}(d:DefIn K x st f fd)(l:OpenLaw)(w:World)(base:Heap)(X:K.In h)(G:h.Ns mainGlobals mg)(ok:FnOk l.prog w K mg base CX0 n f fd ps (LSp K sp))(b:Ea x st ps:=by first|(exact λ_ _ _ _ _ _ us hl=>match us,hl with| [_],_=>rfl)|(exact λ_ _ _ _ _ _ us hl=>match us,hl with| [_,_],_=>rfl)|(exact λ_ _ _ _ _ _ us hl=>match us,hl with| [_,_,_],_=>rfl)|(exact λ_ _ _ _ _ _ us hl=>match us,hl with| [_,_,_,_],_=>rfl)|(exact λ_ _ _ _ _ _ us hl=>match us,hl with| [_,_,_,_,_],_=>rfl)):jq l.prog w K mg base n x ps sp:=⟨_,_,ok,d.fn.binds b,d.fn.kp,d.nm X G⟩
theorem DefIn.rai {sp:RDx}(d:DefIn K x st f fd)(l:OpenLaw)(w:World)(base:Heap)(X:K.In h)(G:h.Ns mainGlobals mg)(ok:FnOk l.prog w K mg base (CXR l.prog w) n f fd ps (MX mg K sp))(b:Ea x st ps:=by first|(exact λ_ _ _ _ _ _ us hl=>match us,hl with| [_],_=>rfl)|(exact λ_ _ _ _ _ _ us hl=>match us,hl with| [_,_],_=>rfl)|(exact λ_ _ _ _ _ _ us hl=>match us,hl with| [_,_,_],_=>rfl)|(exact λ_ _ _ _ _ _ us hl=>match us,hl with| [_,_,_,_],_=>rfl)|(exact λ_ _ _ _ _ _ us hl=>match us,hl with| [_,_,_,_,_],_=>rfl)):Wh l.prog w K mg base n x ps sp:=⟨_,_,ok,d.fn.binds b,d.fn.kp,d.nm X G⟩
def zsB (K:Frag):Bool:= ["len","max","min","divmod","all","any","repr","sum","sorted","int","tuple","list","set","bool","isinstance","range","zip","enumerate","reversed"].all λx=>nsIn K mainGlobals (Str.ofString x)==some none
theorem Th (X:K.In h)(G:h.Ns mainGlobals mg)(e:zsB K=true):Zs mg:=by
 unfold zsB at e;rw [R0] at e;have m:=λ(x:String) hx=>mg_none_of X G (V4.mp (e x hx))
 exact⟨m "len" (by decide),m "max" (by decide),m "min" (by decide),m "divmod" (by decide),m "all" (by decide),m "any" (by decide),m "repr" (by decide),m "sum" (by decide),m "sorted" (by decide),m "int" (by decide),m "tuple" (by decide),m "list" (by decide),m "set" (by decide),m "bool" (by decide),m "isinstance" (by decide),m "range" (by decide),m "zip" (by decide),m "enumerate" (by decide),m "reversed" (by decide)⟩
end L2
namespace L2
open PySem PySem.Spec PyProof.Rows
def kvV (kvs:List (Int×V)):List (Key×V):=kvs.map λp=>((Sum.inl p.1:Key),p.2)
def vp {α:Type}(kv:List (Int×α))(k:Int):Option α:=(kv.find? λp=>decide (p.1=k)).map (·.2)
def GP {α:Type}(kv:List (Int×α))(k:Int)(d:α):List (Int×α):=if (vp kv k).isSome then kv.map (λp=>if p.1=k then (p.1,d) else p) else kv++ [(k,d)]
section
variable {α:Type}{kv r:List (Int×α)}{p:Int×α}{k:Int}
theorem Ny (e:p.1=k):vp (p::r) k=some p.2:=by simp [vp,A5,e]
theorem Nz (e: ¬p.1=k):vp (p::r) k=vp r k:=by simp [vp,A5,e]
end
section
variable {K:PySem.W.Frag}{H:Hp}{k:Int}
theorem vc: ∀ {kv:List (Int×D)} {kvs:List (Int×V)},kv.map (·.1)=kvs.map (·.1)->RelDs K H (kv.map (·.2)) (kvs.map (·.2))->(∀d,vp kv k=some d-> ∃v,WO (kvV kvs) (Sum.inl k)=some v/\RelD K H d v)/\(vp kv k=none->WO (kvV kvs) (Sum.inl k)=none)
 | [],[],_,_=>⟨λ_ z=>(nomatch z),λ_=>rfl⟩
 |p::r,[],e,_=>by cases e
 | [],q::s,e,_=>by cases e
 |p::r,q::s,e,h=>by
  rw [S1,S1] at e;injection e with e1 e2
  obtain⟨v,t,z,h1,h2⟩:=(show ∃v t,q.2::s.map (·.2)=v::t/\RelD K H p.2 v/\RelDs K H (r.map (·.2)) t from h);injection z with z1 z2
  subst z1;subst z2
  by_cases c:p.1=k
  ·rw [Ny c];refine⟨λd z=> ?_,λz=>by cases z⟩;injection z with z
   subst z;exact⟨q.2,Zy (by show (Sum.inl q.1:Key)=_;rw [<-e1,c]),h1⟩
  ·rw [Nz c];have n: ¬ (Sum.inl q.1:Key)=Sum.inl k:=λz=>by injection z with z;exact c (e1.trans z)
   show (∀d,_-> ∃v,WO ((Sum.inl q.1,q.2)::kvV s) _=_/\_)/\(_->WO ((Sum.inl q.1,q.2)::kvV s) _=_);rw [Zz n];exact vc e2 h2
theorem NA {kv:List (Int×D)}{kvs:List (Int×V)}{d:D}{v:V}(e:kv.map (·.1)=kvs.map (·.1))(r:RelDs K H (kv.map (·.2)) (kvs.map (·.2)))(rd:RelD K H d v): ∃kvs',XR (kvV kvs) (Sum.inl k) v=kvV kvs'/\(GP kv k d).map (·.1)=kvs'.map (·.1)/\RelDs K H ((GP kv k d).map (·.2)) (kvs'.map (·.2)):=by
 have g:=vc (k:=k) e r
 by_cases c:(vp kv k).isSome
 ·obtain⟨d0,hd0⟩:=N5.mp c;obtain⟨v0,hv0,_⟩:=g.1 d0 hd0;refine⟨kvs.map λp=>if p.1=k then (p.1,v) else p,?_,?_,?_⟩
  ·unfold XR;rw [YD,hv0];show List.map _ (kvV kvs)=_;unfold kvV;rw [S4,S4];refine S3 λp _=> ?_
   show (if (Sum.inl p.1:Key)=Sum.inl k then _ else _)=_
   by_cases z:p.1=k
   ·rw [if_pos (by rw [z])];show _=((Sum.inl (if p.1=k then (p.1,v) else p).1:Key),(if p.1=k then (p.1,v) else p).2);rw [if_pos z]
   ·rw [if_neg (λw=>z (by injection w))];show _=((Sum.inl (if p.1=k then (p.1,v) else p).1:Key),(if p.1=k then (p.1,v) else p).2);rw [if_neg z]
  ·unfold GP;rw [if_pos c,S4,S4];have a1:kv.map ((·.1)∘λp=>if p.1=k then (p.1,d) else p)=kv.map (·.1):=S3 λp _=>by show (if p.1=k then (p.1,d) else p).1=p.1;split<;>rfl
   have a2:kvs.map ((·.1)∘λp=>if p.1=k then (p.1,v) else p)=kvs.map (·.1):=S3 λp _=>by show (if p.1=k then (p.1,v) else p).1=p.1;split<;>rfl
   rw [a1,a2,e]
  ·unfold GP;rw [if_pos c];clear g c hd0 hv0
   induction kv generalizing kvs with
   |nil=>cases kvs with
    |nil=>exact .nil
    |cons q s=>cases e
   |cons p t ih=>cases kvs with
    |nil=>cases e
    |cons q s=>
     rw [S1,S1] at e;injection e with e1 e2
     obtain⟨u,w,z,h1,h2⟩:=(show ∃v t',q.2::s.map (·.2)=v::t'/\RelD K H p.2 v/\RelDs K H (t.map (·.2)) t' from r);injection z with z1 z2
     subst z1;subst z2;refine⟨(if q.1=k then (q.1,v) else q).2,_,rfl,?_,ih e2 h2⟩;show RelD K H (if p.1=k then (p.1,d) else p).2 _
     by_cases z:p.1=k
     ·rw [if_pos z,if_pos (e1 ▸ z)];exact rd
     ·rw [if_neg z,if_neg (e1 ▸ z)];exact h1
 ·have hn:vp kv k=none:=by simpa using c
  refine⟨kvs++ [(k,v)],?_,?_,?_⟩
  ·rw [Mv v (g.2 hn)];unfold kvV;rw [List.map_append];rfl
  ·unfold GP;rw [if_neg c,List.map_append,List.map_append,e];rfl
  ·unfold GP;rw [if_neg c,List.map_append,List.map_append];exact r.append (.cons rd .nil)
end
def Eb (x i:Int):TED:=λ_ h Q=> ∀p,h.dc p=none->Q (.dct p) (Ba h p (.ik [(x,.int i)]))
section
variable {X:Cx}
theorem Ec {x i:Int}{j k:Nat}{pos p1 p2:Pos}:JE X (.Dict [some (.Constant (.int x) j p1)] [.Constant (.int i) k p2] pos) (Eb x i):=⟨by
 have h0:PPs X pos [some (.Constant (.int x) j p1)] [.Constant (.int i) k p2] [(tC (.int x),tC (.int i))]:=XS pe_int pe_int Px;refine PE.imp (Py h0 rfl rfl (by simp) (by simp)) ?_;rintro σ H Q ⟨σd,h,Qd,rs,rh,t,p⟩ q hq;show upd H q (.dK []) q=some (.dK [])/\_;refine⟨jl,[((Sum.inl x:Key),V.int i)],rfl,by simp,?_⟩;rw [XY];exact p (.dct q) (.ref q) _ _ (.new hq) (rh.newC (c:= .ik [(x,.int i)]) hq ⟨[(x,.int i)],jl,rfl,.cons rfl .nil⟩) rfl (t q (rh.freeC hq))⟩
end
def ixC:RD2:=λx y h Q=> ∃a k kv d,x= .dct a/\y= .int k/\h.dc a=some (.ik kv)/\vp kv k=some d/\Q d h
def Kf:RDn:=λds h Q=> ∃a kv,ds= [.dct a]/\h.dc a=some (.ik kv)/\Q (.int ((kv.length:Nat):Int)) h
section
variable {X:Cx}
theorem Kg {k : Nat} {a b : Expr} {ta tb : TED} {pos : Pos} (hr : Room k X.A) (ha : JE X a ta) (hb : JE X b tb) (hs : EY b := by intro _ _; rfl) : JE X (.Subscript a b pos) (dOp ixC ta tb) :=
  ⟨(BY (by have := hr.un; omega) ha.to hb.to hs).imp fun σ H Q ⟨σd, h, Qd, rs, rh, t, post⟩ => LE.bind rs rh t fun d v h1 H1 k1 rs1 rh1 r1 t1 => LE.bind rs1 rh1 t1 fun d2 v2 h2 H2 k2 rs2 rh2 r2 ⟨a, x, kv, d3, e1, e2, e, g, q⟩ => by
    subst e1 e2
    cases (show v = .ref a from r1)
    cases (show v2 = .int x from r2)
    obtain ⟨kvs, hH, ek, rv⟩ := (show ∃ kvs : List (Int × V), _ from rh2.dc a _ e)
    obtain ⟨u, hu, ru⟩ := (vc ek rv).1 d3 g
    refine ⟨a, u, rfl, ?_, post d3 u _ _ (k1.trans k2) rh2 ru q⟩
    rw [← hu]
    exact .k (k := Sum.inl x) hH⟩
theorem FM:yw X (.builtin "len") Kf:=(show CallR X (.builtin "len") (λxs H Q=> ∃ (a:Addr) (kv:List (Key×V)),xs= [.ref a]/\H a=some (.dK kv)/\Q (.int ((kv.length:Nat):Int)) H) from by
 intro pins s σ H xs us Q I r h;obtain⟨a,kv,rfl,e,q⟩:=h;obtain⟨u,rfl,ru⟩:=Jz r;cases ru;exact EX I (.inl e) λt s' I'=>⟨.int _,H,I',⟨_,rfl⟩,q⟩).imp λxs H Q ⟨ds,h,Qd,r,rh,⟨a,kv,e,z,q⟩,p⟩=>by
 subst e;obtain⟨v,e,r1⟩:=jA r;cases (show v= .ref a from r1);subst e;obtain⟨kvs,hH,ek,rv⟩:=(show ∃kvs:List (Int×V),_ from rh.dc a _ z);refine⟨a,_,rfl,hH,?_⟩;rw [show (kvs.map λp=>((Sum.inl p.1:Key),p.2)).length=kv.length by rw [G0];have:=congrArg List.length ek;simpa using this.symm];exact p (.int _) _ _ _ (.refl H) rh rfl q
end
theorem Sub.overC {h h':HD}{a:Addr}{c:DC}(sb:Sub h h')(e:h.dc a=none):Sub h (Ba h' a c):=⟨sb.ls,λb xs z=>by
 rw [YG (λw=>by subst w;rw [e] at z;cases z)];exact sb.dc b xs z⟩
end L2
namespace L2
variable {g:Nat->Nat->Bool}{n:Nat}
theorem Br: ∀ {t:Nat} {w:List Nat},w∈lev g n t-> ∀i x y,w[i]? =some x->w[i+1]? =some y->g x y=true
 |0,w,h=>λi x y e1 e2=>by
  obtain⟨z,_,rfl⟩:=D8.mp h;rw [C4 (by simp)] at e2;cases e2
 |t+1,w,h=>λi x y e1 e2=>by
  obtain⟨v,hv,hw⟩:=G0M.mp h;obtain⟨j,hj,rfl⟩:=D8.mp hw;have fj:=(S8.mp hj).2;unfold FE at fj;rw [S5] at fj;rcases C7 (i+1) v.length with z|z
  ·rw [D4 (by omega)] at e1;rw [D4 z] at e2;exact Br hv i x y e1 e2
  ·have hi:i+1=v.length:=by
    have:=(G5.mp e2).1;rw [G6,B2] at this;omega
   rw [D4 (by omega)] at e1;rw [P3 (by omega),hi,G1n] at e2;injection e2 with e2
   subst e2;have lx:v.getLastD 0=x:=by
    rw [B8,B9,show v.length-1=i by omega,e1];rfl
   rw [<-lx];exact fj.1
theorem Qx {w:List Nat}: ∀ {t:Nat},w∈WS g n t-> ∃s,s<t/\w∈lev g n s/\g (w.getLastD 0) (w.headD 0)=true
 |t+1,h=>by
  rcases P9.mp h with z|z
  ·obtain⟨s,a,b⟩:=Qx z;exact⟨s,by omega,b⟩
  ·obtain⟨a,b⟩:=S8.mp z;exact⟨t,by omega,a,b⟩
section
variable {n e:Nat}{T:List (List Int)}
theorem Qy (h:Sq n e T)(hn:n<=8){w:List Nat}(hw:w∈wq T n):1<=w.length/\w.length<=n/\(∀t,w.getD (t%w.length) 0<n)/\ ∀t,RP n T 1 (w.getD (t%w.length) 0) (w.getD ((t+1)%w.length) 0):=by
 obtain⟨s,hs,lv,back⟩:=Qx ((zG _).mem_iff.mp hw);have o:=Wu lv;have l1:1<=w.length:=by rw [o.len];omega
 refine⟨l1,by rw [o.len];omega,λt=> ?_,λt=> ?_⟩
 ·have:=U4 t l1;rw [P1,G1 this];exact o.lt _ (T1 this)
 ·have m1:=U4 t l1;have e1:w.getD (t%w.length) 0=w[t%w.length]:=by rw [P1,G1 m1];rfl
  rw [Je h hn];rcases C7 (t%w.length+1) w.length with z|z
  ·have e2:(t+1)%w.length=t%w.length+1:=by rw [G1t,E5 (show 1<w.length by omega),E5 z]
   have e3:w.getD ((t+1)%w.length) 0=w[t%w.length+1]:=by rw [e2,P1,G1 z];rfl
   rw [e1,e3];have:=S9 (Br lv (t%w.length) _ _ (G1 m1) (G1 z));omega
  ·have e2:(t+1)%w.length=0:=by
    rw [<-W9 t w.length,show w.length*(t / w.length)+t%w.length+1=w.length*(t / w.length+1) by rw [G0f];omega];exact Nat.mul_mod_right _ _
   have la:w.getLastD 0=w[t%w.length]:=by
    rw [B8,B9,show w.length-1=t%w.length by omega,G1 m1];rfl
   have he:w.headD 0=w.getD 0 0:=by cases w<;>rfl
   rw [e1,e2,<-he,<-la];have:=S9 back;omega
theorem NB (h:Sq n e T)(hn:n<=8){w:List Nat}(hw:w∈wq T n){p:Nat}(hp:p∈w):RP n T w.length p p:=by
 obtain⟨l1,_,cl,st⟩:=Qy h hn hw;obtain⟨i,hi,e⟩:=C3 hp;have:=DY h hn (c:=λt=>w.getD (t%w.length) 0) cl st i w.length;have e1:w.getD (i%w.length) 0=p:=by rw [E5 hi,P1,G1 hi,e];rfl
 have e2:w.getD ((i+w.length)%w.length) 0=p:=by rw [Nat.add_mod_right,e1]
 rw [e1,e2] at this;exact this
end
theorem RG {g:Nat->Nat->Bool}{n:Nat}: ∀ {t:Nat} {w:List Nat},w.length=t+1->(∀i∈w,i<n)->w.Nodup->(∀i∈w,w.headD 0<=i)->(∀i x y,w[i]? =some x->w[i+1]? =some y->g x y=true)->w∈lev g n t
 |0,w,hl,lt,_,_,_=>by
  obtain⟨a,rfl⟩:=G0Q.mp hl;exact D8.mpr ⟨a,P2.mpr (lt a (by simp)),rfl⟩
 |t+1,w,hl,lt,nd,low,go=>by
  obtain⟨v,j,rfl⟩: ∃v j,w=v++ [j]:=⟨w.dropLast,w.getLast (by intro z;rw [z] at hl;cases hl),(List.dropLast_concat_getLast _).symm⟩;have lv:v.length=t+1:=by rw [G6,B2] at hl;omega
  have hd:(v++ [j]).headD 0=v.headD 0:=by cases v with|nil=>cases lv|cons a r=>rfl
  have nv:=U3.mp nd;have jn:j ∉ v:=λz=>nv.2.2 j z j (by simp) rfl
  have hh:v.headD 0∈v:=by cases v with|nil=>cases lv|cons a r=>exact D7 ..
  rw [hd] at low;have mv:=RG (g:=g) (n:=n) lv (λi hi=>lt i (T5 _ hi)) nv.1 (λi hi=>low i (T5 _ hi)) λi x y e1 e2=>go i x y (by rw [D4 (G5.mp e1).1];exact e1) (by rw [D4 (G5.mp e2).1];exact e2)
  refine G0M.mpr ⟨v,mv,D8.mpr ⟨j,S8.mpr ⟨P2.mpr (lt j (by simp)),?_⟩,rfl⟩⟩;have la:v[t]? =some (v.getLastD 0):=by rw [B8,B9,lv,Nat.add_sub_cancel,G1 (by omega)];rfl
  have g1:=go t _ j (by rw [D4 (by omega)];exact la) (by rw [P3 (by omega),lv,G1n];rfl);have lj:=low j (by simp);have ne:v.headD 0≠j:=λz=>jn (z ▸ hh)
  unfold FE;rw [g1,G9 (show v.headD 0<j by omega),D1 jn];rfl
theorem RH {s:Nat}{w:List Nat}(h:w∈lev g n s)(b:g (w.getLastD 0) (w.headD 0)=true): ∀t,s<t->w∈WS g n t
 |t+1,ht=>by
  rcases C7 s t with z|z
  ·exact T5 _ (RH h b t z)
  ·have:t=s:=by omega
   subst this;exact P6 _ (S8.mpr ⟨h,b⟩)
theorem Xm {w:List Nat}(nd:w.Nodup)(lt: ∀i∈w,i<n):w.length<=n:=by
 have:=wT (ys:=List.range n) nd λx hx=>P2.mpr (lt x hx)
 rwa [R4] at this
section
variable {n e:Nat}{T:List (List Int)}
theorem Gv {w:List Nat}(ne:w≠ [])(lt: ∀i∈w,i<n)(nd:w.Nodup)(low: ∀i∈w,w.headD 0<=i)(go: ∀i x y,w[i]? =some x->w[i+1]? =some y->ent T x y>0)(back:ent T (w.getLastD 0) (w.headD 0)>0):w∈wq T n:=by
 obtain⟨t,ht⟩: ∃t,w.length=t+1:=⟨w.length-1,by have:=K2.mpr ne;omega⟩;have:=Xm nd lt;exact(zG _).mem_iff.mpr (RH (RG (g:=yA T) ht lt nd low λi x y e1 e2=>G9 (go i x y e1 e2)) (G9 back) n (by omega))
theorem RI (h:Sq n e T){i j:Nat}(hi:i<n)(hj:j<n)(z:ent T i j≠0):ent T i j>0:=by have:=(h.ent_nn hi hj).1;omega
theorem Gw (h:Sq n e T)(hn:n<=8){m:Nat}(m1:1<=m){v:Nat->Nat}(vl: ∀t,v t<n)(per: ∀t,v (t+m)=v t)(inj: ∀a b,a<m->b<m->v a=v b->a=b)(st: ∀t,RP n T 1 (v t) (v (t+1))): ∃s,(List.range m).map (λt=>v (s+t))∈wq T n:=by
 obtain⟨s,hs⟩: ∃s,∀t,v s<=v t:=by
  have key: ∀k,∃s,∀t,t<k+1->v s<=v t:=λk=>by
   induction k with
   |zero=>exact⟨0,λt ht=>by rw [show t=0 by omega];exact G8 _⟩
   |succ k ih=>
    obtain⟨s,hs⟩:=ih;rcases C7 (v (k+1)) (v s) with z|z
    ·exact⟨k+1,λt ht=>by
      rcases C7 t (k+1) with y|y
      ·have:=hs t y;omega
      ·rw [show t=k+1 by omega];exact G8 _⟩
    ·exact⟨s,λt ht=>by
      rcases C7 t (k+1) with y|y
      ·exact hs t y
      ·rw [show t=k+1 by omega];exact z⟩
  obtain⟨s,hs⟩:=key m;have red: ∀t,v t=v (t%m):=λt=>by
   have: ∀q r,v (r+q*m)=v r:=λq r=>by
    induction q with
    |zero=>rw [G1o,V8]
    |succ q ih=>rw [G0T,<-U2,per,ih]
   have e:=this (t / m) (t%m);rw [G1i,Nat.mod_add_div] at e;exact e
  exact⟨s,λt=>by rw [red t];exact hs _ (by have:=U4 t m1;omega)⟩
 have red: ∀t,v t=v (t%m):=λt=>by
  have: ∀q r,v (r+q*m)=v r:=λq r=>by
   induction q with
   |zero=>rw [G1o,V8]
   |succ q ih=>rw [G0T,<-U2,per,ih]
  have e:=this (t / m) (t%m);rw [G1i,Nat.mod_add_div] at e;exact e
 have hd:((List.range m).map λt=>v (s+t)).headD 0=v s:=by
  obtain⟨k,rfl⟩: ∃k,m=k+1:=⟨m-1,by omega⟩;rw [A9];rfl
 refine⟨s,Gv ?_ (λi hi=>by obtain⟨t,_,rfl⟩:=D8.mp hi;exact vl _) ?_ (λi hi=>by obtain⟨t,_,rfl⟩:=D8.mp hi;rw [hd];exact hs _) (λi x y e1 e2=> ?_) ?_⟩
 ·intro z;have:=congrArg List.length z;rw [G0,R4] at this;simp at this;omega
 ·refine C6.mpr ((List.nodup_range (n:=m)).imp_of_mem λ{a b} ha hb ne z=> ?_);have ha:=P2.mp ha;have hb:=P2.mp hb;have z:v (s+a)=v (s+b):=z;rw [red (s+a),red (s+b)] at z;have:=inj _ _ (U4 _ m1) (U4 _ m1) z;refine ne ?_;have d1:=W9 (s+a) m;have d2:=W9 (s+b) m;rcases Nat.lt_trichotomy ((s+a) / m) ((s+b) / m) with c|c|c
  ·have:=V2 m (show (s+a) / m+1<=(s+b) / m from c);rw [G0f] at this;omega
  ·rw [c] at d1;omega
  ·have:=V2 m (show (s+b) / m+1<=(s+a) / m from c);rw [G0f] at this;omega
 ·have h1:=(G5.mp e2).1;rw [G0,R4] at h1;rw [D2,L5 (by omega)] at e1 e2;injection e1 with e1
  injection e2 with e2
  subst e1;subst e2;exact RI h (vl _) (vl _) ((Je h hn).mp (st (s+i)))
 ·have la:((List.range m).map λt=>v (s+t)).getLastD 0=v (s+(m-1)):=by
   rw [B8,B9,G0,R4,D2,L5 (by omega)];rfl
  rw [hd,la];have:=st (s+(m-1));rw [show s+(m-1)+1=s+m by omega,per] at this;exact RI h (vl _) (vl _) ((Je h hn).mp this)
def wU (T:List (List Int))(n:Nat):Nat:=((wq T n).map List.length).foldl Nat.gcd 0
theorem RJ {w:List Nat}(hw:w∈wq T n):wU T n∣w.length:=((Va _ 0 (wU T n)).mp (G1p _)).2 _ (V0 hw)
theorem zM (h:Sq n e T)(hn:n<=8): ∀ (m:Nat) {p:Nat},p<n->RP n T m p p->wU T n∣m:=by
 intro m
 induction m using Nat.strongRecOn with
 |_ m ih=>
  intro p hp r;rcases Q4 m with z|m1
  ·rw [z];exact Nat.dvd_zero _
  obtain⟨v,v0,vm,vl,vr⟩:=DL h hn m hp hp r
  by_cases c: ∃a b,a<b/\b<m/\v a=v b
  ·obtain⟨a,b,ab,bm,e1⟩:=c;have r1:=JJ h hn vl vr a (b-a) (by omega);rw [show a+(b-a)=b by omega,<-e1] at r1;have r2:=JJ h hn vl vr 0 a (by omega);rw [E8,v0] at r2;have r3:=JJ h hn vl vr b (m-b) (by omega);rw [show b+(m-b)=m by omega,vm,<-e1] at r3;have d1:=ih (b-a) (by omega) (vl a (by omega)) r1;have d2:=ih (a+(m-b)) (by omega) hp (jZ h hn hp (vl a (by omega)) hp r2 r3);have:=Nat.dvd_add d1 d2
   rwa [show b-a+(a+(m-b))=m by omega] at this
  ·obtain⟨s,hs⟩:=Gw h hn (T:=T) (n:=n) m1 (v:=λt=>v (t%m)) (λt=>vl _ (by have:=U4 t m1;omega)) (λt=>by show v ((t+m)%m)=_;rw [Nat.add_mod_right]) (λa b ha hb z=>by
    have z:v (a%m)=v (b%m):=z;rw [E5 ha,E5 hb] at z;rcases Nat.lt_trichotomy a b with y|y|y
    ·exact absurd ⟨a,b,y,hb,z⟩ c
    ·exact y
    ·exact absurd ⟨b,a,y,ha,z.symm⟩ c) (λt=>by
    show RP n T 1 (v (t%m)) (v ((t+1)%m));have lt:=U4 t m1;have:=vr (t%m) lt;rcases C7 (t%m+1) m with z|z
    ·rw [show (t+1)%m=t%m+1 by rw [G1t,E5 (show 1<m by omega),E5 z]];exact this
    ·have e2:(t+1)%m=0:=by
      rw [<-W9 t m,show m*(t / m)+t%m+1=m*(t / m+1) by rw [G0f];omega];exact Nat.mul_mod_right _ _
     rw [e2,v0,<-vm,show m=t%m+1 by omega];rw [show t%(t%m+1)=t%m by rw [show t%m+1=m by omega]];exact this)
   have:=RJ hs
   rwa [G0,R4] at this
theorem Ed (h:Sq n e T)(hn:n<=8){i j:Nat}(hi:i<n)(w:wk T n i j=true):j<n/\ ∃k,RP n T k i j:=
 Jj (P:=λi j=>i<n->j<n/\ ∃k,RP n T k i j) (λi hi=>⟨hi,0,(jS hi hi).mpr rfl⟩) (λi j z hi=>⟨Rv h i j z,1,(Je h hn).mpr z⟩) (λi k j a b hi=>by
  obtain⟨hk,k1,r1⟩:=a hi;obtain⟨hj,k2,r2⟩:=b hk;exact⟨hj,k1+k2,jZ h hn hi hk hj r1 r2⟩) w hi
theorem NC (h:Sq n e T)(hn:n<=8): ∀ (k:Nat) {i j:Nat},i<n->j<n->RP n T k i j->wk T n i j=true
 |0,i,j,hi,hj,r=>by rw [(jS hi hj).mp r];exact JN T n j
 |k+1,i,j,hi,hj,r=>by
  obtain⟨x,hx,a,b⟩:=(zT h hn k 1 hi hj).mp r;exact zX hx (NC h hn k hi hx a) (Vc ((Je h hn).mp b) n)
theorem wL (h:Sq n e T)(hn:n<=8)(one:(vQ T n).length=1){i j:Nat}(hi:i<n)(hj:j<n): ∃k,RP n T k i j:=by
 obtain⟨S,e1⟩:=G0Q.mp one;have a:pcS T n i∈vQ T n:=mem_pcs.mpr ⟨i,hi,rfl⟩;have b:pcS T n j∈vQ T n:=mem_pcs.mpr ⟨j,hj,rfl⟩;rw [e1] at a b;have:j∈pcS T n i:=by rw [G2.mp a,<-G2.mp b];exact RE hj
 exact(Ed h hn hi (mem_pc.mp this).2.1).2
theorem RK (h:Sq n e T)(hn:n<=8)(n1:1<=n)(all: ∀i j,i<n->j<n-> ∃k,RP n T k i j):(vQ T n).length=1:=by
 have same: ∀p,p<n->pcS T n p=List.range n:=λp hp=>G1e.mpr λj hj=>by
  have hj:=P2.mp hj;obtain⟨k,r⟩:=all p j hp hj;obtain⟨k',r'⟩:=all j p hj hp;rw [NC h hn k hp hj r,NC h hn k' hj hp r'];rfl
 have hd:(List.range n).headD 0=0:=by
  obtain⟨k,rfl⟩: ∃k,n=k+1:=⟨n-1,by omega⟩;rw [A9];rfl
 unfold vQ;rw [G0];have e1:((List.range n).filter λp=>decide ((pcS T n p).headD 0=p))= [0]:=by
  have:((List.range n).filter λp=>decide ((pcS T n p).headD 0=p))=(List.range n).filter λp=>decide (p=0):=G0y λp hp=>by
   rw [same p (P2.mp hp),hd];exact decide_eq_decide.mpr ⟨Eq.symm,Eq.symm⟩
  rw [this];obtain⟨k,rfl⟩: ∃k,n=k+1:=⟨n-1,by omega⟩;rw [A9,C9 (by decide),List.filter_map,G0R.mpr (by intro a _;simp),F7]
 rw [e1];rfl
theorem ND (h:Sq n e T)(hn:n<=8)(one:(vQ T n).length=1){a b i j:Nat}(hi:i<n)(hj:j<n)(n1:1<=n)(ra:RP n T a 0 i)(rb:RP n T b 0 j)(ar:ent T i j≠0){d:Nat}(hd:d∣wU T n):b%d=(a+1)%d:=by
 obtain⟨k,rk⟩:=wL h hn one hj (show 0<n by omega);have z:0<n:=by omega
 have c1:=Nat.dvd_trans hd (zM h hn _ z (jZ h hn z hj z (jZ h hn z hi hj ra ((Je h hn).mpr ar)) rk));have c2:=Nat.dvd_trans hd (zM h hn _ z (jZ h hn z hj z rb rk));obtain⟨x,hx⟩:=c1;obtain⟨y,hy⟩:=c2;rcases G1q x y with w|w
 ·have:b=a+1+d*(y-x):=by
   have:=V2 d w;rw [Nat.mul_sub];omega
  rw [this,G0t]
 ·have:a+1=b+d*(x-y):=by
   have:=V2 d w;rw [Nat.mul_sub];omega
  rw [this,G0t]
end
end L2
namespace L2
open PySem PySem.Spec PyProof.Rows
def Kh (td ty tx:TED):TED:=λσ h Q=>td σ h λx h1=> ∃a kv0,x= .dct a/\h1.dc a=some (.ik kv0)/\ty σ h1 λy h2=>tx σ h2 λz h3=> ∃k kv,y= .int k/\h3.dc a=some (.ik kv)/\kv.length<1000/\
 (∀d,vp kv k=some d->Q d h3)/\(vp kv k=none->Q z (Ba h3 a (.ik (GP kv k z))))
theorem Ki {X:Cx}{n:Nat}{o e f:Expr}{td ty tx:TED}{apos cpos:Pos}(hr:Room n X.A)(ho:JE X o td)(he:JE X e ty)(hf:JE X f tx)(m:M2 X o "setdefault" apos e f cpos:=by exact⟨rfl,rfl,rfl,rfl⟩):JE X (.Call (.Attribute o "setdefault" apos) [e,f] [] cpos) (Kh td ty tx):=⟨λpins s σ H Q I ⟨σd,h,Qd,rs,rh,t,post⟩=>by
 have hw:LE X.K td σ H λx H1=> ∃a,x= .ref a/\IsD H1 a/\LE X.K ty σ H1 λy H2=>LE X.K tx σ H2 λz H3=> ∃k kvs,y= .int k/\H3 a=some (.dK (kvV kvs))/\kvs.length<1000/\(∀v,WO (kvV kvs) (Sum.inl k)=some v->Q v H3)/\(WO (kvV kvs) (Sum.inl k)=none->Q z (upd H3 a (.dK (XR (kvV kvs) (Sum.inl k) z)))):=
  LE.bind rs rh t λd v h1 H1 k1 rs1 rh1 r1 ⟨a,kv0,e1,z1,t1⟩=>by
   subst e1;cases (show v= .ref a from r1);obtain⟨kvs0,hH0,_⟩:=(show ∃kvs:List (Int×V),_ from rh1.dc a _ z1);refine⟨a,rfl,.inl ⟨_,.inl hH0⟩,LE.bind rs1 rh1 t1 λd2 v2 h2 H2 k2 rs2 rh2 r2 t2=>LE.bind rs2 rh2 t2 λd3 v3 h3 H3 k3 rs3 rh3 r3 ⟨x,kv,e2,e,hl,q1,q2⟩=> ?_⟩;subst e2;cases (show v2= .int x from r2);obtain⟨kvs,hH,ek,rv⟩:=(show ∃kvs:List (Int×V),_ from rh3.dc a _ e);have ll:kvs.length=kv.length:=by have:=congrArg List.length ek;simpa using this.symm
   refine⟨x,kvs,rfl,hH,by omega,λu hu=> ?_,λhn=> ?_⟩
   ·cases g:vp kv x with
    |none=>rw [(vc ek rv).2 g] at hu;cases hu
    |some d=>obtain⟨u',hu',ru⟩:=(vc ek rv).1 d g;rw [hu] at hu';cases hu';exact post d u _ _ (k1.trans (k2.trans k3)) rh3 ru (q1 d g)
   ·cases g:vp kv x with
    |some d=>obtain⟨u',hu',ru⟩:=(vc ek rv).1 d g;rw [hn] at hu';cases hu'
    |none=>
     obtain⟨kvs',p1,p2,p3⟩:=NA (k:=x) ek rv r3;have ob:DObj (.dK (kvV kvs)):= .inl ⟨kvs,rfl⟩;refine post d3 v3 _ _ (k1.trans (k2.trans (k3.trans (.putD hH ob)))) (rh3.putC (c:= .ik (GP kv x d3)) hH ob ⟨kvs',?_,p2,p3.mono (.putD hH ob)⟩) (r3.mono (.putD hH ob)) (q2 g);rw [jl];exact congrArg (λz=>some (HO.dK z)) p1
 refine wpAny_Call_method m.base m.few m.line PySem.F.plainAttrs_dict Z9 PySem.F.type_dict_setdefault (thn (ho.to pins s σ H _ I hw) λu s1 ⟨x,H1,I1,rx,a,ex,d,q1⟩=> ?_);subst ex;obtain rfl:u=Value.ref a:=rx;obtain⟨t1,t2,_⟩:=Om I1 d;refine⟨t1,t2,?_⟩;rw [m.trees];refine Calls.callWith_builtin rfl (Z4 (K7 (thn (he.to pins s1 σ H1 _ I1 q1) λiv s2 ⟨y,H2,I2,ry,q2⟩=>
  K7 (thn (hf.to pins s2 σ H2 _ I2 q2) λfv s3 ⟨z,H3,I3,rz,k,kvs,ey,ea,hl,c1,c2⟩=>X2 ?_))))
 subst ey;obtain⟨zl,hd,vs,rel,dd⟩:=Ol I3.hok ea;have l2:(kvV kvs).length<sizeLine:=Nat.lt_of_lt_of_le (show (kvV kvs).length<1000 by unfold kvV;rw [List.length_map];exact hl) (by decide);refine call_meetsIn Z9 dd.typeIs PySem.F.entry_dict_setdefault (PySem.F.args_dict_setdefault_3 _ _ _) (kt_meets_setdefault (zg X.prog X.w) a (Mw (k:=Sum.inl k) ry) hd fv) ⟨vs,dd,by rw [<-rel.length];exact zl,λv hv=> ?_,λhn h' dd' hs=> ?_⟩
 ·have rv:=rel.val (Sum.inl k);rw [hv] at rv;cases g:WO (kvV kvs) (Sum.inl k) with
  |none=>rw [g] at rv;exact absurd rv (by intro z;cases z)
  |some v0=>rw [g] at rv;exact⟨v0,H3,I3.tok _,rv,c1 v0 g⟩
 ·have rv:=rel.val (Sum.inl k);rw [hn] at rv;have g:WO (kvV kvs) (Sum.inl k)=none:=by
   cases g:WO (kvV kvs) (Sum.inl k) with
   |none=>rfl
   |some v0=>rw [g] at rv;exact absurd rv (by intro z;cases z)
  have he: ∃q,h'.get? a=some q:=let ⟨q,_,_,hq,_⟩:=dd';⟨q,hq⟩;have hl':(XR (kvV kvs) (Sum.inl k) z).length<=sizeLine:=by have:=ZR (kvV kvs) (Sum.inl k) z;omega
  exact⟨z,_,Pv I3 (by rw [ea];exact True.intro) hs he (NY hl' hd (rel.put (Sum.inl k) rz) dd'),rz,c2 g⟩⟩
variable {kv:List (Int×D)}{x:Int}
theorem Qz {d:D}(h:vp kv x=some d):(x,d)∈kv:=by
 unfold vp at h;obtain⟨p,e,rfl⟩:=M6.mp h;have e0:=List.find?_some e;have e1:p.1=x:=S9 e0;rw [<-e1];exact List.mem_of_find?_eq_some e
theorem QB (h:x∈kv.map (·.1)):(vp kv x).isSome=true:=by
 obtain⟨p,hp,rfl⟩:=D8.mp h;unfold vp;rw [Option.isSome_map,List.find?_isSome];exact⟨p,hp,G9 rfl⟩
theorem NE (h:vp kv x=none):x ∉ kv.map (·.1):=λz=>by
 have:=QB z;rw [h] at this;cases this
theorem ZH {d:D}(h:vp kv x=none):GP kv x d=kv++ [(x,d)]:=by unfold GP;rw [h];rfl
theorem ZI {d:D}(h:vp kv x=none)(y:Int):y∈(GP kv x d).map (·.1)↔y∈kv.map (·.1)\/y=x:=by
 rw [ZH h,T7,P9,S1,F7,G2]
section
variable {n e:Nat}{T:List (List Int)}
theorem RL (h:Sq n e T)(hn:n<=8){p:Nat}(hp:p<n): ∀ (m j:Nat),j∈itF (wJ n T) [p] m↔j<n/\RP n T m p j
 |0,j=>by
  show j∈ [p]↔_;rw [G2];exact⟨λe=>⟨e ▸ hp,(jS hp (e ▸ hp)).mpr e.symm⟩,λ⟨hj,r⟩=>((jS hp hj).mp r).symm⟩
 |m+1,j=>by
  show j∈wJ n T (itF (wJ n T) [p] m)↔_;unfold wJ;rw [S8,P2,E4];constructor
  ·rintro ⟨hj,i,hi,r⟩;obtain⟨hi,ri⟩:=(RL h hn hp m i).mp hi;exact⟨hj,(zT h hn m 1 hp hj).mpr ⟨i,hi,ri,(Je h hn).mpr (S9 r)⟩⟩
  ·rintro ⟨hj,r⟩;obtain⟨i,hi,a,b⟩:=(zT h hn m 1 hp hj).mp r;exact⟨hj,i,(RL h hn hp m i).mpr ⟨hi,a⟩,G9 ((Je h hn).mp b)⟩
structure FI (n:Nat)(T:List (List Int))(s b:Nat)(kv:List (Int×D)):Prop where
 nd:(kv.map (·.1)).Nodup
 ok: ∀p∈kv,∃j v:Nat,p=((j:Int),.int (v:Int))/\j<n/\v<=b/\RP n T v 0 j
 all: ∀j v,j<n->v<=s->RP n T v 0 j->(j:Int)∈kv.map (·.1)
 zero:vp kv 0=some (.int 0)
theorem FI.first (n1:1<=n):FI n T 0 0 [(0,.int 0)]:=⟨by simp,λp hp=>by rw [G2.mp hp];exact⟨0,0,rfl,by omega,G8 _,(jS (by omega) (by omega)).mpr rfl⟩,λj v hj hv r=>by
 rw [show v=0 by omega] at r;rw [<- (jS (by omega) hj).mp r];simp,rfl⟩
variable {s b:Nat}{kv:List (Int×D)}
theorem FI.len (g:FI n T s b kv):kv.length<=n:=by
 have:=wT (ys:=(List.range n).map λ(i:Nat)=>(i:Int)) g.nd λx hx=>by
  obtain⟨p,hp,rfl⟩:=D8.mp hx;obtain⟨j,v,rfl,hj,_⟩:=g.ok p hp;exact D8.mpr ⟨j,P2.mpr hj,rfl⟩
 rw [G0,G0,R4] at this;exact this
theorem FI.full (g:FI n T s b kv)(hl:n<=kv.length){j:Nat}(hj:j<n):(j:Int)∈kv.map (·.1):=by
 rcases G1r ((j:Int)∈kv.map (·.1)) with z|z
 ·exact z
 ·have:=wT (ys:=((List.range n).erase j).map λ(i:Nat)=>(i:Int)) g.nd λx hx=>by
   obtain⟨p,hp,rfl⟩:=D8.mp hx;obtain⟨i,v,rfl,hi,_⟩:=g.ok p hp;exact D8.mpr ⟨i,(Z5 (λw=>by subst w;exact z hx)).mpr (P2.mpr hi),rfl⟩
  rw [G0,G0,V7 (P2.mpr hj),R4] at this;omega
theorem FI.get (g:FI n T s b kv){j:Nat}(h:(j:Int)∈kv.map (·.1)): ∃v:Nat,vp kv (j:Int)=some (.int (v:Int))/\v<=b/\RP n T v 0 j:=by
 obtain⟨d,hd⟩:=N5.mp (QB h);obtain⟨i,v,e1,hi,hv,r⟩:=g.ok _ (Qz hd);injection e1 with e1 e2
 have:j=i:=by omega
 subst this;subst e2;exact⟨v,hd,hv,r⟩
theorem FI.put (g:FI n T s b kv){j v:Nat}(h:vp kv (j:Int)=none)(hj:j<n)(hv:v<=b)(r:RP n T v 0 j):FI n T s b (GP kv (j:Int) (.int (v:Int))):=by
 refine⟨?_,λp hp=> ?_,λi w hi hw rw_=>(ZI h _).mpr (.inl (g.all i w hi hw rw_)),?_⟩
 ·rw [ZH h,T7,U3];refine⟨g.nd,by simp,λa ha c hc e1=> ?_⟩;have:c=(j:Int):=by simpa using hc
  subst this;subst e1;exact NE h ha
 ·rw [ZH h] at hp;rcases P9.mp hp with z|z
  ·exact g.ok p z
  ·rw [G2.mp z];exact⟨j,v,rfl,hj,hv,r⟩
 ·have:=g.zero;rw [ZH h];unfold vp at this ⊢;rw [List.find?_append];cases q:kv.find? λp=>decide (p.1=0) with
  |none=>rw [q] at this;cases this
  |some p=>rw [q] at this;exact this
theorem FI.grow (h:Sq n e T)(hn:n<=8)(n1:1<=n)(one:(vQ T n).length=1){s:Nat}{kv:List (Int×D)}(g:FI n T s s kv)(hl:kv.length<n): ∃v,v<n/\RP n T (s+1) 0 v/\(v:Int) ∉ kv.map (·.1):=by
 obtain⟨j,hj,jn⟩: ∃j,j<n/\(j:Int) ∉ kv.map (·.1):=by
  rcases G1r (∃j,j<n/\(j:Int) ∉ kv.map (·.1)) with z|z
  ·exact z
  ·have:=wT (xs:=(List.range n).map λ(i:Nat)=>(i:Int)) (ys:=kv.map (·.1)) (C6.mpr ((List.nodup_range (n:=n)).imp λ{a b} ne w=>ne (by omega))) λx hx=>by
    obtain⟨i,hi,rfl⟩:=D8.mp hx;exact I0 λw=>z ⟨i,P2.mp hi,w⟩
   rw [G0,R4,G0] at this;omega
 have key: ∀k j,j<n->(j:Int) ∉ kv.map (·.1)->RP n T k 0 j-> ∃v,v<n/\RP n T (s+1) 0 v/\(v:Int) ∉ kv.map (·.1):=λk=>by
  induction k with
  |zero=>exact λj hj jn r=>absurd (g.all j 0 hj (T2 _) r) jn
  |succ k ih=>
   intro j hj jn r;obtain⟨u,hu,a,b⟩:=(zT h hn k 1 (by omega) hj).mp r;rcases G1r ((u:Int)∈kv.map (·.1)) with z|z
   ·obtain⟨v,_,hv,rv⟩:=g.get z;have r2:=jZ h hn (by omega) hu hj rv b;rcases C7 v s with y|y
    ·exact absurd (g.all j (v+1) hj (by omega) r2) jn
    ·exact⟨j,hj,by rw [show s+1=v+1 by omega];exact r2,jn⟩
   ·exact ih u hu z a
 obtain⟨k,r⟩:=wL h hn one (show 0<n by omega) hj;exact key k j hj jn r
end
theorem FN {n i:Nat}(hi:i<n):IsS n [i]:=by
 refine⟨λj=>decide (j=i),?_⟩
 induction n with
 |zero=>omega
 |succ n ih=>
  rw [A6,B6]
  by_cases z:i<n
  ·rw [<-ih z];have: ¬n=i:=by omega
   simp [this]
  ·have e:i=n:=by omega
   subst e;have:(List.range i).filter (λj=>decide (j=i))= []:=G0R.mpr λj hj=>by have:=P2.mp hj;simp;omega
   rw [this];simp
end L2
set_option maxRecDepth 35000
namespace L2
section
variable {n e:Nat}{T:List (List Int)}
def Df (n:Nat)(T:List (List Int))(x d:Nat):Prop:= ∃q,RP n T q x x/\RP n T (q+d) x x
theorem Bs (h:Sq n e T)(hn:n<=8){x a b:Nat}(hx:x<n)(da:Df n T x a)(db:Df n T x b)(l:b<=a):Df n T x (a-b):=by
 obtain⟨q,a1,a2⟩:=da;obtain⟨r,b1,b2⟩:=db;refine⟨q+(r+b),jZ h hn hx hx hx a1 b2,?_⟩;rw [show q+(r+b)+(a-b)=q+a+r by omega];exact jZ h hn hx hx hx a2 b1
theorem RM (h:Sq n e T)(hn:n<=8){x:Nat}(hx:x<n): ∀ (m:Nat) {a b:Nat},a+b<=m->Df n T x a->Df n T x b->Df n T x (Nat.gcd a b)
 |0,a,b,l,da,db=>by
  have:a=0:=by omega
  subst this;rw [Nat.gcd_zero_left];exact db
 |m+1,a,b,l,da,db=>by
  rcases Q4 a with z|pa
  ·subst z;rw [Nat.gcd_zero_left];exact db
  rcases Q4 b with z|pb
  ·subst z;rw [Nat.gcd_zero_right];exact da
  rcases G1q b a with c|c
  ·have:=RM h hn hx m (a:=a-b) (b:=b) (by omega) (Bs h hn hx da db c) db
   rwa [Nat.gcd_sub_self_left c] at this
  ·have:=RM h hn hx m (a:=a) (b:=b-a) (by omega) da (Bs h hn hx db da c)
   rwa [Nat.gcd_sub_self_right c] at this
theorem RN (h:Sq n e T)(hn:n<=8){x:Nat}(hx:x<n): ∀ (L:List Nat) (g:Nat),Df n T x g->(∀l∈L,Df n T x l)->Df n T x (L.foldl Nat.gcd g)
 | [],_,dg,_=>dg
 |l::L,g,dg,dl=>RN h hn hx L (Nat.gcd g l) (RM h hn hx _ (G8 _) dg (dl l D7)) λk hk=>dl k (R1 _ hk)
theorem FO (h:Sq n e T)(hn:n<=8)(one:(vQ T n).length=1){x:Nat}(hx:x<n):Df n T x (wU T n):=by
 have z0:RP n T 0 x x:=(jS hx hx).mpr rfl;refine RN h hn hx _ 0 ⟨0,z0,z0⟩ λl hl=> ?_
 obtain⟨w,hw,rfl⟩:=D8.mp hl;obtain⟨w1,_,wl,_⟩:=Qy h hn hw;have hm:w.getD 0 0∈w:=by
  cases w with
  |nil=>simp at w1
  |cons a r=>exact D7
 have hy:w.getD 0 0<n:=by have:=wl 0;rwa [G0V] at this
 obtain⟨a,ra⟩:=wL h hn one hx hy;obtain⟨b,rb⟩:=wL h hn one hy hx;refine⟨a+b,jZ h hn hx hy hx ra rb,?_⟩;rw [show a+b+w.length=a+w.length+b by omega];exact jZ h hn hx hy hx (jZ h hn hx hy hy ra (NB h hn hw hm)) rb
theorem NF (h:Sq n e T)(hn:n<=8)(one:(vQ T n).length=1){x:Nat}(hx:x<n): ∃B,∀m,B<=m->wU T n∣m->RP n T m x x:=by
 obtain⟨q,r1,r2⟩:=FO h hn one hx;obtain⟨c,hc⟩:=zM h hn q hx r1;refine⟨wU T n*(c*c),λm hm ⟨t,ht⟩=> ?_⟩;rcases Q4 (wU T n) with z|d0
 ·rw [z,G1o] at ht;rw [ht];exact(jS hx hx).mpr rfl
 have tc:c*c<=t:=Nat.le_of_mul_le_mul_left (by rw [<-ht];exact hm) d0;rcases Q4 c with z|c0
 ·rw [z,G1m] at hc;subst hc;rw [E8] at r2;rw [ht];exact Xh h hn hx r2 t
 have e1:=W9 t c;have e2:=U4 t c0;have e3:c<=t / c:=(Nat.le_div_iff_mul_le c0).mpr tc;have:m=q*(t / c-t%c)+(q+wU T n)*(t%c):=by
  rw [Nat.add_mul];have:q*(t / c-t%c)+q*(t%c)=q*(t / c):=by rw [<-G0f];congr 1;omega
  rw [<-U2,this,ht,hc,Nat.mul_assoc,<-G0f,e1]
 rw [this];exact jZ h hn hx hx hx (Xh h hn hx r1 _) (Xh h hn hx r2 _)
theorem JP {P:Nat->Nat->Prop}(up: ∀i a b,a<=b->P i a->P i b): ∀n,(∀i,i<n-> ∃B,P i B)-> ∃B,∀i,i<n->P i B
 |0,_=>⟨0,λi hi=>by omega⟩
 |n+1,g=>by
  obtain⟨B,hB⟩:=JP up n λi hi=>g i (by omega)
  obtain⟨C,hC⟩:=g n (by omega);refine⟨B+C,λi hi=> ?_⟩;rcases C7 i n with c|c
  ·exact up i B _ (by omega) (hB i c)
  ·have:i=n:=by omega
   subst this;exact up i C _ (by omega) hC
theorem FP {a l b d:Nat}(h1:d∣a+b)(h2:d∣l+b):a%d=l%d:=by
 have key: ∀a l:Nat,a<=l->d∣a+b->d∣l+b->a%d=l%d:=λa l c h1 h2=>by
  obtain⟨t,rfl⟩:=Nat.exists_eq_add_of_le c;have:d∣t:=(G0A h1).mp (by rw [show a+b+t=a+t+b by omega];exact h2);rw [G1t,Nat.mod_eq_zero_of_dvd this,V8,Nat.mod_mod]
 rcases G1q a l with c|c
 ·exact key a l c h1 h2
 ·exact(key l a c h2 h1).symm
theorem NG (h:Sq n e T)(hn:n<=8)(one:(vQ T n).length=1): ∃B,∀i,i<n-> ∀j,j<n-> ∀k l,B<=k->RP n T l i j->l%wU T n=k%wU T n->RP n T k i j:=by
 refine JP (P:=λi B=> ∀j,j<n-> ∀k l,B<=k->RP n T l i j->l%wU T n=k%wU T n->RP n T k i j) (λi a b ab g j hj k l hk=>g j hj k l (by omega)) n λi hi=> ?_
 refine JP (P:=λj B=> ∀k l,B<=k->RP n T l i j->l%wU T n=k%wU T n->RP n T k i j) (λj a b ab g k l hk=>g k l (by omega)) n λj hj=> ?_
 obtain⟨B,hB⟩:=NF h hn one hi;obtain⟨a,ra⟩:=wL h hn one hi hj;obtain⟨b,rb⟩:=wL h hn one hj hi;refine⟨B+a,λk l hk rl el=> ?_⟩;have d1:=zM h hn _ hi (jZ h hn hi hj hi rl rb);have d2:=zM h hn _ hi (jZ h hn hi hj hi ra rb);have ea:a%wU T n=k%wU T n:=by
  rw [<-el];exact FP d2 d1
 have:=jZ h hn hi hi hj (hB (k-a) (by omega) ((Nat.dvd_iff_mod_eq_zero ..).mpr (Nat.sub_mod_eq_zero_of_mod_eq ea.symm))) ra
 rwa [show k-a+a=k by omega] at this
theorem Xn (h:Sq n e T)(hn:n<=8)(one:(vQ T n).length=1)(d1:wU T n=1): ∃B,∀k,B<=k-> ∀i j,i<n->j<n->RP n T k i j:=by
 obtain⟨B,hB⟩:=NG h hn one;refine⟨B,λk hk i j hi hj=> ?_⟩;obtain⟨l,r⟩:=wL h hn one hi hj;exact hB i hi j hj k l hk r (by rw [d1,Nat.mod_one,Nat.mod_one])
theorem Xo (h:Sq n e T)(hn:n<=8)(n1:1<=n){K:Nat}(all: ∀m,K<=m-> ∀i j,i<n->j<n->RP n T m i j):(vQ T n).length=1/\wU T n=1:=by
 refine⟨RK h hn n1 λi j hi hj=>⟨K,all K (G8 _) i j hi hj⟩,?_⟩;have a:=zM h hn _ (show 0<n by omega) (all K (G8 _) 0 0 (by omega) (by omega));have b:=zM h hn _ (show 0<n by omega) (all (K+1) (by omega) 0 0 (by omega) (by omega));exact Nat.dvd_one.mp ((G0A a).mp b)
end
end L2
namespace L2
open PySem PySem.Spec PyProof.Rows
section
variable {X:Cx}{k i:Nat}{ps N Pn:List Str}{spd:RDn}{x:Str}{p pos pos':Pos}{e e2 e3 e4 iter elt:Expr}{es ifs:List Expr}{t:TAD}{te te2 te3 te4:TED}{ti:TID}{tt:TTD}{scope sc:Scope}{c:Expr}
theorem jk (C:jq X.prog X.w X.K X.mg X.base k x ps spd)(hr:Room k X.A)(ha:JA X (e::es) t)(hg:Gl X x:=by rfl)(hdb:(x==("__debug__" :Str))=false:=by decide)(he:starEach (e::es) X.env=(false,eval e X.env)::starEach es X.env:=by rfl)(hpl:(backTo pos (starEach es X.env)).any (·.1)=false:=by rfl):JE X (.Call (.Name x p) (e::es) [] pos) (dCB spd t):=by
 obtain⟨g,gd,F,hb,hk,hm⟩:=C;exact SR F hr hg hm hk hb ha hdb he hpl
theorem jxk {spr:RDx}(C:Wh X.prog X.w X.K X.mg X.base k x ps spr)(hr:Room k X.A)(ha:JA X (e::es) t)(hg:Gl X x:=by rfl)(hdb:(x==("__debug__" :Str))=false:=by decide)(he:starEach (e::es) X.env=(false,eval e X.env)::starEach es X.env:=by rfl)(hpl:(backTo pos (starEach es X.env)).any (·.1)=false:=by rfl):JXE X (.Call (.Name x p) (e::es) [] pos) (Au spr t):=by
 obtain⟨g,gd,F,hb,hk,hm⟩:=C;exact Fk F hr hg hm hk hb ha hdb he hpl
theorem j1 (a:JE X e te)(h:zh e=true:=by rfl):JA X [e] (jY te Zo):=jac a zS h
theorem j2 (a:JE X e te)(b:JE X e2 te2)(h:zh e=true:=by rfl)(h2:zh e2=true:=by rfl):JA X [e,e2] (jY te (jY te2 Zo)):=jac a (j1 b h2) h
theorem j3 (a:JE X e te)(b:JE X e2 te2)(c:JE X e3 te3)(h:zh e=true:=by rfl)(h2:zh e2=true:=by rfl)(h3:zh e3=true:=by rfl):JA X [e,e2,e3] (jY te (jY te2 (jY te3 Zo))):=jac a (j2 b c h2 h3) h
theorem j4 (a:JE X e te)(b:JE X e2 te2)(c:JE X e3 te3)(d:JE X e4 te4)(h:zh e=true:=by rfl)(h2:zh e2=true:=by rfl)(h3:zh e3=true:=by rfl)(h4:zh e4=true:=by rfl):JA X [e,e2,e3,e4] (jY te (jY te2 (jY te3 (jY te4 Zo)))):=jac a (j3 b c d h2 h3 h4) h
theorem ZJ (Z:Zs X.mg)(a:JE X e te)(hg:Gl X "len" :=by rfl)(h:zh e=true:=by rfl)(he:starEach [e] X.env=(false,eval e X.env)::starEach [] X.env:=by rfl)(hpl:(backTo pos (starEach [] X.env)).any (·.1)=false:=by rfl):JE X (.Call (.Name "len" p) [e] [] pos) (dCB Lh (jY te Zo)):=zE OU hg Z.len PySem.boot_len (j1 a h) (by decide) (by decide) he hpl
theorem jse (i:Nat)(S:FnScope X.N Pn sc)(he:JE X e te)(hi:X.N[i]? =some x:=by rfl)(hx:Loc X.env.scope x:=by first|exact Or.inl rfl|exact Or.inr rfl)(hs:swapsWith e (some (.Name x pos')) pos.line X.env=pure false:=by rfl)(hf:X.fn x=true\/X.env.scope.names.lookup x=some .local:=by first|exact .inl rfl|exact .inr rfl|assumption):JS X (.Assign [.Name x pos'] e pos) (MC i te):=TV S.nd hi hx he hs hf
theorem jgn (i:Nat)(S:FnScope X.N Pn sc)(hi:X.N[i]? =some x:=by rfl)(hx:Loc X.env.scope x:=by first|exact Or.inl rfl|exact Or.inr rfl)(hf:X.fn x=true\/X.env.scope.names.lookup x=some .local:=by first|exact .inl rfl|exact .inr rfl|assumption):JG X (.Name x pos) (gN i):=CH S.nd hi hx hf
theorem jl1 (i:Nat)(S:FnScope X.N Pn sc)(hi:JI X (.Name x p) iter ti)(ht: ∀C s₀ H₀ ex,JT (vA X scope C s₀ H₀ ex) c tt)(he: ∀C s₀ H₀ ex,JE (vA X scope C s₀ H₀ ex) elt te)(hc:X.calm=true:=by rfl)(hB:XW X.N X.env.scope.names scope [i]=true:=by rfl)(hx:X.N[i]? =some x:=by rfl)(hl:scope.names.lookup x=some .local\/scope.names.lookup x=some .cell:=by first|exact Or.inl rfl|exact Or.inr rfl)(hs: ∀x,foldedSetIterable iter X.env x=pure x:=by intro _;rfl):JE X (.ListComp elt [⟨.Name x p,iter,[c],0⟩] scope pos) (yD (bN i) [i] ti tt te):=
 jlc hc (wf hB) hi (G2.mpr rfl) S.nd hx hl (λX' hX=>by obtain⟨C,s₀,H₀,ex,rfl⟩:=hX;exact UZ (ht C s₀ H₀ ex)) (λX' hX=>by obtain⟨C,s₀,H₀,ex,rfl⟩:=hX;exact he C s₀ H₀ ex) hs
theorem jl0 (i:Nat)(S:FnScope X.N Pn sc)(hi:JI X (.Name x p) iter ti)(he: ∀C s₀ H₀ ex,JE (vA X scope C s₀ H₀ ex) elt te)(hc:X.calm=true:=by rfl)(hB:XW X.N X.env.scope.names scope [i]=true:=by rfl)(hx:X.N[i]? =some x:=by rfl)(hl:scope.names.lookup x=some .local\/scope.names.lookup x=some .cell:=by first|exact Or.inl rfl|exact Or.inr rfl)(hs: ∀x,foldedSetIterable iter X.env x=pure x:=by intro _;rfl):JE X (.ListComp elt [⟨.Name x p,iter,[],0⟩] scope pos) (yD (bN i) [i] ti WK te):=
 jlc hc (wf hB) hi (G2.mpr rfl) S.nd hx hl (λX' hX=>YR) (λX' hX=>by obtain⟨C,s₀,H₀,ex,rfl⟩:=hX;exact he C s₀ H₀ ex) hs
theorem fsc {N P:List Str}(a:sc.kind= .function:=by rfl)(b:sc.isCoroutine=false:=by rfl)(c:sc.isGenerator=false:=by rfl)(d:N.Nodup:=by decide +kernel)(e:N.take P.length=P:=by rfl)(f: ∀x∈P,sc.names.lookup x=some .local\/sc.names.lookup x=some .cell:=by decide +kernel)(g: ∀y∈sc.names,y.2≠ .free:=by decide +kernel):FnScope N P sc:=⟨a,b,c,d,e,f,g⟩
theorem jc1 {op:CmpOp}{f:RD2}(ho:OpQ X (compareOp op) f)(ha:JE X e te)(hb:JE X e2 te2)(hm:behindInMarks op e2=false:=by exact Pf _):JE X (.Compare e [op] [e2] pos) (dOp f te te2):=SO ho ha hb hm
theorem jt1 {op:CmpOp}{f:RD2}(ho:OpQ X (compareOp op) f)(ha:JE X e te)(hb:JE X e2 te2)(hm:behindInMarks op e2=false:=by exact Pf _):JT X (.Compare e [op] [e2] pos) (Zp (dOp f te te2)):=Gc ho ha hb hm
theorem ji1 (ha:JE X e te)(hb:JE X e2 te2)(hs:YB e2:=by exact λ_ _=>rfl):JE X (.Subscript e e2 pos) (dOp ixD te te2):=jix ha hb hs
theorem jrg {tg:Expr}(Z:Zs X.mg)(ha:JE X e te)(hg:Gl X "range" :=by rfl)(h:zh e=true:=by rfl)(hs:starEach [e] X.env= [(false,eval e X.env)]:=by rfl):JI X tg (.Call (.Name "range" p) [e] [] pos) (iR1 (jY te Zo)):=SQ hg Z.range (j1 ha h) hs
end
section
variable {P:Program}{w:World}{K:PySem.W.Frag}{mg:Str->Option Value}{base:Heap}{x qual:Str}{st:Stmt}{f:Addr}{fd:FuncData}{N ps:List Str}{k:Nat}
theorem Fun.okM {spd:RDn}(F:Fun K x qual st f fd)(S:FnScope N ps (jc st)){tb:TSD}(hbody: ∀ {cdv:Value} {A:Around} {outer:List Env} {s:Shared} {H:Hp} {E:XK},Room k (A.deeper (envOfC qual (jc st) s.heap.objs.size f cdv))->JSs (WL CX0 P w K mg base N qual (jc st) f cdv A outer s H E).nox (jL st) tb)
 (read: ∀ds h Q,spd ds h Q->ds.length=ps.length/\tb (VM Q) (jQ N ds) h):FnOk P w K mg base CX0 (k+1) f fd ps (LSp K spd):=F.okJ S (λds h Q q=>(read ds h Q q).1) tb (λ_ _ _ _ _ _ hr=>hbody hr) λds h Q q=>(read ds h Q q).2
theorem Fun.okMX {spr:RDx}(F:Fun K x qual st f fd)(S:FnScope N ps (jc st)){tb:TXD}(hbody: ∀ {cdv:Value} {A:Around} {outer:List Env} {s:Shared} {H:Hp} {E:XK},Room k (A.deeper (envOfC qual (jc st) s.heap.objs.size f cdv))->JX (WL (CXR P w) P w K mg base N qual (jc st) f cdv A outer s H E) (jL st) tb)
 (read: ∀ds h R,spr ds h R->ds.length=ps.length/\tb (jQ N ds) h R):FnOk P w K mg base (CXR P w) (k+1) f fd ps (MX mg K spr):=F.okX S (λds h Q q=>(read ds h Q q).1) tb (λ_ _ _ _ _ _ hr=>hbody hr) λds h Q q=>(read ds h Q q).2
end
theorem sz3:3<=sizeLine:=by decide
end L2
namespace My
open PySem L2
def top (i:Nat):Stmt:=PySem.Challenge.pw_firstpowers_k35_why_never.main.body.getD i (.Pass ⟨0,0,0,0⟩)
abbrev JQ:Stmt:=top 17
theorem Xp:FnScope ["thing"] ["thing"] (jc JQ):=fsc
abbrev wM:Stmt:=top 18
theorem yG:FnScope ["thing","size","number"] ["thing","size"] (jc wM):=fsc
abbrev zP:Stmt:=top 19
theorem wV:FnScope ["thing","row"] ["thing"] (jc zP):=fsc
abbrev wB:Stmt:=top 20
theorem Jk:FnScope ["thing"] ["thing"] (jc wB):=fsc
abbrev Wv:Stmt:=top 22
theorem zI:FnScope ["table","size","come","by","one","other"] ["table"] (jc Wv):=fsc
abbrev vF:Stmt:=top 23
theorem zo:FnScope ["come","size","told","place","piece","other"] ["come"] (jc vF):=fsc
abbrev Vd:Stmt:=top 24
theorem RO:FnScope ["table"] ["table"] (jc Vd):=fsc
abbrev Ve:Stmt:=top 25
theorem RQ:FnScope ["table"] ["table"] (jc Ve):=fsc
abbrev Xq:Stmt:=top 27
theorem QK:FnScope ["table","place","head","number"] ["table","place"] (jc Xq):=fsc
abbrev wr:Stmt:=top 29
theorem yt:FnScope ["one","other"] ["one","other"] (jc wr):=fsc
abbrev yH:Stmt:=top 30
theorem jW:FnScope ["table","told","paths","place","path","head"] ["table"] (jc yH):=fsc
abbrev RR:Stmt:=top 31
theorem Vf:FnScope ["table","told","each"] ["table"] (jc RR):=fsc
abbrev yI:Stmt:=top 33
theorem ya:FnScope ["table","some","head","place"] ["table","some"] (jc yI):=fsc
abbrev wN:Stmt:=top 35
theorem yJ:FnScope ["table","some","head"] ["table","some"] (jc wN):=fsc
abbrev JR:Stmt:=top 36
theorem wt:FnScope ["size","told","place","some"] ["size"] (jc JR):=fsc
abbrev yb:Stmt:=top 37
theorem yK:FnScope ["table","some"] ["table"] (jc yb):=fsc
abbrev zu:Stmt:=top 39
theorem jp:FnScope ["table","fewest","some","steps","place"] ["table"] (jc zu):=fsc
abbrev JU:Stmt:=top 40
theorem vG:FnScope ["table","d","steps"] ["table"] (jc JU):=fsc
abbrev yc:Stmt:=top 42
theorem wC:FnScope ["table","some","d"] ["table"] (jc yc):=fsc
abbrev vH:Stmt:=top 44
theorem Ui:FnScope ["_law_script","_law_k"] ["_law_script","_law_k"] (jc vH):=fsc
abbrev JV:Stmt:=top 45
theorem Ww:FnScope ["_law_cell_here","_law_left"] ["_law_cell_here"] (jc JV):=fsc
abbrev vI:Stmt:=top 46
theorem wF:FnScope ["_law_pen_here","_law_many","_law_left","_law_found","_law_stir"] ["_law_pen_here","_law_many"] (jc vI):=fsc
abbrev yL:Stmt:=top 47
theorem Vg:FnScope ["_law_thing"] ["_law_thing"] (jc yL):=fsc
abbrev vJ:Stmt:=top 48
theorem zp:FnScope ["_law_e","_law_seen","_law_words"] ["_law_e"] (jc vJ):=fsc
abbrev vK:Stmt:=top 49
theorem Zn:FnScope ["_law_call","_law_found","_law_e","_law_word"] ["_law_call"] (jc vK):=fsc
abbrev vL:Stmt:=top 50
theorem Uj:FnScope ["_law_pen_here"] ["_law_pen_here"] (jc vL):=fsc
abbrev yM:Stmt:=top 51
theorem ju:FnScope ["_law_pen_here","_law_size_here","_law_way","_law_often","_law_most","_law_rows","_law_one","_law_row","_law_other","_law_goes"] ["_law_pen_here","_law_size_here"] (jc yM):=fsc
abbrev yN:Stmt:=top 52
theorem jV:FnScope ["_law_one","_law_other","_law_size_here","_law_rows","_law_row","_law_place","_law_k"] ["_law_one","_law_other"] (jc yN):=fsc
abbrev ye:Stmt:=top 53
theorem wO:FnScope ["_law_table_here","_law_row","_law_number"] ["_law_table_here"] (jc ye):=fsc
abbrev yf:Stmt:=top 54
theorem vq:FnScope ["_law_table_here","_law_row"] ["_law_table_here"] (jc yf):=fsc
abbrev yO:Stmt:=top 55
theorem zw:FnScope ["_law_table_here","_law_here","_law_found","_law_k"] ["_law_table_here"] (jc yO):=fsc
abbrev yP:Stmt:=top 56
theorem zY:FnScope ["_law_table_here","_law_some","_law_size_here","_law_place","_law_one"] ["_law_table_here","_law_some"] (jc yP):=fsc
abbrev vM:Stmt:=top 57
theorem zN:FnScope ["_law_many","_law_found","_law_place","_law_some"] ["_law_many"] (jc vM):=fsc
abbrev wu:Stmt:=top 58
theorem yl:FnScope ["_law_pen_here","_law_some"] ["_law_pen_here"] (jc wu):=fsc
abbrev yQ:Stmt:=top 59
theorem zA:FnScope ["_law_table_here","_law_thing","_law_d","_law_rests","_law_one","_law_row","_law_other","_law_number","_law_rest"] ["_law_table_here","_law_thing"] (jc yQ):=fsc
abbrev wv:Stmt:=top 60
theorem ym:FnScope ["_law_thing","_law_one"] ["_law_thing"] (jc wv):=fsc
abbrev yR:Stmt:=top 61
theorem yg:FnScope ["_law_table_here","_law_thing","_law_size_here","_law_place"] ["_law_table_here","_law_thing"] (jc yR):=fsc
abbrev yS:Stmt:=top 62
theorem zZ:FnScope ["_law_table_here","_law_due","_law_turn","_law_found"] ["_law_table_here"] (jc yS):=fsc
abbrev Xr:Stmt:=top 63
theorem Wx:FnScope ["_law_script","_law_table_here","_law_cell_here","_law_pen_here","_law_size_here","_law_turn","_law_none"] ["_law_script"] (jc Xr):=fsc
section
variable {P:Program}{w:World}{K:PySem.W.Frag}{mg:Str->Option Value}{base:Heap}
/-- no def is asked of the script's list: a thing -/
def RS:D->Bool
 | .int _=>true
 |_=>false
/-- a row of so many numbers from 0 on -/
def EB:D->Bool
 | .int i=>decide (0<=i)
 |_=>false
def Bv (d:D)(k:Int):Bool:=match d with
 | .tup ds=>decide ((ds.length:Int)=k)&&ds.all EB
 |_=>false
/-! every part has a kind that is told,and no tuple is long -/
mutual
def okD:D->Bool
 | .scr _=>false| .exc _=>false| .fn _=>false| .dct _=>false
 | .tup ds=>decide (ds.length<=1000)&&okDs ds
 |_=>true
def okDs:List D->Bool
 | []=>true
 |d::ds=>okD d&&okDs ds
end
theorem Vh: ∀ {ds:List D},okDs ds=true-> ∀d∈ds,okD d=true
 |d::ds,h,x,hx=>by
  have h':(okD d&&okDs ds)=true:=h;rw [S5] at h';rcases D0.mp hx with e|e
  ·subst e;exact h'.1
  ·exact Vh h'.2 x e
theorem RU: ∀ {ds:List D},(∀d∈ds,okD d=true)->okDs ds=true
 | [],_=>rfl
 |d::ds,h=>by
  show (okD d&&okDs ds)=true;rw [h d D7,RU λx hx=>h x (R1 _ hx)];rfl
theorem Vi {ds:List D}(h:okD (.tup ds)=true):ds.length<=1000/\ ∀d∈ds,okD d=true:=by
 have h':(decide (ds.length<=1000)&&okDs ds)=true:=h;rw [S5] at h';exact⟨S9 h'.1,Vh h'.2⟩
theorem QC {ds:List D}(h:ds.length<=1000)(h2: ∀d∈ds,okD d=true):okD (.tup ds)=true:=by
 show (decide (ds.length<=1000)&&okDs ds)=true;rw [G9 h,RU h2];rfl
theorem yh {d:D}(h:okD d=true): ∃n,VN d=some n:=by
 cases d<;>first|exact⟨_,rfl⟩|cases h
/-- a table -/
def RV:D->Bool
 | .tup rs=>decide (1<=rs.length)&&decide (rs.length<=6)&&rs.all λr=>Bv r rs.length
 |_=>false
def ww:RDn:=λds h Q=> ∃d n,ds= [d]/\VN d=some n/\Q (.bl (RS d)) h
variable {n:Nat}{f:Addr}{fd:FuncData}
theorem Xs (Z:Zs mg)(F:Fun K "is_whole" "is_whole" JQ f fd):FnOk P w K mg base CX0 (n+1) f fd ["thing"] (LSp K ww):=by
 refine F.okM Xp (λhr=>(jf (zB (Mh (YS (T:= "int") (by decide) rfl Z.isinstance rfl Z.int (by decide +kernel) (jv 0)) (GN (TU (YS (T:= "bool") (by decide) rfl Z.isinstance rfl Z.bool (by decide +kernel) (jv 0)))))))) ?_;rintro ds h Q ⟨d,nm,rfl,hn,q⟩;refine⟨rfl,?_⟩;simp only [QZ,PF,dIs,GL,jQ,S1,F7,D3,R8,B3,M1,N7,O0,D.bl.injEq,PH,VM,A7,hn];cases d<;>cases hn<;>exact⟨h,Sub.refl h,q⟩
def yT:RDn:=λds h Q=> ∃d k,ds= [d,.int k]/\okD d=true/\Q (.bl (Bv d k)) h
theorem Wy (Z:Zs mg)(F:Fun K "is_table_row" "is_table_row" wM f fd)(GD:jq P w K mg base n "is_whole" ["thing"] ww):FnOk P w K mg base CX0 (n+1) f fd ["thing","size"] (LSp K yT):=by
 refine F.okM yG (λhr=>(je (vY (jpt (GM (yE (wy (YS (T:= "tuple") (by decide) rfl Z.isinstance rfl Z.tuple (by decide +kernel) (jv 0)))) (Bh (jt1 oq_ne (ZJ Z (jv 0)) (jv 1))))) (jf (zB jbl)) jG) (by exact(jf (zB (zE (Yl rfl) rfl Z.all O3 (j1 (jl0 2 yG (jX (jv 0)) (λ_ _ _ _=>(Mh (jk GD hr (j1 (jv 2))) (GN (jc1 ME (jv 2) jm)))))))))))) ?_;rintro ds h Q ⟨d,k,rfl,ok,q⟩;refine⟨rfl,?_⟩;obtain⟨nm,hn⟩:=yh ok;simp only [PK,Ld,Oq,PD,Zp,dIs,GL,jQ,S1,F7,D3,R8,List.replicate,B3,M1,N7,O0,D.bl.injEq,QZ,dC,VM,QY,dCB,jY,Zo,dOp,Lh,K3,neD,A7,hn];cases d with
 |tup es=>
  cases hn;obtain⟨hl,ht⟩:=Vi ok;simp only [OW]
  by_cases hk:(es.length:Int)=k
  ·simp only [hk];simp;refine PZ (ds:=es) (h1:=h) (j:=λ_=>some es) (λx=> .bl (EB x)) (D5 (jx hl)) rfl (λR r=>⟨.tup es,rfl,r⟩) (λd hd Q' q'=> ?_) (λp hp=> ?_)
   ·obtain⟨nn,hnn⟩:=yh (ht d hd);refine⟨d,rfl,d,nn,rfl,hnn,RS d,rfl,?_⟩;cases d with
    |int i=>exact vS ⟨.int i,rfl,q'⟩
    |_=>exact wc q'
   ·refine⟨p,es.map EB,rfl,by rw [jd];simp,h,?_,?_⟩
    ·rw [zK hp];exact Sub.refl h
    ·simpa [Bv,hk,A1,X6] using q
  ·simp [hk];exact⟨h,Sub.refl h,by simpa [Bv,hk] using q⟩
 |_=>cases hn<;>exact⟨h,Sub.refl h,q⟩
def zH:RDn:=λds h Q=> ∃d,ds= [d]/\okD d=true/\Q (.bl (RV d)) h
theorem JY (Z:Zs mg)(F:Fun K "has_table_form" "has_table_form" zP f fd)(WW:jq P w K mg base n "is_table_row" ["thing","size"] yT)(vO: ∃tk,mg "MOST_ROWS" =some (.int 6 tk)):FnOk P w K mg base CX0 (n+1) f fd ["thing"] (LSp K zH):=by
 obtain⟨tk_MOST_ROWS,m_MOST_ROWS⟩:=vO;refine F.okM wV (λhr=>(je (vY (jpt (GM (yE (wy (YS (T:= "tuple") (by decide) rfl Z.isinstance rfl Z.tuple (by decide +kernel) (jv 0)))) (Bh (yE (UY PQ PQ jm (ZJ Z (jv 0)) (SN rfl m_MOST_ROWS)))))) (jf (zB jbl)) jG) (by exact(jf (zB (zE (Yl rfl) rfl Z.all O3 (j1 (jl0 1 wV (jX (jv 0)) (λ_ _ _ _=>(jk WW hr (j2 (jv 1) (ZJ Z (jv 0))))))))))))) ?_;rintro ds h Q ⟨d,rfl,ok,q⟩;refine⟨rfl,?_⟩;obtain⟨nm,hn⟩:=yh ok;simp only [PK,Ld,Oq,PD,Zp,dIs,GL,jQ,S1,F7,D3,R8,List.replicate,B3,M1,N7,O0,D.bl.injEq,QZ,dC,VM,QY,dCB,jY,Zo,ZX,Lh,Bc,A7,hn];cases d with
 |tup es=>
  cases hn;obtain⟨hl,ht⟩:=Vi ok;simp only [OW]
  by_cases h1:1<=es.length
  ·by_cases h6:es.length<=6
   ·have h1':(1:Int)<=es.length:=by omega
    have h6':(es.length:Int)<=6:=by omega
    simp [h1',h6'];refine PZ (ds:=es) (h1:=h) (j:=λ_=>some es) (λx=> .bl (Bv x es.length)) (D5 (jx hl)) rfl (λR r=>⟨.tup es,rfl,r⟩) (λd hd Q' q'=> ?_) (λp hp=> ?_)
    ·exact⟨d,rfl,.tup es,rfl,d,es.length,rfl,ht d hd,q'⟩
    ·refine⟨p,es.map λx=>Bv x es.length,rfl,by rw [jd];simp,h,?_,?_⟩
     ·rw [zK hp];exact Sub.refl h
     ·simpa [RV,h1,h6,A1,X6] using q
   ·have h1':(1:Int)<=es.length:=by omega
    have h6': ¬ (es.length:Int)<=6:=by omega
    simp [h1',h6'];exact⟨h,Sub.refl h,by simpa [RV,h1,h6] using q⟩
  ·have h1': ¬ (1:Int)<=es.length:=by omega
   simp [h1'];exact⟨h,Sub.refl h,by simpa [RV,h1] using q⟩
 |_=>cases hn<;>exact⟨h,Sub.refl h,q⟩
theorem FQ {x:Int}(h:0<=x):EB (.int x)=true:=G9 h
variable {e:Nat}{T:List (List Int)}
theorem FR (h:Sq n e T){r:List Int}(hr:r∈T):Bv (vk r) n=true:=by
 simp only [Bv,vk,G0,h.row r hr,decide_true,G0J,A1,R0,C0];intro x hx;exact FQ (h.nn r hr x hx)
theorem FS (h:Sq n e T)(h1:1<=n)(h6:n<=6):RV (jw T)=true:=by
 simp only [RV,jw,G0,h.len,G9 h1,G9 h6,G0J,A1,R0,C0];intro r hr;exact FR h hr
theorem Ee (h:Sq n e T)(h6:n<=6):okD (jw T)=true:=
 QC (by rw [G0,h.len];omega) λd hd=>by
  obtain⟨r,hr,rfl⟩:=D8.mp hd;exact QC (by rw [G0,h.row r hr];omega) λd hd=>by obtain⟨x,_,rfl⟩:=D8.mp hd;rfl
def wa:RDn:=λds h Q=> ∃T,∃n e:Nat,ds= [jw T]/\Sq n e T/\1<=n/\n<=6/\Q .non h
theorem Vj (Z:Zs mg)(F:Fun K "want_table" "want_table" wB f fd)(zQ:jq P w K mg base n "has_table_form" ["thing"] zH):FnOk P w K mg base CX0 (n+1) f fd ["thing"] (LSp K wa):=by
 refine F.okM Jk (λhr=>(jf (vY (yE (wy (jk zQ hr (j1 (jv 0))))) (jf VS) jG))) ?_;rintro ds h Q ⟨T,k,b,rfl,hT,h1,h6,q⟩;refine⟨rfl,?_⟩;refine⟨_,rfl,jw T,rfl,Ee hT h6,_,rfl,?_⟩;rw [FS hT h1 h6];exact wc ⟨h,Sub.refl h,q⟩
def vt:RDx:=λds h R=> ∃d,ds= [d]/\okD d=true/\RV d=false/\R "NoTable" h
theorem WT (Z:Zs mg)(Ex:Exc K mg)(F:Fun K "want_table" "want_table" wB f fd)(zQ:jq P w K mg base n "has_table_form" ["thing"] zH):FnOk P w K mg base (CXR P w) (n+1) f fd ["thing"] (MX mg K vt):=by
 refine F.okMX Jk (λhr=>(SW (yE (wy (jk zQ hr (j1 (jv 0))))) (MZ rfl (Ex.own "NoTable" (by decide)) rfl))) ?_;rintro ds h R ⟨d,rfl,ok,bad,q⟩;refine⟨rfl,?_⟩;refine⟨_,rfl,d,rfl,ok,_,rfl,?_⟩;rw [bad];exact⟨rfl,q⟩
def Yv:RDn:=λds h Q=> ∃T,∃n e:Nat,ds= [jw T]/\Sq n e T/\n<=6/\ ∀R rs h',GB n h h' R rs (wk T n)->Q (.lst R) h'
theorem Gx (Z:Zs mg)(F:Fun K "reaches" "reaches" Wv f fd):FnOk P w K mg base CX0 (n+1) f fd ["table"] (LSp K Yv):=by
 refine F.okM zI (λhr=>(je (jse 1 zI (ZJ Z (jv 0))) (by exact(je (Bi (i:=4) (k:=2) (js:= [4]) rfl zI.nd rfl (Or.inl rfl) (wf (by rfl)) (jrg Z (jv 1)) (by decide) rfl (by first|exact Or.inl rfl|exact Or.inr rfl) (λX' hX=>YR) (λX' hX=>by obtain⟨C,s₀,H₀,ex,rfl⟩:=hX;exact(jl0 5 zI (jrg Z (jv 1)) (λ_ _ _ _=>(jor (jc1 (VQ hr.units) (jv 4) (jv 5)) (GN (jc1 oq_ne (ji1 (ji1 (jv 0) (jv 4)) (jv 5)) jm))))))) (by exact(je (YQ S6 rfl (jrg Z (jv 1)) (jgn 3 zI) (jf (YQ S6 rfl (jrg Z (jv 1)) (jgn 4 zI) (jf (YQ S6 rfl (jrg Z (jv 1)) (jgn 5 zI) (jf (vY (jpt (Dk (wy (ji1 (ji1 (jv 2) (jv 4)) (jv 3))) (Dj (wy (ji1 (ji1 (jv 2) (jv 3)) (jv 5)))))) (jf (An jbl (Dm (ji1 (jv 2) (jv 4)) (jv 5)))) jG))))))) (by exact(jf (zB (jv 2)))))))))) ?_;rintro ds h Q ⟨T,n,b,rfl,hT,h6,q⟩;refine⟨rfl,?_⟩;refine jg (λσ' h'=>σ'= [some (jw T),some (.int (n:Int)),none,none,none,none]/\h=h') (λC hC=>⟨_,rfl,hC _ _ ⟨by rw [G0,hT.len];rfl,rfl⟩⟩) ?_;rintro _ _ ⟨rfl,rfl⟩;refine jg (λσ' h'=> ∃R rs u v w,σ'= [some (jw T),some (.int (n:Int)),some (.lst R),u,v,w]/\GB n h h' R rs (wk T 0)) (λC hC=> ?_) ?_
 ·refine Aj (h1:=h) n (λi ys h'=> ∃rs,ys=rs.map D.lst/\rs.length=i/\Sub h h'/\rs.Nodup/\ ∀m a,rs[m]? =some a->h a=none/\h' a=some ((List.range n).map λj=>D.bl (wk T 0 m j))) (by omega) (λR r=>⟨_,rfl,r⟩) ⟨[],rfl,rfl,Sub.refl h,List.nodup_nil,by simp⟩ (λi ys h' ⟨rs,e,el,_⟩=>by rw [e,G0];exact el) ?_ ?_
  ·rintro i ys h3 hi ⟨rs,rfl,lrs,sb3,nd3,rows3⟩;refine lcA (List.range n) (λj=> .int (j:Int)) (λj=> .bl (wk T 0 i j)) (by rw [R4];omega) rfl (λR r=>⟨_,rfl,(n:Int),rfl,by omega,by omega,r⟩) (λj hj Q' q'=>⟨_,rfl,_,rfl,_,rfl,?_⟩) (λp5 e5=> ?_)
   ·have hj:=P2.mp hj;have q':Q' (.bl (decide (i=j)|| !decide (ent T i j=0))) h3:=q';have ed:decide ((i:Int)=(j:Int))=decide (i=j):=by rw [M8,M9,M9];omega
    rw [ed]
    by_cases c:i=j
    ·rw [G9 c] at q' ⊢;exact vS q'
    ·rw [D1 c] at q' ⊢;exact wc ⟨_,rfl,_,rfl,_,JF hT hi,_,rfl,_,JH (hT.row _ (Sq.getRow hT hi)) hj,q'⟩
   ·refine⟨_,Sub.refl _,by omega,rs++ [p5],by rw [T7];rfl,by rw [G6,lrs];rfl,Sub.newAt sb3 e5,?_,λm a ha=> ?_⟩
    ·rw [U3];refine⟨nd3,by simp,λa ha b hb z=> ?_⟩;rw [G2.mp hb] at z;subst z;obtain⟨m,hm⟩:=G03 ha;rw [(rows3 m _ hm).2] at e5;cases e5
    ·by_cases hm:m<rs.length
     ·rw [D4 hm] at ha;exact⟨(rows3 m a ha).1,ji (rows3 m a ha).2 e5⟩
     ·rw [P3 (by omega)] at ha;have em:m-rs.length=0:=by
       have:=(G5.mp ha).1;simp at this;omega
      rw [em] at ha;have ea:p5=a:=by simpa using ha
      subst ea;have:m=i:=by omega
      subst this;exact⟨ZF sb3 e5,jd⟩
  ·rintro ys h3 ⟨rs,rfl,lrs,sb3,nd3,rows3⟩ R eR;refine hC _ _ ⟨R,rs,_,_,_,rfl,jd,lrs,λhR=> ?_,nd3,Sub.newAt sb3 eR,λi a ha=>⟨(rows3 i a ha).1,ji (rows3 i a ha).2 eR⟩⟩;obtain⟨m,hm⟩:=G03 hR;rw [(rows3 m _ hm).2] at eR;cases eR
 rintro _ h3 ⟨R,rs,u,v,w,rfl,G⟩;refine jg (λσ' h'=> ∃u v w,σ'= [some (jw T),some (.int (n:Int)),some (.lst R),u,v,w]/\GB n h h' R rs (wk T n)) (λC hC=> ?_) ?_
 ·refine wI n (λk σ' h'=> ∃u v w,σ'= [some (jw T),some (.int (n:Int)),some (.lst R),u,v,w]/\GB n h h' R rs (wk T k)) (by omega) (λR r=>⟨_,rfl,r⟩) ⟨u,v,w,rfl,G⟩ (λσ' h' z=>hC _ _ z) ?_;clear G;rintro k _ h4 hk ⟨u,v,w,rfl,G⟩;refine wI n (λi σ' h'=> ∃v w,σ'= [some (jw T),some (.int (n:Int)),some (.lst R),some (.int (k:Int)),v,w]/\GB n h h' R rs (fW T k i 0)) (by omega) (λR r=>⟨_,rfl,r⟩) ⟨v,w,rfl,G.as λx y _ _=>FC T k x y⟩ (λσ' h' ⟨v,w,e,G⟩=>⟨_,Sub.refl _,by omega,_,v,w,e,G.as λx y hx _=>AV T k x y hx⟩) ?_;clear G;rintro i _ h5 hi ⟨v,w,rfl,G⟩;refine wI n (λj σ' h'=> ∃w,σ'= [some (jw T),some (.int (n:Int)),some (.lst R),some (.int (k:Int)),some (.int (i:Int)),w]/\GB n h h' R rs (fW T k i j)) (by omega) (λR r=>⟨_,rfl,r⟩) ⟨w,rfl,G⟩ (λσ' h' ⟨w,e,G⟩=>⟨_,Sub.refl _,by omega,_,w,e,G.as λx y _ hy=>FB T k i x y hy⟩) ?_;clear G;rintro j _ h6' hj ⟨w,rfl,G⟩;obtain⟨a,ha,a1,a2⟩:=G.pick hi;obtain⟨c,hc,c1,c2⟩:=G.pick hk;refine⟨_,rfl,_,rfl,_,_,G.at_,a1,_,rfl,_,_,a2,Qs hk,_,rfl,?_⟩;rw [AS];refine UN (λz1=> ?_) λz1=> ?_
  ·refine⟨_,rfl,_,rfl,_,_,G.at_,c1,_,rfl,_,_,c2,Qs hj,_,rfl,?_⟩;rw [AT];refine UN (λz2=> ?_) λz2=> ?_
   ·exact⟨_,rfl,_,rfl,_,_,G.at_,a1,_,rfl,a,(j:Int),_,j,rfl,rfl,a2,Ff (by rw [G0,R4];exact hj),_,Sub.refl _,by omega,_,rfl,(G.put ha).as λx y _ _=>AU z1 z2 x y⟩
   ·exact⟨_,Sub.refl _,by omega,_,rfl,G.as λx y _ _=>Rw (λz=>z2 z.2) x y⟩
  ·exact⟨_,Sub.refl _,by omega,_,rfl,G.as λx y _ _=>Rw (λz=>z1 z.1) x y⟩
 rintro _ h4 ⟨u,v,w,rfl,G⟩;exact⟨_,rfl,_,Sub.refl _,q R rs h4 G⟩
def Ze:RDn:=λds h Q=> ∃R rs h0 T,∃n:Nat,ds= [.lst R]/\GB n h0 h R rs (wk T n)/\n<=6/\ ∀A h',h A=none->h' A=some ((vQ T n).map jC)->Sub h h'->Q (.lst A) h'
theorem Uk (Z:Zs mg)(F:Fun K "pieces_by" "pieces_by" vF f fd):FnOk P w K mg base CX0 (n+1) f fd ["come"] (LSp K Ze):=by
 refine F.okM zo (λhr=>(je (jse 1 zo (ZJ Z (jv 0))) (by exact(je (jse 2 zo (Zb zS)) (by exact(je (YQ S6 rfl (jrg Z (jv 1)) (jgn 3 zo) (je (jse 4 zo (zF wj rfl Z.tuple (by decide +kernel) (j1 (jl1 5 zo (jrg Z (jv 1)) (λ_ _ _ _=>(jpt (Dk (wy (ji1 (ji1 (jv 0) (jv 3)) (jv 5))) (Dj (wy (ji1 (ji1 (jv 0) (jv 5)) (jv 3))))))) (λ_ _ _ _=>(jv 5)))))) (by exact(jf (vY (jt1 (VQ hr.units) (ji1 (jv 4) jm) (jv 3)) (jf (VR (Er (jv 2) (jv 4)))) jG))))) (by exact(jf (zB (jv 2)))))))))) ?_;rintro ds h Q ⟨R,rs,h0,T,n,rfl,G,h6,q⟩;refine⟨rfl,?_⟩;refine jg (λσ' h'=>σ'= [some (.lst R),some (.int (n:Int)),none,none,none,none]/\h=h') (λC hC=> ?_) ?_
 ·exact⟨_,rfl,_,G.at_,hC _ _ ⟨by rw [G0,G.len];rfl,rfl⟩⟩
 rintro _ _ ⟨rfl,rfl⟩;refine jg (λσ' h'=> ∃A,σ'= [some (.lst R),some (.int (n:Int)),some (.lst A),none,none,none]/\h A=none/\Sub h h'/\h' A=some []) (λC hC=>⟨(by show 0<=sizeLine;decide),λA eA=>hC _ _ ⟨A,rfl,eA,Sub.newAt (Sub.refl h) eA,jd⟩⟩) ?_;rintro _ h1 ⟨A,rfl,nA,sb,kA⟩;refine jg (λσ' h'=> ∃u v w,σ'= [some (.lst R),some (.int (n:Int)),some (.lst A),u,v,w]/\Sub h h'/\h' A=some ((vQ T n).map jC)) (λC hC=> ?_) ?_
 ·refine wI n (λk σ' h'=> ∃u v w,σ'= [some (.lst R),some (.int (n:Int)),some (.lst A),u,v,w]/\Sub h h'/\h' A=some (((((List.range k).filter (λp=>decide ((pcS T n p).headD 0=p))).map (pcS T n))).map jC)) (by omega) (λR r=>⟨_,rfl,r⟩) ⟨_,_,_,rfl,sb,kA⟩ (λσ' h' z=>hC _ _ z) ?_;clear sb kA;rintro k _ h2 hk ⟨u,v,w,rfl,sb,kA⟩;have GG:=G.up sb;obtain⟨a,ha,a1,a2⟩:=GG.pick hk;refine jg (λσ' h'=> ∃w,σ'= [some (.lst R),some (.int (n:Int)),some (.lst A),some (.int (k:Int)),some (jC (pcS T n k)),w]/\h2=h') (λC hC=> ?_) ?_
  ·refine MT n (λj ys h'=>h'=h2/\ys=((List.range j).filter λi=>wk T n k i&&wk T n i k).map λ(i:Nat)=>D.int (i:Int)) (by omega) (λR r=>⟨_,rfl,r⟩) ⟨rfl,rfl⟩ (λj ys h' w=> ?_) (λj ys h' hj w=> ?_) (λys h' w=> ?_)
   ·rw [w.2,G0];exact R9 (C5 _ _) (by rw [R4];exact G8 _)
   ·obtain⟨rfl,rfl⟩:=w;obtain⟨c,hc,c1,c2⟩:=GG.pick hj;refine⟨_,rfl,_,rfl,_,_,GG.at_,a1,_,rfl,_,_,a2,Qs hj,_,rfl,UN (λz1=> ?_) λz1=> ?_⟩
    ·refine⟨_,rfl,_,rfl,_,_,GG.at_,c1,_,rfl,_,_,c2,Qs hk,_,rfl,UN (λz2=> ?_) λz2=> ?_⟩
     ·refine⟨_,rfl,_,Sub.refl _,by omega,rfl,?_⟩;rw [A6,B6,T7,C9 (by rw [z1,z2];rfl)];rfl
     ·refine⟨_,Sub.refl _,by omega,rfl,?_⟩;rw [A6,B6,T7,O8 (by rw [S5];exact λz=>z2 z.2)];simp
    ·refine⟨_,Sub.refl _,by omega,rfl,?_⟩;rw [A6,B6,T7,O8 (by rw [S5];exact λz=>z1 z.1)];simp
   ·obtain⟨rfl,rfl⟩:=w;exact hC _ _ ⟨_,rfl,rfl⟩
  rintro _ _ ⟨w',rfl,rfl⟩;obtain⟨r,er⟩:=RF (T:=T) hk;have a0:((pcS T n k).map λ(i:Nat)=>D.int (i:Int))[0]? =some (.int (((pcS T n k).headD 0:Nat):Int)):=by
   cases z:pcS T n k with
   |nil=>rw [z] at er;cases er
   |cons x r=>rfl
  refine⟨_,rfl,_,wW (j:=0) a0,_,rfl,?_⟩;show ∃k_1,D.bl (decide ((((pcS T n k).headD 0:Nat):Int)=(k:Int)))= .bl k_1/\_;refine⟨_,rfl,UN (λz=> ?_) λz=> ?_⟩
  ·have z:(pcS T n k).headD 0=k:=by have:=S9 z;omega
   refine⟨_,rfl,A,rfl,_,rfl,_,kA,?_,_,Sub.refl _,by omega,_,_,_,rfl,sb.over nA,?_⟩
   ·rw [G0,G0];exact jx (R9 (C5 _ _) (by rw [R4];omega))
   ·rw [jd,A6,B6,C9 (by rw [M9];exact z),G0X,T7,T7];rfl
  ·have z: ¬ (pcS T n k).headD 0=k:=λe=>z (G9 (by omega))
   refine⟨_,Sub.refl _,by omega,_,_,_,rfl,sb,?_⟩;rw [kA,A6,B6,O8 (by rw [M9];exact z),G0X,B1]
 rintro _ h4 ⟨u,v,w,rfl,sb4,k4⟩;exact⟨_,rfl,_,Sub.refl _,q A h4 nA k4 sb4⟩
def Ul:RDn:=λds h Q=> ∃T,∃n e:Nat,ds= [jw T]/\Sq n e T/\1<=n/\n<=6/\ ∀A h',h A=none->h' A=some ((vQ T n).map jC)->Sub h h'->Q (.lst A) h'
theorem RW (Z:Zs mg)(F:Fun K "pieces" "pieces" Vd f fd)(zO:jq P w K mg base n "want_table" ["thing"] wa)(XC:jq P w K mg base n "pieces_by" ["come"] Ze)(Me:jq P w K mg base n "reaches" ["table"] Yv):FnOk P w K mg base CX0 (n+1) f fd ["table"] (LSp K Ul):=by
 refine F.okM RO (λhr=>(je (VR (jk zO hr (j1 (jv 0)))) (by exact(jf (zB (jk XC hr (j1 (jk Me hr (j1 (jv 0)))))))))) ?_;rintro ds h Q ⟨T,n,b,rfl,hT,h1,h6,q⟩;refine⟨rfl,?_⟩;refine jg (λσ' h'=>σ'= [some (jw T)]/\h=h') (λC hC=>⟨_,rfl,T,n,b,rfl,hT,h1,h6,hC _ _ ⟨rfl,rfl⟩⟩) ?_;rintro _ _ ⟨rfl,rfl⟩;exact⟨_,rfl,T,n,b,rfl,hT,h6,λR rs h2 G=>⟨R,rs,h,T,n,rfl,G,h6,λA h3 nA kA sb=>⟨_,Sub.refl _,q A h3 (ZF G.sb nA) kA ((G.sb).trans sb)⟩⟩⟩
def Um:RDn:=λds h Q=> ∃T,∃n e:Nat,ds= [jw T]/\Sq n e T/\1<=n/\n<=6/\Q (.bl (decide ((vQ T n).length=1))) h
theorem RX (Z:Zs mg)(F:Fun K "joined" "joined" Ve f fd)(NQ:jq P w K mg base n "pieces" ["table"] Ul):FnOk P w K mg base CX0 (n+1) f fd ["table"] (LSp K Um):=by
 refine F.okM RQ (λhr=>(jf (zB (jc1 oq_eq (ZJ Z (jk NQ hr (j1 (jv 0)))) jm)))) ?_;rintro ds h Q ⟨T,n,b,rfl,hT,h1,h6,q⟩;refine⟨rfl,?_⟩;refine⟨_,rfl,T,n,b,rfl,hT,h1,h6,λA h2 nA kA sb=>⟨_,kA,?_⟩⟩;show ∃h0,Sub h0 h2/\Q (.bl (decide (((((vQ T n).map jC).length:Nat):Int)=1))) h0;refine⟨h,sb,?_⟩;rw [G0,show decide ((((vQ T n).length:Nat):Int)=1)=decide ((vQ T n).length=1) from by rw [M8,M9,M9];omega];exact q
theorem FT {r:List Int}(h:r.length=n):Gg (r.map D.int)=(List.range n).map λ(j:Nat)=>D.tup [.int (j:Int),.int (r.getD j 0)]:=by
 apply G0C;intro i
 by_cases hi:i<n
 ·have hi':i<(Gg (r.map D.int)).length:=by rw [jR,G0,h];exact hi
  obtain⟨x,hx,ed⟩:=ZD (G1 hi');rw [G1 hi',ed];rw [D2,L5 hi];rw [D2,G1 (by omega)] at hx;injection hx with hx
  rw [<-hx];show some (D.tup [D.int (i:Int),D.int r[i]])=some (D.tup [D.int (i:Int),D.int (r.getD i 0)]);rw [P1,G1 (show i<r.length by omega)];rfl
 ·rw [C4 (by rw [jR,G0];omega),C4 (by simp;omega)]
def QD:RDn:=λds h Q=> ∃T,∃n e p:Nat,ds= [jw T,.int (p:Int)]/\Sq n e T/\n<=6/\p<n/\ ∀F,h F=none->Q (.lst F) (we h F ((DM T n p).map λ(k:Nat)=>D.int (k:Int)))
theorem NH (Z:Zs mg)(F:Fun K "heads" "heads" Xq f fd):FnOk P w K mg base CX0 (n+1) f fd ["table","place"] (LSp K QD):=by
 refine F.okM QK (λhr=>(jf (zB (HQ (i:=2) (j:=3) (js:= [2,3]) rfl (wf (by rfl)) (Xf rfl Z.enumerate (j1 (ji1 (jv 0) (jv 1)))) (by decide) (by decide) (by decide) QK.nd rfl rfl (by first|exact Or.inl rfl|exact Or.inr rfl) (by first|exact Or.inl rfl|exact Or.inr rfl) (λX' hX=>by obtain⟨C,s₀,H₀,ex,rfl⟩:=hX;exact UZ (jt1 oq_ne (jv 3) jm)) (λX' hX=>by obtain⟨C,s₀,H₀,ex,rfl⟩:=hX;exact(jv 2)))))) ?_;rintro ds h Q ⟨T,n,bb,p,rfl,hT,n6,hp,q⟩;refine⟨rfl,?_⟩;refine HZ (j:=λ_=>some (Gg ((T.getD p []).map D.int))) (List.range n) (λj=> .int (j:Int)) (λj=> .int ((T.getD p []).getD j 0)) (λj=> .int (j:Int)) (λj=>decide (ent T p j>0)) (by rw [R4];omega) (congrArg some (FT (hT.row _ (Sq.getRow hT hp)))) (λR r=>⟨_,rfl,_,rfl,_,JF hT hp,_,rfl,r⟩) (λx hx Q' q'=>⟨_,rfl,_,rfl,?_⟩) (λx hx _ Q' q'=>⟨_,rfl,q'⟩) (λF eF=>⟨_,Sub.refl _,q F eF⟩);have hnn:=(hT.ent_nn hp (P2.mp hx)).1;have e4:(!decide (((T.getD p []).getD x 0)=0))=decide (ent T p x>0):=by
  show (!decide (ent T p x=0))=_
  by_cases z:ent T p x=0
  ·rw [z];rfl
  ·rw [D1 z,G9 (by omega)];rfl
 rw [<-e4] at q';exact q'
theorem ifT {c:Bool}{A B:Prop}(e:c=true)(a:A):if c=true then A else B:=by rw [if_pos e];exact a
theorem ifF {c:Bool}{A B:Prop}(e:c=false)(b:B):if c=true then A else B:=by subst e;exact b
def yn:RDn:=λds h Q=> ∃a b:Nat,ds= [.int (a:Int),.int (b:Int)]/\Q (.int ((Nat.gcd a b:Nat):Int)) h
theorem Zt (Z:Zs mg)(F:Fun K "greatest_into" "greatest_into" wr f fd):FnOk P w K mg base CX0 (n+1) f fd ["one","other"] (LSp K yn):=by
 refine F.okM yt (λhr=>(je (DD S6 (jt1 oq_ne (jv 1) jm) (jf (TW (i:=0) (j:=1) rfl yt.nd rfl rfl (by decide) rfl rfl (j2 (jv 1) (jop vi (jv 0) (jv 1))) rfl))) (by exact(jf (zB (jv 0)))))) ?_;rintro ds h Q ⟨a,b,rfl,q⟩;refine⟨rfl,?_⟩;refine jg (λσ' h'=> ∃d,σ'= [some (.int ((Nat.gcd a b:Nat):Int)),d]/\h=h') (λC hC=> ?_) ?_
 ·refine YW (λm σ' h'=> ∃x:Nat,σ'= [some (.int (x:Int)),some (.int (m:Int))]/\h=h'/\Nat.gcd x m=Nat.gcd a b) b ⟨a,rfl,rfl,rfl⟩ ?_;rintro m _ _ ⟨x,rfl,rfl,hg⟩;refine⟨_,rfl,_,rfl,?_⟩
  by_cases z:m=0
  ·subst z;rw [Nat.gcd_zero_right] at hg;subst hg;exact ifF (by decide) (hC _ _ ⟨_,rfl,rfl⟩)
  ·refine ifT (congrArg not (D1 (show ¬ (m:Int)=0 by omega))) ⟨_,rfl,_,rfl,_,rfl,(by omega:(0:Int)<(m:Int)),_,_,rfl,x%m,_,U4 _ (by omega),Sub.refl _,m,?_,rfl,?_⟩
   ·rw [G0N];rfl
   ·rw [Nat.gcd_comm,<-Nat.gcd_rec,Nat.gcd_comm];exact hg
 rintro _ _ ⟨d,rfl,rfl⟩;exact⟨_,rfl,h,Sub.refl h,q⟩
theorem RY (w:List Nat):((DM T n (w.getLastD 0)).filter λj=>decide (w.headD 0<j)&& !decide (j∈w)).map (λj=>jC (w++ [j]))=(Ez (yA T) n w).map jC:=by
 unfold Ez DM;rw [List.filter_filter,S4];have:(λj=>(decide (w.headD 0<j)&& !decide (j∈w))&&decide (ent T (w.getLastD 0) j>0))=FE (yA T) w:=by
  funext j
  unfold FE yA;rw [Bool.and_comm]
 rw [this];rfl
theorem QF {t:Nat}:((lev (yA T) n t).flatMap λw=>((DM T n (w.getLastD 0)).filter λj=>decide (w.headD 0<j)&& !decide (j∈w)).map λj=>jC (w++ [j]))=(lev (yA T) n (t+1)).map jC:=by
 show _=((lev (yA T) n t).flatMap (Ez (yA T) n)).map jC;rw [List.map_flatMap];exact congrArg (λf=>(lev (yA T) n t).flatMap f) (funext λw=>RY w)
def Jl:RDn:=λds h Q=> ∃T,∃n e:Nat,ds= [jw T]/\Sq n e T/\1<=n/\n<=6/\ ∀A h',h A=none->h' A=some ((wq T n).map jC)->Sub h h'->Q (.lst A) h'
theorem Vk (Z:Zs mg)(F:Fun K "all_rounds" "all_rounds" yH f fd)(zO:jq P w K mg base n "want_table" ["thing"] wa)(La:jq P w K mg base n "heads" ["table","place"] QD):FnOk P w K mg base CX0 (n+1) f fd ["table"] (LSp K Jl):=by
 refine F.okM jW (λhr=>(je (VR (jk zO hr (j1 (jv 0)))) (by exact(je (jse 1 jW (Zb zS)) (by exact(je (Bi (i:=3) (k:=2) (js:= [3]) rfl jW.nd rfl (Or.inl rfl) (wf (by rfl)) (jrg Z (ZJ Z (jv 0))) (by decide) rfl (by first|exact Or.inl rfl|exact Or.inr rfl) (λX' hX=>YR) (λX' hX=>by obtain⟨C,s₀,H₀,ex,rfl⟩:=hX;exact(zC (j1 (jv 3))))) (by exact(je (DD S6 (Tb (jv 2)) (je (jse 1 jW (jop zn (jv 1) (jl1 4 jW (jX (jv 2)) (λ_ _ _ _=>(jt1 oq_ne (ji1 (ji1 (jv 0) (ji1 (jv 4) (SS jm))) (ji1 (jv 4) jm)) jm)) (λ_ _ _ _=>(jv 4))))) (by exact(jf (FD (i:=4) (i':=5) (k:=2) (js:= [4,5]) rfl jW.nd rfl (Or.inl rfl) (wf (by rfl)) (jX (jv 2)) (by decide) (by decide) (by decide) rfl rfl (by first|exact Or.inl rfl|exact Or.inr rfl) (by first|exact Or.inl rfl|exact Or.inr rfl) (λX' hX=>YR) (λX' hX=>by obtain⟨C,s₀,H₀,ex,rfl⟩:=hX;exact(jX (jk La hr (j2 (jv 0) (ji1 (jv 4) (SS jm)))))) (λX' hX=>by obtain⟨C,s₀,H₀,ex,rfl⟩:=hX;exact UZ (jpt (Dk (jt1 Ga (jv 5) (ji1 (jv 4) jm)) (Dj (Gc (YX hr.units) (jv 5) (jv 4) (by with_unfolding_all rfl)))))) (λX' hX=>by obtain⟨C,s₀,H₀,ex,rfl⟩:=hX;exact(jop zn (jv 4) (zC (j1 (jv 5)))))))))) (by exact(jf (zB (zE (JM hr) rfl Z.sorted (by decide +kernel) (j1 (jv 1)))))))))))))) ?_;rintro ds h Q ⟨T,n,b,rfl,hT,h1,h6,q⟩;refine⟨rfl,?_⟩;refine jg (λσ' h'=>σ'= [some (jw T),none,none,none,none,none]/\h=h') (λC hC=>⟨_,rfl,T,n,b,rfl,hT,h1,h6,hC _ _ ⟨rfl,rfl⟩⟩) ?_;rintro _ _ ⟨rfl,rfl⟩;refine jg (λσ' h'=> ∃A,σ'= [some (jw T),some (.lst A),none,none,none,none]/\h' A=some []/\Sub h h') (λC hC=>⟨(by show 0<=sizeLine;decide),λA eA=>hC _ _ ⟨A,rfl,jd,Sub.newAt (Sub.refl h) eA⟩⟩) ?_;rintro _ h2 ⟨A,rfl,kA,sA⟩;refine jg (λσ' h'=> ∃B c,σ'= [some (jw T),some (.lst A),some (.lst B),c,none,none]/\h' A=some ((WS (yA T) n 0).map jC)/\h' B=some ((lev (yA T) n 0).map jC)/\Sub h h') (λC hC=> ?_) ?_
 ·refine lcA (List.range n) (λj=> .int (j:Int)) (λi=>jC [i]) (by rw [R4];omega) rfl (λR r=>⟨_,rfl,(n:Int),by rw [G0,hT.len],by omega,by omega,r⟩) (λj hj Q' q'=>⟨_,rfl,(by show 1<=sizeLine;decide),q'⟩) (λB eB=>hC _ _ ⟨B,_,rfl,ji kA eB,?_,Sub.newAt sA eB⟩);rw [jd];show _=some (((List.range n).map λi=> [i]).map jC);rw [S4];rfl
 rintro _ h3 ⟨B,c,rfl,kA,kB,sb⟩;refine jg (λσ' h'=> ∃A B c,σ'= [some (jw T),some (.lst A),some (.lst B),c,none,none]/\h' A=some ((WS (yA T) n n).map jC)/\Sub h h') (λC hC=> ?_) ?_
 ·refine YW (λm σ' h'=> ∃ (t:Nat) (A B:Addr) (c:Option D),σ'= [some (jw T),some (.lst A),some (.lst B),c,none,none]/\m=n-t/\t<=n/\h' A=some ((WS (yA T) n t).map jC)/\h' B=some ((lev (yA T) n t).map jC)/\Sub h h') n ⟨0,A,B,c,rfl,rfl,T2 _,kA,kB,sb⟩ ?_;clear kA kB sb;rintro m _ h4 ⟨t,A,B,c,rfl,rfl,tn,kA,kB,sb⟩;refine⟨_,rfl,!((lev (yA T) n t).map jC).isEmpty,⟨_,kB,rfl⟩,?_⟩
  by_cases z:(lev (yA T) n t)= []
  ·rw [z];refine wc (hC _ _ ⟨A,B,c,rfl,?_,sb⟩);have:=(Uh (n-t) z).1;rw [show t+(n-t)=n by omega] at this;rw [this];exact kA
  ·have tl:t<n:=by
    rcases C7 t n with w|w
    ·exact w
    ·have:t=n:=by omega
     subst this;exact absurd (FG h6) z
   have ll:=Rx (g:=yA T) h6 (show t<=6 by omega);have rl:=Qt (g:=yA T) h6 (show t<=6 by omega);have l2:=Rx (g:=yA T) h6 (show t+1<=6 by omega);rw [show (!((lev (yA T) n t).map jC).isEmpty)=true from by cases e:(lev (yA T) n t) with|nil=>exact absurd e z|cons _ _=>rfl];refine vS ?_;refine jg (λσ' h'=> ∃A,σ'= [some (jw T),some (.lst A),some (.lst B),c,none,none]/\h' A=some ((WS (yA T) n (t+1)).map jC)/\h' B=some ((lev (yA T) n t).map jC)/\Sub h h') (λC hC=>⟨_,rfl,?_⟩) ?_
   ·refine lcF (j:=λh=>h B) (lev (yA T) n t) jC jC (λw=>yA T (w.getLastD 0) (w.headD 0)) (by omega) kB (λR r=>⟨_,rfl,r⟩) (λw hw Q' q'=> ?_) (λw hw _ Q' q'=>⟨_,rfl,q'⟩) (λF eF=>⟨_,_,ji kA eF,jd,?_,λp e=>hC _ _ ⟨p,rfl,?_,ji (ji kB eF) e,(((sb).newAt eF).newAt e)⟩⟩)
    ·have o:=Wu hw;have he:=o.lt _ (RB o.len);have hh:=o.lt _ (Nx o.len);refine⟨_,rfl,_,rfl,_,Bq o.len,_,JF hT he,_,rfl,_,Qu o.len,_,JH (hT.row _ (Sq.getRow hT he)) hh,?_⟩;have nn:=(hT.ent_nn he hh).1;have:(!decide (ent T (w.getLastD 0) (w.headD 0)=0))=yA T (w.getLastD 0) (w.headD 0):=by
      unfold yA;rw [M8,M9,Bool.not_eq_true',G0G];omega
     rw [<-this] at q';exact⟨_,rfl,q'⟩
    ·have:=C5 (λw=>yA T (w.getLastD 0) (w.headD 0)) (lev (yA T) n t);rw [G0,G0];exact D5 (jx (by omega))
    ·rw [jd];show _=some (((WS (yA T) n t)++(lev (yA T) n t).filter λw=>yA T (w.getLastD 0) (w.headD 0)).map jC);rw [T7]
   clear kA kB sb;rintro _ h5 ⟨A,rfl,kA,kB,sb⟩;refine AX (j:=λh=>h B) (lev (yA T) n t) jC (λw=>DM T n (w.getLastD 0)) (λ(j:Nat)=> .int (j:Int)) (λw j=>decide (w.headD 0<j)&& !decide (j∈w)) (λw j=>jC (w++ [j])) ?_ (λh' s=>s _ _ kB) (λR r=>⟨_,rfl,r⟩) (λw hw h' s R r=> ?_) (λw hw j hj h' s Q' q'=> ?_) (λw hw j hj _ h' s Q' q'=> ?_) (λa h' s ea=> ?_)
   ·rw [QF,G0];exact D5 (jx (by omega))
   ·have o:=Wu hw;exact⟨_,rfl,_,rfl,_,Bq o.len,T,n,b,w.getLastD 0,rfl,hT,h6,o.lt _ (RB o.len),λF eF=>r _ _ (Sub.newAt (Sub.refl _) eF) λh3 s3=>s3 _ _ jd⟩
   ·have o:=Wu hw;refine⟨_,rfl,_,rfl,_,Qu o.len,?_⟩;show ∃k,D.bl (decide (((w.headD 0:Nat):Int)<(j:Int)))=D.bl k/\_;rw [show decide (((w.headD 0:Nat):Int)<(j:Int))=decide (w.headD 0<j) from by rw [M8,M9,M9];omega];refine⟨_,rfl,?_⟩
    by_cases c:w.headD 0<j
    ·rw [G9 c] at q' ⊢;exact vS ⟨_,rfl,_,rfl,Fz ⟨_,rfl,q'⟩⟩
    ·rw [D1 c] at q' ⊢;exact wc q'
   ·have o:=Wu hw;have e:jC (w++ [j])= .tup ((w.map λ(k:Nat)=>D.int (k:Int))++ [.int (j:Int)]):=by unfold jC;rw [List.map_append];rfl
    rw [e] at q';refine⟨_,rfl,_,rfl,(by show 1<=sizeLine;decide),?_,q'⟩;rw [G0,o.len];exact D5 (jx (by simp only [D3,R8];omega))
   ·rw [QF];exact⟨n-(t+1),_,by omega,Sub.refl _,t+1,A,a,_,rfl,rfl,by omega,ji (s _ _ kA) ea,jd,(((sb).trans s).newAt ea)⟩
 clear kA kB sb;rintro _ h4 ⟨A,B,c,rfl,kA,sb⟩;refine⟨_,rfl,A,(WS (yA T) n n).map toI,rfl,?_,?_,λp mss hp pm sr=>⟨_,Sub.refl _,q p _ (ZF sb hp) (by rw [jd,Ws pm sr];rfl) (Sub.newAt sb hp)⟩⟩
 ·rw [kA,S4];exact congrArg some (S3 λS _=>(Qq S).symm)
 ·rw [G0];have:=Qt (g:=yA T) h6 h6;exact jx (by omega)
/-- the greatest number that goes into the lengths of all wq -/
def zc (T:List (List Int))(n:Nat):Nat:=((wq T n).map List.length).foldl Nat.gcd 0
def Xt:RDn:=λds h Q=> ∃T,∃n e:Nat,ds= [jw T]/\Sq n e T/\1<=n/\n<=6/\(vQ T n).length=1/\Q (.int ((zc T n:Nat):Int)) h
theorem FU (Z:Zs mg)(F:Fun K "beat" "beat" RR f fd)(NP:jq P w K mg base n "joined" ["table"] Um)(UD:jq P w K mg base n "all_rounds" ["table"] Jl)(WG:jq P w K mg base n "greatest_into" ["one","other"] yn):FnOk P w K mg base CX0 (n+1) f fd ["table"] (LSp K Xt):=by
 refine F.okM Vf (λhr=>(je (vY (yE (wy (jk NP hr (j1 (jv 0))))) (jf VS) jG) (by exact(je (jse 1 Vf jm) (by exact(je (YQ S6 rfl (jX (jk UD hr (j1 (jv 0)))) (jgn 2 Vf) (jf (jse 1 Vf (jk WG hr (j2 (jv 1) (ZJ Z (jv 2))))))) (by exact(jf (zB (jv 1)))))))))) ?_;rintro ds h Q ⟨T,n,b,rfl,hT,h1,h6,one,q⟩;refine⟨rfl,?_⟩;refine jg (λσ' h'=>σ'= [some (jw T),none,none]/\h=h') (λC hC=>⟨_,rfl,T,n,b,rfl,hT,h1,h6,_,rfl,?_⟩) ?_
 ·rw [G9 one];exact wc (hC _ _ ⟨rfl,rfl⟩)
 rintro _ _ ⟨rfl,rfl⟩;refine jg (λσ' h'=>σ'= [some (jw T),some (.int 0),none]/\h=h') (λC hC=>hC _ _ ⟨rfl,rfl⟩) ?_;rintro _ _ ⟨rfl,rfl⟩;refine jg (λσ' h'=> ∃v,σ'= [some (jw T),some (.int ((zc T n:Nat):Int)),v]/\Sub h h') (λC hC=>⟨_,rfl,T,n,b,rfl,hT,h1,h6,λA h2 nA kA sb=> ?_⟩) (λ_ h' ⟨v,e,sb⟩=>by subst e;exact⟨_,rfl,_,sb,q⟩);refine vX (j:=λh=>h A) ((wq T n).map jC) (λi σ' h'=> ∃v,σ'= [some (jw T),some (.int (((((wq T n).take i).map List.length).foldl Nat.gcd 0:Nat):Int)),v]/\h2=h') (λi σ' h' ⟨_,_,z⟩=>by rw [<-z];exact kA) ⟨_,rfl,rfl⟩ (λσ' h' ⟨v,e,z⟩=>hC _ _ ⟨v,by rw [e,G0,E3];rfl,by rw [<-z];exact sb⟩) ?_;rintro i d _ _ hi ⟨v,rfl,rfl⟩;rw [D2] at hi;obtain⟨W,hW,rfl⟩:=M6.mp hi;have hil:=(G5.mp hW).1;refine⟨_,rfl,_,rfl,_,_,rfl,_,Sub.refl _,by rw [G0];omega,some (jC W),?_,rfl⟩;rw [T8,hW,T7,List.foldl_append,G0];rfl
def yi:RDn:=λds h Q=> ∃T S,∃n e:Nat,ds= [jw T,jC S]/\Sq n e T/\IsS n S/\n<=6/\Q (jC (wJ n T S)) h
theorem Vl (Z:Zs mg)(F:Fun K "step_after" "step_after" yI f fd):FnOk P w K mg base CX0 (n+1) f fd ["table","some"] (LSp K yi):=by
 refine F.okM ya (λhr=>(jf (zB (zF wj rfl Z.tuple (by decide +kernel) (j1 (jl1 2 ya (jrg Z (ZJ Z (jv 0))) (λ_ _ _ _=>(wy (zE (OX rfl) rfl Z.any (by decide +kernel) (j1 (jl0 3 ya (jX (jv 1)) (λ_ _ _ _=>(jc1 oq_ne (ji1 (ji1 (jv 0) (jv 3)) (jv 2)) jm))))))) (λ_ _ _ _=>(jv 2)))))))) ?_;rintro ds h Q ⟨T,S,k,b,rfl,hT,hS,h6,q⟩;refine⟨rfl,?_⟩;have hlen:=hS.len;refine Ap (List.range k) (λj=> .int (j:Int)) (λj=> .int (j:Int)) (λj=>S.any λi=>decide (ent T i j≠0)) (by rw [R4];omega) rfl (λR r=>⟨_,rfl,(k:Int),by rw [G0,hT.len],by omega,by omega,r⟩) (λj hj Q' q'=> ?_) (λj hj hp Q' q'=>⟨_,rfl,q'⟩) ⟨h,Sub.refl h,q⟩;refine HU S (λi=> .int (i:Int)) (λi=>decide (ent T i j≠0)) (by omega) rfl (λR r=>⟨_,rfl,r⟩) (λi hi Q'' q''=> ?_) ⟨_,rfl,q'⟩;have hi':=hS.lt hi;refine⟨_,rfl,_,rfl,_,JF hT hi',_,rfl,_,JH (hT.row _ (Sq.getRow hT hi')) (P2.mp hj),?_⟩;have e:(!decide (((T.getD i []).getD j 0)=0))=decide (ent T i j≠0):=by simp [ent]
 rw [<-e] at q'';exact q''
def yU:RDn:=λds h Q=> ∃T S,∃n e:Nat,ds= [jw T,jC S]/\Sq n e T/\IsS n S/\n<=6/\Q (.bl (vg n T S)) h
theorem Wz (Z:Zs mg)(F:Fun K "keeps_arrows" "keeps_arrows" wN f fd)(yV:jq P w K mg base n "step_after" ["table","some"] yi):FnOk P w K mg base CX0 (n+1) f fd ["table","some"] (LSp K yU):=by
 refine F.okM yJ (λhr=>(jf (zB (zE (Yl rfl) rfl Z.all O3 (j1 (jl0 2 yJ (jX (jk yV hr (j2 (jv 0) (jv 1)))) (λ_ _ _ _=>(SO (CQ hr.units) (jv 2) (jv 1) (by with_unfolding_all rfl))))))))) ?_;rintro ds h Q ⟨T,S,n,b,rfl,hT,hS,h6,q⟩;refine⟨rfl,?_⟩;have l:=Uf (n:=n) (T:=T) (S:=S);exact Et (j:=λ_=>some ((wJ n T S).map λ(k:Nat)=>D.int (k:Int))) (wJ n T S) (λ(k:Nat)=> .int (k:Int)) (λj=>decide (j∈S)) (by omega) rfl (λR r=>⟨_,rfl,_,rfl,T,S,n,b,rfl,hT,hS,h6,r⟩) (λj hj Q' q'=>⟨_,rfl,_,rfl,Rt q'⟩) ⟨h,Sub.refl h,q⟩
def WA:RDn:=λds h Q=> ∃n:Nat,ds= [.int (n:Int)]/\n<=6/\ ∀A h',h' A=some ((vf n).map jC)->Sub h h'->Q (.lst A) h'
theorem Xu (Z:Zs mg)(F:Fun K "all_sets" "all_sets" JR f fd):FnOk P w K mg base CX0 (n+1) f fd ["size"] (LSp K WA):=by
 refine F.okM wt (λhr=>(je (jse 1 wt (Zb (j1 (zC zS)))) (by exact(je (YQ S6 rfl (jrg Z (jv 0)) (jgn 2 wt) (jf (jse 1 wt (jop zn (jv 1) (jl0 3 wt (jX (jv 1)) (λ_ _ _ _=>(jop zn (jv 3) (zC (j1 (jv 2)))))))))) (by exact(jf (zB (zE (JM hr) rfl Z.sorted (by decide +kernel) (j1 (jv 1)))))))))) ?_;rintro ds h Q ⟨n,rfl,h6,q⟩;refine⟨rfl,?_⟩;refine jg (λσ' h'=> ∃A,σ'= [some (.int (n:Int)),some (.lst A),none,none]/\h' A=some ((jT 0).map jC)/\Sub h h') (λC hC=>⟨(by show 0<=sizeLine;decide),(by show 1<=sizeLine;decide),λA eA=>hC _ _ ⟨A,rfl,jd,Sub.newAt (Sub.refl h) eA⟩⟩) ?_;rintro _ h2 ⟨A0,rfl,kA0,sb0⟩;refine jg (λσ' h'=> ∃A a b,σ'= [some (.int (n:Int)),some (.lst A),a,b]/\h' A=some ((jT n).map jC)/\Sub h h') (λC hC=> ?_) ?_
 ·refine wI n (λt σ' h'=> ∃A a b,σ'= [some (.int (n:Int)),some (.lst A),a,b]/\h' A=some ((jT t).map jC)/\Sub h h') (by omega) (λR r=>⟨_,rfl,r⟩) ⟨A0,none,none,rfl,kA0,sb0⟩ (λσ' h' z=>hC _ _ z) ?_;clear kA0 sb0;rintro t _ h3 ht ⟨A,a,b,rfl,kA,sb⟩;have l64:(jT t).length<=64:=by rw [wS];exact F4 (by decide) (show t<=6 by omega)
  refine⟨_,rfl,?_⟩;refine lcA (j:=λh=>h A) (jT t) jC (λS=>jC (S++ [t])) (by omega) kA (λR r=>⟨_,rfl,r⟩) (λS hS Q' q'=>⟨_,rfl,_,rfl,(by show 1<=sizeLine;decide),?_,?_⟩) (λF eF=> ?_)
  ·have:=(vb hS).len;rw [G0];exact D5 (jx (by simp only [D3,R8];omega))
  ·have:jC (S++ [t])= .tup ((S.map λ(k:Nat)=>D.int (k:Int))++ [.int (t:Int)]):=by unfold jC;rw [List.map_append];rfl
   rw [this] at q';exact q'
  ·refine⟨_,_,ji kA eF,jd,?_,λp3 e3=>⟨_,Sub.refl _,by omega,p3,_,_,rfl,?_,(((sb).newAt eF).newAt e3)⟩⟩
   ·rw [G0,G0];exact D5 (jx (by omega))
   ·rw [jd];show _=some ((jT t++(jT t).map λS=>S++ [t]).map jC);rw [T7,S4];rfl
 rintro _ h3 ⟨A,a,b,rfl,kA,sb⟩;refine⟨_,rfl,A,(jT n).map toI,rfl,?_,?_,λp mss hp pm sr=>⟨_,Sub.refl _,q p _ (by rw [jd,Ws pm sr];rfl) (Sub.newAt sb hp)⟩⟩
 ·rw [kA,S4];exact congrArg some (S3 λS _=>(Qq S).symm)
 ·rw [G0,wS];exact C8 (F4 (by decide) h6) (by decide)
def Zf:RDn:=λds h Q=> ∃T,∃n e:Nat,ds= [jw T]/\Sq n e T/\1<=n/\n<=6/\ ∀A h',h A=none->h' A=some (((vf n).filter (vg n T)).map jC)->Sub h h'->Q (.lst A) h'
theorem Uo (Z:Zs mg)(F:Fun K "shut_sets" "shut_sets" yb f fd)(zO:jq P w K mg base n "want_table" ["thing"] wa)(GC:jq P w K mg base n "all_sets" ["size"] WA)(WY:jq P w K mg base n "keeps_arrows" ["table","some"] yU):FnOk P w K mg base CX0 (n+1) f fd ["table"] (LSp K Zf):=by
 refine F.okM yK (λhr=>(je (VR (jk zO hr (j1 (jv 0)))) (by exact(jf (zB (jl1 1 yK (jX (jk GC hr (j1 (ZJ Z (jv 0))))) (λ_ _ _ _=>(wy (jk WY hr (j2 (jv 0) (jv 1))))) (λ_ _ _ _=>(jv 1)))))))) ?_;rintro ds h Q ⟨T,n,b,rfl,hT,h1,h6,q⟩;refine⟨rfl,?_⟩;refine jg (λσ' h'=>σ'= [some (jw T),none]/\h=h') (λC hC=>⟨_,rfl,T,n,b,rfl,hT,h1,h6,hC _ _ ⟨rfl,rfl⟩⟩) ?_;rintro _ _ ⟨rfl,rfl⟩;have l64:=Nv h6;refine MN ⟨_,rfl,n,by rw [G0,hT.len],h6,λA h2 kA sb=> ?_⟩;refine lcF (j:=λh=>h A) (vf n) jC jC (vg n T) (by omega) kA (λR r=>r) (λS hS Q' q'=>⟨_,rfl,_,rfl,T,S,n,b,rfl,hT,setsS_mem.mp hS,h6,_,rfl,q'⟩) (λS hS _ Q' q'=>⟨_,rfl,q'⟩) (λF eF=>⟨_,Sub.refl _,q F _ (ZF sb eF) jd (Sub.newAt sb eF)⟩)
def Jm:RDx:=λds h R=> ∃d,ds= [d]/\okD d=true/\RV d=false/\R "NoTable" h
theorem Vm (Z:Zs mg)(Ex:Exc K mg)(F:Fun K "shut_sets" "shut_sets" yb f fd)(CR_want_table:Wh P w K mg base n "want_table" ["thing"] vt):FnOk P w K mg base (CXR P w) (n+1) f fd ["table"] (MX mg K Jm):=by
 refine F.okMX yK (λhr=>(Fj (jxk CR_want_table hr (j1 (jv 0))))) ?_;rintro ds h R ⟨d,rfl,ok,bad,q⟩;refine⟨rfl,?_⟩;exact⟨_,rfl,d,rfl,ok,bad,q⟩
variable {h:HD}
theorem Ef {b:D->SD->SD->Prop}{js:List Nat}{ti:TID}{tt:TTD}{te:TED}{E:EndsD}{σ:SD}(x:yD b js ti tt te σ h λv h1=>E.rt v h1):QZ (yD b js ti tt te) E σ h:=x
def wx:RDn:=λds h Q=> ∃T,∃n e:Nat,ds= [jw T]/\Sq n e T/\1<=n/\n<=6/\(vQ T n).length=1/\ ∀ (st:List Nat) (A:Addr) (h':HD),st.length=n->(∀j,j<n->RP n T (st.getD j 0) 0 j)->st.getD 0 0=0->h' A=some (st.map λ(k:Nat)=>D.int (k:Int))->Sub h h'->Q (.lst A) h'
theorem vN (Z:Zs mg)(F:Fun K "steps_from_start" "steps_from_start" zu f fd)(yV:jq P w K mg base n "step_after" ["table","some"] yi):FnOk P w K mg base CX0 (n+1) f fd ["table"] (LSp K wx):=by
 refine F.okM jp (λhr=>(je (jse 1 jp Ec) (by exact(je (jse 2 jp (zC (j1 jm))) (by exact(je (jse 3 jp jm) (by exact(je (DD S6 (jt1 UT (zE FM rfl Z.len PySem.boot_len (j1 (jv 1))) (ZJ Z (jv 0))) (je (jse 2 jp (jk yV hr (j2 (jv 0) (jv 2)))) (by exact(je (CT (i:=3) jp.nd rfl (Or.inl rfl) jm) (by exact(jf (YQ S6 rfl (jX (jv 2)) (jgn 4 jp) (jf (VR (Ki hr (jv 1) (jv 4) (jv 3))))))))))) (by exact(jf (zB (jl0 4 jp (jrg Z (ZJ Z (jv 0))) (λ_ _ _ _=>(Kg hr (jv 1) (jv 4))))))))))))))) ?_;rintro ds h Q ⟨T,n,b,rfl,hT,n1,n6,one,q⟩;refine⟨rfl,?_⟩;have h8:n<=8:=by omega
 have hlen:(((T.map vk).length:Nat):Int)=(n:Int):=by rw [G0,hT.len]
 refine jg (λσ' h'=> ∃a,σ'= [some (jw T),some (.dct a),none,none,none]/\h.dc a=none/\h'.dc a=some (.ik [(0,.int 0)])/\Sub h h') (λC hC=>λa ea=>hC _ _ ⟨a,rfl,ea,vV,.newC ea⟩) ?_;rintro _ h1 ⟨a,rfl,fa,ka,sb⟩;refine jg (λσ' h'=>σ'= [some (jw T),some (.dct a),some (jC [0]),none,none]/\h1=h') (λC hC=>⟨(by show 1<=sizeLine;decide),hC _ _ ⟨rfl,rfl⟩⟩) ?_;rintro _ _ ⟨rfl,rfl⟩;refine jg (λσ' h'=>σ'= [some (jw T),some (.dct a),some (jC [0]),some (.int 0),none]/\h1=h') (λC hC=>hC _ _ ⟨rfl,rfl⟩) ?_;rintro _ _ ⟨rfl,rfl⟩;refine jg (λσ' h'=> ∃kv s x2 x3 x4,σ'= [some (jw T),some (.dct a),x2,x3,x4]/\h'.dc a=some (.ik kv)/\FI n T s s kv/\n<=kv.length/\Sub h h') (λC hC=> ?_) ?_
 ·refine YW (λm σ' h'=> ∃ (kv:List (Int×D)) (s:Nat) (x4:Option D),σ'= [some (jw T),some (.dct a),some (jC (itF (wJ n T) [0] s)),some (.int (s:Int)),x4]/\m=n-kv.length/\h'.dc a=some (.ik kv)/\FI n T s s kv/\Sub h h') (n-1) ⟨_,0,none,rfl,rfl,ka,.first n1,sb⟩ ?_;clear ka sb;rintro m _ h2 ⟨kv,s,x4,rfl,rfl,ka,g,sb⟩;refine⟨_,rfl,a,kv,rfl,ka,_,rfl,_,rfl,?_⟩;show if decide (((kv.length:Nat):Int)<(((T.map vk).length:Nat):Int))=true then _ else _
  rw [hlen];have gl:=g.len
  by_cases full:kv.length<n
  ·rw [G9 (by omega)];refine vS ?_;have isS:IsS n (itF (wJ n T) [0] s):=(FN (show 0<n by omega)).it s;refine jg (λσ' h'=>σ'= [some (jw T),some (.dct a),some (jC (itF (wJ n T) [0] (s+1))),some (.int (s:Int)),x4]/\h2=h') (λC hC=>⟨_,rfl,_,rfl,T,_,n,b,rfl,hT,isS,n6,hC _ _ ⟨rfl,rfl⟩⟩) ?_;rintro _ _ ⟨rfl,rfl⟩;refine jg (λσ' h'=>σ'= [some (jw T),some (.dct a),some (jC (itF (wJ n T) [0] (s+1))),some (.int ((s+1:Nat):Int)),x4]/\h2=h') (λC hC=>⟨_,rfl,1,rfl,hC _ _ ⟨rfl,rfl⟩⟩) ?_;rintro _ _ ⟨rfl,rfl⟩;have mem:=RL hT h8 (show 0<n by omega) (s+1);generalize hSe:itF (wJ n T) [0] (s+1)=S at mem;refine ZB (j:=λ_=>some (S.map λ(k:Nat)=>D.int (k:Int))) (S.map λ(k:Nat)=>D.int (k:Int)) (λi σ' h'=> ∃ (kv':List (Int×D)) (x4:Option D),σ'= [some (jw T),some (.dct a),some (jC S),some (.int ((s+1:Nat):Int)),x4]/\h'.dc a=some (.ik kv')/\FI n T s (s+1) kv'/\(∀y∈kv.map (·.1),y∈kv'.map (·.1))/\(∀j∈S.take i,(j:Int)∈kv'.map (·.1))/\Sub h h') (λR r=>⟨_,rfl,r⟩) (λ_ _ _ _=>rfl) ⟨kv,x4,rfl,ka,⟨g.nd,λp hp=>by
    obtain⟨j,v,e1,hj,hv,r⟩:=g.ok p hp;exact⟨j,v,e1,hj,by omega,r⟩,g.all,g.zero⟩,λy hy=>hy,(λj hj=>by rw [Y1] at hj;cases hj),sb⟩ ?_ ?_
   ·rintro _ h3 ⟨kv',x4',rfl,ka',g',old,new,sb'⟩;rw [G0,E3] at new;obtain⟨v,hv,rv,vn⟩:=FI.grow hT h8 n1 one g full;have big:kv.length<kv'.length:=by
     have:=wT (xs:=(v:Int)::kv.map (·.1)) (ys:=kv'.map (·.1)) (O2.mpr ⟨vn,g.nd⟩) λy hy=>by
      rcases D0.mp hy with z|z
      ·rw [z];exact new v ((mem v).mpr ⟨hv,rv⟩)
      ·exact old y z
     rw [D3,G0,G0] at this;omega
    refine⟨n-kv'.length,h3,by omega,Sub.refl _,kv',s+1,x4',?_,rfl,ka',⟨g'.nd,g'.ok,λj w hj hw r=> ?_,g'.zero⟩,sb'⟩
    ·rw [hSe]
    ·rcases C7 s w with z|z
     ·rw [show w=s+1 by omega] at r;exact new j ((mem j).mpr ⟨hj,r⟩)
     ·exact g'.all j w hj z r
   ·rintro i d _ h3 hd ⟨kv',x4',rfl,ka',g',old,new,sb'⟩;rw [D2] at hd;obtain⟨j,hj,rfl⟩:=M6.mp hd;have il:i<(S.map λ(k:Nat)=>D.int (k:Int)).length:=by rw [G0];exact(G5.mp hj).1
    obtain⟨jn,rj⟩:=(mem j).mp (G7 hj);have tk:S.take (i+1)=S.take i++ [j]:=by rw [T8,hj];rfl
    refine⟨_,rfl,a,kv',rfl,ka',_,rfl,_,rfl,(j:Int),kv',rfl,ka',by have:=g'.len;omega,λd hd=> ?_,λhn=> ?_⟩
    ·refine⟨_,Sub.refl _,by omega,kv',_,rfl,ka',g',old,λx hx=> ?_,sb'⟩;rw [tk] at hx;rcases P9.mp hx with z|z
     ·exact new x z
     ·rw [G2.mp z];exact D8.mpr ⟨_,Qz hd,rfl⟩
    ·refine⟨_,Sub.refl _,by omega,_,_,rfl,vV,g'.put hn jn (G8 _) rj,λy hy=>(ZI hn y).mpr (.inl (old y hy)),λx hx=> ?_,sb'.overC fa⟩;rw [tk] at hx;rcases P9.mp hx with z|z
     ·exact(ZI hn _).mpr (.inl (new x z))
     ·rw [G2.mp z];exact(ZI hn _).mpr (.inr rfl)
  ·rw [D1 (by omega)];exact wc (hC _ _ ⟨kv,s,_,_,_,rfl,ka,g,by omega,sb⟩)
 rintro _ h2 ⟨kv,s,x2,x3,x4,rfl,ka',g,fl,sb⟩;have get:=λj hj=>g.get (j:=j) (g.full fl hj)
 refine Ef (lcA (List.range n) (λ(i:Nat)=> .int (i:Int)) (λ(i:Nat)=>(vp kv (i:Int)).getD .non) (by rw [R4];omega) rfl (λR r=>⟨_,rfl,(n:Int),by rw [hlen],by omega,by omega,r⟩) (λi hi Q' q'=> ?_) λA eA=> ?_)
 ·obtain⟨v,hv,_⟩:=get i (P2.mp hi);rw [hv] at q';exact⟨_,rfl,_,rfl,a,_,kv,_,rfl,rfl,ka',hv,q'⟩
 ·let st:List Nat:=(List.range n).map λ(j:Nat)=>match vp kv (j:Int) with
   |some (.int v)=>v.toNat
   |_=>0
  have at_: ∀j,j<n-> ∃v:Nat,vp kv (j:Int)=some (.int (v:Int))/\st.getD j 0=v/\RP n T v 0 j:=λj hj=>by
   obtain⟨v,hv,_,r⟩:=get j hj;refine⟨v,hv,?_,r⟩;show ((List.range n).map _).getD j 0=v;rw [P1,D2,L5 hj];show (match vp kv (j:Int) with|some (.int v)=>v.toNat|_=>0)=v;rw [hv];rfl
  refine⟨_,Sub.refl _,q st A _ (by show ((List.range n).map _).length=n;rw [G0,R4]) (λj hj=>by obtain⟨v,_,e1,r⟩:=at_ j hj;rw [e1];exact r) ?_ ?_ (sb.newAt eA)⟩
  ·obtain⟨v,hv,e1,_⟩:=at_ 0 (by omega);have:=g.zero;rw [show (0:Int)=((0:Nat):Int) from rfl,hv] at this;injection this with this
   injection this with this
   rw [e1];omega
  ·rw [jd];show _=some (((List.range n).map _).map _);rw [S4];refine congrArg some (S3 λj hj=> ?_);obtain⟨v,hv,e1,_⟩:=at_ j (P2.mp hj);show (vp kv (j:Int)).getD .non=D.int (((match vp kv (j:Int) with|some (.int v)=>v.toNat|_=>0:Nat)):Int);rw [hv];rfl
/-- turns: a rest for each place,that go on by one along arrows -/
structure TurnsOf (T:List (List Int))(n d:Nat)(rs:List Nat):Prop where
 len:rs.length=n
 lt: ∀j,j<n->rs.getD j 0<d
 go: ∀i j,i<n->j<n->ent T i j≠0->rs.getD j 0=(rs.getD i 0+1)%d
variable {Q:KD}
theorem NI {b:D->SD->SD->Prop}{js:List Nat}{ti:TID}{tt:TTD}{te:TED}{σ:SD}(x:ti σ h λj h1=>dCB vj (jY (yD b js (λ_ _ R=>R j h1) tt te) Zo) σ h1 Q):dCB vj (jY (yD b js ti tt te) Zo) σ h Q:=x
theorem Yw (h6:n<=6)(nz:zc T n≠0):1<=zc T n/\zc T n<=6:=by
 have ne:wq T n≠ []:=λz=>nz (by show ((wq T n).map List.length).foldl Nat.gcd 0=0;rw [z];rfl)
 obtain⟨w,hw⟩:=List.exists_mem_of_ne_nil _ ne;obtain⟨s,hs,o,_⟩:=RA hw;have dv:zc T n∣w.length:=((Va ((wq T n).map List.length) 0 (zc T n)).mp (G1p _)).2 _ (V0 hw);have:=Nat.le_of_dvd (by rw [o.len];omega) dv;have:=o.len;omega
def WB:RDn:=λds h Q=> ∃T,∃n e:Nat,ds= [jw T]/\Sq n e T/\1<=n/\n<=6/\(vQ T n).length=1/\zc T n≠0/\ ∀ (rs:List Nat) (h':HD),TurnsOf T n (zc T n) rs->rs.getD 0 0=0->Sub h h'->Q (.tup [.int ((zc T n:Nat):Int),jC rs]) h'
theorem Xv (Z:Zs mg)(F:Fun K "turns_of" "turns_of" JU f fd)(Md:jq P w K mg base n "beat" ["table"] Xt)(Jw:jq P w K mg base n "steps_from_start" ["table"] wx):FnOk P w K mg base CX0 (n+1) f fd ["table"] (LSp K WB):=by
 refine F.okM vG (λhr=>(je (jse 1 vG (jk Md hr (j1 (jv 0)))) (by exact(je (vY (jt1 oq_eq (jv 1) jm) (jf VS) jG) (by exact(jf (zB (zC (j2 (jv 1) (zF wj rfl Z.tuple (by decide +kernel) (j1 (jl0 2 vG (jX (jk Jw hr (j1 (jv 0)))) (λ_ _ _ _=>(jop vi (jv 2) (jv 1))))))))))))))) ?_;rintro ds h Q ⟨T,n,b,rfl,hT,n1,n6,one,nz,q⟩;refine⟨rfl,?_⟩;obtain⟨b1,b6⟩:=Yw n6 nz;refine jg (λσ' h'=>σ'= [some (jw T),some (.int ((zc T n:Nat):Int)),none]/\h=h') (λC hC=>⟨_,rfl,T,n,b,rfl,hT,n1,n6,one,hC _ _ ⟨rfl,rfl⟩⟩) ?_;rintro _ _ ⟨rfl,rfl⟩;refine jg (λσ' h'=>σ'= [some (jw T),some (.int ((zc T n:Nat):Int)),none]/\h=h') (λC hC=>⟨_,rfl,_,rfl,?_⟩) ?_
 ·show if decide (((zc T n:Nat):Int)=0)=true then _ else _
  rw [D1 (by omega)];exact wc (hC _ _ ⟨rfl,rfl⟩)
 rintro _ _ ⟨rfl,rfl⟩;refine⟨_,rfl,NI ⟨_,rfl,T,n,b,rfl,hT,n1,n6,one,λst A h' sl sr s0 kA sb=> ?_⟩⟩;refine Es (j:=λh=>h A) st (λ(k:Nat)=> .int (k:Int)) (λ(k:Nat)=> .int ((k%zc T n:Nat):Int)) (by omega) kA (λR r=>r) (λk hk Q' q'=>⟨_,rfl,_,rfl,by omega,?_⟩) ⟨(by show 2<=sizeLine;decide),h,sb,?_⟩
 ·rw [<-G0N];exact q'
 ·have at_: ∀j,(st.map λk=>k%zc T n).getD j 0=st.getD j 0%zc T n:=λj=>by
   rw [P1,P1,D2];cases st[j]? with
   |none=>rw [Option.map_none];exact(G0V _).symm
   |some x=>rfl
  have:=q (st.map λk=>k%zc T n) h ⟨by rw [G0];exact sl,λj hj=>by rw [at_];exact U4 _ b1,λi j hi hj ar=>by
   rw [at_,at_,Nat.mod_add_mod];exact ND hT (by omega) one hi hj n1 (sr i hi) (sr j hj) ar (G1p (zc T n))⟩ (by rw [at_,s0];exact G0V _) (Sub.refl h)
  unfold jC at this;rw [S4] at this;exact this
/-- what is told where no power is full,or nothing -/
def EC (n:Nat)(T:List (List Int))(t:D):Prop:=(∃S,t= .tup [.str "shut",jC S]/\IsS n S/\0<S.length/\S.length<n/\vg n T S=true)\/((vQ T n).length=1/\((t= .tup [.str "turns",.int 2,jC [0]]/\zc T n=0)\/(∃rs,t= .tup [.str "turns",.int ((zc T n:Nat):Int),jC rs]/\TurnsOf T n (zc T n) rs/\2<=zc T n)\/(t= .non/\zc T n=1)))
theorem FV {S:List Nat}(h:IsS n S)(l: ¬S.length<n){j:Nat}(hj:j<n):j∈S:=by
 obtain⟨p,rfl⟩:=h;have:((List.range n).filter p).length=(List.range n).length:=by
  have:=C5 p (List.range n);rw [R4] at this ⊢;omega
 exact S8.mpr ⟨P2.mpr hj,List.length_filter_eq_length_iff.mp this j (P2.mpr hj)⟩
theorem Xw (h:Sq n e T)(hn:n<=8)(n1:1<=n)(no: ∀S,IsS n S->vg n T S=true-> ¬ (0<S.length/\S.length<n)):(vQ T n).length=1:=
 RK h hn n1 λi j hi hj=>by
  have a:=no (clS n T [i]) (Ru n T [i]) (FA n T [i]);have m:i∈clS n T [i]:=mem_cl.mpr ⟨hi,i,G2.mpr rfl,JN T n i⟩;have pos:0<(clS n T [i]).length:=X1 m;obtain⟨_,x,hx,w⟩:=mem_cl.mp (FV (Ru n T [i]) (λz=>a ⟨pos,z⟩) hj);rw [G2.mp hx] at w;exact(Ed h hn hi w).2
def Zg:RDn:=λds h Q=> ∃T,∃n e:Nat,ds= [jw T]/\Sq n e T/\1<=n/\n<=6/\ ∀t,EC n T t->Q t h
theorem Up (Z:Zs mg)(F:Fun K "why_never" "why_never" yc f fd)(XD:jq P w K mg base n "shut_sets" ["table"] Zf)(Md:jq P w K mg base n "beat" ["table"] Xt)(GE:jq P w K mg base n "turns_of" ["table"] WB):FnOk P w K mg base CX0 (n+1) f fd ["table"] (LSp K Zg):=by
 refine F.okM wC (λhr=>(je (YQ S6 rfl (jX (jk XD hr (j1 (jv 0)))) (jgn 1 wC) (jf (vY (UY UT UT jm (ZJ Z (jv 1)) (ZJ Z (jv 0))) (jf (zB (zC (j2 Za (jv 1))))) jG))) (by exact(je (jse 2 wC (jk Md hr (j1 (jv 0)))) (by exact(je (vY (jt1 oq_eq (jv 2) jm) (jf (zB (zC (j3 Za jm (zC (j1 jm)))))) jG) (by exact(jf (zB (jif (jt1 ME (jv 2) jm) (jop zn (zC (j1 Za)) (jk GE hr (j1 (jv 0)))) CG)))))))))) ?_;rintro ds h Q ⟨T,n,b,rfl,hT,h1,h6,q⟩;refine⟨rfl,?_⟩;have h8:n<=8:=by omega
 have hlen:(((T.map vk).length:Nat):Int)=(n:Int):=by rw [G0,hT.len]
 refine jg (λσ' h'=> ∃a,σ'= [some (jw T),a,none]/\Sub h h'/\(vQ T n).length=1) (λC hC=> ?_) ?_
 ·refine⟨_,rfl,T,n,b,rfl,hT,h1,h6,λA h' fA kA sb=> ?_⟩;refine vX (j:=λh=>h A) (((vf n).filter (vg n T)).map jC) (λi σ' h2=> ∃a,σ'= [some (jw T),a,none]/\h'=h2/\ ∀S∈((vf n).filter (vg n T)).take i,¬ (0<S.length/\S.length<n)) (λi σ' h2 ⟨_,_,e,_⟩=>by rw [<-e];exact kA) ⟨none,rfl,rfl,λS hS=>by rw [Y1] at hS;cases hS⟩ ?_ ?_
  ·rintro σ' h2 ⟨a,e,eh,lo⟩;rw [G0,E3] at lo;exact hC _ _ ⟨a,e,eh ▸ sb,Xw hT h8 h1 λS hS sh=>lo S (S8.mpr ⟨setsS_mem.mpr hS,sh⟩)⟩
  rintro i d _ _ hd ⟨a,rfl,rfl,lo⟩;have hil:=(G5.mp hd).1;rw [D2] at hd;obtain⟨S,eS,rfl⟩:=M6.mp hd;have mS:=S8.mp (G7 eS);have iS:=setsS_mem.mp mS.1;refine⟨_,rfl,?_⟩;show ∃k,D.bl (decide ((0:Int)<(((S.map λ(k:Nat)=>D.int (k:Int)).length:Nat):Int)))= .bl k/\_;rw [G0];have go: ¬ (0<S.length/\S.length<n)-> ∀S'∈((vf n).filter (vg n T)).take (i+1),¬ (0<S'.length/\S'.length<n):=λz S' hS'=>by
   rw [T8,eS] at hS';rcases P9.mp hS' with w|w
   ·exact lo S' w
   ·rw [G2.mp w];exact z
  by_cases p1:0<S.length
  ·rw [G9 (by omega)];refine⟨_,rfl,vS ⟨_,rfl,?_⟩⟩;show ∃k,D.bl (decide (((S.length:Nat):Int)<(((T.map vk).length:Nat):Int)))= .bl k/\_;rw [hlen]
   by_cases p2:S.length<n
   ·rw [G9 (by omega)];exact⟨_,rfl,vS ⟨_,rfl,(by show 2<=sizeLine;decide),h,sb,q _ (.inl ⟨S,rfl,iS,p1,p2,mS.2⟩)⟩⟩
   ·rw [D1 (by omega)];exact⟨_,rfl,wc ⟨_,Sub.refl _,hil,_,rfl,rfl,go λz=>p2 z.2⟩⟩
  ·rw [D1 (by omega)];exact⟨_,rfl,wc ⟨_,rfl,wc ⟨_,Sub.refl _,hil,_,rfl,rfl,go λz=>p1 z.1⟩⟩⟩
 rintro _ h' ⟨a,rfl,sb,one⟩;refine jg (λσ' h2=>σ'= [some (jw T),a,some (.int ((zc T n:Nat):Int))]/\h'=h2) (λC hC=>⟨_,rfl,T,n,b,rfl,hT,h1,h6,one,hC _ _ ⟨rfl,rfl⟩⟩) ?_;rintro _ _ ⟨rfl,rfl⟩;refine jg (λσ' h2=>σ'= [some (jw T),a,some (.int ((zc T n:Nat):Int))]/\h'=h2/\zc T n≠0) (λC hC=>⟨_,rfl,_,rfl,?_⟩) ?_
 ·show if decide (((zc T n:Nat):Int)=0)=true then _ else _
  by_cases z:zc T n=0
  ·rw [G9 (by omega)];exact vS ⟨(by show 1<=sizeLine;decide),(by show 3<=sizeLine;decide),h,sb,q _ (.inr ⟨one,.inl ⟨rfl,z⟩⟩)⟩
  ·rw [D1 (by omega)];exact wc (hC _ _ ⟨rfl,rfl,z⟩)
 rintro _ _ ⟨rfl,rfl,nz⟩;refine⟨_,rfl,_,rfl,?_⟩;show if decide ((2:Int)<=((zc T n:Nat):Int))=true then _ else _
 by_cases z:2<=zc T n
 ·rw [G9 (by omega)];exact vS ⟨(by show 1<=sizeLine;decide),_,rfl,T,n,b,rfl,hT,h1,h6,one,nz,λrs h3 t _ sb3=>⟨(by show 3<=sizeLine;decide),h,sb.trans sb3,q _ (.inr ⟨one,.inr (.inl ⟨rs,rfl,t,z⟩)⟩)⟩⟩
 ·rw [D1 (by omega)];exact wc ⟨h,sb,q _ (.inr ⟨one,.inr (.inr ⟨rfl,by omega⟩)⟩)⟩
def Jn:RDx:=λds h R=> ∃d,ds= [d]/\okD d=true/\RV d=false/\R "NoTable" h
theorem Vn (Z:Zs mg)(Ex:Exc K mg)(F:Fun K "why_never" "why_never" yc f fd)(CR_shut_sets:Wh P w K mg base n "shut_sets" ["table"] Jm):FnOk P w K mg base (CXR P w) (n+1) f fd ["table"] (MX mg K Jn):=by
 refine F.okMX wC (λhr=>(AF (jxk CR_shut_sets hr (j1 (jv 0))))) ?_;rintro ds h R ⟨d,rfl,ok,bad,q⟩;refine⟨rfl,?_⟩;exact⟨_,rfl,d,rfl,ok,bad,q⟩
def Zh:RDn:=λds h Q=> ∃ns k,ds= [.scr ns,.int k]/\0<=k/\ ∀n,Q (.int n) h
theorem Uq (Z:Zs mg)(F:Fun K "_law_cell" "_law_cell" vH f fd):FnOk P w K mg base CX0 (n+1) f fd ["_law_script","_law_k"] (LSp K Zh):=by
 refine F.okM Ui (λhr=>(je (vY (jt1 UT (jv 1) (ZJ Z (jv 0))) (jf (zB (ji1 (jv 0) (jv 1)))) jG) (by exact(jf (zB jm))))) ?_;rintro ds h Q ⟨ns,k,rfl,h0,q⟩;refine⟨rfl,?_⟩;simp only [PK,Ld,Zp,dOp,GL,jQ,S1,F7,D3,R8,B3,M1,K3,N7,O0,dCB,jY,Zo,Lh,Bc,D.bl.injEq,QZ,ixD,VM,A7,QY,dC];refine UN (λc=> ?_) (λ_=>⟨h,Sub.refl h,q 0⟩);have c':k<(ns.length:Int):=S9 c;have hk:k.toNat<ns.length:=by omega
 have ek:k=((k.toNat:Nat):Int):=by omega
 have z:=wW (G1 hk);rw [<-ek] at z;exact⟨ns[k.toNat],z,h,Sub.refl h,q _⟩
def WC:RDn:=λds h Q=> ∃c,ds= [.int c]/\ ∀p l fl,h p=none->0<=l->(fl=0\/fl=1)->Q (.lst p) (we h p [.int l,.int fl])
theorem Xx (Z:Zs mg)(F:Fun K "_law_pen" "_law_pen" JV f fd):FnOk P w K mg base CX0 (n+1) f fd ["_law_cell_here"] (LSp K WC):=by
 refine F.okM Ww (λhr=>(je (jse 1 Ww (zE (OV rfl) rfl Z.max (by decide +kernel) (j2 (jv 0) (jop XV jm (jv 0))))) (by exact(jf (zB (Zb (j2 (jv 1) (zF PU rfl Z.int (by decide +kernel) (j1 (jc1 ME (jv 1) (jop Bd jm jm))))))))))) ?_;rintro ds h Q ⟨c,rfl,q⟩;refine⟨rfl,?_⟩;simp only [PK,MC,dCB,jY,GL,jQ,S1,F7,D3,R8,List.replicate,B3,M1,N7,O0,dOp,dC,TL,Zo,SB,QZ,Lc,List.set_cons_succ,List.set_cons_zero,K3,TQ,Bc,SA,VM,A7];refine⟨⟨by decide,by decide,by decide⟩,by decide,λp hp=>⟨_,Sub.refl _,q p _ _ hp ?_ ?_⟩⟩
 ·split<;>omega
 ·split<;>simp<;>omega
def wD:RDn:=λds h Q=> ∃p l fl m,ds= [.lst p,.int m]/\h p=some [.int l,.int fl]/\0<=l/\0<m/\m<2^200/\ ∀r l',0<=r->r<m->0<=l'->Q (.int r) (we h p [.int l',.int fl])
theorem Ur (Z:Zs mg)(F:Fun K "_law_draw" "_law_draw" vI f fd):FnOk P w K mg base CX0 (n+1) f fd ["_law_pen_here","_law_many"] (LSp K wD):=by
 refine F.okM wF (λhr=>(je (vY (jt1 oq_eq (ji1 (jv 0) jm) jm) (je (An (zE Gk rfl Z.divmod (by decide +kernel) (j2 (ji1 (jv 0) jm) (jv 1))) (Qa (i:=2) (j:=3) rfl wF.nd rfl rfl (Or.inl rfl) (Or.inl rfl))) (by exact(je (An (jv 2) (Dm (jv 0) jm)) (by exact(jf (zB (jv 3))))))) jG) (by exact(je (jse 4 wF (jop vi (jop JD (jop zn (jop vi (ji1 (jv 0) jm) jm) jm) jm) jm)) (by exact(je (jse 4 wF (jop vi (jop zn (jop JD (jv 4) (jv 4)) jm) jm)) (by exact(je (An (jop vi (jop zn (jop JD (jv 4) jm) jm) jm) (Dm (jv 0) jm)) (by exact(jf (zB (jop vi (jop Cv (ji1 (jv 0) jm) jm) (jv 1))))))))))))) ?_;rintro ds h Q ⟨p,l,fl,m,rfl,hp,h0,hm,hm2,q⟩;refine⟨rfl,?_⟩;refine jg (λσ' h'=>σ'= [some (.lst p),some (.int m),none,none,none]/\h=h') (λC hC=>⟨_,rfl,_,_,hp,rfl,?_⟩) ?_
 ·show ∃k,D.bl (decide (fl=1))= .bl k/\_;refine⟨_,rfl,UN (λ_=> ?_) λ_=>hC _ _ ⟨rfl,rfl⟩⟩;exact⟨_,rfl,_,_,hp,rfl,_,rfl,_,_,rfl,⟨hm,hm2⟩,_,_,rfl,_,rfl,_,rfl,p,0,_,0,rfl,rfl,hp,rfl,_,rfl,_,Sub.refl _,q (l%m) (l / m) (G0g _ (Int.ne_of_gt hm)) (G0q _ hm) (Int.ediv_nonneg h0 (Int.le_of_lt hm))⟩
 rintro _ _ ⟨rfl,rfl⟩;refine jg (λσ' h'=> ∃z:Int,σ'= [some (.lst p),some (.int m),none,none,some (.int z)]/\(0<=z/\z<2147483629)/\h=h') (λC hC=>⟨_,rfl,_,_,hp,rfl,by decide,.inr ⟨by decide,by decide⟩,by decide,hC _ _ ⟨_,rfl,⟨G0g _ (by decide),G0q _ (by decide)⟩,rfl⟩⟩) ?_;rintro _ _ ⟨z,rfl,⟨z0,z1⟩,rfl⟩;refine jg (λσ' h'=> ∃y:Int,σ'= [some (.lst p),some (.int m),none,none,some (.int y)]/\h=h') (λC hC=>⟨_,rfl,_,rfl,.inl ⟨Int.lt_of_lt_of_le (by decide) z0,Int.lt_trans z1 (by decide)⟩,by decide,hC _ _ ⟨_,rfl,rfl⟩⟩) ?_;rintro _ _ ⟨y,rfl,rfl⟩;refine jg (λσ' h'=> ∃x:Int,σ'= [some (.lst p),some (.int m),none,none,some (.int y)]/\0<=x/\h'=we h p [.int x,.int fl]) (λC hC=>⟨_,rfl,.inr ⟨by decide,by decide⟩,by decide,_,rfl,p,0,_,0,rfl,rfl,hp,rfl,hC _ _ ⟨_,rfl,G0g _ (by decide),rfl⟩⟩) ?_;rintro _ _ ⟨x,rfl,x0,rfl⟩;exact⟨_,rfl,_,_,jd,rfl,⟨by decide,by decide⟩,_,rfl,hm,_,Sub.refl _,q (x / 32%m) x (G0g _ (Int.ne_of_gt hm)) (G0q _ hm) x0⟩
theorem Vo (Z:Zs mg)(F:Fun K "_law_whole" "_law_whole" yL f fd):FnOk P w K mg base CX0 (n+1) f fd ["_law_thing"] (LSp K ww):=by
 refine F.okM Vg (λhr=>(jf (zB (Mh (YS (T:= "int") (by decide) rfl Z.isinstance rfl Z.int (by decide +kernel) (jv 0)) (GN (TU (YS (T:= "bool") (by decide) rfl Z.isinstance rfl Z.bool (by decide +kernel) (jv 0)))))))) ?_;rintro ds h Q ⟨d,nm,rfl,hn,q⟩;refine⟨rfl,?_⟩;simp only [QZ,PF,dIs,GL,jQ,S1,F7,D3,R8,B3,M1,N7,O0,D.bl.injEq,PH,VM,A7,hn];cases d<;>cases hn<;>exact⟨h,Sub.refl h,q⟩
def Gy (c:Str)(n:Nat):List D:=((CN13.map λd=>c==d).take n).map D.bl
def NJ (c:Str):List PyData:=(CN13.map λd=>c==d).map PyData.bool
def wordsD:List D:=(["table","place","number","order","set","walk","lengths","way","apart","row","tables","text","great"]:List Str).map D.str
theorem RZ: ∀bs:List Bool,ToPs h (bs.map D.bl) (bs.map PyData.bool)
 | []=>rfl
 |b::bs=>⟨_,_,rfl,rfl,RZ bs⟩
variable {j:Nat}
theorem zd {l:List Bool}(h:(l.take j).all (!·)=true){m:Nat}{y:PyData}(hm:m<j)(e:(l.map PyData.bool)[m]? =some y):PyData.eqv y (.bool true)=false:=by
 rw [D2] at e;obtain⟨b,e1,rfl⟩:=M6.mp e;have:=R0.mp h b (G7 (i:=m) (by rw [O4 hm];exact e1));cases b with
 |true=>cases this
 |false=>rfl
theorem Ti {c:Str}(hc:c∈CN): ∃j:Nat,j<10/\(NJ c)[j]? =some (.bool true)/\(∀m y,m<j->(NJ c)[m]? =some y->PyData.eqv y (.bool true)=false)/\atI wordsD (j:Int)=some (D.str (Jd c))/\((NJ c).countP λz=>PyData.eqv z (.bool true))=1:=by
 simp only [CN,D0,M0,W5] at hc;rcases hc with rfl|rfl|rfl|rfl|rfl|rfl|rfl|rfl|rfl|rfl
 ·exact⟨0,by decide,rfl,λm y=>zd rfl,rfl,rfl⟩
 ·exact⟨1,by decide,rfl,λm y=>zd rfl,rfl,rfl⟩
 ·exact⟨2,by decide,rfl,λm y=>zd rfl,rfl,rfl⟩
 ·exact⟨3,by decide,rfl,λm y=>zd rfl,rfl,rfl⟩
 ·exact⟨4,by decide,rfl,λm y=>zd rfl,rfl,rfl⟩
 ·exact⟨5,by decide,rfl,λm y=>zd rfl,rfl,rfl⟩
 ·exact⟨6,by decide,rfl,λm y=>zd rfl,rfl,rfl⟩
 ·exact⟨7,by decide,rfl,λm y=>zd rfl,rfl,rfl⟩
 ·exact⟨8,by decide,rfl,λm y=>zd rfl,rfl,rfl⟩
 ·exact⟨9,by decide,rfl,λm y=>zd rfl,rfl,rfl⟩
theorem Vp (Z:Zs mg)(Ex:Exc K mg)(F:Fun K "_law_kind" "_law_kind" vJ f fd):FnOkU P w K mg base CX0 (n+1) f fd ["_law_e"] (LSp K (DV mg)):=by
 obtain⟨D_NoOrder,m_NoOrder⟩:=Ex.cls "NoOrder" (by decide);obtain⟨D_NoNumber,m_NoNumber⟩:=Ex.cls "NoNumber" (by decide);obtain⟨D_NoPlace,m_NoPlace⟩:=Ex.cls "NoPlace" (by decide);obtain⟨D_NoTable,m_NoTable⟩:=Ex.cls "NoTable" (by decide);obtain⟨D_NoLengths,m_NoLengths⟩:=Ex.cls "NoLengths" (by decide);obtain⟨D_NoWalk,m_NoWalk⟩:=Ex.cls "NoWalk" (by decide);obtain⟨D_NoSet,m_NoSet⟩:=Ex.cls "NoSet" (by decide);obtain⟨D_NoRow,m_NoRow⟩:=Ex.cls "NoRow" (by decide);obtain⟨D_Apart,m_Apart⟩:=Ex.cls "Apart" (by decide);obtain⟨D_NoWay,m_NoWay⟩:=Ex.cls "NoWay" (by decide);obtain⟨D_TooGreat,m_TooGreat⟩:=Ex.cls "TooGreat" (by decide);obtain⟨D_NoText,m_NoText⟩:=Ex.cls "NoText" (by decide);obtain⟨D_NoTables,m_NoTables⟩:=Ex.cls "NoTables" (by decide);refine F.okJU zp (λds h Q q=>by obtain⟨c,C,e,hc,hm,q⟩:=q;subst e;rfl) _ (λcdv A outer s H E hr=>(je (jse 1 zp (Zb (j4 (Gr rfl Z.isinstance rfl m_NoTable (jv 0)) (Gr rfl Z.isinstance rfl m_NoPlace (jv 0)) (Gr rfl Z.isinstance rfl m_NoNumber (jv 0)) (Gr rfl Z.isinstance rfl m_NoOrder (jv 0))))) (by exact(je (jse 1 zp (jop zn (jv 1) (Zb (j3 (Gr rfl Z.isinstance rfl m_NoSet (jv 0)) (Gr rfl Z.isinstance rfl m_NoWalk (jv 0)) (Gr rfl Z.isinstance rfl m_NoLengths (jv 0)))))) (by exact(je (jse 1 zp (jop zn (jv 1) (Zb (j3 (Gr rfl Z.isinstance rfl m_NoWay (jv 0)) (Gr rfl Z.isinstance rfl m_Apart (jv 0)) (Gr rfl Z.isinstance rfl m_NoRow (jv 0)))))) (by exact(je (jse 1 zp (jop zn (jv 1) (Zb (j3 (Gr rfl Z.isinstance rfl m_NoTables (jv 0)) (Gr rfl Z.isinstance rfl m_NoText (jv 0)) (Gr rfl Z.isinstance rfl m_TooGreat (jv 0)))))) (by exact(je (vY (jpt (GM (yE (wy (Kd (T:= "ValueError") rfl Z.isinstance rfl Ex.ve (by decide +kernel) (jv 0)))) (Bh (jt1 oq_ne (Kc hr.units (jv 1) jbl) jm)))) (jf (zB Za)) jG) (by exact(je (jse 2 zp (Zb (jac Za (by exact(jac Za (by exact(jac Za (by exact(jac Za (by exact(jac Za (by exact(jac Za (by exact(j4 Za Za Za Za))))))))))))))) (by exact(jf (zB (ji1 (jop zn (jv 2) (Zb (j3 Za Za Za))) (HY hr.units (jv 1) jbl))))))))))))))))) ?_;intro ds h Q q;obtain⟨c,C,e,hc,hm,q⟩:=q;subst e;have kit: ∀d∈CN13,∀D,mg d=some (.ref D)->PySem.W.kitOne K (.ref C) (.ref D)=some (c==d):=λd hd D hD=>Ex.kit c hc d hd C D hm hD
 have ek:=Ex.ek c hc C hm;have kv:=Ex.val c hc C hm;refine jg (λσ' h'=> ∃p,σ'= [some (.exc C),some (.lst p),none]/\Sub h h'/\h' p=some (Gy c 4)) (λC2 hC=>⟨_,rfl,C,_,rfl,ek,kit _ (by decide) _ m_NoTable,_,rfl,C,_,rfl,ek,kit _ (by decide) _ m_NoPlace,_,rfl,C,_,rfl,ek,kit _ (by decide) _ m_NoNumber,_,rfl,C,_,rfl,ek,kit _ (by decide) _ m_NoOrder,(by show 4<=sizeLine;decide),λp e=>hC _ _ ⟨p,rfl,Sub.newAt (Sub.refl h) e,jd⟩⟩) ?_;rintro _ h1 ⟨p,rfl,sb,k1⟩;refine jg (λσ' h'=> ∃p,σ'= [some (.exc C),some (.lst p),none]/\Sub h h'/\h' p=some (Gy c 7)) (λC2 hC=>⟨_,rfl,_,rfl,C,_,rfl,ek,kit _ (by decide) _ m_NoSet,_,rfl,C,_,rfl,ek,kit _ (by decide) _ m_NoWalk,_,rfl,C,_,rfl,ek,kit _ (by decide) _ m_NoLengths,(by show 3<=sizeLine;decide),λp2 e2=>⟨_,_,ji k1 e2,jd,(by show 7<=sizeLine;decide),λp3 e3=>hC _ _ ⟨p3,rfl,Sub.newAt (Sub.newAt sb e2) e3,jd⟩⟩⟩) ?_;rintro _ h1 ⟨p,rfl,sb,k1⟩;refine jg (λσ' h'=> ∃p,σ'= [some (.exc C),some (.lst p),none]/\Sub h h'/\h' p=some (Gy c 10)) (λC2 hC=>⟨_,rfl,_,rfl,C,_,rfl,ek,kit _ (by decide) _ m_NoWay,_,rfl,C,_,rfl,ek,kit _ (by decide) _ m_Apart,_,rfl,C,_,rfl,ek,kit _ (by decide) _ m_NoRow,(by show 3<=sizeLine;decide),λp2 e2=>⟨_,_,ji k1 e2,jd,(by show 10<=sizeLine;decide),λp3 e3=>hC _ _ ⟨p3,rfl,Sub.newAt (Sub.newAt sb e2) e3,jd⟩⟩⟩) ?_;rintro _ h1 ⟨p,rfl,sb,k1⟩;refine jg (λσ' h'=> ∃p,σ'= [some (.exc C),some (.lst p),none]/\Sub h h'/\h' p=some (Gy c 13)) (λC2 hC=>⟨_,rfl,_,rfl,C,_,rfl,ek,kit _ (by decide) _ m_NoTables,_,rfl,C,_,rfl,ek,kit _ (by decide) _ m_NoText,_,rfl,C,_,rfl,ek,kit _ (by decide) _ m_TooGreat,(by show 3<=sizeLine;decide),λp2 e2=>⟨_,_,ji k1 e2,jd,(by show 13<=sizeLine;decide),λp3 e3=>hC _ _ ⟨p3,rfl,Sub.newAt (Sub.newAt sb e2) e3,jd⟩⟩⟩) ?_;rintro _ h1 ⟨p,rfl,sb,k1⟩;have hpG: ∀h':HD,h' p=some (Gy c 13)->ToP h' (.lst p) (.list (NJ c)):=λh' k=>⟨p,_,rfl,k,RZ _⟩
 obtain⟨j,hj,hz,hno,hw,hcnt⟩:=Ti hc;refine jg (λσ' h'=>σ'= [some (.exc C),some (.lst p),none]/\h1=h') (λC2 hC=>⟨_,rfl,C,_,rfl,ek,kv,_,rfl,wc ⟨_,rfl,p,rfl,.bool true,_,hpG h1 k1,rfl,rfl,rfl,by simp [PyData.depth],_,rfl,?_⟩⟩) ?_
 ·rw [hcnt];exact wc (hC _ _ ⟨rfl,rfl⟩)
 rintro _ _ ⟨rfl,rfl⟩;refine jg (λσ' h'=> ∃w,σ'= [some (.exc C),some (.lst p),some (.lst w)]/\Sub h1 h'/\h' p=some (Gy c 13)/\h' w=some (wordsD.take 10)) (λC2 hC=>⟨(by show 10<=sizeLine;decide),λw e=>hC _ _ ⟨w,rfl,Sub.newAt (Sub.refl h1) e,ji k1 e,jd⟩⟩) ?_;rintro _ h2 ⟨w,rfl,sb2,kp2,kw⟩;exact⟨_,rfl,(by show 3<=sizeLine;decide),λp4 e4=>⟨_,_,ji kw e4,jd,(by show 13<=sizeLine;decide),λp5 e5=>⟨_,rfl,p,rfl,.bool true,_,j,_,hpG _ (ji (ji kp2 e4) e5),rfl,rfl,rfl,by simp [PyData.depth],by omega,hz,rfl,hno,_,_,jd,hw,_,Sub.refl _,q _ (Sub.newAt (Sub.newAt (sb.trans sb2) e4) e5)⟩⟩⟩
theorem FW (Z:Zs mg)(Ex:Exc K mg)(F:Fun K "_law_said" "_law_said" vK f fd)(CU:DR P w K mg base n "_law_kind" ["_law_e"] (DV mg)):FnOkS P w K mg base CX0 (n+2) f fd ["_law_call"] (Qh P w K mg base n):=by
 obtain⟨gU,gdU,GU,bGU,kGU,mGU⟩:=CU;obtain⟨pe,hpe,hex⟩:=Ex.pe;refine Fp F Zn rfl rfl rfl rfl rfl hpe hex _ (λcdv A outer s H E x hr=>je (TV (i:=3) Zn.nd rfl (Or.inl rfl) (Ay GU hr rfl mGU kGU bGU (jac (jv 2) zS))) (je (vY (Gc (CQ hr.units) (jv 3) (zC (jac Za (jac Za zS))) (by with_unfolding_all rfl)) (jf VS) jG) (je (vY (Gc oq_eq (jv 3) Za (Pf _)) (jf VS) jG) (jf (zB (zC (jac (jv 3) zS))))))) ?_;intro c hc C h Qd hm q;refine⟨_,rfl,c,C,rfl,hc,hm,λh' sb=> ?_⟩;refine⟨_,rfl,(by show 2<=sizeLine;decide),.str (Jd c),[.str "tables",.str "text"],rfl,.inr ⟨_,rfl,⟨_,_,rfl,rfl,_,_,rfl,rfl,rfl⟩⟩,?_,by decide +kernel,by simp [PyData.depth],_,rfl,?_⟩
 ·simp only [CN,D0,M0,W5] at hc;rcases hc with rfl|rfl|rfl|rfl|rfl|rfl|rfl|rfl|rfl|rfl<;>decide +kernel
 have e1:((false !=List.any [PyData.str "tables",PyData.str "text"] λz=>PyData.eqv z (.str (Jd c))))=false:=by
  simp only [CN,D0,M0,W5] at hc;rcases hc with rfl|rfl|rfl|rfl|rfl|rfl|rfl|rfl|rfl|rfl<;>rfl
 rw [e1];refine wc ⟨_,rfl,_,rfl,?_⟩;have e2:decide (Jd c= "great")=false:=by
  simp only [CN,D0,M0,W5] at hc;rcases hc with rfl|rfl|rfl|rfl|rfl|rfl|rfl|rfl|rfl|rfl<;>rfl
 rw [e2];exact wc ⟨_,rfl,(by show 1<=sizeLine;decide),h,sb,q⟩
def Zi:RDn:=λds h Q=> ∃p l fl,ds= [.lst p]/\h p=some [.int l,.int fl]/\0<=l/\ ∀ (k:Nat) l',1<=k->k<=6->0<=l'->Q (.int (k:Int)) (we h p [.int l',.int fl])
theorem Us (Z:Zs mg)(F:Fun K "_law_size" "_law_size" vL f fd)(jH:jq P w K mg base n "_law_draw" ["_law_pen_here","_law_many"] wD):FnOk P w K mg base CX0 (n+1) f fd ["_law_pen_here"] (LSp K Zi):=by
 refine F.okM Uj (λhr=>(jf (zB (ji1 (Zb (jac jm (by exact(jac jm (by exact(jac jm (by exact(jac jm (by exact(jac jm (by exact(jac jm (by exact(jac jm (by exact(jac jm (by exact(j4 jm jm jm jm)))))))))))))))))) (jk jH hr (j2 (jv 0) jm)))))) ?_;rintro ds h Q ⟨p,l,fl,rfl,hp,h0,q⟩;refine⟨rfl,?_⟩;simp only [QZ,dOp,Lc,jY,dC,Zo,D3,R8,dCB,GL,jQ,S1,F7,B3,M1,N7,O0,ixD,VM,A7];refine⟨by decide,λp1 e1=>⟨p,l,fl,12,rfl,ji hp e1,h0,by decide,by decide,λr l' r0 r1 l0=> ?_⟩⟩;obtain⟨d,hd,ed⟩:=YN (xs:= [D.int 1,D.int 2,D.int 3,D.int 4,D.int 5,D.int 3,D.int 4,D.int 2,D.int 6,D.int 5,D.int 4,D.int 3]) r0 r1;refine⟨_,d,jy (jN hp e1) jd,ed,_,Sub.both (Sub.newAt (Sub.refl h) e1),?_⟩;have q': ∀k:Nat,1<=k->k<=6->Q (.int (k:Int)) (we h p [.int l',.int fl]):=λk a b=>q k l' a b l0
 simp only [D0,M0,W5] at hd;rcases hd with e|e|e|e|e|e|e|e|e|e|e|e<;>subst e
 ·exact q' 1 (by decide) (by decide)
 ·exact q' 2 (by decide) (by decide)
 ·exact q' 3 (by decide) (by decide)
 ·exact q' 4 (by decide) (by decide)
 ·exact q' 5 (by decide) (by decide)
 ·exact q' 3 (by decide) (by decide)
 ·exact q' 4 (by decide) (by decide)
 ·exact q' 2 (by decide) (by decide)
 ·exact q' 6 (by decide) (by decide)
 ·exact q' 5 (by decide) (by decide)
 ·exact q' 4 (by decide) (by decide)
 ·exact q' 3 (by decide) (by decide)
def Jo:RDn:=λds h Q=> ∃p l fl,∃k:Nat,ds= [.lst p,.int (k:Int)]/\h p=some [.int l,.int fl]/\0<=l/\1<=k/\k<=6/\ ∀T l',GoodTab k T->0<=l'->Q (jw T) (we h p [.int l',.int fl])
theorem Vq (Z:Zs mg)(F:Fun K "_law_table" "_law_table" yM f fd)(jH:jq P w K mg base n "_law_draw" ["_law_pen_here","_law_many"] wD):FnOk P w K mg base CX0 (n+1) f fd ["_law_pen_here","_law_size_here"] (LSp K Jo):=by
 refine F.okM ju (λhr=>(je (TW (i:=2) (j:=3) rfl ju.nd rfl rfl (by decide) rfl rfl (j2 (jk jH hr (j2 (jv 0) jm)) (ji1 (Zb (j3 jm jm jm)) (jk jH hr (j2 (jv 0) jm)))) rfl) (by exact(je (jse 4 ju (ji1 (Zb (j4 jm jm jm (jop Bd jm jm))) (jk jH hr (j2 (jv 0) jm)))) (by exact(je (jse 5 ju (Zb zS)) (by exact(je (YQ S6 rfl (jrg Z (jv 1)) (jgn 6 ju) (je (jse 7 ju (Zb zS)) (by exact(je (YQ S6 rfl (jrg Z (jv 1)) (jgn 8 ju) (je (jse 9 ju (jc1 oq_eq (jk jH hr (j2 (jv 0) (jv 3))) jm)) (by exact(je (vY (jt1 UT (jv 2) jm) (jf (jse 9 ju (jor (jc1 oq_eq (jv 8) (jop vi (jop zn (jv 6) jm) (jv 1))) (GN (Mh (jv 9) (GN (jc1 (VQ hr.units) (jk jH hr (j2 (jv 0) jm)) (jv 2)))))))) jG) (by exact(je (vY (jt1 oq_eq (jv 2) jm) (jf (jse 9 ju (jor (Mh (jv 9) (GN (jc1 oq_eq (jop vi (jop XV (jv 8) (jv 6)) jm) jm))) (GN (jc1 (VQ hr.units) (jv 8) (jop zn (jv 6) jm)))))) jG) (by exact(je (vY (jt1 oq_eq (jv 2) jm) (jf (jse 9 ju (Mh (jv 9) (GN (jc1 ME (jv 8) (jv 6)))))) jG) (by exact(jf (VR (Er (jv 7) (jop JD (zF PU rfl Z.int (by decide +kernel) (j1 (jv 9))) (jop zn jm (jk jH hr (j2 (jv 0) (jv 4))))))))))))))))) (by exact(jf (VR (Er (jv 5) (zF cq_tuple rfl Z.tuple (by decide +kernel) (j1 (jv 7))))))))))) (by exact(jf (zB (zF cq_tuple rfl Z.tuple (by decide +kernel) (j1 (jv 5)))))))))))))) ?_;rintro ds h Q ⟨p,l,fl,k,rfl,hp,h0,hk1,hk6,q⟩;refine⟨rfl,?_⟩;refine jg (λσ' h'=> ∃way o l2,σ'= [some (.lst p),some (.int (k:Int)),some (.int way),some (.int o),none,none,none,none,none,none]/\0<o/\o<1000/\0<=l2/\h' p=some [.int l2,.int fl]/\But p h h') (λC hC=>⟨_,rfl,p,l,fl,6,rfl,hp,h0,by decide,by decide,λway l1 w0 w1 l10=>⟨(by show 3<=sizeLine;decide),λp1 e1=>⟨_,rfl,p,l1,fl,3,rfl,ji jd e1,l10,by decide,by decide,λr l2 r0 r1 l20=> ?_⟩⟩⟩) ?_
 ·obtain⟨oft,ho,eo⟩:=YN (xs:= [D.int 2,D.int 3,D.int 5]) r0 r1;obtain⟨o,e,o1,o2⟩: ∃o:Int,oft= .int o/\0<o/\o<1000:=by
   simp only [D0,M0,W5] at ho;rcases ho with e|e|e<;>exact⟨_,e,by decide,by decide⟩
  subst e;exact⟨_,_,jy (jN jd e1) jd,eo,_,_,rfl,hC _ _ ⟨way,o,l2,rfl,o1,o2,l20,jd,((But.upd).new e1).put⟩⟩
 rintro _ h1 ⟨way,o,l2,rfl,o1,o2,l20,kA,bA⟩;refine jg (λσ' h'=> ∃m l3,σ'= [some (.lst p),some (.int (k:Int)),some (.int way),some (.int o),some (.int m),none,none,none,none,none]/\0<m/\m<=1000000/\0<=l3/\h' p=some [.int l3,.int fl]/\But p h h') (λC hC=>⟨⟨by decide,by decide,by decide⟩,(by show 4<=sizeLine;decide),λp1 e1=>⟨_,rfl,p,l2,fl,4,rfl,ji kA e1,l20,by decide,by decide,λr l3 r0 r1 l30=> ?_⟩⟩) ?_
 ·obtain⟨most,ho,eo⟩:=YN (xs:= [D.int 1,D.int 1,D.int 3,D.int (10^Int.toNat 6)]) r0 r1;obtain⟨m,e,m1,m2⟩: ∃o:Int,most= .int o/\0<o/\o<=1000000:=by
   simp only [D0,M0,W5] at ho;rcases ho with e|e|e|e<;>exact⟨_,e,by decide,by decide⟩
  subst e;exact⟨_,_,jy (jN kA e1) jd,eo,hC _ _ ⟨m,l3,rfl,m1,m2,l30,jd,(bA.new e1).put⟩⟩
 clear kA bA;rintro _ h2 ⟨m,l3,rfl,m1,m2,l30,kB,bB⟩;refine jg (λσ' h'=> ∃R,σ'= [some (.lst p),some (.int (k:Int)),some (.int way),some (.int o),some (.int m),some (.lst R),none,none,none,none]/\R≠p/\h R=none/\h' R=some []/\h' p=some [.int l3,.int fl]/\But p h h') (λC hC=>⟨(by show 0<=sizeLine;decide),λR eR=>hC _ _ ⟨R,rfl,jN kB eR,Dg bB eR (jN kB eR),jd,ji kB eR,bB.new eR⟩⟩) ?_;clear kB bB;rintro _ h3 ⟨R,rfl,nR,fR,kR,kC,bC⟩;refine jg (λσ' h'=> ∃a b c d l4 rows,σ'= [some (.lst p),some (.int (k:Int)),some (.int way),some (.int o),some (.int m),some (.lst R),a,b,c,d]/\0<=l4/\h' p=some [.int l4,.int fl]/\h' R=some (rows.map vk)/\But p h h'/\GoodTab k rows) (λC hC=> ?_) (λσ' h' ⟨a,b,c,d,l4,rows,e,l40,kD,kE,bD,g⟩=>by subst e;exact⟨_,rfl,_,kE,_,bD.sub kD,q rows l4 g l40⟩);refine wI k (λi σ' h'=> ∃a b c d l4 rows,σ'= [some (.lst p),some (.int (k:Int)),some (.int way),some (.int o),some (.int m),some (.lst R),a,b,c,d]/\0<=l4/\h' p=some [.int l4,.int fl]/\h' R=some (rows.map vk)/\But p h h'/\rows.length=i/\ ∀r∈rows,Xa k r) (by omega) (λR' r=>⟨_,rfl,r⟩)
  ⟨none,none,none,none,l3,[],rfl,l30,kC,kR,bC,rfl,λr hr=>nomatch hr⟩ (λσ' h' z=>hC _ _ z) ?_
 clear kC kR bC;rintro i _ h4 hi ⟨a,b,c,d,l4,rows,rfl,l40,kD,kE,bD,g1,g2⟩;refine jg (λσ' h'=> ∃S,σ'= [some (.lst p),some (.int (k:Int)),some (.int way),some (.int o),some (.int m),some (.lst R),some (.int (i:Int)),some (.lst S),c,d]/\S≠p/\S≠R/\h S=none/\h' S=some []/\h' p=some [.int l4,.int fl]/\h' R=some (rows.map vk)/\But p h h') (λC hC=>⟨(by show 0<=sizeLine;decide),λS eS=>hC _ _ ⟨S,rfl,jN kD eS,jN kE eS,Dg bD eS (jN kD eS),jd,ji kD eS,ji kE eS,bD.new eS⟩⟩) ?_;clear kD kE bD;rintro _ h5 ⟨S,rfl,nS,nSR,fS,kS,kD,kE,bD⟩;refine jg (λσ' h'=> ∃c d l5 row,σ'= [some (.lst p),some (.int (k:Int)),some (.int way),some (.int o),some (.int m),some (.lst R),some (.int (i:Int)),some (.lst S),c,d]/\0<=l5/\h' p=some [.int l5,.int fl]/\h' R=some (rows.map vk)/\h' S=some (row.map D.int)/\But p h h'/\Xa k row) (λC hC=> ?_) ?_
 rotate_left
 ·rintro _ h6 ⟨c,d,l5,row,rfl,l50,kD,kE,kF,bD,g⟩;refine⟨_,rfl,R,rfl,_,rfl,_,kF,_,kE,?_,_,Sub.refl _,by omega,_,_,_,_,l5,rows++ [row],rfl,l50,jy (Ne.symm nR) kD,?_,bD.putNew fR,by rw [G6,g1];rfl,?_⟩
  ·rw [G0];exact C8 (show rows.length<=1000 by omega) (by decide)
  ·rw [jd,T7];rfl
  ·intro r hr;rcases P9.mp hr with z|z
   ·exact g2 r z
   ·rw [G2.mp z];exact g
 refine wI k (λj σ' h'=> ∃c d l5 row,σ'= [some (.lst p),some (.int (k:Int)),some (.int way),some (.int o),some (.int m),some (.lst R),some (.int (i:Int)),some (.lst S),c,d]/\0<=l5/\h' p=some [.int l5,.int fl]/\h' R=some (rows.map vk)/\h' S=some (row.map D.int)/\But p h h'/\row.length=j/\ ∀x∈row,0<=x/\x<=1000000) (by omega) (λR' r=>⟨_,rfl,r⟩)
  ⟨_,_,l4,[],rfl,l40,kD,kE,kS,bD,rfl,λr hr=>nomatch hr⟩ (λσ' h' z=>hC _ _ z) ?_
 clear kD kE kS bD;rintro j _ h6 hj ⟨c,d,l5,row,rfl,l50,kD,kE,kF,bD,g1',g2'⟩;refine jg (λσ' h'=> ∃ (g:Bool) (l6:Int),σ'= [some (.lst p),some (.int (k:Int)),some (.int way),some (.int o),some (.int m),some (.lst R),some (.int (i:Int)),some (.lst S),some (.int (j:Int)),some (.bl g)]/\0<=l6/\h' p=some [.int l6,.int fl]/\h' R=some (rows.map vk)/\h' S=some (row.map D.int)/\But p h h') (λC hC=>⟨_,rfl,_,rfl,p,l5,fl,o,rfl,kD,l50,o1,by omega,λr l6 r0 r1 l60=>hC _ _ ⟨_,l6,rfl,l60,jd,jy nR kE,jy nS kF,bD.put⟩⟩) ?_;clear kD kE kF bD;rintro _ _ ⟨g,l6,rfl,l60,kD,kE,kF,bD⟩;refine jg (λσ' h'=> ∃ (g:Bool) (l6:Int),σ'= [some (.lst p),some (.int (k:Int)),some (.int way),some (.int o),some (.int m),some (.lst R),some (.int (i:Int)),some (.lst S),some (.int (j:Int)),some (.bl g)]/\0<=l6/\h' p=some [.int l6,.int fl]/\h' R=some (rows.map vk)/\h' S=some (row.map D.int)/\But p h h') (λC hC=>⟨_,rfl,_,rfl,UN (λ_=>⟨_,rfl,_,rfl,_,rfl,by omega,_,rfl,UN (λ_=>hC _ _ ⟨_,l6,rfl,l60,kD,kE,kF,bD⟩) λ_=>⟨_,rfl,_,rfl,UN (λ_=>⟨_,rfl,p,l6,fl,2,rfl,kD,l60,by decide,by decide,λr l7 r0 r1 l70=>⟨_,rfl,hC _ _ ⟨_,l7,rfl,l70,jd,jy nR kE,jy nS kF,bD.put⟩⟩⟩) λ_=>hC _ _ ⟨_,l6,rfl,l60,kD,kE,kF,bD⟩⟩⟩) λ_=>hC _ _ ⟨_,l6,rfl,l60,kD,kE,kF,bD⟩⟩) ?_;clear kD kE kF bD;rintro _ _ ⟨g,l6,rfl,l60,kD,kE,kF,bD⟩;refine jg (λσ' h'=> ∃ (g:Bool) (l6:Int),σ'= [some (.lst p),some (.int (k:Int)),some (.int way),some (.int o),some (.int m),some (.lst R),some (.int (i:Int)),some (.lst S),some (.int (j:Int)),some (.bl g)]/\0<=l6/\h' p=some [.int l6,.int fl]/\h' R=some (rows.map vk)/\h' S=some (row.map D.int)/\But p h h') (λC hC=>⟨_,rfl,_,rfl,UN (λ_=>⟨_,rfl,_,rfl,UN (λ_=>⟨_,rfl,_,rfl,by decide,_,rfl,UN (λ_=>hC _ _ ⟨_,l6,rfl,l60,kD,kE,kF,bD⟩) λ_=>⟨_,rfl,_,rfl,hC _ _ ⟨_,l6,rfl,l60,kD,kE,kF,bD⟩⟩⟩) λ_=>⟨_,rfl,UN (λ_=>hC _ _ ⟨_,l6,rfl,l60,kD,kE,kF,bD⟩) λ_=>⟨_,rfl,_,rfl,hC _ _ ⟨_,l6,rfl,l60,kD,kE,kF,bD⟩⟩⟩⟩) λ_=>hC _ _ ⟨_,l6,rfl,l60,kD,kE,kF,bD⟩⟩) ?_;clear kD kE kF bD;rintro _ _ ⟨g,l6,rfl,l60,kD,kE,kF,bD⟩;refine jg (λσ' h'=> ∃ (g:Bool) (l6:Int),σ'= [some (.lst p),some (.int (k:Int)),some (.int way),some (.int o),some (.int m),some (.lst R),some (.int (i:Int)),some (.lst S),some (.int (j:Int)),some (.bl g)]/\0<=l6/\h' p=some [.int l6,.int fl]/\h' R=some (rows.map vk)/\h' S=some (row.map D.int)/\But p h h') (λC hC=>⟨_,rfl,_,rfl,UN (λ_=>⟨_,rfl,_,rfl,UN (λ_=>⟨_,rfl,_,rfl,hC _ _ ⟨_,l6,rfl,l60,kD,kE,kF,bD⟩⟩) λ_=>hC _ _ ⟨_,l6,rfl,l60,kD,kE,kF,bD⟩⟩) λ_=>hC _ _ ⟨_,l6,rfl,l60,kD,kE,kF,bD⟩⟩) ?_;clear kD kE kF bD;rintro _ _ ⟨g,l6,rfl,l60,kD,kE,kF,bD⟩;have gi: ∀x r:Int,0<=r->r<m->x=0\/x=1->CMul x (1+r)/\0<=x*(1+r)/\x*(1+r)<=1000000:=λx r r0 r1 hx=>by
  rcases hx with e|e<;>subst e
  ·exact⟨.inl ⟨by decide,by decide⟩,by omega,by omega⟩
  ·exact⟨.inl ⟨by decide,by decide⟩,by omega,by omega⟩
 refine⟨_,rfl,S,rfl,_,rfl,_,rfl,_,rfl,p,l6,fl,m,rfl,kD,l60,m1,by omega,λr l7 r0 r1 l70=> ?_⟩;have gg:=gi (if g=true then 1 else 0) r r0 r1 (by cases g<;>decide);refine⟨gg.1,_,jy nS kF,?_,_,Sub.refl _,by omega,_,_,l7,row++ [(if g=true then 1 else 0)*(1+r)],rfl,l70,jy (Ne.symm nS) jd,jy (Ne.symm nSR) (jy nR kE),?_,(bD.put).putNew fS,by rw [G6,g1'];rfl,?_⟩
 ·rw [G0];exact C8 (show row.length<=1000 by omega) (by decide)
 ·rw [jd,T7];rfl
 ·intro x hx;rcases P9.mp hx with z|z
  ·exact g2' x z
  ·rw [G2.mp z];exact gg.2
def Jp:RDn:=λds h Q=> ∃T U,∃n e f:Nat,ds= [jw T,jw U]/\Sq n e T/\Sq n f U/\e+f<=1000000/\n<=6/\Q (jw (vZ n T U)) h
theorem Vr (Z:Zs mg)(F:Fun K "_law_times" "_law_times" yN f fd):FnOk P w K mg base CX0 (n+1) f fd ["_law_one","_law_other"] (LSp K Jp):=by
 refine F.okM jV (λhr=>(je (jse 2 jV (ZJ Z (jv 0))) (by exact(je (jse 3 jV (Zb zS)) (by exact(je (YQ S6 rfl (jX (jv 0)) (jgn 4 jV) (jf (VR (Er (jv 3) (zF wj rfl Z.tuple (by decide +kernel) (j1 (jl0 5 jV (jrg Z (jv 2)) (λ_ _ _ _=>(zE (CF rfl) rfl Z.sum (by decide +kernel) (j1 (jl0 6 jV (jrg Z (jv 2)) (λ_ _ _ _=>(jop CJ (ji1 (jv 4) (jv 6)) (ji1 (ji1 (jv 1) (jv 6)) (jv 5))))))))))))))) (by exact(jf (zB (zF cq_tuple rfl Z.tuple (by decide +kernel) (j1 (jv 3)))))))))))) ?_;rintro ds h Q ⟨T,U,k,b,f,rfl,hT,hU,hb,h6,q⟩;refine⟨rfl,?_⟩;refine jg (λσ' h'=>σ'= [some (jw T),some (jw U),some (.int (k:Int)),none,none,none,none]/\h=h') (λC hC=>⟨_,rfl,hC _ _ ⟨by rw [G0,hT.len];rfl,rfl⟩⟩) ?_;rintro _ _ ⟨rfl,rfl⟩;refine jg (λσ' h'=> ∃R,σ'= [some (jw T),some (jw U),some (.int (k:Int)),some (.lst R),none,none,none]/\h R=none/\h' R=some []/\Sub h h') (λC hC=> ?_) ?_
 ·exact⟨(by show 0<=sizeLine;decide),λR eR=>hC _ _ ⟨R,rfl,eR,jd,Sub.newAt (Sub.refl h) eR⟩⟩
 rintro _ h1 ⟨R,rfl,fR,kR,sb⟩;refine jg (λσ' h'=> ∃a b c,σ'= [some (jw T),some (jw U),some (.int (k:Int)),some (.lst R),a,b,c]/\h' R=some ((vZ k T U).map vk)/\Sub h h') (λC hC=> ?_) ?_
 ·refine ZB (j:=λ_=>some (T.map vk)) (T.map vk) (λi σ' h'=> ∃a b c,σ'= [some (jw T),some (jw U),some (.int (k:Int)),some (.lst R),a,b,c]/\h' R=some ((T.take i).map λr=>D.tup ((List.range k).map λj=> .int (jP k λm=>r.getD m 0*ent U m j)))/\Sub h h') (λR' r=>⟨_,rfl,r⟩) (λ_ _ _ _=>rfl) ⟨_,_,_,rfl,kR,sb⟩ ?_ ?_
  ·rintro σ' h' ⟨a,b,c,e,kR2,sb2⟩;refine hC _ _ ⟨a,b,c,e,?_,sb2⟩;rw [G0,E3,MO hT] at kR2;exact kR2
  rintro i d _ h2 hd ⟨a,b',c,rfl,kR2,sb2⟩;rw [D2] at hd;cases hx:T[i]? with
  |none=>rw [hx] at hd;cases hd
  |some r=>
   rw [hx] at hd;cases hd;have hr:=G7 hx;have hil:i<T.length:=(G5.mp hx).1;refine⟨_,rfl,R,rfl,?_⟩;refine Es (List.range k) (λj=> .int (j:Int)) (λj=> .int (jP k λm=>r.getD m 0*ent U m j)) (by rw [R4];omega) rfl (λR rr=>⟨_,rfl,(k:Int),rfl,by omega,by omega,rr⟩) (λj hj Q'' q''=> ?_) ?_
   ·refine HS (List.range k) (λm=> .int (m:Int)) (λm=>r.getD m 0*ent U m j) (by rw [R4];omega) rfl (λR rr=>⟨_,rfl,(k:Int),rfl,by omega,by omega,rr⟩) (λm hm Q3 q3=> ?_) q'';have hm':=P2.mp hm;have hj':=P2.mp hj;refine⟨_,rfl,_,rfl,_,JH (hT.row r hr) hm',_,rfl,_,rfl,_,JF hU hm',_,rfl,_,JH (hU.row _ (Sq.getRow hU hm')) hj',?_,q3⟩;refine MM (e:=b) (f:=f) ?_ (hU.ent_nn hm' hj') (by omega);have hm2:m<r.length:=by rw [hT.row r hr];exact hm'
    have e1:r.getD m 0=r[m]:=by rw [P1,G1 hm2];rfl
    rw [e1];exact⟨hT.nn r hr _ (T1 hm2),hT.bit r hr _ (T1 hm2)⟩
   ·refine⟨_,kR2,?_,_,Sub.refl _,by rw [G0];omega,_,_,_,rfl,?_,?_⟩
    ·rw [G0,R3];exact C8 (show min i T.length<=1000 by rw [hT.len];omega) (by decide)
    ·rw [jd,T8,hx,T7];rfl
    ·exact(sb2).over fR
 rintro _ h3 ⟨a,b,c,rfl,kR3,sb3⟩;exact⟨_,rfl,_,kR3,_,sb3,q⟩
def vw:RDn:=λds h Q=> ∃T,∃n e:Nat,ds= [jw T]/\Sq n e T/\n<=6/\Q (jw (jO n T)) h
theorem WU (Z:Zs mg)(F:Fun K "_law_marked" "_law_marked" ye f fd):FnOk P w K mg base CX0 (n+1) f fd ["_law_table_here"] (LSp K vw):=by
 refine F.okM wO (λhr=>(jf (zB (zF wj rfl Z.tuple (by decide +kernel) (j1 (jl0 1 wO (jX (jv 0)) (λ_ _ _ _=>(zF wj rfl Z.tuple (by decide +kernel) (j1 (jl0 2 wO (jX (jv 1)) (λ_ _ _ _=>(zF PU rfl Z.int (by decide +kernel) (j1 (jc1 Ga (jv 2) jm)))))))))))))) ?_;rintro ds h Q ⟨T,k,b,rfl,hT,h6,q⟩;refine⟨rfl,?_⟩;refine Es T vk (λr=> .tup (r.map λx=> .int (if x≠0 then 1 else 0))) (by rw [hT.len];omega) rfl (λR r=>⟨_,rfl,r⟩) (λr hr Q' q'=> ?_) ⟨h,Sub.refl h,?_⟩
 ·refine Es r D.int (λx=> .int (if x≠0 then 1 else 0)) (by rw [hT.row r hr];omega) rfl (λR r=>⟨_,rfl,r⟩) (λx hx Q'' q''=>⟨_,rfl,?_⟩) q';show Q'' (.int (if decide (x>0)=true then 1 else 0)) h;have e:(if decide (x>0)=true then (1:Int) else 0)=if x≠0 then 1 else 0:=by
   have:=hT.nn r hr x hx
   by_cases z:x=0
   ·subst z;rfl
   ·rw [if_pos z,if_pos (G9 (by omega))]
  rw [e];exact q''
 ·rw [CL,<-CM hT];exact q
def vx:RDn:=λds h Q=> ∃T,∃n e:Nat,ds= [jw T]/\Sq n e T/\1<=n/\n<=6/\Q (.bl (jU T)) h
theorem WV (Z:Zs mg)(F:Fun K "_law_filled" "_law_filled" yf f fd):FnOk P w K mg base CX0 (n+1) f fd ["_law_table_here"] (LSp K vx):=by
 refine F.okM vq (λhr=>(jf (zB (jc1 Ga (zE (DG rfl) rfl Z.min (by decide +kernel) (j1 (jl0 1 vq (jX (jv 0)) (λ_ _ _ _=>(zE (DG rfl) rfl Z.min (by decide +kernel) (j1 (jv 1))))))) jm)))) ?_;rintro ds h Q ⟨T,k,b,rfl,hT,h1,h6,q⟩;refine⟨rfl,?_⟩;have ne: ∀r∈T,r≠ []:=λr hr z=>by have:=hT.row r hr;rw [z] at this;simp at this;omega
 refine HW T vk Zc (by rw [hT.len];omega) rfl (λR r=>⟨_,rfl,r⟩) (λr hr Q' q'=>⟨_,rfl,CZ (ne r hr) λm m1 m2=>by rw [DH m1 m2];exact q'⟩) ?_ (λm m1 m2=>⟨h,Sub.refl h,?_⟩)
 ·intro z;have:=hT.len;rw [z] at this;simp at this;omega
 ·show Q (.bl (decide (m>0))) h;rw [YY hT ne m1 m2];exact q
def Fst (n:Nat)(T:List (List Int)):Option Nat->Prop
 |none=> ∀k,1<=k->jU (yy n T k)=false
 |some k=>1<=k/\k<=30/\jU (yy n T k)=true/\ ∀j,1<=j->j<k->jU (yy n T j)=false
def Li:Option Nat->D
 |none=> .non
 |some k=> .int (k:Int)
section
variable {n e:Nat}{T:List (List Int)}
theorem Eg (h:Sq n e T)(n1:1<=n)(h6:n<=6): ∃o,Fst n T o:=by
 by_cases z: ∃k,1<=k/\jU (yy n T k)=true
 ·obtain⟨K,hK,f⟩:=z;obtain⟨k,k1,k30,fk⟩:=Ke h n1 h6 hK f;clear f hK
  induction k using Nat.strongRecOn with
  |_ k ih=>
   by_cases w: ∃j,1<=j/\j<k/\jU (yy n T j)=true
   ·obtain⟨j,j1,jk,fj⟩:=w;exact ih j jk j1 (by omega) fj
   ·exact⟨some k,k1,k30,fk,λj j1 jk=>by
     cases hf:jU (yy n T j) with
     |false=>rfl
     |true=>exact absurd ⟨j,j1,jk,hf⟩ w⟩
 ·exact⟨none,λk hk=>by
   cases hf:jU (yy n T k) with
   |false=>rfl
   |true=>exact absurd ⟨k,hk,hf⟩ z⟩
theorem FX {o:Option Nat}(ho:Fst n T o){i:Nat}(hi:jU (yy n T (i+1))=true)(lo: ∀m,m<i->jU (yy n T (m+1))=false):o=some (i+1):=by
 cases o with
 |none=>have:=ho (i+1) (by omega);rw [hi] at this;cases this
 |some k=>
  obtain⟨k1,k30,fk,fl⟩:=ho;have a: ¬ (i+1<k):=λz=>by have:=fl (i+1) (by omega) z;rw [hi] at this;cases this
  have b: ¬ (k<i+1):=λz=>by have:=lo (k-1) (by omega);rw [show k-1+1=k by omega,fk] at this;cases this
  rw [show k=i+1 by omega]
theorem NK {o:Option Nat}(ho:Fst n T o)(lo: ∀m,m<30->jU (yy n T (m+1))=false):o=none:=by
 cases o with
 |none=>rfl
 |some k=>
  obtain⟨k1,k30,fk,fl⟩:=ho;have:=lo (k-1) (by omega);rw [show k-1+1=k by omega,fk] at this;cases this
theorem NL (h:Sq n e T)(hn:n<=8)(i:Nat):jU (Gj n T i)=jU (yy n T (i+1)):=by rw [Qg h hn,Ds (h.pow hn _)]
end
theorem Eh (h:Sq n e T)(hn:n<=8){k:Nat}(ho:Fst n T (some k)){m:Nat}(hm:k<=m){i j:Nat}(hi:i<n)(hj:j<n):RP n T m i j:=by
 have:=Xd h hn ho.1 ho.2.2.1 (m-k);rw [show k+(m-k)=m by omega] at this;exact(DW h hn).mp this i j hi hj
def Jq:RDn:=λds h Q=> ∃T,∃n e:Nat,∃o,ds= [jw T]/\Sq n e T/\1<=n/\n<=6/\e<=1000/\Fst n T o/\Q (Li o) h
theorem Vs (Z:Zs mg)(F:Fun K "_law_first" "_law_first" yO f fd)(Jv:jq P w K mg base n "_law_marked" ["_law_table_here"] vw)(Vx:jq P w K mg base n "_law_filled" ["_law_table_here"] vx)(UB:jq P w K mg base n "_law_times" ["_law_one","_law_other"] Jp):FnOk P w K mg base CX0 (n+1) f fd ["_law_table_here"] (LSp K Jq):=by
 refine F.okM zw (λhr=>(je (jse 1 zw (jk Jv hr (j1 (jv 0)))) (by exact(je (jse 2 zw (jv 1)) (by exact(je (YQ S6 rfl (SU rfl Z.range (j2 jm jm)) (jgn 3 zw) (je (vY (wy (jk Vx hr (j1 (jv 2)))) (jf (zB (jv 3))) jG) (by exact(jf (jse 2 zw (jk Jv hr (j1 (jk UB hr (j2 (jv 2) (jv 1)))))))))) (by exact(jf (zB CG))))))))) ?_;rintro ds h Q ⟨T,k,b,o,rfl,hT,h1,h6,hb,ho,q⟩;refine⟨rfl,?_⟩;have hn:k<=8:=by omega
 refine jg (λσ' h'=>σ'= [some (jw T),some (jw (jO k T)),none,none]/\h=h') (λC hC=>⟨_,rfl,T,k,b,rfl,hT,h6,hC _ _ ⟨rfl,rfl⟩⟩) ?_;rintro _ _ ⟨rfl,rfl⟩;refine jg (λσ' h'=>σ'= [some (jw T),some (jw (jO k T)),some (jw (jO k T)),none]/\h=h') (λC hC=>⟨_,rfl,hC _ _ ⟨rfl,rfl⟩⟩) ?_;rintro _ _ ⟨rfl,rfl⟩;refine jg (λσ' h'=>o=none/\Sub h h') (λC hC=> ?_) ?_
 ·refine MR (h1:=h) 1 30 (λi σ' h2=> ∃a,σ'= [some (jw T),some (jw (jO k T)),some (jw (Gj k T i)),a]/\h=h2/\ ∀m,m<i->jU (yy k T (m+1))=false) (by decide) (by decide) (by decide) (λR r=>r) ⟨none,rfl,rfl,λm hm=>absurd hm (Nat.not_lt_zero _)⟩ (λσ' h2 ⟨a,e,eh,lo⟩=>hC _ _ ⟨NK ho lo,eh ▸ Sub.refl _⟩) ?_;rintro i _ _ hi ⟨a,rfl,rfl,lo⟩;show PK _ _ _ [some (jw T),some (jw (jO k T)),some (jw (Gj k T i)),some (.int (1+(i:Int)))] h;refine jg (λσ' h'=>σ'= [some (jw T),some (jw (jO k T)),some (jw (Gj k T i)),some (.int (1+(i:Int)))]/\h=h'/\jU (yy k T (i+1))=false) (λC2 hC2=> ?_) ?_
  ·refine⟨_,rfl,Gj k T i,k,1,rfl,We k T i,h1,h6,_,rfl,?_⟩;rw [NL hT hn];cases hf:jU (yy k T (i+1)) with
   |true=>
    refine vS ⟨_,rfl,h,Sub.refl h,?_⟩;rw [FX ho hf lo] at q;have e:(1:Int)+(i:Int)=((i+1:Nat):Int):=by omega
    rw [e];exact q
   |false=>exact wc (hC2 _ _ ⟨rfl,rfl,hf⟩)
  rintro _ _ ⟨rfl,rfl,hf⟩;refine⟨_,rfl,_,rfl,Gj k T i,jO k T,k,1,1,rfl,We k T i,Sq.mark T,by decide,h6,_,k,_,rfl,(We k T i).mul (Sq.mark T) hn,h6,_,Sub.refl _,by omega,some (.int (1+(i:Int))),?_,rfl,λm hm=> ?_⟩
  ·rw [MU hT i];rfl
  ·by_cases z:m=i
   ·subst z;exact hf
   ·exact lo m (by omega)
 rintro _ h2 ⟨e,sb⟩;subst e;exact⟨h,sb,q⟩
def Jr:RDn:=λds h Q=> ∃T S,∃n e:Nat,ds= [jw T,jC S]/\Sq n e T/\IsS n S/\n<=6/\Q (jC (wJ n T S)) h
theorem Vt (Z:Zs mg)(F:Fun K "_law_after" "_law_after" yP f fd):FnOk P w K mg base CX0 (n+1) f fd ["_law_table_here","_law_some"] (LSp K Jr):=by
 refine F.okM zY (λhr=>(je (jse 2 zY (ZJ Z (jv 0))) (by exact(jf (zB (zF wj rfl Z.tuple (by decide +kernel) (j1 (jl1 3 zY (jrg Z (jv 2)) (λ_ _ _ _=>(jt1 Ga (zE (CY rfl) rfl Z.max (by decide +kernel) (j1 (jop zn (Zb (j1 jm)) (jl0 4 zY (jX (jv 1)) (λ_ _ _ _=>(ji1 (ji1 (jv 0) (jv 4)) (jv 3))))))) jm)) (λ_ _ _ _=>(jv 3)))))))))) ?_;rintro ds h Q ⟨T,S,k,b,rfl,hT,hS,h6,q⟩;refine⟨rfl,?_⟩;have hlen:=hS.len;refine jg (λσ' h'=>σ'= [some (jw T),some (jC S),some (.int (k:Int)),none,none]/\h=h') (λC hC=>⟨_,rfl,hC _ _ ⟨by rw [G0,hT.len];rfl,rfl⟩⟩) ?_;rintro _ _ ⟨rfl,rfl⟩;refine Ap (List.range k) (λj=> .int (j:Int)) (λj=> .int (j:Int)) (λj=>S.any λi=>decide (ent T i j≠0)) (by rw [R4];omega) rfl (λR r=>⟨_,rfl,(k:Int),rfl,by omega,by omega,r⟩) (λj hj Q' q'=> ?_) (λj hj hp Q' q'=>⟨_,rfl,q'⟩) ⟨h,Sub.refl h,q⟩;refine⟨(by show 1<=sizeLine;decide),λp1 e1=> ?_⟩;refine lcA S (λi=> .int (i:Int)) (λi=> .int (ent T i j)) (by omega) rfl (λR r=>⟨_,rfl,r⟩) (λi hi Q'' q''=> ?_) (λp2 e2=> ?_)
 ·have hi':=hS.lt hi;exact⟨_,rfl,_,rfl,_,JF hT hi',_,rfl,_,JH (hT.row _ (Sq.getRow hT hi')) (P2.mp hj),q''⟩
 ·refine⟨_,_,ji jd e2,jd,?_,λp3 e3=> ?_⟩
  ·simp only [G0,D3,R8];exact D5 (jx (by omega))
  refine⟨0::S.map (λi=>ent T i j),h,by simp,Sub.newAt (Sub.newAt (Sub.newAt (Sub.refl h) e1) e2) e3,.inr ⟨p3,rfl,?_⟩,λm m1 m2=>⟨_,rfl,?_⟩⟩
  ·rw [jd,S1,S4];rfl
  ·show Q' (decide (m>0)) h;rw [Gi hT hS (P2.mp hj) m1 m2];exact q'
def Zj:RDn:=λds h Q=> ∃n:Nat,ds= [.int (n:Int)]/\n<=6/\ ∀A h',h' A=some ((vf n).map jC)->Sub h h'->Q (.lst A) h'
theorem Ut (Z:Zs mg)(F:Fun K "_law_sets" "_law_sets" vM f fd):FnOk P w K mg base CX0 (n+1) f fd ["_law_many"] (LSp K Zj):=by
 refine F.okM zN (λhr=>(je (jse 1 zN (Zb (j1 (zC zS)))) (by exact(je (YQ S6 rfl (jrg Z (jv 0)) (jgn 2 zN) (jf (jse 1 zN (jop zn (jv 1) (jl0 3 zN (jX (jv 1)) (λ_ _ _ _=>(jop zn (jv 3) (zC (j1 (jv 2)))))))))) (by exact(jf (zB (zE (JM hr) rfl Z.sorted (by decide +kernel) (j1 (jv 1)))))))))) ?_;rintro ds h Q ⟨n,rfl,h6,q⟩;refine⟨rfl,?_⟩;refine jg (λσ' h'=> ∃A,σ'= [some (.int (n:Int)),some (.lst A),none,none]/\h' A=some ((jT 0).map jC)/\Sub h h') (λC hC=>⟨(by show 0<=sizeLine;decide),(by show 1<=sizeLine;decide),λA eA=>hC _ _ ⟨A,rfl,jd,Sub.newAt (Sub.refl h) eA⟩⟩) ?_;rintro _ h2 ⟨A0,rfl,kA0,sb0⟩;refine jg (λσ' h'=> ∃A a b,σ'= [some (.int (n:Int)),some (.lst A),a,b]/\h' A=some ((jT n).map jC)/\Sub h h') (λC hC=> ?_) ?_
 ·refine wI n (λt σ' h'=> ∃A a b,σ'= [some (.int (n:Int)),some (.lst A),a,b]/\h' A=some ((jT t).map jC)/\Sub h h') (by omega) (λR r=>⟨_,rfl,r⟩) ⟨A0,none,none,rfl,kA0,sb0⟩ (λσ' h' z=>hC _ _ z) ?_;clear kA0 sb0;rintro t _ h3 ht ⟨A,a,b,rfl,kA,sb⟩;have l64:(jT t).length<=64:=by rw [wS];exact F4 (by decide) (show t<=6 by omega)
  refine⟨_,rfl,?_⟩;refine lcA (j:=λh=>h A) (jT t) jC (λS=>jC (S++ [t])) (by omega) kA (λR r=>⟨_,rfl,r⟩) (λS hS Q' q'=>⟨_,rfl,_,rfl,(by show 1<=sizeLine;decide),?_,?_⟩) (λF eF=> ?_)
  ·have:=(vb hS).len;rw [G0];exact D5 (jx (by simp only [D3,R8];omega))
  ·have:jC (S++ [t])= .tup ((S.map λ(k:Nat)=>D.int (k:Int))++ [.int (t:Int)]):=by unfold jC;rw [List.map_append];rfl
   rw [this] at q';exact q'
  ·refine⟨_,_,ji kA eF,jd,?_,λp3 e3=>⟨_,Sub.refl _,by omega,p3,_,_,rfl,?_,(((sb).newAt eF).newAt e3)⟩⟩
   ·rw [G0,G0];exact D5 (jx (by omega))
   ·rw [jd];show _=some ((jT t++(jT t).map λS=>S++ [t]).map jC);rw [T7,S4];rfl
 rintro _ h3 ⟨A,a,b,rfl,kA,sb⟩;refine⟨_,rfl,A,(jT n).map toI,rfl,?_,?_,λp mss hp pm sr=>⟨_,Sub.refl _,q p _ (by rw [jd,Ws pm sr];rfl) (Sub.newAt sb hp)⟩⟩
 ·rw [kA,S4];exact congrArg some (S3 λS _=>(Qq S).symm)
 ·rw [G0,wS];exact C8 (F4 (by decide) h6) (by decide)
def yo:RDn:=λds h Q=> ∃p l fl,ds= [.lst p]/\h p=some [.int l,.int fl]/\0<=l/\ ∀d l' h',okD d=true->RV d=false->But p h h'->h' p=some [.int l',.int fl]->0<=l'->Q d h'
theorem Zu (Z:Zs mg)(F:Fun K "_law_no_table" "_law_no_table" wu f fd)(jH:jq P w K mg base n "_law_draw" ["_law_pen_here","_law_many"] wD):FnOk P w K mg base CX0 (n+1) f fd ["_law_pen_here"] (LSp K yo):=by
 refine F.okM yl (λhr=>(je (jse 1 yl (Zb (jac CG (by exact(jac jm (by exact(jac (zC zS) (by exact(jac (Zb zS) (by exact(jac (zC (j1 jm)) (by exact(jac (zC (j1 (zC zS))) (by exact(jac (zC (j2 (zC (j1 jm)) (zC (j1 jm)))) (by exact(jac (zC (j1 (zC (j2 jm jm)))) (by exact(jac (zC (j1 (zC (j1 (SS jm))))) (by exact(j4 (zC (j1 (zC (j1 jbl)))) (Zb (j1 (Zb (j1 jm)))) (zC (j1 (zC (j1 CG)))) Za))))))))))))))))))))) (by exact(jf (zB (ji1 (jop zn (jv 1) (Zb (jac (zC (j1 (zC (j1 jbl)))) (by exact(j4 (jop JD (zC (j1 (jop JD (zC (j1 jm)) jm))) jm) (zC (j1 (Zb (j1 jm)))) (zC (j1 (zC (j1 (zC (j1 jm)))))) Ao))))) (jk jH hr (j2 (jv 0) jm)))))))) ?_;rintro ds h Q ⟨p,l,fl,rfl,hp,h0,q⟩;refine⟨rfl,?_⟩;simp only [PK,MC,Lc,jY,dC,Op,Zo,R8,D3,dUn,SJ,QZ,dOp,GL,jQ,S1,F7,List.replicate,B3,M1,List.set_cons_succ,List.set_cons_zero,K3,N7,O0,SI,XX,TK,dCB,ixD,A7,VM]
 repeat (first|intro _|refine⟨by decide,?_⟩|refine⟨⟨by decide,by decide,by decide⟩,?_⟩)
 rename_i p1 e1 p2 e2 p3 e3 p4 e4 p5 e5 p6 e6;have k1:=ji (M:= []) hp e1;have k2:=ji (M:= [.int 1]) k1 e2;have k3:=ji (M:= [.lst p2]) k2 e3;refine⟨_,_,ji (ji jd e5) e6,jd,by simp only [D3,R8];decide,λp7 e7=> ?_⟩;refine⟨p,l,fl,18,rfl,ji (ji (ji (ji k3 e4) e5) e6) e7,h0,by decide,by decide,λr l' r0 r1 l0=> ?_⟩;obtain⟨d,hd,ed⟩:=YN (xs:= [D.non,D.int 0,D.tup [],D.lst p1,D.tup [D.int 0],D.tup [D.tup []],D.tup [D.tup [D.int 1],D.tup [D.int 1]],D.tup [D.tup [D.int 0,D.int 1]],D.tup [D.tup [D.int (-1)]],D.tup [D.tup [D.bl true]],D.lst p3,D.tup [D.tup [D.non]],D.str (Str.ofString "1")]++ [D.tup [D.tup [D.bl false]],D.tup (List.replicate (Int.toNat 7) [D.tup (List.replicate (Int.toNat 7) [D.int 0]).flatten]).flatten,D.tup [D.lst p5],D.tup [D.tup [D.tup [D.int 0]]],D.dic (Str.ofString "a") 1]) r0 r1;refine⟨_,d,jy (jN (ji (ji (ji k3 e4) e5) e6) e7) jd,ed,_,Sub.refl _,q d l' _ (Vh ?_ d hd) ?_ (((((((But.refl p h).new e1).new e2).new e3).new e4).new e5).new e6 |>.new e7).put jd l0⟩
 ·rfl
 ·simp only [P9,D0,M0,W5] at hd;rcases hd with (e|e|e|e|e|e|e|e|e|e|e|e|e)|e|e|e|e|e<;>subst e<;>rfl
def WD (d:D)(n k:Int):Bool:=match d with
 | .tup es=>decide ((es.length:Int)=n)&&es.all (λx=>zk x 0 (k-1))
 |_=>false
def zU (d:D)(j:Nat):Int:=match d with
 | .tup es=>(match es.getD j .non with| .int x=>x|_=>0)
 |_=>0
def Bw (T:List (List Int))(n:Nat)(x:D)(k:Int):Bool:=(List.range n).all λp=>(DM T n p).all λj=>decide (zU x j=(zU x p+1)%k)
/-- turns of a table,whatever both are -/
def Bx (T:List (List Int))(n:Nat)(d x:D):Bool:=match d with
 | .int k=>zk (.int k) 1 6&&(WD x n k&&Bw T n x k)
 |_=>false
variable {k:Int}
theorem NM {es:List D}{n:Int}(h:WD (.tup es) n k=true):(es.length:Int)=n/\ ∀j:Nat,j<es.length-> ∃r:Int,atI es (j:Int)=some (.int r)/\zU (.tup es) j=r/\0<=r/\r<=k-1:=by
 have h':(decide ((es.length:Int)=n)&&es.all (λx=>zk x 0 (k-1)))=true:=h;rw [S5,M9,R0] at h';refine⟨h'.1,λj hj=> ?_⟩;have w:=h'.2 es[j] (T1 hj);cases e:es[j] with
 |int r=>
  rw [e] at w;have w':(decide ((0:Int)<=r)&&decide (r<=k-1))=true:=w;rw [S5,M9,M9] at w';refine⟨r,wW (by rw [G1 hj,e]),?_,w'.1,w'.2⟩;unfold zU;dsimp only;rw [P1,G1 hj,e];rfl
 |_=>rw [e] at w;cases w
/-- a number of turns and a rest for each place -/
def Xy (T:List (List Int))(n:Nat)(d:D):Bool:=match d with
 | .tup [a,x]=>Bx T n a x
 |_=>false
theorem Ei {es:List D}(h:((es.length:Nat):Int)=2): ∃a x,es= [a,x]:=by
 cases es with
 |nil=>cases h
 |cons a r=>cases r with
  |nil=>cases h
  |cons x r=>cases r with
   |nil=>exact⟨a,x,rfl⟩
   |cons y r=>simp only [D3] at h;omega
theorem NN {es:List D}(h: ¬ ((es.length:Nat):Int)=2):Xy T n (.tup es)=false:=by
 unfold Xy;split
 ·rename_i e;injection e with e;rw [e] at h;exact absurd rfl h
 ·rfl
theorem QH {a b:Int}(k0:0<k)(b0:0<=b)(b1:b<=k-1):((b-a-1)%k=0)↔b=(a+1)%k:=by
 have eb:b%k=b:=Int.emod_eq_of_lt b0 (by omega);rw [show b-a-1=b-(a+1) by omega,<-Int.emod_eq_emod_iff_emod_sub_eq_zero,eb]
theorem hds_in {p:Nat}:j∈DM T n p↔j<n/\ent T p j>0:=by unfold DM;rw [List.mem_filter,List.mem_range,decide_eq_true_iff]
theorem FY {x:D}{p:Nat}(hp:p<n)(hj:j<n)(ha:ent T p j>0)(h: ¬zU x j=(zU x p+1)%k):Bw T n x k=false:=by
 cases c:Bw T n x k with
 |false=>rfl
 |true=>exact absurd (S9 (R0.mp (R0.mp c p (P2.mpr hp)) j (hds_in.mpr ⟨hj,ha⟩))) h
theorem QJ {x:D}(h: ∀p j,p<n->j<n->ent T p j>0->zU x j=(zU x p+1)%k):Bw T n x k=true:=
 R0.mpr λp hp=>R0.mpr λj hj=>G9 (h p j (P2.mp hp) (hds_in.mp hj).1 (hds_in.mp hj).2)
def Js:RDn:=λds h Q=> ∃T d,∃n e:Nat,ds= [jw T,d]/\Sq n e T/\1<=n/\n<=6/\okD d=true/\Q (.bl (Xy T n d)) h
theorem Vu (Z:Zs mg)(F:Fun K "_law_turns" "_law_turns" yQ f fd)(wE:jq P w K mg base n "_law_whole" ["_law_thing"] ww):FnOk P w K mg base CX0 (n+1) f fd ["_law_table_here","_law_thing"] (LSp K Js):=by
 refine F.okM zA (λhr=>(je (vY (jpt (GM (yE (wy (YS (T:= "tuple") (by decide) rfl Z.isinstance rfl Z.tuple (by decide +kernel) (jv 1)))) (GM (jt1 oq_ne (ZJ Z (jv 1)) jm) (GM (yE (wy (jk wE hr (j1 (ji1 (jv 1) jm))))) (Bh (yE (UY PQ PQ jm (ji1 (jv 1) jm) jm))))))) (jf (zB jbl)) jG) (by exact(je (An (jv 1) (Qa (i:=2) (j:=3) rfl zA.nd rfl rfl (by first|exact Or.inr rfl|exact Or.inl rfl) (Or.inl rfl))) (by exact(je (vY (jpt (GM (yE (wy (YS (T:= "tuple") (by decide) rfl Z.isinstance rfl Z.tuple (by decide +kernel) (jv 3)))) (Bh (jt1 oq_ne (ZJ Z (jv 3)) (ZJ Z (jv 0)))))) (jf (zB jbl)) jG) (by exact(je (vY (yE (wy (zE (Yl rfl) rfl Z.all O3 (j1 (jl0 8 zA (jX (jv 3)) (λ_ _ _ _=>(Mh (jk wE hr (j1 (jv 8))) (GN (Am PQ UT jm (jv 8) (jv 2)))))))))) (jf (zB jbl)) jG) (by exact(je (YQ S6 rfl (Xf rfl Z.enumerate (j1 (jv 0))) (Qa (i:=4) (j:=5) rfl zA.nd rfl rfl (Or.inl rfl) (Or.inl rfl)) (jf (YQ S6 rfl (Xf rfl Z.enumerate (j1 (jv 5))) (Qa (i:=6) (j:=7) rfl zA.nd rfl rfl (Or.inl rfl) (Or.inl rfl)) (jf (vY (jpt (Dk (jt1 Ga (jv 7) jm) (Dj (jt1 oq_ne (jop vi (jop XV (jop XV (ji1 (jv 3) (jv 6)) (ji1 (jv 3) (jv 4))) jm) (jv 2)) jm)))) (jf (zB jbl)) jG))))) (by exact(jf (zB jbl))))))))))))) ?_;rintro ds h Q ⟨T,d,n,b,rfl,hT,h1,h6,ok,q⟩;refine⟨rfl,?_⟩;have hlen:(((T.map vk).length:Nat):Int)=(n:Int):=by rw [G0,hT.len]
 obtain⟨nm,hn⟩:=yh ok;cases d with
 |tup es=>
  cases hn;obtain⟨hl,ht⟩:=Vi ok;refine jg (λσ' h'=>(∃k x,es= [.int k,x]/\1<=k/\k<=6)/\σ'= [some (jw T),some (.tup es),none,none,none,none,none,none,none]/\h=h') (λC hC=>⟨_,rfl,"tuple",rfl,_,rfl,wc ⟨_,rfl,_,rfl,?_⟩⟩) ?_
  ·show if (!decide (((es.length:Nat):Int)=2))=true then _ else _
   by_cases z:((es.length:Nat):Int)=2
   ·rw [G9 z];obtain⟨a,x,rfl⟩:=Ei z;obtain⟨na,hna⟩:=yh (ht a (by simp));refine wc ⟨_,rfl,_,rfl,a,na,rfl,hna,_,rfl,?_⟩;cases a with
    |int k=>
     refine wc ⟨_,rfl,_,rfl,_,rfl,?_⟩;show if decide ((1:Int)<=k)=true then _ else _
     by_cases c1:(1:Int)<=k
     ·rw [G9 c1];refine vS ⟨_,rfl,?_⟩;show if (!decide (k<=6))=true then _ else _
      by_cases c2:k<=6
      ·rw [G9 c2];exact wc (hC _ _ ⟨⟨k,x,rfl,c1,c2⟩,rfl,rfl⟩)
      ·rw [D1 c2];have e:Xy T n (.tup [.int k,x])=false:=by
        show ((decide ((1:Int)<=k)&&decide (k<=6))&&_)=false;rw [D1 c2,Bool.and_false,X9]
       rw [e] at q;exact vS ⟨h,Sub.refl h,q⟩
     ·rw [D1 c1];have e:Xy T n (.tup [.int k,x])=false:=by
       show ((decide ((1:Int)<=k)&&decide (k<=6))&&_)=false;rw [D1 c1,X9,X9]
      rw [e] at q;exact wc ⟨_,rfl,vS ⟨h,Sub.refl h,q⟩⟩
    |_=>exact vS ⟨h,Sub.refl h,q⟩
   ·rw [D1 z];rw [NN z] at q;exact vS ⟨h,Sub.refl h,q⟩
  rintro _ _ ⟨⟨k,x,rfl,k1,k6⟩,rfl,rfl⟩;have w6:zk (.int k) 1 6=true:=by show (decide ((1:Int)<=k)&&decide (k<=6))=true;rw [G9 k1,G9 k6];rfl
  have e0:Xy T n (.tup [.int k,x])=(WD x n k&&Bw T n x k):=by show (zk (.int k) 1 6&&_)=_;rw [w6];rfl
  rw [e0] at q;refine jg (λσ' h'=>σ'= [some (jw T),some (.tup [.int k,x]),some (.int k),some x,none,none,none,none,none]/\h=h') (λC hC=>⟨_,rfl,_,_,rfl,hC _ _ ⟨rfl,rfl⟩⟩) ?_;rintro _ _ ⟨rfl,rfl⟩;have okx:=ht x (by simp);obtain⟨nx,hnx⟩:=yh okx;cases x with
  |tup rs=>
   cases hnx;obtain⟨hrl,hrt⟩:=Vi okx;refine jg (λσ' h'=>((rs.length:Nat):Int)=n/\σ'= [some (jw T),some (.tup [.int k,.tup rs]),some (.int k),some (.tup rs),none,none,none,none,none]/\h=h') (λC hC=>⟨_,rfl,"tuple",rfl,_,rfl,wc ⟨_,rfl,_,rfl,_,rfl,?_⟩⟩) ?_
   ·show if (!decide (((rs.length:Nat):Int)=(((T.map vk).length:Nat):Int)))=true then _ else _
    rw [hlen]
    by_cases z:((rs.length:Nat):Int)=n
    ·rw [G9 z];exact wc (hC _ _ ⟨z,rfl,rfl⟩)
    ·rw [D1 z];have e:WD (.tup rs) n k=false:=by show (decide _&&_)=false;rw [D1 z];rfl
     rw [e] at q;exact vS ⟨h,Sub.refl h,q⟩
   rintro _ _ ⟨z,rfl,rfl⟩;have e1:WD (.tup rs) n k=rs.all λx=>zk x 0 (k-1):=by show (decide _&&_)=_;rw [G9 z];rfl
   refine jg (λσ' h'=>(rs.all λx=>zk x 0 (k-1))=true/\σ'= [some (jw T),some (.tup [.int k,.tup rs]),some (.int k),some (.tup rs),none,none,none,none,none]/\h=h') (λC hC=> ?_) ?_
   ·refine Et rs (λx=>x) (λx=>zk x 0 (k-1)) hrl (by rw [List.map_id']) (λR r=>⟨_,rfl,r⟩) (λx hx Q' q'=> ?_) ⟨_,rfl,?_⟩
    ·obtain⟨ny,hny⟩:=yh (hrt x hx);refine⟨_,rfl,x,ny,rfl,hny,RS x,rfl,?_⟩;cases x with
     |int y=>
      refine vS ⟨_,rfl,_,rfl,?_⟩;show if decide (0<=y)=true then _ else _
      by_cases y0:0<=y
      ·rw [G9 y0];simp only [zk,G9 y0,G0J] at q';rw [<-At] at q';exact vS ⟨_,rfl,q'⟩
      ·rw [D1 y0];simp only [zk,D1 y0,X9] at q';exact wc q'
     |_=>exact wc q'
    ·show if (!(rs.all λx=>zk x 0 (k-1)))=true then _ else _
     cases hp:rs.all λx=>zk x 0 (k-1) with
     |false=>
      rw [e1,hp] at q;exact vS ⟨h,Sub.refl h,q⟩
     |true=>exact wc (hC _ _ ⟨hp,rfl,rfl⟩)
   rintro _ _ ⟨hall,rfl,rfl⟩;rw [hall] at e1;rw [e1] at q;have q:Q (.bl (Bw T n (.tup rs) k)) h:=q;obtain⟨el,at_⟩:=NM e1;refine jg (λσ' h'=>(∀p j,p<n->j<n->ent T p j>0->zU (.tup rs) j=(zU (.tup rs) p+1)%k)/\h=h') (λC hC=> ?_) (λ_ _ ⟨g,e⟩=>by subst e;rw [QJ g] at q;exact⟨h,Sub.refl h,q⟩);refine ZB (h1:=h) (j:=λ_=>some (Gg (T.map vk))) (Gg (T.map vk)) (λi σ' h'=> ∃a b c d e,σ'= [some (jw T),some (.tup [.int k,.tup rs]),some (.int k),some (.tup rs),a,b,c,d,e]/\(∀p j,p<i->j<n->ent T p j>0->zU (.tup rs) j=(zU (.tup rs) p+1)%k)/\h=h') (λR r=>⟨_,rfl,_,rfl,r⟩) (λ_ _ _ _=>rfl) ⟨_,_,_,_,_,rfl,λp j z=>by omega,rfl⟩ (λσ' h' ⟨_,_,_,_,_,_,g,e⟩=>hC _ _ ⟨by rw [jR,G0,hT.len] at g;exact g,e⟩) ?_;rintro i dd _ _ hdd ⟨a,b',c,d,e,rfl,g,rfl⟩;obtain⟨rw_,hrw,rfl⟩:=ZD hdd;rw [D2] at hrw;obtain⟨r,hr,rfl⟩:=M6.mp hrw;have hi:i<n:=by rw [<-hT.len];exact(G5.mp hr).1
   have er:T.getD i []=r:=by rw [P1,hr];rfl
   have gr:=hT.row r (G7 hr);refine⟨_,_,rfl,?_⟩;refine ZB (h1:=h) (j:=λ_=>some (Gg (r.map D.int))) (Gg (r.map D.int)) (λi2 σ' h'=> ∃c d,σ'= [some (jw T),some (.tup [.int k,.tup rs]),some (.int k),some (.tup rs),some (.int (i:Int)),some (vk r),c,d,e]/\(∀j,j<i2->ent T i j>0->zU (.tup rs) j=(zU (.tup rs) i+1)%k)/\h=h') (λR r=>⟨_,rfl,_,rfl,r⟩) (λ_ _ _ _=>rfl) ⟨_,_,rfl,λj z=>by omega,rfl⟩ ?_ ?_
   ·rintro _ _ ⟨c,d,rfl,g2,rfl⟩;refine⟨_,Sub.refl _,by rw [jR,G0,hT.len];omega,_,_,_,_,_,rfl,λp j hp hj ha=> ?_,rfl⟩;rcases C7 p i with zz|zz
    ·exact g p j zz hj ha
    ·have:p=i:=by omega
     subst this;exact g2 j (by rw [jR,G0,gr];exact hj) ha
   rintro i2 dd _ _ hdd ⟨c,d,rfl,g2,rfl⟩;obtain⟨x,hx,rfl⟩:=ZD hdd;rw [D2] at hx;obtain⟨y,hy,rfl⟩:=M6.mp hx;have hi2:i2<n:=by rw [<-gr];exact(G5.mp hy).1
   have ey:ent T i i2=y:=by unfold ent;rw [er,List.getD_eq_getElem?_getD,hy];rfl
   refine⟨_,_,rfl,⟨_,rfl,_,rfl,?_⟩⟩;obtain⟨ra,a1,a2,a3,a4⟩:=at_ i2 (by omega);obtain⟨rb,b1,b2,b3,b4⟩:=at_ i (by omega);show if decide (y>0)=true then _ else _
   by_cases yp:y>0
   ·rw [G9 yp];refine vS ⟨_,rfl,_,rfl,_,a1,_,rfl,_,rfl,_,b1,_,rfl,by omega,_,rfl,?_⟩;show if (!decide ((ra-rb-1)%k=0))=true then _ else _
    by_cases yz:(ra-rb-1)%k=0
    ·rw [G9 yz];refine wc ⟨_,Sub.refl _,by rw [jR,G0,gr];omega,_,_,rfl,λj hj ha=> ?_,rfl⟩;rcases C7 j i2 with zz|zz
     ·exact g2 j zz ha
     ·have:j=i2:=by omega
      subst this;rw [a2,b2];exact(QH (by omega) a3 a4).mp yz
    ·rw [D1 yz];have e5:Bw T n (.tup rs) k=false:=FY hi hi2 (by omega) (by rw [a2,b2];exact λw=>yz ((QH (by omega) a3 a4).mpr w));rw [e5] at q;exact vS ⟨h,Sub.refl h,q⟩
   ·rw [D1 yp];refine wc (wc ⟨_,Sub.refl _,by rw [jR,G0,gr];omega,_,_,rfl,λj hj ha=> ?_,rfl⟩);rcases C7 j i2 with zz|zz
    ·exact g2 j zz ha
    ·have:j=i2:=by omega
     subst this;omega
  |_=>cases hnx<;>exact jg (λ_ _=>False) (λC hC=>⟨_,rfl,_,rfl,_,rfl,vS ⟨h,Sub.refl h,q⟩⟩) (λ_ _ z=>z.elim)
 |_=>cases hn<;>exact jg (λ_ _=>False) (λC hC=>⟨_,rfl,_,rfl,_,rfl,vS ⟨h,Sub.refl h,q⟩⟩) (λ_ _ z=>z.elim)
def yq:RDn:=λds h Q=> ∃S:List Nat,ds= [jC S]/\S.length<=6/\Q (.bl true) h
theorem Zv (Z:Zs mg)(F:Fun K "_law_true_set" "_law_true_set" wv f fd)(wE:jq P w K mg base n "_law_whole" ["_law_thing"] ww):FnOk P w K mg base CX0 (n+1) f fd ["_law_thing"] (LSp K yq):=by
 refine F.okM ym (λhr=>(jf (zB (zE (Yl rfl) rfl Z.all O3 (j1 (jl0 1 ym (jX (jv 0)) (λ_ _ _ _=>(jk wE hr (j1 (jv 1)))))))))) ?_;rintro ds h Q ⟨S,rfl,hl,q⟩;refine⟨rfl,?_⟩;refine Et S (λ(k:Nat)=> .int (k:Int)) (λ_=>true) (by omega) rfl (λR r=>⟨_,rfl,r⟩) (λx hx Q' q'=>⟨_,rfl,.int (x:Int),"int",rfl,rfl,q'⟩) ⟨h,Sub.refl h,?_⟩;rw [show (S.all λ_=>true)=true from by rw [R0];exact λ_ _=>rfl];exact q
theorem Yx {rs:List Nat}:zU (jC rs) j=(rs.getD j 0:Int):=by
 unfold zU jC;dsimp only;rw [P1,P1,D2];cases rs[j]? with
 |none=>rfl
 |some x=>rfl
theorem TurnsOf.hold {d:Nat}{rs:List Nat}(t:TurnsOf T n d rs)(d1:1<=d)(d6:d<=6):Bx T n (.int (d:Int)) (jC rs)=true:=by
 show (zk (.int (d:Int)) 1 6&&(WD (jC rs) n (d:Int)&&Bw T n (jC rs) (d:Int)))=true;have a:zk (.int (d:Int)) 1 6=true:=by show (decide ((1:Int)<=d)&&decide ((d:Int)<=6))=true;rw [G9 (by omega),G9 (by omega)];rfl
 have b:WD (jC rs) n (d:Int)=true:=by
  show (decide (((rs.map λ(k:Nat)=>D.int (k:Int)).length:Int)=n)&&(rs.map λ(k:Nat)=>D.int (k:Int)).all (λx=>zk x 0 ((d:Int)-1)))=true;rw [G0,t.len,G9 rfl,G0J,A1,R0];intro x hx;obtain⟨j,hj,rfl⟩:=C3 hx;have:=t.lt j (by rw [<-t.len];exact hj);rw [P1,G1 hj] at this;have this:rs[j]<d:=this;show (decide ((0:Int)<=(rs[j]:Int))&&decide ((rs[j]:Int)<=(d:Int)-1))=true;rw [G9 (by omega),G9 (by omega)];rfl
 rw [a,b,QJ λp j hp hj ar=>by rw [Yx,Yx,t.go p j hp hj (by omega),G0N];rfl];rfl
theorem Ma (h:Sq n e T)(hn:n<=8)(n1:1<=n){o:Option Nat}(ho:Fst n T o):o≠none↔(vQ T n).length=1/\zc T n=1:=by
 constructor
 ·intro z;cases o with
  |none=>exact absurd rfl z
  |some k=>exact Xo h hn n1 (K:=k) λm hm i j hi hj=>Eh h hn ho hm hi hj
 ·rintro ⟨one,d1⟩ rfl;obtain⟨B,hB⟩:=Xn h hn one d1;have:=ho (B+1) (by omega);rw [(DW h hn).mpr (hB (B+1) (by omega))] at this;cases this
theorem Gz (h:Sq n e T)(hn:n<=8){S:List Nat}(hS:IsS n S)(p1:0<S.length)(p2:S.length<n)(sh:vg n T S=true):(vQ T n).length≠1:=by
 intro one;obtain⟨i,hi⟩:=List.exists_mem_of_length_pos p1;refine absurd p2 (V5.mpr ?_);have sub: ∀j,j<n->j∈S:=λj hj=>by
  obtain⟨k,r⟩:=wL h hn one (hS.lt hi) hj;rw [<-Tg h hS sh];exact mem_cl.mpr ⟨hj,i,hi,NC h hn k (hS.lt hi) hj r⟩
 obtain⟨p,rfl⟩:=hS;rw [G1e.mpr λj hj=>(S8.mp (sub j (P2.mp hj))).2,R4];exact G8 _
theorem Mb (h:Sq n e T)(hn:n<=8)(n1:1<=n)(one:(vQ T n).length=1)(z:zc T n=0):TurnsOf T n 2 [0]:=by
 have bk: ∀m p,p<n->RP n T m p p->m=0:=λm p hp r=>by
  have:=zM h hn m hp r;rw [show wU T n=0 from z] at this;exact Nat.eq_zero_of_zero_dvd this
 have e1:n=1:=by
  refine Nat.le_antisymm (Y7 λn2=> ?_) n1;obtain⟨k,rk⟩:=wL h hn one (i:=0) (j:=1) (by omega) (by omega);obtain⟨l,rl⟩:=wL h hn one (i:=1) (j:=0) (by omega) (by omega);have:=bk (k+l) 0 (by omega) ((zT h hn k l (by omega) (by omega)).mpr ⟨1,by omega,rk,rl⟩);rw [show k=0 by omega] at rk;exact absurd ((jS (by omega) (by omega)).mp rk) (by decide)
 subst e1;refine⟨rfl,λj hj=>by rw [show j=0 by omega];decide,λi j hi hj ar=> ?_⟩;rw [show i=0 by omega,show j=0 by omega] at ar;exact absurd (bk 1 0 (by decide) ((Je h hn).mpr ar)) (by decide)
/-- a paper,just where no power is full -/
theorem Mc (h:Sq n e T)(hn:n<=8)(n1:1<=n){o:Option Nat}(ho:Fst n T o){t:D}(nt:EC n T t):(true !=isN t)=isN (Li o):=by
 have fi:=Ma h hn n1 ho;rcases nt with ⟨S,rfl,iS,p1,p2,sh⟩|⟨one,⟨rfl,z⟩|⟨rs,rfl,_,z⟩|⟨rfl,z⟩⟩
 ·cases o with
  |none=>rfl
  |some k=>exact absurd (fi.mp (by intro z;cases z)).1 (Gz h hn iS p1 p2 sh)
 ·cases o with
  |none=>rfl
  |some k=>have:=(fi.mp (by intro z;cases z)).2;omega
 ·cases o with
  |none=>rfl
  |some k=>have:=(fi.mp (by intro z;cases z)).2;omega
 ·cases o with
  |none=>exact absurd rfl (fi.mpr ⟨one,z⟩)
  |some k=>rfl
theorem Uu {p:PyData}(c:p.canLay0=true)(d:p.depth<=64):SeqAt.shaped p=true:=by
 unfold SeqAt.shaped;rw [c,decide_eq_true d];rfl
theorem Uv (S:List Nat):(Bk S).depth<=10:=R9 (VZ _) (by decide)
theorem FZ {S:List Nat}(q:Q (.bl false) h):eqE (.tup [.str "shut",jC S]) (.tup []) h Q:=⟨.tuple [.str "shut",Bk S],.tuple [],⟨_,rfl,_,_,rfl,rfl,_,_,rfl,YZ h S,rfl⟩,⟨_,rfl,rfl⟩,Uu (by simp only [PyData.canLay0,PyData.canLayAll0,encO.lay S,Bool.and_true];decide +kernel) (by have:=Uv S;simp only [PyData.depth,PyData.depthAll];omega),by decide +kernel,q⟩
theorem NO {d:Int}{S:List Nat}(q:Q (.bl false) h):eqE (.tup [.str "turns",.int d,jC S]) (.tup []) h Q:=⟨.tuple [.str "turns",.int d,Bk S],.tuple [],⟨_,rfl,_,_,rfl,rfl,_,_,rfl,rfl,_,_,rfl,YZ h S,rfl⟩,⟨_,rfl,rfl⟩,Uu (by simp only [PyData.canLay0,PyData.canLayAll0,encO.lay S,Bool.and_true];decide +kernel) (by have:=Uv S;simp only [PyData.depth,PyData.depthAll];omega),by decide +kernel,q⟩
theorem Uw {w:Str}(hw:w= "shut" \/w= "turns"){h:HD}{Q:KD}(q:Q (.bl false) h):inE true (.str w) (.tup [.str "shut",.str "turns"]) h Q:=by
 refine⟨.str w,[.str "shut",.str "turns"],rfl,.inr ⟨_,rfl,⟨_,_,rfl,rfl,_,_,rfl,rfl,rfl⟩⟩,by rcases hw with rfl|rfl<;>decide +kernel,by decide +kernel,by simp [PyData.depth],?_⟩;rcases hw with rfl|rfl
 ·exact q
 ·exact q
def Jt:RDn:=λds h Q=> ∃T t,∃n e:Nat,ds= [jw T,t]/\Sq n e T/\1<=n/\n<=6/\EC n T t/\isN t=false/\Q (.bl true) h
theorem Vv (Z:Zs mg)(F:Fun K "_law_never" "_law_never" yR f fd)(WF:jq P w K mg base n "_law_true_set" ["_law_thing"] yq)(XA:jq P w K mg base n "_law_sets" ["_law_many"] Zj)(Ux:jq P w K mg base n "_law_after" ["_law_table_here","_law_some"] Jr)(UC:jq P w K mg base n "_law_turns" ["_law_table_here","_law_thing"] Js):FnOk P w K mg base CX0 (n+1) f fd ["_law_table_here","_law_thing"] (LSp K Jt):=by
 refine F.okM yg (λhr=>(je (jse 2 yg (ZJ Z (jv 0))) (by exact(je (vY (jpt (GM (yE (wy (YS (T:= "tuple") (by decide) rfl Z.isinstance rfl Z.tuple (by decide +kernel) (jv 1)))) (GM (jt1 (VQ hr.units) (jv 1) (zC zS)) (Bh (Gc (YX hr.units) (ji1 (jv 1) jm) (zC (j2 Za Za)) (by with_unfolding_all rfl)))))) (jf (zB jbl)) jG) (by exact(je (vY (jt1 oq_eq (ji1 (jv 1) jm) Za) (je (vY (jpt (GM (jt1 oq_ne (ZJ Z (jv 1)) jm) (GM (Gc (YX hr.units) (ji1 (jv 1) jm) (Dp (jk XA hr (j1 (jv 2))) (YT jm) Do) (by with_unfolding_all rfl)) (Bh (yE (wy (jk WF hr (j1 (ji1 (jv 1) jm))))))))) (jf (zB jbl)) jG) (by exact(jf (zB (Mh (jc1 UT (ZJ Z (ji1 (jv 1) jm)) (jv 2)) (GN (zE (Yl rfl) rfl Z.all O3 (j1 (jl0 3 yg (jX (jk Ux hr (j2 (jv 0) (ji1 (jv 1) jm)))) (λ_ _ _ _=>(SO (CQ hr.units) (jv 3) (ji1 (jv 1) jm) (by with_unfolding_all rfl)))))))))))) jG) (by exact(jf (zB (Mh (jc1 oq_eq (ZJ Z (jv 1)) jm) (Mh (jk UC hr (j2 (jv 0) (Dp (jv 1) (YT jm) Do))) (GN (jc1 Ga (ji1 (jv 1) jm) jm))))))))))))) ?_;rintro ds h Q ⟨T,t,n,b,rfl,hT,h1,h6,nt,nn,q⟩;refine⟨rfl,?_⟩;have h8:n<=8:=by omega
 refine jg (λσ' h'=>σ'= [some (jw T),some t,some (.int (n:Int)),none]/\h=h') (λC hC=>⟨_,rfl,hC _ _ ⟨by show _= [some (jw T),some t,some (.int (n:Int)),none];rw [G0,hT.len];rfl,rfl⟩⟩) ?_;rintro _ _ ⟨rfl,rfl⟩;have cs:(∃S,t= .tup [.str "shut",jC S]/\IsS n S/\0<S.length/\S.length<n/\vg n T S=true)\/(∃d:Nat,∃rs:List Nat,t= .tup [.str "turns",.int (d:Int),jC rs]/\TurnsOf T n d rs/\2<=d/\d<=6):=by
  rcases nt with x|⟨one,⟨rfl,z⟩|⟨rs,rfl,tu,z⟩|⟨rfl,z⟩⟩
  ·exact .inl x
  ·exact .inr ⟨2,[0],rfl,Mb hT h8 h1 one z,by decide,by decide⟩
  ·exact .inr ⟨_,rs,rfl,tu,z,(Yw h6 (by omega)).2⟩
  ·cases nn
 rcases cs with ⟨S,rfl,iS,p1,p2,sh⟩|⟨d,rs,rfl,tu,d2,d6⟩
 ·have ms:S∈(vf n).drop 1:=by
   obtain⟨r,er,_⟩:=Gu n;have:=setsS_mem.mpr iS;rw [er] at this ⊢;rcases D0.mp this with z|z
   ·rw [z] at p1;cases p1
   ·exact z
  refine jg (λσ' h'=>σ'= [some (jw T),some (.tup [.str "shut",jC S]),some (.int (n:Int)),none]/\h=h') (λC hC=>⟨_,rfl,"tuple",rfl,_,rfl,wc ⟨_,rfl,(by show 0<=sizeLine;decide),FZ ⟨_,rfl,wc ⟨_,rfl,_,rfl,(by show 2<=sizeLine;decide),Uw (.inl rfl) ⟨_,rfl,wc (hC _ _ ⟨rfl,rfl⟩)⟩⟩⟩⟩⟩) ?_;rintro _ _ ⟨rfl,rfl⟩;refine jg (λ_ _=>False) (λC hC=>⟨_,rfl,_,rfl,_,rfl,vS ?_⟩) (λ_ _ z=>z.elim);refine jg (λσ' h'=>σ'= [some (jw T),some (.tup [.str "shut",jC S]),some (.int (n:Int)),none]/\Sub h h') (λC hC=>⟨_,rfl,_,rfl,wc ⟨_,rfl,_,rfl,_,rfl,n,rfl,h6,λA h' kA sb=> ?_⟩⟩) ?_
  ·exact⟨_,rfl,_,kA,λB eB=>Ar encO (as:=(vf n).drop 1) (by rw [jd,Db,Fe]) λc hc=>by rw [hc.mpr ms];exact⟨_,rfl,wc ⟨_,rfl,_,rfl,S,rfl,by have:=iS.len;omega,_,rfl,wc (hC _ _ ⟨rfl,sb.newAt eB⟩)⟩⟩⟩
  rintro _ g ⟨rfl,sg⟩;refine⟨_,rfl,_,rfl,_,rfl,?_⟩;show ∃c,D.bl (decide ((((S.map λ(k:Nat)=>D.int (k:Int)).length:Nat):Int)<(n:Int)))= .bl c/\_;rw [G0,G9 (by omega)];refine⟨_,rfl,vS ?_⟩;refine Et (j:=λ_=>some ((wJ n T S).map λ(k:Nat)=>D.int (k:Int))) (wJ n T S) (λ(k:Nat)=> .int (k:Int)) (λj=>decide (j∈S)) (by have:=Uf (n:=n) (T:=T) (S:=S);omega) rfl (λR r=>⟨_,rfl,_,rfl,_,rfl,T,S,n,b,rfl,hT,iS,h6,r⟩) (λj hj Q' q'=>⟨_,rfl,_,rfl,_,rfl,Rt q'⟩) ⟨h,sg,?_⟩;show Q (.bl (vg n T S)) h;rw [sh];exact q
 ·refine jg (λσ' h'=>σ'= [some (jw T),some (.tup [.str "turns",.int (d:Int),jC rs]),some (.int (n:Int)),none]/\h=h') (λC hC=>⟨_,rfl,"tuple",rfl,_,rfl,wc ⟨_,rfl,(by show 0<=sizeLine;decide),NO ⟨_,rfl,wc ⟨_,rfl,_,rfl,(by show 2<=sizeLine;decide),Uw (.inr rfl) ⟨_,rfl,wc (hC _ _ ⟨rfl,rfl⟩)⟩⟩⟩⟩⟩) ?_;rintro _ _ ⟨rfl,rfl⟩;refine jg (λσ' h'=>σ'= [some (jw T),some (.tup [.str "turns",.int (d:Int),jC rs]),some (.int (n:Int)),none]/\h=h') (λC hC=>⟨_,rfl,_,rfl,_,rfl,wc (hC _ _ ⟨rfl,rfl⟩)⟩) ?_;rintro _ _ ⟨rfl,rfl⟩;have ok:okD (.tup [.int (d:Int),jC rs])=true:=QC (by show 2<=1000;decide) λx hx=>by
   rcases D0.mp hx with rfl|hx
   ·rfl
   ·rw [G2.mp hx];exact QC (by rw [G0,tu.len];omega) λd hd=>by obtain⟨x,_,rfl⟩:=D8.mp hd;rfl
  refine⟨_,rfl,_,rfl,vS ⟨_,rfl,_,rfl,_,rfl,T,.tup [.int (d:Int),jC rs],n,b,rfl,hT,h1,h6,ok,_,rfl,?_⟩⟩;rw [show Xy T n (.tup [.int (d:Int),jC rs])=true from tu.hold (by omega) d6];refine vS ⟨_,rfl,_,rfl,h,Sub.refl h,?_⟩;show Q (.bl (decide ((1:Int)<(d:Int)))) h;rw [G9 (show (1:Int)<(d:Int) by omega)];exact q
theorem Ej {x y:Bool}(e:x=y)(q:Q (.bl false) h):neE (.bl x) (.bl y) h Q:=by
 subst e;show Q (.bl (!decide (x=x))) h;rw [G9 rfl];exact q
theorem Kj {neg:Bool}{w:D}{x:Bool}{σ:SD}(e:x=(neg !=isN w))(q:Q (.bl false) h):dC .non σ h λy h2=>isV neg w y h2 λy h2=>neE (.bl x) y h2 Q:=Ej e q
def Ju:RDn:=λds h Q=> ∃T,∃n e:Nat,ds= [jw T]/\Sq n e T/\1<=n/\n<=6/\e<=1000/\Q (.bl true) h
theorem Vw (Z:Zs mg)(F:Fun K "_law_right" "_law_right" yS f fd)(Uy:jq P w K mg base n "_law_first" ["_law_table_here"] Jq)(XE:jq P w K mg base n "why_never" ["table"] Zg)(Uz:jq P w K mg base n "_law_never" ["_law_table_here","_law_thing"] Jt):FnOk P w K mg base CX0 (n+1) f fd ["_law_table_here"] (LSp K Ju):=by
 refine F.okM zZ (λhr=>(je (jse 1 zZ (jk Uy hr (j1 (jv 0)))) (by exact(je (YQ S6 rfl (jrg Z jm) (jgn 2 zZ) (je (jse 3 zZ (jk XE hr (j1 (jv 0)))) (by exact(jf (vY (jpt (GM (jt1 (Bg hr.units) (jc1 SL (jv 3) CG) (jc1 XZ (jv 1) CG)) (Bh (jpt (Dk (jt1 XZ (jv 3) CG) (Dj (yE (wy (jk Uz hr (j2 (jv 0) (jv 3))))))))))) (jf (zB jbl)) jG))))) (by exact(jf (zB jbl))))))) ?_;rintro ds h Q ⟨T,n,b,rfl,hT,h1,h6,hb,q⟩;refine⟨rfl,?_⟩;have h8:n<=8:=by omega
 obtain⟨r,fr⟩:=Eg hT h1 h6;refine jg (λσ' h'=>σ'= [some (jw T),some (Li r),none,none]/\h=h') (λC hC=>⟨_,rfl,T,n,b,r,rfl,hT,h1,h6,hb,fr,hC _ _ ⟨rfl,rfl⟩⟩) ?_;rintro _ _ ⟨rfl,rfl⟩;refine jg (λσ' h'=> ∃x y,σ'= [some (jw T),some (Li r),x,y]/\h=h') (λC hC=> ?_) ?_
 ·refine wI 2 (λi σ' h'=> ∃x y,σ'= [some (jw T),some (Li r),x,y]/\h=h') (by decide) (λR r=>r) ⟨_,_,rfl,rfl⟩ (λσ' h' z=>hC _ _ z) ?_;rintro i _ _ hi ⟨x,y,rfl,rfl⟩;refine jg (λσ' h'=> ∃t,σ'= [some (jw T),some (Li r),some (.int (i:Int)),some t]/\EC n T t/\h=h') (λC hC=>⟨_,rfl,T,n,b,rfl,hT,h1,h6,λt nt=>hC _ _ ⟨t,rfl,nt,rfl⟩⟩) ?_;rintro _ _ ⟨t,rfl,nt,rfl⟩;have nf:=Mc hT h8 h1 fr nt;refine⟨_,rfl,_,rfl,Kj (x:=(false !=isN t)) (by rw [<-nf];cases isN t<;>rfl) ⟨_,rfl,wc ⟨_,rfl,?_⟩⟩⟩;show ∃k,D.bl (true !=isN t)=D.bl k/\_;cases nn:isN t with
  |true=>exact⟨_,rfl,wc (wc ⟨_,Sub.refl _,by omega,_,_,rfl,rfl⟩)⟩
  |false=>exact⟨_,rfl,vS ⟨_,rfl,_,rfl,T,t,n,b,rfl,hT,h1,h6,nt,nn,_,rfl,wc ⟨_,Sub.refl _,by omega,_,_,rfl,rfl⟩⟩⟩
 rintro _ _ ⟨x,y,rfl,rfl⟩;exact⟨h,Sub.refl h,q⟩
theorem Kk {w:Str}(q:Q (.bl false) h)(hs:SeqAt.shaped (.tuple [.str w])=true:=by decide +kernel):neE (.tup [.str w]) (.tup [.str w]) h Q:=by
 refine⟨.tuple [.str w],.tuple [.str w],⟨_,rfl,_,_,rfl,rfl,rfl⟩,⟨_,rfl,_,_,rfl,rfl,rfl⟩,hs,hs,?_⟩;have e:PyData.eqv (.tuple [.str w]) (.tuple [.str w])=true:=by simp [PyData.eqv,PyData.eqvAll]
 rw [e];exact q
theorem Ek (Z:Zs mg)(B:Bm mg base)(a:PySem.W.nsIn K mainGlobals "law" =some (some (.ref f)))(TX: ∃c P,PySem.W.tabIn K "law" =some (c,P)/\PySem.W.codeHdIn K c P=true)(F:Fun K "law" "law" Xr f fd)(Zk:jq P w K mg base (n+2) "_law_right" ["_law_table_here"] Ju)(Xz:jq P w K mg base (n+2) "_law_cell" ["_law_script","_law_k"] Zh)(GA:jq P w K mg base (n+2) "_law_pen" ["_law_cell_here"] WC)(XB:jq P w K mg base (n+2) "_law_size" ["_law_pen_here"] Zi)(UA:jq P w K mg base (n+2) "_law_table" ["_law_pen_here","_law_size_here"] Jo)(WE:jq P w K mg base (n+2) "_law_no_table" ["_law_pen_here"] yo)(CR_why_never:Wh P w K mg base n "why_never" ["table"] Jn)(CS:AD P w K mg base n):FnOk P w K mg base CX0 ((n+2)+1) f fd ["_law_script"] (LSp K Dc):=by
 obtain⟨gS,gdS,GS,bGS,kGS,mGS⟩:=CS;obtain⟨tc,tP,T,tH⟩:=TX;have hTK:TabK K tP:=⟨"law",by decide,tc,T⟩;refine F.okJL a T Wx (λds h Q q=>by obtain⟨ns,e,hh,hns,q⟩:=q;subst e;rfl) _ (λA outer s H E hr=>(je (YQ S6 rfl (Dl (Zb (jac (zC (j1 (zC (j1 jm)))) (by exact(jac (zC (j1 (zC (j1 jm)))) (by exact(j4 (zC (j2 (zC (j2 jm jm)) (zC (j2 jm jm)))) (zC (j2 (zC (j2 jm jm)) (zC (j2 jm jm)))) (zC (j2 (zC (j2 jm jm)) (zC (j2 jm jm)))) (zC (j2 (zC (j2 jm jm)) (zC (j2 jm jm))))))))))) (jgn 1 Wx) (jf (vY (yE (wy (jk Zk hr (j1 (jv 1))))) (jf (zB jbl)) jG))) (by exact(je (YQ S6 rfl (Dl (jop zn (Zb (j1 (jk Xz hr (j2 (jv 0) jm)))) (Dp (jv 0) (YT jm) (YT jm)))) (jgn 2 Wx) (je (jse 3 Wx (jk GA hr (j1 (jv 2)))) (by exact(je (jse 4 Wx (jk XB hr (j1 (jv 3)))) (by exact(je (YQ S6 rfl (jrg Z jm) (jgn 5 Wx) (jf (vY (yE (wy (jk Zk hr (j1 (jk UA hr (j2 (jv 3) (jv 4))))))) (jf (zB jbl)) jG))) (by exact(je (jse 6 Wx (jk WE hr (j1 (jv 3)))) (by exact(jf (vY (jt1 (Bg hr.units) (SZ GS hr rfl mGS kGS bGS B rfl tH hTK (Az rfl (by decide +kernel)) (Fq (by show AA _ (jc Xr)=true;decide +kernel)) (λ_ _ _ _ _ _ _ _ _ hr=>jno) (λ_ _ _ _ _ _ _ _ _ hr=>(jxk CR_why_never hr (j1 (jv 6))))) (zC (j1 Za))) (jf (zB jbl)) jG))))))))))) (by exact(jf (zB jbl))))))) ?_;intro ds h Q q;obtain⟨ns,e,hh,hns,q⟩:=q;subst e;refine jg (λσ' h'=> ∃x,σ'= [some (.scr ns),x,none,none,none,none,none]/\True) (λC hC=>⟨(by show 1<=sizeLine;decide),(by show 1<=sizeLine;decide),(by show 1<=sizeLine;decide),(by show 1<=sizeLine;decide),(by show 2<=sizeLine;decide),(by show 2<=sizeLine;decide),(by show 2<=sizeLine;decide),(by show 2<=sizeLine;decide),(by show 2<=sizeLine;decide),(by show 2<=sizeLine;decide),(by show 2<=sizeLine;decide),(by show 2<=sizeLine;decide),(by show 2<=sizeLine;decide),(by show 2<=sizeLine;decide),(by show 2<=sizeLine;decide),(by show 2<=sizeLine;decide),(by show 6<=sizeLine;decide),λX eX=>⟨X,rfl,?_⟩⟩) ?_
 ·refine vX [jw [[0]],jw [[3]],jw [[0,1],[1,0]],jw [[1,1],[0,1]],jw [[0,1],[1,1]],jw [[0,0],[0,0]]] (λi σ' h'=> ∃x,σ'= [some (.scr ns),x,none,none,none,none,none]/\h' X=some [jw [[0]],jw [[3]],jw [[0,1],[1,0]],jw [[1,1],[0,1]],jw [[0,1],[1,1]],jw [[0,0],[0,0]]]) (λi σ' h' ⟨_,_,k⟩=>k) ⟨none,rfl,jd⟩ (λσ' h' ⟨x,e,_⟩=>hC _ _ ⟨x,e,True.intro⟩) ?_;rintro j d _ h1 hj ⟨x,rfl,kX⟩;have hjl:=(G5.mp hj).1;obtain⟨V,v,rfl,sV,v1,v6⟩: ∃V,∃v:Nat,d=jw V/\Sq v 3 V/\1<=v/\v<=6:=by
   have hm:=G7 hj;simp only [D0,M0,W5] at hm;rcases hm with e|e|e|e|e|e
   ·exact⟨_,1,e,⟨by decide,by decide,by decide,by decide⟩,by decide,by decide⟩
   ·exact⟨_,1,e,⟨by decide,by decide,by decide,by decide⟩,by decide,by decide⟩
   ·exact⟨_,2,e,⟨by decide,by decide,by decide,by decide⟩,by decide,by decide⟩
   ·exact⟨_,2,e,⟨by decide,by decide,by decide,by decide⟩,by decide,by decide⟩
   ·exact⟨_,2,e,⟨by decide,by decide,by decide,by decide⟩,by decide,by decide⟩
   ·exact⟨_,2,e,⟨by decide,by decide,by decide,by decide⟩,by decide,by decide⟩
  exact⟨_,rfl,V,v,3,rfl,sV,v1,v6,by decide,_,rfl,wc ⟨_,Sub.refl _,hjl,_,rfl,kX⟩⟩
 rintro _ h ⟨x,rfl,_⟩;refine jg (λσ' h'=>True) (λC hC=> ?_) (λσ' h3 hV=>⟨h3,Sub.refl _,q h3⟩);refine⟨_,rfl,ns,0,rfl,(by decide),λn0=>⟨(by show 1<=sizeLine;decide),λp1 e1=>⟨_,rfl,_,rfl,_,rfl,λp2 e2=>⟨_,_,ji jd e2,jd,?_,λp3 e3=>⟨p3,rfl,?_⟩⟩⟩⟩⟩
 ·have:(UU ns (some 1) (some 6)).length<=ns.length:=by unfold UU;rw [List.length_take,List.length_drop];omega
  rw [G0];exact D5 (jx (by simp only [D3,R8];omega))
 generalize hcs:([D.int n0]++(UU ns (some 1) (some 6)).map D.int)=cs;have hint: ∀d∈cs,∃c,d= .int c:=λd hd=>by
  rw [<-hcs] at hd;rcases P9.mp hd with z|z
  ·exact⟨n0,G2.mp z⟩
  ·obtain⟨x,_,e⟩:=D8.mp z;exact⟨x,e.symm⟩
 refine vX cs (λi σ' h'=> ∃a1 a2 a3 a4 a5 a6,σ'= [some (.scr ns),a1,a2,a3,a4,a5,a6]/\h' p3=some cs) (λi σ' h' ⟨_,_,_,_,_,_,_,k⟩=>k) ⟨_,_,_,_,_,_,rfl,jd⟩ (λσ' h' _=>hC _ _ True.intro) ?_;rintro i d _ h4 hi ⟨b1,b2,b3,b4,b5,b6,rfl,k3⟩;obtain⟨c,rfl⟩:=hint d (G7 hi);have hil:i<cs.length:=(G5.mp hi).1;show PK _ _ _ [some (.scr ns),b1,some (.int c),b3,b4,b5,b6] h4;refine jg (λσ' h'=> ∃p l fl,σ'= [some (.scr ns),b1,some (.int c),some (.lst p),b4,b5,b6]/\h' p=some [.int l,.int fl]/\0<=l/\h' p3=some cs/\p3≠p) (λC hC=> ?_) ?_
 ·refine⟨_,rfl,c,rfl,λp l fl ep l0 _=>hC _ _ ⟨p,l,fl,rfl,jd,l0,ji k3 ep,Ne.symm (jN k3 ep)⟩⟩
 rintro _ h5 ⟨p,l,fl,rfl,kp,l0,k3,n3⟩;refine jg (λσ' h'=> ∃ (n:Nat) (l2:Int),σ'= [some (.scr ns),b1,some (.int c),some (.lst p),some (.int (n:Int)),b5,b6]/\1<=n/\n<=6/\h' p=some [.int l2,.int fl]/\0<=l2/\h' p3=some cs) (λC hC=>⟨_,rfl,p,l,fl,rfl,kp,l0,λn l2 n1 n6 l20=>hC _ _ ⟨n,l2,rfl,n1,n6,jd,l20,jy n3 k3⟩⟩) ?_;clear kp l0 k3;rintro _ h6 ⟨n,l2,rfl,n1,n6,kp,l20,k3⟩;refine jg (λσ' h'=> ∃b5 l2,σ'= [some (.scr ns),b1,some (.int c),some (.lst p),some (.int (n:Int)),b5,b6]/\h' p=some [.int l2,.int fl]/\0<=l2/\h' p3=some cs) (λC hC=> ?_) ?_
 ·refine wI 2 (λi σ' h'=> ∃b5 l2,σ'= [some (.scr ns),b1,some (.int c),some (.lst p),some (.int (n:Int)),b5,b6]/\h' p=some [.int l2,.int fl]/\0<=l2/\h' p3=some cs) (by decide) (λR r=>r) ⟨_,l2,rfl,kp,l20,k3⟩ (λσ' h' z=>hC _ _ z) ?_;clear kp l20 k3;rintro i _ h7 hi ⟨b5',l2,rfl,kp,l20,k3⟩;exact⟨_,rfl,_,rfl,p,l2,fl,n,rfl,kp,l20,n1,n6,λT l3 gT l30=>⟨T,n,20,rfl,gT.sq,n1,n6,by decide,_,rfl,wc ⟨_,Sub.refl _,by omega,_,l3,rfl,jd,l30,jy n3 k3⟩⟩⟩
 clear kp l20 k3;rintro _ h8 ⟨b5',l2,rfl,kp,l20,k3⟩;refine jg (λσ' h'=> ∃dd l2,σ'= [some (.scr ns),b1,some (.int c),some (.lst p),some (.int (n:Int)),b5',some dd]/\okD dd=true/\RV dd=false/\h' p=some [.int l2,.int fl]/\0<=l2/\h' p3=some cs) (λC hC=>⟨_,rfl,p,l2,fl,rfl,kp,l20,λd l3 h' ok bad bt kp2 l30=>hC _ _ ⟨d,l3,rfl,ok,bad,kp2,l30,bt p3 cs n3 k3⟩⟩) ?_;clear kp l20 k3;rintro _ h9 ⟨dd,l2,rfl,okd,badd,kp,l20,k3⟩;exact .inr ⟨_,rfl,dd,rfl,okd,badd,by decide,(by show 1<=sizeLine;decide),Kk ⟨_,rfl,wc ⟨_,Sub.refl _,hil,_,_,_,_,_,_,rfl,k3⟩⟩⟩
end
theorem El {l:PySem.W.OpenLaw}{w:World}{K:PySem.W.Frag}{h:Heap}{mg:Str->Option Value}{fa:Addr}(X:K.In h)(G:h.Ns mainGlobals mg)(hfa:mg "law" =some (.ref fa))
 (d0:DefIn K "is_whole" JQ fu0 eu0)
 (d1:DefIn K "is_table_row" wM fu1 eu1)
 (d2:DefIn K "has_table_form" zP fu2 eu2)
 (d3:DefIn K "want_table" wB fu3 eu3)
 (d4:DefIn K "reaches" Wv fu4 eu4)
 (d5:DefIn K "pieces_by" vF fu5 eu5)
 (d6:DefIn K "pieces" Vd fu6 eu6)
 (d7:DefIn K "joined" Ve fu7 eu7)
 (d8:DefIn K "heads" Xq fu8 eu8)
 (d9:DefIn K "greatest_into" wr fu9 eu9)
 (d10:DefIn K "all_rounds" yH fu10 eu10)
 (d11:DefIn K "beat" RR fu11 eu11)
 (d12:DefIn K "step_after" yI fu12 eu12)
 (d13:DefIn K "keeps_arrows" wN fu13 eu13)
 (d14:DefIn K "all_sets" JR fu14 eu14)
 (d15:DefIn K "shut_sets" yb fu15 eu15)
 (d16:DefIn K "steps_from_start" zu fu16 eu16)
 (d17:DefIn K "turns_of" JU fu17 eu17)
 (d18:DefIn K "why_never" yc fu18 eu18)
 (d19:DefIn K "_law_cell" vH fu19 eu19)
 (d20:DefIn K "_law_pen" JV fu20 eu20)
 (d21:DefIn K "_law_draw" vI fu21 eu21)
 (d22:DefIn K "_law_whole" yL fu22 eu22)
 (d23:DefIn K "_law_kind" vJ fu23 eu23)
 (d24:DefIn K "_law_said" vK fu24 eu24)
 (d25:DefIn K "_law_size" vL fu25 eu25)
 (d26:DefIn K "_law_table" yM fu26 eu26)
 (d27:DefIn K "_law_times" yN fu27 eu27)
 (d28:DefIn K "_law_marked" ye fu28 eu28)
 (d29:DefIn K "_law_filled" yf fu29 eu29)
 (d30:DefIn K "_law_first" yO fu30 eu30)
 (d31:DefIn K "_law_after" yP fu31 eu31)
 (d32:DefIn K "_law_sets" vM fu32 eu32)
 (d33:DefIn K "_law_no_table" wu fu33 eu33)
 (d34:DefIn K "_law_turns" yQ fu34 eu34)
 (d35:DefIn K "_law_true_set" wv fu35 eu35)
 (d36:DefIn K "_law_never" yR fu36 eu36)
 (d37:DefIn K "_law_right" yS fu37 eu37)
 (d38:DefIn K "law" Xr fu38 eu38)
 {tk0:Tok}(v0:PySem.W.nsIn K mainGlobals "MOST_ROWS" =some (some (.int 6 tk0)))
 (z:zsB K=true)
 (ex:Ta K=true)
 (tb0:Fs K "law" =true)
 : ∃fd:FuncData,(∀ (s:Shared) (v:Value),BindsTo s fd ⟨[v],[]⟩ [("_law_script",v)])/\ ∀base:Heap,K.In base->base.Ns mainGlobals mg->Bm mg base->FnOk l.prog w K mg base CX0 11 fa fd ["_law_script"] (LSp K Dc):=by
 have e:=hfa.symm.trans (d38.nm X G);cases e;have vO: ∃tk,mg "MOST_ROWS" =some (.int 6 tk):=⟨_,PySem.W.mg_of X G v0⟩;have Z:=Th X G z;have Ex:Exc K mg:=AC X G ex;have Em:=Ft tb0;obtain⟨_,_,kV,dc,pm,an,cd,ct,_,rfl,_⟩:=d38.fn.ex;refine⟨PySem.W.fnOf "law" "law" (yB Xr) (jL Xr) (jc Xr) .none kV dc pm an cd ct,λs v=> .of_eq rfl,λbase _ _ B=> ?_⟩;have GI:=λn=>d0.cal l w base X G (Xs (n:=n+0) Z d0.fn)
 have WZ:=λn=>d1.cal l w base X G (Wy (n:=n+1) Z d1.fn (GI (n+0)))
 have yr:=λn=>d2.cal l w base X G (JY (n:=n+2) Z d2.fn (WZ (n+0)) vO)
 have yW:=λn=>d3.cal l w base X G (Vj (n:=n+3) Z d3.fn (yr (n+0)))
 have UM:=λn=>d3.rai l w base X G (WT (n:=n+3) Z Ex d3.fn (yr (n+0)))
 have Mf:=λn=>d4.cal l w base X G (Gx (n:=n+0) Z d4.fn)
 have XI:=λn=>d5.cal l w base X G (Uk (n:=n+0) Z d5.fn)
 have NS:=λn=>d6.cal l w base X G (RW (n:=n+4) Z d6.fn (yW (n+0)) (XI (n+3)) (Mf (n+3)))
 have NR:=λn=>d7.cal l w base X G (RX (n:=n+5) Z d7.fn (NS (n+0)))
 have Lb:=λn=>d8.cal l w base X G (NH (n:=n+0) Z d8.fn)
 have WJ:=λn=>d9.cal l w base X G (Zt (n:=n+0) Z d9.fn)
 have UL:=λn=>d10.cal l w base X G (Vk (n:=n+4) Z d10.fn (yW (n+0)) (Lb (n+3)))
 have By:=λn=>d11.cal l w base X G (FU (n:=n+6) Z d11.fn (NR (n+0)) (UL (n+1)) (WJ (n+5)))
 have Zm:=λn=>d12.cal l w base X G (Vl (n:=n+0) Z d12.fn)
 have Ya:=λn=>d13.cal l w base X G (Wz (n:=n+1) Z d13.fn (Zm (n+0)))
 have GH:=λn=>d14.cal l w base X G (Xu (n:=n+0) Z d14.fn)
 have XJ:=λn=>d15.cal l w base X G (Uo (n:=n+4) Z d15.fn (yW (n+0)) (GH (n+3)) (Ya (n+2)))
 have XM:=λn=>d15.rai l w base X G (Vm (n:=n+4) Z Ex d15.fn (UM (n+0)))
 have Jx:=λn=>d16.cal l w base X G (vN (n:=n+1) Z d16.fn (Zm (n+0)))
 have GJ:=λn=>d17.cal l w base X G (Xv (n:=n+7) Z d17.fn (By (n+0)) (Jx (n+5)))
 have XL:=λn=>d18.cal l w base X G (Up (n:=n+8) Z d18.fn (XJ (n+3)) (By (n+1)) (GJ (n+0)))
 have XN:=λn=>d18.rai l w base X G (Vn (n:=n+5) Z Ex d18.fn (XM (n+0)))
 have XF:=λn=>d19.cal l w base X G (Uq (n:=n+0) Z d19.fn)
 have GF:=λn=>d20.cal l w base X G (Xx (n:=n+0) Z d20.fn)
 have vP:=λn=>d21.cal l w base X G (Ur (n:=n+0) Z d21.fn)
 have Zl:=λn=>d22.cal l w base X G (Vo (n:=n+0) Z d22.fn)
 have u_kind: ∀n,DR l.prog w K mg base (n+1) "_law_kind" ["_law_e"] (DV mg):=λn=>⟨_,_,Vp (n:=n) Z Ex d23.fn,d23.fn.binds (ps:= ["_law_e"]) λ_ _ _ _ _ _ us hl=>match us,hl with| [_],_=>rfl,d23.fn.kp,d23.nm X G⟩
 have s_said: ∀n,AD l.prog w K mg base (n+1):=λn=>⟨_,_,FW (n:=n+1) Z Ex d24.fn (u_kind n),d24.fn.binds (ps:= ["_law_call"]) λ_ _ _ _ _ _ us hl=>match us,hl with| [_],_=>rfl,d24.fn.kp,d24.nm X G⟩
 have XH:=λn=>d25.cal l w base X G (Us (n:=n+1) Z d25.fn (vP (n+0)))
 have UI:=λn=>d26.cal l w base X G (Vq (n:=n+1) Z d26.fn (vP (n+0)))
 have UJ:=λn=>d27.cal l w base X G (Vr (n:=n+0) Z d27.fn)
 have Vz:=λn=>d28.cal l w base X G (WU (n:=n+0) Z d28.fn)
 have Vy:=λn=>d29.cal l w base X G (WV (n:=n+0) Z d29.fn)
 have UF:=λn=>d30.cal l w base X G (Vs (n:=n+1) Z d30.fn (Vz (n+0)) (Vy (n+0)) (UJ (n+0)))
 have UE:=λn=>d31.cal l w base X G (Vt (n:=n+0) Z d31.fn)
 have XG:=λn=>d32.cal l w base X G (Ut (n:=n+0) Z d32.fn)
 have WH:=λn=>d33.cal l w base X G (Zu (n:=n+1) Z d33.fn (vP (n+0)))
 have UK:=λn=>d34.cal l w base X G (Vu (n:=n+1) Z d34.fn (Zl (n+0)))
 have WI:=λn=>d35.cal l w base X G (Zv (n:=n+1) Z d35.fn (Zl (n+0)))
 have UG:=λn=>d36.cal l w base X G (Vv (n:=n+2) Z d36.fn (WI (n+0)) (XG (n+1)) (UE (n+1)) (UK (n+0)))
 have UH:=λn=>d37.cal l w base X G (Vw (n:=n+9) Z d37.fn (UF (n+7)) (XL (n+0)) (UG (n+6)))
 exact Ek (n:=8) Z B d38.at_ Em d38.fn (UH 0) (XF 9) (GF 9) (XH 8) (UI 8) (WH 8) (XN 2) (s_said 7)
end My
namespace PySem.W.Fast
def tw13602881129027378339:=()
def tw16875783476695391413:=()
def tw17620160001484857589:=()
def tw15921796948292615678:=()
def tw5792284058539347298:=()
def tw10119331615147798257:=()
def tw2466289419673149680:=()
def tw2524960642163015651:=()
def tw5507330858134837205:=()
def tw15960025429906508329:=()
def tw414000544361825815:=()
def tw4104769972120325360:=()
def tw12174055646895918741:=()
def tw17755949456804606065:=()
def tw17892194299280028848:=()
def tw6724164049911503494:=()
def tw944289257901294623:=()
def tw14264022320127831600:=()
def tw4876152875069248360:=()
def tw4242619860627276758:=()
def tw18217404148522837005:=()
def tw7208840325720105554:=()
def tw7932717714182676285:=()
def tw7356165908666916351:=()
def tw461169173473169079:=()
def tw16190476691250972796:=()
def tw9477085333273480208:=()
def tw787603097641482753:=()
def tw12440377637401834629:=()
def tw1418246772911942153:=()
def tw2197634411090758754:=()
def tw5059060199968125707:=()
def tw16122782210563918019:=()
def tw9942993511936555025:=()
def tw1716054830526883450:=()
def tw4737454164596591269:=()
def tw942117317636598502:=()
def tw6140677483875523568:=()
def tw8779781939323630846:=()
def tw3199833234337753768:=()
def tw14220513293493039408:=()
def tw1634776209816172746:=()
def tw13792804752001741326:=()
def tw2330979633979218858:=()
def tw12713193274717654334:=()
def tw15069447583427563970:=()
def tw18346966604505449915:=()
def tw12355147609268042047:=()
def tw11073913525504164744:=()
def tw9804274524850134953:=()
def tw8670829861479355280:=()
def tw13658000471825581051:=()
def tw5215628203999126361:=()
def tw8725233567262197858:=()
def tw13068423261903930969:=()
def tw11693167903756525050:=()
def tw18132190168834056466:=()
def tw9319962841471585084:=()
def tw17712111295031784576:=()
def tw4541609987940390194:=()
def tw16004575515199438574:=()
def tw9074761943750367047:=()
def tw3292397038964009898:=()
def tw11441899024540715441:=()
def tw3721847360651092622:=()
def tw13507285250820637571:=()
def tw12419692200026662809:=()
def tw17145002231434614433:=()
def tw818217084270217406:=()
def tw11859671739421312912:=()
def tw2935909699022216318:=()
def tw4045549717797462513:=()
def tw311053474758190645:=()
def tw14340726069320429583:=()
def tw11306275194734489170:=()
def tw13255307535238955457:=()
def tw1583437463271094188:=()
def tw11366524976773865301:=()
def tw13437150272770166035:=()
def tw5857977874293978893:=()
def tw4460660871077457317:=()
def tw18313552906425292008:=()
def tw9909125361914615137:=()
def tw2469608368456129377:=()
def tw9900111933285775304:=()
def tw17549496627807134469:=()
def tw9457040048460713694:=()
def tw7723648650695111421:=()
def tw3573515323486557783:=()
def tw6461364881268916103:=()
def tw5247594979157397939:=()
def tw17162660892141794945:=()
def tw3426065689548865679:=()
def tw4282506755883514227:=()
def tw14042410298752994123:=()
def tw8855422394825395918:=()
def tw16231604565199672765:=()
def tw86936067424511456:=()
def tw1310290419713875710:=()
def tw17498929221208729955:=()
def tw14643581184503412782:=()
def tw15235028703946560143:=()
def tw7921300342885067024:=()
def tw15889545743069871191:=()
def tw15256139303340626872:=()
def tw9022003567758659120:=()
def tw16068380043861981200:=()
def tw18280632851227805326:=()
def tw7987073496674131441:=()
def tw11303712372913081759:=()
def tw17677339238031224575:=()
def tw16457665881445635181:=()
def tw2939648855178163440:=()
def tw7104893374286887669:=()
def tw17928476261331361387:=()
def tw12806537118807352784:=()
def tw13872768364592338058:=()
def tw5961366258212814775:=()
def tw560198845986192260:=()
def tw10031797618993244273:=()
def tw3296404969551352219:=()
def tw9123796418257994100:=()
def tw7459481167348365170:=()
def tw16294413345643877298:=()
def tw10991093642953250296:=()
def tw15826881685348390563:=()
def tw5676838297588294153:=()
def tw2645547182857605992:=()
def tw15558730504877401208:=()
def tw4043035642117025621:=()
def tw6860982577950383123:=()
def tw763064550204769956:=()
def tw13430626353492932009:=()
def tw216926796894256766:=()
def tw3065510502533514198:=()
def tw16941001060749088232:=()
def tw10792183378803182488:=()
def tw10660601848027256663:=()
def tw6984177423280138619:=()
def tw14726157837244980548:=()
def tw17066930500669410942:=()
def tw198265484998623703:=()
def tw812124338603740467:=()
def tw15232223152821301004:=()
def tw4280261260433697813:=()
def tw3220387460875127183:=()
def tw8594993893550341310:=()
def tw14309152879696348078:=()
def tw222678856349916963:=()
def tw10309875624193663939:=()
def tw782765163608172426:=()
def tw9094066033779886444:=()
def tw11248712258440341531:=()
def tw15298744414137382999:=()
def tw9489232612639242704:=()
def tw11010631677041490938:=()
def tw2378470041041372021:=()
def tw1307156348808883232:=()
def tw14610519543286506949:=()
def tw8895093470348114084:=()
def tw913606439777894546:=()
def tw309814660787860946:=()
def tw15971830429895402095:=()
def tw11887279738091066831:=()
def tw16005823313270502886:=()
def tw151201873024692094:=()
def tw7298153795239768725:=()
def tw17073782243673654456:=()
def tw3224908051410257280:=()
def tw13841875655397252664:=()
def tw7973344717972730183:=()
def tw14694766832028064508:=()
def tw9446474045605036814:=()
def tw1971610278370042839:=()
def tw14587062634065614222:=()
def tw16685186514484780521:=()
def tw10097536666235066644:=()
def tw630402024960990457:=()
def tw6856527536090868167:=()
def tw13400548012438482265:=()
def tw14634179701438887828:=()
def tw5912426593604209439:=()
def tw2977827560769541603:=()
def tw3567326567389034499:=()
def tw2208771420105102436:=()
def tw16241779842085583881:=()
def tw12240173345768338989:=()
def tw9685220221428293833:=()
def tw6916513140179518185:=()
def tw16674387626979449920:=()
def tw1556135970115755345:=()
def tw6695146089083035661:=()
def tw13215955903920309354:=()
def tw4734670959921878680:=()
def tw15225396736203100101:=()
def tw17589895002509804299:=()
def tw3237988784305059929:=()
def tw16680393422272614545:=()
def tw15041065476358563438:=()
def tw3872784852683591461:=()
def tw4579230250796491492:=()
def tw1838953818952806624:=()
def tw10194936209271123936:=()
def tw15232048094579205345:=()
def tw4481197876464350176:=()
end PySem.W.Fast
open PySem PySem.W PyProof.Rows
set_option maxRecDepth 100000 in
set_option maxHeartbeats 0 in
theorem PySem.Challenge.cw_firstpowers_k35_why_never_holds : PySem.Challenge.rw_firstpowers_k35_why_never.Holds := by
  w_on; o_law; k_head; (case hw => w_witness2)
  k_fill
  refine L2.MJ (l := PySem.Challenge.rw_firstpowers_k35_why_never) (k := 11) (x := "_law_script") rfl rfl ⟨rfl, by decide, by decide, rfl⟩ (fun w h Y => PySem.W.km_in_of Y) ?B ?F
  case B => intro w; kernel_rfl
  case F =>
    intro w mg fa h KX G hmg
    refine' My.El KX G hmg ?d0 ?d1 ?d2 ?d3 ?d4 ?d5 ?d6 ?d7 ?d8 ?d9 ?d10 ?d11 ?d12 ?d13 ?d14 ?d15 ?d16 ?d17 ?d18 ?d19 ?d20 ?d21 ?d22 ?d23 ?d24 ?d25 ?d26 ?d27 ?d28 ?d29 ?d30 ?d31 ?d32 ?d33 ?d34 ?d35 ?d36 ?d37 ?d38 ?v0 ?z ?ex ?tb0
    case d0 | d1 | d2 | d3 | d4 | d5 | d6 | d7 | d8 | d9 | d10 | d11 | d12 | d13 | d14 | d15 | d16 | d17 | d18 | d19 | d20 | d21 | d22 | d23 | d24 | d25 | d26 | d27 | d28 | d29 | d30 | d31 | d32 | d33 | d34 | d35 | d36 | d37 | d38 => refine' L2.AZ ?a ?l ?c ?k; (case a => k_is); (case l => k_is); (case c => k_is); (case k => k_is)
    case v0 => k_is
    case z | ex | tb0 => kernel_rfl
